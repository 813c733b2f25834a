import PyProof.Rows.All
import PyProof.FactsAll.NoneType_1
import Wide.All
import OpenK.AllK
import Wide.FinOn
import Lean
import PyProof.EqAt
import PyProof.EqKinds
import PyProof.TupleCall
import PyProof.StrWalks
import PyProof.StrLawsRepr
import PyProof.ListMulRoad
import PyProof.StrOps2
import PyProof.CallStr
import PyProof.CollectStr
import PyProof.TupleOfSeq
import PyProof.DictTable
import KE.KSortTup
import PyProof.MeetsStr
import PyProof.FactsAll.str_5
import PyProof.StrBlockG
import PyProof.AttrMiss
import PyProof.FactsAll.zip_1
import KE.KDictOf
import PyProof.AttrMissHeap
import KE.KTryMore
import KE.KRevIter
import PyProof.ListRange
import PyProof.FactsAll.dict_3
import PyProof.MeetsDict
import PyProof.FactsAll.dict_keyiterator
import PyProof.DictItems
import PyProof.DictValues
import KE.KPairComp
import PyProof.TupleOfStr
import PyProof.TupleOfGen
import PyProof.DictWalks
import PyProof.ListNew
import PyProof.ExcInit
import PyProof.InstStore
import PySem.Challenge.RW_pivotfold_k07_columns_that_arent_there
set_option genInjectivity false
set_option genSizeOf false
set_option Elab.async false
set_option linter.all false
set_option maxRecDepth 100000
noncomputable section
namespace L2
open PySem PySem.Spec PyProof.Rows PySem.W
noncomputable abbrev bmV:List Value:=[.type "ValueError",.type "Exception",.type "BaseException",.type "object"]
def Wn (K:PySem.W.Frag)(C:Addr):Bool:=match K.lookup C with
 | some ⟨.type "type",_,.cls cd,sl⟩=>cd.hasDict&&!cd.hasDel&&(match cd.mro with
  | .ref A::bm=>A==C&&tailIn K bmV bm
  | _=>false)&&(match sl.toList with
  | [_,_,_,_,some (.builtin n),_]=>n == "ValueError.__new__"
  | _=>false)
 | _=>false
noncomputable def noI (K:PySem.W.Frag) (C:Addr):Bool:=match K.lookup C with
 | some o=>(match o.data with
  | .cls cd=>nsOkIn K cd.ns&&nsIn K cd.ns "__init__" == some none
  | _=>false)
 | none=>false
def exP (K:PySem.W.Frag)(C:Addr):Bool:=Wn K C&&noI K C
def xcB (K:Frag)(C:Addr):Bool:=Wn K C&&(findIn K (.ref C) "__getattribute__" == some (some (.builtin "BaseException.__getattribute__"))&&(findIn K (.ref C) "__getattr__" == some none&&findIn K (.ref C) "__class__" == some (some (.builtin "object.__class__"))))
noncomputable def clB (K:Frag) (x:Str) (p:Addr->Bool):Bool:=match nsIn K mainGlobals x with
 | some (some (.ref C))=>p C
 | _=>false
def tbB (K:Frag)(z:Value)(tbl:List (Str×Bool)):Bool:=tbl.all λp=>clB K p.1 λC=>xcB K C&&kitOne K (.ref C) z==some p.2
def exB (K:Frag)(F:Addr)(NS:List Str):Bool:=NS.all λx=>clB K x λC=>exmOne K (.ref C) (.ref F)==some true
noncomputable def Bx8 (o:Obj):Bool:=match o.data with
 | .cls _=>true
 | .dict _ _=>true
 | _=>false
def Bh3 (l:List Nat)(h:Heap):Frag:=l.filterMap λa=>((h.get? a).bind λo=>if Bx8 o=true then some o else none).map λo=>(a,o)
def cfB (R:List Str)(T:List (Str×List (Str×Bool)))(V:List (Str×Bool))(F:List Str)(K:Frag):Bool :=
 (R.all λx=>clB K x λC=>exP K C)&&((T.all λq=>clB K q.1 λC=>tbB K (.ref C) q.2)&&(tbB K (.type "ValueError") V&&F.all λx=>clB K x λC=>exB K C R))
noncomputable def isNm (x:Str):Expr->Bool
 | .Name y _=>y==x
 | _=>false
def isAt (x f:Str):Expr->Bool
 | .Attribute e g _=>isNm x e&&g==f
 | _=>false
noncomputable def A7w (x:Str):Expr->Bool
 | .Constant c _ _=>c==.str x
 | _=>false
def Bc3 (x:Str):Expr->Bool
 | .FormattedValue e c none _=>isNm x e&&c==114
 | _=>false
def A6e (x y z:Str):Expr->Bool
 | .JoinedStr [a,b] _=>A7w y a&&Bc3 x b
 | .JoinedStr [a,b,c] _=>A7w y a&&Bc3 x b&&A7w z c
 | _=>false
noncomputable def stE:Stmt->Option (Expr×List Expr)
 | .Expr (.Call (.Attribute g m q) as [] p) _=>if (m == "__init__" && q.endLine==p.line)=true then some (g,as) else none
 | _=>none
noncomputable def stA:Stmt->Option (Expr×Expr)
 | .Assign [g] v _=>some (g,v)
 | _=>none
def Bo3 (F p f y z:Str):List Stmt->Bool
 | [s,u]=>(match stE s with
  | some (g,[a,j])=>isNm F g&&(isNm "self" a&&A6e p y z j)
  | _=>false)&&(match stA u with
  | some (g,v)=>isAt "self" f g&&isNm p v
  | _=>false)
 | _=>false
noncomputable def Br1 (p:Str):Arguments->Bool
 | ⟨[],[a,b],none,[],[],none,[]⟩=>a.arg == "self" && b.arg==p
 | _=>false
structure Jv where
 q:Str
 F:Str
 p:Str
 f:Str
 y:Str
 z:Str
noncomputable def B2m (D:Jv) (sc:Scope):Bool:=decide (sc.kind=.function)&&(!sc.isCoroutine&&(!sc.isGenerator&&(sc.names.lookup ("self" : Str)==some .local&&(sc.names.lookup D.p==some .local&&(sc.names.lookup D.F==some .globalImplicit&&sc.names.all λy=>y.2 != .free)))))
def fnB (K:Frag)(D:Jv)(fd:FuncData):Bool:=fd.qualname==D.q&&(fd.globals==mainGlobals&&(fd.closure.isEmpty&&(fd.builtins==builtinsNs&&(fd.defaults==.none&&(codeIn K fd.code D.q&&(Br1 D.p fd.params&&(B2m D fd.scope&&(match fd.body with
 | .stmts b=>Bo3 D.F D.p D.f D.y D.z b
 | _=>false))))))))
def Xe (K:Frag)(D:Jv)(a:Addr):Bool:=match K.lookup a with
 | some ⟨.type "function",_,.func fd,_⟩=>fnB K D fd
 | _=>false
noncomputable def Al9 (D:Jv):Bool:=decide (D.y.length<=1000)&&(decide (D.z.length<=1000)&&(D.p != "self" && ((D.p==("__debug__" : Str))==false&&((D.p==("__classdict__" : Str))==false&&(D.F==("__debug__" : Str))==false))))
def ikB (K:Frag)(C F:Addr)(f:Str):Bool:=Wn K C&&(findIn K (.ref C) "__setattr__" == some (some (.builtin "object.__setattr__"))&&(findIn K (.ref C) f==some none&&(typeIn K (.ref F)==some (.type "type")&&(nsIn K cStatics "thirdparty.any" == some none&&findIn K (.ref F) "__init__" == some (some (.builtin "ValueError.__init__"))))))
def ciB (K:Frag)(x:Str)(D:Jv):Bool:=Al9 D&&clB K x λC=>clB K D.F λF=>xcB K C&&ikB K C F D.f&&(match findIn K (.ref C) "__init__" with
 | some (some (.ref a))=>Xe K D a
 | _=>false)
def exN (K:Frag)(F:Addr)(NS:List Str):Bool:=NS.all λx=>clB K x λC=>exmOne K (.ref C) (.ref F)==some false
noncomputable def Bt4 (o:Obj):Bool:=match o.data with
 | .cell _=>false
 | .fields vs=>vs.size != 0
 | _=>true
def Bd5 (l:List Nat)(h:Heap):Frag:=l.filterMap λa=>((h.get? a).bind λo=>if Bt4 o=true then some o else none).map λo=>(a,o)
def ciA (J:List (Str×Jv))(Y:List (Str×List Str×List Str))(K:Frag):Bool:=(J.all λq=>ciB K q.1 q.2)&&Y.all λq=>clB K q.1 λF=>exB K F q.2.1&&exN K F q.2.2
end L2
namespace K
open PySem PySem.W PyProof.Rows
noncomputable def xcR:List Str:=[]
noncomputable def xcT:List (Str×List (Str×Bool)):=[("BadColumns",[("NoColumn",false)]),("BadOrder",[("NoColumn",false)]),("BadRow",[("NoColumn",false)]),("BadWay",[("NoColumn",false)]),("Double",[("NoColumn",false)]),("NoColumn",[("NoColumn",true)]),("NoHead",[("NoColumn",false)]),("NoNumber",[("NoColumn",false)]),("NoPart",[("NoColumn",false)]),("NoRow",[("NoColumn",false)])]
noncomputable def xcV:List (Str×Bool):=[("NoColumn",true)]
noncomputable def xcF:List Str:=[]
noncomputable def xcJ:List (Str×L2.Jv):=[("NoColumn",⟨"NoColumn.__init__", "FoldError", "name", "name", "no column ", ""⟩)]
noncomputable def xcY:List (Str×List Str×List Str):=[("FoldError",["NoColumn"],[])]
abbrev pwT:=PySem.Challenge.pw_pivotfold_k07_columns_that_arent_there
abbrev rwT:=PySem.Challenge.rw_pivotfold_k07_columns_that_arent_there
noncomputable def B2l:Stmt->Bool
 | .Assign [.Name n _] _ _=>!(["__name__"]:List Str).contains n
 | _=>true
def qT:Program:={ pwT with main:={ pwT.main with body:=pwT.main.body.filter B2l } }
abbrev xtT:Shared->Bool:=λs=>xlAt qT [] s&&recOk (RowW.records rwT.row.toRowW) s&&L2.cfB xcR xcT xcV xcF (L2.Bh3 [3,128,127,24,23,37,49,166,61,147,97,73,85,109] s.heap)&&L2.ciA xcJ xcY (L2.Bd5 [2,3,128,127,24,23,125,124] s.heap)
set_option maxHeartbeats 0 in
theorem B2o:LeftO rwT.row.prog qT [] xtT Hook.none.obs Hook.none.val 20000:=λw=>by kernel_rfl
end K
namespace L2
open PySem PySem.Spec PyProof.Rows
abbrev Key:=Sum Int Str
noncomputable def Px:Key->Value->Bool
 | .inl k,v=>Value.isInt k v
 | .inr x,v=>Value.isStrOf x v
noncomputable def By1 (w:World):Key->Int
 | .inl k=>hashInt k
 | .inr x=>hashStr w x
theorem Ef:∀{k:Key}{v:Value},Px k v=true->(∃i t,k=Sum.inl i/\v=Value.int i t)\/(∃x t,k=Sum.inr x/\v=Value.str x t)
 | .inl i,v,h=>by
  obtain⟨t,e⟩:=Value.isInt_shape (k:=i) (v:=v) h;exact .inl ⟨i,t,rfl,e⟩
 | .inr x,v,h=>by
  obtain⟨t,e⟩:=Value.isStrOf_shape (x:=x) (v:=v) h;exact .inr ⟨x,t,rfl,e⟩
theorem Yi (i:Int)(t:Tok):Px (.inl i) (.int i t)=true:=by simp[Px,Value.isInt]
theorem Xd (x:Str)(t:Tok):Px (.inr x) (.str x t)=true:=by simp[Px,Value.isStrOf]
theorem Bm9 (a b:Int):decide ((Sum.inl a:Key)=Sum.inl b)=(a==b):=by
 grind
theorem Br9 (a b:Str):decide ((Sum.inr a:Key)=Sum.inr b)=decide (a=b):=by
 grind
theorem Bu2 (a:Int)(b:Str):decide ((Sum.inl a:Key)=Sum.inr b)=false:=decide_eq_false λq=>nomatch q
theorem Bs0 (a:Str)(b:Int):decide ((Sum.inr a:Key)=Sum.inl b)=false:=decide_eq_false λq=>nomatch q
def Ff (prog:Program)(w:World):PySem.KeyKind prog w Key where
 is:=Px
 hash:=By1 w
 inj:=λv a b ha hb=>by
  rcases Ef ha with ⟨i,t,rfl,rfl⟩ | ⟨x,t,rfl,rfl⟩
  ·rcases Ef hb with ⟨j,u,rfl,e⟩ | ⟨y,u,rfl,e⟩
   ·injection e with e1 _;rw[e1]
   ·exact nomatch e
  ·rcases Ef hb with ⟨j,u,rfl,e⟩ | ⟨y,u,rfl,e⟩
   ·exact nomatch e
   ·injection e with e1 _;rw[e1]
 byValue:=λk v h=>by
  rcases Ef h with ⟨i,t,rfl,rfl⟩ | ⟨x,t,rfl,rfl⟩ <;> rfl
 pyHash:=λhv h=>by
  rcases Ef hv with ⟨i,t,rfl,rfl⟩ | ⟨x,t,rfl,rfl⟩
  ·exact wpAny_pyHash_int h
  ·exact wpAny_pyHash_str h
 eqBool:=λhu hv h=>by
  rcases Ef hu with ⟨i,t,rfl,rfl⟩ | ⟨x,t,rfl,rfl⟩
  ·rcases Ef hv with ⟨j,u,rfl,rfl⟩ | ⟨y,u,rfl,rfl⟩
   ·rw[Bm9]at h;exact wpAny_eqBool_int h
   ·rw[Bu2]at h;exact SeqAt.EqAt.int_str i t y u _ _ _ _ h
  ·rcases Ef hv with ⟨j,u,rfl,rfl⟩ | ⟨y,u,rfl,rfl⟩
   ·rw[Bs0]at h;exact SeqAt.EqAt.str_int x t j u _ _ _ _ h
   ·rw[Br9]at h;exact wpAny_eqBool_str h
 «strs»:=λk x t v h=>by
  rcases Ef h with ⟨i,u,rfl,e⟩ | ⟨y,u,rfl,e⟩
  ·exact nomatch e
  ·injection e with e1 _
   subst e1
   cases v <;> rfl
theorem Te (prog:Program)(w:World)(i:Int)(t:Tok):(Ff prog w).is (.inl i) (.int i t)=true:=Yi i t
theorem S5 (prog:Program)(w:World)(x:Str)(t:Tok):(Ff prog w).is (.inr x) (.str x t)=true:=Xd x t
noncomputable instance B3j:DecidableEq PyData:=λa b=>Classical.propDecidable (a=b)
mutual
noncomputable def keyB:PyData->Bool
 | .none=>true
 | .int _=>true
 | .str _=>true
 | .tuple ds=>Gq ds
 | _=>false
noncomputable def Gq:List PyData->Bool
 | []=>true
 | d::ds=>keyB d&&Gq ds
end
mutual
theorem Pr:∀(x y:PyData),keyB x=true->keyB y=true->(PyData.eqv x y=true↔x=y)
 | .none,y,_,hy=>by cases y <;> simp_all [PyData.eqv,keyB]
 | .int _,y,_,hy=>by cases y <;> simp_all [PyData.eqv,keyB]
 | .str _,y,_,hy=>by cases y <;> simp_all [PyData.eqv,keyB]
 | .tuple xs,.tuple ys,hx,hy=>by
  have:=Ak2 xs ys hx hy
  show PyData.eqvAll xs ys=true↔_
  rw[this]
  exact⟨λe=>by rw[e],λe=>by cases e;rfl⟩
 | .tuple xs,.none,hx,hy=>⟨(λe=>nomatch e),λe=>nomatch e⟩
 | .tuple xs,.int _,hx,hy=>⟨(λe=>nomatch e),λe=>nomatch e⟩
 | .tuple xs,.str _,hx,hy=>⟨(λe=>nomatch e),λe=>nomatch e⟩
theorem Ak2:∀(xs ys:List PyData),Gq xs=true->Gq ys=true->(PyData.eqvAll xs ys=true↔xs=ys)
 | [],[],_,_=>⟨λ_=>rfl,λ_=>rfl⟩
 | [],_::_,_,_=>⟨(λe=>nomatch e),λe=>nomatch e⟩
 | _::_,[],_,_=>⟨(λe=>nomatch e),λe=>nomatch e⟩
 | x::xs,y::ys,hx,hy=>by
  obtain⟨a,b⟩:=Bool.and_eq_true_iff.mp (show (keyB x&&Gq xs)=true from hx)
  obtain⟨c,d⟩:=Bool.and_eq_true_iff.mp (show (keyB y&&Gq ys)=true from hy)
  show (PyData.eqv x y&&PyData.eqvAll xs ys)=true↔_
  rw[Bool.and_eq_true_iff,Pr x y a c,Ak2 xs ys b d,List.cons.injEq]
end
mutual
theorem Ud {h h':Heap}{d:Addr}{o:Obj}{es:Array DictEntry}{ep:Nat}(ho:h.get? d=some o)(hd:o.data=.dict es ep)(hs:Heap.SameBut d h h'):∀(k:PyData),keyB k=true->∀(v:Value) (as:List Addr),Reads h v k as->Reads h' v k as
 | .none,_,_,_,r=>by cases r;exact .none
 | .int i,_,_,_,r=>by cases r;exact .int _ _
 | .str x,_,_,_,r=>by cases r;exact .str _ _
 | .tuple ds,hk,_,_,r=>by
  cases r with
  | @tuple a o' vs n xs as h1 h2 h3 h4 =>
   refine .tuple ((hs.2 a ?_).trans h1) h2 h3 (Sv ho hd hs ds hk _ _ h4)
   intro e;rw[e,ho]at h1;cases h1;rw[hd]at h3;cases h3
theorem Sv {h h':Heap}{d:Addr}{o:Obj}{es:Array DictEntry}{ep:Nat}(ho:h.get? d=some o)(hd:o.data=.dict es ep)(hs:Heap.SameBut d h h'):∀(ks:List PyData),Gq ks=true->∀(vs:List Value) (as:List Addr),ReadsAll h vs ks as->ReadsAll h' vs ks as
 | [],_,_,_,r=>by cases r;exact .nil
 | k::ks,hk,_,_,r=>by
  obtain⟨a,b⟩:=Bool.and_eq_true_iff.mp (show (keyB k&&Gq ks)=true from hk)
  cases r with
  | cons r1 r2=>exact .cons (Ud ho hd hs k a _ _ r1) (Sv ho hd hs ks b _ _ r2)
end
mutual
def Aj5 (w:World):PyData->Int
 | .none=>hashInt 0xFCA86420
 | .int i=>By1 w (.inl i)
 | .str x=>By1 w (.inr x)
 | .tuple ds=>reduceHash (Builtin.Tuple.tupleHashOf (K4 w ds))
 | _=>0
def K4 (w:World):List PyData->List Int
 | []=>[]
 | d::ds=>Aj5 w d::K4 w ds
end
mutual
noncomputable def Vk:PyData->Nat
 | .tuple ds=>Mj ds+1
 | _=>1
noncomputable def Mj:List PyData->Nat
 | []=>0
 | d::ds=>Vk d+Mj ds
end
section
variable {prog:Program}{w:World}
theorem Xu (h:Q (hashInt 0xFCA86420) { s with toks:=s.toks+1 }):wpAny (model prog w) A (pyHash .none) Q E s:=by
 have a:s.TypeIs Value.none "NoneType" := rfl;unfold pyHash
 first | unfold pyHashByItsType | skip
 have b:[Value.none].any Value.onHeap=false:=rfl
 refine wpAny_bind ?_
 rw[cRoomFor,if_neg (by rw[b];exact Bool.false_ne_true)];refine wpAny_pure ?_
 refine wpAny_bind (wpAny_specialOf a F.slot_NoneType_hash.lookup ?_)
 show wpAny _ _ (if (some (Value.builtin "NoneType.__hash__")==some Value.none)=true then _ else _) Q E s
 rw[if_neg (by rw[beq_builtin_none];exact Bool.false_ne_true)]
 refine wpAny_bind (wpAny_specialOf a F.slot_NoneType_hash.lookup ?_)
 show wpAny _ _ (callSpecialIfBoundUnlessNone? .none "__hash__" _ >>= _) Q E s
 refine wpAny_bind (wpAny_callSpecialIfBoundUnlessNone?_slot a F.slot_NoneType_hash
  (wpAny_call_entry F.slot_NoneType_hash a F.entry_NoneType_hash
   (show wpAny _ _ (do ret (<- mkInt _)) _ _ s from wpAny_ret_mkInt ?_) (F.args_NoneType_hash_1 _)))
 exact wpAny_pure h
theorem A1w:∀(n:Nat) (d:PyData),d.depth<=n->keyB d=true->∀(A:Around) (E:Value->Shared->Prop) (s:Shared) (v:Value) (y:List Addr) (Q:Int->Shared->Prop),A.units+n<cLine->Reads s.heap v d y ->
 Q (Aj5 w d) { s with toks:=s.toks+Vk d }->wpAny (model prog w) A (pyHash v) Q E s:=by
 intro n
 induction n with
 | zero =>
  intro d M j A E s v y Q C r h
  cases r with
  | none=>exact Xu h
  | int i t=>exact(Ff prog w).pyHash (k:=.inl i) (v:=.int i t) (Te prog w i t) h
  | str x t=>exact(Ff prog w).pyHash (k:=.inr x) (v:=.str x t) (S5 prog w x t) h
  | tuple=>exact absurd M (by simp[PyData.depth])
  | bool b=>cases j
  | list=>cases j
  | dict=>cases j
 | succ n Y =>
  intro d M j A E s v y Q C r h
  cases r with
  | none=>exact Xu h
  | int i t=>exact(Ff prog w).pyHash (k:=.inl i) (v:=.int i t) (Te prog w i t) h
  | str x t=>exact(Ff prog w).pyHash (k:=.inr x) (v:=.str x t) (S5 prog w x t) h
  | bool b=>cases j
  | list=>cases j
  | dict=>cases j
  | @tuple a o N n' g y R hc J U =>
   have G:s.TypeIs (.ref a) "tuple" := ⟨o,R,hc⟩
   have H:PyData.depthAll g<=n:=Nat.le_of_succ_le_succ (show PyData.depthAll g+1<=n+1 from M)
   have I:Gq g=true:=j;unfold pyHash
   first | unfold pyHashByItsType | skip
   first | refine wpAny_bind (wpAny_cRoomFor_or (.inr (Nat.lt_of_le_of_lt (Nat.le_add_right _ _) C)) ?_) | skip
   refine wpAny_bind (wpAny_specialOf G F.slot_tuple_hash.lookup ?_)
   show wpAny _ _ (if (some (Value.builtin "tuple.__hash__")==some Value.none)=true then _ else _) Q E s
   rw[if_neg (by rw[beq_builtin_none];exact Bool.false_ne_true)]
   refine wpAny_bind (wpAny_specialOf G F.slot_tuple_hash.lookup ?_)
   show wpAny _ _ (callSpecialIfBoundUnlessNone? (.ref a) "__hash__" _ >>= _) Q E s
   refine wpAny_bind (wpAny_callSpecialIfBoundUnlessNone?_slot G F.slot_tuple_hash (wpAny_call_entry F.slot_tuple_hash G F.entry_tuple_hash ?_ (F.args_tuple_hash_1 _)))
   show wpAny _ _ (Builtin.Tuple.tupleItemsOf (.ref a) >>= _) _ _ s
   refine wpAny_bind (wpAny_tupleItemsOf R J ?_)
   refine wpAny_bind ?_
   rw[<- Array.forIn_toList]
   refine wpAny_forIn_list _
    (λm (b:Array Int) O=>∃c e K,K4 w g=c++K4 w e/\ReadsAll s.heap m e K/\Gq e=true/\PyData.depthAll e<=n/\b.toList=c/\∃k,k+Mj e=Mj g/\O={ s with toks:=s.toks+k })
    _ ?_ ?_ _ _ ⟨[],g,_,rfl,U,I,H,rfl,0,Nat.zero_add _,rfl⟩
   ·rintro x m b O ⟨c,e,K,z,L,q,p,B,k,D,rfl⟩
    cases L with
    | @cons _ _ l f V W X u =>
     obtain⟨Z,S⟩:=Bool.and_eq_true_iff.mp (show (keyB l&&Gq f)=true from q)
     have P:l.depth<=n/\PyData.depthAll f<=n:=by
      have:max l.depth (PyData.depthAll f)<=n:=p;omega
     refine wpAny_bind (Y l P.1 Z _ _ _ _ _ _ (by first | exact Nat.lt_of_le_of_lt (by simp;omega) C | (have:=C;simp at *;omega)) X ?_)
     first
      | exact wpAny_pure ⟨c++[Aj5 w l],f,_,by rw[z];simp[K4],u,S,P.2,by simp[B],k+Vk l,by rw[<- D];simp[Mj,Nat.add_assoc],by simp[Nat.add_assoc]⟩
      | exact wpAny_bind (wpAny_pure (wpAny_pure ⟨c++[Aj5 w l],f,_,by rw[z];simp[K4],u,S,P.2,by simp[B],k+Vk l,by rw[<- D];simp[Mj,Nat.add_assoc],by simp[Nat.add_assoc]⟩))
   ·rintro b O ⟨c,e,K,z,L,q,p,B,k,D,rfl⟩
    cases L
    have e2:K4 w g=c:=by rw[z];simp[K4]
    have T:k=Mj g:=D
    have h:Q (reduceHash (Builtin.Tuple.tupleHashOf (K4 w g))) { s with toks:=s.toks+(Mj g+1) }:=h
    rw[e2]at h;subst T
    show wpAny _ _ (retInt (Builtin.Tuple.tupleHashOf b.toList)) _ _ _
    rw[B]
    refine wpAny_ret_mkInt ?_
    show wpAny _ _ (if (decide (-(2:Int) ^ 63<=Builtin.Tuple.tupleHashOf c)&&decide (Builtin.Tuple.tupleHashOf c<2 ^ 63))=true then _ else _) Q E _
    unfold reduceHash at h
    by_cases hr:(decide (-(2:Int) ^ 63<=Builtin.Tuple.tupleHashOf c)&&decide (Builtin.Tuple.tupleHashOf c<2 ^ 63))=true
    ·rw[if_pos hr]
     rw[if_pos hr]at h
     exact wpAny_pure (by simpa[Nat.add_assoc] using h)
    ·rw[if_neg hr]
     rw[if_neg hr]at h
     exact wpAny_bind (wpAny_rule (wpAny_pure (by simpa[Nat.add_assoc] using h)))
theorem Aq7:∀(m:Nat) (d:PyData),d.depth<=m->keyB d=true->∀(A:Around) (E:Value->Shared->Prop) (s:Shared) (v:Value) (j:List Addr) (Q:Bool->Shared->Prop),Reads s.heap v d j->Q true s->wpAny (model prog w) A (eqIsQuiet (m+1) v) Q E s:=by
 intro m
 induction m with
 | zero =>
  intro d q f A E s v j Q r h
  cases r with
  | none=>rw[eqIsQuiet_byValue _ rfl];exact wpAny_pure h
  | int i t=>rw[eqIsQuiet_byValue _ rfl];exact wpAny_pure h
  | str x t=>rw[eqIsQuiet_byValue _ rfl];exact wpAny_pure h
  | tuple=>exact absurd q (by simp[PyData.depth])
  | bool b=>cases f
  | list=>cases f
  | dict=>cases f
 | succ n O =>
  intro d q f A E s v j Q r h
  cases r with
  | none=>rw[eqIsQuiet_byValue _ rfl];exact wpAny_pure h
  | int i t=>rw[eqIsQuiet_byValue _ rfl];exact wpAny_pure h
  | str x t=>rw[eqIsQuiet_byValue _ rfl];exact wpAny_pure h
  | bool b=>cases f
  | list=>cases f
  | dict=>cases f
  | @tuple a o y n' M j G L l U =>
   have D:s.TypeIs (.ref a) _:=⟨o,G,L⟩
   have p := Nat.le_of_succ_le_succ (show PyData.depthAll _+1<=n+1 from q)
   unfold eqIsQuiet
   refine wpAny_bind (wpAny_specialOf D F.slot_tuple_eq.lookup ?_)
   refine wpAny_bind (wpAny_isInstance D isSubtype_tuple_tuple ?_)
   refine wpAny_bind (wpAny_seqItems G l ?_)
   refine wpAny_bind ?_
   rw[<- Array.forIn_toList]
   refine wpAny_forIn_list _ (λe r u=>r.1=none/\u=s/\∃c H,ReadsAll _ e c H/\Gq c=true/\PyData.depthAll c<=n) _ ?_ ?_ _ _ ⟨rfl,rfl,M,_,U,f,p⟩
   ·rintro v e r u ⟨C,rfl,c,H,J,k,z⟩
    cases J with
    | @cons _ _ N g P R K B =>
     obtain⟨S,T⟩:=Bool.and_eq_true_iff.mp (show (keyB _&&Gq _)=true from k)
     have I:N.depth<=n/\PyData.depthAll g<=n:=by
      have:max _ _<=n:=z;omega
     refine wpAny_bind (O _ I.1 S _ _ _ _ _ _ K ?_)
     exact wpAny_pure ⟨rfl,rfl,g,_,B,T,I.2⟩
   ·rintro⟨r1,r2⟩ u ⟨C,rfl,_⟩
    subst C;exact wpAny_pure h
def Bm5 (h:Heap)(k:PyData)(a:Addr):Prop:=(keyB k=true/\k.canLay0=true/\k.depth<=7)/\∃as,Reads h (.ref a) k as
def Eu (prog:Program)(w:World):HeapKind prog w PyData where
 is:=Bm5
 hash:=Aj5 w
 draws:=Vk
 room:=λA=>A.units+8<cLine
 inj:=λhx hy=>let ⟨⟨_,l,_⟩,_,r⟩:=hx;let ⟨_,_,r'⟩:=hy; SeqAt.Reads.unique _ _ _ _ _ l r r'
 keeps:=λx ho hd hs=>let ⟨c,_,r⟩:=x; ⟨c,_,Ud ho hd hs _ c.1 _ _ r⟩
 pyHash:=λhu hk h=>let ⟨c,_,r⟩:=hk; A1w 7 _ c.2.2 c.1 _ _ _ _ _ _ (Nat.lt_of_le_of_lt (Nat.add_le_add_left (by decide) _) hu) r h
 eqBool:=λ{A E s x y a b Q} hu hx hy h=>by
  obtain⟨c,_,r⟩:=hx;obtain⟨d,_,r'⟩:=hy
  refine SeqAt.eqAt_reads x y A s _ _ _ _ r r' c.2.1 d.2.1 (Nat.lt_of_le_of_lt (Nat.add_le_add_left (Nat.le_trans (Nat.min_le_left _ _) (Nat.le_trans c.2.2 (by decide))) _) hu) prog w E Q ?_
  have e:PyData.eqv x y=decide (x=y):=by
   have:=Pr x y c.1 d.1
   by_cases z:x=y
   ·rw[decide_eq_true z];exact this.mpr z
   ·rw[decide_eq_false z]
    cases q:PyData.eqv x y with
    | false=>rfl
    | true=>exact absurd (this.mp q) z
  rw[e];exact h
 quiet:=λhk h=>let ⟨c,_,r⟩:=hk; Aq7 7 _ c.2.2 c.1 _ _ _ _ _ _ r h
end
inductive V where
 | non | bl (b:Bool) | int (i:Int) | str (x:Str) | byt (b:Array UInt8) | flt (b:UInt64) | ref (a:Addr) | ty (n:String)
 deriving DecidableEq
@[simp] theorem V.bl.injEq (a b:Bool):(V.bl a=V.bl b)=(a=b):=propext ⟨λh=>by cases h;rfl,λh=>by rw[h]⟩
@[simp] theorem V.int.injEq (a b:Int):(V.int a=V.int b)=(a=b):=propext ⟨λh=>by cases h;rfl,λh=>by rw[h]⟩
@[simp] theorem V.str.injEq (a b:Str):(V.str a=V.str b)=(a=b):=propext ⟨λh=>by cases h;rfl,λh=>by rw[h]⟩
@[simp] theorem V.byt.injEq (a b:Array UInt8):(V.byt a=V.byt b)=(a=b):=propext ⟨λh=>by cases h;rfl,λh=>by rw[h]⟩
@[simp] theorem V.ref.injEq (a b:Addr):(V.ref a=V.ref b)=(a=b):=propext ⟨λh=>by cases h;rfl,λh=>by rw[h]⟩
def RelV:V->Value->Prop
 | .non,u=>u=Value.none
 | .bl b,u=>u=Value.bool b
 | .int i,u=>∃t,u=Value.int i t
 | .str x,u=>∃t,u=Value.str x t
 | .byt b,u=>∃t,u=Value.bytes b t
 | .flt b,u=>∃t,u=Value.float b t
 | .ref a,u=>u=Value.ref a
 | .ty n,u=>u=Value.type n
abbrev Vals:List V->List Value->Prop:=Paired RelV
theorem Vals.length (r:Vals xs us):xs.length=us.length:=Paired.length r
theorem Vals.get:∀{xs:List V}{us:List Value}{i:Nat}{x:V},Vals xs us->xs[i]?=some x->∃u,us[i]?=some u/\RelV x u
 | _,_,_,_,.nil,e=>by simp at e
 | _,_,0,_,.cons r _,e=>by simp at e;subst e;exact⟨_,rfl,r⟩
 | _,_,i+1,x,.cons _ t,e=>by
  obtain⟨u,h1,h2⟩:=Vals.get (i:=i) (x:=x) t (by simpa using e)
  exact⟨u,by simpa using h1,h2⟩
theorem Vals.set {x:V}{u:Value}(r:RelV x u):∀{xs:List V}{us:List Value}(i:Nat),Vals xs us->Vals (xs.set i x) (us.set i u)
 | _,_,_,.nil=>.nil
 | _,_,0,.cons _ t=>.cons r t
 | _,_,i+1,.cons q t=>.cons q (Vals.set r i t)
theorem Vals.append:∀{xs ys:List V}{us ws:List Value},Vals xs us->Vals ys ws->Vals (xs++ys) (us++ws)
 | _,_,_,_,.nil,s=>s
 | _,_,_,_,.cons r t,s=>.cons r (Vals.append t s)
theorem Vals.take:∀{xs:List V}{us:List Value}(n:Nat),Vals xs us->Vals (xs.take n) (us.take n)
 | _,_,0,_=>.nil
 | _,_,_+1,.nil=>.nil
 | _,_,n+1,.cons r t=>.cons r (Vals.take n t)
theorem Vals.drop:∀{xs:List V}{us:List Value}(n:Nat),Vals xs us->Vals (xs.drop n) (us.drop n)
 | _,_,0,r=>r
 | _,_,_+1,.nil=>.nil
 | _,_,n+1,.cons _ t=>Vals.drop n t
def Bq9:Option V->Option Value->Prop
 | some v,some u=>RelV v u
 | none,none=>True
 | _,_=>False
def KV {κ:Type}:List (κ×V)->List (κ×Value)->Prop:=Paired λ(p:κ×V) (q:κ×Value)=>p.1=q.1/\RelV p.2 q.2
noncomputable def kV:Key->V
 | .inl i=>.int i
 | .inr x=>.str x
inductive HO where
 | lst (xs:List V)
 | tup (xs:List V)
 | dK (kvs:List (Key×V)) | dT (kvs:List (PyData×V))
 | set (S:Int->Bool) (n:Nat)
 | ins (C dx:Addr) (fs:List (Str×V))
 | own (x:Addr)
 | xd (fs:List (Str×V))
 | met (f x:Addr)
 | rng (lo hi:Int)
 | frz (o:Obj) (u:HO)
 | tbl (q:Str)
 | ext (φ:Heap->Prop)
abbrev Hp:=Addr->Option HO
noncomputable def upd (H:Hp) (a:Addr) (o:HO):Hp:=λb=>if b=a then some o else H b
theorem Ax : upd H a o a=some o:=by unfold upd;simp_all
theorem Ag (h:b≠a):upd H a o b=H b:=by unfold upd;simp_all
theorem Bf5 {H:Hp}{a:Addr}{o u:HO}:upd (upd H a o) a u=upd H a u:=by
 funext b;unfold upd;split <;> rfl
theorem Bj4 {H:Hp} (h:H a=some o) (h':H b=some u) (d:o≠u):a≠b:=by
 grind
theorem Bd {H:Hp} (h:H a=some o) (h':H b=none):a≠b:=by
 grind
mutual
def KTr (H:Hp):PyData->V->Prop
 | .none,v=>v=.non
 | .int i,v=>v=.int i
 | .str x,v=>v=.str x
 | .tuple ds,v=>∃a vs,v=.ref a/\H a=some (.tup vs)/\KTrL H ds vs
 | _,_=>False
def KTrL (H:Hp):List PyData->List V->Prop
 | [],vs=>vs=[]
 | d::ds,vs=>∃v r,vs=v::r/\KTr H d v/\KTrL H ds r
end
mutual
theorem KTr.stay {H H':Hp}(ht:∀b xs,H b=some (.tup xs)->H' b=some (.tup xs)):∀{d:PyData}{v:V},KTr H d v->KTr H' d v
 | .none,_,h=>h
 | .int _,_,h=>h
 | .str _,_,h=>h
 | .tuple _,_,⟨a,vs,e,ha,t⟩=>⟨a,vs,e,ht _ _ ha,KTrL.stay ht t⟩
theorem KTrL.stay {H H':Hp}(ht:∀b xs,H b=some (.tup xs)->H' b=some (.tup xs)):∀{ds:List PyData}{vs:List V},KTrL H ds vs->KTrL H' ds vs
 | [],_,h=>h
 | _::_,_,⟨v,r,e,h,t⟩=>⟨v,r,e,KTr.stay ht h,KTrL.stay ht t⟩
end
def Bk6 (k:PyData):Prop:=keyB k=true/\k.canLay0=true/\k.depth<=7
def KAt (H:Hp)(k:PyData)(a:Addr):Prop:=Bk6 k/\KTr H k (.ref a)
theorem KAt.stay (ht:∀b xs,H b=some (.tup xs)->H' b=some (.tup xs)) (h:KAt H k a):KAt H' k a:=⟨h.1,KTr.stay ht h.2⟩
def zQ (h:Heap)(a:Addr)(items:Array Value):Prop:=∃o,h.get? a=some o/\o.cls=.type "tuple" /\ (∃n,o.data=.seq items n)/\o.dict=none
theorem zQ.tup (x:zQ h a items):IsTup h a items:=let ⟨o,h1,h2,h3,_⟩:=x; ⟨o,h1,h2,h3⟩
theorem zQ.lt (x:zQ h a items):a<h.objs.size:=x.tup.lt
theorem zQ.new (h:Heap)(items:Array Value):zQ (h.push { cls:=.type "tuple",data:=.seq items }) h.objs.size items:=⟨_,Heap.get?_push_size _ rfl,rfl,⟨_,rfl⟩,rfl⟩
section
variable (P:Program)(w:World)
def z9 (H:Hp)(h:Heap)(a:Addr):HO->Prop
 | .lst xs=>xs.length<=sizeLine/\∃(its:List Value) (n:Nat),Vals xs its/\h.get? a=some { cls:=.type "list",data:=.seq its.toArray n }
 | .tup xs=>xs.length<=sizeLine/\∃its:List Value,Vals xs its/\zQ h a its.toArray
 | .dK kvs=>kvs.length<=sizeLine/\(a==sysModules)=false/\∃vs,KV kvs vs/\h.DictOf (Ff P w) a vs
 | .dT kvs=>kvs.length<=sizeLine/\(a==sysModules)=false/\∃xs:List (PyData×Addr×Value),
  Paired (λ(p:PyData×V) (q:PyData×Addr×Value)=>p.1=q.1/\KAt H p.1 q.2.1/\RelV p.2 q.2.2) kvs xs /\
  ∃o es ep,h.get? a=some o/\o.ExactDict/\o.data=.dict es ep/\es.toList=xs.map (entryOfKey (Eu P w))/\(xs.map (·.1)).Nodup
 | .set S n=>h.SetOf (intKind P w) a S n
 | .ins C dx fs=>H dx=some (.own a)/\fs.length<=1000/\dx≠a/\h.get? a=some (PySem.W.instObj C dx) /\
  ∃mA,h.Ns1 dx mA/\(∀f,Bq9 (fs.lookup f) (mA f))/\PySem.Within mA (fs.map (·.1))
 | .own _=>∃o,h.get? a=some o
 | .xd fs=>∃mA,h.Ns1 a mA/\∀f,Bq9 (fs.lookup f) (mA f)
 | .rng lo hi=>∃t u v,h.get? a=some { cls:=.type "range",data:=.fields #[.int lo t,.int hi u,.int 1 v] }
 | .frz o u=>h.get? a=some o/\z9 H h a u
 | .tbl q=>∃ps:Array Value,h.get? a=some { cls:=.none,data:=.fields ps }/\TriplesOk ps.toList/\∀pos cv,codeAmong pos ps.toList=some cv->∃c o vs t,cv=.ref c/\H c=some (.frz o (.own 0))/\o.data=.fields vs/\vs[1]?=some (.str q t)
 | .met f x=>h.get? a=some (PySem.W.methodObj (.ref f) (.ref x))
 | .ext φ=>φ h/\(∃o,h.get? a=some o)/\∀h1 h2:Heap,φ h1->(∀o,h1.get? a=some o->h2.get? a=some o)->φ h2
def HOk (H:Hp)(h:Heap):Prop:=∀a o,H a=some o->z9 P w H h a o
end
section
variable {P:Program}{w:World}{H H':Hp}{h h':Heap}{a:Addr}{o:HO}
theorem z9.lt (x:z9 P w H h a o):a<h.objs.size:=by
 cases o with
 | lst d=>obtain⟨_,_,_,_,e⟩:=x;exact Heap.lt_size e
 | tup d=>obtain⟨_,_,_,p⟩:=x;exact p.lt
 | dK b=>obtain⟨_,_,_,_,o,_,_,e,_⟩:=x;exact Heap.lt_size e
 | dT b=>obtain⟨_,_,_,_,o,_,_,e,_⟩:=x;exact Heap.lt_size e
 | set S n=>obtain⟨o,_,_,_,e,_⟩:=x;exact Heap.lt_size e
 | ins C g c=>obtain⟨_,_,_,e,_⟩:=x;exact Heap.lt_size e
 | own y=>obtain⟨_,e⟩:=x;exact Heap.lt_size e
 | xd c=>obtain⟨_,⟨_,_,_,e,_⟩,_⟩:=x;exact Heap.lt_size e
 | rng j k=>obtain⟨_,_,_,e⟩:=x;exact Heap.lt_size e
 | frz l u=>obtain⟨e,_⟩:=x;exact Heap.lt_size e
 | tbl q=>obtain⟨_,e,_⟩:=x;exact Heap.lt_size e
 | met f y=>exact Heap.lt_size (x)
 | ext i=>obtain⟨_,⟨_,e⟩,_⟩:=x;exact Heap.lt_size e
theorem Paired.mapP {α β:Type}{F G:α->β->Prop}:∀{l₁:List α}{l₂:List β},Paired F l₁ l₂->(∀a b,F a b->G a b)->Paired G l₁ l₂
 | _,_,.nil,_=>.nil
 | _,_,.cons r t,f=>.cons (f _ _ r) (Paired.mapP t f)
theorem z9.stay (x:z9 P w H h a o)(k:∀b u,(b=a\/H b=some (.own a))->h.get? b=some u->h'.get? b=some u)
 (ho:∀b,H b=some (.own a)->H' b=some (.own a)) (ht:∀b m,H b=some (.tup m)->H' b=some (.tup m)) (hz:∀b o u,H b=some (.frz o u)->H' b=some (.frz o u):=by exact λ_ _ _ q=>q):z9 P w H' h' a o:=by
 induction o with
 | lst m=>obtain⟨z,l,n,r,e⟩:=x;exact⟨z,l,n,r,k _ _ (.inl rfl) e⟩
 | tup m=>obtain⟨z,l,r,g,e,c⟩:=x;exact⟨z,l,r,g,k _ _ (.inl rfl) e,c⟩
 | dK A=>obtain⟨z,y,D,r,g,i,j,e,c⟩:=x;exact⟨z,y,D,r,g,i,j,k _ _ (.inl rfl) e,c⟩
 | dT A =>
  obtain⟨z,y,m,r,g,i,j,e,c⟩:=x
  exact⟨z,y,m,Paired.mapP r λp q z=>⟨z.1,z.2.1.stay ht,z.2.2⟩,g,i,j,k _ _ (.inl rfl) e,c⟩
 | set S n=>obtain⟨g,i,j,t,e,c⟩:=x;exact⟨g,i,j,t,k _ _ (.inl rfl) e,c⟩
 | ins C M J =>
  obtain⟨d,z,G,e,s,⟨B,i,j,E,c⟩,r⟩:=x;exact⟨ho _ d,z,G,k _ _ (.inl rfl) e,s,⟨B,i,j,k _ _ (.inr d) E,c⟩,r⟩
 | own y=>obtain⟨g,e⟩:=x;exact⟨g,k _ _ (.inl rfl) e⟩
 | xd J=>obtain⟨s,⟨B,i,j,e,c⟩,r⟩:=x;exact⟨s,⟨B,i,j,k _ _ (.inl rfl) e,c⟩,r⟩
 | rng O N=>obtain⟨t,u,v,e⟩:=x;exact⟨t,u,v,k _ _ (.inl rfl) e⟩
 | frz g u K=>obtain⟨e,q⟩:=x;exact⟨k _ _ (.inl rfl) e,K q⟩
 | tbl q =>
  obtain⟨I,e,t,f⟩:=x
  exact⟨I,k a _ (.inl rfl) e,t,λL Q z=>let ⟨c,g,D,tk,e1,E,e3⟩:=f _ _ z; ⟨c,g,D,tk,e1,hz _ _ _ E,e3⟩⟩
 | met f y =>
  have e:h.get? a=some _:=x
  show h'.get? a=some _
  grind
 | ext R=>obtain⟨p,⟨o,e⟩,F⟩:=x;exact⟨F _ _ p λo q=>k _ _ (.inl rfl) q,⟨o,k _ _ (.inl rfl) e⟩,F⟩
theorem HOk.lt (x:HOk P w H h)(e:H a=some o):a<h.objs.size:=(x a o e).lt
theorem HOk.fresh (x:HOk P w H h)(e:h.objs.size<=a):H a=none:=by
 cases q:H a with
 | none=>rfl
 | some u=>exact absurd (Nat.lt_of_lt_of_le (x.lt q) e) (Nat.lt_irrefl _)
theorem HOk.kept (x:HOk P w H h)(k:∀b u,h.get? b=some u->h'.get? b=some u):HOk P w H h':=λa o e =>
 (x a o e).stay (λb u _ q=>k b u q) (λ_ q=>q) λ_ _ q=>q
theorem HOk.laid (x:HOk P w H h)(k:∀b u,h.get? b=some u->h'.get? b=some u)(hp:h.objs.size<=a)(f:z9 P w (upd H a o) h' a o):HOk P w (upd H a o) h':=λb u e=>by
 have d:=x.fresh hp
 by_cases hb:b=a
 ·subst hb;rw[Ax]at e;simp_all
 ·rw[Ag hb]at e
  exact(x b u e).stay (λc v _ q=>k c v q) λc q=>by rw[Ag (Bd q d)];grind λc g q=>by rw[Ag (Bd q d)];grind λc i g q=>by rw[Ag (Bd q d)];grind
end
def Rd (H:Hp)(a:Addr)(u:HO):Prop:=H a=some u\/∃o,H a=some (.frz o u)
theorem Rd.ok (r:Rd H a u) (x:HOk P w H h):z9 P w H h a u:=by
 rcases r with r | ⟨o,r⟩
 ·exact x a u r
 ·obtain⟨_,q⟩:=x a _ r
  omega
def Mut:Option HO->Prop
 | some (.lst _)=>True
 | some (.dK _)=>True
 | some (.dT _)=>True
 | some (.set _ _)=>True
 | some (.ins _ _ _)=>True
 | some (.ext _)=>True
 | _=>False
section
variable {P:Program}{w:World}{H:Hp}{h h':Heap}{x e:Addr}{o':HO}
theorem HOk.write (s:HOk P w H h)(f:Mut (H x))(he:e=x\/H e=some (.own x))(k:∀b u,b≠e->h.get? b=some u->h'.get? b=some u)(m:∃u,h'.get? e=some u)
 (l:z9 P w (upd H x o') h' x o'):HOk P w (upd H x o') h':=λb u q=>by
 have a:∀c y,H c=some (.own y)->c≠x:=λc y r z=>by subst z;rw[r]at f;exact f
 have i:∀c d,H c=some (.tup d)->c≠x:=λc d r z=>by subst z;rw[r]at f;exact f
 have g:∀c n d,H c=some (.frz n d)->c≠x:=λc n d r z=>by subst z;rw[r]at f;exact f
 by_cases hb:b=x
 ·subst hb;rw[Ax]at q;cases q;exact l
 ·rw[Ag hb]at q
  by_cases hbe:b=e
  ·have o:H b=some (.own x):=by
    simp_all
   rw[q]at o;cases o;obtain⟨v,p⟩:=m
   exact⟨v,by rw[hbe];exact p⟩
  ·refine (s b u q).stay (λc v j r=>k c v ?_ r) (λc r=>by rw[Ag (a c b r)];exact r) (λc d r=>by rw[Ag (i c _ r)];exact r) λc n d r=>by rw[Ag (g c _ _ r)];exact r
   rcases j with rfl | j
   ·exact hbe
   ·rintro rfl
    rcases he with z | z
    ·exact a c b j z
    ·rw[j]at z;cases z;exact hb rfl
end
structure Un (fs ex:List Addr) (H H':Hp) (h h':Heap):Prop where
 keep:∀b o,h.get? b=some o->H b=none->b∉fs->b∉ex->h'.get? b=some o
 slot:∀b o,h.get? b=some o->H b=none->b∈fs->b∉ex->∃sl,h'.get? b=some { o with slots:=sl }
 free:∀b o,h.get? b=some o->H b=none->b∉ex->H' b=none
 there:∀b o,h.get? b=some o->b∉ex->∃o',h'.get? b=some o'
 tups:∀b xs,H b=some (.tup xs)->H' b=some (.tup xs)
 frzs:∀b o u,H b=some (.frz o u)->H' b=some (.frz o u)
 tbls:∀b q,H b=some (.tbl q)->H' b=some (.tbl q)
section
variable {fs ex:List Addr}{H H1:Hp}{h h1 h':Heap}{a x e:Addr}{o:HO}
theorem Un.any (u:Un fs ex H H1 h h1) (q:h.get? b=some ob) (n:H b=none) (hx:b∉ex):∃sl,h1.get? b=some { ob with slots:=sl }:=by
 by_cases hb:b∈fs
 ·exact u.slot b _ q n hb hx
 ·exact⟨ob.slots,u.keep b _ q n hb hx⟩
theorem Un.kept (k:∀b u,h.get? b=some u->h'.get? b=some u):Un fs ex H H h h' :=
 ⟨λb a q _ _ _=>k b _ q,λb a q _ _ _=>⟨a.slots,k b a q⟩,λ_ _ _ n _=>n,λb a q _=>⟨a,k b _ q⟩,λ_ _ q=>q,λ_ _ _ q=>q,λ_ _ q=>q⟩
theorem Un.refl:Un fs ex H H h h:=Un.kept λ_ _ q=>q
theorem Un.laid (k:∀b u,h.get? b=some u->h'.get? b=some u)(hp:h.objs.size<=a)(hn:H a=none):Un fs ex H (upd H a o) h h' where
 keep:=λb u q _ _ _=>k b u q
 slot:=λb u q _ _ _=>⟨u.slots,k b u q⟩
 free:=λb u q n _=>by rw[Ag (Nat.ne_of_lt (Nat.lt_of_lt_of_le (Heap.lt_size q) hp))];exact n
 there:=λb u q _=>⟨u,k b u q⟩
 tups:=λb xs q=>by rw[Ag (Bd q hn)];exact q
 frzs:=λb u xs q=>by rw[Ag (Bd q hn)];exact q
 tbls:=λb ps q=>by rw[Ag (Bd q hn)];exact q
theorem Un.write (d:Mut (H x))(he:e=x\/H e=some (.own x))(k:∀b u,b≠e->h.get? b=some u->h'.get? b=some u)(f:∃u,h'.get? e=some u):Un fs ex H (upd H x o) h h':=by
 have i:∀b,H b=none->b≠x:=λb n z=>by subst z;rw[n]at d;exact d
 have c:∀b,H b=none->b≠e:=λb n z=>by
  grind
 have a:∀b u,H b=some u->¬ Mut (some u)->b≠x:=λb u q l z=>by simp_all
 refine⟨λb u q n _ _=>k b u (c b n) q,λb u q n _ _=>⟨u.slots,k b u (c b n) q⟩,λb u q n _=>by rw[Ag (i b n)];grind,λb u q _=>?_,
  λb g q=>by rw[Ag (a b _ q λz=>z)];grind,λb u g q=>by rw[Ag (a b _ q λz=>z)];grind,λb j q=>by rw[Ag (a b _ q λz=>z)];grind⟩
 grind
end
noncomputable def trk (h:Heap) (H:Hp):List Addr:=(List.range h.objs.size).filter λa=>(H a).isSome
def Wk (h:Heap)(H:Hp):Heap:=PySem.W.hideAll h (trk h H)
theorem A2g (h:Heap)(H:Hp):(Wk h H).objs.size=h.objs.size:=PySem.W.hideAll_size _ _
theorem A6w (e:h.get? b=some o) (n:H b=none):(Wk h H).get? b=some o :=
 PySem.W.hideAll_get _ e λa=>by
  have q := (List.mem_filter.mp a).2
  grind
theorem A9n (e:(Wk h H).get? b=some o):h.get? b=some o/\H b=none:=by
 have a := PySem.W.of_hideAll _ e
 refine⟨a,?_⟩
 cases q:H b with
 | none=>rfl
 | some x =>
  have c:b∈trk h H:=List.mem_filter.mpr ⟨List.mem_range.mpr (Heap.lt_size a),by grind⟩
  have z:(Wk h H).get? b=none:=PySem.W.hideAll_none _ c
  simp_all
noncomputable def Bi6 (g h:Heap) (L:Addr):List (Addr×Obj):=(List.range h.objs.size).filterMap λa=>if a=L\/(g.get? a).isSome=true then none else (h.get? a).map λo=>(a,o)
def rest (g h:Heap)(L d:Addr):List (Addr×Obj):=(Bi6 g h L).filter λp=>decide (p.1≠d)
noncomputable def Ar3 (T:Addr) (q:Str):Obj:={ cls:=.str q 0,data:=.cell (some (.ref T)) }
noncomputable def Vi (o:Obj):Option (Addr×Str):=match o.data with
 | .cell (some (.ref T))=>(match o.cls with
  | .str q _=>some (T,q)
  | _=>none)
 | _=>none
def Dv (K:PySem.W.Frag):List (Addr×Str):=K.filterMap λp=>Vi p.2
structure Mod (K:PySem.W.Frag) (mg:Str->Option Value) (base:Heap):Prop where
 kin:K.In base
 glob:base.Ns mainGlobals mg
 blt:∃mb,base.Ns builtinsNs mb/\∀x:Str,x ≠ "__name__" -> mb x=bootBuiltins x
 nolimit:base.NoLimit
 bmod:∃bm o,mg "__builtins__" = some (.ref bm)/\bm≠builtinsNs/\bm≠mainGlobals/\base.get? bm=some o/\o.cls=.type "module" /\ o.dict=some builtinsNs/\o.data=.plain
structure Cx where
 prog:Program
 w:World
 K:PySem.W.Frag
 mg:Str->Option Value
 base:Heap
 A:Around
 N:List Str
 s₀:Shared
 H₀:Hp
 env:Env
 outer:List Env
 stack:List Env
 ex:List Addr
 fn:Str->Bool
 calm:Bool
 pn:List (Addr×Obj)
 xe:Value->Shared->Prop
noncomputable def frs (l:List Env):List Addr:=l.filterMap (·.frame)
abbrev Cx.fs (X:Cx):List Addr:=frs X.outer
def Vis (sc:Scope)(x:Str):Prop:=sc.names.lookup x=some .local\/sc.names.lookup x=some .cell\/sc.names.lookup x=some .free
def Loc (sc:Scope)(x:Str):Prop:=sc.names.lookup x=some .local\/sc.names.lookup x=some .cell
def Look (env:Env)(h:Heap)(m:Str->Option Value)(x:Str)(u:Value):Prop :=
 (env.kindOf x=some .local/\m x=some u)\/((env.kindOf x=some .cell\/env.kindOf x=some .free)/\∃c,env.cells.lookup x=some c/\h.IsCell c (some u))
structure Cx.Ok (X:Cx):Prop where
 mod:Mod X.K X.mg X.base
 kind:X.env.scope.kind=.function
 glob:X.env.globals=mainGlobals
 blt:X.env.builtins=builtinsNs
 above:X.s₀.heap.objs.size<=X.env.locals
 inj:∀x y c,X.env.cells.lookup x=some c->X.env.cells.lookup y=some c->x=y
 has:∀x,(X.env.kindOf x=some .cell\/X.env.kindOf x=some .free)->∃c,X.env.cells.lookup x=some c
 cab:∀x c,X.fn x=true->X.env.cells.lookup x=some c->X.s₀.heap.objs.size<=c
 hd:X.calm=true->X.A.handled=none
 frames:X.A.frames=some X.stack
 stk:X.stack=X.outer\/(X.stack=X.env::X.outer/\X.env.frame=some X.env.locals)
 exf:∀b∈X.ex,b≠X.env.locals/\∀x c,X.env.cells.lookup x=some c->c≠b
 bs:∀b o,X.base.get? b=some o->X.s₀.heap.get? b=some o/\X.H₀ b=none
 bsz:X.base.objs.size<=X.s₀.heap.objs.size
 noex:∀b o,X.base.get? b=some o->b∉X.ex
 exfs:∀b∈X.ex,b∉X.fs
 funs:X.s₀.heap.FunFrames X.base X.outer
 frf:∀b∈X.fs,X.H₀ b=none
 tab:∀p∈Dv X.K,X.H₀ p.1=some (.tbl p.2)
structure Inv (X:Cx) (pins:List (Addr×Obj)) (σ:List (Option V)) (H:Hp) (s:Shared):Prop where
 ok:X.Ok
 os:s.os=X.s₀.os
 bare:AllBare s.gens
 base:Un X.fs X.ex X.H₀ H X.s₀.heap s.heap
 loc:∃m,s.heap.Ns X.env.locals m/\∀(i:Nat) (x:Str) (v:V),X.N[i]?=some x->σ[i]?=some (some v)->Vis X.env.scope x->∃u,RelV v u/\Look X.env s.heap m x u
 cell:∀x c,X.env.cells.lookup x=some c->∃v,s.heap.IsCell c v
 free:H X.env.locals=none
 freeC:∀x c,X.env.cells.lookup x=some c->H c=none
 pin:∀p∈X.pn++pins,s.heap.get? p.1=some p.2/\H p.1=none/\p.1≠X.env.locals/\p.1∉X.fs/\∀v,p.2.data≠.cell v
 hok:HOk X.prog X.w H s.heap
 len:σ.length=X.N.length
section
variable {X:Cx}{pins:List (Addr×Obj)}{σ:List (Option V)}{H H':Hp}{s:Shared}{h':Heap}
theorem Cx.Ok.nofr (c:X.Ok) (e:X.base.get? b=some o):b∉X.fs:=λa=>by
 have:=(c.funs.mem a).1
 simp_all
theorem Inv.bs (I:Inv X pins σ H s):∀b o,X.base.get? b=some o->s.heap.get? b=some o/\H b=none:=λb o e =>
 ⟨I.base.keep b o (I.ok.bs b o e).1 (I.ok.bs b o e).2 (I.ok.nofr e) (I.ok.noex b o e),I.base.free b o (I.ok.bs b o e).1 (I.ok.bs b o e).2 (I.ok.noex b o e)⟩
theorem Inv.bk (I:Inv X pins σ H s):∀b o,X.base.get? b=some o->s.heap.get? b=some o:=λb o e=>(I.bs b o e).1
theorem Inv.mod (I:Inv X pins σ H s):Mod X.K X.mg X.base:=I.ok.mod
theorem Inv.kIn (I:Inv X pins σ H s):X.K.In s.heap:=I.ok.mod.kin.keeps I.bk
theorem Inv.nolimit (I:Inv X pins σ H s):s.heap.NoLimit:=I.ok.mod.nolimit.keeps I.bk
theorem Inv.fr (I:Inv X pins σ H s):∃m,Fr X.base X.env.locals s.heap m :=
 let ⟨m,hn,_⟩:=I.loc
 ⟨m,hn,I.bk,Nat.le_trans I.ok.bsz I.ok.above⟩
theorem Inv.lt (I:Inv X pins σ H s):X.env.locals<s.heap.objs.size:=let ⟨_,hn,_⟩:=I.loc;hn.lt
theorem Inv.sz (I:Inv X pins σ H s):X.s₀.heap.objs.size<=s.heap.objs.size:=Nat.le_trans I.ok.above (Nat.le_of_lt I.lt)
theorem Inv.nofs (I:Inv X pins σ H s) (h:s.heap.objs.size<=a):a∉X.fs:=λc=>by
 obtain⟨_,o,b,_⟩:=I.ok.funs.mem c;exact absurd (Nat.lt_of_lt_of_le (Heap.lt_size b) (Nat.le_trans I.sz h)) (Nat.lt_irrefl _)
theorem Inv.cne (I:Inv X pins σ H s):∀x c,X.env.cells.lookup x=some c->c≠X.env.locals:=λx c e z=>by
 obtain⟨v,o,d,i⟩:=I.cell x c e;obtain⟨m,⟨f,g,h,a,b,_⟩,_⟩:=I.loc
 simp_all
theorem Inv.funs (I:Inv X pins σ H s):s.heap.FunFrames X.base X.outer:=by
 have d:∀(l:List _),(∀b∈frs l,b∈X.fs)->X.s₀.heap.FunFrames X.base l->s.heap.FunFrames X.base l:=by
  intro l
  induction l with
  | nil=>intro _ _;trivial
  | cons h r j =>
   intro g q;obtain⟨i,⟨L,o,f,k,m,n⟩,p⟩:=q
   have c := g L (by unfold frs;simp_all)
   obtain⟨t,e⟩:=I.base.slot L o m (I.ok.frf L c) c λz=>I.ok.exfs L z c
   exact⟨i,⟨L,_,f,k,e,n⟩,j (λb a=>g b (by unfold frs;rw[List.filterMap_cons,f];exact List.mem_cons_of_mem _ a)) p⟩
 exact d _ (λ_ a=>a) I.ok.funs
theorem Inv.stack (I:Inv X pins σ H s):s.heap.FunFrames X.base X.stack:=by
 rcases I.ok.stk with e | ⟨e,b⟩
 ·rw[e];exact I.funs
 ·rw[e]
  obtain⟨m,a,_⟩:=I.loc
  refine .cons (by rw[I.ok.kind];decide) b a ?_ I.funs
  exact Heap.get?_none_of_le (Nat.le_trans I.ok.bsz I.ok.above)
theorem Inv.stkSub (I:Inv X pins σ H s):∀b∈frs X.stack,b∈X.env.locals::X.fs:=λb a=>by
 rcases I.ok.stk with e | ⟨e,c⟩
 ·simp_all
 ·rw[e]at a
  unfold frs at a;rw[List.filterMap_cons,c]at a;exact a
theorem Inv.stkFree (I:Inv X pins σ H s):∀b∈frs X.stack,H b=none:=λb a=>by
 rcases List.mem_cons.mp (I.stkSub b a) with e | a
 ·rw[e];exact I.free
 ·obtain⟨_,o,c,_⟩:=I.ok.funs.mem a
  exact I.base.free b o c (I.ok.frf b a) λz=>I.ok.exfs b z a
theorem Inv.step {ch:List Addr}(I:Inv X pins σ H s)
 (j:∀b∈ch,(b∈X.ex\/X.s₀.heap.objs.size<=b)/\b≠X.env.locals/\(∀x c,X.env.cells.lookup x=some c->c≠b)/\∀p∈X.pn++pins,p.1≠b)
 (t:∀b o,b≠X.env.locals->b∉X.fs->b∉ch->s.heap.get? b=some o->H b=none->h'.get? b=some o)
 (slot:∀b o,b≠X.env.locals->b∈X.fs->b∉ch->s.heap.get? b=some o->H b=none->∃L,h'.get? b=some { o with slots:=L }) (f:∀b o,b∉ch->s.heap.get? b=some o->H b=none->H' b=none)
 (w:∀b o,b∉ch->s.heap.get? b=some o->∃O,h'.get? b=some O)
 (D:∀b J,H b=some (.tup J)->H' b=some (.tup J)) (F:∀b o u,H b=some (.frz o u)->H' b=some (.frz o u)) (C:∀b q,H b=some (.tbl q)->H' b=some (.tbl q))
 (ns:∀m,s.heap.Ns X.env.locals m->h'.Ns X.env.locals m) (N:HOk X.prog X.w H' h') (hg:AllBare g') :
 Inv X pins σ H' { s with heap:=h',gens:=g',drawn:=d',toks:=t' }:=by
 have G:∀b o,X.s₀.heap.get? b=some o->b≠X.env.locals:=λb o e=>Nat.ne_of_lt (Nat.lt_of_lt_of_le (Heap.lt_size e) I.ok.above)
 have h:∀b o,X.s₀.heap.get? b=some o->b∉X.ex->b∉ch:=λb o e a A=>by
  rcases (j b A).1 with z | z
  ·exact a z
  ·exact absurd (Nat.lt_of_lt_of_le (Heap.lt_size e) z) (Nat.lt_irrefl _)
 have g:∀x c,X.env.cells.lookup x=some c->∀v,s.heap.IsCell c v->h'.IsCell c v:=λx c e v ⟨o,B,K⟩=>by
  have E:c∉ch:=λz=>(j c z).2.2.1 x c e rfl
  by_cases hc:c∈X.fs
  ·obtain⟨L,q⟩:=slot c o (I.cne x c e) hc E B (I.freeC x c e)
   exact⟨_,q,K⟩
  ·exact⟨o,t c o (I.cne x c e) hc E B (I.freeC x c e),K⟩
 refine⟨I.ok,I.os,hg,⟨λb o e n A a=>?_,λb o e n A a=>?_,λb o e n a=>?_,λb o e a=>?_,λb J e=>D b _ (I.base.tups b _ e),λb o J e=>F b o _ (I.base.frzs b o _ e),λb V e=>?_⟩,?_,λx c e=>?_,?_,λx c e=>?_,λp Q=>?_,N,I.len⟩
 ·exact t b o (G b o e) A (h b o e a) (I.base.keep b o e n A a) (I.base.free b o e n a)
 ·obtain⟨L,y⟩:=I.base.slot b o e n A a
  obtain⟨P,M⟩:=slot b _ (G b o e) A (h b o e a) y (I.base.free b o e n a);exact⟨P,M⟩
 ·obtain⟨O,y⟩:=I.base.there b o e a
  exact f b _ (h b o e a) y (I.base.free b o e n a)
 ·obtain⟨O,y⟩:=I.base.there b o e a
  exact w b _ (h b o e a) y
 ·exact C b _ (I.base.tbls b _ e)
 ·obtain⟨m,R,S⟩:=I.loc
  refine⟨m,ns m R,λi x v y M T=>?_⟩
  obtain⟨u,r,l⟩:=S i x v y M T
  refine⟨u,r,?_⟩
  rcases l with l | ⟨k,c,e,z⟩
  ·exact .inl l
  ·exact .inr ⟨k,c,e,g x c e _ z⟩
 ·obtain⟨v,z⟩:=I.cell x c e
  exact⟨v,g x c e v z⟩
 ·obtain⟨m,⟨o,_,_,B,_⟩,_⟩:=I.loc
  exact f _ o (λz=>(j _ z).2.1 rfl) B I.free
 ·obtain⟨v,o,B,K⟩:=I.cell x c e
  exact f c o (λz=>(j c z).2.2.1 x c e rfl) B (I.freeC x c e)
 ·obtain⟨e,n,W,U,d⟩:=I.pin p Q
  grind
theorem Inv.un (I:Inv X pins σ H s) (u:Un X.fs [] H H' s.heap h') (g:HOk X.prog X.w H' h'):Inv X pins σ H' { s with heap:=h',toks:=t' }:=by
 obtain⟨m,⟨o,l,v,h,r⟩,_⟩:=id I.loc
 obtain⟨q,j⟩:=u.any h I.free (by simp)
 exact I.step (ch:=[]) (λ_ z=>nomatch z) (λb o _ c _ e n=>u.keep b o e n c (by simp)) (λb o _ c _ e n=>u.slot b o e n c (by simp)) (λb o _ e n=>u.free b o e n (by simp)) (λb o _ e=>u.there b o e (by simp)) u.tups u.frzs u.tbls (λt i=>by
  obtain⟨p,d,f,a,k⟩:=i;rw[h]at a;cases a
  exact⟨_,d,f,j,k⟩) g I.bare
theorem Inv.call (I:Inv X pins σ H s) (u:Un (frs X.stack) ch H H' s.heap h') (g:HOk X.prog X.w H' h') (hg:AllBare g')
 (d:∀b∈ch,(b∈X.ex\/X.s₀.heap.objs.size<=b)/\b≠X.env.locals/\(∀x c,X.env.cells.lookup x=some c->c≠b)/\∀p∈X.pn++pins,p.1≠b) :
 Inv X pins σ H' { s with heap:=h',gens:=g',drawn:=d',toks:=t' }:=by
 obtain⟨m,⟨o,v,A,k,r⟩,_⟩:=id I.loc
 obtain⟨y,h⟩:=u.any k I.free λz=>(d _ z).2.1 rfl
 exact I.step d (λb o h q a e n=>u.keep b o e n (λz=>(List.mem_cons.mp (I.stkSub b z)).elim h q) a) (λb o _ _ a e n=>u.any e n a) (λb o a e n=>u.free b o e n a) (λb o a e=>u.there b o e a) u.tups u.frzs u.tbls (λB t=>by
  obtain⟨w,j,i,f,l⟩:=t;rw[k]at f;cases f
  exact⟨_,j,i,h,l⟩) g hg
theorem Inv.turned (I:Inv X pins σ H s) (k:∀b o,b≠it->s.heap.get? b=some o->h'.get? b=some o) (hn:H it=none) (h:it≠X.env.locals)
 (h1:it∈X.ex\/X.s₀.heap.objs.size<=it) (h2:∀x c,X.env.cells.lookup x=some c->c≠it) (j:∀p∈X.pn++pins,p.1≠it):Inv X pins σ H { s with heap:=h',toks:=t' }:=by
 refine I.step (ch:=[it]) (λb t=>?_) (λb o _ _ a e _=>k b o (λz=>a (by grind)) e) (λb o _ _ a e _=>⟨o.slots,k b o (λz=>a (by grind)) e⟩) (λ_ _ _ _ n=>n)
  (λb o a e=>⟨o,k b o (λz=>a (by grind)) e⟩) (λ_ _ e=>e) (λ_ _ _ e=>e) (λb l e=>e) (λm g=>?_) (λb u e=>?_) I.bare
 ·grind
 ·obtain⟨o,f,i,d,r⟩:=g
  exact⟨o,f,i,k _ o (Ne.symm h) d,r⟩
 ·refine (I.hok b u e).stay (λc v a q=>k c v ?_ q) (λ_ q=>q) λ_ _ q=>q
  grind
theorem Inv.tok (I:Inv X pins σ H s)(t:Nat):Inv X pins σ H { s with toks:=t }:=I.un Un.refl I.hok
theorem Inv.kept (I:Inv X pins σ H s) (k:∀b u,s.heap.get? b=some u->h'.get? b=some u):Inv X pins σ H { s with heap:=h',toks:=t' }:=I.un (Un.kept k) (I.hok.kept k)
theorem Inv.laid (I:Inv X pins σ H s) (k:∀b u,s.heap.get? b=some u->h'.get? b=some u) (hp:s.heap.objs.size<=a) (c:z9 X.prog X.w (upd H a o) h' a o) :
 Inv X pins σ (upd H a o) { s with heap:=h',toks:=t' }:=I.un (Un.laid k hp (I.hok.fresh hp)) (I.hok.laid k hp c)
theorem Inv.write (I:Inv X pins σ H s) (d:Mut (H x)) (he:e=x\/H e=some (.own x)) (k:∀b u,b≠e->s.heap.get? b=some u->h'.get? b=some u) (a:∃u,h'.get? e=some u)
 (c:z9 X.prog X.w (upd H x o) h' x o):Inv X pins σ (upd H x o) { s with heap:=h',toks:=t' }:=I.un (Un.write d he k a) (I.hok.write d he k a c)
theorem Inv.pins_of (I:Inv X pins σ H s) (h:∀p∈a,s.heap.get? p.1=some p.2/\H p.1=none/\p.1≠X.env.locals/\p.1∉X.fs/\∀v,p.2.data≠.cell v):Inv X a σ H s :=
 ⟨I.ok,I.os,I.bare,I.base,I.loc,I.cell,I.free,I.freeC,λp b=>(List.mem_append.mp b).elim (λz=>I.pin p (List.mem_append_left _ z)) (h p),I.hok,I.len⟩
theorem Aj1 {N:List Str}(hN:N.Nodup){i j:Nat} (a:N[i]?=some x) (b:N[j]?=some x):i=j:=by
 obtain⟨e,d⟩:=List.getElem?_eq_some_iff.mp a;obtain⟨f,c⟩:=List.getElem?_eq_some_iff.mp b;exact(List.getElem_inj hN).mp (d.trans c.symm)
theorem Xf (I:Inv X pins σ H s) (hN:X.N.Nodup) (hi:X.N[i]?=some x) (hx:Loc X.env.scope x) (r:RelV v u)
 (h:∀s',Inv X pins (σ.set i (some v)) H s'->(∃a,Heap.SameBut a s.heap s'.heap/\(a=X.env.locals\/X.env.cells.lookup x=some a))->Q () s') (hf:X.fn x=true\/X.env.scope.names.lookup x=some .local:=by first | exact .inl rfl | exact .inr rfl | assumption):wpAny M A (storeName X.env x u) Q E s:=by
 obtain⟨m,S,hl⟩:=id I.loc
 have K:(X.env.scope.kind==.class||(X.env.scope.kind==.module&&X.env.locals != X.env.globals))=false:=by rw[I.ok.kind];rfl
 have C:i<σ.length:=by rw[I.len];exact(List.getElem?_eq_some_iff.mp hi).1
 have J:=I.cne
 have g:∀{a:Addr} {L:Heap},(∃o,s.heap.get? a=some o/\H a=none)->Heap.SameBut a s.heap L->HOk X.prog X.w H L:=λ{a L} ha f b ob e=>by
  obtain⟨_,_,w⟩:=ha
  refine (I.hok b ob e).stay (λc w' t q=>(f.2 c ?_).trans q) (λ_ q=>q) λ_ _ q=>q
  rintro rfl
  rcases t with rfl | t
  ·rw[w]at e;cases e
  ·rw[w]at t;cases t
 rcases hx with D | D
 ·refine wpAny_storeName_local D S (λL hn' f=>?_) K
  obtain⟨oL,_,_,hoL,_⟩:=id S
  refine h _ ⟨I.ok,I.os,I.bare,⟨λb o e n F hx=>?_,λb o e n F hx=>?_,I.base.free,λb o e hx=>?_,I.base.tups,I.base.frzs,I.base.tbls⟩,⟨_,hn',λj y v' l B T=>?_⟩,λy c e=>?_,I.free,I.freeC,λp U=>?_,g ⟨oL,hoL,I.free⟩ f,by simpa using I.len⟩ ⟨_,f,.inl rfl⟩
  ·exact(f.2 b (Nat.ne_of_lt (Nat.lt_of_lt_of_le (Heap.lt_size e) I.ok.above))).trans (I.base.keep b o e n F hx)
  ·obtain⟨W,l⟩:=I.base.slot b o e n F hx
   exact⟨W,(f.2 b (Nat.ne_of_lt (Nat.lt_of_lt_of_le (Heap.lt_size e) I.ok.above))).trans l⟩
  ·obtain⟨Y,l⟩:=I.base.there b o e hx
   exact⟨Y,(f.2 b (Nat.ne_of_lt (Nat.lt_of_lt_of_le (Heap.lt_size e) I.ok.above))).trans l⟩
  ·by_cases hj:j=i
   ·subst hj
    rw[hi]at l;cases l;rw[List.getElem?_set_self C]at B
    cases B
    exact⟨u,r,.inl ⟨D,by simp⟩⟩
   ·rw[List.getElem?_set_ne (Ne.symm hj)]at B
    obtain⟨Z,r',q⟩:=hl j y _ l B T
    refine⟨Z,r',?_⟩
    rcases q with ⟨k,e⟩ | ⟨k,c,e,z⟩
    ·refine .inl ⟨k,?_⟩
     have:y≠x:=λe=>hj (Aj1 hN l (e▸hi))
     simp[this,e]
    ·exact .inr ⟨k,c,e,z.sameBut f (J y c e)⟩
  ·obtain⟨w',z⟩:=I.cell y c e
   exact⟨w',z.sameBut f (J y c e)⟩
  ·obtain⟨e,n,R,nf,d⟩:=I.pin p U
   exact⟨(f.2 _ R).trans e,n,R,nf,d⟩
 ·have G:X.fn x=true:=by
   rcases hf with z | z
   ·exact z
   ·rw[z]at D;cases D
  obtain⟨c,t⟩:=I.ok.has x (.inl D);obtain⟨w',z⟩:=I.cell x c t
  refine wpAny_storeName_cell I.ok.kind D t z λL N f=>?_
  obtain⟨oc,P,O⟩:=id z
  refine h _ ⟨I.ok,I.os,I.bare,⟨λb o e n F hx=>?_,λb o e n F hx=>?_,I.base.free,λb o e hx=>?_,I.base.tups,I.base.frzs,I.base.tbls⟩,⟨m,S.sameBut f (Ne.symm (J x c t)),λj y v' l B T=>?_⟩,λy c' e=>?_,I.free,I.freeC,λp U=>?_,g ⟨oc,P,I.freeC x c t⟩ f,by simpa using I.len⟩ ⟨c,f,.inr t⟩
  ·exact(f.2 b (Nat.ne_of_lt (Nat.lt_of_lt_of_le (Heap.lt_size e) (I.ok.cab x c G t)))).trans (I.base.keep b o e n F hx)
  ·obtain⟨W,l⟩:=I.base.slot b o e n F hx
   exact⟨W,(f.2 b (Nat.ne_of_lt (Nat.lt_of_lt_of_le (Heap.lt_size e) (I.ok.cab x c G t)))).trans l⟩
  ·obtain⟨Y,l⟩:=I.base.there b o e hx
   exact⟨Y,(f.2 b (Nat.ne_of_lt (Nat.lt_of_lt_of_le (Heap.lt_size e) (I.ok.cab x c G t)))).trans l⟩
  ·by_cases hj:j=i
   ·subst hj
    rw[hi]at l;cases l;rw[List.getElem?_set_self C]at B
    cases B
    exact⟨u,r,.inr ⟨.inl D,c,t,N⟩⟩
   ·rw[List.getElem?_set_ne (Ne.symm hj)]at B
    obtain⟨Z,r',q⟩:=hl j y _ l B T
    refine⟨Z,r',?_⟩
    rcases q with q | ⟨k,c',e,z'⟩
    ·exact .inl q
    ·refine .inr ⟨k,c',e,z'.sameBut f ?_⟩
     rintro rfl
     exact hj (Aj1 hN l (I.ok.inj _ _ _ e t▸hi))
  ·by_cases hcc:c'=c
   ·subst hcc;exact⟨_,N⟩
   ·obtain⟨w2,z2⟩:=I.cell y _ e
    exact⟨w2,z2.sameBut f hcc⟩
  ·obtain⟨e,n,R,nf,d⟩:=I.pin p U
   refine⟨(f.2 _ ?_).trans e,n,R,nf,d⟩
   intro q;rw[q,P]at e
   exact d _ (by rw[<- (Option.some.inj e)];exact O)
theorem Vs (I:Inv X pins σ H s) (hN:X.N.Nodup) (hi:X.N[i]?=some x) (hx:Loc X.env.scope x) (r:RelV v u)
 (h:∀a,Inv X pins (σ.set i (some v)) H a->Q () a) (hf:X.fn x=true\/X.env.scope.names.lookup x=some .local:=by first | exact .inl rfl | exact .inr rfl | assumption):wpAny M A (storeName X.env x u) Q E s :=
 Xf I hN hi hx r (λa b _=>h _ b) hf
theorem Inv.call' (I:Inv X pins σ H s) (ho:s'.os=s.os) (u:Un (frs X.stack) ch H H' s.heap s'.heap) (d:HOk X.prog X.w H' s'.heap) (hg:AllBare s'.gens)
 (a:∀b∈ch,(b∈X.ex\/X.s₀.heap.objs.size<=b)/\b≠X.env.locals/\(∀x c,X.env.cells.lookup x=some c->c≠b)/\∀p∈X.pn++pins,p.1≠b):Inv X pins σ H' s':=by
 obtain⟨f,g,h,i,e⟩:=s';subst ho;exact I.call u d hg a
end
abbrev XK:=Value->Option Addr->Hp->Prop
abbrev St:=List (Option V)
abbrev VK:=V->Hp->Prop
abbrev TE:=St->Hp->VK->Prop
abbrev TT:=St->Hp->(Bool->Hp->Prop)->Prop
abbrev TA:=St->Hp->(List V->Hp->Prop)->Prop
structure Ends where
 nx:St->Hp->Prop
 rt:VK
 bk:St->Hp->Prop:=λ_ _=>False
 ct:St->Hp->Prop:=λ_ _=>False
abbrev TS:=Ends->St->Hp->Prop
def EP (X:Cx)(pins:List (Addr×Obj))(σ:St)(Q:VK)(u:Value)(s':Shared):Prop:=∃v H',Inv X pins σ H' s'/\RelV v u/\Q v H'
def TP (X:Cx)(pins:List (Addr×Obj))(σ:St)(Q:Bool->Hp->Prop)(b:Bool)(s':Shared):Prop:=∃H',Inv X pins σ H' s'/\Q b H'
def AP (X:Cx)(pins:List (Addr×Obj))(σ:St)(Q:List V->Hp->Prop)(us:List Value)(s':Shared):Prop:=∃vs H',Inv X pins σ H' s'/\Vals vs us/\Q vs H'
def SP (X:Cx)(pins:List (Addr×Obj))(D:Ends)(f:Flow)(s':Shared):Prop :=
 match f with
 | .next=>∃σ' H',Inv X pins σ' H' s'/\D.nx σ' H'
 | .brk=>∃σ' H',Inv X pins σ' H' s'/\D.bk σ' H'
 | .cont=>∃σ' H',Inv X pins σ' H' s'/\D.ct σ' H'
 | .ret u=>∃v σ' H',Inv X pins σ' H' s'/\RelV v u/\D.rt v H'
def PE (X:Cx)(e:Expr)(t:TE):Prop :=
 ∀(pins:List (Addr×Obj)) (s:Shared) (σ:St) (H:Hp) (Q:VK),Inv X pins σ H s->t σ H Q->wpAny (model X.prog X.w) X.A (eval e X.env) (EP X pins σ Q) X.xe s
structure QE (X:Cx) (e:Expr) (t:TE):Prop where
 get:PE X e t
def PT (X:Cx)(e:Expr)(t:TT):Prop :=
 ∀(pins:List (Addr×Obj)) (s:Shared) (σ:St) (H:Hp) (Q:Bool->Hp->Prop),Inv X pins σ H s->t σ H Q->wpAny (model X.prog X.w) X.A (isTrue e X.env (eval e X.env)) (TP X pins σ Q) X.xe s
structure QT (X:Cx) (e:Expr) (t:TT):Prop where
 get:PT X e t
def PW (X:Cx)(e:Expr)(t:TT):Prop :=
 ∀(whole:Sem Value) (pins:List (Addr×Obj)) (s:Shared) (σ:St) (H:Hp) (Q:Bool->Hp->Prop),Inv X pins σ H s->t σ H Q->wpAny (model X.prog X.w) X.A (isTrue e X.env whole) (TP X pins σ Q) X.xe s
structure QW (X:Cx) (e:Expr) (t:TT):Prop where
 get:PW X e t
theorem PW.pt (h:PW X e t):PT X e t:=h _
def PA (X:Cx)(es:List Expr)(t:TA):Prop :=
 ∀(pos:Pos) (pins:List (Addr×Obj)) (s:Shared) (σ:St) (H:Hp) (Q:List V->Hp->Prop),Inv X pins σ H s->t σ H Q->wpAny (model X.prog X.w) X.A (spliced (backTo pos (starEach es X.env))) (AP X pins σ Q) X.xe s
structure QA (X:Cx) (e:(List Expr)) (t:TA):Prop where
 get:PA X e t
def PS (X:Cx)(st:Stmt)(t:TS):Prop :=
 ∀(pins:List (Addr×Obj)) (s:Shared) (σ:St) (H:Hp) (D:Ends),Inv X pins σ H s->t D σ H->wpAny (model X.prog X.w) X.A (exec st X.env) (SP X pins D) X.xe s
structure QS (X:Cx) (st:Stmt) (t:TS):Prop where
 get:PS X st t
def PSs (X:Cx)(st:List Stmt)(t:TS):Prop :=
 ∀(pins:List (Addr×Obj)) (s:Shared) (σ:St) (H:Hp) (D:Ends),Inv X pins σ H s->t D σ H->wpAny (model X.prog X.w) X.A (execs st X.env) (SP X pins D) X.xe s
structure QSs (X:Cx) (st:(List Stmt)) (t:TS):Prop where
 get:PSs X st t
theorem thn {t:Sem c}{Q b:c->Shared->Prop} (h:wpAny M A t Q E s) (d:∀a s,Q a s->b a s):wpAny M A t b E s:=wpAny_mono h d λ_ _ x=>x
section
variable {X:Cx}
def Va (i:Nat):TE:=λσ H Q=>∃v,σ[i]?=some (some v)/\Q v H
def tC (v:V):TE:=λ_ H Q=>Q v H
theorem A3q {f:Pos}(hN:X.N[i]?=some x) (hv:Vis X.env.scope x) (hd:(x==("__debug__" : Str))=false:=by decide) (hcd:(x==("__classdict__" : Str))=false:=by decide):PE X (.Name x f) (Va i):=by
 intro j s p H Q I h;obtain⟨v,e,h⟩:=h;obtain⟨m,k,n⟩:=I.loc;obtain⟨u,r,l⟩:=n i x v hN e hv;have b:EP X _ _ Q u s:=⟨v,H,I,r,h⟩
 rcases l with ⟨d,o⟩ | ⟨d,c,g,a⟩
 ·exact wpAny_Name (wpAny_loadName_local I.ok.kind d k o b) hd
 ·rcases d with d | d
  ·exact wpAny_Name (wpAny_loadName_cell I.ok.kind d g a b) hd
  ·exact wpAny_Name (wpAny_loadName_free I.ok.kind d g a b hcd) hd
theorem A5j : PE X (.Constant (.int i) j a) (tC (.int i)):=λ_ _ _ H _ I h=>wpAny_Constant_int ⟨.int i,H,I.tok _,⟨_,rfl⟩,h⟩
theorem Bl6 : PE X (.Constant (.bool b) j a) (tC (.bl b)):=λ_ _ _ H _ I h=>Constant_bool ⟨.bl b,H,I,rfl,h⟩
theorem A6u : PE X (.Constant .none j a) (tC .non):=λ_ _ _ H _ I h=>Constant_none ⟨.non,H,I,rfl,h⟩
theorem A5f : PE X (.Constant (.str x) j a) (tC (.str x)):=λ_ _ _ H _ I h=>Calls.Constant_str ⟨.str x,H,I.tok _,⟨_,rfl⟩,h⟩
def Gl (X:Cx)(x:Str):Prop:=X.env.kindOf x=some .globalImplicit
theorem Lg (I:Inv X pins b H s) (hg:Gl X x) (hm:X.mg x=some u) (h:Q u s)
 (hd:(x==("__debug__" : Str))=false:=by decide):wpAny (model X.prog X.w) X.A (eval (.Name x a) X.env) Q E s :=
 Calls.Name_function_global I.ok.kind hg (Calls.loadGlobal_global (by rw[I.ok.glob];exact I.mod.glob.keeps I.bk) hm h) hd
theorem My {E:Value->Shared->Prop} {a:Pos} (I:Inv X pins c H s) (hg:Gl X x) (hm:X.mg x=none) (hv:bootBuiltins x=some u) (h:Q u s)
 (hn:x ≠ "__name__" := by decide) (hd:(x==("__debug__" : Str))=false:=by decide):wpAny (model X.prog X.w) X.A (eval (.Name x a) X.env) Q E s:=by
 obtain⟨e,d,b⟩:=I.mod.blt
 exact Calls.Name_function_global I.ok.kind hg (Calls.loadGlobal_builtin (by rw[I.ok.glob];exact I.mod.glob.keeps I.bk) hm (by rw[I.ok.blt];exact d.keeps I.bk) ((b x hn).trans hv) h) hd
theorem Be1 (hg:Gl X x) (hm:X.mg x=some u) (r:RelV v u) (hd:(x==("__debug__" : Str))=false:=by decide):PE X (.Name x a) (tC v) :=
 λ_ _ _ H _ I h=>Lg I hg hm ⟨v,H,I,r,h⟩ hd
theorem Ba1 {a:Pos}(hg:Gl X x) (hm:X.mg x=none) (hv:bootBuiltins x=some u) (r:RelV v u) (hn:x ≠ "__name__" := by decide) (hd:(x==("__debug__" : Str))=false:=by decide):PE X (.Name x a) (tC v) :=
 λ_ _ _ H _ I h=>My I hg hm hv ⟨v,H,I,r,h⟩ hn hd
variable {a b:Expr}{ta tb:TE}{pos:Pos}
def tB (t:TE):TT:=λσ H Q=>t σ H λx H1=>∃c,x=.bl c/\Q c H1
theorem Dw (h:QE X e t) (he:∀whole,isTrue e X.env whole=(do let v <- whole;standAt e.pos;holding [v] (truthy v)):=by intro _;rfl):QT X e (tB t):=by
 refine⟨?_⟩
 intro a s σ H Q I f
 refine isTrue_plain (thn (h.1 _ s _ H _ I f) λv s1 ⟨x,g,b,c,i⟩=>?_) (he _)
 obtain⟨d,rfl,q⟩:=i
 cases c
 exact wpAny_truthy_bool ⟨g,b,q⟩
variable {tA tB':TT}{rest:List Expr}
def B1e (t u:TT):TT:=λσ H Q=>t σ H λc H1=>if c=true then u σ H1 Q else Q false H1
def tOr (t u:TT):TT:=λσ H Q=>t σ H λc H1=>if c=true then Q true H1 else u σ H1 Q
def B1f (t:TT):TT:=λσ H Q=>t σ H λc H1=>Q (!c) H1
theorem Bj1 (ha:QT X a tA):QW X (.BoolOp .And [a] pos) tA:=by
 refine⟨?_⟩
 intro f b s g H Q I h
 refine isTrue_and (thn (ha.1 _ s _ H Q I h) λc d e=>?_)
 cases c with
 | true=>exact isTrue_and_nil e
 | false=>exact e
theorem Kw (ha:QT X a tA):QW X (.BoolOp .Or [a] pos) tA:=by
 refine⟨?_⟩
 intro f b s g H Q I h
 refine isTrue_or (thn (ha.1 _ s _ H Q I h) λc d e=>?_)
 cases c with
 | false=>exact isTrue_or_nil e
 | true=>exact e
theorem Bp6 (ha:QT X a tA)(hb:QW X (.BoolOp .And (b::rest) pos) tB'):QW X (.BoolOp .And (a::b::rest) pos) (B1e tA tB'):=by
 obtain⟨hb⟩:=hb
 refine⟨?_⟩
 intro g d s k H Q I h
 refine isTrue_and (thn (ha.1 _ s _ H _ I h) λc i ⟨j,f,e⟩=>?_)
 cases c with
 | true=>exact hb _ _ _ _ _ Q f e
 | false=>trivial
theorem Nz (ha:QT X a tA)(hb:QW X (.BoolOp .Or (b::rest) pos) tB'):QW X (.BoolOp .Or (a::b::rest) pos) (tOr tA tB'):=by
 obtain⟨hb⟩:=hb
 refine⟨?_⟩
 intro g d s k H Q I h
 refine isTrue_or (thn (ha.1 _ s _ H _ I h) λc i ⟨j,f,e⟩=>?_)
 cases c with
 | true=>assumption
 | false=>exact hb _ _ _ _ _ Q f e
theorem Gw (ha:QT X a tA):QT X (.UnaryOp .Not a pos) (B1f tA):=by
 refine⟨?_⟩
 intro b s c H Q I h;exact isTrue_not (ha.1 _ s _ H _ I h)
def Bj8 (ta tb:TE):TE:=λσ H Q=>ta σ H λx H1=>∃c,x=.bl c/\if c=true then tb σ H1 Q else Q (.bl false) H1
def B1l (ta tb:TE):TE:=λσ H Q=>ta σ H λx H1=>∃c,x=.bl c/\if c=true then Q (.bl true) H1 else tb σ H1 Q
def Bj5 (ta:TE):TE:=λσ H Q=>ta σ H λx H1=>∃c,x=.bl c/\Q (.bl (!c)) H1
theorem Bx3 (h:PE X a t):PE X (.BoolOp op [a] pos) t:=λb s d H Q I c=>BoolOp_one (h _ s _ H Q I c)
theorem Ru (ha:QE X a ta)(hb:QE X (.BoolOp .And (b::rest) pos) tb):QE X (.BoolOp .And (a::b::rest) pos) (Bj8 ta tb):=by
 obtain⟨hb⟩:=hb
 refine⟨?_⟩
 intro e s σ H Q I h
 refine BoolOp_and (thn (ha.1 _ s _ H _ I h) λv s1 ⟨x,i,f,g,d⟩=>?_)
 obtain⟨c,rfl,d⟩:=d
 cases g
 refine wpAny_truthy_bool ?_
 cases c with
 | true=>exact hb _ _ _ _ Q f d
 | false=>exact⟨.bl _,i,f,rfl,d⟩
theorem B1n (ha:QE X a ta)(hb:QE X (.BoolOp .Or (b::rest) pos) tb):QE X (.BoolOp .Or (a::b::rest) pos) (B1l ta tb):=by
 obtain⟨hb⟩:=hb
 refine⟨?_⟩
 intro e s σ H Q I h
 refine BoolOp_or (thn (ha.1 _ s _ H _ I h) λv s1 ⟨x,i,f,g,d⟩=>?_)
 obtain⟨c,rfl,d⟩:=d
 cases g
 refine wpAny_truthy_bool ?_
 cases c with
 | false=>exact hb _ _ _ _ Q f d
 | true=>exact⟨.bl _,i,f,rfl,d⟩
theorem Bt2 (ha:QE X a ta):QE X (.UnaryOp .Not a pos) (Bj5 ta):=by
 refine⟨?_⟩
 intro d s σ H Q I h
 refine UnaryOp_ (thn (ha.1 _ s _ H _ I h) λv s1 ⟨x,f,g,e,b⟩=>?_)
 obtain⟨c,rfl,b⟩:=b
 cases e
 exact not_of (wpAny_truthy_bool ⟨.bl _,f,g,rfl,b⟩)
end
def SqL (K:PySem.W.Frag)(H:Hp)(a:Addr)(xs:List V):Prop :=
 Rd H a (.lst xs) \/
  ∃(o:Obj) (its:Array Value) (n:Nat),K.lookup a=some o/\o.cls=.type "list" /\ o.dict=none/\o.data=.seq its n/\its.size<=sizeLine/\Vals xs its.toList
def SqT (K:PySem.W.Frag)(H:Hp)(a:Addr)(xs:List V):Prop :=
 Rd H a (.tup xs) \/
  ∃(o:Obj) (its:Array Value) (n:Nat),K.lookup a=some o/\o.cls=.type "tuple" /\ o.data=.seq its n/\its.size<=sizeLine/\Vals xs its.toList
noncomputable def B2y:Value->Option V
 | .none=>some .non
 | .bool b=>some (.bl b)
 | .int i _=>some (.int i)
 | .str x _=>some (.str x)
 | .bytes b _=>some (.byt b)
 | .float b _=>some (.flt b)
 | .ref a=>some (.ref a)
 | .type n=>some (.ty n)
 | _=>none
theorem RelV.abs (r:RelV x u):B2y u=some x:=by
 cases x with
 | non=>cases r;rfl
 | bl _=>cases r;rfl
 | int _=>obtain⟨t,rfl⟩:=r;rfl
 | str _=>obtain⟨t,rfl⟩:=r;rfl
 | byt _=>obtain⟨t,rfl⟩:=r;rfl
 | flt _=>obtain⟨t,rfl⟩:=r;rfl
 | ref _=>cases r;rfl
 | ty _=>cases r;rfl
theorem RelV.inj (r:RelV x u) (q:RelV y u):x=y:=Option.some.inj (r.abs.symm.trans q.abs)
theorem Vals.inj:∀{xs ys:List V}{us:List Value},Vals xs us->Vals ys us->xs=ys
 | _,_,_,.nil,.nil=>rfl
 | _,_,_,.cons r t,.cons r' t'=>by rw[r.inj r',Vals.inj t t']
section
variable {X:Cx}{pins:List (Addr×Obj)}{σ:St}{H:Hp}{s:Shared}{a:Addr}{xs ys:List V}
theorem SqL.of {K:PySem.W.Frag}(h:H a=some (.lst xs)):SqL K H a xs:=.inl (.inl h)
theorem SqT.of {K:PySem.W.Frag}(h:H a=some (.tup xs)):SqT K H a xs:=.inl (.inl h)
theorem Inv.list (I:Inv X pins σ H s)(h:SqL X.K H a xs):∃b:List Value,Vals xs b/\PlainL s.heap a b.toArray/\xs.length<=sizeLine:=by
 rcases h with h | ⟨o,b,n,d,c,f,i,g,r⟩
 ·obtain⟨z,b,n,r,e⟩:=h.ok I.hok
  exact⟨b,r,⟨_,n,e,rfl,rfl,rfl⟩,z⟩
 ·refine⟨b.toList,r,⟨o,n,I.kIn a o d,c,f,by trivial⟩,?_⟩
  have e:=r.length
  simp_all
theorem Inv.tuple (I:Inv X pins σ H s)(h:SqT X.K H a xs):∃b:List Value,Vals xs b/\IsTup s.heap a b.toArray/\xs.length<=sizeLine:=by
 rcases h with h | ⟨o,b,n,d,c,g,f,r⟩
 ·obtain⟨z,b,r,p⟩:=h.ok I.hok
  exact⟨b,r,p.tup,z⟩
 ·refine⟨b.toList,r,⟨o,I.kIn a o d,c,n,by trivial⟩,?_⟩
  have e:=r.length
  simp_all
theorem Inv.list_inj (I:Inv X pins σ H s)(h:SqL X.K H a xs)(h':SqL X.K H a ys):xs=ys:=by
 obtain⟨c,r,⟨o,n,e,_,_,d⟩,_⟩:=I.list h;obtain⟨b,f,⟨i,j,k,_,_,g⟩,_⟩:=I.list h'
 have:c=b:=by simp_all
 subst this;exact r.inj f
theorem Inv.tuple_inj (I:Inv X pins σ H s)(h:SqT X.K H a xs)(h':SqT X.K H a ys):xs=ys:=by
 obtain⟨c,r,⟨o,e,_,n,d⟩,_⟩:=I.tuple h;obtain⟨b,f,⟨i,j,_,k,g⟩,_⟩:=I.tuple h'
 have:c=b:=by simp_all
 subst this;exact r.inj f
end
noncomputable abbrev Cx.wish (X:Cx) (E:Value->Shared->Prop):Cx:={ X with xe:=E }
abbrev Cx.nox (X:Cx):Cx:=X.wish λ_ _=>False
theorem Cx.Ok.wish {X:Cx}(a:X.Ok)(E:Value->Shared->Prop):(X.wish E).Ok :=
 ⟨a.mod,a.kind,a.glob,a.blt,a.above,a.inj,a.has,a.cab,a.hd,a.frames,a.stk,a.exf,a.bs,a.bsz,a.noex,a.exfs,a.funs,a.frf,a.tab⟩
theorem Cx.Ok.unwish {X:Cx} (a:(X.wish E).Ok):X.Ok :=
 ⟨a.mod,a.kind,a.glob,a.blt,a.above,a.inj,a.has,a.cab,a.hd,a.frames,a.stk,a.exf,a.bs,a.bsz,a.noex,a.exfs,a.funs,a.frf,a.tab⟩
section
variable {X:Cx}{pins:List (Addr×Obj)}{σ:St}{H:Hp}{s:Shared}{E:Value->Shared->Prop}
theorem Inv.wish (I:Inv X pins σ H s)(E:Value->Shared->Prop):Inv (X.wish E) pins σ H s:=⟨I.ok.wish E,I.os,I.bare,I.base,I.loc,I.cell,I.free,I.freeC,I.pin,I.hok,I.len⟩
theorem Inv.unwish (I:Inv (X.wish E) pins σ H s):Inv X pins σ H s:=⟨I.ok.unwish,I.os,I.bare,I.base,I.loc,I.cell,I.free,I.freeC,I.pin,I.hok,I.len⟩
theorem SP.unwish (h:SP (X.wish E) pins D f s'):SP X pins D f s':=by
 cases f with
 | next=>obtain⟨a,b,I,q⟩:=h;exact⟨a,b,I.unwish,q⟩
 | brk=>obtain⟨a,b,I,q⟩:=h;exact⟨a,b,I.unwish,q⟩
 | cont=>obtain⟨a,b,I,q⟩:=h;exact⟨a,b,I.unwish,q⟩
 | ret u=>obtain⟨v,a,b,I,r,q⟩:=h;exact⟨v,a,b,I.unwish,r,q⟩
theorem PSs.nox {st:List Stmt} (h:PSs X.nox st t):PSs X st t:=λa s c H D I b =>
 wpAny_mono (h _ s _ H D (I.wish _) b) (λ_ _ q=>q.unwish) λ_ _ z=>False.elim z
end
section
variable {X:Cx}{st:Stmt}{rest:List Stmt}{t u:TS}{e:Expr}{te:TE}{pos:Pos}
def A3g:TS:=λD σ H=>D.nx σ H
def A7l (t u:TS):TS:=λD σ H=>t { D with nx:=u D } σ H
theorem A9e:PSs X [] A3g:=λ_ _ a H _ I h=>wpAny_execs_nil ⟨a,H,I,h⟩
theorem Ah (h1:QS X st t)(h2:QSs X rest u):QSs X (st::rest) (A7l t u):=by
 obtain⟨h2⟩:=h2
 refine⟨?_⟩
 intro a s d H D I h
 refine wpAny_execs_cons (thn (h1.1 _ s _ H _ I h) λf e q=>?_)
 cases f with
 | next =>
  obtain⟨c,g,b,q⟩:=q;exact h2 _ _ _ _ D b q
 | ret v=>exact q
 | brk=>exact q
 | cont=>exact q
theorem Aj (h1:QS X st t):QSs X [st] t:=by
 refine⟨?_⟩
 intro a s c H D I h
 refine wpAny_execs_cons (thn (h1.1 _ s _ H D I h) λf b q=>?_)
 cases f with
 | next=>exact wpAny_execs_nil q
 | ret v=>grind
 | brk=>grind
 | cont=>grind
theorem Inv.quiet (I:Inv X pins a H s):interactive X.env=false:=by simp[interactive,I.ok.kind]
def A8m (te:TE):TS:=λD σ H=>te σ H λ_ H1=>D.nx σ H1
theorem Tw (he:QE X e te)(hs:swapsWith e none pos.line X.env=pure false:=by rfl):QS X (.Expr e pos) (A8m te):=by
 refine⟨?_⟩
 intro a s c H D I h
 exact wpAny_Expr_any (thn (he.1 _ s _ H _ I h) λv g ⟨x,f,d,i,b⟩=>⟨c,f,d,b⟩) I.quiet hs
def By3 (te:TE):TS:=λD σ H=>te σ H D.rt
theorem Aw (he:QE X e te):QS X (.Return (some e) pos) (By3 te):=by
 refine⟨?_⟩
 intro a s c H D I h
 exact wpAny_Return_some (thn (he.1 _ s _ H _ I h) λv i ⟨x,f,d,g,b⟩=>⟨x,c,f,d,g,b⟩)
def Bm8 (c:TT)(t u:TS):TS:=λD σ H=>c σ H λb H1=>if b=true then t D σ H1 else u D σ H1
theorem Di (hc:QT X c f) (ha:QSs X a t) (hb:QSs X b u):QS X (.If c a b pos) (Bm8 f t u):=by
 obtain⟨ha⟩:=ha;obtain⟨hb⟩:=hb
 refine⟨?_⟩
 intro i s j H D I h
 refine wpAny_If (thn (hc.1 _ s _ H _ I h) λd l ⟨k,g,e⟩=>?_)
 cases d with
 | true=>exact ha _ _ _ _ D g e
 | false=>exact hb _ _ _ _ D g e
end
abbrev TG:=V->St->Hp->(St->Hp->Prop)->Prop
abbrev TGs:=List V->St->Hp->(St->Hp->Prop)->Prop
def PG (X:Cx)(target:Expr)(t:TG):Prop :=
 ∀
  (pins:List (Addr×Obj)) (s:Shared) (σ:St) (H:Hp) (v:V) (u:Value) (Q:St->Hp->Prop),Inv X pins σ H s->RelV v u->t v σ H Q ->
  wpAny (model X.prog X.w) X.A (assign target X.env u) (λ_ s'=>∃σ' H',Inv X pins σ' H' s'/\Q σ' H') X.xe s
structure QG (X:Cx) (e:Expr) (t:TG):Prop where
 get:PG X e t
def PGs (X:Cx)(ts:List Expr)(t:TGs):Prop :=
 ∀
  (pins:List (Addr×Obj)) (s:Shared) (σ:St) (H:Hp) (vs:List V) (us:List Value) (Q:St->Hp->Prop),Inv X pins σ H s->Vals vs us->t vs σ H Q ->
  wpAny (model X.prog X.w) X.A (assignInOrder ((assignEach ts X.env).map (·.2)) us) (λ_ s'=>∃σ' H',Inv X pins σ' H' s'/\Q σ' H') X.xe s
structure QGs (X:Cx) (e:(List Expr)) (t:TGs):Prop where
 get:PGs X e t
abbrev Bz7:=V->V->V->Hp->(Hp->Prop)->Prop
def By9 (X:Cx)(t:Bz7):Prop :=
 ∀
  (pins:List (Addr×Obj)) (s:Shared) (σ:St) (H:Hp) (o i v:V) (ov iv u:Value) (Q:Hp->Prop),Inv X pins σ H s->RelV o ov->RelV i iv->RelV v u->t o i v H Q ->
  wpAny (model X.prog X.w) X.A (setItem ov iv u) (λ_ s'=>∃H',Inv X pins σ H' s'/\Q H') X.xe s
section
variable {X:Cx}{pos:Pos}
def M4 (i:Nat):TG:=λv σ H Q=>Q (σ.set i (some v)) H
theorem Br (hN:X.N.Nodup) (hi:X.N[i]?=some x:=by exact rfl) (hx:Loc X.env.scope x:=by first | exact Or.inl rfl | exact Or.inr rfl) (hf:X.fn x=true\/X.env.scope.names.lookup x=some .local:=by first | exact .inl rfl | exact .inr rfl | assumption):QG X (.Name x pos) (M4 i):=by
 refine⟨?_⟩
 intro a s c H v u Q I r h
 exact wpAny_assign_Name (Vs I hN hi hx r (λd b=>⟨_,H,b,h⟩) hf)
noncomputable def A3y:TGs:=λvs σ H Q=>vs=[]/\Q σ H
noncomputable def Yk (t:TG) (u:TGs):TGs:=λvs σ H Q=>∃v r,vs=v::r/\t v σ H λσ' H'=>u r σ' H' Q
theorem T5:QGs X [] A3y:=by
 refine⟨?_⟩
 intro a s b H d c Q I r h;obtain⟨e,h⟩:=h;exact assignInOrder_nil ⟨b,H,I,h⟩
theorem Hq (h1:QG X e t) (h2:QGs X es u)
 (hs:(assignEach (e::es) X.env).map (·.2)=assign e X.env::(assignEach es X.env).map (·.2):=by rfl):QGs X (e::es) (Yk t u):=by
 obtain⟨h2⟩:=h2
 refine⟨?_⟩
 intro a s i H j n Q I r h;obtain⟨v,l,f,h⟩:=h;subst f
 cases r with
 | cons r d =>
  rw[hs]
  refine assignInOrder_cons (thn (h1.1 _ s _ H _ _ _ I r h) λ_ k ⟨c,m,g,b⟩=>?_)
  exact h2 _ _ _ _ _ _ Q g d b
def A6l (K:PySem.W.Frag)(n:Nat)(t:TGs):TG:=λv σ H Q=>∃a xs,v=.ref a/\SqT K H a xs/\xs.length=n/\t xs σ H Q
theorem Bt1 {k:Nat} (hc:X.calm=true) (h:PGs X es t)
 (hn:(assignEach es X.env).length=n:=by rfl) (hst:(assignEach es X.env).findIdx? (·.1)=none:=by rfl):PG X (.Tuple es k pos) (A6l X.K n t):=by
 intro d s x H v u Q I r c;obtain⟨a,y,j,l,m,c⟩:=c;subst j
 cases r
 obtain⟨g,i,q,z⟩:=I.tuple l
 refine assign_Tuple_tuple (I.ok.hd hc) q (by simp[hn,<- m,i.length]) hst λp w=>?_
 have f:Inv X _ _ H { s with heap:=p }:=I.kept λb o e=>w b o (Nat.ne_of_lt (Heap.lt_size e)) e
 exact h _ _ _ H _ _ Q f (by trivial) c
def B0d (to ti:TE)(t:Bz7):TG:=λv σ H Q=>to σ H λo H1=>ti σ H1 λi H2=>t o i v H2 λH3=>Q σ H3
theorem A3d (ho:QE X o e) (hi:QE X i d) (hs:By9 X t)
 (ha:∀v,assign (.Subscript o i pos) X.env v=(do
  let a <- holding [v] (eval o X.env)
  let b <- holding [v,a] (eval i X.env)
  standAt pos
  holding [v,a,b] (setItem a b v)
  release [v,a,b] []):=by intro _;rfl):QG X (.Subscript o i pos) (B0d e d t):=by
 refine⟨?_⟩
 intro c s m H v u Q I r h;rw[ha]
 refine wpAny_bind (wpAny_holding (thn (ho.1 _ s _ H _ I h) λa z ⟨x,C,j,k,l⟩=>?_))
 refine wpAny_bind (wpAny_holding (thn (hi.1 _ _ _ _ _ j l) λb D ⟨y,A,g,p,n⟩=>?_))
 refine wpAny_bind (wpAny_standAt (wpAny_bind (wpAny_holding (thn (hs _ _ _ _ x y v _ _ u _ g k p r n) λ_ B ⟨q,w,f⟩=>?_))))
 exact wpAny_release ⟨m,q,w,f⟩
def An8 (te:TE)(g:TG):TS:=λD σ H=>te σ H λx H1=>g x σ H1 D.nx
theorem Ao6 (he:QE X e b) (hg:QG X a g) (hs:swapsWithSole [a] e pos.line X.env=pure false:=by rfl) (hw:swappedStores [a] e X.env=pure none:=by rfl)
 (h1:(assignEach [a] X.env).map (·.2)=[assign a X.env]:=by rfl):QS X (.Assign [a] e pos) (An8 b g):=by
 refine⟨?_⟩
 intro c s k H D I h
 refine wpAny_Assign_stores (thn (he.1 _ s _ H _ I h) λv l ⟨x,m,d,i,f⟩=>?_) hs hw
 rw[h1]
 exact thn (hg.1 _ _ _ _ x v _ d i f) λ_ j q=>q
theorem Df (hN:X.N.Nodup) (he:QE X e b) (hi:X.N[i]?=some x:=by exact rfl) (hx:Loc X.env.scope x:=by first | exact Or.inl rfl | exact Or.inr rfl) (hs:swapsWith e (some (.Name x a)) pos.line X.env=pure false:=by rfl) (hf:X.fn x=true\/X.env.scope.names.lookup x=some .local:=by first | exact .inl rfl | exact .inr rfl | assumption) :
 QS X (.Assign [.Name x a] e pos) (An8 b (M4 i)):=by
 refine⟨?_⟩
 intro c s l H D I h
 refine wpAny_Assign_Name (thn (he.1 _ s _ H _ I h) λv m ⟨y,j,f,g,k⟩=>?_) hs
 exact Vs f hN hi hx g (λn d=>⟨_,j,d,k⟩) hf
end
structure It where
 go:Nat->Hp->Prop
 yld:Nat->Hp->V->Hp->Prop
 stop:Nat->Hp->Prop
def Lr (X:Cx)(pins:List (Addr×Obj))(H:Hp)(b:Addr):Prop :=
 H b=none/\b≠X.env.locals/\b∉X.fs/\(b∈X.ex\/X.s₀.heap.objs.size<=b)/\(∀x c,X.env.cells.lookup x=some c->c≠b)/\∀p∈X.pn++pins,p.1≠b
theorem Inv.fpOk (I:Inv X pins d H s) (hb:s.heap.objs.size<=b) (hn:H' b=none):Lr X pins H' b:=by
 refine⟨hn,Nat.ne_of_gt (Nat.lt_of_lt_of_le I.lt hb),I.nofs hb,.inr (Nat.le_trans I.sz hb),λx c e z=>?_,λp a z=>?_⟩
 ·obtain⟨v,q⟩:=I.cell x c e
  exact absurd (Nat.lt_of_lt_of_le q.lt (by simp_all)) (Nat.lt_irrefl _)
 ·exact absurd (Nat.lt_of_lt_of_le (Heap.lt_size (I.pin p a).1) (by simp_all)) (Nat.lt_irrefl _)
structure Turn (P:Program) (w:World) (K:PySem.W.Frag) (tg:Expr) (J:It) (fp:List Addr) (it:Addr) (tn:Nat->Heap->Prop):Prop where
 mem:it∈fp
 obj:∀i h,tn i h->∀b∈fp,∃o,h.get? b=some o/\∀v,o.data≠.cell v
 keep:∀i h h',tn i h->(∀b∈fp,∀o,h.get? b=some o->h'.get? b=some o)->tn i h'
 item:∀(X:Cx),X.prog=P->X.w=w->X.K=K->X.calm=true->∀(i:Nat) (pins:List (Addr×Obj)) (s:Shared) (σ:St) (H:Hp) (E:Value->Shared->Prop),Inv X pins σ H s->(∀b∈fp,Lr X pins H b)->tn i s.heap->J.go i H ->
  wpAny (model P w) X.A (pyNext (.ref it)) (λr s1=>∃u,r=some u /\
   wpAny (model P w) X.A (letOwnedTupleGo tg (.ref it) u) (λ_ s2=>∃x H',Inv X pins σ H' s2/\RelV x u/\J.yld i H x H'/\tn (i+1) s2.heap/\∀b∈fp,H' b=none) E s1) E s
 done:∀(X:Cx),X.prog=P->X.w=w->X.K=K->X.calm=true->∀(i:Nat) (pins:List (Addr×Obj)) (s:Shared) (σ:St) (H:Hp) (E:Value->Shared->Prop),Inv X pins σ H s->(∀b∈fp,Lr X pins H b)->tn i s.heap->J.stop i H ->
  wpAny (model P w) X.A (pyNext (.ref it)) (λr s1=>r=none/\Inv X pins σ H s1) E s
 self:∀(A:Around) (i:Nat) (s:Shared) (Q:Value->Shared->Prop) (E:Value->Shared->Prop),tn i s.heap->Q (.ref it) s->wpAny (model P w) A (pyIter (.ref it)) Q E s
abbrev TI:=St->Hp->(It->Hp->Prop)->Prop
def PIE (X:Cx)(pins:List (Addr×Obj))(σ:St)(tg:Expr)(R:It->Hp->Prop)(itv:Value)(s2:Shared):Prop :=
 ∃(it:Addr) (fp:List Addr) (tn:Nat->Heap->Prop) (J:It) (H':Hp),itv=.ref it/\Inv X pins σ H' s2/\Turn X.prog X.w X.K tg J fp it tn/\tn 0 s2.heap/\(∀b∈fp,Lr X pins H' b)/\R J H'
def PI (X:Cx)(tg iter:Expr)(wi:TI):Prop :=
 ∀
  (pins:List (Addr×Obj)) (s:Shared) (σ:St) (H:Hp) (R:It->Hp->Prop),Inv X pins σ H s->wi σ H R ->
  wpAny (model X.prog X.w) X.A (eval iter X.env) (λv s1=>wpAny (model X.prog X.w) X.A (pyIter v) (PIE X pins σ tg R) X.xe s1) X.xe s
structure QI (X:Cx) (tg iter:Expr) (wi:TI):Prop where
 get:PI X tg iter wi
theorem At3 (ho:s.heap.get? it=some o) (hc:o.cls=.type n) (hd:o.data=.fields vs)
 (hn:["enumerate", "zip", "dict_itemiterator", "dict_reverseitemiterator", "odict_iterator", "itertools.zip_longest", "itertools.pairwise"].contains n=false) (a:Q () s):wpAny M A (letOwnedTupleGo b (.ref it) u) Q E s:=by
 cases b <;> first
  | exact wpAny_pure a
  | (cases u <;> first
   | exact wpAny_pure a
   | (
    refine wpAny_bind (wpAny_load ho ?_)
    rw[hc,hd]
    show wpAny M A (if (["enumerate", "zip", "dict_itemiterator", "dict_reverseitemiterator", "odict_iterator", "itertools.zip_longest", "itertools.pairwise"].contains n&&vs[0]?==some _)=true then _ else _) Q E s
    rw[if_neg (by intro h;rw[hn]at h;cases h)]
    exact wpAny_pure a))
noncomputable def Itl (K:PySem.W.Frag) (a:Addr):It :=
 ⟨λi H=>∃xs x,SqL K H a xs/\xs[i]?=some x,λi H x H'=>H'=H/\∀xs,SqL K H a xs->xs[i]?=some x,λi H=>∃xs,SqL K H a xs/\xs.length<=i⟩
noncomputable def Itt (K:PySem.W.Frag) (a:Addr):It :=
 ⟨λi H=>∃xs x,SqT K H a xs/\xs[i]?=some x,λi H x H'=>H'=H/\∀xs,SqT K H a xs->xs[i]?=some x,λi H=>∃xs,SqT K H a xs/\xs.length<=i⟩
noncomputable def Itr (lo:Int) (n:Nat):It:=⟨λi _=>i<n,λi H x H'=>H'=H/\x=.int (lo+i),λi _=>n<=i⟩
theorem A1c {P:Program}{w:World}{K:PySem.W.Frag}{tg:Expr}(a it:Addr):Turn P w K tg (Itl K a) [it] it (λi h=>h.IsListIter it a i) where
 mem:=by simp
 obj:=λi h st b hb=>by
  have e:b=it:=by simpa using hb
  subst e;obtain⟨o,e,c,d⟩:=st
  exact⟨o,e,λv z=>by rw[d]at z;cases z⟩
 keep:=λi h h' st k=>st.at λo e=>k it (by simp) o e
 item:=by
  intro X hP hw hK hc i pins s σ H E I hf st hg;subst hP hw hK;obtain⟨xs,x,hq,hx⟩:=hg;obtain⟨its,rv,p,hz⟩:=I.list hq;obtain⟨u,hu,ru⟩:=rv.get hx
  obtain⟨f0,f1,f2,f3,f4,f5⟩:=hf it (by simp)
  refine wpAny_pyNext_list_item st p.isList (x:=u) (by simpa using hu) λh' st' sb=>?_
  have I1:Inv X pins σ H { s with heap:=h' }:=I.turned (t':=s.toks) (λb o hb e=>(sb.2 b hb).trans e) f0 f1 f3 f4 f5
  obtain⟨o,e,c,d⟩:=id st'
  exact⟨u,rfl,At3 (s:={ s with heap:=h' }) e c d (by decide) ⟨x,H,I1,ru,⟨rfl,λys hy=>by rw[I.list_inj hy hq];exact hx⟩,st',λb hb=>(hf b hb).1⟩⟩
 done:=by
  intro X hP hw hK hc i pins s σ H E I hf st hg;subst hP hw hK;obtain⟨xs,hq,hx⟩:=hg;obtain⟨its,rv,p,hz⟩:=I.list hq
  obtain⟨f0,f1,f2,f3,f4,f5⟩:=hf it (by simp)
  have hl:=rv.length
  exact wpAny_pyNext_list_end (I.ok.hd hc) st p.isList (by simp;omega) λh' eb=>⟨rfl,I.turned (t':=s.toks) (λb o hb e=>eb b o hb e) f0 f1 f3 f4 f5⟩
 self:=λ_ _ _ _ _ st h=>wpAny_pyIter_listiter st h
theorem Ao3 {P:Program}{w:World}{K:PySem.W.Frag}{tg:Expr}(a it:Addr):Turn P w K tg (Itt K a) [it] it (λi h=>h.IsTupleIter it a i) where
 mem:=by simp
 obj:=λi h st b hb=>by
  have e:b=it:=by simpa using hb
  subst e;obtain⟨o,e,c,d⟩:=st
  exact⟨o,e,λv z=>by rw[d]at z;cases z⟩
 keep:=λi h h' st k=>st.at λo e=>k it (by simp) o e
 item:=by
  intro X hP hw hK hc i pins s σ H E I hf st hg;subst hP hw hK;obtain⟨xs,x,hq,hx⟩:=hg;obtain⟨its,rv,p,hz⟩:=I.tuple hq;obtain⟨u,hu,ru⟩:=rv.get hx
  obtain⟨f0,f1,f2,f3,f4,f5⟩:=hf it (by simp)
  refine wpAny_pyNext_tuple_item st (show s.heap.IsTuple a its.toArray from p) (x:=u) (by simpa using hu) λh' st' sb=>?_
  have I1:Inv X pins σ H { s with heap:=h' }:=I.turned (t':=s.toks) (λb o hb e=>(sb.2 b hb).trans e) f0 f1 f3 f4 f5
  obtain⟨o,e,c,d⟩:=id st'
  exact⟨u,rfl,At3 (s:={ s with heap:=h' }) e c d (by decide) ⟨x,H,I1,ru,⟨rfl,λys hy=>by rw[I.tuple_inj hy hq];exact hx⟩,st',λb hb=>(hf b hb).1⟩⟩
 done:=by
  intro X hP hw hK hc i pins s σ H E I hf st hg;subst hP hw hK;obtain⟨xs,hq,hx⟩:=hg;obtain⟨its,rv,p,hz⟩:=I.tuple hq
  obtain⟨f0,f1,f2,f3,f4,f5⟩:=hf it (by simp)
  have hl:=rv.length
  exact wpAny_pyNext_tuple_end (I.ok.hd hc) st (show s.heap.IsTuple a its.toArray from p) (by simp;omega) λh' eb=>⟨rfl,I.turned (t':=s.toks) (λb o hb e=>eb b o hb e) f0 f1 f3 f4 f5⟩
 self:=λ_ _ _ _ _ st h=>wpAny_pyIter_tupleiter st h
theorem Ap3 {P:Program}{w:World}{K:PySem.W.Frag}{tg:Expr}(it:Addr)(lo:Int)(n:Nat):Turn P w K tg (Itr lo n) [it] it (λi h=>IsRangeIter h it (lo+(i:Nat)*1) ((n:Int)-(i:Nat)) 1) where
 mem:=by simp
 obj:=λi h st b hb=>by
  have e:b=it:=by simpa using hb
  subst e
  exact⟨_,st,λv z=>by
   have z':Data.fields _=Data.cell v:=z
   cases z'⟩
 keep:=λi h h' st k=>k it (by simp) _ st
 item:=by
  intro X hP hw hK hc i pins s σ H E I hf st hg;subst hP hw hK
  obtain⟨f0,f1,f2,f3,f4,f5⟩:=hf it (by simp)
  have W:=Walks.range (prog:=X.prog) (w:=X.w) (I.ok.hd hc) it lo 1 n
  refine W.item i s _ _ hg st λv h' tk hv st' kk=>?_
  obtain⟨t,rfl⟩:=hv
  have I1:Inv X pins σ H { s with heap:=h',toks:=tk }:=I.turned (λb o hb e=>kk b o (by simpa using hb) e) f0 f1 f3 f4 f5
  refine⟨_,rfl,At3 (s:={ s with heap:=h',toks:=tk }) (n := "range_iterator") st' rfl rfl (by decide) ⟨.int (lo+i),H,I1,⟨t,?_⟩,⟨rfl,rfl⟩,st',λb hb=>(hf b hb).1⟩⟩
  rw[Int.mul_one]
 done:=by
  intro X hP hw hK hc i pins s σ H E I hf st hg;subst hP hw hK
  obtain⟨f0,f1,f2,f3,f4,f5⟩:=hf it (by simp)
  exact wpAny_pyNext_range_end (I.ok.hd hc) st (by have:n<=i:=hg;omega) λh' eb=>⟨rfl,I.turned (t':=s.toks) (λb o hb e=>eb b o hb e) f0 f1 f3 f4 f5⟩
 self:=λ_ _ _ _ _ st h=>wpAny_pyIter_rangeiter st h
section
variable {X:Cx}{tg:Expr}
theorem A4b {lo hi:Int} (I:Inv X pins c H s) (h1:-(2 ^ 62)<=lo) (h2:lo<2 ^ 62) (d:-(2 ^ 62)<=hi) (f:hi<2 ^ 62)
 (q:R (Itr lo (hi-lo).toNat) H):wpAny (model X.prog X.w) X.A (pyIter (.ref s.heap.objs.size)) (PIE X pins c tg R) E { s with heap:=s.heap.push { cls:=.type "range",data:=.fields #[.int lo t,.int hi u,.int 1 v] },toks:=tk }:=by
 refine wpAny_pyIter_range (IsRange.new ..) (small_one h1 h2 d f) ?_
 have a:Inv X _ _ H { s with heap:=s.heap.push { cls:=.type "range",data:=.fields #[.int lo t,.int hi u,.int 1 v] },toks:=tk }:=I.kept λb o e=>Heap.get?_push_of_some _ e
 refine⟨(s.heap.push _).objs.size,[(s.heap.push _).objs.size],_,_,H,rfl,
  a.kept λb o e=>Heap.get?_push_of_some _ e,Ap3 _ _ _,?_,λb i=>?_,q⟩
 ·have h:lo+((0:Nat))*1=lo:=by simp
  have g:(((hi-lo).toNat):Int)-((0:Nat))=Builtin.Range.rangeSize lo hi 1:=by rw[rangeSize_one];grind
  rw[h,g];exact Heap.get?_push_size _ rfl
 ·have e:b=(s.heap.push { cls:=.type "range",data:=.fields #[.int lo t,.int hi u,.int 1 v] }).objs.size:=by grind
  subst e;exact a.fpOk (Nat.le_refl _) (a.hok.fresh (Nat.le_refl _))
def Bk1 (ta:TA):TI:=λσ H R=>ta σ H λvs H1=>∃j:Int,vs=[.int j]/\-(2 ^ 62)<=j/\j<2 ^ 62/\R (Itr 0 j.toNat) H1
theorem Fv (hg:Gl X "range") (hm:X.mg "range" = none) (ha:QA X [a] d) (hs:starEach [a] X.env=[(false,eval a X.env)]:=by rfl):QI X tg (.Call (.Name "range" p) [a] [] b) (Bk1 d):=by
 refine⟨?_⟩
 intro f s σ H R I h
 refine Call_ (My I hg hm boot_range (PyProof.Rows.callWith_type1 (thn (ha.1 _ _ s _ H _ I h) λus s1 ⟨vs,H1,g,i,c⟩=>?_) hs rfl))
 obtain⟨j,e,c,k,q⟩:=c;subst e
 cases i with
 | cons r l =>
  cases l
  obtain⟨t,rfl⟩:=r
  exact call_range_1 (A4b g (by omega) (by omega) c k (by grind))
def Bn4 (wi:TI)(g:TG)(tb:TS):TS:=λD σ H=>wi σ H λJ H1=>∃W:Nat->Nat->St->Hp->Prop,(∃m,W 0 m σ H1)/\∀i m σ H,W i m σ H ->
 (J.stop i H/\D.nx σ H)\/(J.go i H/\∃N:St->Hp->Prop,(∀σ' H',N σ' H'->∃m',m'<m/\W (i+1) m' σ' H')/\∀x H',J.yld i H x H'->g x σ H' λσ2 H2=>tb { D with nx:=N,ct:=N,bk:=D.nx } σ2 H2)
noncomputable def Ry (fp:List Addr) (h:Heap):List (Addr×Obj):=fp.filterMap λb=>(h.get? b).map λo=>(b,o)
theorem Hj (hb:b∈fp) (e:h.get? b=some o):(b,o)∈Ry fp h:=List.mem_filterMap.mpr ⟨b,hb,by grind⟩
theorem A2f (hp:p∈Ry fp h):p.1∈fp/\h.get? p.1=some p.2:=by
 obtain⟨b,a,e⟩:=List.mem_filterMap.mp hp
 cases q:h.get? b with
 | none=>simp_all
 | some o =>
  grind
theorem Inv.pinned (I:Inv X pins a H s) (hf:∀b∈fp,Lr X pins H b) (ho:∀b∈fp,∃o,s.heap.get? b=some o/\∀v,o.data≠.cell v):Inv X (pins++Ry fp s.heap) a H s :=
 I.pins_of λp d=>(List.mem_append.mp d).elim (λz=>I.pin p (List.mem_append_right _ z)) λz=>by
  obtain⟨c,e⟩:=A2f z;obtain⟨g,h,f,_⟩:=hf _ c
  grind
theorem Inv.unpinned (I:Inv X (pins++pl) a H s):Inv X pins a H s:=I.pins_of λp b=>I.pin p (List.mem_append_right _ (List.mem_append_left _ b))
theorem Mq (hp:PassesOwn (model X.prog X.w) X.A X.env X.xe) (hc:X.calm=true) (hi:QI X tg p Z) (hg:QG X tg g) (hb:QSs X body tb)
 (hs:∀x,foldedSetIterable p X.env x=pure x:=by intro _;rfl):QS X (.For tg p body [] P) (Bn4 Z g tb):=by
 obtain⟨hb⟩:=hb
 refine⟨?_⟩
 intro a s σ H D I h
 refine wpAny_For (thn (hi.1 a s σ H _ I h) λv s1 h1=>thn h1 λitv s2 h2=>?_) hs
 obtain⟨it,C,tn,J,H2,e,I2,T,Q,Y,W,⟨m0,w0⟩,E⟩:=h2;subst e
 have k:∀{t:Hp},(∀b∈C,t b=none)->∀b∈C,Lr X a t b:=λhn b hb=>⟨hn b hb,(Y b hb).2⟩
 refine codeAny_forLoop_any (λn U=>∃i σ' t,Inv X a σ' t U/\tn i U.heap/\(∀b∈C,t b=none)/\W i n σ' t) ?_ m0 ⟨0,σ,H2,I2,Q,λb hb=>(Y b hb).1,w0⟩
 rintro n V ⟨i,j,L,I3,B,F,w3⟩
 rcases E i n j L w3 with ⟨A,qn⟩ | ⟨go,N,hN,K⟩
 ·refine wpAny_passesOwn hp (thn (T.done X rfl rfl rfl hc i a V j L X.xe I3 (k F) B A) λr s4 ⟨M,I4⟩=>?_)
  subst M;exact wpAny_execs_nil ⟨j,L,I4,qn⟩
 ·refine wpAny_passesOwn hp (thn (T.item X rfl rfl rfl hc i a V j L X.xe I3 (k F) B go) λr s4 ⟨u,M,h4⟩=>?_)
  subst M
  refine wpAny_passesOwn hp (thn h4 λ_ s5 ⟨x,S,I5,r5,y5,z,O⟩=>?_)
  refine wpAny_passesOwn hp (thn (hg.1 _ s5 j S x u _ (I5.pinned (k O) (T.obj _ _ z)) r5 (K x S y5)) λ_ s6 ⟨R,H6,I6,q6⟩=>?_)
  refine wpAny_passesOwn hp (thn (hb _ s6 R H6 _ I6 q6) λf s7 y=>?_)
  have l:∀{c:St} {w:Hp},Inv X (a++Ry C s5.heap) c w s7->N c w->∃m,m<n/\∃i σ' t,Inv X a σ' t _/\tn i _/\(∀b∈C,t b=none)/\W i m σ' t:=λ{c w} q G=>by
   obtain⟨m',hm,w7⟩:=hN _ _ G
   refine⟨m',hm,i+1,c,w,q.unpinned,T.keep _ _ _ z λb hb o e=>(q.pin _ (List.mem_append_right _ (List.mem_append_right _ (Hj hb e)))).1,λb hb=>?_,w7⟩
   obtain⟨o,e,d⟩:=T.obj _ _ z b hb;exact(q.pin _ (List.mem_append_right _ (List.mem_append_right _ (Hj hb e)))).2.1
  cases f with
  | next=>obtain⟨c,w,q,G⟩:=y;exact l q G
  | cont=>obtain⟨c,w,q,G⟩:=y;exact l q G
  | brk=>obtain⟨c,w,q,y⟩:=y;exact⟨c,w,q.unpinned,y⟩
  | ret v=>obtain⟨x7,c,w,q,r7,y⟩:=y;exact⟨x7,c,w,q.unpinned,r7,y⟩
end
abbrev R2:=V->V->Hp->VK->Prop
def OpR (X:Cx)(f:Value->Value->Sem Value)(r:R2):Prop :=
 ∀
  (pins:List (Addr×Obj)) (s:Shared) (σ:St) (H:Hp) (x y:V) (v u:Value) (Q:VK),Inv X pins σ H s->RelV x v->RelV y u->r x y H Q ->
  wpAny (model X.prog X.w) X.A (f v u) (EP X pins σ Q) X.xe s
def UnR (X:Cx)(f:Value->Sem Value)(r:V->Hp->VK->Prop):Prop :=
 ∀
  (pins:List (Addr×Obj)) (s:Shared) (σ:St) (H:Hp) (x:V) (v:Value) (Q:VK),Inv X pins σ H s->RelV x v->r x H Q ->
  wpAny (model X.prog X.w) X.A (f v) (EP X pins σ Q) X.xe s
def zE (X:Cx)(f:Value)(r:List V->Hp->VK->Prop):Prop :=
 ∀
  (pins:List (Addr×Obj)) (s:Shared) (σ:St) (H:Hp) (xs:List V) (us:List Value) (Q:VK),Inv X pins σ H s->Vals xs us->r xs H Q ->
  wpAny (model X.prog X.w) X.A (call f us) (EP X pins σ Q) X.xe s
def tOp (r:R2)(ta tb:TE):TE:=λσ H Q=>ta σ H λx H1=>tb σ H1 λy H2=>r x y H2 Q
def tUn (r:V->Hp->VK->Prop)(ta:TE):TE:=λσ H Q=>ta σ H λx H1=>r x H1 Q
def rI (C:Int->Int->Prop)(g:Int->Int->V):R2:=λx y H Q=>∃i j,x=.int i/\y=.int j/\C i j/\Q (g i j) H
def rI0 (g:Int->Int->V):R2:=λx y H Q=>∃i j,x=.int i/\y=.int j/\Q (g i j) H
def rU (g:Int->V):V->Hp->VK->Prop:=λx H Q=>∃i,x=.int i/\Q (g i) H
section
variable {X:Cx}{a b c:Expr}{ta tb:TE}{pos:Pos}
theorem Bu3 (ha:PE X a ta)(hb:PE X b tb) {R:V->V->Hp->Prop}(I:Inv X pins g H s)
 (h:ta g H λx j=>tb g j λy c=>R x y c) {f:Value->Value->Sem Value}
 (hf:∀v u i x y c,Inv X pins g c i->RelV x v->RelV y u->R x y c->wpAny (model X.prog X.w) X.A (f v u) Q X.xe i) :
 wpAny (model X.prog X.w) X.A (eval a X.env) (λv d=>wpAny (model X.prog X.w) X.A (eval b X.env) (λu e=>wpAny (model X.prog X.w) X.A (f v u) Q X.xe e) X.xe d) X.xe s:=by
 refine thn (ha _ s _ H _ I h) λv o ⟨x,j,k,n,l⟩=>?_
 refine thn (hb _ _ _ _ _ k l) λu i ⟨y,c,p,q,m⟩=>?_
 grind
theorem Xb (ho:OpR X (binaryOp op) r) (ha:PE X a ta) (hb:PE X b tb):PE X (.BinOp a op b pos) (tOp r ta tb):=by
 intro c s g H Q I h
 exact wpAny_BinOp (Bu3 ha hb I h λv u i x y j f e d q=>ho _ _ _ _ x y v u Q f e d q)
theorem B0o (ho:UnR X (unaryOp op) r) (ha:PE X a ta):PE X (.UnaryOp op a pos) (tUn r ta):=by
 intro b s f H Q I h
 exact UnaryOp_ (thn (ha _ s _ H _ I h) λv g ⟨x,i,e,d,c⟩=>ho _ _ _ _ x v Q e d c)
theorem opI {g:Int->Int->Int}
 (a:∀(i j:Int) (t u:Tok) (s:Shared) (Q:Value->Shared->Prop) (E:Value->Shared->Prop),C i j->Q (.int (g i j) s.toks) { s with toks:=s.toks+1 }->wpAny (model X.prog X.w) X.A (f (.int i t) (.int j u)) Q E s) :
 OpR X f (rI C λi j=>.int (g i j)):=by
 intro b s σ H x y v u Q I c e h;obtain⟨i,j,rfl,rfl,d,q⟩:=h;obtain⟨t,rfl⟩:=c;obtain⟨t',rfl⟩:=e;exact a i j t _ s _ _ d ⟨.int _,H,I.tok _,⟨_,rfl⟩,q⟩
theorem Ww {g:Int->Int->Int}
 (a:∀(i j:Int) (t u:Tok) (s:Shared) (Q:Value->Shared->Prop) (E:Value->Shared->Prop),Q (.int (g i j) s.toks) { s with toks:=s.toks+1 }->wpAny (model X.prog X.w) X.A (f (.int i t) (.int j u)) Q E s) :
 OpR X f (rI0 λi j=>.int (g i j)):=by
 intro b s σ H x y v u Q I c d h;obtain⟨i,j,rfl,rfl,q⟩:=h;obtain⟨t,rfl⟩:=c;obtain⟨t',rfl⟩:=d;exact a i j t _ s _ _ ⟨.int _,H,I.tok _,⟨_,rfl⟩,q⟩
theorem Bh0 {g:Int->Int->Bool}
 (a:∀(i j:Int) (t u:Tok) (s:Shared) (Q:Value->Shared->Prop) (E:Value->Shared->Prop),Q (.bool (g i j)) s->wpAny (model X.prog X.w) X.A (f (.int i t) (.int j u)) Q E s) :
 OpR X f (rI0 λi j=>.bl (g i j)):=by
 intro b s σ H x y v u Q I c d h;obtain⟨i,j,rfl,rfl,q⟩:=h;obtain⟨t,rfl⟩:=c;obtain⟨t',rfl⟩:=d;exact a i j t _ s _ _ ⟨.bl _,H,I,rfl,q⟩
def Be4 (i j:Int):Prop:=0<j/\j<1073741824
def A9a (i j:Int):Prop:=0<=j/\j<=1000000/\i.natAbs<2 ^ 64
def CMul (i j:Int):Prop:=(-(2 ^ 64)<i/\i<2 ^ 64)\/(-(2 ^ 64)<j/\j<2 ^ 64)
theorem CMul.ok (h:CMul i j):IntMulOk i j:=by
 rcases h with ⟨b,a⟩ | ⟨b,a⟩
 ·exact .of_left (intBits_le_64 b a)
 ·exact .of_right (intBits_le_64 b a)
theorem Bv5:OpR X (binaryOp .Add) (rI0 λi j=>.int (i+j)):=Ww λ_ _ _ _ _ _ _ q=>add_int q
theorem Bs5:OpR X (binaryOp .Sub) (rI0 λi j=>.int (i-j)):=Ww λ_ _ _ _ _ _ _ q=>sub_int q
theorem Bm7:OpR X (binaryOp .Mult) (rI CMul λi j=>.int (i*j)):=opI λ_ _ _ _ _ _ _ a q=>mul_int q a.ok
theorem Bf8:OpR X (binaryOp .FloorDiv) (rI Be4 λi j=>.int (i / j)):=opI λi j _ _ _ _ _ a q=>by
 have c:(0:Int)<j:=a.1;have b:j<1073741824:=a.2
 exact floordiv_int (by omega) (by rw[Int.fdiv_eq_ediv_of_nonneg i (by omega)];exact q) (.inl (PyProof.noPylong_small (by omega)))
theorem Bo1:OpR X (binaryOp .Mod) (rI (λ_ j=>0<j) λi j=>.int (i % j)):=opI λi j _ _ _ _ _ a q=>by
 have b:(0:Int)<j:=a
 exact mod_int' (by omega) (by rw[Int.fmod_eq_emod_of_nonneg i (by omega)];exact q)
theorem Bu4:OpR X (binaryOp .Pow) (rI A9a λi j=>.int (i ^ j.toNat)):=opI λ_ _ _ _ _ _ _ a q=>pow_int_small a.1 a.2.1 a.2.2 q
theorem unI {g:Int->Int}
 (a:∀(i:Int) (t:Tok) (s:Shared) (Q:Value->Shared->Prop) (E:Value->Shared->Prop),Q (.int (g i) s.toks) { s with toks:=s.toks+1 }->wpAny (model X.prog X.w) X.A (f (.int i t)) Q E s) :
 UnR X f (rU λi=>.int (g i)):=by
 intro b s σ H x v Q I c h;obtain⟨i,rfl,q⟩:=h;obtain⟨t,rfl⟩:=c;exact a i t s _ _ ⟨.int _,H,I.tok _,⟨_,rfl⟩,q⟩
theorem Bo4:UnR X (unaryOp .USub) (rU λi=>.int (-i)):=unI λ_ _ _ _ _ q=>neg_int q
end
noncomputable def B1d:V->V->Bool
 | .non,.non=>true | .non,.int _=>true | .int _,.non=>true | .non,.bl _=>true | .bl _,.non=>true | .non,.str _=>true | .str _,.non=>true
 | .int _,.int _=>true | .bl _,.bl _=>true | .str _,.str _=>true | .byt _,.byt _=>true
 | .int _,.str _=>true | .str _,.int _=>true | .bl _,.str _=>true | .str _,.bl _=>true
 | _,_=>false
def rEq:R2:=λx y H Q=>B1d x y=true/\Q (.bl (decide (x=y))) H
def rNe:R2:=λx y H Q=>B1d x y=true/\Q (.bl (!decide (x=y))) H
theorem As2 : decide (V.int i=V.int j)=(i==j):=by
 grind
theorem A3a : decide (V.bl i=V.bl j)=(i==j):=by
 grind
theorem At6 : decide (V.str i=V.str j)=(i==j):=by
 grind
theorem Av1 : decide (V.byt i=V.byt j)=(i.toList==j.toList):=by
 rw[Bool.eq_iff_iff]
 simp_all
section
variable {X:Cx}{a b c:Expr}{ta tb:TE}{pos:Pos}
theorem Cd {b:St} {k a:Bool}(I:Inv X pins b H s) (q:Q (.bl k) H) (e:k=a):EP X pins b Q (.bool a) s:=by
 subst e;exact⟨.bl k,H,I,rfl,q⟩
theorem By7:OpR X (compareOp .Eq) rEq:=by
 intro e s σ H x y v u Q I d a h;obtain⟨c,q⟩:=h
 cases x with
 | non =>
  cases d
  cases y with
  | non=>cases a;exact PySem.EqNone.eq_none_none (Cd I q (by simp))
  | bl j=>cases a;exact PySem.EqNone.eq_none_bool (Cd I q (by simp))
  | int j=>obtain⟨b,rfl⟩:=a;exact PySem.EqNone.eq_none_int (Cd I q (by simp))
  | str j=>obtain⟨b,rfl⟩:=a;exact PySem.EqNone.eq_none_str (Cd I q (by simp))
  | _=>exact absurd (show false=true from c) Bool.false_ne_true
 | bl i =>
  cases d
  cases y with
  | non=>cases a;exact PySem.EqNone.eq_bool_none (Cd I q (by simp))
  | bl j=>cases a;exact eq_bool (Cd I q A3a)
  | str j=>obtain⟨b,rfl⟩:=a;exact PySem.EqMixed.eq_bool_str (Cd I q (by simp))
  | _=>exact absurd (show false=true from c) Bool.false_ne_true
 | int i =>
  obtain⟨t,rfl⟩:=d
  cases y with
  | non=>cases a;exact PySem.EqNone.eq_int_none (Cd I q (by simp))
  | int j=>obtain⟨b,rfl⟩:=a;exact eq_int (Cd I q As2)
  | str j=>obtain⟨b,rfl⟩:=a;exact PySem.EqMixed.eq_int_str (Cd I q (by simp))
  | _=>exact absurd (show false=true from c) Bool.false_ne_true
 | str i =>
  obtain⟨t,rfl⟩:=d
  cases y with
  | non=>cases a;exact PySem.EqNone.eq_str_none (Cd I q (by simp))
  | bl j=>cases a;exact PySem.EqMixed.eq_str_bool (Cd I q (by simp))
  | int j=>obtain⟨b,rfl⟩:=a;exact PySem.EqMixed.eq_str_int (Cd I q (by simp))
  | str j=>obtain⟨b,rfl⟩:=a;exact eq_str (Cd I q At6)
  | _=>exact absurd (show false=true from c) Bool.false_ne_true
 | byt i =>
  obtain⟨t,rfl⟩:=d
  cases y with
  | byt j=>obtain⟨b,rfl⟩:=a;exact PySem.W.eq_bytes (Cd I q Av1)
  | _=>exact absurd (c) Bool.false_ne_true
 | _=>cases y <;> exact absurd (show false=true from c) Bool.false_ne_true
theorem B1h:OpR X (compareOp .NotEq) rNe:=by
 intro e s σ H x y v u Q I d a h;obtain⟨c,q⟩:=h
 cases x with
 | non =>
  cases d
  cases y with
  | non=>cases a;exact PySem.EqNone.ne_none_none (Cd I q (by simp))
  | bl j=>cases a;exact PySem.EqNone.ne_none_bool (Cd I q (by simp))
  | int j=>obtain⟨b,rfl⟩:=a;exact PySem.EqNone.ne_none_int (Cd I q (by simp))
  | str j=>obtain⟨b,rfl⟩:=a;exact PySem.EqNone.ne_none_str (Cd I q (by simp))
  | _=>exact absurd (show false=true from c) Bool.false_ne_true
 | bl i =>
  cases d
  cases y with
  | non=>cases a;exact PySem.EqNone.ne_bool_none (Cd I q (by simp))
  | bl j=>cases a;exact ne_bool (Cd I q (congrArg not A3a))
  | str j=>obtain⟨b,rfl⟩:=a;exact PySem.EqMixed.ne_bool_str (Cd I q (by simp))
  | _=>exact absurd (show false=true from c) Bool.false_ne_true
 | int i =>
  obtain⟨t,rfl⟩:=d
  cases y with
  | non=>cases a;exact PySem.EqNone.ne_int_none (Cd I q (by simp))
  | int j=>obtain⟨b,rfl⟩:=a;exact ne_int (Cd I q (congrArg not As2))
  | str j=>obtain⟨b,rfl⟩:=a;exact PySem.EqMixed.ne_int_str (Cd I q (by simp))
  | _=>exact absurd (show false=true from c) Bool.false_ne_true
 | str i =>
  obtain⟨t,rfl⟩:=d
  cases y with
  | non=>cases a;exact PySem.EqNone.ne_str_none (Cd I q (by simp))
  | bl j=>cases a;exact PySem.EqMixed.ne_str_bool (Cd I q (by simp))
  | int j=>obtain⟨b,rfl⟩:=a;exact PySem.EqMixed.ne_str_int (Cd I q (by simp))
  | str j=>obtain⟨b,rfl⟩:=a;exact ne_str (Cd I q (congrArg not At6))
  | _=>exact absurd (show false=true from c) Bool.false_ne_true
 | byt i =>
  obtain⟨t,rfl⟩:=d
  cases y with
  | byt j=>obtain⟨b,rfl⟩:=a;exact PySem.W.ne_bytes (Cd I q (congrArg not Av1))
  | _=>exact absurd (c) Bool.false_ne_true
 | _=>cases y <;> exact absurd (show false=true from c) Bool.false_ne_true
theorem B2e:OpR X (compareOp .Lt) (rI0 λi j=>.bl (decide (i<j))):=Bh0 λ_ _ _ _ _ _ _ q=>lt_int q
theorem B1w:OpR X (compareOp .LtE) (rI0 λi j=>.bl (decide (i<=j))):=Bh0 λ_ _ _ _ _ _ _ q=>le_int q
theorem B0i:OpR X (compareOp .Gt) (rI0 λi j=>.bl (decide (j<i))):=Bh0 λ_ _ _ _ _ _ _ q=>gt_int q
theorem B0b:OpR X (compareOp .GtE) (rI0 λi j=>.bl (decide (j<=i))):=Bh0 λ_ _ _ _ _ _ _ q=>ge_int q
theorem A1q:OpR X (compareOp .In) (λx y H Q=>∃i j,x=.str i/\y=.str j/\Q (.bl (!(Builtin.Str.occurrences j i 0 j.length 1).isEmpty)) H):=by
 intro a s σ H x y v u Q I b c h;obtain⟨i,j,rfl,rfl,q⟩:=h;obtain⟨t,rfl⟩:=b;obtain⟨t',rfl⟩:=c;exact in_str (Cd I q rfl)
theorem A8n:OpR X (compareOp .Is) (λx y H Q=>y=.non/\Q (.bl (decide (x=.non))) H):=by
 intro a s σ H x y v u Q I c b h;obtain⟨rfl,q⟩:=h
 cases b
 refine is_none_gen (Cd I q ?_)
 cases x <;> first
  | omega
  | (obtain⟨t,rfl⟩:=c;rfl)
theorem OpR.or {r b:R2}(h:OpR X f r) (h':OpR X f b):OpR X f (λx y H Q=>r x y H Q\/b x y H Q):=by
 intro c s e H x y v u Q I d a q
 rcases q with q | q
 ·exact h _ s _ H x y v u Q I d a q
 ·exact h' _ s _ H x y v u Q I d a q
theorem La (b:Expr) (h:op≠.In:=by decide) (h2:op≠.NotIn:=by decide):behindInMarks op b=false:=by
 have c:(op==CmpOp.In)=false:=by grind
 have a:(op==CmpOp.NotIn)=false:=by grind
 cases b <;> simp[behindInMarks,c,a]
theorem Pn (ho:OpR X (compareOp op) r) (ha:PE X a ta) (hb:PE X b tb) (hm:behindInMarks op b=false):PE X (.Compare a [op] [b] pos) (tOp r ta tb):=by
 intro c s g H Q I h
 exact wpAny_Compare1 (Bu3 ha hb I h λv u i x y j f e d q=>ho _ _ _ _ x y v u Q f e d q) hm
def Tc (t:TE):TT:=λσ H Q=>t σ H λx H'=>∃k,x=.bl k/\Q k H'
theorem M9 (ho:OpR X (compareOp op) r) (ha:PE X a ta) (hb:PE X b tb) (hm:behindInMarks op b=false):PT X (.Compare a [op] [b] pos) (Tc (tOp r ta tb)):=by
 intro d s t H Q I h
 refine wpAny_isTrue_Compare1 (thn (ha _ s _ H _ I h) λv C ⟨x,D,j,l,m⟩=>thn (hb _ _ _ _ _ j m) λu w ⟨y,B,i,g,o⟩ =>
  thn (ho _ _ _ _ x y v u _ i l g o) λc A ⟨z,n,p,q,k,e,f⟩=>?_) hm
 subst e
 cases q
 exact wpAny_truthy_bool ⟨n,p,f⟩
theorem Vp:(sizeLine:Nat)<2 ^ 63:=by decide
theorem An6:OpR X (binaryOp .Add) (λx y H Q=>∃i j,x=.str i/\y=.str j/\i.length+j.length<=sizeLine/\Q (.str (i++j)) H):=by
 intro a s σ H x y v u Q I c b h;obtain⟨i,j,rfl,rfl,e,q⟩:=h;obtain⟨t,rfl⟩:=c;obtain⟨d,rfl⟩:=b
 exact add_str (λd tk=>⟨.str _,H,I.tok _,⟨_,rfl⟩,q⟩) e
theorem vals1 (r:Vals [x] us):∃u,us=[u]/\RelV x u:=by
 cases r with
 | cons b a=>cases a;grind
theorem vals2 (r:Vals [x,y] us):∃u w',us=[u,w']/\RelV x u/\RelV y w':=by
 cases r with
 | cons c b =>
  cases b with
  | cons d a=>cases a;grind
theorem A8r:zE X (.builtin "abs") (λxs H Q=>∃i,xs=[.int i]/\Q (.int (if i<0 then -i else i)) H):=by
 intro a s σ H xs us Q I r h;obtain⟨i,rfl,q⟩:=h;obtain⟨u,rfl,t,rfl⟩:=vals1 r
 exact call_abs_int λu tk=>⟨.int _,H,I.tok _,⟨_,rfl⟩,q⟩
theorem A1p (hc:X.calm=true):zE X (.builtin "min") (λxs H Q=>∃i j,xs=[.int i,.int j]/\Q (.int (if j<i then j else i)) H):=by
 intro a s σ H xs us Q I r h;obtain⟨i,j,rfl,q⟩:=h;obtain⟨u,w',rfl,⟨t,rfl⟩,⟨t',rfl⟩⟩:=vals2 r
 refine min_two_ints (I.ok.hd hc) λh' tk k=>⟨_,H,I.kept k,?_,q⟩
 by_cases hj:j<i
 ·rw[if_pos hj,if_pos hj];exact⟨_,rfl⟩
 ·rw[if_neg hj,if_neg hj];exact⟨_,rfl⟩
theorem A1t:zE X (.type "int") (λxs H Q=>(∃i,xs=[.int i]/\Q (.int i) H)\/∃k,xs=[.bl k]/\Q (.int (if k then 1 else 0)) H):=by
 intro a s σ H xs us Q I r h
 rcases h with ⟨i,rfl,q⟩ | ⟨k,rfl,q⟩
 ·obtain⟨u,rfl,t,rfl⟩:=vals1 r
  exact call_int_int ⟨.int i,H,I,⟨_,rfl⟩,q⟩
 ·obtain⟨u,rfl,b⟩:=vals1 r
  cases b
  exact call_int_bool ⟨.int _,H,I.tok _,⟨_,rfl⟩,q⟩
def B0a (K:PySem.W.Frag)(x:V)(H:Hp)(n:Nat):Prop :=
 match x with
 | .str y=>y.length<=sizeLine/\n=y.length
 | .byt y=>y.size<=sizeLine/\n=y.size
 | .ref p=>(∃xs,SqL K H p xs/\n=xs.length)\/∃xs,SqT K H p xs/\n=xs.length
 | _=>False
theorem Af5:zE X (.builtin "len") (λxs H Q=>∃x n,xs=[x]/\B0a X.K x H n/\Q (.int n) H):=by
 intro j s σ H xs us Q I r h;obtain⟨x,n,rfl,e,q⟩:=h;obtain⟨u,rfl,d⟩:=vals1 r;have hl:=Vp;have hs:sizeLine=16777216:=sizeLine_eq
 cases x with
 | str y =>
  obtain⟨t,rfl⟩:=d;obtain⟨l,b⟩:y.length<=sizeLine/\n=y.length:=e;subst b
  exact len_str (by omega) ⟨.int _,H,I.tok _,⟨_,rfl⟩,q⟩
 | byt y =>
  obtain⟨t,rfl⟩:=d;obtain⟨l,b⟩:y.size<=sizeLine/\n=y.size:=e;subst b
  exact PySem.W.len_bytes (by omega) ⟨.int _,H,I.tok _,⟨_,rfl⟩,q⟩
 | ref p =>
  cases d
  have b := e
  rcases b with ⟨xs,c,b⟩ | ⟨xs,c,b⟩
  ·subst b
   obtain⟨g,f,i,k⟩:=I.list c;have a:=f.length
   exact Calls.call_len_list i.isList (by grind) ⟨.int _,H,I.tok _,⟨_,by simp only[List.size_toArray];rw[a]⟩,q⟩
  ·subst b
   obtain⟨g,f,i,k⟩:=I.tuple c;have a:=f.length
   exact len_tuple i (by grind) ⟨.int _,H,I.tok _,⟨_,by simp only[List.size_toArray];rw[a]⟩,q⟩
 | _=>trivial
end
structure ObjM (h:Heap) (x dx C:Addr) (mA:Str->Option Value):Prop where
 obj:h.get? x=some (PySem.W.instObj C dx)
 ns:h.Ns1 dx mA
 ne:dx≠x
theorem A0o {h:Heap} (n:h.Ns1 d f):∃od,h.get? d=some od/\∀b,PySem.W.lookIn b od=some (f b):=by
 obtain⟨o,g,p,i,j,k,_,l⟩:=n
 refine⟨o,i,λb=>?_⟩
 have e:=l b;unfold nsFind findBy at e;unfold PySem.W.lookIn;rw[j]
 dsimp only
 split
 ·grind
 ·have a:g.toList.any (·.refKey)=false:=by
   rw[List.any_eq_false];intro y m;obtain⟨z,t,c⟩:=k y (Array.mem_toList_iff.mp m)
   simp[DictEntry.refKey,c]
  grind
theorem ObjM.look (I:ObjM h x b C a):∃od,PySem.W.InstAt h x (PySem.W.instObj C b) C (some od)/\∀name,PySem.W.lookIn name od=some (a name) :=
 let ⟨od,ho,hl⟩:=A0o I.ns
 ⟨od,⟨I.obj,rfl,rfl,ho⟩,hl⟩
section
variable {prog:Program}{w:World}{A:Around}{E:Value->Shared->Prop}{s:Shared}{K:PySem.W.Frag}{x dx C f:Addr}{mA:Str->Option Value}{name:Str}{v:Value}
theorem Yt (X:K.In s.heap) (I:ObjM s.heap x dx C mA)
 (hs:PySem.W.findIn K (.ref C) "__setattr__" = some (some (.builtin "object.__setattr__"))) (hp:PySem.W.plainOver K C=true) (ht:PySem.W.takerIn K C name=some none) (k:PySem.W.hasDictIn K C=true)
 (hw:PySem.Within mA ns) (hsz:ns.length<=sizeLine)
 (h:∀d,ObjM d x dx C (λy=>if y=name then some v else mA y)->Heap.SameBut dx s.heap d->Q () { s with heap:=d,toks:=s.toks+2 }) :
 wpAny (model prog w) A (setAttr (.ref x) name v) Q E s:=by
 obtain⟨r,J,p⟩:=I.look
 refine PySem.W.set_plain X J hs (PySem.W.osa_open X J hp ht λb=>?_)
 obtain⟨o,l,g⟩:=PySem.W.any_some k;have n := I.obj
 refine wpAny_bind (wpAny_pure (wpAny_bind (wpAny_bind (wpAny_loadPart n (wpAny_bind (PySem.W.Looks.here (PySem.W.looks_clsIn X l) ?_))))))
 rw[g]
 refine wpAny_pure (wpAny_bind (wpAny_pure (wpAny_bind ?_)))
 refine wpAny_nsSet1 I.ns λd c a=>?_
 obtain⟨q,j,m,f,i,e⟩:=c.count (PySem.Within.cons _ v hw)
 refine wpAny_bind (wpAny_lookBehind f (by rw[i];exact pastItsLine_dict (Nat.le_trans e (by simp_all))) ?_)
 exact wpAny_pure (h _ ⟨(a.2 _ (Ne.symm I.ne)).trans I.obj,c,I.ne⟩ a)
end
section
variable {s:Shared}{f:Str}{A:Around}{E:Value->Shared->Prop}
theorem Bf1 {prog:Program}{w:World}{env:Env}{e:Expr}{f:Str}{pos:Pos}{s:Shared}{Q:Value->Shared->Prop}(hb:attributeBase e f env (eval e env)=eval e env)
 (h:wpAny (model prog w) A (eval e env) (λo s₁=>wpAny (model prog w) A (getAttr o f true) Q E s₁) E s):wpAny (model prog w) A (eval (.Attribute e f pos) env) Q E s :=
 Attribute_any_ h (by rw[arm_eval_Attribute,hb])
end
structure Room (k:Nat) (A:Around):Prop where
 hd:A.handled=none
 dp:A.depth+3*k+5<recursionLimit
 un:A.units+16*k+200<cLine
 gd:A.guards=some []
theorem Room.mono (r:Room k A) (h:j<=k):Room j A:=⟨r.hd,by have:=r.dp;omega,by have:=r.un;omega,r.gd⟩
theorem Room.deeper (r:Room (k+1) A) (env:Env):Room k (A.deeper env) :=
 ⟨r.hd,by have:=r.dp;show A.depth+1+3*k+5<_;omega,by have:=r.un;show A.units+3+16*k+200<_;omega,r.gd⟩
theorem Room.in1 (r:Room (k+1) A):Room k A.in1 :=
 ⟨r.hd,by have:=r.dp;grind,by have:=r.un;grind,r.gd⟩
theorem Ak4 {A:Around}{C:Addr}{us:List Value}{kw:List (Str×Value)}:(A.under (.builtin "type.__call__" ⟨.ref C::us,kw⟩)).depth=A.depth+1:=by
 first | rfl | simp[Around.under,Code.weight,Code.isCreation,Code.isGuard,Code.isCaller,Code.frames,Code.isFrame,guardIds]
theorem Am1 {A:Around}{C:Addr}{us:List Value}{kw:List (Str×Value)}:(A.under (.builtin "type.__call__" ⟨.ref C::us,kw⟩)).units=A.units+1:=by
 first | rfl | simp[Around.under,Code.cUnits,Code.frames,Code.isFrame]
theorem Room.make {k:Nat}{A:Around}(r:Room (k+1) A)(C:Addr)(us:List Value)(kw:List (Str×Value)):Room k (A.under (.builtin "type.__call__" ⟨.ref C::us,kw⟩)) :=
 ⟨r.hd,by have:=r.dp;rw[Ak4];omega,by have:=r.un;rw[Am1];omega,by first | exact r.gd | (show (A.under _).guards=some [];rw[<- r.gd];rfl) | simp[Around.under,Code.guards,Code.isGuard,guardIds,r.gd]⟩
theorem Room.depth (r:Room k A):A.depth<recursionLimit:=by have:=r.dp;omega
theorem Room.units (r:Room k A):A.units+64<cLine:=by have:=r.un;omega
def Fp:TA:=λ_ H Q=>Q [] H
def Cj (ta:TE)(tr:TA):TA:=λσ H Q=>ta σ H λx H1=>tr σ H1 λxs H2=>Q (x::xs) H2
section
variable {X:Cx}{e:Expr}{es:List Expr}{te:TE}{t:TA}{pos:Pos}
theorem Ri:PA X [] Fp:=λ_ _ _ _ H Q I h=>Calls.spliced_nil ⟨[],H,I,.nil,h⟩
theorem Au0 (ha:PE X e te)(hr:PA X es t)(hs:starEach (e::es) X.env=(false,eval e X.env)::starEach es X.env:=by rfl):PA X (e::es) (Cj te t):=by
 intro d a s m H Q I h;rw[hs]
 refine Calls.spliced_cons (thn (ha _ s _ H _ I h) λu o ⟨x,n,f,g,i⟩=>?_)
 exact thn (hr _ _ _ _ _ _ f i) λp q ⟨c,k,j,l,b⟩=>⟨x::c,k,j,.cons g l,b⟩
def Bi5 (t:TA):TE:=λσ H Q=>t σ H λxs H1=>xs.length<=sizeLine/\∀p,H1 p=none->Q (.ref p) (upd H1 p (.tup xs))
def Bv0 (t:TA):TE:=λσ H Q=>t σ H λxs H1=>xs.length<=sizeLine/\∀p,H1 p=none->Q (.ref p) (upd H1 p (.lst xs))
theorem Gv (h:QA X es t):QE X (.Tuple es d pos) (Bi5 t):=by
 refine⟨?_⟩
 intro a s i H Q I g
 refine wpAny_Tuple_spliced (thn (h.1 _ _ s _ H _ I g) λf j ⟨k,l,c,r,z,q⟩=>⟨by rw[<- r.length];grind,?_⟩)
 refine⟨.ref _,upd _ _ _,c.laid (λb u e=>Heap.get?_push_of_some _ e) (Nat.le_refl _) ?_,rfl,q _ (c.hok.fresh (Nat.le_refl _))⟩
 exact⟨z,f,r,⟨_,Heap.get?_push_size _ rfl,rfl,⟨_,rfl⟩,rfl⟩⟩
theorem Jo (h:QA X es t):QE X (.List es pos) (Bv0 t):=by
 refine⟨?_⟩
 intro c s g H Q I d
 refine wpAny_List_spliced (thn (h.1 _ _ s _ H _ I d) λf i ⟨j,k,a,r,z,q⟩=>⟨by rw[<- r.length];grind,?_⟩)
 refine⟨.ref _,upd _ _ _,a.laid (λb u e=>Heap.get?_push_of_some _ e) (Nat.le_refl _) ?_,rfl,q _ (a.hok.fresh (Nat.le_refl _))⟩
 exact⟨z,f,0,r,Heap.get?_push_size _ rfl⟩
end
abbrev Sp:=List V->Hp->VK->XK->Prop
abbrev CXT:=List Env->Hp->Shared->XK->Value->Shared->Prop
structure Env0 (P:Program) (w:World) (K:PySem.W.Frag) (mg:Str->Option Value) (base:Heap) (A:Around) (outer:List Env) (s:Shared) (H:Hp):Prop where
 frames:A.frames=some outer
 mod:Mod K mg base
 bs:∀b o,base.get? b=some o->s.heap.get? b=some o/\H b=none
 bsz:base.objs.size<=s.heap.objs.size
 funs:s.heap.FunFrames base outer
 frf:∀b∈frs outer,H b=none
 tab:∀p∈Dv K,H p.1=some (.tbl p.2)
 hok:HOk P w H s.heap
 bare:AllBare s.gens
def CE (outer:List Env)(P:Program)(w:World)(H:Hp)(s:Shared)(Q:VK)(u:Value)(s':Shared):Prop :=
 ∃v H',s'.os=s.os/\AllBare s'.gens/\Un (frs outer) [] H H' s.heap s'.heap/\HOk P w H' s'.heap/\RelV v u/\Q v H'
def CR (CX:CXT)(outer:List Env)(P:Program)(w:World)(H:Hp)(s:Shared)(Q:VK)(E:XK)(r:Result)(s':Shared):Prop :=
 match r with
 | .ok (.ret u)=>CE outer P w H s Q u s'
 | .ok _=>False
 | .error e=>CX outer H s E e s'
structure FnOk (P:Program) (w:World) (K:PySem.W.Frag) (mg:Str->Option Value) (base:Heap) (CX:CXT) (k:Nat) (f:Addr) (fd:FuncData) (ps:List Str) (sp:Sp):Prop where
 len:∀vs H Q E,sp vs H Q E->vs.length=ps.length
 run:∀(A:Around) (outer:List Env) (s:Shared) (H:Hp) (args:Args) (us:List Value) (vs:List V) (Q:VK) (E:XK),Room k A->Env0 P w K mg base A outer s H->BindsTo s fd args (ps.zip us)->Vals vs us->sp vs H Q E ->
  codeAny (model P w) A (.call (.ref f) args) (CR CX outer P w H s Q E) s
theorem FnOk.imp {K:PySem.W.Frag} (F:FnOk P w K mg base CX k f d ps sp)
 (h:∀b H Q E,a b H Q E->sp b H Q E):FnOk P w K mg base CX k f d ps a :=
 ⟨λb H Q E q=>F.len _ H Q E (h _ _ _ _ q),λA c s H e n b Q E j l i m g=>F.run A _ s H _ _ _ Q E j l i m (h _ _ _ _ g)⟩
theorem Env0.make {P:Program}{w:World}{K:PySem.W.Frag}{mg:Str->Option Value}{base:Heap}{A:Around}{outer:List Env}{s:Shared}{H:Hp}(e:Env0 P w K mg base A outer s H)(C:Addr)(us:List Value)(kw:List (Str×Value)) :
 Env0 P w K mg base (A.under (.builtin "type.__call__" ⟨.ref C::us,kw⟩)) outer s H:=⟨by first | exact e.frames | (simpa[Around.under,Code.envs,Code.isFrame,pushEnvs] using e.frames),e.mod,e.bs,e.bsz,e.funs,e.frf,e.tab,e.hok,e.bare⟩
section
variable {X:Cx}{pins:List (Addr×Obj)}{σ:St}{H:Hp}{s s':Shared}
theorem Inv.env0 (I:Inv X pins σ H s):Env0 X.prog X.w X.K X.mg X.base X.A X.stack s H :=
 ⟨I.ok.frames,I.ok.mod,I.bs,Nat.le_trans I.ok.bsz I.sz,I.stack,I.stkFree,λp a=>I.base.tbls _ _ (I.ok.tab p a),I.hok,I.bare⟩
theorem Inv.after (I:Inv X pins σ H s) (h:CE X.stack X.prog X.w H s Q u s'):EP X pins σ Q u s':=by
 obtain⟨v,j,i,a,f,c,r,q⟩:=h;obtain⟨hh,g,d,t,e⟩:=s';obtain rfl:e=s.os:=i
 exact⟨v,j,I.call f c a λb z=>absurd z (by simp),r,q⟩
end
def Km (sp:Sp)(dvs:List V)(E:XK)(t:TA):TE:=λσ H Q=>t σ H λvs H1=>sp (vs++dvs) H1 Q E
def Binds (K:PySem.W.Frag)(fd:FuncData)(ps:List Str)(ds:List Value):Prop :=
 ∀(s:Shared) (us:List Value),K.In s.heap->(us++ds).length=ps.length->BindsTo s fd ⟨us,[]⟩ (ps.zip (us++ds))
theorem Binds.all {K:PySem.W.Frag} (h:∀a:List Value,a.length=ps.length->bindArgs c ⟨a,[]⟩=pure (ps.zip a)):Binds K c ps []:=λs a _ b=>by
 rw[List.append_nil]at b ⊢;exact .of_eq (h _ b)
def Hi (CX:CXT)(X:Cx)(E:XK):Prop:=∀(pins:List (Addr×Obj)) (σ:St) (H:Hp) (s:Shared) (e:Value) (s':Shared),Inv X pins σ H s->CX X.stack H s E e s'->X.xe e s'
section
variable {X:Cx}{CX:CXT}{k:Nat}{f:Addr}{fd:FuncData}{ps:List Str}{sp:Sp}{dvs:List V}{ds:List Value}{E:XK}{x:Str}{p pos:Pos}{e:Expr}{es:List Expr}{t:TA}
theorem Bp5 (F:FnOk X.prog X.w X.K X.mg X.base CX k f fd ps sp) (hr:Room k X.A) (hb:Binds X.K fd ps ds) (hd:Vals dvs ds) (hx:Hi CX X E)
 (I:Inv X pins b H s) (r:Vals vs us) (h:sp (vs++dvs) H Q E):wpAny (model X.prog X.w) X.A (call (.ref f) us) (EP X pins b Q) X.xe s:=by
 have a := r.append hd
 have g:(us++ds).length=ps.length:=by rw[<- a.length];exact F.len _ _ _ _ h
 refine wpAny_call (codeAny_mono (F.run _ _ s H _ _ _ Q E hr I.env0 (hb s _ I.kIn g) a h) λr i c=>?_)
 cases r with
 | error e=>exact hx _ _ H s e _ I c
 | ok d =>
  cases d with
  | ret u=>exact I.after c
  | next=>assumption
  | brk=>assumption
  | cont=>trivial
theorem Bb9 (F:FnOk X.prog X.w X.K X.mg X.base CX k f fd ps sp)(hr:Room k X.A)(hg:Gl X x)(hm:X.mg x=some (.ref f))(hk:PySem.W.keepIn X.K (.ref f)=true)(hb:Binds X.K fd ps ds)(hd:Vals dvs ds)(hx:Hi CX X E)
 (ha:PA X (e::es) t) (hdb:(x==("__debug__" : Str))=false:=by decide) (he:starEach (e::es) X.env=(false,eval e X.env)::starEach es X.env:=by rfl) (hpl:(backTo pos (starEach es X.env)).any (·.1)=false:=by rfl) :
 PE X (.Call (.Name x p) (e::es) [] pos) (Km sp dvs E t):=by
 intro b s c H Q I h
 refine wpAny_Call_Name_kw (Lg I hg hm ?_ hdb)
 refine PySem.W.callWith_K I.ok.mod.kin hk (thn (ha _ _ s _ H _ I h) λd g ⟨i,j,a,r,q⟩=>⟨a.kIn,?_⟩) he hpl
 exact Bp5 F hr hb hd hx a r q
end
structure Bl (N P:List Str) (sc:Scope):Prop where
 kind:sc.kind=.function:=by rfl
 co:sc.isCoroutine=false:=by rfl
 gen:sc.isGenerator=false:=by rfl
 nd:N.Nodup:=by decide +kernel
 pre:N.take P.length=P:=by rfl
 par:∀x∈P,sc.names.lookup x=some .local\/sc.names.lookup x=some .cell:=by decide +kernel
 nofree:∀y∈sc.names,y.2≠.free:=by decide +kernel
theorem Xc {kindOf:Str->Option NameKind}{x:Str}:∀{binds:List (Str×Value)}{m:Str->Option Value},(∀v,(x,v)∉binds)->bindL kindOf binds m x=m x
 | [],_,_=>rfl
 | (n,v)::r,m,h=>by
  unfold bindL
  rw[Xc λw hw=>h w (List.mem_cons_of_mem _ hw)]
  split
  ·have:x≠n:=by rintro rfl;exact h v List.mem_cons_self
   simp[this]
  ·rfl
theorem Yd {kindOf:Str->Option NameKind}{x:Str}:∀{binds:List (Str×Value)}{m:Str->Option Value},(∀v,(x,v)∉binds)->bindC kindOf binds m x=m x
 | [],_,_=>rfl
 | (n,v)::r,m,h=>by
  unfold bindC
  rw[Yd λw hw=>h w (List.mem_cons_of_mem _ hw)]
  split
  ·rfl
  ·have:x≠n:=by rintro rfl;exact h v List.mem_cons_self
   simp[this]
theorem W8 {kindOf:Str->Option NameKind}{x:Str}{v:Value}:∀{P:List Str}{vs:List Value}{i:Nat}{m:Str->Option Value},P.Nodup->P[i]?=some x->vs[i]?=some v->kindOf x=some .local ->
 bindL kindOf (P.zip vs) m x=some v
 | [],_,_,_,_,h,_,_=>by simp at h
 | _::_,[],_,_,_,_,h,_=>by simp at h
 | p::P,w::vs,0,m,nd,h1,h2,hk=>by
  simp at h1 h2;subst h1;subst h2
  show bindL kindOf ((p,w)::P.zip vs) m p=_
  unfold bindL
  rw[Xc λv hv=>(List.nodup_cons.mp nd).1 (List.of_mem_zip hv).1,if_pos hk]
  simp
 | p::P,w::vs,i+1,m,nd,h1,h2,hk=>by
  show bindL kindOf ((p,w)::P.zip vs) m x=_
  unfold bindL
  exact W8 (i:=i) (List.nodup_cons.mp nd).2 (by simpa using h1) (by simpa using h2) hk
theorem Yj {kindOf:Str->Option NameKind}{x:Str}{v:Value}:∀{P:List Str}{vs:List Value}{i:Nat}{m:Str->Option Value},P.Nodup->P[i]?=some x->vs[i]?=some v->kindOf x≠some .local ->
 bindC kindOf (P.zip vs) m x=some v
 | [],_,_,_,_,h,_,_=>by simp at h
 | _::_,[],_,_,_,_,h,_=>by simp at h
 | p::P,w::vs,0,m,nd,h1,h2,hk=>by
  simp at h1 h2;subst h1;subst h2
  show bindC kindOf ((p,w)::P.zip vs) m p=_
  unfold bindC
  rw[Yd λv hv=>(List.nodup_cons.mp nd).1 (List.of_mem_zip hv).1,if_neg hk]
  simp
 | p::P,w::vs,i+1,m,nd,h1,h2,hk=>by
  show bindC kindOf ((p,w)::P.zip vs) m x=_
  unfold bindC
  exact Yj (i:=i) (List.nodup_cons.mp nd).2 (by simpa using h1) (by simpa using h2) hk
noncomputable def start (N:List Str) (vs:List V):St:=vs.map some++List.replicate (N.length-vs.length) none
noncomputable def Pz (CX:CXT) (P:Program) (w:World) (K:PySem.W.Frag) (mg:Str->Option Value) (base:Heap) (N:List Str) (qual:Str) (scope:Scope) (f:Addr) (cd:Value) (A:Around) (outer:List Env) (s:Shared) (H:Hp) (E:XK):Cx where
 prog:=P
 w:=w
 K:=K
 mg:=mg
 base:=base
 A:=A.deeper (envOfC qual scope s.heap.objs.size f cd)
 N:=N
 s₀:=s
 H₀:=H
 env:=envOfC qual scope s.heap.objs.size f cd
 outer:=outer
 stack:=envOfC qual scope s.heap.objs.size f cd::outer
 ex:=[]
 calm:=true
 fn:=λ_=>true
 pn:=[]
 xe:=λe s'=>wpAny (model P w) (A.deeper (envOfC qual scope s.heap.objs.size f cd)) (leaving (envOfC qual scope s.heap.objs.size f cd) e) (λ_ s''=>CX outer H s E e s'') (λe' s''=>CX outer H s E e' s'') s'
theorem Ai7 {a:Scope} (h:a.names.lookup x=some .cell):∃c,(cellsFrom n a.names []).lookup x=some c:=by
 exact Option.isSome_iff_exists.mp (PySem.W.cellsFrom_some _ n [] (.inl h))
theorem A1n {K:PySem.W.Frag}
 (S:Bl N ps scope) (hd:A.handled=none) (d:Env0 P w K mg base A a s H) (hl:vs.length=ps.length) (r:Vals vs us)
 (x:InCallC s s.heap.objs.size (bindL (envOfC qual scope s.heap.objs.size f t).kindOf (ps.zip us) λ_=>none) (cellsFrom (s.heap.objs.size+1) scope.names []) (bindC (envOfC qual scope s.heap.objs.size f t).kindOf (ps.zip us) λ_=>none) s1) :
 Inv (Pz CX P w K mg base N qual scope f t A a s H E) [] (start N vs) H s1:=by
 have D:ps.length<=N.length:=by have:=congrArg List.length S.pre;rw[List.length_take]at this;omega
 obtain⟨o,tk,rfl,B⟩:=x.done
 have g:∀b:Addr,b∉(Pz CX P w K mg base N qual scope f t A a s H E).ex:=λb z=>absurd (show b∈([]:List Addr) from z) (by simp)
 refine⟨⟨d.mod,S.kind,rfl,rfl,Nat.le_refl _,λy z c o n=>?_,λy j=>?_,λy c _ h=>?_,λ_=>hd,Around.frames_deeper d.frames,.inr ⟨rfl,rfl⟩,λb z=>absurd z (g b),d.bs,d.bsz,λb _ _=>g b,λb z=>absurd z (g b),d.funs,d.frf,d.tab⟩,
  rfl,d.bare,Un.kept B,⟨_,x.toInCall.ns,λi y v o n h3=>?_⟩,λy c h=>⟨_,x.cell y c h⟩,d.hok.fresh (Nat.le_refl _),λy c h=>?_,λp m=>absurd (show p∈([]:List (Addr×Obj)) from m) (by simp),d.hok.kept B,?_⟩
 ·exact name_of_addr x.apart (PySem.mem_of_lookup o) (PySem.mem_of_lookup n)
 ·have j:scope.names.lookup y=some .cell\/scope.names.lookup y=some .free:=j
  rcases j with j | j
  ·exact Ai7 j
  ·exact absurd rfl (S.nofree _ (PySem.mem_of_lookup j))
 ·exact Nat.le_of_lt (x.above y c (PySem.mem_of_lookup h))
 ·have hi:i<vs.length:=by
   unfold start at n
   grind
  have F:vs[i]?=some v:=by
   unfold start at n
   grind
  obtain⟨u,C,G⟩:=r.get F
  have m:ps[i]?=some y:=by
   rw[<- S.pre,List.getElem?_take_of_lt (by omega)];exact o
  have l:ps.Nodup:=by rw[<- S.pre];exact S.nd.sublist (List.take_sublist _ _)
  refine⟨u,G,?_⟩
  rcases S.par y (List.mem_of_getElem? m) with k | k
  ·exact .inl ⟨k,W8 l m C k⟩
  ·obtain⟨c,e⟩:=Ai7 k
   refine .inr ⟨.inl k,c,e,?_⟩
   have q:=x.cell y c e
   rw[Yj l m C (by show scope.names.lookup y≠_;rw[k];decide)]at q
   exact q
 ·exact d.hok.fresh (Nat.le_of_lt (x.above y c (PySem.mem_of_lookup h)))
 ·unfold start
  show _=N.length
  simp_all
theorem As5 {K:PySem.W.Frag}
 (lk:K.lookup f=some ⟨oc,od,.func (PySem.W.fnOf name qual d body scope U O z R M a W),F⟩) (hcd:PySem.W.codeIn K a qual=true) (S:Bl N ps scope)
 (p:∀vs H Q E,sp vs H Q E->vs.length=ps.length)
 (i:∀(A:Around) (c:List Env) (s:Shared) (H:Hp) (vs:List V) (Q:VK) (E:XK),Room k (A.deeper (envOfC qual scope s.heap.objs.size f a))->sp vs H Q E ->
  ∃t,PSs (Pz CX P w K mg base N qual scope f a A c s H E) body t/\t { nx:=λ_ H'=>Q .non H',rt:=Q } (start N vs) H) :
 FnOk P w K mg base CX (k+1) f (PySem.W.fnOf name qual d body scope U O z R M a W) ps sp:=by
 refine⟨p,λA c s H T X vs Q E C l hb r m=>?_⟩
 have hl:=p _ _ _ _ m
 have G := l.mod.kin.keeps λb o e=>(l.bs b o e).1
 have h:∀y∈ps.zip X,scope.names.lookup y.1=some .local\/(scope.names.lookup y.1=some _/\((cellsFrom (s.heap.objs.size+1) _ []).lookup y.1).isSome=true):=λ⟨n,v⟩ Y=>by
  rcases S.par n (List.of_mem_zip Y).1 with q | q
  ·grind
  ·exact .inr ⟨q,PySem.W.cellsFrom_some _ _ _ (.inl q)⟩
 refine codeAny_call_function C.depth (G _ _ lk) rfl S.co S.gen rfl (PySem.W.codeRec_of G hcd) (hb _ _ _ _ ?_)
 refine wpAny_newFunctionEnv_cells S.kind h λZ he s1 x=>?_
 subst he
 refine⟨(l.mod.nolimit.keeps λb o e=>(l.bs b o e).1).keeps x.toInCall.keep,codeAny_func ?_⟩
 obtain⟨t,ht,hq⟩:=i A _ s H _ Q E (C.deeper _) m;have I:Inv (Pz CX P w K _ _ N qual _ f a A _ s H E) _ _ H _:=A1n S C.hd l hl r x
 refine wpAny_mono (ht _ _ _ H _ I hq) (λfl L j=>?_) λe L j=>j
 have B:∀{g:St} {H':Hp} {v:V} {u:Value},Inv (Pz CX P w K mg base N qual scope f a A c s H E) [] g _ L->RelV v u->Q v _->CE _ P w H s Q u _ :=
  λ{g H' v u} J D q=>⟨v,H',J.os,J.bare,J.base,J.hok,D,q⟩
 cases fl with
 | ret u =>
  obtain⟨v,g,H',J,D,q⟩:=j;exact B J D q
 | next =>
  obtain⟨g,H',J,q⟩:=j;exact B (v:=V.non) J rfl q
 | brk =>
  obtain⟨_,_,_,q⟩:=j
  trivial
 | cont =>
  obtain⟨_,_,_,q⟩:=j
  trivial
section
variable {X:Cx}{x:Str}{p pos:Pos}{e:Expr}{es:List Expr}{t:TA}{id T:String}{r:List V->Hp->VK->Prop}
def tCB (r:List V->Hp->VK->Prop)(t:TA):TE:=λσ H Q=>t σ H λvs H1=>r vs H1 Q
theorem A7e (hc:zE X (.builtin id) r)(hg:Gl X x)(hm:X.mg x=none)(hv:bootBuiltins x=some (.builtin id))(ha:PA X (e::es) t)(hn:x ≠ "__name__" := by decide) (hdb:(x==("__debug__" : Str))=false:=by decide)
 (he:starEach (e::es) X.env=(false,eval e X.env)::starEach es X.env:=by rfl) (hpl:(backTo pos (starEach es X.env)).any (·.1)=false:=by rfl):PE X (.Call (.Name x p) (e::es) [] pos) (tCB r t):=by
 intro a s f H Q I h
 refine wpAny_Call_Name_kw (My I hg hm hv ?_ hn hdb)
 exact PyProof.Rows.callWith_builtin1 (thn (ha _ _ s _ H _ I h) λj k ⟨g,i,d,c,b⟩=>hc _ _ _ _ _ _ Q d c b) he hpl
theorem A1l (hc:zE X (.type T) r)(hg:Gl X x)(hm:X.mg x=none)(hv:bootBuiltins x=some (.type T))(ha:PA X (e::es) t)(hn:x ≠ "__name__" := by decide) (hdb:(x==("__debug__" : Str))=false:=by decide)
 (he:starEach (e::es) X.env=(false,eval e X.env)::starEach es X.env:=by rfl) (hpl:(backTo pos (starEach es X.env)).any (·.1)=false:=by rfl):PE X (.Call (.Name x p) (e::es) [] pos) (tCB r t):=by
 intro a s f H Q I h
 refine wpAny_Call_Name_kw (My I hg hm hv ?_ hn hdb)
 exact PyProof.Rows.callWith_type1 (thn (ha _ _ s _ H _ I h) λj k ⟨g,i,d,c,b⟩=>hc _ _ _ _ _ _ Q d c b) he hpl
end
end L2
namespace HT
open PySem PyProof.Rows
section
variable {prog:Program}{w:World}{A:Around}{E:Value->Shared->Prop}{s:Shared}
theorem Be0 (ht:IsTup s.heap t vs.toArray) (hb:IsTup s.heap b c.toArray) (hv:vs≠[])
 (h1:c=[]->Q (.ref t) s) (h2:c≠[]->Q (.ref s.heap.objs.size) { s with heap:=s.heap.push { cls:=.type "tuple",data:=.seq (vs++c).toArray } })
 (hsz:vs.length+c.length<=sizeLine):wpAny (model prog w) A (binaryOp .Add (.ref t) (.ref b)) Q E s:=by
 obtain⟨⟨g,q,d,p⟩,e,o,n,l⟩:=id ht;obtain⟨⟨j,k,i,m⟩,a,h,r,f⟩:=id hb;subst o l h f
 by_cases hw:c=[]
 ·exact concat_meets ⟨_,e,rfl⟩ ⟨_,a,rfl⟩ noFill_tuple_add seq_tuple_add PySem.F.slot_tuple_add PySem.F.entry_tuple_add (PySem.F.args_tuple_add_2 _ _)
   (tuple_addW1 t b _ _ n _ _ _ _ _ (by simp_all) (by grind)) ⟨e,a,h1 hw⟩
 ·refine concat_meets ⟨_,e,rfl⟩ ⟨_,a,rfl⟩ noFill_tuple_add seq_tuple_add PySem.F.slot_tuple_add PySem.F.entry_tuple_add (PySem.F.args_tuple_add_2 _ _)
   (tuple_addW2 t b _ _ n _ _ _ _ _ (by grind) (by simp_all) (by simp_all)) ⟨e,a,?_⟩
  grind
noncomputable def sIx (n d:Nat):Option Int->Nat
 | none=>d
 | some v=>if v<0 then (v+(n:Int)).toNat else min v.toNat n
theorem Bu0 (n d:Nat)(hd:d<=n)(o:Option Int):sIx n d o<=n:=by
 cases o with
 | none=>exact hd
 | some v =>
  show (if v<0 then (v+n).toNat else min _ n)<=n
  grind
theorem Ar2 (v:Int)(n d:Nat):(if v<0 then max (v+(n:Int)) 0 else min v (n:Int))=((sIx n d (some v):Nat):Int):=by
 show (if v<0 then max _ 0 else min v _)=(((if v<0 then (v+n).toNat else min _ n):Nat):Int)
 grind
theorem An3 (lo hi:Option Int)(n:Nat):Builtin.Slice.sliceAdjust lo hi 1 (n:Int)=(((sIx n 0 lo:Nat):Int),((sIx n n hi:Nat):Int)):=by
 refine Prod.ext ?_ ?_
 ·cases lo with
  | none=>rfl
  | some v=>exact Ar2 v n 0
 ·cases hi with
  | none=>rfl
  | some v=>exact Ar2 v n n
theorem Ak5 (i j:Nat):Builtin.Slice.slicePlaces (i:Int) (j:Int) 1=j-i:=by
 unfold Builtin.Slice.slicePlaces
 have h1:(1:Int)>0:=by omega
 simp only[h1,if_true,Int.ediv_one]
 split <;> omega
theorem Vu (p:IsPart v o) (h:Q o s):wpAny (model prog w) A (Builtin.Slice.slicePartIndex v) Q E s:=by
 cases p with
 | none=>exact slicePart_none h
 | int i t=>exact slicePart_int h
theorem Kg {lo hi:Option Int}{n:Nat} (hs:s.heap.IsSliceOf e d c .none) (pl:IsPart d lo) (g:IsPart c hi)
 (h:Q (((sIx n 0 lo:Nat):Int),1,sIx n n hi-sIx n 0 lo) s):wpAny (model prog w) A (Builtin.Slice.sliceApplied (.ref e) (pure (n:Int))) Q E s:=by
 obtain⟨i,a,f,b⟩:=id hs
 refine wpAny_bind (wpAny_bind (wpAny_field a b (x:=d) rfl (wpAny_bind (wpAny_field a b (x:=c) rfl (wpAny_bind (wpAny_field a b rfl (wpAny_pure ?_)))))))
 refine wpAny_bind (slicePart_none ?_)
 refine wpAny_bind (Vu pl (wpAny_bind (Vu g (wpAny_bind (wpAny_pure ?_)))))
 show wpAny _ _ (match Builtin.Slice.sliceAdjust _ _ 1 _ with | (lo,hi)=>pure (lo,(1:Int),Builtin.Slice.slicePlaces lo hi 1)) _ _ s
 rw[An3 _ _ n]
 show wpAny _ _ (pure _) _ _ s
 rw[Ak5];exact wpAny_pure h
theorem A8c (xs:Array Value)(i k:Nat):((List.range k).filterMap λ(m:Nat)=>xs[((i:Int)+(m:Int)*1).toNat]?).toArray=((xs.toList.drop i).take k).toArray:=by
 have e:(λ(m:Nat)=>xs[((i:Int)+m*1).toNat]?)=λm=>xs[i+m]?:=by
  funext m
  have:((i:Int)+m*1).toNat=i+m:=by omega
  rw[this]
 rw[e];have:=pick_run xs i k;rw[List.filterMap_map]at this
 have a:((λx=>xs[x]?) ∘ λx=>i+x)=λm=>xs[i+m]?:=rfl
 rw[a]at this;rw[this]
theorem Qk {lo hi:Option Int} (ht:IsTup s.heap t items) (hs:s.heap.IsSliceOf sl vl vu .none) (pl:IsPart vl lo) (pu:IsPart vu hi)
 (hw:¬ (sIx items.size 0 lo=0/\sIx items.size items.size hi=items.size))
 (h:Q (.ref s.heap.objs.size) { s with heap:=s.heap.push { cls:=.type "tuple",data:=.seq ((items.toList.drop (sIx items.size 0 lo)).take (sIx items.size items.size hi-sIx items.size 0 lo)).toArray } })
 (hsz:items.size<=sizeLine):wpAny (model prog w) A (getItem (.ref t) (.ref sl)) Q E s:=by
 have htake:sizeOk (.seq ((items.toList.drop (sIx items.size 0 lo)).take (sIx items.size items.size hi-sIx items.size 0 lo)).toArray):=by
  show ((items.toList.drop (sIx items.size 0 lo)).take (sIx items.size items.size hi-sIx items.size 0 lo)).toArray.size<=sizeLine
  rw[List.size_toArray,List.length_take,List.length_drop,Array.length_toList];omega
 have hj:sIx items.size items.size hi<=items.size:=Bu0 _ _ (Nat.le_refl _) hi;obtain⟨os,hos,hcs,hds⟩:=id hs;have hTs:s.TypeIs (.ref sl) "slice" := ⟨os,hos,hcs⟩;unfold getItem
 try with_reducible refine wpAny_holding ?_
 first | refine wpAny_bind (wpAny_pure ?_) | skip
 refine wpAny_bind (wpAny_sequenceKey ht.typeIs (by decide) ?_)
 refine wpAny_bind (wpAny_callSpecial?_slot (name:="__getitem__") ht.typeIs PyProof.Rows.slot_tuple_getitem
  (wpAny_call_entry PyProof.Rows.slot_tuple_getitem ht.typeIs entry_tuple_getitem ?_ (args_tuple_getitem _ _)))
 show wpAny _ _ (Builtin.Tuple.tupleItemsOf (.ref t) >>= _) _ _ s
 refine wpAny_bind (tupleItemsOf_ ht ?_)
 refine wpAny_bind (wpAny_typeOf hTs ?_)
 rw[if_pos (by decide)]
 refine wpAny_bind (Kg hs pl pu ?_)
 have hno:¬ ((((sIx items.size 0 lo:Nat):Int)==0&&(1:Int)==1&&(sIx items.size items.size hi-sIx items.size 0 lo)==items.size)=true):=by
  intro q;rw[Bool.and_eq_true,Bool.and_eq_true]at q;have q1:((sIx items.size 0 lo:Nat):Int)=0:=eq_of_beq q.1.1;have q2:sIx items.size items.size hi-sIx items.size 0 lo=items.size:=eq_of_beq q.2
  exact hw ⟨by omega,by omega⟩
 show wpAny _ _ (if (((sIx items.size 0 lo:Nat):Int)==0&&(1:Int)==1&&(sIx items.size items.size hi-sIx items.size 0 lo)==items.size)=true then _ else _) _ _ s
 rw[if_neg hno,A8c]
 first
  | exact wpAny_bind (m:=Builtin.Tuple.tupleExact _) (wpAny_newObj_type (wpAny_pure ⟨_,rfl,wpAny_pure h⟩) htake)
  | exact wpAny_bind (m:=Builtin.Tuple.tupleExact _) (wpAny_newObj_type (wpAny_bind (wpAny_pure (wpAny_pure ⟨_,rfl,wpAny_pure h⟩))) htake)
  | exact wpAny_bind (wpAny_bind (m:=Builtin.Tuple.tupleExact _) (wpAny_newObj_type (wpAny_pure (wpAny_pure ⟨_,rfl,wpAny_pure h⟩)) htake))
  | exact wpAny_bind (wpAny_bind (m:=Builtin.Tuple.tupleExact _) (wpAny_newObj_type (wpAny_pure ⟨_,rfl,wpAny_pure h⟩) htake))
end
end HT
namespace L2
open PySem PySem.Spec PyProof.Rows
abbrev TO:=St->Hp->(Option Int->Hp->Prop)->Prop
def PO (X:Cx)(e:Option Expr)(t:TO):Prop :=
 ∀
  (pins:List (Addr×Obj)) (s:Shared) (σ:St) (H:Hp) (Q:Option Int->Hp->Prop),Inv X pins σ H s->t σ H Q ->
  wpAny (model X.prog X.w) X.A (evalPart e X.env) (λu s'=>∃o H',Inv X pins σ H' s'/\IsPart u o/\Q o H') X.xe s
structure QO (X:Cx) (e:(Option Expr)) (t:TO):Prop where
 get:PO X e t
noncomputable def At9:TO:=λ_ H Q=>Q none H
noncomputable def Bk8 (t:TE):TO:=λσ H Q=>t σ H λx H1=>∃i,x=.int i/\Q (some i) H1
section
variable {X:Cx}{e:Expr}{te:TE}{lo hi:Option Expr}{tl th:TO}{pos p2:Pos}
theorem Aa9:QO X none At9:=by
 refine⟨?_⟩
 intro a s b H Q I h;exact wpAny_pure ⟨none,H,I,.none,h⟩
theorem Zu (h:QE X e te):QO X (some e) (Bk8 te):=by
 refine⟨?_⟩
 intro a s σ H Q I d
 refine thn (h.1 _ s _ H _ I d) λu s1 ⟨x,f,b,c,g⟩=>?_
 obtain⟨i,rfl,q⟩:=g;obtain⟨t,rfl⟩:=c;exact⟨some i,f,b,.int i t,q⟩
def SlR (X:Cx)(r:V->Option Int->Option Int->Hp->VK->Prop):Prop :=
 ∀
  (pins:List (Addr×Obj)) (s:Shared) (σ:St) (H:Hp) (x:V) (v vl vu:Value) (lo hi:Option Int) (sl:Addr) (Q:VK),Inv X pins σ H s->RelV x v->s.heap.IsSliceOf sl vl vu .none->IsPart vl lo->IsPart vu hi->r x lo hi H Q ->
  ∃T id,typeLookup (.type T) "__getitem__" = pure (some (.builtin id))/\s.TypeIs v T/\wpAny (model X.prog X.w) X.A (getItem v (.ref sl)) (EP X pins σ Q) X.xe s
theorem SlR.or (h:SlR X r) (h':SlR X b):SlR X (λx lo hi H Q=>r x lo hi H Q\/b x lo hi H Q):=by
 intro d s g H x v i j lo hi k Q I e c f a q
 rcases q with q | q
 ·exact h _ s _ H x v _ _ _ _ _ Q I e c f a q
 ·exact h' _ s _ H x v _ _ _ _ _ Q I e c f a q
def tSl (r:V->Option Int->Option Int->Hp->VK->Prop)(te:TE)(tl th:TO):TE:=λσ H Q=>te σ H λx H1=>tl σ H1 λl H2=>th σ H2 λu H3=>r x l u H3 Q
theorem A7k (hr:SlR X r) (he:QE X e te) (hl:QO X lo tl) (hu:QO X hi th):QE X (.Subscript e (.Slice lo hi none p2) pos) (tSl r te tl th):=by
 refine⟨?_⟩
 intro c s E H Q I h
 refine Subscript_ (thn (he.1 _ s _ H _ I h) λv B ⟨x,D,i,j,k⟩=>?_)
 refine wpAny_Slice (thn (hl.1 _ _ _ _ _ i k) λm C ⟨l,K,n,o,f⟩=>thn (hu.1 _ _ _ _ _ n f) λg a ⟨u,J,t,w,p⟩=>?_)
 refine wpAny_pure ?_
 have z:Inv X _ _ _ { a with heap:=a.heap.push { cls:=.type "slice",data:=.fields #[m,g,.none] } }:=t.kept λb F q=>Heap.get?_push_of_some _ q
 obtain⟨T,G,y,A,d⟩:=hr _ _ _ _ x v _ _ l u _ Q z j (Heap.IsSliceOf.new ..) o w p
 exact tail_any A y d (by trivial)
def A1m (xs:List V)(lo hi:Option Int):List V:=(xs.drop (HT.sIx xs.length 0 lo)).take (HT.sIx xs.length xs.length hi-HT.sIx xs.length 0 lo)
theorem Sx (xs:List V)(lo hi:Option Int):(A1m xs lo hi).length<=xs.length:=by
 unfold A1m;rw[List.length_take,List.length_drop];omega
def B1o (K:PySem.W.Frag):V->Option Int->Option Int->Hp->VK->Prop:=λx lo hi H Q=>∃a xs,x=.ref a/\SqT K H a xs /\
 ¬ (HT.sIx xs.length 0 lo=0/\HT.sIx xs.length xs.length hi=xs.length)/\∀p,H p=none->Q (.ref p) (upd H p (.tup (A1m xs lo hi)))
theorem Bt9:SlR X (B1o X.K):=by
 intro e s σ H x v vl vu lo hi sl Q I j k g l h;obtain⟨a,i,rfl,m,hw,q⟩:=h
 cases j
 obtain⟨d,r,f,n⟩:=I.tuple m
 have c:d.toArray.size=i.length:=by exact r.length.symm
 refine⟨"tuple",_,PyProof.Rows.slot_tuple_getitem.lookup,f.typeIs,?_⟩
 refine HT.Qk f k g l (by grind) ?_ (by simp_all)
 rw[c]
 refine⟨.ref _,_,I.laid (λb ob q=>Heap.get?_push_of_some _ q) (Nat.le_refl _) ?_,rfl,q _ (I.hok.fresh (Nat.le_refl _))⟩
 exact⟨Nat.le_trans (Sx _ _ _) n,_,(r.drop _).take _,zQ.new _ _⟩
def Bz0 (K:PySem.W.Frag):R2:=λx y H Q=>∃a b xs ys,x=.ref a/\y=.ref b/\SqT K H a xs/\SqT K H b ys/\xs≠[]/\xs.length+ys.length<=sizeLine /\
 (ys=[]->Q (.ref a) H)/\(ys≠[]->∀p,H p=none->Q (.ref p) (upd H p (.tup (xs++ys))))
theorem Vals.nil_iff (r:Vals xs us):us=[]↔xs=[]:=by
 cases r with
 | nil=>simp
 | cons _ _=>simp
theorem A9k:OpR X (binaryOp .Add) (Bz0 X.K):=by
 intro e s σ H x y v u Q I o p h;obtain⟨a,b,xs,ys,rfl,rfl,k,l,g,hz,m,j⟩:=h
 cases o
 cases p
 obtain⟨i,d,n,_⟩:=I.tuple k;obtain⟨f,c,r,_⟩:=I.tuple l
 refine HT.Be0 n r (λz=>g (d.nil_iff.mp z)) (λz=>⟨.ref a,H,I,rfl,m (c.nil_iff.mp z)⟩) (λz=>?_) (by rw[<- d.length,<- c.length];grind)
 refine⟨.ref _,_,I.laid (λb ob q=>Heap.get?_push_of_some _ q) (Nat.le_refl _) ?_,rfl,j (λw=>z (c.nil_iff.mpr w)) _ (I.hok.fresh (Nat.le_refl _))⟩
 exact⟨by simp_all,_,d.append c,zQ.new _ _⟩
end
noncomputable def ixN (n:Nat) (i:Int):Option Nat:=if 0<=i then (if i<n then some i.toNat else none) else if -(n:Int)<=i then some (i+n).toNat else none
def atI {α:Type}(xs:List α)(i:Int):Option α:=(ixN xs.length i).bind λj=>xs[j]?
theorem Yv (h:ixN n i=some j):seqIndex? i n=some j/\j<n/\-(n:Int)<=i/\i<n:=by
 unfold ixN at h
 by_cases h0:0<=i
 ·rw[if_pos h0]at h
  by_cases h1:i<n
  ·rw[if_pos h1]at h
   have e := Option.some.inj h
   exact⟨by rw[seqIndex_of h0 h1,e],by omega,by omega,h1⟩
  simp_all
 ·rw[if_neg h0]at h
  by_cases h1:-n<=i
  ·rw[if_pos h1]at h
   have e := Option.some.inj h
   exact⟨by rw[seqIndex_neg (by omega) h1,e],by omega,h1,by omega⟩
  simp_all
theorem Ab2 {xs:List a} {v:a}(h:atI xs i=some v):∃j,seqIndex? i xs.length=some j/\xs[j]?=some v/\j<xs.length/\-(xs.length:Int)<=i/\i<xs.length:=by
 unfold atI at h
 cases e:ixN xs.length i with
 | none=>simp_all
 | some j =>
  obtain⟨c,d,f,b⟩:=Yv e
  grind
theorem Jt {xs:List a}{j:Nat}{v:a}(h:xs[j]?=some v):atI xs (j:Int)=some v:=by
 have b := (List.getElem?_eq_some_iff.mp h).1
 have e:ixN xs.length j=some j:=by
  unfold ixN
  simp_all
 unfold atI;grind
def Lh (b:Expr):Prop:=∀o i,subscripted b false o i=operate [o,i] (getItem o i)
def IxR (X:Cx)(r:R2):Prop :=
 ∀
  (value slice:Expr) (pins:List (Addr×Obj)) (s:Shared) (σ:St) (H:Hp) (x y:V) (v u:Value) (Q:VK),Inv X pins σ H s->RelV x v->RelV y u->r x y H Q ->
  subscripted slice false v u=operate [v,u] (getItem v u)->wpAny (model X.prog X.w) X.A (subscriptTail value slice v u) (EP X pins σ Q) X.xe s
def MtR (X:Cx)(id:String)(r:V->List V->Hp->VK->Prop):Prop :=
 ∀
  (pins:List (Addr×Obj)) (s:Shared) (σ:St) (H:Hp) (x:V) (xs:List V) (v:Value) (us:List Value) (Q:VK),Inv X pins σ H s->RelV x v->Vals xs us->r x xs H Q ->
  wpAny (model X.prog X.w) X.A (call (.builtin id) (v::us)) (EP X pins σ Q) X.xe s
section
variable {X:Cx}{a b:Expr}{ta tb:TE}{pos:Pos}
theorem IxR.or (h:IxR X r) (h':IxR X d):IxR X (λx y H Q=>r x y H Q\/d x y H Q):=by
 intro b a e s i H x y v u Q I f g q c
 rcases q with q | q
 ·exact h _ _ _ s _ H x y v u Q I f g q c
 ·exact h' _ _ _ s _ H x y v u Q I f g q c
theorem Bj3 (hr:IxR X r) (ha:QE X a ta) (hb:QE X b tb) (hs:Lh b):QE X (.Subscript a b pos) (tOp r ta tb):=by
 obtain⟨ha⟩:=ha;obtain⟨hb⟩:=hb
 refine⟨?_⟩
 intro c s g H Q I h
 exact Subscript_ (Bu3 ha hb I h λv u i x y j f e d q=>hr a b _ _ _ _ x y v u Q f e d q (hs _ _))
def Bw6 (K:PySem.W.Frag):R2:=λx y H Q=>∃p xs i v,x=.ref p/\y=.int i/\SqL K H p xs/\atI xs i=some v/\Q v H
def Bq4 (K:PySem.W.Frag):R2:=λx y H Q=>∃p xs i v,x=.ref p/\y=.int i/\SqT K H p xs/\atI xs i=some v/\Q v H
def B1b:R2:=λx y H Q=>∃z i c,x=.str z/\y=.int i/\z.length<=sizeLine/\atI z.cps.toList i=some c/\Q (.str ⟨#[c]⟩) H
theorem ix_list:IxR X (Bw6 X.K):=by
 intro g f a s m H x y v u Q I C F h l;obtain⟨p,xs,i,z,rfl,rfl,E,n,q⟩:=h
 cases C
 obtain⟨t,rfl⟩:=F;obtain⟨e,r,c,hz⟩:=I.list E;obtain⟨j,k,D,h3,o,B⟩:=Ab2 n;obtain⟨w,ew,d⟩:=r.get D;have hl:=r.length;have hn:=Vp;have b:EP X a m Q w s:=⟨z,H,I,d,q⟩
 by_cases h0:0<=i
 ·have A:i.toNat=j:=by
   rw[seqIndex_of h0 B]at k
   simp_all
  exact item_listR c.isList h0 (by omega) (by grind) b l
 ·have A:(i+e.toArray.size).toNat=j:=by
   rw[seqIndex_neg (by omega) o]at k
   simp_all
  exact subscriptTail_builtinR c.isList.typeIs slot_list_getitem.lookup
   (wpAny_getItem_list_neg c.isList (by omega) (by simp_all) (by omega) (by grind) ⟨rfl,b⟩) l
theorem ix_tup:IxR X (Bq4 X.K):=by
 intro b c e s σ H x y v u Q I A g h o;obtain⟨p,xs,i,z,rfl,rfl,m,n,q⟩:=h
 cases A
 obtain⟨t,rfl⟩:=g;obtain⟨k,r,f,hz⟩:=I.tuple m;obtain⟨j,h1,l,h3,h4,h5⟩:=Ab2 n;obtain⟨w,ew,d⟩:=r.get l;have hl:=r.length;have hn:=Vp;have a:EP X _ _ Q w s:=⟨z,H,I,d,q⟩
 exact subscriptTail_builtinR f.typeIs slot_tuple_getitem.lookup
  (getItem_tuple (j:=j) f (by omega) (by omega) (by simp_all) (by grind) ⟨rfl,a⟩) o
theorem Bp9:IxR X B1b:=by
 intro a b d s σ H x y v u Q I f m h g;obtain⟨z,i,c,rfl,rfl,hz,l,q⟩:=h;obtain⟨t,rfl⟩:=f;obtain⟨t',rfl⟩:=m;obtain⟨j,e,k,h3,o,n⟩:=Ab2 l
 have p:z.cps.toList.length=z.length:=by simp[Str.length]
 rw[p]at e o n;have hn:=Vp
 exact tail_any (typeIs_str s z t) slot_str_getitem.lookup (getItem_str (by
  grind) (by rw[e];simpa using k) ⟨.str _,H,I.tok _,⟨_,rfl⟩,q⟩) g
def rIx (K:PySem.W.Frag):R2:=λx y H Q=>Bw6 K x y H Q\/Bq4 K x y H Q\/B1b x y H Q
theorem Bm3:IxR X (rIx X.K):=ix_list.or (ix_tup.or Bp9)
theorem Ao8 (a:List Value)(n j:Nat)(u:Value):Obj.mapSeq (·.setIfInBounds j u) { cls:=.type "list",data:=.seq a.toArray n }={ cls:=.type "list",data:=.seq (a.set j u).toArray n }:=by
 simp[Obj.mapSeq]
theorem Inv.lst {b:St} (I:Inv X pins b H s) (h:H p=some (.lst xs)) :
 ∃(a:List Value) (n:Nat),Vals xs a/\s.heap.get? p=some { cls:=.type "list",data:=.seq a.toArray n }/\xs.length<=sizeLine:=by
 obtain⟨z,a,n,r,e⟩:=I.hok p _ h
 grind
theorem Inv.lstUpd {a its':List Value} (I:Inv X pins c H s) (h:H p=some (.lst xs))
 (ho:s.heap.get? p=some { cls:=.type "list",data:=.seq a.toArray n }) (hf:f { cls:=.type "list",data:=.seq a.toArray n }={ cls:=.type "list",data:=.seq its'.toArray n' }) (r:Vals ys its') (hz:ys.length<=sizeLine) (t:Nat) :
 Inv X pins c (upd H p (.lst ys)) { s with heap:=s.heap.update p f,toks:=t }:=by
 have e:(s.heap.update p f).get? p=some { cls:=.type "list",data:=.seq its'.toArray n' }:=by
  rw[Heap.get?_update_self f ho (by rw[hf] <;> rfl),hf]
 refine I.write (by rw[h];trivial) (.inl rfl) (λb u d q=>(Heap.get?_update_other _ _ (Ne.symm d)).trans q) ⟨_,e⟩ ?_
 exact⟨hz,its',n',r,e⟩
def Bk5:V->V->V->Hp->(Hp->Prop)->Prop:=λo i v H Q=>∃p xs k j,o=.ref p/\i=.int k/\H p=some (.lst xs)/\ixN xs.length k=some j/\Q (upd H p (.lst (xs.set j v)))
theorem set_list:By9 X Bk5:=by
 intro a s w H o i v ov iv u Q I y m g h;obtain⟨p,l,k,j,rfl,rfl,d,x,q⟩:=h
 cases y
 obtain⟨t,rfl⟩:=m;obtain⟨b,n,r,c,hz⟩:=I.lst d;obtain⟨e,h2,z,A⟩:=Yv x;have hl:=r.length;have hn:=Vp
 have I':Inv X a w (upd H p (.lst (l.set j v))) { s with heap:=s.heap.update p (Obj.mapSeq (·.setIfInBounds j u)) } :=
  I.lstUpd d c (Ao8 _ n j u) (r.set g j) (by grind) _
 by_cases h0:0<=k
 ·have f:k.toNat=j:=by
   rw[seqIndex_of h0 A]at e
   grind
  exact PySem.W.ki_setAt c h0 (by omega) (by grind) (by grind)
 ·have f:(k+b.toArray.size).toNat=j:=by
   rw[seqIndex_neg (by omega) z]at e
   simp_all
  exact PySem.W.ki_setBack c (by omega) (by simp_all) (by omega) (by grind)
theorem Z3 (lo hi:Option Int)(n:Nat):(sliceBounds lo hi none n).1=((HT.sIx n 0 lo:Nat):Int)/\(sliceBounds lo hi none n).2.1=((HT.sIx n n hi:Nat):Int)/\(sliceBounds lo hi none n).2.2=1:=by
 refine⟨?_,?_,rfl⟩
 ·cases lo with
  | none=>simp[sliceBounds,HT.sIx]
  | some i =>
   simp only[sliceBounds,HT.sIx,Option.getD_none,show (1:Int)>0 by decide,if_true]
   by_cases h:i<0
   ·simp only[h,if_true] <;> omega
   ·simp only[h,if_false] <;> omega
 ·cases hi with
  | none=>simp[sliceBounds,HT.sIx]
  | some i =>
   simp only[sliceBounds,HT.sIx,Option.getD_none,show (1:Int)>0 by decide,if_true]
   by_cases h:i<0
   ·simp only[h,if_true] <;> omega
   ·simp only[h,if_false] <;> omega
theorem Wv (a:List Value)(lo hi:Option Int):slicePick a.toArray lo hi none=((a.drop (HT.sIx a.length 0 lo)).take (HT.sIx a.length a.length hi-HT.sIx a.length 0 lo)).toArray:=by
 obtain⟨c,d,b⟩:=Z3 _ _ _;unfold slicePick;rw[c,d,b]
 simp only[sliceRange_one,pick_run] <;> rfl
def B2s (K:PySem.W.Frag):V->Option Int->Option Int->Hp->VK->Prop:=λx lo hi H Q=>∃a xs,x=.ref a/\SqL K H a xs/\∀p,H p=none->Q (.ref p) (upd H p (.lst (A1m xs lo hi)))
theorem Ba6:SlR X (B2s X.K):=by
 intro e s σ H x v vl vu lo hi sl Q I i j f k h;obtain⟨a,xs,rfl,g,q⟩:=h
 cases i
 obtain⟨l,r,d,m⟩:=I.list g;have c:=r.length
 refine⟨"list",_,slot_list_getitem.lookup,d.isList.typeIs,?_⟩
 refine wpAny_getItem_list_slice d.isList j f k .none (by simp) ?_ (by simp_all)
 rw[Wv,<- c]
 refine⟨.ref _,_,I.laid (λb ob q=>Heap.get?_push_of_some _ q) (Nat.le_refl _) ?_,rfl,q _ (I.hok.fresh (Nat.le_refl _))⟩
 exact⟨Nat.le_trans (Sx _ _ _) m,_,0,(r.drop _).take _,Heap.get?_push_size _ rfl⟩
theorem zE.or {r b:List V->Hp->VK->Prop}(h:zE X f r) (h':zE X f b):zE X f (λxs H Q=>r xs H Q\/b xs H Q):=by
 intro c s d H xs e Q I a q
 rcases q with q | q
 ·exact h _ s _ H _ _ Q I a q
 ·exact h' _ s _ H _ _ Q I a q
theorem Y0:zE X (.type "list") (λxs H Q=>∃p k,xs=[.ref p]/\(SqL X.K H p k\/SqT X.K H p k)/\∀l,H l=none->Q (.ref l) (upd H l (.lst k))):=by
 intro z s σ H xs us Q I r h;obtain⟨p,k,rfl,f,q⟩:=h;obtain⟨u,rfl,A⟩:=vals1 r
 cases A
 have g:∀(a:List _),Vals _ _->k.length<=sizeLine->∀(d:Heap) (t:Nat),(∀b o',s.heap.get? b=some _->d.get? b=some _) ->
  d.get? _=some _->EP X _ _ Q _ { s with heap:=d }:=λa c j d t i e =>
  ⟨.ref _,_,I.laid i (Nat.le_refl _) (show z9 _ _ _ _ _ (.lst _) from ⟨j,a,t,c,e⟩),rfl,q _ (I.hok.fresh (Nat.le_refl _))⟩
 rcases f with f | f
 ·obtain⟨a,c,y,j⟩:=I.list f
  have m:=c.length;obtain⟨o,w,x,n,v⟩:=y.isList
  exact call_list_seq p (.inl rfl) w x v (λd t i e=>g _ c j _ _ i e) (by simp_all)
 ·obtain⟨a,c,y,j⟩:=I.tuple f
  have m:=c.length;obtain⟨o,w,x,n,v⟩:=y
  exact call_list_seq p (.inr rfl) w x v (λd t i e=>g _ c j _ _ i e) (by simp_all)
theorem Ws:zE X (.type "tuple") (λxs H Q=>∃p c,xs=[.ref p]/\((SqL X.K H p c/\∀l,H l=none->Q (.ref l) (upd H l (.tup c)))\/(SqT X.K H p c/\Q (.ref p) H))):=by
 intro i s σ H xs us Q I r h;obtain⟨p,c,rfl,h⟩:=h;obtain⟨u,rfl,w⟩:=vals1 r
 cases w
 rcases h with ⟨d,q⟩ | ⟨d,q⟩
 ·obtain⟨a,g,f,m⟩:=I.list d
  have k:=g.length
  refine call_tuple_list f.isList (λj v=>?_) (by simp_all)
  have n:Inv X _ _ H { s with heap:=j }:=I.kept v
  have t:Inv X _ _ (upd H _ (.tup _)) { s with heap:=j.push _ } :=
   n.laid (λb o e=>Heap.get?_push_of_some _ e) (Nat.le_refl _) (show z9 _ _ _ _ _ _ from ⟨m,a,g,zQ.new _ _⟩)
  exact⟨.ref _,_,t,rfl,q _ (n.hok.fresh (Nat.le_refl _))⟩
 ·obtain⟨a,g,f,m⟩:=I.tuple d
  exact call_tuple_same f ⟨.ref p,H,I,rfl,q⟩
def tyV (K:PySem.W.Frag)(T:String)(x:V)(H:Hp):Prop:=match x with
 | .str _=>T = "str"
 | .int _=>T = "int"
 | .ref p=>(T = "list" /\ ∃xs,SqL K H p xs)\/(T = "tuple" /\ ∃o,K.lookup p=some o/\o.cls=.type "tuple" /\ o.dict=none) \/
  (T = "dict" /\ ((∃kvs,H p=some (.dK kvs))\/∃kvs,H p=some (.dT kvs)))\/(T = "set" /\ ∃S n,H p=some (.set S n))\/(T = "tuple" /\ ∃xs,H p=some (.tup xs))
 | _=>False
theorem Bp3 (I:Inv X pins l H s) (r:RelV x v) (ty:tyV X.K T x H) :
 s.TypeIs v T/\∀a,v=.ref a->∃ob,s.heap.get? a=some ob/\ob.dict=none:=by
 cases x with
 | str z =>
  obtain⟨t,rfl⟩:=r
  cases (ty)
  exact⟨typeIs_str s z t,λ_ e=>nomatch e⟩
 | int i =>
  obtain⟨t,rfl⟩:=r
  cases (ty)
  exact⟨typeIs_int s i t,λ_ e=>nomatch e⟩
 | ref p =>
  cases r
  rcases ty with ⟨rfl,m,u⟩ | ⟨rfl,o,b,q,k⟩ | ⟨rfl,b⟩ | ⟨rfl,S,n,b⟩ | ⟨rfl,m,b⟩
  ·obtain⟨h,_,j,_⟩:=I.list u
   refine⟨j.isList.typeIs,λa e=>?_⟩
   obtain⟨o,n,e,c,k,_⟩:=j
   grind
  ·refine⟨⟨o,I.kIn p o b,q⟩,λa e=>?_⟩
   cases e
   exact⟨o,I.kIn _ o b,k⟩
  ·have z:∃o,s.heap.get? p=some o/\o.ExactDict:=by
    rcases b with ⟨g,b⟩ | ⟨g,b⟩
    ·obtain⟨_,_,_,_,o,_,_,e,d,_⟩:=I.hok p _ b
     grind
    ·obtain⟨_,_,_,_,o,_,_,e,d,_⟩:=I.hok p _ b
     grind
   obtain⟨o,e,d⟩:=z
   refine⟨⟨o,e,d.1⟩,λa f=>?_⟩
   cases f
   exact⟨o,e,d.2.1⟩
  ·obtain⟨o,_,_,_,e,d,_⟩:=I.hok p _ b
   refine⟨⟨o,e,d.1⟩,λa f=>?_⟩
   cases f
   exact⟨o,e,d.2.1⟩
  ·obtain⟨_,h,_,o,e,c,_,dn⟩:=I.hok p _ b
   refine⟨⟨o,e,c⟩,λa f=>?_⟩
   grind
 | _=>exact False.elim ty
def tBM (K:PySem.W.Frag)(T:String)(r:V->List V->Hp->VK->Prop)(to:TE)(t:TA):TE:=λσ H Q=>to σ H λx H1=>tyV K T x H1/\t σ H1 λxs H2=>r x xs H2 Q
variable {o e:Expr}{es:List Expr}{to:TE}{t:TA}{name:Str}{apos cpos:Pos}{T id:String}{r:V->List V->Hp->VK->Prop}
theorem Bk9 (pa:PlainAttrs T)(slot:Slot T name id)(hty:typeOf (.builtin id)=pure (.type "method_descriptor")) (hm:MtR X id r) (ho:PE X o to) (ha:PA X (e::es) t)
 (hbase:attributeBase o name X.env (eval o X.env)=eval o X.env:=by rfl)
 (hfew:((backTo cpos (starEach (e::es) X.env)).all (λx=>!x.1)&&(backToKw cpos (keywordEach [] X.env)).all (λx=>x.1.isSome)
  && decide ((e::es).length+([]:List Keyword).length+(if ([]:List Keyword).isEmpty then 0 else 1)<30))=true:=by rfl)
 (hline:(apos.endLine==cpos.line)=true:=by rfl) (hs:starEach (e::es) X.env=(false,eval e X.env)::starEach es X.env:=by rfl) (hplain:(backTo cpos (starEach es X.env)).any (·.1)=false:=by rfl) :
 PE X (.Call (.Attribute o name apos) (e::es) [] cpos) (tBM X.K T r to t):=by
 intro b s p H Q I h
 refine wpAny_Call_method_late hbase hfew hline rfl (thn (ho _ s _ H _ I h) λv z ⟨x,y,c,a,j,k⟩=>?_)
 obtain⟨g,m⟩:=Bp3 c a j
 refine⟨T,id,pa,slot,hty,g,m,?_⟩
 have d:=ha cpos _ _ _ _ _ c k;rw[hs]at d ⊢
 refine Calls.callWith_builtin (by grind) (Calls.evalArgs_plain ?_)
 exact thn d λi q ⟨u,w,l,n,f⟩=>hm _ _ _ _ x _ v i Q l a n f
end
def MtM (X:Cx)(id:String)(r:V->List V->Hp->VK->Prop):Prop :=
 ∀
  (pins:List (Addr×Obj)) (s:Shared) (σ:St) (H:Hp) (x:V) (xs:List V) (v:Value) (us:List Value) (Q:VK),Inv X pins σ H s->RelV x v->Vals xs us->r x xs H Q ->
  wpAny (model X.prog X.w) X.A (call (.builtin id) (v::us)) (EP X pins σ Q) X.xe s
theorem Vals.one:∀{x:V}{us:List Value},Vals [x] us->∃u,us=[u]/\RelV x u
 | _,_,h=>by
  cases h with
  | cons r t=>cases t;exact⟨_,rfl,r⟩
theorem Vals.two:∀{x y:V}{us:List Value},Vals [x,y] us->∃u v,us=[u,v]/\RelV x u/\RelV y v
 | _,_,_,h=>by
  cases h with
  | cons r t =>
   cases t with
   | cons q t=>cases t;exact⟨_,_,rfl,r,q⟩
theorem Vals.eraseIdx:∀{xs:List V}{us:List Value}(i:Nat),Vals xs us->Vals (xs.eraseIdx i) (us.eraseIdx i)
 | _,_,_,.nil=>.nil
 | _,_,0,.cons _ t=>t
 | _,_,i+1,.cons r t=>.cons r (Vals.eraseIdx i t)
theorem Ay2 {α:Type}:∀(l:List α) (i:Nat),(l.eraseIdx i).length<=l.length
 | [],_=>Nat.le_refl _
 | _::_,0=>Nat.le_succ _
 | _::r,i+1=>Nat.succ_le_succ (Ay2 r i)
section
variable {X:Cx}{pins:List (Addr×Obj)}{σ:St}{H:Hp}{s:Shared}{l b:Addr}{xs ys:List V}
theorem Inv.lset {a its':List Value} (I:Inv X pins σ H s) (c:H l=some (.lst xs))
 (e:s.heap.get? l=some { cls:=.type "list",data:=.seq a.toArray n }) (hf:f a.toArray=its'.toArray) (hv:Vals ys its') (hz:ys.length<=sizeLine) :
 Inv X pins σ (upd H l (.lst ys)) { s with heap:=s.heap.update l (Obj.mapSeq f),toks:=t' }:=by
 have q:=PySem.IsL.update e f;rw[hf]at q
 refine I.write (by rw[c];trivial) (.inl rfl) (λg u d b=>(Heap.get?_update_other _ _ (Ne.symm d)).trans b) ⟨_,q⟩ ?_
 exact⟨hz,its',_,hv,q⟩
theorem Inv.lnew (I:Inv X pins σ H s) (hv:Vals ys a) (hz:ys.length<=sizeLine) :
 Inv X pins σ (upd H s.heap.objs.size (.lst ys)) { s with heap:=s.heap.push { cls:=.type "list",data:=.seq a.toArray },toks:=t' } :=
 I.laid (λ_ _ q=>Heap.get?_push_of_some _ q) (Nat.le_refl _) ⟨hz,a,0,hv,Heap.get?_push_size _ rfl⟩
theorem Inv.fresh (I:Inv X pins σ H s):H s.heap.objs.size=none:=I.hok.fresh (Nat.le_refl _)
theorem Inv.lstM (I:Inv X pins σ H s)(b:H l=some (.lst xs)):xs.length<=sizeLine/\∃(a:List Value) (n:Nat),Vals xs a/\xs.length=a.length/\s.heap.get? l=some { cls:=.type "list",data:=.seq a.toArray n }:=by
 obtain⟨z,a,n,r,e⟩:=I.hok l _ b;exact⟨z,a,n,r,r.length,e⟩
end
section
variable {X:Cx}
def rAppend:V->List V->Hp->VK->Prop:=λx vs H Q=>∃l xs y,x=.ref l/\vs=[y]/\H l=some (.lst xs)/\xs.length<sizeLine/\Q .non (upd H l (.lst (xs++[y])))
theorem A0r:MtM X "list.append" rAppend:=by
 intro a s σ H x vs v us Q I c f h;obtain⟨l,xs,y,rfl,rfl,b,hz,q⟩:=h
 cases c
 obtain⟨u,rfl,d⟩:=f.one;obtain⟨z,g,n,r,hl,e⟩:=I.lstM b
 refine call_meets F.slot_list_append ⟨_,e,rfl⟩ F.entry_list_append (F.args_list_append_2 _ _) (PySem.list_append l _ n u (by simp_all)) ⟨e,?_⟩
 refine⟨.non,_,I.lset b e (by simp) (r.append (.cons d .nil)) ?_,rfl,q⟩
 grind
def rPopAt:V->List V->Hp->VK->Prop:=λx vs H Q=>∃l xs i k y,x=.ref l/\vs=[.int i]/\H l=some (.lst xs)/\-(2 ^ 63)<=i/\i<2 ^ 63/\seqIndex? i xs.length=some k/\xs[k]?=some y/\Q y (upd H l (.lst (xs.eraseIdx k)))
theorem Ae1:MtM X "list.pop" rPopAt:=by
 intro b s σ H x vs v us Q I f g h;obtain⟨l,xs,i,k,y,rfl,rfl,c,d,j,hk,o,q⟩:=h
 cases f
 obtain⟨u,rfl,m⟩:=g.one;obtain⟨t,rfl⟩:=m;obtain⟨z,p,n,r,hl,e⟩:=I.lstM c;obtain⟨w,hw,a⟩:=r.get o
 refine call_meets F.slot_list_pop ⟨_,e,rfl⟩ F.entry_list_pop (F.args_list_pop_2 _ _)
  (MeetsSeq.list_pop_at l _ n i t k w (fitsIndex_both d j) (by simp_all) (by simp_all) (by simp_all)) ⟨e,?_⟩
 refine⟨y,_,I.lset c e ?_ (r.eraseIdx k) ?_,a,q⟩
 ·simp_all
 grind
def B1s:R2:=λx y H Q=>∃l b xs zs,x=.ref l/\y=.ref b/\H l=some (.lst xs)/\H b=some (.lst zs)/\xs.length+zs.length<=sizeLine/\∀p,H p=none->Q (.ref p) (upd H p (.lst (xs++zs)))
theorem By2:OpR X (binaryOp .Add) B1s:=by
 intro d s σ H x y v u Q I k g h;obtain⟨l,b,xs,zs,rfl,rfl,i,j,hz,q⟩:=h
 cases k
 cases g
 obtain⟨z,c,n,r,hl,e⟩:=I.lstM i;obtain⟨z2,a,n2,o,m,p⟩:=I.lstM j
 refine PySem.P.add_list e p ?_ (by grind)
 have f:c.toArray++a.toArray=(c++a).toArray:=by simp
 rw[f]
 exact⟨.ref _,_,I.lnew (r.append o) (by simp_all),rfl,q _ I.fresh⟩
end
section
variable {κ:Type}[DecidableEq κ]
noncomputable def Qu (kvs:List (κ×V)) (k:κ):Option V:=(kvs.find? λkv=>decide (kv.1=k)).map (·.2)
noncomputable def putK (kvs:List (κ×V)) (k:κ) (v:V):List (κ×V) :=
 if (kvs.any λkv=>decide (kv.1=k))=true then kvs.map (λkv=>if kv.1=k then (kv.1,v) else kv) else kvs++[(k,v)]
theorem Ae8 {p:κ×V} (e:p.1=k):Qu (p::r) k=some p.2:=by simp[Qu,e]
theorem Vd {p:κ×V} (e:¬ p.1=k):Qu (p::r) k=Qu r k:=by simp[Qu,e]
theorem KV.any (r:KV a vs) (k:κ):(a.any λb=>decide (b.1=k))=vs.any λb=>decide (b.1=k):=by
 induction r with
 | nil=>rfl
 | cons h t c=>simp_all
end
theorem B1p {A:Around}(hu:A.units+9<cLine):A.in1.units+8<cLine:=Nat.lt_of_le_of_lt (Nat.le_of_eq (rfl)) hu
abbrev KT (H:Hp):List (PyData×V)->List (PyData×Addr×Value)->Prop:=Paired λp q=>p.1=q.1/\KAt H p.1 q.2.1/\RelV p.2 q.2.2
theorem KT.val (r:KT H a xs) (k:PyData):Bq9 (Qu a k) ((atKey xs k).map (·.2)):=by
 induction r with
 | nil=>trivial
 | @cons p q j c h t i =>
  obtain⟨d,_,g⟩:=h
  by_cases e:p.1=k
  ·have b:atKey (q::c) k=some q.2:=by simp[atKey,(d.symm.trans e)]
   rw[Ae8 e,b];exact g
  ·have f:¬ q.1=k:=λz=>e (d.trans z)
   have b:atKey (q::c) k=atKey c k:=by simp[atKey,f]
   rw[Vd e];grind
theorem KT.keeps (r:KT H a xs) (ht:∀b ys,H b=some (.tup ys)->H' b=some (.tup ys)):KT H' a xs :=
 Paired.mapP r λ_ _ z=>⟨z.1,z.2.1.stay ht,z.2.2⟩
section
variable {P:Program}{w:World}{H:Hp}{h:Heap}{a:Addr}
theorem Gf (b:HOk P w H h) (e:Rd H a u):z9 P w H h a u:=e.ok b
theorem Bz8 (c:HOk P w H h) (e:Rd H a (.dK b)):b.length<=sizeLine/\(a==sysModules)=false/\∃vs,KV b vs/\h.DictOf (Ff P w) a vs :=
 show z9 P w H h a _ from Gf c e
mutual
theorem W9 (ok:HOk P w H h):∀{d:PyData}{v:V}{u:Value},KTr H d v->RelV v u->∃as,Reads h u d as
 | .none,_,u=>λe r=>by
  cases (show _=V.non from e)
  cases (show u=Value.none from r)
  exact⟨_,.none⟩
 | .int i,_,u=>λe r=>by
  cases (show _=V.int i from e)
  obtain⟨t,rfl⟩:=r;exact⟨_,.int i t⟩
 | .str x,_,u=>λe r=>by
  cases (show _=V.str x from e)
  obtain⟨t,rfl⟩:=r;exact⟨_,.str x t⟩
 | .tuple ds,_,u=>λe r=>by
  obtain⟨a,vs,rfl,ha,t⟩:=e
  cases (show u=Value.ref a from r)
  obtain⟨z,its,rv,o,e,c,⟨n,dt⟩,_⟩:=ok a _ ha;obtain⟨as,q⟩:=Vm ok t rv
  exact⟨_,.tuple e c dt (by simpa using q)⟩
 | .bool _,_,_=>λe _=>False.elim e
 | .list _,_,_=>λe _=>False.elim e
 | .dict _,_,_=>λe _=>False.elim e
theorem Vm (ok:HOk P w H h):∀{ds:List PyData}{vs:List V}{us:List Value},KTrL H ds vs->Vals vs us->∃as,ReadsAll h us ds as
 | [],_,us=>λe r=>by
  cases (show _=[] from e)
  cases r
  exact⟨_,.nil⟩
 | d::ds,_,us=>λe r=>by
  obtain⟨v,vs,rfl,hv,t⟩:=e
  cases r with
  | cons r1 r2 =>
   obtain⟨as,q⟩:=W9 ok hv r1;obtain⟨bs,p⟩:=Vm ok t r2;exact⟨_,.cons q p⟩
end
theorem A7b (b:HOk P w H h) (e:KAt H k a):(Eu P w).is h k a:=⟨e.1,W9 b e.2 (show RelV _ _ from rfl)⟩
theorem Bk4 (f:HOk P w H h) (e:Rd H a (.dT b)):b.length<=sizeLine/\(a==sysModules)=false /\
 ∃c,KT H b c/\h.DictOfH (Eu P w) a c:=by
 obtain⟨z,y,c,r,o,v,i,j,k,g,s,u⟩:=(show z9 P w H h a _ from Gf f e)
 refine⟨z,y,c,r,o,v,i,j,k,g,s,λx d=>?_,u⟩
 have n:∀{l:List _} {m:List _},KT H l m->∀x∈m,(Eu P w).is h x.1 x.2.1:=by
  intro l m q
  induction q with
  | nil=>simp_all
  | @cons p q B C D t A =>
   intro x d
   rcases List.mem_cons.mp d with e | d
   ·exact A7b f (by grind)
   grind
 grind
theorem B0g (c:HOk P w H h) (e:H a=some (.dT b)):b.length<=sizeLine/\(a==sysModules)=false /\
 ∃xs,KT H b xs/\h.DictOfH (Eu P w) a xs:=Bk4 c (.inl e)
end
section
variable {X:Cx}{pins:List (Addr×Obj)}{σ:St}{H:Hp}{s:Shared}{a:Addr}
theorem Inv.big (I:Inv X pins σ H s):sysModules<s.heap.objs.size:=by
 exact Nat.lt_trans (by decide) ((I.mod.glob.keeps I.bk).lt)
theorem At5 (I:Inv X pins σ H s) (e:Mut (H a)) (hs:Heap.SameBut a s.heap h') (he:∃q,h'.get? a=some q) (c:z9 X.prog X.w (upd H a ob) h' a ob) :
 Inv X pins σ (upd H a ob) { s with heap:=h',toks:=t' } :=
 I.write e (.inl rfl) (λb q d z=>(hs.2 b d).trans z) he c
end
theorem A7i (h:Heap) (hb:sysModules<h.objs.size):z9 P w H (h.push { cls:=.type "dict",data:=.dict #[] }) h.objs.size (.dT []) :=
 ⟨Nat.zero_le _,beq_eq_false_iff_ne.mpr (Ne.symm (Nat.ne_of_lt hb)),[],.nil,_,#[],0,Heap.get?_push_size _ rfl,⟨rfl,rfl,rfl⟩,rfl,rfl,List.nodup_nil⟩
def Ao7:TE:=λ_ H Q=>∀p,H p=none->Q (.ref p) (upd H p (.dT []))
section
variable {X:Cx}{pos:Pos}
theorem A5q:PE X (.Dict [] [] pos) Ao7:=λa s b H Q I h =>
 wpAny_Dict_empty ⟨.ref _,_,I.laid (λ_ _ q=>Heap.get?_push_of_some _ q) (Nat.le_refl _) (A7i _ I.big),rfl,h _ (I.hok.fresh (Nat.le_refl _))⟩
end
structure M2 (X:Cx) (o:Expr) (m:Str) (apos:Pos) (e f:Expr) (cpos:Pos):Prop where
 base:attributeBase o m X.env (eval o X.env)=eval o X.env
 few:((backTo cpos (starEach [e,f] X.env)).all (λx=>!x.1)&&(backToKw cpos (keywordEach [] X.env)).all (λx=>x.1.isSome)
  && decide (([e,f]:List Expr).length+([]:List Keyword).length+(if ([]:List Keyword).isEmpty then 0 else 1)<30))=true
 line:(apos.endLine==cpos.line)=true
 trees:backTo cpos (starEach [e,f] X.env)=[(false,eval e X.env),(false,eval f X.env)]
def IsD (H:Hp)(a:Addr):Prop:=(∃kvs,Rd H a (.dK kvs))\/∃kvs,Rd H a (.dT kvs)
theorem A8q (I:Inv X pins k H s) (d:IsD H a) :
 s.TypeIs (.ref a) "dict" /\ (∀b,Value.ref a=.ref b->∃c,s.heap.get? b=some c/\c.dict=none)/\(a==sysModules)=false:=by
 rcases d with ⟨g,e⟩ | ⟨g,e⟩
 ·obtain⟨_,h,m,_,f⟩:=Bz8 I.hok e
  refine⟨f.typeIs,λb q=>?_,h⟩
  cases q
  obtain⟨c,_,_,i,j,_⟩:=f;exact⟨c,i,j.2.1⟩
 ·obtain⟨_,h,l,_,f⟩:=Bk4 I.hok e
  refine⟨f.typeIs,λb q=>?_,h⟩
  cases q
  obtain⟨c,_,_,i,j,_⟩:=f;exact⟨c,i,j.2.1⟩
end L2
namespace Att
open PySem PySem.W PySem.Calls PyProof.Rows
theorem Tg : ∀(ns:List Int) (vs:List Value),WellAll P h vs (ns.map WData.int)->IntsAre vs ns:=by
 intro ns
 induction ns with
 | nil =>
  intro vs w
  cases w
  exact .nil
 | cons n ns c =>
  intro vs w
  cases w with
  | cons a b =>
   cases a
   exact .cons _ _ (c _ b)
theorem A2m {l:OpenLaw} (hn:l.most=some n)
 (hpre:l.row.toRowW.claim.pre args=true) (hwl:WellAll P h vals args) :
 ∃a vs ns,vals=[Value.ref a]/\args=[WData.list (ns.map WData.int)]/\h.get? a=some { cls:=.type "list",data:=.seq vs.toArray }/\IntsAre vs ns/\ns.length<=n:=by
 have hsh:WShape.hasAll [] args [.list .int]=true:=(pre_splitW hpre).1;have hc:l.pre.holds [] { args:=args }=true:=(pre_splitW hpre).2;obtain⟨d,r,rfl,h1,h2⟩:=hasAllW_cons hsh;obtain rfl:=hasAllW_nil h2;obtain⟨xs,rfl,h3⟩:=hasW_list h1;obtain⟨ns,rfl⟩:=items_int h3
 have hlen:ns.length<=n:=by
  unfold OpenLaw.pre at hc
  have h4:(WTm.not (.lt (.lit (.int (n:Int))) (.len (.arg 0)))).holds [] { args:=[.list (ns.map .int)] }=true:=by
   have h4:=(holds_andW hc).1;rw[hn]at h4;exact h4
  have h5:=condW_of h4 (w_not (w_lt w_lit (w_len_list (w_arg rfl))));rw[List.length_map]at h5
  refine Nat.le_of_not_lt λq=>?_
  have q':(n:Int)<((ns.length:Nat):Int):=by omega
  first
   | (rw[decide_eq_true q']at h5;exact absurd h5 (by decide))
   | (simp at h5;omega)
 cases hwl with
 | cons w1 w2 =>
  cases w2
  cases w1 with
  | list ho hall=>exact⟨_,_,ns,rfl,rfl,ho,Tg ns _ hall,hlen⟩
theorem A1u (l:OpenLaw)(args:List WData):l.row.toRowW.claim.post args (.bool true) args=true :=
 postW_of
  (show WShape.has _ _ _=true by rfl)
  (show (WTm.eq _ _).value _ _=some _ from w_eq_bool (w_res rfl) w_lit) rfl
theorem Ai0 {l:OpenLaw}
 (hn:l.most=some n) (t:d.params.defaults=[])
 (i:∀(w:World) (c b:Shared) (mg B:Str->Option Value) (fa:Addr) (o:Obj) (z v h:Value) (a:Addr) (vs:List Value) (ns:List Int),
  Ground q loose [] XP w c mg B b.heap->YP w b.heap ->
  b.heap.get? fa=some o->o.data=.func (docDef d.name d.params d.body d.scope z v h)->b.heap.CodeRec v d.name->mg d.name=some (.ref fa) ->
  b.heap.get? a=some { cls:=.type "list",data:=.seq vs.toArray }->IntsAre vs ns->ns.length<=n->b.gens=#[] ->
  codeAny (model l.prog w) callerA (.call (.ref fa) ⟨[.ref a],[]⟩) (λr s'=>r=.ok (.ret (.bool true))/\OldK b.heap s'.heap/\s'.os=b.os/\AllBare s'.gens) b) :
 WalkO q loose XP YP l.row.toRowW d [] (λf vs=>PySem.call f vs):=by
 intro w c b mg B G Y fa o z v h M H J K u C m D x A as g y F p I;obtain rfl:M=.none:=Dflts.none C t;obtain rfl:H=.none:=Dflts.noKw C;obtain⟨a,vs,ns,rfl,rfl,j,e,k⟩:=A2m hn g p
 refine enter_call (codeAny_mono (i w _ _ _ _ _ o _ _ _ a _ _ G Y J (fd_plain K) u m j e k D) λr s' N=>?_)
 obtain⟨rfl,L,O,P⟩:=N
 exact⟨.inl ⟨.bool _,.bool _,[],rfl,λ_=>rfl,.bool _,A1u l _,λ_=>⟨List.Pairwise.nil,λ_ E=>nomatch E⟩⟩,L,O,P⟩
end Att
namespace L2
open PySem PySem.Spec PyProof.Rows
theorem Yh:∀{vs:List Value}{ns:List Int},IntsAre vs ns->Vals (ns.map V.int) vs
 | _,_,.nil=>.nil
 | _,_,.cons n t h=>.cons ⟨t,rfl⟩ (Yh h)
noncomputable def Jy (s:Stmt):Arguments:=match s with
 | .FunctionDef _ a _ _ _ _ _ _ _ _=>a
 | _=>{ posonlyargs:=[],args:=[],vararg:=none,kwonlyargs:=[],kw_defaults:=[],kwarg:=none,defaults:=[] }
noncomputable def Gz (s:Stmt):List Stmt:=match s with
 | .FunctionDef _ _ b _ _ _ _ _ _ _=>b
 | _=>[]
noncomputable def An (s:Stmt):Scope:=match s with
 | .FunctionDef _ _ _ _ _ _ sc _ _ _=>sc
 | _=>{ kind:=.function,names:=[],isGenerator:=false,isCoroutine:=false }
noncomputable abbrev CX0:CXT:=λ_ _ _ _ _ _=>False
abbrev E0:XK:=λ_ _ _=>False
theorem B0r : Hi CX0 X E0:=λ_ _ _ _ _ _ _ h=>h.elim
structure Fun (K:PySem.W.Frag) (x qual:Str) (st:Stmt) (f:Addr) (fd:FuncData):Prop where
 ex:∃(oc:Value) (od:Option Addr) (kV doc pm:Value) (an:Option Addr) (cdv ct:Value) (osl:Array (Option Value)),
  fd=PySem.W.fnOf x qual (Jy st) (Gz st) (An st) .none kV doc pm an cdv ct/\K.lookup f=some ⟨oc,od,.func fd,osl⟩/\PySem.W.codeIn K cdv qual=true
 kp:PySem.W.keepIn K (.ref f)=true
section
variable {P:Program}{w:World}{K:PySem.W.Frag}{mg:Str->Option Value}{base:Heap}
theorem Fun.ok {st:Stmt} (F:Fun K x qual st f i) (S:Bl N ps (An st)) (g:∀vs H Q E,sp vs H Q E->vs.length=ps.length)
 (b:∀(c:Value) (A:Around) (a:List Env) (s:Shared) (H:Hp) (vs:List V) (Q:VK) (E:XK),Room k (A.deeper (envOfC qual (An st) s.heap.objs.size f c))->sp vs H Q E ->
  ∃t,PSs (Pz CX0 P w K mg base N qual (An st) f c A a s H E).nox (Gz st) t/\t { nx:=λ_ H'=>Q .non H',rt:=Q } (start N vs) H):FnOk P w K mg base CX0 (k+1) f i ps sp:=by
 obtain⟨oc,od,kV,l,pm,an,c,ct,j,rfl,m,e⟩:=F.ex
 refine As5 m e S g λA a s H vs Q E n d=>?_
 obtain⟨t,h,q⟩:=b _ A _ s H _ Q E n d;exact⟨t,h.nox,q⟩
theorem Fun.binds {st:Stmt} (F:Fun K x qual st f d)
 (h:∀(i b e:Value) (g:Option Addr) (a c:Value) (us:List Value),us.length=ps.length->bindArgs (PySem.W.fnOf x qual (Jy st) (Gz st) (An st) .none i b e g a c) ⟨us,[]⟩=pure (ps.zip us)):Binds K d ps []:=by
 obtain⟨oc,od,i,b,e,g,a,c,k,rfl,lk,j⟩:=F.ex;exact .all (h _ _ _ _ _ _)
end
section
variable {X:Cx}
theorem pv (i:Nat) {a:Pos}(hN:X.N[i]?=some x:=by rfl) (hv:Vis X.env.scope x:=by first | exact Or.inl rfl | exact Or.inr (Or.inl rfl) | exact Or.inr (Or.inr rfl)) (hd:(x==("__debug__" : Str))=false:=by decide)
 (hcd:(x==("__classdict__" : Str))=false:=by decide):PE X (.Name x a) (Va i):=A3q hN hv hd hcd
end
def Same (H H':Hp):Prop:=∀b o,H b=some o->H' b=some o
theorem Same.refl (H:Hp):Same H H:=λ_ _ h=>h
theorem Same.trans (a:Same H e) (b:Same e d):Same H d:=λc o h=>b c o (a c o h)
theorem Same.free (e:Same H H') (h:H' l=Option.none):H l=Option.none:=by
 cases q:H l with
 | none=>rfl
 | some o =>
  rw[e l o q]at h
  grind
theorem Same.seq {K:PySem.W.Frag} (e:Same H H') (h:SqL K H a xs):SqL K H' a xs:=by
 rcases h with (h | ⟨o,h⟩) | h
 ·exact .inl (.inl (e _ _ h))
 ·exact .inl (.inr ⟨o,e _ _ h⟩)
 ·exact .inr h
end L2
set_option maxHeartbeats 4000000
namespace L2
open PySem PySem.Spec PyProof.Rows
noncomputable abbrev Bu (X:Cx) (N':List Str) (scope:Scope) (cl:List (Str×Addr)) (C:Addr) (s₀:Shared) (H₀:Hp) (ex:List Addr):Cx :=
 { X with N:=N',env:=compEnvC scope cl C X.env,s₀:=s₀,H₀:=H₀,outer:=X.stack,stack:=X.stack,ex:=ex,fn:=λx=>decide (scope.names.lookup x=some .local\/scope.names.lookup x=some .cell),pn:=[],xe:=λ_ _=>False }
noncomputable def cst (idx:List (Option Nat)) (σ:St):St:=idx.map λo=>o.bind λi=>(σ[i]?).join
structure Gh (X:Cx) (N':List Str) (idx:List (Option Nat)) (scope:Scope):Prop where
 kind:scope.kind=.function
 nod:(scope.names.map (·.1)).Nodup
 free:∀y∈scope.names,y.2=.free->X.env.kindOf y.1=some .cell\/X.env.kindOf y.1=some .free
 len:idx.length=N'.length
 at':∀(j i:Nat) (x:Str),N'[j]?=some x->idx[j]?=some (some i)->X.N[i]?=some x/\scope.names.lookup x=some .free
structure Qf (X:Cx) (N':List Str) (idx:List (Option Nat)) (scope:Scope):Prop extends Gh X N' idx scope where
 cell:∀y∈scope.names,y.2≠.cell
theorem J9 (env:Env):∀(names:List (Str×NameKind)) (acc:List (Str×Addr)),(∀y∈names,y.2=.free->∃c,env.cells.lookup y.1=some c) ->
 ∃
  cl,(forIn names acc λ(p:Str×NameKind) (r:List (Str×Addr))=>(if (p.2==NameKind.free)=true then (do let c <- cellOf env p.1;pure (ForInStep.yield ((p.1,c)::r))) else pure (ForInStep.yield r):Sem (ForInStep (List (Str×Addr)))))=(pure cl:Sem (List (Str×Addr))) /\
  (∀x c,cl.lookup x=some c->acc.lookup x=some c\/(env.cells.lookup x=some c/\(x,NameKind.free)∈names))/\(∀x,((∃c,acc.lookup x=some c)\/(x,NameKind.free)∈names)->∃c,cl.lookup x=some c)
 | [],acc,_=>⟨acc,rfl,λx c e=>.inl e,λx h=>by
  rcases h with h | h
  ·exact h
  ·simp at h⟩
 | (n,k)::r,acc,h=>by
  by_cases hk:k=NameKind.free
  ·subst hk
   obtain⟨c,hc⟩:=h (n,.free) (by simp) rfl
   obtain⟨cl,e,a,b⟩:=J9 env r ((n,c)::acc) λy hy=>h y (List.mem_cons_of_mem _ hy)
   refine⟨cl,?_,λx c' e'=>?_,λx hx=>?_⟩
   ·rw[List.forIn_cons]
    simp only[cellOf,hc];exact e
   ·rcases a x c' e' with z | ⟨z1,z2⟩
    ·rw[List.lookup_cons]at z
     split at z
     ·rename_i hxe
      have:x=n:=by simpa using hxe
      subst this
      cases z
      exact .inr ⟨hc,by simp⟩
     ·exact .inl z
    ·exact .inr ⟨z1,List.mem_cons_of_mem _ z2⟩
   ·refine b x ?_
    rcases hx with ⟨c',z⟩ | z
    ·left
     rw[List.lookup_cons]
     split
     ·exact⟨_,rfl⟩
     ·exact⟨_,z⟩
    ·rcases List.mem_cons.mp z with z | z
     ·left
      cases z
      exact⟨c,by simp⟩
     ·exact .inr z
  ·obtain⟨cl,e,a,b⟩:=J9 env r acc λy hy=>h y (List.mem_cons_of_mem _ hy)
   refine⟨cl,?_,λx c' e'=>?_,λx hx=>?_⟩
   ·rw[List.forIn_cons]
    have:(k==NameKind.free)=false:=by cases k <;> first | rfl | exact absurd rfl hk
    simp only[this];exact e
   ·rcases a x c' e' with z | ⟨z1,z2⟩
    ·exact .inl z
    ·exact .inr ⟨z1,List.mem_cons_of_mem _ z2⟩
   ·refine b x ?_
    rcases hx with z | z
    ·exact .inl z
    ·rcases List.mem_cons.mp z with z | z
     ·cases z;exact absurd rfl hk
     ·exact .inr z
theorem Ks (h:∀y∈scope.names,y.2=.free->∃c,env.cells.lookup y.1=some c) :
 ∃d,closureFor scope env=pure d/\(∀x c,d.lookup x=some c->env.cells.lookup x=some c/\(x,NameKind.free)∈scope.names)/\(∀x,(x,NameKind.free)∈scope.names->∃c,d.lookup x=some c):=by
 obtain⟨d,e,a,b⟩:=J9 _ _ [] h
 refine⟨d,?_,λx c g=>?_,λx f=>b x (.inr f)⟩
 ·unfold closureFor
  grind
 simp_all
noncomputable abbrev Bg4 (ifs:List Expr) (env:Env):Sem Bool:=forIn ifs true λc r=>if r=true then do let ok <- isTrue c env (eval c env);pure (ForInStep.yield ok) else pure (ForInStep.yield r)
def Bx1 (M:Model)(A:Around)(E:Value->Shared->Prop)(tg elt:Expr)(ifs:List Expr)(env:Env)(it acc v:Value)(Z:Shared->Prop)(s:Shared):Prop :=
 wpAny M A (letOwnedTupleGo tg it v) (λ_ a=>wpAny M A (assign tg env v) (λ_ b=>wpAny M A (Bg4 ifs env) (λok c=>match ok with
  | true=>wpAny M A (eval elt env) (λx d=>wpAny M A (call (.builtin "list.append") [acc,x]) (λ_ z=>Z z) E d) E c
  | false=>Z c) E b) E a) E s
theorem At4 (C:E=notedBy (model P w) A env λx z=>R (.error x) z) (Wd:Nat->Shared->Prop)
 (step:∀n z,Wd n z->wpAny (model P w) A (pyNext it) (λr a=>match r with
  | none=>R (.ok .next) a
  | some v=>Bx1 (model P w) A E o i j env it acc v (λy=>∃m,m<n/\Wd m y) a) E z) (n:Nat) (h:Wd n s) :
 codeAny (model P w) A (.compLoop (.ListComp i [⟨o,f,j,0⟩] p l) 0 it acc env) R s:=by
 subst C
 refine codeAny_loop (I:=Wd) rfl (turn:=?_) n h
 intro k z G
 show wpAny (model P w) A (Sem.onRaise (compTurn (.ListComp i [⟨o,f,j,0⟩] p l) 0 it acc env) λx=>do noteFrame x env;theTreesLotGoes x) _ _ z
 apply wpAny_noted;rw[compTurn_list];apply wpAny_bind;apply wpAny_standAt;apply wpAny_bind
 refine wpAny_mono (step k z G) ?_ λ_ _ q=>q
 rintro (_ | v) a u
 ·exact wpAny_pure u
 apply wpAny_bind
 refine wpAny_mono u ?_ λ_ _ q=>q
 intro _ b D;apply wpAny_bind
 refine wpAny_mono D ?_ λ_ _ q=>q
 intro _ c F;apply wpAny_bind
 refine wpAny_mono F ?_ λ_ _ q=>q
 rintro (_ | _) d t
 ·exact wpAny_pure (And.intro rfl t)
 apply wpAny_bind;apply wpAny_bind
 refine wpAny_mono t ?_ λ_ _ q=>q
 intro y e H;apply wpAny_bind
 refine wpAny_mono H ?_ λ_ _ q=>q
 intro _ g B;exact wpAny_pure (wpAny_pure (And.intro rfl B))
def PTs (X:Cx)(ifs:List Expr)(t:TT):Prop :=
 ∀
  (pins:List (Addr×Obj)) (s:Shared) (σ:St) (H:Hp) (Q:Bool->Hp->Prop),Inv X pins σ H s->t σ H Q ->
  wpAny (model X.prog X.w) X.A (forIn ifs true λc r=>if r=true then do let ok <- isTrue c X.env (eval c X.env);pure (ForInStep.yield ok) else pure (ForInStep.yield r)) (TP X pins σ Q) X.xe s
structure QTs (X:Cx) (e:(List Expr)) (t:TT):Prop where
 get:PTs X e t
def A9u:TT:=λ_ H Q=>Q true H
theorem Bd8 : PTs X [] A9u:=λ_ _ _ H _ I h=>wpAny_tests_nil ⟨H,I,h⟩
theorem Bf2 (h:PT X c t):PTs X [c] t:=λa s b H Q I q=>wpAny_tests_one (h _ s _ H Q I q)
def tLC (idx:List (Option Nat))(wi:TI)(g:TG)(tc:TT)(te:TE):TE:=λσ H Q=>wi σ H λJ H1 =>
 ∃
  W:Nat->Nat->St->List V->Hp->Prop,(∃m,W 0 m (cst idx σ) [] H1)/\∀i m σ' acc H,W i m σ' acc H ->
  (J.stop i H/\∀p,H p=none->Q (.ref p) (upd H p (.lst acc))) \/
  (J.go i H/\acc.length<sizeLine/\∃N:St->List V->Hp->Prop,(∀σ' acc' H',N σ' acc' H'->∃m',m'<m/\W (i+1) m' σ' acc' H')/\∀x H',J.yld i H x H'->g x σ' H' λσ2 H2=>tc σ2 H2 λb H3 =>
   if b=true then te σ2 H3 λy H4=>N σ2 (acc++[y]) H4 else N σ2 acc H3)
theorem HOk.track (x:HOk P w H h) (hn:H a=none) (f:z9 P w (upd H a o) h a o):HOk P w (upd H a o) h:=λb u e=>by
 by_cases hb:b=a
 ·subst hb;rw[Ax]at e;simp_all
 ·rw[Ag hb]at e
  exact(x b u e).stay (λc v _ q=>q) λc q=>by rw[Ag (Bd q hn)];grind λc d q=>by rw[Ag (Bd q hn)];grind λc g d q=>by rw[Ag (Bd q hn)];grind
theorem Ih {env:Env}:∀{names:List (Str×NameKind)}{x:Str},names.lookup x=some .free ->
 (names.map λ(n,k)=>if (k==NameKind.free&&env.scope.kind==.function&&env.kindOf n==some .cell) then (n,NameKind.cell) else (n,k)).lookup x=some .free \/
 (names.map λ(n,k)=>if (k==NameKind.free&&env.scope.kind==.function&&env.kindOf n==some .cell) then (n,NameKind.cell) else (n,k)).lookup x=some .cell
 | [],_,h=>by simp at h
 | (n,k)::r,x,h=>by
  have ih:=@Ih env r x;simp only[List.map_cons]
  cases hx:x==n with
  | true =>
   simp only[List.lookup_cons,hx]at h
   cases h
   split
   ·right;simp[List.lookup_cons,hx]
   ·left;simp[List.lookup_cons,hx]
  | false =>
   simp only[List.lookup_cons,hx]at h
   split
   ·simp only[List.lookup_cons,hx];exact ih h
   ·simp only[List.lookup_cons,hx];exact ih h
theorem K3 {env:Env}:∀{names:List (Str×NameKind)}{x:Str}{k:NameKind},
 (names.map λ(n,k)=>if (k==NameKind.free&&env.scope.kind==.function&&env.kindOf n==some .cell) then (n,NameKind.cell) else (n,k)).lookup x=some k ->
 names.lookup x=some k\/(k=.cell/\names.lookup x=some .free)
 | [],_,_,h=>by simp at h
 | (n,k')::r,x,k,h=>by
  have ih:=@K3 env r x k;simp only[List.map_cons]at h
  cases hx:x==n with
  | true =>
   by_cases hc:(k'==NameKind.free&&env.scope.kind==.function&&env.kindOf n==some .cell)=true
   ·rw[if_pos hc]at h
    simp only[List.lookup_cons,hx]at h
    cases h
    right
    refine⟨rfl,?_⟩
    simp only[List.lookup_cons,hx]
    have:k'=.free:=by
     simp only[Bool.and_eq_true]at hc;exact eq_of_beq hc.1.1
    rw[this]
   ·rw[if_neg hc]at h
    simp only[List.lookup_cons,hx]at h ⊢;exact .inl h
  | false =>
   simp only[List.lookup_cons,hx]
   refine ih ?_
   by_cases hc:(k'==NameKind.free&&env.scope.kind==.function&&env.kindOf n==some .cell)=true
   ·rw[if_pos hc]at h;simpa only[List.lookup_cons,hx] using h
   ·rw[if_neg hc]at h;simpa only[List.lookup_cons,hx] using h
theorem lookup_mem {α:Type}:∀{l:List (Str×α)}{x:Str}{k:α},l.lookup x=some k->(x,k)∈l
 | [],_,_,h=>by simp at h
 | (n,k')::r,x,k,h=>by
  rw[List.lookup_cons]at h
  split at h
  ·rename_i e
   have:x=n:=by simpa using e
   subst this
   cases h
   simp
  ·exact List.mem_cons_of_mem _ (lookup_mem h)
theorem mem_lookup {α:Type}:∀{l:List (Str×α)}{x:Str}{k:α},(l.map (·.1)).Nodup->(x,k)∈l->l.lookup x=some k
 | [],_,_,_,h=>by simp at h
 | (n,k')::r,x,k,hn,h=>by
  have hn:(n::r.map (·.1)).Nodup:=hn
  obtain⟨h1,h2⟩:=List.nodup_cons.mp hn
  rcases List.mem_cons.mp h with h | hr
  ·cases h;simp
  ·rw[List.lookup_cons]
   split
   ·rename_i e
    have:x=n:=by simpa using e
    subst this
    exact absurd (show x∈r.map (·.1) from List.mem_map.mpr ⟨(x,k),hr,rfl⟩) h1
   ·exact mem_lookup h2 hr
section
variable {X:Cx}{N':List Str}{idx:List (Option Nat)}{scope:Scope}
theorem Bf7 {pins:List (Addr×Obj)}{σ:St}{H:Hp}{s:Shared}{fp:List Addr}{cl:List (Str×Addr)}{C:Addr}(L:Gh X N' idx scope)(I:Inv X pins σ H s)(hf:∀b∈fp,Lr X pins H b)(hfs:∀b∈fp,b<s.heap.objs.size)
 (hC:s.heap.objs.size<=C) (c1:∀x c,cl.lookup x=some c->(X.env.cells.lookup x=some c/\(x,NameKind.free)∈scope.names)\/(s.heap.objs.size<=c/\(x,NameKind.cell)∈scope.names)) (c2:∀x,((x,NameKind.free)∈scope.names\/(x,NameKind.cell)∈scope.names)->∃c,cl.lookup x=some c) (c3:∀x y c,cl.lookup x=some c->cl.lookup y=some c->x=y) :
 (Bu X N' scope cl C s H fp).Ok where
 mod:=I.ok.mod
 kind:=L.kind
 glob:=I.ok.glob
 blt:=I.ok.blt
 above:=hC
 inj:=c3
 has:=λx h=>by
  refine c2 x ?_
  have h':(relabel scope X.env).names.lookup x=some .cell\/(relabel scope X.env).names.lookup x=some .free:=h
  rcases h' with h | h
  ·rcases K3 h with z | ⟨_,z⟩
   ·exact .inr (lookup_mem z)
   ·exact .inl (lookup_mem z)
  ·rcases K3 h with z | ⟨z,_⟩
   ·exact .inl (lookup_mem z)
   ·cases z
 cab:=λx c hx hc=>by
  have hx':scope.names.lookup x=some .local\/scope.names.lookup x=some .cell:=of_decide_eq_true hx
  rcases c1 x c hc with ⟨_,z⟩ | ⟨z,_⟩
  ·have z:=mem_lookup L.nod z
   rw[z]at hx'
   rcases hx' with hx' | hx' <;> cases hx'
  ·exact z
 hd:=I.ok.hd
 frames:=I.ok.frames
 stk:=.inl rfl
 exf
  := λb hb=>⟨Nat.ne_of_lt (Nat.lt_of_lt_of_le (hfs b hb) hC),λx c e=>by
  rcases c1 x c e with ⟨z,_⟩ | ⟨z,_⟩
  ·exact(hf b hb).2.2.2.2.1 x c z
  ·exact Nat.ne_of_gt (Nat.lt_of_lt_of_le (hfs b hb) z)⟩
 bs:=I.bs
 bsz:=Nat.le_trans I.ok.bsz I.sz
 noex:=λb o e hb=>by
  rcases (hf b hb).2.2.2.1 with z | z
  ·exact I.ok.noex b o e z
  ·exact absurd (Nat.lt_of_lt_of_le (Heap.lt_size e) (Nat.le_trans I.ok.bsz z)) (Nat.lt_irrefl _)
 exfs:=λb hb z=>by
  rcases List.mem_cons.mp (I.stkSub b z) with q | q
  ·exact(hf b hb).2.1 q
  ·exact(hf b hb).2.2.1 q
 funs:=I.stack
 frf:=I.stkFree
 tab:=λp hp=>I.base.tbls p.1 p.2 (I.ok.tab p hp)
theorem Ac9 {pins:List (Addr×Obj)}{σ:St}{H:Hp}{s s':Shared}{fp:List Addr}{cl:List (Str×Addr)}{C:Addr}{m:Str->Option Value}(L:Gh X N' idx scope)(I:Inv X pins σ H s)(hf:∀b∈fp,Lr X pins H b)(hfs:∀b∈fp,b<s.heap.objs.size)
 (hC:s.heap.objs.size<=C) (c1:∀x c,cl.lookup x=some c->(X.env.cells.lookup x=some c/\(x,NameKind.free)∈scope.names)\/(s.heap.objs.size<=c/\(x,NameKind.cell)∈scope.names)) (c2:∀x,((x,NameKind.free)∈scope.names\/(x,NameKind.cell)∈scope.names)->∃c,cl.lookup x=some c) (c3:∀x y c,cl.lookup x=some c->cl.lookup y=some c->x=y) (c4:∀x c,cl.lookup x=some c->(x,NameKind.cell)∈scope.names->s'.heap.IsCell c none)
 (ho:s'.os=s.os) (hg:s'.gens=s.gens) (k:∀b o,s.heap.get? b=some o->s'.heap.get? b=some o) (hn:s'.heap.Ns C m):Inv (Bu X N' scope cl C s H fp) [] (cst idx σ) H s' where
 ok:=Bf7 L I hf hfs hC c1 c2 c3
 os:=ho
 bare:=by rw[hg];exact I.bare
 base:=Un.kept k
 loc:=by
  refine⟨m,hn,λj x v e1 e2 e3=>?_⟩
  obtain⟨m0,hn0,hl⟩:=I.loc
  have e2':(idx.map λo=>o.bind λi=>(σ[i]?).join)[j]?=some (some v):=e2
  rw[List.getElem?_map]at e2'
  cases ei:idx[j]? with
  | none=>rw[ei]at e2';cases e2'
  | some o =>
   rw[ei]at e2';simp only[Option.map_some,Option.some.injEq]at e2'
   cases o with
   | none=>cases e2'
   | some i =>
    have e2'':(σ[i]?).join=some v:=e2';obtain⟨hNi,hfr⟩:=L.at' j i x e1 ei
    have hσ:σ[i]?=some (some v):=by
     cases q:σ[i]? with
     | none=>rw[q]at e2'';cases e2''
     | some z=>rw[q]at e2'';rw[show z=some v from e2'']
    have hk:=L.free _ (lookup_mem hfr) rfl
    have hvis:Vis X.env.scope x:=by
     rcases hk with z | z
     ·exact .inr (.inl z)
     ·exact .inr (.inr z)
    obtain⟨u,r,lk⟩:=hl i x v hNi hσ hvis
    refine⟨u,r,.inr ?_⟩
    rcases lk with ⟨z,_⟩ | ⟨_,c,hc,hcl⟩
    ·exfalso
     have z':X.env.kindOf x=some .local:=z
     rcases hk with q | q
     ·rw[show X.env.kindOf x=_ from q]at z';cases z'
     ·rw[show X.env.kindOf x=_ from q]at z';cases z'
    ·obtain⟨c',hc'⟩:=c2 x (.inl (lookup_mem hfr))
     have:c'=c:=by
      rcases c1 x c' hc' with ⟨q,_⟩ | ⟨_,q⟩
      ·rw[hc]at q;exact(Option.some.inj q).symm
      ·rw[mem_lookup L.nod q]at hfr;cases hfr
     subst this
     refine⟨?_,c',hc',let ⟨o,e,d⟩:=hcl; ⟨o,k _ o e,d⟩⟩
     rcases Ih (env:=X.env) hfr with q | q
     ·exact .inr q
     ·exact .inl q
 cell:=λx c e=>by
  rcases c1 x c e with ⟨q,_⟩ | ⟨_,q⟩
  ·obtain⟨v,z⟩:=I.cell x c q
   exact⟨v,let ⟨o,e,d⟩:=z; ⟨o,k _ o e,d⟩⟩
  ·exact⟨none,c4 x c e q⟩
 free:=I.hok.fresh hC
 freeC:=λx c e=>by
  rcases c1 x c e with ⟨q,_⟩ | ⟨q,_⟩
  ·exact I.freeC x c q
  ·exact I.hok.fresh q
 pin:=λp hp=>by simp at hp
 hok:=I.hok.kept k
 len:=by
  show (idx.map _).length=N'.length
  rw[List.length_map];exact L.len
end
section
variable {X:Cx}{N':List Str}{idx:List (Option Nat)}{scope:Scope}{elt tg iter:Expr}{ifs:List Expr}{pos:Pos}{wi:TI}{g:TG}{tc:TT}{te:TE}
theorem Lf:∀(names:List (Str×NameKind)) (h:Heap) (acc:List (Str×Addr)),(∀x y c,acc.lookup x=some c->acc.lookup y=some c->x=y)->(∀x c,acc.lookup x=some c->c<h.objs.size) ->
 (∀x c,(cellsFrom h.objs.size names acc).lookup x=some c->acc.lookup x=some c\/(h.objs.size<=c/\(x,NameKind.cell)∈names/\(pushCells h names).IsCell c none)) /\
 (∀x,((∃c,acc.lookup x=some c)\/(x,NameKind.cell)∈names)->∃c,(cellsFrom h.objs.size names acc).lookup x=some c) /\
 (∀x y c,(cellsFrom h.objs.size names acc).lookup x=some c->(cellsFrom h.objs.size names acc).lookup y=some c->x=y)
 | [],h,acc,hi,hl=>by
  refine⟨λx c e=>.inl e,λx z=>?_,hi⟩
  rcases z with z | z
  ·exact z
  ·exact nomatch z
 | (n,k)::r,h,acc,hi,hl=>by
  unfold cellsFrom pushCells
  by_cases hk:(k==NameKind.cell)=true
  ·rw[if_pos hk,if_pos hk]
   have hk':k=.cell:=eq_of_beq hk;subst hk';have sz:(h.push { cls:=.type "cell",data:=.cell none }).objs.size=h.objs.size+1:=Heap.size_push ..
   have ih:=Lf r (h.push { cls:=.type "cell",data:=.cell none }) ((n,h.objs.size)::acc) (λx y c e1 e2=>?_) (λx c e=>?_)
   ·rw[sz]at ih
    obtain⟨i1,i2,i3⟩:=ih
    refine⟨λx c e=>?_,λx z=>?_,i3⟩
    ·rcases i1 x c e with q | ⟨q1,q2,q3⟩
     ·rw[List.lookup_cons]at q
      split at q
      ·rename_i hb
       cases q
       have:x=n:=eq_of_beq hb;subst this;exact .inr ⟨Nat.le_refl _,List.mem_cons_self,_,pushCells_keeps _ _ _ _ (Heap.get?_push_size _ rfl),rfl⟩
      ·exact .inl q
     ·exact .inr ⟨Nat.le_of_succ_le q1,List.mem_cons_of_mem _ q2,q3⟩
    ·refine i2 x ?_
     by_cases hx:x=n
     ·subst hx;exact .inl ⟨h.objs.size,by simp⟩
     ·rcases z with ⟨c,z⟩ | z
      ·exact .inl ⟨c,by rw[List.lookup_cons,beq_false_of_ne hx];exact z⟩
      ·rcases List.mem_cons.mp z with z | z
       ·cases z;exact absurd rfl hx
       ·exact .inr z
   ·rw[List.lookup_cons]at e1 e2
    split at e1
    ·rename_i hb1
     cases e1
     split at e2
     ·rename_i hb2
      exact(eq_of_beq hb1).trans (eq_of_beq hb2).symm
     ·exact absurd (hl _ _ e2) (Nat.lt_irrefl _)
    ·split at e2
     ·cases e2
      exact absurd (hl _ _ e1) (Nat.lt_irrefl _)
     ·exact hi x y c e1 e2
   ·rw[sz]
    rw[List.lookup_cons]at e
    split at e
    ·cases e;exact Nat.lt_succ_self _
    ·exact Nat.lt_succ_of_lt (hl x c e)
  ·rw[if_neg hk,if_neg hk]
   have ih:=Lf r h acc hi hl;obtain⟨i1,i2,i3⟩:=ih
   refine⟨λx c e=>?_,λx z=>i2 x ?_,i3⟩
   ·rcases i1 x c e with q | ⟨q1,q2,q3⟩
    ·exact .inl q
    ·exact .inr ⟨q1,List.mem_cons_of_mem _ q2,q3⟩
   ·rcases z with z | z
    ·exact .inl z
    ·rcases List.mem_cons.mp z with z | z
     ·cases z;exact absurd rfl hk
     ·exact .inr z
theorem Aw8
 (h:Q (newEnv scope s.heap.objs.size a (cellsFrom (s.heap.objs.size+1) scope.names d) qual none .none (some b) builtinsNs) { s with heap:=pushCells (s.heap.push { cls:=.type "dict",data:=.dict #[] }) scope.names }) :
 wpAny M A (newFunctionEnv scope a d [] qual none .none (some b)) Q E s:=by
 refine wpAny_bind (wpAny_alloc ?_)
 refine wpAny_bind (wpAny_layCells _ λe f c=>by trivial _ _ _ _ ?_)
 rw[show ({ s with heap:=s.heap.push _ }:Shared).heap.objs.size=s.heap.objs.size+1 from Heap.size_push ..]
 exact wpAny_bind (wpAny_pure (wpAny_pure h))
theorem Af4 {K:List (Str×Addr)} {RR:Value->Addr->Result->Shared->Prop}{F:List V->Hp->Prop}
 (L:Gh X N' idx scope) (hc:X.calm=true)
 (hg:∀K C s₀ H₀ ex,PG (Bu X N' scope K C s₀ H₀ ex) tg g) (ht:∀K C s₀ H₀ ex,PTs (Bu X N' scope K C s₀ H₀ ex) ifs tc) (he:∀K C s₀ H₀ ex,PE (Bu X N' scope K C s₀ H₀ ex) elt te)
 (c1:∀x c,K.lookup x=some c->X.env.cells.lookup x=some c/\(x,NameKind.free)∈scope.names) (c2:∀x,(x,NameKind.free)∈scope.names->∃c,K.lookup x=some c)
 (I2:Inv X pins σ R s2) (T:Turn X.prog X.w X.K tg J fp it tn) (st2:tn 0 s2.heap) (f2:∀b∈fp,Lr X pins R b) (W:Nat->Nat->St->List V->Hp->Prop) (w0:∃m,W 0 m (cst idx σ) [] R)
 (turn:∀i m t acc H,W i m t acc H->(J.stop i H/\F acc H) \/
  (J.go i H/\acc.length<sizeLine/\∃N:St->List V->Hp->Prop,(∀t acc' H',N t acc' H'->∃m',m'<m/\W (i+1) m' t acc' H')/\∀x H',J.yld i H x H'->g x t H' λZ R=>tc Z R λb H3 =>
   if b=true then te Z H3 λy H4=>N Z (acc++[y]) H4 else N Z acc H3))
 (hR:∀(D C:Addr) (s':Shared) (acc:List V) (a:List Value) (n:Nat) (H':Hp) (m:Str->Option Value),s2.heap.objs.size<=D->s2.heap.objs.size<=C->D≠C->s'.heap.Ns C m->s'.heap.get? D=some { cls:=.type "list",data:=.seq a.toArray n }->Vals acc a->acc.length<=sizeLine ->
  H' D=none->H' C=none->s'.os=s2.os->AllBare s'.gens->Un (frs X.stack) fp R H' s2.heap s'.heap->HOk X.prog X.w H' s'.heap->F acc H'->RR (.ref D) C (.ok .next) s') :
 wpAny (model X.prog X.w) X.A (newList []) (λacc B=>wpAny (model X.prog X.w) X.A (newFunctionEnv scope X.env.globals K [] X.env.qual none .none (some X.env)) (λcenv s₄ =>
  codeAny (model X.prog X.w) X.A (.compStart (.ListComp elt [⟨tg,iter,ifs,0⟩] scope pos) 0 (.ref it) acc { cenv with scope:=relabel scope X.env }) (RR acc cenv.locals) s₄) E B) E s2:=by
 have U:∀b∈fp,b<s2.heap.objs.size:=λb w=>let ⟨o,e,_⟩:=T.obj _ _ st2 b w; Heap.lt_size e
 refine wpAny_newObj_type (Aw8 ?_)
 dsimp only
 generalize hH2:s2.heap.push { cls:=.type "list",dict:=none,data:=.seq ([]:List Value).toArray }=G
 have hC:G.objs.size=s2.heap.objs.size+1:=by rw[<- hH2,Heap.size_push]
 have hDC:s2.heap.objs.size≠G.objs.size:=by rw[hC];exact Nat.ne_of_lt (Nat.lt_succ_self _)
 have A:s2.heap.objs.size<=G.objs.size:=by rw[hC];exact Nat.le_succ _
 obtain⟨j,l⟩:∃j,j=pushCells (G.push { cls:=.type "dict",data:=.dict #[] }) scope.names:=⟨_,rfl⟩;rw[<- l]
 have S:j.Ns G.objs.size (λ_=>none):=by rw[l];exact(Heap.Ns.new G (.type "dict")).keeps (pushCells_keeps _ _)
 have old:∀b o,s2.heap.get? b=some o->j.get? b=some o:=λb o e=>by rw[l];exact pushCells_keeps _ _ b o (Heap.get?_push_of_some _ (hH2▸Heap.get?_push_of_some _ e))
 have hacc:j.get? s2.heap.objs.size=some { cls:=.type "list",dict:=none,data:=.seq ([]:List Value).toArray }:=by rw[l];exact pushCells_keeps _ _ _ _ (Heap.get?_push_of_some _ (hH2▸Heap.get?_push_size _ rfl))
 have szD:(G.push { cls:=.type "dict",data:=.dict #[] }).objs.size=G.objs.size+1:=Heap.size_push ..
 obtain⟨k1,k2,k3⟩:=Lf scope.names (G.push { cls:=.type "dict",data:=.dict #[] }) K (λx y c e1 e2=>I2.ok.inj x y c (c1 x c e1).1 (c1 y c e2).1) (λx c e=>by
  obtain⟨v,o,ho,_⟩:=I2.cell x c (c1 x c e).1
  rw[szD];exact Nat.lt_succ_of_lt (Nat.lt_of_lt_of_le (Heap.lt_size ho) A))
 rw[szD,<- l]at k1;rw[szD]at k2 k3;obtain⟨cl0,hcl0⟩:∃cl0,cl0=K:=⟨_,rfl⟩;have c1o:=c1;have c2o:=c2;rw[<- hcl0]at k1 k2 k3 c1o c2o;rw[<- hcl0]
 clear c1 c2
 generalize cellsFrom (G.objs.size+1) scope.names cl0=K at k1 k2 k3 ⊢
 have c1:∀x c,K.lookup x=some c->(X.env.cells.lookup x=some c/\(x,NameKind.free)∈scope.names)\/(s2.heap.objs.size<=c/\(x,NameKind.cell)∈scope.names):=λx c e=>by
  rcases k1 x c e with q | ⟨q1,q2,_⟩
  ·exact .inl (c1o x c q)
  ·exact .inr ⟨Nat.le_trans A (Nat.le_of_succ_le q1),q2⟩
 have c2:∀x,((x,NameKind.free)∈scope.names\/(x,NameKind.cell)∈scope.names)->∃c,K.lookup x=some c:=λx z=>k2 x (z.imp (λz=>c2o x z) id)
 have c4:∀x c,K.lookup x=some c->(x,NameKind.cell)∈scope.names->j.IsCell c none:=λx c e z=>by
  rcases k1 x c e with q | ⟨_,_,q⟩
  ·have:=mem_lookup L.nod (c1o x c q).2
   rw[mem_lookup L.nod z]at this;cases this
  ·exact q
 let X':Cx:=Bu X N' scope K G.objs.size s2 R fp
 have I1:Inv X' [] (cst idx σ) R { s2 with heap:=j }:=Ac9 L I2 f2 U A c1 c2 k3 c4 rfl rfl old S
 have hD2:R s2.heap.objs.size=none:=I2.hok.fresh (Nat.le_refl _)
 have hDfs:s2.heap.objs.size∉X'.fs:=λz=>by
  obtain⟨_,o,ho,_⟩:=I2.stack.mem z;exact absurd (Heap.lt_size ho) (Nat.lt_irrefl _)
 have hDfp:s2.heap.objs.size∉fp:=λz=>absurd (U _ z) (Nat.lt_irrefl _)
 have P:∀{H':Hp} {pl:List (Addr×Obj)},(∀b∈fp,H' b=none)->(∀p∈pl,p.1∉fp)->∀b∈fp,Lr X' pl H' b:=λ{H' pl} hn M b w =>
  ⟨hn b w,Nat.ne_of_lt (Nat.lt_of_lt_of_le (U b w) A),λz=>by
   rcases List.mem_cons.mp (I2.stkSub b z) with q | q
   ·exact(f2 b w).2.1 q
   ·exact(f2 b w).2.2.1 q,.inl w,λx c e=>by
    rcases c1 x c e with ⟨z,_⟩ | ⟨z,_⟩
    ·exact(f2 b w).2.2.2.2.1 x c z
    ·exact Nat.ne_of_gt (Nat.lt_of_lt_of_le (U b w) z),λp Q z=>M p (by have hp':p∈[]++pl:=Q;simpa using hp') (z▸w)⟩
 have loop:∀B:Shared,B={ s2 with heap:=j } ->
  codeAny (model X.prog X.w) X.A (.compLoop (.ListComp elt [⟨tg,iter,ifs,0⟩] scope pos) 0 (.ref it) (.ref s2.heap.objs.size) (compEnvC scope K G.objs.size X.env)) (RR (.ref s2.heap.objs.size) G.objs.size) B:=by
  rintro B rfl
  obtain⟨m0,w0⟩:=w0
  refine At4 rfl (Wd:=λn s'=>∃i t acc a k H',Inv X' [(s2.heap.objs.size,{ cls:=.type "list",data:=.seq a.toArray k })] t H' s'/\Vals acc a/\acc.length<=sizeLine/\tn i s'.heap/\(∀b∈fp,H' b=none)/\W i n t acc H') (step:=?_) m0
   ⟨0,cst idx σ,[],[],0,R,I1.pins_of (λp Q=>?_),.nil,Nat.zero_le _,T.keep _ _ _ st2 λb _ o e=>old b o e,λb w=>(f2 b w).1,w0⟩
  ·rintro n s3 ⟨i,Y,acc,a,k,H3,I3,rv,hz,st3,fr3,w3⟩
   have M:∀p∈[((s2.heap.objs.size,{ cls:=.type "list",data:=.seq a.toArray k }):Addr×Obj)],p.1∉fp:=λp Q=>by
    rcases List.mem_singleton.mp Q with rfl;exact hDfp
   rcases turn i n Y acc H3 w3 with ⟨stop,q⟩ | ⟨go,hlt,N,hN,step⟩
   ·refine wpAny_mono (T.done X' rfl rfl rfl hc i _ s3 Y H3 (λ_ _=>False) I3 (P fr3 M) st3 stop) (λr s4 ⟨hr,I4⟩=>?_) λ_ _ f=>f.elim
    subst hr;obtain⟨p1,p2,p3,p4,p5⟩:=I4.pin (s2.heap.objs.size,{ cls:=.type "list",data:=.seq a.toArray k }) (List.mem_append_right _ List.mem_cons_self);obtain⟨m4,hn4,_⟩:=I4.loc;exact hR _ _ s4 acc a k H3 m4 (Nat.le_refl _) A hDC hn4 p1 rv hz p2 I4.free I4.os I4.bare I4.base I4.hok q
   ·refine wpAny_mono (T.item X' rfl rfl rfl hc i _ s3 Y H3 (λ_ _=>False) I3 (P fr3 M) st3 go) (λr s4 ⟨u,hr,h4⟩=>?_) λ_ _ f=>f.elim
    subst hr
    refine wpAny_mono h4 (λ_ s5 ⟨x,H5,I5,r5,y5,st5,fr5⟩=>?_) λ_ _ f=>f.elim
    refine wpAny_mono (hg _ _ _ _ _ _ s5 Y H5 x u _ (I5.pinned (P fr5 M) (T.obj _ _ st5)) r5 (step x H5 y5)) (λ_ s6 ⟨O,H6,I6,q6⟩=>?_) λ_ _ f=>f.elim
    refine wpAny_mono (ht _ _ _ _ _ _ s6 O H6 _ I6 q6) (λok s7 ⟨H7,I7,q7⟩=>?_) λ_ _ f=>f.elim
    have tnk:∀{t:St} {H':Hp} {s':Shared},Inv X' ([(s2.heap.objs.size,{ cls:=.type "list",data:=.seq a.toArray k })]++Ry fp s5.heap) t H' s'->tn (i+1) s'.heap/\∀b∈fp,H' b=none:=λ{t H' s'} I=>by
     refine⟨T.keep _ _ _ st5 λb w o e=>(I.pin (b,o) (List.mem_append_right _ (List.mem_append_right _ (Hj w e)))).1,λb w=>?_⟩
     obtain⟨o,e,d⟩:=T.obj _ _ st5 b w;exact(I.pin (b,o) (List.mem_append_right _ (List.mem_append_right _ (Hj w e)))).2.1
    cases ok with
    | false =>
     rw[if_neg (by decide)]at q7
     obtain⟨m',hm,w7⟩:=hN _ _ _ q7;exact⟨m',hm,i+1,O,acc,a,k,H7,I7.unpinned,rv,hz,(tnk I7).1,(tnk I7).2,w7⟩
    | true =>
     rw[if_pos rfl]at q7
     refine wpAny_mono (he _ _ _ _ _ _ s7 O H7 _ I7 q7) (λy s8 ⟨yv,H8,I8,r8,q8⟩=>?_) λ_ _ f=>f.elim
     obtain⟨m',hm,w8⟩:=hN _ _ _ q8;obtain⟨p1,p2,p3,p4,p5⟩:=I8.pin (s2.heap.objs.size,{ cls:=.type "list",data:=.seq a.toArray k }) (List.mem_append_right _ List.mem_cons_self)
     refine call_meets PySem.F.slot_list_append ⟨_,p1,rfl⟩ PySem.F.entry_list_append (PySem.F.args_list_append_2 _ _) (PySem.list_append s2.heap.objs.size a.toArray k y (by have:=rv.length;rw[List.size_toArray];omega)) ⟨p1,?_⟩
     have hz':=rv.length;obtain⟨t8,f8⟩:=tnk I8
     have I8':Inv X' [] O H8 s8:=I8.pins_of λp Q=>nomatch Q
     have q:=PySem.IsL.update p1 (·.push y)
     have e':(a.toArray.push y)=(a++[y]).toArray:=by simp
     rw[e']at q
     obtain⟨k9,q⟩:∃k9,(s8.heap.update s2.heap.objs.size (Obj.mapSeq (·.push y))).get? _=some { cls:=.type _,data:=.seq _ k9 }:=⟨_,q⟩
     have I9:Inv _ _ _ _ { s8 with heap:=s8.heap.update _ (Obj.mapSeq (·.push y)) } :=
      I8'.turned (λb o w e=>(Heap.get?_update_other _ _ (Ne.symm w)).trans e) p2 p3 (.inr (Nat.le_refl _)) (λx c e z=>by
       obtain⟨v,o,ho,hd⟩:=I8'.cell x c e
       rw[z,p1]at ho;cases ho;cases hd) (λp Q=>by have hp':p∈([]:List _)++[]:=Q;simp at hp')
     refine⟨m',hm,i+1,O,acc++[yv],a++[y],k9,H8,I9.pins_of λp Q=>?_,rv.append (.cons r8 .nil),by rw[List.length_append,List.length_singleton];omega,T.keep _ _ _ t8 λb w o e=>(Heap.get?_update_other _ _ (λz=>hDfp (by rw[z];exact w))).trans e,f8,w8⟩
     rcases List.mem_singleton.mp Q with rfl
     exact⟨q,p2,p3,p4,λv z=>by cases z⟩
  ·rcases List.mem_singleton.mp Q with rfl
   exact⟨hacc,hD2,hDC,hDfs,λv z=>by cases z⟩
 exact codeAny_compStart_list (loop _ rfl) (T.self _ 0 _ _ _ (T.keep _ _ _ st2 λb _ o e=>old b o e) (loop _ rfl))
theorem B0s (L:Gh X N' idx scope)(hc:X.calm=true)(hi:PI X tg iter wi)
 (hg:∀t C s₀ H₀ ex,PG (Bu X N' scope t C s₀ H₀ ex) tg g) (ht:∀t C s₀ H₀ ex,PTs (Bu X N' scope t C s₀ H₀ ex) ifs tc) (he:∀t C s₀ H₀ ex,PE (Bu X N' scope t C s₀ H₀ ex) elt te)
 (hs:∀x,foldedSetIterable iter X.env x=pure x:=by intro _;rfl) :
 PE X (.ListComp elt [⟨tg,iter,ifs,0⟩] scope pos) (tLC idx wi g tc te):=by
 intro j s Z H Q I h
 obtain⟨t,l,c1,c2⟩:=Ks (env:=X.env) (scope:=scope) λy hy hf=>I.ok.has y.1 (L.free y hy hf)
 rw[eval_ListComp]
 refine wpAny_comprehension_free (use:=none) rfl hs l L.kind (λy hy hl=>mem_lookup L.nod (by grind)) (wpAny_mono (hi j s Z H _ I h) (λv s1 h1=>wpAny_mono h1 (λitv V h2=>?_) λ_ _ e=>e) λ_ _ e=>e)
 obtain⟨it,fp,tn,J,H2,rfl,I2,T,M,z,W,w0,A⟩:=h2
 refine Af4 (F:=λa H=>∀p,H p=none->Q (.ref p) (upd H p (.lst a))) (RR:=λa C=>compPost (model X.prog X.w) X.A X.xe none (EP X j Z Q) a C) L hc hg ht he c1 c2 I2 T M z W w0 A ?_
 intro D C s' a w n N m hD hC O hn P rv hz d hC' ho K i hk q
 refine⟨m,hn,λG f=>?_⟩
 have eD:G.get? D=some { cls:=.type "list",data:=.seq w.toArray n }:=f.extBut _ _ O P
 have S:HOk X.prog X.w N G:=λb u e=>by
  refine (hk b u e).stay (λc v hc q=>f.extBut c v ?_ q) (λ_ q=>q) λ_ _ q=>q
  grind
 have U:HOk X.prog X.w (upd N D (.lst a)) G:=S.track d ⟨hz,w,n,rv,eD⟩
 have k:∀b o,V.heap.get? b=some o->b≠C:=λb o e=>Nat.ne_of_lt (Nat.lt_of_lt_of_le (Heap.lt_size e) hC)
 have R:∀b o,V.heap.get? b=some o->b≠D:=λb o e=>Nat.ne_of_lt (Nat.lt_of_lt_of_le (Heap.lt_size e) hD)
 have u2:Un (frs X.stack) fp H2 (upd N D (.lst a)) V.heap G :=
  ⟨
   λb o e r B Y=>f.extBut b o (k b o e) (i.keep b o e r B Y),λb o e r B Y=>let ⟨sl,q⟩:=i.slot b o e r B Y; ⟨sl,f.extBut b _ (k b o e) q⟩,
   λb o e r B=>by rw[Ag (R b o e)];exact i.free b o e r B,λb o e r=>let ⟨o',q⟩:=i.there b o e r; ⟨o',f.extBut b _ (k b o e) q⟩,
   λb xs e=>by rw[Ag (Bd (i.tups b _ e) d)];exact i.tups b _ e,λb o u e=>by rw[Ag (Bd (i.frzs b o u e) d)];exact i.frzs b o u e,
   λb ps e=>by rw[Ag (Bd (i.tbls b _ e) d)];exact i.tbls b _ e⟩
 refine⟨.ref D,upd _ D _,I2.call' ho u2 U K λb E=>⟨(z b E).2.2.2.1,(z b E).2.1,(z b E).2.2.2.2.1,(z b E).2.2.2.2.2⟩,rfl,q D d⟩
end
section
variable {X:Cx}{N':List Str}{idx:List (Option Nat)}{scope:Scope}{elt tg iter:Expr}{ifs:List Expr}{pos:Pos}{wi:TI}{g:TG}{tc:TT}{te:TE}
theorem A4d {K t:Pos}(hN:X.N.Nodup) (hi':X.N[i]?=some y) (hy:Loc X.env.scope y) (L:Gh X N' idx scope) (hc:X.calm=true) (hi:PI X tg iter wi)
 (hg:∀B C s₀ H₀ ex,PG (Bu X N' scope B C s₀ H₀ ex) tg g) (ht:∀B C s₀ H₀ ex,PTs (Bu X N' scope B C s₀ H₀ ex) ifs tc) (he:∀B C s₀ H₀ ex,PE (Bu X N' scope B C s₀ H₀ ex) elt te)
 (hsw:swapsWith (.ListComp elt [⟨tg,iter,ifs,0⟩] scope pos) (some (.Name y K)) t.line X.env=pure true:=by rfl)
 (hf:X.fn y=true\/X.env.scope.names.lookup y=some .local:=by first | exact .inl rfl | exact .inr rfl | assumption)
 (hs:∀x,foldedSetIterable iter X.env x=pure x:=by intro _;rfl) :
 PS X (.Assign [.Name y K] (.ListComp elt [⟨tg,iter,ifs,0⟩] scope pos) t) (An8 (tLC idx wi g tc te) (M4 i)):=by
 intro d s M H j I h
 have h:tLC idx wi g tc te M H λx H1=>j.nx (M.set i (some x)) H1:=h
 obtain⟨B,A,c1,c2⟩:=Ks (env:=X.env) (scope:=scope) λy hy hf=>I.ok.has y.1 (L.free y hy hf)
 rw[exec_Assign_Name_used _ _ _ _ hsw]
 refine wpAny_bind (wpAny_standAt (wpAny_bind ?_))
 show wpAny _ X.A (do let _ <- comprehension (.ListComp elt [⟨tg,iter,ifs,0⟩] scope pos) scope X.env _ (newList []) false (eval iter X.env) (some (assign (.Name y K) X.env))) _ _ s
 refine wpAny_bind (wpAny_mono (wpAny_comprehension_free (use:=some (assign (.Name y K) X.env)) (Q:=λ_ r=>SP X d j .next r) rfl hs A L.kind (λy hy hl=>mem_lookup L.nod (by rw[<- hl];exact hy))
  (wpAny_mono (hi d s M H _ I h) (λv s1 h1=>wpAny_mono h1 (λitv s2 h2=>?_) λ_ _ e=>e) λ_ _ e=>e)) (λ_ r hq=>wpAny_pure (wpAny_pure hq)) λ_ _ e=>e)
 obtain⟨it,fp,tn,J,H2,rfl,G,T,U,N,W,w0,O⟩:=h2
 refine Af4 (F:=λf H=>∀p,H p=none->j.nx (M.set i (some (.ref p))) (upd H p (.lst f))) (RR:=λf C=>compPost (model X.prog X.w) X.A X.xe (some (assign (.Name y K) X.env)) (λ_ r=>SP X d j .next r) f C) L hc hg ht he c1 c2 G T U N W w0 O ?_
 intro D C r f V n Y m hD P Z hn hDo rv hz k hC' ho hg' l hk q;have S:HOk X.prog X.w (upd Y D (.lst f)) r.heap:=hk.track k ⟨hz,V,n,rv,hDo⟩
 have neD:∀b o,s2.heap.get? b=some o->b≠D:=λb o e=>Nat.ne_of_lt (Nat.lt_of_lt_of_le (Heap.lt_size e) hD)
 have u2:Un (frs X.stack) fp H2 (upd Y D (.lst f)) s2.heap r.heap :=
  ⟨
   l.keep,l.slot,λb o e n1 n2=>by rw[Ag (neD b o e)];exact l.free b o e n1 n2,l.there,
   λb xs e=>by rw[Ag (Bd (l.tups b xs e) k)];exact l.tups b xs e,λb o u e=>by rw[Ag (Bd (l.frzs b o u e) k)];exact l.frzs b o u e,
   λb ps e=>by rw[Ag (Bd (l.tbls b ps e) k)];exact l.tbls b ps e⟩
 have I3:Inv X d M (upd Y D (.lst f)) r:=G.call' ho u2 S hg' (λb E=>⟨(N b E).2.2.2.1,(N b E).2.1,(N b E).2.2.2.2.1,(N b E).2.2.2.2.2⟩)
 have hCL:C≠X.env.locals:=Nat.ne_of_gt (Nat.lt_of_lt_of_le G.lt P)
 have hCc:∀x c,X.env.cells.lookup x=some c->c≠C:=λx c e z=>by
  obtain⟨v,w⟩:=G.cell x c e
  exact absurd (Nat.lt_of_lt_of_le w.lt (by rw[z];exact P)) (Nat.lt_irrefl _)
 have hCp:∀p∈X.pn++d,p.1≠C:=λp hp z=>absurd (Nat.lt_of_lt_of_le (Heap.lt_size (G.pin p hp).1) (by rw[z];exact P)) (Nat.lt_irrefl _)
 refine wpAny_assign_Name (Xf (v:=.ref D) I3 hN hi' hy rfl (λs4 I4 ⟨a,sb,ha⟩=>?_) hf)
 have hCa:C≠a:=by
  grind
 refine⟨m,hn.sameBut sb hCa,λh' R=>?_⟩
 refine⟨_,_,I4.turned (λb o E e=>R.extBut b o E e) ?_ hCL (.inr (Nat.le_trans G.sz P)) hCc hCp,q D k⟩
 rw[Ag (Ne.symm Z)];exact hC'
end
section
variable {X:Cx}
noncomputable def Ob (H:Hp):V->Option String
 | .non=>some "NoneType" | .bl _=>some "bool" | .int _=>some "int" | .str _=>some "str"
 | .ref a=>match H a with
  | some (.lst _)=>some "list"
  | some (.tup _)=>some "tuple"
  | some (.dK _)=>some "dict"
  | some (.dT _)=>some "dict"
  | _=>none
 | _=>none
section
variable {X:Cx}{pins:List (Addr×Obj)}{σ:St}{H:Hp}{s:Shared}
theorem A6n (I:Inv X pins σ H s) (f:RelV x u) (h:Ob H x=some t):∃hp:Heap->Prop,PySem.W.KitX X.K u (.type t) hp/\hp s.heap/\u≠.builtin "__main__.__loader__#opaque" := by
 cases x with
 | non=>cases h;cases (f);exact⟨_,PySem.W.kitx_none,True.intro,λz=>nomatch z⟩
 | bl b=>cases h;cases (f);exact⟨_,PySem.W.kitx_bool,True.intro,λz=>nomatch z⟩
 | int i=>cases h;obtain⟨t,rfl⟩:=f;exact⟨_,PySem.W.kitx_int,True.intro,λz=>nomatch z⟩
 | str y=>cases h;obtain⟨t,rfl⟩:=f;exact⟨_,PySem.W.kitx_str,True.intro,λz=>nomatch z⟩
 | ref a =>
  cases (f)
  have c:∀T,PySem.W.KitX X.K (.ref a) (.type T) (PySem.W.KitAt a T)->PySem.W.KitAt a T s.heap->some T=some t->∃hp:Heap->Prop,PySem.W.KitX X.K (.ref a) (.type t) hp/\hp s.heap/\Value.ref a≠.builtin "__main__.__loader__#opaque" := λT k p q=>by grind
  have h:(match H a with | some (.lst _)=>some _ | some (.tup _)=>some _ | some (.dK _)=>some _ | some (.dT _)=>some _ | _=>none)=some t:=h
  split at h
  ·rename_i l e
   obtain⟨_,_,n,_,d⟩:=(show z9 _ _ H _ a _ from I.hok a _ e)
   exact c _ PySem.W.kitx_list ⟨_,d,rfl⟩ h
  ·rename_i l e
   obtain⟨_,_,_,o,d,g,_⟩:=(show z9 _ _ H _ a _ from I.hok a _ e)
   exact c _ PySem.W.kitx_tuple ⟨o,d,g⟩ h
  ·rename_i j e
   obtain⟨_,_,vs,_,o,r,m,d,g,_⟩:=(show z9 _ _ H _ a _ from I.hok a _ e)
   exact c _ PySem.W.kitx_dict ⟨o,d,g.1⟩ h
  ·rename_i j e
   obtain⟨_,_,l,_,o,r,m,d,g,_⟩:=(show z9 _ _ H _ a _ from I.hok a _ e)
   exact c _ PySem.W.kitx_dict ⟨o,d,g.1⟩ h
  grind
 | byt b=>cases h
 | flt b=>cases h
 | ty n=>cases h
end
noncomputable def Er (t T:String):Option Bool:=if ["NoneType", "bool", "int", "str", "list", "tuple", "dict"].contains t&&["int", "str", "bool", "list", "tuple"].contains T then some (t==T||(t == "bool" && T == "int")) else none
theorem Ad6 {K:PySem.W.Frag} (h:Er t T=some b):PySem.W.kitOne K (.type t) (.type T)=some b:=by
 unfold Er at h
 split at h
 ·rename_i a
  cases h
  simp only[Bool.and_eq_true,List.contains_iff_mem,List.mem_cons,List.not_mem_nil,or_false]at a;obtain⟨c,d⟩:=a
  rcases c with rfl | rfl | rfl | rfl | rfl | rfl | rfl <;> rcases d with rfl | rfl | rfl | rfl | rfl <;> with_unfolding_all rfl
 ·cases h
theorem A8g:zE X (.builtin "isinstance") (λxs H Q=>∃x T t b,xs=[x,.ty T]/\Ob H x=some t/\Er t T=some b/\Q (.bl b) H):=by
 intro a s σ H xs us Q I r h;obtain⟨x,T,t,b,rfl,f,c,q⟩:=h;obtain⟨u,v,rfl,e,d⟩:=Vals.two r
 cases (d)
 obtain⟨hp,z,p,g⟩:=A6n I e f
 exact PySem.W.kia_one z I.kIn p (Ad6 c) g λtk=>⟨.bl b,H,I.tok _,rfl,q⟩
theorem walk_seq (m:A.handled=none) (I:Inv X pins d H s) (h:SqL X.K H a xs)
 (k:∀(c:List Value) (J:Addr) (s2:Shared),Vals xs c->Walks X.prog X.w A J [J,a] [J] c.length (λi v=>c[i]?=some v) (λi h=>h.IsListIter J a i/\h.IsList a c.toArray)->s2.heap.IsListIter J a 0/\s2.heap.IsList a c.toArray->(∀b∈[J,a],b<s2.heap.objs.size) ->
  Inv X pins d H s2->(∀f l,(∀b o,b∉[J]->s2.heap.get? b=some o->f.get? b=some o)->Inv X pins d H { s2 with heap:=f,toks:=l })->R (.ref J) s2) :
 wpAny (model X.prog X.w) A (pyIter (.ref a)) R E s:=by
 obtain⟨c,n,p,D⟩:=I.list h
 refine wpAny_pyIter_list p.isList ?_
 have u:a<s.heap.objs.size:=let ⟨_,e,_⟩:=p.isList; Heap.lt_size e
 have g:a≠s.heap.objs.size:=Nat.ne_of_lt u;have W:=Walks.list (prog:=X.prog) (w:=X.w) (A:=A) m s.heap.objs.size a g c.toArray;rw[List.size_toArray]at W
 have j:Inv X pins d H { s with heap:=s.heap.push { cls:=.type "list_iterator",data:=.fields #[.ref a,.int 0 0] } }:=I.kept (t':=s.toks) λb o e=>Heap.get?_push_of_some _ e
 refine k c s.heap.objs.size _ n (by simp_all) ⟨⟨_,Heap.get?_push_size _ rfl,rfl,rfl⟩,let ⟨o,e,r⟩:=p.isList; ⟨o,Heap.get?_push_of_some _ e,r⟩⟩ ?_ j λf l x=>?_
 ·intro b z
  have e:=Heap.size_push s.heap { cls:=.type "list_iterator",data:=.fields #[.ref a,.int 0 0] }
  grind
 ·obtain⟨q,B,F,y,C,t⟩:=(I.fpOk (b:=s.heap.objs.size) (Nat.le_refl _) (I.hok.fresh (Nat.le_refl _)))
  exact j.turned (λb o z e=>x b o (by simp_all) e) q B y C t
theorem Ad7 {bs:List Bool}(r:Vals (bs.map V.bl) a):TruthOf X.prog X.w A (λi v=>a[i]?=some v) (λi=>bs.getD i false):=by
 intro i v s Q E c b;have h := (List.getElem?_eq_some_iff.mp c).1
 have g:i<bs.length:=by have:=r.length;simp_all
 obtain⟨u,d,f⟩:=r.get (i:=i) (x:=V.bl bs[i]) (by simp_all)
 rw[c]at d
 cases d
 cases (show v=Value.bool _ from f)
 have e:bs.getD i false=bs[i]:=by simp_all
 have b:Q (bs.getD i _) s:=b;rw[e]at b;exact wpAny_truthy_bool b
theorem range_all (bs:List Bool):(List.range bs.length).all (λi=>bs.getD i false)=bs.all id:=by
 rw[Bool.eq_iff_iff];simp only[List.all_eq_true,List.mem_range]
 constructor
 ·intro h b d
  obtain⟨i,a,c⟩:=List.getElem_of_mem d
  simp_all
 ·intro h i a
  simpa[a] using h _ (List.getElem_mem _)
theorem A0g (hc:X.calm=true):zE X (.builtin "all") (λxs H Q=>∃(a:Addr) (b:List Bool),xs=[.ref a]/\SqL X.K H a (b.map V.bl)/\Q (.bl (b.all id)) H):=by
 intro d s σ H xs us Q I r h;obtain⟨a,b,rfl,i,q⟩:=h;obtain⟨u,rfl,g⟩:=vals1 r
 cases (g)
 refine call_all_walk (walk_seq (I.ok.hd hc) I i λc J s2 f W l hb I2 k=>⟨J,_,_,_,_,_,_,rfl,W,l,Ad7 f,λh' tk j=>?_⟩)
 have e:c.length=b.length:=by rw[<- f.length,List.length_map]
 rw[e,range_all];exact⟨.bl _,H,k _ _ j,rfl,q⟩
end
mutual
def Tr (H:Hp):PyData->V->Prop
 | .none,v=>v=.non
 | .bool b,v=>v=.bl b
 | .int i,v=>v=.int i
 | .str x,v=>v=.str x
 | .list ds,v=>∃a vs,v=.ref a/\H a=some (.lst vs)/\TrL H ds vs
 | .tuple ds,v=>∃a vs,v=.ref a/\H a=some (.tup vs)/\TrL H ds vs
 | .dict _,_=>False
def TrL (H:Hp):List PyData->List V->Prop
 | [],vs=>vs=[]
 | d::ds,vs=>∃v r,vs=v::r/\Tr H d v/\TrL H ds r
end
theorem TrL.length {H:Hp}:∀{ds:List PyData}{vs:List V},TrL H ds vs->ds.length=vs.length
 | [],_,h=>by cases (show _=[] from h);rfl
 | d::ds,_,h=>by
  obtain⟨v,r,rfl,_,t⟩:=h;rw[List.length_cons,List.length_cons,TrL.length t]
mutual
theorem Tr.same {H H':Hp}(S:Same H H'):∀{d:PyData}{v:V},Tr H d v->Tr H' d v
 | .none,_,h=>h
 | .bool _,_,h=>h
 | .int _,_,h=>h
 | .str _,_,h=>h
 | .list ds,_,⟨a,vs,e,ha,t⟩=>⟨a,vs,e,S _ _ ha,TrL.same S t⟩
 | .tuple ds,_,⟨a,vs,e,ha,t⟩=>⟨a,vs,e,S _ _ ha,TrL.same S t⟩
theorem TrL.same {H H':Hp}(S:Same H H'):∀{ds:List PyData}{vs:List V},TrL H ds vs->TrL H' ds vs
 | [],_,h=>h
 | d::ds,_,⟨v,r,e,h,t⟩=>⟨v,r,e,Tr.same S h,TrL.same S t⟩
end
def B3k (H H':Hp):Prop:=∀b xs,H b=some (.tup xs)->H' b=some (.tup xs)
section
variable {X:Cx}{pins:List (Addr×Obj)}{σ:St}{H:Hp}{s:Shared}
mutual
theorem Tr.reads (I:Inv X pins σ H s):∀{d:PyData}{v:V}{u:Value},Tr H d v->RelV v u->∃as,Reads s.heap u d as
 | .none,_,u=>λh r=>by
  cases (show _=V.non from h)
  cases (show u=Value.none from r)
  exact⟨_,.none⟩
 | .bool b,_,u=>λh r=>by
  cases (show _=V.bl b from h)
  cases (show u=Value.bool b from r)
  exact⟨_,.bool b⟩
 | .int i,_,u=>λh r=>by
  cases (show _=V.int i from h)
  obtain⟨t,rfl⟩:=r;exact⟨_,.int i t⟩
 | .str x,_,u=>λh r=>by
  cases (show _=V.str x from h)
  obtain⟨t,rfl⟩:=r;exact⟨_,.str x t⟩
 | .list ds,_,u=>λh r=>by
  obtain⟨a,vs,rfl,ha,t⟩:=h
  cases (show u=Value.ref a from r)
  obtain⟨z,its,n,rv,e⟩:=I.hok a _ ha;obtain⟨as,q⟩:=TrL.reads I t rv
  exact⟨_,.list e rfl rfl (by simpa using q)⟩
 | .tuple ds,_,u=>λh r=>by
  obtain⟨a,vs,rfl,ha,t⟩:=h
  cases (show u=Value.ref a from r)
  obtain⟨z,its,rv,o,e,c,⟨n,dt⟩,_⟩:=I.hok a _ ha;obtain⟨as,q⟩:=TrL.reads I t rv
  exact⟨_,.tuple e c dt (by simpa using q)⟩
 | .dict k,_,u=>λh r=>False.elim h
theorem TrL.reads (I:Inv X pins σ H s):∀{ds:List PyData}{vs:List V}{us:List Value},TrL H ds vs->Vals vs us->∃as,ReadsAll s.heap us ds as
 | [],_,us=>λh r=>by
  cases (show _=[] from h)
  cases r
  exact⟨_,.nil⟩
 | d::ds,_,us=>λh r=>by
  obtain⟨v,vs,rfl,hv,t⟩:=h
  cases r with
  | cons r1 r2 =>
   obtain⟨as,q⟩:=Tr.reads I hv r1;obtain⟨bs,p⟩:=TrL.reads I t r2;exact⟨_,.cons q p⟩
end
end
def Flat (d:PyData):Prop:=d.canLay0=true/\d.depth<=40
section
variable {X:Cx}
theorem Bj7 (hu:u+64<c) (hb:b<=40):u+min a b<c:=Nat.lt_of_le_of_lt (Nat.add_le_add_left (Nat.le_trans (Nat.min_le_right a b) (Nat.le_trans hb (by decide))) u) hu
theorem Yx (hu:u+64<c) (hb:b<=40):u+1+min a b<c:=Nat.lt_of_le_of_lt (Nat.le_trans (Nat.add_le_add_left (Nat.le_trans (Nat.min_le_right a b) hb) _) (Nat.add_le_add_left (show 1+40<=64 by decide) u)) hu
theorem Bt7 (hu:X.A.units+64<cLine):OpR X (compareOp .Eq) (λx y H Q=>∃a b,Tr H a x/\Tr H b y/\Flat a/\Flat b/\Q (.bl (PyData.eqv a b)) H):=by
 intro c s n H x y v u Q I g f h;obtain⟨a,b,i,j,k,d,q⟩:=h;obtain⟨m,l⟩:=i.reads I g;obtain⟨o,e⟩:=j.reads I f;exact SeqAt.compareEq_reads l e k.1 d.1 (Bj7 hu d.2) ⟨.bl _,H,I,rfl,q⟩
theorem Bx9 (hu:X.A.units+64<cLine):OpR X (compareOp .NotEq) (λx y H Q=>∃a b,Tr H a x/\Tr H b y/\Flat a/\Flat b/\Q (.bl (!PyData.eqv a b)) H):=by
 intro c s n H x y v u Q I g f h;obtain⟨a,b,i,j,k,d,q⟩:=h;obtain⟨m,l⟩:=i.reads I g;obtain⟨o,e⟩:=j.reads I f;exact SeqAt.compareNe_reads l e k.1 d.1 (Bj7 hu d.2) ⟨.bl _,H,I,rfl,q⟩
theorem Bx5 (hu:X.A.units+64<cLine):OpR X (compareOp .In) (λx y H Q=>∃d a,Tr H d x/\(Tr H (.list a) y\/Tr H (.tuple a) y)/\Flat d/\PyData.canLayAll0 a=true/\Q (.bl (a.any λe=>PyData.eqv e d)) H):=by
 intro i s o H x y v u Q I n g h;obtain⟨d,a,l,b,c,j,q⟩:=h;obtain⟨p,k⟩:=l.reads I n
 rcases b with b | b
 ·obtain⟨m,f⟩:=b.reads I g
  exact SeqAt.in_list_reads f k j c.1 (Yx hu c.2) ⟨.bl _,H,I,rfl,q⟩
 ·obtain⟨m,f⟩:=b.reads I g
  exact SeqAt.in_tuple_reads f k j c.1 (Yx hu c.2) ⟨.bl _,H,I,rfl,q⟩
theorem Ay8 (hu:X.A.units+64<cLine):OpR X (compareOp .NotIn) (λx y H Q=>∃d ds,Tr H d x/\(Tr H (.list ds) y\/Tr H (.tuple ds) y)/\Flat d/\PyData.canLayAll0 ds=true/\Q (.bl (!ds.any λe=>PyData.eqv e d)) H):=by
 intro g s σ H x y v u Q I m f h;obtain⟨d,ds,k,a,b,i,q⟩:=h;obtain⟨as,j⟩:=k.reads I m
 rcases a with a | a
 ·obtain⟨l,c⟩:=a.reads I f
  exact SeqAt.notIn_list_reads c j i b.1 (Yx hu b.2) ⟨.bl _,H,I,rfl,q⟩
 ·obtain⟨l,c⟩:=a.reads I f
  exact SeqAt.notIn_tuple_reads c j i b.1 (Yx hu b.2) ⟨.bl _,H,I,rfl,q⟩
end
mutual
noncomputable def Ox (gt:Bool):PyData->PyData->Option Bool
 | .int i,.int j=>some (if gt then decide (j<i) else decide (i<j))
 | .str i,.str j=>some (if gt then decide (j.cps.toList<i.cps.toList) else decide (i.cps.toList<j.cps.toList))
 | .tuple xs,.tuple ys=>Pb gt xs ys
 | _,_=>none
noncomputable def Pb (gt:Bool):List PyData->List PyData->Option Bool
 | [],[]=>some false
 | [],_::_=>some (!gt)
 | _::_,[]=>some gt
 | x::xs,y::ys=>if PyData.eqv x y=true then Pb gt xs ys else Ox gt x y
end
noncomputable abbrev opG (gt:Bool):CmpOp:=if gt then .Gt else .Lt
def Bo8 (gt:Bool)(A:Around)(s:Shared)(a b:Value)(r:Bool):Prop :=
 ∀(prog:Program) (w:World) (E:Value->Shared->Prop) (Q:Value->Shared->Prop),Q (.bool r) s->wpAny (model prog w) A (richCompare (opG gt) a b) Q E s
inductive Nu (gt:Bool) (A:Around) (s:Shared):List Value->List Value->Bool->Prop
 | nn:Nu gt A s [] [] false
 | nc {y ys}:Nu gt A s [] (y::ys) (!gt)
 | cn {x xs}:Nu gt A s (x::xs) [] gt
 | eq {x xs y ys r}:SeqAt.EqAt A s x y true->Nu gt A s xs ys r->Nu gt A s (x::xs) (y::ys) r
 | ne {x xs y ys r}:SeqAt.EqAt A s x y false->Bo8 gt A s x y r->Nu gt A s (x::xs) (y::ys) r
section
open PySem.SeqAt
open PySem.AutoSeq1 (wpAny_loadPart')
open PySem.MeetsSeq PySem.MeetsSeq2 PySem.MeetsSeq3
theorem Zc (l b:Addr)(items a:Array Value)(n n2:Nat)(dd dd2:Option Addr)(sl sl2:Array (Option Value))(r:Bool) :
 Meets (Builtin.«tuple.__lt__» ⟨[.ref l,.ref b],[]⟩)
  (λA R s=>s.heap.get? l=some { cls:=.type "tuple",dict:=dd,data:=.seq items n,slots:=sl }/\s.heap.get? b=some { cls:=.type "tuple",dict:=dd2,data:=.seq a n2,slots:=sl2 } /\
   Nu false A.in1 s items.toList a.toList r/\R (.ok (.ret (.bool r))) s) :=
 .of_wp λf w A R s h=>by
  obtain⟨hp,g,d,tk,os⟩:=s;obtain⟨hl,hb,hx,h⟩:=h;have f2:=AutoSeq1.sub_tuple_tuple
  wp_walk using wpAny_loadPart' hl,wpAny_loadPart' hb,wpAny_forIn_list _ (λrest b s'=>b.1=none/\s'=⟨hp,g,d,tk,os⟩/\∃(vs ws:List Value),rest=vs.zip ws /\
   vs.length+a.size=ws.length+items.size/\Nu false A.in1 ⟨hp,g,d,tk,os⟩ vs ws r) _
  case turn =>
   rintro⟨y,x⟩ rest b s' ⟨hb',rfl,vs,ws,e,c,hR⟩
   cases hR with
   | nn=>rw[List.zip_nil_left]at e;cases e
   | nc=>rw[List.zip_nil_left]at e;cases e
   | cn=>rw[List.zip_nil_right]at e;cases e
   | eq he hr =>
    rw[List.zip_cons_cons]at e
    injection e with hyx hrest
    injection hyx with hy hx
    subst hy hx;simp only[List.length_cons]at c
    refine wpAny_bind (he f w _ _ ?_)
    wp_walk
    exact⟨rfl,rfl,_,_,hrest,by omega,hr⟩
   | ne he hr =>
    rw[List.zip_cons_cons]at e
    injection e with hyx hrest
    injection hyx with hy hx
    subst hy hx
    refine wpAny_bind (he f w _ _ ?_)
    have hri:∀(E:Value->Shared->Prop) (Q:Value->Shared->Prop),Q (.bool r) ⟨hp,g,d,tk,os⟩->wpAny (model f w) A.in1 (richCompare .Lt y x) Q E ⟨hp,g,d,tk,os⟩:=hr f w
    wp_walk using hri
    exact⟨_,rfl,by simpa using h⟩
  case fin =>
   rintro⟨b1,b2⟩ s' ⟨hb',rfl,vs,ws,e,c,hR⟩
   simp only at hb';subst hb'
   have hv:r=decide (items.size<a.size):=by
    cases hR with
    | nn=>exact(decide_eq_false (by simp only[List.length_nil]at c;omega)).symm
    | nc=>simp only[List.length_nil,List.length_cons]at c;exact(decide_eq_true (by omega)).symm
    | cn=>simp only[List.length_nil,List.length_cons]at c;exact(decide_eq_false (by omega)).symm
    | eq=>rw[List.zip_cons_cons]at e;cases e
    | ne=>rw[List.zip_cons_cons]at e;cases e
   rw[hv]at h
   wp_walk
   exact⟨_,rfl,by simpa[Builtin.Tuple.tupleCompareSizes] using h⟩
  case h =>
   exact⟨rfl,rfl,items.toList,a.toList,rfl,by simp;omega,hx⟩
theorem Zx (l b:Addr)(items a:Array Value)(n n2:Nat)(dd dd2:Option Addr)(sl sl2:Array (Option Value))(r:Bool) :
 Meets (Builtin.«tuple.__gt__» ⟨[.ref l,.ref b],[]⟩)
  (λA R s=>s.heap.get? l=some { cls:=.type "tuple",dict:=dd,data:=.seq items n,slots:=sl }/\s.heap.get? b=some { cls:=.type "tuple",dict:=dd2,data:=.seq a n2,slots:=sl2 } /\
   Nu true A.in1 s items.toList a.toList r/\R (.ok (.ret (.bool r))) s) :=
 .of_wp λf w A R s h=>by
  obtain⟨hp,g,d,tk,os⟩:=s;obtain⟨hl,hb,hx,h⟩:=h;have f2:=AutoSeq1.sub_tuple_tuple
  wp_walk using wpAny_loadPart' hl,wpAny_loadPart' hb,wpAny_forIn_list _ (λrest b s'=>b.1=none/\s'=⟨hp,g,d,tk,os⟩/\∃(vs ws:List Value),rest=vs.zip ws /\
   vs.length+a.size=ws.length+items.size/\Nu true A.in1 ⟨hp,g,d,tk,os⟩ vs ws r) _
  case turn =>
   rintro⟨y,x⟩ rest b s' ⟨hb',rfl,vs,ws,e,c,hR⟩
   cases hR with
   | nn=>rw[List.zip_nil_left]at e;cases e
   | nc=>rw[List.zip_nil_left]at e;cases e
   | cn=>rw[List.zip_nil_right]at e;cases e
   | eq he hr =>
    rw[List.zip_cons_cons]at e
    injection e with hyx hrest
    injection hyx with hy hx
    subst hy hx;simp only[List.length_cons]at c
    refine wpAny_bind (he f w _ _ ?_)
    wp_walk
    exact⟨rfl,rfl,_,_,hrest,by omega,hr⟩
   | ne he hr =>
    rw[List.zip_cons_cons]at e
    injection e with hyx hrest
    injection hyx with hy hx
    subst hy hx
    refine wpAny_bind (he f w _ _ ?_)
    have hri:∀(E:Value->Shared->Prop) (Q:Value->Shared->Prop),Q (.bool r) ⟨hp,g,d,tk,os⟩->wpAny (model f w) A.in1 (richCompare .Gt y x) Q E ⟨hp,g,d,tk,os⟩:=hr f w
    wp_walk using hri
    exact⟨_,rfl,by simpa using h⟩
  case fin =>
   rintro⟨b1,b2⟩ s' ⟨hb',rfl,vs,ws,e,c,hR⟩
   simp only at hb';subst hb'
   have hv:r=decide (a.size<items.size):=by
    cases hR with
    | nn=>exact(decide_eq_false (by simp only[List.length_nil]at c;omega)).symm
    | nc=>simp only[List.length_nil,List.length_cons]at c;exact(decide_eq_false (by omega)).symm
    | cn=>simp only[List.length_nil,List.length_cons]at c;exact(decide_eq_true (by omega)).symm
    | eq=>rw[List.zip_cons_cons]at e;cases e
    | ne=>rw[List.zip_cons_cons]at e;cases e
   rw[hv]at h
   wp_walk
   exact⟨_,rfl,by simpa[Builtin.Tuple.tupleCompareSizes] using h⟩
  case h =>
   exact⟨rfl,rfl,items.toList,a.toList,rfl,by simp;omega,hx⟩
end
theorem Bs7 (hl:s.heap.IsTuple l items) (hb:s.heap.IsTuple b a) (hx:Nu f A.in1 s items.toList a.toList r) (hu:A.units<cLine):Bo8 f A s (.ref l) (.ref b) r:=by
 intro m w E Q h;obtain⟨⟨o,y,k,v⟩,d,p,n,u⟩:=id hl;obtain⟨⟨j,t,g,q⟩,c,i,z,e⟩:=id hb;subst p u i e
 cases f with
 | false =>
  exact richCompare_meets_room ⟨_,d,rfl⟩ ⟨_,c,rfl⟩ PySem.F.slot_tuple_lt PySem.F.entry_tuple_lt (PySem.F.args_tuple_lt_2 _ _) (Zc l b _ _ n _ _ _ _ _ r)
   ⟨d,c,hx,show Value.bool r≠Value.notImplemented/\Q _ s from ⟨(λx=>nomatch x),h⟩⟩ hu
 | true =>
  exact richCompare_meets_room ⟨_,d,rfl⟩ ⟨_,c,rfl⟩ PySem.F.slot_tuple_gt PySem.F.entry_tuple_gt (PySem.F.args_tuple_gt_2 _ _) (Zx l b _ _ n _ _ _ _ _ r)
   ⟨d,c,hx,show Value.bool r≠Value.notImplemented/\Q _ s from ⟨(λx=>nomatch x),h⟩⟩ hu
mutual
theorem A4q (gt:Bool):∀(da db:PyData) (A:Around) (s:Shared) (a b:Value) (as bs:List Addr) (r:Bool),Reads s.heap a da as->Reads s.heap b db bs->da.canLay0=true->db.canLay0=true->A.units+da.depth<cLine->Ox gt da db=some r->Bo8 gt A s a b r
 | .int i,db,A,s,a,b,as,bs,r,ra,rb,ca,cb,hu,h=>by
  cases db with
  | int j =>
   cases ra
   cases rb
   cases h
   intro prog w E Q q
   cases gt with
   | false=>exact(PyProof.Rows.lt_int q:wpAny (model prog w) A (compareOp .Lt _ _) Q E s)
   | true=>exact(PyProof.Rows.gt_int q:wpAny (model prog w) A (compareOp .Gt _ _) Q E s)
  | _=>cases h
 | .str i,db,A,s,a,b,as,bs,r,ra,rb,ca,cb,hu,h=>by
  cases db with
  | str j =>
   cases ra
   cases rb
   cases h
   intro prog w E Q q
   cases gt with
   | false=>exact(PyProof.Rows.lt_str q:wpAny (model prog w) A (compareOp .Lt _ _) Q E s)
   | true=>exact(PySem.P.gt_str q:wpAny (model prog w) A (compareOp .Gt _ _) Q E s)
  | _=>cases h
 | .tuple xs,db,A,s,a,b,as,bs,r,ra,rb,ca,cb,hu,h=>by
  cases db with
  | tuple ys =>
   cases ra with
   | tuple h1 h2 h3 h4 =>
    cases rb with
    | tuple g1 g2 g3 g4 =>
     have hu':A.units+(PyData.depthAll xs+1)<cLine:=hu
     exact Bs7 ⟨_,h1,h2,_,h3⟩ ⟨_,g1,g2,_,g3⟩ (Og gt xs ys A.in1 s _ _ _ _ r h4 g4 ca cb (by show A.units+1+PyData.depthAll xs<cLine;omega) h) (by omega)
  | _=>cases h
 | .none,db,A,s,a,b,as,bs,r,ra,rb,ca,cb,hu,h=>by cases db <;> cases h
 | .bool _,db,A,s,a,b,as,bs,r,ra,rb,ca,cb,hu,h=>by cases db <;> cases h
 | .list _,db,A,s,a,b,as,bs,r,ra,rb,ca,cb,hu,h=>by cases db <;> cases h
 | .dict _,db,A,s,a,b,as,bs,r,ra,rb,ca,cb,hu,h=>by cases db <;> cases h
theorem Og (gt:Bool):∀(xs ys:List PyData) (A:Around) (s:Shared) (vs ws:List Value) (as bs:List Addr) (r:Bool),ReadsAll s.heap vs xs as->ReadsAll s.heap ws ys bs->PyData.canLayAll0 xs=true->PyData.canLayAll0 ys=true->A.units+PyData.depthAll xs<cLine->Pb gt xs ys=some r->Nu gt A s vs ws r
 | [],[],A,s,vs,ws,as,bs,r,ra,rb,ca,cb,hu,h=>by cases ra;cases rb;cases h;exact .nn
 | [],y::ys,A,s,vs,ws,as,bs,r,ra,rb,ca,cb,hu,h=>by cases ra;cases rb;cases h;exact .nc
 | x::xs,[],A,s,vs,ws,as,bs,r,ra,rb,ca,cb,hu,h=>by cases ra;cases rb;cases h;exact .cn
 | x::xs,y::ys,A,s,vs,ws,as,bs,r,ra,rb,ca,cb,hu,h=>by
  cases ra with
  | cons r1 r2 =>
   cases rb with
   | cons q1 q2 =>
    have ca':=Bool.and_eq_true_iff.mp ca;have cb':=Bool.and_eq_true_iff.mp cb;have hu':A.units+max x.depth (PyData.depthAll xs)<cLine:=hu
    have e:=SeqAt.eqAt_reads x y A s _ _ _ _ r1 q1 ca'.1 cb'.1 (by omega)
    rw[Pb]at h
    by_cases he:PyData.eqv x y=true
    ·rw[if_pos he]at h
     rw[he]at e
     exact .eq e (Og gt xs ys A s _ _ _ _ r r2 q2 ca'.2 cb'.2 (by omega) h)
    ·rw[if_neg he]at h
     rw[Bool.not_eq_true _ |>.mp he]at e
     exact .ne e (A4q gt x y A s _ _ _ _ r r1 q1 ca'.1 cb'.1 (by omega) h)
end
section
variable {X:Cx}{pins:List (Addr×Obj)}{σ:St}{H:Hp}{s:Shared}
theorem Inv.recS (I:Inv X (pins++(S,o)::pl) σ H s) (hS:X.s₀.heap.objs.size<=S) (hp:∀p∈pins++pl,p.1≠S) (hpn:∀p∈X.pn,p.1≠S)
 (hu:(s.heap.update S f).get? S=some o') (hd:∀v,o'.data≠.cell v):Inv X (pins++(S,o')::pl) σ H { s with heap:=s.heap.update S f }:=by
 obtain⟨p1,p2,p3,p4,p5⟩:=I.pin (S,o) (List.mem_append_right _ (List.mem_append_right _ List.mem_cons_self))
 have I0:Inv X [] σ H s:=I.pins_of λp hp=>nomatch hp
 have I1:Inv X [] σ H { s with heap:=s.heap.update S f }:=I0.turned (t':=s.toks) (λb u hb e=>(Heap.get?_update_other s.heap f (Ne.symm hb)).trans e) p2 p3 (.inr hS) (λx c e z=>by
  obtain⟨v,ob,ho,hdc⟩:=I.cell x c e
  rw[z,p1]at ho;cases ho;exact p5 v hdc) (λp hp' z=>by
   have hp':p∈X.pn++[]:=hp';rw[List.append_nil]at hp'
   exact hpn p hp' z)
 refine I1.pins_of λp hpp=>?_
 have keep:∀p∈pins++pl,(s.heap.update S f).get? p.1=some p.2/\H p.1=none/\p.1≠X.env.locals/\p.1∉X.fs/\∀v,p.2.data≠.cell v:=λp hpm=>by
  have hpm':p∈X.pn++(pins++(S,o)::pl):=List.mem_append_right _ (by
   rcases List.mem_append.mp hpm with z | z
   ·exact List.mem_append_left _ z
   ·exact List.mem_append_right _ (List.mem_cons_of_mem _ z))
  obtain⟨q1,q2,q3,q4,q5⟩:=I.pin p hpm';exact⟨(Heap.get?_update_other s.heap f (Ne.symm (hp p hpm))).trans q1,q2,q3,q4,q5⟩
 rcases List.mem_append.mp hpp with z | z
 ·exact keep p (List.mem_append_left _ z)
 ·rcases List.mem_cons.mp z with rfl | z
  ·exact⟨hu,p2,p3,p4,hd⟩
  ·exact keep p (List.mem_append_right _ z)
end
noncomputable def A0p (H:Hp):V->Option Nat
 | .ref p=>match H p with
  | some (.lst xs)=>some xs.length
  | some (.tup xs)=>some xs.length
  | _=>none
 | .str z=>if z.length<=sizeLine then some z.length else none
 | _=>none
def rAppF:V->List V->Hp->VK->Prop:=λx vs H Q=>∃l y xs,x=.ref l/\vs=[y]/\H l=some (.lst xs)/\xs.length<sizeLine/\Q .non (upd H l (.lst (xs++[y])))
def Bt8 (K:PySem.W.Frag)(tl:TE):TI:=λσ H R=>tl σ H λx H1=>∃a,x=.ref a/\((∃xs,H1 a=some (.lst xs)/\R (Itl K a) H1)\/(∃xs,H1 a=some (.tup xs)/\R (Itt K a) H1))
section
variable {X:Cx}
theorem A1s:zE X (.builtin "len") (λxs H Q=>∃x n,xs=[x]/\A0p H x=some n/\Q (.int (n:Nat)) H):=by
 intro a s σ H xs us Q I r h;obtain⟨x,n,rfl,e,q⟩:=h
 refine Af5 _ s _ H _ _ Q I r ⟨x,n,rfl,?_,q⟩
 cases x with
 | ref p =>
  have e:(match H p with | some (.lst _)=>some _ | some (.tup _)=>some _ | _=>none)=some n:=e
  cases hp:H p with
  | none=>simp_all
  | some o =>
   rw[hp]at e
   cases o with
   | lst xs=>cases e;exact .inl ⟨xs,SqL.of hp,rfl⟩
   | tup xs=>cases e;exact .inr ⟨xs,SqT.of hp,rfl⟩
   | _=>grind
 | str z =>
  have e:(if z.length<=sizeLine then some _ else none)=some n:=e
  split at e
  ·cases e;trivial
  trivial
 | _=>cases e
theorem Bc4:MtM X "list.append" rAppF:=by
 intro a s j H x k v m Q I e f h;obtain⟨l,y,d,c,g,i,b,q⟩:=h;exact A0r _ s _ H x _ v _ Q I e f ⟨l,d,y,c,g,i,b,q⟩
theorem Bv4 (hl:PE X l j):PI X u l (Bt8 X.K j):=by
 intro k s z H R I h
 refine thn (hl _ s _ H _ I h) λv d ⟨x,m,c,r,f⟩=>?_
 obtain⟨a,e,f⟩:=f;subst e
 cases r
 rcases f with ⟨t,i,q⟩ | ⟨t,i,q⟩
 ·obtain⟨g,w,p,y⟩:=c.list (SqL.of i)
  refine wpAny_pyIter_list p.isList ?_
  refine⟨d.heap.objs.size,[d.heap.objs.size],_,_,m,rfl,c.kept λb o e=>Heap.get?_push_of_some _ e,A1c a _,⟨_,Heap.get?_push_size _ rfl,rfl,rfl⟩,λb n=>?_,q⟩
  have e:b=d.heap.objs.size:=by grind
  subst e;exact c.fpOk (Nat.le_refl _) (c.hok.fresh (Nat.le_refl _))
 ·obtain⟨g,w,p,y⟩:=c.tuple (SqT.of i)
  refine wpAny_pyIter_tuple (show d.heap.IsTuple a _ from p) ?_
  refine⟨d.heap.objs.size,[d.heap.objs.size],_,_,m,rfl,c.kept λb o e=>Heap.get?_push_of_some _ e,Ao3 a _,⟨_,Heap.get?_push_size _ rfl,rfl,rfl⟩,λb n=>?_,q⟩
  have e:b=d.heap.objs.size:=by grind
  subst e;exact c.fpOk (Nat.le_refl _) (c.hok.fresh (Nat.le_refl _))
def K1 (t:String):List String->Option Bool
 | []=>some false
 | T::r=>match Er t T with
  | some true=>some true
  | some false=>K1 t r
  | none=>none
theorem Uo {K:PySem.W.Frag}{t:String}:∀{Ts:List String}{b:Bool},K1 t Ts=some b->PySem.W.kitAny K (.type t) (Ts.map Value.type)=some b
 | [],b,h=>h
 | T::r,b,h=>by
  have h:(match Er t T with | some true=>some true | some false=>K1 t r | none=>none)=some b:=h
  show (match PySem.W.kitOne K (.type t) (.type T) with | some true=>some true | some false=>PySem.W.kitAny K (.type t) (r.map Value.type) | none=>none)=some b
  cases e:Er t T with
  | none=>rw[e]at h;cases h
  | some k =>
   rw[e]at h;rw[Ad6 e]
   cases k with
   | true=>exact h
   | false=>exact Uo h
theorem Ak0:∀{Ts:List String}{us:List Value},Vals (Ts.map V.ty) us->us=Ts.map Value.type
 | [],_,.nil=>rfl
 | T::r,_,.cons h t=>by
  cases (show _=Value.type T from h)
  rw[Ak0 t]
  rfl
theorem Az5:zE X (.builtin "isinstance") (λxs H Q=>∃x p a t b,xs=[x,.ref p]/\H p=some (.tup (a.map V.ty))/\Ob H x=some t/\K1 t a=some b/\Q (.bl b) H):=by
 intro e s σ H xs us Q I r h;obtain⟨x,p,a,t,b,rfl,d,E,j,q⟩:=h;obtain⟨u,v,rfl,k,l⟩:=Vals.two r
 cases (l)
 obtain⟨z,m,w,o,y,A,⟨n,B⟩,C⟩:=I.hok p _ d;have D:=Ak0 w;subst D;obtain⟨F,dd,f,sl⟩:=o;subst A B
 have c:∀g,EP X _ _ Q _ { s with toks:=g }:=λg=>⟨.bl b,H,I.tok _,rfl,q⟩
 obtain⟨d,z,p,i⟩:=A6n I k E;exact PySem.W.kia_tup z I.kIn p y (Uo j) i c
theorem A0z:OpR X (compareOp .LtE) (λx y H Q=>∃i j,x=.str i/\y=.str j/\Q (.bl (!decide (j.cps.toList<i.cps.toList))) H):=by
 intro a s σ H x y v u Q I b c h;obtain⟨i,j,rfl,rfl,q⟩:=h;obtain⟨t,rfl⟩:=b;obtain⟨t',rfl⟩:=c
 exact PySem.P.le_str (Cd I q (by simp))
end
theorem A5l:bootBuiltins "len" = some (.builtin "len"):=by decide +kernel
theorem Bu8:bootBuiltins "abs" = some (.builtin "abs"):=by decide +kernel
theorem Ho:bootBuiltins "isinstance" = some (.builtin "isinstance"):=by decide +kernel
theorem Bn6:bootBuiltins "all" = some (.builtin "all"):=by decide +kernel
theorem Bw4:bootBuiltins "min" = some (.builtin "min"):=by decide +kernel
theorem Ze:bootBuiltins "int" = some (.type "int"):=by decide +kernel
theorem Rx:bootBuiltins "str" = some (.type "str"):=by decide +kernel
theorem T3:bootBuiltins "bool" = some (.type "bool"):=by decide +kernel
theorem Ni:bootBuiltins "list" = some (.type "list"):=by decide +kernel
theorem G7:bootBuiltins "tuple" = some (.type "tuple"):=by decide +kernel
theorem Bt3:bootBuiltins "set" = some (.type "set"):=by decide +kernel
theorem Ep {X:Cx}{N':List Str}{idx:List (Option Nat)}{scope:Scope}(h1:scope.kind=.function:=by exact rfl)(h3:(scope.names.map (·.1)).Nodup:=by decide +kernel)
 (h4:(scope.names.all λy=>decide (y.2≠.free)||decide (X.env.kindOf y.1=some .cell)||decide (X.env.kindOf y.1=some .free))=true:=by exact rfl) (h5:idx.length=N'.length:=by exact rfl)
 (h6:((idx.zip N').all λp=>match p.1 with | none=>true | some i=>decide (X.N[i]?=some p.2)&&decide (scope.names.lookup p.2=some .free))=true:=by exact rfl):Gh X N' idx scope where
 kind:=h1
 nod:=h3
 free:=λy hy hf=>by
  have h:=List.all_eq_true.mp h4 y hy;simp only[Bool.or_eq_true,decide_eq_true_eq]at h
  rcases h with (h | h) | h
  ·exact absurd hf h
  ·exact .inl h
  ·exact .inr h
 len:=h5
 at':=λj i x e1 e2=>by
  have hz:(some i,x)∈idx.zip N':=by
   have:(idx.zip N')[j]?=some (some i,x):=by simp[List.getElem?_zip_eq_some,e1,e2]
   exact List.mem_of_getElem? this
  have h:=List.all_eq_true.mp h6 _ hz;simp only[Bool.and_eq_true,decide_eq_true_eq]at h;exact h
noncomputable def Vr:Expr->Option V
 | .Constant (.int i) _ _=>some (.int i)
 | .Constant (.str x) _ _=>some (.str x)
 | .Constant (.bool b) _ _=>some (.bl b)
 | .Constant .none _ _=>some .non
 | _=>none
def Qe:List Expr->Option (List V)
 | []=>some []
 | e::es=>match Vr e,Qe es with
  | some v,some vs=>some (v::vs)
  | _,_=>none
def tK (vs:List V):TA:=λ_ H Q=>Q vs H
theorem A8b (h:Vr e=some v):PE X e (tC v)/\∀es,starEach (e::es) X.env=(false,eval e X.env)::starEach es X.env:=by
 unfold Vr at h
 split at h <;> first
  | (cases h;exact⟨A5j,λ_=>rfl⟩)
  | (cases h;exact⟨A5f,λ_=>rfl⟩)
  | (cases h;exact⟨Bl6,λ_=>rfl⟩)
  | (cases h;exact⟨A6u,λ_=>rfl⟩)
  | cases h
theorem Xk {X:Cx}:∀{es:List Expr}{vs:List V},Qe es=some vs->PA X es (tK vs)
 | [],vs,h=>by cases h;exact Ri
 | e::es,vs,h=>by
  have h:(match Vr e,Qe es with | some v,some vs=>some (v::vs) | _,_=>none)=some vs:=h
  cases e1:Vr e with
  | none=>rw[e1]at h;cases h
  | some v =>
   cases e2:Qe es with
   | none=>rw[e1,e2]at h;cases h
   | some r =>
    rw[e1,e2]at h
    cases h
    obtain⟨p1,p2⟩:=A8b (X:=X) e1;exact Au0 p1 (Xk e2) (p2 es)
noncomputable def isStar:Expr->Bool
 | .Starred ..=>true
 | _=>false
def noStar:List Expr->Bool
 | []=>true
 | e::es=>!isStar e&&noStar es
theorem Hm (h:isStar e=false):starEach (e::es) env=(false,eval e env)::starEach es env:=by
 cases e <;> first | rfl | cases h
theorem Kv {pos:Pos}{env:Env}:∀{es:List Expr},noStar es=true->(backTo pos (starEach es env)).any (·.1)=false
 | [],_=>rfl
 | e::es,h=>by
  obtain⟨h1,h2⟩:=Bool.and_eq_true_iff.mp h
  rw[Hm (by simpa using h1)]
  show (false||(backTo pos (starEach es env)).any (·.1))=false
  rw[Kv h2]
  rfl
theorem Gp (h:noStar (e::es)=true):isStar e=false/\noStar es=true:=by
 obtain⟨b,a⟩:=Bool.and_eq_true_iff.mp h
 simp_all
section
variable {X:Cx}{CX:CXT}{k:Nat}{f:Addr}{fd:FuncData}{ps:List Str}{sp:Sp}{dvs:List V}{ds:List Value}{E:XK}{x:Str}{p pos:Pos}{e:Expr}{es:List Expr}{te:TE}{t:TA}{id T:String}{r:List V->Hp->VK->Prop}
theorem A6r (ha:PE X e te)(hr:PA X es t)(hs:isStar e=false:=by rfl):PA X (e::es) (Cj te t):=Au0 ha hr (Hm hs)
theorem A8k (F:FnOk X.prog X.w X.K X.mg X.base CX k f fd ps sp)(hr:Room k X.A)(hg:Gl X x)(hm:X.mg x=some (.ref f))(hk:PySem.W.keepIn X.K (.ref f)=true)(hb:Binds X.K fd ps ds)(hd:Vals dvs ds)(hx:Hi CX X E)
 (ha:PA X (e::es) t) (hdb:(x==("__debug__" : Str))=false:=by decide) (hn:noStar (e::es)=true:=by rfl):PE X (.Call (.Name x p) (e::es) [] pos) (Km sp dvs E t) :=
 Bb9 F hr hg hm hk hb hd hx ha hdb (Hm (Gp hn).1) (Kv (Gp hn).2)
theorem Fz (hc:zE X (.builtin id) r)(hg:Gl X x)(hm:X.mg x=none)(hv:bootBuiltins x=some (.builtin id))(ha:PA X (e::es) t)(hn:x ≠ "__name__" := by decide) (hdb:(x==("__debug__" : Str))=false:=by decide)
 (hns:noStar (e::es)=true:=by rfl):PE X (.Call (.Name x p) (e::es) [] pos) (tCB r t):=A7e hc hg hm hv ha hn hdb (Hm (Gp hns).1) (Kv (Gp hns).2)
theorem K6 (hc:zE X (.type T) r)(hg:Gl X x)(hm:X.mg x=none)(hv:bootBuiltins x=some (.type T))(ha:PA X (e::es) t)(hn:x ≠ "__name__" := by decide) (hdb:(x==("__debug__" : Str))=false:=by decide)
 (hns:noStar (e::es)=true:=by rfl):PE X (.Call (.Name x p) (e::es) [] pos) (tCB r t):=A1l hc hg hm hv ha hn hdb (Hm (Gp hns).1) (Kv (Gp hns).2)
end
section
variable {X:Cx}{a b e:Expr}{es:List Expr}{ta tb te:TE}{t:TA}{p pos apos cpos:Pos}
theorem Jm {b:List Keyword}{a:Pos}:Lh (.Call f args b a):=λ_ _=>rfl
theorem Oi {a:Pos}:Lh (.Name x a):=λ_ _=>rfl
theorem Bo {a:Pos}:Lh (.Constant (.int i) j a):=λ_ _=>rfl
theorem plain_bin {a b:Expr}{op}{c:Pos}:Lh (.BinOp a op b c):=λ_ _=>rfl
theorem A4g {b:Pos}:Lh (.UnaryOp op a b):=λ_ _=>rfl
theorem Kr (ha:QE X a ta)(hb:QE X b tb):QE X (.BinOp a .Sub b pos) (tOp (rI0 λi j=>.int (i-j)) ta tb):=⟨Xb Bs5 ha.1 hb.1⟩
theorem Ip (ha:QE X a ta)(hb:QE X b tb):QE X (.BinOp a .Mult b pos) (tOp (rI CMul λi j=>.int (i*j)) ta tb):=⟨Xb Bm7 ha.1 hb.1⟩
theorem Uz (ha:QE X a ta)(hb:QE X b tb):QE X (.BinOp a .FloorDiv b pos) (tOp (rI Be4 λi j=>.int (i / j)) ta tb):=⟨Xb Bf8 ha.1 hb.1⟩
theorem Gn (ha:QE X a ta)(hb:QE X b tb):QE X (.BinOp a .Mod b pos) (tOp (rI (λ_ j=>0<j) λi j=>.int (i % j)) ta tb):=⟨Xb Bo1 ha.1 hb.1⟩
theorem Rv (ha:QE X a ta)(hb:QE X b tb):QE X (.BinOp a .Pow b pos) (tOp (rI A9a λi j=>.int (i ^ j.toNat)) ta tb):=⟨Xb Bu4 ha.1 hb.1⟩
def B3a:R2:=λx y H Q=>∃da db,Tr H da x/\Tr H db y/\Flat da/\Flat db/\Q (.bl (PyData.eqv da db)) H
def B2z:R2:=λx y H Q=>∃da db,Tr H da x/\Tr H db y/\Flat da/\Flat db/\Q (.bl (!PyData.eqv da db)) H
theorem Af2 (ha:QE X a ta)(hb:QE X b tb):QT X (.Compare a [.Lt] [b] pos) (Tc (tOp (rI0 λi j=>.bl (decide (i<j))) ta tb)):=⟨M9 B2e ha.1 hb.1 (La _)⟩
theorem Ag9 (ha:QE X a ta)(hb:QE X b tb):QT X (.Compare a [.Gt] [b] pos) (Tc (tOp (rI0 λi j=>.bl (decide (j<i))) ta tb)):=⟨M9 B0i ha.1 hb.1 (La _)⟩
theorem A5w (ha:QE X a ta)(hb:QE X b tb):QE X (.Compare a [.GtE] [b] pos) (tOp (rI0 λi j=>.bl (decide (j<=i))) ta tb):=⟨Pn B0b ha.1 hb.1 (La _)⟩
theorem A2q (ha:QE X a ta)(hb:QE X b tb):QE X (.Compare a [.Is] [b] pos) (tOp (λx y H Q=>y=.non/\Q (.bl (decide (x=.non))) H) ta tb):=⟨Pn A8n ha.1 hb.1 (La _)⟩
theorem Rr (ha:QE X a ta)(hb:QE X b tb):QT X (.Compare a [.Is] [b] pos) (Tc (tOp (λx y H Q=>y=.non/\Q (.bl (decide (x=.non))) H) ta tb)):=⟨M9 A8n ha.1 hb.1 (La _)⟩
theorem Bo6 (ha:QE X a ta):QE X (.UnaryOp .USub a pos) (tUn (rU λi=>.int (-i)) ta):=⟨B0o Bo4 ha.1⟩
def S9 (K:PySem.W.Frag):List V->Hp->VK->Prop:=λxs H Q=>∃x n,xs=[x]/\A0p H x=some n/\Q (.int (n:Nat)) H
def Ak8 (K:PySem.W.Frag):List V->Hp->VK->Prop:=λxs H Q=>∃x n,xs=[x]/\B0a K x H n/\Q (.int n) H
def Od (K:PySem.W.Frag):List V->Hp->VK->Prop:=λxs H Q=>∃i,xs=[.int i]/\Q (.int (if i<0 then -i else i)) H
theorem Ac2 (hgl:Gl X "abs") (hm:X.mg "abs" = none) (ha:PA X (e::es) t) (hns:noStar (e::es)=true:=by rfl):PE X (.Call (.Name "abs" p) (e::es) [] pos) (tCB (Od X.K) t):=Fz A8r hgl hm Bu8 ha (by decide) (by rfl) hns
def Oq (K:PySem.W.Frag):List V->Hp->VK->Prop:=λxs H Q=>∃x T t b,xs=[x,.ty T]/\Ob H x=some t/\Er t T=some b/\Q (.bl b) H
theorem Ae9 (hgl:Gl X "isinstance") (hm:X.mg "isinstance" = none) (ha:PA X (e::es) t) (hns:noStar (e::es)=true:=by rfl):PE X (.Call (.Name "isinstance" p) (e::es) [] pos) (tCB (Oq X.K) t):=Fz A8g hgl hm Ho ha (by decide) (by rfl) hns
def Ju (K:PySem.W.Frag):List V->Hp->VK->Prop:=λxs H Q=>∃x p Ts t b,xs=[x,.ref p]/\H p=some (.tup (Ts.map V.ty))/\Ob H x=some t/\K1 t Ts=some b/\Q (.bl b) H
theorem Za (hgl:Gl X "isinstance") (hm:X.mg "isinstance" = none) (ha:PA X (e::es) t) (hns:noStar (e::es)=true:=by rfl):PE X (.Call (.Name "isinstance" p) (e::es) [] pos) (tCB (Ju X.K) t):=Fz Az5 hgl hm Ho ha (by decide) (by rfl) hns
def Mm (K:PySem.W.Frag):List V->Hp->VK->Prop:=λxs H Q=>∃(a:Addr) (bs:List Bool),xs=[.ref a]/\SqL K H a (bs.map V.bl)/\Q (.bl (bs.all id)) H
theorem Aa0 (hc:X.calm=true)(hgl:Gl X "all") (hm:X.mg "all" = none) (ha:PA X (e::es) t) (hns:noStar (e::es)=true:=by rfl):PE X (.Call (.Name "all" p) (e::es) [] pos) (tCB (Mm X.K) t):=Fz (A0g hc) hgl hm Bn6 ha (by decide) (by rfl) hns
def Ly (K:PySem.W.Frag):List V->Hp->VK->Prop:=λxs H Q=>(∃i,xs=[.int i]/\Q (.int i) H)\/∃k,xs=[.bl k]/\Q (.int (if k then 1 else 0)) H
theorem Z6 (hgl:Gl X "int") (hm:X.mg "int" = none) (ha:PA X (e::es) t) (hns:noStar (e::es)=true:=by rfl):PE X (.Call (.Name "int" p) (e::es) [] pos) (tCB (Ly X.K) t):=K6 A1t hgl hm Ze ha (by decide) (by rfl) hns
def Ig (K:PySem.W.Frag):List V->Hp->VK->Prop:=λxs H Q=>∃p ys,xs=[.ref p]/\((SqL K H p ys/\∀l,H l=none->Q (.ref l) (upd H l (.tup ys)))\/(SqT K H p ys/\Q (.ref p) H))
theorem Sd (hgl:Gl X "tuple") (hm:X.mg "tuple" = none) (ha:PA X (e::es) t) (hns:noStar (e::es)=true:=by rfl):PE X (.Call (.Name "tuple" p) (e::es) [] pos) (tCB (Ig X.K) t):=K6 Ws hgl hm G7 ha (by decide) (by rfl) hns
def Iu (K:PySem.W.Frag):List V->Hp->VK->Prop:=λxs H Q=>∃p ys,xs=[.ref p]/\(SqL K H p ys\/SqT K H p ys)/\∀l,H l=none->Q (.ref l) (upd H l (.lst ys))
theorem Tj (hgl:Gl X "list") (hm:X.mg "list" = none) (ha:PA X (e::es) t) (hns:noStar (e::es)=true:=by rfl):PE X (.Call (.Name "list" p) (e::es) [] pos) (tCB (Iu X.K) t):=K6 Y0 hgl hm Ni ha (by decide) (by rfl) hns
def Mh (K:PySem.W.Frag):List V->Hp->VK->Prop:=λxs H Q=>∃i j,xs=[.int i,.int j]/\Q (.int (if j<i then j else i)) H
theorem Ab7 (hc:X.calm=true)(hgl:Gl X "min") (hm:X.mg "min" = none) (ha:PA X (e::es) t) (hns:noStar (e::es)=true:=by rfl):PE X (.Call (.Name "min" p) (e::es) [] pos) (tCB (Mh X.K) t):=Fz (A1p hc) hgl hm Bw4 ha (by decide) (by rfl) hns
theorem A1j (ho:PE X a ta)(hv:PE X e te)(hbase:attributeBase a "append" X.env (eval a X.env)=eval a X.env:=by rfl)
 (hfew:((backTo cpos (starEach [e] X.env)).all (λx=>!x.1)&&(backToKw cpos (keywordEach [] X.env)).all (λx=>x.1.isSome)
  && decide ([e].length+([]:List Keyword).length+(if ([]:List Keyword).isEmpty then 0 else 1)<30))=true:=by rfl)
 (hline:(apos.endLine==cpos.line)=true:=by rfl) (hns:isStar e=false:=by rfl) :
 PE X (.Call (.Attribute a "append" apos) [e] [] cpos) (tBM X.K "list" rAppF ta (Cj te Fp)) :=
 Bk9 PySem.F.plainAttrs_list PySem.F.slot_list_append PySem.F.type_list_append Bc4 ho (A6r hv Ri hns) hbase hfew hline (Hm hns) rfl
end
noncomputable def Nt {α:Type} [DecidableEq α] (ks:List α) (k:α):Bool:=ks.any λx=>decide (x=k)
theorem memB_iff [DecidableEq a] {ks:List a}{k:a}:Nt ks k=true↔k∈ks:=by simp[Nt]
theorem memB_snoc [DecidableEq b] {ks:List b}{k a:b}:Nt (ks++[k]) a=(Nt ks a||decide (a=k)):=by
 unfold Nt
 grind
def Um {α:Type}[DecidableEq α](acc:List α)(x:α):List α:=if Nt acc x=true then acc else acc++[x]
def dst {α:Type}[DecidableEq α](xs:List α):List α:=xs.foldl Um []
theorem P0 [DecidableEq a] (xs:List a) (x:a):dst (xs++[x])=Um (dst xs) x:=by
 unfold dst;grind
theorem Ua {α:Type}[DecidableEq α]:∀(n:Nat) (xs:List α),xs.length=n->(dst xs).length<=n
 | 0,xs,h=>by cases xs with | nil=>exact Nat.le_refl _ | cons a r=>cases h
 | n+1,xs,h=>by
  rcases List.eq_nil_or_concat xs with rfl | ⟨ys,y,rfl⟩
  ·cases h
  ·rw[List.concat_eq_append]at h ⊢
   have hy:ys.length=n:=by simpa using h
   have ih:=Ua n ys hy;rw[P0];unfold Um;split
   ·omega
   ·simp;omega
noncomputable def keyV:V->Option Key
 | .int i=>some (.inl i)
 | .str x=>some (.inr x)
 | _=>none
theorem Bc1 (h:keyV v=some k) (r:RelV v u):Px k u=true/\u.scannable=true:=by
 cases v with
 | int i=>cases h;obtain⟨t,rfl⟩:=r;exact⟨Yi i t,rfl⟩
 | str x=>cases h;obtain⟨t,rfl⟩:=r;exact⟨Xd x t,rfl⟩
 | _=>cases h
def Wx (P:Program)(w:World)(a:Addr)(ks:List Key)(h:Heap):Prop:=h.SetOf (Ff P w) a (Nt ks) ks.length
noncomputable def A9p (P:Program) (w:World) (a:Addr) (ks:List Key):HO:=.ext (Wx P w a ks)
theorem Rt (hs:Wx P w a ks h) (k:∀o,h.get? a=some o->h'.get? a=some o):Wx P w a ks h':=by
 obtain⟨o,c,d,t,e,b⟩:=hs;exact⟨o,c,d,t,k o e,b⟩
theorem A1e
 (x:h.SetOf (Ff P w) a (λb=>Nt ks b||decide (b=k)) (if Nt ks k then ks.length else ks.length+1)):Wx P w a (Um ks k) h:=by
 unfold Wx Um
 by_cases hk:Nt ks k=true
 ·have e:(λb=>Nt ks b||decide (b=k))=Nt ks:=by
   grind
  simp_all
 ·have e:(λb=>Nt ks b||decide (b=k))=Nt (ks++[k]):=by
   funext b
   exact memB_snoc.symm
  simp_all
section
variable {P:Program}{w:World}{A:Around}
theorem fill (W:WalksS P w A.in1 J fp h j n Pv E) (p:S∉fp)
 (ks:List Key) (g:ks.length=n) (is:∀i v,Pv i v->∃k,ks[i]?=some k/\Px k v=true/\v.scannable=true) (Q:n+1<scanBound) (z:Shared)
 (G:∀s,Moved (S::h) j z s->Wx P w S (dst ks) s.heap->R (.ok (.ret .none)) s) :
 ∀(m i:Nat) (s:Shared),i+m=n->E i s->Moved (S::h) j z s->Wx P w S (dst (ks.take i)) s.heap->codeAny (model P w) A (.builtin "set.update.loop" ⟨[.ref S,.ref J],[]⟩) R s:=by
 have c:S∉h:=λq=>p (W.sub S q)
 have f:∀b,b∈h->b∈S::h:=λb q=>.tail _ q
 intro m
 induction m with
 | zero =>
  intro i s e K D r;have e:i=n:=e;subst e;apply codeAny_builtin PyProof.Rows.F.entry_set_update_loop;rw[Around.under_plainId PyProof.Rows.F.plain_set_update_loop _];apply wpAny_bind (m:=pyNext (.ref J));apply W.done s _ _ K;intro d a;apply wpAny_pure
  refine G d (Moved.trans W.gtrans D (a.mono f)) ?_
  have t:ks.take i=ks:=by rw[<- g];exact List.take_length
  rw[t]at r
  exact Rt r λo q=>a.heap S o c q
 | succ m ih =>
  intro i s e K D r
  have V:i<n:=by omega
  apply codeAny_builtin PyProof.Rows.F.entry_set_update_loop;rw[Around.under_plainId PyProof.Rows.F.plain_set_update_loop _];apply wpAny_bind (m:=pyNext (.ref J));apply W.item i s _ _ V K;intro v d Z F a;obtain⟨k,U,O,X⟩:=is i v Z;have H:Moved (S::h) j z d:=Moved.trans W.gtrans D (a.mono f)
  show wpAny _ A.in1 (holding [v] (setAdd S v) >>= _) _ _ d
  apply wpAny_bind;apply wpAny_holding;unfold setAdd;apply wpAny_holding;apply wpAny_bind
  refine (Ff P w).pyHash (k:=k) O ?_
  have l:(dst (ks.take i)).length+1<scanBound:=by
   have:=Ua _ (ks.take i) rfl
   have:(ks.take i).length<=n:=by rw[<- g];exact List.length_take_le' _ _
   omega
  have tk:ks.take (i+1)=ks.take i++[k]:=by rw[List.take_add_one,U];rfl
  have T:∀(B:Nat),d.toks<=B->wpAny (model P w) A.in1 (setAddHashed S v ((Ff P w).hash k)) (λ_ u=>Moved (S::h) j z u/\Wx P w S (dst (ks.take (i+1))) u.heap/\E (i+1) u) (λ_ _=>False) { d with toks:=B }:=by
   intro B N
   refine wpAny_setAddHashed_of (knd:=Ff P w) (s:={ d with toks:=B }) O X (Rt r λo q=>a.heap S o c q) l λY M so=>?_
   refine⟨Moved.then_heap H N λb o q x=>?_,?_,W.frame (i+1) d Y _ F N λb q o x=>?_⟩
   ·rw[M.2 b λy=>q (y▸.head _)];exact x
   ·rw[tk,P0];exact A1e so
   ·rw[M.2 b λy=>p (y▸q)];exact x
  refine wpAny_mono (T _ (Nat.le_succ _)) (λb u y=>?_) λ_ _ q=>q.elim
  obtain⟨I,L,C⟩:=y
  exact wpAny_pure ⟨plainId_quiet PyProof.Rows.F.plain_set_update_loop _,ih _ _ (by omega) C I L⟩
noncomputable abbrev bare (led:Bool):Obj:={ cls:=.type "set",dict:=none,data:=.set #[] 0 (.fresh 0 0 led) }
abbrev Ij (s:Shared)(led:Bool):Shared:={ s with heap:=s.heap.push (bare led) }
theorem Uy (s:Shared)(led:Bool):(Ij s led).heap.get? s.heap.objs.size=some (bare led):=Heap.get?_push_size _ rfl
abbrev A5n (P:Program)(w:World)(A:Around)(R:Result->Shared->Prop)(f:Fin)(z:Shared):Prop:=match f with
 | .done f=>R (.ok f) z
 | .again c=>c.quiet=true/\codeAny (model P w) A c R z
theorem A2y (Z:Shared->Prop) (hZ:∀z,Z z->Q (.ref s.heap.objs.size) z)
 (body:∀b:Bool,wpAny (model P w) A.in1.in1 (Builtin.«set.__init__» ⟨[.ref s.heap.objs.size,a],[]⟩) (A5n P w A.in1 (wants (λr z=>r=.none/\Z z) E)) (λe z=>wants (λr z=>r=.none/\Z z) E (.error e) z) (Ij s b)) :
 wpAny (model P w) A (call (.type "set") [a]) Q E s:=by
 have tc:=F.called_set;obtain⟨c0,cs,mro⟩:=tc.mro;have f1:=tc.made;have f2:=tc.sub;have f3:=tc.notType;have f4:=tc.canCreate;have f5:=F.typeCall_set_1 a;apply wpAny_call;apply codeAny_of_tree
 show wpAny _ _ (callAny (.type "set") ⟨[a],[]⟩) _ _ _
 refine wpAny_pure (And.intro (Code.quiet_builtin _ (by decide +kernel)) (codeAny_builtin F.entry_type_call ?_))
 rw[Around.under_plain (weight_type_call_type "set" [a] []) rfl]
 repeat any_goals first | wp_step | assumption
 have made:=code_set_new_1 (prog:=P) (w:=w) (A:=A.in1) (E:=E) (s:=s) a (Q₁:=λo z=>∃b,o=.ref s.heap.objs.size/\z=Ij s b) λb=>⟨b,rfl,rfl⟩
 refine codeAny_mono made λr z hz=>?_
 rcases r with (_ | f)
 ·exact hz
 cases f with
 | ret o =>
  obtain⟨b,rfl,rfl⟩:=hz;have ty:Shared.TypeIs (Ij s b) (.ref s.heap.objs.size) "set" := ⟨_,Uy s b,rfl⟩;have f6:=tc.init.lookup;have f7:=tc.init.bind (.ref s.heap.objs.size)
  repeat any_goals first | wp_step | assumption
  refine codeAny_mono (codeAny_call_builtin (R:=wants (λr z=>r=.none/\Z z) E) tc.init.plain F.entry_set_init (check_set_init_1 (a:=a) ty (body b))) λr z hz=>?_
  rcases r with (_ | f)
  ·exact hz
  cases f with
  | ret o =>
   obtain⟨rfl,hz⟩:=hz
   repeat any_goals first | wp_step | assumption
   exact hZ _ hz
  | _=>exact hz.elim
 | _=>exact hz.elim
end
section
variable {X:Cx}
def Qd (P:Program)(w:World):List V->Hp->VK->Prop:=λxs H Q=>∃(p:Addr) (ks:List Key),xs=[.ref p]/\H p=some (A9p P w p ks)/\ks.length<1000/\Q (.int (ks.length:Nat)) H
theorem Ae7:zE X (.builtin "len") (Qd X.prog X.w):=by
 intro a s σ H xs us Q I r h;obtain⟨p,ks,rfl,d,hn,q⟩:=h;obtain⟨u,rfl,f⟩:=vals1 r
 cases (f)
 obtain⟨⟨o,es,ep,t,e,c,g,x3,x4,x5,i,b⟩,_⟩:=I.hok p _ d
 refine call_len_set e c g i (by omega) ?_
 rw[b];exact⟨.int _,H,I.tok _ |>.tok _,⟨_,rfl⟩,q⟩
end
section
variable {P:Program}{w:World}{A:Around}{E:Value->Shared->Prop}{s:Shared}
theorem Su (a:s.heap.IsTupleIter j u k)
 (body:wpAny (model P w) A.in1 (Builtin.«tuple_iterator.__next__» ⟨[.ref j],[]⟩) (λf z=>∃v,f=.done (.ret v)/\Q v z) E s) :
 wpAny (model P w) A (Builtin.SmallTypes.nextOf (.ref j)) Q E s:=by
 apply wpAny_bind
 refine wpAny_callSpecial?_slot a.typeIs F.slot_tuple_iterator_next ?_
 refine wpAny_call_entry F.slot_tuple_iterator_next a.typeIs F.entry_tuple_iterator_next ?_ (F.args_tuple_iterator_next_1 _)
 refine wpAny_mono body (λf z c=>?_) λ_ _ q=>q
 obtain⟨v,b,q⟩:=c;exact⟨v,b,wpAny_pure q⟩
theorem Aq3 (c:s.heap.IsTupleIter j u k) (g:s.heap.IsTuple u vs) (hx:vs[k]?=some x)
 (q:∀h',h'.IsTupleIter j u (k+1)->Heap.SameBut j s.heap h'->Q x { s with heap:=h' }):wpAny (model P w) A (Builtin.SmallTypes.nextOf (.ref j)) Q E s:=by
 refine Su c ?_
 obtain⟨o,d,f,b⟩:=c;obtain⟨i,h,_,n,e⟩:=g;apply wpAny_bind (m:=field _ 0);apply wpAny_field d b rfl;apply wpAny_bind ;apply wpAny_field d b rfl;apply wpAny_bind ;apply wpAny_seqItems h e;simp only[hx,Int.toNat_natCast];apply wpAny_bind
 apply wpAny_setField d b (by simp)
 apply wpAny_pure
 refine⟨x,rfl,q _ ⟨_,(Heap.get?_update_self (Obj.mapFields λa=>a.setIfInBounds 1 (rawInt (k+1))) d (Obj.isFreed_of_fields (Obj.data_mapFields b _))),(Obj.cls_mapFields ..).trans f,?_⟩ (Heap.SameBut.update ..)⟩
 rw[Obj.data_mapFields b]
 trivial
theorem A2l (c:A.handled=none) (d:s.heap.IsTupleIter j u k) (h:s.heap.IsTuple u vs) (hx:vs[k]?=none)
 (q:∀h' e,Heap.ExtBut j s.heap h'->(∃o,h'.get? e=some o/\o.cls=.type "StopIteration")->E (.ref e) { s with heap:=h' }):wpAny (model P w) A (Builtin.SmallTypes.nextOf (.ref j)) Q E s:=by
 refine Su d ?_
 obtain⟨o,f,r,g⟩:=d;obtain⟨t,i,_,n,l⟩:=h;apply wpAny_bind (m:=field (.ref j) 0);apply wpAny_field f g (x:=.ref u) rfl;have p:¬ ((Value.ref u==Value.none)=true):=Bool.false_ne_true
 show wpAny _ _ (if (Value.ref u==.none)=true then _ else _) _ _ _
 rw[if_neg p];apply wpAny_bind (m:=field (.ref j) 1);apply wpAny_field f g (x:=.int k 0) rfl;apply wpAny_bind (m:=seqItems? (.ref u));apply wpAny_seqItems i l;simp only[hx,Int.toNat_natCast];apply wpAny_bind;apply wpAny_rule;apply wpAny_bind
 apply wpAny_setField f g (by simp)
 apply wpAny_bind (m:=newExc (.type "StopIteration") []);unfold newExc newTuple;apply wpAny_bind
 refine wpAny_newObj_type ?_ (by size_fits )
 apply wpAny_bind (m:=firstArgMember _ _)
 refine wpAny_of_eq (a:=Value.none) (by simp only[firstArgMember];rfl) ?_
 refine wpAny_newObj_type ?_ (by size_fits )
 unfold raiseNew;apply wpAny_bind;apply wpAny_handled;have b:A.in1.handled=none:=c;rw[b]
 refine wpAny_bind (wpAny_pure ?_)
 apply wpAny_throw;exact q _ _ (((Heap.SameBut.update ..).extBut.push _).push _) ⟨_,Heap.get?_push_size _ rfl,rfl⟩
def ItAt (t:Bool)(h:Heap)(j u:Addr)(k:Nat):Prop:=match t with
 | true=>h.IsTupleIter j u k
 | false=>h.IsListIter j u k
def SqA (t:Bool)(h:Heap)(u:Addr)(vs:Array Value):Prop:=match t with
 | true=>h.IsTuple u vs
 | false=>h.IsList u vs
theorem ItAt.stay (x:ItAt t h j u k) (q:∀o,h.get? j=some o->h'.get? j=some o):ItAt t h' j u k:=by
 cases t <;> (obtain⟨o,e,r⟩:=x;exact⟨o,q o e,r⟩)
theorem ItAt.obj (x:ItAt t h j u k):∃o,h.get? j=some o/\o.data=.fields #[.ref u,.int k 0]:=by
 cases t <;> (obtain⟨o,e,_,r⟩:=x;grind)
theorem SqA.stay (x:SqA t h u vs) (q:∀o,h.get? u=some o->h'.get? u=some o):SqA t h' u vs:=by
 cases t <;> (obtain⟨o,e,r⟩:=x;exact⟨o,q o e,r⟩)
theorem next_item (a:ItAt t s.heap j u k) (b:SqA t s.heap u vs) (hx:vs[k]?=some x)
 (q:∀h',ItAt t h' j u (k+1)->Heap.SameBut j s.heap h'->Q x { s with heap:=h' }):wpAny (model P w) A (Builtin.SmallTypes.nextOf (.ref j)) Q E s:=by
 cases t
 ·exact wpAny_nextOf_list_item a b hx q
 ·exact Aq3 a b hx q
theorem next_end (c:A.handled=none) (a:ItAt t s.heap j u k) (b:SqA t s.heap u vs) (hx:vs[k]?=none)
 (q:∀h' e,Heap.ExtBut j s.heap h'->(∃o,h'.get? e=some o/\o.cls=.type "StopIteration")->E (.ref e) { s with heap:=h' }):wpAny (model P w) A (Builtin.SmallTypes.nextOf (.ref j)) Q E s:=by
 cases t
 ·exact wpAny_nextOf_list_end c a b hx q
 ·exact A2l c a b hx q
structure Ag3 (h:Heap) (t1 t2:Bool) (z ti to i1 i2 a b:Addr) (f0:Value) (k:Nat):Prop where
 zip:IsZip h z ti to f0
 ins:IsPair h ti (.ref i1) (.ref i2)
 outs:∃u v,IsPair h to u v
 one:ItAt t1 h i1 a k
 two:ItAt t2 h i2 b k
structure zB (z ti to i1 i2 a b:Addr):Prop where
 nd:[z,ti,to,i1,i2].Nodup
 na:a∉[z,ti,to,i1,i2]
 nb:b∉[z,ti,to,i1,i2]
theorem zB.z_ti (x:zB z ti to i1 i2 a b):ti≠z:=by have:=x.nd;grind
theorem zB.z_to (x:zB z ti to i1 i2 a b):to≠z:=by have:=x.nd;grind
theorem zB.z_i1 (x:zB z ti to i1 i2 a b):i1≠z:=by have:=x.nd;grind
theorem zB.z_i2 (x:zB z ti to i1 i2 a b):i2≠z:=by have:=x.nd;grind
theorem zB.to_i1 (x:zB z ti to i1 i2 a b):to≠i1:=by have:=x.nd;simp_all
theorem zB.to_i2 (x:zB z ti to i1 i2 a b):to≠i2:=by have:=x.nd;simp_all
theorem zB.i1_i2 (x:zB z ti to i1 i2 a b):i1≠i2:=by have:=x.nd;simp_all
theorem zB.ti_to (x:zB z ti to i1 i2 a b):ti≠to:=by have:=x.nd;simp_all
theorem zB.ti_i1 (x:zB z ti to i1 i2 a b):ti≠i1:=by have:=x.nd;simp_all
theorem zB.ti_i2 (x:zB z ti to i1 i2 a b):ti≠i2:=by have:=x.nd;simp_all
theorem A7n {Q:Value->Shared->Prop}(d:zB z j h r t a b) (y:Ag3 s.heap t1 t2 z j h r t a b .none k)
 (ha:SqA t1 s.heap a xs) (hb:SqA t2 s.heap b ys) (hx:xs[k]?=some x) (O:ys[k]?=some x')
 (q:∀h',Ag3 h' t1 t2 z j h r t a b (rawInt s.heap.objs.size) (k+1)->IsPair h' s.heap.objs.size x x'->(∀c o,c∉[z,j,h,r,t]->s.heap.get? c=some o->h'.get? c=some o)->Q (.ref s.heap.objs.size) { s with heap:=h' }) :
 wpAny (model P w) A (Builtin.«zip.__next__» ⟨[.ref z],[]⟩) (λf z=>∃v,f=.done (.ret v)/\Q v z) E s:=by
 obtain⟨u0,N,o0⟩:=y.outs;have S:=d.na;have I:=d.nb;simp only[List.mem_cons,List.not_mem_nil,or_false,not_or]at S I;apply wpAny_bind (m:=field (.ref z) 2);apply wpAny_field y.zip rfl (x:=.bool false) rfl;apply wpAny_bind (m:=field (.ref z) 3);apply wpAny_field y.zip rfl (x:=.ref j) rfl;apply wpAny_bind;apply wpAny_seqItems y.ins rfl;apply wpAny_bind (m:=Builtin.SmallTypes.ownedTupleIsFree (.ref z));unfold Builtin.SmallTypes.ownedTupleIsFree;apply wpAny_bind;apply wpAny_field y.zip rfl (x:=.none) rfl;apply wpAny_pure;simp only[if_true];apply wpAny_bind;apply wpAny_rule;apply wpAny_bind;apply wpAny_field y.zip rfl (x:=.ref h) rfl;apply wpAny_bind
 apply wpAny_setField_rec y.zip (by simp)
 intro g1 L n;have L:IsZip g1 z j h .ellipsis:=L;apply wpAny_bind;simp only[List.zipIdx_cons,List.zipIdx_nil,List.forIn_cons,List.forIn_nil];apply wpAny_bind;apply wpAny_bind;apply wpAny_onRaise;apply wpAny_bind (m:=Builtin.SmallTypes.nextOf (.ref r))
 refine next_item (y.one.stay λo e=>n.extBut _ _ d.z_i1 e) (ha.stay λo e=>n.extBut _ _ S.1 e) hx λg2 n1 u=>?_
 apply wpAny_pure;have V:IsPair g2 h u0 N:=u.extBut _ _ d.to_i1 (n.extBut _ _ d.z_to o0);apply wpAny_bind;apply wpAny_seqItems V rfl;apply wpAny_bind;apply wpAny_updateSeq_pair V;intro g3 R B;have R:IsPair g3 h x N:=R;apply wpAny_bind;apply wpAny_letGo;apply wpAny_pure;apply wpAny_bind;apply wpAny_bind;apply wpAny_onRaise;apply wpAny_bind (m:=Builtin.SmallTypes.nextOf (.ref t))
 refine next_item (y.two.stay λo e=>B.extBut _ _ d.to_i2.symm (u.extBut _ _ d.i1_i2.symm (n.extBut _ _ d.z_i2 e))) (hb.stay λo e=>B.extBut _ _ I.2.2.1 (u.extBut _ _ I.2.2.2.1 (n.extBut _ _ I.1 e))) O λg4 n2 D=>?_
 apply wpAny_pure;have U:IsPair g4 h x N:=D.extBut _ _ d.to_i2 R;apply wpAny_bind;apply wpAny_seqItems U rfl;apply wpAny_bind;apply wpAny_updateSeq_pair U;intro i K F;have K:IsPair i h x x':=K;apply wpAny_bind;apply wpAny_letGo;apply wpAny_pure;apply wpAny_pure;apply wpAny_bind;apply wpAny_seqItems K rfl;apply wpAny_bind
 refine wpAny_newTuple ?_
 have W:i.objs.size=s.heap.objs.size:=by rw[F.1,D.1,B.1,u.1,n.1]
 have l:∀c o,c≠z->c≠h->c≠r->c≠t->s.heap.get? c=some o->i.get? c=some o:=λc o p1 T p3 p4 e=>F.extBut _ _ T (D.extBut _ _ p4 (B.extBut _ _ T (u.extBut _ _ p3 (n.extBut _ _ p1 e))))
 have Y:IsZip i z j h .ellipsis:=F.extBut _ _ d.z_to.symm (D.extBut _ _ d.z_i2.symm (B.extBut _ _ d.z_to.symm (u.extBut _ _ d.z_i1.symm L)))
 have m1:ItAt t1 i r a (k+1):=n1.stay λo e=>F.extBut _ _ d.to_i1.symm (D.extBut _ _ d.i1_i2 (B.extBut _ _ d.to_i1.symm e))
 have m2:ItAt t2 i t b (k+1):=n2.stay λo e=>F.extBut _ _ d.to_i2.symm e
 apply wpAny_bind (m:=Builtin.SmallTypes.ownedTupleHandOut (.ref z) (.ref i.objs.size));unfold Builtin.SmallTypes.ownedTupleHandOut;have z6:IsZip (i.push { cls:=.type "tuple",data:=.seq #[x,x'] }) z j h .ellipsis:=Heap.get?_push_of_some _ Y;apply wpAny_bind
 apply wpAny_setField_rec z6 (by simp)
 intro g7 M X;have M:IsZip g7 z j h (rawInt i.objs.size):=M
 apply wpAny_setField_rec M (by simp)
 intro H J Z;have J:IsZip H z j h (rawInt i.objs.size):=J
 have g:∀c o,c≠z->i.get? c=some o->H.get? c=some o:=λc o p e=>Z.extBut _ _ p (X.extBut _ _ p (Heap.get?_push_of_some _ e))
 have G:z<i.objs.size:=Heap.lt_size Y;have C:IsPair H i.objs.size x x':=Z.extBut _ _ (Nat.ne_of_gt G) (X.extBut _ _ (Nat.ne_of_gt G) (Heap.get?_push_size _ rfl));rw[W]at J C;apply wpAny_pure
 refine⟨_,rfl,?_⟩
 show Q (.ref i.objs.size) _
 rw[W]
 refine q H ⟨J,g _ _ d.z_ti (l _ _ d.z_ti d.ti_to d.ti_i1 d.ti_i2 y.ins),⟨x,x',g _ _ d.z_to K⟩,m1.stay λo e=>g _ _ d.z_i1 e,m2.stay λo e=>g _ _ d.z_i2 e⟩ C λc o p e=>?_
 simp at p
 exact g c o p.1 (l c o p.1 p.2.2.1 p.2.2.2.1 p.2.2.2.2 e)
theorem A8o (f:A.handled=none) (d:zB z l j v C a b) (y:Ag3 s.heap t1 t2 z l j v C a b .none k)
 (ha:SqA t1 s.heap a xs) (hb:SqA t2 s.heap b ys) (hx:xs[k]?=none\/ys[k]?=none)
 (q:∀h' e,(∀c o,c∉[z,l,j,v,C]->s.heap.get? c=some o->h'.get? c=some o)->(∃o,h'.get? e=some o/\o.cls=.type "StopIteration")->E (.ref e) { s with heap:=h' }) :
 wpAny (model P w) A (Builtin.«zip.__next__» ⟨[.ref z],[]⟩) F E s:=by
 obtain⟨T,V,S⟩:=y.outs;have I:=d.na;have B:=d.nb;simp only[List.mem_cons,List.not_mem_nil,or_false,not_or]at I B;apply wpAny_bind (m:=field (.ref z) 2);apply wpAny_field y.zip rfl (x:=.bool false) rfl;apply wpAny_bind (m:=field (.ref z) 3);apply wpAny_field y.zip rfl (x:=.ref l) rfl;apply wpAny_bind;apply wpAny_seqItems y.ins rfl;apply wpAny_bind (m:=Builtin.SmallTypes.ownedTupleIsFree (.ref z));unfold Builtin.SmallTypes.ownedTupleIsFree;apply wpAny_bind;apply wpAny_field y.zip rfl (x:=.none) rfl;apply wpAny_pure;simp only[if_true];apply wpAny_bind;apply wpAny_rule;apply wpAny_bind;apply wpAny_field y.zip rfl (x:=.ref j) rfl;apply wpAny_bind
 apply wpAny_setField_rec y.zip (by simp)
 intro U u g;have u:IsZip U z l j .ellipsis:=u;apply wpAny_bind;simp only[List.zipIdx_cons,List.zipIdx_nil,List.forIn_cons,List.forIn_nil];apply wpAny_bind;apply wpAny_bind;apply wpAny_onRaise;apply wpAny_bind (m:=Builtin.SmallTypes.nextOf (.ref v))
 cases e1:xs[k]? with
 | none =>
  refine next_end f (y.one.stay λo e=>g.extBut _ _ d.z_i1 e) (ha.stay λo e=>g.extBut _ _ I.1 e) e1 λH x i K=>?_
  obtain⟨D,r,t⟩:=K;have Q:IsZip H z l j .ellipsis:=i _ _ d.z_i1.symm u
  have G:x≠z:=λe=>by subst e;rw[Q]at r;cases r;simp at t
  apply wpAny_setField_rec Q (by simp)
  intro N _ n
  refine q N x (λc o p e=>?_) ⟨D,n.extBut _ _ G r,t⟩
  simp only[List.mem_cons,List.not_mem_nil,or_false,not_or]at p;exact n.extBut _ _ p.1 (i _ _ p.2.2.2.1 (g.extBut _ _ p.1 e))
 | some x =>
  have Y:ys[k]?=none:=by
   rcases hx with h | h
   ·rw[e1]at h;cases h
   ·exact h
  refine next_item (y.one.stay λo e=>g.extBut _ _ d.z_i1 e) (ha.stay λo e=>g.extBut _ _ I.1 e) e1 λH n1 i=>?_
  apply wpAny_pure;have O:IsPair H j T V:=i.extBut _ _ d.to_i1 (g.extBut _ _ d.z_to S);apply wpAny_bind;apply wpAny_seqItems O rfl;apply wpAny_bind;apply wpAny_updateSeq_pair O;intro N Z n;apply wpAny_bind;apply wpAny_letGo;apply wpAny_pure;apply wpAny_bind;apply wpAny_bind;apply wpAny_onRaise;apply wpAny_bind (m:=Builtin.SmallTypes.nextOf (.ref C))
  refine next_end f (y.two.stay λo e=>n.extBut _ _ d.to_i2.symm (i.extBut _ _ d.i1_i2.symm (g.extBut _ _ d.z_i2 e))) (hb.stay λo e=>n.extBut _ _ B.2.2.1 (i.extBut _ _ B.2.2.2.1 (g.extBut _ _ B.1 e))) Y λW x M J=>?_
  obtain⟨D,r,t⟩:=J;have R:IsZip W z l j .ellipsis:=M _ _ d.z_i2.symm (n.extBut _ _ d.z_to.symm (i.extBut _ _ d.z_i1.symm u))
  have G:x≠z:=λe=>by subst e;rw[R]at r;cases r;simp at t
  apply wpAny_setField_rec R (by simp)
  intro X _ L
  refine q X x (λc o p e=>?_) ⟨D,L.extBut _ _ G r,t⟩
  simp only[List.mem_cons,List.not_mem_nil,or_false,not_or]at p;exact L.extBut _ _ p.1 (M _ _ p.2.2.2.2 (n.extBut _ _ p.2.2.1 (i.extBut _ _ p.2.2.2.1 (g.extBut _ _ p.1 e))))
end
section
variable {X:Cx}{pins:List (Addr×Obj)}{σ:St}{H:Hp}{s:Shared}{h':Heap}
theorem Inv.turnLay {ch:List Addr}{p:Addr}{o:HO}{t':Nat}(I:Inv X pins σ H s)(hf:∀b∈ch,Lr X pins H b)(k:∀b u,b∉ch->s.heap.get? b=some u->h'.get? b=some u)(hp:s.heap.objs.size<=p)(w:z9 X.prog X.w (upd H p o) h' p o) :
 Inv X pins σ (upd H p o) { s with heap:=h',toks:=t' }:=by
 have g:H p=none:=I.hok.fresh hp
 have t:∀b u,H b=some u->b∉ch:=λb u e z=>by rw[(hf b z).1]at e;grind
 have d:∀b u,H b=some u->b≠p:=λb u e=>Bd e g
 have h:∀b u,s.heap.get? b=some u->b≠p:=λb u e z=>absurd (Heap.lt_size e) (by simp_all)
 refine I.step (g':=s.gens) (d':=s.drawn) (ch:=ch) (λb f=>?_) (λb u _ _ a e _=>k b u a e) (λb u _ _ a e _=>⟨u.slots,k b u a e⟩) (λb u _ e n=>?_) (λb u a e=>⟨u,k b u a e⟩)
  (λb i e=>?_) (λb o u e=>?_) (λb B e=>?_) (λm x=>?_) (λb u e=>?_) I.bare
 ·obtain⟨F,G,J,C,D,E⟩:=hf b f
  grind
 ·rw[Ag (h b u e)];grind
 ·rw[Ag (d b _ e)];grind
 ·rw[Ag (d b _ e)];omega
 ·rw[Ag (d b _ e)];grind
 ·obtain⟨j,y,A,l,r⟩:=x
  exact⟨j,y,A,k _ _ (λz=>(hf _ z).2.1 rfl) l,r⟩
 ·by_cases f:b=p
  ·subst f;rw[Ax]at e;grind
  ·rw[Ag f]at e
   refine (I.hok b u e).stay (λc v a q=>k c v ?_ q) λc q=>by rw[Ag (d c _ q)];grind λc i q=>by rw[Ag (d c _ q)];grind λc j i q=>by rw[Ag (d c _ q)];grind
   grind
theorem Inv.turnL {ch:List Addr}{t':Nat}(I:Inv X pins σ H s)(hf:∀b∈ch,Lr X pins H b)(k:∀b u,b∉ch->s.heap.get? b=some u->h'.get? b=some u):Inv X pins σ H { s with heap:=h',toks:=t' }:=by
 have g:∀b u,H b=some u->b∉ch:=λb u e z=>by rw[(hf b z).1]at e;grind
 refine I.step (λb f=>?_) (λb u _ _ a e _=>k b u a e) (λb u _ _ a e _=>⟨u.slots,k b u a e⟩) (λb u _ e n=>n) (λb u a e=>⟨u,k b u a e⟩)
  (λb i e=>e) (λb o u e=>e) (λb t e=>e) (λm j=>?_) (λb u e=>?_) I.bare
 ·obtain⟨A,B,C,w,x,y⟩:=hf b f
  grind
 ·obtain⟨h,l,p,d,r⟩:=j
  exact⟨h,l,p,k _ _ (λz=>(hf _ z).2.1 rfl) d,r⟩
 ·refine (I.hok b u e).stay (λc v a q=>k c v ?_ q) (λc q=>q) λc i q=>q
  grind
end
def SqK (t:Bool)(H:Hp)(a:Addr)(xs:List V):Prop:=match t with
 | true=>H a=some (.tup xs)
 | false=>H a=some (.lst xs)
theorem SqK.one (x:SqK t H a xs) (y:SqK t H a ys):xs=ys:=by
 cases t
 ·have y:H a=some _:=y
  rw[x]at y;cases y;rfl
 ·have y:H a=some _:=y
  rw[x]at y;cases y;rfl
theorem SqK.some (x:SqK t H a xs):∃o,H a=some o:=by
 cases t
 ·exact⟨_,x⟩
 ·exact⟨_,x⟩
theorem SqK.its (I:Inv X pins d H s) (x:SqK t H a xs):∃b:List Value,Vals xs b/\SqA t s.heap a b.toArray:=by
 cases t
 ·obtain⟨b,c,p,_⟩:=I.list (SqL.of x)
  exact⟨b,c,p.isList⟩
 ·obtain⟨b,c,p,_⟩:=I.tuple (SqT.of x)
  exact⟨b,c,(show s.heap.IsTuple a _ from p)⟩
def Itz (t1 t2:Bool)(a b:Addr):It :=
 ⟨
  λi H=>∃xs ys x y,SqK t1 H a xs/\SqK t2 H b ys/\xs[i]?=some x/\ys[i]?=some y,
  λi H v H'=>∃p x y,v=.ref p/\H p=none/\H'=upd H p (.tup [x,y])/\(∀xs,SqK t1 H a xs->xs[i]?=some x)/\∀ys,SqK t2 H b ys->ys[i]?=some y,
  λi H=>∃xs ys,SqK t1 H a xs/\SqK t2 H b ys/\(xs.length<=i\/ys.length<=i)⟩
theorem A3m {P:Program}{w:World}{K:PySem.W.Frag}{t1 t2:Bool}{elts:List Expr}{kk:Nat}{pos:Pos}{z ti to i1 i2 a b:Addr}(nd:[z,ti,to,i1,i2].Nodup) :
 Turn P w K (.Tuple elts kk pos) (Itz t1 t2 a b) [z,ti,to,i1,i2] z (λi h=>Ag3 h t1 t2 z ti to i1 i2 a b .none i) where
 mem:=by simp
 obj:=λi h st c hc=>by
  simp only[List.mem_cons,List.not_mem_nil,or_false]at hc
  rcases hc with rfl | rfl | rfl | rfl | rfl
  ·exact⟨_,st.zip,λv e=>by cases e⟩
  ·exact⟨_,st.ins,λv e=>by cases e⟩
  ·obtain⟨u,v,e⟩:=st.outs;exact⟨_,e,λv e=>by cases e⟩
  ·obtain⟨o,e,q⟩:=st.one.obj;exact⟨o,e,λv e=>by rw[q]at e;cases e⟩
  ·obtain⟨o,e,q⟩:=st.two.obj;exact⟨o,e,λv e=>by rw[q]at e;cases e⟩
 keep:=λi h h' st k=>by
  obtain⟨u,v,e⟩:=st.outs
  exact⟨k z (by simp) _ st.zip,k ti (by simp) _ st.ins,⟨u,v,k to (by simp) _ e⟩,st.one.stay λo e=>k i1 (by simp) o e,st.two.stay λo e=>k i2 (by simp) o e⟩
 item:=by
  intro X hP hw hK hc i pins s σ H E I hf st hg;subst hP hw hK;obtain⟨xs,ys,x,y,ha,hb,hx,hy⟩:=hg;obtain⟨its,rv,pa⟩:=ha.its I;obtain⟨jts,rw',pb⟩:=hb.its I;obtain⟨u,hu,ru⟩:=rv.get hx;obtain⟨v,hv,rv'⟩:=rw'.get hy
  have off:zB z ti to i1 i2 a b:=⟨nd,λm=>by (obtain⟨o,e⟩:=ha.some;rw[(hf a m).1]at e;cases e),λm=>by (obtain⟨o,e⟩:=hb.some;rw[(hf b m).1]at e;cases e)⟩
  have ty:s.TypeIs (.ref z) "zip" := ⟨_,st.zip,rfl⟩;unfold pyNext;apply wpAny_bind;apply wpAny_attempt
  refine wpAny_callSpecial?_slot (name:="__next__") ty F.slot_zip_next ?_
  refine wpAny_call_entry F.slot_zip_next ty F.entry_zip_next ?_ (F.args_zip_next_1 _)
  refine A7n off st pa pb (x:=u) (x':=v) (by simpa using hu) (by simpa using hv) λh1 z1 new kp=>?_
  refine wpAny_pure ⟨_,rfl,?_⟩
  apply wpAny_letOwnedTupleGo_zip z1.zip;intro h2 z2 sb;have nz:s.heap.objs.size≠z:=Nat.ne_of_gt (Heap.lt_size st.zip);have new2:IsPair h2 s.heap.objs.size u v:=sb.extBut _ _ nz new
  have ok:z9 X.prog X.w (upd H s.heap.objs.size (.tup [x,y])) h2 s.heap.objs.size (.tup [x,y]):=⟨(show 2<=sizeLine by decide),[u,v],.cons ru (.cons rv' .nil),⟨_,new2,rfl,⟨_,rfl⟩,rfl⟩⟩
  have I2:=I.turnLay (t':=s.toks) hf (h':=h2) (λc o m e=>sb.extBut _ _ (λe=>m (by simp[e])) (kp c o m e)) (Nat.le_refl _) ok
  obtain⟨u1,v1,e1⟩:=z1.outs;have zf:H s.heap.objs.size=none:=I.hok.fresh (Nat.le_refl _)
  refine⟨.ref s.heap.objs.size,_,I2,rfl,⟨_,x,y,rfl,zf,rfl,λxs' h=>?_,λys' h=>?_⟩,?_,λc hc=>?_⟩
  ·rw[h.one ha];exact hx
  ·rw[h.one hb];exact hy
  ·exact⟨z2,sb.extBut _ _ off.z_ti z1.ins,⟨u1,v1,sb.extBut _ _ off.z_to e1⟩,z1.one.stay λo e=>sb.extBut _ _ off.z_i1 e,z1.two.stay λo e=>sb.extBut _ _ off.z_i2 e⟩
  ·have lt:c<s.heap.objs.size:=by
    simp only[List.mem_cons,List.not_mem_nil,or_false]at hc
    rcases hc with rfl | rfl | rfl | rfl | rfl
    ·exact Heap.lt_size st.zip
    ·exact Heap.lt_size st.ins
    ·obtain⟨_,_,e⟩:=st.outs;exact Heap.lt_size e
    ·obtain⟨o,e,q⟩:=st.one.obj;exact Heap.lt_size e
    ·obtain⟨o,e,q⟩:=st.two.obj;exact Heap.lt_size e
   rw[Ag (Nat.ne_of_lt lt)];exact(hf c hc).1
 done:=by
  intro X hP hw hK hc i pins s σ H E I hf st hg;subst hP hw hK;obtain⟨xs,ys,ha,hb,hl⟩:=hg;obtain⟨its,rv,pa⟩:=ha.its I;obtain⟨jts,rw',pb⟩:=hb.its I
  have off:zB z ti to i1 i2 a b:=⟨nd,λm=>by (obtain⟨o,e⟩:=ha.some;rw[(hf a m).1]at e;cases e),λm=>by (obtain⟨o,e⟩:=hb.some;rw[(hf b m).1]at e;cases e)⟩
  have ty:s.TypeIs (.ref z) "zip" := ⟨_,st.zip,rfl⟩;have l1:=rv.length;have l2:=rw'.length;unfold pyNext;apply wpAny_bind;apply wpAny_attempt
  refine wpAny_callSpecial?_slot (name:="__next__") ty F.slot_zip_next ?_
  refine wpAny_call_entry F.slot_zip_next ty F.entry_zip_next ?_ (F.args_zip_next_1 _)
  refine A8o (I.ok.hd hc) off st pa pb (by simp;omega) λh1 e kp he=>?_
  obtain⟨o,e1,e2⟩:=he;apply wpAny_bind
  refine wpAny_isInstance (T := "StopIteration") (b:=true) ⟨o,e1,e2⟩ isSubtype_stop ?_
  exact wpAny_pure ⟨rfl,I.turnL (t':=s.toks) hf λc o m e=>kp c o m e⟩
 self:=λ_ _ _ _ _ st h=>wpAny_pyIter_zip st.zip h
section
variable {P:Program}{w:World}{A:Around}{E:Value->Shared->Prop}{s:Shared}
noncomputable abbrev itO (t:Bool) (u:Addr):Obj:={ cls:=.type (if t then "tuple_iterator" else "list_iterator"),data:=.fields #[.ref u,.int 0 0] }
abbrev zh1 (h:Heap)(t1:Bool)(a:Addr):Heap:=h.push (itO t1 a)
abbrev zh2 (h:Heap)(t1 t2:Bool)(a b:Addr):Heap:=(zh1 h t1 a).push (itO t2 b)
abbrev zh3 (h:Heap)(t1 t2:Bool)(a b:Addr):Heap:=(zh2 h t1 t2 a b).push { cls:=.type "tuple",data:=.seq #[.ref h.objs.size,.ref (zh1 h t1 a).objs.size] }
abbrev zh4 (h:Heap)(t1 t2:Bool)(a b:Addr):Heap:=(zh3 h t1 t2 a b).push { cls:=.type "tuple",data:=.seq #[.none,.none] }
abbrev zh5 (h:Heap)(t1 t2:Bool)(a b:Addr):Heap:=(zh4 h t1 t2 a b).push { cls:=.type "zip",data:=.fields #[.none,.bool false,.bool false,.ref (zh2 h t1 t2 a b).objs.size,.ref (zh3 h t1 t2 a b).objs.size] }
theorem A8d (t1 t2:Bool)(a b:Addr)(xs ys:Array Value) :
 Meets (Builtin.«zip.__new__» ⟨[.type "zip",.ref a,.ref b],[]⟩) (λ_ R s=>SqA t1 s.heap a xs/\SqA t2 s.heap b ys/\R (.ok (.ret (.ref (zh4 s.heap t1 t2 a b).objs.size))) { s with heap:=zh5 s.heap t1 t2 a b }) :=
 .of_wp λP w A R s h=>by
  obtain⟨e,g,d,c,f⟩:=s;obtain⟨k,l,h⟩:=h;have m:=sub_zip
  cases t1 <;> cases t2
  ·have j:Heap.IsList (Shared.heap ⟨e,g,d,c,f⟩) a xs:=k
   have i:Heap.IsList (Shared.heap ⟨e.push { cls:=.type "list_iterator",data:=.fields #[.ref a,.int 0 0] },g,d,c,f⟩) b ys:=Heap.IsList.push l _
   wp_walk using wpAny_pyIter_list j,wpAny_pyIter_list i
   exact⟨_,rfl,h⟩
  ·have j:Heap.IsList (Shared.heap ⟨e,g,d,c,f⟩) a xs:=k
   have i:Heap.IsTuple (Shared.heap ⟨e.push { cls:=.type "list_iterator",data:=.fields #[.ref a,.int 0 0] },g,d,c,f⟩) b ys:=Heap.IsTuple.push l _
   wp_walk using wpAny_pyIter_list j,wpAny_pyIter_tuple i
   exact⟨_,rfl,h⟩
  ·have j:Heap.IsTuple (Shared.heap ⟨e,g,d,c,f⟩) a xs:=k
   have i:Heap.IsList (Shared.heap ⟨e.push { cls:=.type "tuple_iterator",data:=.fields #[.ref a,.int 0 0] },g,d,c,f⟩) b ys:=Heap.IsList.push l _
   wp_walk using wpAny_pyIter_tuple j,wpAny_pyIter_list i
   exact⟨_,rfl,h⟩
  ·have j:Heap.IsTuple (Shared.heap ⟨e,g,d,c,f⟩) a xs:=k
   have i:Heap.IsTuple (Shared.heap ⟨e.push { cls:=.type "tuple_iterator",data:=.fields #[.ref a,.int 0 0] },g,d,c,f⟩) b ys:=Heap.IsTuple.push l _
   wp_walk using wpAny_pyIter_tuple j,wpAny_pyIter_tuple i
   exact⟨_,rfl,h⟩
theorem Am7 (e:h.get? j=some (itO t u)):ItAt t h j u 0:=by
 cases t
 ·exact⟨_,e,rfl,rfl⟩
 ·exact⟨_,e,rfl,rfl⟩
theorem Aq1 (t:SqA t1 s.heap a xs) (u:SqA t2 s.heap b ys)
 (q:∀h',Ag3 h' t1 t2 (s.heap.objs.size+4) (s.heap.objs.size+2) (s.heap.objs.size+3) s.heap.objs.size (s.heap.objs.size+1) a b .none 0->(∀c o,s.heap.get? c=some o->h'.get? c=some o)->Q (.ref (s.heap.objs.size+4)) { s with heap:=h' }) :
 wpAny (model P w) A (call (.type "zip") [.ref a,.ref b]) Q E s:=by
 apply callType_new F.called_zip (by decide) (F.typeCall_zip_2 _ _) (F.newCall_zip_2 _ _) (λo=>F.args_object_init_3 o _ _) F.entry_zip_new (A8d t1 t2 a b xs ys)
 refine⟨t,u,?_⟩
 have i:(zh1 s.heap t1 a).objs.size=s.heap.objs.size+1:=Heap.size_push ..
 have g:(zh2 s.heap t1 t2 a b).objs.size=s.heap.objs.size+2:=by rw[Heap.size_push,i]
 have f:(zh3 s.heap t1 t2 a b).objs.size=s.heap.objs.size+3:=by rw[Heap.size_push,g]
 have k:(zh4 s.heap t1 t2 a b).objs.size=s.heap.objs.size+4:=by rw[Heap.size_push,f]
 have d:=λ{h:Heap} {c:Addr} {o:Obj} (n:Obj) (e:h.get? c=some o)=>Heap.get?_push_of_some n e
 have j:(zh5 s.heap t1 t2 a b).get? (zh4 s.heap t1 t2 a b).objs.size=some _:=Heap.get?_push_size _ rfl;have m:(zh5 s.heap t1 t2 a b).get? (zh3 s.heap t1 t2 a b).objs.size=some _:=d _ (Heap.get?_push_size _ rfl);have l:(zh5 s.heap t1 t2 a b).get? (zh2 s.heap t1 t2 a b).objs.size=some _:=d _ (d _ (Heap.get?_push_size _ rfl));have p:(zh5 s.heap t1 t2 a b).get? (zh1 s.heap t1 a).objs.size=some _:=d _ (d _ (d _ (Heap.get?_push_size _ rfl)));have r:(zh5 s.heap t1 t2 a b).get? s.heap.objs.size=some _:=d _ (d _ (d _ (d _ (Heap.get?_push_size _ rfl))));rw[g,f,k]at j;rw[i,g]at l;rw[f]at m;rw[i]at p;rw[k]
 exact⟨⟨_,j,rfl⟩,q _ ⟨j,l,⟨_,_,m⟩,Am7 r,Am7 p⟩ λc o e=>d _ (d _ (d _ (d _ (d _ e))))⟩
end
theorem A0k:bootBuiltins "zip" = some (.type "zip"):=by decide +kernel
section
variable {X:Cx}
def B1c (ta:TA):TI:=λσ H R=>ta σ H λvs H1=>∃a b,vs=[.ref a,.ref b]/\∃t1 t2 xs ys,SqK t1 H1 a xs/\SqK t2 H1 b ys/\R (Itz t1 t2 a b) H1
theorem A3x {p j e:Pos}{f:List Expr}{t:Nat}(hg:Gl X "zip") (hm:X.mg "zip" = none) (ha:QA X [a,b] m) (hs1:isStar a=false:=by rfl) (hs2:isStar b=false:=by rfl) :
 QI X (.Tuple f t e) (.Call (.Name "zip" p) [a,b] [] j) (B1c m):=by
 refine⟨?_⟩
 intro l s σ H R I h;have i:=Hm (es:=[b]) (env:=X.env) hs1
 refine Call_ (My I hg hm A0k (PyProof.Rows.callWith_type1 (thn (ha.1 _ _ s _ H _ I h) λus d ⟨vs,r,g,u,v⟩=>?_) i (by rw[(Hm (es:=[]) (env:=X.env) hs2)];rfl)))
 obtain⟨a',b',rfl,t1,t2,xs,ys,y,o,q⟩:=v;obtain⟨z,A,rfl,B,x⟩:=Vals.two u
 cases (show z=Value.ref _ from B)
 cases (show A=Value.ref _ from x)
 obtain⟨C,rv,w⟩:=y.its g;obtain⟨E,F,D⟩:=o.its g
 refine Aq1 w D λh' n G=>?_
 apply wpAny_pyIter_zip n.zip
 have J:[d.heap.objs.size+4,d.heap.objs.size+2,d.heap.objs.size+3,d.heap.objs.size,d.heap.objs.size+1].Nodup:=by simp
 refine⟨_,_,_,_,r,rfl,g.kept G,A3m J,n,λc hc=>?_,q⟩
 have k:d.heap.objs.size<=c:=by
  grind
 exact g.fpOk k (g.hok.fresh k)
end
def Bk7:R2:=λx y H Q=>∃a b xs ys,x=.ref a/\y=.ref b/\H a=some (.tup xs)/\H b=some (.tup ys)/\xs.length+ys.length<=sizeLine/\∀p H',Same H H'->H' p=some (.tup (xs++ys))->Q (.ref p) H'
section
variable {X:Cx}
theorem Ca (h:H p=none) (o:HO):Same H (upd H p o):=λb u e=>by rw[Ag (Bd e h)];grind
theorem Bc9:OpR X (binaryOp .Add) Bk7:=by
 intro d s σ H x y v u Q I i f h;obtain⟨a,b,g,E,rfl,rfl,j,c,n,q⟩:=h
 by_cases e:g=[]
 ·cases i
  cases f
  subst e;obtain⟨o,r,t,_⟩:=I.tuple (SqT.of j);obtain⟨w,r2,A,_⟩:=I.tuple (SqT.of c);have C := r.nil_iff.mpr rfl;subst C;obtain⟨⟨c1,d1,D,s1⟩,k,F,n1,z⟩:=id t;obtain⟨⟨c2,d2,B,s2⟩,l,J,n2,G⟩:=id A;subst F z J G
  exact concat_meets ⟨_,k,rfl⟩ ⟨_,l,rfl⟩ noFill_tuple_add seq_tuple_add PySem.F.slot_tuple_add PySem.F.entry_tuple_add (PySem.F.args_tuple_add_2 _ _)
   (tuple_addW0 a b _ _ _ _ _ _ _ _ (by simp)) ⟨k,l,⟨.ref b,H,I,rfl,q b H (λ_ _ e=>e) c⟩⟩
 ·refine A9k _ s _ H _ _ v u Q I i f ⟨a,b,g,E,rfl,rfl,SqT.of j,SqT.of c,e,n,λK=>?_,λK p m=>?_⟩
  ·exact q a H (λ_ _ e=>e) (by simp_all)
  ·exact q p _ (Ca m _) Ax
end
section
variable {P:Program}{w:World}{A:Around}{E:Value->Shared->Prop}{s:Shared}
theorem Bn7 (quiet:A.handled=none)(t:Bool)(j u:Addr)(ne:u≠j)(vs:Array Value):Draws P w A j [j,u] vs.size (λi v=>vs[i]?=some v) (λi h=>ItAt t h j u i/\SqA t h u vs) where
 live:=λi h x=>let ⟨o,e,_⟩:=x.1.obj; ⟨o,e⟩
 frame:=λi h h' x k=>⟨x.1.stay λo e=>k j (by simp) o e,x.2.stay λo e=>k u (by simp) o e⟩
 item:=λi s Q E hi x q=>next_item x.1 x.2 (x:=vs[i]) (by simp[hi]) λh' a b=>q _ h' s.toks (by simp[hi]) ⟨a,x.2.stay λo e=>b.extBut _ _ ne e⟩ b
 done:=λs Q E x q=>next_end quiet x.1 x.2 (by simp) q
theorem An2 (u:Addr)(vs:Array Value)(n:Nat)(b:Option Addr)(l:Array (Option Value)) :
 Meets (Builtin.«enumerate.__new__» ⟨[.type "enumerate",.ref u],[]⟩) (λ_ R s=>s.heap.get? u=some { cls:=.type "tuple",dict:=b,data:=.seq vs n,slots:=l } /\
  R (.ok (.ret (.ref (s.heap.push (itO true u)).objs.size))) { s with heap:=(s.heap.push (itO true u)).push { cls:=.type "enumerate",data:=.fields #[.none,.bool false,.ref s.heap.objs.size,rawInt 0,.none,.none] } }) :=
 .of_wp λP w A R s h=>by
  obtain⟨i,g,d,f,k⟩:=s;obtain⟨e,h⟩:=h;have j:=sub_enumerate;have a:Heap.IsTuple (Shared.heap ⟨i,g,d,f,k⟩) u vs:=⟨_,e,rfl,n,rfl⟩
  wp_walk using AutoSeq1.wpAny_loadPart' e
  refine wpAny_stack_any λm=>wpAny_pure ?_
  split
  ·rename_i c _ _ _ _ _
   cases (c==Value.type "enumerate")
   ·wp_walk using AutoSeq1.wpAny_loadPart' e,wpAny_pyIter_tuple a
    exact⟨_,rfl,h⟩
   ·wp_walk using AutoSeq1.wpAny_loadPart' e,wpAny_pyIter_tuple a
    exact⟨_,rfl,h⟩
  ·wp_walk using AutoSeq1.wpAny_loadPart' e,wpAny_pyIter_tuple a
   exact⟨_,rfl,h⟩
theorem Ai8 (p:SqA t s.heap u vs)
 (q:∀f,IsEnum f (s.heap.objs.size+1) s.heap.objs.size 0 .none->ItAt t f s.heap.objs.size u 0->(∀c o,s.heap.get? c=some o->f.get? c=some o)->Q (.ref (s.heap.objs.size+1)) { s with heap:=f }) :
 wpAny (model P w) A (call (.type "enumerate") [.ref u]) Q E s:=by
 cases t
 ·exact call_enumerate_list p λf a b c d=>q f a b d
 ·obtain⟨⟨c,i,m,l⟩,e,k,n,g⟩:=p
  simp only at k g;subst k g
  apply callType_new F.called_enumerate (by decide) (F.typeCall_enumerate_1 _) (F.newCall_enumerate_1 _) (λo=>F.args_object_init_2 o _) F.entry_enumerate_new (An2 u vs n i l)
  refine⟨e,?_⟩
  have j:(s.heap.push (itO true u)).objs.size=s.heap.objs.size+1:=Heap.size_push ..;have h:IsEnum ((s.heap.push (itO true u)).push { cls:=.type "enumerate",data:=.fields #[.none,.bool false,.ref s.heap.objs.size,rawInt 0,.none,.none] }) (s.heap.push (itO _ u)).objs.size _ 0 _:=Heap.get?_push_size _ rfl;rw[j]at h;rw[j]
  exact⟨⟨_,h,rfl⟩,q _ h (Am7 (Heap.get?_push_of_some _ (Heap.get?_push_size _ rfl))) λc o x=>Heap.get?_push_of_some _ (Heap.get?_push_of_some _ x)⟩
end
def Ite (t:Bool)(a:Addr):It :=
 ⟨
  λi H=>∃xs x,SqK t H a xs/\xs[i]?=some x,
  λi H v H'=>∃p x,v=.ref p/\H p=none/\H'=upd H p (.tup [.int i,x])/\∀xs,SqK t H a xs->xs[i]?=some x,
  λi H=>∃xs,SqK t H a xs/\xs.length<=i⟩
theorem A2n {P:Program}{w:World}{K:PySem.W.Frag}{t:Bool}{elts:List Expr}{kk:Nat}{pos:Pos}{e j a:Addr}(ne:e≠j) :
 Turn P w K (.Tuple elts kk pos) (Ite t a) [e,j] e (λi h=>(∃old,IsEnum h e j i old)/\ItAt t h j a i) where
 mem:=by simp
 obj:=λi h st c hc=>by
  simp only[List.mem_cons,List.not_mem_nil,or_false]at hc
  rcases hc with rfl | rfl
  ·obtain⟨old,q⟩:=st.1;exact⟨_,q,λv e=>by cases e⟩
  ·obtain⟨o,e,q⟩:=st.2.obj;exact⟨o,e,λv e=>by rw[q]at e;cases e⟩
 keep:=λi h h' st k=>by
  obtain⟨⟨old,q⟩,r⟩:=st
  exact⟨⟨old,k e (by simp) _ q⟩,r.stay λo e=>k j (by simp) o e⟩
 item:=by
  intro X hP hw hK hc i pins s σ H E I hf st hg;subst hP hw hK;obtain⟨xs,x,ha,hx⟩:=hg;obtain⟨⟨old,en⟩,it⟩:=st;obtain⟨its,rv,pa⟩:=ha.its I;obtain⟨u,hu,ru⟩:=rv.get hx
  have off:∀c∈[e,j],a≠c:=λc m z=>by obtain⟨o,q⟩:=ha.some;rw[z,(hf c m).1]at q;cases q
  have dr:=Bn7 (P:=X.prog) (w:=X.w) (A:=X.A.in1) (I.ok.hd hc) t j a (off j (by simp)) its.toArray
  have li:i<its.toArray.size:=by simpa using (List.getElem?_eq_some_iff.mp hu).1
  refine wpAny_pyNext_enum_itemD dr en ⟨it,pa⟩ li ne (by simp;exact⟨ne,λz=>off e (by simp) z.symm⟩) λu' h1 tk pu ou st1 new _ kp=>?_
  have eu:u'=u:=by
   have pu:its.toArray[i]?=some u':=pu;rw[List.getElem?_toArray,hu]at pu;cases pu;rfl
  subst eu
  refine⟨_,rfl,?_⟩
  apply wpAny_letOwnedTupleGo_enum ou;intro h2 en2 sb
  have lt:∀c∈[e,j],c<s.heap.objs.size:=λc m=>by
   simp only[List.mem_cons,List.not_mem_nil,or_false]at m
   rcases m with rfl | rfl
   ·exact Heap.lt_size en
   ·obtain⟨o,e,_⟩:=it.obj;exact Heap.lt_size e
  have new2:h2.get? s.heap.objs.size=some { cls:=.type "tuple",data:=.seq #[.int i tk,u'] }:=sb.extBut _ _ (Nat.ne_of_gt (lt e (by simp))) new
  have ok:z9 X.prog X.w (upd H s.heap.objs.size (.tup [.int i,x])) h2 s.heap.objs.size (.tup [.int i,x]):=⟨(show 2<=sizeLine by decide),[.int i tk,u'],.cons ⟨tk,rfl⟩ (.cons ru .nil),⟨_,new2,rfl,⟨_,rfl⟩,rfl⟩⟩
  have I2:=I.turnLay (t':=tk+1) hf (h':=h2) (λc o m q=>sb.extBut _ _ (λz=>m (by simp[z])) (kp c o (λz=>m (by simp[z])) (λz=>m (by simp[z])) q)) (Nat.le_refl _) ok
  refine⟨.ref s.heap.objs.size,_,I2,rfl,⟨_,x,rfl,I.hok.fresh (Nat.le_refl _),rfl,λxs' h=>?_⟩,⟨⟨u',?_⟩,?_⟩,λc m=>?_⟩
  ·rw[h.one ha];exact hx
  ·have:IsEnum h2 e j ((i:Int)+1) u':=en2
   simpa using this
  ·exact st1.1.stay λo q=>sb.extBut _ _ (Ne.symm ne) q
  ·rw[Ag (Nat.ne_of_lt (lt c m))]
   exact(hf c m).1
 done:=by
  intro X hP hw hK hc i pins s σ H E I hf st hg;subst hP hw hK;obtain⟨xs,ha,hl⟩:=hg;obtain⟨⟨old,en⟩,it⟩:=st;obtain⟨its,rv,pa⟩:=ha.its I
  have off:∀c∈[e,j],a≠c:=λc m z=>by obtain⟨o,q⟩:=ha.some;rw[z,(hf c m).1]at q;cases q
  have ty:s.TypeIs (.ref e) "enumerate" := ⟨_,en,rfl⟩;have ln:=rv.length;unfold pyNext;apply wpAny_bind;apply wpAny_attempt
  refine wpAny_callSpecial?_slot (name:="__next__") ty F.slot_enumerate_next ?_
  refine wpAny_call_entry F.slot_enumerate_next ty F.entry_enumerate_next ?_ (F.args_enumerate_next_1 _)
  apply wpAny_bind (m:=field (.ref e) 2);apply wpAny_field en rfl (x:=.ref j) rfl;apply wpAny_bind
  refine next_end (I.ok.hd hc) it pa (by simp;omega) λh1 x kp hx=>?_
  obtain⟨o,e1,e2⟩:=hx;apply wpAny_bind
  refine wpAny_isInstance (T := "StopIteration") (b:=true) ⟨o,e1,e2⟩ isSubtype_stop ?_
  exact wpAny_pure ⟨rfl,I.turnL (t':=s.toks) hf λc o m q=>kp c o (λz=>m (by simp[z])) q⟩
 self:=λ_ _ _ _ _ st h=>let ⟨_,q⟩:=st.1;wpAny_pyIter_enum q h
theorem Ap7:bootBuiltins "enumerate" = some (.type "enumerate"):=by decide +kernel
section
variable {X:Cx}
def Bk3 (ta:TA):TI:=λσ H R=>ta σ H λvs H1=>∃a,vs=[.ref a]/\∃t xs,SqK t H1 a xs/\R (Ite t a) H1
theorem Bc5 (hg:Gl X "enumerate") (hm:X.mg "enumerate" = none) (ha:QA X [a] i) (hs1:isStar a=false:=by rfl) :
 QI X (.Tuple d v b) (.Call (.Name "enumerate" p) [a] [] f) (Bk3 i):=by
 refine⟨?_⟩
 intro j s σ H R I h
 refine Call_ (My I hg hm Ap7 (PyProof.Rows.callWith_type1 (thn (ha.1 _ _ s _ H _ I h) λus x ⟨vs,o,e,r,u⟩=>?_) (Hm (es:=[]) (env:=X.env) hs1) rfl))
 obtain⟨a',rfl,t,xs,l,q⟩:=u;obtain⟨w,rfl,m⟩:=vals1 r
 cases (show w=Value.ref _ from m)
 obtain⟨n,rv,y⟩:=l.its e
 refine Ai8 y λh' k z A=>?_
 apply wpAny_pyIter_enum k
 refine⟨_,_,_,_,o,rfl,e.kept A,A2n (Nat.ne_of_gt (Nat.lt_succ_self _)),⟨⟨_,k⟩,z⟩,λc hc=>?_,q⟩
 have g:x.heap.objs.size<=c:=by
  grind
 exact e.fpOk g (e.hok.fresh g)
end
section
variable {X:Cx}{a b:Expr}{ta tb:TE}{pos:Pos}
def Bt5 (neg:Bool):R2:=λx y H Q=>∃d ds,Tr H d x/\(Tr H (.list ds) y\/Tr H (.tuple ds) y)/\Flat d/\PyData.canLayAll0 ds=true/\Q (.bl (if neg then !ds.any (λe=>PyData.eqv e d) else ds.any λe=>PyData.eqv e d)) H
theorem Im (hu:X.A.units+64<cLine)(ha:QE X a ta)(hb:QE X b tb)(hm:behindInMarks .NotIn b=false):QT X (.Compare a [.NotIn] [b] pos) (Tc (tOp (Bt5 true) ta tb)):=⟨M9 (Ay8 hu) ha.1 hb.1 hm⟩
end
end L2
set_option autoImplicit true
namespace L2
open PySem PySem.Spec PyProof.Rows
theorem Ai : QE X (.Constant (.int i) j a) (tC (.int i)) :=
 ⟨A5j ⟩
theorem Jc : QE X (.Constant (.bool b) j a) (tC (.bl b)) :=
 ⟨Bl6 ⟩
theorem Ot : QE X (.Constant .none j a) (tC .non) :=
 ⟨A6u ⟩
theorem Rg : QE X (.Constant (.str x) j a) (tC (.str x)) :=
 ⟨A5f ⟩
theorem Av2 (hg:Gl X x) (hm:X.mg x=some u) (r:RelV v u) (hd:(x==("__debug__" : Str))=false:=by decide):QE X (.Name x a) (tC v) :=
 ⟨Be1 (hg:=hg) (hm:=hm) (r:=r) (hd:=hd)⟩
theorem Cg {a:Pos}(hg:Gl X x) (hm:X.mg x=none) (hv:bootBuiltins x=some u) (r:RelV v u) (hn:x ≠ "__name__" := by decide) (hd:(x==("__debug__" : Str))=false:=by decide):QE X (.Name x a) (tC v) :=
 ⟨Ba1 (hg:=hg) (hm:=hm) (hv:=hv) (r:=r) (hn:=hn) (hd:=hd)⟩
theorem R9 (h:QE X a t):QE X (.BoolOp op [a] pos) t :=
 ⟨Bx3 (h:=h.get)⟩
theorem Bk : QSs X [] A3g :=
 ⟨A9e ⟩
theorem Zm (a:X.K=Kq) {k:Nat} (hc:X.calm=true) (h:QGs X es t) (hn:(assignEach es X.env).length=n:=by rfl) (hst:(assignEach es X.env).findIdx? (·.1)=none:=by rfl):QG X (.Tuple es k pos) (A6l Kq n t):=by
 subst a;exact⟨Bt1 (hc:=hc) (h:=h.get) (hn:=hn) (hst:=hst)⟩
theorem Hg (a:X.K=Kq) (hl:QE X l b):QI X c l (Bt8 Kq b):=by
 subst a;exact⟨Bv4 (hl:=hl.get)⟩
theorem Ae : QA X [] Fp :=
 ⟨Ri ⟩
theorem Af (ha:QE X e te)(hr:QA X es t)(hs:isStar e=false:=by rfl):QA X (e::es) (Cj te t) :=
 ⟨A6r (ha:=ha.get) (hr:=hr.get) (hs:=hs)⟩
theorem Ew (F:FnOk X.prog X.w X.K X.mg X.base CX k f fd ps sp)(hr:Room k X.A)(hg:Gl X x)(hm:X.mg x=some (.ref f))(hk:PySem.W.keepIn X.K (.ref f)=true)(hb:Binds X.K fd ps ds)(hd:Vals dvs ds)(hx:Hi CX X E)(ha:QA X (e::es) t)(hdb:(x==("__debug__" : Str))=false:=by decide) (hn:noStar (e::es)=true:=by rfl):QE X (.Call (.Name x p) (e::es) [] pos) (Km sp dvs E t) :=
 ⟨A8k (F:=F) (hr:=hr) (hg:=hg) (hm:=hm) (hk:=hk) (hb:=hb) (hd:=hd) (hx:=hx) (ha:=ha.get) (hdb:=hdb) (hn:=hn)⟩
theorem At7 (a:X.K=Kq) (pa:PlainAttrs T) (slot:Slot T name idn) (hty:typeOf (.builtin idn)=pure (.type "method_descriptor")) (hm:MtR X idn r) (ho:QE X o to) (ha:QA X (e::es) t) (hbase:attributeBase o name X.env (eval o X.env)=eval o X.env:=by rfl) (hfew:((backTo cpos (starEach (e::es) X.env)).all (λx=>!x.1)&&(backToKw cpos (keywordEach [] X.env)).all (λx=>x.1.isSome)
 && decide ((e::es).length+([]:List Keyword).length+(if ([]:List Keyword).isEmpty then 0 else 1)<30))=true:=by rfl) (hline:(apos.endLine==cpos.line)=true:=by rfl) (hs:starEach (e::es) X.env=(false,eval e X.env)::starEach es X.env:=by rfl) (hplain:(backTo cpos (starEach es X.env)).any (·.1)=false:=by rfl):QE X (.Call (.Attribute o name apos) (e::es) [] cpos) (tBM Kq T r to t):=by
 subst a;exact⟨Bk9 (pa:=pa) (slot:=slot) (hty:=hty) (hm:=hm) (ho:=ho.get) (ha:=ha.get) (hbase:=hbase) (hfew:=hfew) (hline:=hline) (hs:=hs) (hplain:=hplain)⟩
theorem Rm (b:X.K=Kq) (ho:QE X a ta) (hv:QE X e te) (hbase:attributeBase a "append" X.env (eval a X.env)=eval a X.env:=by rfl) (hfew:((backTo cpos (starEach [e] X.env)).all (λx=>!x.1)&&(backToKw cpos (keywordEach [] X.env)).all (λx=>x.1.isSome)
 && decide ([e].length+([]:List Keyword).length+(if ([]:List Keyword).isEmpty then 0 else 1)<30))=true:=by rfl) (hline:(apos.endLine==cpos.line)=true:=by rfl) (hns:isStar e=false:=by rfl):QE X (.Call (.Attribute a "append" apos) [e] [] cpos) (tBM Kq "list" rAppF ta (Cj te Fp)):=by
 subst b;exact⟨A1j (ho:=ho.get) (hv:=hv.get) (hbase:=hbase) (hfew:=hfew) (hline:=hline) (hns:=hns)⟩
theorem A9j : QTs X [] A9u :=
 ⟨Bd8 ⟩
theorem qtN:∀a b c d e,QTs (Bu X N' scope a b c d e) [] A9u:=λ_ _ _ _ _=>A9j
theorem Aw4 (h:QT X c t):QTs X [c] t :=
 ⟨Bf2 (h:=h.get)⟩
theorem Jz (L:Gh X N' idx scope)(hc:X.calm=true)(hi:QI X tg iter wi)(hg:∀d C b a c,QG (Bu X N' scope d C b a c) tg g)(ht:∀d C b a c,QTs (Bu X N' scope d C b a c) ifs tc)(he:∀d C b a c,QE (Bu X N' scope d C b a c) elt te)(hs:∀x,foldedSetIterable iter X.env x=pure x:=by intro _;rfl):QE X (.ListComp elt [⟨tg,iter,ifs,0⟩] scope pos) (tLC idx wi g tc te) :=
 ⟨B0s (L:=L) (hc:=hc) (hi:=hi.get) (hg:=λd C b a c=>(hg _ C _ _ _).get) (ht:=λd C b a c=>(ht _ C _ _ _).get) (he:=λd C b a c=>(he _ C _ _ _).get) (hs:=hs)⟩
theorem Pk {f d:Pos}(hN:X.N.Nodup) (hi':X.N[i]?=some y) (hy:Loc X.env.scope y) (L:Gh X N' idx scope) (hc:X.calm=true) (hi:QI X tg iter wi) (hg:∀e C b a c,QG (Bu X N' scope e C b a c) tg g) (ht:∀e C b a c,QTs (Bu X N' scope e C b a c) ifs tc) (he:∀e C b a c,QE (Bu X N' scope e C b a c) elt te) (hsw:swapsWith (.ListComp elt [⟨tg,iter,ifs,0⟩] scope pos) (some (.Name y f)) d.line X.env=pure true:=by rfl) (hf:X.fn y=true\/X.env.scope.names.lookup y=some .local:=by first | exact .inl rfl | exact .inr rfl | assumption) (hs:∀x,foldedSetIterable iter X.env x=pure x:=by intro _;rfl):QS X (.Assign [.Name y f] (.ListComp elt [⟨tg,iter,ifs,0⟩] scope pos) d) (An8 (tLC idx wi g tc te) (M4 i)) :=
 ⟨A4d (hN:=hN) (hi':=hi') (hy:=hy) (L:=L) (hc:=hc) (hi:=hi.get) (hg:=λe C b a c=>(hg _ C _ _ _).get) (ht:=λe C b a c=>(ht _ C _ _ _).get) (he:=λe C b a c=>(he _ C _ _ _).get) (hsw:=hsw) (hs:=hs)⟩
theorem Sy (a:X.K=Kq) (hgl:Gl X "abs") (hm:X.mg "abs" = none) (ha:QA X (e::es) t) (hns:noStar (e::es)=true:=by rfl):QE X (.Call (.Name "abs" p) (e::es) [] pos) (tCB (Od Kq) t):=by
 exact⟨Ac2 (hgl:=hgl) (hm:=hm) (ha:=ha.get) (hns:=hns)⟩
theorem Be (a:X.K=Kq) (hgl:Gl X "isinstance") (hm:X.mg "isinstance" = none) (ha:QA X (e::es) t) (hns:noStar (e::es)=true:=by rfl):QE X (.Call (.Name "isinstance" p) (e::es) [] pos) (tCB (Oq Kq) t):=by
 exact⟨Ae9 (hgl:=hgl) (hm:=hm) (ha:=ha.get) (hns:=hns)⟩
theorem Qh (a:X.K=Kq) (hgl:Gl X "isinstance") (hm:X.mg "isinstance" = none) (ha:QA X (e::es) t) (hns:noStar (e::es)=true:=by rfl):QE X (.Call (.Name "isinstance" p) (e::es) [] pos) (tCB (Ju Kq) t):=by
 exact⟨Za (hgl:=hgl) (hm:=hm) (ha:=ha.get) (hns:=hns)⟩
theorem Ga (a:X.K=Kq) (hc:X.calm=true) (hgl:Gl X "all") (hm:X.mg "all" = none) (ha:QA X (e::es) t) (hns:noStar (e::es)=true:=by rfl):QE X (.Call (.Name "all" p) (e::es) [] pos) (tCB (Mm Kq) t):=by
 subst a;exact⟨Aa0 (hc:=hc) (hgl:=hgl) (hm:=hm) (ha:=ha.get) (hns:=hns)⟩
theorem Ab4 (a:X.K=Kq) (hgl:Gl X "int") (hm:X.mg "int" = none) (ha:QA X (e::es) t) (hns:noStar (e::es)=true:=by rfl):QE X (.Call (.Name "int" p) (e::es) [] pos) (tCB (Ly Kq) t):=by
 exact⟨Z6 (hgl:=hgl) (hm:=hm) (ha:=ha.get) (hns:=hns)⟩
theorem By (a:X.K=Kq) (hgl:Gl X "tuple") (hm:X.mg "tuple" = none) (ha:QA X (e::es) t) (hns:noStar (e::es)=true:=by rfl):QE X (.Call (.Name "tuple" p) (e::es) [] pos) (tCB (Ig Kq) t):=by
 subst a;exact⟨Sd (hgl:=hgl) (hm:=hm) (ha:=ha.get) (hns:=hns)⟩
theorem Hw (a:X.K=Kq) (hgl:Gl X "list") (hm:X.mg "list" = none) (ha:QA X (e::es) t) (hns:noStar (e::es)=true:=by rfl):QE X (.Call (.Name "list" p) (e::es) [] pos) (tCB (Iu Kq) t):=by
 subst a;exact⟨Tj (hgl:=hgl) (hm:=hm) (ha:=ha.get) (hns:=hns)⟩
theorem Zi (a:X.K=Kq) (hc:X.calm=true) (hgl:Gl X "min") (hm:X.mg "min" = none) (ha:QA X (e::es) t) (hns:noStar (e::es)=true:=by rfl):QE X (.Call (.Name "min" p) (e::es) [] pos) (tCB (Mh Kq) t):=by
 exact⟨Ab7 (hc:=hc) (hgl:=hgl) (hm:=hm) (ha:=ha.get) (hns:=hns)⟩
theorem Ng (h:Qe es=some vs):QA X es (tK vs):=⟨Xk h⟩
theorem QW.qt (h:QW X e t):QT X e t:=⟨h.get.pt⟩
theorem qv (i:Nat) {a:Pos}(hN:X.N[i]?=some x:=by rfl) (hv:Vis X.env.scope x:=by first | exact Or.inl rfl | exact Or.inr (Or.inl rfl) | exact Or.inr (Or.inr rfl)) (hd:(x==("__debug__" : Str))=false:=by decide) (hcd:(x==("__classdict__" : Str))=false:=by decide):QE X (.Name x a) (Va i):=⟨A3q hN hv hd hcd⟩
end L2
namespace L2
open PySem
theorem Gu (h:QSs X st t) (k:t D a H):∃t,PSs X st t/\t D a H:=⟨t,h.get,k⟩
theorem Ti:Er "NoneType" "int" = some false:=by trivial
theorem Tn:Er "NoneType" "str" = some false:=by trivial
theorem Rk:Er "NoneType" "bool" = some false:=by trivial
theorem Q6:Er "NoneType" "list" = some false:=by trivial
theorem Qi:Er "NoneType" "tuple" = some false:=by trivial
theorem Af1:Er "bool" "int" = some true:=by trivial
theorem Ah1:Er "bool" "str" = some false:=by trivial
theorem Z2:Er "bool" "bool" = some true:=by trivial
theorem Z5:Er "bool" "list" = some false:=by trivial
theorem Wt:Er "bool" "tuple" = some false:=by trivial
theorem Ak7:Er "int" "int" = some true:=by trivial
theorem Ap2:Er "int" "str" = some false:=by trivial
theorem Ac8:Er "int" "bool" = some false:=by trivial
theorem Ai1:Er "int" "list" = some false:=by trivial
theorem Aa5:Er "int" "tuple" = some false:=by trivial
theorem Aq9:Er "str" "int" = some false:=by trivial
theorem Am6:Er "str" "str" = some true:=by trivial
theorem Aj4:Er "str" "bool" = some false:=by trivial
theorem Ae6:Er "str" "list" = some false:=by trivial
theorem Ab9:Er "str" "tuple" = some false:=by trivial
theorem Ai9:Er "list" "int" = some false:=by trivial
theorem Ad9:Er "list" "str" = some false:=by trivial
theorem Aa1:Er "list" "bool" = some false:=by trivial
theorem Zd:Er "list" "list" = some true:=by trivial
theorem Wj:Er "list" "tuple" = some false:=by trivial
theorem Aa6:Er "tuple" "int" = some false:=by trivial
theorem Y8:Er "tuple" "str" = some false:=by trivial
theorem Wl:Er "tuple" "bool" = some false:=by trivial
theorem Wm:Er "tuple" "list" = some false:=by trivial
theorem Ui:Er "tuple" "tuple" = some true:=by trivial
section
variable {H:Hp}{a:Addr}
theorem Bm2 (h:H a=some (.lst xs)):Ob H (.ref a)=some "list" := by simp only[Ob,h]
theorem Bu7 (h:H a=some (.tup xs)):Ob H (.ref a)=some "tuple" := by simp only[Ob,h]
theorem Bd9 (h:H a=some (.lst xs)):A0p H (.ref a)=some xs.length:=by simp only[A0p,h]
theorem Bi2 (h:H a=some (.tup xs)):A0p H (.ref a)=some xs.length:=by simp only[A0p,h]
end
abbrev g2 (K:PySem.W.Frag)(i j:Nat):TG:=A6l K 2 (Yk (M4 i) (Yk (M4 j) A3y))
theorem exc {R:Addr->Addr->List V->List V->Prop}{x y:Addr}:(∃a b xs ys,V.ref x=V.ref a/\V.ref y=V.ref b/\R a b xs ys)↔∃xs ys,R x y xs ys:=by
 constructor
 ·rintro⟨a,b,xs,ys,e1,e2,h⟩;cases e1;cases e2;exact⟨xs,ys,h⟩
 ·rintro⟨xs,ys,h⟩;exact⟨x,y,xs,ys,rfl,rfl,h⟩
mutual
noncomputable def noL:PyData->Bool
 | .none=>true
 | .bool _=>true
 | .int _=>true
 | .str _=>true
 | .tuple ds=>B1j ds
 | .list _=>false
 | .dict _=>false
noncomputable def B1j:List PyData->Bool
 | []=>true
 | d::r=>noL d&&B1j r
end
theorem TrL.got {H:Hp}:∀{ds:List PyData}{vs:List V}{k:Nat}{d:PyData},TrL H ds vs->ds[k]?=some d->∃v,vs[k]?=some v/\Tr H d v
 | [],_,k,d,h,e=>by simp at e
 | d::r,_,0,_,⟨v,_,rfl,q,_⟩,e=>by simp at e;subst e;exact⟨v,rfl,q⟩
 | d::r,_,k+1,_,⟨_,_,rfl,_,q⟩,e=>by simp at e;simpa using TrL.got q e
theorem TrL.app {H:Hp}:∀{ds es:List PyData}{vs us:List V},TrL H ds vs->TrL H es us->TrL H (ds++es) (vs++us)
 | [],es,_,us,h,q=>by cases (show _=[] from h);exact q
 | d::r,es,_,us,⟨v,vr,rfl,q1,q2⟩,q=>⟨v,vr++us,rfl,q1,TrL.app q2 q⟩
theorem TrL.one (h:Tr H d v):TrL H [d] [v]:=⟨v,[],rfl,h,rfl⟩
end L2
namespace L2
open PySem PySem.Spec PyProof.Rows
noncomputable def sgn (c:Nat):V:=.str ⟨#[c]⟩
def Its (x:Str):It:=⟨λi _=>i<x.cps.size,λi H v H'=>H'=H/\∃c,x.cps[i]?=some c/\v=sgn c,λi _=>i=x.cps.size⟩
def Bn1 (it:Addr)(ty:String)(x:Str)(t:Tok)(i:Nat)(h:Heap):Prop:=h.IsStrIter it ty x t i
theorem Ah4 {P:Program}{w:World}{K:PySem.W.Frag}{tg:Expr}{it:Addr}{ty:String}{x:Str}{t:Tok}
 (W:∀A':Around,A'.handled=none->Walks P w A' it [it] [it] x.cps.size (SignAt x) (Bn1 it ty x t))
 (hs:∀(A:Around) (i:Nat) (s:Shared) (Q:Value->Shared->Prop) (E:Value->Shared->Prop),Bn1 it ty x t i s.heap->Q (.ref it) s->wpAny (model P w) A (pyIter (.ref it)) Q E s)
 (hn:["enumerate", "zip", "dict_itemiterator", "dict_reverseitemiterator", "odict_iterator", "itertools.zip_longest", "itertools.pairwise"].contains ty=false):Turn P w K tg (Its x) [it] it (Bn1 it ty x t) where
 mem:=by simp
 obj:=λi h st b hb=>by
  have e:b=it:=by simpa using hb
  subst e;obtain⟨o,e,c,d⟩:=st
  exact⟨o,e,λv z=>by rw[d]at z;cases z⟩
 keep:=λi h h' st k=>by
  obtain⟨o,e,r⟩:=st
  exact⟨o,k it (by simp) o e,r⟩
 item:=by
  intro X hP hw hK hc i pins s σ H E I hf st hg;subst hP hw hK
  obtain⟨f0,f1,f2,f3,f4,f5⟩:=hf it (by simp)
  refine (W X.A (I.ok.hd hc)).item i s _ _ hg st λv h' tk hv st' kk=>?_
  obtain⟨c,u,hx,rfl⟩:=hv
  have I1:Inv X pins σ H { s with heap:=h',toks:=tk }:=I.turned (λb o hb e=>kk b o (by simpa using hb) e) f0 f1 f3 f4 f5
  obtain⟨o,e,c',d⟩:=id st'
  exact⟨_,rfl,At3 (s:={ s with heap:=h',toks:=tk }) e c' d hn ⟨sgn c,H,I1,⟨u,rfl⟩,⟨rfl,c,hx,rfl⟩,st',λb hb=>(hf b hb).1⟩⟩
 done:=by
  intro X hP hw hK hc i pins s σ H E I hf st hg;subst hP hw hK
  obtain⟨f0,f1,f2,f3,f4,f5⟩:=hf it (by simp)
  have e:i=x.cps.size:=hg;subst e
  exact(W X.A (I.ok.hd hc)).done s _ _ st λh' tk kk=>⟨rfl,I.turned (λb o hb e=>kk b o (by simpa using hb) e) f0 f1 f3 f4 f5⟩
 self:=hs
section
variable {X:Cx}{tg:Expr}
def B0j (tl:TE):TI:=λσ H R=>tl σ H λx H1=>∃y,x=.str y/\R (Its y) H1
theorem A6i {l:Expr}{k:TE}(hl:QE X l k):QI X tg l (B0j k):=by
 refine⟨?_⟩
 intro d s r H R I h
 refine thn (hl.1 d s r H _ I h) λv a ⟨x,m,c,u,n⟩=>?_
 obtain⟨y,e,q⟩:=n;subst e;obtain⟨t,rfl⟩:=u
 cases ha:y.cps.all (·<128)
 ·refine wpAny_pyIter_wide ha ?_
  refine⟨a.heap.objs.size,[a.heap.objs.size],_,_,m,rfl,c.kept (t':=a.toks) λb o e=>Heap.get?_push_of_some _ e,Ah4 (ty := "str_iterator") (λp j=>Walks.strWide j _ y t) (λA i s Q E g h=>wpAny_pyIter_striter_wide g h) (by decide),⟨_,Heap.get?_push_size _ rfl,rfl,rfl⟩,λb f=>?_,q⟩
  have e:b=a.heap.objs.size:=by simpa using f
  subst e;exact c.fpOk (Nat.le_refl _) (c.hok.fresh (Nat.le_refl _))
 ·refine wpAny_pyIter_ascii ha ?_
  refine⟨a.heap.objs.size,[a.heap.objs.size],_,_,m,rfl,c.kept (t':=a.toks) λb o e=>Heap.get?_push_of_some _ e,Ah4 (ty := "str_ascii_iterator") (λp j=>Walks.strAscii j _ y t) (λA i s Q E g h=>wpAny_pyIter_striter_ascii g h) (by decide),⟨_,Heap.get?_push_size _ rfl,rfl,rfl⟩,λb f=>?_,q⟩
  have e := by simpa using f
  subst e;exact c.fpOk (Nat.le_refl _) (c.hok.fresh (Nat.le_refl _))
end
end L2
namespace L2
open PySem
mutual
noncomputable def wt:PyData->Nat
 | .none=>4
 | .bool _=>5
 | .int _=>1921
 | .str x=>10*x.length+2
 | .list xs=>Kl xs+4
 | .tuple xs=>Kl xs+4
 | .dict _=>0
noncomputable def Kl:List PyData->Nat
 | []=>0
 | x::xs=>wt x+2+Kl xs
end
end L2
namespace L2
open PySem PySem.Spec PyProof.Rows
section
variable {P:Program}{w:World}{A:Around}
theorem Ad8 {s:Shared}{l:Addr}{c:List Value}{ks:List Key}{Q:Value->Shared->Prop}{E:Value->Shared->Prop}(g:A.handled=none)(hl:s.heap.IsTuple l c.toArray)
 (is:∀(i:Nat) (v:Value),c[i]?=some v->∃k,ks[i]?=some k/\Px k v=true/\v.scannable=true) (hlen:ks.length=c.length) (few:c.length+1<scanBound)
 (fin:∀d tk,Wx P w s.heap.objs.size (dst ks) d->(∀b o,s.heap.get? b=some o->d.get? b=some o)->Q (.ref s.heap.objs.size) { s with heap:=d,toks:=tk }) :
 wpAny (model P w) A (call (.type "set") [.ref l]) Q E s:=by
 refine A2y (λz=>∃d tk,z={ s with heap:=d,toks:=tk }/\Wx P w s.heap.objs.size (dst ks) d/\∀b o,s.heap.get? b=some o->d.get? b=some o) ?_ λa=>?_
 ·rintro z ⟨d,tk,rfl,q1,q2⟩
  exact fin d tk q1 q2
 have hl2:(Ij s a).heap.IsTuple l c.toArray:=hl.push _;obtain⟨ob,g1,g2,n,g3⟩:=hl2;obtain⟨_,dct,_,sls⟩:=ob
 dsimp only at g2 g3
 subst g2 g3;have w1:=F.sub_tuple_set;have w2:=F.sub_tuple_frozenset
 have w3:(Value.type "tuple" == Value.type "dict")=false:=by decide
 have hl3:(Ij s a).heap.IsTuple l c.toArray:=⟨_,g1,rfl,n,rfl⟩;unfold Builtin.«set.__init__» Builtin.Frozenset.updateFrom noKeywords;generalize walk:pyIter=itr
 wp_walk
 subst walk;apply wpAny_pyIter_tuple hl3;apply wpAny_bind;apply wpAny_runValue
 have lt:l<s.heap.objs.size:=by obtain⟨o,e,_⟩:=hl;exact Heap.lt_size e
 have sz:(Ij s a).heap.objs.size=s.heap.objs.size+1:=Heap.size_push _ _
 have f:A.in1.in1.in1.handled=none:=by simp[g]
 have h:l≠(Ij s a).heap.objs.size:=by rw[sz];exact Nat.ne_of_lt (Nat.lt_succ_of_lt lt)
 have wk:=(Walks.tuple (prog:=P) (w:=w) f _ l h c.toArray).toS
 refine fill wk (S:=s.heap.objs.size) ?_ ks (by simpa using hlen) (λi v p=>is i v (by simpa using p)) (by simpa using few) _ ?_ c.length 0 _ (by simp) ⟨⟨_,Heap.get?_push_size _ rfl,rfl,rfl⟩,hl3.push _⟩ (Moved.refl wk.grefl) ?_
 ·rw[sz]
  intro q
  rcases List.mem_cons.mp q with q | q
  ·exact Nat.ne_of_lt (Nat.lt_succ_self _) q
  ·exact Nat.ne_of_gt lt (List.mem_singleton.mp q)
 ·intro z mv sh
  obtain⟨d,g',d',t',o'⟩:=z;have e1:g'=s.gens:=mv.gens;have e2:d'=s.drawn:=mv.drawn;have e3:o'=s.os:=mv.os;subst e1 e2 e3;apply wpAny_pure
  show wpAny _ _ (ret Value.none) _ _ _
  refine wpAny_pure ⟨rfl,d,t',rfl,sh,λb o q=>mv.heap b o ?_ (Heap.get?_push_of_some _ (Heap.get?_push_of_some _ q))⟩
  have bl:=Heap.lt_size q;intro m
  rcases List.mem_cons.mp m with m | m
  ·exact Nat.ne_of_lt bl m
  ·have m:=List.mem_singleton.mp m
   rw[sz]at m;exact Nat.ne_of_lt (Nat.lt_succ_of_lt bl) m
 ·have new:((Ij s a).heap.push { cls:=.type "tuple_iterator",data:=.fields #[.ref l,.int 0 0] }).get? s.heap.objs.size=some (bare a):=Heap.get?_push_of_some _ (Uy s a)
  have e:Nt ([]:List Key)=λ_=>false:=rfl
  show Heap.SetOf (Ff P w) _ _ (Nt []) 0
  rw[e]
  exact⟨_,_,_,_,new,⟨rfl,rfl,rfl⟩,rfl,λx m=>by simp at m,λk=>by simp,by decide,by cases a <;> rfl,rfl⟩
end
section
variable {X:Cx}
def X5 (P:Program)(w:World)(K:PySem.W.Frag):List V->Hp->VK->Prop:=λxs H Q=>∃(a:Addr) (vs:List V) (ks:List Key),xs=[.ref a]/\SqT K H a vs/\vs.map keyV=ks.map some/\vs.length<1000/\∀p,H p=none->Q (.ref p) (upd H p (A9p P w p (dst ks)))
theorem Az3 (hc:X.calm=true):zE X (.type "set") (X5 X.prog X.w X.K):=by
 intro l s σ H xs us Q I r h;obtain⟨a,c,b,rfl,w,p,hv,q⟩:=h;obtain⟨u,rfl,f⟩:=vals1 r
 cases (show u=Value.ref a from f)
 obtain⟨j,d,t,hz⟩:=I.tuple w
 have g:b.length=c.length:=by have:=congrArg List.length p;grind
 refine Ad8 (ks:=b) (I.ok.hd hc) (show s.heap.IsTuple a j.toArray from t) (λi v e=>?_) (by rw[g,d.length]) (by rw[<- d.length];unfold scanBound;omega) λh' tk n A=>?_
 ·have C:i<c.length:=by have:=(List.getElem?_eq_some_iff.mp e).1;rw[d.length];exact this
  have B:i<b.length:=by omega
  obtain⟨u,m,f⟩:=d.get (i:=i) (x:=c[i]) (by simp[C])
  rw[e]at m
  cases m
  have D:keyV c[i]=some b[i]:=by
   have:=congrArg (λz=>z[i]?) p
   grind
  exact⟨b[i],by simp ,Bc1 D f⟩
 ·have k:z9 X.prog X.w (upd H s.heap.objs.size (A9p X.prog X.w s.heap.objs.size (dst b))) _ _ (A9p _ _ _ _) :=
   ⟨n,let ⟨o,_,_,_,e,_⟩:=n; ⟨o,e⟩,λh1 h2 x y=>Rt x y⟩
  exact⟨.ref _,_,I.laid A (Nat.le_refl _) k,rfl,q _ (I.hok.fresh (Nat.le_refl _))⟩
theorem Ao0 {e:Expr}{c:TE}{p d b a:Pos}(hc:X.calm=true)(hgs:Gl X "set") (hms:X.mg "set" = none) (hgl:Gl X "len") (hml:X.mg "len" = none) (he:PE X e c) (hns:isStar e=false:=by rfl) :
 PE X (.Call (.Name "len" p) [.Call (.Name "set" d) [e] [] a] [] b) (tCB (Qd X.prog X.w) (Cj (tCB (X5 X.prog X.w X.K) (Cj c Fp)) Fp)) :=
 Fz Ae7 hgl hml A5l (A6r (K6 (Az3 hc) hgs hms Bt3 (A6r he Ri hns) (by decide) (by rfl) (by show !isStar e&&true=true;grind)) Ri rfl) (by decide) (by rfl) rfl
theorem Am2 {Kq:PySem.W.Frag}(b:X.K=Kq){e:Expr}{d:TE}{p f c a:Pos}(hc:X.calm=true)(hgs:Gl X "set") (hms:X.mg "set" = none) (hgl:Gl X "len") (hml:X.mg "len" = none) (he:QE X e d) (hns:isStar e=false:=by rfl):QE X (.Call (.Name "len" p) [.Call (.Name "set" f) [e] [] a] [] c) (tCB (Qd X.prog X.w) (Cj (tCB (X5 X.prog X.w Kq) (Cj d Fp)) Fp)):=by
 subst b;exact⟨Ao0 (hc:=hc) (hgs:=hgs) (hms:=hms) (hgl:=hgl) (hml:=hml) (he:=he.get) (hns:=hns)⟩
end
end L2
namespace HT
open PySem PySem.Spec PyProof.Rows
end HT
namespace L2
open PySem PySem.Spec PyProof.Rows
section
def B3b:R2:=λx y H Q=>∃i j,x=.str i/\y=.str j/\Q (.bl (!(Builtin.Str.occurrences j i 0 j.length 1).isEmpty)) H
end
section
noncomputable def Bl2 (y:Str):Value->Bool
 | .str z _=>z==y
 | _=>false
theorem Aw1:∀{ss:List Str}{us:List Value},Vals (ss.map V.str) us->∀u∈us,∃z t,u=.str z t
 | [],_,r,u,hu=>by cases r;cases hu
 | s::ss,_,r,u,hu=>by
  cases r with
  | cons r1 r2 =>
   rcases List.mem_cons.mp hu with rfl | hu
   ·obtain⟨t,rfl⟩:=r1;exact⟨s,t,rfl⟩
   ·exact Aw1 r2 u hu
end
end L2
namespace HT
open PySem PySem.Spec PyProof.Rows
section
variable {prog:Program}{w:World}{A:Around}{E:Value->Shared->Prop}{s:Shared}
theorem Nx {lo hi:Option Int} (ht:IsTup s.heap t items) (hs:s.heap.IsSliceOf b g f .none) (pl:IsPart g lo) (i:IsPart f hi)
 (hw:sIx items.size 0 lo=0/\sIx items.size items.size hi=items.size) (h:Q (.ref t) s):wpAny (model prog w) A (getItem (.ref t) (.ref b)) Q E s:=by
 obtain⟨k,d,c,j⟩:=id hs;have e:s.TypeIs (.ref b) "slice" := ⟨k,d,c⟩;unfold getItem
 try with_reducible refine wpAny_holding ?_
 first | refine wpAny_bind (wpAny_pure ?_) | skip
 refine wpAny_bind (wpAny_sequenceKey ht.typeIs (by decide) ?_)
 refine wpAny_bind (wpAny_callSpecial?_slot (name:="__getitem__") ht.typeIs PyProof.Rows.slot_tuple_getitem
  (wpAny_call_entry PyProof.Rows.slot_tuple_getitem ht.typeIs entry_tuple_getitem ?_ (args_tuple_getitem _ _)))
 show wpAny _ _ (Builtin.Tuple.tupleItemsOf (.ref t) >>= _) _ _ s
 refine wpAny_bind (tupleItemsOf_ ht ?_)
 refine wpAny_bind (wpAny_typeOf e ?_)
 rw[if_pos (by decide)]
 refine wpAny_bind (Kg hs pl i ?_)
 show wpAny _ _ (if (((sIx items.size 0 lo:Nat):Int)==0&&(1:Int)==1&&(sIx _ _ _-sIx _ 0 _)==items.size)=true then _ else _) _ _ s
 have a:(((sIx items.size 0 lo):Int)==0&&(1:Int)==1&&sIx items.size items.size hi-sIx items.size 0 lo==items.size)=true:=by
  rw[hw.1,hw.2];simp
 rw[if_pos a]
 refine wpAny_bind (wpAny_bind (wpAny_typeOf ht.typeIs (wpAny_pure ?_)))
 refine wpAny_bind (wpAny_rule ?_)
 first
  | exact wpAny_pure ⟨_,rfl,wpAny_pure h⟩
  | exact wpAny_bind _
  | exact wpAny_bind _
  | trace_state
end
end HT
namespace L2
open PySem PySem.Spec PyProof.Rows
section
variable {X:Cx}
def Bl7 (K:PySem.W.Frag):V->Option Int->Option Int->Hp->VK->Prop:=λx lo hi H Q=>∃a xs,x=.ref a/\SqT K H a xs /\
 (HT.sIx xs.length 0 lo=0/\HT.sIx xs.length xs.length hi=xs.length)/\Q (.ref a) H
theorem Bi4:SlR X (Bl7 X.K):=by
 intro d s σ H x v vl vu lo hi sl Q I k f g e h;obtain⟨a,xs,rfl,j,hw,q⟩:=h
 cases k
 obtain⟨i,r,c,hz⟩:=I.tuple j
 have b := by exact r.length.symm
 refine⟨"tuple",_,PyProof.Rows.slot_tuple_getitem.lookup,c.typeIs,?_⟩
 exact HT.Nx c f g e (by grind) ⟨.ref a,H,I,rfl,q⟩
end
theorem Wu (l:Addr)(items:Array Value)(n:Nat)(dd:Option Addr)(sl:Array (Option Value))(x:Value)(e:Value->Bool)(j:Nat)(hj:j<items.size)
 (p:e items[j]=true) (hno:∀m (hm:m<items.size),m<j->e items[m]=false) :
 Meets (Builtin.«tuple.index» ⟨[.ref l,x],[]⟩)
  (λA R s=>s.heap.get? l=some { cls:=.type "tuple",dict:=dd,data:=.seq items n,slots:=sl }/\(∀y,y∈items->SeqAt.EqAt A.in1 s y x (e y))/\R (.ok (.ret (.int j s.toks))) { s with toks:=s.toks+1 }) :=
 .of_wp λf w A R s h=>by
  obtain⟨hp,g,d,tk,os⟩:=s;obtain⟨hl,he,h⟩:=h
  wp_walk using wpAny_loadPart' hl
  change wpAny _ _ (forIn (m:=Sem) [:min items.size items.size] ((none,()):Option Fin×Unit) _) _ _ _
  rw[Std.Legacy.Range.forIn_eq_forIn_range'];simp only[Std.Legacy.Range.size,Nat.sub_zero,Nat.add_sub_cancel,Nat.div_one,Nat.min_self]
  refine wpAny_forIn_list _ (λa b s'=>b.1=none/\s'=⟨hp,g,d,tk,os⟩/\∃i,i<=j/\a=List.range' i (items.size-i)) _ ?_ ?_ _ _ ⟨rfl,rfl,0,Nat.zero_le _,rfl⟩
  ·rintro y a b s' ⟨hb,rfl,i,c,k⟩
   have o:i<items.size:=Nat.lt_of_le_of_lt c hj;have hd:items.size-i=(items.size-(i+1))+1:=(Nat.succ_pred_eq_of_pos (Nat.sub_pos_of_lt o)).symm;rw[hd,List.range'_succ]at k
   cases k
   have hg:items[y]?=some items[y]:=by simp[o]
   simp only[hg]
   refine wpAny_bind (he _ (Array.getElem_mem o) f w _ _ ?_)
   rcases Nat.lt_or_eq_of_le c with lt | rfl
   ·rw[hno y o lt]
    wp_walk
    exact⟨rfl,rfl,y+1,lt,rfl⟩
   ·rw[p]
    wp_walk
    exact⟨_,rfl,h⟩
  ·rintro⟨b1,b2⟩ s' ⟨hb,rfl,i,c,k⟩
   have hz:=congrArg List.length k
   simp at hz
   omega
section
variable {X:Cx}
theorem A7p (y:Str){ss:List Str} (r:Vals (ss.map V.str) us) (hm:m<us.length) (h2:m<ss.length):Bl2 y us[m]=(ss[m]==y):=by
 obtain⟨u,a,b⟩:=r.get (i:=m) (x:=V.str ss[m]) (by grind)
 obtain⟨t,rfl⟩:=b;rw[List.getElem?_eq_getElem hm]at a
 injection a with a
 rw[a];rfl
def Yp (K:PySem.W.Frag):V->List V->Hp->VK->Prop:=λx vs H Q=>∃(a:Addr) (ss:List Str) (y:Str) (j:Nat),x=.ref a/\vs=[.str y]/\SqT K H a (ss.map V.str)/\ss[j]?=some y/\(∀m<j,ss[m]?≠some y)/\Q (.int (j:Nat)) H
theorem A0j:MtM X "tuple.index" (Yp X.K):=by
 intro i s σ H x vs v us Q I D A h;obtain⟨a,C,y,j,rfl,rfl,G,B,M,q⟩:=h
 cases D
 obtain⟨u,rfl,p⟩:=A.one;obtain⟨t,rfl⟩:=p;obtain⟨b,r,l,hz⟩:=I.tuple G
 obtain⟨o,e,k,n,f⟩:=(show s.heap.IsTuple a b.toArray from l)
 obtain⟨c0,dd,E,sl⟩:=o
 dsimp only at k f
 subst k f
 have c := by have:=r.length;simpa using this.symm
 obtain⟨g,ej⟩:=List.getElem?_eq_some_iff.mp B
 refine call_meets F.slot_tuple_index ⟨_,e,rfl⟩ F.entry_tuple_index (F.args_tuple_index_2 _ _) (Wu a _ n _ _ _ (Bl2 y) j (by simpa[c] using g) ?_ ?_) ⟨e,λw K=>?_,?_⟩
 ·have:=A7p y r (by omega) g
  simp_all
 ·intro m J L
  have:=A7p y r (by simpa using J) (by omega)
  grind
 ·obtain⟨z,t',rfl⟩:=Aw1 r w (by simpa using K)
  exact SeqAt.EqAt.str_str z _ y t
 ·exact⟨.int _,H,I.tok _,⟨_,rfl⟩,q⟩
theorem Aq4 (a:X.K=Kq):MtM X "tuple.index" (Yp Kq):=by
 subst a;exact A0j
end
section
def B3d (ks:List Str)(xs:List V):List (Key×V):=(ks.zip xs).map λp=>((Sum.inr p.1:Key),p.2)
end
end L2
namespace L2
open PySem PySem.Spec PyProof.Rows PySem.W
section
open PySem.SeqAt
open PySem.AutoSeq1 (wpAny_loadPart')
open PySem.MeetsSeq PySem.MeetsSeq2 PySem.MeetsSeq3
theorem Ay7 (l b:Addr)(items c:Array Value)(n T:Nat)(dd D:Option Addr)(N G:Array (Option Value))(r:Bool)(k:Nat) :
 ∀
  (i:Nat) (vs z:List Value),items.toList.drop i=vs->c.toList.drop i=z->i<=items.size->i<=c.size->vs.length=k->Meets (Builtin.«list.__eq__.loop» ⟨[.ref l,.ref b,rawInt i,rawInt 0],[]⟩)
  (λA R s=>s.heap.get? l=some { cls:=.type "list",dict:=dd,data:=.seq items n,slots:=N }/\s.heap.get? b=some { cls:=.type "list",dict:=D,data:=.seq c T,slots:=G } /\
   Nu false A.in1 s vs z r/\R (.ok (.ret (.bool r))) s):=by
 have m:∀{f:Array Value} {i:Nat},f.toList.drop i=[]->f[((i:Nat):Int).toNat]?=none:=λ{f i} e=>by
  have:=List.drop_eq_nil_iff.mp e
  simp at this ⊢;omega
 have a:∀{f:Array Value} {i:Nat} {x:Value} {r:List Value},f.toList.drop i=x::r->f[((i:Nat):Int).toNat]?=some x/\f.toList.drop (i+1)=r/\i<f.size:=λ{f i x r} e=>by
  have J:i<f.size:=by
   rcases Nat.lt_or_ge i f.size with h | h
   ·exact h
   ·rw[List.drop_eq_nil_of_le (by simpa using h)]at e;cases e
  rw[List.drop_eq_getElem_cons (by simpa using J)]at e
  injection e with e1 e2
  exact⟨by simp[J];simpa using e1,e2,J⟩
 induction k with
 | zero =>
  intro i vs z t q S P y j w A R s h;obtain⟨H,g,d,B,I⟩:=s;obtain⟨o,p,L,h⟩:=h;have C:vs=[]:=List.length_eq_zero_iff.mp y;subst C
  wp_walk using wpAny_loadPart' o,wpAny_loadPart' p
  rw[m t]
  have V:items.size=i:=by have:=List.drop_eq_nil_iff.mp t;simp at this;omega
  wp_walk using wpAny_loadPart' o,wpAny_loadPart' p
  show R (.ok (.ret (.bool (decide (items.size<c.size))))) _
  have C:decide (items.size<c.size)=r:=by
   cases L with
   | nn=>have:=List.drop_eq_nil_iff.mp q;simp at this;exact decide_eq_false (by omega)
   | nc=>exact decide_eq_true (by have:=(a q).2.2;omega)
  rw[C];exact h
 | succ k O =>
  intro i vs z t q S P y j w A R s h;obtain⟨H,g,d,B,I⟩:=s;obtain⟨o,p,L,h⟩:=h
  cases L with
  | nn=>cases y
  | nc=>cases y
  | cn =>
   wp_walk using wpAny_loadPart' o,wpAny_loadPart' p
   rw[(a t).1,m q]
   wp_walk using wpAny_loadPart' o,wpAny_loadPart' p
   show R (.ok (.ret (.bool (decide (items.size<c.size))))) _
   have:=(a t).2.2;have:=List.drop_eq_nil_iff.mp q
   simp at this
   rw[decide_eq_false (by omega)];exact h
  | eq K M =>
   have u:=a t;have v:=a q
   have U:((i:Int)+1)=((i+1:Nat):Int):=by push_cast;rfl
   wp_walk using wpAny_loadPart' o,wpAny_loadPart' p
   rw[u.1,v.1]
   refine wpAny_bind (K j w _ _ ?_)
   wp_walk
   rw[U]
   exact⟨plainId_quiet plain_eq_loop _,codeAny_builtin entry_eq_loop (by
    rw[Around.under_plainId plain_eq_loop _]
    exact O (i+1) _ _ u.2.1 v.2.1 u.2.2 v.2.2 (by simpa using y) j w A R _ ⟨o,p,M,h⟩)⟩
  | ne K M =>
   have u:=a t;have v:=a q
   wp_walk using wpAny_loadPart' o,wpAny_loadPart' p
   rw[u.1,v.1]
   refine wpAny_bind (K j w _ _ ?_)
   have F:∀(E:Value->Shared->Prop) (Q:Value->Shared->Prop),Q (.bool r) ⟨H,g,d,B,I⟩->wpAny (model j w) A.in1 (richCompare .Lt _ _) Q E ⟨H,g,d,B,I⟩:=M j w
   wp_walk using wpAny_loadPart' o,wpAny_loadPart' p
   rw[u.1,v.1]
   wp_walk using F
   simpa using h
theorem A0v (l b:Addr)(items a:Array Value)(n f:Nat)(dd e:Option Addr)(i c:Array (Option Value))(r:Bool) :
 Meets (Builtin.«list.__lt__» ⟨[.ref l,.ref b],[]⟩)
  (λA R s=>s.heap.get? l=some { cls:=.type "list",dict:=dd,data:=.seq items n,slots:=i }/\s.heap.get? b=some { cls:=.type "list",dict:=e,data:=.seq a f,slots:=c } /\
   Nu false A.in1 s items.toList a.toList r/\R (.ok (.ret (.bool r))) s):=by
 intro k w A R s h;obtain⟨q,g,d,t,u⟩:=s;obtain⟨j,m,o,h⟩:=h;have p:=AutoSeq1.sub_list_list
 wp_walk using wpAny_loadPart' j,wpAny_loadPart' m
 exact⟨plainId_quiet plain_eq_loop _,codeAny_builtin entry_eq_loop (by
  rw[Around.under_plainId plain_eq_loop _]
  exact Ay7 l b items a n f dd e i c r _ 0 _ _ rfl rfl (Nat.zero_le _) (Nat.zero_le _) rfl _ w A R _ ⟨j,m,o,h⟩)⟩
end
noncomputable def kEv {α:Type} (B:Nat->Nat->Option Bool):KasT α->Option α
 | .ret a=>some a
 | .ask i j k=>(B i j).bind λb=>kEv B (k b)
theorem A5e {α:Type}{cmp:Nat->Nat->(Bool->Shared->Prop)->Shared->Prop}{B:Nat->Nat->Option Bool}{s:Shared}(hc:∀i j b C,B i j=some b->C b s->cmp i j C s){G:α->Shared->Prop} :
 ∀(t:KasT α) (a:α),kEv B t=some a->G a s->t.kasWp cmp G s
 | .ret a,a',e,g=>by cases e;exact g
 | .ask i j k,a',e,g=>by
  obtain⟨b,e1,e2⟩:=Option.bind_eq_some_iff.mp (show (B i j).bind (λb=>kEv B (k b))=some a' from e)
  exact hc i j b _ e1 (A5e hc (k b) a' e2 g)
noncomputable def Aq8 (b:Bool):PyData->Bool
 | .tuple (.int _::_)=>b
 | .tuple (.tuple _::_)=>!b
 | _=>false
section
variable {prog:Program}{w:World}{A:Around}{E:Value->Shared->Prop}{s:Shared}{b fin:Bool}{Q:Bool->Shared->Prop}
theorem Ab8:∀{vs ws:List Value}{r:Bool},Nu false A s vs ws r->∀i,(b&&i==0)=false->fin=decide (vs.length<ws.length)->Q r s->KatLex prog w A b fin Q (vs.zip ws) i s
 | _,_,_,.nn,i,_,hf,h=>by
  have e:fin=false:=hf;subst e;exact kat_nil h
 | _,_,_,.nc (y:=y) (ys:=ys),i,_,hf,h=>by
  have e:fin=true:=hf.trans (decide_eq_true (by rw[List.length_nil,List.length_cons];omega))
  subst e;exact kat_nil h
 | _,_,_,.cn (x:=x) (xs:=xs),i,_,hf,h=>by
  have e:fin=false:=hf.trans (decide_eq_false (by rw[List.length_nil,List.length_cons];omega))
  subst e;exact kat_nil h
 | _,_,_,.eq he hr,i,hi,hf,h=>kat_cons (he prog w _ _ (kat_yes (Ab8 hr (i+1) (by simp) (hf.trans (by simp)) h)))
 | _,_,_,.ne he hr,i,hi,hf,h=>kat_cons (he prog w _ _ (kat_no (by rw[hi];exact kat_one _ _ (hr prog w _ _ h))))
theorem B3f (m:ReadsAll s.heap us (.int i::xs) k) (o:ReadsAll s.heap vs (.int j::ys) bs) (p:PyData.canLayAll0 (.int i::xs)=true) (g:PyData.canLayAll0 (.int j::ys)=true)
 (hu:A.units+PyData.depthAll (.int i::xs)<cLine) (hc:Pb false (.int i::xs) (.int j::ys)=some r) (hf:fin=decide (us.length<vs.length)) (h:Q r s):KatLex prog w A true fin Q (us.zip vs) 0 s:=by
 cases m with
 | cons c l =>
  cases o with
  | cons d n =>
   have b:=Bool.and_eq_true_iff.mp p;have a:=Bool.and_eq_true_iff.mp g;have q:A.units+max (PyData.int i).depth (PyData.depthAll xs)<cLine:=hu
   have e:=SeqAt.eqAt_reads (.int i) (.int j) A s _ _ _ _ c d b.1 a.1 (by omega)
   rw[Pb]at hc
   by_cases he:PyData.eqv (.int i) (.int j)=true
   ·rw[if_pos he]at hc
    rw[he]at e
    exact kat_cons (e prog w _ _ (kat_yes (Ab8 (Og false xs ys A s _ _ _ _ r l n b.2 a.2 (by omega) hc) 1 (by simp) (hf.trans (by simp)) h)))
   ·rw[if_neg he]at hc
    rw[Bool.not_eq_true _ |>.mp he]at e
    refine kat_cons (e _ w _ _ (kat_no ?_))
    cases c
    cases d
    have f := by simpa[Ox] using hc
    rw[<- f]at h;exact(kat_lt_int h:wpAny _ A _ Q _ s)
theorem A5c (t:Reads s.heap u a n) (x:Reads s.heap v d bs) (f:a.canLay0=true) (e:d.canLay0=true)
 (fa:Aq8 b a=true) (fb:Aq8 b d=true) (hu:A.units+a.depth<cLine) (hc:Ox false a d=some r) (h:Q r s):wpAny (model prog w) A (keyLt' (tuples' b) u v) Q E s:=by
 cases a with
 | tuple l =>
  cases d with
  | tuple m =>
   cases t with
   | tuple o B q g =>
    cases x with
    | tuple p z y k =>
     have c:A.units+(PyData.depthAll _+1)<cLine:=hu
     refine kat_lt o q p y ?_
     cases b with
     | false=>exact Ab8 (Og _ _ _ A s _ _ _ _ r g k f e (by omega) hc) 0 rfl (by simp) h
     | true =>
      match l,m,fa,fb,g,k,f,e,c,hc with
      | .int i::l,.int j::m,_,_,g,k,f,e,c,hc=>exact B3f g k f e (by omega) hc (by simp) h
  | _=>cases fb
 | _=>cases fa
end
inductive Kd where
 | ti | tt | tl | ii | ll
noncomputable def Nv:Kd->PyData->Bool
 | .ti,.tuple (.int _::_)=>true
 | .tt,.tuple (.tuple _::_)=>true
 | .tl,.tuple (.list _::_)=>true
 | .ii,.int _=>true
 | .ll,.list _=>true
 | _,_=>false
theorem Ir (h:Nv kd d=true):match kd with
 | .ti=>∃i xs,d=.tuple (.int i::xs)
 | .tt=>∃ys xs,d=.tuple (.tuple ys::xs)
 | .tl=>∃ys xs,d=.tuple (.list ys::xs)
 | .ii=>∃i,d=.int i
 | .ll=>∃xs,d=.list xs:=by
 unfold Nv at h
 split at h
 ·exact⟨_,_,rfl⟩
 ·exact⟨_,_,rfl⟩
 ·exact⟨_,_,rfl⟩
 ·exact⟨_,rfl⟩
 ·exact⟨_,rfl⟩
 ·cases h
noncomputable def kdK:Kd->SortKind
 | .ti=>tuples' true
 | .tt=>tuples' false
 | .tl=>tuples' true
 | .ii=>oneType'
 | .ll=>oneType'
def Bz6 (x y:PyData):Option Bool:=match x,y with
 | .tuple (.list a::xs),.tuple (.list b::ys)=>if PyData.eqv (.list a) (.list b)=true then Pb false xs ys else Pb false a b
 | _,_=>none
def B2q (x y:PyData):Option Bool:=match x,y with
 | .list a,.list b=>Pb false a b
 | _,_=>none
def Bu9 (kd:Kd)(x y:PyData):Option Bool:=match kd with
 | .tl=>Bz6 x y
 | .ll=>B2q x y
 | _=>Ox false x y
def A1a (kd:Kd)(ds:List PyData)(i j:Nat):Option Bool:=match ds[i]?,ds[j]? with
 | some x,some y=>Bu9 kd x y
 | _,_=>none
section
variable {prog:Program}{w:World}{A:Around}{E:Value->Shared->Prop}{s:Shared}{fin:Bool}{Q:Bool->Shared->Prop}
theorem V0 (h1:s.heap.get? l=some o) (h2:o.cls=.type "list") (f:o.data=.seq items n) (g:s.heap.get? b=some c) (i:c.cls=.type "list") (k:c.data=.seq a p)
 (hx:Nu false A.in1 s items.toList a.toList r) (hu:A.units<cLine) (h:Q r s):wpAny (model prog w) A (oneLt' true (.ref l) (.ref b)) Q E s:=by
 obtain⟨q,u,m,v⟩:=o;obtain⟨t,j,d,e⟩:=c;subst h2 f i k
 refine wpAny_bind (wpAny_cRoomFor hu ?_)
 refine wpAny_bind (wpAny_callSpecialIfBound?_slot ⟨_,h1,rfl⟩ F.slot_list_lt (call_meets F.slot_list_lt ⟨_,h1,rfl⟩ F.entry_list_lt (F.args_list_lt_2 _ _) (A0v l b _ _ n _ _ _ _ _ r) ⟨h1,g,hx,?_⟩))
 exact wpAny_truthy_bool h
theorem B2x (k:ReadsAll s.heap us (.list a::xs) p) (m:ReadsAll s.heap vs (.list b::ys) bs) (o:PyData.canLayAll0 (.list a::xs)=true) (j:PyData.canLayAll0 (.list b::ys)=true)
 (hu:A.units+PyData.depthAll (.list a::xs)<cLine) (hc:Bz6 (.tuple (.list a::xs)) (.tuple (.list b::ys))=some r) (hf:fin=decide (us.length<vs.length)) (h:Q r s):KatLex prog w A true fin Q (us.zip vs) 0 s:=by
 cases k with
 | cons g l =>
  cases m with
  | cons f n =>
   have c:=Bool.and_eq_true_iff.mp o;have d:=Bool.and_eq_true_iff.mp j;have q:A.units+max (PyData.list a).depth (PyData.depthAll xs)<cLine:=hu;have C:(PyData.list a).depth=PyData.depthAll a+1:=rfl
   have e:=SeqAt.eqAt_reads (.list a) (.list b) A s _ _ _ _ g f c.1 d.1 (by omega)
   have hc:(if PyData.eqv (.list a) _=true then Pb _ _ _ else Pb _ a b)=some r:=hc
   by_cases he:PyData.eqv (.list a) (.list b)=true
   ·rw[if_pos he]at hc
    rw[he]at e
    exact kat_cons (e _ w _ _ (kat_yes (Ab8 (Og _ _ _ A s _ _ _ _ r l n c.2 d.2 (by omega) hc) 1 (by simp) (hf.trans (by simp)) h)))
   ·rw[if_neg he]at hc
    rw[Bool.not_eq_true _ |>.mp he]at e
    refine kat_cons (e _ w _ _ (kat_no ?_))
    cases g with
    | list u v x t =>
     cases f with
     | list z y B i=>exact V0 u v x z y B (Og _ a b _ s _ _ _ _ r t i c.1 d.1 (by grind) hc) (by omega) h
theorem A9r (d:Reads s.heap u a F) (e:Reads s.heap v l bs) (m:a.canLay0=true) (k:l.canLay0=true)
 (fa:Nv kd a=true) (fb:Nv kd l=true) (hu:A.units+a.depth<cLine) (hc:Bu9 kd a l=some r) (h:Q r s):wpAny (model prog w) A (keyLt' (kdK kd) u v) Q E s:=by
 have c:=Ir fa;have f:=Ir fb
 cases kd with
 | ti =>
  obtain⟨i,g,rfl⟩:=c;obtain⟨j,n,rfl⟩:=f;exact A5c (b:=true) d e m k rfl rfl hu hc h
 | tt =>
  obtain⟨i,g,rfl⟩:=c;obtain⟨j,n,rfl⟩:=f;exact A5c (b:=false) d e m k rfl rfl hu hc h
 | tl =>
  obtain⟨i,g,rfl⟩:=c;obtain⟨j,n,rfl⟩:=f
  cases d with
  | tuple t B x o =>
   cases e with
   | tuple p C q y =>
    refine kat_lt t x p q (B2x o y m k ?_ hc (by simp) h)
    have z:A.units+(PyData.depthAll (.list i::g)+1)<cLine:=hu;omega
 | ii =>
  obtain⟨i,rfl⟩:=c;obtain⟨j,rfl⟩:=f
  cases d
  cases e
  have D:decide (i<j)=r:=by simpa[Bu9,Ox] using hc
  rw[<- D]at h;exact kat_lt_int h
 | ll =>
  obtain⟨g,rfl⟩:=c;obtain⟨n,rfl⟩:=f
  cases d with
  | list t B x o =>
   cases e with
   | list p C q y =>
    have z:A.units+(PyData.depthAll g+1)<cLine:=hu
    show wpAny (model prog w) A (keyLt' oneType' _ _) Q E s
    rw[keyLt'_oneType]
    exact V0 t B x p C q (Og _ _ _ _ s _ _ _ _ r o y m k (by show A.units+1+_<_;omega) hc) (by omega) h
end
section
variable {M:Model}{A:Around}{E:Value->Shared->Prop}{s:Shared}
noncomputable def tyK (b:Bool):Value:=if b then .type "int" else .type "tuple"
theorem Uj (r:ReadsAll h vs (d::ds) a):∃v as',vs[0]?=some v/\Reads h v d as':=by
 cases r with
 | cons c b=>grind
theorem Wb {h:Heap}{b:Bool}:∀{us:List Value}{ds:List PyData}{as:List Addr},ReadsAll h us ds as->ds.all (Aq8 b)=true->∃fs,KatTups h us fs/\fs.length=us.length/\∀v∈fs,Looks M h (typeOf v) (tyK b)
 | _,_,_,.nil,_=>⟨[],trivial,rfl,λv z=>nomatch z⟩
 | _,_,_,.cons (d:=d) r1 r2,hb=>by
  obtain⟨h1,h2⟩:=Bool.and_eq_true_iff.mp (show (Aq8 b d&&_)=true from hb)
  obtain⟨fs,t,l,k⟩:=Wb r2 h2
  cases d with
  | tuple xs =>
   cases r1 with
   | tuple e1 e2 e3 e4 =>
    match xs,h1,e4 with
    | .int i::xs,h1,e4 =>
     obtain⟨v,as',f1,f2⟩:=Uj e4;have hb':b=true:=h1;subst hb'
     cases f2 with
     | int i t0=>
      exact⟨.int i t0::fs,KatTups.cons e1 e2 e3 (by rw[<- Array.getElem?_toList];exact f1) t,by rw[List.length_cons,List.length_cons,l],λv hv=>by
       rcases List.mem_cons.mp hv with rfl | hv
       ·exact Looks.now
       ·exact k v hv⟩
    | .tuple ys::xs,h1,e4 =>
     obtain⟨v,as',f1,f2⟩:=Uj e4
     have hb':b=false:=by simpa[Aq8] using h1
     subst hb'
     cases f2 with
     | tuple g1 g2 g3 g4=>
      exact⟨_::fs,KatTups.cons e1 e2 e3 (by rw[<- Array.getElem?_toList];exact f1) t,by rw[List.length_cons,List.length_cons,l],λv hv=>by
       rcases List.mem_cons.mp hv with rfl | hv
       ·have q:=(Looks.ld (M:=M) (part:=none) g1).andThen (f:=λo=>pure o.cls) .now
        rw[g2]at q;exact q
       ·exact k v hv⟩
  | _=>cases h1
theorem Ad1 (r:ReadsAll s.heap us ds a) (hb:ds.all (Aq8 b)=true) (d:0<us.length) (h:Q (tuples' b) s):wpAny M A (keyKind' us.toArray) Q E s:=by
 obtain⟨c,t,l,k⟩:=Wb r hb
 refine kat_kind t (by omega) k (by simp_all) ?_
 cases b <;> exact h
theorem Ac5 {h:Heap}:∀{us:List Value}{ds:List PyData}{as:List Addr},ReadsAll h us ds as->ds.all (Nv .tl)=true->∃fs,KatTups h us fs/\fs.length=us.length/\∀v∈fs,Looks M h (typeOf v) (.type "list")
 | _,_,_,.nil,_=>⟨[],trivial,rfl,λv z=>nomatch z⟩
 | _,_,_,.cons (d:=d) r1 r2,hb=>by
  obtain⟨h1,h2⟩:=Bool.and_eq_true_iff.mp (show (Nv .tl d&&_)=true from hb)
  obtain⟨fs,t,l,k⟩:=Ac5 r2 h2;obtain⟨_,_,rfl⟩:=Ir h1
  cases r1 with
  | tuple e1 e2 e3 e4 =>
   obtain⟨v,as',f1,f2⟩:=Uj e4
   cases f2 with
   | list g1 g2 g3 g4=>
    exact⟨_::fs,KatTups.cons e1 e2 e3 (by rw[<- Array.getElem?_toList];exact f1) t,by rw[List.length_cons,List.length_cons,l],λv hv=>by
     rcases List.mem_cons.mp hv with rfl | hv
     ·have q:=(Looks.ld (M:=M) (part:=none) g1).andThen (f:=λo=>pure o.cls) .now
      rw[g2]at q;exact q
     ·exact k v hv⟩
theorem Ag4 {h:Heap}:∀{us:List Value}{ds:List PyData}{as:List Addr},ReadsAll h us ds as->ds.all (Nv .ll)=true->∀v∈us,Looks M h (typeOf v) (.type "list")
 | _,_,_,.nil,_,v,z=>nomatch z
 | _,_,_,.cons (d:=d) r1 r2,hb,v,hv=>by
  obtain⟨h1,h2⟩:=Bool.and_eq_true_iff.mp (show (Nv .ll d&&_)=true from hb)
  rcases List.mem_cons.mp hv with rfl | hv
  ·obtain⟨_,rfl⟩:=Ir h1
   cases r1 with
   | list g1 g2 g3 g4 =>
    have q:=(Looks.ld (M:=M) (part:=none) g1).andThen (f:=λo=>pure o.cls) .now
    rw[g2]at q;exact q
  ·exact Ag4 r2 h2 v hv
theorem ints_of {h:Heap}:∀{us:List Value}{ds:List PyData}{as:List Addr},ReadsAll h us ds as->ds.all (Nv .ii)=true->∃ns,IntsAre us ns
 | _,_,_,.nil,_=>⟨[],.nil⟩
 | _,_,_,.cons (d:=d) r1 r2,hb=>by
  obtain⟨h1,h2⟩:=Bool.and_eq_true_iff.mp (show (Nv .ii d&&_)=true from hb)
  obtain⟨ns,t⟩:=ints_of r2 h2;obtain⟨_,rfl⟩:=Ir h1
  cases r1 with
  | int i t0=>exact⟨_::ns,.cons _ _ t⟩
theorem As3 : ∀{ds:List PyData},ds.all (Nv (if b then .ti else .tt))=true->ds.all (Aq8 b)=true:=λ{ds} h=>by
 rw[List.all_eq_true]at h ⊢;intro d a;have:=Ir (h d a)
 cases b
 ·obtain⟨_,_,rfl⟩:=this;rfl
 ·obtain⟨_,_,rfl⟩:=this;rfl
theorem A5m (r:ReadsAll s.heap us ds c) (hb:ds.all (Nv kd)=true) (a:2<=us.length) (h:Q (kdK kd) s):wpAny M A (keyKind' us.toArray) Q E s:=by
 cases kd with
 | ti=>exact Ad1 (b:=true) r (As3 hb) (by omega) h
 | tt=>exact Ad1 (b:=false) r (As3 hb) (by omega) h
 | tl =>
  obtain⟨e,t,l,k⟩:=Ac5 r hb
  exact kat_kind t (by omega) k (by rfl) h
 | ii =>
  obtain⟨d,t⟩:=ints_of r hb
  rw[ksk_kind (by assumption) (by trivial)]
  exact wpAny_pure h
 | ll=>exact kas_kind a (Ag4 r hb) (by rfl) (by rfl) h
theorem Xh {body:Value->PUnit->Sem (ForInStep PUnit)}{Iv:List Value->Shared->Prop}(step:∀x rest s,Iv (x::rest) s->wpAny M A (body x ⟨⟩) (λr s'=>r=.yield ⟨⟩/\Iv rest s') E s) :
 ∀(l:List Value) (s:Shared),Iv l s->wpAny M A (forIn l PUnit.unit body) (λ_ s'=>Iv [] s') E s
 | [],s,h=>by rw[List.forIn_nil];exact wpAny_pure h
 | x::l,s,h=>by
  rw[List.forIn_cons]
  refine wpAny_bind (wpAny_mono (step x l s h) (λq s' hq=>?_) λ_ _ z=>z)
  obtain⟨rfl,h'⟩:=hq;exact Xh step l s' h'
end
section
variable {X:Cx}{pins:List (Addr×Obj)}{σ:St}{H:Hp}{s:Shared}{h':Heap}
theorem Inv.adopt (I:Inv X pins σ H s) (k:∀b u,b≠D->s.heap.get? b=some u->h'.get? b=some u) (hn:H D=none) (h:D≠X.env.locals) (h1:X.s₀.heap.objs.size<=D)
 (h2:∀x c,X.env.cells.lookup x=some c->c≠D) (A:∀p∈X.pn++pins,p.1≠D) (i:z9 X.prog X.w (upd H D o) h' D o):Inv X pins σ (upd H D o) { s with heap:=h',toks:=t' }:=by
 have a:∀b u,H b=some u->b≠D:=λb u e z=>by simp_all
 refine I.step (g':=s.gens) (d':=s.drawn) (ch:=[D]) (λb f=>?_) (λb o _ _ d e _=>k b o (λz=>d (by simp[z])) e) (λb o _ _ d e _=>⟨o.slots,k b o (λz=>d (by grind)) e⟩) (λb o d e n=>by rw[Ag (λz=>d (by simp[z]))];exact n)
  (λb o d e=>⟨o,k b o (λz=>d (by grind)) e⟩) (λb g e=>by rw[Ag (a _ _ e)];exact e) (λb _ _ e=>by rw[Ag (a _ _ e)];exact e) (λb y e=>by rw[Ag (a _ _ e)];exact e) (λm j=>?_) (λb u e=>?_) I.bare
 ·grind
 ·obtain⟨o,t,l,w,r⟩:=j
  exact⟨o,t,l,k _ o (Ne.symm h) w,r⟩
 ·by_cases f:b=D
  ·subst f;rw[Ax]at e;grind
  ·rw[Ag f]at e
   refine (I.hok b u e).stay (λc v d q=>k c v ?_ q) (λc q=>by rw[Ag (a _ _ q)];exact q) (λc g q=>by rw[Ag (a _ _ q)];exact q) λc B g q=>by rw[Ag (a _ _ q)];exact q
   grind
end
def Ux (Ky:V->Hp->VK->Prop):List V->List V->Hp->(List V->Hp->Prop)->Prop
 | [],ks,H,k=>k ks H
 | x::xs,ks,H,k=>Ky x H (λkv H1=>Ux Ky xs (ks++[kv]) H1 k)
def A3k (vs ks:List V)(H:Hp)(Q:VK):Prop :=
 (vs.length<2/\∀p,H p=none->Q (.ref p) (upd H p (.lst vs))) \/
 (2<=vs.length/\vs.length<64/\∃ds kd p,TrL H ds ks/\ds.all (Nv kd)=true/\(∀d∈ds,Flat d)/\kEv (A1a kd ds) (kas_sort vs.length)=some p/\∀l,H l=none->Q (.ref l) (upd H l (.lst (p.toList.map λi=>vs.getD i .non))))
theorem Ax3:∀{vs:List V}{us:List Value},Vals vs us->∀i,RelV (vs.getD i .non) (us.getD i Value.none)
 | _,_,.nil,i=>rfl
 | _,_,.cons r rs,0=>r
 | _,_,.cons r rs,i+1=>Ax3 rs i
theorem Xi {vs:List V}{us:List Value}(r:Vals vs us):∀l:List Nat,Vals (l.map λi=>vs.getD i .non) (l.map λi=>us.getD i Value.none)
 | []=>.nil
 | i::l=>.cons (Ax3 r i) (Xi r l)
theorem Xj {v:V}{u:Value}(h:RelV v u):∀{vs:List V}{us:List Value},Vals vs us->Vals (vs++[v]) (us++[u])
 | _,_,.nil=>.cons h .nil
 | _,_,.cons r rs=>.cons r (Xj h rs)
theorem Vq {h:Heap}:∀{us:List Value}{ds:List PyData}{as:List Addr},ReadsAll h us ds as->∀{i:Nat}{d:PyData},ds[i]?=some d->∃as',Reads h (us.getD i Value.none) d as'
 | _,_,_,.nil,i,d,e=>by simp at e
 | _,_,_,.cons r rs,0,d,e=>by simp at e;subst e;exact⟨_,r⟩
 | _,_,_,.cons r rs,i+1,d,e=>Vq rs (by simpa using e)
section
variable {X:Cx}{pins:List (Addr×Obj)}{σ:St}{H:Hp}{s:Shared}{D S:Addr}{e1 n:Nat}{Q:VK}{P:PySem.Fin->Shared->Prop}{E:Value->Shared->Prop}{A:Around}
theorem X6 {d ous:List Value} {st:SortSt}(O:X.s₀.heap.objs.size<=D) (G:X.s₀.heap.objs.size<=S) (w:D≠S) (hp:∀p∈X.pn++pins,p.1≠S/\p.1≠D)
 (I:Inv X (pins++[(S,seqObj "list" d.toArray n),(D,seqObj "list" #[] e1)]) σ H s) (hz:outs.length<=sizeLine) (hk:d.length<=sizeLine)
 (ho:(arrOf st).map (·.2)=List.toArray ous) (hf:failedOf st=none) (B:Vals outs ous) (q:∀l,H l=none->Q (.ref l) (upd H l (.lst outs)))
 (F:∀s',EP X pins σ Q (.ref D) s'->P (.done (.ret .none)) s'):wpAny (model X.prog X.w) A (ksk_tail D false e1 (.ref S) st) P E s:=by
 obtain⟨j,k,m,J,N⟩:=I.pin (S,seqObj "list" d.toArray n) (List.mem_append_right _ (List.mem_append_right _ List.mem_cons_self));obtain⟨r,g,h,R,T⟩:=I.pin (D,seqObj "list" #[] e1) (List.mem_append_right _ (List.mem_append_right _ (List.mem_cons_of_mem _ List.mem_cons_self)))
 have f:∀x c,X.env.cells.lookup x=some c->c≠S/\c≠D:=λx c e=>by
  obtain⟨v,U,ho,K⟩:=I.cell x c e
  grind
 have L:Inv X pins σ H s:=I.pins_of λp hp=>I.pin p (List.mem_append_right _ (List.mem_append_left _ hp))
 have M:Inv X pins σ H { s with heap:=s.heap.update S (Obj.mapSeq λ_=>#[]) }:=L.turned (t':=s.toks) (λb o i e=>(Heap.get?_update_other s.heap _ (Ne.symm i)).trans e) k m (.inr G) (λx c e=>(f x c e).1) (λp a=>(hp p a).1)
 have t:(s.heap.update S (Obj.mapSeq λ_=>(#[]:Array Value))).get? D=some (seqObj "list" #[] e1):=(Heap.get?_update_other s.heap _ (Ne.symm w)).trans r
 obtain⟨C,y⟩:∃C,((s.heap.update S (Obj.mapSeq _)).update D (Obj.mapSeq λ_=>ous.toArray)).get? D=some _:=⟨_,get?_update_seq t _⟩
 have z:=B.length;unfold ksk_tail;rw[ho]
 refine wpAny_bind (listUpdate_at j rfl ?_ (by simp_all) (Nat.zero_le _))
 refine wpAny_bind (wpAny_letGo ?_)
 refine wpAny_bind (seqEpoch_at t rfl ?_)
 refine wpAny_bind (listUpdate_at t rfl ?_ (Nat.zero_le _) (by grind))
 rw[hf]
 simp
 refine wpAny_pure (F _ ⟨.ref D,upd H D _,?_,rfl,q D g⟩)
 exact M.adopt (λb u i e=>(Heap.get?_update_other _ _ (Ne.symm i)).trans e) g h O (λx c e=>(f x c e).2) (λp a=>(hp p a).2) ⟨hz,ous,C,B,y⟩
theorem A6m (hu:A.units+64<cLine) (R:X.s₀.heap.objs.size<=D) (M:X.s₀.heap.objs.size<=S) (h:D≠S) (hp:∀p∈X.pn++pins,p.1≠S/\p.1≠D)
 (I:Inv X (pins++[(S,seqObj "list" a.toArray n),(D,seqObj "list" #[] e1)]) σ H s) (hz:vs.length<=sizeLine) (m:Vals vs us) (rk:Vals ks a) (hl:a.length=us.length) (hw:A3k vs ks H Q)
 (L:∀d,EP X pins σ Q (.ref D) d->P (.done (.ret .none)) d):wpAny (model X.prog X.w) A (ksk_end D false us.toArray e1 (.ref S) a.toArray) P E s:=by
 have k:=m.length;unfold ksk_end;simp only[Bool.false_eq_true,if_false]
 rcases hw with ⟨Z,q⟩ | ⟨Z,U,w,T,p,t,u,g,f,q⟩
 ·have b:us.toArray.size<2:=by rw[List.size_toArray];omega
  rw[if_pos b,if_pos b]
  refine wpAny_bind (wpAny_pure ?_)
  rw[StateT.run_pure]
  refine wpAny_bind (wpAny_pure ?_)
  refine X6 R M h hp I hz (by omega) ?_ rfl m q L
  show (a.toArray.zip us.toArray).map (·.2)=us.toArray
  apply Array.ext';simp only[Array.toList_map,Array.toList_zip]
  exact List.map_snd_zip (l₁:=a) (l₂:=us) (by omega)
 ·have b:¬ us.toArray.size<2:=by rw[List.size_toArray];omega
  rw[if_neg b,if_neg b];obtain⟨as,v⟩:=t.reads I rk
  refine wpAny_bind (A5m v u (by omega) ?_)
  have o:us.length<64:=by omega
  rw[k]at f
  refine wpAny_bind (wpAny_mono (kat_run (Q:=λc d=>d=s/\arrOf c=p.map (kas_item (a.toArray.zip us.toArray))/\failedOf c=none/\p.size=us.length) (G:=λF d=>F=p/\d=s) hl (by omega) o (λF c d y K a3 a4=>?_) (A5e (B:=A1a T w) (λi j r C e W=>?_) _ p f ⟨rfl,rfl⟩)) ?_ λ_ _ z=>z)
  ·obtain⟨rfl,rfl⟩:=a4
   exact⟨rfl,K,a3,y⟩
  ·unfold A1a at e
   cases ei:w[i]? with
   | none=>rw[ei]at e;cases e
   | some di =>
    cases ej:w[j]? with
    | none=>rw[ei,ej]at e;cases e
    | some dj =>
     rw[ei,ej]at e;obtain⟨y,r1⟩:=Vq v ei;obtain⟨K,r2⟩:=Vq v ej;have J := List.mem_of_getElem? ei;have O := List.mem_of_getElem? ej;have N:=g _ J
     exact A9r r1 r2 N.1 (g _ O).1 (List.all_eq_true.mp u _ J) (List.all_eq_true.mp u _ O) (by have:=N.2;omega) e W
  ·rintro⟨⟨⟩,c⟩ d ⟨rfl,x,hf,Y⟩
   refine X6 R M h hp I ?_ (by omega) (kat_snds hl x) hf (Xi m _) q L
   rw[List.length_map,Array.length_toList];omega
def Br4 (X:Cx)(pins:List (Addr×Obj))(σ:St)(f:Addr)(Z:Hp->Prop)(Ky:V->Hp->VK->Prop):Prop :=
 ∀(pins':List (Addr×Obj)) (s:Shared) (H:Hp) (x:V) (u:Value) (Q':VK),Inv X (pins++pins') σ H s->Z H->RelV x u->Ky x H Q'->wpAny (model X.prog X.w) X.A.in1.in1 (call (.ref f) [u]) (EP X (pins++pins') σ λv H'=>Z H'/\Q' v H') (λ_ _=>False) s
theorem A2c (q:Br4 X pins σ f Z C) (hr:Room (k+2) X.A)
 (U:X.s₀.heap.objs.size<=D) (J:X.s₀.heap.objs.size<=S) (t:D≠S) (hp:∀p∈X.pn++pins,p.1≠S/\p.1≠D)
 (I:Inv X (pins++[(S,seqObj "list" #[] 0),(D,seqObj "list" #[] e1)]) σ H s) (hZ:Z H) (hz:vs.length<=sizeLine) (o:Vals vs us) (h:Ux C vs [] H (λks c=>A3k vs ks c Q))
 (hP:∀r,EP X pins σ Q (.ref D) r->P (.done (.ret .none)) r):wpAny (model X.prog X.w) X.A.in1.in1 (ksk_rest D (.ref f) false us.toArray e1 (.ref S)) P E s:=by
 have G:=o.length;unfold ksk_rest
 refine wpAny_bind (wpAny_rule ?_)
 rw[<- Array.forIn_toList]
 refine wpAny_bind (wpAny_mono (Xh (Iv:=λb s=>∃ks a n c i,Inv X (pins++[(S,seqObj "list" (List.toArray a) n),(D,seqObj "list" #[] e1)]) σ c s/\Vals ks a/\Vals i b/\a.length+b.length=us.length/\Z c/\Ux C i ks c (λks c=>A3k vs ks c Q)) ?_ us s ⟨[],[],0,H,vs,I,.nil,o,by simp,hZ,h⟩) (λ_ r T=>?_) λ_ _ z=>z)
 ·rintro x b s ⟨ks,a,n,c,i,g,u,w,K,e,m⟩
  rw[List.length_cons]at K
  cases w with
  | cons N Y =>
   refine wpAny_bind (wpAny_attempt (wpAny_mono (q _ s c _ x _ g e N m) (λj s2 h2=>?_) λ_ _ z=>z.elim))
   obtain⟨O,R,L,A,B,y⟩:=h2;obtain⟨l,t2,t3,W,t5⟩:=L.pin (S,seqObj "list" a.toArray n) (List.mem_append_right _ (List.mem_append_right _ List.mem_cons_self))
   have ea:(List.toArray a).push j=List.toArray (a++[j]):=by simp
   dsimp only
   refine wpAny_bind (listUpdate_at l rfl ?_ (by rw[List.size_toArray];omega) (by rw[Array.size_push,List.size_toArray];omega))
   have M:=get?_update_seq l (·.push j)
   rw[ea]at M
   refine wpAny_pure ⟨rfl,ks++[O],a++[j],_,R,_,L.recS J (λp d=>?_) (λp d=>(hp p (List.mem_append_left _ d)).1) M (λv z=>by cases z),Xj A u,Y,?_,B,y⟩
   ·grind
   ·rw[List.length_append,List.length_singleton];omega
 ·obtain⟨ks,a,n,c,i,g,u,F,K,e,m⟩:=T
  cases F
  obtain⟨l,t2,t3,W,t5⟩:=g.pin _ (List.mem_append_right _ (List.mem_append_right _ List.mem_cons_self))
  refine wpAny_bind (listItems_at l rfl ?_)
  have hu:X.A.in1.in1.units+64<cLine:=by have:=hr.un;show X.A.units+1+1+64<_;omega
  exact A6m hu U J t hp g hz o u (by omega) m hP
theorem Aq2 (F:Br4 X pins σ f Z N) (hr:Room (k+2) X.A)
 (I:Inv X pins σ H s) (hZ:Z H) (A:SqL X.K H a vs\/SqT X.K H a vs) (h:Ux N vs [] H (λks H1=>A3k vs ks H1 Q)) :
 wpAny (model X.prog X.w) X.A (call (.builtin "sorted") [.ref a] [(Str.ofString "key",.ref f)]) (EP X pins σ Q) E s:=by
 obtain⟨d,T,o,n,t,hT,ho,J,hd,w⟩:∃(d:List Value) (T:String) (o:Obj) (n:Nat),Vals vs d/\(T = "list" \/ T = "tuple")/\s.heap.get? a=some o/\o.cls=.type T/\o.data=.seq d.toArray n/\vs.length<=sizeLine:=by
  rcases A with A | A
  ·obtain⟨d,t,⟨o,n,r,j,c,g4⟩,w⟩:=I.list A
   exact⟨d, "list",o,n,t,.inl rfl,r,j,by first | exact c | exact g4,w⟩
  ·obtain⟨d,t,it,w⟩:=I.tuple A
   obtain⟨o,r,j,n,c⟩:=it;exact⟨d, "tuple",o,n,t,.inr rfl,r,j,c,w⟩
 have O:=t.length
 refine call_function_entry_kw kind_sorted plain_sorted entry_sorted (ksk_s1 _ _) ?_
 unfold Builtin.«sorted»
 refine wpAny_bind (m:=checkCount "sorted" 1 1 _) (wpAny_pure ?_)
 refine wpAny_bind (wpAny_collect_seq a hT ho J hd (λg U=>?_) (by rw[List.size_toArray];omega))
 refine wpAny_bind (wpAny_newList ?_ (by simp;omega))
 have l:Inv X pins σ H { s with heap:=g }:=I.kept (t':=s.toks) U
 have le:∀b o,s.heap.get? b=some o->b<g.objs.size:=λb o e=>Heap.lt_size (U b o e)
 have P:X.s₀.heap.objs.size<=g.objs.size:=l.sz;generalize hg1:g.push (seqObj "list" d.toArray 0)=r
 have W:r.objs.size=g.objs.size+1:=by rw[<- hg1,size_push']
 have B:r.get? g.objs.size=some (seqObj "list" d.toArray 0):=by rw[<- hg1];exact Heap.get?_push_size _ rfl
 refine wpAny_bind (wpAny_holding (wpAny_call_entry_kw slot_list_sort ⟨_,B,rfl⟩ entry_list_sort ?_ (ksk_l1 _ _)))
 show wpAny (model X.prog X.w) X.A.in1.in1 (Builtin.«list.sort» ⟨[.ref g.objs.size],[(Str.ofString "key",.ref f)]⟩) _ _ _
 rw[ksk_t1];unfold ksk_tree
 refine wpAny_bind (listItems_at B rfl ?_)
 refine wpAny_bind (listUpdate_at B rfl ?_ (by rw[List.size_toArray];omega) (Nat.zero_le _))
 generalize hg2:r.update g.objs.size (Obj.mapSeq λ_=>(#[]:Array Value))=j
 obtain⟨C,x⟩:∃C,j.get? g.objs.size=some (seqObj "list" #[] C):=⟨_,by rw[<- hg2];exact get?_update_seq B λ_=>#[]⟩
 have Y:j.objs.size=g.objs.size+1:=by rw[<- hg2,Heap.size_update,W]
 refine wpAny_bind (seqEpoch_at x rfl ?_)
 refine wpAny_bind (wpAny_newTuple ?_ (by simp;omega))
 refine wpAny_bind (wpAny_newList ?_ (Nat.zero_le _))
 refine wpAny_holding ?_
 generalize hg3:j.push { cls:=.type "tuple",data:=.seq d.toArray.toList.toArray }=c
 have e3:c.objs.size=g.objs.size+2:=by rw[<- hg3,Heap.size_push,Y]
 have M:=l.fpOk (b:=g.objs.size) (Nat.le_refl _) (l.hok.fresh (Nat.le_refl _))
 have G:=l.fpOk (b:=c.objs.size) (by show g.objs.size<=_;omega) (l.hok.fresh (by show g.objs.size<=_;omega))
 have y:∀b u,g.get? b=some u->(c.push { cls:=.type "list",data:=.seq ([]:List Value).toArray }).get? b=some u:=λb u e=>by
  have K:b<g.objs.size:=Heap.lt_size e
  have q1:r.get? b=some u:=by rw[<- hg1];exact Heap.get?_push_of_some _ e
  have q2:j.get? b=some u:=by rw[<- hg2];exact(Heap.get?_update_other _ _ (Nat.ne_of_gt K)).trans q1
  have q3:c.get? b=some u:=by rw[<- hg3];exact Heap.get?_push_of_some _ q2
  exact Heap.get?_push_of_some _ q3
 have R:Inv X pins σ H { s with heap:=c.push { cls:=.type "list",data:=.seq ([]:List Value).toArray } }:=l.kept (t':=s.toks) y
 have gS:(c.push { cls:=.type "list",data:=.seq ([]:List Value).toArray }).get? c.objs.size=some (seqObj "list" #[] 0):=Heap.get?_push_size _ rfl
 have L:(c.push { cls:=.type "list",data:=.seq ([]:List Value).toArray }).get? g.objs.size=some (seqObj "list" #[] C):=Heap.get?_push_of_some _ (by rw[<- hg3];exact Heap.get?_push_of_some _ x)
 have I3:Inv X (pins++[(c.objs.size,seqObj "list" #[] 0),(g.objs.size,seqObj "list" #[] C)]) σ H { s with heap:=c.push { cls:=.type "list",data:=.seq ([]:List Value).toArray } }:=R.pins_of λp i=>by
  rcases List.mem_append.mp i with z | z
  ·exact R.pin p (List.mem_append_right _ z)
  ·rcases List.mem_cons.mp z with rfl | z
   ·exact⟨gS,G.1,G.2.1,G.2.2.1,λv z=>by cases z⟩
   ·rw[List.mem_singleton.mp z]
    exact⟨L,M.1,M.2.1,M.2.2.1,λv z=>by cases z⟩
 refine A2c (us:=d) (D:=g.objs.size) (S:=c.objs.size) F hr P (Nat.le_trans P (by omega)) (λz=>by have z:g.objs.size=c.objs.size:=z;omega) (λp i=>⟨λz=>?_,λz=>?_⟩) I3 hZ w t h λs' q=>⟨_,rfl,wpAny_pure ⟨_,rfl,q⟩⟩
 ·exact absurd (Heap.lt_size (l.pin p i).1) (by rw[z];show ¬ c.objs.size<g.objs.size;omega)
 ·exact absurd (Heap.lt_size (l.pin p i).1) (by rw[z];show ¬ g.objs.size<g.objs.size;omega)
end
end L2
namespace L2
open PySem PySem.Spec PyProof.Rows
section
variable {X:Cx}
def B2i:V->Option Int->Option Int->Hp->VK->Prop:=λx lo hi H Q=>∃z:Str,x=.str z/\z.length<=sizeLine/\Q (.str (Txt.slice z lo hi)) H
theorem part_of (h:IsPart v o):∃p:Option (Int×Tok),v=partValue p/\p.map (·.1)=o:=by
 cases h with
 | none=>exact⟨none,rfl,rfl⟩
 | int i t=>exact⟨some (i,t),rfl,rfl⟩
theorem Bs4:SlR X B2i:=by
 intro a s σ H x v vl vu lo hi sl Q I d c b e h;obtain⟨z,rfl,f,q⟩:=h;obtain⟨t,rfl⟩:=d;obtain⟨l,rfl,rfl⟩:=part_of b;obtain⟨u,rfl,rfl⟩:=part_of e
 refine⟨"str",_,F.slot_str_getitem.lookup,typeIs_str _ _ _,wpAny_getItem_str_slice (l:=l) (u:=u) (st:=none) c rfl ?_⟩
 exact post_val_or_str ⟨Nat.le_trans (Txt.slice_le z _ _) f,λt' k=>⟨.str _,H,I.tok _,⟨_,rfl⟩,q⟩⟩
end
end L2
namespace L2
open PySem PySem.Spec PyProof.Rows PySem.W
section
variable {P:Program}{w:World}{H H':Hp}{h h1 h2 B:Heap}{a b:Addr}{o:HO}{outer:List Env}
theorem z9.there (x:z9 P w H h a o):∃u,h.get? a=some u:=by
 cases o with
 | lst d=>obtain⟨_,_,_,_,e⟩:=x;grind
 | tup d=>obtain⟨_,_,_,o,e,_⟩:=x;grind
 | dK b=>obtain⟨_,_,_,_,o,_,_,e,_⟩:=x;grind
 | dT b=>obtain⟨_,_,_,_,o,_,_,e,_⟩:=x;grind
 | set S n=>obtain⟨o,_,_,_,e,_⟩:=x;grind
 | ins C g c=>obtain⟨_,_,_,e,_⟩:=x;grind
 | own y=>exact x
 | xd c=>obtain⟨_,⟨_,_,_,e,_⟩,_⟩:=x;grind
 | rng j k=>obtain⟨_,_,_,e⟩:=x;grind
 | frz l u=>obtain⟨e,_⟩:=x;grind
 | tbl q=>obtain⟨_,e,_⟩:=x;grind
 | met f y=>exact⟨_,(x)⟩
 | ext i=>exact x.2.1
def Cov (fs:List Addr)(H':Hp)(h0 h B:Heap):Prop:=∀b o,h.get? b=some o->b∉fs->((∃u,h0.get? b=some u)\/H' b≠none)->B.get? b=some o
theorem By4 (u:Un (frs outer) [] H H' h h1)(hk:HOk P w H' h1)(i:Cov (frs outer) H' h h1 B)(r:h1.FunFrames B outer)(k:∀b∈frs outer,H' b=none)(st:B.StaysIn h2)(s:h1.UpToSlots h2) :
 Un (frs outer) [] H H' h h2/\HOk P w H' h2:=by
 have f:∀b:Addr,b∉([]:List _):=λb z=>nomatch z
 refine⟨⟨λb o e n c _=>st b o (i b o (u.keep b o e n c (f b)) c (.inl ⟨o,e⟩)),λb o e n c _=>?_,λb o e n _=>u.free b o e n (f b),λb o e _=>?_,u.tups,u.frzs,u.tbls⟩,λa o e=>?_⟩
 ·obtain⟨y,d⟩:=u.slot b o e n c (f b)
  obtain⟨_,p,g,l⟩:=r.mem c;rw[d]at g;cases g;obtain⟨j,v⟩:=s b _ d l
  grind
 ·obtain⟨p,d⟩:=u.there b o e (f b)
  by_cases c:b∈frs outer
  ·obtain⟨_,A,g,l⟩:=r.mem c
   obtain⟨j,v⟩:=s b _ g l
   grind
  ·exact⟨p,st b _ (i b _ d c (.inl ⟨o,e⟩))⟩
 ·have m := λb u t e=>st b u (i b u e (λz=>t (k b z)) (.inr t))
  refine (hk a o e).stay (λb u C x=>m b u ?_ x) (λ_ q=>q) λ_ _ q=>q
  grind
end
def TrD (h B:Heap)(e:Addr)(c:Value)(d:Option Addr)(fl:Value):Prop :=
 ∃oe vs T oT ts,h.get? e=some oe/\(oe.cls=c/\oe.dict=d)/\oe.data=.fields vs/\vs[1]?=some (.ref T)/\(B.get? T=none/\T≠e)/\h.get? T=some oT/\oT.data=.fields ts/\ts[3]?=some fl
structure FlyD (B:Heap) (l:List Env) (e:Addr) (c:Value) (d:Option Addr) (fl:Value) (h:Heap):Prop where
 st:B.StaysIn h
 no:B.get? e=none
 ff:h.FunFrames B l
 tr:TrD h B e c d fl
theorem Vv (o:Obj)(f:Array Value->Array Value):(o.mapFields f).dict=o.dict:=by
 obtain⟨c,d,a,b⟩:=o
 cases a <;> rfl
section
variable {M:Model}{A:Around}{E:Value->Shared->Prop}{s:Shared}{B:Heap}{env:Env}{l outer:List Env}{L e:Addr}{oe:Obj}{vs:Array Value}{c fl:Value}{d:Option Addr}{Q:Unit->Shared->Prop}
theorem FlyD.there {h:Heap}(x:FlyD B l e c d fl h):∃o,h.get? e=some o/\o.cls=c/\o.dict=d/\∃vs,o.data=.fields vs:=let ⟨oe,vs,_,_,_,he,hc,hd,_⟩:=x.tr; ⟨oe,he,hc.1,hc.2,vs,hd⟩
theorem FlyD.out {h:Heap}(x:FlyD B (env::l) e c d fl h):FlyD B l e c d fl h:=⟨x.st,x.no,x.ff.2.2,x.tr⟩
theorem Mx {h:Heap}{T:Addr}{a:Obj}{ts:Array Value}{f:Obj->Obj}(d:h.get? T=some a)(hd:a.data=.fields ts):(∀b,b≠T->(h.update T f).get? b=h.get? b)/\∀b o,h.get? b=some o->(∀vs,o.data≠.fields vs)->b≠T :=
 ⟨λb n=>Heap.get?_update_other _ _ (Ne.symm n),λb o q c z=>by grind⟩
theorem Up {c:Value}{hn:Bool}(k:A.frames=some (env::outer))(st:B.StaysIn s.heap)(y:B.get? e=none)(hl:s.heap.FunFrames B (env::outer))(G:env.frame=some L)(he:s.heap.get? e=some oe)(hd:oe.data=.fields vs)(hz:1<vs.size)
 (x:∀h',FlyD B (env::outer) e oe.cls oe.dict (rawInt L) h'->s.heap.UpToSlots h'->Q () { s with heap:=h' }) :
 wpAny M A (frameOf env >>= λa=>entryPlaceOf L hn >>= λg=>EntryCells.newEntry c a .none (rawInt L) .none g >>= λb=>setField (.ref e) 1 b) Q E s:=by
 have C:e∉(env::outer).filterMap (·.frame):=λm=>by
  obtain⟨_,o,q,D⟩:=hl.mem m
  simp_all
 refine wpAny_bind (wpAny_frameOf_fun k hl G λd j=>wpAny_bind (wpAny_entryPlaceOf λg F=>?_))
 unfold EntryCells.newEntry newFields
 refine wpAny_bind (wpAny_newObj_type ?_ (F.sizeOk5 _ _ _ _ _))
 have r:([c,.ref L,.none,rawInt L,.none]++(if g.isEmpty then List.replicate 6 Value.none else g)).toArray[3]?=some (rawInt L):=by simp
 have u:d.get? e=some oe:=(j.2.1 e C).trans he
 have v:B.StaysIn d:=λb o q=>(j.2.1 b λm=>by rw[(hl.mem m).1]at q;cases q).trans (st b o q)
 generalize ([c,.ref L,.none,rawInt L,.none]++(if g.isEmpty then List.replicate 6 Value.none else g)).toArray=ts at r
 generalize hob:({ cls:=.type "traceback",dict:=none,data:=.fields ts }:Obj)=ob
 have h:ob.data=.fields ts:=by grind
 have l:ob.isFreed=false:=Obj.isFreed_of_fields h;have p:=Heap.get?_push_of_some ob u;have t:d.objs.size≠e:=Nat.ne_of_gt (Heap.lt_size u)
 obtain⟨i,D⟩:=Mx (f:=Obj.mapFields (·.setIfInBounds 1 (.ref d.objs.size))) p hd
 have w:=Obj.data_mapFields hd (·.setIfInBounds 1 (.ref d.objs.size))
 have I:∀b o,b≠e->d.get? b=some o->((d.push _).update e _).get? b=some o:=λb o n q=>(i b n).trans (Heap.get?_push_of_some _ q)
 refine wpAny_setField p hd hz (x _ ⟨λb o q=>I b o λz=>by grind (v b o q),y,hl.of_keeps λb o q n=>?_,?_⟩ λb o q n=>?_)
 ·obtain⟨J,H⟩:=j.2.2 b o q
  grind
 ·exact⟨_,_,d.objs.size,ob,ts,Heap.get?_update_self _ p (Obj.isFreed_of_fields w),⟨Obj.cls_mapFields _ _,Vv _ _⟩,w,by grind,⟨v.fresh,t⟩,(i _ t).trans (Heap.get?_push_size _ l),h,r⟩
 ·obtain⟨J,H⟩:=j.2.2 b o q
  grind
theorem Al8 (a:A.frames=some (env::outer))(st:B.StaysIn s.heap)(d:B.get? e=none)(hl:s.heap.FunFrames B (env::outer))(b:env.frame=some L)(he:s.heap.get? e=some oe)(hd:oe.data=.fields vs)(h1:vs[1]?=some .none)
 (c:∀h',FlyD B (env::outer) e oe.cls oe.dict (rawInt L) h'->s.heap.UpToSlots h'->Q () { s with heap:=h' }):wpAny M A (noteFrame (.ref e) env) Q E s:=by
 unfold noteFrame;simp only[b]
 refine wpAny_bind (wpAny_field he hd h1 ?_)
 exact Up a st d hl b he hd (Array.getElem?_eq_some_iff.mp h1).1 c
theorem Zv (h:A.frames=some (env::outer))(l:env.frame=some L)(x:FlyD B (env::outer) e c d .none s.heap)
 (D:∀g,FlyD B (env::outer) e c d (rawInt L) g->s.heap.UpToSlots g->Q () { s with heap:=g }):wpAny M A (noteFrame (.ref e) env) Q E s:=by
 obtain⟨v,y,w,oe,vs,T,oT,ts,r,⟨rfl,rfl⟩,k,m,⟨hB,C⟩,j,i,p⟩:=x
 obtain⟨a,t⟩:=Mx (f:=Obj.mapFields (·.setIfInBounds 3 .none)) j i
 unfold noteFrame;simp only[l]
 refine wpAny_bind (wpAny_field r k m ?_)
 rw[if_pos (by simp)]
 refine wpAny_bind (wpAny_field j i p ?_)
 refine wpAny_bind (wpAny_setField j i (Array.getElem?_eq_some_iff.mp p).1 ?_)
 exact Up h (λb o q=>(a b λz=>by simp_all).trans (v b o q)) y (w.of_keeps λb o q n=>⟨o,(a b (t b o q n)).trans q,rfl⟩) l ((a e (Ne.symm C)).trans r) k (Array.getElem?_eq_some_iff.mp m).1
  λg f u=>D _ f λb o q n=>u b o ((a b (t b o q n)).trans q) n
theorem Qq (x:FlyD B l e c d fl s.heap)(v:∀h',FlyD B l e c d .none h'->s.heap.UpToSlots h'->Q () { s with heap:=h' }):wpAny M A (setFlight (.ref e) none) Q E s:=by
 obtain⟨F,D,t,H,w,T,J,I,k,u,p,m,⟨y,j⟩,h,g,C⟩:=x;obtain⟨a,r⟩:=Mx h g;have G:=(Array.getElem?_eq_some_iff.mp C).1
 refine wpAny_bind (wpAny_field k p m ?_)
 have i:=Obj.data_mapFields g (·.setIfInBounds 3 ((none:Option _).elim Value.none λf=>rawInt f))
 refine wpAny_setField h g G (v _ ⟨λb o q=>(a b λz=>by simp_all).trans (F b o q),D,t.of_keeps λb o q n=>⟨o,(a b (r b o q n)).trans q,rfl⟩,?_⟩ λb o q n=>⟨o.slots,(a b (r b o q n)).trans q⟩)
 exact⟨H,w,T,_,_,(a e (Ne.symm j)).trans k,u,p,m,⟨y,j⟩,Heap.get?_update_self _ h (Obj.isFreed_of_fields i),i,by grind⟩
theorem A3z (a:A.frames=some (env::outer))(f:env.frame=some L)(x:FlyD B (env::outer) e c d .none s.heap)(g:∀h',FlyD B outer e c d .none h'->s.heap.UpToSlots h'->Q () { s with heap:=h' }):wpAny M A (leaving env (.ref e)) Q E s :=
 wpAny_bind (Zv a f x λk j h=>Qq j λl i b=>g _ i.out (h.trans b))
theorem Ae0 (a:A.frames=some (env::outer))(st:B.StaysIn s.heap)(c:B.get? e=none)(hl:s.heap.FunFrames B (env::outer))(d:env.frame=some L)(he:s.heap.get? e=some oe)(hd:oe.data=.fields vs)(h1:vs[1]?=some .none)
 (f:∀h',FlyD B outer e oe.cls oe.dict .none h'->s.heap.UpToSlots h'->Q () { s with heap:=h' }):wpAny M A (leaving env (.ref e)) Q E s :=
 wpAny_bind (Al8 a st c hl d he hd h1 λh1 g h=>Qq g λj i b=>f _ i.out (h.trans b))
end
structure Fly (outer:List Env) (H':Hp) (h0:Heap) (a:Addr) (cls:Value) (d:Option Addr) (h:Heap):Prop where
 fl:∃B,FlyD B outer a cls d .none h/\Cov (frs outer) H' h0 h B
 new:∀b o,h0.get? b=some o->b≠a
 free:H' a=none
def CXe (P:Program)(w:World):CXT:=λouter H s E e s'=>∃a C d H',e=.ref a/\Fly outer H' s.heap a (.ref C) d s'.heap/\s'.os=s.os/\AllBare s'.gens/\Un (frs outer) [] H H' s.heap s'.heap/\HOk P w H' s'.heap/\E (.ref C) d H'
section
variable {X:Cx}{pins:List (Addr×Obj)}{σ:St}{H H':Hp}{s s':Shared}
theorem Inv.flown {h2 B:Heap}{tk:Nat}(I:Inv X pins σ H s)(u:Un (frs X.stack) [] H H' s.heap s'.heap)(hk:HOk X.prog X.w H' s'.heap)(h:s'.os=s.os)(a:AllBare s'.gens)
 (l:s'.heap.FunFrames B X.stack) (c:Cov (frs X.stack) H' s.heap s'.heap B) (st:B.StaysIn h2) (g:s'.heap.UpToSlots h2):Inv X pins σ H' { s' with heap:=h2,toks:=tk }:=by
 have d:∀b∈frs _,H' b=none:=λb e=>by
  obtain⟨_,o,i,_⟩:=I.stack.mem e
  exact u.free b o i (I.stkFree b e) λz=>nomatch z
 obtain⟨j,k⟩:=By4 u hk c l d st g
 obtain⟨v,f,I2,_,rfl⟩:=I.after (s':={ s' with heap:=h2,toks:=tk }) (Q:=λ_ f=>f=H') ⟨.non,H',h,a,j,k,rfl,rfl⟩
 grind
end
section
variable {P:Program}{w:World}{K:PySem.W.Frag}{mg:Str->Option Value}{base:Heap}{N:List Str}{qual:Str}{scope:Scope}{f:Addr}{cd:Value}{A:Around}{outer:List Env}{s₀:Shared}{H₀:Hp}{E:XK}
theorem Ez:Hi (CXe P w) (Pz (CXe P w) P w K mg base N qual scope f cd A outer s₀ H₀ E) E:=by
 intro t σ H s e x I h;obtain⟨a,C,d,D,rfl,⟨⟨B,y,m⟩,Q,L⟩,v,c,u,j,q⟩:=h
 refine A3z I.ok.frames rfl y λG g F=>?_
 have n:Inv (Pz (CXe P w) P w K mg base N qual scope f _ A _ _ _ E) _ _ _ { x with heap:=G }:=I.flown u j v c y.ff m g.1 F
 have J:∀b o,s₀.heap.get? b=some o->∃r,s.heap.get? b=some _:=λb o e=>I.base.there b o e λz=>nomatch z
 refine⟨a,C,d,D,rfl,⟨⟨B,g,λb o e hf l=>?_⟩,λb o e=>?_,L⟩,v.trans I.os,c,n.base,n.hok,q⟩
 ·have nl:b≠(envOfC qual scope s₀.heap.objs.size f cd).locals:=by
   rintro rfl
   rcases l with ⟨M,k⟩ | l
   ·exact absurd (Heap.lt_size k) (Nat.lt_irrefl _)
   ·exact l n.free
  have p:b∉frs _:=λz=>by
   rcases List.mem_cons.mp (I.stkSub b z) with q | q
   ·trivial
   trivial
  have i:∃r,x.heap.get? b=some r:=by
   rcases l with ⟨M,k⟩ | l
   ·obtain⟨o1,O⟩:=J b _ k
    exact u.there b _ O λz=>nomatch z
   ·cases q':D b with
    | none=>grind
    | some ho=>exact(j b _ q').there
  obtain⟨r,k⟩:=i
  have:=m b _ k p (by
   grind)
  have e2:=g.1 b _ this
  simp_all
 grind
end
structure MadeX (h h':Heap) (e C:Addr) (d:Option Addr):Prop where
 keeps:∀b o,h.get? b=some o->h'.get? b=some o
 new:h.get? e=none
 there:∃oe vs,h'.get? e=some oe/\oe.cls=.ref C/\oe.dict=d/\oe.data=.fields vs/\vs[1]?=some .none
def Raises (X:Cx)(E:XK):Prop:=∀(pins:List (Addr×Obj)) (σ:St) (H:Hp) (s:Shared) (h':Heap) (e C:Addr) (d:Option Addr),Inv X pins σ H s->MadeX s.heap h' e C d->E (.ref C) d H->X.xe (.ref e) { s with heap:=h' }
section
variable {P:Program}{w:World}{K:PySem.W.Frag}{mg:Str->Option Value}{base:Heap}{N:List Str}{qual:Str}{scope:Scope}{f:Addr}{cd:Value}{A:Around}{outer:List Env}{s₀:Shared}{H₀:Hp}{E:XK}
theorem A1d:Raises (Pz (CXe P w) P w K mg base N qual scope f cd A outer s₀ H₀ E) E:=by
 intro F σ H s p e C d I c q;obtain⟨oe,vs,U,mc,L,M,O⟩:=c.there
 let X:=Pz (CXe P w) P w K mg base N qual scope f cd A outer s₀ H₀ E
 have n:(hideAll s.heap (frs X.stack)).StaysIn s.heap:=λb o z=>of_hideAll _ z
 have V:s.heap.FunFrames (hideAll s.heap (frs X.stack)) X.stack:=funFrames_hide I.stack λv Y b a=>List.mem_filterMap.mpr ⟨v,Y,a⟩
 have m:p.FunFrames (hideAll s.heap (frs X.stack)) X.stack:=V.of_keeps λb o z _=>⟨o,c.keeps b o z,rfl⟩
 have h:HOk P w H p:=I.hok.kept c.keeps
 have J:H e=none:=by
  cases z:H e with
  | none=>rfl
  | some t =>
   obtain⟨u,l⟩:=(I.hok e t z).there;rw[c.new]at l;cases l
 have k:Cov (frs X.stack) H _ _ _:=λb o z x a=>by
  have:∃u,s.heap.get? b=some u:=by
   rcases a with a | a
   ·exact a
   ·cases y:H b with
    | none=>exact absurd y a
    | some t=>exact(I.hok b _ y).there
  obtain⟨u,l⟩:=this;have:=c.keeps b u l;rw[z]at this;cases this;exact hideAll_get _ l x
 have Q:(hideAll s.heap (frs X.stack)).get? e=none:=by
  cases z:(hideAll _ _).get? e with
  | none=>rfl
  | some o =>
   have y:=n e o z;rw[c.new]at y;cases y
 refine Ae0 I.ok.frames (λb o z=>c.keeps b o (n b o z)) Q m rfl U M O λR g T=>?_
 rw[mc,L]at g
 have D:Inv X _ _ H { s with heap:=R }:=I.flown (s':={ s with heap:=p }) (Un.kept c.keeps) h rfl I.bare m k g.1 T
 have G:∀b o,s₀.heap.get? b=some o->∃r,s.heap.get? b=some _:=λb o z=>I.base.there b o z λz=>nomatch z
 refine⟨e,C,d,H,rfl,⟨⟨_,g,λb o z x a=>?_⟩,λb o z y=>?_,J⟩,I.os,I.bare,D.base,D.hok,q⟩
 ·have W:b≠(envOfC qual scope s₀.heap.objs.size f cd).locals:=by
   rintro rfl
   rcases a with ⟨S,i⟩ | a
   ·exact absurd (Heap.lt_size i) (Nat.lt_irrefl _)
   ·exact a D.free
  have B:b∉frs _:=λz=>by
   rcases List.mem_cons.mp (I.stkSub b z) with q | q
   ·exact W q
   ·exact x q
  have j:∃r,p.get? b=some r:=by
   rcases a with ⟨S,i⟩ | a
   ·obtain⟨o1,Z⟩:=G b _ i
    exact⟨o1,c.keeps b _ Z⟩
   ·cases q':H b with
    | none=>exact absurd q' a
    | some t=>exact(h b _ q').there
  obtain⟨r,i⟩:=j
  have:=k b _ i B (by
   grind)
  have e2:=g.1 b _ this
  simp_all
 ·obtain⟨r,i⟩:=G b o z
  rw[y,c.new]at i;cases i
end
theorem Ht {K:PySem.W.Frag}{h:Heap}{C:Addr}(X:K.In h)(q:Wn K C=true):∃c N g i m j b k a dd k0 k1 k2 k3 k5,h.get? C=some (excClassObj g i C N m c true j b k a dd k0 k1 k2 k3 k5 "ValueError.__new__")/\OwnTail h bmV c:=by
 unfold Wn at q
 split at q
 ·rename_i d1 D v F
  have E:=X _ _ F
  simp at q
  obtain⟨⟨⟨y,B⟩,e⟩,d⟩:=q
  split at e
  ·rename_i A c x
   split at d
   ·rename_i r s t u n p o
    simp at e d
    obtain⟨H,w⟩:=e;obtain⟨g,m,z,f,i,hd,j,b,k,a,G⟩:=D;subst H x y B d
    obtain rfl:v=#[r,s,t,u,some (.builtin "ValueError.__new__"),p]:=by
     obtain⟨l⟩:=v
     dsimp only at o
     rw[o]
    exact⟨c,f,g,i,m,j,b,k,a,_,r,s,t,u,p,E,tail_of_in X w⟩
   ·cases d
  ·cases e
 ·cases q
section
variable {X:Cx}{pins:List (Addr×Obj)}{σ:St}{H:Hp}{s s':Shared}{CX:CXT}{k:Nat}{f:Addr}{fd:FuncData}{ps:List Str}{sp:Sp}{dvs:List V}{ds:List Value}{E:XK}{x:Str}{p pos:Pos}{e:Expr}{es:List Expr}{t:TA}{Q:VK}
theorem A5t (F:FnOk X.prog X.w X.K X.mg X.base CX k f fd ps sp)(hr:Room k X.A)(hg:Gl X x)(hm:X.mg x=some (.ref f))(hk:PySem.W.keepIn X.K (.ref f)=true)(hb:Binds X.K fd ps ds)(hd:Vals dvs ds)(hx0:∀e s,¬ X.xe e s)
 (ha:PA X (e::es) t) (I:Inv X pins σ H s) (h:t σ H λvs H1=>sp (vs++dvs) H1 Q E) (hdb:(x==("__debug__" : Str))=false:=by decide) (he:starEach (e::es) X.env=(false,eval e X.env)::starEach es X.env:=by rfl) (hpl:(backTo pos (starEach es X.env)).any (·.1)=false:=by rfl) :
 wpAny (model X.prog X.w) X.A (eval (.Call (.Name x p) (e::es) [] pos) X.env) (EP X pins σ Q) (λev s'=>∃H1 s1,Inv X pins σ H1 s1/\CX X.stack H1 s1 E ev s') s:=by
 have arg:=wpAny_mono (E':=λev s'=>∃H1 s1,Inv X pins σ H1 s1/\CX X.stack H1 s1 E ev s') (ha pos pins s σ H _ I h) (λ_ _ z=>z) (λev s2 z=>absurd z (hx0 ev s2))
 refine wpAny_Call_Name_kw (Lg I hg hm ?_ hdb)
 refine PySem.W.callWith_K (h₀:=X.base) I.ok.mod.kin hk (thn arg λus s1 ⟨vs,H1,I1,r,q⟩=>⟨I1.kIn,?_⟩) he hpl
 have r2:Vals (vs++dvs) (us++ds):=r.append hd
 have hl:(us++ds).length=ps.length:=by rw[<- r2.length];exact F.len _ _ _ _ q
 refine wpAny_call (codeAny_mono (F.run X.A X.stack s1 H1 ⟨us,[]⟩ (us++ds) (vs++dvs) Q E hr I1.env0 (hb s1 us I1.kIn hl) r2 q) λr s' hq=>?_)
 cases r with
 | error ev=>exact⟨H1,s1,I1,hq⟩
 | ok fl =>
  cases fl with
  | ret u=>exact I1.after hq
  | next=>exact False.elim hq
  | brk=>exact False.elim hq
  | cont=>exact False.elim hq
noncomputable def Ld (a C:Addr) (d:Option Addr):HO:=.ext λh=>∃o,h.get? a=some o/\o.cls=.ref C/\o.dict=d/\∃vs,o.data=.fields vs
theorem Bd4 {P:Program}{w:World}{a C:Addr}{d:Option Addr}{h:Heap}{o:Obj}(e:h.get? a=some o)(c:o.cls=.ref C)(hd:o.dict=d/\∃vs,o.data=.fields vs):z9 P w H h a (Ld a C d) :=
 ⟨⟨o,e,c,hd⟩,⟨o,e⟩,λf b ⟨o,e,c⟩ k=>⟨o,k o e,c⟩⟩
theorem Inv.track {a:Addr}{o:HO}(I:Inv X pins σ H s)(hn:H a=none)(w:X.s₀.heap.get? a=none)(l:a≠X.env.locals)(h2:∀x c,X.env.cells.lookup x=some c->c≠a)(m:∀p∈X.pn++pins,p.1≠a)
 (i:z9 X.prog X.w (upd H a o) s.heap a o):Inv X pins σ (upd H a o) s:=by
 have d:∀b u,H b=some u->b≠a:=λb u e z=>by grind
 have h:∀b u,X.s₀.heap.get? b=some u->b≠a:=λb u e z=>by simp_all
 refine⟨I.ok,I.os,I.bare,⟨I.base.keep,I.base.slot,λb u e n j=>by rw[Ag (h b u e)];exact I.base.free b u e n j,I.base.there,λb f e=>by
  have:=I.base.tups b f e
  rw[Ag (d _ _ this)];exact this,λb u v e=>by
  have:=I.base.frzs b u v e
  rw[Ag (d _ _ this)];exact this,λb A e=>by
  have:=I.base.tbls b _ e
  rw[Ag (d _ _ this)];exact this⟩,I.loc,I.cell,by rw[Ag (Ne.symm l)];exact I.free,λy c e=>by rw[Ag (h2 y c e)];exact I.freeC y c e,λp g=>?_,λb u e=>?_,I.len⟩
 ·obtain⟨k,q,r⟩:=I.pin p g
  exact⟨k,by rw[Ag (m p g)];exact q,r⟩
 ·by_cases hb:b=a
  ·subst hb
   rw[Ax]at e;grind
  ·rw[Ag hb]at e
   exact(I.hok b u e).stay (λc v _ z=>z) (λc z=>by rw[Ag (d _ _ z)];exact z) (λc f z=>by rw[Ag (d _ _ z)];exact z) λc t f z=>by rw[Ag (d _ _ z)];exact z
theorem Inv.unbound {j:Nat}{n:Str}{h':Heap}{m x:Str->Option Value}{tk:Nat}(I:Inv X pins σ H s)(hN:X.N.Nodup)(hj:X.N[j]?=some n)(hm:s.heap.Ns X.env.locals m)(t:h'.Ns X.env.locals x)(l:∀y,y≠n->x y=m y)(J:Heap.SameBut X.env.locals s.heap h') :
 Inv X pins (σ.set j none) H { s with heap:=h',toks:=tk }:=by
 have d:∀b u,b≠X.env.locals->s.heap.get? b=some u->h'.get? b=some u:=λb u K e=>J.extBut b u K e
 have A:∀b u,X.s₀.heap.get? b=some u->b≠X.env.locals:=λb u e z=>by
  have:=Heap.lt_size e;rw[z]at this;exact absurd (Nat.lt_of_lt_of_le this I.ok.above) (Nat.lt_irrefl _)
 have B:∀{y:Str} {c:Addr} {v:Option Value},X.env.cells.lookup y=some c->s.heap.IsCell c v->h'.IsCell c v:=λ{y c v} e ⟨o,N,M⟩=>⟨o,d c o (I.cne y c e) N,M⟩
 refine⟨I.ok,I.os,I.bare,⟨λb u e n p g=>d b u (A b u e) (I.base.keep b u e n p g),λb u e n p g=>?_,I.base.free,λb u e g=>?_,I.base.tups,I.base.frzs,I.base.tbls⟩,⟨x,t,λi y v k D T=>?_⟩,λy c e=>?_,I.free,I.freeC,λq U=>?_,λb u e=>?_,by rw[List.length_set];exact I.len⟩
 ·obtain⟨G,q⟩:=I.base.slot b u e n p g
  exact⟨G,d b _ (A b u e) q⟩
 ·obtain⟨C,q⟩:=I.base.there b u e g
  exact⟨C,d b C (A b u e) q⟩
 ·have E:i≠j:=λz=>by
   grind
  rw[List.getElem?_set_ne (Ne.symm E)]at D;obtain⟨L,w,F⟩:=I.loc
  have O:L=m:=by
   obtain⟨o1,P,p1,g1,d1,_,f1⟩:=w;obtain⟨o2,Q,p2,Z,d2,_,f2⟩:=hm
   grind
  subst O;obtain⟨u,r,R⟩:=F i y v k D T
  refine⟨u,r,?_⟩
  rcases R with ⟨f,a⟩ | ⟨f,c,a,h⟩
  ·have S:y≠n:=λz=>E (by
    subst z
    exact(List.getElem?_inj (List.getElem?_eq_some_iff.mp k).1 hN).mp (k.trans hj.symm))
   exact .inl ⟨f,by rw[l y S];exact a⟩
  ·exact .inr ⟨f,c,a,B a h⟩
 ·obtain⟨v,z⟩:=I.cell y c e
  exact⟨v,B e z⟩
 ·obtain⟨f,a,h,V⟩:=I.pin q U
  exact⟨d _ _ h f,a,h,V⟩
 ·have W:∀b u v,H b=some u->s.heap.get? b=some v->h'.get? b=some v:=λb u v z e=>d b v (λy=>by rw[y,I.free]at z;cases z) e
  refine (I.hok b u e).stay (λc v Y z=>?_) (λ_ z=>z) λ_ _ z=>z
  grind
noncomputable def Rp (X:Cx) (a:Addr):Cx:={ X with A:=X.A.mark (some (.ref a)),calm:=false,xe:=λ_ _=>False }
theorem Inv.mark (I:Inv X pins σ H s)(a:Addr):Inv (Rp X a) pins σ H s :=
 ⟨⟨I.ok.mod,I.ok.kind,I.ok.glob,I.ok.blt,I.ok.above,I.ok.inj,I.ok.has,I.ok.cab,(λz=>nomatch z),I.ok.frames,I.ok.stk,I.ok.exf,I.ok.bs,I.ok.bsz,I.ok.noex,I.ok.exfs,I.ok.funs,I.ok.frf,I.ok.tab⟩,I.os,I.bare,I.base,I.loc,I.cell,I.free,I.freeC,I.pin,I.hok,I.len⟩
theorem Inv.unmark {a:Addr}(b:X.Ok)(I:Inv (Rp X a) pins σ H s):Inv X pins σ H s:=⟨b,I.os,I.bare,I.base,I.loc,I.cell,I.free,I.freeC,I.pin,I.hok,I.len⟩
end
section
variable {X:Cx}{pins:List (Addr×Obj)}{σ:St}{H H1:Hp}{s s1 s':Shared}{E:XK}{D:Ends}{y n:Str}{Fc:Addr}{yp hpos:Pos}{b₀:Stmt}{suite:List Stmt}{th:TS}{j:Nat}{ev:Value}
theorem A1x (U:X.ex=[])(hs:X.stack=X.env::X.outer/\X.env.frame=some X.env.locals)(hN:X.N.Nodup)(hj:X.N[j]?=some n)(l:X.env.scope.names.lookup n=some .local)(hg:Gl X y)(hm:X.mg y=some (.ref Fc))(hsu:∀a,PSs (Rp X a) (b₀::suite) th)
 (I:Inv X pins σ H1 s1) (cx:CXe X.prog X.w X.stack H1 s1 E ev s') (hE:∀C d t,E (.ref C) d t->exmOne X.K (.ref C) (.ref Fc)=some true/\∀a,t a=none->th { nx:=λZ H3=>D.nx (Z.set j none) H3,rt:=D.rt } (σ.set j (some (.ref a))) (upd t a (Ld a C d)))
 (hdb:(y==("__debug__" : Str))=false:=by decide) :
 wpAny (model X.prog X.w) X.A (noteFrame ev X.env) (λ_ R=>wpAny (model X.prog X.w) X.A (setFlight ev none) (λ_ L=>wpAny (model X.prog X.w) X.A (handleBy ev X.env [.ExceptHandler (some (.Name y yp)) (some n) (b₀::suite) hpos]) (SP X pins D) X.xe L) X.xe R) X.xe s':=by
 obtain⟨a,C,d,t,rfl,⟨⟨B,fl,N⟩,k,fr⟩,os,r,u,Q,q⟩:=cx;obtain⟨hex,G⟩:=hE C d t q;have G:=G a fr;have H:=fl;rw[hs.1]at H
 refine Zv (I.ok.frames.trans (congrArg some hs.1)) hs.2 H λh4 J K=>?_
 refine Qq (s:={ s' with heap:=h4 }) J λS A P=>?_
 have I5:Inv X pins σ t { s' with heap:=S }:=I.flown (tk:=s'.toks) u Q os r fl.ff N A.1 (K.trans P)
 obtain⟨ob,W,Y,_⟩:=A.there;have LT:Looks (model X.prog X.w) S (typeOf (.ref a)) (.ref C):=Y▸(Looks.ld W).andThen .now;have LX:=exm_one (M:=model X.prog X.w) (h:=S) I5.kIn LT hex
 refine wpAny_handleBy_cons (codeAny_handlers_test (Lg (X:=Rp X a) (I5.mark a) hg hm ?_ hdb)) (by intro z;cases z)
 refine LX.here ?_
 refine codeAny_handlers_suite_as ?_
 refine Qq (s:={ s' with heap:=S }) A λh6 O up6=>?_
 have I6:Inv X pins σ t { s' with heap:=h6 }:=I.flown (tk:=s'.toks) u Q os r fl.ff N O.1 ((K.trans P).trans up6)
 obtain⟨o6,ho6,hc6,hd6⟩:=O.there
 have n0:X.s₀.heap.get? a=none:=by
  cases z:X.s₀.heap.get? a with
  | none=>rfl
  | some o0 =>
   obtain⟨o1,e1⟩:=I.base.there a o0 z (by rw[U];simp)
   exact absurd rfl (k a o1 e1)
 have I7:Inv X pins σ (upd t a (Ld a C d)) { s' with heap:=h6 }:=I6.track fr n0 (λz=>by
  obtain⟨m,⟨o,es,ep,e,_⟩,_⟩:=I.loc
  exact k _ o e z.symm) (λy c e z=>by
  obtain⟨v,o,e1,_⟩:=I.cell y c e
  exact k c o e1 z) (λp hp z=>k _ _ (I.pin p hp).1 z) (Bd4 ho6 hc6 hd6)
 refine Vs (v:=.ref a) I7 hN hj (.inl l) rfl (λs8 I8=>?_) (.inr l)
 refine wpAny_mono (hsu a _ _ _ _ _ (I8.mark a) G) (λfw s9 T=>?_) λ_ _ z=>z.elim
 have x:(X.env.scope.kind==.class||X.env.scope.kind==.module&&X.env.locals != X.env.globals)=false:=by rw[I.ok.kind];rfl
 cases fw with
 | next =>
  obtain⟨V,H9,i,F⟩:=T;have i:=i.unmark I.ok;obtain⟨m,g,_⟩:=id i.loc
  exact wpAny_nameGoes_keeps l g x λh10 v f sb=>⟨_,H9,i.unbound hN hj g f (λy hy=>if_neg hy) sb,F⟩
 | ret w =>
  obtain⟨v,V,H9,i,r9,F⟩:=T;have i:=i.unmark I.ok;obtain⟨m,g,_⟩:=id i.loc
  exact wpAny_nameGoes_keeps l g x λh10 v' f sb=>⟨v,_,H9,i.unbound hN hj g f (λy hy=>if_neg hy) sb,r9,F⟩
 | brk=>obtain⟨_,_,_,F⟩:=T;exact F.elim
 | cont=>obtain⟨_,_,_,F⟩:=T;exact F.elim
end
section
variable {X:Cx}{k:Nat}{f:Addr}{fd:FuncData}{ps:List Str}{sp:Sp}{x y n:Str}{p pos epos cpos yp hpos:Pos}{e:Expr}{es:List Expr}{t:TA}{Fc:Addr}{b₀:Stmt}{suite:List Stmt}{th:TS}{j i:Nat}
def Br3 (K:PySem.W.Frag)(Fc:Addr)(j:Nat)(sp:Sp)(t:TA)(i:Option Nat)(th:TS):TS:=λD σ H=>t σ H λvs H1=>sp vs H1 (λu H2=>D.nx (match i with | some i=>σ.set i (some u) | none=>σ) H2)
 (λc d H2=>∃C,c=.ref C/\exmOne K c (.ref Fc)=some true/\∀a,H2 a=none->th { nx:=λσ2 H3=>D.nx (σ2.set j none) H3,rt:=D.rt } (σ.set j (some (.ref a))) (upd H2 a (Ld a C d)))
theorem Bg8 (F:FnOk X.prog X.w X.K X.mg X.base (CXe X.prog X.w) k f fd ps sp)(hr:Room k X.A)(hgf:Gl X x)(hmf:X.mg x=some (.ref f))(hk:PySem.W.keepIn X.K (.ref f)=true)(hb:Binds X.K fd ps [])(hxe:∀e s,¬ X.xe e s)(ha:PA X (e::es) t)
 (hx0:X.ex=[]) (hs:X.stack=X.env::X.outer/\X.env.frame=some X.env.locals) (hN:X.N.Nodup) (hj:X.N[j]?=some n) (hlo:X.env.scope.names.lookup n=some .local) (hg:Gl X y) (hm:X.mg y=some (.ref Fc)) (hsu:∀a,PSs (Rp X a) (b₀::suite) th)
 (hd1:(x==("__debug__" : Str))=false:=by decide) (hd2:(y==("__debug__" : Str))=false:=by decide) (he:starEach (e::es) X.env=(false,eval e X.env)::starEach es X.env:=by rfl) (hpl:(backTo cpos (starEach es X.env)).any (·.1)=false:=by rfl)
 (hsw:swapsWith (.Call (.Name x p) (e::es) [] cpos) none epos.line X.env=pure false:=by rfl) :
 PS X (.Try [.Expr (.Call (.Name x p) (e::es) [] cpos) epos] [.ExceptHandler (some (.Name y yp)) (some n) (b₀::suite) hpos] [] [] pos) (Br3 X.K Fc j sp t none th):=by
 intro pins s σ H D I h
 have h0:t σ H λvs H1=>sp (vs++[]) H1 (λu H2=>D.nx σ H2) (λc d H2=>∃C,c=.ref C/\exmOne X.K c (.ref Fc)=some true/\∀a,H2 a=none->th { nx:=λσ2 H3=>D.nx (σ2.set j none) H3,rt:=D.rt } (σ.set j (some (.ref a))) (upd H2 a (Ld a C d))):=by
  simp only[List.append_nil];exact h
 refine wpAny_Try_except (wpAny_execs_cons (wpAny_Expr_any ?_ I.quiet hsw))
 refine wpAny_mono (A5t F hr hgf hmf hk hb .nil hxe ha I h0 hd1 he hpl) (λu s1 ⟨v1,H1,I1,r1,q1⟩=>?_) (λev s' ⟨H1,s1,I1,cx⟩=>?_)
 ·exact wpAny_execs_nil (wpAny_execs_nil ⟨σ,H1,I1,q1⟩)
 ·exact A1x hx0 hs hN hj hlo hg hm hsu I1 cx (λC d H2 ⟨C',e1,e2,e3⟩=>by cases e1;exact⟨e2,e3⟩) hd2
end
section
variable {prog:Program}{w:World}{A:Around}{E:Value->Shared->Prop}{h:Heap}{g:Array GenState}{d:Drawn}{t:Nat}{os:OsState}{a C:Addr}{o:Obj}{K:PySem.W.Frag}
structure Kh (K:PySem.W.Frag) (C:Addr):Prop where
 exc:Wn K C=true
 ga:findIn K (.ref C) "__getattribute__" = some (some (.builtin "BaseException.__getattribute__"))
 gat:findIn K (.ref C) "__getattr__" = some none
 cls:findIn K (.ref C) "__class__" = some (some (.builtin "object.__class__"))
theorem Bv7 {R:Result->Shared->Prop}(X:K.In h)(Z:Kh K C)(hx:h.get? a=some o)(hc:o.cls=.ref C)(q:R (.ok (.ret (.ref C))) ⟨h,g,d,t,os⟩) :
 codeAny (model prog w) A (.call (.builtin "getset_descriptor.__get__") ⟨[.builtin "object.__class__",.ref a,.ref C],[]⟩) R ⟨h,g,d,t,os⟩:=by
 obtain⟨i,l,n,z,B,m,j,p,k,r,s,u,v,x,y,f,T⟩:=Ht X Z.exc;have c:(⟨h,g,d,t,os⟩:Shared).TypeIs (.builtin "object.__class__") "getset_descriptor" := PySem.F.typeOf_object_class
 have e:(Value.ref C::i).contains (.type (".".intercalate ("object.__class__".cutAt '.').dropLast))=true:=by
  rw[PySem.F.owner_object_class,List.contains_cons,T.hasType (X := "object") (b:=true) rfl];rfl
 refine codeAny_call_builtin PySem.F.slot_gs_get.plain PySem.F.entry_gs_get (PySem.F.slot_gs_get.check _ _ _ _ _ _ _ _ c (PySem.F.args_gs_get _ _ _) ?_)
 repeat (any_goals (first | assumption | (with_reducible refine wpAny_loadPart_at hx ?_;rw[hc]) | (with_reducible refine wpAny_isSubtype_exc f ?_;rw[e]) | wp_step))
 refine⟨Code.quiet_builtin _ (by decide +kernel),codeAny_builtin PySem.F.entry_object_class ?_⟩
 repeat (any_goals (first | assumption | (with_reducible refine wpAny_loadPart_at hx ?_;rw[hc]) | wp_step))
theorem A3e {tk:Tok}{Q:Fin->Shared->Prop}(X:K.In h)(Z:Kh K C)(hx:h.get? a=some o)(hc:o.cls=.ref C)(e:Q (.done (.ret (.ref C))) ⟨h,g,d,t,os⟩) :
 wpAny (model prog w) A (Builtin.«object.__getattribute__» ⟨[.ref a,.str "__class__" tk],[]⟩) Q E ⟨h,g,d,t,os⟩:=by
 have b:(⟨h,g,d,t,os⟩:Shared).TypeIs (.builtin "object.__class__") "getset_descriptor" := PySem.F.typeOf_object_class;have f:=PySem.F.typeOf_object_class;have i:=PySem.F.slot_gs_get.lookup;have j:=PySem.F.slot_gs_set.lookup;have c:=looks_findIn (M:=model prog w) X Z.cls
 repeat (any_goals (first | assumption | (with_reducible refine wpAny_loadPart_at hx ?_;rw[hc]) | with_reducible refine c.here ?_ | wp_step))
 refine Bv7 X Z hx hc ?_
 repeat (any_goals (first | assumption | wp_step))
theorem Ag2 {M:Model}{c:Value}{Q:Unit->Shared->Prop}(X:K.In h)(Z:Kh K C)(hx:h.get? a=some o)(hc:o.cls=.ref C)(m:Q () ⟨h,g,d,t,os⟩):wpAny M A (checkBuiltinCall "BaseException.__getattribute__" ⟨[.ref a,c],[]⟩) Q E ⟨h,g,d,t,os⟩:=by
 obtain⟨j,p,F,z,B,D,k,q,f,s,u,v,w,x,y,l,T⟩:=Ht X Z.exc
 have i:builtinKind "BaseException.__getattribute__" = some .slot:=by decide +kernel
 have e:splitId "BaseException.__getattribute__" = some ("BaseException", "__getattribute__"):=by decide +kernel
 have n:(Value.ref C::j).contains (.type "BaseException")=true:=by rw[List.contains_cons,T.hasType (X := "BaseException") (b:=true) rfl];rfl
 have r:=PySem.F.args_bexc_ga (.ref a) c;simp only[checkBuiltinCall,i,e]
 refine wpAny_bind ?_
 unfold isInstance
 repeat (first | (with_reducible refine wpAny_loadPart_at hx ?_;rw[hc]) | (with_reducible refine wpAny_isSubtype_exc l ?_;rw[n]) | wp_step)
 exact m
theorem B1v {tk:Tok}{Q:Value->Shared->Prop}(X:K.In h)(Z:Kh K C)(hx:h.get? a=some o)(hc:o.cls=.ref C)(j:Q (.ref C) ⟨h,g,d,t,os⟩):wpAny (model prog w) A (getAttrBy (.ref a) (.str "__class__" tk) false) Q E ⟨h,g,d,t,os⟩:=by
 have f:=PySem.F.excAttr_ValueError.ga.bind (.ref a)
 have e:(Value.builtin "BaseException.__getattribute__" == Value.builtin "object.__getattribute__")=false:=by decide +kernel
 have i:(onTheHeap (Value.ref C)&&Value.builtin "BaseException.__getattribute__" == Value.builtin "object.__getattribute__")=false:=by rw[e];rfl
 have c:=looks_findIn (M:=model prog w) X Z.ga;have b:=looks_findIn (M:=model prog w) X Z.gat
 repeat (any_goals (first | assumption | (with_reducible refine wpAny_loadPart_at hx ?_;rw[hc]) | with_reducible refine c.here ?_ | with_reducible refine b.here ?_ | wp_step))
 refine codeAny_call_builtin PySem.F.excAttr_ValueError.ga.plain PySem.F.entry_bexc_ga (Ag2 X Z hx hc (A3e X Z hx hc ?_))
 repeat (any_goals (first | assumption | wp_step))
theorem A9q {Q:Option Value->Shared->Prop}(X:K.In h)(Z:Kh K C)(hx:h.get? a=some o)(hc:o.cls=.ref C)(b:Q (some (.ref C)) ⟨h,g,d,t+1,os⟩):wpAny (model prog w) A (getAttr? (.ref a) "__class__") Q E ⟨h,g,d,t,os⟩:=by
 unfold getAttr? getAttrBy?
 repeat (any_goals (first | assumption | with_reducible apply B1v X Z _ _ | wp_step))
end
section
variable {K:PySem.W.Frag}{a C:Addr}
theorem Ai6 {x:Option Addr}(Z:Kh K C):KitX K (.ref a) (.ref C) (λh=>∃o,h.get? a=some o/\o.cls=.ref C/\o.dict=x/\∃vs,o.data=.fields vs) where
 ty:=λM h _ ⟨o,e,c,_⟩=>c▸(Looks.ld e).andThen .now
 it:=λM h X _=>by
  obtain⟨bm,Nn,nm,qn,bs,sn,sub,ab,col,dd,k0,k1,k2,k3,k5,hC,_⟩:=Ht X Z.exc;intro A' Q' E' s' kp q;unfold isType loadHead;exact wpAny_bind (wpAny_loadPart (kp _ _ hC) (wpAny_pure q))
 ne:=λh tp dd its n sl X htp=>by
  obtain⟨bm,Nn,nm,qn,bs,sn,sub,ab,col,d',k0,k1,k2,k3,k5,hC,_⟩:=Ht X Z.exc
  refine Bool.eq_false_iff.mpr λq=>?_
  cases (Value.ref.inj (beq_iff_eq.mp q))
  rw[hC]at htp;have z:=congrArg Obj.data (Option.some.inj htp)
  cases z
 ca:=λ{_ _ _ _ _ s} X p q=>by
  obtain⟨hh,g,d,t,os⟩:=s;obtain⟨o,e,c,_⟩:=p;exact A9q X Z e c q
end
section
variable {X:Cx}
noncomputable def Bn0:V->Option Value
 | .ref D=>some (.ref D)
 | .ty T=>some (.type T)
 | _=>none
theorem A4h {c:V}{u z:Value}(e:Bn0 c=some z)(r:RelV c u):u=z:=by
 cases c with
 | ref D=>cases e;exact r
 | ty T=>cases e;exact r
 | _=>cases e
def Ao9 (K:PySem.W.Frag):List V->Hp->VK->Prop:=λxs H Q=>∃a C d c z b,xs=[.ref a,c]/\H a=some (Ld a C d)/\Kh K C/\Bn0 c=some z/\kitOne K (.ref C) z=some b/\Q (.bl b) H
theorem A0i:zE X (.builtin "isinstance") (Ao9 X.K):=by
 intro e s σ H xs us Q I r h;obtain⟨a,C,d,c,z,b,rfl,i,Z,f,j,q⟩:=h;obtain⟨u1,u2,rfl,g,k⟩:=vals2 r
 cases (g)
 cases A4h f k
 have l := I.hok a _ i
 exact kia_one (Ai6 Z) I.kIn l.1 j (λz=>nomatch z) λtk=>⟨.bl b,H,I.tok _,rfl,q⟩
def B3c (D:Addr):TE:=λ_ H Q=>Q (.ref D) H
theorem Bq1 {y:Str}{D:Addr}{p:Pos}(hg:Gl X y)(hm:X.mg y=some (.ref D))(hdb:(y==("__debug__" : Str))=false:=by decide):PE X (.Name y p) (B3c D):=λa s b H Q I h=>Lg I hg hm ⟨.ref D,H,I,rfl,h⟩ hdb
noncomputable def An4 (n:Nat):PyData->Bool
 | .none=>true
 | .bool _=>true
 | .int i=>decide (i.natAbs.log2<1920)
 | .str x=>decide ((reprText x).length+n<=16000000)
 | d=>d.showable&&!d.hasDict&&decide (d.depth<=40)&&decide (d.shown.length+n<=16000000)
theorem A8i {x:Str}{tk:Tok}{a:List (Addr×Obj)}{b:St}{H:Hp}{s:Shared}{n:Nat}{Q:Value->Shared->Prop}{E:Value->Shared->Prop}(I:Inv X a b H s)(h:(reprText x).length+n<=16000000)(q:∀z t s2,z.length+n<=16000000->Inv X a b H s2->Q (.str z t) s2):wpAny (model X.prog X.w) X.A (pyReprObj (.str x tk)) Q E s :=
 wpAny_pyReprObj_str (q _ _ _ h (I.tok _)) (Nat.le_trans (Nat.le_add_right _ _) (Nat.le_trans h (by decide)))
theorem Be3 {d:PyData}{v:V}{u:Value}{f:List (Addr×Obj)}{l:St}{H:Hp}{s:Shared}{n:Nat}{Q:Value->Shared->Prop}{E:Value->Shared->Prop}(hu:X.A.units+64<cLine)(hg:X.A.guards=some [])(I:Inv X f l H s)(c:Tr H d v)(r:RelV v u)(hn:n<=1000)(h:An4 n d=true)
 (q:∀z t s2,z.length+n<=16000000->Inv X f l H s2->Q (.str z t) s2):wpAny (model X.prog X.w) X.A (pyReprObj u) Q E s:=by
 have g:∀(a:Addr) (d:PyData),Tr H d (.ref a)->(d.showable&&!d.hasDict&&decide (d.depth<=40)&&decide (d.shown.length+n<=16000000))=true->wpAny (model X.prog X.w) X.A (pyReprObj (.ref a)) Q E s:=λa d c h=>by
  simp only[Bool.and_eq_true,Bool.not_eq_true',decide_eq_true_eq]at h;obtain⟨⟨⟨m,o⟩,G⟩,j⟩:=h
  obtain⟨F,p⟩:=c.reads I (show RelV (.ref a) (.ref a) from rfl)
  exact pyReprObj_of_reads p m (λz=>by rw[o]at z;cases z) hg (by omega) (λ_ _ e=>e) (λD t w y=>q _ _ _ j (I.kept (t':=w) y)) (Nat.le_trans (Nat.le_trans (Nat.le_add_right _ _) j) (by decide))
 cases d with
 | none=>cases (show v=.non from c);cases (show u=Value.none from r);exact pyReprObj_none (q _ _ _ (by show 4+n<=_;omega) (I.tok _))
 | bool b=>cases (show v=.bl b from c);cases (show u=Value.bool b from r);exact pyReprObj_bool (q _ _ _ (by cases b <;> (first | (show 4+n<=_;omega) | (show 5+n<=_;omega))) (I.tok _))
 | int i =>
  cases (show v=.int i from c)
  obtain⟨t,e⟩:=(show ∃t,u=Value.int i t from r);cases e
  have k:i.natAbs.log2<1920:=of_decide_eq_true h
  exact pyReprObj_int k (q _ _ _ (by have:=int_text_len_1921 k;omega) (I.tok _))
 | str x =>
  cases (show v=.str x from c)
  obtain⟨t,e⟩:=(show ∃t,u=Value.str x t from r);cases e
  exact A8i I (of_decide_eq_true h) q
 | list A=>obtain⟨a,B,e,_⟩:=id c;cases e;cases (show u=Value.ref a from r);exact g a _ c h
 | tuple A=>obtain⟨a,B,e,_⟩:=id c;cases e;cases (r);exact g a _ c h
 | dict C=>exact(c).elim
def tFs (n:Nat)(te:TE):TE:=λσ H Q=>te σ H λv H1=>∃d,Tr H1 d v/\An4 n d=true/\∀z,Q (.str z) H1
end
end L2
namespace L2
open PySem PySem.Spec PyProof.Rows
section
variable {X:Cx}
noncomputable def Mu {α:Type} (xs:List α) (i:Nat) (y:α):List α:=xs.take i++y::xs.drop i
theorem A3w {α:Type}(xs:List α)(i:Nat)(y:α):(Mu xs i y).length=xs.length+1:=by
 unfold Mu;rw[List.length_append,List.length_cons,List.length_take,List.length_drop];omega
def rInsert:V->List V->Hp->VK->Prop:=λx vs H Q=>∃l xs y,∃i:Nat,x=.ref l/\vs=[.int (i:Int),y]/\H l=some (.lst xs)/\i<=xs.length/\xs.length<1000000/\Q .non (upd H l (.lst (Mu xs i y)))
theorem Wz:∀{vs:List V}{us:List Value}(n:Nat),Vals vs us->Vals (vs.take n) (us.take n)
 | _,_,0,_=>by rw[List.take_zero,List.take_zero];exact .nil
 | _,_,n+1,.nil=>.nil
 | _,_,n+1,.cons r rs=>.cons r (Wz n rs)
theorem Xz:∀{vs:List V}{us:List Value}(n:Nat),Vals vs us->Vals (vs.drop n) (us.drop n)
 | _,_,0,h=>h
 | _,_,n+1,.nil=>.nil
 | _,_,n+1,.cons r rs=>Xz n rs
theorem Ay5:MtM X "list.insert" rInsert:=by
 intro pins s σ H x vs v us Q I rx rv h;obtain⟨l,xs,y,i,rfl,rfl,hH,hi,hz,q⟩:=h
 cases rx
 obtain⟨u1,u2,rfl,r1,r2⟩:=vals2 rv
 obtain⟨t,e1⟩:=(show ∃t,u1=Value.int (i:Int) t from r1)
 subst e1;obtain⟨z,its,n,r,hl,e⟩:=I.lstM hH
 have hs:its.toArray.size<=sizeLine:=by rw[List.size_toArray,<- hl];exact Nat.le_trans (Nat.le_of_lt hz) (by decide)
 have hb:i<9223372036854775808:=by omega
 have hf:¬ (!Builtin.List.listFitsIndex (i:Int))=true:=by
  have h1:(-(2 ^ 63):Int)<=(i:Int):=Int.le_trans (by decide) (Int.natCast_nonneg i)
  have h2:(i:Int)<2 ^ 63:=Int.lt_of_lt_of_le (Int.ofNat_lt.mpr hb) (by decide)
  unfold Builtin.List.listFitsIndex;rw[decide_eq_true h1,decide_eq_true h2]
  decide
 obtain⟨ii,hii⟩:∃ii:Int,ii=(i:Int):=⟨_,rfl⟩;rw[<- hii]at hf ⊢;generalize hA:its.toArray=arr at hs e ⊢;have M:=AutoListH.list_insert_list_int_val_1 l arr n ii t u2 hf hs;have A3:=F.args_list_insert_3 (.ref l) (.int (i:Int) t) u2
 refine call_meets F.slot_list_insert ⟨_,e,rfl⟩ F.entry_list_insert A3 M ⟨e,?_⟩
 refine⟨.non,_,I.lset (its':=Mu its i u2) hH e ?_ ((Wz i r).append (.cons r2 (Xz i r))) ?_,rfl,q⟩
 ·have ek:(if ii<0 then (ii+(arr.size:Int)).toNat else min ii.toNat arr.size)=i:=by
   rw[hii,if_neg (by omega),Int.toNat_natCast,<- hA,List.size_toArray];omega
  show (arr.extract 0 (if ii<0 then (ii+(arr.size:Int)).toNat else min ii.toNat arr.size)).push u2++arr.extract (if ii<0 then (ii+(arr.size:Int)).toNat else min ii.toNat arr.size)=_
  rw[ek,<- hA];unfold Mu;apply Array.ext'
  simp
  exact List.take_of_length_le (by rw[List.length_drop];omega)
 ·show (Mu xs i y).length<=sizeLine
  rw[A3w]
  exact Nat.le_trans (Nat.succ_le_of_lt hz) (by decide)
end
def TabAt (K:PySem.W.Frag)(h:Heap):Prop:=(∀p∈Dv K,h.get? p.1=some { cls:=.none,data:=.fields #[] }/\isCodeTable h p.1/\K.lookup p.1=none)/\∀p∈Dv K,(Dv K).lookup p.1=some p.2
theorem Jr {l:List (Addr×Str)} (h:l.lookup b=some q):(b,q)∈l:=by
 induction l with
 | nil=>grind
 | cons p r a =>
  grind
theorem A0c {K:PySem.W.Frag}
 (KX:K.In c.heap) (hns:c.heap.Ns mainGlobals mg) (hb:c.heap.Ns builtinsNs U) (X:∀x:Str,x ≠ "__name__" -> U x=bootBuiltins x) (L:c.heap.NoLimit) (hg:c.gens=#[])
 (T:∃j o,mg "__builtins__" = some (.ref j)/\j≠builtinsNs/\c.heap.get? j=some o/\o.cls=.type "module" /\ o.dict=some builtinsNs/\o.data=.plain) (D:TabAt K c.heap)
 (ha:c.heap.get? a=some { cls:=.type "list",data:=.seq vs.toArray }) (hi:IntsAre vs ns) (hl:ns.length<=sizeLine) (hr:Room k callerA)
 (F:∀base:Heap,K.In base->base.Ns mainGlobals mg->FnOk P w K mg base CX k fa fd [x] sp) (C:∀(s:Shared) (u:Value),BindsTo s fd ⟨[u],[]⟩ [(x,u)])
 (hsp:∀H:Hp,SqL K H a (ns.map V.int)->sp [.ref a] H (λv _=>v=.bl true) λ_ _ _=>False)
 (W:∀H e s',CX [] H c (λ_ _ _=>False) e s'->False) :
 codeAny (model P w) callerA (.call (.ref fa) ⟨[.ref a],[]⟩) (λr s'=>r=.ok (.ret (.bool true))/\OldK c.heap s'.heap/\s'.os=c.os/\AllBare s'.gens) c:=by
 have rv:=Yh hi;have E:=hi.length
 have Y:∀p∈Dv K,p.1≠a:=λp B z=>by
  have e:=(D.1 p B).1;rw[z,ha]at e;cases e
 have t:∀H:Hp,SqL K H a (ns.map V.int)->HOk P w H c.heap->(∀b u,H b=some u->(b=a/\K.lookup a=none/\∃o xs,u=.frz o (.lst xs))\/∃q,(b,q)∈Dv K/\u=.tbl q)->(∀p∈Dv K,H p.1=some (.tbl p.2)) ->
  codeAny (model P w) callerA (.call (.ref fa) ⟨[.ref a],[]⟩) (λr s'=>r=.ok (.ret (.bool true))/\OldK c.heap s'.heap/\s'.os=c.os/\AllBare s'.gens) c:=by
  intro H hS G hA hH
  have f:∀{b:Addr} {o:Obj},c.heap.get? b=some o->H b=none->(Wk c.heap H).get? b=some o:=λe n=>A6w e n
  have N:∀{b:Addr} {o:Obj},c.heap.get? b=some o->(∀x n,o.data≠.seq x n)->(∀x,o.data≠.fields x)->H b=none:=λ{b o} e d1 d2=>by
   cases q:H b with
   | none=>rfl
   | some u =>
    rcases hA b u q with ⟨z,_⟩ | ⟨y,O,_⟩
    ·rw[z,ha]at e;cases e;exact absurd rfl (d1 _ _)
    ·have g:=(D.1 _ O).1
     rw[e]at g;cases g;exact absurd rfl (d2 _)
  have l:∀{b:Addr} {m:Str->Option Value},c.heap.Ns b m->(Wk c.heap H).Ns b m:=λ{b m} ⟨o,es,ep,e,d,r⟩=>⟨o,es,ep,f e (N e (λx n z=>by rw[d]at z;cases z) λx z=>by rw[d]at z;cases z),d,r⟩
  have I:K.In (Wk c.heap H):=λb o e=>f (KX b o e) (by
   cases q:H b with
   | none=>rfl
   | some u =>
    rcases hA b u q with ⟨z,z2,_⟩ | ⟨y,O,_⟩
    ·rw[z,z2]at e;cases e
    ·rw[(D.1 _ O).2.2]at e;cases e)
  have Z:∃j o,mg "__builtins__" = some (.ref j)/\j≠builtinsNs/\j≠mainGlobals/\(Wk c.heap H).get? j=some o/\o.cls=.type "module" /\ o.dict=some builtinsNs/\o.data=.plain:=by
   obtain⟨j,o,b1,b2,Q,b4,b5,M⟩:=T
   refine⟨j,o,b1,b2,λz=>?_,f Q (N Q (λx n z=>by rw[M]at z;cases z) λx z=>by rw[M]at z;cases z),b4,b5,M⟩
   obtain⟨og,es,ep,e,d,_⟩:=hns;rw[z,e]at Q;cases Q;rw[d]at M;cases M
  have hM:Mod K mg (Wk c.heap H):=⟨I,l hns,⟨U,l hb,X⟩,(let ⟨mc,h1,h2⟩:=L; ⟨mc,l h1,h2⟩),Z⟩
  have e0:Env0 P w K mg (Wk c.heap H) callerA [] c H:=⟨rfl,hM,λb o e=>A9n e,Nat.le_of_eq (A2g _ _),trivial,λb hb=>absurd (show b∈([]:List Addr) from hb) (by simp),hH,G,.of_eq hg⟩
  refine codeAny_mono ((F _ I (l hns)).run callerA [] c H ⟨[.ref a],[]⟩ [.ref a] [.ref a] _ _ hr e0 (C c (.ref a)) (.cons rfl .nil) (hsp H hS)) λr s' h=>?_
  cases r with
  | error e=>exact(W H e s' h).elim
  | ok fl =>
   cases fl with
   | next=>exact False.elim h
   | brk=>exact False.elim h
   | cont=>exact False.elim h
   | ret u =>
    obtain⟨v,H',os,J,R,A,r',q⟩:=h;have q':v=.bl true:=q;subst q';obtain rfl:u=Value.bool true:=r'
    refine⟨rfl,⟨λb o e=>?_,λb o e=>R.there b o e (by simp)⟩,os,J⟩
    cases q:H b with
    | none=>exact .inl (R.keep b o e q (by intro z;exact absurd (show b∈([]:List Addr) from z) (by simp)) (by simp))
    | some u =>
     rcases hA b u q with ⟨_,_,ob,xs,rfl⟩ | ⟨y,O,rfl⟩
     ·obtain⟨g,_⟩:=G b _ q
      obtain⟨e2,_⟩:=A b _ (R.frzs b ob _ q);rw[e]at g;cases g;exact .inl e2
     ·obtain⟨ps,e2,_⟩:=A b _ (R.tbls b y q)
      obtain⟨t1,t2,_⟩:=D.1 _ O;rw[e]at t1;cases t1
      exact .inr (.inl ⟨t2,rfl,#[],ps,rfl,by rw[e2];simp⟩)
 have i:∀(H:Hp) (p:Addr×Str),p∈Dv K->z9 P w H _ _ (.tbl p.2):=λH p B=>⟨#[],(D.1 p B).1,trivial,λpos cv z=>by cases z⟩
 cases hk:K.lookup a with
 | some o =>
  have e:=KX a o hk;rw[ha]at e
  cases e
  refine t (λb=>((Dv K).lookup b).map .tbl) (.inr ⟨_,vs.toArray,_,hk,rfl,rfl,rfl,by rw[List.size_toArray,E];exact hl,by simpa using rv⟩) (λb u z=>?_) (λb u z=>?_) λp B=>?_
  ·obtain⟨q,g,rfl⟩:=Option.map_eq_some_iff.mp z
   exact i _ _ (Jr g)
  ·obtain⟨q,g,rfl⟩:=Option.map_eq_some_iff.mp z
   exact .inr ⟨q,Jr g,rfl⟩
  ·rw[D.2 p B];rfl
 | none =>
  refine t (λb=>if b=a then some (.frz { cls:=.type "list",data:=.seq vs.toArray } _) else ((Dv K).lookup b).map .tbl) (.inl (.inr ⟨{ cls:=.type _,data:=.seq _ },if_pos rfl⟩)) (λb u z=>?_) (λb u z=>?_) λp B=>?_
  ·by_cases hb:b=a
   ·have S:=(if_pos hb).symm.trans z
    cases S
    subst hb
    exact⟨ha,by rw[List.length_map];exact hl,vs,_,rv,ha⟩
   ·obtain⟨q,g,rfl⟩:=Option.map_eq_some_iff.mp ((if_neg hb).symm.trans z)
    exact i _ _ (Jr g)
  ·by_cases hb:b=a
   ·have S:=(if_pos hb).symm.trans z
    cases S
    exact .inl ⟨hb,hk,_,_,rfl⟩
   ·obtain⟨q,g,rfl⟩:=Option.map_eq_some_iff.mp ((if_neg hb).symm.trans z)
    exact .inr ⟨q,Jr g,rfl⟩
  ·rw[if_neg (Y p B),D.2 p B];rfl
end L2
namespace L2
open PySem PySem.Spec PyProof.Rows PySem.W
theorem Y5 {f:Pos}{c:Value}:∀(l:List Value),TriplesOk l->TriplesOk (l++[rawInt f.line,rawInt f.col,c]):=λl h=>by
 fun_induction TriplesOk l with
 | case1=>trivial
 | case2 a b c d e g i=>exact i h
 | case3=>trivial
theorem Al6 {g f:Pos}{c cv:Value}:∀(l:List Value),TriplesOk l->codeAmong f (l++[rawInt g.line,rawInt g.col,c])=some cv->codeAmong f l=some cv\/cv=c:=λl h e=>by
 fun_induction TriplesOk l with
 | case1 =>
  simp only[List.nil_append,rawInt,codeAmong]at e
  grind
 | case2 a b c d k i j =>
  simp only[List.cons_append,codeAmong]at e ⊢
  grind
 | case3=>trivial
def Br2 (H H':Hp):Prop:=H'=H\/∃c o,H c=none/\H'=upd H c (.frz o (.own 0))
noncomputable abbrev Am4 (qual:Str) (params:Arguments) (body:Expr) (scope:Scope) (cl:List (Str×Addr)) (pm cv ctv:Value):Obj:={ cls:=.type "function",data:=.func (kla_fn "<lambda>" qual params body scope cl pm cv ctv) }
def LamCd (qual:Str)(cv:Value)(H:Hp):Prop:=∃c o vs t,cv=.ref c/\H c=some (.frz o (.own 0))/\o.data=.fields vs/\vs[1]?=some (.str qual t)
theorem LamCd.rec {P:Program}{w:World}{qual:Str}{cv:Value}{H:Hp}{h:Heap}(x:LamCd qual cv H)(b:HOk P w H h):h.CodeRec cv qual:=by
 obtain⟨c,o,i,t,e,a,d,f⟩:=x;obtain⟨g,_⟩:=b c _ a;exact⟨c,o,i,t,e,g,d,f⟩
section
variable {X:Cx}{pins:List (Addr×Obj)}{σ:St}{H:Hp}{s:Shared}
theorem Inv.grown {T c:Addr}{q:Str}{f:Obj}{h':Heap}{t':Nat}(I:Inv X pins σ H s)(w:H T=some (.tbl q))(k:∀b o,b≠T->s.heap.get? b=some o->h'.get? b=some o)(hc:s.heap.objs.size<=c)(ho:h'.get? c=some f)
 (j:z9 X.prog X.w (upd H c (.frz f (.own 0))) h' T (.tbl q)):Inv X pins σ (upd H c (.frz f (.own 0))) { s with heap:=h',toks:=t' }:=by
 have p:H c=none:=I.hok.fresh hc
 have a:∀b u,H b=some u->b≠c:=λb u e=>Bd e p
 have i:∀b u,s.heap.get? b=some u->b≠c:=λb u e z=>absurd (Heap.lt_size e) (by simp_all)
 have h:∀b,H b=none->b≠T:=λb e z=>by rw[z,w]at e;cases e
 refine I.step (g':=s.gens) (d':=s.drawn) (ch:=[]) (λ_ z=>nomatch z) (λb o _ _ _ e n=>k b o (h b n) e) (λb o _ _ _ e n=>⟨o.slots,k b o (h b n) e⟩) (λb o _ e n=>by rw[Ag (i b o e)];exact n) (λb o _ e=>?_)
  (λb l e=>by rw[Ag (a b _ e)];exact e) (λb o u e=>by rw[Ag (a b _ e)];exact e) (λb q e=>by rw[Ag (a b _ e)];exact e) (λm x=>?_) (λb u e=>?_) I.bare
 ·by_cases hb:b=T
  ·obtain⟨B,g,_⟩:=j
   simp_all
  ·exact⟨o,k b o hb e⟩
 ·obtain⟨o,t,y,e,r⟩:=x
  exact⟨o,t,y,k _ o (h _ I.free) e,r⟩
 ·by_cases hb:b=c
  ·rw[hb]at e ⊢
   rw[Ax]at e;cases e;exact⟨ho,f,ho⟩
  ·rw[Ag hb]at e
   by_cases hbT:b=T
   ·simp_all
   ·refine (I.hok b u e).stay (λd v C z=>k d v ?_ z) (λd z=>by rw[Ag (a d _ z)];exact z) (λd l z=>by rw[Ag (a d _ z)];exact z) λd A l z=>by rw[Ag (a d _ z)];exact z
    grind
theorem A8l {a:Arguments}{body:Expr}{scope:Scope}{N:Pos}{cl:List (Str×Addr)}{c T:Addr}{l:Str}{Q:Value->Shared->Prop}{A:Around}{E:Value->Shared->Prop}(I:Inv X pins σ H s)(hT:(T,l)∈Dv X.K)(hC:codeHdIn X.K c T=true)(g:X.env.code=.ref c)
 (hq:X.env.qual ++ "<lambda>" = l) (w:defaultsOf a X.env=([],[])) (x:closureFor scope X.env=pure cl)
 (h:∀(f:Addr) (s':Shared) (H':Hp) (pm cv j:Value),Inv X (pins++[(f,Am4 l a body scope cl pm cv j)]) σ H' s'->Br2 H H'->LamCd l cv H'->Q (.ref f) s') :
 wpAny (model X.prog X.w) A (eval (.Lambda a body scope N) X.env) Q E s:=by
 have D:H T=some (.tbl l):=I.base.tbls T l (I.ok.tab (T,l) hT);obtain⟨ps,F,K,i⟩:=I.hok T _ D;have C:=codeHd_of_K I.kIn hC;have m:s.heap.Ns mainGlobals X.mg:=I.ok.mod.glob.keeps I.bk;obtain⟨Z,ob,b1,b2,b3,b4,b5,b6,b7⟩:=I.ok.mod.bmod;have k:=I.bk _ _ b4
 have M:mainGlobals≠T:=λz=>by
  obtain⟨o,es,ep,e,d,_⟩:=m;rw[z,F]at e;cases e;cases d
 have O:Z≠T:=λz=>by rw[z,F]at k;cases k;cases b5
 have Y:s.heap.BuiltinsAt X.mg T:=⟨Z,ob,b1,b2,b3,O,k,b5,b6,b7⟩
 have q:∀{n:Heap} {H':Hp} {y:Nat} {o:Obj},Inv X _ σ H' { s with heap:=n,toks:=y }->o.isFreed=false->(∀v,o.data≠.cell v)->Inv X (pins++[(n.objs.size,o)]) _ _ _:=λ{n H' y o} J R G=>by
  have f:=J.fpOk (Nat.le_refl _) (J.hok.fresh (Nat.le_refl _))
  have J2:Inv X _ _ _ { s with heap:=n.push o,toks:=y }:=J.kept λb u e=>Heap.get?_push_of_some _ e
  refine J2.pins_of λp hp=>?_
  rcases List.mem_append.mp hp with z | z
  ·exact J2.pin p (List.mem_append_right _ z)
  ·rw[List.mem_singleton.mp z]
   exact⟨Heap.get?_push_size _ R,f.1,f.2.1,f.2.2.1,G⟩
 refine kla_eval w ?_
 rw[hq]
 cases hf:codeAmong _ _ with
 | none =>
  refine kla_makeFunction x I.ok.glob m g C F K hf M Y λS j n y hx r hlt B U=>?_
  obtain⟨c2,P,vs,t,L,V,G,hv⟩:=B
  cases L
  have hn := I.hok.fresh r
  refine h _ _ _ _ _ _ (q (I.grown D (λb o hb e=>hx b o hb e) r V ?_) rfl λv z=>by cases z) (.inr ⟨S,P,hn,rfl⟩) ⟨S,P,vs,t,rfl,Ax,G,hv⟩
  refine⟨_,U,by rw[Array.toList_append];exact Y5 _ K,λpos' cv z=>?_⟩
  rw[Array.toList_append]at z
  rcases Al6 _ K z with z | rfl
  ·obtain⟨d,o,W,t',e1,L,e3⟩:=i _ _ z
   exact⟨d,o,W,t',e1,by rw[Ag (Bd L hn)];exact L,e3⟩
  ·exact⟨S,P,vs,t,rfl,Ax,G,hv⟩
 | some cv =>
  refine kla_makeFunctionHit x I.ok.glob m g C F K hf Y λj n y hk hsz=>?_
  exact h _ _ H _ _ _ (q (I.kept hk) rfl λv z=>by cases z) (.inl rfl) (i _ _ hf)
noncomputable abbrev Ye (X:Cx) (N':List Str) (scope:Scope) (cl:List (Str×Addr)) (qual:Str) (f:Addr) (cv:Value) (s:Shared) (H:Hp):Cx :=
 { X with
  A:=X.A.in1.in1.deeper (envX qual scope s.heap.objs.size f cv cl),N:=N',s₀:=s,H₀:=H,env:=envX qual scope s.heap.objs.size f cv cl,outer:=X.stack,stack:=envX qual scope s.heap.objs.size f cv cl::X.stack,
  ex:=[],fn:=λ_=>false,calm:=true,pn:=[],xe:=λ_ _=>False }
theorem A9v {N':List Str}{idx:List (Option Nat)}{scope:Scope}{cl:List (Str×Addr)}{qual x:Str}{f:Addr}{cv u:Value}{v:V}{h₁:Heap}{t':Nat}(L:Qf X (x::N') (none::idx) scope)(hx:scope.names.lookup x=some .local)(hd:X.A.handled=none)(I:Inv X pins σ H s)
 (c1:∀x c,cl.lookup x=some c->X.env.cells.lookup x=some c/\(x,NameKind.free)∈scope.names) (c2:∀x,(x,NameKind.free)∈scope.names->∃c,cl.lookup x=some c) (r:RelV v u)
 (k:∀b o,s.heap.get? b=some o->h₁.get? b=some o) (hn:h₁.Ns s.heap.objs.size (λy=>[(x,u)].reverse.lookup y)) :
 Inv (Ye X (x::N') scope cl qual f cv s H) [] (some v::cst idx σ) H { s with heap:=h₁,toks:=t' } where
 ok:={
  mod:=I.ok.mod,kind:=L.kind,glob:=rfl,blt:=rfl,above:=Nat.le_refl _,inj:=λy z c e1 e2=>I.ok.inj y z c (c1 y c e1).1 (c1 z c e2).1
  has:=λy h=>by
   have h':scope.names.lookup y=some .cell\/scope.names.lookup y=some .free:=h
   rcases h' with h | h
   ·exact absurd rfl (L.cell _ (lookup_mem h))
   ·exact c2 y (lookup_mem h)
  cab:=(λy c z=>nomatch z),hd:=λ_=>hd,frames:=Around.frames_deeper I.ok.frames,stk:=.inr ⟨rfl,rfl⟩,exf:=(λb z=>nomatch z),bs:=I.bs,bsz:=Nat.le_trans I.ok.bsz I.sz,noex:=(λ_ _ _ z=>nomatch z),exfs:=(λ_ z=>nomatch z)
  funs:=I.stack,frf:=I.stkFree,tab:=λp hp=>I.base.tbls p.1 p.2 (I.ok.tab p hp) }
 os:=rfl
 bare:=I.bare
 base:=Un.kept k
 loc:=by
  refine⟨_,hn,λj y w e1 e2 e3=>?_⟩
  cases j with
  | zero =>
   cases (show some x=some y from e1)
   cases (show some (some v)=some (some w) from e2)
   exact⟨u,r,.inl ⟨hx,by simp⟩⟩
  | succ j =>
   obtain⟨m0,hn0,hl⟩:=I.loc
   have e2':(idx.map λo=>o.bind λi=>(σ[i]?).join)[j]?=some (some w):=e2
   rw[List.getElem?_map]at e2'
   cases ei:idx[j]? with
   | none=>rw[ei]at e2';cases e2'
   | some o =>
    rw[ei]at e2';simp only[Option.map_some,Option.some.injEq]at e2'
    cases o with
    | none=>cases e2'
    | some i =>
     have e2'':(σ[i]?).join=some w:=e2';obtain⟨hNi,hfr⟩:=L.at' (j+1) i y e1 ei
     have hσ:σ[i]?=some (some w):=by
      cases q:σ[i]? with
      | none=>rw[q]at e2'';cases e2''
      | some z=>rw[q]at e2'';rw[show z=some w from e2'']
     have hk:=L.free _ (lookup_mem hfr) rfl
     have hvis:Vis X.env.scope y:=by
      rcases hk with z | z
      ·exact .inr (.inl z)
      ·exact .inr (.inr z)
     obtain⟨u',r',lk⟩:=hl i y w hNi hσ hvis
     refine⟨u',r',.inr ⟨.inr hfr,?_⟩⟩
     rcases lk with ⟨z,_⟩ | ⟨_,c,hc,hcl⟩
     ·exfalso
      have z':X.env.kindOf y=some .local:=z
      rcases hk with q | q
      ·rw[show X.env.kindOf y=_ from q]at z';cases z'
      ·rw[show X.env.kindOf y=_ from q]at z';cases z'
     ·obtain⟨c',hc'⟩:=c2 y (lookup_mem hfr)
      have ec:c'=c:=Option.some.inj ((c1 y c' hc').1.symm.trans hc);obtain⟨oc,g1,g2⟩:=hcl
      exact⟨c',hc',oc,by rw[ec];exact k _ _ g1,g2⟩
 cell:=λy c e=>by
  obtain⟨w,oc,g1,g2⟩:=I.cell y c (c1 y c e).1;exact⟨w,oc,k _ _ g1,g2⟩
 free:=I.hok.fresh (Nat.le_refl _)
 freeC:=λy c e=>I.freeC y c (c1 y c e).1
 pin:=λp hp=>nomatch hp
 hok:=I.hok.kept k
 len:=by
  show (some v::idx.map _).length=(x::N').length
  have:=L.len;rw[List.length_cons,List.length_cons]at this;rw[List.length_cons,List.length_map,List.length_cons];exact this
theorem Be9 {k:Nat}{N':List Str}{idx:List (Option Nat)}{a:Arguments}{body:Expr}{scope:Scope}{i:List (Str×Addr)}{qual x:Str}{f:Addr}{B cv j u:Value}{v:V}{A:TE}{Q:VK}(L:Qf X (x::N') (none::idx) scope)(hx:scope.names.lookup x=some .local)
 (n:scope.isCoroutine=false) (l:scope.isGenerator=false) (g:bindArgs (kla_fn "<lambda>" qual a body scope i B cv j) ⟨[u],[]⟩=pure [(x,u)]) (hr:Room (k+3) X.A)
 (hb:QE (Ye X (x::N') scope i qual f cv s H) body A) (I:Inv X pins σ H s) (ho:s.heap.get? f=some (Am4 qual a body scope i B cv j)) (hcd:s.heap.CodeRec cv qual)
 (c1:∀x c,i.lookup x=some c->X.env.cells.lookup x=some c/\(x,NameKind.free)∈scope.names) (c2:∀x,(x,NameKind.free)∈scope.names->∃c,i.lookup x=some c) (r:RelV v u) (h:A (some v::cst idx σ) H Q) :
 wpAny (model X.prog X.w) X.A.in1.in1 (call (.ref f) [u]) (EP X pins σ λv H'=>(∀b o u,H b=some (.frz o u)->H' b=some (.frz o u))/\Q v H') (λ_ _=>False) s:=by
 refine wpAny_call ?_
 refine kla_callFunE hr.in1.in1.depth ho rfl n l rfl hcd ?_
 rw[g]
 refine wpAny_pure (wpAny_newFunctionEnv L.cell λy J=>by simp_all (λw t p=>?_) L.kind)
 have d := λb o e=>p.extBut b o (Nat.ne_of_lt (Heap.lt_size e)) (Heap.get?_push_of_some _ e)
 refine⟨I.nolimit.keeps d,?_⟩
 refine kla_codeExpr (wpAny_mono (hb.get _ _ _ H Q (A9v (qual:=qual) (f:=f) (cv:=cv) (t':=s.toks+[(x,u)].length) L hx hr.hd I c1 c2 r d t) h) (λF G C=>?_) λ_ _ z=>z.elim)
 obtain⟨E,H',m,D,q⟩:=C;exact I.after ⟨E,H',m.os,m.bare,m.base,m.hok,D,m.base.frzs,q⟩
end
section
variable {X:Cx}{p pos lpos kpos:Pos}{e:Expr}{t:TA}
def A3p (K:PySem.W.Frag)(idx:List (Option Nat))(te:TE)(t:TA):TE:=λσ H Q=>t σ H λvs H1=>∃a xs,vs=[.ref a]/\∀H2,Br2 H1 H2->(SqL K H2 a xs\/SqT K H2 a xs)/\Ux (λx H Q=>te (some x::cst idx σ) H Q) xs [] H2 (λks H3=>A3k xs ks H3 Q)
theorem A6b {k:Nat}{N':List Str}{idx:List (Option Nat)}{b:Arguments}{body:Expr}{scope:Scope}{w x:Str}{c T:Addr}{K:TE}(hT:(T,w)∈Dv X.K)(Z:codeHdIn X.K c T=true)(j:X.env.code=.ref c)(hr:Room (k+3) X.A)
 (hg:Gl X "sorted") (hm:X.mg "sorted" = none) (ha:PA X [e] t) (L:Qf X (x::N') (none::idx) scope) (hb:∀f A n s H,Room k (Ye X (x::N') scope n w f A s H).A->QE (Ye X (x::N') scope n w f A s H) body K)
 (hx:scope.names.lookup x=some .local:=by rfl) (M:scope.isCoroutine=false:=by rfl) (C:scope.isGenerator=false:=by rfl) (B:X.env.qual ++ "<lambda>" = w:=by rfl) (D:defaultsOf b X.env=([],[]):=by rfl)
 (l:∀n F A m u,bindArgs (kla_fn "<lambda>" w b body scope n F A m) ⟨[u],[]⟩=pure [(x,u)]:=by exact λ_ _ _ _ _=>rfl)
 (he:backTo pos (starEach [e] X.env)=(false,eval e X.env)::backTo pos (starEach [] X.env):=by rfl) (hpl:(backTo pos (starEach [e] X.env)).any (·.1)=false:=by rfl) :
 PE X (.Call (.Name "sorted" p) [e] [⟨some "key",.Lambda b body scope lpos,kpos⟩] pos) (A3p X.K idx K t):=by
 intro g s V H Q I h
 refine wpAny_Call_Name_kw (My I hg hm boot_sorted ?_ (by decide) (by rfl))
 refine PyProof.Rows.callWith_kw (thn (ha pos g s V H _ I h) λus Y ⟨S,H1,W,r,q⟩=>?_) he hpl rfl rfl
 obtain⟨n,i,c1,c2⟩:=Ks (env:=X.env) (scope:=scope) λy hy hf=>W.ok.has y.1 (L.free y hy hf)
 show wpAny _ _ (evalAll [do let v <- eval (.Lambda b body scope lpos) X.env;standAt pos;pure v]) _ _ Y
 refine wpAny_evalAll_cons (wpAny_bind (A8l W hT Z j B D i λf s2 H2 F A m I2 hl N=>wpAny_bind (wpAny_standAt (wpAny_pure (wpAny_evalAll_nil ?_)))))
 obtain⟨a,xs,rfl,q⟩:=q;obtain⟨hs,hw⟩:=q H2 hl;obtain⟨u,rfl,ru⟩:=vals1 r
 cases (show u=Value.ref a from ru)
 have J:Br4 X (g++[(f,Am4 w b body scope n F A m)]) V f (LamCd _ _) (λx H Q=>K _ H Q):=λG s H x u Q' I U r hk=>by
  refine wpAny_mono (Be9 L hx M C (l _ _ _ _ u) hr (hb f _ _ s H (hr.in1.in1.deeper _)) I ((I.pin _ (List.mem_append_right _ (List.mem_append_left _ (List.mem_append_right _ List.mem_cons_self)))).1) (U.rec I.hok) c1 c2 r hk) (λu' s' B=>?_) λ_ _ z=>z
  obtain⟨P,O,E,R,fz,q⟩:=B;obtain⟨c0,o,S,t0,e,hc,d⟩:=U;exact⟨P,O,E,R,⟨c0,o,S,t0,e,fz _ _ _ hc,d⟩,q⟩
 refine thn (Aq2 J hr I2 N hs hw) λu s3 B=>?_
 obtain⟨P,O,E,R,q⟩:=B
 exact⟨P,O,E.pins_of λp hp=>E.pin p (List.mem_append_right _ (List.mem_append_left _ hp)),R,q⟩
theorem A4j {Kq:PySem.W.Frag}(j:X.K=Kq){k:Nat}{N':List Str}{idx:List (Option Nat)}{a:Arguments}{body:Expr}{scope:Scope}{g x:Str}{c T:Addr}{m:TE}(n:(T,g)∈Dv X.K)(q:codeHdIn X.K c T=true)(b:X.env.code=.ref c)(hr:Room (k+3) X.A)
 (hg:Gl X "sorted") (hm:X.mg "sorted" = none) (ha:QA X [e] t) (L:Qf X (x::N') (none::idx) scope) (hb:∀f cv cl s H,Room k (Ye X (x::N') scope cl g f cv s H).A->QE (Ye X (x::N') scope cl g f cv s H) body m)
 (hx:scope.names.lookup x=some .local:=by rfl) (l:scope.isCoroutine=false:=by rfl) (i:scope.isGenerator=false:=by rfl) (o:X.env.qual ++ "<lambda>" = g:=by rfl) (h:defaultsOf a X.env=([],[]):=by rfl)
 (d:∀cl pm cv ctv u,bindArgs (kla_fn "<lambda>" g a body scope cl pm cv ctv) ⟨[u],[]⟩=pure [(x,u)]:=by exact λ_ _ _ _ _=>rfl)
 (he:backTo pos (starEach [e] X.env)=(false,eval e X.env)::backTo pos (starEach [] X.env):=by rfl) (hpl:(backTo pos (starEach [e] X.env)).any (·.1)=false:=by rfl) :
 QE X (.Call (.Name "sorted" p) [e] [⟨some "key",.Lambda a body scope lpos,kpos⟩] pos) (A3p Kq idx m t):=by
 subst j;exact⟨A6b n q b hr hg hm ha.get L hb hx l i o h d he hpl⟩
end
noncomputable def Ge (o:Obj):Bool:=match o.data with
 | .cell _=>false
 | _=>true
def sel (h:Heap)(tabs:List (Addr×Addr×Str))(a:Addr):Option Obj:=(h.get? a).bind λo=>if (Ge o&&!(tabs.any λt=>t.2.1==a))=true then some o else none
def Qo (h:Heap)(tabs:List (Addr×Addr×Str)):Frag:=((List.range h.objs.size).filterMap λa=>(sel h tabs a).map λo=>(a,o))++tabs.map λt=>(t.1,Ar3 t.2.1 t.2.2)
theorem Lb {f:Nat->Option Obj}{b:Nat}:∀{l:List Nat},(l.filterMap λa=>(f a).map λo=>(a,o)).lookup b=if b∈l then f b else none
 | []=>by simp
 | a::l=>by
  rw[List.filterMap_cons]
  by_cases e:b=a
  ·subst e
   rw[if_pos List.mem_cons_self]
   cases q:f b with
   | none =>
    simp only[Option.map_none];rw[Lb]
    split
    ·exact q
    ·rfl
   | some o=>simp
  ·have h1:(b∈a::l)=(b∈l):=by simp[e]
   simp only[h1]
   cases q:f a with
   | none=>simp only[Option.map_none];exact Lb
   | some o =>
    simp only[Option.map_some];rw[List.lookup_cons]
    have:(b==a)=false:=by simp[e]
    rw[this];exact Lb
section
variable {h:Heap}{tabs:List (Addr×Addr×Str)}
theorem Qs (e:sel h tabs a=some o):h.get? a=some o/\Ge o=true/\∀t∈tabs,t.2.1≠a:=by
 obtain⟨c,d,b⟩:=Option.bind_eq_some_iff.mp e
 grind
theorem Bu5 (e:h.get? a=some o) (hp:Ge o=true) (hn:∀t∈tabs,t.2.1≠a):sel h tabs a=some o:=by
 unfold sel
 grind
theorem O2 (e:sel h tabs a=some o):(Qo h tabs).lookup a=some o:=by
 unfold Qo;rw[List.lookup_append,Lb,if_pos (List.mem_range.mpr (Heap.lt_size (Qs e).1)),e];rfl
theorem We {a:Addr}{o:Obj}:∀{tabs:List (Addr×Addr×Str)},(tabs.map λt=>(t.1,Ar3 t.2.1 t.2.2)).lookup a=some o->∃t∈tabs,t.1=a
 | [],e=>by cases e
 | t::r,e=>by
  rw[List.map_cons,List.lookup_cons]at e
  split at e
  ·rename_i z
   exact⟨t,List.mem_cons_self,by simpa using (eq_comm.mp (by simpa using z))⟩
  ·obtain⟨t',h1,h2⟩:=We e
   exact⟨t',List.mem_cons_of_mem _ h1,h2⟩
theorem B0x (ht:∀t∈tabs,CodeHd h t.1 t.2.1/\h.get? t.2.1=some { cls:=.none,data:=.fields #[] })(D:∀t∈tabs,(tabs.map λt=>(t.2.1,t.2.2)).lookup t.2.1=some t.2.2) :
 (Qo h tabs).In h/\TabAt (Qo h tabs) h/\(∀t∈tabs,codeHdIn (Qo h tabs) t.1 t.2.1=true/\(t.2.1,t.2.2)∈Dv (Qo h tabs))/\∀a o,h.get? a=some o->Ge o=true->o.data≠.fields #[]->(Qo h tabs).lookup a=some o:=by
 have g:∀a o,h.get? a=some o->Ge o=true->o.data≠.fields #[]->sel h tabs a=some o:=λa o e d j=>Bu5 e d λt m z=>by
  have:=(ht t m).2;rw[z,e]at this;cases this;exact j rfl
 have code:∀t∈tabs,∃o i,h.get? t.1=some o/\o.cls=.type "code" /\ o.data=.fields i/\i[11]?=some (.ref t.2.1)/\sel h tabs t.1=some o:=λt m=>by
  obtain⟨o,i,_,_,_,_,_,_,_,w,v,l,u,_⟩:=(ht t m).1
  refine⟨o,i,w,v,l,u,g t.1 o w (by unfold Ge;rw[l]) λz=>?_⟩
  rw[l]at z
  injection z with z
  rw[z]at u;simp at u
 have c:∀{a:Addr} {o:Obj},(Qo h tabs).lookup a=some o->sel h tabs a=some o:=λ{a o} e=>by
  cases q:sel h tabs a with
  | some y=>rw[O2 q]at e;exact e
  | none =>
   unfold Qo at e;rw[List.lookup_append,Lb]at e
   have F:(if a∈List.range h.objs.size then sel h tabs a else none)=none:=by
    split
    ·exact q
    ·rfl
   rw[F]at e
   obtain⟨t,m,z⟩:=We (show (tabs.map λt=>(t.1,Ar3 t.2.1 t.2.2)).lookup a=some o from e)
   obtain⟨_,_,_,_,_,_,s⟩:=code t m;rw[z,q]at s;cases s
 have k:Dv (Qo h tabs)=tabs.map λt=>(t.2.1,t.2.2):=by
  unfold Dv Qo;rw[List.filterMap_append]
  have x:((List.range h.objs.size).filterMap λa=>(sel h tabs a).map λo=>(a,o)).filterMap (λp=>Vi p.2)=[]:=by
   rw[List.filterMap_eq_nil_iff];intro p d;obtain⟨a,_,e⟩:=List.mem_filterMap.mp d;obtain⟨o,x,rfl⟩:=Option.map_eq_some_iff.mp e;have j:=(Qs x).2.1
   show Vi o=none
   unfold Vi;unfold Ge at j
   split
   ·rename_i z;rw[z]at j;cases j
   ·rfl
  have Q:(tabs.map λt=>(t.1,Ar3 t.2.1 t.2.2)).filterMap (λp=>Vi p.2)=tabs.map λt=>(t.2.1,t.2.2):=by
   clear g c code D ht x
   induction tabs with
   | nil=>rfl
   | cons t r S =>
    rw[List.map_cons,List.filterMap_cons]
    show (t.2.1,t.2.2)::_=_
    rw[S];rfl
  rw[x,Q,List.nil_append]
 have B:(Qo h tabs).In h:=λa o e=>(Qs (c e)).1
 refine⟨B,⟨λp d=>?_,λp d=>?_⟩,λt m=>⟨?_,?_⟩,λa o e d j=>O2 (g a o e d j)⟩
 ·rw[k]at d
  obtain⟨t,m,rfl⟩:=List.mem_map.mp d;obtain⟨o,i,w,v,l,u,_⟩:=code t m
  refine⟨(ht t m).2,⟨t.1,o,i,w,v,l,u⟩,?_⟩
  cases q:(Qo h _).lookup _ with
  | none=>rfl
  | some y=>exact absurd rfl ((Qs (c q)).2.2 t m)
 ·rw[k]at d ⊢
  obtain⟨t,m,rfl⟩:=List.mem_map.mp d;exact D t m
 ·obtain⟨o,i,_,v,l,_,s⟩:=code t m
  obtain⟨y,G,f,tf,fl,tg,b,n,tt,J,K,L,M,g5,I,N,H,P,A⟩:=(ht t m).1;have O := Option.some.inj (J.symm.trans (Qs s).1);subst O;obtain⟨R,od,C,E⟩:=y
  cases (show R=Value.type _ from K)
  cases (show C=Data.fields _ from L)
  unfold codeHdIn;rw[(O2 s)];simp only[M,I,N,H,P]
  simp[A]
 ·rw[k];exact List.mem_map.mpr ⟨t,m,rfl⟩
end
section
variable {q:Program}{loose:List Str}{mean:ExcName->Option Value}{mg mb:Str->Option Value}{h:Heap}{K:Frag}
theorem Ay9 (j:∀a o,h.get? a=some o->Ge o=true->o.data≠.fields #[]->K.lookup a=some o) (c:h.CodeRec f x):codeIn K f x=true:=by
 obtain⟨a,o,b,t,rfl,g,d,e⟩:=c
 have k:=j a o g (by unfold Ge;rw[d]) λz=>by grind
 obtain⟨oc,od,m,i⟩:=o
 show (match K.lookup a with
  | some ⟨_,_,.fields b,_⟩=>match b.toList with | _::.str n _::_=>n==x | _=>false
  | _=>false)=true
 obtain⟨l⟩:=b
 match l,e with
 | _::.str n u::_,e =>
  simp_all
theorem Bd6 (T:Top q loose mean mg mb h)(i:∀a o,h.get? a=some o->Ge o=true->o.data≠.fields #[]->K.lookup a=some o) {st:Stmt}(hd:d∈recsOf q) (w:d.params=Jy st) (l:d.body=Gz st) (m:d.scope=An st) :
 ∃f fd,Fun K d.name d.name st f fd/\mg d.name=some (.ref f):=by
 obtain⟨a,o,e,b,c,n,p,r,s⟩:=T.fn d hd
 have k:=i a o p (by unfold Ge;grind) λz=>by simp_all
 obtain⟨t,u,v,g⟩:=o
 cases (r)
 have j:PySem.Calls.docDef d.name d.params d.body d.scope e b c=fnOf d.name d.name (Jy st) (Gz st) (An st) .none .none c e none b .none:=by rw[w,l,m];rfl
 refine⟨a,_,⟨⟨t,u,.none,c,e,none,b,.none,g,j,k,Ay9 i s⟩,?_⟩,n⟩
 unfold keepIn
 grind
theorem Bb1 (T:Top q loose mean mg mb h){d:DefRec}(hd:d∈recsOf q):∃c P:Addr,CodeHd h c P/\h.get? P=some { cls:=.none,data:=.fields #[] }/\∀f o b,mg d.name=some (.ref f)->h.get? f=some o->o.data=.func b->b.code=.ref c:=by
 obtain⟨a,o,b,c,P,m,j,p,k,g,e⟩:=T.tab d hd
 refine⟨c,P,CodeHd.of g e,e.2,λf n i r s l=>?_⟩
 simp_all
noncomputable def A6h (q:Program) (loose:List Str) (RN:List Str) (x:Str):Bool:=!startupNames.contains x&&!loose.contains x&&!RN.contains x&&!((litsOf q).map (·.1)).contains x&&!((clssOf q loose).map (·.name)).contains x
theorem Dk (T:Top q loose mean mg mb h){a bs:List Str}(f:(recsOf q).map (·.name)=a)(hb:bs.all (A6h q loose a)=true) (hx:x∈bs):mg x=none:=by
 have:=List.all_eq_true.mp hb x hx;unfold A6h at this;simp only[Bool.and_eq_true,Bool.not_eq_true',List.contains_eq_mem,decide_eq_false_iff_not]at this;obtain⟨⟨⟨⟨d,c⟩,g⟩,e⟩,b⟩:=this
 exact T.free x d c (by grind) e b
end
theorem Ag5 (a:(recsOf q).map (λd=>(d.name,d.params,d.body,d.scope))=L) {i:Nat} (e:L[i]?=some x) :
 ∃d,d∈recsOf q/\d.name=x.1/\d.params=x.2.1/\d.body=x.2.2.1/\d.scope=x.2.2.2:=by
 grind
theorem Dc (a:(recsOf q).map (λd=>(d.name,d.params,d.body,d.scope))=L):(recsOf q).map (·.name)=L.map (·.1):=by
 rw[<- a,List.map_map];rfl
theorem A4f {K:Frag}{h:Heap}{x qual:Str}{st:Stmt}{f:Addr}{a:FuncData}{v:Value}{mg:Str->Option Value}(F:Fun K x qual st f a)(b:K.In h)(hc:∀f o a,mg x=some (.ref f)->h.get? f=some o->o.data=.func a->a.code=v)(hm:mg x=some (.ref f)):a.code=v:=by
 obtain⟨j,p,m,g,k,l,d,n,i,e,c,_⟩:=F.ex;exact hc f _ _ hm (b _ _ c) rfl
theorem A5h {K:Frag} {st:Stmt} (F:Fun K x qual st f c) (h:∀(d a e:Value) (i:Option Addr) (b g:Value) (s:Shared) (u:Value),BindsTo s (fnOf x qual (Jy st) (Gz st) (An st) .none d a e i b g) ⟨[u],[]⟩ [(y,u)]):∀(s:Shared) (u:Value),BindsTo s c ⟨[u],[]⟩ [(y,u)]:=by
 obtain⟨m,n,d,a,e,i,b,g,j,k,l,_⟩:=F.ex
 simp_all
theorem const_int {q:Program}{loose:List Str}{a:ExcName->Option Value}{mg c:Str->Option Value}{h:Heap}(T:Top q loose a mg c h){x:Str}{i:Int}(e:valOf q x=some (.int i)):∃t,mg x=some (.int i t):=by
 obtain⟨v,d,b⟩:=T.const x _ e
 cases b h with
 | int i t=>grind
theorem Ay3 {q:Program}{loose:List Str}{a:ExcName->Option Value}{mg c:Str->Option Value}{h:Heap}(T:Top q loose a mg c h){x y:Str}(e:valOf q x=some (.str y)):∃t,mg x=some (.str y t):=by
 obtain⟨v,d,b⟩:=T.const x _ e
 cases b h with
 | str y t=>grind
end L2
namespace L2
open PySem PySem.Spec PyProof.Rows
section
variable {prog:Program}{w:World}{K:Type}[DecidableEq K]{knd:HeapKind prog w K}{A:Around}{E:Value->Shared->Prop}{s:Shared}
theorem A2x (hu:knd.room A) (hk:knd.is s.heap k a) (hm:s.heap.DictOfH knd d xs) (hsz:xs.length<=sizeLine)
 (l:∀p,atKey xs k=some p->Q p.2 { s with toks:=s.toks+knd.draws k })
 (m:atKey xs k=none->∀h',h'.DictOfH knd d (xs++[(k,a,v)])->Heap.SameBut d s.heap h'->Q v { s with heap:=h',toks:=s.toks+knd.draws k }) :
 wpAny (model prog w) A (dictSetDefault d (.ref a) v) Q E s:=by
 obtain⟨o,r,t,f,u,c,i,g,n⟩:=hm;unfold dictSetDefault
 refine wpAny_holding ?_
 refine wpAny_bind (knd.pyHash hu hk ?_)
 refine wpAny_bind (wpAny_dictFind_heap (s:={ s with toks:=s.toks+knd.draws k }) hu hk f c i g n ?_ ?_)
 ·intro h
  refine wpAny_bind (wpAny_rule (wpAny_bind (wpAny_updateDictKeys (hz:=by have e:=size_of_entries i;omega) (s:={ s with toks:=s.toks+knd.draws k }) f c (wpAny_pure (m (atKey_none_of_get h) _
   ⟨_,_,t+1,Heap.get?_update_self _ f (Obj.isFreed_of_dict (Obj.data_mapDictKeys c _)),u.mapDictKeys _,Obj.data_mapDictKeys c _,?_,?_,?_⟩ (Heap.SameBut.update ..))))))
  ·simp[i,entryOfKey]
  ·intro x b
   rcases List.mem_append.mp b with b | b
   ·exact knd.keeps (g x b) f c (Heap.SameBut.update ..)
   ·cases List.mem_singleton.mp b
    exact knd.keeps hk f c (Heap.SameBut.update ..)
  ·rw[List.map_append,List.nodup_append]
   refine⟨n,by simp,λx b y z e=>?_⟩
   cases List.mem_singleton.mp z
   have B:x=k:=e;exact not_mem_keys_of_get h (B▸b)
 ·intro j p q
  refine wpAny_bind (wpAny_dictEntries f c ?_)
  have C:r[j]?=some (entryOfKey knd (k,p)):=by
   rw[<- Array.getElem?_toList,i,List.getElem?_map,q];rfl
  rw[C];exact wpAny_bind (wpAny_rule (wpAny_pure (l p (atKey_of_get n q))))
end
section
variable {X:Cx}{pins:List (Addr×Obj)}{σ:St}{H:Hp}{s:Shared}{a b:Addr}{E:Value->Shared->Prop}{A:Around}
theorem Af6 (hd:(a==sysModules)=false) (hz:xs.length<=sizeLine) :
 MeetsIn P w (Builtin.«dict.setdefault» ⟨[.ref a,.ref b,r],[]⟩) (λA R s=>A.units+9<cLine/\s.heap.DictOfH (Eu P w) a xs/\(Eu P w).is s.heap k b/\(∀p,atKey xs k=some p->R (.ok (.ret p.2)) { s with toks:=s.toks+Vk k }) /\
  (atKey xs k=none->∀c,c.DictOfH (Eu P w) a (xs++[(k,b,r)])->Heap.SameBut a s.heap c->R (.ok (.ret r)) { s with heap:=c,toks:=s.toks+Vk k })) :=
 .of_wp λA R s ⟨l,e,m,g,h⟩=>by
  refine wpAny_bind ?_
  refine wpAny_bind (wpAny_notOrdered_dict e.typeIs ?_)
  refine wpAny_pure ?_
  show wpAny _ _ (if (a==sysModules)=true then _ else dictSetDefault a _ r >>= _) _ _ s
  rw[if_neg (by grind)]
  exact wpAny_bind (A2x (B1p l) m e hz (λp i=>wpAny_pure ⟨_,rfl,g p i⟩) λj c d f=>wpAny_pure ⟨_,rfl,h j _ d f⟩)
theorem Bp0 (hu:A.units+9<cLine) (I:Inv X pins σ H s) (e:H a=some (.dT d)) (n:KAt H k b) (hl:d.length<sizeLine) (B:RelV z r)
 (i:∀v w' s',Qu d k=some v->Inv X pins σ H s'->RelV v w'->Q w' s') (g:∀s',Qu d k=none->Inv X pins σ (upd H a (.dT (d++[(k,z)]))) s'->Q r s') :
 wpAny (model X.prog X.w) A (call (.builtin "dict.setdefault") [.ref a,.ref b,r]) Q E s:=by
 obtain⟨u,m,D,f,l⟩:=B0g I.hok e
 have y:D.length<=sizeLine:=by rw[<- Paired.length f];exact u
 refine call_meetsIn PySem.F.slot_dict_setdefault l.typeIs PySem.F.entry_dict_setdefault (PySem.F.args_dict_setdefault_3 _ _ _) (Af6 m y) ⟨hu,l,A7b I.hok n,λp w=>?_,λx N h C=>?_⟩
 ·have q:=f.val k
  rw[w]at q
  cases ev:Qu _ k with
  | none=>rw[ev]at q;exact False.elim q
  | some v=>rw[ev]at q;exact i v _ _ ev (I.tok _) q
 ·have q:=f.val k
  rw[x]at q
  cases ev:Qu _ k with
  | some v=>rw[ev]at q;exact False.elim q
  | none =>
   refine g _ ev ?_
   obtain⟨o,F,G,t,K,L,J,_,M⟩:=h
   refine At5 I (by rw[e];exact True.intro) C ⟨o,t⟩ ⟨by grind,m,_,KT.keeps (Paired.snoc f ⟨rfl,n,B⟩) λc O j=>?_,o,F,G,t,K,L,J,M⟩
   rw[Ag (Bj4 j e λz=>nomatch z)]
   exact j
end
def Bk0 (td ty tx:TE):TE:=λσ H Q=>td σ H λx H1=>∃a,x=.ref a/\IsD H1 a/\ty σ H1 λy H2=>tx σ H2 λz H3=>∃kvs k b,y=.ref b/\H3 a=some (.dT kvs)/\KAt H3 k b/\kvs.length<sizeLine /\
 (∀v,Qu kvs k=some v->Q v H3)/\(Qu kvs k=none->Q z (upd H3 a (.dT (kvs++[(k,z)]))))
section
variable {X:Cx}{o e f:Expr}{td ty tx:TE}{apos cpos:Pos}
theorem Bd7 (hu:X.A.units+64<cLine)(ho:QE X o td)(he:QE X e ty)(hf:QE X f tx)(m:M2 X o "setdefault" apos e f cpos):QE X (.Call (.Attribute o "setdefault" apos) [e,f] [] cpos) (Bk0 td ty tx):=by
 refine⟨?_⟩
 intro c s σ H Q I h
 refine wpAny_Call_method m.base m.few m.line PySem.F.plainAttrs_dict PySem.F.slot_dict_setdefault PySem.F.type_dict_setdefault (thn (ho.1 c s _ H _ I h) λu s1 ⟨x,H1,n,O,a,D,d,N⟩=>?_)
 subst D;obtain rfl:u=Value.ref a:=O;obtain⟨q,r,_⟩:=A8q n d
 refine⟨q,r,?_⟩
 rw[m.trees]
 refine Calls.callWith_builtin rfl (Calls.evalArgs_plain (Calls.spliced_cons (thn (he.1 _ _ _ _ _ n N) λiv s2 ⟨y,H2,t,w,A⟩ =>
  Calls.spliced_cons (thn (hf.1 _ _ _ _ _ t A) λfv s3 ⟨z,B,p,l,E,k,b,F,G,J,C,L,M⟩=>Calls.spliced_nil ?_))))
 subst F
 cases w
 exact Bp0 (Nat.lt_of_le_of_lt (Nat.add_le_add_left (by decide) _) hu) p G J C l (λv w' K i j g=>⟨v,B,j,g,L v i⟩) λK i j=>⟨z,_,j,l,M i⟩
theorem A5o : QE X (.Dict [] [] a) Ao7:=⟨A5q⟩
end
section
variable {X:Cx}{pins:List (Addr×Obj)}{σ:St}{H:Hp}{s:Shared}{a:Addr}{kvs:List (PyData×V)}
theorem Inv.still (I:Inv X pins σ H s)(e:H a=some (.dT kvs)):∃o,Inv X pins σ (upd H a (.frz o (.dT kvs))) s:=by
 obtain⟨z,y,h,r,o,f,g,b,c⟩:=I.hok a _ e
 refine⟨o,At5 I (by rw[e];trivial) (Heap.SameBut.refl _ _) ⟨o,b⟩ ⟨b,z,y,h,KT.keeps r λc i d=>?_,o,f,g,b,c⟩⟩
 rw[Ag (Bj4 d e λz=>nomatch z)];grind
theorem Inv.seen (I:Inv X pins σ H s) (e:H a=some (.frz o (.dT kvs))):∃c b d,s.heap.get? a=some o/\(a==sysModules)=false/\o.ExactDict/\o.data=.dict b d/\b.toList=c.map (entryOfKey (Eu X.prog X.w))/\KT H kvs c/\kvs.length<=sizeLine:=by
 obtain⟨h,z,y,c,r,g,b,d,i,j,k,l,f⟩:=I.hok a _ e
 grind
theorem X7 {es:Array DictEntry} (h:es.toList=xs.map (entryOfKey (Eu P w))) (r:KT H kvs xs):es.size=kvs.length:=by
 rw[<- Array.length_toList,h,List.length_map,Paired.length r]
end
section
variable {X:Cx}
def tFz (d:Nat)(t u:TS):TS:=λD σ H=>t { D with nx:=λσ' H'=>∃a kvs,σ'[d]?=some (some (.ref a))/\H' a=some (.dT kvs)/\∀o,u D σ' (upd H' a (.frz o (.dT kvs))) } σ H
theorem Bs3 {st:Stmt}{rest:List Stmt} (h1:QS X st t) (h2:QSs X rest u):QSs X (st::rest) (tFz d t u):=by
 obtain⟨h2⟩:=h2
 refine⟨?_⟩
 intro b s k H D I h
 refine wpAny_execs_cons (thn (h1.1 _ s _ H _ I h) λf n q=>?_)
 cases f with
 | next =>
  obtain⟨i,l,g,a,e,m,j,q⟩:=q;obtain⟨o,c⟩:=g.still j;exact h2 _ _ _ _ D c (q o)
 | ret v=>exact q
 | brk=>exact q
 | cont=>exact q
end
section
end
end L2
namespace L2
open PySem PySem.Spec PyProof.Rows PySem.W
theorem walk_ofX {l:OpenLaw} {sp:Frag->Sp}
 (hn:l.most=some n) (r:n<=sizeLine) (t:d.params.defaults=[]) (hr:Room k callerA)
 (F:∀(w:World) (g:ExcName->Option Value) (mg C:Str->Option Value) (fa:Addr) (h:Heap),Top q (looseW q loose) g mg C h->XP mg h->mg d.name=some (.ref fa) ->
  ∃(K:Frag) (p:FuncData),K.In h/\TabAt K h/\(∀(s:Shared) (u:Value),BindsTo s p ⟨[u],[]⟩ [(x,u)])/\∀base:Heap,K.In base->base.Ns mainGlobals mg->FnOk l.prog w K mg base CX0 k fa p [x] (sp K))
 (m:∀(K:Frag) (H:Hp) (a:Addr) (ns:List Int),ns.length<=n->SqL K H a (ns.map V.int)->sp K [.ref a] H (λv _=>v=.bl true) λ_ _ _=>False) :
 WalkO q loose XP YP l.row.toRowW d [] (λf vs=>PySem.call f vs):=by
 refine Att.Ai0 hn t λw D B mg C fa o P O J a vs ns G Y Q R E j i c b L=>?_
 obtain⟨K,p,y,A,I,M⟩:=F w _ _ _ _ _ G.T G.X j
 exact A0c y G.T.g G.T.b G.T.builtins G.T.nolimit L G.T.bmain A i c (Nat.le_trans b r) hr M I (λH N=>m K H a _ b N) λH e S z=>z
end L2
namespace L2
open PySem PySem.Spec PyProof.Rows
section
variable {P:Program}{w:World}{A:Around}{E:Value->Shared->Prop}{s:Shared}
theorem Al7:((Manifest.find? "dict_valueiterator").elim "dict_valueiterator" λx=>x.tpName) = "dict_valueiterator" := by rw[find?_eq_fast];kernel_rfl
theorem A5z {it dd:Addr}{i ep:Nat}{es:Array DictEntry}{od:Obj}{Q:Option Value->Shared->Prop}(hit:s.heap.IsValIter it dd i es.size ep)(hod:s.heap.get? dd=some od)(hdd:od.data=.dict es ep)(hi:i<es.size)
 (hQ:∀h',h'.IsValIter it dd (i+1) es.size ep->Heap.SameBut it s.heap h'->Q (some es[i].val) { s with heap:=h' }):wpAny (model P w) A (pyNext (.ref it)) Q E s:=by
 obtain⟨hp,g,d,tk,os⟩:=s;obtain⟨⟨c,dct,dat,sl⟩,ho,hc,hd⟩:=hit;obtain⟨c2,dct2,dat2,sl2⟩:=od;simp only at hc hd hdd;subst hc hd hdd;have ty:(⟨hp,g,d,tk,os⟩:Shared).TypeIs (.ref it) "dict_valueiterator" := ⟨_,ho,rfl⟩;have f1:=mroOf_valiter
 have f2:Builtin.Dict_items.ownsTuple "dict_valueiterator" = false:=by decide
 have f3:es[(i:Int).toNat]?=some es[i]:=by simp[hi]
 unfold pyNext
 refine wpAny_bind (wpAny_attempt (wpAny_callSpecial?_slot (name:="__next__") ty F.slot_dict_valueiterator_next (wpAny_call_entry F.slot_dict_valueiterator_next ty F.entry_dict_valueiterator_next ?_ (F.args_dict_valueiterator_next_1 _))))
 repeat any_goals first | assumption | wp_step
 simp only[Al7,f2,Bool.false_eq_true,if_false,List.drop_zero,List.take]
 have f4:¬ ((i:Int)<0):=by omega
 simp only[f4,if_false,f3]
 repeat any_goals first | assumption | wp_step
 simp only[Al7,f2,Bool.false_eq_true,if_false]
 have hit':(hp.update it (Obj.mapFields (·.setIfInBounds 1 (rawInt ((i:Int)+1))))).IsValIter it dd (i+1) es.size ep :=
  ⟨_,Heap.get?_update_self _ ho (Obj.isFreed_of_fields (Obj.data_mapFields rfl _)),Obj.cls_mapFields ..,by rw[Obj.data_mapFields rfl];simp[rawInt]⟩
 exact⟨_,rfl,wpAny_pure (hQ _ hit' (Heap.SameBut.update ..))⟩
theorem Bc8 {it dd:Addr}{i ep:Nat}{es:Array DictEntry}{od:Obj}{Q:Option Value->Shared->Prop}(quiet:A.handled=none)(hit:s.heap.IsValIter it dd i es.size ep)(hod:s.heap.get? dd=some od)(hdd:od.data=.dict es ep)(hi:es.size<=i)
 (hQ:∀h',Heap.ExtBut it s.heap h'->Q none { s with heap:=h' }):wpAny (model P w) A (pyNext (.ref it)) Q E s:=by
 obtain⟨hp,g,d,tk,os⟩:=s;obtain⟨⟨c,dct,dat,sl⟩,ho,hc,hd⟩:=hit;obtain⟨c2,dct2,dat2,sl2⟩:=od;simp only at hc hd hdd;subst hc hd hdd;have ty:(⟨hp,g,d,tk,os⟩:Shared).TypeIs (.ref it) "dict_valueiterator" := ⟨_,ho,rfl⟩;have f1:=mroOf_valiter
 have f2:Builtin.Dict_items.ownsTuple "dict_valueiterator" = false:=by decide
 have f3:es[(i:Int).toNat]?=none:=by simp[hi]
 unfold pyNext
 refine wpAny_bind (wpAny_attempt (wpAny_callSpecial?_slot (name:="__next__") ty F.slot_dict_valueiterator_next (wpAny_call_entry F.slot_dict_valueiterator_next ty F.entry_dict_valueiterator_next ?_ (F.args_dict_valueiterator_next_1 _))))
 repeat any_goals first | assumption | wp_step
 simp only[Al7,f2,Bool.false_eq_true,if_false,List.drop_zero,List.take]
 have f4:¬ ((i:Int)<0):=by omega
 simp only[f4,if_false,f3]
 repeat any_goals first | assumption | wp_step
 refine wpAny_raiseNew_none (show A.in1.handled=none from quiet) ?_
 refine wpAny_bind (wpAny_isInstance (T := "StopIteration") (b:=true) ⟨_,Heap.get?_push_size _ rfl,rfl⟩ isSubtype_stop ?_)
 exact wpAny_pure (hQ _ (((Heap.SameBut.update ..).extBut.push _).push _))
theorem A0w {dd:Addr}(nd:(dd==sysModules)=false):MeetsIn P w (Builtin.«dict.values» ⟨[.ref dd],[]⟩) (λ_ R s=>s.TypeIs (.ref dd) "dict" /\ R (.ok (.ret (.ref s.heap.objs.size))) { s with heap:=s.heap.push { cls:=.type "dict_values",data:=.fields #[.ref dd] } }) :=
 .of_wp λA R s ⟨t,h⟩=>by
  refine wpAny_bind ?_
  unfold Builtin.Dict.noArgs
  refine wpAny_bind (wpAny_notOrdered_dict t (wpAny_pure ?_))
  have e0:Builtin.Dict.showsAll dd=pure ():=by unfold Builtin.Dict.showsAll;rw[if_neg (by rw[nd];exact Bool.false_ne_true)]
  show wpAny _ _ (Builtin.Dict.showsAll dd >>= _) _ _ _
  rw[e0]
  refine wpAny_bind (wpAny_pure (wpAny_bind (wpAny_newObj_type (wpAny_pure ⟨_,rfl,h⟩))))
theorem A8a {dd:Addr}{Q:Value->Shared->Prop}(nd:(dd==sysModules)=false)(ty:s.TypeIs (.ref dd) "dict")
 (hQ:Q (.ref s.heap.objs.size) { s with heap:=s.heap.push { cls:=.type "dict_values",data:=.fields #[.ref dd] } }):wpAny (model P w) A (call (.builtin "dict.values") [.ref dd]) Q E s :=
 call_meetsIn PySem.F.slot_dict_values ty PySem.F.entry_dict_values (PySem.F.args_dict_values_1 _) (A0w nd) ⟨ty,hQ⟩
theorem A3r {v dd:Addr}{es:Array DictEntry}{ep:Nat}{od:Obj}{Q:Value->Shared->Prop}(hv:s.heap.get? v=some { cls:=.type "dict_values",data:=.fields #[.ref dd] }) (hod:s.heap.get? dd=some od) (hdd:od.data=.dict es ep)
 (hQ:Q (.ref s.heap.objs.size) { s with heap:=s.heap.push { cls:=.type "dict_valueiterator",data:=.fields #[.ref dd,.int 0 0,.int es.size 0,.int ep 0] } }):wpAny (model P w) A (pyIter (.ref v)) Q E s:=by
 obtain⟨hp,g,d,tk,os⟩:=s;obtain⟨c2,dct2,dat2,sl2⟩:=od;simp only at hdd;subst hdd;have ty:(⟨hp,g,d,tk,os⟩:Shared).TypeIs (.ref v) "dict_values" := ⟨_,hv,rfl⟩
 have f2:Builtin.Dict_items.ownsTuple "dict_valueiterator" = false:=by decide
 refine wpAny_pyIter_slot ty F.slot_dict_values_iter (wpAny_call_entry F.slot_dict_values_iter ty F.entry_dict_values_iter ?_ (F.args_dict_values_iter_1 _))
 repeat any_goals first | assumption | wp_step
 simp only[f2,Bool.false_eq_true,if_false];exact⟨_,rfl, "dict_valueiterator",_,⟨_,Heap.get?_push_size _ rfl,rfl⟩,F.slot_dict_valueiterator_next.lookup,hQ⟩
end
theorem Ba7:typeLookup (.type "dict_values") "__len__" = pure (some (.builtin "dict_values.__len__")):=by rw[typeLookup_type,builtinLookup_eq_fast];kernel_rfl
theorem A3l:isSubtype (.type "dict_values") (.type "dict_values")=pure true:=by rw[isSubtype_type];kernel_rfl
section
variable {P:Program}{w:World}{A:Around}{E:Value->Shared->Prop}{s:Shared}
theorem A0s (quiet:A.handled=none){it dd:Addr}(ne:dd≠it){es:Array DictEntry}{ep:Nat}{o:Obj}(hd:o.data=.dict es ep) :
 Walks P w A it [it,dd] [it] es.size (λi v=>∃h:i<es.size,v=es[i].val) (λi h=>h.IsValIter it dd i es.size ep/\h.get? dd=some o) where
 sub:=λb hb=>by simp at hb;simp[hb]
 frame:=λ_ _ _ st hk=>⟨let ⟨o,e,r⟩:=st.1; ⟨o,hk it (by simp) o e,r⟩,hk dd (by simp) _ st.2⟩
 item:=λi s Q E hi st hQ=>A5z st.1 st.2 hd hi λh' it' sb=>hQ _ h' s.toks ⟨hi,rfl⟩ ⟨it',(sb.2 _ ne).trans st.2⟩ λb o hb e=>(sb.2 b (λh=>hb (by simp[h]))).trans e
 done:=λs Q E st hQ=>Bc8 quiet st.1 st.2 hd (Nat.le_refl _) λh' he=>hQ h' s.toks λb o hb e=>he b o (λh=>hb (by simp[h])) e
 self:=λ_ _ _ _ st hQ=>wpAny_pyIter_valiter st.1 hQ
theorem A7r {v dd S:Addr}{es:Array DictEntry}{ep c₀:Nat}{o:Obj}{res:Value}{R:Result->Shared->Prop}(quiet:A.handled=none)(nv:S≠v)(nd:S≠dd)(hv:s.heap.get? v=some { cls:=.type "dict_values",data:=.fields #[.ref dd] })
 (g1:s.heap.get? dd=some o) (hd:o.data=.dict es ep) (hn:es.size<=sizeLine) (hS:s.heap.get? S=some { cls:=.type "list",data:=.seq #[] c₀ })
 (hQ:∀h' tk acc c,(∀b o,b≠S->s.heap.get? b=some o->h'.get? b=some o)->h'.get? S=some { cls:=.type "list",dict:=none,data:=.seq acc c,slots:=#[] }->ItemsOf (λi v=>∃h:i<es.size,v=es[i].val) acc es.size->R (.ok (.ret res)) { s with heap:=h',toks:=tk }) :
 wpAny (model P w) A.in1 (Builtin.List.listExtendWith (.ref S) (.ref v) res)
  (λfin s'=>match fin with | .done f=>R (.ok f) s' | .again c'=>c'.quiet=true/\codeAny (model P w) A c' R s') (λe s'=>R (.error e) s') s:=by
 unfold Builtin.List.listExtendWith;have ty:s.TypeIs (.ref v) "dict_values" := ⟨_,hv,rfl⟩
 refine wpAny_bind (wpAny_typeOf ty ?_)
 have e1:Builtin.List.listSameRef (.ref S) (.ref v)=false:=by simp[Builtin.List.listSameRef,nv]
 have e2:(Value.type "dict_values" == Value.type "list")=false:=by decide
 have e3:(Value.type "dict_values" == Value.type "tuple")=false:=by decide
 simp only[e1,e2,e3,Bool.or_false,Bool.false_eq_true,if_false]
 refine wpAny_bind (A3r hv g1 hd ?_)
 have hit:(s.heap.push { cls:=.type "dict_valueiterator",data:=.fields #[.ref dd,.int 0 0,.int es.size 0,.int ep 0] }).IsValIter s.heap.objs.size dd 0 es.size ep:=⟨_,Heap.get?_push_size _ rfl,rfl,rfl⟩
 have up:∀c o,s.heap.get? c=some o->(s.heap.push { cls:=.type "dict_valueiterator",data:=.fields #[.ref dd,.int 0 0,.int es.size 0,.int ep 0] }).get? c=some o:=λc o e=>Heap.get?_push_of_some _ e
 have nI:s.heap.objs.size≠S:=Nat.ne_of_gt (Heap.lt_size hS);have ndI:dd≠s.heap.objs.size:=Nat.ne_of_lt (Heap.lt_size g1)
 show wpAny _ A.in1 _ _ _ { s with heap:=s.heap.push { cls:=.type "dict_valueiterator",data:=.fields #[.ref dd,.int 0 0,.int es.size 0,.int ep 0] } }
 generalize (s.heap.push { cls:=.type "dict_valueiterator",data:=.fields #[.ref dd,.int 0 0,.int es.size 0,.int ep 0] })=h1 at *
 have ty1:({ s with heap:=h1 }:Shared).TypeIs (.ref v) "dict_values" := ⟨_,up _ _ hv,rfl⟩
 refine wpAny_bind (wpAny_holding ?_)
 unfold Builtin.List.listLengthHint
 refine wpAny_bind (wpAny_specialOf ty1 Ba7 ?_)
 wp_delta
 refine wpAny_bind (wpAny_isInstance (b:=true) ty1 A3l ?_)
 show wpAny _ A.in1 (typeOf (Value.ref v) >>= _) _ _ _
 refine wpAny_bind (wpAny_typeOf ty1 ?_)
 refine wpAny_pure ?_
 rw[if_pos (by decide)]
 refine wpAny_bind (wpAny_rule ?_)
 refine wpAny_bind (m:=Builtin.List.listTouch _) ?_
 unfold Builtin.List.listTouch;have hS1:=up _ _ hS
 refine wpAny_bind (wpAny_updateSeq hS1 rfl ?_)
 have q2:=Heap.get?_update_self (Obj.mapSeq (·.push Value.none)) hS1 rfl
 refine wpAny_updateSeq q2 rfl ?_
 have q3:=Heap.get?_update_self (Obj.mapSeq (·.pop)) q2 rfl
 have oth:∀b o,b≠S->h1.get? b=some o->((h1.update S (Obj.mapSeq (·.push Value.none))).update S (Obj.mapSeq (·.pop))).get? b=some o:=λb o n e=>(Heap.get?_update_other _ _ (Ne.symm n)).trans ((Heap.get?_update_other _ _ (Ne.symm n)).trans e)
 have W:=A0s (P:=P) (w:=w) (A:=A.in1) (show A.in1.handled=none from quiet) ndI hd
 refine wpAny_pure ⟨plainId_quiet F.plain_extend_loop _,codeAny_extend_loopS W.toS hn S (λm=>?_) _ es.size 0 _ _ _ rfl (Nat.zero_le _) ⟨?_,oth _ _ (Ne.symm nd) (up _ _ g1)⟩ q3 (ItemsOf.nil _) λs' acc' c' hm hS' hacc=>?_⟩
 ·simp only[List.mem_cons,List.not_mem_nil,or_false]at m
  rcases m with m | m
  ·exact nI m.symm
  ·exact nd m
 ·obtain⟨ob,e1,e2⟩:=hit
  exact⟨ob,oth _ _ nI e1,e2⟩
 ·obtain⟨h',g',d',tk',os'⟩:=s'
  cases (show g'=s.gens from hm.gens)
  cases (show d'=s.drawn from hm.drawn)
  cases (show os'=s.os from hm.os)
  refine hQ h' tk' acc' c' (λb o nb e=>hm.heap b o (λhb=>?_) (oth b o nb (up b o e))) hS' hacc
  simp only[List.mem_cons,List.not_mem_nil,or_false]at hb
  rcases hb with h | h
  ·exact nb h
  ·exact Nat.ne_of_lt (Heap.lt_size e) h
theorem Ug {v dd:Addr}{es:Array DictEntry}{ep:Nat}{o:Obj}{Q:Value->Shared->Prop}(quiet:A.handled=none)(hv:s.heap.get? v=some { cls:=.type "dict_values",data:=.fields #[.ref dd] })
 (g1:s.heap.get? dd=some o) (hd:o.data=.dict es ep) (hn:es.size<=sizeLine)
 (hQ:∀h' tk acc c,(∀b o,s.heap.get? b=some o->h'.get? b=some o)->h'.get? s.heap.objs.size=some { cls:=.type "list",dict:=none,data:=.seq acc c,slots:=#[] }->ItemsOf (λi v=>∃h:i<es.size,v=es[i].val) acc es.size->Q (.ref s.heap.objs.size) { s with heap:=h',toks:=tk }) :
 wpAny (model P w) A (call (.type "list") [.ref v]) Q E s:=by
 refine callType_codes (Q₁:=λobj s₁=>obj=.ref s.heap.objs.size/\s₁={ s with heap:=s.heap.push { cls:=.type "list",data:=.seq #[] } }) F.called_list (F.typeCall_list_1 _) F.entry_list_init (code_list_new _ ⟨rfl,rfl⟩) λobj s₁ h₁=>?_
 obtain⟨rfl,rfl⟩:=h₁;have hS:(s.heap.push { cls:=.type "list",data:=.seq #[] }).get? s.heap.objs.size=some { cls:=.type "list",data:=.seq #[] }:=Heap.get?_push_size _ rfl
 refine⟨⟨_,hS,rfl⟩,F.args_list_init_2 _ _,?_⟩
 show wpAny _ A.in1.in1 (do let old <- Builtin.List.listItems (.ref s.heap.objs.size); Builtin.List.listUpdate (.ref s.heap.objs.size) (λ_=>#[]);letGo old.toList.reverse; Builtin.List.listExtendWith (.ref s.heap.objs.size) (.ref v) .none) _ _ _
 refine wpAny_bind ?_
 unfold Builtin.List.listItems
 refine wpAny_bind (wpAny_seqItems hS rfl (wpAny_pure ?_))
 show wpAny _ A.in1.in1 (updateSeq s.heap.objs.size (λ_=>#[]) >>= λ_=>letGo (#[]:Array Value).toList.reverse >>= λ_=>Builtin.List.listExtendWith (.ref s.heap.objs.size) (.ref v) .none) _ _ _
 refine wpAny_bind (wpAny_updateSeq hS rfl ?_)
 have hS₂:=Heap.get?_update_self (Obj.mapSeq (λ_=>(#[]:Array Value))) hS rfl
 have oth:∀b o,s.heap.get? b=some o->((s.heap.push { cls:=.type "list",data:=.seq #[] }).update s.heap.objs.size (Obj.mapSeq (λ_=>(#[]:Array Value)))).get? b=some o :=
  λb o e=>(Heap.get?_update_other _ _ (Nat.ne_of_gt (Heap.lt_size e))).trans (Heap.get?_push_of_some _ e)
 refine wpAny_bind (wpAny_letGo ?_)
 refine A7r (A:=A.in1) (show A.in1.handled=none from quiet) (Nat.ne_of_gt (Heap.lt_size hv)) (Nat.ne_of_gt (Heap.lt_size g1)) (oth _ _ hv) (oth _ _ g1) hd hn hS₂ λh' tk acc c kp e it=>?_
 exact⟨rfl,hQ h' tk acc c (λb o e=>kp b o (Nat.ne_of_lt (Heap.lt_size e)) (oth b o e)) e it⟩
end
def A6d (td:TE):TE:=λσ H Q=>td σ H λx H1=>∃a o kvs,x=.ref a/\H1 a=some (.frz o (.dT kvs))/\∀l,H1 l=none->Q (.ref l) (upd H1 l (.lst (kvs.map (·.2))))
section
variable {X:Cx}
theorem Bg6 {P:Program}{w:World}{H:Hp}{kvs:List (PyData×V)}{xs:List (PyData×Addr×Value)}{es:Array DictEntry}{acc:Array Value}(g5:es.toList=xs.map (entryOfKey (Eu P w)))(g6:KT H kvs xs)(it:ItemsOf (λi v=>∃h:i<es.size,v=es[i].val) acc es.size):Vals (kvs.map (·.2)) acc.toList:=by
 have sz:=X7 g5 g6
 have ea:acc.toList=xs.map λx=>x.2.2:=by
  have la:acc.size=xs.length:=it.1.trans (sz.trans (Paired.length g6));apply List.ext_getElem
  ·rw[Array.length_toList,List.length_map];exact la
  ·intro i h1 h2
   have hi:i<acc.size:=by simpa using h1
   have hx:i<xs.length:=by simpa using h2
   obtain⟨hs,e1⟩:=it.2 i acc[i] (Array.getElem?_eq_getElem hi)
   have e2:es.toList[i]?=some (entryOfKey (Eu P w) xs[i]):=by rw[g5,List.getElem?_map,List.getElem?_eq_getElem hx];rfl
   rw[Array.getElem?_toList,Array.getElem?_eq_getElem hs]at e2;rw[Array.getElem_toList,e1,Option.some.inj e2,List.getElem_map];rfl
 rw[ea]
 clear it g5 sz ea
 induction g6 with
 | nil=>exact .nil
 | cons h t ih=>exact .cons h.2.2 ih
theorem A8f {l:Expr}{tl:TE}{p pos apos cpos:Pos}(hc:X.calm=true)(hg:Gl X "list") (hm:X.mg "list" = none) (hl:QE X l tl) (hbase:attributeBase l "values" X.env (eval l X.env)=eval l X.env:=by rfl) (hline:(apos.endLine==cpos.line)=true:=by rfl) :
 QE X (.Call (.Name "list" p) [.Call (.Attribute l "values" apos) [] [] cpos] [] pos) (A6d tl):=by
 refine⟨?_⟩
 intro pins s σ H Q I h;have st1:starEach [.Call (.Attribute l "values" apos) [] [] cpos] X.env=(false,eval (.Call (.Attribute l "values" apos) [] [] cpos) X.env)::starEach [] X.env:=Hm rfl
 refine Call_ (My I hg hm Ni (PyProof.Rows.callWith_type1 ?_ st1 rfl))
 rw[st1]
 show wpAny _ _ (spliced ((false,eval (.Call (.Attribute l "values" apos) [] [] cpos) X.env)::backTo pos (starEach [] X.env))) _ _ s
 refine Calls.spliced_cons ?_
 refine wpAny_Call_method0_late hbase hline (thn (hl.1 pins s σ H _ I h) λu s1 ⟨x,H1,I1,r1,q1⟩=>?_)
 obtain⟨a,o,kvs,rfl,hq,q⟩:=q1
 cases (show u=Value.ref a from r1)
 obtain⟨t1,t2,_⟩:=A8q I1 (.inr ⟨kvs,.inr ⟨o,hq⟩⟩);obtain⟨xs,es,ep,g1,g2,g3,g4,g5,g6,g7⟩:=I1.seen hq
 refine⟨"dict", "dict.values",PySem.F.plainAttrs_dict,PySem.F.slot_dict_values,PySem.F.type_dict_values,t1,t2,Calls.callWith_builtin rfl (PySem.evalArgs_none (A8a g2 t1 ?_))⟩
 refine Calls.spliced_nil ?_
 have I2:Inv X pins σ H1 { s1 with heap:=s1.heap.push { cls:=.type "dict_values",data:=.fields #[.ref a] } }:=I1.kept (t':=s1.toks) λb o e=>Heap.get?_push_of_some _ e
 have hv:(s1.heap.push { cls:=.type "dict_values",data:=.fields #[.ref a] }).get? s1.heap.objs.size=some { cls:=.type "dict_values",data:=.fields #[.ref a] }:=Heap.get?_push_size _ rfl
 refine Ug (show _=none from I.ok.hd hc) hv (Heap.get?_push_of_some _ g1) g4 (by rw[X7 g5 g6];exact g7) λh' tk acc c kp e it=>?_
 have hf:=I2.hok.fresh (Nat.le_refl _)
 refine⟨.ref _,_,I2.laid (t':=tk) kp (Nat.le_refl _) (show z9 X.prog X.w _ h' _ (.lst _) from ⟨?_,acc.toList,c,Bg6 g5 g6 it,e⟩),rfl,q _ hf⟩
 rw[List.length_map];exact g7
end
end L2
namespace U
open PySem L2
structure Xn where
 n:Str
 p:Option (Str×PyData)
inductive Th where
 | nm (T:String)
 | dc (ks:List Str) (ds:List PyData)
 | dt (ks ds:List PyData)
 | ds (ks ds:List PyData)
 | td (xs ks ds:List PyData)
 | xc (nm:Xn)
 | tc (ss:List Str)
inductive O where
 | im (d:PyData)
 | ls (b:Bool) (ds:List PyData)
 | sc (ns:List Int)
 | ty (T:Th)
abbrev Ev:=List (Option O)
inductive PV where
 | o (o:O)
 | sl (i:Nat)
inductive R (α:Type) where
 | ok (a:α) (c:Ev)
 | bad
noncomputable def R.bind {α β:Type} (r:R α) (k:α->Ev->R β):R β:=match r with
 | .ok a c=>k a c
 | .bad=>.bad
def R.sat {α:Type}(r:R α)(φ:α->Ev->Prop):Prop:=match r with
 | .ok a c=>φ a c
 | .bad=>False
theorem R.sat_bind {r:R d}{k:d->Ev->R e}{b:e->Ev->Prop}:(r.bind k).sat b↔r.sat λa c=>(k a c).sat b:=by cases r <;> exact Iff.rfl
theorem R.sat.mono {r:R d}{e b:d->Ev->Prop}(h:r.sat e) (f:∀a c,e a c->b a c):r.sat b:=by
 cases r with
 | ok a c=>exact f a c h
 | bad=>exact h
theorem R.sat.bnd {r:R d}{k:d->Ev->R e}{b:e->Ev->Prop}(h:(r.bind k).sat b):r.sat λa c=>(k a c).sat b:=R.sat_bind.mp h
noncomputable def O.bor:O->Bool
 | .ls b _=>b
 | _=>false
noncomputable def O.own:O->Bool
 | .ls _ _=>true
 | _=>false
noncomputable def O.dat:O->Option PyData
 | .im d=>some d
 | .ls _ ds=>some (.list ds)
 | _=>none
noncomputable def O.flag (b:Bool):O->O
 | .ls _ ds=>.ls b ds
 | o=>o
noncomputable def nrm:PV->PV
 | .o (.ls _ ds)=>.o (.im (.list ds))
 | p=>p
noncomputable def rdP (c:Ev):PV->Option O
 | .o o=>some o
 | .sl i=>(c[i]?).join
def Ek (c:Ev)(p:PV):Option PyData:=(rdP c p).bind O.dat
structure Wo where
 Hf:Hp
 H:Hp
 fps:Nat->List Addr
def Wo.S (W:Wo):Addr->Prop:=λa=>∃i,a∈W.fps i
def B2h (Hf:Hp):Option (Str×PyData)->Option Addr->Prop
 | none,d=>d=none
 | some q,d=>∃a v,d=some a/\Hf a=some (.xd [(q.1,v)])/\Tr Hf q.2 v
structure XAt (K:PySem.W.Frag) (Hf:Hp) (nm:Xn) (C:Addr) (d:Option Addr):Prop where
 ns:PySem.W.nsIn K mainGlobals nm.n=some (some (.ref C))
 pay:B2h Hf nm.p d
theorem XAt.same {K:PySem.W.Frag}{Hf Hf':Hp}{nm:Xn}{C:Addr}{d:Option Addr}(S:Same Hf Hf')(x:XAt K Hf nm C d):XAt K Hf' nm C d:=by
 refine⟨x.ns,?_⟩
 have q:=x.pay
 cases e:nm.p with
 | none=>rw[e]at q;exact q
 | some y=>rw[e]at q;obtain⟨a,v,h1,h2,h3⟩:=q;exact⟨a,v,h1,S _ _ h2,Tr.same S h3⟩
def RepT (K:PySem.W.Frag)(Hf:Hp):Th->V->Prop
 | .nm T,v=>v=.ty T
 | .dc ks ds,v=>∃a xs,v=.ref a/\Hf a=some (.dK (B3d ks xs))/\TrL Hf ds xs
 | .dt ks ds,v=>∃a xs,v=.ref a/\Rd Hf a (.dT (ks.zip xs))/\TrL Hf ds xs/\ks.length=xs.length
 | .ds ks ds,v=>∃a o xs,v=.ref a/\Hf a=some (.frz o (.dT (ks.zip xs)))/\TrL Hf ds xs/\ks.length=xs.length
 | .td es ks ds,v=>∃a us b o xs,v=.ref a/\Hf a=some (.tup (us++[.ref b]))/\TrL Hf es us/\Hf b=some (.frz o (.dT (ks.zip xs)))/\TrL Hf ds xs/\ks.length=xs.length
 | .xc nm,v=>∃a C d,v=.ref a/\XAt K Hf nm C d/\Hf a=some (Ld a C d)
 | .tc ss,v=>∃p,v=.ref p/\∀H,SqT K H p (ss.map V.str)
theorem Be6 (S:Same Hf b) (h:Rd Hf a u):Rd b a u:=h.imp (λh=>S _ _ h) λ⟨o,h⟩=>⟨o,S _ _ h⟩
theorem RepT.same {K:PySem.W.Frag}{Hf Hf':Hp}(S:Same Hf Hf'):∀{t:Th}{v:V},RepT K Hf t v->RepT K Hf' t v
 | .nm T,_,h=>h
 | .dc ks ds,_,⟨a,xs,e,h,t⟩=>⟨a,xs,e,S _ _ h,TrL.same S t⟩
 | .dt ks ds,_,⟨a,xs,e,h,t,l⟩=>⟨a,xs,e,Be6 S h,TrL.same S t,l⟩
 | .ds ks ds,_,⟨a,o,xs,e,h,t,l⟩=>⟨a,o,xs,e,S _ _ h,TrL.same S t,l⟩
 | .td es ks ds,_,⟨a,us,b,o,xs,e,h,t,h2,t2,l⟩=>⟨a,us,b,o,xs,e,S _ _ h,TrL.same S t,S _ _ h2,TrL.same S t2,l⟩
 | .xc nm,_,⟨a,C,d,e,n,h⟩=>⟨a,C,d,e,n.same S,S _ _ h⟩
 | .tc ss,_,h=>h
def RepN (K:PySem.W.Frag)(Hf:Hp):O->V->Prop
 | .im d,v=>Tr Hf d v
 | .sc ns,v=>∃a,v=.ref a/\SqL K Hf a (ns.map V.int)
 | .ty T,v=>RepT K Hf T v
 | .ls _ _,_=>False
def RepO (K:PySem.W.Frag)(Hf H:Hp)(o:O)(v:V)(fp:List Addr):Prop:=match o with
 | .ls _ ds=>∃a vs,v=.ref a/\fp=[a]/\Hf a=none/\H a=some (.lst vs)/\TrL Hf ds vs
 | o=>fp=[]/\RepN K Hf o v
structure Stp (S:Addr->Prop) (Hf H:Hp) (S':Addr->Prop) (Hf' H':Hp):Prop where
 fz:Same Hf Hf'
 kp:∀a o,H a=some o->¬ S a->H' a=some o
 nf:∀a o,H a=some o->Mut (some o)->¬ S a->Hf a=none->Hf' a=none
 fr:∀a,S' a->S a\/H a=none
structure Rep (K:PySem.W.Frag) (β:Nat->V) (W:Wo) (c:Ev) (σ:St):Prop where
 sub:Same W.Hf W.H
 len:c.length=σ.length
 get:∀i o,c[i]?=some (some o)->∃v,σ[i]?=some (some v)/\RepO K W.Hf W.H o v (W.fps i)/\(o.bor=true->v=β i)
 dis:∀i j a,a∈W.fps i->a∈W.fps j->i=j
 own:∀i a,a∈W.fps i->W.Hf a=none/\∃o,W.H a=some o/\Mut (some o)
def Ej (K:PySem.W.Frag)(W:Wo)(σ:St):PV->V->List Addr->Prop
 | .o o,v,fp=>RepO K W.Hf W.H o v fp/\∀a∈fp,¬ W.S a
 | .sl i,v,fp=>fp=[]/\σ[i]?=some (some v)
def RepA (K:PySem.W.Frag)(Hf:Hp)(σ:St):PV->V->Prop
 | .o o,v=>RepN K Hf o v
 | .sl i,v=>σ[i]?=some (some v)
def zL (K:PySem.W.Frag)(Hf:Hp)(σ:St):List PV->List V->Prop
 | [],vs=>vs=[]
 | p::ps,vs=>∃v r,vs=v::r/\RepA K Hf σ p v/\zL K Hf σ ps r
abbrev orS (S:Addr->Prop)(fp:List Addr):Addr->Prop:=λa=>S a\/a∈fp
section
variable {K:PySem.W.Frag}{β:Nat->V}{W W':Wo}{c c':Ev}{σ:St}{Hf Hf' Hf2 H H' H2:Hp}{o:O}{v:V}{fp:List Addr}{S S' S2:Addr->Prop}{p:PV}{a:Addr}
theorem Stp.refl:Stp S Hf H S Hf H:=⟨λ_ _ h=>h,λ_ _ h _=>h,λ_ _ _ _ _ h=>h,λ_ h=>.inl h⟩
theorem Stp.trans (x:Stp S Hf H S' Hf' H')(y:Stp S' Hf' H' S2 Hf2 H2):Stp S Hf H S2 Hf2 H2:=by
 have b:∀a o,H a=some o->¬ S a->¬ S' a:=λa o h n z=>by
  rcases x.fr a z with q | q
  ·trivial
  simp_all
 refine⟨x.fz.trans y.fz,λa o h n=>y.kp a o (x.kp a o h n) (b a o h n),λa o h c n q=>y.nf a o (x.kp a o h n) c (b a o h n) (x.nf a o h c n q),λa h=>?_⟩
 rcases y.fr a h with q | q
 ·exact x.fr a q
 ·cases e:H a with
  | none=>simp_all
  | some o =>
   by_cases n:S a
   ·grind
   ·rw[x.kp a o e n]at q;grind
theorem Stp.less (x:Stp S Hf H S' Hf' H')(h:∀a,S2 a->S' a):Stp S Hf H S2 Hf' H':=⟨x.fz,x.kp,x.nf,λa q=>x.fr a (h a q)⟩
theorem Stp.more {F:Addr->Prop}(x:Stp S Hf H S' Hf' H'):Stp (λa=>S a\/F a) Hf H (λa=>S' a\/F a) Hf' H' :=
 ⟨x.fz,λa o h n=>x.kp a o h λz=>n (.inl z),λa o h b n q=>x.nf a o h b (λz=>n (.inl z)) q,λa q=>by
  rcases q with q | q
  ·rcases x.fr a q with z | z
   ·simp_all
   grind
  simp_all⟩
theorem Stp.up (x:Stp S Hf H S' Hf' H')(h:∀a,S a->S2 a):Stp S2 Hf H S' Hf' H' :=
 ⟨x.fz,λa o e n=>x.kp a o e λz=>n (h a z),λa o e b n q=>x.nf a o e b (λz=>n (h a z)) q,λa q=>(x.fr a q).imp (h a) id⟩
theorem RepN.same (S:Same Hf Hf'):∀{o:O}{v:V},RepN K Hf o v->RepN K Hf' o v
 | .im d,_,h=>Tr.same S h
 | .sc ns,_,⟨a,e,h⟩=>⟨a,e,Same.seq S h⟩
 | .ty T,_,h=>RepT.same S h
 | .ls _ _,_,h=>h
theorem RepA.same (S:Same Hf Hf'):∀{p:PV}{v:V},RepA K Hf σ p v->RepA K Hf' σ p v
 | .o _,_,h=>RepN.same S h
 | .sl _,_,h=>h
theorem zL.same (S:Same Hf Hf'):∀{ps:List PV}{vs:List V},zL K Hf σ ps vs->zL K Hf' σ ps vs
 | [],_,h=>h
 | p::ps,_,⟨v,r,e,h,t⟩=>⟨v,r,e,RepA.same S h,zL.same S t⟩
theorem RepO.mono (h:RepO K Hf H o v fp)(S:Same Hf Hf')(h1:∀a∈fp,Hf' a=none/\H' a=H a):RepO K Hf' H' o v fp:=by
 cases o with
 | ls b ds =>
  obtain⟨a,f,rfl,rfl,q,e,t⟩:=h;obtain⟨c,g⟩:=h1 a (.head _);exact⟨a,f,rfl,rfl,c,g.trans e,TrL.same S t⟩
 | im d=>exact⟨h.1,RepN.same S h.2⟩
 | sc ns=>exact⟨h.1,RepN.same S h.2⟩
 | ty T=>exact⟨h.1,RepN.same S h.2⟩
theorem Rep.frame (R:Rep K β W c σ)(S:Same W.Hf Hf')(sub:Same Hf' H')(h:∀a,W.S a->Hf' a=none/\H' a=W.H a):Rep K β ⟨Hf',H',W.fps⟩ c σ :=
 ⟨sub,R.len,λi o e=>by
  obtain⟨v,f,r,b⟩:=R.get i o e
  exact⟨v,f,r.mono S λa d=>h a ⟨i,d⟩,b⟩,R.dis,λi a d=>by
  obtain⟨_,o,q,j⟩:=R.own i a d;obtain⟨k,g⟩:=h a ⟨i,d⟩
  grind⟩
theorem Rep.notS (R:Rep K β W c σ)(h:W.H a=none):¬ W.S a:=λ⟨i,q⟩=>by
 obtain⟨_,o,e,_⟩:=R.own i a q
 grind
theorem Rep.notF (R:Rep K β W c σ)(h:W.H a=none):W.Hf a=none:=Same.free R.sub h
theorem Stp.rep (R:Rep K β W c σ)(x:Stp (λ_=>False) W.Hf W.H S' Hf' H')(sub:Same Hf' H'):Rep K β ⟨Hf',H',W.fps⟩ c σ :=
 R.frame x.fz sub λa d=>by
  obtain⟨i,f⟩:=d;obtain⟨z,o,e,b⟩:=R.own i a f
  exact⟨x.nf a o e b (λz=>z) z,(x.kp a o e λz=>z).trans e.symm⟩
theorem Ca {p:Addr}{o:HO}(h:H p=none):Same H (upd H p o):=λb u e=>by
 rw[Ag];exact e
 grind
theorem Nf {o:HO}(s:Same Hf H):Same (upd Hf a o) (upd H a o):=λb u e=>by
 unfold upd at e ⊢
 split
 ·grind
 ·rename_i z;rw[if_neg z]at e;exact s b u e
theorem Stp.newF {o:HO}(s:Same Hf H)(h:H a=none):Stp (λ_=>False) Hf H (λ_=>False) (upd Hf a o) (upd H a o) :=
 ⟨Ca (Same.free s h),λb u e _=>Ca h b u e,λb u e _ _ q=>by rw[Ag (Bd e h)];grind,λ_ z=>z.elim⟩
theorem Stp.newL {o:HO}(s:Same Hf H)(h:H a=none):Stp (λ_=>False) Hf H (λb=>b∈[a]) Hf (upd H a o) :=
 ⟨Same.refl _,λb u e _=>Ca h b u e,λb u e _ _ q=>q,λb z=>by
  grind⟩
theorem Tt {o:HO}(s:Same Hf H)(h:H a=none):Same Hf (upd H a o):=s.trans (Ca h)
def ME (K:PySem.W.Frag)(T:TE)(f:Ev->R PV):Prop:=∀(β:Nat->V) (W:Wo) (c:Ev) (σ:St) (Q:VK),Rep K β W c σ ->
 (f c).sat (λp c'=>∀v W' fp,Stp W.S W.Hf W.H (orS W'.S fp) W'.Hf W'.H->Rep K β W' c' σ->Ej K W' σ p v fp->Q v W'.H)->T σ W.H Q
def MV (K:PySem.W.Frag)(T:TE)(f:Ev->R PV):Prop:=∀(β:Nat->V) (W:Wo) (c:Ev) (σ:St) (Q:VK),Rep K β W c σ ->
 (f c).sat (λp c'=>∀v W',Stp W.S W.Hf W.H W'.S W'.Hf W'.H->Rep K β W' c' σ->RepA K W'.Hf σ (nrm p) v->Q v W'.H)->T σ W.H Q
def MA (K:PySem.W.Frag)(T:TA)(f:Ev->R (List PV)):Prop:=∀(β:Nat->V) (W:Wo) (c:Ev) (σ:St) (Q:List V->Hp->Prop),Rep K β W c σ ->
 (f c).sat (λps c'=>∀vs W',Stp W.S W.Hf W.H W'.S W'.Hf W'.H->Rep K β W' c' σ->zL K W'.Hf σ ps vs->Q vs W'.H)->T σ W.H Q
def MT (K:PySem.W.Frag)(T:TT)(f:Ev->R Bool):Prop:=∀(β:Nat->V) (W:Wo) (c:Ev) (σ:St) (Q:Bool->Hp->Prop),Rep K β W c σ ->
 (f c).sat (λb c'=>∀W',Stp W.S W.Hf W.H W'.S W'.Hf W'.H->Rep K β W' c' σ->Q b W'.H)->T σ W.H Q
theorem Ys (R:Rep K β W c σ) (hf:W.Hf a=none) (h:W.H a=some (.lst vs)) (hn:¬ W.S a):Rep K β ⟨upd W.Hf a (.lst vs),W.H,W.fps⟩ c σ :=
 R.frame (Ca hf) (λb u e=>by
  unfold upd at e
  split at e
  ·grind
  ·exact R.sub b u e) λb f=>by
   obtain⟨i,g⟩:=f
   have d:b≠a:=λz=>hn ⟨i,by simp_all⟩
   exact⟨by rw[Ag d];exact(R.own i b g).1,rfl⟩
theorem B2k {Q:VK} (k:∀v c,Stp W.S W.Hf W.H c.S c.Hf c.H->Rep K β c c' σ->RepA K c.Hf σ (nrm p) v->Q v c.H) (v:V) (c:Wo) (fp:List Addr) (st:Stp W.S W.Hf W.H (orS c.S fp) c.Hf c.H) (g:Rep K β c c' σ) (f:Ej K c σ p v fp):Q v c.H:=by
 cases p with
 | sl i =>
  obtain⟨rfl,e⟩:=f
  exact k v _ (st.less λa z=>.inl z) g e
 | o o =>
  cases o with
  | im d =>
   obtain⟨⟨rfl,e⟩,_⟩:=f
   exact k v _ (st.less λa z=>.inl z) g e
  | sc d =>
   obtain⟨⟨rfl,e⟩,_⟩:=f
   exact k v _ (st.less λa z=>.inl z) g e
  | ty d =>
   obtain⟨⟨rfl,e⟩,_⟩:=f
   exact k v _ (st.less λa z=>.inl z) g e
  | ls b ds =>
   obtain⟨⟨a,l,rfl,rfl,h,r,t⟩,m⟩:=f
   refine k _ ⟨upd _ a _,c.H,c.fps⟩ ⟨st.fz.trans (Ca h),st.kp,λb o e s n q=>?_,λb z=>st.fr b (.inl z)⟩ (Ys g h r (m a (.head _))) ?_
   ·have j:b≠a:=λz=>by
     rcases st.fr a (.inr (.head _)) with y | y
     ·grind
     simp_all
    show upd _ a _ b=none
    rw[Ag j];exact st.nf b o e s n q
   ·exact⟨a,l,rfl,Ax,TrL.same (Ca h) t⟩
theorem ME.toV (h:ME K T f):MV K T f:=λe W c j Q R s=>h _ W c _ Q R (s.mono λp l k v g i a d b=>B2k k v _ _ a d b)
end
def RdV (Hf H:Hp):PyData->V->Prop
 | .list ds,v=>∃a vs,v=.ref a/\H a=some (.lst vs)/\TrL Hf ds vs
 | d,v=>Tr Hf d v
section
variable {K:PySem.W.Frag}{β:Nat->V}{W W':Wo}{c c':Ev}{σ:St}{Hf Hf' H H':Hp}{o:O}{v:V}{fp:List Addr}{S:Addr->Prop}{p:PV}{a:Addr}{d:PyData}
theorem RdV.of (s:Same Hf H)(h:Tr Hf d v):RdV Hf H d v:=by
 cases d with
 | list f=>obtain⟨a,c,e,q,t⟩:=h;exact⟨a,c,e,s _ _ q,t⟩
 | none=>exact h
 | bool b=>exact h
 | int i=>exact h
 | str x=>exact h
 | tuple f=>exact h
 | dict k=>exact h
theorem RdV.tr (s:Same Hf H)(h:RdV Hf H d v):Tr H d v:=by
 cases d with
 | list f=>obtain⟨a,c,e,q,t⟩:=h;exact⟨a,c,e,q,TrL.same s t⟩
 | none=>exact h
 | bool b=>exact h
 | int i=>exact h
 | str x=>exact h
 | tuple f=>exact Tr.same s h
 | dict k=>trivial
theorem Gf (R:Rep K β W c σ)(h:RepA K W.Hf σ p v)(e:Ek c p=some d):RdV W.Hf W.H d v:=by
 cases p with
 | o o =>
  cases o with
  | im m=>cases e;exact .of R.sub h
  | ls b n=>trivial
  | sc k=>trivial
  | ty T=>trivial
 | sl i =>
  have l:c[i]?.join.bind _=some d:=e;obtain⟨o,g,f⟩:=Option.bind_eq_some_iff.mp l
  have g:c[i]?=some (some o):=by
   grind
  obtain⟨u,s,r,_⟩:=R.get i o g
  cases s.symm.trans h
  cases o with
  | im m=>cases f;exact .of R.sub r.2
  | ls b n =>
   cases f
   obtain⟨a,j,e,_,_,q,t⟩:=r;exact⟨a,j,e,q,t⟩
  | sc k=>trivial
  | ty T=>trivial
def Bw3 (Hf H:Hp):List PyData->List V->Prop
 | [],vs=>vs=[]
 | d::ds,vs=>∃v r,vs=v::r/\RdV Hf H d v/\Bw3 Hf H ds r
def At2 (c:Ev):List PV->Option (List PyData)
 | []=>some []
 | p::ps=>(Ek c p).bind λd=>(At2 c ps).map (d::·)
abbrev New (K:PySem.W.Frag)(Hf H:Hp)(o:O)(Q:VK):Prop:=∀v Hf' H' fp,Stp (λ_=>False) Hf H (λa=>a∈fp) Hf' H'->Same Hf' H'->RepO K Hf' H' o v fp->Q v H'
def OpS (K:PySem.W.Frag)(r:R2)(op:PyData->PyData->Option O):Prop:=∀(Hf H:Hp) (x y:V) (dx dy:PyData) (o:O) (Q:VK),Same Hf H->RdV Hf H dx x->RdV Hf H dy y->op dx dy=some o->New K Hf H o Q->r x y H Q
def B2f (K:PySem.W.Frag)(r:List V->Hp->VK->Prop)(op:List PyData->Option O):Prop:=∀(Hf H:Hp) (xs:List V) (ds:List PyData) (o:O) (Q:VK),Same Hf H->Bw3 Hf H ds xs->op ds=some o->New K Hf H o Q->r xs H Q
theorem New.same (h:New K Hf H (.im d) Q) (s:Same Hf H) (t:Tr Hf d v):Q v H:=h v _ H [] (Stp.refl.less λa z=>nomatch z) s ⟨rfl,t⟩
theorem New.tup (h:New K Hf H (.im (.tuple ds)) Q) (s:Same Hf H) (t:TrL Hf ds vs) {p:Addr}(hp:H p=none):Q (.ref p) (upd H p (.tup vs)) :=
 h _ _ _ [] ((Stp.newF s hp).less λa z=>nomatch z) (Nf s) ⟨rfl,p,vs,rfl,Ax,TrL.same (Ca (Same.free s hp)) t⟩
theorem New.lst (h:New K Hf H (.ls false ds) Q) (s:Same Hf H) (t:TrL Hf ds vs) {p:Addr}(hp:H p=none):Q (.ref p) (upd H p (.lst vs)) :=
 h _ _ _ _ (Stp.newL s hp) (Tt s hp) ⟨p,vs,rfl,rfl,Same.free s hp,Ax,t⟩
theorem New.of (R:Rep K β W c σ) (k:∀v W' d,Stp W.S W.Hf W.H (orS W'.S d) W'.Hf W'.H->Rep K β W' c σ->Ej K W' σ (.o o) v d->Q v W'.H):New K W.Hf W.H o Q:=by
 intro v h j d b f r
 refine k v _ _ ⟨b.fz,λa o e _=>b.kp a o e λz=>z,λa o e i _ q=>b.nf a o e i (λz=>z) q,λa z=>?_⟩ (b.rep R f) ⟨r,λa g z=>?_⟩
 ·rcases z with z | z
  ·exact .inl z
  ·rcases b.fr a z with y | y
   ·trivial
   grind
 ·rcases b.fr a g with y | y
  ·omega
  ·exact R.notS y z
def cOp (op:PyData->PyData->Option O)(fa fb:Ev->R PV):Ev->R PV:=λc=>(fa c).bind λp c=>(fb c).bind λq c =>
 match Ek c (nrm p),Ek c (nrm q) with
 | some x,some y=>match op x y with
  | some o=>.ok (.o o) c
  | none=>.bad
 | _,_=>.bad
theorem Ak (ha:ME K g fa) (hb:ME K f fb) (hr:OpS K r op):ME K (tOp r g f) (cOp op fa fb):=by
 intro β W c σ Q R s
 refine ha.toV _ W c _ _ R (s.bnd.mono λp c1 l v1 W1 d i j=>?_)
 refine hb.toV _ _ _ _ _ i (l.bnd.mono λq e a v2 W2 b R2 k=>?_)
 cases ex:Ek e (nrm p) with
 | none=>simp only[ex]at a;trivial
 | some x =>
  cases ey:Ek e (nrm q) with
  | none=>simp only[ex,ey]at a;trivial
  | some y =>
   simp only[ex,ey]at a
   cases eo:op x y with
   | none=>simp only[eo]at a;trivial
   | some o =>
    simp only[eo]at a
    exact hr _ _ _ _ x y o Q R2.sub (Gf R2 (RepA.same b.fz j) ex) (Gf R2 k ey) eo (New.of R2 λv W' fp m n h=>a v _ _ (d.trans (b.trans m)) n h)
noncomputable def Av:Ev->R (List PV):=λc=>.ok [] c
def Ad (f:Ev->R PV)(fr:Ev->R (List PV)):Ev->R (List PV):=λc=>(f c).bind λp c=>(fr c).bind λps c=>.ok (nrm p::ps) c
noncomputable def cK (ds:List PyData):Ev->R (List PV):=λc=>.ok (ds.map λd=>.o (.im d)) c
theorem Am:MA K Fp Av:=λb W c a Q R s=>s _ W Stp.refl R rfl
theorem Ac {d:TE} (ha:ME K d fa) (hr:MA K e f):MA K (Cj d e) (Ad fa f):=by
 intro t W c v Q R s
 refine ha.toV _ W c _ _ R (s.bnd.mono λp o i j r b h g=>?_)
 refine hr _ _ _ _ _ h (i.bnd.mono λw q m l u a n k=>?_)
 exact m _ _ (b.trans a) n ⟨j,l,rfl,RepA.same a.fz g,k⟩
noncomputable def Ab (i:Nat):Ev->R PV:=λc=>match c[i]? with
 | some (some (.ls _ _))=>.ok (.sl i) c
 | some (some o)=>.ok (.o o) c
 | _=>.bad
theorem Rep.here (R:Rep K β W c σ) (h:RepN K W.Hf o v) (n:o.own=false) {Q:VK}(s:∀v W' fp,Stp W.S W.Hf W.H (orS W'.S fp) W'.Hf W'.H->Rep K β W' c σ->Ej K W' σ (.o o) v fp->Q v W'.H):Q v W.H :=
 s
  v W [] (Stp.refl.less λa z=>by
  grind) R ⟨by
   cases o with
   | ls b e=>trivial
   | im d=>trivial
   | sc d=>trivial
   | ty d=>trivial,λa z=>nomatch z⟩
theorem Aa : ME K (Va i) (Ab i):=by
 intro j W c h Q R s;unfold Ab at s
 cases e:c[i]? with
 | none=>simp only[e]at s;trivial
 | some x =>
  cases x with
  | none=>simp only[e]at s;trivial
  | some o =>
   obtain⟨v,f,r,_⟩:=R.get i o e
   refine⟨v,f,?_⟩
   simp only[e]at s
   cases o with
   | ls b g=>
    exact s v W _ (Stp.refl.less λa z=>by
     rcases z with z | z
     ·omega
     simp_all) R ⟨rfl,f⟩
   | im d=>exact R.here r.2 rfl s
   | sc d=>exact R.here r.2 rfl s
   | ty d=>exact R.here r.2 rfl s
noncomputable def cC (d:PyData):Ev->R PV:=λc=>.ok (.o (.im d)) c
noncomputable def vD:V->Option PyData
 | .non=>some .none
 | .bl b=>some (.bool b)
 | .int i=>some (.int i)
 | .str x=>some (.str x)
 | _=>none
theorem Bj6:∀{v:V}{d:PyData},vD v=some d->Tr H d v
 | .non,_,e=>by cases e;rfl
 | .bl b,_,e=>by cases e;rfl
 | .int i,_,e=>by cases e;rfl
 | .str x,_,e=>by cases e;rfl
 | .byt _,_,e=>nomatch e
 | .flt _,_,e=>nomatch e
 | .ref _,_,e=>nomatch e
 | .ty _,_,e=>nomatch e
theorem Ar (h:vD v=some d):ME K (tC v) (cC d):=λb W c a Q R s=>R.here (o:=.im d) (Bj6 h) rfl s
noncomputable def frz (p:PV) (c:Ev):R PyData:=match p with
 | .o (.im d)=>.ok d c
 | .o _=>.bad
 | .sl i=>match c[i]? with
  | some (some (.im d))=>.ok d c
  | some (some (.ls false ds))=>.ok (.list ds) (c.set i (some (.im (.list ds))))
  | _=>.bad
noncomputable def clr (fps:Nat->List Addr) (i:Nat):Nat->List Addr:=λj=>if j=i then [] else fps j
theorem El (h:a∈clr b i j):a∈b j/\j≠i:=by
 unfold clr at h
 grind
theorem Rep.setN (R:Rep K β W c σ) (h:RepN K W.Hf o v) (n:o.own=false):Rep K β ⟨W.Hf,W.H,clr W.fps i⟩ (c.set i (some o)) (σ.set i (some v)):=by
 refine⟨R.sub,by rw[List.length_set,List.length_set];exact R.len,λj s e=>?_,λj k a m g=>R.dis j k a (El m).1 (El g).1,λj a h=>R.own j a (El h).1⟩
 by_cases z:j=i
 ·subst z
  by_cases l:j<c.length
  ·rw[List.getElem?_set_self l]at e
   cases e
   refine⟨v,by rw[List.getElem?_set_self (by rw[<- R.len];exact l)],?_,λb=>?_⟩
   ·show RepO K W.Hf W.H o v (clr _ j j)
    unfold clr;rw[if_pos rfl]
    cases o with
    | ls b f=>exact nomatch n
    | im d=>exact⟨rfl,h⟩
    | sc d=>trivial
    | ty d=>exact⟨rfl,h⟩
   ·cases o with
    | ls b f=>exact nomatch n
    | im d=>exact nomatch b
    | sc d=>exact nomatch b
    | ty d=>exact nomatch b
  grind
 ·rw[List.getElem?_set_ne λy=>z y.symm]at e
  obtain⟨p,q,r,b⟩:=R.get j _ e
  refine⟨p,by grind,?_,b⟩
  unfold clr
  simp_all
theorem Rep.setO (R:Rep K β W c σ) (h:RepO K W.Hf W.H o v fp) (hn:∀a∈fp,¬ W.S a) (hb:o.bor=false):Rep K β ⟨W.Hf,W.H,λj=>if j=i then fp else W.fps j⟩ (c.set i (some o)) (σ.set i (some v)):=by
 refine⟨R.sub,by rw[List.length_set,List.length_set];exact R.len,λj o' e=>?_,λj k a f g=>?_,λj a f=>?_⟩
 ·by_cases z:j=i
  ·subst z
   by_cases l:j<c.length
   ·rw[List.getElem?_set_self l]at e
    cases e
    refine⟨v,by rw[List.getElem?_set_self (by rw[<- R.len];exact l)],?_,λb=>by rw[hb]at b;cases b⟩
    simp_all
   simp_all
  ·rw[List.getElem?_set_ne λy=>z y.symm]at e
   obtain⟨v',e1,r,b⟩:=R.get j _ e
   grind
 ·have f:a∈if j=i then fp else W.fps j:=f
  have g:a∈if k=i then fp else W.fps k:=g
  split at f
  ·split at g
   ·omega
   ·exact absurd ⟨k,g⟩ (hn a f)
  ·split at g
   ·exact absurd ⟨j,f⟩ (hn a g)
   ·exact R.dis j k a f g
 ·have f:a∈if j=i then fp else W.fps j:=f
  split at f
  ·cases o with
   | ls b ds =>
    obtain⟨a',vs,_,rfl,n,m,_⟩:=h
    cases List.mem_singleton.mp f
    exact⟨n,_,m,trivial⟩
   | im d=>rw[h.1]at f;cases f
   | sc d=>rw[h.1]at f;cases f
   | ty d=>rw[h.1]at f;cases f
  ·exact R.own j a f
theorem set_same {a:Type}{l:List a} {x:a}(h:l[i]?=some x):l.set i x=l:=by
 apply List.ext_getElem?
 grind
theorem Rep.drop (R:Rep K β W c σ)(i:Nat):Rep K β ⟨W.Hf,W.H,clr W.fps i⟩ (c.set i none) σ:=by
 refine⟨R.sub,by rw[List.length_set];exact R.len,λj m e=>?_,λj k a g f=>R.dis j k a (El g).1 (El f).1,λj a h=>R.own j a (El h).1⟩
 by_cases z:j=i
 ·grind
 ·rw[List.getElem?_set_ne λy=>z y.symm]at e
  obtain⟨l,d,r,b⟩:=R.get j _ e
  refine⟨l,d,?_,b⟩
  unfold clr
  simp_all
theorem Hy (R:Rep K β W c σ)(h:RepA K W.Hf σ p v) (s:(frz p c).sat k) :
 ∃d c' W',frz p c=.ok d c'/\k d c'/\W'.H=W.H/\Stp W.S W.Hf W.H W'.S W'.Hf W'.H/\Rep K β W' c' σ/\Tr W'.Hf d v:=by
 cases p with
 | o o =>
  cases o with
  | im d=>exact⟨d,c,W,rfl,s,rfl,Stp.refl,R,h⟩
  | ls b w=>exact s.elim
  | sc d=>exact s.elim
  | ty d=>exact s.elim
 | sl i =>
  unfold frz at s ⊢
  cases e:c[i]? with
  | none=>simp only[e]at s;exact s.elim
  | some x =>
   cases x with
   | none=>simp only[e]at s;exact s.elim
   | some o =>
    obtain⟨v',u,r,_⟩:=R.get i o e
    cases (show some _=some _ from u.symm.trans h)
    cases o with
    | im d=>simp only[e]at s;exact⟨d,c,W,by simp only[e],s,rfl,Stp.refl,R,r.2⟩
    | sc d=>simp only[e]at s;exact s.elim
    | ty d=>simp only[e]at s;exact s.elim
    | ls b w =>
     cases b with
     | true=>simp only[e]at s;exact s.elim
     | false =>
      simp only[e]at s;obtain⟨a,m,rfl,l,f,A,t⟩:=r
      refine⟨.list _,c.set i _,⟨upd _ a _,W.H,clr W.fps i⟩,by simp only[e],s,rfl,⟨Ca f,λb o e _=>e,λb o e mu n q=>?_,λb z=>?_⟩,?_,⟨a,m,rfl,Ax,TrL.same (Ca f) t⟩⟩
      ·have C:b≠a:=λz=>n ⟨i,by rw[z,l];exact .head _⟩
       show upd _ a _ b=none
       rw[Ag C];exact q
      ·obtain⟨j,g⟩:=z
       exact .inl ⟨j,(El g).1⟩
      ·have B:¬ Wo.S ⟨W.Hf,W.H,clr W.fps i⟩ a:=λ⟨j,g⟩=>by
        obtain⟨E,D⟩:=El g
        exact D (R.dis j i a E (by rw[l];exact .head _))
       have y:=(Ys (R.drop i) f A B).setN (i:=i) (o:=.im (.list _)) ⟨a,m,rfl,Ax,TrL.same (Ca f) t⟩ rfl;rw[set_same h]at y
       have z:clr (clr W.fps i) i=clr W.fps i:=by funext j;unfold clr;split <;> rfl
       simp_all
def vDs:List V->Option (List PyData)
 | []=>some []
 | v::vs=>(vD v).bind λd=>(vDs vs).map (d::·)
theorem As1:∀{vs:List V}{ds:List PyData},vDs vs=some ds->zL K Hf σ (ds.map λd=>.o (.im d)) vs
 | [],_,e=>by cases (show some []=some _ from e);exact rfl
 | v::vs,ds,e=>by
  obtain⟨d,e1,e2⟩:=Option.bind_eq_some_iff.mp (show ((vD v).bind λd=>(vDs vs).map (d::·))=some ds from e)
  obtain⟨ds',e3,rfl⟩:=Option.map_eq_some_iff.mp e2;exact⟨v,vs,rfl,Bj6 e1,As1 e3⟩
theorem Bd3 (h:vDs vs=some ds):MA K (tK vs) (cK ds):=λb W c a Q R s=>s _ W Stp.refl R (As1 h)
def frzs:List PV->Ev->R (List PyData)
 | [],c=>.ok [] c
 | p::ps,c=>(frz p c).bind λd c=>(frzs ps c).bind λds c=>.ok (d::ds) c
theorem Ab5:∀{ps:List PV}{vs:List V}{W:Wo}{c:Ev}{φ:List PyData->Ev->Prop},Rep K β W c σ->zL K W.Hf σ ps vs->(frzs ps c).sat φ ->
 ∃ds c' W',φ ds c'/\W'.H=W.H/\Stp W.S W.Hf W.H W'.S W'.Hf W'.H/\Rep K β W' c' σ/\TrL W'.Hf ds vs
 | [],vs,W,c,φ,R,h,s=>⟨[],c,W,s,rfl,Stp.refl,R,h⟩
 | p::ps,_,W,c,φ,R,⟨v,r,rfl,h,t⟩,s=>by
  obtain⟨d,c1,W1,_,s1,e1,st1,R1,t1⟩:=Hy R h s.bnd;obtain⟨ds,c2,W2,s2,e2,st2,R2,t2⟩:=Ab5 R1 (zL.same st1.fz t) s1.bnd;exact⟨d::ds,c2,W2,s2,e2.trans e1,st1.trans st2,R2,v,r,rfl,Tr.same st2.fz t1,t2⟩
def Lp (f:Ev->R (List PV)):Ev->R PV:=λc=>(f c).bind λps c=>(frzs ps c).bind λds c=>if ds.length<=1000 then .ok (.o (.im (.tuple ds))) c else .bad
def Lx (f:Ev->R (List PV)):Ev->R PV:=λc=>(f c).bind λps c=>(frzs ps c).bind λds c=>if ds.length<=1000 then .ok (.o (.ls false ds)) c else .bad
theorem As4 (h:n<=1000):n<=sizeLine:=Nat.le_trans h (by decide)
theorem Jj (h:MA K t f):ME K (Bi5 t) (Lp f):=by
 intro w W c z Q R s
 refine h _ W c _ _ R (s.bnd.mono λx y k A F b o m=>?_)
 obtain⟨r,B,E,a,j,d,e,i⟩:=Ab5 o m k.bnd
 by_cases l:r.length<=1000
 ·rw[if_pos l]at a
  refine⟨by rw[<- i.length];exact As4 l,λp g=>?_⟩
  rw[<- j]at g ⊢
  exact New.tup (New.of e λv C D q u n=>a v _ _ (b.trans (d.trans q)) u n) e.sub i g
 ·rw[if_neg l]at a;trivial
theorem J1 (h:MA K t f):ME K (Bv0 t) (Lx f):=by
 intro w W c z Q R s
 refine h _ W c _ _ R (s.bnd.mono λx y k A F b o m=>?_)
 obtain⟨r,B,E,a,j,d,e,i⟩:=Ab5 o m k.bnd
 by_cases l:r.length<=1000
 ·rw[if_pos l]at a
  refine⟨by rw[<- i.length];exact As4 l,λp g=>?_⟩
  rw[<- j]at g ⊢
  exact New.lst (New.of e λv C D q u n=>a v _ _ (b.trans (d.trans q)) u n) e.sub i g
 ·rw[if_neg l]at a;trivial
end
noncomputable def Gb (cI:Ev):List (Nat×Nat)->Ev->Option Ev
 | [],c=>some c
 | (k,i)::m,c=>match c[i]? with
  | some (some (.ls b _))=>match cI[k]? with
   | some (some (.ls true ds))=>Gb cI m (c.set i (some (.ls b ds)))
   | _=>none
  | _=>Gb cI m c
noncomputable def inn (m:List (Nat×Nat)) (i:Nat):Option Nat:=(m.find? λp=>p.2==i).map (·.1)
noncomputable def Ao4 (m:List (Nat×Nat)) (k:Nat):Option Nat:=(m.find? λp=>p.1==k).map (·.2)
theorem Jf : inn ((k,j)::m) i=if j=i then some k else inn m i:=by
 unfold inn
 grind
theorem T8 (h:inn m i=some k):(k,i)∈m:=by
 induction m with
 | nil=>cases h
 | cons p m a =>
  rw[Jf]at h
  grind
theorem Tu (b:(m.map (·.2)).Nodup) (h:(k,i)∈m):inn m i=some k:=by
 induction m with
 | nil=>grind
 | cons p m a =>
  rw[Jf]
  grind
theorem Ar7 {m:List (Nat×Nat)} (b:(m.map (·.1)).Nodup) (h:(k,i)∈m) (h':(k,j)∈m):i=j:=by
 induction m with
 | nil=>grind
 | cons p m a =>
  grind
theorem Rw {cI:Ev}:∀{m:List (Nat×Nat)}{c cO:Ev},(m.map (·.2)).Nodup->Gb cI m c=some cO->cO.length=c.length/\∀i,
 (∃b ds0 k ds,c[i]?=some (some (.ls b ds0))/\inn m i=some k/\cI[k]?=some (some (.ls true ds))/\cO[i]?=some (some (.ls b ds))) \/
 (cO[i]?=c[i]?/\∀b ds,c[i]?=some (some (.ls b ds))->inn m i=none)
 | [],c,cO,nd,e=>by cases (show some c=some cO from e);exact⟨rfl,λi=>.inr ⟨rfl,λ_ _ _=>rfl⟩⟩
 | (k,j)::m,c,cO,nd,e=>by
  rw[List.map_cons,List.nodup_cons]at nd
  have nj:inn m j=none:=by
   cases q:inn m j with
   | none=>rfl
   | some k'=>exact absurd (List.mem_map.mpr ⟨(k',j),T8 q,rfl⟩) nd.1
  unfold Gb at e
  have other:Gb cI m c=some cO->(∀b ds,c[j]?≠some (some (.ls b ds)))->cO.length=c.length/\∀i,
   (∃b ds0 k' ds,c[i]?=some (some (.ls b ds0))/\inn ((k,j)::m) i=some k'/\cI[k']?=some (some (.ls true ds))/\cO[i]?=some (some (.ls b ds))) \/
   (cO[i]?=c[i]?/\∀b ds,c[i]?=some (some (.ls b ds))->inn ((k,j)::m) i=none):=λe hn=>by
   obtain⟨hl,hg⟩:=Rw nd.2 e
   refine⟨hl,λi=>?_⟩
   rcases hg i with ⟨b,ds0,k',ds,q1,q2,q3,q4⟩ | ⟨q1,q2⟩
   ·refine .inl ⟨b,ds0,k',ds,q1,?_,q3,q4⟩
    rw[Jf,if_neg (λz=>hn b ds0 (by rw[z];exact q1))];exact q2
   ·refine .inr ⟨q1,λb ds q=>?_⟩
    rw[Jf,if_neg (λz=>hn b ds (by rw[z];exact q))];exact q2 b ds q
  cases ec:c[j]? with
  | none=>simp only[ec]at e;exact other e λb ds z=>by rw[ec]at z;cases z
  | some x =>
   cases x with
   | none=>simp only[ec]at e;exact other e λb ds z=>by rw[ec]at z;cases z
   | some o =>
    cases o with
    | im d=>simp only[ec]at e;exact other e λb ds z=>by rw[ec]at z;cases z
    | sc d=>simp only[ec]at e;exact other e λb ds z=>by rw[ec]at z;cases z
    | ty d=>simp only[ec]at e;exact other e λb ds z=>by rw[ec]at z;cases z
    | ls b0 ds0 =>
     simp only[ec]at e
     cases ei:cI[k]? with
     | none=>simp only[ei]at e;cases e
     | some x =>
      cases x with
      | none=>simp only[ei]at e;cases e
      | some o =>
       cases o with
       | im d=>simp only[ei]at e;cases e
       | sc d=>simp only[ei]at e;cases e
       | ty d=>simp only[ei]at e;cases e
       | ls b1 ds1 =>
        cases b1 with
        | false=>simp only[ei]at e;cases e
        | true =>
         simp only[ei]at e
         have lj:j<c.length:=by
          rcases Nat.lt_or_ge j c.length with q | q
          ·exact q
          ·rw[List.getElem?_eq_none q]at ec;cases ec
         obtain⟨hl,hg⟩:=Rw nd.2 e;rw[List.length_set]at hl
         refine⟨hl,λi=>?_⟩
         by_cases z:j=i
         ·subst z
          rcases hg j with ⟨b,ds0',k',ds,q1,q2,q3,q4⟩ | ⟨q1,q2⟩
          ·rw[nj]at q2;cases q2
          ·rw[List.getElem?_set_self lj]at q1
           exact .inl ⟨b0,ds0,k,ds1,ec,by rw[Jf,if_pos rfl],ei,q1⟩
         ·have gs:(c.set j (some (.ls b0 ds1)))[i]?=c[i]?:=List.getElem?_set_ne z
          rcases hg i with ⟨b,ds0',k',ds,q1,q2,q3,q4⟩ | ⟨q1,q2⟩
          ·rw[gs]at q1
           exact .inl ⟨b,ds0',k',ds,q1,by rw[Jf,if_neg z];exact q2,q3,q4⟩
          ·rw[gs]at q1 q2
           exact .inr ⟨q1,λb ds q=>by rw[Jf,if_neg z];exact q2 b ds q⟩
noncomputable def Ie:Option (Option O)->Bool
 | some (some (.ls _ _))=>true
 | _=>false
def Rb (m:List (Nat×Nat))(c:Ev)(fps:Nat->List Addr):Nat->List Addr:=λk=>match Ao4 m k with
 | some i=>if Ie c[i]? then fps i else []
 | none=>[]
theorem Vo (h:Ao4 m k=some i):(k,i)∈m:=by
 obtain⟨p,b,a⟩:=Option.map_eq_some_iff.mp h
 grind
theorem G4 (h:a∈Rb m c b k):∃i,(k,i)∈m/\Ie c[i]?=true/\a∈b i:=by
 unfold Rb at h
 cases e:Ao4 m k with
 | none=>grind
 | some i =>
  rw[e]at h
  have h:a∈if Ie _ then b i else []:=h
  by_cases q:Ie c[i]?=true
  ·rw[if_pos q]at h;exact⟨i,Vo e,q,h⟩
  grind
theorem Bg7 (a:(m.map (·.1)).Nodup) (h:(k,i)∈m):Ao4 m k=some i:=by
 cases e:Ao4 m k with
 | none =>
  unfold Ao4 at e;rw[Option.map_eq_none_iff]at e
  grind
 | some j=>rw[Ar7 a h (Vo e)]
def Ap6 (m:List (Nat×Nat))(c:Ev)(fps fpsJ:Nat->List Addr):Nat->List Addr:=λi=>if Ie c[i]? then (match inn m i with
 | some k=>fpsJ k
 | none=>fps i) else fps i
section
variable {K:PySem.W.Frag}{β β':Nat->V}{W W':Wo}{c cI cI' cO:Ev}{σ σI σI':St}{m:List (Nat×Nat)}{fp:List Addr}
structure Lent (K:PySem.W.Frag) (Hf:Hp) (m:List (Nat×Nat)) (c:Ev) (σ:St) (β':Nat->V) (cI:Ev) (σI:St):Prop where
 n1:(m.map (·.1)).Nodup
 n2:(m.map (·.2)).Nodup
 len:cI.length=σI.length
 at_:∀k o,cI[k]?=some (some o)->(o.own=false/\(∀i,(k,i)∈m->Ie c[i]?=false)/\(∃v,σI[k]?=some (some v)/\RepN K Hf o v))\/∃i b ds v,(k,i)∈m/\c[i]?=some (some (.ls b ds))/\o=.ls true ds/\σ[i]?=some (some v)/\σI[k]?=some (some v)/\β' k=v
theorem Lent.rep (L:Lent K W.Hf m c σ β' cI σI)(R:Rep K β W c σ):Rep K β' ⟨W.Hf,W.H,Rb m c W.fps⟩ cI σI:=by
 refine⟨R.sub,L.len,λk o e=>?_,λk l a B C=>?_,λk a h=>?_⟩
 ·rcases L.at_ k o e with ⟨n,s,v,p,r⟩ | ⟨i,b,x,v,E,w,rfl,J,p,A⟩
  ·refine⟨v,p,?_,λq=>?_⟩
   ·have g:∀t ,t=[]->RepO K _ W.H o v t:=λt z=>by
     cases o with
     | ls b x=>exact nomatch n
     | im d=>exact⟨z,r⟩
     | sc d=>exact⟨z,r⟩
     | ty d=>exact⟨z,r⟩
    refine g _ ?_
    show Rb m c _ k=[]
    unfold Rb
    cases q:Ao4 m k with
    | none=>rfl
    | some i =>
     show (if Ie _ then W.fps i else [])=[]
     rw[s i (Vo q)]
     rfl
   ·cases o with
    | ls b x=>exact nomatch n
    | im d=>exact nomatch q
    | sc d=>exact nomatch q
    | ty d=>exact nomatch q
  ·obtain⟨v',f,r,_⟩:=R.get i _ w
   cases (show some _=some _ from f.symm.trans J)
   refine⟨v,p,?_,λ_=>A.symm⟩
   obtain⟨a,F,G,D,I⟩:=r
   refine⟨a,F,G,?_,I⟩
   show Rb m c _ k=[a]
   unfold Rb;rw[Bg7 L.n1 E]
   show (if Ie _ then W.fps i else [])=[a]
   rw[w];exact D
 ·obtain⟨i,H,_,u⟩:=G4 B
  obtain⟨j,M,_,y⟩:=G4 C
  cases R.dis i j a u y
  have f:=Tu L.n2 M;rw[(Tu L.n2 H)]at f;exact Option.some.inj f
 ·obtain⟨i,_,_,u⟩:=G4 h
  exact R.own i a u
theorem Bh1 (h:Ie x=true):∃b ds,x=some (some (.ls b ds)):=by
 match x,h with
 | some (some (.ls b _)),_=>grind
theorem Lent.back (L:Lent K W.Hf m c σ β' cI σI)(R:Rep K β W c σ)(I:Rep K β' W' cI' σI')(st:Stp (Wo.S ⟨W.Hf,W.H,Rb m c W.fps⟩) W.Hf W.H (orS W'.S fp) W'.Hf W'.H)(hb:Gb cI' m c=some cO)
 (H:∀k i b J v,(k,i)∈m->c[i]?=some (some (.ls b J))->σ[i]?=some (some v)->β' k=v) (Q:∀a∈fp,¬ W'.S a) :
 ∃W2:Wo,W2.Hf=W'.Hf/\W2.H=W'.H/\Rep K β W2 cO σ/\Stp W.S W.Hf W.H (orS W2.S fp) W'.Hf W'.H/\∀a∈fp,¬ W2.S a:=by
 obtain⟨hl,hg⟩:=Rw L.n2 hb
 have t:∀k a,a∈W'.fps k->(∃i,(∃l,(l,i)∈m)/\Ie c[i]?=true/\a∈W.fps i)\/W.H a=none:=λk a h=>by
  rcases st.fr a (.inl ⟨k,h⟩) with ⟨l,q⟩ | q
  ·obtain⟨i,s,x,g⟩:=G4 q
   exact .inl ⟨i,⟨l,s⟩,x,g⟩
  ·exact .inr q
 have d:∀i a,a∈W.fps i->(Ie c[i]?=true->inn m i=none)->¬ Wo.S ⟨W.Hf,W.H,Rb m c W.fps⟩ a:=λi a h n ⟨k,q⟩=>by
  obtain⟨j,s,x,g⟩:=G4 q
  cases (R.dis i j a h g)
  have:=n x;rw[Tu L.n2 s]at this;cases this
 have D:∀i a,a∈Ap6 m c W.fps W'.fps i->(∃k,inn m i=some k/\Ie c[i]?=true/\a∈W'.fps k)\/(a∈W.fps i/\(Ie c[i]?=true->inn m i=none)):=λi a h=>by
  have h:a∈if Ie c[i]? then (match inn m i with | some k=>W'.fps k | none=>W.fps i) else W.fps i:=h
  by_cases q:Ie c[i]?=true
  ·rw[if_pos q]at h
   cases e:inn m i with
   | none=>rw[e]at h;exact .inr ⟨h,λ_=>rfl⟩
   | some k=>rw[e]at h;exact .inl ⟨k,rfl,q,h⟩
  ·rw[if_neg q]at h;exact .inr ⟨h,λz=>absurd z q⟩
 have p:∀i k a,a∈W.fps i->(Ie c[i]?=true->inn m i=none)->a∈W'.fps k->False:=λi k a h n V=>by
  rcases t k a V with ⟨j,⟨l,s⟩,x,g⟩ | q
  ·cases (R.dis i j a h g)
   have:=n x;rw[Tu L.n2 s]at this;cases this
  ·obtain⟨_,o,e,_⟩:=R.own i a h
   rw[q]at e;cases e
 refine⟨⟨W'.Hf,W'.H,Ap6 m c W.fps W'.fps⟩,rfl,rfl,⟨I.sub,hl.trans R.len,λi o e=>?_,λi j a Z T=>?_,λi a h=>?_⟩,⟨st.fz,λa o e n=>st.kp a o e λ⟨k,q⟩=>?_,λa o e F n q=>st.nf a o e F (λzz=>?_) q,λa h=>?_⟩,λa C ⟨i,h⟩=>?_⟩
 ·rcases hg i with ⟨b,N,k,J,s,x,g,U⟩ | ⟨s,x⟩
  ·rw[U]at e;cases e
   obtain⟨v,M,r,P⟩:=R.get i _ s;obtain⟨X,e1',r',O⟩:=I.get k _ g;have S:=O rfl;rw[H k i b N v (T8 x) s M]at S;subst S
   refine⟨X,M,?_,P⟩
   obtain⟨a,Y,A,E,G⟩:=r'
   refine⟨a,Y,A,?_,G⟩
   show Ap6 m c W.fps W'.fps i=[a]
   unfold Ap6;rw[s,x];exact E
  ·rw[s]at e
   obtain⟨v,M,r,P⟩:=R.get i _ e
   refine⟨v,M,?_,P⟩
   have n:Ie c[i]?=true->inn m i=none:=λz=>by
    obtain⟨b,J,z⟩:=Bh1 z;exact x b J z
   have ef:Ap6 m c W.fps W'.fps i=W.fps i:=by
    unfold Ap6
    by_cases q:Ie c[i]?=true
    ·rw[if_pos q,n q]
    ·rw[if_neg q]
   show RepO K W'.Hf W'.H o v (Ap6 m c W.fps W'.fps i)
   rw[ef]
   refine r.mono st.fz λa C=>?_
   obtain⟨z,u,y,F⟩:=R.own i a C;exact⟨st.nf a u y F (d i a C n) z,(st.kp a u y (d i a C n)).trans y.symm⟩
 ·rcases D i a Z with ⟨k,f,w,B⟩ | ⟨f,w⟩
  ·rcases D j a T with ⟨l,A,E,G⟩ | ⟨A,E⟩
   ·cases I.dis k l a B G
    exact Ar7 L.n1 (T8 f) (T8 A)
   ·exact(p j k a A E B).elim
  ·rcases D j a T with ⟨l,A,E,G⟩ | ⟨A,E⟩
   ·exact(p i l a f w G).elim
   ·exact R.dis i j a f A
 ·rcases D i a h with ⟨k,f,w,B⟩ | ⟨f,w⟩
  ·exact I.own k a B
  ·obtain⟨z,u,y,F⟩:=R.own i a f
   exact⟨st.nf a u y F (d i a f w) z,u,st.kp a u y (d i a f w),F⟩
 ·obtain⟨i,_,_,g⟩:=G4 q
  exact n ⟨i,g⟩
 ·obtain⟨k,q'⟩:=zz
  obtain⟨i,_,_,g⟩:=G4 q';exact n ⟨i,g⟩
 ·rcases h with ⟨i,h⟩ | h
  ·rcases D i a h with ⟨k,f,w,B⟩ | ⟨f,w⟩
   ·rcases t k a B with ⟨j,_,_,q⟩ | q
    ·exact .inl ⟨j,q⟩
    ·exact .inr q
   ·exact .inl ⟨i,f⟩
  ·rcases st.fr a (.inr h) with ⟨k,q⟩ | q
   ·obtain⟨i,_,_,g⟩:=G4 q
    exact .inl ⟨i,g⟩
   ·exact .inr q
 ·rcases D i a h with ⟨k,f,w,B⟩ | ⟨f,w⟩
  ·exact Q a C ⟨k,B⟩
  ·rcases st.fr a (.inr C) with q | q
   ·exact d i a f w q
   ·obtain⟨_,u,y,_⟩:=R.own i a f
    rw[q]at y;cases y
end
inductive SR where
 | nx (c:Ev)
 | rt (p:PV) (c:Ev)
 | bk (c:Ev)
 | ct (c:Ev)
 | bad
def zH (K:PySem.W.Frag)(β:Nat->V)(W:Wo)(D:Ends):SR->Prop
 | .nx c'=>∀σ' W',Stp W.S W.Hf W.H W'.S W'.Hf W'.H->Rep K β W' c' σ'->D.nx σ' W'.H
 | .bk c'=>∀σ' W',Stp W.S W.Hf W.H W'.S W'.Hf W'.H->Rep K β W' c' σ'->D.bk σ' W'.H
 | .ct c'=>∀σ' W',Stp W.S W.Hf W.H W'.S W'.Hf W'.H->Rep K β W' c' σ'->D.ct σ' W'.H
 | .rt p c'=>∀σ' v W' fp,Stp W.S W.Hf W.H (orS W'.S fp) W'.Hf W'.H->Rep K β W' c' σ'->Ej K W' σ' p v fp->D.rt v W'.H
 | .bad=>False
def MS (K:PySem.W.Frag)(T:TS)(f:Ev->SR):Prop:=∀(β:Nat->V) (W:Wo) (c:Ev) (σ:St) (D:Ends),Rep K β W c σ->zH K β W D (f c)->T D σ W.H
def MG (K:PySem.W.Frag)(g:TG)(cg:PV->Ev->R Unit):Prop:=∀(β:Nat->V) (W:Wo) (c:Ev) (σ:St) (p:PV) (v:V) (fp:List Addr) (k:St->Hp->Prop),Rep K β W c σ->Ej K W σ p v fp ->
 (cg p c).sat (λ_ c'=>∀σ' W',Stp (orS W.S fp) W.Hf W.H W'.S W'.Hf W'.H->Rep K β W' c' σ'->k σ' W'.H)->g v σ W.H k
def MGs (K:PySem.W.Frag)(g:TGs)(cg:List PyData->Ev->R Unit):Prop:=∀(β:Nat->V) (W:Wo) (c:Ev) (σ:St) (ds:List PyData) (vs:List V) (k:St->Hp->Prop),Rep K β W c σ->TrL W.Hf ds vs ->
 (cg ds c).sat (λ_ c'=>∀σ' W',Stp W.S W.Hf W.H W'.S W'.Hf W'.H->Rep K β W' c' σ'->k σ' W'.H)->g vs σ W.H k
noncomputable def R.toS {α:Type} (r:R α) (k:α->Ev->SR):SR:=match r with
 | .ok a c=>k a c
 | .bad=>.bad
section
variable {K:PySem.W.Frag}{β:Nat->V}{W W':Wo}{c c' cI cO:Ev}{σ σ':St}{D:Ends}{Hf H:Hp}{o:O}{v:V}{fp:List Addr}
theorem Hr {r:R b}{k:b->Ev->SR}(h:zH K β W D (r.toS k)):r.sat λa c=>zH K β W D (k a c):=by
 cases r with
 | ok a c=>exact h
 | bad=>exact h
theorem zH.step (h:zH K β W D r) (st:Stp W.S W.Hf W.H W'.S W'.Hf W'.H):zH K β W' D r:=by
 cases r with
 | nx c=>exact λb d a R=>h _ _ (st.trans a) R
 | bk c=>exact λb d a R=>h _ _ (st.trans a) R
 | ct c=>exact λb d a R=>h _ _ (st.trans a) R
 | rt p c=>exact λb v d e a R r=>h _ v _ _ (st.trans a) R r
 | bad=>exact h
noncomputable def Cm (f g:Ev->SR):Ev->SR:=λc=>match f c with
 | .nx c=>g c
 | r=>r
theorem Ba (h1:MS K t f) (h2:MS K u g):MS K (A7l t u) (Cm f g):=by
 intro k W c i D R l
 refine h1 _ W c _ _ R ?_
 unfold Cm at l
 cases e:f c with
 | nx a=>rw[e]at l;exact λh j d b=>h2 _ _ _ _ D b (zH.step l d)
 | rt p a=>rw[e]at l;exact l
 | bk a=>rw[e]at l;exact l
 | ct a=>rw[e]at l;exact l
 | bad=>rw[e]at l;exact l
noncomputable def Cu:Ev->SR:=λc=>.nx c
theorem Bj:MS K A3g Cu:=λb W c a D R l=>l _ W Stp.refl R
def Ss (f:Ev->R PV):Ev->SR:=λc=>(f c).toS λ_ c=>.nx c
theorem Zq (h:ME K a f):MS K (A8m a) (Ss f):=λg W c i D R l =>
 h.toV _ W c _ _ R ((Hr l).mono λp k e v j d b _=>e _ _ d b)
def Cr (f:Ev->R PV):Ev->SR:=λc=>(f c).toS λp c=>.rt p c
theorem Az (h:ME K a f):MS K (By3 a) (Cr f):=λi W c n D R l =>
 h _ W c _ _ R ((Hr l).mono λp m e v j k d g b=>e _ v _ _ d g b)
def cIf (t:Ev->R Bool)(f g:Ev->SR):Ev->SR:=λc=>(t c).toS λb c=>if b=true then f c else g c
theorem Ec (h:MT K d ft) (h1:MS K t f) (h2:MS K u g):MS K (Bm8 d t u) (cIf ft f g):=λk W c j D R l =>
 h
  _ W c _ _ R ((Hr l).mono λb n i m e a=>by
  cases b with
  | true=>exact h1 _ _ _ _ D a (zH.step i e)
  | false=>exact h2 _ _ _ _ D a (zH.step i e))
def cgN (i:Nat):PV->Ev->R Unit:=λp c=>match p with
 | .o (.ls _ ds)=>.ok () (c.set i (some (.ls false ds)))
 | .o o=>.ok () (c.set i (some o))
 | .sl j=>(frz (.sl j) c).bind λd c=>.ok () (c.set i (some (.im d)))
theorem B0q (h:Wo.S ⟨Hf,H,clr W.fps i⟩ a):W.S a:=by
 obtain⟨j,h⟩:=h;exact⟨j,(El h).1⟩
theorem Al : MG K (M4 i) (cgN i):=by
 intro w W c x p v u k R r s
 have f:∀{o:O} {g:Wo} {m:Ev},Rep K w g m x->o.own=false->RepN K g.Hf o v->Stp (orS W.S u) W.Hf W.H g.S _ g.H->g.H=W.H->(∀σ' W',Stp _ _ _ W'.S W'.Hf W'.H->Rep K _ W' _ σ'->k σ' W'.H)->k _ W.H:=λ{o g m} h n r l e s=>by
  rw[<- e]
  exact s _ ⟨g.Hf,g.H,clr _ i⟩ (l.less λa z=>B0q z) (h.setN r n)
 cases p with
 | sl j =>
  obtain⟨rfl,e⟩:=r
  obtain⟨d,m,g,e1,A,y,l,h,t⟩:=Hy R (show RepA K _ _ (.sl j) v from e) s.bnd
  exact f h (o:=.im d) rfl t (l.up λa z=>.inl z) y A
 | o o =>
  cases o with
  | im d=>exact f R rfl r.1.2 (Stp.refl.up λa z=>.inl z) rfl s
  | sc d=>exact f R rfl r.1.2 (Stp.refl.up λa z=>.inl z) rfl s
  | ty d=>exact f R rfl r.1.2 (Stp.refl.up λa z=>.inl z) rfl s
  | ls b ds =>
   refine s _ ⟨W.Hf,W.H,λj=>if j=i then u else W.fps j⟩ ⟨Same.refl _,λa o e _=>e,λa o e _ _ q=>q,λa z=>?_⟩ (R.setO r.1 r.2 rfl)
   obtain⟨j,z⟩:=z
   have z:a∈if j=i then u else W.fps j:=z
   split at z
   ·grind
   ·exact .inl (.inl ⟨j,z⟩)
noncomputable def Ke:List PyData->Ev->R Unit:=λds c=>match ds with
 | []=>.ok () c
 | _=>.bad
def Dn (g:PV->Ev->R Unit)(gs:List PyData->Ev->R Unit):List PyData->Ev->R Unit:=λds c=>match ds with
 | d::ds=>(g (.o (.im d)) c).bind λ_ c=>gs ds c
 | []=>.bad
theorem Tp:MGs K A3y Ke:=λf W c e a b k R t s=>by
 cases a with
 | nil=>cases (t);exact⟨rfl,s _ W Stp.refl R⟩
 | cons d r=>trivial
theorem Hu (h1:MG K t g) (h2:MGs K u f):MGs K (Yk t u) (Dn g f):=λβ W c σ x vs k R j s=>by
 cases x with
 | nil=>trivial
 | cons d r =>
  obtain⟨v,l,rfl,m,n⟩:=j
  refine⟨v,l,rfl,h1 _ W c _ (.o (.im d)) v _ _ R ⟨⟨rfl,m⟩,λa z=>nomatch z⟩ (s.bnd.mono λ_ c1 o i W1 b q=>?_)⟩
  have b:=b.up (S2:=W.S) λa z=>by
   grind
  exact h2 _ _ _ _ r _ k q (TrL.same b.fz n) (o.mono λ_ c2 p w W2 e h=>p _ _ (b.trans e) h)
noncomputable def cgT (n:Nat) (gs:List PyData->Ev->R Unit):PV->Ev->R Unit:=λp c=>match p with
 | .o (.im (.tuple ds))=>if ds.length=n then gs ds c else .bad
 | _=>.bad
theorem Y9 (h:MGs K t d):MG K (A6l K n t) (cgT n d):=by
 intro u W c w p v q k R r s
 match p,r,s with
 | .o (.im (.tuple ds)),r,s =>
  obtain⟨⟨b,a,j,b,l,f⟩,_⟩:=r
  have s:(if ds.length=n then d _ c else .bad:U.R _).sat _:=s
  by_cases e:ds.length=n
  ·rw[if_pos e]at s
   refine⟨a,j,b,SqT.of (R.sub _ _ l),by rw[<- f.length];exact e,h _ W c _ _ _ k R f (s.mono λ_ y i m x o g=>i _ _ (o.up λa z=>.inl z) g)⟩
  ·rw[if_neg e]at s;trivial
 | .o (.im .none),r,s=>trivial
 | .o (.im (.bool _)),r,s=>trivial
 | .o (.im (.int _)),r,s=>trivial
 | .o (.im (.str _)),r,s=>trivial
 | .o (.im (.list _)),r,s=>trivial
 | .o (.im (.dict _)),r,s=>trivial
 | .o (.ls _ _),r,s=>exact s.elim
 | .o (.sc _),r,s=>exact s.elim
 | .o (.ty _),r,s=>exact s.elim
 | .sl _,r,s=>trivial
def Fi (f:Ev->R PV)(g:PV->Ev->R Unit):Ev->SR:=λc=>(f c).toS λp c=>(g p c).toS λ_ c=>.nx c
theorem Cv (h:ME K b f) (hg:MG K t g):MS K (An8 b t) (Fi f g):=λx W c o D R l =>
 h _ W c _ _ R ((Hr l).mono λp q j v s u k e i=>hg _ _ _ _ p v _ _ e i ((Hr j).mono λ_ r m n w a d=>m _ _ (k.trans a) d))
def Ao1 (J:It)(Hf:Hp)(ds:List PyData):Prop:=∀(i:Nat) (Hf' H:Hp),Same Hf Hf'->Same Hf' H->(i=ds.length->J.stop i H) /\
 ∀d,ds[i]?=some d->J.go i H/\∀x H',J.yld i H x H'->∃Hf2,Stp (λ_=>False) Hf' H (λ_=>False) Hf2 H'/\Same Hf2 H'/\Tr Hf2 d x
def MI (K:PySem.W.Frag)(wi:TI)(fi:Ev->R (List PyData)):Prop:=∀(β:Nat->V) (W:Wo) (c:Ev) (σ:St) (k:It->Hp->Prop),Rep K β W c σ ->
 (fi c).sat (λds c'=>∀J W',Stp W.S W.Hf W.H W'.S W'.Hf W'.H->Rep K β W' c' σ->Ao1 J W'.Hf ds->k J W'.H)->wi σ W.H k
noncomputable def forL (g:PV->Ev->R Unit) (body:Ev->SR):List PyData->Ev->SR
 | [],c=>.nx c
 | d::ds,c=>match g (.o (.im d)) c with
  | .bad=>.bad
  | .ok _ c=>match body c with
   | .nx c=>forL g body ds c
   | .ct c=>forL g body ds c
   | .bk c=>.nx c
   | .rt p c=>.rt p c
   | .bad=>.bad
def Rj (fi:Ev->R (List PyData))(g:PV->Ev->R Unit)(body:Ev->SR):Ev->SR:=λc=>(fi c).toS λds c=>forL g body ds c
theorem M5 {a:Type}{l:List a} (h:i<l.length):l.drop i=l[i]::l.drop (i+1):=List.drop_eq_getElem_cons h
theorem O1 {V:TS} (hi:MI K X fi) (hg:MG K t g) (hb:MS K V body):MS K (Bn4 X t V) (Rj fi g body):=by
 intro C W c I D R l
 refine hi C W c I _ R ((Hr l).mono λk c1 l1 J T N R1 it=>?_)
 refine⟨λi m I H=>∃d y,d.H=H/\Rep K C d y I/\m=k.length-i/\i<=k.length/\Same T.Hf d.Hf/\zH K C d D (forL g body (k.drop i) y),⟨_,T,c1,rfl,R1,rfl,Nat.zero_le _,Same.refl _,zH.step l1 N⟩,?_⟩
 rintro i m I H ⟨d,y,rfl,O,rfl,hle,Y,h⟩
 obtain⟨A,Q⟩:=it i d.Hf d.H Y O.sub
 by_cases lt:i<k.length
 ·obtain⟨q1,q2⟩:=Q k[i] (List.getElem?_eq_getElem lt)
  refine .inr ⟨q1,λM s=>∃d y,d.H=s/\Rep K C d y M/\Same T.Hf d.Hf/\zH K C d D (forL g body (k.drop (i+1)) y),λM s ⟨U,Z,e3,R3,s3,l3⟩=>⟨k.length-(i+1),by omega,U,Z,e3,R3,rfl,by omega,s3,l3⟩,λx s hy=>?_⟩
  obtain⟨n,j,G,tx⟩:=q2 x s hy
  have P:Stp d.S d.Hf d.H (Wo.S ⟨n,s,d.fps⟩) n s:=⟨j.fz,λa o e _=>j.kp a o e λz=>z,λa o e mu _ q=>j.nf a o e mu (λz=>z) q,λa z=>.inl z⟩
  rw[M5 lt]at h;unfold forL at h
  refine hg C ⟨n,s,d.fps⟩ y I (.o (.im _)) x _ _ (j.rep O G) ⟨⟨rfl,tx⟩,λa z=>nomatch z⟩ ?_
  cases eg:g _ _ with
  | bad=>rw[eg]at h;exact h.elim
  | ok u Z =>
   rw[eg]at h;intro σ3 U w S
   have w:=w.up λa z=>by
    rcases z with z | z
    ·exact z
    ·cases z
   have f:=P.trans w;have F := Y.trans f.fz
   refine hb _ _ _ _ _ S ?_
   cases ebd:body _ with
   | nx E=>simp only[ebd]at h;exact λr L b B=>⟨L,E,rfl,B,F.trans b.fz,zH.step h (f.trans b)⟩
   | ct E=>simp only[ebd]at h;exact λr L b B=>⟨L,E,rfl,B,F.trans b.fz,zH.step h (f.trans b)⟩
   | bk E=>simp only[ebd]at h;exact λr L b B=>h _ _ (f.trans b) B
   | rt p E=>simp only[ebd]at h;exact λr v L fp b B r4=>h _ v _ _ (f.trans b) B r4
   | bad=>simp only[ebd]at h;exact h.elim
 ·have e:i=k.length:=by omega
  subst e;rw[List.drop_length]at h;exact .inl ⟨A rfl,h _ _ Stp.refl O⟩
def Ds (g:PV->Ev->R Unit)(ft:Ev->R Bool)(fe:Ev->R PV):List PyData->List PyData->Ev->R (List PyData)
 | [],acc,c=>.ok acc c
 | d::ds,acc,c=>(g (.o (.im d)) c).bind λ_ c=>(ft c).bind λb c=>if b=true then (fe c).bind λp c=>(frz (nrm p) c).bind λy c=>Ds g ft fe ds (acc++[y]) c else Ds g ft fe ds acc c
def cIn (idx:List (Option Nat))(c:Ev):Ev:=idx.map λo=>o.bind λi=>((c[i]?).join).map (O.flag true)
noncomputable def pairsOf:Nat->List (Option Nat)->List (Nat×Nat)
 | _,[]=>[]
 | k,none::r=>pairsOf (k+1) r
 | k,some i::r=>(k,i)::pairsOf (k+1) r
def cLC (idx:List (Option Nat))(fi:Ev->R (List PyData))(g:PV->Ev->R Unit)(ft:Ev->R Bool)(fe:Ev->R PV):Ev->R PV:=λc=>(fi c).bind λds c =>
 if ds.length<=16000000 then match Ds g ft fe ds [] (cIn idx c) with
 | .bad=>.bad
 | .ok acc cI=>match Gb cI (pairsOf 0 idx) c with
  | none=>.bad
  | some c=>.ok (.o (.ls false acc)) c
 else .bad
theorem A8t (h:l+1<=k):k-(l+1)+1=k-l:=by omega
theorem Ey {k i:Nat}:∀{l:Nat}{idx:List (Option Nat)},(k,i)∈pairsOf l idx->l<=k/\idx[k-l]?=some (some i)
 | l,[],h=>by cases h
 | l,none::r,h=>by
  obtain⟨q1,q2⟩:=Ey (l:=l+1) (idx:=r) h
  refine⟨Nat.le_of_succ_le q1,?_⟩
  rw[show k-l=(k-(l+1))+1 from (A8t q1).symm,List.getElem?_cons_succ];exact q2
 | l,some j::r,h=>by
  rcases List.mem_cons.mp (show (k,i)∈(l,j)::pairsOf (l+1) r from h) with e | e
  ·cases e;exact⟨Nat.le_refl _,by rw[Nat.sub_self];rfl⟩
  ·obtain⟨q1,q2⟩:=Ey (l:=l+1) (idx:=r) e
   refine⟨Nat.le_of_succ_le q1,?_⟩
   rw[show k-l=(k-(l+1))+1 from (A8t q1).symm,List.getElem?_cons_succ];exact q2
theorem M7 {k i:Nat}:∀{l:Nat}{idx:List (Option Nat)},idx[k]?=some (some i)->(k+l,i)∈pairsOf l idx
 | l,[],h=>by simp at h
 | l,none::r,h=>by
  cases k with
  | zero=>simp at h
  | succ k =>
   rw[List.getElem?_cons_succ]at h;have:=M7 (l:=l+1) (idx:=r) h
   rw[show k+1+l=k+(l+1) by omega];exact this
 | l,some j::r,h=>by
  cases k with
  | zero=>simp at h;subst h;rw[Nat.zero_add];exact .head _
  | succ k =>
   rw[List.getElem?_cons_succ]at h;have:=M7 (l:=l+1) (idx:=r) h
   rw[show k+1+l=k+(l+1) by omega];exact .tail _ this
theorem Qx:∀{l:Nat}{idx:List (Option Nat)},((pairsOf l idx).map (·.1)).Nodup
 | l,[]=>List.nodup_nil
 | l,none::r=>Qx (l:=l+1) (idx:=r)
 | l,some j::r=>by
  show (l::(pairsOf (l+1) r).map (·.1)).Nodup
  rw[List.nodup_cons]
  refine⟨λh=>?_,Qx⟩
  obtain⟨⟨k,i⟩,h1,h2⟩:=List.mem_map.mp h;have:=(Ey h1).1;have h2:k=l:=h2;omega
theorem B0f (h:x.join=some o):x=some (some o):=by
 cases x with
 | none=>grind
 | some y=>simp_all
theorem A8z {k:Nat} (h:(cIn idx c)[k]?=some (some o)):∃i a,idx[k]?=some (some i)/\c[i]?=some (some a)/\o=a.flag true:=by
 unfold cIn at h;rw[List.getElem?_map]at h;obtain⟨x,e,b⟩:=Option.map_eq_some_iff.mp h
 cases x with
 | none=>grind
 | some i =>
  obtain⟨a,f,d⟩:=Option.map_eq_some_iff.mp b
  grind
theorem Ac0 {k i:Nat} (h1:idx[k]?=some (some i)) (h2:a[i]?=some (some v)):(cst idx a)[k]?=some (some v):=by
 unfold cst
 grind
theorem Av7 {idx:List (Option Nat)}(R:Rep K β W c σ)(hnd:((pairsOf 0 idx).map (·.2)).Nodup):Lent K W.Hf (pairsOf 0 idx) c σ (λk=>(((cst idx σ)[k]?).join).getD .non) (cIn idx c) (cst idx σ) where
 n1:=Qx
 n2:=hnd
 len:=by unfold cIn cst;rw[List.length_map,List.length_map]
 at_:=λk o h=>by
  obtain⟨i,o',h1,h2,rfl⟩:=A8z h;obtain⟨v,e,r,_⟩:=R.get i o' h2;have hs:=Ac0 h1 e
  have one:∀j,(k,j)∈pairsOf 0 idx->j=i:=λj hj=>by
   have:=(Ey hj).2;rw[Nat.sub_zero,h1]at this;cases this;rfl
  have nol:Ie c[i]?=false->∀j,(k,j)∈pairsOf 0 idx->Ie c[j]?=false:=λq j hj=>by rw[one j hj];exact q
  cases o' with
  | im d=>exact .inl ⟨rfl,nol (by rw[h2];rfl),v,hs,r.2⟩
  | sc d=>exact .inl ⟨rfl,nol (by rw[h2];rfl),v,hs,r.2⟩
  | ty d=>exact .inl ⟨rfl,nol (by rw[h2];rfl),v,hs,r.2⟩
  | ls b ds=>exact .inr ⟨i,b,ds,v,M7 (l:=0) h1,h2,rfl,e,hs,by rw[hs];rfl⟩
theorem Bh6 (hnd:((pairsOf 0 idx).map (·.2)).Nodup) (hg:MG K t g) (ht:MT K tc ft) (he:ME K te fe)
 (st1:Stp W.S W.Hf W.H W1.S W1.Hf W1.H) (R1:Rep K β W1 c1 σ)
 (it:∀(i:Nat) (h:Wo),Stp (Wo.S ⟨W1.Hf,W1.H,Rb (pairsOf 0 idx) c1 W1.fps⟩) W1.Hf W1.H h.S h.Hf h.H->Same h.Hf h.H->(i=ds.length->J.stop i h.H) /\
  ∀d,ds[i]?=some d->J.go i h.H/\∀x E,J.yld i h.H x E->∃s,Stp (λ_=>False) h.Hf h.H (λ_=>False) s E/\Same s E/\Tr s d x)
 (s1:(if ds.length<=16000000 then match Ds g ft fe ds [] (cIn idx c1) with
  | .bad=>.bad
  | .ok f I=>match Gb I (pairsOf 0 idx) c1 with
   | none=>.bad
   | some c=>.ok (.o (.ls false f)) c
  else .bad:R PV).sat λp c'=>∀v j w,Stp W.S W.Hf W.H (orS j.S w) j.Hf j.H->Rep K β j c' σ->Ej K j σ p v w->Q v j.H):tLC idx (λ_ H k=>k J H) t tc te σ W1.H Q:=by
 unfold tLC
 dsimp only
 by_cases hl:ds.length<=16000000
 ·rw[if_pos hl]at s1
  have L:=Av7 (idx:=idx) R1 hnd
  let C:Nat->V:=λk=>(((cst idx σ)[k]?).join).getD .non
  let F:Wo:=⟨W1.Hf,W1.H,Rb (pairsOf 0 idx) c1 W1.fps⟩
  let B:U.R (List PyData)->Prop:=λr=>match r with
   | .bad=>False
   | .ok f I=>match Gb I (pairsOf 0 idx) c1 with
    | none=>False
    | some c=>∀v j w,Stp W.S W.Hf W.H (orS j.S w) j.Hf j.H->Rep K β j c σ->Ej K j σ (.o (.ls false f)) v w->Q v j.H
  have s2:B (Ds g ft fe ds [] (cIn idx c1)):=by
   show match Ds g ft fe ds [] (cIn idx c1) with
    | .bad=>False
    | .ok f I=>match Gb I (pairsOf 0 idx) c1 with
     | none=>False
     | some c=>∀v j w,Stp W.S W.Hf W.H (orS j.S w) j.Hf j.H->Rep K β j c σ->Ej K j σ (.o (.ls false f)) v w->Q v j.H
   cases e1:Ds g ft fe ds [] (cIn idx c1) with
   | bad=>rw[e1]at s1;exact s1.elim
   | ok f I =>
    simp only[e1]at s1
    show match Gb I (pairsOf 0 idx) c1 with
     | none=>False
     | some c=>∀v j w,Stp W.S W.Hf W.H (orS j.S w) j.Hf j.H->Rep K β j c σ->Ej K j σ (.o (.ls false f)) v w->Q v j.H
    cases e2:Gb I (pairsOf 0 idx) c1 with
    | none=>simp only[e2]at s1;exact s1.elim
    | some D=>simp only[e2]at s1;exact s1
  refine⟨λi m A S H=>∃h D f,h.H=H/\Rep K C h D A/\m=ds.length-i/\i<=ds.length/\S.length<=i/\Stp F.S F.Hf F.H h.S h.Hf h.H/\TrL h.Hf f S/\B (Ds g ft fe (ds.drop i) f D),
   ⟨_,F,cIn idx c1,[],rfl,(L.rep R1),rfl,Nat.zero_le _,Nat.le_refl _,Stp.refl,rfl,s2⟩,?_⟩
  rintro i m A S H ⟨h,D,f,rfl,R2,rfl,hle,hvs,N,ta,l⟩
  obtain⟨P,hgo⟩:=it i h N R2.sub
  by_cases lt:i<ds.length
  ·obtain⟨q1,q2⟩:=hgo ds[i] (List.getElem?_eq_getElem lt)
   refine .inr ⟨q1,Nat.lt_of_lt_of_le (Nat.lt_of_le_of_lt hvs (Nat.lt_of_lt_of_le lt hl)) (by decide),λA S E=>∃h D f,h.H=E/\Rep K C h D A/\S.length<=i+1/\Stp F.S F.Hf F.H h.S h.Hf h.H/\TrL h.Hf f S/\B (Ds g ft fe (ds.drop (i+1)) f D),
    λA acc' E ⟨O,X,Y,e3,R3,h3,n,t3,f3⟩=>⟨ds.length-(i+1),by omega,O,X,Y,e3,R3,rfl,by omega,h3,n,t3,f3⟩,λx E hy=>?_⟩
   obtain⟨s,n,sub3,tx⟩:=q2 x E hy
   have stx:Stp h.S h.Hf h.H (Wo.S ⟨s,E,h.fps⟩) s E:=⟨n.fz,λa o e _=>n.kp a o e λz=>z,λa o e mu _ q=>n.nf a o e mu (λz=>z) q,λa z=>.inl z⟩
   rw[M5 lt]at l;unfold Ds at l
   refine hg C ⟨s,E,h.fps⟩ D A (.o (.im ds[i])) x [] _ (n.rep R2 sub3) ⟨⟨rfl,tx⟩,λa z=>nomatch z⟩ ?_
   cases eg:g (.o (.im ds[i])) D with
   | bad=>rw[eg]at l;exact l.elim
   | ok u X =>
    rw[eg]at l
    have l:B ((ft X).bind λb c=>if b=true then (fe c).bind λp c=>(frz (nrm p) c).bind λy c=>Ds g ft fe (ds.drop (i+1)) (f++[y]) c else Ds g ft fe (ds.drop (i+1)) f c):=l
    intro σ3 O G R4
    have G:=G.up (S2:=h.S) λa z=>by
     rcases z with z | z
     ·exact z
     ·cases z
    refine ht C O X σ3 _ R4 ?_
    cases et:ft X with
    | bad=>rw[et]at l;exact l.elim
    | ok b c4 =>
     rw[et]at l;intro T st5 R5;have M:Stp F.S F.Hf F.H T.S T.Hf T.H:=N.trans (stx.trans (G.trans st5));have Z:TrL T.Hf f S:=TrL.same (stx.trans (G.trans st5)).fz ta
     cases b with
     | false=>rw[if_neg (by decide)];exact⟨T,c4,f,rfl,R5,by omega,M,Z,l⟩
     | true =>
      rw[if_pos rfl]
      have l:B ((fe c4).bind λp c=>(frz (nrm p) c).bind λy c=>Ds g ft fe (ds.drop (i+1)) (f++[y]) c):=l
      refine he.toV C T c4 σ3 _ R5 ?_
      cases ee:fe c4 with
      | bad=>rw[ee]at l;exact l.elim
      | ok p c5 =>
       rw[ee]at l
       have l:B ((frz (nrm p) c5).bind λy c=>Ds g ft fe (ds.drop (i+1)) (f++[y]) c):=l
       intro y W5 st6 R6 r6
       have fz:(frz (nrm p) c5).sat λ_ _=>True:=by
        cases ef:frz (nrm p) c5 with
        | bad=>rw[ef]at l;exact l.elim
        | ok d c=>trivial
       obtain⟨d,c6,W6,e6,_,eH,st7,R7,t7⟩:=Hy R6 r6 fz;rw[e6]at l
       refine⟨W6,c6,f++[d],eH,R7,by rw[List.length_append,List.length_singleton];omega,M.trans (st6.trans st7),(TrL.same (st6.trans st7).fz Z).app (TrL.one t7),l⟩
  ·have e:i=ds.length:=by omega
   subst e;rw[List.drop_length]at l
   refine .inl ⟨P rfl,λp hp=>?_⟩
   have l:match Gb D (pairsOf 0 idx) c1 with
    | none=>False
    | some c=>∀v j w,Stp W.S W.Hf W.H (orS _ _) _ _->Rep K _ j c _->Ej K _ _ _ v _->Q v _:=l
   cases eb:Gb D (pairsOf 0 idx) c1 with
   | none=>simp only[eb]at l
   | some cO =>
    simp only[eb]at l
    obtain⟨O,e1,e2,R3,n,_⟩:=L.back (fp:=[]) R1 R2 (N.less λa z=>by
     rcases z with z | z
     ·exact z
     ·cases z) eb (λk i b ds v hm _ hv=>by
      have:=(Ey hm).2;rw[Nat.sub_zero]at this
      rw[Ac0 this hv];rfl) λa z=>nomatch z
    have n:Stp W1.S W1.Hf W1.H O.S O.Hf O.H:=by
     rw[e1,e2];exact n.less λa z=>.inl z
    rw[<- e2]at hp ⊢
    exact New.lst (New.of R3 λv j w st R' rp=>l v _ _ (st1.trans (n.trans st)) R' rp) R3.sub (by rw[e1];exact ta) hp
 ·rw[if_neg hl]at s1;exact s1.elim
theorem Gx (d:((pairsOf 0 idx).map (·.2)).Nodup) (hi:MI K f fi) (hg:MG K t g) (ht:MT K h ft) (he:ME K j fe) :
 ME K (tLC idx f t h j) (cLC idx fi g ft fe):=by
 intro n W c o Q R s
 refine hi _ W c _ _ R (s.bnd.mono λq p l J u a k m=>?_)
 exact Bh6 d hg ht he a k (λi r e b=>m i _ _ e.fz b) l
end
inductive FR where
 | ret (o:O) (as:List O)
 | bad
noncomputable def resolve (p:PV) (c:Ev):Option (O×Ev):=match p with
 | .o (.ls _ ds)=>some (.ls false ds,c)
 | .o o=>some (o,c)
 | .sl i=>match c[i]? with
  | some (some (.ls false ds))=>some (.ls false ds,c.set i none)
  | some (some (.im d))=>some (.im d,c)
  | _=>none
noncomputable def Hs:List O->Ev->Option (List O)
 | [],_=>some []
 | .ls true _::r,some (.ls true ds)::c=>(Hs r c).map (.ls true ds::·)
 | .ls _ _::_,_=>none
 | o::r,_::c=>(Hs r c).map (o::·)
 | _::_,[]=>none
def Ay0 (as:List O)(p:PV)(c:Ev):FR:=match resolve p c with
 | none=>.bad
 | some (o,c)=>match Hs as c with
  | none=>.bad
  | some as'=>.ret o as'
def Gg (n N:Nat)(body:Ev->SR):List O->FR:=λas=>if as.length=n then match body (as.map some++List.replicate (N-n) none) with
 | .nx c=>Ay0 as (.o (.im .none)) c
 | .rt p c=>Ay0 as p c
 | _=>.bad
 else .bad
def spP (K:PySem.W.Frag)(F:List O->FR):Sp:=λvs H Q _=>∃(β:Nat->V) (W:Wo) (as:List O),W.H=H/\as.length=vs.length/\Rep K β W (as.map some) (vs.map some)/\match F as with
 | .bad=>False
 | .ret o as'=>∀v W' fp,Stp W.S W.Hf W.H (orS W'.S fp) W'.Hf W'.H->Rep K β W' (as'.map some) (vs.map some)->RepO K W'.Hf W'.H o v fp->(∀a∈fp,¬ W'.S a)->Q v W'.H
section
variable {K:PySem.W.Frag}{β:Nat->V}{W W':Wo}{c c' cO:Ev}{σ:St}{D:Ends}{Hf H:Hp}{o:O}{v:V}{fp:List Addr}
theorem Pq:∀{as:List O}{c:Ev}{as':List O},Hs as c=some as'->as'.length=as.length/\∀(i:Nat) (o':O),as'[i]?=some o'->(o'.own=false/\as[i]?=some o')\/(∃ds ds',o'=.ls true ds'/\as[i]?=some (.ls true ds)/\c[i]?=some (some (.ls true ds')))
 | [],c,as',e=>by cases (show some []=some as' from e);exact⟨rfl,λi o' h=>by simp at h⟩
 | o::r,[],as',e=>by
  cases o with
  | ls b ds=>cases b <;> cases e
  | im d=>cases e
  | sc d=>cases e
  | ty d=>cases e
 | o::r,x::c,as',e=>by
  have go:∀o1:O,(Hs r c).map (o1::·)=some as'->((o1.own=false/\o1=o)\/(∃ds ds',o1=.ls true ds'/\o=.ls true ds/\x=some (.ls true ds'))) ->
   as'.length=(o::r).length/\∀(i:Nat) (o':O),as'[i]?=some o'->(o'.own=false/\(o::r)[i]?=some o')\/(∃ds ds',o'=.ls true ds'/\(o::r)[i]?=some (.ls true ds)/\(x::c)[i]?=some (some (.ls true ds'))):=λo1 e1 h1=>by
   obtain⟨t,e2,rfl⟩:=Option.map_eq_some_iff.mp e1;obtain⟨l,g⟩:=Pq e2
   refine⟨by rw[List.length_cons,List.length_cons,l],λi o' h=>?_⟩
   cases i with
   | zero =>
    cases (show some o1=some o' from h)
    rcases h1 with ⟨z1,z2⟩ | ⟨ds,ds',z1,z2,z3⟩
    ·exact .inl ⟨z1,by rw[z2];rfl⟩
    ·exact .inr ⟨ds,ds',z1,by rw[z2];rfl,by rw[z3];rfl⟩
   | succ i=>exact g i o' (by simpa using h)
  cases o with
  | ls b ds =>
   cases b with
   | false=>cases e
   | true =>
    match x,e with
    | some (.ls true ds'),e=>exact go (.ls true ds') e (.inr ⟨ds,ds',rfl,rfl,rfl⟩)
    | some (.ls false ds'),e=>cases e
    | some (.im _),e=>cases e
    | some (.sc _),e=>cases e
    | some (.ty _),e=>cases e
    | none,e=>cases e
  | im d=>exact go (.im d) e (.inl ⟨rfl,rfl⟩)
  | sc d=>exact go (.sc d) e (.inl ⟨rfl,rfl⟩)
  | ty d=>exact go (.ty d) e (.inl ⟨rfl,rfl⟩)
theorem Wa (R:Rep K β W c σ) (r:Ej K W σ p v fp) (e:resolve p c=some (o,c')) :
 ∃W2 fp2,W2.Hf=W.Hf/\W2.H=W.H/\Rep K β W2 c' σ/\RepO K W2.Hf W2.H o v fp2/\(∀a∈fp2,¬ W2.S a)/\∀a,orS W2.S fp2 a->orS W.S fp a:=by
 cases p with
 | o f =>
  have g:o=f.flag false/\c'=c:=by
   cases f with
   | ls b h=>cases e;exact⟨rfl,rfl⟩
   | im d=>cases e;exact⟨rfl,rfl⟩
   | sc d=>cases e;exact⟨rfl,rfl⟩
   | ty d=>cases e;exact⟨rfl,rfl⟩
  obtain⟨rfl,rfl⟩:=g
  refine⟨W,fp,rfl,rfl,R,?_,r.2,λa z=>z⟩
  cases f with
  | ls b h=>exact r.1
  | im d=>exact r.1
  | sc d=>exact r.1
  | ty d=>exact r.1
 | sl i =>
  obtain⟨rfl,n⟩:=r;unfold resolve at e
  cases ec:c[i]? with
  | none=>simp_all
  | some x =>
   cases x with
   | none=>grind
   | some f =>
    obtain⟨v',g,k,_⟩:=R.get i _ ec
    cases (show some _=some _ from g.symm.trans n)
    cases f with
    | sc d=>simp_all
    | ty d=>simp_all
    | im d =>
     simp only[ec]at e
     cases e
     exact⟨W,[],rfl,rfl,R,⟨rfl,k.2⟩,(λa z=>by cases z),λa z=>z⟩
    | ls b h =>
     cases b with
     | true=>simp_all
     | false =>
      simp only[ec]at e
      cases e
      refine⟨⟨W.Hf,W.H,clr _ i⟩,W.fps i,rfl,rfl,R.drop i,k,λa q ⟨j,m⟩=>?_,λa z=>?_⟩
      ·obtain⟨s,l⟩:=El m
       exact l (R.dis j i a s q)
      ·rcases z with z | z
       ·exact .inl (B0q z)
       ·exact .inl ⟨i,z⟩
theorem Mv {b a:Type}{l:List b}{f:b->a}{i:Nat}{y:a}(h:(l.map f)[i]?=some y):∃x,l[i]?=some x/\f x=y:=by
 grind
theorem A3c {vs:List V} (t:Rep K β z (p.map some) (vs.map some)) (R:Rep K β W c σ) (S:Same z.Hf W.Hf) (e:Hs p c=some k) :
 ∃W2:Wo,W2.Hf=W.Hf/\W2.H=W.H/\Rep K β W2 (k.map some) (vs.map some)/\∀a,W2.S a->W.S a:=by
 obtain⟨E,G⟩:=Pq e
 let f:Nat->List Addr:=λi=>if Ie ((k.map some)[i]?) then W.fps i else []
 have g:∀i a,a∈f i->a∈W.fps i:=λi a h=>by
  grind
 have m:p.length=vs.length:=by have:=t.len;rwa [List.length_map,List.length_map]at this
 refine⟨⟨W.Hf,W.H,f⟩,rfl,rfl,⟨R.sub,by rw[List.length_map,List.length_map,E,m],λi o h=>?_,λi j a u w=>R.dis i j a (g i a u) (g j a w),λi a h=>R.own i a (g i a h)⟩,λa ⟨i,h⟩=>⟨i,g i a h⟩⟩
 obtain⟨o',u,w⟩:=Mv h
 cases w
 rcases G i o u with ⟨n,q⟩ | ⟨A,C,rfl,J,D⟩
 ·obtain⟨v,s,r,_⟩:=t.get i o (by rw[List.getElem?_map,q];rfl)
  have x:f i=[]:=by
   show (if Ie _ then W.fps i else [])=[]
   rw[h]
   cases o with
   | ls b A=>exact nomatch n
   | im d=>rfl
   | sc d=>rfl
   | ty d=>rfl
  refine⟨v,s,?_,?_⟩
  ·show RepO K W.Hf W.H o v (f i)
   rw[x]
   cases o with
   | ls b A=>exact nomatch n
   | im d=>exact⟨rfl,RepN.same S r.2⟩
   | sc d=>exact⟨rfl,RepN.same S r.2⟩
   | ty d=>exact⟨rfl,RepN.same S r.2⟩
  grind
 ·obtain⟨v,s,r,B⟩:=t.get i _ (by rw[List.getElem?_map,J];rfl)
  obtain⟨H,F,I,y⟩:=R.get i _ D;have l:=y rfl;rw[<- (B rfl)]at l;subst l
  refine⟨H,s,?_,B⟩
  have x:f i=W.fps i:=by
   show (if Ie _ then W.fps i else [])=_
   rw[h];rfl
  show RepO K _ _ _ _ (f i)
  rw[x];exact I
theorem Ea (h:MS K T body) (hs:spP K (Gg n N.length body) vs H Q E):T { nx:=λ_ H'=>Q .non H',rt:=Q } (start N vs) H:=by
 obtain⟨u,W,j,rfl,B,m,b⟩:=hs;unfold Gg at b
 by_cases hn:j.length=n
 ·rw[if_pos hn]at b
  let D:Ev:=j.map some++List.replicate (N.length-n) none
  have R:Rep K u W D (start N vs):=by
   refine⟨m.sub,?_,λi o e=>?_,m.dis,m.own⟩
   ·show (j.map some++List.replicate (N.length-n) none).length=(vs.map some++List.replicate (N.length-vs.length) none).length
    rw[List.length_append,List.length_append,List.length_map,List.length_map,List.length_replicate,List.length_replicate,<- B,hn]
   ·have e:(j.map some++List.replicate (N.length-n) none)[i]?=some (some o):=e
    by_cases li:i<j.length
    ·rw[List.getElem?_append_left (by rw[List.length_map];exact li)]at e
     obtain⟨v,w,r⟩:=m.get i o e
     refine⟨v,?_,r⟩
     show (vs.map some++List.replicate (N.length-vs.length) none)[i]?=_
     rw[List.getElem?_append_left (by rw[List.length_map,<- B];exact li)];exact w
    ·rw[List.getElem?_append_right (by rw[List.length_map];exact Nat.le_of_not_lt li),List.getElem?_replicate]at e
     split at e <;> cases e
  refine h u W D (start N vs) _ R ?_
  have l:∀p f c v d g,(match Ay0 j p f with
   | .bad=>False
   | .ret o t=>∀v W' g,Stp W.S W.Hf W.H (orS W'.S g) W'.Hf W'.H->Rep K u W' (t.map some) (vs.map some)->RepO K W'.Hf W'.H o v g->(∀a∈g,¬ W'.S a)->Q v W'.H) ->
   Stp W.S W.Hf W.H (orS d.S g) d.Hf d.H->Rep K u d f c->Ej K d c p v g->Q v d.H:=λp f c v d g b k s x=>by
   unfold Ay0 at b
   cases er:resolve p f with
   | none=>simp only[er]at b
   | some q =>
    obtain⟨o,U⟩:=q;simp only[er]at b
    cases ea:Hs j U with
    | none=>simp only[ea]at b
    | some t =>
     simp only[ea]at b;obtain⟨W2,S,w,C,I,J,L,M⟩:=Wa s x er
     obtain⟨O,A,y,P,F⟩:=A3c m I (by rw[w];exact k.fz) ea
     rw[show d.H=O.H by rw[y,C]]
     refine b v _ _ ?_ P (by rw[A,y];exact J) λa G z=>L a G (F a z)
     rw[A,y,w,C]
     exact k.less λa z=>M a (by
      rcases z with z | z
      ·exact .inl (F a z)
      ·exact .inr z)
  cases eb:body _ with
  | nx f =>
   rw[show body _=.nx _ from eb]at b
   exact λc d k s=>l _ _ _ _ _ _ b (k.less λa z=>by
    rcases z with z | z
    ·exact z
    ·cases z) s ⟨⟨rfl,rfl⟩,λa z=>nomatch z⟩
  | rt p f =>
   rw[show body _=.rt p _ from eb]at b
   exact λc v d g k s x=>l p _ _ v _ _ b k s x
  | bk f=>rw[show body _=.bk _ from eb]at b;exact b.elim
  | ct f=>rw[show body _=.ct _ from eb]at b;exact b.elim
  | bad=>rw[show body _=.bad from eb]at b;exact b.elim
 ·rw[if_neg hn]at b;exact b.elim
theorem Dz (hs:spP K (Gg n N body) vs H Q E):vs.length=n:=by
 obtain⟨d,W,c,b,e,f,a⟩:=hs;unfold Gg at a
 grind
def Sh (c:Ev):List PV->Option (List O)
 | []=>some []
 | .o o::r=>(Sh c r).map (o::·)
 | .sl i::r=>match c[i]? with
  | some (some o)=>(Sh c r).map (o.flag true::·)
  | _=>none
noncomputable def slots:List PV->List (Option Nat)
 | []=>[]
 | .o _::r=>none::slots r
 | .sl i::r=>some i::slots r
noncomputable def ndB:List Nat->Bool
 | []=>true
 | x::r=>!r.contains x&&ndB r
theorem A5v:∀{l:List Nat},ndB l=true->l.Nodup
 | [],_=>List.nodup_nil
 | x::r,h=>by
  obtain⟨h1,h2⟩:=Bool.and_eq_true_iff.mp (show (!r.contains x&&ndB r)=true from h)
  rw[List.nodup_cons]
  exact⟨λz=>by simp[z]at h1,A5v h2⟩
def S7 (F:List O->FR)(ps:List PV)(c:Ev):R PV:=match Sh c ps with
 | none=>.bad
 | some as=>if ndB ((pairsOf 0 (slots ps)).map (·.2))=true then match F as with
  | .bad=>.bad
  | .ret o as'=>match Gb (as'.map some) (pairsOf 0 (slots ps)) c with
   | none=>.bad
   | some c=>.ok (.o o) c
  else .bad
def cF (F:List O->FR)(fa:Ev->R (List PV)):Ev->R PV:=λc=>(fa c).bind λps c=>S7 F ps c
theorem Vf {Hf:Hp}:∀{ps:List PV}{vs:List V}{as:List O},Sh c ps=some as->zL K Hf σ ps vs->as.length=vs.length/\∀(k:Nat) (o:O),as[k]?=some o->∃v,vs[k]?=some v /\
 ((RepN K Hf o v/\(slots ps)[k]?=some none)\/∃i o',(slots ps)[k]?=some (some i)/\c[i]?=some (some o')/\o=o'.flag true/\σ[i]?=some (some v))
 | [],vs,as,e,h=>by cases (show some []=some as from e);cases (show vs=[] from h);exact⟨rfl,λk o h=>by simp at h⟩
 | .o o1::r,_,as,e,⟨v,vr,rfl,h,t⟩=>by
  obtain⟨l,e2,rfl⟩:=Option.map_eq_some_iff.mp (show (Sh c r).map (o1::·)=some as from e)
  obtain⟨hl,hg⟩:=Vf e2 t
  refine⟨by rw[List.length_cons,List.length_cons,hl],λk o hk=>?_⟩
  cases k with
  | zero=>cases (show some o1=some o from hk);exact⟨v,rfl,.inl ⟨h,rfl⟩⟩
  | succ k=>exact hg k o (by simpa using hk)
 | .sl i::r,_,as,e,⟨v,vr,rfl,h,t⟩=>by
  unfold Sh at e
  cases ec:c[i]? with
  | none=>simp only[ec]at e;cases e
  | some x =>
   cases x with
   | none=>simp only[ec]at e;cases e
   | some o1 =>
    simp only[ec]at e;obtain⟨l,e2,rfl⟩:=Option.map_eq_some_iff.mp e;obtain⟨hl,hg⟩:=Vf e2 t
    refine⟨by rw[List.length_cons,List.length_cons,hl],λk o hk=>?_⟩
    cases k with
    | zero=>cases (show some (o1.flag true)=some o from hk);exact⟨v,rfl,.inr ⟨i,o1,rfl,ec,rfl,h⟩⟩
    | succ k=>exact hg k o (by simpa using hk)
theorem Q5 {Hf:Hp}:∀{ps:List PV}{vs:List V}{k i:Nat}{v:V},zL K Hf σ ps vs->(slots ps)[k]?=some (some i)->σ[i]?=some (some v)->vs[k]?=some v
 | [],vs,k,i,v,h,e,q=>by simp[slots]at e
 | .o _::r,_,k,i,v,⟨v1,vr,rfl,h,t⟩,e,q=>by
  cases k with
  | zero=>simp[slots]at e
  | succ k=>have:=Q5 (k:=k) t (by simpa[slots] using e) q;simpa using this
 | .sl j::r,_,k,i,v,⟨v1,vr,rfl,h,t⟩,e,q=>by
  cases k with
  | zero =>
   have:j=i:=by simpa[slots] using e
   subst this
   cases (show some (some v1)=some (some v) from (show σ[j]?=some (some v1) from h).symm.trans q)
   rfl
  | succ k=>have:=Q5 (k:=k) t (by simpa[slots] using e) q;simpa using this
theorem Am8 (g:Rep K β W1 c1 σ) (R:zL K W1.Hf σ ps vs)
 (s1:(S7 F ps c1).sat λp c'=>∀v e y,Stp W1.S W1.Hf W1.H (orS e.S y) e.Hf e.H->Rep K β e c' σ->Ej K e σ p v y->(∀j a,a∈W1.fps j->some j∉slots ps->e.H a=W1.H a)->Q v e.H):spP K F (vs++[]) W1.H Q E:=by
 unfold S7 at s1
 cases ea:Sh c1 ps with
 | none=>simp only[ea]at s1;exact s1.elim
 | some M =>
  simp only[ea]at s1
  by_cases nd:ndB ((pairsOf 0 (slots ps)).map (·.2))=true
  ·rw[if_pos nd]at s1
   obtain⟨P,hg⟩:=Vf ea R
   let m:=pairsOf 0 (slots ps)
   let l:Nat->V:=λk=>(vs[k]?).getD .non
   have L:Lent K W1.Hf m c1 σ l (M.map some) (vs.map some):=by
    refine⟨Qx,A5v nd,by rw[List.length_map,List.length_map];exact P,λk o B=>?_⟩
    obtain⟨o1,T,h2⟩:=Mv B
    cases h2
    obtain⟨v,u,q⟩:=hg k o T
    have c:(vs.map some)[k]?=some (some v):=by rw[List.getElem?_map,u];rfl
    rcases q with ⟨I,t⟩ | ⟨i,H,t,n,rfl,G⟩
    ·refine .inl ⟨?_,λi Z=>?_,v,c,I⟩
     ·cases o with
      | ls b D=>exact I.elim
      | im d=>rfl
      | sc d=>rfl
      | ty d=>rfl
     ·have:=(Ey Z).2
      rw[Nat.sub_zero,t]at this;cases this
    ·have f:Ie c1[i]?=false->∀j,(k,j)∈m->Ie c1[j]?=false:=λq j z=>by
      have:=(Ey z).2;rw[Nat.sub_zero,t]at this;cases this;exact q
     obtain⟨v',w,r,_⟩:=g.get i H n
     cases (show some _=some _ from w.symm.trans G)
     cases H with
     | im d=>exact .inl ⟨rfl,f (by rw[n];rfl),v,c,r.2⟩
     | sc d=>exact .inl ⟨rfl,f (by rw[n];rfl),v,c,r.2⟩
     | ty d=>exact .inl ⟨rfl,f (by rw[n];rfl),v,c,r.2⟩
     | ls b D=>exact .inr ⟨i,b,D,v,M7 t,n,rfl,G,c,by show vs[k]?.getD _=v;rw[u];rfl⟩
   refine⟨l,⟨W1.Hf,W1.H,Rb m _ _⟩,M,rfl,by rw[List.append_nil];exact P,by rw[List.append_nil];exact(L.rep g),?_⟩
   cases ef:F _ with
   | bad=>simp only[ef]at s1;exact s1.elim
   | ret o A =>
    simp only[ef]at s1;intro v e y J U W X
    cases eb:Gb (A.map some) m c1 with
    | none=>simp only[m]at eb;simp only[eb]at s1;exact s1.elim
    | some cO =>
     have h:=eb;simp only[m]at h;simp only[h]at s1
     obtain⟨W2,w,x,R2,C,Y⟩:=L.back g U J eb (λk i b D v hm hc u=>by
      have:=(Ey hm).2;rw[Nat.sub_zero]at this
      show vs[k]?.getD _=v
      rw[Q5 R this u];rfl) X
     rw[<- x]
     refine s1 v _ _ (by rw[w,x];exact C) R2 ⟨by rw[w,x];exact W,Y⟩ λj a N z=>?_
     obtain⟨_,ob,s,_⟩:=g.own j a N;rw[x,s]
     refine J.kp a _ s λ⟨k,B⟩=>z ?_
     obtain⟨i,q1,_,S⟩:=G4 B
     cases g.dis i j a S N
     have:=(Ey q1).2;exact List.mem_of_getElem? this
  ·rw[if_neg nd]at s1;exact s1.elim
theorem Xp (d:Rep K β W1 c1 σ) (e:zL K W1.Hf σ ps vs)
 (s1:(S7 F ps c1).sat λp c'=>∀v a b,Stp W1.S W1.Hf W1.H (orS a.S b) a.Hf a.H->Rep K β a c' σ->Ej K a σ p v b->Q v a.H):spP K F (vs++[]) W1.H Q E :=
 Am8 d e (s1.mono λp c' k v a b c R r _=>k v _ _ c R r)
theorem Bb (ha:MA K t fa):ME K (Km (spP K F) [] E t) (cF F fa):=by
 intro j W c h Q R s
 refine ha _ W c _ _ R (s.bnd.mono λl m f u i a e d=>?_)
 exact Xp e d (f.mono λp n k v o q g b r=>k v _ _ (a.trans g) b r)
end
noncomputable def B2w (is:List Nat) (c:Ev):Ev:=is.foldl (λc i=>c.set i none) c
section
variable {K:PySem.W.Frag}{X:Cx}{Hf H:Hp}{Q:VK}
theorem OpR.or (h:OpR X f r) (h':OpR X f b):OpR X f (λx y H Q=>r x y H Q\/b x y H Q):=by
 intro c s e H x y v u Q I d a q
 rcases q with q | q
 ·exact h _ s _ H x y v u Q I d a q
 ·exact h' _ s _ H x y v u Q I d a q
theorem zE.or (h:zE X f r) (h':zE X f b):zE X f (λxs H Q=>r xs H Q\/b xs H Q):=by
 intro c s d H xs e Q I a q
 rcases q with q | q
 ·exact h _ s _ H _ _ Q I a q
 ·exact h' _ s _ H _ _ Q I a q
theorem Du (h:RdV Hf H (.int i) v):v=.int i:=h
theorem Gj (h:RdV Hf H (.str x) v):v=.str x:=h
theorem T7 (h:RdV Hf H (.bool b) v):v=.bl b:=h
theorem Y7 (h:RdV Hf H .none v):v=.non:=h
theorem Ia (s:Same Hf H) (h:RdV Hf H (.tuple ds) v):∃a b,v=.ref a/\H a=some (.tup b)/\TrL Hf ds b:=by
 obtain⟨a,b,e,q,t⟩:=(show Tr _ _ v from h)
 exact⟨a,b,e,s _ _ q,t⟩
theorem Iz (h:RdV Hf H (.list ds) v):∃a vs,v=.ref a/\H a=some (.lst vs)/\TrL Hf ds vs:=h
theorem New.int (h:New K Hf H (.im (.int i)) Q) (s:Same Hf H):Q (.int i) H:=h.same s rfl
theorem New.bl (h:New K Hf H (.im (.bool b)) Q) (s:Same Hf H):Q (.bl b) H:=h.same s rfl
theorem New.str (h:New K Hf H (.im (.str x)) Q) (s:Same Hf H):Q (.str x) H:=h.same s rfl
theorem New.tupS (h:New K Hf H (.im (.tuple ds)) Q) (s:Same Hf H) (t:TrL Hf ds vs) (S:Same H H') (hp:H' p=some (.tup vs)):Q (.ref p) H':=by
 have c:Same _ (upd Hf p (.tup vs)):=λb u e=>by
  unfold upd
  split
  ·have:=S b u (s b u e)
   simp_all
  grind
 refine h _ _ _ [] ⟨c,λa o e _=>S a o e,λa o e d _ q=>?_,λa z=>nomatch z⟩ (λb u e=>?_) ⟨rfl,p,vs,rfl,Ax,TrL.same c t⟩
 ·unfold upd
  split
  ·rename_i z
   have:=S a o e;rw[z,hp]at this
   cases this
   trivial
  omega
 ·unfold upd at e
  split at e
  ·simp_all
  ·exact S b u (s b u e)
def Bw7:R2:=λx y H Q=>(rI0 (λi j=>.int (i+j)) x y H Q\/(∃i j,x=.str i/\y=.str j/\i.length+j.length<=sizeLine/\Q (.str (i++j)) H))\/(B1s x y H Q\/Bk7 x y H Q)
theorem Bp1:OpR X (binaryOp .Add) Bw7:=OpR.or (OpR.or Bv5 An6) (OpR.or By2 Bc9)
noncomputable def Ei:PyData->PyData->Option O
 | .int i,.int j=>some (.im (.int (i+j)))
 | .str a,.str b=>if a.length+b.length<=16000000 then some (.im (.str (a++b))) else none
 | .list a,.list b=>if a.length+b.length<=16000000 then some (.ls false (a++b)) else none
 | .tuple a,.tuple b=>if a.length+b.length<=16000000 then some (.im (.tuple (a++b))) else none
 | _,_=>none
theorem lim (h:n<=16000000):n<=sizeLine:=Nat.le_trans h (by decide)
theorem En:OpS K Bw7 Ei:=by
 intro C H x y A B o Q s g f e n;unfold Ei at e
 split at e
 ·rename_i i j
  cases e
  exact .inl (.inl ⟨i,j,Du g,Du f,n.int s⟩)
 ·rename_i a b
  split at e
  ·rename_i l
   cases e
   exact .inl (.inr ⟨a,b,Gj g,Gj f,lim l,n.str s⟩)
  ·cases e
 ·have e := e
  split at e
  ·rename_i l
   cases e
   obtain⟨p,v,k,h,d⟩:=Iz g;obtain⟨q,t,u,m,c⟩:=Iz f
   exact .inr (.inl ⟨p,q,v,t,k,u,h,m,by rw[<- d.length,<- c.length];exact lim l,λr w=>n.lst s (d.app c) w⟩)
  ·cases e
 ·have e := e
  split at e
  ·rename_i l
   cases e
   obtain⟨p,v,k,h,d⟩:=Ia s g;obtain⟨q,t,u,m,c⟩:=Ia s f
   exact .inr (.inr ⟨p,q,v,t,k,u,h,m,by rw[<- d.length,<- c.length];exact lim l,λr z S w=>n.tupS s (d.app c) S w⟩)
  ·cases e
 ·cases e
noncomputable def opI (C:Int->Int->Bool) (g:Int->Int->Int):PyData->PyData->Option O
 | .int i,.int j=>if C i j then some (.im (.int (g i j))) else none
 | _,_=>none
theorem Ax7 (hc:∀i j,C i j=true->a i j):OpS K (rI a λi j=>.int (g i j)) (opI C g):=by
 intro d H x y h f o Q s c b e n;unfold opI at e
 split at e
 ·rename_i i j
  split at e
  ·rename_i l
   cases e
   exact⟨i,j,Du c,Du b,hc i j l,n.int s⟩
  trivial
 grind
noncomputable def Ww (g:Int->Int->PyData):PyData->PyData->Option O
 | .int i,.int j=>some (.im (g i j))
 | _,_=>none
theorem Zw (hg:∀i j H,Tr H (g i j) (g' i j)):OpS K (rI0 g') (Ww g):=by
 intro c H x y f d o Q s a b e n;unfold Ww at e
 split at e
 ·rename_i i j
  cases e
  exact⟨i,j,Du a,Du b,n.same s (hg i j _)⟩
 trivial
noncomputable def U8 (i j:Int):Bool:=(decide (-(2 ^ 64)<i)&&decide (i<2 ^ 64))||(decide (-(2 ^ 64)<j)&&decide (j<2 ^ 64))
noncomputable def Dr (d:PyData):Bool:=d.canLay0&&decide (d.depth<=40)
theorem Il (h:Dr d=true):Flat d:=by
 obtain⟨b,a⟩:=Bool.and_eq_true_iff.mp h;exact⟨b,of_decide_eq_true a⟩
noncomputable def T9:PyData->PyData->Bool
 | .str _,.str _=>true
 | _,_=>false
def Dq (neg:Bool)(a b:PyData):Option O:=if (Dr a&&Dr b)||T9 a b then some (.im (.bool (if neg then !PyData.eqv a b else PyData.eqv a b))) else none
def rEQ:R2:=λx y H Q=>B3a x y H Q\/rEq x y H Q
def rNE:R2:=λx y H Q=>B2z x y H Q\/rNe x y H Q
theorem Bl8 (hu:X.A.units+64<cLine):OpR X (compareOp .Eq) rEQ:=OpR.or (Bt7 hu) By7
theorem B0n (hu:X.A.units+64<cLine):OpR X (compareOp .NotEq) rNE:=OpR.or (Bx9 hu) B1h
theorem V1 (x y:Str):PyData.eqv (.str x) (.str y)=decide (V.str x=V.str y):=by
 show (x==y)=_
 grind
theorem Fj:OpS K rEQ (Dq false):=by
 intro h H x y f d o Q s b a e n;unfold Dq at e
 split at e
 ·rename_i l
  cases e
  rcases Bool.or_eq_true_iff.mp l with l | l
  ·obtain⟨g,c⟩:=Bool.and_eq_true_iff.mp l
   exact .inl ⟨f,d,b.tr s,a.tr s,Il g,Il c,n.bl s⟩
  ·unfold T9 at l
   split at l
   ·cases Gj b
    cases Gj a
    refine .inr ⟨rfl,?_⟩
    rw[<- V1];exact n.bl s
   grind
 grind
theorem Vj:OpS K rNE (Dq true):=by
 intro h H x y f d o Q s b a e n;unfold Dq at e
 split at e
 ·rename_i l
  cases e
  rcases Bool.or_eq_true_iff.mp l with l | l
  ·obtain⟨g,c⟩:=Bool.and_eq_true_iff.mp l
   exact .inl ⟨f,d,b.tr s,a.tr s,Il g,Il c,n.bl s⟩
  ·unfold T9 at l
   split at l
   ·cases Gj b
    cases Gj a
    refine .inr ⟨rfl,?_⟩
    rw[<- V1];exact n.bl s
   grind
 grind
def rLE:R2:=λx y H Q=>rI0 (λi j=>.bl (decide (i<=j))) x y H Q\/∃i j,x=.str i/\y=.str j/\Q (.bl (!decide (j.cps.toList<i.cps.toList))) H
theorem B0c:OpR X (compareOp .LtE) rLE:=OpR.or B1w A0z
noncomputable def Ah3:PyData->PyData->Option O
 | .int i,.int j=>some (.im (.bool (decide (i<=j))))
 | .str i,.str j=>some (.im (.bool (!decide (j.cps.toList<i.cps.toList))))
 | _,_=>none
theorem A5r:OpS K rLE Ah3:=by
 intro c H x y f d o Q s a b e n;unfold Ah3 at e
 split at e
 ·rename_i i j
  cases e
  exact .inl ⟨i,j,Du a,Du b,n.bl s⟩
 ·rename_i i j
  cases e
  exact .inr ⟨i,j,Gj a,Gj b,n.bl s⟩
 trivial
noncomputable def Jd (neg:Bool) (a b:PyData):Option O:=match b with
 | .none=>some (.im (.bool (match a with
  | .none=>!neg
  | _=>neg)))
 | _=>none
theorem Bg3 (h:RdV Hf H d v):decide (v=.non)=(match d with | .none=>true | _=>false):=by
 cases d with
 | none=>cases Y7 h;rfl
 | bool b=>cases T7 h;rfl
 | int i=>cases Du h;rfl
 | str x=>cases Gj h;rfl
 | list c=>obtain⟨a,e,rfl,_⟩:=Iz h;rfl
 | tuple c=>obtain⟨a,e,rfl,_⟩:=(show Tr _ _ v from h);rfl
 | dict k=>trivial
theorem Zk:OpS K (λx y H Q=>y=.non/\Q (.bl (decide (x=.non))) H) (Jd false):=by
 intro f H x y c b o Q s d a e n
 match b,a,e with
 | .none,a,e =>
  refine⟨Y7 a,?_⟩
  rw[Bg3 d]
  cases e
  cases c <;> exact n.bl s
def rIN:R2:=λx y H Q=>Bt5 false x y H Q\/B3b x y H Q
theorem By6 (hu:X.A.units+64<cLine):OpR X (compareOp .In) rIN:=OpR.or (Bx5 hu) A1q
def J0 (neg:Bool):PyData->PyData->Option O
 | d,.list ds=>if Dr d&&PyData.canLayAll0 ds then some (.im (.bool (if neg then !(ds.any λe=>PyData.eqv e d) else ds.any λe=>PyData.eqv e d))) else none
 | d,.tuple ds=>if Dr d&&PyData.canLayAll0 ds then some (.im (.bool (if neg then !(ds.any λe=>PyData.eqv e d) else ds.any λe=>PyData.eqv e d))) else none
 | .str i,.str j=>if neg then none else some (.im (.bool (!(Builtin.Str.occurrences j i 0 j.length 1).isEmpty)))
 | _,_=>none
theorem Bq7:OpS K rIN (J0 false):=by
 intro h H x y g k o Q s b d e n;unfold J0 at e
 split at e
 ·rename_i c
  have e := e
  split at e
  ·rename_i l
   obtain⟨f,a⟩:=Bool.and_eq_true_iff.mp l
   cases e
   exact .inl ⟨g,c,b.tr s,.inl (d.tr s),Il f,a,n.bl s⟩
  grind
 ·rename_i c
  have e := e
  split at e
  ·rename_i l
   obtain⟨f,a⟩:=Bool.and_eq_true_iff.mp l
   cases e
   exact .inl ⟨g,c,b.tr s,.inr (d.tr s),Il f,a,n.bl s⟩
  simp_all
 ·rename_i i j
  cases e
  exact .inr ⟨i,j,Gj b,Gj d,n.bl s⟩
 trivial
theorem M6:OpS K (Bt5 true) (J0 true):=by
 intro h H x y f i o Q s d g e n;unfold J0 at e
 split at e
 ·rename_i a
  have e := e
  split at e
  ·rename_i l
   obtain⟨c,b⟩:=Bool.and_eq_true_iff.mp l
   cases e
   exact⟨f,a,d.tr s,.inl (g.tr s),Il c,b,n.bl s⟩
  simp_all
 ·rename_i a
  have e := e
  split at e
  ·rename_i l
   obtain⟨c,b⟩:=Bool.and_eq_true_iff.mp l
   cases e
   exact⟨f,a,d.tr s,.inr (g.tr s),Il c,b,n.bl s⟩
  grind
 ·simp_all
 grind
theorem A7u (t:TrL Hf ds vs) (h:atI ds i=some d):∃v,atI vs i=some v/\Tr Hf d v:=by
 unfold atI at h ⊢;rw[<- t.length];obtain⟨j,c,a⟩:=Option.bind_eq_some_iff.mp h;obtain⟨v,e,b⟩:=t.got a
 grind
def cutD (ds:List PyData)(lo hi:Option Int):List PyData:=(ds.drop (HT.sIx ds.length 0 lo)).take (HT.sIx ds.length ds.length hi-HT.sIx ds.length 0 lo)
theorem TrL.drop':∀{ds:List PyData}{vs:List V}(n:Nat),TrL Hf ds vs->TrL Hf (ds.drop n) (vs.drop n)
 | ds,vs,0,h=>h
 | [],_,n+1,h=>by cases (show _=[] from h);exact rfl
 | d::ds,_,n+1,⟨v,r,rfl,_,t⟩=>TrL.drop' n t
theorem TrL.take':∀{ds:List PyData}{vs:List V}(n:Nat),TrL Hf ds vs->TrL Hf (ds.take n) (vs.take n)
 | ds,vs,0,h=>by rw[List.take_zero,List.take_zero];exact rfl
 | [],_,n+1,h=>by cases (show _=[] from h);exact rfl
 | d::ds,_,n+1,⟨v,r,rfl,q,t⟩=>⟨v,r.take n,rfl,q,TrL.take' n t⟩
theorem TrL.cut (t:TrL Hf ds vs):TrL Hf (cutD ds lo hi) (A1m vs lo hi):=by
 unfold cutD A1m;rw[<- t.length];exact TrL.take' _ (TrL.drop' _ t)
end
section
variable {K:PySem.W.Frag}{X:Cx}{Hf H:Hp}{Q:VK}{β:Nat->V}{W W':Wo}{c c':Ev}{σ:St}{v:V}
theorem Bl9 (h:Bw3 Hf H [d] xs):∃x,xs=[x]/\RdV Hf H d x:=by
 obtain⟨v,r,b,c,a⟩:=h
 cases (a)
 grind
noncomputable def Do:List PyData->Option O
 | [.list ds]=>some (.im (.int ds.length))
 | [.tuple ds]=>some (.im (.int ds.length))
 | [.str z]=>if z.length<=16000000 then some (.im (.int z.length)) else none
 | _=>none
theorem A1h:B2f K (S9 K) Do:=by
 intro Hf H xs ds o Q s d e n;unfold Do at e
 split at e
 ·obtain⟨x,rfl,r⟩:=Bl9 d
  obtain⟨a,c,rfl,b,t⟩:=Iz r
  cases e
  refine⟨.ref a,c.length,rfl,Bd9 b,?_⟩
  rw[<- t.length];exact n.int s
 ·obtain⟨x,rfl,r⟩:=Bl9 d
  obtain⟨a,c,rfl,b,t⟩:=Ia s r
  cases e
  refine⟨.ref a,c.length,rfl,Bi2 b,?_⟩
  rw[<- t.length];exact n.int s
 ·rename_i z
  obtain⟨x,rfl,r⟩:=Bl9 d
  cases Gj r
  split at e
  ·rename_i l
   cases e
   refine⟨.str z,z.length,rfl,?_,n.int s⟩
   show (if z.length<=sizeLine then some _ else none)=_
   rw[if_pos (lim l)]
  trivial
 simp_all
def A9h (K:PySem.W.Frag):List V->Hp->VK->Prop:=λxs H Q=>S9 K xs H Q\/Ak8 K xs H Q
theorem A5p:zE X (.builtin "len") (A9h X.K):=zE.or A1s Af5
def Gy (f:Ev->R PV):Ev->R PV:=λc=>(f c).bind λp c=>match nrm p with
 | .o (.sc ns)=>.ok (.o (.im (.int ns.length))) c
 | p=>match Ek c p with
  | some d=>match Do [d] with
   | some o=>.ok (.o o) c
   | none=>.bad
  | none=>.bad
theorem Fl (h:ME K t f):ME K (tCB (A9h K) (Cj t Fp)) (Gy f):=by
 intro A W c u Q R s
 refine h.toV A W c u _ R (s.bnd.mono λp w e v r n k g=>?_)
 have m:∀q:PV,RepA K r.Hf u q v->((match Ek w q with
  | some d=>(match Do [d] with
   | some o=>.ok (.o o) w
   | none=>.bad)
  | none=>.bad:U.R PV)).sat (λp C=>∀v j l,Stp W.S W.Hf W.H (orS j.S l) j.Hf j.H->Rep K A j C u->Ej K j u p v l->Q v j.H)->A9h K [v] r.H Q:=λq g e=>by
  cases ex:Ek w q with
  | none=>simp only[ex]at e;exact e.elim
  | some d =>
   simp only[ex]at e
   cases eo:Do [d] with
   | none=>simp only[eo]at e;exact e.elim
   | some o =>
    simp only[eo]at e
    exact .inl (A1h r.Hf r.H [v] [d] o Q k.sub ⟨v,[],rfl,Gf k g ex,rfl⟩ eo (New.of k λv j l z y x=>e v j l (n.trans z) y x))
 generalize nrm p=q at e g
 match q,g,e with
 | .o (.sc ns),g,e =>
  obtain⟨a,rfl,B⟩:=g;have e:∀v j l,Stp _ _ _ _ _ _->Rep K _ j _ _->Ej K _ _ _ v _->Q v _:=e
  refine .inr ⟨.ref a,ns.length,rfl,?_,(New.of k λv j l z y x=>e v _ _ (n.trans z) y x).int k.sub⟩
  exact .inl ⟨ns.map _,Same.seq k.sub B,by simp_all⟩
 | .o (.im d),g,e=>exact m _ g e
 | .o (.ls b d),g,e=>trivial
 | .o (.ty T),g,e=>trivial
 | .sl i,g,e=>exact m _ g e
inductive Ty5 where
 | int | str | bool | list | tuple
noncomputable def Ty5.nm:Ty5->String
 | .int => "int"
 | .str => "str"
 | .bool => "bool"
 | .list => "list"
 | .tuple => "tuple"
noncomputable def Cq:Ty5->PyData->Bool
 | .int,.int _=>true
 | .int,.bool _=>true
 | .str,.str _=>true
 | .bool,.bool _=>true
 | .list,.list _=>true
 | .tuple,.tuple _=>true
 | _,_=>false
noncomputable def Ar9:PyData->String
 | .none => "NoneType"
 | .bool _ => "bool"
 | .int _ => "int"
 | .str _ => "str"
 | .list _ => "list"
 | .tuple _ => "tuple"
 | .dict _ => "dict"
theorem As9 (s:Same Hf H) (h:RdV Hf H d v):Ob H v=some (Ar9 d):=by
 cases d with
 | none=>cases Y7 h;rfl
 | bool b=>cases T7 h;rfl
 | int i=>cases Du h;rfl
 | str x=>cases Gj h;rfl
 | list c=>obtain⟨a,f,rfl,e,_⟩:=Iz h;exact Bm2 e
 | tuple c=>obtain⟨a,f,rfl,e,_⟩:=Ia s h;exact Bu7 e
 | dict k=>trivial
theorem Ak9 (h:RdV Hf H d v) (T:Ty5):Er (Ar9 d) T.nm=some (Cq T d):=by
 cases d with
 | none=>cases T <;> first | exact Ti | exact Tn | exact Rk | exact Q6 | exact Qi
 | bool b=>cases T <;> first | exact Af1 | exact Ah1 | exact Z2 | exact Z5 | exact Wt
 | int i=>cases T <;> first | exact Ak7 | exact Ap2 | exact Ac8 | exact Ai1 | exact Aa5
 | str x=>cases T <;> first | exact Aq9 | exact Am6 | exact Aj4 | exact Ae6 | exact Ab9
 | list a=>cases T <;> first | exact Ai9 | exact Ad9 | exact Aa1 | exact Zd | exact Wj
 | tuple a=>cases T <;> first | exact Aa6 | exact Y8 | exact Wl | exact Wm | exact Ui
 | dict k=>exact(h).elim
def cUn (op:PyData->Option O)(f:Ev->R PV):Ev->R PV:=λc=>(f c).bind λp c=>match Ek c (nrm p) with
 | some d=>match op d with
  | some o=>.ok (.o o) c
  | none=>.bad
 | none=>.bad
def UnS (K:PySem.W.Frag)(r:V->Hp->VK->Prop)(op:PyData->Option O):Prop:=∀(Hf H:Hp) (x:V) (d:PyData) (o:O) (Q:VK),Same Hf H->RdV Hf H d x->op d=some o->New K Hf H o Q->r x H Q
theorem Ac3 (h:ME K t f) (hr:UnS K r op):ME K (tUn r t) (cUn op f):=by
 intro u W c m Q R s
 refine h.toV _ W c _ _ R (s.bnd.mono λp j a v w e b k=>?_)
 cases ex:Ek j (nrm p) with
 | none=>simp only[ex]at a;trivial
 | some d =>
  simp only[ex]at a
  cases eo:op d with
  | none=>simp only[eo]at a;trivial
  | some o =>
   simp only[eo]at a
   exact hr _ _ v d o Q b.sub (Gf b k ex) eo (New.of b λv n q i l g=>a v _ _ (e.trans i) l g)
theorem Cp (h:ME K t f) (hr:UnS K (λx H Q=>r [x] H Q) op):ME K (tCB r (Cj t Fp)) (cUn op f):=Ac3 h hr
def Ay (T:Ty5)(d:PyData):Option O:=some (.im (.bool (Cq T d)))
def J8 (T1 T2:Ty5)(d:PyData):Option O:=some (.im (.bool (Cq T1 d||Cq T2 d)))
theorem Eg (T:Ty5) (h:ME K t f):ME K (tCB (Oq K) (Cj t (Cj (tC (.ty T.nm)) Fp))) (cUn (Ay T) f) :=
 Ac3 h λa H x d o Q s r e n=>by
  cases e
  exact⟨x,T.nm,Ar9 d,Cq T d,rfl,As9 s r,Ak9 r T,n.bl s⟩
theorem Bj2 (h1:Er t A=some a) (h2:Er t B=some b):K1 t [A,B]=some (a||b):=by
 unfold K1;unfold K1;unfold K1
 grind
theorem Ar4 (g j:Ty5) (h:ME K t f):ME K (tCB (Ju K) (Cj t (Cj (Bi5 (Cj (tC (.ty g.nm)) (Cj (tC (.ty j.nm)) Fp))) Fp))) (cUn (J8 g j) f) :=
 Ac3 (r:=λx H Q=>2<=sizeLine/\∀p,H p=none->Ju K _ _ Q) h λv H x d o Q s r e n=>by
  cases e
  refine⟨by decide,λp c=>⟨x,p,[g.nm,j.nm],Ar9 d,Cq _ d||Cq _ d,rfl,Ax,?_,Bj2 (Ak9 r _) (Ak9 r _),?_⟩⟩
  ·have l:Same _ (upd H p (.tup [.ty g.nm,.ty j.nm])):=Tt s c
   refine As9 l ?_
   cases d with
   | list u=>obtain⟨a,m,e,q,t⟩:=r;exact⟨a,m,e,Ca c _ _ q,t⟩
   | none=>exact r
   | bool b=>exact r
   | int i=>exact r
   | str z=>exact r
   | tuple u=>exact r
   | dict k=>exact r
  ·exact n _ _ _ [] ((Stp.newL s c).less λa z=>nomatch z) (Tt s c) ⟨rfl,rfl⟩
noncomputable def boolsOf:List PyData->Option (List Bool)
 | []=>some []
 | .bool b::r=>(boolsOf r).map (b::·)
 | _=>none
theorem Aw7:∀{ds:List PyData}{bs:List Bool}{vs:List V},boolsOf ds=some bs->TrL Hf ds vs->vs=bs.map V.bl
 | [],bs,vs,e,t=>by cases (show some []=some bs from e);exact t
 | .bool b::r,bs,_,e,⟨v,vr,rfl,h,t⟩=>by
  obtain⟨l,e1,rfl⟩:=Option.map_eq_some_iff.mp (show (boolsOf r).map (b::·)=some bs from e)
  cases (show v=.bl b from h)
  rw[Aw7 e1 t];rfl
 | .none::r,bs,_,e,_=>nomatch e
 | .int _::r,bs,_,e,_=>nomatch e
 | .str _::r,bs,_,e,_=>nomatch e
 | .list _::r,bs,_,e,_=>nomatch e
 | .tuple _::r,bs,_,e,_=>nomatch e
 | .dict _::r,bs,_,e,_=>nomatch e
def N7:PyData->Option O
 | .list ds=>(boolsOf ds).map λbs=>.im (.bool (bs.all id))
 | _=>none
theorem M8:UnS K (λx H Q=>Mm K [x] H Q) N7:=by
 intro Hf H x d o Q s r e n
 match d,r,e with
 | .list _,r,e =>
  obtain⟨c,f,rfl⟩:=Option.map_eq_some_iff.mp (show (boolsOf _).map _=some o from e)
  obtain⟨a,vs,rfl,b,t⟩:=Iz r
  exact⟨a,c,rfl,by rw[<- Aw7 f t];exact SqL.of b,n.bl s⟩
noncomputable def A4z:PyData->Option O
 | .int i=>some (.im (.int i))
 | .bool b=>some (.im (.int (if b then 1 else 0)))
 | _=>none
theorem Bg1:UnS K (λx H Q=>Ly K [x] H Q) A4z:=by
 intro a H x d o Q s r e n
 match d,r,e with
 | .int i,r,e=>cases e;cases Du r;exact .inl ⟨i,rfl,n.int s⟩
 | .bool b,r,e=>cases e;cases T7 r;exact .inr ⟨b,rfl,n.int s⟩
noncomputable def At8:PyData->Option O
 | .int i=>some (.im (.int (if i<0 then -i else i)))
 | _=>none
theorem Aw5:UnS K (λx H Q=>Od K [x] H Q) At8:=by
 intro a H x d o Q s r e n
 match d,r,e with
 | .int i,r,e=>cases e;cases Du r;exact⟨i,rfl,n.int s⟩
noncomputable def A5y:PyData->Option O
 | .int i=>some (.im (.int (-i)))
 | _=>none
theorem Bd1:UnS K (rU λi=>.int (-i)) A5y:=by
 intro a H x d o Q s r e n
 match d,r,e with
 | .int i,r,e=>cases e;cases Du r;exact⟨i,rfl,n.int s⟩
noncomputable def Oc:PyData->Option O
 | .list ds=>some (.ls false ds)
 | .tuple ds=>some (.ls false ds)
 | _=>none
theorem V4:UnS K (λx H Q=>Iu K [x] H Q) Oc:=by
 intro Hf H x d o Q s r e n
 match d,r,e with
 | .list _,r,e =>
  cases e
  obtain⟨a,c,rfl,f,t⟩:=Iz r
  exact⟨a,c,rfl,.inl (SqL.of f),λl b=>n.lst s t b⟩
 | .tuple _,r,e =>
  cases e
  obtain⟨a,c,rfl,f,t⟩:=Ia s r
  exact⟨a,c,rfl,.inr (SqT.of f),λl b=>n.lst s t b⟩
noncomputable def An7:PyData->PyData->Option O
 | .int i,.int j=>some (.im (.int (if j<i then j else i)))
 | _,_=>none
theorem A9s {c d:TE} (ha:ME K c fa) (hb:ME K d fb):ME K (tCB (Mh K) (Cj c (Cj d Fp))) (cOp An7 fa fb) :=
 Ak ha hb λh H x y g f o Q s a b e n=>by
  match g,f,a,b,e with
  | .int i,.int j,a,b,e=>cases e;cases Du a;cases Du b;exact⟨i,j,rfl,n.int s⟩
def MO (K:PySem.W.Frag)(T:TO)(f:Ev->R (Option Int)):Prop:=∀(β:Nat->V) (W:Wo) (c:Ev) (σ:St) (Q:Option Int->Hp->Prop),Rep K β W c σ ->
 (f c).sat (λb c'=>∀W',Stp W.S W.Hf W.H W'.S W'.Hf W'.H->Rep K β W' c' σ->Q b W'.H)->T σ W.H Q
noncomputable def cON:Ev->R (Option Int):=λc=>.ok none c
theorem Zg:MO K At9 cON:=λb W c a Q R s=>s W Stp.refl R
def cOS (f:Ev->R PV):Ev->R (Option Int):=λc=>(f c).bind λp c=>match Ek c (nrm p) with
 | some (.int i)=>.ok (some i) c
 | _=>.bad
theorem Z1 (h:ME K t f):MO K (Bk8 t) (cOS f):=by
 intro g W c k Q R s
 refine h.toV _ W c _ _ R (s.bnd.mono λp l a v j b d e=>?_)
 match ex:Ek _ _,a with
 | some (.int i),a=>exact⟨i,Du (Gf d e ex),a _ b d⟩
 | some .none,a=>exact a.elim
 | some (.bool _),a=>exact a.elim
 | some (.str _),a=>exact a.elim
 | some (.list _),a=>exact a.elim
 | some (.tuple _),a=>exact a.elim
 | some (.dict _),a=>exact a.elim
 | none,a=>exact a.elim
def SlS (K:PySem.W.Frag)(r:V->Option Int->Option Int->Hp->VK->Prop)(op:PyData->Option Int->Option Int->Option O):Prop:=∀(Hf H:Hp) (x:V) (lo hi:Option Int) (d:PyData) (o:O) (Q:VK),Same Hf H->RdV Hf H d x->op d lo hi=some o->New K Hf H o Q->r x lo hi H Q
def cSl (op:PyData->Option Int->Option Int->Option O)(f:Ev->R PV)(fl fh:Ev->R (Option Int)):Ev->R PV:=λc=>(f c).bind λp c=>(fl c).bind λlo c=>(fh c).bind λhi c=>match Ek c (nrm p) with
 | some d=>match op d lo hi with
  | some o=>.ok (.o o) c
  | none=>.bad
 | none=>.bad
theorem A3b (h:ME K j f) (hl:MO K l k) (u:MO K m n) (hr:SlS K r op):ME K (tSl r j l m) (cSl op f k n):=by
 intro P W c G Q R s
 refine h.toV _ W c _ _ R (s.bnd.mono λp I D v N g w x=>?_)
 refine hl _ _ _ _ _ w (D.bnd.mono λz F A J a B=>?_)
 refine u _ _ _ _ _ B (A.bnd.mono λt y b H e i=>?_)
 cases ex:Ek y (nrm p) with
 | none=>simp only[ex]at b;trivial
 | some d =>
  simp only[ex]at b
  cases eo:op d z t with
  | none=>simp only[eo]at b;trivial
  | some o =>
   simp only[eo]at b
   exact hr _ _ v _ _ d o Q i.sub (Gf i (RepA.same (a.trans e).fz x) ex) eo (New.of i λv L M C E q=>b v _ _ (g.trans (a.trans (e.trans C))) E q)
end
section
variable {K:PySem.W.Frag}{X:Cx}{Hf H:Hp}{Q:VK}{β:Nat->V}{W:Wo}{c c':Ev}{σ:St}{v:V}
def rSL (K:PySem.W.Frag):V->Option Int->Option Int->Hp->VK->Prop:=λx lo hi H Q=>(B2s K x lo hi H Q\/(B1o K x lo hi H Q\/Bl7 K x lo hi H Q))\/B2i x lo hi H Q
theorem Bs9:SlR X (rSL X.K):=SlR.or (SlR.or Ba6 (SlR.or Bt9 Bi4)) Bs4
def Uu:PyData->Option Int->Option Int->Option O
 | .list ds,lo,hi=>some (.ls false (cutD ds lo hi))
 | .tuple ds,lo,hi=>some (.im (.tuple (cutD ds lo hi)))
 | .str z,lo,hi=>if z.length<=16000000 then some (.im (.str (Txt.slice z lo hi))) else none
 | _,_,_=>none
theorem Aa2:SlS K (rSL K) Uu:=by
 intro Hf H x f c d o Q s r e n
 match d,r,e with
 | .list ds,r,e =>
  cases e
  obtain⟨a,b,rfl,g,t⟩:=Iz r
  exact .inl (.inl ⟨a,b,rfl,SqL.of g,λp h=>n.lst s (TrL.cut t) h⟩)
 | .str z,r,e =>
  by_cases hz:z.length<=16000000
  ·rw[show Uu (.str z) f c=some (.im (.str (Txt.slice z f c))) by simp only[Uu];rw[if_pos hz]]at e
   cases e
   exact .inr ⟨z,r,Nat.le_trans hz (by decide),n.same s rfl⟩
  ·rw[show Uu (.str z) f c=none by simp only[Uu];rw[if_neg hz]]at e;cases e
 | .tuple ds,r,e =>
  cases e
  obtain⟨a,b,rfl,g,t⟩:=Ia s r
  by_cases w:HT.sIx b.length 0 f=0/\HT.sIx b.length b.length c=b.length
  ·refine .inl (.inr (.inr ⟨a,b,rfl,SqT.of g,w,?_⟩))
   have e:cutD ds f c=ds:=by
    unfold cutD;rw[t.length,w.1,w.2,List.drop_zero,Nat.sub_zero,<- t.length,List.take_length]
   rw[e]at n;exact n.same s r
  ·exact .inl (.inr (.inl ⟨a,b,rfl,SqT.of g,w,λp h=>n.tup s (TrL.cut t) h⟩))
def Bf (f:Ev->R PV):Ev->R Bool:=λc=>(f c).bind λp c=>match Ek c (nrm p) with
 | some (.bool b)=>.ok b c
 | _=>.bad
theorem Bs (h:ME K t f):MT K (Tc t) (Bf f):=by
 intro g W c k Q R s
 refine h.toV _ W c _ _ R (s.bnd.mono λp l a v j b d e=>?_)
 match ex:Ek _ _,a with
 | some (.bool i),a=>exact⟨i,T7 (Gf d e ex),a _ b d⟩
 | some .none,a=>exact a.elim
 | some (.int _),a=>exact a.elim
 | some (.str _),a=>exact a.elim
 | some (.list _),a=>exact a.elim
 | some (.tuple _),a=>exact a.elim
 | some (.dict _),a=>exact a.elim
 | none,a=>exact a.elim
theorem Jp (h:ME K t f):MT K (tB t) (Bf f):=Bs h
noncomputable def Bg:Ev->R Bool:=λc=>.ok true c
theorem Fd:MT K A9u Bg:=λb W c a Q R s=>s W Stp.refl R
def Bh7 (f g:Ev->R Bool):Ev->R Bool:=λc=>(f c).bind λb c=>if b=true then g c else .ok false c
def cOr (f g:Ev->R Bool):Ev->R Bool:=λc=>(f c).bind λb c=>if b=true then .ok true c else g c
def Ls (f:Ev->R Bool):Ev->R Bool:=λc=>(f c).bind λb c=>.ok (!b) c
theorem Bw1 (h1:MT K t f) (h2:MT K u g):MT K (B1e t u) (Bh7 f g):=λn W c p Q R s =>
 h1 _ W c _ _ R (s.bnd.mono λb l h k a e=>by
  cases b with
  | true=>exact h2 _ _ _ _ _ e (h.mono λb m j o d i=>j _ (a.trans d) i)
  | false=>exact h _ a e)
theorem N8 (h1:MT K t f) (h2:MT K u g):MT K (tOr t u) (cOr f g):=λn W c p Q R s =>
 h1 _ W c _ _ R (s.bnd.mono λb l h k a e=>by
  cases b with
  | false=>exact h2 _ _ _ _ _ e (h.mono λb m j o d i=>j _ (a.trans d) i)
  | true=>exact h _ a e)
theorem G6 (h1:MT K t f):MT K (B1f t) (Ls f):=λh W c g Q R s =>
 h1 _ W c _ _ R (s.bnd.mono λb j e i a d=>e _ a d)
theorem Aa3 {d:Wo}(R:Rep K β W c σ) (st:Stp d.S d.Hf d.H W.S W.Hf W.H) (s:∀v a e,Stp d.S d.Hf d.H (orS a.S e) a.Hf a.H->Rep K β a c σ->Ej K a σ (.o (.im (.bool b))) v e->Q v a.H):Q (.bl b) W.H :=
 R.here (o:=.im (.bool b)) rfl rfl λv a e f g r=>s v _ _ (st.trans f) g r
def Ql (f g:Ev->R PV):Ev->R PV:=λc=>(Bf f c).bind λb c=>if b=true then g c else .ok (.o (.im (.bool false))) c
def Bs6 (f g:Ev->R PV):Ev->R PV:=λc=>(Bf f c).bind λb c=>if b=true then .ok (.o (.im (.bool true))) c else g c
def A4t (f:Ev->R PV):Ev->R PV:=λc=>(Bf f c).bind λb c=>.ok (.o (.im (.bool (!b)))) c
theorem Ah0 {r:U.R PV}{b:Wo}(s:r.sat λp c'=>∀v a d,Stp b.S b.Hf b.H (orS a.S d) a.Hf a.H->Rep K β a c' σ->Ej K a σ p v d->Q v a.H)(st:Stp b.S b.Hf b.H W.S W.Hf W.H) :
 r.sat λp c'=>∀v a d,Stp W.S W.Hf W.H (orS a.S d) a.Hf a.H->Rep K β a c' σ->Ej K a σ p v d->Q v a.H:=s.mono λp c k v a d e R r=>k v _ _ (st.trans e) R r
theorem Nr (h1:ME K h f) (h2:ME K e g):ME K (Bj8 h e) (Ql f g):=by
 intro k W c j Q R s
 refine Bs h1 _ W c _ _ R (s.bnd.mono λb m i l a d=>?_)
 cases b with
 | true=>exact h2 _ _ _ _ _ d (Ah0 i a)
 | false=>exact Aa3 d a i
theorem Bm6 {h e:TE}{f g:Ev->R PV}(h1:ME K h f)(h2:ME K e g):ME K (B1l h e) (Bs6 f g):=by
 intro k W c j Q R s
 refine Bs h1 _ W c _ _ R (s.bnd.mono λb m i l a d=>?_)
 cases b with
 | false=>exact h2 _ _ _ _ _ d (Ah0 i a)
 | true=>exact Aa3 d a i
theorem Bb4 (h1:ME K d f):ME K (Bj5 d) (A4t f):=by
 intro k W c h Q R s
 exact Bs h1 _ W c _ _ R (s.bnd.mono λb i g j a e=>Aa3 e a g)
def Ci (f:Ev->R PV):Ev->R (List PyData):=λc=>(f c).bind λp c=>(frz (nrm p) c).bind λd c=>match d with
 | .list ds=>.ok ds c
 | .tuple ds=>.ok ds c
 | _=>.bad
theorem Bh5 (ha:Hf a=some (.lst vs)) (t:TrL Hf ds vs):Ao1 (Itl K a) Hf ds:=by
 intro i c H f g;have b:=g _ _ (f _ _ ha)
 refine⟨λe=>⟨vs,SqL.of b,by rw[<- t.length];omega⟩,λd j=>?_⟩
 obtain⟨v,h,k⟩:=t.got j
 refine⟨⟨vs,v,SqL.of b,h⟩,λx l ⟨e,q⟩=>?_⟩
 subst e;have:=q _ (SqL.of b);rw[h]at this
 cases this
 exact⟨c,Stp.refl,g,Tr.same f k⟩
theorem Bn8 (ha:Hf a=some (.tup vs)) (t:TrL Hf ds vs):Ao1 (Itt K a) Hf ds:=by
 intro i c H f g;have b:=g _ _ (f _ _ ha)
 refine⟨λe=>⟨vs,SqT.of b,by rw[<- t.length];omega⟩,λd j=>?_⟩
 obtain⟨v,h,k⟩:=t.got j
 refine⟨⟨vs,v,SqT.of b,h⟩,λx l ⟨e,q⟩=>?_⟩
 subst e;have:=q _ (SqT.of b);rw[h]at this
 cases this
 exact⟨c,Stp.refl,g,Tr.same f k⟩
theorem G9 (h:ME K t f):MI K (Bt8 K t) (Ci f):=by
 intro w W c B k R s
 refine h.toV _ W c _ _ R (s.bnd.mono λp A r v x l u q=>?_)
 obtain⟨d,y,z,_,b,o,i,m,e⟩:=Hy u q r.bnd;rw[<- o]
 match d,e,b with
 | .list _,e,b =>
  obtain⟨a,n,g,j,t⟩:=e;exact⟨a,g,.inl ⟨n,m.sub _ _ j,b _ _ (l.trans i) m (Bh5 j t)⟩⟩
 | .tuple _,e,b =>
  obtain⟨a,n,g,j,t⟩:=e;exact⟨a,g,.inr ⟨n,m.sub _ _ j,b _ _ (l.trans i) m (Bn8 j t)⟩⟩
 | .none,e,b=>exact b.elim
 | .bool _,e,b=>exact b.elim
 | .int _,e,b=>exact b.elim
 | .str _,e,b=>exact b.elim
 | .dict _,e,b=>trivial
noncomputable def J4 (lo:Int) (n:Nat):List PyData:=(List.range n).map λk=>.int (lo+(k:Nat))
theorem Bw0 : Ao1 (Itr lo n) Hf (J4 lo n):=by
 intro i b H g f
 have l:(J4 lo n).length=n:=by unfold J4;simp_all
 refine⟨λe=>by show n<=i;omega,λd a=>?_⟩
 have c:i<n:=by
  grind
 refine⟨c,λx h ⟨e,q⟩=>?_⟩
 subst e;unfold J4 at a;rw[List.getElem?_map,List.getElem?_range c]at a
 cases a
 exact⟨b,Stp.refl,f,q⟩
def Hc (f:Ev->R PV):Ev->R (List PyData):=λc=>(f c).bind λp c=>match Ek c (nrm p) with
 | some (.int j)=>if j<=16000000/\-16000000<=j then .ok (J4 0 j.toNat) c else .bad
 | _=>.bad
theorem Ik (h:ME K t f):MI K (Bk1 (Cj t Fp)) (Hc f):=by
 intro g W c m k R s
 refine h.toV _ W c _ _ R (s.bnd.mono λp n a v i b d e=>?_)
 match ex:Ek _ _,a with
 | some (.int j),a =>
  cases Du (Gf d e ex)
  by_cases l:j<=16000000/\-16000000<=j
  ·have a:(if j<=16000000/\-16000000<=j then U.R.ok _ _ else .bad).sat _:=a
   rw[if_pos l]at a
   exact⟨j,rfl,by omega,by omega,a _ _ b d Bw0⟩
  ·have a:(if j<=16000000/\-16000000<=j then U.R.ok _ _ else .bad).sat _:=a
   rw[if_neg l]at a;trivial
 | some .none,a=>exact a.elim
 | some (.bool _),a=>exact a.elim
 | some (.str _),a=>exact a.elim
 | some (.list _),a=>exact a.elim
 | some (.tuple _),a=>exact a.elim
 | some (.dict _),a=>exact a.elim
 | none,a=>exact a.elim
noncomputable def Uh (d:Option PyData):Option Int:=match d with
 | some (.int i)=>some i
 | _=>none
theorem Tz (h:Uh d=some i):d=some (.int i):=by
 unfold Uh at h
 grind
noncomputable def Lq:PyData->Option (List PyData)
 | .list ds=>some ds
 | .tuple ds=>some ds
 | _=>none
theorem Ap5 (h:Lq d=some ds) (t:Tr Hf d v):∃b a c,v=.ref a/\SqK b Hf a c/\TrL Hf ds c:=by
 cases d with
 | list l=>cases h;obtain⟨a,c,e,f,t⟩:=t;exact⟨false,a,c,e,f,t⟩
 | tuple l=>cases h;obtain⟨a,c,e,f,t⟩:=t;exact⟨true,a,c,e,f,t⟩
 | none=>cases h
 | bool _=>cases h
 | int _=>cases h
 | str _=>cases h
 | dict _=>cases h
theorem Jb {c:Hp}(S:Same Hf c) (h:SqK b Hf a vs):SqK b c a vs:=by
 cases b
 ·exact S _ _ h
 ·exact S _ _ h
noncomputable def Om (xs ys:List PyData):List PyData:=(xs.zip ys).map λp=>.tuple [p.1,p.2]
theorem Bo2 (ha:SqK t1 Hf a vs) (hb:SqK t2 Hf b us) (t:TrL Hf xs vs) (u:TrL Hf ys us):Ao1 (Itz t1 t2 a b) Hf (Om xs ys):=by
 intro i B H j f;have m:=Jb (j.trans f) ha;have k:=Jb (j.trans f) hb
 have l:(Om xs ys).length=min xs.length ys.length:=by unfold Om;simp_all
 refine⟨λe=>⟨vs,us,m,k,by rw[<- t.length,<- u.length,e];omega⟩,λd x=>?_⟩
 obtain⟨p,n,e⟩:=Mv x;rw[List.getElem?_zip_eq_some]at n;obtain⟨h,r,v⟩:=t.got n.1;obtain⟨c,s,w⟩:=u.got n.2
 refine⟨⟨vs,us,h,c,m,k,r,s⟩,λz H' y=>?_⟩
 obtain⟨p,x',y',rfl,g,rfl,A,C⟩:=y;have:=A _ m;rw[r]at this;cases this;have:=C _ k;rw[s]at this;cases this;subst e;have q:=Ca (o:=.tup [h,c]) (Same.free f g);exact⟨upd _ p _,Stp.newF f g,Nf f,p,[h,c],rfl,Ax,h,[c],rfl,Tr.same q (Tr.same j v),c,[],rfl,Tr.same q (Tr.same j w),rfl⟩
def Zh (f g:Ev->R PV):Ev->R (List PyData):=λc=>(f c).bind λp c=>(g c).bind λq c=>(frz (nrm p) c).bind λx c=>(frz (nrm q) c).bind λy c=>match Lq x,Lq y with
 | some xs,some ys=>.ok (Om xs ys) c
 | _,_=>.bad
theorem A6g (h:ME K t f) (h':ME K u g):MI K (B1c (Cj t (Cj u Fp))) (Zh f g):=by
 intro β W c σ k R s
 refine h.toV _ W c _ _ R (s.bnd.mono λp c1 G v1 W1 l P v=>?_)
 refine h'.toV _ _ _ _ _ P (G.bnd.mono λq c2 w v2 W2 i A B=>?_)
 obtain⟨x,c3,W3,_,C,D,e,E,F⟩:=Hy A (RepA.same i.fz v) w.bnd;obtain⟨y,c4,W4,_,j,r,d,m,I⟩:=Hy E (RepA.same e.fz B) C.bnd
 cases ex:Lq x with
 | none=>simp only[ex]at j;trivial
 | some xs =>
  cases ey:Lq y with
  | none=>simp only[ex,ey]at j;trivial
  | some ys =>
   simp only[ex,ey]at j;obtain⟨J,a,L,rfl,H,N⟩:=Ap5 ex F;obtain⟨M,b,O,rfl,n,o⟩:=Ap5 ey I;rw[<- D,<- r];have z:=Jb d.fz H;exact⟨a,b,rfl,J,M,L,O,Jb m.sub z,Jb m.sub n,j _ _ (l.trans (i.trans (e.trans d))) m (Bo2 z n (TrL.same d.fz N) o)⟩
noncomputable def N5 (xs:List PyData):List PyData:=(List.range xs.length).map λk=>.tuple [.int (k:Nat),xs.getD k .none]
theorem Be8 (ha:SqK t Hf a vs) (u:TrL Hf xs vs):Ao1 (Ite t a) Hf (N5 xs):=by
 intro i v H j f;have h:=Jb (j.trans f) ha
 have l:(N5 xs).length=xs.length:=by unfold N5;simp_all
 refine⟨λe=>⟨vs,h,by rw[<- u.length];omega⟩,λd g=>?_⟩
 have n:i<xs.length:=by
  grind
 unfold N5 at g;rw[List.getElem?_map,List.getElem?_range n]at g
 cases g
 have q:xs[i]?=some (xs.getD i .none):=by grind
 obtain⟨b,k,r⟩:=u.got q
 refine⟨⟨vs,b,h,k⟩,λz H' s=>?_⟩
 obtain⟨p,x',rfl,c,rfl,m⟩:=s;have:=m _ h;rw[k]at this;cases this;exact⟨upd _ p _,Stp.newF f c,Nf f,p,[.int i,b],rfl,Ax,.int i,[b],rfl,rfl,b,[],rfl,Tr.same (Ca (o:=.tup [.int i,b]) (Same.free f c)) (Tr.same j r),rfl⟩
def At0 (f:Ev->R PV):Ev->R (List PyData):=λc=>(f c).bind λp c=>(frz (nrm p) c).bind λx c=>match Lq x with
 | some xs=>.ok (N5 xs) c
 | _=>.bad
theorem Bc2 (h:ME K t f):MI K (Bk3 (Cj t Fp)) (At0 f):=by
 intro β W c σ k R s
 refine h.toV _ W c _ _ R (s.bnd.mono λp c1 u v1 W1 e n q=>?_)
 obtain⟨x,c3,W3,_,b,l,d,g,o⟩:=Hy n q u.bnd
 cases ex:Lq x with
 | none=>simp only[ex]at b;trivial
 | some xs =>
  simp only[ex]at b;obtain⟨m,a,r,rfl,i,j⟩:=Ap5 ex o;rw[<- l];exact⟨a,rfl,m,r,Jb g.sub i,b _ _ (e.trans d) g (Be8 i j)⟩
noncomputable def Az9 (x:Str):List PyData:=x.cps.toList.map λc=>.str ⟨#[c]⟩
def Ac6 (f:Ev->R PV):Ev->R (List PyData):=λc=>(f c).bind λp c=>match Ek c (nrm p) with
 | some (.str x)=>.ok (Az9 x) c
 | _=>.bad
theorem Bs8 {x:Str}:Ao1 (Its x) Hf (Az9 x):=by
 intro i b H s1 g
 have l:(Az9 x).length=x.cps.size:=by unfold Az9;simp_all
 refine⟨λe=>by show i=x.cps.size;omega,λd h=>?_⟩
 obtain⟨c,f,e⟩:=Mv h;rw[Array.getElem?_toList]at f
 have k:i<x.cps.size:=by
  grind
 refine⟨k,λz H' j=>?_⟩
 obtain⟨rfl,c',a,rfl⟩:=j;rw[f]at a;cases a;subst e;exact⟨b,Stp.refl,g,rfl⟩
theorem A6o {t:TE}{f:Ev->R PV}(h:ME K t f):MI K (B0j t) (Ac6 f):=by
 intro g W c j k R s
 refine h.toV _ W c _ _ R (s.bnd.mono λp l a v i b d e=>?_)
 match ex:Ek _ _,a with
 | some (.str x),a=>exact⟨x,Gj (Gf d e ex),a _ _ b d Bs8⟩
 | some (.int _),a=>exact a.elim
 | some .none,a=>exact a.elim
 | some (.bool _),a=>exact a.elim
 | some (.list _),a=>exact a.elim
 | some (.tuple _),a=>exact a.elim
 | some (.dict _),a=>exact a.elim
 | none,a=>exact a.elim
end
section
variable {K:PySem.W.Frag}{X:Cx}{Hf H:Hp}{Q:VK}{β:Nat->V}{W W':Wo}{c:Ev}{σ:St}{v:V}{p:PV}{fp:List Addr}{i:Nat}{b:Bool}{ds:List PyData}
theorem Bx4 (R:Rep K β W c σ)(r:Ej K W σ p v fp):∃W',W'.H=W.H/\Stp (orS W.S fp) W.Hf W.H W'.S W'.Hf W'.H/\Rep K β W' c σ/\RepA K W'.Hf σ (nrm p) v:=by
 have f:Stp (orS W.S fp) W.Hf W.H _ _ _:=Stp.refl.up λa z=>.inl z
 cases p with
 | sl i=>exact⟨W,rfl,f,R,r.2⟩
 | o o =>
  cases o with
  | im d=>exact⟨W,rfl,f,R,r.1.2⟩
  | sc d=>exact⟨W,rfl,f,R,r.1.2⟩
  | ty d=>exact⟨W,rfl,f,R,r.1.2⟩
  | ls b ds =>
   obtain⟨⟨a,h,rfl,rfl,g,j,t⟩,l⟩:=r
   refine⟨⟨upd _ a _,W.H,W.fps⟩,rfl,⟨Ca g,λb o e _=>e,λb o e mu n q=>?_,λb z=>.inl (.inl z)⟩,Ys R g j (l a (.head _)),a,h,rfl,Ax,TrL.same (Ca g) t⟩
   have k:b≠a:=λz=>n (.inr (by grind))
   show upd _ a _ b=none
   rw[Ag k];grind
theorem Rep.mut (R:Rep K β W c σ)(hc:c[i]?=some (some (.ls b ds)))(hv:σ[i]?=some (some v)):∃a h,v=.ref a/\W.H a=some (.lst h)/\TrL W.Hf ds h /\
 ∀f d,TrL W.Hf f d->Rep K β ⟨W.Hf,upd W.H a (.lst d),W.fps⟩ (c.set i (some (.ls b f))) σ/\Stp W.S W.Hf W.H W.S W.Hf (upd W.H a (.lst d)):=by
 obtain⟨m,p,⟨a,h,rfl,w,A,H,t⟩,B⟩:=R.get i _ hc
 cases (show some _=some _ from p.symm.trans hv)
 have D:i<c.length:=by
  grind
 have s:a∈W.fps i:=by rw[w];exact .head _
 refine⟨a,h,rfl,H,t,λf d F=>⟨⟨λb u e=>?_,by rw[List.length_set];exact R.len,λj o e=>?_,R.dis,λj x g=>?_⟩,⟨Same.refl _,λx o e n=>?_,λx o e r n q=>q,λx z=>.inl z⟩⟩⟩
 ·have E:b≠a:=λz=>by rw[z,A]at e;cases e
  show upd _ a _ b=_
  rw[Ag E];exact R.sub b u e
 ·by_cases z:j=i
  ·subst z
   rw[List.getElem?_set_self D]at e
   cases e
   exact⟨.ref a,p,⟨a,d,rfl,w,A,Ax,F⟩,B⟩
  ·rw[List.getElem?_set_ne λy=>z y.symm]at e
   obtain⟨m,k,G,l⟩:=R.get j o e
   refine⟨m,k,G.mono (Same.refl _) λx g=>⟨(R.own j x g).1,?_⟩,l⟩
   show upd _ a _ x=_
   rw[Ag];intro q;rw[q]at g;exact z (R.dis j i a g s)
 ·obtain⟨I,o,C,r⟩:=R.own j x g
  refine⟨I,?_⟩
  by_cases z:x=a
  ·exact⟨.lst _,by rw[z];exact Ax,trivial⟩
  ·exact⟨o,by show upd _ a _ x=_;rw[Ag z];exact C,r⟩
 ·rw[Ag]
  ·exact e
  ·intro z;exact n ⟨i,by rw[z];exact s⟩
noncomputable def slL (c:Ev) (p:PV):Option (Nat×Bool×List PyData):=match p with
 | .sl i=>match c[i]? with
  | some (some (.ls b ds))=>some (i,b,ds)
  | _=>none
 | _=>none
theorem Vg (h:slL c p=some x):p=.sl x.1/\c[x.1]?=some (some (.ls x.2.1 x.2.2)):=by
 unfold slL at h
 grind
def A1g (fo fe:Ev->R PV):Ev->R PV:=λc=>(fo c).bind λp c=>if (slL c (nrm p)).isSome=true then (fe c).bind λq c=>(frz (nrm q) c).bind λd c=>match slL c (nrm p) with
 | some (i,b,ds)=>if ds.length<16000000 then .ok (.o (.im .none)) (c.set i (some (.ls b (ds++[d])))) else .bad
 | none=>.bad
 else .bad
theorem Ag7 {b:Wo}(R:Rep K β W c σ)(st:Stp b.S b.Hf b.H W.S W.Hf W.H)(s:∀v a d,Stp b.S b.Hf b.H (orS a.S d) a.Hf a.H->Rep K β a c σ->Ej K a σ (.o (.im .none)) v d->Q v a.H):Q .non W.H :=
 R.here (o:=.im .none) rfl rfl λv a d e f r=>s v _ _ (st.trans e) f r
theorem ty_list (R:Rep K β W c σ)(h:(slL c p).isSome=true)(r:RepA K W.Hf σ p v):tyV K "list" v W.H:=by
 obtain⟨x,d⟩:=Option.isSome_iff_exists.mp h;obtain⟨rfl,e⟩:=Vg d;obtain⟨a,f,rfl,b,_⟩:=R.mut e r;exact .inl ⟨rfl,f,SqL.of b⟩
theorem A7y {v fe:Ev->R PV}(ho:ME K u v) (he:ME K o fe):ME K (tBM K "list" rAppF u (Cj o Fp)) (A1g v fe):=by
 intro β W c σ Q R s
 refine ho.toV _ W c _ _ R (s.bnd.mono λp y f v1 W1 h r j=>?_)
 by_cases hs:(slL y (nrm p)).isSome=true
 ·rw[if_pos hs]at f
  refine⟨ty_list r hs j,he.toV _ _ _ _ _ r (f.bnd.mono λq c2 D H W2 m z w=>?_)⟩
  obtain⟨d,A,W3,_,e,C,n,E,F⟩:=Hy z w D.bnd
  cases ex:slL A (nrm p) with
  | none=>simp only[ex]at e;exact e.elim
  | some x =>
   simp only[ex]at e;obtain⟨i,b,G⟩:=x;obtain⟨B,I⟩:=Vg ex;rw[B]at j;obtain⟨a,J,rfl,L,t,k⟩:=E.mut I j
   by_cases l:G.length<16000000
   ·rw[if_pos l]at e
    obtain⟨M,g⟩:=k _ _ (t.app (TrL.one F));rw[<- C]
    refine⟨a,H,J,rfl,rfl,L,by rw[<- t.length];exact Nat.lt_trans l (by decide),?_⟩
    exact Ag7 M (h.trans (m.trans (n.trans g))) e
   ·rw[if_neg l]at e;exact e.elim
 ·rw[if_neg hs]at f;exact f.elim
def O7 (fo fe:Ev->R PV):Ev->R PV:=λc=>(fo c).bind λp c=>if (slL c (nrm p)).isSome=true then (fe c).bind λq c=>match slL c (nrm p),Uh (Ek c (nrm q)) with
 | some (i,b,ds),some k=>if ds.length<=16000000 then match ixN ds.length k with
  | some j=>match ds[j]? with
   | some d=>.ok (.o (.im d)) (c.set i (some (.ls b (ds.eraseIdx j))))
   | none=>.bad
  | none=>.bad
  else .bad
 | _,_=>.bad
 else .bad
theorem TrL.erase:∀{ds:List PyData}{vs:List V}(n:Nat),TrL Hf ds vs->TrL Hf (ds.eraseIdx n) (vs.eraseIdx n)
 | [],_,n,h=>by cases (show _=[] from h);exact rfl
 | d::ds,_,0,⟨v,r,rfl,_,t⟩=>t
 | d::ds,_,n+1,⟨v,r,rfl,q,t⟩=>⟨v,r.eraseIdx n,rfl,q,TrL.erase n t⟩
theorem TrL.setAt:∀{ds:List PyData}{vs:List V}(n:Nat) {d:PyData}{v:V},TrL Hf ds vs->Tr Hf d v->TrL Hf (ds.set n d) (vs.set n v)
 | [],_,n,d,v,h,_=>by cases (show _=[] from h);exact rfl
 | e::ds,_,0,d,v,⟨u,r,rfl,_,t⟩,q=>⟨v,r,rfl,q,t⟩
 | e::ds,_,n+1,d,v,⟨u,r,rfl,h,t⟩,q=>⟨u,r.set n v,rfl,h,TrL.setAt n t q⟩
theorem Ak1 (ho:ME K z G) (he:ME K F fe):ME K (tBM K "list" rPopAt z (Cj F Fp)) (O7 G fe):=by
 intro B W c H Q R s
 refine ho.toV B W c H _ R (s.bnd.mono λp O g v1 W1 n A w=>?_)
 by_cases hs:(slL O (nrm p)).isSome=true
 ·rw[if_pos hs]at g
  refine⟨ty_list A hs w,he.toV B _ _ _ _ A (g.bnd.mono λq D e v2 W2 h E I=>?_)⟩
  cases ex:slL D (nrm p) with
  | none=>simp only[ex]at e;exact e.elim
  | some x =>
   obtain⟨i,b,l⟩:=x
   cases ey:Uh (Ek D (nrm q)) with
   | none=>simp only[ex,ey]at e;exact e.elim
   | some k =>
    simp only[ex,ey]at e
    by_cases hl:l.length<=16000000
    case neg=>rw[if_neg hl]at e;exact e.elim
    rw[if_pos hl]at e
    cases ej:ixN l.length k with
    | none=>simp only[ej]at e;exact e.elim
    | some j =>
     simp only[ej]at e
     cases ed:l[j]? with
     | none=>simp only[ed]at e;exact e.elim
     | some d =>
      simp only[ed]at e;obtain⟨L,N⟩:=Vg ex;rw[L]at w
      cases Du (Gf E I (Tz ey))
      obtain⟨a,C,rfl,P,t,S⟩:=E.mut N w;obtain⟨y,M,U⟩:=t.got ed;obtain⟨T,q2,q3,q4⟩:=Yv ej;obtain⟨V,m⟩:=S _ _ (TrL.erase j t)
      have u:seqIndex? k C.length=some j:=by rw[<- t.length];exact T
      have f:-2 ^ 63<=k/\k<2 ^ 63:=by omega
      refine⟨a,C,k,j,y,rfl,rfl,P,f.1,f.2,u,M,?_⟩
      exact V.here (o:=.im d) U rfl λv W' fp X J r=>e v _ _ (n.trans (h.trans (m.trans X))) J r
 ·rw[if_neg hs]at g;exact g.elim
def Aw9 (fo fi:Ev->R PV):PV->Ev->R Unit:=λp c=>(frz (nrm p) c).bind λd c=>(fo c).bind λo c=>(fi c).bind λq c=>match slL c (nrm o),Uh (Ek c (nrm q)) with
 | some (i,b,ds),some k=>match ixN ds.length k with
  | some j=>.ok () (c.set i (some (.ls b (ds.set j d))))
  | none=>.bad
 | _,_=>.bad
theorem A4w (ho:ME K u A) (hi:ME K z fi):MG K (B0d u z Bk5) (Aw9 A fi):=by
 intro β W c σ p v fp k R r s;obtain⟨W0,M,l,C,F⟩:=Bx4 R r;obtain⟨d,c1,W1,_,D,E,n,G,I⟩:=Hy C F s.bnd;rw[<- M,<- E]
 refine ho.toV _ _ _ _ _ G (D.bnd.mono λo c2 J v2 W2 g L w=>?_)
 refine hi.toV _ _ _ _ _ L (J.bnd.mono λq y e v3 W3 f B N=>?_)
 cases ex:slL y (nrm o) with
 | none=>simp only[ex]at e;exact e.elim
 | some x =>
  obtain⟨i,b,O⟩:=x
  cases ey:Uh (Ek y (nrm q)) with
  | none=>simp only[ex,ey]at e;exact e.elim
  | some m =>
   simp only[ex,ey]at e
   cases ej:ixN O.length m with
   | none=>simp only[ej]at e;exact e.elim
   | some j =>
    simp only[ej]at e;obtain⟨H,Q⟩:=Vg ex;rw[H]at w
    cases Du (Gf B N (Tz ey))
    obtain⟨a,S,rfl,P,t,T⟩:=B.mut Q w;obtain⟨U,h⟩:=T _ _ (TrL.setAt j t (Tr.same (g.trans f).fz I))
    refine⟨a,S,m,j,rfl,rfl,P,by rw[<- t.length];exact ej,?_⟩
    exact e _ _ (l.trans (n.trans (g.trans (f.trans h)))) U
end
end U
set_option autoImplicit true
namespace L2
open PySem U
theorem Gd (ha:QE X a ta)(hb:QE X b tb):QE X (.BinOp a .Add b pos) (tOp Bw7 ta tb):=⟨Xb Bp1 ha.get hb.get⟩
theorem Ut (hu:X.A.units+64<cLine)(ha:QE X a ta)(hb:QE X b tb):QE X (.Compare a [.Eq] [b] pos) (tOp rEQ ta tb):=⟨Pn (Bl8 hu) ha.get hb.get (La _)⟩
theorem Ny (hu:X.A.units+64<cLine)(ha:QE X a ta)(hb:QE X b tb):QT X (.Compare a [.Eq] [b] pos) (Tc (tOp rEQ ta tb)):=⟨M9 (Bl8 hu) ha.get hb.get (La _)⟩
theorem Ad5 (hu:X.A.units+64<cLine)(ha:QE X a ta)(hb:QE X b tb):QT X (.Compare a [.NotEq] [b] pos) (Tc (tOp rNE ta tb)):=⟨M9 (B0n hu) ha.get hb.get (La _)⟩
theorem Bk2 (ha:QE X a ta)(hb:QE X b tb):QE X (.Compare a [.LtE] [b] pos) (tOp rLE ta tb):=⟨Pn B0c ha.get hb.get (La _)⟩
theorem B2r (hu:X.A.units+64<cLine)(ha:QE X a ta)(hb:QE X b tb)(hm:behindInMarks .In b=false):QE X (.Compare a [.In] [b] pos) (tOp rIN ta tb):=⟨Pn (By6 hu) ha.get hb.get hm⟩
theorem Fo (a:X.K=Kq) (hgl:Gl X "len") (hm:X.mg "len" = none) (ha:QA X (e::es) t) (hns:noStar (e::es)=true:=by rfl):QE X (.Call (.Name "len" p) (e::es) [] pos) (tCB (A9h Kq) t):=by
 subst a
 exact⟨Fz A5p hgl hm A5l ha.get (by decide) (by rfl) hns⟩
theorem A7m (a:X.K=Kq) (he:QE X e te) (hl:QO X low tl) (hu:QO X hi th):QE X (.Subscript e (.Slice low hi none p2) pos) (tSl (rSL Kq) te tl th):=by
 subst a;exact A7k Bs9 he hl hu
end L2
namespace U
open PySem L2
def Def (P:Program)(w:World)(K:PySem.W.Frag)(mg:Str->Option Value)(base:Heap)(x:Str)(k:Nat)(ps:List Str)(sp:Sp):Prop :=
 ∃(f:Addr) (fd:FuncData),FnOk P w K mg base CX0 k f fd ps sp/\Binds K fd ps []/\PySem.W.keepIn K (.ref f)=true/\mg x=some (.ref f)
def Ar6 (K:PySem.W.Frag):Sp:=λvs H Q _=>∃(a:Addr) (ns:List Int),vs=[.ref a]/\SqL K H a (ns.map V.int)/\ns.length<=63/\∀H',Q (.bl true) H'
theorem By5 (f:∀b:List Int,b.length<=63->F [.sc b]=.ret (.im (.bool true)) [.sc b]) (h:Ar6 K vs H Q E):spP K F vs H Q E:=by
 obtain⟨a,b,rfl,c,d,q⟩:=h
 refine⟨λ_=>.non,⟨H,H,λ_=>[]⟩,[.sc b],rfl,rfl,⟨Same.refl _,rfl,λi o e=>?_,λi j a h=>by grind,λi a h=>by grind⟩,?_⟩
 ·cases i with
  | zero =>
   cases (show some _=some _ from e)
   exact⟨.ref a,rfl,⟨rfl,a,rfl,c⟩,λz=>nomatch z⟩
  | succ i=>grind
 ·rw[f _ d]
  intro v W' fp st R r n
  cases (show v=.bl _ from r.2)
  grind
theorem A3u : FnOk P w K mg base CX0 n f c ps (spP K λ_=>.bad) :=
 ⟨λd H Q E h=>by obtain⟨_,_,_,_,_,_,h⟩:=h;simp_all,λA a s H b e d Q E _ _ _ _ h=>by obtain⟨_,_,_,_,_,_,h⟩:=h;simp_all⟩
noncomputable def Au2 (i j:Int):Bool:=decide (0<j)&&decide (j<1073741824)
theorem A5x (i j:Int)(h:Au2 i j=true):Be4 i j:=by
 obtain⟨b,a⟩:=Bool.and_eq_true_iff.mp h;exact⟨of_decide_eq_true b,of_decide_eq_true a⟩
noncomputable def Aw3 (i j:Int):Bool:=decide (0<j)
theorem A6q (i j:Int)(h:Aw3 i j=true):0<j:=of_decide_eq_true h
noncomputable def Ad4 (i j:Int):Bool:=decide (0<=j)&&(decide (j<=1000000)&&decide (i.natAbs<2 ^ 64))
theorem A4y (i j:Int)(h:Ad4 i j=true):A9a i j:=by
 obtain⟨c,a⟩:=Bool.and_eq_true_iff.mp h;obtain⟨a,b⟩:=Bool.and_eq_true_iff.mp a;exact⟨of_decide_eq_true c,of_decide_eq_true a,of_decide_eq_true b⟩
section
variable {K:PySem.W.Frag}
abbrev V8:PyData->PyData->Option O:=Ww λi j=>.int (i-j)
abbrev Bb3:PyData->PyData->Option O:=Ww λi j=>.bool (decide (j<i))
abbrev Bq3:PyData->PyData->Option O:=Ww λi j=>.bool (decide (j<=i))
theorem Py:OpS K (rI0 λi j=>.int (i-j)) V8:=Zw λ_ _ _=>rfl
theorem A6k:OpS K (rI0 λi j=>.bl (decide (j<i))) Bb3:=Zw λ_ _ _=>rfl
theorem Bp8:OpS K (rI0 λi j=>.bl (decide (j<=i))) Bq3:=Zw λ_ _ _=>rfl
abbrev Z4:PyData->PyData->Option O:=opI Au2 λi j=>i / j
abbrev Oa:PyData->PyData->Option O:=opI Aw3 λi j=>i % j
abbrev Ah5:PyData->PyData->Option O:=opI Ad4 λi j=>i ^ j.toNat
theorem Ai3:OpS K (rI Be4 λi j=>.int (i / j)) Z4:=Ax7 A5x
theorem Jx:OpS K (rI (λ_ j=>0<j) λi j=>.int (i % j)) Oa:=Ax7 A6q
theorem Ab0:OpS K (rI A9a λi j=>.int (i ^ j.toNat)) Ah5:=Ax7 A4y
def Bm0 (fa fb:Ev->R PV):Ev->R PV:=λc=>(fa c).bind λp c=>(fb c).bind λq c=>match nrm p,Uh (Ek c (nrm q)) with
 | .o (.sc ns),some k=>match atI ns k with
  | some i=>.ok (.o (.im (.int i))) c
  | none=>.bad
 | _,_=>.bad
theorem Bf9 (h:atI ns k=some i):atI (ns.map V.int) k=some (V.int i):=by
 unfold atI at h ⊢;obtain⟨j,b,a⟩:=Option.bind_eq_some_iff.mp h
 simp_all
theorem Bs1 (ha:ME K h fa) (hb:ME K j fb):ME K (tOp (rIx K) h j) (Bm0 fa fb):=by
 intro β W c σ Q R s
 refine ha.toV _ W c _ _ R (s.bnd.mono λp c1 u v1 W1 f n d=>?_)
 refine hb.toV _ _ _ _ _ n (u.bnd.mono λq t b v2 W2 e g m=>?_)
 have d:=RepA.same e.fz d
 cases ey:Uh (Ek t (nrm q)) with
 | none =>
  simp only[ey]at b;generalize nrm p=np at b
  cases np with
  | sl i=>trivial
  | o o=>cases o <;> exact b.elim
 | some k =>
  simp only[ey]at b;generalize nrm p=np at b d
  match np,d,b with
  | .o (.sc ns),d,b =>
   have b:(match atI ns k with
    | some i=>U.R.ok _ _
    | none=>.bad).sat _:=b
   cases ei:atI _ k with
   | none=>rw[ei]at b;trivial
   | some i =>
    rw[ei]at b;obtain⟨a,rfl,w⟩:=d
    cases Du (Gf g m (Tz ey))
    exact .inl ⟨a,_,k,.int i,rfl,rfl,Same.seq g.sub w,Bf9 ei,g.here (o:=.im (.int i)) rfl rfl λv W' fp x l r=>b v _ _ (f.trans (e.trans x)) l r⟩
  | .o (.im _),d,b=>exact b.elim
  | .o (.ls _ _),d,b=>exact b.elim
  | .o (.ty _),d,b=>exact b.elim
  | .sl _,d,b=>trivial
end
section
variable {P:Program}{w:World}{K:PySem.W.Frag}{Hf H:Hp}{Q:VK}{W:Wo}{c:Ev}{v:V}
def cMt (isT:PyData->Bool)(op:PyData->PyData->Option O)(fa fb:Ev->R PV):Ev->R PV:=λc=>(fa c).bind λp c=>match Ek c (nrm p) with
 | some d=>if isT d=true then (fb c).bind λq c=>match Ek c (nrm p),Ek c (nrm q) with
  | some x,some y=>match op x y with
   | some o=>.ok (.o o) c
   | none=>.bad
  | _,_=>.bad
  else .bad
 | none=>.bad
theorem B0v (ha:ME K l fa) (hb:ME K m fb)
 (n:∀(Hf H:Hp) (d:PyData) (v:V),a d=true->Same Hf H->RdV Hf H d v->tyV K T v H) (hr:OpS K (λx y H Q=>r x [y] H Q) op):ME K (tBM K T r l (Cj m Fp)) (cMt a op fa fb):=by
 intro E W c C Q R s
 refine ha.toV _ W c _ _ R (s.bnd.mono λp w e B D i h j=>?_)
 cases ed:Ek w (nrm p) with
 | none=>simp only[ed]at e;trivial
 | some d =>
  simp only[ed]at e
  by_cases it:a d=true
  case neg=>rw[if_neg it]at e;trivial
  rw[if_pos it]at e
  refine⟨n _ _ d _ it h.sub (Gf h j ed),?_⟩
  refine hb.toV _ _ _ _ _ h (e.bnd.mono λq k b I J f g u=>?_)
  cases ex:Ek k (nrm p) with
  | none=>simp only[ex]at b;trivial
  | some x =>
   cases ey:Ek k (nrm q) with
   | none=>simp only[ex,ey]at b;trivial
   | some y =>
    simp only[ex,ey]at b
    cases eo:op x y with
    | none=>simp only[eo]at b;trivial
    | some o =>
     simp only[eo]at b
     exact hr _ _ _ _ x y o Q g.sub (Gf g (RepA.same f.fz j) ex) (Gf g u ey) eo (New.of g λv F G z A t=>b v _ _ (i.trans (f.trans z)) A t)
noncomputable def Yw:PyData->Bool
 | .tuple _=>true
 | _=>false
theorem Br7 (Hf H:Hp)(d:PyData)(v:V)(h:Yw d=true)(s:Same Hf H)(r:RdV Hf H d v):tyV K "tuple" v H:=by
 cases d with
 | tuple ds =>
  obtain⟨a,c,rfl,b,t⟩:=Ia s r;exact .inr (.inr (.inr (.inr ⟨rfl,c,b⟩)))
 | _=>cases h
noncomputable def strsOf:List PyData->Option (List Str)
 | []=>some []
 | .str z::ds=>(strsOf ds).map (z::·)
 | _=>none
theorem Ak3:∀{ds:List PyData}{ss:List Str}{vs:List V},strsOf ds=some ss->TrL Hf ds vs->vs=ss.map V.str
 | [],ss,vs,h,t=>by cases h;exact t
 | d::ds,ss,_,h,⟨v,r,rfl,h1,h2⟩=>by
  cases d with
  | str z =>
   have h:(strsOf ds).map (z::·)=some ss:=h
   cases e:strsOf ds with
   | none=>rw[e]at h;cases h
   | some ts =>
    rw[e]at h;cases h
    rw[Ak3 e h2,show v=V.str z from h1];rfl
  | _=>cases h
noncomputable def Ve (y:Str):List Str->Option Nat
 | []=>none
 | x::xs=>if x==y then some 0 else (Ve y xs).map (·+1)
theorem At1 {y:Str}:∀{xs:List Str}{j:Nat},Ve y xs=some j->xs[j]?=some y/\∀m<j,xs[m]?≠some y
 | [],j,h=>by cases h
 | x::xs,j,h=>by
  unfold Ve at h
  by_cases q:(x==y)=true
  ·rw[if_pos q]at h;cases h
   exact⟨by simpa using q,λm hm=>absurd hm (Nat.not_lt_zero _)⟩
  ·rw[if_neg q]at h
   cases e:Ve y xs with
   | none=>rw[e]at h;cases h
   | some k =>
    rw[e]at h;cases h;obtain⟨h1,h2⟩:=At1 e
    refine⟨by simpa using h1,λm hm=>?_⟩
    cases m with
    | zero=>simpa using q
    | succ m=>simpa using h2 m (Nat.lt_of_succ_lt_succ hm)
def Uc:PyData->PyData->Option O
 | .tuple ds,.str y=>(strsOf ds).bind λss=>(Ve y ss).map λj=>.im (.int (j:Nat))
 | _,_=>none
theorem Az0:OpS K (λx y H Q=>Yp K x [y] H Q) Uc:=by
 intro Hf H x y dx dy o Q s f g e n;unfold Uc at e
 split at e
 ·rename_i d z
  obtain⟨a,vs,rfl,i,t⟩:=Ia s f
  cases es:strsOf d with
  | none=>grind
  | some b =>
   rw[es]at e;have e:(Ve z _).map _=some o:=e
   cases ei:Ve z b with
   | none=>grind
   | some j =>
    rw[ei]at e;cases e
    cases Gj g
    cases Ak3 es t
    obtain⟨h,c⟩:=At1 ei;exact⟨a,b,z,j,rfl,rfl,SqT.of i,h,c,n.int s⟩
 grind
def O9:PyData->Option O
 | .tuple ds=>(strsOf ds).bind λss=>if ss.length<1000 then some (.im (.int ((dst (ss.map λx=>(Sum.inr x:Key))).length:Nat))) else none
 | _=>none
theorem An5:UnS K (λx H Q=>X5 P w K [x] H λy H=>Qd P w [y] H Q) O9:=by
 intro Hf H x d o Q s c e n
 match d,c,e with
 | .tuple ds,c,e =>
  have e:((strsOf _).bind _)=some o:=e;obtain⟨a,vs,rfl,i,t⟩:=Ia s c
  cases es:strsOf ds with
  | none=>simp_all
  | some g =>
   rw[es]at e
   have e:(if g.length<1000 then some _ else none)=some o:=e
   split at e
   ·cases e
    cases Ak3 es t
    refine⟨a,_,g.map λx=>(Sum.inr x),rfl,SqT.of i,?_,by simp_all,λp f=>⟨p,_,rfl,Ax,?_,?_⟩⟩
    ·rw[List.map_map,List.map_map];rfl
    ·exact Nat.lt_of_le_of_lt (Ua _ _ rfl) (by simp_all)
    ·refine n _ _ _ [] ⟨λ_ _ h=>h,λb u e _=>?_,λ_ _ _ _ _ h=>h,λ_ h=>nomatch h⟩ (λb u e=>?_) ⟨rfl,rfl⟩
     ·exact Ca f b u e
     ·exact Ca f b u (s b u e)
   grind
theorem Az4 {t:TE}{f:Ev->R PV}(h:ME K t f):ME K (tCB (Qd P w) (Cj (tCB (X5 P w K) (Cj t Fp)) Fp)) (cUn O9 f):=Ac3 (r:=λx H Q=>X5 P w K _ H _) h An5
end
end U
namespace U
open PySem L2 PySem.W
noncomputable def kdOf:List PyData->Kd
 | .tuple (.tuple _::_)::_=>.tt
 | .tuple (.list _::_)::_=>.tl
 | .int _::_=>.ii
 | .list _::_=>.ll
 | _=>.ti
def A7c (ds ks:List PyData):Option (List PyData):=if ds.length<2 then some ds else if ds.length<64&&(ks.all (Nv (kdOf ks))&&ks.all Dr) then (kEv (A1a (kdOf ks) ks) (kas_sort ds.length)).map λp=>p.toList.map λi=>ds.getD i .none else none
section
variable {Hf:Hp}
theorem TrL.at_:∀{ds:List PyData}{vs:List V},TrL Hf ds vs->∀i,Tr Hf (ds.getD i .none) (vs.getD i .non)
 | [],_,h,i=>by cases (show _=[] from h);exact rfl
 | d::ds,_,⟨v,r,e,t,ts⟩,0=>by subst e;exact t
 | d::ds,_,⟨v,r,e,t,ts⟩,i+1=>by subst e;exact TrL.at_ ts i
theorem TrL.pick {ds:List PyData}{vs:List V}(t:TrL Hf ds vs):∀l:List Nat,TrL Hf (l.map λi=>ds.getD i .none) (l.map λi=>vs.getD i .non)
 | []=>rfl
 | i::l=>⟨_,_,rfl,TrL.at_ t i,TrL.pick t l⟩
theorem TrL.len':∀{ds:List PyData}{vs:List V},TrL Hf ds vs->ds.length=vs.length
 | [],_,h=>by cases (show _=[] from h);rfl
 | d::ds,_,⟨v,r,e,t,ts⟩=>by subst e;rw[List.length_cons,List.length_cons,TrL.len' ts]
end
end U
namespace U
open PySem L2
section
noncomputable def Bt0:PyData->Bool
 | .list _=>true
 | _=>false
end
inductive XF where
 | ret (o:O)
 | ex (nm:Xn)
 | bad
inductive XS where
 | s (r:SR)
 | ex (nm:Xn) (c:Ev)
def spX (K:PySem.W.Frag)(F:List PyData->XF):Sp:=λvs H Q E=>∃(Hf:Hp) (ds:List PyData),Same Hf H/\TrL Hf ds vs/\match F ds with
 | .bad=>False
 | .ret o=>∀v Hf' H' fp,Stp (λ_=>False) Hf H (λa=>a∈fp) Hf' H'->Same Hf' H'->RepO K Hf' H' o v fp->Q v H'
 | .ex nm=>∀C d Hf' H',XAt K Hf' nm C d->Stp (λ_=>False) Hf H (λ_=>False) Hf' H'->Same Hf' H'->E (.ref C) d H'
def LeadX (K:PySem.W.Frag)(β:Nat->V)(W:Wo)(D:Ends)(E:XK):XS->Prop
 | .s r=>zH K β W D r
 | .ex nm c'=>∀C d σ' W',XAt K W'.Hf nm C d->Stp W.S W.Hf W.H W'.S W'.Hf W'.H->Rep K β W' c' σ'->E (.ref C) d W'.H
def MX (K:PySem.W.Frag)(E:XK)(T:TS)(f:Ev->XS):Prop:=∀(β:Nat->V) (W:Wo) (c:Ev) (σ:St) (D:Ends),Rep K β W c σ->LeadX K β W D E (f c)->T D σ W.H
noncomputable def Ii (f:Ev->SR):Ev->XS:=λc=>.s (f c)
noncomputable def Oj (f g:Ev->XS):Ev->XS:=λc=>match f c with
 | .s (.nx c)=>g c
 | r=>r
noncomputable def xIf (t:Ev->R Bool) (f g:Ev->XS):Ev->XS:=λc=>match t c with
 | .ok b c=>if b=true then f c else g c
 | .bad=>.s .bad
def Bu6 (nm:Str)(fa:Ev->R (List PV)):Ev->XS:=λc=>match fa c with
 | .ok _ c=>.ex ⟨nm,none⟩ c
 | .bad=>.s .bad
noncomputable def scO:O->Bool
 | .im .none=>true
 | .im (.bool _)=>true
 | .im (.int _)=>true
 | .im (.str _)=>true
 | _=>false
def Bz1 (F:List PyData->XF)(fa:Ev->R (List PV))(k:O->Ev->XS)(h:Xn->Ev->XS):Ev->XS:=λc=>match fa c with
 | .bad=>.s .bad
 | .ok ps c=>match At2 c ps with
  | none=>.s .bad
  | some ds=>match F ds with
   | .bad=>.s .bad
   | .ret o=>if scO o=true then k o c else .s .bad
   | .ex nm=>if nm.p.isNone=true then h nm c else .s .bad
def Mr (n N:Nat)(body:Ev->XS):List PyData->XF:=λds=>if ds.length=n then match body (ds.map (λd=>some (.im d))++List.replicate (N-n) none) with
 | .s (.nx _)=>.ret (.im .none)
 | .s (.rt p c)=>match resolve p c with
  | some (o,_)=>.ret o
  | none=>.bad
 | .ex nm _=>.ex nm
 | _=>.bad
 else .bad
section
variable {K:PySem.W.Frag}{β:Nat->V}{W W':Wo}{c:Ev}{D:Ends}{E:XK}{Hf H:Hp}{o:O}{v:V}
theorem LeadX.step {r:XS}(h:LeadX K β W D E r)(st:Stp W.S W.Hf W.H W'.S W'.Hf W'.H):LeadX K β W' D E r:=by
 cases r with
 | s r=>exact zH.step h st
 | ex g c=>exact λC d e i b a f=>h C d _ _ b (st.trans a) f
theorem Fg {T:TS}{f:Ev->SR}(h:MS K T f):MX K E T (Ii f):=λb W c a D R l=>h _ W c _ D R l
theorem Hx {T U:TS}{f g:Ev->XS}(h1:MX K E T f)(h2:MX K E U g):MX K E (A7l T U) (Oj f g):=by
 intro m W c i D R l
 refine h1 _ W c _ _ R ?_
 unfold Oj at l
 cases e:f c with
 | ex j a=>rw[e]at l;exact l
 | s r =>
  rw[e]at l
  cases r with
  | nx a=>exact λh k d b=>h2 _ _ _ _ D b (LeadX.step l d)
  | rt p a=>exact l
  | bk a=>exact l
  | ct a=>exact l
  | bad=>exact l
theorem Yb {i:TT}{T U:TS}{ft:Ev->R Bool}{f g:Ev->XS}(h:MT K i ft)(h1:MX K E T f)(h2:MX K E U g):MX K E (Bm8 i T U) (xIf ft f g):=by
 intro j W c n D R l;unfold xIf at l
 refine h _ W c _ _ R ?_
 cases e:ft c with
 | bad=>rw[e]at l;exact l
 | ok b k =>
  rw[e]at l;intro m d a
  cases b with
  | true=>exact h1 _ _ _ _ D a (LeadX.step l d)
  | false=>exact h2 _ _ _ _ D a (LeadX.step l d)
theorem Xm {S:Addr->Prop}{b:Hp}(s:Same H b):Stp S Hf H S Hf b:=⟨Same.refl _,λa o e _=>s a o e,λa o e c n q=>q,λa z=>.inl z⟩
theorem Qz (h:orS S [] a):S a:=by
 grind
theorem Js {n N:Nat}{body:Ev->XS}{vs:List V}{Q:VK}(hs:spX K (Mr n N body) vs H Q E):vs.length=n:=by
 obtain⟨d,b,c,t,a⟩:=hs;unfold Mr at a
 by_cases hn:b.length=n
 ·rw[<- t.length];grind
 simp_all
theorem Jw {n:Nat}{N:List Str}{body:Ev->XS}{T:TS}{vs:List V}{Q:VK}(h:MX K E T body)(hs:spX K (Mr n N.length body) vs H Q E):T { nx:=λ_ G=>Q .non G,rt:=Q } (start N vs) H:=by
 obtain⟨P,u,A,t,c⟩:=hs;unfold Mr at c
 by_cases l:u.length=n
 ·rw[if_pos l]at c
  have B:=t.length
  let W:Wo:=⟨P,H,λ_=>[]⟩
  have R:Rep K (λ_=>.non) W (u.map (λd=>some (.im d))++List.replicate (N.length-n) none) (start N vs):=by
   refine⟨A,?_,λi o e=>?_,(λi j a z=>nomatch z),λi a z=>nomatch z⟩
   ·show _=(vs.map some++List.replicate (N.length-vs.length) none).length
    rw[List.length_append,List.length_append,List.length_map,List.length_map,List.length_replicate,List.length_replicate,<- B,l]
   ·by_cases li:i<u.length
    ·rw[List.getElem?_append_left (by rw[List.length_map];exact li),List.getElem?_map]at e
     cases ed:u[i]? with
     | none=>rw[ed]at e;cases e
     | some d =>
      rw[ed]at e;cases e;obtain⟨v,J,L⟩:=t.got ed
      refine⟨v,?_,⟨rfl,L⟩,λz=>nomatch z⟩
      show (vs.map some++List.replicate (N.length-vs.length) none)[i]?=_
      rw[List.getElem?_append_left (by rw[List.length_map,<- B];exact li),List.getElem?_map,J];rfl
    ·rw[List.getElem?_append_right (by rw[List.length_map];exact Nat.le_of_not_lt li),List.getElem?_replicate]at e
     split at e <;> cases e
  have b:∀a,W.S a->False:=λa ⟨i,z⟩=>nomatch z
  refine h _ W _ (start N vs) _ R ?_
  cases eb:body (u.map (λd=>some (.im d))++List.replicate (N.length-n) none) with
  | ex Y k =>
   rw[eb]at c
   exact λC d w g l f m=>c C d g.Hf g.H l ⟨f.fz,λa o e _=>f.kp a o e (b a),λa o e x _ q=>f.nf a o e x (b a) q,λa z=>z.elim⟩ m.sub
  | s r =>
   rw[eb]at c
   cases r with
   | nx k=>exact λw g f m=>c .non g.Hf g.H [] ⟨f.fz,λa o e _=>f.kp a o e (b a),λa o e x _ q=>f.nf a o e x (b a) q,λa z=>nomatch z⟩ m.sub ⟨rfl,rfl⟩
   | rt p k =>
    intro w v g X f m O
    cases er:resolve p k with
    | none=>simp only[er]at c
    | some q =>
     simp only[er]at c;obtain⟨Z,I,M,D,U,S,n2,F⟩:=Wa m O er;rw[<- D]
     refine c v _ _ _ ?_ U.sub S
     rw[M,D]
     refine⟨f.fz,λa o e _=>f.kp a o e (b a),λa o e x _ q=>f.nf a o e x (b a) q,λa z=>?_⟩
     rcases f.fr a (F a (.inr z)) with y | y
     ·exact(b a y).elim
     ·exact .inr y
   | bk k=>exact c.elim
   | ct k=>exact c.elim
   | bad=>exact c.elim
 ·rw[if_neg l]at c;exact c.elim
end
end U
set_option autoImplicit true
namespace U
open PySem L2
def Bq5 (i:Option Nat)(o:O)(c:Ev):XS:=.s (match i with
 | some i=>(cgN i (.o o) c).toS λ_ c=>.nx c
 | none=>.nx c)
def
 tryH (j:Nat) (NS:List Str) (fh:Ev->SR) (nm:Xn) (c:Ev):XS:=.s (if NS.contains nm.n then match fh (c.set j (some (.ty (.xc nm)))) with
 | .nx c2=>.nx (c2.set j none)
 | _=>.bad
 else .bad)
noncomputable def unX:XS->SR
 | .s r=>r
 | .ex _ _=>.bad
def Xw (tbl:List (Str×Bool))(f:Ev->R PV):Ev->R PV:=λc=>(f c).bind λp c=>match rdP c p with
 | some (.ty (.xc nm))=>match tbl.lookup nm.n with
  | some b=>.ok (.o (.im (.bool b))) c
  | none=>.bad
 | _=>.bad
def A4u (f:Ev->R PV):Ev->R PV:=λc=>(f c).bind λp c=>match rdP c p with
 | some (.ty (.xc _))=>.ok (.o (.im (.bool false))) c
 | some (.im .none)=>.ok (.o (.im (.bool true))) c
 | _=>.bad
section
variable {K:PySem.W.Frag}{β:Nat->V}{W W':Wo}{c:Ev}{σ:St}{Hf H:Hp}{o:O}{v:V}{fp:List Addr}
theorem Rep.setU {j:Nat}(R:Rep K β W (c.set j none) σ):Rep K β W (c.set j none) (σ.set j none):=by
 refine⟨R.sub,by rw[R.len,List.length_set],λi o e=>?_,R.dis,R.own⟩
 by_cases ij:i=j
 ·subst ij
  rw[List.getElem?_set]at e
  simp at e
 ·obtain⟨v,e1,r⟩:=R.get i o e
  exact⟨v,by rw[List.getElem?_set_ne (Ne.symm ij)];exact e1,r⟩
theorem Ax6 {p:PV}{nm:Xn}(R:Rep K β W c σ)(r:Ej K W σ p v fp)(e:rdP c p=some (.ty (.xc nm))):RepN K W.Hf (.ty (.xc nm)) v:=by
 cases p with
 | o f=>cases e;exact r.1.2
 | sl i =>
  have e:c[i]?.join=some _:=e
  have b:c[i]?=some (some (.ty (.xc nm))):=by
   grind
  obtain⟨g,a,d,_⟩:=R.get i _ b;have h := r.2;rw[h]at a;cases a;exact d.2
theorem Ax0 {l:TE}{f:Ev->R PV}{cv:V}{z:Value}{i:List (Str×Bool)}(hz:Bn0 cv=some z)(ht:∀nm b,i.lookup nm=some b->∀C,PySem.W.nsIn K mainGlobals nm=some (some (.ref C))->Kh K C/\PySem.W.kitOne K (.ref C) z=some b)(h:ME K l f) :
 ME K (tCB (Ao9 K) (Cj l (Cj (tC cv) Fp))) (Xw i f):=by
 intro w W c x Q R s
 refine h _ W c _ _ R (s.bnd.mono λp q g y A r j k t=>?_)
 cases ed:rdP q p with
 | none=>simp only[ed]at g;trivial
 | some o =>
  simp only[ed]at g
  match o,ed,g with
  | .ty (.xc nm),ed,g =>
   cases el:i.lookup nm.n with
   | none=>simp only[el]at g;trivial
   | some b =>
    simp only[el]at g;obtain⟨a,C,d,e,n,u⟩:=Ax6 k t ed;subst e;obtain⟨v,m⟩:=ht _ b el C n.ns
    refine⟨a,C,d,cv,z,b,rfl,k.sub _ _ u,v,hz,m,?_⟩
    exact g _ _ _ (j.less λa z=>by
     grind) k ⟨⟨rfl,rfl⟩,λa z=>nomatch z⟩
  | .ty (.nm _),ed,g=>trivial
  | .ty (.tc _),ed,g=>trivial
  | .ty (.dc _ _),ed,g=>exact g.elim
  | .ty (.dt _ _),ed,g=>exact g.elim
  | .ty (.ds _ _),ed,g=>exact g.elim
  | .ty (.td _ _ _),ed,g=>exact g.elim
  | .im _,ed,g=>exact g.elim
  | .ls _ _,ed,g=>exact g.elim
  | .sc _,ed,g=>trivial
theorem Bp2 {p:PV}(R:Rep K β W c σ)(r:Ej K W σ p v fp)(e:rdP c p=some (.im .none)):v=.non:=by
 cases p with
 | o f=>cases e;exact r.1.2
 | sl i =>
  have e:c[i]?.join=some _:=e
  have b:c[i]?=some (some (.im .none)):=by
   grind
  obtain⟨g,a,d,_⟩:=R.get i _ b;have h := r.2;rw[h]at a;cases a;exact d.2
theorem Ba4 {m:TE}{f:Ev->R PV}(h:ME K m f):ME K (tOp (λx y H Q=>y=.non/\Q (.bl (decide (x=.non))) H) m (tC .non)) (A4u f):=by
 intro u W c t Q R s
 refine h _ W c _ _ R (s.bnd.mono λp q g A w r j l n=>?_)
 refine⟨rfl,?_⟩
 have i:∀b ,(∀v W' fp,Stp _ _ _ (orS W'.S fp) W'.Hf W'.H->Rep K _ W' _ _->Ej K W' t (.o (.im (.bool b))) v fp->Q v W'.H)->Q _ _:=λb k=>k _ _ _ (j.less λa z=>by
  grind) l ⟨⟨rfl,rfl⟩,λa z=>nomatch z⟩
 cases ed:rdP q p with
 | none=>simp only[ed]at g;trivial
 | some o =>
  simp only[ed]at g
  match o,ed,g with
  | .ty (.xc _),ed,g =>
   obtain⟨a,C,d,e,_⟩:=Ax6 l n ed;subst e;exact i _ g
  | .im .none,ed,g=>cases Bp2 l n ed;exact i _ g
  | .im (.bool _),ed,g=>trivial
  | .im (.int _),ed,g=>trivial
  | .im (.str _),ed,g=>trivial
  | .im (.list _),ed,g=>trivial
  | .im (.tuple _),ed,g=>trivial
  | .im (.dict _),ed,g=>exact g.elim
  | .ty (.nm _),ed,g=>exact g.elim
  | .ty (.tc _),ed,g=>exact g.elim
  | .ty (.dc _ _),ed,g=>exact g.elim
  | .ty (.dt _ _),ed,g=>exact g.elim
  | .ty (.ds _ _),ed,g=>exact g.elim
  | .ty (.td _ _ _),ed,g=>exact g.elim
  | .ls _ _,ed,g=>exact g.elim
  | .sc _,ed,g=>trivial
end
end U
set_option autoImplicit true
namespace L2
open PySem PySem.Spec PyProof.Rows PySem.W
section
variable {P:Program}{w:World}{K:PySem.W.Frag}{mg:Str->Option Value}{base:Heap}
theorem Fun.okX {x qual:Str}{st:Stmt}{f:Addr}{h:FuncData}{N ps:List Str}{k:Nat}{sp:Sp}(F:Fun K x qual st f h)(S:Bl N ps (An st))(g:∀vs H Q E,sp vs H Q E->vs.length=ps.length)
 (b:∀(c:Value) (A:Around) (a:List Env) (s:Shared) (H:Hp) (vs:List V) (Q:VK) (E:XK),Room k (A.deeper (envOfC qual (An st) s.heap.objs.size f c))->sp vs H Q E ->
  ∃t,PSs (Pz (CXe P w) P w K mg base N qual (An st) f c A a s H E) (Gz st) t/\t { nx:=λ_ m=>Q .non m,rt:=Q } (start N vs) H):FnOk P w K mg base (CXe P w) (k+1) f h ps sp:=by
 obtain⟨oc,od,kV,j,pm,an,c,ct,l,rfl,i,e⟩:=F.ex
 exact As5 i e S g λA a s H vs Q E n d=>b _ A _ s H _ Q E n d
end
section
variable {X:Cx}{x y n:Str}{Fc f:Addr}{cpos pos p epos yp hpos:Pos}{e:Expr}{es:List Expr}{t:TA}{k j:Nat}{fd:FuncData}{ps:List Str}{sp:Sp}{b₀:Stmt}{suite:List Stmt}{th:TS}
theorem Bb5 {Kq:PySem.W.Frag}(hKq:X.K=Kq)(F:FnOk X.prog X.w X.K X.mg X.base (CXe X.prog X.w) k f fd ps sp)(hr:Room k X.A)(hgf:Gl X x)(hmf:X.mg x=some (.ref f))(hk:PySem.W.keepIn X.K (.ref f)=true)(hb:Binds X.K fd ps [])(hxe:∀e s,¬ X.xe e s)(ha:QA X (e::es) t)
 (hx0:X.ex=[]) (hs:X.stack=X.env::X.outer/\X.env.frame=some X.env.locals) (hN:X.N.Nodup) (hj:X.N[j]?=some n) (hlo:X.env.scope.names.lookup n=some .local) (hg:Gl X y) (hm:X.mg y=some (.ref Fc)) (hsu:∀a,QSs (Rp X a) (b₀::suite) th)
 (hd1:(x==("__debug__" : Str))=false:=by decide) (hd2:(y==("__debug__" : Str))=false:=by decide) (he:starEach (e::es) X.env=(false,eval e X.env)::starEach es X.env:=by rfl) (hpl:(backTo cpos (starEach es X.env)).any (·.1)=false:=by rfl)
 (hsw:swapsWith (.Call (.Name x p) (e::es) [] cpos) none epos.line X.env=pure false:=by rfl) :
 QS X (.Try [.Expr (.Call (.Name x p) (e::es) [] cpos) epos] [.ExceptHandler (some (.Name y yp)) (some n) (b₀::suite) hpos] [] [] pos) (Br3 Kq Fc j sp t none th):=by
 subst hKq
 exact⟨Bg8 F hr hgf hmf hk hb hxe ha.get hx0 hs hN hj hlo hg hm (λa=>(hsu a).get) hd1 hd2 he hpl hsw⟩
theorem J5 {D:Addr}(hg:Gl X y)(hm:X.mg y=some (.ref D))(hdb:(y==("__debug__" : Str))=false:=by decide):QE X (.Name y p) (tC (.ref D)):=⟨Bq1 hg hm hdb⟩
theorem As7 {Kq:PySem.W.Frag}(a:X.K=Kq)(hgl:Gl X "isinstance") (hm:X.mg "isinstance" = none) (ha:QA X (e::es) t) (hn:noStar (e::es)=true:=by rfl):QE X (.Call (.Name "isinstance" p) (e::es) [] pos) (tCB (Ao9 Kq) t):=by
 subst a
 exact⟨Fz A0i hgl hm Ho ha.get (by decide) (by rfl) hn⟩
theorem Wq:bootBuiltins "ValueError" = some (.type "ValueError"):=by decide +kernel
end
def TbOk (K:PySem.W.Frag)(z:Value)(tbl:List (Str×Bool)):Prop:=∀nm b,tbl.lookup nm=some b->∀C,PySem.W.nsIn K mainGlobals nm=some (some (.ref C))->Kh K C/\PySem.W.kitOne K (.ref C) z=some b
def ExOk (K:PySem.W.Frag)(Fc:Addr)(NS:List Str):Prop:=∀nm∈NS,∀C,PySem.W.nsIn K mainGlobals nm=some (some (.ref C))->PySem.W.exmOne K (.ref C) (.ref Fc)=some true
def ClT (K:PySem.W.Frag)(mg:Str->Option Value)(tbl:List (Str×Bool))(T:Str):Prop:=∃g,mg T=some (.ref g)/\TbOk K (.ref g) tbl
def ClF (K:PySem.W.Frag)(mg:Str->Option Value)(NS:List Str)(T:Str):Prop:=∃g,mg T=some (.ref g)/\ExOk K g NS
def ClR (K:PySem.W.Frag)(mg:Str->Option Value)(T:Str):Prop:=∃g,mg T=some (.ref g)/\PySem.W.nsIn K mainGlobals T=some (some (.ref g))/\exP K g=true
section
variable {K:PySem.W.Frag}{z:Value}{tbl:List (Str×Bool)}{x:Str}{g Fc:Addr}{b:Bool}{NS:List Str}
theorem TbOk.nil:TbOk K z []:=λ_ _ e=>nomatch e
theorem TbOk.cons (n:PySem.W.nsIn K mainGlobals x=some (some (.ref g)))(X:Kh K g)(k:PySem.W.kitOne K (.ref g) z=some b)(t:TbOk K z tbl):TbOk K z ((x,b)::tbl):=λc d e C a=>by
 rw[List.lookup_cons]at e
 cases q:c==x with
 | true =>
  simp_all
 | false=>rw[q]at e;exact t _ _ e C a
theorem ExOk.nil:ExOk K Fc []:=λ_ z=>nomatch z
theorem ExOk.cons (n:PySem.W.nsIn K mainGlobals x=some (some (.ref g)))(k:PySem.W.exmOne K (.ref g) (.ref Fc)=some true)(t:ExOk K Fc NS):ExOk K Fc (x::NS):=λc h C b=>by
 rcases List.mem_cons.mp h with a | h
 ·grind
 ·exact t _ h C b
end
end L2
namespace U
open PySem L2
def DefX (P:Program)(w:World)(K:PySem.W.Frag)(mg:Str->Option Value)(base:Heap)(x:Str)(k:Nat)(ps:List Str)(sp:Sp):Prop :=
 ∃(f:Addr) (fd:FuncData),FnOk P w K mg base (CXe P w) k f fd ps sp/\Binds K fd ps []/\PySem.W.keepIn K (.ref f)=true/\mg x=some (.ref f)
section
variable {K:PySem.W.Frag}{β:Nat->V}{W:Wo}{c:Ev}{σ:St}{Hf:Hp}
def A9g (fo fi fe:Ev->R PV):Ev->R PV:=λc=>(fo c).bind λp c=>if (slL c (nrm p)).isSome=true then (fi c).bind λq c=>match Uh (Ek c (nrm q)) with
 | some k=>(fe c).bind λr c=>(frz (nrm r) c).bind λd c=>match slL c (nrm p) with
  | some (i,b,ds)=>if 0<=k/\k<=(ds.length:Int)/\ds.length<1000000 then .ok (.o (.im .none)) (c.set i (some (.ls b (Mu ds k.toNat d)))) else .bad
  | none=>.bad
 | none=>.bad
 else .bad
theorem TrL.take:∀{ds:List PyData}{vs:List V}(n:Nat),TrL Hf ds vs->TrL Hf (ds.take n) (vs.take n)
 | _,_,0,_=>by rw[List.take_zero,List.take_zero];exact rfl
 | [],_,n+1,h=>by cases (show _=[] from h);exact rfl
 | d::ds,_,n+1,⟨v,r,e,t,ts⟩=>by subst e;exact⟨v,r.take n,rfl,t,TrL.take n ts⟩
theorem TrL.drop:∀{ds:List PyData}{vs:List V}(n:Nat),TrL Hf ds vs->TrL Hf (ds.drop n) (vs.drop n)
 | _,_,0,h=>h
 | [],_,n+1,h=>by cases (show _=[] from h);exact rfl
 | d::ds,_,n+1,⟨v,r,e,t,ts⟩=>by subst e;exact TrL.drop n ts
theorem Bo9 {to ti te:TE}{fo fi fe:Ev->R PV}(ho:ME K to fo)(hi:ME K ti fi)(he:ME K te fe):ME K (tBM K "list" rInsert to (Cj ti (Cj te Fp))) (A9g fo fi fe):=by
 intro β W c σ Q R s
 refine ho.toV β W c σ _ R (s.bnd.mono λp c1 s1 v1 W1 st1 R1 r1=>?_)
 by_cases hs:(slL c1 (nrm p)).isSome=true
 ·rw[if_pos hs]at s1
  refine⟨ty_list R1 hs r1,hi.toV β W1 c1 σ _ R1 (s1.bnd.mono λq c2 s2 v2 W2 st2 R2 r2=>?_)⟩
  cases ey:Uh (Ek c2 (nrm q)) with
  | none=>simp only[ey]at s2;exact s2.elim
  | some k =>
   simp only[ey]at s2
   cases (Du (Gf R2 r2 (Tz ey)))
   refine he.toV β W2 c2 σ _ R2 (s2.bnd.mono λr c3 s3 v3 W3 st3 R3 r3=>?_)
   obtain⟨d,c4,W4,_,s4,e4,st4,R4,t4⟩:=Hy R3 r3 s3.bnd
   cases ex:slL c4 (nrm p) with
   | none=>simp only[ex]at s4;exact s4.elim
   | some x =>
    obtain⟨i,b,ds⟩:=x;simp only[ex]at s4
    by_cases hl:0<=k/\k<=(ds.length:Int)/\ds.length<1000000
    ·rw[if_pos hl]at s4
     obtain⟨ep,hc⟩:=Vg ex;rw[ep]at r1;obtain⟨a,vs,rfl,hH,t,kk⟩:=R4.mut hc r1;have hlen:=TrL.len' t;obtain⟨R5,st5⟩:=kk (Mu ds k.toNat d) (Mu vs k.toNat v3) ((TrL.take _ t).app ⟨_,_,rfl,t4,TrL.drop _ t⟩);rw[<- e4]
     refine⟨a,vs,v3,k.toNat,rfl,by rw[Int.toNat_of_nonneg hl.1],hH,(hlen▸Int.toNat_le.mpr hl.2.1),(by rw[<- hlen];exact hl.2.2),?_⟩
     exact Ag7 R5 (st1.trans (st2.trans (st3.trans (st4.trans st5)))) s4
    ·rw[if_neg hl]at s4;exact s4.elim
 ·rw[if_neg hs]at s1;exact s1.elim
end
end U
set_option autoImplicit true
namespace U
open PySem L2
noncomputable def O5 (c:Ev):List PV->Option (List PyData)
 | []=>some []
 | .o (.im d)::r=>(O5 c r).map (d::·)
 | .sl i::r=>match c[i]? with
  | some (some (.im d))=>(O5 c r).map (d::·)
  | _=>none
 | _=>none
def Lk (F:List PyData->XF)(fa:Ev->R (List PV))(k:O->Ev->XS)(h:Xn->Ev->XS):Ev->XS:=λc=>match fa c with
 | .bad=>.s .bad
 | .ok ps c=>match O5 c ps with
  | none=>.s .bad
  | some ds=>match F ds with
   | .ret (.im d)=>k (.im d) c
   | .ex nm=>h nm c
   | _=>.s .bad
def Ai5 (F:List PyData->XF)(fa:Ev->R (List PV))(j:Nat)(i:Option Nat)(NS:List Str)(fh:Ev->SR):Ev->SR:=λc=>unX (Lk F fa (Bq5 i) (tryH j NS fh) c)
section
variable {K:PySem.W.Frag}{β:Nat->V}{W W':Wo}{c:Ev}{σ σ':St}{D:Ends}{E:XK}{Hf H:Hp}{o:O}{v:V}{fp:List Addr}
theorem Nh (R:Rep K β W c σ):∀{ps:List PV}{vs:List V}{ds:List PyData},zL K W.Hf σ ps vs->O5 c ps=some ds->TrL W.Hf ds vs
 | [],vs,ds,h,e=>by cases (show vs=[] from h);cases e;exact rfl
 | .o (.im d)::r,_,ds,⟨v,vr,rfl,h,t⟩,e=>by
  obtain⟨l,e2,rfl⟩:=Option.map_eq_some_iff.mp (show (O5 c r).map (d::·)=some ds from e)
  exact⟨v,vr,rfl,h,Nh R t e2⟩
 | .sl i::r,_,ds,⟨v,vr,rfl,h,t⟩,e=>by
  unfold O5 at e
  split at e
  ·rename_i d ec
   obtain⟨l,e2,rfl⟩:=Option.map_eq_some_iff.mp e;obtain⟨v',e1,r1,_⟩:=R.get i _ ec
   cases (show some (some v')=some (some v) from e1.symm.trans h)
   exact⟨v,vr,rfl,r1.2,Nh R t e2⟩
  ·cases e
 | .o (.sc _)::r,_,ds,_,e=>by cases e
 | .o (.ls _ _)::r,_,ds,_,e=>by cases e
 | .o (.ty _)::r,_,ds,_,e=>by cases e
theorem Qw {F:List PyData->XF}{m:Ev->R (List PV)}{t:TA}{k:O->Ev->XS}{h:Xn->Ev->XS}{Q:VK}{E':XK}(ha:MA K t m)(R:Rep K β W c σ)(l:LeadX K β W D E (Lk F m k h c))
 (hk:∀o i W2 v,Stp W.S W.Hf W.H W2.S W2.Hf W2.H->Rep K β W2 i σ->LeadX K β W D E (k o i)->Ej K W2 σ (.o o) v []->Q v W2.H)
 (B:∀u i W2 C d,Stp W.S W.Hf W.H W2.S W2.Hf W2.H->Rep K β W2 i σ->LeadX K β W D E (h u i)->XAt K W2.Hf u C d->E' (.ref C) d W2.H) :
 t σ W.H λvs y=>spX K F vs y Q E':=by
 unfold Lk at l
 refine ha _ W c _ _ R ?_
 cases e:m c with
 | bad=>rw[e]at l;exact l
 | ok A i =>
  rw[e]at l;intro vs x L s I
  cases ea:O5 i A with
  | none=>simp only[ea]at l;trivial
  | some H =>
   simp only[ea]at l
   refine⟨x.Hf,H,s.sub,Nh s I ea,?_⟩
   have w:∀{f j:Hp},Stp _ _ _ (λ_=>False) f j->Same _ _->Stp _ _ _ _ _ _/\Rep K _ _ _ _:=λ{f j} g b =>
    ⟨L.trans ⟨g.fz,λa o e _=>g.kp a o e λz=>z,λa o e G _ q=>g.nf a o e G (λz=>z) q,λa z=>.inl z⟩,Stp.rep s g b⟩
   cases ef:F _ with
   | bad=>simp only[ef]at l;trivial
   | ret o =>
    match o,ef with
    | .im d,ef =>
     simp only[ef]at l;intro v f j fp g b r;obtain⟨rfl,J⟩:=r
     obtain⟨n,p⟩:=w (g.less λa z=>nomatch z) b
     exact hk _ _ _ v n p l ⟨⟨rfl,J⟩,λa z=>nomatch z⟩
    | .sc _,ef=>simp only[ef]at l;trivial
    | .ls _ _,ef=>simp only[ef]at l;trivial
    | .ty _,ef=>simp only[ef]at l;trivial
   | ex u =>
    simp only[ef]at l;intro C d f j M g b;obtain⟨n,p⟩:=w g b;exact B _ _ _ C d n p l M
theorem Be7 {F:List PyData->XF}{Fc:Addr}{fa:Ev->R (List PV)}{t:TA}{th:TS}{fh:Ev->SR}{j:Nat}{i:Option Nat}{NS:List Str}
 (hx:∀nm∈NS,∀C,PySem.W.nsIn K mainGlobals nm=some (some (.ref C))->PySem.W.exmOne K (.ref C) (.ref Fc)=some true) (ha:MA K t fa) (hh:MS K th fh):MS K (Br3 K Fc j (spX K F) t i th) (Ai5 F fa j i NS fh):=by
 intro β W c σ D R l
 have l':LeadX K β W D (λ_ _ _=>False) (Lk F fa (Bq5 i) (tryH j NS fh) c):=by
  unfold Ai5 at l
  cases e:Lk F fa (Bq5 i) (tryH j NS fh) c with
  | s r=>rw[e]at l;exact l
  | ex nm c1=>rw[e]at l;exact l.elim
 refine Qw ha R l' (λo c1 W1 v st R3 lk r=>?_) (λnm c1 W1 C d st R3 lk hn=>?_)
 ·cases i with
  | none =>
   exact lk σ W1 st R3
  | some i =>
   refine Al β W1 c1 σ (.o o) v [] D.nx R3 r ((Hr (show zH K β W D _ from lk)).mono λ_ c2 l2 σ2 W2 st2 R2=>?_)
   exact l2 σ2 W2 (st.trans (st2.up λa z=>Qz z)) R2
 ·have lk:zH K β W D (if NS.contains nm.n then match fh (c1.set j (some (.ty (.xc nm)))) with
   | .nx c2=>.nx (c2.set j none)
   | _=>.bad
   else .bad):=lk
  by_cases hc:NS.contains nm.n=true
  ·rw[if_pos hc]at lk
   refine⟨C,rfl,hx nm.n (by simpa using hc) C hn.ns,λa fa0=>?_⟩
   have s4:Stp (λ_=>False) W1.Hf W1.H (λ_=>False) (upd W1.Hf a (Ld a C d)) (upd W1.H a (Ld a C d)):=Stp.newF R3.sub fa0
   have s5:Stp W1.S W1.Hf W1.H (Wo.S ⟨upd W1.Hf a (Ld a C d),upd W1.H a (Ld a C d),W1.fps⟩) (upd W1.Hf a (Ld a C d)) (upd W1.H a (Ld a C d)):=⟨s4.fz,λa o e n=>s4.kp a o e (λz=>z),λa o e mu n q=>s4.nf a o e mu (λz=>z) q,λa z=>.inl z⟩
   have R5:Rep K β ⟨upd W1.Hf a (Ld a C d),upd W1.H a (Ld a C d),W1.fps⟩ c1 σ:=Stp.rep R3 s4 (Nf R3.sub)
   have rn:Ej K ⟨upd W1.Hf a (Ld a C d),upd W1.H a (Ld a C d),W1.fps⟩ σ (.o (.ty (.xc nm))) (.ref a) []:=⟨⟨rfl,a,C,d,rfl,hn.same s4.fz,Ax⟩,λa z=>nomatch z⟩
   refine Al β _ c1 σ (.o (.ty (.xc nm))) (.ref a) [] (λσ2 H3=>th { nx:=λσ2 H3=>D.nx (σ2.set j none) H3,rt:=D.rt } σ2 H3) R5 rn ?_
   show ∀σ' W',_->_->_
   intro σ6 W6 st6 R6
   refine hh β W6 _ σ6 _ R6 ?_
   cases ef:fh (c1.set j (some (.ty (.xc nm)))) with
   | nx c2 =>
    rw[ef]at lk;intro σ7 W7 st7 R7;have R8:=Rep.setU (Rep.drop R7 j)
    refine lk _ ⟨W7.Hf,W7.H,clr W7.fps j⟩ ?_ R8
    refine ((st.trans s5).trans ((st6.up λa z=>by
     rcases z with z | z
     ·exact z
     ·cases z).trans st7)).less λa z=>?_
    obtain⟨k,z⟩:=z;exact⟨k,(El z).1⟩
   | rt p c2=>rw[ef]at lk;exact lk.elim
   | bk c2=>rw[ef]at lk;exact lk.elim
   | ct c2=>rw[ef]at lk;exact lk.elim
   | bad=>rw[ef]at lk;exact lk.elim
  ·rw[if_neg hc]at lk;exact lk.elim
end
def O8:PyData->PyData->Option O:=Ww λi j=>.bool (decide (i<j))
theorem Ar5 : OpS K (rI0 λi j=>.bl (decide (i<j))) O8:=Zw λ_ _ _=>rfl
theorem Bz5 (l:U8 i j=true):CMul i j:=by
 unfold U8 at l;rw[Bool.or_eq_true_iff,Bool.and_eq_true_iff,Bool.and_eq_true_iff]at l
 rcases l with ⟨b,a⟩ | ⟨b,a⟩
 ·exact .inl ⟨of_decide_eq_true b,of_decide_eq_true a⟩
 ·exact .inr ⟨of_decide_eq_true b,of_decide_eq_true a⟩
def K8:PyData->PyData->Option O:=opI U8 λi j=>i*j
theorem Kc : OpS K (rI CMul λi j=>.int (i*j)) K8:=Ax7 λ_ _=>Bz5
noncomputable def Dy:PyData->Option O
 | .list ds=>some (.im (.tuple ds))
 | .tuple ds=>some (.im (.tuple ds))
 | _=>none
theorem Ha : UnS K (λx H Q=>Ig K [x] H Q) Dy:=by
 intro Hf H x d o Q s r e n;unfold Dy at e
 split at e
 ·cases e
  obtain⟨a,b,rfl,c,t⟩:=Iz r
  exact⟨a,b,rfl,.inl ⟨SqL.of c,λl f=>n.tup s t f⟩⟩
 ·cases e
  obtain⟨a,b,rfl,c,t⟩:=Ia s r;exact⟨a,b,rfl,.inr ⟨SqT.of c,n.same s r⟩⟩
 grind
def B0k (K:PySem.W.Frag):R2:=λx y H Q=>Bw6 K x y H Q\/Bq4 K x y H Q
def Aq:PyData->PyData->Option O
 | .list ds,.int i=>(atI ds i).map O.im
 | .tuple ds,.int i=>(atI ds i).map O.im
 | _,_=>none
theorem Bp : OpS K (B0k K) Aq:=by
 intro Hf H x y dx dy o Q s i j e n;unfold Aq at e
 split at e
 ·obtain⟨d,g,rfl⟩:=Option.map_eq_some_iff.mp e
  obtain⟨a,c,rfl,f,t⟩:=Iz i;obtain⟨v,h,b⟩:=A7u t g;exact .inl ⟨a,c,_,v,rfl,Du j,SqL.of f,h,n.same s b⟩
 ·obtain⟨d,g,rfl⟩:=Option.map_eq_some_iff.mp e
  obtain⟨a,c,rfl,f,t⟩:=Ia s i;obtain⟨v,h,b⟩:=A7u t g;exact .inr ⟨a,c,_,v,rfl,Du j,SqT.of f,h,n.same s b⟩
 grind
end U
namespace L2
open PySem
section
variable {X:Cx}{a b:Expr}{ta tb:TE}{pos:Pos}
theorem Ce (c:X.K=Kq) (ha:QE X a ta) (hb:QE X b tb) (hs:Lh b):QE X (.Subscript a b pos) (tOp (U.B0k Kq) ta tb):=by
 subst c;exact Bj3 (IxR.or ix_list ix_tup) ha hb hs
end
end L2
namespace U
open PySem L2 PySem.W
def A2w (F:List O->FR)(js:List Nat)(d:PyData)(c:Ev):R PyData:=(S7 F (.o (.im d)::js.map PV.sl) c).bind λp c=>match p with
 | .o (.im k)=>.ok k c
 | _=>.bad
def Ur (F:List O->FR)(js:List Nat):List PyData->Ev->R (List PyData)
 | [],c=>.ok [] c
 | d::ds,c=>(A2w F js d c).bind λk c=>(Ur F js ds c).bind λks c=>.ok (k::ks) c
def Av5 (F:List O->FR)(js:List Nat)(fa:Ev->R PV):Ev->R PV:=λc=>(fa c).bind λp c=>match (Ek c (nrm p)).bind Lq with
 | none=>.bad
 | some ds=>(Ur F js ds c).bind λks c=>match A7c ds ks with
  | none=>.bad
  | some out=>.ok (.o (.ls false out)) c
section
variable {K:PySem.W.Frag}{β:Nat->V}{W W':Wo}{c c':Ev}{σ:St}{Hf H:Hp}
def Bv8 (K:PySem.W.Frag)(te:TE)(F:List O->FR):Prop:=∀(vs:List V) (H:Hp) (Q:VK),spP K F vs H Q E0->te (vs.map some) H Q
theorem Bg5 {n:Nat}{b:TE}{c:Ev->R PV}(h:ME K b c)(N:List Str)(hN:N.length=n):Bv8 K b (Gg n N.length (Cr c)):=by
 intro a H Q d;have f:=Dz d;have:=Ea (Az h) d
 have e:start N a=a.map some:=by
  show a.map _++List.replicate _ _=_
  simp_all
 rw[e]at this
 trivial
theorem Ax1 (R:Rep K β W c σ):∀{js:List Nat}{as:List O},Sh c (js.map PV.sl)=some as->∃cvs,zL K W.Hf σ (js.map PV.sl) cvs/\cst (js.map some) σ=cvs.map some
 | [],as,e=>⟨[],rfl,rfl⟩
 | j::js,as,e=>by
  have e:Sh c (.sl j::js.map PV.sl)=some as:=e;unfold Sh at e
  cases ec:c[j]? with
  | none=>simp only[ec]at e;cases e
  | some x =>
   cases x with
   | none=>simp only[ec]at e;cases e
   | some o1 =>
    simp only[ec]at e;obtain⟨l,e2,rfl⟩:=Option.map_eq_some_iff.mp e;obtain⟨cvs,r,q⟩:=Ax1 R e2;obtain⟨v,e1,_⟩:=R.get j o1 ec
    refine⟨v::cvs,⟨v,cvs,rfl,e1,r⟩,?_⟩
    show ((some j).bind λi=>(σ[i]?).join)::cst (js.map some) σ=_
    rw[q]
    show (σ[j]?).join::_=_
    rw[e1];rfl
theorem Aj3 {F:List O->FR}{te:TE}{js:List Nat}(hF:Bv8 K te F){Q:List V->Hp->Prop}:∀(ds:List PyData) (vs:List V) (kd:List PyData) (kv:List V) (W:Wo) (c:Ev),Rep K β W c σ->TrL W.Hf ds vs->TrL W.Hf kd kv ->
 ((Ur F js ds c).sat λks c'=>∀W' kv',Stp W.S W.Hf W.H W'.S W'.Hf W'.H->Rep K β W' c' σ->TrL W'.Hf (kd++ks) kv'->Q kv' W'.H)->Ux (λx H Q=>te (some x::cst (js.map some) σ) H Q) vs kv W.H Q
 | [],vs,kd,kv,W,c,R,t,tk,h=>by
  cases (show vs=[] from t)
  exact h W kv Stp.refl R (by rw[List.append_nil];exact tk)
 | d::ds,vs,kd,kv,W,c,R,⟨v,r,ev,t,ts⟩,tk,h=>by
  subst ev
  have h:((A2w F js d c).bind λk c=>(Ur F js ds c).bind λks c=>U.R.ok (k::ks) c).sat _:=h
  have h:=h.bnd;unfold A2w at h;have h:=h.bnd
  cases ea:Sh c (js.map PV.sl) with
  | none =>
   have:S7 F (.o (.im d)::js.map PV.sl) c=.bad:=by
    unfold S7;simp only[Sh,ea,Option.map_none]
   rw[this]at h;exact h.elim
  | some as =>
   obtain⟨cvs,rc,ec⟩:=Ax1 R ea
   show te (some v::cst (js.map some) σ) W.H _
   rw[ec]
   refine hF (v::cvs) W.H _ ?_
   have hs:spP K F ((v::cvs)++[]) W.H (λkv1 H1=>Ux (λx H Q=>te (some x::cst (js.map some) σ) H Q) r (kv++[kv1]) H1 Q) E0:=by
    refine Xp (ps:=.o (.im d)::js.map PV.sl) R ⟨v,cvs,rfl,t,rc⟩ (h.mono λp c1 h1 v' W' fp st R' rp=>?_)
    cases p with
    | sl i=>exact h1.elim
    | o o =>
     cases o with
     | im k =>
      obtain⟨⟨rfl,tv⟩,_⟩:=rp
      have st:Stp W.S W.Hf W.H W'.S W'.Hf W'.H:=st.less λa z=>.inl z
      refine Aj3 hF ds r (kd++[k]) (kv++[v']) W' c1 R' (TrL.same st.fz ts) ((TrL.same st.fz tk).app (TrL.one tv)) (h1.bnd.mono λks c2 h2 W2 kv' st2 R2 t2=>?_)
      exact h2 W2 kv' (st.trans st2) R2 (by rw[List.append_assoc]at t2;exact t2)
     | ls b ds=>exact h1.elim
     | sc d=>exact h1.elim
     | ty d=>exact h1.elim
   rw[List.append_nil,ec]at hs;exact hs
theorem A6f {d:Hp}(R:Rep K β W c σ)(h:Br2 W.H d):∃W2:Wo,W2.H=d/\Stp W.S W.Hf W.H W2.S W2.Hf W2.H/\Rep K β W2 c σ:=by
 rcases h with rfl | ⟨a,o,e,rfl⟩
 ·exact⟨W,rfl,Stp.refl,R⟩
 ·have b:=Stp.newF (o:=.frz o (.own 0)) R.sub e
  refine⟨⟨upd _ a _,upd _ a _,W.fps⟩,rfl,?_,b.rep R (Nf R.sub)⟩
  exact((b.more ).up λa z=>z.elim (λz=>z.elim) id).less λa z=>.inr z
theorem Bf3 {F:List O->FR}{js:List Nat}{E G:TE}{fa:Ev->R PV}(ha:ME K G fa)(hF:Bv8 K E F):ME K (A3p K (js.map some) E (Cj G Fp)) (Av5 F js fa):=by
 intro β W c U Q R s
 refine ha.toV β W c U _ R (s.bnd.mono λp c1 m v1 n u w Z=>?_)
 cases ed:(Ek c1 (nrm p)).bind Lq with
 | none=>simp only[ed]at m;exact m.elim
 | some r =>
  simp only[ed]at m;obtain⟨d,e1,A⟩:=Option.bind_eq_some_iff.mp ed
  obtain⟨a,f,rfl,sq,t⟩:∃a f,v1=.ref a/\(n.H a=some (.lst f)\/n.H a=some (.tup f))/\TrL n.Hf r f:=by
   have L:=Gf w Z e1
   cases d with
   | list M =>
    cases A
    obtain⟨a,f,e,h,t⟩:=Iz L;exact⟨a,f,e,.inl h,t⟩
   | tuple M =>
    cases A
    obtain⟨a,f,e,h,t⟩:=Ia w.sub L;exact⟨a,f,e,.inr h,t⟩
   | _=>cases A
  refine⟨a,f,rfl,λH2 H=>?_⟩
  obtain⟨W0,rfl,i,R0⟩:=A6f w H
  have I:Same n.H W0.H:=by
   rcases H with e | ⟨b,o,P,e⟩
   ·rw[e];exact Same.refl _
   ·rw[e];exact Ca P
  refine⟨sq.imp (λh=>SqL.of (I _ _ h)) (λh=>SqT.of (I _ _ h)),?_⟩
  refine Aj3 hF _ _ [] _ _ _ R0 (TrL.same i.fz t) rfl (m.bnd.mono λk c2 l X kv x y t2=>?_)
  cases ek:A7c r k with
  | none=>simp only[ek]at l;exact l.elim
  | some z =>
   simp only[ek]at l;have g:=i.trans x;have t:=TrL.same g.fz t;have N:=TrL.len' t
   have j:∀(C:List _) (B:List V),C=z->TrL _ C B->∀q,X.H q=none->Q (.ref q) (upd _ q (.lst B)):=λC B e T q Y=>by
    subst e
    exact New.lst (New.of y λv W' fp st R' rp=>l v _ _ (u.trans (g.trans st)) R' rp) y.sub T Y
   unfold A7c at ek
   by_cases h2:r.length<2
   ·rw[if_pos h2]at ek
    cases ek
    exact .inl ⟨by omega,j _ _ rfl t⟩
   ·rw[if_neg h2]at ek
    by_cases hb:(decide (r.length<64)&&(k.all (Nv (kdOf k))&&k.all Dr))=true
    ·rw[if_pos hb]at ek
     obtain⟨J,D⟩:=Bool.and_eq_true_iff.mp hb;obtain⟨D,b3⟩:=Bool.and_eq_true_iff.mp D;have J:=of_decide_eq_true J;obtain⟨pm,q1,q2⟩:=Option.map_eq_some_iff.mp ek
     refine .inr ⟨by omega,by omega,k,kdOf _,pm,TrL.same y.sub t2,D,λd S=>Il (List.all_eq_true.mp b3 d S),by rw[<- N];exact q1,j _ _ q2 (TrL.pick t _)⟩
    ·rw[if_neg hb]at ek;cases ek
end
section
variable {K:PySem.W.Frag}{W:Wo}{c:Ev}
def cFz (f:Ev->R PV):Ev->R PV:=λc=>(f c).bind λp c=>(frz (nrm p) c).bind λd c=>.ok (.o (.im d)) c
theorem N6 (h:ME K t f):ME K t (cFz f):=by
 intro y W c x Q R s
 refine h.toV _ W c _ Q R (s.bnd.mono λp n j v u e i k=>?_)
 obtain⟨d,o,r,_,l,w,b,m,g⟩:=Hy i k j.bnd
 have q:=l v _ [] ((e.trans b).less λa z=>z.elim id λz=>nomatch z) m ⟨⟨rfl,g⟩,λa z=>nomatch z⟩
 grind
end
def U4:PyData->Bool
 | .tuple ds=>Gq ds&&PyData.canLayAll0 ds&&decide (PyData.depthAll ds<=6)
 | _=>false
theorem Nk (h:U4 k=true):Bk6 k/\∃a,k=.tuple a:=by
 cases k with
 | tuple a =>
  obtain⟨c,d⟩:=Bool.and_eq_true_iff.mp (show (Gq _&&PyData.canLayAll0 _&&decide _)=true from h)
  obtain⟨e,b⟩:=Bool.and_eq_true_iff.mp c;exact⟨⟨e,b,Nat.succ_le_succ (of_decide_eq_true d)⟩,a,rfl⟩
 | _=>cases h
mutual
theorem A6t {H:Hp}:∀{d:PyData}{v:V},keyB d=true->Tr H d v->KTr H d v
 | .none,_,_,h=>h
 | .int _,_,_,h=>h
 | .str _,_,_,h=>h
 | .tuple ds,_,k,⟨a,vs,e,ha,t⟩=>⟨a,vs,e,ha,Au7 k t⟩
theorem Au7 {H:Hp}:∀{ds:List PyData}{vs:List V},Gq ds=true->TrL H ds vs->KTrL H ds vs
 | [],_,_,h=>h
 | d::ds,_,k,⟨v,r,e,h,t⟩=>by
  obtain⟨k1,k2⟩:=Bool.and_eq_true_iff.mp (show (keyB d&&Gq ds)=true from k)
  exact⟨v,r,e,A6t k1 h,Au7 k2 t⟩
end
theorem Bq8 (h:U4 k=true) (t:Tr H k v):∃b,v=.ref b/\KAt H k b:=by
 obtain⟨c,ds,rfl⟩:=Nk h;obtain⟨a,d,rfl,f,e⟩:=t;exact⟨a,rfl,c,A6t c.1 ⟨a,d,rfl,f,e⟩⟩
inductive DE where
 | d (x:PyData)
 | l (xs:List PyData)
noncomputable def DE.dat:DE->PyData
 | .d x=>x
 | .l xs=>.list xs
inductive BR where
 | nx (c:Ev) (ks:List PyData) (es:List DE)
 | bad
abbrev BF:=Ev->List PyData->List DE->BR
noncomputable def Qg (k:PyData):List PyData->Option Nat
 | []=>none
 | x::r=>if PyData.eqv x k=true then some 0 else (Qg k r).map (·+1)
noncomputable def Fb (d:Nat) (c:Ev):Bool:=match c[d]? with
 | some none=>true
 | _=>false
theorem Np (h:Fb d c=true):c[d]?=some none:=by
 unfold Fb at h
 grind
noncomputable def R.toB {α:Type} (r:R α) (k:α->Ev->BR):BR:=match r with
 | .ok a c=>k a c
 | .bad=>.bad
def DE1 (Hf H:Hp):DE->V->List Addr->Prop
 | .d x,v,fp=>fp=[]/\Tr Hf x v
 | .l xs,v,fp=>∃b us,v=.ref b/\fp=[b]/\H b=some (.lst us)/\TrL Hf xs us
def DX (a:Addr)(X:Nat->List Addr)(b:Addr):Prop:=b=a\/∃j,b∈X j
structure DB (W:Wo) (a:Addr) (ks:List PyData) (es:List DE) (X:Nat->List Addr):Prop where
 at_:∃vs,W.H a=some (.dT (ks.zip vs))/\ks.length=vs.length/\es.length=vs.length/\∀j e,es[j]?=some e->∃v,vs[j]?=some v/\DE1 W.Hf W.H e v (X j)
 fr:∀b,DX a X b->W.Hf b=none/\¬ W.S b
 dis:∀i j b,b∈X i->b∈X j->i=j
 na:∀j,a∉X j
 mu:∀b,DX a X b->∃o,W.H b=some o/\Mut (some o)
 out:∀j,es.length<=j->X j=[]
 ky:∀k∈ks,U4 k=true
 nd:ks.Nodup
abbrev orX (S:Addr->Prop)(a:Addr)(X:Nat->List Addr):Addr->Prop:=λb=>S b\/DX a X b
def zN (K:PySem.W.Frag)(β:Nat->V)(W:Wo)(D:Ends)(d:Nat)(a:Addr)(X:Nat->List Addr):BR->Prop
 | .nx c' ks' es'=>∀σ' W' X',Stp (orX W.S a X) W.Hf W.H (orX W'.S a X') W'.Hf W'.H->Rep K β W' c' σ'->c'[d]?=some none->σ'[d]?=some (some (.ref a))->DB W' a ks' es' X'->D.nx σ' W'.H
 | .bad=>False
def MB (K:PySem.W.Frag)(d:Nat)(T:TS)(F:BF):Prop:=∀(β:Nat->V) (W:Wo) (c:Ev) (σ:St) (D:Ends) (a:Addr) (ks:List PyData) (es:List DE) (X:Nat->List Addr),Rep K β W c σ->c[d]?=some none->σ[d]?=some (some (.ref a))->DB W a ks es X ->
 zN K β W D d a X (F c ks es)->T D σ W.H
section
variable {K:PySem.W.Frag}{β:Nat->V}{W W1:Wo}{c:Ev}{σ σ':St}{Hf H:Hp}{a:Addr}{ks:List PyData}{es:List DE}{X X':Nat->List Addr}{d:Nat}{D:Ends}{fp:List Addr}
theorem DE1.step {a H':Hp}(h:DE1 Hf H e v fp) (s:Same Hf a) (k:∀b∈fp,H' b=H b):DE1 a H' e v fp:=by
 cases e with
 | d x=>exact⟨h.1,Tr.same s h.2⟩
 | l i =>
  obtain⟨b,c,g,f,j,t⟩:=h
  exact⟨b,c,g,f,by grind,TrL.same s t⟩
theorem DB.step (h:DB W a ks es X) (st:Stp W.S W.Hf W.H S2 W1.Hf W1.H) (g:∀b,W1.S b->S2 b):DB W1 a ks es X:=by
 have d:∀b,DX a X b->W1.H b=W.H b:=λb c=>by
  obtain⟨o,e,_⟩:=h.mu b c;rw[e];exact st.kp b o e (h.fr b c).2
 obtain⟨i,s,l,m,k⟩:=h.at_
 refine⟨⟨i,by rw[d a (.inl rfl)];omega,l,m,λj e p=>?_⟩,λb c=>⟨?_,λz=>?_⟩,h.dis,h.na,λb c=>?_,h.out,h.ky,h.nd⟩
 ·obtain⟨v,n,r⟩:=k j e p
  exact⟨v,n,r.step st.fz λb c=>d b (.inr ⟨j,c⟩)⟩
 ·obtain⟨o,e,f⟩:=h.mu b c
  exact st.nf b o e f (h.fr b c).2 (h.fr b c).1
 ·obtain⟨o,e,_⟩:=h.mu b c
  rcases st.fr b (g b z) with q | q
  ·exact(h.fr b c).2 q
  simp_all
 ·obtain⟨o,e,f⟩:=h.mu b c
  simp_all
theorem Stp.moreX (x:Stp S Hf H S' b H'):Stp (orX S a X) Hf H (orX S' a X) b H':=Stp.more x
theorem zN.step (h:zN K β W D d a X r) (st:Stp (orX W.S a X) W.Hf W.H (orX W1.S a X') W1.Hf W1.H):zN K β W1 D d a X' r:=by
 cases r with
 | nx c j k=>exact λf l m b R g i e=>h _ _ _ (st.trans b) R g i e
 | bad=>exact h
theorem Ml {r:R b}{k:b->Ev->BR}(h:zN K β W D d a X (r.toB k)):r.sat λx c=>zN K β W D d a X (k x c):=by
 cases r with
 | ok x c=>exact h
 | bad=>exact h
def GFr (d:Nat)(g:TG):Prop:=∀v σ H k,g v σ H (λσ' H'=>σ'[d]?=σ[d]?->k σ' H')->g v σ H k
def A9d (d:Nat)(g:TGs):Prop:=∀vs σ H k,g vs σ H (λσ' H'=>σ'[d]?=σ[d]?->k σ' H')->g vs σ H k
theorem Ae4 (h:i≠d):GFr d (M4 i):=λv a H k q=>q (List.getElem?_set_ne h)
theorem A9w:A9d d A3y:=λb a H k q=>⟨q.1,q.2 rfl⟩
def A4v (g:TG):Prop:=∀v σ H k k',g v σ H k->(∀σ' H',k σ' H'->k' σ' H')->g v σ H k'
def Zj (g:TGs):Prop:=∀vs σ H k k',g vs σ H k->(∀σ' H',k σ' H'->k' σ' H')->g vs σ H k'
theorem Oe : A4v (M4 i):=λv b H k a h f=>f _ _ h
theorem Xx:Zj A3y:=λb c H k a h f=>⟨h.1,f _ _ h.2⟩
theorem An1 (h1:A4v t) (h2:Zj u):Zj (Yk t u):=λg c H k d ⟨v,r,e,q⟩ f=>⟨v,r,e,h1 _ _ _ _ _ q λa b q=>h2 _ _ _ _ _ q f⟩
theorem Ah6 (h1:GFr d t) (b:A4v t) (h2:A9d d u) (f:Zj u):A9d d (Yk t u):=λi j H k ⟨v,r,e,q⟩ =>
 ⟨v,r,e,h1 v _ H _ (b _ _ _ _ _ q λg l q c=>h2 r _ _ k (f _ _ _ _ _ q λh m q a=>q (a.trans c)))⟩
theorem Bi9 (h:A9d d u):GFr d (A6l K n u):=λv b H k ⟨p,a,e,s,l,q⟩=>⟨p,a,e,s,l,h _ _ H k q⟩
def V2 (g:PV->Ev->R Unit)(F:BF):List PyData->BF
 | [],c,ks,es=>.nx c ks es
 | x::xs,c,ks,es=>(g (.o (.im x)) c).toB λ_ c=>if Fb d c=true then match F c ks es with
  | .nx c ks es=>V2 g F xs c ks es
  | .bad=>.bad
  else .bad
def A9o (fi:Ev->R (List PyData))(g:PV->Ev->R Unit)(F:BF):BF:=λc ks es=>(fi c).toB λds c=>if Fb d c=true then V2 (d:=d) g F ds c ks es else .bad
theorem Bq6 (hi:MI K wi fi) (hg:MG K t g) (hf:GFr d t) (hb:MB K d tb F):MB K d (Bn4 wi t tb) (A9o (d:=d) fi g F):=by
 intro A W c C D a ks V X R hc hs hd l
 refine hi A W c C _ R ((Ml l).mono λf c1 O J U L R1 it=>?_)
 by_cases z1:Fb d c1=true
 ·rw[if_pos z1]at O
  have Z:=hd.step L λ_ z=>z
  refine⟨λi m C H=>∃b j B r u,b.H=H/\Rep K A b j C/\m=f.length-i/\i<=f.length/\Same U.Hf b.Hf/\j[d]?=some none/\C[d]?=some (some (.ref a))/\DB b a B r u/\zN K A b D d a u (V2 (d:=d) g F (f.drop i) j B r),
   ⟨_,U,c1,ks,V,X,rfl,R1,rfl,Nat.zero_le _,Same.refl _,Np z1,hs,Z,zN.step O L.moreX⟩,?_⟩
  rintro i m C H ⟨b,j,B,r,u,rfl,R2,rfl,hle,sm,T,G,I,E⟩
  obtain⟨v,Y⟩:=it i b.Hf b.H sm R2.sub
  by_cases lt:i<f.length
  ·obtain⟨q1,q2⟩:=Y f[i] (List.getElem?_eq_getElem lt)
   refine .inr ⟨q1,λw p=>∃b j B r u,b.H=p/\Rep K A b j w/\Same U.Hf b.Hf/\j[d]?=some none/\w[d]?=some (some (.ref a))/\DB b a B r u/\zN K A b D d a u (V2 (d:=d) g F (f.drop (i+1)) j B r),
    λw p ⟨W3,c3,k3,e3,X3,y1,S,s3,y2,y3,y4,k⟩=>⟨f.length-(i+1),by omega,W3,c3,k3,e3,X3,y1,S,rfl,by omega,s3,y2,y3,y4,k⟩,λx p hy=>?_⟩
   obtain⟨s,n,M,tx⟩:=q2 x p hy;have S:=n.rep R2 M
   have Q:Stp b.S b.Hf b.H (Wo.S ⟨s,p,b.fps⟩) s p:=⟨n.fz,λa o e _=>n.kp a o e λz=>z,λa o e mu _ q=>n.nf a o e mu (λz=>z) q,λa z=>.inl z⟩
   rw[M5 lt]at E
   have E:zN K A b D d a u ((g (.o (.im f[i])) j).toB λ_ c=>if Fb d c=true then match F c B r with
    | .nx c ks V=>V2 (d:=d) g F (f.drop (i+1)) c ks V
    | .bad=>.bad
    else .bad):=E
   refine hf _ _ _ _ (hg A ⟨s,p,b.fps⟩ j C (.o (.im f[i])) x [] _ S ⟨⟨rfl,tx⟩,λa z=>nomatch z⟩ ((Ml E).mono λ_ c3 k σ3 W3 y R3' es3=>?_))
   have y:=y.up λa z=>by
    rcases z with z | z
    ·exact z
    ·cases z
   have h:=Q.trans y
   by_cases z3:Fb d c3=true
   ·rw[if_pos z3]at k
    refine hb _ _ _ _ _ a _ _ _ R3' (Np z3) (es3.trans G) (I.step h λ_ z=>z) ?_
    cases eb:F _ _ _ with
    | bad=>rw[eb]at k;exact k.elim
    | nx c4 k4 e4 =>
     rw[eb]at k
     exact λσ4 W4 X4 N R4 hc4 hs4 P=>⟨W4,c4,k4,e4,X4,rfl,R4,sm.trans (h.fz.trans N.fz),hc4,hs4,P,zN.step k (h.moreX.trans N)⟩
   ·rw[if_neg z3]at k;exact k.elim
  ·have e:i=f.length:=by omega
   subst e;rw[List.drop_length]at E;exact .inl ⟨v rfl,E _ _ _ Stp.refl R2 T G I⟩
 ·rw[if_neg z1]at O;exact O.elim
end
theorem Rn {k:PyData}(hk:U4 k=true):∀{ks:List PyData}{vs:List V}{j:Nat},(∀x∈ks,U4 x=true)->ks.length=vs.length->Qg k ks=some j->ks[j]?=some k/\Qu (ks.zip vs) k=vs[j]?
 | [],_,_,_,_,e=>nomatch e
 | x::ks,[],_,_,l,_=>nomatch l
 | x::ks,v::vs,j,hx,l,e=>by
  have b:=(Nk (hx x List.mem_cons_self)).1.1;have b2:=(Nk hk).1.1
  have e:(if PyData.eqv x k=true then some 0 else (Qg k ks).map (·+1))=some j:=e
  by_cases h:PyData.eqv x k=true
  ·rw[if_pos h]at e;cases e
   have:=(Pr x k b b2).mp h;subst this;exact⟨rfl,Ae8 rfl⟩
  ·rw[if_neg h]at e
   obtain⟨i,e1,rfl⟩:=Option.map_eq_some_iff.mp e
   obtain⟨q1,q2⟩:=Rn hk (vs:=vs) (λy hy=>hx y (List.mem_cons_of_mem _ hy)) (Nat.succ.inj l) e1
   refine⟨by simpa using q1,?_⟩
   rw[List.zip_cons_cons,Vd (λq=>h ((Pr x k b b2).mpr q)),q2];rfl
theorem Nb {k:PyData}(hk:U4 k=true):∀{ks:List PyData}{vs:List V},(∀x∈ks,U4 x=true)->Qg k ks=none->k∉ks/\Qu (ks.zip vs) k=none
 | [],vs,_,_=>⟨(λh=>nomatch h),rfl⟩
 | x::ks,vs,hx,e=>by
  have b:=(Nk (hx x List.mem_cons_self)).1.1;have b2:=(Nk hk).1.1
  have e:(if PyData.eqv x k=true then some 0 else (Qg k ks).map (·+1))=none:=e
  by_cases h:PyData.eqv x k=true
  ·rw[if_pos h]at e;cases e
  ·rw[if_neg h]at e
   have e1:Qg k ks=none:=by
    cases q:Qg k ks with
    | none=>rfl
    | some i=>rw[q]at e;cases e
   have ne:x≠k:=λq=>h ((Pr x k b b2).mpr q)
   refine⟨λm=>?_,?_⟩
   ·rcases List.mem_cons.mp m with m | m
    ·exact ne m.symm
    ·exact(Nb (vs:=[]) hk (λy hy=>hx y (List.mem_cons_of_mem _ hy)) e1).1 m
   ·cases vs with
    | nil=>rfl
    | cons v vs =>
     rw[List.zip_cons_cons,Vd ne]
     exact(Nb hk (λy hy=>hx y (List.mem_cons_of_mem _ hy)) e1).2
section
variable {K:PySem.W.Frag}{β:Nat->V}{W:Wo}{c:Ev}{σ:St}{Hf H:Hp}{a:Addr}{ks:List PyData}{es:List DE}{X X':Nat->List Addr}{d:Nat}
theorem Am3 (R:Rep K β W c σ)(hd:DB W a ks es X) (f:∀b,H' b=W.H b\/DX a X b\/W.H b=none) (h:∀b,DX a X' b->DX a X b\/W.H b=none) :
 Rep K β ⟨W.Hf,H',W.fps⟩ c σ/\Stp (orX W.S a X) W.Hf W.H (orX (Wo.S ⟨W.Hf,H',W.fps⟩) a X') W.Hf H':=by
 refine⟨R.frame (Same.refl _) (λb u e=>?_) λb g=>?_,⟨Same.refl _,λb o e n=>?_,λb o _ _ _ q=>q,λb z=>?_⟩⟩
 ·rcases f b with q | q | q
  ·rw[q];exact R.sub b u e
  ·rw[(hd.fr b q).1]at e;grind
  ·rw[R.notF q]at e;grind
 ·obtain⟨i,d⟩:=g
  obtain⟨z,o,e,_⟩:=R.own i b d
  refine⟨z,?_⟩
  rcases f b with q | q | q
  ·omega
  ·exact absurd ⟨i,d⟩ (hd.fr b q).2
  grind
 ·grind
 ·rcases z with z | z
  ·exact .inl (.inl z)
  grind
end
section
variable {K:PySem.W.Frag}{β:Nat->V}{W W1:Wo}{c:Ev}{σ:St}{Hf H:Hp}{a:Addr}{ks:List PyData}{es:List DE}{X X':Nat->List Addr}{d:Nat}{D:Ends}
noncomputable def B2t:Option DE->Option (List PyData)
 | some (.l xs)=>some xs
 | _=>none
def Rq (ks:List PyData)(es:List DE)(k:PyData):List PyData×List DE×Nat:=match Qg k ks with
 | some j=>(ks,es,j)
 | none=>(ks++[k],es++[.l []],ks.length)
def A9y (fk fv:Ev->R PV):BF:=λc ks es=>(fk c).toB λp c=>match Ek c (nrm p) with
 | some k=>if (U4 k&&decide (ks.length<16000000))=true then match B2t ((Rq ks es k).2.1[(Rq ks es k).2.2]?) with
  | some xs=>(fv c).toB λq c=>(frz (nrm q) c).toB λx c=>if (decide (xs.length<16000000)&&Fb d c)=true then .nx c (Rq ks es k).1 ((Rq ks es k).2.1.set (Rq ks es k).2.2 (.l (xs++[x]))) else .bad
  | none=>.bad
  else .bad
 | none=>.bad
theorem Ag8 (he:ME K P fe) (R:Rep K β W c σ) (hs:σ[d]?=some (some (.ref a))) (hd:DB W a ks es X) (H:es[j]?=some (.l xs)) (hl:X j=[l])
 (L:zN K β W D d a X ((fe c).toB λq c=>(frz (nrm q) c).toB λx c=>if (decide (xs.length<16000000)&&Fb d c)=true then .nx c ks (es.set j (.l (xs++[x]))) else .bad)) :
 tyV K "list" (.ref l) W.H/\Cj P Fp σ W.H λxs H2=>rAppF (.ref l) xs H2 λ_ C=>D.nx σ C:=by
 have g:∀{W:Wo},DB W a ks es X->∃h,W.H l=some (.lst h)/\TrL W.Hf xs h:=λ{W} hd=>by
  obtain⟨Q,O,T,J,s⟩:=hd.at_;obtain⟨v,y,b,h,rfl,k,N,I⟩:=s j _ H;rw[hl]at k
  cases k
  exact⟨h,N,I⟩
 obtain⟨E,h0,_⟩:=g hd
 refine⟨.inl ⟨rfl,E,SqL.of h0⟩,?_⟩
 refine he.toV β W c σ _ R ((Ml L).mono λq c1 V v W1 A R1 r1=>?_)
 obtain⟨x,c2,G,_,r,e2,B,Y,Z⟩:=Hy R1 r1 (Ml V);have M:=A.trans B
 have f:=hd.step M λ_ z=>z
 obtain⟨h,h2,t⟩:=g f
 by_cases p:(decide (xs.length<16000000)&&Fb d c2)=true
 ·rw[if_pos p]at r
  obtain⟨m,F⟩:=Bool.and_eq_true_iff.mp p;have m:=of_decide_eq_true m
  show rAppF (.ref l) [v] W1.H λ_ C=>D.nx σ C
  rw[<- e2]
  refine⟨l,v,h,rfl,rfl,h2,by rw[<- t.length];exact Nat.lt_of_lt_of_le m (by decide),?_⟩
  have lX:DX a X l:=.inr ⟨j,by rw[hl];exact .head _⟩
  have la:l≠a:=λz=>f.na j (by rw[hl,<- z];exact .head _)
  have n:=Am3 (X':=X) Y f (H':=upd G.H l (.lst (h++[v]))) (λb=>by
   by_cases z:b=l
   ·rw[z];exact .inr (.inl lX)
   ·exact .inl (Ag z)) (λb z=>.inl z)
  obtain⟨Q,O,T,J,s⟩:=f.at_;have hj:j<es.length:=(List.getElem?_eq_some_iff.mp H).1
  refine r σ ⟨G.Hf,_,G.fps⟩ X (M.moreX.trans n.2) n.1 (Np F) hs ⟨⟨Q,by show upd _ l _ a=_;rw[Ag (Ne.symm la)];exact O,T,by rw[List.length_set];exact J,λi e w=>?_⟩,f.fr,f.dis,f.na,λb z=>?_,λi S=>f.out i (by rw[List.length_set]at S;exact S),f.ky,f.nd⟩
  ·by_cases z:i=j
   ·subst z
    rw[List.getElem?_set_self hj]at w
    cases w
    obtain⟨v0,y,b,us1,rfl,k,N,I⟩:=s i _ H;rw[hl]at k
    cases k
    exact⟨_,y,l,h++[v],rfl,hl,Ax,t.app (TrL.one Z)⟩
   ·rw[List.getElem?_set_ne (Ne.symm z)]at w
    obtain⟨u,y,k⟩:=s i e w
    exact⟨u,y,k.step (Same.refl _) λb p=>Ag λq=>z (f.dis i j b p (by rw[hl,q];exact .head _))⟩
  ·by_cases q:b=l
   ·rw[q];exact⟨_,Ax,trivial⟩
   ·obtain⟨o,e,U⟩:=f.mu b z
    exact⟨o,by show upd _ l _ b=_;rw[Ag q];exact e,U⟩
 ·rw[if_neg p]at r;exact r.elim
theorem Bo5 (hk:ME K ty fk) (he:ME K te fe):MB K d (A8m (tBM K "list" rAppF (Bk0 (Va d) ty (Bv0 Fp)) (Cj te Fp))) (A9y (d:=d) fk fe):=by
 intro β W c σ D a m F X R hc hs hd l
 refine⟨_,hs,a,rfl,.inr (let ⟨C,q,_⟩:=hd.at_; ⟨_,.inl q⟩),?_⟩
 refine hk.toV β W c σ _ R ((Ml l).mono λp c1 r y s J P r1=>?_)
 refine⟨show 0<=sizeLine from Nat.zero_le _,λg n=>?_⟩
 have f:=hd.step J λ_ z=>z
 cases ek:Ek c1 (nrm p) with
 | none=>simp only[ek]at r;exact r.elim
 | some k =>
  simp only[ek]at r
  by_cases I:(U4 k&&decide (m.length<16000000))=true
  ·rw[if_pos I]at r
   obtain⟨t,N⟩:=Bool.and_eq_true_iff.mp I;have N:=of_decide_eq_true N;obtain⟨_,kd,ekd⟩:=Nk t
   have tk:Tr s.Hf k y:=by rw[ekd]at ek ⊢;exact Gf P r1 ek
   obtain⟨b,rfl,kb⟩:=Bq8 t tk;obtain⟨C,q1,B,q3,q4⟩:=f.at_
   have zl:(m.zip C).length<sizeLine:=by rw[List.length_zip,<- B,Nat.min_self];exact Nat.lt_of_lt_of_le N (by decide)
   have S:a≠g:=λz=>by rw[<- z,q1]at n;cases n
   have A:∀b,DX a X b->b≠g:=λb z q=>by
    obtain⟨o,e,_⟩:=f.mu b z;rw[q,n]at e;cases e
   have G:=Am3 (X':=X) P f (H':=upd s.H g (.lst [])) (λb=>by
    by_cases z:b=g
    ·rw[z];exact .inr (.inr n)
    ·exact .inl (Ag z)) (λb z=>.inl z)
   have hd2:DB ⟨s.Hf,upd s.H g (.lst []),s.fps⟩ a m F X :=
    ⟨⟨
     C,by show upd s.H g _ a=_;rw[Ag S];exact q1,B,q3,λi e E=>by
     obtain⟨u,V,U⟩:=q4 i e E
     exact⟨u,V,U.step (Same.refl _) λb I=>Ag (A b (.inr ⟨i,I⟩))⟩⟩,f.fr,f.dis,f.na,λb z=>by
     obtain⟨o,e,mu⟩:=f.mu b z
     exact⟨o,by show upd s.H g _ b=_;rw[Ag (A b z)];exact e,mu⟩,f.out,f.ky,f.nd⟩
   have kb':KAt (upd s.H g (.lst [])) k b:=kb.stay λb xs q=>by
    have:=P.sub _ _ q;rw[Ag];exact this;intro z;rw[z,n]at this;cases this
   refine⟨m.zip C,k,b,rfl,by rw[Ag S];exact q1,kb',zl,λv L=>?_,λL=>?_⟩
   ·-- there
    cases E:Qg k m with
    | none=>rw[(Nb (vs:=C) t f.ky E).2]at L;cases L
    | some j =>
     unfold Rq at r;simp only[E]at r;obtain⟨Y,i2⟩:=Rn t f.ky B E
     cases eE:F[j]? with
     | none=>rw[eE]at r;exact r.elim
     | some en =>
      rw[eE]at r
      cases en with
      | d x=>exact r.elim
      | l xs =>
       obtain⟨u,V,lb,us,rfl,U,f3,f4⟩:=q4 j _ eE;rw[i2,V]at L
       cases L
       exact Ag8 he G.1 hs hd2 eE U (zN.step r (J.moreX.trans G.2))
   ·-- not there
    cases E:Qg k m with
    | some j =>
     obtain⟨Y,i2⟩:=Rn t f.ky B E;have hj:j<m.length:=(List.getElem?_eq_some_iff.mp Y).1
     rw[i2,List.getElem?_eq_getElem (by omega)]at L;cases L
    | none =>
     unfold Rq at r;simp only[E]at r;obtain⟨Y,i2⟩:=Nb (vs:=C) t f.ky E;have T:m.length=F.length:=B.trans q3.symm
     have ej:(F++[DE.l []])[m.length]?=some (.l []):=by rw[T,List.getElem?_append_right (Nat.le_refl _),Nat.sub_self];rfl
     rw[ej]at r
     have M:∀i b,b∈(λi=>if i=m.length then [g] else X i) i->(i=m.length/\b=g)\/(i≠m.length/\b∈X i):=λi b h=>by
      have h:b∈if i=m.length then [g] else X i:=h
      split at h
      ·rename_i q;exact .inl ⟨q,List.mem_singleton.mp h⟩
      ·rename_i q;exact .inr ⟨q,h⟩
     have H:=Am3 (X':=λi=>if i=m.length then [g] else X i) P f (H':=upd (upd s.H g (.lst [])) a (.dT (m.zip C++[(k,.ref g)]))) (λb=>by
      by_cases z:b=a
      ·exact .inr (.inl (.inl z))
      ·by_cases z2:b=g
       ·rw[z2];exact .inr (.inr n)
       ·exact .inl (by rw[Ag z,Ag z2])) (λb z=>by
      rcases z with z | ⟨i,z⟩
      ·exact .inl (.inl z)
      ·rcases M i b z with ⟨_,q⟩ | ⟨_,q⟩
       ·rw[q];exact .inr n
       ·exact .inl (.inr ⟨i,q⟩))
     have hd3:DB ⟨s.Hf,upd (upd s.H g (.lst [])) a (.dT (m.zip C++[(k,.ref g)])),s.fps⟩ a (m++[k]) (F++[.l []]) (λi=>if i=m.length then [g] else X i):=by
      refine⟨⟨C++[.ref g],?_,by rw[List.length_append,List.length_append,B];rfl,by rw[List.length_append,List.length_append,q3];rfl,λi e w=>?_⟩,λb z=>?_,λi i' b z z'=>?_,λi z=>?_,λb z=>?_,λi Z=>?_,λx O=>?_,?_⟩
      ·show upd _ a _ a=_
       rw[Ax,List.zip_append B];rfl
      ·by_cases z:i<F.length
       ·rw[List.getElem?_append_left z]at w
        obtain⟨u,V,U⟩:=q4 i e w
        refine⟨u,by rw[List.getElem?_append_left (by omega)];exact V,?_⟩
        rw[if_neg (by omega)]
        exact U.step (Same.refl _) λb I=>by
         show upd (upd s.H g _) a _ b=_
         have na:b≠a:=λq=>f.na i (q▸I)
         rw[Ag na,Ag (A b (.inr ⟨i,I⟩))]
       ·rw[List.getElem?_append_right (by omega)]at w
        have Z:i=F.length:=by
         rcases Nat.lt_or_ge (i-F.length) 1 with q | q
         ·omega
         ·rw[List.getElem?_eq_none (by simpa using q)]at w;cases w
        subst Z;rw[Nat.sub_self]at w
        cases w
        refine⟨.ref g,by rw[q3,List.getElem?_append_right (Nat.le_refl _),Nat.sub_self];rfl,g,[],rfl,by rw[if_pos T.symm],?_,rfl⟩
        show upd (upd s.H g _) a _ g=_
        rw[Ag (Ne.symm S),Ax]
      ·rcases z with z | ⟨i,z⟩
       ·exact f.fr b (.inl z)
       ·rcases M i b z with ⟨_,q⟩ | ⟨_,q⟩
        ·rw[q];exact⟨P.notF n,P.notS n⟩
        ·exact f.fr b (.inr ⟨i,q⟩)
      ·rcases M i b z with ⟨q,p1⟩ | ⟨q,p1⟩
       ·rcases M i' b z' with ⟨q',Q⟩ | ⟨q',Q⟩
        ·rw[q,q']
        ·exact absurd p1 (A b (.inr ⟨i',Q⟩))
       ·rcases M i' b z' with ⟨q',Q⟩ | ⟨q',Q⟩
        ·exact absurd Q (A b (.inr ⟨i,p1⟩))
        ·exact f.dis i i' b p1 Q
      ·rcases M i a z with ⟨_,q⟩ | ⟨_,q⟩
       ·exact S q
       ·exact f.na i q
      ·by_cases q:b=a
       ·rw[q];exact⟨_,Ax,trivial⟩
       ·by_cases B:b=g
        ·rw[B];exact⟨.lst [],by show upd (upd s.H g _) a _ g=_;rw[Ag (Ne.symm S),Ax],trivial⟩
        ·have zX:DX a X b:=by
          rcases z with z | ⟨i,z⟩
          ·exact .inl z
          ·rcases M i b z with ⟨_,q⟩ | ⟨_,q⟩
           ·exact absurd q B
           ·exact .inr ⟨i,q⟩
         obtain⟨o,e,mu⟩:=f.mu b zX
         exact⟨o,by show upd (upd s.H g _) a _ b=_;rw[Ag q,Ag B];exact e,mu⟩
      ·rw[List.length_append]at Z
       show (if i=m.length then [g] else X i)=[]
       have:F.length+1<=i:=Z
       rw[if_neg (by omega)]
       exact f.out i (by omega)
      ·rcases List.mem_append.mp O with O | O
       ·exact f.ky x O
       ·rw[List.mem_singleton.mp O];exact t
      ·rw[List.nodup_append]
       refine⟨f.nd,by simp,λx O y hy e=>?_⟩
       rw[List.mem_singleton.mp hy]at e;exact Y (e▸O)
     exact Ag8 he H.1 hs hd3 ej (by rw[if_pos rfl]) (zN.step r (J.moreX.trans H.2))
  ·rw[if_neg I]at r;exact r.elim
end
theorem Ax8 {H:Hp}:∀{ds:List PyData}{vs:List V},ds.length=vs.length->(∀(j:Nat) (x:PyData) (v:V),ds[j]?=some x->vs[j]?=some v->Tr H x v)->TrL H ds vs
 | [],[],_,_=>rfl
 | [],_::_,l,_=>nomatch l
 | _::_,[],l,_=>nomatch l
 | x::ds,v::vs,l,h=>⟨v,vs,rfl,h 0 x v rfl rfl,Ax8 (Nat.succ.inj l) λj y u e1 e2=>h (j+1) y u (by simpa using e1) (by simpa using e2)⟩
section
variable {K:PySem.W.Frag}{β:Nat->V}{W:Wo}{c:Ev}{σ:St}{Hf H:Hp}{a:Addr}{ks:List PyData}{es:List DE}{X:Nat->List Addr}{d:Nat}{D:Ends}
open Classical in
noncomputable def Tf (W:Wo) (a:Addr) (u:HO) (X:Nat->List Addr):Hp:=λb=>if b=a then some u else if ∃j,b∈X j then W.H b else W.Hf b
theorem A7o : Tf W a u X a=some u:=by unfold Tf;grind
theorem Au9 (n:b≠a) (h:b∈X j):Tf W a u X b=W.H b:=by unfold Tf;rw[if_neg n,if_pos ⟨j,h⟩]
theorem Qv (h:¬ DX a X b):Tf W a u X b=W.Hf b:=by unfold Tf;rw[if_neg λz=>h (.inl z),if_neg λz=>h (.inr z)]
theorem DB.same (hd:DB W a ks es X):Same W.Hf (Tf W a u X):=λb u e=>by
 rw[Qv];exact e;intro z;rw[(hd.fr b z).1]at e;grind
theorem DB.sub (hd:DB W a ks es X) (R:Rep K β W c σ):Same (Tf W a u X) (upd W.H a u):=λb v e=>by
 by_cases z0:b=a
 ·subst z0;rw[A7o]at e;rw[Ax];omega
 ·rw[Ag z0]
  by_cases z:DX a X b
  ·rcases z with z | ⟨j,z⟩
   ·grind
   ·rw[Au9 z0 z]at e;grind
  ·rw[Qv z]at e;exact R.sub b v e
theorem DB.done (hd:DB W a ks es X) (hv:W.H a=some (.dT (ks.zip vs))) (hl:ks.length=vs.length):RepT K (Tf W a (.frz o (.dT (ks.zip vs))) X) (.ds ks (es.map DE.dat)) (.ref a):=by
 obtain⟨c,f,g,q3,s⟩:=hd.at_
 have n:c=vs:=by
  rw[hv]at f
  have e:=congrArg (λx => x.map (·.2)) (show ks.zip _=ks.zip _ from by injection Option.some.inj f)
  simp only[List.map_snd_zip (Nat.le_of_eq hl.symm),List.map_snd_zip (Nat.le_of_eq g.symm)]at e
  simp_all
 subst n
 refine⟨a,o,c,rfl,A7o,Ax8 (by grind) λj x v i w=>?_,g⟩
 rw[List.getElem?_map]at i;obtain⟨e,p,rfl⟩:=Option.map_eq_some_iff.mp i;obtain⟨u,h,k⟩:=s j e p;rw[w]at h
 cases h
 cases e with
 | d x=>exact Tr.same hd.same k.2
 | l xs =>
  obtain⟨b,q,rfl,g1,g2,t⟩:=k
  have m:b∈X j:=by simp_all
  have r:b≠a:=λz=>hd.na j (z▸m)
  exact⟨b,q,rfl,by rw[Au9 r m];grind,TrL.same hd.same t⟩
theorem Rep.hide (R:Rep K β W c σ) (hp:W.H p=none):Rep K β ⟨W.Hf,upd W.H p o,clr W.fps d⟩ (c.set d none) (σ.set d (some v)):=by
 refine⟨Tt R.sub hp,by rw[List.length_set,List.length_set];exact R.len,λj f e=>?_,λj k a m n=>R.dis j k a (El m).1 (El n).1,λj a h=>?_⟩
 ·have z:j≠d:=λz=>by
   grind
  rw[List.getElem?_set_ne (λy=>z y.symm)]at e
  obtain⟨g,w,r,b⟩:=R.get j f e
  refine⟨g,by grind,?_,b⟩
  show RepO K W.Hf (upd W.H p o) f g (clr W.fps d j)
  have s:clr W.fps d j=W.fps j:=by unfold clr;rw[if_neg z]
  rw[s]
  exact r.mono (Same.refl _) λa i=>⟨(R.own j a i).1,Ag λq=>by obtain⟨_,o,e,_⟩:=R.own j a i;rw[q,hp]at e;cases e⟩
 ·obtain⟨t,f,u,l⟩:=R.own j a (El h).1
  exact⟨t,f,by show upd _ p o a=_;rw[Ag λq=>by simp_all];exact u,l⟩
def V9 (d:Nat)(F:BF)(g:Ev->SR):Ev->SR:=λc=>if Fb d (c.set d none)=true then match F (c.set d none) [] [] with
 | .nx c ks es=>g (c.set d (some (.ty (.ds ks (es.map DE.dat)))))
 | .bad=>.bad
 else .bad
theorem A4k (h1:MB K d T F) (h2:MS K u g):MS K (A7l (An8 Ao7 (M4 d)) (tFz d T u)) (V9 d F g):=by
 intro C W c J D R l
 show ∀p,W.H p=none->T { D with nx:=λw M=>∃a kvs,w[d]?=some (some (.ref a))/\M a=some (.dT kvs)/\∀o,u D w (upd M a (.frz o (.dT kvs))) } (J.set d (some (.ref p))) (upd W.H p (.dT []))
 intro p A;unfold V9 at l
 by_cases z:Fb d (c.set d none)=true
 ·rw[if_pos z]at l
  have hc:=Np z
  have H:d<c.length:=by
   grind
  have Z:(J.set d (some (.ref p)))[d]?=some (some (V.ref p)):=List.getElem?_set_self (by rw[<- R.len];exact H)
  have R1:Rep K C ⟨W.Hf,upd W.H p (.dT []),clr W.fps d⟩ (c.set d none) (J.set d (some (.ref p))):=R.hide A
  have x:∀b,DX p (λ_=>[]) b->b=p:=λb z=>by
   rcases z with z | ⟨_,z⟩
   ·exact z
   ·cases z
  have U:∀b,Wo.S ⟨W.Hf,upd W.H p (.dT []),clr W.fps d⟩ b->W.S b:=λb ⟨j,h⟩=>⟨j,(El h).1⟩
  have S:DB ⟨W.Hf,upd W.H p (.dT []),clr W.fps d⟩ p [] [] (λ_=>[]) :=
   ⟨⟨[],Ax,rfl,rfl,λj e ej=>by simp at ej⟩,λb z=>by rw[x b z];exact⟨R.notF A,λq=>R.notS A (U p q)⟩,λi j b z=>(by cases z),λj z=>(by cases z),λb z=>by rw[x b z];exact⟨_,Ax,trivial⟩,λ_ _=>rfl,λk Y=>(by cases Y),List.nodup_nil⟩
  have I:Stp W.S W.Hf W.H (orX (Wo.S ⟨W.Hf,upd W.H p (.dT []),clr W.fps d⟩) p (λ_=>[])) W.Hf (upd W.H p (.dT [])) :=
   ⟨Same.refl _,λb o e _=>by rw[Ag (λq=>by rw[q,A]at e;cases e)];exact e,λ_ _ _ _ _ q=>q,λb z=>by
    grind⟩
  refine h1 C _ _ _ _ p [] [] _ R1 hc Z S ?_
  cases eF:F (c.set d none) [] [] with
  | bad=>rw[eF]at l;exact l.elim
  | nx c2 r es =>
   rw[eF]at l;intro s m y st G X E f;obtain⟨t,N,q2,_,_⟩:=f.at_
   refine⟨p,r.zip t,E,N,λo=>?_⟩
   have R3:Rep K C ⟨Tf m p (.frz o (.dT (r.zip t))) y,upd m.H p (.frz o (.dT (r.zip t))),m.fps⟩ c2 s:=G.frame f.same (f.sub G) λb O=>by
    have P:¬ DX p y b:=λz=>(f.fr b z).2 O
    obtain⟨i,hi⟩:=O
    exact⟨by rw[Qv P];exact(G.own i b hi).1,Ag (λz=>P (.inl z))⟩
   have Q:=R3.setN (i:=d) (o:=.ty (.ds r (es.map DE.dat))) (v:=.ref p) (f.done (K:=K) N q2) rfl
   have L:s.set d (some (.ref p))=s:=by
    apply List.ext_getElem?
    grind
   rw[L]at Q
   have B:Stp (orX m.S p y) m.Hf m.H (Wo.S ⟨Tf m p (.frz o (.dT (r.zip t))) y,upd m.H p (.frz o (.dT (r.zip t))),clr m.fps d⟩) (Tf m p (.frz o (.dT (r.zip t))) y) (upd m.H p (.frz o (.dT (r.zip t)))) :=
    ⟨f.same,λb o e n=>by rw[Ag λz=>n (.inr (.inl z))];exact e,λb o _ _ n q=>by rw[Qv λz=>n (.inr z)];exact q,λb ⟨j,h⟩=>.inl (.inl ⟨j,(El h).1⟩)⟩
   exact h2 _ _ _ _ D Q (zH.step l (I.trans (st.trans B)))
 ·rw[if_neg z]at l;exact l.elim
end
variable {K:PySem.W.Frag}
theorem Ck {p a:Pos}(D:Def X.prog X.w X.K X.mg X.base x k ps sp) (hr:Room c X.A) (ha:QA X (e::es) t) (h:k<=c:=by omega) (hg:Gl X x:=by rfl)
 (hdb:(x==("__debug__" : Str))=false:=by decide) (hn:noStar (e::es)=true:=by rfl):QE X (.Call (.Name x p) (e::es) [] a) (Km sp [] E0 t):=by
 obtain⟨f,g,G,b,d,m⟩:=D;exact Ew G (hr.mono h) hg m d b .nil B0r ha hdb hn
end U
namespace L2
open PySem PySem.Spec PyProof.Rows PySem.W
section
variable {X:Cx}
def JT (X:Cx)(vs:List Expr)(m:Nat):Prop:=∀(pins:List (Addr×Obj)) (σ:St) (H:Hp) (s:Shared) (acc:Str) (Q:Str->Shared->Prop),Inv X pins σ H s->acc.length+m<=16001000->(∀out s',out.length<=sizeLine->Inv X pins σ H s'->Q out s')->Joins (model X.prog X.w) X.A X.xe (evalEach vs X.env) acc Q s
theorem Bm4:JT X [] 0:=λa c H s b Q I h q=>q _ s (Nat.le_trans h (by decide)) I
theorem Br6 {v:Expr}{y:Str}(h:QE X v (tC (.str y))):JT X [v] y.length:=by
 intro b j H s a Q I f q
 refine wpAny_mono (h.get _ s _ H (λv g=>v=.str y/\g=H) I ⟨rfl,rfl⟩) (λu k ⟨v,l,d,r,i,c⟩=>?_) λ_ _ z=>z
 subst i c;obtain⟨t,e⟩:=(r)
 have:(a++y).length<=sizeLine:=by rw[strLen_append];exact Nat.le_trans f (by decide)
 exact⟨y,t,e,this,q _ _ this d⟩
theorem A3i {l j:Expr}{vs:List Expr}{s1:Str}{m:Nat}{o:TE}{f c:Pos}(hu:X.A.units+64<cLine)(hg:X.A.guards=some [])(h1:QE X l (tC (.str s1)))(hn:s1.length<=1000)(h2:QE X j o)(B:JT X vs m)(hm:m<=1000):QE X (.JoinedStr (l::.FormattedValue j 114 none f::vs) c) (tFs s1.length o):=by
 refine⟨λg s C H Q I h=>?_⟩
 refine wpAny_JoinedStr ?_
 refine wpAny_mono (h1.get _ s _ H (λv M=>v=.str _/\M=H) I ⟨rfl,rfl⟩) (λu W ⟨v,Z,N,r,L,P⟩=>?_) λ_ _ z=>z
 subst L P
 obtain⟨t,e⟩:=(show ∃t,u=Value.str _ t from r)
 refine⟨s1,t,e,?_,?_⟩
 ·rw[strLen_append]
  exact Nat.le_trans (by show 0+s1.length<=1000;omega) (by decide)
 ·refine wpAny_FormattedValue_repr (thn (h2.get _ _ _ _ _ N h) λS U ⟨v,D,E,F,d,G,J,q⟩=>?_)
  refine Be3 hu hg E G F hn J λz V T K x=>?_
  have k:z.length<=sizeLine:=Nat.le_trans (Nat.le_trans (Nat.le_add_right _ _) K) (by decide)
  have n:(Str.empty++s1++z).length+m<=16001000:=by
   rw[strLen_append,strLen_append]
   show 0+s1.length+z.length+m<=_;omega
  have i:∀(p:Tok) (w:Shared),Inv X g C _ w->∃y t,Value.str z _=.str y t/\(Str.empty++s1++y).length<=sizeLine/\Joins _ _ _ _ (Str.empty++s1++y) (λb a=>b.length<=sizeLine/\EP X _ _ Q (.str b a.toks) { a with toks:=a.toks+1 }) _:=λp w O =>
   ⟨z,p,rfl,Nat.le_trans (Nat.le_add_right _ _) (Nat.le_trans n (by decide)),B _ _ _ _ _ _ O n λb Y R A=>⟨R,.str _,D,A.tok _,⟨_,rfl⟩,q _⟩⟩
  exact wpAny_formatField_str (i _ _ x) (i _ _ (x.tok _)) k
end
end L2
namespace U
open PySem L2 PySem.W
section
variable {K:PySem.W.Frag}{β:Nat->V}{W:Wo}{c:Ev}{σ:St}{Hf H:Hp}
def cFY (F:List PyData->XF)(fa:Ev->R (List PV)):Ev->R PV:=λc=>(fa c).bind λps c=>match O5 c ps with
 | none=>.bad
 | some ds=>match F ds with
  | .ret (.im d)=>.ok (.o (.im d)) c
  | _=>.bad
theorem Ag6 {F:List PyData->XF}{t:TA}{fa:Ev->R (List PV)}(ha:MA K t fa):ME K (Km (spX K F) [] E0 t) (cFY F fa):=by
 intro β W c σ Q R s
 show t σ W.H λvs H1=>spX K F (vs++[]) H1 Q E0
 simp only[List.append_nil]
 refine ha β W c σ _ R (s.bnd.mono λps c1 s1 vs W1 st R1 r1=>?_)
 cases ea:O5 c1 ps with
 | none=>simp only[ea]at s1;exact s1.elim
 | some ds =>
  simp only[ea]at s1
  refine⟨W1.Hf,ds,R1.sub,Nh R1 r1 ea,?_⟩
  split at s1
  ·rename_i d ef
   rw[ef];intro v Hf' H' fp s2 sub r;obtain⟨rfl,tv⟩:=r
   have s2:Stp (λ_=>False) W1.Hf W1.H (λ_=>False) Hf' H':=s2.less λa z=>nomatch z
   exact s1 v ⟨Hf',H',W1.fps⟩ [] ((st.trans ⟨s2.fz,λa o e _=>s2.kp a o e λz=>z,λa o e mu _ q=>s2.nf a o e mu (λz=>z) q,λa z=>.inl z⟩).less λa z=>Qz z) (Stp.rep R1 s2 sub) ⟨⟨rfl,tv⟩,λa z=>nomatch z⟩
  ·exact s1.elim
end
theorem B1q {P:Program}{w:World}{X:Cx}:Hi (CXe P w) X E0:=λ_ _ _ _ _ _ _ ⟨_,_,_,_,_,_,_,_,_,_,h⟩=>h.elim
theorem Bl5 {X:Cx}{x:Str}{k k':Nat}{ps:List Str}{sp:Sp}{e:Expr}{es:List Expr}{t:TA}{p pos:Pos}(D:DefX X.prog X.w X.K X.mg X.base x k ps sp)(hr:Room k' X.A)(ha:QA X (e::es) t)(h:k<=k':=by omega)(hg:Gl X x:=by rfl)
 (hdb:(x==("__debug__" : Str))=false:=by decide) (hn:noStar (e::es)=true:=by rfl):QE X (.Call (.Name x p) (e::es) [] pos) (Km sp [] E0 t):=by
 obtain⟨f,fd,G,b,kp,m⟩:=D;exact Ew G (hr.mono h) hg m kp b .nil B1q ha hdb hn
end U
namespace L2
open PySem PySem.Spec PyProof.Rows PySem.W
section
variable {K K':Frag}
def J6 (K K':Frag):Prop:=∀a o,K.lookup a=some o->K'.lookup a=some o
theorem Pg (s:J6 K K'){ns:Addr}{x:Str}{r:Option Value}(e:nsIn K ns x=some r):nsIn K' ns x=some r:=by
 unfold nsIn at e ⊢
 split at e
 ·rename_i a;rw[s _ _ a];omega
 trivial
theorem Ae5 (s:J6 K K'){x:Str}{v:Value}{r:Option Value}(e:ownIn K x v=some r):ownIn K' x v=some r:=by
 cases v with
 | ref a =>
  unfold ownIn at e ⊢
  dsimp only at e ⊢
  split at e
  ·rename_i b;rw[s _ _ b];exact Pg s e
  simp_all
 | _=>exact e
theorem Wc (s:J6 K K'){x:Str}:∀{l:List Value}{r:Option Value},alongIn K x l=some r->alongIn K' x l=some r
 | [],r,e=>e
 | v::l,r,e=>by
  unfold alongIn at e ⊢
  split at e
  ·rename_i h;rw[Ae5 s h];exact e
  ·rename_i h;rw[Ae5 s h];exact Wc s e
  ·cases e
theorem Hl (s:J6 K K'){x:Str}{C:Addr}{r:Option Value}(e:findIn K (.ref C) x=some r):findIn K' (.ref C) x=some r:=by
 unfold findIn at e ⊢
 dsimp only at e ⊢
 split at e
 ·rename_i a;rw[s _ _ a];exact Wc s e
 trivial
theorem A3f (s:J6 K K'){C:Addr}{a:ClassData}(e:clsIn K C=some a):clsIn K' C=some a:=by
 unfold clsIn at e ⊢
 split at e
 ·rename_i b;rw[s _ _ b];grind
 trivial
theorem Vn (s:J6 K K'){t b:Value}{r:Bool}(e:subIn K t b=some r):subIn K' t b=some r:=by
 cases t with
 | ref C =>
  obtain⟨c,d,a⟩:=Option.bind_eq_some_iff.mp (e);exact Option.bind_eq_some_iff.mpr ⟨c,A3f s d,a⟩
 | _=>exact e
theorem Ym (s:J6 K K'){t c:Value}{r:Bool}(e:kitCls K t c=some r):kitCls K' t c=some r:=by
 unfold kitCls at e ⊢
 split at e
 ·rename_i C
  split at e
  ·rename_i z
   rw[if_pos,Vn s e]
   dsimp only[clsIn,typeIn]at z ⊢
   cases ho:K.lookup C with
   | none=>simp_all
   | some o=>rw[s _ _ ho];grind
  simp_all
 ·split at e
  ·rename_i z;rw[if_pos z,Vn s e]
  grind
 trivial
theorem Ay6 (s:J6 K K'){t c:Value}{r:Bool}(e:kitOne K t c=some r):kitOne K' t c=some r:=by
 unfold kitOne at e ⊢
 split at e
 ·grind
 ·rename_i z;rw[if_neg z];exact Ym s e
theorem X8 (s:J6 K K'){t c:Value}{r:Bool}(e:exmOne K t c=some r):exmOne K' t c=some r:=by
 unfold exmOne at e ⊢
 split at e
 ·rename_i z
  rw[if_pos (by rw[Vn s (beq_iff_eq.mp z)];rfl)];exact Ym s e
 simp_all
theorem Au1 (s:J6 K K'){n:Addr}(e:nsOkIn K n=true):nsOkIn K' n=true:=by
 unfold nsOkIn at e ⊢
 split at e
 ·rename_i a;rw[s _ _ a];grind
 trivial
theorem Xr (s:J6 K K'){b:List Value}:∀{l:List Value},tailIn K b l=true->tailIn K' b l=true
 | [],e=>e
 | v::l,e=>by
  unfold tailIn at e ⊢
  rcases Bool.or_eq_true_iff.mp e with q | q
  ·rw[q];rfl
  ·refine Bool.or_eq_true_iff.mpr (.inr ?_)
   split at q
   ·split at q
    ·rename_i ho
     rw[s _ _ ho];simp only[Bool.and_eq_true,beq_iff_eq]at q ⊢;exact⟨⟨Au1 s q.1.1,Pg s q.1.2⟩,Xr s q.2⟩
    ·cases q
   ·cases q
theorem Aa8 (s:J6 K K'){C:Addr}(e:Wn K C=true):Wn K' C=true:=by
 unfold Wn at e ⊢
 split at e
 ·rename_i a
  rw[s _ _ a]
  simp at e ⊢
  refine⟨⟨e.1.1,?_⟩,e.2⟩
  have q:=e.1.2
  split at q
  ·simp at q ⊢
   exact⟨q.1,Xr s q.2⟩
  ·cases q
 ·cases e
theorem Bx6 (s:J6 K K'){C:Addr}(e:exP K C=true):exP K' C=true:=by
 obtain⟨c,a⟩:=Bool.and_eq_true_iff.mp e
 refine Bool.and_eq_true_iff.mpr ⟨Aa8 s c,?_⟩
 unfold noI at a ⊢
 cases ho:K.lookup C with
 | none=>simp_all
 | some o =>
  rw[s _ _ ho];rw[ho]at a
  dsimp only at a ⊢
  split at a
  ·obtain⟨d,b⟩:=Bool.and_eq_true_iff.mp a
   exact Bool.and_eq_true_iff.mpr ⟨Au1 s d,beq_iff_eq.mpr (Pg s (beq_iff_eq.mp b))⟩
  trivial
theorem A3o (s:J6 K K'){C:Addr}(e:xcB K C=true):Kh K' C:=by
 unfold xcB at e
 simp at e
 exact⟨Aa8 s e.1,Hl s e.2.1,Hl s e.2.2.1,Hl s e.2.2.2⟩
theorem K9 (s:J6 K K'){x:Str}{p:Addr->Bool}(e:clB K x p=true):∃C,nsIn K' mainGlobals x=some (some (.ref C))/\p C=true:=by
 unfold clB at e
 split at e
 ·rename_i C h;exact⟨C,Pg s h,e⟩
 trivial
theorem Aq0 (s:J6 K K'){z:Value}:∀{tbl:List (Str×Bool)},tbB K z tbl=true->TbOk K' z tbl
 | [],_=>.nil
 | (x,b)::tbl,e=>by
  obtain⟨e1,e2⟩:=Bool.and_eq_true_iff.mp e;obtain⟨C,n,q⟩:=K9 s e1;obtain⟨q1,q2⟩:=Bool.and_eq_true_iff.mp q;exact .cons n (A3o s q1) (Ay6 s (beq_iff_eq.mp q2)) (Aq0 s e2)
theorem Ak6 (s:J6 K K'){F:Addr}:∀{NS:List Str},exB K F NS=true->ExOk K' F NS
 | [],_=>.nil
 | x::NS,e=>by
  obtain⟨e1,e2⟩:=Bool.and_eq_true_iff.mp e;obtain⟨C,n,q⟩:=K9 s e1;exact .cons n (X8 s (beq_iff_eq.mp q)) (Ak6 s e2)
def A0e (R:List Str)(T:List (Str×List (Str×Bool)))(V:List (Str×Bool))(F:List Str)(h:Heap):Prop:=∃K:Frag,cfB R T V F K=true/\∀a o,K.lookup a=some o->h.get? a=some o/\Bx8 o=true
variable {R:List Str}{T:List (Str×List (Str×Bool))}{V:List (Str×Bool)}{F:List Str}{h h':Heap}{mg:Str->Option Value}
theorem Bz9 {l:List Nat}(e:cfB R T V F (Bh3 l h)=true):A0e R T V F h:=⟨Bh3 l h,e,λa o q=>by
 unfold Bh3 at q;rw[Lb]at q
 split at q
 ·obtain⟨c,d,b⟩:=Option.bind_eq_some_iff.mp q
  grind
 grind⟩
theorem A4s (x:A0e R T V F h)(hk:∀b o,h.get? b=some o->h'.get? b=some o):A0e R T V F h' :=
 let ⟨K,e,q⟩:=x; ⟨K,e,λa o z=>⟨hk _ _ (q a o z).1,(q a o z).2⟩⟩
theorem Ba8 (x:A0e R T V F h)(b:K.In h)(G:h.Ns mainGlobals mg)(g:∀a o,h.get? a=some o->Ge o=true->o.data≠.fields #[]->K.lookup a=some o) :
 (∀(i:Nat) (x:Str),R[i]?=some x->ClR K mg x)/\(∀(i:Nat) (q:Str×List (Str×Bool)),T[i]?=some q->ClT K mg q.2 q.1)/\TbOk K (.type "ValueError") V/\∀(i:Nat) (x:Str),F[i]?=some x->ClF K mg R x:=by
 obtain⟨r,e,q⟩:=x
 have s := λa o z=>by
  obtain⟨l,c⟩:=q a o z;unfold Bx8 at c
  refine g a o l ?_ ?_
  ·unfold Ge;split at c <;> simp_all
  ·intro y;rw[y]at c;cases c
 obtain⟨k,f⟩:=Bool.and_eq_true_iff.mp e;obtain⟨f,d⟩:=Bool.and_eq_true_iff.mp f;obtain⟨d,j⟩:=Bool.and_eq_true_iff.mp d
 refine⟨λi x m=>?_,λi p m=>?_,Aq0 s d,λi x m=>?_⟩
 ·obtain⟨C,n,z⟩:=K9 s (List.all_eq_true.mp k x (List.mem_of_getElem? m))
  exact⟨C,mg_of b G n,n,Bx6 s z⟩
 ·obtain⟨C,n,z⟩:=K9 s (List.all_eq_true.mp f p (List.mem_of_getElem? m))
  exact⟨C,mg_of b G n,Aq0 s z⟩
 ·obtain⟨C,n,z⟩:=K9 s (List.all_eq_true.mp j x (List.mem_of_getElem? m))
  exact⟨C,mg_of b G n,Ak6 s z⟩
end
noncomputable def B3l (A:Around):Around:={ A with handled:=none }
end L2
namespace U
open PySem L2
end U
namespace L2
open PySem PySem.Spec PyProof.Rows PySem.W
def Yn (K:PySem.W.Frag):List V->Hp->VK->Prop:=λxs H Q=>∃(a C p:Addr) (d:Option Addr) (cs:List Addr) (b:Bool),xs=[.ref a,.ref p]/\H a=some (Ld a C d)/\Kh K C/\H p=some (.tup (cs.map V.ref))/\kitAny K (.ref C) (cs.map Value.ref)=some b/\Q (.bl b) H
theorem Yl:∀{cs:List Addr}{us:List Value},Vals (cs.map V.ref) us->us=cs.map Value.ref
 | [],us,h=>by cases h;rfl
 | c::cs,us,h=>by
  cases h with
  | cons r t=>rw[Yl t,show _=Value.ref c from r];rfl
section
variable {X:Cx}
theorem Aq5:zE X (.builtin "isinstance") (Yn X.K):=by
 intro c s σ H xs us Q I r h;obtain⟨a,C,p,d,cs,b,rfl,j,Z,k,l,q⟩:=h;obtain⟨u1,u2,rfl,f,m⟩:=vals2 r
 cases (f)
 cases (m)
 have i := I.hok a _ j;obtain⟨_,g,u,o,v,t,⟨n,w⟩,_⟩:=I.hok p _ k
 cases Yl u
 obtain⟨x,dd,e,sl⟩:=o;subst t w
 exact kia_tup (Ai6 Z) I.kIn i.1 v l (λz=>nomatch z) λtk=>⟨.bl b,H,I.tok _,rfl,q⟩
theorem A7d {e:Expr}{es:List Expr}{t:TA}{p b:Pos}{Kq:PySem.W.Frag}(a:X.K=Kq)(hgl:Gl X "isinstance") (hm:X.mg "isinstance" = none) (ha:QA X (e::es) t) (hn:noStar (e::es)=true:=by rfl):QE X (.Call (.Name "isinstance" p) (e::es) [] b) (tCB (Yn Kq) t):=by
 subst a
 exact⟨Fz Aq5 hgl hm Ho ha.get (by decide) (by rfl) hn⟩
end
def Aj9 (K:PySem.W.Frag)(gs:List Addr)(tbl:List (Str×Bool)):Prop:=∀nm b,tbl.lookup nm=some b->∀C,PySem.W.nsIn K mainGlobals nm=some (some (.ref C))->Kh K C/\kitAny K (.ref C) (gs.map Value.ref)=some b
theorem Bf0 {K:PySem.W.Frag}{g:Addr}{a:List (Str×Bool)}(h:TbOk K (.ref g) a):Aj9 K [g] a:=λd b e C c=>by
 obtain⟨x,k⟩:=h _ b e C c
 refine⟨x,?_⟩
 show (match kitOne K _ _ with
  | some true=>some _
  | some false=>some _
  | none=>none)=some b
 grind
noncomputable def orT:List (Str×Bool)->List (Str×Bool)->List (Str×Bool)
 | (n,b)::r,(_,c)::s=>(n,b||c)::orT r s
 | _,_=>[]
theorem Aj0:∀{t u:List (Str×Bool)}{nm:Str}{b:Bool},t.map (·.1)=u.map (·.1)->(orT t u).lookup nm=some b->∃x y,t.lookup nm=some x/\u.lookup nm=some y/\b=(x||y)
 | [],_,nm,b,_,e=>by cases e
 | _::_,[],nm,b,_,e=>by cases e
 | (n,x)::t,(m,y)::u,nm,b,h,e=>by
  rw[List.map_cons,List.map_cons]at h;obtain⟨h1,h2⟩:=List.cons.inj h
  cases (show n=m from h1)
  rw[List.lookup_cons,List.lookup_cons]
  rw[show orT ((n,x)::t) ((n,y)::u)=(n,x||y)::orT t u from rfl,List.lookup_cons]at e
  cases q:nm==n with
  | true=>rw[q]at e;cases e;exact⟨x,y,rfl,rfl,rfl⟩
  | false=>rw[q]at e;exact Aj0 h2 e
theorem Hv {K:PySem.W.Frag}{g:Addr}{gs:List Addr}{t u:List (Str×Bool)}(h:TbOk K (.ref g) t)(hs:Aj9 K gs u)(e:t.map (·.1)=u.map (·.1)):Aj9 K (g::gs) (orT t u):=λm b d C a=>by
 obtain⟨x,y,f,c,i⟩:=Aj0 e d;obtain⟨j,k⟩:=h _ x f C a;obtain⟨_,l⟩:=hs _ y c C a
 refine⟨j,?_⟩
 show (match kitOne K _ _ with
  | some true=>some _
  | some false=>kitAny K _ _
  | none=>none)=_
 grind
end L2
namespace U
open PySem L2 PySem.W
variable {K:PySem.W.Frag}
noncomputable def tCs:List Addr->TA
 | []=>Fp
 | g::gs=>Cj (tC (.ref g)) (tCs gs)
theorem A6y {σ:St}:∀{gs:List Addr}{H:Hp}{k:List V->Hp->Prop},k (gs.map V.ref) H->tCs gs σ H k
 | [],_,_,h=>h
 | g::gs,H,k,h=>A6y (gs:=gs) (k:=λvs H1=>k (V.ref g::vs) H1) h
theorem A4r {m:TE}{f:Ev->R PV}{gs:List Addr}{i:List (Str×Bool)}(ht:Aj9 K gs i)(h:ME K m f)(hl:gs.length<=1000:=by simp) :
 ME K (tCB (Yn K) (Cj m (Cj (Bi5 (tCs gs)) Fp))) (Xw i f):=by
 intro D W c F Q R s
 refine h _ W c _ _ R (s.bnd.mono λp B g E G t l j w=>?_)
 cases ed:rdP B p with
 | none=>simp only[ed]at g;trivial
 | some o =>
  simp only[ed]at g
  match o,ed,g with
  | .ty (.xc nm),ed,g =>
   cases el:i.lookup nm.n with
   | none=>simp only[el]at g;trivial
   | some b =>
    simp only[el]at g;obtain⟨a,C,d,e,r,n⟩:=Ax6 j w ed;subst e;obtain⟨y,x⟩:=ht _ b el C r.ns
    refine A6y ⟨by rw[List.length_map];exact Nat.le_trans hl (by decide),λq A=>?_⟩
    have k:Same _ (upd _ q (.tup (gs.map V.ref))):=λb u e=>Ca A b u e
    refine⟨a,C,q,d,gs,b,rfl,k _ _ (j.sub _ _ n),y,Ax,x,?_⟩
    have v := Stp.rep j (Xm k) λa o e=>k a o (j.sub a o e)
    exact g _ _ _ ((l.trans (Xm k)).less λa z=>by
     rcases z with z | z
     ·exact .inl z
     ·cases z) v ⟨⟨rfl,rfl⟩,λa z=>nomatch z⟩
  | .ty (.nm _),ed,g=>trivial
  | .ty (.tc _),ed,g=>trivial
  | .ty (.dc _ _),ed,g=>trivial
  | .ty (.dt _ _),ed,g=>trivial
  | .ty (.ds _ _),ed,g=>trivial
  | .ty (.td _ _ _),ed,g=>exact g.elim
  | .im _,ed,g=>exact g.elim
  | .ls _ _,ed,g=>exact g.elim
  | .sc _,ed,g=>trivial
section
variable {K:PySem.W.Frag}{E:XK}
theorem Xv {F:List PyData->XF}{t:TA}{i:Ev->R (List PV)}(ha:MA K t i):ME K (Km (spX K F) [] E t) (cFY F i):=by
 intro β W c σ Q R s
 show t _ _ _
 simp
 refine ha _ W c _ _ R (s.bnd.mono λx w b vs l n g p=>?_)
 cases ea:O5 w x with
 | none=>simp only[ea]at b;trivial
 | some u =>
  simp only[ea]at b
  refine⟨l.Hf,u,g.sub,Nh g p ea,?_⟩
  split at b
  ·rename_i d m
   rw[m];intro v k H' fp f h r;obtain⟨rfl,y⟩:=r
   exact b v _ _ ((n.trans ⟨f.fz,λa o e _=>f.kp a o e λz=>z,λa o e j _ q=>f.nf a o e j (λz=>z) q,λa z=>.inl z⟩).less λa z=>Qz z) (Stp.rep g f h) ⟨⟨rfl,y⟩,λa z=>nomatch z⟩
  trivial
def Vh (F:List PyData->XF)(fa:Ev->R (List PV))(vs:List Nat)(f:Ev->SR):Ev->XS:=λc=>match fa c with
 | .bad=>.s .bad
 | .ok ps c1=>match O5 c1 ps with
  | none=>.s .bad
  | some ds=>match F ds with
   | .ex nm=>if vs.all (λi=>match c[i]? with | some (some _)=>true | _=>false) then .ex nm c1 else .s .bad
   | _=>.s (f c)
theorem A5k {F:List PyData->XF}{t:TA}{b:Ev->R (List PV)}{vs:List Nat}{T:TS}{f:Ev->SR}(ha:MA K t b)(hm:MS K T f)
 (hx:∀(a:St) (H:Hp) (D:Ends),(∀i∈vs,∃v,a[i]?=some (some v))->(∀Q,Km (spX K F) [] E t a H Q)->T D a H):MX K E T (Vh F b vs f):=by
 intro k W c a D R l;unfold Vh at l
 cases e:b c with
 | bad=>rw[e]at l;exact l.elim
 | ok j g =>
 rw[e]at l
 cases ea:O5 g j with
 | none=>simp only[ea]at l;exact l.elim
 | some m =>
 simp only[ea]at l
 cases ef:F m with
 | bad=>simp only[ef]at l;exact hm _ W c _ D R l
 | ret o=>simp only[ef]at l;exact hm _ W c _ D R l
 | ex A =>
  simp only[ef]at l
  split at l
  ·rename_i q
   refine hx _ _ D (λi r=>?_) λQ=>?_
   ·have:=List.all_eq_true.mp q i r
    split at this
    ·rename_i o s
     obtain⟨v,u,_⟩:=R.get i o s;exact⟨v,u⟩
    ·cases this
   ·have p:LeadX K k W D E (Lk F b (λ_ _=>.s .bad) (λn c=>.ex n c) c):=by
     unfold Lk
     simp_all
    have:=Qw (Q:=Q) ha R p (λ_ _ _ _ _ _ z _=>z.elim) (λn g B C d w y x h=>x C d _ _ h w y)
    show t _ _ _
    simp_all
  ·exact l.elim
end
theorem Bl3 {X:Cx}{x:Str}{k c:Nat}{ps:List Str}{sp:Sp}{E:XK}{e:Expr}{es:List Expr}{t:TA}{p a:Pos}(hx:Hi (CXe X.prog X.w) X E)(D:DefX X.prog X.w X.K X.mg X.base x k ps sp)(hr:Room c X.A)(ha:QA X (e::es) t)(h:k<=c:=by omega)(hg:Gl X x:=by rfl)
 (hdb:(x==("__debug__" : Str))=false:=by decide) (hn:noStar (e::es)=true:=by rfl):QE X (.Call (.Name x p) (e::es) [] a) (Km sp [] E t):=by
 obtain⟨f,g,G,b,d,m⟩:=D;exact Ew G (hr.mono h) hg m d b .nil hx ha hdb hn
end U
namespace L2
open PySem PySem.Spec PyProof.Rows PySem.W
section
variable {prog:Program}{w:World}{A:Around}{E:Value->Shared->Prop}{h:Heap}{g:Array GenState}{d:Drawn}{t:Nat}{os:OsState}{K:Frag}
variable {nm q:Str}{C N:Addr}{bs bm:List Value}{hdct:Bool}{sn:List Str}{sub:List Value}{ab:Bool}{col:Option Bool}{dd:Option Addr}{k0 k1 k2 k3 k5:Option Value}
theorem Bh4 {a:List Value}{i:Addr}{oI:Obj}{Q:Fin->Shared->Prop}(X:K.In h)(T:OwnTail h bmV bm)(f:h.get? C=some (excClassObj nm q C N bs bm hdct sn sub ab col dd k0 k1 k2 k3 k5 "ValueError.__new__")) (hi:findIn K (.ref C) "__init__" = some (some (.ref i)))
 (hf:h.get? i=some oI) (hc:oI.cls=.type "function") (hr:a.length<=sizeLine)
 (hq:∀h' e,Heap.MadeExcOf h h' e (.ref C) a->h.objs.size<=e->wpAny (model prog w) A (call (.ref i) (.ref e::a)) (λr s'=>r=.none/\Q (.done (.ret (.ref e))) s') E ⟨h',g,d,t,os⟩) :
 wpAny (model prog w) A (Builtin.«type.__call__» ⟨.ref C::a,[]⟩) Q E ⟨h,g,d,t,os⟩:=by
 have F:=PySem.F.excBase_ValueError
 repeat (first | with_reducible refine wpAny_loadPart_at f ?_ | with_reducible refine wpAny_madeBy_exc f ?_ | wp_step)
 refine codeAny_call_builtin_code (Code.quiet_builtin _ F.quiet) (wpAny_check_new_subT F T f ?_)
 refine codeAny_exc_new_subT F T f ?_ hr
 show wpAny _ _ _ _ _ _
 have M:Heap.MadeExcOf h ((h.push { cls:=.type "tuple",data:=.seq a.toArray }).push { cls:=.ref C,data:=.fields #[.ref h.objs.size,.none,.none,.none,.bool false,.none] }) (h.objs.size+1) (.ref C) a :=
  ⟨λb o z=>Heap.get?_push_of_some _ (Heap.get?_push_of_some _ z),Heap.get?_none_of_le (Nat.le_succ _),h.objs.size,by heap_get,Heap.get?_none_of_le (Nat.le_refl _),Heap.get?_push_of_some _ (Heap.get?_push_at rfl rfl)⟩
 generalize (h.push { cls:=.type "tuple",data:=.seq a.toArray }).push { cls:=.ref C,data:=.fields #[.ref h.objs.size,.none,.none,.none,.bool false,.none] }=h1 at M ⊢;have le:h.objs.size<=h.objs.size+1:=Nat.le_succ _;generalize h.objs.size+1=e at M le ⊢;obtain⟨t0,c,_⟩:=M.there
 have j:(Value.ref C::bm).contains (.ref C)=true:=by simp
 unfold isInstance
 repeat (first | with_reducible refine wpAny_loadPart_at c ?_ | (with_reducible refine wpAny_isSubtype_exc (M.keeps _ _ f) ?_;rw[j]) | wp_step)
 show wpAny _ _ (typeLookup (.ref C) _) _ _ _
 refine (looks_findIn (X.keeps M.keeps) hi).here ?_
 refine wpAny_holding (wpAny_bind ?_)
 unfold bindSpecial
 refine wpAny_bind (wpAny_typeOf (T := "function") ⟨_,M.keeps _ _ hf,hc⟩ ?_)
 rw[if_pos (by decide)]
 refine wpAny_pure (wpAny_bind (wpAny_mono (hq _ _ M le) (λr s' z=>?_) λ_ _ x=>x))
 obtain⟨rfl,hQ⟩:=z
 wp_walk
 exact hQ
theorem A0n {a:List Value}{f:Addr}{i:Obj}{Q:Value->Shared->Prop}(X:K.In h)(T:OwnTail h bmV bm)(b:h.get? C=some (excClassObj nm q C N bs bm hdct sn sub ab col dd k0 k1 k2 k3 k5 "ValueError.__new__")) (hi:findIn K (.ref C) "__init__" = some (some (.ref f)))
 (j:h.get? f=some i) (hc:i.cls=.type "function") (hr:a.length<=sizeLine)
 (k:∀c e,Heap.MadeExcOf h c e (.ref C) a->h.objs.size<=e->wpAny (model prog w) (A.under (.builtin "type.__call__" ⟨.ref C::a,[]⟩)) (call (.ref f) (.ref e::a)) (λr s'=>r=.none/\Q (.ref e) s') E ⟨c,g,d,t,os⟩) :
 wpAny (model prog w) A (call (.ref C) a) Q E ⟨h,g,d,t,os⟩:=by
 have n:=tc_lookup;have o:=tc_bind (.ref C);have p:(⟨h,g,d,t,os⟩:Shared).TypeIs (.ref C) "type" := ⟨_,b,rfl⟩
 refine wpAny_call (codeAny_of_tree ?_)
 show wpAny _ _ (callAny (.ref C) _) _ _ _
 repeat (any_goals (first | assumption | with_reducible refine wpAny_loadPart_at b ?_ | wp_step))
 refine⟨rfl,codeAny_call_builtin_at (Code.quiet_builtin _ (by decide +kernel)) entry_typeCall (wpAny_check_type_call_sub b (Bh4 X T b hi j hc hr λc e m l=>?_))⟩
 exact k _ e m l
end
section
variable {prog:Program}{w:World}{M:Model}{A:Around}{E:Value->Shared->Prop}{s:Shared}{env:Env}
variable {nm q:Str}{C N:Addr}{bs bm:List Value}{hdct:Bool}{sn:List Str}{sub:List Value}{ab:Bool}{col:Option Bool}{dd:Option Addr}{k0 k1 k2 k3 k5:Option Value}{newId:String}
noncomputable abbrev Lj (C:Addr) (d:Option Addr) (t:Addr):Obj:={ cls:=.ref C,dict:=d,data:=.fields #[.ref t,.none,.none,.none,.bool false,.none] }
theorem A8j {x:Sem Value}{Q:Flow->Shared->Prop}(hb:bm.contains (.type "BaseException")=true) (b:A.handled=none)
 (h:wpAny M A x (λv s1=>∃e d t,v=.ref e/\s1.heap.get? C=some (excClassObj nm q C N bs bm hdct sn sub ab col dd k0 k1 k2 k3 k5 newId)/\s1.heap.get? e=some (Lj C d t)/\E (.ref e) s1) E s) :
 wpAny M A (raiseStmt env (some x) none) Q E s:=by
 have c:(Value.ref C::bm).contains (.type "BaseException")=true:=by rw[List.contains_cons,hb,Bool.or_true]
 unfold raiseStmt
 refine wpAny_bind (wpAny_mono h (λv s1 z=>?_) λ_ _ x=>x)
 obtain⟨e,d0,t0,rfl,a,he,hE⟩:=z;obtain⟨hp,g,d,tk,os⟩:=s1
 repeat (first | with_reducible refine wpAny_loadPart_at he ?_ | with_reducible refine wpAny_loadPart_at a ?_ | (with_reducible refine wpAny_isSubtype_exc a ?_;rw[c]) | wp_step)
 exact wpAny_raiseNew_none b hE
theorem Al5 {x:Str}{k b g:Pos}{c:List Expr}{Q:Flow->Shared->Prop}(hb:bm.contains (.type "BaseException")=true) (n:A.handled=none) (hpl:(backTo b (starEach c env)).any (·.1)=false)
 (h:wpAny (model prog w) A (eval (.Name x k) env) (λf s1=>f=.ref C/\wpAny (model prog w) A (evalArgs (.ref C) true (backTo b (starEach c env)) [])
  (λa s2=>a.kw=[]/\s2.heap.get? C=some (excClassObj nm q C N bs bm hdct sn sub ab col dd k0 k1 k2 k3 k5 newId)/\wpAny (model prog w) A (call (.ref C) a.pos) (λv s3=>∃e d t,v=.ref e/\s3.heap.get? C=some (excClassObj nm q C N bs bm hdct sn sub ab col dd k0 k1 k2 k3 k5 newId)/\s3.heap.get? e=some (Lj C d t)/\E (.ref e) s3) E s2) E s1) E s) :
 wpAny (model prog w) A (exec (.Raise (some (.Call (.Name x k) c [] b)) none g) env) Q E s:=by
 refine wpAny_bind (wpAny_standAt (A8j (C:=C) (nm:=nm) (q:=q) (N:=N) (bs:=bs) (hdct:=hdct) (sn:=sn) (sub:=sub) (ab:=ab) (col:=col) (dd:=dd) (k0:=k0) (k1:=k1) (k2:=k2) (k3:=k3) (k5:=k5) (newId:=newId) hb n ?_))
 refine wpAny_bind (wpAny_mono (wpAny_Call_ofName (wpAny_mono h (λf s1 z=>?_) λ_ _ x=>x)) (λv s3 z=>wpAny_bind (wpAny_standAt (wpAny_pure z))) λ_ _ x=>x)
 obtain⟨rfl,z⟩:=z
 refine wpAny_bind (wpAny_holding (wpAny_mono z (λa s2 y=>wpAny_bind (wpAny_standAt ?_)) λ_ _ x=>x))
 obtain⟨l,i⟩:=a;obtain⟨j,m,y⟩:=y;obtain rfl:i=[]:=j;simp only[hpl]
 refine wpAny_bind (wpAny_keeperOf_exc m ?_)
 exact wpAny_bind (wpAny_mono y (λv s3 z=>wpAny_bind (wpAny_holding (wpAny_point (wpAny_pure z)))) λ_ _ x=>x)
end
end L2
namespace L2
open PySem PySem.Spec PyProof.Rows PySem.W Builtin Builtin.ObjectAttr
section
variable {prog:Program}{w:World}{A:Around}{E:Value->Shared->Prop}{h:Heap}{g:Array GenState}{d:Drawn}{t:Nat}{os:OsState}{K:Frag}{s:Shared}
variable {nm q f:Str}{C N F e t0:Addr}{bs bm:List Value}{sn:List Str}{sub:List Value}{ab:Bool}{col:Option Bool}{dd:Option Addr}{k0 k1 k2 k3 k5:Option Value}{v:Value}
theorem A3h {b:Sem Bool}{Q:Value×List Value->Shared->Prop}(X:K.In s.heap)(hm:typeIn K (.ref F)=some (.type "type")) (hs:nsIn K cStatics "thirdparty.any" = some none) (c:findIn K (.ref F) "__init__" = some (some (.builtin "ValueError.__init__")))
 (d:Q (.builtin "ValueError.__init__",[]) { s with toks:=s.toks+1 }):wpAny (model prog w) A (getMethod (.ref F) "__init__" b) Q E s:=by
 have a:findIn K (.type "type") "__getattribute__" = some (some (.builtin "type.__getattribute__")):=type_tga
 refine method_cls X (by unfold specialIn;rw[hm];exact a) (cls_value (mc:=.type "type") (v:=.builtin "ValueError.__init__") X ?_ ?_ (by decide +kernel) d)
 ·unfold readsIn
  rw[hs,hm]
  rfl
 ·unfold findCls
  rw[c]
  rfl
theorem Bb0 {u:Value}{Q:Value->Shared->Prop}(T:OwnTail h bmV bm)(c:h.get? C=some (excClassObj nm q C N bs bm true sn sub ab col dd k0 k1 k2 k3 k5 "ValueError.__new__")) (he:h.get? e=some (Lj C none t0))
 (a:∀h' t1,(∀b o,b≠e->h.get? b=some o->h'.get? b=some o)->h'.get? e=some (Lj C none t1)->Q .none ⟨h',g,d,t,os⟩):wpAny (model prog w) A (call (.builtin "ValueError.__init__") [.ref e,u]) Q E ⟨h,g,d,t,os⟩:=by
 have F:=PySem.F.excBase_ValueError
 refine wpAny_call (codeAny_call_builtin F.init.plain F.initEntry (wpAny_check_init_subT F T c he rfl ?_))
 wp_walk
 refine a _ h.objs.size (λb o n z=>?_) ?_
 ·rw[Heap.get?_update_other _ _ (Ne.symm n)]
  exact Heap.get?_push_of_some _ z
 ·rw[Heap.get?_update_self _ (Heap.get?_push_of_some _ he) rfl]
  rfl
theorem Ad2 (T:OwnTail h bmV bm)(a:Value):refuseLoop a "__setattr__" bm=pure ():=by
 induction T with
 | base=>exact PySem.F.store_ValueError.passes _
 | own _ _ _ _ b=>rw[refuseLoop_ref];exact b
theorem A2a {M:Model}{c:Value}{Q:Unit->Shared->Prop}(T:OwnTail h bmV bm)(j:h.get? C=some (excClassObj nm q C N bs bm true sn sub ab col dd k0 k1 k2 k3 k5 "ValueError.__new__")) (he:h.get? e=some (Lj C none t0)) (f:Q () ⟨h,g,d,t,os⟩) :
 wpAny M A (checkBuiltinCall "object.__setattr__" ⟨[.ref e,c,v],[]⟩) Q E ⟨h,g,d,t,os⟩:=by
 have a:=PySem.F.store_ValueError
 have i:(Value.ref C::bm).contains (.type "object")=true:=by rw[List.contains_cons,T.hasType (X := "object") (b:=true) rfl];rfl
 have k:=a.args (.ref e) c v;simp only[checkBuiltinCall,a.kind,a.split]
 refine wpAny_bind ?_
 unfold isInstance
 repeat (first | with_reducible refine wpAny_loadPart_at he ?_ | (with_reducible refine wpAny_isSubtype_exc j ?_;rw[i]) | wp_step)
 exact f
theorem A2i {tk:Tok}{Q:Fin->Shared->Prop}(X:K.In h)(T:OwnTail h bmV bm)(hC:h.get? C=some (excClassObj nm q C N bs bm true sn sub ab col dd k0 k1 k2 k3 k5 "ValueError.__new__")) (hf:findIn K (.ref C) f=some none) (he:h.get? e=some (Lj C none t0))
 (hq:∀a tk,(∀b o,b≠e->h.get? b=some o->a.get? b=some o)->a.get? e=some (Lj C (some h.objs.size) t0)->a.Ns1 h.objs.size (λy=>if y=f then some v else none)->Q (.done (.ret .none)) ⟨a,g,d,tk,os⟩) :
 wpAny (model prog w) A (Builtin.«object.__setattr__» ⟨[.ref e,.str f tk,v],[]⟩) Q E ⟨h,g,d,t,os⟩:=by
 have l2:=looks_findIn (M:=model prog w) X hf;have c:=Ad2 T (.ref e);have ne:e≠h.objs.size:=Nat.ne_of_lt (Heap.lt_size he)
 generalize h1d:((h.push { cls:=.type "dict",data:=.dict #[] }).update e λo=>{ cls:=o.cls,dict:=some h.objs.size,data:=o.data,slots:=o.slots })=h1
 have x1:h1.get? e=some (Lj C (some h.objs.size) t0):=by rw[<- h1d];exact Heap.get?_update_self _ (Heap.get?_push_of_some _ he) rfl
 have k1:∀b o,b≠e->h.get? b=some o->h1.get? b=some o:=λb o n z=>by rw[<- h1d];exact(Heap.get?_update_ne _ _ _ _ n).trans (Heap.get?_push_of_some _ z)
 have n1:h1.Ns1 h.objs.size (λ_=>none):=Heap.Ns1.of_empty ⟨_,#[],_,by rw[<- h1d];exact(Heap.get?_update_ne _ _ _ _ ne.symm).trans (Heap.get?_push_at rfl rfl),rfl,λe he=>absurd he (by simp),λ_=>rfl⟩
 unfold Builtin.«object.__setattr__»
 repeat (first | rw[h1d] | rw[refuse_eq] | rw[refuseLoop_ref,c] | with_reducible refine wpAny_loadPart_at he ?_ | with_reducible refine wpAny_mroOf_exc hC ?_ | with_reducible refine l2.here ?_ | with_reducible refine wpAny_nsSet1 n1 λa hn hs=>?_ | wp_step)
 obtain⟨oD,eD,pD,hoD,hdD,i⟩:=hn.count (Within.cons f v Within.nil)
 refine wpAny_loadPart hoD ?_
 rw[hdD,pastItsLine_dict (Nat.le_trans i (by rw[List.length_cons,List.length_nil,sizeLine_eq];omega))]
 refine wpAny_pure (wpAny_pure (hq a _ (λb o n z=>?_) ((hs.2 e ne).trans x1) hn))
 exact(hs.2 b (Nat.ne_of_lt (Heap.lt_size z))).trans (k1 b o n z)
theorem A2k {Q:Unit->Shared->Prop}(X:K.In h)(T:OwnTail h bmV bm)(hC:h.get? C=some (excClassObj nm q C N bs bm true sn sub ab col dd k0 k1 k2 k3 k5 "ValueError.__new__")) (hs:findIn K (.ref C) "__setattr__" = some (some (.builtin "object.__setattr__"))) (hf:findIn K (.ref C) f=some none)
 (he:h.get? e=some (Lj C none t0))
 (hq:∀h' tk,(∀b o,b≠e->h.get? b=some o->h'.get? b=some o)->h'.get? e=some (Lj C (some h.objs.size) t0)->h'.Ns1 h.objs.size (λy=>if y=f then some v else none)->Q () ⟨h',g,d,tk,os⟩) :
 wpAny (model prog w) A (setAttr (.ref e) f v) Q E ⟨h,g,d,t,os⟩:=by
 have SF:=PySem.F.store_ValueError;have f3:=SF.slot.bind (.ref e);have l1:=looks_findIn (M:=model prog w) X hs;unfold setAttr callSpecial? specialOf
 repeat (any_goals (first | assumption | with_reducible refine wpAny_loadPart_at he ?_ | with_reducible refine l1.here ?_ | wp_step))
 refine codeAny_call_builtin SF.slot.plain SF.entry (A2a T hC he (A2i X T hC hf he λh' tk k1 k2 k3=>?_))
 repeat (any_goals (first | assumption | wp_step))
 exact hq h' tk k1 k2 k3
end
section
variable {prog:Program}{w:World}{A:Around}{E:Value->Shared->Prop}{h:Heap}{g:Array GenState}{d:Drawn}{t:Nat}{os:OsState}{a C dx:Addr}{o:Obj}{K:PySem.W.Frag}{f:Str}{v:Value}{m:Str->Option Value}
theorem A5d {tk:Tok}{vs:Array Value}{Q:Fin->Shared->Prop}(X:K.In h)(Z:Kh K C)(c:findIn K (.ref C) f=some none)(hx:h.get? a=some o)(hc:o.cls=.ref C)(hd:o.dict=some dx)(ho:o.data=.fields vs)(hn:h.Ns1 dx m)(hm:m f=some v)(q:Q (.done (.ret v)) ⟨h,g,d,t,os⟩) :
 wpAny (model prog w) A (Builtin.«object.__getattribute__» ⟨[.ref a,.str f tk],[]⟩) Q E ⟨h,g,d,t,os⟩:=by
 obtain⟨s,F,G,H,n,p,e,r,i,u,x,y,z,B,D,b,T⟩:=Ht X Z.exc;have j:=looks_findIn (M:=model prog w) X c;have k:=hn.ns;obtain⟨I,J,L,l⟩:=o
 cases hc;cases hd;cases ho
 unfold Builtin.«object.__getattribute__»
 repeat (any_goals (first | assumption | with_reducible refine wpAny_loadPart_at hx ?_ | with_reducible refine wpAny_loadPart_at b ?_ | with_reducible refine j.here ?_ | (with_reducible refine wpAny_nsGet k ?_;rw[hm]) | wp_step))
theorem B1y {tk:Tok}{c b:Bool}{vs:Array Value}{Q:Value->Shared->Prop}(X:K.In h)(Z:Kh K C)(i:findIn K (.ref C) f=some none)(hx:h.get? a=some o)(hc:o.cls=.ref C)(hd:o.dict=some dx)(ho:o.data=.fields vs)(hn:h.Ns1 dx m)(hm:m f=some v)(j:handedOut v=pure v)(p:Q v ⟨h,g,d,t,os⟩) :
 wpAny (model prog w) A (getAttrBy (.ref a) (.str f tk) c b) Q E ⟨h,g,d,t,os⟩:=by
 have n:=PySem.F.excAttr_ValueError.ga.bind (.ref a)
 have r:(b&&onTheHeap (Value.builtin "BaseException.__getattribute__"))=false:=by cases b <;> rfl
 have l:(Value.builtin "BaseException.__getattribute__" == Value.builtin "object.__getattribute__")=false:=by decide +kernel
 have q:(onTheHeap (Value.ref C)&&Value.builtin "BaseException.__getattribute__" == Value.builtin "object.__getattribute__")=false:=by rw[l];rfl
 have k:=looks_findIn (M:=model prog w) X Z.ga;have e:=looks_findIn (M:=model prog w) X Z.gat
 repeat (any_goals (first | assumption | (with_reducible refine wpAny_loadPart_at hx ?_;rw[hc]) | with_reducible refine k.here ?_ | with_reducible refine e.here ?_ | wp_step))
 refine codeAny_call_builtin PySem.F.excAttr_ValueError.ga.plain PySem.F.entry_bexc_ga (Ag2 X Z hx hc (A5d X Z i hx hc hd ho hn hm ?_))
 repeat (any_goals (first | assumption | rw[j] | wp_step))
theorem Ba3 {b:Bool}{vs:Array Value}{Q:Value->Shared->Prop}(X:K.In h)(Z:Kh K C)(c:findIn K (.ref C) f=some none)(hx:h.get? a=some o)(hc:o.cls=.ref C)(hd:o.dict=some dx)(ho:o.data=.fields vs)(hn:h.Ns1 dx m)(hm:m f=some v)(i:handedOut v=pure v)(e:Q v ⟨h,g,d,t+1,os⟩) :
 wpAny (model prog w) A (getAttr (.ref a) f b) Q E ⟨h,g,d,t,os⟩:=by
 unfold getAttr
 repeat (any_goals (first | assumption | with_reducible apply B1y X Z c _ _ _ _ _ _ _ | wp_step))
end
theorem Al0 {x:V}{u:Value}(r:RelV x u):handedOut u=pure u:=by
 cases u with
 | builtin i=>cases x <;> first | (obtain⟨_,e⟩:=r;grind) | cases r
 | _=>rfl
section
variable {X:Cx}{e:Expr}{f:Str}{pos:Pos}{ta:TE}
def tXF (K:PySem.W.Frag)(ta:TE)(f:Str):TE:=λσ H Q=>ta σ H λx H1=>∃a C dx v,x=.ref a/\H1 a=some (Ld a C (some dx))/\H1 dx=some (.xd [(f,v)])/\Kh K C/\findIn K (.ref C) f=some none/\Q v H1
theorem B2b (he:PE X e ta)(hb:attributeBase e f X.env (eval e X.env)=eval e X.env):PE X (.Attribute e f pos) (tXF X.K ta f):=by
 intro d s σ H Q I h
 refine Bf1 hb (thn (he _ s _ H _ I h) λu s1 ⟨x,j,c,k,a,C,dx,v,l,m,p,Z,n,q⟩=>?_)
 subst l;obtain rfl:u=Value.ref a:=k;obtain⟨⟨o,g,i,t,vs,w⟩,_⟩:=c.hok a _ m;obtain⟨r,y,A⟩:=c.hok _ _ p;have b:=A f;rw[List.lookup_cons_self]at b
 cases em:r f with
 | none=>rw[em]at b;trivial
 | some z =>
  rw[em]at b;exact Ba3 c.kIn Z n g i t w y em (Al0 b) ⟨v,j,c.tok _,b,q⟩
theorem B0z {Kq:PySem.W.Frag}(a:X.K=Kq)(he:QE X e ta)(hb:attributeBase e f X.env (eval e X.env)=eval e X.env:=by rfl):QE X (.Attribute e f pos) (tXF Kq ta f):=by
 subst a;exact⟨B2b he.get hb⟩
end
end L2
namespace L2
open PySem PySem.Spec PyProof.Rows PySem.W
def exI (e C:Addr)(d:Option Addr):HO:=.ext λh=>∃t,h.get? e=some (Lj C d t)
theorem Ao2 {P:Program}{w:World}{H:Hp}{h:Heap}{e C t:Addr}{d:Option Addr}(z:h.get? e=some (Lj C d t)):z9 P w H h e (exI e C d):=⟨⟨t,z⟩,⟨_,z⟩,λb a ⟨t,z⟩ k=>⟨t,k _ z⟩⟩
structure S8 (K:Frag) (C F:Addr) (f:Str):Prop where
 exc:Wn K C=true
 sa:findIn K (.ref C) "__setattr__" = some (some (.builtin "object.__setattr__"))
 fld:findIn K (.ref C) f=some none
 ty:typeIn K (.ref F)=some (.type "type")
 third:nsIn K cStatics "thirdparty.any" = some none
 base:findIn K (.ref F) "__init__" = some (some (.builtin "ValueError.__init__"))
theorem A3s {H:Hp}{a:Addr}{o:HO}(h:H a=some o):upd H a o=H:=by
 funext b
 by_cases e:b=a
 ·subst e;rw[Ax,h]
 ·rw[Ag e]
section
variable {X:Cx}{C F:Addr}{f x:Str}{p ap cp ep tp pos:Pos}{e o value:Expr}{es:List Expr}{t:TA}{ta tv:TE}
def B1a (C:Addr)(t:TA):TS:=λD σ H=>t σ H λvs H1=>∃e u,vs=[.ref e,u]/\H1 e=some (exI e C none)/\D.nx σ H1
theorem Bo7 (Z:S8 X.K C F f)(hg:Gl X x)(hm:X.mg x=some (.ref F))(ha:QA X (e::es) t)(hdb:(x==("__debug__" : Str))=false) (he:starEach (e::es) X.env=(false,eval e X.env)::starEach es X.env) (hpl:(backTo cp (starEach es X.env)).any (·.1)=false)
 (hsw:swapsWith (.Call (.Attribute (.Name x p) "__init__" ap) (e::es) [] cp) none ep.line X.env=pure false) (hl:(ap.endLine==cp.line)=true) (hfew:methodCallForm ((e::es).length+([]:List Keyword).length) (backTo cp (starEach (e::es) X.env)) (backToKw cp (keywordEach [] X.env))=true) :
 QS X (.Expr (.Call (.Attribute (.Name x p) "__init__" ap) (e::es) [] cp) ep) (B1a C t):=by
 obtain⟨ha⟩:=ha
 refine⟨?_⟩
 intro m s o H D I h
 refine wpAny_Expr_any ?_ I.quiet hsw
 have b:methodCallPos true (.Name x p) X.env ap cp=pure cp:=by unfold methodCallPos;grind
 rw[arm_eval_Call,show attributeBase (.Name x p) "__init__" X.env (eval (.Name x p) X.env)=eval (.Name x p) X.env from rfl]
 refine wpAny_bind (Lg I hg hm ?_ hdb)
 refine wpAny_bind (wpAny_standAt ?_)
 unfold methodCall;rw[hfew]
 refine wpAny_bind (wpAny_holding (A3h I.kIn Z.ty Z.third Z.base ?_))
 refine wpAny_bind (wpAny_of_eq b ?_)
 refine PyProof.Rows.callWith_builtin1 (thn (ha _ _ _ _ H _ (I.tok _) h) λus w ⟨vs,E,i,r,a,u,v,c,q⟩=>?_) he hpl
 subst v;obtain⟨u1,u2,rfl,n,r3⟩:=vals2 r
 cases (n)
 obtain⟨⟨t0,ha⟩,_⟩:=i.hok a _ c;obtain⟨bm,Nn,nm,qn,bs,sn,z,ab,A,dd,k0,k1,k2,k3,k5,y,T⟩:=Ht i.kIn Z.exc;obtain⟨hp,g,d,B,os⟩:=w
 refine Bb0 T y ha λh' t1 k l=>?_
 have j:=i.write (t':=B) (by rw[c];trivial) (.inl rfl) k ⟨_,l⟩ (Ao2 l)
 rw[A3s c]at j;exact⟨o,E,j,q⟩
def Bz3 (C:Addr)(f:Str)(ta tv:TE):TS:=λD σ H=>tv σ H λy H1=>ta σ H1 λx H2=>∃e,x=.ref e/\H2 e=some (exI e C none)/\∀dx,H2 dx=none->D.nx σ (upd (upd H2 e (exI e C (some dx))) dx (.xd [(f,y)]))
theorem Bv9 (Z:S8 X.K C F f)(ha:QE X o ta)(hv:QE X value tv)(hs:swapsWith value (some (.Attribute o f tp)) pos.line X.env=pure false):QS X (.Assign [.Attribute o f tp] value pos) (Bz3 C f ta tv):=by
 obtain⟨ha⟩:=ha
 refine⟨?_⟩
 intro b s m H D I h
 refine plainObj_wpAny_Assign_Attribute (thn (hv.1 b s m H _ I h) λu O ⟨y,P,S,E,q⟩=>thn (ha b O m P _ S q) λK j ⟨x,r,i,Q,a,U,v,G⟩=>?_) hs
 subst U;obtain rfl:K=Value.ref a:=Q;obtain⟨⟨t0,ha⟩,_⟩:=i.hok a _ v;obtain⟨bm,Nn,nm,qn,bs,sn,L,ab,M,dd,k0,k1,k2,k3,k5,N,T⟩:=Ht i.kIn Z.exc;have t:r j.heap.objs.size=none:=i.hok.fresh (Nat.le_refl _);have l:Lr X b r j.heap.objs.size:=i.fpOk (Nat.le_refl _) t
 have J:j.heap.objs.size≠a:=λz=>by simp_all
 have R:X.s₀.heap.get? j.heap.objs.size=none:=Heap.get?_none_of_le i.sz;obtain⟨w,g,d,tk,os⟩:=j
 refine A2k i.kIn T N Z.sa Z.fld ha λh' n k A V=>?_
 have B:=i.write (x:=a) (e:=a) (t':=n) (by rw[v];trivial) (.inl rfl) k ⟨_,A⟩ (Ao2 A)
 refine⟨m,_,B.track (o:=.xd _) (by rw[Ag J];grind) R l.2.1 (λx c e=>l.2.2.2.2.1 x c e) (λp w=>l.2.2.2.2.2 p w) ⟨_,V,λz=>?_⟩,G _ t⟩
 by_cases hz:z=f
 ·subst hz;rw[List.lookup_cons_self,if_pos rfl];exact E
 ·rw[if_neg hz,List.lookup_cons,beq_false_of_ne hz];trivial
end
theorem Pa {x:Str}{e:Expr}(h:isNm x e=true):∃p,e=.Name x p:=by
 unfold isNm at h
 grind
theorem Ba2 {x f:Str}{e:Expr}(h:isAt x f e=true):∃p q,e=.Attribute (.Name x p) f q:=by
 unfold isAt at h
 split at h
 ·obtain⟨a,b⟩:=Bool.and_eq_true_iff.mp h
  obtain⟨p,rfl⟩:=Pa a
  exact⟨p,_,by rw[beq_iff_eq.mp b]⟩
 trivial
theorem Yo {x:Str}{e:Expr}(h:A7w x e=true):∃k p,e=.Constant (.str x) k p:=by
 unfold A7w at h
 grind
theorem Av6 {x:Str}{e:Expr}(h:Bc3 x e=true):∃p q,e=.FormattedValue (.Name x p) 114 none q:=by
 unfold Bc3 at h
 split at h
 ·obtain⟨a,b⟩:=Bool.and_eq_true_iff.mp h
  obtain⟨p,rfl⟩:=Pa a
  exact⟨p,_,by rw[beq_iff_eq.mp b]⟩
 trivial
theorem By0 {s:Stmt}{g:Expr}{a:List Expr}(h:stE s=some (g,a)):∃q p r,s=.Expr (.Call (.Attribute g "__init__" q) a [] p) r/\(q.endLine==p.line)=true:=by
 unfold stE at h
 grind
theorem Bo0 {s:Stmt}{g v:Expr}(h:stA s=some (g,v)):∃p,s=.Assign [g] v p:=by
 unfold stA at h
 grind
theorem A9z {F p f y z:Str}{b:List Stmt}(h:Bo3 F p f y z b=true):∃s u o e l i n j q r k m,b=[s,u]/\s=.Expr (.Call (.Attribute (.Name F o) "__init__" e) [.Name "self" l,j] [] i) n/\A6e p y z j=true/\(e.endLine==i.line)=true/\u=.Assign [.Attribute (.Name "self" q) f r] (.Name p k) m:=by
 unfold Bo3 at h
 split at h
 ·obtain⟨c,d⟩:=Bool.and_eq_true_iff.mp h
  split at c
  ·rename_i g a j t
   split at d
   ·rename_i g2 v x
    simp at c d
    obtain⟨e,i,n,rfl,w⟩:=By0 t;obtain⟨m,rfl⟩:=Bo0 x;obtain⟨o,rfl⟩:=Pa c.1;obtain⟨l,rfl⟩:=Pa c.2.1;obtain⟨q,r,rfl⟩:=Ba2 d.1;obtain⟨k,rfl⟩:=Pa d.2;exact⟨_,_,o,e,l,i,n,j,q,r,k,m,rfl,rfl,c.2.2,w,rfl⟩
   ·cases d
  ·cases c
 ·cases h
theorem A9t {p:Str}{a:Arguments}(h:Br1 p a=true):∃x y d c,a=⟨[],[⟨"self",x,d⟩,⟨p,y,c⟩],none,[],[],none,[]⟩:=by
 unfold Br1 at h
 split at h
 ·rename_i a b
  obtain⟨e,x,d⟩:=a;obtain⟨f,y,c⟩:=b
  simp_all
 trivial
def spI (C:Addr)(n:Nat)(f:Str):Sp:=λvs H Q _=>∃e v d,vs=[.ref e,v]/\H e=some (exI e C none)/\Tr H d v/\An4 n d=true/\∀dx,H dx=none->Q .non (upd (upd H e (exI e C (some dx))) dx (.xd [(f,v)]))
section
end
theorem B2d {X:Cx}{p y z:Str}{j:Expr}(hu:X.A.units+64<cLine)(a:X.A.guards=some [])(b:y.length<=1000)(d:z.length<=1000)(c:∀ps,QE X (.Name p ps) (Va 1))(hj:A6e p y z j=true):QE X j (tFs y.length (Va 1))/\∃l ps,j=.JoinedStr l ps:=by
 unfold A6e at hj
 split at hj
 ·simp at hj
  obtain⟨_,_,rfl⟩:=Yo hj.1;obtain⟨_,_,rfl⟩:=Av6 hj.2;exact⟨A3i hu a Rg b (c _) Bm4 (Nat.zero_le _),_,_,rfl⟩
 ·simp at hj
  obtain⟨_,_,rfl⟩:=Yo hj.1.1;obtain⟨_,_,rfl⟩:=Av6 hj.1.2;obtain⟨_,_,rfl⟩:=Yo hj.2;exact⟨A3i hu a Rg b (c _) (Br6 Rg) d,_,_,rfl⟩
 trivial
theorem A9b {X:Cx}{C b:Addr}{F p f y z:Str}{j:Expr}{w d h e v x i k m:Pos}(Z:S8 X.K C b f)(n:X.N[0]?=some ("self" : Str)) (h1:X.N[1]?=some p) (s0:Vis X.env.scope "self") (s1:Vis X.env.scope p) (hg:Gl X F) (hm:X.mg F=some (.ref b)) (hu:X.A.units+64<cLine) (o:X.A.guards=some [])
 (q:y.length<=1000) (r:z.length<=1000) (s:(p==("__debug__" : Str))=false) (t:(p==("__classdict__" : Str))=false) (u:(F==("__debug__" : Str))=false) (hj:A6e p y z j=true) (hl:(d.endLine==e.line)=true) :
 QSs X [.Expr (.Call (.Attribute (.Name F w) "__init__" d) [.Name "self" h,j] [] e) v,.Assign [.Attribute (.Name "self" x) f i] (.Name p k) m] (A7l (B1a C (Cj (Va 0) (Cj (tFs y.length (Va 1)) Fp))) (Bz3 C f (Va 0) (Va 1))):=by
 have c:∀a,QE X (.Name _ a) _:=λa=>qv 0 n s0
 have g:∀a,QE X (.Name p a) _:=λa=>qv 1 h1 s1 s t
 obtain⟨A,l,a,rfl⟩:=B2d hu o q r g hj;exact Ah (Bo7 Z hg hm (Af (c _) (Af A Ae)) u rfl rfl rfl hl rfl) (Aj (Bv9 Z (c _) (g _) rfl))
def Ax5 (p:Str):Prop:=∀(fd:FuncData) (x y:Option Expr) (a1 a2:Pos) (u1 u2:Value),fd.params=⟨[],[⟨"self",x,a1⟩,⟨p,y,a2⟩],none,[],[],none,[]⟩->fd.defaults=.none->bindArgs fd ⟨[u1,u2],[]⟩=pure [(("self" : Str),u1),(p,u2)]
theorem Bf4 {K:Frag}{D:Jv}{a:Addr}(hB:Ax5 D.p)(h:Xe K D a=true)(L:Al9 D=true):∃g k c,K.lookup a=some ⟨.type "function",k,.func g,c⟩/\Binds K g ["self",D.p] [] /\
 ∀{P:Program} {w:World} {mg:Str->Option Value} {base:Heap} {C o:Addr},S8 K C o D.f->mg D.F=some (.ref o)->FnOk P w K mg base CX0 1 a g ["self",D.p] (spI C D.y.length D.f):=by
 obtain⟨q,F,p,f,y,z⟩:=D;simp only[Al9,Bool.and_eq_true,decide_eq_true_eq,bne_iff_ne,beq_iff_eq]at L;obtain⟨ly,lz,np,n1,n2,nd⟩:=L;unfold Xe at h
 split at h
 ·rename_i k g c M
  unfold fnB at h;simp only[Bool.and_eq_true,beq_iff_eq,List.isEmpty_iff,decide_eq_true_eq]at h;obtain⟨O,R,V,W,G,I,B,l,i⟩:=h
  split at i
  ·rename_i b N
   obtain⟨nm,qn,par,bd,sc,gl,cl,df,kd,dc,pm,an,co,ct,bu⟩:=g
   dsimp only at O R V W G I B l N
   subst O R V W G N;obtain⟨x1,x2,a1,a2,rfl⟩:=A9t B;obtain⟨s,u,p1,p2,p3,p4,p5,j,p6,p7,p8,p9,rfl,rfl,hj,n,rfl⟩:=A9z i;simp only[B2m,Bool.and_eq_true,decide_eq_true_eq,Bool.not_eq_true',beq_iff_eq,List.all_eq_true,bne_iff_ne]at l;obtain⟨s1,s2,s3,J,U,s6,s7⟩:=l
   refine⟨_,k,c,M,.all λus n=>?_,λ{P w mg base C o} Z hm=>?_⟩
   ·match us,n with
    | [_,_],_=>exact hB _ _ _ _ _ _ _ rfl rfl
   ·have S:Bl ["self",p] ["self",p] sc:=⟨s1,s2,s3,by simp[Ne.symm np],rfl,λx m=>.inl (by
     rcases List.mem_cons.mp m with rfl | m
     ·exact J
     ·cases List.mem_singleton.mp m;exact U),s7⟩
    refine As5 M I S λvs H Q E ⟨_,_,_,e,_⟩=>by rw[e];rfl λA r s H vs Q E T t=>?_
    obtain⟨e,v,d,rfl,X,td,hs,Y⟩:=t
    refine Gu (A9b Z rfl rfl (.inl J) (.inl U) s6 hm T.units T.gd ly lz n1 n2 nd hj n) ?_
    exact⟨.ref e,rfl,v,rfl,d,td,hs,λz=>⟨e,.str z,rfl,X,v,rfl,.ref e,rfl,e,rfl,X,Y⟩⟩
  ·cases i
 ·cases h
theorem Aw6 {p:Str}(h:∀(nm q:Str) (l:FuncBody) (d:Scope) (e:Addr) (f:List (Str×Addr)) (kd g i:Value) (j:Option Addr) (k c:Value) (m:Addr) (x y:Option Expr) (n o:Pos) (b a:Value),bindArgs ⟨nm,q,⟨[],[⟨"self",x,n⟩,⟨p,y,o⟩],none,[],[],none,[]⟩,l,d,e,f,.none,kd,g,i,j,k,c,m⟩ ⟨[b,a],[]⟩=pure [(("self" : Str),b),(p,a)]):Ax5 p:=by
 intro r x y n o b a v u;obtain⟨nm,q,s,l,d,e,f,t,kd,g,i,j,k,c,m⟩:=r
 simp_all
example:Ax5 "name" := Aw6 λ_ _ _ _ _ _ _ _ _ _ _ _ _ _ _ _ _ _ _=>rfl
section
variable {X:Cx}{pins:List (Addr×Obj)}{σ:St}{H:Hp}{s:Shared}
theorem Inv.drop {e:Addr}{h:Heap->Prop}(I:Inv X pins σ H s)(j:H e=some (.ext h))(f:Lr X pins (λb=>if b=e then none else H b) e):Inv X pins σ (λb=>if b=e then none else H b) { s with heap:=s.heap.hide e }:=by
 have d:∀b,b≠e->(s.heap.hide e).get? b=s.heap.get? b:=λb n=>Heap.hide_ne s.heap n
 have x:∀b u,H b=some u->(∀h,u≠.ext h)->b≠e:=λb u q n z=>by rw[z,j]at q;exact n h (Option.some.inj q).symm
 have D:∀b,H b=none->b≠e:=λb q z=>by rw[z,j]at q;cases q
 obtain⟨_,i,E,t,l,w⟩:=f
 refine I.step (g':=s.gens) (d':=s.drawn) (t':=s.toks) (ch:=[e]) (λb g=>?_) (λb o _ _ a q _=>(d b λz=>a (by simp[z])).trans q) (λb o _ _ a q _=>⟨o.slots,(d b λz=>a (by simp[z])).trans q⟩) (λb o a q n=>by show (if b=e then none else H b)=none;rw[if_neg (λz=>a (by simp[z]))];exact n)
  (λb o a q=>⟨o,(d b λz=>a (by simp[z])).trans q⟩) (λb k q=>?_) (λb o u q=>?_) (λb q z=>?_) (λm p=>?_) (λb u q=>?_) I.bare
 ·cases List.mem_singleton.mp g
  exact⟨t,i,l,w⟩
 ·simp_all
 ·simp_all
 ·show (if b=e then none else H b)=_;rw[if_neg (x b _ z λ_ z=>nomatch z)];exact z
 ·obtain⟨o,A,y,B,r⟩:=p
  exact⟨o,A,y,(d _ (Ne.symm i)).trans B,r⟩
 ·by_cases g:b=e
  ·rw[if_pos g]at q;cases q
  ·rw[if_neg g]at q
   refine (I.hok b u q).stay (λc v a z=>(d c ?_).trans z) (λc z=>?_) (λc k z=>?_) λc C k z=>?_
   ·grind
   ·grind
   ·simp_all
   simp_all
end
section
variable {X:Cx}{x f p:Str}{C Fa fI:Addr}{n:Nat}{np cpos pos:Pos}{e:Expr}{te:TE}{E:XK}{od:Option Addr}{osl:Array (Option Value)}{fd:FuncData}
def Aa4 (C:Addr)(n:Nat)(f:Str)(E:XK)(t:TA):TS:=λ_ σ H=>t σ H λvs H1=>∃v d,vs=[v]/\Tr H1 d v/\An4 n d=true/\∀dx,H1 dx=none->E (.ref C) (some dx) (upd H1 dx (.xd [(f,v)]))
theorem Az7 (hR:Raises X E)(hc:X.calm=true)(hg:Gl X x)(hm:X.mg x=some (.ref C))(Z:S8 X.K C Fa f)(hi:findIn X.K (.ref C) "__init__" = some (some (.ref fI))) (lk:X.K.lookup fI=some ⟨.type "function",od,.func fd,osl⟩) (hb:Binds X.K fd ["self",p] [])
 (F:FnOk X.prog X.w X.K X.mg X.base CX0 1 fI fd ["self",p] (spI C n f)) (hr:Room 2 X.A) (ha:PE X e te) (hst:isStar e=false) (hdb:(x==("__debug__" : Str))=false:=by decide) (he:starEach [e] X.env=(false,eval e X.env)::starEach [] X.env:=by rfl) :
 PS X (.Raise (some (.Call (.Name x np) [e] [] cpos)) none pos) (Aa4 C n f E (Cj te Fp)):=by
 intro k s σ H D I h;obtain⟨bm,Nn,S,qn,U,Y,w,ab,A,dd,V,k1,k2,k3,k5,M,T⟩:=Ht I.mod.kin Z.exc
 refine Al5 (C:=C) (nm:=S) (q:=qn) (N:=Nn) (bs:=U) (bm:=bm) (hdct:=true) (sn:=Y) (sub:=w) (ab:=ab) (col:=A) (dd:=dd) (k0:=V) (k1:=k1) (k2:=k2) (k3:=k3) (k5:=k5) (newId := "ValueError.__new__") (T.hasType (X := "BaseException") (b:=true) rfl) (I.ok.hd hc) (by rw[he];rfl) (Lg I hg hm ⟨rfl,?_⟩ hdb)
 have hs:=A6r ha (Ri (X:=X)) hst cpos k s σ H _ I h;rw[he]at hs ⊢
 refine Calls.evalArgs_plain (wpAny_mono hs (λus s2 ⟨vs,l,m,R,v,d,W,td,sh,q⟩=>?_) λ_ _ z=>z)
 subst W;have P:∀b o,X.base.get? b=some o->s2.heap.get? b=some o:=m.bk;obtain⟨u,rfl,ru⟩:=vals1 R
 refine⟨rfl,P _ _ M,?_⟩
 obtain⟨hp,g,d0,tk,os⟩:=s2
 refine A0n m.kIn (T.keeps P) (P _ _ M) hi (m.kIn _ _ lk) rfl (by show 1<=sizeLine;decide) λh' i hM K=>?_
 obtain⟨t0,O,_⟩:=hM.there;have G:l i=none:=m.hok.fresh K;have J:Lr X k l i:=m.fpOk K G;have h0:X.s₀.heap.get? i=none:=Heap.get?_none_of_le (Nat.le_trans m.sz K);have I3:Inv X k σ l ⟨h',g,d0,tk,os⟩:=m.kept (t':=tk) hM.keeps
 have L:=I3.track (a:=i) (o:=exI i C none) G h0 J.2.1 (λx c e=>J.2.2.2.2.1 x c e) (λp hp=>J.2.2.2.2.2 p hp) (Ao2 O)
 have r4:Vals [.ref i,v] [.ref i,u]:=.cons rfl R
 have sp:spI C n f [.ref i,v] (upd l i (exI i C none)) (λr H3=>∃j,l j=none/\j≠i/\r=.non/\H3=upd (upd l i (exI i C (some j))) j (.xd [(f,v)])) E0 :=
  ⟨i,v,d,rfl,Ax,Tr.same (λb o z=>by rw[Ag (Bd z G)];exact z) td,sh,λj t=>by
   have y:j≠i:=λz=>by rw[z,Ax]at t;cases t
   rw[Ag y]at t
   exact⟨j,t,y,rfl,by rw[Bf5]⟩⟩
 refine wpAny_call (codeAny_mono (F.run _ X.stack _ _ ⟨[.ref i,u],[]⟩ [.ref i,u] [.ref i,v] _ E0 (hr.make C [u] []) (L.env0.make C [u] []) (hb _ [.ref i,u] L.kIn rfl) r4 sp) λr s' B=>?_)
 cases r with
 | error W=>exact False.elim B
 | ok fl =>
  cases fl with
  | next=>exact False.elim B
  | brk=>exact False.elim B
  | cont=>exact False.elim B
  | ret z =>
   obtain⟨v5,H5,Q,r5,j,t,y,rfl,rfl⟩:=L.after B;obtain rfl:z=Value.none:=r5
   have e5:upd (upd l i (exI i C (some j))) j (.xd [(f,v)]) i=some (exI i C (some j)):=by rw[Ag (Ne.symm y),Ax]
   obtain⟨⟨t1,x1⟩,_⟩:=Q.hok i _ e5
   have eH:(λb=>if b=i then none else upd (upd l i (exI i C (some j))) j (.xd [(f,v)]) b)=upd l j (.xd [(f,v)]):=by
    funext b
    by_cases hb:b=i
    ·subst hb;rw[if_pos rfl,Ag (Ne.symm y)];exact G.symm
    ·rw[if_neg hb];unfold upd;split
     ·rfl
     ·first | rfl | rw[if_neg _]
   have I6:=Q.drop e5 ⟨by simp,J.2⟩
   rw[eH]at I6
   refine⟨rfl,i,some _,t1,rfl,Q.bk _ _ M,x1,?_⟩
   exact hR _ _ _ { s' with heap:=s'.heap.hide _ } _ _ C _ I6 ⟨λb o z=>Heap.of_hide z,Heap.hide_self ..,_,_,x1,rfl,rfl,rfl,rfl⟩ (q _ t)
theorem Fun.okXL {P:Program}{w:World}{K:PySem.W.Frag}{mg:Str->Option Value}{base:Heap}{x qual:Str}{st:Stmt}{f:Addr}{fd:FuncData}{N ps:List Str}{k:Nat}{sp:Sp}(F:Fun K x qual st f fd)(S:Bl N ps (An st))(len:∀vs H Q E,sp vs H Q E->vs.length=ps.length)
 (hbody:∀(cdv:Value) (A:Around) (outer:List Env) (s:Shared) (H:Hp) (vs:List V) (Q:VK) (E:XK),fd.code=cdv->Room k (A.deeper (envOfC qual (An st) s.heap.objs.size f cdv))->sp vs H Q E ->
  ∃t,PSs (Pz (CXe P w) P w K mg base N qual (An st) f cdv A outer s H E) (Gz st) t/\t { nx:=λ_ H'=>Q .non H',rt:=Q } (start N vs) H):FnOk P w K mg base (CXe P w) (k+1) f fd ps sp:=by
 obtain⟨oc,od,kV,doc,pm,an,cdv,ct,osl,rfl,lk,hcd⟩:=F.ex
 exact As5 lk hcd S len λA outer s H vs Q E hr hsp=>hbody cdv A outer s H vs Q E rfl hr hsp
theorem A0u (b:Raises X E)(hc:X.calm=true)(hg:Gl X x)(hm:X.mg x=some (.ref C))(Z:S8 X.K C Fa f)(hi:findIn X.K (.ref C) "__init__" = some (some (.ref fI))) (a:X.K.lookup fI=some ⟨.type "function",od,.func fd,osl⟩) (hb:Binds X.K fd ["self",p] [])
 (F:FnOk X.prog X.w X.K X.mg X.base CX0 1 fI fd ["self",p] (spI C n f)) (hr:Room 2 X.A) (ha:QE X e te) (hst:isStar e=false:=by rfl) (hdb:(x==("__debug__" : Str))=false:=by decide) (he:starEach [e] X.env=(false,eval e X.env)::starEach [] X.env:=by rfl) :
 QS X (.Raise (some (.Call (.Name x np) [e] [] cpos)) none pos) (Aa4 C n f E (Cj te Fp)):=⟨Az7 b hc hg hm Z hi a hb F hr ha.get hst hdb he⟩
end
section
variable {K K':Frag}
theorem A2p (s:J6 K K'){c:Value}{q:Str}(e:codeIn K c q=true):codeIn K' c q=true:=by
 unfold codeIn at e ⊢
 split at e
 ·split at e
  ·rename_i a;rw[s _ _ a];grind
  grind
 trivial
theorem A6a (s:J6 K K'){D:Jv}{a:Addr}(e:Xe K D a=true):Xe K' D a=true:=by
 unfold Xe at e ⊢
 split at e
 ·rename_i c
  rw[s _ _ c];unfold fnB at e ⊢
  simp at e ⊢
  obtain⟨d,f,g,h,i,j,b⟩:=e;exact⟨d,f,g,h,i,A2p s j,b⟩
 trivial
theorem Bw8 (s:J6 K K'){C F:Addr}{f:Str}(e:ikB K C F f=true):S8 K' C F f:=by
 unfold ikB at e
 simp at e
 obtain⟨b,c,d,a,h,g⟩:=e
 refine⟨Aa8 s b,Hl s c,Hl s d,?_,Pg s h,Hl s g⟩
 obtain⟨o,i,j⟩:=Option.map_eq_some_iff.mp (show (K.lookup F).map _=_ from a)
 show (K'.lookup F).map _=_
 rw[s _ _ i]
 simp_all
def ClI (K:Frag)(mg:Str->Option Value)(D:Jv)(x:Str):Prop:=∃C F a fd od osl,mg x=some (.ref C)/\nsIn K mainGlobals x=some (some (.ref C))/\(Kh K C/\S8 K C F D.f)/\findIn K (.ref C) "__init__" = some (some (.ref a))/\K.lookup a=some ⟨.type "function",od,.func fd,osl⟩/\Binds K fd ["self",D.p] [] /\
 ∀(P:Program) (w:World) (base:Heap),FnOk P w K mg base CX0 1 a fd ["self",D.p] (spI C D.y.length D.f)
def B2v (K:Frag)(F:Addr)(NS:List Str):Prop:=∀nm∈NS,∀C,nsIn K mainGlobals nm=some (some (.ref C))->exmOne K (.ref C) (.ref F)=some false
theorem Bq0 (s:J6 K K'){F:Addr}{b:List Str}(e:exN K F b=true):B2v K' F b:=λd m C a=>by
 obtain⟨c,n,q⟩:=K9 s (List.all_eq_true.mp e _ m);rw[n]at a;cases a;exact X8 s (beq_iff_eq.mp q)
def ClH (K:Frag)(mg:Str->Option Value)(yes no:List Str)(T:Str):Prop:=∃g,mg T=some (.ref g)/\ExOk K g yes/\B2v K g no
def Az8 (J:List (Str×Jv))(Y:List (Str×List Str×List Str))(h:Heap):Prop:=∃K:Frag,ciA J Y K=true/\∀a o,K.lookup a=some o->h.get? a=some o/\Bt4 o=true
variable {J:List (Str×Jv)}{Y:List (Str×List Str×List Str)}{h h':Heap}{mg:Str->Option Value}
theorem B1z {l:List Nat}(e:ciA J Y (Bd5 l h)=true):Az8 J Y h:=⟨Bd5 l h,e,λa o q=>by
 unfold Bd5 at q;rw[Lb]at q
 split at q
 ·obtain⟨c,d,b⟩:=Option.bind_eq_some_iff.mp q
  grind
 grind⟩
theorem A7z (x:Az8 J Y h)(hk:∀b o,h.get? b=some o->h'.get? b=some o):Az8 J Y h' :=
 let ⟨K,e,q⟩:=x; ⟨K,e,λa o z=>⟨hk _ _ (q a o z).1,(q a o z).2⟩⟩
theorem Bi7 (x:Az8 J Y h)(b:K.In h)(G:h.Ns mainGlobals mg)(H:∀a o,h.get? a=some o->Ge o=true->o.data≠.fields #[]->K.lookup a=some o) :
 (∀(i:Nat) (q:Str×Jv),J[i]?=some q->Ax5 q.2.p->ClI K mg q.2 q.1)/\∀(i:Nat) (q:Str×List Str×List Str),Y[i]?=some q->ClH K mg q.2.1 q.2.2 q.1:=by
 obtain⟨N,e,q⟩:=x
 have s := λa o z=>by
  obtain⟨B,g⟩:=q a o z;unfold Bt4 at g
  refine H a o B ?_ ?_
  ·unfold Ge;split at g <;> simp_all
  ·intro y;rw[y]at g;simp at g
 obtain⟨l,r⟩:=Bool.and_eq_true_iff.mp e
 refine⟨λi p m t=>?_,λi p m=>?_⟩
 ·obtain⟨u,z⟩:=Bool.and_eq_true_iff.mp (List.all_eq_true.mp l p (List.mem_of_getElem? m))
  obtain⟨C,n,z⟩:=K9 s z;obtain⟨F,v,z⟩:=K9 s z;obtain⟨c,d⟩:=Bool.and_eq_true_iff.mp z
  split at d
  ·rename_i a D
   obtain⟨E,c⟩:=Bool.and_eq_true_iff.mp c;have Z:=Bw8 s c;obtain⟨A,I,j,L,M,f⟩:=Bf4 t (A6a s d) u
   exact⟨C,F,a,A,I,j,mg_of b G n,n,⟨A3o s E,Z⟩,Hl s D,L,M,λP w k=>f Z (mg_of b G v)⟩
  ·cases d
 ·obtain⟨F,n,z⟩:=K9 s (List.all_eq_true.mp r p (List.mem_of_getElem? m))
  obtain⟨c,d⟩:=Bool.and_eq_true_iff.mp z;exact⟨F,mg_of b G n,Ak6 s c,Bq0 s d⟩
end
end L2
set_option autoImplicit true
namespace U
open PySem L2
def T4 (nm:Str)(n:Nat)(f:Str)(fe:Ev->R PV):Ev->XS:=λc=>match fe c with
 | .bad=>.s .bad
 | .ok p c=>match rdP c p with
  | some (.im d)=>if An4 n d=true then .ex ⟨nm,some (f,d)⟩ c else .s .bad
  | _=>.s .bad
def cXF (NS:List Str)(f:Str)(fe:Ev->R PV):Ev->R PV:=λc=>(fe c).bind λp c=>match rdP c p with
 | some (.ty (.xc nm))=>if NS.contains nm.n=true then match nm.p with
  | some q=>if q.1=f then .ok (.o (.im q.2)) c else .bad
  | none=>.bad
  else .bad
 | _=>.bad
section
variable {K:PySem.W.Frag}{β:Nat->V}{W:Wo}{c:Ev}{σ:St}{D:Ends}{E:XK}{Hf H:Hp}{o:O}{v:V}{fp:List Addr}
theorem B1r {p:PV}{d:PyData}(R:Rep K β W c σ)(r:Ej K W σ p v fp)(e:rdP c p=some (.im d)):Tr W.Hf d v:=by
 cases p with
 | o g=>cases e;exact r.1.2
 | sl i =>
  have e:c[i]?.join=some _:=e
  have b:c[i]?=some (some (.im d)):=by
   grind
  obtain⟨j,a,f,_⟩:=R.get i _ b;have h := r.2;rw[h]at a;cases a;exact f.2
theorem Ay1 {nm f:Str}{n:Nat}{C:Addr}{j:TE}{fe:Ev->R PV}(hn:PySem.W.nsIn K mainGlobals nm=some (some (.ref C)))(h:ME K j fe):MX K E (Aa4 C n f E (Cj j Fp)) (T4 nm n f fe):=by
 intro H W c G D R l;unfold T4 at l
 refine h _ W c _ _ R ?_
 cases e:fe c with
 | bad=>rw[e]at l;exact l
 | ok p x =>
  rw[e]at l;intro v r F s g t
  cases ed:rdP x p with
  | none=>simp only[ed]at l;trivial
  | some o =>
   simp only[ed]at l
   split at l
   ·rename_i d u
    cases u
    split at l
    ·rename_i w
     have i:=B1r g t ed
     refine⟨v,d,rfl,Tr.same g.sub i,w,λm y=>?_⟩
     have b:Stp _ _ _ _ (upd _ _ (.xd [(f,v)])) _:=Stp.newF g.sub y
     have A:Stp r.S _ _ _ _ _:=⟨b.fz,λa o e n=>b.kp a o e λz=>z,λa o e B n q=>b.nf a o e B (λz=>z) q,λa z=>.inl z⟩
     have k := Stp.rep g b (Nf g.sub)
     exact l C _ _ _ ⟨hn,m,v,rfl,Ax,Tr.same b.fz i⟩ ((s.less λa z=>.inl z).trans A) k
    trivial
   trivial
theorem B1g {l:TE}{fe:Ev->R PV}{f:Str}{m:List Str}(hz:∀j∈m,∀C,PySem.W.nsIn K mainGlobals j=some (some (.ref C))->Kh K C/\PySem.W.findIn K (.ref C) f=some none)(h:ME K l fe):ME K (tXF K l f) (cXF m f fe):=by
 intro β W c σ Q R s
 refine h _ W c _ _ R (s.bnd.mono λp t b v1 W1 A k i F=>?_)
 cases ed:rdP t p with
 | none=>simp only[ed]at b;exact b.elim
 | some o =>
  simp only[ed]at b
  split at b
  ·rename_i j w
   cases w
   split at b
   ·rename_i x
    obtain⟨a,C,d,e,n,y⟩:=Ax6 i F ed;subst e;have g:=n.pay
    cases ep:j.p with
    | none=>rw[ep]at b;exact b.elim
    | some q =>
     rw[ep]at b g
     dsimp only at b
     split at b
     ·rename_i B
      obtain⟨D,v,rfl,r,E⟩:=g
      obtain⟨G,u⟩:=hz _ (by simpa using x) C n.ns
      rw[B]at r
      refine⟨a,C,D,v,rfl,i.sub _ _ y,i.sub _ _ r,G,u,?_⟩
      exact b v _ _ (k.less λa z=>by
       grind) i ⟨⟨rfl,E⟩,λa z=>nomatch z⟩
     ·exact b.elim
   ·exact b.elim
  trivial
theorem A6c {mg:Str->Option Value}{D:Jv}{x:Str}(h:ClI K mg D x):∀c∈[x],∀C,PySem.W.nsIn K mainGlobals c=some (some (.ref C))->Kh K C/\PySem.W.findIn K (.ref C) D.f=some none:=λc e C b=>by
 obtain⟨f,F,a,g,i,d,m,n,Z,_⟩:=h
 cases List.mem_singleton.mp e
 rw[n]at b
 cases b
 exact⟨Z.1,Z.2.fld⟩
end
end U
namespace L2
open PySem PySem.Spec PyProof.Rows PySem.W
section
variable {M:Model}{A:Around}{E:Value->Shared->Prop}{s:Shared}{B:Heap}{env:Env}{l outer:List Env}{L e:Addr}{c fl:Value}{d:Option Addr}{Q:Unit->Shared->Prop}
theorem A5g (k:A.frames=some (env::outer))(w:env.frame=some L)(x:FlyD B (env::outer) e c d fl s.heap)
 (r:∀g,FlyD B (env::outer) e c d (rawInt L) g->s.heap.UpToSlots g->Q () { s with heap:=g }):wpAny M A (noteFrame (.ref e) env) Q E s:=by
 obtain⟨y,t,v,F,J,T,G,H,l,⟨rfl,rfl⟩,m,j,⟨I,C⟩,i,h,p⟩:=x
 obtain⟨a,D⟩:=Mx (f:=Obj.mapFields (·.setIfInBounds 3 .none)) i h
 unfold noteFrame;simp only[w]
 refine wpAny_bind (wpAny_field l m j ?_)
 refine wpAny_bind (wpAny_field i h p ?_)
 by_cases q:(fl==rawInt L)=true
 ·rw[if_pos q]
  have K:=eq_of_beq q;subst K;exact wpAny_pure (r _ ⟨y,t,v,F,J,T,G,H,l,⟨rfl,rfl⟩,m,j,⟨I,C⟩,i,h,p⟩ (Heap.UpToSlots.refl _))
 ·rw[if_neg q]
  refine wpAny_bind (wpAny_setField i h (Array.getElem?_eq_some_iff.mp p).1 ?_)
  exact Up k (λb o q=>(a b λz=>by grind).trans (y b o q)) t (v.of_keeps λb o q n=>⟨o,(a b (D b o q n)).trans q,rfl⟩) w ((a e (Ne.symm C)).trans l) m (Array.getElem?_eq_some_iff.mp j).1
   λg f u=>r _ f λb o q n=>u b o ((a b (D b o q n)).trans q) n
theorem A1k (a:A.frames=some (env::outer))(f:env.frame=some L)(x:FlyD B (env::outer) e c d fl s.heap)(g:∀h',FlyD B outer e c d .none h'->s.heap.UpToSlots h'->Q () { s with heap:=h' }):wpAny M A (leaving env (.ref e)) Q E s :=
 wpAny_bind (A5g a f x λk j h=>Qq j λl i b=>g _ i.out (h.trans b))
theorem Bv1 {p:Type}{f:String}{Q:p->Shared->Prop}(x:FlyD B l e c d fl s.heap)(w:∀h' fl',FlyD B l e c d fl' h'->s.heap.UpToSlots h'->E (.ref e) { s with heap:=h' }):wpAny M A (PySem.passOn f (.ref e) env:Sem p) Q E s:=by
 obtain⟨y,F,G,H,u,T,J,K,k,v,h,g,⟨C,r⟩,j,i,D⟩:=x;have I:=(Array.getElem?_eq_some_iff.mp D).1
 refine wpAny_bind (wpAny_field k h g ?_)
 refine wpAny_bind ?_
 refine wpAny_bind (wpAny_field k h g ?_)
 generalize (env.frame.elim _ _)=fv;obtain⟨a,t⟩:=Mx j i
 have m:=Obj.data_mapFields i (·.setIfInBounds 3 fv)
 refine wpAny_setField j i I (wpAny_throw (w _ fv ⟨λb o q=>(a b λz=>by simp_all).trans (y b o q),F,G.of_keeps λb o q n=>⟨o,(a b (t b o q n)).trans q,rfl⟩,?_⟩ λb o q n=>⟨o.slots,(a b (t b o q n)).trans q⟩))
 exact⟨H,u,T,_,_,(a e (Ne.symm r)).trans k,v,h,g,⟨C,r⟩,Heap.get?_update_self _ j (Obj.isFreed_of_fields m),m,by grind⟩
end
def CXg (P:Program)(w:World)(fl:Value):CXT:=λouter H s E e s'=>∃a C d H' B,e=.ref a/\FlyD B outer a (.ref C) d fl s'.heap/\Cov (frs outer) H' s.heap s'.heap B/\(∀b o,s.heap.get? b=some o->b≠a)/\H' a=none/\s'.os=s.os/\AllBare s'.gens/\Un (frs outer) [] H H' s.heap s'.heap/\HOk P w H' s'.heap/\E (.ref C) d H'
section
variable {P:Program}{w:World}{K:PySem.W.Frag}{mg:Str->Option Value}{base:Heap}{N:List Str}{qual:Str}{scope:Scope}{f:Addr}{cd:Value}{A:Around}{outer:List Env}{s₀:Shared}{H₀:Hp}{E:XK}
theorem A8p {n:Value}:Hi (CXg P w n) (Pz (CXe P w) P w K mg base N qual scope f cd A outer s₀ H₀ E) E:=by
 intro y σ H s e D I h;obtain⟨a,C,d,x,B,rfl,n,m,R,L,v,c,u,j,q⟩:=h
 refine A1k I.ok.frames rfl n λQ g F=>?_
 have r:Inv (Pz (CXe P w) P w K _ _ N _ _ f _ A _ _ _ E) _ _ _ { D with heap:=Q }:=I.flown u j v c n.ff m g.1 F
 have G:∀b o,s₀.heap.get? b=some o->∃t,s.heap.get? b=some _:=λb o e=>I.base.there b o e λz=>nomatch z
 refine⟨a,C,d,x,rfl,⟨⟨B,g,λb o e J l=>?_⟩,λb o e=>?_,L⟩,v.trans I.os,c,r.base,r.hok,q⟩
 ·have M:b≠(envOfC qual scope s₀.heap.objs.size f cd).locals:=by
   rintro rfl
   rcases l with ⟨O,k⟩ | l
   ·exact absurd (Heap.lt_size k) (Nat.lt_irrefl _)
   ·exact l r.free
  have p:b∉frs _:=λz=>by
   rcases List.mem_cons.mp (I.stkSub b z) with q | q
   ·exact M q
   ·exact J q
  have i:∃t,D.heap.get? b=some t:=by
   rcases l with ⟨O,k⟩ | l
   ·obtain⟨o1,S⟩:=G b _ k
    exact u.there b _ S λz=>nomatch z
   ·cases q':x b with
    | none=>grind
    | some ho=>exact(j b _ q').there
  obtain⟨t,k⟩:=i
  have:=m b _ k p (by
   grind)
  have e2:=g.1 b _ this
  simp_all
 grind
end
end L2
namespace L2
open PySem PySem.Spec PyProof.Rows
section
variable {X:Cx}{N':List Str}{idx:List (Option Nat)}{scope:Scope}{elt tg iter:Expr}{ifs:List Expr}{pos:Pos}{wi:TI}{g:TG}{tc:TT}{te:TE}
theorem A2t {pins:List (Addr×Obj)}{σ:St}{S:Hp}{s2:Shared}{it:Addr}{fp:List Addr}{tn:Nat->Heap->Prop}{J:It}{K:List (Str×Addr)}{E:Value->Shared->Prop}{RR:Value->Addr->Result->Shared->Prop}{F:List V->Hp->Prop}{xc:Cx->Value->Shared->Prop}
 (L:Gh X N' idx scope) (hc:X.calm=true)
 (hg:∀K C s₀ H₀ ex,PG (Bu X N' scope K C s₀ H₀ ex) tg g) (ht:∀K C s₀ H₀ ex,PTs (Bu X N' scope K C s₀ H₀ ex) ifs tc) (he:∀K C s₀ H₀ ex,PE ((Bu X N' scope K C s₀ H₀ ex).wish (xc (Bu X N' scope K C s₀ H₀ ex))) elt te)
 (c1:∀x c,K.lookup x=some c->X.env.cells.lookup x=some c/\(x,NameKind.free)∈scope.names) (c2:∀x,(x,NameKind.free)∈scope.names->∃c,K.lookup x=some c)
 (I2:Inv X pins σ S s2) (T:Turn X.prog X.w X.K tg J fp it tn) (st2:tn 0 s2.heap) (f2:∀b∈fp,Lr X pins S b) (W:Nat->Nat->St->List V->Hp->Prop) (w0:∃m,W 0 m (cst idx σ) [] S)
 (turn:∀i m t acc H,W i m t acc H->(J.stop i H/\F acc H) \/
  (J.go i H/\acc.length<sizeLine/\∃N:St->List V->Hp->Prop,(∀t acc' w,N t acc' w->∃m',m'<m/\W (i+1) m' t acc' w)/\∀x w,J.yld i H x w->g x t w λY S=>tc Y S λb H3 =>
   if b=true then te Y H3 λy H4=>N Y (acc++[y]) H4 else N Y acc H3))
 (hR:∀(D C:Addr) (s':Shared) (acc:List V) (a:List Value) (n:Nat) (w:Hp) (m:Str->Option Value),s2.heap.objs.size<=D->s2.heap.objs.size<=C->D≠C->s'.heap.Ns C m->s'.heap.get? D=some { cls:=.type "list",data:=.seq a.toArray n }->Vals acc a->acc.length<=sizeLine ->
  w D=none->w C=none->s'.os=s2.os->AllBare s'.gens->Un (frs X.stack) fp S w s2.heap s'.heap->HOk X.prog X.w w s'.heap->F acc w->RR (.ref D) C (.ok .next) s')
 (hE:∀(D C:Addr) (K:List (Str×Addr)) (ev:Value) (s':Shared),s2.heap.objs.size<=C->xc (Bu X N' scope K C s2 S fp) ev s'->wpAny (model X.prog X.w) X.A (noteFrame ev X.env) (λ_ z=>RR (.ref D) C (.error ev) z) (λx z=>RR (.ref D) C (.error x) z) s') :
 wpAny (model X.prog X.w) X.A (newList []) (λacc M=>wpAny (model X.prog X.w) X.A (newFunctionEnv scope X.env.globals K [] X.env.qual none .none (some X.env)) (λcenv s₄ =>
  codeAny (model X.prog X.w) X.A (.compStart (.ListComp elt [⟨tg,iter,ifs,0⟩] scope pos) 0 (.ref it) acc { cenv with scope:=relabel scope X.env }) (RR acc cenv.locals) s₄) E M) E s2:=by
 have hfs:∀b∈fp,b<s2.heap.objs.size:=λb A=>let ⟨o,e,_⟩:=T.obj _ _ st2 b A; Heap.lt_size e
 refine wpAny_newObj_type (Aw8 ?_)
 dsimp only
 generalize hH2:s2.heap.push { cls:=.type "list",dict:=none,data:=.seq ([]:List Value).toArray }=G
 have hC:G.objs.size=s2.heap.objs.size+1:=by rw[<- hH2,Heap.size_push]
 have hDC:s2.heap.objs.size≠G.objs.size:=by rw[hC];exact Nat.ne_of_lt (Nat.lt_succ_self _)
 have B:s2.heap.objs.size<=G.objs.size:=by rw[hC];exact Nat.le_succ _
 obtain⟨j,l⟩:∃j,j=pushCells (G.push { cls:=.type "dict",data:=.dict #[] }) scope.names:=⟨_,rfl⟩;rw[<- l]
 have Z:j.Ns G.objs.size (λ_=>none):=by rw[l];exact(Heap.Ns.new G (.type "dict")).keeps (pushCells_keeps _ _)
 have old:∀b o,s2.heap.get? b=some o->j.get? b=some o:=λb o e=>by rw[l];exact pushCells_keeps _ _ b o (Heap.get?_push_of_some _ (hH2▸Heap.get?_push_of_some _ e))
 have hacc:j.get? s2.heap.objs.size=some { cls:=.type "list",dict:=none,data:=.seq ([]:List Value).toArray }:=by rw[l];exact pushCells_keeps _ _ _ _ (Heap.get?_push_of_some _ (hH2▸Heap.get?_push_size _ rfl))
 have szD:(G.push { cls:=.type "dict",data:=.dict #[] }).objs.size=G.objs.size+1:=Heap.size_push ..
 obtain⟨k1,k2,k3⟩:=Lf scope.names (G.push { cls:=.type "dict",data:=.dict #[] }) K (λx y c e1 e2=>I2.ok.inj x y c (c1 x c e1).1 (c1 y c e2).1) (λx c e=>by
  obtain⟨v,o,ho,_⟩:=I2.cell x c (c1 x c e).1
  rw[szD];exact Nat.lt_succ_of_lt (Nat.lt_of_lt_of_le (Heap.lt_size ho) B))
 rw[szD,<- l]at k1;rw[szD]at k2 k3;obtain⟨cl0,hcl0⟩:∃cl0,cl0=K:=⟨_,rfl⟩;have c1o:=c1;have c2o:=c2;rw[<- hcl0]at k1 k2 k3 c1o c2o;rw[<- hcl0]
 clear c1 c2
 generalize cellsFrom (G.objs.size+1) scope.names cl0=K at k1 k2 k3 ⊢
 have c1:∀x c,K.lookup x=some c->(X.env.cells.lookup x=some c/\(x,NameKind.free)∈scope.names)\/(s2.heap.objs.size<=c/\(x,NameKind.cell)∈scope.names):=λx c e=>by
  rcases k1 x c e with q | ⟨q1,q2,_⟩
  ·exact .inl (c1o x c q)
  ·exact .inr ⟨Nat.le_trans B (Nat.le_of_succ_le q1),q2⟩
 have c2:∀x,((x,NameKind.free)∈scope.names\/(x,NameKind.cell)∈scope.names)->∃c,K.lookup x=some c:=λx z=>k2 x (z.imp (λz=>c2o x z) id)
 have c4:∀x c,K.lookup x=some c->(x,NameKind.cell)∈scope.names->j.IsCell c none:=λx c e z=>by
  rcases k1 x c e with q | ⟨_,_,q⟩
  ·have:=mem_lookup L.nod (c1o x c q).2
   rw[mem_lookup L.nod z]at this;cases this
  ·exact q
 let X':Cx:=Bu X N' scope K G.objs.size s2 S fp
 have I1:Inv X' [] (cst idx σ) S { s2 with heap:=j }:=Ac9 L I2 f2 hfs B c1 c2 k3 c4 rfl rfl old Z
 have hD2:S s2.heap.objs.size=none:=I2.hok.fresh (Nat.le_refl _)
 have hDfs:s2.heap.objs.size∉X'.fs:=λz=>by
  obtain⟨_,o,ho,_⟩:=I2.stack.mem z;exact absurd (Heap.lt_size ho) (Nat.lt_irrefl _)
 have hDfp:s2.heap.objs.size∉fp:=λz=>absurd (hfs _ z) (Nat.lt_irrefl _)
 have R:∀{w:Hp} {pl:List (Addr×Obj)},(∀b∈fp,w b=none)->(∀p∈pl,p.1∉fp)->∀b∈fp,Lr X' pl w b:=λ{w pl} hn P b A =>
  ⟨hn b A,Nat.ne_of_lt (Nat.lt_of_lt_of_le (hfs b A) B),λz=>by
   rcases List.mem_cons.mp (I2.stkSub b z) with q | q
   ·exact(f2 b A).2.1 q
   ·exact(f2 b A).2.2.1 q,.inl A,λx c e=>by
    rcases c1 x c e with ⟨z,_⟩ | ⟨z,_⟩
    ·exact(f2 b A).2.2.2.2.1 x c z
    ·exact Nat.ne_of_gt (Nat.lt_of_lt_of_le (hfs b A) z),λp O z=>P p (by have hp':p∈[]++pl:=O;simpa using hp') (z▸A)⟩
 have loop:∀M:Shared,M={ s2 with heap:=j } ->
  codeAny (model X.prog X.w) X.A (.compLoop (.ListComp elt [⟨tg,iter,ifs,0⟩] scope pos) 0 (.ref it) (.ref s2.heap.objs.size) (compEnvC scope K G.objs.size X.env)) (RR (.ref s2.heap.objs.size) G.objs.size) M:=by
  rintro M rfl
  obtain⟨m0,w0⟩:=w0
  refine At4 rfl (Wd:=λn s'=>∃i t acc a k w,Inv X' [(s2.heap.objs.size,{ cls:=.type "list",data:=.seq a.toArray k })] t w s'/\Vals acc a/\acc.length<=sizeLine/\tn i s'.heap/\(∀b∈fp,w b=none)/\W i n t acc w) (step:=?_) m0
   ⟨0,cst idx σ,[],[],0,S,I1.pins_of (λp O=>?_),.nil,Nat.zero_le _,T.keep _ _ _ st2 λb _ o e=>old b o e,λb A=>(f2 b A).1,w0⟩
  ·rintro n s3 ⟨i,U,acc,a,k,H3,I3,rv,hz,st3,fr3,w3⟩
   have P:∀p∈[((s2.heap.objs.size,{ cls:=.type "list",data:=.seq a.toArray k }):Addr×Obj)],p.1∉fp:=λp O=>by
    rcases List.mem_singleton.mp O with rfl;exact hDfp
   rcases turn i n U acc H3 w3 with ⟨stop,q⟩ | ⟨go,hlt,N,hN,step⟩
   ·refine wpAny_mono (T.done X' rfl rfl rfl hc i _ s3 U H3 (λ_ _=>False) I3 (R fr3 P) st3 stop) (λr s4 ⟨hr,I4⟩=>?_) λ_ _ f=>f.elim
    subst hr;obtain⟨p1,p2,p3,p4,p5⟩:=I4.pin (s2.heap.objs.size,{ cls:=.type "list",data:=.seq a.toArray k }) (List.mem_append_right _ List.mem_cons_self);obtain⟨m4,hn4,_⟩:=I4.loc;exact hR _ _ s4 acc a k H3 m4 (Nat.le_refl _) B hDC hn4 p1 rv hz p2 I4.free I4.os I4.bare I4.base I4.hok q
   ·refine wpAny_mono (T.item X' rfl rfl rfl hc i _ s3 U H3 (λ_ _=>False) I3 (R fr3 P) st3 go) (λr s4 ⟨u,hr,h4⟩=>?_) λ_ _ f=>f.elim
    subst hr
    refine wpAny_mono h4 (λ_ s5 ⟨x,H5,I5,r5,y5,st5,fr5⟩=>?_) λ_ _ f=>f.elim
    have I5':=I5.pinned (R fr5 P) (T.obj _ _ st5)
    refine wpAny_mono (hg _ _ _ _ _ _ s5 U H5 x u _ I5' r5 (step x H5 y5)) (λ_ s6 ⟨Q,H6,I6,q6⟩=>?_) λ_ _ f=>f.elim
    refine wpAny_mono (ht _ _ _ _ _ _ s6 Q H6 _ I6 q6) (λok s7 ⟨H7,I7,q7⟩=>?_) λ_ _ f=>f.elim
    have tnk:∀{t:St} {w:Hp} {s':Shared},Inv X' ([(s2.heap.objs.size,{ cls:=.type "list",data:=.seq a.toArray k })]++Ry fp s5.heap) t w s'->tn (i+1) s'.heap/\∀b∈fp,w b=none:=λ{t w s'} I=>by
     refine⟨T.keep _ _ _ st5 λb A o e=>(I.pin (b,o) (List.mem_append_right _ (List.mem_append_right _ (Hj A e)))).1,λb A=>?_⟩
     obtain⟨o,e,d⟩:=T.obj _ _ st5 b A;exact(I.pin (b,o) (List.mem_append_right _ (List.mem_append_right _ (Hj A e)))).2.1
    cases ok with
    | false =>
     rw[if_neg (by decide)]at q7
     obtain⟨m',hm,w7⟩:=hN _ _ _ q7;exact⟨m',hm,i+1,Q,acc,a,k,H7,I7.unpinned,rv,hz,(tnk I7).1,(tnk I7).2,w7⟩
    | true =>
     rw[if_pos rfl]at q7
     refine wpAny_mono (he _ _ _ _ _ _ s7 Q H7 _ (I7.wish _) q7) (λy s8 ⟨yv,H8,I8,r8,q8⟩=>?_) λev s8 f=>hE _ _ _ ev s8 B f
     have I8:=I8.unwish;obtain⟨m',hm,w8⟩:=hN _ _ _ q8;obtain⟨p1,p2,p3,p4,p5⟩:=I8.pin (s2.heap.objs.size,{ cls:=.type "list",data:=.seq a.toArray k }) (List.mem_append_right _ List.mem_cons_self)
     refine call_meets PySem.F.slot_list_append ⟨_,p1,rfl⟩ PySem.F.entry_list_append (PySem.F.args_list_append_2 _ _) (PySem.list_append s2.heap.objs.size a.toArray k y (by have:=rv.length;rw[List.size_toArray];omega)) ⟨p1,?_⟩
     have hz':=rv.length;obtain⟨t8,f8⟩:=tnk I8
     have I8':Inv X' [] Q H8 s8:=I8.pins_of λp O=>nomatch O
     have q:=PySem.IsL.update p1 (·.push y)
     have e':(a.toArray.push y)=(a++[y]).toArray:=by simp
     rw[e']at q
     obtain⟨k9,q⟩:∃k9,(s8.heap.update s2.heap.objs.size (Obj.mapSeq (·.push y))).get? s2.heap.objs.size=some { cls:=.type "list",data:=.seq (a++[y]).toArray k9 }:=⟨_,q⟩
     have I9:Inv _ _ _ _ { s8 with heap:=s8.heap.update _ (Obj.mapSeq (·.push y)) } :=
      I8'.turned (λb o A e=>(Heap.get?_update_other _ _ (Ne.symm A)).trans e) p2 p3 (.inr (Nat.le_refl _)) (λx c e z=>by
       obtain⟨v,o,ho,hd⟩:=I8'.cell x c e
       rw[z,p1]at ho;cases ho;cases hd) (λp O=>by have hp':p∈([]:List _)++[]:=O;simp at hp')
     refine⟨m',hm,i+1,Q,acc++[yv],a++[y],k9,H8,I9.pins_of λp O=>?_,rv.append (.cons r8 .nil),by rw[List.length_append,List.length_singleton];omega,T.keep _ _ _ t8 λb A o e=>(Heap.get?_update_other _ _ (λz=>hDfp (by rw[z];exact A))).trans e,f8,w8⟩
     rcases List.mem_singleton.mp O with rfl
     exact⟨q,p2,p3,p4,λv z=>by cases z⟩
  ·rcases List.mem_singleton.mp O with rfl
   exact⟨hacc,hD2,hDC,hDfs,λv z=>by cases z⟩
 exact codeAny_compStart_list (loop _ rfl) (T.self _ 0 _ _ _ (T.keep _ _ _ st2 λb _ o e=>old b o e) (loop _ rfl))
def xcK (X:Cx)(E:XK)(Y:Cx):Value->Shared->Prop:=λe s'=>∃pins σ H1 s1,Inv Y pins σ H1 s1/\CXe X.prog X.w X.stack H1 s1 E e s'
theorem A1i {E:XK}{f:List (Str×Addr)}{C:Addr}{b:Shared}{a:Hp}{d:List Addr}:Hi (CXe X.prog X.w) ((Bu X N' scope f C b a d).wish (xcK X E (Bu X N' scope f C b a d))) E :=
 λc g H s e i I h=>⟨c,g,H,s,I.unwish,h⟩
theorem Au5 {h B:Heap}{C:Addr}:∀{l:List Env},h.FunFrames B l->h.FunFrames (B.hide C) l
 | [],_=>trivial
 | env::_,⟨hk,⟨L,o,hf,hn,ho,hd⟩,hr⟩=>by
  refine⟨hk,⟨L,o,hf,?_,ho,hd⟩,Au5 hr⟩
  cases z:(B.hide C).get? L with
  | none=>rfl
  | some u=>rw[Heap.of_hide z]at hn;cases hn
theorem Ar8 {h h' B:Heap}:∀{l:List Env},h.FunFrames B l->(∀b∈frs l,∀o,h.get? b=some o->h'.get? b=some o)->h'.FunFrames B l
 | [],_,_=>trivial
 | env::r,⟨hk,⟨L,o,hf,hn,ho,hd⟩,hr⟩,k=>by
  have sub:∀b,b∈frs r->b∈frs (env::r):=λb hb=>by
   obtain⟨e,he,z⟩:=List.mem_filterMap.mp hb;exact List.mem_filterMap.mpr ⟨e,.tail _ he,z⟩
  exact⟨hk,⟨L,o,hf,hn,k L (List.mem_filterMap.mpr ⟨env,.head _,hf⟩) o ho,hd⟩,Ar8 hr λb hb=>k b (sub b hb)⟩
theorem Bv2 {E:XK}{Q:VK}{g:List (Addr×Obj)}{σ:St}{H2:Hp}{s2:Shared}{fp:List Addr}{C:Addr}{cl:List (Str×Addr)}{ev D:Value}{s':Shared}(hx:∀S,Hi (CXg X.prog X.w S) X E)(hs:X.stack=X.env::X.outer/\X.env.frame=some X.env.locals)
 (I2:Inv X g σ H2 s2) (f2:∀b∈fp,Lr X g H2 b) (hC:s2.heap.objs.size<=C) (h:xcK X E (Bu X N' scope cl C s2 H2 fp) ev s') :
 wpAny (model X.prog X.w) X.A (noteFrame ev X.env) (λ_ z=>compPost (model X.prog X.w) X.A X.xe none (EP X g σ Q) D C (.error ev) z) (λx z=>compPost (model X.prog X.w) X.A X.xe none (EP X g σ Q) D C (.error x) z) s':=by
 obtain⟨pins',σ',H1,p,R,a,C0,d,N,rfl,⟨⟨B,S,cov⟩,new,fr⟩,os,V,t,A,q⟩:=h;obtain⟨m,H,_⟩:=R.loc;have H:p.heap.Ns C m:=H;obtain⟨I,es,ep,gC,dC,rC⟩:=H;have fC:H1 C=none:=R.free;have nCa:C≠a:=new C I gC
 have s:∀b o,s2.heap.get? b=some o->b≠C:=λb o e=>Nat.ne_of_lt (Nat.lt_of_lt_of_le (Heap.lt_size e) hC)
 have J:C∉frs X.stack:=λz=>by
  obtain⟨_,o,ho,_⟩:=I2.stack.mem z;exact s C o ho rfl
 have gC':s'.heap.get? C=some I:=t.keep C I gC fC J (λz=>nomatch z)
 have fC':N C=none:=t.free C I gC fC (λz=>nomatch z)
 have r:∀b,b≠C->(p.heap.hide C).get? b=p.heap.get? b:=λb n=>Heap.hide_ne _ n
 have f:∀{h:Heap} {b:Addr} {o:Obj},(h.hide C).get? b=some o->h.get? b=some o/\b≠C:=λ{h b o} e=>⟨Heap.of_hide e,λz=>by rw[z,Heap.hide_self]at e;cases e⟩
 have G:=R.base
 have u2:Un (frs X.stack) fp H2 H1 s2.heap (p.heap.hide C) :=
  ⟨λb o e n1 n2 n3=>(r b (s b o e)).trans (G.keep b o e n1 n2 n3),λb o e n1 n2 n3=>let ⟨sl,z⟩:=G.slot b o e n1 n2 n3; ⟨sl,(r b (s b o e)).trans z⟩,G.free,λb o e n1=>let ⟨K,z⟩:=G.there b o e n1; ⟨K,(r b (s b o e)).trans z⟩,G.tups,G.frzs,G.tbls⟩
 have ok1:HOk X.prog X.w H1 (p.heap.hide C):=λb u e=>by
  refine (R.hok b u e).stay (λc v w z=>(r c ?_).trans z) (λ_ z=>z) λ_ _ z=>z
  rintro rfl
  rcases w with rfl | w
  ·rw[fC]at e;cases e
  ·rw[fC]at w;cases w
 have Io:Inv X g σ H1 { p with heap:=p.heap.hide C }:=I2.call' (s':={ p with heap:=p.heap.hide C }) R.os u2 ok1 R.bare (λb i=>⟨(f2 b i).2.2.2.1,(f2 b i).2.1,(f2 b i).2.2.2.2.1,(f2 b i).2.2.2.2.2⟩)
 have hN:∀b,B.get? b=none->(B.hide C).get? b=none:=λb n=>by
  cases z:(B.hide C).get? b with
  | none=>rfl
  | some o=>rw[(f z).1]at n;cases n
 have F:FlyD (B.hide C) X.stack a (.ref C0) d .none s'.heap:=by
  refine⟨λb o e=>S.st b o (f e).1,hN a S.no,Au5 S.ff,?_⟩
  obtain⟨oe,P,T,oT,ts,t1,t2,t3,t4,⟨t5,W⟩,t7⟩:=S.tr;exact⟨oe,P,T,oT,ts,t1,t2,t3,t4,⟨hN T t5,W⟩,t7⟩
 have l:Cov (frs X.stack) N (p.heap.hide C) s'.heap (B.hide C):=λb o e k i=>by
  have nb:b≠C:=by
   rintro rfl
   rcases i with ⟨u,z⟩ | z
   ·exact(f z).2 rfl
   ·exact z fC'
  rw[Heap.hide_ne _ nb]
  exact cov b o e k (i.imp (λ⟨u,z⟩=>⟨u,(f z).1⟩) id)
 have j:Un (frs X.stack) [] H1 N (p.heap.hide C) s'.heap :=
  ⟨λb o e=>t.keep b o (f e).1,λb o e=>t.slot b o (f e).1,λb o e=>t.free b o (f e).1,λb o e=>t.there b o (f e).1,t.tups,t.frzs,t.tbls⟩
 have Y:=F;rw[hs.1]at Y
 refine Zv (Io.ok.frames.trans (congrArg some hs.1)) hs.2 Y λh4 Z U=>?_
 rw[<- hs.1]at Z
 obtain⟨sl4,g4⟩:=U C I gC' (λP z=>by rw[dC]at z;cases z)
 refine⟨m,⟨_,es,ep,g4,dC,rC⟩,λh5 sb cenv _=>?_⟩
 have k5:∀b o,b≠C->h4.get? b=some o->h5.get? b=some o:=λb o n z=>sb.extBut b o n z
 have f5:FlyD (B.hide C) X.stack a (.ref C0) d (rawInt X.env.locals) h5:=⟨λb o e=>k5 b o (f e).2 (Z.st b o e),Z.no,Ar8 Z.ff λb i o z=>k5 b o (λy=>J (y▸i)) z,by
  obtain⟨oe,P,T,oT,ts,t1,t2,t3,t4,t5,W,t7⟩:=Z.tr
  refine⟨oe,P,T,oT,ts,k5 _ _ (Ne.symm nCa) t1,t2,t3,t4,t5,k5 T oT (λz=>?_) W,t7⟩
  rw[z,g4]at W;cases W
  rw[show ({ I with slots:=sl4 }:Obj).data=I.data from rfl,dC]at t7
  cases t7.1⟩
 refine Bv1 f5 λh6 fl' f6 up6=>?_
 have frf:∀b∈frs X.stack,N b=none:=λb i=>by
  obtain⟨_,o,ho,_⟩:=Io.stack.mem i
  exact j.free b o ho (Io.stkFree b i) (λz=>nomatch z)
 have upF:∀b∈frs X.stack,∀o,s'.heap.get? b=some o->(∀P,o.data≠.fields P)->∃sl,h6.get? b=some { o with slots:=sl }:=λb i o z O=>by
  obtain⟨s4,z4⟩:=U b o z O
  exact up6 b { o with slots:=s4 } (k5 b _ (λy=>J (y▸i)) z4) O
 refine hx fl' g _ _ _ _ _ Io ⟨a,C0,d,N,B.hide C,rfl,f6,λb o e k i=>?_,λb o e=>new b o (f e).1,fr,os,V,⟨λb o e n k _=>f6.st b o (l b o (j.keep b o e n k λz=>nomatch z) k (.inl ⟨o,e⟩)),λb o e n k _=>?_,λb o e n _=>j.free b o e n (λz=>nomatch z),λb o e _=>?_,j.tups,j.frzs,j.tbls⟩,λb o e=>?_,q⟩
 ·have L:∃K,s'.heap.get? b=some K:=by
   rcases i with ⟨u',e'⟩ | i
   ·exact j.there b _ e' λz=>nomatch z
   ·cases q':N b with
    | none=>exact absurd q' i
    | some ho=>exact(A b _ q').there
  obtain⟨K,e'⟩:=L;have:=l b _ e' k i;have M:=f6.st b _ this;rw[e]at M;cases M;exact this
 ·obtain⟨sl,e1⟩:=j.slot b o e n k λz=>nomatch z
  obtain⟨_,K,M,O⟩:=F.ff.mem k;rw[e1]at M;cases M;obtain⟨sl',e3⟩:=upF b k _ e1 O;exact⟨sl',e3⟩
 ·obtain⟨K,e1⟩:=j.there b o e λz=>nomatch z
  by_cases k:b∈frs X.stack
  ·obtain⟨_,o2,M,O⟩:=F.ff.mem k
   obtain⟨sl',e3⟩:=upF b k _ M O;exact⟨_,e3⟩
  ·exact⟨K,f6.st b _ (l b _ e1 k (.inl ⟨o,e⟩))⟩
 ·have key := λc v hn z=>f6.st c v (l c v z (λy=>hn (frf c y)) (.inr hn))
  refine (A b o e).stay (λc v w z=>key c v ?_ z) (λ_ z=>z) λ_ _ z=>z
  rcases w with rfl | w
  ·rw[e];simp
  ·rw[w];simp
theorem Bx2 {E:XK}(L:Gh X N' idx scope)(hc:X.calm=true)(hi:PI X tg iter wi)(hx:∀fl,Hi (CXg X.prog X.w fl) X E)(hst:X.stack=X.env::X.outer/\X.env.frame=some X.env.locals)
 (hg:∀k C s₀ H₀ ex,PG (Bu X N' scope k C s₀ H₀ ex) tg g) (ht:∀k C s₀ H₀ ex,PTs (Bu X N' scope k C s₀ H₀ ex) ifs tc) (he:∀k C s₀ H₀ ex,PE ((Bu X N' scope k C s₀ H₀ ex).wish (xcK X E (Bu X N' scope k C s₀ H₀ ex))) elt te)
 (hs:∀x,foldedSetIterable iter X.env x=pure x:=by intro _;rfl) :
 PE X (.ListComp elt [⟨tg,iter,ifs,0⟩] scope pos) (tLC idx wi g tc te):=by
 intro j s σ H Q I h
 obtain⟨k,l,c1,c2⟩:=Ks (env:=X.env) (scope:=scope) λy hy hf=>I.ok.has y.1 (L.free y hy hf)
 rw[eval_ListComp]
 refine wpAny_comprehension_free (use:=none) rfl hs l L.kind (λy hy hl=>mem_lookup L.nod (by grind)) (wpAny_mono (hi j s σ H _ I h) (λv s1 h1=>wpAny_mono h1 (λitv Z h2=>?_) λ_ _ e=>e) λ_ _ e=>e)
 obtain⟨it,fp,tn,J,H2,rfl,N,T,O,w,W,w0,B⟩:=h2
 refine A2t (F:=λa H=>∀p,H p=none->Q (.ref p) (upd H p (.lst a))) (RR:=λa C=>compPost (model X.prog X.w) X.A X.xe none (EP X j σ Q) a C) (xc:=xcK X E) L hc hg ht he c1 c2 N T O w W w0 B ?_ (λD C k ev s' P h=>Bv2 hx hst N w P h)
 intro D C s' a z n R m hD P S hn V rv hz d hC' ho M i hk q
 refine⟨m,hn,λK f=>?_⟩
 have eD:K.get? D=some { cls:=.type "list",data:=.seq z.toArray n }:=f.extBut _ _ S V
 have Y:HOk X.prog X.w R K:=λb u e=>by
  refine (hk b u e).stay (λc v hc q=>f.extBut c v ?_ q) (λ_ q=>q) λ_ _ q=>q
  grind
 have U:HOk X.prog X.w (upd R D (.lst a)) K:=Y.track d ⟨hz,z,n,rv,eD⟩
 have r:∀b o,Z.heap.get? b=some o->b≠C:=λb o e=>Nat.ne_of_lt (Nat.lt_of_lt_of_le (Heap.lt_size e) P)
 have neD:∀b o,Z.heap.get? b=some o->b≠D:=λb o e=>Nat.ne_of_lt (Nat.lt_of_lt_of_le (Heap.lt_size e) hD)
 have u2:Un (frs X.stack) fp H2 (upd R D (.lst a)) Z.heap K :=
  ⟨
   λb o e t A n3=>f.extBut b o (r b o e) (i.keep b o e t A n3),λb o e t A n3=>let ⟨sl,q⟩:=i.slot b o e t A n3; ⟨sl,f.extBut b _ (r b o e) q⟩,
   λb o e t A=>by rw[Ag (neD b o e)];exact i.free b o e t A,λb o e t=>let ⟨o',q⟩:=i.there b o e t; ⟨o',f.extBut b _ (r b o e) q⟩,
   λb xs e=>by rw[Ag (Bd (i.tups b _ e) d)];exact i.tups b _ e,λb o u e=>by rw[Ag (Bd (i.frzs b o u e) d)];exact i.frzs b o u e,
   λb ps e=>by rw[Ag (Bd (i.tbls b _ e) d)];exact i.tbls b _ e⟩
 refine⟨.ref D,upd _ D _,N.call' ho u2 U M λb G=>⟨(w b G).2.2.2.1,(w b G).2.1,(w b G).2.2.2.2.1,(w b G).2.2.2.2.2⟩,rfl,q D d⟩
end
section
variable {X:Cx}{N':List Str}{idx:List (Option Nat)}{scope:Scope}{elt tg iter:Expr}{ifs:List Expr}{pos:Pos}{wi:TI}{g:TG}{tc:TT}{te:TE}{E:XK}
theorem Bt6 (L:Gh X N' idx scope)(hc:X.calm=true)(hi:QI X tg iter wi)(hg:∀d C b a c,QG (Bu X N' scope d C b a c) tg g)(ht:∀d C b a c,QTs (Bu X N' scope d C b a c) ifs tc)(hx:∀fl,Hi (CXg X.prog X.w fl) X E)(he:∀d C b a c,QE ((Bu X N' scope d C b a c).wish (xcK X E (Bu X N' scope d C b a c))) elt te)(hst:X.stack=X.env::X.outer/\X.env.frame=some X.env.locals:=by exact⟨rfl,rfl⟩)(hs:∀x,foldedSetIterable iter X.env x=pure x:=by intro _;rfl):QE X (.ListComp elt [⟨tg,iter,ifs,0⟩] scope pos) (tLC idx wi g tc te) :=
 ⟨Bx2 (L:=L) (hc:=hc) (hi:=hi.get) (hg:=λd C b a c=>(hg _ C _ _ _).get) (ht:=λd C b a c=>(ht _ C _ _ _).get) (hx:=hx) (hst:=hst) (he:=λd C b a c=>(he _ C _ _ _).get) (hs:=hs)⟩
end
end L2
namespace U
open PySem L2 PySem.W
section
variable {K:PySem.W.Frag}{E:XK}
def Qa (g:PV->Ev->R Unit)(ft:Ev->R Bool)(F:List PyData->XF)(fa:Ev->R (List PV)):List PyData->Ev->Option (Xn×Ev)
 | [],_=>none
 | d::ds,c=>match g (.o (.im d)) c with
  | .bad=>none
  | .ok _ c=>match ft c with
   | .bad=>none
   | .ok false c=>Qa g ft F fa ds c
   | .ok true c=>match fa c with
    | .bad=>none
    | .ok ps c=>match O5 c ps with
     | none=>none
     | some es=>match F es with
      | .ex nm=>some (nm,c)
      | .ret (.im _)=>Qa g ft F fa ds c
      | _=>none
def Qm (idx:List (Option Nat))(fi:Ev->R (List PyData))(g:PV->Ev->R Unit)(ft:Ev->R Bool)(F:List PyData->XF)(fa:Ev->R (List PV))(vs:List Nat)(f:Ev->SR):Ev->XS:=λc=>match fi c with
 | .bad=>.s .bad
 | .ok ds c1=>if ds.length<=16000000 then match Qa g ft F fa ds (cIn idx c1) with
  | none=>.s (f c)
  | some (nm,cI)=>if vs.all (λi=>match c[i]? with | some (some _)=>true | _=>false) then match Gb cI (pairsOf 0 idx) c1 with
   | none=>.s .bad
   | some c2=>.ex nm c2
   else .s .bad
  else .s .bad
theorem A2o {idx:List (Option Nat)}{wi:TI}{t:TG}{tc:TT}{ta:TA}{fi:Ev->R (List PyData)}{g:PV->Ev->R Unit}{ft:Ev->R Bool}{F:List PyData->XF}{Z:Ev->R (List PV)}{vs:List Nat}{T:TS}{f:Ev->SR}(hnd:((pairsOf 0 idx).map (·.2)).Nodup)(hi:MI K wi fi)(hg:MG K t g)(ht:MT K tc ft)(ha:MA K ta Z)(hm:MS K T f)
 (hx:∀(M:St) (H:Hp) (D:Ends),(∀i∈vs,∃v,M[i]?=some (some v))->(∀Q,tLC idx wi t tc (Km (spX K F) [] E ta) M H Q)->T D M H):MX K E T (Qm idx fi g ft F Z vs f):=by
 intro β W c M D R l;unfold Qm at l
 cases e:fi c with
 | bad=>rw[e]at l;exact l.elim
 | ok B c1 =>
 rw[e]at l
 dsimp only at l
 split at l
 ·rename_i hl
  cases ex:Qa g ft F Z B (cIn idx c1) with
  | none=>simp only[ex]at l;exact hm β W c M D R l
  | some r =>
  obtain⟨nm,cI⟩:=r;simp only[ex]at l
  split at l
  ·rename_i hv
   cases eb:Gb cI (pairsOf 0 idx) c1 with
   | none=>simp only[eb]at l;exact l.elim
   | some cO =>
   simp only[eb]at l
   refine hx M W.H D (λi hi=>?_) λQ=>?_
   ·have:=List.all_eq_true.mp hv i hi
    split at this
    ·rename_i o ho
     obtain⟨v,h1,_⟩:=R.get i o ho;exact⟨v,h1⟩
    ·cases this
   ·refine hi β W c M _ R ?_
    rw[e];intro J W1 st1 R1 it;have L:=Av7 (idx:=idx) R1 hnd
    let A:Nat->V:=λk=>(((cst idx M)[k]?).join).getD .non
    have RI:=L.rep R1
    let s:Wo:=⟨W1.Hf,W1.H,Rb (pairsOf 0 idx) c1 W1.fps⟩
    refine⟨λi m y vs H=>∃j O,j.H=H/\Rep K A j O y/\m=B.length-i/\i<=B.length/\vs.length<=i/\Stp s.S s.Hf s.H j.S j.Hf j.H/\Qa g ft F Z (B.drop i) O=some (nm,cI),
     ⟨_,s,cIn idx c1,rfl,RI,rfl,Nat.zero_le _,Nat.le_refl _,Stp.refl,ex⟩,?_⟩
    rintro i m y vs H ⟨j,O,rfl,R2,rfl,hle,hvs,st2,h⟩
    obtain⟨hstop,hgo⟩:=it i j.Hf j.H st2.fz R2.sub
    by_cases lt:i<B.length
    ·obtain⟨q1,q2⟩:=hgo B[i] (List.getElem?_eq_getElem lt)
     refine .inr ⟨q1,Nat.lt_of_lt_of_le (Nat.lt_of_le_of_lt hvs (Nat.lt_of_lt_of_le lt hl)) (by decide),λy vs p=>∃j O,j.H=p/\Rep K A j O y/\vs.length<=i+1/\Stp s.S s.Hf s.H j.S j.Hf j.H/\Qa g ft F Z (B.drop (i+1)) O=some (nm,cI),
      λy acc' p ⟨S,c3,e3,R3,h3,w,f3⟩=>⟨B.length-(i+1),by omega,S,c3,e3,R3,rfl,by omega,h3,w,f3⟩,λx p hy=>?_⟩
     obtain⟨U,w,sub3,tx⟩:=q2 x p hy;have R3:=w.rep R2 sub3
     have stx:Stp j.S j.Hf j.H (Wo.S ⟨U,p,j.fps⟩) U p:=⟨w.fz,λa o e _=>w.kp a o e λz=>z,λa o e mu _ q=>w.nf a o e mu (λz=>z) q,λa z=>.inl z⟩
     rw[M5 lt]at h;unfold Qa at h
     refine hg A ⟨U,p,j.fps⟩ O y (.o (.im B[i])) x [] _ R3 ⟨⟨rfl,tx⟩,λa z=>nomatch z⟩ ?_
     cases eg:g (.o (.im B[i])) O with
     | bad=>rw[eg]at h;cases h
     | ok u c3 =>
      rw[eg]at h
      dsimp only at h
      intro I S X R4
      have X:=X.up (S2:=j.S) λa z=>by
       rcases z with z | z
       ·exact z
       ·cases z
      refine ht A S c3 I _ R4 ?_
      cases et:ft c3 with
      | bad=>rw[et]at h;cases h
      | ok b c4 =>
       rw[et]at h;intro W4 st5 R5;have N:Stp s.S s.Hf s.H W4.S W4.Hf W4.H:=st2.trans (stx.trans (X.trans st5))
       cases b with
       | false=>rw[if_neg (by decide)];exact⟨W4,c4,rfl,R5,by omega,N,h⟩
       | true =>
        rw[if_pos rfl]
        dsimp only at h
        show ta I W4.H λvs H1=>spX K F (vs++[]) H1 _ E
        simp only[List.append_nil]
        refine ha A W4 c4 I _ R5 ?_
        cases ef:Z c4 with
        | bad=>rw[ef]at h;cases h
        | ok ps c5 =>
         rw[ef]at h
         dsimp only at h
         intro ys W5 st6 R6 r6
         cases ea:O5 c5 ps with
         | none=>simp only[ea]at h;cases h
         | some es =>
          simp only[ea]at h
          refine⟨W5.Hf,es,R6.sub,Nh R6 r6 ea,?_⟩
          have go:∀{n p:Hp},Stp (λ_=>False) W5.Hf W5.H (λ_=>False) n p->Same n p->Stp s.S s.Hf s.H (Wo.S ⟨n,p,W5.fps⟩) n p/\Rep K A ⟨n,p,W5.fps⟩ c5 I:=λ{n p} P G =>
           ⟨N.trans (st6.trans ⟨P.fz,λa o e _=>P.kp a o e λz=>z,λa o e mu _ q=>P.nf a o e mu (λz=>z) q,λa z=>.inl z⟩),Stp.rep R6 P G⟩
          split at h
          ·rename_i nm' eF
           rw[eF]
           cases h
           intro C d n p hn P G;obtain⟨s3,R7⟩:=go P G
           obtain⟨S,e1,e2,R8,Y,_⟩:=L.back (fp:=[]) R1 R7 (s3.less λa z=>by
            rcases z with z | z
            ·exact z
            ·cases z) eb (λk i b B v hm _ hv=>by
             have:=(Ey hm).2;rw[Nat.sub_zero]at this
             rw[Ac0 this hv];rfl) λa z=>nomatch z
           have Y:Stp W1.S W1.Hf W1.H S.S S.Hf S.H:=by
            rw[e1,e2];exact Y.less λa z=>.inl z
           have:=l C d _ _ (by rw[e1];exact hn) (st1.trans Y) R8
           rw[e2]at this;exact this
          ·rename_i d eF
           rw[eF];intro v n p fp P G r
           obtain⟨s3,R7⟩:=go (P.less λa z=>nomatch z) G
           exact⟨⟨n,p,W5.fps⟩,c5,rfl,R7,by rw[List.length_append,List.length_singleton];omega,s3,h⟩
          ·cases h
    ·have e:i=B.length:=by omega
     subst e;rw[List.drop_length]at h
     cases h
  ·exact l.elim
 ·exact l.elim
def U0 (F:List PyData->XF)(fa:Ev->R (List PV)):Ev->XS:=Lk F fa (λo c=>.s (.rt (.o o) c)) .ex
def Xl (F:List PyData->XF)(fa:Ev->R (List PV))(i:Nat):Ev->XS:=Lk F fa (λo c=>.s ((cgN i (.o o) c).toS λ_ c=>.nx c)) .ex
def Br8 (F:List PyData->XF)(fa:Ev->R (List PV)):Ev->XS:=Lk F fa (λ_ c=>.s (.nx c)) .ex
theorem Qt {F:List PyData->XF}{t:TA}{g:Ev->R (List PV)}(ha:MA K t g):MX K E (By3 (Km (spX K F) [] E t)) (U0 F g):=by
 intro m W c k D R l
 have:=Qw ha R l (λo j i v b e f r=>f _ v _ _ (b.less λa z=>Qz z) e r)
  (λn j i C d b e f h=>f C d _ _ h b e)
 show t _ _ _
 simp_all
theorem Tq {F:List PyData->XF}{t:TA}{h:Ev->R (List PV)}{i:Nat}(ha:MA K t h):MX K E (An8 (Km (spX K F) [] E t) (M4 i)) (Xl F h i):=by
 intro y W c B D R l
 have:=Qw (Q:=λv j=>D.nx _ j) ha R l (λo k m v f b e r=>by
  refine Al _ _ _ _ _ v _ _ b r ((Hr (show zH K _ W D _ from e)).mono λ_ x n p w g q=>?_)
  exact n _ _ (f.trans (g.up λa z=>Qz z)) q)
  (λA k m C d f b e s=>e C d _ _ s f b)
 show t _ _ λG u=>spX K F _ _ (λv j=>D.nx _ _) E
 grind
end
variable {K:PySem.W.Frag}{β:Nat->V}{W W':Wo}{c:Ev}{σ:St}{Hf H:Hp}
def U5 (fa:Ev->R PV):Ev->R PV:=λc=>(fa c).bind λp c=>match p with
 | .o (.ty (.ds ks ds))=>if ks.length=ds.length then .ok (.o (.ls false ds)) c else .bad
 | _=>.bad
theorem A5i {td:TE}{fa:Ev->R PV}(ha:ME K td fa):ME K (A6d td) (U5 fa):=by
 intro β W c σ Q R s
 refine ha β W c σ _ R ((s.bnd).mono λp c1 s1 v1 W1 fp1 st1 R1 r1=>?_)
 match p,r1,s1 with
 | .o (.ty (.ds ks ds)),r1,s1 =>
  obtain⟨⟨rfl,a,o,xs,rfl,h1,t1,l1⟩,_⟩:=r1
  have st1:Stp W.S W.Hf W.H W1.S W1.Hf W1.H:=st1.less λa z=>.inl z
  have s1:=(show U.R.sat (if ks.length=ds.length then U.R.ok (PV.o (.ls false ds)) c1 else .bad) _ from s1)
  by_cases hl:ks.length=ds.length
  ·rw[if_pos hl]at s1
   refine⟨a,o,ks.zip xs,rfl,R1.sub _ _ h1,λl hp=>?_⟩
   rw[List.map_snd_zip (Nat.le_of_eq l1.symm)]
   have n:=New.of (o:=.ls false ds) R1 (λv W' fp st R' rp=>s1 v W' fp (st1.trans st) R' rp)
   exact n.lst (λb u e=>R1.sub b u e) t1 hp
  ·rw[if_neg hl]at s1;exact s1.elim
 | .o (.ty (.nm _)),r1,s1=>exact s1.elim
 | .o (.ty (.tc _)),r1,s1=>exact s1.elim
 | .o (.ty (.xc _)),r1,s1=>exact s1.elim
 | .o (.ty (.dc _ _)),r1,s1=>exact s1.elim
 | .o (.ty (.dt _ _)),r1,s1=>exact s1.elim
 | .o (.ty (.td _ _ _)),r1,s1=>exact s1.elim
 | .o (.im _),r1,s1=>exact s1.elim
 | .o (.ls _ _),r1,s1=>exact s1.elim
 | .o (.sc _),r1,s1=>exact s1.elim
 | .sl _,r1,s1=>exact s1.elim
end U
namespace PS
open PySem PySem.W PyProof.Rows L2
section
variable {α β:Type}{n:Nat}{p:Array Nat}
def Tot (n:Nat)(Q:α->Prop):KasT α->Prop
 | .ret a=>Q a
 | .ask i j k=>i<n/\j<n/\∀b,Tot n Q (k b)
theorem A4i {Q:α->Prop}{B:Nat->Nat->Option Bool}(hB:∀i j,i<n->j<n->∃b,B i j=some b):∀t:KasT α,Tot n Q t->∃a,kEv B t=some a/\Q a
 | .ret a,h=>⟨a,rfl,h⟩
 | .ask i j k,⟨h1,h2,h3⟩=>by
  obtain⟨b,e⟩:=hB i j h1 h2;obtain⟨a,e2,q⟩:=A4i hB (k b) (h3 b)
  exact⟨a,by show (B i j).bind _=_;rw[e];exact e2,q⟩
theorem Ko {Q:β->Prop}{f:α->KasT β}:∀t:KasT α,Tot n (λa=>Tot n Q (f a)) t->Tot n Q (t.bind f)
 | .ret a,h=>h
 | .ask i j k,⟨h1,h2,h3⟩=>⟨h1,h2,λb=>Ko (k b) (h3 b)⟩
def Pm (n:Nat)(p:Array Nat):Prop:=0<n/\p.Perm (List.range n).toArray
theorem Pm.lt (h:Pm n p)(i:Nat):p.getD i 0<n:=by
 by_cases q:i<p.size
 ·have:=h.2.mem_iff.mp (Array.getElem_mem q)
  simpa[q] using this
 ·simp[q];exact h.1
theorem Pm.rev (h:Pm n p)(i j:Nat):Pm n (kas_rev p i j):=⟨h.1,(mirror_perm _ _ _ _).trans h.2⟩
theorem A2b {c:Bool}{t u:KasT α}{Q:α->Prop}(h1:Tot n Q t)(h2:Tot n Q u):Tot n Q (if c=true then t else u):=by
 cases c
 ·exact h2
 ·exact h1
theorem Ae3 {c:Prop}[Decidable c]{t u:KasT α}{Q:α->Prop}(h1:Tot n Q t)(h2:Tot n Q u):Tot n Q (if c then t else u):=by
 split
 ·exact h1
 ·exact h2
theorem A8v {Q:Nat->Prop}(h:Pm n p)(hQ:∀a,Q a):∀f k,Tot n Q (kas_asc p f k)
 | 0,k=>hQ k
 | f+1,k=>⟨h.lt _,h.lt _,λ_=>A2b (hQ k) (A8v h hQ f (k+1))⟩
theorem Z9:∀(f:Nat) (p:Array Nat) (k q:Nat),Pm n p->Tot n (λr=>Pm n r.1) (kas_desc f p k q)
 | 0,p,k,q,h=>h
 | f+1,p,k,q,h=>⟨h.lt _,h.lt _,λ_=>A2b (Ae3 (Z9 f _ _ _ (h.rev _ _)) (Z9 f _ _ _ h)) ⟨h.lt _,h.lt _,λ_=>A2b h (Z9 f _ _ _ h)⟩⟩
theorem A3t {k m:Nat}(h:Pm n p):Tot n (λr=>Pm n r.2) (kas_tail3 k m p):=Ko _ (A8v (h.rev _ _) (λ_=>h.rev _ _) _ _)
theorem U6 {Q Q':α->Prop}(hq:∀a,Q a->Q' a):∀t:KasT α,Tot n Q t->Tot n Q' t
 | .ret a,h=>hq a h
 | .ask _ _ k,h=>⟨h.1,h.2.1,λb=>U6 hq (k b) (h.2.2 b)⟩
theorem A4l {k m:Nat}(h:Pm n p):Tot n (λr=>Pm n r.2) (kas_descPart k m p) :=
 Ko _ (U6 (λr q=>Ae3 (A3t (q.rev _ _)) (A3t q)) _ (Z9 _ _ _ _ h))
theorem Bd0 {m:Nat}(h:Pm n p):Tot n (λr=>Pm n r.2) (kas_count m p):=by
 refine Ko _ (A8v h (λk=>?_) _ _)
 refine A2b (t:=.ret (k,p)) h (Ae3 (t:=.ask _ _ _) ⟨h.lt _,h.lt _,λ_=>?_⟩ (A4l h))
 exact A2b (t:=.ret (k,p)) h (A4l (h.rev _ _))
theorem Aa7 {Q:Nat->Prop}{k:Nat}(h:Pm n p)(hQ:∀a,Q a):∀f l r,Tot n Q (kas_place p k f l r)
 | 0,l,r=>hQ l
 | f+1,l,r=>Ae3 (hQ l) ⟨h.lt _,h.lt _,λ_=>A2b (Aa7 h hQ f _ _) (Aa7 h hQ f _ _)⟩
theorem Bl4:∀(f:Nat) (p:Array Nat) (k:Nat),Pm n p->Tot n (Pm n) (kas_bin f p k)
 | 0,p,k,h=>h
 | f+1,p,k,h=>Ko _ (Aa7 h (λ_=>Bl4 f _ _ ⟨h.1,(bubble_perm _ _ _).trans h.2⟩) _ _ _)
theorem Bu1 (h:0<n):Tot n (Pm n) (kas_sort n):=by
 refine Ko _ (U6 (λr q=>?_) _ (Bd0 ⟨h,Array.Perm.refl _⟩))
 exact Ae3 (Bl4 _ _ _ q) (u:=.ret r.2) q
end
end PS
namespace U
open PySem L2
theorem R.bind_ok {a:b} {k:b->Ev->R d}:(R.ok a c).bind k=k a c:=rfl
theorem R.toS_ok {a:b} {k:b->Ev->SR}:(R.ok a c).toS k=k a c:=rfl
theorem A0b {a:Type}{x:Option a}:(some x).join=x:=rfl
theorem Bj9 (x:a) (r:List a):atI (x::r) 0=some x:=Jt rfl
theorem B0e (x y:a) (r:List a):atI (x::y::r) 1=some y:=Jt rfl
theorem Bz4 (x y z:a) (r:List a):atI (x::y::z::r) 2=some z:=Jt rfl
theorem B0y (x y z u:a) (r:List a):atI (x::y::z::u::r) 3=some u:=Jt rfl
theorem B2n (x y z u w:a) (r:List a):atI (x::y::z::u::w::r) 4=some w:=Jt rfl
theorem Br0:ixN 3 0=some 0:=rfl
theorem Bq2:ixN 3 1=some 1:=rfl
theorem Bn9:ixN 3 2=some 2:=rfl
def Qj (g:PV->Ev->R Unit)(body:Ev->SR)(d:PyData)(c:Ev):SR:=(g (.o (.im d)) c).toS λ_ c=>body c
theorem Sg (h:Qj g body d c=.nx c'\/Qj g body d c=.ct c'):forL g body (d::ds) c=forL g body ds c':=by
 unfold Qj at h;rw[forL]
 cases e:g _ c with
 | bad=>rw[e]at h;rcases h with h | h <;> cases h
 | ok u a =>
  rw[e]at h;have h:body _=.nx _\/body _=.ct _:=h
  grind
theorem Ji {g:PV->Ev->R Unit}{body:Ev->SR}{P:Nat->Ev->Prop}:∀{items:List PyData}{n:Nat}{c:Ev},P n c ->
 (∀k d c,items[k]?=some d->P (n+k) c->∃c',(Qj g body d c=.nx c'\/Qj g body d c=.ct c')/\P (n+k+1) c')->∃c',forL g body items c=.nx c'/\P (n+items.length) c'
 | [],n,c,h0,_=>⟨c,rfl,h0⟩
 | d::ds,n,c,h0,hs=>by
  obtain⟨c1,e,h1⟩:=hs 0 d c rfl h0;rw[Sg e]
  obtain⟨c2,e2,h2⟩:=Ji (P:=P) (items:=ds) (n:=n+1) (c:=c1) h1 (λk d c hk hp=>by
   have:=hs (k+1) d c (by simpa using hk) (by rw[show n+(k+1)=n+1+k by omega];exact hp)
   rw[show n+(k+1)+1=n+1+k+1 by omega]at this
   exact this)
  exact⟨c2,e2,by rw[List.length_cons,show n+(ds.length+1)=n+1+ds.length by omega];exact h2⟩
def Li (g:PV->Ev->R Unit)(ft:Ev->R Bool)(fe:Ev->R PV)(d:PyData)(c:Ev):R (Option PyData) :=
 (g (.o (.im d)) c).bind λ_ c=>(ft c).bind λb c=>if b=true then (fe c).bind λp c=>(frz (nrm p) c).bind λy c=>.ok (some y) c else .ok none c
theorem Jk : Ds g ft fe (d::ds) acc c=(Li g ft fe d c).bind λo c=>Ds g ft fe ds (acc++o.toList) c:=by
 unfold Li;rw[Ds]
 cases e:g _ c with
 | bad=>rfl
 | ok u f =>
  simp only[R.bind_ok]
  cases e2:ft _ with
  | bad=>rfl
  | ok b h =>
   simp only[R.bind_ok]
   cases b with
   | false=>simp[R.bind_ok]
   | true =>
    cases e3:fe _ with
    | bad=>rfl
    | ok p i =>
     simp only[R.bind_ok]
     cases e4:frz _ _ with
     | bad=>rfl
     | ok y a=>rfl
theorem Nm {g:PV->Ev->R Unit}{ft:Ev->R Bool}{fe:Ev->R PV}{P:Nat->List PyData->Ev->Prop}:∀{items acc:List PyData}{n:Nat}{c:Ev},P n acc c ->
 (∀k d acc c,items[k]?=some d->P (n+k) acc c->∃o c',Li g ft fe d c=.ok o c'/\P (n+k+1) (acc++o.toList) c')->∃acc' c',Ds g ft fe items acc c=.ok acc' c'/\P (n+items.length) acc' c'
 | [],acc,n,c,h0,_=>⟨acc,c,rfl,h0⟩
 | d::ds,acc,n,c,h0,hs=>by
  obtain⟨o,c1,e,h1⟩:=hs 0 d acc c rfl h0;rw[Jk,e,R.bind_ok]
  obtain⟨acc2,c2,e2,h2⟩:=Nm (P:=P) (items:=ds) (n:=n+1) (c:=c1) h1 (λk d acc c hk hp=>by
   have:=hs (k+1) d acc c (by simpa using hk) (by rw[show n+(k+1)=n+1+k by omega];exact hp)
   rw[show n+(k+1)+1=n+1+k+1 by omega]at this
   exact this)
  exact⟨acc2,c2,e2,by rw[List.length_cons,show n+(ds.length+1)=n+1+ds.length by omega];exact h2⟩
theorem Ac7 {g:PV->Ev->R Unit}{ft:Ev->R Bool}{fe:Ev->R PV}{I:Ev->Prop}{F:PyData->Option PyData}:∀{items acc:List PyData}{c:Ev},I c ->
 (∀d c,d∈items->I c->∃c',Li g ft fe d c=.ok (F d) c'/\I c')->∃c',Ds g ft fe items acc c=.ok (acc++items.filterMap F) c'/\I c'
 | [],acc,c,h0,_=>⟨c,by simp[Ds],h0⟩
 | d::ds,acc,c,h0,hs=>by
  obtain⟨c1,e,h1⟩:=hs d c (.head _) h0;rw[Jk,e,R.bind_ok]
  obtain⟨c2,e2,h2⟩:=Ac7 (I:=I) (F:=F) (items:=ds) (acc:=acc++(F d).toList) h1 (λd c hd hi=>hs d c (.tail _ hd) hi)
  refine⟨c2,?_,h2⟩
  rw[e2,List.append_assoc];rw[List.filterMap_cons]
  cases F d <;> rfl
theorem Q0 {I:Ev->Prop} (b:I c)
 (hs:∀d c,d∈items->I c->∃a,Li g ft fe d c=.ok (some (F d)) a/\I a):∃a,Ds g ft fe items acc c=.ok (acc++items.map F) a/\I a:=by
 obtain⟨a,e,h⟩:=Ac7 (acc:=acc) b hs
 refine⟨a,?_,h⟩
 simp_all
theorem Nq {α:Type}{g:PV->Ev->R Unit}{ft:Ev->R Bool}{fe:Ev->R PV}{I:Ev->Prop}{f:α->PyData}{G:α->Option PyData}:∀{xs:List α}{acc:List PyData}{c:Ev},I c ->
 (∀x c,x∈xs->I c->∃c',Li g ft fe (f x) c=.ok (G x) c'/\I c')->∃c',Ds g ft fe (xs.map f) acc c=.ok (acc++xs.filterMap G) c'/\I c'
 | [],acc,c,h0,_=>⟨c,by simp[Ds],h0⟩
 | x::xs,acc,c,h0,hs=>by
  obtain⟨c1,e,h1⟩:=hs x c (.head _) h0;rw[List.map_cons,Jk,e,R.bind_ok]
  obtain⟨c2,e2,h2⟩:=Nq (I:=I) (f:=f) (G:=G) (xs:=xs) (acc:=acc++(G x).toList) h1 (λd c hd hi=>hs d c (.tail _ hd) hi)
  refine⟨c2,?_,h2⟩
  rw[e2,List.append_assoc];rw[List.filterMap_cons]
  cases G x <;> rfl
theorem Gi {b:Type} {I:Ev->Prop}{f:b->PyData}{G:b->PyData}{xs:List b} (d:I c)
 (hs:∀x c,x∈xs->I c->∃a,Li g ft fe (f x) c=.ok (some (G x)) a/\I a):∃a,Ds g ft fe (xs.map f) acc c=.ok (acc++xs.map G) a/\I a:=by
 obtain⟨a,e,h⟩:=Nq (acc:=acc) d hs
 refine⟨a,?_,h⟩
 simp_all
theorem Fq (h1:fi c=.ok ds c1) (hl:ds.length<=16000000) (h2:Ds g ft fe ds [] (cIn idx c1)=.ok acc cI) (a:Gb cI (pairsOf 0 idx) c1=some c2) :
 cLC idx fi g ft fe c=.ok (.o (.ls false acc)) c2:=by
 unfold cLC;rw[h1,R.bind_ok]
 simp_all
theorem Nj (h1:fi c=.ok ds c1):Rj fi g body c=forL g body ds c1:=by
 unfold Rj;rw[h1];rfl
theorem Ed (h:f c=.nx c'):Cm f g c=g c':=by unfold Cm;rw[h]
theorem Ub (h:body (a.map some++List.replicate (N-n) none)=.rt p c) (hl:a.length=n) (hf:Ay0 a p c=r):Gg n N body a=r:=by
 unfold Gg;grind
end U
namespace K
open PySem L2 U
structure Good (d:PyData) (n w:Nat):Prop where
 lay:d.canLay0=true
 shw:d.showable=true
 dct:d.hasDict=false
 dep:d.depth<=n
 wgt:wt d<=w
structure Goods (ds:List PyData) (n w:Nat):Prop where
 lay:PyData.canLayAll0 ds=true
 shw:PyData.showableAll ds=true
 dct:PyData.hasDictAll ds=false
 dep:PyData.depthAll ds<=n
 wgt:Kl ds<=w*ds.length
theorem Goods.of {n w:Nat}:∀{ds:List PyData},(∀d∈ds,Good d n w)->Goods ds n (w+2)
 | [],_=>⟨rfl,rfl,rfl,Nat.zero_le _,Nat.zero_le _⟩
 | d::r,h=>by
  have a:=h d (.head _)
  have b:=Goods.of λe he=>h e (.tail _ he)
  refine⟨?_,?_,?_,?_,?_⟩
  ·show (d.canLay0&&PyData.canLayAll0 r)=true;rw[a.lay,b.lay];rfl
  ·show (d.showable&&PyData.showableAll r)=true;rw[a.shw,b.shw];rfl
  ·show (d.hasDict||PyData.hasDictAll r)=false;rw[a.dct,b.dct];rfl
  ·show max d.depth (PyData.depthAll r)<=n;have:=a.dep;have:=b.dep;omega
  ·show wt d+2+Kl r<=(w+2)*(r.length+1)
   have:=a.wgt;have:=b.wgt;rw[Nat.mul_succ];omega
theorem Good.tup (h:∀d∈ds,Good d n w) (hk:ds.length<=k):Good (.tuple ds) (n+1) ((w+2)*k+4):=by
 have g:=Goods.of h;have m:(w+2)*ds.length<=(w+2)*k:=Nat.mul_le_mul_left _ hk
 refine⟨g.lay,g.shw,g.dct,?_,?_⟩
 ·show PyData.depthAll _+1<=n+1;have:=g.dep;omega
 ·show Kl _+4<=(w+2)*k+4;have:=g.wgt;omega
theorem Good.lst (h:∀d∈ds,Good d n w) (hk:ds.length<=k):Good (.list ds) (n+1) ((w+2)*k+4):=by
 have g:=Goods.of h;have m:(w+2)*ds.length<=(w+2)*k:=Nat.mul_le_mul_left _ hk
 refine⟨g.lay,g.shw,g.dct,?_,?_⟩
 ·show PyData.depthAll _+1<=n+1;have:=g.dep;omega
 ·show Kl _+4<=(w+2)*k+4;have:=g.wgt;omega
theorem Good.mono (h:Good d n w) (a:n<=n') (b:w<=w'):Good d n' w':=⟨h.lay,h.shw,h.dct,Nat.le_trans h.dep a,Nat.le_trans h.wgt b⟩
theorem Good.flatB (h:Good d n w) (hn:n<=40):Dr d=true:=by
 unfold U.Dr;rw[h.lay,decide_eq_true (Nat.le_trans h.dep hn)];rfl
theorem A0t (ha:Good a n w) (hb:Good b n' w') (hn:n<=40) (c:n'<=40):Dq neg a b=some (.im (.bool (if neg then !PyData.eqv a b else PyData.eqv a b))):=by
 unfold Dq;rw[ha.flatB hn,hb.flatB c];rfl
theorem Yr (h:∀d∈ds,d.canLay0=true):PyData.canLayAll0 ds=true:=by
 induction ds with
 | nil=>rfl
 | cons d r a=>show (d.canLay0&&PyData.canLayAll0 r)=true;grind
theorem Ue : Dq neg (.str a) (.str b)=some (.im (.bool (if neg then !decide (a=b) else decide (a=b)))):=by
 unfold Dq
 rw[show T9 _ _=true from rfl]
 rw[V1]
 simp
inductive Vl where
 | non
 | int (i:Int)
 | str (x:Str)
 deriving DecidableEq
@[simp] theorem Vl.int.injEq (a b:Int):(Vl.int a=Vl.int b)=(a=b):=propext ⟨λh=>by cases h;rfl,λh=>by rw[h]⟩
@[simp] theorem Vl.str.injEq (a b:Str):(Vl.str a=Vl.str b)=(a=b):=propext ⟨λh=>by cases h;rfl,λh=>by rw[h]⟩
noncomputable def Vl.d:Vl->PyData
 | .non=>.none
 | .int i=>.int i
 | .str x=>.str x
noncomputable def vb:Vl->Bool
 | .non=>true
 | .int i=>decide (-1000000000000<=i)&&decide (i<=1000000000000)
 | .str x=>decide (x.length<=40)&&x.cps.toList.all λc=>decide (32<=c)&&decide (c<=126)
abbrev VB (v:Vl):Prop:=vb v=true
abbrev VBs (vs:List Vl):Prop:=∀v∈vs,VB v
def tD (vs:List Vl):PyData:=.tuple (vs.map Vl.d)
theorem Au3 (x y:Str):PyData.eqv (.str x) (.str y)=decide (x=y):=by
 show (x==y)=_
 grind
theorem Bl1 (a b:Vl):PyData.eqv a.d b.d=decide (a=b):=by
 cases a with
 | non=>cases b <;> simp[Vl.d,PyData.eqv]
 | int i=>
  cases b with
   | int j =>
    show (i==j)=_
    grind
   | non=>rfl
   | str y=>trivial
 | str x=>
  cases b with
   | str y=>rw[show PyData.eqv (Vl.d (.str x)) (Vl.d (.str y))=_ from Au3 x y];simp_all
   | non=>trivial
   | int y=>trivial
theorem Aj2:∀as bs:List Vl,PyData.eqvAll (as.map Vl.d) (bs.map Vl.d)=decide (as=bs)
 | [],[]=>by simp[PyData.eqvAll]
 | [],b::bs=>by simp[PyData.eqvAll]
 | a::as,[]=>by simp[PyData.eqvAll]
 | a::as,b::bs=>by
  show (PyData.eqv a.d b.d&&PyData.eqvAll (as.map Vl.d) (bs.map Vl.d))=_
  rw[Bl1,Aj2 as bs]
  simp
theorem B0m (a bs:List Vl):PyData.eqv (tD a) (tD bs)=decide (a=bs):=by
 exact Aj2 _ _
theorem Hn (h:VB v):Good v.d 0 1921:=by
 cases v with
 | non=>exact⟨rfl,rfl,rfl,Nat.le_refl _,by decide⟩
 | int i =>
  obtain⟨a,b⟩:=Bool.and_eq_true_iff.mp (show (decide _&&decide _)=true from h)
  have a:=of_decide_eq_true a;have b:=of_decide_eq_true b
  refine⟨rfl,?_,rfl,Nat.le_refl _,Nat.le_refl _⟩
  have c:i.natAbs<2 ^ 41:=by omega
  have:i.natAbs.log2<1920:=by
   by_cases hz:i.natAbs=0
   ·rw[hz];decide
   ·exact Nat.lt_of_lt_of_le ((Nat.log2_lt hz).mpr c) (by decide)
  simpa[Vl.d,PyData.showable] using this
 | str x =>
  obtain⟨a,b⟩:=Bool.and_eq_true_iff.mp (show (decide _&&x.cps.toList.all _)=true from h)
  have a:=of_decide_eq_true a
  refine⟨?_,rfl,rfl,Nat.le_refl _,?_⟩
  ·show x.cps.all _=true
   grind
  ·show 10*x.length+2<=1921
   omega
theorem Zz (h:VBs vs) (hk:vs.length<=k):Good (tD vs) 1 (1923*k+4) :=
 Good.tup (λd a=>by obtain⟨v,b,rfl⟩:=List.mem_map.mp a;exact Hn (h v b)) (by simp_all)
theorem VBs.app (h:VBs a) (k:VBs b):VBs (a++b):=λv c=>by
 grind
theorem B2p (v:Vl)(vs:List Vl):((vs.map Vl.d).any λe=>PyData.eqv e v.d)=decide (v∈vs):=by
 induction vs with
 | nil=>simp
 | cons a r b =>
  rw[List.map_cons,List.any_cons,Bl1]
  grind
theorem A7j (h:VB v) (hs:VBs vs):J0 neg v.d (.list (vs.map Vl.d))=some (.im (.bool (if neg then !decide (v∈vs) else decide (v∈vs)))):=by
 have e:J0 neg v.d (.list (vs.map Vl.d))=if Dr v.d&&PyData.canLayAll0 (vs.map Vl.d) then some (.im (.bool (if neg then !(vs.map Vl.d).any λe=>PyData.eqv e v.d else (vs.map Vl.d).any λe=>PyData.eqv e v.d))) else none:=by rfl
 rw[e,(Hn h).flatB (by decide),Yr λd a=>by obtain⟨u,b,rfl⟩:=List.mem_map.mp a;exact(Hn (hs u b)).lay,B2p];rfl
theorem Wh {l:List a}{r:Int}(b:0<=r) (h1:r<l.length):∃d,atI l r=some d/\d∈l/\l[r.toNat]?=some d:=by
 obtain⟨k,rfl⟩:=Int.eq_ofNat_of_zero_le b
 exact⟨l[k],Jt (List.getElem?_eq_getElem _),List.getElem_mem _,by grind⟩
def Je:Ev->SR :=
 (Cr (cUn N7 (cLC [none] (Ac6 (Ab 0)) (cgN 0) Bg (Ql (cOp Ah3 (cC (.str " ")) (Ab 0)) (cOp Ah3 (Ab 0) (cC (.str "~")))))))
def Dt:List O->FR:=Gg 1 1 Je
def Es:Ev->SR :=
 (Cm
  (cIf (Bf (cUn (Ay .bool) (Ab 0))) (Cr (cC (.bool false))) Cu)
  (Cm (cIf (Bf (cUn (Ay .str) (Ab 0))) (Cr (cF Dt (Ad (Ab 0) Av))) Cu)
  (Cr (Bs6 (cOp (Jd false) (Ab 0) (cC (.none))) (cUn (Ay .int) (Ab 0))))))
def De:List O->FR:=Gg 1 1 Es
def Aw2 (pr:List O->FR):Ev->SR :=
 (Cm
  (cIf (Bf (cOp (Jd false) (Ab 0) (cC (.none)))) (Cr (Lp (Ad (cC (.int 0)) (Ad (cC (.int 0)) Av)))) Cu)
  (Cm (cIf (Bf (cUn (Ay .int) (Ab 0))) (Cr (Lp (Ad (cC (.int 1)) (Ad (Ab 0) Av)))) Cu)
  (Cm (cIf (Bf (cUn (Ay .str) (Ab 0))) (Cr (Lp (Ad (cC (.int 2)) (Ad (Ab 0) Av)))) Cu)
  (Cr (Lp (Ad (cC (.int 3)) (Ad (cUn Dy (cLC [none] (Ci (Ab 0)) (cgN 0) Bg (cF pr (Ad (Ab 0) Av)))) Av)))))))
def G5:Nat->List O->FR
 | 0=>λ_=>.bad
 | k+1=>Gg 1 1 (Aw2 (G5 k))
def Eh:Ev->SR :=
 (Cm
  (cIf (cOr (Ls (Bf (cUn (Ay .str) (Ab 0)))) (cOr (Bf (cOp (Dq false) (Ab 0) (cC (.str "")))) (Bf (cOp Bb3 (Gy (Ab 0)) (cC (.int 8)))))) (Cr (cC (.bool false))) Cu)
  (Cr (cUn N7 (cLC [none] (Ac6 (Ab 0)) (cgN 0) Bg (cOp (J0 false) (Ab 0) (cC (.str "abcdefghijklmnopqrstuvwxyz")))))))
def Cy:List O->FR:=Gg 1 1 Eh
def Bw:Ev->SR :=
 (Cm
  (cIf (cOr (Ls (Bf (cUn (Ay .tuple) (Ab 0)))) (Bf (cOp (Dq false) (Gy (Ab 0)) (cC (.int 0))))) (Cr (cC (.bool false))) Cu)
  (Cm (cIf (Ls (Bf (cUn N7 (cLC [none] (Ci (Ab 0)) (cgN 0) Bg (cF Cy (Ad (Ab 0) Av)))))) (Cr (cC (.bool false))) Cu)
  (Cr (cOp (Dq false) (cUn O9 (Ab 0)) (Gy (Ab 0))))))
def Bm:List O->FR:=Gg 1 1 Bw
def Fy:Ev->SR :=
 (Cm
  (cIf (cOr (Ls (Bf (cUn (Ay .tuple) (Ab 0)))) (Bf (cOp (Dq true) (Gy (Ab 0)) (Ab 1)))) (Cr (cC (.bool false))) Cu)
  (Cr (cUn N7 (cLC [none] (Ci (Ab 0)) (cgN 0) Bg (cF De (Ad (Ab 0) Av))))))
def Dp:List O->FR:=Gg 2 2 Fy
def Bt:Ev->SR :=
 (Cm
  (cIf (cOr (Ls (Bf (cUn (Ay .tuple) (Ab 0)))) (Bf (cOp (Dq true) (Gy (Ab 0)) (cC (.int 2))))) (Cr (cC (.bool false))) Cu)
  (Cm (Fi (cOp Aq (Ab 0) (cC (.int 0))) (cgN 1))
  (Cm (Fi (cOp Aq (Ab 0) (cC (.int 1))) (cgN 2))
  (Cm (cIf (cOr (Ls (Bf (cF Bm (Ad (Ab 1) Av)))) (Ls (Bf (cUn (Ay .tuple) (Ab 2))))) (Cr (cC (.bool false))) Cu)
  (Cr (cUn N7 (cLC [none,some 1] (Ci (Ab 2)) (cgN 0) Bg (cF Dp (Ad (Ab 0) (Ad (Gy (Ab 1)) Av))))))))))
def Bh:List O->FR:=Gg 1 3 Bt
def Ma:Ev->XS :=
 (Oj
  (Ii (Fi (cOp Aq (Ab 0) (cC (.int 0))) (cgN 2)))
  (Oj (xIf (Bf (cOp (J0 true) (Ab 1) (Ab 2))) (T4 "NoColumn" (Str.ofString "no column ").length "name" (Ab 1)) (Ii Cu))
  (Ii (Cr (cMt Yw Uc (Ab 2) (Ab 1))))))
def Bv:List PyData->XF:=Mr 2 3 Ma
def Kz:Ev->XS :=
 (Qm [none,some 0] (Ci (Ab 1)) (cgN 0) Bg Bv (Ad (Ab 1) (Ad (Ab 0) Av)) [] (Cr (cFz (cLC [none,some 0] (Ci (Ab 1)) (cgN 0) Bg (cFY Bv (Ad (Ab 1) (Ad (Ab 0) Av)))))))
def Dm:List PyData->XF:=Mr 2 2 Kz
def Qp:Ev->SR :=
 (Cr (cUn Dy (cLC [none,some 0] (Ci (Ab 1)) (cgN 0) Bg (cOp Aq (Ab 1) (Ab 0)))))
def Cz:List O->FR:=Gg 2 2 Qp
def Q3:Ev->XS :=
 (Oj
  (Xl Bv (Ad (Ab 0) (Ad (Ab 1) Av)) 2)
  (Ii (Cr (cFz (cLC [none,some 2] (Ci (cOp Aq (Ab 0) (cC (.int 1)))) (cgN 0) Bg (cOp Aq (Ab 0) (Ab 1)))))))
def Hk:List PyData->XF:=Mr 2 3 Q3
def Zo:Ev->XS :=
 (Oj
  (Xl Dm (Ad (Ab 0) (Ad (Ab 1) Av)) 2)
  (Ii (Cr (Lp (Ad (cUn Dy (Ab 1)) (Ad (cUn Dy (cLC [none,some 2] (Ci (cOp Aq (Ab 0) (cC (.int 1)))) (cgN 0) Bg (cF Cz (Ad (Ab 0) (Ad (Ab 1) Av))))) Av))))))
def Jq:List PyData->XF:=Mr 2 3 Zo
def Dg:List O->FR:=Gg 2 2 (Cr (cF (G5 2) (Ad (cF Cz (Ad (Ab 0) (Ad (Ab 1) Av))) Av)))
def Ku:Ev->XS :=
 (Oj
  (Xl Dm (Ad (Ab 0) (Ad (Ab 1) Av)) 2)
  (Oj (Ii (Fi (Av5 Dg [2] (cOp Aq (Ab 0) (cC (.int 1)))) (cgN 3)))
  (Ii (Cr (Lp (Ad (cOp Aq (Ab 0) (cC (.int 0))) (Ad (cUn Dy (Ab 3)) Av)))))))
def Eb:List PyData->XF:=Mr 2 4 Ku
def Oo:BF :=
 (A9y (d:=3) (cF Cz (Ad (Ab 5) (Ad (Ab 2) Av))) (Ab 4))
def U7:Ev->XS :=
 (Oj
  (Xl Dm (Ad (Ab 0) (Ad (Ab 1) Av)) 2)
  (Ii (V9 3 (A9o (d:=3) (At0 (cOp Aq (Ab 0) (cC (.int 1)))) (cgT 2 (Dn (cgN 4) (Dn (cgN 5) Ke))) Oo)
  (Cr (cFz (U5 (Ab 3)))))))
def Ex:List PyData->XF:=Mr 2 6 U7
def Sq:Ev->XS :=
 (Oj
  (xIf (cOr (Ls (Bf (cF Bh (Ad (Ab 0) Av)))) (Ls (Bf (cUn (J8 .list .tuple) (Ab 1))))) (Ii (Cr (cC (.bool false)))) (Ii Cu))
  (Vh Ex (Ad (Ab 0) (Ad (Ab 1) Av)) [] (Cr (cOp (Dq false) (Gy (cFY Ex (Ad (Ab 0) (Ad (Ab 1) Av)))) (Gy (cOp Aq (Ab 0) (cC (.int 1))))))))
def Gs:List PyData->XF:=Mr 2 2 Sq
def K7:Ev->SR :=
 (Cm
  (cIf (Bf (cOp O8 (Ab 1) (Gy (Ab 0)))) (Cr (Bm0 (Ab 0) (Ab 1))) Cu)
  (Cr (cC (.int 0))))
def Fw:List O->FR:=Gg 2 2 K7
def Ah8:Ev->SR :=
 (Cm
  (Fi (cF Fw (Ad (Ab 0) (Ad (Ab 1) Av))) (cgN 2))
  (Cr (Lx (Ad (cOp K8 (cUn At8 (Ab 2)) (cUn A4z (cOp Bq3 (cUn At8 (Ab 2)) (cOp Ah5 (cC (.int 10)) (cC (.int 18)))))) (Ad (cOp Ei (cOp Ei (cOp Oa (Ab 2) (cC (.int 2305843009213693951))) (cOp K8 (cC (.int 39373)) (Ab 1))) (cC (.int 17))) (Ad (cC (.int 0)) Av))))))
def Lw:List O->FR:=Gg 2 3 Ah8
def Rf:Ev->SR :=
 (Cm
  (cIf (Bf (cOp Bb3 (cOp Aq (Ab 0) (cC (.int 0))) (cC (.int 0)))) (Cm (Fi (cOp Oa (cOp Aq (Ab 0) (cC (.int 0))) (Ab 1)) (cgN 2))
  (Cm (Fi (cOp Z4 (cOp Aq (Ab 0) (cC (.int 0))) (Ab 1)) (Aw9 (Ab 0) (cC (.int 0))))
  (Cr (Ab 2)))) Cu)
  (Cm (Fi (cOp Ei (cOp Aq (Ab 0) (cC (.int 2))) (cC (.int 1))) (Aw9 (Ab 0) (cC (.int 2))))
  (Cm (Fi (cOp Oa (cOp K8 (cOp Ei (cOp Aq (Ab 0) (cC (.int 1))) (cOp K8 (cC (.int 48271)) (cOp Aq (Ab 0) (cC (.int 2))))) (cOp Ei (cC (.int 39373)) (cOp Aq (Ab 0) (cC (.int 2))))) (cC (.int 2147483647))) (cgN 3))
  (Cm (Fi (cOp Oa (cOp K8 (cOp Ei (Ab 3) (cOp Aq (Ab 0) (cC (.int 2)))) (cOp Ei (cOp Oa (Ab 3) (cC (.int 40009))) (cC (.int 7)))) (cC (.int 2147483629))) (cgN 4))
  (Cr (cOp Oa (cOp Z4 (cOp Oa (cOp Ei (cOp K8 (Ab 4) (cC (.int 48271))) (Ab 3)) (cC (.int 2147483587))) (cC (.int 64))) (Ab 1)))))))
def Ao:List O->FR:=Gg 2 5 Rf
def Q4:Ev->SR :=
 (Cm
  (cIf (Bf (cOp (Dq false) (cF Ao (Ad (Ab 0) (Ad (cC (.int 8)) Av))) (cC (.int 0)))) (Cr (cOp Ei (cC (.int 7)) (cF Ao (Ad (Ab 0) (Ad (cOp V8 (Ab 3) (cC (.int 6))) Av))))) Cu)
  (Cr (cOp Ei (Ab 1) (cF Ao (Ad (Ab 0) (Ad (cOp Ei (cOp V8 (Ab 2) (Ab 1)) (cC (.int 1))) Av))))))
def Hh:List O->FR:=Gg 4 4 Q4
def U3:Ev->SR :=
 (Cm
  (Fi (Lx (cK [.str "b",.str "a",.str "year",.str "z",.str "ab",.str "month",.str "aa",.str "quantity",.str "c",.str "town",.str "zz",.str "ba"])) (cgN 2))
  (Cr (cLC [none,some 2,some 0] (Hc (Ab 1)) (cgN 0) Bg (O7 (Ab 1) (cF Ao (Ad (Ab 2) (Ad (Gy (Ab 1)) Av)))))))
def Ja:List O->FR:=Gg 2 3 U3
def Jg:Ev->SR :=
 (Cm
  (Fi (cF Ao (Ad (Ab 0) (Ad (cC (.int 9)) Av))) (cgN 1))
  (Cm (cIf (Bf (cOp O8 (Ab 1) (cC (.int 4)))) (Cr (cOp V8 (cF Ao (Ad (Ab 0) (Ad (cC (.int 13)) Av))) (cC (.int 3)))) Cu)
  (Cm (cIf (Bf (cOp (Dq false) (Ab 1) (cC (.int 4)))) (Cr (cOp Aq (Lx (Ad (cOp V8 (cOp Ah5 (cC (.int 10)) (cC (.int 12))) (cC (.int 1))) (Ad (cOp V8 (cC (.int 0)) (cOp Ah5 (cC (.int 10)) (cC (.int 11)))) (Ad (cC (.int 100)) (Ad (cC (.int 10)) Av))))) (cF Ao (Ad (Ab 0) (Ad (cC (.int 4)) Av))))) Cu)
  (Cm (cIf (Bf (cOp (Dq false) (Ab 1) (cC (.int 5)))) (Cr (cC (.none))) Cu)
  (Cr (cOp Aq (Lx (cK [.str "",.str "a",.str "b",.str "B",.str "10",.str "9",.str "-",.str "a b",.str "it's",.str "\\",.str "/",.str "_",.str ":",.str "None",.str "ab"])) (cF Ao (Ad (Ab 0) (Ad (cC (.int 15)) Av)))))))))
def Et:List O->FR:=Gg 1 2 Jg
def Xy:Ev->SR :=
 (Cm
  (Fi (Lx Av) (cgN 2))
  (Cm (Rj (Hc (Ab 1)) (cgN 3) (Cm (Fi (cF Et (Ad (Ab 0) Av)) (cgN 4))
  (cIf (Bf (cOp (J0 true) (Ab 4) (Ab 2))) (Ss (A1g (Ab 2) (Ab 4))) Cu)))
  (Cr (Ab 2))))
def Gr:List O->FR:=Gg 2 5 Xy
def Ou:Ev->SR :=
 (Cm
  (Fi (cF Ja (Ad (Ab 0) (Ad (Ab 1) Av))) (cgN 3))
  (Cm (Fi (cLC [none,some 0] (Ci (Ab 3)) (cgN 0) Bg (cF Gr (Ad (Ab 1) (Ad (cOp Aq (Lx (cK [.int 2,.int 3,.int 3,.int 5,.int 12])) (cF Ao (Ad (Ab 1) (Ad (cC (.int 5)) Av)))) Av)))) (cgN 4))
  (Cm (Fi (Lx Av) (cgN 5))
  (Cm (Rj (Hc (Ab 2)) (cgN 6) (Cm (Fi (cUn Dy (cLC [none,some 0] (Ci (Ab 4)) (cgN 0) Bg (cOp Aq (Ab 0) (cF Ao (Ad (Ab 1) (Ad (Gy (Ab 0)) Av)))))) (cgN 7))
  (Cm (cIf (Bh7 (Bf (cOp (Dq true) (Ab 5) (Lx Av))) (Bf (cOp (Dq false) (cF Ao (Ad (Ab 0) (Ad (cC (.int 9)) Av))) (cC (.int 0))))) (Fi (cOp Aq (Ab 5) (cF Ao (Ad (Ab 0) (Ad (Gy (Ab 5)) Av)))) (cgN 7)) Cu)
  (Ss (A1g (Ab 5) (Ab 7))))))
  (Cr (Lp (Ad (cUn Dy (Ab 3)) (Ad (cUn Dy (Ab 5)) Av))))))))
def Le:List O->FR:=Gg 3 8 Ou
def Mi:Ev->SR :=
 (Cr (cF Le (Ad (Ab 0) (Ad (cF Hh (Ad (Ab 0) (Ad (cC (.int 2)) (Ad (cC (.int 5)) (Ad (cC (.int 12)) Av))))) (Ad (cF Hh (Ad (Ab 0) (Ad (cC (.int 0)) (Ad (cC (.int 8)) (Ad (cC (.int 24)) Av))))) Av)))))
def Eo:List O->FR:=Gg 1 1 Mi
def Gm (pr:List O->FR):Ev->SR :=
 (Cm
  (cIf (Bf (cUn (J8 .list .tuple) (Ab 1))) (Cm (cIf (cOr (Bf (cOp (Dq true) (cUn (Ay .list) (Ab 0)) (cUn (Ay .list) (Ab 1)))) (Bf (cOp (Dq true) (cUn (Ay .tuple) (Ab 0)) (cUn (Ay .tuple) (Ab 1))))) (Cr (cC (.bool false))) Cu)
  (Cr (Ql (cOp (Dq false) (Gy (Ab 0)) (Gy (Ab 1))) (cUn N7 (cLC [none,none] (Zh (Ab 0) (Ab 1)) (cgT 2 (Dn (cgN 0) (Dn (cgN 1) Ke))) Bg (cF pr (Ad (Ab 0) (Ad (Ab 1) Av)))))))) Cu)
  (Cm (cIf (cOr (Bf (cOp (Jd false) (Ab 1) (cC (.none)))) (Bf (cUn (Ay .str) (Ab 1)))) (Cr (Ql (cOp (Dq false) (Ab 0) (Ab 1)) (cOp (Dq false) (cUn (Ay .str) (Ab 0)) (cUn (Ay .str) (Ab 1))))) Cu)
  (Cm (cIf (Bf (cUn (Ay .bool) (Ab 1))) (Cr (Ql (cUn (Ay .bool) (Ab 0)) (cOp (Dq false) (Ab 0) (Ab 1)))) Cu)
  (Cr (Ql (cUn (Ay .int) (Ab 0)) (Ql (A4t (cUn (Ay .bool) (Ab 0))) (cOp (Dq false) (Ab 0) (Ab 1))))))))
def Bq:Nat->List O->FR
 | 0=>λ_=>.bad
 | k+1=>Gg 2 2 (Gm (Bq k))
def Dh:Ev->XS :=
 (Oj
  (xIf (Bf (cOp (Dq false) (Ab 0) (cC (.int 0)))) (U0 Jq (Ad (Ab 1) (Ad (Ab 2) Av))) (Ii Cu))
  (Oj (xIf (Bf (cOp (Dq false) (Ab 0) (cC (.int 1)))) (U0 Eb (Ad (Ab 1) (Ad (Ab 2) Av))) (Ii Cu))
  (Oj (xIf (Bf (cOp (Dq false) (Ab 0) (cC (.int 2)))) (U0 Ex (Ad (Ab 1) (Ad (Ab 2) Av))) (Ii Cu))
  (Oj (xIf (Bf (cOp (Dq false) (Ab 0) (cC (.int 3)))) (U0 Gs (Ad (Ab 1) (Ad (Ab 2) Av))) (Ii Cu))
  (U0 Hk (Ad (Ab 1) (Ad (cOp Aq (Ab 2) (cUn A5y (cC (.int 1)))) Av)))))))
def Bc:List PyData->XF:=Mr 3 3 Dh
def Qn:Ev->SR :=
 (Cm
  (Fi (cC (.none)) (cgN 3))
  (Cm (Ai5 Bc (Ad (Ab 0) (Ad (Ab 1) (Ad (Ab 2) Av))) 4 none ["NoColumn"] (Fi (Ab 4) (cgN 3)))
  (Cm (cIf (Bf (A4u (Ab 3))) (Cr (cC (.none))) Cu)
  (Cm (cIf (cOr (Ls (Bf (Xw [("NoColumn",true)] (Ab 3)))) (Ls (Bf (Xw [("NoColumn",true)] (Ab 3))))) (Cr (cC (.bool true))) Cu)
  (Cm (cIf (Bf (Xw [("NoColumn",false)] (Ab 3))) (Cr (cC (.bool true))) Cu)
  (Cr (cXF ["NoColumn"] "name" (Ab 3))))))))
def Fx:List O->FR:=Gg 3 5 Qn
def Jl:Ev->SR :=
 (Cm
  (Fi (cSl Uu (cUn Oc (cOp Aq (Ab 1) (cC (.int 0)))) cON (cOS (cOp Ei (cC (.int 1)) (cF Ao (Ad (Ab 0) (Ad (cC (.int 3)) Av)))))) (cgN 3))
  (Cm (Fi (cLC [none,some 1] (Ci (cOp Ei (cOp Aq (Ab 2) (cC (.int 0))) (Lp (cK [.str "q",.str "ax",.str "yea",.str "years",.str "",.str "abcdefghi",.str "a b"])))) (cgN 0) (Bf (cOp (J0 true) (Ab 0) (cOp Aq (Ab 1) (cC (.int 0))))) (Ab 0)) (cgN 4))
  (Cm (Rj (Hc (cOp Ei (cC (.int 1)) (cF Ao (Ad (Ab 0) (Ad (cC (.int 2)) Av))))) (cgN 5) (Ss (A9g (Ab 3) (cF Ao (Ad (Ab 0) (Ad (cOp Ei (Gy (Ab 3)) (cC (.int 1))) Av))) (O7 (Ab 4) (cF Ao (Ad (Ab 0) (Ad (Gy (Ab 4)) Av)))))))
  (Cr (Ab 3)))))
def G3:List O->FR:=Gg 3 6 Jl
def M3:Ev->SR :=
 (cIf (Ls (Bf (cF (Bq 5) (Ad (cF Fx (Ad (Ab 9) (Ad (Ab 3) (Ad (cOp Aq (Lx (Ad (cFz (Ab 7)) (Ad (cUn Dy (cFz (Ab 7))) Av))) (cOp Oa (Ab 6) (cC (.int 2)))) Av)))) (Ad (Ab 8) Av))))) (Cr (cC (.bool false))) Cu)
def Kf:Ev->SR :=
 (Cm
  (Fi (cLC [none,some 10] (Hc (cC (.int 5))) (cgN 0) Bg (cFY Bc (Ad (Ab 0) (Ad (Ab 1) (Ad (cFz (cSl Uu (cUn Oc (cOp Aq (Ab 1) (cC (.int 0)))) cON (cOS (cC (.int 2))))) Av))))) (cgN 12))
  (cIf (Ls (Bf (cF (Bq 5) (Ad (cFz (Ab 12)) (Ad (Ab 11) Av))))) (Cr (cC (.bool false))) Cu))
def Ms:Ev->SR :=
 (Cm
  (Fi (cF G3 (Ad (Ab 2) (Ad (Ab 3) (Ad (Ab 4) Av)))) (cgN 7))
  (Cm (Fi (cOp Aq (cLC [none,some 3] (Ci (cFz (Ab 7))) (cgN 0) (Bf (cOp (J0 true) (Ab 0) (cOp Aq (Ab 1) (cC (.int 0))))) (Ab 0)) (cC (.int 0))) (cgN 8))
  (Cm (Rj (Hc (cC (.int 4))) (cgN 9) M3)
  (Cm (cIf (Ls (Bf (cF (Bq 5) (Ad (cF Fx (Ad (cC (.int 4)) (Ad (Ab 3) (Ad (cFz (Lx (Ad (Ab 8) Av))) Av)))) (Ad (Ab 8) Av))))) (Cr (cC (.bool false))) Cu)
  (Rj (Zh (Lp (Ad (Ab 3) (Ad (Ab 4) Av))) (Ab 5)) (cgT 2 (Dn (cgN 10) (Dn (cgN 11) Ke))) Kf)))))
def Mw:Ev->SR :=
 (Cm
  (Fi (cF Lw (Ad (Ab 0) (Ad (Ab 1) Av))) (cgN 2))
  (Cm (Fi (Lp (Ad (cF Eo (Ad (Ab 2) Av)) (Ad (cF Eo (Ad (Ab 2) Av)) Av))) (cgT 2 (Dn (cgN 3) (Dn (cgN 4) Ke))))
  (Cm (Fi (cLC [none] (Ci (Lp (Ad (Ab 3) (Ad (Ab 4) Av)))) (cgN 0) Bg (cLC [none,some 0] (Hc (cC (.int 5))) (cgN 0) Bg (cFY Bc (Ad (Ab 0) (Ad (Ab 1) (Ad (cFz (cSl Uu (cUn Oc (cOp Aq (Ab 1) (cC (.int 0)))) cON (cOS (cC (.int 2))))) Av)))))) (cgN 5))
  (Rj (Hc (cC (.int 4))) (cgN 6) Ms))))
def Am0:Ev->SR :=
 (Cm
  (Rj (Hc (cOp Ei (cC (.int 1)) (cOp An7 (cC (.int 8)) (Gy (Ab 0))))) (cgN 1) Mw)
  (Cr (cC (.bool true))))
def Al2:List O->FR:=Gg 1 13 Am0
abbrev sI (x:PyData):Option O:=some (.im x)
abbrev sT (x:List PyData):Option O:=some (.ls true x)
abbrev sF (x:List PyData):Option O:=some (.ls false x)
local macro_rules | `(tactic| wp_walk using $ts,*)=>`(tactic| simp only [sI,sT,sF,Cm,Fi,cgN,cgT,Dn,Ke,Ab,cC,cOp,cUn,Gy,cF,cFz,List.all_cons,List.all_nil,List.contains_cons,S7,Sh,slots,pairsOf,ndB,Gb,Av,Ad,cK,nrm,Ek,At2,rdP,O.dat,O.flag,O.bor,frz,frzs,Lp,Lx,cIf,Bf,Bg,Bh7,cOr,Ls,Ql,Bs6,A4t,Cr,Ss,Cu,A1g,slL,O7,Aw9,cSl,cON,cOS,Hc,cIn,R.bind_ok,R.toS_ok,Gg,Ay0,resolve,Hs,Uh,U.opI,U.Ww,Bb3,Bq3,V8,Z4,Oa,Ah5,Qj,Li,Bm0,List.getElem?_cons_zero,List.getElem?_cons_succ,List.set_cons_zero,List.set_cons_succ,List.map_cons,List.map_nil,List.length_cons,List.length_nil,List.replicate,List.cons_append,List.nil_append,List.append_nil,List.contains_nil,Option.map_some,Option.map_none,Option.bind_some,Option.join_some,Option.isSome_some,if_true,if_false,Bool.not_true,Bool.not_false,Bool.and_true,Bool.true_and,Bool.and_false,Bool.false_and,Bool.or_true,Bool.or_false,Bool.true_or,Bool.false_or,Nat.sub_self,List.dropLast,List.any_nil,List.flatMap_nil,ite_true,ite_false,decide_true,decide_false,reduceCtorEq,Bj9,B0e,Bz4,B0y,B2n,Br0,Bq2,Bn9,U.A0b,Nat.zero_add,Nat.reduceAdd,Nat.reduceSub,Nat.reduceLeDiff,Nat.reduceLT,Nat.reduceEqDiff,Int.reduceAdd,Int.reduceSub,Int.reduceNeg,Int.reduceLT,Int.reduceLE,Int.reducePow,Int.reduceToNat,Int.reduceMul,and_self,and_true,true_and,Bool.false_eq_true,Option.some.injEq,Ii,Oj,xIf,Bu6,T4,Bz1,Lk,O5,At2,scO,Xl,Br8,U0,Mr,Xw,A4u,cMt,Yw,Bt0,unX,cXF,$[$ts:term],*])
def Bx (n:Nat)(ds:List PyData):Prop:=∃x y z:Int,ds=[.int x,.int y,.int z]/\0<=x/\0<=y/\y<2 ^ 62/\0<=z/\z<=n
abbrev lH:Str:="_law_box_here"
abbrev lJ:Str:="_law_table_here"
abbrev lK:Str:="_law_many_here"
abbrev lL:Str:="_law_script"
abbrev lM:Str:="_law_number"
abbrev lN:Str:="_law_names_here"
abbrev lP:Str:="_law_found"
abbrev lQ:Str:="_law_same"
abbrev lR:Str:="_law_other"
theorem Bx.mono (h:Bx n ds) (l:n<=m):Bx m ds:=by
 obtain⟨x,y,z,e,b,c,a,d,f⟩:=h
 exact⟨x,y,z,e,b,c,a,d,by omega⟩
theorem mod_lt {x m:Int}(h:0<m):0<=x % m/\x % m<m:=⟨Int.emod_nonneg _ (by omega),Int.emod_lt_of_pos _ h⟩
theorem A8s (h:-(2 ^ 64)<i/\i<2 ^ 64):U8 i j=true:=by
 unfold U8;grind
theorem Ac1 (h:-(2 ^ 64)<j/\j<2 ^ 64):U8 i j=true:=by
 unfold U8;grind
theorem Ad0 (h:0<j):Aw3 i j=true:=decide_eq_true h
theorem B1t (h:0<j/\j<1073741824):Au2 i j=true:=by
 unfold Au2;grind
theorem B2c:Ad4 10 18=true:=by rfl
theorem B1x:Ad4 10 12=true:=by rfl
theorem By8:Ad4 10 11=true:=by rfl
theorem Em (hb:Bx n ds) (hn:n<2 ^ 40) (a:0<m) (h1:m<16000000) :
 ∃r ds',Bx (n+1) ds'/\0<=r/\r<m/\Ao [.ls true ds,.im (.int m)]=.ret (.im (.int r)) [.ls true ds',.im (.int m)]:=by
 obtain⟨x,y,z,rfl,d,e,b,g,z1⟩:=hb
 by_cases c:0<x
 ·refine⟨x % m,[.int (x / m),.int y,.int z],⟨_,_,_,rfl,Int.ediv_nonneg d (by omega),e,b,g,by omega⟩,(mod_lt a).1,(mod_lt a).2,?_⟩
  wp_walk using Ao,Rf,Aq,decide_eq_true c,Ad0 a,B1t ⟨a,(by omega:m<1073741824)⟩
 ·have h:=mod_lt (x:=(y+48271*(z+1))*(39373+(z+1))) (m:=2147483647) (by decide)
  generalize e1:(y+48271*(z+1))*(39373+(z+1)) % 2147483647=once at h
  have g2:=mod_lt (x:=once) (m:=40009) (by decide)
  have f:=mod_lt (x:=(once+(z+1))*(once % 40009+7)) (m:=2147483629) (by decide)
  generalize e2:(once+(z+1))*(once % 40009+7) % 2147483629=twice at f
  refine⟨(twice*48271+once) % 2147483587 / 64 % m,[.int x,.int y,.int (z+1)],⟨_,_,_,rfl,d,e,b,by omega,by omega⟩,(mod_lt a).1,(mod_lt a).2,?_⟩
  wp_walk using Ao,Rf,Aq,K8,Ei,decide_eq_false c,Ad0 a,B1t (i:=(twice*48271+once) % 2147483587) (j:=64) ⟨by decide,by decide⟩,A8s (i:=48271) (j:=z+1) ⟨by decide,by decide⟩,Ac1 (i:=y+48271*(z+1)) (j:=39373+(z+1)) ⟨by omega,by omega⟩,Ad0 (i:=(y+48271*(z+1))*(39373+(z+1))) (j:=2147483647) (by decide),e1,Ad0 (i:=once) (j:=40009) (by decide),Ac1 (i:=once+(z+1)) (j:=once % 40009+7) ⟨by omega,by omega⟩,Ad0 (i:=(once+(z+1))*(once % 40009+7)) (j:=2147483629) (by decide),e2,Ac1 _,Ad0 (j:=2147483587) (by decide)
theorem Am9 {k:Nat}:∃i:Int,Fw [.sc ns,.im (.int k)]=.ret (.im (.int i)) [.sc ns,.im (.int k)]:=by
 by_cases c:k<ns.length
 ·refine⟨ns[k],?_⟩
  have e:atI ns (k:Int)=some ns[k]:=Jt (List.getElem?_eq_getElem c)
  wp_walk using Fw,K7,O8,Dr,PyData.canLay0,PyData.depth,Ox,decide_eq_true (show (k:Int)<ns.length by omega),e,Nat.zero_le
 ·refine⟨0,?_⟩
  wp_walk using Fw,K7,O8,Dr,PyData.canLay0,PyData.depth,Ox,decide_eq_false (show ¬ (k:Int)<ns.length by omega),Nat.zero_le
theorem Bn2 {k:Nat}(hk:k<=63):∃ds,Bx 0 ds/\Lw [.sc ns,.im (.int k)]=.ret (.ls false ds) [.sc ns,.im (.int k)]:=by
 obtain⟨i,e⟩:=Am9 (ns:=ns) (k:=k)
 have a:(0:Int)<=(if i<0 then -i else i):=by grind
 have c:=mod_lt (x:=i) (m:=2305843009213693951) (by decide)
 generalize ea:(if i<0 then -i else i)=ab at a
 have b:(0:Int)<=(if decide ((1000000000000000000:Int)<=ab)=true then 1 else 0)/\(if decide ((1000000000000000000:Int)<=ab)=true then (1:Int) else 0)<=1:=by omega
 generalize eo:(if decide ((1000000000000000000:Int)<=ab)=true then (1:Int) else 0)=on at b
 refine⟨[.int _,.int (i % 2305843009213693951+39373*k+17),.int 0],⟨_,_,_,rfl,Int.mul_nonneg a b.1,by omega,by omega,by omega,by omega⟩,?_⟩
 wp_walk using Lw,Ah8,e,At8,ea,A4z,K8,Ei,eo,B2c,Ad0 (j:=2305843009213693951) (by decide),Ac1 (j:=on) ⟨by omega,by omega⟩,A8s _
theorem Ar1 (hb:Bx n ds) (hn:n<2 ^ 39) (j:0<=l) (h1:l<=7) (h2:l<=f) (t:f<=m) (o:7<=m) (p:m<1000) :
 ∃r ds',Bx (n+2) ds'/\l<=r/\r<=m/\Hh [.ls true ds,.im (.int l),.im (.int f),.im (.int m)]=.ret (.im (.int r)) [.ls true ds',.im (.int l),.im (.int f),.im (.int m)]:=by
 obtain⟨r,s,g,u,k,e⟩:=Em (m:=8) hb (by omega) (by decide) (by decide)
 by_cases c:r=0
 ·subst c
  obtain⟨q,a,d,h,i,b⟩:=Em (m:=m-6) g (by omega) (by omega) (by omega)
  refine⟨7+q,a,d,by omega,by omega,?_⟩
  wp_walk using Hh,Q4,e,b,Dq,Dr,PyData.canLay0,PyData.depth,PyData.eqv,Ei,Nat.zero_le,beq_self_eq_true
 ·obtain⟨q,a,d,h,i,b⟩:=Em (m:=f-l+1) g (by omega) (by omega) (by omega)
  refine⟨l+q,a,d,by omega,by omega,?_⟩
  wp_walk using Hh,Q4,e,b,Dq,Dr,PyData.canLay0,PyData.depth,PyData.eqv,Ei,Nat.zero_le,beq_eq_false_iff_ne.mpr c
theorem A8u (hb:Bx n ds) (hn:n<2 ^ 39):∃(v:Vl) (ds':List PyData),Bx (n+2) ds'/\VB v/\Et [.ls true ds]=.ret (.im v.d) [.ls true ds']:=by
 obtain⟨r,t,k,r0,r1,j⟩:=Em (m:=9) hb (by omega) (by decide) (by decide)
 by_cases c4:r<4
 ·obtain⟨q,e,g,h,i,c⟩:=Em (m:=13) k (by omega) (by decide) (by decide)
  refine⟨.int (q-3),e,g,?_,?_⟩
  ·show (decide (-1000000000000<=q-3)&&decide (q-3<=1000000000000))=true
   rw[decide_eq_true (by omega),decide_eq_true (by omega)];rfl
  wp_walk using Et,Jg,j,c,O8,Ox,Dr,PyData.canLay0,PyData.depth,Nat.zero_le,decide_eq_true c4,Vl.d
 by_cases c5:r=4
 ·subst c5
  obtain⟨q,e,g,h,i,c⟩:=Em (m:=4) k (by omega) (by decide) (by decide)
  obtain⟨d,s,f,_⟩:=Wh (l:=[PyData.int 999999999999,.int (-100000000000),.int 100,.int 10]) (r:=q) h i
  have p:∃v:Vl,d=v.d/\VB v:=by
   simp only[List.mem_cons,List.not_mem_nil,or_false]at f
   rcases f with rfl | rfl | rfl | rfl <;> exact⟨.int _,rfl,by decide⟩
  obtain⟨v,rfl,o⟩:=p
  refine⟨v,e,g,o,?_⟩
  wp_walk using Et,Jg,j,c,O8,Ox,Dq,Dr,PyData.canLay0,PyData.depth,PyData.eqv,Nat.zero_le,decide_eq_false c4,beq_self_eq_true,B1x,By8,Aq,s
 by_cases c6:r=5
 ·subst c6
  refine⟨.non,t,k.mono (by omega),rfl,?_⟩
  wp_walk using Et,Jg,j,O8,Ox,Dq,Dr,PyData.canLay0,PyData.depth,PyData.eqv,Nat.zero_le,decide_eq_false c4,beq_self_eq_true,beq_eq_false_iff_ne.mpr c5,Vl.d
 ·obtain⟨q,e,g,h,i,c⟩:=Em (m:=15) k (by omega) (by decide) (by decide)
  obtain⟨d,s,f,_⟩:=Wh (l:=[PyData.str "",.str "a",.str "b",.str "B",.str "10",.str "9",.str "-",.str "a b",.str "it's",.str "\\",.str "/",.str "_",.str ":",.str "None",.str "ab"]) (r:=q) h i
  have p:∃v:Vl,d=v.d/\VB v:=by
   simp only[List.mem_cons,List.not_mem_nil,or_false]at f
   rcases f with rfl | rfl | rfl | rfl | rfl | rfl | rfl | rfl | rfl | rfl | rfl | rfl | rfl | rfl | rfl <;> exact⟨.str _,rfl,by decide⟩
  obtain⟨v,rfl,o⟩:=p
  refine⟨v,e,g,o,?_⟩
  wp_walk using Et,Jg,j,c,O8,Ox,Dq,Dr,PyData.canLay0,PyData.depth,PyData.eqv,Nat.zero_le,decide_eq_false c4,beq_eq_false_iff_ne.mpr c5,beq_eq_false_iff_ne.mpr c6,Aq,s
noncomputable def names12:List Str:=[Str.ofString "b",Str.ofString "a",Str.ofString "year",Str.ofString "z",Str.ofString "ab",Str.ofString "month",Str.ofString "aa",Str.ofString "quantity",Str.ofString "c",Str.ofString "town",Str.ofString "zz",Str.ofString "ba"]
theorem B2u {m:Nat}(h:m<=1000):(m:Int)<=16000000/\-16000000<=(m:Int):=by omega
theorem upN {n k a b c:Nat}(hn:n<a)(hk:k<=b)(h:a+b<=c):n+k<c:=Nat.lt_of_lt_of_le (Nat.add_lt_add_of_lt_of_le hn hk) h
theorem Ax2 {n:Nat}{r:Int}(a:0<=r)(h1:r<n):ixN n r=some r.toNat:=by
 unfold ixN;grind
theorem Qy : (J4 lo n).length=n:=by unfold J4;grind
theorem K5 (h:(J4 lo n)[k]?=some d):d=.int (lo+k)/\k<n:=by
 unfold J4 at h
 grind
theorem Rh {α β:Type}(f:α->β):∀(l:List α) (j:Nat),(l.map f).eraseIdx j=(l.eraseIdx j).map f
 | [],j=>rfl
 | a::l,0=>rfl
 | a::l,j+1=>by rw[List.map_cons,List.eraseIdx_cons_succ,List.eraseIdx_cons_succ,List.map_cons,Rh f l j]
theorem Vc {α:Type}:∀(l:List α) {j:Nat}(h:j<l.length),(l[j]::l.eraseIdx j).Perm l
 | a::l,0,h=>List.Perm.refl _
 | a::l,j+1,h=>by
  rw[List.eraseIdx_cons_succ,List.getElem_cons_succ]
  exact(List.Perm.swap a _ _).trans (List.Perm.cons a (Vc l (by simpa using h)))
structure Names (ns:List Str):Prop where
 nd:ns.Nodup
 sub:∀x∈ns,x∈names12
theorem A5a (hb:Bx n ds) (hn:n<2 ^ 38) (hm:m<=12) :
 ∃b ds',b.length=m/\Names b/\Bx (n+m) ds'/\Ja [.ls true ds,.im (.int m)]=.ret (.ls false (b.map PyData.str)) [.ls true ds',.im (.int m)]:=by
 have i:=Nm (g:=cgN 0) (ft:=Bg) (fe:=O7 (Ab 1) (cF Ao (Ad (Ab 2) (Ad (Gy (Ab 1)) Av)))) (items:=J4 0 m) (acc:=[]) (n:=0) (c:=[none,sT (names12.map PyData.str),sT ds])
  (P:=λk f c=>∃a h t b,c=[t,sT (a.map PyData.str),sT h]/\Bx (n+k) h/\f=b.map PyData.str/\(b++a).Perm names12/\b.length=k)
  ⟨names12,ds,none,[],rfl,hb,rfl,List.Perm.refl _,rfl⟩ (λk d f c C w=>by
   rw[Nat.zero_add]at w ⊢;obtain⟨a,h,t,b,rfl,o,rfl,j,l⟩:=w;obtain⟨rfl,hk⟩:=K5 C
   have ll:a.length+k=12:=by have:=j.length_eq;rw[List.length_append,l]at this;have e:names12.length=12:=rfl;omega
   obtain⟨r,v,A,z,y,B⟩:=Em (m:=(a.length:Int)) o (by omega) (by omega) (by omega)
   have u:r.toNat<a.length:=by omega
   have q:(a.map PyData.str)[r.toNat]?=some (.str a[r.toNat]):=by simp[u]
   have p:ixN a.length r=some r.toNat:=Ax2 z y
   refine⟨some (.str a[r.toNat]),[sI (.int (0+(k:Int))),sT ((a.eraseIdx r.toNat).map PyData.str),sT v],?_,a.eraseIdx r.toNat,v,_,b++[a[r.toNat]],rfl,A.mono (by omega),by simp,?_,by simp[l]⟩
   ·wp_walk using Do,List.length_map,B,p,q,Rh,show a.length<=16000000 by omega
   ·rw[List.append_assoc]
    exact(List.Perm.append_left b (Vc a u)).trans j)
 obtain⟨f,cI,e,a,h,t,b,rfl,o,rfl,j,l⟩:=i;rw[Nat.zero_add,Qy]at o l
 have D:(b++a).Nodup:=j.nodup_iff.mpr (by decide)
 refine⟨b,h,l,⟨(List.nodup_append.mp D).1,λx q=>j.mem_iff.mp (List.mem_append_left _ q)⟩,o,?_⟩
 have s:cLC [none,some 2,some 0] (Hc (Ab 1)) (cgN 0) Bg (O7 (Ab 1) (cF Ao (Ad (Ab 2) (Ad (Gy (Ab 1)) Av)))) [sT ds,sI (.int m),sF (names12.map PyData.str)]=.ok (.o (.ls false (b.map PyData.str))) [sT h,sI (.int m),sF (a.map PyData.str)] :=
  Fq (ds:=J4 0 m) (c1:=[sT ds,sI (.int m),sF _]) (by wp_walk using B2u (Nat.le_trans hm (by decide)),Int.toNat_natCast) (by rw[Qy];exact Nat.le_trans hm (by decide)) e (by wp_walk using true_and)
 unfold Ja U3;simp only[names12,List.map_cons,List.map_nil]at s
 wp_walk using s
theorem A2u {k:Nat}{vs:List Vl} (h:v∉vs) (a:vs.Nodup):(vs++[v]).Nodup:=by
 grind
theorem A8y (hb:Bx n ds) (hn:n<2 ^ 38) (hm:m<=1000) :
 ∃a ds',VBs a/\a.Nodup/\a.length<=m/\(0<m->a≠[])/\Bx (n+2*m) ds'/\Gr [.ls true ds,.im (.int m)]=.ret (.ls false (a.map Vl.d)) [.ls true ds',.im (.int m)]:=by
 have i:=Ji (g:=cgN 3) (body:=Cm (Fi (cF Et (Ad (Ab 0) Av)) (cgN 4)) (cIf (Bf (cOp (J0 true) (Ab 4) (Ab 2))) (Ss (A1g (Ab 2) (Ab 4))) Cu)) (items:=J4 0 m) (n:=0) (c:=[sT ds,sI (.int m),sF [],none,none])
  (P:=λk c=>∃j a x y,c=[sT j,sI (.int m),sF (a.map Vl.d),x,y]/\Bx (n+2*k) j/\VBs a/\a.Nodup/\a.length<=k/\(0<k->a≠[]))
  ⟨ds,[],none,none,rfl,hb,(λv b=>by cases b),List.nodup_nil,Nat.le_refl _,λh=>absurd h (by decide)⟩ (λk d c B s=>by
   rw[Nat.zero_add]at s ⊢;obtain⟨j,a,x,y,rfl,p,b,o,l,f⟩:=s;obtain⟨rfl,w⟩:=K5 B
   obtain⟨v,q,t,r,A⟩:=A8u p (upN hn (Nat.mul_le_mul_left 2 (Nat.le_trans (Nat.le_of_lt w) hm)) (by decide))
   by_cases c:v∈a
   ·refine⟨[sT q,sI (.int m),sF (a.map Vl.d),sI (.int (0+(k:Int))),sI v.d],.inl ?_,q,a,_,_,rfl,t,b,o,Nat.le_succ_of_le l,λ_ z=>by rw[z]at c;cases c⟩
    wp_walk using A,A7j r b,decide_eq_true c
   ·refine⟨[sT q,sI (.int m),sF ((a++[v]).map Vl.d),sI (.int (0+(k:Int))),sI v.d],.inl ?_,q,a++[v],_,_,rfl,t,VBs.app b (λu C=>by rw[List.mem_singleton.mp C];exact r),A2u (k:=k) c o,by rw[List.length_append,List.length_singleton];omega,λ_=>by simp⟩
    wp_walk using A,A7j r b,decide_eq_false c,List.length_map,show a.length<16000000 from Nat.lt_of_le_of_lt l (Nat.lt_of_lt_of_le w (Nat.le_trans hm (by decide))),List.map_append)
 obtain⟨c',e,j,a,x,y,rfl,p,b,o,l,f⟩:=i;rw[Nat.zero_add,Qy]at p l f
 refine⟨a,j,b,o,l,f,p,?_⟩
 unfold Gr Xy
 wp_walk using Rj,B2u hm,Int.toNat_natCast,e
structure Tb where
 cols:List Str
 rows:List (List Vl)
def Tb.d (t:Tb):PyData:=.tuple [.tuple (t.cols.map PyData.str),.tuple (t.rows.map tD)]
structure Tb.Ok (t:Tb):Prop where
 nms:Names t.cols
 cpos:2<=t.cols.length
 clen:t.cols.length<=12
 rows:∀r∈t.rows,r.length=t.cols.length/\VBs r
 rlen:t.rows.length<=24
def plD (vs:List Vl):PyData:=.list (vs.map Vl.d)
structure Aw0 (n:Nat) (ps:List (List Vl)):Prop where
 len:ps.length=n
 each:∀p∈ps,VBs p/\p≠[]/\p.length<=12
theorem A5s (hb:Bx n ds) (hn:n<2 ^ 37) (hl:items.length<=100) :
 ∃
  b f t,Aw0 items.length b/\Bx (n+25*items.length) f /\
  Ds (cgN 0) Bg (cF Gr (Ad (Ab 1) (Ad (cOp Aq (Lx (cK [.int 2,.int 3,.int 3,.int 5,.int 12])) (cF Ao (Ad (Ab 1) (Ad (cC (.int 5)) Av)))) Av))) items [] [none,sT ds]=.ok (b.map plD) [t,sT f]:=by
 have j:=Nm (g:=cgN 0) (ft:=Bg) (fe:=cF Gr (Ad (Ab 1) (Ad (cOp Aq (Lx (cK [.int 2,.int 3,.int 3,.int 5,.int 12])) (cF Ao (Ad (Ab 1) (Ad (cC (.int 5)) Av)))) Av))) (items:=items) (acc:=[]) (n:=0) (c:=[none,sT ds])
  (P:=λk a c=>∃f t b,c=[t,sT f]/\k<=items.length/\Bx (n+25*k) f/\a=b.map plD/\Aw0 k b)
  ⟨ds,none,[],rfl,Nat.zero_le _,hb,rfl,rfl,λp i=>nomatch i⟩ (λk d a c E v=>by
   rw[Nat.zero_add]at v ⊢;obtain⟨f,t,b,rfl,F,o,rfl,i⟩:=v;have s:k<items.length:=(List.getElem?_eq_some_iff.mp E).1
   obtain⟨r,d2,G,B,z,C⟩:=Em (m:=5) o (by omega) (by decide) (by decide)
   obtain⟨x,D,w,_⟩:=Wh (l:=[PyData.int 2,.int 3,.int 3,.int 5,.int 12]) (r:=r) B z
   have q:∃m:Nat,x=.int m/\0<m/\m<=12:=by
    simp only[List.mem_cons,List.not_mem_nil,or_false]at w
    rcases w with rfl | rfl | rfl | rfl | rfl
    ·exact⟨2,rfl,by decide,by decide⟩
    ·exact⟨3,rfl,by decide,by decide⟩
    ·exact⟨3,rfl,by decide,by decide⟩
    ·exact⟨5,rfl,by decide,by decide⟩
    ·exact⟨12,rfl,by decide,by decide⟩
   obtain⟨m,rfl,A,m1⟩:=q
   obtain⟨y,H,q,nd,I,u,J,K⟩:=A8y (m:=m) G (by omega) (by omega)
   refine⟨some (plD y),[sI d,some _],?_,H,_,b++[y],rfl,s,J.mono (by omega),by simp,by simp[i.len],λp h=>by
    rcases List.mem_append.mp h with h | h
    ·exact i.each p h
    ·rw[List.mem_singleton.mp h];exact⟨q,u A,by omega⟩⟩
   wp_walk using C,Aq,D,K,plD)
 obtain⟨a,cI,e,f,t,b,rfl,_,o,rfl,i⟩:=j;rw[Nat.zero_add]at o i;exact⟨b,f,t,i,o,e⟩
theorem A1z (hb:Bx n ds) (hn:n<2 ^ 37) (hp:Aw0 w ps) (hw:w<=100) :
 ∃
  a f t,a.length=w/\VBs a/\Bx (n+w) f /\
  Ds (cgN 0) Bg (cOp Aq (Ab 0) (cF Ao (Ad (Ab 1) (Ad (Gy (Ab 0)) Av)))) (ps.map plD) [] [none,sT ds]=.ok (a.map Vl.d) [t,sT f]:=by
 have o:=Nm (g:=cgN 0) (ft:=Bg) (fe:=cOp Aq (Ab 0) (cF Ao (Ad (Ab 1) (Ad (Gy (Ab 0)) Av)))) (items:=ps.map plD) (acc:=[]) (n:=0) (c:=[none,sT ds])
  (P:=λk b c=>∃f t a,c=[t,sT f]/\k<=w/\Bx (n+k) f/\b=a.map Vl.d/\a.length=k/\VBs a)
  ⟨ds,none,[],rfl,Nat.zero_le _,hb,rfl,rfl,λv C=>by cases C⟩ (λk d b c F B=>by
   rw[Nat.zero_add]at B ⊢;obtain⟨f,t,a,rfl,M,s,rfl,q,A⟩:=B;obtain⟨p,j,e⟩:=Mv F;subst e;have i:k<ps.length:=(List.getElem?_eq_some_iff.mp j).1;rw[hp.len]at i;obtain⟨E,y,pl⟩:=hp.each p (List.mem_of_getElem? j);have lp:0<p.length:=List.length_pos_iff.mpr y
   obtain⟨r,I,J,D,H,G⟩:=Em (m:=(p.length:Int)) s (by omega) (by omega) (by omega)
   obtain⟨x,L,K,_⟩:=Wh (l:=p.map Vl.d) (r:=r) D (by rw[List.length_map];exact H)
   obtain⟨v,z,rfl⟩:=List.mem_map.mp K
   refine⟨some v.d,[sI (plD p),some _],?_,I,_,a++[v],rfl,i,J.mono (by omega),by simp,by simp[q],VBs.app A λu h=>by rw[List.mem_singleton.mp h];exact E v z⟩
   wp_walk using plD,Do,List.length_map,G,Aq,L)
 obtain⟨b,cI,e,f,t,a,rfl,_,s,rfl,q,A⟩:=o;rw[Nat.zero_add,List.length_map,hp.len]at s q;exact⟨a,f,t,q,A,s,e⟩
abbrev Qc:Ev->SR:=Cm (Fi (cUn Dy (cLC [none,some 0] (Ci (Ab 4)) (cgN 0) Bg (cOp Aq (Ab 0) (cF Ao (Ad (Ab 1) (Ad (Gy (Ab 0)) Av)))))) (cgN 7))
 (Cm (cIf (Bh7 (Bf (cOp (Dq true) (Ab 5) (Lx Av))) (Bf (cOp (Dq false) (cF Ao (Ad (Ab 0) (Ad (cC (.int 9)) Av))) (cC (.int 0))))) (Fi (cOp Aq (Ab 5) (cF Ao (Ad (Ab 0) (Ad (Gy (Ab 5)) Av)))) (cgN 7)) Cu)
 (Ss (A1g (Ab 5) (Ab 7))))
theorem A1v {rows:List (List Vl)} (h:∀r∈rows,r.length=w/\VBs r) (hw:w<=12) (hl:rows.length<=100):Good (.list (rows.map tD)) 2 2400000:=by
 refine (Good.lst (n:=1) (w:=1923*12+4) (k:=100) (λd a=>?_) (by grind)).mono (by decide) (by decide)
 obtain⟨r,b,rfl⟩:=List.mem_map.mp a
 exact Zz (h r b).2 (by grind)
theorem A7g (h:∀r∈rows,r.length=w/\VBs r) (hw:w<=12) (hl:rows.length<=100):Dq true (.list (rows.map tD)) (.list [])=sI (.bool (decide (rows≠[]))):=by
 rw[A0t (A1v h hw hl) (n':=1) (w':=4) ⟨rfl,rfl,rfl,by decide,by decide⟩ (by decide) (by decide)]
 cases rows with
 | nil=>rfl
 | cons a r=>rfl
def A2v (o:O)(ds:List PyData):Prop:=o=.ls false ds\/o=.im (.list ds)
theorem Ap1 (hb:Bx n ds) (hn:n<2 ^ 36) (hp:Aw0 w ps) (hw:w<=12) (p:A2v d (ps.map plD)) (hr:∀r∈rows,r.length=w/\VBs r) (hl:rows.length<=50) :
 ∃a h,a.length=w/\VBs a/\Bx (n+14) h/\Qj (cgN 6) Qc i [sT ds,s1,s2,s3,some d,sF (rows.map tD),s6,s7]=.nx [sT h,s1,s2,s3,sI (.list (ps.map plD)),sF ((rows++[a]).map tD),sI i,sI (tD a)]:=by
 obtain⟨g,h,t,q,v,y,C⟩:=A1z hb (by omega) hp (by omega)
 have f:∀d,A2v d (ps.map plD)->cLC [none,some 0] (Ci (Ab 4)) (cgN 0) Bg (cOp Aq (Ab 0) (cF Ao (Ad (Ab 1) (Ad (Gy (Ab 0)) Av)))) [sT ds,s1,s2,s3,some d,sF (rows.map tD),sI i,s7]=.ok (.o (.ls false (g.map Vl.d))) [sT h,s1,s2,s3,sI (.list (ps.map plD)),sF (rows.map tD),sI i,s7]:=λd p=>by
  refine Fq (ds:=ps.map plD) (c1:=[sT ds,s1,s2,s3,sI (.list (ps.map plD)),sF (rows.map tD),sI i,s7]) ?_ (by rw[List.length_map,hp.len];omega) C (by wp_walk using true_and)
  rcases p with rfl | rfl <;> wp_walk using Ci
 have f:=f d p;have o:PyData.tuple (g.map Vl.d)=tD g:=rfl
 have s:(rows.map tD).length<16000000:=by rw[List.length_map];omega
 have e:=A7g hr hw (by omega)
 by_cases hne:rows=[]
 ·subst hne
  refine⟨g,h,q,v,y.mono (by omega),?_⟩
  simp only[List.map_nil]at f e s
  wp_walk using Qc,f,Dy,o,e,ne_eq,not_true_eq_false
 ·obtain⟨r,B,z,r0,r1,u⟩:=Em (m:=9) y (by omega) (by decide) (by decide)
  have e:Dq true (.list (rows.map tD)) (.list [])=sI (.bool true):=by rw[e,decide_eq_true hne]
  by_cases c:r=0
  ·subst c
   have lp:0<rows.length:=List.length_pos_iff.mpr hne
   obtain⟨k,G,D,F,E,H⟩:=Em (m:=(rows.length:Int)) z (by omega) (by omega) (by omega)
   obtain⟨x,hx,A,_⟩:=Wh (l:=rows.map tD) (r:=k) F (by rw[List.length_map];exact E)
   obtain⟨a,b,rfl⟩:=List.mem_map.mp A
   refine⟨a,G,(hr a b).1,(hr a b).2,D.mono (by omega),?_⟩
   have j:Dq false (.int 0) (.int 0)=sI (.bool true):=rfl
   wp_walk using Qc,f,Dy,o,e,u,j,Do,List.length_map,H,Aq,hx,s,List.map_append,show rows.length<16000000 by omega
  ·refine⟨g,B,q,v,z.mono (by omega),?_⟩
   have j:Dq false (.int r) (.int 0)=sI (.bool false):=by
    wp_walk using Dq,Dr,PyData.canLay0,PyData.depth,PyData.eqv,Nat.zero_le,beq_eq_false_iff_ne.mpr c
   wp_walk using Qc,f,Dy,o,e,u,j,List.length_map,List.map_append,show rows.length<16000000 by omega
theorem A4o (hb:Bx n ds) (hn:n<2 ^ 35) (h2:2<=m) (hm:m<=12) (hk:k<=24) :
 ∃t l,Tb.Ok t/\t.cols.length=m/\t.rows.length=k/\Bx (n+1000) l/\Le [.ls true ds,.im (.int m),.im (.int k)]=.ret (.im t.d) [.ls true l,.im (.int m),.im (.int k)]:=by
 obtain⟨b,l,B,z,U,K⟩:=A5a (m:=m) hb (by omega) hm
 obtain⟨o,q,t,E,F,J⟩:=A5s (items:=b.map PyData.str) U (by omega) (by rw[List.length_map];omega)
 rw[List.length_map,B]at E F
 have L:cLC [none,some 0] (Ci (Ab 3)) (cgN 0) Bg (cF Gr (Ad (Ab 1) (Ad (cOp Aq (Lx (cK [.int 2,.int 3,.int 3,.int 5,.int 12])) (cF Ao (Ad (Ab 1) (Ad (cC (.int 5)) Av)))) Av))) [sT l,sI (.int m),sI (.int k),sF (b.map PyData.str),none,none,none,none]=.ok (.o (.ls false (o.map plD))) [sT q,sI (.int m),sI (.int k),sI (.list (b.map PyData.str)),none,none,none,none] :=
  Fq (ds:=b.map PyData.str) (c1:=[sT l,sI (.int m),sI (.int k),sI (.list (b.map PyData.str)),none,none,none,none]) (by wp_walk using Ci) (by rw[List.length_map];omega) J (by wp_walk using true_and)
 have u:=Ji (g:=cgN 6) (body:=Qc) (items:=J4 0 k) (n:=0) (c:=[sT q,sI (.int m),sI (.int k),sI (.list (b.map PyData.str)),sF (o.map plD),sF [],none,none])
  (P:=λj c=>∃e s a x y,c=[sT e,sI (.int m),sI (.int k),sI (.list (b.map PyData.str)),some s,sF (a.map tD),x,y]/\j<=k/\Bx (n+m+25*m+14*j) e/\A2v s (o.map plD)/\(∀r∈a,r.length=m/\VBs r)/\a.length=j)
  ⟨q,_,[],none,none,rfl,Nat.zero_le _,F,.inl rfl,(λr f=>nomatch f),rfl⟩ (λj d c N G=>by
   rw[Nat.zero_add]at G ⊢;obtain⟨e,s,a,x,y,rfl,I,v,D,f,w⟩:=G;obtain⟨rfl,M⟩:=K5 N
   obtain⟨A,O,Q,R,S,T⟩:=Ap1 (s1:=sI (.int m)) (s2:=sI (.int k)) (s3:=sI (.list (b.map PyData.str))) (s6:=x) (s7:=y) (i:=.int (0+(j:Int))) v (by omega) E hm D f (by omega)
   exact⟨_,.inl T,O,_,a++[A],_,_,rfl,M,S.mono (by omega),.inr rfl,λr h=>by
    rcases List.mem_append.mp h with h | h
    ·exact f r h
    ·rw[List.mem_singleton.mp h];exact⟨Q,R⟩,by simp[w]⟩)
 obtain⟨C,H,e,s,a,x,y,rfl,_,v,D,f,w⟩:=u;rw[Nat.zero_add,Qy]at v w
 refine⟨⟨b,a⟩,e,⟨z,by show 2<=b.length;omega,by show b.length<=12;omega,λr h=>by show r.length=b.length/\_;rw[B];exact f r h,by show a.length<=24;omega⟩,B,w,v.mono (by omega),?_⟩
 refine Ub (p:=.o (.im (Tb.d ⟨b,a⟩))) (c:=[sT e,sI (.int m),sI (.int k),sI (.list (b.map PyData.str)),some s,sF (a.map tD),x,y]) ?_ rfl (by wp_walk using true_and)
 show Ou [sT ds,sI (.int m),sI (.int k),none,none,none,none,none]=_
 unfold Ou
 refine (Ed (c':=[sT l,sI (.int m),sI (.int k),sF (b.map PyData.str),none,none,none,none]) (by wp_walk using K)).trans ?_
 refine (Ed (c':=[sT q,sI (.int m),sI (.int k),sI (.list (b.map PyData.str)),sF (o.map plD),none,none,none]) (by wp_walk using L)).trans ?_
 refine (Ed (c':=[sT q,sI (.int m),sI (.int k),sI (.list (b.map PyData.str)),sF (o.map plD),sF [],none,none]) (by wp_walk using true_and)).trans ?_
 refine (Ed ((Nj (by wp_walk using show (k:Int)<=16000000/\-16000000<=(k:Int) by omega,Int.toNat_natCast)).trans H)).trans ?_
 wp_walk using Dy,Tb.d
theorem Ph (hb:Bx n ds) (hn:n<2 ^ 34) :
 ∃t c,Tb.Ok t/\Bx (n+1004) c/\Eo [.ls true ds]=.ret (.im t.d) [.ls true c]:=by
 obtain⟨a,c,e,a0,a1,h⟩:=Ar1 (l:=2) (f:=5) (m:=12) hb (by omega) (by decide) (by decide) (by decide) (by decide) (by decide) (by decide)
 obtain⟨b,d2,i,j,c1,g⟩:=Ar1 (l:=0) (f:=8) (m:=24) e (by omega) (by decide) (by decide) (by decide) (by decide) (by decide) (by decide)
 obtain⟨o,rfl⟩:=Int.eq_ofNat_of_zero_le (show 0<=a by omega)
 obtain⟨q,rfl⟩:=Int.eq_ofNat_of_zero_le j
 obtain⟨t,p,r,_,_,s,d⟩:=A4o (m:=o) (k:=q) i (by omega) (by omega) (by omega) (by omega)
 refine⟨t,p,r,s.mono (by omega),?_⟩
 wp_walk using Eo,Mi,h,g,d
theorem Ai2 : (List.replicate n true).all id=true:=by simp
theorem Mg:∀n:Nat,boolsOf (List.replicate n (PyData.bool true))=some (List.replicate n true)
 | 0=>rfl
 | n+1=>by rw[List.replicate_succ,List.replicate_succ];show (boolsOf (List.replicate n (PyData.bool true))).map (true::·)=_;rw[Mg n];rfl
theorem Ln (ha:Dr a=true) (hb:Dr b=true):Dq neg a b=sI (.bool (if neg then !PyData.eqv a b else PyData.eqv a b)):=by unfold Dq;grind
theorem Bi8 (h:x∈Om ds ds):∃d∈ds,x=.tuple [d,d]:=by
 obtain⟨⟨a,b⟩,f,c⟩:=List.mem_map.mp h;obtain⟨i,g,e⟩:=List.getElem_of_mem f
 grind
theorem Zf {d:PyData}:∀{ds:List PyData},d∈ds->d.depth<=PyData.depthAll ds
 | a::r,h=>by
  show d.depth<=max a.depth (PyData.depthAll r)
  rcases List.mem_cons.mp h with rfl | h
  ·exact Nat.le_max_left _ _
  ·exact Nat.le_trans (Zf h) (Nat.le_max_right _ _)
theorem Y4 {d:PyData}:∀{ds:List PyData},d∈ds->PyData.canLayAll0 ds=true->d.canLay0=true
 | a::r,h,l=>by
  obtain⟨l1,l2⟩:=Bool.and_eq_true_iff.mp (show (a.canLay0&&PyData.canLayAll0 r)=true from l)
  rcases List.mem_cons.mp h with rfl | h
  ·exact l1
  ·exact Y4 h l2
def Short:Nat->PyData->Prop
 | 0,_=>True
 | n+1,.list ds=>ds.length<=16000000/\∀d∈ds,Short n d
 | n+1,.tuple ds=>ds.length<=16000000/\∀d∈ds,Short n d
 | _+1,_=>True
theorem Ao5:∀ds:List PyData,2*ds.length<=Kl ds
 | []=>Nat.le_refl _
 | d::r=>by have:=Ao5 r;show 2*(r.length+1)<=wt d+2+Kl r;omega
theorem Am5 {d:PyData}:∀{ds:List PyData},d∈ds->wt d<=Kl ds
 | a::r,h=>by
  show wt d<=wt a+2+Kl r
  rcases List.mem_cons.mp h with rfl | h
  ·exact Nat.le_trans (Nat.le_add_right _ 2) (Nat.le_add_right _ _)
  ·exact Nat.le_trans (Am5 h) (Nat.le_add_left _ _)
theorem V6:∀(n:Nat) (d:PyData),wt d<=16000000->Short n d
 | 0,d,h=>trivial
 | n+1,.list ds,h=>by
  have h:Kl ds<=16000000:=Nat.le_trans (Nat.le_add_right _ 4) h
  exact⟨Nat.le_trans (Nat.le_trans (Nat.le_mul_of_pos_left _ (by decide)) (Ao5 ds)) h,λd hd=>V6 n d (Nat.le_trans (Am5 hd) h)⟩
 | n+1,.tuple ds,h=>by
  have h:Kl ds<=16000000:=Nat.le_trans (Nat.le_add_right _ 4) h
  exact⟨Nat.le_trans (Nat.le_trans (Nat.le_mul_of_pos_left _ (by decide)) (Ao5 ds)) h,λd hd=>V6 n d (Nat.le_trans (Am5 hd) h)⟩
 | n+1,.none,h=>trivial
 | n+1,.bool _,h=>trivial
 | n+1,.int _,h=>trivial
 | n+1,.str _,h=>trivial
 | n+1,.dict _,h=>trivial
theorem Zt:∀(n:Nat) (d:PyData),d.depth<n->n<=40->d.canLay0=true->Short n d->Bq n [.im d,.im d]=.ret (.im (.bool true)) [.im d,.im d]
 | 0,d,h,_,_,_=>absurd h (Nat.not_lt_zero _)
 | n+1,d,h,hn,hl,hs=>by
  have fb:∀b:Bool,Dr (.bool b)=true:=λb=>rfl
  have fl:Dr d=true:=by unfold Dr;rw[hl,decide_eq_true (show d.depth<=40 from Nat.le_trans (Nat.le_of_lt_succ h) (Nat.le_of_succ_le hn))];rfl
  have fi:∀k:Nat,Dr (.int (k:Int))=true:=λk=>rfl
  have loop:∀ds:List PyData,(∀e∈ds,Bq n [.im e,.im e]=.ret (.im (.bool true)) [.im e,.im e])->∃c',Ds (cgT 2 (Dn (cgN 0) (Dn (cgN 1) Ke))) Bg (cF (Bq n) (Ad (Ab 0) (Ad (Ab 1) Av))) (Om ds ds) [] [none,none]=.ok ((Om ds ds).map λ_=>.bool true) c'/\∃a b,c'=[a,b]:=λds hds=>by
   have:=Q0 (g:=cgT 2 (Dn (cgN 0) (Dn (cgN 1) Ke))) (ft:=Bg) (fe:=cF (Bq n) (Ad (Ab 0) (Ad (Ab 1) Av))) (I:=λc=>∃a b,c=[a,b]) (F:=λ_=>.bool true) (items:=Om ds ds) (acc:=[]) (c:=[none,none]) ⟨none,none,rfl⟩ (λx c hx ⟨a,b,hc⟩=>by
    subst hc;obtain⟨e,he,rfl⟩:=Bi8 hx
    refine⟨[sI e,sI e],?_,_,_,rfl⟩
    wp_walk using hds e he)
   simpa using this
  have fin:∀ds:List PyData,(Om ds ds).map (λ_=>PyData.bool true)=List.replicate ds.length (.bool true):=λds=>by
   rw[List.map_const'];unfold Om;rw[List.length_map,List.length_zip,Nat.min_self]
  show Gg 2 2 (Gm (Bq n)) _=_
  cases d with
  | none=>wp_walk using Gm,J8,Ay,Cq,Jd,Ln fl fl,Ln (fb _) (fb _),PyData.eqv,beq_self_eq_true
  | bool b=>wp_walk using Gm,J8,Ay,Cq,Jd,Ln fl fl,Ln (fb _) (fb _),PyData.eqv,beq_self_eq_true
  | int i=>wp_walk using Gm,J8,Ay,Cq,Jd,Ln fl fl,Ln (fb _) (fb _),PyData.eqv,beq_self_eq_true
  | str x=>wp_walk using Gm,J8,Ay,Cq,Jd,Ln fl fl,Ln (fb _) (fb _),PyData.eqv,beq_self_eq_true
  | dict k=>cases hl
  | list ds =>
   have hd:∀e∈ds,Bq n [.im e,.im e]=.ret (.im (.bool true)) [.im e,.im e]:=λe he=>Zt n e (Nat.lt_of_le_of_lt (Zf he) (Nat.lt_of_succ_lt_succ h)) (Nat.le_of_succ_le hn) (Y4 he hl) (hs.2 e he)
   obtain⟨c',e1,a,b,rfl⟩:=loop ds hd;rw[fin]at e1
   have e2:cLC [none,none] (Zh (Ab 0) (Ab 1)) (cgT 2 (Dn (cgN 0) (Dn (cgN 1) Ke))) Bg (cF (Bq n) (Ad (Ab 0) (Ad (Ab 1) Av))) [sI (.list ds),sI (.list ds)]=.ok (.o (.ls false (List.replicate ds.length (.bool true)))) [sI (.list ds),sI (.list ds)] :=
    Fq (ds:=Om ds ds) (c1:=[sI (.list ds),sI (.list ds)]) (by wp_walk using Zh,Lq) (by unfold Om;rw[List.length_map,List.length_zip,Nat.min_self];exact hs.1) e1 rfl
   wp_walk using Gm,J8,Ay,Cq,Ln (fb _) (fb _),Do,Ln (fi _) (fi _),PyData.eqv,beq_self_eq_true,e2,N7,Mg,Ai2
  | tuple ds =>
   have hd:∀e∈ds,Bq n [.im e,.im e]=.ret (.im (.bool true)) [.im e,.im e]:=λe he=>Zt n e (Nat.lt_of_le_of_lt (Zf he) (Nat.lt_of_succ_lt_succ h)) (Nat.le_of_succ_le hn) (Y4 he hl) (hs.2 e he)
   obtain⟨c',e1,a,b,rfl⟩:=loop ds hd;rw[fin]at e1
   have e2:cLC [none,none] (Zh (Ab 0) (Ab 1)) (cgT 2 (Dn (cgN 0) (Dn (cgN 1) Ke))) Bg (cF (Bq n) (Ad (Ab 0) (Ad (Ab 1) Av))) [sI (.tuple ds),sI (.tuple ds)]=.ok (.o (.ls false (List.replicate ds.length (.bool true)))) [sI (.tuple ds),sI (.tuple ds)] :=
    Fq (ds:=Om ds ds) (c1:=[sI (.tuple ds),sI (.tuple ds)]) (by wp_walk using Zh,Lq) (by unfold Om;rw[List.length_map,List.length_zip,Nat.min_self];exact hs.1) e1 rfl
   wp_walk using Gm,J8,Ay,Cq,Ln (fb _) (fb _),Do,Ln (fi _) (fi _),PyData.eqv,beq_self_eq_true,e2,N7,Mg,Ai2
theorem Xq {n:Nat}{d:PyData}{k w:Nat}(h:Good d k w)(hk:k<n)(hn:n<=40)(hw:w<=16000000):Bq n [.im d,.im d]=.ret (.im (.bool true)) [.im d,.im d] :=
 Zt n d (Nat.lt_of_le_of_lt h.dep hk) hn h.lay (V6 n d (Nat.le_trans h.wgt hw))
mutual
noncomputable def sm:PyData->Bool
 | .str x=>decide (x.length<=100)&&x.cps.toList.all (λc=>decide (c<128))
 | .list ds=>decide (ds.length<=900)&&Xg ds
 | .tuple ds=>decide (ds.length<=900)&&Xg ds
 | _=>true
noncomputable def Xg:List PyData->Bool
 | []=>true
 | d::r=>sm d&&Xg r
end
theorem Xa:∀{ds:List PyData},Xg ds=true↔∀d∈ds,sm d=true
 | []=>⟨λ_ d h=>(nomatch h),λ_=>rfl⟩
 | d::r=>by
  show (sm d&&Xg r)=true↔_
  rw[Bool.and_eq_true_iff,Xa]
  exact⟨λh e he=>by rcases List.mem_cons.mp he with rfl | he;exact h.1;exact h.2 e he,λh=>⟨h d (.head _),λe he=>h e (.tail _ he)⟩⟩
theorem sm_tup {ds:List PyData}:sm (.tuple ds)=true↔ds.length<=900/\∀d∈ds,sm d=true:=by
 show (decide (ds.length<=900)&&Xg ds)=true↔_
 rw[Bool.and_eq_true_iff,Xa,decide_eq_true_eq]
theorem A6v {x:Str}(h:sm (.str x)=true):x.length<=100/\∀c∈x.cps.toList,c<128:=by
 obtain⟨h1,h2⟩:=Bool.and_eq_true_iff.mp (show (decide (x.length<=100)&&x.cps.toList.all (λc=>decide (c<128)))=true from h)
 exact⟨of_decide_eq_true h1,λc hc=>of_decide_eq_true (List.all_eq_true.mp h2 c hc)⟩
theorem Sw {α:Type}(F:α->Bool):∀xs:List α,boolsOf (xs.map λx=>PyData.bool (F x))=some (xs.map F)
 | []=>rfl
 | x::xs=>by show (boolsOf (xs.map λx=>PyData.bool (F x))).map (F x::·)=_;rw[Sw F xs];rfl
theorem Bp7 {a:Type}(f:a->Bool)(xs:List a):(xs.map f).all id=xs.all f:=by simp_all
theorem Hd {a:Type}(F:a->Bool)(xs:List a):N7 (.list (xs.map λx=>PyData.bool (F x)))=sI (.bool (xs.all F)):=by
 show (boolsOf _).map _=_
 rw[Sw F,Option.map_some,Bp7]
theorem Af7 {fe:Ev->R PV}{x:Str}{F:Nat->Bool}{c:Ev}{i:Nat}(hx:c[i]?=some (sI (.str x)))(hl:x.length<=100)
 (hs:∀n∈x.cps.toList,∀t:Option O,Li (cgN 0) Bg fe (.str ⟨#[n]⟩) [t]=.ok (some (.bool (F n))) [sI (.str ⟨#[n]⟩)]) :
 cLC [none] (Ac6 (Ab i)) (cgN 0) Bg fe c=.ok (.o (.ls false (x.cps.toList.map λn=>PyData.bool (F n)))) c:=by
 obtain⟨b,e,d⟩:=Gi (g:=cgN 0) (ft:=Bg) (fe:=fe) (I:=λc=>∃t,c=[t]) (f:=λn=>PyData.str ⟨#[n]⟩) (G:=λn=>PyData.bool (F n)) (xs:=x.cps.toList) ⟨none,rfl⟩
  λn c h a=>by grind
 refine Fq (ds:=Az9 x) (c1:=c) ?_ ?_ (by assumption) ?_
 ·unfold Ac6 Ab
  simp only[hx,R.bind_ok,nrm,Ek,rdP,Option.bind_some,O.dat]
 ·unfold Az9;rw[List.length_map];exact Nat.le_trans hl (by decide)
 rfl
theorem A6j {fe:Ev->R PV}{ds:List PyData}{F:PyData->Bool}{c:Ev}{i:Nat}(hx:c[i]?=some (sI (.tuple ds)))(hl:ds.length<=16000000)
 (hs:∀d∈ds,∀t:Option O,Li (cgN 0) Bg fe d [t]=.ok (some (.bool (F d))) [sI d]) :
 cLC [none] (Ci (Ab i)) (cgN 0) Bg fe c=.ok (.o (.ls false (ds.map λd=>PyData.bool (F d)))) c:=by
 obtain⟨cI,e,hI⟩:=Q0 (g:=cgN 0) (ft:=Bg) (fe:=fe) (I:=λc=>∃t,c=[t]) (F:=λd=>PyData.bool (F d)) (items:=ds) (acc:=[]) (c:=[none]) ⟨none,rfl⟩
  (λn c hn hc=>by obtain⟨t,rfl⟩:=hc;exact⟨_,hs n hn t,_,rfl⟩)
 obtain⟨t,rfl⟩:=hI
 refine Fq (ds:=ds) (c1:=c) ?_ hl (by simpa[cIn] using e) ?_
 ·unfold Ci Ab
  simp only[hx,R.bind_ok,nrm,frz]
 ·rfl
theorem Bh9 {fe:Ev->R PV}{ds:List PyData}{F:PyData->Bool}{c:Ev}{i k:Nat}{y:PyData}(hx:c[i]?=some (sI (.tuple ds)))(hy:c[k]?=some (sI y))(hl:ds.length<=16000000)
 (hs:∀d∈ds,∀t:Option O,Li (cgN 0) Bg fe d [t,sI y]=.ok (some (.bool (F d))) [sI d,sI y]) :
 cLC [none,some k] (Ci (Ab i)) (cgN 0) Bg fe c=.ok (.o (.ls false (ds.map λd=>PyData.bool (F d)))) c:=by
 obtain⟨cI,e,hI⟩:=Q0 (g:=cgN 0) (ft:=Bg) (fe:=fe) (I:=λc=>∃t,c=[t,sI y]) (F:=λd=>PyData.bool (F d)) (items:=ds) (acc:=[]) (c:=[none,sI y]) ⟨none,rfl⟩
  (λn c hn hc=>by obtain⟨t,rfl⟩:=hc;exact⟨_,hs n hn t,_,rfl⟩)
 obtain⟨t,rfl⟩:=hI
 refine Fq (ds:=ds) (c1:=c) ?_ hl (by simpa[cIn,hy,O.flag] using e) ?_
 ·unfold Ci Ab
  simp only[hx,R.bind_ok,nrm,frz]
 ·unfold pairsOf pairsOf pairsOf Gb
  simp only[hy]
  rfl
noncomputable def Bc6 (c:Nat):Bool:=decide (97<=c)&&decide (c<=122)
noncomputable def okC (c:Nat):Bool:=decide (32<=c)&&decide (c<=126)
noncomputable def lettersS:Str:=Str.ofString "abcdefghijklmnopqrstuvwxyz"
theorem Bg9:∀c,c<128->(!(Builtin.Str.occurrences lettersS ⟨#[c]⟩ 0 lettersS.length 1).isEmpty)=Bc6 c:=by decide +kernel
theorem B0t (c:Nat):(!decide ([c]<(Str.ofString " ").cps.toList))=decide (32<=c):=by
 have:[c]<(Str.ofString " ").cps.toList↔c<32:=by
  have e:(Str.ofString " ").cps.toList=[32]:=by trivial
  rw[e]
  constructor
  ·intro h
   cases h with
   | rel h=>omega
   | cons h=>cases h
  ·intro h;exact .rel h
 grind
theorem Bs2 (c:Nat):(!decide ((Str.ofString "~").cps.toList<[c]))=decide (c<=126):=by
 have:(Str.ofString "~").cps.toList<[c]↔126<c:=by
  have e:(Str.ofString "~").cps.toList=[126]:=by trivial
  rw[e]
  constructor
  ·intro h
   cases h with
   | rel h=>omega
   | cons h=>cases h
  ·intro h;exact .rel h
 grind
theorem Av9 (c:Nat):Ah3 (.str " ") (.str ⟨#[c]⟩)=sI (.bool (decide (32<=c))):=by
 show some _=_
 rw[B0t]
theorem Af0 (c:Nat):Ah3 (.str ⟨#[c]⟩) (.str "~")=sI (.bool (decide (c<=126))):=by
 show some _=_
 rw[Bs2]
theorem A6z {c:Nat}(h:c<128):J0 false (.str ⟨#[c]⟩) (.str "abcdefghijklmnopqrstuvwxyz")=sI (.bool (Bc6 c)):=by
 show some (O.im (.bool (!(Builtin.Str.occurrences lettersS _ 0 lettersS.length 1).isEmpty)))=_
 rw[Bg9 c h]
theorem A7t {x:Str}(hs:sm (.str x)=true):Dt [.im (.str x)]=.ret (.im (.bool (x.cps.toList.all okC))) [.im (.str x)]:=by
 obtain⟨hl,hc⟩:=A6v hs
 have e:=Af7 (fe:=Ql (cOp Ah3 (cC (.str " ")) (Ab 0)) (cOp Ah3 (Ab 0) (cC (.str "~")))) (x:=x) (F:=okC) (c:=[sI (.str x)]) (i:=0) rfl hl (λn hn t=>by
  by_cases h:32<=n
  ·wp_walk using Av9,Af0,decide_eq_true h,okC
  ·wp_walk using Av9,Af0,decide_eq_false h,okC)
 wp_walk using Dt,Je,e,Hd
def Hz:PyData->Bool
 | .str x=>x.cps.toList.all okC
 | .none=>true
 | .int _=>true
 | _=>false
theorem A7s {d:PyData}(hs:sm d=true):De [.im d]=.ret (.im (.bool (Hz d))) [.im d]:=by
 cases d with
 | str x=>wp_walk using De,Es,Ay,Cq,A7t hs,Hz
 | none=>wp_walk using De,Es,Ay,Cq,Jd,Hz
 | int i=>wp_walk using De,Es,Ay,Cq,Jd,Hz
 | bool b=>wp_walk using De,Es,Ay,Cq,Jd,Hz
 | tuple ds=>wp_walk using De,Es,Ay,Cq,Jd,Hz
 | list ds=>wp_walk using De,Es,Ay,Cq,Jd,Hz
 | dict kv=>wp_walk using De,Es,Ay,Cq,Jd,Hz
def Dl:PyData->Bool
 | .str x=>decide (0<x.length)&&(decide (x.length<9)&&x.cps.toList.all Bc6)
 | _=>false
theorem Bj0 {d:PyData}(hs:sm d=true):Cy [.im d]=.ret (.im (.bool (Dl d))) [.im d]:=by
 cases d with
 | str x =>
  obtain⟨hl,hc⟩:=A6v hs
  have e:=Af7 (fe:=cOp (J0 false) (Ab 0) (cC (.str "abcdefghijklmnopqrstuvwxyz"))) (x:=x) (F:=Bc6) (c:=[sI (.str x)]) (i:=0) rfl hl (λn hn t=>by
   wp_walk using A6z (hc n hn))
  by_cases h0:x=Str.ofString ""
  ·subst h0
   wp_walk using Cy,Eh,Ay,Cq,Ue,Dl
   rfl
  ·have hp:0<x.length:=by
    rcases Nat.eq_zero_or_pos x.length with h | h
    ·exfalso;apply h0
     obtain⟨cps⟩:=x;have:cps=#[]:=Array.eq_empty_of_size_eq_zero h;subst this;rfl
    ·exact h
   by_cases h8:x.length<9
   ·wp_walk using Cy,Eh,Ay,Cq,Ue,Dl,decide_eq_false h0,Do,show x.length<=16000000 by omega,decide_eq_false (show ¬ (8:Int)<(x.length:Int) by omega),e,Hd,decide_eq_true hp,decide_eq_true h8
   ·wp_walk using Cy,Eh,Ay,Cq,Ue,Dl,decide_eq_false h0,Do,show x.length<=16000000 by omega,decide_eq_true (show (8:Int)<(x.length:Int) by omega),decide_eq_true hp,decide_eq_false h8
 | none=>wp_walk using Cy,Eh,Ay,Cq,Dl
 | int i=>wp_walk using Cy,Eh,Ay,Cq,Dl
 | bool b=>wp_walk using Cy,Eh,Ay,Cq,Dl
 | tuple ds=>wp_walk using Cy,Eh,Ay,Cq,Dl
 | list ds=>wp_walk using Cy,Eh,Ay,Cq,Dl
 | dict kv=>wp_walk using Cy,Eh,Ay,Cq,Dl
theorem Dj : Dq neg (.int a) (.int b)=sI (.bool (if neg then !decide (a=b) else decide (a=b))):=by
 have e:PyData.eqv (.int a) (.int b)=decide (a=b):=by
  rfl
 unfold Dq
 rw[show Dr _=true from rfl,show Dr _=true from rfl,e]
 simp
def Ib (n:Nat):PyData->Bool
 | .tuple ds=>decide (ds.length=n)&&ds.all Hz
 | _=>false
theorem Bx0 {d:PyData}{n:Nat}(hs:sm d=true):Dp [.im d,.im (.int n)]=.ret (.im (.bool (Ib n d))) [.im d,.im (.int n)]:=by
 cases d with
 | tuple ds =>
  obtain⟨hl,hd⟩:=sm_tup.mp hs
  have e:=A6j (fe:=cF De (Ad (Ab 0) Av)) (ds:=ds) (F:=Hz) (c:=[sI (.tuple ds),sI (.int n)]) (i:=0) rfl (Nat.le_trans hl (by decide)) (λd h t=>by
   wp_walk using A7s (hd d h))
  by_cases h:ds.length=n
  ·wp_walk using Dp,Fy,Ay,Cq,Do,Dj,decide_eq_true (show (ds.length:Int)=(n:Int) by omega),e,Hd,Ib,decide_eq_true h
  ·wp_walk using Dp,Fy,Ay,Cq,Do,Dj,decide_eq_false (show ¬ (ds.length:Int)=(n:Int) by omega),Ib,decide_eq_false h
 | none=>wp_walk using Dp,Fy,Ay,Cq,Ib
 | int i=>wp_walk using Dp,Fy,Ay,Cq,Ib
 | bool b=>wp_walk using Dp,Fy,Ay,Cq,Ib
 | str x=>wp_walk using Dp,Fy,Ay,Cq,Ib
 | list ds=>wp_walk using Dp,Fy,Ay,Cq,Ib
 | dict kv=>wp_walk using Dp,Fy,Ay,Cq,Ib
theorem Yy {α:Type}[DecidableEq α](x:α):∀(n:Nat) (xs:List α),xs.length=n->(x∈dst xs↔x∈xs)
 | 0,xs,h=>by cases xs with | nil=>exact Iff.rfl | cons a r=>cases h
 | n+1,xs,h=>by
  rcases List.eq_nil_or_concat xs with rfl | ⟨ys,y,rfl⟩
  ·cases h
  ·rw[List.concat_eq_append]at h ⊢
   have hy:ys.length=n:=by simpa using h
   have ih:=Yy x n ys hy;rw[P0];unfold Um
   split
   ·rename_i hm
    rw[ih,List.mem_append,List.mem_singleton]
    refine⟨.inl,λq=>?_⟩
    rcases q with q | rfl
    ·exact q
    ·exact ih.mp (memB_iff.mp hm)
   ·rw[List.mem_append,List.mem_append,ih]
theorem Xo {α:Type}[DecidableEq α]:∀(n:Nat) (xs:List α),xs.length=n->((dst xs).length=xs.length↔xs.Nodup)
 | 0,xs,h=>by cases xs with | nil=>exact⟨λ_=>List.nodup_nil,λ_=>rfl⟩ | cons a r=>cases h
 | n+1,xs,h=>by
  rcases List.eq_nil_or_concat xs with rfl | ⟨ys,y,rfl⟩
  ·cases h
  ·rw[List.concat_eq_append]at h ⊢
   have hy:ys.length=n:=by simpa using h
   have ih:=Xo n ys hy;have le:=Ua n ys hy
   have hnd:(ys++[y]).Nodup↔ys.Nodup/\y∉ys:=by
    rw[List.nodup_append]
    constructor
    ·intro ⟨a,_,c⟩;exact⟨a,λq=>c y q y (List.mem_singleton.mpr rfl) rfl⟩
    ·intro ⟨a,b⟩;exact⟨a,by simp,λu hu v hv e=>by rw[List.mem_singleton.mp hv]at e;exact b (e▸hu)⟩
   rw[P0,hnd];unfold Um
   split
   ·rename_i hm
    have:y∈ys:=(Yy y n ys hy).mp (memB_iff.mp hm);rw[List.length_append,List.length_singleton]
    constructor
    ·intro q;omega
    ·intro q;exact absurd this q.2
   ·rename_i hm
    have:y∉ys:=λq=>hm (memB_iff.mpr ((Yy y n ys hy).mpr q))
    rw[List.length_append,List.length_append,List.length_singleton]
    constructor
    ·intro q;exact⟨ih.mp (by omega),this⟩
    ·intro q;have:=ih.mpr q.1;omega
theorem dst_inr {ss:List Str}:(dst (ss.map λx=>(Sum.inr x:Key))).length=ss.length↔ss.Nodup:=by
 have h:=Xo _ (ss.map λx=>(Sum.inr x:Key)) rfl
 grind
theorem Ac4:∀{ds:List PyData},ds.all Dl=true->∃ss,ds=ss.map PyData.str/\strsOf ds=some ss
 | [],_=>⟨[],rfl,rfl⟩
 | d::ds,h=>by
  obtain⟨h1,h2⟩:=Bool.and_eq_true_iff.mp (show (Dl d&&ds.all Dl)=true from h)
  obtain⟨ss,e1,e2⟩:=Ac4 h2
  cases d with
  | str x=>exact⟨x::ss,by rw[e1];rfl,by show (strsOf ds).map (x::·)=_;rw[e2];rfl⟩
  | _=>cases h1
theorem Ov:∀ss:List Str,strsOf (ss.map PyData.str)=some ss
 | []=>rfl
 | x::ss=>by show (strsOf (ss.map PyData.str)).map (x::·)=_;rw[Ov ss];rfl
def Jh:PyData->Bool
 | .tuple ds=>decide (0<ds.length)&&(ds.all Dl&&(match strsOf ds with | some ss=>decide ss.Nodup | none=>false))
 | _=>false
theorem Ft {d:PyData}(hs:sm d=true):Bm [.im d]=.ret (.im (.bool (Jh d))) [.im d]:=by
 cases d with
 | tuple ds =>
  obtain⟨hl,hd⟩:=sm_tup.mp hs
  have e:=A6j (fe:=cF Cy (Ad (Ab 0) Av)) (ds:=ds) (F:=Dl) (c:=[sI (.tuple ds)]) (i:=0) rfl (Nat.le_trans hl (by decide)) (λd h t=>by
   wp_walk using Bj0 (hd d h))
  by_cases h:0<ds.length
  ·have e0:=decide_eq_false (show ¬ (ds.length:Int)=0 by omega)
   cases ha:ds.all Dl with
   | false=>wp_walk using Bm,Bw,Ay,Cq,Do,Dj,e0,e,Hd,ha,Jh,decide_eq_true h
   | true =>
    obtain⟨ss,e1,e2⟩:=Ac4 ha
    have l1:ds.length=ss.length:=by rw[e1,List.length_map]
    have eS:O9 (.tuple ds)=sI (.int ((dst (ss.map λx=>(Sum.inr x:Key))).length:Nat)):=by
     show ((strsOf ds).bind _)=_
     rw[e2,Option.bind_some,if_pos (by omega)]
    by_cases nd:ss.Nodup
    ·have ed:=decide_eq_true (show (((dst (ss.map λx=>(Sum.inr x:Key))).length:Nat):Int)=(ds.length:Int) by rw[dst_inr.mpr nd,l1])
     wp_walk using Bm,Bw,Ay,Cq,Do,Dj,e0,e,Hd,ha,Jh,decide_eq_true h,eS,ed,e2,decide_eq_true nd
    ·have ed:=decide_eq_false (show ¬ (((dst (ss.map λx=>(Sum.inr x:Key))).length:Nat):Int)=(ds.length:Int) by rw[l1];exact λq=>nd (dst_inr.mp (by omega)))
     wp_walk using Bm,Bw,Ay,Cq,Do,Dj,e0,e,Hd,ha,Jh,decide_eq_true h,eS,ed,e2,decide_eq_false nd
  ·have e0:=decide_eq_true (show (ds.length:Int)=0 by omega)
   wp_walk using Bm,Bw,Ay,Cq,Do,Dj,e0,Jh,decide_eq_false h
 | none=>wp_walk using Bm,Bw,Ay,Cq,Jh
 | int i=>wp_walk using Bm,Bw,Ay,Cq,Jh
 | bool b=>wp_walk using Bm,Bw,Ay,Cq,Jh
 | str x=>wp_walk using Bm,Bw,Ay,Cq,Jh
 | list ds=>wp_walk using Bm,Bw,Ay,Cq,Jh
 | dict kv=>wp_walk using Bm,Bw,Ay,Cq,Jh
noncomputable def B2a:PyData->Nat
 | .tuple ds=>ds.length
 | _=>0
def Fe:PyData->Bool
 | .tuple [c,.tuple rows]=>Jh c&&rows.all (Ib (B2a c))
 | _=>false
theorem B3e {α:Type}{l:List α}(h:l.length=2):∃a b,l=[a,b]:=by
 match l,h with
 | [a,b],_=>exact⟨a,b,rfl⟩
theorem Ay4 {ds:List PyData}(h:¬ ds.length=2):Fe (.tuple ds)=false:=by
 match ds,h with
 | [],_=>rfl
 | [a],_=>rfl
 | [a,b],h=>exact absurd rfl h
 | a::b::c::r,_=>cases b <;> rfl
theorem A8h {d:PyData}(h:Jh d=true):∃ds,d=.tuple ds:=by
 cases d with
 | tuple ds=>exact⟨ds,rfl⟩
 | _=>cases h
theorem e22:decide (((2:Nat):Int)=2)=true:=rfl
theorem A7h {d:PyData}(hs:sm d=true):Bh [.im d]=.ret (.im (.bool (Fe d))) [.im d]:=by
 cases d with
 | tuple ds =>
  by_cases h2:ds.length=2
  ·obtain⟨c,r,rfl⟩:=B3e h2
   obtain⟨_,hd⟩:=sm_tup.mp hs
   have sc:=hd c (by simp)
   have sr:=hd r (by simp)
   cases hc:Jh c with
   | false =>
    have ef:Fe (.tuple [c,r])=false:=by cases r <;> simp[Fe,hc]
    wp_walk using Bh,Bt,Ay,Cq,Do,Dj,e22,Aq,Ft sc,hc,ef
   | true =>
    obtain⟨cs,rfl⟩:=A8h hc
    cases r with
    | tuple rows =>
     obtain⟨hl,hr⟩:=sm_tup.mp sr
     have e:=Bh9 (fe:=cF Dp (Ad (Ab 0) (Ad (Gy (Ab 1)) Av))) (ds:=rows) (F:=Ib cs.length) (c:=[sI (.tuple [.tuple cs,.tuple rows]),sI (.tuple cs),sI (.tuple rows)]) (i:=2) (k:=1) rfl rfl (Nat.le_trans hl (by decide)) (λd h t=>by
      wp_walk using Do,Bx0 (n:=cs.length) (hr d h))
     wp_walk using Bh,Bt,Ay,Cq,Do,Dj,e22,Aq,Ft sc,hc,e,Hd,Fe,B2a
    | none=>wp_walk using Bh,Bt,Ay,Cq,Do,Dj,e22,Aq,Ft sc,hc,Fe
    | int i=>wp_walk using Bh,Bt,Ay,Cq,Do,Dj,e22,Aq,Ft sc,hc,Fe
    | bool b=>wp_walk using Bh,Bt,Ay,Cq,Do,Dj,e22,Aq,Ft sc,hc,Fe
    | str x=>wp_walk using Bh,Bt,Ay,Cq,Do,Dj,e22,Aq,Ft sc,hc,Fe
    | list ds=>wp_walk using Bh,Bt,Ay,Cq,Do,Dj,e22,Aq,Ft sc,hc,Fe
    | dict kv=>wp_walk using Bh,Bt,Ay,Cq,Do,Dj,e22,Aq,Ft sc,hc,Fe
  ·wp_walk using Bh,Bt,Ay,Cq,Do,Dj,decide_eq_false (show ¬ (ds.length:Int)=2 by omega),Ay4 h2
 | none=>wp_walk using Bh,Bt,Ay,Cq,Fe
 | int i=>wp_walk using Bh,Bt,Ay,Cq,Fe
 | bool b=>wp_walk using Bh,Bt,Ay,Cq,Fe
 | str x=>wp_walk using Bh,Bt,Ay,Cq,Fe
 | list ds=>wp_walk using Bh,Bt,Ay,Cq,Fe
 | dict kv=>wp_walk using Bh,Bt,Ay,Cq,Fe
noncomputable def Gk:Vl->PyData
 | .non=>.tuple [.int 0,.int 0]
 | .int i=>.tuple [.int 1,.int i]
 | .str x=>.tuple [.int 2,.str x]
theorem A9l : G5 (k+1) [.im v.d]=.ret (.im (Gk v)) [.im v.d]:=by
 cases v with
 | non=>rfl
 | int i=>rfl
 | str x=>rfl
theorem A9i (c:Bool)(a b:Vl):∃r,Ox c (Gk a) (Gk b)=some r:=by
 cases a with
 | non=>cases b <;> exact⟨_,rfl⟩
 | int i=>
  cases b with
   | non=>exact⟨_,rfl⟩
   | int j =>
    show ∃r,(if (i==j)=true then some _ else some _)=some r
    split <;> exact⟨_,rfl⟩
   | str y=>exact⟨_,rfl⟩
 | str x=>
  cases b with
   | non=>exact⟨_,rfl⟩
   | int j=>exact⟨_,rfl⟩
   | str y =>
    show ∃r,(if (x==y)=true then some _ else some _)=some r
    split <;> exact⟨_,rfl⟩
theorem Av0:∀a b:List Vl,∃r,Pb false (a.map Gk) (b.map Gk)=some r
 | [],[]=>⟨_,rfl⟩
 | [],_::_=>⟨_,rfl⟩
 | _::_,[]=>⟨_,rfl⟩
 | x::xs,y::ys=>by
  show ∃r,(if PyData.eqv (Gk x) (Gk y)=true then Pb false (xs.map Gk) (ys.map Gk) else Ox false (Gk x) (Gk y))=some r
  split
  ·exact Av0 xs ys
  ·exact A9i _ _ _
def Kp (r:List Vl):PyData:=.tuple [.int 3,.tuple (r.map Gk)]
theorem Bf6 (a b:List Vl):∃r,Ox false (Kp a) (Kp b)=some r:=by
 show ∃r,(if PyData.eqvAll (a.map Gk) (b.map Gk)=true then some false else Pb false (a.map Gk) (b.map Gk))=some r
 split
 ·exact⟨_,rfl⟩
 ·exact Av0 a b
theorem A2h {v:Vl}(h:VB v):Good (Gk v) 1 3850:=by
 have q:∀a b:Vl,VB a->VB b->Good (tD [a,b]) 1 3850:=λa b ha hb=>Zz (k:=2) (λv hv=>by
  simp only[List.mem_cons,List.not_mem_nil,or_false]at hv
  rcases hv with rfl | rfl
  ·exact ha
  ·exact hb) (by simp)
 cases v with
 | non=>exact q (.int 0) (.int 0) (by decide) (by decide)
 | int i=>exact q (.int 1) (.int i) (by decide) h
 | str x=>exact q (.int 2) (.str x) (by decide) h
theorem Ap4 {r:List Vl}(h:VBs r)(hl:r.length<=30):Good (Kp r) 3 300000:=by
 have g1:Good (.tuple (r.map Gk)) 2 (3852*30+4):=Good.tup (k:=30) (λd hd=>by
  obtain⟨v,hv,rfl⟩:=List.mem_map.mp hd
  exact A2h (h v hv)) (by rw[List.length_map];exact hl)
 refine (Good.tup (n:=2) (w:=3852*30+4) (k:=2) (λd hd=>?_) (by simp)).mono (by decide) (by decide)
 simp only[List.mem_cons,List.not_mem_nil,or_false]at hd
 rcases hd with rfl | rfl
 ·exact(Hn (v:=.int 3) (by decide)).mono (by decide) (by decide)
 ·exact g1
theorem A4x (hl:r.length<=30):G5 2 [.im (tD r)]=.ret (.im (Kp r)) [.im (tD r)]:=by
 obtain⟨cI,d,u,rfl⟩:=Gi (g:=cgN 0) (ft:=Bg) (fe:=cF (G5 1) (Ad (Ab 0) Av)) (I:=λc=>∃u,c=[u]) (f:=Vl.d) (G:=Gk) (xs:=r) (acc:=[]) (c:=[none]) ⟨none,rfl⟩
  (λv c hv b=>by
   obtain⟨u,rfl⟩:=b
   refine⟨[sI v.d],?_,_,rfl⟩
   wp_walk using A9l (v:=v) (k:=0))
 have a:cLC [none] (Ci (Ab 0)) (cgN 0) Bg (cF (G5 1) (Ad (Ab 0) Av)) [sI (tD r)]=.ok (.o (.ls false (r.map Gk))) [sI (tD r)]:=by
  refine Fq (ds:=r.map Vl.d) (c1:=[sI (tD r)]) ?_ (by rw[List.length_map];omega) (by simpa[cIn] using d) (by wp_walk using true_and)
  wp_walk using Ci,tD
 show Gg 1 1 _ _=_
 unfold tD at a ⊢
 wp_walk using Aw2,Jd,Ay,Cq,a,Dy,Kp
theorem A5u {rows ks:List (List Vl)}(hk:ks.length=rows.length)(hf:∀k∈ks,VBs k/\k.length<=12)(h64:rows.length<64) :
 ∃out:List (List Vl),(∀r∈out,r∈rows)/\out.length=rows.length/\A7c (rows.map tD) (ks.map Kp)=some (out.map tD):=by
 unfold A7c;rw[List.length_map]
 by_cases h2:rows.length<2
 ·exact⟨rows,λr h=>h,rfl,if_pos h2⟩
 ·have kd:kdOf (ks.map Kp)=.ti:=by
   cases ks with
   | nil=>rw[<- hk]at h2;exact absurd (by decide) h2
   | cons v r=>rfl
  have eb:(decide (rows.length<64)&&((ks.map Kp).all (Nv .ti)&&(ks.map Kp).all Dr))=true:=by
   rw[decide_eq_true h64];simp only[Bool.true_and,Bool.and_eq_true,List.all_map,List.all_eq_true]
   exact⟨λv _=>rfl,λv h=>(Ap4 (hf v h).1 (Nat.le_trans (hf v h).2 (by decide))).flatB (by decide)⟩
  rw[if_neg h2,kd,if_pos eb]
  obtain⟨p,e,_,q⟩:=PS.A4i (n:=rows.length) (B:=A1a .ti (ks.map Kp)) (λi j hi hj=>by
   unfold A1a
   rw[List.getElem?_eq_getElem (by rw[List.length_map,hk];exact hi),List.getElem?_eq_getElem (by rw[List.length_map,hk];exact hj),List.getElem_map,List.getElem_map]
   exact Bf6 _ _) _ (PS.Bu1 (by omega))
  rw[e]
  have lt:∀i∈p.toList,i<rows.length:=λi hi=>by simpa using q.mem_iff.mp (Array.mem_toList_iff.mp hi)
  refine⟨p.toList.map λi=>rows.getD i [],λv h=>?_,by rw[List.length_map,Array.length_toList,q.size_eq];simp,?_⟩
  ·obtain⟨i,hi,rfl⟩:=List.mem_map.mp h
   have:=lt i hi;rw[List.getD_eq_getElem?_getD,List.getElem?_eq_getElem this];exact List.getElem_mem this
  ·rw[Option.map_some,List.map_map]
   congr 1
   refine List.map_congr_left λi hi=>?_
   have:=lt i hi
   show (rows.map tD).getD i .none=tD (rows.getD i [])
   simp[this]
section
variable {α:Type}[DecidableEq α]
noncomputable def fnd (x:α):List α->Nat
 | []=>0
 | y::l=>if y=x then 0 else fnd x l+1
theorem Tv {x:α}:∀{l:List α},x∈l->l[fnd x l]?=some x
 | y::l,h=>by
  unfold fnd
  by_cases e:y=x
  ·rw[if_pos e,e];rfl
  ·rw[if_neg e]
   rcases List.mem_cons.mp h with h | h
   ·exact absurd h.symm e
   ·rw[List.getElem?_cons_succ];exact Tv h
theorem Bv6 {x:α} (h:x∈l):fnd x l<l.length:=(List.getElem?_eq_some_iff.mp (Tv h)).1
end
theorem Au8:∀{cols:List Str}{i:Nat}{x:Str},cols.Nodup->cols[i]?=some x->Ve x cols=some i
 | [],i,x,_,h=>by simp at h
 | y::r,0,x,_,h=>by
  have e:y=x:=by simpa using h
  unfold Ve;rw[if_pos (by simpa using e)]
 | y::r,i+1,x,nd,h=>by
  have h':r[i]?=some x:=by simpa using h
  obtain⟨n1,n2⟩:=List.nodup_cons.mp nd
  have ne:¬ y=x:=λe=>n1 (by rw[e];exact List.mem_of_getElem? h')
  unfold Ve;rw[if_neg (by simpa using ne),Au8 n2 h'];rfl
theorem An9 {x:Str}{cols:List Str}{i:Nat}(nd:cols.Nodup)(h:cols[i]?=some x):Uc (.tuple (cols.map PyData.str)) (.str x)=sI (.int i):=by
 show ((strsOf (cols.map PyData.str)).bind λss=>(Ve x ss).map λj=>O.im (.int (j:Nat)))=_
 rw[Ov,Option.bind_some,Au8 nd h];rfl
theorem Ag0 (x:Str):∀cols:List Str,((cols.map PyData.str).any λe=>PyData.eqv e (.str x))=decide (x∈cols)
 | []=>rfl
 | y::r=>by
  rw[List.map_cons,List.any_cons,Ag0 x r,Au3]
  by_cases e:y=x
  ·subst e;simp
  ·simp[e,Ne.symm e]
noncomputable def sqD (b:Bool) (l:List PyData):PyData:=if b then .tuple l else .list l
theorem Av8 (h:c[i]?=some (sI (sqD b l))):Ci (Ab i) c=.ok l c:=by
 unfold Ci Ab;simp only[h]
 cases b <;> rfl
theorem A9x {n N:Nat}{body:Ev->XS}{ds:List PyData}{nm:Xn}{c0 c:Ev}(hl:ds.length=n)(a:ds.map (λd=>some (.im d))++List.replicate (N-n) none=c0)(h:body c0=.ex nm c):Mr n N body ds=.ex nm:=by
 unfold Mr
 simp_all
theorem Bi1 {n N:Nat}{body:Ev->XS}{ds:List PyData}{p:PV}{o:O}{c0 c c':Ev}(hl:ds.length=n)(a:ds.map (λd=>some (.im d))++List.replicate (N-n) none=c0)(h:body c0=.s (.rt p c))(hr:resolve p c=some (o,c')):Mr n N body ds=.ret o:=by
 unfold Mr
 simp_all
def allNm:List Str:=names12++[Str.ofString "q",Str.ofString "ax",Str.ofString "yea",Str.ofString "years",Str.ofString "",Str.ofString "abcdefghi",Str.ofString "a b"]
theorem nmA:(allNm.all λx=>Dr (.str x)&&(An4 (Str.ofString "no column ").length (.str x)&&vb (.str x)))=true:=by decide +kernel
theorem Rz {x:Str}(h:x∈allNm):Dr (.str x)=true/\An4 (Str.ofString "no column ").length (.str x)=true/\VB (.str x):=by
 have:=List.all_eq_true.mp nmA x h
 grind
theorem Uw {x:Str}(h:x∈names12):x∈allNm:=List.mem_append_left _ h
theorem Bm1 {x:Str}(h:x∈names12):(PyData.str x).canLay0=true:=(Hn (Rz (Uw h)).2.2).lay
theorem T6 {x:Str}{cols:List Str}(hx:x∈allNm)(hs:∀y∈cols,y∈names12):J0 true (.str x) (.tuple (cols.map PyData.str))=sI (.bool (!decide (x∈cols))):=by
 show (if Dr _&&PyData.canLayAll0 _ then some _ else none)=_
 rw[(Rz hx).1,Yr λd a=>by obtain⟨u,b,rfl⟩:=List.mem_map.mp a;exact Bm1 (hs u b),Ag0]
 rfl
abbrev nC (x:Str):Xn:=⟨Str.ofString "NoColumn",some (Str.ofString "name",.str x)⟩
theorem U9 {t:Tb}{x:Str}(ht:Tb.Ok t)(hx:x∈t.cols):Bv [t.d,.str x]=.ret (.im (.int (fnd x t.cols:Nat))):=by
 have h1:=T6 (Uw (ht.nms.sub x hx)) ht.nms.sub;rw[decide_eq_true hx]at h1;have h2:=An9 ht.nms.nd (Tv hx)
 wp_walk using Bv,Ma,Tb.d,Aq,h1,cMt,Yw,h2
theorem Aj7 {t:Tb}{x:Str}(ht:Tb.Ok t)(hx:x∈allNm)(h:x∉t.cols):Bv [t.d,.str x]=.ex (nC x):=by
 have h1:=T6 hx ht.nms.sub;rw[decide_eq_false h]at h1;have h2:=(Rz hx).2.1
 wp_walk using Bv,Ma,Tb.d,Aq,h1,h2
noncomputable def Ow (cols ns:List Str):Option Str:=ns.find? λx=>!decide (x∈cols)
theorem Be5 {cols ns:List Str}(h:∀x∈ns,x∈cols):Ow cols ns=none:=List.find?_eq_none.mpr λx hx=>by simp[h x hx]
theorem Ah7 {cols ns:List Str}{x:Str}(h:Ow cols ns=some x):x∈ns/\x∉cols:=⟨List.mem_of_find?_eq_some h,by have:=List.find?_some h;simpa using this⟩
abbrev Hb (cols ns:List Str):List PyData:=ns.map λx=>PyData.int (fnd x cols:Nat)
theorem Td {t:Tb}(ht:Tb.Ok t):∀(ns:List Str) (u:Option O),(∀x∈ns,x∈allNm) ->
 Qa (cgN 0) Bg Bv (Ad (Ab 1) (Ad (Ab 0) Av)) (ns.map PyData.str) [u,sI t.d]=(Ow t.cols ns).map λx=>(nC x,[sI (.str x),sI t.d])
 | [],_,_=>rfl
 | x::ns,u,h=>by
  rw[List.map_cons];unfold Qa Ow;rw[List.find?_cons]
  by_cases z:x∈t.cols
  ·have e:=U9 ht z
   have ih:=Td ht ns (sI (.str x)) λx hx=>h x (.tail _ hx)
   rw[decide_eq_true z];unfold Ow at ih
   wp_walk using e,ih,Bool.not_true
  ·have e:=Aj7 ht (h x (.head _)) z
   rw[decide_eq_false z]
   wp_walk using e,Bool.not_false,Option.map_some
theorem Aj8 {t:Tb}{b:Bool}{ns:List Str}{f:Ev->SR}(ht:Tb.Ok t)(hm:∀x∈ns,x∈allNm)(hl:ns.length<=100) :
 Qm [none,some 0] (Ci (Ab 1)) (cgN 0) Bg Bv (Ad (Ab 1) (Ad (Ab 0) Av)) [] f [sI t.d,sI (sqD b (ns.map PyData.str))]=match Ow t.cols ns with
  | some x=>.ex (nC x) [sI t.d,sI (sqD b (ns.map PyData.str))]
  | none=>.s (f [sI t.d,sI (sqD b (ns.map PyData.str))]):=by
 have lp:=Td ht ns none hm;unfold Qm;rw[Av8 (l:=ns.map PyData.str) (b:=b) rfl]
 dsimp only
 rw[if_pos (by rw[List.length_map];omega),show cIn [none,some 0] [sI t.d,sI (sqD b (ns.map PyData.str))]=[none,sI t.d] from rfl,lp]
 cases Ow t.cols ns with
 | some x=>rfl
 | none=>rfl
theorem Wy {t:Tb}{b:Bool}{ns:List Str}{x:Str}(ht:Tb.Ok t)(hm:∀x∈ns,x∈allNm)(hl:ns.length<=100)(hb:Ow t.cols ns=some x):Dm [t.d,sqD b (ns.map PyData.str)]=.ex (nC x):=by
 refine A9x (c0:=[sI t.d,sI (sqD b (ns.map PyData.str))]) (c:=[sI t.d,sI (sqD b (ns.map PyData.str))]) rfl rfl ?_
 unfold Kz;rw[Aj8 ht hm hl,hb]
theorem Q8 {t:Tb}{b:Bool}{ns:List Str}(ht:Tb.Ok t)(hn:∀x∈ns,x∈t.cols)(hl:ns.length<=12):Dm [t.d,sqD b (ns.map PyData.str)]=.ret (.im (.list (Hb t.cols ns))):=by
 obtain⟨cI,e,u,rfl⟩:=Gi (g:=cgN 0) (ft:=Bg) (fe:=cFY Bv (Ad (Ab 1) (Ad (Ab 0) Av))) (I:=λc=>∃u,c=[u,sI t.d]) (f:=PyData.str) (G:=λx=>PyData.int (fnd x t.cols:Nat)) (xs:=ns) (acc:=[]) (c:=[none,sI t.d]) ⟨none,rfl⟩
  (λx c hx hI=>by
   obtain⟨u,rfl⟩:=hI
   refine⟨[sI (.str x),sI t.d],?_,_,rfl⟩
   wp_walk using cFY,U9 ht (hn x hx))
 have e2:cLC [none,some 0] (Ci (Ab 1)) (cgN 0) Bg (cFY Bv (Ad (Ab 1) (Ad (Ab 0) Av))) [sI t.d,sI (sqD b (ns.map PyData.str))]=.ok (.o (.ls false (Hb t.cols ns))) [sI t.d,sI (sqD b (ns.map PyData.str))] :=
  Fq (ds:=ns.map PyData.str) (c1:=[sI t.d,sI (sqD b (ns.map PyData.str))]) (Av8 rfl) (by rw[List.length_map];omega) (by simpa[cIn,O.flag] using e) rfl
 refine Bi1 (c0:=[sI t.d,sI (sqD b (ns.map PyData.str))]) (c:=[sI t.d,sI (sqD b (ns.map PyData.str))]) (c':=[sI t.d,sI (sqD b (ns.map PyData.str))]) (p:=.o (.im (.list (Hb t.cols ns)))) rfl rfl ?_ rfl
 unfold Kz
 rw[Aj8 ht (λx hx=>Uw (ht.nms.sub x (hn x hx))) (by omega),Be5 hn]
 wp_walk using e2
def vAt (cols:List Str)(r:List Vl)(x:Str):Vl:=r.getD (fnd x cols) .non
def pick (cols:List Str)(r:List Vl)(ns:List Str):List Vl:=ns.map (vAt cols r)
theorem Z7 (h:VBs r):VBs (pick cols r ns):=λv a=>by
 obtain⟨x,_,rfl⟩:=List.mem_map.mp a;unfold vAt;rw[List.getD_eq_getElem?_getD]
 cases e:r[fnd x _]? with
 | none=>rfl
 | some v=>grind
theorem A4p (hx:x∈cols) (hr:r.length=cols.length):Aq (tD r) (.int (fnd x cols:Nat))=sI (vAt cols r x).d:=by
 have l:=Bv6 hx
 have e:(r.map Vl.d)[fnd x cols]?=some (vAt cols r x).d:=by
  unfold vAt
  grind
 show (atI _ _).map _=_
 rw[Jt e];rfl
theorem Q7 (hn:∀x∈ns,x∈cols) (hr:r.length=cols.length) (hl:ns.length<=12):Cz [.im (tD r),.im (.list (Hb cols ns))]=.ret (.im (tD (pick cols r ns))) [.im (tD r),.im (.list (Hb cols ns))]:=by
 obtain⟨cI,e,u,rfl⟩:=Gi (g:=cgN 0) (ft:=Bg) (fe:=cOp Aq (Ab 1) (Ab 0)) (I:=λc=>∃u,c=[u,sI (tD r)]) (f:=λx=>PyData.int (fnd x cols:Nat)) (G:=λx=>(vAt cols r x).d) (xs:=ns) (acc:=[]) (c:=[none,sI (tD r)]) ⟨none,rfl⟩
  (λx c b d=>by
   obtain⟨u,rfl⟩:=d
   refine⟨[sI (.int (fnd x cols:Nat)),sI (tD r)],?_,_,rfl⟩
   wp_walk using A4p (hn x b) hr)
 have h:cLC [none,some 0] (Ci (Ab 1)) (cgN 0) Bg (cOp Aq (Ab 1) (Ab 0)) [sI (tD r),sI (.list (Hb cols ns))]=.ok (.o (.ls false (ns.map λx=>(vAt cols r x).d))) [sI (tD r),sI (.list (Hb cols ns))] :=
  Fq (ds:=Hb cols ns) (c1:=[sI (tD r),sI _]) (by wp_walk using Ci,Lq) (by rw[List.length_map];omega) (by simpa[cIn,O.flag] using e) rfl
 have a:PyData.tuple (ns.map λx=>(vAt cols r x).d)=tD (pick cols r ns):=by unfold tD pick;rw[List.map_map];rfl
 wp_walk using Cz,Qp,h,Dy,a
theorem Bn3 (b:Bool)(l:List PyData):Dy (sqD b l)=sI (.tuple l):=by cases b <;> rfl
theorem Be2 {t:Tb}{b:Bool}{ns:List Str}(ht:Tb.Ok t)(hn:∀x∈ns,x∈t.cols)(hl:ns.length<=12):Jq [t.d,sqD b (ns.map PyData.str)]=.ret (.im (Tb.d ⟨ns,t.rows.map λr=>pick t.cols r ns⟩)):=by
 have e1:=Q8 (b:=b) ht hn hl;have hl':=ht.rlen
 obtain⟨cI,e,u,rfl⟩:=Gi (g:=cgN 0) (ft:=Bg) (fe:=cF Cz (Ad (Ab 0) (Ad (Ab 1) Av))) (I:=λc=>∃u,c=[u,sI (.list (Hb t.cols ns))]) (f:=tD) (G:=λr=>tD (pick t.cols r ns)) (xs:=t.rows) (acc:=[]) (c:=[none,sI (.list (Hb t.cols ns))]) ⟨none,rfl⟩
  (λr c hr hI=>by
   obtain⟨u,rfl⟩:=hI
   refine⟨[sI (tD r),sI (.list (Hb t.cols ns))],?_,_,rfl⟩
   wp_walk using Q7 hn (ht.rows r hr).1 hl)
 have e3:PyData.tuple [.tuple (ns.map PyData.str),.tuple (t.rows.map λr=>tD (pick t.cols r ns))]=Tb.d ⟨ns,t.rows.map λr=>pick t.cols r ns⟩:=by unfold Tb.d;rw[List.map_map];rfl
 have e4:=Bn3 b (ns.map PyData.str)
 generalize sqD b (ns.map PyData.str)=y at *
 have e2:cLC [none,some 2] (Ci (cOp Aq (Ab 0) (cC (.int 1)))) (cgN 0) Bg (cF Cz (Ad (Ab 0) (Ad (Ab 1) Av))) [sI t.d,sI y,sI (.list (Hb t.cols ns))]=.ok (.o (.ls false (t.rows.map λr=>tD (pick t.cols r ns)))) [sI t.d,sI y,sI (.list (Hb t.cols ns))] :=
  Fq (ds:=t.rows.map tD) (c1:=[sI t.d,sI y,sI (.list (Hb t.cols ns))]) (by wp_walk using Ci,Tb.d,Aq) (by rw[List.length_map];omega) (by simpa[cIn,O.flag] using e) rfl
 have e5:Dy (.list (t.rows.map λr=>tD (pick t.cols r ns)))=sI (.tuple (t.rows.map λr=>tD (pick t.cols r ns))):=rfl
 wp_walk using Jq,Zo,e1,e4,e2,e5,e3
theorem A2r {t:Tb}{x:Str}(ht:Tb.Ok t)(hx:x∈t.cols):Hk [t.d,.str x]=.ret (.im (.list ((t.rows.map λr=>vAt t.cols r x).map Vl.d))):=by
 have e1:=U9 ht hx;have hl':=ht.rlen
 obtain⟨cI,e,u,rfl⟩:=Gi (g:=cgN 0) (ft:=Bg) (fe:=cOp Aq (Ab 0) (Ab 1)) (I:=λc=>∃u,c=[u,sI (.int (fnd x t.cols:Nat))]) (f:=tD) (G:=λr=>(vAt t.cols r x).d) (xs:=t.rows) (acc:=[]) (c:=[none,sI (.int (fnd x t.cols:Nat))]) ⟨none,rfl⟩
  (λr c hr hI=>by
   obtain⟨u,rfl⟩:=hI
   refine⟨[sI (tD r),sI (.int (fnd x t.cols:Nat))],?_,_,rfl⟩
   wp_walk using A4p hx (ht.rows r hr).1)
 have e2:cLC [none,some 2] (Ci (cOp Aq (Ab 0) (cC (.int 1)))) (cgN 0) Bg (cOp Aq (Ab 0) (Ab 1)) [sI t.d,sI (.str x),sI (.int (fnd x t.cols:Nat))]=.ok (.o (.ls false (t.rows.map λr=>(vAt t.cols r x).d))) [sI t.d,sI (.str x),sI (.int (fnd x t.cols:Nat))] :=
  Fq (ds:=t.rows.map tD) (c1:=[sI t.d,sI (.str x),sI (.int (fnd x t.cols:Nat))]) (by wp_walk using Ci,Tb.d,Aq) (by rw[List.length_map];omega) (by simpa[cIn,O.flag] using e) rfl
 rw[List.map_map]
 show _=XF.ret (.im (.list (t.rows.map λr=>(vAt t.cols r x).d)))
 wp_walk using Hk,Q3,e1,e2
theorem B1k {cols ns:List Str}{r:List Vl}(hn:∀x∈ns,x∈cols)(hr:r.length=cols.length)(hl:ns.length<=12) :
 Dg [.im (tD r),.im (.list (Hb cols ns))]=.ret (.im (Kp (pick cols r ns))) [.im (tD r),.im (.list (Hb cols ns))]:=by
 have e1:=Q7 hn hr hl
 have e2:=A4x (r:=pick cols r ns) (by unfold pick;rw[List.length_map];omega)
 wp_walk using Dg,e1,e2
theorem Ax4 {cols ns:List Str}{s0 s1 s3:Option O}(hn:∀x∈ns,x∈cols)(hl:ns.length<=12):∀rows:List (List Vl),(∀r∈rows,r.length=cols.length) ->
 Ur Dg [2] (rows.map tD) [s0,s1,sI (.list (Hb cols ns)),s3]=.ok ((rows.map λr=>pick cols r ns).map Kp) [s0,s1,sI (.list (Hb cols ns)),s3]
 | [],_=>rfl
 | r::rows,h=>by
  have e:=B1k hn (h r (.head _)) hl
  have ih:=Ax4 (s0:=s0) (s1:=s1) (s3:=s3) hn hl rows λr' h'=>h r' (.tail _ h')
  have e1:A2w Dg [2] (tD r) [s0,s1,sI (.list (Hb cols ns)),s3]=.ok (Kp (pick cols r ns)) [s0,s1,sI (.list (Hb cols ns)),s3]:=by
   wp_walk using A2w,e
  show ((A2w Dg [2] (tD r) _).bind λk c=>(Ur Dg [2] (rows.map tD) c).bind λks c=>R.ok (k::ks) c)=_
  rw[e1]
  show ((Ur Dg [2] (rows.map tD) _).bind λks c=>R.ok (_::ks) c)=_
  rw[ih];rfl
def Iw (t:Tb)(ns:List Str):List (List Vl):=t.rows.map λr=>pick t.cols r ns
theorem Vy {t:Tb}{ns:List Str}(ht:Tb.Ok t)(hl:ns.length<=12):∀k∈Iw t ns,VBs k/\k.length<=12:=λk hk=>by
 obtain⟨r,hr,rfl⟩:=List.mem_map.mp hk
 exact⟨Z7 (ht.rows r hr).2,by unfold pick;rw[List.length_map];exact hl⟩
theorem A1b {t:Tb}{b:Bool}{ns:List Str}(ht:Tb.Ok t)(hn:∀x∈ns,x∈t.cols)(hl:ns.length<=12) :
 ∃out:List (List Vl),(∀r∈out,r∈t.rows)/\out.length=t.rows.length/\Eb [t.d,sqD b (ns.map PyData.str)]=.ret (.im (Tb.d ⟨t.cols,out⟩)):=by
 have h24:=ht.rlen
 obtain⟨out,h1,h2,e⟩:=A5u (rows:=t.rows) (ks:=Iw t ns) (by unfold Iw;rw[List.length_map]) (Vy ht hl) (by omega)
 refine⟨out,h1,h2,?_⟩
 have e1:=Q8 (b:=b) ht hn hl
 generalize sqD b (ns.map PyData.str)=y at *
 have e2:=Ax4 (s0:=sI t.d) (s1:=sI y) (s3:=none) hn hl t.rows λr hr=>(ht.rows r hr).1
 have i0:Aq t.d (.int 0)=sI (.tuple (t.cols.map PyData.str)):=rfl;have i1:Aq t.d (.int 1)=sI (.tuple (t.rows.map tD)):=rfl
 have e3:Av5 Dg [2] (cOp Aq (Ab 0) (cC (.int 1))) [sI t.d,sI y,sI (.list (Hb t.cols ns)),none]=.ok (.o (.ls false (out.map tD))) [sI t.d,sI y,sI (.list (Hb t.cols ns)),none]:=by
  unfold Iw at e
  wp_walk using Av5,i1,U.Lq,e2,e
 have e4:PyData.tuple [.tuple (t.cols.map PyData.str),.tuple (out.map tD)]=Tb.d ⟨t.cols,out⟩:=rfl;have e5:Dy (.list (out.map tD))=sI (.tuple (out.map tD)):=rfl
 wp_walk using Eb,Ku,e1,e3,i0,e5,e4
section
variable {α β:Type}[DecidableEq α]
noncomputable def ins (qs:List α) (q:α):List α:=if q∈qs then qs else qs++[q]
def fs (l:List α):List α:=l.foldl ins []
noncomputable def upF (g:α->β) (q:α) (v:β):α->β:=λx=>if x=q then v else g x
theorem Wi {qs:List α} (h:q∈qs):ins qs q=qs:=if_pos h
theorem Pu {qs:List α} (h:q∉qs):ins qs q=qs++[q]:=if_neg h
theorem Bc7 {qs:List α} : x∈ins qs q↔x∈qs\/x=q:=by
 by_cases h:q∈qs
 ·rw[Wi h]
  grind
 ·rw[Pu h,List.mem_append,List.mem_singleton]
theorem Yz {l:List α} : fs (l++[x])=ins (fs l) x:=by unfold fs;grind
theorem Ab3 {P:List α->Prop}(b:P [])(h1:∀l x,P l->P (l++[x]))(l:List α):P l:=by
 rw[<- l.reverse_reverse];generalize l.reverse=m
 induction m with
 | nil=>grind
 | cons x m a=>grind
theorem yR {l:List α} : x∈fs l↔x∈l:=by
 refine Ab3 (P:=λl=>∀{x},x∈fs l↔x∈l) Iff.rfl (λl y a x=>?_) l
 rw[Yz,Bc7,a,List.mem_append,List.mem_singleton]
theorem B2g (l:List α):(fs l).Nodup:=by
 refine Ab3 (P:=λl=>(fs l).Nodup) List.nodup_nil (λl y a=>?_) l
 rw[Yz]
 by_cases h:y∈fs l
 ·rw[Wi h];grind
 ·rw[Pu h]
  grind
theorem Aq6 (l:List α):(fs l).length<=l.length:=by
 refine Ab3 (P:=λl=>(fs l).length<=l.length) (Nat.le_refl _) (λl y a=>?_) l
 rw[Yz]
 by_cases h:y∈fs l
 ·rw[Wi h,List.length_append];omega
 ·rw[Pu h];grind
theorem Bb2 {l:List α} (h:l[k]?=some x):fs (l.take (k+1))=ins (fs (l.take k)) x:=by
 rw[List.take_succ,h];exact Yz
theorem A6s {g:α->β} : upF g q v q=v:=if_pos rfl
theorem Al4 {g:α->β} (h:x≠q):upF g q v x=g x:=if_neg h
theorem Uv {g:α->β} {qs:List α}(h:q∉qs):qs.map (upF g q v)=qs.map g:=List.map_congr_left λx a=>Al4 λe=>h (e▸a)
theorem Yt {g:α->β}{q:α}{v:β}:∀{qs:List α},qs.Nodup->q∈qs->(qs.map g).set (fnd q qs) v=qs.map (upF g q v)
 | x::qs,nd,h=>by
  obtain⟨n1,n2⟩:=List.nodup_cons.mp nd;unfold fnd
  by_cases e:x=q
  ·rw[if_pos e,List.map_cons,List.set_cons_zero,List.map_cons,Uv (e▸n1),e,A6s]
  ·rw[if_neg e,List.map_cons,List.set_cons_succ,List.map_cons,Al4 e,Yt n2 ((List.mem_cons.mp h).resolve_left λz=>e z.symm)]
variable {key:α->PyData}(he:∀a b,PyData.eqv (key a) (key b)=decide (a=b))
include he
theorem A7v {q:α}:∀{qs:List α},q∈qs->Qg (key q) (qs.map key)=some (fnd q qs)
 | x::qs,h=>by
  rw[List.map_cons];unfold Qg fnd;rw[he]
  by_cases e:x=q
  ·rw[decide_eq_true e,if_pos rfl,if_pos e]
  ·rw[decide_eq_false e,if_neg (by decide),if_neg e,A7v ((List.mem_cons.mp h).resolve_left λz=>e z.symm)];rfl
theorem As6 {q:α}:∀{qs:List α},q∉qs->Qg (key q) (qs.map key)=none
 | [],_=>rfl
 | x::qs,h=>by
  have e:x≠q:=λz=>h (z▸List.mem_cons_self)
  rw[List.map_cons];unfold Qg
  rw[he,decide_eq_false e,if_neg (by decide),As6 λz=>h (List.mem_cons_of_mem _ z)];rfl
theorem Ba0 (c:qs.Nodup) (d:q∉qs->g q=[]) :
 B2t ((Rq (qs.map key) (qs.map λa=>DE.l (g a)) (key q)).2.1[(Rq (qs.map key) (qs.map λa=>DE.l (g a)) (key q)).2.2]?)=some (g q) /\
 (Rq (qs.map key) (qs.map λa=>DE.l (g a)) (key q)).1=(ins qs q).map key /\
 (Rq (qs.map key) (qs.map λa=>DE.l (g a)) (key q)).2.1.set (Rq (qs.map key) (qs.map λa=>DE.l (g a)) (key q)).2.2 (.l (g q++[x]))=(ins qs q).map λa=>DE.l (upF g q (g q++[x]) a):=by
 have b:(λa=>DE.l (upF g q (g q++[x]) a))=upF _ q _:=funext λa=>by unfold upF;split <;> rfl
 unfold Rq
 by_cases h:q∈qs
 ·simp only[A7v he h]
  refine⟨?_,by rw[Wi h],by rw[Wi h,b,Yt c h]⟩
  rw[List.getElem?_map,Tv h];rfl
 ·simp only[As6 he h]
  refine⟨?_,by rw[Pu h,List.map_append];rfl,?_⟩
  ·rw[List.getElem?_append_right (by simp),List.length_map,List.length_map,Nat.sub_self,d h];rfl
  ·rw[Pu h,b,List.map_append,Uv h,List.map_cons,A6s,List.set_append_right _ _ (by simp),List.length_map,List.length_map,Nat.sub_self];rfl
omit he
noncomputable def nmK (l:List α) (k:Nat) (q:α):List PyData:=((List.range k).filter λi=>decide (l[i]?=some q)).map λi=>PyData.int (i:Nat)
theorem A7q {l:List α} (h:l[k]?=some x):nmK l (k+1)=upF (nmK l k) x (nmK l k x++[.int (k:Nat)]):=funext λq=>by
 have e:nmK l (k+1) q=nmK l k q++if l[k]?=some q then [.int (k:Nat)] else []:=by
  unfold nmK;rw[List.range_succ,List.filter_append,List.map_append]
  congr 1
  by_cases z:l[k]?=some q
  ·rw[if_pos z];simp[z]
  ·rw[if_neg z];simp[z]
 rw[e]
 by_cases z:q=x
 ·subst z;rw[if_pos h,A6s]
 ·rw[if_neg (λy=>z (Option.some.inj (y.symm.trans h))),List.append_nil,Al4 z]
theorem Ba9 {l:List α} (h:q∉l.take k):nmK l k q=[]:=by
 unfold nmK;rw[List.filter_eq_nil_iff.mpr,List.map_nil];intro i a e
 exact h (List.mem_of_getElem? (i:=i) (by grind))
theorem As8 (l:List α)(k:Nat)(q:α):(nmK l k q).length<=k:=by
 unfold nmK
 grind
end
theorem Yc {d:Nat}{g:PV->Ev->R Unit}{F:BF}{P:Nat->Ev->List PyData->List DE->Prop}:∀{items:List PyData}{n:Nat}{c:Ev}{ks:List PyData}{es:List DE},P n c ks es ->
 (∀k x c ks es,items[k]?=some x->P (n+k) c ks es->∃c1 c' ks' es',g (.o (.im x)) c=.ok () c1/\Fb d c1=true/\F c1 ks es=.nx c' ks' es'/\P (n+k+1) c' ks' es')->∃c' ks' es',V2 (d:=d) g F items c ks es=.nx c' ks' es'/\P (n+items.length) c' ks' es'
 | [],n,c,ks,es,h0,_=>⟨c,ks,es,rfl,h0⟩
 | x::xs,n,c,ks,es,h0,hs=>by
  obtain⟨c1,c2,ks2,es2,e1,e2,e3,h1⟩:=hs 0 x c ks es rfl h0
  obtain⟨c3,ks3,es3,e4,h2⟩:=Yc (d:=d) (g:=g) (F:=F) (P:=P) (items:=xs) (n:=n+1) h1 (λk d c ks es hk hp=>by
   have:=hs (k+1) d c ks es (by simpa using hk) (by rw[show n+(k+1)=n+1+k by omega];exact hp)
   rw[show n+(k+1)+1=n+1+k+1 by omega]at this
   exact this)
  refine⟨c3,ks3,es3,?_,by rw[List.length_cons,show n+(xs.length+1)=n+1+xs.length by omega];exact h2⟩
  show (g (.o (.im x)) c).toB _=_
  rw[e1]
  show (if Fb d c1=true then _ else _)=_
  rw[if_pos e2,e3];exact e4
theorem Bc0 (h1:fi c=.ok ds c1) (h2:Fb d c1=true):A9o (d:=d) fi g F c ks es=V2 (d:=d) g F ds c1 ks es:=by
 unfold A9o;rw[h1]
 show (if Fb d _=true then _ else _)=_
 grind
theorem Az6 (h1:Fb d (c.set d none)=true) (h2:F (c.set d none) [] []=.nx c' ks es):V9 d F g c=g (c'.set d (some (.ty (.ds ks (es.map DE.dat))))):=by
 unfold V9
 grind
theorem As0:∀vs:List Vl,Gq (vs.map Vl.d)=true
 | []=>rfl
 | v::vs=>by
  rw[List.map_cons,Gq,As0 vs]
  cases v <;> rfl
theorem A4m:∀vs:List Vl,PyData.depthAll (vs.map Vl.d)=0
 | []=>rfl
 | v::vs=>by
  show max v.d.depth (PyData.depthAll (vs.map Vl.d))=0
  rw[A4m vs]
  cases v <;> rfl
theorem Bv3 (h:VBs vs):PyData.canLayAll0 (vs.map Vl.d)=true:=Yr λd a=>by
 obtain⟨v,b,rfl⟩:=List.mem_map.mp a;exact(Hn (h v b)).lay
theorem Bx7 (h:VBs vs):U4 (tD vs)=true:=by
 show (Gq _&&PyData.canLayAll0 _&&decide _)=true
 rw[As0,Bv3 h,A4m];rfl
theorem R.toB_ok {a:b} {k:b->Ev->BR}:(U.R.ok a c).toB k=k a c:=rfl
section
variable {α:Type}[DecidableEq α]{key:α->PyData}(he:∀a b,PyData.eqv (key a) (key b)=decide (a=b)){d:Nat}{c:Ev}{qs:List α}{q:α}
include he
theorem A4c (h1:fk c=.ok (.o (.im (key q))) c) (h2:fv c=.ok (.o (.im x)) c) (e:qs.Nodup) (hk:U4 (key q)=true) (hl:qs.length<=1000) (hg:(g q).length<=1000) (b:q∉qs->g q=[]) (hn:Fb d c=true) :
 A9y (d:=d) fk fv c (qs.map key) (qs.map λa=>.l (g a))=.nx c ((ins qs q).map key) ((ins qs q).map λa=>.l (upF g q (g q++[x]) a)):=by
 obtain⟨h,i,f⟩:=Ba0 (x:=x) he e b;unfold A9y;simp only[h1,R.toB_ok,nrm,Ek,rdP,Option.bind_some,O.dat];simp only[h2,R.toB_ok,frz]
 grind
end
theorem A4n {b:Type}{f:b->PyData}{xs:List b}{k:Nat} (h:(N5 (xs.map f))[k]?=some x):∃a,xs[k]?=some a/\x=.tuple [.int (k:Nat),f a]:=by
 unfold N5 at h
 grind
theorem Bd2:∀x∈names12,Dl (.str x)=true:=λx hx=>List.all_eq_true.mp (show names12.all (λx=>Dl (.str x))=true by decide +kernel) x hx
theorem B0l {v:Vl}(h:VB v):Hz v.d=true:=by
 cases v with
 | non=>rfl
 | int i=>rfl
 | str x =>
  obtain⟨_,h1⟩:=Bool.and_eq_true_iff.mp (show (decide (x.length<=40)&&x.cps.toList.all λc=>decide (32<=c)&&decide (c<=126))=true from h)
  exact h1
theorem B1i {t:Tb}(ht:Tb.Ok t):Fe t.d=true:=by
 show (Jh (.tuple (t.cols.map PyData.str))&&(t.rows.map tD).all (Ib (t.cols.map PyData.str).length))=true
 have hp:=ht.cpos;rw[Bool.and_eq_true_iff]
 constructor
 ·show (decide (0<(t.cols.map PyData.str).length)&&((t.cols.map PyData.str).all Dl&&(match strsOf (t.cols.map PyData.str) with | some ss=>decide ss.Nodup | none=>false)))=true
  rw[Ov,decide_eq_true (by rw[List.length_map];omega),List.all_eq_true.mpr λd hd=>?_]
  ·show (true&&(true&&decide t.cols.Nodup))=true
   rw[decide_eq_true ht.nms.nd];rfl
  ·obtain⟨x,hx,rfl⟩:=List.mem_map.mp hd
   exact Bd2 x (ht.nms.sub x hx)
 ·rw[List.all_eq_true]
  intro d hd;obtain⟨r,hr,rfl⟩:=List.mem_map.mp hd;have h:=ht.rows r hr
  show (decide ((r.map Vl.d).length=(t.cols.map PyData.str).length)&&(r.map Vl.d).all Hz)=true
  rw[decide_eq_true (by rw[List.length_map,List.length_map];exact h.1),List.all_eq_true.mpr λd hd=>?_]
  ·rfl
  ·obtain⟨v,hv,rfl⟩:=List.mem_map.mp hd
   exact B0l (h.2 v hv)
theorem Bb6:∀x∈names12,sm (.str x)=true:=λx hx=>List.all_eq_true.mp (show names12.all (λx=>sm (.str x))=true by decide +kernel) x hx
theorem B0p {v:Vl}(h:VB v):sm v.d=true:=by
 cases v with
 | non=>rfl
 | int i=>rfl
 | str x =>
  obtain⟨h0,h1⟩:=Bool.and_eq_true_iff.mp (show (decide (x.length<=40)&&x.cps.toList.all λc=>decide (32<=c)&&decide (c<=126))=true from h)
  show (decide (x.length<=100)&&x.cps.toList.all (λc=>decide (c<128)))=true
  have h0:=of_decide_eq_true h0
  rw[decide_eq_true (show x.length<=100 by omega),List.all_eq_true.mpr λc hc=>?_]
  ·rfl
  ·obtain⟨_,q⟩:=Bool.and_eq_true_iff.mp (List.all_eq_true.mp h1 c hc)
   have q:=of_decide_eq_true q
   exact decide_eq_true (by omega)
theorem B0w {t:Tb}(ht:Tb.Ok t):sm t.d=true:=by
 have h12:=ht.clen;have h24:=ht.rlen
 refine sm_tup.mpr ⟨by simp,λd hd=>?_⟩
 simp only[List.mem_cons,List.not_mem_nil,or_false]at hd
 rcases hd with rfl | rfl
 ·refine sm_tup.mpr ⟨by rw[List.length_map];omega,λd hd=>?_⟩
  obtain⟨x,hx,rfl⟩:=List.mem_map.mp hd;exact Bb6 x (ht.nms.sub x hx)
 ·refine sm_tup.mpr ⟨by rw[List.length_map];omega,λd hd=>?_⟩
  obtain⟨r,hr,rfl⟩:=List.mem_map.mp hd;have h:=ht.rows r hr;have hl:=h.1
  refine sm_tup.mpr ⟨by rw[List.length_map];omega,λd hd=>?_⟩
  obtain⟨v,hv,rfl⟩:=List.mem_map.mp hd;exact B0p (h.2 v hv)
theorem S6 {t:Tb}(ht:Tb.Ok t):Bh [.im t.d]=.ret (.im (.bool true)) [.im t.d]:=by
 have h:=A7h (B0w ht);rw[B1i ht]at h;exact h
abbrev nmL (l:List (List Vl)):List PyData:=(fs l).map λq=>PyData.list (nmK l l.length q)
theorem A6x {a:Type}{l:List a} {x:a}(h:x∈l.take k):x∈l:=(List.take_sublist k l).subset h
abbrev aev (t:Tb)(x:PyData)(rest:List (Option O)):Ev:=sI t.d::some (.im x)::rest
theorem Af8 {t:Tb}{b:Bool}{ns:List Str}(ht:Tb.Ok t)(hn:∀x∈ns,x∈t.cols)(hl:ns.length<=12):Ex [t.d,sqD b (ns.map PyData.str)]=.ret (.im (.list (nmL (Iw t ns)))):=by
 have e1:=Q8 (b:=b) ht hn hl;have h24:=ht.rlen
 have hz2:(Iw t ns).length=t.rows.length:=by unfold Iw;rw[List.length_map]
 have hp:∀{k:Nat} {r:List Vl},t.rows[k]?=some r->(Iw t ns)[k]?=some (pick t.cols r ns):=λ{k r} hr=>by unfold Iw;rw[List.getElem?_map,hr];rfl
 have hv:=Vy (ns:=ns) ht hl
 generalize sqD b (ns.map PyData.str)=x at *
 generalize Iw t ns=l at *
 obtain⟨c',ks',es',e3,u4,u5,rfl,rfl,rfl⟩:=Yc (d:=3) (g:=cgT 2 (Dn (cgN 4) (Dn (cgN 5) Ke))) (F:=Oo) (items:=N5 (t.rows.map tD)) (n:=0) (ks:=[]) (es:=[])
  (c:=aev t x [sI (.list (Hb t.cols ns)),none,none,none])
  (P:=λk c K' E'=>∃u4 u5,c=aev t x [sI (.list (Hb t.cols ns)),none,u4,u5]/\K'=(fs (l.take k)).map tD/\E'=(fs (l.take k)).map λq=>DE.l (nmK l k q)) ⟨none,none,rfl,rfl,rfl⟩
  (λk z c K' E' hx hP=>by
   rw[Nat.zero_add]at hP ⊢;obtain⟨u4,u5,rfl,rfl,rfl⟩:=hP;obtain⟨r,hr,rfl⟩:=A4n hx;have mr:=ht.rows r (List.mem_of_getElem? hr);have hp:=hp hr;have v1:=Q7 (r:=r) hn mr.1 hl;have w1:VBs (pick t.cols r ns):=Z7 mr.2
   generalize pick t.cols r ns=p at *
   generalize Hb t.cols ns=L at *
   refine⟨aev t x [sI (.list L),none,sI (.int (k:Nat)),sI (tD r)],aev t x [sI (.list L),none,sI (.int (k:Nat)),sI (tD r)],_,_,(by wp_walk using aev),rfl,?_,_,_,rfl,rfl,rfl⟩
   unfold Oo
   rw[A4c (x:=.int (k:Nat)) (q:=p) B0m (by wp_walk using v1) (by wp_walk using true_and) (B2g _) (Bx7 w1) (Nat.le_trans (Aq6 _) (Nat.le_trans (by rw[List.length_take];exact Nat.min_le_right _ _) (by omega))) (Nat.le_trans (As8 _ _ _) (by have:=(List.getElem?_eq_some_iff.mp hp).1;omega)) (λz=>Ba9 λy=>z (yR.mpr y)) rfl]
   rw[<- Bb2 hp,<- A7q hp])
 have hz:(N5 (t.rows.map tD)).length=t.rows.length:=by unfold N5;rw[List.length_map,List.length_range,List.length_map]
 rw[hz,Nat.zero_add,<- hz2,List.take_length]at e3
 have e5:=Az6 (d:=3) (g:=Cr (cFz (U5 (Ab 3)))) (c:=aev t x [sI (.list (Hb t.cols ns)),none,none,none]) rfl ((Bc0 (fi:=At0 (cOp Aq (Ab 0) (cC (.int 1)))) (c1:=aev t x [sI (.list (Hb t.cols ns)),none,none,none]) (by wp_walk using aev,At0,Aq,Tb.d,Lq) rfl).trans e3)
 rw[List.map_map]at e5
 have e6:(DE.dat ∘ λq=>DE.l (nmK l l.length q))=λq=>PyData.list (nmK l l.length q):=rfl
 rw[e6]at e5
 have e7:∀c1:Ev,c1[3]?=some (some (.ty (.ds ((fs l).map tD) ((fs l).map λq=>PyData.list (nmK l l.length q)))))->U5 (Ab 3) c1=.ok (.o (.ls false (nmL l))) c1:=λc1 h=>by
  unfold U5 Ab;simp only[h,R.bind_ok,nrm]
  rw[if_pos (by rw[List.length_map,List.length_map])]
 have e8:=λu=>e7 (aev t x [sI (.list (Hb t.cols ns)),some (.ty (.ds ((fs l).map tD) ((fs l).map λq=>PyData.list (nmK l l.length q)))),u4,u]) rfl
 wp_walk using Ex,U7,e1,e5,e8
theorem A4e (b:Bool)(l:List PyData):J8 .list .tuple (sqD b l)=sI (.bool true):=by cases b <;> rfl
theorem A0a {t:Tb}{b:Bool}{ns:List Str}(ht:Tb.Ok t)(hn:∀x∈ns,x∈t.cols)(hl:ns.length<=12):∃r:Bool,Gs [t.d,sqD b (ns.map PyData.str)]=.ret (.im (.bool r)):=by
 have e1:=S6 ht;have e2:=A4e b (ns.map PyData.str);have e3:=Af8 (b:=b) ht hn hl;have h24:=ht.rlen;have i1:Aq t.d (.int 1)=sI (.tuple (t.rows.map tD)):=rfl
 have hz:(nmL (Iw t ns)).length<=24:=by
  unfold nmL;rw[List.length_map]
  exact Nat.le_trans (Aq6 _) (by unfold Iw;rw[List.length_map];exact h24)
 generalize nmL (Iw t ns)=N at *
 generalize sqD b (ns.map PyData.str)=y at *
 have l1:Do [.list N]=sI (.int N.length):=rfl;have l2:Do [.tuple (t.rows.map tD)]=sI (.int (t.rows.map tD).length):=rfl
 refine⟨decide ((N.length:Int)=(t.rows.map tD).length),?_⟩
 have e4:Dq false (.int (N.length:Nat)) (.int ((t.rows.map tD).length:Nat))=sI (.bool (decide ((N.length:Int)=(t.rows.map tD).length))):=Dj
 wp_walk using Gs,Sq,Vh,e1,e2,e3,i1,l1,l2,e4,cFY
theorem Af9 {t:Tb}{b:Bool}{ns:List Str}{x:Str}(ht:Tb.Ok t)(hm:∀x∈ns,x∈allNm)(hl:ns.length<=100)(hb:Ow t.cols ns=some x):Ex [t.d,sqD b (ns.map PyData.str)]=.ex (nC x):=by
 have e1:=Wy (b:=b) ht hm hl hb
 generalize sqD b (ns.map PyData.str)=y at *
 wp_walk using Ex,U7,e1
theorem A0l {t:Tb}{b:Bool}{ns:List Str}{x:Str}(ht:Tb.Ok t)(hm:∀x∈ns,x∈allNm)(hl:ns.length<=100)(hb:Ow t.cols ns=some x):Gs [t.d,sqD b (ns.map PyData.str)]=.ex (nC x):=by
 have e1:=S6 ht;have e2:=A4e b (ns.map PyData.str);have e3:=Af9 (b:=b) ht hm hl hb
 generalize sqD b (ns.map PyData.str)=y at *
 wp_walk using Gs,Sq,Vh,e1,e2,e3
theorem eqi (a b:Int):Dq false (.int a) (.int b)=sI (.bool (decide (a=b))):=Dj
theorem A2e {t:Tb}{b:Bool}{ns:List Str}{x:Str}(ht:Tb.Ok t)(hm:∀x∈ns,x∈allNm)(hl:ns.length<=100)(hb:Ow t.cols ns=some x):∀n:Nat,n<4->Bc [.int n,t.d,sqD b (ns.map PyData.str)]=.ex (nC x):=by
 have e0:=Wy (b:=b) ht hm hl hb;have e2:=Af9 (b:=b) ht hm hl hb;have e3:=A0l (b:=b) ht hm hl hb
 generalize sqD b (ns.map PyData.str)=y at *
 have k0:Jq [t.d,y]=.ex (nC x):=by wp_walk using Jq,Zo,e0
 have k1:Eb [t.d,y]=.ex (nC x):=by wp_walk using Eb,Ku,e0
 intro n hn
 match n,hn with
 | 0,_=>wp_walk using Bc,Dh,eqi,k0,show decide (((0:Nat):Int)=0)=true from rfl
 | 1,_=>wp_walk using Bc,Dh,eqi,k1,show decide (((1:Nat):Int)=0)=false from rfl,show decide (((1:Nat):Int)=1)=true from rfl
 | 2,_=>wp_walk using Bc,Dh,eqi,e2,show decide (((2:Nat):Int)=0)=false from rfl,show decide (((2:Nat):Int)=1)=false from rfl,show decide (((2:Nat):Int)=2)=true from rfl
 | 3,_=>wp_walk using Bc,Dh,eqi,e3,show decide (((3:Nat):Int)=0)=false from rfl,show decide (((3:Nat):Int)=1)=false from rfl,show decide (((3:Nat):Int)=2)=false from rfl,show decide (((3:Nat):Int)=3)=true from rfl
theorem c4:decide (((4:Nat):Int)=0)=false/\decide (((4:Nat):Int)=1)=false/\decide (((4:Nat):Int)=2)=false/\decide (((4:Nat):Int)=3)=false:=⟨rfl,rfl,rfl,rfl⟩
theorem B0u:A5y (.int 1)=sI (.int (-1)):=rfl
theorem Ar0 {t:Tb}{x:Str}{l:List PyData}(ht:Tb.Ok t)(hm:x∈allNm)(hx:x∉t.cols)(hl:Aq (.list l) (.int (-1))=sI (.str x)):Bc [.int 4,t.d,.list l]=.ex (nC x):=by
 have e0:=Aj7 ht hm hx
 have e1:Hk [t.d,.str x]=.ex (nC x):=by wp_walk using Hk,Q3,e0
 have hd:decide ((4:Int)=0)=false/\decide ((4:Int)=1)=false/\decide ((4:Int)=2)=false/\decide ((4:Int)=3)=false:=⟨rfl,rfl,rfl,rfl⟩
 wp_walk using Bc,Dh,eqi,B0u,hl,e1,hd.1,hd.2.1,hd.2.2.1,hd.2.2.2
theorem Ax9 {cols:List Str}(hc:∀x∈cols,x∈names12)(hl:cols.length<=12):Good (.tuple (cols.map PyData.str)) 1 30000:=by
 refine (Good.tup (n:=0) (w:=1921) (k:=12) (λd hd=>?_) (by rw[List.length_map];exact hl)).mono (by decide) (by decide)
 obtain⟨x,hx,rfl⟩:=List.mem_map.mp hd;exact Hn (Rz (Uw (hc x hx))).2.2
theorem Av3 {cols:List Str}{rows:List (List Vl)}(hc:∀x∈cols,x∈names12)(hl:cols.length<=12)(hr:∀r∈rows,VBs r/\r.length<=12)(h24:rows.length<=24):Good (Tb.d ⟨cols,rows⟩) 3 2000000:=by
 have g2:Good (.tuple (rows.map tD)) 2 600000:=by
  refine (Good.tup (n:=1) (w:=1923*12+4) (k:=24) (λd hd=>?_) (by rw[List.length_map];exact h24)).mono (by decide) (by decide)
  obtain⟨r,hr',rfl⟩:=List.mem_map.mp hd;exact Zz (hr r hr').1 (hr r hr').2
 refine (Good.tup (n:=2) (w:=600000) (k:=2) (λd hd=>?_) (by simp)).mono (by decide) (by decide)
 simp only[List.mem_cons,List.not_mem_nil,or_false]at hd
 rcases hd with rfl | rfl
 ·exact(Ax9 hc hl).mono (by decide) (by decide)
 ·exact g2
theorem A2z {l:List (List Vl)}(h:l.length<=24):Good (.list (nmL l)) 2 2000000:=by
 refine (Good.lst (n:=1) (w:=1923*24+4) (k:=24) (λd hd=>?_) (by unfold nmL;rw[List.length_map];exact Nat.le_trans (Aq6 _) h)).mono (by decide) (by decide)
 obtain⟨q,_,rfl⟩:=List.mem_map.mp hd
 refine Good.lst (n:=0) (w:=1921) (k:=24) (λd hd=>?_) (Nat.le_trans (As8 _ _ _) h)
 unfold nmK at hd;obtain⟨i,hi,rfl⟩:=List.mem_map.mp hd;have hi:=List.mem_range.mp (List.mem_filter.mp hi).1
 refine Hn (v:=.int (i:Nat)) ?_
 show (decide (-1000000000000<=(i:Int))&&decide ((i:Int)<=1000000000000))=true
 rw[decide_eq_true (by omega),decide_eq_true (by omega)];rfl
theorem A2d (b:Bool):Good (.bool b) 0 1921:=by cases b <;> exact⟨rfl,rfl,rfl,Nat.le_refl _,by decide⟩
theorem A3j {cols:List Str}(h:2<=cols.length):∃x∈cols,Aq (.list ((cols.take 2).map PyData.str)) (.int (-1))=sI (.str x):=by
 match cols,h with
 | a::b::r,_=>exact⟨b,.tail _ (.head _),rfl⟩
theorem Bg2 {t:Tb}(ht:Tb.Ok t):∀n:Nat,n<5->∃d,Good d 3 2000000/\Bc [.int n,t.d,.list ((t.cols.take 2).map PyData.str)]=.ret (.im d):=by
 have hn:∀x∈t.cols.take 2,x∈t.cols:=λx hx=>A6x hx
 have hl:(t.cols.take 2).length<=12:=by rw[List.length_take];omega
 have h24:=ht.rlen;have hc:=ht.clen;obtain⟨x,hx,ex⟩:=A3j ht.cpos;have e0:=Be2 (b:=false) ht hn hl;obtain⟨out,o1,o2,e1⟩:=A1b (b:=false) ht hn hl;have e2:=Af8 (b:=false) ht hn hl;obtain⟨r,e3⟩:=A0a (b:=false) ht hn hl;have e4:=A2r ht hx;have e0:Jq [t.d,.list ((t.cols.take 2).map PyData.str)]=_:=e0;have e1:Eb [t.d,.list ((t.cols.take 2).map PyData.str)]=_:=e1;have e2:Ex [t.d,.list ((t.cols.take 2).map PyData.str)]=_:=e2;have e3:Gs [t.d,.list ((t.cols.take 2).map PyData.str)]=_:=e3
 have g0:Good (Tb.d ⟨t.cols.take 2,t.rows.map λr=>pick t.cols r (t.cols.take 2)⟩) 3 2000000:=Av3 (λx hx=>ht.nms.sub x (hn x hx)) hl (λk hk=>Vy ht hl k hk) (by rw[List.length_map];exact h24)
 have g1:Good (Tb.d ⟨t.cols,out⟩) 3 2000000:=Av3 ht.nms.sub hc (λr hr=>⟨(ht.rows r (o1 r hr)).2,by rw[(ht.rows r (o1 r hr)).1];exact hc⟩) (by omega)
 have g2:Good (.list (nmL (Iw t (t.cols.take 2)))) 2 2000000:=A2z (by unfold Iw;rw[List.length_map];exact h24)
 have g4:Good (.list ((t.rows.map λr=>vAt t.cols r x).map Vl.d)) 3 2000000:=(Good.lst (n:=0) (w:=1921) (k:=24) (λd hd=>by
  obtain⟨v,hv,rfl⟩:=List.mem_map.mp hd;obtain⟨r,hr,rfl⟩:=List.mem_map.mp hv
  exact Hn (Z7 (cols:=t.cols) (ns:=[x]) (ht.rows r hr).2 _ (by unfold pick;exact .head _))) (by rw[List.length_map,List.length_map];exact h24)).mono (by decide) (by decide)
 generalize PyData.list ((t.cols.take 2).map PyData.str)=y at *
 intro n hn
 match n,hn with
 | 0,_=>exact⟨_,g0,by wp_walk using Bc,Dh,eqi,e0,show decide (((0:Nat):Int)=0)=true from rfl⟩
 | 1,_=>exact⟨_,g1,by wp_walk using Bc,Dh,eqi,e1,show decide (((1:Nat):Int)=0)=false from rfl,show decide (((1:Nat):Int)=1)=true from rfl⟩
 | 2,_=>exact⟨_,g2.mono (by decide) (by decide),by wp_walk using Bc,Dh,eqi,e2,show decide (((2:Nat):Int)=0)=false from rfl,show decide (((2:Nat):Int)=1)=false from rfl,show decide (((2:Nat):Int)=2)=true from rfl⟩
 | 3,_=>exact⟨_,(A2d r).mono (by decide) (by decide),by wp_walk using Bc,Dh,eqi,e3,show decide (((3:Nat):Int)=0)=false from rfl,show decide (((3:Nat):Int)=1)=false from rfl,show decide (((3:Nat):Int)=2)=false from rfl,show decide (((3:Nat):Int)=3)=true from rfl⟩
 | 4,_=>exact⟨_,g4,by wp_walk using Bc,Dh,eqi,B0u,ex,e4,c4.1,c4.2.1,c4.2.2.1,c4.2.2.2⟩
theorem Vz {n:Int}{a b:PyData}{x:Str}(e:Bc [.int n,a,b]=.ex (nC x)):Fx [.im (.int n),.im a,.im b]=.ret (.im (.str x)) [.im (.int n),.im a,.im b]:=by
 have h1:(["NoColumn"]:List Str).contains (Str.ofString "NoColumn")=true:=by decide +kernel
 have h2:List.lookup (Str.ofString "NoColumn") [(("NoColumn" : Str),true)]=some true:=by decide +kernel
 have h3:List.lookup (Str.ofString "NoColumn") [(("NoColumn" : Str),false)]=some false:=by decide +kernel
 have h4:(Str.ofString "name" = ("name" : Str))=True:=eq_true rfl
 have c1:Ai5 Bc (Ad (Ab 0) (Ad (Ab 1) (Ad (Ab 2) Av))) 4 none ["NoColumn"] (Fi (Ab 4) (cgN 3)) [sI (.int n),sI a,sI b,sI .none,none]=.nx [sI (.int n),sI a,sI b,some (.ty (.xc (nC x))),none]:=by
  unfold Ai5 Lk
  wp_walk using e,tryH,h1
 refine Ub (p:=.o (.im (.str x))) (c:=[sI (.int n),sI a,sI b,some (.ty (.xc (nC x))),none]) ?_ rfl rfl
 unfold Qn
 refine (Ed (c':=[sI (.int n),sI a,sI b,sI .none,none]) rfl).trans ?_
 rw[Ed c1]
 have h5:(Str.ofString "NoColumn" == Str.ofString "NoColumn")=true:=by decide +kernel
 wp_walk using h2,h3,h4,h5
def Wr {α:Type}(l:List α)(lo hi:Option Int):List α:=(l.drop (HT.sIx l.length 0 lo)).take (HT.sIx l.length l.length hi-HT.sIx l.length 0 lo)
theorem Av4 {α:Type}(f:α->PyData)(l:List α)(lo hi:Option Int):cutD (l.map f) lo hi=(Wr l lo hi).map f:=by
 unfold cutD Wr;rw[List.length_map,List.map_take,List.map_drop]
theorem A9m {α:Type}{l:List α}{lo hi:Option Int}{x:α}(h:x∈Wr l lo hi):x∈l:=List.mem_of_mem_drop (List.mem_of_mem_take h)
theorem Bb7 {α:Type}(l:List α)(lo hi:Option Int):(Wr l lo hi).length<=l.length:=by
 unfold Wr;rw[List.length_take,List.length_drop];omega
theorem Yg {b c:Type}(p:b->Bool)(f:b->c)(l:List b):(l.filterMap λk=>if p k then some (f k) else none)=(l.filter p).map f:=by
 induction l with
 | nil=>rfl
 | cons a r d =>
  grind
abbrev seven:List Str:=[Str.ofString "q",Str.ofString "ax",Str.ofString "yea",Str.ofString "years",Str.ofString "",Str.ofString "abcdefghi",Str.ofString "a b"]
def Af3 (cols oth:List Str):List Str:=(oth++seven).filter λx=>!decide (x∈cols)
theorem A0x:∀x∈seven,x∉names12:=by decide +kernel
theorem Bi0 {cols oth:List Str}(hs:∀x∈cols,x∈names12):7<=(Af3 cols oth).length:=by
 unfold Af3
 have e:(seven.filter λx=>!decide (x∈cols))=seven:=List.filter_eq_self.mpr λx hx=>by simpa using λh=>A0x x hx (hs x h)
 rw[List.filter_append,List.length_append,e];exact Nat.le_add_left 7 _
theorem A9c {cols oth:List Str}(ho:∀x∈oth,x∈names12){x:Str}(h:x∈Af3 cols oth):x∈allNm/\x∉cols:=by
 obtain⟨h1,h2⟩:=List.mem_filter.mp h
 refine⟨?_,by simpa using h2⟩
 rcases List.mem_append.mp h1 with q | q
 ·exact Uw (ho x q)
 ·exact List.mem_append_right _ q
theorem tD0 (t:Tb):Aq t.d (.int 0)=sI (.tuple (t.cols.map PyData.str)):=rfl
theorem Bw2 {one oth:Tb}(h1:Tb.Ok one)(h2:Tb.Ok oth){s0 s3 s4 s5:Option O} :
 cLC [none,some 1] (Ci (cOp Ei (cOp Aq (Ab 2) (cC (.int 0))) (Lp (cK [.str "q",.str "ax",.str "yea",.str "years",.str "",.str "abcdefghi",.str "a b"])))) (cgN 0) (Bf (cOp (J0 true) (Ab 0) (cOp Aq (Ab 1) (cC (.int 0))))) (Ab 0) [s0,sI one.d,sI oth.d,s3,s4,s5] =
  .ok (.o (.ls false ((Af3 one.cols oth.cols).map PyData.str))) [s0,sI one.d,sI oth.d,s3,s4,s5]:=by
 have hl:=h2.clen;have i0:=tD0 one;have i1:=tD0 oth
 have ea:Ei (.tuple (oth.cols.map PyData.str)) (.tuple [.str "q",.str "ax",.str "yea",.str "years",.str "",.str "abcdefghi",.str "a b"])=sI (.tuple ((oth.cols++seven).map PyData.str)):=by
  show (if (oth.cols.map PyData.str).length+7<=16000000 then some (O.im (.tuple (oth.cols.map PyData.str++_))) else none)=_
  rw[if_pos (by rw[List.length_map];omega),List.map_append];rfl
 obtain⟨cI,e,u,rfl⟩:=Nq (g:=cgN 0) (ft:=Bf (cOp (J0 true) (Ab 0) (cOp Aq (Ab 1) (cC (.int 0))))) (fe:=Ab 0) (I:=λc=>∃u,c=[u,sI one.d]) (f:=PyData.str) (G:=λx=>if (!decide (x∈one.cols))=true then some (.str x) else none) (xs:=oth.cols++seven) (acc:=[]) (c:=[none,sI one.d]) ⟨none,rfl⟩
  (λx c hx hI=>by
   obtain⟨u,rfl⟩:=hI
   refine⟨[sI (.str x),sI one.d],?_,_,rfl⟩
   have hm:x∈allNm:=by
    rcases List.mem_append.mp hx with q | q
    ·exact Uw (h2.nms.sub x q)
    ·exact List.mem_append_right _ q
   have h1':=T6 hm h1.nms.sub
   by_cases z:x∈one.cols
   ·rw[decide_eq_true z]at h1' ⊢
    wp_walk using i0,h1'
   ·rw[decide_eq_false z]at h1' ⊢
    wp_walk using i0,h1')
 rw[Yg]at e;have e:Ds (cgN 0) (Bf (cOp (J0 true) (Ab 0) (cOp Aq (Ab 1) (cC (.int 0))))) (Ab 0) ((oth.cols++seven).map PyData.str) [] [none,sI one.d]=.ok ((Af3 one.cols oth.cols).map PyData.str) [u,sI one.d]:=e
 generalize Af3 one.cols oth.cols=A at *
 refine Fq (ds:=(oth.cols++seven).map PyData.str) (c1:=[s0,sI one.d,sI oth.d,s3,s4,s5]) ?_ (by rw[List.length_map,List.length_append];show oth.cols.length+7<=_;omega) (by simpa[cIn,O.flag] using e) rfl
 wp_walk using Ci,i1,ea,U.Lq
theorem A7f (l:List Str)(m:Nat)(x:Str):Mu (l.map PyData.str) m (.str x)=(Mu l m x).map PyData.str:=by
 unfold Mu
 simp
theorem insS_mem {xs:List Str}{k:Nat}{v u:Str}:u∈Mu xs k v↔u=v\/u∈xs:=by
 unfold Mu
 have:u∈xs↔u∈xs.take k\/u∈xs.drop k:=by
  conv=>lhs;rw[<- List.take_append_drop k xs]
  exact List.mem_append
 rw[this];simp only[List.mem_append,List.mem_cons,List.not_mem_nil,or_false]
 constructor
 ·intro h;rcases h with h | h | h <;> simp[h]
 ·intro h;rcases h with h | h | h <;> simp[h]
theorem A3n {xs:List Str}{k:Nat}{v:Str}(h:k<=xs.length):(Mu xs k v).length=xs.length+1:=by
 unfold Mu
 simp
 omega
abbrev bnB:Ev->SR:=Ss (A9g (Ab 3) (cF Ao (Ad (Ab 0) (Ad (cOp Ei (Gy (Ab 3)) (cC (.int 1))) Av))) (O7 (Ab 4) (cF Ao (Ad (Ab 0) (Ad (Gy (Ab 4)) Av)))))
theorem Br5 {n:Nat}{ds:List PyData}{one oth:Tb}(hb:Bx n ds)(hn:n<2 ^ 36)(h1:Tb.Ok one)(h2:Tb.Ok oth) :
 ∃(ns:List Str) (d1:List PyData),Bx (n+6) d1/\(∀x∈ns,x∈allNm)/\ns.length<=14/\(∃x∈ns,x∉one.cols)/\G3 [.ls true ds,.im one.d,.im oth.d]=.ret (.ls false (ns.map PyData.str)) [.ls true d1,.im one.d,.im oth.d]:=by
 have hl:=h1.clen;have hl2:=h2.clen
 obtain⟨r,d1,b1,r0,r1,e1⟩:=Em (m:=3) hb (by omega) (by decide) (by decide)
 obtain⟨q,d2,b2,q0,q1,e2⟩:=Em (m:=2) b1 (by omega) (by decide) (by decide)
 obtain⟨m,rfl⟩:=Int.eq_ofNat_of_zero_le q0
 have hm:m<2:=by omega
 have cl:=Bb7 one.cols none (some (1+r));have i0:=tD0 one;have l3:=Bw2 h1 h2 (s0:=sT d1) (s3:=sF ((Wr one.cols none (some (1+r))).map PyData.str)) (s4:=none) (s5:=none);have al:=Bi0 (cols:=one.cols) (oth:=oth.cols) h1.nms.sub
 have am:=λx=>A9c (cols:=one.cols) (oth:=oth.cols) h2.nms.sub (x:=x)
 have au:(Af3 one.cols oth.cols).length<=19:=Nat.le_trans (List.length_filter_le _ _) (by rw[List.length_append];show oth.cols.length+7<=19;omega)
 have cm:∀x∈Wr one.cols none (some (1+r)),x∈allNm:=λx hx=>Uw (h1.nms.sub x (A9m hx))
 have s1:Uu (.list (one.cols.map PyData.str)) none (some (1+r))=sF ((Wr one.cols none (some (1+r))).map PyData.str):=by
  show some (O.ls false (cutD (one.cols.map PyData.str) none (some (1+r))))=_
  rw[Av4]
 generalize Wr one.cols none (some (1+r))=C at *
 generalize Af3 one.cols oth.cols=A at *
 have ai:∀i j:Int,Ei (.int i) (.int j)=sI (.int (i+j)):=λi j=>rfl
 obtain⟨c',e3,ns,as,d3,u,rfl,b3,p1,p2,p3,p4,p5,p6⟩:=Ji (g:=cgN 5) (body:=bnB) (items:=J4 0 (1+m)) (n:=0) (c:=[sT d2,sI one.d,sI oth.d,sF (C.map PyData.str),sF (A.map PyData.str),none])
  (P:=λk c=>∃(ns as:List Str) (d:List PyData) (u:Option O),c=[sT d,sI one.d,sI oth.d,sF (ns.map PyData.str),sF (as.map PyData.str),u]/\Bx (n+2+2*k) d/\(∀x∈ns,x∈allNm)/\ns.length=C.length+k/\(∀x∈as,x∈allNm/\x∉one.cols)/\7<=as.length+k/\as.length<=19/\(0<k->∃x∈ns,x∉one.cols))
  ⟨C,A,d2,none,rfl,b2,cm,rfl,am,al,au,λh=>absurd h (by decide)⟩ (λk d c hd hP=>by
   rw[Nat.zero_add]at hP ⊢;obtain⟨ns,as,d3,u,rfl,b3,p1,p2,p3,p4,p5,p6⟩:=hP;obtain⟨rfl,hk⟩:=K5 hd
   obtain⟨i,d4,b4,i0',i1',e4⟩:=Em (m:=((ns.length:Int)+1)) b3 (by omega) (by omega) (by omega)
   obtain⟨j,d5,b5,j0,j1,e5⟩:=Em (m:=(as.length:Int)) b4 (by omega) (by omega) (by omega)
   have hj:j.toNat<as.length:=by omega
   have hx:(as.map PyData.str)[j.toNat]?=some (.str as[j.toNat]):=by simp[hj]
   have hix:ixN as.length j=some j.toNat:=Ax2 j0 j1
   have lr:Do [.list (ns.map PyData.str)]=sI (.int ns.length):=by show some (O.im (.int ((ns.map PyData.str).length:Nat)))=_;rw[List.length_map]
   have lr2:Do [.list (as.map PyData.str)]=sI (.int as.length):=by show some (O.im (.int ((as.map PyData.str).length:Nat)))=_;rw[List.length_map]
   refine⟨[sT d5,sI one.d,sI oth.d,sF ((Mu ns i.toNat as[j.toNat]).map PyData.str),sF ((as.eraseIdx j.toNat).map PyData.str),sI (.int (0+(k:Nat)))],.inl ?_,_,_,d5,_,rfl,b5.mono (by omega),λx hx=>?_,?_,λx hx=>p3 x (List.mem_of_mem_eraseIdx hx),?_,?_,λ_=>⟨as[j.toNat],insS_mem.mpr (.inl rfl),(p3 _ (List.getElem_mem hj)).2⟩⟩
   ·wp_walk using A9g,lr,lr2,ai,e4,e5,hix,hx,Rh,A7f,List.length_map,show as.length<=16000000 by omega,show (0:Int)<=i/\i<=(ns.length:Int)/\ns.length<1000000 by omega
   ·rcases insS_mem.mp hx with rfl | h
    ·exact(p3 _ (List.getElem_mem hj)).1
    ·exact p1 x h
   ·rw[A3n (by omega)];omega
   ·rw[List.length_eraseIdx_of_lt hj];omega
   ·rw[List.length_eraseIdx_of_lt hj];omega)
 rw[Nat.zero_add,Qy]at b3 p2 p6
 refine⟨ns,d3,b3.mono (by omega),p1,by omega,p6 (by omega),?_⟩
 have e5:Rj (Hc (cOp Ei (cC (.int 1)) (cF Ao (Ad (Ab 0) (Ad (cC (.int 2)) Av))))) (cgN 5) bnB [sT d1,sI one.d,sI oth.d,sF (C.map PyData.str),sF (A.map PyData.str),none]=.nx [sT d3,sI one.d,sI oth.d,sF (ns.map PyData.str),sF (as.map PyData.str),u]:=by
  refine (Nj (ds:=J4 0 (1+m)) (c1:=[sT d2,sI one.d,sI oth.d,sF (C.map PyData.str),sF (A.map PyData.str),none]) ?_).trans e3
  have ht:((1:Int)+(m:Nat)).toNat=1+m:=by omega
  wp_walk using e2,ai,show (1:Int)+(m:Nat)<=16000000/\-16000000<=(1:Int)+(m:Nat) by omega,ht
 refine Ub (p:=.sl 3) (c:=[sT d3,sI one.d,sI oth.d,sF (ns.map PyData.str),sF (as.map PyData.str),u]) ?_ rfl (by wp_walk using true_and)
 show Jl [sT ds,sI one.d,sI oth.d,none,none,none]=_
 unfold Jl
 refine (Ed (c':=[sT d1,sI one.d,sI oth.d,sF (C.map PyData.str),none,none]) (by wp_walk using i0,Oc,e1,ai,s1)).trans ?_
 refine (Ed (c':=[sT d1,sI one.d,sI oth.d,sF (C.map PyData.str),sF (A.map PyData.str),none]) (by wp_walk using l3)).trans ?_
 rw[Ed e5]
 wp_walk using true_and
def Us (t:Tb)(n:Nat):PyData:=match Bc [.int n,t.d,.list ((t.cols.take 2).map PyData.str)] with
 | .ret (.im d)=>d
 | _=>.none
theorem Au6 {t:Tb}(ht:Tb.Ok t){n:Nat}(hn:n<5):Good (Us t n) 3 2000000/\Bc [.int n,t.d,.list ((t.cols.take 2).map PyData.str)]=.ret (.im (Us t n)):=by
 obtain⟨d,g,e⟩:=Bg2 ht n hn
 have:Us t n=d:=by unfold Us;rw[e]
 rw[this];exact⟨g,e⟩
def Dd (t:Tb):List PyData:=(List.range 5).map (Us t)
theorem A0m {t:Tb}(ht:Tb.Ok t):Good (.list (Dd t)) 4 10000030 :=
 (Good.lst (n:=3) (w:=2000000) (k:=5) (λd hd=>by
  obtain⟨n,hn,rfl⟩:=List.mem_map.mp hd
  exact(Au6 ht (List.mem_range.mp hn)).1) (by unfold Dd;simp)).mono (by decide) (by decide)
theorem A1f {t:Tb}(ht:Tb.Ok t):Bq 5 [.im (.list (Dd t)),.im (.list (Dd t))]=.ret (.im (.bool true)) [.im (.list (Dd t)),.im (.list (Dd t))]:=Xq (A0m ht) (by decide) (by decide) (by decide)
abbrev clE:Ev->R PV:=cFY Bc (Ad (Ab 0) (Ad (Ab 1) (Ad (cFz (cSl Uu (cUn Oc (cOp Aq (Ab 1) (cC (.int 0)))) cON (cOS (cC (.int 2))))) Av)))
theorem Bn5 {cols:List Str}(h:2<=cols.length):Uu (.list (cols.map PyData.str)) none (some 2)=sF ((cols.take 2).map PyData.str):=by
 show some (O.ls false (cutD (cols.map PyData.str) none (some 2)))=_
 rw[Av4]
 have:Wr cols none (some 2)=cols.take 2:=by
  show (cols.drop 0).take (min 2 cols.length-0)=_
  rw[Nat.min_eq_left h];rfl
 rw[this]
theorem Bh8 {t:Tb}(ht:Tb.Ok t):∃u,Ds (cgN 0) Bg clE ((List.range 5).map λn=>PyData.int (n:Nat)) [] [none,sI t.d]=.ok (Dd t) [u,sI t.d]:=by
 have i0:=tD0 t;have s2:=Bn5 ht.cpos
 obtain⟨cI,e,u,rfl⟩:=Gi (g:=cgN 0) (ft:=Bg) (fe:=clE) (I:=λc=>∃u,c=[u,sI t.d]) (f:=λn:Nat=>PyData.int n) (G:=Us t) (xs:=List.range 5) (acc:=[]) (c:=[none,sI t.d]) ⟨none,rfl⟩
  (λn c hn hI=>by
   obtain⟨u,rfl⟩:=hI;have e:=(Au6 ht (List.mem_range.mp hn)).2
   refine⟨[sI (.int n),sI t.d],?_,_,rfl⟩
   generalize Us t n=D at *
   generalize (t.cols.take 2).map PyData.str=L at *
   wp_walk using cFY,i0,Oc,s2,e)
 exact⟨u,e⟩
theorem Bl0 {t:Tb}(ht:Tb.Ok t){i:Nat}{c:Ev}(h:c[i]?=some (sI t.d))(hb:∀u,Gb [u,sI t.d] (pairsOf 0 [none,some i]) c=some c):cLC [none,some i] (Hc (cC (.int 5))) (cgN 0) Bg clE c=.ok (.o (.ls false (Dd t))) c:=by
 obtain⟨u,e⟩:=Bh8 ht
 exact Fq (ds:=(List.range 5).map λn=>PyData.int (n:Nat)) (c1:=c) rfl (by simp) (by
  rw[show cIn [none,some i] c=[none,sI t.d] by unfold cIn;simp[h,O.flag]]
  exact e) (hb u)
abbrev thE:Ev->R PV:=cLC [none,some 0] (Hc (cC (.int 5))) (cgN 0) Bg clE
theorem A2j {one oth:Tb}(h1:Tb.Ok one)(h2:Tb.Ok oth){c:Ev}(e3:c[3]?=some (sI one.d))(e4:c[4]?=some (sI oth.d)):cLC [none] (Ci (Lp (Ad (Ab 3) (Ad (Ab 4) Av)))) (cgN 0) Bg thE c=.ok (.o (.ls false [.list (Dd one),.list (Dd oth)])) c:=by
 have t1:∀{t:Tb} (u:Option O),Tb.Ok t->Li (cgN 0) Bg thE t.d [u]=.ok (some (.list (Dd t))) [sI t.d]:=λ{t} u ht=>by
  have e:=Bl0 ht (i:=0) (c:=[sI t.d]) rfl λ_=>rfl
  have e:thE [sI t.d]=_:=e
  generalize thE=E at *
  wp_walk using e
 refine Fq (ds:=[one.d,oth.d]) (c1:=c) (cI:=[sI oth.d]) ?_ (by simp) ?_ rfl
 ·unfold Ci Lp Ad Ab Av
  simp only[e3,e4,R.bind_ok,nrm,frz,frzs,U.Lq,Ad,Ab,Av]
  rw[if_pos (by simp)];rfl
 ·show Ds (cgN 0) Bg thE [one.d,oth.d] [] [none]=_
  rw[Jk,t1 none h1,R.bind_ok,Jk,t1 _ h2,R.bind_ok];rfl
theorem same_str {x:Str}(h:VB (.str x)):Bq 5 [.im (.str x),.im (.str x)]=.ret (.im (.bool true)) [.im (.str x),.im (.str x)]:=Xq (Hn (v:=.str x) h) (by decide) (by decide) (by decide)
theorem Bi3 (a:List PyData)(m:Nat):∃b,Aq (.list [.list a,.tuple a]) (.int ((m:Int) % 2))=sI (sqD b a):=by
 rcases (show (m:Int) % 2=0\/(m:Int) % 2=1 by omega) with e | e
 ·rw[e];exact⟨false,rfl⟩
 ·rw[e];exact⟨true,rfl⟩
theorem B0h {m:Nat}:Aw3 (m:Int) 2=true:=Ad0 (by decide)
theorem Bh2 {one:Tb}{ns:List Str}{x:Str}{m n:Nat}{s0 s1 s2 s4 s5 s10 s11 s12:Option O}(h1:Tb.Ok one)(hm:∀y∈ns,y∈allNm)(hl:ns.length<=14)(hx:Ow one.cols ns=some x)(hn:n<4) :
 M3 [s0,s1,s2,sI one.d,s4,s5,sI (.int m),sI (.list (ns.map PyData.str)),sI (.str x),sI (.int n),s10,s11,s12]=.nx [s0,s1,s2,sI one.d,s4,s5,sI (.int m),sI (.list (ns.map PyData.str)),sI (.str x),sI (.int n),s10,s11,s12]:=by
 obtain⟨b,eb⟩:=Bi3 (ns.map PyData.str) m
 have e1:=Vz (A2e (b:=b) h1 hm (by omega) hx n hn)
 have e2:=same_str (Rz (hm x (Ah7 hx).1)).2.2;have e3:=B0h (m:=m);have e4:Dy (.list (ns.map PyData.str))=sI (.tuple (ns.map PyData.str)):=rfl
 generalize sqD b (ns.map PyData.str)=y at *
 generalize ns.map PyData.str=L at *
 wp_walk using M3,e4,e3,eb,e1,e2
abbrev l4 (E:Ev->R PV):Ev->SR:=Cm (Fi (cLC [none,some 10] (Hc (cC (.int 5))) (cgN 0) Bg E) (cgN 12))
 (cIf (Ls (Bf (cF (Bq 5) (Ad (cFz (Ab 12)) (Ad (Ab 11) Av))))) (Cr (cC (.bool false))) Cu)
theorem Au4 {t:Tb}{s0 s1 s2 s3 s4 s5 s6 s7 s8 s9 s12:Option O}(ht:Tb.Ok t) :
 ∃u,Kf [s0,s1,s2,s3,s4,s5,s6,s7,s8,s9,sI t.d,sI (.list (Dd t)),s12]=.nx [s0,s1,s2,s3,s4,s5,s6,s7,s8,s9,sI t.d,sI (.list (Dd t)),u]:=by
 have e1:=Bl0 ht (i:=10) (c:=[s0,s1,s2,s3,s4,s5,s6,s7,s8,s9,sI t.d,sI (.list (Dd t)),s12]) rfl λ_=>rfl
 have e2:=A1f ht
 refine⟨some (.im (.list (Dd t))),?_⟩
 show l4 clE _=_
 generalize clE=E at *
 generalize Dd t=L at *
 wp_walk using l4,e1,e2
theorem A4a {one:Tb}{ns:List Str}{x:Str}{s0 s1 s2 s4 s5 s6 s8 s9 s10 s11 s12:Option O}(h1:Tb.Ok one)(hm:∀y∈ns,y∈allNm)(hl:ns.length<=14)(hx:Ow one.cols ns=some x) :
 ∃r,cLC [none,some 3] (Ci (cFz (Ab 7))) (cgN 0) (Bf (cOp (J0 true) (Ab 0) (cOp Aq (Ab 1) (cC (.int 0))))) (Ab 0) [s0,s1,s2,sI one.d,s4,s5,s6,sF (ns.map PyData.str),s8,s9,s10,s11,s12]=.ok (.o (.ls false (.str x::r))) [s0,s1,s2,sI one.d,s4,s5,s6,sI (.list (ns.map PyData.str)),s8,s9,s10,s11,s12]:=by
 have i0:=tD0 one
 obtain⟨cI,e,u,rfl⟩:=Nq (g:=cgN 0) (ft:=Bf (cOp (J0 true) (Ab 0) (cOp Aq (Ab 1) (cC (.int 0))))) (fe:=Ab 0) (I:=λc=>∃u,c=[u,sI one.d]) (f:=PyData.str) (G:=λx=>if (!decide (x∈one.cols))=true then some (.str x) else none) (xs:=ns) (acc:=[]) (c:=[none,sI one.d]) ⟨none,rfl⟩
  (λx c hx hI=>by
   obtain⟨u,rfl⟩:=hI
   refine⟨[sI (.str x),sI one.d],?_,_,rfl⟩
   have h1':=T6 (hm x hx) h1.nms.sub
   by_cases z:x∈one.cols
   ·rw[decide_eq_true z]at h1' ⊢
    wp_walk using i0,h1'
   ·rw[decide_eq_false z]at h1' ⊢
    wp_walk using i0,h1')
 rw[Yg]at e
 have eh:(ns.filter λx=>!decide (x∈one.cols)).head?=some x:=by rw[List.head?_filter];exact hx
 cases ef:ns.filter λx=>!decide (x∈one.cols) with
 | nil=>rw[ef]at eh;cases eh
 | cons y r =>
  rw[ef]at eh e
  cases eh
  refine⟨r.map PyData.str,Fq (ds:=ns.map PyData.str) (c1:=[s0,s1,s2,sI one.d,s4,s5,s6,sI (.list (ns.map PyData.str)),s8,s9,s10,s11,s12]) (by wp_walk using Ci,U.Lq) (by rw[List.length_map];omega) (by simpa[cIn,O.flag] using e) rfl⟩
theorem A7a {cols ns:List Str}(h:∃x∈ns,x∉cols):∃x,Ow cols ns=some x:=by
 obtain⟨x,hx,n⟩:=h
 cases e:Ow cols ns with
 | some y=>exact⟨y,rfl⟩
 | none=>exact absurd (List.find?_eq_none.mp e x hx) (by simpa using n)
abbrev tev (s0 s1:Option O) (ds:List PyData) (a b:PyData) (o5 s6 s7 s8 s9 s10 s11 s12:Option O):Ev:=[s0,s1,sF ds,sI a,sI b,o5,s6,s7,s8,s9,s10,s11,s12]
theorem A7x (x:Str):Aq (.list [.str x]) (.int (-1))=sI (.str x):=rfl
theorem B3i (x:Str)(r:List PyData):Aq (.list (.str x::r)) (.int 0)=sI (.str x):=by
 show (atI (.str x::r) 0).map O.im=_
 rw[Bj9];rfl
abbrev lb4:Ev->SR:=cIf (Ls (Bf (cF (Bq 5) (Ad (cF Fx (Ad (cC (.int 4)) (Ad (Ab 3) (Ad (cFz (Lx (Ad (Ab 8) Av))) Av)))) (Ad (Ab 8) Av))))) (Cr (cC (.bool false))) Cu
theorem Bw9 {one:Tb}{x:Str}{ds:List PyData}{b:PyData}{s0 s1 s5 s6 s7 s9 s10 s11 s12:Option O}(h1:Tb.Ok one)(hm:x∈allNm)(hx:x∉one.cols) :
 lb4 (tev s0 s1 ds one.d b s5 s6 s7 (sI (.str x)) s9 s10 s11 s12)=.nx (tev s0 s1 ds one.d b s5 s6 s7 (sI (.str x)) s9 s10 s11 s12):=by
 have e1:=Vz (Ar0 h1 hm hx (A7x x));have e2:=same_str (Rz hm).2.2
 generalize one.d=D at *
 wp_walk using lb4,tev,e1,e2
theorem Ba5 {one oth:Tb}(h1:Tb.Ok one)(h2:Tb.Ok oth){ds:List PyData}{s0 s1 s6 s7 s8 s9 s10 s11 s12:Option O}{o5:O}(h5:A2v o5 [.list (Dd one),.list (Dd oth)]) :
 ∃
  u10 u11 u12,Rj (Zh (Lp (Ad (Ab 3) (Ad (Ab 4) Av))) (Ab 5)) (cgT 2 (Dn (cgN 10) (Dn (cgN 11) Ke))) Kf (tev s0 s1 ds one.d oth.d (some o5) s6 s7 s8 s9 s10 s11 s12) =
  .nx (tev s0 s1 ds one.d oth.d (sI (.list [.list (Dd one),.list (Dd oth)])) s6 s7 s8 s9 u10 u11 u12):=by
 obtain⟨v1,f1⟩:=Au4 (s0:=s0) (s1:=s1) (s2:=sF ds) (s3:=sI one.d) (s4:=sI oth.d) (s5:=sI (.list [.list (Dd one),.list (Dd oth)])) (s6:=s6) (s7:=s7) (s8:=s8) (s9:=s9) (s12:=s12) h1;obtain⟨v2,f2⟩:=Au4 (s0:=s0) (s1:=s1) (s2:=sF ds) (s3:=sI one.d) (s4:=sI oth.d) (s5:=sI (.list [.list (Dd one),.list (Dd oth)])) (s6:=s6) (s7:=s7) (s8:=s8) (s9:=s9) (s12:=v1) h2
 generalize Dd one=A at *
 generalize Dd oth=B at *
 generalize one.d=D at *
 generalize oth.d=F at *
 have st:∀(x y:PyData) (s10 s11 s12 v:Option O),Kf [s0,s1,sF ds,sI D,sI F,sI (.list [.list A,.list B]),s6,s7,s8,s9,sI x,sI y,s12]=.nx [s0,s1,sF ds,sI D,sI F,sI (.list [.list A,.list B]),s6,s7,s8,s9,sI x,sI y,v] ->
  Qj (cgT 2 (Dn (cgN 10) (Dn (cgN 11) Ke))) Kf (.tuple [x,y]) (tev s0 s1 ds D F (sI (.list [.list A,.list B])) s6 s7 s8 s9 s10 s11 s12)=.nx (tev s0 s1 ds D F (sI (.list [.list A,.list B])) s6 s7 s8 s9 (sI x) (sI y) v):=λx y s10 s11 s12 v f=>by
  generalize Kf=G at *
  wp_walk using tev,f
 refine⟨_,_,_,(Nj (ds:=[.tuple [D,.list A],.tuple [F,.list B]]) (c1:=tev s0 s1 ds D F (sI (.list [.list A,.list B])) s6 s7 s8 s9 s10 s11 s12) ?_).trans ((Sg (.inl (st _ _ _ _ _ _ f1))).trans ((Sg (.inl (st _ _ _ _ _ _ f2))).trans rfl))⟩
 rcases h5 with rfl | rfl <;> wp_walk using tev,Zh,U.Lq,Om,List.zip_cons_cons,List.zip_nil_left
theorem A8x {n:Nat}{ds:List PyData}{one oth:Tb}{m:Nat}{s0 s1 s7 s8 s9 s10 s11 s12:Option O}(hb:Bx n ds)(hn:n<2 ^ 36)(h1:Tb.Ok one)(h2:Tb.Ok oth){o5:O}(h5:A2v o5 [.list (Dd one),.list (Dd oth)]) :
 ∃d1 u7 u8 u9 u10 u11 u12,Bx (n+6) d1/\Ms (tev s0 s1 ds one.d oth.d (some o5) (sI (.int m)) s7 s8 s9 s10 s11 s12)=.nx (tev s0 s1 d1 one.d oth.d (sI (.list [.list (Dd one),.list (Dd oth)])) (sI (.int m)) u7 u8 u9 u10 u11 u12):=by
 obtain⟨ns,d1,b1,p1,p2,p3,e1⟩:=Br5 hb hn h1 h2;obtain⟨x,hx⟩:=A7a p3;obtain⟨hx1,hx2⟩:=Ah7 hx;obtain⟨r,e2⟩:=A4a (s0:=s0) (s1:=s1) (s2:=sF d1) (s4:=sI oth.d) (s5:=some o5) (s6:=sI (.int m)) (s8:=s8) (s9:=s9) (s10:=s10) (s11:=s11) (s12:=s12) h1 p1 p2 hx;have i2:=B3i x r
 obtain⟨c',e3,u9,rfl⟩:=Ji (g:=cgN 9) (body:=M3) (items:=J4 0 4) (n:=0) (c:=tev s0 s1 d1 one.d oth.d (some o5) (sI (.int m)) (sI (.list (ns.map PyData.str))) (sI (.str x)) s9 s10 s11 s12)
  (P:=λ_ c=>∃u9,c=tev s0 s1 d1 one.d oth.d (some o5) (sI (.int m)) (sI (.list (ns.map PyData.str))) (sI (.str x)) u9 s10 s11 s12) ⟨s9,rfl⟩ (λk d c hd hP=>by
   obtain⟨u9,rfl⟩:=hP;obtain⟨rfl,hk⟩:=K5 hd;have e:=Bh2 (m:=m) (n:=k) (s0:=s0) (s1:=s1) (s2:=sF d1) (s4:=sI oth.d) (s5:=some o5) (s10:=s10) (s11:=s11) (s12:=s12) h1 p1 p2 hx hk
   refine⟨tev s0 s1 d1 one.d oth.d (some o5) (sI (.int m)) (sI (.list (ns.map PyData.str))) (sI (.str x)) (sI (.int (k:Nat))) s10 s11 s12,.inl ?_,_,rfl⟩
   generalize M3=G at *
   generalize one.d=D at *
   wp_walk using tev,Int.zero_add,e)
 have e4:=Bw9 (ds:=d1) (b:=oth.d) (s0:=s0) (s1:=s1) (s5:=some o5) (s6:=sI (.int m)) (s7:=sI (.list (ns.map PyData.str))) (s9:=u9) (s10:=s10) (s11:=s11) (s12:=s12) h1 (p1 x hx1) hx2;obtain⟨u10,u11,u12,e5⟩:=Ba5 (ds:=d1) (s0:=s0) (s1:=s1) (s6:=sI (.int m)) (s7:=sI (.list (ns.map PyData.str))) (s8:=sI (.str x)) (s9:=u9) (s10:=s10) (s11:=s11) (s12:=s12) h1 h2 h5
 refine⟨d1,sI (.list (ns.map PyData.str)),sI (.str x),u9,u10,u11,u12,b1,?_⟩
 unfold Ms
 refine (Ed (c':=tev s0 s1 d1 one.d oth.d (some o5) (sI (.int m)) (sF (ns.map PyData.str)) s8 s9 s10 s11 s12) ?_).trans ?_
 ·generalize one.d=D at *
  generalize oth.d=F at *
  wp_walk using tev,e1
 refine (Ed (c':=tev s0 s1 d1 one.d oth.d (some o5) (sI (.int m)) (sI (.list (ns.map PyData.str))) (sI (.str x)) s9 s10 s11 s12) ?_).trans ?_
 ·generalize hE:cLC [none,some 3] (Ci (cFz (Ab 7))) (cgN 0) (Bf (cOp (J0 true) (Ab 0) (cOp Aq (Ab 1) (cC (.int 0))))) (Ab 0)=E at *
  generalize one.d=D at *
  wp_walk using tev,e2,i2
 refine (Ed ((Nj (fi:=Hc (cC (.int 4))) (ds:=J4 0 4) (c1:=tev s0 s1 d1 one.d oth.d (some o5) (sI (.int m)) (sI (.list (ns.map PyData.str))) (sI (.str x)) s9 s10 s11 s12) rfl).trans e3)).trans ?_
 exact(Ed e4).trans e5
theorem A8w {ns:List Int}{k:Nat}{s1 s2 s3 s4 s5 s6 s7 s8 s9 s10 s11 s12:Option O}(hk:k<=63):∃u2 u3 u4 u5 u6 u7 u8 u9 u10 u11 u12,Qj (cgN 1) Mw (.int (0+(k:Int))) [some (.sc ns),s1,s2,s3,s4,s5,s6,s7,s8,s9,s10,s11,s12]=.nx [some (.sc ns),sI (.int (0+(k:Int))),u2,u3,u4,u5,u6,u7,u8,u9,u10,u11,u12]:=by
 obtain⟨ds,b0,e0⟩:=Bn2 (ns:=ns) hk
 obtain⟨one,d1,h1,b1,e1⟩:=Ph b0 (by decide)
 obtain⟨oth,d2,h2,b2,e2⟩:=Ph b1 (by decide)
 have e3:=A2j h1 h2 (c:=tev (some (.sc ns)) (sI (.int (0+(k:Int)))) d2 one.d oth.d s5 s6 s7 s8 s9 s10 s11 s12) rfl rfl
 obtain⟨c',e4,d3,o5,u6,u7,u8,u9,u10,u11,u12,b3,l5,rfl⟩:=Ji (g:=cgN 6) (body:=Ms) (items:=J4 0 4) (n:=0) (c:=tev (some (.sc ns)) (sI (.int (0+(k:Int)))) d2 one.d oth.d (sF [.list (Dd one),.list (Dd oth)]) s6 s7 s8 s9 s10 s11 s12)
  (P:=λj c=>∃d o5 u6 u7 u8 u9 u10 u11 u12,Bx (0+1004+1004+6*j) d/\A2v o5 [.list (Dd one),.list (Dd oth)]/\c=tev (some (.sc ns)) (sI (.int (0+(k:Int)))) d one.d oth.d (some o5) u6 u7 u8 u9 u10 u11 u12) ⟨d2,_,s6,s7,s8,s9,s10,s11,s12,b2,.inl rfl,rfl⟩ (λj d c hd hP=>by
   rw[Nat.zero_add]at hP ⊢;obtain⟨d,o5,u6,u7,u8,u9,u10,u11,u12,b,l,rfl⟩:=hP;obtain⟨rfl,hj⟩:=K5 hd
   obtain⟨d1,v7,v8,v9,v10,v11,v12,b',e⟩:=A8x (m:=j) (s0:=some (.sc ns)) (s1:=sI (.int (0+(k:Int)))) (s7:=u7) (s8:=u8) (s9:=u9) (s10:=u10) (s11:=u11) (s12:=u12) b (by omega) h1 h2 l
   refine⟨_,.inl ?_,d1,_,sI (.int (j:Nat)),v7,v8,v9,v10,v11,v12,b'.mono (by omega),.inr rfl,rfl⟩
   generalize Ms=G at *
   generalize one.d=D at *
   generalize oth.d=F at *
   have z:(0:Int)+(j:Nat)=(j:Nat):=Int.zero_add _
   wp_walk using tev,z,e)
 refine⟨some (.ls false d3),sI one.d,sI oth.d,some o5,u6,u7,u8,u9,u10,u11,u12,?_⟩
 ·show Mw [some (.sc ns),sI (.int (0+(k:Int))),s2,s3,s4,s5,s6,s7,s8,s9,s10,s11,s12]=_
  unfold Mw
  refine (Ed (c':=[some (.sc ns),sI (.int (0+(k:Int))),sF ds,s3,s4,s5,s6,s7,s8,s9,s10,s11,s12]) (by wp_walk using show (0:Int)+(k:Int)=(k:Int) by omega,e0)).trans ?_
  refine (Ed (c':=tev (some (.sc ns)) (sI (.int (0+(k:Int)))) d2 one.d oth.d s5 s6 s7 s8 s9 s10 s11 s12) (by wp_walk using tev,e1,e2)).trans ?_
  refine (Ed (c':=tev (some (.sc ns)) (sI (.int (0+(k:Int)))) d2 one.d oth.d (sF [.list (Dd one),.list (Dd oth)]) s6 s7 s8 s9 s10 s11 s12) ?_).trans ?_
  ·generalize hE:cLC [none] (Ci (Lp (Ad (Ab 3) (Ad (Ab 4) Av)))) (cgN 0) Bg thE=E at *
   wp_walk using tev,e3
  ·exact(Nj (fi:=Hc (cC (.int 4))) (ds:=J4 0 4) (c1:=tev (some (.sc ns)) (sI (.int (0+(k:Int)))) d2 one.d oth.d (sF [.list (Dd one),.list (Dd oth)]) s6 s7 s8 s9 s10 s11 s12) rfl).trans e4
theorem A3v (ns:List Int)(_:ns.length<=63):Al2 [.sc ns]=.ret (.im (.bool true)) [.sc ns]:=by
 obtain⟨m,hm,em⟩:∃m:Nat,m<=13/\(1:Int)+(if (ns.length:Int)<8 then (ns.length:Int) else 8)=(m:Int):=by
  split
  ·exact⟨1+ns.length,by omega,by omega⟩
  ·exact⟨9,by omega,by omega⟩
 have loop:=Ji (g:=cgN 1) (body:=Mw) (items:=J4 0 m) (n:=0) (c:=[some (.sc ns),none,none,none,none,none,none,none,none,none,none,none,none])
  (P:=λ_ c=>∃a b d e f g h i j l m n,c=[some (.sc ns),a,b,d,e,f,g,h,i,j,l,m,n]) ⟨_,_,_,_,_,_,_,_,_,_,_,_,rfl⟩ (λk d c hd hP=>by
   obtain⟨x1,x2,x3,x4,x5,x6,x7,x8,x9,x10,x11,x12,rfl⟩:=hP;obtain⟨rfl,hk⟩:=K5 hd
   obtain⟨u2,u3,u4,u5,u6,u7,u8,u9,u10,u11,u12,e⟩:=A8w (ns:=ns) (k:=k) (s1:=x1) (s2:=x2) (s3:=x3) (s4:=x4) (s5:=x5) (s6:=x6) (s7:=x7) (s8:=x8) (s9:=x9) (s10:=x10) (s11:=x11) (s12:=x12) (by omega)
   exact⟨_,.inl e,_,_,_,_,_,_,_,_,_,_,_,_,rfl⟩)
 obtain⟨c',e,x1,x2,x3,x4,x5,x6,x7,x8,x9,x10,x11,x12,rfl⟩:=loop
 refine Ub (p:=.o (.im (.bool true))) (c:=[some (.sc ns),x1,x2,x3,x4,x5,x6,x7,x8,x9,x10,x11,x12]) ?_ rfl (by wp_walk using true_and)
 show Am0 [some (.sc ns),none,none,none,none,none,none,none,none,none,none,none,none]=_
 unfold Am0
 refine (Ed ((Nj (ds:=J4 0 m) (c1:=[some (.sc ns),none,none,none,none,none,none,none,none,none,none,none,none]) ?_).trans e)).trans ?_
 ·wp_walk using An7,Ei,em,show (m:Int)<=16000000/\-16000000<=(m:Int) by omega,Int.toNat_natCast
 ·wp_walk using true_and
noncomputable def top (i:Nat):Stmt:=PySem.Challenge.pw_pivotfold_k07_columns_that_arent_there.main.body.getD i (.Pass ⟨0,0,0,0⟩)
abbrev G8:Stmt:=top 13
theorem Oz:Bl ["text"] ["text"] (An G8):={}
abbrev Ol:Stmt:=top 14
theorem Ae2:Bl ["thing"] ["thing"] (An Ol):={}
abbrev Yu:Stmt:=top 15
theorem Bg0:Bl ["value"] ["value"] (An Yu):={}
abbrev Q9:Stmt:=top 19
theorem Al1:Bl ["thing"] ["thing"] (An Q9):={}
abbrev Ka:Stmt:=top 20
theorem Uq:Bl ["thing"] ["thing"] (An Ka):={}
abbrev Ul:Stmt:=top 21
theorem A1y:Bl ["thing", "width"] ["thing", "width"] (An Ul):={}
abbrev Oh:Stmt:=top 22
theorem yF:Bl ["thing", "columns", "rows"] ["thing"] (An Oh):={}
abbrev O6:Stmt:=top 23
theorem yJ:Bl ["table", "name", "columns"] ["table", "name"] (An O6):={}
abbrev Lz:Stmt:=top 24
theorem Ab6:Bl ["table", "names"] ["table", "names"] (An Lz):={}
abbrev Mp:Stmt:=top 25
theorem Z0:Bl ["row", "places"] ["row", "places"] (An Mp):={}
abbrev V3:Stmt:=top 26
theorem yN:Bl ["table", "name", "place"] ["table", "name"] (An V3):={}
abbrev Al3:Stmt:=top 27
theorem yP:Bl ["table", "names", "places"] ["table", "names"] (An Al3):={}
abbrev Mt:Stmt:=top 28
theorem zY:Bl ["table", "names", "places", "rows"] ["table", "names"] (An Mt):={}
abbrev Y6:Stmt:=top 29
theorem zZ:Bl ["table", "names", "places", "groups", "number", "row"] ["table", "names"] (An Y6):={}
abbrev Vt:Stmt:=top 30
theorem A2s:Bl ["table", "names"] ["table", "names"] (An Vt):={}
abbrev Mf:Stmt:=top 32
theorem Zn:Bl [lL, "_law_k"] [lL, "_law_k"] (An Mf):={}
abbrev Zr:Stmt:=top 33
theorem yO:Bl [lL, "_law_k", lM] [lL, "_law_k"] (An Zr):={}
abbrev Wf:Stmt:=top 34
theorem yD:Bl [lH, lK, lP, "_law_once", "_law_twice"] [lH, lK] (An Wf):={}
abbrev Vx:Stmt:=top 35
theorem A1r:Bl [lH, "_law_least", "_law_few", "_law_most"] [lH, "_law_least", "_law_few", "_law_most"] (An Vx):={}
abbrev Ro:Stmt:=top 36
theorem yL:Bl [lH, lK, "_law_some"] [lH, lK] (An Ro):={}
abbrev Ra:Stmt:=top 37
theorem yM:Bl [lH, "_law_way"] [lH] (An Ra):={}
abbrev Vb:Stmt:=top 38
theorem yE:Bl [lH, lK, lP, "_law_turn", "_law_value_here"] [lH, lK] (An Vb):={}
abbrev Rc:Stmt:=top 39
theorem zK:Bl [lH, lK, "_law_rows", lN, "_law_pools", lP, "_law_turn", "_law_row"] [lH, lK, "_law_rows"] (An Rc):={}
abbrev J3:Stmt:=top 40
theorem Uk:Bl [lH] [lH] (An J3):={}
abbrev Pj:Stmt:=top 41
theorem A0y:Bl [lP, "_law_due"] [lP, "_law_due"] (An Pj):={}
abbrev O3:Stmt:=top 42
theorem Ai4:Bl [lM, lJ, lN] [lM, lJ, lN] (An O3):={}
abbrev Mz:Stmt:=top 43
theorem zT:Bl [lM, lJ, lN, "_law_caught", "error"] [lM, lJ, lN] (An Mz):={}
abbrev J7:Stmt:=top 44
theorem zO:Bl [lH, lJ, lR, lP, "_law_absent", "_law_turn"] [lH, lJ, lR] (An J7):={}
abbrev A8e:Stmt:=top 45
theorem zJ:Bl [lL, "_law_k", lH, "_law_one", lR, "_law_told", "_law_turn", lN, "_law_first", lM, lJ, "_law_due", "_law_again"] [lL] (An A8e):={}
section
variable {P:Program}{w:World}{K:PySem.W.Frag}{mg:Str->Option Value}{base:Heap}
theorem O4 {f:Addr}{c:FuncData}(F:Fun K "has_plain_signs" "has_plain_signs" G8 f c) (a:mg "all" = none):FnOk P w K mg base CX0 1 f c ["text"] (spP K Dt):=by
 refine F.ok Oz (λ_ _ _ _=>Dz) (λj A b s H g Q E d h=>?_)
 have k:=d.units;have e:=d.gd
 refine Gu (Aj (Aw (Ga (Kq:=K) rfl rfl rfl a (Af (by exact(Jz (N':=["sign"]) (idx:=[none]) Ep rfl (A6i (qv 0)) (λ_ _ _ _ _=>by exact(Br (i:=0) (by grind) rfl (Or.inl rfl))) qtN (λ_ _ _ _ _=>by exact(Ru (Bk2 Rg (qv 0)) (R9 (Bk2 (qv 0) Rg)))))) Ae)))) ?_
 exact Ea (Az (Cp (Gx (by decide) (A6o Aa) Al Fd (Nr (Ak (Ar rfl) Aa A5r) (Ak Aa (Ar rfl) A5r))) M8)) h
theorem Ah2 {f:Addr}{j:FuncData}(F:Fun K "is_value" "is_value" Ol f j) (b:Def P w K mg base "has_plain_signs" 1 ["text"] (spP K Dt)) (c:mg "bool" = none) (d:mg "int" = none) (a:mg "isinstance" = none) (e:mg "str" = none):FnOk P w K mg base CX0 2 f j ["thing"] (spP K De):=by
 refine F.ok Ae2 (λ_ _ _ _=>Dz) (λk A g s H m Q E i h=>?_)
 have n:=i.units;have l:=i.gd
 refine Gu (Ah (Di (Dw (Be (Kq:=K) rfl rfl a (Af (qv 0) (Af (Cg (v:=.ty "bool") rfl c T3 rfl) Ae)))) (Aj (Aw Jc)) Bk)
  (Ah (Di (Dw (Be (Kq:=K) rfl rfl a (Af (qv 0) (Af (Cg (v:=.ty "str") rfl e Rx rfl) Ae)))) (Aj (Aw (Ck b i (Af (qv 0) Ae)))) Bk)
  (Aj (Aw (B1n (A2q (qv 0) Ot) (R9 (Be (Kq:=K) rfl rfl a (Af (qv 0) (Af (Cg (v:=.ty "int") rfl d Ze rfl) Ae))))))))) ?_
 exact Ea (Ba (Ec (Jp (Eg .bool Aa)) (Az (Ar rfl)) Bj)
  (Ba (Ec (Jp (Eg _ Aa)) (Az (Bb (Ac Aa Am))) Bj)
  (Az (Bm6 (Ak Aa (Ar rfl) Zk) (Eg _ Aa))))) h
theorem A9f {n:Nat}{f:Addr}{k:FuncData}(F:Fun K "rank" "rank" Yu f k) (c:Def P w K mg base "rank" (n) ["value"] (spP K (G5 n))) (d:mg "int" = none) (a:mg "isinstance" = none) (e:mg "str" = none) (b:mg "tuple" = none):FnOk P w K mg base CX0 (n+1) f k ["value"] (spP K (G5 (n+1))):=by
 refine F.ok Bg0 (λ_ _ _ _=>Dz) (λl A g s H o Q E j h=>?_)
 have p:=j.units;have m:=j.gd
 refine Gu (Ah (Di (Rr (qv 0) Ot) (Aj (Aw (Gv (Af Ai (Af Ai Ae))))) Bk)
  (Ah (Di (Dw (Be (Kq:=K) rfl rfl a (Af (qv 0) (Af (Cg (v:=.ty "int") rfl d Ze rfl) Ae)))) (Aj (Aw (Gv (Af Ai (Af (qv 0) Ae))))) Bk)
  (Ah (Di (Dw (Be (Kq:=K) rfl rfl a (Af (qv 0) (Af (Cg (v:=.ty "str") rfl e Rx rfl) Ae)))) (Aj (Aw (Gv (Af Ai (Af (qv 0) Ae))))) Bk)
  (Aj (Aw (Gv (Af Ai (Af (By (Kq:=K) rfl rfl b (Af (by exact(Jz (N':=["each"]) (idx:=[none]) Ep rfl (Hg (Kq:=K) rfl (qv 0)) (λ_ _ _ _ _=>by exact(Br (i:=0) (by grind) rfl (Or.inl rfl))) qtN (λ_ _ _ _ _=>by exact(Ck c j (Af (qv 0) Ae))))) Ae)) Ae)))))))) ?_
 exact Ea (Ba (Ec (Bs (Ak Aa (Ar rfl) Zk)) (Az (Jj (Ac (Ar rfl) (Ac (Ar rfl) Am)))) Bj)
  (Ba (Ec (Jp (Eg .int Aa)) (Az (Jj (Ac (Ar rfl) (Ac Aa Am)))) Bj)
  (Ba (Ec (Jp (Eg .str Aa)) (Az (Jj (Ac (Ar rfl) (Ac Aa Am)))) Bj)
  (Az (Jj (Ac (Ar rfl) (Ac (Cp (Gx (by decide) (G9 Aa) Al Fd (Bb (Ac Aa Am))) Ha) Am))))))) h
theorem Aj6 (F:Fun K "rank" "rank" Yu f fd) (bF:Binds K fd ["value"] []) (mF:mg "rank" = some (.ref f)) (zR:mg "int" = none) (z7:mg "isinstance" = none) (zM:mg "str" = none) (z8:mg "tuple" = none):∀n:Nat,FnOk P w K mg base CX0 (n) f fd ["value"] (spP K (G5 n))
 | 0=>A3u
 | n+1=>A9f F ⟨f,fd,Aj6 F bF mF zR z7 zM z8 n,bF,F.kp,mF⟩ zR z7 zM z8
theorem Ap8 {f:Addr}{o:FuncData}(F:Fun K "is_name" "is_name" Q9 f o) (l:mg "all" = none) (d:mg "isinstance" = none) (m:mg "len" = none) (k:mg "str" = none) (e:∃t,mg "LETTERS" = some (Value.str "abcdefghijklmnopqrstuvwxyz" t)) (a:∃t,mg "LONGEST_NAME" = some (Value.int 8 t)):FnOk P w K mg base CX0 1 f o ["thing"] (spP K Cy):=by
 obtain⟨g,j⟩:=e;obtain⟨b,c⟩:=a
 refine F.ok Al1 (λ_ _ _ _=>Dz) (λu A n s H r Q E q h=>?_)
 have p:=q.units;have x:=q.gd
 refine Gu (Ah (Di (QW.qt (Nz (Gw (Dw (Be (Kq:=K) rfl rfl d (Af (qv 0) (Af (Cg (v:=.ty "str") rfl k Rx rfl) Ae))))) (Nz (Ny p (qv 0) Rg) (Kw (Ag9 (Fo (Kq:=K) rfl rfl m (Af (qv 0) Ae)) (Av2 (v:=.int 8) rfl c ⟨b,rfl⟩)))))) (Aj (Aw Jc)) Bk)
  (Aj (Aw (Ga (Kq:=K) rfl rfl rfl l (Af (by exact(Jz (N':=["sign"]) (idx:=[none]) Ep rfl (A6i (qv 0)) (λ_ _ _ _ _=>by exact(Br (i:=0) (by grind) rfl (Or.inl rfl))) qtN (λ_ _ _ _ _=>by exact(B2r p (qv 0) (Av2 (v:=.str "abcdefghijklmnopqrstuvwxyz") rfl j ⟨g,rfl⟩) (by rfl))))) Ae))))) ?_
 exact Ea (Ba (Ec (N8 (G6 (Jp (Eg .str Aa))) (N8 (Bs (Ak Aa (Ar rfl) Fj)) (Bs (Ak (Fl Aa) (Ar rfl) A6k)))) (Az (Ar rfl)) Bj)
  (Az (Cp (Gx (by decide) (A6o Aa) Al Fd (Ak Aa (Ar rfl) Bq7)) M8))) h
theorem V7 {f:Addr}{l:FuncData}(F:Fun K "are_columns" "are_columns" Ka f l) (b:Def P w K mg base "is_name" 1 ["thing"] (spP K Cy)) (g:mg "all" = none) (a:mg "isinstance" = none) (c:mg "len" = none) (e:mg "set" = none) (d:mg "tuple" = none):FnOk P w K mg base CX0 2 f l ["thing"] (spP K Bm):=by
 refine F.ok Uq (λ_ _ _ _=>Dz) (λn A j s H o Q E k h=>?_)
 have m:=k.units;have p:=k.gd
 refine Gu (Ah (Di (QW.qt (Nz (Gw (Dw (Be (Kq:=K) rfl rfl a (Af (qv 0) (Af (Cg (v:=.ty "tuple") rfl d G7 rfl) Ae))))) (Kw (Ny m (Fo (Kq:=K) rfl rfl c (Af (qv 0) Ae)) Ai)))) (Aj (Aw Jc)) Bk)
  (Ah (Di (Gw (Dw (Ga (Kq:=K) rfl rfl rfl g (Af (by exact(Jz (N':=["name"]) (idx:=[none]) Ep rfl (Hg (Kq:=K) rfl (qv 0)) (λ_ _ _ _ _=>by exact(Br (i:=0) (by grind) rfl (Or.inl rfl))) qtN (λ_ _ _ _ _=>by exact(Ck b k (Af (qv 0) Ae))))) Ae)))) (Aj (Aw Jc)) Bk)
  (Aj (Aw (Ut m (Am2 (Kq:=K) rfl rfl rfl e rfl c (qv 0)) (Fo (Kq:=K) rfl rfl c (Af (qv 0) Ae))))))) ?_
 exact Ea (Ba (Ec (N8 (G6 (Jp (Eg .tuple Aa))) (Bs (Ak (Fl Aa) (Ar rfl) Fj))) (Az (Ar rfl)) Bj)
  (Ba (Ec (G6 (Jp (Cp (Gx (by decide) (G9 Aa) Al Fd (Bb (Ac Aa Am))) M8))) (Az (Ar rfl)) Bj)
  (Az (Ak (Az4 Aa) (Fl Aa) Fj)))) h
theorem Az1 {f:Addr}{k:FuncData}(F:Fun K "is_row" "is_row" Ul f k) (b:Def P w K mg base "is_value" 2 ["thing"] (spP K De)) (e:mg "all" = none) (a:mg "isinstance" = none) (d:mg "len" = none) (c:mg "tuple" = none):FnOk P w K mg base CX0 3 f k ["thing", "width"] (spP K Dp):=by
 refine F.ok A1y (λ_ _ _ _=>Dz) (λl A g s H n Q E j h=>?_)
 have m:=j.gd
 refine Gu (Ah (Di (QW.qt (Nz (Gw (Dw (Be (Kq:=K) rfl rfl a (Af (qv 0) (Af (Cg (v:=.ty "tuple") rfl c G7 rfl) Ae))))) (Kw (Ad5 j.units (Fo (Kq:=K) rfl rfl d (Af (qv 0) Ae)) (qv 1))))) (Aj (Aw Jc)) Bk)
  (Aj (Aw (Ga (Kq:=K) rfl rfl rfl e (Af (by exact(Jz (N':=["value"]) (idx:=[none]) Ep rfl (Hg (Kq:=K) rfl (qv 0)) (λ_ _ _ _ _=>by exact(Br (i:=0) (by grind) rfl (Or.inl rfl))) qtN (λ_ _ _ _ _=>by exact(Ck b j (Af (qv 0) Ae))))) Ae))))) ?_
 exact Ea (Ba (Ec (N8 (G6 (Jp (Eg .tuple Aa))) (Bs (Ak (Fl Aa) Aa Vj))) (Az (Ar rfl)) Bj)
  (Az (Cp (Gx (by decide) (G9 Aa) Al Fd (Bb (Ac Aa Am))) M8))) h
theorem Ag1 (F:Fun K "is_table" "is_table" Oh f fd) (m5:Def P w K mg base "are_columns" 2 ["thing"] (spP K Bm)) (j9:Def P w K mg base "is_row" 3 ["thing", "width"] (spP K Dp)) (zP:mg "all" = none) (z7:mg "isinstance" = none) (zA:mg "len" = none) (z8:mg "tuple" = none):FnOk P w K mg base CX0 4 f fd ["thing"] (spP K Bh):=by
 refine F.ok yF (λ_ _ _ _=>Dz) (λcdv A outer s H vs Q E hr h=>?_)
 have hu:=hr.units;have hgd:=hr.gd
 refine Gu (Ah (Di (QW.qt (Nz (Gw (Dw (Be (Kq:=K) rfl rfl z7 (Af (qv 0) (Af (Cg (v:=.ty "tuple") rfl z8 G7 rfl) Ae))))) (Kw (Ad5 hu (Fo (Kq:=K) rfl rfl zA (Af (qv 0) Ae)) Ai)))) (Aj (Aw Jc)) Bk)
  (Ah (Df (i:=1) yF.nd (Ce (Kq:=K) rfl (qv 0) Ai Bo))
  (Ah (Df (i:=2) yF.nd (Ce (Kq:=K) rfl (qv 0) Ai Bo))
  (Ah (Di (QW.qt (Nz (Gw (Dw (Ck m5 hr (Af (qv 1) Ae)))) (Kw (Gw (Dw (Be (Kq:=K) rfl rfl z7 (Af (qv 2) (Af (Cg (v:=.ty "tuple") rfl z8 G7 rfl) Ae)))))))) (Aj (Aw Jc)) Bk)
  (Aj (Aw (Ga (Kq:=K) rfl rfl rfl zP (Af (by exact(Jz (N':=["row", "columns"]) (idx:=[none,some 1]) Ep rfl (Hg (Kq:=K) rfl (qv 2)) (λ_ _ _ _ _=>by exact(Br (i:=0) (by show (["row", "columns"]:List Str).Nodup;decide +kernel))) qtN (λ_ _ _ _ _=>by exact(Ck j9 hr (Af (qv 0) (Af (Fo (Kq:=K) rfl rfl zA (Af (qv 1) Ae)) Ae)))))) Ae)))))))) ?_
 exact Ea (Ba (Ec (N8 (G6 (Jp (Eg .tuple Aa))) (Bs (Ak (Fl Aa) (Ar rfl) Vj))) (Az (Ar rfl)) Bj)
  (Ba (Cv (Ak Aa (Ar rfl) Bp) Al)
  (Ba (Cv (Ak Aa (Ar rfl) Bp) Al)
  (Ba (Ec (N8 (G6 (Jp (Bb (Ac Aa Am)))) (G6 (Jp (Eg .tuple Aa)))) (Az (Ar rfl)) Bj)
  (Az (Cp (Gx (by decide) (G9 Aa) Al Fd (Bb (Ac Aa (Ac (Fl Aa) Am)))) M8)))))) h
theorem Ah9 (F:Fun K "place_of" "place_of" O6 f fd) (d8:ClI K mg ⟨"NoColumn.__init__", "FoldError", "name", "name", "no column ", ""⟩ "NoColumn"):FnOk P w K mg base (CXe P w) 3 f fd ["table", "name"] (spX K Bv):=by
 have n6:=A6c d8;obtain⟨aA6,aC3,aA7,o7,p0,o8,n5,n8,n7,n4,n9,m9,o3⟩:=d8
 refine F.okX yJ (λvs H Q E h=>Js h) (λcdv A outer s H vs Q E hr h=>?_)
 have hu:=hr.units;have hgd:=hr.gd
 refine Gu (Ah (Df (i:=2) yJ.nd (Ce (Kq:=K) rfl (qv 0) Ai Bo))
  (Ah (Di (Im hu (qv 1) (qv 2) (by with_unfolding_all rfl)) (Aj (A0u A1d rfl rfl n5 n7.2 n4 n9 m9 (o3 _ _ _) (hr.mono (by omega)) (qv 1))) Bk)
  (Aj (Aw (At7 (Kq:=K) rfl PySem.F.plainAttrs_tuple PySem.F.slot_tuple_index PySem.F.type_tuple_index (Aq4 rfl) (qv 2) (Af (qv 1) Ae)))))) ?_
 exact Jw (Hx (Fg (Cv (Ak Aa (Ar rfl) Bp) Al))
  (Hx (Yb (Bs (Ak Aa Aa M6)) (Ay1 n8 Aa) (Fg Bj))
  (Fg (Az (B0v Aa Aa Br7 Az0))))) h
abbrev yT3 (P w K mg base):=DefX P w K mg base "place_of" 3 ["table", "name"] (spX K Bv)
theorem Z8 (F:Fun K "places_of" "places_of" Lz f fd) (c7:yT3 P w K mg base):FnOk P w K mg base (CXe P w) 4 f fd ["table", "names"] (spX K Dm):=by
 refine F.okX Ab6 (λvs H Q E h=>Js h) (λcdv A outer s H vs Q E hr h=>?_)
 have hu:=hr.units;have hgd:=hr.gd
 refine Gu (Aj (Aw (by exact(Bt6 (N':=["name", "table"]) (idx:=[none,some 0]) Ep rfl (Hg (Kq:=K) rfl (qv 1)) (λ_ _ _ _ _=>by exact(Br (i:=0) (by show (["name", "table"]:List Str).Nodup;decide +kernel))) qtN (λ_=>A8p) (λ_ _ _ _ _=>by exact(Bl3 A1i c7 hr (Af (qv 1) (Af (qv 0) Ae)))))))) ?_
 exact Jw (A2o (F:=Bv) (vs:=[]) (by decide) (G9 Aa) Al Fd (Ac Aa (Ac Aa Am)) (Az (N6 (Gx (by decide) (G9 Aa) Al Fd (Xv (Ac Aa (Ac Aa Am)))))) (λσ H D hb hq=>by exact hq _)) h
theorem Zy (F:Fun K "values_at" "values_at" Mp f c) (a:mg "tuple" = none):FnOk P w K mg base CX0 1 f c ["row", "places"] (spP K Cz):=by
 refine F.ok Z0 (λ_ _ _ _=>Dz) (λj A b s H g Q E d h=>?_)
 have k:=d.units;have e:=d.gd
 refine Gu (Aj (Aw (By (Kq:=K) rfl rfl a (Af (by exact(Jz (N':=["place", "row"]) (idx:=[none,some 0]) Ep rfl (Hg (Kq:=K) rfl (qv 1)) (λ_ _ _ _ _=>by exact(Br (i:=0) (by show (["place", "row"]:List Str).Nodup;decide +kernel))) qtN (λ_ _ _ _ _=>by exact(Ce (Kq:=K) rfl (qv 1) (qv 0) Oi)))) Ae)))) ?_
 exact Ea (Az (Cp (Gx (by decide) (G9 Aa) Al Fd (Ak Aa Aa Bp)) Ha)) h
theorem Az2 (F:Fun K "column" "column" V3 f fd) (c7:yT3 P w K mg base):FnOk P w K mg base (CXe P w) 4 f fd ["table", "name"] (spX K Hk):=by
 obtain⟨aG1,aF3,t9,aD6,aD7,t6⟩:=c7
 refine F.okX yN (λvs H Q E h=>Js h) (λcdv A outer s H vs Q E hr h=>?_)
 have hu:=hr.units;have hgd:=hr.gd
 refine Gu (Ah (Df (i:=2) yN.nd (Ew t9 (hr.mono (by omega)) rfl t6 aD7 aD6 .nil Ez (Af (qv 0) (Af (qv 1) Ae))))
  (Aj (Aw (by exact(Jz (N':=["row", "place"]) (idx:=[none,some 2]) Ep rfl (Hg (Kq:=K) rfl (Ce (Kq:=K) rfl (qv 0) Ai Bo)) (λ_ _ _ _ _=>by exact(Br (i:=0) (by show (["row", "place"]:List Str).Nodup;decide +kernel))) qtN (λ_ _ _ _ _=>by exact(Ce (Kq:=K) rfl (qv 0) (qv 1) Oi))))))) ?_
 exact Jw (Hx (Tq (Ac Aa (Ac Aa Am)))
  (Fg (Az (N6 (Gx (by decide) (G9 (Ak Aa (Ar rfl) Bp)) Al Fd (Ak Aa Aa Bp)))))) h
abbrev yT1 (P w K mg base):=DefX P w K mg base "places_of" 4 ["table", "names"] (spX K Dm)
abbrev yT2 (P w K mg base):=Def P w K mg base "values_at" 1 ["row", "places"] (spP K Cz)
theorem Bb8 (F:Fun K "kept" "kept" Al3 f fd) (a7:yT1 P w K mg base) (a6:yT2 P w K mg base) (z8:mg "tuple" = none):FnOk P w K mg base (CXe P w) 5 f fd ["table", "names"] (spX K Jq):=by
 obtain⟨m7,m8,d7,c9,d6,d9⟩:=a7
 refine F.okX yP (λvs H Q E h=>Js h) (λcdv A outer s H vs Q E hr h=>?_)
 have hu:=hr.units;have hgd:=hr.gd
 refine Gu (Ah (Df (i:=2) yP.nd (Ew d7 (hr.mono (by omega)) rfl d9 d6 c9 .nil Ez (Af (qv 0) (Af (qv 1) Ae))))
  (Aj (Aw (Gv (Af (By (Kq:=K) rfl rfl z8 (Af (qv 1) Ae)) (Af (By (Kq:=K) rfl rfl z8 (Af (by exact(Jz (N':=["row", "places"]) (idx:=[none,some 2]) Ep rfl (Hg (Kq:=K) rfl (Ce (Kq:=K) rfl (qv 0) Ai Bo)) (λ_ _ _ _ _=>by exact(Br (i:=0) (by show (["row", "places"]:List Str).Nodup;decide +kernel))) qtN (λ_ _ _ _ _=>by exact(Ck a6 hr (Af (qv 0) (Af (qv 1) Ae)))))) Ae)) Ae)))))) ?_
 exact Jw (Hx (Tq (Ac Aa (Ac Aa Am)))
  (Fg (Az (Jj (Ac (Cp Aa Ha) (Ac (Cp (Gx (by decide) (G9 (Ak Aa (Ar rfl) Bp)) Al Fd (Bb (Ac Aa (Ac Aa Am)))) Ha) Am)))))) h
theorem Ab1 (F:Fun K "sorted_by" "sorted_by" Mt f fd) {c_ T_:Addr} (hT_:(T_,("sorted_by" : Str) ++ ".<locals>." ++ "<lambda>")∈Dv K) (hC_:PySem.W.codeHdIn K c_ T_=true) (hD_:fd.code=.ref c_) (l6:Def P w K mg base "rank" 2 ["value"] (spP K (G5 2))) (a7:yT1 P w K mg base) (a6:yT2 P w K mg base) (yK:mg "sorted" = none) (z8:mg "tuple" = none):FnOk P w K mg base (CXe P w) 6 f fd ["table", "names"] (spX K Eb):=by
 obtain⟨m7,m8,d7,c9,d6,d9⟩:=a7
 refine F.okXL zY (λvs H Q E h=>Js h) (λcdv A outer s H vs Q E hcd_ hr h=>?_)
 have hu:=hr.units;have hgd:=hr.gd
 refine Gu (Ah (Df (i:=2) zY.nd (Ew d7 (hr.mono (by omega)) rfl d9 d6 c9 .nil Ez (Af (qv 0) (Af (qv 1) Ae))))
  (Ah (Df (i:=3) zY.nd (A4j (Kq:=K) rfl (k:=2) (x := "row") (N':=["places"]) (idx:=[some 2]) hT_ hC_ (hcd_.symm.trans hD_) hr rfl yK (Af (Ce (Kq:=K) rfl (qv 0) Ai Bo) Ae) ⟨Ep,by decide +kernel⟩ (λ_ _ _ _ _ hr=>by have hu:=hr.units;have hgd:=hr.gd;exact(Ck l6 hr (Af (Ck a6 hr (Af (qv 0) (Af (qv 1) Ae))) Ae)))))
  (Aj (Aw (Gv (Af (Ce (Kq:=K) rfl (qv 0) Ai Bo) (Af (By (Kq:=K) rfl rfl z8 (Af (qv 3) Ae)) Ae))))))) ?_
 exact Jw (Hx (Tq (Ac Aa (Ac Aa Am)))
  (Hx (Fg (Cv (Bf3 (js:=[2]) (F:=Dg) (Ak Aa (Ar rfl) Bp) (Bg5 (Bb (Ac (Bb (Ac Aa (Ac Aa Am))) Am)) ["row", "places"] rfl)) Al))
  (Fg (Az (Jj (Ac (Ak Aa (Ar rfl) Bp) (Ac (Cp Aa Ha) Am))))))) h
theorem A6p (F:Fun K "alike" "alike" Y6 f fd) (a7:yT1 P w K mg base) (a6:yT2 P w K mg base) (yG:mg "enumerate" = none) (zF:mg "list" = none):FnOk P w K mg base (CXe P w) 5 f fd ["table", "names"] (spX K Ex):=by
 obtain⟨m7,m8,d7,c9,d6,d9⟩:=a7
 refine F.okX zZ (λvs H Q E h=>Js h) (λcdv A outer s H vs Q E hr h=>?_)
 have hu:=hr.units;have hgd:=hr.gd
 refine Gu (Ah (Df (i:=2) zZ.nd (Ew d7 (hr.mono (by omega)) rfl d9 d6 c9 .nil Ez (Af (qv 0) (Af (qv 1) Ae))))
  (Ah (Df (i:=3) zZ.nd A5o) (Bs3 (d:=3) (Mq PassesOwn.leaving rfl (Bc5 rfl yG (Af (Ce (Kq:=K) rfl (qv 0) Ai Bo) Ae)) (Zm (Kq:=K) rfl (n:=2) rfl (Hq (Br (i:=4) zZ.nd) (Hq (Br (i:=5) zZ.nd) T5))) (Aj (Tw (Rm (Kq:=K) rfl (Bd7 hu (qv 3) (Ck a6 hr (Af (qv 5) (Af (qv 2) Ae))) (Jo Ae) ⟨rfl,rfl,rfl,rfl⟩) (qv 4)))))
  (Aj (Aw (A8f rfl rfl zF (qv 3))))))) ?_
 exact Jw (Hx (Tq (Ac Aa (Ac Aa Am)))
  (Fg (A4k (Bq6 (Bc2 (Ak Aa (Ar rfl) Bp)) (Y9 (Hu Al (Hu Al Tp))) (Bi9 (Ah6 (Ae4 (by decide)) Oe (Ah6 (Ae4 (by decide)) Oe A9w Xx) (An1 Oe Xx))) (Bo5 (Bb (Ac Aa (Ac Aa Am))) Aa))
  (Az (N6 (A5i Aa)))))) h
abbrev yT4 (P w K mg base):=DefX P w K mg base "alike" 5 ["table", "names"] (spX K Ex)
theorem A0f (F:Fun K "is_key" "is_key" Vt f fd) (l9:Def P w K mg base "is_table" 4 ["thing"] (spP K Bh)) (c8:yT4 P w K mg base) (z7:mg "isinstance" = none) (zA:mg "len" = none) (zF:mg "list" = none) (z8:mg "tuple" = none):FnOk P w K mg base (CXe P w) 6 f fd ["table", "names"] (spX K Gs):=by
 refine F.okX A2s (λvs H Q E h=>Js h) (λcdv A outer s H vs Q E hr h=>?_)
 have hu:=hr.units;have hgd:=hr.gd
 refine Gu (Ah (Di (QW.qt (Nz (Gw (Dw (Ck l9 hr (Af (qv 0) Ae)))) (Kw (Gw (Dw (Qh (Kq:=K) rfl rfl z7 (Af (qv 1) (Af (Gv (Af (Cg (v:=.ty "list") rfl zF Ni rfl) (Af (Cg (v:=.ty "tuple") rfl z8 G7 rfl) Ae))) Ae)))))))) (Aj (Aw Jc)) Bk)
  (Aj (Aw (Ut hu (Fo (Kq:=K) rfl rfl zA (Af (Bl3 Ez c8 hr (Af (qv 0) (Af (qv 1) Ae))) Ae)) (Fo (Kq:=K) rfl rfl zA (Af (Ce (Kq:=K) rfl (qv 0) Ai Bo) Ae)))))) ?_
 exact Jw (Hx (Yb (N8 (G6 (Jp (Bb (Ac Aa Am)))) (G6 (Jp (Ar4 .list .tuple Aa)))) (Fg (Az (Ar rfl))) (Fg Bj))
  (A5k (F:=Ex) (vs:=[]) (Ac Aa (Ac Aa Am)) (Az (Ak (Fl (Xv (Ac Aa (Ac Aa Am)))) (Fl (Ak Aa (Ar rfl) Bp)) Fj)) (λσ H D hb hq=>by exact hq _))) h
theorem Zb (F:Fun K "_law_cell_at" "_law_cell_at" Mf f c) (a:mg "len" = none):FnOk P w K mg base CX0 1 f c [lL, "_law_k"] (spP K Fw):=by
 refine F.ok Zn (λ_ _ _ _=>Dz) (λi A b s H g Q E d h=>?_)
 have j:=d.units;have e:=d.gd
 refine Gu (Ah (Di (Af2 (qv 1) (Fo rfl rfl a (Af (qv 0) Ae))) (Aj (Aw (Bj3 (show IxR _ _ from Bm3) (qv 0) (qv 1) Oi))) Bk)
  (Aj (Aw Ai))) ?_
 exact Ea (Ba (Ec (Bs (Ak Aa (Fl Aa) Ar5)) (Az (Bs1 Aa Aa)) Bj)
  (Az (Ar rfl))) h
theorem A5b {f:Addr}{g:FuncData}(F:Fun K "_law_box" "_law_box" Zr f g) (a:Def P w K mg base "_law_cell_at" 1 [lL, "_law_k"] (spP K Fw)) (b:mg "abs" = none) (c:mg "int" = none):FnOk P w K mg base CX0 2 f g [lL, "_law_k"] (spP K Lw):=by
 refine F.ok yO (λ_ _ _ _=>Dz) (λl A e s H k Q E d h=>?_)
 have m:=d.units;have j:=d.gd
 refine Gu (Ah (Df (i:=2) yO.nd (Ck a d (Af (qv 0) (Af (qv 1) Ae))))
  (Aj (Aw (Jo (Af (Ip (Sy (Kq:=K) rfl rfl b (Af (qv 2) Ae)) (Ab4 (Kq:=K) rfl rfl c (Af (A5w (Sy (Kq:=K) rfl rfl b (Af (qv 2) Ae)) (Rv Ai Ai)) Ae))) (Af (Gd (Gd (Gn (qv 2) Ai) (Ip Ai (qv 1))) Ai) (Af Ai Ae))))))) ?_
 exact Ea (Ba (Cv (Bb (Ac Aa (Ac Aa Am))) Al)
  (Az (J1 (Ac (Ak (Cp Aa Aw5) (Cp (Ak (Cp Aa Aw5) (Ak (Ar rfl) (Ar rfl) Ab0) Bp8) Bg1) Kc) (Ac (Ak (Ak (Ak Aa (Ar rfl) Jx) (Ak (Ar rfl) Aa Kc) En) (Ar rfl) En) (Ac (Ar rfl) Am)))))) h
theorem A0q (F:Fun K "_law_take" "_law_take" Wf f b):FnOk P w K mg base CX0 1 f b [lH, lK] (spP K Ao):=by
 refine F.ok yD (λ_ _ _ _=>Dz) (λg A a s H d Q E c h=>?_)
 have j:=c.units;have e:=c.gd
 refine Gu (Ah (Di (Ag9 (Ce (Kq:=K) rfl (qv 0) Ai Bo) Ai) (Ah (Df (i:=2) yD.nd (Gn (Ce (Kq:=K) rfl (qv 0) Ai Bo) (qv 1)))
  (Ah (Ao6 (Uz (Ce (Kq:=K) rfl (qv 0) Ai Bo) (qv 1)) (A3d (qv 0) Ai set_list))
  (Aj (Aw (qv 2))))) Bk)
  (Ah (Ao6 (Gd (Ce (Kq:=K) rfl (qv 0) Ai Bo) Ai) (A3d (qv 0) Ai set_list))
  (Ah (Df (i:=3) yD.nd (Gn (Ip (Gd (Ce (Kq:=K) rfl (qv 0) Ai Bo) (Ip Ai (Ce (Kq:=K) rfl (qv 0) Ai Bo))) (Gd Ai (Ce (Kq:=K) rfl (qv 0) Ai Bo))) Ai))
  (Ah (Df (i:=4) yD.nd (Gn (Ip (Gd (qv 3) (Ce (Kq:=K) rfl (qv 0) Ai Bo)) (Gd (Gn (qv 3) Ai) Ai)) Ai))
  (Aj (Aw (Gn (Uz (Gn (Gd (Ip (qv 4) Ai) (qv 3)) Ai) Ai) (qv 1)))))))) ?_
 exact Ea (Ba (Ec (Bs (Ak (Ak Aa (Ar rfl) Bp) (Ar rfl) A6k)) (Ba (Cv (Ak (Ak Aa (Ar rfl) Bp) Aa Jx) Al)
  (Ba (Cv (Ak (Ak Aa (Ar rfl) Bp) Aa Ai3) (A4w Aa (Ar rfl)))
  (Az Aa))) Bj)
  (Ba (Cv (Ak (Ak Aa (Ar rfl) Bp) (Ar rfl) En) (A4w Aa (Ar rfl)))
  (Ba (Cv (Ak (Ak (Ak (Ak Aa (Ar rfl) Bp) (Ak (Ar rfl) (Ak Aa (Ar rfl) Bp) Kc) En) (Ak (Ar rfl) (Ak Aa (Ar rfl) Bp) En) Kc) (Ar rfl) Jx) Al)
  (Ba (Cv (Ak (Ak (Ak Aa (Ak Aa (Ar rfl) Bp) En) (Ak (Ak Aa (Ar rfl) Jx) (Ar rfl) En) Kc) (Ar rfl) Jx) Al)
  (Az (Ak (Ak (Ak (Ak (Ak Aa (Ar rfl) Kc) Aa En) (Ar rfl) Jx) (Ar rfl) Ai3) Aa Jx)))))) h
abbrev yT0 (P w K mg base):=Def P w K mg base "_law_take" 1 [lH, lK] (spP K Ao)
theorem A1o {f:Addr}{d:FuncData}(F:Fun K "_law_many" "_law_many" Vx f d) (a:yT0 P w K mg base):FnOk P w K mg base CX0 2 f d [lH, "_law_least", "_law_few", "_law_most"] (spP K Hh):=by
 refine F.ok A1r (λ_ _ _ _=>Dz) (λi A c s H g Q E b h=>?_)
 have e:=b.gd
 refine Gu (Ah (Di (Ny b.units (Ck a b (Af (qv 0) (Af Ai Ae))) Ai) (Aj (Aw (Gd Ai (Ck a b (Af (qv 0) (Af (Kr (qv 3) Ai) Ae)))))) Bk)
  (Aj (Aw (Gd (qv 1) (Ck a b (Af (qv 0) (Af (Gd (Kr (qv 2) (qv 1)) Ai) Ae))))))) ?_
 exact Ea (Ba (Ec (Bs (Ak (Bb (Ac Aa (Ac (Ar rfl) Am))) (Ar rfl) Fj)) (Az (Ak (Ar rfl) (Bb (Ac Aa (Ac (Ak Aa (Ar rfl) Py) Am))) En)) Bj)
  (Az (Ak Aa (Bb (Ac Aa (Ac (Ak (Ak Aa Aa Py) (Ar rfl) En) Am))) En))) h
theorem Ap0 {f:Addr}{m:FuncData}(F:Fun K "_law_names" "_law_names" Ro f m) (d:yT0 P w K mg base) (g:mg "len" = none) (e:mg "range" = none):FnOk P w K mg base CX0 2 f m [lH, lK] (spP K Ja):=by
 refine F.ok yL (λ_ _ _ _=>Dz) (λn A j s H l Q E k h=>?_)
 have p:=k.units;have o:=k.gd
 refine Gu (Ah (Df (i:=2) yL.nd (Jo (Ng (vs:=[.str "b",.str "a",.str "year",.str "z",.str "ab",.str "month",.str "aa",.str "quantity",.str "c",.str "town",.str "zz",.str "ba"]) rfl)))
  (Aj (Aw (by exact(Jz (N':=["_law_turn", "_law_some", lH]) (idx:=[none,some 2,some 0]) Ep rfl (Fv rfl e (Af (qv 1) Ae)) (λ_ _ _ _ _=>by exact(Br (i:=0) (by show (["_law_turn", "_law_some", lH]:List Str).Nodup;decide +kernel))) qtN (λ_ _ _ _ _=>by exact(At7 (Kq:=K) rfl PySem.F.plainAttrs_list PySem.F.slot_list_pop PySem.F.type_list_pop Ae1 (qv 1) (Af (Ck d k (Af (qv 2) (Af (Fo (Kq:=K) rfl rfl g (Af (qv 1) Ae)) Ae))) Ae)))))))) ?_
 exact Ea (Ba (Cv (J1 (Bd3 rfl)) Al)
  (Az (Gx (by decide) (Ik Aa) Al Fd (Ak1 Aa (Bb (Ac Aa (Ac (Fl Aa) Am))))))) h
theorem Ap9 (F:Fun K "_law_value" "_law_value" Ra f g) (c:yT0 P w K mg base):FnOk P w K mg base CX0 2 f g [lH] (spP K Et):=by
 refine F.ok yM (λ_ _ _ _=>Dz) (λm A e s H k Q E d h=>?_)
 have j:=d.units;have l:=d.gd
 refine Gu (Ah (Df (i:=1) yM.nd (Ck c d (Af (qv 0) (Af Ai Ae))))
  (Ah (Di (Af2 (qv 1) Ai) (Aj (Aw (Kr (Ck c d (Af (qv 0) (Af Ai Ae))) Ai))) Bk)
  (Ah (Di (Ny j (qv 1) Ai) (Aj (Aw (Ce (Kq:=K) rfl (Jo (Af (Kr (Rv Ai Ai) Ai) (Af (Kr Ai (Rv Ai Ai)) (Af Ai (Af Ai Ae))))) (Ck c d (Af (qv 0) (Af Ai Ae))) Jm))) Bk)
  (Ah (Di (Ny j (qv 1) Ai) (Aj (Aw Ot)) Bk)
  (Aj (Aw (Ce (Kq:=K) rfl (Jo (Ng (vs:=[.str "",.str "a",.str "b",.str "B",.str "10",.str "9",.str "-",.str "a b",.str "it's",.str "\\",.str "/",.str "_",.str ":",.str "None",.str "ab"]) rfl)) (Ck c d (Af (qv 0) (Af Ai Ae))) Jm))))))) ?_
 exact Ea (Ba (Cv (Bb (Ac Aa (Ac (Ar rfl) Am))) Al)
  (Ba (Ec (Bs (Ak Aa (Ar rfl) Ar5)) (Az (Ak (Bb (Ac Aa (Ac (Ar rfl) Am))) (Ar rfl) Py)) Bj)
  (Ba (Ec (Bs (Ak Aa (Ar rfl) Fj)) (Az (Ak (J1 (Ac (Ak (Ak (Ar rfl) (Ar rfl) Ab0) (Ar rfl) Py) (Ac (Ak (Ar rfl) (Ak (Ar rfl) (Ar rfl) Ab0) Py) (Ac (Ar rfl) (Ac (Ar rfl) Am))))) (Bb (Ac Aa (Ac (Ar rfl) Am))) Bp)) Bj)
  (Ba (Ec (Bs (Ak Aa (Ar rfl) Fj)) (Az (Ar rfl)) Bj)
  (Az (Ak (J1 (Bd3 rfl)) (Bb (Ac Aa (Ac (Ar rfl) Am))) Bp)))))) h
theorem A0d {f:Addr}{e:FuncData}(F:Fun K "_law_pool" "_law_pool" Vb f e) (a:Def P w K mg base "_law_value" 2 [lH] (spP K Et)) (b:mg "range" = none):FnOk P w K mg base CX0 3 f e [lH, lK] (spP K Gr):=by
 refine F.ok yE (λ_ _ _ _=>Dz) (λk A c s H j Q E d h=>?_)
 have g:=d.gd
 refine Gu (Ah (Df (i:=2) yE.nd (Jo Ae))
  (Ah (Mq PassesOwn.never rfl (Fv rfl b (Af (qv 1) Ae)) (Br (i:=3) yE.nd) (Ah (Df (i:=4) yE.nd (Ck a d (Af (qv 0) Ae)))
  (Aj (Di (Im d.units (qv 4) (qv 2) (by trivial)) (Aj (Tw (Rm (Kq:=K) rfl (qv 2) (qv 4)))) Bk))))
  (Aj (Aw (qv 2))))) ?_
 exact Ea (Ba (Cv (J1 Am) Al)
  (Ba (O1 (Ik Aa) Al (Ba (Cv (Bb (Ac Aa Am)) Al)
  (Ec (Bs (Ak Aa Aa M6)) (Zq (A7y Aa Aa)) Bj)))
  (Az Aa))) h
theorem An0 (F:Fun K "_law_table" "_law_table" Rc f fd) (a5:yT0 P w K mg base) (m6:Def P w K mg base "_law_names" 2 [lH, lK] (spP K Ja)) (k7:Def P w K mg base "_law_pool" 3 [lH, lK] (spP K Gr)) (zA:mg "len" = none) (zG:mg "range" = none) (z8:mg "tuple" = none):FnOk P w K mg base CX0 4 f fd [lH, lK, "_law_rows"] (spP K Le):=by
 refine F.ok zK (λ_ _ _ _=>Dz) (λcdv A outer s H vs Q E hr h=>?_)
 have hu:=hr.units;have hgd:=hr.gd
 refine Gu (Ah (Df (i:=3) zK.nd (Ck m6 hr (Af (qv 0) (Af (qv 1) Ae))))
  (Ah (by exact(Pk (i:=4) zK.nd rfl (Or.inl rfl) (N':=["_law_name", lH]) (idx:=[none,some 0]) Ep rfl (Hg (Kq:=K) rfl (qv 3)) (λ_ _ _ _ _=>by exact(Br (i:=0) (by show (["_law_name", lH]:List Str).Nodup;decide +kernel))) qtN (λ_ _ _ _ _=>by exact(Ck k7 hr (Af (qv 1) (Af (Ce (Kq:=K) rfl (Jo (Ng (vs:=[.int 2,.int 3,.int 3,.int 5,.int 12]) rfl)) (Ck a5 hr (Af (qv 1) (Af Ai Ae))) Jm) Ae))))))
  (Ah (Df (i:=5) zK.nd (Jo Ae))
  (Ah (Mq PassesOwn.never rfl (Fv rfl zG (Af (qv 2) Ae)) (Br (i:=6) zK.nd) (Ah (Df (i:=7) zK.nd (By (Kq:=K) rfl rfl z8 (Af (by exact(Jz (N':=["_law_pool_here", lH]) (idx:=[none,some 0]) Ep rfl (Hg (Kq:=K) rfl (qv 4)) (λ_ _ _ _ _=>by exact(Br (i:=0) (by show (["_law_pool_here", lH]:List Str).Nodup;decide +kernel))) qtN (λ_ _ _ _ _=>by exact(Ce (Kq:=K) rfl (qv 0) (Ck a5 hr (Af (qv 1) (Af (Fo (Kq:=K) rfl rfl zA (Af (qv 0) Ae)) Ae))) Jm)))) Ae)))
  (Ah (Di (QW.qt (Bp6 (Ad5 hu (qv 5) (Jo Ae)) (Bj1 (Ny hu (Ck a5 hr (Af (qv 0) (Af Ai Ae))) Ai)))) (Aj (Df (i:=7) zK.nd (Ce (Kq:=K) rfl (qv 5) (Ck a5 hr (Af (qv 0) (Af (Fo (Kq:=K) rfl rfl zA (Af (qv 5) Ae)) Ae))) Jm))) Bk)
  (Aj (Tw (Rm (Kq:=K) rfl (qv 5) (qv 7)))))))
  (Aj (Aw (Gv (Af (By (Kq:=K) rfl rfl z8 (Af (qv 3) Ae)) (Af (By (Kq:=K) rfl rfl z8 (Af (qv 5) Ae)) Ae))))))))) ?_
 exact Ea (Ba (Cv (Bb (Ac Aa (Ac Aa Am))) Al)
  (Ba (Cv (Gx (by decide) (G9 Aa) Al Fd (Bb (Ac Aa (Ac (Ak (J1 (Bd3 rfl)) (Bb (Ac Aa (Ac (Ar rfl) Am))) Bp) Am)))) Al)
  (Ba (Cv (J1 Am) Al)
  (Ba (O1 (Ik Aa) Al (Ba (Cv (Cp (Gx (by decide) (G9 Aa) Al Fd (Ak Aa (Bb (Ac Aa (Ac (Fl Aa) Am))) Bp)) Ha) Al)
  (Ba (Ec (Bw1 (Bs (Ak Aa (J1 Am) Vj)) (Bs (Ak (Bb (Ac Aa (Ac (Ar rfl) Am))) (Ar rfl) Fj))) (Cv (Ak Aa (Bb (Ac Aa (Ac (Fl Aa) Am))) Bp) Al) Bj)
  (Zq (A7y Aa Aa)))))
  (Az (Jj (Ac (Cp Aa Ha) (Ac (Cp Aa Ha) Am)))))))) h
theorem V5 (F:Fun K "_law_any_table" "_law_any_table" J3 f fd) (h9:Def P w K mg base "_law_many" 2 [lH, "_law_least", "_law_few", "_law_most"] (spP K Hh)) (j8:Def P w K mg base "_law_table" 4 [lH, lK, "_law_rows"] (spP K Le)):FnOk P w K mg base CX0 5 f fd [lH] (spP K Eo):=by
 refine F.ok Uk (λ_ _ _ _=>Dz) (λcdv A outer s H vs Q E hr h=>?_)
 have hu:=hr.units;have hgd:=hr.gd
 refine Gu (Aj (Aw (Ck j8 hr (Af (qv 0) (Af (Ck h9 hr (Af (qv 0) (Af Ai (Af Ai (Af Ai Ae))))) (Af (Ck h9 hr (Af (qv 0) (Af Ai (Af Ai (Af Ai Ae))))) Ae)))))) ?_
 exact Ea (Az (Bb (Ac Aa (Ac (Bb (Ac Aa (Ac (Ar rfl) (Ac (Ar rfl) (Ac (Ar rfl) Am))))) (Ac (Bb (Ac Aa (Ac (Ar rfl) (Ac (Ar rfl) (Ac (Ar rfl) Am))))) Am))))) h
theorem A0h {n:Nat}(F:Fun K "_law_same" "_law_same" Pj f fd) (a8:Def P w K mg base "_law_same" (n) [lP, "_law_due"] (spP K (Bq n))) (zP:mg "all" = none) (zU:mg "bool" = none) (zR:mg "int" = none) (z7:mg "isinstance" = none) (zA:mg "len" = none) (zF:mg "list" = none) (zM:mg "str" = none) (z8:mg "tuple" = none) (zW:mg "zip" = none):FnOk P w K mg base CX0 (n+1) f fd [lP, "_law_due"] (spP K (Bq (n+1))):=by
 refine F.ok A0y (λ_ _ _ _=>Dz) (λcdv A outer s H vs Q E hr h=>?_)
 have hu:=hr.units;have hgd:=hr.gd
 refine Gu (Ah (Di (Dw (Qh (Kq:=K) rfl rfl z7 (Af (qv 1) (Af (Gv (Af (Cg (v:=.ty "list") rfl zF Ni rfl) (Af (Cg (v:=.ty "tuple") rfl z8 G7 rfl) Ae))) Ae)))) (Ah (Di (QW.qt (Nz (Ad5 hu (Be (Kq:=K) rfl rfl z7 (Af (qv 0) (Af (Cg (v:=.ty "list") rfl zF Ni rfl) Ae))) (Be (Kq:=K) rfl rfl z7 (Af (qv 1) (Af (Cg (v:=.ty "list") rfl zF Ni rfl) Ae)))) (Kw (Ad5 hu (Be (Kq:=K) rfl rfl z7 (Af (qv 0) (Af (Cg (v:=.ty "tuple") rfl z8 G7 rfl) Ae))) (Be (Kq:=K) rfl rfl z7 (Af (qv 1) (Af (Cg (v:=.ty "tuple") rfl z8 G7 rfl) Ae))))))) (Aj (Aw Jc)) Bk)
  (Aj (Aw (Ru (Ut hu (Fo (Kq:=K) rfl rfl zA (Af (qv 0) Ae)) (Fo (Kq:=K) rfl rfl zA (Af (qv 1) Ae))) (R9 (Ga (Kq:=K) rfl rfl rfl zP (Af (by exact(Jz (N':=["_law_one", lR]) (idx:=[none,none]) Ep rfl (A3x rfl zW (Af (qv 0) (Af (qv 1) Ae))) (λ_ _ _ _ _=>by exact(Zm (Kq:=K) rfl (n:=2) rfl (Hq (Br (i:=0) (by show (["_law_one", lR]:List Str).Nodup;decide +kernel)) (Hq (Br (i:=1) (by show (["_law_one", lR]:List Str).Nodup;decide +kernel)) T5)))) qtN (λ_ _ _ _ _=>by exact(Ck a8 hr (Af (qv 0) (Af (qv 1) Ae)))))) Ae))))))) Bk)
  (Ah (Di (QW.qt (Nz (Rr (qv 1) Ot) (Kw (Dw (Be (Kq:=K) rfl rfl z7 (Af (qv 1) (Af (Cg (v:=.ty "str") rfl zM Rx rfl) Ae))))))) (Aj (Aw (Ru (Ut hu (qv 0) (qv 1)) (R9 (Ut hu (Be (Kq:=K) rfl rfl z7 (Af (qv 0) (Af (Cg (v:=.ty "str") rfl zM Rx rfl) Ae))) (Be (Kq:=K) rfl rfl z7 (Af (qv 1) (Af (Cg (v:=.ty "str") rfl zM Rx rfl) Ae)))))))) Bk)
  (Ah (Di (Dw (Be (Kq:=K) rfl rfl z7 (Af (qv 1) (Af (Cg (v:=.ty "bool") rfl zU T3 rfl) Ae)))) (Aj (Aw (Ru (Be (Kq:=K) rfl rfl z7 (Af (qv 0) (Af (Cg (v:=.ty "bool") rfl zU T3 rfl) Ae))) (R9 (Ut hu (qv 0) (qv 1)))))) Bk)
  (Aj (Aw (Ru (Be (Kq:=K) rfl rfl z7 (Af (qv 0) (Af (Cg (v:=.ty "int") rfl zR Ze rfl) Ae))) (Ru (Bt2 (Be (Kq:=K) rfl rfl z7 (Af (qv 0) (Af (Cg (v:=.ty "bool") rfl zU T3 rfl) Ae)))) (R9 (Ut hu (qv 0) (qv 1)))))))))) ?_
 exact Ea (Ba (Ec (Jp (Ar4 .list .tuple Aa)) (Ba (Ec (N8 (Bs (Ak (Eg .list Aa) (Eg .list Aa) Vj)) (Bs (Ak (Eg .tuple Aa) (Eg .tuple Aa) Vj))) (Az (Ar rfl)) Bj)
  (Az (Nr (Ak (Fl Aa) (Fl Aa) Fj) (Cp (Gx (by decide) (A6g Aa Aa) (Y9 (Hu Al (Hu Al Tp))) Fd (Bb (Ac Aa (Ac Aa Am)))) M8)))) Bj)
  (Ba (Ec (N8 (Bs (Ak Aa (Ar rfl) Zk)) (Jp (Eg .str Aa))) (Az (Nr (Ak Aa Aa Fj) (Ak (Eg .str Aa) (Eg .str Aa) Fj))) Bj)
  (Ba (Ec (Jp (Eg .bool Aa)) (Az (Nr (Eg .bool Aa) (Ak Aa Aa Fj))) Bj)
  (Az (Nr (Eg .int Aa) (Nr (Bb4 (Eg .bool Aa)) (Ak Aa Aa Fj))))))) h
theorem Vw (F:Fun K "_law_same" "_law_same" Pj f fd) (bF:Binds K fd [lP, "_law_due"] []) (mF:mg "_law_same" = some (.ref f)) (zP:mg "all" = none) (zU:mg "bool" = none) (zR:mg "int" = none) (z7:mg "isinstance" = none) (zA:mg "len" = none) (zF:mg "list" = none) (zM:mg "str" = none) (z8:mg "tuple" = none) (zW:mg "zip" = none):∀n:Nat,FnOk P w K mg base CX0 (n) f fd [lP, "_law_due"] (spP K (Bq n))
 | 0=>A3u
 | n+1=>A0h F ⟨f,fd,Vw F bF mF zP zU zR z7 zA zF zM z8 zW n,bF,F.kp,mF⟩ zP zU zR z7 zA zF zM z8 zW
theorem Ad3 (F:Fun K "_law_called" "_law_called" O3 f fd) (i5:DefX P w K mg base "column" 4 ["table", "name"] (spX K Hk)) (j4:DefX P w K mg base "kept" 5 ["table", "names"] (spX K Jq)) (l7:DefX P w K mg base "sorted_by" 6 ["table", "names"] (spX K Eb)) (c8:yT4 P w K mg base) (j3:DefX P w K mg base "is_key" 6 ["table", "names"] (spX K Gs)):FnOk P w K mg base (CXe P w) 7 f fd [lM, lJ, lN] (spX K Bc):=by
 obtain⟨aF6,aG0,v4,aD9,o9,w6⟩:=i5;obtain⟨aE4,aG3,aD8,y6,aC1,y7⟩:=j4;obtain⟨aE2,aE5,aB0,aD1,aD5,aC8⟩:=l7;obtain⟨aG6,aG4,aB5,aB7,aB2,w9⟩:=c8;obtain⟨aG5,aG2,aC9,aB1,v6,aA4⟩:=j3
 refine F.okX Ai4 (λvs H Q E h=>Js h) (λcdv A outer s H vs Q E hr h=>?_)
 have hu:=hr.units;have hgd:=hr.gd
 refine Gu (Ah (Di (Ny hu (qv 0) Ai) (Aj (Aw (Ew aD8 (hr.mono (by omega)) rfl y7 aC1 y6 .nil Ez (Af (qv 1) (Af (qv 2) Ae))))) Bk)
  (Ah (Di (Ny hu (qv 0) Ai) (Aj (Aw (Ew aB0 (hr.mono (by omega)) rfl aC8 aD5 aD1 .nil Ez (Af (qv 1) (Af (qv 2) Ae))))) Bk)
  (Ah (Di (Ny hu (qv 0) Ai) (Aj (Aw (Ew aB5 (hr.mono (by omega)) rfl w9 aB2 aB7 .nil Ez (Af (qv 1) (Af (qv 2) Ae))))) Bk)
  (Ah (Di (Ny hu (qv 0) Ai) (Aj (Aw (Ew aC9 (hr.mono (by omega)) rfl aA4 v6 aB1 .nil Ez (Af (qv 1) (Af (qv 2) Ae))))) Bk)
  (Aj (Aw (Ew v4 (hr.mono (by omega)) rfl w6 o9 aD9 .nil Ez (Af (qv 1) (Af (Ce (Kq:=K) rfl (qv 2) (Bo6 Ai) A4g) Ae))))))))) ?_
 exact Jw (Hx (Yb (Bs (Ak Aa (Ar rfl) Fj)) (Qt (Ac Aa (Ac Aa Am))) (Fg Bj))
  (Hx (Yb (Bs (Ak Aa (Ar rfl) Fj)) (Qt (Ac Aa (Ac Aa Am))) (Fg Bj))
  (Hx (Yb (Bs (Ak Aa (Ar rfl) Fj)) (Qt (Ac Aa (Ac Aa Am))) (Fg Bj))
  (Hx (Yb (Bs (Ak Aa (Ar rfl) Fj)) (Qt (Ac Aa (Ac Aa Am))) (Fg Bj))
  (Qt (Ac Aa (Ac (Ak Aa (Ac3 (Ar rfl) Bd1) Bp) Am))))))) h
abbrev yT5 (P w K mg base):=DefX P w K mg base "_law_called" 7 [lM, lJ, lN] (spX K Bc)
theorem Yq (F:Fun K "_law_refused" "_law_refused" Mz f fd) (a9:yT5 P w K mg base) (yC:mg "ValueError" = none) (z7:mg "isinstance" = none) (k8:ClT K mg [("NoColumn",false)] "BadColumns") (l0:ClT K mg [("NoColumn",false)] "BadOrder") (j7:ClT K mg [("NoColumn",false)] "BadRow") (l8:ClT K mg [("NoColumn",false)] "BadWay") (m3:ClT K mg [("NoColumn",false)] "Double") (i4:ClT K mg [("NoColumn",true)] "NoColumn") (i9:ClT K mg [("NoColumn",false)] "NoHead") (k6:ClT K mg [("NoColumn",false)] "NoNumber") (j6:ClT K mg [("NoColumn",false)] "NoPart") (j5:ClT K mg [("NoColumn",false)] "NoRow") (i8:TbOk K (.type "ValueError") [("NoColumn",true)]) (d8:ClI K mg ⟨"NoColumn.__init__", "FoldError", "name", "name", "no column ", ""⟩ "NoColumn") (i7:ClF K mg ["NoColumn"] "FoldError"):FnOk P w K mg base CX0 8 f fd [lM, lJ, lN] (spP K Fx):=by
 obtain⟨aE6,aC5,aA8⟩:=k8;obtain⟨aE3,aA0,o4⟩:=l0;obtain⟨aF4,aC4,aD4⟩:=j7;obtain⟨aE8,aB8,aB4⟩:=l8;obtain⟨aF1,aA3,aE0⟩:=m3;obtain⟨aF2,aC6,y0⟩:=i4;obtain⟨aF0,y9,aA5⟩:=i9;obtain⟨aE7,aE1,aA9⟩:=k6;obtain⟨aF5,w4,aB3⟩:=j6;obtain⟨aF8,aC7,aB6⟩:=j5;have aD2:=i8;have n6:=A6c d8;obtain⟨aA6,aC3,aA7,o7,p0,o8,n5,n8,n7,n4,n9,m9,o3⟩:=d8;obtain⟨aE9,aD3,aD0⟩:=i7;obtain⟨aF9,aF7,aC0,aC2,aA1,y8⟩:=a9
 refine F.ok zT (λ_ _ _ _=>Dz) (λcdv A outer s H vs Q E hr h=>?_)
 have hu:=hr.units;have hgd:=hr.gd
 refine Gu (Ah (Df (i:=3) zT.nd Ot)
  (Ah (Bb5 (Kq:=K) rfl (j:=4) aC0 (hr.mono (by omega)) rfl y8 aA1 aC2 (λ_ _ z=>z) (Af (qv 0) (Af (qv 1) (Af (qv 2) Ae))) rfl ⟨rfl,rfl⟩ zT.nd rfl rfl rfl aD3 (λ_=>by exact(Aj (Df (i:=3) zT.nd (qv 4)))))
  (Ah (Di (Rr (qv 3) Ot) (Aj (Aw Ot)) Bk)
  (Ah (Di (QW.qt (Nz (Gw (Dw (As7 (Kq:=K) rfl rfl z7 (Af (qv 3) (Af (J5 rfl aC6) Ae))))) (Kw (Gw (Dw (As7 (Kq:=K) rfl rfl z7 (Af (qv 3) (Af (Cg (v:=.ty "ValueError") rfl yC Wq rfl) Ae)))))))) (Aj (Aw Jc)) Bk)
  (Ah (Di (Dw (A7d (Kq:=K) rfl rfl z7 (Af (qv 3) (Af (Gv (Af (J5 rfl aC5) (Af (J5 rfl aA0) (Af (J5 rfl aC4) (Af (J5 rfl aB8) (Af (J5 rfl aA3) (Af (J5 rfl y9) (Af (J5 rfl aE1) (Af (J5 rfl w4) (Af (J5 rfl aC7) Ae)))))))))) Ae)))) (Aj (Aw Jc)) Bk)
  (Aj (Aw (B0z (Kq:=K) rfl (qv 3))))))))) ?_
 exact Ea (Ba (Cv (Ar rfl) Al)
  (Ba (Be7 aD0 (Ac Aa (Ac Aa (Ac Aa Am))) (Cv Aa Al))
  (Ba (Ec (Bs (Ba4 Aa)) (Az (Ar rfl)) Bj)
  (Ba (Ec (N8 (G6 (Jp (Ax0 rfl y0 Aa))) (G6 (Jp (Ax0 rfl aD2 Aa)))) (Az (Ar rfl)) Bj)
  (Ba (Ec (Jp (A4r (show Aj9 K _ [("NoColumn",false)] from (Hv aA8 (Hv o4 (Hv aD4 (Hv aB4 (Hv aE0 (Hv aA5 (Hv aA9 (Hv aB3 (Bf0 aB6) rfl) rfl) rfl) rfl) rfl) rfl) rfl) rfl)) Aa)) (Az (Ar rfl)) Bj)
  (Az (B1g n6 Aa))))))) h
theorem Wg (F:Fun K "_law_bad_names" "_law_bad_names" J7 f fd) (a5:yT0 P w K mg base) (zA:mg "len" = none) (zF:mg "list" = none) (zG:mg "range" = none):FnOk P w K mg base CX0 2 f fd [lH, lJ, lR] (spP K G3):=by
 refine F.ok zO (λ_ _ _ _=>Dz) (λcdv A outer s H vs Q E hr h=>?_)
 have hu:=hr.units;have hgd:=hr.gd
 refine Gu (Ah (Df (i:=3) zO.nd (A7m (Kq:=K) rfl (Hw (Kq:=K) rfl rfl zF (Af (Ce (Kq:=K) rfl (qv 1) Ai Bo) Ae)) Aa9 (Zu (Gd Ai (Ck a5 hr (Af (qv 0) (Af Ai Ae)))))))
  (Ah (by exact(Pk (i:=4) zO.nd rfl (Or.inl rfl) (N':=["_law_name", lJ]) (idx:=[none,some 1]) Ep rfl (Hg (Kq:=K) rfl (Gd (Ce (Kq:=K) rfl (qv 2) Ai Bo) (Gv (Ng (vs:=[.str "q",.str "ax",.str "yea",.str "years",.str "",.str "abcdefghi",.str "a b"]) rfl)))) (λ_ _ _ _ _=>by exact(Br (i:=0) (by show (["_law_name", lJ]:List Str).Nodup;decide +kernel))) (λ_ _ _ _ _=>by exact(Aw4 (Im hu (qv 0) (Ce (Kq:=K) rfl (qv 1) Ai Bo) (by with_unfolding_all rfl)))) (λ_ _ _ _ _=>by exact(qv 0))))
  (Ah (Mq PassesOwn.never rfl (Fv rfl zG (Af (Gd Ai (Ck a5 hr (Af (qv 0) (Af Ai Ae)))) Ae)) (Br (i:=5) zO.nd) (Aj (Tw (At7 (Kq:=K) rfl PySem.F.plainAttrs_list PySem.F.slot_list_insert PySem.F.type_list_insert Ay5 (qv 3) (Af (Ck a5 hr (Af (qv 0) (Af (Gd (Fo (Kq:=K) rfl rfl zA (Af (qv 3) Ae)) Ai) Ae))) (Af (At7 (Kq:=K) rfl PySem.F.plainAttrs_list PySem.F.slot_list_pop PySem.F.type_list_pop Ae1 (qv 4) (Af (Ck a5 hr (Af (qv 0) (Af (Fo (Kq:=K) rfl rfl zA (Af (qv 4) Ae)) Ae))) Ae)) Ae))))))
  (Aj (Aw (qv 3)))))) ?_
 exact Ea (Ba (Cv (A3b (Cp (Ak Aa (Ar rfl) Bp) V4) Zg (Z1 (Ak (Ar rfl) (Bb (Ac Aa (Ac (Ar rfl) Am))) En)) Aa2) Al)
  (Ba (Cv (Gx (by decide) (G9 (Ak (Ak Aa (Ar rfl) Bp) (Jj (Bd3 rfl)) En)) Al (Bs (Ak Aa (Ak Aa (Ar rfl) Bp) M6)) Aa) Al)
  (Ba (O1 (Ik (Ak (Ar rfl) (Bb (Ac Aa (Ac (Ar rfl) Am))) En)) Al (Zq (Bo9 Aa (Bb (Ac Aa (Ac (Ak (Fl Aa) (Ar rfl) En) Am))) (Ak1 Aa (Bb (Ac Aa (Ac (Fl Aa) Am)))))))
  (Az Aa)))) h
theorem Bp4 (F:Fun K "law" "law" A8e f fd) (j2:Def P w K mg base "_law_box" 2 [lL, "_law_k"] (spP K Lw)) (e9:Def P w K mg base "_law_any_table" 5 [lH] (spP K Eo)) (a8:Def P w K mg base "_law_same" 5 [lP, "_law_due"] (spP K (Bq 5))) (a9:yT5 P w K mg base) (h7:Def P w K mg base "_law_refused" 8 [lM, lJ, lN] (spP K Fx)) (i6:Def P w K mg base "_law_bad_names" 2 [lH, lJ, lR] (spP K G3)) (zA:mg "len" = none) (zF:mg "list" = none) (yQ:mg "min" = none) (zG:mg "range" = none) (z8:mg "tuple" = none) (zW:mg "zip" = none):FnOk P w K mg base CX0 9 f fd [lL] (spP K Al2):=by
 refine F.ok zJ (λ_ _ _ _=>Dz) (λcdv A outer s H vs Q E hr h=>?_)
 have hu:=hr.units;have hgd:=hr.gd
 refine Gu (Ah (Mq PassesOwn.never rfl (Fv rfl zG (Af (Gd Ai (Zi (Kq:=K) rfl rfl rfl yQ (Af Ai (Af (Fo (Kq:=K) rfl rfl zA (Af (qv 0) Ae)) Ae)))) Ae)) (Br (i:=1) zJ.nd) (Ah (Df (i:=2) zJ.nd (Ck j2 hr (Af (qv 0) (Af (qv 1) Ae))))
  (Ah (Ao6 (Gv (Af (Ck e9 hr (Af (qv 2) Ae)) (Af (Ck e9 hr (Af (qv 2) Ae)) Ae))) (Zm (Kq:=K) rfl (n:=2) rfl (Hq (Br (i:=3) zJ.nd) (Hq (Br (i:=4) zJ.nd) T5))))
  (Ah (by exact(Pk (i:=5) zJ.nd rfl (Or.inl rfl) (N':=[lJ]) (idx:=[none]) Ep rfl (Hg (Kq:=K) rfl (Gv (Af (qv 3) (Af (qv 4) Ae)))) (λ_ _ _ _ _=>by exact(Br (i:=0) (by show ([lJ]:List Str).Nodup;decide +kernel))) qtN (λ_ _ _ _ _=>by exact(by exact(Jz (N':=[lM, lJ]) (idx:=[none,some 0]) Ep rfl (Fv rfl zG (Af Ai Ae)) (λ_ _ _ _ _=>by exact(Br (i:=0) (by show ([lM, lJ]:List Str).Nodup;decide +kernel))) qtN (λ_ _ _ _ _=>by exact(Bl5 a9 hr (Af (qv 0) (Af (qv 1) (Af (A7m (Kq:=K) rfl (Hw (Kq:=K) rfl rfl zF (Af (Ce (Kq:=K) rfl (qv 1) Ai Bo) Ae)) Aa9 (Zu Ai)) Ae))))))))))
  (Aj (Mq PassesOwn.never rfl (Fv rfl zG (Af Ai Ae)) (Br (i:=6) zJ.nd) (Ah (Df (i:=7) zJ.nd (Ck i6 hr (Af (qv 2) (Af (qv 3) (Af (qv 4) Ae)))))
  (Ah (Df (i:=8) zJ.nd (Ce (Kq:=K) rfl (by exact(Jz (N':=["_law_name", "_law_one"]) (idx:=[none,some 3]) Ep rfl (Hg (Kq:=K) rfl (qv 7)) (λ_ _ _ _ _=>by exact(Br (i:=0) (by show (["_law_name", "_law_one"]:List Str).Nodup;decide +kernel))) (λ_ _ _ _ _=>by exact(Aw4 (Im hu (qv 0) (Ce (Kq:=K) rfl (qv 1) Ai Bo) (by with_unfolding_all rfl)))) (λ_ _ _ _ _=>by exact(qv 0)))) Ai Bo))
  (Ah (Mq PassesOwn.never rfl (Fv rfl zG (Af Ai Ae)) (Br (i:=9) zJ.nd) (Aj (Di (Gw (Dw (Ck a8 hr (Af (Ck h7 hr (Af (qv 9) (Af (qv 3) (Af (Ce (Kq:=K) rfl (Jo (Af (qv 7) (Af (By (Kq:=K) rfl rfl z8 (Af (qv 7) Ae)) Ae))) (Gn (qv 6) Ai) plain_bin) Ae)))) (Af (qv 8) Ae))))) (Aj (Aw Jc)) Bk)))
  (Ah (Di (Gw (Dw (Ck a8 hr (Af (Ck h7 hr (Af Ai (Af (qv 3) (Af (Jo (Af (qv 8) Ae)) Ae)))) (Af (qv 8) Ae))))) (Aj (Aw Jc)) Bk)
  (Aj (Mq PassesOwn.never rfl (A3x rfl zW (Af (Gv (Af (qv 3) (Af (qv 4) Ae))) (Af (qv 5) Ae))) (Zm (Kq:=K) rfl (n:=2) rfl (Hq (Br (i:=10) zJ.nd) (Hq (Br (i:=11) zJ.nd) T5))) (Ah (by exact(Pk (i:=12) zJ.nd rfl (Or.inl rfl) (N':=[lM, lJ]) (idx:=[none,some 10]) Ep rfl (Fv rfl zG (Af Ai Ae)) (λ_ _ _ _ _=>by exact(Br (i:=0) (by show ([lM, lJ]:List Str).Nodup;decide +kernel))) qtN (λ_ _ _ _ _=>by exact(Bl5 a9 hr (Af (qv 0) (Af (qv 1) (Af (A7m (Kq:=K) rfl (Hw (Kq:=K) rfl rfl zF (Af (Ce (Kq:=K) rfl (qv 1) Ai Bo) Ae)) Aa9 (Zu Ai)) Ae)))))))
  (Aj (Di (Gw (Dw (Ck a8 hr (Af (qv 12) (Af (qv 11) Ae))))) (Aj (Aw Jc)) Bk)))))))))))))))
  (Aj (Aw Jc))) ?_
 exact Ea (Ba (O1 (Ik (Ak (Ar rfl) (A9s (Ar rfl) (Fl Aa)) En)) Al (Ba (Cv (Bb (Ac Aa (Ac Aa Am))) Al)
  (Ba (Cv (Jj (Ac (Bb (Ac Aa Am)) (Ac (Bb (Ac Aa Am)) Am))) (Y9 (Hu Al (Hu Al Tp))))
  (Ba (Cv (Gx (by decide) (G9 (Jj (Ac Aa (Ac Aa Am)))) Al Fd (Gx (by decide) (Ik (Ar rfl)) Al Fd (Ag6 (Ac Aa (Ac Aa (Ac (N6 (A3b (Cp (Ak Aa (Ar rfl) Bp) V4) Zg (Z1 (Ar rfl)) Aa2)) Am)))))) Al)
  (O1 (Ik (Ar rfl)) Al (Ba (Cv (Bb (Ac Aa (Ac Aa (Ac Aa Am)))) Al)
  (Ba (Cv (Ak (Gx (by decide) (G9 (N6 Aa)) Al (Bs (Ak Aa (Ak Aa (Ar rfl) Bp) M6)) Aa) (Ar rfl) Bp) Al)
  (Ba (O1 (Ik (Ar rfl)) Al (Ec (G6 (Jp (Bb (Ac (Bb (Ac Aa (Ac Aa (Ac (Ak (J1 (Ac (N6 Aa) (Ac (Cp (N6 Aa) Ha) Am))) (Ak Aa (Ar rfl) Jx) Bp) Am)))) (Ac Aa Am))))) (Az (Ar rfl)) Bj))
  (Ba (Ec (G6 (Jp (Bb (Ac (Bb (Ac (Ar rfl) (Ac Aa (Ac (N6 (J1 (Ac Aa Am))) Am)))) (Ac Aa Am))))) (Az (Ar rfl)) Bj)
  (O1 (A6g (Jj (Ac Aa (Ac Aa Am))) Aa) (Y9 (Hu Al (Hu Al Tp))) (Ba (Cv (Gx (by decide) (Ik (Ar rfl)) Al Fd (Ag6 (Ac Aa (Ac Aa (Ac (N6 (A3b (Cp (Ak Aa (Ar rfl) Bp) V4) Zg (Z1 (Ar rfl)) Aa2)) Am))))) Al)
  (Ec (G6 (Jp (Bb (Ac (N6 Aa) (Ac Aa Am))))) (Az (Ar rfl)) Bj))))))))))))
  (Az (Ar rfl))) h
end
theorem lnS {us:List Value}(h:us.length=n+1):∃x r,us=x::r/\r.length=n:=by
 cases us with
 | nil=>grind
 | cons x r=>grind
theorem ln1 {us:List Value}(h:us.length=1):∃x0,us=[x0]:=by
 obtain⟨x,r,a,b⟩:=lnS h
 simp_all
theorem ln2 {us:List Value}(h:us.length=2):∃c b,us=[c,b]:=by
 obtain⟨c,r,a,d⟩:=lnS h;obtain⟨b,a⟩:=ln1 d
 grind
theorem ln3 {us:List Value}(h:us.length=3):∃c d b,us=[c,d,b]:=by
 obtain⟨c,r,a,e⟩:=lnS h;obtain⟨d,b,a⟩:=ln2 e
 grind
theorem ln4 {us:List Value}(h:us.length=4):∃c d e b,us=[c,d,e,b]:=by
 obtain⟨c,r,a,f⟩:=lnS h;obtain⟨d,e,b,a⟩:=ln3 f
 grind
theorem _root_.bi {st:Stmt}(F:L2.Fun K x qual st f d)(ps:List Str)(h:∀(i b e:Value) (g:Option Addr) (a c:Value) (us:List Value),us.length=ps.length->bindArgs (PySem.W.fnOf x qual (Jy st) (Gz st) (An st) .none i b e g a c) ⟨us,[]⟩=pure (ps.zip us):=by intro _ _ _ _ _ _ us hl;first | (obtain⟨_,rfl⟩:=ln1 hl;rfl) | (obtain⟨_,_,rfl⟩:=ln2 hl;rfl) | (obtain⟨_,_,_,rfl⟩:=ln3 hl;rfl) | (obtain⟨_,_,_,_,rfl⟩:=ln4 hl;rfl)):L2.Binds K d ps []:=F.binds h
theorem mkD (a:FnOk P w K mg base CX0 k f d ps sp) (b:Binds K d ps []) (c:PySem.W.keepIn K (.ref f)=true) (g:mg x=some (.ref f)):Def P w K mg base x k ps sp:=⟨f,d,a,b,c,g⟩
theorem mkX {P:Program}{w:World}{K:PySem.W.Frag}{mg:Str->Option Value}{base:Heap}{k:Nat}{f:Addr}{fd:FuncData}{x:Str}{ps:List Str}{sp:Sp}(a:FnOk P w K mg base (CXe P w) k f fd ps sp)(b:Binds K fd ps [])(c:PySem.W.keepIn K (.ref f)=true)(g:mg x=some (.ref f)):DefX P w K mg base x k ps sp:=⟨f,fd,a,b,c,g⟩
theorem Cw (T:PyProof.Rows.Top q loose g mg j h) (k:∀a o,h.get? a=some o->Ge o=true->o.data≠.fields #[]->K.lookup a=some o) (l:(PyProof.Rows.recsOf q).map (λd=>(d.name,d.params,d.body,d.scope))=L) {i:Nat} (e:L[i]?=some (x,Jy st,Gz st,An st)):∃f fd,Fun K x x st f fd/\mg x=some (.ref f):=by
 obtain⟨d,m,rfl,a,b,c⟩:=Ag5 l e;exact Bd6 T k m a b c
abbrev rr (x:Str)(i:Nat):Str×Arguments×List Stmt×Scope:=(x,Jy (top i),Gz (top i),An (top i))
theorem Bw5 {l:PySem.W.OpenLaw}{w:World}{q:Program}{loose:List Str}{mean:ExcName->Option Value}{mg mb:Str->Option Value}{h:Heap}{fa:Addr}(T:PyProof.Rows.Top q loose mean mg mb h)(hfa:mg "law" = some (.ref fa))
 (hlaw:∀ns:List Int,ns.length<=63->Al2 [.sc ns]=.ret (.im (.bool true)) [.sc ns])
 (hR:(PyProof.Rows.recsOf q).map (λd=>(d.name,d.params,d.body,d.scope))=[rr "has_plain_signs" 13,rr "is_value" 14,rr "rank" 15,rr "is_name" 19,rr "are_columns" 20,rr "is_row" 21,rr "is_table" 22,rr "place_of" 23,rr "places_of" 24,rr "values_at" 25,rr "column" 26,rr "kept" 27,rr "sorted_by" 28,rr "alike" 29,rr "is_key" 30,rr "_law_cell_at" 32,rr "_law_box" 33,rr "_law_take" 34,rr "_law_many" 35,rr "_law_names" 36,rr "_law_value" 37,rr "_law_pool" 38,rr "_law_table" 39,rr "_law_any_table" 40,rr "_law_same" 41,rr "_law_called" 42,rr "_law_refused" 43,rr "_law_bad_names" 44,rr "law" 45])
 (hB:(["ValueError", "abs", "all", "bool", "enumerate", "int", "isinstance", "len", "list", "min", "range", "set", "sorted", "str", "tuple", "zip"]:List Str).all (A6h q loose ["has_plain_signs", "is_value", "rank", "is_name", "are_columns", "is_row", "is_table", "place_of", "places_of", "values_at", "column", "kept", "sorted_by", "alike", "is_key", "_law_cell_at", "_law_box", "_law_take", "_law_many", "_law_names", "_law_value", "_law_pool", "_law_table", "_law_any_table", lQ, "_law_called", "_law_refused", "_law_bad_names", "law"])=true)
 (hc_LETTERS:PyProof.Rows.valOf q "LETTERS" = some (PyData.str "abcdefghijklmnopqrstuvwxyz"))
 (hc_LONGEST_NAME:PyProof.Rows.valOf q "LONGEST_NAME" = some (PyData.int 8))
 (hF:A0e xcR xcT xcV xcF h)
 (hI:Az8 xcJ xcY h) :
 ∃(K:PySem.W.Frag) (fd:FuncData),K.In h/\TabAt K h/\(∀(s:Shared) (v:Value),BindsTo s fd ⟨[v],[]⟩ [("_law_script",v)])/\∀base:Heap,K.In base->base.Ns mainGlobals mg->FnOk l.prog w K mg base CX0 9 fa fd [lL] (Ar6 K):=by
 obtain⟨d13,m13,n13,p13⟩:=Ag5 hR (i:=12) rfl;obtain⟨yH,T_sorted_by,hd_sorted_by,ht_sorted_by,hc_sorted_by⟩:=Bb1 T m13
 obtain⟨kin,tab,hcd,hK⟩:=B0x (h:=h) (tabs:=[(yH,T_sorted_by,(("sorted_by" : Str) ++ ".<locals>." ++ "<lambda>"))]) (λt m=>by cases List.mem_singleton.mp m;exact⟨hd_sorted_by,ht_sorted_by⟩) (λt m=>by cases List.mem_singleton.mp m;simp)
 obtain⟨lc_sorted_by,lt_sorted_by⟩:=hcd _ (List.mem_singleton.mpr rfl)
 generalize Qo h [(yH,T_sorted_by,(("sorted_by" : Str) ++ ".<locals>." ++ "<lambda>"))]=K at *
 obtain⟨f1,fd1,F1,g1⟩:=Cw T hK hR (st:=G8) (i:=0) rfl;have b1:=bi F1 ["text"];obtain⟨f2,fd2,F2,g2⟩:=Cw T hK hR (st:=Ol) (i:=1) rfl;have b2:=bi F2 ["thing"];obtain⟨f3,fd3,F3,g3⟩:=Cw T hK hR (st:=Yu) (i:=2) rfl;have b3:=bi F3 ["value"];obtain⟨f4,fd4,F4,g4⟩:=Cw T hK hR (st:=Q9) (i:=3) rfl;have b4:=bi F4 ["thing"];obtain⟨f5,fd5,F5,g5⟩:=Cw T hK hR (st:=Ka) (i:=4) rfl;have b5:=bi F5 ["thing"];obtain⟨f6,fd6,F6,g6⟩:=Cw T hK hR (st:=Ul) (i:=5) rfl;have b6:=bi F6 ["thing", "width"];obtain⟨f7,fd7,F7,g7⟩:=Cw T hK hR (st:=Oh) (i:=6) rfl;have b7:=bi F7 ["thing"];obtain⟨f8,fd8,F8,g8⟩:=Cw T hK hR (st:=O6) (i:=7) rfl;have b8:=bi F8 ["table", "name"];obtain⟨f9,fd9,F9,g9⟩:=Cw T hK hR (st:=Lz) (i:=8) rfl;have b9:=bi F9 ["table", "names"];obtain⟨f10,fd10,F10,g10⟩:=Cw T hK hR (st:=Mp) (i:=9) rfl;have b10:=bi F10 ["row", "places"];obtain⟨f11,fd11,F11,g11⟩:=Cw T hK hR (st:=V3) (i:=10) rfl;have b11:=bi F11 ["table", "name"];obtain⟨f12,fd12,F12,g12⟩:=Cw T hK hR (st:=Al3) (i:=11) rfl;have b12:=bi F12 ["table", "names"];obtain⟨f13,fd13,F13,g13⟩:=Cw T hK hR (st:=Mt) (i:=12) rfl;have b13:=bi F13 ["table", "names"]
 have ld_sorted_by:fd13.code=.ref yH:=A4f F13 kin (by have z:d13.name = "sorted_by" := n13;rw[<- z];exact hc_sorted_by) g13
 obtain⟨f14,fd14,F14,g14⟩:=Cw T hK hR (st:=Y6) (i:=13) rfl;have b14:=bi F14 ["table", "names"];obtain⟨f15,fd15,F15,g15⟩:=Cw T hK hR (st:=Vt) (i:=14) rfl;have b15:=bi F15 ["table", "names"];obtain⟨f16,fd16,F16,g16⟩:=Cw T hK hR (st:=Mf) (i:=15) rfl;have b16:=bi F16 [lL, "_law_k"];obtain⟨f17,fd17,F17,g17⟩:=Cw T hK hR (st:=Zr) (i:=16) rfl;have b17:=bi F17 [lL, "_law_k"];obtain⟨f18,fd18,F18,g18⟩:=Cw T hK hR (st:=Wf) (i:=17) rfl;have b18:=bi F18 [lH, lK];obtain⟨f19,fd19,F19,g19⟩:=Cw T hK hR (st:=Vx) (i:=18) rfl;have b19:=bi F19 [lH, "_law_least", "_law_few", "_law_most"];obtain⟨f20,fd20,F20,g20⟩:=Cw T hK hR (st:=Ro) (i:=19) rfl;have b20:=bi F20 [lH, lK];obtain⟨f21,fd21,F21,g21⟩:=Cw T hK hR (st:=Ra) (i:=20) rfl;have b21:=bi F21 [lH];obtain⟨f22,fd22,F22,g22⟩:=Cw T hK hR (st:=Vb) (i:=21) rfl;have b22:=bi F22 [lH, lK];obtain⟨f23,fd23,F23,g23⟩:=Cw T hK hR (st:=Rc) (i:=22) rfl;have b23:=bi F23 [lH, lK, "_law_rows"];obtain⟨f24,fd24,F24,g24⟩:=Cw T hK hR (st:=J3) (i:=23) rfl;have b24:=bi F24 [lH];obtain⟨f25,fd25,F25,g25⟩:=Cw T hK hR (st:=Pj) (i:=24) rfl;have b25:=bi F25 [lP, "_law_due"];obtain⟨f26,fd26,F26,g26⟩:=Cw T hK hR (st:=O3) (i:=25) rfl;have b26:=bi F26 [lM, lJ, lN];obtain⟨f27,fd27,F27,g27⟩:=Cw T hK hR (st:=Mz) (i:=26) rfl;have b27:=bi F27 [lM, lJ, lN];obtain⟨f28,fd28,F28,g28⟩:=Cw T hK hR (st:=J7) (i:=27) rfl;have b28:=bi F28 [lH, lJ, lR];obtain⟨f29,fd29,F29,g29⟩:=Cw T hK hR (st:=A8e) (i:=28) rfl;have b29:=bi F29 [lL]
 have yC:=Dk (x := "ValueError") T (Dc hR) hB (by simp)
 have yS:=Dk (x := "abs") T (Dc hR) hB (by simp)
 have zP:=Dk (x := "all") T (Dc hR) hB (by simp)
 have zU:=Dk (x := "bool") T (Dc hR) hB (by simp)
 have yG:=Dk (x := "enumerate") T (Dc hR) hB (by simp)
 have zR:=Dk (x := "int") T (Dc hR) hB (by simp)
 have z7:=Dk (x := "isinstance") T (Dc hR) hB (by simp)
 have zA:=Dk (x := "len") T (Dc hR) hB (by simp)
 have zF:=Dk (x := "list") T (Dc hR) hB (by simp)
 have yQ:=Dk (x := "min") T (Dc hR) hB (by simp)
 have zG:=Dk (x := "range") T (Dc hR) hB (by simp)
 have yU:=Dk (x := "set") T (Dc hR) hB (by simp)
 have yK:=Dk (x := "sorted") T (Dc hR) hB (by simp)
 have zM:=Dk (x := "str") T (Dc hR) hB (by simp)
 have z8:=Dk (x := "tuple") T (Dc hR) hB (by simp)
 have zW:=Dk (x := "zip") T (Dc hR) hB (by simp)
 have yI:∃t,mg "LETTERS" = some (Value.str "abcdefghijklmnopqrstuvwxyz" t):=Ay3 T hc_LETTERS;have zV:∃t,mg "LONGEST_NAME" = some (Value.int 8 t):=const_int T hc_LONGEST_NAME;obtain⟨qR,qT,i8,qF⟩:=Ba8 hF kin T.g hK;have k8:ClT K mg [("NoColumn",false)] "BadColumns" := qT 0 _ rfl;have l0:ClT K mg [("NoColumn",false)] "BadOrder" := qT 1 _ rfl;have j7:ClT K mg [("NoColumn",false)] "BadRow" := qT 2 _ rfl;have l8:ClT K mg [("NoColumn",false)] "BadWay" := qT 3 _ rfl;have m3:ClT K mg [("NoColumn",false)] "Double" := qT 4 _ rfl;have i4:ClT K mg [("NoColumn",true)] "NoColumn" := qT 5 _ rfl;have i9:ClT K mg [("NoColumn",false)] "NoHead" := qT 6 _ rfl;have k6:ClT K mg [("NoColumn",false)] "NoNumber" := qT 7 _ rfl;have j6:ClT K mg [("NoColumn",false)] "NoPart" := qT 8 _ rfl;have j5:ClT K mg [("NoColumn",false)] "NoRow" := qT 9 _ rfl;obtain⟨qJ,qY⟩:=Bi7 hI kin T.g hK
 have i_NoColumn:ClI K mg ⟨"NoColumn.__init__", "FoldError", "name", "name", "no column ", ""⟩ "NoColumn" := qJ 0 _ rfl (Aw6 λ_ _ _ _ _ _ _ _ _ _ _ _ _ _ _ _ _ _ _=>rfl)
 have i7:ClF K mg ["NoColumn"] "FoldError" := let ⟨g,a,b,_⟩:=qY 0 _ rfl; ⟨g,a,b⟩
 have e:=hfa.symm.trans g29
 cases e
 refine⟨K,fd29,kin,tab,A5h F29 (λkV dc pm an cd ct s v=>.of_eq rfl),λbase _ _=>?_⟩
 have M:∀{k f fd x ps sp},FnOk l.prog w K mg base CX0 k f fd ps sp->Binds K fd ps []->PySem.W.keepIn K (.ref f)=true->mg x=some (.ref f)->Def l.prog w K mg base x k ps sp:=mkD;have w5:=M (O4 F1 zP) b1 F1.kp g1;have q9:=M (Ah2 F2 w5 zU zR z7 zM) b2 F2.kp g2;have l6:Def l.prog w K mg base "rank" 2 ["value"] (spP K (G5 2)):=mkD (Aj6 F3 b3 g3 zR z7 zM z8 2) b3 F3.kp g3;have aB9:=M (Ap8 F4 zP z7 zA zM yI zV) b4 F4.kp g4;have m5:=M (V7 F5 aB9 zP z7 zA yU z8) b5 F5.kp g5;have j9:=M (Az1 F6 q9 zP z7 zA z8) b6 F6.kp g6;have l9:=M (Ag1 F7 m5 j9 zP z7 zA z8) b7 F7.kp g7;have c7:=mkX (Ah9 (P:=l.prog) (w:=w) (mg:=mg) (base:=base) F8 i_NoColumn) b8 F8.kp g8;have a7:=mkX (Z8 (P:=l.prog) (w:=w) (mg:=mg) (base:=base) F9 c7) b9 F9.kp g9;have a6:=M (Zy F10 z8) b10 F10.kp g10;have i5:=mkX (Az2 (P:=l.prog) (w:=w) (mg:=mg) (base:=base) F11 c7) b11 F11.kp g11;have j4:=mkX (Bb8 (P:=l.prog) (w:=w) (mg:=mg) (base:=base) F12 a7 a6 z8) b12 F12.kp g12;have l7:=mkX (Ab1 (P:=l.prog) (w:=w) (mg:=mg) (base:=base) F13 lt_sorted_by lc_sorted_by ld_sorted_by l6 a7 a6 yK z8) b13 F13.kp g13;have c8:=mkX (A6p (P:=l.prog) (w:=w) (mg:=mg) (base:=base) F14 a7 a6 yG zF) b14 F14.kp g14;have j3:=mkX (A0f (P:=l.prog) (w:=w) (mg:=mg) (base:=base) F15 l9 c8 z7 zA zF z8) b15 F15.kp g15;have aA2:=M (Zb F16 zA) b16 F16.kp g16;have j2:=M (A5b F17 aA2 yS zR) b17 F17.kp g17;have a5:=M (A0q F18 ) b18 F18.kp g18;have h9:=M (A1o F19 a5) b19 F19.kp g19;have m6:=M (Ap0 F20 a5 zA zG) b20 F20.kp g20;have z5:=M (Ap9 F21 a5) b21 F21.kp g21;have k7:=M (A0d F22 z5 zG) b22 F22.kp g22;have j8:=M (An0 F23 a5 m6 k7 zA zG z8) b23 F23.kp g23;have e9:=M (V5 F24 h9 j8) b24 F24.kp g24;have a8:Def l.prog w K mg base "_law_same" 5 [lP, "_law_due"] (spP K (Bq 5)):=mkD (Vw F25 b25 g25 zP zU zR z7 zA zF zM z8 zW 5) b25 F25.kp g25;have a9:=mkX (Ad3 (P:=l.prog) (w:=w) (mg:=mg) (base:=base) F26 i5 j4 l7 c8 j3) b26 F26.kp g26;have h7:=M (Yq F27 a9 yC z7 k8 l0 j7 l8 m3 i4 i9 k6 j6 j5 i8 i_NoColumn i7) b27 F27.kp g27;have i6:=M (Wg F28 a5 zA zF zG) b28 F28.kp g28
 exact(Bp4 F29 j2 e9 a8 a9 h7 i6 zA zF yQ zG z8 zW).imp λvs H Q E h=>By5 hlaw h
theorem walk {l:PySem.W.OpenLaw}{q:Program}{loose:List Str}{XP:(Str->Option Value)->Heap->Prop}{YP:World->Heap->Prop}{d:DefRec}(hn:l.most=some 63)(hdf:d.params.defaults=[])
 (F:∀(w:World) (mean:ExcName->Option Value) (mg mb:Str->Option Value) (fa:Addr) (h:Heap),PyProof.Rows.Top q (PySem.W.looseW q loose) mean mg mb h->XP mg h->mg d.name=some (.ref fa) ->
  ∃(K:PySem.W.Frag) (fd:FuncData),K.In h/\TabAt K h/\(∀(s:Shared) (u:Value),BindsTo s fd ⟨[u],[]⟩ [("_law_script",u)])/\∀base:Heap,K.In base->base.Ns mainGlobals mg->FnOk l.prog w K mg base CX0 9 fa fd [lL] (Ar6 K)) :
 PySem.W.WalkO q loose XP YP l.row.toRowW d [] (λf vs=>PySem.call f vs) :=
 L2.walk_ofX (n:=63) (k:=9) (x := "_law_script") (sp:=Ar6) hn (by decide) hdf ⟨rfl,by decide,by decide,rfl⟩ F λ_ _ a ns hl hS=>⟨a,ns,rfl,hS,hl,λ_=>rfl⟩
end K
open PySem PySem.W PyProof.Rows
set_option maxHeartbeats 0
namespace K
noncomputable def dOf:Stmt->DefRec
 | .FunctionDef _ a b _ _ _ s _ _ p=>⟨"law",a,b,s,p⟩
 | _=>⟨"law",⟨[],[],none,[],[],none,[]⟩,[],default,default⟩
def dL:DefRec:=⟨"law",(dOf (top 45)).params,(dOf (top 45)).body,(dOf (top 45)).scope,(dOf (top 45)).pos⟩
theorem B1m:rwT.wellSaid=true:=by kernel_rfl
theorem B3h:defOf qT rwT.row.name=some (dL,[]):=by kernel_rfl
theorem B3g:rwT.row.prog.theDef rwT.row.name=some (dL.params,dL.body,dL.scope):=by trivial
theorem kwT:kwWritten? dL.params.kwonlyargs dL.params.kw_defaults=some []:=by trivial
theorem okT:(chainsOk qT&&opensWell rwT.row.prog&&(frees rwT.row.toRowW&&rwT.row.within.isEmpty))=true:=by trivial
theorem dfT:dL.params.defaults=[]:=by rfl
theorem B1u:rwT.row.prog.bare:=⟨rfl,rfl,rfl,rfl,rfl,by decide +kernel⟩
theorem B2j:rwT.row.toRowW.promised:=by w_witness2
end K
theorem PySem.Challenge.cw_pivotfold_k07_columns_that_arent_there_holds : PySem.Challenge.rw_pivotfold_k07_columns_that_arent_there.Holds := by
 refine holds_law K.B1m λsaid=>?_
 refine holds_open (q:=K.qT) (loose:=[]) (Xt:=K.xtT) (XP:=(λ_ h=>L2.A0e K.xcR K.xcT K.xcV K.xcF h/\L2.Az8 K.xcJ K.xcY h)) (Yf:=Hook.none.obs) (Ya:=Hook.none.val) (YP:=Hook.none.says) (N:=20000) K.B2o Hook.none.of Hook.none.keeps (λs e=>⟨L2.Bz9 (Bool.and_eq_true_iff.mp (Bool.and_eq_true_iff.mp e).1).2,L2.B1z (Bool.and_eq_true_iff.mp e).2⟩) (λmg h h' x hk=>⟨L2.A4s x.1 hk,L2.A7z x.2 hk⟩) K.B3h K.B3g K.kwT (λs e=>recFacts_of (Bool.and_eq_true_iff.mp (Bool.and_eq_true_iff.mp (Bool.and_eq_true_iff.mp e).1).1).2) rfl said K.okT K.B1u K.B2j ?_
 refine K.walk (l:=PySem.Challenge.rw_pivotfold_k07_columns_that_arent_there) rfl K.dfT ?F
 case F =>
  intro w mean mg mb fa h T X hmg
  refine K.Bw5 T hmg K.A3v ?R ?B ?yI ?zV X.1 X.2
  (case R=>kernel_rfl); (case B=>kernel_rfl); (case yI=>kernel_rfl); (case zV=>kernel_rfl)
end
