import PyProof.Rows.All
import PyProof.FactsAll.NoneType_1
import Wide.All
import OpenK.AllK
import Wide.FinOn
import Lean
import PyProof.EqAt
import PyProof.EqKinds
import PyProof.TupleCall
import PyProof.StrWalks
import PyProof.StrLawsRepr
import PyProof.ListMulRoad
import PyProof.StrOps2
import PyProof.CallStr
import PyProof.CollectStr
import PyProof.TupleOfSeq
import PyProof.DictTable
import KE.KSortTup
import PyProof.MeetsStr
import PyProof.FactsAll.str_5
import PyProof.StrBlockG
import PyProof.AttrMiss
import PyProof.FactsAll.zip_1
import KE.KDictOf
import PyProof.AttrMissHeap
import KE.KTryMore
import KE.KRevIter
import PyProof.ListRange
import PyProof.FactsAll.dict_3
import PyProof.MeetsDict
import PyProof.FactsAll.dict_keyiterator
import PyProof.DictItems
import PyProof.DictValues
import KE.KPairComp
import PyProof.TupleOfStr
import PyProof.TupleOfGen
import PyProof.ExcInit
import PyProof.InstStore
import PySem.Challenge.RW_pivotfold_k34_rows_by_a_head
set_option genInjectivity false
set_option genSizeOf false
set_option Elab.async false
set_option linter.all false
set_option maxRecDepth 100000
noncomputable section
section
open PySem
abbrev u_:=Shared
abbrev t_:=PyData
abbrev q_:=Around
abbrev u6:=Program
abbrev v4:=List Str
abbrev u5:=FuncData
abbrev v6:=List Addr
abbrev v_:=List Expr
abbrev w6:=List Value
abbrev p_:=Option Int
abbrev w5:=List t_
abbrev v7:=Array Value
abbrev v9:=PySem.W.Frag
abbrev u9:=Option Value
abbrev o4:=List (Nat×Nat)
abbrev o7:=Nat->v6
abbrev y_:=List (Addr×Obj)
abbrev v8:=Array DictEntry
abbrev x_:=Str->u9
abbrev o5:=List (Option Nat)
abbrev z_:=Value->u_->Prop
end
section
open PySem PySem.Spec PyProof.Rows PySem.W PySem.Calls PySem.MeetsSeq PySem.MeetsSeq2 PySem.MeetsSeq3 PySem.SeqAt
abbrev aj:=@Nat.le_trans
abbrev ak:=@Nat.le_refl
abbrev ao:=@List.length_map
abbrev aq:=@Bool.and_eq_true_iff
abbrev au:=@List.mem_cons
abbrev az:=@decide_eq_true
abbrev aA:=@Nat.lt_of_lt_of_le
abbrev aB:=@Ne.symm
abbrev aC:=@List.mem_append_right
abbrev aD:=@Nat.zero_le
abbrev aG:=@List.length_cons
abbrev aH:=@Option.map_eq_some_iff
abbrev aJ:=@List.mem_map
abbrev aK:=@decide_eq_false
abbrev aL:=@of_decide_eq_true
abbrev aM:=@Nat.ne_of_lt
abbrev aN:=@List.lookup_cons
abbrev aO:=@Bool.and_eq_true
abbrev aP:=@List.mem_singleton
abbrev aQ:=@List.map_cons
abbrev aU:=@List.all_eq_true
abbrev aV:=@beq_iff_eq
abbrev aW:=@Nat.lt_or_ge
abbrev aX:=@Nat.zero_add
abbrev aY:=@Nat.lt_irrefl
abbrev aZ:=@List.size_toArray
abbrev a_:=@List.mem_cons_self
abbrev bc:=@Nat.lt_of_le_of_lt
abbrev bf:=@List.not_mem_nil
abbrev bh:=@Option.bind_eq_some_iff
abbrev bj:=@Bool.false_ne_true
abbrev bw:=@List.mem_cons_of_mem
abbrev bx:=@List.mem_append
abbrev bz:=@List.mem_append_left
abbrev bA:=@List.mem_of_getElem?
abbrev bB:=@or_false
abbrev bC:=@true_and
abbrev bD:=@List.length_append
abbrev bG:=@List.getElem?_eq_some_iff
abbrev bH:=@Nat.ne_of_gt
abbrev bI:=@Nat.add_le_add_left
abbrev bJ:=@List.nodup_cons
abbrev bK:=@beq_self_eq_true
abbrev bL:=@Nat.le_add_right
abbrev bM:=@Nat.le_of_lt
abbrev bN:=@Option.some.inj
abbrev bO:=@congrArg
abbrev bQ:=@List.append_nil
abbrev bR:=@List.getElem?_eq_getElem
abbrev bT:=@List.getElem?_map
abbrev bU:=@List.length_nil
abbrev bV:=@Nat.mul_le_mul_left
abbrev bW:=@List.length_range
abbrev bY:=@List.getElem?_set_ne
abbrev bZ:=@List.zip_cons_cons
abbrev b_:=@List.length_set
abbrev c7:=@List.getElem?_cons_succ
abbrev cj:=@List.map_append
abbrev cu:=@List.getElem?_set_self
abbrev cz:=@List.length_take
abbrev cA:=@if_true
abbrev cB:=@beq_eq_false_iff_ne
abbrev cD:=@List.getElem?_append_left
abbrev cG:=@Nat.add_assoc
abbrev cH:=@PyProof.Rows.callWith_type1
abbrev cJ:=@eq_of_beq
abbrev cL:=@Nat.le_succ
abbrev cM:=@Nat.le_of_succ_le
abbrev cN:=@List.length_singleton
abbrev cP:=@Int.toNat_natCast
abbrev cQ:=@Nat.sub_zero
abbrev cR:=@List.getElem?_eq_none
abbrev cT:=@List.filterMap_cons
abbrev cU:=@PyProof.Rows.slot_tuple_getitem
abbrev cV:=@decide_eq_true_eq
abbrev cW:=@List.map_map
abbrev cX:=@Int.eq_ofNat_of_zero_le
abbrev cY:=@Nat.min_eq_left
abbrev cZ:=@List.mem_range
abbrev dg:=@PySem.mem_of_lookup
abbrev dh:=@Array.length_toList
abbrev dm:=@Nat.le_of_eq
abbrev dq:=@List.forIn_cons
abbrev du:=@Option.map_some
abbrev dw:=@PySem.F.plainAttrs_list
abbrev dz:=@Bool.not_eq_true'
abbrev dB:=@List.contains_cons
abbrev dC:=@List.nil_append
abbrev dD:=@Nat.sub_self
abbrev dF:=@List.nodup_nil
abbrev dG:=@List.getElem?_append_right
abbrev dH:=@List.append_assoc
abbrev dI:=@Array.Perm.refl
abbrev dJ:=@Nat.add_lt_add_of_lt_of_le
abbrev dM:=@List.set_comm
abbrev dN:=@List.mem_filterMap
abbrev dO:=@List.of_mem_zip
abbrev dR:=@List.length_drop
abbrev dU:=@Nat.succ_le_succ
abbrev dW:=@Nat.lt_trans
abbrev dX:=@Option.some.injEq
abbrev dY:=@Nat.lt_succ_self
abbrev dZ:=@List.zip_nil_left
abbrev d_:=@Nat.min_self
abbrev eE:=@List.drop_eq_nil_iff
abbrev eF:=@Array.getElem?_eq_some_iff
abbrev eG:=@PySem.F.excAttr_ValueError
abbrev eN:=@Option.map_none
abbrev eO:=@List.reverse_cons
abbrev eQ:=@List.length_replicate
abbrev eU:=@List.getElem?_range
abbrev eV:=@Nat.lt_of_succ_lt_succ
abbrev eX:=@Int.ofNat_le
abbrev eY:=@List.pairwise_cons
abbrev eZ:=@List.getD_eq_getElem?_getD
abbrev e_:=@Array.forIn_toList
abbrev fc:=@PySem.W.callWith_K
abbrev fu:=@PySem.W.cellsFrom_some
abbrev fB:=@PySem.F.slot_tuple_add
abbrev fC:=@PySem.F.entry_tuple_add
abbrev fG:=@PySem.F.args_tuple_add_2
abbrev fH:=@Nat.le_of_not_lt
abbrev fJ:=@Nat.lt_succ_of_lt
abbrev fK:=@Nat.min_le_right
abbrev fL:=@Bool.not_eq_true
abbrev fM:=@PyProof.Rows.F.plain_set_update_loop
abbrev fO:=@List.take_length
abbrev fP:=@Array.getElem?_toList
abbrev fQ:=@Bool.false_eq_true
abbrev fU:=@PySem.F.excBase_ValueError
abbrev fV:=@PySem.F.typeOf_object_class
abbrev fW:=@Bool.or_eq_true_iff
abbrev fX:=@List.eraseIdx_cons_succ
abbrev fY:=@PyProof.Rows.callWith_builtin1
abbrev fZ:=@PyProof.Rows.F.entry_set_update_loop
end
namespace L2
open PySem PySem.Spec PyProof.Rows PySem.W
abbrev bmV:w6:=[.type "ValueError",.type "Exception",.type "BaseException",.type "object"]
def Yh (K:v9)(C:Addr):Bool:=match K.lookup C with
 | some ⟨.type "type",_,.cls cd,sl⟩=>cd.hasDict&&!cd.hasDel&&(match cd.mro with
  | .ref A::bm=>A==C&&tailIn K bmV bm
  | _=>false)&&(match sl.toList with
  | [_,_,_,_,some (.builtin n),_]=>n == "ValueError.__new__"
  | _=>false)
 | _=>false
def xcB (K:Frag)(C:Addr):Bool:=Yh K C&&(findIn K (.ref C) "__getattribute__" == some (some (.builtin "BaseException.__getattribute__"))&&(findIn K (.ref C) "__getattr__" == some none&&findIn K (.ref C) "__class__" == some (some (.builtin "object.__class__"))))
def clB (K:Frag)(x:Str)(p:Addr->Bool):Bool:=match nsIn K mainGlobals x with
 | some (some (.ref C))=>p C
 | _=>false
def tbB (K:Frag)(z:Value)(tbl:List (Str×Bool)):Bool:=tbl.all fun p=>clB K p.1 fun C=>xcB K C&&kitOne K (.ref C) z==some p.2
def exB (K:Frag)(F:Addr)(NS:v4):Bool:=NS.all fun x=>clB K x fun C=>exmOne K (.ref C) (.ref F)==some true
def Br2 (o:Obj):Bool:=match o.data with
 | .cls _=>true
 | .dict _ _=>true
 | _=>false
def Bb2 (l:List Nat)(h:Heap):Frag:=l.filterMap fun a=>((h.get? a).bind fun o=>if Br2 o=true then some o else none).map fun o=>(a,o)
def cfB (R:v4)(T:List (Str×List (Str×Bool)))(V:List (Str×Bool))(F:v4)(K:Frag):Bool :=
 (R.all fun x=>clB K x fun C=>excIn K C bmV "ValueError.__new__")&&((T.all fun q=>clB K q.1 fun C=>tbB K (.ref C) q.2)&&(tbB K (.type "ValueError") V&&F.all fun x=>clB K x fun C=>exB K C R))
def isNm (x:Str):Expr->Bool
 | .Name y _=>y==x
 | _=>false
def isAt (x f:Str):Expr->Bool
 | .Attribute e g _=>isNm x e&&g==f
 | _=>false
def A4e (x:Str):Expr->Bool
 | .Constant c _ _=>c==.str x
 | _=>false
def Bc8 (x:Str):Expr->Bool
 | .FormattedValue e c none _=>isNm x e&&c==114
 | _=>false
def A3r (x y z:Str):Expr->Bool
 | .JoinedStr [a,b] _=>A4e y a&&Bc8 x b
 | .JoinedStr [a,b,c] _=>A4e y a&&Bc8 x b&&A4e z c
 | _=>false
def stE:Stmt->Option (Expr×v_)
 | .Expr (.Call (.Attribute g m q) as [] p) _=>if (m == "__init__" && q.endLine==p.line)=true then some (g,as) else none
 | _=>none
def stA:Stmt->Option (Expr×Expr)
 | .Assign [g] v _=>some (g,v)
 | _=>none
def Bs0 (F p f y z:Str):List Stmt->Bool
 | [s,u]=>(match stE s with
  | some (g,[a,j])=>isNm F g&&(isNm "self" a&&A3r p y z j)
  | _=>false)&&(match stA u with
  | some (g,v)=>isAt "self" f g&&isNm p v
  | _=>false)
 | _=>false
def Bt8 (p:Str):Arguments->Bool
 | ⟨[],[a,b],none,[],[],none,[]⟩=>a.arg == "self" && b.arg==p
 | _=>false
structure Il where
 q:Str
 F:Str
 p:Str
 f:Str
 y:Str
 z:Str
def B0y (D:Il)(sc:Scope):Bool:=decide (sc.kind=.function)&&(!sc.isCoroutine&&(!sc.isGenerator&&(sc.names.lookup ("self" : Str)==some .local&&(sc.names.lookup D.p==some .local&&(sc.names.lookup D.F==some .globalImplicit&&sc.names.all fun y=>y.2 != .free)))))
def fnB (K:Frag)(D:Il)(fd:u5):Bool:=fd.qualname==D.q&&(fd.globals==mainGlobals&&(fd.closure.isEmpty&&(fd.builtins==builtinsNs&&(fd.defaults==.none&&(codeIn K fd.code D.q&&(Bt8 D.p fd.params&&(B0y D fd.scope&&(match fd.body with
 | .stmts b=>Bs0 D.F D.p D.f D.y D.z b
 | _=>false))))))))
def Wh (K:Frag)(D:Il)(a:Addr):Bool:=match K.lookup a with
 | some ⟨.type "function",_,.func fd,_⟩=>fnB K D fd
 | _=>false
def Aq4 (D:Il):Bool:=decide (D.y.length<=1000)&&(decide (D.z.length<=1000)&&(D.p != "self" && ((D.p==("__debug__" : Str))==false&&((D.p==("__classdict__" : Str))==false&&(D.F==("__debug__" : Str))==false))))
def ikB (K:Frag)(C F:Addr)(f:Str):Bool:=Yh K C&&(findIn K (.ref C) "__setattr__" == some (some (.builtin "object.__setattr__"))&&(findIn K (.ref C) f==some none&&(typeIn K (.ref F)==some (.type "type")&&(nsIn K cStatics "thirdparty.any" == some none&&findIn K (.ref F) "__init__" == some (some (.builtin "ValueError.__init__"))))))
def ciB (K:Frag)(x:Str)(D:Il):Bool:=Aq4 D&&clB K x fun C=>clB K D.F fun F=>xcB K C&&ikB K C F D.f&&(match findIn K (.ref C) "__init__" with
 | some (some (.ref a))=>Wh K D a
 | _=>false)
def exN (K:Frag)(F:Addr)(NS:v4):Bool:=NS.all fun x=>clB K x fun C=>exmOne K (.ref C) (.ref F)==some false
def Bx2 (o:Obj):Bool:=match o.data with
 | .cell _=>false
 | .fields vs=>vs.size != 0
 | _=>true
def A9x (l:List Nat)(h:Heap):Frag:=l.filterMap fun a=>((h.get? a).bind fun o=>if Bx2 o=true then some o else none).map fun o=>(a,o)
def ciA (J:List (Str×Il))(Y:List (Str×List Str×v4))(K:Frag):Bool:=(J.all fun q=>ciB K q.1 q.2)&&Y.all fun q=>clB K q.1 fun F=>exB K F q.2.1&&exN K F q.2.2
end L2
namespace K
open PySem PySem.W PyProof.Rows
def xcR:v4:=["NoHead"]
def xcT:List (Str×List (Str×Bool)):=[("BadColumns",[("NoHead",false),("NoColumn",false)]),("BadOrder",[("NoHead",false),("NoColumn",false)]),("BadRow",[("NoHead",false),("NoColumn",false)]),("BadWay",[("NoHead",false),("NoColumn",false)]),("Double",[("NoHead",false),("NoColumn",false)]),("NoColumn",[("NoHead",false),("NoColumn",true)]),("NoHead",[("NoHead",true),("NoColumn",false)]),("NoNumber",[("NoHead",false),("NoColumn",false)]),("NoPart",[("NoHead",false),("NoColumn",false)]),("NoRow",[("NoHead",false),("NoColumn",false)])]
def xcV:List (Str×Bool):=[("NoHead",true),("NoColumn",true)]
def xcF:v4:=[]
def xcJ:List (Str×L2.Il):=[("NoColumn",⟨"NoColumn.__init__", "FoldError", "name", "name", "no column ", ""⟩)]
def xcY:List (Str×List Str×v4):=[("FoldError",["NoHead", "NoColumn"],[]),("NoColumn",["NoColumn"],["NoHead"])]
abbrev pwT:=PySem.Challenge.pw_pivotfold_k34_rows_by_a_head
abbrev rwT:=PySem.Challenge.rw_pivotfold_k34_rows_by_a_head
def B2p:Stmt->Bool
 | .FunctionDef ..=>true
 | .ClassDef ..=>true
 | _=>false
def qT:u6:={ pwT with main:={ pwT.main with body:=pwT.main.body.filter B2p } }
abbrev xtT:u_->Bool:=fun s=>xlAt qT [] s&&recOk (RowW.records rwT.row.toRowW) s&&L2.cfB xcR xcT xcV xcF (L2.Bb2 [3,97,96,24,23,128,127,37,49,166,61,147,73,85,109] s.heap)&&L2.ciA xcJ xcY (L2.A9x [2,3,128,127,24,23,97,96,125,124] s.heap)
set_option maxHeartbeats 0 in
theorem B1q:LeftO rwT.row.prog qT [] xtT Hook.none.obs Hook.none.val 20000:=fun w=>by kernel_rfl
end K
namespace L2
open PySem PySem.Spec PyProof.Rows
abbrev Key:=Sum Int Str
def S6:Key->Value->Bool
 | .inl k,v=>Value.isInt k v
 | .inr x,v=>Value.isStrOf x v
def Bq7 (w:World):Key->Int
 | .inl k=>hashInt k
 | .inr x=>hashStr w x
theorem Dz:∀{k:Key}{v:Value},S6 k v=true->(∃i t,k=Sum.inl i/\v=Value.int i t)\/(∃x t,k=Sum.inr x/\v=Value.str x t)
 | .inl i,v,h=>by
  obtain⟨t,e⟩:=Value.isInt_shape (k:=i) (v:=v) h;exact .inl ⟨i,t,rfl,e⟩
 | .inr x,v,h=>by
  obtain⟨t,e⟩:=Value.isStrOf_shape (x:=x) (v:=v) h;exact .inr ⟨x,t,rfl,e⟩
theorem A0l (i:Int)(t:Tok):S6 (.inl i) (.int i t)=true:=by simp[S6,Value.isInt]
theorem A0k (x:Str)(t:Tok):S6 (.inr x) (.str x t)=true:=by simp[S6,Value.isStrOf]
theorem Bs9 (a b:Int):decide ((Sum.inl a:Key)=Sum.inl b)=(a==b):=by
 grind
theorem Bw2 (a b:Str):decide ((Sum.inr a:Key)=Sum.inr b)=decide (a=b):=by
 grind
theorem Bs7 (a:Int)(b:Str):decide ((Sum.inl a:Key)=Sum.inr b)=false:=aK fun q=>nomatch q
theorem Bw1 (a:Str)(b:Int):decide ((Sum.inr a:Key)=Sum.inl b)=false:=aK fun q=>nomatch q
def Es (prog:u6)(w:World):PySem.KeyKind prog w Key where
 is:=S6
 hash:=Bq7 w
 inj:=fun v a b ha hb=>by
  rcases Dz ha with ⟨i,t,rfl,rfl⟩ | ⟨x,t,rfl,rfl⟩
  ·rcases Dz hb with ⟨j,u,rfl,e⟩ | ⟨y,u,rfl,e⟩
   ·injection e with e1 _;rw[e1]
   ·exact nomatch e
  ·rcases Dz hb with ⟨j,u,rfl,e⟩ | ⟨y,u,rfl,e⟩
   ·exact nomatch e
   ·injection e with e1 _;rw[e1]
 byValue:=fun k v h=>by
  rcases Dz h with ⟨i,t,rfl,rfl⟩ | ⟨x,t,rfl,rfl⟩ <;> rfl
 pyHash:=fun hv h=>by
  rcases Dz hv with ⟨i,t,rfl,rfl⟩ | ⟨x,t,rfl,rfl⟩
  ·exact wpAny_pyHash_int h
  ·exact wpAny_pyHash_str h
 eqBool:=fun hu hv h=>by
  rcases Dz hu with ⟨i,t,rfl,rfl⟩ | ⟨x,t,rfl,rfl⟩
  ·rcases Dz hv with ⟨j,u,rfl,rfl⟩ | ⟨y,u,rfl,rfl⟩
   ·rw[Bs9]at h;exact wpAny_eqBool_int h
   ·rw[Bs7]at h;exact SeqAt.EqAt.int_str i t y u _ _ _ _ h
  ·rcases Dz hv with ⟨j,u,rfl,rfl⟩ | ⟨y,u,rfl,rfl⟩
   ·rw[Bw1]at h;exact SeqAt.EqAt.str_int x t j u _ _ _ _ h
   ·rw[Bw2]at h;exact wpAny_eqBool_str h
 «strs»:=fun k x t v h=>by
  rcases Dz h with ⟨i,u,rfl,e⟩ | ⟨y,u,rfl,e⟩
  ·exact nomatch e
  ·injection e with e1 _
   subst e1
   cases v <;> rfl
theorem Lg (prog:u6)(w:World)(i:Int)(t:Tok):(Es prog w).is (.inl i) (.int i t)=true:=A0l i t
theorem La (prog:u6)(w:World)(x:Str)(t:Tok):(Es prog w).is (.inr x) (.str x t)=true:=A0k x t
noncomputable instance B4i:DecidableEq t_:=fun a b=>Classical.propDecidable (a=b)
mutual
def keyB:t_->Bool
 | .none=>true
 | .int _=>true
 | .str _=>true
 | .tuple ds=>Fj ds
 | _=>false
def Fj:w5->Bool
 | []=>true
 | d::ds=>keyB d&&Fj ds
end
mutual
theorem N7:∀(x y:t_),keyB x=true->keyB y=true->(PyData.eqv x y=true↔x=y)
 | .none,y,_,hy=>by cases y <;> simp_all [PyData.eqv,keyB]
 | .int _,y,_,hy=>by cases y <;> simp_all [PyData.eqv,keyB]
 | .str _,y,_,hy=>by cases y <;> simp_all [PyData.eqv,keyB]
 | .tuple xs,.tuple ys,hx,hy=>by
  have:=Ab8 xs ys hx hy
  show PyData.eqvAll xs ys=true↔_
  rw[this]
  exact⟨fun e=>by rw[e],fun e=>by cases e;rfl⟩
 | .tuple xs,.none,hx,hy=>⟨(fun e=>nomatch e),fun e=>nomatch e⟩
 | .tuple xs,.int _,hx,hy=>⟨(fun e=>nomatch e),fun e=>nomatch e⟩
 | .tuple xs,.str _,hx,hy=>⟨(fun e=>nomatch e),fun e=>nomatch e⟩
theorem Ab8:∀(xs ys:w5),Fj xs=true->Fj ys=true->(PyData.eqvAll xs ys=true↔xs=ys)
 | [],[],_,_=>⟨fun _=>rfl,fun _=>rfl⟩
 | [],_::_,_,_=>⟨(fun e=>nomatch e),fun e=>nomatch e⟩
 | _::_,[],_,_=>⟨(fun e=>nomatch e),fun e=>nomatch e⟩
 | x::xs,y::ys,hx,hy=>by
  obtain⟨a,b⟩:=aq.mp (show (keyB x&&Fj xs)=true from hx)
  obtain⟨c,d⟩:=aq.mp (show (keyB y&&Fj ys)=true from hy)
  show (PyData.eqv x y&&PyData.eqvAll xs ys)=true↔_
  rw[aq,N7 x y a c,Ab8 xs ys b d,List.cons.injEq]
end
mutual
theorem Tu {h h':Heap}{d:Addr}{o:Obj}{es:v8}{ep:Nat}(ho:h.get? d=some o)(hd:o.data=.dict es ep)(hs:Heap.SameBut d h h'):∀(k:t_),keyB k=true->∀(v:Value) (as:v6),Reads h v k as->Reads h' v k as
 | .none,_,_,_,r=>by cases r;exact .none
 | .int i,_,_,_,r=>by cases r;exact .int _ _
 | .str x,_,_,_,r=>by cases r;exact .str _ _
 | .tuple ds,hk,_,_,r=>by
  cases r with
  | @tuple a o' vs n xs as h1 h2 h3 h4 =>
   refine .tuple ((hs.2 a ?_).trans h1) h2 h3 (Q8 ho hd hs ds hk _ _ h4)
   intro e;rw[e,ho]at h1;cases h1;rw[hd]at h3;cases h3
theorem Q8 {h h':Heap}{d:Addr}{o:Obj}{es:v8}{ep:Nat}(ho:h.get? d=some o)(hd:o.data=.dict es ep)(hs:Heap.SameBut d h h'):∀(ks:w5),Fj ks=true->∀(vs:w6) (as:v6),ReadsAll h vs ks as->ReadsAll h' vs ks as
 | [],_,_,_,r=>by cases r;exact .nil
 | k::ks,hk,_,_,r=>by
  obtain⟨a,b⟩:=aq.mp (show (keyB k&&Fj ks)=true from hk)
  cases r with
  | cons r1 r2=>exact .cons (Tu ho hd hs k a _ _ r1) (Q8 ho hd hs ks b _ _ r2)
end
mutual
def Z2 (w:World):t_->Int
 | .none=>hashInt 0xFCA86420
 | .int i=>Bq7 w (.inl i)
 | .str x=>Bq7 w (.inr x)
 | .tuple ds=>reduceHash (Builtin.Tuple.tupleHashOf (Kl w ds))
 | _=>0
def Kl (w:World):w5->List Int
 | []=>[]
 | d::ds=>Z2 w d::Kl w ds
end
mutual
def Ab7:t_->Nat
 | .tuple ds=>K7 ds+1
 | _=>1
def K7:w5->Nat
 | []=>0
 | d::ds=>Ab7 d+K7 ds
end
section
variable {prog:u6}{w:World}
theorem Wu     (h:Q (hashInt 0xFCA86420) { s with toks:=s.toks+1 }):wpAny (model prog w) A (pyHash .none) Q E s:=by
 have a:s.TypeIs Value.none "NoneType" := rfl;unfold pyHash
 first | unfold pyHashByItsType | skip
 have b:[Value.none].any Value.onHeap=false:=rfl
 refine wpAny_bind ?_
 rw[cRoomFor,if_neg (by rw[b];exact bj)];refine wpAny_pure ?_
 refine wpAny_bind (wpAny_specialOf a F.slot_NoneType_hash.lookup ?_)
 show wpAny _ _ (if (some (Value.builtin "NoneType.__hash__")==some Value.none)=true then _ else _) Q E s
 rw[if_neg (by rw[beq_builtin_none];exact bj)]
 refine wpAny_bind (wpAny_specialOf a F.slot_NoneType_hash.lookup ?_)
 show wpAny _ _ (callSpecialIfBoundUnlessNone? .none "__hash__" _ >>= _) Q E s
 refine wpAny_bind (wpAny_callSpecialIfBoundUnlessNone?_slot a F.slot_NoneType_hash
  (wpAny_call_entry F.slot_NoneType_hash a F.entry_NoneType_hash
   (show wpAny _ _ (do ret (<- mkInt _)) _ _ s from wpAny_ret_mkInt ?_) (F.args_NoneType_hash_1 _)))
 exact wpAny_pure h
theorem Az1:∀(n:Nat) (d:t_),d.depth<=n->keyB d=true->∀(A:q_) (E:z_) (s:u_) (v:Value) (y:v6) (Q:Int->u_->Prop),A.units+n<cLine->Reads s.heap v d y ->
 Q (Z2 w d) { s with toks:=s.toks+Ab7 d }->wpAny (model prog w) A (pyHash v) Q E s:=by
 intro n
 induction n with
 | zero =>
  intro d M j A E s v y Q C r h
  cases r with
  | none=>exact Wu h
  | int i t=>exact(Es prog w).pyHash (k:=.inl i) (v:=.int i t) (Lg prog w i t) h
  | str x t=>exact(Es prog w).pyHash (k:=.inr x) (v:=.str x t) (La prog w x t) h
  | tuple=>exact absurd M (by simp[PyData.depth])
  | bool b=>cases j
  | list=>cases j
  | dict=>cases j
 | succ n Y =>
  intro d M j A E s v y Q C r h
  cases r with
  | none=>exact Wu h
  | int i t=>exact(Es prog w).pyHash (k:=.inl i) (v:=.int i t) (Lg prog w i t) h
  | str x t=>exact(Es prog w).pyHash (k:=.inr x) (v:=.str x t) (La prog w x t) h
  | bool b=>cases j
  | list=>cases j
  | dict=>cases j
  | @tuple a o N n' g y R hc J U =>
   have G:s.TypeIs (.ref a) "tuple" := ⟨o,R,hc⟩
   have H:PyData.depthAll g<=n:=Nat.le_of_succ_le_succ (show PyData.depthAll g+1<=n+1 from M)
   have I:Fj g=true:=j;unfold pyHash
   first | unfold pyHashByItsType | skip
   first | refine wpAny_bind (wpAny_cRoomFor_or (.inr (bc (bL _ _) C)) ?_) | skip
   refine wpAny_bind (wpAny_specialOf G F.slot_tuple_hash.lookup ?_)
   show wpAny _ _ (if (some (Value.builtin "tuple.__hash__")==some Value.none)=true then _ else _) Q E s
   rw[if_neg (by rw[beq_builtin_none];exact bj)]
   refine wpAny_bind (wpAny_specialOf G F.slot_tuple_hash.lookup ?_)
   show wpAny _ _ (callSpecialIfBoundUnlessNone? (.ref a) "__hash__" _ >>= _) Q E s
   refine wpAny_bind (wpAny_callSpecialIfBoundUnlessNone?_slot G F.slot_tuple_hash (wpAny_call_entry F.slot_tuple_hash G F.entry_tuple_hash ?_ (F.args_tuple_hash_1 _)))
   show wpAny _ _ (Builtin.Tuple.tupleItemsOf (.ref a) >>= _) _ _ s
   refine wpAny_bind (wpAny_tupleItemsOf R J ?_)
   refine wpAny_bind ?_
   rw[<- e_]
   refine wpAny_forIn_list _
    (fun m (b:Array Int) O=>∃c e K,Kl w g=c++Kl w e/\ReadsAll s.heap m e K/\Fj e=true/\PyData.depthAll e<=n/\b.toList=c/\∃k,k+K7 e=K7 g/\O={ s with toks:=s.toks+k })
    _ ?_ ?_ _ _ ⟨[],g,_,rfl,U,I,H,rfl,0,aX _,rfl⟩
   ·rintro x m b O ⟨c,e,K,z,L,q,p,B,k,D,rfl⟩
    cases L with
    | @cons _ _ l f V W X u =>
     obtain⟨Z,S⟩:=aq.mp (show (keyB l&&Fj f)=true from q)
     have P:l.depth<=n/\PyData.depthAll f<=n:=by
      have:max l.depth (PyData.depthAll f)<=n:=p;(first|lia|omega)
     refine wpAny_bind (Y l P.1 Z _ _ _ _ _ _ (by first | exact bc (by simp;(first|lia|omega)) C | (have:=C;simp at *;(first|lia|omega))) X ?_)
     first
      | exact wpAny_pure ⟨c++[Z2 w l],f,_,by rw[z];simp[Kl],u,S,P.2,by simp[B],k+Ab7 l,by rw[<- D];simp[K7,cG],by simp[cG]⟩
      | exact wpAny_bind (wpAny_pure (wpAny_pure ⟨c++[Z2 w l],f,_,by rw[z];simp[Kl],u,S,P.2,by simp[B],k+Ab7 l,by rw[<- D];simp[K7,cG],by simp[cG]⟩))
   ·rintro b O ⟨c,e,K,z,L,q,p,B,k,D,rfl⟩
    cases L
    have e2:Kl w g=c:=by rw[z];simp[Kl]
    have T:k=K7 g:=D
    have h:Q (reduceHash (Builtin.Tuple.tupleHashOf (Kl w g))) { s with toks:=s.toks+(K7 g+1) }:=h
    rw[e2]at h;subst T
    show wpAny _ _ (retInt (Builtin.Tuple.tupleHashOf b.toList)) _ _ _
    rw[B]
    refine wpAny_ret_mkInt ?_
    show wpAny _ _ (if (decide (-(2:Int) ^ 63<=Builtin.Tuple.tupleHashOf c)&&decide (Builtin.Tuple.tupleHashOf c<2 ^ 63))=true then _ else _) Q E _
    unfold reduceHash at h
    by_cases hr:(decide (-(2:Int) ^ 63<=Builtin.Tuple.tupleHashOf c)&&decide (Builtin.Tuple.tupleHashOf c<2 ^ 63))=true
    ·rw[if_pos hr]
     rw[if_pos hr]at h
     exact wpAny_pure (by simpa[cG] using h)
    ·rw[if_neg hr]
     rw[if_neg hr]at h
     exact wpAny_bind (wpAny_rule (wpAny_pure (by simpa[cG] using h)))
theorem Ak3:∀(m:Nat) (d:t_),d.depth<=m->keyB d=true->∀(A:q_) (E:z_) (s:u_) (v:Value) (j:v6) (Q:Bool->u_->Prop),Reads s.heap v d j->Q true s->wpAny (model prog w) A (eqIsQuiet (m+1) v) Q E s:=by
 intro m
 induction m with
 | zero =>
  intro d q f A E s v j Q r h
  cases r with
  | none=>rw[eqIsQuiet_byValue _ rfl];exact wpAny_pure h
  | int i t=>rw[eqIsQuiet_byValue _ rfl];exact wpAny_pure h
  | str x t=>rw[eqIsQuiet_byValue _ rfl];exact wpAny_pure h
  | tuple=>exact absurd q (by simp[PyData.depth])
  | bool b=>cases f
  | list=>cases f
  | dict=>cases f
 | succ n O =>
  intro d q f A E s v j Q r h
  cases r with
  | none=>rw[eqIsQuiet_byValue _ rfl];exact wpAny_pure h
  | int i t=>rw[eqIsQuiet_byValue _ rfl];exact wpAny_pure h
  | str x t=>rw[eqIsQuiet_byValue _ rfl];exact wpAny_pure h
  | bool b=>cases f
  | list=>cases f
  | dict=>cases f
  | @tuple a o y n' M j G L l U =>
   have D:s.TypeIs (.ref a) _:=⟨o,G,L⟩
   have p  := Nat.le_of_succ_le_succ (show PyData.depthAll _+1<=n+1 from q)
   unfold eqIsQuiet
   refine wpAny_bind (wpAny_specialOf D F.slot_tuple_eq.lookup ?_)
   refine wpAny_bind (wpAny_isInstance D isSubtype_tuple_tuple ?_)
   refine wpAny_bind (wpAny_seqItems G l ?_)
   refine wpAny_bind ?_
   rw[<- e_]
   refine wpAny_forIn_list _ (fun e r u=>r.1=none/\u=s/\∃c H,ReadsAll _ e c H/\Fj c=true/\PyData.depthAll c<=n) _ ?_ ?_ _ _ ⟨rfl,rfl,M,_,U,f,p⟩
   ·rintro v e r u ⟨C,rfl,c,H,J,k,z⟩
    cases J with
    | @cons _ _ N g P R K B =>
     obtain⟨S,T⟩:=aq.mp (show (keyB _&&Fj _)=true from k)
     have I:N.depth<=n/\PyData.depthAll g<=n:=by
      have:max _ _<=n:=z;(first|lia|omega)
     refine wpAny_bind (O _ I.1 S _ _ _ _ _ _ K ?_)
     exact wpAny_pure ⟨rfl,rfl,g,_,B,T,I.2⟩
   ·rintro⟨r1,r2⟩ u ⟨C,rfl,_⟩
    subst C;exact wpAny_pure h
def isKeyT (h:Heap)(k:t_)(a:Addr):Prop:=(keyB k=true/\k.canLay0=true/\k.depth<=7)/\∃as,Reads h (.ref a) k as
def Ex (prog:u6)(w:World):HeapKind prog w t_ where
 is:=isKeyT
 hash:=Z2 w
 draws:=Ab7
 room:=fun A=>A.units+8<cLine
 inj:=fun hx hy=>let ⟨⟨_,l,_⟩,_,r⟩:=hx;let ⟨_,_,r'⟩:=hy; SeqAt.Reads.unique _ _ _ _ _ l r r'
 keeps:=fun x ho hd hs=>let ⟨c,_,r⟩:=x; ⟨c,_,Tu ho hd hs _ c.1 _ _ r⟩
 pyHash:=fun hu hk h=>let ⟨c,_,r⟩:=hk; Az1 7 _ c.2.2 c.1 _ _ _ _ _ _ (bc (bI (by decide) _) hu) r h
 eqBool:=fun {A E s x y a b Q} hu hx hy h=>by
  obtain⟨c,_,r⟩:=hx;obtain⟨d,_,r'⟩:=hy
  refine SeqAt.eqAt_reads x y A s _ _ _ _ r r' c.2.1 d.2.1 (bc (bI (aj (Nat.min_le_left _ _) (aj c.2.2 (by decide))) _) hu) prog w E Q ?_
  have e:PyData.eqv x y=decide (x=y):=by
   have:=N7 x y c.1 d.1
   by_cases z:x=y
   ·rw[az z];exact this.mpr z
   ·rw[aK z]
    cases q:PyData.eqv x y with
    | false=>rfl
    | true=>exact absurd (this.mp q) z
  rw[e];exact h
 quiet:=fun hk h=>let ⟨c,_,r⟩:=hk; Ak3 7 _ c.2.2 c.1 _ _ _ _ _ _ r h
end
inductive V where
 | non | bl (b:Bool) | int (i:Int) | str (x:Str) | byt (b:Array UInt8) | flt (b:UInt64) | ref (a:Addr) | ty (n:String)
 deriving DecidableEq
abbrev l_:=List V
@[simp] theorem V.bl.injEq (a b:Bool):(V.bl a=V.bl b)=(a=b):=propext ⟨fun h=>by cases h;rfl,fun h=>by rw[h]⟩
@[simp] theorem V.int.injEq (a b:Int):(V.int a=V.int b)=(a=b):=propext ⟨fun h=>by cases h;rfl,fun h=>by rw[h]⟩
@[simp] theorem V.str.injEq (a b:Str):(V.str a=V.str b)=(a=b):=propext ⟨fun h=>by cases h;rfl,fun h=>by rw[h]⟩
@[simp] theorem V.byt.injEq (a b:Array UInt8):(V.byt a=V.byt b)=(a=b):=propext ⟨fun h=>by cases h;rfl,fun h=>by rw[h]⟩
@[simp] theorem V.ref.injEq (a b:Addr):(V.ref a=V.ref b)=(a=b):=propext ⟨fun h=>by cases h;rfl,fun h=>by rw[h]⟩
def RelV:V->Value->Prop
 | .non,u=>u=Value.none
 | .bl b,u=>u=Value.bool b
 | .int i,u=>∃t,u=Value.int i t
 | .str x,u=>∃t,u=Value.str x t
 | .byt b,u=>∃t,u=Value.bytes b t
 | .flt b,u=>∃t,u=Value.float b t
 | .ref a,u=>u=Value.ref a
 | .ty n,u=>u=Value.type n
abbrev Vals:l_->w6->Prop:=Paired RelV
theorem Vals.length   (r:Vals xs us):xs.length=us.length:=Paired.length r
theorem Vals.get:∀{xs:l_}{us:w6}{i:Nat}{x:V},Vals xs us->xs[i]?=some x->∃u,us[i]?=some u/\RelV x u
 | _,_,_,_,.nil,e=>by simp at e
 | _,_,0,_,.cons r _,e=>by simp at e;subst e;exact⟨_,rfl,r⟩
 | _,_,i+1,x,.cons _ t,e=>by
  obtain⟨u,h1,h2⟩:=Vals.get (i:=i) (x:=x) t (by simpa using e)
  exact⟨u,by simpa using h1,h2⟩
theorem Vals.set {x:V}{u:Value}(r:RelV x u):∀{xs:l_}{us:w6}(i:Nat),Vals xs us->Vals (xs.set i x) (us.set i u)
 | _,_,_,.nil=>.nil
 | _,_,0,.cons _ t=>.cons r t
 | _,_,i+1,.cons q t=>.cons q (Vals.set r i t)
theorem Vals.append:∀{xs ys:l_}{us ws:w6},Vals xs us->Vals ys ws->Vals (xs++ys) (us++ws)
 | _,_,_,_,.nil,s=>s
 | _,_,_,_,.cons r t,s=>.cons r (Vals.append t s)
theorem Vals.take:∀{xs:l_}{us:w6}(n:Nat),Vals xs us->Vals (xs.take n) (us.take n)
 | _,_,0,_=>.nil
 | _,_,_+1,.nil=>.nil
 | _,_,n+1,.cons r t=>.cons r (Vals.take n t)
theorem Vals.drop:∀{xs:l_}{us:w6}(n:Nat),Vals xs us->Vals (xs.drop n) (us.drop n)
 | _,_,0,r=>r
 | _,_,_+1,.nil=>.nil
 | _,_,n+1,.cons _ t=>Vals.drop n t
def RelO:Option V->u9->Prop
 | some v,some u=>RelV v u
 | none,none=>True
 | _,_=>False
def KV {κ:Type}:List (κ×V)->List (κ×Value)->Prop:=Paired fun (p:κ×V) (q:κ×Value)=>p.1=q.1/\RelV p.2 q.2
def kV:Key->V
 | .inl i=>.int i
 | .inr x=>.str x
inductive HO where
 | lst (xs:l_)
 | tup (xs:l_)
 | dK (kvs:List (Key×V)) | dT (kvs:List (PyData×V))
 | set (S:Int->Bool) (n:Nat)
 | ins (C dx:Addr) (fs:List (Str×V))
 | own (x:Addr)
 | xd (fs:List (Str×V))
 | met (f x:Addr)
 | rng (lo hi:Int)
 | frz (o:Obj) (u:HO)
 | tbl (q:Str)
 | ext (φ:Heap->Prop)
abbrev Hp:=Addr->Option HO
def upd (H:Hp)(a:Addr)(o:HO):Hp:=fun b=>if b=a then some o else H b
theorem Bg    : upd H a o a=some o:=by unfold upd;simp_all
theorem Am    (h:b≠a):upd H a o b=H b:=by unfold upd;simp_all
theorem Bh8 {H:Hp}{a:Addr}{o u:HO}:upd (upd H a o) a u=upd H a u:=by
 funext b;unfold upd;split <;> rfl
theorem Bk {H:Hp}   (h:H a=some o) (h':H b=none):a≠b:=by
 grind
mutual
def KTr (H:Hp):t_->V->Prop
 | .none,v=>v=.non
 | .int i,v=>v=.int i
 | .str x,v=>v=.str x
 | .tuple ds,v=>∃a vs,v=.ref a/\H a=some (.tup vs)/\KTrL H ds vs
 | _,_=>False
def KTrL (H:Hp):w5->l_->Prop
 | [],vs=>vs=[]
 | d::ds,vs=>∃v r,vs=v::r/\KTr H d v/\KTrL H ds r
end
mutual
theorem KTr.stay {H H':Hp}(ht:∀b xs,H b=some (.tup xs)->H' b=some (.tup xs)):∀{d:t_}{v:V},KTr H d v->KTr H' d v
 | .none,_,h=>h
 | .int _,_,h=>h
 | .str _,_,h=>h
 | .tuple _,_,⟨a,vs,e,ha,t⟩=>⟨a,vs,e,ht _ _ ha,KTrL.stay ht t⟩
theorem KTrL.stay {H H':Hp}(ht:∀b xs,H b=some (.tup xs)->H' b=some (.tup xs)):∀{ds:w5}{vs:l_},KTrL H ds vs->KTrL H' ds vs
 | [],_,h=>h
 | _::_,_,⟨v,r,e,h,t⟩=>⟨v,r,e,KTr.stay ht h,KTrL.stay ht t⟩
end
def Bl7 (k:t_):Prop:=keyB k=true/\k.canLay0=true/\k.depth<=7
def KAt (H:Hp)(k:t_)(a:Addr):Prop:=Bl7 k/\KTr H k (.ref a)
theorem KAt.stay    (ht:∀b xs,H b=some (.tup xs)->H' b=some (.tup xs)) (h:KAt H k a):KAt H' k a:=⟨h.1,KTr.stay ht h.2⟩
def zJ (h:Heap)(a:Addr)(items:v7):Prop:=∃o,h.get? a=some o/\o.cls=.type "tuple" /\ (∃n,o.data=.seq items n)/\o.dict=none
theorem zJ.tup    (x:zJ h a items):IsTup h a items:=let ⟨o,h1,h2,h3,_⟩:=x; ⟨o,h1,h2,h3⟩
theorem zJ.lt    (x:zJ h a items):a<h.objs.size:=x.tup.lt
theorem zJ.new (h:Heap)(items:v7):zJ (h.push { cls:=.type "tuple",data:=.seq items }) h.objs.size items:=⟨_,Heap.get?_push_size _ rfl,rfl,⟨_,rfl⟩,rfl⟩
section
variable (P:u6)(w:World)
def z8 (H:Hp)(h:Heap)(a:Addr):HO->Prop
 | .lst xs=>xs.length<=sizeLine/\∃(its:w6) (n:Nat),Vals xs its/\h.get? a=some { cls:=.type "list",data:=.seq its.toArray n }
 | .tup xs=>xs.length<=sizeLine/\∃its:w6,Vals xs its/\zJ h a its.toArray
 | .dK kvs=>kvs.length<=sizeLine/\(a==sysModules)=false/\∃vs,KV kvs vs/\h.DictOf (Es P w) a vs
 | .dT kvs=>kvs.length<=sizeLine/\(a==sysModules)=false/\∃xs:List (PyData×Addr×Value),
  Paired (fun (p:PyData×V) (q:PyData×Addr×Value)=>p.1=q.1/\KAt H p.1 q.2.1/\RelV p.2 q.2.2) kvs xs /\
  ∃o es ep,h.get? a=some o/\o.ExactDict/\o.data=.dict es ep/\es.toList=xs.map (entryOfKey (Ex P w))/\(xs.map (·.1)).Nodup
 | .set S n=>h.SetOf (intKind P w) a S n
 | .ins C dx fs=>H dx=some (.own a)/\fs.length<=1000/\dx≠a/\h.get? a=some (PySem.W.instObj C dx) /\
  ∃mA,h.Ns1 dx mA/\(∀f,RelO (fs.lookup f) (mA f))/\PySem.Within mA (fs.map (·.1))
 | .own _=>∃o,h.get? a=some o
 | .xd fs=>∃mA,h.Ns1 a mA/\∀f,RelO (fs.lookup f) (mA f)
 | .rng lo hi=>∃t u v,h.get? a=some { cls:=.type "range",data:=.fields #[.int lo t,.int hi u,.int 1 v] }
 | .frz o u=>h.get? a=some o/\z8 H h a u
 | .tbl q=>∃ps:v7,h.get? a=some { cls:=.none,data:=.fields ps }/\TriplesOk ps.toList/\∀pos cv,codeAmong pos ps.toList=some cv->∃c o vs t,cv=.ref c/\H c=some (.frz o (.own 0))/\o.data=.fields vs/\vs[1]?=some (.str q t)
 | .met f x=>h.get? a=some (PySem.W.methodObj (.ref f) (.ref x))
 | .ext φ=>φ h/\(∃o,h.get? a=some o)/\∀h1 h2:Heap,φ h1->(∀o,h1.get? a=some o->h2.get? a=some o)->φ h2
def HOk (H:Hp)(h:Heap):Prop:=∀a o,H a=some o->z8 P w H h a o
end
section
variable {P:u6}{w:World}{H H':Hp}{h h':Heap}{a:Addr}{o:HO}
theorem z8.lt (x:z8 P w H h a o):a<h.objs.size:=by
 cases o with
 | lst d=>obtain⟨_,_,_,_,e⟩:=x;exact Heap.lt_size e
 | tup d=>obtain⟨_,_,_,p⟩:=x;exact p.lt
 | dK b=>obtain⟨_,_,_,_,o,_,_,e,_⟩:=x;exact Heap.lt_size e
 | dT b=>obtain⟨_,_,_,_,o,_,_,e,_⟩:=x;exact Heap.lt_size e
 | set S n=>obtain⟨o,_,_,_,e,_⟩:=x;exact Heap.lt_size e
 | ins C g c=>obtain⟨_,_,_,e,_⟩:=x;exact Heap.lt_size e
 | own y=>obtain⟨_,e⟩:=x;exact Heap.lt_size e
 | xd c=>obtain⟨_,⟨_,_,_,e,_⟩,_⟩:=x;exact Heap.lt_size e
 | rng j k=>obtain⟨_,_,_,e⟩:=x;exact Heap.lt_size e
 | frz l u=>obtain⟨e,_⟩:=x;exact Heap.lt_size e
 | tbl q=>obtain⟨_,e,_⟩:=x;exact Heap.lt_size e
 | met f y=>exact Heap.lt_size (x)
 | ext i=>obtain⟨_,⟨_,e⟩,_⟩:=x;exact Heap.lt_size e
theorem Paired.mapP {α β:Type}{F G:α->β->Prop}:∀{l₁:List α}{l₂:List β},Paired F l₁ l₂->(∀a b,F a b->G a b)->Paired G l₁ l₂
 | _,_,.nil,_=>.nil
 | _,_,.cons r t,f=>.cons (f _ _ r) (Paired.mapP t f)
theorem z8.stay (x:z8 P w H h a o)(k:∀b u,(b=a\/H b=some (.own a))->h.get? b=some u->h'.get? b=some u)
 (ho:∀b,H b=some (.own a)->H' b=some (.own a)) (ht:∀b m,H b=some (.tup m)->H' b=some (.tup m)) (hz:∀b o u,H b=some (.frz o u)->H' b=some (.frz o u):=by exact fun _ _ _ q=>q):z8 P w H' h' a o:=by
 induction o with
 | lst m=>obtain⟨z,l,n,r,e⟩:=x;exact⟨z,l,n,r,k _ _ (.inl rfl) e⟩
 | tup m=>obtain⟨z,l,r,g,e,c⟩:=x;exact⟨z,l,r,g,k _ _ (.inl rfl) e,c⟩
 | dK A=>obtain⟨z,y,D,r,g,i,j,e,c⟩:=x;exact⟨z,y,D,r,g,i,j,k _ _ (.inl rfl) e,c⟩
 | dT A =>
  obtain⟨z,y,m,r,g,i,j,e,c⟩:=x
  exact⟨z,y,m,Paired.mapP r fun p q z=>⟨z.1,z.2.1.stay ht,z.2.2⟩,g,i,j,k _ _ (.inl rfl) e,c⟩
 | set S n=>obtain⟨g,i,j,t,e,c⟩:=x;exact⟨g,i,j,t,k _ _ (.inl rfl) e,c⟩
 | ins C M J =>
  obtain⟨d,z,G,e,s,⟨B,i,j,E,c⟩,r⟩:=x;exact⟨ho _ d,z,G,k _ _ (.inl rfl) e,s,⟨B,i,j,k _ _ (.inr d) E,c⟩,r⟩
 | own y=>obtain⟨g,e⟩:=x;exact⟨g,k _ _ (.inl rfl) e⟩
 | xd J=>obtain⟨s,⟨B,i,j,e,c⟩,r⟩:=x;exact⟨s,⟨B,i,j,k _ _ (.inl rfl) e,c⟩,r⟩
 | rng O N=>obtain⟨t,u,v,e⟩:=x;exact⟨t,u,v,k _ _ (.inl rfl) e⟩
 | frz g u K=>obtain⟨e,q⟩:=x;exact⟨k _ _ (.inl rfl) e,K q⟩
 | tbl q =>
  obtain⟨I,e,t,f⟩:=x
  exact⟨I,k a _ (.inl rfl) e,t,fun L Q z=>let ⟨c,g,D,tk,e1,E,e3⟩:=f _ _ z; ⟨c,g,D,tk,e1,hz _ _ _ E,e3⟩⟩
 | met f y =>
  have e:h.get? a=some _:=x
  show h'.get? a=some _
  grind
 | ext R=>obtain⟨p,⟨o,e⟩,F⟩:=x;exact⟨F _ _ p fun o q=>k _ _ (.inl rfl) q,⟨o,k _ _ (.inl rfl) e⟩,F⟩
theorem HOk.lt (x:HOk P w H h)(e:H a=some o):a<h.objs.size:=(x a o e).lt
theorem HOk.fresh (x:HOk P w H h)(e:h.objs.size<=a):H a=none:=by
 cases q:H a with
 | none=>rfl
 | some u=>exact absurd (aA (x.lt q) e) (aY _)
theorem HOk.kept (x:HOk P w H h)(k:∀b u,h.get? b=some u->h'.get? b=some u):HOk P w H h':=fun a o e =>
 (x a o e).stay (fun b u _ q=>k b u q) (fun _ q=>q) fun _ _ q=>q
theorem HOk.laid (x:HOk P w H h)(k:∀b u,h.get? b=some u->h'.get? b=some u)(hp:h.objs.size<=a)(f:z8 P w (upd H a o) h' a o):HOk P w (upd H a o) h':=fun b u e=>by
 have d:=x.fresh hp
 by_cases hb:b=a
 ·subst hb;rw[Bg]at e;simp_all
 ·rw[Am hb]at e
  exact(x b u e).stay (fun c v _ q=>k c v q) fun c q=>by rw[Am (Bk q d)];grind fun c g q=>by rw[Am (Bk q d)];grind fun c i g q=>by rw[Am (Bk q d)];grind
end
def Rd (H:Hp)(a:Addr)(u:HO):Prop:=H a=some u\/∃o,H a=some (.frz o u)
theorem Rd.ok       (r:Rd H a u) (x:HOk P w H h):z8 P w H h a u:=by
 rcases r with r | ⟨o,r⟩
 ·exact x a u r
 ·obtain⟨_,q⟩:=x a _ r
  (first|lia|omega)
def Mut:Option HO->Prop
 | some (.lst _)=>True
 | some (.dK _)=>True
 | some (.dT _)=>True
 | some (.set _ _)=>True
 | some (.ins _ _ _)=>True
 | some (.ext _)=>True
 | _=>False
section
variable {P:u6}{w:World}{H:Hp}{h h':Heap}{x e:Addr}{o':HO}
theorem HOk.write (s:HOk P w H h)(f:Mut (H x))(he:e=x\/H e=some (.own x))(k:∀b u,b≠e->h.get? b=some u->h'.get? b=some u)(m:∃u,h'.get? e=some u)
 (l:z8 P w (upd H x o') h' x o'):HOk P w (upd H x o') h':=fun b u q=>by
 have a:∀c y,H c=some (.own y)->c≠x:=fun c y r z=>by subst z;rw[r]at f;exact f
 have i:∀c d,H c=some (.tup d)->c≠x:=fun c d r z=>by subst z;rw[r]at f;exact f
 have g:∀c n d,H c=some (.frz n d)->c≠x:=fun c n d r z=>by subst z;rw[r]at f;exact f
 by_cases hb:b=x
 ·subst hb;rw[Bg]at q;cases q;exact l
 ·rw[Am hb]at q
  by_cases hbe:b=e
  ·have o:H b=some (.own x):=by
    simp_all
   rw[q]at o;cases o;obtain⟨v,p⟩:=m
   exact⟨v,by rw[hbe];exact p⟩
  ·refine (s b u q).stay (fun c v j r=>k c v ?_ r) (fun c r=>by rw[Am (a c b r)];exact r) (fun c d r=>by rw[Am (i c _ r)];exact r) fun c n d r=>by rw[Am (g c _ _ r)];exact r
   rcases j with rfl | j
   ·exact hbe
   ·rintro rfl
    rcases he with z | z
    ·exact a c b j z
    ·rw[j]at z;cases z;exact hb rfl
end
structure Un (fs ex:v6) (H H':Hp) (h h':Heap):Prop where
 keep:∀b o,h.get? b=some o->H b=none->b∉fs->b∉ex->h'.get? b=some o
 slot:∀b o,h.get? b=some o->H b=none->b∈fs->b∉ex->∃sl,h'.get? b=some { o with slots:=sl }
 free:∀b o,h.get? b=some o->H b=none->b∉ex->H' b=none
 there:∀b o,h.get? b=some o->b∉ex->∃o',h'.get? b=some o'
 tups:∀b xs,H b=some (.tup xs)->H' b=some (.tup xs)
 frzs:∀b o u,H b=some (.frz o u)->H' b=some (.frz o u)
 tbls:∀b q,H b=some (.tbl q)->H' b=some (.tbl q)
section
variable {fs fs' ex ex':v6}{H H1 H2:Hp}{h h1 h2 h':Heap}{a x e:Addr}{o:HO}
theorem Un.any (u:Un fs ex H H1 h h1)   (q:h.get? b=some ob) (n:H b=none) (hx:b∉ex):∃sl,h1.get? b=some { ob with slots:=sl }:=by
 by_cases hb:b∈fs
 ·exact u.slot b _ q n hb hx
 ·exact⟨ob.slots,u.keep b _ q n hb hx⟩
theorem Un.kept (k:∀b u,h.get? b=some u->h'.get? b=some u):Un fs ex H H h h' :=
 ⟨fun b a q _ _ _=>k b _ q,fun b a q _ _ _=>⟨a.slots,k b a q⟩,fun _ _ _ n _=>n,fun b a q _=>⟨a,k b _ q⟩,fun _ _ q=>q,fun _ _ _ q=>q,fun _ _ q=>q⟩
theorem Un.refl:Un fs ex H H h h:=Un.kept fun _ _ q=>q
theorem Un.laid (k:∀b u,h.get? b=some u->h'.get? b=some u)(hp:h.objs.size<=a)(hn:H a=none):Un fs ex H (upd H a o) h h' where
 keep:=fun b u q _ _ _=>k b u q
 slot:=fun b u q _ _ _=>⟨u.slots,k b u q⟩
 free:=fun b u q n _=>by rw[Am (aM (aA (Heap.lt_size q) hp))];exact n
 there:=fun b u q _=>⟨u,k b u q⟩
 tups:=fun b xs q=>by rw[Am (Bk q hn)];exact q
 frzs:=fun b u xs q=>by rw[Am (Bk q hn)];exact q
 tbls:=fun b ps q=>by rw[Am (Bk q hn)];exact q
theorem Un.write (d:Mut (H x))(he:e=x\/H e=some (.own x))(k:∀b u,b≠e->h.get? b=some u->h'.get? b=some u)(f:∃u,h'.get? e=some u):Un fs ex H (upd H x o) h h':=by
 have i:∀b,H b=none->b≠x:=fun b n z=>by subst z;rw[n]at d;exact d
 have c:∀b,H b=none->b≠e:=fun b n z=>by
  grind
 have a:∀b u,H b=some u->¬ Mut (some u)->b≠x:=fun b u q l z=>by simp_all
 refine⟨fun b u q n _ _=>k b u (c b n) q,fun b u q n _ _=>⟨u.slots,k b u (c b n) q⟩,fun b u q n _=>by rw[Am (i b n)];grind,fun b u q _=>?_,
  fun b g q=>by rw[Am (a b _ q fun z=>z)];grind,fun b u g q=>by rw[Am (a b _ q fun z=>z)];grind,fun b j q=>by rw[Am (a b _ q fun z=>z)];grind⟩
 grind
end
def trk (h:Heap)(H:Hp):v6:=(List.range h.objs.size).filter fun a=>(H a).isSome
def Vs (h:Heap)(H:Hp):Heap:=PySem.W.hideAll h (trk h H)
theorem Az3 (h:Heap)(H:Hp):(Vs h H).objs.size=h.objs.size:=PySem.W.hideAll_size _ _
theorem A7r     (e:h.get? b=some o) (n:H b=none):(Vs h H).get? b=some o :=
 PySem.W.hideAll_get _ e fun a=>by
  have q  := (List.mem_filter.mp a).2
  grind
theorem Bk1     (e:(Vs h H).get? b=some o):h.get? b=some o/\H b=none:=by
 have a  := PySem.W.of_hideAll _ e
 refine⟨a,?_⟩
 cases q:H b with
 | none=>rfl
 | some x =>
  have c:b∈trk h H:=List.mem_filter.mpr ⟨cZ.mpr (Heap.lt_size a),by grind⟩
  have z:(Vs h H).get? b=none:=PySem.W.hideAll_none _ c
  simp_all
def Bi1 (g h:Heap)(L:Addr):y_:=(List.range h.objs.size).filterMap fun a=>if a=L\/(g.get? a).isSome=true then none else (h.get? a).map fun o=>(a,o)
def rest (g h:Heap)(L d:Addr):y_:=(Bi1 g h L).filter fun p=>decide (p.1≠d)
def Ar4 (T:Addr)(q:Str):Obj:={ cls:=.str q 0,data:=.cell (some (.ref T)) }
def Uk (o:Obj):Option (Addr×Str):=match o.data with
 | .cell (some (.ref T))=>(match o.cls with
  | .str q _=>some (T,q)
  | _=>none)
 | _=>none
def Dr (K:v9):List (Addr×Str):=K.filterMap fun p=>Uk p.2
structure Mod (K:v9) (mg:x_) (base:Heap):Prop where
 kin:K.In base
 glob:base.Ns mainGlobals mg
 blt:∃mb,base.Ns builtinsNs mb/\∀x:Str,x ≠ "__name__" -> mb x=bootBuiltins x
 nolimit:base.NoLimit
 bmod:∃bm o,mg "__builtins__" = some (.ref bm)/\bm≠builtinsNs/\bm≠mainGlobals/\base.get? bm=some o/\o.cls=.type "module" /\ o.dict=some builtinsNs/\o.data=.plain
structure Cx where
 prog:u6
 w:World
 K:v9
 mg:x_
 base:Heap
 A:q_
 N:v4
 s₀:u_
 H₀:Hp
 env:Env
 outer:List Env
 stack:List Env
 ex:v6
 fn:Str->Bool
 calm:Bool
 pn:y_
 xe:z_
def frs (l:List Env):v6:=l.filterMap (·.frame)
abbrev Cx.fs (X:Cx):v6:=frs X.outer
def Vis (sc:Scope)(x:Str):Prop:=sc.names.lookup x=some .local\/sc.names.lookup x=some .cell\/sc.names.lookup x=some .free
def Loc (sc:Scope)(x:Str):Prop:=sc.names.lookup x=some .local\/sc.names.lookup x=some .cell
def Look (env:Env)(h:Heap)(m:x_)(x:Str)(u:Value):Prop :=
 (env.kindOf x=some .local/\m x=some u)\/((env.kindOf x=some .cell\/env.kindOf x=some .free)/\∃c,env.cells.lookup x=some c/\h.IsCell c (some u))
structure Cx.Ok (X:Cx):Prop where
 mod:Mod X.K X.mg X.base
 kind:X.env.scope.kind=.function
 glob:X.env.globals=mainGlobals
 blt:X.env.builtins=builtinsNs
 above:X.s₀.heap.objs.size<=X.env.locals
 inj:∀x y c,X.env.cells.lookup x=some c->X.env.cells.lookup y=some c->x=y
 has:∀x,(X.env.kindOf x=some .cell\/X.env.kindOf x=some .free)->∃c,X.env.cells.lookup x=some c
 cab:∀x c,X.fn x=true->X.env.cells.lookup x=some c->X.s₀.heap.objs.size<=c
 hd:X.calm=true->X.A.handled=none
 frames:X.A.frames=some X.stack
 stk:X.stack=X.outer\/(X.stack=X.env::X.outer/\X.env.frame=some X.env.locals)
 exf:∀b∈X.ex,b≠X.env.locals/\∀x c,X.env.cells.lookup x=some c->c≠b
 bs:∀b o,X.base.get? b=some o->X.s₀.heap.get? b=some o/\X.H₀ b=none
 bsz:X.base.objs.size<=X.s₀.heap.objs.size
 noex:∀b o,X.base.get? b=some o->b∉X.ex
 exfs:∀b∈X.ex,b∉X.fs
 funs:X.s₀.heap.FunFrames X.base X.outer
 frf:∀b∈X.fs,X.H₀ b=none
 tab:∀p∈Dr X.K,X.H₀ p.1=some (.tbl p.2)
structure Inv (X:Cx) (pins:y_) (σ:List (Option V)) (H:Hp) (s:u_):Prop where
 ok:X.Ok
 os:s.os=X.s₀.os
 bare:AllBare s.gens
 base:Un X.fs X.ex X.H₀ H X.s₀.heap s.heap
 loc:∃m,s.heap.Ns X.env.locals m/\∀(i:Nat) (x:Str) (v:V),X.N[i]?=some x->σ[i]?=some (some v)->Vis X.env.scope x->∃u,RelV v u/\Look X.env s.heap m x u
 cell:∀x c,X.env.cells.lookup x=some c->∃v,s.heap.IsCell c v
 free:H X.env.locals=none
 freeC:∀x c,X.env.cells.lookup x=some c->H c=none
 pin:∀p∈X.pn++pins,s.heap.get? p.1=some p.2/\H p.1=none/\p.1≠X.env.locals/\p.1∉X.fs/\∀v,p.2.data≠.cell v
 hok:HOk X.prog X.w H s.heap
 len:σ.length=X.N.length
section
variable {X:Cx}{pins:y_}{σ:List (Option V)}{H H':Hp}{s:u_}{h':Heap}
theorem Cx.Ok.nofr (c:X.Ok)   (e:X.base.get? b=some o):b∉X.fs:=fun a=>by
 have:=(c.funs.mem a).1
 simp_all
theorem Inv.bs (I:Inv X pins σ H s):∀b o,X.base.get? b=some o->s.heap.get? b=some o/\H b=none:=fun b o e =>
 ⟨I.base.keep b o (I.ok.bs b o e).1 (I.ok.bs b o e).2 (I.ok.nofr e) (I.ok.noex b o e),I.base.free b o (I.ok.bs b o e).1 (I.ok.bs b o e).2 (I.ok.noex b o e)⟩
theorem Inv.bk (I:Inv X pins σ H s):∀b o,X.base.get? b=some o->s.heap.get? b=some o:=fun b o e=>(I.bs b o e).1
theorem Inv.mod (I:Inv X pins σ H s):Mod X.K X.mg X.base:=I.ok.mod
theorem Inv.kIn (I:Inv X pins σ H s):X.K.In s.heap:=I.ok.mod.kin.keeps I.bk
theorem Inv.nolimit (I:Inv X pins σ H s):s.heap.NoLimit:=I.ok.mod.nolimit.keeps I.bk
theorem Inv.fr (I:Inv X pins σ H s):∃m,Fr X.base X.env.locals s.heap m :=
 let ⟨m,hn,_⟩:=I.loc
 ⟨m,hn,I.bk,aj I.ok.bsz I.ok.above⟩
theorem Inv.lt (I:Inv X pins σ H s):X.env.locals<s.heap.objs.size:=let ⟨_,hn,_⟩:=I.loc;hn.lt
theorem Inv.sz (I:Inv X pins σ H s):X.s₀.heap.objs.size<=s.heap.objs.size:=aj I.ok.above (bM I.lt)
theorem Inv.nofs (I:Inv X pins σ H s)  (h:s.heap.objs.size<=a):a∉X.fs:=fun c=>by
 obtain⟨_,o,b,_⟩:=I.ok.funs.mem c;exact absurd (aA (Heap.lt_size b) (aj I.sz h)) (aY _)
theorem Inv.cne (I:Inv X pins σ H s):∀x c,X.env.cells.lookup x=some c->c≠X.env.locals:=fun x c e z=>by
 obtain⟨v,o,d,i⟩:=I.cell x c e;obtain⟨m,⟨f,g,h,a,b,_⟩,_⟩:=I.loc
 simp_all
theorem Inv.funs (I:Inv X pins σ H s):s.heap.FunFrames X.base X.outer:=by
 have d:∀(l:List _),(∀b∈frs l,b∈X.fs)->X.s₀.heap.FunFrames X.base l->s.heap.FunFrames X.base l:=by
  intro l
  induction l with
  | nil=>intro _ _;trivial
  | cons h r j =>
   intro g q;obtain⟨i,⟨L,o,f,k,m,n⟩,p⟩:=q
   have c  := g L (by unfold frs;simp_all)
   obtain⟨t,e⟩:=I.base.slot L o m (I.ok.frf L c) c fun z=>I.ok.exfs L z c
   exact⟨i,⟨L,_,f,k,e,n⟩,j (fun b a=>g b (by unfold frs;rw[cT,f];exact bw _ a)) p⟩
 exact d _ (fun _ a=>a) I.ok.funs
theorem Inv.stack (I:Inv X pins σ H s):s.heap.FunFrames X.base X.stack:=by
 rcases I.ok.stk with e | ⟨e,b⟩
 ·rw[e];exact I.funs
 ·rw[e]
  obtain⟨m,a,_⟩:=I.loc
  refine .cons (by rw[I.ok.kind];decide) b a ?_ I.funs
  exact Heap.get?_none_of_le (aj I.ok.bsz I.ok.above)
theorem Inv.stkSub (I:Inv X pins σ H s):∀b∈frs X.stack,b∈X.env.locals::X.fs:=fun b a=>by
 rcases I.ok.stk with e | ⟨e,c⟩
 ·simp_all
 ·rw[e]at a
  unfold frs at a;rw[cT,c]at a;exact a
theorem Inv.stkFree (I:Inv X pins σ H s):∀b∈frs X.stack,H b=none:=fun b a=>by
 rcases au.mp (I.stkSub b a) with e | a
 ·rw[e];exact I.free
 ·obtain⟨_,o,c,_⟩:=I.ok.funs.mem a
  exact I.base.free b o c (I.ok.frf b a) fun z=>I.ok.exfs b z a
theorem Inv.step    {ch:v6}(I:Inv X pins σ H s)
 (j:∀b∈ch,(b∈X.ex\/X.s₀.heap.objs.size<=b)/\b≠X.env.locals/\(∀x c,X.env.cells.lookup x=some c->c≠b)/\∀p∈X.pn++pins,p.1≠b)
 (t:∀b o,b≠X.env.locals->b∉X.fs->b∉ch->s.heap.get? b=some o->H b=none->h'.get? b=some o)
 (slot:∀b o,b≠X.env.locals->b∈X.fs->b∉ch->s.heap.get? b=some o->H b=none->∃L,h'.get? b=some { o with slots:=L }) (f:∀b o,b∉ch->s.heap.get? b=some o->H b=none->H' b=none)
 (w:∀b o,b∉ch->s.heap.get? b=some o->∃O,h'.get? b=some O)
 (D:∀b J,H b=some (.tup J)->H' b=some (.tup J)) (F:∀b o u,H b=some (.frz o u)->H' b=some (.frz o u)) (C:∀b q,H b=some (.tbl q)->H' b=some (.tbl q))
 (ns:∀m,s.heap.Ns X.env.locals m->h'.Ns X.env.locals m) (N:HOk X.prog X.w H' h') (hg:AllBare g') :
 Inv X pins σ H' { s with heap:=h',gens:=g',drawn:=d',toks:=t' }:=by
 have G:∀b o,X.s₀.heap.get? b=some o->b≠X.env.locals:=fun b o e=>aM (aA (Heap.lt_size e) I.ok.above)
 have h:∀b o,X.s₀.heap.get? b=some o->b∉X.ex->b∉ch:=fun b o e a A=>by
  rcases (j b A).1 with z | z
  ·exact a z
  ·exact absurd (aA (Heap.lt_size e) z) (aY _)
 have g:∀x c,X.env.cells.lookup x=some c->∀v,s.heap.IsCell c v->h'.IsCell c v:=fun x c e v ⟨o,B,K⟩=>by
  have E:c∉ch:=fun z=>(j c z).2.2.1 x c e rfl
  by_cases hc:c∈X.fs
  ·obtain⟨L,q⟩:=slot c o (I.cne x c e) hc E B (I.freeC x c e)
   exact⟨_,q,K⟩
  ·exact⟨o,t c o (I.cne x c e) hc E B (I.freeC x c e),K⟩
 refine⟨I.ok,I.os,hg,⟨fun b o e n A a=>?_,fun b o e n A a=>?_,fun b o e n a=>?_,fun b o e a=>?_,fun b J e=>D b _ (I.base.tups b _ e),fun b o J e=>F b o _ (I.base.frzs b o _ e),fun b V e=>?_⟩,?_,fun x c e=>?_,?_,fun x c e=>?_,fun p Q=>?_,N,I.len⟩
 ·exact t b o (G b o e) A (h b o e a) (I.base.keep b o e n A a) (I.base.free b o e n a)
 ·obtain⟨L,y⟩:=I.base.slot b o e n A a
  obtain⟨P,M⟩:=slot b _ (G b o e) A (h b o e a) y (I.base.free b o e n a);exact⟨P,M⟩
 ·obtain⟨O,y⟩:=I.base.there b o e a
  exact f b _ (h b o e a) y (I.base.free b o e n a)
 ·obtain⟨O,y⟩:=I.base.there b o e a
  exact w b _ (h b o e a) y
 ·exact C b _ (I.base.tbls b _ e)
 ·obtain⟨m,R,S⟩:=I.loc
  refine⟨m,ns m R,fun i x v y M T=>?_⟩
  obtain⟨u,r,l⟩:=S i x v y M T
  refine⟨u,r,?_⟩
  rcases l with l | ⟨k,c,e,z⟩
  ·exact .inl l
  ·exact .inr ⟨k,c,e,g x c e _ z⟩
 ·obtain⟨v,z⟩:=I.cell x c e
  exact⟨v,g x c e v z⟩
 ·obtain⟨m,⟨o,_,_,B,_⟩,_⟩:=I.loc
  exact f _ o (fun z=>(j _ z).2.1 rfl) B I.free
 ·obtain⟨v,o,B,K⟩:=I.cell x c e
  exact f c o (fun z=>(j c z).2.2.1 x c e rfl) B (I.freeC x c e)
 ·obtain⟨e,n,W,U,d⟩:=I.pin p Q
  grind
theorem Inv.un  (I:Inv X pins σ H s) (u:Un X.fs [] H H' s.heap h') (g:HOk X.prog X.w H' h'):Inv X pins σ H' { s with heap:=h',toks:=t' }:=by
 obtain⟨m,⟨o,l,v,h,r⟩,_⟩:=id I.loc
 obtain⟨q,j⟩:=u.any h I.free (by simp)
 exact I.step   (ch:=[]) (fun _ z=>nomatch z) (fun b o _ c _ e n=>u.keep b o e n c (by simp)) (fun b o _ c _ e n=>u.slot b o e n c (by simp)) (fun b o _ e n=>u.free b o e n (by simp)) (fun b o _ e=>u.there b o e (by simp)) u.tups u.frzs u.tbls (fun t i=>by
  obtain⟨p,d,f,a,k⟩:=i;rw[h]at a;cases a
  exact⟨_,d,f,j,k⟩) g I.bare
theorem Inv.call     (I:Inv X pins σ H s) (u:Un (frs X.stack) ch H H' s.heap h') (g:HOk X.prog X.w H' h') (hg:AllBare g')
 (d:∀b∈ch,(b∈X.ex\/X.s₀.heap.objs.size<=b)/\b≠X.env.locals/\(∀x c,X.env.cells.lookup x=some c->c≠b)/\∀p∈X.pn++pins,p.1≠b) :
 Inv X pins σ H' { s with heap:=h',gens:=g',drawn:=d',toks:=t' }:=by
 obtain⟨m,⟨o,v,A,k,r⟩,_⟩:=id I.loc
 obtain⟨y,h⟩:=u.any k I.free fun z=>(d _ z).2.1 rfl
 exact I.step  d (fun b o h q a e n=>u.keep b o e n (fun z=>(au.mp (I.stkSub b z)).elim h q) a) (fun b o _ _ a e n=>u.any e n a) (fun b o a e n=>u.free b o e n a) (fun b o a e=>u.there b o e a) u.tups u.frzs u.tbls (fun B t=>by
  obtain⟨w,j,i,f,l⟩:=t;rw[k]at f;cases f
  exact⟨_,j,i,h,l⟩) g hg
theorem Inv.turned   (I:Inv X pins σ H s) (k:∀b o,b≠it->s.heap.get? b=some o->h'.get? b=some o) (hn:H it=none) (h:it≠X.env.locals)
 (h1:it∈X.ex\/X.s₀.heap.objs.size<=it) (h2:∀x c,X.env.cells.lookup x=some c->c≠it) (j:∀p∈X.pn++pins,p.1≠it):Inv X pins σ H { s with heap:=h',toks:=t' }:=by
 refine I.step   (ch:=[it]) (fun b t=>?_) (fun b o _ _ a e _=>k b o (fun z=>a (by grind)) e) (fun b o _ _ a e _=>⟨o.slots,k b o (fun z=>a (by grind)) e⟩) (fun _ _ _ _ n=>n)
  (fun b o a e=>⟨o,k b o (fun z=>a (by grind)) e⟩) (fun _ _ e=>e) (fun _ _ _ e=>e) (fun b l e=>e) (fun m g=>?_) (fun b u e=>?_) I.bare
 ·grind
 ·obtain⟨o,f,i,d,r⟩:=g
  exact⟨o,f,i,k _ o (aB h) d,r⟩
 ·refine (I.hok b u e).stay (fun c v a q=>k c v ?_ q) (fun _ q=>q) fun _ _ q=>q
  grind
theorem Inv.tok (I:Inv X pins σ H s)(t:Nat):Inv X pins σ H { s with toks:=t }:=I.un   Un.refl I.hok
theorem Inv.kept  (I:Inv X pins σ H s) (k:∀b u,s.heap.get? b=some u->h'.get? b=some u):Inv X pins σ H { s with heap:=h',toks:=t' }:=I.un (Un.kept k) (I.hok.kept k)
theorem Inv.laid    (I:Inv X pins σ H s) (k:∀b u,s.heap.get? b=some u->h'.get? b=some u) (hp:s.heap.objs.size<=a) (c:z8 X.prog X.w (upd H a o) h' a o) :
 Inv X pins σ (upd H a o) { s with heap:=h',toks:=t' }:=I.un (Un.laid k hp (I.hok.fresh hp)) (I.hok.laid k hp c)
theorem Inv.write    (I:Inv X pins σ H s) (d:Mut (H x)) (he:e=x\/H e=some (.own x)) (k:∀b u,b≠e->s.heap.get? b=some u->h'.get? b=some u) (a:∃u,h'.get? e=some u)
 (c:z8 X.prog X.w (upd H x o) h' x o):Inv X pins σ (upd H x o) { s with heap:=h',toks:=t' }:=I.un (Un.write d he k a) (I.hok.write d he k a c)
theorem Inv.pins_of  (I:Inv X pins σ H s) (h:∀p∈a,s.heap.get? p.1=some p.2/\H p.1=none/\p.1≠X.env.locals/\p.1∉X.fs/\∀v,p.2.data≠.cell v):Inv X a σ H s :=
 ⟨I.ok,I.os,I.bare,I.base,I.loc,I.cell,I.free,I.freeC,fun p b=>(bx.mp b).elim (fun z=>I.pin p (bz _ z)) (h p),I.hok,I.len⟩
theorem Z1 {N:v4}(hN:N.Nodup){i j:Nat}  (a:N[i]?=some x) (b:N[j]?=some x):i=j:=by
 obtain⟨e,d⟩:=bG.mp a;obtain⟨f,c⟩:=bG.mp b;exact(List.getElem_inj hN).mp (d.trans c.symm)
theorem V9         (I:Inv X pins σ H s) (hN:X.N.Nodup) (hi:X.N[i]?=some x) (hx:Loc X.env.scope x) (r:RelV v u)
 (h:∀s',Inv X pins (σ.set i (some v)) H s'->(∃a,Heap.SameBut a s.heap s'.heap/\(a=X.env.locals\/X.env.cells.lookup x=some a))->Q () s') (hf:X.fn x=true\/X.env.scope.names.lookup x=some .local:=by first | exact .inl rfl | exact .inr rfl | assumption):wpAny M A (storeName X.env x u) Q E s:=by
 obtain⟨m,S,hl⟩:=id I.loc
 have K:(X.env.scope.kind==.class||(X.env.scope.kind==.module&&X.env.locals != X.env.globals))=false:=by rw[I.ok.kind];rfl
 have C:i<σ.length:=by rw[I.len];exact(bG.mp hi).1
 have J:=I.cne
 have g:∀{a:Addr} {L:Heap},(∃o,s.heap.get? a=some o/\H a=none)->Heap.SameBut a s.heap L->HOk X.prog X.w H L:=fun {a L} ha f b ob e=>by
  obtain⟨_,_,w⟩:=ha
  refine (I.hok b ob e).stay (fun c w' t q=>(f.2 c ?_).trans q) (fun _ q=>q) fun _ _ q=>q
  rintro rfl
  rcases t with rfl | t
  ·rw[w]at e;cases e
  ·rw[w]at t;cases t
 rcases hx with D | D
 ·refine wpAny_storeName_local D S (fun L hn' f=>?_) K
  obtain⟨oL,_,_,hoL,_⟩:=id S
  refine h _ ⟨I.ok,I.os,I.bare,⟨fun b o e n F hx=>?_,fun b o e n F hx=>?_,I.base.free,fun b o e hx=>?_,I.base.tups,I.base.frzs,I.base.tbls⟩,⟨_,hn',fun j y v' l B T=>?_⟩,fun y c e=>?_,I.free,I.freeC,fun p U=>?_,g ⟨oL,hoL,I.free⟩ f,by simpa using I.len⟩ ⟨_,f,.inl rfl⟩
  ·exact(f.2 b (aM (aA (Heap.lt_size e) I.ok.above))).trans (I.base.keep b o e n F hx)
  ·obtain⟨W,l⟩:=I.base.slot b o e n F hx
   exact⟨W,(f.2 b (aM (aA (Heap.lt_size e) I.ok.above))).trans l⟩
  ·obtain⟨Y,l⟩:=I.base.there b o e hx
   exact⟨Y,(f.2 b (aM (aA (Heap.lt_size e) I.ok.above))).trans l⟩
  ·by_cases hj:j=i
   ·subst hj
    rw[hi]at l;cases l;rw[cu C]at B
    cases B
    exact⟨u,r,.inl ⟨D,by simp⟩⟩
   ·rw[bY (aB hj)]at B
    obtain⟨Z,r',q⟩:=hl j y _ l B T
    refine⟨Z,r',?_⟩
    rcases q with ⟨k,e⟩ | ⟨k,c,e,z⟩
    ·refine .inl ⟨k,?_⟩
     have:y≠x:=fun e=>hj (Z1 hN l (e▸hi))
     simp[this,e]
    ·exact .inr ⟨k,c,e,z.sameBut f (J y c e)⟩
  ·obtain⟨w',z⟩:=I.cell y c e
   exact⟨w',z.sameBut f (J y c e)⟩
  ·obtain⟨e,n,R,nf,d⟩:=I.pin p U
   exact⟨(f.2 _ R).trans e,n,R,nf,d⟩
 ·have G:X.fn x=true:=by
   rcases hf with z | z
   ·exact z
   ·rw[z]at D;cases D
  obtain⟨c,t⟩:=I.ok.has x (.inl D);obtain⟨w',z⟩:=I.cell x c t
  refine wpAny_storeName_cell I.ok.kind D t z fun L N f=>?_
  obtain⟨oc,P,O⟩:=id z
  refine h _ ⟨I.ok,I.os,I.bare,⟨fun b o e n F hx=>?_,fun b o e n F hx=>?_,I.base.free,fun b o e hx=>?_,I.base.tups,I.base.frzs,I.base.tbls⟩,⟨m,S.sameBut f (aB (J x c t)),fun j y v' l B T=>?_⟩,fun y c' e=>?_,I.free,I.freeC,fun p U=>?_,g ⟨oc,P,I.freeC x c t⟩ f,by simpa using I.len⟩ ⟨c,f,.inr t⟩
  ·exact(f.2 b (aM (aA (Heap.lt_size e) (I.ok.cab x c G t)))).trans (I.base.keep b o e n F hx)
  ·obtain⟨W,l⟩:=I.base.slot b o e n F hx
   exact⟨W,(f.2 b (aM (aA (Heap.lt_size e) (I.ok.cab x c G t)))).trans l⟩
  ·obtain⟨Y,l⟩:=I.base.there b o e hx
   exact⟨Y,(f.2 b (aM (aA (Heap.lt_size e) (I.ok.cab x c G t)))).trans l⟩
  ·by_cases hj:j=i
   ·subst hj
    rw[hi]at l;cases l;rw[cu C]at B
    cases B
    exact⟨u,r,.inr ⟨.inl D,c,t,N⟩⟩
   ·rw[bY (aB hj)]at B
    obtain⟨Z,r',q⟩:=hl j y _ l B T
    refine⟨Z,r',?_⟩
    rcases q with q | ⟨k,c',e,z'⟩
    ·exact .inl q
    ·refine .inr ⟨k,c',e,z'.sameBut f ?_⟩
     rintro rfl
     exact hj (Z1 hN l (I.ok.inj _ _ _ e t▸hi))
  ·by_cases hcc:c'=c
   ·subst hcc;exact⟨_,N⟩
   ·obtain⟨w2,z2⟩:=I.cell y _ e
    exact⟨w2,z2.sameBut f hcc⟩
  ·obtain⟨e,n,R,nf,d⟩:=I.pin p U
   refine⟨(f.2 _ ?_).trans e,n,R,nf,d⟩
   intro q;rw[q,P]at e
   exact d _ (by rw[<- (bN e)];exact O)
theorem Gk         (I:Inv X pins σ H s) (hN:X.N.Nodup) (hi:X.N[i]?=some x) (hx:Loc X.env.scope x) (r:RelV v u)
 (h:∀a,Inv X pins (σ.set i (some v)) H a->Q () a) (hf:X.fn x=true\/X.env.scope.names.lookup x=some .local:=by first | exact .inl rfl | exact .inr rfl | assumption):wpAny M A (storeName X.env x u) Q E s :=
 V9 I hN hi hx r (fun a b _=>h _ b) hf
theorem Inv.call'   (I:Inv X pins σ H s) (ho:s'.os=s.os) (u:Un (frs X.stack) ch H H' s.heap s'.heap) (d:HOk X.prog X.w H' s'.heap) (hg:AllBare s'.gens)
 (a:∀b∈ch,(b∈X.ex\/X.s₀.heap.objs.size<=b)/\b≠X.env.locals/\(∀x c,X.env.cells.lookup x=some c->c≠b)/\∀p∈X.pn++pins,p.1≠b):Inv X pins σ H' s':=by
 obtain⟨f,g,h,i,e⟩:=s';subst ho;exact I.call    u d hg a
end
abbrev XK:=Value->Option Addr->Hp->Prop
abbrev St:=List (Option V)
abbrev VK:=V->Hp->Prop
abbrev TE:=St->Hp->VK->Prop
abbrev TT:=St->Hp->(Bool->Hp->Prop)->Prop
abbrev TA:=St->Hp->(l_->Hp->Prop)->Prop
structure Ends where
 nx:St->Hp->Prop
 rt:VK
 bk:St->Hp->Prop:=fun _ _=>False
 ct:St->Hp->Prop:=fun _ _=>False
abbrev TS:=Ends->St->Hp->Prop
def EP (X:Cx)(pins:y_)(σ:St)(Q:VK)(u:Value)(s':u_):Prop:=∃v H',Inv X pins σ H' s'/\RelV v u/\Q v H'
def TP (X:Cx)(pins:y_)(σ:St)(Q:Bool->Hp->Prop)(b:Bool)(s':u_):Prop:=∃H',Inv X pins σ H' s'/\Q b H'
def AP (X:Cx)(pins:y_)(σ:St)(Q:l_->Hp->Prop)(us:w6)(s':u_):Prop:=∃vs H',Inv X pins σ H' s'/\Vals vs us/\Q vs H'
def SP (X:Cx)(pins:y_)(D:Ends)(f:Flow)(s':u_):Prop :=
 match f with
 | .next=>∃σ' H',Inv X pins σ' H' s'/\D.nx σ' H'
 | .brk=>∃σ' H',Inv X pins σ' H' s'/\D.bk σ' H'
 | .cont=>∃σ' H',Inv X pins σ' H' s'/\D.ct σ' H'
 | .ret u=>∃v σ' H',Inv X pins σ' H' s'/\RelV v u/\D.rt v H'
def PE (X:Cx)(e:Expr)(t:TE):Prop :=
 ∀(pins:y_) (s:u_) (σ:St) (H:Hp) (Q:VK),Inv X pins σ H s->t σ H Q->wpAny (model X.prog X.w) X.A (eval e X.env) (EP X pins σ Q) X.xe s
def PT (X:Cx)(e:Expr)(t:TT):Prop :=
 ∀(pins:y_) (s:u_) (σ:St) (H:Hp) (Q:Bool->Hp->Prop),Inv X pins σ H s->t σ H Q->wpAny (model X.prog X.w) X.A (isTrue e X.env (eval e X.env)) (TP X pins σ Q) X.xe s
def PW (X:Cx)(e:Expr)(t:TT):Prop :=
 ∀(whole:Sem Value) (pins:y_) (s:u_) (σ:St) (H:Hp) (Q:Bool->Hp->Prop),Inv X pins σ H s->t σ H Q->wpAny (model X.prog X.w) X.A (isTrue e X.env whole) (TP X pins σ Q) X.xe s
theorem PW.pt    (h:PW X e t):PT X e t:=h _
def PA (X:Cx)(es:v_)(t:TA):Prop :=
 ∀(pos:Pos) (pins:y_) (s:u_) (σ:St) (H:Hp) (Q:l_->Hp->Prop),Inv X pins σ H s->t σ H Q->wpAny (model X.prog X.w) X.A (spliced (backTo pos (starEach es X.env))) (AP X pins σ Q) X.xe s
def PS (X:Cx)(st:Stmt)(t:TS):Prop :=
 ∀(pins:y_) (s:u_) (σ:St) (H:Hp) (D:Ends),Inv X pins σ H s->t D σ H->wpAny (model X.prog X.w) X.A (exec st X.env) (SP X pins D) X.xe s
def PSs (X:Cx)(st:List Stmt)(t:TS):Prop :=
 ∀(pins:y_) (s:u_) (σ:St) (H:Hp) (D:Ends),Inv X pins σ H s->t D σ H->wpAny (model X.prog X.w) X.A (execs st X.env) (SP X pins D) X.xe s
theorem thn  {t:Sem c}{Q b:c->u_->Prop}     (h:wpAny M A t Q E s) (d:∀a s,Q a s->b a s):wpAny M A t b E s:=wpAny_mono h d fun _ _ x=>x
section
variable {X:Cx}
def Rj (i:Nat):TE:=fun σ H Q=>∃v,σ[i]?=some (some v)/\Q v H
def tC (v:V):TE:=fun _ H Q=>Q v H
theorem A5y   {f:Pos}(hN:X.N[i]?=some x) (hv:Vis X.env.scope x) (hd:(x==("__debug__" : Str))=false:=by decide) (hcd:(x==("__classdict__" : Str))=false:=by decide):PE X (.Name x f) (Rj i):=by
 intro j s p H Q I h;obtain⟨v,e,h⟩:=h;obtain⟨m,k,n⟩:=I.loc;obtain⟨u,r,l⟩:=n i x v hN e hv;have b:EP X _ _ Q u s:=⟨v,H,I,r,h⟩
 rcases l with ⟨d,o⟩ | ⟨d,c,g,a⟩
 ·exact wpAny_Name (wpAny_loadName_local I.ok.kind d k o b) hd
 ·rcases d with d | d
  ·exact wpAny_Name (wpAny_loadName_cell I.ok.kind d g a b) hd
  ·exact wpAny_Name (wpAny_loadName_free I.ok.kind d g a b hcd) hd
theorem A8x  : PE X (.Constant (.int i) j a) (tC (.int i)):=fun _ _ _ H _ I h=>wpAny_Constant_int ⟨.int i,H,I.tok _,⟨_,rfl⟩,h⟩
theorem Bl8  : PE X (.Constant (.bool b) j a) (tC (.bl b)):=fun _ _ _ H _ I h=>Constant_bool ⟨.bl b,H,I,rfl,h⟩
theorem A6z  : PE X (.Constant .none j a) (tC .non):=fun _ _ _ H _ I h=>Constant_none ⟨.non,H,I,rfl,h⟩
theorem A8r  : PE X (.Constant (.str x) j a) (tC (.str x)):=fun _ _ _ H _ I h=>Calls.Constant_str ⟨.str x,H,I.tok _,⟨_,rfl⟩,h⟩
def Gl (X:Cx)(x:Str):Prop:=X.env.kindOf x=some .globalImplicit
theorem Hh          (I:Inv X pins b H s) (hg:Gl X x) (hm:X.mg x=some u) (h:Q u s)
 (hd:(x==("__debug__" : Str))=false:=by decide):wpAny (model X.prog X.w) X.A (eval (.Name x a) X.env) Q E s :=
 Calls.Name_function_global I.ok.kind hg (Calls.loadGlobal_global (by rw[I.ok.glob];exact I.mod.glob.keeps I.bk) hm h) hd
theorem Hr {E:z_}       {a:Pos}  (I:Inv X pins c H s) (hg:Gl X x) (hm:X.mg x=none) (hv:bootBuiltins x=some u) (h:Q u s)
 (hn:x ≠ "__name__" := by decide) (hd:(x==("__debug__" : Str))=false:=by decide):wpAny (model X.prog X.w) X.A (eval (.Name x a) X.env) Q E s:=by
 obtain⟨e,d,b⟩:=I.mod.blt
 exact Calls.Name_function_global I.ok.kind hg (Calls.loadGlobal_builtin (by rw[I.ok.glob];exact I.mod.glob.keeps I.bk) hm (by rw[I.ok.blt];exact d.keeps I.bk) ((b x hn).trans hv) h) hd
theorem Bi4     (hg:Gl X x) (hm:X.mg x=some u) (r:RelV v u) (hd:(x==("__debug__" : Str))=false:=by decide):PE X (.Name x a) (tC v) :=
 fun _ _ _ H _ I h=>Hh I hg hm ⟨v,H,I,r,h⟩ hd
theorem Bg2    {a:Pos}(hg:Gl X x) (hm:X.mg x=none) (hv:bootBuiltins x=some u) (r:RelV v u) (hn:x ≠ "__name__" := by decide) (hd:(x==("__debug__" : Str))=false:=by decide):PE X (.Name x a) (tC v) :=
 fun _ _ _ H _ I h=>Hr I hg hm hv ⟨v,H,I,r,h⟩ hn hd
variable {a b:Expr}{ta tb:TE}{pos:Pos}
def tB (t:TE):TT:=fun σ H Q=>t σ H fun x H1=>∃c,x=.bl c/\Q c H1
theorem Bv5   (h:PE X e t) (he:∀whole,isTrue e X.env whole=(do let v <- whole;standAt e.pos;holding [v] (truthy v)):=by intro _;rfl):PT X e (tB t):=by
 intro a s σ H Q I f
 refine isTrue_plain (thn (h _ s _ H _ I f) fun v s1 ⟨x,g,b,c,i⟩=>?_) (he _)
 obtain⟨d,rfl,q⟩:=i
 cases c
 exact wpAny_truthy_bool ⟨g,b,q⟩
variable {tA tB':TT}{rest:v_}
def Bn3 (t u:TT):TT:=fun σ H Q=>t σ H fun c H1=>if c=true then u σ H1 Q else Q false H1
def tOr (t u:TT):TT:=fun σ H Q=>t σ H fun c H1=>if c=true then Q true H1 else u σ H1 Q
def Bs8 (t:TT):TT:=fun σ H Q=>t σ H fun c H1=>Q (!c) H1
theorem Bh5 (ha:PT X a tA):PW X (.BoolOp .And [a] pos) tA:=by
 intro f b s g H Q I h
 refine isTrue_and (thn (ha _ s _ H Q I h) fun c d e=>?_)
 cases c with
 | true=>exact isTrue_and_nil e
 | false=>exact e
theorem Bu3 (ha:PT X a tA):PW X (.BoolOp .Or [a] pos) tA:=by
 intro f b s g H Q I h
 refine isTrue_or (thn (ha _ s _ H Q I h) fun c d e=>?_)
 cases c with
 | false=>exact isTrue_or_nil e
 | true=>exact e
theorem Br4 (ha:PT X a tA)(hb:PW X (.BoolOp .And (b::rest) pos) tB'):PW X (.BoolOp .And (a::b::rest) pos) (Bn3 tA tB'):=by
 intro g d s k H Q I h
 refine isTrue_and (thn (ha _ s _ H _ I h) fun c i ⟨j,f,e⟩=>?_)
 cases c with
 | true=>exact hb _ _ _ _ _ Q f e
 | false=>trivial
theorem B3h (ha:PT X a tA)(hb:PW X (.BoolOp .Or (b::rest) pos) tB'):PW X (.BoolOp .Or (a::b::rest) pos) (tOr tA tB'):=by
 intro g d s k H Q I h
 refine isTrue_or (thn (ha _ s _ H _ I h) fun c i ⟨j,f,e⟩=>?_)
 cases c with
 | true=>assumption
 | false=>exact hb _ _ _ _ _ Q f e
theorem By3 (ha:PT X a tA):PT X (.UnaryOp .Not a pos) (Bs8 tA):=by
 intro b s c H Q I h;exact isTrue_not (ha _ s _ H _ I h)
def A7p (ta tb:TE):TE:=fun σ H Q=>ta σ H fun x H1=>∃c,x=.bl c/\if c=true then tb σ H1 Q else Q (.bl false) H1
def Bo0 (ta tb:TE):TE:=fun σ H Q=>ta σ H fun x H1=>∃c,x=.bl c/\if c=true then Q (.bl true) H1 else tb σ H1 Q
def A4m (ta:TE):TE:=fun σ H Q=>ta σ H fun x H1=>∃c,x=.bl c/\Q (.bl (!c)) H1
theorem Bn6   (h:PE X a t):PE X (.BoolOp op [a] pos) t:=fun b s d H Q I c=>BoolOp_one (h _ s _ H Q I c)
theorem Bw0 (ha:PE X a ta)(hb:PE X (.BoolOp .And (b::rest) pos) tb):PE X (.BoolOp .And (a::b::rest) pos) (A7p ta tb):=by
 intro e s σ H Q I h
 refine BoolOp_and (thn (ha _ s _ H _ I h) fun v s1 ⟨x,i,f,g,d⟩=>?_)
 obtain⟨c,rfl,d⟩:=d
 cases g
 refine wpAny_truthy_bool ?_
 cases c with
 | true=>exact hb _ _ _ _ Q f d
 | false=>exact⟨.bl _,i,f,rfl,d⟩
theorem B2s (ha:PE X a ta)(hb:PE X (.BoolOp .Or (b::rest) pos) tb):PE X (.BoolOp .Or (a::b::rest) pos) (Bo0 ta tb):=by
 intro e s σ H Q I h
 refine BoolOp_or (thn (ha _ s _ H _ I h) fun v s1 ⟨x,i,f,g,d⟩=>?_)
 obtain⟨c,rfl,d⟩:=d
 cases g
 refine wpAny_truthy_bool ?_
 cases c with
 | false=>exact hb _ _ _ _ Q f d
 | true=>exact⟨.bl _,i,f,rfl,d⟩
theorem Br1 (ha:PE X a ta):PE X (.UnaryOp .Not a pos) (A4m ta):=by
 intro d s σ H Q I h
 refine UnaryOp_ (thn (ha _ s _ H _ I h) fun v s1 ⟨x,f,g,e,b⟩=>?_)
 obtain⟨c,rfl,b⟩:=b
 cases e
 exact not_of (wpAny_truthy_bool ⟨.bl _,f,g,rfl,b⟩)
def tIf (t:TT)(ta tb:TE):TE:=fun σ H Q=>t σ H fun c H1=>if c=true then ta σ H1 Q else tb σ H1 Q
theorem A5e  (hc:PT X c tA) (ha:PE X a ta) (hb:PE X b tb):PE X (.IfExp c a b pos) (tIf tA ta tb):=by
 intro g s i H Q I h
 refine wpAny_IfExp (thn (hc _ s _ H _ I h) fun d k ⟨j,f,e⟩=>?_)
 cases d with
 | true=>exact ha _ _ _ _ Q f e
 | false=>exact hb _ _ _ _ Q f e
end
def SqL (K:v9)(H:Hp)(a:Addr)(xs:l_):Prop :=
 Rd H a (.lst xs) \/
  ∃(o:Obj) (its:v7) (n:Nat),K.lookup a=some o/\o.cls=.type "list" /\ o.dict=none/\o.data=.seq its n/\its.size<=sizeLine/\Vals xs its.toList
def SqT (K:v9)(H:Hp)(a:Addr)(xs:l_):Prop :=
 Rd H a (.tup xs) \/
  ∃(o:Obj) (its:v7) (n:Nat),K.lookup a=some o/\o.cls=.type "tuple" /\ o.data=.seq its n/\its.size<=sizeLine/\Vals xs its.toList
def B3w:Value->Option V
 | .none=>some .non
 | .bool b=>some (.bl b)
 | .int i _=>some (.int i)
 | .str x _=>some (.str x)
 | .bytes b _=>some (.byt b)
 | .float b _=>some (.flt b)
 | .ref a=>some (.ref a)
 | .type n=>some (.ty n)
 | _=>none
theorem RelV.abs   (r:RelV x u):B3w u=some x:=by
 cases x with
 | non=>cases r;rfl
 | bl _=>cases r;rfl
 | int _=>obtain⟨t,rfl⟩:=r;rfl
 | str _=>obtain⟨t,rfl⟩:=r;rfl
 | byt _=>obtain⟨t,rfl⟩:=r;rfl
 | flt _=>obtain⟨t,rfl⟩:=r;rfl
 | ref _=>cases r;rfl
 | ty _=>cases r;rfl
theorem RelV.inj   (r:RelV x u) (q:RelV y u):x=y:=bN (r.abs.symm.trans q.abs)
theorem Vals.inj:∀{xs ys:l_}{us:w6},Vals xs us->Vals ys us->xs=ys
 | _,_,_,.nil,.nil=>rfl
 | _,_,_,.cons r t,.cons r' t'=>by rw[r.inj r',Vals.inj t t']
section
variable {X:Cx}{pins:y_}{σ:St}{H:Hp}{s:u_}{a:Addr}{xs ys:l_}
theorem SqL.of {K:v9}(h:H a=some (.lst xs)):SqL K H a xs:=.inl (.inl h)
theorem SqT.of {K:v9}(h:H a=some (.tup xs)):SqT K H a xs:=.inl (.inl h)
theorem Inv.list (I:Inv X pins σ H s)(h:SqL X.K H a xs):∃b:w6,Vals xs b/\PlainL s.heap a b.toArray/\xs.length<=sizeLine:=by
 rcases h with h | ⟨o,b,n,d,c,f,i,g,r⟩
 ·obtain⟨z,b,n,r,e⟩:=h.ok I.hok
  exact⟨b,r,⟨_,n,e,rfl,rfl,rfl⟩,z⟩
 ·refine⟨b.toList,r,⟨o,n,I.kIn a o d,c,f,by trivial⟩,?_⟩
  have e:=r.length
  simp_all
theorem Inv.tuple (I:Inv X pins σ H s)(h:SqT X.K H a xs):∃b:w6,Vals xs b/\IsTup s.heap a b.toArray/\xs.length<=sizeLine:=by
 rcases h with h | ⟨o,b,n,d,c,g,f,r⟩
 ·obtain⟨z,b,r,p⟩:=h.ok I.hok
  exact⟨b,r,p.tup,z⟩
 ·refine⟨b.toList,r,⟨o,I.kIn a o d,c,n,by trivial⟩,?_⟩
  have e:=r.length
  simp_all
theorem Inv.list_inj (I:Inv X pins σ H s)(h:SqL X.K H a xs)(h':SqL X.K H a ys):xs=ys:=by
 obtain⟨c,r,⟨o,n,e,_,_,d⟩,_⟩:=I.list h;obtain⟨b,f,⟨i,j,k,_,_,g⟩,_⟩:=I.list h'
 have:c=b:=by simp_all
 subst this;exact r.inj f
theorem Inv.tuple_inj (I:Inv X pins σ H s)(h:SqT X.K H a xs)(h':SqT X.K H a ys):xs=ys:=by
 obtain⟨c,r,⟨o,e,_,n,d⟩,_⟩:=I.tuple h;obtain⟨b,f,⟨i,j,_,k,g⟩,_⟩:=I.tuple h'
 have:c=b:=by simp_all
 subst this;exact r.inj f
end
abbrev Cx.wish (X:Cx)(E:z_):Cx:={ X with xe:=E }
abbrev Cx.nox (X:Cx):Cx:=X.wish fun _ _=>False
theorem Cx.Ok.wish {X:Cx}(a:X.Ok)(E:z_):(X.wish E).Ok :=
 ⟨a.mod,a.kind,a.glob,a.blt,a.above,a.inj,a.has,a.cab,a.hd,a.frames,a.stk,a.exf,a.bs,a.bsz,a.noex,a.exfs,a.funs,a.frf,a.tab⟩
theorem Cx.Ok.unwish {X:Cx}  (a:(X.wish E).Ok):X.Ok :=
 ⟨a.mod,a.kind,a.glob,a.blt,a.above,a.inj,a.has,a.cab,a.hd,a.frames,a.stk,a.exf,a.bs,a.bsz,a.noex,a.exfs,a.funs,a.frf,a.tab⟩
section
variable {X:Cx}{pins:y_}{σ:St}{H:Hp}{s:u_}{E:z_}
theorem Inv.wish (I:Inv X pins σ H s)(E:z_):Inv (X.wish E) pins σ H s:=⟨I.ok.wish E,I.os,I.bare,I.base,I.loc,I.cell,I.free,I.freeC,I.pin,I.hok,I.len⟩
theorem Inv.unwish (I:Inv (X.wish E) pins σ H s):Inv X pins σ H s:=⟨I.ok.unwish,I.os,I.bare,I.base,I.loc,I.cell,I.free,I.freeC,I.pin,I.hok,I.len⟩
theorem SP.unwish    (h:SP (X.wish E) pins D f s'):SP X pins D f s':=by
 cases f with
 | next=>obtain⟨a,b,I,q⟩:=h;exact⟨a,b,I.unwish,q⟩
 | brk=>obtain⟨a,b,I,q⟩:=h;exact⟨a,b,I.unwish,q⟩
 | cont=>obtain⟨a,b,I,q⟩:=h;exact⟨a,b,I.unwish,q⟩
 | ret u=>obtain⟨v,a,b,I,r,q⟩:=h;exact⟨v,a,b,I.unwish,r,q⟩
theorem PSs.nox {st:List Stmt}  (h:PSs X.nox st t):PSs X st t:=fun a s c H D I b =>
 wpAny_mono (h _ s _ H D (I.wish _) b) (fun _ _ q=>q.unwish) fun _ _ z=>False.elim z
end
section
variable {X:Cx}{st:Stmt}{rest:List Stmt}{t u:TS}{e:Expr}{te:TE}{pos:Pos}
def A4f:TS:=fun D σ H=>D.nx σ H
def A6i (t u:TS):TS:=fun D σ H=>t { D with nx:=u D } σ H
theorem Bd5:PSs X [] A4f:=fun _ _ a H _ I h=>wpAny_execs_nil ⟨a,H,I,h⟩
theorem A7l (h1:PS X st t)(h2:PSs X rest u):PSs X (st::rest) (A6i t u):=by
 intro a s d H D I h
 refine wpAny_execs_cons (thn (h1 _ s _ H _ I h) fun f e q=>?_)
 cases f with
 | next =>
  obtain⟨c,g,b,q⟩:=q;exact h2 _ _ _ _ D b q
 | ret v=>exact q
 | brk=>exact q
 | cont=>exact q
theorem A9n (h1:PS X st t):PSs X [st] t:=by
 intro a s c H D I h
 refine wpAny_execs_cons (thn (h1 _ s _ H D I h) fun f b q=>?_)
 cases f with
 | next=>exact wpAny_execs_nil q
 | ret v=>grind
 | brk=>grind
 | cont=>grind
theorem Inv.quiet     (I:Inv X pins a H s):interactive X.env=false:=by simp[interactive,I.ok.kind]
def A7t (te:TE):TS:=fun D σ H=>te σ H fun _ H1=>D.nx σ H1
theorem Bh2 (he:PE X e te)(hs:swapsWith e none pos.line X.env=pure false:=by rfl):PS X (.Expr e pos) (A7t te):=by
 intro a s c H D I h
 exact wpAny_Expr_any (thn (he _ s _ H _ I h) fun v g ⟨x,f,d,i,b⟩=>⟨c,f,d,b⟩) I.quiet hs
def B0f (te:TE):TS:=fun D σ H=>te σ H D.rt
theorem By0 (he:PE X e te):PS X (.Return (some e) pos) (B0f te):=by
 intro a s c H D I h
 exact wpAny_Return_some (thn (he _ s _ H _ I h) fun v i ⟨x,f,d,g,b⟩=>⟨x,c,f,d,g,b⟩)
def Bf7 (c:TT)(t u:TS):TS:=fun D σ H=>c σ H fun b H1=>if b=true then t D σ H1 else u D σ H1
theorem B2z    (hc:PT X c f) (ha:PSs X a t) (hb:PSs X b u):PS X (.If c a b pos) (Bf7 f t u):=by
 intro i s j H D I h
 refine wpAny_If (thn (hc _ s _ H _ I h) fun d l ⟨k,g,e⟩=>?_)
 cases d with
 | true=>exact ha _ _ _ _ D g e
 | false=>exact hb _ _ _ _ D g e
def An6:TS:=fun _ _ _=>False
theorem A6o:PS X st An6:=fun _ _ _ _ _ _ h=>h.elim
end
abbrev TG:=V->St->Hp->(St->Hp->Prop)->Prop
abbrev TGs:=l_->St->Hp->(St->Hp->Prop)->Prop
def PG (X:Cx)(target:Expr)(t:TG):Prop :=
 ∀
  (pins:y_) (s:u_) (σ:St) (H:Hp) (v:V) (u:Value) (Q:St->Hp->Prop),Inv X pins σ H s->RelV v u->t v σ H Q ->
  wpAny (model X.prog X.w) X.A (assign target X.env u) (fun _ s'=>∃σ' H',Inv X pins σ' H' s'/\Q σ' H') X.xe s
def PGs (X:Cx)(ts:v_)(t:TGs):Prop :=
 ∀
  (pins:y_) (s:u_) (σ:St) (H:Hp) (vs:l_) (us:w6) (Q:St->Hp->Prop),Inv X pins σ H s->Vals vs us->t vs σ H Q ->
  wpAny (model X.prog X.w) X.A (assignInOrder ((assignEach ts X.env).map (·.2)) us) (fun _ s'=>∃σ' H',Inv X pins σ' H' s'/\Q σ' H') X.xe s
abbrev B1z:=V->V->V->Hp->(Hp->Prop)->Prop
def By9 (X:Cx)(t:B1z):Prop :=
 ∀
  (pins:y_) (s:u_) (σ:St) (H:Hp) (o i v:V) (ov iv u:Value) (Q:Hp->Prop),Inv X pins σ H s->RelV o ov->RelV i iv->RelV v u->t o i v H Q ->
  wpAny (model X.prog X.w) X.A (setItem ov iv u) (fun _ s'=>∃H',Inv X pins σ H' s'/\Q H') X.xe s
section
variable {X:Cx}{pos:Pos}
def Mz (i:Nat):TG:=fun v σ H Q=>Q (σ.set i (some v)) H
theorem Bj5   (hN:X.N.Nodup) (hi:X.N[i]?=some x) (hx:Loc X.env.scope x) (hf:X.fn x=true\/X.env.scope.names.lookup x=some .local:=by first | exact .inl rfl | exact .inr rfl | assumption):PG X (.Name x pos) (Mz i):=by
 intro a s c H v u Q I r h
 exact wpAny_assign_Name (Gk I hN hi hx r (fun d b=>⟨_,H,b,h⟩) hf)
def A9v:TGs:=fun vs σ H Q=>vs=[]/\Q σ H
def Ac0 (t:TG)(u:TGs):TGs:=fun vs σ H Q=>∃v r,vs=v::r/\t v σ H fun σ' H'=>u r σ' H' Q
theorem Bi5:PGs X [] A9v:=by
 intro a s b H d c Q I r h;obtain⟨e,h⟩:=h;exact assignInOrder_nil ⟨b,H,I,h⟩
theorem A8t     (h1:PG X e t) (h2:PGs X es u)
 (hs:(assignEach (e::es) X.env).map (·.2)=assign e X.env::(assignEach es X.env).map (·.2):=by rfl):PGs X (e::es) (Ac0 t u):=by
 intro a s i H j n Q I r h;obtain⟨v,l,f,h⟩:=h;subst f
 cases r with
 | cons r d =>
  rw[hs]
  refine assignInOrder_cons (thn (h1 _ s _ H _ _ _ I r h) fun _ k ⟨c,m,g,b⟩=>?_)
  exact h2 _ _ _ _ _ _ Q g d b
def Bb5 (K:v9)(n:Nat)(t:TGs):TG:=fun v σ H Q=>∃a xs,v=.ref a/\SqT K H a xs/\xs.length=n/\t xs σ H Q
theorem Bs1  {k:Nat}   (hc:X.calm=true) (h:PGs X es t)
 (hn:(assignEach es X.env).length=n:=by rfl) (hst:(assignEach es X.env).findIdx? (·.1)=none:=by rfl):PG X (.Tuple es k pos) (Bb5 X.K n t):=by
 intro d s x H v u Q I r c;obtain⟨a,y,j,l,m,c⟩:=c;subst j
 cases r
 obtain⟨g,i,q,z⟩:=I.tuple l
 refine assign_Tuple_tuple (I.ok.hd hc) q (by simp[hn,<- m,i.length]) hst fun p w=>?_
 have f:Inv X _ _ H { s with heap:=p }:=I.kept  fun b o e=>w b o (aM (Heap.lt_size e)) e
 exact h _ _ _ H _ _ Q f (by trivial) c
def Bu4 (to ti:TE)(t:B1z):TG:=fun v σ H Q=>to σ H fun o H1=>ti σ H1 fun i H2=>t o i v H2 fun H3=>Q σ H3
theorem Bo5    (ho:PE X o e) (hi:PE X i d) (hs:By9 X t)
 (ha:∀v,assign (.Subscript o i pos) X.env v=(do
  let a <- holding [v] (eval o X.env)
  let b <- holding [v,a] (eval i X.env)
  standAt pos
  holding [v,a,b] (setItem a b v)
  release [v,a,b] []):=by intro _;rfl):PG X (.Subscript o i pos) (Bu4 e d t):=by
 intro c s m H v u Q I r h;rw[ha]
 refine wpAny_bind (wpAny_holding (thn (ho _ s _ H _ I h) fun a z ⟨x,C,j,k,l⟩=>?_))
 refine wpAny_bind (wpAny_holding (thn (hi _ _ _ _ _ j l) fun b D ⟨y,A,g,p,n⟩=>?_))
 refine wpAny_bind (wpAny_standAt (wpAny_bind (wpAny_holding (thn (hs _ _ _ _ x y v _ _ u _ g k p r n) fun _ B ⟨q,w,f⟩=>?_))))
 exact wpAny_release ⟨m,q,w,f⟩
def Af6 (te:TE)(g:TG):TS:=fun D σ H=>te σ H fun x H1=>g x σ H1 D.nx
theorem Bx8    (he:PE X e b) (hg:PG X a g) (hs:swapsWithSole [a] e pos.line X.env=pure false:=by rfl) (hw:swappedStores [a] e X.env=pure none:=by rfl)
 (h1:(assignEach [a] X.env).map (·.2)=[assign a X.env]:=by rfl):PS X (.Assign [a] e pos) (Af6 b g):=by
 intro c s k H D I h
 refine wpAny_Assign_stores (thn (he _ s _ H _ I h) fun v l ⟨x,m,d,i,f⟩=>?_) hs hw
 rw[h1]
 exact thn (hg _ _ _ _ x v _ d i f) fun _ j q=>q
theorem Bo1      (hN:X.N.Nodup) (hi:X.N[i]?=some x) (hx:Loc X.env.scope x) (he:PE X e b) (hs:swapsWith e (some (.Name x a)) pos.line X.env=pure false:=by rfl) (hf:X.fn x=true\/X.env.scope.names.lookup x=some .local:=by first | exact .inl rfl | exact .inr rfl | assumption) :
 PS X (.Assign [.Name x a] e pos) (Af6 b (Mz i)):=by
 intro c s l H D I h
 refine wpAny_Assign_Name (thn (he _ s _ H _ I h) fun v m ⟨y,j,f,g,k⟩=>?_) hs
 exact Gk f hN hi hx g (fun n d=>⟨_,j,d,k⟩) hf
def Bv3 (i j:Nat)(ta:TA):TS:=fun D σ H=>ta σ H fun vs H1=>∃v w,vs=[v,w]/\D.nx ((σ.set i (some v)).set j (some w)) H1
theorem By8       (hc:X.calm=true) (hN:X.N.Nodup) (hi:X.N[i]?=some x) (hj:X.N[j]?=some y) (hij:i≠j)
 (hx:X.env.scope.names.lookup x=some .local) (hy:X.env.scope.names.lookup y=some .local) (ha:PA X [a,b] C)
 (hw:swappedStores [.Tuple [.Name x m,.Name y r] n t] (.Tuple [a,b] k2 d) X.env=pure (some [x,y]))
 (hs:swapsWithSole [.Tuple [.Name x m,.Name y r] n t] (.Tuple [a,b] k2 d) pos.line X.env=pure false:=by rfl) :
 PS X (.Assign [.Tuple [.Name x m,.Name y r] n t] (.Tuple [a,b] k2 d) pos) (Bv3 i j C):=by
 intro c s B H D I h;rw[exec_Assign_arm]
 refine wpAny_bind (wpAny_standAt ?_)
 rw[hs]
 refine wpAny_bind (wpAny_pure ?_)
 rw[if_neg (by decide)]
 refine wpAny_bind (Tuple_ (thn (ha _ c s B H _ I h) fun L f ⟨vs,E,M,F,l⟩=>?_))
 obtain⟨v,w,G,l⟩:=l;subst G
 obtain⟨k,g,rfl,K,u⟩:∃k g,L=[k,g]/\RelV v k/\RelV w g:=by
  cases F with
  | cons p q =>
   cases q with
   | cons p' O =>
    cases O
    grind
 refine wpAny_newObj_type ?_ (by show 2<=sizeLine;decide)
 have J:Inv X c B E { f with heap:=f.heap.push { cls:=.type "tuple",data:=.seq [k,g].toArray } }:=M.kept (t':=f.toks) fun b o e=>Heap.get?_push_of_some _ e
 rw[hw]
 refine wpAny_bind (wpAny_pure ?_)
 show wpAny (model X.prog X.w) X.A (do rule "assign.swapped-stores";let items <- unpackItems (.ref f.heap.objs.size) 2 none;assignInOrder [fun v=>bindName X.env y v,fun v=>bindName X.env x v] items.reverse;pure Flow.next) _ _ _
 refine wpAny_bind (wpAny_rule (wpAny_bind (unpackItems_tuple (items:=#[k,g]) (I.ok.hd hc) (IsTup.new _ _) fun h' z=>?_)))
 refine wpAny_bind (assignInOrder_cons (wpAny_bindName (Gk (J.kept  (t':=f.toks) fun b o e=>z b o (aM (Heap.lt_size e)) e) hN hj (.inl hy) u (fun s2 N=>?_) (.inr hy))))
 refine assignInOrder_cons (wpAny_bindName (Gk N hN hi (.inl hx) K (fun s3 A=>assignInOrder_nil (wpAny_pure ?_)) (.inr hx)))
 rw[dM _ _ (aB hij)]at A;exact⟨_,E,A,l⟩
end
structure It where
 go:Nat->Hp->Prop
 yld:Nat->Hp->V->Hp->Prop
 stop:Nat->Hp->Prop
def Nb (X:Cx)(pins:y_)(H:Hp)(b:Addr):Prop :=
 H b=none/\b≠X.env.locals/\b∉X.fs/\(b∈X.ex\/X.s₀.heap.objs.size<=b)/\(∀x c,X.env.cells.lookup x=some c->c≠b)/\∀p∈X.pn++pins,p.1≠b
theorem Inv.fpOk       (I:Inv X pins d H s) (hb:s.heap.objs.size<=b) (hn:H' b=none):Nb X pins H' b:=by
 refine⟨hn,bH (aA I.lt hb),I.nofs hb,.inr (aj I.sz hb),fun x c e z=>?_,fun p a z=>?_⟩
 ·obtain⟨v,q⟩:=I.cell x c e
  exact absurd (aA q.lt (by simp_all)) (aY _)
 ·exact absurd (aA (Heap.lt_size (I.pin p a).1) (by simp_all)) (aY _)
structure Turn (P:u6) (w:World) (K:v9) (tg:Expr) (J:It) (fp:v6) (it:Addr) (tn:Nat->Heap->Prop):Prop where
 mem:it∈fp
 obj:∀i h,tn i h->∀b∈fp,∃o,h.get? b=some o/\∀v,o.data≠.cell v
 keep:∀i h h',tn i h->(∀b∈fp,∀o,h.get? b=some o->h'.get? b=some o)->tn i h'
 item:∀(X:Cx),X.prog=P->X.w=w->X.K=K->X.calm=true->∀(i:Nat) (pins:y_) (s:u_) (σ:St) (H:Hp) (E:z_),Inv X pins σ H s->(∀b∈fp,Nb X pins H b)->tn i s.heap->J.go i H ->
  wpAny (model P w) X.A (pyNext (.ref it)) (fun r s1=>∃u,r=some u /\
   wpAny (model P w) X.A (letOwnedTupleGo tg (.ref it) u) (fun _ s2=>∃x H',Inv X pins σ H' s2/\RelV x u/\J.yld i H x H'/\tn (i+1) s2.heap/\∀b∈fp,H' b=none) E s1) E s
 done:∀(X:Cx),X.prog=P->X.w=w->X.K=K->X.calm=true->∀(i:Nat) (pins:y_) (s:u_) (σ:St) (H:Hp) (E:z_),Inv X pins σ H s->(∀b∈fp,Nb X pins H b)->tn i s.heap->J.stop i H ->
  wpAny (model P w) X.A (pyNext (.ref it)) (fun r s1=>r=none/\Inv X pins σ H s1) E s
 self:∀(A:q_) (i:Nat) (s:u_) (Q:z_) (E:z_),tn i s.heap->Q (.ref it) s->wpAny (model P w) A (pyIter (.ref it)) Q E s
abbrev TI:=St->Hp->(It->Hp->Prop)->Prop
def PIE (X:Cx)(pins:y_)(σ:St)(tg:Expr)(R:It->Hp->Prop)(itv:Value)(s2:u_):Prop :=
 ∃(it:Addr) (fp:v6) (tn:Nat->Heap->Prop) (J:It) (H':Hp),itv=.ref it/\Inv X pins σ H' s2/\Turn X.prog X.w X.K tg J fp it tn/\tn 0 s2.heap/\(∀b∈fp,Nb X pins H' b)/\R J H'
def PI (X:Cx)(tg iter:Expr)(wi:TI):Prop :=
 ∀
  (pins:y_) (s:u_) (σ:St) (H:Hp) (R:It->Hp->Prop),Inv X pins σ H s->wi σ H R ->
  wpAny (model X.prog X.w) X.A (eval iter X.env) (fun v s1=>wpAny (model X.prog X.w) X.A (pyIter v) (PIE X pins σ tg R) X.xe s1) X.xe s
theorem A8f            (ho:s.heap.get? it=some o) (hc:o.cls=.type n) (hd:o.data=.fields vs)
 (hn:["enumerate", "zip", "dict_itemiterator", "dict_reverseitemiterator", "odict_iterator", "itertools.zip_longest", "itertools.pairwise"].contains n=false) (a:Q () s):wpAny M A (letOwnedTupleGo b (.ref it) u) Q E s:=by
 cases b <;> first
  | exact wpAny_pure a
  | (cases u <;> first
   | exact wpAny_pure a
   | (
    refine wpAny_bind (wpAny_load ho ?_)
    rw[hc,hd]
    show wpAny M A (if (["enumerate", "zip", "dict_itemiterator", "dict_reverseitemiterator", "odict_iterator", "itertools.zip_longest", "itertools.pairwise"].contains n&&vs[0]?==some _)=true then _ else _) Q E s
    rw[if_neg (by intro h;rw[hn]at h;cases h)]
    exact wpAny_pure a))
def Itl (K:v9)(a:Addr):It :=
 ⟨fun i H=>∃xs x,SqL K H a xs/\xs[i]?=some x,fun i H x H'=>H'=H/\∀xs,SqL K H a xs->xs[i]?=some x,fun i H=>∃xs,SqL K H a xs/\xs.length<=i⟩
def Itt (K:v9)(a:Addr):It :=
 ⟨fun i H=>∃xs x,SqT K H a xs/\xs[i]?=some x,fun i H x H'=>H'=H/\∀xs,SqT K H a xs->xs[i]?=some x,fun i H=>∃xs,SqT K H a xs/\xs.length<=i⟩
def Itr (lo:Int)(n:Nat):It:=⟨fun i _=>i<n,fun i H x H'=>H'=H/\x=.int (lo+i),fun i _=>n<=i⟩
theorem A2d {P:u6}{w:World}{K:v9}{tg:Expr}(a it:Addr):Turn P w K tg (Itl K a) [it] it (fun i h=>h.IsListIter it a i) where
 mem:=by simp
 obj:=fun i h st b hb=>by
  have e:b=it:=by simpa using hb
  subst e;obtain⟨o,e,c,d⟩:=st
  exact⟨o,e,fun v z=>by rw[d]at z;cases z⟩
 keep:=fun i h h' st k=>st.at fun o e=>k it (by simp) o e
 item:=by
  intro X hP hw hK hc i pins s σ H E I hf st hg;subst hP hw hK;obtain⟨xs,x,hq,hx⟩:=hg;obtain⟨its,rv,p,hz⟩:=I.list hq;obtain⟨u,hu,ru⟩:=rv.get hx
  obtain⟨f0,f1,f2,f3,f4,f5⟩:=hf it (by simp)
  refine wpAny_pyNext_list_item st p.isList (x:=u) (by simpa using hu) fun h' st' sb=>?_
  have I1:Inv X pins σ H { s with heap:=h' }:=I.turned (t':=s.toks) (fun b o hb e=>(sb.2 b hb).trans e) f0 f1 f3 f4 f5
  obtain⟨o,e,c,d⟩:=id st'
  exact⟨u,rfl,A8f (s:={ s with heap:=h' }) e c d (by decide) ⟨x,H,I1,ru,⟨rfl,fun ys hy=>by rw[I.list_inj hy hq];exact hx⟩,st',fun b hb=>(hf b hb).1⟩⟩
 done:=by
  intro X hP hw hK hc i pins s σ H E I hf st hg;subst hP hw hK;obtain⟨xs,hq,hx⟩:=hg;obtain⟨its,rv,p,hz⟩:=I.list hq
  obtain⟨f0,f1,f2,f3,f4,f5⟩:=hf it (by simp)
  have hl:=rv.length
  exact wpAny_pyNext_list_end (I.ok.hd hc) st p.isList (by simp;(first|lia|omega)) fun h' eb=>⟨rfl,I.turned (t':=s.toks) (fun b o hb e=>eb b o hb e) f0 f1 f3 f4 f5⟩
 self:=fun _ _ _ _ _ st h=>wpAny_pyIter_listiter st h
theorem An0 {P:u6}{w:World}{K:v9}{tg:Expr}(a it:Addr):Turn P w K tg (Itt K a) [it] it (fun i h=>h.IsTupleIter it a i) where
 mem:=by simp
 obj:=fun i h st b hb=>by
  have e:b=it:=by simpa using hb
  subst e;obtain⟨o,e,c,d⟩:=st
  exact⟨o,e,fun v z=>by rw[d]at z;cases z⟩
 keep:=fun i h h' st k=>st.at fun o e=>k it (by simp) o e
 item:=by
  intro X hP hw hK hc i pins s σ H E I hf st hg;subst hP hw hK;obtain⟨xs,x,hq,hx⟩:=hg;obtain⟨its,rv,p,hz⟩:=I.tuple hq;obtain⟨u,hu,ru⟩:=rv.get hx
  obtain⟨f0,f1,f2,f3,f4,f5⟩:=hf it (by simp)
  refine wpAny_pyNext_tuple_item st (show s.heap.IsTuple a its.toArray from p) (x:=u) (by simpa using hu) fun h' st' sb=>?_
  have I1:Inv X pins σ H { s with heap:=h' }:=I.turned (t':=s.toks) (fun b o hb e=>(sb.2 b hb).trans e) f0 f1 f3 f4 f5
  obtain⟨o,e,c,d⟩:=id st'
  exact⟨u,rfl,A8f (s:={ s with heap:=h' }) e c d (by decide) ⟨x,H,I1,ru,⟨rfl,fun ys hy=>by rw[I.tuple_inj hy hq];exact hx⟩,st',fun b hb=>(hf b hb).1⟩⟩
 done:=by
  intro X hP hw hK hc i pins s σ H E I hf st hg;subst hP hw hK;obtain⟨xs,hq,hx⟩:=hg;obtain⟨its,rv,p,hz⟩:=I.tuple hq
  obtain⟨f0,f1,f2,f3,f4,f5⟩:=hf it (by simp)
  have hl:=rv.length
  exact wpAny_pyNext_tuple_end (I.ok.hd hc) st (show s.heap.IsTuple a its.toArray from p) (by simp;(first|lia|omega)) fun h' eb=>⟨rfl,I.turned (t':=s.toks) (fun b o hb e=>eb b o hb e) f0 f1 f3 f4 f5⟩
 self:=fun _ _ _ _ _ st h=>wpAny_pyIter_tupleiter st h
theorem Ap6 {P:u6}{w:World}{K:v9}{tg:Expr}(it:Addr)(lo:Int)(n:Nat):Turn P w K tg (Itr lo n) [it] it (fun i h=>IsRangeIter h it (lo+(i:Nat)*1) ((n:Int)-(i:Nat)) 1) where
 mem:=by simp
 obj:=fun i h st b hb=>by
  have e:b=it:=by simpa using hb
  subst e
  exact⟨_,st,fun v z=>by
   have z':Data.fields _=Data.cell v:=z
   cases z'⟩
 keep:=fun i h h' st k=>k it (by simp) _ st
 item:=by
  intro X hP hw hK hc i pins s σ H E I hf st hg;subst hP hw hK
  obtain⟨f0,f1,f2,f3,f4,f5⟩:=hf it (by simp)
  have W:=Walks.range (prog:=X.prog) (w:=X.w) (I.ok.hd hc) it lo 1 n
  refine W.item i s _ _ hg st fun v h' tk hv st' kk=>?_
  obtain⟨t,rfl⟩:=hv
  have I1:Inv X pins σ H { s with heap:=h',toks:=tk }:=I.turned (fun b o hb e=>kk b o (by simpa using hb) e) f0 f1 f3 f4 f5
  refine⟨_,rfl,A8f (s:={ s with heap:=h',toks:=tk }) (n := "range_iterator") st' rfl rfl (by decide) ⟨.int (lo+i),H,I1,⟨t,?_⟩,⟨rfl,rfl⟩,st',fun b hb=>(hf b hb).1⟩⟩
  rw[Int.mul_one]
 done:=by
  intro X hP hw hK hc i pins s σ H E I hf st hg;subst hP hw hK
  obtain⟨f0,f1,f2,f3,f4,f5⟩:=hf it (by simp)
  exact wpAny_pyNext_range_end (I.ok.hd hc) st (by have:n<=i:=hg;(first|lia|omega)) fun h' eb=>⟨rfl,I.turned (t':=s.toks) (fun b o hb e=>eb b o hb e) f0 f1 f3 f4 f5⟩
 self:=fun _ _ _ _ _ st h=>wpAny_pyIter_rangeiter st h
section
variable {X:Cx}{tg:Expr}
theorem A5a       {lo hi:Int}   (I:Inv X pins c H s) (h1:-(2 ^ 62)<=lo) (h2:lo<2 ^ 62) (d:-(2 ^ 62)<=hi) (f:hi<2 ^ 62)
 (q:R (Itr lo (hi-lo).toNat) H):wpAny (model X.prog X.w) X.A (pyIter (.ref s.heap.objs.size)) (PIE X pins c tg R) E { s with heap:=s.heap.push { cls:=.type "range",data:=.fields #[.int lo t,.int hi u,.int 1 v] },toks:=tk }:=by
 refine wpAny_pyIter_range (IsRange.new ..) (small_one h1 h2 d f) ?_
 have a:Inv X _ _ H { s with heap:=s.heap.push { cls:=.type "range",data:=.fields #[.int lo t,.int hi u,.int 1 v] },toks:=tk }:=I.kept fun b o e=>Heap.get?_push_of_some _ e
 refine⟨(s.heap.push _).objs.size,[(s.heap.push _).objs.size],_,_,H,rfl,
  a.kept  fun b o e=>Heap.get?_push_of_some _ e,Ap6 _ _ _,?_,fun b i=>?_,q⟩
 ·have h:lo+((0:Nat))*1=lo:=by simp
  have g:(((hi-lo).toNat):Int)-((0:Nat))=Builtin.Range.rangeSize lo hi 1:=by rw[rangeSize_one];grind
  rw[h,g];exact Heap.get?_push_size _ rfl
 ·have e:b=(s.heap.push { cls:=.type "range",data:=.fields #[.int lo t,.int hi u,.int 1 v] }).objs.size:=by grind
  subst e;exact a.fpOk (ak _) (a.hok.fresh (ak _))
def A4n (ta:TA):TI:=fun σ H R=>ta σ H fun vs H1=>∃j:Int,vs=[.int j]/\-(2 ^ 62)<=j/\j<2 ^ 62/\R (Itr 0 j.toNat) H1
theorem A1c    (hg:Gl X "range") (hm:X.mg "range" = none) (ha:PA X [a] d) (hs:starEach [a] X.env=[(false,eval a X.env)]:=by rfl):PI X tg (.Call (.Name "range" p) [a] [] b) (A4n d):=by
 intro f s σ H R I h
 refine Call_ (Hr I hg hm boot_range (cH (thn (ha _ _ s _ H _ I h) fun us s1 ⟨vs,H1,g,i,c⟩=>?_) hs rfl))
 obtain⟨j,e,c,k,q⟩:=c;subst e
 cases i with
 | cons r l =>
  cases l
  obtain⟨t,rfl⟩:=r
  exact call_range_1 (A5a g (by (first|lia|omega)) (by (first|lia|omega)) c k (by grind))
def Bn2 (wi:TI)(g:TG)(tb:TS):TS:=fun D σ H=>wi σ H fun J H1=>∃W:Nat->Nat->St->Hp->Prop,(∃m,W 0 m σ H1)/\∀i m σ H,W i m σ H ->
 (J.stop i H/\D.nx σ H)\/(J.go i H/\∃N:St->Hp->Prop,(∀σ' H',N σ' H'->∃m',m'<m/\W (i+1) m' σ' H')/\∀x H',J.yld i H x H'->g x σ H' fun σ2 H2=>tb { D with nx:=N,ct:=N,bk:=D.nx } σ2 H2)
def U3 (fp:v6)(h:Heap):y_:=fp.filterMap fun b=>(h.get? b).map fun o=>(b,o)
theorem J4     (hb:b∈fp) (e:h.get? b=some o):(b,o)∈U3 fp h:=dN.mpr ⟨b,hb,by grind⟩
theorem A1m    (hp:p∈U3 fp h):p.1∈fp/\h.get? p.1=some p.2:=by
 obtain⟨b,a,e⟩:=dN.mp hp
 cases q:h.get? b with
 | none=>simp_all
 | some o =>
  grind
theorem Inv.pinned      (I:Inv X pins a H s) (hf:∀b∈fp,Nb X pins H b) (ho:∀b∈fp,∃o,s.heap.get? b=some o/\∀v,o.data≠.cell v):Inv X (pins++U3 fp s.heap) a H s :=
 I.pins_of fun p d=>(bx.mp d).elim (fun z=>I.pin p (aC _ z)) fun z=>by
  obtain⟨c,e⟩:=A1m z;obtain⟨g,h,f,_⟩:=hf _ c
  grind
theorem Inv.unpinned     (I:Inv X (pins++pl) a H s):Inv X pins a H s:=I.pins_of fun p b=>I.pin p (aC _ (bz _ b))
theorem Bs4       (hp:PassesOwn (model X.prog X.w) X.A X.env X.xe) (hc:X.calm=true) (hi:PI X tg p Z) (hg:PG X tg g) (hb:PSs X body tb)
 (hs:∀x,foldedSetIterable p X.env x=pure x:=by intro _;rfl):PS X (.For tg p body [] P) (Bn2 Z g tb):=by
 intro a s σ H D I h
 refine wpAny_For (thn (hi a s σ H _ I h) fun v s1 h1=>thn h1 fun itv s2 h2=>?_) hs
 obtain⟨it,C,tn,J,H2,e,I2,T,Q,Y,W,⟨m0,w0⟩,E⟩:=h2;subst e
 have k:∀{t:Hp},(∀b∈C,t b=none)->∀b∈C,Nb X a t b:=fun hn b hb=>⟨hn b hb,(Y b hb).2⟩
 refine codeAny_forLoop_any (fun n U=>∃i σ' t,Inv X a σ' t U/\tn i U.heap/\(∀b∈C,t b=none)/\W i n σ' t) ?_ m0 ⟨0,σ,H2,I2,Q,fun b hb=>(Y b hb).1,w0⟩
 rintro n V ⟨i,j,L,I3,B,F,w3⟩
 rcases E i n j L w3 with ⟨A,qn⟩ | ⟨go,N,hN,K⟩
 ·refine wpAny_passesOwn hp (thn (T.done X rfl rfl rfl hc i a V j L X.xe I3 (k F) B A) fun r s4 ⟨M,I4⟩=>?_)
  subst M;exact wpAny_execs_nil ⟨j,L,I4,qn⟩
 ·refine wpAny_passesOwn hp (thn (T.item X rfl rfl rfl hc i a V j L X.xe I3 (k F) B go) fun r s4 ⟨u,M,h4⟩=>?_)
  subst M
  refine wpAny_passesOwn hp (thn h4 fun _ s5 ⟨x,S,I5,r5,y5,z,O⟩=>?_)
  refine wpAny_passesOwn hp (thn (hg _ s5 j S x u _ (I5.pinned (k O) (T.obj _ _ z)) r5 (K x S y5)) fun _ s6 ⟨R,H6,I6,q6⟩=>?_)
  refine wpAny_passesOwn hp (thn (hb _ s6 R H6 _ I6 q6) fun f s7 y=>?_)
  have l:∀{c:St} {w:Hp},Inv X (a++U3 C s5.heap) c w s7->N c w->∃m,m<n/\∃i σ' t,Inv X a σ' t _/\tn i _/\(∀b∈C,t b=none)/\W i m σ' t:=fun {c w} q G=>by
   obtain⟨m',hm,w7⟩:=hN _ _ G
   refine⟨m',hm,i+1,c,w,q.unpinned,T.keep _ _ _ z fun b hb o e=>(q.pin _ (aC _ (aC _ (J4 hb e)))).1,fun b hb=>?_,w7⟩
   obtain⟨o,e,d⟩:=T.obj _ _ z b hb;exact(q.pin _ (aC _ (aC _ (J4 hb e)))).2.1
  cases f with
  | next=>obtain⟨c,w,q,G⟩:=y;exact l q G
  | cont=>obtain⟨c,w,q,G⟩:=y;exact l q G
  | brk=>obtain⟨c,w,q,y⟩:=y;exact⟨c,w,q.unpinned,y⟩
  | ret v=>obtain⟨x7,c,w,q,r7,y⟩:=y;exact⟨x7,c,w,q.unpinned,r7,y⟩
end
abbrev R2:=V->V->Hp->VK->Prop
def OpR (X:Cx)(f:Value->Value->Sem Value)(r:R2):Prop :=
 ∀
  (pins:y_) (s:u_) (σ:St) (H:Hp) (x y:V) (v u:Value) (Q:VK),Inv X pins σ H s->RelV x v->RelV y u->r x y H Q ->
  wpAny (model X.prog X.w) X.A (f v u) (EP X pins σ Q) X.xe s
def CallR (X:Cx)(f:Value)(r:l_->Hp->VK->Prop):Prop :=
 ∀
  (pins:y_) (s:u_) (σ:St) (H:Hp) (xs:l_) (us:w6) (Q:VK),Inv X pins σ H s->Vals xs us->r xs H Q ->
  wpAny (model X.prog X.w) X.A (call f us) (EP X pins σ Q) X.xe s
def tOp (r:R2)(ta tb:TE):TE:=fun σ H Q=>ta σ H fun x H1=>tb σ H1 fun y H2=>r x y H2 Q
def tUn (r:V->Hp->VK->Prop)(ta:TE):TE:=fun σ H Q=>ta σ H fun x H1=>r x H1 Q
def rI (C:Int->Int->Prop)(g:Int->Int->V):R2:=fun x y H Q=>∃i j,x=.int i/\y=.int j/\C i j/\Q (g i j) H
def rI0 (g:Int->Int->V):R2:=fun x y H Q=>∃i j,x=.int i/\y=.int j/\Q (g i j) H
section
variable {X:Cx}{a b c:Expr}{ta tb tc:TE}{pos:Pos}
theorem By5 (ha:PE X a ta)(hb:PE X b tb)     {R:V->V->Hp->Prop}(I:Inv X pins g H s)
 (h:ta g H fun x j=>tb g j fun y c=>R x y c)  {f:Value->Value->Sem Value}
 (hf:∀v u i x y c,Inv X pins g c i->RelV x v->RelV y u->R x y c->wpAny (model X.prog X.w) X.A (f v u) Q X.xe i) :
 wpAny (model X.prog X.w) X.A (eval a X.env) (fun v d=>wpAny (model X.prog X.w) X.A (eval b X.env) (fun u e=>wpAny (model X.prog X.w) X.A (f v u) Q X.xe e) X.xe d) X.xe s:=by
 refine thn (ha _ s _ H _ I h) fun v o ⟨x,j,k,n,l⟩=>?_
 refine thn (hb _ _ _ _ _ k l) fun u i ⟨y,c,p,q,m⟩=>?_
 grind
theorem Wt   (ho:OpR X (binaryOp op) r) (ha:PE X a ta) (hb:PE X b tb):PE X (.BinOp a op b pos) (tOp r ta tb):=by
 intro c s g H Q I h
 exact wpAny_BinOp (By5 ha hb I h fun v u i x y j f e d q=>ho _ _ _ _ x y v u Q f e d q)
theorem opI   {g:Int->Int->Int}
 (a:∀(i j:Int) (t u:Tok) (s:u_) (Q:z_) (E:z_),C i j->Q (.int (g i j) s.toks) { s with toks:=s.toks+1 }->wpAny (model X.prog X.w) X.A (f (.int i t) (.int j u)) Q E s) :
 OpR X f (rI C fun i j=>.int (g i j)):=by
 intro b s σ H x y v u Q I c e h;obtain⟨i,j,rfl,rfl,d,q⟩:=h;obtain⟨t,rfl⟩:=c;obtain⟨t',rfl⟩:=e;exact a i j t _ s _ _ d ⟨.int _,H,I.tok _,⟨_,rfl⟩,q⟩
theorem Vv  {g:Int->Int->Int}
 (a:∀(i j:Int) (t u:Tok) (s:u_) (Q:z_) (E:z_),Q (.int (g i j) s.toks) { s with toks:=s.toks+1 }->wpAny (model X.prog X.w) X.A (f (.int i t) (.int j u)) Q E s) :
 OpR X f (rI0 fun i j=>.int (g i j)):=by
 intro b s σ H x y v u Q I c d h;obtain⟨i,j,rfl,rfl,q⟩:=h;obtain⟨t,rfl⟩:=c;obtain⟨t',rfl⟩:=d;exact a i j t _ s _ _ ⟨.int _,H,I.tok _,⟨_,rfl⟩,q⟩
theorem Br3  {g:Int->Int->Bool}
 (a:∀(i j:Int) (t u:Tok) (s:u_) (Q:z_) (E:z_),Q (.bool (g i j)) s->wpAny (model X.prog X.w) X.A (f (.int i t) (.int j u)) Q E s) :
 OpR X f (rI0 fun i j=>.bl (g i j)):=by
 intro b s σ H x y v u Q I c d h;obtain⟨i,j,rfl,rfl,q⟩:=h;obtain⟨t,rfl⟩:=c;obtain⟨t',rfl⟩:=d;exact a i j t _ s _ _ ⟨.bl _,H,I,rfl,q⟩
def A8i (i j:Int):Prop:=0<j/\j<1073741824
def A4g (i j:Int):Prop:=0<=j/\j<=1000000/\i.natAbs<2 ^ 64
def CMul (i j:Int):Prop:=(-(2 ^ 64)<i/\i<2 ^ 64)\/(-(2 ^ 64)<j/\j<2 ^ 64)
theorem CMul.ok  (h:CMul i j):IntMulOk i j:=by
 rcases h with ⟨b,a⟩ | ⟨b,a⟩
 ·exact .of_left (intBits_le_64 b a)
 ·exact .of_right (intBits_le_64 b a)
theorem Bo3:OpR X (binaryOp .Add) (rI0 fun i j=>.int (i+j)):=Vv fun _ _ _ _ _ _ _ q=>add_int q
theorem Bw9:OpR X (binaryOp .Sub) (rI0 fun i j=>.int (i-j)):=Vv fun _ _ _ _ _ _ _ q=>sub_int q
theorem Bz1:OpR X (binaryOp .Mult) (rI CMul fun i j=>.int (i*j)):=opI fun _ _ _ _ _ _ _ a q=>mul_int q a.ok
theorem Ba3:OpR X (binaryOp .FloorDiv) (rI A8i fun i j=>.int (i / j)):=opI fun i j _ _ _ _ _ a q=>by
 have c:(0:Int)<j:=a.1;have b:j<1073741824:=a.2
 exact floordiv_int (by (first|lia|omega)) (by rw[Int.fdiv_eq_ediv_of_nonneg i (by (first|lia|omega))];exact q) (.inl (PyProof.noPylong_small (by (first|lia|omega))))
theorem B0v:OpR X (binaryOp .Mod) (rI (fun _ j=>0<j) fun i j=>.int (i % j)):=opI fun i j _ _ _ _ _ a q=>by
 have b:(0:Int)<j:=a
 exact mod_int' (by (first|lia|omega)) (by rw[Int.fmod_eq_emod_of_nonneg i (by (first|lia|omega))];exact q)
theorem B0o:OpR X (binaryOp .Pow) (rI A4g fun i j=>.int (i ^ j.toNat)):=opI fun _ _ _ _ _ _ _ a q=>pow_int_small a.1 a.2.1 a.2.2 q
end
def B1p:V->V->Bool
 | .non,.non=>true | .non,.int _=>true | .int _,.non=>true | .non,.bl _=>true | .bl _,.non=>true | .non,.str _=>true | .str _,.non=>true
 | .int _,.int _=>true | .bl _,.bl _=>true | .str _,.str _=>true | .byt _,.byt _=>true
 | .int _,.str _=>true | .str _,.int _=>true | .bl _,.str _=>true | .str _,.bl _=>true
 | _,_=>false
def rEq:R2:=fun x y H Q=>B1p x y=true/\Q (.bl (decide (x=y))) H
def rNe:R2:=fun x y H Q=>B1p x y=true/\Q (.bl (!decide (x=y))) H
theorem Av8  : decide (V.int i=V.int j)=(i==j):=by
 grind
theorem A9h  : decide (V.bl i=V.bl j)=(i==j):=by
 grind
theorem Ax2  : decide (V.str i=V.str j)=(i==j):=by
 grind
theorem As6  : decide (V.byt i=V.byt j)=(i.toList==j.toList):=by
 rw[Bool.eq_iff_iff]
 simp_all
section
variable {X:Cx}{a b c:Expr}{ta tb tc:TE}{pos:Pos}
theorem Ci  {b:St}    {k a:Bool}(I:Inv X pins b H s) (q:Q (.bl k) H) (e:k=a):EP X pins b Q (.bool a) s:=by
 subst e;exact⟨.bl k,H,I,rfl,q⟩
theorem B1e:OpR X (compareOp .Eq) rEq:=by
 intro e s σ H x y v u Q I d a h;obtain⟨c,q⟩:=h
 cases x with
 | non =>
  cases d
  cases y with
  | non=>cases a;exact PySem.EqNone.eq_none_none (Ci I q (by simp))
  | bl j=>cases a;exact PySem.EqNone.eq_none_bool (Ci I q (by simp))
  | int j=>obtain⟨b,rfl⟩:=a;exact PySem.EqNone.eq_none_int (Ci I q (by simp))
  | str j=>obtain⟨b,rfl⟩:=a;exact PySem.EqNone.eq_none_str (Ci I q (by simp))
  | _=>exact absurd (show false=true from c) bj
 | bl i =>
  cases d
  cases y with
  | non=>cases a;exact PySem.EqNone.eq_bool_none (Ci I q (by simp))
  | bl j=>cases a;exact eq_bool (Ci I q A9h)
  | str j=>obtain⟨b,rfl⟩:=a;exact PySem.EqMixed.eq_bool_str (Ci I q (by simp))
  | _=>exact absurd (show false=true from c) bj
 | int i =>
  obtain⟨t,rfl⟩:=d
  cases y with
  | non=>cases a;exact PySem.EqNone.eq_int_none (Ci I q (by simp))
  | int j=>obtain⟨b,rfl⟩:=a;exact eq_int (Ci I q Av8)
  | str j=>obtain⟨b,rfl⟩:=a;exact PySem.EqMixed.eq_int_str (Ci I q (by simp))
  | _=>exact absurd (show false=true from c) bj
 | str i =>
  obtain⟨t,rfl⟩:=d
  cases y with
  | non=>cases a;exact PySem.EqNone.eq_str_none (Ci I q (by simp))
  | bl j=>cases a;exact PySem.EqMixed.eq_str_bool (Ci I q (by simp))
  | int j=>obtain⟨b,rfl⟩:=a;exact PySem.EqMixed.eq_str_int (Ci I q (by simp))
  | str j=>obtain⟨b,rfl⟩:=a;exact eq_str (Ci I q Ax2)
  | _=>exact absurd (show false=true from c) bj
 | byt i =>
  obtain⟨t,rfl⟩:=d
  cases y with
  | byt j=>obtain⟨b,rfl⟩:=a;exact PySem.W.eq_bytes (Ci I q As6)
  | _=>exact absurd (c) bj
 | _=>cases y <;> exact absurd (show false=true from c) bj
theorem B0z:OpR X (compareOp .NotEq) rNe:=by
 intro e s σ H x y v u Q I d a h;obtain⟨c,q⟩:=h
 cases x with
 | non =>
  cases d
  cases y with
  | non=>cases a;exact PySem.EqNone.ne_none_none (Ci I q (by simp))
  | bl j=>cases a;exact PySem.EqNone.ne_none_bool (Ci I q (by simp))
  | int j=>obtain⟨b,rfl⟩:=a;exact PySem.EqNone.ne_none_int (Ci I q (by simp))
  | str j=>obtain⟨b,rfl⟩:=a;exact PySem.EqNone.ne_none_str (Ci I q (by simp))
  | _=>exact absurd (show false=true from c) bj
 | bl i =>
  cases d
  cases y with
  | non=>cases a;exact PySem.EqNone.ne_bool_none (Ci I q (by simp))
  | bl j=>cases a;exact ne_bool (Ci I q (bO not A9h))
  | str j=>obtain⟨b,rfl⟩:=a;exact PySem.EqMixed.ne_bool_str (Ci I q (by simp))
  | _=>exact absurd (show false=true from c) bj
 | int i =>
  obtain⟨t,rfl⟩:=d
  cases y with
  | non=>cases a;exact PySem.EqNone.ne_int_none (Ci I q (by simp))
  | int j=>obtain⟨b,rfl⟩:=a;exact ne_int (Ci I q (bO not Av8))
  | str j=>obtain⟨b,rfl⟩:=a;exact PySem.EqMixed.ne_int_str (Ci I q (by simp))
  | _=>exact absurd (show false=true from c) bj
 | str i =>
  obtain⟨t,rfl⟩:=d
  cases y with
  | non=>cases a;exact PySem.EqNone.ne_str_none (Ci I q (by simp))
  | bl j=>cases a;exact PySem.EqMixed.ne_str_bool (Ci I q (by simp))
  | int j=>obtain⟨b,rfl⟩:=a;exact PySem.EqMixed.ne_str_int (Ci I q (by simp))
  | str j=>obtain⟨b,rfl⟩:=a;exact ne_str (Ci I q (bO not Ax2))
  | _=>exact absurd (show false=true from c) bj
 | byt i =>
  obtain⟨t,rfl⟩:=d
  cases y with
  | byt j=>obtain⟨b,rfl⟩:=a;exact PySem.W.ne_bytes (Ci I q (bO not As6))
  | _=>exact absurd (c) bj
 | _=>cases y <;> exact absurd (show false=true from c) bj
theorem B2y:OpR X (compareOp .Lt) (rI0 fun i j=>.bl (decide (i<j))):=Br3 fun _ _ _ _ _ _ _ q=>lt_int q
theorem B2c:OpR X (compareOp .Gt) (rI0 fun i j=>.bl (decide (j<i))):=Br3 fun _ _ _ _ _ _ _ q=>gt_int q
theorem B2q:OpR X (compareOp .GtE) (rI0 fun i j=>.bl (decide (j<=i))):=Br3 fun _ _ _ _ _ _ _ q=>ge_int q
theorem Bv8:OpR X (compareOp .Is) (fun x y H Q=>y=.non/\Q (.bl (decide (x=.non))) H):=by
 intro a s σ H x y v u Q I c b h;obtain⟨rfl,q⟩:=h
 cases b
 refine is_none_gen (Ci I q ?_)
 cases x <;> first
  | (first|lia|omega)
  | (obtain⟨t,rfl⟩:=c;rfl)
theorem Bd2:OpR X (compareOp .IsNot) (fun x y H Q=>y=.non/\Q (.bl (!decide (x=.non))) H):=by
 intro a s σ H x y v u Q I c b h;obtain⟨rfl,q⟩:=h
 cases b
 refine isnot_none_gen (Ci I q ?_)
 cases x <;> first
  | rfl
  | (obtain⟨t,rfl⟩:=c;rfl)
theorem OpR.or  {r b:R2}(h:OpR X f r) (h':OpR X f b):OpR X f (fun x y H Q=>r x y H Q\/b x y H Q):=by
 intro c s e H x y v u Q I d a q
 rcases q with q | q
 ·exact h _ s _ H x y v u Q I d a q
 ·exact h' _ s _ H x y v u Q I d a q
theorem Lw (b:Expr)  (h:op≠.In:=by decide) (h2:op≠.NotIn:=by decide):behindInMarks op b=false:=by
 have c:(op==CmpOp.In)=false:=by grind
 have a:(op==CmpOp.NotIn)=false:=by grind
 cases b <;> simp[behindInMarks,c,a]
theorem Y5   (ho:OpR X (compareOp op) r) (ha:PE X a ta) (hb:PE X b tb) (hm:behindInMarks op b=false):PE X (.Compare a [op] [b] pos) (tOp r ta tb):=by
 intro c s g H Q I h
 exact wpAny_Compare1 (By5 ha hb I h fun v u i x y j f e d q=>ho _ _ _ _ x y v u Q f e d q) hm
def Kw (t:TE):TT:=fun σ H Q=>t σ H fun x H'=>∃k,x=.bl k/\Q k H'
theorem Mq   (ho:OpR X (compareOp op) r) (ha:PE X a ta) (hb:PE X b tb) (hm:behindInMarks op b=false):PT X (.Compare a [op] [b] pos) (Kw (tOp r ta tb)):=by
 intro d s t H Q I h
 refine wpAny_isTrue_Compare1 (thn (ha _ s _ H _ I h) fun v C ⟨x,D,j,l,m⟩=>thn (hb _ _ _ _ _ j m) fun u w ⟨y,B,i,g,o⟩ =>
  thn (ho _ _ _ _ x y v u _ i l g o) fun c A ⟨z,n,p,q,k,e,f⟩=>?_) hm
 subst e
 cases q
 exact wpAny_truthy_bool ⟨n,p,f⟩
theorem Vh:(sizeLine:Nat)<2 ^ 63:=by decide
theorem Aj1:OpR X (binaryOp .Add) (fun x y H Q=>∃i j,x=.str i/\y=.str j/\i.length+j.length<=sizeLine/\Q (.str (i++j)) H):=by
 intro a s σ H x y v u Q I c b h;obtain⟨i,j,rfl,rfl,e,q⟩:=h;obtain⟨t,rfl⟩:=c;obtain⟨d,rfl⟩:=b
 exact add_str (fun d tk=>⟨.str _,H,I.tok _,⟨_,rfl⟩,q⟩) e
theorem vals1   (r:Vals [x] us):∃u,us=[u]/\RelV x u:=by
 cases r with
 | cons b a=>cases a;grind
theorem vals2   (r:Vals [x,y] us):∃u w',us=[u,w']/\RelV x u/\RelV y w':=by
 cases r with
 | cons c b =>
  cases b with
  | cons d a=>cases a;grind
theorem A7h:CallR X (.builtin "abs") (fun xs H Q=>∃i,xs=[.int i]/\Q (.int (if i<0 then -i else i)) H):=by
 intro a s σ H xs us Q I r h;obtain⟨i,rfl,q⟩:=h;obtain⟨u,rfl,t,rfl⟩:=vals1 r
 exact call_abs_int fun u tk=>⟨.int _,H,I.tok _,⟨_,rfl⟩,q⟩
theorem A1l (hc:X.calm=true):CallR X (.builtin "max") (fun xs H Q=>∃i j,xs=[.int i,.int j]/\Q (.int (if j>i then j else i)) H):=by
 intro a s σ H xs us Q I r h;obtain⟨i,j,rfl,q⟩:=h;obtain⟨u,w',rfl,⟨t,rfl⟩,⟨t',rfl⟩⟩:=vals2 r
 refine max_two_ints (I.ok.hd hc) fun h' tk k=>⟨_,H,I.kept k,?_,q⟩
 by_cases hj:j>i
 ·rw[if_pos hj,if_pos hj];exact⟨_,rfl⟩
 ·rw[if_neg hj,if_neg hj];exact⟨_,rfl⟩
theorem Ay7 (hc:X.calm=true):CallR X (.builtin "min") (fun xs H Q=>∃i j,xs=[.int i,.int j]/\Q (.int (if j<i then j else i)) H):=by
 intro a s σ H xs us Q I r h;obtain⟨i,j,rfl,q⟩:=h;obtain⟨u,w',rfl,⟨t,rfl⟩,⟨t',rfl⟩⟩:=vals2 r
 refine min_two_ints (I.ok.hd hc) fun h' tk k=>⟨_,H,I.kept k,?_,q⟩
 by_cases hj:j<i
 ·rw[if_pos hj,if_pos hj];exact⟨_,rfl⟩
 ·rw[if_neg hj,if_neg hj];exact⟨_,rfl⟩
theorem Az0:CallR X (.type "int") (fun xs H Q=>(∃i,xs=[.int i]/\Q (.int i) H)\/∃k,xs=[.bl k]/\Q (.int (if k then 1 else 0)) H):=by
 intro a s σ H xs us Q I r h
 rcases h with ⟨i,rfl,q⟩ | ⟨k,rfl,q⟩
 ·obtain⟨u,rfl,t,rfl⟩:=vals1 r
  exact call_int_int ⟨.int i,H,I,⟨_,rfl⟩,q⟩
 ·obtain⟨u,rfl,b⟩:=vals1 r
  cases b
  exact call_int_bool ⟨.int _,H,I.tok _,⟨_,rfl⟩,q⟩
theorem Zi:CallR X (.type "str") (fun xs H Q=>∃i,xs=[.int i]/\i.natAbs.log2<1920/\Q (.str (toString i)) H):=by
 intro a s σ H xs us Q I r h;obtain⟨i,rfl,b,q⟩:=h;obtain⟨u,rfl,t,rfl⟩:=vals1 r;exact PySem.P.str_of_int b ⟨.str _,H,I.tok _,⟨_,rfl⟩,q⟩
def B1i (K:v9)(x:V)(H:Hp)(n:Nat):Prop :=
 match x with
 | .str y=>y.length<=sizeLine/\n=y.length
 | .byt y=>y.size<=sizeLine/\n=y.size
 | .ref p=>(∃xs,SqL K H p xs/\n=xs.length)\/∃xs,SqT K H p xs/\n=xs.length
 | _=>False
theorem Ab5:CallR X (.builtin "len") (fun xs H Q=>∃x n,xs=[x]/\B1i X.K x H n/\Q (.int n) H):=by
 intro j s σ H xs us Q I r h;obtain⟨x,n,rfl,e,q⟩:=h;obtain⟨u,rfl,d⟩:=vals1 r;have hl:=Vh;have hs:sizeLine=16777216:=sizeLine_eq
 cases x with
 | str y =>
  obtain⟨t,rfl⟩:=d;obtain⟨l,b⟩:y.length<=sizeLine/\n=y.length:=e;subst b
  exact len_str (by (first|lia|omega)) ⟨.int _,H,I.tok _,⟨_,rfl⟩,q⟩
 | byt y =>
  obtain⟨t,rfl⟩:=d;obtain⟨l,b⟩:y.size<=sizeLine/\n=y.size:=e;subst b
  exact PySem.W.len_bytes (by (first|lia|omega)) ⟨.int _,H,I.tok _,⟨_,rfl⟩,q⟩
 | ref p =>
  cases d
  have b  := e
  rcases b with ⟨xs,c,b⟩ | ⟨xs,c,b⟩
  ·subst b
   obtain⟨g,f,i,k⟩:=I.list c;have a:=f.length
   exact Calls.call_len_list i.isList (by grind) ⟨.int _,H,I.tok _,⟨_,by simp only[aZ];rw[a]⟩,q⟩
  ·subst b
   obtain⟨g,f,i,k⟩:=I.tuple c;have a:=f.length
   exact len_tuple i (by grind) ⟨.int _,H,I.tok _,⟨_,by simp only[aZ];rw[a]⟩,q⟩
 | _=>trivial
end
theorem RelO.some_of {v:V}{o:u9}(r:RelO (some v) o):∃u,o=some u/\RelV v u:=by
 cases o with
 | none=>trivial
 | some u=>exact⟨u,rfl,r⟩
section
variable {X:Cx}{pins:y_}{σ:St}{H:Hp}{s:u_}{a C dx:Addr}{fs:List (Str×V)}{f:Str}{v:V}{A:q_}{E:z_}
theorem Bj0 {prog:u6}{w:World}{env:Env}{e:Expr}{f:Str}{pos:Pos}{s:u_}{Q:z_}(hb:attributeBase e f env (eval e env)=eval e env)
 (h:wpAny (model prog w) A (eval e env) (fun o s₁=>wpAny (model prog w) A (getAttr o f true) Q E s₁) E s):wpAny (model prog w) A (eval (.Attribute e f pos) env) Q E s :=
 Attribute_any_ h (by rw[arm_eval_Attribute,hb])
end
structure Room (k:Nat) (A:q_):Prop where
 hd:A.handled=none
 dp:A.depth+3*k+5<recursionLimit
 un:A.units+16*k+200<cLine
 gd:A.guards=some []
theorem Room.mono   (r:Room k A) (h:j<=k):Room j A:=⟨r.hd,by have:=r.dp;(first|lia|omega),by have:=r.un;(first|lia|omega),r.gd⟩
theorem Room.deeper   (r:Room (k+1) A) (env:Env):Room k (A.deeper env) :=
 ⟨r.hd,by have:=r.dp;show A.depth+1+3*k+5<_;(first|lia|omega),by have:=r.un;show A.units+3+16*k+200<_;(first|lia|omega),r.gd⟩
theorem Room.in1   (r:Room (k+1) A):Room k A.in1 :=
 ⟨r.hd,by have:=r.dp;grind,by have:=r.un;grind,r.gd⟩
theorem Ak9 {A:q_}{C:Addr}{us:w6}{kw:List (Str×Value)}:(A.under (.builtin "type.__call__" ⟨.ref C::us,kw⟩)).depth=A.depth+1:=by
 first | rfl | simp[Around.under,Code.weight,Code.isCreation,Code.isGuard,Code.isCaller,Code.frames,Code.isFrame,guardIds]
theorem Al1 {A:q_}{C:Addr}{us:w6}{kw:List (Str×Value)}:(A.under (.builtin "type.__call__" ⟨.ref C::us,kw⟩)).units=A.units+1:=by
 first | rfl | simp[Around.under,Code.cUnits,Code.frames,Code.isFrame]
theorem Room.make {k:Nat}{A:q_}(r:Room (k+1) A)(C:Addr)(us:w6)(kw:List (Str×Value)):Room k (A.under (.builtin "type.__call__" ⟨.ref C::us,kw⟩)) :=
 ⟨r.hd,by have:=r.dp;rw[Ak9];(first|lia|omega),by have:=r.un;rw[Al1];(first|lia|omega),by first | exact r.gd | (show (A.under _).guards=some [];rw[<- r.gd];rfl) | simp[Around.under,Code.guards,Code.isGuard,guardIds,r.gd]⟩
theorem Room.depth   (r:Room k A):A.depth<recursionLimit:=by have:=r.dp;(first|lia|omega)
theorem Room.units   (r:Room k A):A.units+64<cLine:=by have:=r.un;(first|lia|omega)
def Fl:TA:=fun _ H Q=>Q [] H
def Ca (ta:TE)(tr:TA):TA:=fun σ H Q=>ta σ H fun x H1=>tr σ H1 fun xs H2=>Q (x::xs) H2
section
variable {X:Cx}{e:Expr}{es:v_}{te:TE}{t:TA}{pos:Pos}
theorem Xd:PA X [] Fl:=fun _ _ _ _ H Q I h=>Calls.spliced_nil ⟨[],H,I,.nil,h⟩
theorem Aw9 (ha:PE X e te)(hr:PA X es t)(hs:starEach (e::es) X.env=(false,eval e X.env)::starEach es X.env:=by rfl):PA X (e::es) (Ca te t):=by
 intro d a s m H Q I h;rw[hs]
 refine Calls.spliced_cons (thn (ha _ s _ H _ I h) fun u o ⟨x,n,f,g,i⟩=>?_)
 exact thn (hr _ _ _ _ _ _ f i) fun p q ⟨c,k,j,l,b⟩=>⟨x::c,k,j,.cons g l,b⟩
def A7d (t:TA):TE:=fun σ H Q=>t σ H fun xs H1=>xs.length<=sizeLine/\∀p,H1 p=none->Q (.ref p) (upd H1 p (.tup xs))
def Bo2 (t:TA):TE:=fun σ H Q=>t σ H fun xs H1=>xs.length<=sizeLine/\∀p,H1 p=none->Q (.ref p) (upd H1 p (.lst xs))
theorem Bn1  (h:PA X es t):PE X (.Tuple es d pos) (A7d t):=by
 intro a s i H Q I g
 refine wpAny_Tuple_spliced (thn (h _ _ s _ H _ I g) fun f j ⟨k,l,c,r,z,q⟩=>⟨by rw[<- r.length];grind,?_⟩)
 refine⟨.ref _,upd _ _ _,c.laid  (fun b u e=>Heap.get?_push_of_some _ e) (ak _) ?_,rfl,q _ (c.hok.fresh (ak _))⟩
 exact⟨z,f,r,⟨_,Heap.get?_push_size _ rfl,rfl,⟨_,rfl⟩,rfl⟩⟩
theorem Bt4 (h:PA X es t):PE X (.List es pos) (Bo2 t):=by
 intro c s g H Q I d
 refine wpAny_List_spliced (thn (h _ _ s _ H _ I d) fun f i ⟨j,k,a,r,z,q⟩=>⟨by rw[<- r.length];grind,?_⟩)
 refine⟨.ref _,upd _ _ _,a.laid  (fun b u e=>Heap.get?_push_of_some _ e) (ak _) ?_,rfl,q _ (a.hok.fresh (ak _))⟩
 exact⟨z,f,0,r,Heap.get?_push_size _ rfl⟩
end
abbrev Sp:=l_->Hp->VK->XK->Prop
abbrev CXT:=List Env->Hp->u_->XK->Value->u_->Prop
structure Env0 (P:u6) (w:World) (K:v9) (mg:x_) (base:Heap) (A:q_) (outer:List Env) (s:u_) (H:Hp):Prop where
 frames:A.frames=some outer
 mod:Mod K mg base
 bs:∀b o,base.get? b=some o->s.heap.get? b=some o/\H b=none
 bsz:base.objs.size<=s.heap.objs.size
 funs:s.heap.FunFrames base outer
 frf:∀b∈frs outer,H b=none
 tab:∀p∈Dr K,H p.1=some (.tbl p.2)
 hok:HOk P w H s.heap
 bare:AllBare s.gens
def CE (outer:List Env)(P:u6)(w:World)(H:Hp)(s:u_)(Q:VK)(u:Value)(s':u_):Prop :=
 ∃v H',s'.os=s.os/\AllBare s'.gens/\Un (frs outer) [] H H' s.heap s'.heap/\HOk P w H' s'.heap/\RelV v u/\Q v H'
def CR (CX:CXT)(outer:List Env)(P:u6)(w:World)(H:Hp)(s:u_)(Q:VK)(E:XK)(r:Result)(s':u_):Prop :=
 match r with
 | .ok (.ret u)=>CE outer P w H s Q u s'
 | .ok _=>False
 | .error e=>CX outer H s E e s'
structure FnOk (P:u6) (w:World) (K:v9) (mg:x_) (base:Heap) (CX:CXT) (k:Nat) (f:Addr) (fd:u5) (ps:v4) (sp:Sp):Prop where
 len:∀vs H Q E,sp vs H Q E->vs.length=ps.length
 run:∀(A:q_) (outer:List Env) (s:u_) (H:Hp) (args:Args) (us:w6) (vs:l_) (Q:VK) (E:XK),Room k A->Env0 P w K mg base A outer s H->BindsTo s fd args (ps.zip us)->Vals vs us->sp vs H Q E ->
  codeAny (model P w) A (.call (.ref f) args) (CR CX outer P w H s Q E) s
theorem FnOk.imp   {K:v9}         (F:FnOk P w K mg base CX k f d ps sp)
 (h:∀b H Q E,a b H Q E->sp b H Q E):FnOk P w K mg base CX k f d ps a :=
 ⟨fun b H Q E q=>F.len _ H Q E (h _ _ _ _ q),fun A c s H e n b Q E j l i m g=>F.run A _ s H _ _ _ Q E j l i m (h _ _ _ _ g)⟩
theorem Env0.make {P:u6}{w:World}{K:v9}{mg:x_}{base:Heap}{A:q_}{outer:List Env}{s:u_}{H:Hp}(e:Env0 P w K mg base A outer s H)(C:Addr)(us:w6)(kw:List (Str×Value)) :
 Env0 P w K mg base (A.under (.builtin "type.__call__" ⟨.ref C::us,kw⟩)) outer s H:=⟨by first | exact e.frames | (simpa[Around.under,Code.envs,Code.isFrame,pushEnvs] using e.frames),e.mod,e.bs,e.bsz,e.funs,e.frf,e.tab,e.hok,e.bare⟩
theorem Env0.in1   {K:v9}       (e:Env0 P w K mg base A a s H) :
 Env0 P w K mg base A.in1 a s H:=⟨e.frames,e.mod,e.bs,e.bsz,e.funs,e.frf,e.tab,e.hok,e.bare⟩
section
variable {X:Cx}{pins:y_}{σ:St}{H:Hp}{s s':u_}
theorem Inv.env0 (I:Inv X pins σ H s):Env0 X.prog X.w X.K X.mg X.base X.A X.stack s H :=
 ⟨I.ok.frames,I.ok.mod,I.bs,aj I.ok.bsz I.sz,I.stack,I.stkFree,fun p a=>I.base.tbls _ _ (I.ok.tab p a),I.hok,I.bare⟩
theorem Inv.after   (I:Inv X pins σ H s) (h:CE X.stack X.prog X.w H s Q u s'):EP X pins σ Q u s':=by
 obtain⟨v,j,i,a,f,c,r,q⟩:=h;obtain⟨hh,g,d,t,e⟩:=s';obtain rfl:e=s.os:=i
 exact⟨v,j,I.call      f c a fun b z=>absurd z (by simp),r,q⟩
end
def Qx (sp:Sp)(dvs:l_)(E:XK)(t:TA):TE:=fun σ H Q=>t σ H fun vs H1=>sp (vs++dvs) H1 Q E
def Binds (K:v9)(fd:u5)(ps:v4)(ds:w6):Prop :=
 ∀(s:u_) (us:w6),K.In s.heap->(us++ds).length=ps.length->BindsTo s fd ⟨us,[]⟩ (ps.zip (us++ds))
theorem Binds.all {K:v9}   (h:∀a:w6,a.length=ps.length->bindArgs c ⟨a,[]⟩=pure (ps.zip a)):Binds K c ps []:=fun s a _ b=>by
 rw[bQ]at b ⊢;exact .of_eq (h _ b)
def Pz (CX:CXT)(X:Cx)(E:XK):Prop:=∀(pins:y_) (σ:St) (H:Hp) (s:u_) (e:Value) (s':u_),Inv X pins σ H s->CX X.stack H s E e s'->X.xe e s'
section
variable {X:Cx}{CX:CXT}{k:Nat}{f C:Addr}{fd:u5}{ps:v4}{sp:Sp}{dvs:l_}{ds:w6}{E:XK}{x m:Str}{p pos apos:Pos}{e o:Expr}{es:v_}{ta:TE}{t:TA}
theorem B0t        (F:FnOk X.prog X.w X.K X.mg X.base CX k f fd ps sp) (hr:Room k X.A) (hb:Binds X.K fd ps ds) (hd:Vals dvs ds) (hx:Pz CX X E)
 (I:Inv X pins b H s) (r:Vals vs us) (h:sp (vs++dvs) H Q E):wpAny (model X.prog X.w) X.A (call (.ref f) us) (EP X pins b Q) X.xe s:=by
 have a  := r.append hd
 have g:(us++ds).length=ps.length:=by rw[<- a.length];exact F.len _ _ _ _ h
 refine wpAny_call (codeAny_mono (F.run _ _ s H _ _ _ Q E hr I.env0 (hb s _ I.kIn g) a h) fun r i c=>?_)
 cases r with
 | error e=>exact hx _ _ H s e _ I c
 | ok d =>
  cases d with
  | ret u=>exact I.after c
  | next=>assumption
  | brk=>assumption
  | cont=>trivial
theorem Bb0 (F:FnOk X.prog X.w X.K X.mg X.base CX k f fd ps sp)(hr:Room k X.A)(hg:Gl X x)(hm:X.mg x=some (.ref f))(hk:PySem.W.keepIn X.K (.ref f)=true)(hb:Binds X.K fd ps ds)(hd:Vals dvs ds)(hx:Pz CX X E)
 (ha:PA X (e::es) t) (hdb:(x==("__debug__" : Str))=false:=by decide) (he:starEach (e::es) X.env=(false,eval e X.env)::starEach es X.env:=by rfl) (hpl:(backTo pos (starEach es X.env)).any (·.1)=false:=by rfl) :
 PE X (.Call (.Name x p) (e::es) [] pos) (Qx sp dvs E t):=by
 intro b s c H Q I h
 refine wpAny_Call_Name_kw (Hh I hg hm ?_ hdb)
 refine fc  I.ok.mod.kin hk (thn (ha _ _ s _ H _ I h) fun d g ⟨i,j,a,r,q⟩=>⟨a.kIn,?_⟩) he hpl
 exact B0t F hr hb hd hx a r q
end
def PK (X:Cx)(kws:List Keyword)(t:TA):Prop :=
 ∀(pos:Pos) (pins:y_) (s:u_) (σ:St) (H:Hp) (Q:l_->Hp->Prop),Inv X pins σ H s->t σ H Q->wpAny (model X.prog X.w) X.A (evalAll ((backToKw pos (keywordEach kws X.env)).map (·.2))) (AP X pins σ Q) X.xe s
section
variable {X:Cx}{CX:CXT}{k:Nat}{f C:Addr}{fd:u5}{ps ks:v4}{sp:Sp}{E:XK}{x m:Str}{p pos apos kpos:Pos}{e o:Expr}{es:v_}{kws:List Keyword}{te ta:TE}{t tk:TA}{nm:Option Str}
theorem Bv4:PK X [] Fl:=fun _ _ _ _ H Q I h=>wpAny_evalAll_nil ⟨[],H,I,.nil,h⟩
theorem Be0 (ha:PE X e te)(hr:PK X kws t):PK X (⟨nm,e,kpos⟩::kws) (Ca te t):=by
 intro d a s m H Q I h
 refine wpAny_evalAll_cons (wpAny_bind (thn (ha _ s _ H _ I h) fun u o ⟨x,n,f,g,i⟩=>wpAny_bind (wpAny_standAt (wpAny_pure ?_))))
 exact thn (hr _ _ _ _ _ _ f i) fun p q ⟨c,k,j,l,b⟩=>⟨x::c,k,j,.cons g l,b⟩
variable {g:w6->w6->w6}{gV:l_->l_->l_}
end
structure Bq (N P:v4) (sc:Scope):Prop where
 kind:sc.kind=.function
 co:sc.isCoroutine=false
 gen:sc.isGenerator=false
 nd:N.Nodup
 pre:N.take P.length=P
 par:∀x∈P,sc.names.lookup x=some .local\/sc.names.lookup x=some .cell
 nofree:∀y∈sc.names,y.2≠.free
theorem Wr {kindOf:Str->Option NameKind}{x:Str}:∀{binds:List (Str×Value)}{m:x_},(∀v,(x,v)∉binds)->bindL kindOf binds m x=m x
 | [],_,_=>rfl
 | (n,v)::r,m,h=>by
  unfold bindL
  rw[Wr fun w hw=>h w (bw _ hw)]
  split
  ·have:x≠n:=by rintro rfl;exact h v a_
   simp[this]
  ·rfl
theorem Wg {kindOf:Str->Option NameKind}{x:Str}:∀{binds:List (Str×Value)}{m:x_},(∀v,(x,v)∉binds)->bindC kindOf binds m x=m x
 | [],_,_=>rfl
 | (n,v)::r,m,h=>by
  unfold bindC
  rw[Wg fun w hw=>h w (bw _ hw)]
  split
  ·rfl
  ·have:x≠n:=by rintro rfl;exact h v a_
   simp[this]
theorem V8 {kindOf:Str->Option NameKind}{x:Str}{v:Value}:∀{P:v4}{vs:w6}{i:Nat}{m:x_},P.Nodup->P[i]?=some x->vs[i]?=some v->kindOf x=some .local ->
 bindL kindOf (P.zip vs) m x=some v
 | [],_,_,_,_,h,_,_=>by simp at h
 | _::_,[],_,_,_,_,h,_=>by simp at h
 | p::P,w::vs,0,m,nd,h1,h2,hk=>by
  simp at h1 h2;subst h1;subst h2
  show bindL kindOf ((p,w)::P.zip vs) m p=_
  unfold bindL
  rw[Wr fun v hv=>(bJ.mp nd).1 (dO hv).1,if_pos hk]
  simp
 | p::P,w::vs,i+1,m,nd,h1,h2,hk=>by
  show bindL kindOf ((p,w)::P.zip vs) m x=_
  unfold bindL
  exact V8 (i:=i) (bJ.mp nd).2 (by simpa using h1) (by simpa using h2) hk
theorem Ww {kindOf:Str->Option NameKind}{x:Str}{v:Value}:∀{P:v4}{vs:w6}{i:Nat}{m:x_},P.Nodup->P[i]?=some x->vs[i]?=some v->kindOf x≠some .local ->
 bindC kindOf (P.zip vs) m x=some v
 | [],_,_,_,_,h,_,_=>by simp at h
 | _::_,[],_,_,_,_,h,_=>by simp at h
 | p::P,w::vs,0,m,nd,h1,h2,hk=>by
  simp at h1 h2;subst h1;subst h2
  show bindC kindOf ((p,w)::P.zip vs) m p=_
  unfold bindC
  rw[Wg fun v hv=>(bJ.mp nd).1 (dO hv).1,if_neg hk]
  simp
 | p::P,w::vs,i+1,m,nd,h1,h2,hk=>by
  show bindC kindOf ((p,w)::P.zip vs) m x=_
  unfold bindC
  exact Ww (i:=i) (bJ.mp nd).2 (by simpa using h1) (by simpa using h2) hk
def start (N:v4)(vs:l_):St:=vs.map some++List.replicate (N.length-vs.length) none
def K3 (CX:CXT)(P:u6)(w:World)(K:v9)(mg:x_)(base:Heap)(N:v4)(qual:Str)(scope:Scope)(f:Addr)(cd:Value)(A:q_)(outer:List Env)(s:u_)(H:Hp)(E:XK):Cx where
 prog:=P
 w:=w
 K:=K
 mg:=mg
 base:=base
 A:=A.deeper (envOfC qual scope s.heap.objs.size f cd)
 N:=N
 s₀:=s
 H₀:=H
 env:=envOfC qual scope s.heap.objs.size f cd
 outer:=outer
 stack:=envOfC qual scope s.heap.objs.size f cd::outer
 ex:=[]
 calm:=true
 fn:=fun _=>true
 pn:=[]
 xe:=fun e s'=>wpAny (model P w) (A.deeper (envOfC qual scope s.heap.objs.size f cd)) (leaving (envOfC qual scope s.heap.objs.size f cd) e) (fun _ s''=>CX outer H s E e s'') (fun e' s''=>CX outer H s E e' s'') s'
theorem Aa7 {a:Scope}   (h:a.names.lookup x=some .cell):∃c,(cellsFrom n a.names []).lookup x=some c:=by
 exact Option.isSome_iff_exists.mp (fu _ n [] (.inl h))
theorem V3    {K:v9}              
 (S:Bq N ps scope) (hd:A.handled=none) (d:Env0 P w K mg base A a s H) (hl:vs.length=ps.length) (r:Vals vs us)
 (x:InCallC s s.heap.objs.size (bindL (envOfC qual scope s.heap.objs.size f t).kindOf (ps.zip us) fun _=>none) (cellsFrom (s.heap.objs.size+1) scope.names []) (bindC (envOfC qual scope s.heap.objs.size f t).kindOf (ps.zip us) fun _=>none) s1) :
 Inv (K3 CX P w K mg base N qual scope f t A a s H E) [] (start N vs) H s1:=by
 have D:ps.length<=N.length:=by have:=bO List.length S.pre;rw[cz]at this;(first|lia|omega)
 obtain⟨o,tk,rfl,B⟩:=x.done
 have g:∀b:Addr,b∉(K3 CX P w K mg base N qual scope f t A a s H E).ex:=fun b z=>absurd (show b∈([]:v6) from z) (by simp)
 refine⟨⟨d.mod,S.kind,rfl,rfl,ak _,fun y z c o n=>?_,fun y j=>?_,fun y c _ h=>?_,fun _=>hd,Around.frames_deeper d.frames,.inr ⟨rfl,rfl⟩,fun b z=>absurd z (g b),d.bs,d.bsz,fun b _ _=>g b,fun b z=>absurd z (g b),d.funs,d.frf,d.tab⟩,
  rfl,d.bare,Un.kept B,⟨_,x.toInCall.ns,fun i y v o n h3=>?_⟩,fun y c h=>⟨_,x.cell y c h⟩,d.hok.fresh (ak _),fun y c h=>?_,fun p m=>absurd (show p∈([]:y_) from m) (by simp),d.hok.kept B,?_⟩
 ·exact name_of_addr x.apart (dg o) (dg n)
 ·have j:scope.names.lookup y=some .cell\/scope.names.lookup y=some .free:=j
  rcases j with j | j
  ·exact Aa7 j
  ·exact absurd rfl (S.nofree _ (dg j))
 ·exact bM (x.above y c (dg h))
 ·have hi:i<vs.length:=by
   unfold start at n
   grind
  have F:vs[i]?=some v:=by
   unfold start at n
   grind
  obtain⟨u,C,G⟩:=r.get F
  have m:ps[i]?=some y:=by
   rw[<- S.pre,List.getElem?_take_of_lt (by (first|lia|omega))];exact o
  have l:ps.Nodup:=by rw[<- S.pre];exact S.nd.sublist (List.take_sublist _ _)
  refine⟨u,G,?_⟩
  rcases S.par y (bA m) with k | k
  ·exact .inl ⟨k,V8 l m C k⟩
  ·obtain⟨c,e⟩:=Aa7  k
   refine .inr ⟨.inl k,c,e,?_⟩
   have q:=x.cell y c e
   rw[Ww l m C (by show scope.names.lookup y≠_;rw[k];decide)]at q
   exact q
 ·exact d.hok.fresh (bM (x.above y c (dg h)))
 ·unfold start
  show _=N.length
  simp_all
theorem Ar2    {K:v9}          
 (lk:K.lookup f=some ⟨oc,od,.func (PySem.W.fnOf name qual d body scope U O z R M a W),F⟩) (hcd:PySem.W.codeIn K a qual=true) (S:Bq N ps scope)
 (p:∀vs H Q E,sp vs H Q E->vs.length=ps.length)
 (i:∀(A:q_) (c:List Env) (s:u_) (H:Hp) (vs:l_) (Q:VK) (E:XK),Room k (A.deeper (envOfC qual scope s.heap.objs.size f a))->sp vs H Q E ->
  ∃t,PSs (K3 CX P w K mg base N qual scope f a A c s H E) body t/\t { nx:=fun _ H'=>Q .non H',rt:=Q } (start N vs) H) :
 FnOk P w K mg base CX (k+1) f (PySem.W.fnOf name qual d body scope U O z R M a W) ps sp:=by
 refine⟨p,fun A c s H T X vs Q E C l hb r m=>?_⟩
 have hl:=p _ _ _ _ m
 have G  := l.mod.kin.keeps fun b o e=>(l.bs b o e).1
 have h:∀y∈ps.zip X,scope.names.lookup y.1=some .local\/(scope.names.lookup y.1=some _/\((cellsFrom (s.heap.objs.size+1) _ []).lookup y.1).isSome=true):=fun⟨n,v⟩ Y=>by
  rcases S.par n (dO Y).1 with q | q
  ·grind
  ·exact .inr ⟨q,fu _ _ _ (.inl q)⟩
 refine codeAny_call_function C.depth (G _ _ lk) rfl S.co S.gen rfl (PySem.W.codeRec_of G hcd) (hb _ _ _ _ ?_)
 refine wpAny_newFunctionEnv_cells S.kind h fun Z he s1 x=>?_
 subst he
 refine⟨(l.mod.nolimit.keeps fun b o e=>(l.bs b o e).1).keeps x.toInCall.keep,codeAny_func ?_⟩
 obtain⟨t,ht,hq⟩:=i A _ s H _ Q E (C.deeper _) m;have I:Inv (K3 CX P w K _ _ N qual _ f a A _ s H E) _ _ H _:=V3 S C.hd l hl r x
 refine wpAny_mono (ht _ _ _ H _ I hq) (fun fl L j=>?_) fun e L j=>j
 have B:∀{g:St} {H':Hp} {v:V} {u:Value},Inv (K3 CX P w K mg base N qual scope f a A c s H E) [] g _ L->RelV v u->Q v _->CE _ P w H s Q u _ :=
  fun {g H' v u} J D q=>⟨v,H',J.os,J.bare,J.base,J.hok,D,q⟩
 cases fl with
 | ret u =>
  obtain⟨v,g,H',J,D,q⟩:=j;exact B J D q
 | next =>
  obtain⟨g,H',J,q⟩:=j;exact B (v:=V.non)  J rfl q
 | brk =>
  obtain⟨_,_,_,q⟩:=j
  trivial
 | cont =>
  obtain⟨_,_,_,q⟩:=j
  trivial
section
variable {X:Cx}{x:Str}{p pos:Pos}{e:Expr}{es:v_}{t:TA}{id T:String}{r:l_->Hp->VK->Prop}
def tCB (r:l_->Hp->VK->Prop)(t:TA):TE:=fun σ H Q=>t σ H fun vs H1=>r vs H1 Q
theorem A4l (hc:CallR X (.builtin id) r)(hg:Gl X x)(hm:X.mg x=none)(hv:bootBuiltins x=some (.builtin id))(ha:PA X (e::es) t)(hn:x ≠ "__name__" := by decide) (hdb:(x==("__debug__" : Str))=false:=by decide)
 (he:starEach (e::es) X.env=(false,eval e X.env)::starEach es X.env:=by rfl) (hpl:(backTo pos (starEach es X.env)).any (·.1)=false:=by rfl):PE X (.Call (.Name x p) (e::es) [] pos) (tCB r t):=by
 intro a s f H Q I h
 refine wpAny_Call_Name_kw (Hr I hg hm hv ?_ hn hdb)
 exact fY (thn (ha _ _ s _ H _ I h) fun j k ⟨g,i,d,c,b⟩=>hc _ _ _ _ _ _ Q d c b) he hpl
theorem A1h (hc:CallR X (.type T) r)(hg:Gl X x)(hm:X.mg x=none)(hv:bootBuiltins x=some (.type T))(ha:PA X (e::es) t)(hn:x ≠ "__name__" := by decide) (hdb:(x==("__debug__" : Str))=false:=by decide)
 (he:starEach (e::es) X.env=(false,eval e X.env)::starEach es X.env:=by rfl) (hpl:(backTo pos (starEach es X.env)).any (·.1)=false:=by rfl):PE X (.Call (.Name x p) (e::es) [] pos) (tCB r t):=by
 intro a s f H Q I h
 refine wpAny_Call_Name_kw (Hr I hg hm hv ?_ hn hdb)
 exact cH (thn (ha _ _ s _ H _ I h) fun j k ⟨g,i,d,c,b⟩=>hc _ _ _ _ _ _ Q d c b) he hpl
end
end L2
namespace HT
open PySem PyProof.Rows
section
variable {prog:u6}{w:World}{A:q_}{E:z_}{s:u_}
theorem Bb4    (ht:IsTup s.heap t vs.toArray) (hb:IsTup s.heap b c.toArray) (hv:vs≠[])
 (h1:c=[]->Q (.ref t) s) (h2:c≠[]->Q (.ref s.heap.objs.size) { s with heap:=s.heap.push { cls:=.type "tuple",data:=.seq (vs++c).toArray } })
 (hsz:vs.length+c.length<=sizeLine):wpAny (model prog w) A (binaryOp .Add (.ref t) (.ref b)) Q E s:=by
 obtain⟨⟨g,q,d,p⟩,e,o,n,l⟩:=id ht;obtain⟨⟨j,k,i,m⟩,a,h,r,f⟩:=id hb;subst o l h f
 by_cases hw:c=[]
 ·exact concat_meets ⟨_,e,rfl⟩ ⟨_,a,rfl⟩ noFill_tuple_add seq_tuple_add fB fC (fG _ _)
   (tuple_addW1 t b _ _ n _ _ _ _ _ (by simp_all) (by grind)) ⟨e,a,h1 hw⟩
 ·refine concat_meets ⟨_,e,rfl⟩ ⟨_,a,rfl⟩ noFill_tuple_add seq_tuple_add fB fC (fG _ _)
   (tuple_addW2 t b _ _ n _ _ _ _ _ (by grind) (by simp_all) (by simp_all)) ⟨e,a,?_⟩
  grind
def sIx (n d:Nat):p_->Nat
 | none=>d
 | some v=>if v<0 then (v+(n:Int)).toNat else min v.toNat n
theorem A5v (n d:Nat):sIx n d none=d:=rfl
theorem Yg (n d k:Nat):sIx n d (some (k:Int))=min k n:=by
 show (if k<0 then ((k:Int)+n).toNat else min _ n)=min k n
 grind
theorem Bs2 (n d:Nat)(hd:d<=n)(o:p_):sIx n d o<=n:=by
 cases o with
 | none=>exact hd
 | some v =>
  show (if v<0 then (v+n).toNat else min _ n)<=n
  grind
theorem At0 (v:Int)(n d:Nat):(if v<0 then max (v+(n:Int)) 0 else min v (n:Int))=((sIx n d (some v):Nat):Int):=by
 show (if v<0 then max _ 0 else min v _)=(((if v<0 then (v+n).toNat else min _ n):Nat):Int)
 grind
theorem Ah8 (lo hi:p_)(n:Nat):Builtin.Slice.sliceAdjust lo hi 1 (n:Int)=(((sIx n 0 lo:Nat):Int),((sIx n n hi:Nat):Int)):=by
 refine Prod.ext ?_ ?_
 ·cases lo with
  | none=>rfl
  | some v=>exact At0 v n 0
 ·cases hi with
  | none=>rfl
  | some v=>exact At0 v n n
theorem Aj2 (i j:Nat):Builtin.Slice.slicePlaces (i:Int) (j:Int) 1=j-i:=by
 unfold Builtin.Slice.slicePlaces
 have h1:(1:Int)>0:=by (first|lia|omega)
 simp only[h1,cA,Int.ediv_one]
 split <;> (first|lia|omega)
theorem S5    (p:IsPart v o) (h:Q o s):wpAny (model prog w) A (Builtin.Slice.slicePartIndex v) Q E s:=by
 cases p with
 | none=>exact slicePart_none h
 | int i t=>exact slicePart_int h
theorem Jl   {lo hi:p_}{n:Nat}  (hs:s.heap.IsSliceOf e d c .none) (pl:IsPart d lo) (g:IsPart c hi)
 (h:Q (((sIx n 0 lo:Nat):Int),1,sIx n n hi-sIx n 0 lo) s):wpAny (model prog w) A (Builtin.Slice.sliceApplied (.ref e) (pure (n:Int))) Q E s:=by
 obtain⟨i,a,f,b⟩:=id hs
 refine wpAny_bind (wpAny_bind (wpAny_field a b (x:=d) rfl (wpAny_bind (wpAny_field a b (x:=c) rfl (wpAny_bind (wpAny_field a b  rfl (wpAny_pure ?_)))))))
 refine wpAny_bind (slicePart_none ?_)
 refine wpAny_bind (S5 pl (wpAny_bind (S5 g (wpAny_bind (wpAny_pure ?_)))))
 show wpAny _ _ (match Builtin.Slice.sliceAdjust _ _ 1 _ with | (lo,hi)=>pure (lo,(1:Int),Builtin.Slice.slicePlaces lo hi 1)) _ _ s
 rw[Ah8 _ _ n]
 show wpAny _ _ (pure _) _ _ s
 rw[Aj2];exact wpAny_pure h
theorem A4c (xs:v7)(i k:Nat):((List.range k).filterMap fun (m:Nat)=>xs[((i:Int)+(m:Int)*1).toNat]?).toArray=((xs.toList.drop i).take k).toArray:=by
 have e:(fun (m:Nat)=>xs[((i:Int)+m*1).toNat]?)=fun m=>xs[i+m]?:=by
  funext m
  have:((i:Int)+m*1).toNat=i+m:=by (first|lia|omega)
  rw[this]
 rw[e];have:=pick_run xs i k;rw[List.filterMap_map]at this
 have a:((fun x=>xs[x]?) ∘ fun x=>i+x)=fun m=>xs[i+m]?:=rfl
 rw[a]at this;rw[this]
theorem O1    {lo hi:p_}  (ht:IsTup s.heap t items) (hs:s.heap.IsSliceOf sl vl vu .none) (pl:IsPart vl lo) (pu:IsPart vu hi)
 (hw:¬ (sIx items.size 0 lo=0/\sIx items.size items.size hi=items.size))
 (h:Q (.ref s.heap.objs.size) { s with heap:=s.heap.push { cls:=.type "tuple",data:=.seq ((items.toList.drop (sIx items.size 0 lo)).take (sIx items.size items.size hi-sIx items.size 0 lo)).toArray } })
 (hsz:items.size<=sizeLine):wpAny (model prog w) A (getItem (.ref t) (.ref sl)) Q E s:=by
 have htake:sizeOk (.seq ((items.toList.drop (sIx items.size 0 lo)).take (sIx items.size items.size hi-sIx items.size 0 lo)).toArray):=by
  show ((items.toList.drop (sIx items.size 0 lo)).take (sIx items.size items.size hi-sIx items.size 0 lo)).toArray.size<=sizeLine
  rw[aZ,cz,dR,dh];(first|lia|omega)
 have hj:sIx items.size items.size hi<=items.size:=Bs2 _ _ (ak _) hi;obtain⟨os,hos,hcs,hds⟩:=id hs;have hTs:s.TypeIs (.ref sl) "slice" := ⟨os,hos,hcs⟩;unfold getItem
 try with_reducible refine wpAny_holding ?_
 first | refine wpAny_bind (wpAny_pure ?_) | skip
 refine wpAny_bind (wpAny_sequenceKey ht.typeIs (by decide) ?_)
 refine wpAny_bind (wpAny_callSpecial?_slot (name:="__getitem__") ht.typeIs cU
  (wpAny_call_entry cU ht.typeIs entry_tuple_getitem ?_ (args_tuple_getitem _ _)))
 show wpAny _ _ (Builtin.Tuple.tupleItemsOf (.ref t) >>= _) _ _ s
 refine wpAny_bind (tupleItemsOf_ ht ?_)
 refine wpAny_bind (wpAny_typeOf hTs ?_)
 rw[if_pos (by decide)]
 refine wpAny_bind (Jl hs pl pu ?_)
 have hno:¬ ((((sIx items.size 0 lo:Nat):Int)==0&&(1:Int)==1&&(sIx items.size items.size hi-sIx items.size 0 lo)==items.size)=true):=by
  intro q;rw[aO,aO]at q;have q1:((sIx items.size 0 lo:Nat):Int)=0:=cJ q.1.1;have q2:sIx items.size items.size hi-sIx items.size 0 lo=items.size:=cJ q.2
  exact hw ⟨by (first|lia|omega),by (first|lia|omega)⟩
 show wpAny _ _ (if (((sIx items.size 0 lo:Nat):Int)==0&&(1:Int)==1&&(sIx items.size items.size hi-sIx items.size 0 lo)==items.size)=true then _ else _) _ _ s
 rw[if_neg hno,A4c]
 first
  | exact wpAny_bind (m:=Builtin.Tuple.tupleExact _) (wpAny_newObj_type (wpAny_pure ⟨_,rfl,wpAny_pure h⟩) htake)
  | exact wpAny_bind (m:=Builtin.Tuple.tupleExact _) (wpAny_newObj_type (wpAny_bind (wpAny_pure (wpAny_pure ⟨_,rfl,wpAny_pure h⟩))) htake)
  | exact wpAny_bind (wpAny_bind (m:=Builtin.Tuple.tupleExact _) (wpAny_newObj_type (wpAny_pure (wpAny_pure ⟨_,rfl,wpAny_pure h⟩)) htake))
  | exact wpAny_bind (wpAny_bind (m:=Builtin.Tuple.tupleExact _) (wpAny_newObj_type (wpAny_pure ⟨_,rfl,wpAny_pure h⟩) htake))
end
end HT
namespace L2
open PySem PySem.Spec PyProof.Rows
abbrev TO:=St->Hp->(p_->Hp->Prop)->Prop
def PO (X:Cx)(e:Option Expr)(t:TO):Prop :=
 ∀
  (pins:y_) (s:u_) (σ:St) (H:Hp) (Q:p_->Hp->Prop),Inv X pins σ H s->t σ H Q ->
  wpAny (model X.prog X.w) X.A (evalPart e X.env) (fun u s'=>∃o H',Inv X pins σ H' s'/\IsPart u o/\Q o H') X.xe s
def X6:TO:=fun _ H Q=>Q none H
def A3u (t:TE):TO:=fun σ H Q=>t σ H fun x H1=>∃i,x=.int i/\Q (some i) H1
section
variable {X:Cx}{e:Expr}{te:TE}{lo hi:Option Expr}{tl th:TO}{pos p2:Pos}
theorem Bf4:PO X none X6:=by
 intro a s b H Q I h;exact wpAny_pure ⟨none,H,I,.none,h⟩
theorem Be6 (h:PE X e te):PO X (some e) (A3u te):=by
 intro a s σ H Q I d
 refine thn (h _ s _ H _ I d) fun u s1 ⟨x,f,b,c,g⟩=>?_
 obtain⟨i,rfl,q⟩:=g;obtain⟨t,rfl⟩:=c;exact⟨some i,f,b,.int i t,q⟩
def SlR (X:Cx)(r:V->p_->p_->Hp->VK->Prop):Prop :=
 ∀
  (pins:y_) (s:u_) (σ:St) (H:Hp) (x:V) (v vl vu:Value) (lo hi:p_) (sl:Addr) (Q:VK),Inv X pins σ H s->RelV x v->s.heap.IsSliceOf sl vl vu .none->IsPart vl lo->IsPart vu hi->r x lo hi H Q ->
  ∃T id,typeLookup (.type T) "__getitem__" = pure (some (.builtin id))/\s.TypeIs v T/\wpAny (model X.prog X.w) X.A (getItem v (.ref sl)) (EP X pins σ Q) X.xe s
theorem SlR.or  (h:SlR X r) (h':SlR X b):SlR X (fun x lo hi H Q=>r x lo hi H Q\/b x lo hi H Q):=by
 intro d s g H x v i j lo hi k Q I e c f a q
 rcases q with q | q
 ·exact h _ s _ H x v _ _ _ _ _ Q I e c f a q
 ·exact h' _ s _ H x v _ _ _ _ _ Q I e c f a q
def tSl (r:V->p_->p_->Hp->VK->Prop)(te:TE)(tl th:TO):TE:=fun σ H Q=>te σ H fun x H1=>tl σ H1 fun l H2=>th σ H2 fun u H3=>r x l u H3 Q
theorem A9k  (hr:SlR X r) (he:PE X e te) (hl:PO X lo tl) (hu:PO X hi th):PE X (.Subscript e (.Slice lo hi none p2) pos) (tSl r te tl th):=by
 intro c s E H Q I h
 refine Subscript_ (thn (he _ s _ H _ I h) fun v B ⟨x,D,i,j,k⟩=>?_)
 refine wpAny_Slice (thn (hl _ _ _ _ _ i k) fun m C ⟨l,K,n,o,f⟩=>thn (hu _ _ _ _ _ n f) fun g a ⟨u,J,t,w,p⟩=>?_)
 refine wpAny_pure ?_
 have z:Inv X _ _ _ { a with heap:=a.heap.push { cls:=.type "slice",data:=.fields #[m,g,.none] } }:=t.kept  fun b F q=>Heap.get?_push_of_some _ q
 obtain⟨T,G,y,A,d⟩:=hr _ _ _ _ x v _ _ l u _ Q z j (Heap.IsSliceOf.new ..) o w p
 exact tail_any  A y d (by trivial)
def A2f (xs:l_)(lo hi:p_):l_:=(xs.drop (HT.sIx xs.length 0 lo)).take (HT.sIx xs.length xs.length hi-HT.sIx xs.length 0 lo)
theorem Ra (xs:l_)(lo hi:p_):(A2f xs lo hi).length<=xs.length:=by
 unfold A2f;rw[cz,dR];(first|lia|omega)
def B3c (K:v9):V->p_->p_->Hp->VK->Prop:=fun x lo hi H Q=>∃a xs,x=.ref a/\SqT K H a xs /\
 ¬ (HT.sIx xs.length 0 lo=0/\HT.sIx xs.length xs.length hi=xs.length)/\∀p,H p=none->Q (.ref p) (upd H p (.tup (A2f xs lo hi)))
theorem Bx5:SlR X (B3c X.K):=by
 intro e s σ H x v vl vu lo hi sl Q I j k g l h;obtain⟨a,i,rfl,m,hw,q⟩:=h
 cases j
 obtain⟨d,r,f,n⟩:=I.tuple m
 have c:d.toArray.size=i.length:=by exact r.length.symm
 refine⟨"tuple",_,cU.lookup,f.typeIs,?_⟩
 refine HT.O1 f k g l (by grind) ?_ (by simp_all)
 rw[c]
 refine⟨.ref _,_,I.laid   (fun b ob q=>Heap.get?_push_of_some _ q) (ak _) ?_,rfl,q _ (I.hok.fresh (ak _))⟩
 exact⟨aj (Ra _ _ _) n,_,(r.drop _).take _,zJ.new _ _⟩
def B3g (K:v9):R2:=fun x y H Q=>∃a b xs ys,x=.ref a/\y=.ref b/\SqT K H a xs/\SqT K H b ys/\xs≠[]/\xs.length+ys.length<=sizeLine /\
 (ys=[]->Q (.ref a) H)/\(ys≠[]->∀p,H p=none->Q (.ref p) (upd H p (.tup (xs++ys))))
theorem Vals.nil_iff   (r:Vals xs us):us=[]↔xs=[]:=by
 cases r with
 | nil=>simp
 | cons _ _=>simp
theorem Bj9:OpR X (binaryOp .Add) (B3g X.K):=by
 intro e s σ H x y v u Q I o p h;obtain⟨a,b,xs,ys,rfl,rfl,k,l,g,hz,m,j⟩:=h
 cases o
 cases p
 obtain⟨i,d,n,_⟩:=I.tuple k;obtain⟨f,c,r,_⟩:=I.tuple l
 refine HT.Bb4 n r (fun z=>g (d.nil_iff.mp z)) (fun z=>⟨.ref a,H,I,rfl,m (c.nil_iff.mp z)⟩) (fun z=>?_) (by rw[<- d.length,<- c.length];grind)
 refine⟨.ref _,_,I.laid   (fun b ob q=>Heap.get?_push_of_some _ q) (ak _) ?_,rfl,j (fun w=>z (c.nil_iff.mpr w)) _ (I.hok.fresh (ak _))⟩
 exact⟨by simp_all,_,d.append c,zJ.new _ _⟩
end
def ixN (n:Nat)(i:Int):Option Nat:=if 0<=i then (if i<n then some i.toNat else none) else if -(n:Int)<=i then some (i+n).toNat else none
def atI {α:Type}(xs:List α)(i:Int):Option α:=(ixN xs.length i).bind fun j=>xs[j]?
theorem Xp    (h:ixN n i=some j):seqIndex? i n=some j/\j<n/\-(n:Int)<=i/\i<n:=by
 unfold ixN at h
 by_cases h0:0<=i
 ·rw[if_pos h0]at h
  by_cases h1:i<n
  ·rw[if_pos h1]at h
   have e  := bN h
   exact⟨by rw[seqIndex_of h0 h1,e],by (first|lia|omega),by (first|lia|omega),h1⟩
  simp_all
 ·rw[if_neg h0]at h
  by_cases h1:-n<=i
  ·rw[if_pos h1]at h
   have e  := bN h
   exact⟨by rw[seqIndex_neg (by (first|lia|omega)) h1,e],by (first|lia|omega),h1,by (first|lia|omega)⟩
  simp_all
theorem Ze  {xs:List a}  {v:a}(h:atI xs i=some v):∃j,seqIndex? i xs.length=some j/\xs[j]?=some v/\j<xs.length/\-(xs.length:Int)<=i/\i<xs.length:=by
 unfold atI at h
 cases e:ixN xs.length i with
 | none=>simp_all
 | some j =>
  obtain⟨c,d,f,b⟩:=Xp e
  grind
theorem Iu  {xs:List a}{j:Nat}{v:a}(h:xs[j]?=some v):atI xs (j:Int)=some v:=by
 have b  := (bG.mp h).1
 have e:ixN xs.length j=some j:=by
  unfold ixN
  simp_all
 unfold atI;grind
def Jy (b:Expr):Prop:=∀o i,subscripted b false o i=operate [o,i] (getItem o i)
def IxR (X:Cx)(r:R2):Prop :=
 ∀
  (value slice:Expr) (pins:y_) (s:u_) (σ:St) (H:Hp) (x y:V) (v u:Value) (Q:VK),Inv X pins σ H s->RelV x v->RelV y u->r x y H Q ->
  subscripted slice false v u=operate [v,u] (getItem v u)->wpAny (model X.prog X.w) X.A (subscriptTail value slice v u) (EP X pins σ Q) X.xe s
def MtR (X:Cx)(id:String)(r:V->l_->Hp->VK->Prop):Prop :=
 ∀
  (pins:y_) (s:u_) (σ:St) (H:Hp) (x:V) (xs:l_) (v:Value) (us:w6) (Q:VK),Inv X pins σ H s->RelV x v->Vals xs us->r x xs H Q ->
  wpAny (model X.prog X.w) X.A (call (.builtin id) (v::us)) (EP X pins σ Q) X.xe s
section
variable {X:Cx}{a b:Expr}{ta tb:TE}{pos:Pos}
theorem IxR.or  (h:IxR X r) (h':IxR X d):IxR X (fun x y H Q=>r x y H Q\/d x y H Q):=by
 intro b a e s i H x y v u Q I f g q c
 rcases q with q | q
 ·exact h _ _ _ s _ H x y v u Q I f g q c
 ·exact h' _ _ _ s _ H x y v u Q I f g q c
theorem B1t  (hr:IxR X r) (ha:PE X a ta) (hb:PE X b tb) (hs:Jy b):PE X (.Subscript a b pos) (tOp r ta tb):=by
 intro c s g H Q I h
 exact Subscript_ (By5 ha hb I h fun v u i x y j f e d q=>hr a b _ _ _ _ x y v u Q f e d q (hs _ _))
def By6 (K:v9):R2:=fun x y H Q=>∃p xs i v,x=.ref p/\y=.int i/\SqL K H p xs/\atI xs i=some v/\Q v H
def B0b (K:v9):R2:=fun x y H Q=>∃p xs i v,x=.ref p/\y=.int i/\SqT K H p xs/\atI xs i=some v/\Q v H
def B2l:R2:=fun x y H Q=>∃z i c,x=.str z/\y=.int i/\z.length<=sizeLine/\atI z.cps.toList i=some c/\Q (.str ⟨#[c]⟩) H
theorem ix_list:IxR X (By6 X.K):=by
 intro g f a s m H x y v u Q I C F h l;obtain⟨p,xs,i,z,rfl,rfl,E,n,q⟩:=h
 cases C
 obtain⟨t,rfl⟩:=F;obtain⟨e,r,c,hz⟩:=I.list E;obtain⟨j,k,D,h3,o,B⟩:=Ze n;obtain⟨w,ew,d⟩:=r.get D;have hl:=r.length;have hn:=Vh;have b:EP X a m Q w s:=⟨z,H,I,d,q⟩
 by_cases h0:0<=i
 ·have A:i.toNat=j:=by
   rw[seqIndex_of h0 B]at k
   simp_all
  exact item_listR c.isList h0 (by (first|lia|omega)) (by grind) b l
 ·have A:(i+e.toArray.size).toNat=j:=by
   rw[seqIndex_neg (by (first|lia|omega)) o]at k
   simp_all
  exact subscriptTail_builtinR  c.isList.typeIs slot_list_getitem.lookup
   (wpAny_getItem_list_neg  c.isList (by (first|lia|omega)) (by simp_all) (by (first|lia|omega)) (by grind) ⟨rfl,b⟩) l
theorem ix_tup:IxR X (B0b X.K):=by
 intro b c e s σ H x y v u Q I A g h o;obtain⟨p,xs,i,z,rfl,rfl,m,n,q⟩:=h
 cases A
 obtain⟨t,rfl⟩:=g;obtain⟨k,r,f,hz⟩:=I.tuple m;obtain⟨j,h1,l,h3,h4,h5⟩:=Ze n;obtain⟨w,ew,d⟩:=r.get l;have hl:=r.length;have hn:=Vh;have a:EP X _ _ Q w s:=⟨z,H,I,d,q⟩
 exact subscriptTail_builtinR  f.typeIs slot_tuple_getitem.lookup
  (getItem_tuple (j:=j)  f (by (first|lia|omega)) (by (first|lia|omega)) (by simp_all) (by grind) ⟨rfl,a⟩) o
theorem Bt9:IxR X B2l:=by
 intro a b d s σ H x y v u Q I f m h g;obtain⟨z,i,c,rfl,rfl,hz,l,q⟩:=h;obtain⟨t,rfl⟩:=f;obtain⟨t',rfl⟩:=m;obtain⟨j,e,k,h3,o,n⟩:=Ze l
 have p:z.cps.toList.length=z.length:=by simp[Str.length]
 rw[p]at e o n;have hn:=Vh
 exact tail_any (typeIs_str s z t) slot_str_getitem.lookup (getItem_str  (by
  grind) (by rw[e];simpa using k) ⟨.str _,H,I.tok _,⟨_,rfl⟩,q⟩) g
def rIx (K:v9):R2:=fun x y H Q=>By6 K x y H Q\/B0b K x y H Q\/B2l x y H Q
theorem Bq6:IxR X (rIx X.K):=ix_list.or (ix_tup.or Bt9)
theorem Al3 (a:w6)(n j:Nat)(u:Value):Obj.mapSeq (·.setIfInBounds j u) { cls:=.type "list",data:=.seq a.toArray n }={ cls:=.type "list",data:=.seq (a.set j u).toArray n }:=by
 simp[Obj.mapSeq]
theorem Inv.lst  {b:St}     (I:Inv X pins b H s) (h:H p=some (.lst xs)) :
 ∃(a:w6) (n:Nat),Vals xs a/\s.heap.get? p=some { cls:=.type "list",data:=.seq a.toArray n }/\xs.length<=sizeLine:=by
 obtain⟨z,a,n,r,e⟩:=I.hok p _ h
 grind
theorem Inv.lstUpd       {a its':w6}   (I:Inv X pins c H s) (h:H p=some (.lst xs))
 (ho:s.heap.get? p=some { cls:=.type "list",data:=.seq a.toArray n }) (hf:f { cls:=.type "list",data:=.seq a.toArray n }={ cls:=.type "list",data:=.seq its'.toArray n' }) (r:Vals ys its') (hz:ys.length<=sizeLine) (t:Nat) :
 Inv X pins c (upd H p (.lst ys)) { s with heap:=s.heap.update p f,toks:=t }:=by
 have e:(s.heap.update p f).get? p=some { cls:=.type "list",data:=.seq its'.toArray n' }:=by
  rw[Heap.get?_update_self f ho (by rw[hf] <;> rfl),hf]
 refine I.write   (by rw[h];trivial) (.inl rfl) (fun b u d q=>(Heap.get?_update_other _ _ (aB d)).trans q) ⟨_,e⟩ ?_
 exact⟨hz,its',n',r,e⟩
def Bm2:V->V->V->Hp->(Hp->Prop)->Prop:=fun o i v H Q=>∃p xs k j,o=.ref p/\i=.int k/\H p=some (.lst xs)/\ixN xs.length k=some j/\Q (upd H p (.lst (xs.set j v)))
theorem set_list:By9 X Bm2:=by
 intro a s w H o i v ov iv u Q I y m g h;obtain⟨p,l,k,j,rfl,rfl,d,x,q⟩:=h
 cases y
 obtain⟨t,rfl⟩:=m;obtain⟨b,n,r,c,hz⟩:=I.lst d;obtain⟨e,h2,z,A⟩:=Xp x;have hl:=r.length;have hn:=Vh
 have I':Inv X a w (upd H p (.lst (l.set j v))) { s with heap:=s.heap.update p (Obj.mapSeq (·.setIfInBounds j u)) } :=
  I.lstUpd d c (Al3 _ n j u) (r.set g j) (by grind) _
 by_cases h0:0<=k
 ·have f:k.toNat=j:=by
   rw[seqIndex_of h0 A]at e
   grind
  exact PySem.W.ki_setAt c h0 (by (first|lia|omega)) (by grind) (by grind)
 ·have f:(k+b.toArray.size).toNat=j:=by
   rw[seqIndex_neg (by (first|lia|omega)) z]at e
   simp_all
  exact PySem.W.ki_setBack c (by (first|lia|omega)) (by simp_all) (by (first|lia|omega)) (by grind)
theorem Xh (lo hi:p_)(n:Nat):(sliceBounds lo hi none n).1=((HT.sIx n 0 lo:Nat):Int)/\(sliceBounds lo hi none n).2.1=((HT.sIx n n hi:Nat):Int)/\(sliceBounds lo hi none n).2.2=1:=by
 refine⟨?_,?_,rfl⟩
 ·cases lo with
  | none=>simp[sliceBounds,HT.sIx]
  | some i =>
   simp only[sliceBounds,HT.sIx,Option.getD_none,show (1:Int)>0 by decide,cA]
   by_cases h:i<0
   ·simp only[h,cA] <;> (first|lia|omega)
   ·simp only[h,if_false] <;> (first|lia|omega)
 ·cases hi with
  | none=>simp[sliceBounds,HT.sIx]
  | some i =>
   simp only[sliceBounds,HT.sIx,Option.getD_none,show (1:Int)>0 by decide,cA]
   by_cases h:i<0
   ·simp only[h,cA] <;> (first|lia|omega)
   ·simp only[h,if_false] <;> (first|lia|omega)
theorem Vq (a:w6)(lo hi:p_):slicePick a.toArray lo hi none=((a.drop (HT.sIx a.length 0 lo)).take (HT.sIx a.length a.length hi-HT.sIx a.length 0 lo)).toArray:=by
 obtain⟨c,d,b⟩:=Xh _ _ _;unfold slicePick;rw[c,d,b]
 simp only[sliceRange_one,pick_run] <;> rfl
def B2j (K:v9):V->p_->p_->Hp->VK->Prop:=fun x lo hi H Q=>∃a xs,x=.ref a/\SqL K H a xs/\∀p,H p=none->Q (.ref p) (upd H p (.lst (A2f xs lo hi)))
theorem Bh7:SlR X (B2j X.K):=by
 intro e s σ H x v vl vu lo hi sl Q I i j f k h;obtain⟨a,xs,rfl,g,q⟩:=h
 cases i
 obtain⟨l,r,d,m⟩:=I.list g;have c:=r.length
 refine⟨"list",_,slot_list_getitem.lookup,d.isList.typeIs,?_⟩
 refine wpAny_getItem_list_slice d.isList j f k .none (by simp) ?_ (by simp_all)
 rw[Vq,<- c]
 refine⟨.ref _,_,I.laid   (fun b ob q=>Heap.get?_push_of_some _ q) (ak _) ?_,rfl,q _ (I.hok.fresh (ak _))⟩
 exact⟨aj (Ra _ _ _) m,_,0,(r.drop _).take _,Heap.get?_push_size _ rfl⟩
theorem CallR.or  {r b:l_->Hp->VK->Prop}(h:CallR X f r) (h':CallR X f b):CallR X f (fun xs H Q=>r xs H Q\/b xs H Q):=by
 intro c s d H xs e Q I a q
 rcases q with q | q
 ·exact h _ s _ H _ _ Q I a q
 ·exact h' _ s _ H _ _ Q I a q
theorem Xl:CallR X (.type "list") (fun xs H Q=>∃p k,xs=[.ref p]/\(SqL X.K H p k\/SqT X.K H p k)/\∀l,H l=none->Q (.ref l) (upd H l (.lst k))):=by
 intro z s σ H xs us Q I r h;obtain⟨p,k,rfl,f,q⟩:=h;obtain⟨u,rfl,A⟩:=vals1 r
 cases A
 have g:∀(a:List _),Vals _ _->k.length<=sizeLine->∀(d:Heap) (t:Nat),(∀b o',s.heap.get? b=some _->d.get? b=some _) ->
  d.get? _=some _->EP X _ _ Q _ { s with heap:=d }:=fun a c j d t i e =>
  ⟨.ref _,_,I.laid  i (ak _) (show z8 _ _ _ _ _ (.lst _) from ⟨j,a,t,c,e⟩),rfl,q _ (I.hok.fresh (ak _))⟩
 rcases f with f | f
 ·obtain⟨a,c,y,j⟩:=I.list f
  have m:=c.length;obtain⟨o,w,x,n,v⟩:=y.isList
  exact call_list_seq p (.inl rfl) w x v (fun d t i e=>g _ c j _ _ i e) (by simp_all)
 ·obtain⟨a,c,y,j⟩:=I.tuple f
  have m:=c.length;obtain⟨o,w,x,n,v⟩:=y
  exact call_list_seq p (.inr rfl) w x v (fun d t i e=>g _ c j _ _ i e) (by simp_all)
theorem Vo:CallR X (.type "tuple") (fun xs H Q=>∃p c,xs=[.ref p]/\((SqL X.K H p c/\∀l,H l=none->Q (.ref l) (upd H l (.tup c)))\/(SqT X.K H p c/\Q (.ref p) H))):=by
 intro i s σ H xs us Q I r h;obtain⟨p,c,rfl,h⟩:=h;obtain⟨u,rfl,w⟩:=vals1 r
 cases w
 rcases h with ⟨d,q⟩ | ⟨d,q⟩
 ·obtain⟨a,g,f,m⟩:=I.list d
  have k:=g.length
  refine call_tuple_list f.isList (fun j v=>?_) (by simp_all)
  have n:Inv X _ _ H { s with heap:=j }:=I.kept  v
  have t:Inv X _ _ (upd H _ (.tup _)) { s with heap:=j.push _ } :=
   n.laid  (fun b o e=>Heap.get?_push_of_some _ e) (ak _) (show z8 _ _ _ _ _ _ from ⟨m,a,g,zJ.new _ _⟩)
  exact⟨.ref _,_,t,rfl,q _ (n.hok.fresh (ak _))⟩
 ·obtain⟨a,g,f,m⟩:=I.tuple d
  exact call_tuple_same f ⟨.ref p,H,I,rfl,q⟩
def tyV (K:v9)(T:String)(x:V)(H:Hp):Prop:=match x with
 | .str _=>T = "str"
 | .int _=>T = "int"
 | .ref p=>(T = "list" /\ ∃xs,SqL K H p xs)\/(T = "tuple" /\ ∃o,K.lookup p=some o/\o.cls=.type "tuple" /\ o.dict=none) \/
  (T = "dict" /\ ((∃kvs,H p=some (.dK kvs))\/∃kvs,H p=some (.dT kvs)))\/(T = "set" /\ ∃S n,H p=some (.set S n))\/(T = "tuple" /\ ∃xs,H p=some (.tup xs))
 | _=>False
theorem Ah7        (I:Inv X pins l H s) (r:RelV x v) (ty:tyV X.K T x H) :
 s.TypeIs v T/\∀a,v=.ref a->∃ob,s.heap.get? a=some ob/\ob.dict=none:=by
 cases x with
 | str z =>
  obtain⟨t,rfl⟩:=r
  cases (ty)
  exact⟨typeIs_str s z t,fun _ e=>nomatch e⟩
 | int i =>
  obtain⟨t,rfl⟩:=r
  cases (ty)
  exact⟨typeIs_int s i t,fun _ e=>nomatch e⟩
 | ref p =>
  cases r
  rcases ty with ⟨rfl,m,u⟩ | ⟨rfl,o,b,q,k⟩ | ⟨rfl,b⟩ | ⟨rfl,S,n,b⟩ | ⟨rfl,m,b⟩
  ·obtain⟨h,_,j,_⟩:=I.list u
   refine⟨j.isList.typeIs,fun a e=>?_⟩
   obtain⟨o,n,e,c,k,_⟩:=j
   grind
  ·refine⟨⟨o,I.kIn p o b,q⟩,fun a e=>?_⟩
   cases e
   exact⟨o,I.kIn _ o b,k⟩
  ·have z:∃o,s.heap.get? p=some o/\o.ExactDict:=by
    rcases b with ⟨g,b⟩ | ⟨g,b⟩
    ·obtain⟨_,_,_,_,o,_,_,e,d,_⟩:=I.hok p _ b
     grind
    ·obtain⟨_,_,_,_,o,_,_,e,d,_⟩:=I.hok p _ b
     grind
   obtain⟨o,e,d⟩:=z
   refine⟨⟨o,e,d.1⟩,fun a f=>?_⟩
   cases f
   exact⟨o,e,d.2.1⟩
  ·obtain⟨o,_,_,_,e,d,_⟩:=I.hok p _ b
   refine⟨⟨o,e,d.1⟩,fun a f=>?_⟩
   cases f
   exact⟨o,e,d.2.1⟩
  ·obtain⟨_,h,_,o,e,c,_,dn⟩:=I.hok p _ b
   refine⟨⟨o,e,c⟩,fun a f=>?_⟩
   grind
 | _=>exact False.elim ty
def tBM (K:v9)(T:String)(r:V->l_->Hp->VK->Prop)(to:TE)(t:TA):TE:=fun σ H Q=>to σ H fun x H1=>tyV K T x H1/\t σ H1 fun xs H2=>r x xs H2 Q
variable {o e:Expr}{es:v_}{to:TE}{t:TA}{name:Str}{apos cpos:Pos}{T id:String}{r:V->l_->Hp->VK->Prop}
theorem Bl3 (pa:PlainAttrs T)(slot:Slot T name id)(hty:typeOf (.builtin id)=pure (.type "method_descriptor")) (hm:MtR X id r) (ho:PE X o to) (ha:PA X (e::es) t)
 (hbase:attributeBase o name X.env (eval o X.env)=eval o X.env:=by rfl)
 (hfew:((backTo cpos (starEach (e::es) X.env)).all (fun x=>!x.1)&&(backToKw cpos (keywordEach [] X.env)).all (fun x=>x.1.isSome)
  && decide ((e::es).length+([]:List Keyword).length+(if ([]:List Keyword).isEmpty then 0 else 1)<30))=true:=by rfl)
 (hline:(apos.endLine==cpos.line)=true:=by rfl) (hs:starEach (e::es) X.env=(false,eval e X.env)::starEach es X.env:=by rfl) (hplain:(backTo cpos (starEach es X.env)).any (·.1)=false:=by rfl) :
 PE X (.Call (.Attribute o name apos) (e::es) [] cpos) (tBM X.K T r to t):=by
 intro b s p H Q I h
 refine wpAny_Call_method_late hbase hfew hline rfl (thn (ho _ s _ H _ I h) fun v z ⟨x,y,c,a,j,k⟩=>?_)
 obtain⟨g,m⟩:=Ah7 c a j
 refine⟨T,id,pa,slot,hty,g,m,?_⟩
 have d:=ha cpos _ _ _ _ _ c k;rw[hs]at d ⊢
 refine Calls.callWith_builtin (by grind) (Calls.evalArgs_plain ?_)
 exact thn d fun i q ⟨u,w,l,n,f⟩=>hm _ _ _ _ x _ v i Q l a n f
end
def MtM (X:Cx)(id:String)(r:V->l_->Hp->VK->Prop):Prop :=
 ∀
  (pins:y_) (s:u_) (σ:St) (H:Hp) (x:V) (xs:l_) (v:Value) (us:w6) (Q:VK),Inv X pins σ H s->RelV x v->Vals xs us->r x xs H Q ->
  wpAny (model X.prog X.w) X.A (call (.builtin id) (v::us)) (EP X pins σ Q) X.xe s
theorem Vals.one:∀{x:V}{us:w6},Vals [x] us->∃u,us=[u]/\RelV x u
 | _,_,h=>by
  cases h with
  | cons r t=>cases t;exact⟨_,rfl,r⟩
theorem Vals.two:∀{x y:V}{us:w6},Vals [x,y] us->∃u v,us=[u,v]/\RelV x u/\RelV y v
 | _,_,_,h=>by
  cases h with
  | cons r t =>
   cases t with
   | cons q t=>cases t;exact⟨_,_,rfl,r,q⟩
theorem Vals.eraseIdx:∀{xs:l_}{us:w6}(i:Nat),Vals xs us->Vals (xs.eraseIdx i) (us.eraseIdx i)
 | _,_,_,.nil=>.nil
 | _,_,0,.cons _ t=>t
 | _,_,i+1,.cons r t=>.cons r (Vals.eraseIdx i t)
theorem A1s {α:Type}:∀(l:List α) (i:Nat),(l.eraseIdx i).length<=l.length
 | [],_=>ak _
 | _::_,0=>cL _
 | _::r,i+1=>dU (A1s r i)
section
variable {X:Cx}{pins:y_}{σ:St}{H:Hp}{s:u_}{l b:Addr}{xs ys zs:l_}
theorem Inv.lset {a its':w6}    (I:Inv X pins σ H s) (c:H l=some (.lst xs))
 (e:s.heap.get? l=some { cls:=.type "list",data:=.seq a.toArray n }) (hf:f a.toArray=its'.toArray) (hv:Vals ys its') (hz:ys.length<=sizeLine) :
 Inv X pins σ (upd H l (.lst ys)) { s with heap:=s.heap.update l (Obj.mapSeq f),toks:=t' }:=by
 have q:=PySem.IsL.update e f;rw[hf]at q
 refine I.write   (by rw[c];trivial) (.inl rfl) (fun g u d b=>(Heap.get?_update_other _ _ (aB d)).trans b) ⟨_,q⟩ ?_
 exact⟨hz,its',_,hv,q⟩
theorem Inv.lnew   (I:Inv X pins σ H s) (hv:Vals ys a) (hz:ys.length<=sizeLine) :
 Inv X pins σ (upd H s.heap.objs.size (.lst ys)) { s with heap:=s.heap.push { cls:=.type "list",data:=.seq a.toArray },toks:=t' } :=
 I.laid (fun _ _ q=>Heap.get?_push_of_some _ q) (ak _) ⟨hz,a,0,hv,Heap.get?_push_size _ rfl⟩
theorem Inv.fresh (I:Inv X pins σ H s):H s.heap.objs.size=none:=I.hok.fresh (ak _)
theorem Inv.lstM (I:Inv X pins σ H s)(b:H l=some (.lst xs)):xs.length<=sizeLine/\∃(a:w6) (n:Nat),Vals xs a/\xs.length=a.length/\s.heap.get? l=some { cls:=.type "list",data:=.seq a.toArray n }:=by
 obtain⟨z,a,n,r,e⟩:=I.hok l _ b;exact⟨z,a,n,r,r.length,e⟩
end
section
variable {X:Cx}
def rAppend:V->l_->Hp->VK->Prop:=fun x vs H Q=>∃l xs y,x=.ref l/\vs=[y]/\H l=some (.lst xs)/\xs.length<sizeLine/\Q .non (upd H l (.lst (xs++[y])))
theorem A0m:MtM X "list.append" rAppend:=by
 intro a s σ H x vs v us Q I c f h;obtain⟨l,xs,y,rfl,rfl,b,hz,q⟩:=h
 cases c
 obtain⟨u,rfl,d⟩:=f.one;obtain⟨z,g,n,r,hl,e⟩:=I.lstM b
 refine call_meets F.slot_list_append ⟨_,e,rfl⟩ F.entry_list_append (F.args_list_append_2 _ _) (PySem.list_append l _ n u (by simp_all)) ⟨e,?_⟩
 refine⟨.non,_,I.lset  b e (by simp) (r.append (.cons d .nil)) ?_,rfl,q⟩
 grind
def rPopAt:V->l_->Hp->VK->Prop:=fun x vs H Q=>∃l xs i k y,x=.ref l/\vs=[.int i]/\H l=some (.lst xs)/\-(2 ^ 63)<=i/\i<2 ^ 63/\seqIndex? i xs.length=some k/\xs[k]?=some y/\Q y (upd H l (.lst (xs.eraseIdx k)))
theorem A9e:MtM X "list.pop" rPopAt:=by
 intro b s σ H x vs v us Q I f g h;obtain⟨l,xs,i,k,y,rfl,rfl,c,d,j,hk,o,q⟩:=h
 cases f
 obtain⟨u,rfl,m⟩:=g.one;obtain⟨t,rfl⟩:=m;obtain⟨z,p,n,r,hl,e⟩:=I.lstM c;obtain⟨w,hw,a⟩:=r.get o
 refine call_meets F.slot_list_pop ⟨_,e,rfl⟩ F.entry_list_pop (F.args_list_pop_2 _ _)
  (MeetsSeq.list_pop_at l _ n i t k w (fitsIndex_both d j) (by simp_all) (by simp_all) (by simp_all)) ⟨e,?_⟩
 refine⟨y,_,I.lset  c e ?_ (r.eraseIdx k) ?_,a,q⟩
 ·simp_all
 grind
def B2g:R2:=fun x y H Q=>∃l b xs zs,x=.ref l/\y=.ref b/\H l=some (.lst xs)/\H b=some (.lst zs)/\xs.length+zs.length<=sizeLine/\∀p,H p=none->Q (.ref p) (upd H p (.lst (xs++zs)))
theorem Bx0:OpR X (binaryOp .Add) B2g:=by
 intro d s σ H x y v u Q I k g h;obtain⟨l,b,xs,zs,rfl,rfl,i,j,hz,q⟩:=h
 cases k
 cases g
 obtain⟨z,c,n,r,hl,e⟩:=I.lstM i;obtain⟨z2,a,n2,o,m,p⟩:=I.lstM j
 refine PySem.P.add_list e p ?_ (by grind)
 have f:c.toArray++a.toArray=(c++a).toArray:=by simp
 rw[f]
 exact⟨.ref _,_,I.lnew  (r.append o) (by simp_all),rfl,q _ I.fresh⟩
end
section
variable {κ:Type}[DecidableEq κ]
def Vx (kvs:List (κ×V))(k:κ):Option V:=(kvs.find? fun kv=>decide (kv.1=k)).map (·.2)
def putK (kvs:List (κ×V))(k:κ)(v:V):List (κ×V) :=
 if (kvs.any fun kv=>decide (kv.1=k))=true then kvs.map (fun kv=>if kv.1=k then (kv.1,v) else kv) else kvs++[(k,v)]
theorem Uj {p:κ×V}   (e:p.1=k):Vx (p::r) k=some p.2:=by simp[Vx,e]
theorem Ue {p:κ×V}   (e:¬ p.1=k):Vx (p::r) k=Vx r k:=by simp[Vx,e]
theorem KV.val   (r:KV a vs) (k:κ):RelO (Vx a k) (valueAt vs k):=by
 induction r with
 | nil=>trivial
 | @cons p q j c h t i =>
  obtain⟨d,g⟩:=h
  by_cases e:p.1=k
  ·have b:valueAt (q::c) k=some q.2:=by simp[valueAt,(d.symm.trans e)]
   rw[Uj e,b];exact g
  ·have f:¬ q.1=k:=fun z=>e (d.trans z)
   have b:valueAt (q::c) k=valueAt c k:=by simp[valueAt,f]
   rw[Ue e];grind
theorem KV.any   (r:KV a vs) (k:κ):(a.any fun b=>decide (b.1=k))=vs.any fun b=>decide (b.1=k):=by
 induction r with
 | nil=>rfl
 | cons h t c=>simp_all
end
theorem B1a     (r:RelV (kV k) u):(Es P w).is k u=true:=by
 cases k with
 | inl i=>obtain⟨t,e⟩:=(r);subst e;exact Lg P w i t
 | inr x=>obtain⟨t,e⟩:=(r);subst e;exact La P w x t
theorem B1g {A:q_}(hu:A.units+9<cLine):A.in1.units+8<cLine:=bc (dm (rfl)) hu
abbrev KT (H:Hp):List (PyData×V)->List (PyData×Addr×Value)->Prop:=Paired fun p q=>p.1=q.1/\KAt H p.1 q.2.1/\RelV p.2 q.2.2
theorem KT.val    (r:KT H a xs) (k:t_):RelO (Vx a k) ((atKey xs k).map (·.2)):=by
 induction r with
 | nil=>trivial
 | @cons p q j c h t i =>
  obtain⟨d,_,g⟩:=h
  by_cases e:p.1=k
  ·have b:atKey (q::c) k=some q.2:=by simp[atKey,(d.symm.trans e)]
   rw[Uj e,b];exact g
  ·have f:¬ q.1=k:=fun z=>e (d.trans z)
   have b:atKey (q::c) k=atKey c k:=by simp[atKey,f]
   rw[Ue e];grind
theorem KT.keeps    (r:KT H a xs) (ht:∀b ys,H b=some (.tup ys)->H' b=some (.tup ys)):KT H' a xs :=
 Paired.mapP r fun _ _ z=>⟨z.1,z.2.1.stay ht,z.2.2⟩
section
variable {P:u6}{w:World}{H:Hp}{h:Heap}{a:Addr}
theorem Eh  (b:HOk P w H h) (e:Rd H a u):z8 P w H h a u:=e.ok b
theorem Bm9  (c:HOk P w H h) (e:Rd H a (.dK b)):b.length<=sizeLine/\(a==sysModules)=false/\∃vs,KV b vs/\h.DictOf (Es P w) a vs :=
 show z8 P w H h a _ from Eh c e
mutual
theorem Wa (ok:HOk P w H h):∀{d:t_}{v:V}{u:Value},KTr H d v->RelV v u->∃as,Reads h u d as
 | .none,_,u=>fun e r=>by
  cases (show _=V.non from e)
  cases (show u=Value.none from r)
  exact⟨_,.none⟩
 | .int i,_,u=>fun e r=>by
  cases (show _=V.int i from e)
  obtain⟨t,rfl⟩:=r;exact⟨_,.int i t⟩
 | .str x,_,u=>fun e r=>by
  cases (show _=V.str x from e)
  obtain⟨t,rfl⟩:=r;exact⟨_,.str x t⟩
 | .tuple ds,_,u=>fun e r=>by
  obtain⟨a,vs,rfl,ha,t⟩:=e
  cases (show u=Value.ref a from r)
  obtain⟨z,its,rv,o,e,c,⟨n,dt⟩,_⟩:=ok a _ ha;obtain⟨as,q⟩:=Ug ok t rv
  exact⟨_,.tuple e c dt (by simpa using q)⟩
 | .bool _,_,_=>fun e _=>False.elim e
 | .list _,_,_=>fun e _=>False.elim e
 | .dict _,_,_=>fun e _=>False.elim e
theorem Ug (ok:HOk P w H h):∀{ds:w5}{vs:l_}{us:w6},KTrL H ds vs->Vals vs us->∃as,ReadsAll h us ds as
 | [],_,us=>fun e r=>by
  cases (show _=[] from e)
  cases r
  exact⟨_,.nil⟩
 | d::ds,_,us=>fun e r=>by
  obtain⟨v,vs,rfl,hv,t⟩:=e
  cases r with
  | cons r1 r2 =>
   obtain⟨as,q⟩:=Wa ok hv r1;obtain⟨bs,p⟩:=Ug ok t r2;exact⟨_,.cons q p⟩
end
theorem An4  (b:HOk P w H h) (e:KAt H k a):(Ex P w).is h k a:=⟨e.1,Wa b e.2 (show RelV _ _ from rfl)⟩
theorem Bl9  (f:HOk P w H h) (e:Rd H a (.dT b)):b.length<=sizeLine/\(a==sysModules)=false /\
 ∃c,KT H b c/\h.DictOfH (Ex P w) a c:=by
 obtain⟨z,y,c,r,o,v,i,j,k,g,s,u⟩:=(show z8 P w H h a _ from Eh f e)
 refine⟨z,y,c,r,o,v,i,j,k,g,s,fun x d=>?_,u⟩
 have n:∀{l:List _} {m:List _},KT H l m->∀x∈m,(Ex P w).is h x.1 x.2.1:=by
  intro l m q
  induction q with
  | nil=>simp_all
  | @cons p q B C D t A =>
   intro x d
   rcases au.mp d with e | d
   ·exact An4 f (by grind)
   grind
 grind
end
def B0l (H:Hp)(a:Addr)(y:V)(r:Option V):Prop :=
 (∃kvs k,Rd H a (.dK kvs)/\y=kV k/\r=Vx kvs k)\/∃kvs k b,Rd H a (.dT kvs)/\y=.ref b/\KAt H k b/\r=Vx kvs k
section
variable {X:Cx}{pins:y_}{σ:St}{H:Hp}{s:u_}{a:Addr}{y v:V}{u r:Value}{o:Option V}{A:q_}{E:z_}
theorem Inv.big (I:Inv X pins σ H s):sysModules<s.heap.objs.size:=by
 exact dW (by decide) ((I.mod.glob.keeps I.bk).lt)
theorem A2m {Q:z_}(hu:A.units+9<cLine)(I:Inv X pins σ H s)(g:B0l H a y (some v))(q:RelV y u)(h:∀f s',Inv X pins σ H s'->RelV v f->Q f s') :
 wpAny (model X.prog X.w) A (getItem (.ref a) u) Q E s:=by
 rcases g with ⟨m,k,e,n,l⟩ | ⟨m,k,b,e,n,r,l⟩
 ·subst n
  obtain⟨z,w,x,d,j⟩:=Bm9 I.hok e
  obtain⟨f,o,c⟩:=RelO.some_of   (by rw[l];exact d.val k)
  exact wpAny_getItem_of (B1a q) j.mapOf o (h _ _ (I.tok _) c)
 ·subst n
  cases (q)
  obtain⟨z,w,B,d,j⟩:=Bl9 I.hok e
  obtain⟨f,o,c⟩:=RelO.some_of   (by rw[l];exact d.val k)
  obtain⟨p,t,i⟩:=aH.mp o
  refine wpAny_getItem_heap ((B1g hu)) (An4 I.hok r) j t ?_
  rw[i];exact h _ _ (I.tok _) c
end
def B0j (i:Expr):Prop:=∀ov iv,subscripted i false ov iv=operate [ov,iv] (getItem ov iv)
theorem Bj6 {prog:u6}{w:World}{A:q_}{E:z_}{s:u_}{env:Env}{b a:Expr}{k:Pos}{T id:String}{Q:z_}
 (hl:typeLookup (.type T) "__getitem__" = pure (some (.builtin id))) (hs:B0j a)
 (h:wpAny (model prog w) A (eval b env) (fun o e=>wpAny (model prog w) A (eval a env) (fun i c=>c.TypeIs o T/\wpAny (model prog w) A (getItem o i) Q E c) E e) E s) :
 wpAny (model prog w) A (eval (.Subscript b a k) env) Q E s:=by
 refine Subscript_ (wpAny_mono h (fun o e j=>wpAny_mono j (fun i c d=>?_) fun _ _ x=>x) fun _ _ x=>x)
 obtain⟨m,d⟩:=d
 refine wpAny_bind ?_
 refine wpAny_bind (wpAny_specialOf m hl ?_)
 have l:wpAny (model prog w) A (subscripted a false o i) (fun r f=>wpAny (model prog w) A (letTemporaryGo b o r >>= fun _=>pure r) Q E f) E c:=by
  rw[hs o i]
  exact wpAny_operating (wpAny_mono d (fun r f g=>wpAny_bind (wpAny_letTemporaryGo (wpAny_pure g))) fun _ _ x=>x)
 first
  | exact wpAny_pure (wpAny_bind l)
  | simp_all
  | trivial
theorem Ab9 {X:Cx}{pins:y_}{f:St}{H:Hp}{s:u_}{a:Addr}{y:V}{o:Option V}(I:Inv X pins f H s)(g:B0l H a y o):s.TypeIs (.ref a) "dict" := by
 rcases g with ⟨d,k,e,_,_⟩ | ⟨d,k,b,e,_,_,_⟩
 ·obtain⟨_,_,i,_,c⟩:=Bm9 I.hok e
  exact c.typeIs
 ·obtain⟨_,_,h,_,c⟩:=Bl9 I.hok e
  exact c.typeIs
def A6e (td ty:TE):TE:=fun σ H Q=>td σ H fun x H1=>ty σ H1 fun y H2=>∃a v,x=.ref a/\B0l H2 a y (some v)/\Q v H2
section
variable {X:Cx}{o i e value:Expr}{pos pos' tpos:Pos}{td ty tv:TE}
theorem Ba5 (hu:X.A.units+9<cLine)(ho:PE X o td)(hi:PE X i ty)(hs:B0j i):PE X (.Subscript o i pos) (A6e td ty):=by
 intro c s σ H Q I h
 refine Bj6 PySem.F.slot_dict_getitem.lookup hs (thn (ho _ s _ H _ I h) fun u s1 ⟨x,H1,f,j,k⟩=>thn (hi _ _ _ _ _ f k) fun iv s2 ⟨y,l,d,e,a,v,n,g,m⟩=>?_)
 subst n;obtain rfl:u=Value.ref a:=j
 exact⟨Ab9 d g,A2m hu d g e fun w' s3 p b=>⟨v,l,p,b,m⟩⟩
end
end L2
namespace Att
open PySem PySem.W PySem.Calls PyProof.Rows
theorem Rp   : ∀(ns:List Int) (vs:w6),WellAll P h vs (ns.map WData.int)->IntsAre vs ns:=by
 intro ns
 induction ns with
 | nil =>
  intro vs w
  cases w
  exact .nil
 | cons n ns c =>
  intro vs w
  cases w with
  | cons a b =>
   cases a
   exact .cons _ _ (c _ b)
theorem A0d {l:OpenLaw}  (hn:l.most=some n)    
 (hpre:l.row.toRowW.claim.pre args=true) (hwl:WellAll P h vals args) :
 ∃a vs ns,vals=[Value.ref a]/\args=[WData.list (ns.map WData.int)]/\h.get? a=some { cls:=.type "list",data:=.seq vs.toArray }/\IntsAre vs ns/\ns.length<=n:=by
 have hsh:WShape.hasAll [] args [.list .int]=true:=(pre_splitW hpre).1;have hc:l.pre.holds [] { args:=args }=true:=(pre_splitW hpre).2;obtain⟨d,r,rfl,h1,h2⟩:=hasAllW_cons hsh;obtain rfl:=hasAllW_nil h2;obtain⟨xs,rfl,h3⟩:=hasW_list h1;obtain⟨ns,rfl⟩:=items_int h3
 have hlen:ns.length<=n:=by
  unfold OpenLaw.pre at hc
  have h4:(WTm.not (.lt (.lit (.int (n:Int))) (.len (.arg 0)))).holds [] { args:=[.list (ns.map .int)] }=true:=by
   have h4:=(holds_andW hc).1;rw[hn]at h4;exact h4
  have h5:=condW_of h4 (w_not (w_lt w_lit (w_len_list (w_arg rfl))));rw[ao]at h5
  refine fH fun q=>?_
  have q':(n:Int)<((ns.length:Nat):Int):=by (first|lia|omega)
  first
   | (rw[az q']at h5;exact absurd h5 (by decide))
   | (simp at h5;(first|lia|omega))
 cases hwl with
 | cons w1 w2 =>
  cases w2
  cases w1 with
  | list ho hall=>exact⟨_,_,ns,rfl,rfl,ho,Rp ns _ hall,hlen⟩
theorem Ay8 (l:OpenLaw)(args:List WData):l.row.toRowW.claim.post args (.bool true) args=true :=
 postW_of  
  (show WShape.has _ _ _=true by rfl)
  (show (WTm.eq _ _).value _ _=some _ from w_eq_bool (w_res rfl) w_lit) rfl
theorem Ab3 {l:OpenLaw}      
 (hn:l.most=some n) (t:d.params.defaults=[])
 (i:∀(w:World) (c b:u_) (mg B:x_) (fa:Addr) (o:Obj) (z v h:Value) (a:Addr) (vs:w6) (ns:List Int),
  Ground q loose [] XP w c mg B b.heap->YP w b.heap ->
  b.heap.get? fa=some o->o.data=.func (docDef d.name d.params d.body d.scope z v h)->b.heap.CodeRec v d.name->mg d.name=some (.ref fa) ->
  b.heap.get? a=some { cls:=.type "list",data:=.seq vs.toArray }->IntsAre vs ns->ns.length<=n->b.gens=#[] ->
  codeAny (model l.prog w) callerA (.call (.ref fa) ⟨[.ref a],[]⟩) (fun r s'=>r=.ok (.ret (.bool true))/\OldK b.heap s'.heap/\s'.os=b.os/\AllBare s'.gens) b) :
 WalkO q loose XP YP l.row.toRowW d [] (fun f vs=>PySem.call f vs):=by
 intro w c b mg B G Y fa o z v h M H J K u C m D x A as g y F p I;obtain rfl:M=.none:=Dflts.none C t;obtain rfl:H=.none:=Dflts.noKw C;obtain⟨a,vs,ns,rfl,rfl,j,e,k⟩:=A0d hn g p
 refine enter_call (codeAny_mono (i w _ _ _ _ _ o _ _ _ a _ _ G Y J (fd_plain K) u m j e k D) fun r s' N=>?_)
 obtain⟨rfl,L,O,P⟩:=N
 exact⟨.inl ⟨.bool _,.bool _,[],rfl,fun _=>rfl,.bool _,Ay8 l _,fun _=>⟨List.Pairwise.nil,fun _ E=>nomatch E⟩⟩,L,O,P⟩
end Att
namespace L2
open PySem PySem.Spec PyProof.Rows
theorem V2:∀{vs:w6}{ns:List Int},IntsAre vs ns->Vals (ns.map V.int) vs
 | _,_,.nil=>.nil
 | _,_,.cons n t h=>.cons ⟨t,rfl⟩ (V2 h)
def Ke (s:Stmt):Arguments:=match s with
 | .FunctionDef _ a _ _ _ _ _ _ _ _=>a
 | _=>{ posonlyargs:=[],args:=[],vararg:=none,kwonlyargs:=[],kw_defaults:=[],kwarg:=none,defaults:=[] }
def Gi (s:Stmt):List Stmt:=match s with
 | .FunctionDef _ _ b _ _ _ _ _ _ _=>b
 | _=>[]
def Ar (s:Stmt):Scope:=match s with
 | .FunctionDef _ _ _ _ _ _ sc _ _ _=>sc
 | _=>{ kind:=.function,names:=[],isGenerator:=false,isCoroutine:=false }
abbrev CX0:CXT:=fun _ _ _ _ _ _=>False
abbrev E0:XK:=fun _ _ _=>False
theorem B3b  : Pz CX0 X E0:=fun _ _ _ _ _ _ _ h=>h.elim
structure Fun (K:v9) (x qual:Str) (st:Stmt) (f:Addr) (fd:u5):Prop where
 ex:∃(oc:Value) (od:Option Addr) (kV doc pm:Value) (an:Option Addr) (cdv ct:Value) (osl:Array (u9)),
  fd=PySem.W.fnOf x qual (Ke st) (Gi st) (Ar st) .none kV doc pm an cdv ct/\K.lookup f=some ⟨oc,od,.func fd,osl⟩/\PySem.W.codeIn K cdv qual=true
 kp:PySem.W.keepIn K (.ref f)=true
section
variable {P:u6}{w:World}{K:v9}{mg:x_}{base:Heap}
theorem Fun.ok  {st:Stmt}      (F:Fun K x qual st f i) (S:Bq N ps (Ar st)) (g:∀vs H Q E,sp vs H Q E->vs.length=ps.length)
 (b:∀(c:Value) (A:q_) (a:List Env) (s:u_) (H:Hp) (vs:l_) (Q:VK) (E:XK),Room k (A.deeper (envOfC qual (Ar st) s.heap.objs.size f c))->sp vs H Q E ->
  ∃t,PSs (K3 CX0 P w K mg base N qual (Ar st) f c A a s H E).nox (Gi st) t/\t { nx:=fun _ H'=>Q .non H',rt:=Q } (start N vs) H):FnOk P w K mg base CX0 (k+1) f i ps sp:=by
 obtain⟨oc,od,kV,l,pm,an,c,ct,j,rfl,m,e⟩:=F.ex
 refine Ar2 m e S g fun A a s H vs Q E n d=>?_
 obtain⟨t,h,q⟩:=b _ A _ s H _ Q E n d;exact⟨t,h.nox,q⟩
theorem Fun.binds  {st:Stmt}    (F:Fun K x qual st f d)
 (h:∀(i b e:Value) (g:Option Addr) (a c:Value) (us:w6),us.length=ps.length->bindArgs (PySem.W.fnOf x qual (Ke st) (Gi st) (Ar st) .none i b e g a c) ⟨us,[]⟩=pure (ps.zip us)):Binds K d ps []:=by
 obtain⟨oc,od,i,b,e,g,a,c,k,rfl,lk,j⟩:=F.ex;exact .all (h _ _ _ _ _ _)
end
section
variable {X:Cx}
theorem pv (i:Nat)  {a:Pos}(hN:X.N[i]?=some x:=by rfl) (hv:Vis X.env.scope x:=by first | exact Or.inl rfl | exact Or.inr (Or.inl rfl) | exact Or.inr (Or.inr rfl)) (hd:(x==("__debug__" : Str))=false:=by decide)
 (hcd:(x==("__classdict__" : Str))=false:=by decide):PE X (.Name x a) (Rj i):=A5y hN hv hd hcd
end
def Same (H H':Hp):Prop:=∀b o,H b=some o->H' b=some o
theorem Same.refl (H:Hp):Same H H:=fun _ _ h=>h
theorem Same.trans  (a:Same H e) (b:Same e d):Same H d:=fun c o h=>b c o (a c o h)
theorem Same.free  (e:Same H H')  (h:H' l=Option.none):H l=Option.none:=by
 cases q:H l with
 | none=>rfl
 | some o =>
  rw[e l o q]at h
  grind
theorem Same.seq {K:v9}    (e:Same H H') (h:SqL K H a xs):SqL K H' a xs:=by
 rcases h with (h | ⟨o,h⟩) | h
 ·exact .inl (.inl (e _ _ h))
 ·exact .inl (.inr ⟨o,e _ _ h⟩)
 ·exact .inr h
end L2
set_option maxHeartbeats 4000000
namespace L2
open PySem PySem.Spec PyProof.Rows
abbrev Er (X:Cx)(N':v4)(scope:Scope)(cl:List (Str×Addr))(C:Addr)(s₀:u_)(H₀:Hp)(ex:v6):Cx :=
 { X with N:=N',env:=compEnvC scope cl C X.env,s₀:=s₀,H₀:=H₀,outer:=X.stack,stack:=X.stack,ex:=ex,fn:=fun x=>decide (scope.names.lookup x=some .local\/scope.names.lookup x=some .cell),pn:=[],xe:=fun _ _=>False }
def cst (idx:o5)(σ:St):St:=idx.map fun o=>o.bind fun i=>(σ[i]?).join
structure Hd (X:Cx) (N':v4) (idx:o5) (scope:Scope):Prop where
 kind:scope.kind=.function
 nod:(scope.names.map (·.1)).Nodup
 free:∀y∈scope.names,y.2=.free->X.env.kindOf y.1=some .cell\/X.env.kindOf y.1=some .free
 len:idx.length=N'.length
 at':∀(j i:Nat) (x:Str),N'[j]?=some x->idx[j]?=some (some i)->X.N[i]?=some x/\scope.names.lookup x=some .free
structure O2 (X:Cx) (N':v4) (idx:o5) (scope:Scope):Prop extends Hd X N' idx scope where
 cell:∀y∈scope.names,y.2≠.cell
theorem Jc (env:Env):∀(names:List (Str×NameKind)) (acc:List (Str×Addr)),(∀y∈names,y.2=.free->∃c,env.cells.lookup y.1=some c) ->
 ∃
  cl,(forIn names acc fun (p:Str×NameKind) (r:List (Str×Addr))=>(if (p.2==NameKind.free)=true then (do let c <- cellOf env p.1;pure (ForInStep.yield ((p.1,c)::r))) else pure (ForInStep.yield r):Sem (ForInStep (List (Str×Addr)))))=(pure cl:Sem (List (Str×Addr))) /\
  (∀x c,cl.lookup x=some c->acc.lookup x=some c\/(env.cells.lookup x=some c/\(x,NameKind.free)∈names))/\(∀x,((∃c,acc.lookup x=some c)\/(x,NameKind.free)∈names)->∃c,cl.lookup x=some c)
 | [],acc,_=>⟨acc,rfl,fun x c e=>.inl e,fun x h=>by
  rcases h with h | h
  ·exact h
  ·simp at h⟩
 | (n,k)::r,acc,h=>by
  by_cases hk:k=NameKind.free
  ·subst hk
   obtain⟨c,hc⟩:=h (n,.free) (by simp) rfl
   obtain⟨cl,e,a,b⟩:=Jc env r ((n,c)::acc) fun y hy=>h y (bw _ hy)
   refine⟨cl,?_,fun x c' e'=>?_,fun x hx=>?_⟩
   ·rw[dq]
    simp only[cellOf,hc];exact e
   ·rcases a x c' e' with z | ⟨z1,z2⟩
    ·rw[aN]at z
     split at z
     ·rename_i hxe
      have:x=n:=by simpa using hxe
      subst this
      cases z
      exact .inr ⟨hc,by simp⟩
     ·exact .inl z
    ·exact .inr ⟨z1,bw _ z2⟩
   ·refine b x ?_
    rcases hx with ⟨c',z⟩ | z
    ·left
     rw[aN]
     split
     ·exact⟨_,rfl⟩
     ·exact⟨_,z⟩
    ·rcases au.mp z with z | z
     ·left
      cases z
      exact⟨c,by simp⟩
     ·exact .inr z
  ·obtain⟨cl,e,a,b⟩:=Jc env r acc fun y hy=>h y (bw _ hy)
   refine⟨cl,?_,fun x c' e'=>?_,fun x hx=>?_⟩
   ·rw[dq]
    have:(k==NameKind.free)=false:=by cases k <;> first | rfl | exact absurd rfl hk
    simp only[this];exact e
   ·rcases a x c' e' with z | ⟨z1,z2⟩
    ·exact .inl z
    ·exact .inr ⟨z1,bw _ z2⟩
   ·refine b x ?_
    rcases hx with z | z
    ·exact .inl z
    ·rcases au.mp z with z | z
     ·cases z;exact absurd rfl hk
     ·exact .inr z
theorem Nx   (h:∀y∈scope.names,y.2=.free->∃c,env.cells.lookup y.1=some c) :
 ∃d,closureFor scope env=pure d/\(∀x c,d.lookup x=some c->env.cells.lookup x=some c/\(x,NameKind.free)∈scope.names)/\(∀x,(x,NameKind.free)∈scope.names->∃c,d.lookup x=some c):=by
 obtain⟨d,e,a,b⟩:=Jc _ _ [] h
 refine⟨d,?_,fun x c g=>?_,fun x f=>b x (.inr f)⟩
 ·unfold closureFor
  grind
 simp_all
abbrev Bi8 (ifs:v_)(env:Env):Sem Bool:=forIn ifs true fun c r=>if r=true then do let ok <- isTrue c env (eval c env);pure (ForInStep.yield ok) else pure (ForInStep.yield r)
def Bz3 (M:Model)(A:q_)(E:z_)(tg elt:Expr)(ifs:v_)(env:Env)(it acc v:Value)(Z:u_->Prop)(s:u_):Prop :=
 wpAny M A (letOwnedTupleGo tg it v) (fun _ a=>wpAny M A (assign tg env v) (fun _ b=>wpAny M A (Bi8 ifs env) (fun ok c=>match ok with
  | true=>wpAny M A (eval elt env) (fun x d=>wpAny M A (call (.builtin "list.append") [acc,x]) (fun _ z=>Z z) E d) E c
  | false=>Z c) E b) E a) E s
theorem Bd7            (C:E=notedBy (model P w) A env fun x z=>R (.error x) z) (Wd:Nat->u_->Prop)
 (step:∀n z,Wd n z->wpAny (model P w) A (pyNext it) (fun r a=>match r with
  | none=>R (.ok .next) a
  | some v=>Bz3 (model P w) A E o i j env it acc v (fun y=>∃m,m<n/\Wd m y) a) E z) (n:Nat)  (h:Wd n s) :
 codeAny (model P w) A (.compLoop (.ListComp i [⟨o,f,j,0⟩] p l) 0 it acc env) R s:=by
 subst C
 refine codeAny_loop (I:=Wd) rfl (turn:=?_) n h
 intro k z G
 show wpAny (model P w) A (Sem.onRaise (compTurn (.ListComp i [⟨o,f,j,0⟩] p l) 0 it acc env) fun x=>do noteFrame x env;theTreesLotGoes x) _ _ z
 apply wpAny_noted;rw[compTurn_list];apply wpAny_bind;apply wpAny_standAt;apply wpAny_bind
 refine wpAny_mono (step k z G) ?_ fun _ _ q=>q
 rintro (_ | v) a u
 ·exact wpAny_pure u
 apply wpAny_bind
 refine wpAny_mono u ?_ fun _ _ q=>q
 intro _ b D;apply wpAny_bind
 refine wpAny_mono D ?_ fun _ _ q=>q
 intro _ c F;apply wpAny_bind
 refine wpAny_mono F ?_ fun _ _ q=>q
 rintro (_ | _) d t
 ·exact wpAny_pure (And.intro rfl t)
 apply wpAny_bind;apply wpAny_bind
 refine wpAny_mono t ?_ fun _ _ q=>q
 intro y e H;apply wpAny_bind
 refine wpAny_mono H ?_ fun _ _ q=>q
 intro _ g B;exact wpAny_pure (wpAny_pure (And.intro rfl B))
def PTs (X:Cx)(ifs:v_)(t:TT):Prop :=
 ∀
  (pins:y_) (s:u_) (σ:St) (H:Hp) (Q:Bool->Hp->Prop),Inv X pins σ H s->t σ H Q ->
  wpAny (model X.prog X.w) X.A (forIn ifs true fun c r=>if r=true then do let ok <- isTrue c X.env (eval c X.env);pure (ForInStep.yield ok) else pure (ForInStep.yield r)) (TP X pins σ Q) X.xe s
def B0a:TT:=fun _ H Q=>Q true H
theorem Bj2  : PTs X [] B0a:=fun _ _ _ H _ I h=>wpAny_tests_nil ⟨H,I,h⟩
def tLC (idx:o5)(wi:TI)(g:TG)(tc:TT)(te:TE):TE:=fun σ H Q=>wi σ H fun J H1 =>
 ∃
  W:Nat->Nat->St->l_->Hp->Prop,(∃m,W 0 m (cst idx σ) [] H1)/\∀i m σ' acc H,W i m σ' acc H ->
  (J.stop i H/\∀p,H p=none->Q (.ref p) (upd H p (.lst acc))) \/
  (J.go i H/\acc.length<sizeLine/\∃N:St->l_->Hp->Prop,(∀σ' acc' H',N σ' acc' H'->∃m',m'<m/\W (i+1) m' σ' acc' H')/\∀x H',J.yld i H x H'->g x σ' H' fun σ2 H2=>tc σ2 H2 fun b H3 =>
   if b=true then te σ2 H3 fun y H4=>N σ2 (acc++[y]) H4 else N σ2 acc H3)
theorem HOk.track       (x:HOk P w H h) (hn:H a=none) (f:z8 P w (upd H a o) h a o):HOk P w (upd H a o) h:=fun b u e=>by
 by_cases hb:b=a
 ·subst hb;rw[Bg]at e;simp_all
 ·rw[Am hb]at e
  exact(x b u e).stay (fun c v _ q=>q) fun c q=>by rw[Am (Bk q hn)];grind fun c d q=>by rw[Am (Bk q hn)];grind fun c g d q=>by rw[Am (Bk q hn)];grind
theorem Hc {env:Env}:∀{names:List (Str×NameKind)}{x:Str},names.lookup x=some .free ->
 (names.map fun (n,k)=>if (k==NameKind.free&&env.scope.kind==.function&&env.kindOf n==some .cell) then (n,NameKind.cell) else (n,k)).lookup x=some .free \/
 (names.map fun (n,k)=>if (k==NameKind.free&&env.scope.kind==.function&&env.kindOf n==some .cell) then (n,NameKind.cell) else (n,k)).lookup x=some .cell
 | [],_,h=>by simp at h
 | (n,k)::r,x,h=>by
  have ih:=@Hc env r x;simp only[aQ]
  cases hx:x==n with
  | true =>
   simp only[aN,hx]at h
   cases h
   split
   ·right;simp[aN,hx]
   ·left;simp[aN,hx]
  | false =>
   simp only[aN,hx]at h
   split
   ·simp only[aN,hx];exact ih h
   ·simp only[aN,hx];exact ih h
theorem J8 {env:Env}:∀{names:List (Str×NameKind)}{x:Str}{k:NameKind},
 (names.map fun (n,k)=>if (k==NameKind.free&&env.scope.kind==.function&&env.kindOf n==some .cell) then (n,NameKind.cell) else (n,k)).lookup x=some k ->
 names.lookup x=some k\/(k=.cell/\names.lookup x=some .free)
 | [],_,_,h=>by simp at h
 | (n,k')::r,x,k,h=>by
  have ih:=@J8 env r x k;simp only[aQ]at h
  cases hx:x==n with
  | true =>
   by_cases hc:(k'==NameKind.free&&env.scope.kind==.function&&env.kindOf n==some .cell)=true
   ·rw[if_pos hc]at h
    simp only[aN,hx]at h
    cases h
    right
    refine⟨rfl,?_⟩
    simp only[aN,hx]
    have:k'=.free:=by
     simp only[aO]at hc;exact cJ hc.1.1
    rw[this]
   ·rw[if_neg hc]at h
    simp only[aN,hx]at h ⊢;exact .inl h
  | false =>
   simp only[aN,hx]
   refine ih ?_
   by_cases hc:(k'==NameKind.free&&env.scope.kind==.function&&env.kindOf n==some .cell)=true
   ·rw[if_pos hc]at h;simpa only[aN,hx] using h
   ·rw[if_neg hc]at h;simpa only[aN,hx] using h
theorem lookup_mem {α:Type}:∀{l:List (Str×α)}{x:Str}{k:α},l.lookup x=some k->(x,k)∈l
 | [],_,_,h=>by simp at h
 | (n,k')::r,x,k,h=>by
  rw[aN]at h
  split at h
  ·rename_i e
   have:x=n:=by simpa using e
   subst this
   cases h
   simp
  ·exact bw _ (lookup_mem h)
theorem mem_lookup {α:Type}:∀{l:List (Str×α)}{x:Str}{k:α},(l.map (·.1)).Nodup->(x,k)∈l->l.lookup x=some k
 | [],_,_,_,h=>by simp at h
 | (n,k')::r,x,k,hn,h=>by
  have hn:(n::r.map (·.1)).Nodup:=hn
  obtain⟨h1,h2⟩:=bJ.mp hn
  rcases au.mp h with h | hr
  ·cases h;simp
  ·rw[aN]
   split
   ·rename_i e
    have:x=n:=by simpa using e
    subst this
    exact absurd (show x∈r.map (·.1) from aJ.mpr ⟨(x,k),hr,rfl⟩) h1
   ·exact mem_lookup h2 hr
section
variable {X:Cx}{N':v4}{idx:o5}{scope:Scope}
theorem Bk3 {pins:y_}{σ:St}{H:Hp}{s:u_}{fp:v6}{cl:List (Str×Addr)}{C:Addr}(L:Hd X N' idx scope)(I:Inv X pins σ H s)(hf:∀b∈fp,Nb X pins H b)(hfs:∀b∈fp,b<s.heap.objs.size)
 (hC:s.heap.objs.size<=C) (c1:∀x c,cl.lookup x=some c->(X.env.cells.lookup x=some c/\(x,NameKind.free)∈scope.names)\/(s.heap.objs.size<=c/\(x,NameKind.cell)∈scope.names)) (c2:∀x,((x,NameKind.free)∈scope.names\/(x,NameKind.cell)∈scope.names)->∃c,cl.lookup x=some c) (c3:∀x y c,cl.lookup x=some c->cl.lookup y=some c->x=y) :
 (Er X N' scope cl C s H fp).Ok where
 mod:=I.ok.mod
 kind:=L.kind
 glob:=I.ok.glob
 blt:=I.ok.blt
 above:=hC
 inj:=c3
 has:=fun x h=>by
  refine c2 x ?_
  have h':(relabel scope X.env).names.lookup x=some .cell\/(relabel scope X.env).names.lookup x=some .free:=h
  rcases h' with h | h
  ·rcases J8 h with z | ⟨_,z⟩
   ·exact .inr (lookup_mem z)
   ·exact .inl (lookup_mem z)
  ·rcases J8 h with z | ⟨z,_⟩
   ·exact .inl (lookup_mem z)
   ·cases z
 cab:=fun x c hx hc=>by
  have hx':scope.names.lookup x=some .local\/scope.names.lookup x=some .cell:=aL hx
  rcases c1 x c hc with ⟨_,z⟩ | ⟨z,_⟩
  ·have z:=mem_lookup L.nod z
   rw[z]at hx'
   rcases hx' with hx' | hx' <;> cases hx'
  ·exact z
 hd:=I.ok.hd
 frames:=I.ok.frames
 stk:=.inl rfl
 exf
  := fun b hb=>⟨aM (aA (hfs b hb) hC),fun x c e=>by
  rcases c1 x c e with ⟨z,_⟩ | ⟨z,_⟩
  ·exact(hf b hb).2.2.2.2.1 x c z
  ·exact bH (aA (hfs b hb) z)⟩
 bs:=I.bs
 bsz:=aj I.ok.bsz I.sz
 noex:=fun b o e hb=>by
  rcases (hf b hb).2.2.2.1 with z | z
  ·exact I.ok.noex b o e z
  ·exact absurd (aA (Heap.lt_size e) (aj I.ok.bsz z)) (aY _)
 exfs:=fun b hb z=>by
  rcases au.mp (I.stkSub b z) with q | q
  ·exact(hf b hb).2.1 q
  ·exact(hf b hb).2.2.1 q
 funs:=I.stack
 frf:=I.stkFree
 tab:=fun p hp=>I.base.tbls p.1 p.2 (I.ok.tab p hp)
theorem A3x {pins:y_}{σ:St}{H:Hp}{s s':u_}{fp:v6}{cl:List (Str×Addr)}{C:Addr}{m:x_}(L:Hd X N' idx scope)(I:Inv X pins σ H s)(hf:∀b∈fp,Nb X pins H b)(hfs:∀b∈fp,b<s.heap.objs.size)
 (hC:s.heap.objs.size<=C) (c1:∀x c,cl.lookup x=some c->(X.env.cells.lookup x=some c/\(x,NameKind.free)∈scope.names)\/(s.heap.objs.size<=c/\(x,NameKind.cell)∈scope.names)) (c2:∀x,((x,NameKind.free)∈scope.names\/(x,NameKind.cell)∈scope.names)->∃c,cl.lookup x=some c) (c3:∀x y c,cl.lookup x=some c->cl.lookup y=some c->x=y) (c4:∀x c,cl.lookup x=some c->(x,NameKind.cell)∈scope.names->s'.heap.IsCell c none)
 (ho:s'.os=s.os) (hg:s'.gens=s.gens) (k:∀b o,s.heap.get? b=some o->s'.heap.get? b=some o) (hn:s'.heap.Ns C m):Inv (Er X N' scope cl C s H fp) [] (cst idx σ) H s' where
 ok:=Bk3 L I hf hfs hC c1 c2 c3
 os:=ho
 bare:=by rw[hg];exact I.bare
 base:=Un.kept k
 loc:=by
  refine⟨m,hn,fun j x v e1 e2 e3=>?_⟩
  obtain⟨m0,hn0,hl⟩:=I.loc
  have e2':(idx.map fun o=>o.bind fun i=>(σ[i]?).join)[j]?=some (some v):=e2
  rw[bT]at e2'
  cases ei:idx[j]? with
  | none=>rw[ei]at e2';cases e2'
  | some o =>
   rw[ei]at e2';simp only[du,dX]at e2'
   cases o with
   | none=>cases e2'
   | some i =>
    have e2'':(σ[i]?).join=some v:=e2';obtain⟨hNi,hfr⟩:=L.at' j i x e1 ei
    have hσ:σ[i]?=some (some v):=by
     cases q:σ[i]? with
     | none=>rw[q]at e2'';cases e2''
     | some z=>rw[q]at e2'';rw[show z=some v from e2'']
    have hk:=L.free _ (lookup_mem hfr) rfl
    have hvis:Vis X.env.scope x:=by
     rcases hk with z | z
     ·exact .inr (.inl z)
     ·exact .inr (.inr z)
    obtain⟨u,r,lk⟩:=hl i x v hNi hσ hvis
    refine⟨u,r,.inr ?_⟩
    rcases lk with ⟨z,_⟩ | ⟨_,c,hc,hcl⟩
    ·exfalso
     have z':X.env.kindOf x=some .local:=z
     rcases hk with q | q
     ·rw[show X.env.kindOf x=_ from q]at z';cases z'
     ·rw[show X.env.kindOf x=_ from q]at z';cases z'
    ·obtain⟨c',hc'⟩:=c2 x (.inl (lookup_mem hfr))
     have:c'=c:=by
      rcases c1 x c' hc' with ⟨q,_⟩ | ⟨_,q⟩
      ·rw[hc]at q;exact(bN q).symm
      ·rw[mem_lookup L.nod q]at hfr;cases hfr
     subst this
     refine⟨?_,c',hc',let ⟨o,e,d⟩:=hcl; ⟨o,k _ o e,d⟩⟩
     rcases Hc (env:=X.env) hfr with q | q
     ·exact .inr q
     ·exact .inl q
 cell:=fun x c e=>by
  rcases c1 x c e with ⟨q,_⟩ | ⟨_,q⟩
  ·obtain⟨v,z⟩:=I.cell x c q
   exact⟨v,let ⟨o,e,d⟩:=z; ⟨o,k _ o e,d⟩⟩
  ·exact⟨none,c4 x c e q⟩
 free:=I.hok.fresh hC
 freeC:=fun x c e=>by
  rcases c1 x c e with ⟨q,_⟩ | ⟨q,_⟩
  ·exact I.freeC x c q
  ·exact I.hok.fresh q
 pin:=fun p hp=>by simp at hp
 hok:=I.hok.kept k
 len:=by
  show (idx.map _).length=N'.length
  rw[ao];exact L.len
end
section
variable {X:Cx}{N':v4}{idx:o5}{scope:Scope}{elt tg iter:Expr}{ifs:v_}{pos:Pos}{wi:TI}{g:TG}{tc:TT}{te:TE}
theorem Nh:∀(names:List (Str×NameKind)) (h:Heap) (acc:List (Str×Addr)),(∀x y c,acc.lookup x=some c->acc.lookup y=some c->x=y)->(∀x c,acc.lookup x=some c->c<h.objs.size) ->
 (∀x c,(cellsFrom h.objs.size names acc).lookup x=some c->acc.lookup x=some c\/(h.objs.size<=c/\(x,NameKind.cell)∈names/\(pushCells h names).IsCell c none)) /\
 (∀x,((∃c,acc.lookup x=some c)\/(x,NameKind.cell)∈names)->∃c,(cellsFrom h.objs.size names acc).lookup x=some c) /\
 (∀x y c,(cellsFrom h.objs.size names acc).lookup x=some c->(cellsFrom h.objs.size names acc).lookup y=some c->x=y)
 | [],h,acc,hi,hl=>by
  refine⟨fun x c e=>.inl e,fun x z=>?_,hi⟩
  rcases z with z | z
  ·exact z
  ·exact nomatch z
 | (n,k)::r,h,acc,hi,hl=>by
  unfold cellsFrom pushCells
  by_cases hk:(k==NameKind.cell)=true
  ·rw[if_pos hk,if_pos hk]
   have hk':k=.cell:=cJ hk;subst hk';have sz:(h.push { cls:=.type "cell",data:=.cell none }).objs.size=h.objs.size+1:=Heap.size_push ..
   have ih:=Nh r (h.push { cls:=.type "cell",data:=.cell none }) ((n,h.objs.size)::acc) (fun x y c e1 e2=>?_) (fun x c e=>?_)
   ·rw[sz]at ih
    obtain⟨i1,i2,i3⟩:=ih
    refine⟨fun x c e=>?_,fun x z=>?_,i3⟩
    ·rcases i1 x c e with q | ⟨q1,q2,q3⟩
     ·rw[aN]at q
      split at q
      ·rename_i hb
       cases q
       have:x=n:=cJ hb;subst this;exact .inr ⟨ak _,a_,_,pushCells_keeps _ _ _ _ (Heap.get?_push_size _ rfl),rfl⟩
      ·exact .inl q
     ·exact .inr ⟨cM q1,bw _ q2,q3⟩
    ·refine i2 x ?_
     by_cases hx:x=n
     ·subst hx;exact .inl ⟨h.objs.size,by simp⟩
     ·rcases z with ⟨c,z⟩ | z
      ·exact .inl ⟨c,by rw[aN,beq_false_of_ne hx];exact z⟩
      ·rcases au.mp z with z | z
       ·cases z;exact absurd rfl hx
       ·exact .inr z
   ·rw[aN]at e1 e2
    split at e1
    ·rename_i hb1
     cases e1
     split at e2
     ·rename_i hb2
      exact(cJ hb1).trans (cJ hb2).symm
     ·exact absurd (hl _ _ e2) (aY _)
    ·split at e2
     ·cases e2
      exact absurd (hl _ _ e1) (aY _)
     ·exact hi x y c e1 e2
   ·rw[sz]
    rw[aN]at e
    split at e
    ·cases e;exact dY _
    ·exact fJ (hl x c e)
  ·rw[if_neg hk,if_neg hk]
   have ih:=Nh r h acc hi hl;obtain⟨i1,i2,i3⟩:=ih
   refine⟨fun x c e=>?_,fun x z=>i2 x ?_,i3⟩
   ·rcases i1 x c e with q | ⟨q1,q2,q3⟩
    ·exact .inl q
    ·exact .inr ⟨q1,bw _ q2,q3⟩
   ·rcases z with z | z
    ·exact .inl z
    ·rcases au.mp z with z | z
     ·cases z;exact absurd rfl hk
     ·exact .inr z
theorem A9q          
 (h:Q (newEnv scope s.heap.objs.size a (cellsFrom (s.heap.objs.size+1) scope.names d) qual none .none (some b) builtinsNs) { s with heap:=pushCells (s.heap.push { cls:=.type "dict",data:=.dict #[] }) scope.names }) :
 wpAny M A (newFunctionEnv scope a d [] qual none .none (some b)) Q E s:=by
 refine wpAny_bind (wpAny_alloc ?_)
 refine wpAny_bind (wpAny_layCells _ fun e f c=>by trivial _ _ _ _ ?_)
 rw[show ({ s with heap:=s.heap.push _ }:u_).heap.objs.size=s.heap.objs.size+1 from Heap.size_push ..]
 exact wpAny_bind (wpAny_pure (wpAny_pure h))
theorem Ac9         {K:List (Str×Addr)}  {RR:Value->Addr->Result->u_->Prop}{F:l_->Hp->Prop}
 (L:Hd X N' idx scope) (hc:X.calm=true)
 (hg:∀K C s₀ H₀ ex,PG (Er X N' scope K C s₀ H₀ ex) tg g) (ht:∀K C s₀ H₀ ex,PTs (Er X N' scope K C s₀ H₀ ex) ifs tc) (he:∀K C s₀ H₀ ex,PE (Er X N' scope K C s₀ H₀ ex) elt te)
 (c1:∀x c,K.lookup x=some c->X.env.cells.lookup x=some c/\(x,NameKind.free)∈scope.names) (c2:∀x,(x,NameKind.free)∈scope.names->∃c,K.lookup x=some c)
 (I2:Inv X pins σ R s2) (T:Turn X.prog X.w X.K tg J fp it tn) (st2:tn 0 s2.heap) (f2:∀b∈fp,Nb X pins R b) (W:Nat->Nat->St->l_->Hp->Prop) (w0:∃m,W 0 m (cst idx σ) [] R)
 (turn:∀i m t acc H,W i m t acc H->(J.stop i H/\F acc H) \/
  (J.go i H/\acc.length<sizeLine/\∃N:St->l_->Hp->Prop,(∀t acc' H',N t acc' H'->∃m',m'<m/\W (i+1) m' t acc' H')/\∀x H',J.yld i H x H'->g x t H' fun Z R=>tc Z R fun b H3 =>
   if b=true then te Z H3 fun y H4=>N Z (acc++[y]) H4 else N Z acc H3))
 (hR:∀(D C:Addr) (s':u_) (acc:l_) (a:w6) (n:Nat) (H':Hp) (m:x_),s2.heap.objs.size<=D->s2.heap.objs.size<=C->D≠C->s'.heap.Ns C m->s'.heap.get? D=some { cls:=.type "list",data:=.seq a.toArray n }->Vals acc a->acc.length<=sizeLine ->
  H' D=none->H' C=none->s'.os=s2.os->AllBare s'.gens->Un (frs X.stack) fp R H' s2.heap s'.heap->HOk X.prog X.w H' s'.heap->F acc H'->RR (.ref D) C (.ok .next) s') :
 wpAny (model X.prog X.w) X.A (newList []) (fun acc B=>wpAny (model X.prog X.w) X.A (newFunctionEnv scope X.env.globals K [] X.env.qual none .none (some X.env)) (fun cenv s₄ =>
  codeAny (model X.prog X.w) X.A (.compStart (.ListComp elt [⟨tg,iter,ifs,0⟩] scope pos) 0 (.ref it) acc { cenv with scope:=relabel scope X.env }) (RR acc cenv.locals) s₄) E B) E s2:=by
 have U:∀b∈fp,b<s2.heap.objs.size:=fun b w=>let ⟨o,e,_⟩:=T.obj _ _ st2 b w; Heap.lt_size e
 refine wpAny_newObj_type (A9q ?_)
 dsimp only
 generalize hH2:s2.heap.push { cls:=.type "list",dict:=none,data:=.seq ([]:w6).toArray }=G
 have hC:G.objs.size=s2.heap.objs.size+1:=by rw[<- hH2,Heap.size_push]
 have hDC:s2.heap.objs.size≠G.objs.size:=by rw[hC];exact aM (dY _)
 have A:s2.heap.objs.size<=G.objs.size:=by rw[hC];exact cL _
 obtain⟨j,l⟩:∃j,j=pushCells (G.push { cls:=.type "dict",data:=.dict #[] }) scope.names:=⟨_,rfl⟩;rw[<- l]
 have S:j.Ns G.objs.size (fun _=>none):=by rw[l];exact(Heap.Ns.new G (.type "dict")).keeps (pushCells_keeps _ _)
 have old:∀b o,s2.heap.get? b=some o->j.get? b=some o:=fun b o e=>by rw[l];exact pushCells_keeps _ _ b o (Heap.get?_push_of_some _ (hH2▸Heap.get?_push_of_some _ e))
 have hacc:j.get? s2.heap.objs.size=some { cls:=.type "list",dict:=none,data:=.seq ([]:w6).toArray }:=by rw[l];exact pushCells_keeps _ _ _ _ (Heap.get?_push_of_some _ (hH2▸Heap.get?_push_size _ rfl))
 have szD:(G.push { cls:=.type "dict",data:=.dict #[] }).objs.size=G.objs.size+1:=Heap.size_push ..
 obtain⟨k1,k2,k3⟩:=Nh scope.names (G.push { cls:=.type "dict",data:=.dict #[] }) K (fun x y c e1 e2=>I2.ok.inj x y c (c1 x c e1).1 (c1 y c e2).1) (fun x c e=>by
  obtain⟨v,o,ho,_⟩:=I2.cell x c (c1 x c e).1
  rw[szD];exact fJ (aA (Heap.lt_size ho) A))
 rw[szD,<- l]at k1;rw[szD]at k2 k3;obtain⟨cl0,hcl0⟩:∃cl0,cl0=K:=⟨_,rfl⟩;have c1o:=c1;have c2o:=c2;rw[<- hcl0]at k1 k2 k3 c1o c2o;rw[<- hcl0]
 clear c1 c2
 generalize cellsFrom (G.objs.size+1) scope.names cl0=K at k1 k2 k3 ⊢
 have c1:∀x c,K.lookup x=some c->(X.env.cells.lookup x=some c/\(x,NameKind.free)∈scope.names)\/(s2.heap.objs.size<=c/\(x,NameKind.cell)∈scope.names):=fun x c e=>by
  rcases k1 x c e with q | ⟨q1,q2,_⟩
  ·exact .inl (c1o x c q)
  ·exact .inr ⟨aj A (cM q1),q2⟩
 have c2:∀x,((x,NameKind.free)∈scope.names\/(x,NameKind.cell)∈scope.names)->∃c,K.lookup x=some c:=fun x z=>k2 x (z.imp (fun z=>c2o x z) id)
 have c4:∀x c,K.lookup x=some c->(x,NameKind.cell)∈scope.names->j.IsCell c none:=fun x c e z=>by
  rcases k1 x c e with q | ⟨_,_,q⟩
  ·have:=mem_lookup L.nod (c1o x c q).2
   rw[mem_lookup L.nod z]at this;cases this
  ·exact q
 let X':Cx:=Er X N' scope K G.objs.size s2 R fp
 have I1:Inv X' [] (cst idx σ) R { s2 with heap:=j }:=A3x L I2 f2 U A c1 c2 k3 c4 rfl rfl old S
 have hD2:R s2.heap.objs.size=none:=I2.hok.fresh (ak _)
 have hDfs:s2.heap.objs.size∉X'.fs:=fun z=>by
  obtain⟨_,o,ho,_⟩:=I2.stack.mem z;exact absurd (Heap.lt_size ho) (aY _)
 have hDfp:s2.heap.objs.size∉fp:=fun z=>absurd (U _ z) (aY _)
 have P:∀{H':Hp} {pl:y_},(∀b∈fp,H' b=none)->(∀p∈pl,p.1∉fp)->∀b∈fp,Nb X' pl H' b:=fun {H' pl} hn M b w =>
  ⟨hn b w,aM (aA (U b w) A),fun z=>by
   rcases au.mp (I2.stkSub b z) with q | q
   ·exact(f2 b w).2.1 q
   ·exact(f2 b w).2.2.1 q,.inl w,fun x c e=>by
    rcases c1 x c e with ⟨z,_⟩ | ⟨z,_⟩
    ·exact(f2 b w).2.2.2.2.1 x c z
    ·exact bH (aA (U b w) z),fun p Q z=>M p (by have hp':p∈[]++pl:=Q;simpa using hp') (z▸w)⟩
 have loop:∀B:u_,B={ s2 with heap:=j } ->
  codeAny (model X.prog X.w) X.A (.compLoop (.ListComp elt [⟨tg,iter,ifs,0⟩] scope pos) 0 (.ref it) (.ref s2.heap.objs.size) (compEnvC scope K G.objs.size X.env)) (RR (.ref s2.heap.objs.size) G.objs.size) B:=by
  rintro B rfl
  obtain⟨m0,w0⟩:=w0
  refine Bd7 rfl (Wd:=fun n s'=>∃i t acc a k H',Inv X' [(s2.heap.objs.size,{ cls:=.type "list",data:=.seq a.toArray k })] t H' s'/\Vals acc a/\acc.length<=sizeLine/\tn i s'.heap/\(∀b∈fp,H' b=none)/\W i n t acc H') (step:=?_) m0
   ⟨0,cst idx σ,[],[],0,R,I1.pins_of (fun p Q=>?_),.nil,aD _,T.keep _ _ _ st2 fun b _ o e=>old b o e,fun b w=>(f2 b w).1,w0⟩
  ·rintro n s3 ⟨i,Y,acc,a,k,H3,I3,rv,hz,st3,fr3,w3⟩
   have M:∀p∈[((s2.heap.objs.size,{ cls:=.type "list",data:=.seq a.toArray k }):Addr×Obj)],p.1∉fp:=fun p Q=>by
    rcases aP.mp Q with rfl;exact hDfp
   rcases turn i n Y acc H3 w3 with ⟨stop,q⟩ | ⟨go,hlt,N,hN,step⟩
   ·refine wpAny_mono (T.done X' rfl rfl rfl hc i _ s3 Y H3 (fun _ _=>False) I3 (P fr3 M) st3 stop) (fun r s4 ⟨hr,I4⟩=>?_) fun _ _ f=>f.elim
    subst hr;obtain⟨p1,p2,p3,p4,p5⟩:=I4.pin (s2.heap.objs.size,{ cls:=.type "list",data:=.seq a.toArray k }) (aC _ a_);obtain⟨m4,hn4,_⟩:=I4.loc;exact hR _ _ s4 acc a k H3 m4 (ak _) A hDC hn4 p1 rv hz p2 I4.free I4.os I4.bare I4.base I4.hok q
   ·refine wpAny_mono (T.item X' rfl rfl rfl hc i _ s3 Y H3 (fun _ _=>False) I3 (P fr3 M) st3 go) (fun r s4 ⟨u,hr,h4⟩=>?_) fun _ _ f=>f.elim
    subst hr
    refine wpAny_mono h4 (fun _ s5 ⟨x,H5,I5,r5,y5,st5,fr5⟩=>?_) fun _ _ f=>f.elim
    refine wpAny_mono (hg _ _ _ _ _ _ s5 Y H5 x u _ (I5.pinned (P fr5 M) (T.obj _ _ st5)) r5 (step x H5 y5)) (fun _ s6 ⟨O,H6,I6,q6⟩=>?_) fun _ _ f=>f.elim
    refine wpAny_mono (ht _ _ _ _ _ _ s6 O H6 _ I6 q6) (fun ok s7 ⟨H7,I7,q7⟩=>?_) fun _ _ f=>f.elim
    have tnk:∀{t:St} {H':Hp} {s':u_},Inv X' ([(s2.heap.objs.size,{ cls:=.type "list",data:=.seq a.toArray k })]++U3 fp s5.heap) t H' s'->tn (i+1) s'.heap/\∀b∈fp,H' b=none:=fun {t H' s'} I=>by
     refine⟨T.keep _ _ _ st5 fun b w o e=>(I.pin (b,o) (aC _ (aC _ (J4 w e)))).1,fun b w=>?_⟩
     obtain⟨o,e,d⟩:=T.obj _ _ st5 b w;exact(I.pin (b,o) (aC _ (aC _ (J4 w e)))).2.1
    cases ok with
    | false =>
     rw[if_neg (by decide)]at q7
     obtain⟨m',hm,w7⟩:=hN _ _ _ q7;exact⟨m',hm,i+1,O,acc,a,k,H7,I7.unpinned,rv,hz,(tnk I7).1,(tnk I7).2,w7⟩
    | true =>
     rw[if_pos rfl]at q7
     refine wpAny_mono (he _ _ _ _ _ _ s7 O H7 _ I7 q7) (fun y s8 ⟨yv,H8,I8,r8,q8⟩=>?_) fun _ _ f=>f.elim
     obtain⟨m',hm,w8⟩:=hN _ _ _ q8;obtain⟨p1,p2,p3,p4,p5⟩:=I8.pin (s2.heap.objs.size,{ cls:=.type "list",data:=.seq a.toArray k }) (aC _ a_)
     refine call_meets PySem.F.slot_list_append ⟨_,p1,rfl⟩ PySem.F.entry_list_append (PySem.F.args_list_append_2 _ _) (PySem.list_append s2.heap.objs.size a.toArray k y (by have:=rv.length;rw[aZ];(first|lia|omega))) ⟨p1,?_⟩
     have hz':=rv.length;obtain⟨t8,f8⟩:=tnk I8
     have I8':Inv X' [] O H8 s8:=I8.pins_of fun p Q=>nomatch Q
     have q:=PySem.IsL.update p1 (·.push y)
     have e':(a.toArray.push y)=(a++[y]).toArray:=by simp
     rw[e']at q
     obtain⟨k9,q⟩:∃k9,(s8.heap.update s2.heap.objs.size (Obj.mapSeq (·.push y))).get? _=some { cls:=.type _,data:=.seq _ k9 }:=⟨_,q⟩
     have I9:Inv _ _ _ _ { s8 with heap:=s8.heap.update _ (Obj.mapSeq (·.push y)) } :=
      I8'.turned  (fun b o w e=>(Heap.get?_update_other _ _ (aB w)).trans e) p2 p3 (.inr (ak _)) (fun x c e z=>by
       obtain⟨v,o,ho,hd⟩:=I8'.cell x c e
       rw[z,p1]at ho;cases ho;cases hd) (fun p Q=>by have hp':p∈([]:List _)++[]:=Q;simp at hp')
     refine⟨m',hm,i+1,O,acc++[yv],a++[y],k9,H8,I9.pins_of fun p Q=>?_,rv.append (.cons r8 .nil),by rw[bD,cN];(first|lia|omega),T.keep _ _ _ t8 fun b w o e=>(Heap.get?_update_other _ _ (fun z=>hDfp (by rw[z];exact w))).trans e,f8,w8⟩
     rcases aP.mp Q with rfl
     exact⟨q,p2,p3,p4,fun v z=>by cases z⟩
  ·rcases aP.mp Q with rfl
   exact⟨hacc,hD2,hDC,hDfs,fun v z=>by cases z⟩
 exact codeAny_compStart_list (loop _ rfl) (T.self _ 0 _ _ _ (T.keep _ _ _ st2 fun b _ o e=>old b o e) (loop _ rfl))
theorem B1j (L:Hd X N' idx scope)(hc:X.calm=true)(hi:PI X tg iter wi)
 (hg:∀t C s₀ H₀ ex,PG (Er X N' scope t C s₀ H₀ ex) tg g) (ht:∀t C s₀ H₀ ex,PTs (Er X N' scope t C s₀ H₀ ex) ifs tc) (he:∀t C s₀ H₀ ex,PE (Er X N' scope t C s₀ H₀ ex) elt te)
 (hs:∀x,foldedSetIterable iter X.env x=pure x:=by intro _;rfl) :
 PE X (.ListComp elt [⟨tg,iter,ifs,0⟩] scope pos) (tLC idx wi g tc te):=by
 intro j s Z H Q I h
 obtain⟨t,l,c1,c2⟩:=Nx (env:=X.env) (scope:=scope) fun y hy hf=>I.ok.has y.1 (L.free y hy hf)
 rw[eval_ListComp]
 refine wpAny_comprehension_free (use:=none) rfl hs l L.kind (fun y hy hl=>mem_lookup L.nod (by grind)) (wpAny_mono (hi j s Z H _ I h) (fun v s1 h1=>wpAny_mono h1 (fun itv V h2=>?_) fun _ _ e=>e) fun _ _ e=>e)
 obtain⟨it,fp,tn,J,H2,rfl,I2,T,M,z,W,w0,A⟩:=h2
 refine Ac9 (F:=fun a H=>∀p,H p=none->Q (.ref p) (upd H p (.lst a))) (RR:=fun a C=>compPost (model X.prog X.w) X.A X.xe none (EP X j Z Q) a C) L hc hg ht he c1 c2 I2 T M z W w0 A ?_
 intro D C s' a w n N m hD hC O hn P rv hz d hC' ho K i hk q
 refine⟨m,hn,fun G f=>?_⟩
 have eD:G.get? D=some { cls:=.type "list",data:=.seq w.toArray n }:=f.extBut _ _ O P
 have S:HOk X.prog X.w N G:=fun b u e=>by
  refine (hk b u e).stay (fun c v hc q=>f.extBut c v ?_ q) (fun _ q=>q) fun _ _ q=>q
  grind
 have U:HOk X.prog X.w (upd N D (.lst a)) G:=S.track d ⟨hz,w,n,rv,eD⟩
 have k:∀b o,V.heap.get? b=some o->b≠C:=fun b o e=>aM (aA (Heap.lt_size e) hC)
 have R:∀b o,V.heap.get? b=some o->b≠D:=fun b o e=>aM (aA (Heap.lt_size e) hD)
 have u2:Un (frs X.stack) fp H2 (upd N D (.lst a)) V.heap G :=
  ⟨
   fun b o e r B Y=>f.extBut b o (k b o e) (i.keep b o e r B Y),fun b o e r B Y=>let ⟨sl,q⟩:=i.slot b o e r B Y; ⟨sl,f.extBut b _ (k b o e) q⟩,
   fun b o e r B=>by rw[Am (R b o e)];exact i.free b o e r B,fun b o e r=>let ⟨o',q⟩:=i.there b o e r; ⟨o',f.extBut b _ (k b o e) q⟩,
   fun b xs e=>by rw[Am (Bk (i.tups b _ e) d)];exact i.tups b _ e,fun b o u e=>by rw[Am (Bk (i.frzs b o u e) d)];exact i.frzs b o u e,
   fun b ps e=>by rw[Am (Bk (i.tbls b _ e) d)];exact i.tbls b _ e⟩
 refine⟨.ref D,upd _ D _,I2.call'  ho u2 U K fun b E=>⟨(z b E).2.2.2.1,(z b E).2.1,(z b E).2.2.2.2.1,(z b E).2.2.2.2.2⟩,rfl,q D d⟩
end
section
variable {X:Cx}{N':v4}{idx:o5}{scope:Scope}{elt tg iter:Expr}{ifs:v_}{pos:Pos}{wi:TI}{g:TG}{tc:TT}{te:TE}
theorem A8h   {K t:Pos}(hN:X.N.Nodup) (hi':X.N[i]?=some y) (hy:Loc X.env.scope y) (L:Hd X N' idx scope) (hc:X.calm=true) (hi:PI X tg iter wi)
 (hg:∀B C s₀ H₀ ex,PG (Er X N' scope B C s₀ H₀ ex) tg g) (ht:∀B C s₀ H₀ ex,PTs (Er X N' scope B C s₀ H₀ ex) ifs tc) (he:∀B C s₀ H₀ ex,PE (Er X N' scope B C s₀ H₀ ex) elt te)
 (hsw:swapsWith (.ListComp elt [⟨tg,iter,ifs,0⟩] scope pos) (some (.Name y K)) t.line X.env=pure true:=by rfl)
 (hf:X.fn y=true\/X.env.scope.names.lookup y=some .local:=by first | exact .inl rfl | exact .inr rfl | assumption)
 (hs:∀x,foldedSetIterable iter X.env x=pure x:=by intro _;rfl) :
 PS X (.Assign [.Name y K] (.ListComp elt [⟨tg,iter,ifs,0⟩] scope pos) t) (Af6 (tLC idx wi g tc te) (Mz i)):=by
 intro d s M H j I h
 have h:tLC idx wi g tc te M H fun x H1=>j.nx (M.set i (some x)) H1:=h
 obtain⟨B,A,c1,c2⟩:=Nx (env:=X.env) (scope:=scope) fun y hy hf=>I.ok.has y.1 (L.free y hy hf)
 rw[exec_Assign_Name_used _ _ _ _ hsw]
 refine wpAny_bind (wpAny_standAt (wpAny_bind ?_))
 show wpAny _ X.A (do let _ <- comprehension (.ListComp elt [⟨tg,iter,ifs,0⟩] scope pos) scope X.env _ (newList []) false (eval iter X.env) (some (assign (.Name y K) X.env))) _ _ s
 refine wpAny_bind (wpAny_mono (wpAny_comprehension_free (use:=some (assign (.Name y K) X.env)) (Q:=fun _ r=>SP X d j .next r) rfl hs A L.kind (fun y hy hl=>mem_lookup L.nod (by rw[<- hl];exact hy))
  (wpAny_mono (hi d s M H _ I h) (fun v s1 h1=>wpAny_mono h1 (fun itv s2 h2=>?_) fun _ _ e=>e) fun _ _ e=>e)) (fun _ r hq=>wpAny_pure (wpAny_pure hq)) fun _ _ e=>e)
 obtain⟨it,fp,tn,J,H2,rfl,G,T,U,N,W,w0,O⟩:=h2
 refine Ac9 (F:=fun f H=>∀p,H p=none->j.nx (M.set i (some (.ref p))) (upd H p (.lst f))) (RR:=fun f C=>compPost (model X.prog X.w) X.A X.xe (some (assign (.Name y K) X.env)) (fun _ r=>SP X d j .next r) f C) L hc hg ht he c1 c2 G T U N W w0 O ?_
 intro D C r f V n Y m hD P Z hn hDo rv hz k hC' ho hg' l hk q;have S:HOk X.prog X.w (upd Y D (.lst f)) r.heap:=hk.track k ⟨hz,V,n,rv,hDo⟩
 have neD:∀b o,s2.heap.get? b=some o->b≠D:=fun b o e=>aM (aA (Heap.lt_size e) hD)
 have u2:Un (frs X.stack) fp H2 (upd Y D (.lst f)) s2.heap r.heap :=
  ⟨
   l.keep,l.slot,fun b o e n1 n2=>by rw[Am (neD b o e)];exact l.free b o e n1 n2,l.there,
   fun b xs e=>by rw[Am (Bk (l.tups b xs e) k)];exact l.tups b xs e,fun b o u e=>by rw[Am (Bk (l.frzs b o u e) k)];exact l.frzs b o u e,
   fun b ps e=>by rw[Am (Bk (l.tbls b ps e) k)];exact l.tbls b ps e⟩
 have I3:Inv X d M (upd Y D (.lst f)) r:=G.call' ho u2 S hg' (fun b E=>⟨(N b E).2.2.2.1,(N b E).2.1,(N b E).2.2.2.2.1,(N b E).2.2.2.2.2⟩)
 have hCL:C≠X.env.locals:=bH (aA G.lt P)
 have hCc:∀x c,X.env.cells.lookup x=some c->c≠C:=fun x c e z=>by
  obtain⟨v,w⟩:=G.cell x c e
  exact absurd (aA w.lt (by rw[z];exact P)) (aY _)
 have hCp:∀p∈X.pn++d,p.1≠C:=fun p hp z=>absurd (aA (Heap.lt_size (G.pin p hp).1) (by rw[z];exact P)) (aY _)
 refine wpAny_assign_Name (V9 (v:=.ref D) I3 hN hi' hy rfl (fun s4 I4 ⟨a,sb,ha⟩=>?_) hf)
 have hCa:C≠a:=by
  grind
 refine⟨m,hn.sameBut sb hCa,fun h' R=>?_⟩
 refine⟨_,_,I4.turned  (fun b o E e=>R.extBut b o E e) ?_ hCL (.inr (aj G.sz P)) hCc hCp,q D k⟩
 rw[Am (aB Z)];exact hC'
end
section
variable {X:Cx}
def M6 (H:Hp):V->Option String
 | .non=>some "NoneType" | .bl _=>some "bool" | .int _=>some "int" | .str _=>some "str"
 | .ref a=>match H a with
  | some (.lst _)=>some "list"
  | some (.tup _)=>some "tuple"
  | some (.dK _)=>some "dict"
  | some (.dT _)=>some "dict"
  | _=>none
 | _=>none
section
variable {X:Cx}{pins:y_}{σ:St}{H:Hp}{s:u_}
theorem A7z    (I:Inv X pins σ H s) (f:RelV x u) (h:M6 H x=some t):∃hp:Heap->Prop,PySem.W.KitX X.K u (.type t) hp/\hp s.heap/\u≠.builtin "__main__.__loader__#opaque" := by
 cases x with
 | non=>cases h;cases (f);exact⟨_,PySem.W.kitx_none,True.intro,fun z=>nomatch z⟩
 | bl b=>cases h;cases (f);exact⟨_,PySem.W.kitx_bool,True.intro,fun z=>nomatch z⟩
 | int i=>cases h;obtain⟨t,rfl⟩:=f;exact⟨_,PySem.W.kitx_int,True.intro,fun z=>nomatch z⟩
 | str y=>cases h;obtain⟨t,rfl⟩:=f;exact⟨_,PySem.W.kitx_str,True.intro,fun z=>nomatch z⟩
 | ref a =>
  cases (f)
  have c:∀T,PySem.W.KitX X.K (.ref a) (.type T) (PySem.W.KitAt a T)->PySem.W.KitAt a T s.heap->some T=some t->∃hp:Heap->Prop,PySem.W.KitX X.K (.ref a) (.type t) hp/\hp s.heap/\Value.ref a≠.builtin "__main__.__loader__#opaque" := fun T k p q=>by grind
  have h:(match H a with | some (.lst _)=>some _ | some (.tup _)=>some _ | some (.dK _)=>some _ | some (.dT _)=>some _ | _=>none)=some t:=h
  split at h
  ·rename_i l e
   obtain⟨_,_,n,_,d⟩:=(show z8 _ _ H _ a _ from I.hok a _ e)
   exact c _ PySem.W.kitx_list ⟨_,d,rfl⟩ h
  ·rename_i l e
   obtain⟨_,_,_,o,d,g,_⟩:=(show z8 _ _ H _ a _ from I.hok a _ e)
   exact c _ PySem.W.kitx_tuple ⟨o,d,g⟩ h
  ·rename_i j e
   obtain⟨_,_,vs,_,o,r,m,d,g,_⟩:=(show z8 _ _ H _ a _ from I.hok a _ e)
   exact c _ PySem.W.kitx_dict ⟨o,d,g.1⟩ h
  ·rename_i j e
   obtain⟨_,_,l,_,o,r,m,d,g,_⟩:=(show z8 _ _ H _ a _ from I.hok a _ e)
   exact c _ PySem.W.kitx_dict ⟨o,d,g.1⟩ h
  grind
 | byt b=>cases h
 | flt b=>cases h
 | ty n=>cases h
end
def Eg (t T:String):Option Bool:=if ["NoneType", "bool", "int", "str", "list", "tuple", "dict"].contains t&&["int", "str", "bool", "list", "tuple"].contains T then some (t==T||(t == "bool" && T == "int")) else none
theorem Ac8 {K:v9}   (h:Eg t T=some b):PySem.W.kitOne K (.type t) (.type T)=some b:=by
 unfold Eg at h
 split at h
 ·rename_i a
  cases h
  simp only[aO,List.contains_iff_mem,au,bf,bB]at a;obtain⟨c,d⟩:=a
  rcases c with rfl | rfl | rfl | rfl | rfl | rfl | rfl <;> rcases d with rfl | rfl | rfl | rfl | rfl <;> with_unfolding_all rfl
 ·cases h
theorem A5t:CallR X (.builtin "isinstance") (fun xs H Q=>∃x T t b,xs=[x,.ty T]/\M6 H x=some t/\Eg t T=some b/\Q (.bl b) H):=by
 intro a s σ H xs us Q I r h;obtain⟨x,T,t,b,rfl,f,c,q⟩:=h;obtain⟨u,v,rfl,e,d⟩:=Vals.two r
 cases (d)
 obtain⟨hp,z,p,g⟩:=A7z I e f
 exact PySem.W.kia_one z I.kIn p (Ac8 c) g fun tk=>⟨.bl b,H,I.tok _,rfl,q⟩
theorem walk_seq          (m:A.handled=none) (I:Inv X pins d H s) (h:SqL X.K H a xs)
 (k:∀(c:w6) (J:Addr) (s2:u_),Vals xs c->Walks X.prog X.w A J [J,a] [J] c.length (fun i v=>c[i]?=some v) (fun i h=>h.IsListIter J a i/\h.IsList a c.toArray)->s2.heap.IsListIter J a 0/\s2.heap.IsList a c.toArray->(∀b∈[J,a],b<s2.heap.objs.size) ->
  Inv X pins d H s2->(∀f l,(∀b o,b∉[J]->s2.heap.get? b=some o->f.get? b=some o)->Inv X pins d H { s2 with heap:=f,toks:=l })->R (.ref J) s2) :
 wpAny (model X.prog X.w) A (pyIter (.ref a)) R E s:=by
 obtain⟨c,n,p,D⟩:=I.list h
 refine wpAny_pyIter_list p.isList ?_
 have u:a<s.heap.objs.size:=let ⟨_,e,_⟩:=p.isList; Heap.lt_size e
 have g:a≠s.heap.objs.size:=aM u;have W:=Walks.list (prog:=X.prog) (w:=X.w) (A:=A) m s.heap.objs.size a g c.toArray;rw[aZ]at W
 have j:Inv X pins d H { s with heap:=s.heap.push { cls:=.type "list_iterator",data:=.fields #[.ref a,.int 0 0] } }:=I.kept (t':=s.toks) fun b o e=>Heap.get?_push_of_some _ e
 refine k c s.heap.objs.size _ n (by simp_all) ⟨⟨_,Heap.get?_push_size _ rfl,rfl,rfl⟩,let ⟨o,e,r⟩:=p.isList; ⟨o,Heap.get?_push_of_some _ e,r⟩⟩ ?_ j fun f l x=>?_
 ·intro b z
  have e:=Heap.size_push s.heap { cls:=.type "list_iterator",data:=.fields #[.ref a,.int 0 0] }
  grind
 ·obtain⟨q,B,F,y,C,t⟩:=(I.fpOk (b:=s.heap.objs.size) (ak _) (I.hok.fresh (ak _)))
  exact j.turned  (fun b o z e=>x b o (by simp_all) e) q B y C t
theorem Ae6   {bs:List Bool}(r:Vals (bs.map V.bl) a):TruthOf X.prog X.w A (fun i v=>a[i]?=some v) (fun i=>bs.getD i false):=by
 intro i v s Q E c b;have h  := (bG.mp c).1
 have g:i<bs.length:=by have:=r.length;simp_all
 obtain⟨u,d,f⟩:=r.get (i:=i) (x:=V.bl bs[i]) (by simp_all)
 rw[c]at d
 cases d
 cases (show v=Value.bool _ from f)
 have e:bs.getD i false=bs[i]:=by simp_all
 have b:Q (bs.getD i _) s:=b;rw[e]at b;exact wpAny_truthy_bool b
theorem range_all (bs:List Bool):(List.range bs.length).all (fun i=>bs.getD i false)=bs.all id:=by
 rw[Bool.eq_iff_iff];simp only[aU,List.mem_range]
 constructor
 ·intro h b d
  obtain⟨i,a,c⟩:=List.getElem_of_mem d
  simp_all
 ·intro h i a
  simpa[a] using h _ (List.getElem_mem _)
theorem A2b (hc:X.calm=true):CallR X (.builtin "all") (fun xs H Q=>∃(a:Addr) (b:List Bool),xs=[.ref a]/\SqL X.K H a (b.map V.bl)/\Q (.bl (b.all id)) H):=by
 intro d s σ H xs us Q I r h;obtain⟨a,b,rfl,i,q⟩:=h;obtain⟨u,rfl,g⟩:=vals1 r
 cases (g)
 refine call_all_walk (walk_seq  (I.ok.hd hc) I i fun c J s2 f W l hb I2 k=>⟨J,_,_,_,_,_,_,rfl,W,l,Ae6 f,fun h' tk j=>?_⟩)
 have e:c.length=b.length:=by rw[<- f.length,ao]
 rw[e,range_all];exact⟨.bl _,H,k _ _ j,rfl,q⟩
end
mutual
def Tr (H:Hp):t_->V->Prop
 | .none,v=>v=.non
 | .bool b,v=>v=.bl b
 | .int i,v=>v=.int i
 | .str x,v=>v=.str x
 | .list ds,v=>∃a vs,v=.ref a/\H a=some (.lst vs)/\TrL H ds vs
 | .tuple ds,v=>∃a vs,v=.ref a/\H a=some (.tup vs)/\TrL H ds vs
 | .dict _,_=>False
def TrL (H:Hp):w5->l_->Prop
 | [],vs=>vs=[]
 | d::ds,vs=>∃v r,vs=v::r/\Tr H d v/\TrL H ds r
end
theorem TrL.length {H:Hp}:∀{ds:w5}{vs:l_},TrL H ds vs->ds.length=vs.length
 | [],_,h=>by cases (show _=[] from h);rfl
 | d::ds,_,h=>by
  obtain⟨v,r,rfl,_,t⟩:=h;rw[aG,aG,TrL.length t]
mutual
theorem Tr.same {H H':Hp}(S:Same H H'):∀{d:t_}{v:V},Tr H d v->Tr H' d v
 | .none,_,h=>h
 | .bool _,_,h=>h
 | .int _,_,h=>h
 | .str _,_,h=>h
 | .list ds,_,⟨a,vs,e,ha,t⟩=>⟨a,vs,e,S _ _ ha,TrL.same S t⟩
 | .tuple ds,_,⟨a,vs,e,ha,t⟩=>⟨a,vs,e,S _ _ ha,TrL.same S t⟩
theorem TrL.same {H H':Hp}(S:Same H H'):∀{ds:w5}{vs:l_},TrL H ds vs->TrL H' ds vs
 | [],_,h=>h
 | d::ds,_,⟨v,r,e,h,t⟩=>⟨v,r,e,Tr.same S h,TrL.same S t⟩
end
def B4j (H H':Hp):Prop:=∀b xs,H b=some (.tup xs)->H' b=some (.tup xs)
section
variable {X:Cx}{pins:y_}{σ:St}{H:Hp}{s:u_}
mutual
theorem Tr.reads (I:Inv X pins σ H s):∀{d:t_}{v:V}{u:Value},Tr H d v->RelV v u->∃as,Reads s.heap u d as
 | .none,_,u=>fun h r=>by
  cases (show _=V.non from h)
  cases (show u=Value.none from r)
  exact⟨_,.none⟩
 | .bool b,_,u=>fun h r=>by
  cases (show _=V.bl b from h)
  cases (show u=Value.bool b from r)
  exact⟨_,.bool b⟩
 | .int i,_,u=>fun h r=>by
  cases (show _=V.int i from h)
  obtain⟨t,rfl⟩:=r;exact⟨_,.int i t⟩
 | .str x,_,u=>fun h r=>by
  cases (show _=V.str x from h)
  obtain⟨t,rfl⟩:=r;exact⟨_,.str x t⟩
 | .list ds,_,u=>fun h r=>by
  obtain⟨a,vs,rfl,ha,t⟩:=h
  cases (show u=Value.ref a from r)
  obtain⟨z,its,n,rv,e⟩:=I.hok a _ ha;obtain⟨as,q⟩:=TrL.reads I t rv
  exact⟨_,.list e rfl rfl (by simpa using q)⟩
 | .tuple ds,_,u=>fun h r=>by
  obtain⟨a,vs,rfl,ha,t⟩:=h
  cases (show u=Value.ref a from r)
  obtain⟨z,its,rv,o,e,c,⟨n,dt⟩,_⟩:=I.hok a _ ha;obtain⟨as,q⟩:=TrL.reads I t rv
  exact⟨_,.tuple e c dt (by simpa using q)⟩
 | .dict k,_,u=>fun h r=>False.elim h
theorem TrL.reads (I:Inv X pins σ H s):∀{ds:w5}{vs:l_}{us:w6},TrL H ds vs->Vals vs us->∃as,ReadsAll s.heap us ds as
 | [],_,us=>fun h r=>by
  cases (show _=[] from h)
  cases r
  exact⟨_,.nil⟩
 | d::ds,_,us=>fun h r=>by
  obtain⟨v,vs,rfl,hv,t⟩:=h
  cases r with
  | cons r1 r2 =>
   obtain⟨as,q⟩:=Tr.reads I hv r1;obtain⟨bs,p⟩:=TrL.reads I t r2;exact⟨_,.cons q p⟩
end
end
def Flat (d:t_):Prop:=d.canLay0=true/\d.depth<=40
section
variable {X:Cx}
theorem Bn0  (hu:u+64<c) (hb:b<=40):u+min a b<c:=bc (bI (aj (fK a b) (aj hb (by decide))) u) hu
theorem X8  (hu:u+64<c) (hb:b<=40):u+1+min a b<c:=bc (aj (bI (aj (fK a b) hb) _) (bI (show 1+40<=64 by decide) u)) hu
theorem Bw4 (hu:X.A.units+64<cLine):OpR X (compareOp .Eq) (fun x y H Q=>∃a b,Tr H a x/\Tr H b y/\Flat a/\Flat b/\Q (.bl (PyData.eqv a b)) H):=by
 intro c s n H x y v u Q I g f h;obtain⟨a,b,i,j,k,d,q⟩:=h;obtain⟨m,l⟩:=i.reads I g;obtain⟨o,e⟩:=j.reads I f;exact SeqAt.compareEq_reads l e k.1 d.1 (Bn0 hu d.2) ⟨.bl _,H,I,rfl,q⟩
theorem Bx6 (hu:X.A.units+64<cLine):OpR X (compareOp .NotEq) (fun x y H Q=>∃a b,Tr H a x/\Tr H b y/\Flat a/\Flat b/\Q (.bl (!PyData.eqv a b)) H):=by
 intro c s n H x y v u Q I g f h;obtain⟨a,b,i,j,k,d,q⟩:=h;obtain⟨m,l⟩:=i.reads I g;obtain⟨o,e⟩:=j.reads I f;exact SeqAt.compareNe_reads l e k.1 d.1 (Bn0 hu d.2) ⟨.bl _,H,I,rfl,q⟩
theorem A2n (hu:X.A.units+64<cLine):OpR X (compareOp .NotIn) (fun x y H Q=>∃d ds,Tr H d x/\(Tr H (.list ds) y\/Tr H (.tuple ds) y)/\Flat d/\PyData.canLayAll0 ds=true/\Q (.bl (!ds.any fun e=>PyData.eqv e d)) H):=by
 intro g s σ H x y v u Q I m f h;obtain⟨d,ds,k,a,b,i,q⟩:=h;obtain⟨as,j⟩:=k.reads I m
 rcases a with a | a
 ·obtain⟨l,c⟩:=a.reads I f
  exact SeqAt.notIn_list_reads c j i b.1 (X8 hu b.2) ⟨.bl _,H,I,rfl,q⟩
 ·obtain⟨l,c⟩:=a.reads I f
  exact SeqAt.notIn_tuple_reads c j i b.1 (X8 hu b.2) ⟨.bl _,H,I,rfl,q⟩
theorem A0o (hu:X.A.units+64<cLine)(hg:X.A.guards=some []):CallR X (.type "str") (fun xs H Q=>∃a d,xs=[.ref a]/\Tr H d (.ref a)/\d.showable=true/\d.hasDict=false/\d.depth<=40/\d.shown.length<=sizeLine/\Q (.str d.shown) H):=by
 intro b s σ H xs us Q I r h;obtain⟨a,d,rfl,i,j,h2,h3,g,q⟩:=h;obtain⟨u,rfl,c⟩:=vals1 r
 cases show u=Value.ref a from c
 obtain⟨as,k⟩:=i.reads I c
 exact str_of_reads k j fun z=>by simp_all hg (by (first|lia|omega)) (fun _ _ e=>e) (fun h' t tk f=>⟨.str _,H,I.kept  f,⟨t,rfl⟩,q⟩) g
end
mutual
def Ig (gt:Bool):t_->t_->Option Bool
 | .int i,.int j=>some (if gt then decide (j<i) else decide (i<j))
 | .str i,.str j=>some (if gt then decide (j.cps.toList<i.cps.toList) else decide (i.cps.toList<j.cps.toList))
 | .tuple xs,.tuple ys=>Hg gt xs ys
 | _,_=>none
def Hg (gt:Bool):w5->w5->Option Bool
 | [],[]=>some false
 | [],_::_=>some (!gt)
 | _::_,[]=>some gt
 | x::xs,y::ys=>if PyData.eqv x y=true then Hg gt xs ys else Ig gt x y
end
abbrev opG (gt:Bool):CmpOp:=if gt then .Gt else .Lt
def Bz9 (gt:Bool)(A:q_)(s:u_)(a b:Value)(r:Bool):Prop :=
 ∀(prog:u6) (w:World) (E:z_) (Q:z_),Q (.bool r) s->wpAny (model prog w) A (richCompare (opG gt) a b) Q E s
inductive My (gt:Bool) (A:q_) (s:u_):w6->w6->Bool->Prop
 | nn:My gt A s [] [] false
 | nc {y ys}:My gt A s [] (y::ys) (!gt)
 | cn {x xs}:My gt A s (x::xs) [] gt
 | eq {x xs y ys r}:SeqAt.EqAt A s x y true->My gt A s xs ys r->My gt A s (x::xs) (y::ys) r
 | ne {x xs y ys r}:SeqAt.EqAt A s x y false->Bz9 gt A s x y r->My gt A s (x::xs) (y::ys) r
section
open PySem.SeqAt
open PySem.AutoSeq1 (wpAny_loadPart')
open PySem.MeetsSeq PySem.MeetsSeq2 PySem.MeetsSeq3
theorem Yv (l b:Addr)(items a:v7)(n n2:Nat)(dd dd2:Option Addr)(sl sl2:Array (u9))(r:Bool) :
 Meets (Builtin.«tuple.__lt__» ⟨[.ref l,.ref b],[]⟩)
  (fun A R s=>s.heap.get? l=some { cls:=.type "tuple",dict:=dd,data:=.seq items n,slots:=sl }/\s.heap.get? b=some { cls:=.type "tuple",dict:=dd2,data:=.seq a n2,slots:=sl2 } /\
   My false A.in1 s items.toList a.toList r/\R (.ok (.ret (.bool r))) s) :=
 .of_wp fun f w A R s h=>by
  obtain⟨hp,g,d,tk,os⟩:=s;obtain⟨hl,hb,hx,h⟩:=h;have f2:=AutoSeq1.sub_tuple_tuple
  wp_walk using wpAny_loadPart' hl,wpAny_loadPart' hb,wpAny_forIn_list _ (fun rest b s'=>b.1=none/\s'=⟨hp,g,d,tk,os⟩/\∃(vs ws:w6),rest=vs.zip ws /\
   vs.length+a.size=ws.length+items.size/\My false A.in1 ⟨hp,g,d,tk,os⟩ vs ws r) _
  case turn =>
   rintro⟨y,x⟩ rest b s' ⟨hb',rfl,vs,ws,e,c,hR⟩
   cases hR with
   | nn=>rw[dZ]at e;cases e
   | nc=>rw[dZ]at e;cases e
   | cn=>rw[List.zip_nil_right]at e;cases e
   | eq he hr =>
    rw[bZ]at e
    injection e with hyx hrest
    injection hyx with hy hx
    subst hy hx;simp only[aG]at c
    refine wpAny_bind (he f w _ _ ?_)
    wp_walk
    exact⟨rfl,rfl,_,_,hrest,by (first|lia|omega),hr⟩
   | ne he hr =>
    rw[bZ]at e
    injection e with hyx hrest
    injection hyx with hy hx
    subst hy hx
    refine wpAny_bind (he f w _ _ ?_)
    have hri:∀(E:z_) (Q:z_),Q (.bool r) ⟨hp,g,d,tk,os⟩->wpAny (model f w) A.in1 (richCompare .Lt y x) Q E ⟨hp,g,d,tk,os⟩:=hr f w
    wp_walk using hri
    exact⟨_,rfl,by simpa using h⟩
  case fin =>
   rintro⟨b1,b2⟩ s' ⟨hb',rfl,vs,ws,e,c,hR⟩
   simp only at hb';subst hb'
   have hv:r=decide (items.size<a.size):=by
    cases hR with
    | nn=>exact(aK (by simp only[bU]at c;(first|lia|omega))).symm
    | nc=>simp only[bU,aG]at c;exact(az (by (first|lia|omega))).symm
    | cn=>simp only[bU,aG]at c;exact(aK (by (first|lia|omega))).symm
    | eq=>rw[bZ]at e;cases e
    | ne=>rw[bZ]at e;cases e
   rw[hv]at h
   wp_walk
   exact⟨_,rfl,by simpa[Builtin.Tuple.tupleCompareSizes] using h⟩
  case h =>
   exact⟨rfl,rfl,items.toList,a.toList,rfl,by simp;(first|lia|omega),hx⟩
theorem Zj (l b:Addr)(items a:v7)(n n2:Nat)(dd dd2:Option Addr)(sl sl2:Array (u9))(r:Bool) :
 Meets (Builtin.«tuple.__gt__» ⟨[.ref l,.ref b],[]⟩)
  (fun A R s=>s.heap.get? l=some { cls:=.type "tuple",dict:=dd,data:=.seq items n,slots:=sl }/\s.heap.get? b=some { cls:=.type "tuple",dict:=dd2,data:=.seq a n2,slots:=sl2 } /\
   My true A.in1 s items.toList a.toList r/\R (.ok (.ret (.bool r))) s) :=
 .of_wp fun f w A R s h=>by
  obtain⟨hp,g,d,tk,os⟩:=s;obtain⟨hl,hb,hx,h⟩:=h;have f2:=AutoSeq1.sub_tuple_tuple
  wp_walk using wpAny_loadPart' hl,wpAny_loadPart' hb,wpAny_forIn_list _ (fun rest b s'=>b.1=none/\s'=⟨hp,g,d,tk,os⟩/\∃(vs ws:w6),rest=vs.zip ws /\
   vs.length+a.size=ws.length+items.size/\My true A.in1 ⟨hp,g,d,tk,os⟩ vs ws r) _
  case turn =>
   rintro⟨y,x⟩ rest b s' ⟨hb',rfl,vs,ws,e,c,hR⟩
   cases hR with
   | nn=>rw[dZ]at e;cases e
   | nc=>rw[dZ]at e;cases e
   | cn=>rw[List.zip_nil_right]at e;cases e
   | eq he hr =>
    rw[bZ]at e
    injection e with hyx hrest
    injection hyx with hy hx
    subst hy hx;simp only[aG]at c
    refine wpAny_bind (he f w _ _ ?_)
    wp_walk
    exact⟨rfl,rfl,_,_,hrest,by (first|lia|omega),hr⟩
   | ne he hr =>
    rw[bZ]at e
    injection e with hyx hrest
    injection hyx with hy hx
    subst hy hx
    refine wpAny_bind (he f w _ _ ?_)
    have hri:∀(E:z_) (Q:z_),Q (.bool r) ⟨hp,g,d,tk,os⟩->wpAny (model f w) A.in1 (richCompare .Gt y x) Q E ⟨hp,g,d,tk,os⟩:=hr f w
    wp_walk using hri
    exact⟨_,rfl,by simpa using h⟩
  case fin =>
   rintro⟨b1,b2⟩ s' ⟨hb',rfl,vs,ws,e,c,hR⟩
   simp only at hb';subst hb'
   have hv:r=decide (a.size<items.size):=by
    cases hR with
    | nn=>exact(aK (by simp only[bU]at c;(first|lia|omega))).symm
    | nc=>simp only[bU,aG]at c;exact(aK (by (first|lia|omega))).symm
    | cn=>simp only[bU,aG]at c;exact(az (by (first|lia|omega))).symm
    | eq=>rw[bZ]at e;cases e
    | ne=>rw[bZ]at e;cases e
   rw[hv]at h
   wp_walk
   exact⟨_,rfl,by simpa[Builtin.Tuple.tupleCompareSizes] using h⟩
  case h =>
   exact⟨rfl,rfl,items.toList,a.toList,rfl,by simp;(first|lia|omega),hx⟩
end
theorem Bq5       (hl:s.heap.IsTuple l items) (hb:s.heap.IsTuple b a) (hx:My f A.in1 s items.toList a.toList r) (hu:A.units<cLine):Bz9 f A s (.ref l) (.ref b) r:=by
 intro m w E Q h;obtain⟨⟨o,y,k,v⟩,d,p,n,u⟩:=id hl;obtain⟨⟨j,t,g,q⟩,c,i,z,e⟩:=id hb;subst p u i e
 cases f with
 | false =>
  exact richCompare_meets_room  ⟨_,d,rfl⟩ ⟨_,c,rfl⟩ PySem.F.slot_tuple_lt PySem.F.entry_tuple_lt (PySem.F.args_tuple_lt_2 _ _) (Yv l b _ _ n _ _ _ _ _ r)
   ⟨d,c,hx,show Value.bool r≠Value.notImplemented/\Q _ s from ⟨(fun x=>nomatch x),h⟩⟩ hu
 | true =>
  exact richCompare_meets_room  ⟨_,d,rfl⟩ ⟨_,c,rfl⟩ PySem.F.slot_tuple_gt PySem.F.entry_tuple_gt (PySem.F.args_tuple_gt_2 _ _) (Zj l b _ _ n _ _ _ _ _ r)
   ⟨d,c,hx,show Value.bool r≠Value.notImplemented/\Q _ s from ⟨(fun x=>nomatch x),h⟩⟩ hu
mutual
theorem A9i (gt:Bool):∀(da db:t_) (A:q_) (s:u_) (a b:Value) (as bs:v6) (r:Bool),Reads s.heap a da as->Reads s.heap b db bs->da.canLay0=true->db.canLay0=true->A.units+da.depth<cLine->Ig gt da db=some r->Bz9 gt A s a b r
 | .int i,db,A,s,a,b,as,bs,r,ra,rb,ca,cb,hu,h=>by
  cases db with
  | int j =>
   cases ra
   cases rb
   cases h
   intro prog w E Q q
   cases gt with
   | false=>exact(PyProof.Rows.lt_int q:wpAny (model prog w) A (compareOp .Lt _ _) Q E s)
   | true=>exact(PyProof.Rows.gt_int q:wpAny (model prog w) A (compareOp .Gt _ _) Q E s)
  | _=>cases h
 | .str i,db,A,s,a,b,as,bs,r,ra,rb,ca,cb,hu,h=>by
  cases db with
  | str j =>
   cases ra
   cases rb
   cases h
   intro prog w E Q q
   cases gt with
   | false=>exact(PyProof.Rows.lt_str q:wpAny (model prog w) A (compareOp .Lt _ _) Q E s)
   | true=>exact(PySem.P.gt_str q:wpAny (model prog w) A (compareOp .Gt _ _) Q E s)
  | _=>cases h
 | .tuple xs,db,A,s,a,b,as,bs,r,ra,rb,ca,cb,hu,h=>by
  cases db with
  | tuple ys =>
   cases ra with
   | tuple h1 h2 h3 h4 =>
    cases rb with
    | tuple g1 g2 g3 g4 =>
     have hu':A.units+(PyData.depthAll xs+1)<cLine:=hu
     exact Bq5 ⟨_,h1,h2,_,h3⟩ ⟨_,g1,g2,_,g3⟩ (Nk gt xs ys A.in1 s _ _ _ _ r h4 g4 ca cb (by show A.units+1+PyData.depthAll xs<cLine;(first|lia|omega)) h) (by (first|lia|omega))
  | _=>cases h
 | .none,db,A,s,a,b,as,bs,r,ra,rb,ca,cb,hu,h=>by cases db <;> cases h
 | .bool _,db,A,s,a,b,as,bs,r,ra,rb,ca,cb,hu,h=>by cases db <;> cases h
 | .list _,db,A,s,a,b,as,bs,r,ra,rb,ca,cb,hu,h=>by cases db <;> cases h
 | .dict _,db,A,s,a,b,as,bs,r,ra,rb,ca,cb,hu,h=>by cases db <;> cases h
theorem Nk (gt:Bool):∀(xs ys:w5) (A:q_) (s:u_) (vs ws:w6) (as bs:v6) (r:Bool),ReadsAll s.heap vs xs as->ReadsAll s.heap ws ys bs->PyData.canLayAll0 xs=true->PyData.canLayAll0 ys=true->A.units+PyData.depthAll xs<cLine->Hg gt xs ys=some r->My gt A s vs ws r
 | [],[],A,s,vs,ws,as,bs,r,ra,rb,ca,cb,hu,h=>by cases ra;cases rb;cases h;exact .nn
 | [],y::ys,A,s,vs,ws,as,bs,r,ra,rb,ca,cb,hu,h=>by cases ra;cases rb;cases h;exact .nc
 | x::xs,[],A,s,vs,ws,as,bs,r,ra,rb,ca,cb,hu,h=>by cases ra;cases rb;cases h;exact .cn
 | x::xs,y::ys,A,s,vs,ws,as,bs,r,ra,rb,ca,cb,hu,h=>by
  cases ra with
  | cons r1 r2 =>
   cases rb with
   | cons q1 q2 =>
    have ca':=aq.mp ca;have cb':=aq.mp cb;have hu':A.units+max x.depth (PyData.depthAll xs)<cLine:=hu
    have e:=SeqAt.eqAt_reads x y A s _ _ _ _ r1 q1 ca'.1 cb'.1 (by (first|lia|omega))
    rw[Hg]at h
    by_cases he:PyData.eqv x y=true
    ·rw[if_pos he]at h
     rw[he]at e
     exact .eq e (Nk gt xs ys A s _ _ _ _ r r2 q2 ca'.2 cb'.2 (by (first|lia|omega)) h)
    ·rw[if_neg he]at h
     rw[fL _ |>.mp he]at e
     exact .ne e (A9i gt x y A s _ _ _ _ r r1 q1 ca'.1 cb'.1 (by (first|lia|omega)) h)
end
section
variable {X:Cx}{pins:y_}{σ:St}{H:Hp}{s:u_}
theorem Inv.recS     (I:Inv X (pins++(S,o)::pl) σ H s) (hS:X.s₀.heap.objs.size<=S) (hp:∀p∈pins++pl,p.1≠S) (hpn:∀p∈X.pn,p.1≠S)
 (hu:(s.heap.update S f).get? S=some o') (hd:∀v,o'.data≠.cell v):Inv X (pins++(S,o')::pl) σ H { s with heap:=s.heap.update S f }:=by
 obtain⟨p1,p2,p3,p4,p5⟩:=I.pin (S,o) (aC _ (aC _ a_))
 have I0:Inv X [] σ H s:=I.pins_of fun p hp=>nomatch hp
 have I1:Inv X [] σ H { s with heap:=s.heap.update S f }:=I0.turned (t':=s.toks) (fun b u hb e=>(Heap.get?_update_other s.heap f (aB hb)).trans e) p2 p3 (.inr hS) (fun x c e z=>by
  obtain⟨v,ob,ho,hdc⟩:=I.cell x c e
  rw[z,p1]at ho;cases ho;exact p5 v hdc) (fun p hp' z=>by
   have hp':p∈X.pn++[]:=hp';rw[bQ]at hp'
   exact hpn p hp' z)
 refine I1.pins_of fun p hpp=>?_
 have keep:∀p∈pins++pl,(s.heap.update S f).get? p.1=some p.2/\H p.1=none/\p.1≠X.env.locals/\p.1∉X.fs/\∀v,p.2.data≠.cell v:=fun p hpm=>by
  have hpm':p∈X.pn++(pins++(S,o)::pl):=aC _ (by
   rcases bx.mp hpm with z | z
   ·exact bz _ z
   ·exact aC _ (bw _ z))
  obtain⟨q1,q2,q3,q4,q5⟩:=I.pin p hpm';exact⟨(Heap.get?_update_other s.heap f (aB (hp p hpm))).trans q1,q2,q3,q4,q5⟩
 rcases bx.mp hpp with z | z
 ·exact keep p (bz _ z)
 ·rcases au.mp z with rfl | z
  ·exact⟨hu,p2,p3,p4,hd⟩
  ·exact keep p (aC _ z)
end
def A0u (H:Hp):V->Option Nat
 | .ref p=>match H p with
  | some (.lst xs)=>some xs.length
  | some (.tup xs)=>some xs.length
  | _=>none
 | .str z=>if z.length<=sizeLine then some z.length else none
 | _=>none
def rAppF:V->l_->Hp->VK->Prop:=fun x vs H Q=>∃l y xs,x=.ref l/\vs=[y]/\H l=some (.lst xs)/\xs.length<sizeLine/\Q .non (upd H l (.lst (xs++[y])))
def B0p (K:v9)(tl:TE):TI:=fun σ H R=>tl σ H fun x H1=>∃a,x=.ref a/\((∃xs,H1 a=some (.lst xs)/\R (Itl K a) H1)\/(∃xs,H1 a=some (.tup xs)/\R (Itt K a) H1))
section
variable {X:Cx}
theorem A2c:CallR X (.builtin "len") (fun xs H Q=>∃x n,xs=[x]/\A0u H x=some n/\Q (.int (n:Nat)) H):=by
 intro a s σ H xs us Q I r h;obtain⟨x,n,rfl,e,q⟩:=h
 refine Ab5 _ s _ H _ _ Q I r ⟨x,n,rfl,?_,q⟩
 cases x with
 | ref p =>
  have e:(match H p with | some (.lst _)=>some _ | some (.tup _)=>some _ | _=>none)=some n:=e
  cases hp:H p with
  | none=>simp_all
  | some o =>
   rw[hp]at e
   cases o with
   | lst xs=>cases e;exact .inl ⟨xs,SqL.of hp,rfl⟩
   | tup xs=>cases e;exact .inr ⟨xs,SqT.of hp,rfl⟩
   | _=>grind
 | str z =>
  have e:(if z.length<=sizeLine then some _ else none)=some n:=e
  split at e
  ·cases e;trivial
  trivial
 | _=>cases e
theorem Bh9:MtM X "list.append" rAppF:=by
 intro a s j H x k v m Q I e f h;obtain⟨l,y,d,c,g,i,b,q⟩:=h;exact A0m _ s _ H x _ v _ Q I e f ⟨l,d,y,c,g,i,b,q⟩
theorem Bu0   (hl:PE X l j):PI X u l (B0p X.K j):=by
 intro k s z H R I h
 refine thn (hl _ s _ H _ I h) fun v d ⟨x,m,c,r,f⟩=>?_
 obtain⟨a,e,f⟩:=f;subst e
 cases r
 rcases f with ⟨t,i,q⟩ | ⟨t,i,q⟩
 ·obtain⟨g,w,p,y⟩:=c.list (SqL.of i)
  refine wpAny_pyIter_list p.isList ?_
  refine⟨d.heap.objs.size,[d.heap.objs.size],_,_,m,rfl,c.kept  fun b o e=>Heap.get?_push_of_some _ e,A2d a _,⟨_,Heap.get?_push_size _ rfl,rfl,rfl⟩,fun b n=>?_,q⟩
  have e:b=d.heap.objs.size:=by grind
  subst e;exact c.fpOk (ak _) (c.hok.fresh (ak _))
 ·obtain⟨g,w,p,y⟩:=c.tuple (SqT.of i)
  refine wpAny_pyIter_tuple (show d.heap.IsTuple a _ from p) ?_
  refine⟨d.heap.objs.size,[d.heap.objs.size],_,_,m,rfl,c.kept  fun b o e=>Heap.get?_push_of_some _ e,An0 a _,⟨_,Heap.get?_push_size _ rfl,rfl,rfl⟩,fun b n=>?_,q⟩
  have e:b=d.heap.objs.size:=by grind
  subst e;exact c.fpOk (ak _) (c.hok.fresh (ak _))
def J3 (t:String):List String->Option Bool
 | []=>some false
 | T::r=>match Eg t T with
  | some true=>some true
  | some false=>J3 t r
  | none=>none
theorem T7 {K:v9}{t:String}:∀{Ts:List String}{b:Bool},J3 t Ts=some b->PySem.W.kitAny K (.type t) (Ts.map Value.type)=some b
 | [],b,h=>h
 | T::r,b,h=>by
  have h:(match Eg t T with | some true=>some true | some false=>J3 t r | none=>none)=some b:=h
  show (match PySem.W.kitOne K (.type t) (.type T) with | some true=>some true | some false=>PySem.W.kitAny K (.type t) (r.map Value.type) | none=>none)=some b
  cases e:Eg t T with
  | none=>rw[e]at h;cases h
  | some k =>
   rw[e]at h;rw[Ac8 e]
   cases k with
   | true=>exact h
   | false=>exact T7 h
theorem Ah2:∀{Ts:List String}{us:w6},Vals (Ts.map V.ty) us->us=Ts.map Value.type
 | [],_,.nil=>rfl
 | T::r,_,.cons h t=>by
  cases (show _=Value.type T from h)
  rw[Ah2 t]
  rfl
theorem A2p:CallR X (.builtin "isinstance") (fun xs H Q=>∃x p a t b,xs=[x,.ref p]/\H p=some (.tup (a.map V.ty))/\M6 H x=some t/\J3 t a=some b/\Q (.bl b) H):=by
 intro e s σ H xs us Q I r h;obtain⟨x,p,a,t,b,rfl,d,E,j,q⟩:=h;obtain⟨u,v,rfl,k,l⟩:=Vals.two r
 cases (l)
 obtain⟨z,m,w,o,y,A,⟨n,B⟩,C⟩:=I.hok p _ d;have D:=Ah2 w;subst D;obtain⟨F,dd,f,sl⟩:=o;subst A B
 have c:∀g,EP X _ _ Q _ { s with toks:=g }:=fun g=>⟨.bl b,H,I.tok _,rfl,q⟩
 obtain⟨d,z,p,i⟩:=A7z I k E;exact PySem.W.kia_tup z I.kIn p y (T7  j) i c
end
theorem B0w:bootBuiltins "len" = some (.builtin "len"):=by decide +kernel
theorem B0q:bootBuiltins "abs" = some (.builtin "abs"):=by decide +kernel
theorem Gz:bootBuiltins "isinstance" = some (.builtin "isinstance"):=by decide +kernel
theorem Bx1:bootBuiltins "all" = some (.builtin "all"):=by decide +kernel
theorem Br7:bootBuiltins "min" = some (.builtin "min"):=by decide +kernel
theorem Bw7:bootBuiltins "max" = some (.builtin "max"):=by decide +kernel
theorem Al0:bootBuiltins "int" = some (.type "int"):=by decide +kernel
theorem Pr:bootBuiltins "str" = some (.type "str"):=by decide +kernel
theorem Zo:bootBuiltins "bool" = some (.type "bool"):=by decide +kernel
theorem O5:bootBuiltins "list" = some (.type "list"):=by decide +kernel
theorem Ls:bootBuiltins "tuple" = some (.type "tuple"):=by decide +kernel
theorem Bk4:bootBuiltins "dict" = some (.type "dict"):=by decide +kernel
theorem Jx {X:Cx}{N':v4}{idx:o5}{scope:Scope}(h1:scope.kind=.function)(h2:(0:Nat)=0)(h3:(scope.names.map (·.1)).Nodup)
 (h4:(scope.names.all fun y=>decide (y.2≠.free)||decide (X.env.kindOf y.1=some .cell)||decide (X.env.kindOf y.1=some .free))=true) (h5:idx.length=N'.length)
 (h6:((idx.zip N').all fun p=>match p.1 with | none=>true | some i=>decide (X.N[i]?=some p.2)&&decide (scope.names.lookup p.2=some .free))=true):Hd X N' idx scope where
 kind:=h1
 nod:=h3
 free:=fun y hy hf=>by
  have h:=aU.mp h4 y hy;simp only[Bool.or_eq_true,cV]at h
  rcases h with (h | h) | h
  ·exact absurd hf h
  ·exact .inl h
  ·exact .inr h
 len:=h5
 at':=fun j i x e1 e2=>by
  have hz:(some i,x)∈idx.zip N':=by
   have:(idx.zip N')[j]?=some (some i,x):=by simp[List.getElem?_zip_eq_some,e1,e2]
   exact bA this
  have h:=aU.mp h6 _ hz;simp only[aO,cV]at h;exact h
def Tv:Expr->Option V
 | .Constant (.int i) _ _=>some (.int i)
 | .Constant (.str x) _ _=>some (.str x)
 | .Constant (.bool b) _ _=>some (.bl b)
 | .Constant .none _ _=>some .non
 | _=>none
def Oe:v_->Option (l_)
 | []=>some []
 | e::es=>match Tv e,Oe es with
  | some v,some vs=>some (v::vs)
  | _,_=>none
def tK (vs:l_):TA:=fun _ H Q=>Q vs H
theorem A8o    (h:Tv e=some v):PE X e (tC v)/\∀es,starEach (e::es) X.env=(false,eval e X.env)::starEach es X.env:=by
 unfold Tv at h
 split at h <;> first
  | (cases h;exact⟨A8x,fun _=>rfl⟩)
  | (cases h;exact⟨A8r,fun _=>rfl⟩)
  | (cases h;exact⟨Bl8,fun _=>rfl⟩)
  | (cases h;exact⟨A6z,fun _=>rfl⟩)
  | cases h
theorem V6 {X:Cx}:∀{es:v_}{vs:l_},Oe es=some vs->PA X es (tK vs)
 | [],vs,h=>by cases h;exact Xd
 | e::es,vs,h=>by
  have h:(match Tv e,Oe es with | some v,some vs=>some (v::vs) | _,_=>none)=some vs:=h
  cases e1:Tv e with
  | none=>rw[e1]at h;cases h
  | some v =>
   cases e2:Oe es with
   | none=>rw[e1,e2]at h;cases h
   | some r =>
    rw[e1,e2]at h
    cases h
    obtain⟨p1,p2⟩:=A8o (X:=X) e1;exact Aw9 p1 (V6 e2) (p2 es)
def isStar:Expr->Bool
 | .Starred ..=>true
 | _=>false
def noStar:v_->Bool
 | []=>true
 | e::es=>!isStar e&&noStar es
theorem Et    (h:isStar e=false):starEach (e::es) env=(false,eval e env)::starEach es env:=by
 cases e <;> first | rfl | cases h
theorem Ie {pos:Pos}{env:Env}:∀{es:v_},noStar es=true->(backTo pos (starEach es env)).any (·.1)=false
 | [],_=>rfl
 | e::es,h=>by
  obtain⟨h1,h2⟩:=aq.mp h
  rw[Et (by simpa using h1)]
  show (false||(backTo pos (starEach es env)).any (·.1))=false
  rw[Ie h2]
  rfl
theorem Ei   (h:noStar (e::es)=true):isStar e=false/\noStar es=true:=by
 obtain⟨b,a⟩:=aq.mp h
 simp_all
section
variable {X:Cx}{CX:CXT}{k:Nat}{f:Addr}{fd:u5}{ps:v4}{sp:Sp}{dvs:l_}{ds:w6}{E:XK}{x:Str}{p pos:Pos}{e:Expr}{es:v_}{te:TE}{t:TA}{id T:String}{r:l_->Hp->VK->Prop}
theorem Bv2 (ha:PE X e te)(hr:PA X es t)(hs:isStar e=false:=by rfl):PA X (e::es) (Ca te t):=Aw9 ha hr (Et hs)
theorem A3v (F:FnOk X.prog X.w X.K X.mg X.base CX k f fd ps sp)(hr:Room k X.A)(hg:Gl X x)(hm:X.mg x=some (.ref f))(hk:PySem.W.keepIn X.K (.ref f)=true)(hb:Binds X.K fd ps ds)(hd:Vals dvs ds)(hx:Pz CX X E)
 (ha:PA X (e::es) t) (hdb:(x==("__debug__" : Str))=false:=by decide) (hn:noStar (e::es)=true:=by rfl):PE X (.Call (.Name x p) (e::es) [] pos) (Qx sp dvs E t) :=
 Bb0 F hr hg hm hk hb hd hx ha hdb (Et (Ei hn).1) (Ie (Ei hn).2)
theorem Eo (hc:CallR X (.builtin id) r)(hg:Gl X x)(hm:X.mg x=none)(hv:bootBuiltins x=some (.builtin id))(ha:PA X (e::es) t)(hn:x ≠ "__name__" := by decide) (hdb:(x==("__debug__" : Str))=false:=by decide)
 (hns:noStar (e::es)=true:=by rfl):PE X (.Call (.Name x p) (e::es) [] pos) (tCB r t):=A4l hc hg hm hv ha hn hdb (Et (Ei hns).1) (Ie (Ei hns).2)
theorem Kr (hc:CallR X (.type T) r)(hg:Gl X x)(hm:X.mg x=none)(hv:bootBuiltins x=some (.type T))(ha:PA X (e::es) t)(hn:x ≠ "__name__" := by decide) (hdb:(x==("__debug__" : Str))=false:=by decide)
 (hns:noStar (e::es)=true:=by rfl):PE X (.Call (.Name x p) (e::es) [] pos) (tCB r t):=A1h hc hg hm hv ha hn hdb (Et (Ei hns).1) (Ie (Ei hns).2)
end
section
variable {X:Cx}{a b e:Expr}{es:v_}{ta tb te:TE}{t:TA}{p pos apos cpos:Pos}{p2:Pos}
theorem Dm   {b:List Keyword}{a:Pos}:Jy (.Call f args b a):=fun _ _=>rfl
theorem Gx  {a:Pos}:Jy (.Name x a):=fun _ _=>rfl
theorem Ba   {a:Pos}:Jy (.Constant (.int i) j a):=fun _ _=>rfl
theorem Ay6   : Jy (.Subscript a b c):=fun _ _=>rfl
theorem Az5 (ha:PE X a ta)(hb:PE X b tb):PE X (.BinOp a .Sub b pos) (tOp (rI0 fun i j=>.int (i-j)) ta tb):=Wt Bw9 ha hb
theorem Ax7 (ha:PE X a ta)(hb:PE X b tb):PE X (.BinOp a .Mult b pos) (tOp (rI CMul fun i j=>.int (i*j)) ta tb):=Wt Bz1 ha hb
theorem An5 (ha:PE X a ta)(hb:PE X b tb):PE X (.BinOp a .FloorDiv b pos) (tOp (rI A8i fun i j=>.int (i / j)) ta tb):=Wt Ba3 ha hb
theorem A2e (ha:PE X a ta)(hb:PE X b tb):PE X (.BinOp a .Mod b pos) (tOp (rI (fun _ j=>0<j) fun i j=>.int (i % j)) ta tb):=Wt B0v ha hb
theorem A1b (ha:PE X a ta)(hb:PE X b tb):PE X (.BinOp a .Pow b pos) (tOp (rI A4g fun i j=>.int (i ^ j.toNat)) ta tb):=Wt B0o ha hb
def B3y:R2:=fun x y H Q=>∃da db,Tr H da x/\Tr H db y/\Flat da/\Flat db/\Q (.bl (PyData.eqv da db)) H
def B3t:R2:=fun x y H Q=>∃da db,Tr H da x/\Tr H db y/\Flat da/\Flat db/\Q (.bl (!PyData.eqv da db)) H
theorem A3i (ha:PE X a ta)(hb:PE X b tb):PT X (.Compare a [.Lt] [b] pos) (Kw (tOp (rI0 fun i j=>.bl (decide (i<j))) ta tb)):=Mq B2y ha hb (Lw _)
theorem A6j (ha:PE X a ta)(hb:PE X b tb):PT X (.Compare a [.Gt] [b] pos) (Kw (tOp (rI0 fun i j=>.bl (decide (j<i))) ta tb)):=Mq B2c ha hb (Lw _)
theorem A2x (ha:PE X a ta)(hb:PE X b tb):PE X (.Compare a [.GtE] [b] pos) (tOp (rI0 fun i j=>.bl (decide (j<=i))) ta tb):=Y5 B2q ha hb (Lw _)
theorem A1u (ha:PE X a ta)(hb:PE X b tb):PT X (.Compare a [.Is] [b] pos) (Kw (tOp (fun x y H Q=>y=.non/\Q (.bl (decide (x=.non))) H) ta tb)):=Mq Bv8 ha hb (Lw _)
theorem Ap2 (ha:PE X a ta)(hb:PE X b tb):PE X (.Compare a [.IsNot] [b] pos) (tOp (fun x y H Q=>y=.non/\Q (.bl (!decide (x=.non))) H) ta tb):=Y5 (Bd2) ha hb (Lw _)
def Rf (K:v9):l_->Hp->VK->Prop:=fun xs H Q=>∃x n,xs=[x]/\A0u H x=some n/\Q (.int (n:Nat)) H
def Ak7 (K:v9):l_->Hp->VK->Prop:=fun xs H Q=>∃x n,xs=[x]/\B1i K x H n/\Q (.int n) H
def Ny (K:v9):l_->Hp->VK->Prop:=fun xs H Q=>∃i,xs=[.int i]/\Q (.int (if i<0 then -i else i)) H
theorem Ad5 (hgl:Gl X "abs") (hm:X.mg "abs" = none) (ha:PA X (e::es) t) (hns:noStar (e::es)=true:=by rfl):PE X (.Call (.Name "abs" p) (e::es) [] pos) (tCB (Ny X.K) t):=Eo A7h hgl hm B0q ha (by decide) (by rfl) hns
def M9 (K:v9):l_->Hp->VK->Prop:=fun xs H Q=>∃x T t b,xs=[x,.ty T]/\M6 H x=some t/\Eg t T=some b/\Q (.bl b) H
theorem Aa5 (hgl:Gl X "isinstance") (hm:X.mg "isinstance" = none) (ha:PA X (e::es) t) (hns:noStar (e::es)=true:=by rfl):PE X (.Call (.Name "isinstance" p) (e::es) [] pos) (tCB (M9 X.K) t):=Eo A5t hgl hm Gz ha (by decide) (by rfl) hns
def Ik (K:v9):l_->Hp->VK->Prop:=fun xs H Q=>∃x p Ts t b,xs=[x,.ref p]/\H p=some (.tup (Ts.map V.ty))/\M6 H x=some t/\J3 t Ts=some b/\Q (.bl b) H
theorem Xy (hgl:Gl X "isinstance") (hm:X.mg "isinstance" = none) (ha:PA X (e::es) t) (hns:noStar (e::es)=true:=by rfl):PE X (.Call (.Name "isinstance" p) (e::es) [] pos) (tCB (Ik X.K) t):=Eo A2p hgl hm Gz ha (by decide) (by rfl) hns
def Le (K:v9):l_->Hp->VK->Prop:=fun xs H Q=>∃(a:Addr) (bs:List Bool),xs=[.ref a]/\SqL K H a (bs.map V.bl)/\Q (.bl (bs.all id)) H
theorem Xm (hc:X.calm=true)(hgl:Gl X "all") (hm:X.mg "all" = none) (ha:PA X (e::es) t) (hns:noStar (e::es)=true:=by rfl):PE X (.Call (.Name "all" p) (e::es) [] pos) (tCB (Le X.K) t):=Eo (A2b hc) hgl hm Bx1 ha (by decide) (by rfl) hns
def Li (K:v9):l_->Hp->VK->Prop:=fun xs H Q=>(∃i,xs=[.int i]/\Q (.int i) H)\/∃k,xs=[.bl k]/\Q (.int (if k then 1 else 0)) H
theorem Y9 (hgl:Gl X "int") (hm:X.mg "int" = none) (ha:PA X (e::es) t) (hns:noStar (e::es)=true:=by rfl):PE X (.Call (.Name "int" p) (e::es) [] pos) (tCB (Li X.K) t):=Kr Az0 hgl hm Al0 ha (by decide) (by rfl) hns
def Tf (K:v9):l_->Hp->VK->Prop:=fun xs H Q=>∃i:Int,xs=[.int i]/\i.natAbs.log2<1920/\Q (.str (toString i)) H
def Ad1 (K:v9):l_->Hp->VK->Prop:=fun xs H Q=>∃a d,xs=[.ref a]/\Tr H d (.ref a)/\d.showable=true/\d.hasDict=false/\d.depth<=40/\d.shown.length<=sizeLine/\Q (.str d.shown) H
def G8 (K:v9):l_->Hp->VK->Prop:=fun xs H Q=>∃p ys,xs=[.ref p]/\((SqL K H p ys/\∀l,H l=none->Q (.ref l) (upd H l (.tup ys)))\/(SqT K H p ys/\Q (.ref p) H))
theorem Qm (hgl:Gl X "tuple") (hm:X.mg "tuple" = none) (ha:PA X (e::es) t) (hns:noStar (e::es)=true:=by rfl):PE X (.Call (.Name "tuple" p) (e::es) [] pos) (tCB (G8 X.K) t):=Kr Vo hgl hm Ls ha (by decide) (by rfl) hns
def Hy (K:v9):l_->Hp->VK->Prop:=fun xs H Q=>∃p ys,xs=[.ref p]/\(SqL K H p ys\/SqT K H p ys)/\∀l,H l=none->Q (.ref l) (upd H l (.lst ys))
theorem Rq (hgl:Gl X "list") (hm:X.mg "list" = none) (ha:PA X (e::es) t) (hns:noStar (e::es)=true:=by rfl):PE X (.Call (.Name "list" p) (e::es) [] pos) (tCB (Hy X.K) t):=Kr Xl hgl hm O5 ha (by decide) (by rfl) hns
def K1 (K:v9):l_->Hp->VK->Prop:=fun xs H Q=>∃i j,xs=[.int i,.int j]/\Q (.int (if j<i then j else i)) H
theorem Zm (hc:X.calm=true)(hgl:Gl X "min") (hm:X.mg "min" = none) (ha:PA X (e::es) t) (hns:noStar (e::es)=true:=by rfl):PE X (.Call (.Name "min" p) (e::es) [] pos) (tCB (K1 X.K) t):=Eo (Ay7 hc) hgl hm Br7 ha (by decide) (by rfl) hns
theorem A0n (ho:PE X a ta)(hv:PE X e te)(hbase:attributeBase a "append" X.env (eval a X.env)=eval a X.env:=by rfl)
 (hfew:((backTo cpos (starEach [e] X.env)).all (fun x=>!x.1)&&(backToKw cpos (keywordEach [] X.env)).all (fun x=>x.1.isSome)
  && decide ([e].length+([]:List Keyword).length+(if ([]:List Keyword).isEmpty then 0 else 1)<30))=true:=by rfl)
 (hline:(apos.endLine==cpos.line)=true:=by rfl) (hns:isStar e=false:=by rfl) :
 PE X (.Call (.Attribute a "append" apos) [e] [] cpos) (tBM X.K "list" rAppF ta (Ca te Fl)) :=
 Bl3 dw PySem.F.slot_list_append PySem.F.type_list_append Bh9 ho (Bv2 hv Xd hns) hbase hfew hline (Et hns) rfl
end
def Rt {α:Type}[DecidableEq α](ks:List α)(k:α):Bool:=ks.any fun x=>decide (x=k)
theorem memB_snoc  [DecidableEq b] {ks:List b}{k a:b}:Rt (ks++[k]) a=(Rt ks a||decide (a=k)):=by
 unfold Rt
 grind
def Ae0 {α:Type}[DecidableEq α](acc:List α)(x:α):List α:=if Rt acc x=true then acc else acc++[x]
def dst {α:Type}[DecidableEq α](xs:List α):List α:=xs.foldl Ae0 []
theorem Zv  [DecidableEq a] (xs:List a) (x:a):dst (xs++[x])=Ae0 (dst xs) x:=by
 unfold dst;grind
theorem Ar9 {α:Type}[DecidableEq α]:∀(n:Nat) (xs:List α),xs.length=n->(dst xs).length<=n
 | 0,xs,h=>by cases xs with | nil=>exact ak _ | cons a r=>cases h
 | n+1,xs,h=>by
  rcases List.eq_nil_or_concat xs with rfl | ⟨ys,y,rfl⟩
  ·cases h
  ·rw[List.concat_eq_append]at h ⊢
   have hy:ys.length=n:=by simpa using h
   have ih:=Ar9 n ys hy;rw[Zv];unfold Ae0;split
   ·(first|lia|omega)
   ·simp;(first|lia|omega)
def Ah9 (P:u6)(w:World)(a:Addr)(ks:List Key)(h:Heap):Prop:=h.SetOf (Es P w) a (Rt ks) ks.length
theorem Wc      (hs:Ah9 P w a ks h) (k:∀o,h.get? a=some o->h'.get? a=some o):Ah9 P w a ks h':=by
 obtain⟨o,c,d,t,e,b⟩:=hs;exact⟨o,c,d,t,k o e,b⟩
theorem Ay3      
 (x:h.SetOf (Es P w) a (fun b=>Rt ks b||decide (b=k)) (if Rt ks k then ks.length else ks.length+1)):Ah9 P w a (Ae0 ks k) h:=by
 unfold Ah9 Ae0
 by_cases hk:Rt ks k=true
 ·have e:(fun b=>Rt ks b||decide (b=k))=Rt ks:=by
   grind
  simp_all
 ·have e:(fun b=>Rt ks b||decide (b=k))=Rt (ks++[k]):=by
   funext b
   exact memB_snoc.symm
  simp_all
section
variable {P:u6}{w:World}{A:q_}
theorem fill        (W:WalksS P w A.in1 J fp h j n Pv E) (p:S∉fp)
 (ks:List Key) (g:ks.length=n) (is:∀i v,Pv i v->∃k,ks[i]?=some k/\S6 k v=true/\v.scannable=true) (Q:n+1<scanBound) (z:u_)
 (G:∀s,Moved (S::h) j z s->Ah9 P w S (dst ks) s.heap->R (.ok (.ret .none)) s) :
 ∀(m i:Nat) (s:u_),i+m=n->E i s->Moved (S::h) j z s->Ah9 P w S (dst (ks.take i)) s.heap->codeAny (model P w) A (.builtin "set.update.loop" ⟨[.ref S,.ref J],[]⟩) R s:=by
 have c:S∉h:=fun q=>p (W.sub S q)
 have f:∀b,b∈h->b∈S::h:=fun b q=>.tail _ q
 intro m
 induction m with
 | zero =>
  intro i s e K D r;have e:i=n:=e;subst e;apply codeAny_builtin fZ;rw[Around.under_plainId fM _];apply wpAny_bind (m:=pyNext (.ref J));apply W.done s _ _ K;intro d a;apply wpAny_pure
  refine G d (Moved.trans W.gtrans D (a.mono f)) ?_
  have t:ks.take i=ks:=by rw[<- g];exact fO
  rw[t]at r
  exact Wc r fun o q=>a.heap S o c q
 | succ m ih =>
  intro i s e K D r
  have V:i<n:=by (first|lia|omega)
  apply codeAny_builtin fZ;rw[Around.under_plainId fM _];apply wpAny_bind (m:=pyNext (.ref J));apply W.item i s _ _ V K;intro v d Z F a;obtain⟨k,U,O,X⟩:=is i v Z;have H:Moved (S::h) j z d:=Moved.trans W.gtrans D (a.mono f)
  show wpAny _ A.in1 (holding [v] (setAdd S v) >>= _) _ _ d
  apply wpAny_bind;apply wpAny_holding;unfold setAdd;apply wpAny_holding;apply wpAny_bind
  refine (Es P w).pyHash (k:=k) O ?_
  have l:(dst (ks.take i)).length+1<scanBound:=by
   have:=Ar9 _ (ks.take i) rfl
   have:(ks.take i).length<=n:=by rw[<- g];exact List.length_take_le' _ _
   (first|lia|omega)
  have tk:ks.take (i+1)=ks.take i++[k]:=by rw[List.take_add_one,U];rfl
  have T:∀(B:Nat),d.toks<=B->wpAny (model P w) A.in1 (setAddHashed S v ((Es P w).hash k)) (fun _ u=>Moved (S::h) j z u/\Ah9 P w S (dst (ks.take (i+1))) u.heap/\E (i+1) u) (fun _ _=>False) { d with toks:=B }:=by
   intro B N
   refine wpAny_setAddHashed_of (knd:=Es P w) (s:={ d with toks:=B }) O X (Wc r fun o q=>a.heap S o c q) l fun Y M so=>?_
   refine⟨Moved.then_heap H N fun b o q x=>?_,?_,W.frame (i+1) d Y _ F N fun b q o x=>?_⟩
   ·rw[M.2 b fun y=>q (y▸.head _)];exact x
   ·rw[tk,Zv];exact Ay3 so
   ·rw[M.2 b fun y=>p (y▸q)];exact x
  refine wpAny_mono (T _ (cL _)) (fun b u y=>?_) fun _ _ q=>q.elim
  obtain⟨I,L,C⟩:=y
  exact wpAny_pure ⟨plainId_quiet fM _,ih _ _ (by (first|lia|omega)) C I L⟩
abbrev bare (led:Bool):Obj:={ cls:=.type "set",dict:=none,data:=.set #[] 0 (.fresh 0 0 led) }
end
section
variable {P:u6}{w:World}{A:q_}{E:z_}{s:u_}
theorem Qu    (a:s.heap.IsTupleIter j u k)
 (body:wpAny (model P w) A.in1 (Builtin.«tuple_iterator.__next__» ⟨[.ref j],[]⟩) (fun f z=>∃v,f=.done (.ret v)/\Q v z) E s) :
 wpAny (model P w) A (Builtin.SmallTypes.nextOf (.ref j)) Q E s:=by
 apply wpAny_bind
 refine wpAny_callSpecial?_slot  a.typeIs F.slot_tuple_iterator_next ?_
 refine wpAny_call_entry F.slot_tuple_iterator_next a.typeIs F.entry_tuple_iterator_next ?_ (F.args_tuple_iterator_next_1 _)
 refine wpAny_mono body (fun f z c=>?_) fun _ _ q=>q
 obtain⟨v,b,q⟩:=c;exact⟨v,b,wpAny_pure q⟩
theorem Ao5      (c:s.heap.IsTupleIter j u k) (g:s.heap.IsTuple u vs) (hx:vs[k]?=some x)
 (q:∀h',h'.IsTupleIter j u (k+1)->Heap.SameBut j s.heap h'->Q x { s with heap:=h' }):wpAny (model P w) A (Builtin.SmallTypes.nextOf (.ref j)) Q E s:=by
 refine Qu c ?_
 obtain⟨o,d,f,b⟩:=c;obtain⟨i,h,_,n,e⟩:=g;apply wpAny_bind (m:=field _ 0);apply wpAny_field d b  rfl;apply wpAny_bind ;apply wpAny_field d b  rfl;apply wpAny_bind ;apply wpAny_seqItems h e;simp only[hx,cP];apply wpAny_bind
 apply wpAny_setField d b (by simp)
 apply wpAny_pure
 refine⟨x,rfl,q _ ⟨_,(Heap.get?_update_self (Obj.mapFields fun a=>a.setIfInBounds 1 (rawInt (k+1))) d (Obj.isFreed_of_fields (Obj.data_mapFields b _))),(Obj.cls_mapFields ..).trans f,?_⟩ (Heap.SameBut.update ..)⟩
 rw[Obj.data_mapFields b]
 trivial
theorem A2h     (c:A.handled=none) (d:s.heap.IsTupleIter j u k) (h:s.heap.IsTuple u vs) (hx:vs[k]?=none)
 (q:∀h' e,Heap.ExtBut j s.heap h'->(∃o,h'.get? e=some o/\o.cls=.type "StopIteration")->E (.ref e) { s with heap:=h' }):wpAny (model P w) A (Builtin.SmallTypes.nextOf (.ref j)) Q E s:=by
 refine Qu d ?_
 obtain⟨o,f,r,g⟩:=d;obtain⟨t,i,_,n,l⟩:=h;apply wpAny_bind (m:=field (.ref j) 0);apply wpAny_field f g (x:=.ref u) rfl;have p:¬ ((Value.ref u==Value.none)=true):=bj
 show wpAny _ _ (if (Value.ref u==.none)=true then _ else _) _ _ _
 rw[if_neg p];apply wpAny_bind (m:=field (.ref j) 1);apply wpAny_field f g (x:=.int k 0) rfl;apply wpAny_bind (m:=seqItems? (.ref u));apply wpAny_seqItems i l;simp only[hx,cP];apply wpAny_bind;apply wpAny_rule;apply wpAny_bind
 apply wpAny_setField f g (by simp)
 apply wpAny_bind (m:=newExc (.type "StopIteration") []);unfold newExc newTuple;apply wpAny_bind
 refine wpAny_newObj_type ?_ (by size_fits )
 apply wpAny_bind (m:=firstArgMember _ _)
 refine wpAny_of_eq (a:=Value.none) (by simp only[firstArgMember];rfl) ?_
 refine wpAny_newObj_type ?_ (by size_fits )
 unfold raiseNew;apply wpAny_bind;apply wpAny_handled;have b:A.in1.handled=none:=c;rw[b]
 refine wpAny_bind (wpAny_pure ?_)
 apply wpAny_throw;exact q _ _ (((Heap.SameBut.update ..).extBut.push _).push _) ⟨_,Heap.get?_push_size _ rfl,rfl⟩
def ItAt (t:Bool)(h:Heap)(j u:Addr)(k:Nat):Prop:=match t with
 | true=>h.IsTupleIter j u k
 | false=>h.IsListIter j u k
def SqA (t:Bool)(h:Heap)(u:Addr)(vs:v7):Prop:=match t with
 | true=>h.IsTuple u vs
 | false=>h.IsList u vs
theorem ItAt.stay     (x:ItAt t h j u k) (q:∀o,h.get? j=some o->h'.get? j=some o):ItAt t h' j u k:=by
 cases t <;> (obtain⟨o,e,r⟩:=x;exact⟨o,q o e,r⟩)
theorem ItAt.obj     (x:ItAt t h j u k):∃o,h.get? j=some o/\o.data=.fields #[.ref u,.int k 0]:=by
 cases t <;> (obtain⟨o,e,_,r⟩:=x;grind)
theorem SqA.stay     (x:SqA t h u vs) (q:∀o,h.get? u=some o->h'.get? u=some o):SqA t h' u vs:=by
 cases t <;> (obtain⟨o,e,r⟩:=x;exact⟨o,q o e,r⟩)
theorem next_item       (a:ItAt t s.heap j u k) (b:SqA t s.heap u vs) (hx:vs[k]?=some x)
 (q:∀h',ItAt t h' j u (k+1)->Heap.SameBut j s.heap h'->Q x { s with heap:=h' }):wpAny (model P w) A (Builtin.SmallTypes.nextOf (.ref j)) Q E s:=by
 cases t
 ·exact wpAny_nextOf_list_item a b hx q
 ·exact Ao5 a b hx q
theorem next_end      (c:A.handled=none) (a:ItAt t s.heap j u k) (b:SqA t s.heap u vs) (hx:vs[k]?=none)
 (q:∀h' e,Heap.ExtBut j s.heap h'->(∃o,h'.get? e=some o/\o.cls=.type "StopIteration")->E (.ref e) { s with heap:=h' }):wpAny (model P w) A (Builtin.SmallTypes.nextOf (.ref j)) Q E s:=by
 cases t
 ·exact wpAny_nextOf_list_end c a b hx q
 ·exact A2h c a b hx q
structure Zx (h:Heap) (t1 t2:Bool) (z ti to i1 i2 a b:Addr) (f0:Value) (k:Nat):Prop where
 zip:IsZip h z ti to f0
 ins:IsPair h ti (.ref i1) (.ref i2)
 outs:∃u v,IsPair h to u v
 one:ItAt t1 h i1 a k
 two:ItAt t2 h i2 b k
structure zA (z ti to i1 i2 a b:Addr):Prop where
 nd:[z,ti,to,i1,i2].Nodup
 na:a∉[z,ti,to,i1,i2]
 nb:b∉[z,ti,to,i1,i2]
theorem zA.z_ti (x:zA z ti to i1 i2 a b):ti≠z:=by have:=x.nd;grind
theorem zA.z_to (x:zA z ti to i1 i2 a b):to≠z:=by have:=x.nd;grind
theorem zA.z_i1 (x:zA z ti to i1 i2 a b):i1≠z:=by have:=x.nd;grind
theorem zA.z_i2 (x:zA z ti to i1 i2 a b):i2≠z:=by have:=x.nd;grind
theorem zA.to_i1 (x:zA z ti to i1 i2 a b):to≠i1:=by have:=x.nd;simp_all
theorem zA.to_i2 (x:zA z ti to i1 i2 a b):to≠i2:=by have:=x.nd;simp_all
theorem zA.i1_i2 (x:zA z ti to i1 i2 a b):i1≠i2:=by have:=x.nd;simp_all
theorem zA.ti_to (x:zA z ti to i1 i2 a b):ti≠to:=by have:=x.nd;simp_all
theorem zA.ti_i1 (x:zA z ti to i1 i2 a b):ti≠i1:=by have:=x.nd;simp_all
theorem zA.ti_i2 (x:zA z ti to i1 i2 a b):ti≠i2:=by have:=x.nd;simp_all
theorem A5l      {Q:z_}(d:zA z j h r t a b) (y:Zx s.heap t1 t2 z j h r t a b .none k)
 (ha:SqA t1 s.heap a xs) (hb:SqA t2 s.heap b ys) (hx:xs[k]?=some x) (O:ys[k]?=some x')
 (q:∀h',Zx h' t1 t2 z j h r t a b (rawInt s.heap.objs.size) (k+1)->IsPair h' s.heap.objs.size x x'->(∀c o,c∉[z,j,h,r,t]->s.heap.get? c=some o->h'.get? c=some o)->Q (.ref s.heap.objs.size) { s with heap:=h' }) :
 wpAny (model P w) A (Builtin.«zip.__next__» ⟨[.ref z],[]⟩) (fun f z=>∃v,f=.done (.ret v)/\Q v z) E s:=by
 obtain⟨u0,N,o0⟩:=y.outs;have S:=d.na;have I:=d.nb;simp only[au,bf,bB,not_or]at S I;apply wpAny_bind (m:=field (.ref z) 2);apply wpAny_field y.zip rfl (x:=.bool false) rfl;apply wpAny_bind (m:=field (.ref z) 3);apply wpAny_field y.zip rfl (x:=.ref j) rfl;apply wpAny_bind;apply wpAny_seqItems y.ins rfl;apply wpAny_bind (m:=Builtin.SmallTypes.ownedTupleIsFree (.ref z));unfold Builtin.SmallTypes.ownedTupleIsFree;apply wpAny_bind;apply wpAny_field y.zip rfl (x:=.none) rfl;apply wpAny_pure;simp only[cA];apply wpAny_bind;apply wpAny_rule;apply wpAny_bind;apply wpAny_field y.zip rfl (x:=.ref h) rfl;apply wpAny_bind
 apply wpAny_setField_rec y.zip (by simp)
 intro g1 L n;have L:IsZip g1 z j h .ellipsis:=L;apply wpAny_bind;simp only[List.zipIdx_cons,List.zipIdx_nil,dq,List.forIn_nil];apply wpAny_bind;apply wpAny_bind;apply wpAny_onRaise;apply wpAny_bind (m:=Builtin.SmallTypes.nextOf (.ref r))
 refine next_item (y.one.stay fun o e=>n.extBut _ _ d.z_i1 e) (ha.stay fun o e=>n.extBut _ _ S.1 e) hx fun g2 n1 u=>?_
 apply wpAny_pure;have V:IsPair g2 h u0 N:=u.extBut _ _ d.to_i1 (n.extBut _ _ d.z_to o0);apply wpAny_bind;apply wpAny_seqItems V rfl;apply wpAny_bind;apply wpAny_updateSeq_pair V;intro g3 R B;have R:IsPair g3 h x N:=R;apply wpAny_bind;apply wpAny_letGo;apply wpAny_pure;apply wpAny_bind;apply wpAny_bind;apply wpAny_onRaise;apply wpAny_bind (m:=Builtin.SmallTypes.nextOf (.ref t))
 refine next_item (y.two.stay fun o e=>B.extBut _ _ d.to_i2.symm (u.extBut _ _ d.i1_i2.symm (n.extBut _ _ d.z_i2 e))) (hb.stay fun o e=>B.extBut _ _ I.2.2.1 (u.extBut _ _ I.2.2.2.1 (n.extBut _ _ I.1 e))) O fun g4 n2 D=>?_
 apply wpAny_pure;have U:IsPair g4 h x N:=D.extBut _ _ d.to_i2 R;apply wpAny_bind;apply wpAny_seqItems U rfl;apply wpAny_bind;apply wpAny_updateSeq_pair U;intro i K F;have K:IsPair i h x x':=K;apply wpAny_bind;apply wpAny_letGo;apply wpAny_pure;apply wpAny_pure;apply wpAny_bind;apply wpAny_seqItems K rfl;apply wpAny_bind
 refine wpAny_newTuple ?_
 have W:i.objs.size=s.heap.objs.size:=by rw[F.1,D.1,B.1,u.1,n.1]
 have l:∀c o,c≠z->c≠h->c≠r->c≠t->s.heap.get? c=some o->i.get? c=some o:=fun c o p1 T p3 p4 e=>F.extBut _ _ T (D.extBut _ _ p4 (B.extBut _ _ T (u.extBut _ _ p3 (n.extBut _ _ p1 e))))
 have Y:IsZip i z j h .ellipsis:=F.extBut _ _ d.z_to.symm (D.extBut _ _ d.z_i2.symm (B.extBut _ _ d.z_to.symm (u.extBut _ _ d.z_i1.symm L)))
 have m1:ItAt t1 i r a (k+1):=n1.stay fun o e=>F.extBut _ _ d.to_i1.symm (D.extBut _ _ d.i1_i2 (B.extBut _ _ d.to_i1.symm e))
 have m2:ItAt t2 i t b (k+1):=n2.stay fun o e=>F.extBut _ _ d.to_i2.symm e
 apply wpAny_bind (m:=Builtin.SmallTypes.ownedTupleHandOut (.ref z) (.ref i.objs.size));unfold Builtin.SmallTypes.ownedTupleHandOut;have z6:IsZip (i.push { cls:=.type "tuple",data:=.seq #[x,x'] }) z j h .ellipsis:=Heap.get?_push_of_some _ Y;apply wpAny_bind
 apply wpAny_setField_rec z6 (by simp)
 intro g7 M X;have M:IsZip g7 z j h (rawInt i.objs.size):=M
 apply wpAny_setField_rec M (by simp)
 intro H J Z;have J:IsZip H z j h (rawInt i.objs.size):=J
 have g:∀c o,c≠z->i.get? c=some o->H.get? c=some o:=fun c o p e=>Z.extBut _ _ p (X.extBut _ _ p (Heap.get?_push_of_some _ e))
 have G:z<i.objs.size:=Heap.lt_size Y;have C:IsPair H i.objs.size x x':=Z.extBut _ _ (bH G) (X.extBut _ _ (bH G) (Heap.get?_push_size _ rfl));rw[W]at J C;apply wpAny_pure
 refine⟨_,rfl,?_⟩
 show Q (.ref i.objs.size) _
 rw[W]
 refine q H ⟨J,g _ _ d.z_ti (l _ _ d.z_ti d.ti_to d.ti_i1 d.ti_i2 y.ins),⟨x,x',g _ _ d.z_to K⟩,m1.stay fun o e=>g _ _ d.z_i1 e,m2.stay fun o e=>g _ _ d.z_i2 e⟩ C fun c o p e=>?_
 simp  at p
 exact g c o p.1 (l c o p.1 p.2.2.1 p.2.2.2.1 p.2.2.2.2 e)
theorem A6u      (f:A.handled=none) (d:zA z l j v C a b) (y:Zx s.heap t1 t2 z l j v C a b .none k)
 (ha:SqA t1 s.heap a xs) (hb:SqA t2 s.heap b ys) (hx:xs[k]?=none\/ys[k]?=none)
 (q:∀h' e,(∀c o,c∉[z,l,j,v,C]->s.heap.get? c=some o->h'.get? c=some o)->(∃o,h'.get? e=some o/\o.cls=.type "StopIteration")->E (.ref e) { s with heap:=h' }) :
 wpAny (model P w) A (Builtin.«zip.__next__» ⟨[.ref z],[]⟩) F E s:=by
 obtain⟨T,V,S⟩:=y.outs;have I:=d.na;have B:=d.nb;simp only[au,bf,bB,not_or]at I B;apply wpAny_bind (m:=field (.ref z) 2);apply wpAny_field y.zip rfl (x:=.bool false) rfl;apply wpAny_bind (m:=field (.ref z) 3);apply wpAny_field y.zip rfl (x:=.ref l) rfl;apply wpAny_bind;apply wpAny_seqItems y.ins rfl;apply wpAny_bind (m:=Builtin.SmallTypes.ownedTupleIsFree (.ref z));unfold Builtin.SmallTypes.ownedTupleIsFree;apply wpAny_bind;apply wpAny_field y.zip rfl (x:=.none) rfl;apply wpAny_pure;simp only[cA];apply wpAny_bind;apply wpAny_rule;apply wpAny_bind;apply wpAny_field y.zip rfl (x:=.ref j) rfl;apply wpAny_bind
 apply wpAny_setField_rec y.zip (by simp)
 intro U u g;have u:IsZip U z l j .ellipsis:=u;apply wpAny_bind;simp only[List.zipIdx_cons,List.zipIdx_nil,dq,List.forIn_nil];apply wpAny_bind;apply wpAny_bind;apply wpAny_onRaise;apply wpAny_bind (m:=Builtin.SmallTypes.nextOf (.ref v))
 cases e1:xs[k]? with
 | none =>
  refine next_end f (y.one.stay fun o e=>g.extBut _ _ d.z_i1 e) (ha.stay fun o e=>g.extBut _ _ I.1 e) e1 fun H x i K=>?_
  obtain⟨D,r,t⟩:=K;have Q:IsZip H z l j .ellipsis:=i _ _ d.z_i1.symm u
  have G:x≠z:=fun e=>by subst e;rw[Q]at r;cases r;simp at t
  apply wpAny_setField_rec Q (by simp)
  intro N _ n
  refine q N x (fun c o p e=>?_) ⟨D,n.extBut _ _ G r,t⟩
  simp only[au,bf,bB,not_or]at p;exact n.extBut _ _ p.1 (i _ _ p.2.2.2.1 (g.extBut _ _ p.1 e))
 | some x =>
  have Y:ys[k]?=none:=by
   rcases hx with h | h
   ·rw[e1]at h;cases h
   ·exact h
  refine next_item (y.one.stay fun o e=>g.extBut _ _ d.z_i1 e) (ha.stay fun o e=>g.extBut _ _ I.1 e) e1 fun H n1 i=>?_
  apply wpAny_pure;have O:IsPair H j T V:=i.extBut _ _ d.to_i1 (g.extBut _ _ d.z_to S);apply wpAny_bind;apply wpAny_seqItems O rfl;apply wpAny_bind;apply wpAny_updateSeq_pair O;intro N Z n;apply wpAny_bind;apply wpAny_letGo;apply wpAny_pure;apply wpAny_bind;apply wpAny_bind;apply wpAny_onRaise;apply wpAny_bind (m:=Builtin.SmallTypes.nextOf (.ref C))
  refine next_end f (y.two.stay fun o e=>n.extBut _ _ d.to_i2.symm (i.extBut _ _ d.i1_i2.symm (g.extBut _ _ d.z_i2 e))) (hb.stay fun o e=>n.extBut _ _ B.2.2.1 (i.extBut _ _ B.2.2.2.1 (g.extBut _ _ B.1 e))) Y fun W x M J=>?_
  obtain⟨D,r,t⟩:=J;have R:IsZip W z l j .ellipsis:=M _ _ d.z_i2.symm (n.extBut _ _ d.z_to.symm (i.extBut _ _ d.z_i1.symm u))
  have G:x≠z:=fun e=>by subst e;rw[R]at r;cases r;simp at t
  apply wpAny_setField_rec R (by simp)
  intro X _ L
  refine q X x (fun c o p e=>?_) ⟨D,L.extBut _ _ G r,t⟩
  simp only[au,bf,bB,not_or]at p;exact L.extBut _ _ p.1 (M _ _ p.2.2.2.2 (n.extBut _ _ p.2.2.1 (i.extBut _ _ p.2.2.2.1 (g.extBut _ _ p.1 e))))
end
section
variable {X:Cx}{pins:y_}{σ:St}{H:Hp}{s:u_}{h':Heap}
theorem Inv.turnLay {ch:v6}{p:Addr}{o:HO}{t':Nat}(I:Inv X pins σ H s)(hf:∀b∈ch,Nb X pins H b)(k:∀b u,b∉ch->s.heap.get? b=some u->h'.get? b=some u)(hp:s.heap.objs.size<=p)(w:z8 X.prog X.w (upd H p o) h' p o) :
 Inv X pins σ (upd H p o) { s with heap:=h',toks:=t' }:=by
 have g:H p=none:=I.hok.fresh hp
 have t:∀b u,H b=some u->b∉ch:=fun b u e z=>by rw[(hf b z).1]at e;grind
 have d:∀b u,H b=some u->b≠p:=fun b u e=>Bk e g
 have h:∀b u,s.heap.get? b=some u->b≠p:=fun b u e z=>absurd (Heap.lt_size e) (by simp_all)
 refine I.step (g':=s.gens) (d':=s.drawn) (ch:=ch) (fun b f=>?_) (fun b u _ _ a e _=>k b u a e) (fun b u _ _ a e _=>⟨u.slots,k b u a e⟩) (fun b u _ e n=>?_) (fun b u a e=>⟨u,k b u a e⟩)
  (fun b i e=>?_) (fun b o u e=>?_) (fun b B e=>?_) (fun m x=>?_) (fun b u e=>?_) I.bare
 ·obtain⟨F,G,J,C,D,E⟩:=hf b f
  grind
 ·rw[Am (h b u e)];grind
 ·rw[Am (d b _ e)];grind
 ·rw[Am (d b _ e)];(first|lia|omega)
 ·rw[Am (d b _ e)];grind
 ·obtain⟨j,y,A,l,r⟩:=x
  exact⟨j,y,A,k _ _ (fun z=>(hf _ z).2.1 rfl) l,r⟩
 ·by_cases f:b=p
  ·subst f;rw[Bg]at e;grind
  ·rw[Am f]at e
   refine (I.hok b u e).stay (fun c v a q=>k c v ?_ q) fun c q=>by rw[Am (d c _ q)];grind fun c i q=>by rw[Am (d c _ q)];grind fun c j i q=>by rw[Am (d c _ q)];grind
   grind
theorem Inv.turnL {ch:v6}{t':Nat}(I:Inv X pins σ H s)(hf:∀b∈ch,Nb X pins H b)(k:∀b u,b∉ch->s.heap.get? b=some u->h'.get? b=some u):Inv X pins σ H { s with heap:=h',toks:=t' }:=by
 have g:∀b u,H b=some u->b∉ch:=fun b u e z=>by rw[(hf b z).1]at e;grind
 refine I.step    (fun b f=>?_) (fun b u _ _ a e _=>k b u a e) (fun b u _ _ a e _=>⟨u.slots,k b u a e⟩) (fun b u _ e n=>n) (fun b u a e=>⟨u,k b u a e⟩)
  (fun b i e=>e) (fun b o u e=>e) (fun b t e=>e) (fun m j=>?_) (fun b u e=>?_) I.bare
 ·obtain⟨A,B,C,w,x,y⟩:=hf b f
  grind
 ·obtain⟨h,l,p,d,r⟩:=j
  exact⟨h,l,p,k _ _ (fun z=>(hf _ z).2.1 rfl) d,r⟩
 ·refine (I.hok b u e).stay (fun c v a q=>k c v ?_ q) (fun c q=>q) fun c i q=>q
  grind
end
def SqK (t:Bool)(H:Hp)(a:Addr)(xs:l_):Prop:=match t with
 | true=>H a=some (.tup xs)
 | false=>H a=some (.lst xs)
theorem SqK.one     (x:SqK t H a xs) (y:SqK t H a ys):xs=ys:=by
 cases t
 ·have y:H a=some _:=y
  rw[x]at y;cases y;rfl
 ·have y:H a=some _:=y
  rw[x]at y;cases y;rfl
theorem SqK.some     (x:SqK t H a xs):∃o,H a=some o:=by
 cases t
 ·exact⟨_,x⟩
 ·exact⟨_,x⟩
theorem SqK.its         (I:Inv X pins d H s) (x:SqK t H a xs):∃b:w6,Vals xs b/\SqA t s.heap a b.toArray:=by
 cases t
 ·obtain⟨b,c,p,_⟩:=I.list (SqL.of x)
  exact⟨b,c,p.isList⟩
 ·obtain⟨b,c,p,_⟩:=I.tuple (SqT.of x)
  exact⟨b,c,(show s.heap.IsTuple a _ from p)⟩
def Itz (t1 t2:Bool)(a b:Addr):It :=
 ⟨
  fun i H=>∃xs ys x y,SqK t1 H a xs/\SqK t2 H b ys/\xs[i]?=some x/\ys[i]?=some y,
  fun i H v H'=>∃p x y,v=.ref p/\H p=none/\H'=upd H p (.tup [x,y])/\(∀xs,SqK t1 H a xs->xs[i]?=some x)/\∀ys,SqK t2 H b ys->ys[i]?=some y,
  fun i H=>∃xs ys,SqK t1 H a xs/\SqK t2 H b ys/\(xs.length<=i\/ys.length<=i)⟩
theorem A3t {P:u6}{w:World}{K:v9}{t1 t2:Bool}{elts:v_}{kk:Nat}{pos:Pos}{z ti to i1 i2 a b:Addr}(nd:[z,ti,to,i1,i2].Nodup) :
 Turn P w K (.Tuple elts kk pos) (Itz t1 t2 a b) [z,ti,to,i1,i2] z (fun i h=>Zx h t1 t2 z ti to i1 i2 a b .none i) where
 mem:=by simp
 obj:=fun i h st c hc=>by
  simp only[au,bf,bB]at hc
  rcases hc with rfl | rfl | rfl | rfl | rfl
  ·exact⟨_,st.zip,fun v e=>by cases e⟩
  ·exact⟨_,st.ins,fun v e=>by cases e⟩
  ·obtain⟨u,v,e⟩:=st.outs;exact⟨_,e,fun v e=>by cases e⟩
  ·obtain⟨o,e,q⟩:=st.one.obj;exact⟨o,e,fun v e=>by rw[q]at e;cases e⟩
  ·obtain⟨o,e,q⟩:=st.two.obj;exact⟨o,e,fun v e=>by rw[q]at e;cases e⟩
 keep:=fun i h h' st k=>by
  obtain⟨u,v,e⟩:=st.outs
  exact⟨k z (by simp) _ st.zip,k ti (by simp) _ st.ins,⟨u,v,k to (by simp) _ e⟩,st.one.stay fun o e=>k i1 (by simp) o e,st.two.stay fun o e=>k i2 (by simp) o e⟩
 item:=by
  intro X hP hw hK hc i pins s σ H E I hf st hg;subst hP hw hK;obtain⟨xs,ys,x,y,ha,hb,hx,hy⟩:=hg;obtain⟨its,rv,pa⟩:=ha.its I;obtain⟨jts,rw',pb⟩:=hb.its I;obtain⟨u,hu,ru⟩:=rv.get hx;obtain⟨v,hv,rv'⟩:=rw'.get hy
  have off:zA z ti to i1 i2 a b:=⟨nd,fun m=>by (obtain⟨o,e⟩:=ha.some;rw[(hf a m).1]at e;cases e),fun m=>by (obtain⟨o,e⟩:=hb.some;rw[(hf b m).1]at e;cases e)⟩
  have ty:s.TypeIs (.ref z) "zip" := ⟨_,st.zip,rfl⟩;unfold pyNext;apply wpAny_bind;apply wpAny_attempt
  refine wpAny_callSpecial?_slot (name:="__next__") ty F.slot_zip_next ?_
  refine wpAny_call_entry F.slot_zip_next ty F.entry_zip_next ?_ (F.args_zip_next_1 _)
  refine A5l off st pa pb (x:=u) (x':=v) (by simpa using hu) (by simpa using hv) fun h1 z1 new kp=>?_
  refine wpAny_pure ⟨_,rfl,?_⟩
  apply wpAny_letOwnedTupleGo_zip z1.zip;intro h2 z2 sb;have nz:s.heap.objs.size≠z:=bH (Heap.lt_size st.zip);have new2:IsPair h2 s.heap.objs.size u v:=sb.extBut _ _ nz new
  have ok:z8 X.prog X.w (upd H s.heap.objs.size (.tup [x,y])) h2 s.heap.objs.size (.tup [x,y]):=⟨(show 2<=sizeLine by decide),[u,v],.cons ru (.cons rv' .nil),⟨_,new2,rfl,⟨_,rfl⟩,rfl⟩⟩
  have I2:=I.turnLay (t':=s.toks) hf (h':=h2) (fun c o m e=>sb.extBut _ _ (fun e=>m (by simp[e])) (kp c o m e)) (ak _) ok
  obtain⟨u1,v1,e1⟩:=z1.outs;have zf:H s.heap.objs.size=none:=I.hok.fresh (ak _)
  refine⟨.ref s.heap.objs.size,_,I2,rfl,⟨_,x,y,rfl,zf,rfl,fun xs' h=>?_,fun ys' h=>?_⟩,?_,fun c hc=>?_⟩
  ·rw[h.one ha];exact hx
  ·rw[h.one hb];exact hy
  ·exact⟨z2,sb.extBut _ _ off.z_ti z1.ins,⟨u1,v1,sb.extBut _ _ off.z_to e1⟩,z1.one.stay fun o e=>sb.extBut _ _ off.z_i1 e,z1.two.stay fun o e=>sb.extBut _ _ off.z_i2 e⟩
  ·have lt:c<s.heap.objs.size:=by
    simp only[au,bf,bB]at hc
    rcases hc with rfl | rfl | rfl | rfl | rfl
    ·exact Heap.lt_size st.zip
    ·exact Heap.lt_size st.ins
    ·obtain⟨_,_,e⟩:=st.outs;exact Heap.lt_size e
    ·obtain⟨o,e,q⟩:=st.one.obj;exact Heap.lt_size e
    ·obtain⟨o,e,q⟩:=st.two.obj;exact Heap.lt_size e
   rw[Am (aM lt)];exact(hf c hc).1
 done:=by
  intro X hP hw hK hc i pins s σ H E I hf st hg;subst hP hw hK;obtain⟨xs,ys,ha,hb,hl⟩:=hg;obtain⟨its,rv,pa⟩:=ha.its I;obtain⟨jts,rw',pb⟩:=hb.its I
  have off:zA z ti to i1 i2 a b:=⟨nd,fun m=>by (obtain⟨o,e⟩:=ha.some;rw[(hf a m).1]at e;cases e),fun m=>by (obtain⟨o,e⟩:=hb.some;rw[(hf b m).1]at e;cases e)⟩
  have ty:s.TypeIs (.ref z) "zip" := ⟨_,st.zip,rfl⟩;have l1:=rv.length;have l2:=rw'.length;unfold pyNext;apply wpAny_bind;apply wpAny_attempt
  refine wpAny_callSpecial?_slot (name:="__next__") ty F.slot_zip_next ?_
  refine wpAny_call_entry F.slot_zip_next ty F.entry_zip_next ?_ (F.args_zip_next_1 _)
  refine A6u (I.ok.hd hc) off st pa pb (by simp;(first|lia|omega)) fun h1 e kp he=>?_
  obtain⟨o,e1,e2⟩:=he;apply wpAny_bind
  refine wpAny_isInstance (T := "StopIteration") (b:=true) ⟨o,e1,e2⟩ isSubtype_stop ?_
  exact wpAny_pure ⟨rfl,I.turnL (t':=s.toks) hf fun c o m e=>kp c o m e⟩
 self:=fun _ _ _ _ _ st h=>wpAny_pyIter_zip st.zip h
section
variable {P:u6}{w:World}{A:q_}{E:z_}{s:u_}
abbrev itO (t:Bool)(u:Addr):Obj:={ cls:=.type (if t then "tuple_iterator" else "list_iterator"),data:=.fields #[.ref u,.int 0 0] }
abbrev zh1 (h:Heap)(t1:Bool)(a:Addr):Heap:=h.push (itO t1 a)
abbrev zh2 (h:Heap)(t1 t2:Bool)(a b:Addr):Heap:=(zh1 h t1 a).push (itO t2 b)
abbrev zh3 (h:Heap)(t1 t2:Bool)(a b:Addr):Heap:=(zh2 h t1 t2 a b).push { cls:=.type "tuple",data:=.seq #[.ref h.objs.size,.ref (zh1 h t1 a).objs.size] }
abbrev zh4 (h:Heap)(t1 t2:Bool)(a b:Addr):Heap:=(zh3 h t1 t2 a b).push { cls:=.type "tuple",data:=.seq #[.none,.none] }
abbrev zh5 (h:Heap)(t1 t2:Bool)(a b:Addr):Heap:=(zh4 h t1 t2 a b).push { cls:=.type "zip",data:=.fields #[.none,.bool false,.bool false,.ref (zh2 h t1 t2 a b).objs.size,.ref (zh3 h t1 t2 a b).objs.size] }
theorem A4x (t1 t2:Bool)(a b:Addr)(xs ys:v7) :
 Meets (Builtin.«zip.__new__» ⟨[.type "zip",.ref a,.ref b],[]⟩) (fun _ R s=>SqA t1 s.heap a xs/\SqA t2 s.heap b ys/\R (.ok (.ret (.ref (zh4 s.heap t1 t2 a b).objs.size))) { s with heap:=zh5 s.heap t1 t2 a b }) :=
 .of_wp fun P w A R s h=>by
  obtain⟨e,g,d,c,f⟩:=s;obtain⟨k,l,h⟩:=h;have m:=sub_zip
  cases t1 <;> cases t2
  ·have j:Heap.IsList (Shared.heap ⟨e,g,d,c,f⟩) a xs:=k
   have i:Heap.IsList (Shared.heap ⟨e.push { cls:=.type "list_iterator",data:=.fields #[.ref a,.int 0 0] },g,d,c,f⟩) b ys:=Heap.IsList.push l _
   wp_walk using wpAny_pyIter_list j,wpAny_pyIter_list i
   exact⟨_,rfl,h⟩
  ·have j:Heap.IsList (Shared.heap ⟨e,g,d,c,f⟩) a xs:=k
   have i:Heap.IsTuple (Shared.heap ⟨e.push { cls:=.type "list_iterator",data:=.fields #[.ref a,.int 0 0] },g,d,c,f⟩) b ys:=Heap.IsTuple.push l _
   wp_walk using wpAny_pyIter_list j,wpAny_pyIter_tuple i
   exact⟨_,rfl,h⟩
  ·have j:Heap.IsTuple (Shared.heap ⟨e,g,d,c,f⟩) a xs:=k
   have i:Heap.IsList (Shared.heap ⟨e.push { cls:=.type "tuple_iterator",data:=.fields #[.ref a,.int 0 0] },g,d,c,f⟩) b ys:=Heap.IsList.push l _
   wp_walk using wpAny_pyIter_tuple j,wpAny_pyIter_list i
   exact⟨_,rfl,h⟩
  ·have j:Heap.IsTuple (Shared.heap ⟨e,g,d,c,f⟩) a xs:=k
   have i:Heap.IsTuple (Shared.heap ⟨e.push { cls:=.type "tuple_iterator",data:=.fields #[.ref a,.int 0 0] },g,d,c,f⟩) b ys:=Heap.IsTuple.push l _
   wp_walk using wpAny_pyIter_tuple j,wpAny_pyIter_tuple i
   exact⟨_,rfl,h⟩
theorem Al9    (e:h.get? j=some (itO t u)):ItAt t h j u 0:=by
 cases t
 ·exact⟨_,e,rfl,rfl⟩
 ·exact⟨_,e,rfl,rfl⟩
theorem Ak1     (t:SqA t1 s.heap a xs) (u:SqA t2 s.heap b ys)
 (q:∀h',Zx h' t1 t2 (s.heap.objs.size+4) (s.heap.objs.size+2) (s.heap.objs.size+3) s.heap.objs.size (s.heap.objs.size+1) a b .none 0->(∀c o,s.heap.get? c=some o->h'.get? c=some o)->Q (.ref (s.heap.objs.size+4)) { s with heap:=h' }) :
 wpAny (model P w) A (call (.type "zip") [.ref a,.ref b]) Q E s:=by
 apply callType_new F.called_zip (by decide) (F.typeCall_zip_2 _ _) (F.newCall_zip_2 _ _) (fun o=>F.args_object_init_3 o _ _) F.entry_zip_new (A4x t1 t2 a b xs ys)
 refine⟨t,u,?_⟩
 have i:(zh1 s.heap t1 a).objs.size=s.heap.objs.size+1:=Heap.size_push ..
 have g:(zh2 s.heap t1 t2 a b).objs.size=s.heap.objs.size+2:=by rw[Heap.size_push,i]
 have f:(zh3 s.heap t1 t2 a b).objs.size=s.heap.objs.size+3:=by rw[Heap.size_push,g]
 have k:(zh4 s.heap t1 t2 a b).objs.size=s.heap.objs.size+4:=by rw[Heap.size_push,f]
 have d:=fun {h:Heap} {c:Addr} {o:Obj} (n:Obj) (e:h.get? c=some o)=>Heap.get?_push_of_some n e
 have j:(zh5 s.heap t1 t2 a b).get? (zh4 s.heap t1 t2 a b).objs.size=some _:=Heap.get?_push_size _ rfl;have m:(zh5 s.heap t1 t2 a b).get? (zh3 s.heap t1 t2 a b).objs.size=some _:=d _ (Heap.get?_push_size _ rfl);have l:(zh5 s.heap t1 t2 a b).get? (zh2 s.heap t1 t2 a b).objs.size=some _:=d _ (d _ (Heap.get?_push_size _ rfl));have p:(zh5 s.heap t1 t2 a b).get? (zh1 s.heap t1 a).objs.size=some _:=d _ (d _ (d _ (Heap.get?_push_size _ rfl)));have r:(zh5 s.heap t1 t2 a b).get? s.heap.objs.size=some _:=d _ (d _ (d _ (d _ (Heap.get?_push_size _ rfl))));rw[g,f,k]at j;rw[i,g]at l;rw[f]at m;rw[i]at p;rw[k]
 exact⟨⟨_,j,rfl⟩,q _ ⟨j,l,⟨_,_,m⟩,Al9 r,Al9 p⟩ fun c o e=>d _ (d _ (d _ (d _ (d _ e))))⟩
end
theorem A2l:bootBuiltins "zip" = some (.type "zip"):=by decide +kernel
section
variable {X:Cx}
def By7 (ta:TA):TI:=fun σ H R=>ta σ H fun vs H1=>∃a b,vs=[.ref a,.ref b]/\∃t1 t2 xs ys,SqK t1 H1 a xs/\SqK t2 H1 b ys/\R (Itz t1 t2 a b) H1
theorem Bu1   {p j e:Pos}{f:v_}{t:Nat}(hg:Gl X "zip") (hm:X.mg "zip" = none) (ha:PA X [a,b] m) (hs1:isStar a=false:=by rfl) (hs2:isStar b=false:=by rfl) :
 PI X (.Tuple f t e) (.Call (.Name "zip" p) [a,b] [] j) (By7 m):=by
 intro l s σ H R I h;have i:=Et (es:=[b]) (env:=X.env) hs1
 refine Call_ (Hr I hg hm A2l (cH (thn (ha _ _ s _ H _ I h) fun us d ⟨vs,r,g,u,v⟩=>?_) i (by rw[(Et (es:=[]) (env:=X.env) hs2)];rfl)))
 obtain⟨a',b',rfl,t1,t2,xs,ys,y,o,q⟩:=v;obtain⟨z,A,rfl,B,x⟩:=Vals.two u
 cases (show z=Value.ref _ from B)
 cases (show A=Value.ref _ from x)
 obtain⟨C,rv,w⟩:=y.its g;obtain⟨E,F,D⟩:=o.its g
 refine Ak1 w D fun h' n G=>?_
 apply wpAny_pyIter_zip n.zip
 have J:[d.heap.objs.size+4,d.heap.objs.size+2,d.heap.objs.size+3,d.heap.objs.size,d.heap.objs.size+1].Nodup:=by simp
 refine⟨_,_,_,_,r,rfl,g.kept  G,A3t J,n,fun c hc=>?_,q⟩
 have k:d.heap.objs.size<=c:=by
  grind
 exact g.fpOk k (g.hok.fresh k)
end
def Bm7:R2:=fun x y H Q=>∃a b xs ys,x=.ref a/\y=.ref b/\H a=some (.tup xs)/\H b=some (.tup ys)/\xs.length+ys.length<=sizeLine/\∀p H',Same H H'->H' p=some (.tup (xs++ys))->Q (.ref p) H'
section
variable {X:Cx}
theorem Ce   (h:H p=none) (o:HO):Same H (upd H p o):=fun b u e=>by rw[Am (Bk e h)];grind
theorem Bg5:OpR X (binaryOp .Add) Bm7:=by
 intro d s σ H x y v u Q I i f h;obtain⟨a,b,g,E,rfl,rfl,j,c,n,q⟩:=h
 by_cases e:g=[]
 ·cases i
  cases f
  subst e;obtain⟨o,r,t,_⟩:=I.tuple (SqT.of j);obtain⟨w,r2,A,_⟩:=I.tuple (SqT.of c);have C  := r.nil_iff.mpr rfl;subst C;obtain⟨⟨c1,d1,D,s1⟩,k,F,n1,z⟩:=id t;obtain⟨⟨c2,d2,B,s2⟩,l,J,n2,G⟩:=id A;subst F z J G
  exact concat_meets ⟨_,k,rfl⟩ ⟨_,l,rfl⟩ noFill_tuple_add seq_tuple_add fB fC (fG _ _)
   (tuple_addW0 a b _ _ _ _ _ _ _ _ (by simp)) ⟨k,l,⟨.ref b,H,I,rfl,q b H (fun _ _ e=>e) c⟩⟩
 ·refine Bj9 _ s _ H _ _ v u Q I i f ⟨a,b,g,E,rfl,rfl,SqT.of j,SqT.of c,e,n,fun K=>?_,fun K p m=>?_⟩
  ·exact q a H (fun _ _ e=>e) (by simp_all)
  ·exact q p _ (Ce m _) Bg
end
section
variable {P:u6}{w:World}{A:q_}{E:z_}{s:u_}
theorem Br6 (quiet:A.handled=none)(t:Bool)(j u:Addr)(ne:u≠j)(vs:v7):Draws P w A j [j,u] vs.size (fun i v=>vs[i]?=some v) (fun i h=>ItAt t h j u i/\SqA t h u vs) where
 live:=fun i h x=>let ⟨o,e,_⟩:=x.1.obj; ⟨o,e⟩
 frame:=fun i h h' x k=>⟨x.1.stay fun o e=>k j (by simp) o e,x.2.stay fun o e=>k u (by simp) o e⟩
 item:=fun i s Q E hi x q=>next_item x.1 x.2 (x:=vs[i]) (by simp[hi]) fun h' a b=>q _ h' s.toks (by simp[hi]) ⟨a,x.2.stay fun o e=>b.extBut _ _ ne e⟩ b
 done:=fun s Q E x q=>next_end quiet x.1 x.2 (by simp) q
theorem Ap4 (u:Addr)(vs:v7)(n:Nat)(b:Option Addr)(l:Array (u9)) :
 Meets (Builtin.«enumerate.__new__» ⟨[.type "enumerate",.ref u],[]⟩) (fun _ R s=>s.heap.get? u=some { cls:=.type "tuple",dict:=b,data:=.seq vs n,slots:=l } /\
  R (.ok (.ret (.ref (s.heap.push (itO true u)).objs.size))) { s with heap:=(s.heap.push (itO true u)).push { cls:=.type "enumerate",data:=.fields #[.none,.bool false,.ref s.heap.objs.size,rawInt 0,.none,.none] } }) :=
 .of_wp fun P w A R s h=>by
  obtain⟨i,g,d,f,k⟩:=s;obtain⟨e,h⟩:=h;have j:=sub_enumerate;have a:Heap.IsTuple (Shared.heap ⟨i,g,d,f,k⟩) u vs:=⟨_,e,rfl,n,rfl⟩
  wp_walk using AutoSeq1.wpAny_loadPart' e
  refine wpAny_stack_any fun m=>wpAny_pure ?_
  split
  ·rename_i c _ _ _ _ _
   cases (c==Value.type "enumerate")
   ·wp_walk using AutoSeq1.wpAny_loadPart' e,wpAny_pyIter_tuple a
    exact⟨_,rfl,h⟩
   ·wp_walk using AutoSeq1.wpAny_loadPart' e,wpAny_pyIter_tuple a
    exact⟨_,rfl,h⟩
  ·wp_walk using AutoSeq1.wpAny_loadPart' e,wpAny_pyIter_tuple a
   exact⟨_,rfl,h⟩
theorem Ag4     (p:SqA t s.heap u vs)
 (q:∀f,IsEnum f (s.heap.objs.size+1) s.heap.objs.size 0 .none->ItAt t f s.heap.objs.size u 0->(∀c o,s.heap.get? c=some o->f.get? c=some o)->Q (.ref (s.heap.objs.size+1)) { s with heap:=f }) :
 wpAny (model P w) A (call (.type "enumerate") [.ref u]) Q E s:=by
 cases t
 ·exact call_enumerate_list p fun f a b c d=>q f a b d
 ·obtain⟨⟨c,i,m,l⟩,e,k,n,g⟩:=p
  simp only at k g;subst k g
  apply callType_new F.called_enumerate (by decide) (F.typeCall_enumerate_1 _) (F.newCall_enumerate_1 _) (fun o=>F.args_object_init_2 o _) F.entry_enumerate_new (Ap4 u vs n i l)
  refine⟨e,?_⟩
  have j:(s.heap.push (itO true u)).objs.size=s.heap.objs.size+1:=Heap.size_push ..;have h:IsEnum ((s.heap.push (itO true u)).push { cls:=.type "enumerate",data:=.fields #[.none,.bool false,.ref s.heap.objs.size,rawInt 0,.none,.none] }) (s.heap.push (itO _ u)).objs.size _ 0 _:=Heap.get?_push_size _ rfl;rw[j]at h;rw[j]
  exact⟨⟨_,h,rfl⟩,q _ h (Al9 (Heap.get?_push_of_some _ (Heap.get?_push_size _ rfl))) fun c o x=>Heap.get?_push_of_some _ (Heap.get?_push_of_some _ x)⟩
end
def Ite (t:Bool)(a:Addr):It :=
 ⟨
  fun i H=>∃xs x,SqK t H a xs/\xs[i]?=some x,
  fun i H v H'=>∃p x,v=.ref p/\H p=none/\H'=upd H p (.tup [.int i,x])/\∀xs,SqK t H a xs->xs[i]?=some x,
  fun i H=>∃xs,SqK t H a xs/\xs.length<=i⟩
theorem A1j {P:u6}{w:World}{K:v9}{t:Bool}{elts:v_}{kk:Nat}{pos:Pos}{e j a:Addr}(ne:e≠j) :
 Turn P w K (.Tuple elts kk pos) (Ite t a) [e,j] e (fun i h=>(∃old,IsEnum h e j i old)/\ItAt t h j a i) where
 mem:=by simp
 obj:=fun i h st c hc=>by
  simp only[au,bf,bB]at hc
  rcases hc with rfl | rfl
  ·obtain⟨old,q⟩:=st.1;exact⟨_,q,fun v e=>by cases e⟩
  ·obtain⟨o,e,q⟩:=st.2.obj;exact⟨o,e,fun v e=>by rw[q]at e;cases e⟩
 keep:=fun i h h' st k=>by
  obtain⟨⟨old,q⟩,r⟩:=st
  exact⟨⟨old,k e (by simp) _ q⟩,r.stay fun o e=>k j (by simp) o e⟩
 item:=by
  intro X hP hw hK hc i pins s σ H E I hf st hg;subst hP hw hK;obtain⟨xs,x,ha,hx⟩:=hg;obtain⟨⟨old,en⟩,it⟩:=st;obtain⟨its,rv,pa⟩:=ha.its I;obtain⟨u,hu,ru⟩:=rv.get hx
  have off:∀c∈[e,j],a≠c:=fun c m z=>by obtain⟨o,q⟩:=ha.some;rw[z,(hf c m).1]at q;cases q
  have dr:=Br6 (P:=X.prog) (w:=X.w) (A:=X.A.in1) (I.ok.hd hc) t j a (off j (by simp)) its.toArray
  have li:i<its.toArray.size:=by simpa using (bG.mp hu).1
  refine wpAny_pyNext_enum_itemD dr en ⟨it,pa⟩ li ne (by simp;exact⟨ne,fun z=>off e (by simp) z.symm⟩) fun u' h1 tk pu ou st1 new _ kp=>?_
  have eu:u'=u:=by
   have pu:its.toArray[i]?=some u':=pu;rw[List.getElem?_toArray,hu]at pu;cases pu;rfl
  subst eu
  refine⟨_,rfl,?_⟩
  apply wpAny_letOwnedTupleGo_enum ou;intro h2 en2 sb
  have lt:∀c∈[e,j],c<s.heap.objs.size:=fun c m=>by
   simp only[au,bf,bB]at m
   rcases m with rfl | rfl
   ·exact Heap.lt_size en
   ·obtain⟨o,e,_⟩:=it.obj;exact Heap.lt_size e
  have new2:h2.get? s.heap.objs.size=some { cls:=.type "tuple",data:=.seq #[.int i tk,u'] }:=sb.extBut _ _ (bH (lt e (by simp))) new
  have ok:z8 X.prog X.w (upd H s.heap.objs.size (.tup [.int i,x])) h2 s.heap.objs.size (.tup [.int i,x]):=⟨(show 2<=sizeLine by decide),[.int i tk,u'],.cons ⟨tk,rfl⟩ (.cons ru .nil),⟨_,new2,rfl,⟨_,rfl⟩,rfl⟩⟩
  have I2:=I.turnLay (t':=tk+1) hf (h':=h2) (fun c o m q=>sb.extBut _ _ (fun z=>m (by simp[z])) (kp c o (fun z=>m (by simp[z])) (fun z=>m (by simp[z])) q)) (ak _) ok
  refine⟨.ref s.heap.objs.size,_,I2,rfl,⟨_,x,rfl,I.hok.fresh (ak _),rfl,fun xs' h=>?_⟩,⟨⟨u',?_⟩,?_⟩,fun c m=>?_⟩
  ·rw[h.one ha];exact hx
  ·have:IsEnum h2 e j ((i:Int)+1) u':=en2
   simpa using this
  ·exact st1.1.stay fun o q=>sb.extBut _ _ (aB ne) q
  ·rw[Am (aM (lt c m))]
   exact(hf c m).1
 done:=by
  intro X hP hw hK hc i pins s σ H E I hf st hg;subst hP hw hK;obtain⟨xs,ha,hl⟩:=hg;obtain⟨⟨old,en⟩,it⟩:=st;obtain⟨its,rv,pa⟩:=ha.its I
  have off:∀c∈[e,j],a≠c:=fun c m z=>by obtain⟨o,q⟩:=ha.some;rw[z,(hf c m).1]at q;cases q
  have ty:s.TypeIs (.ref e) "enumerate" := ⟨_,en,rfl⟩;have ln:=rv.length;unfold pyNext;apply wpAny_bind;apply wpAny_attempt
  refine wpAny_callSpecial?_slot (name:="__next__") ty F.slot_enumerate_next ?_
  refine wpAny_call_entry F.slot_enumerate_next ty F.entry_enumerate_next ?_ (F.args_enumerate_next_1 _)
  apply wpAny_bind (m:=field (.ref e) 2);apply wpAny_field en rfl (x:=.ref j) rfl;apply wpAny_bind
  refine next_end (I.ok.hd hc) it pa (by simp;(first|lia|omega)) fun h1 x kp hx=>?_
  obtain⟨o,e1,e2⟩:=hx;apply wpAny_bind
  refine wpAny_isInstance (T := "StopIteration") (b:=true) ⟨o,e1,e2⟩ isSubtype_stop ?_
  exact wpAny_pure ⟨rfl,I.turnL (t':=s.toks) hf fun c o m q=>kp c o (fun z=>m (by simp[z])) q⟩
 self:=fun _ _ _ _ _ st h=>let ⟨_,q⟩:=st.1;wpAny_pyIter_enum q h
theorem Ap5:bootBuiltins "enumerate" = some (.type "enumerate"):=by decide +kernel
section
variable {X:Cx}
def A3b (ta:TA):TI:=fun σ H R=>ta σ H fun vs H1=>∃a,vs=[.ref a]/\∃t xs,SqK t H1 a xs/\R (Ite t a) H1
theorem Bc2      (hg:Gl X "enumerate") (hm:X.mg "enumerate" = none) (ha:PA X [a] i) (hs1:isStar a=false:=by rfl) :
 PI X (.Tuple d v b) (.Call (.Name "enumerate" p) [a] [] f) (A3b i):=by
 intro j s σ H R I h
 refine Call_ (Hr I hg hm Ap5 (cH (thn (ha _ _ s _ H _ I h) fun us x ⟨vs,o,e,r,u⟩=>?_) (Et (es:=[]) (env:=X.env) hs1) rfl))
 obtain⟨a',rfl,t,xs,l,q⟩:=u;obtain⟨w,rfl,m⟩:=vals1 r
 cases (show w=Value.ref _ from m)
 obtain⟨n,rv,y⟩:=l.its e
 refine Ag4 y fun h' k z A=>?_
 apply wpAny_pyIter_enum k
 refine⟨_,_,_,_,o,rfl,e.kept  A,A1j (bH (dY _)),⟨⟨_,k⟩,z⟩,fun c hc=>?_,q⟩
 have g:x.heap.objs.size<=c:=by
  grind
 exact e.fpOk g (e.hok.fresh g)
end
section
variable {X:Cx}
def A6w (i j k:Nat)(ta:TA):TS:=fun D σ H=>ta σ H fun vs H1=>∃v w y,vs=[v,w,y]/\D.nx (((σ.set i (some v)).set j (some w)).set k (some y)) H1
theorem Bd3 {i j k:Nat}{x y z:Str}{a b c:Expr}{M:TA}{t r B u:Pos}{C k2 f}(hc:X.calm=true)(hN:X.N.Nodup)(hi:X.N[i]?=some x)(hj:X.N[j]?=some y)(hk:X.N[k]?=some z)(hij:i≠j)(hik:i≠k)(hjk:j≠k)
 (hx:X.env.scope.names.lookup x=some .local) (hy:X.env.scope.names.lookup y=some .local) (hz:X.env.scope.names.lookup z=some .local) (ha:PA X [a,b,c] M)
 (hw:swappedStores [.Tuple [.Name x t,.Name y r,.Name z B] C u] (.Tuple [a,b,c] k2 f) X.env=pure (some [x,y,z]))
 (hs:swapsWithSole [.Tuple [.Name x t,.Name y r,.Name z B] C u] (.Tuple [a,b,c] k2 f) pos.line X.env=pure false:=by rfl) :
 PS X (.Assign [.Tuple [.Name x t,.Name y r,.Name z B] C u] (.Tuple [a,b,c] k2 f) pos) (A6w i j k M):=by
 intro d s N H D I h;rw[exec_Assign_arm]
 refine wpAny_bind (wpAny_standAt ?_)
 rw[hs]
 refine wpAny_bind (wpAny_pure ?_)
 rw[if_neg (by decide)]
 refine wpAny_bind (Tuple_ (thn (ha _ d s N H _ I h) fun W g ⟨vs,L,R,V,A⟩=>?_))
 obtain⟨v,w,y',P,A⟩:=A;subst P
 obtain⟨n,m,l,rfl,Q,F,S⟩:∃n m l,W=[n,m,l]/\RelV v n/\RelV w m/\RelV y' l:=by
  cases V with
  | cons p q =>
   cases q with
   | cons T U =>
    cases U with
    | cons E G =>
     cases G
     exact⟨_,_,_,rfl,p,T,E⟩
 refine wpAny_newObj_type ?_ (by show 3<=sizeLine;decide)
 have Y:Inv X d N L { g with heap:=g.heap.push { cls:=.type "tuple",data:=.seq [n,m,l].toArray } }:=R.kept (t':=g.toks) fun b o e=>Heap.get?_push_of_some _ e
 rw[hw]
 refine wpAny_bind (wpAny_pure ?_)
 show wpAny (model X.prog X.w) X.A (do rule "assign.swapped-stores";let items <- unpackItems (.ref g.heap.objs.size) 3 none;assignInOrder [fun v=>bindName X.env z v,fun v=>bindName X.env y v,fun v=>bindName X.env x v] items.reverse;pure Flow.next) _ _ _
 refine wpAny_bind (wpAny_rule (wpAny_bind (unpackItems_tuple (items:=#[n,m,l]) (I.ok.hd hc) (IsTup.new g.heap _) fun O J=>?_)))
 show wpAny _ _ (assignInOrder [fun v=>bindName X.env z v,fun v=>bindName X.env y v,fun v=>bindName X.env x v] [l,m,n] >>= fun _=>pure Flow.next) _ _ _
 refine wpAny_bind (assignInOrder_cons (wpAny_bindName (Gk (Y.kept (h':=O) (t':=g.toks) fun b o e=>J b o (aM (Heap.lt_size e)) e) hN hk (.inl hz) S (fun s2 Z=>?_) (.inr hz))))
 refine assignInOrder_cons (wpAny_bindName (Gk Z hN hj (.inl hy) F (fun s3 I5=>?_) (.inr hy)))
 refine assignInOrder_cons (wpAny_bindName (Gk I5 hN hi (.inl hx) Q (fun s4 K=>assignInOrder_nil (wpAny_pure ?_)) (.inr hx)))
 rw[dM _ _ (aB hij),dM _ _ (aB hik),dM _ _ (aB hjk)]at K;exact⟨_,L,K,A⟩
end
section
variable {X:Cx}{a b:Expr}{ta tb:TE}{pos:Pos}
def Bu8 (neg:Bool):R2:=fun x y H Q=>∃d ds,Tr H d x/\(Tr H (.list ds) y\/Tr H (.tuple ds) y)/\Flat d/\PyData.canLayAll0 ds=true/\Q (.bl (if neg then !ds.any (fun e=>PyData.eqv e d) else ds.any fun e=>PyData.eqv e d)) H
theorem Yq (hu:X.A.units+64<cLine)(ha:PE X a ta)(hb:PE X b tb)(hm:behindInMarks .NotIn b=false):PT X (.Compare a [.NotIn] [b] pos) (Kw (tOp (Bu8 true) ta tb)):=Mq (A2n hu) ha hb hm
end
end L2
set_option autoImplicit true
namespace L2
open PySem PySem.Spec PyProof.Rows
structure QE (X:Cx) (e:Expr) (t:TE):Prop where
 get:PE X e t
structure QT (X:Cx) (e:Expr) (t:TT):Prop where
 get:PT X e t
structure QW (X:Cx) (e:Expr) (t:TT):Prop where
 get:PW X e t
structure QA (X:Cx) (e:(v_)) (t:TA):Prop where
 get:PA X e t
structure QS (X:Cx) (st:Stmt) (t:TS):Prop where
 get:PS X st t
structure QSs (X:Cx) (st:(List Stmt)) (t:TS):Prop where
 get:PSs X st t
structure QG (X:Cx) (e:Expr) (t:TG):Prop where
 get:PG X e t
structure QGs (X:Cx) (e:(v_)) (t:TGs):Prop where
 get:PGs X e t
structure QO (X:Cx) (e:(Option Expr)) (t:TO):Prop where
 get:PO X e t
structure QK (X:Cx) (e:(List Keyword)) (t:TA):Prop where
 get:PK X e t
structure QTs (X:Cx) (e:(v_)) (t:TT):Prop where
 get:PTs X e t
structure QI (X:Cx) (tg iter:Expr) (wi:TI):Prop where
 get:PI X tg iter wi
theorem Ag  : QE X (.Constant (.int i) j a) (tC (.int i)) :=
 ⟨A8x ⟩
theorem U0  : QE X (.Constant (.bool b) j a) (tC (.bl b)) :=
 ⟨Bl8 ⟩
theorem Jf  : QE X (.Constant .none j a) (tC .non) :=
 ⟨A6z ⟩
theorem Ed  : QE X (.Constant (.str x) j a) (tC (.str x)) :=
 ⟨A8r ⟩
theorem Be5     (hg:Gl X x) (hm:X.mg x=some u) (r:RelV v u) (hd:(x==("__debug__" : Str))=false:=by decide):QE X (.Name x a) (tC v) :=
 ⟨Bi4 (hg:=hg) (hm:=hm) (r:=r) (hd:=hd)⟩
theorem Dp    {a:Pos}(hg:Gl X x) (hm:X.mg x=none) (hv:bootBuiltins x=some u) (r:RelV v u) (hn:x ≠ "__name__" := by decide) (hd:(x==("__debug__" : Str))=false:=by decide):QE X (.Name x a) (tC v) :=
 ⟨Bg2 (hg:=hg) (hm:=hm) (hv:=hv) (r:=r) (hn:=hn) (hd:=hd)⟩
theorem Au1 (ha:QT X a tA):QW X (.BoolOp .And [a] pos) tA :=
 ⟨Bh5 (ha:=ha.get)⟩
theorem Y7 (ha:QT X a tA):QW X (.BoolOp .Or [a] pos) tA :=
 ⟨Bu3 (ha:=ha.get)⟩
theorem A2z (ha:QT X a tA)(hb:QW X (.BoolOp .And (b::rst) pos) tB'):QW X (.BoolOp .And (a::b::rst) pos) (Bn3 tA tB') :=
 ⟨Br4 (ha:=ha.get) (hb:=hb.get)⟩
theorem Ar3 (ha:QT X a tA)(hb:QW X (.BoolOp .Or (b::rst) pos) tB'):QW X (.BoolOp .Or (a::b::rst) pos) (tOr tA tB') :=
 ⟨B3h (ha:=ha.get) (hb:=hb.get)⟩
theorem A9j (ha:QT X a tA):QT X (.UnaryOp .Not a pos) (Bs8 tA) :=
 ⟨By3 (ha:=ha.get)⟩
theorem Vg   (h:QE X a t):QE X (.BoolOp op [a] pos) t :=
 ⟨Bn6 (h:=h.get)⟩
theorem Uh (ha:QE X a ta)(hb:QE X (.BoolOp .And (b::rst) pos) tb):QE X (.BoolOp .And (a::b::rst) pos) (A7p ta tb) :=
 ⟨Bw0 (ha:=ha.get) (hb:=hb.get)⟩
theorem B3f (ha:QE X a ta)(hb:QE X (.BoolOp .Or (b::rst) pos) tb):QE X (.BoolOp .Or (a::b::rst) pos) (Bo0 ta tb) :=
 ⟨B2s (ha:=ha.get) (hb:=hb.get)⟩
theorem A7m (ha:QE X a ta):QE X (.UnaryOp .Not a pos) (A4m ta) :=
 ⟨Br1 (ha:=ha.get)⟩
theorem Pj  (hc:QT X c tA) (ha:QE X a ta) (hb:QE X b tb):QE X (.IfExp c a b pos) (tIf tA ta tb) :=
 ⟨A5e (hc:=hc.get) (ha:=ha.get) (hb:=hb.get)⟩
theorem Bo  : QSs X [] A4f :=
 ⟨Bd5 ⟩
theorem Ah (h1:QS X stm t)(h2:QSs X rst u):QSs X (stm::rst) (A6i t u) :=
 ⟨A7l (h1:=h1.get) (h2:=h2.get)⟩
theorem An (h1:QS X stm t):QSs X [stm] t :=
 ⟨A9n (h1:=h1.get)⟩
theorem Pk (he:QE X e te)(hs:swapsWith e none pos.line X.env=pure false:=by rfl):QS X (.Expr e pos) (A7t te) :=
 ⟨Bh2 (he:=he.get) (hs:=hs)⟩
theorem Bf (he:QE X e te):QS X (.Return (some e) pos) (B0f te) :=
 ⟨By0 (he:=he.get)⟩
theorem Di    (hc:QT X c d) (ha:QSs X a t) (hb:QSs X b u):QS X (.If c a b pos) (Bf7 d t u) :=
 ⟨B2z (hc:=hc.get) (ha:=ha.get) (hb:=hb.get)⟩
theorem Vb  : QS X stm An6 :=
 ⟨A6o ⟩
theorem Dq   (hN:X.N.Nodup) (hi:X.N[i]?=some x) (hx:Loc X.env.scope x) (hf:X.fn x=true\/X.env.scope.names.lookup x=some .local:=by first | exact .inl rfl | exact .inr rfl | assumption):QG X (.Name x pos) (Mz i) :=
 ⟨Bj5 (hN:=hN) (hi:=hi) (hx:=hx) ⟩
theorem Xf  : QGs X [] A9v :=
 ⟨Bi5 ⟩
theorem Jr     (h1:QG X e t) (h2:QGs X es u) (hs:(assignEach (e::es) X.env).map (·.2)=assign e X.env::(assignEach es X.env).map (·.2):=by rfl):QGs X (e::es) (Ac0 t u) :=
 ⟨A8t (h1:=h1.get) (h2:=h2.get) (hs:=hs)⟩
theorem Am1  (a:X.K=Kq)  {k:Nat}   (hc:X.calm=true) (h:QGs X es t) (hn:(assignEach es X.env).length=n:=by rfl) (hst:(assignEach es X.env).findIdx? (·.1)=none:=by rfl):QG X (.Tuple es k pos) (Bb5 Kq n t):=by
 subst a;exact⟨Bs1 (hc:=hc) (h:=h.get) (hn:=hn) (hst:=hst)⟩
theorem A4t    (ho:QE X o b) (hi:QE X i a) (hs:By9 X t) (ha:∀v,assign (.Subscript o i pos) X.env v=(do
 let ov <- holding [v] (eval o X.env)
 let iv <- holding [v,ov] (eval i X.env)
 standAt pos
 holding [v,ov,iv] (setItem ov iv v)
 release [v,ov,iv] []):=by intro _;rfl):QG X (.Subscript o i pos) (Bu4 b a t) :=
 ⟨Bo5 (ho:=ho.get) (hi:=hi.get) (hs:=hs) (ha:=ha)⟩
theorem A4h    (he:QE X e b) (hg:QG X a g) (hs:swapsWithSole [a] e pos.line X.env=pure false:=by rfl) (hw:swappedStores [a] e X.env=pure none:=by rfl) (h1:(assignEach [a] X.env).map (·.2)=[assign a X.env]:=by rfl):QS X (.Assign [a] e pos) (Af6 b g) :=
 ⟨Bx8 (he:=he.get) (hg:=hg.get) (hs:=hs) (hw:=hw) (h1:=h1)⟩
theorem Bl      (hN:X.N.Nodup) (hi:X.N[i]?=some x) (hx:Loc X.env.scope x) (he:QE X e b) (hs:swapsWith e (some (.Name x a)) pos.line X.env=pure false:=by rfl) (hf:X.fn x=true\/X.env.scope.names.lookup x=some .local:=by first | exact .inl rfl | exact .inr rfl | assumption):QS X (.Assign [.Name x a] e pos) (Af6 b (Mz i)) :=
 ⟨Bo1 (hN:=hN) (hi:=hi) (hx:=hx) (he:=he.get) (hs:=hs) ⟩
theorem A3s       (hc:X.calm=true) (hN:X.N.Nodup) (hi:X.N[i]?=some x) (hj:X.N[j]?=some y) (hij:i≠j) (hx:X.env.scope.names.lookup x=some .local) (hy:X.env.scope.names.lookup y=some .local) (ha:QA X [a,b] h) (hw:swappedStores [.Tuple [.Name x e,.Name y d] g f] (.Tuple [a,b] k2 c) X.env=pure (some [x,y])) (hs:swapsWithSole [.Tuple [.Name x e,.Name y d] g f] (.Tuple [a,b] k2 c) pos.line X.env=pure false:=by rfl):QS X (.Assign [.Tuple [.Name x e,.Name y d] g f] (.Tuple [a,b] k2 c) pos) (Bv3 i j h) :=
 ⟨By8 (hc:=hc) (hN:=hN) (hi:=hi) (hj:=hj) (hij:=hij) (hx:=hx) (hy:=hy) (ha:=ha.get) (hw:=hw) ⟩
theorem Nt  (a:X.K=Kq)   (hl:QE X l b):QI X c l (B0p Kq b):=by
 subst a;exact⟨Bu0 (hl:=hl.get)⟩
theorem Hj    (hg:Gl X "range") (hm:X.mg "range" = none) (ha:QA X [a] c) (hs:starEach [a] X.env=[(false,eval a X.env)]:=by rfl):QI X tg (.Call (.Name "range" p) [a] [] b) (A4n c) :=
 ⟨A1c (hg:=hg) (hm:=hm) (ha:=ha.get) (hs:=hs)⟩
theorem Nq       (hp:PassesOwn (model X.prog X.w) X.A X.env X.xe) (hc:X.calm=true) (hi:QI X tg a c) (hg:QG X tg g) (hb:QSs X body d) (hs:∀x,foldedSetIterable a X.env x=pure x:=by intro _;rfl):QS X (.For tg a body [] b) (Bn2 c g d) :=
 ⟨Bs4 (hp:=hp) (hc:=hc) (hi:=hi.get) (hg:=hg.get) (hb:=hb.get) (hs:=hs)⟩
theorem Ib   (h:QE X e t) (he:∀whole,isTrue e X.env whole=(do let v <- whole;standAt e.pos;holding [v] (truthy v)):=by intro _;rfl):QT X e (tB t) :=
 ⟨Bv5 (h:=h.get) (he:=he)⟩
theorem Ae  : QA X [] Fl :=
 ⟨Xd ⟩
theorem Af (ha:QE X e te)(hr:QA X es t)(hs:isStar e=false:=by rfl):QA X (e::es) (Ca te t) :=
 ⟨Bv2 (ha:=ha.get) (hr:=hr.get) (hs:=hs)⟩
theorem Df  (h:QA X es t):QE X (.Tuple es a pos) (A7d t) :=
 ⟨Bn1 (h:=h.get)⟩
theorem Ek (h:QA X es t):QE X (.List es pos) (Bo2 t) :=
 ⟨Bt4 (h:=h.get)⟩
theorem Ae8 (F:FnOk X.prog X.w X.K X.mg X.base CX k f fd ps sp)(hr:Room k X.A)(hg:Gl X x)(hm:X.mg x=some (.ref f))(hk:PySem.W.keepIn X.K (.ref f)=true)(hb:Binds X.K fd ps ds)(hd:Vals dvs ds)(hx:Pz CX X E)(ha:QA X (e::es) t)(hdb:(x==("__debug__" : Str))=false:=by decide) (hn:noStar (e::es)=true:=by rfl):QE X (.Call (.Name x p) (e::es) [] pos) (Qx sp dvs E t) :=
 ⟨A3v (F:=F) (hr:=hr) (hg:=hg) (hm:=hm) (hk:=hk) (hb:=hb) (hd:=hd) (hx:=hx) (ha:=ha.get) (hdb:=hdb) (hn:=hn)⟩
theorem Bs6  : QK X [] Fl :=
 ⟨Bv4 ⟩
theorem Bj3 (ha:QE X e te)(hr:QK X kws t):QK X (⟨nm,e,kpos⟩::kws) (Ca te t) :=
 ⟨Be0 (ha:=ha.get) (hr:=hr.get)⟩
theorem Sg  : QO X none X6 :=
 ⟨Bf4 ⟩
theorem Im (h:QE X e te):QO X (some e) (A3u te) :=
 ⟨Be6 (h:=h.get)⟩
theorem A7e  (hr:SlR X r) (he:QE X e te) (hl:QO X low tl) (hu:QO X hi th):QE X (.Subscript e (.Slice low hi none p2) pos) (tSl r te tl th) :=
 ⟨A9k (hr:=hr) (he:=he.get) (hl:=hl.get) (hu:=hu.get)⟩
theorem Bl4  (hr:IxR X r) (ha:QE X a ta) (hb:QE X b tb) (hs:Jy b):QE X (.Subscript a b pos) (tOp r ta tb) :=
 ⟨B1t (hr:=hr) (ha:=ha.get) (hb:=hb.get) (hs:=hs)⟩
theorem Au5  (a:X.K=Kq) (pa:PlainAttrs T) (slot:Slot T name idn) (hty:typeOf (.builtin idn)=pure (.type "method_descriptor")) (hm:MtR X idn r) (ho:QE X o to) (ha:QA X (e::es) t) (hbase:attributeBase o name X.env (eval o X.env)=eval o X.env:=by rfl) (hfew:((backTo cpos (starEach (e::es) X.env)).all (fun x=>!x.1)&&(backToKw cpos (keywordEach [] X.env)).all (fun x=>x.1.isSome)
 && decide ((e::es).length+([]:List Keyword).length+(if ([]:List Keyword).isEmpty then 0 else 1)<30))=true:=by rfl) (hline:(apos.endLine==cpos.line)=true:=by rfl) (hs:starEach (e::es) X.env=(false,eval e X.env)::starEach es X.env:=by rfl) (hplain:(backTo cpos (starEach es X.env)).any (·.1)=false:=by rfl):QE X (.Call (.Attribute o name apos) (e::es) [] cpos) (tBM Kq T r to t):=by
 subst a;exact⟨Bl3 (pa:=pa) (slot:=slot) (hty:=hty) (hm:=hm) (ho:=ho.get) (ha:=ha.get) (hbase:=hbase) (hfew:=hfew) (hline:=hline) (hs:=hs) (hplain:=hplain)⟩
theorem Jj  (b:X.K=Kq) (ho:QE X a ta) (hv:QE X e te) (hbase:attributeBase a "append" X.env (eval a X.env)=eval a X.env:=by rfl) (hfew:((backTo cpos (starEach [e] X.env)).all (fun x=>!x.1)&&(backToKw cpos (keywordEach [] X.env)).all (fun x=>x.1.isSome)
 && decide ([e].length+([]:List Keyword).length+(if ([]:List Keyword).isEmpty then 0 else 1)<30))=true:=by rfl) (hline:(apos.endLine==cpos.line)=true:=by rfl) (hns:isStar e=false:=by rfl):QE X (.Call (.Attribute a "append" apos) [e] [] cpos) (tBM Kq "list" rAppF ta (Ca te Fl)):=by
 subst b;exact⟨A0n (ho:=ho.get) (hv:=hv.get) (hbase:=hbase) (hfew:=hfew) (hline:=hline) (hns:=hns)⟩
theorem Ip  : QTs X [] B0a :=
 ⟨Bj2 ⟩
theorem Uv (L:Hd X N' idx scope)(hc:X.calm=true)(hi:QI X tg iter wi)(hg:∀d C b a c,QG (Er X N' scope d C b a c) tg g)(ht:∀d C b a c,QTs (Er X N' scope d C b a c) ifs tc)(he:∀d C b a c,QE (Er X N' scope d C b a c) elt te)(hs:∀x,foldedSetIterable iter X.env x=pure x:=by intro _;rfl):QE X (.ListComp elt [⟨tg,iter,ifs,0⟩] scope pos) (tLC idx wi g tc te) :=
 ⟨B1j (L:=L) (hc:=hc) (hi:=hi.get) (hg:=fun d C b a c=>(hg _ C _ _ _).get) (ht:=fun d C b a c=>(ht _ C _ _ _).get) (he:=fun d C b a c=>(he _ C _ _ _).get) (hs:=hs)⟩
theorem A6g   {f d:Pos}(hN:X.N.Nodup) (hi':X.N[i]?=some y) (hy:Loc X.env.scope y) (L:Hd X N' idx scope) (hc:X.calm=true) (hi:QI X tg iter wi) (hg:∀e C b a c,QG (Er X N' scope e C b a c) tg g) (ht:∀e C b a c,QTs (Er X N' scope e C b a c) ifs tc) (he:∀e C b a c,QE (Er X N' scope e C b a c) elt te) (hsw:swapsWith (.ListComp elt [⟨tg,iter,ifs,0⟩] scope pos) (some (.Name y f)) d.line X.env=pure true:=by rfl) (hf:X.fn y=true\/X.env.scope.names.lookup y=some .local:=by first | exact .inl rfl | exact .inr rfl | assumption) (hs:∀x,foldedSetIterable iter X.env x=pure x:=by intro _;rfl):QS X (.Assign [.Name y f] (.ListComp elt [⟨tg,iter,ifs,0⟩] scope pos) d) (Af6 (tLC idx wi g tc te) (Mz i)) :=
 ⟨A8h (hN:=hN) (hi':=hi') (hy:=hy) (L:=L) (hc:=hc) (hi:=hi.get) (hg:=fun e C b a c=>(hg _ C _ _ _).get) (ht:=fun e C b a c=>(ht _ C _ _ _).get) (he:=fun e C b a c=>(he _ C _ _ _).get) (hsw:=hsw)  (hs:=hs)⟩
theorem Fy (ha:QE X a ta)(hb:QE X b tb):QE X (.BinOp a .Sub b pos) (tOp (rI0 fun i j=>.int (i-j)) ta tb) :=
 ⟨Az5 (ha:=ha.get) (hb:=hb.get)⟩
theorem Hm (ha:QE X a ta)(hb:QE X b tb):QE X (.BinOp a .Mult b pos) (tOp (rI CMul fun i j=>.int (i*j)) ta tb) :=
 ⟨Ax7 (ha:=ha.get) (hb:=hb.get)⟩
theorem Uc (ha:QE X a ta)(hb:QE X b tb):QE X (.BinOp a .FloorDiv b pos) (tOp (rI A8i fun i j=>.int (i / j)) ta tb) :=
 ⟨An5 (ha:=ha.get) (hb:=hb.get)⟩
theorem Gv (ha:QE X a ta)(hb:QE X b tb):QE X (.BinOp a .Mod b pos) (tOp (rI (fun _ j=>0<j) fun i j=>.int (i % j)) ta tb) :=
 ⟨A2e (ha:=ha.get) (hb:=hb.get)⟩
theorem Hk (ha:QE X a ta)(hb:QE X b tb):QE X (.BinOp a .Pow b pos) (tOp (rI A4g fun i j=>.int (i ^ j.toNat)) ta tb) :=
 ⟨A1b (ha:=ha.get) (hb:=hb.get)⟩
theorem Ag1 (ha:QE X a ta)(hb:QE X b tb):QT X (.Compare a [.Lt] [b] pos) (Kw (tOp (rI0 fun i j=>.bl (decide (i<j))) ta tb)) :=
 ⟨A3i (ha:=ha.get) (hb:=hb.get)⟩
theorem Ad9 (ha:QE X a ta)(hb:QE X b tb):QT X (.Compare a [.Gt] [b] pos) (Kw (tOp (rI0 fun i j=>.bl (decide (j<i))) ta tb)) :=
 ⟨A6j (ha:=ha.get) (hb:=hb.get)⟩
theorem A8s (ha:QE X a ta)(hb:QE X b tb):QE X (.Compare a [.GtE] [b] pos) (tOp (rI0 fun i j=>.bl (decide (j<=i))) ta tb) :=
 ⟨A2x (ha:=ha.get) (hb:=hb.get)⟩
theorem Jk (ha:QE X a ta)(hb:QE X b tb):QT X (.Compare a [.Is] [b] pos) (Kw (tOp (fun x y H Q=>y=.non/\Q (.bl (decide (x=.non))) H) ta tb)) :=
 ⟨A1u (ha:=ha.get) (hb:=hb.get)⟩
theorem Al8 (ha:QE X a ta)(hb:QE X b tb):QE X (.Compare a [.IsNot] [b] pos) (tOp (fun x y H Q=>y=.non/\Q (.bl (!decide (x=.non))) H) ta tb) :=
 ⟨Ap2 (ha:=ha.get) (hb:=hb.get)⟩
theorem Qy  (a:X.K=Kq) (hgl:Gl X "abs") (hm:X.mg "abs" = none) (ha:QA X (e::es) t) (hns:noStar (e::es)=true:=by rfl):QE X (.Call (.Name "abs" p) (e::es) [] pos) (tCB (Ny Kq) t):=by
 exact⟨Ad5 (hgl:=hgl) (hm:=hm) (ha:=ha.get) (hns:=hns)⟩
theorem Bw  (a:X.K=Kq) (hgl:Gl X "isinstance") (hm:X.mg "isinstance" = none) (ha:QA X (e::es) t) (hns:noStar (e::es)=true:=by rfl):QE X (.Call (.Name "isinstance" p) (e::es) [] pos) (tCB (M9 Kq) t):=by
 exact⟨Aa5 (hgl:=hgl) (hm:=hm) (ha:=ha.get) (hns:=hns)⟩
theorem Yn  (a:X.K=Kq) (hgl:Gl X "isinstance") (hm:X.mg "isinstance" = none) (ha:QA X (e::es) t) (hns:noStar (e::es)=true:=by rfl):QE X (.Call (.Name "isinstance" p) (e::es) [] pos) (tCB (Ik Kq) t):=by
 exact⟨Xy (hgl:=hgl) (hm:=hm) (ha:=ha.get) (hns:=hns)⟩
theorem Zd  (a:X.K=Kq) (hc:X.calm=true) (hgl:Gl X "all") (hm:X.mg "all" = none) (ha:QA X (e::es) t) (hns:noStar (e::es)=true:=by rfl):QE X (.Call (.Name "all" p) (e::es) [] pos) (tCB (Le Kq) t):=by
 subst a;exact⟨Xm (hc:=hc) (hgl:=hgl) (hm:=hm) (ha:=ha.get) (hns:=hns)⟩
theorem N8  (a:X.K=Kq) (hgl:Gl X "int") (hm:X.mg "int" = none) (ha:QA X (e::es) t) (hns:noStar (e::es)=true:=by rfl):QE X (.Call (.Name "int" p) (e::es) [] pos) (tCB (Li Kq) t):=by
 exact⟨Y9 (hgl:=hgl) (hm:=hm) (ha:=ha.get) (hns:=hns)⟩
theorem Bd  (a:X.K=Kq) (hgl:Gl X "tuple") (hm:X.mg "tuple" = none) (ha:QA X (e::es) t) (hns:noStar (e::es)=true:=by rfl):QE X (.Call (.Name "tuple" p) (e::es) [] pos) (tCB (G8 Kq) t):=by
 subst a;exact⟨Qm (hgl:=hgl) (hm:=hm) (ha:=ha.get) (hns:=hns)⟩
theorem Hb  (a:X.K=Kq) (hgl:Gl X "list") (hm:X.mg "list" = none) (ha:QA X (e::es) t) (hns:noStar (e::es)=true:=by rfl):QE X (.Call (.Name "list" p) (e::es) [] pos) (tCB (Hy Kq) t):=by
 subst a;exact⟨Rq (hgl:=hgl) (hm:=hm) (ha:=ha.get) (hns:=hns)⟩
theorem Xz  (a:X.K=Kq) (hc:X.calm=true) (hgl:Gl X "min") (hm:X.mg "min" = none) (ha:QA X (e::es) t) (hns:noStar (e::es)=true:=by rfl):QE X (.Call (.Name "min" p) (e::es) [] pos) (tCB (K1 Kq) t):=by
 exact⟨Zm (hc:=hc) (hgl:=hgl) (hm:=hm) (ha:=ha.get) (hns:=hns)⟩
theorem Bt2   {p e d:Pos}{c:v_}{g:Nat}(hg:Gl X "zip") (hm:X.mg "zip" = none) (ha:QA X [a,b] f) (hs1:isStar a=false:=by rfl) (hs2:isStar b=false:=by rfl):QI X (.Tuple c g d) (.Call (.Name "zip" p) [a,b] [] e) (By7 f) :=
 ⟨Bu1 (hg:=hg) (hm:=hm) (ha:=ha.get) (hs1:=hs1) (hs2:=hs2)⟩
theorem Bi7      (hg:Gl X "enumerate") (hm:X.mg "enumerate" = none) (ha:QA X [a] e) (hs1:isStar a=false:=by rfl):QI X (.Tuple b f c) (.Call (.Name "enumerate" p) [a] [] d) (A3b e) :=
 ⟨Bc2 (hg:=hg) (hm:=hm) (ha:=ha.get) (hs1:=hs1)⟩
theorem Bd1 {i j k:Nat}{x y z:Str}{a b c:Expr}{m:TA}{f g e h:Pos}{l k2 d}(hc:X.calm=true)(hN:X.N.Nodup)(hi:X.N[i]?=some x)(hj:X.N[j]?=some y)(hk:X.N[k]?=some z)(hij:i≠j)(hik:i≠k)(hjk:j≠k)(hx:X.env.scope.names.lookup x=some .local)(hy:X.env.scope.names.lookup y=some .local)(hz:X.env.scope.names.lookup z=some .local)(ha:QA X [a,b,c] m)(hw:swappedStores [.Tuple [.Name x f,.Name y g,.Name z e] l h] (.Tuple [a,b,c] k2 d) X.env=pure (some [x,y,z]))(hs:swapsWithSole [.Tuple [.Name x f,.Name y g,.Name z e] l h] (.Tuple [a,b,c] k2 d) pos.line X.env=pure false:=by rfl):QS X (.Assign [.Tuple [.Name x f,.Name y g,.Name z e] l h] (.Tuple [a,b,c] k2 d) pos) (A6w i j k m) :=
 ⟨Bd3 (hc:=hc) (hN:=hN) (hi:=hi) (hj:=hj) (hk:=hk) (hij:=hij) (hik:=hik) (hjk:=hjk) (hx:=hx) (hy:=hy) (hz:=hz) (ha:=ha.get) (hw:=hw) ⟩
theorem Fi (hu:X.A.units+64<cLine)(ha:QE X a ta)(hb:QE X b tb)(hm:behindInMarks .NotIn b=false):QT X (.Compare a [.NotIn] [b] pos) (Kw (tOp (Bu8 true) ta tb)) :=
 ⟨Yq (hu:=hu) (ha:=ha.get) (hb:=hb.get) (hm:=hm)⟩
theorem Qg    (h:Oe es=some vs):QA X es (tK vs):=⟨V6 h⟩
theorem QW.qt    (h:QW X e t):QT X e t:=⟨h.get.pt⟩
theorem qv (i:Nat)  {a:Pos}(hN:X.N[i]?=some x:=by rfl) (hv:Vis X.env.scope x:=by first | exact Or.inl rfl | exact Or.inr (Or.inl rfl) | exact Or.inr (Or.inr rfl)) (hd:(x==("__debug__" : Str))=false:=by decide) (hcd:(x==("__classdict__" : Str))=false:=by decide):QE X (.Name x a) (Rj i):=⟨A5y hN hv hd hcd⟩
end L2
namespace L2
open PySem
theorem G3       (h:QSs X st t) (k:t D a H):∃t,PSs X st t/\t D a H:=⟨t,h.get,k⟩
theorem Rk:Eg "NoneType" "int" = some false:=by trivial
theorem Ro:Eg "NoneType" "str" = some false:=by trivial
theorem Qk:Eg "NoneType" "bool" = some false:=by trivial
theorem Qd:Eg "NoneType" "list" = some false:=by trivial
theorem Pa:Eg "NoneType" "tuple" = some false:=by trivial
theorem Aa3:Eg "bool" "int" = some true:=by trivial
theorem Ag2:Eg "bool" "str" = some false:=by trivial
theorem Zn:Eg "bool" "bool" = some true:=by trivial
theorem Zk:Eg "bool" "list" = some false:=by trivial
theorem Vt:Eg "bool" "tuple" = some false:=by trivial
theorem Al2:Eg "int" "int" = some true:=by trivial
theorem Am7:Eg "int" "str" = some false:=by trivial
theorem Ad7:Eg "int" "bool" = some false:=by trivial
theorem Ag7:Eg "int" "list" = some false:=by trivial
theorem Xx:Eg "int" "tuple" = some false:=by trivial
theorem Aj9:Eg "str" "int" = some false:=by trivial
theorem Ai9:Eg "str" "str" = some true:=by trivial
theorem Af4:Eg "str" "bool" = some false:=by trivial
theorem Ag5:Eg "str" "list" = some false:=by trivial
theorem Ys:Eg "str" "tuple" = some false:=by trivial
theorem Zw:Eg "list" "int" = some false:=by trivial
theorem Ae2:Eg "list" "str" = some false:=by trivial
theorem Xc:Eg "list" "bool" = some false:=by trivial
theorem Yy:Eg "list" "list" = some true:=by trivial
theorem Vu:Eg "list" "tuple" = some false:=by trivial
theorem Yl:Eg "tuple" "int" = some false:=by trivial
theorem Xo:Eg "tuple" "str" = some false:=by trivial
theorem Vn:Eg "tuple" "bool" = some false:=by trivial
theorem Vk:Eg "tuple" "list" = some false:=by trivial
theorem Tn:Eg "tuple" "tuple" = some true:=by trivial
section
variable {K:v9}{H:Hp}{Q:VK}{x:V}{T:String}{i j:Int}{a p:Addr}
theorem Bp1  (h:H a=some (.lst xs)):M6 H (.ref a)=some "list" := by simp only[M6,h]
theorem By2  (h:H a=some (.tup xs)):M6 H (.ref a)=some "tuple" := by simp only[M6,h]
theorem Ba9  (h:H a=some (.lst xs)):A0u H (.ref a)=some xs.length:=by simp only[A0u,h]
theorem Bf9  (h:H a=some (.tup xs)):A0u H (.ref a)=some xs.length:=by simp only[A0u,h]
end
abbrev g2 (K:v9)(i j:Nat):TG:=Bb5 K 2 (Ac0 (Mz i) (Ac0 (Mz j) A9v))
theorem exc {R:Addr->Addr->l_->l_->Prop}{x y:Addr}:(∃a b xs ys,V.ref x=V.ref a/\V.ref y=V.ref b/\R a b xs ys)↔∃xs ys,R x y xs ys:=by
 constructor
 ·rintro⟨a,b,xs,ys,e1,e2,h⟩;cases e1;cases e2;exact⟨xs,ys,h⟩
 ·rintro⟨xs,ys,h⟩;exact⟨x,y,xs,ys,rfl,rfl,h⟩
mutual
def noL:t_->Bool
 | .none=>true
 | .bool _=>true
 | .int _=>true
 | .str _=>true
 | .tuple ds=>B2u ds
 | .list _=>false
 | .dict _=>false
def B2u:w5->Bool
 | []=>true
 | d::r=>noL d&&B2u r
end
theorem TrL.got {H:Hp}:∀{ds:w5}{vs:l_}{k:Nat}{d:t_},TrL H ds vs->ds[k]?=some d->∃v,vs[k]?=some v/\Tr H d v
 | [],_,k,d,h,e=>by simp at e
 | d::r,_,0,_,⟨v,_,rfl,q,_⟩,e=>by simp at e;subst e;exact⟨v,rfl,q⟩
 | d::r,_,k+1,_,⟨_,_,rfl,_,q⟩,e=>by simp at e;simpa using TrL.got q e
theorem TrL.app {H:Hp}:∀{ds es:w5}{vs us:l_},TrL H ds vs->TrL H es us->TrL H (ds++es) (vs++us)
 | [],es,_,us,h,q=>by cases (show _=[] from h);exact q
 | d::r,es,_,us,⟨v,vr,rfl,q1,q2⟩,q=>⟨v,vr++us,rfl,q1,TrL.app q2 q⟩
theorem TrL.one    (h:Tr H d v):TrL H [d] [v]:=⟨v,[],rfl,h,rfl⟩
end L2
namespace L2
open PySem PySem.Spec PyProof.Rows
end L2
namespace L2
open PySem
mutual
def wt:t_->Nat
 | .none=>4
 | .bool _=>5
 | .int _=>1921
 | .str x=>10*x.length+2
 | .list xs=>Hu xs+4
 | .tuple xs=>Hu xs+4
 | .dict _=>0
def Hu:w5->Nat
 | []=>0
 | x::xs=>wt x+2+Hu xs
end
theorem Ah0:∀(ts:v4) (k:Nat) (acc:Str),(textFrom k acc ts).length<=acc.length+(ts.map fun t=>t.length+2).sum
 | [],k,acc=>ak _
 | t::r,k,acc=>by
  have ih:=Ah0 r (k+1) (acc++(if k>0 then ", " else "" : String)++t)
  have e:(acc++(if k>0 then ", " else "" : String)++t).length<=acc.length+2+t.length:=by
   rw[strLen_append,strLen_append]
   split
   ·exact ak _
   ·show acc.length+0+t.length<=_;(first|lia|omega)
  show (textFrom (k+1) (acc++(if k>0 then ", " else "" : String)++t) r).length<=_
  rw[aQ,List.sum_cons];(first|lia|omega)
theorem A4i (ts:v4):(listText ts).length<=(ts.map fun t=>t.length+2).sum+4:=by
 unfold listText;rw[strLen_append]
 have:=Ah0 ts 0 "["
 have b:("[" : Str).length=1:=rfl
 have a:("]" : Str).length=1:=rfl
 (first|lia|omega)
theorem Wz:∀ts:v4,piled ts=(ts.map fun t=>t.length+2).sum
 | []=>rfl
 | t::r=>by rw[piled_cons,aQ,List.sum_cons,Wz r]
theorem A0w (ts:v4):(tupleText ts).length<=(ts.map fun t=>t.length+2).sum+4:=by
 unfold tupleText;rw[strLen_append,strLen_append]
 have b:("(" : Str).length=1:=rfl
 have c:(if ts.length==1 then (",)" : Str) else (")" : Str)).length<=2:=by split <;> decide
 have a:((if ts.length==1 then ",)" else ")" : String):Str).length<=2:=by grind
 by_cases h:ts=[]
 ·subst h;show 1+0+_<=_;grind
 ·have:=join_length_add _ h
  rw[Wz]at this;(first|lia|omega)
mutual
theorem Ac5:∀d:t_,d.canLay0=true->d.showable=true->d.shown.length<=wt d
 | .none,_,_=>by decide
 | .bool b,_,_=>by cases b <;> decide
 | .int i,_,h=>PyProof.Rows.int_text_len_1921 (by simpa[PyData.showable] using h)
 | .str x,h,_=>StrLaws.reprText_len x fun c hc=>by
  have h:x.cps.all (·<0x110000)=true:=h
  have:=Array.all_eq_true_iff_forall_mem.mp h c (Array.mem_toList_iff.mp hc);have:=aL this;(first|lia|omega)
 | .list xs,h,s=>aj (A4i _) (Nat.add_le_add_right (K4 xs h s) 4)
 | .tuple xs,h,s=>aj (A0w _) (Nat.add_le_add_right (K4 xs h s) 4)
 | .dict kv,h,_=>nomatch h
theorem K4:∀ds:w5,PyData.canLayAll0 ds=true->PyData.showableAll ds=true->((PyData.shownAll ds).map fun t=>t.length+2).sum<=Hu ds
 | [],_,_=>ak _
 | d::r,h,s=>by
  obtain⟨h1,h2⟩:=aq.mp (show (d.canLay0&&PyData.canLayAll0 r)=true from h)
  obtain⟨s1,s2⟩:=aq.mp (show (d.showable&&PyData.showableAll r)=true from s)
  have a:=Ac5 d h1 s1;have b:=K4 r h2 s2
  show (((d.shown::PyData.shownAll r).map fun t=>t.length+2).sum)<=wt d+2+Hu r
  rw[aQ,List.sum_cons];(first|lia|omega)
end
end L2
namespace L2
open PySem PySem.Spec PyProof.Rows
end L2
namespace HT
open PySem PySem.Spec PyProof.Rows
end HT
namespace L2
open PySem PySem.Spec PyProof.Rows
section
variable {X:Cx}
def Bm6 (y:Str):Value->Bool
 | .str z _=>z==y
 | _=>false
theorem Au8:∀{ss:v4}{us:w6},Vals (ss.map V.str) us->∀u∈us,∃z t,u=.str z t
 | [],_,r,u,hu=>by cases r;cases hu
 | s::ss,_,r,u,hu=>by
  cases r with
  | cons r1 r2 =>
   rcases au.mp hu with rfl | hu
   ·obtain⟨t,rfl⟩:=r1;exact⟨s,t,rfl⟩
   ·exact Au8 r2 u hu
end
end L2
namespace HT
open PySem PySem.Spec PyProof.Rows
section
variable {prog:u6}{w:World}{A:q_}{E:z_}{s:u_}
theorem Mu    {lo hi:p_}  (ht:IsTup s.heap t items) (hs:s.heap.IsSliceOf b g f .none) (pl:IsPart g lo) (i:IsPart f hi)
 (hw:sIx items.size 0 lo=0/\sIx items.size items.size hi=items.size) (h:Q (.ref t) s):wpAny (model prog w) A (getItem (.ref t) (.ref b)) Q E s:=by
 obtain⟨k,d,c,j⟩:=id hs;have e:s.TypeIs (.ref b) "slice" := ⟨k,d,c⟩;unfold getItem
 try with_reducible refine wpAny_holding ?_
 first | refine wpAny_bind (wpAny_pure ?_) | skip
 refine wpAny_bind (wpAny_sequenceKey ht.typeIs (by decide) ?_)
 refine wpAny_bind (wpAny_callSpecial?_slot (name:="__getitem__") ht.typeIs cU
  (wpAny_call_entry cU ht.typeIs entry_tuple_getitem ?_ (args_tuple_getitem _ _)))
 show wpAny _ _ (Builtin.Tuple.tupleItemsOf (.ref t) >>= _) _ _ s
 refine wpAny_bind (tupleItemsOf_ ht ?_)
 refine wpAny_bind (wpAny_typeOf e ?_)
 rw[if_pos (by decide)]
 refine wpAny_bind (Jl hs pl i ?_)
 show wpAny _ _ (if (((sIx items.size 0 lo:Nat):Int)==0&&(1:Int)==1&&(sIx _ _ _-sIx _ 0 _)==items.size)=true then _ else _) _ _ s
 have a:(((sIx items.size 0 lo):Int)==0&&(1:Int)==1&&sIx items.size items.size hi-sIx items.size 0 lo==items.size)=true:=by
  rw[hw.1,hw.2];simp
 rw[if_pos a]
 refine wpAny_bind  (wpAny_bind (wpAny_typeOf ht.typeIs (wpAny_pure ?_)))
 refine wpAny_bind (wpAny_rule ?_)
 first
  | exact wpAny_pure ⟨_,rfl,wpAny_pure h⟩
  | exact wpAny_bind _
  | exact wpAny_bind _
  | trace_state
end
end HT
namespace L2
open PySem PySem.Spec PyProof.Rows
section
variable {X:Cx}
def Bm0 (K:v9):V->p_->p_->Hp->VK->Prop:=fun x lo hi H Q=>∃a xs,x=.ref a/\SqT K H a xs /\
 (HT.sIx xs.length 0 lo=0/\HT.sIx xs.length xs.length hi=xs.length)/\Q (.ref a) H
theorem Bj8:SlR X (Bm0 X.K):=by
 intro d s σ H x v vl vu lo hi sl Q I k f g e h;obtain⟨a,xs,rfl,j,hw,q⟩:=h
 cases k
 obtain⟨i,r,c,hz⟩:=I.tuple j
 have b  := by exact r.length.symm
 refine⟨"tuple",_,cU.lookup,c.typeIs,?_⟩
 exact HT.Mu c f g e (by grind) ⟨.ref a,H,I,rfl,q⟩
end
theorem M3 (l:Addr)(items:v7)(n:Nat)(dd:Option Addr)(sl:Array (u9))(x:Value)(e:Value->Bool)(j:Nat)(hj:j<items.size)
 (p:e items[j]=true) (hno:∀m (hm:m<items.size),m<j->e items[m]=false) :
 Meets (Builtin.«tuple.index» ⟨[.ref l,x],[]⟩)
  (fun A R s=>s.heap.get? l=some { cls:=.type "tuple",dict:=dd,data:=.seq items n,slots:=sl }/\(∀y,y∈items->SeqAt.EqAt A.in1 s y x (e y))/\R (.ok (.ret (.int j s.toks))) { s with toks:=s.toks+1 }) :=
 .of_wp fun f w A R s h=>by
  obtain⟨hp,g,d,tk,os⟩:=s;obtain⟨hl,he,h⟩:=h
  wp_walk using wpAny_loadPart' hl
  change wpAny _ _ (forIn (m:=Sem) [:min items.size items.size] ((none,()):Option Fin×Unit) _) _ _ _
  rw[Std.Legacy.Range.forIn_eq_forIn_range'];simp only[Std.Legacy.Range.size,cQ,Nat.add_sub_cancel,Nat.div_one,d_]
  refine wpAny_forIn_list _ (fun a b s'=>b.1=none/\s'=⟨hp,g,d,tk,os⟩/\∃i,i<=j/\a=List.range' i (items.size-i)) _ ?_ ?_ _ _ ⟨rfl,rfl,0,aD _,rfl⟩
  ·rintro y a b s' ⟨hb,rfl,i,c,k⟩
   have o:i<items.size:=bc c hj;have hd:items.size-i=(items.size-(i+1))+1:=(Nat.succ_pred_eq_of_pos (Nat.sub_pos_of_lt o)).symm;rw[hd,List.range'_succ]at k
   cases k
   have hg:items[y]?=some items[y]:=by simp[o]
   simp only[hg]
   refine wpAny_bind (he _ (Array.getElem_mem o) f w _ _ ?_)
   rcases Nat.lt_or_eq_of_le c with lt | rfl
   ·rw[hno y o lt]
    wp_walk
    exact⟨rfl,rfl,y+1,lt,rfl⟩
   ·rw[p]
    wp_walk
    exact⟨_,rfl,h⟩
  ·rintro⟨b1,b2⟩ s' ⟨hb,rfl,i,c,k⟩
   have hz:=bO List.length k
   simp at hz
   (first|lia|omega)
section
variable {X:Cx}
theorem A3k (y:Str){ss:v4}  (r:Vals (ss.map V.str) us)  (hm:m<us.length) (h2:m<ss.length):Bm6 y us[m]=(ss[m]==y):=by
 obtain⟨u,a,b⟩:=r.get (i:=m) (x:=V.str ss[m]) (by grind)
 obtain⟨t,rfl⟩:=b;rw[bR hm]at a
 injection a with a
 rw[a];rfl
def Za (K:v9):V->l_->Hp->VK->Prop:=fun x vs H Q=>∃(a:Addr) (ss:v4) (y:Str) (j:Nat),x=.ref a/\vs=[.str y]/\SqT K H a (ss.map V.str)/\ss[j]?=some y/\(∀m<j,ss[m]?≠some y)/\Q (.int (j:Nat)) H
theorem Ay2:MtM X "tuple.index" (Za X.K):=by
 intro i s σ H x vs v us Q I D A h;obtain⟨a,C,y,j,rfl,rfl,G,B,M,q⟩:=h
 cases D
 obtain⟨u,rfl,p⟩:=A.one;obtain⟨t,rfl⟩:=p;obtain⟨b,r,l,hz⟩:=I.tuple G
 obtain⟨o,e,k,n,f⟩:=(show s.heap.IsTuple a b.toArray from l)
 obtain⟨c0,dd,E,sl⟩:=o
 dsimp only at k f
 subst k f
 have c  := by have:=r.length;simpa using this.symm
 obtain⟨g,ej⟩:=bG.mp B
 refine call_meets F.slot_tuple_index ⟨_,e,rfl⟩ F.entry_tuple_index (F.args_tuple_index_2 _ _) (M3 a _ n _ _ _ (Bm6 y) j (by simpa[c] using g) ?_ ?_) ⟨e,fun w K=>?_,?_⟩
 ·have:=A3k y r  (by (first|lia|omega)) g
  simp_all
 ·intro m J L
  have:=A3k y r  (by simpa using J) (by (first|lia|omega))
  grind
 ·obtain⟨z,t',rfl⟩:=Au8 r w (by simpa using K)
  exact SeqAt.EqAt.str_str z _ y t
 ·exact⟨.int _,H,I.tok _,⟨_,rfl⟩,q⟩
theorem Am9  (a:X.K=Kq):MtM X "tuple.index" (Za Kq):=by
 subst a;exact Ay2
end
section
variable {X:Cx}
def B4f:V->Option Str
 | .non=>some (Str.ofString "None")
 | .bl b=>some (if b then Str.ofString "True" else Str.ofString "False")
 | .str x=>some x
 | _=>none
def Qt (K:v9):l_->Hp->VK->Prop:=fun xs H Q=>∃x z,xs=[x]/\B4f x=some z/\Q (.str z) H
theorem A1p:CallR X (.type "str") (Qt X.K):=by
 intro d s σ H xs us Q I r h;obtain⟨x,z,rfl,a,q⟩:=h;obtain⟨u,rfl,c⟩:=vals1 r
 cases x with
 | non=>cases a;cases (c);exact P.str_of_none ⟨.str _,H,I.tok _,⟨_,rfl⟩,q⟩
 | bl b=>cases a;cases (c);exact P.str_of_bool ⟨.str _,H,I.tok _,⟨_,by trivial⟩,q⟩
 | str y=>cases a;obtain⟨t,rfl⟩:=c;exact P.str_of_str ⟨.str _,H,I,⟨_,rfl⟩,q⟩
 | _=>cases a
end
section
variable {X:Cx}
def B3r (ks:v4)(xs:l_):List (Key×V):=(ks.zip xs).map fun p=>((Sum.inr p.1:Key),p.2)
end
end L2
namespace L2
open PySem PySem.Spec PyProof.Rows PySem.W
section
open PySem.SeqAt
open PySem.AutoSeq1 (wpAny_loadPart')
open PySem.MeetsSeq PySem.MeetsSeq2 PySem.MeetsSeq3
theorem A1o (l b:Addr)(items c:v7)(n T:Nat)(dd D:Option Addr)(N G:Array (u9))(r:Bool)(k:Nat) :
 ∀
  (i:Nat) (vs z:w6),items.toList.drop i=vs->c.toList.drop i=z->i<=items.size->i<=c.size->vs.length=k->Meets (Builtin.«list.__eq__.loop» ⟨[.ref l,.ref b,rawInt i,rawInt 0],[]⟩)
  (fun A R s=>s.heap.get? l=some { cls:=.type "list",dict:=dd,data:=.seq items n,slots:=N }/\s.heap.get? b=some { cls:=.type "list",dict:=D,data:=.seq c T,slots:=G } /\
   My false A.in1 s vs z r/\R (.ok (.ret (.bool r))) s):=by
 have m:∀{f:v7} {i:Nat},f.toList.drop i=[]->f[((i:Nat):Int).toNat]?=none:=fun {f i} e=>by
  have:=eE.mp e
  simp at this ⊢;(first|lia|omega)
 have a:∀{f:v7} {i:Nat} {x:Value} {r:w6},f.toList.drop i=x::r->f[((i:Nat):Int).toNat]?=some x/\f.toList.drop (i+1)=r/\i<f.size:=fun {f i x r} e=>by
  have J:i<f.size:=by
   rcases aW i f.size with h | h
   ·exact h
   ·rw[List.drop_eq_nil_of_le (by simpa using h)]at e;cases e
  rw[List.drop_eq_getElem_cons (by simpa using J)]at e
  injection e with e1 e2
  exact⟨by simp[J];simpa using e1,e2,J⟩
 induction k with
 | zero =>
  intro i vs z t q S P y j w A R s h;obtain⟨H,g,d,B,I⟩:=s;obtain⟨o,p,L,h⟩:=h;have C:vs=[]:=List.length_eq_zero_iff.mp y;subst C
  wp_walk using wpAny_loadPart' o,wpAny_loadPart' p
  rw[m t]
  have V:items.size=i:=by have:=eE.mp t;simp at this;(first|lia|omega)
  wp_walk using wpAny_loadPart' o,wpAny_loadPart' p
  show R (.ok (.ret (.bool (decide (items.size<c.size))))) _
  have C:decide (items.size<c.size)=r:=by
   cases L with
   | nn=>have:=eE.mp q;simp at this;exact aK (by (first|lia|omega))
   | nc=>exact az (by have:=(a q).2.2;(first|lia|omega))
  rw[C];exact h
 | succ k O =>
  intro i vs z t q S P y j w A R s h;obtain⟨H,g,d,B,I⟩:=s;obtain⟨o,p,L,h⟩:=h
  cases L with
  | nn=>cases y
  | nc=>cases y
  | cn =>
   wp_walk using wpAny_loadPart' o,wpAny_loadPart' p
   rw[(a t).1,m q]
   wp_walk using wpAny_loadPart' o,wpAny_loadPart' p
   show R (.ok (.ret (.bool (decide (items.size<c.size))))) _
   have:=(a t).2.2;have:=eE.mp q
   simp at this
   rw[aK (by (first|lia|omega))];exact h
  | eq K M =>
   have u:=a t;have v:=a q
   have U:((i:Int)+1)=((i+1:Nat):Int):=by push_cast;rfl
   wp_walk using wpAny_loadPart' o,wpAny_loadPart' p
   rw[u.1,v.1]
   refine wpAny_bind (K j w _ _ ?_)
   wp_walk
   rw[U]
   exact⟨plainId_quiet plain_eq_loop _,codeAny_builtin entry_eq_loop (by
    rw[Around.under_plainId plain_eq_loop _]
    exact O (i+1) _ _ u.2.1 v.2.1 u.2.2 v.2.2 (by simpa using y) j w A R _ ⟨o,p,M,h⟩)⟩
  | ne K M =>
   have u:=a t;have v:=a q
   wp_walk using wpAny_loadPart' o,wpAny_loadPart' p
   rw[u.1,v.1]
   refine wpAny_bind (K j w _ _ ?_)
   have F:∀(E:z_) (Q:z_),Q (.bool r) ⟨H,g,d,B,I⟩->wpAny (model j w) A.in1 (richCompare .Lt _ _) Q E ⟨H,g,d,B,I⟩:=M j w
   wp_walk using wpAny_loadPart' o,wpAny_loadPart' p
   rw[u.1,v.1]
   wp_walk using F
   simpa using h
theorem A1x (l b:Addr)(items a:v7)(n f:Nat)(dd e:Option Addr)(i c:Array (u9))(r:Bool) :
 Meets (Builtin.«list.__lt__» ⟨[.ref l,.ref b],[]⟩)
  (fun A R s=>s.heap.get? l=some { cls:=.type "list",dict:=dd,data:=.seq items n,slots:=i }/\s.heap.get? b=some { cls:=.type "list",dict:=e,data:=.seq a f,slots:=c } /\
   My false A.in1 s items.toList a.toList r/\R (.ok (.ret (.bool r))) s):=by
 intro k w A R s h;obtain⟨q,g,d,t,u⟩:=s;obtain⟨j,m,o,h⟩:=h;have p:=AutoSeq1.sub_list_list
 wp_walk using wpAny_loadPart' j,wpAny_loadPart' m
 exact⟨plainId_quiet plain_eq_loop _,codeAny_builtin entry_eq_loop (by
  rw[Around.under_plainId plain_eq_loop _]
  exact A1o l b items a n f dd e i c r _ 0 _ _ rfl rfl (aD _) (aD _) rfl _ w A R _ ⟨j,m,o,h⟩)⟩
end
def kEv {α:Type}(B:Nat->Nat->Option Bool):KasT α->Option α
 | .ret a=>some a
 | .ask i j k=>(B i j).bind fun b=>kEv B (k b)
theorem Ai3 {α:Type}{cmp:Nat->Nat->(Bool->u_->Prop)->u_->Prop}{B:Nat->Nat->Option Bool}{s:u_}(hc:∀i j b C,B i j=some b->C b s->cmp i j C s){G:α->u_->Prop} :
 ∀(t:KasT α) (a:α),kEv B t=some a->G a s->t.kasWp cmp G s
 | .ret a,a',e,g=>by cases e;exact g
 | .ask i j k,a',e,g=>by
  obtain⟨b,e1,e2⟩:=bh.mp (show (B i j).bind (fun b=>kEv B (k b))=some a' from e)
  exact hc i j b _ e1 (Ai3 hc (k b) a' e2 g)
def An7 (b:Bool):t_->Bool
 | .tuple (.int _::_)=>b
 | .tuple (.tuple _::_)=>!b
 | _=>false
section
variable {prog:u6}{w:World}{A:q_}{E:z_}{s:u_}{b fin:Bool}{Q:Bool->u_->Prop}
theorem Yj:∀{vs ws:w6}{r:Bool},My false A s vs ws r->∀i,(b&&i==0)=false->fin=decide (vs.length<ws.length)->Q r s->KatLex prog w A b fin Q (vs.zip ws) i s
 | _,_,_,.nn,i,_,hf,h=>by
  have e:fin=false:=hf;subst e;exact kat_nil h
 | _,_,_,.nc (y:=y) (ys:=ys),i,_,hf,h=>by
  have e:fin=true:=hf.trans (az (by rw[bU,aG];(first|lia|omega)))
  subst e;exact kat_nil h
 | _,_,_,.cn (x:=x) (xs:=xs),i,_,hf,h=>by
  have e:fin=false:=hf.trans (aK (by rw[bU,aG];(first|lia|omega)))
  subst e;exact kat_nil h
 | _,_,_,.eq he hr,i,hi,hf,h=>kat_cons (he prog w _ _ (kat_yes (Yj hr (i+1) (by simp) (hf.trans (by simp)) h)))
 | _,_,_,.ne he hr,i,hi,hf,h=>kat_cons (he prog w _ _ (kat_no (by rw[hi];exact kat_one _ _ (hr prog w _ _ h))))
theorem B3z      (m:ReadsAll s.heap us (.int i::xs) k) (o:ReadsAll s.heap vs (.int j::ys) bs) (p:PyData.canLayAll0 (.int i::xs)=true) (g:PyData.canLayAll0 (.int j::ys)=true)
 (hu:A.units+PyData.depthAll (.int i::xs)<cLine) (hc:Hg false (.int i::xs) (.int j::ys)=some r) (hf:fin=decide (us.length<vs.length)) (h:Q r s):KatLex prog w A true fin Q (us.zip vs) 0 s:=by
 cases m with
 | cons c l =>
  cases o with
  | cons d n =>
   have b:=aq.mp p;have a:=aq.mp g;have q:A.units+max (PyData.int i).depth (PyData.depthAll xs)<cLine:=hu
   have e:=SeqAt.eqAt_reads (.int i) (.int j) A s _ _ _ _ c d b.1 a.1 (by (first|lia|omega))
   rw[Hg]at hc
   by_cases he:PyData.eqv (.int i) (.int j)=true
   ·rw[if_pos he]at hc
    rw[he]at e
    exact kat_cons (e prog w _ _ (kat_yes (Yj (Nk false xs ys A s _ _ _ _ r l n b.2 a.2 (by (first|lia|omega)) hc) 1 (by simp) (hf.trans (by simp)) h)))
   ·rw[if_neg he]at hc
    rw[fL _ |>.mp he]at e
    refine kat_cons (e _ w _ _ (kat_no ?_))
    cases c
    cases d
    have f  := by simpa[Ig] using hc
    rw[<- f]at h;exact(kat_lt_int h:wpAny _ A _ Q _ s)
theorem A6d     (t:Reads s.heap u a n) (x:Reads s.heap v d bs) (f:a.canLay0=true) (e:d.canLay0=true)
 (fa:An7 b a=true) (fb:An7 b d=true) (hu:A.units+a.depth<cLine) (hc:Ig false a d=some r) (h:Q r s):wpAny (model prog w) A (keyLt' (tuples' b) u v) Q E s:=by
 cases a with
 | tuple l =>
  cases d with
  | tuple m =>
   cases t with
   | tuple o B q g =>
    cases x with
    | tuple p z y k =>
     have c:A.units+(PyData.depthAll _+1)<cLine:=hu
     refine kat_lt o q p y ?_
     cases b with
     | false=>exact Yj (Nk _ _ _ A s _ _ _ _ r g k f e (by (first|lia|omega)) hc) 0 rfl (by simp) h
     | true =>
      match l,m,fa,fb,g,k,f,e,c,hc with
      | .int i::l,.int j::m,_,_,g,k,f,e,c,hc=>exact B3z g k f e (by (first|lia|omega)) hc (by simp) h
  | _=>cases fb
 | _=>cases fa
end
inductive Kd where
 | ti | tt | tl | ii | ll
def Jz:Kd->t_->Bool
 | .ti,.tuple (.int _::_)=>true
 | .tt,.tuple (.tuple _::_)=>true
 | .tl,.tuple (.list _::_)=>true
 | .ii,.int _=>true
 | .ll,.list _=>true
 | _,_=>false
theorem Hn   (h:Jz kd d=true):match kd with
 | .ti=>∃i xs,d=.tuple (.int i::xs)
 | .tt=>∃ys xs,d=.tuple (.tuple ys::xs)
 | .tl=>∃ys xs,d=.tuple (.list ys::xs)
 | .ii=>∃i,d=.int i
 | .ll=>∃xs,d=.list xs:=by
 unfold Jz at h
 split at h
 ·exact⟨_,_,rfl⟩
 ·exact⟨_,_,rfl⟩
 ·exact⟨_,_,rfl⟩
 ·exact⟨_,rfl⟩
 ·exact⟨_,rfl⟩
 ·cases h
def kdK:Kd->SortKind
 | .ti=>tuples' true
 | .tt=>tuples' false
 | .tl=>tuples' true
 | .ii=>oneType'
 | .ll=>oneType'
def B3l (x y:t_):Option Bool:=match x,y with
 | .tuple (.list a::xs),.tuple (.list b::ys)=>if PyData.eqv (.list a) (.list b)=true then Hg false xs ys else Hg false a b
 | _,_=>none
def B2b (x y:t_):Option Bool:=match x,y with
 | .list a,.list b=>Hg false a b
 | _,_=>none
def Bg0 (kd:Kd)(x y:t_):Option Bool:=match kd with
 | .tl=>B3l x y
 | .ll=>B2b x y
 | _=>Ig false x y
def Zz (kd:Kd)(ds:w5)(i j:Nat):Option Bool:=match ds[i]?,ds[j]? with
 | some x,some y=>Bg0 kd x y
 | _,_=>none
section
variable {prog:u6}{w:World}{A:q_}{E:z_}{s:u_}{fin:Bool}{Q:Bool->u_->Prop}
theorem Vc      (h1:s.heap.get? l=some o) (h2:o.cls=.type "list") (f:o.data=.seq items n) (g:s.heap.get? b=some c) (i:c.cls=.type "list") (k:c.data=.seq a p)
 (hx:My false A.in1 s items.toList a.toList r) (hu:A.units<cLine) (h:Q r s):wpAny (model prog w) A (oneLt' true (.ref l) (.ref b)) Q E s:=by
 obtain⟨q,u,m,v⟩:=o;obtain⟨t,j,d,e⟩:=c;subst h2 f i k
 refine wpAny_bind (wpAny_cRoomFor hu ?_)
 refine wpAny_bind (wpAny_callSpecialIfBound?_slot ⟨_,h1,rfl⟩ F.slot_list_lt (call_meets F.slot_list_lt ⟨_,h1,rfl⟩ F.entry_list_lt (F.args_list_lt_2 _ _) (A1x l b _ _ n _ _ _ _ _ r) ⟨h1,g,hx,?_⟩))
 exact wpAny_truthy_bool h
theorem B4b     (k:ReadsAll s.heap us (.list a::xs) p) (m:ReadsAll s.heap vs (.list b::ys) bs) (o:PyData.canLayAll0 (.list a::xs)=true) (j:PyData.canLayAll0 (.list b::ys)=true)
 (hu:A.units+PyData.depthAll (.list a::xs)<cLine) (hc:B3l (.tuple (.list a::xs)) (.tuple (.list b::ys))=some r) (hf:fin=decide (us.length<vs.length)) (h:Q r s):KatLex prog w A true fin Q (us.zip vs) 0 s:=by
 cases k with
 | cons g l =>
  cases m with
  | cons f n =>
   have c:=aq.mp o;have d:=aq.mp j;have q:A.units+max (PyData.list a).depth (PyData.depthAll xs)<cLine:=hu;have C:(PyData.list a).depth=PyData.depthAll a+1:=rfl
   have e:=SeqAt.eqAt_reads (.list a) (.list b) A s _ _ _ _ g f c.1 d.1 (by (first|lia|omega))
   have hc:(if PyData.eqv (.list a) _=true then Hg _ _ _ else Hg _ a b)=some r:=hc
   by_cases he:PyData.eqv (.list a) (.list b)=true
   ·rw[if_pos he]at hc
    rw[he]at e
    exact kat_cons (e _ w _ _ (kat_yes (Yj (Nk _ _ _ A s _ _ _ _ r l n c.2 d.2 (by (first|lia|omega)) hc) 1 (by simp) (hf.trans (by simp)) h)))
   ·rw[if_neg he]at hc
    rw[fL _ |>.mp he]at e
    refine kat_cons (e _ w _ _ (kat_no ?_))
    cases g with
    | list u v x t =>
     cases f with
     | list z y B i=>exact Vc u v x z y B (Nk _ a b _ s _ _ _ _ r t i c.1 d.1 (by grind) hc) (by (first|lia|omega)) h
theorem Ax0      (d:Reads s.heap u a F) (e:Reads s.heap v l bs) (m:a.canLay0=true) (k:l.canLay0=true)
 (fa:Jz kd a=true) (fb:Jz kd l=true) (hu:A.units+a.depth<cLine) (hc:Bg0 kd a l=some r) (h:Q r s):wpAny (model prog w) A (keyLt' (kdK kd) u v) Q E s:=by
 have c:=Hn fa;have f:=Hn fb
 cases kd with
 | ti =>
  obtain⟨i,g,rfl⟩:=c;obtain⟨j,n,rfl⟩:=f;exact A6d (b:=true) d e m k rfl rfl hu hc h
 | tt =>
  obtain⟨i,g,rfl⟩:=c;obtain⟨j,n,rfl⟩:=f;exact A6d (b:=false) d e m k rfl rfl hu hc h
 | tl =>
  obtain⟨i,g,rfl⟩:=c;obtain⟨j,n,rfl⟩:=f
  cases d with
  | tuple t B x o =>
   cases e with
   | tuple p C q y =>
    refine kat_lt t x p q (B4b o y m k ?_ hc (by simp) h)
    have z:A.units+(PyData.depthAll (.list i::g)+1)<cLine:=hu;(first|lia|omega)
 | ii =>
  obtain⟨i,rfl⟩:=c;obtain⟨j,rfl⟩:=f
  cases d
  cases e
  have D:decide (i<j)=r:=by simpa[Bg0,Ig] using hc
  rw[<- D]at h;exact kat_lt_int h
 | ll =>
  obtain⟨g,rfl⟩:=c;obtain⟨n,rfl⟩:=f
  cases d with
  | list t B x o =>
   cases e with
   | list p C q y =>
    have z:A.units+(PyData.depthAll g+1)<cLine:=hu
    show wpAny (model prog w) A (keyLt' oneType' _ _) Q E s
    rw[keyLt'_oneType]
    exact Vc t B x p C q (Nk _ _ _ _ s _ _ _ _ r o y m k (by show A.units+1+_<_;(first|lia|omega)) hc) (by (first|lia|omega)) h
end
section
variable {M:Model}{A:q_}{E:z_}{s:u_}
def tyK (b:Bool):Value:=if b then .type "int" else .type "tuple"
theorem U8      (r:ReadsAll h vs (d::ds) a):∃v as',vs[0]?=some v/\Reads h v d as':=by
 cases r with
 | cons c b=>grind
theorem Te {h:Heap}{b:Bool}:∀{us:w6}{ds:w5}{as:v6},ReadsAll h us ds as->ds.all (An7 b)=true->∃fs,KatTups h us fs/\fs.length=us.length/\∀v∈fs,Looks M h (typeOf v) (tyK b)
 | _,_,_,.nil,_=>⟨[],trivial,rfl,fun v z=>nomatch z⟩
 | _,_,_,.cons (d:=d) r1 r2,hb=>by
  obtain⟨h1,h2⟩:=aq.mp (show (An7 b d&&_)=true from hb)
  obtain⟨fs,t,l,k⟩:=Te r2 h2
  cases d with
  | tuple xs =>
   cases r1 with
   | tuple e1 e2 e3 e4 =>
    match xs,h1,e4 with
    | .int i::xs,h1,e4 =>
     obtain⟨v,as',f1,f2⟩:=U8 e4;have hb':b=true:=h1;subst hb'
     cases f2 with
     | int i t0=>
      exact⟨.int i t0::fs,KatTups.cons e1 e2 e3 (by rw[<- fP];exact f1) t,by rw[aG,aG,l],fun v hv=>by
       rcases au.mp hv with rfl | hv
       ·exact Looks.now
       ·exact k v hv⟩
    | .tuple ys::xs,h1,e4 =>
     obtain⟨v,as',f1,f2⟩:=U8 e4
     have hb':b=false:=by simpa[An7] using h1
     subst hb'
     cases f2 with
     | tuple g1 g2 g3 g4=>
      exact⟨_::fs,KatTups.cons e1 e2 e3 (by rw[<- fP];exact f1) t,by rw[aG,aG,l],fun v hv=>by
       rcases au.mp hv with rfl | hv
       ·have q:=(Looks.ld (M:=M) (part:=none) g1).andThen (f:=fun o=>pure o.cls) .now
        rw[g2]at q;exact q
       ·exact k v hv⟩
  | _=>cases h1
theorem Ag6      (r:ReadsAll s.heap us ds a) (hb:ds.all (An7 b)=true) (d:0<us.length) (h:Q (tuples' b) s):wpAny M A (keyKind' us.toArray) Q E s:=by
 obtain⟨c,t,l,k⟩:=Te  r hb
 refine kat_kind t (by (first|lia|omega)) k (by simp_all) ?_
 cases b <;> exact h
theorem Z5 {h:Heap}:∀{us:w6}{ds:w5}{as:v6},ReadsAll h us ds as->ds.all (Jz .tl)=true->∃fs,KatTups h us fs/\fs.length=us.length/\∀v∈fs,Looks M h (typeOf v) (.type "list")
 | _,_,_,.nil,_=>⟨[],trivial,rfl,fun v z=>nomatch z⟩
 | _,_,_,.cons (d:=d) r1 r2,hb=>by
  obtain⟨h1,h2⟩:=aq.mp (show (Jz .tl d&&_)=true from hb)
  obtain⟨fs,t,l,k⟩:=Z5 r2 h2;obtain⟨_,_,rfl⟩:=Hn h1
  cases r1 with
  | tuple e1 e2 e3 e4 =>
   obtain⟨v,as',f1,f2⟩:=U8 e4
   cases f2 with
   | list g1 g2 g3 g4=>
    exact⟨_::fs,KatTups.cons e1 e2 e3 (by rw[<- fP];exact f1) t,by rw[aG,aG,l],fun v hv=>by
     rcases au.mp hv with rfl | hv
     ·have q:=(Looks.ld (M:=M) (part:=none) g1).andThen (f:=fun o=>pure o.cls) .now
      rw[g2]at q;exact q
     ·exact k v hv⟩
theorem Ag3 {h:Heap}:∀{us:w6}{ds:w5}{as:v6},ReadsAll h us ds as->ds.all (Jz .ll)=true->∀v∈us,Looks M h (typeOf v) (.type "list")
 | _,_,_,.nil,_,v,z=>nomatch z
 | _,_,_,.cons (d:=d) r1 r2,hb,v,hv=>by
  obtain⟨h1,h2⟩:=aq.mp (show (Jz .ll d&&_)=true from hb)
  rcases au.mp hv with rfl | hv
  ·obtain⟨_,rfl⟩:=Hn h1
   cases r1 with
   | list g1 g2 g3 g4 =>
    have q:=(Looks.ld (M:=M) (part:=none) g1).andThen (f:=fun o=>pure o.cls) .now
    rw[g2]at q;exact q
  ·exact Ag3 r2 h2 v hv
theorem ints_of {h:Heap}:∀{us:w6}{ds:w5}{as:v6},ReadsAll h us ds as->ds.all (Jz .ii)=true->∃ns,IntsAre us ns
 | _,_,_,.nil,_=>⟨[],.nil⟩
 | _,_,_,.cons (d:=d) r1 r2,hb=>by
  obtain⟨h1,h2⟩:=aq.mp (show (Jz .ii d&&_)=true from hb)
  obtain⟨ns,t⟩:=ints_of r2 h2;obtain⟨_,rfl⟩:=Hn h1
  cases r1 with
  | int i t0=>exact⟨_::ns,.cons _ _ t⟩
theorem As2  : ∀{ds:w5},ds.all (Jz (if b then .ti else .tt))=true->ds.all (An7 b)=true:=fun {ds} h=>by
 rw[aU]at h ⊢;intro d a;have:=Hn (h d a)
 cases b
 ·obtain⟨_,_,rfl⟩:=this;rfl
 ·obtain⟨_,_,rfl⟩:=this;rfl
theorem Aa8      (r:ReadsAll s.heap us ds c) (hb:ds.all (Jz kd)=true) (a:2<=us.length) (h:Q (kdK kd) s):wpAny M A (keyKind' us.toArray) Q E s:=by
 cases kd with
 | ti=>exact Ag6 (b:=true) r (As2  hb) (by (first|lia|omega)) h
 | tt=>exact Ag6 (b:=false) r (As2  hb) (by (first|lia|omega)) h
 | tl =>
  obtain⟨e,t,l,k⟩:=Z5  r hb
  exact kat_kind t (by (first|lia|omega)) k (by rfl) h
 | ii =>
  obtain⟨d,t⟩:=ints_of r hb
  rw[ksk_kind  (by assumption) (by trivial)]
  exact wpAny_pure h
 | ll=>exact kas_kind a (Ag3  r hb) (by rfl) (by rfl) h
theorem W8 {body:Value->PUnit->Sem (ForInStep PUnit)}{Iv:w6->u_->Prop}(step:∀x rest s,Iv (x::rest) s->wpAny M A (body x ⟨⟩) (fun r s'=>r=.yield ⟨⟩/\Iv rest s') E s) :
 ∀(l:w6) (s:u_),Iv l s->wpAny M A (forIn l PUnit.unit body) (fun _ s'=>Iv [] s') E s
 | [],s,h=>by rw[List.forIn_nil];exact wpAny_pure h
 | x::l,s,h=>by
  rw[dq]
  refine wpAny_bind (wpAny_mono (step x l s h) (fun q s' hq=>?_) fun _ _ z=>z)
  obtain⟨rfl,h'⟩:=hq;exact W8 step l s' h'
end
section
variable {X:Cx}{pins:y_}{σ:St}{H:Hp}{s:u_}{h':Heap}
theorem Inv.adopt    (I:Inv X pins σ H s) (k:∀b u,b≠D->s.heap.get? b=some u->h'.get? b=some u) (hn:H D=none) (h:D≠X.env.locals) (h1:X.s₀.heap.objs.size<=D)
 (h2:∀x c,X.env.cells.lookup x=some c->c≠D) (A:∀p∈X.pn++pins,p.1≠D) (i:z8 X.prog X.w (upd H D o) h' D o):Inv X pins σ (upd H D o) { s with heap:=h',toks:=t' }:=by
 have a:∀b u,H b=some u->b≠D:=fun b u e z=>by simp_all
 refine I.step (g':=s.gens) (d':=s.drawn) (ch:=[D]) (fun b f=>?_) (fun b o _ _ d e _=>k b o (fun z=>d (by simp[z])) e) (fun b o _ _ d e _=>⟨o.slots,k b o (fun z=>d (by grind)) e⟩) (fun b o d e n=>by rw[Am (fun z=>d (by simp[z]))];exact n)
  (fun b o d e=>⟨o,k b o (fun z=>d (by grind)) e⟩) (fun b g e=>by rw[Am (a _ _ e)];exact e) (fun b _ _ e=>by rw[Am (a _ _ e)];exact e) (fun b y e=>by rw[Am (a _ _ e)];exact e) (fun m j=>?_) (fun b u e=>?_) I.bare
 ·grind
 ·obtain⟨o,t,l,w,r⟩:=j
  exact⟨o,t,l,k _ o (aB h) w,r⟩
 ·by_cases f:b=D
  ·subst f;rw[Bg]at e;grind
  ·rw[Am f]at e
   refine (I.hok b u e).stay (fun c v d q=>k c v ?_ q) (fun c q=>by rw[Am (a _ _ q)];exact q) (fun c g q=>by rw[Am (a _ _ q)];exact q) fun c B g q=>by rw[Am (a _ _ q)];exact q
   grind
theorem Bg3          (F:FnOk X.prog X.w X.K X.mg X.base CX0 k f a ps sp) (hr:Room (k+2) X.A) (hb:Binds X.K a ps [])
 (I:Inv X pins σ H s) (r:Vals vs us) (h:sp vs H Q E0):wpAny (model X.prog X.w) X.A.in1.in1 (call (.ref f) us) (EP X pins σ Q) E s:=by
 have c:(us++[]).length=ps.length:=by rw[bQ,<- r.length];exact F.len _ _ _ _ h
 refine wpAny_call (codeAny_mono (F.run _ _ s H _ _ _ Q _ hr.in1.in1 I.env0.in1.in1 (hb s _ I.kIn c) (by grind) h) fun r g d=>?_)
 cases r with
 | error e=>trivial
 | ok b =>
  cases b with
  | ret u=>exact I.after d
  | next=>assumption
  | brk=>assumption
  | cont=>trivial
end
def Rc (Ky:V->Hp->VK->Prop):l_->l_->Hp->(l_->Hp->Prop)->Prop
 | [],ks,H,k=>k ks H
 | x::xs,ks,H,k=>Ky x H (fun kv H1=>Rc Ky xs (ks++[kv]) H1 k)
abbrev Av1 (sp:Sp):l_->l_->Hp->(l_->Hp->Prop)->Prop:=Rc fun x H Q=>sp [x] H Q E0
def Vr (vs ks:l_)(H:Hp)(Q:VK):Prop :=
 (vs.length<2/\∀p,H p=none->Q (.ref p) (upd H p (.lst vs))) \/
 (2<=vs.length/\vs.length<64/\∃ds kd p,TrL H ds ks/\ds.all (Jz kd)=true/\(∀d∈ds,Flat d)/\kEv (Zz kd ds) (kas_sort vs.length)=some p/\∀l,H l=none->Q (.ref l) (upd H l (.lst (p.toList.map fun i=>vs.getD i .non))))
theorem At2:∀{vs:l_}{us:w6},Vals vs us->∀i,RelV (vs.getD i .non) (us.getD i Value.none)
 | _,_,.nil,i=>rfl
 | _,_,.cons r rs,0=>r
 | _,_,.cons r rs,i+1=>At2 rs i
theorem Py {vs:l_}{us:w6}(r:Vals vs us):∀l:List Nat,Vals (l.map fun i=>vs.getD i .non) (l.map fun i=>us.getD i Value.none)
 | []=>.nil
 | i::l=>.cons (At2 r i) (Py r l)
theorem Qc {v:V}{u:Value}(h:RelV v u):∀{vs:l_}{us:w6},Vals vs us->Vals (vs++[v]) (us++[u])
 | _,_,.nil=>.cons h .nil
 | _,_,.cons r rs=>.cons r (Qc h rs)
theorem Ln {h:Heap}:∀{us:w6}{ds:w5}{as:v6},ReadsAll h us ds as->∀{i:Nat}{d:t_},ds[i]?=some d->∃as',Reads h (us.getD i Value.none) d as'
 | _,_,_,.nil,i,d,e=>by simp at e
 | _,_,_,.cons r rs,0,d,e=>by simp at e;subst e;exact⟨_,r⟩
 | _,_,_,.cons r rs,i+1,d,e=>Ln rs (by simpa using e)
section
variable {X:Cx}{pins:y_}{σ:St}{H:Hp}{s:u_}{D S:Addr}{e1 n:Nat}{Q:VK}{P:PySem.Fin->u_->Prop}{E:z_}{A:q_}
theorem Wf {d ous:w6}  {st:SortSt}(O:X.s₀.heap.objs.size<=D) (G:X.s₀.heap.objs.size<=S) (w:D≠S) (hp:∀p∈X.pn++pins,p.1≠S/\p.1≠D)
 (I:Inv X (pins++[(S,seqObj "list" d.toArray n),(D,seqObj "list" #[] e1)]) σ H s) (hz:outs.length<=sizeLine) (hk:d.length<=sizeLine)
 (ho:(arrOf st).map (·.2)=List.toArray ous) (hf:failedOf st=none) (B:Vals outs ous) (q:∀l,H l=none->Q (.ref l) (upd H l (.lst outs)))
 (F:∀s',EP X pins σ Q (.ref D) s'->P (.done (.ret .none)) s'):wpAny (model X.prog X.w) A (ksk_tail D false e1 (.ref S) st) P E s:=by
 obtain⟨j,k,m,J,N⟩:=I.pin (S,seqObj "list" d.toArray n) (aC _ (aC _ a_));obtain⟨r,g,h,R,T⟩:=I.pin (D,seqObj "list" #[] e1) (aC _ (aC _ (bw _ a_)))
 have f:∀x c,X.env.cells.lookup x=some c->c≠S/\c≠D:=fun x c e=>by
  obtain⟨v,U,ho,K⟩:=I.cell x c e
  grind
 have L:Inv X pins σ H s:=I.pins_of fun p hp=>I.pin p (aC _ (bz _ hp))
 have M:Inv X pins σ H { s with heap:=s.heap.update S (Obj.mapSeq fun _=>#[]) }:=L.turned (t':=s.toks) (fun b o i e=>(Heap.get?_update_other s.heap _ (aB i)).trans e) k m (.inr G) (fun x c e=>(f x c e).1) (fun p a=>(hp p a).1)
 have t:(s.heap.update S (Obj.mapSeq fun _=>(#[]:v7))).get? D=some (seqObj "list" #[] e1):=(Heap.get?_update_other s.heap _ (aB w)).trans r
 obtain⟨C,y⟩:∃C,((s.heap.update S (Obj.mapSeq _)).update D (Obj.mapSeq fun _=>ous.toArray)).get? D=some _:=⟨_,get?_update_seq t _⟩
 have z:=B.length;unfold ksk_tail;rw[ho]
 refine wpAny_bind (listUpdate_at j rfl ?_ (by simp_all) (aD _))
 refine wpAny_bind (wpAny_letGo ?_)
 refine wpAny_bind (seqEpoch_at t rfl ?_)
 refine wpAny_bind (listUpdate_at t rfl ?_ (aD _) (by grind))
 rw[hf]
 simp 
 refine wpAny_pure (F _ ⟨.ref D,upd H D _,?_,rfl,q D g⟩)
 exact M.adopt  (fun b u i e=>(Heap.get?_update_other _ _ (aB i)).trans e) g h O (fun x c e=>(f x c e).2) (fun p a=>(hp p a).2) ⟨hz,ous,C,B,y⟩
theorem A4a   (hu:A.units+64<cLine) (R:X.s₀.heap.objs.size<=D) (M:X.s₀.heap.objs.size<=S) (h:D≠S) (hp:∀p∈X.pn++pins,p.1≠S/\p.1≠D)
 (I:Inv X (pins++[(S,seqObj "list" a.toArray n),(D,seqObj "list" #[] e1)]) σ H s) (hz:vs.length<=sizeLine) (m:Vals vs us) (rk:Vals ks a) (hl:a.length=us.length) (hw:Vr vs ks H Q)
 (L:∀d,EP X pins σ Q (.ref D) d->P (.done (.ret .none)) d):wpAny (model X.prog X.w) A (ksk_end D false us.toArray e1 (.ref S) a.toArray) P E s:=by
 have k:=m.length;unfold ksk_end;simp only[fQ,if_false]
 rcases hw with ⟨Z,q⟩ | ⟨Z,U,w,T,p,t,u,g,f,q⟩
 ·have b:us.toArray.size<2:=by rw[aZ];(first|lia|omega)
  rw[if_pos b,if_pos b]
  refine wpAny_bind (wpAny_pure ?_)
  rw[StateT.run_pure]
  refine wpAny_bind (wpAny_pure ?_)
  refine Wf R M h hp I hz (by (first|lia|omega)) ?_ rfl m q L
  show (a.toArray.zip us.toArray).map (·.2)=us.toArray
  apply Array.ext';simp only[Array.toList_map,Array.toList_zip]
  exact List.map_snd_zip (l₁:=a) (l₂:=us) (by (first|lia|omega))
 ·have b:¬ us.toArray.size<2:=by rw[aZ];(first|lia|omega)
  rw[if_neg b,if_neg b];obtain⟨as,v⟩:=t.reads I rk
  refine wpAny_bind (Aa8 v u (by (first|lia|omega)) ?_)
  have o:us.length<64:=by (first|lia|omega)
  rw[k]at f
  refine wpAny_bind (wpAny_mono (kat_run (Q:=fun c d=>d=s/\arrOf c=p.map (kas_item (a.toArray.zip us.toArray))/\failedOf c=none/\p.size=us.length) (G:=fun F d=>F=p/\d=s) hl (by (first|lia|omega)) o (fun F c d y K a3 a4=>?_) (Ai3 (B:=Zz T w) (fun i j r C e W=>?_) _ p f ⟨rfl,rfl⟩)) ?_ fun _ _ z=>z)
  ·obtain⟨rfl,rfl⟩:=a4
   exact⟨rfl,K,a3,y⟩
  ·unfold Zz at e
   cases ei:w[i]? with
   | none=>rw[ei]at e;cases e
   | some di =>
    cases ej:w[j]? with
    | none=>rw[ei,ej]at e;cases e
    | some dj =>
     rw[ei,ej]at e;obtain⟨y,r1⟩:=Ln v ei;obtain⟨K,r2⟩:=Ln v ej;have J  := bA ei;have O  := bA ej;have N:=g _ J
     exact Ax0 r1 r2 N.1 (g _ O).1 (aU.mp u _ J) (aU.mp u _ O) (by have:=N.2;(first|lia|omega)) e W
  ·rintro⟨⟨⟩,c⟩ d ⟨rfl,x,hf,Y⟩
   refine Wf R M h hp I  ?_ (by (first|lia|omega)) (kat_snds hl x) hf (Py m _) q L
   rw[ao,dh];(first|lia|omega)
def Bu7 (X:Cx)(pins:y_)(σ:St)(f:Addr)(Z:Hp->Prop)(Ky:V->Hp->VK->Prop):Prop :=
 ∀(pins':y_) (s:u_) (H:Hp) (x:V) (u:Value) (Q':VK),Inv X (pins++pins') σ H s->Z H->RelV x u->Ky x H Q'->wpAny (model X.prog X.w) X.A.in1.in1 (call (.ref f) [u]) (EP X (pins++pins') σ fun v H'=>Z H'/\Q' v H') (fun _ _=>False) s
theorem A2a       (q:Bu7 X pins σ f Z C) (hr:Room (k+2) X.A)
 (U:X.s₀.heap.objs.size<=D) (J:X.s₀.heap.objs.size<=S) (t:D≠S) (hp:∀p∈X.pn++pins,p.1≠S/\p.1≠D)
 (I:Inv X (pins++[(S,seqObj "list" #[] 0),(D,seqObj "list" #[] e1)]) σ H s) (hZ:Z H) (hz:vs.length<=sizeLine) (o:Vals vs us) (h:Rc C vs [] H (fun ks c=>Vr vs ks c Q))
 (hP:∀r,EP X pins σ Q (.ref D) r->P (.done (.ret .none)) r):wpAny (model X.prog X.w) X.A.in1.in1 (ksk_rest D (.ref f) false us.toArray e1 (.ref S)) P E s:=by
 have G:=o.length;unfold ksk_rest
 refine wpAny_bind (wpAny_rule ?_)
 rw[<- e_]
 refine wpAny_bind (wpAny_mono (W8 (Iv:=fun b s=>∃ks a n c i,Inv X (pins++[(S,seqObj "list" (List.toArray a) n),(D,seqObj "list" #[] e1)]) σ c s/\Vals ks a/\Vals i b/\a.length+b.length=us.length/\Z c/\Rc C i ks c (fun ks c=>Vr vs ks c Q)) ?_ us s ⟨[],[],0,H,vs,I,.nil,o,by simp,hZ,h⟩) (fun _ r T=>?_) fun _ _ z=>z)
 ·rintro x b s ⟨ks,a,n,c,i,g,u,w,K,e,m⟩
  rw[aG]at K
  cases w with
  | cons N Y =>
   refine wpAny_bind (wpAny_attempt (wpAny_mono (q _ s c _ x _ g e N m) (fun j s2 h2=>?_) fun _ _ z=>z.elim))
   obtain⟨O,R,L,A,B,y⟩:=h2;obtain⟨l,t2,t3,W,t5⟩:=L.pin (S,seqObj "list" a.toArray n) (aC _ (aC _ a_))
   have ea:(List.toArray a).push j=List.toArray (a++[j]):=by simp
   dsimp only
   refine wpAny_bind (listUpdate_at l rfl ?_ (by rw[aZ];(first|lia|omega)) (by rw[Array.size_push,aZ];(first|lia|omega)))
   have M:=get?_update_seq l (·.push j)
   rw[ea]at M
   refine wpAny_pure ⟨rfl,ks++[O],a++[j],_,R,_,L.recS J (fun p d=>?_) (fun p d=>(hp p (bz _ d)).1) M (fun v z=>by cases z),Qc A u,Y,?_,B,y⟩
   ·grind
   ·rw[bD,cN];(first|lia|omega)
 ·obtain⟨ks,a,n,c,i,g,u,F,K,e,m⟩:=T
  cases F
  obtain⟨l,t2,t3,W,t5⟩:=g.pin _ (aC _ (aC _ a_))
  refine wpAny_bind (listItems_at l rfl ?_)
  have hu:X.A.in1.in1.units+64<cLine:=by have:=hr.un;show X.A.units+1+1+64<_;(first|lia|omega)
  exact A4a hu U J t hp g hz o u (by (first|lia|omega)) m hP
theorem Sx       (F:Bu7 X pins σ f Z N) (hr:Room (k+2) X.A)
 (I:Inv X pins σ H s) (hZ:Z H) (A:SqL X.K H a vs\/SqT X.K H a vs) (h:Rc N vs [] H (fun ks H1=>Vr vs ks H1 Q)) :
 wpAny (model X.prog X.w) X.A (call (.builtin "sorted") [.ref a] [(Str.ofString "key",.ref f)]) (EP X pins σ Q) E s:=by
 obtain⟨d,T,o,n,t,hT,ho,J,hd,w⟩:∃(d:w6) (T:String) (o:Obj) (n:Nat),Vals vs d/\(T = "list" \/ T = "tuple")/\s.heap.get? a=some o/\o.cls=.type T/\o.data=.seq d.toArray n/\vs.length<=sizeLine:=by
  rcases A with A | A
  ·obtain⟨d,t,⟨o,n,r,j,c,g4⟩,w⟩:=I.list A
   exact⟨d, "list",o,n,t,.inl rfl,r,j,by first | exact c | exact g4,w⟩
  ·obtain⟨d,t,it,w⟩:=I.tuple A
   obtain⟨o,r,j,n,c⟩:=it;exact⟨d, "tuple",o,n,t,.inr rfl,r,j,c,w⟩
 have O:=t.length
 refine call_function_entry_kw kind_sorted plain_sorted entry_sorted (ksk_s1 _ _) ?_
 unfold Builtin.«sorted»
 refine wpAny_bind (m:=checkCount "sorted" 1 1 _) (wpAny_pure ?_)
 refine wpAny_bind (wpAny_collect_seq a hT ho J hd (fun g U=>?_) (by rw[aZ];(first|lia|omega)))
 refine wpAny_bind (wpAny_newList ?_ (by simp;(first|lia|omega)))
 have l:Inv X pins σ H { s with heap:=g }:=I.kept (t':=s.toks) U
 have le:∀b o,s.heap.get? b=some o->b<g.objs.size:=fun b o e=>Heap.lt_size (U b o e)
 have P:X.s₀.heap.objs.size<=g.objs.size:=l.sz;generalize hg1:g.push (seqObj "list" d.toArray 0)=r
 have W:r.objs.size=g.objs.size+1:=by rw[<- hg1,size_push']
 have B:r.get? g.objs.size=some (seqObj "list" d.toArray 0):=by rw[<- hg1];exact Heap.get?_push_size _ rfl
 refine wpAny_bind (wpAny_holding (wpAny_call_entry_kw slot_list_sort ⟨_,B,rfl⟩ entry_list_sort ?_ (ksk_l1 _ _)))
 show wpAny (model X.prog X.w) X.A.in1.in1 (Builtin.«list.sort» ⟨[.ref g.objs.size],[(Str.ofString "key",.ref f)]⟩) _ _ _
 rw[ksk_t1];unfold ksk_tree
 refine wpAny_bind (listItems_at B rfl ?_)
 refine wpAny_bind (listUpdate_at B rfl ?_ (by rw[aZ];(first|lia|omega)) (aD _))
 generalize hg2:r.update g.objs.size (Obj.mapSeq fun _=>(#[]:v7))=j
 obtain⟨C,x⟩:∃C,j.get? g.objs.size=some (seqObj "list" #[] C):=⟨_,by rw[<- hg2];exact get?_update_seq B fun _=>#[]⟩
 have Y:j.objs.size=g.objs.size+1:=by rw[<- hg2,Heap.size_update,W]
 refine wpAny_bind (seqEpoch_at x rfl ?_)
 refine wpAny_bind (wpAny_newTuple ?_ (by simp;(first|lia|omega)))
 refine wpAny_bind (wpAny_newList ?_ (aD _))
 refine wpAny_holding ?_
 generalize hg3:j.push { cls:=.type "tuple",data:=.seq d.toArray.toList.toArray }=c
 have e3:c.objs.size=g.objs.size+2:=by rw[<- hg3,Heap.size_push,Y]
 have M:=l.fpOk (b:=g.objs.size) (ak _) (l.hok.fresh (ak _))
 have G:=l.fpOk (b:=c.objs.size) (by show g.objs.size<=_;(first|lia|omega)) (l.hok.fresh (by show g.objs.size<=_;(first|lia|omega)))
 have y:∀b u,g.get? b=some u->(c.push { cls:=.type "list",data:=.seq ([]:w6).toArray }).get? b=some u:=fun b u e=>by
  have K:b<g.objs.size:=Heap.lt_size e
  have q1:r.get? b=some u:=by rw[<- hg1];exact Heap.get?_push_of_some _ e
  have q2:j.get? b=some u:=by rw[<- hg2];exact(Heap.get?_update_other _ _ (bH K)).trans q1
  have q3:c.get? b=some u:=by rw[<- hg3];exact Heap.get?_push_of_some _ q2
  exact Heap.get?_push_of_some _ q3
 have R:Inv X pins σ H { s with heap:=c.push { cls:=.type "list",data:=.seq ([]:w6).toArray } }:=l.kept (t':=s.toks) y
 have gS:(c.push { cls:=.type "list",data:=.seq ([]:w6).toArray }).get? c.objs.size=some (seqObj "list" #[] 0):=Heap.get?_push_size _ rfl
 have L:(c.push { cls:=.type "list",data:=.seq ([]:w6).toArray }).get? g.objs.size=some (seqObj "list" #[] C):=Heap.get?_push_of_some _ (by rw[<- hg3];exact Heap.get?_push_of_some _ x)
 have I3:Inv X (pins++[(c.objs.size,seqObj "list" #[] 0),(g.objs.size,seqObj "list" #[] C)]) σ H { s with heap:=c.push { cls:=.type "list",data:=.seq ([]:w6).toArray } }:=R.pins_of fun p i=>by
  rcases bx.mp i with z | z
  ·exact R.pin p (aC _ z)
  ·rcases au.mp z with rfl | z
   ·exact⟨gS,G.1,G.2.1,G.2.2.1,fun v z=>by cases z⟩
   ·rw[aP.mp z]
    exact⟨L,M.1,M.2.1,M.2.2.1,fun v z=>by cases z⟩
 refine A2a (us:=d) (D:=g.objs.size) (S:=c.objs.size) F hr P (aj P (by (first|lia|omega))) (fun z=>by have z:g.objs.size=c.objs.size:=z;(first|lia|omega)) (fun p i=>⟨fun z=>?_,fun z=>?_⟩) I3 hZ w t h fun s' q=>⟨_,rfl,wpAny_pure ⟨_,rfl,q⟩⟩
 ·exact absurd (Heap.lt_size (l.pin p i).1) (by rw[z];show ¬ c.objs.size<g.objs.size;(first|lia|omega))
 ·exact absurd (Heap.lt_size (l.pin p i).1) (by rw[z];show ¬ g.objs.size<g.objs.size;(first|lia|omega))
theorem Ah4        (F:FnOk X.prog X.w X.K X.mg X.base CX0 k f c ps sp) (hr:Room (k+2) X.A) (hb:Binds X.K c ps [])
 (I:Inv X pins σ H s) (g:SqL X.K H a vs\/SqT X.K H a vs) (h:Av1 sp vs [] H (fun ks e=>Vr vs ks e Q)) :
 wpAny (model X.prog X.w) X.A (call (.builtin "sorted") [.ref a] [(Str.ofString "key",.ref f)]) (EP X pins σ Q) E s :=
 Sx  (fun b s H x u m I _ r j=>wpAny_mono (Bg3 F hr hb I (.cons r .nil) j) (fun _ _ ⟨v,i,l,d,q⟩=>⟨v,i,l,d,trivial,q⟩) fun _ _ z=>z) hr I trivial g h
end
section
variable {X:Cx}{p pos:Pos}{e:Expr}{t tk:TA}{kws:List Keyword}
def Br5 (K:v9)(f:Addr)(sp:Sp)(t tk:TA):TE:=fun σ H Q=>t σ H fun vs H1=>tk σ H1 fun zs H2=>∃a xs,vs=[.ref a]/\zs=[.ref f]/\(SqL K H2 a xs\/SqT K H2 a xs)/\Av1 sp xs [] H2 (fun ks H3=>Vr xs ks H3 Q)
theorem A5h      (F:FnOk X.prog X.w X.K X.mg X.base CX0 k f c ps sp) (hr:Room (k+2) X.A) (hb:Binds X.K c ps []) (hg:Gl X "sorted") (hm:X.mg "sorted" = none)
 (ha:PA X [e] t) (hkw:PK X kws tk) (hall:(backToKw pos (keywordEach kws X.env)).all (·.1.isSome)=true:=by rfl) (hks:(backToKw pos (keywordEach kws X.env)).filterMap (·.1)=[Str.ofString "key"]:=by rfl)
 (he:backTo pos (starEach [e] X.env)=(false,eval e X.env)::backTo pos (starEach [] X.env):=by rfl) (hpl:(backTo pos (starEach [e] X.env)).any (·.1)=false:=by rfl) (hno:(backToKw pos (keywordEach kws X.env)).any (·.1.isNone)=false:=by rfl) :
 PE X (.Call (.Name "sorted" p) [e] kws pos) (Br5 X.K f sp t tk):=by
 intro b s σ H Q I h
 refine wpAny_Call_Name_kw (Hr I hg hm boot_sorted ?_ (by decide) (by rfl))
 refine PyProof.Rows.callWith_kw (thn (ha _ _ s _ H _ I h) fun us s1 ⟨vs,H1,j,r,q⟩=>?_) he hpl hall hno
 refine thn (hkw _ _ _ _ _ _ j q) fun ws s2 ⟨zs,H2,i,l,g⟩=>?_
 obtain⟨a,xs,rfl,rfl,n,m⟩:=g;obtain⟨u,rfl,o⟩:=vals1 r
 cases (o)
 obtain⟨uf,rfl,d⟩:=vals1 l
 cases (d)
 rw[hks];exact Ah4 F hr hb i n m
theorem A3n  (a:X.K=Kq)      (F:FnOk X.prog X.w X.K X.mg X.base CX0 k f b ps sp) (hr:Room (k+2) X.A) (hb:Binds X.K b ps []) (hg:Gl X "sorted") (hm:X.mg "sorted" = none)
 (ha:QA X [e] t) (hkw:QK X kws tk) (hall:(backToKw pos (keywordEach kws X.env)).all (·.1.isSome)=true:=by rfl) (hks:(backToKw pos (keywordEach kws X.env)).filterMap (·.1)=[Str.ofString "key"]:=by rfl)
 (he:backTo pos (starEach [e] X.env)=(false,eval e X.env)::backTo pos (starEach [] X.env):=by rfl) (hpl:(backTo pos (starEach [e] X.env)).any (·.1)=false:=by rfl) (hno:(backToKw pos (keywordEach kws X.env)).any (·.1.isNone)=false:=by rfl) :
 QE X (.Call (.Name "sorted" p) [e] kws pos) (Br5 Kq f sp t tk):=by
 subst a;exact⟨A5h F hr hb hg hm ha.get hkw.get hall hks he hpl hno⟩
end
end L2
namespace L2
open PySem PySem.Spec PyProof.Rows
def Ac3:Value->Bool
 | .bool b=>b
 | _=>false
theorem Zg:∀{bs:List Bool}{us:w6},Vals (bs.map V.bl) us->us=bs.map Value.bool
 | [],us,h=>by cases h;rfl
 | b::bs,us,h=>by
  cases h with
  | cons r rs =>
   rw[Zg rs]
   cases r;rfl
section
variable {X:Cx}
def At1 (K:v9):V->l_->Hp->VK->Prop:=fun x vs H Q=>∃(a:Addr) (bs:List Bool) (j:Nat),x=.ref a/\vs=[.bl true]/\SqL K H a (bs.map V.bl)/\bs[j]?=some true/\(∀m<j,bs[m]?≠some true)/\j<1000000/\Q (.int j) H
theorem A1e {Kq:v9}(hKq:X.K=Kq)(hu:X.A.units+64<cLine):MtM X "list.index" (At1 Kq):=by
 subst hKq;intro pins s σ H x vs v us Q I rx rv h;obtain⟨a,bs,j,rfl,rfl,hq,hj,hno,hjs,q⟩:=h
 cases rx
 obtain⟨u,rfl,ru⟩:=rv.one
 cases ru
 obtain⟨its,r,pl,hz⟩:=I.list hq
 cases Zg r
 obtain⟨o,n,e,hc,hdn,hd⟩:=pl;obtain⟨c0,dd,dat,sl⟩:=o
 dsimp only at hc hd hdn
 subst hc hd hdn;obtain⟨lj,ej⟩:=bG.mp hj
 refine call_meets F.slot_list_index ⟨_,e,rfl⟩ F.entry_list_index (F.args_list_index_2 _ _) (SeqAt.list_indexAt a (bs.map Value.bool).toArray n none sl (.bool true) Ac3 j (by simpa using lj) (by (first|lia|omega)) ?_ ?_) ⟨e,fun w hw=>?_,?_⟩
 ·simp[Ac3,ej]
 ·intro m hm hlt
  have hm':m<bs.length:=by simpa using hm
  have h2:=hno m hlt;rw[bR hm']at h2
  simpa[Ac3] using h2
 ·obtain⟨b,hb,rfl⟩:∃b∈bs,Value.bool b=w:=by simpa using hw
  have:=SeqAt.eqAt_reads (.bool b) (.bool true) X.A.in1 s _ _ _ _ (.bool b) (.bool true) rfl rfl (by show X.A.units+1+0<_;(first|lia|omega))
  cases b <;> exact this
 ·exact⟨.int _,H,I.tok _,⟨_,rfl⟩,q⟩
end
section
variable {X:Cx}
def B1d:V->p_->p_->Hp->VK->Prop:=fun x lo hi H Q=>∃z:Str,x=.str z/\z.length<=sizeLine/\Q (.str (Txt.slice z lo hi)) H
theorem part_of   (h:IsPart v o):∃p:Option (Int×Tok),v=partValue p/\p.map (·.1)=o:=by
 cases h with
 | none=>exact⟨none,rfl,rfl⟩
 | int i t=>exact⟨some (i,t),rfl,rfl⟩
theorem Bo6:SlR X B1d:=by
 intro a s σ H x v vl vu lo hi sl Q I d c b e h;obtain⟨z,rfl,f,q⟩:=h;obtain⟨t,rfl⟩:=d;obtain⟨l,rfl,rfl⟩:=part_of b;obtain⟨u,rfl,rfl⟩:=part_of e
 refine⟨"str",_,F.slot_str_getitem.lookup,typeIs_str _ _ _,wpAny_getItem_str_slice (l:=l) (u:=u) (st:=none) c rfl ?_⟩
 exact post_val_or_str ⟨aj (Txt.slice_le z _ _) f,fun t' k=>⟨.str _,H,I.tok _,⟨_,rfl⟩,q⟩⟩
end
section
variable {P:u6}{w:World}{A:q_}{E:z_}{s:u_}{t1 t2:Bool}{z ti to i1 i2 a b p0:Addr}{b1:Bool}{k:Nat}{xs ys:v7}
theorem Vz:entryFor table "dict.update.loop" = some Builtin.«dict.update.loop»:=entryFor_of_tree (by trivial)
theorem Mg:plainId "dict.update.loop" = true:=by decide +kernel
end
theorem B3p (q:Value.type "tuple" = Value.type "tuple_iterator"):False:=by grind
theorem B4g (q:Value.type "tuple" = Value.type "dict"):False:=by grind
def StT (h h':Heap):Prop:=∀a o,h.get? a=some o->o.cls=.type "tuple" -> h'.get? a=some o
mutual
theorem Tp {h h':Heap}(hs:StT h h'):∀(k:t_),keyB k=true->∀(v:Value) (as:v6),Reads h v k as->Reads h' v k as
 | .none,_,_,_,r=>by cases r;exact .none
 | .int i,_,_,_,r=>by cases r;exact .int _ _
 | .str x,_,_,_,r=>by cases r;exact .str _ _
 | .tuple ds,hk,_,_,r=>by
  cases r with
  | tuple h1 h2 h3 h4=>exact .tuple (hs _ _ h1 h2) h2 h3 (Q9 hs ds hk _ _ h4)
theorem Q9 {h h':Heap}(hs:StT h h'):∀(ks:w5),Fj ks=true->∀(vs:w6) (as:v6),ReadsAll h vs ks as->ReadsAll h' vs ks as
 | [],_,_,_,r=>by cases r;exact .nil
 | k::ks,hk,_,_,r=>by
  obtain⟨a,b⟩:=aq.mp (show (keyB k&&Fj ks)=true from hk)
  cases r with
  | cons r1 r2=>exact .cons (Tp hs k a _ _ r1) (Q9 hs ks b _ _ r2)
end
theorem isKeyT.stay {h h':Heap}(hs:StT h h'){k:t_}{a:Addr}(x:isKeyT h k a):isKeyT h' k a:=let ⟨c,_,r⟩:=x; ⟨c,_,Tp hs _ c.1 _ _ r⟩
def PairsAt (h:Heap)(ps:v6)(ks:List (PyData×Addr×Value)):Prop:=ps.length=ks.length/\∀(i:Nat) (p:Addr) (x:PyData×Addr×Value),ps[i]?=some p->ks[i]?=some x->h.IsTuple p #[.ref x.2.1,x.2.2]/\isKeyT h x.1 x.2.1
theorem IsTuple.stayT {h h':Heap}(hs:StT h h'){a:Addr}{xs:v7}(x:h.IsTuple a xs):h'.IsTuple a xs:=let ⟨o,e,c,r⟩:=x; ⟨o,hs a o e c,c,r⟩
theorem PairsAt.stay {h h':Heap}(hs:StT h h'){ps:v6}{ks:List (PyData×Addr×Value)}(x:PairsAt h ps ks):PairsAt h' ps ks :=
 ⟨x.1,fun i p y d c=>let ⟨a,b⟩:=x.2 i p y d c; ⟨IsTuple.stayT hs a,b.stay hs⟩⟩
section
variable {P:u6}{w:World}{A:q_}{E:z_}{s:u_}
theorem Al5:typeLookup (.type "tuple") "keys" = pure none:=by rw[typeLookup_type,builtinLookup_eq_fast];trivial
set_option maxRecDepth 8000 in
theorem A8p {z:Addr}{o:Obj}{xs:v7}{k:Nat}{Q:u9->u_->Prop}(e:s.heap.get? z=some o)(hc:o.cls=.type "tuple") (hdat:o.data=.seq xs k) (hd:o.dict=none) (quiet:A.handled=none)
 (q:∀h' tk,(∀b o,s.heap.get? b=some o->h'.get? b=some o)->Q none { s with heap:=h',toks:=tk }):wpAny (model P w) A (getAttr? (.ref z) "keys") Q E s:=by
 obtain⟨c,dct,dat,sl⟩:=o;simp only at hc hdat hd;subst hc hdat hd;obtain⟨hp,g,d,tk,os⟩:=s
 have ty:∀tk',(⟨hp,g,d,tk',os⟩:u_).TypeIs (.ref z) "tuple" := fun _=>⟨_,e,rfl⟩
 have f1:=sub_AttributeError;have f3:=F.slot_tuple_getattribute.lookup;have f4:=F.slot_tuple_getattribute.bind (.ref z);have f5:=am_tuple_getattr_none;unfold getAttr? getAttrBy? getAttrBy
 repeat any_goals first | assumption | exact ty _ | ((with_reducible show wpAny _ _ (call (Value.builtin "tuple.__getattribute__") _ _) _ _ _);refine call_meets F.slot_tuple_getattribute (ty _) am_entry_tuple_getattribute (F.args_tuple_getattribute_2 _ _) (meets_getattribute_miss_tuple z xs k sl _ _ Al5 (by decide) (by decide +kernel)) ⟨e,quiet,fun h' tk' x new=>?_⟩) | wp_step
 obtain⟨t',u',he⟩:=new.there
 show wpAny _ _ (getattributeRaised _ _ _ _ _ _ _) _ _ _
 unfold getattributeRaised
 repeat any_goals first | assumption | wp_step
 exact q h' tk' fun b o z=>new.keeps b o z
theorem J1 {h h':Heap}{D:Addr}{a:List (PyData×Addr×Value)}(x:h.DictOfH (Ex P w) D a)(hs:StT h h')(k:∀o,h.get? D=some o->h'.get? D=some o):h'.DictOfH (Ex P w) D a:=by
 obtain⟨o,c,d,e,f,g,i,j,l⟩:=x
 exact⟨o,c,d,k o e,f,g,i,fun x b=>(j x b).stay hs,l⟩
theorem Ba4 {ks:List (PyData×Addr×Value)}(b:(ks.map (·.1)).Nodup){i:Nat}{x:PyData×Addr×Value}(e:ks[i]?=some x):atKey (ks.take i) x.1=none:=by
 refine atKey_none_of_get fun j p q=>?_
 have a:j<i:=by
  grind
 rw[List.getElem?_take_of_lt a]at q;exact absurd (idxH_unique b   q e) (aM a)
theorem Bg1 {R:Result->u_->Prop}{D it t:Addr}{ps:v6}{ks:List (PyData×Addr×Value)}(g:A.in1.handled=none)(hu:A.units+20<cLine)(M:D≠it)(nt:t≠it)(ntD:t≠D)(X:(ks.map (·.1)).Nodup)(hz:ks.length<=sizeLine)(s0:u_)
 (N:∀p tk,p.DictOfH (Ex P w) D ks->(∀c o,c≠D->c≠it->s0.heap.get? c=some o->p.get? c=some o)->R (.ok (.ret .none)) { s0 with heap:=p,toks:=tk }) :
 ∀
  (r i:Nat) (h:Heap) (tk:Nat),i+r=ks.length->h.IsTuple t (ps.map Value.ref).toArray->PairsAt h ps ks->h.IsTupleIter it t i->h.DictOfH (Ex P w) D (ks.take i) ->
  (∀c o,c≠D->c≠it->s0.heap.get? c=some o->h.get? c=some o)->codeAny (model P w) A (.builtin "dict.update.loop" ⟨[.ref D,.ref it,rawInt i,.none],[]⟩) R { s0 with heap:=h,toks:=tk }:=by
 intro r
 induction r with
 | zero =>
  intro i h tk e H F b G T
  have n:i=ks.length:=by (first|lia|omega)
  subst n
  refine codeAny_builtin Vz ?_
  rw[Around.under_plainId Mg _]
  show wpAny _ A.in1 (pyNext (.ref it) >>= _) _ _ _
  refine wpAny_bind (wpAny_pyNext_tuple_end g b H (by have:=F.1;simp;(first|lia|omega)) fun p f=>?_)
  refine wpAny_bind (m:=Builtin.Dict.addKeywords D []) (wpAny_pure ?_)
  have K:StT h p:=fun a o e c=>f a o (fun z=>by
   obtain⟨W,y,B,_⟩:=b
   rw[z,y]at e;cases e;exact B3p (c.symm.trans B)) e
  refine wpAny_pure (N p tk ?_ fun c o I u e=>f c o u (T c o I u e))
  rw[List.take_of_length_le (ak _)]at G
  exact J1 G K fun o e=>f D o M e
 | succ r ih =>
  intro i h tk e H F b G T
  have n:i<ks.length:=by (first|lia|omega)
  have q:i<ps.length:=by rw[F.1];exact n
  obtain⟨O,hk⟩:=F.2 i ps[i] ks[i] (bR q) (bR n)
  refine codeAny_builtin Vz ?_
  rw[Around.under_plainId Mg _]
  show wpAny _ A.in1 (pyNext (.ref it) >>= _) _ _ _
  refine wpAny_bind (wpAny_pyNext_tuple_item (x:=.ref ps[i]) b H (by simp[q]) fun J v j=>?_)
  have d:StT h J:=fun a o e c=>(j.2 a (fun z=>by
   obtain⟨W,y,B,_⟩:=b
   rw[z,y]at e;cases e;exact B3p (c.symm.trans B))).trans e
  obtain⟨op,E,L,np,S⟩:=IsTuple.stayT d O
  have C:=J1 G d fun o e=>(j.2 D M).trans e
  have Q:({ s0 with heap:=J,toks:=tk }:u_).TypeIs (.ref ps[i]) "tuple" := ⟨_,E,L⟩
  refine wpAny_bind (wpAny_holding (wpAny_bind (wpAny_tryCatch ?_)))
  unfold Builtin.Dict.pairItems
  refine wpAny_bind (wpAny_typeOf Q ?_)
  rw[if_pos (by decide)]
  refine wpAny_bind (wpAny_seqItems E S (wpAny_pure ?_))
  refine wpAny_holding (wpAny_dictSet_heap (knd:=Ex P w) (s:={ s0 with heap:=J,toks:=tk }) (k:=ks[i].1) (a:=ks[i].2.1) (xs:=ks.take i) (show A.in1.units+8<cLine from bc (bI (show 1+8<=20 by decide) A.units) hu) (hk.stay d) C (fun h2 l V=>?_) ?_)
  ·refine wpAny_pure ⟨plainId_quiet Mg _,?_⟩
   rw[storedH_new (Ba4 X (bR n))]at l
   have Y:ks.take i++[(ks[i].1,ks[i].2.1,ks[i].2.2)]=ks.take (i+1):=by
    rw[List.take_succ_eq_append_getElem n]
   rw[Y]at l
   have U:StT J h2:=fun a o e c=>(V.2 a (fun z=>by
    obtain⟨W,_,_,y,B,_⟩:=C
    rw[z,y]at e;cases e;exact B4g (c.symm.trans B.1))).trans e
   have K:=fun a o e c=>U a o (d a o e c) c
   refine ih (i+1) _ _ (by (first|lia|omega)) (IsTuple.stayT K H) (F.stay K) ?_ l fun c o I u e=>(V.2 c I).trans ((j.2 c u).trans (T c o I u e))
   obtain⟨oi,e1,Z⟩:=v;exact⟨oi,(V.2 _ (aB M)).trans e1,Z⟩
  ·rw[cz];exact aj (fK _ _) hz
theorem Bi3 {Q:z_}{t:Addr}{ps:v6}{ks:List (PyData×Addr×Value)}(f:A.handled=none)(hu:A.units+21<cLine)(I:(ks.map (·.1)).Nodup)(hz:ks.length<=sizeLine)
 (ht:zJ s.heap t (ps.map Value.ref).toArray) (hp:PairsAt s.heap ps ks)
 (q:∀l p it,s.heap.objs.size<=it->it≠s.heap.objs.size->l.DictOfH (Ex P w) s.heap.objs.size ks->(∀c o,s.heap.get? c=some o->l.get? c=some o)->Q (.ref s.heap.objs.size) { s with heap:=l,toks:=p }) :
 wpAny (model P w) A (call (.type "dict") [.ref t]) Q E s:=by
 refine callType_codes (Q₁:=fun j y=>j=.ref s.heap.objs.size/\y={ s with heap:=s.heap.push { cls:=.type "dict",data:=.dict #[] } }) F.kt_called_dict (F.kt_typeCall_dict_1 _) F.entry_dict_init (kt_code_dict_new _ ⟨rfl,rfl⟩) ?_
 rintro j y ⟨rfl,rfl⟩
 have i:(s.heap.push { cls:=.type "dict",data:=.dict #[] }).DictOfH (Ex P w) s.heap.objs.size []:=Heap.DictOfH.new s.heap
 have d:∀c o,s.heap.get? c=some o->(s.heap.push { cls:=.type "dict",data:=.dict #[] }).get? c=some o:=fun c o e=>Heap.get?_push_of_some _ e
 obtain⟨o,h,m,⟨z,r⟩,G⟩:=ht
 refine⟨i.typeIs,F.args_dict_init_2 _ _,?_⟩
 unfold Builtin.«dict.__init__»
 refine wpAny_bind ?_
 unfold Builtin.Dict.selfAndRest
 refine wpAny_bind (wpAny_notOrdered_dict i.typeIs ?_)
 show wpAny _ _ (pure (s.heap.objs.size,[Value.ref t])) _ _ _
 refine wpAny_pure ?_
 show wpAny _ _ (Builtin.Dict.updateFrom "dict.__init__" s.heap.objs.size (.ref t) [] .none) _ _ _
 unfold Builtin.Dict.updateFrom
 have v:({ s with heap:=s.heap.push { cls:=.type "dict",data:=.dict #[] } }:u_).TypeIs (.ref t) "tuple" := ⟨_,d _ _ h,m⟩
 refine wpAny_bind (wpAny_typeOf v ?_)
 rw[if_pos (by decide)]
 refine wpAny_bind (A8p (d _ _ h) m r G (by simpa using f) fun g p b=>?_)
 rw[if_pos (by rfl)]
 refine wpAny_bind (wpAny_rule ?_)
 refine wpAny_bind ?_
 have H:g.IsTuple t (ps.map Value.ref).toArray:=⟨o,b _ _ (d _ _ h),m,z,r⟩
 refine wpAny_pyIter_tuple H ?_
 refine wpAny_pure ⟨plainId_quiet Mg _,?_⟩
 have n:∀c o,g.get? c=some o->(g.push { cls:=.type "tuple_iterator",data:=.fields #[.ref t,.int 0 0] }).get? c=some o:=fun c o e=>Heap.get?_push_of_some _ e
 have B:∀c o,s.heap.get? c=some o->c≠s.heap.objs.size:=fun c o e=>aM (Heap.lt_size e)
 obtain⟨oD,u,_⟩:=J1 (P:=P) (w:=w) i (fun a o e _=>b a o e) fun o e=>b _ _ e
 have u:∃o,g.get? s.heap.objs.size=some o:=by
  obtain⟨o,_,_,e,_⟩:=i;exact⟨o,b _ _ e⟩
 have k:s.heap.objs.size≠g.objs.size:=let ⟨o,e⟩:=u; aM (Heap.lt_size e)
 have C:StT s.heap (g.push { cls:=.type "tuple_iterator",data:=.fields #[.ref t,.int 0 0] }):=fun a o e _=>n _ _ (b _ _ (d _ _ e))
 refine Bg1 (A:=A.in1) (it:=g.objs.size) (s0:={ s with heap:=g.push { cls:=.type "tuple_iterator",data:=.fields #[.ref t,.int 0 0] },toks:=p }) (by simpa using f) (show A.units+1+20<cLine from hu) k (aM (Heap.lt_size (b _ _ (d _ _ h)))) (B _ _ h) I hz
  (fun l x J D=>⟨rfl,q l x g.objs.size (bM (let ⟨o,e⟩:=u; Heap.lt_size e)) (aB k) J fun c o e=>D c o (B c o e) (aM (Heap.lt_size (b _ _ (d _ _ e)))) (n _ _ (b _ _ (d _ _ e)))⟩) ks.length 0 _ _ (by (first|lia|omega)) (IsTuple.stayT C ⟨o,h,m,z,r⟩) (hp.stay C) ⟨_,Heap.get?_push_size _ rfl,rfl,rfl⟩ (by exact J1 i (fun a o e _=>n _ _ (b _ _ e)) fun o e=>n _ _ (b _ _ e)) fun c o _ _ e=>e
end
def PairsR (H:Hp):l_->List (PyData×V)->Prop
 | [],kvs=>kvs=[]
 | v::vs,kvs=>∃p b k x r,v=.ref p/\H p=some (.tup [.ref b,x])/\KAt H k b/\kvs=(k,x)::r/\PairsR H vs r
def tDP (te:TE):TE:=fun σ H Q=>te σ H fun v H1=>∃t vs kvs,v=.ref t/\H1 t=some (.tup vs)/\PairsR H1 vs kvs/\kvs.length<=sizeLine/\(kvs.map (·.1)).Nodup/\∀p,H1 p=none->Q (.ref p) (upd H1 p (.dT kvs))
theorem V7 {P:u6}{w:World}{H:Hp}{h:Heap}(ok:HOk P w H h):∀{vs:l_}{kvs:List (PyData×V)}{its:w6},PairsR H vs kvs->Vals vs its ->
 ∃ps ks,its=ps.map Value.ref/\PairsAt h ps ks/\KT H kvs ks
 | [],kvs,its,e,r=>by
  cases (show kvs=[] from e)
  cases r
  exact⟨[],[],rfl,⟨rfl,fun i p x e=>by simp at e⟩,.nil⟩
 | v::vs,kvs,its,e,r=>by
  obtain⟨p,b,k,x,rest,rfl,hp,hk,rfl,t⟩:=e
  obtain⟨u,us,rfl,r1,rs⟩:∃u us,its=u::us/\RelV (.ref p) u/\Vals vs us:=by
   cases r with
   | cons r rs=>exact⟨_,_,rfl,r,rs⟩
  obtain⟨ps,ks,rfl,pa,kt⟩:=V7 ok t rs
  cases (show u=Value.ref p from r1)
  obtain⟨_,its2,rv,o,e1,e2,⟨n,e3⟩,_⟩:=ok p _ hp;obtain⟨u1,u2,rfl,g1,g2⟩:=Vals.two rv
  cases (show u1=Value.ref b from g1)
  refine⟨p::ps,(k,b,u2)::ks,rfl,⟨by simp[pa.1],fun i q y a1 a2=>?_⟩,.cons ⟨rfl,hk,g2⟩ kt⟩
  cases i with
  | zero =>
   simp only[List.getElem?_cons_zero,dX]at a1 a2;subst a1 a2;exact⟨⟨o,e1,e2,n,e3⟩,An4 ok hk⟩
  | succ i=>exact pa.2 i q y (by simpa using a1) (by simpa using a2)
theorem KT.keys {H:Hp}{a:List (PyData×V)}{xs:List (PyData×Addr×Value)}(r:KT H a xs):xs.map (·.1)=a.map (·.1):=by
 induction r with
 | nil=>rfl
 | cons h t b=>simp_all
section
variable {X:Cx}
theorem B2i {a:Expr}{n:TE}{p g:Pos}(hc:X.calm=true)(hu:X.A.units+64<cLine)(j:Gl X "dict") (k:X.mg "dict" = none) (ha:PE X a n) (hs1:isStar a=false:=by rfl) :
 PE X (.Call (.Name "dict" p) [a] [] g) (tDP n):=by
 intro c s r H Q I h;have f:=Et (es:=[]) (env:=X.env) hs1
 refine Call_ (Hr I j k Bk4 (cH ?_ f rfl))
 rw[f]
 show wpAny _ _ (spliced ((false,eval a X.env)::backTo g (starEach [] X.env))) _ _ s
 refine Calls.spliced_cons ?_
 refine thn (ha c s r H _ I h) fun u m ⟨v,Y,d,A,D⟩=>?_
 refine Calls.spliced_nil ?_
 obtain⟨t,vs,i,rfl,B,C,w,E,q⟩:=D
 cases (show u=Value.ref t from A)
 obtain⟨_,F,G,y⟩:=d.hok t _ B;obtain⟨ps,L,rfl,M,l⟩:=V7 d.hok C G
 refine Bi3 (I.ok.hd hc) (bc (bI (by decide) _) hu) (by rw[l.keys];exact E) (by rw[((Paired.length l).symm)];exact w) y M fun O P it S T J K=>?_
 have N:Inv X c r (upd Y m.heap.objs.size (.dT i)) { m with heap:=O,toks:=P }:=by
  refine d.laid    (fun b o e=>K b o e) (ak _) ?_
  obtain⟨o,x,R,U,W,V,Z,a5,a6⟩:=J
  refine⟨w,cB.mpr (bH d.big),L,?_,o,x,R,U,W,V,Z,a6⟩
  exact KT.keeps l fun b ys e=>by
   rw[Am];exact e;intro z;rw[z,d.hok.fresh (ak _)]at e;cases e
 exact⟨.ref _,_,N,rfl,q _ (d.hok.fresh (ak _))⟩
theorem B3i {Kq:v9}(f:X.K=Kq){a:Expr}{e:TE}{p d:Pos}(hc:X.calm=true)(hu:X.A.units+64<cLine)(c:Gl X "dict") (b:X.mg "dict" = none) (ha:QE X a e) (hs1:isStar a=false:=by rfl) :
 QE X (.Call (.Name "dict" p) [a] [] d) (tDP e):=⟨B2i hc hu c b ha.get hs1⟩
end
end L2
namespace L2
open PySem PySem.Spec PyProof.Rows PySem.W
section
variable {P:u6}{w:World}{H H':Hp}{h h1 h2 B:Heap}{a b:Addr}{o:HO}{outer:List Env}
theorem z8.there (x:z8 P w H h a o):∃u,h.get? a=some u:=by
 cases o with
 | lst xs=>obtain⟨_,_,_,_,e⟩:=x;exact⟨_,e⟩
 | tup xs=>obtain⟨_,_,_,o,e,_⟩:=x;exact⟨_,e⟩
 | dK kvs=>obtain⟨_,_,_,_,o,_,_,e,_⟩:=x;exact⟨_,e⟩
 | dT kvs=>obtain⟨_,_,_,_,o,_,_,e,_⟩:=x;exact⟨_,e⟩
 | set S n=>obtain⟨o,_,_,_,e,_⟩:=x;exact⟨_,e⟩
 | ins C dx fs=>obtain⟨_,_,_,e,_⟩:=x;exact⟨_,e⟩
 | own y=>exact x
 | xd fs=>obtain⟨_,⟨_,_,_,e,_⟩,_⟩:=x;exact⟨_,e⟩
 | rng lo hi=>obtain⟨_,_,_,e⟩:=x;exact⟨_,e⟩
 | frz ob u=>obtain⟨e,_⟩:=x;exact⟨_,e⟩
 | tbl q=>obtain⟨_,e,_⟩:=x;exact⟨_,e⟩
 | met f y=>exact⟨_,(show h.get? a=some _ from x)⟩
 | ext φ=>exact x.2.1
def Cov (fs:v6)(H':Hp)(h0 h B:Heap):Prop:=∀b o,h.get? b=some o->b∉fs->((∃u,h0.get? b=some u)\/H' b≠none)->B.get? b=some o
theorem By1 (u:Un (frs outer) [] H H' h h1)(hk:HOk P w H' h1)(hB:Cov (frs outer) H' h h1 B)(ff:h1.FunFrames B outer)(frf:∀b∈frs outer,H' b=none)(st:B.StaysIn h2)(up:h1.UpToSlots h2) :
 Un (frs outer) [] H H' h h2/\HOk P w H' h2:=by
 have nx:∀b:Addr,b∉([]:v6):=fun b z=>nomatch z
 refine⟨⟨fun b o e n hf _=>st b o (hB b o (u.keep b o e n hf (nx b)) hf (.inl ⟨o,e⟩)),fun b o e n hf _=>?_,fun b o e n _=>u.free b o e n (nx b),fun b o e _=>?_,u.tups,u.frzs,u.tbls⟩,fun a o e=>?_⟩
 ·obtain⟨sl,e1⟩:=u.slot b o e n hf (nx b)
  obtain⟨_,o',e2,nf⟩:=ff.mem hf;rw[e1]at e2;cases e2;obtain⟨sl',e3⟩:=up b _ e1 nf;exact⟨sl',e3⟩
 ·obtain⟨o',e1⟩:=u.there b o e (nx b)
  by_cases hf:b∈frs outer
  ·obtain⟨_,o2,e2,nf⟩:=ff.mem hf
   obtain⟨sl',e3⟩:=up b _ e2 nf;exact⟨_,e3⟩
  ·exact⟨o',st b o' (hB b o' e1 hf (.inl ⟨o,e⟩))⟩
 ·have key:∀b u,H' b≠none->h1.get? b=some u->h2.get? b=some u:=fun b u hn e=>st b u (hB b u e (fun z=>hn (frf b z)) (.inr hn))
  refine (hk a o e).stay (fun b u hb eu=>key b u ?_ eu) (fun _ q=>q) (fun _ _ q=>q)
  rcases hb with rfl | hb
  ·rw[e];simp
  ·rw[hb];simp
end
def TrD (h B:Heap)(e:Addr)(c:Value)(d:Option Addr)(fl:Value):Prop :=
 ∃oe vs T oT ts,h.get? e=some oe/\(oe.cls=c/\oe.dict=d)/\oe.data=.fields vs/\vs[1]?=some (.ref T)/\(B.get? T=none/\T≠e)/\h.get? T=some oT/\oT.data=.fields ts/\ts[3]?=some fl
structure FlyD (B:Heap) (l:List Env) (e:Addr) (c:Value) (d:Option Addr) (fl:Value) (h:Heap):Prop where
 st:B.StaysIn h
 no:B.get? e=none
 ff:h.FunFrames B l
 tr:TrD h B e c d fl
theorem Ux (o:Obj)(f:v7->v7):(o.mapFields f).dict=o.dict:=by
 obtain⟨c,d,dt,sl⟩:=o
 cases dt <;> rfl
section
variable {M:Model}{A:q_}{E:z_}{s:u_}{B:Heap}{env:Env}{l outer:List Env}{L e:Addr}{oe:Obj}{vs:v7}{c fl:Value}{d:Option Addr}{Q:Unit->u_->Prop}
theorem FlyD.there {h:Heap}(x:FlyD B l e c d fl h):∃o,h.get? e=some o/\o.cls=c/\o.dict=d/\∃vs,o.data=.fields vs:=let ⟨oe,vs,_,_,_,he,hc,hd,_⟩:=x.tr; ⟨oe,he,hc.1,hc.2,vs,hd⟩
theorem FlyD.out {h:Heap}(x:FlyD B (env::l) e c d fl h):FlyD B l e c d fl h:=⟨x.st,x.no,x.ff.2.2,x.tr⟩
theorem Tj {h:Heap}{T:Addr}{oT:Obj}{ts:v7}{f:Obj->Obj}(hT:h.get? T=some oT)(hd:oT.data=.fields ts):(∀b,b≠T->(h.update T f).get? b=h.get? b)/\∀b o,h.get? b=some o->(∀vs,o.data≠.fields vs)->b≠T :=
 ⟨fun b n=>Heap.get?_update_other _ _ (aB n),fun b o q nf z=>by rw[z,hT]at q;cases q;exact nf ts hd⟩
theorem Af5 {head:Value}{hn:Bool}(hfr:A.frames=some (env::outer))(st:B.StaysIn s.heap)(no:B.get? e=none)(hl:s.heap.FunFrames B (env::outer))(hf:env.frame=some L)(he:s.heap.get? e=some oe)(hd:oe.data=.fields vs)(hz:1<vs.size)
 (hQ:∀h',FlyD B (env::outer) e oe.cls oe.dict (rawInt L) h'->s.heap.UpToSlots h'->Q () { s with heap:=h' }) :
 wpAny M A (frameOf env >>= fun a=>entryPlaceOf L hn >>= fun pl=>EntryCells.newEntry head a .none (rawInt L) .none pl >>= fun b=>setField (.ref e) 1 b) Q E s:=by
 have ne:e∉(env::outer).filterMap (·.frame):=fun m=>by
  obtain⟨_,o,q,nf⟩:=hl.mem m;rw[he]at q;cases q;exact nf vs hd
 refine wpAny_bind (wpAny_frameOf_fun hfr hl hf fun h1 hs=>wpAny_bind (wpAny_entryPlaceOf fun pl hp=>?_))
 unfold EntryCells.newEntry newFields
 refine wpAny_bind (wpAny_newObj_type ?_ (hp.sizeOk5 _ _ _ _ _))
 have t3:([head,.ref L,.none,rawInt L,.none]++(if pl.isEmpty then List.replicate 6 Value.none else pl)).toArray[3]?=some (rawInt L):=by simp
 have e1:h1.get? e=some oe:=(hs.2.1 e ne).trans he
 have k1:B.StaysIn h1:=fun b o q=>(hs.2.1 b fun m=>by rw[(hl.mem m).1]at q;cases q).trans (st b o q)
 generalize ([head,.ref L,.none,rawInt L,.none]++(if pl.isEmpty then List.replicate 6 Value.none else pl)).toArray=ts at t3
 generalize hob:({ cls:=.type "traceback",dict:=none,data:=.fields ts }:Obj)=ob
 have dob:ob.data=.fields ts:=by rw[<- hob]
 have fob:ob.isFreed=false:=Obj.isFreed_of_fields dob;have e2:=Heap.get?_push_of_some ob e1;have nT:h1.objs.size≠e:=bH (Heap.lt_size e1)
 obtain⟨oth,nf⟩:=Tj (f:=Obj.mapFields (·.setIfInBounds 1 (.ref h1.objs.size))) e2 hd
 have d3:=Obj.data_mapFields hd (·.setIfInBounds 1 (.ref h1.objs.size))
 have kp:∀b o,b≠e->h1.get? b=some o->((h1.push ob).update e (Obj.mapFields (·.setIfInBounds 1 (.ref h1.objs.size)))).get? b=some o:=fun b o n q=>(oth b n).trans (Heap.get?_push_of_some _ q)
 have nr:∀b o,s.heap.get? b=some o->(∀vs,o.data≠.fields vs)->b≠e:=fun b o q nf z=>by rw[z,he]at q;cases q;exact nf vs hd
 refine wpAny_setField e2 hd hz (hQ _ ⟨fun b o q=>kp b o (fun z=>by rw[z,no]at q;cases q) (k1 b o q),no,hl.of_keeps fun b o q n=>?_,?_⟩ fun b o q n=>?_)
 ·obtain⟨sl,q2⟩:=hs.2.2 b o q
  exact⟨_,kp b _ (nr b o q n) q2,rfl⟩
 ·exact⟨_,_,h1.objs.size,ob,ts,Heap.get?_update_self _ e2 (Obj.isFreed_of_fields d3),⟨Obj.cls_mapFields _ _,Ux _ _⟩,d3,by simp[hz],⟨k1.fresh,nT⟩,(oth _ nT).trans (Heap.get?_push_size h1 fob),dob,t3⟩
 ·obtain⟨sl,q2⟩:=hs.2.2 b o q
  exact⟨sl,kp b _ (nr b o q n) q2⟩
theorem Ao3 (hfr:A.frames=some (env::outer))(st:B.StaysIn s.heap)(no:B.get? e=none)(hl:s.heap.FunFrames B (env::outer))(hf:env.frame=some L)(he:s.heap.get? e=some oe)(hd:oe.data=.fields vs)(h1:vs[1]?=some .none)
 (hQ:∀h',FlyD B (env::outer) e oe.cls oe.dict (rawInt L) h'->s.heap.UpToSlots h'->Q () { s with heap:=h' }):wpAny M A (noteFrame (.ref e) env) Q E s:=by
 unfold noteFrame;simp only[hf]
 refine wpAny_bind (wpAny_field he hd h1 ?_)
 rw[if_neg (by decide)]
 exact Af5 hfr st no hl hf he hd (eF.mp h1).1 hQ
theorem As7 (hfr:A.frames=some (env::outer))(hf:env.frame=some L)(x:FlyD B (env::outer) e c d .none s.heap)
 (hQ:∀h',FlyD B (env::outer) e c d (rawInt L) h'->s.heap.UpToSlots h'->Q () { s with heap:=h' }):wpAny M A (noteFrame (.ref e) env) Q E s:=by
 obtain⟨st,no,ff,oe,vs,T,oT,ts,he,⟨rfl,rfl⟩,hd,h1,⟨hB,nT⟩,hT,dT,h3⟩:=x
 obtain⟨oth,nr⟩:=Tj (f:=Obj.mapFields (·.setIfInBounds 3 .none)) hT dT
 unfold noteFrame;simp only[hf]
 refine wpAny_bind (wpAny_field he hd h1 ?_)
 rw[if_pos (by simp)]
 refine wpAny_bind (wpAny_field hT dT h3 ?_)
 rw[if_neg (by simp[rawInt])]
 refine wpAny_bind (wpAny_setField hT dT (eF.mp h3).1 ?_)
 exact Af5 hfr (fun b o q=>(oth b fun z=>by rw[z,hB]at q;cases q).trans (st b o q)) no (ff.of_keeps fun b o q n=>⟨o,(oth b (nr b o q n)).trans q,rfl⟩) hf ((oth e (aB nT)).trans he) hd (eF.mp h1).1
  fun h' f u=>hQ h' f fun b o q n=>u b o ((oth b (nr b o q n)).trans q) n
theorem Rv (x:FlyD B l e c d fl s.heap)(hQ:∀h',FlyD B l e c d .none h'->s.heap.UpToSlots h'->Q () { s with heap:=h' }):wpAny M A (setFlight (.ref e) none) Q E s:=by
 obtain⟨st,no,ff,oe,vs,T,oT,ts,he,hc,hd,h1,⟨hB,nT⟩,hT,dT,h3⟩:=x
 obtain⟨oth,nr⟩:=Tj (f:=Obj.mapFields (·.setIfInBounds 3 ((none:Option Addr).elim Value.none fun f=>rawInt f))) hT dT
 have z3:=(eF.mp h3).1;unfold setFlight
 refine wpAny_bind (wpAny_field he hd h1 ?_)
 rw[if_pos (by simp)]
 have d3:=Obj.data_mapFields dT (·.setIfInBounds 3 ((none:Option Addr).elim Value.none fun f=>rawInt f))
 refine wpAny_setField hT dT z3 (hQ _ ⟨fun b o q=>(oth b fun z=>by rw[z,hB]at q;cases q).trans (st b o q),no,ff.of_keeps fun b o q n=>⟨o,(oth b (nr b o q n)).trans q,rfl⟩,?_⟩ fun b o q n=>⟨o.slots,(oth b (nr b o q n)).trans q⟩)
 exact⟨oe,vs,T,_,_,(oth e (aB nT)).trans he,hc,hd,h1,⟨hB,nT⟩,Heap.get?_update_self _ hT (Obj.isFreed_of_fields d3),d3,by simp[z3]⟩
theorem A4p (hfr:A.frames=some (env::outer))(hf:env.frame=some L)(x:FlyD B (env::outer) e c d .none s.heap)(hQ:∀h',FlyD B outer e c d .none h'->s.heap.UpToSlots h'->Q () { s with heap:=h' }):wpAny M A (leaving env (.ref e)) Q E s :=
 wpAny_bind (As7 hfr hf x fun h1 f1 u1=>Rv (s:={ s with heap:=h1 }) f1 fun h2 f2 u2=>hQ h2 f2.out (u1.trans u2))
theorem Ae7 (hfr:A.frames=some (env::outer))(st:B.StaysIn s.heap)(no:B.get? e=none)(hl:s.heap.FunFrames B (env::outer))(hf:env.frame=some L)(he:s.heap.get? e=some oe)(hd:oe.data=.fields vs)(h1:vs[1]?=some .none)
 (hQ:∀h',FlyD B outer e oe.cls oe.dict .none h'->s.heap.UpToSlots h'->Q () { s with heap:=h' }):wpAny M A (leaving env (.ref e)) Q E s :=
 wpAny_bind (Ao3 hfr st no hl hf he hd h1 fun h1 f1 u1=>Rv (s:={ s with heap:=h1 }) f1 fun h2 f2 u2=>hQ h2 f2.out (u1.trans u2))
end
structure Fly (outer:List Env) (H':Hp) (h0:Heap) (a:Addr) (cls:Value) (d:Option Addr) (h:Heap):Prop where
 fl:∃B,FlyD B outer a cls d .none h/\Cov (frs outer) H' h0 h B
 new:∀b o,h0.get? b=some o->b≠a
 free:H' a=none
def CXe (P:u6)(w:World):CXT:=fun outer H s E e s'=>∃a C d H',e=.ref a/\Fly outer H' s.heap a (.ref C) d s'.heap/\s'.os=s.os/\AllBare s'.gens/\Un (frs outer) [] H H' s.heap s'.heap/\HOk P w H' s'.heap/\E (.ref C) d H'
section
variable {X:Cx}{pins:y_}{σ:St}{H H':Hp}{s s':u_}
theorem Inv.flown {h2 B:Heap}{tk:Nat}(I:Inv X pins σ H s)(u:Un (frs X.stack) [] H H' s.heap s'.heap)(hk:HOk X.prog X.w H' s'.heap)(os:s'.os=s.os)(bare:AllBare s'.gens)
 (ff:s'.heap.FunFrames B X.stack) (cov:Cov (frs X.stack) H' s.heap s'.heap B) (st:B.StaysIn h2) (up:s'.heap.UpToSlots h2):Inv X pins σ H' { s' with heap:=h2,toks:=tk }:=by
 have frf:∀b∈frs X.stack,H' b=none:=fun b hb=>by
  obtain⟨_,o,ho,_⟩:=I.stack.mem hb
  exact u.free b o ho (I.stkFree b hb) (fun z=>nomatch z)
 obtain⟨u2,k2⟩:=By1 u hk cov ff frf st up
 obtain⟨v,H2,I2,_,rfl⟩:=I.after (s':={ s' with heap:=h2,toks:=tk }) (Q:=fun _ H2=>H2=H') (u:=.none) ⟨.non,H',os,bare,u2,k2,rfl,rfl⟩
 exact I2
end
section
variable {P:u6}{w:World}{K:v9}{mg:x_}{base:Heap}{N:v4}{qual:Str}{scope:Scope}{f:Addr}{cd:Value}{A:q_}{outer:List Env}{s₀:u_}{H₀:Hp}{E:XK}
theorem Az9:Pz (CXe P w) (K3 (CXe P w) P w K mg base N qual scope f cd A outer s₀ H₀ E) E:=by
 intro pins σ H s e s' I h;obtain⟨a,C,d,H',rfl,⟨⟨B,fl,cov⟩,new,fr⟩,os,bare,u,hok,q⟩:=h
 refine A4p I.ok.frames rfl fl fun h2 fl2 up=>?_
 have I2:Inv (K3 (CXe P w) P w K mg base N qual scope f cd A outer s₀ H₀ E) pins σ H' { s' with heap:=h2 }:=I.flown (tk:=s'.toks) u hok os bare fl.ff cov fl2.1 up
 have nb:∀b o,s₀.heap.get? b=some o->∃o',s.heap.get? b=some o':=fun b o e=>I.base.there b o e (fun z=>nomatch z)
 refine⟨a,C,d,H',rfl,⟨⟨B,fl2,fun b o e hf hb=>?_⟩,fun b o e=>?_,fr⟩,os.trans I.os,bare,I2.base,I2.hok,q⟩
 ·have nl:b≠(envOfC qual scope s₀.heap.objs.size f cd).locals:=by
   rintro rfl
   rcases hb with ⟨u',e'⟩ | hb
   ·exact absurd (Heap.lt_size e') (aY _)
   ·exact hb I2.free
  have hfs:b∉frs (K3 (CXe P w) P w K mg base N qual scope f cd A outer s₀ H₀ E).stack:=fun z=>by
   rcases au.mp (I.stkSub b z) with q | q
   ·exact nl q
   ·exact hf q
  have there:∃o',s'.heap.get? b=some o':=by
   rcases hb with ⟨u',e'⟩ | hb
   ·obtain⟨o1,e1⟩:=nb b u' e'
    exact u.there b o1 e1 (fun z=>nomatch z)
   ·cases q':H' b with
    | none=>exact absurd q' hb
    | some ho=>exact(hok b ho q').there
  obtain⟨o',e'⟩:=there
  have:=cov b o' e' hfs (by
   rcases hb with ⟨u',q'⟩ | hb
   ·exact .inl (nb b u' q')
   ·exact .inr hb)
  have e2:=fl2.1 b o' this;rw[e]at e2;cases e2;exact this
 ·obtain⟨o',e'⟩:=nb b o e
  exact new b o' e'
end
structure MadeX (h h':Heap) (e C:Addr) (d:Option Addr):Prop where
 keeps:∀b o,h.get? b=some o->h'.get? b=some o
 new:h.get? e=none
 there:∃oe vs,h'.get? e=some oe/\oe.cls=.ref C/\oe.dict=d/\oe.data=.fields vs/\vs[1]?=some .none
def Raises (X:Cx)(E:XK):Prop:=∀(pins:y_) (σ:St) (H:Hp) (s:u_) (h':Heap) (e C:Addr) (d:Option Addr),Inv X pins σ H s->MadeX s.heap h' e C d->E (.ref C) d H->X.xe (.ref e) { s with heap:=h' }
section
variable {P:u6}{w:World}{K:v9}{mg:x_}{base:Heap}{N:v4}{qual:Str}{scope:Scope}{f:Addr}{cd:Value}{A:q_}{outer:List Env}{s₀:u_}{H₀:Hp}{E:XK}
theorem Wl:Raises (K3 (CXe P w) P w K mg base N qual scope f cd A outer s₀ H₀ E) E:=by
 intro pins σ H s h' e C d I hx q;obtain⟨oe,vs,m1,mc,md,m4,m5⟩:=hx.there
 let X:=K3 (CXe P w) P w K mg base N qual scope f cd A outer s₀ H₀ E
 have st0:(hideAll s.heap (frs X.stack)).StaysIn s.heap:=fun b o z=>of_hideAll _ z
 have ff:s.heap.FunFrames (hideAll s.heap (frs X.stack)) X.stack:=funFrames_hide I.stack fun env he b hb=>dN.mpr ⟨env,he,hb⟩
 have ff':h'.FunFrames (hideAll s.heap (frs X.stack)) X.stack:=ff.of_keeps fun b o z _=>⟨o,hx.keeps b o z,rfl⟩
 have hok':HOk P w H h':=I.hok.kept hx.keeps
 have fr:H e=none:=by
  cases z:H e with
  | none=>rfl
  | some ho =>
   obtain⟨u,hu⟩:=(I.hok e ho z).there;rw[hx.new]at hu;cases hu
 have cov:Cov (frs X.stack) H s.heap h' (hideAll s.heap (frs X.stack)):=fun b o z hf hb=>by
  have:∃u,s.heap.get? b=some u:=by
   rcases hb with hb | hb
   ·exact hb
   ·cases y:H b with
    | none=>exact absurd y hb
    | some ho=>exact(I.hok b ho y).there
  obtain⟨u,hu⟩:=this;have:=hx.keeps b u hu;rw[z]at this;cases this;exact hideAll_get _ hu hf
 have no:(hideAll s.heap (frs X.stack)).get? e=none:=by
  cases z:(hideAll s.heap (frs X.stack)).get? e with
  | none=>rfl
  | some o =>
   have y:=st0 e o z;rw[hx.new]at y;cases y
 refine Ae7 (s:={ s with heap:=h' }) (B:=hideAll s.heap (frs X.stack)) I.ok.frames (fun b o z=>hx.keeps b o (st0 b o z)) no ff' rfl m1 m4 m5 fun h2 fl2 up=>?_
 rw[mc,md]at fl2
 have I2:Inv X pins σ H { s with heap:=h2 }:=I.flown (s':={ s with heap:=h' }) (tk:=s.toks) (Un.kept hx.keeps) hok' rfl I.bare ff' cov fl2.1 up
 have nb:∀b o,s₀.heap.get? b=some o->∃o',s.heap.get? b=some o':=fun b o z=>I.base.there b o z (fun z=>nomatch z)
 refine⟨e,C,d,H,rfl,⟨⟨_,fl2,fun b o z hf hb=>?_⟩,fun b o z y=>?_,fr⟩,I.os,I.bare,I2.base,I2.hok,q⟩
 ·have nl:b≠(envOfC qual scope s₀.heap.objs.size f cd).locals:=by
   rintro rfl
   rcases hb with ⟨u',e'⟩ | hb
   ·exact absurd (Heap.lt_size e') (aY _)
   ·exact hb I2.free
  have hfs:b∉frs X.stack:=fun z=>by
   rcases au.mp (I.stkSub b z) with q | q
   ·exact nl q
   ·exact hf q
  have there:∃o',h'.get? b=some o':=by
   rcases hb with ⟨u',e'⟩ | hb
   ·obtain⟨o1,e1⟩:=nb b u' e'
    exact⟨o1,hx.keeps b o1 e1⟩
   ·cases q':H b with
    | none=>exact absurd q' hb
    | some ho=>exact(hok' b ho q').there
  obtain⟨o',e'⟩:=there
  have:=cov b o' e' hfs (by
   rcases hb with ⟨u',q'⟩ | hb
   ·exact .inl (nb b u' q')
   ·exact .inr hb)
  have e2:=fl2.1 b o' this;rw[z]at e2;cases e2;exact this
 ·obtain⟨o',e'⟩:=nb b o z
  rw[y,hx.new]at e';cases e'
end
theorem A4s {h h':Heap}{e C:Addr}{args:w6}(x:Heap.MadeExcOf h h' e (.ref C) args):MadeX h h' e C none:=let ⟨_,q,_⟩:=x.there; ⟨x.keeps,x.new,_,_,q,rfl,rfl,rfl,rfl⟩
theorem A9r {K:v9}{h:Heap}{C:Addr}{bmB:w6}{newId:String}(X:K.In h)(q:excIn K C bmB newId=true):∃bm N nm qn bs hdct sn sub ab col dd k0 k1 k2 k3 k5 mN,h.get? C=some (excClassObj nm qn C N bs bm hdct sn sub ab col dd k0 k1 k2 k3 k5 newId)/\h.Ns N mN/\mN "__init__" = none/\OwnTail h bmB bm:=by
 cases hl:K.lookup C with
 | none=>unfold excIn at q;rw[hl]at q;cases q
 | some ob =>
  have hX:=X _ _ hl;unfold excIn at q;rw[hl]at q;obtain⟨oc,od,da,sl⟩:=ob
  split at q
  ·rename_i d1 c1 s1 z
   cases z
   split at q
   ·rename_i C' tl x0 x1 x2 x3 n x5 y1 y2
    simp only[aO,aV,dz]at q;obtain⟨⟨⟨⟨⟨e1,e2⟩,e3⟩,e4⟩,e5⟩,e6⟩:=q;obtain⟨nm,bs,mro,nsp,qn,hd,sn,sub,ab,col,del⟩:=c1
    dsimp only at y1 e3 e5 e6
    subst e1 e2 y1 e3
    have e7:sl=#[x0,x1,x2,x3,some (.builtin n),x5]:=by
     obtain⟨l⟩:=sl
     dsimp only at y2
     rw[y2]
    subst e7
    refine⟨tl,nsp,nm,qn,bs,hd,sn,sub,ab,col,_,x0,x1,x2,x3,x5,h.nsMap nsp,hX,.of_isNs (isNs_of_in X e5),nsMap_none_of_in X e5 e6,tail_of_in X e4⟩
   ·cases q
  ·cases q
theorem G4 {K:v9}{h:Heap}{C:Addr}(X:K.In h)(q:Yh K C=true):∃bm N nm qn bs sn sub ab col dd k0 k1 k2 k3 k5,h.get? C=some (excClassObj nm qn C N bs bm true sn sub ab col dd k0 k1 k2 k3 k5 "ValueError.__new__")/\OwnTail h bmV bm:=by
 unfold Yh at q
 split at q
 ·rename_i d1 c1 s1 hl
  have hX:=X _ _ hl;simp only[aO,dz]at q;obtain⟨⟨⟨q1,q2⟩,q3⟩,q4⟩:=q
  split at q3
  ·rename_i A bm hm
   split at q4
   ·rename_i x0 x1 x2 x3 n x5 hs
    simp only[aO,aV]at q3 q4;obtain⟨e1,e2⟩:=q3;obtain⟨nm,bs,mro,nsp,qn,hd,sn,sub,ab,col,del⟩:=c1
    dsimp only at hm q1 q2
    subst e1 hm q1 q2 q4
    obtain rfl:s1=#[x0,x1,x2,x3,some (.builtin "ValueError.__new__"),x5]:=by
     obtain⟨l⟩:=s1
     dsimp only at hs
     rw[hs]
    exact⟨bm,nsp,nm,qn,bs,sn,sub,ab,col,_,x0,x1,x2,x3,x5,hX,tail_of_in X e2⟩
   ·cases q4
  ·cases q3
 ·cases q
section
variable {X:Cx}{x:Str}{C:Addr}{np cpos pos:Pos}{e:Expr}{es:v_}{t:TA}{E:XK}
def Aj8 (C:Addr)(E:XK)(t:TA):TS:=fun _ σ H=>t σ H fun vs H1=>vs.length<=sizeLine/\E (.ref C) none H1
theorem A7c (hR:Raises X E)(hc:X.calm=true)(hg:Gl X x)(hm:X.mg x=some (.ref C))(hq:excIn X.K C bmV "ValueError.__new__" = true) (ha:PA X (e::es) t) (hdb:(x==("__debug__" : Str))=false:=by decide)
 (he:starEach (e::es) X.env=(false,eval e X.env)::starEach es X.env:=by rfl) (hpl:(backTo cpos (starEach es X.env)).any (·.1)=false:=by rfl) :
 PS X (.Raise (some (.Call (.Name x np) (e::es) [] cpos)) none pos) (Aj8 C E t):=by
 intro pins s σ H D I h;obtain⟨bm,Nn,nm,qn,bs,hdct,sn,sub,ab,col,dd,k0,k1,k2,k3,k5,mN,hC,hN,hni,T⟩:=A9r I.mod.kin hq
 have hp2:(backTo cpos (starEach (e::es) X.env)).any (·.1)=false:=by
  rw[he]
  show (false||(backTo cpos (starEach es X.env)).any (·.1))=false
  rw[hpl];rfl
 refine wpAny_Raise_call_subT (C:=C) (nm:=nm) (q:=qn) (N:=Nn) (bs:=bs) (bm:=bm) (hdct:=hdct) (sn:=sn) (sub:=sub) (ab:=ab) (col:=col) (dd:=dd) (k0:=k0) (k1:=k1) (k2:=k2) (k3:=k3) (k5:=k5) fU (mN:=mN) (T.hasType PySem.F.excBase_ValueError.hasBase) (I.ok.hd hc) hp2 hni (Hh I hg hm ⟨rfl,?_⟩ hdb)
 have hs:=ha cpos pins s σ H _ I h;rw[he]at hs ⊢
 refine Calls.evalArgs_plain (wpAny_mono hs (fun us s2 ⟨vs,H2,I2,r2,z,q2⟩=>?_) fun _ _ z=>z)
 have kp:∀b o,X.base.get? b=some o->s2.heap.get? b=some o:=I2.bk
 exact⟨rfl,by rw[<- r2.length];exact z,kp _ _ hC,hN.keeps kp,T.keeps kp,fun h' ea hM=>hR pins σ H2 s2 h' ea C none I2 (A4s hM) q2⟩
end
section
variable {X:Cx}{pins:y_}{σ:St}{H H':Hp}{s s':u_}{CX:CXT}{k:Nat}{f:Addr}{fd:u5}{ps:v4}{sp:Sp}{dvs:l_}{ds:w6}{E:XK}{x:Str}{p pos:Pos}{e:Expr}{es:v_}{t:TA}{Q:VK}
theorem A8a (F:FnOk X.prog X.w X.K X.mg X.base CX k f fd ps sp)(hr:Room k X.A)(hg:Gl X x)(hm:X.mg x=some (.ref f))(hk:PySem.W.keepIn X.K (.ref f)=true)(hb:Binds X.K fd ps ds)(hd:Vals dvs ds)(hx0:∀e s,¬ X.xe e s)
 (ha:PA X (e::es) t) (I:Inv X pins σ H s) (h:t σ H fun vs H1=>sp (vs++dvs) H1 Q E) (hdb:(x==("__debug__" : Str))=false:=by decide) (he:starEach (e::es) X.env=(false,eval e X.env)::starEach es X.env:=by rfl) (hpl:(backTo pos (starEach es X.env)).any (·.1)=false:=by rfl) :
 wpAny (model X.prog X.w) X.A (eval (.Call (.Name x p) (e::es) [] pos) X.env) (EP X pins σ Q) (fun ev s'=>∃H1 s1,Inv X pins σ H1 s1/\CX X.stack H1 s1 E ev s') s:=by
 have arg:=wpAny_mono (E':=fun ev s'=>∃H1 s1,Inv X pins σ H1 s1/\CX X.stack H1 s1 E ev s') (ha pos pins s σ H _ I h) (fun _ _ z=>z) (fun ev s2 z=>absurd z (hx0 ev s2))
 refine wpAny_Call_Name_kw (Hh I hg hm ?_ hdb)
 refine fc (h₀:=X.base) I.ok.mod.kin hk (thn arg fun us s1 ⟨vs,H1,I1,r,q⟩=>⟨I1.kIn,?_⟩) he hpl
 have r2:Vals (vs++dvs) (us++ds):=r.append hd
 have hl:(us++ds).length=ps.length:=by rw[<- r2.length];exact F.len _ _ _ _ q
 refine wpAny_call (codeAny_mono (F.run X.A X.stack s1 H1 ⟨us,[]⟩ (us++ds) (vs++dvs) Q E hr I1.env0 (hb s1 us I1.kIn hl) r2 q) fun r s' hq=>?_)
 cases r with
 | error ev=>exact⟨H1,s1,I1,hq⟩
 | ok fl =>
  cases fl with
  | ret u=>exact I1.after hq
  | next=>exact False.elim hq
  | brk=>exact False.elim hq
  | cont=>exact False.elim hq
def Jw (a C:Addr)(d:Option Addr):HO:=.ext fun h=>∃o,h.get? a=some o/\o.cls=.ref C/\o.dict=d/\∃vs,o.data=.fields vs
theorem Bg4 {P:u6}{w:World}{a C:Addr}{d:Option Addr}{h:Heap}{o:Obj}(e:h.get? a=some o)(c:o.cls=.ref C)(hd:o.dict=d/\∃vs,o.data=.fields vs):z8 P w H h a (Jw a C d) :=
 ⟨⟨o,e,c,hd⟩,⟨o,e⟩,fun h1 h2 ⟨o,e,c⟩ k=>⟨o,k o e,c⟩⟩
theorem Inv.track {a:Addr}{o:HO}(I:Inv X pins σ H s)(hn:H a=none)(h0:X.s₀.heap.get? a=none)(hL:a≠X.env.locals)(h2:∀x c,X.env.cells.lookup x=some c->c≠a)(h3:∀p∈X.pn++pins,p.1≠a)
 (new:z8 X.prog X.w (upd H a o) s.heap a o):Inv X pins σ (upd H a o) s:=by
 have ne:∀b u,H b=some u->b≠a:=fun b u e z=>by rw[z,hn]at e;cases e
 have b0:∀b u,X.s₀.heap.get? b=some u->b≠a:=fun b u e z=>by rw[z,h0]at e;cases e
 refine⟨I.ok,I.os,I.bare,⟨I.base.keep,I.base.slot,fun b u e n hx=>by rw[Am (b0 b u e)];exact I.base.free b u e n hx,I.base.there,fun b xs e=>by
  have:=I.base.tups b xs e
  rw[Am (ne _ _ this)];exact this,fun b u v e=>by
  have:=I.base.frzs b u v e
  rw[Am (ne _ _ this)];exact this,fun b ps e=>by
  have:=I.base.tbls b ps e
  rw[Am (ne _ _ this)];exact this⟩,I.loc,I.cell,by rw[Am (aB hL)];exact I.free,fun y c e=>by rw[Am (h2 y c e)];exact I.freeC y c e,fun p hp=>?_,fun b u e=>?_,I.len⟩
 ·obtain⟨q1,q2,q3⟩:=I.pin p hp
  exact⟨q1,by rw[Am (h3 p hp)];exact q2,q3⟩
 ·by_cases hb:b=a
  ·subst hb
   rw[Bg]at e;cases e;exact new
  ·rw[Am hb]at e
   exact(I.hok b u e).stay (fun c v _ z=>z) (fun c z=>by rw[Am (ne _ _ z)];exact z) (fun c xs z=>by rw[Am (ne _ _ z)];exact z) (fun c ob xs z=>by rw[Am (ne _ _ z)];exact z)
theorem Inv.unbound {j:Nat}{n:Str}{h':Heap}{m m':x_}{tk:Nat}(I:Inv X pins σ H s)(hN:X.N.Nodup)(hj:X.N[j]?=some n)(hm:s.heap.Ns X.env.locals m)(hm':h'.Ns X.env.locals m')(hmm:∀y,y≠n->m' y=m y)(sb:Heap.SameBut X.env.locals s.heap h') :
 Inv X pins (σ.set j none) H { s with heap:=h',toks:=tk }:=by
 have kp:∀b u,b≠X.env.locals->s.heap.get? b=some u->h'.get? b=some u:=fun b u hb e=>sb.extBut b u hb e
 have nl:∀b u,X.s₀.heap.get? b=some u->b≠X.env.locals:=fun b u e z=>by
  have:=Heap.lt_size e;rw[z]at this;exact absurd (aA this I.ok.above) (aY _)
 have cc:∀{y:Str} {c:Addr} {v:u9},X.env.cells.lookup y=some c->s.heap.IsCell c v->h'.IsCell c v:=fun {y c v} e ⟨o,ho,hd⟩=>⟨o,kp c o (I.cne y c e) ho,hd⟩
 refine⟨I.ok,I.os,I.bare,⟨fun b u e n hf hx=>kp b u (nl b u e) (I.base.keep b u e n hf hx),fun b u e n hf hx=>?_,I.base.free,fun b u e hx=>?_,I.base.tups,I.base.frzs,I.base.tbls⟩,⟨m',hm',fun i y v e1 e2 e3=>?_⟩,fun y c e=>?_,I.free,I.freeC,fun q hq=>?_,fun b u e=>?_,by rw[b_];exact I.len⟩
 ·obtain⟨sl,q⟩:=I.base.slot b u e n hf hx
  exact⟨sl,kp b _ (nl b u e) q⟩
 ·obtain⟨u',q⟩:=I.base.there b u e hx
  exact⟨u',kp b u' (nl b u e) q⟩
 ·have ij:i≠j:=fun z=>by
   subst z;rw[List.getElem?_set]at e2
   simp at e2
  rw[bY (aB ij)]at e2;obtain⟨m0,hn0,hl⟩:=I.loc
  have em:m0=m:=by
   obtain⟨o1,es1,p1,g1,d1,_,f1⟩:=hn0;obtain⟨o2,es2,p2,g2,d2,_,f2⟩:=hm;rw[g1]at g2;cases g2;rw[d1]at d2;cases d2
   funext z
   rw[<- f1,<- f2]
  subst em;obtain⟨u,r,lk⟩:=hl i y v e1 e2 e3
  refine⟨u,r,?_⟩
  rcases lk with ⟨q1,q2⟩ | ⟨q1,c,q2,q3⟩
  ·have yn:y≠n:=fun z=>ij (by
    subst z
    exact(List.getElem?_inj (bG.mp e1).1 hN).mp (e1.trans hj.symm))
   exact .inl ⟨q1,by rw[hmm y yn];exact q2⟩
  ·exact .inr ⟨q1,c,q2,cc q2 q3⟩
 ·obtain⟨v,z⟩:=I.cell y c e
  exact⟨v,cc e z⟩
 ·obtain⟨q1,q2,q3,q4⟩:=I.pin q hq
  exact⟨kp _ _ q3 q1,q2,q3,q4⟩
 ·have key:∀b u v,H b=some u->s.heap.get? b=some v->h'.get? b=some v:=fun b u v z e=>kp b v (fun y=>by rw[y,I.free]at z;cases z) e
  refine (I.hok b u e).stay (fun c v hc z=>?_) (fun _ z=>z) (fun _ _ z=>z)
  rcases hc with rfl | hc
  ·exact key _ _ _ e z
  ·exact key _ _ _ hc z
def Xe (X:Cx)(a:Addr):Cx:={ X with A:=X.A.mark (some (.ref a)),calm:=false,xe:=fun _ _=>False }
theorem Inv.mark (I:Inv X pins σ H s)(a:Addr):Inv (Xe X a) pins σ H s :=
 ⟨⟨I.ok.mod,I.ok.kind,I.ok.glob,I.ok.blt,I.ok.above,I.ok.inj,I.ok.has,I.ok.cab,(fun z=>nomatch z),I.ok.frames,I.ok.stk,I.ok.exf,I.ok.bs,I.ok.bsz,I.ok.noex,I.ok.exfs,I.ok.funs,I.ok.frf,I.ok.tab⟩,I.os,I.bare,I.base,I.loc,I.cell,I.free,I.freeC,I.pin,I.hok,I.len⟩
theorem Inv.unmark {a:Addr}(ok:X.Ok)(I:Inv (Xe X a) pins σ H s):Inv X pins σ H s:=⟨ok,I.os,I.bare,I.base,I.loc,I.cell,I.free,I.freeC,I.pin,I.hok,I.len⟩
end
section
variable {prog:u6}{w:World}{A:q_}{E:z_}{h:Heap}{g:Array GenState}{d:Drawn}{t:Nat}{os:OsState}{a C:Addr}{o:Obj}{K:v9}
structure Jg (K:v9) (C:Addr):Prop where
 exc:Yh K C=true
 ga:findIn K (.ref C) "__getattribute__" = some (some (.builtin "BaseException.__getattribute__"))
 gat:findIn K (.ref C) "__getattr__" = some none
 cls:findIn K (.ref C) "__class__" = some (some (.builtin "object.__class__"))
theorem B0g {R:Result->u_->Prop}(X:K.In h)(Z:Jg K C)(hx:h.get? a=some o)(hc:o.cls=.ref C)(hq:R (.ok (.ret (.ref C))) ⟨h,g,d,t,os⟩) :
 codeAny (model prog w) A (.call (.builtin "getset_descriptor.__get__") ⟨[.builtin "object.__class__",.ref a,.ref C],[]⟩) R ⟨h,g,d,t,os⟩:=by
 obtain⟨bm,Nn,nm,qn,bs,sn,sub,ab,col,dd,k0,k1,k2,k3,k5,hC,T⟩:=G4 X Z.exc;have hT5:(⟨h,g,d,t,os⟩:u_).TypeIs (.builtin "object.__class__") "getset_descriptor" := fV
 have hO:(Value.ref C::bm).contains (.type (".".intercalate ("object.__class__".cutAt '.').dropLast))=true:=by
  rw[PySem.F.owner_object_class,dB,T.hasType (X := "object") (b:=true) rfl];rfl
 refine codeAny_call_builtin PySem.F.slot_gs_get.plain PySem.F.entry_gs_get (PySem.F.slot_gs_get.check _ _ _ _ _ _ _ _ hT5 (PySem.F.args_gs_get _ _ _) ?_)
 repeat (any_goals (first | assumption | (with_reducible refine wpAny_loadPart_at hx ?_;rw[hc]) | (with_reducible refine wpAny_isSubtype_exc hC ?_;rw[hO]) | wp_step))
 refine⟨Code.quiet_builtin _ (by decide +kernel),codeAny_builtin PySem.F.entry_object_class ?_⟩
 repeat (any_goals (first | assumption | (with_reducible refine wpAny_loadPart_at hx ?_;rw[hc]) | wp_step))
theorem A3z {tk:Tok}{Q:Fin->u_->Prop}(X:K.In h)(Z:Jg K C)(hx:h.get? a=some o)(hc:o.cls=.ref C)(hq:Q (.done (.ret (.ref C))) ⟨h,g,d,t,os⟩) :
 wpAny (model prog w) A (Builtin.«object.__getattribute__» ⟨[.ref a,.str "__class__" tk],[]⟩) Q E ⟨h,g,d,t,os⟩:=by
 have hT5:(⟨h,g,d,t,os⟩:u_).TypeIs (.builtin "object.__class__") "getset_descriptor" := fV;have f5:=fV;have f6:=PySem.F.slot_gs_get.lookup;have f7:=PySem.F.slot_gs_set.lookup;have lc:=looks_findIn (M:=model prog w) X Z.cls
 repeat (any_goals (first | assumption | (with_reducible refine wpAny_loadPart_at hx ?_;rw[hc]) | with_reducible refine lc.here ?_ | wp_step))
 refine B0g X Z hx hc ?_
 repeat (any_goals (first | assumption | wp_step))
theorem Aa9 {M:Model}{nameV:Value}{Q:Unit->u_->Prop}(X:K.In h)(Z:Jg K C)(hx:h.get? a=some o)(hc:o.cls=.ref C)(hq:Q () ⟨h,g,d,t,os⟩):wpAny M A (checkBuiltinCall "BaseException.__getattribute__" ⟨[.ref a,nameV],[]⟩) Q E ⟨h,g,d,t,os⟩:=by
 obtain⟨bm,Nn,nm,qn,bs,sn,sub,ab,col,dd,k0,k1,k2,k3,k5,hC,T⟩:=G4 X Z.exc
 have hk:builtinKind "BaseException.__getattribute__" = some .slot:=by decide +kernel
 have hsp:splitId "BaseException.__getattribute__" = some ("BaseException", "__getattribute__"):=by decide +kernel
 have hB:(Value.ref C::bm).contains (.type "BaseException")=true:=by rw[dB,T.hasType (X := "BaseException") (b:=true) rfl];rfl
 have ha:=PySem.F.args_bexc_ga (.ref a) nameV;simp only[checkBuiltinCall,hk,hsp]
 refine wpAny_bind ?_
 unfold isInstance
 repeat (first | (with_reducible refine wpAny_loadPart_at hx ?_;rw[hc]) | (with_reducible refine wpAny_isSubtype_exc hC ?_;rw[hB]) | wp_step)
 exact hq
theorem B1l {tk:Tok}{Q:z_}(X:K.In h)(Z:Jg K C)(hx:h.get? a=some o)(hc:o.cls=.ref C)(hq:Q (.ref C) ⟨h,g,d,t,os⟩):wpAny (model prog w) A (getAttrBy (.ref a) (.str "__class__" tk) false) Q E ⟨h,g,d,t,os⟩:=by
 have f3:=eG.ga.bind (.ref a)
 have x2:(Value.builtin "BaseException.__getattribute__" == Value.builtin "object.__getattribute__")=false:=by decide +kernel
 have x1:(onTheHeap (Value.ref C)&&Value.builtin "BaseException.__getattribute__" == Value.builtin "object.__getattribute__")=false:=by rw[x2];rfl
 have l1:=looks_findIn (M:=model prog w) X Z.ga;have l2:=looks_findIn (M:=model prog w) X Z.gat
 repeat (any_goals (first | assumption | (with_reducible refine wpAny_loadPart_at hx ?_;rw[hc]) | with_reducible refine l1.here ?_ | with_reducible refine l2.here ?_ | wp_step))
 refine codeAny_call_builtin eG.ga.plain PySem.F.entry_bexc_ga (Aa9 X Z hx hc (A3z X Z hx hc ?_))
 repeat (any_goals (first | assumption | wp_step))
theorem Ba2 {Q:u9->u_->Prop}(X:K.In h)(Z:Jg K C)(hx:h.get? a=some o)(hc:o.cls=.ref C)(hq:Q (some (.ref C)) ⟨h,g,d,t+1,os⟩):wpAny (model prog w) A (getAttr? (.ref a) "__class__") Q E ⟨h,g,d,t,os⟩:=by
 unfold getAttr? getAttrBy?
 repeat (any_goals (first | assumption | with_reducible apply B1l X Z hx hc | wp_step))
end
section
variable {K:v9}{a C:Addr}
theorem Aa2 {x:Option Addr}(Z:Jg K C):KitX K (.ref a) (.ref C) (fun h=>∃o,h.get? a=some o/\o.cls=.ref C/\o.dict=x/\∃vs,o.data=.fields vs) where
 ty:=fun M h _ ⟨o,e,c,_⟩=>c▸(Looks.ld e).andThen .now
 it:=fun M h X _=>by
  obtain⟨bm,Nn,nm,qn,bs,sn,sub,ab,col,dd,k0,k1,k2,k3,k5,hC,_⟩:=G4 X Z.exc;intro A' Q' E' s' kp q;unfold isType loadHead;exact wpAny_bind (wpAny_loadPart (kp _ _ hC) (wpAny_pure q))
 ne:=fun h tp dd its n sl X htp=>by
  obtain⟨bm,Nn,nm,qn,bs,sn,sub,ab,col,d',k0,k1,k2,k3,k5,hC,_⟩:=G4 X Z.exc
  refine Bool.eq_false_iff.mpr fun q=>?_
  cases (Value.ref.inj (aV.mp q))
  rw[hC]at htp;have z:=bO Obj.data (bN htp)
  cases z
 ca:=fun {_ _ _ _ _ s} X p q=>by
  obtain⟨hh,g,d,t,os⟩:=s;obtain⟨o,e,c,_⟩:=p;exact Ba2 X Z e c q
end
section
variable {X:Cx}
def B0u:V->u9
 | .ref D=>some (.ref D)
 | .ty T=>some (.type T)
 | _=>none
theorem A3w {c:V}{u z:Value}(e:B0u c=some z)(r:RelV c u):u=z:=by
 cases c with
 | ref D=>cases e;exact r
 | ty T=>cases e;exact r
 | _=>cases e
def Ai2 (K:v9):l_->Hp->VK->Prop:=fun xs H Q=>∃a C d c z b,xs=[.ref a,c]/\H a=some (Jw a C d)/\Jg K C/\B0u c=some z/\kitOne K (.ref C) z=some b/\Q (.bl b) H
theorem A0q:CallR X (.builtin "isinstance") (Ai2 X.K):=by
 intro pins s σ H xs us Q I r h;obtain⟨a,C,d,c,z,b,rfl,ha,Z,ec,ek,q⟩:=h;obtain⟨u1,u2,rfl,r1,r2⟩:=vals2 r
 cases (show u1=Value.ref a from r1)
 cases A3w ec r2
 have ho:z8 X.prog X.w H s.heap a (Jw a C d):=I.hok a _ ha
 exact kia_one (Aa2 Z) I.kIn ho.1 ek (fun z=>nomatch z) fun tk=>⟨.bl b,H,I.tok _,rfl,q⟩
def B4c (D:Addr):TE:=fun _ H Q=>Q (.ref D) H
theorem Bv9 {y:Str}{D:Addr}{p:Pos}(hg:Gl X y)(hm:X.mg y=some (.ref D))(hdb:(y==("__debug__" : Str))=false:=by decide):PE X (.Name y p) (B4c D):=fun pins s σ H Q I h=>Hh I hg hm ⟨.ref D,H,I,rfl,h⟩ hdb
def Ao0 (n:Nat):t_->Bool
 | .none=>true
 | .bool _=>true
 | .int i=>decide (i.natAbs.log2<1920)
 | .str x=>decide ((reprText x).length+n<=16000000)
 | d=>d.showable&&!d.hasDict&&decide (d.depth<=40)&&decide (d.shown.length+n<=16000000)
theorem A4u {x:Str}{tk:Tok}{pins:y_}{σ:St}{H:Hp}{s:u_}{n:Nat}{Q:z_}{E:z_}(I:Inv X pins σ H s)(h:(reprText x).length+n<=16000000)(q:∀z t s2,z.length+n<=16000000->Inv X pins σ H s2->Q (.str z t) s2):wpAny (model X.prog X.w) X.A (pyReprObj (.str x tk)) Q E s :=
 wpAny_pyReprObj_str (q _ _ _ h (I.tok _)) (aj (bL _ _) (aj h (by decide)))
theorem Be1 {d:t_}{v:V}{u:Value}{pins:y_}{σ:St}{H:Hp}{s:u_}{n:Nat}{Q:z_}{E:z_}(hu:X.A.units+64<cLine)(hg:X.A.guards=some [])(I:Inv X pins σ H s)(td:Tr H d v)(r:RelV v u)(hn:n<=1000)(h:Ao0 n d=true)
 (q:∀z t s2,z.length+n<=16000000->Inv X pins σ H s2->Q (.str z t) s2):wpAny (model X.prog X.w) X.A (pyReprObj u) Q E s:=by
 have seq:∀(a:Addr) (d:t_),Tr H d (.ref a)->(d.showable&&!d.hasDict&&decide (d.depth<=40)&&decide (d.shown.length+n<=16000000))=true->wpAny (model X.prog X.w) X.A (pyReprObj (.ref a)) Q E s:=fun a d td h=>by
  simp only[aO,dz,cV]at h;obtain⟨⟨⟨h1,h2⟩,h3⟩,h4⟩:=h
  obtain⟨as,rd⟩:=td.reads I (show RelV (.ref a) (.ref a) from rfl)
  exact pyReprObj_of_reads rd h1 (fun z=>by rw[h2]at z;cases z) hg (by (first|lia|omega)) (fun _ _ e=>e) (fun h' t tk hk=>q _ _ _ h4 (I.kept (t':=tk) hk)) (aj (aj (bL _ _) h4) (by decide))
 cases d with
 | none=>cases (show v=.non from td);cases (show u=Value.none from r);exact pyReprObj_none (q _ _ _ (by show 4+n<=_;(first|lia|omega)) (I.tok _))
 | bool b=>cases (show v=.bl b from td);cases (show u=Value.bool b from r);exact pyReprObj_bool (q _ _ _ (by cases b <;> (first | (show 4+n<=_;(first|lia|omega)) | (show 5+n<=_;(first|lia|omega)))) (I.tok _))
 | int i =>
  cases (show v=.int i from td)
  obtain⟨t,e⟩:=(show ∃t,u=Value.int i t from r);cases e
  have hi:i.natAbs.log2<1920:=aL h
  exact pyReprObj_int hi (q _ _ _ (by have:=int_text_len_1921 hi;(first|lia|omega)) (I.tok _))
 | str x =>
  cases (show v=.str x from td)
  obtain⟨t,e⟩:=(show ∃t,u=Value.str x t from r);cases e
  exact A4u I (aL h) q
 | list ds=>obtain⟨a,vs,e,_⟩:=id td;cases e;cases (show u=Value.ref a from r);exact seq a _ td h
 | tuple ds=>obtain⟨a,vs,e,_⟩:=id td;cases e;cases (show u=Value.ref a from r);exact seq a _ td h
 | dict kv=>exact(show False from td).elim
def tFs (n:Nat)(te:TE):TE:=fun σ H Q=>te σ H fun v H1=>∃d,Tr H1 d v/\Ao0 n d=true/\∀z,Q (.str z) H1
end
end L2
namespace L2
open PySem PySem.Spec PyProof.Rows
section
variable {X:Cx}
def Au2 (K:v9):V->l_->Hp->VK->Prop:=fun x vs H Q=>∃(a:Addr) (bs:List Bool),x=.ref a/\vs=[.bl true]/\SqL K H a (bs.map V.bl)/\Q (.int ((bs.countP id:Nat):Int)) H
theorem A1t {Kq:v9}(hKq:X.K=Kq)(hu:X.A.units+64<cLine):MtM X "list.count" (Au2 Kq):=by
 subst hKq;intro pins s σ H x vs v us Q I rx rv h;obtain⟨a,bs,rfl,rfl,hq,q⟩:=h
 cases rx
 obtain⟨u,rfl,ru⟩:=rv.one
 cases ru
 obtain⟨its,r,pl,hz⟩:=I.list hq
 cases Zg r
 obtain⟨o,n,e,hc,hdn,hd⟩:=pl;obtain⟨c0,dd,dat,sl⟩:=o
 dsimp only at hc hd hdn
 subst hc hd hdn
 have hcnt:(bs.map Value.bool).toArray.toList.countP Ac3=bs.countP id:=by
  rw[List.countP_map]
  congr 1
 refine call_meets F.slot_list_count ⟨_,e,rfl⟩ F.entry_list_count (F.args_list_count_2 _ _) (SeqAt.list_countAt a (bs.map Value.bool).toArray n none sl (.bool true) Ac3) ⟨e,fun w hw=>?_,?_⟩
 ·obtain⟨b,hb,rfl⟩:∃b∈bs,Value.bool b=w:=by simpa using hw
  have:=SeqAt.eqAt_reads (.bool b) (.bool true) X.A.in1 s _ _ _ _ (.bool b) (.bool true) rfl rfl (by show X.A.units+1+0<_;(first|lia|omega))
  cases b <;> exact this
 ·exact⟨.int _,H,I.tok _,⟨_,by rw[hcnt]⟩,q⟩
end
section
variable {X:Cx}
def rIndexD:V->l_->Hp->VK->Prop:=fun x vs H Q=>∃(y:V) (d:t_) (ds:w5) (j:Nat),vs=[y]/\Tr H d y/\Tr H (.tuple ds) x/\Flat d/\PyData.canLayAll0 ds=true /\
 (∃e,ds[j]?=some e/\PyData.eqv e d=true)/\(∀m e,m<j->ds[m]?=some e->PyData.eqv e d=false)/\Q (.int (j:Nat)) H
theorem Ay5 (hu:X.A.units+64<cLine):MtM X "tuple.index" rIndexD:=by
 intro l s σ H x vs v us Q I P L h;obtain⟨y,d,c,j,rfl,A,E,w,i,⟨ej,B,C⟩,D,q⟩:=h;obtain⟨u,rfl,G⟩:=L.one;obtain⟨as,J⟩:=A.reads I G;obtain⟨bs,K⟩:=E.reads I P
 cases K with
 | tuple k g p r =>
  rename_i a o b n;obtain⟨c0,dd,N,sl⟩:=o
  dsimp only at g p
  subst g p;have t:=SeqAt.readsAll_map c _ _ i r
  have M:∀m (O:m<b.size) e,c[m]?=some e->SeqAt.readOf s.heap b[m]=e:=fun m O e he=>by
   grind
  have f:b.size=c.length:=by grind
  obtain⟨z,_⟩:=bG.mp B
  refine call_meets F.slot_tuple_index ⟨_,k,rfl⟩ F.entry_tuple_index (F.args_tuple_index_2 _ _) (M3 a _ n _ _ _ (fun y=>PyData.eqv (SeqAt.readOf s.heap y) d) j (f▸z) ?_ ?_) ⟨k,?_,?_⟩
  ·simp_all
  ·grind
  ·exact SeqAt.items_eqAt r J i w.1 (X8 hu w.2)
  ·exact⟨.int _,H,I.tok _,⟨_,rfl⟩,q⟩
end
def TabAt (K:v9)(h:Heap):Prop:=(∀p∈Dr K,h.get? p.1=some { cls:=.none,data:=.fields #[] }/\isCodeTable h p.1/\K.lookup p.1=none)/\∀p∈Dr K,(Dr K).lookup p.1=some p.2
theorem Ih {l:List (Addr×Str)}   (h:l.lookup b=some q):(b,q)∈l:=by
 induction l with
 | nil=>grind
 | cons p r a =>
  grind
theorem A2r   {K:v9}          
 (KX:K.In c.heap) (hns:c.heap.Ns mainGlobals mg) (hb:c.heap.Ns builtinsNs U) (X:∀x:Str,x ≠ "__name__" -> U x=bootBuiltins x) (L:c.heap.NoLimit) (hg:c.gens=#[])
 (T:∃j o,mg "__builtins__" = some (.ref j)/\j≠builtinsNs/\c.heap.get? j=some o/\o.cls=.type "module" /\ o.dict=some builtinsNs/\o.data=.plain) (D:TabAt K c.heap)
 (ha:c.heap.get? a=some { cls:=.type "list",data:=.seq vs.toArray }) (hi:IntsAre vs ns) (hl:ns.length<=sizeLine) (hr:Room k callerA)
 (F:∀base:Heap,K.In base->base.Ns mainGlobals mg->FnOk P w K mg base CX k fa fd [x] sp) (C:∀(s:u_) (u:Value),BindsTo s fd ⟨[u],[]⟩ [(x,u)])
 (hsp:∀H:Hp,SqL K H a (ns.map V.int)->sp [.ref a] H (fun v _=>v=.bl true) fun _ _ _=>False)
 (W:∀H e s',CX [] H c (fun _ _ _=>False) e s'->False) :
 codeAny (model P w) callerA (.call (.ref fa) ⟨[.ref a],[]⟩) (fun r s'=>r=.ok (.ret (.bool true))/\OldK c.heap s'.heap/\s'.os=c.os/\AllBare s'.gens) c:=by
 have rv:=V2 hi;have E:=hi.length
 have Y:∀p∈Dr K,p.1≠a:=fun p B z=>by
  have e:=(D.1 p B).1;rw[z,ha]at e;cases e
 have t:∀H:Hp,SqL K H a (ns.map V.int)->HOk P w H c.heap->(∀b u,H b=some u->(b=a/\K.lookup a=none/\∃o xs,u=.frz o (.lst xs))\/∃q,(b,q)∈Dr K/\u=.tbl q)->(∀p∈Dr K,H p.1=some (.tbl p.2)) ->
  codeAny (model P w) callerA (.call (.ref fa) ⟨[.ref a],[]⟩) (fun r s'=>r=.ok (.ret (.bool true))/\OldK c.heap s'.heap/\s'.os=c.os/\AllBare s'.gens) c:=by
  intro H hS G hA hH
  have f:∀{b:Addr} {o:Obj},c.heap.get? b=some o->H b=none->(Vs c.heap H).get? b=some o:=fun e n=>A7r e n
  have N:∀{b:Addr} {o:Obj},c.heap.get? b=some o->(∀x n,o.data≠.seq x n)->(∀x,o.data≠.fields x)->H b=none:=fun {b o} e d1 d2=>by
   cases q:H b with
   | none=>rfl
   | some u =>
    rcases hA b u q with ⟨z,_⟩ | ⟨y,O,_⟩
    ·rw[z,ha]at e;cases e;exact absurd rfl (d1 _ _)
    ·have g:=(D.1 _ O).1
     rw[e]at g;cases g;exact absurd rfl (d2 _)
  have l:∀{b:Addr} {m:x_},c.heap.Ns b m->(Vs c.heap H).Ns b m:=fun {b m} ⟨o,es,ep,e,d,r⟩=>⟨o,es,ep,f e (N e (fun x n z=>by rw[d]at z;cases z) fun x z=>by rw[d]at z;cases z),d,r⟩
  have I:K.In (Vs c.heap H):=fun b o e=>f (KX b o e) (by
   cases q:H b with
   | none=>rfl
   | some u =>
    rcases hA b u q with ⟨z,z2,_⟩ | ⟨y,O,_⟩
    ·rw[z,z2]at e;cases e
    ·rw[(D.1 _ O).2.2]at e;cases e)
  have Z:∃j o,mg "__builtins__" = some (.ref j)/\j≠builtinsNs/\j≠mainGlobals/\(Vs c.heap H).get? j=some o/\o.cls=.type "module" /\ o.dict=some builtinsNs/\o.data=.plain:=by
   obtain⟨j,o,b1,b2,Q,b4,b5,M⟩:=T
   refine⟨j,o,b1,b2,fun z=>?_,f Q (N Q (fun x n z=>by rw[M]at z;cases z) fun x z=>by rw[M]at z;cases z),b4,b5,M⟩
   obtain⟨og,es,ep,e,d,_⟩:=hns;rw[z,e]at Q;cases Q;rw[d]at M;cases M
  have hM:Mod K mg (Vs c.heap H):=⟨I,l hns,⟨U,l hb,X⟩,(let ⟨mc,h1,h2⟩:=L; ⟨mc,l h1,h2⟩),Z⟩
  have e0:Env0 P w K mg (Vs c.heap H) callerA [] c H:=⟨rfl,hM,fun b o e=>Bk1 e,dm (Az3 _ _),trivial,fun b hb=>absurd (show b∈([]:v6) from hb) (by simp),hH,G,.of_eq hg⟩
  refine codeAny_mono ((F _ I (l hns)).run callerA [] c H ⟨[.ref a],[]⟩ [.ref a] [.ref a] _ _ hr e0 (C c (.ref a)) (.cons rfl .nil) (hsp H hS)) fun r s' h=>?_
  cases r with
  | error e=>exact(W H e s' h).elim
  | ok fl =>
   cases fl with
   | next=>exact False.elim h
   | brk=>exact False.elim h
   | cont=>exact False.elim h
   | ret u =>
    obtain⟨v,H',os,J,R,A,r',q⟩:=h;have q':v=.bl true:=q;subst q';obtain rfl:u=Value.bool true:=r'
    refine⟨rfl,⟨fun b o e=>?_,fun b o e=>R.there b o e (by simp)⟩,os,J⟩
    cases q:H b with
    | none=>exact .inl (R.keep b o e q (by intro z;exact absurd (show b∈([]:v6) from z) (by simp)) (by simp))
    | some u =>
     rcases hA b u q with ⟨_,_,ob,xs,rfl⟩ | ⟨y,O,rfl⟩
     ·obtain⟨g,_⟩:=G b _ q
      obtain⟨e2,_⟩:=A b _ (R.frzs b ob _ q);rw[e]at g;cases g;exact .inl e2
     ·obtain⟨ps,e2,_⟩:=A b _ (R.tbls b y q)
      obtain⟨t1,t2,_⟩:=D.1 _ O;rw[e]at t1;cases t1
      exact .inr (.inl ⟨t2,rfl,#[],ps,rfl,by rw[e2];simp⟩)
 have i:∀(H:Hp) (p:Addr×Str),p∈Dr K->z8 P w H _ _ (.tbl p.2):=fun H p B=>⟨#[],(D.1 p B).1,trivial,fun pos cv z=>by cases z⟩
 cases hk:K.lookup a with
 | some o =>
  have e:=KX a o hk;rw[ha]at e
  cases e
  refine t (fun b=>((Dr K).lookup b).map .tbl) (.inr ⟨_,vs.toArray,_,hk,rfl,rfl,rfl,by rw[aZ,E];exact hl,by simpa using rv⟩) (fun b u z=>?_) (fun b u z=>?_) fun p B=>?_
  ·obtain⟨q,g,rfl⟩:=aH.mp z
   exact i _ _ (Ih g)
  ·obtain⟨q,g,rfl⟩:=aH.mp z
   exact .inr ⟨q,Ih g,rfl⟩
  ·rw[D.2 p B];rfl
 | none =>
  refine t (fun b=>if b=a then some (.frz { cls:=.type "list",data:=.seq vs.toArray } _) else ((Dr K).lookup b).map .tbl) (.inl (.inr ⟨{ cls:=.type _,data:=.seq _ },if_pos rfl⟩)) (fun b u z=>?_) (fun b u z=>?_) fun p B=>?_
  ·by_cases hb:b=a
   ·have S:=(if_pos hb).symm.trans z
    cases S
    subst hb
    exact⟨ha,by rw[ao];exact hl,vs,_,rv,ha⟩
   ·obtain⟨q,g,rfl⟩:=aH.mp ((if_neg hb).symm.trans z)
    exact i _ _ (Ih g)
  ·by_cases hb:b=a
   ·have S:=(if_pos hb).symm.trans z
    cases S
    exact .inl ⟨hb,hk,_,_,rfl⟩
   ·obtain⟨q,g,rfl⟩:=aH.mp ((if_neg hb).symm.trans z)
    exact .inr ⟨q,Ih g,rfl⟩
  ·rw[if_neg (Y p B),D.2 p B];rfl
end L2
namespace L2
open PySem PySem.Spec PyProof.Rows PySem.W
theorem Zr {f:Pos}{c:Value}:∀(l:w6),TriplesOk l->TriplesOk (l++[rawInt f.line,rawInt f.col,c]):=fun l h=>by
 fun_induction TriplesOk l with
 | case1=>trivial
 | case2 a b c d e g i=>exact i h
 | case3=>trivial
theorem Ak4 {g f:Pos}{c cv:Value}:∀(l:w6),TriplesOk l->codeAmong f (l++[rawInt g.line,rawInt g.col,c])=some cv->codeAmong f l=some cv\/cv=c:=fun l h e=>by
 fun_induction TriplesOk l with
 | case1 =>
  simp only[dC,rawInt,codeAmong]at e
  grind
 | case2 a b c d k i j =>
  simp only[List.cons_append,codeAmong]at e ⊢
  grind
 | case3=>trivial
def Bx9 (H H':Hp):Prop:=H'=H\/∃c o,H c=none/\H'=upd H c (.frz o (.own 0))
abbrev Ao1 (qual:Str)(params:Arguments)(body:Expr)(scope:Scope)(cl:List (Str×Addr))(pm cv ctv:Value):Obj:={ cls:=.type "function",data:=.func (kla_fn "<lambda>" qual params body scope cl pm cv ctv) }
def LamCd (qual:Str)(cv:Value)(H:Hp):Prop:=∃c o vs t,cv=.ref c/\H c=some (.frz o (.own 0))/\o.data=.fields vs/\vs[1]?=some (.str qual t)
theorem LamCd.rec {P:u6}{w:World}{qual:Str}{cv:Value}{H:Hp}{h:Heap}(x:LamCd qual cv H)(b:HOk P w H h):h.CodeRec cv qual:=by
 obtain⟨c,o,i,t,e,a,d,f⟩:=x;obtain⟨g,_⟩:=b c _ a;exact⟨c,o,i,t,e,g,d,f⟩
section
variable {X:Cx}{pins:y_}{σ:St}{H:Hp}{s:u_}
theorem Inv.grown {T c:Addr}{q:Str}{f:Obj}{h':Heap}{t':Nat}(I:Inv X pins σ H s)(w:H T=some (.tbl q))(k:∀b o,b≠T->s.heap.get? b=some o->h'.get? b=some o)(hc:s.heap.objs.size<=c)(ho:h'.get? c=some f)
 (j:z8 X.prog X.w (upd H c (.frz f (.own 0))) h' T (.tbl q)):Inv X pins σ (upd H c (.frz f (.own 0))) { s with heap:=h',toks:=t' }:=by
 have p:H c=none:=I.hok.fresh hc
 have a:∀b u,H b=some u->b≠c:=fun b u e=>Bk e p
 have i:∀b u,s.heap.get? b=some u->b≠c:=fun b u e z=>absurd (Heap.lt_size e) (by simp_all)
 have h:∀b,H b=none->b≠T:=fun b e z=>by rw[z,w]at e;cases e
 refine I.step (g':=s.gens) (d':=s.drawn) (ch:=[]) (fun _ z=>nomatch z) (fun b o _ _ _ e n=>k b o (h b n) e) (fun b o _ _ _ e n=>⟨o.slots,k b o (h b n) e⟩) (fun b o _ e n=>by rw[Am (i b o e)];exact n) (fun b o _ e=>?_)
  (fun b l e=>by rw[Am (a b _ e)];exact e) (fun b o u e=>by rw[Am (a b _ e)];exact e) (fun b q e=>by rw[Am (a b _ e)];exact e) (fun m x=>?_) (fun b u e=>?_) I.bare
 ·by_cases hb:b=T
  ·obtain⟨B,g,_⟩:=j
   simp_all
  ·exact⟨o,k b o hb e⟩
 ·obtain⟨o,t,y,e,r⟩:=x
  exact⟨o,t,y,k _ o (h _ I.free) e,r⟩
 ·by_cases hb:b=c
  ·rw[hb]at e ⊢
   rw[Bg]at e;cases e;exact⟨ho,f,ho⟩
  ·rw[Am hb]at e
   by_cases hbT:b=T
   ·simp_all
   ·refine (I.hok b u e).stay (fun d v C z=>k d v ?_ z) (fun d z=>by rw[Am (a d _ z)];exact z) (fun d l z=>by rw[Am (a d _ z)];exact z) fun d A l z=>by rw[Am (a d _ z)];exact z
    grind
theorem A6b {a:Arguments}{body:Expr}{scope:Scope}{N:Pos}{cl:List (Str×Addr)}{c T:Addr}{l:Str}{Q:z_}{A:q_}{E:z_}(I:Inv X pins σ H s)(hT:(T,l)∈Dr X.K)(hC:codeHdIn X.K c T=true)(g:X.env.code=.ref c)
 (hq:X.env.qual ++ "<lambda>" = l) (w:defaultsOf a X.env=([],[])) (x:closureFor scope X.env=pure cl)
 (h:∀(f:Addr) (s':u_) (H':Hp) (pm cv j:Value),Inv X (pins++[(f,Ao1 l a body scope cl pm cv j)]) σ H' s'->Bx9 H H'->LamCd l cv H'->Q (.ref f) s') :
 wpAny (model X.prog X.w) A (eval (.Lambda a body scope N) X.env) Q E s:=by
 have D:H T=some (.tbl l):=I.base.tbls T l (I.ok.tab (T,l) hT);obtain⟨ps,F,K,i⟩:=I.hok T _ D;have C:=codeHd_of_K I.kIn hC;have m:s.heap.Ns mainGlobals X.mg:=I.ok.mod.glob.keeps I.bk;obtain⟨Z,ob,b1,b2,b3,b4,b5,b6,b7⟩:=I.ok.mod.bmod;have k:=I.bk _ _ b4
 have M:mainGlobals≠T:=fun z=>by
  obtain⟨o,es,ep,e,d,_⟩:=m;rw[z,F]at e;cases e;cases d
 have O:Z≠T:=fun z=>by rw[z,F]at k;cases k;cases b5
 have Y:s.heap.BuiltinsAt X.mg T:=⟨Z,ob,b1,b2,b3,O,k,b5,b6,b7⟩
 have q:∀{n:Heap} {H':Hp} {y:Nat} {o:Obj},Inv X _ σ H' { s with heap:=n,toks:=y }->o.isFreed=false->(∀v,o.data≠.cell v)->Inv X (pins++[(n.objs.size,o)]) _ _ _:=fun {n H' y o} J R G=>by
  have f:=J.fpOk  (ak _) (J.hok.fresh (ak _))
  have J2:Inv X _ _ _ { s with heap:=n.push o,toks:=y }:=J.kept  fun b u e=>Heap.get?_push_of_some _ e
  refine J2.pins_of fun p hp=>?_
  rcases bx.mp hp with z | z
  ·exact J2.pin p (aC _ z)
  ·rw[aP.mp z]
   exact⟨Heap.get?_push_size _ R,f.1,f.2.1,f.2.2.1,G⟩
 refine kla_eval w ?_
 rw[hq]
 cases hf:codeAmong _ _ with
 | none =>
  refine kla_makeFunction  x I.ok.glob m g C F K hf M Y fun S j n y hx r hlt B U=>?_
  obtain⟨c2,P,vs,t,L,V,G,hv⟩:=B
  cases L
  have hn  := I.hok.fresh r
  refine h _ _ _ _ _ _ (q (I.grown  D (fun b o hb e=>hx b o hb e) r V ?_) rfl fun v z=>by cases z) (.inr ⟨S,P,hn,rfl⟩) ⟨S,P,vs,t,rfl,Bg,G,hv⟩
  refine⟨_,U,by rw[Array.toList_append];exact Zr _ K,fun pos' cv z=>?_⟩
  rw[Array.toList_append]at z
  rcases Ak4 _ K z with z | rfl
  ·obtain⟨d,o,W,t',e1,L,e3⟩:=i _ _ z
   exact⟨d,o,W,t',e1,by rw[Am (Bk L hn)];exact L,e3⟩
  ·exact⟨S,P,vs,t,rfl,Bg,G,hv⟩
 | some cv =>
  refine kla_makeFunctionHit  x I.ok.glob m g C F K hf Y fun j n y hk hsz=>?_
  exact h _ _ H _ _ _ (q (I.kept  hk) rfl fun v z=>by cases z) (.inl rfl) (i _ _ hf)
abbrev V5 (X:Cx)(N':v4)(scope:Scope)(cl:List (Str×Addr))(qual:Str)(f:Addr)(cv:Value)(s:u_)(H:Hp):Cx :=
 { X with
  A:=X.A.in1.in1.deeper (envX qual scope s.heap.objs.size f cv cl),N:=N',s₀:=s,H₀:=H,env:=envX qual scope s.heap.objs.size f cv cl,outer:=X.stack,stack:=envX qual scope s.heap.objs.size f cv cl::X.stack,
  ex:=[],fn:=fun _=>false,calm:=true,pn:=[],xe:=fun _ _=>False }
theorem Be8 {N':v4}{idx:o5}{scope:Scope}{cl:List (Str×Addr)}{qual x:Str}{f:Addr}{cv u:Value}{v:V}{h₁:Heap}{t':Nat}(L:O2 X (x::N') (none::idx) scope)(hx:scope.names.lookup x=some .local)(hd:X.A.handled=none)(I:Inv X pins σ H s)
 (c1:∀x c,cl.lookup x=some c->X.env.cells.lookup x=some c/\(x,NameKind.free)∈scope.names) (c2:∀x,(x,NameKind.free)∈scope.names->∃c,cl.lookup x=some c) (r:RelV v u)
 (k:∀b o,s.heap.get? b=some o->h₁.get? b=some o) (hn:h₁.Ns s.heap.objs.size (fun y=>[(x,u)].reverse.lookup y)) :
 Inv (V5 X (x::N') scope cl qual f cv s H) [] (some v::cst idx σ) H { s with heap:=h₁,toks:=t' } where
 ok:={
  mod:=I.ok.mod,kind:=L.kind,glob:=rfl,blt:=rfl,above:=ak _,inj:=fun y z c e1 e2=>I.ok.inj y z c (c1 y c e1).1 (c1 z c e2).1
  has:=fun y h=>by
   have h':scope.names.lookup y=some .cell\/scope.names.lookup y=some .free:=h
   rcases h' with h | h
   ·exact absurd rfl (L.cell _ (lookup_mem h))
   ·exact c2 y (lookup_mem h)
  cab:=(fun y c z=>nomatch z),hd:=fun _=>hd,frames:=Around.frames_deeper I.ok.frames,stk:=.inr ⟨rfl,rfl⟩,exf:=(fun b z=>nomatch z),bs:=I.bs,bsz:=aj I.ok.bsz I.sz,noex:=(fun _ _ _ z=>nomatch z),exfs:=(fun _ z=>nomatch z)
  funs:=I.stack,frf:=I.stkFree,tab:=fun p hp=>I.base.tbls p.1 p.2 (I.ok.tab p hp) }
 os:=rfl
 bare:=I.bare
 base:=Un.kept k
 loc:=by
  refine⟨_,hn,fun j y w e1 e2 e3=>?_⟩
  cases j with
  | zero =>
   cases (show some x=some y from e1)
   cases (show some (some v)=some (some w) from e2)
   exact⟨u,r,.inl ⟨hx,by simp⟩⟩
  | succ j =>
   obtain⟨m0,hn0,hl⟩:=I.loc
   have e2':(idx.map fun o=>o.bind fun i=>(σ[i]?).join)[j]?=some (some w):=e2
   rw[bT]at e2'
   cases ei:idx[j]? with
   | none=>rw[ei]at e2';cases e2'
   | some o =>
    rw[ei]at e2';simp only[du,dX]at e2'
    cases o with
    | none=>cases e2'
    | some i =>
     have e2'':(σ[i]?).join=some w:=e2';obtain⟨hNi,hfr⟩:=L.at' (j+1) i y e1 ei
     have hσ:σ[i]?=some (some w):=by
      cases q:σ[i]? with
      | none=>rw[q]at e2'';cases e2''
      | some z=>rw[q]at e2'';rw[show z=some w from e2'']
     have hk:=L.free _ (lookup_mem hfr) rfl
     have hvis:Vis X.env.scope y:=by
      rcases hk with z | z
      ·exact .inr (.inl z)
      ·exact .inr (.inr z)
     obtain⟨u',r',lk⟩:=hl i y w hNi hσ hvis
     refine⟨u',r',.inr ⟨.inr hfr,?_⟩⟩
     rcases lk with ⟨z,_⟩ | ⟨_,c,hc,hcl⟩
     ·exfalso
      have z':X.env.kindOf y=some .local:=z
      rcases hk with q | q
      ·rw[show X.env.kindOf y=_ from q]at z';cases z'
      ·rw[show X.env.kindOf y=_ from q]at z';cases z'
     ·obtain⟨c',hc'⟩:=c2 y (lookup_mem hfr)
      have ec:c'=c:=bN ((c1 y c' hc').1.symm.trans hc);obtain⟨oc,g1,g2⟩:=hcl
      exact⟨c',hc',oc,by rw[ec];exact k _ _ g1,g2⟩
 cell:=fun y c e=>by
  obtain⟨w,oc,g1,g2⟩:=I.cell y c (c1 y c e).1;exact⟨w,oc,k _ _ g1,g2⟩
 free:=I.hok.fresh (ak _)
 freeC:=fun y c e=>I.freeC y c (c1 y c e).1
 pin:=fun p hp=>nomatch hp
 hok:=I.hok.kept k
 len:=by
  show (some v::idx.map _).length=(x::N').length
  have:=L.len;rw[aG,aG]at this;rw[aG,ao,aG];exact this
theorem Bf5 {k:Nat}{N':v4}{idx:o5}{a:Arguments}{body:Expr}{scope:Scope}{i:List (Str×Addr)}{qual x:Str}{f:Addr}{B cv j u:Value}{v:V}{A:TE}{Q:VK}(L:O2 X (x::N') (none::idx) scope)(hx:scope.names.lookup x=some .local)
 (n:scope.isCoroutine=false) (l:scope.isGenerator=false) (g:bindArgs (kla_fn "<lambda>" qual a body scope i B cv j) ⟨[u],[]⟩=pure [(x,u)]) (hr:Room (k+3) X.A)
 (hb:QE (V5 X (x::N') scope i qual f cv s H) body A) (I:Inv X pins σ H s) (ho:s.heap.get? f=some (Ao1 qual a body scope i B cv j)) (hcd:s.heap.CodeRec cv qual)
 (c1:∀x c,i.lookup x=some c->X.env.cells.lookup x=some c/\(x,NameKind.free)∈scope.names) (c2:∀x,(x,NameKind.free)∈scope.names->∃c,i.lookup x=some c) (r:RelV v u) (h:A (some v::cst idx σ) H Q) :
 wpAny (model X.prog X.w) X.A.in1.in1 (call (.ref f) [u]) (EP X pins σ fun v H'=>(∀b o u,H b=some (.frz o u)->H' b=some (.frz o u))/\Q v H') (fun _ _=>False) s:=by
 refine wpAny_call ?_
 refine kla_callFunE hr.in1.in1.depth ho rfl n l rfl hcd ?_
 rw[g]
 refine wpAny_pure (wpAny_newFunctionEnv L.cell fun y J=>by simp_all (fun w t p=>?_) L.kind)
 have d  := fun b o e=>p.extBut b o (aM (Heap.lt_size e)) (Heap.get?_push_of_some _ e)
 refine⟨I.nolimit.keeps d,?_⟩
 refine kla_codeExpr (wpAny_mono (hb.get _ _ _ H Q (Be8 (qual:=qual) (f:=f) (cv:=cv) (t':=s.toks+[(x,u)].length) L hx hr.hd I c1 c2 r d t) h) (fun F G C=>?_) fun _ _ z=>z.elim)
 obtain⟨E,H',m,D,q⟩:=C;exact I.after ⟨E,H',m.os,m.bare,m.base,m.hok,D,m.base.frzs,q⟩
end
section
variable {X:Cx}{p pos lpos kpos:Pos}{e:Expr}{t:TA}
def A5g (K:v9)(idx:o5)(te:TE)(t:TA):TE:=fun σ H Q=>t σ H fun vs H1=>∃a xs,vs=[.ref a]/\∀H2,Bx9 H1 H2->(SqL K H2 a xs\/SqT K H2 a xs)/\Rc (fun x H Q=>te (some x::cst idx σ) H Q) xs [] H2 (fun ks H3=>Vr xs ks H3 Q)
theorem A3l {k:Nat}{N':v4}{idx:o5}{b:Arguments}{body:Expr}{scope:Scope}{w x:Str}{c T:Addr}{K:TE}(hT:(T,w)∈Dr X.K)(Z:codeHdIn X.K c T=true)(j:X.env.code=.ref c)(hr:Room (k+3) X.A)
 (hg:Gl X "sorted") (hm:X.mg "sorted" = none) (ha:PA X [e] t) (L:O2 X (x::N') (none::idx) scope) (hb:∀f A n s H,Room k (V5 X (x::N') scope n w f A s H).A->QE (V5 X (x::N') scope n w f A s H) body K)
 (hx:scope.names.lookup x=some .local:=by rfl) (M:scope.isCoroutine=false:=by rfl) (C:scope.isGenerator=false:=by rfl) (B:X.env.qual ++ "<lambda>" = w:=by rfl) (D:defaultsOf b X.env=([],[]):=by rfl)
 (l:∀n F A m u,bindArgs (kla_fn "<lambda>" w b body scope n F A m) ⟨[u],[]⟩=pure [(x,u)]:=by exact fun _ _ _ _ _=>rfl)
 (he:backTo pos (starEach [e] X.env)=(false,eval e X.env)::backTo pos (starEach [] X.env):=by rfl) (hpl:(backTo pos (starEach [e] X.env)).any (·.1)=false:=by rfl) :
 PE X (.Call (.Name "sorted" p) [e] [⟨some "key",.Lambda b body scope lpos,kpos⟩] pos) (A5g X.K idx K t):=by
 intro g s V H Q I h
 refine wpAny_Call_Name_kw (Hr I hg hm boot_sorted ?_ (by decide) (by rfl))
 refine PyProof.Rows.callWith_kw (thn (ha pos g s V H _ I h) fun us Y ⟨S,H1,W,r,q⟩=>?_) he hpl rfl rfl
 obtain⟨n,i,c1,c2⟩:=Nx (env:=X.env) (scope:=scope) fun y hy hf=>W.ok.has y.1 (L.free y hy hf)
 show wpAny _ _ (evalAll [do let v <- eval (.Lambda b body scope lpos) X.env;standAt pos;pure v]) _ _ Y
 refine wpAny_evalAll_cons (wpAny_bind (A6b W hT Z j B D i fun f s2 H2 F A m I2 hl N=>wpAny_bind (wpAny_standAt (wpAny_pure (wpAny_evalAll_nil ?_)))))
 obtain⟨a,xs,rfl,q⟩:=q;obtain⟨hs,hw⟩:=q H2 hl;obtain⟨u,rfl,ru⟩:=vals1 r
 cases (show u=Value.ref a from ru)
 have J:Bu7 X (g++[(f,Ao1 w b body scope n F A m)]) V f (LamCd _ _) (fun x H Q=>K _ H Q):=fun G s H x u Q' I U r hk=>by
  refine wpAny_mono (Bf5 L hx M C (l _ _ _ _ u) hr (hb f _ _ s H (hr.in1.in1.deeper _)) I ((I.pin _ (aC _ (bz _ (aC _ a_)))).1) (U.rec I.hok) c1 c2 r hk) (fun u' s' B=>?_) fun _ _ z=>z
  obtain⟨P,O,E,R,fz,q⟩:=B;obtain⟨c0,o,S,t0,e,hc,d⟩:=U;exact⟨P,O,E,R,⟨c0,o,S,t0,e,fz _ _ _ hc,d⟩,q⟩
 refine thn (Sx  J hr I2 N hs hw) fun u s3 B=>?_
 obtain⟨P,O,E,R,q⟩:=B
 exact⟨P,O,E.pins_of fun p hp=>E.pin p (aC _ (bz _ hp)),R,q⟩
theorem A7k {Kq:v9}(j:X.K=Kq){k:Nat}{N':v4}{idx:o5}{a:Arguments}{body:Expr}{scope:Scope}{g x:Str}{c T:Addr}{m:TE}(n:(T,g)∈Dr X.K)(q:codeHdIn X.K c T=true)(b:X.env.code=.ref c)(hr:Room (k+3) X.A)
 (hg:Gl X "sorted") (hm:X.mg "sorted" = none) (ha:QA X [e] t) (L:O2 X (x::N') (none::idx) scope) (hb:∀f cv cl s H,Room k (V5 X (x::N') scope cl g f cv s H).A->QE (V5 X (x::N') scope cl g f cv s H) body m)
 (hx:scope.names.lookup x=some .local:=by rfl) (l:scope.isCoroutine=false:=by rfl) (i:scope.isGenerator=false:=by rfl) (o:X.env.qual ++ "<lambda>" = g:=by rfl) (h:defaultsOf a X.env=([],[]):=by rfl)
 (d:∀cl pm cv ctv u,bindArgs (kla_fn "<lambda>" g a body scope cl pm cv ctv) ⟨[u],[]⟩=pure [(x,u)]:=by exact fun _ _ _ _ _=>rfl)
 (he:backTo pos (starEach [e] X.env)=(false,eval e X.env)::backTo pos (starEach [] X.env):=by rfl) (hpl:(backTo pos (starEach [e] X.env)).any (·.1)=false:=by rfl) :
 QE X (.Call (.Name "sorted" p) [e] [⟨some "key",.Lambda a body scope lpos,kpos⟩] pos) (A5g Kq idx m t):=by
 subst j;exact⟨A3l n q b hr hg hm ha.get L hb hx l i o h d he hpl⟩
end
def Fo (o:Obj):Bool:=match o.data with
 | .cell _=>false
 | _=>true
def sel (h:Heap)(tabs:List (Addr×Addr×Str))(a:Addr):Option Obj:=(h.get? a).bind fun o=>if (Fo o&&!(tabs.any fun t=>t.2.1==a))=true then some o else none
def O7 (h:Heap)(tabs:List (Addr×Addr×Str)):Frag:=((List.range h.objs.size).filterMap fun a=>(sel h tabs a).map fun o=>(a,o))++tabs.map fun t=>(t.1,Ar4 t.2.1 t.2.2)
theorem J5 {f:Nat->Option Obj}{b:Nat}:∀{l:List Nat},(l.filterMap fun a=>(f a).map fun o=>(a,o)).lookup b=if b∈l then f b else none
 | []=>by simp
 | a::l=>by
  rw[cT]
  by_cases e:b=a
  ·subst e
   rw[if_pos a_]
   cases q:f b with
   | none =>
    simp only[eN];rw[J5]
    split
    ·exact q
    ·rfl
   | some o=>simp
  ·have h1:(b∈a::l)=(b∈l):=by simp[e]
   simp only[h1]
   cases q:f a with
   | none=>simp only[eN];exact J5
   | some o =>
    simp only[du];rw[aN]
    have:(b==a)=false:=by simp[e]
    rw[this];exact J5
section
variable {h:Heap}{tabs:List (Addr×Addr×Str)}
theorem Ow   (e:sel h tabs a=some o):h.get? a=some o/\Fo o=true/\∀t∈tabs,t.2.1≠a:=by
 obtain⟨c,d,b⟩:=bh.mp e
 grind
theorem Bx7   (e:h.get? a=some o) (hp:Fo o=true) (hn:∀t∈tabs,t.2.1≠a):sel h tabs a=some o:=by
 unfold sel
 grind
theorem Nj   (e:sel h tabs a=some o):(O7 h tabs).lookup a=some o:=by
 unfold O7;rw[List.lookup_append,J5,if_pos (cZ.mpr (Heap.lt_size (Ow e).1)),e];rfl
theorem Uw {a:Addr}{o:Obj}:∀{tabs:List (Addr×Addr×Str)},(tabs.map fun t=>(t.1,Ar4 t.2.1 t.2.2)).lookup a=some o->∃t∈tabs,t.1=a
 | [],e=>by cases e
 | t::r,e=>by
  rw[aQ,aN]at e
  split at e
  ·rename_i z
   exact⟨t,a_,by simpa using (eq_comm.mp (by simpa using z))⟩
  ·obtain⟨t',h1,h2⟩:=Uw e
   exact⟨t',bw _ h1,h2⟩
theorem B2x (ht:∀t∈tabs,CodeHd h t.1 t.2.1/\h.get? t.2.1=some { cls:=.none,data:=.fields #[] })(D:∀t∈tabs,(tabs.map fun t=>(t.2.1,t.2.2)).lookup t.2.1=some t.2.2) :
 (O7 h tabs).In h/\TabAt (O7 h tabs) h/\(∀t∈tabs,codeHdIn (O7 h tabs) t.1 t.2.1=true/\(t.2.1,t.2.2)∈Dr (O7 h tabs))/\∀a o,h.get? a=some o->Fo o=true->o.data≠.fields #[]->(O7 h tabs).lookup a=some o:=by
 have g:∀a o,h.get? a=some o->Fo o=true->o.data≠.fields #[]->sel h tabs a=some o:=fun a o e d j=>Bx7 e d fun t m z=>by
  have:=(ht t m).2;rw[z,e]at this;cases this;exact j rfl
 have code:∀t∈tabs,∃o i,h.get? t.1=some o/\o.cls=.type "code" /\ o.data=.fields i/\i[11]?=some (.ref t.2.1)/\sel h tabs t.1=some o:=fun t m=>by
  obtain⟨o,i,_,_,_,_,_,_,_,w,v,l,u,_⟩:=(ht t m).1
  refine⟨o,i,w,v,l,u,g t.1 o w (by unfold Fo;rw[l]) fun z=>?_⟩
  rw[l]at z
  injection z with z
  rw[z]at u;simp at u
 have c:∀{a:Addr} {o:Obj},(O7 h tabs).lookup a=some o->sel h tabs a=some o:=fun {a o} e=>by
  cases q:sel h tabs a with
  | some y=>rw[Nj q]at e;exact e
  | none =>
   unfold O7 at e;rw[List.lookup_append,J5]at e
   have F:(if a∈List.range h.objs.size then sel h tabs a else none)=none:=by
    split
    ·exact q
    ·rfl
   rw[F]at e
   obtain⟨t,m,z⟩:=Uw (show (tabs.map fun t=>(t.1,Ar4 t.2.1 t.2.2)).lookup a=some o from e)
   obtain⟨_,_,_,_,_,_,s⟩:=code t m;rw[z,q]at s;cases s
 have k:Dr (O7 h tabs)=tabs.map fun t=>(t.2.1,t.2.2):=by
  unfold Dr O7;rw[List.filterMap_append]
  have x:((List.range h.objs.size).filterMap fun a=>(sel h tabs a).map fun o=>(a,o)).filterMap (fun p=>Uk p.2)=[]:=by
   rw[List.filterMap_eq_nil_iff];intro p d;obtain⟨a,_,e⟩:=dN.mp d;obtain⟨o,x,rfl⟩:=aH.mp e;have j:=(Ow x).2.1
   show Uk o=none
   unfold Uk;unfold Fo at j
   split
   ·rename_i z;rw[z]at j;cases j
   ·rfl
  have Q:(tabs.map fun t=>(t.1,Ar4 t.2.1 t.2.2)).filterMap (fun p=>Uk p.2)=tabs.map fun t=>(t.2.1,t.2.2):=by
   clear g c code D ht x
   induction tabs with
   | nil=>rfl
   | cons t r S =>
    rw[aQ,cT]
    show (t.2.1,t.2.2)::_=_
    rw[S];rfl
  rw[x,Q,dC]
 have B:(O7 h tabs).In h:=fun a o e=>(Ow (c e)).1
 refine⟨B,⟨fun p d=>?_,fun p d=>?_⟩,fun t m=>⟨?_,?_⟩,fun a o e d j=>Nj (g a o e d j)⟩
 ·rw[k]at d
  obtain⟨t,m,rfl⟩:=aJ.mp d;obtain⟨o,i,w,v,l,u,_⟩:=code t m
  refine⟨(ht t m).2,⟨t.1,o,i,w,v,l,u⟩,?_⟩
  cases q:(O7 h _).lookup _ with
  | none=>rfl
  | some y=>exact absurd rfl ((Ow (c q)).2.2 t m)
 ·rw[k]at d ⊢
  obtain⟨t,m,rfl⟩:=aJ.mp d;exact D t m
 ·obtain⟨o,i,_,v,l,_,s⟩:=code t m
  obtain⟨y,G,f,tf,fl,tg,b,n,tt,J,K,L,M,g5,I,N,H,P,A⟩:=(ht t m).1;have O  := bN (J.symm.trans (Ow s).1);subst O;obtain⟨R,od,C,E⟩:=y
  cases (show R=Value.type _ from K)
  cases (show C=Data.fields _ from L)
  unfold codeHdIn;rw[(Nj s)];simp only[M,I,N,H,P]
  simp[A]
 ·rw[k];exact aJ.mpr ⟨t,m,rfl⟩
end
section
variable {q:u6}{loose:v4}{mean:ExcName->u9}{mg mb:x_}{h:Heap}{K:Frag}
theorem Ax8   (j:∀a o,h.get? a=some o->Fo o=true->o.data≠.fields #[]->K.lookup a=some o) (c:h.CodeRec f x):codeIn K f x=true:=by
 obtain⟨a,o,b,t,rfl,g,d,e⟩:=c
 have k:=j a o g (by unfold Fo;rw[d]) fun z=>by grind
 obtain⟨oc,od,m,i⟩:=o
 show (match K.lookup a with
  | some ⟨_,_,.fields b,_⟩=>match b.toList with | _::.str n _::_=>n==x | _=>false
  | _=>false)=true
 obtain⟨l⟩:=b
 match l,e with
 | _::.str n u::_,e =>
  simp_all
theorem Bd9 (T:Top q loose mean mg mb h)(i:∀a o,h.get? a=some o->Fo o=true->o.data≠.fields #[]->K.lookup a=some o)  {st:Stmt}(hd:d∈recsOf q) (w:d.params=Ke st) (l:d.body=Gi st) (m:d.scope=Ar st) :
 ∃f fd,Fun K d.name d.name st f fd/\mg d.name=some (.ref f):=by
 obtain⟨a,o,e,b,c,n,p,r,s⟩:=T.fn d hd
 have k:=i a o p (by unfold Fo;grind) fun z=>by simp_all
 obtain⟨t,u,v,g⟩:=o
 cases (r)
 have j:PySem.Calls.docDef d.name d.params d.body d.scope e b c=fnOf d.name d.name (Ke st) (Gi st) (Ar st) .none .none c e none b .none:=by rw[w,l,m];rfl
 refine⟨a,_,⟨⟨t,u,.none,c,e,none,b,.none,g,j,k,Ax8 i s⟩,?_⟩,n⟩
 unfold keepIn
 grind
theorem Ba0 (T:Top q loose mean mg mb h){d:DefRec}(hd:d∈recsOf q):∃c P:Addr,CodeHd h c P/\h.get? P=some { cls:=.none,data:=.fields #[] }/\∀f o b,mg d.name=some (.ref f)->h.get? f=some o->o.data=.func b->b.code=.ref c:=by
 obtain⟨a,o,b,c,P,m,j,p,k,g,e⟩:=T.tab d hd
 refine⟨c,P,CodeHd.of g e,e.2,fun f n i r s l=>?_⟩
 simp_all
def A5r (q:u6)(loose:v4)(RN:v4)(x:Str):Bool:=!startupNames.contains x&&!loose.contains x&&!RN.contains x&&!((litsOf q).map (·.1)).contains x&&!((clssOf q loose).map (·.name)).contains x
theorem Cw (T:Top q loose mean mg mb h){a bs:v4}(f:(recsOf q).map (·.name)=a)(hb:bs.all (A5r q loose a)=true)  (hx:x∈bs):mg x=none:=by
 have:=aU.mp hb x hx;unfold A5r at this;simp only[aO,dz,List.contains_eq_mem,decide_eq_false_iff_not]at this;obtain⟨⟨⟨⟨d,c⟩,g⟩,e⟩,b⟩:=this
 exact T.free x d c (by grind) e b
end
theorem Ae3   (a:(recsOf q).map (fun d=>(d.name,d.params,d.body,d.scope))=L) {i:Nat}  (e:L[i]?=some x) :
 ∃d,d∈recsOf q/\d.name=x.1/\d.params=x.2.1/\d.body=x.2.2.1/\d.scope=x.2.2.2:=by
 grind
theorem Cd   (a:(recsOf q).map (fun d=>(d.name,d.params,d.body,d.scope))=L):(recsOf q).map (·.name)=L.map (·.1):=by
 rw[<- a,cW];rfl
theorem A7q {K:Frag}{h:Heap}{x qual:Str}{st:Stmt}{f:Addr}{a:u5}{v:Value}{mg:x_}(F:Fun K x qual st f a)(b:K.In h)(hc:∀f o a,mg x=some (.ref f)->h.get? f=some o->o.data=.func a->a.code=v)(hm:mg x=some (.ref f)):a.code=v:=by
 obtain⟨j,p,m,g,k,l,d,n,i,e,c,_⟩:=F.ex;exact hc f _ _ hm (b _ _ c) rfl
theorem A7v {K:Frag}  {st:Stmt}   (F:Fun K x qual st f c) (h:∀(d a e:Value) (i:Option Addr) (b g:Value) (s:u_) (u:Value),BindsTo s (fnOf x qual (Ke st) (Gi st) (Ar st) .none d a e i b g) ⟨[u],[]⟩ [(y,u)]):∀(s:u_) (u:Value),BindsTo s c ⟨[u],[]⟩ [(y,u)]:=by
 obtain⟨m,n,d,a,e,i,b,g,j,k,l,_⟩:=F.ex
 simp_all
section
variable {X:Cx}{pins:y_}{σ:St}{H:Hp}{s:u_}{D:Addr}{e1:Nat}{Q:VK}{P:PySem.Fin->u_->Prop}{E:z_}{A:q_}
theorem Td {ous:w6}{outs:l_}{st:SortSt}(hD:X.s₀.heap.objs.size<=D)(hp:∀p∈X.pn++pins,p.1≠D)(I:Inv X (pins++[(D,seqObj "list" #[] e1)]) σ H s) (hz:outs.length<=sizeLine)
 (ho:(arrOf st).map (·.2)=List.toArray ous) (hf:failedOf st=none) (rv:Vals outs ous) (q:∀l,H l=none->Q (.ref l) (upd H l (.lst outs))) (hP:∀s',EP X pins σ Q (.ref D) s'->P (.done (.ret .none)) s') :
 wpAny (model X.prog X.w) A (do
  let sorted:=(arrOf st).map (·.2)
  let touched:=(<- seqEpoch D) != e1
  Builtin.List.listUpdate (.ref D) fun _=>sorted
  if let some e:=failedOf st then rule "list.sort.comparison-raised";throw e
  if touched then rule "list.sort.modified";raiseError "ValueError" "list modified during sort"
  ret .none) P E s:=by
 obtain⟨pd1,pd2,pd3,pd4,pd5⟩:=I.pin (D,seqObj "list" #[] e1) (aC _ (aC _ a_))
 have cel:∀x c,X.env.cells.lookup x=some c->c≠D:=fun x c e z=>by
  obtain⟨v,ob,ho,hdc⟩:=I.cell x c e;rw[z,pd1]at ho;cases ho;exact pd5 v hdc
 have I0:Inv X pins σ H s:=I.pins_of fun p hp=>I.pin p (aC _ (bz _ hp))
 obtain⟨n2,gD2⟩:∃n2,(s.heap.update D (Obj.mapSeq fun _=>ous.toArray)).get? D=some (seqObj "list" ous.toArray n2):=⟨_,get?_update_seq pd1 fun _=>ous.toArray⟩
 have hlen:=rv.length
 dsimp only
 rw[ho]
 refine wpAny_bind (seqEpoch_at pd1 rfl ?_)
 refine wpAny_bind (listUpdate_at pd1 rfl ?_ (aD _) (by rw[aZ];(first|lia|omega)))
 rw[hf];simp only[bne_self_eq_false,fQ,if_false]
 refine wpAny_pure (hP _ ⟨.ref D,upd H D (.lst outs),?_,rfl,q D pd2⟩)
 exact I0.adopt (t':=s.toks) (fun b u hb e=>(Heap.get?_update_other _ _ (aB hb)).trans e) pd2 pd3 hD cel hp ⟨hz,ous,n2,rv,gD2⟩
theorem Ao9 {a:Addr}{vs:l_}(hu:X.A.units+80<cLine)(I:Inv X pins σ H s)(hq:SqL X.K H a vs\/SqT X.K H a vs)(h:Vr vs vs H Q) :
 wpAny (model X.prog X.w) X.A (call (.builtin "sorted") [.ref a]) (EP X pins σ Q) E s:=by
 obtain⟨us,T,o,n,rv,hT,ho,hcl,hd,hz⟩:∃(us:w6) (T:String) (o:Obj) (n:Nat),Vals vs us/\(T = "list" \/ T = "tuple")/\s.heap.get? a=some o/\o.cls=.type T/\o.data=.seq us.toArray n/\vs.length<=sizeLine:=by
  rcases hq with hq | hq
  ·obtain⟨us,rv,⟨o,n,g1,g2,g3,g4⟩,hz⟩:=I.list hq
   exact⟨us, "list",o,n,rv,.inl rfl,g1,g2,by first | exact g3 | exact g4,hz⟩
  ·obtain⟨us,rv,it,hz⟩:=I.tuple hq
   obtain⟨o,g1,g2,n,g3⟩:=it;exact⟨us, "tuple",o,n,rv,.inr rfl,g1,g2,g3,hz⟩
 have hlen:=rv.length
 refine Calls.call_function_entry kind_sorted plain_sorted entry_sorted (args_sorted1 _) ?_
 unfold Builtin.«sorted»
 refine wpAny_bind (m:=checkCount "sorted" 1 1 _) (wpAny_pure ?_)
 refine wpAny_bind (wpAny_collect_seq a hT ho hcl hd (fun g kg=>?_) (by rw[aZ];(first|lia|omega)))
 refine wpAny_bind (wpAny_newList ?_ (by simp;(first|lia|omega)))
 have I1:Inv X pins σ H { s with heap:=g }:=I.kept (t':=s.toks) kg
 have lo:X.s₀.heap.objs.size<=g.objs.size:=I1.sz;generalize hg1:g.push (seqObj "list" us.toArray 0)=g1
 have e1:g1.objs.size=g.objs.size+1:=by rw[<- hg1,size_push']
 have gD:g1.get? g.objs.size=some (seqObj "list" us.toArray 0):=by rw[<- hg1];exact Heap.get?_push_size _ rfl
 refine wpAny_bind (wpAny_holding (wpAny_call_entry slot_list_sort ⟨_,gD,rfl⟩ entry_list_sort ?_ (args_list_sort _)))
 show wpAny (model X.prog X.w) X.A.in1.in1 (Builtin.«list.sort» ⟨[.ref g.objs.size],[]⟩) _ _ _
 rw[list_sort_plain]
 refine wpAny_bind (listItems_at gD rfl ?_)
 refine wpAny_bind (listUpdate_at gD rfl ?_ (by rw[aZ];(first|lia|omega)) (aD _))
 generalize hg2:g1.update g.objs.size (Obj.mapSeq fun _=>(#[]:v7))=g2
 obtain⟨n1,gD1⟩:∃n1,g2.get? g.objs.size=some (seqObj "list" #[] n1):=⟨_,by rw[<- hg2];exact get?_update_seq gD fun _=>#[]⟩
 refine wpAny_bind (seqEpoch_at gD1 rfl ?_)
 refine wpAny_bind (wpAny_newTuple ?_ (by simp;(first|lia|omega)))
 refine wpAny_bind (wpAny_newList ?_ (aD _))
 refine wpAny_holding ?_
 generalize hg3:g2.push { cls:=.type "tuple",data:=.seq us.toArray.toList.toArray }=g3
 have keep:∀b u,g.get? b=some u->(g3.push { cls:=.type "list",data:=.seq ([]:w6).toArray }).get? b=some u:=fun b u e=>by
  have hlt:b<g.objs.size:=Heap.lt_size e
  have q1:g1.get? b=some u:=by rw[<- hg1];exact Heap.get?_push_of_some _ e
  have q2:g2.get? b=some u:=by rw[<- hg2];exact(Heap.get?_update_other _ _ (bH hlt)).trans q1
  have q3:g3.get? b=some u:=by rw[<- hg3];exact Heap.get?_push_of_some _ q2
  exact Heap.get?_push_of_some _ q3
 have fD:=I1.fpOk (b:=g.objs.size) (ak _) (I1.hok.fresh (ak _))
 have I2:Inv X pins σ H { s with heap:=g3.push { cls:=.type "list",data:=.seq ([]:w6).toArray } }:=I1.kept (t':=s.toks) keep
 have gD2:(g3.push { cls:=.type "list",data:=.seq ([]:w6).toArray }).get? g.objs.size=some (seqObj "list" #[] n1):=Heap.get?_push_of_some _ (by rw[<- hg3];exact Heap.get?_push_of_some _ gD1)
 have I3:Inv X (pins++[(g.objs.size,seqObj "list" #[] n1)]) σ H { s with heap:=g3.push { cls:=.type "list",data:=.seq ([]:w6).toArray } }:=I2.pins_of fun p hpp=>by
  rcases bx.mp hpp with z | z
  ·exact I2.pin p (aC _ z)
  ·rw[aP.mp z]
   exact⟨gD2,fD.1,fD.2.1,fD.2.2.1,fun v z=>by cases z⟩
 have hp:∀p∈X.pn++pins,p.1≠g.objs.size:=fun p hpp z=>absurd (Heap.lt_size (I1.pin p hpp).1) (by rw[z];show ¬ (g.objs.size<g.objs.size);(first|lia|omega))
 clear I2 gD2 keep
 dsimp only
 generalize ({ s with heap:=g3.push { cls:=.type "list",data:=.seq ([]:w6).toArray } }:u_)=s3 at I3 ⊢
 rcases h with ⟨h2,q⟩ | ⟨h2,h64,ds,kd,p,tds,hb,hfl,hpp,q⟩
 ·have h2':us.toArray.size<2:=by rw[aZ];(first|lia|omega)
  rw[if_pos h2',if_pos h2']
  refine wpAny_bind (wpAny_pure ?_)
  rw[StateT.run_pure]
  refine wpAny_bind (wpAny_pure ?_)
  refine Td (ous:=us) lo hp I3 hz ?_ rfl rv q fun s' q=>⟨_,rfl,wpAny_pure ⟨_,rfl,q⟩⟩
  show (us.toArray.zip us.toArray).map (·.2)=us.toArray
  apply Array.ext';simp only[Array.toList_map,Array.toList_zip];exact List.map_snd_zip (l₁:=us) (l₂:=us) (ak _)
 ·have h2':¬ us.toArray.size<2:=by rw[aZ];(first|lia|omega)
  rw[if_neg h2',if_neg h2'];obtain⟨as,rd⟩:=tds.reads I3 rv
  have hu':X.A.in1.in1.units+64<cLine:=by show X.A.units+1+1+64<_;(first|lia|omega)
  refine wpAny_bind (Aa8 rd hb (by (first|lia|omega)) ?_)
  have e64:us.length<64:=by (first|lia|omega)
  rw[hlen]at hpp
  refine wpAny_bind (wpAny_mono (kat_run (ks:=us) (vs:=us) (Q:=fun st' s'=>s'=s3/\arrOf st'=p.map (kas_item (us.toArray.zip us.toArray))/\failedOf st'=none/\p.size=us.length) (G:=fun p' s'=>p'=p/\s'=s3) rfl (by (first|lia|omega)) e64 (fun p' st' s' a1 a2 a3 a4=>?_) (Ai3 (B:=Zz kd ds) (fun i j r C hB hC=>?_) _ p hpp ⟨rfl,rfl⟩)) ?_ fun _ _ z=>z)
  ·obtain⟨rfl,rfl⟩:=a4
   exact⟨rfl,a2,a3,a1⟩
  ·unfold Zz at hB
   cases ei:ds[i]? with
   | none=>rw[ei]at hB;cases hB
   | some di =>
    cases ej:ds[j]? with
    | none=>rw[ei,ej]at hB;cases hB
    | some dj =>
     rw[ei,ej]at hB;obtain⟨a1,r1⟩:=Ln rd ei;obtain⟨a2,r2⟩:=Ln rd ej;have mi:di∈ds:=bA ei;have mj:dj∈ds:=bA ej;have fi:=hfl di mi;have fj:=hfl dj mj
     exact Ax0 r1 r2 fi.1 fj.1 (aU.mp hb di mi) (aU.mp hb dj mj) (by have:=fi.2;(first|lia|omega)) hB hC
  ·rintro⟨⟨⟩,st'⟩ s' ⟨rfl,har,hf,hps⟩
   refine Td (outs:=p.toList.map fun i=>vs.getD i .non) lo hp I3 ?_ (kat_snds rfl har) hf (Py rv _) q fun s' q=>⟨_,rfl,wpAny_pure ⟨_,rfl,q⟩⟩
   rw[ao,dh,hps];(first|lia|omega)
end
theorem Room.un80 {k:Nat}{A:q_}(r:Room k A):A.units+80<cLine:=by have:=r.un;(first|lia|omega)
section
variable {X:Cx}{p p2 pos pos2:Pos}{e:Expr}{es:v_}{t:TA}{te:TE}{Kq:v9}
def Ao8 (K:v9):l_->Hp->VK->Prop:=fun xs H Q=>∃a vs,xs=[.ref a]/\(SqL K H a vs\/SqT K H a vs)/\Vr vs vs H Q
theorem Z6 (hu:X.A.units+80<cLine):CallR X (.builtin "sorted") (Ao8 X.K):=by
 intro pins s σ H xs us Q I r h;obtain⟨a,vs,rfl,hq,q⟩:=h;obtain⟨u,rfl,ru⟩:=vals1 r
 cases (show u=Value.ref a from ru)
 exact Ao9 hu I hq q
theorem A8j (hKq:X.K=Kq)(hu:X.A.units+80<cLine)(hgl:Gl X "sorted") (hm:X.mg "sorted" = none) (ha:QA X (e::es) t) (hns:noStar (e::es)=true:=by rfl):QE X (.Call (.Name "sorted" p) (e::es) [] pos) (tCB (Ao8 Kq) t):=by
 subst hKq
 exact⟨Eo (Z6 hu) hgl hm boot_sorted ha.get (by decide) (by decide) hns⟩
def Rb (K:v9):l_->Hp->VK->Prop:=fun xs H Q=>∃i j,xs=[.int i,.int j]/\Q (.int (if j>i then j else i)) H
theorem Yo (a:X.K=Kq)(hc:X.calm=true)(hgl:Gl X "max") (hm:X.mg "max" = none) (ha:QA X (e::es) t) (hns:noStar (e::es)=true:=by rfl):QE X (.Call (.Name "max" p) (e::es) [] pos) (tCB (Rb Kq) t):=by
 exact⟨Eo (A1l hc) hgl hm Bw7 ha.get (by decide) (by rfl) hns⟩
def rIndexL:V->l_->Hp->VK->Prop:=fun x vs H Q=>∃(y:V) (d:t_) (ds:w5) (j:Nat),vs=[y]/\Tr H d y/\Tr H (.list ds) x/\Flat d/\PyData.canLayAll0 ds=true/\j<1000000 /\
 (∃e,ds[j]?=some e/\PyData.eqv e d=true)/\(∀m e,m<j->ds[m]?=some e->PyData.eqv e d=false)/\Q (.int (j:Nat)) H
theorem Az2 (hu:X.A.units+64<cLine):MtM X "list.index" rIndexL:=by
 intro l s σ H x vs v us Q I S N h;obtain⟨y,d,f,j,rfl,B,O,t,w,A,⟨ej,C,D⟩,E,q⟩:=h;obtain⟨u,rfl,G⟩:=N.one;obtain⟨as,L⟩:=B.reads I G;obtain⟨bs,M⟩:=O.reads I S
 cases M with
 | list k i p r =>
  rename_i a o b n J;obtain⟨c0,dd,K,sl⟩:=o
  dsimp only at i p
  subst i p;have c:=SeqAt.readsAll_map f _ _ w r
  have R:∀m (P:m<b.size) e,f[m]?=some e->SeqAt.readOf s.heap b[m]=e:=fun m P e he=>by
   grind
  have g:b.size=f.length:=by rw[<- c,ao,dh]
  obtain⟨z,_⟩:=bG.mp C
  refine call_meets F.slot_list_index ⟨_,k,rfl⟩ F.entry_list_index (F.args_list_index_2 _ _) (SeqAt.list_indexAt a b n _ _ _ (fun y=>PyData.eqv (SeqAt.readOf s.heap y) d) j (g▸z) (by (first|lia|omega)) ?_ ?_) ⟨k,?_,?_⟩
  ·simp_all
  ·grind
  ·exact SeqAt.items_eqAt r L w t.1 (X8 hu t.2)
  ·exact⟨.int _,H,I.tok _,⟨_,rfl⟩,q⟩
def Bp3 (K:v9)(to:TE)(t:TA):TE:=fun σ H Q=>to σ H fun x H1=>(tyV K "list" x H1/\t σ H1 fun xs H2=>rIndexL x xs H2 Q)\/(tyV K "tuple" x H1/\t σ H1 fun xs H2=>rIndexD x xs H2 Q)
variable {o:Expr}{to:TE}{apos cpos:Pos}
theorem Bn9 (hu:X.A.units+64<cLine)(ho:PE X o to)(ha:PA X (e::es) t)
 (hbase:attributeBase o "index" X.env (eval o X.env)=eval o X.env:=by rfl)
 (hfew:((backTo cpos (starEach (e::es) X.env)).all (fun x=>!x.1)&&(backToKw cpos (keywordEach [] X.env)).all (fun x=>x.1.isSome)
  && decide ((e::es).length+([]:List Keyword).length+(if ([]:List Keyword).isEmpty then 0 else 1)<30))=true:=by rfl)
 (hline:(apos.endLine==cpos.line)=true:=by rfl) (hs:starEach (e::es) X.env=(false,eval e X.env)::starEach es X.env:=by rfl) (hplain:(backTo cpos (starEach es X.env)).any (·.1)=false:=by rfl) :
 PE X (.Call (.Attribute o "index" apos) (e::es) [] cpos) (Bp3 X.K to t):=by
 intro b s p H Q I h
 refine wpAny_Call_method_late hbase hfew hline rfl (thn (ho b s p H _ I h) fun v y ⟨x,z,d,c,w⟩=>?_)
 rcases w with ⟨j,k⟩ | ⟨j,k⟩
 ·obtain⟨g,m⟩:=Ah7 d c j
  refine⟨"list", "list.index",dw,PySem.F.slot_list_index,PySem.F.type_list_index,g,m,?_⟩
  have a:=ha cpos _ _ _ _ _ d k;rw[hs]at a ⊢
  refine Calls.callWith_builtin (by grind) (Calls.evalArgs_plain ?_)
  exact thn a fun i q ⟨r,u,l,n,f⟩=>Az2 hu _ _ _ _ x _ v i Q l c n f
 ·obtain⟨g,m⟩:=Ah7 d c j
  refine⟨"tuple", "tuple.index",PySem.F.plainAttrs_tuple,PySem.F.slot_tuple_index,PySem.F.type_tuple_index,g,m,?_⟩
  have a:=ha cpos _ _ _ _ _ d k;rw[hs]at a ⊢
  refine Calls.callWith_builtin (by grind) (Calls.evalArgs_plain ?_)
  exact thn a fun i q ⟨r,u,l,n,f⟩=>Ay5 hu _ _ _ _ x _ v i Q l c n f
theorem Aq2 {Kq:v9}(a:X.K=Kq)(hu:X.A.units+64<cLine)(ho:QE X o to)(ha:QA X (e::es) t)
 (hbase:attributeBase o "index" X.env (eval o X.env)=eval o X.env:=by rfl)
 (hfew:((backTo cpos (starEach (e::es) X.env)).all (fun x=>!x.1)&&(backToKw cpos (keywordEach [] X.env)).all (fun x=>x.1.isSome)
  && decide ((e::es).length+([]:List Keyword).length+(if ([]:List Keyword).isEmpty then 0 else 1)<30))=true:=by rfl)
 (hline:(apos.endLine==cpos.line)=true:=by rfl) (hs:starEach (e::es) X.env=(false,eval e X.env)::starEach es X.env:=by rfl) (hplain:(backTo cpos (starEach es X.env)).any (·.1)=false:=by rfl) :
 QE X (.Call (.Attribute o "index" apos) (e::es) [] cpos) (Bp3 Kq to t):=by
 subst a;exact⟨Bn9 hu ho.get ha.get hbase hfew hline hs hplain⟩
end
section
variable {prog:u6}{w:World}{A:q_}{E:z_}{s:u_}{R:Result->u_->Prop}
variable {I:Addr}{fp wr:v6}{G:Array GenState->Array GenState->Prop}{n:Nat}{P:Nat->Value->Prop}{St:Nat->u_->Prop}
theorem A1v:typeLookup (.type "list_reverseiterator") "__len__" = pure none:=by rw[typeLookup_type,builtinLookup_eq_fast];trivial
theorem A5s:typeLookup (.type "list_reverseiterator") "__length_hint__" = pure (some (.builtin "list_reverseiterator.__length_hint__")):=by rw[typeLookup_type,builtinLookup_eq_fast];trivial
theorem Ap3 (W:WalksS prog w A.in1 I fp wr G n P St)(l:∀i s,St i s->s.TypeIs (.ref I) "list_reverseiterator") (S:Addr) (g:Value) (h:Nat) (hst:St 0 s) (d:S∉fp) (r:I∈fp)
 (t:s.heap.get? S=some { cls:=.type "list",data:=.seq #[] h })
 (q:∀s' a k,Moved (S::wr) G s s'->s'.heap.get? S=some { cls:=.type "list",dict:=none,data:=.seq a k,slots:=#[] }->ItemsOf P a n->R (.ok (.ret g)) s') (hn:n<=sizeLine) :
 wpAny (model prog w) A.in1 (Builtin.List.listExtendWith (.ref S) (.ref I) g)
  (fun o s'=>match o with | .done f=>R (.ok f) s' | .again k=>k.quiet=true/\codeAny (model prog w) A k R s') (fun e s'=>R (.error e) s') s:=by
 have m:S≠I:=fun e=>d (e▸r)
 have v:Builtin.List.listSameRef (.ref S) (.ref I)=false:=by simp[Builtin.List.listSameRef,m]
 unfold Builtin.List.listExtendWith
 refine wpAny_bind (wpAny_typeOf (l 0 _ hst) ?_)
 rw[if_neg (by rw[v];decide)]
 refine wpAny_bind (W.self 0 _ _ _ hst ?_)
 refine wpAny_bind (wpAny_holding ?_)
 unfold Builtin.List.listLengthHint
 refine wpAny_bind (wpAny_specialOf (l 0 _ hst) A1v ?_)
 show wpAny _ A.in1 (specialOf (Value.ref I) (Str.ofString "__length_hint__") >>= _) _ _ _
 refine wpAny_bind (wpAny_specialOf (l 0 _ hst) A5s ?_)
 generalize hid:("list_reverseiterator.__length_hint__" : String)=id0
 wp_delta
 rw[show splitId id0=some ("list_reverseiterator", "__length_hint__") from by subst hid;decide +kernel]
 subst hid
 refine wpAny_bind (wpAny_isInstance (b:=true) (l 0 _ hst) (by rw[isSubtype_type];kernel_rfl) ?_)
 refine wpAny_pure ?_
 rw[if_neg (by decide)]
 refine wpAny_pure ⟨plainId_quiet F.plain_extend_loop _,codeAny_extend_loopS W hn _ d _ n 0 _ _ _ rfl (aD _) hst t (ItemsOf.nil P) fun s' a k u p j=>?_⟩
 exact q _ _ _ u p j
theorem A8n (W:WalksS prog w A.in1 I fp wr G n P St)(v:∀i s,St i s->s.TypeIs (.ref I) "list_reverseiterator") (S:Addr) (hst:St 0 s) (k:S∉fp) (y:I∈fp)
 (j:s.heap.get? S=some { cls:=.type "list",data:=.seq #[] })
 (u:∀s' a p,Moved (S::wr) G s s'->s'.heap.get? S=some { cls:=.type "list",dict:=none,data:=.seq a p,slots:=#[] }->ItemsOf P a n->R (.ok (.ret .none)) s') (hn:n<=sizeLine) :
 wpAny (model prog w) A.in1 (Builtin.«list.__init__» ⟨[.ref S,.ref I],[]⟩)
  (fun q s'=>match q with | .done f=>R (.ok f) s' | .again p=>p.quiet=true/\codeAny (model prog w) A p R s') (fun e s'=>R (.error e) s') s:=by
 show wpAny _ A.in1 (Builtin.List.listItems (.ref S) >>= fun t=>Builtin.List.listUpdate (.ref S) (fun _=>#[]) >>= fun _=>letGo t.toList.reverse >>= fun _=>Builtin.List.listExtendWith (.ref S) (.ref I) .none) _ _ s
 refine wpAny_bind ?_
 unfold Builtin.List.listItems
 refine wpAny_bind (wpAny_seqItems j rfl (wpAny_pure ?_))
 refine wpAny_bind (m:=updateSeq S (fun _=>#[])) (wpAny_updateSeq j rfl ?_)
 have d:=Heap.get?_update_self (Obj.mapSeq (fun _=>(#[]:v7))) j rfl
 have c:∀b o,b≠S->s.heap.get? b=some o->(s.heap.update S (Obj.mapSeq (fun _=>(#[]:v7)))).get? b=some o :=
  fun b o l e=>(Heap.get?_update_other _ _ (aB l)).trans e
 refine wpAny_bind (wpAny_letGo ?_)
 refine Ap3 (hn:=hn) W v S .none _ (W.frame 0 s _ s.toks hst (ak _) fun b l o e=>c b o (fun h=>k (h▸l)) e) k y d fun s' a p x r g=>?_
 exact u _ _ _ (Moved.trans W.gtrans ((Moved.refl W.grefl).then_heap (ak _) fun b o l e=>c b o (fun h=>l (h▸a_)) e) x) r g
theorem Vp {Q:z_}(W:WalksS prog w A.in1.in1 I fp wr G n P St)(q:∀i s,St i s->s.TypeIs (.ref I) "list_reverseiterator") (hst:St 0 s) (j:∀b∈fp,b<s.heap.objs.size) (r:I∈fp)
 (hQ:∀g a p,Moved (s.heap.objs.size::wr) G { s with heap:=s.heap.push { cls:=.type "list",data:=.seq #[] } } g ->
  g.heap.get? s.heap.objs.size=some { cls:=.type "list",dict:=none,data:=.seq a p,slots:=#[] }->ItemsOf P a n->Q (.ref s.heap.objs.size) g) (hn:n<=sizeLine) :
 wpAny (model prog w) A (call (.type "list") [.ref I]) Q E s:=by
 refine callType_codes (Q₁:=fun f c=>f=.ref _/\c={ s with heap:=s.heap.push _ }) F.called_list (F.typeCall_list_1 _) F.entry_list_init (code_list_new _ ⟨rfl,rfl⟩) fun f c d=>?_
 obtain⟨rfl,rfl⟩:=d;have m:(s.heap.push { cls:=.type "list",data:=.seq #[] }).get? _=some _:=Heap.get?_push_size _ rfl
 refine⟨⟨_,m,rfl⟩,F.args_list_init_2 _ _,A8n (hn:=hn) W q _ (W.frame 0 s _ _ hst (ak _) fun b _ o e=>Heap.get?_push_of_some _ e) (fun l=>aY _ (j _ l)) r m fun g a p l t k=>?_⟩
 grind
end
section
variable {X:Cx}{p p2 pos pos2:Pos}{e:Expr}{te:TE}{Kq:v9}
theorem Ac1:∀{vs:l_}{us:w6},Vals vs us->Vals vs.reverse us.reverse
 | _,_,.nil=>.nil
 | _,_,.cons r rs=>by rw[eO,eO];exact Qc r (Ac1 rs)
def A5m (K:v9)(t:TA):TE:=fun σ H Q=>t σ H fun xs H1=>∃a vs,xs=[.ref a]/\SqL K H1 a vs/\∀l,H1 l=none->Q (.ref l) (upd H1 l (.lst vs.reverse))
theorem Aq3 {t:TA}(hc:X.calm=true)(hgl:Gl X "list") (hml:X.mg "list" = none) (r:Gl X "reversed") (v:X.mg "reversed" = none) (ha:PA X [e] t) (hns:isStar e=false:=by rfl):PE X (.Call (.Name "list" p) [.Call (.Name "reversed" p2) [e] [] pos2] [] pos) (A5m X.K t):=by
 intro j s S H Q I h
 refine wpAny_Call_Name_kw (Hr I hgl hml O5 ?_ (by decide) (by decide))
 refine cH ?_ (Et rfl) rfl
 rw[Et (env:=X.env) (es:=[]) (e:=.Call (.Name "reversed" p2) [e] [] pos2) rfl]
 show wpAny _ _ (spliced ((false,eval (.Call (.Name "reversed" p2) [e] [] pos2) X.env)::backTo pos (starEach [] X.env))) _ _ s
 refine Calls.spliced_cons ?_
 refine wpAny_Call_Name_kw (Hr I r v boot_reversed ?_ (by decide) (by decide))
 refine cH (thn (ha pos2 j s S H _ I h) fun us f ⟨xs,H1,m,N,O⟩=>?_) (Et hns) rfl
 obtain⟨a,R,rfl,V,q⟩:=O;obtain⟨u,rfl,W⟩:=vals1 N
 cases (show u=Value.ref a from W)
 obtain⟨d,G,J,E⟩:=m.list V
 refine call_reversed_list J.isList (Calls.spliced_nil ?_)
 obtain⟨Y,g,D⟩:=J.isList;have k:=Heap.lt_size g
 have y:d.toArray.size=R.length:=by rw[aZ,G.length]
 have P:=(Heap.get?_push_size f.heap (o:=revObj a ((d.toArray.size:Int)-1)) rfl)
 refine Vp ((Walks.listRev (prog:=X.prog) (w:=X.w) (A:=X.A.in1.in1) (m.ok.hd hc) f.heap.objs.size a (aM k) d.toArray).toS) (fun i s x=>x.2.1.typeIs) ⟨aD _,⟨_,P,rfl,?_⟩,⟨Y,Heap.get?_push_of_some _ g,D⟩⟩ (fun b B=>?_) (by simp) (fun L l c F M U=>?_) (by rw[y];exact E)
 ·simp[revObj]
 ·have C:(f.heap.push (revObj a ((d.toArray.size:Int)-1))).objs.size=f.heap.objs.size+1:=size_push' _ _
  show b<(f.heap.push (revObj a ((d.toArray.size:Int)-1))).objs.size
  rw[C]
  rcases au.mp B with e | B
  ·rw[e];exact dY _
  ·rw[aP.mp B];exact fJ k
 ·have C:(f.heap.push (revObj a ((d.toArray.size:Int)-1))).objs.size=f.heap.objs.size+1:=size_push' _ _
  have T:∀b u,f.heap.get? b=some u->L.heap.get? b=some u:=fun b u e=>F.heap b u (fun z=>by
   have n:=Heap.lt_size e
   rcases au.mp z with z | z
   ·have z:b=(f.heap.push (revObj a ((d.toArray.size:Int)-1))).objs.size:=z
    rw[C]at z;rw[z]at n;exact absurd n (Nat.not_lt.mpr (cL _))
   ·rw[(aP.mp z)]at n
    exact absurd n (aY _)) (Heap.get?_push_of_some _ (Heap.get?_push_of_some _ e))
  have K:f.heap.objs.size<=(f.heap.push (revObj a (d.toArray.size-1))).objs.size:=by (first|lia|omega)
  rw[Moved.eq_with F]
  refine⟨.ref _,_,m.laid  T K (show z8 _ _ _ _ _ (.lst _) from ⟨by rw[List.length_reverse];exact E,l.toList,c,?_,M⟩),rfl,q _ (m.hok.fresh K)⟩
  have:l.toList=d.reverse:=by
   obtain⟨hs,hi⟩:=U;apply List.ext_getElem?
   grind
  rw[this];exact Ac1 G
theorem An8 {t:TA}(b:X.K=Kq)(hc:X.calm=true)(hgl:Gl X "list") (hml:X.mg "list" = none) (c:Gl X "reversed") (a:X.mg "reversed" = none) (ha:QA X [e] t) (hns:isStar e=false:=by rfl):QE X (.Call (.Name "list" p) [.Call (.Name "reversed" p2) [e] [] pos2] [] pos) (A5m Kq t):=by
 subst b;exact⟨Aq3 hc hgl hml c a ha.get hns⟩
end
end L2
namespace L2
open PySem PySem.Spec PyProof.Rows
end L2
namespace L2
open PySem PySem.Spec PyProof.Rows PySem.W
theorem walk_ofX {l:OpenLaw}       {sp:Frag->Sp} 
 (hn:l.most=some n) (r:n<=sizeLine) (t:d.params.defaults=[]) (hr:Room k callerA)
 (F:∀(w:World) (g:ExcName->u9) (mg C:x_) (fa:Addr) (h:Heap),Top q (looseW q loose) g mg C h->XP mg h->mg d.name=some (.ref fa) ->
  ∃(K:Frag) (p:u5),K.In h/\TabAt K h/\(∀(s:u_) (u:Value),BindsTo s p ⟨[u],[]⟩ [(x,u)])/\∀base:Heap,K.In base->base.Ns mainGlobals mg->FnOk l.prog w K mg base CX0 k fa p [x] (sp K))
 (m:∀(K:Frag) (H:Hp) (a:Addr) (ns:List Int),ns.length<=n->SqL K H a (ns.map V.int)->sp K [.ref a] H (fun v _=>v=.bl true) fun _ _ _=>False) :
 WalkO q loose XP YP l.row.toRowW d [] (fun f vs=>PySem.call f vs):=by
 refine Att.Ab3 hn t fun w D B mg C fa o P O J a vs ns G Y Q R E j i c b L=>?_
 obtain⟨K,p,y,A,I,M⟩:=F w _ _ _ _ _ G.T G.X j
 exact A2r y G.T.g G.T.b G.T.builtins G.T.nolimit L G.T.bmain A i c (aj b r) hr M I (fun H N=>m K H a _ b N) fun H e S z=>z
end L2
namespace U
open PySem L2
structure Xn where
 n:Str
 p:Option (Str×t_)
inductive Th where
 | nm (T:String)
 | dc (ks:v4) (ds:w5)
 | dt (ks ds:w5)
 | ds (ks ds:w5)
 | td (xs ks ds:w5)
 | xc (nm:Xn)
 | tc (ss:v4)
inductive O where
 | im (d:t_)
 | ls (b:Bool) (ds:w5)
 | sc (ns:List Int)
 | ty (T:Th)
abbrev m_:=Option O
abbrev m9:=List (m_)
abbrev Ev:=m9
inductive PV where
 | o (o:O)
 | sl (i:Nat)
inductive R (α:Type) where
 | ok (a:α) (c:Ev)
 | bad
abbrev m6:=Ev->R PV
abbrev n_:=Ev->R Bool
abbrev o_:=PV->Ev->R Unit
abbrev n7:=Ev->R (List PV)
abbrev n6:=Ev->R (w5)
def R.bind {α β:Type}(r:R α)(k:α->Ev->R β):R β:=match r with
 | .ok a c=>k a c
 | .bad=>.bad
def R.sat {α:Type}(r:R α)(φ:α->Ev->Prop):Prop:=match r with
 | .ok a c=>φ a c
 | .bad=>False
theorem R.sat_bind  {r:R d}{k:d->Ev->R e}{b:e->Ev->Prop}:(r.bind k).sat b↔r.sat fun a c=>(k a c).sat b:=by cases r <;> exact Iff.rfl
theorem R.sat.mono  {r:R d}{e b:d->Ev->Prop}(h:r.sat e) (f:∀a c,e a c->b a c):r.sat b:=by
 cases r with
 | ok a c=>exact f a c h
 | bad=>exact h
theorem R.sat.bnd  {r:R d}{k:d->Ev->R e}{b:e->Ev->Prop}(h:(r.bind k).sat b):r.sat fun a c=>(k a c).sat b:=R.sat_bind.mp h
def O.bor:O->Bool
 | .ls b _=>b
 | _=>false
def O.own:O->Bool
 | .ls _ _=>true
 | _=>false
def O.dat:O->Option t_
 | .im d=>some d
 | .ls _ ds=>some (.list ds)
 | _=>none
def O.flag (b:Bool):O->O
 | .ls _ ds=>.ls b ds
 | o=>o
def nrm:PV->PV
 | .o (.ls _ ds)=>.o (.im (.list ds))
 | p=>p
def rdP (c:Ev):PV->m_
 | .o o=>some o
 | .sl i=>(c[i]?).join
def Dl (c:Ev)(p:PV):Option t_:=(rdP c p).bind O.dat
structure Wo where
 Hf:Hp
 H:Hp
 fps:Nat->v6
def Wo.S (W:Wo):Addr->Prop:=fun a=>∃i,a∈W.fps i
def B1w (Hf:Hp):Option (Str×t_)->Option Addr->Prop
 | none,d=>d=none
 | some q,d=>∃a v,d=some a/\Hf a=some (.xd [(q.1,v)])/\Tr Hf q.2 v
structure XAt (K:v9) (Hf:Hp) (nm:Xn) (C:Addr) (d:Option Addr):Prop where
 ns:PySem.W.nsIn K mainGlobals nm.n=some (some (.ref C))
 pay:B1w Hf nm.p d
theorem XAt.same {K:v9}{Hf Hf':Hp}{nm:Xn}{C:Addr}{d:Option Addr}(S:Same Hf Hf')(x:XAt K Hf nm C d):XAt K Hf' nm C d:=by
 refine⟨x.ns,?_⟩
 have q:=x.pay
 cases e:nm.p with
 | none=>rw[e]at q;exact q
 | some y=>rw[e]at q;obtain⟨a,v,h1,h2,h3⟩:=q;exact⟨a,v,h1,S _ _ h2,Tr.same S h3⟩
def RepT (K:v9)(Hf:Hp):Th->V->Prop
 | .nm T,v=>v=.ty T
 | .dc ks ds,v=>∃a xs,v=.ref a/\Hf a=some (.dK (B3r ks xs))/\TrL Hf ds xs
 | .dt ks ds,v=>∃a xs,v=.ref a/\Rd Hf a (.dT (ks.zip xs))/\TrL Hf ds xs/\ks.length=xs.length
 | .ds ks ds,v=>∃a o xs,v=.ref a/\Hf a=some (.frz o (.dT (ks.zip xs)))/\TrL Hf ds xs/\ks.length=xs.length
 | .td es ks ds,v=>∃a us b o xs,v=.ref a/\Hf a=some (.tup (us++[.ref b]))/\TrL Hf es us/\Hf b=some (.frz o (.dT (ks.zip xs)))/\TrL Hf ds xs/\ks.length=xs.length
 | .xc nm,v=>∃a C d,v=.ref a/\XAt K Hf nm C d/\Hf a=some (Jw a C d)
 | .tc ss,v=>∃p,v=.ref p/\∀H,SqT K H p (ss.map V.str)
theorem Xi  (S:Same Hf b)   (h:Rd Hf a u):Rd b a u:=h.imp (fun h=>S _ _ h) fun⟨o,h⟩=>⟨o,S _ _ h⟩
theorem RepT.same {K:v9}{Hf Hf':Hp}(S:Same Hf Hf'):∀{t:Th}{v:V},RepT K Hf t v->RepT K Hf' t v
 | .nm T,_,h=>h
 | .dc ks ds,_,⟨a,xs,e,h,t⟩=>⟨a,xs,e,S _ _ h,TrL.same S t⟩
 | .dt ks ds,_,⟨a,xs,e,h,t,l⟩=>⟨a,xs,e,Xi S h,TrL.same S t,l⟩
 | .ds ks ds,_,⟨a,o,xs,e,h,t,l⟩=>⟨a,o,xs,e,S _ _ h,TrL.same S t,l⟩
 | .td es ks ds,_,⟨a,us,b,o,xs,e,h,t,h2,t2,l⟩=>⟨a,us,b,o,xs,e,S _ _ h,TrL.same S t,S _ _ h2,TrL.same S t2,l⟩
 | .xc nm,_,⟨a,C,d,e,n,h⟩=>⟨a,C,d,e,n.same S,S _ _ h⟩
 | .tc ss,_,h=>h
def RepN (K:v9)(Hf:Hp):O->V->Prop
 | .im d,v=>Tr Hf d v
 | .sc ns,v=>∃a,v=.ref a/\SqL K Hf a (ns.map V.int)
 | .ty T,v=>RepT K Hf T v
 | .ls _ _,_=>False
def RepO (K:v9)(Hf H:Hp)(o:O)(v:V)(fp:v6):Prop:=match o with
 | .ls _ ds=>∃a vs,v=.ref a/\fp=[a]/\Hf a=none/\H a=some (.lst vs)/\TrL Hf ds vs
 | o=>fp=[]/\RepN K Hf o v
structure Stp (S:Addr->Prop) (Hf H:Hp) (S':Addr->Prop) (Hf' H':Hp):Prop where
 fz:Same Hf Hf'
 kp:∀a o,H a=some o->¬ S a->H' a=some o
 nf:∀a o,H a=some o->Mut (some o)->¬ S a->Hf a=none->Hf' a=none
 fr:∀a,S' a->S a\/H a=none
structure Rep (K:v9) (β:Nat->V) (W:Wo) (c:Ev) (σ:St):Prop where
 sub:Same W.Hf W.H
 len:c.length=σ.length
 get:∀i o,c[i]?=some (some o)->∃v,σ[i]?=some (some v)/\RepO K W.Hf W.H o v (W.fps i)/\(o.bor=true->v=β i)
 dis:∀i j a,a∈W.fps i->a∈W.fps j->i=j
 own:∀i a,a∈W.fps i->W.Hf a=none/\∃o,W.H a=some o/\Mut (some o)
def Ea (K:v9)(W:Wo)(σ:St):PV->V->v6->Prop
 | .o o,v,fp=>RepO K W.Hf W.H o v fp/\∀a∈fp,¬ W.S a
 | .sl i,v,fp=>fp=[]/\σ[i]?=some (some v)
def RepA (K:v9)(Hf:Hp)(σ:St):PV->V->Prop
 | .o o,v=>RepN K Hf o v
 | .sl i,v=>σ[i]?=some (some v)
def zF (K:v9)(Hf:Hp)(σ:St):List PV->l_->Prop
 | [],vs=>vs=[]
 | p::ps,vs=>∃v r,vs=v::r/\RepA K Hf σ p v/\zF K Hf σ ps r
abbrev orS (S:Addr->Prop)(fp:v6):Addr->Prop:=fun a=>S a\/a∈fp
section
variable {K:v9}{β:Nat->V}{W W':Wo}{c c':Ev}{σ:St}{Hf Hf' Hf2 H H' H2:Hp}{o:O}{v:V}{fp:v6}{S S' S2:Addr->Prop}{p:PV}{a:Addr}
theorem Stp.refl:Stp S Hf H S Hf H:=⟨fun _ _ h=>h,fun _ _ h _=>h,fun _ _ _ _ _ h=>h,fun _ h=>.inl h⟩
theorem Stp.trans (x:Stp S Hf H S' Hf' H')(y:Stp S' Hf' H' S2 Hf2 H2):Stp S Hf H S2 Hf2 H2:=by
 have b:∀a o,H a=some o->¬ S a->¬ S' a:=fun a o h n z=>by
  rcases x.fr a z with q | q
  ·trivial
  simp_all
 refine⟨x.fz.trans y.fz,fun a o h n=>y.kp a o (x.kp a o h n) (b a o h n),fun a o h c n q=>y.nf a o (x.kp a o h n) c (b a o h n) (x.nf a o h c n q),fun a h=>?_⟩
 rcases y.fr a h with q | q
 ·exact x.fr a q
 ·cases e:H a with
  | none=>simp_all
  | some o =>
   by_cases n:S a
   ·grind
   ·rw[x.kp a o e n]at q;grind
theorem Stp.less (x:Stp S Hf H S' Hf' H')(h:∀a,S2 a->S' a):Stp S Hf H S2 Hf' H':=⟨x.fz,x.kp,x.nf,fun a q=>x.fr a (h a q)⟩
theorem Stp.more {F:Addr->Prop}(x:Stp S Hf H S' Hf' H'):Stp (fun a=>S a\/F a) Hf H (fun a=>S' a\/F a) Hf' H' :=
 ⟨x.fz,fun a o h n=>x.kp a o h fun z=>n (.inl z),fun a o h b n q=>x.nf a o h b (fun z=>n (.inl z)) q,fun a q=>by
  rcases q with q | q
  ·rcases x.fr a q with z | z
   ·simp_all
   grind
  simp_all⟩
theorem Stp.up (x:Stp S Hf H S' Hf' H')(h:∀a,S a->S2 a):Stp S2 Hf H S' Hf' H' :=
 ⟨x.fz,fun a o e n=>x.kp a o e fun z=>n (h a z),fun a o e b n q=>x.nf a o e b (fun z=>n (h a z)) q,fun a q=>(x.fr a q).imp (h a) id⟩
theorem RepN.same (S:Same Hf Hf'):∀{o:O}{v:V},RepN K Hf o v->RepN K Hf' o v
 | .im d,_,h=>Tr.same S h
 | .sc ns,_,⟨a,e,h⟩=>⟨a,e,Same.seq S h⟩
 | .ty T,_,h=>RepT.same S h
 | .ls _ _,_,h=>h
theorem RepA.same (S:Same Hf Hf'):∀{p:PV}{v:V},RepA K Hf σ p v->RepA K Hf' σ p v
 | .o _,_,h=>RepN.same S h
 | .sl _,_,h=>h
theorem zF.same (S:Same Hf Hf'):∀{ps:List PV}{vs:l_},zF K Hf σ ps vs->zF K Hf' σ ps vs
 | [],_,h=>h
 | p::ps,_,⟨v,r,e,h,t⟩=>⟨v,r,e,RepA.same S h,zF.same S t⟩
theorem RepO.mono (h:RepO K Hf H o v fp)(S:Same Hf Hf')(h1:∀a∈fp,Hf' a=none/\H' a=H a):RepO K Hf' H' o v fp:=by
 cases o with
 | ls b ds =>
  obtain⟨a,f,rfl,rfl,q,e,t⟩:=h;obtain⟨c,g⟩:=h1 a (.head _);exact⟨a,f,rfl,rfl,c,g.trans e,TrL.same S t⟩
 | im d=>exact⟨h.1,RepN.same S h.2⟩
 | sc ns=>exact⟨h.1,RepN.same S h.2⟩
 | ty T=>exact⟨h.1,RepN.same S h.2⟩
theorem Rep.frame (R:Rep K β W c σ)(S:Same W.Hf Hf')(sub:Same Hf' H')(h:∀a,W.S a->Hf' a=none/\H' a=W.H a):Rep K β ⟨Hf',H',W.fps⟩ c σ :=
 ⟨sub,R.len,fun i o e=>by
  obtain⟨v,f,r,b⟩:=R.get i o e
  exact⟨v,f,r.mono S fun a d=>h a ⟨i,d⟩,b⟩,R.dis,fun i a d=>by
  obtain⟨_,o,q,j⟩:=R.own i a d;obtain⟨k,g⟩:=h a ⟨i,d⟩
  grind⟩
theorem Rep.notS (R:Rep K β W c σ)(h:W.H a=none):¬ W.S a:=fun⟨i,q⟩=>by
 obtain⟨_,o,e,_⟩:=R.own i a q
 grind
theorem Stp.rep (R:Rep K β W c σ)(x:Stp (fun _=>False) W.Hf W.H S' Hf' H')(sub:Same Hf' H'):Rep K β ⟨Hf',H',W.fps⟩ c σ :=
 R.frame x.fz sub fun a d=>by
  obtain⟨i,f⟩:=d;obtain⟨z,o,e,b⟩:=R.own i a f
  exact⟨x.nf a o e b (fun z=>z) z,(x.kp a o e fun z=>z).trans e.symm⟩
theorem Ce  {p:Addr}{o:HO}(h:H p=none):Same H (upd H p o):=fun b u e=>by
 rw[Am];exact e
 grind
theorem Kc {o:HO}(s:Same Hf H):Same (upd Hf a o) (upd H a o):=fun b u e=>by
 unfold upd at e ⊢
 split
 ·grind
 ·rename_i z;rw[if_neg z]at e;exact s b u e
theorem Stp.newF {o:HO}(s:Same Hf H)(h:H a=none):Stp (fun _=>False) Hf H (fun _=>False) (upd Hf a o) (upd H a o) :=
 ⟨Ce (Same.free s h),fun b u e _=>Ce h b u e,fun b u e _ _ q=>by rw[Am (Bk e h)];grind,fun _ z=>z.elim⟩
theorem Stp.newL {o:HO}(s:Same Hf H)(h:H a=none):Stp (fun _=>False) Hf H (fun b=>b∈[a]) Hf (upd H a o) :=
 ⟨Same.refl _,fun b u e _=>Ce h b u e,fun b u e _ _ q=>q,fun b z=>by
  grind⟩
theorem Xk {o:HO}(s:Same Hf H)(h:H a=none):Same Hf (upd H a o):=s.trans (Ce h)
def ME (K:v9)(T:TE)(f:m6):Prop:=∀(β:Nat->V) (W:Wo) (c:Ev) (σ:St) (Q:VK),Rep K β W c σ ->
 (f c).sat (fun p c'=>∀v W' fp,Stp W.S W.Hf W.H (orS W'.S fp) W'.Hf W'.H->Rep K β W' c' σ->Ea K W' σ p v fp->Q v W'.H)->T σ W.H Q
def MV (K:v9)(T:TE)(f:m6):Prop:=∀(β:Nat->V) (W:Wo) (c:Ev) (σ:St) (Q:VK),Rep K β W c σ ->
 (f c).sat (fun p c'=>∀v W',Stp W.S W.Hf W.H W'.S W'.Hf W'.H->Rep K β W' c' σ->RepA K W'.Hf σ (nrm p) v->Q v W'.H)->T σ W.H Q
def MA (K:v9)(T:TA)(f:n7):Prop:=∀(β:Nat->V) (W:Wo) (c:Ev) (σ:St) (Q:l_->Hp->Prop),Rep K β W c σ ->
 (f c).sat (fun ps c'=>∀vs W',Stp W.S W.Hf W.H W'.S W'.Hf W'.H->Rep K β W' c' σ->zF K W'.Hf σ ps vs->Q vs W'.H)->T σ W.H Q
def MT (K:v9)(T:TT)(f:n_):Prop:=∀(β:Nat->V) (W:Wo) (c:Ev) (σ:St) (Q:Bool->Hp->Prop),Rep K β W c σ ->
 (f c).sat (fun b c'=>∀W',Stp W.S W.Hf W.H W'.S W'.Hf W'.H->Rep K β W' c' σ->Q b W'.H)->T σ W.H Q
theorem Zq  (R:Rep K β W c σ) (hf:W.Hf a=none) (h:W.H a=some (.lst vs)) (hn:¬ W.S a):Rep K β ⟨upd W.Hf a (.lst vs),W.H,W.fps⟩ c σ :=
 R.frame (Ce hf) (fun b u e=>by
  unfold upd at e
  split at e
  ·grind
  ·exact R.sub b u e) fun b f=>by
   obtain⟨i,g⟩:=f
   have d:b≠a:=fun z=>hn ⟨i,by simp_all⟩
   exact⟨by rw[Am d];exact(R.own i b g).1,rfl⟩
theorem Bm4  {Q:VK}  (k:∀v c,Stp W.S W.Hf W.H c.S c.Hf c.H->Rep K β c c' σ->RepA K c.Hf σ (nrm p) v->Q v c.H) (v:V) (c:Wo) (fp:v6) (st:Stp W.S W.Hf W.H (orS c.S fp) c.Hf c.H) (g:Rep K β c c' σ) (f:Ea K c σ p v fp):Q v c.H:=by
 cases p with
 | sl i =>
  obtain⟨rfl,e⟩:=f
  exact k v _ (st.less fun a z=>.inl z) g e
 | o o =>
  cases o with
  | im d =>
   obtain⟨⟨rfl,e⟩,_⟩:=f
   exact k v _ (st.less fun a z=>.inl z) g e
  | sc d =>
   obtain⟨⟨rfl,e⟩,_⟩:=f
   exact k v _ (st.less fun a z=>.inl z) g e
  | ty d =>
   obtain⟨⟨rfl,e⟩,_⟩:=f
   exact k v _ (st.less fun a z=>.inl z) g e
  | ls b ds =>
   obtain⟨⟨a,l,rfl,rfl,h,r,t⟩,m⟩:=f
   refine k _ ⟨upd _ a _,c.H,c.fps⟩ ⟨st.fz.trans (Ce h),st.kp,fun b o e s n q=>?_,fun b z=>st.fr b (.inl z)⟩ (Zq g h r (m a (.head _))) ?_
   ·have j:b≠a:=fun z=>by
     rcases st.fr a (.inr (.head _)) with y | y
     ·grind
     simp_all
    show upd _ a _ b=none
    rw[Am j];exact st.nf b o e s n q
   ·exact⟨a,l,rfl,Bg,TrL.same (Ce h) t⟩
theorem ME.toV   (h:ME K T f):MV K T f:=fun e W c j Q R s=>h _ W c _ Q R (s.mono fun p l k v g i a d b=>Bm4 k v _ _ a d b)
end
def RdV (Hf H:Hp):t_->V->Prop
 | .list ds,v=>∃a vs,v=.ref a/\H a=some (.lst vs)/\TrL Hf ds vs
 | d,v=>Tr Hf d v
section
variable {K:v9}{β:Nat->V}{W W':Wo}{c c':Ev}{σ:St}{Hf Hf' Hf2 H H' H2:Hp}{o:O}{v:V}{fp:v6}{S S' S2:Addr->Prop}{p:PV}{a:Addr}{d:t_}
theorem RdV.of (s:Same Hf H)(h:Tr Hf d v):RdV Hf H d v:=by
 cases d with
 | list f=>obtain⟨a,c,e,q,t⟩:=h;exact⟨a,c,e,s _ _ q,t⟩
 | none=>exact h
 | bool b=>exact h
 | int i=>exact h
 | str x=>exact h
 | tuple f=>exact h
 | dict k=>exact h
theorem RdV.tr (s:Same Hf H)(h:RdV Hf H d v):Tr H d v:=by
 cases d with
 | list f=>obtain⟨a,c,e,q,t⟩:=h;exact⟨a,c,e,q,TrL.same s t⟩
 | none=>exact h
 | bool b=>exact h
 | int i=>exact h
 | str x=>exact h
 | tuple f=>exact Tr.same s h
 | dict k=>trivial
theorem Eh (R:Rep K β W c σ)(h:RepA K W.Hf σ p v)(e:Dl c p=some d):RdV W.Hf W.H d v:=by
 cases p with
 | o o =>
  cases o with
  | im m=>cases e;exact .of R.sub h
  | ls b n=>trivial
  | sc k=>trivial
  | ty T=>trivial
 | sl i =>
  have l:c[i]?.join.bind _=some d:=e;obtain⟨o,g,f⟩:=bh.mp l
  have g:c[i]?=some (some o):=by
   grind
  obtain⟨u,s,r,_⟩:=R.get i o g
  cases s.symm.trans h
  cases o with
  | im m=>cases f;exact .of R.sub r.2
  | ls b n =>
   cases f
   obtain⟨a,j,e,_,_,q,t⟩:=r;exact⟨a,j,e,q,t⟩
  | sc k=>trivial
  | ty T=>trivial
def A4v (Hf H:Hp):w5->l_->Prop
 | [],vs=>vs=[]
 | d::ds,vs=>∃v r,vs=v::r/\RdV Hf H d v/\A4v Hf H ds r
def Vj (c:Ev):List PV->Option (w5)
 | []=>some []
 | p::ps=>(Dl c p).bind fun d=>(Vj c ps).map (d::·)
theorem A2y (R:Rep K β W c σ):∀{ps:List PV}{vs:l_}{ds:w5},zF K W.Hf σ ps vs->Vj c ps=some ds->A4v W.Hf W.H ds vs
 | [],vs,ds,h,e=>by cases (show some []=some ds from e);exact h
 | p::ps,_,ds,⟨v,r,rfl,h,t⟩,e=>by
  obtain⟨d,e1,e2⟩:=bh.mp (show ((Dl c p).bind fun d=>(Vj c ps).map (d::·))=some ds from e)
  obtain⟨ds',e3,rfl⟩:=aH.mp e2;exact⟨v,r,rfl,Eh R h e1,A2y R t e3⟩
abbrev New (K:v9)(Hf H:Hp)(o:O)(Q:VK):Prop:=∀v Hf' H' fp,Stp (fun _=>False) Hf H (fun a=>a∈fp) Hf' H'->Same Hf' H'->RepO K Hf' H' o v fp->Q v H'
def OpS (K:v9)(r:R2)(op:t_->t_->m_):Prop:=∀(Hf H:Hp) (x y:V) (dx dy:t_) (o:O) (Q:VK),Same Hf H->RdV Hf H dx x->RdV Hf H dy y->op dx dy=some o->New K Hf H o Q->r x y H Q
def B1h (K:v9)(r:l_->Hp->VK->Prop)(op:w5->m_):Prop:=∀(Hf H:Hp) (xs:l_) (ds:w5) (o:O) (Q:VK),Same Hf H->A4v Hf H ds xs->op ds=some o->New K Hf H o Q->r xs H Q
theorem New.same  (h:New K Hf H (.im d) Q) (s:Same Hf H)  (t:Tr Hf d v):Q v H:=h v _ H [] (Stp.refl.less fun a z=>nomatch z) s ⟨rfl,t⟩
theorem New.tup    (h:New K Hf H (.im (.tuple ds)) Q) (s:Same Hf H) (t:TrL Hf ds vs) {p:Addr}(hp:H p=none):Q (.ref p) (upd H p (.tup vs)) :=
 h _ _ _ [] ((Stp.newF s hp).less fun a z=>nomatch z) (Kc s) ⟨rfl,p,vs,rfl,Bg,TrL.same (Ce (Same.free s hp)) t⟩
theorem New.lst    (h:New K Hf H (.ls false ds) Q) (s:Same Hf H) (t:TrL Hf ds vs) {p:Addr}(hp:H p=none):Q (.ref p) (upd H p (.lst vs)) :=
 h _ _ _ _ (Stp.newL s hp) (Xk s hp) ⟨p,vs,rfl,rfl,Same.free s hp,Bg,t⟩
theorem New.of  (R:Rep K β W c σ) (k:∀v W' d,Stp W.S W.Hf W.H (orS W'.S d) W'.Hf W'.H->Rep K β W' c σ->Ea K W' σ (.o o) v d->Q v W'.H):New K W.Hf W.H o Q:=by
 intro v h j d b f r
 refine k v _ _ ⟨b.fz,fun a o e _=>b.kp a o e fun z=>z,fun a o e i _ q=>b.nf a o e i (fun z=>z) q,fun a z=>?_⟩ (b.rep R f) ⟨r,fun a g z=>?_⟩
 ·rcases z with z | z
  ·exact .inl z
  ·rcases b.fr a z with y | y
   ·trivial
   grind
 ·rcases b.fr a g with y | y
  ·(first|lia|omega)
  ·exact R.notS y z
def cOp (op:t_->t_->m_)(fa fb:m6):m6:=fun c=>(fa c).bind fun p c=>(fb c).bind fun q c =>
 match Dl c (nrm p),Dl c (nrm q) with
 | some x,some y=>match op x y with
  | some o=>.ok (.o o) c
  | none=>.bad
 | _,_=>.bad
theorem Ai     (ha:ME K g fa) (hb:ME K f fb) (hr:OpS K r op):ME K (tOp r g f) (cOp op fa fb):=by
 intro β W c σ Q R s
 refine ha.toV _ W c _ _ R (s.bnd.mono fun p c1 l v1 W1 d i j=>?_)
 refine hb.toV _ _ _ _ _ i (l.bnd.mono fun q e a v2 W2 b R2 k=>?_)
 cases ex:Dl e (nrm p) with
 | none=>simp only[ex]at a;trivial
 | some x =>
  cases ey:Dl e (nrm q) with
  | none=>simp only[ex,ey]at a;trivial
  | some y =>
   simp only[ex,ey]at a
   cases eo:op x y with
   | none=>simp only[eo]at a;trivial
   | some o =>
    simp only[eo]at a
    exact hr _ _ _ _ x y o Q R2.sub (Eh R2 (RepA.same b.fz j) ex) (Eh R2 k ey) eo (New.of R2 fun v W' fp m n h=>a v _ _ (d.trans (b.trans m)) n h)
def Aq:n7:=fun c=>.ok [] c
def Ac (f:m6)(fr:n7):n7:=fun c=>(f c).bind fun p c=>(fr c).bind fun ps c=>.ok (nrm p::ps) c
def cK (ds:w5):n7:=fun c=>.ok (ds.map fun d=>.o (.im d)) c
theorem Ak:MA K Fl Aq:=fun b W c a Q R s=>s _ W Stp.refl R rfl
theorem Ab {d:TE}    (ha:ME K d fa) (hr:MA K e f):MA K (Ca d e) (Ac fa f):=by
 intro t W c v Q R s
 refine ha.toV _ W c _ _ R (s.bnd.mono fun p o i j r b h g=>?_)
 refine hr _ _ _ _ _ h (i.bnd.mono fun w q m l u a n k=>?_)
 exact m _ _ (b.trans a) n ⟨j,l,rfl,RepA.same a.fz g,k⟩
def Ad (i:Nat):m6:=fun c=>match c[i]? with
 | some (some (.ls _ _))=>.ok (.sl i) c
 | some (some o)=>.ok (.o o) c
 | _=>.bad
theorem Rep.here (R:Rep K β W c σ)  (h:RepN K W.Hf o v) (n:o.own=false) {Q:VK}(s:∀v W' fp,Stp W.S W.Hf W.H (orS W'.S fp) W'.Hf W'.H->Rep K β W' c σ->Ea K W' σ (.o o) v fp->Q v W'.H):Q v W.H :=
 s
  v W [] (Stp.refl.less fun a z=>by
  grind) R ⟨by
   cases o with
   | ls b e=>trivial
   | im d=>trivial
   | sc d=>trivial
   | ty d=>trivial,fun a z=>nomatch z⟩
theorem Aa  : ME K (Rj i) (Ad i):=by
 intro j W c h Q R s;unfold Ad at s
 cases e:c[i]? with
 | none=>simp only[e]at s;trivial
 | some x =>
  cases x with
  | none=>simp only[e]at s;trivial
  | some o =>
   obtain⟨v,f,r,_⟩:=R.get i o e
   refine⟨v,f,?_⟩
   simp only[e]at s
   cases o with
   | ls b g=>
    exact s v W _ (Stp.refl.less fun a z=>by
     rcases z with z | z
     ·(first|lia|omega)
     simp_all) R ⟨rfl,f⟩
   | im d=>exact R.here r.2 rfl s
   | sc d=>exact R.here r.2 rfl s
   | ty d=>exact R.here r.2 rfl s
def cC (d:t_):m6:=fun c=>.ok (.o (.im d)) c
def vD:V->Option t_
 | .non=>some .none
 | .bl b=>some (.bool b)
 | .int i=>some (.int i)
 | .str x=>some (.str x)
 | _=>none
theorem Bl6:∀{v:V}{d:t_},vD v=some d->Tr H d v
 | .non,_,e=>by cases e;rfl
 | .bl b,_,e=>by cases e;rfl
 | .int i,_,e=>by cases e;rfl
 | .str x,_,e=>by cases e;rfl
 | .byt _,_,e=>nomatch e
 | .flt _,_,e=>nomatch e
 | .ref _,_,e=>nomatch e
 | .ty _,_,e=>nomatch e
theorem Al   (h:vD v=some d):ME K (tC v) (cC d):=fun b W c a Q R s=>R.here (o:=.im d) (Bl6 h) rfl s
def frz (p:PV)(c:Ev):R t_:=match p with
 | .o (.im d)=>.ok d c
 | .o _=>.bad
 | .sl i=>match c[i]? with
  | some (some (.im d))=>.ok d c
  | some (some (.ls false ds))=>.ok (.list ds) (c.set i (some (.im (.list ds))))
  | _=>.bad
def clr (fps:Nat->v6)(i:Nat):Nat->v6:=fun j=>if j=i then [] else fps j
theorem Gg   (h:a∈clr b i j):a∈b j/\j≠i:=by
 unfold clr at h
 grind
theorem Rep.setN (R:Rep K β W c σ)   (h:RepN K W.Hf o v) (n:o.own=false):Rep K β ⟨W.Hf,W.H,clr W.fps i⟩ (c.set i (some o)) (σ.set i (some v)):=by
 refine⟨R.sub,by rw[b_,b_];exact R.len,fun j s e=>?_,fun j k a m g=>R.dis j k a (Gg m).1 (Gg g).1,fun j a h=>R.own j a (Gg h).1⟩
 by_cases z:j=i
 ·subst z
  by_cases l:j<c.length
  ·rw[cu l]at e
   cases e
   refine⟨v,by rw[cu (by rw[<- R.len];exact l)],?_,fun b=>?_⟩
   ·show RepO K W.Hf W.H o v (clr _ j j)
    unfold clr;rw[if_pos rfl]
    cases o with
    | ls b f=>exact nomatch n
    | im d=>exact⟨rfl,h⟩
    | sc d=>trivial
    | ty d=>exact⟨rfl,h⟩
   ·cases o with
    | ls b f=>exact nomatch n
    | im d=>exact nomatch b
    | sc d=>exact nomatch b
    | ty d=>exact nomatch b
  grind
 ·rw[bY fun y=>z y.symm]at e
  obtain⟨p,q,r,b⟩:=R.get j _ e
  refine⟨p,by grind,?_,b⟩
  unfold clr
  simp_all
theorem Rep.setO (R:Rep K β W c σ)   (h:RepO K W.Hf W.H o v fp) (hn:∀a∈fp,¬ W.S a) (hb:o.bor=false):Rep K β ⟨W.Hf,W.H,fun j=>if j=i then fp else W.fps j⟩ (c.set i (some o)) (σ.set i (some v)):=by
 refine⟨R.sub,by rw[b_,b_];exact R.len,fun j o' e=>?_,fun j k a f g=>?_,fun j a f=>?_⟩
 ·by_cases z:j=i
  ·subst z
   by_cases l:j<c.length
   ·rw[cu l]at e
    cases e
    refine⟨v,by rw[cu (by rw[<- R.len];exact l)],?_,fun b=>by rw[hb]at b;cases b⟩
    simp_all
   simp_all
  ·rw[bY fun y=>z y.symm]at e
   obtain⟨v',e1,r,b⟩:=R.get j _ e
   grind
 ·have f:a∈if j=i then fp else W.fps j:=f
  have g:a∈if k=i then fp else W.fps k:=g
  split at f
  ·split at g
   ·(first|lia|omega)
   ·exact absurd ⟨k,g⟩ (hn a f)
  ·split at g
   ·exact absurd ⟨j,f⟩ (hn a g)
   ·exact R.dis j k a f g
 ·have f:a∈if j=i then fp else W.fps j:=f
  split at f
  ·cases o with
   | ls b ds =>
    obtain⟨a',vs,_,rfl,n,m,_⟩:=h
    cases aP.mp f
    exact⟨n,_,m,trivial⟩
   | im d=>rw[h.1]at f;cases f
   | sc d=>rw[h.1]at f;cases f
   | ty d=>rw[h.1]at f;cases f
  ·exact R.own j a f
theorem set_same {a:Type}{l:List a}  {x:a}(h:l[i]?=some x):l.set i x=l:=by
 apply List.ext_getElem?
 grind
theorem Rep.drop (R:Rep K β W c σ)(i:Nat):Rep K β ⟨W.Hf,W.H,clr W.fps i⟩ (c.set i none) σ:=by
 refine⟨R.sub,by rw[b_];exact R.len,fun j m e=>?_,fun j k a g f=>R.dis j k a (Gg g).1 (Gg f).1,fun j a h=>R.own j a (Gg h).1⟩
 by_cases z:j=i
 ·grind
 ·rw[bY fun y=>z y.symm]at e
  obtain⟨l,d,r,b⟩:=R.get j _ e
  refine⟨l,d,?_,b⟩
  unfold clr
  simp_all
theorem Jd (R:Rep K β W c σ)(h:RepA K W.Hf σ p v)  (s:(frz p c).sat k) :
 ∃d c' W',frz p c=.ok d c'/\k d c'/\W'.H=W.H/\Stp W.S W.Hf W.H W'.S W'.Hf W'.H/\Rep K β W' c' σ/\Tr W'.Hf d v:=by
 cases p with
 | o o =>
  cases o with
  | im d=>exact⟨d,c,W,rfl,s,rfl,Stp.refl,R,h⟩
  | ls b w=>exact s.elim
  | sc d=>exact s.elim
  | ty d=>exact s.elim
 | sl i =>
  unfold frz at s ⊢
  cases e:c[i]? with
  | none=>simp only[e]at s;exact s.elim
  | some x =>
   cases x with
   | none=>simp only[e]at s;exact s.elim
   | some o =>
    obtain⟨v',u,r,_⟩:=R.get i o e
    cases (show some _=some _ from u.symm.trans h)
    cases o with
    | im d=>simp only[e]at s;exact⟨d,c,W,by simp only[e],s,rfl,Stp.refl,R,r.2⟩
    | sc d=>simp only[e]at s;exact s.elim
    | ty d=>simp only[e]at s;exact s.elim
    | ls b w =>
     cases b with
     | true=>simp only[e]at s;exact s.elim
     | false =>
      simp only[e]at s;obtain⟨a,m,rfl,l,f,A,t⟩:=r
      refine⟨.list _,c.set i _,⟨upd _ a _,W.H,clr W.fps i⟩,by simp only[e],s,rfl,⟨Ce f,fun b o e _=>e,fun b o e mu n q=>?_,fun b z=>?_⟩,?_,⟨a,m,rfl,Bg,TrL.same (Ce f) t⟩⟩
      ·have C:b≠a:=fun z=>n ⟨i,by rw[z,l];exact .head _⟩
       show upd _ a _ b=none
       rw[Am C];exact q
      ·obtain⟨j,g⟩:=z
       exact .inl ⟨j,(Gg g).1⟩
      ·have B:¬ Wo.S ⟨W.Hf,W.H,clr W.fps i⟩ a:=fun⟨j,g⟩=>by
        obtain⟨E,D⟩:=Gg g
        exact D (R.dis j i a E (by rw[l];exact .head _))
       have y:=(Zq (R.drop i) f A B).setN (i:=i) (o:=.im (.list _))  ⟨a,m,rfl,Bg,TrL.same (Ce f) t⟩ rfl;rw[set_same h]at y
       have z:clr (clr W.fps i) i=clr W.fps i:=by funext j;unfold clr;split <;> rfl
       simp_all
def vDs:l_->Option (w5)
 | []=>some []
 | v::vs=>(vD v).bind fun d=>(vDs vs).map (d::·)
theorem Av9:∀{vs:l_}{ds:w5},vDs vs=some ds->zF K Hf σ (ds.map fun d=>.o (.im d)) vs
 | [],_,e=>by cases (show some []=some _ from e);exact rfl
 | v::vs,ds,e=>by
  obtain⟨d,e1,e2⟩:=bh.mp (show ((vD v).bind fun d=>(vDs vs).map (d::·))=some ds from e)
  obtain⟨ds',e3,rfl⟩:=aH.mp e2;exact⟨v,vs,rfl,Bl6 e1,Av9 e3⟩
theorem Bu9   (h:vDs vs=some ds):MA K (tK vs) (cK ds):=fun b W c a Q R s=>s _ W Stp.refl R (Av9 h)
def frzs:List PV->Ev->R (w5)
 | [],c=>.ok [] c
 | p::ps,c=>(frz p c).bind fun d c=>(frzs ps c).bind fun ds c=>.ok (d::ds) c
theorem O4:∀{ps:List PV}{vs:l_}{W:Wo}{c:Ev}{φ:w5->Ev->Prop},Rep K β W c σ->zF K W.Hf σ ps vs->(frzs ps c).sat φ ->
 ∃ds c' W',φ ds c'/\W'.H=W.H/\Stp W.S W.Hf W.H W'.S W'.Hf W'.H/\Rep K β W' c' σ/\TrL W'.Hf ds vs
 | [],vs,W,c,φ,R,h,s=>⟨[],c,W,s,rfl,Stp.refl,R,h⟩
 | p::ps,_,W,c,φ,R,⟨v,r,rfl,h,t⟩,s=>by
  obtain⟨d,c1,W1,_,s1,e1,st1,R1,t1⟩:=Jd R h s.bnd;obtain⟨ds,c2,W2,s2,e2,st2,R2,t2⟩:=O4 R1 (zF.same st1.fz t) s1.bnd;exact⟨d::ds,c2,W2,s2,e2.trans e1,st1.trans st2,R2,v,r,rfl,Tr.same st2.fz t1,t2⟩
def Fq (f:n7):m6:=fun c=>(f c).bind fun ps c=>(frzs ps c).bind fun ds c=>if ds.length<=1000 then .ok (.o (.im (.tuple ds))) c else .bad
def Hv (f:n7):m6:=fun c=>(f c).bind fun ps c=>(frzs ps c).bind fun ds c=>if ds.length<=1000 then .ok (.o (.ls false ds)) c else .bad
theorem Aw5  (h:n<=1000):n<=sizeLine:=aj h (by decide)
theorem Dj   (h:MA K t f):ME K (A7d t) (Fq f):=by
 intro w W c z Q R s
 refine h _ W c _ _ R (s.bnd.mono fun x y k A F b o m=>?_)
 obtain⟨r,B,E,a,j,d,e,i⟩:=O4 o m k.bnd
 by_cases l:r.length<=1000
 ·rw[if_pos l]at a
  refine⟨by rw[<- i.length];exact Aw5 l,fun p g=>?_⟩
  rw[<- j]at g ⊢
  exact New.tup (New.of e fun v C D q u n=>a v _ _ (b.trans (d.trans q)) u n) e.sub i g
 ·rw[if_neg l]at a;trivial
theorem El   (h:MA K t f):ME K (Bo2 t) (Hv f):=by
 intro w W c z Q R s
 refine h _ W c _ _ R (s.bnd.mono fun x y k A F b o m=>?_)
 obtain⟨r,B,E,a,j,d,e,i⟩:=O4 o m k.bnd
 by_cases l:r.length<=1000
 ·rw[if_pos l]at a
  refine⟨by rw[<- i.length];exact Aw5 l,fun p g=>?_⟩
  rw[<- j]at g ⊢
  exact New.lst (New.of e fun v C D q u n=>a v _ _ (b.trans (d.trans q)) u n) e.sub i g
 ·rw[if_neg l]at a;trivial
end
def Gn (cI:Ev):o4->Ev->Option Ev
 | [],c=>some c
 | (k,i)::m,c=>match c[i]? with
  | some (some (.ls b _))=>match cI[k]? with
   | some (some (.ls true ds))=>Gn cI m (c.set i (some (.ls b ds)))
   | _=>none
  | _=>Gn cI m c
def inn (m:o4)(i:Nat):Option Nat:=(m.find? fun p=>p.2==i).map (·.1)
def Am0 (m:o4)(k:Nat):Option Nat:=(m.find? fun p=>p.1==k).map (·.2)
theorem Ho   : inn ((k,j)::m) i=if j=i then some k else inn m i:=by
 unfold inn
 grind
theorem Rx   (h:inn m i=some k):(k,i)∈m:=by
 induction m with
 | nil=>cases h
 | cons p m a =>
  rw[Ho]at h
  grind
theorem Rz   (b:(m.map (·.2)).Nodup) (h:(k,i)∈m):inn m i=some k:=by
 induction m with
 | nil=>grind
 | cons p m a =>
  rw[Ho]
  grind
theorem Aq6 {m:o4}  (b:(m.map (·.1)).Nodup) (h:(k,i)∈m) (h':(k,j)∈m):i=j:=by
 induction m with
 | nil=>grind
 | cons p m a =>
  grind
theorem Pq {cI:Ev}:∀{m:o4}{c cO:Ev},(m.map (·.2)).Nodup->Gn cI m c=some cO->cO.length=c.length/\∀i,
 (∃b ds0 k ds,c[i]?=some (some (.ls b ds0))/\inn m i=some k/\cI[k]?=some (some (.ls true ds))/\cO[i]?=some (some (.ls b ds))) \/
 (cO[i]?=c[i]?/\∀b ds,c[i]?=some (some (.ls b ds))->inn m i=none)
 | [],c,cO,nd,e=>by cases (show some c=some cO from e);exact⟨rfl,fun i=>.inr ⟨rfl,fun _ _ _=>rfl⟩⟩
 | (k,j)::m,c,cO,nd,e=>by
  rw[aQ,bJ]at nd
  have nj:inn m j=none:=by
   cases q:inn m j with
   | none=>rfl
   | some k'=>exact absurd (aJ.mpr ⟨(k',j),Rx q,rfl⟩) nd.1
  unfold Gn at e
  have other:Gn cI m c=some cO->(∀b ds,c[j]?≠some (some (.ls b ds)))->cO.length=c.length/\∀i,
   (∃b ds0 k' ds,c[i]?=some (some (.ls b ds0))/\inn ((k,j)::m) i=some k'/\cI[k']?=some (some (.ls true ds))/\cO[i]?=some (some (.ls b ds))) \/
   (cO[i]?=c[i]?/\∀b ds,c[i]?=some (some (.ls b ds))->inn ((k,j)::m) i=none):=fun e hn=>by
   obtain⟨hl,hg⟩:=Pq nd.2 e
   refine⟨hl,fun i=>?_⟩
   rcases hg i with ⟨b,ds0,k',ds,q1,q2,q3,q4⟩ | ⟨q1,q2⟩
   ·refine .inl ⟨b,ds0,k',ds,q1,?_,q3,q4⟩
    rw[Ho,if_neg (fun z=>hn b ds0 (by rw[z];exact q1))];exact q2
   ·refine .inr ⟨q1,fun b ds q=>?_⟩
    rw[Ho,if_neg (fun z=>hn b ds (by rw[z];exact q))];exact q2 b ds q
  cases ec:c[j]? with
  | none=>simp only[ec]at e;exact other e fun b ds z=>by rw[ec]at z;cases z
  | some x =>
   cases x with
   | none=>simp only[ec]at e;exact other e fun b ds z=>by rw[ec]at z;cases z
   | some o =>
    cases o with
    | im d=>simp only[ec]at e;exact other e fun b ds z=>by rw[ec]at z;cases z
    | sc d=>simp only[ec]at e;exact other e fun b ds z=>by rw[ec]at z;cases z
    | ty d=>simp only[ec]at e;exact other e fun b ds z=>by rw[ec]at z;cases z
    | ls b0 ds0 =>
     simp only[ec]at e
     cases ei:cI[k]? with
     | none=>simp only[ei]at e;cases e
     | some x =>
      cases x with
      | none=>simp only[ei]at e;cases e
      | some o =>
       cases o with
       | im d=>simp only[ei]at e;cases e
       | sc d=>simp only[ei]at e;cases e
       | ty d=>simp only[ei]at e;cases e
       | ls b1 ds1 =>
        cases b1 with
        | false=>simp only[ei]at e;cases e
        | true =>
         simp only[ei]at e
         have lj:j<c.length:=by
          rcases aW j c.length with q | q
          ·exact q
          ·rw[cR q]at ec;cases ec
         obtain⟨hl,hg⟩:=Pq nd.2 e;rw[b_]at hl
         refine⟨hl,fun i=>?_⟩
         by_cases z:j=i
         ·subst z
          rcases hg j with ⟨b,ds0',k',ds,q1,q2,q3,q4⟩ | ⟨q1,q2⟩
          ·rw[nj]at q2;cases q2
          ·rw[cu lj]at q1
           exact .inl ⟨b0,ds0,k,ds1,ec,by rw[Ho,if_pos rfl],ei,q1⟩
         ·have gs:(c.set j (some (.ls b0 ds1)))[i]?=c[i]?:=bY z
          rcases hg i with ⟨b,ds0',k',ds,q1,q2,q3,q4⟩ | ⟨q1,q2⟩
          ·rw[gs]at q1
           exact .inl ⟨b,ds0',k',ds,q1,by rw[Ho,if_neg z];exact q2,q3,q4⟩
          ·rw[gs]at q1 q2
           exact .inr ⟨q1,fun b ds q=>by rw[Ho,if_neg z];exact q2 b ds q⟩
def Ha:Option (m_)->Bool
 | some (some (.ls _ _))=>true
 | _=>false
def Rm (m:o4)(c:Ev)(fps:Nat->v6):Nat->v6:=fun k=>match Am0 m k with
 | some i=>if Ha c[i]? then fps i else []
 | none=>[]
theorem Tc   (h:Am0 m k=some i):(k,i)∈m:=by
 obtain⟨p,b,a⟩:=aH.mp h
 grind
theorem Gj      (h:a∈Rm m c b k):∃i,(k,i)∈m/\Ha c[i]?=true/\a∈b i:=by
 unfold Rm at h
 cases e:Am0 m k with
 | none=>grind
 | some i =>
  rw[e]at h
  have h:a∈if Ha _ then b i else []:=h
  by_cases q:Ha c[i]?=true
  ·rw[if_pos q]at h;exact⟨i,Tc e,q,h⟩
  grind
theorem Bi2   (a:(m.map (·.1)).Nodup) (h:(k,i)∈m):Am0 m k=some i:=by
 cases e:Am0 m k with
 | none =>
  unfold Am0 at e;rw[Option.map_eq_none_iff]at e
  grind
 | some j=>rw[Aq6 a h (Tc e)]
def Ai8 (m:o4)(c:Ev)(fps fpsJ:Nat->v6):Nat->v6:=fun i=>if Ha c[i]? then (match inn m i with
 | some k=>fpsJ k
 | none=>fps i) else fps i
section
variable {K:v9}{β β':Nat->V}{W W':Wo}{c cI cI' cO:Ev}{σ σI σI':St}{m:o4}{fp:v6}
structure Lent (K:v9) (Hf:Hp) (m:o4) (c:Ev) (σ:St) (β':Nat->V) (cI:Ev) (σI:St):Prop where
 n1:(m.map (·.1)).Nodup
 n2:(m.map (·.2)).Nodup
 len:cI.length=σI.length
 at_:∀k o,cI[k]?=some (some o)->(o.own=false/\(∀i,(k,i)∈m->Ha c[i]?=false)/\(∃v,σI[k]?=some (some v)/\RepN K Hf o v))\/∃i b ds v,(k,i)∈m/\c[i]?=some (some (.ls b ds))/\o=.ls true ds/\σ[i]?=some (some v)/\σI[k]?=some (some v)/\β' k=v
theorem Lent.rep (L:Lent K W.Hf m c σ β' cI σI)(R:Rep K β W c σ):Rep K β' ⟨W.Hf,W.H,Rm m c W.fps⟩ cI σI:=by
 refine⟨R.sub,L.len,fun k o e=>?_,fun k l a B C=>?_,fun k a h=>?_⟩
 ·rcases L.at_ k o e with ⟨n,s,v,p,r⟩ | ⟨i,b,x,v,E,w,rfl,J,p,A⟩
  ·refine⟨v,p,?_,fun q=>?_⟩
   ·have g:∀t ,t=[]->RepO K _ W.H o v t:=fun t z=>by
     cases o with
     | ls b x=>exact nomatch n
     | im d=>exact⟨z,r⟩
     | sc d=>exact⟨z,r⟩
     | ty d=>exact⟨z,r⟩
    refine g _ ?_
    show Rm m c _ k=[]
    unfold Rm
    cases q:Am0 m k with
    | none=>rfl
    | some i =>
     show (if Ha _ then W.fps i else [])=[]
     rw[s i (Tc q)]
     rfl
   ·cases o with
    | ls b x=>exact nomatch n
    | im d=>exact nomatch q
    | sc d=>exact nomatch q
    | ty d=>exact nomatch q
  ·obtain⟨v',f,r,_⟩:=R.get i _ w
   cases (show some _=some _ from f.symm.trans J)
   refine⟨v,p,?_,fun _=>A.symm⟩
   obtain⟨a,F,G,D,I⟩:=r
   refine⟨a,F,G,?_,I⟩
   show Rm m c _ k=[a]
   unfold Rm;rw[Bi2 L.n1 E]
   show (if Ha _ then W.fps i else [])=[a]
   rw[w];exact D
 ·obtain⟨i,H,_,u⟩:=Gj B
  obtain⟨j,M,_,y⟩:=Gj C
  cases R.dis i j a u y
  have f:=Rz L.n2 M;rw[(Rz L.n2 H)]at f;exact bN f
 ·obtain⟨i,_,_,u⟩:=Gj h
  exact R.own i a u
theorem Bk7  (h:Ha x=true):∃b ds,x=some (some (.ls b ds)):=by
 match x,h with
 | some (some (.ls b _)),_=>grind
theorem Lent.back (L:Lent K W.Hf m c σ β' cI σI)(R:Rep K β W c σ)(I:Rep K β' W' cI' σI')(st:Stp (Wo.S ⟨W.Hf,W.H,Rm m c W.fps⟩) W.Hf W.H (orS W'.S fp) W'.Hf W'.H)(hb:Gn cI' m c=some cO)
 (H:∀k i b J v,(k,i)∈m->c[i]?=some (some (.ls b J))->σ[i]?=some (some v)->β' k=v) (Q:∀a∈fp,¬ W'.S a) :
 ∃W2:Wo,W2.Hf=W'.Hf/\W2.H=W'.H/\Rep K β W2 cO σ/\Stp W.S W.Hf W.H (orS W2.S fp) W'.Hf W'.H/\∀a∈fp,¬ W2.S a:=by
 obtain⟨hl,hg⟩:=Pq L.n2 hb
 have t:∀k a,a∈W'.fps k->(∃i,(∃l,(l,i)∈m)/\Ha c[i]?=true/\a∈W.fps i)\/W.H a=none:=fun k a h=>by
  rcases st.fr a (.inl ⟨k,h⟩) with ⟨l,q⟩ | q
  ·obtain⟨i,s,x,g⟩:=Gj q
   exact .inl ⟨i,⟨l,s⟩,x,g⟩
  ·exact .inr q
 have d:∀i a,a∈W.fps i->(Ha c[i]?=true->inn m i=none)->¬ Wo.S ⟨W.Hf,W.H,Rm m c W.fps⟩ a:=fun i a h n ⟨k,q⟩=>by
  obtain⟨j,s,x,g⟩:=Gj q
  cases (R.dis i j a h g)
  have:=n x;rw[Rz L.n2 s]at this;cases this
 have D:∀i a,a∈Ai8 m c W.fps W'.fps i->(∃k,inn m i=some k/\Ha c[i]?=true/\a∈W'.fps k)\/(a∈W.fps i/\(Ha c[i]?=true->inn m i=none)):=fun i a h=>by
  have h:a∈if Ha c[i]? then (match inn m i with | some k=>W'.fps k | none=>W.fps i) else W.fps i:=h
  by_cases q:Ha c[i]?=true
  ·rw[if_pos q]at h
   cases e:inn m i with
   | none=>rw[e]at h;exact .inr ⟨h,fun _=>rfl⟩
   | some k=>rw[e]at h;exact .inl ⟨k,rfl,q,h⟩
  ·rw[if_neg q]at h;exact .inr ⟨h,fun z=>absurd z q⟩
 have p:∀i k a,a∈W.fps i->(Ha c[i]?=true->inn m i=none)->a∈W'.fps k->False:=fun i k a h n V=>by
  rcases t k a V with ⟨j,⟨l,s⟩,x,g⟩ | q
  ·cases (R.dis i j a h g)
   have:=n x;rw[Rz L.n2 s]at this;cases this
  ·obtain⟨_,o,e,_⟩:=R.own i a h
   rw[q]at e;cases e
 refine⟨⟨W'.Hf,W'.H,Ai8 m c W.fps W'.fps⟩,rfl,rfl,⟨I.sub,hl.trans R.len,fun i o e=>?_,fun i j a Z T=>?_,fun i a h=>?_⟩,⟨st.fz,fun a o e n=>st.kp a o e fun⟨k,q⟩=>?_,fun a o e F n q=>st.nf a o e F (fun zz=>?_) q,fun a h=>?_⟩,fun a C ⟨i,h⟩=>?_⟩
 ·rcases hg i with ⟨b,N,k,J,s,x,g,U⟩ | ⟨s,x⟩
  ·rw[U]at e;cases e
   obtain⟨v,M,r,P⟩:=R.get i _ s;obtain⟨X,e1',r',O⟩:=I.get k _ g;have S:=O rfl;rw[H k i b N v (Rx x) s M]at S;subst S
   refine⟨X,M,?_,P⟩
   obtain⟨a,Y,A,E,G⟩:=r'
   refine⟨a,Y,A,?_,G⟩
   show Ai8 m c W.fps W'.fps i=[a]
   unfold Ai8;rw[s,x];exact E
  ·rw[s]at e
   obtain⟨v,M,r,P⟩:=R.get i _ e
   refine⟨v,M,?_,P⟩
   have n:Ha c[i]?=true->inn m i=none:=fun z=>by
    obtain⟨b,J,z⟩:=Bk7 z;exact x b J z
   have ef:Ai8 m c W.fps W'.fps i=W.fps i:=by
    unfold Ai8
    by_cases q:Ha c[i]?=true
    ·rw[if_pos q,n q]
    ·rw[if_neg q]
   show RepO K W'.Hf W'.H o v (Ai8 m c W.fps W'.fps i)
   rw[ef]
   refine r.mono st.fz fun a C=>?_
   obtain⟨z,u,y,F⟩:=R.own i a C;exact⟨st.nf a u y F (d i a C n) z,(st.kp a u y (d i a C n)).trans y.symm⟩
 ·rcases D i a Z with ⟨k,f,w,B⟩ | ⟨f,w⟩
  ·rcases D j a T with ⟨l,A,E,G⟩ | ⟨A,E⟩
   ·cases I.dis k l a B G
    exact Aq6 L.n1 (Rx f) (Rx A)
   ·exact(p j k a A E B).elim
  ·rcases D j a T with ⟨l,A,E,G⟩ | ⟨A,E⟩
   ·exact(p i l a f w G).elim
   ·exact R.dis i j a f A
 ·rcases D i a h with ⟨k,f,w,B⟩ | ⟨f,w⟩
  ·exact I.own k a B
  ·obtain⟨z,u,y,F⟩:=R.own i a f
   exact⟨st.nf a u y F (d i a f w) z,u,st.kp a u y (d i a f w),F⟩
 ·obtain⟨i,_,_,g⟩:=Gj q
  exact n ⟨i,g⟩
 ·obtain⟨k,q'⟩:=zz
  obtain⟨i,_,_,g⟩:=Gj q';exact n ⟨i,g⟩
 ·rcases h with ⟨i,h⟩ | h
  ·rcases D i a h with ⟨k,f,w,B⟩ | ⟨f,w⟩
   ·rcases t k a B with ⟨j,_,_,q⟩ | q
    ·exact .inl ⟨j,q⟩
    ·exact .inr q
   ·exact .inl ⟨i,f⟩
  ·rcases st.fr a (.inr h) with ⟨k,q⟩ | q
   ·obtain⟨i,_,_,g⟩:=Gj q
    exact .inl ⟨i,g⟩
   ·exact .inr q
 ·rcases D i a h with ⟨k,f,w,B⟩ | ⟨f,w⟩
  ·exact Q a C ⟨k,B⟩
  ·rcases st.fr a (.inr C) with q | q
   ·exact d i a f w q
   ·obtain⟨_,u,y,_⟩:=R.own i a f
    rw[q]at y;cases y
end
inductive SR where
 | nx (c:Ev)
 | rt (p:PV) (c:Ev)
 | bk (c:Ev)
 | ct (c:Ev)
 | bad
def zG (K:v9)(β:Nat->V)(W:Wo)(D:Ends):SR->Prop
 | .nx c'=>∀σ' W',Stp W.S W.Hf W.H W'.S W'.Hf W'.H->Rep K β W' c' σ'->D.nx σ' W'.H
 | .bk c'=>∀σ' W',Stp W.S W.Hf W.H W'.S W'.Hf W'.H->Rep K β W' c' σ'->D.bk σ' W'.H
 | .ct c'=>∀σ' W',Stp W.S W.Hf W.H W'.S W'.Hf W'.H->Rep K β W' c' σ'->D.ct σ' W'.H
 | .rt p c'=>∀σ' v W' fp,Stp W.S W.Hf W.H (orS W'.S fp) W'.Hf W'.H->Rep K β W' c' σ'->Ea K W' σ' p v fp->D.rt v W'.H
 | .bad=>False
def MS (K:v9)(T:TS)(f:Ev->SR):Prop:=∀(β:Nat->V) (W:Wo) (c:Ev) (σ:St) (D:Ends),Rep K β W c σ->zG K β W D (f c)->T D σ W.H
def MG (K:v9)(g:TG)(cg:o_):Prop:=∀(β:Nat->V) (W:Wo) (c:Ev) (σ:St) (p:PV) (v:V) (fp:v6) (k:St->Hp->Prop),Rep K β W c σ->Ea K W σ p v fp ->
 (cg p c).sat (fun _ c'=>∀σ' W',Stp (orS W.S fp) W.Hf W.H W'.S W'.Hf W'.H->Rep K β W' c' σ'->k σ' W'.H)->g v σ W.H k
def MGs (K:v9)(g:TGs)(cg:w5->Ev->R Unit):Prop:=∀(β:Nat->V) (W:Wo) (c:Ev) (σ:St) (ds:w5) (vs:l_) (k:St->Hp->Prop),Rep K β W c σ->TrL W.Hf ds vs ->
 (cg ds c).sat (fun _ c'=>∀σ' W',Stp W.S W.Hf W.H W'.S W'.Hf W'.H->Rep K β W' c' σ'->k σ' W'.H)->g vs σ W.H k
def R.toS {α:Type}(r:R α)(k:α->Ev->SR):SR:=match r with
 | .ok a c=>k a c
 | .bad=>.bad
section
variable {K:v9}{β β':Nat->V}{W W':Wo}{c c' cI cI' cO:Ev}{σ σ' σI σI':St}{D:Ends}{Hf H:Hp}{o:O}{v:V}{fp:v6}
theorem Em  {r:R b}{k:b->Ev->SR}(h:zG K β W D (r.toS k)):r.sat fun a c=>zG K β W D (k a c):=by
 cases r with
 | ok a c=>exact h
 | bad=>exact h
theorem zG.step  (h:zG K β W D r) (st:Stp W.S W.Hf W.H W'.S W'.Hf W'.H):zG K β W' D r:=by
 cases r with
 | nx c=>exact fun b d a R=>h _ _ (st.trans a) R
 | bk c=>exact fun b d a R=>h _ _ (st.trans a) R
 | ct c=>exact fun b d a R=>h _ _ (st.trans a) R
 | rt p c=>exact fun b v d e a R r=>h _ v _ _ (st.trans a) R r
 | bad=>exact h
def Az (f g:Ev->SR):Ev->SR:=fun c=>match f c with
 | .nx c=>g c
 | r=>r
theorem Aw   (h1:MS K t f) (h2:MS K u g):MS K (A6i t u) (Az f g):=by
 intro k W c i D R l
 refine h1 _ W c _ _ R ?_
 unfold Az at l
 cases e:f c with
 | nx a=>rw[e]at l;exact fun h j d b=>h2 _ _ _ _ D b (zG.step l d)
 | rt p a=>rw[e]at l;exact l
 | bk a=>rw[e]at l;exact l
 | ct a=>rw[e]at l;exact l
 | bad=>rw[e]at l;exact l
def Ck:Ev->SR:=fun c=>.nx c
theorem Bm:MS K A4f Ck:=fun b W c a D R l=>l _ W Stp.refl R
def T5:Ev->SR:=fun _=>.bad
theorem Uq:MS K An6 T5:=fun b W c a D R l=>l.elim
def Iw (f:m6):Ev->SR:=fun c=>(f c).toS fun _ c=>.nx c
theorem Pg   (h:ME K a f):MS K (A7t a) (Iw f):=fun g W c i D R l =>
 h.toV _ W c _ _ R ((Em l).mono fun p k e v j d b _=>e _ _ d b)
def Dc (f:m6):Ev->SR:=fun c=>(f c).toS fun p c=>.rt p c
theorem Bc   (h:ME K a f):MS K (B0f a) (Dc f):=fun i W c n D R l =>
 h _ W c _ _ R ((Em l).mono fun p m e v j k d g b=>e _ v _ _ d g b)
def cIf (t:n_)(f g:Ev->SR):Ev->SR:=fun c=>(t c).toS fun b c=>if b=true then f c else g c
theorem Du     (h:MT K d ft) (h1:MS K t f) (h2:MS K u g):MS K (Bf7 d t u) (cIf ft f g):=fun k W c j D R l =>
 h
  _ W c _ _ R ((Em l).mono fun b n i m e a=>by
  cases b with
  | true=>exact h1 _ _ _ _ D a (zG.step i e)
  | false=>exact h2 _ _ _ _ D a (zG.step i e))
def cgN (i:Nat):o_:=fun p c=>match p with
 | .o (.ls _ ds)=>.ok () (c.set i (some (.ls false ds)))
 | .o o=>.ok () (c.set i (some o))
 | .sl j=>(frz (.sl j) c).bind fun d c=>.ok () (c.set i (some (.im d)))
theorem B0i   (h:Wo.S ⟨Hf,H,clr W.fps i⟩ a):W.S a:=by
 obtain⟨j,h⟩:=h;exact⟨j,(Gg h).1⟩
theorem Ao  : MG K (Mz i) (cgN i):=by
 intro w W c x p v u k R r s
 have f:∀{o:O} {g:Wo} {m:Ev},Rep K w g m x->o.own=false->RepN K g.Hf o v->Stp (orS W.S u) W.Hf W.H g.S _ g.H->g.H=W.H->(∀σ' W',Stp _ _ _ W'.S W'.Hf W'.H->Rep K _ W' _ σ'->k σ' W'.H)->k _ W.H:=fun {o g m} h n r l e s=>by
  rw[<- e]
  exact s _ ⟨g.Hf,g.H,clr _ i⟩ (l.less fun a z=>B0i z) (h.setN r n)
 cases p with
 | sl j =>
  obtain⟨rfl,e⟩:=r
  obtain⟨d,m,g,e1,A,y,l,h,t⟩:=Jd R (show RepA K _ _ (.sl j) v from e) s.bnd
  exact f h (o:=.im d) rfl t (l.up fun a z=>.inl z) y A
 | o o =>
  cases o with
  | im d=>exact f R rfl r.1.2 (Stp.refl.up fun a z=>.inl z) rfl s
  | sc d=>exact f R rfl r.1.2 (Stp.refl.up fun a z=>.inl z) rfl s
  | ty d=>exact f R rfl r.1.2 (Stp.refl.up fun a z=>.inl z) rfl s
  | ls b ds =>
   refine s _ ⟨W.Hf,W.H,fun j=>if j=i then u else W.fps j⟩ ⟨Same.refl _,fun a o e _=>e,fun a o e _ _ q=>q,fun a z=>?_⟩ (R.setO  r.1 r.2 rfl)
   obtain⟨j,z⟩:=z
   have z:a∈if j=i then u else W.fps j:=z
   split at z
   ·grind
   ·exact .inl (.inl ⟨j,z⟩)
def Hq:w5->Ev->R Unit:=fun ds c=>match ds with
 | []=>.ok () c
 | _=>.bad
def Cv (g:o_)(gs:w5->Ev->R Unit):w5->Ev->R Unit:=fun ds c=>match ds with
 | d::ds=>(g (.o (.im d)) c).bind fun _ c=>gs ds c
 | []=>.bad
theorem Zf:MGs K A9v Hq:=fun f W c e a b k R t s=>by
 cases a with
 | nil=>cases (t);exact⟨rfl,s _ W Stp.refl R⟩
 | cons d r=>trivial
theorem Ji     (h1:MG K t g) (h2:MGs K u f):MGs K (Ac0 t u) (Cv g f):=fun β W c σ x vs k R j s=>by
 cases x with
 | nil=>trivial
 | cons d r =>
  obtain⟨v,l,rfl,m,n⟩:=j
  refine⟨v,l,rfl,h1 _ W c _ (.o (.im d)) v _ _ R ⟨⟨rfl,m⟩,fun a z=>nomatch z⟩ (s.bnd.mono fun _ c1 o i W1 b q=>?_)⟩
  have b:=b.up (S2:=W.S) fun a z=>by
   grind
  exact h2 _ _ _ _ r _ k q (TrL.same b.fz n) (o.mono fun _ c2 p w W2 e h=>p _ _ (b.trans e) h)
def cgT (n:Nat)(gs:w5->Ev->R Unit):o_:=fun p c=>match p with
 | .o (.im (.tuple ds))=>if ds.length=n then gs ds c else .bad
 | _=>.bad
theorem Ak5    (h:MGs K t d):MG K (Bb5 K n t) (cgT n d):=by
 intro u W c w p v q k R r s
 match p,r,s with
 | .o (.im (.tuple ds)),r,s =>
  obtain⟨⟨b,a,j,b,l,f⟩,_⟩:=r
  have s:(if ds.length=n then d _ c else .bad:U.R _).sat _:=s
  by_cases e:ds.length=n
  ·rw[if_pos e]at s
   refine⟨a,j,b,SqT.of (R.sub _ _ l),by rw[<- f.length];exact e,h _ W c _ _ _ k R f (s.mono fun _ y i m x o g=>i _ _ (o.up fun a z=>.inl z) g)⟩
  ·rw[if_neg e]at s;trivial
 | .o (.im .none),r,s=>trivial
 | .o (.im (.bool _)),r,s=>trivial
 | .o (.im (.int _)),r,s=>trivial
 | .o (.im (.str _)),r,s=>trivial
 | .o (.im (.list _)),r,s=>trivial
 | .o (.im (.dict _)),r,s=>trivial
 | .o (.ls _ _),r,s=>exact s.elim
 | .o (.sc _),r,s=>exact s.elim
 | .o (.ty _),r,s=>exact s.elim
 | .sl _,r,s=>trivial
def Cm (f:m6)(g:o_):Ev->SR:=fun c=>(f c).toS fun p c=>(g p c).toS fun _ c=>.nx c
theorem Bj     (h:ME K b f) (hg:MG K t g):MS K (Af6 b t) (Cm f g):=fun x W c o D R l =>
 h _ W c _ _ R ((Em l).mono fun p q j v s u k e i=>hg _ _ _ _ p v _ _ e i ((Em j).mono fun _ r m n w a d=>m _ _ (k.trans a) d))
def A1i (J:It)(Hf:Hp)(ds:w5):Prop:=∀(i:Nat) (Hf' H:Hp),Same Hf Hf'->Same Hf' H->(i=ds.length->J.stop i H) /\
 ∀d,ds[i]?=some d->J.go i H/\∀x H',J.yld i H x H'->∃Hf2,Stp (fun _=>False) Hf' H (fun _=>False) Hf2 H'/\Same Hf2 H'/\Tr Hf2 d x
def MI (K:v9)(wi:TI)(fi:Ev->R (w5)):Prop:=∀(β:Nat->V) (W:Wo) (c:Ev) (σ:St) (k:It->Hp->Prop),Rep K β W c σ ->
 (fi c).sat (fun ds c'=>∀J W',Stp W.S W.Hf W.H W'.S W'.Hf W'.H->Rep K β W' c' σ->A1i J W'.Hf ds->k J W'.H)->wi σ W.H k
def forL (g:o_)(body:Ev->SR):w5->Ev->SR
 | [],c=>.nx c
 | d::ds,c=>match g (.o (.im d)) c with
  | .bad=>.bad
  | .ok _ c=>match body c with
   | .nx c=>forL g body ds c
   | .ct c=>forL g body ds c
   | .bk c=>.nx c
   | .rt p c=>.rt p c
   | .bad=>.bad
def Oa (fi:Ev->R (w5))(g:o_)(body:Ev->SR):Ev->SR:=fun c=>(fi c).toS fun ds c=>forL g body ds c
theorem Wm {a:Type}{l:List a}  (h:i<l.length):l.drop i=l[i]::l.drop (i+1):=List.drop_eq_getElem_cons h
theorem Nv   {V:TS}    (hi:MI K X fi) (hg:MG K t g) (hb:MS K V body):MS K (Bn2 X t V) (Oa fi g body):=by
 intro C W c I D R l
 refine hi C W c I _ R ((Em l).mono fun k c1 l1 J T N R1 it=>?_)
 refine⟨fun i m I H=>∃d y,d.H=H/\Rep K C d y I/\m=k.length-i/\i<=k.length/\Same T.Hf d.Hf/\zG K C d D (forL g body (k.drop i) y),⟨_,T,c1,rfl,R1,rfl,aD _,Same.refl _,zG.step l1 N⟩,?_⟩
 rintro i m I H ⟨d,y,rfl,O,rfl,hle,Y,h⟩
 obtain⟨A,Q⟩:=it i d.Hf d.H Y O.sub
 by_cases lt:i<k.length
 ·obtain⟨q1,q2⟩:=Q k[i] (bR lt)
  refine .inr ⟨q1,fun M s=>∃d y,d.H=s/\Rep K C d y M/\Same T.Hf d.Hf/\zG K C d D (forL g body (k.drop (i+1)) y),fun M s ⟨U,Z,e3,R3,s3,l3⟩=>⟨k.length-(i+1),by (first|lia|omega),U,Z,e3,R3,rfl,by (first|lia|omega),s3,l3⟩,fun x s hy=>?_⟩
  obtain⟨n,j,G,tx⟩:=q2 x s hy
  have P:Stp d.S d.Hf d.H (Wo.S ⟨n,s,d.fps⟩) n s:=⟨j.fz,fun a o e _=>j.kp a o e fun z=>z,fun a o e mu _ q=>j.nf a o e mu (fun z=>z) q,fun a z=>.inl z⟩
  rw[Wm lt]at h;unfold forL at h
  refine hg C ⟨n,s,d.fps⟩ y I (.o (.im _)) x _ _ (j.rep O G) ⟨⟨rfl,tx⟩,fun a z=>nomatch z⟩ ?_
  cases eg:g _ _ with
  | bad=>rw[eg]at h;exact h.elim
  | ok u Z =>
   rw[eg]at h;intro σ3 U w S
   have w:=w.up  fun a z=>by
    rcases z with z | z
    ·exact z
    ·cases z
   have f:=P.trans w;have F  := Y.trans f.fz
   refine hb _ _ _ _ _ S ?_
   cases ebd:body _ with
   | nx E=>simp only[ebd]at h;exact fun r L b B=>⟨L,E,rfl,B,F.trans b.fz,zG.step h (f.trans b)⟩
   | ct E=>simp only[ebd]at h;exact fun r L b B=>⟨L,E,rfl,B,F.trans b.fz,zG.step h (f.trans b)⟩
   | bk E=>simp only[ebd]at h;exact fun r L b B=>h _ _ (f.trans b) B
   | rt p E=>simp only[ebd]at h;exact fun r v L fp b B r4=>h _ v _ _ (f.trans b) B r4
   | bad=>simp only[ebd]at h;exact h.elim
 ·have e:i=k.length:=by (first|lia|omega)
  subst e;rw[List.drop_length]at h;exact .inl ⟨A rfl,h _ _ Stp.refl O⟩
def Dt (g:o_)(ft:n_)(fe:m6):w5->w5->Ev->R (w5)
 | [],acc,c=>.ok acc c
 | d::ds,acc,c=>(g (.o (.im d)) c).bind fun _ c=>(ft c).bind fun b c=>if b=true then (fe c).bind fun p c=>(frz (nrm p) c).bind fun y c=>Dt g ft fe ds (acc++[y]) c else Dt g ft fe ds acc c
def cIn (idx:o5)(c:Ev):Ev:=idx.map fun o=>o.bind fun i=>((c[i]?).join).map (O.flag true)
def pairsOf:Nat->o5->o4
 | _,[]=>[]
 | k,none::r=>pairsOf (k+1) r
 | k,some i::r=>(k,i)::pairsOf (k+1) r
def cLC (idx:o5)(fi:Ev->R (w5))(g:o_)(ft:n_)(fe:m6):m6:=fun c=>(fi c).bind fun ds c =>
 if ds.length<=16000000 then match Dt g ft fe ds [] (cIn idx c) with
 | .bad=>.bad
 | .ok acc cI=>match Gn cI (pairsOf 0 idx) c with
  | none=>.bad
  | some c=>.ok (.o (.ls false acc)) c
 else .bad
theorem A9b  (h:l+1<=k):k-(l+1)+1=k-l:=by (first|lia|omega)
theorem Ff {k i:Nat}:∀{l:Nat}{idx:o5},(k,i)∈pairsOf l idx->l<=k/\idx[k-l]?=some (some i)
 | l,[],h=>by cases h
 | l,none::r,h=>by
  obtain⟨q1,q2⟩:=Ff (l:=l+1) (idx:=r) h
  refine⟨cM q1,?_⟩
  rw[show k-l=(k-(l+1))+1 from (A9b q1).symm,c7];exact q2
 | l,some j::r,h=>by
  rcases au.mp (show (k,i)∈(l,j)::pairsOf (l+1) r from h) with e | e
  ·cases e;exact⟨ak _,by rw[dD];rfl⟩
  ·obtain⟨q1,q2⟩:=Ff (l:=l+1) (idx:=r) e
   refine⟨cM q1,?_⟩
   rw[show k-l=(k-(l+1))+1 from (A9b q1).symm,c7];exact q2
theorem Mh {k i:Nat}:∀{l:Nat}{idx:o5},idx[k]?=some (some i)->(k+l,i)∈pairsOf l idx
 | l,[],h=>by simp at h
 | l,none::r,h=>by
  cases k with
  | zero=>simp at h
  | succ k =>
   rw[c7]at h;have:=Mh (l:=l+1) (idx:=r) h
   rw[show k+1+l=k+(l+1) by (first|lia|omega)];exact this
 | l,some j::r,h=>by
  cases k with
  | zero=>simp at h;subst h;rw[aX];exact .head _
  | succ k =>
   rw[c7]at h;have:=Mh (l:=l+1) (idx:=r) h
   rw[show k+1+l=k+(l+1) by (first|lia|omega)];exact .tail _ this
theorem Oc:∀{l:Nat}{idx:o5},((pairsOf l idx).map (·.1)).Nodup
 | l,[]=>dF
 | l,none::r=>Oc (l:=l+1) (idx:=r)
 | l,some j::r=>by
  show (l::(pairsOf (l+1) r).map (·.1)).Nodup
  rw[bJ]
  refine⟨fun h=>?_,Oc⟩
  obtain⟨⟨k,i⟩,h1,h2⟩:=aJ.mp h;have:=(Ff h1).1;have h2:k=l:=h2;(first|lia|omega)
theorem B2k   (h:x.join=some o):x=some (some o):=by
 cases x with
 | none=>grind
 | some y=>simp_all
theorem Bk5   {k:Nat}  (h:(cIn idx c)[k]?=some (some o)):∃i a,idx[k]?=some (some i)/\c[i]?=some (some a)/\o=a.flag true:=by
 unfold cIn at h;rw[bT]at h;obtain⟨x,e,b⟩:=aH.mp h
 cases x with
 | none=>grind
 | some i =>
  obtain⟨a,f,d⟩:=aH.mp b
  grind
theorem At8   {k i:Nat}  (h1:idx[k]?=some (some i)) (h2:a[i]?=some (some v)):(cst idx a)[k]?=some (some v):=by
 unfold cst
 grind
theorem Bg7 {idx:o5}(R:Rep K β W c σ)(hnd:((pairsOf 0 idx).map (·.2)).Nodup):Lent K W.Hf (pairsOf 0 idx) c σ (fun k=>(((cst idx σ)[k]?).join).getD .non) (cIn idx c) (cst idx σ) where
 n1:=Oc
 n2:=hnd
 len:=by unfold cIn cst;rw[ao,ao]
 at_:=fun k o h=>by
  obtain⟨i,o',h1,h2,rfl⟩:=Bk5 h;obtain⟨v,e,r,_⟩:=R.get i o' h2;have hs:=At8 h1 e
  have one:∀j,(k,j)∈pairsOf 0 idx->j=i:=fun j hj=>by
   have:=(Ff hj).2;rw[cQ,h1]at this;cases this;rfl
  have nol:Ha c[i]?=false->∀j,(k,j)∈pairsOf 0 idx->Ha c[j]?=false:=fun q j hj=>by rw[one j hj];exact q
  cases o' with
  | im d=>exact .inl ⟨rfl,nol (by rw[h2];rfl),v,hs,r.2⟩
  | sc d=>exact .inl ⟨rfl,nol (by rw[h2];rfl),v,hs,r.2⟩
  | ty d=>exact .inl ⟨rfl,nol (by rw[h2];rfl),v,hs,r.2⟩
  | ls b ds=>exact .inr ⟨i,b,ds,v,Mh (l:=0) h1,h2,rfl,e,hs,by rw[hs];rfl⟩
theorem Bc0             (hnd:((pairsOf 0 idx).map (·.2)).Nodup) (hg:MG K t g) (ht:MT K tc ft) (he:ME K te fe)
 (st1:Stp W.S W.Hf W.H W1.S W1.Hf W1.H) (R1:Rep K β W1 c1 σ)
 (it:∀(i:Nat) (h:Wo),Stp (Wo.S ⟨W1.Hf,W1.H,Rm (pairsOf 0 idx) c1 W1.fps⟩) W1.Hf W1.H h.S h.Hf h.H->Same h.Hf h.H->(i=ds.length->J.stop i h.H) /\
  ∀d,ds[i]?=some d->J.go i h.H/\∀x E,J.yld i h.H x E->∃s,Stp (fun _=>False) h.Hf h.H (fun _=>False) s E/\Same s E/\Tr s d x)
 (s1:(if ds.length<=16000000 then match Dt g ft fe ds [] (cIn idx c1) with
  | .bad=>.bad
  | .ok f I=>match Gn I (pairsOf 0 idx) c1 with
   | none=>.bad
   | some c=>.ok (.o (.ls false f)) c
  else .bad:R PV).sat fun p c'=>∀v j w,Stp W.S W.Hf W.H (orS j.S w) j.Hf j.H->Rep K β j c' σ->Ea K j σ p v w->Q v j.H):tLC idx (fun _ H k=>k J H) t tc te σ W1.H Q:=by
 unfold tLC
 dsimp only
 by_cases hl:ds.length<=16000000
 ·rw[if_pos hl]at s1
  have L:=Bg7 (idx:=idx) R1 hnd
  let C:Nat->V:=fun k=>(((cst idx σ)[k]?).join).getD .non
  let F:Wo:=⟨W1.Hf,W1.H,Rm (pairsOf 0 idx) c1 W1.fps⟩
  let B:U.R (w5)->Prop:=fun r=>match r with
   | .bad=>False
   | .ok f I=>match Gn I (pairsOf 0 idx) c1 with
    | none=>False
    | some c=>∀v j w,Stp W.S W.Hf W.H (orS j.S w) j.Hf j.H->Rep K β j c σ->Ea K j σ (.o (.ls false f)) v w->Q v j.H
  have s2:B (Dt g ft fe ds [] (cIn idx c1)):=by
   show match Dt g ft fe ds [] (cIn idx c1) with
    | .bad=>False
    | .ok f I=>match Gn I (pairsOf 0 idx) c1 with
     | none=>False
     | some c=>∀v j w,Stp W.S W.Hf W.H (orS j.S w) j.Hf j.H->Rep K β j c σ->Ea K j σ (.o (.ls false f)) v w->Q v j.H
   cases e1:Dt g ft fe ds [] (cIn idx c1) with
   | bad=>rw[e1]at s1;exact s1.elim
   | ok f I =>
    simp only[e1]at s1
    show match Gn I (pairsOf 0 idx) c1 with
     | none=>False
     | some c=>∀v j w,Stp W.S W.Hf W.H (orS j.S w) j.Hf j.H->Rep K β j c σ->Ea K j σ (.o (.ls false f)) v w->Q v j.H
    cases e2:Gn I (pairsOf 0 idx) c1 with
    | none=>simp only[e2]at s1;exact s1.elim
    | some D=>simp only[e2]at s1;exact s1
  refine⟨fun i m A S H=>∃h D f,h.H=H/\Rep K C h D A/\m=ds.length-i/\i<=ds.length/\S.length<=i/\Stp F.S F.Hf F.H h.S h.Hf h.H/\TrL h.Hf f S/\B (Dt g ft fe (ds.drop i) f D),
   ⟨_,F,cIn idx c1,[],rfl,(L.rep R1),rfl,aD _,ak _,Stp.refl,rfl,s2⟩,?_⟩
  rintro i m A S H ⟨h,D,f,rfl,R2,rfl,hle,hvs,N,ta,l⟩
  obtain⟨P,hgo⟩:=it i h N R2.sub
  by_cases lt:i<ds.length
  ·obtain⟨q1,q2⟩:=hgo ds[i] (bR lt)
   refine .inr ⟨q1,aA (bc hvs (aA lt hl)) (by decide),fun A S E=>∃h D f,h.H=E/\Rep K C h D A/\S.length<=i+1/\Stp F.S F.Hf F.H h.S h.Hf h.H/\TrL h.Hf f S/\B (Dt g ft fe (ds.drop (i+1)) f D),
    fun A acc' E ⟨O,X,Y,e3,R3,h3,n,t3,f3⟩=>⟨ds.length-(i+1),by (first|lia|omega),O,X,Y,e3,R3,rfl,by (first|lia|omega),h3,n,t3,f3⟩,fun x E hy=>?_⟩
   obtain⟨s,n,sub3,tx⟩:=q2 x E hy
   have stx:Stp h.S h.Hf h.H (Wo.S ⟨s,E,h.fps⟩) s E:=⟨n.fz,fun a o e _=>n.kp a o e fun z=>z,fun a o e mu _ q=>n.nf a o e mu (fun z=>z) q,fun a z=>.inl z⟩
   rw[Wm lt]at l;unfold Dt at l
   refine hg C ⟨s,E,h.fps⟩ D A (.o (.im ds[i])) x [] _ (n.rep R2 sub3) ⟨⟨rfl,tx⟩,fun a z=>nomatch z⟩ ?_
   cases eg:g (.o (.im ds[i])) D with
   | bad=>rw[eg]at l;exact l.elim
   | ok u X =>
    rw[eg]at l
    have l:B ((ft X).bind fun b c=>if b=true then (fe c).bind fun p c=>(frz (nrm p) c).bind fun y c=>Dt g ft fe (ds.drop (i+1)) (f++[y]) c else Dt g ft fe (ds.drop (i+1)) f c):=l
    intro σ3 O G R4
    have G:=G.up (S2:=h.S) fun a z=>by
     rcases z with z | z
     ·exact z
     ·cases z
    refine ht C O X σ3 _ R4 ?_
    cases et:ft X with
    | bad=>rw[et]at l;exact l.elim
    | ok b c4 =>
     rw[et]at l;intro T st5 R5;have M:Stp F.S F.Hf F.H T.S T.Hf T.H:=N.trans (stx.trans (G.trans st5));have Z:TrL T.Hf f S:=TrL.same (stx.trans (G.trans st5)).fz ta
     cases b with
     | false=>rw[if_neg (by decide)];exact⟨T,c4,f,rfl,R5,by (first|lia|omega),M,Z,l⟩
     | true =>
      rw[if_pos rfl]
      have l:B ((fe c4).bind fun p c=>(frz (nrm p) c).bind fun y c=>Dt g ft fe (ds.drop (i+1)) (f++[y]) c):=l
      refine he.toV C T c4 σ3 _ R5 ?_
      cases ee:fe c4 with
      | bad=>rw[ee]at l;exact l.elim
      | ok p c5 =>
       rw[ee]at l
       have l:B ((frz (nrm p) c5).bind fun y c=>Dt g ft fe (ds.drop (i+1)) (f++[y]) c):=l
       intro y W5 st6 R6 r6
       have fz:(frz (nrm p) c5).sat fun _ _=>True:=by
        cases ef:frz (nrm p) c5 with
        | bad=>rw[ef]at l;exact l.elim
        | ok d c=>trivial
       obtain⟨d,c6,W6,e6,_,eH,st7,R7,t7⟩:=Jd R6 r6 fz;rw[e6]at l
       refine⟨W6,c6,f++[d],eH,R7,by rw[bD,cN];(first|lia|omega),M.trans (st6.trans st7),(TrL.same (st6.trans st7).fz Z).app (TrL.one t7),l⟩
  ·have e:i=ds.length:=by (first|lia|omega)
   subst e;rw[List.drop_length]at l
   refine .inl ⟨P rfl,fun p hp=>?_⟩
   have l:match Gn D (pairsOf 0 idx) c1 with
    | none=>False
    | some c=>∀v j w,Stp W.S W.Hf W.H (orS _ _) _ _->Rep K _ j c _->Ea K _ _ _ v _->Q v _:=l
   cases eb:Gn D (pairsOf 0 idx) c1 with
   | none=>simp only[eb]at l
   | some cO =>
    simp only[eb]at l
    obtain⟨O,e1,e2,R3,n,_⟩:=L.back (fp:=[]) R1 R2 (N.less fun a z=>by
     rcases z with z | z
     ·exact z
     ·cases z) eb (fun k i b ds v hm _ hv=>by
      have:=(Ff hm).2;rw[cQ]at this
      rw[At8 this hv];rfl) fun a z=>nomatch z
    have n:Stp W1.S W1.Hf W1.H O.S O.Hf O.H:=by
     rw[e1,e2];exact n.less fun a z=>.inl z
    rw[<- e2]at hp ⊢
    exact New.lst (New.of R3 fun v j w st R' rp=>l v _ _ (st1.trans (n.trans st)) R' rp) R3.sub (by rw[e1];exact ta) hp
 ·rw[if_neg hl]at s1;exact s1.elim
theorem Q3          (d:((pairsOf 0 idx).map (·.2)).Nodup) (hi:MI K f fi) (hg:MG K t g) (ht:MT K h ft) (he:ME K j fe) :
 ME K (tLC idx f t h j) (cLC idx fi g ft fe):=by
 intro n W c o Q R s
 refine hi _ W c _ _ R (s.bnd.mono fun q p l J u a k m=>?_)
 exact Bc0 d hg ht he a k (fun i r e b=>m i _ _ e.fz b) l
end
inductive FR where
 | ret (o:O) (as:List O)
 | bad
abbrev m7:=List O->FR
def resolve (p:PV)(c:Ev):Option (O×Ev):=match p with
 | .o (.ls _ ds)=>some (.ls false ds,c)
 | .o o=>some (o,c)
 | .sl i=>match c[i]? with
  | some (some (.ls false ds))=>some (.ls false ds,c.set i none)
  | some (some (.im d))=>some (.im d,c)
  | _=>none
def G6:List O->Ev->Option (List O)
 | [],_=>some []
 | .ls true _::r,some (.ls true ds)::c=>(G6 r c).map (.ls true ds::·)
 | .ls _ _::_,_=>none
 | o::r,_::c=>(G6 r c).map (o::·)
 | _::_,[]=>none
def A0r (as:List O)(p:PV)(c:Ev):FR:=match resolve p c with
 | none=>.bad
 | some (o,c)=>match G6 as c with
  | none=>.bad
  | some as'=>.ret o as'
def Fe (n N:Nat)(body:Ev->SR):m7:=fun as=>if as.length=n then match body (as.map some++List.replicate (N-n) none) with
 | .nx c=>A0r as (.o (.im .none)) c
 | .rt p c=>A0r as p c
 | _=>.bad
 else .bad
def spP (K:v9)(F:m7):Sp:=fun vs H Q _=>∃(β:Nat->V) (W:Wo) (as:List O),W.H=H/\as.length=vs.length/\Rep K β W (as.map some) (vs.map some)/\match F as with
 | .bad=>False
 | .ret o as'=>∀v W' fp,Stp W.S W.Hf W.H (orS W'.S fp) W'.Hf W'.H->Rep K β W' (as'.map some) (vs.map some)->RepO K W'.Hf W'.H o v fp->(∀a∈fp,¬ W'.S a)->Q v W'.H
section
variable {K:v9}{β β':Nat->V}{W W':Wo}{c c' cI cI' cO:Ev}{σ σ' σI σI':St}{D:Ends}{Hf H:Hp}{o:O}{v:V}{fp:v6}
theorem Ov:∀{as:List O}{c:Ev}{as':List O},G6 as c=some as'->as'.length=as.length/\∀(i:Nat) (o':O),as'[i]?=some o'->(o'.own=false/\as[i]?=some o')\/(∃ds ds',o'=.ls true ds'/\as[i]?=some (.ls true ds)/\c[i]?=some (some (.ls true ds')))
 | [],c,as',e=>by cases (show some []=some as' from e);exact⟨rfl,fun i o' h=>by simp at h⟩
 | o::r,[],as',e=>by
  cases o with
  | ls b ds=>cases b <;> cases e
  | im d=>cases e
  | sc d=>cases e
  | ty d=>cases e
 | o::r,x::c,as',e=>by
  have go:∀o1:O,(G6 r c).map (o1::·)=some as'->((o1.own=false/\o1=o)\/(∃ds ds',o1=.ls true ds'/\o=.ls true ds/\x=some (.ls true ds'))) ->
   as'.length=(o::r).length/\∀(i:Nat) (o':O),as'[i]?=some o'->(o'.own=false/\(o::r)[i]?=some o')\/(∃ds ds',o'=.ls true ds'/\(o::r)[i]?=some (.ls true ds)/\(x::c)[i]?=some (some (.ls true ds'))):=fun o1 e1 h1=>by
   obtain⟨t,e2,rfl⟩:=aH.mp e1;obtain⟨l,g⟩:=Ov e2
   refine⟨by rw[aG,aG,l],fun i o' h=>?_⟩
   cases i with
   | zero =>
    cases (show some o1=some o' from h)
    rcases h1 with ⟨z1,z2⟩ | ⟨ds,ds',z1,z2,z3⟩
    ·exact .inl ⟨z1,by rw[z2];rfl⟩
    ·exact .inr ⟨ds,ds',z1,by rw[z2];rfl,by rw[z3];rfl⟩
   | succ i=>exact g i o' (by simpa using h)
  cases o with
  | ls b ds =>
   cases b with
   | false=>cases e
   | true =>
    match x,e with
    | some (.ls true ds'),e=>exact go (.ls true ds') e (.inr ⟨ds,ds',rfl,rfl,rfl⟩)
    | some (.ls false ds'),e=>cases e
    | some (.im _),e=>cases e
    | some (.sc _),e=>cases e
    | some (.ty _),e=>cases e
    | none,e=>cases e
  | im d=>exact go (.im d) e (.inl ⟨rfl,rfl⟩)
  | sc d=>exact go (.sc d) e (.inl ⟨rfl,rfl⟩)
  | ty d=>exact go (.ty d) e (.inl ⟨rfl,rfl⟩)
theorem Us   (R:Rep K β W c σ) (r:Ea K W σ p v fp) (e:resolve p c=some (o,c')) :
 ∃W2 fp2,W2.Hf=W.Hf/\W2.H=W.H/\Rep K β W2 c' σ/\RepO K W2.Hf W2.H o v fp2/\(∀a∈fp2,¬ W2.S a)/\∀a,orS W2.S fp2 a->orS W.S fp a:=by
 cases p with
 | o f =>
  have g:o=f.flag false/\c'=c:=by
   cases f with
   | ls b h=>cases e;exact⟨rfl,rfl⟩
   | im d=>cases e;exact⟨rfl,rfl⟩
   | sc d=>cases e;exact⟨rfl,rfl⟩
   | ty d=>cases e;exact⟨rfl,rfl⟩
  obtain⟨rfl,rfl⟩:=g
  refine⟨W,fp,rfl,rfl,R,?_,r.2,fun a z=>z⟩
  cases f with
  | ls b h=>exact r.1
  | im d=>exact r.1
  | sc d=>exact r.1
  | ty d=>exact r.1
 | sl i =>
  obtain⟨rfl,n⟩:=r;unfold resolve at e
  cases ec:c[i]? with
  | none=>simp_all
  | some x =>
   cases x with
   | none=>grind
   | some f =>
    obtain⟨v',g,k,_⟩:=R.get i _ ec
    cases (show some _=some _ from g.symm.trans n)
    cases f with
    | sc d=>simp_all
    | ty d=>simp_all
    | im d =>
     simp only[ec]at e
     cases e
     exact⟨W,[],rfl,rfl,R,⟨rfl,k.2⟩,(fun a z=>by cases z),fun a z=>z⟩
    | ls b h =>
     cases b with
     | true=>simp_all
     | false =>
      simp only[ec]at e
      cases e
      refine⟨⟨W.Hf,W.H,clr _ i⟩,W.fps i,rfl,rfl,R.drop i,k,fun a q ⟨j,m⟩=>?_,fun a z=>?_⟩
      ·obtain⟨s,l⟩:=Gg m
       exact l (R.dis j i a s q)
      ·rcases z with z | z
       ·exact .inl (B0i z)
       ·exact .inl ⟨i,z⟩
theorem Fp {b a:Type}{l:List b}{f:b->a}{i:Nat}{y:a}(h:(l.map f)[i]?=some y):∃x,l[i]?=some x/\f x=y:=by
 grind
theorem A4q  {vs:l_}  (t:Rep K β z (p.map some) (vs.map some)) (R:Rep K β W c σ) (S:Same z.Hf W.Hf) (e:G6 p c=some k) :
 ∃W2:Wo,W2.Hf=W.Hf/\W2.H=W.H/\Rep K β W2 (k.map some) (vs.map some)/\∀a,W2.S a->W.S a:=by
 obtain⟨E,G⟩:=Ov e
 let f:Nat->v6:=fun i=>if Ha ((k.map some)[i]?) then W.fps i else []
 have g:∀i a,a∈f i->a∈W.fps i:=fun i a h=>by
  grind
 have m:p.length=vs.length:=by have:=t.len;rwa [ao,ao]at this
 refine⟨⟨W.Hf,W.H,f⟩,rfl,rfl,⟨R.sub,by rw[ao,ao,E,m],fun i o h=>?_,fun i j a u w=>R.dis i j a (g i a u) (g j a w),fun i a h=>R.own i a (g i a h)⟩,fun a ⟨i,h⟩=>⟨i,g i a h⟩⟩
 obtain⟨o',u,w⟩:=Fp h
 cases w
 rcases G i o u with ⟨n,q⟩ | ⟨A,C,rfl,J,D⟩
 ·obtain⟨v,s,r,_⟩:=t.get i o (by rw[bT,q];rfl)
  have x:f i=[]:=by
   show (if Ha _ then W.fps i else [])=[]
   rw[h]
   cases o with
   | ls b A=>exact nomatch n
   | im d=>rfl
   | sc d=>rfl
   | ty d=>rfl
  refine⟨v,s,?_,?_⟩
  ·show RepO K W.Hf W.H o v (f i)
   rw[x]
   cases o with
   | ls b A=>exact nomatch n
   | im d=>exact⟨rfl,RepN.same S r.2⟩
   | sc d=>exact⟨rfl,RepN.same S r.2⟩
   | ty d=>exact⟨rfl,RepN.same S r.2⟩
  grind
 ·obtain⟨v,s,r,B⟩:=t.get i _ (by rw[bT,J];rfl)
  obtain⟨H,F,I,y⟩:=R.get i _ D;have l:=y rfl;rw[<- (B rfl)]at l;subst l
  refine⟨H,s,?_,B⟩
  have x:f i=W.fps i:=by
   show (if Ha _ then W.fps i else [])=_
   rw[h];rfl
  show RepO K _ _ _ _ (f i)
  rw[x];exact I
theorem Dg        (h:MS K T body) (hs:spP K (Fe n N.length body) vs H Q E):T { nx:=fun _ H'=>Q .non H',rt:=Q } (start N vs) H:=by
 obtain⟨u,W,j,rfl,B,m,b⟩:=hs;unfold Fe at b
 by_cases hn:j.length=n
 ·rw[if_pos hn]at b
  let D:Ev:=j.map some++List.replicate (N.length-n) none
  have R:Rep K u W D (start N vs):=by
   refine⟨m.sub,?_,fun i o e=>?_,m.dis,m.own⟩
   ·show (j.map some++List.replicate (N.length-n) none).length=(vs.map some++List.replicate (N.length-vs.length) none).length
    rw[bD,bD,ao,ao,eQ,eQ,<- B,hn]
   ·have e:(j.map some++List.replicate (N.length-n) none)[i]?=some (some o):=e
    by_cases li:i<j.length
    ·rw[cD (by rw[ao];exact li)]at e
     obtain⟨v,w,r⟩:=m.get i o e
     refine⟨v,?_,r⟩
     show (vs.map some++List.replicate (N.length-vs.length) none)[i]?=_
     rw[cD (by rw[ao,<- B];exact li)];exact w
    ·rw[dG (by rw[ao];exact fH li),List.getElem?_replicate]at e
     split at e <;> cases e
  refine h u W D (start N vs) _ R ?_
  have l:∀p f c v d g,(match A0r j p f with
   | .bad=>False
   | .ret o t=>∀v W' g,Stp W.S W.Hf W.H (orS W'.S g) W'.Hf W'.H->Rep K u W' (t.map some) (vs.map some)->RepO K W'.Hf W'.H o v g->(∀a∈g,¬ W'.S a)->Q v W'.H) ->
   Stp W.S W.Hf W.H (orS d.S g) d.Hf d.H->Rep K u d f c->Ea K d c p v g->Q v d.H:=fun p f c v d g b k s x=>by
   unfold A0r at b
   cases er:resolve p f with
   | none=>simp only[er]at b
   | some q =>
    obtain⟨o,U⟩:=q;simp only[er]at b
    cases ea:G6 j U with
    | none=>simp only[ea]at b
    | some t =>
     simp only[ea]at b;obtain⟨W2,S,w,C,I,J,L,M⟩:=Us s x er
     obtain⟨O,A,y,P,F⟩:=A4q m I (by rw[w];exact k.fz) ea
     rw[show d.H=O.H by rw[y,C]]
     refine b v _ _ ?_ P (by rw[A,y];exact J) fun a G z=>L a G (F a z)
     rw[A,y,w,C]
     exact k.less fun a z=>M a (by
      rcases z with z | z
      ·exact .inl (F a z)
      ·exact .inr z)
  cases eb:body _ with
  | nx f =>
   rw[show body _=.nx _ from eb]at b
   exact fun c d k s=>l _ _ _ _ _ _ b (k.less fun a z=>by
    rcases z with z | z
    ·exact z
    ·cases z) s ⟨⟨rfl,rfl⟩,fun a z=>nomatch z⟩
  | rt p f =>
   rw[show body _=.rt p _ from eb]at b
   exact fun c v d g k s x=>l p _ _ v _ _ b k s x
  | bk f=>rw[show body _=.bk _ from eb]at b;exact b.elim
  | ct f=>rw[show body _=.ct _ from eb]at b;exact b.elim
  | bad=>rw[show body _=.bad from eb]at b;exact b.elim
 ·rw[if_neg hn]at b;exact b.elim
theorem Dh       (hs:spP K (Fe n N body) vs H Q E):vs.length=n:=by
 obtain⟨d,W,c,b,e,f,a⟩:=hs;unfold Fe at a
 grind
def Oq (c:Ev):List PV->Option (List O)
 | []=>some []
 | .o o::r=>(Oq c r).map (o::·)
 | .sl i::r=>match c[i]? with
  | some (some o)=>(Oq c r).map (o.flag true::·)
  | _=>none
def slots:List PV->o5
 | []=>[]
 | .o _::r=>none::slots r
 | .sl i::r=>some i::slots r
def ndB:List Nat->Bool
 | []=>true
 | x::r=>!r.contains x&&ndB r
theorem A6r:∀{l:List Nat},ndB l=true->l.Nodup
 | [],_=>dF
 | x::r,h=>by
  obtain⟨h1,h2⟩:=aq.mp (show (!r.contains x&&ndB r)=true from h)
  rw[bJ]
  exact⟨fun z=>by simp[z]at h1,A6r h2⟩
def Lp (F:m7)(ps:List PV)(c:Ev):R PV:=match Oq c ps with
 | none=>.bad
 | some as=>if ndB ((pairsOf 0 (slots ps)).map (·.2))=true then match F as with
  | .bad=>.bad
  | .ret o as'=>match Gn (as'.map some) (pairsOf 0 (slots ps)) c with
   | none=>.bad
   | some c=>.ok (.o o) c
  else .bad
def cF (F:m7)(fa:n7):m6:=fun c=>(fa c).bind fun ps c=>Lp F ps c
theorem Ud {Hf:Hp}:∀{ps:List PV}{vs:l_}{as:List O},Oq c ps=some as->zF K Hf σ ps vs->as.length=vs.length/\∀(k:Nat) (o:O),as[k]?=some o->∃v,vs[k]?=some v /\
 ((RepN K Hf o v/\(slots ps)[k]?=some none)\/∃i o',(slots ps)[k]?=some (some i)/\c[i]?=some (some o')/\o=o'.flag true/\σ[i]?=some (some v))
 | [],vs,as,e,h=>by cases (show some []=some as from e);cases (show vs=[] from h);exact⟨rfl,fun k o h=>by simp at h⟩
 | .o o1::r,_,as,e,⟨v,vr,rfl,h,t⟩=>by
  obtain⟨l,e2,rfl⟩:=aH.mp (show (Oq c r).map (o1::·)=some as from e)
  obtain⟨hl,hg⟩:=Ud e2 t
  refine⟨by rw[aG,aG,hl],fun k o hk=>?_⟩
  cases k with
  | zero=>cases (show some o1=some o from hk);exact⟨v,rfl,.inl ⟨h,rfl⟩⟩
  | succ k=>exact hg k o (by simpa using hk)
 | .sl i::r,_,as,e,⟨v,vr,rfl,h,t⟩=>by
  unfold Oq at e
  cases ec:c[i]? with
  | none=>simp only[ec]at e;cases e
  | some x =>
   cases x with
   | none=>simp only[ec]at e;cases e
   | some o1 =>
    simp only[ec]at e;obtain⟨l,e2,rfl⟩:=aH.mp e;obtain⟨hl,hg⟩:=Ud e2 t
    refine⟨by rw[aG,aG,hl],fun k o hk=>?_⟩
    cases k with
    | zero=>cases (show some (o1.flag true)=some o from hk);exact⟨v,rfl,.inr ⟨i,o1,rfl,ec,rfl,h⟩⟩
    | succ k=>exact hg k o (by simpa using hk)
theorem Qj {Hf:Hp}:∀{ps:List PV}{vs:l_}{k i:Nat}{v:V},zF K Hf σ ps vs->(slots ps)[k]?=some (some i)->σ[i]?=some (some v)->vs[k]?=some v
 | [],vs,k,i,v,h,e,q=>by simp[slots]at e
 | .o _::r,_,k,i,v,⟨v1,vr,rfl,h,t⟩,e,q=>by
  cases k with
  | zero=>simp[slots]at e
  | succ k=>have:=Qj (k:=k) t (by simpa[slots] using e) q;simpa using this
 | .sl j::r,_,k,i,v,⟨v1,vr,rfl,h,t⟩,e,q=>by
  cases k with
  | zero =>
   have:j=i:=by simpa[slots] using e
   subst this
   cases (show some (some v1)=some (some v) from (show σ[j]?=some (some v1) from h).symm.trans q)
   rfl
  | succ k=>have:=Qj (k:=k) t (by simpa[slots] using e) q;simpa using this
theorem Am3        (g:Rep K β W1 c1 σ) (R:zF K W1.Hf σ ps vs)
 (s1:(Lp F ps c1).sat fun p c'=>∀v e y,Stp W1.S W1.Hf W1.H (orS e.S y) e.Hf e.H->Rep K β e c' σ->Ea K e σ p v y->(∀j a,a∈W1.fps j->some j∉slots ps->e.H a=W1.H a)->Q v e.H):spP K F (vs++[]) W1.H Q E:=by
 unfold Lp at s1
 cases ea:Oq c1 ps with
 | none=>simp only[ea]at s1;exact s1.elim
 | some M =>
  simp only[ea]at s1
  by_cases nd:ndB ((pairsOf 0 (slots ps)).map (·.2))=true
  ·rw[if_pos nd]at s1
   obtain⟨P,hg⟩:=Ud ea R
   let m:=pairsOf 0 (slots ps)
   let l:Nat->V:=fun k=>(vs[k]?).getD .non
   have L:Lent K W1.Hf m c1 σ l (M.map some) (vs.map some):=by
    refine⟨Oc,A6r nd,by rw[ao,ao];exact P,fun k o B=>?_⟩
    obtain⟨o1,T,h2⟩:=Fp B
    cases h2
    obtain⟨v,u,q⟩:=hg k o T
    have c:(vs.map some)[k]?=some (some v):=by rw[bT,u];rfl
    rcases q with ⟨I,t⟩ | ⟨i,H,t,n,rfl,G⟩
    ·refine .inl ⟨?_,fun i Z=>?_,v,c,I⟩
     ·cases o with
      | ls b D=>exact I.elim
      | im d=>rfl
      | sc d=>rfl
      | ty d=>rfl
     ·have:=(Ff Z).2
      rw[cQ,t]at this;cases this
    ·have f:Ha c1[i]?=false->∀j,(k,j)∈m->Ha c1[j]?=false:=fun q j z=>by
      have:=(Ff z).2;rw[cQ,t]at this;cases this;exact q
     obtain⟨v',w,r,_⟩:=g.get i H n
     cases (show some _=some _ from w.symm.trans G)
     cases H with
     | im d=>exact .inl ⟨rfl,f (by rw[n];rfl),v,c,r.2⟩
     | sc d=>exact .inl ⟨rfl,f (by rw[n];rfl),v,c,r.2⟩
     | ty d=>exact .inl ⟨rfl,f (by rw[n];rfl),v,c,r.2⟩
     | ls b D=>exact .inr ⟨i,b,D,v,Mh  t,n,rfl,G,c,by show vs[k]?.getD _=v;rw[u];rfl⟩
   refine⟨l,⟨W1.Hf,W1.H,Rm m _ _⟩,M,rfl,by rw[bQ];exact P,by rw[bQ];exact(L.rep g),?_⟩
   cases ef:F _ with
   | bad=>simp only[ef]at s1;exact s1.elim
   | ret o A =>
    simp only[ef]at s1;intro v e y J U W X
    cases eb:Gn (A.map some) m c1 with
    | none=>simp only[m]at eb;simp only[eb]at s1;exact s1.elim
    | some cO =>
     have h:=eb;simp only[m]at h;simp only[h]at s1
     obtain⟨W2,w,x,R2,C,Y⟩:=L.back g U J eb (fun k i b D v hm hc u=>by
      have:=(Ff hm).2;rw[cQ]at this
      show vs[k]?.getD _=v
      rw[Qj R this u];rfl) X
     rw[<- x]
     refine s1 v _ _ (by rw[w,x];exact C) R2 ⟨by rw[w,x];exact W,Y⟩ fun j a N z=>?_
     obtain⟨_,ob,s,_⟩:=g.own j a N;rw[x,s]
     refine J.kp a _ s fun⟨k,B⟩=>z ?_
     obtain⟨i,q1,_,S⟩:=Gj B
     cases g.dis i j a S N
     have:=(Ff q1).2;exact bA this
  ·rw[if_neg nd]at s1;exact s1.elim
theorem Lz        (d:Rep K β W1 c1 σ) (e:zF K W1.Hf σ ps vs)
 (s1:(Lp F ps c1).sat fun p c'=>∀v a b,Stp W1.S W1.Hf W1.H (orS a.S b) a.Hf a.H->Rep K β a c' σ->Ea K a σ p v b->Q v a.H):spP K F (vs++[]) W1.H Q E :=
 Am3 d e (s1.mono fun p c' k v a b c R r _=>k v _ _ c R r)
theorem Ax     (ha:MA K t fa):ME K (Qx (spP K F) [] E t) (cF F fa):=by
 intro j W c h Q R s
 refine ha _ W c _ _ R (s.bnd.mono fun l m f u i a e d=>?_)
 exact Lz e d (f.mono fun p n k v o q g b r=>k v _ _ (a.trans g) b r)
theorem zF.ext {Hf:Hp}{x:Option V}:∀{ps:List PV}{vs:l_},zF K Hf σ ps vs->zF K Hf (σ++[x]) ps vs
 | [],vs,h=>h
 | .o _::r,_,⟨v,vr,e,h,t⟩=>⟨v,vr,e,h,zF.ext t⟩
 | .sl i::r,_,⟨v,vr,e,h,t⟩=>⟨v,vr,e,by
  have h:σ[i]?=some (some v):=h
  have:i<σ.length:=by
   rcases aW i σ.length with q | q
   ·exact q
   ·rw[cR q]at h;cases h
  show (σ++[x])[i]?=_
  rw[cD this];exact h,zF.ext t⟩
def cFO (F:m7)(fa:m6)(fr:n7):m6:=fun c=>(fa c).bind fun p c=>(fr c).bind fun ps c=>match p with
 | .o (.ls _ ds)=>(Lp F (.sl c.length::ps) (c++[some (.ls false ds)])).bind fun r c'=>match r with
  | .o o=>.ok (.o o) c'.dropLast
  | .sl _=>.bad
 | _=>.bad
theorem A7f {F:m7}{E:XK}{ta:TE}{t:TA}{fa:m6}{fr:n7}(ha:ME K ta fa)(hr:MA K t fr):ME K (Qx (spP K F) [] E (Ca ta t)) (cFO F fa fr):=by
 intro T W c g Q R s
 refine ha T W c g _ R (s.bnd.mono fun p c1 s1 v1 W1 fp1 st1 R1 X=>?_)
 refine hr T W1 c1 g _ R1 (s1.bnd.mono fun ps n u vs m l y r2=>?_)
 match p,X,u with
 | .sl _,_,u=>exact u.elim
 | .o (.im _),_,u=>exact u.elim
 | .o (.sc _),_,u=>exact u.elim
 | .o (.ty _),_,u=>exact u.elim
 | .o (.ls b ds),X,u =>
  obtain⟨⟨a,us,rfl,rfl,hf,U,t⟩,D⟩:=X;have D:=D a (.head _);have G:=l.kp a _ U D;have L:=l.nf a _ U trivial D hf
  have B:¬ m.S a:=fun z=>by
   rcases l.fr a z with q | q
   ·exact D q
   ·rw[U]at q;cases q
  let H:Wo:=⟨m.Hf,m.H,fun j=>if j=n.length then [a] else m.fps j⟩
  have d:∀j x,x∈H.fps j->(j=n.length/\x=a)\/x∈m.fps j:=fun j x h=>by
   have h:x∈if j=n.length then [a] else m.fps j:=h
   split at h
   ·rename_i z;exact .inl ⟨z,aP.mp h⟩
   ·exact .inr h
  have R3:Rep K T H (n++[some (.ls false ds)]) (g++[some (.ref a)]):=by
   refine⟨y.sub,by rw[bD,bD,y.len];rfl,fun i o e=>?_,fun i j x Z P=>?_,fun i x h=>?_⟩
   ·by_cases z:i<n.length
    ·rw[cD z]at e
     obtain⟨v,N,r,Y⟩:=y.get i o e
     refine⟨v,by rw[cD (by rw[<- y.len];exact z)];exact N,?_,Y⟩
     show RepO K m.Hf m.H o v (if i=n.length then [a] else m.fps i)
     rw[if_neg (by (first|lia|omega))];exact r
    ·by_cases z2:i=n.length
     ·subst z2
      rw[dG (ak _),dD]at e
      cases e
      refine⟨.ref a,by rw[y.len,dG (ak _),dD];rfl,?_,fun z=>nomatch z⟩
      refine⟨a,us,rfl,?_,L,G,TrL.same l.fz t⟩
      show (if n.length=n.length then [a] else _)=_
      rw[if_pos rfl]
     ·rw[cR (by rw[bD,cN];(first|lia|omega))]at e;cases e
   ·rcases d i x Z with ⟨q1,C⟩ | q
    ·rcases d j x P with ⟨q3,q4⟩ | M
     ·(first|lia|omega)
     ·rw[C]at M;exact absurd ⟨j,M⟩ B
    ·rcases d j x P with ⟨q3,q4⟩ | M
     ·rw[q4]at q;exact absurd ⟨i,q⟩ B
     ·exact y.dis i j x q M
   ·rcases d i x h with ⟨q1,C⟩ | q
    ·rw[C];exact⟨L,_,G,trivial⟩
    ·exact y.own i x q
  have J:Stp W.S W.Hf W.H H.S m.Hf m.H:=by
   refine (st1.trans (Stp.more (F:=fun x=>x∈[a]) l)).less fun x ⟨i,z⟩=>?_
   rcases d i x z with ⟨q1,C⟩ | q
   ·exact .inr (by rw[C];exact .head _)
   ·exact .inl ⟨i,q⟩
  have r3:zF K H.Hf (g++[some (.ref a)]) (.sl n.length::ps) (.ref a::vs) :=
   ⟨.ref a,vs,rfl,by show (g++[some (V.ref a)])[n.length]?=_;rw[y.len,dG (ak _),dD];rfl,zF.ext r2⟩
  refine Lz (W1:=H) R3 r3 (u.bnd.mono fun p c' k v A fp st I r=>?_)
  match p,r,k with
  | .sl _,r,k=>exact k.elim
  | .o o,r,k =>
   have hl:c'.length=g.length+1:=by have:=I.len;rw[bD,cN]at this;exact this
   let S:Wo:=⟨A.Hf,A.H,fun j=>if j<g.length then A.fps j else []⟩
   have f:∀j x,x∈S.fps j->x∈A.fps j/\j<g.length:=fun j x h=>by
    have h:x∈if j<g.length then A.fps j else []:=h
    split at h
    ·rename_i z;exact⟨h,z⟩
    ·cases h
   have R4:Rep K T S c'.dropLast g:=by
    refine⟨I.sub,by rw[List.length_dropLast,hl];rfl,fun i o e=>?_,fun i j x Z P=>I.dis i j x (f i x Z).1 (f j x P).1,fun i x h=>I.own i x (f i x h).1⟩
    have z:i<g.length:=by
     rcases aW i g.length with q | q
     ·exact q
     ·rw[cR (by rw[List.length_dropLast,hl];exact q)]at e;cases e
    rw[List.getElem?_dropLast,if_pos (by (first|lia|omega))]at e
    obtain⟨v,N,r,Y⟩:=I.get i o e
    refine⟨v,by rw[cD z]at N;exact N,?_,Y⟩
    show RepO K _ _ o v (if i<g.length then A.fps i else [])
    rw[if_pos z];exact r
   have w:∀x,S.S x->A.S x:=fun x ⟨i,h⟩=>⟨i,(f i x h).1⟩
   refine k v S _ ((J.trans st).less fun x z=>?_) R4 ⟨r.1,fun x hx z=>r.2 x hx (w x z)⟩
   rcases z with z | z
   ·exact .inl (w x z)
   ·exact .inr z
end
def B3q (is:List Nat)(c:Ev):Ev:=is.foldl (fun c i=>c.set i none) c
section
variable {K:v9}{X:Cx}{Hf H:Hp}{Q:VK}
theorem OpR.or    (h:OpR X f r) (h':OpR X f b):OpR X f (fun x y H Q=>r x y H Q\/b x y H Q):=by
 intro c s e H x y v u Q I d a q
 rcases q with q | q
 ·exact h _ s _ H x y v u Q I d a q
 ·exact h' _ s _ H x y v u Q I d a q
theorem CallR.or    (h:CallR X f r) (h':CallR X f b):CallR X f (fun xs H Q=>r xs H Q\/b xs H Q):=by
 intro c s d H xs e Q I a q
 rcases q with q | q
 ·exact h _ s _ H _ _ Q I a q
 ·exact h' _ s _ H _ _ Q I a q
theorem Dv   (h:RdV Hf H (.int i) v):v=.int i:=h
theorem Hw   (h:RdV Hf H (.str x) v):v=.str x:=h
theorem Ot   (h:RdV Hf H (.bool b) v):v=.bl b:=h
theorem Ox  (h:RdV Hf H .none v):v=.non:=h
theorem Gm   (s:Same Hf H) (h:RdV Hf H (.tuple ds) v):∃a b,v=.ref a/\H a=some (.tup b)/\TrL Hf ds b:=by
 obtain⟨a,b,e,q,t⟩:=(show Tr _ _ v from h)
 exact⟨a,b,e,s _ _ q,t⟩
theorem Ep   (h:RdV Hf H (.list ds) v):∃a vs,v=.ref a/\H a=some (.lst vs)/\TrL Hf ds vs:=h
theorem New.int  (h:New K Hf H (.im (.int i)) Q) (s:Same Hf H):Q (.int i) H:=h.same s rfl
theorem New.bl  (h:New K Hf H (.im (.bool b)) Q) (s:Same Hf H):Q (.bl b) H:=h.same s rfl
theorem New.str  (h:New K Hf H (.im (.str x)) Q) (s:Same Hf H):Q (.str x) H:=h.same s rfl
theorem New.tupS   (h:New K Hf H (.im (.tuple ds)) Q) (s:Same Hf H) (t:TrL Hf ds vs)   (S:Same H H') (hp:H' p=some (.tup vs)):Q (.ref p) H':=by
 have c:Same _ (upd Hf p (.tup vs)):=fun b u e=>by
  unfold upd
  split
  ·have:=S b u (s b u e)
   simp_all
  grind
 refine h _ _ _ [] ⟨c,fun a o e _=>S a o e,fun a o e d _ q=>?_,fun a z=>nomatch z⟩ (fun b u e=>?_) ⟨rfl,p,vs,rfl,Bg,TrL.same c t⟩
 ·unfold upd
  split
  ·rename_i z
   have:=S a o e;rw[z,hp]at this
   cases this
   trivial
  (first|lia|omega)
 ·unfold upd at e
  split at e
  ·simp_all
  ·exact S b u (s b u e)
def Bp8:R2:=fun x y H Q=>(rI0 (fun i j=>.int (i+j)) x y H Q\/(∃i j,x=.str i/\y=.str j/\i.length+j.length<=sizeLine/\Q (.str (i++j)) H))\/(B2g x y H Q\/Bm7 x y H Q)
theorem Bp4:OpR X (binaryOp .Add) Bp8:=OpR.or (OpR.or Bo3 Aj1) (OpR.or Bx0 Bg5)
def Cj:t_->t_->m_
 | .int i,.int j=>some (.im (.int (i+j)))
 | .str a,.str b=>if a.length+b.length<=16000000 then some (.im (.str (a++b))) else none
 | .list a,.list b=>if a.length+b.length<=16000000 then some (.ls false (a++b)) else none
 | .tuple a,.tuple b=>if a.length+b.length<=16000000 then some (.im (.tuple (a++b))) else none
 | _,_=>none
theorem lim  (h:n<=16000000):n<=sizeLine:=aj h (by decide)
theorem Cq:OpS K Bp8 Cj:=by
 intro C H x y A B o Q s g f e n;unfold Cj at e
 split at e
 ·rename_i i j
  cases e
  exact .inl (.inl ⟨i,j,Dv g,Dv f,n.int s⟩)
 ·rename_i a b
  split at e
  ·rename_i l
   cases e
   exact .inl (.inr ⟨a,b,Hw g,Hw f,lim l,n.str s⟩)
  ·cases e
 ·have e  := e
  split at e
  ·rename_i l
   cases e
   obtain⟨p,v,k,h,d⟩:=Ep g;obtain⟨q,t,u,m,c⟩:=Ep f
   exact .inr (.inl ⟨p,q,v,t,k,u,h,m,by rw[<- d.length,<- c.length];exact lim l,fun r w=>n.lst s (d.app c) w⟩)
  ·cases e
 ·have e  := e
  split at e
  ·rename_i l
   cases e
   obtain⟨p,v,k,h,d⟩:=Gm s g;obtain⟨q,t,u,m,c⟩:=Gm s f
   exact .inr (.inr ⟨p,q,v,t,k,u,h,m,by rw[<- d.length,<- c.length];exact lim l,fun r z S w=>n.tupS s (d.app c) S w⟩)
  ·cases e
 ·cases e
def opI (C:Int->Int->Bool)(g:Int->Int->Int):t_->t_->m_
 | .int i,.int j=>if C i j then some (.im (.int (g i j))) else none
 | _,_=>none
theorem Ar0    (hc:∀i j,C i j=true->a i j):OpS K (rI a fun i j=>.int (g i j)) (opI C g):=by
 intro d H x y h f o Q s c b e n;unfold opI at e
 split at e
 ·rename_i i j
  split at e
  ·rename_i l
   cases e
   exact⟨i,j,Dv c,Dv b,hc i j l,n.int s⟩
  trivial
 grind
def Vv (g:Int->Int->t_):t_->t_->m_
 | .int i,.int j=>some (.im (g i j))
 | _,_=>none
theorem Yp   (hg:∀i j H,Tr H (g i j) (g' i j)):OpS K (rI0 g') (Vv g):=by
 intro c H x y f d o Q s a b e n;unfold Vv at e
 split at e
 ·rename_i i j
  cases e
  exact⟨i,j,Dv a,Dv b,n.same s (hg i j _)⟩
 trivial
def Ui (i j:Int):Bool:=(decide (-(2 ^ 64)<i)&&decide (i<2 ^ 64))||(decide (-(2 ^ 64)<j)&&decide (j<2 ^ 64))
def By (d:t_):Bool:=d.canLay0&&decide (d.depth<=40)
theorem Ge  (h:By d=true):Flat d:=by
 obtain⟨b,a⟩:=aq.mp h;exact⟨b,aL a⟩
def Ru:t_->t_->Bool
 | .str _,.str _=>true
 | _,_=>false
def Cp (neg:Bool)(a b:t_):m_:=if (By a&&By b)||Ru a b then some (.im (.bool (if neg then !PyData.eqv a b else PyData.eqv a b))) else none
def rEQ:R2:=fun x y H Q=>B3y x y H Q\/rEq x y H Q
def rNE:R2:=fun x y H Q=>B3t x y H Q\/rNe x y H Q
theorem Bm3 (hu:X.A.units+64<cLine):OpR X (compareOp .Eq) rEQ:=OpR.or (Bw4 hu) B1e
theorem B1k (hu:X.A.units+64<cLine):OpR X (compareOp .NotEq) rNE:=OpR.or (Bx6 hu) B0z
theorem Uu (x y:Str):PyData.eqv (.str x) (.str y)=decide (V.str x=V.str y):=by
 show (x==y)=_
 grind
theorem Eu:OpS K rEQ (Cp false):=by
 intro h H x y f d o Q s b a e n;unfold Cp at e
 split at e
 ·rename_i l
  cases e
  rcases fW.mp l with l | l
  ·obtain⟨g,c⟩:=aq.mp l
   exact .inl ⟨f,d,b.tr s,a.tr s,Ge g,Ge c,n.bl s⟩
  ·unfold Ru at l
   split at l
   ·cases Hw b
    cases Hw a
    refine .inr ⟨rfl,?_⟩
    rw[<- Uu];exact n.bl s
   grind
 grind
theorem Ur:OpS K rNE (Cp true):=by
 intro h H x y f d o Q s b a e n;unfold Cp at e
 split at e
 ·rename_i l
  cases e
  rcases fW.mp l with l | l
  ·obtain⟨g,c⟩:=aq.mp l
   exact .inl ⟨f,d,b.tr s,a.tr s,Ge g,Ge c,n.bl s⟩
  ·unfold Ru at l
   split at l
   ·cases Hw b
    cases Hw a
    refine .inr ⟨rfl,?_⟩
    rw[<- Uu];exact n.bl s
   grind
 grind
def Ez (neg:Bool)(a b:t_):m_:=match b with
 | .none=>some (.im (.bool (match a with
  | .none=>!neg
  | _=>neg)))
 | _=>none
theorem Aq7   (h:RdV Hf H d v):decide (v=.non)=(match d with | .none=>true | _=>false):=by
 cases d with
 | none=>cases Ox h;rfl
 | bool b=>cases Ot h;rfl
 | int i=>cases Dv h;rfl
 | str x=>cases Hw h;rfl
 | list c=>obtain⟨a,e,rfl,_⟩:=Ep h;rfl
 | tuple c=>obtain⟨a,e,rfl,_⟩:=(show Tr _ _ v from h);rfl
 | dict k=>trivial
theorem Ob:OpS K (fun x y H Q=>y=.non/\Q (.bl (decide (x=.non))) H) (Ez false):=by
 intro f H x y c b o Q s d a e n
 match b,a,e with
 | .none,a,e =>
  refine⟨Ox a,?_⟩
  rw[Aq7 d]
  cases e
  cases c <;> exact n.bl s
theorem A7u:OpS K (fun x y H Q=>y=.non/\Q (.bl (!decide (x=.non))) H) (Ez true):=by
 intro f H x y c b o Q s d a e n
 match b,a,e with
 | .none,a,e =>
  refine⟨Ox a,?_⟩
  rw[Aq7 d]
  cases e
  cases c <;> exact n.bl s
def Jo (neg:Bool):t_->t_->m_
 | d,.list ds=>if By d&&PyData.canLayAll0 ds then some (.im (.bool (if neg then !(ds.any fun e=>PyData.eqv e d) else ds.any fun e=>PyData.eqv e d))) else none
 | d,.tuple ds=>if By d&&PyData.canLayAll0 ds then some (.im (.bool (if neg then !(ds.any fun e=>PyData.eqv e d) else ds.any fun e=>PyData.eqv e d))) else none
 | .str i,.str j=>if neg then none else some (.im (.bool (!(Builtin.Str.occurrences j i 0 j.length 1).isEmpty)))
 | _,_=>none
theorem Hl:OpS K (Bu8 true) (Jo true):=by
 intro h H x y f i o Q s d g e n;unfold Jo at e
 split at e
 ·rename_i a
  have e  := e
  split at e
  ·rename_i l
   obtain⟨c,b⟩:=aq.mp l
   cases e
   exact⟨f,a,d.tr s,.inl (g.tr s),Ge c,b,n.bl s⟩
  simp_all
 ·rename_i a
  have e  := e
  split at e
  ·rename_i l
   obtain⟨c,b⟩:=aq.mp l
   cases e
   exact⟨f,a,d.tr s,.inr (g.tr s),Ge c,b,n.bl s⟩
  grind
 ·simp_all
 grind
theorem A2u     (t:TrL Hf ds vs) (h:atI ds i=some d):∃v,atI vs i=some v/\Tr Hf d v:=by
 unfold atI at h ⊢;rw[<- t.length];obtain⟨j,c,a⟩:=bh.mp h;obtain⟨v,e,b⟩:=t.got a
 grind
def cutD (ds:w5)(lo hi:p_):w5:=(ds.drop (HT.sIx ds.length 0 lo)).take (HT.sIx ds.length ds.length hi-HT.sIx ds.length 0 lo)
theorem TrL.drop':∀{ds:w5}{vs:l_}(n:Nat),TrL Hf ds vs->TrL Hf (ds.drop n) (vs.drop n)
 | ds,vs,0,h=>h
 | [],_,n+1,h=>by cases (show _=[] from h);exact rfl
 | d::ds,_,n+1,⟨v,r,rfl,_,t⟩=>TrL.drop' n t
theorem TrL.take':∀{ds:w5}{vs:l_}(n:Nat),TrL Hf ds vs->TrL Hf (ds.take n) (vs.take n)
 | ds,vs,0,h=>by rw[List.take_zero,List.take_zero];exact rfl
 | [],_,n+1,h=>by cases (show _=[] from h);exact rfl
 | d::ds,_,n+1,⟨v,r,rfl,q,t⟩=>⟨v,r.take n,rfl,q,TrL.take' n t⟩
theorem TrL.cut    (t:TrL Hf ds vs):TrL Hf (cutD ds lo hi) (A2f vs lo hi):=by
 unfold cutD A2f;rw[<- t.length];exact TrL.take' _ (TrL.drop' _ t)
theorem TrL.rev:∀{ds:w5}{vs:l_},TrL Hf ds vs->TrL Hf ds.reverse vs.reverse
 | [],_,h=>by cases (show _=[] from h);exact rfl
 | d::ds,_,⟨v,r,rfl,q,t⟩=>by
  rw[eO,eO];exact(TrL.rev t).app (TrL.one q)
end
section
variable {K:v9}{X:Cx}{Hf H:Hp}{Q:VK}{β:Nat->V}{W W':Wo}{c c':Ev}{σ:St}{v:V}
theorem Bt6   (h:A4v Hf H [d] xs):∃x,xs=[x]/\RdV Hf H d x:=by
 obtain⟨v,r,b,c,a⟩:=h
 cases (a)
 grind
def Ku:w5->m_
 | [.list ds]=>some (.im (.int ds.length))
 | [.tuple ds]=>some (.im (.int ds.length))
 | [.str z]=>if z.length<=16000000 then some (.im (.int z.length)) else none
 | _=>none
theorem A1w:B1h K (Rf K) Ku:=by
 intro Hf H xs ds o Q s d e n;unfold Ku at e
 split at e
 ·obtain⟨x,rfl,r⟩:=Bt6 d
  obtain⟨a,c,rfl,b,t⟩:=Ep r
  cases e
  refine⟨.ref a,c.length,rfl,Ba9 b,?_⟩
  rw[<- t.length];exact n.int s
 ·obtain⟨x,rfl,r⟩:=Bt6 d
  obtain⟨a,c,rfl,b,t⟩:=Gm s r
  cases e
  refine⟨.ref a,c.length,rfl,Bf9 b,?_⟩
  rw[<- t.length];exact n.int s
 ·rename_i z
  obtain⟨x,rfl,r⟩:=Bt6 d
  cases Hw r
  split at e
  ·rename_i l
   cases e
   refine⟨.str z,z.length,rfl,?_,n.int s⟩
   show (if z.length<=sizeLine then some _ else none)=_
   rw[if_pos (lim l)]
  trivial
 simp_all
def A9s (K:v9):l_->Hp->VK->Prop:=fun xs H Q=>Rf K xs H Q\/Ak7 K xs H Q
theorem A3a:CallR X (.builtin "len") (A9s X.K):=CallR.or A2c Ab5
def Ja (f:m6):m6:=fun c=>(f c).bind fun p c=>match nrm p with
 | .o (.sc ns)=>.ok (.o (.im (.int ns.length))) c
 | p=>match Dl c p with
  | some d=>match Ku [d] with
   | some o=>.ok (.o o) c
   | none=>.bad
  | none=>.bad
theorem Ka   (h:ME K t f):ME K (tCB (A9s K) (Ca t Fl)) (Ja f):=by
 intro A W c u Q R s
 refine h.toV A W c u _ R (s.bnd.mono fun p w e v r n k g=>?_)
 have m:∀q:PV,RepA K r.Hf u q v->((match Dl w q with
  | some d=>(match Ku [d] with
   | some o=>.ok (.o o) w
   | none=>.bad)
  | none=>.bad:U.R PV)).sat (fun p C=>∀v j l,Stp W.S W.Hf W.H (orS j.S l) j.Hf j.H->Rep K A j C u->Ea K j u p v l->Q v j.H)->A9s K [v] r.H Q:=fun q g e=>by
  cases ex:Dl w q with
  | none=>simp only[ex]at e;exact e.elim
  | some d =>
   simp only[ex]at e
   cases eo:Ku [d] with
   | none=>simp only[eo]at e;exact e.elim
   | some o =>
    simp only[eo]at e
    exact .inl (A1w r.Hf r.H [v] [d] o Q k.sub ⟨v,[],rfl,Eh k g ex,rfl⟩ eo (New.of k fun v j l z y x=>e v j l (n.trans z) y x))
 generalize nrm p=q at e g
 match q,g,e with
 | .o (.sc ns),g,e =>
  obtain⟨a,rfl,B⟩:=g;have e:∀v j l,Stp _ _ _ _ _ _->Rep K _ j _ _->Ea K _ _ _ v _->Q v _:=e
  refine .inr ⟨.ref a,ns.length,rfl,?_,(New.of k fun v j l z y x=>e v _ _ (n.trans z) y x).int k.sub⟩
  exact .inl ⟨ns.map _,Same.seq k.sub B,by simp_all⟩
 | .o (.im d),g,e=>exact m _ g e
 | .o (.ls b d),g,e=>trivial
 | .o (.ty T),g,e=>trivial
 | .sl i,g,e=>exact m _ g e
inductive Ty5 where
 | int | str | bool | list | tuple
def Ty5.nm:Ty5->String
 | .int => "int"
 | .str => "str"
 | .bool => "bool"
 | .list => "list"
 | .tuple => "tuple"
def Mw:Ty5->t_->Bool
 | .int,.int _=>true
 | .int,.bool _=>true
 | .str,.str _=>true
 | .bool,.bool _=>true
 | .list,.list _=>true
 | .tuple,.tuple _=>true
 | _,_=>false
def Aw3:t_->String
 | .none => "NoneType"
 | .bool _ => "bool"
 | .int _ => "int"
 | .str _ => "str"
 | .list _ => "list"
 | .tuple _ => "tuple"
 | .dict _ => "dict"
theorem As9   (s:Same Hf H) (h:RdV Hf H d v):M6 H v=some (Aw3 d):=by
 cases d with
 | none=>cases Ox h;rfl
 | bool b=>cases Ot h;rfl
 | int i=>cases Dv h;rfl
 | str x=>cases Hw h;rfl
 | list c=>obtain⟨a,f,rfl,e,_⟩:=Ep h;exact Bp1 e
 | tuple c=>obtain⟨a,f,rfl,e,_⟩:=Gm s h;exact By2 e
 | dict k=>trivial
theorem Am5   (h:RdV Hf H d v) (T:Ty5):Eg (Aw3 d) T.nm=some (Mw T d):=by
 cases d with
 | none=>cases T <;> first | exact Rk | exact Ro | exact Qk | exact Qd | exact Pa
 | bool b=>cases T <;> first | exact Aa3 | exact Ag2 | exact Zn | exact Zk | exact Vt
 | int i=>cases T <;> first | exact Al2 | exact Am7 | exact Ad7 | exact Ag7 | exact Xx
 | str x=>cases T <;> first | exact Aj9 | exact Ai9 | exact Af4 | exact Ag5 | exact Ys
 | list a=>cases T <;> first | exact Zw | exact Ae2 | exact Xc | exact Yy | exact Vu
 | tuple a=>cases T <;> first | exact Yl | exact Xo | exact Vn | exact Vk | exact Tn
 | dict k=>exact(h).elim
def cUn (op:t_->m_)(f:m6):m6:=fun c=>(f c).bind fun p c=>match Dl c (nrm p) with
 | some d=>match op d with
  | some o=>.ok (.o o) c
  | none=>.bad
 | none=>.bad
def UnS (K:v9)(r:V->Hp->VK->Prop)(op:t_->m_):Prop:=∀(Hf H:Hp) (x:V) (d:t_) (o:O) (Q:VK),Same Hf H->RdV Hf H d x->op d=some o->New K Hf H o Q->r x H Q
theorem Ar1     (h:ME K t f) (hr:UnS K r op):ME K (tUn r t) (cUn op f):=by
 intro u W c m Q R s
 refine h.toV _ W c _ _ R (s.bnd.mono fun p j a v w e b k=>?_)
 cases ex:Dl j (nrm p) with
 | none=>simp only[ex]at a;trivial
 | some d =>
  simp only[ex]at a
  cases eo:op d with
  | none=>simp only[eo]at a;trivial
  | some o =>
   simp only[eo]at a
   exact hr _ _ v d o Q b.sub (Eh b k ex) eo (New.of b fun v n q i l g=>a v _ _ (e.trans i) l g)
theorem Bt     (h:ME K t f) (hr:UnS K (fun x H Q=>r [x] H Q) op):ME K (tCB r (Ca t Fl)) (cUn op f):=Ar1 h hr
def Eb (T:Ty5)(d:t_):m_:=some (.im (.bool (Mw T d)))
def Lk (T1 T2:Ty5)(d:t_):m_:=some (.im (.bool (Mw T1 d||Mw T2 d)))
theorem Fv   (T:Ty5) (h:ME K t f):ME K (tCB (M9 K) (Ca t (Ca (tC (.ty T.nm)) Fl))) (cUn (Eb T) f) :=
 Ar1  h fun a H x d o Q s r e n=>by
  cases e
  exact⟨x,T.nm,Aw3 d,Mw T d,rfl,As9 s r,Am5 r T,n.bl s⟩
theorem A9u    (h1:Eg t A=some a) (h2:Eg t B=some b):J3 t [A,B]=some (a||b):=by
 unfold J3;unfold J3;unfold J3
 grind
theorem Bc1   (g j:Ty5) (h:ME K t f):ME K (tCB (Ik K) (Ca t (Ca (A7d (Ca (tC (.ty g.nm)) (Ca (tC (.ty j.nm)) Fl))) Fl))) (cUn (Lk g j) f) :=
 Ar1 (r:=fun x H Q=>2<=sizeLine/\∀p,H p=none->Ik K _ _ Q) h fun v H x d o Q s r e n=>by
  cases e
  refine⟨by decide,fun p c=>⟨x,p,[g.nm,j.nm],Aw3 d,Mw _ d||Mw _ d,rfl,Bg,?_,A9u (Am5 r _) (Am5 r _),?_⟩⟩
  ·have l:Same _ (upd H p (.tup [.ty g.nm,.ty j.nm])):=Xk s c
   refine As9  l ?_
   cases d with
   | list u=>obtain⟨a,m,e,q,t⟩:=r;exact⟨a,m,e,Ce c _ _ q,t⟩
   | none=>exact r
   | bool b=>exact r
   | int i=>exact r
   | str z=>exact r
   | tuple u=>exact r
   | dict k=>exact r
  ·exact n _ _ _ [] ((Stp.newL s c).less fun a z=>nomatch z) (Xk s c) ⟨rfl,rfl⟩
def boolsOf:w5->Option (List Bool)
 | []=>some []
 | .bool b::r=>(boolsOf r).map (b::·)
 | _=>none
theorem Sd:∀{ds:w5}{bs:List Bool}{vs:l_},boolsOf ds=some bs->TrL Hf ds vs->vs=bs.map V.bl
 | [],bs,vs,e,t=>by cases (show some []=some bs from e);exact t
 | .bool b::r,bs,_,e,⟨v,vr,rfl,h,t⟩=>by
  obtain⟨l,e1,rfl⟩:=aH.mp (show (boolsOf r).map (b::·)=some bs from e)
  cases (show v=.bl b from h)
  rw[Sd e1 t];rfl
 | .none::r,bs,_,e,_=>nomatch e
 | .int _::r,bs,_,e,_=>nomatch e
 | .str _::r,bs,_,e,_=>nomatch e
 | .list _::r,bs,_,e,_=>nomatch e
 | .tuple _::r,bs,_,e,_=>nomatch e
 | .dict _::r,bs,_,e,_=>nomatch e
def At5:t_->m_
 | .list ds=>(boolsOf ds).map fun bs=>.im (.bool (bs.all id))
 | _=>none
theorem Bi9:UnS K (fun x H Q=>Le K [x] H Q) At5:=by
 intro Hf H x d o Q s r e n
 match d,r,e with
 | .list _,r,e =>
  obtain⟨c,f,rfl⟩:=aH.mp (show (boolsOf _).map _=some o from e)
  obtain⟨a,vs,rfl,b,t⟩:=Ep r
  exact⟨a,c,rfl,by rw[<- Sd f t];exact SqL.of b,n.bl s⟩
def Um:t_->m_
 | .int i=>some (.im (.int i))
 | .bool b=>some (.im (.int (if b then 1 else 0)))
 | _=>none
theorem Aw6:UnS K (fun x H Q=>Li K [x] H Q) Um:=by
 intro a H x d o Q s r e n
 match d,r,e with
 | .int i,r,e=>cases e;cases Dv r;exact .inl ⟨i,rfl,n.int s⟩
 | .bool b,r,e=>cases e;cases Ot r;exact .inr ⟨b,rfl,n.int s⟩
def As3:t_->m_
 | .int i=>some (.im (.int (if i<0 then -i else i)))
 | _=>none
theorem Av4:UnS K (fun x H Q=>Ny K [x] H Q) As3:=by
 intro a H x d o Q s r e n
 match d,r,e with
 | .int i,r,e=>cases e;cases Dv r;exact⟨i,rfl,n.int s⟩
def Nz:t_->m_
 | .list ds=>some (.ls false ds)
 | .tuple ds=>some (.ls false ds)
 | _=>none
theorem Uo:UnS K (fun x H Q=>Hy K [x] H Q) Nz:=by
 intro Hf H x d o Q s r e n
 match d,r,e with
 | .list _,r,e =>
  cases e
  obtain⟨a,c,rfl,f,t⟩:=Ep r
  exact⟨a,c,rfl,.inl (SqL.of f),fun l b=>n.lst s t b⟩
 | .tuple _,r,e =>
  cases e
  obtain⟨a,c,rfl,f,t⟩:=Gm s r
  exact⟨a,c,rfl,.inr (SqT.of f),fun l b=>n.lst s t b⟩
def Bq0 (K:v9):l_->Hp->VK->Prop:=fun xs H Q=>(Tf K xs H Q\/Ad1 K xs H Q)\/Qt K xs H Q
def isSeq:t_->Bool
 | .list _=>true
 | .tuple _=>true
 | _=>false
def Ul:t_->m_
 | .int i=>if i.natAbs.log2<1920 then some (.im (.str (toString i))) else none
 | .none=>some (.im (.str "None"))
 | .bool b=>some (.im (.str (if b then Str.ofString "True" else Str.ofString "False")))
 | .str x=>some (.im (.str x))
 | d=>if isSeq d&&(d.showable&&(!d.hasDict&&(decide (d.depth<=40)&&decide (d.shown.length<=sizeLine)))) then some (.im (.str d.shown)) else none
theorem Aw2:UnS K (fun x H Q=>Bq0 K [x] H Q) Ul:=by
 intro h H x d o Q s r e n
 have c:∀d,RdV h H d x->(isSeq d=true->∃a,x=.ref a)->(if isSeq d&&(d.showable&&(!d.hasDict&&(decide (d.depth<=40)&&decide (d.shown.length<=sizeLine)))) then some (O.im (.str d.shown)) else none)=some o->Bq0 K [x] H Q:=fun d r g e=>by
  split at e
  ·rename_i l
   simp  at l
   cases e
   obtain⟨a,rfl⟩:=g l.1;exact .inl (.inr ⟨a,d,rfl,r.tr s,l.2.1,l.2.2.1,l.2.2.2.1,l.2.2.2.2,n.str s⟩)
  ·cases e
 match d,r,e with
 | .int i,r,e =>
  have e:(if i.natAbs.log2<1920 then some _ else none)=some o:=e
  split at e
  ·rename_i l
   cases e;cases Dv r;exact .inl (.inl ⟨i,rfl,l,n.str s⟩)
  ·cases e
 | .list _,r,e=>exact c _ r (fun _=>by obtain⟨b,f,e,_⟩:=Ep r;exact⟨b,e⟩) e
 | .tuple _,r,e=>exact c _ r (fun _=>by obtain⟨b,f,e,_⟩:=Gm s r;exact⟨b,e⟩) e
 | .none,r,e=>cases e;cases Ox r;exact .inr ⟨_,_,rfl,rfl,n.str s⟩
 | .bool b,r,e=>cases e;cases Ot r;exact .inr ⟨_,_,rfl,rfl,n.str s⟩
 | .str z,r,e=>cases e;cases Hw r;exact .inr ⟨_,_,rfl,rfl,n.str s⟩
 | .dict _,r,e=>exact c _ r (fun z=>nomatch z) e
def Ye:t_->t_->m_
 | .int i,.int j=>some (.im (.int (if j<i then j else i)))
 | _,_=>none
theorem Bg9 {c d:TE}  (ha:ME K c fa) (hb:ME K d fb):ME K (tCB (K1 K) (Ca c (Ca d Fl))) (cOp Ye fa fb) :=
 Ai  ha hb fun h H x y g f o Q s a b e n=>by
  match g,f,a,b,e with
  | .int i,.int j,a,b,e=>cases e;cases Dv a;cases Dv b;exact⟨i,j,rfl,n.int s⟩
def MO (K:v9)(T:TO)(f:Ev->R (p_)):Prop:=∀(β:Nat->V) (W:Wo) (c:Ev) (σ:St) (Q:p_->Hp->Prop),Rep K β W c σ ->
 (f c).sat (fun b c'=>∀W',Stp W.S W.Hf W.H W'.S W'.Hf W'.H->Rep K β W' c' σ->Q b W'.H)->T σ W.H Q
def cON:Ev->R (p_):=fun c=>.ok none c
theorem Sw:MO K X6 cON:=fun b W c a Q R s=>s W Stp.refl R
def cOS (f:m6):Ev->R (p_):=fun c=>(f c).bind fun p c=>match Dl c (nrm p) with
 | some (.int i)=>.ok (some i) c
 | _=>.bad
theorem Ir   (h:ME K t f):MO K (A3u t) (cOS f):=by
 intro g W c k Q R s
 refine h.toV _ W c _ _ R (s.bnd.mono fun p l a v j b d e=>?_)
 match ex:Dl _ _,a with
 | some (.int i),a=>exact⟨i,Dv (Eh d e ex),a _ b d⟩
 | some .none,a=>exact a.elim
 | some (.bool _),a=>exact a.elim
 | some (.str _),a=>exact a.elim
 | some (.list _),a=>exact a.elim
 | some (.tuple _),a=>exact a.elim
 | some (.dict _),a=>exact a.elim
 | none,a=>exact a.elim
def SlS (K:v9)(r:V->p_->p_->Hp->VK->Prop)(op:t_->p_->p_->m_):Prop:=∀(Hf H:Hp) (x:V) (lo hi:p_) (d:t_) (o:O) (Q:VK),Same Hf H->RdV Hf H d x->op d lo hi=some o->New K Hf H o Q->r x lo hi H Q
def cSl (op:t_->p_->p_->m_)(f:m6)(fl fh:Ev->R (p_)):m6:=fun c=>(f c).bind fun p c=>(fl c).bind fun lo c=>(fh c).bind fun hi c=>match Dl c (nrm p) with
 | some d=>match op d lo hi with
  | some o=>.ok (.o o) c
  | none=>.bad
 | none=>.bad
theorem V0       (h:ME K j f) (hl:MO K l k) (u:MO K m n) (hr:SlS K r op):ME K (tSl r j l m) (cSl op f k n):=by
 intro P W c G Q R s
 refine h.toV _ W c _ _ R (s.bnd.mono fun p I D v N g w x=>?_)
 refine hl _ _ _ _ _ w (D.bnd.mono fun z F A J a B=>?_)
 refine u _ _ _ _ _ B (A.bnd.mono fun t y b H e i=>?_)
 cases ex:Dl y (nrm p) with
 | none=>simp only[ex]at b;trivial
 | some d =>
  simp only[ex]at b
  cases eo:op d z t with
  | none=>simp only[eo]at b;trivial
  | some o =>
   simp only[eo]at b
   exact hr _ _ v _ _ d o Q i.sub (Eh i (RepA.same (a.trans e).fz x) ex) eo (New.of i fun v L M C E q=>b v _ _ (g.trans (a.trans (e.trans C))) E q)
end
section
variable {K:v9}{X:Cx}{Hf H:Hp}{Q:VK}{β:Nat->V}{W W':Wo}{c c':Ev}{σ:St}{v:V}
def rSL (K:v9):V->p_->p_->Hp->VK->Prop:=fun x lo hi H Q=>(B2j K x lo hi H Q\/(B3c K x lo hi H Q\/Bm0 K x lo hi H Q))\/B1d x lo hi H Q
theorem Bs5:SlR X (rSL X.K):=SlR.or (SlR.or Bh7 (SlR.or Bx5 Bj8)) Bo6
def Og:t_->p_->p_->m_
 | .list ds,lo,hi=>some (.ls false (cutD ds lo hi))
 | .tuple ds,lo,hi=>some (.im (.tuple (cutD ds lo hi)))
 | .str z,lo,hi=>if z.length<=16000000 then some (.im (.str (Txt.slice z lo hi))) else none
 | _,_,_=>none
theorem Mj:SlS K (rSL K) Og:=by
 intro Hf H x f c d o Q s r e n
 match d,r,e with
 | .list ds,r,e =>
  cases e
  obtain⟨a,b,rfl,g,t⟩:=Ep r
  exact .inl (.inl ⟨a,b,rfl,SqL.of g,fun p h=>n.lst s (TrL.cut t) h⟩)
 | .str z,r,e =>
  by_cases hz:z.length<=16000000
  ·rw[show Og (.str z) f c=some (.im (.str (Txt.slice z f c))) by simp only[Og];rw[if_pos hz]]at e
   cases e
   exact .inr ⟨z,r,aj hz (by decide),n.same s rfl⟩
  ·rw[show Og (.str z) f c=none by simp only[Og];rw[if_neg hz]]at e;cases e
 | .tuple ds,r,e =>
  cases e
  obtain⟨a,b,rfl,g,t⟩:=Gm s r
  by_cases w:HT.sIx b.length 0 f=0/\HT.sIx b.length b.length c=b.length
  ·refine .inl (.inr (.inr ⟨a,b,rfl,SqT.of g,w,?_⟩))
   have e:cutD ds f c=ds:=by
    unfold cutD;rw[t.length,w.1,w.2,List.drop_zero,cQ,<- t.length,fO]
   rw[e]at n;exact n.same s r
  ·exact .inl (.inr (.inl ⟨a,b,rfl,SqT.of g,w,fun p h=>n.tup s (TrL.cut t) h⟩))
def Bb (f:m6):n_:=fun c=>(f c).bind fun p c=>match Dl c (nrm p) with
 | some (.bool b)=>.ok b c
 | _=>.bad
theorem Bh   (h:ME K t f):MT K (Kw t) (Bb f):=by
 intro g W c k Q R s
 refine h.toV _ W c _ _ R (s.bnd.mono fun p l a v j b d e=>?_)
 match ex:Dl _ _,a with
 | some (.bool i),a=>exact⟨i,Ot (Eh d e ex),a _ b d⟩
 | some .none,a=>exact a.elim
 | some (.int _),a=>exact a.elim
 | some (.str _),a=>exact a.elim
 | some (.list _),a=>exact a.elim
 | some (.tuple _),a=>exact a.elim
 | some (.dict _),a=>exact a.elim
 | none,a=>exact a.elim
theorem Ti   (h:ME K t f):MT K (tB t) (Bb f):=Bh h
def Cz:n_:=fun c=>.ok true c
theorem Lh:MT K B0a Cz:=fun b W c a Q R s=>s W Stp.refl R
def Ay4 (f g:n_):n_:=fun c=>(f c).bind fun b c=>if b=true then g c else .ok false c
def cOr (f g:n_):n_:=fun c=>(f c).bind fun b c=>if b=true then .ok true c else g c
def A6v (f:n_):n_:=fun c=>(f c).bind fun b c=>.ok (!b) c
theorem A4b   (h1:MT K t f) (h2:MT K u g):MT K (Bn3 t u) (Ay4 f g):=fun n W c p Q R s =>
 h1 _ W c _ _ R (s.bnd.mono fun b l h k a e=>by
  cases b with
  | true=>exact h2 _ _ _ _ _ e (h.mono fun b m j o d i=>j _ (a.trans d) i)
  | false=>exact h _ a e)
theorem Aq8   (h1:MT K t f) (h2:MT K u g):MT K (tOr t u) (cOr f g):=fun n W c p Q R s =>
 h1 _ W c _ _ R (s.bnd.mono fun b l h k a e=>by
  cases b with
  | false=>exact h2 _ _ _ _ _ e (h.mono fun b m j o d i=>j _ (a.trans d) i)
  | true=>exact h _ a e)
theorem A3f   (h1:MT K t f):MT K (Bs8 t) (A6v f):=fun h W c g Q R s =>
 h1 _ W c _ _ R (s.bnd.mono fun b j e i a d=>e _ a d)
theorem Xu  {d:Wo}(R:Rep K β W c σ) (st:Stp d.S d.Hf d.H W.S W.Hf W.H) (s:∀v a e,Stp d.S d.Hf d.H (orS a.S e) a.Hf a.H->Rep K β a c σ->Ea K a σ (.o (.im (.bool b))) v e->Q v a.H):Q (.bl b) W.H :=
 R.here (o:=.im (.bool b))  rfl rfl fun v a e f g r=>s v _ _ (st.trans f) g r
def T3 (f g:m6):m6:=fun c=>(Bb f c).bind fun b c=>if b=true then g c else .ok (.o (.im (.bool false))) c
def Bp6 (f g:m6):m6:=fun c=>(Bb f c).bind fun b c=>if b=true then .ok (.o (.im (.bool true))) c else g c
def Ar8 (f:m6):m6:=fun c=>(Bb f c).bind fun b c=>.ok (.o (.im (.bool (!b)))) c
def Mx (ft:n_)(f g:m6):m6:=fun c=>(ft c).bind fun b c=>if b=true then f c else g c
theorem Oh {r:U.R PV}{b:Wo}(s:r.sat fun p c'=>∀v a d,Stp b.S b.Hf b.H (orS a.S d) a.Hf a.H->Rep K β a c' σ->Ea K a σ p v d->Q v a.H)(st:Stp b.S b.Hf b.H W.S W.Hf W.H) :
 r.sat fun p c'=>∀v a d,Stp W.S W.Hf W.H (orS a.S d) a.Hf a.H->Rep K β a c' σ->Ea K a σ p v d->Q v a.H:=s.mono fun p c k v a d e R r=>k v _ _ (st.trans e) R r
theorem Od   (h1:ME K h f) (h2:ME K e g):ME K (A7p h e) (T3 f g):=by
 intro k W c j Q R s
 refine Bh h1 _ W c _ _ R (s.bnd.mono fun b m i l a d=>?_)
 cases b with
 | true=>exact h2 _ _ _ _ _ d (Oh i a)
 | false=>exact Xu d a i
theorem Bp2 {h e:TE}{f g:m6}(h1:ME K h f)(h2:ME K e g):ME K (Bo0 h e) (Bp6 f g):=by
 intro k W c j Q R s
 refine Bh h1 _ W c _ _ R (s.bnd.mono fun b m i l a d=>?_)
 cases b with
 | false=>exact h2 _ _ _ _ _ d (Oh i a)
 | true=>exact Xu d a i
theorem Ar6   (h1:ME K d f):ME K (A4m d) (Ar8 f):=by
 intro k W c h Q R s
 exact Bh h1 _ W c _ _ R (s.bnd.mono fun b i g j a e=>Xu e a g)
theorem Y6     (ht:MT K i ft) (h1:ME K e f) (h2:ME K h g):ME K (tIf i e h) (Mx ft f g):=by
 intro l W c k Q R s
 refine ht _ W c _ _ R (s.bnd.mono fun b n j m a d=>?_)
 cases b with
 | true=>exact h1 _ _ _ _ _ d (Oh j a)
 | false=>exact h2 _ _ _ _ _ d (Oh j a)
def Fd (f:m6):Ev->R (w5):=fun c=>(f c).bind fun p c=>(frz (nrm p) c).bind fun d c=>match d with
 | .list ds=>.ok ds c
 | .tuple ds=>.ok ds c
 | _=>.bad
theorem Bb8    (ha:Hf a=some (.lst vs)) (t:TrL Hf ds vs):A1i (Itl K a) Hf ds:=by
 intro i c H f g;have b:=g _ _ (f _ _ ha)
 refine⟨fun e=>⟨vs,SqL.of b,by rw[<- t.length];(first|lia|omega)⟩,fun d j=>?_⟩
 obtain⟨v,h,k⟩:=t.got j
 refine⟨⟨vs,v,SqL.of b,h⟩,fun x l ⟨e,q⟩=>?_⟩
 subst e;have:=q _ (SqL.of b);rw[h]at this
 cases this
 exact⟨c,Stp.refl,g,Tr.same f k⟩
theorem Bu6    (ha:Hf a=some (.tup vs)) (t:TrL Hf ds vs):A1i (Itt K a) Hf ds:=by
 intro i c H f g;have b:=g _ _ (f _ _ ha)
 refine⟨fun e=>⟨vs,SqT.of b,by rw[<- t.length];(first|lia|omega)⟩,fun d j=>?_⟩
 obtain⟨v,h,k⟩:=t.got j
 refine⟨⟨vs,v,SqT.of b,h⟩,fun x l ⟨e,q⟩=>?_⟩
 subst e;have:=q _ (SqT.of b);rw[h]at this
 cases this
 exact⟨c,Stp.refl,g,Tr.same f k⟩
theorem Ni   (h:ME K t f):MI K (B0p K t) (Fd f):=by
 intro w W c B k R s
 refine h.toV _ W c _ _ R (s.bnd.mono fun p A r v x l u q=>?_)
 obtain⟨d,y,z,_,b,o,i,m,e⟩:=Jd u q r.bnd;rw[<- o]
 match d,e,b with
 | .list _,e,b =>
  obtain⟨a,n,g,j,t⟩:=e;exact⟨a,g,.inl ⟨n,m.sub _ _ j,b _ _ (l.trans i) m (Bb8 j t)⟩⟩
 | .tuple _,e,b =>
  obtain⟨a,n,g,j,t⟩:=e;exact⟨a,g,.inr ⟨n,m.sub _ _ j,b _ _ (l.trans i) m (Bu6 j t)⟩⟩
 | .none,e,b=>exact b.elim
 | .bool _,e,b=>exact b.elim
 | .int _,e,b=>exact b.elim
 | .str _,e,b=>exact b.elim
 | .dict _,e,b=>trivial
def Jm (lo:Int)(n:Nat):w5:=(List.range n).map fun k=>.int (lo+(k:Nat))
theorem Bt3   : A1i (Itr lo n) Hf (Jm lo n):=by
 intro i b H g f
 have l:(Jm lo n).length=n:=by unfold Jm;simp_all
 refine⟨fun e=>by show n<=i;(first|lia|omega),fun d a=>?_⟩
 have c:i<n:=by
  grind
 refine⟨c,fun x h ⟨e,q⟩=>?_⟩
 subst e;unfold Jm at a;rw[bT,eU c]at a
 cases a
 exact⟨b,Stp.refl,f,q⟩
def Kv (f:m6):Ev->R (w5):=fun c=>(f c).bind fun p c=>match Dl c (nrm p) with
 | some (.int j)=>if j<=16000000/\-16000000<=j then .ok (Jm 0 j.toNat) c else .bad
 | _=>.bad
theorem Mt   (h:ME K t f):MI K (A4n (Ca t Fl)) (Kv f):=by
 intro g W c m k R s
 refine h.toV _ W c _ _ R (s.bnd.mono fun p n a v i b d e=>?_)
 match ex:Dl _ _,a with
 | some (.int j),a =>
  cases Dv (Eh d e ex)
  by_cases l:j<=16000000/\-16000000<=j
  ·have a:(if j<=16000000/\-16000000<=j then U.R.ok _ _ else .bad).sat _:=a
   rw[if_pos l]at a
   exact⟨j,rfl,by (first|lia|omega),by (first|lia|omega),a _ _ b d Bt3⟩
  ·have a:(if j<=16000000/\-16000000<=j then U.R.ok _ _ else .bad).sat _:=a
   rw[if_neg l]at a;trivial
 | some .none,a=>exact a.elim
 | some (.bool _),a=>exact a.elim
 | some (.str _),a=>exact a.elim
 | some (.list _),a=>exact a.elim
 | some (.tuple _),a=>exact a.elim
 | some (.dict _),a=>exact a.elim
 | none,a=>exact a.elim
def Zh (d:Option t_):p_:=match d with
 | some (.int i)=>some i
 | _=>none
theorem Ym   (h:Zh d=some i):d=some (.int i):=by
 unfold Zh at h
 grind
def Lq:t_->Option (w5)
 | .list ds=>some ds
 | .tuple ds=>some ds
 | _=>none
theorem Ai0    (h:Lq d=some ds) (t:Tr Hf d v):∃b a c,v=.ref a/\SqK b Hf a c/\TrL Hf ds c:=by
 cases d with
 | list l=>cases h;obtain⟨a,c,e,f,t⟩:=t;exact⟨false,a,c,e,f,t⟩
 | tuple l=>cases h;obtain⟨a,c,e,f,t⟩:=t;exact⟨true,a,c,e,f,t⟩
 | none=>cases h
 | bool _=>cases h
 | int _=>cases h
 | str _=>cases h
 | dict _=>cases h
theorem Hz    {c:Hp}(S:Same Hf c) (h:SqK b Hf a vs):SqK b c a vs:=by
 cases b
 ·exact S _ _ h
 ·exact S _ _ h
def Ol (xs ys:w5):w5:=(xs.zip ys).map fun p=>.tuple [p.1,p.2]
theorem Bw8     (ha:SqK t1 Hf a vs) (hb:SqK t2 Hf b us) (t:TrL Hf xs vs) (u:TrL Hf ys us):A1i (Itz t1 t2 a b) Hf (Ol xs ys):=by
 intro i B H j f;have m:=Hz (j.trans f) ha;have k:=Hz (j.trans f) hb
 have l:(Ol xs ys).length=min xs.length ys.length:=by unfold Ol;simp_all
 refine⟨fun e=>⟨vs,us,m,k,by rw[<- t.length,<- u.length,e];(first|lia|omega)⟩,fun d x=>?_⟩
 obtain⟨p,n,e⟩:=Fp x;rw[List.getElem?_zip_eq_some]at n;obtain⟨h,r,v⟩:=t.got n.1;obtain⟨c,s,w⟩:=u.got n.2
 refine⟨⟨vs,us,h,c,m,k,r,s⟩,fun z H' y=>?_⟩
 obtain⟨p,x',y',rfl,g,rfl,A,C⟩:=y;have:=A _ m;rw[r]at this;cases this;have:=C _ k;rw[s]at this;cases this;subst e;have q:=Ce (o:=.tup [h,c]) (Same.free f g);exact⟨upd _ p _,Stp.newF f g,Kc f,p,[h,c],rfl,Bg,h,[c],rfl,Tr.same q (Tr.same j v),c,[],rfl,Tr.same q (Tr.same j w),rfl⟩
def A2t (f g:m6):Ev->R (w5):=fun c=>(f c).bind fun p c=>(g c).bind fun q c=>(frz (nrm p) c).bind fun x c=>(frz (nrm q) c).bind fun y c=>match Lq x,Lq y with
 | some xs,some ys=>.ok (Ol xs ys) c
 | _,_=>.bad
theorem Bq8   (h:ME K t f) (h':ME K u g):MI K (By7 (Ca t (Ca u Fl))) (A2t f g):=by
 intro β W c σ k R s
 refine h.toV _ W c _ _ R (s.bnd.mono fun p c1 G v1 W1 l P v=>?_)
 refine h'.toV _ _ _ _ _ P (G.bnd.mono fun q c2 w v2 W2 i A B=>?_)
 obtain⟨x,c3,W3,_,C,D,e,E,F⟩:=Jd A (RepA.same i.fz v) w.bnd;obtain⟨y,c4,W4,_,j,r,d,m,I⟩:=Jd E (RepA.same e.fz B) C.bnd
 cases ex:Lq x with
 | none=>simp only[ex]at j;trivial
 | some xs =>
  cases ey:Lq y with
  | none=>simp only[ex,ey]at j;trivial
  | some ys =>
   simp only[ex,ey]at j;obtain⟨J,a,L,rfl,H,N⟩:=Ai0 ex F;obtain⟨M,b,O,rfl,n,o⟩:=Ai0 ey I;rw[<- D,<- r];have z:=Hz d.fz H;exact⟨a,b,rfl,J,M,L,O,Hz m.sub z,Hz m.sub n,j _ _ (l.trans (i.trans (e.trans d))) m (Bw8 z n (TrL.same d.fz N) o)⟩
def M7 (xs:w5):w5:=(List.range xs.length).map fun k=>.tuple [.int (k:Nat),xs.getD k .none]
theorem Bf6     (ha:SqK t Hf a vs) (u:TrL Hf xs vs):A1i (Ite t a) Hf (M7 xs):=by
 intro i v H j f;have h:=Hz (j.trans f) ha
 have l:(M7 xs).length=xs.length:=by unfold M7;simp_all
 refine⟨fun e=>⟨vs,h,by rw[<- u.length];(first|lia|omega)⟩,fun d g=>?_⟩
 have n:i<xs.length:=by
  grind
 unfold M7 at g;rw[bT,eU n]at g
 cases g
 have q:xs[i]?=some (xs.getD i .none):=by grind
 obtain⟨b,k,r⟩:=u.got q
 refine⟨⟨vs,b,h,k⟩,fun z H' s=>?_⟩
 obtain⟨p,x',rfl,c,rfl,m⟩:=s;have:=m _ h;rw[k]at this;cases this;exact⟨upd _ p _,Stp.newF f c,Kc f,p,[.int i,b],rfl,Bg,.int i,[b],rfl,rfl,b,[],rfl,Tr.same (Ce (o:=.tup [.int i,b]) (Same.free f c)) (Tr.same j r),rfl⟩
def A7s (f:m6):Ev->R (w5):=fun c=>(f c).bind fun p c=>(frz (nrm p) c).bind fun x c=>match Lq x with
 | some xs=>.ok (M7 xs) c
 | _=>.bad
theorem Ba6   (h:ME K t f):MI K (A3b (Ca t Fl)) (A7s f):=by
 intro β W c σ k R s
 refine h.toV _ W c _ _ R (s.bnd.mono fun p c1 u v1 W1 e n q=>?_)
 obtain⟨x,c3,W3,_,b,l,d,g,o⟩:=Jd n q u.bnd
 cases ex:Lq x with
 | none=>simp only[ex]at b;trivial
 | some xs =>
  simp only[ex]at b;obtain⟨m,a,r,rfl,i,j⟩:=Ai0 ex o;rw[<- l];exact⟨a,rfl,m,r,Hz g.sub i,b _ _ (e.trans d) g (Bf6 i j)⟩
end
section
variable {K:v9}{X:Cx}{Hf H:Hp}{Q:VK}{β:Nat->V}{W W':Wo}{c c':Ev}{σ:St}{v:V}{p:PV}{fp:v6}{i:Nat}{b:Bool}{ds ds':w5}
theorem Bq3 (R:Rep K β W c σ)(r:Ea K W σ p v fp):∃W',W'.H=W.H/\Stp (orS W.S fp) W.Hf W.H W'.S W'.Hf W'.H/\Rep K β W' c σ/\RepA K W'.Hf σ (nrm p) v:=by
 have f:Stp (orS W.S fp) W.Hf W.H _ _ _:=Stp.refl.up fun a z=>.inl z
 cases p with
 | sl i=>exact⟨W,rfl,f,R,r.2⟩
 | o o =>
  cases o with
  | im d=>exact⟨W,rfl,f,R,r.1.2⟩
  | sc d=>exact⟨W,rfl,f,R,r.1.2⟩
  | ty d=>exact⟨W,rfl,f,R,r.1.2⟩
  | ls b ds =>
   obtain⟨⟨a,h,rfl,rfl,g,j,t⟩,l⟩:=r
   refine⟨⟨upd _ a _,W.H,W.fps⟩,rfl,⟨Ce g,fun b o e _=>e,fun b o e mu n q=>?_,fun b z=>.inl (.inl z)⟩,Zq R g j (l a (.head _)),a,h,rfl,Bg,TrL.same (Ce g) t⟩
   have k:b≠a:=fun z=>n (.inr (by grind))
   show upd _ a _ b=none
   rw[Am k];grind
theorem Rep.mut (R:Rep K β W c σ)(hc:c[i]?=some (some (.ls b ds)))(hv:σ[i]?=some (some v)):∃a h,v=.ref a/\W.H a=some (.lst h)/\TrL W.Hf ds h /\
 ∀f d,TrL W.Hf f d->Rep K β ⟨W.Hf,upd W.H a (.lst d),W.fps⟩ (c.set i (some (.ls b f))) σ/\Stp W.S W.Hf W.H W.S W.Hf (upd W.H a (.lst d)):=by
 obtain⟨m,p,⟨a,h,rfl,w,A,H,t⟩,B⟩:=R.get i _ hc
 cases (show some _=some _ from p.symm.trans hv)
 have D:i<c.length:=by
  grind
 have s:a∈W.fps i:=by rw[w];exact .head _
 refine⟨a,h,rfl,H,t,fun f d F=>⟨⟨fun b u e=>?_,by rw[b_];exact R.len,fun j o e=>?_,R.dis,fun j x g=>?_⟩,⟨Same.refl _,fun x o e n=>?_,fun x o e r n q=>q,fun x z=>.inl z⟩⟩⟩
 ·have E:b≠a:=fun z=>by rw[z,A]at e;cases e
  show upd _ a _ b=_
  rw[Am E];exact R.sub b u e
 ·by_cases z:j=i
  ·subst z
   rw[cu D]at e
   cases e
   exact⟨.ref a,p,⟨a,d,rfl,w,A,Bg,F⟩,B⟩
  ·rw[bY fun y=>z y.symm]at e
   obtain⟨m,k,G,l⟩:=R.get j o e
   refine⟨m,k,G.mono (Same.refl _) fun x g=>⟨(R.own j x g).1,?_⟩,l⟩
   show upd _ a _ x=_
   rw[Am];intro q;rw[q]at g;exact z (R.dis j i a g s)
 ·obtain⟨I,o,C,r⟩:=R.own j x g
  refine⟨I,?_⟩
  by_cases z:x=a
  ·exact⟨.lst _,by rw[z];exact Bg,trivial⟩
  ·exact⟨o,by show upd _ a _ x=_;rw[Am z];exact C,r⟩
 ·rw[Am]
  ·exact e
  ·intro z;exact n ⟨i,by rw[z];exact s⟩
def slL (c:Ev)(p:PV):Option (Nat×Bool×w5):=match p with
 | .sl i=>match c[i]? with
  | some (some (.ls b ds))=>some (i,b,ds)
  | _=>none
 | _=>none
theorem Y8  (h:slL c p=some x):p=.sl x.1/\c[x.1]?=some (some (.ls x.2.1 x.2.2)):=by
 unfold slL at h
 grind
def Om (fo fe:m6):m6:=fun c=>(fo c).bind fun p c=>if (slL c (nrm p)).isSome=true then (fe c).bind fun q c=>(frz (nrm q) c).bind fun d c=>match slL c (nrm p) with
 | some (i,b,ds)=>if ds.length<16000000 then .ok (.o (.im .none)) (c.set i (some (.ls b (ds++[d])))) else .bad
 | none=>.bad
 else .bad
theorem A3j {b:Wo}(R:Rep K β W c σ)(st:Stp b.S b.Hf b.H W.S W.Hf W.H)(s:∀v a d,Stp b.S b.Hf b.H (orS a.S d) a.Hf a.H->Rep K β a c σ->Ea K a σ (.o (.im .none)) v d->Q v a.H):Q .non W.H :=
 R.here (o:=.im .none)  rfl rfl fun v a d e f r=>s v _ _ (st.trans e) f r
theorem ty_list (R:Rep K β W c σ)(h:(slL c p).isSome=true)(r:RepA K W.Hf σ p v):tyV K "list" v W.H:=by
 obtain⟨x,d⟩:=Option.isSome_iff_exists.mp h;obtain⟨rfl,e⟩:=Y8 d;obtain⟨a,f,rfl,b,_⟩:=R.mut e r;exact .inl ⟨rfl,f,SqL.of b⟩
theorem U5  {v fe:m6}(ho:ME K u v) (he:ME K o fe):ME K (tBM K "list" rAppF u (Ca o Fl)) (Om v fe):=by
 intro β W c σ Q R s
 refine ho.toV _ W c _ _ R (s.bnd.mono fun p y f v1 W1 h r j=>?_)
 by_cases hs:(slL y (nrm p)).isSome=true
 ·rw[if_pos hs]at f
  refine⟨ty_list r hs j,he.toV _ _ _ _ _ r (f.bnd.mono fun q c2 D H W2 m z w=>?_)⟩
  obtain⟨d,A,W3,_,e,C,n,E,F⟩:=Jd z w D.bnd
  cases ex:slL A (nrm p) with
  | none=>simp only[ex]at e;exact e.elim
  | some x =>
   simp only[ex]at e;obtain⟨i,b,G⟩:=x;obtain⟨B,I⟩:=Y8 ex;rw[B]at j;obtain⟨a,J,rfl,L,t,k⟩:=E.mut I j
   by_cases l:G.length<16000000
   ·rw[if_pos l]at e
    obtain⟨M,g⟩:=k _ _ (t.app (TrL.one F));rw[<- C]
    refine⟨a,H,J,rfl,rfl,L,by rw[<- t.length];exact dW l (by decide),?_⟩
    exact A3j M (h.trans (m.trans (n.trans g))) e
   ·rw[if_neg l]at e;exact e.elim
 ·rw[if_neg hs]at f;exact f.elim
def U7 (fo fe:m6):m6:=fun c=>(fo c).bind fun p c=>if (slL c (nrm p)).isSome=true then (fe c).bind fun q c=>match slL c (nrm p),Zh (Dl c (nrm q)) with
 | some (i,b,ds),some k=>if ds.length<=16000000 then match ixN ds.length k with
  | some j=>match ds[j]? with
   | some d=>.ok (.o (.im d)) (c.set i (some (.ls b (ds.eraseIdx j))))
   | none=>.bad
  | none=>.bad
  else .bad
 | _,_=>.bad
 else .bad
theorem TrL.erase:∀{ds:w5}{vs:l_}(n:Nat),TrL Hf ds vs->TrL Hf (ds.eraseIdx n) (vs.eraseIdx n)
 | [],_,n,h=>by cases (show _=[] from h);exact rfl
 | d::ds,_,0,⟨v,r,rfl,_,t⟩=>t
 | d::ds,_,n+1,⟨v,r,rfl,q,t⟩=>⟨v,r.eraseIdx n,rfl,q,TrL.erase n t⟩
theorem TrL.setAt:∀{ds:w5}{vs:l_}(n:Nat) {d:t_}{v:V},TrL Hf ds vs->Tr Hf d v->TrL Hf (ds.set n d) (vs.set n v)
 | [],_,n,d,v,h,_=>by cases (show _=[] from h);exact rfl
 | e::ds,_,0,d,v,⟨u,r,rfl,_,t⟩,q=>⟨v,r,rfl,q,t⟩
 | e::ds,_,n+1,d,v,⟨u,r,rfl,h,t⟩,q=>⟨u,r.set n v,rfl,h,TrL.setAt n t q⟩
theorem A6s   (ho:ME K z G) (he:ME K F fe):ME K (tBM K "list" rPopAt z (Ca F Fl)) (U7 G fe):=by
 intro B W c H Q R s
 refine ho.toV B W c H _ R (s.bnd.mono fun p O g v1 W1 n A w=>?_)
 by_cases hs:(slL O (nrm p)).isSome=true
 ·rw[if_pos hs]at g
  refine⟨ty_list A hs w,he.toV B _ _ _ _ A (g.bnd.mono fun q D e v2 W2 h E I=>?_)⟩
  cases ex:slL D (nrm p) with
  | none=>simp only[ex]at e;exact e.elim
  | some x =>
   obtain⟨i,b,l⟩:=x
   cases ey:Zh (Dl D (nrm q)) with
   | none=>simp only[ex,ey]at e;exact e.elim
   | some k =>
    simp only[ex,ey]at e
    by_cases hl:l.length<=16000000
    case neg=>rw[if_neg hl]at e;exact e.elim
    rw[if_pos hl]at e
    cases ej:ixN l.length k with
    | none=>simp only[ej]at e;exact e.elim
    | some j =>
     simp only[ej]at e
     cases ed:l[j]? with
     | none=>simp only[ed]at e;exact e.elim
     | some d =>
      simp only[ed]at e;obtain⟨L,N⟩:=Y8 ex;rw[L]at w
      cases Dv (Eh E I (Ym ey))
      obtain⟨a,C,rfl,P,t,S⟩:=E.mut N w;obtain⟨y,M,U⟩:=t.got ed;obtain⟨T,q2,q3,q4⟩:=Xp ej;obtain⟨V,m⟩:=S _ _ (TrL.erase j t)
      have u:seqIndex? k C.length=some j:=by rw[<- t.length];exact T
      have f:-2 ^ 63<=k/\k<2 ^ 63:=by (first|lia|omega)
      refine⟨a,C,k,j,y,rfl,rfl,P,f.1,f.2,u,M,?_⟩
      exact V.here (o:=.im d)  U rfl fun v W' fp X J r=>e v _ _ (n.trans (h.trans (m.trans X))) J r
 ·rw[if_neg hs]at g;exact g.elim
def Ar5 (fo fi:m6):o_:=fun p c=>(frz (nrm p) c).bind fun d c=>(fo c).bind fun o c=>(fi c).bind fun q c=>match slL c (nrm o),Zh (Dl c (nrm q)) with
 | some (i,b,ds),some k=>match ixN ds.length k with
  | some j=>.ok () (c.set i (some (.ls b (ds.set j d))))
  | none=>.bad
 | _,_=>.bad
theorem A4j   (ho:ME K u A) (hi:ME K z fi):MG K (Bu4 u z Bm2) (Ar5 A fi):=by
 intro β W c σ p v fp k R r s;obtain⟨W0,M,l,C,F⟩:=Bq3 R r;obtain⟨d,c1,W1,_,D,E,n,G,I⟩:=Jd C F s.bnd;rw[<- M,<- E]
 refine ho.toV _ _ _ _ _ G (D.bnd.mono fun o c2 J v2 W2 g L w=>?_)
 refine hi.toV _ _ _ _ _ L (J.bnd.mono fun q y e v3 W3 f B N=>?_)
 cases ex:slL y (nrm o) with
 | none=>simp only[ex]at e;exact e.elim
 | some x =>
  obtain⟨i,b,O⟩:=x
  cases ey:Zh (Dl y (nrm q)) with
  | none=>simp only[ex,ey]at e;exact e.elim
  | some m =>
   simp only[ex,ey]at e
   cases ej:ixN O.length m with
   | none=>simp only[ej]at e;exact e.elim
   | some j =>
    simp only[ej]at e;obtain⟨H,Q⟩:=Y8 ex;rw[H]at w
    cases Dv (Eh B N (Ym ey))
    obtain⟨a,S,rfl,P,t,T⟩:=B.mut Q w;obtain⟨U,h⟩:=T _ _ (TrL.setAt j t (Tr.same (g.trans f).fz I))
    refine⟨a,S,m,j,rfl,rfl,P,by rw[<- t.length];exact ej,?_⟩
    exact e _ _ (l.trans (n.trans (g.trans (f.trans h)))) U
def Bf3 (i j:Nat)(f:n7):Ev->SR:=fun c=>(f c).toS fun ps c=>(frzs ps c).toS fun ds c=>match ds with
 | [x,y]=>.nx ((c.set i (some (.im x))).set j (some (.im y)))
 | _=>.bad
theorem A9g    (h:Wo.S ⟨W.Hf,W.H,clr W.fps i⟩ a):W.S a:=B0i h
theorem A7b    (h:MA K m f):MS K (Bv3 i j m) (Bf3 i j f):=by
 intro β W c σ D R l
 refine h _ W c _ _ R ((Em l).mono fun ps c1 C vs W1 k t w=>?_)
 obtain⟨A,c2,n,b,s,g,q,d⟩:=O4 t w (Em C)
 match A,d,b with
 | [x,y],d,b =>
  obtain⟨v,r,rfl,B,u,r',rfl,E,e⟩:=d
  cases (e)
  refine⟨v,u,rfl,?_⟩
  have p:=q.setN (i:=i) (o:=.im x) B rfl;rw[<- s]
  exact b _ ⟨n.Hf,n.H,clr _ j⟩ ((k.trans g).less fun a z=>A9g (A9g  z)) (p.setN (i:=j) (o:=.im y)  E rfl)
 | [],d,b=>trivial
 | [_],d,b=>trivial
 | _::_::_::_,d,b=>exact b.elim
def A9f (i j m:Nat)(f:n7):Ev->SR:=fun c=>(f c).toS fun ps c=>(frzs ps c).toS fun ds c=>match ds with
 | [x,y,z]=>.nx (((c.set i (some (.im x))).set j (some (.im y))).set m (some (.im z)))
 | _=>.bad
theorem Bh3 {i j m:Nat}{n:TA}{f:n7}(h:MA K n f):MS K (A6w i j m n) (A9f i j m f):=by
 intro β W c σ D R l
 refine h _ W c _ _ R ((Em l).mono fun ps c1 s vs W1 k t A=>?_)
 obtain⟨B,c2,p,b,C,g,E,d⟩:=O4 t A (Em s)
 match B,d,b with
 | [x,y,z],d,b =>
  obtain⟨v,r,rfl,G,u,r',rfl,F,w,H,rfl,I,e⟩:=d
  cases (e)
  refine⟨v,u,w,rfl,?_⟩
  have q:=(E.setN (i:=i) (o:=.im x) G rfl).setN (i:=j) (o:=.im y)  F rfl;rw[<- C]
  exact b _ ⟨p.Hf,p.H,clr _ m⟩ ((k.trans g).less fun a z=>A9g (A9g  (A9g  z))) (q.setN (i:=m) (o:=.im z)  I rfl)
 | [],d,b=>trivial
 | [_],d,b=>trivial
 | [_,_],d,b=>trivial
 | _::_::_::_::_,d,b=>exact b.elim
end
end U
set_option autoImplicit true
namespace L2
open PySem U
theorem Dk (ha:QE X a ta)(hb:QE X b tb):QE X (.BinOp a .Add b pos) (tOp Bp8 ta tb):=⟨Wt Bp4 ha.get hb.get⟩
theorem Wk (hu:X.A.units+64<cLine)(ha:QE X a ta)(hb:QE X b tb):QE X (.Compare a [.Eq] [b] pos) (tOp rEQ ta tb):=⟨Y5 (Bm3 hu) ha.get hb.get (Lw _)⟩
theorem K5 (hu:X.A.units+64<cLine)(ha:QE X a ta)(hb:QE X b tb):QT X (.Compare a [.Eq] [b] pos) (Kw (tOp rEQ ta tb)):=⟨Mq (Bm3 hu) ha.get hb.get (Lw _)⟩
theorem Ab0 (hu:X.A.units+64<cLine)(ha:QE X a ta)(hb:QE X b tb):QT X (.Compare a [.NotEq] [b] pos) (Kw (tOp rNE ta tb)):=⟨Mq (B1k hu) ha.get hb.get (Lw _)⟩
theorem J9  (a:X.K=Kq) (hgl:Gl X "len") (hm:X.mg "len" = none) (ha:QA X (e::es) t) (hns:noStar (e::es)=true:=by rfl):QE X (.Call (.Name "len" p) (e::es) [] pos) (tCB (A9s Kq) t):=by
 subst a
 exact⟨Eo A3a hgl hm B0w ha.get (by decide) (by rfl) hns⟩
theorem A8c  (a:X.K=Kq) (hu:X.A.units+64<cLine) (hg:X.A.guards=some []) (hgl:Gl X "str") (hm:X.mg "str" = none) (ha:QA X (e::es) t) (hns:noStar (e::es)=true:=by rfl):QE X (.Call (.Name "str" p) (e::es) [] pos) (tCB (Bq0 Kq) t):=by
 exact⟨Kr (U.CallR.or (U.CallR.or Zi (A0o hu hg)) A1p) hgl hm Pr ha.get (by decide) (by rfl) hns⟩
theorem Wx  (a:X.K=Kq) (he:QE X e te) (hl:QO X low tl) (hu:QO X hi th):QE X (.Subscript e (.Slice low hi none p2) pos) (tSl (rSL Kq) te tl th):=by
 subst a;exact A7e Bs5 he hl hu
end L2
namespace U
open PySem L2
def Def (P:u6)(w:World)(K:v9)(mg:x_)(base:Heap)(x:Str)(k:Nat)(ps:v4)(sp:Sp):Prop :=
 ∃(f:Addr) (fd:u5),FnOk P w K mg base CX0 k f fd ps sp/\Binds K fd ps []/\PySem.W.keepIn K (.ref f)=true/\mg x=some (.ref f)
def Av6 (K:v9):Sp:=fun vs H Q _=>∃(a:Addr) (ns:List Int),vs=[.ref a]/\SqL K H a (ns.map V.int)/\ns.length<=63/\∀H',Q (.bl true) H'
theorem Bu2   (f:∀b:List Int,b.length<=63->F [.sc b]=.ret (.im (.bool true)) [.sc b])     (h:Av6 K vs H Q E):spP K F vs H Q E:=by
 obtain⟨a,b,rfl,c,d,q⟩:=h
 refine⟨fun _=>.non,⟨H,H,fun _=>[]⟩,[.sc b],rfl,rfl,⟨Same.refl _,rfl,fun i o e=>?_,fun i j a h=>by grind,fun i a h=>by grind⟩,?_⟩
 ·cases i with
  | zero =>
   cases (show some _=some _ from e)
   exact⟨.ref a,rfl,⟨rfl,a,rfl,c⟩,fun z=>nomatch z⟩
  | succ i=>grind
 ·rw[f _ d]
  intro v W' fp st R r n
  cases (show v=.bl _ from r.2)
  grind
theorem A2v          : FnOk P w K mg base CX0 n f c ps (spP K fun _=>.bad) :=
 ⟨fun d H Q E h=>by obtain⟨_,_,_,_,_,_,h⟩:=h;simp_all,fun A a s H b e d Q E _ _ _ _ h=>by obtain⟨_,_,_,_,_,_,h⟩:=h;simp_all⟩
def At4 (i j:Int):Bool:=decide (0<j)&&decide (j<1073741824)
theorem A7j (i j:Int)(h:At4 i j=true):A8i i j:=by
 obtain⟨b,a⟩:=aq.mp h;exact⟨aL b,aL a⟩
def A3h (i j:Int):Bool:=decide (0<j)
theorem A6n (i j:Int)(h:A3h i j=true):0<j:=aL h
def Af2 (i j:Int):Bool:=decide (0<=j)&&(decide (j<=1000000)&&decide (i.natAbs<2 ^ 64))
theorem A5i (i j:Int)(h:Af2 i j=true):A4g i j:=by
 obtain⟨c,a⟩:=aq.mp h;obtain⟨a,b⟩:=aq.mp a;exact⟨aL c,aL a,aL b⟩
section
variable {K:v9}
abbrev M4:t_->t_->m_:=Vv fun i j=>.int (i-j)
abbrev Ap1:t_->t_->m_:=Vv fun i j=>.bool (decide (j<i))
abbrev Bt7:t_->t_->m_:=Vv fun i j=>.bool (decide (j<=i))
theorem Iz:OpS K (rI0 fun i j=>.int (i-j)) M4:=Yp fun _ _ _=>rfl
theorem A8z:OpS K (rI0 fun i j=>.bl (decide (j<i))) Ap1:=Yp fun _ _ _=>rfl
theorem Bz6:OpS K (rI0 fun i j=>.bl (decide (j<=i))) Bt7:=Yp fun _ _ _=>rfl
abbrev X5:t_->t_->m_:=opI At4 fun i j=>i / j
abbrev Ph:t_->t_->m_:=opI A3h fun i j=>i % j
abbrev Q7:t_->t_->m_:=opI Af2 fun i j=>i ^ j.toNat
theorem Z0:OpS K (rI A8i fun i j=>.int (i / j)) X5:=Ar0 A7j
theorem Kg:OpS K (rI (fun _ j=>0<j) fun i j=>.int (i % j)) Ph:=Ar0 A6n
theorem Ly:OpS K (rI A4g fun i j=>.int (i ^ j.toNat)) Q7:=Ar0 A5i
def Bz4 (fa fb:m6):m6:=fun c=>(fa c).bind fun p c=>(fb c).bind fun q c=>match nrm p,Zh (Dl c (nrm q)) with
 | .o (.sc ns),some k=>match atI ns k with
  | some i=>.ok (.o (.im (.int i))) c
  | none=>.bad
 | _,_=>.bad
theorem Be4   (h:atI ns k=some i):atI (ns.map V.int) k=some (V.int i):=by
 unfold atI at h ⊢;obtain⟨j,b,a⟩:=bh.mp h
 simp_all
theorem B0c   (ha:ME K h fa) (hb:ME K j fb):ME K (tOp (rIx K) h j) (Bz4 fa fb):=by
 intro β W c σ Q R s
 refine ha.toV _ W c _ _ R (s.bnd.mono fun p c1 u v1 W1 f n d=>?_)
 refine hb.toV _ _ _ _ _ n (u.bnd.mono fun q t b v2 W2 e g m=>?_)
 have d:=RepA.same e.fz d
 cases ey:Zh (Dl t (nrm q)) with
 | none =>
  simp only[ey]at b;generalize nrm p=np at b
  cases np with
  | sl i=>trivial
  | o o=>cases o <;> exact b.elim
 | some k =>
  simp only[ey]at b;generalize nrm p=np at b d
  match np,d,b with
  | .o (.sc ns),d,b =>
   have b:(match atI ns k with
    | some i=>U.R.ok _ _
    | none=>.bad).sat _:=b
   cases ei:atI _ k with
   | none=>rw[ei]at b;trivial
   | some i =>
    rw[ei]at b;obtain⟨a,rfl,w⟩:=d
    cases Dv (Eh g m (Ym ey))
    exact .inl ⟨a,_,k,.int i,rfl,rfl,Same.seq g.sub w,Be4 ei,g.here (o:=.im (.int i))  rfl rfl fun v W' fp x l r=>b v _ _ (f.trans (e.trans x)) l r⟩
  | .o (.im _),d,b=>exact b.elim
  | .o (.ls _ _),d,b=>exact b.elim
  | .o (.ty _),d,b=>exact b.elim
  | .sl _,d,b=>trivial
end
section
variable {P:u6}{w:World}{K:v9}{X:Cx}{Hf H:Hp}{Q:VK}{β:Nat->V}{W W':Wo}{c c':Ev}{σ:St}{v:V}
def cMt (isT:t_->Bool)(op:t_->t_->m_)(fa fb:m6):m6:=fun c=>(fa c).bind fun p c=>match Dl c (nrm p) with
 | some d=>if isT d=true then (fb c).bind fun q c=>match Dl c (nrm p),Dl c (nrm q) with
  | some x,some y=>match op x y with
   | some o=>.ok (.o o) c
   | none=>.bad
  | _,_=>.bad
  else .bad
 | none=>.bad
theorem A3c       (ha:ME K l fa) (hb:ME K m fb)
 (n:∀(Hf H:Hp) (d:t_) (v:V),a d=true->Same Hf H->RdV Hf H d v->tyV K T v H) (hr:OpS K (fun x y H Q=>r x [y] H Q) op):ME K (tBM K T r l (Ca m Fl)) (cMt a op fa fb):=by
 intro E W c C Q R s
 refine ha.toV _ W c _ _ R (s.bnd.mono fun p w e B D i h j=>?_)
 cases ed:Dl w (nrm p) with
 | none=>simp only[ed]at e;trivial
 | some d =>
  simp only[ed]at e
  by_cases it:a d=true
  case neg=>rw[if_neg it]at e;trivial
  rw[if_pos it]at e
  refine⟨n _ _ d _ it h.sub (Eh h j ed),?_⟩
  refine hb.toV _ _ _ _ _ h (e.bnd.mono fun q k b I J f g u=>?_)
  cases ex:Dl k (nrm p) with
  | none=>simp only[ex]at b;trivial
  | some x =>
   cases ey:Dl k (nrm q) with
   | none=>simp only[ex,ey]at b;trivial
   | some y =>
    simp only[ex,ey]at b
    cases eo:op x y with
    | none=>simp only[eo]at b;trivial
    | some o =>
     simp only[eo]at b
     exact hr _ _ _ _ x y o Q g.sub (Eh g (RepA.same f.fz j) ex) (Eh g u ey) eo (New.of g fun v F G z A t=>b v _ _ (i.trans (f.trans z)) A t)
def Gs:t_->Bool
 | .tuple _=>true
 | _=>false
theorem A4w (Hf H:Hp)(d:t_)(v:V)(h:Gs d=true)(s:Same Hf H)(r:RdV Hf H d v):tyV K "tuple" v H:=by
 cases d with
 | tuple ds =>
  obtain⟨a,c,rfl,b,t⟩:=Gm s r;exact .inr (.inr (.inr (.inr ⟨rfl,c,b⟩)))
 | _=>cases h
def strsOf:w5->Option (v4)
 | []=>some []
 | .str z::ds=>(strsOf ds).map (z::·)
 | _=>none
theorem A8y:∀{ds:w5}{ss:v4}{vs:l_},strsOf ds=some ss->TrL Hf ds vs->vs=ss.map V.str
 | [],ss,vs,h,t=>by cases h;exact t
 | d::ds,ss,_,h,⟨v,r,rfl,h1,h2⟩=>by
  cases d with
  | str z =>
   have h:(strsOf ds).map (z::·)=some ss:=h
   cases e:strsOf ds with
   | none=>rw[e]at h;cases h
   | some ts =>
    rw[e]at h;cases h
    rw[A8y e h2,show v=V.str z from h1];rfl
  | _=>cases h
def Vm (y:Str):v4->Option Nat
 | []=>none
 | x::xs=>if x==y then some 0 else (Vm y xs).map (·+1)
theorem Ar7 {y:Str}:∀{xs:v4}{j:Nat},Vm y xs=some j->xs[j]?=some y/\∀m<j,xs[m]?≠some y
 | [],j,h=>by cases h
 | x::xs,j,h=>by
  unfold Vm at h
  by_cases q:(x==y)=true
  ·rw[if_pos q]at h;cases h
   exact⟨by simpa using q,fun m hm=>absurd hm (Nat.not_lt_zero _)⟩
  ·rw[if_neg q]at h
   cases e:Vm y xs with
   | none=>rw[e]at h;cases h
   | some k =>
    rw[e]at h;cases h;obtain⟨h1,h2⟩:=Ar7 e
    refine⟨by simpa using h1,fun m hm=>?_⟩
    cases m with
    | zero=>simpa using q
    | succ m=>simpa using h2 m (eV hm)
def R9:t_->t_->m_
 | .tuple ds,.str y=>(strsOf ds).bind fun ss=>(Vm y ss).map fun j=>.im (.int (j:Nat))
 | _,_=>none
theorem A2j:OpS K (fun x y H Q=>Za K x [y] H Q) R9:=by
 intro Hf H x y dx dy o Q s f g e n;unfold R9 at e
 split at e
 ·rename_i d z
  obtain⟨a,vs,rfl,i,t⟩:=Gm s f
  cases es:strsOf d with
  | none=>grind
  | some b =>
   rw[es]at e;have e:(Vm z _).map _=some o:=e
   cases ei:Vm z b with
   | none=>grind
   | some j =>
    rw[ei]at e;cases e
    cases Hw g
    cases A8y es t
    obtain⟨h,c⟩:=Ar7 ei;exact⟨a,b,z,j,rfl,rfl,SqT.of i,h,c,n.int s⟩
 grind
end
end U
namespace L2
open PySem U
theorem Bx3 {X:Cx}{o i:Expr}{b ty:TE}{a:Pos}(hu:X.A.units+64<cLine)(ho:QE X o b)(hi:QE X i ty)(hs:B0j i):QE X (.Subscript o i a) (A6e b ty):=⟨Ba5 (by (first|lia|omega)) ho.get hi.get hs⟩
end L2
namespace U
open PySem L2 PySem.W
def Bq9:O->Option t_
 | .im k=>some k
 | .ls false xs=>some (.list xs)
 | _=>none
def Ak8 (F:m7)(d:t_):Option t_:=match F [.im d] with
 | .ret o _=>Bq9 o
 | .bad=>none
def Sy (F:m7):w5->Option (w5)
 | []=>some []
 | d::ds=>(Ak8 F d).bind fun k=>(Sy F ds).map (k::·)
def kdOf:w5->Kd
 | .tuple (.tuple _::_)::_=>.tt
 | .tuple (.list _::_)::_=>.tl
 | .int _::_=>.ii
 | .list _::_=>.ll
 | _=>.ti
def Ou (ds ks:w5):Option (w5):=if ds.length<2 then some ds else if ds.length<64&&(ks.all (Jz (kdOf ks))&&ks.all By) then (kEv (Zz (kdOf ks) ks) (kas_sort ds.length)).map fun p=>p.toList.map fun i=>ds.getD i .none else none
def Br9 (F:m7)(fa:m6):m6:=fun c=>(fa c).bind fun p c=>match (Dl c (nrm p)).bind Lq with
 | none=>.bad
 | some ds=>match (Sy F ds).bind (Ou ds) with
  | none=>.bad
  | some out=>.ok (.o (.ls false out)) c
section
variable {K:v9}{β:Nat->V}{W W':Wo}{c c':Ev}{σ:St}{Hf H:Hp}
theorem TrL.at_:∀{ds:w5}{vs:l_},TrL Hf ds vs->∀i,Tr Hf (ds.getD i .none) (vs.getD i .non)
 | [],_,h,i=>by cases (show _=[] from h);exact rfl
 | d::ds,_,⟨v,r,e,t,ts⟩,0=>by subst e;exact t
 | d::ds,_,⟨v,r,e,t,ts⟩,i+1=>by subst e;exact TrL.at_ ts i
theorem TrL.pick {ds:w5}{vs:l_}(t:TrL Hf ds vs):∀l:List Nat,TrL Hf (l.map fun i=>ds.getD i .none) (l.map fun i=>vs.getD i .non)
 | []=>rfl
 | i::l=>⟨_,_,rfl,TrL.at_ t i,TrL.pick t l⟩
theorem TrL.len':∀{ds:w5}{vs:l_},TrL Hf ds vs->ds.length=vs.length
 | [],_,h=>by cases (show _=[] from h);rfl
 | d::ds,_,⟨v,r,e,t,ts⟩=>by subst e;rw[aG,aG,TrL.len' ts]
theorem A5c     (R:Rep K β W c σ) (t:Tr W.Hf d v) (m:Ak8 F d=some k) (h:∀e a,Stp W.S W.Hf W.H a.S a.Hf a.H->Rep K β a c σ->Tr a.Hf k e->Q e a.H):spP K F [v] W.H Q E0:=by
 have j:∃o b,F [.im d]=.ret o b/\Bq9 o=some k:=by
  unfold Ak8 at m
  grind
 obtain⟨o,b,j,f⟩:=j
 have p:nrm (.o o)=.o (.im k):=by
  unfold Bq9 at f
  split at f
  ·cases f;rfl
  ·cases f;rfl
  trivial
 have r:Lp F [.o (.im d)] c=.ok (.o o) c:=by
  unfold Lp;simp only[Oq,du,j]
  rfl
 refine (Lz (ps:=[.o (.im d)])  R ⟨v,[],rfl,t,rfl⟩ ?_:spP K F _ _ _ _)
 rw[r]
 exact fun x w n g q i=>Bm4    (fun e a u s l=>h e _ u s (by rw[p]at l;exact l)) _ _ _ g q i
theorem Aa0 {F:m7}{Q:l_->Hp->Prop}:∀(ds:w5) (vs:l_) (ks kd:w5) (kv:l_) (W:Wo),Rep K β W c σ->TrL W.Hf ds vs->Sy F ds=some ks->TrL W.Hf kd kv ->
 (∀W' kv',Stp W.S W.Hf W.H W'.S W'.Hf W'.H->Rep K β W' c σ->TrL W'.Hf (kd++ks) kv'->Q kv' W'.H)->Av1 (spP K F) vs kv W.H Q
 | [],vs,ks,kd,kv,W,R,t,e,tk,h=>by
  cases (show vs=[] from t)
  cases (show some []=some ks from e)
  exact h W kv Stp.refl R (by rw[bQ];exact tk)
 | d::ds,vs,ks,kd,kv,W,R,⟨v,r,ev,t,ts⟩,e,tk,h=>by
  subst ev
  obtain⟨k,e1,e2⟩:=bh.mp (show (Ak8 F d).bind (fun k=>(Sy F ds).map (k::·))=some ks from e)
  obtain⟨ks',e3,rfl⟩:=aH.mp e2
  show spP K F [v] W.H (fun kv1 H1=>Av1 (spP K F) r (kv++[kv1]) H1 Q) E0
  refine A5c R t e1 fun v' W' st R' tv=>?_
  refine Aa0 ds r ks' (kd++[k]) (kv++[v']) W' R' (TrL.same st.fz ts) e3 ((TrL.same st.fz tk).app (TrL.one tv)) fun W2 kv' st2 R2 t2=>?_
  exact h W2 kv' (st.trans st2) R2 (by rw[dH]at t2;exact t2)
theorem Bn8     (ha:ME K C fa):ME K (Br5 K f (spP K F) (Ca C Fl) (Ca (tC (.ref f)) Fl)) (Br9 F fa):=by
 intro M W c σ Q R s
 refine ha.toV M W c σ _ R (s.bnd.mono fun p L i U r u n T=>?_)
 cases ed:(Dl L (nrm p)).bind Lq with
 | none=>simp only[ed]at i;exact i.elim
 | some l =>
  simp only[ed]at i
  cases ek:(Sy F l).bind (Ou l) with
  | none=>simp only[ek]at i;exact i.elim
  | some o =>
   simp only[ek]at i;obtain⟨d,Y,w⟩:=bh.mp ed;obtain⟨m,S,g⟩:=bh.mp ek;have B:=Eh n T Y
   obtain⟨a,b,rfl,G,t⟩:∃a b,U=.ref a/\(SqL K r.H a b\/SqT K r.H a b)/\TrL r.Hf l b:=by
    cases d with
    | list H =>
     cases w
     obtain⟨a,b,e,h,t⟩:=Ep B;exact⟨a,b,e,.inl (SqL.of h),t⟩
    | tuple H =>
     cases w
     obtain⟨a,b,e,h,t⟩:=Gm n.sub B;exact⟨a,b,e,.inr (SqT.of h),t⟩
    | _=>cases w
   refine⟨a,b,rfl,rfl,G,?_⟩
   refine Aa0 _ _ _ [] _ _ n t S rfl fun J kv j x N=>?_
   have t:=TrL.same j.fz t;have P:=TrL.len' t
   have k:∀(z:List _) (y:l_),z=o->TrL _ z y->∀q,J.H q=none->Q (.ref q) (upd _ q (.lst y)):=fun z y e X q I=>by
    subst e
    exact New.lst (New.of x fun v W' fp Z R' rp=>i v _ _ (u.trans (j.trans Z)) R' rp) x.sub X I
   unfold Ou at g
   by_cases h2:l.length<2
   ·rw[if_pos h2]at g
    cases g
    exact .inl ⟨by (first|lia|omega),k _ _ rfl t⟩
   ·rw[if_neg h2]at g
    by_cases hb:(decide (l.length<64)&&(m.all (Jz (kdOf m))&&m.all By))=true
    ·rw[if_pos hb]at g
     obtain⟨D,A⟩:=aq.mp hb;obtain⟨A,b3⟩:=aq.mp A;have D:=aL D;obtain⟨pm,q1,q2⟩:=aH.mp g
     refine .inr ⟨by (first|lia|omega),by (first|lia|omega),m,kdOf _,pm,TrL.same x.sub N,A,fun d E=>Ge (aU.mp b3 d E),by rw[<- P];exact q1,k _ _ q2 (TrL.pick t _)⟩
    ·rw[if_neg hb]at g;cases g
end
end U
namespace U
open PySem L2
section
variable {K:v9}{Hf H:Hp}
def Lx:t_->Bool
 | .list _=>true
 | _=>false
theorem Ap8 (Hf H:Hp)(d:t_)(v:V)(h:Lx d=true)(s:Same Hf H)(r:RdV Hf H d v):tyV K "list" v H:=by
 cases d with
 | list ds =>
  obtain⟨a,c,rfl,b,t⟩:=Ep r;exact .inl ⟨rfl,c,SqL.of b⟩
 | _=>cases h
def A7o:List Bool->Option Nat
 | []=>none
 | true::_=>some 0
 | false::r=>(A7o r).map (·+1)
theorem Aq9:∀{bs:List Bool}{j:Nat},A7o bs=some j->bs[j]?=some true/\∀m<j,bs[m]?≠some true
 | true::r,j,h=>by cases h;exact⟨rfl,fun m hm=>by (first|lia|omega)⟩
 | false::r,j,h=>by
  obtain⟨k,h1,rfl⟩:=aH.mp (show (A7o r).map (·+1)=some j from h)
  obtain⟨q1,q2⟩:=Aq9 h1
  refine⟨by rw[c7];exact q1,fun m hm=>?_⟩
  cases m with
  | zero=>simp
  | succ m=>rw[c7];exact q2 m (by (first|lia|omega))
def Vf:t_->t_->m_
 | .list ds,.bool true=>(boolsOf ds).bind fun bs=>(A7o bs).bind fun j=>if j<1000000 then some (.im (.int (j:Nat))) else none
 | _,_=>none
theorem An1:OpS K (fun x y H Q=>At1 K x [y] H Q) Vf:=by
 intro Hf H x y dx dy o Q s rx ry e n;unfold Vf at e
 split at e
 ·rename_i ds
  obtain⟨bs,e1,e2⟩:=bh.mp (show ((boolsOf ds).bind fun bs=>(A7o bs).bind fun j=>if j<1000000 then some (O.im (.int (j:Nat))) else none)=some o from e)
  obtain⟨j,e3,e4⟩:=bh.mp e2
  by_cases hb:j<1000000
  ·rw[if_pos hb]at e4
   cases e4
   obtain⟨a,vs,rfl,h1,t⟩:=Ep rx
   cases Sd e1 t
   cases (show y=.bl true from ry)
   obtain⟨q1,q2⟩:=Aq9 e3;exact⟨a,bs,j,rfl,rfl,SqL.of h1,q1,q2,hb,n.int s⟩
  ·rw[if_neg hb]at e4;cases e4
 ·cases e
end
inductive XF where
 | ret (o:O)
 | ex (nm:Xn)
 | bad
inductive XS where
 | s (r:SR)
 | ex (nm:Xn) (c:Ev)
def spX (K:v9)(F:w5->XF):Sp:=fun vs H Q E=>∃(Hf:Hp) (ds:w5),Same Hf H/\TrL Hf ds vs/\match F ds with
 | .bad=>False
 | .ret o=>∀v Hf' H' fp,Stp (fun _=>False) Hf H (fun a=>a∈fp) Hf' H'->Same Hf' H'->RepO K Hf' H' o v fp->Q v H'
 | .ex nm=>∀C d Hf' H',XAt K Hf' nm C d->Stp (fun _=>False) Hf H (fun _=>False) Hf' H'->Same Hf' H'->E (.ref C) d H'
def LeadX (K:v9)(β:Nat->V)(W:Wo)(D:Ends)(E:XK):XS->Prop
 | .s r=>zG K β W D r
 | .ex nm c'=>∀C d σ' W',XAt K W'.Hf nm C d->Stp W.S W.Hf W.H W'.S W'.Hf W'.H->Rep K β W' c' σ'->E (.ref C) d W'.H
def MX (K:v9)(E:XK)(T:TS)(f:Ev->XS):Prop:=∀(β:Nat->V) (W:Wo) (c:Ev) (σ:St) (D:Ends),Rep K β W c σ->LeadX K β W D E (f c)->T D σ W.H
def Q6 (f:Ev->SR):Ev->XS:=fun c=>.s (f c)
def Af0 (f g:Ev->XS):Ev->XS:=fun c=>match f c with
 | .s (.nx c)=>g c
 | r=>r
def xIf (t:n_)(f g:Ev->XS):Ev->XS:=fun c=>match t c with
 | .ok b c=>if b=true then f c else g c
 | .bad=>.s .bad
def Xa (nm:Str)(fa:n7):Ev->XS:=fun c=>match fa c with
 | .ok _ c=>.ex ⟨nm,none⟩ c
 | .bad=>.s .bad
def scO:O->Bool
 | .im .none=>true
 | .im (.bool _)=>true
 | .im (.int _)=>true
 | .im (.str _)=>true
 | _=>false
def Au4 (F:w5->XF)(fa:n7)(k:O->Ev->XS)(h:Xn->Ev->XS):Ev->XS:=fun c=>match fa c with
 | .bad=>.s .bad
 | .ok ps c=>match Vj c ps with
  | none=>.s .bad
  | some ds=>match F ds with
   | .bad=>.s .bad
   | .ret o=>if scO o=true then k o c else .s .bad
   | .ex nm=>if nm.p.isNone=true then h nm c else .s .bad
def A5d (F:w5->XF)(fa:n7)(i:Nat):Ev->XS:=Au4 F fa (fun o c=>.s ((cgN i (.o o) c).toS fun _ c=>.nx c)) .ex
def Ah6 (n N:Nat)(body:Ev->XS):w5->XF:=fun ds=>if ds.length=n then match body (ds.map (fun d=>some (.im d))++List.replicate (N-n) none) with
 | .s (.nx _)=>.ret (.im .none)
 | .s (.rt p c)=>match resolve p c with
  | some (o,_)=>.ret o
  | none=>.bad
 | .ex nm _=>.ex nm
 | _=>.bad
 else .bad
section
variable {K:v9}{β:Nat->V}{W W':Wo}{c c':Ev}{σ σ':St}{D:Ends}{E:XK}{Hf H:Hp}{o:O}{v:V}{fp:v6}
theorem LeadX.step {r:XS}(h:LeadX K β W D E r)(st:Stp W.S W.Hf W.H W'.S W'.Hf W'.H):LeadX K β W' D E r:=by
 cases r with
 | s r=>exact zG.step h st
 | ex nm c=>exact fun C d σ2 W2 hn st2 R2=>h C d σ2 W2 hn (st.trans st2) R2
theorem Mm {T:TS}{f:Ev->SR}(h:MS K T f):MX K E T (Q6 f):=fun β W c σ D R l=>h β W c σ D R l
theorem Ut {T U:TS}{f g:Ev->XS}(h1:MX K E T f)(h2:MX K E U g):MX K E (A6i T U) (Af0 f g):=by
 intro β W c σ D R l
 refine h1 β W c σ _ R ?_
 unfold Af0 at l
 cases e:f c with
 | ex nm c1=>rw[e]at l;exact l
 | s r =>
  rw[e]at l
  cases r with
  | nx c1=>exact fun σ' W1 st R1=>h2 β W1 c1 σ' D R1 (LeadX.step l st)
  | rt p c1=>exact l
  | bk c1=>exact l
  | ct c1=>exact l
  | bad=>exact l
theorem Bm1 {tc:TT}{T U:TS}{ft:n_}{f g:Ev->XS}(h:MT K tc ft)(h1:MX K E T f)(h2:MX K E U g):MX K E (Bf7 tc T U) (xIf ft f g):=by
 intro β W c σ D R l;unfold xIf at l
 refine h β W c σ _ R ?_
 cases e:ft c with
 | bad=>rw[e]at l;exact l
 | ok b c1 =>
  rw[e]at l;intro W1 st R1
  cases b with
  | true=>exact h1 β W1 c1 σ D R1 (LeadX.step l st)
  | false=>exact h2 β W1 c1 σ D R1 (LeadX.step l st)
theorem A3m {nm:Str}{C:Addr}{t:TA}{fa:n7}(hn:PySem.W.nsIn K mainGlobals nm=some (some (.ref C)))(ha:MA K t fa)(hl:∀c ps c',fa c=.ok ps c'->ps.length<=1000):MX K E (Aj8 C E t) (Xa nm fa):=by
 intro β W c σ D R l;unfold Xa at l
 refine ha β W c σ _ R ?_
 cases e:fa c with
 | bad=>rw[e]at l;exact l
 | ok ps c1 =>
  rw[e]at l;intro vs W1 st R1 r1
  have:∀{ps:List PV} {vs:l_},zF K W1.Hf σ ps vs->vs.length=ps.length:=fun {ps}=>by
   induction ps with
   | nil=>intro vs h;cases (show vs=[] from h);rfl
   | cons p r ih=>intro vs h;obtain⟨v,vr,rfl,_,t⟩:=h;rw[aG,aG,ih t]
  exact⟨by rw[this r1];exact aj (hl c ps c1 e) (by decide),l C none σ W1 ⟨hn,rfl⟩ st R1⟩
theorem A7a (s:Same Hf H):∀{ds:w5}{vs:l_},A4v Hf H ds vs->TrL H ds vs
 | [],vs,h=>h
 | d::ds,_,⟨v,r,rfl,h,t⟩=>⟨v,r,rfl,h.tr s,A7a s t⟩
theorem B0m {Hf' H':Hp}(h:scO o=true)(r:RepO K Hf' H' o v fp)(W2:Wo)(σ:St):Ea K W2 σ (.o o) v []:=by
 unfold scO at h
 split at h
 ·exact⟨⟨rfl,r.2⟩,fun a z=>nomatch z⟩
 ·exact⟨⟨rfl,r.2⟩,fun a z=>nomatch z⟩
 ·exact⟨⟨rfl,r.2⟩,fun a z=>nomatch z⟩
 ·exact⟨⟨rfl,r.2⟩,fun a z=>nomatch z⟩
 ·cases h
theorem Mf {S:Addr->Prop}{H':Hp}(s:Same H H'):Stp S Hf H S Hf H':=⟨Same.refl _,fun a o e _=>s a o e,fun a o e mu n q=>q,fun a z=>.inl z⟩
theorem A6y {F:w5->XF}{fa:n7}{t:TA}{k:O->Ev->XS}{h:Xn->Ev->XS}{Q:VK}{E':XK}(ha:MA K t fa)(R:Rep K β W c σ)(l:LeadX K β W D E (Au4 F fa k h c))
 (hk:∀o c1 W2 v,Stp W.S W.Hf W.H W2.S W2.Hf W2.H->Rep K β W2 c1 σ->LeadX K β W D E (k o c1)->Ea K W2 σ (.o o) v []->Q v W2.H)
 (hh:∀nm c1 W2 C d,Stp W.S W.Hf W.H W2.S W2.Hf W2.H->Rep K β W2 c1 σ->LeadX K β W D E (h nm c1)->XAt K W2.Hf nm C d->E' (.ref C) d W2.H) :
 t σ W.H fun vs H1=>spX K F vs H1 Q E':=by
 unfold Au4 at l
 refine ha β W c σ _ R ?_
 cases e:fa c with
 | bad=>rw[e]at l;exact l
 | ok ps c1 =>
  rw[e]at l;intro vs W1 st R1 r1
  cases ea:Vj c1 ps with
  | none=>simp only[ea]at l;exact l.elim
  | some ds =>
   simp only[ea]at l
   refine⟨W1.H,ds,Same.refl _,A7a R1.sub (A2y R1 r1 ea),?_⟩
   have still:∀{Hf' H':Hp} {fp:v6},Stp (fun _=>False) W1.H W1.H (fun a=>a∈fp) Hf' H'->Same Hf' H'->Stp W.S W.Hf W.H (Wo.S ⟨W1.Hf,H',W1.fps⟩) W1.Hf H'/\Rep K β ⟨W1.Hf,H',W1.fps⟩ c1 σ:=fun {Hf' H' fp} s2 sub=>by
    have sm:Same W1.H H':=fun a o e=>sub a o (s2.fz a o e)
    exact⟨st.trans (Mf sm),Stp.rep (S':=fun _=>False) R1 (Mf sm) fun a o e=>sm a o (R1.sub a o e)⟩
   cases ef:F ds with
   | bad=>simp only[ef]at l;exact l.elim
   | ret o =>
    simp only[ef]at l;intro v Hf' H' fp s2 sub r
    by_cases hs:scO o=true
    ·rw[if_pos hs]at l
     obtain⟨s3,R3⟩:=still s2 sub;exact hk o c1 ⟨W1.Hf,H',W1.fps⟩ v s3 R3 l (B0m hs r _ _)
    ·rw[if_neg hs]at l;exact l.elim
   | ex nm =>
    simp only[ef]at l;intro C d Hf' H' hn s2 sub
    obtain⟨s3,R3⟩:=still (fp:=[]) (s2.less fun a z=>nomatch z) sub
    by_cases hp:nm.p.isNone=true
    ·rw[if_pos hp]at l
     have pn:=Option.isNone_iff_eq_none.mp hp
     refine hh nm c1 ⟨W1.Hf,H',W1.fps⟩ C d s3 R3 l ⟨hn.ns,?_⟩
     have q:=hn.pay;rw[pn]at q ⊢;exact q
    ·rw[if_neg hp]at l;exact l.elim
theorem Aw4   (h:orS S [] a):S a:=by
 grind
theorem A9y {F:w5->XF}{t:TA}{fa:n7}{i:Nat}(ha:MA K t fa):MX K E (Af6 (Qx (spX K F) [] E t) (Mz i)) (A5d F fa i):=by
 intro β W c σ D R l
 have:=A6y (Q:=fun v H'=>D.nx (σ.set i (some v)) H') (E':=E) ha R l (fun o c1 W2 v st R2 lk r=>by
  refine Ao β W2 c1 σ (.o o) v [] D.nx R2 r ((Em (show zG K β W D _ from lk)).mono fun _ c2 l2 σ2 W3 st2 R3=>?_)
  exact l2 σ2 W3 (st.trans (st2.up fun a z=>Aw4 z)) R3)
  (fun nm c1 W2 C d st R2 lk hn=>lk C d σ W2 hn st R2)
 show t σ W.H fun vs H1=>spX K F (vs++[]) H1 (fun v H'=>D.nx (σ.set i (some v)) H') E
 simp only[bQ];exact this
theorem As8 {n N:Nat}{body:Ev->XS}{vs:l_}{Q:VK}(hs:spX K (Ah6 n N body) vs H Q E):vs.length=n:=by
 obtain⟨Hf,ds,sub,t,hf⟩:=hs;unfold Ah6 at hf
 by_cases hn:ds.length=n
 ·rw[<- t.length];exact hn
 ·rw[if_neg hn]at hf;exact hf.elim
theorem As1 {n:Nat}{N:v4}{body:Ev->XS}{T:TS}{vs:l_}{Q:VK}(h:MX K E T body)(hs:spX K (Ah6 n N.length body) vs H Q E):T { nx:=fun _ H'=>Q .non H',rt:=Q } (start N vs) H:=by
 obtain⟨Hf,ds,sub,t,hf⟩:=hs;unfold Ah6 at hf
 by_cases hn:ds.length=n
 ·rw[if_pos hn]at hf
  have hl:=t.length
  let W:Wo:=⟨Hf,H,fun _=>[]⟩
  have R:Rep K (fun _=>.non) W (ds.map (fun d=>some (.im d))++List.replicate (N.length-n) none) (start N vs):=by
   refine⟨sub,?_,fun i o e=>?_,(fun i j a z=>nomatch z),fun i a z=>nomatch z⟩
   ·show _=(vs.map some++List.replicate (N.length-vs.length) none).length
    rw[bD,bD,ao,ao,eQ,eQ,<- hl,hn]
   ·by_cases li:i<ds.length
    ·rw[cD (by rw[ao];exact li),bT]at e
     cases ed:ds[i]? with
     | none=>rw[ed]at e;cases e
     | some d =>
      rw[ed]at e;cases e;obtain⟨v,ev,tv⟩:=t.got ed
      refine⟨v,?_,⟨rfl,tv⟩,fun z=>nomatch z⟩
      show (vs.map some++List.replicate (N.length-vs.length) none)[i]?=_
      rw[cD (by rw[ao,<- hl];exact li),bT,ev];rfl
    ·rw[dG (by rw[ao];exact fH li),List.getElem?_replicate]at e
     split at e <;> cases e
  have noS:∀a,W.S a->False:=fun a ⟨i,z⟩=>nomatch z
  refine h _ W _ (start N vs) _ R ?_
  cases eb:body (ds.map (fun d=>some (.im d))++List.replicate (N.length-n) none) with
  | ex nm c1 =>
   rw[eb]at hf
   exact fun C d σ1 W1 hn st R1=>hf C d W1.Hf W1.H hn ⟨st.fz,fun a o e _=>st.kp a o e (noS a),fun a o e mu _ q=>st.nf a o e mu (noS a) q,fun a z=>z.elim⟩ R1.sub
  | s r =>
   rw[eb]at hf
   cases r with
   | nx c1=>exact fun σ1 W1 st R1=>hf .non W1.Hf W1.H [] ⟨st.fz,fun a o e _=>st.kp a o e (noS a),fun a o e mu _ q=>st.nf a o e mu (noS a) q,fun a z=>nomatch z⟩ R1.sub ⟨rfl,rfl⟩
   | rt p c1 =>
    intro σ1 v W1 fp st R1 r1
    cases er:resolve p c1 with
    | none=>simp only[er]at hf
    | some q =>
     obtain⟨o,c2⟩:=q;simp only[er]at hf;obtain⟨W2,fp2,e1,e2,R2,r2,n2,s2⟩:=Us R1 r1 er;rw[<- e2]
     refine hf v W2.Hf W2.H fp2 ?_ R2.sub r2
     rw[e1,e2]
     refine⟨st.fz,fun a o e _=>st.kp a o e (noS a),fun a o e mu _ q=>st.nf a o e mu (noS a) q,fun a z=>?_⟩
     rcases st.fr a (s2 a (.inr z)) with y | y
     ·exact(noS a y).elim
     ·exact .inr y
   | bk c1=>exact hf.elim
   | ct c1=>exact hf.elim
   | bad=>exact hf.elim
 ·rw[if_neg hn]at hf;exact hf.elim
end
end U
set_option autoImplicit true
namespace U
open PySem L2
def Bc4 (i:Option Nat)(o:O)(c:Ev):XS:=.s (match i with
 | some i=>(cgN i (.o o) c).toS fun _ c=>.nx c
 | none=>.nx c)
def unX:XS->SR
 | .s r=>r
 | .ex _ _=>.bad
def K6 (tbl:List (Str×Bool))(f:m6):m6:=fun c=>(f c).bind fun p c=>match rdP c p with
 | some (.ty (.xc nm))=>match tbl.lookup nm.n with
  | some b=>.ok (.o (.im (.bool b))) c
  | none=>.bad
 | _=>.bad
section
variable {K:v9}{β:Nat->V}{W W':Wo}{c c':Ev}{σ σ':St}{D:Ends}{E:XK}{Hf H:Hp}{o:O}{v:V}{fp:v6}
theorem Rep.setU {j:Nat}(R:Rep K β W (c.set j none) σ):Rep K β W (c.set j none) (σ.set j none):=by
 refine⟨R.sub,by rw[R.len,b_],fun i o e=>?_,R.dis,R.own⟩
 by_cases ij:i=j
 ·subst ij
  rw[List.getElem?_set]at e
  simp at e
 ·obtain⟨v,e1,r⟩:=R.get i o e
  exact⟨v,by rw[bY (aB ij)];exact e1,r⟩
theorem A3o {p:PV}{nm:Xn}(R:Rep K β W c σ)(r:Ea K W σ p v fp)(e:rdP c p=some (.ty (.xc nm))):RepN K W.Hf (.ty (.xc nm)) v:=by
 cases p with
 | o o1=>cases e;exact r.1.2
 | sl i =>
  have e:(c[i]?).join=some (.ty (.xc nm)):=e
  have e2:c[i]?=some (some (.ty (.xc nm))):=by
   cases q:c[i]? with
   | none=>rw[q]at e;cases e
   | some x=>
    rw[q]at e;cases x with
     | none=>cases e
     | some y=>cases e;rfl
  obtain⟨v',e3,r3,_⟩:=R.get i _ e2;have h:σ[i]?=some (some v):=r.2;rw[h]at e3;cases e3;exact r3.2
theorem Ju {te:TE}{f:m6}{cv:V}{z:Value}{tbl:List (Str×Bool)}(hz:B0u cv=some z)(ht:∀nm b,tbl.lookup nm=some b->∀C,PySem.W.nsIn K mainGlobals nm=some (some (.ref C))->Jg K C/\PySem.W.kitOne K (.ref C) z=some b)(h:ME K te f) :
 ME K (tCB (Ai2 K) (Ca te (Ca (tC cv) Fl))) (K6 tbl f):=by
 intro β W c σ Q R s
 refine h β W c σ _ R ((s.bnd).mono fun p c1 s1 v1 W1 fp1 st1 R1 r1=>?_)
 cases ed:rdP c1 p with
 | none=>simp only[ed]at s1;exact s1.elim
 | some o =>
  simp only[ed]at s1
  match o,ed,s1 with
  | .ty (.xc nm),ed,s1 =>
   cases el:tbl.lookup nm.n with
   | none=>simp only[el]at s1;exact s1.elim
   | some b =>
    simp only[el]at s1;obtain⟨a,C,d,e,hn,hf⟩:=A3o R1 r1 ed;subst e;obtain⟨x1,x2⟩:=ht nm.n b el C hn.ns
    refine⟨a,C,d,cv,z,b,rfl,R1.sub _ _ hf,x1,hz,x2,?_⟩
    exact s1 (.bl b) W1 [] (st1.less fun a z=>by
     rcases z with z | z
     ·exact .inl z
     ·cases z) R1 ⟨⟨rfl,rfl⟩,fun a z=>nomatch z⟩
  | .ty (.nm _),ed,s1=>exact s1.elim
  | .ty (.tc _),ed,s1=>exact s1.elim
  | .ty (.dc _ _),ed,s1=>exact s1.elim
  | .ty (.dt _ _),ed,s1=>exact s1.elim
  | .ty (.ds _ _),ed,s1=>exact s1.elim
  | .ty (.td _ _ _),ed,s1=>exact s1.elim
  | .im _,ed,s1=>exact s1.elim
  | .ls _ _,ed,s1=>exact s1.elim
  | .sc _,ed,s1=>exact s1.elim
end
end U
set_option autoImplicit true
namespace L2
open PySem PySem.Spec PyProof.Rows PySem.W
section
variable {P:u6}{w:World}{K:v9}{mg:x_}{base:Heap}
theorem Fun.okX {x qual:Str}{st:Stmt}{f:Addr}{fd:u5}{N ps:v4}{k:Nat}{sp:Sp}(F:Fun K x qual st f fd)(S:Bq N ps (Ar st))(len:∀vs H Q E,sp vs H Q E->vs.length=ps.length)
 (hbody:∀(cdv:Value) (A:q_) (outer:List Env) (s:u_) (H:Hp) (vs:l_) (Q:VK) (E:XK),Room k (A.deeper (envOfC qual (Ar st) s.heap.objs.size f cdv))->sp vs H Q E ->
  ∃t,PSs (K3 (CXe P w) P w K mg base N qual (Ar st) f cdv A outer s H E) (Gi st) t/\t { nx:=fun _ H'=>Q .non H',rt:=Q } (start N vs) H):FnOk P w K mg base (CXe P w) (k+1) f fd ps sp:=by
 obtain⟨oc,od,kV,doc,pm,an,cdv,ct,osl,rfl,lk,hcd⟩:=F.ex
 exact Ar2 lk hcd S len fun A outer s H vs Q E hr hsp=>hbody cdv A outer s H vs Q E hr hsp
end
section
variable {X:Cx}{x y n v:Str}{C Fc f:Addr}{np cpos pos p epos yp hpos vp:Pos}{e:Expr}{es:v_}{t:TA}{E:XK}{k j i:Nat}{fd:u5}{ps:v4}{sp:Sp}{b₀:Stmt}{suite:List Stmt}{th:TS}
theorem A8l (hR:Raises X E)(hc:X.calm=true)(hg:Gl X x)(hm:X.mg x=some (.ref C))(hq:excIn X.K C bmV "ValueError.__new__" = true) (ha:QA X (e::es) t) (hdb:(x==("__debug__" : Str))=false:=by decide)
 (he:starEach (e::es) X.env=(false,eval e X.env)::starEach es X.env:=by rfl) (hpl:(backTo cpos (starEach es X.env)).any (·.1)=false:=by rfl) :
 QS X (.Raise (some (.Call (.Name x np) (e::es) [] cpos)) none pos) (Aj8 C E t):=⟨A7c hR hc hg hm hq ha.get hdb he hpl⟩
theorem Je {D:Addr}(hg:Gl X y)(hm:X.mg y=some (.ref D))(hdb:(y==("__debug__" : Str))=false:=by decide):QE X (.Name y p) (tC (.ref D)):=⟨Bv9 hg hm hdb⟩
theorem Ko {Kq:v9}(hKq:X.K=Kq)(hgl:Gl X "isinstance") (hm:X.mg "isinstance" = none) (ha:QA X (e::es) t) (hn:noStar (e::es)=true:=by rfl):QE X (.Call (.Name "isinstance" p) (e::es) [] pos) (tCB (Ai2 Kq) t):=by
 subst hKq
 exact⟨Eo A0q hgl hm Gz ha.get (by decide) (by decide) hn⟩
theorem Vw:bootBuiltins "ValueError" = some (.type "ValueError"):=by decide +kernel
end
def TbOk (K:v9)(z:Value)(tbl:List (Str×Bool)):Prop:=∀nm b,tbl.lookup nm=some b->∀C,PySem.W.nsIn K mainGlobals nm=some (some (.ref C))->Jg K C/\PySem.W.kitOne K (.ref C) z=some b
def ExOk (K:v9)(Fc:Addr)(NS:v4):Prop:=∀nm∈NS,∀C,PySem.W.nsIn K mainGlobals nm=some (some (.ref C))->PySem.W.exmOne K (.ref C) (.ref Fc)=some true
def ClT (K:v9)(mg:x_)(tbl:List (Str×Bool))(T:Str):Prop:=∃g,mg T=some (.ref g)/\TbOk K (.ref g) tbl
def ClF (K:v9)(mg:x_)(NS:v4)(T:Str):Prop:=∃g,mg T=some (.ref g)/\ExOk K g NS
def ClR (K:v9)(mg:x_)(T:Str):Prop:=∃g,mg T=some (.ref g)/\PySem.W.nsIn K mainGlobals T=some (some (.ref g))/\excIn K g bmV "ValueError.__new__" = true
section
variable {K:v9}{z:Value}{tbl:List (Str×Bool)}{x:Str}{g Fc:Addr}{b:Bool}{NS:v4}
theorem TbOk.nil:TbOk K z []:=fun _ _ e=>nomatch e
theorem TbOk.cons (n:PySem.W.nsIn K mainGlobals x=some (some (.ref g)))(X:Jg K g)(k:PySem.W.kitOne K (.ref g) z=some b)(t:TbOk K z tbl):TbOk K z ((x,b)::tbl):=fun nm b' e C hn=>by
 rw[aN]at e
 cases q:nm==x with
 | true =>
  rw[q]at e
  cases e
  cases (aV.mp q)
  rw[n]at hn
  cases hn
  exact⟨X,k⟩
 | false=>rw[q]at e;exact t nm b' e C hn
theorem ExOk.nil:ExOk K Fc []:=fun _ z=>nomatch z
theorem ExOk.cons (n:PySem.W.nsIn K mainGlobals x=some (some (.ref g)))(k:PySem.W.exmOne K (.ref g) (.ref Fc)=some true)(t:ExOk K Fc NS):ExOk K Fc (x::NS):=fun nm h C hn=>by
 rcases au.mp h with rfl | h
 ·rw[n]at hn
  cases hn
  exact k
 ·exact t nm h C hn
end
end L2
namespace U
open PySem L2
def DefX (P:u6)(w:World)(K:v9)(mg:x_)(base:Heap)(x:Str)(k:Nat)(ps:v4)(sp:Sp):Prop :=
 ∃(f:Addr) (fd:u5),FnOk P w K mg base (CXe P w) k f fd ps sp/\Binds K fd ps []/\PySem.W.keepIn K (.ref f)=true/\mg x=some (.ref f)
section
variable {K:v9}{β:Nat->V}{W W':Wo}{c c':Ev}{σ:St}{Hf H:Hp}
def S7:t_->t_->m_
 | .list ds,.bool true=>(boolsOf ds).map fun bs=>.im (.int ((bs.countP id:Nat):Int))
 | _,_=>none
theorem Ai5:OpS K (fun x y H Q=>Au2 K x [y] H Q) S7:=by
 intro Hf H x y dx dy o Q s rx ry e n;unfold S7 at e
 split at e
 ·rename_i ds
  obtain⟨bs,e1,e2⟩:=aH.mp e;subst e2;obtain⟨a,vs,rfl,h1,t⟩:=Ep rx
  cases Sd e1 t
  cases (show y=.bl true from ry)
  exact⟨a,bs,rfl,rfl,SqL.of h1,n.int s⟩
 ·cases e
end
end U
set_option autoImplicit true
namespace U
open PySem L2
def Af9 (c:Ev):List PV->Option (w5)
 | []=>some []
 | .o (.im d)::r=>(Af9 c r).map (d::·)
 | .sl i::r=>match c[i]? with
  | some (some (.im d))=>(Af9 c r).map (d::·)
  | _=>none
 | _=>none
def Wi (F:w5->XF)(fa:n7)(k:O->Ev->XS)(h:Xn->Ev->XS):Ev->XS:=fun c=>match fa c with
 | .bad=>.s .bad
 | .ok ps c=>match Af9 c ps with
  | none=>.s .bad
  | some ds=>match F ds with
   | .ret (.im d)=>k (.im d) c
   | .ex nm=>h nm c
   | _=>.s .bad
section
variable {K:v9}{β:Nat->V}{W W':Wo}{c c':Ev}{σ σ':St}{D:Ends}{E:XK}{Hf H:Hp}{o:O}{v:V}{fp:v6}
theorem Yd (R:Rep K β W c σ):∀{ps:List PV}{vs:l_}{ds:w5},zF K W.Hf σ ps vs->Af9 c ps=some ds->TrL W.Hf ds vs
 | [],vs,ds,h,e=>by cases (show vs=[] from h);cases e;exact rfl
 | .o (.im d)::r,_,ds,⟨v,vr,rfl,h,t⟩,e=>by
  obtain⟨l,e2,rfl⟩:=aH.mp (show (Af9 c r).map (d::·)=some ds from e)
  exact⟨v,vr,rfl,h,Yd R t e2⟩
 | .sl i::r,_,ds,⟨v,vr,rfl,h,t⟩,e=>by
  unfold Af9 at e
  split at e
  ·rename_i d ec
   obtain⟨l,e2,rfl⟩:=aH.mp e;obtain⟨v',e1,r1,_⟩:=R.get i _ ec
   cases (show some (some v')=some (some v) from e1.symm.trans h)
   exact⟨v,vr,rfl,r1.2,Yd R t e2⟩
  ·cases e
 | .o (.sc _)::r,_,ds,_,e=>by cases e
 | .o (.ls _ _)::r,_,ds,_,e=>by cases e
 | .o (.ty _)::r,_,ds,_,e=>by cases e
theorem A3g {F:w5->XF}{fa:n7}{t:TA}{k:O->Ev->XS}{h:Xn->Ev->XS}{Q:VK}{E':XK}(ha:MA K t fa)(R:Rep K β W c σ)(l:LeadX K β W D E (Wi F fa k h c))
 (hk:∀o c1 W2 v,Stp W.S W.Hf W.H W2.S W2.Hf W2.H->Rep K β W2 c1 σ->LeadX K β W D E (k o c1)->Ea K W2 σ (.o o) v []->Q v W2.H)
 (hh:∀nm c1 W2 C d,Stp W.S W.Hf W.H W2.S W2.Hf W2.H->Rep K β W2 c1 σ->LeadX K β W D E (h nm c1)->XAt K W2.Hf nm C d->E' (.ref C) d W2.H) :
 t σ W.H fun vs H1=>spX K F vs H1 Q E':=by
 unfold Wi at l
 refine ha β W c σ _ R ?_
 cases e:fa c with
 | bad=>rw[e]at l;exact l
 | ok ps c1 =>
  rw[e]at l;intro vs W1 st R1 r1
  cases ea:Af9 c1 ps with
  | none=>simp only[ea]at l;exact l.elim
  | some ds =>
   simp only[ea]at l
   refine⟨W1.Hf,ds,R1.sub,Yd R1 r1 ea,?_⟩
   have go:∀{Hf' H':Hp},Stp (fun _=>False) W1.Hf W1.H (fun _=>False) Hf' H'->Same Hf' H'->Stp W.S W.Hf W.H (Wo.S ⟨Hf',H',W1.fps⟩) Hf' H'/\Rep K β ⟨Hf',H',W1.fps⟩ c1 σ:=fun {Hf' H'} s2 sub =>
    ⟨st.trans ⟨s2.fz,fun a o e _=>s2.kp a o e fun z=>z,fun a o e mu _ q=>s2.nf a o e mu (fun z=>z) q,fun a z=>.inl z⟩,Stp.rep R1 s2 sub⟩
   cases ef:F ds with
   | bad=>simp only[ef]at l;exact l.elim
   | ret o =>
    match o,ef with
    | .im d,ef =>
     simp only[ef]at l;intro v Hf' H' fp s2 sub r;obtain⟨rfl,tv⟩:=r
     obtain⟨s3,R3⟩:=go (s2.less fun a z=>nomatch z) sub
     exact hk (.im d) c1 ⟨Hf',H',W1.fps⟩ v s3 R3 l ⟨⟨rfl,tv⟩,fun a z=>nomatch z⟩
    | .sc _,ef=>simp only[ef]at l;exact l.elim
    | .ls _ _,ef=>simp only[ef]at l;exact l.elim
    | .ty _,ef=>simp only[ef]at l;exact l.elim
   | ex nm =>
    simp only[ef]at l;intro C d Hf' H' hn s2 sub;obtain⟨s3,R3⟩:=go s2 sub;exact hh nm c1 ⟨Hf',H',W1.fps⟩ C d s3 R3 l hn
def T4 (d:t_):w5->Option Nat
 | []=>none
 | x::xs=>if PyData.eqv x d=true then some 0 else (T4 d xs).map (·+1)
theorem Yw {d:t_}:∀{xs:w5}{j:Nat},T4 d xs=some j->(∃e,xs[j]?=some e/\PyData.eqv e d=true)/\∀m e,m<j->xs[m]?=some e->PyData.eqv e d=false
 | [],j,h=>by cases h
 | x::xs,j,h=>by
  unfold T4 at h
  by_cases q:PyData.eqv x d=true
  ·rw[if_pos q]at h;cases h
   exact⟨⟨x,rfl,q⟩,fun m e hm=>absurd hm (Nat.not_lt_zero _)⟩
  ·rw[if_neg q]at h
   obtain⟨k,e1,rfl⟩:=aH.mp h;obtain⟨⟨e2,h1,h2⟩,h3⟩:=Yw e1
   refine⟨⟨e2,h1,h2⟩,fun m e hm he=>?_⟩
   cases m with
   | zero=>cases (show some x=some e from he);exact Bool.eq_false_iff.mpr q
   | succ m=>exact h3 m e (eV hm) he
def Hx:t_->t_->m_
 | .tuple ds,d=>if By d&&PyData.canLayAll0 ds then (T4 d ds).map fun j=>.im (.int (j:Nat)) else none
 | _,_=>none
theorem Ao6:OpS K (fun x y H Q=>rIndexD x [y] H Q) Hx:=by
 intro Hf H x y dx c o Q s d f e n;unfold Hx at e
 split at e
 ·split at e
  ·rename_i l
   obtain⟨i,b⟩:=aq.mp l;obtain⟨j,g,rfl⟩:=aH.mp e;obtain⟨h,a⟩:=Yw g;exact⟨y,c,_,j,rfl,f.tr s,d.tr s,Ge i,b,h,a,n.int s⟩
  simp_all
 trivial
end
def O3:t_->t_->m_:=Vv fun i j=>.bool (decide (i<j))
theorem At6  : OpS K (rI0 fun i j=>.bl (decide (i<j))) O3:=Yp fun _ _ _=>rfl
theorem B1o  (l:Ui i j=true):CMul i j:=by
 unfold Ui at l;rw[Bool.or_eq_true_iff,aq,aq]at l
 rcases l with ⟨b,a⟩ | ⟨b,a⟩
 ·exact .inl ⟨aL b,aL a⟩
 ·exact .inr ⟨aL b,aL a⟩
def Kf:t_->t_->m_:=opI Ui fun i j=>i*j
theorem Jq  : OpS K (rI CMul fun i j=>.int (i*j)) Kf:=Ar0 fun _ _=>B1o
def Cg:t_->m_
 | .list ds=>some (.im (.tuple ds))
 | .tuple ds=>some (.im (.tuple ds))
 | _=>none
theorem Ef  : UnS K (fun x H Q=>G8 K [x] H Q) Cg:=by
 intro Hf H x d o Q s r e n;unfold Cg at e
 split at e
 ·cases e
  obtain⟨a,b,rfl,c,t⟩:=Ep r
  exact⟨a,b,rfl,.inl ⟨SqL.of c,fun l f=>n.tup s t f⟩⟩
 ·cases e
  obtain⟨a,b,rfl,c,t⟩:=Gm s r;exact⟨a,b,rfl,.inr ⟨SqT.of c,n.same s r⟩⟩
 trivial
def B3a (K:v9):R2:=fun x y H Q=>By6 K x y H Q\/B0b K x y H Q
def Av:t_->t_->m_
 | .list ds,.int i=>(atI ds i).map O.im
 | .tuple ds,.int i=>(atI ds i).map O.im
 | _,_=>none
theorem Ay  : OpS K (B3a K) Av:=by
 intro Hf H x y dx dy o Q s i j e n;unfold Av at e
 split at e
 ·obtain⟨d,g,rfl⟩:=aH.mp e
  obtain⟨a,c,rfl,f,t⟩:=Ep i;obtain⟨v,h,b⟩:=A2u t g;exact .inl ⟨a,c,_,v,rfl,Dv j,SqL.of f,h,n.same s b⟩
 ·obtain⟨d,g,rfl⟩:=aH.mp e
  obtain⟨a,c,rfl,f,t⟩:=Gm s i;obtain⟨v,h,b⟩:=A2u t g;exact .inr ⟨a,c,_,v,rfl,Dv j,SqT.of f,h,n.same s b⟩
 grind
end U
namespace L2
open PySem
section
variable {X:Cx}{a b:Expr}{ta tb:TE}{pos:Pos}
theorem Be  (c:X.K=Kq) (ha:QE X a ta) (hb:QE X b tb) (hs:Jy b):QE X (.Subscript a b pos) (tOp (U.B3a Kq) ta tb):=by
 subst c;exact Bl4 (IxR.or ix_list ix_tup) ha hb hs
end
end L2
namespace U
open PySem L2 PySem.W
def A0x (F:m7)(js:List Nat)(d:t_)(c:Ev):R t_:=(Lp F (.o (.im d)::js.map PV.sl) c).bind fun p c=>match p with
 | .o (.im k)=>.ok k c
 | _=>.bad
def Va (F:m7)(js:List Nat):w5->Ev->R (w5)
 | [],c=>.ok [] c
 | d::ds,c=>(A0x F js d c).bind fun k c=>(Va F js ds c).bind fun ks c=>.ok (k::ks) c
def A8q (F:m7)(js:List Nat)(fa:m6):m6:=fun c=>(fa c).bind fun p c=>match (Dl c (nrm p)).bind Lq with
 | none=>.bad
 | some ds=>(Va F js ds c).bind fun ks c=>match Ou ds ks with
  | none=>.bad
  | some out=>.ok (.o (.ls false out)) c
section
variable {K:v9}{β:Nat->V}{W W':Wo}{c c':Ev}{σ:St}{Hf H:Hp}
def Bp0 (K:v9)(te:TE)(F:m7):Prop:=∀(vs:l_) (H:Hp) (Q:VK),spP K F vs H Q E0->te (vs.map some) H Q
theorem Bb3 {n:Nat}{b:TE}{c:m6}(h:ME K b c)(N:v4)(hN:N.length=n):Bp0 K b (Fe n N.length (Dc c)):=by
 intro a H Q d;have f:=Dh d;have:=Dg  (Bc h) d
 have e:start N a=a.map some:=by
  show a.map _++List.replicate _ _=_
  simp_all
 rw[e]at this
 trivial
theorem Av0 (R:Rep K β W c σ):∀{js:List Nat}{as:List O},Oq c (js.map PV.sl)=some as->∃cvs,zF K W.Hf σ (js.map PV.sl) cvs/\cst (js.map some) σ=cvs.map some
 | [],as,e=>⟨[],rfl,rfl⟩
 | j::js,as,e=>by
  have e:Oq c (.sl j::js.map PV.sl)=some as:=e;unfold Oq at e
  cases ec:c[j]? with
  | none=>simp only[ec]at e;cases e
  | some x =>
   cases x with
   | none=>simp only[ec]at e;cases e
   | some o1 =>
    simp only[ec]at e;obtain⟨l,e2,rfl⟩:=aH.mp e;obtain⟨cvs,r,q⟩:=Av0 R e2;obtain⟨v,e1,_⟩:=R.get j o1 ec
    refine⟨v::cvs,⟨v,cvs,rfl,e1,r⟩,?_⟩
    show ((some j).bind fun i=>(σ[i]?).join)::cst (js.map some) σ=_
    rw[q]
    show (σ[j]?).join::_=_
    rw[e1];rfl
theorem Ag8 {F:m7}{te:TE}{js:List Nat}(hF:Bp0 K te F){Q:l_->Hp->Prop}:∀(ds:w5) (vs:l_) (kd:w5) (kv:l_) (W:Wo) (c:Ev),Rep K β W c σ->TrL W.Hf ds vs->TrL W.Hf kd kv ->
 ((Va F js ds c).sat fun ks c'=>∀W' kv',Stp W.S W.Hf W.H W'.S W'.Hf W'.H->Rep K β W' c' σ->TrL W'.Hf (kd++ks) kv'->Q kv' W'.H)->Rc (fun x H Q=>te (some x::cst (js.map some) σ) H Q) vs kv W.H Q
 | [],vs,kd,kv,W,c,R,t,tk,h=>by
  cases (show vs=[] from t)
  exact h W kv Stp.refl R (by rw[bQ];exact tk)
 | d::ds,vs,kd,kv,W,c,R,⟨v,r,ev,t,ts⟩,tk,h=>by
  subst ev
  have h:((A0x F js d c).bind fun k c=>(Va F js ds c).bind fun ks c=>U.R.ok (k::ks) c).sat _:=h
  have h:=h.bnd;unfold A0x at h;have h:=h.bnd
  cases ea:Oq c (js.map PV.sl) with
  | none =>
   have:Lp F (.o (.im d)::js.map PV.sl) c=.bad:=by
    unfold Lp;simp only[Oq,ea,eN]
   rw[this]at h;exact h.elim
  | some as =>
   obtain⟨cvs,rc,ec⟩:=Av0 R ea
   show te (some v::cst (js.map some) σ) W.H _
   rw[ec]
   refine hF (v::cvs) W.H _ ?_
   have hs:spP K F ((v::cvs)++[]) W.H (fun kv1 H1=>Rc (fun x H Q=>te (some x::cst (js.map some) σ) H Q) r (kv++[kv1]) H1 Q) E0:=by
    refine Lz (ps:=.o (.im d)::js.map PV.sl) R ⟨v,cvs,rfl,t,rc⟩ (h.mono fun p c1 h1 v' W' fp st R' rp=>?_)
    cases p with
    | sl i=>exact h1.elim
    | o o =>
     cases o with
     | im k =>
      obtain⟨⟨rfl,tv⟩,_⟩:=rp
      have st:Stp W.S W.Hf W.H W'.S W'.Hf W'.H:=st.less fun a z=>.inl z
      refine Ag8 hF ds r (kd++[k]) (kv++[v']) W' c1 R' (TrL.same st.fz ts) ((TrL.same st.fz tk).app (TrL.one tv)) (h1.bnd.mono fun ks c2 h2 W2 kv' st2 R2 t2=>?_)
      exact h2 W2 kv' (st.trans st2) R2 (by rw[dH]at t2;exact t2)
     | ls b ds=>exact h1.elim
     | sc d=>exact h1.elim
     | ty d=>exact h1.elim
   rw[bQ,ec]at hs;exact hs
theorem A7w {d:Hp}(R:Rep K β W c σ)(h:Bx9 W.H d):∃W2:Wo,W2.H=d/\Stp W.S W.Hf W.H W2.S W2.Hf W2.H/\Rep K β W2 c σ:=by
 rcases h with rfl | ⟨a,o,e,rfl⟩
 ·exact⟨W,rfl,Stp.refl,R⟩
 ·have b:=Stp.newF (o:=.frz o (.own 0)) R.sub e
  refine⟨⟨upd _ a _,upd _ a _,W.fps⟩,rfl,?_,b.rep R (Kc R.sub)⟩
  exact((b.more ).up  fun a z=>z.elim (fun z=>z.elim) id).less  fun a z=>.inr z
theorem Bk6 {F:m7}{js:List Nat}{E G:TE}{fa:m6}(ha:ME K G fa)(hF:Bp0 K E F):ME K (A5g K (js.map some) E (Ca G Fl)) (A8q F js fa):=by
 intro β W c U Q R s
 refine ha.toV β W c U _ R (s.bnd.mono fun p c1 m v1 n u w Z=>?_)
 cases ed:(Dl c1 (nrm p)).bind Lq with
 | none=>simp only[ed]at m;exact m.elim
 | some r =>
  simp only[ed]at m;obtain⟨d,e1,A⟩:=bh.mp ed
  obtain⟨a,f,rfl,sq,t⟩:∃a f,v1=.ref a/\(n.H a=some (.lst f)\/n.H a=some (.tup f))/\TrL n.Hf r f:=by
   have L:=Eh w Z e1
   cases d with
   | list M =>
    cases A
    obtain⟨a,f,e,h,t⟩:=Ep L;exact⟨a,f,e,.inl h,t⟩
   | tuple M =>
    cases A
    obtain⟨a,f,e,h,t⟩:=Gm w.sub L;exact⟨a,f,e,.inr h,t⟩
   | _=>cases A
  refine⟨a,f,rfl,fun H2 H=>?_⟩
  obtain⟨W0,rfl,i,R0⟩:=A7w w H
  have I:Same n.H W0.H:=by
   rcases H with e | ⟨b,o,P,e⟩
   ·rw[e];exact Same.refl _
   ·rw[e];exact Ce P
  refine⟨sq.imp (fun h=>SqL.of (I _ _ h)) (fun h=>SqT.of (I _ _ h)),?_⟩
  refine Ag8 hF _ _ [] _ _ _ R0 (TrL.same i.fz t) rfl (m.bnd.mono fun k c2 l X kv x y t2=>?_)
  cases ek:Ou r k with
  | none=>simp only[ek]at l;exact l.elim
  | some z =>
   simp only[ek]at l;have g:=i.trans x;have t:=TrL.same g.fz t;have N:=TrL.len' t
   have j:∀(C:List _) (B:l_),C=z->TrL _ C B->∀q,X.H q=none->Q (.ref q) (upd _ q (.lst B)):=fun C B e T q Y=>by
    subst e
    exact New.lst (New.of y fun v W' fp st R' rp=>l v _ _ (u.trans (g.trans st)) R' rp) y.sub T Y
   unfold Ou at ek
   by_cases h2:r.length<2
   ·rw[if_pos h2]at ek
    cases ek
    exact .inl ⟨by (first|lia|omega),j _ _ rfl t⟩
   ·rw[if_neg h2]at ek
    by_cases hb:(decide (r.length<64)&&(k.all (Jz (kdOf k))&&k.all By))=true
    ·rw[if_pos hb]at ek
     obtain⟨J,D⟩:=aq.mp hb;obtain⟨D,b3⟩:=aq.mp D;have J:=aL J;obtain⟨pm,q1,q2⟩:=aH.mp ek
     refine .inr ⟨by (first|lia|omega),by (first|lia|omega),k,kdOf _,pm,TrL.same y.sub t2,D,fun d S=>Ge (aU.mp b3 d S),by rw[<- N];exact q1,j _ _ q2 (TrL.pick t _)⟩
    ·rw[if_neg hb]at ek;cases ek
end
section
variable {K:v9}{β:Nat->V}{W W':Wo}{c c':Ev}{σ:St}{Hf H:Hp}
def Yu:t_->t_->m_
 | .int i,.int j=>some (.im (.int (if j>i then j else i)))
 | _,_=>none
theorem Bd4 {c d:TE}{fa fb:m6}(ha:ME K c fa)(hb:ME K d fb):ME K (tCB (Rb K) (Ca c (Ca d Fl))) (cOp Yu fa fb) :=
 Ai  ha hb fun h H x y g f o Q s a b e n=>by
  match g,f,a,b,e with
  | .int i,.int j,a,b,e=>cases e;cases Dv a;cases Dv b;exact⟨i,j,rfl,n.int s⟩
theorem Ax6 {Q:VK}{ds ks out:w5}{vs kv:l_}(s:Same Hf H)(t:TrL Hf ds vs)(tk:TrL Hf ks kv)(e:Ou ds ks=some out)(n:New K Hf H (.ls false out) Q):Vr vs kv H Q:=by
 have hl:=TrL.len' t;unfold Ou at e
 by_cases h2:ds.length<2
 ·rw[if_pos h2]at e
  cases e
  exact .inl ⟨by (first|lia|omega),fun q hq=>n.lst s t hq⟩
 ·rw[if_neg h2]at e
  by_cases hb:(decide (ds.length<64)&&(ks.all (Jz (kdOf ks))&&ks.all By))=true
  ·rw[if_pos hb]at e
   obtain⟨b1,b2⟩:=aq.mp hb;obtain⟨b2,b3⟩:=aq.mp b2;have b1:=aL b1;obtain⟨pm,q1,q2⟩:=aH.mp e;subst q2
   exact .inr ⟨by (first|lia|omega),by (first|lia|omega),ks,kdOf ks,pm,TrL.same s tk,b2,fun d hd=>Ge (aU.mp b3 d hd),by rw[<- hl];exact q1,fun q hq=>n.lst s (TrL.pick t _) hq⟩
  ·rw[if_neg hb]at e;cases e
def Oj (d:t_):m_:=(Lq d).bind fun ds=>(Ou ds ds).map fun out=>.ls false out
theorem A1k:UnS K (fun x H Q=>Ao8 K [x] H Q) Oj:=by
 intro Hf H x d o Q s r e n;unfold Oj at e;obtain⟨ds,e1,e2⟩:=bh.mp e;obtain⟨out,e3,rfl⟩:=aH.mp e2
 cases d with
 | list xs =>
  cases e1
  obtain⟨a,vs,rfl,h1,t⟩:=Ep r;exact⟨a,vs,rfl,.inl (SqL.of h1),Ax6 s t t e3 n⟩
 | tuple xs =>
  cases e1
  obtain⟨a,vs,rfl,h1,t⟩:=Gm s r;exact⟨a,vs,rfl,.inr (SqT.of h1),Ax6 s t t e3 n⟩
 | _=>cases e1
def Yi:t_->m_
 | .list ds=>some (.ls false ds.reverse)
 | _=>none
theorem A4y:UnS K (fun x H Q=>∃a b,[x]=[V.ref a]/\SqL K H a b/\∀l,H l=none->Q (.ref l) (upd H l (.lst b.reverse))) Yi:=by
 intro Hf H x d o Q s r e n
 match d,r,e with
 | .list _,r,e =>
  cases e
  obtain⟨a,b,rfl,f,t⟩:=Ep r
  exact⟨a,b,rfl,SqL.of f,fun l c=>n.lst s (TrL.rev t) c⟩
theorem Bc3 {a:TE}{fa:m6}(ha:ME K a fa):ME K (A5m K (Ca a Fl)) (cUn Yi fa):=Ar1  ha A4y
def Ao7:t_->t_->m_
 | .list ds,d=>if By d&&(PyData.canLayAll0 ds&&decide (ds.length<1000000)) then (T4 d ds).map fun j=>.im (.int (j:Nat)) else none
 | _,_=>none
theorem Ai7:OpS K (fun x y H Q=>rIndexL x [y] H Q) Ao7:=by
 intro Hf H x y dx g o Q s i p e n;unfold Ao7 at e
 split at e
 ·split at e
  ·rename_i l
   obtain⟨f,b⟩:=aq.mp l;obtain⟨b,l3⟩:=aq.mp b;obtain⟨j,d,rfl⟩:=aH.mp e;obtain⟨k,h⟩:=Yw d;obtain⟨m,c,a⟩:=k
   exact⟨y,g,_,j,rfl,p.tr s,i.tr s,Ge f,b,by grind,⟨m,c,a⟩,h,n.int s⟩
  simp_all
 grind
def mtR (op:t_->t_->m_)(fb:m6)(p:PV):m6:=fun c=>(fb c).bind fun q c=>match Dl c (nrm p),Dl c (nrm q) with
 | some x,some y=>match op x y with
  | some o=>.ok (.o o) c
  | none=>.bad
 | _,_=>.bad
def A0f (fa fb:m6):m6:=fun c=>(fa c).bind fun p c=>match Dl c (nrm p) with
 | some d=>if Lx d=true then mtR Ao7 fb p c else if Gs d=true then mtR Hx fb p c else .bad
 | none=>.bad
theorem Aj5 {z u:TE}{fa fb:m6}(ha:ME K z fa)(hb:ME K u fb):ME K (Bp3 K z (Ca u Fl)) (A0f fa fb):=by
 intro n W c h Q R s
 refine ha.toV n W c h _ R ((s.bnd).mono fun p m a D B t i l=>?_)
 have f:∀(r:V->l_->Hp->VK->Prop) (j:t_->t_->m_),OpS K (fun x y H Q=>r x [y] H Q) j->((mtR j fb p m).sat fun E I=>∀v b w,Stp W.S W.Hf W.H (orS b.S w) b.Hf b.H->Rep K n b I h->Ea K b h E v w->Q v b.H)->Ca u Fl h B.H fun J G=>r D J G Q:=by
  intro r j L a
  refine hb.toV n B m h _ i ((a.bnd).mono fun q A e P S g k F=>?_)
  cases ex:Dl A (nrm p) with
  | none=>simp only[ex]at e;trivial
  | some x =>
   cases ey:Dl A (nrm q) with
   | none=>simp only[ex,ey]at e;trivial
   | some y =>
    simp only[ex,ey]at e
    cases eo:j x y with
    | none=>simp only[eo]at e;trivial
    | some o =>
     simp only[eo]at e
     exact L _ _ _ _ x y o Q k.sub (Eh k (RepA.same g.fz l) ex) (Eh k F ey) eo (New.of k fun v b w N M C=>e v _ _ (t.trans (g.trans N)) M C)
 cases ed:Dl m (nrm p) with
 | none=>simp only[ed]at a;trivial
 | some d =>
  simp only[ed]at a
  by_cases it:Lx d=true
  ·rw[if_pos it]at a
   exact .inl ⟨Ap8 _ _ d _ it i.sub (Eh i l ed),f _ _ Ai7 a⟩
  ·rw[if_neg it]at a
   by_cases it:Gs d=true
   ·rw[if_pos it]at a
    exact .inr ⟨A4w _ _ d _ it i.sub (Eh i l ed),f _ _ Ao6 a⟩
   ·rw[if_neg it]at a;trivial
def cFz (f:m6):m6:=fun c=>(f c).bind fun p c=>(frz (nrm p) c).bind fun d c=>.ok (.o (.im d)) c
theorem Rg   (h:ME K t f):ME K t (cFz f):=by
 intro y W c x Q R s
 refine h.toV _ W c _ Q R (s.bnd.mono fun p n j v u e i k=>?_)
 obtain⟨d,o,r,_,l,w,b,m,g⟩:=Jd i k j.bnd
 have q:=l v _ [] ((e.trans b).less fun a z=>z.elim id fun z=>nomatch z) m ⟨⟨rfl,g⟩,fun a z=>nomatch z⟩
 grind
end
def Mv:t_->Bool
 | .tuple ds=>Fj ds&&PyData.canLayAll0 ds&&decide (PyData.depthAll ds<=6)
 | _=>false
def Km:w5->Option (List PyData×w5)
 | []=>some ([],[])
 | d::r=>match d with
  | .tuple l=>match l with
   | [k,v]=>if Mv k then (Km r).map fun x=>(k::x.1,v::x.2) else none
   | _=>none
  | _=>none
def T9:w5->Bool
 | []=>true
 | k::r=>!(r.any fun e=>PyData.eqv k e)&&T9 r
def S8:w5->w5->t_->Option t_
 | k::ks,d::ds,z=>if PyData.eqv k z=true then some d else S8 ks ds z
 | _,_,_=>none
def cDP (fa:m6):m6:=fun c=>(fa c).bind fun p c=>match Dl c (nrm p) with
 | some (.tuple ds)=>match Km ds with
  | some x=>if x.1.length<=16000000/\T9 x.1=true then .ok (.o (.ty (.dt x.1 x.2))) c else .bad
  | none=>.bad
 | _=>.bad
def Ad8 (fa fw:m6):m6:=fun c=>(fa c).bind fun p c=>match p with
 | .o (.ty (.dt ks ds))=>(fw c).bind fun q c=>match Dl c (nrm q) with
  | some k=>if (Mv k&&ks.all Mv)=true then match S8 ks ds k with
   | some d=>.ok (.o (.im d)) c
   | none=>.bad
   else .bad
  | none=>.bad
 | _=>.bad
theorem Pn  (h:Mv k=true):Bl7 k/\∃a,k=.tuple a:=by
 cases k with
 | tuple a =>
  obtain⟨c,d⟩:=aq.mp (show (Fj _&&PyData.canLayAll0 _&&decide _)=true from h)
  obtain⟨e,b⟩:=aq.mp c;exact⟨⟨e,b,dU (aL d)⟩,a,rfl⟩
 | _=>cases h
mutual
theorem A7g {H:Hp}:∀{d:t_}{v:V},keyB d=true->Tr H d v->KTr H d v
 | .none,_,_,h=>h
 | .int _,_,_,h=>h
 | .str _,_,_,h=>h
 | .tuple ds,_,k,⟨a,vs,e,ha,t⟩=>⟨a,vs,e,ha,Av5 k t⟩
theorem Av5 {H:Hp}:∀{ds:w5}{vs:l_},Fj ds=true->TrL H ds vs->KTrL H ds vs
 | [],_,_,h=>h
 | d::ds,_,k,⟨v,r,e,h,t⟩=>by
  obtain⟨k1,k2⟩:=aq.mp (show (keyB d&&Fj ds)=true from k)
  exact⟨v,r,e,A7g k1 h,Av5 k2 t⟩
end
theorem A6f    (h:Mv k=true) (t:Tr H k v):∃b,v=.ref b/\KAt H k b:=by
 obtain⟨c,ds,rfl⟩:=Pn h;obtain⟨a,d,rfl,f,e⟩:=t;exact⟨a,rfl,c,A7g c.1 ⟨a,d,rfl,f,e⟩⟩
theorem Vd:∀{ks:w5},(∀k∈ks,Mv k=true)->T9 ks=true->ks.Nodup
 | [],_,_=>dF
 | k::r,hk,h=>by
  obtain⟨h1,h2⟩:=aq.mp (show (!(r.any fun e=>PyData.eqv k e)&&T9 r)=true from h)
  refine List.nodup_cons.mpr ⟨fun m=>?_,Vd (fun x hx=>hk x (bw _ hx)) h2⟩
  have b:=(Pn (hk k a_)).1.1
  have:(r.any fun e=>PyData.eqv k e)=true:=List.any_eq_true.mpr ⟨k,m,(N7 k k b b).mpr rfl⟩
  rw[this]at h1;cases h1
theorem Wv:∀{ds:w5}{x:List PyData×w5},Km ds=some x->∀k∈x.1,Mv k=true
 | [],_,e,k,hk=>by cases e;cases hk
 | d::r,x,e,k,hk=>by
  unfold Km at e
  split at e
  ·split at e
   ·rename_i k' v
    by_cases c:Mv k'=true
    ·rw[if_pos c]at e
     obtain⟨y,e1,rfl⟩:=aH.mp e
     rcases au.mp hk with rfl | hk
     ·exact c
     ·exact Wv e1 k hk
    ·rw[if_neg c]at e;cases e
   ·cases e
  ·cases e
section
variable {K:v9}{β:Nat->V}{W W':Wo}{c c':Ev}{σ:St}{Hf H:Hp}
theorem Ax3:∀{ds:w5}{vs:l_}{x:List PyData×w5},TrL H ds vs->Km ds=some x->∃xs,PairsR H vs (x.1.zip xs)/\TrL H x.2 xs/\x.1.length=xs.length
 | [],_,_,e,q=>by cases q;cases (show _=[] from e);exact⟨[],rfl,rfl,rfl⟩
 | d::r,_,x,⟨v,vs,rfl,t,ts⟩,e=>by
  unfold Km at e
  split at e
  ·split at e
   ·rename_i k' w
    by_cases c:Mv k'=true
    ·rw[if_pos c]at e
     obtain⟨y,e1,rfl⟩:=aH.mp e;obtain⟨xs,p1,p2,p3⟩:=Ax3 ts e1;obtain⟨a,us,rfl,ha,tl⟩:=t;obtain⟨v1,r1,rfl,t1,v2,r2,rfl,t2,e3⟩:=tl
     cases (show r2=[] from e3)
     obtain⟨b,rfl,kb⟩:=A6f c t1
     exact⟨v2::xs,⟨a,b,k',v2,_,rfl,ha,kb,rfl,p1⟩,⟨v2,xs,rfl,t2,p2⟩,by simp[p3]⟩
    ·rw[if_neg c]at e;cases e
   ·cases e
  ·cases e
theorem New.dt {Q:VK}{ks ds:w5}{vs:l_}(h:New K Hf H (.ty (.dt ks ds)) Q)(s:Same Hf H)(t:TrL Hf ds vs)(l:ks.length=vs.length){p:Addr}(hp:H p=none):Q (.ref p) (upd H p (.dT (ks.zip vs))) :=
 h _ _ _ [] ((Stp.newF s hp).less fun a z=>nomatch z) (Kc s) ⟨rfl,p,vs,rfl,.inl Bg,TrL.same (Ce (Same.free s hp)) t,l⟩
theorem PairsR.same {H H':Hp}(S:Same H H'):∀{vs:l_}{kvs:List (PyData×V)},PairsR H vs kvs->PairsR H' vs kvs
 | [],_,h=>h
 | _::_,_,⟨p,b,k,x,r,e,hp,hk,e2,t⟩=>⟨p,b,k,x,r,e,S _ _ hp,hk.stay fun b xs q=>S _ _ q,e2,PairsR.same S t⟩
theorem B2h {h:TE}{fa:m6}(ha:ME K h fa):ME K (tDP h) (cDP fa):=by
 intro C W c H Q R s
 refine ha.toV _ W c _ _ R (s.bnd.mono fun p k b G D f e l=>?_)
 cases ex:Dl k (nrm p) with
 | none=>simp only[ex]at b;exact b.elim
 | some d =>
  cases d with
  | tuple m =>
   simp only[ex]at b
   cases ey:Km m with
   | none=>simp only[ey]at b;exact b.elim
   | some x =>
    simp only[ey]at b
    by_cases hb:x.1.length<=16000000/\T9 x.1=true
    ·rw[if_pos hb]at b
     obtain⟨a,n,g,q,j⟩:=(show Tr _ _ _ from Eh e l ex)
     obtain⟨w,t,u,i⟩:=Ax3 j ey
     have r:(x.1.zip w).length=x.1.length:=by simp_all
     refine⟨a,n,x.1.zip _,g,e.sub _ _ q,PairsR.same e.sub t,by rw[r];exact lim hb.1,?_,fun z A=>New.dt (New.of e fun v E F y B o=>b v _ _ (f.trans y) B o) e.sub u i A⟩
     rw[List.map_fst_zip (dm i)];exact Vd (Wv ey) hb.2
    ·rw[if_neg hb]at b;exact b.elim
  | none=>simp only[ex]at b;exact b.elim
  | bool _=>simp only[ex]at b;exact b.elim
  | int _=>simp only[ex]at b;exact b.elim
  | str _=>simp only[ex]at b;exact b.elim
  | list _=>simp only[ex]at b;exact b.elim
  | dict _=>simp only[ex]at b;exact b.elim
theorem Ax4:∀{ks ds:w5}{xs:l_}{z d:t_},(∀k∈ks,Mv k=true)->Mv z=true->TrL Hf ds xs->S8 ks ds z=some d->∃v,Vx (ks.zip xs) z=some v/\Tr Hf d v
 | [],_,_,_,_,_,_,_,e=>nomatch e
 | _::_,[],_,_,_,_,_,_,e=>nomatch e
 | k::ks,d0::ds,_,z,d,hk,hz,⟨v,r,ev,t,ts⟩,e=>by
  subst ev;have b:=(Pn (hk k a_)).1.1;have b2:=(Pn hz).1.1
  have e:(if PyData.eqv k z=true then some d0 else S8 ks ds z)=some d:=e
  by_cases h:PyData.eqv k z=true
  ·rw[if_pos h]at e
   cases e
   exact⟨v,Uj ((N7 k z b b2).mp h),t⟩
  ·rw[if_neg h]at e
   obtain⟨v',h1,h2⟩:=Ax4 (fun k m=>hk k (bw _ m)) hz ts e
   refine⟨v',?_,h2⟩
   rw[bZ,Ue (fun q=>h ((N7 k z b b2).mpr q))];exact h1
theorem A9w {ta tw:TE}{fa fw:m6}(ha:ME K ta fa)(hw:ME K tw fw):ME K (A6e ta tw) (Ad8 fa fw):=by
 intro β W c σ Q R s
 refine ha β W c σ _ R ((s.bnd).mono fun p c1 s1 v1 W1 fp1 st1 R1 r1=>?_)
 match p,r1,s1 with
 | .o (.ty (.dt ks ds)),r1,s1 =>
  obtain⟨⟨rfl,a,xs,rfl,h1,t1,l1⟩,_⟩:=r1
  have st1:Stp W.S W.Hf W.H W1.S W1.Hf W1.H:=st1.less fun a z=>.inl z
  refine hw.toV β W1 c1 σ _ R1 ((s1.bnd).mono fun q c2 s2 v2 W2 st2 R2 r2=>?_)
  cases ed:Dl c2 (nrm q) with
  | none=>simp only[ed]at s2;exact s2.elim
  | some k =>
   simp only[ed]at s2
   by_cases hb:(Mv k&&ks.all Mv)=true
   ·rw[if_pos hb]at s2
    obtain⟨hk,hks⟩:=aq.mp hb
    cases el:S8 ks ds k with
    | none=>simp only[el]at s2;exact s2.elim
    | some d =>
     simp only[el]at s2;obtain⟨_,kd,rfl⟩:=Pn hk;have tz:Tr W2.Hf (.tuple kd) v2:=Eh R2 r2 ed;obtain⟨b,rfl,kb⟩:=A6f hk tz
     obtain⟨v,q1,q2⟩:=Ax4 (fun k m=>aU.mp hks k m) hk (TrL.same st2.fz t1) el
     have e2:Rd W2.H a (.dT (ks.zip xs)):=Xi R2.sub (Xi st2.fz h1)
     refine⟨a,v,rfl,?_,?_⟩
     ·rw[<- q1]
      exact .inr ⟨_,_,b,e2,rfl,kb.stay fun b xs q=>R2.sub _ _ q,rfl⟩
     ·exact s2 v W2 [] ((st1.trans st2).less fun a h=>by
       rcases h with h | h
       ·exact h
       ·cases h) R2 ⟨⟨rfl,q2⟩,fun a h=>nomatch h⟩
   ·rw[if_neg hb]at s2;exact s2.elim
 | .o (.ty (.nm _)),r1,s1=>exact s1.elim
 | .o (.ty (.tc _)),r1,s1=>exact s1.elim
 | .o (.ty (.xc _)),r1,s1=>exact s1.elim
 | .o (.ty (.dc _ _)),r1,s1=>exact s1.elim
 | .o (.ty (.ds _ _)),r1,s1=>exact s1.elim
 | .o (.ty (.td _ _ _)),r1,s1=>exact s1.elim
 | .o (.im _),r1,s1=>exact s1.elim
 | .o (.ls _ _),r1,s1=>exact s1.elim
 | .o (.sc _),r1,s1=>exact s1.elim
 | .sl _,r1,s1=>exact s1.elim
end
inductive DE where
 | d (x:t_)
 | l (xs:w5)
inductive BR where
 | nx (c:Ev) (ks:w5) (es:List DE)
 | bad
def DX (a:Addr)(X:Nat->v6)(b:Addr):Prop:=b=a\/∃j,b∈X j
abbrev orX (S:Addr->Prop)(a:Addr)(X:Nat->v6):Addr->Prop:=fun b=>S b\/DX a X b
variable {K:v9}
theorem Br         {p a:Pos}(D:Def X.prog X.w X.K X.mg X.base x k ps sp) (hr:Room c X.A) (ha:QA X (e::es) t) (h:k<=c:=by (first|lia|omega)) (hg:Gl X x:=by rfl)
 (hdb:(x==("__debug__" : Str))=false:=by decide) (hn:noStar (e::es)=true:=by rfl):QE X (.Call (.Name x p) (e::es) [] a) (Qx sp [] E0 t):=by
 obtain⟨f,g,G,b,d,m⟩:=D;exact Ae8 G (hr.mono h) hg m d b .nil B3b ha hdb hn
end U
namespace L2
open PySem PySem.Spec PyProof.Rows
end L2
namespace L2
open PySem PySem.Spec PyProof.Rows PySem.W
section
variable {X:Cx}
def JT (X:Cx)(vs:v_)(m:Nat):Prop:=∀(pins:y_) (σ:St) (H:Hp) (s:u_) (acc:Str) (Q:Str->u_->Prop),Inv X pins σ H s->acc.length+m<=16001000->(∀out s',out.length<=sizeLine->Inv X pins σ H s'->Q out s')->Joins (model X.prog X.w) X.A X.xe (evalEach vs X.env) acc Q s
theorem Bv6:JT X [] 0:=fun pins σ H s acc Q I h q=>q acc s (aj h (by decide)) I
theorem Bo8 {v:Expr}{y:Str}(h:QE X v (tC (.str y))):JT X [v] y.length:=by
 intro pins σ H s acc Q I hl q
 refine wpAny_mono (h.get pins s σ H (fun v H1=>v=.str y/\H1=H) I ⟨rfl,rfl⟩) (fun u s2 ⟨v,H2,I2,r,e1,e2⟩=>?_) fun _ _ z=>z
 subst e1 e2
 obtain⟨t,e⟩:=(show ∃t,u=Value.str y t from r)
 have:(acc++y).length<=sizeLine:=by rw[strLen_append];exact aj hl (by decide)
 exact⟨y,t,e,this,q _ _ this I2⟩
theorem A9m {v1 val:Expr}{vs:v_}{s1:Str}{m:Nat}{te:TE}{fpos jpos:Pos}(hu:X.A.units+64<cLine)(hg:X.A.guards=some [])(h1:QE X v1 (tC (.str s1)))(hn:s1.length<=1000)(h2:QE X val te)(h3:JT X vs m)(hm:m<=1000):QE X (.JoinedStr (v1::.FormattedValue val 114 none fpos::vs) jpos) (tFs s1.length te):=by
 refine⟨fun pins s σ H Q I h=>?_⟩
 refine wpAny_JoinedStr ?_
 refine wpAny_mono (h1.get pins s σ H (fun v H1=>v=.str s1/\H1=H) I ⟨rfl,rfl⟩) (fun u s2 ⟨v,H2,I2,r,e1,e2⟩=>?_) fun _ _ z=>z
 subst e1 e2
 obtain⟨t,e⟩:=(show ∃t,u=Value.str s1 t from r)
 refine⟨s1,t,e,?_,?_⟩
 ·rw[strLen_append]
  exact aj (by show 0+s1.length<=1000;(first|lia|omega)) (by decide)
 ·refine wpAny_FormattedValue_repr (thn (h2.get pins s2 σ H2 _ I2 h) fun u2 s3 ⟨v,H3,I3,r3,d,td,hd,q⟩=>?_)
  refine Be1 hu hg I3 td r3 hn hd fun z t2 s4 hz I4=>?_
  have hz':z.length<=sizeLine:=aj (aj (bL _ _) hz) (by decide)
  have hl:(Str.empty++s1++z).length+m<=16001000:=by
   rw[strLen_append,strLen_append]
   show 0+s1.length+z.length+m<=_;(first|lia|omega)
  have fin:∀(t3:Tok) (s5:u_),Inv X pins σ H3 s5->∃y t,Value.str z t3=.str y t/\(Str.empty++s1++y).length<=sizeLine/\Joins (model X.prog X.w) X.A X.xe (evalEach vs X.env) (Str.empty++s1++y) (fun out s₁=>out.length<=sizeLine/\EP X pins σ Q (.str out s₁.toks) { s₁ with toks:=s₁.toks+1 }) s5:=fun t3 s5 I5 =>
   ⟨z,t3,rfl,aj (bL _ _) (aj hl (by decide)),h3 pins σ H3 s5 _ _ I5 hl fun out s6 ho I6=>⟨ho,.str _,H3,I6.tok _,⟨_,rfl⟩,q _⟩⟩
  exact wpAny_formatField_str (fin _ _ I4) (fin _ _ (I4.tok _)) hz'
end
end L2
namespace U
open PySem L2 PySem.W
end U
namespace L2
open PySem PySem.Spec PyProof.Rows PySem.W
section
variable {K K':Frag}
def Ht (K K':Frag):Prop:=∀a o,K.lookup a=some o->K'.lookup a=some o
theorem Oi (s:Ht K K'){ns:Addr}{x:Str}{r:u9}(e:nsIn K ns x=some r):nsIn K' ns x=some r:=by
 unfold nsIn at e ⊢
 split at e
 ·rename_i ho;rw[s _ _ ho];exact e
 ·cases e
theorem Ab6 (s:Ht K K'){x:Str}{v:Value}{r:u9}(e:ownIn K x v=some r):ownIn K' x v=some r:=by
 cases v with
 | ref a =>
  unfold ownIn at e ⊢
  dsimp only at e ⊢
  split at e
  ·rename_i ho;rw[s _ _ ho];exact Oi s e
  ·cases e
 | _=>exact e
theorem T8 (s:Ht K K'){x:Str}:∀{l:w6}{r:u9},alongIn K x l=some r->alongIn K' x l=some r
 | [],r,e=>e
 | v::l,r,e=>by
  unfold alongIn at e ⊢
  split at e
  ·rename_i h;rw[Ab6 s h];exact e
  ·rename_i h;rw[Ab6 s h];exact T8 s e
  ·cases e
theorem Gy (s:Ht K K'){x:Str}{C:Addr}{r:u9}(e:findIn K (.ref C) x=some r):findIn K' (.ref C) x=some r:=by
 unfold findIn at e ⊢
 dsimp only at e ⊢
 split at e
 ·rename_i ho;rw[s _ _ ho];exact T8 s e
 ·cases e
theorem A4k (s:Ht K K'){C:Addr}{cd:ClassData}(e:clsIn K C=some cd):clsIn K' C=some cd:=by
 unfold clsIn at e ⊢
 split at e
 ·rename_i ho;rw[s _ _ ho];exact e
 ·cases e
theorem Uz (s:Ht K K'){t b:Value}{r:Bool}(e:subIn K t b=some r):subIn K' t b=some r:=by
 cases t with
 | ref C =>
  obtain⟨cd,h1,h2⟩:=bh.mp (show (clsIn K C).bind _=_ from e)
  exact Option.bind_eq_some_iff.mpr ⟨cd,A4k s h1,h2⟩
 | _=>exact e
theorem Wn (s:Ht K K'){t c:Value}{r:Bool}(e:kitCls K t c=some r):kitCls K' t c=some r:=by
 unfold kitCls at e ⊢
 split at e
 ·rename_i C
  split at e
  ·rename_i z
   rw[if_pos,Uz s e]
   dsimp only[clsIn,typeIn]at z ⊢
   cases ho:K.lookup C with
   | none=>rw[ho]at z;cases z
   | some o=>rw[s _ _ ho];rw[ho]at z;exact z
  ·cases e
 ·split at e
  ·rename_i z;rw[if_pos z,Uz s e]
  ·cases e
 ·cases e
theorem Ay9 (s:Ht K K'){t c:Value}{r:Bool}(e:kitOne K t c=some r):kitOne K' t c=some r:=by
 unfold kitOne at e ⊢
 split at e
 ·rename_i z;rw[if_pos z];exact e
 ·rename_i z;rw[if_neg z];exact Wn s e
theorem Wb (s:Ht K K'){t c:Value}{r:Bool}(e:exmOne K t c=some r):exmOne K' t c=some r:=by
 unfold exmOne at e ⊢
 split at e
 ·rename_i z
  rw[if_pos (by rw[Uz s (aV.mp z)];rfl)];exact Wn s e
 ·cases e
theorem Aw8 (s:Ht K K'){n:Addr}(e:nsOkIn K n=true):nsOkIn K' n=true:=by
 unfold nsOkIn at e ⊢
 split at e
 ·rename_i ho;rw[s _ _ ho];exact e
 ·cases e
theorem Qi (s:Ht K K'){b:w6}:∀{l:w6},tailIn K b l=true->tailIn K' b l=true
 | [],e=>e
 | v::l,e=>by
  unfold tailIn at e ⊢
  rcases fW.mp e with q | q
  ·rw[q];rfl
  ·refine Bool.or_eq_true_iff.mpr (.inr ?_)
   split at q
   ·split at q
    ·rename_i ho
     rw[s _ _ ho];simp only[aO,aV]at q ⊢;exact⟨⟨Aw8 s q.1.1,Oi s q.1.2⟩,Qi s q.2⟩
    ·cases q
   ·cases q
theorem A2w (s:Ht K K'){C:Addr}{b:w6}{i:String}(e:excIn K C b i=true):excIn K' C b i=true:=by
 unfold excIn at e ⊢
 split at e
 ·rename_i ho
  rw[s _ _ ho]
  split at e
  ·rename_i h1 h2
   simp only[h1,h2,aO,aV]at e ⊢;obtain⟨⟨⟨e1,e2⟩,e3⟩,e4⟩:=e;exact⟨⟨⟨e1,Qi s e2⟩,Aw8 s e3⟩,Oi s e4⟩
  ·cases e
 ·cases e
theorem Au6 (s:Ht K K'){C:Addr}(e:Yh K C=true):Yh K' C=true:=by
 unfold Yh at e ⊢
 split at e
 ·rename_i ho
  rw[s _ _ ho];simp only[aO]at e ⊢
  refine⟨⟨e.1.1,?_⟩,e.2⟩
  have q:=e.1.2
  split at q
  ·rename_i hm
   simp only[aO]at q ⊢;exact⟨q.1,Qi s q.2⟩
  ·cases q
 ·cases e
theorem A8b (s:Ht K K'){C:Addr}(e:xcB K C=true):Jg K' C:=by
 unfold xcB at e;simp only[aO,aV]at e;exact⟨Au6 s e.1,Gy s e.2.1,Gy s e.2.2.1,Gy s e.2.2.2⟩
theorem J7 (s:Ht K K'){x:Str}{p:Addr->Bool}(e:clB K x p=true):∃C,nsIn K' mainGlobals x=some (some (.ref C))/\p C=true:=by
 unfold clB at e
 split at e
 ·rename_i C h;exact⟨C,Oi s h,e⟩
 ·cases e
theorem Am2 (s:Ht K K'){z:Value}:∀{tbl:List (Str×Bool)},tbB K z tbl=true->TbOk K' z tbl
 | [],_=>.nil
 | (x,b)::tbl,e=>by
  obtain⟨e1,e2⟩:=aq.mp e;obtain⟨C,n,q⟩:=J7 s e1;obtain⟨q1,q2⟩:=aq.mp q;exact .cons n (A8b s q1) (Ay9 s (aV.mp q2)) (Am2 s e2)
theorem An2 (s:Ht K K'){F:Addr}:∀{NS:v4},exB K F NS=true->ExOk K' F NS
 | [],_=>.nil
 | x::NS,e=>by
  obtain⟨e1,e2⟩:=aq.mp e;obtain⟨C,n,q⟩:=J7 s e1;exact .cons n (Wb s (aV.mp q)) (An2 s e2)
def A0c (R:v4)(T:List (Str×List (Str×Bool)))(V:List (Str×Bool))(F:v4)(h:Heap):Prop:=∃K:Frag,cfB R T V F K=true/\∀a o,K.lookup a=some o->h.get? a=some o/\Br2 o=true
variable {R:v4}{T:List (Str×List (Str×Bool))}{V:List (Str×Bool)}{F:v4}{h h':Heap}{mg:x_}
theorem B2o {l:List Nat}(e:cfB R T V F (Bb2 l h)=true):A0c R T V F h:=⟨Bb2 l h,e,fun a o q=>by
 unfold Bb2 at q;rw[J5]at q
 split at q
 ·obtain⟨o',h1,h2⟩:=bh.mp q
  split at h2
  ·cases h2;exact⟨h1,by assumption⟩
  ·cases h2
 ·cases q⟩
theorem A7i (x:A0c R T V F h)(hk:∀b o,h.get? b=some o->h'.get? b=some o):A0c R T V F h' :=
 let ⟨K,e,q⟩:=x; ⟨K,e,fun a o z=>⟨hk _ _ (q a o z).1,(q a o z).2⟩⟩
theorem Bb6 (x:A0c R T V F h)(kin:K.In h)(G:h.Ns mainGlobals mg)(hK:∀a o,h.get? a=some o->Fo o=true->o.data≠.fields #[]->K.lookup a=some o) :
 (∀(i:Nat) (x:Str),R[i]?=some x->ClR K mg x)/\(∀(i:Nat) (q:Str×List (Str×Bool)),T[i]?=some q->ClT K mg q.2 q.1)/\TbOk K (.type "ValueError") V/\∀(i:Nat) (x:Str),F[i]?=some x->ClF K mg R x:=by
 obtain⟨K0,e,q⟩:=x
 have s:Ht K0 K:=fun a o z=>by
  obtain⟨q1,q2⟩:=q a o z;unfold Br2 at q2
  refine hK a o q1 ?_ ?_
  ·unfold Fo;split at q2 <;> simp_all
  ·intro y;rw[y]at q2;cases q2
 obtain⟨e1,e2⟩:=aq.mp e;obtain⟨e2,e3⟩:=aq.mp e2;obtain⟨e3,e4⟩:=aq.mp e3
 refine⟨fun i x m=>?_,fun i p m=>?_,Am2 s e3,fun i x m=>?_⟩
 ·obtain⟨C,n,z⟩:=J7 s (aU.mp e1 x (bA m))
  exact⟨C,mg_of kin G n,n,A2w s z⟩
 ·obtain⟨C,n,z⟩:=J7 s (aU.mp e2 p (bA m))
  exact⟨C,mg_of kin G n,Am2 s z⟩
 ·obtain⟨C,n,z⟩:=J7 s (aU.mp e4 x (bA m))
  exact⟨C,mg_of kin G n,An2 s z⟩
end
def We (A:q_):q_:={ A with handled:=none }
def Cx.wild (X:Cx):Cx:={ X with calm:=false,xe:=fun _ _=>False }
structure FnM (P:u6) (w:World) (K:v9) (mg:x_) (base:Heap) (k:Nat) (f:Addr) (fd:u5) (ps:v4) (sp:Sp):Prop where
 len:∀vs H Q E,sp vs H Q E->vs.length=ps.length
 run:∀(A:q_) (outer:List Env) (s:u_) (H:Hp) (args:Args) (us:w6) (vs:l_) (Q:VK) (E:XK),Room k (We A)->Env0 P w K mg base A outer s H->BindsTo s fd args (ps.zip us)->Vals vs us->sp vs H Q E ->
  codeAny (model P w) A (.call (.ref f) args) (CR CX0 outer P w H s Q E) s
section
variable {P:u6}{w:World}{K:v9}{mg:x_}{base:Heap}
theorem Fun.okM {x qual:Str}{st:Stmt}{f:Addr}{fd:u5}{N ps:v4}{k:Nat}{sp:Sp}(F:Fun K x qual st f fd)(S:Bq N ps (Ar st))(len:∀vs H Q E,sp vs H Q E->vs.length=ps.length)
 (hbody:∀(cdv:Value) (A:q_) (outer:List Env) (s:u_) (H:Hp) (vs:l_) (Q:VK) (E:XK),Room k (We (A.deeper (envOfC qual (Ar st) s.heap.objs.size f cdv)))->sp vs H Q E ->
  ∃t,PSs (K3 CX0 P w K mg base N qual (Ar st) f cdv A outer s H E).wild (Gi st) t/\t { nx:=fun _ H'=>Q .non H',rt:=Q } (start N vs) H):FnM P w K mg base (k+1) f fd ps sp:=by
 obtain⟨oc,od,kV,doc,pm,an,cdv,ct,osl,rfl,lk,hcd⟩:=F.ex
 refine⟨len,fun A outer s H args us vs Q E hr e0 hb r hsp=>?_⟩
 have hl:=len _ _ _ _ hsp
 have KX:K.In s.heap:=e0.mod.kin.keeps fun b o e=>(e0.bs b o e).1
 have lim:s.heap.NoLimit:=e0.mod.nolimit.keeps fun b o e=>(e0.bs b o e).1
 have hkind:∀y∈ps.zip us,(Ar st).names.lookup y.1=some .local\/((Ar st).names.lookup y.1=some .cell/\((cellsFrom (s.heap.objs.size+1) (Ar st).names []).lookup y.1).isSome=true):=fun⟨n,v⟩ hy=>by
  rcases S.par n (dO hy).1 with q | q
  ·exact .inl q
  ·exact .inr ⟨q,fu _ _ _ (.inl q)⟩
 refine codeAny_call_function (show A.depth<recursionLimit from hr.depth) (KX _ _ lk) rfl S.co S.gen rfl (PySem.W.codeRec_of KX hcd) (hb _ _ _ _ ?_)
 refine wpAny_newFunctionEnv_cells S.kind hkind fun env he s1 x=>?_
 subst he
 refine⟨lim.keeps x.toInCall.keep,codeAny_func ?_⟩
 obtain⟨t,ht,hq⟩:=hbody cdv A outer s H vs Q E (hr.deeper _) hsp;have e1:Env0 P w K mg base (We A) outer s H:=⟨e0.frames,e0.mod,e0.bs,e0.bsz,e0.funs,e0.frf,e0.tab,e0.hok,e0.bare⟩;have I0:Inv (K3 CX0 P w K mg base N qual (Ar st) f cdv (We A) outer s H E) [] (start N vs) H s1:=V3 S hr.hd e1 hl r x
 have I:Inv (K3 CX0 P w K mg base N qual (Ar st) f cdv A outer s H E).wild [] (start N vs) H s1 :=
  ⟨⟨I0.ok.mod,I0.ok.kind,I0.ok.glob,I0.ok.blt,I0.ok.above,I0.ok.inj,I0.ok.has,I0.ok.cab,(fun z=>nomatch z),Around.frames_deeper e0.frames,I0.ok.stk,I0.ok.exf,I0.ok.bs,I0.ok.bsz,I0.ok.noex,I0.ok.exfs,I0.ok.funs,I0.ok.frf,I0.ok.tab⟩,I0.os,I0.bare,I0.base,I0.loc,I0.cell,I0.free,I0.freeC,I0.pin,I0.hok,I0.len⟩
 refine wpAny_mono (ht [] s1 (start N vs) H _ I hq) (fun fl s' hs=>?_) fun e s' hs=>hs.elim
 have fin:∀{σ':St} {H':Hp} {v:V} {u:Value},Inv (K3 CX0 P w K mg base N qual (Ar st) f cdv A outer s H E).wild [] σ' H' s'->RelV v u->Q v H'->CE outer P w H s Q u s' :=
  fun {σ' H' v u} J rv q=>⟨v,H',J.os,J.bare,J.base,J.hok,rv,q⟩
 cases fl with
 | ret u =>
  obtain⟨v,σ',H',J,rv,q⟩:=hs;exact fin J rv q
 | next =>
  obtain⟨σ',H',J,q⟩:=hs;exact fin (v:=V.non) (u:=Value.none) J rfl q
 | brk =>
  obtain⟨_,_,_,q⟩:=hs;exact False.elim q
 | cont =>
  obtain⟨_,_,_,q⟩:=hs;exact False.elim q
end
end L2
namespace U
open PySem L2
def Bw3 (P:u6)(w:World)(K:v9)(mg:x_)(base:Heap)(x:Str)(k:Nat)(ps:v4)(sp:Sp):Prop :=
 ∃(f:Addr) (fd:u5),FnM P w K mg base k f fd ps sp/\Binds K fd ps []/\PySem.W.keepIn K (.ref f)=true/\mg x=some (.ref f)
theorem Bl1 {X:Cx}{x:Str}{k k':Nat}{ps:v4}{sp:Sp}{e:Expr}{es:v_}{t:TA}{p pos:Pos}(D:Bw3 X.prog X.w X.K X.mg X.base x k ps sp)(hr:Room k' (We X.A))(ha:QA X (e::es) t)(h:k<=k':=by (first|lia|omega))(hg:Gl X x:=by rfl)
 (hdb:(x==("__debug__" : Str))=false:=by decide) (hn:noStar (e::es)=true:=by rfl):QE X (.Call (.Name x p) (e::es) [] pos) (Qx sp [] E0 t):=by
 obtain⟨f,fd,G,b,kp,m⟩:=D
 refine⟨fun pins s σ H Q I h0=>?_⟩
 refine wpAny_Call_Name_kw (Hh I hg m ?_ hdb)
 refine fc (h₀:=X.base) I.ok.mod.kin kp (thn (ha.get pos pins s σ H _ I h0) fun us s1 ⟨vs,H1,I1,r,q⟩=>⟨I1.kIn,?_⟩) (Et (Ei hn).1) (Ie (Ei hn).2)
 have r2:Vals (vs++[]) (us++[]):=r.append .nil
 have hl:(us++[]).length=ps.length:=by rw[<- r2.length];exact G.len _ _ _ _ q
 refine wpAny_call (codeAny_mono (G.run X.A X.stack s1 H1 ⟨us,[]⟩ (us++[]) (vs++[]) Q E0 (hr.mono h) I1.env0 (b s1 us I1.kIn hl) r2 q) fun r s' hq=>?_)
 cases r with
 | error e=>exact hq.elim
 | ok fl =>
  cases fl with
  | ret u=>exact I1.after hq
  | next=>exact False.elim hq
  | brk=>exact False.elim hq
  | cont=>exact False.elim hq
end U
namespace L2
open PySem PySem.Spec PyProof.Rows PySem.W
def Xr (K:v9):l_->Hp->VK->Prop:=fun xs H Q=>∃(a C p:Addr) (d:Option Addr) (cs:v6) (b:Bool),xs=[.ref a,.ref p]/\H a=some (Jw a C d)/\Jg K C/\H p=some (.tup (cs.map V.ref))/\kitAny K (.ref C) (cs.map Value.ref)=some b/\Q (.bl b) H
theorem Wy:∀{cs:v6}{us:w6},Vals (cs.map V.ref) us->us=cs.map Value.ref
 | [],us,h=>by cases h;rfl
 | c::cs,us,h=>by
  cases h with
  | cons r t=>rw[Wy t,show _=Value.ref c from r];rfl
section
variable {X:Cx}
theorem An9:CallR X (.builtin "isinstance") (Xr X.K):=by
 intro pins s σ H xs us Q I r h;obtain⟨a,C,p,d,cs,b,rfl,ha,Z,hp,ek,q⟩:=h;obtain⟨u1,u2,rfl,r1,r2⟩:=vals2 r
 cases (show u1=Value.ref a from r1)
 cases (show u2=Value.ref p from r2)
 have ho:z8 X.prog X.w H s.heap a (Jw a C d):=I.hok a _ ha;obtain⟨_,its,rt,o,hq,hc,⟨n,hd⟩,_⟩:=I.hok p _ hp
 cases Wy rt
 obtain⟨cls,dd,data,sl⟩:=o;simp only at hc hd;subst hc hd
 exact kia_tup (Aa2 Z) I.kIn ho.1 hq ek (fun z=>nomatch z) fun tk=>⟨.bl b,H,I.tok _,rfl,q⟩
theorem A8d {e:Expr}{es:v_}{t:TA}{p pos:Pos}{Kq:v9}(hKq:X.K=Kq)(hgl:Gl X "isinstance") (hm:X.mg "isinstance" = none) (ha:QA X (e::es) t) (hn:noStar (e::es)=true:=by rfl):QE X (.Call (.Name "isinstance" p) (e::es) [] pos) (tCB (Xr Kq) t):=by
 subst hKq
 exact⟨Eo An9 hgl hm Gz ha.get (by decide) (by decide) hn⟩
end
def Ad0 (K:v9)(gs:v6)(tbl:List (Str×Bool)):Prop:=∀nm b,tbl.lookup nm=some b->∀C,PySem.W.nsIn K mainGlobals nm=some (some (.ref C))->Jg K C/\kitAny K (.ref C) (gs.map Value.ref)=some b
theorem Bf0 {K:v9}{g:Addr}{tbl:List (Str×Bool)}(h:TbOk K (.ref g) tbl):Ad0 K [g] tbl:=fun nm b e C hn=>by
 obtain⟨x,k⟩:=h nm b e C hn
 refine⟨x,?_⟩
 show (match kitOne K (.ref C) (.ref g) with
  | some true=>some true
  | some false=>some false
  | none=>none)=some b
 rw[k];cases b <;> rfl
def orT:List (Str×Bool)->List (Str×Bool)->List (Str×Bool)
 | (n,b)::r,(_,c)::s=>(n,b||c)::orT r s
 | _,_=>[]
theorem Ab1:∀{t u:List (Str×Bool)}{nm:Str}{b:Bool},t.map (·.1)=u.map (·.1)->(orT t u).lookup nm=some b->∃x y,t.lookup nm=some x/\u.lookup nm=some y/\b=(x||y)
 | [],_,nm,b,_,e=>by cases e
 | _::_,[],nm,b,_,e=>by cases e
 | (n,x)::t,(m,y)::u,nm,b,h,e=>by
  rw[aQ,aQ]at h;obtain⟨h1,h2⟩:=List.cons.inj h
  cases (show n=m from h1)
  rw[aN,aN]
  rw[show orT ((n,x)::t) ((n,y)::u)=(n,x||y)::orT t u from rfl,aN]at e
  cases q:nm==n with
  | true=>rw[q]at e;cases e;exact⟨x,y,rfl,rfl,rfl⟩
  | false=>rw[q]at e;exact Ab1 h2 e
theorem U9 {K:v9}{g:Addr}{gs:v6}{t u:List (Str×Bool)}(h:TbOk K (.ref g) t)(hs:Ad0 K gs u)(e:t.map (·.1)=u.map (·.1)):Ad0 K (g::gs) (orT t u):=fun nm b el C hn=>by
 obtain⟨x,y,e1,e2,rfl⟩:=Ab1 e el;obtain⟨x1,k⟩:=h nm x e1 C hn;obtain⟨_,k2⟩:=hs nm y e2 C hn
 refine⟨x1,?_⟩
 show (match kitOne K (.ref C) (.ref g) with
  | some true=>some true
  | some false=>kitAny K (.ref C) (gs.map Value.ref)
  | none=>none)=_
 rw[k]
 cases x
 ·exact k2
 ·rfl
end L2
namespace U
open PySem L2 PySem.W
variable {K:v9}
def tCs:v6->TA
 | []=>Fl
 | g::gs=>Ca (tC (.ref g)) (tCs gs)
theorem A8g {σ:St}:∀{gs:v6}{H:Hp}{k:l_->Hp->Prop},k (gs.map V.ref) H->tCs gs σ H k
 | [],_,_,h=>h
 | g::gs,H,k,h=>A8g (gs:=gs) (k:=fun vs H1=>k (V.ref g::vs) H1) h
theorem A3e {te:TE}{f:m6}{gs:v6}{tbl:List (Str×Bool)}(ht:Ad0 K gs tbl)(h:ME K te f)(hl:gs.length<=1000:=by simp) :
 ME K (tCB (Xr K) (Ca te (Ca (A7d (tCs gs)) Fl))) (K6 tbl f):=by
 intro β W c σ Q R s
 refine h β W c σ _ R ((s.bnd).mono fun p c1 s1 v1 W1 fp1 st1 R1 r1=>?_)
 cases ed:rdP c1 p with
 | none=>simp only[ed]at s1;exact s1.elim
 | some o =>
  simp only[ed]at s1
  match o,ed,s1 with
  | .ty (.xc nm),ed,s1 =>
   cases el:tbl.lookup nm.n with
   | none=>simp only[el]at s1;exact s1.elim
   | some b =>
    simp only[el]at s1;obtain⟨a,C,d,e,hn,hf⟩:=A3o R1 r1 ed;subst e;obtain⟨x1,x2⟩:=ht nm.n b el C hn.ns
    refine A8g ⟨by rw[ao];exact aj hl (by decide),fun q hq=>?_⟩
    have sn:Same W1.H (upd W1.H q (.tup (gs.map V.ref))):=fun b u e=>Ce hq b u e
    refine⟨a,C,q,d,gs,b,rfl,sn _ _ (R1.sub _ _ hf),x1,Bg,x2,?_⟩
    have R2:Rep K β ⟨W1.Hf,upd W1.H q (.tup (gs.map V.ref)),W1.fps⟩ c1 σ:=Stp.rep (S':=fun _=>False) R1 (Mf sn) fun a o e=>sn a o (R1.sub a o e)
    exact s1 (.bl b) ⟨W1.Hf,upd W1.H q (.tup (gs.map V.ref)),W1.fps⟩ [] ((st1.trans (Mf sn)).less fun a z=>by
     rcases z with z | z
     ·exact .inl z
     ·cases z) R2 ⟨⟨rfl,rfl⟩,fun a z=>nomatch z⟩
  | .ty (.nm _),ed,s1=>exact s1.elim
  | .ty (.tc _),ed,s1=>exact s1.elim
  | .ty (.dc _ _),ed,s1=>exact s1.elim
  | .ty (.dt _ _),ed,s1=>exact s1.elim
  | .ty (.ds _ _),ed,s1=>exact s1.elim
  | .ty (.td _ _ _),ed,s1=>exact s1.elim
  | .im _,ed,s1=>exact s1.elim
  | .ls _ _,ed,s1=>exact s1.elim
  | .sc _,ed,s1=>exact s1.elim
end U
namespace L2
open PySem
theorem Room.again {k:Nat}{A:q_}{a:u9}(r:Room k A):Room k (We (A.mark a)):=⟨rfl,r.dp,r.un,r.gd⟩
end L2
namespace U
open PySem L2 PySem.W
end U
namespace L2
open PySem PySem.Spec PyProof.Rows PySem.W
section
variable {prog:u6}{w:World}{A:q_}{E:z_}{h:Heap}{g:Array GenState}{d:Drawn}{t:Nat}{os:OsState}{K:Frag}
variable {nm q:Str}{C N:Addr}{bs bm:w6}{hdct:Bool}{sn:v4}{sub:w6}{ab:Bool}{col:Option Bool}{dd:Option Addr}{k0 k1 k2 k3 k5:u9}
theorem Be9 {rest:w6}{fI:Addr}{oI:Obj}{Q:Fin->u_->Prop}(X:K.In h)(T:OwnTail h bmV bm)(hC:h.get? C=some (excClassObj nm q C N bs bm hdct sn sub ab col dd k0 k1 k2 k3 k5 "ValueError.__new__")) (hi:findIn K (.ref C) "__init__" = some (some (.ref fI)))
 (hf:h.get? fI=some oI) (hc:oI.cls=.type "function") (hr:rest.length<=sizeLine)
 (hq:∀h' e,Heap.MadeExcOf h h' e (.ref C) rest->h.objs.size<=e->wpAny (model prog w) A (call (.ref fI) (.ref e::rest)) (fun r s'=>r=.none/\Q (.done (.ret (.ref e))) s') E ⟨h',g,d,t,os⟩) :
 wpAny (model prog w) A (Builtin.«type.__call__» ⟨.ref C::rest,[]⟩) Q E ⟨h,g,d,t,os⟩:=by
 have F:=fU
 repeat (first | with_reducible refine wpAny_loadPart_at hC ?_ | with_reducible refine wpAny_madeBy_exc hC ?_ | wp_step)
 refine codeAny_call_builtin_code (Code.quiet_builtin _ F.quiet) (wpAny_check_new_subT F T hC ?_)
 refine codeAny_exc_new_subT F T hC ?_ hr
 show wpAny _ _ _ _ _ _
 have M:Heap.MadeExcOf h ((h.push { cls:=.type "tuple",data:=.seq rest.toArray }).push { cls:=.ref C,data:=.fields #[.ref h.objs.size,.none,.none,.none,.bool false,.none] }) (h.objs.size+1) (.ref C) rest :=
  ⟨fun b o z=>Heap.get?_push_of_some _ (Heap.get?_push_of_some _ z),Heap.get?_none_of_le (cL _),h.objs.size,by heap_get,Heap.get?_none_of_le (ak _),Heap.get?_push_of_some _ (Heap.get?_push_at rfl rfl)⟩
 generalize (h.push { cls:=.type "tuple",data:=.seq rest.toArray }).push { cls:=.ref C,data:=.fields #[.ref h.objs.size,.none,.none,.none,.bool false,.none] }=h1 at M ⊢;have le:h.objs.size<=h.objs.size+1:=cL _;generalize h.objs.size+1=e at M le ⊢;obtain⟨t0,hget,_⟩:=M.there
 have hcC:(Value.ref C::bm).contains (.ref C)=true:=by simp
 unfold isInstance
 repeat (first | with_reducible refine wpAny_loadPart_at hget ?_ | (with_reducible refine wpAny_isSubtype_exc (M.keeps _ _ hC) ?_;rw[hcC]) | wp_step)
 show wpAny _ _ (typeLookup (.ref C) _) _ _ _
 refine (looks_findIn (X.keeps M.keeps) hi).here ?_
 refine wpAny_holding (wpAny_bind ?_)
 unfold bindSpecial
 refine wpAny_bind (wpAny_typeOf (T := "function") ⟨_,M.keeps _ _ hf,hc⟩ ?_)
 rw[if_pos (by decide)]
 refine wpAny_pure (wpAny_bind (wpAny_mono (hq _ _ M le) (fun r s' z=>?_) fun _ _ x=>x))
 obtain⟨rfl,hQ⟩:=z
 wp_walk
 exact hQ
theorem Az4 {rest:w6}{fI:Addr}{oI:Obj}{Q:z_}(X:K.In h)(T:OwnTail h bmV bm)(hC:h.get? C=some (excClassObj nm q C N bs bm hdct sn sub ab col dd k0 k1 k2 k3 k5 "ValueError.__new__")) (hi:findIn K (.ref C) "__init__" = some (some (.ref fI)))
 (hf:h.get? fI=some oI) (hc:oI.cls=.type "function") (hr:rest.length<=sizeLine)
 (hq:∀h' e,Heap.MadeExcOf h h' e (.ref C) rest->h.objs.size<=e->wpAny (model prog w) (A.under (.builtin "type.__call__" ⟨.ref C::rest,[]⟩)) (call (.ref fI) (.ref e::rest)) (fun r s'=>r=.none/\Q (.ref e) s') E ⟨h',g,d,t,os⟩) :
 wpAny (model prog w) A (call (.ref C) rest) Q E ⟨h,g,d,t,os⟩:=by
 have f1:=tc_lookup;have f2:=tc_bind (.ref C);have hT:(⟨h,g,d,t,os⟩:u_).TypeIs (.ref C) "type" := ⟨_,hC,rfl⟩
 refine wpAny_call (codeAny_of_tree ?_)
 show wpAny _ _ (callAny (.ref C) _) _ _ _
 repeat (any_goals (first | assumption | with_reducible refine wpAny_loadPart_at hC ?_ | wp_step))
 refine⟨rfl,codeAny_call_builtin_at (Code.quiet_builtin _ (by decide +kernel)) entry_typeCall (wpAny_check_type_call_sub hC (Be9 X T hC hi hf hc hr fun h' e m l=>?_))⟩
 exact hq h' e m l
end
section
variable {prog:u6}{w:World}{M:Model}{A:q_}{E:z_}{s:u_}{env:Env}
variable {nm q:Str}{C N:Addr}{bs bm:w6}{hdct:Bool}{sn:v4}{sub:w6}{ab:Bool}{col:Option Bool}{dd:Option Addr}{k0 k1 k2 k3 k5:u9}{newId:String}
abbrev Kz (C:Addr)(d:Option Addr)(t:Addr):Obj:={ cls:=.ref C,dict:=d,data:=.fields #[.ref t,.none,.none,.none,.bool false,.none] }
theorem A5b {x:Sem Value}{Q:Flow->u_->Prop}(hb:bm.contains (.type "BaseException")=true) (hh:A.handled=none)
 (h:wpAny M A x (fun v s1=>∃e d t,v=.ref e/\s1.heap.get? C=some (excClassObj nm q C N bs bm hdct sn sub ab col dd k0 k1 k2 k3 k5 newId)/\s1.heap.get? e=some (Kz C d t)/\E (.ref e) s1) E s) :
 wpAny M A (raiseStmt env (some x) none) Q E s:=by
 have hB:(Value.ref C::bm).contains (.type "BaseException")=true:=by rw[dB,hb,Bool.or_true]
 unfold raiseStmt
 refine wpAny_bind (wpAny_mono h (fun v s1 z=>?_) fun _ _ x=>x)
 obtain⟨e,d0,t0,rfl,hC,he,hE⟩:=z;obtain⟨hp,g,d,tk,os⟩:=s1
 repeat (first | with_reducible refine wpAny_loadPart_at he ?_ | with_reducible refine wpAny_loadPart_at hC ?_ | (with_reducible refine wpAny_isSubtype_exc hC ?_;rw[hB]) | wp_step)
 exact wpAny_raiseNew_none hh hE
theorem Ai6 {x:Str}{np cpos pos:Pos}{args:v_}{Q:Flow->u_->Prop}(hb:bm.contains (.type "BaseException")=true) (hh:A.handled=none) (hpl:(backTo cpos (starEach args env)).any (·.1)=false)
 (h:wpAny (model prog w) A (eval (.Name x np) env) (fun f s1=>f=.ref C/\wpAny (model prog w) A (evalArgs (.ref C) true (backTo cpos (starEach args env)) [])
  (fun a s2=>a.kw=[]/\s2.heap.get? C=some (excClassObj nm q C N bs bm hdct sn sub ab col dd k0 k1 k2 k3 k5 newId)/\wpAny (model prog w) A (call (.ref C) a.pos) (fun v s3=>∃e d t,v=.ref e/\s3.heap.get? C=some (excClassObj nm q C N bs bm hdct sn sub ab col dd k0 k1 k2 k3 k5 newId)/\s3.heap.get? e=some (Kz C d t)/\E (.ref e) s3) E s2) E s1) E s) :
 wpAny (model prog w) A (exec (.Raise (some (.Call (.Name x np) args [] cpos)) none pos) env) Q E s:=by
 rw[arm_exec_Raise]
 refine wpAny_bind (wpAny_standAt (A5b (C:=C) (nm:=nm) (q:=q) (N:=N) (bs:=bs) (bm:=bm) (hdct:=hdct) (sn:=sn) (sub:=sub) (ab:=ab) (col:=col) (dd:=dd) (k0:=k0) (k1:=k1) (k2:=k2) (k3:=k3) (k5:=k5) (newId:=newId) hb hh ?_))
 refine wpAny_bind (wpAny_mono (wpAny_Call_ofName (wpAny_mono h (fun f s1 z=>?_) fun _ _ x=>x)) (fun v s3 z=>wpAny_bind (wpAny_standAt (wpAny_pure z))) fun _ _ x=>x)
 obtain⟨rfl,z⟩:=z;unfold callWith
 refine wpAny_bind (wpAny_holding (wpAny_mono z (fun a s2 y=>wpAny_bind (wpAny_standAt ?_)) fun _ _ x=>x))
 obtain⟨apos,akw⟩:=a;obtain⟨hkw,hC,y⟩:=y;obtain rfl:akw=[]:=hkw;obtain⟨hp,g,d,tk,os⟩:=s2;simp only[hpl]
 refine wpAny_bind (wpAny_keeperOf_exc hC ?_)
 exact wpAny_bind (wpAny_mono y (fun v s3 z=>wpAny_bind (wpAny_holding (wpAny_point (wpAny_pure z)))) fun _ _ x=>x)
end
end L2
namespace L2
open PySem PySem.Spec PyProof.Rows PySem.W Builtin Builtin.ObjectAttr
section
variable {prog:u6}{w:World}{A:q_}{E:z_}{h:Heap}{g:Array GenState}{d:Drawn}{t:Nat}{os:OsState}{K:Frag}{s:u_}
variable {nm q f:Str}{C N F e t0:Addr}{bs bm:w6}{sn:v4}{sub:w6}{ab:Bool}{col:Option Bool}{dd:Option Addr}{k0 k1 k2 k3 k5:u9}{v:Value}
theorem A8m {pl:Sem Bool}{Q:Value×w6->u_->Prop}(X:K.In s.heap)(hm:typeIn K (.ref F)=some (.type "type")) (hs:nsIn K cStatics "thirdparty.any" = some none) (hf:findIn K (.ref F) "__init__" = some (some (.builtin "ValueError.__init__")))
 (hq:Q (.builtin "ValueError.__init__",[]) { s with toks:=s.toks+1 }):wpAny (model prog w) A (getMethod (.ref F) "__init__" pl) Q E s:=by
 have ga:findIn K (.type "type") "__getattribute__" = some (some (.builtin "type.__getattribute__")):=type_tga
 refine method_cls X (by unfold specialIn;rw[hm];exact ga) (cls_value (mc:=.type "type") (v:=.builtin "ValueError.__init__") X ?_ ?_ (by decide +kernel) hq)
 ·unfold readsIn
  rw[hs,hm,ga]
  rfl
 ·unfold findCls
  rw[hf]
  rfl
theorem Be2 {u:Value}{Q:z_}(T:OwnTail h bmV bm)(hC:h.get? C=some (excClassObj nm q C N bs bm true sn sub ab col dd k0 k1 k2 k3 k5 "ValueError.__new__")) (he:h.get? e=some (Kz C none t0))
 (hq:∀h' t1,(∀b o,b≠e->h.get? b=some o->h'.get? b=some o)->h'.get? e=some (Kz C none t1)->Q .none ⟨h',g,d,t,os⟩):wpAny (model prog w) A (call (.builtin "ValueError.__init__") [.ref e,u]) Q E ⟨h,g,d,t,os⟩:=by
 have F:=fU
 refine wpAny_call (codeAny_call_builtin F.init.plain F.initEntry (wpAny_check_init_subT F T hC he rfl ?_))
 wp_walk
 refine hq _ h.objs.size (fun b o n z=>?_) ?_
 ·rw[Heap.get?_update_other _ _ (aB n)]
  exact Heap.get?_push_of_some _ z
 ·rw[Heap.get?_update_self _ (Heap.get?_push_of_some _ he) rfl]
  rfl
theorem Ac6 (T:OwnTail h bmV bm)(self:Value):refuseLoop self "__setattr__" bm=pure ():=by
 induction T with
 | base=>exact PySem.F.store_ValueError.passes self
 | own _ _ _ _ ih=>rw[refuseLoop_ref];exact ih
theorem A1f {M:Model}{nv:Value}{Q:Unit->u_->Prop}(T:OwnTail h bmV bm)(hC:h.get? C=some (excClassObj nm q C N bs bm true sn sub ab col dd k0 k1 k2 k3 k5 "ValueError.__new__")) (he:h.get? e=some (Kz C none t0)) (hq:Q () ⟨h,g,d,t,os⟩) :
 wpAny M A (checkBuiltinCall "object.__setattr__" ⟨[.ref e,nv,v],[]⟩) Q E ⟨h,g,d,t,os⟩:=by
 have SF:=PySem.F.store_ValueError
 have hO:(Value.ref C::bm).contains (.type "object")=true:=by rw[dB,T.hasType (X := "object") (b:=true) rfl];rfl
 have ha:=SF.args (.ref e) nv v;simp only[checkBuiltinCall,SF.kind,SF.split]
 refine wpAny_bind ?_
 unfold isInstance
 repeat (first | with_reducible refine wpAny_loadPart_at he ?_ | (with_reducible refine wpAny_isSubtype_exc hC ?_;rw[hO]) | wp_step)
 exact hq
theorem A1z {tk:Tok}{Q:Fin->u_->Prop}(X:K.In h)(T:OwnTail h bmV bm)(hC:h.get? C=some (excClassObj nm q C N bs bm true sn sub ab col dd k0 k1 k2 k3 k5 "ValueError.__new__")) (hf:findIn K (.ref C) f=some none) (he:h.get? e=some (Kz C none t0))
 (hq:∀h' tk,(∀b o,b≠e->h.get? b=some o->h'.get? b=some o)->h'.get? e=some (Kz C (some h.objs.size) t0)->h'.Ns1 h.objs.size (fun y=>if y=f then some v else none)->Q (.done (.ret .none)) ⟨h',g,d,tk,os⟩) :
 wpAny (model prog w) A (Builtin.«object.__setattr__» ⟨[.ref e,.str f tk,v],[]⟩) Q E ⟨h,g,d,t,os⟩:=by
 have l2:=looks_findIn (M:=model prog w) X hf;have pass:=Ac6 T (.ref e);have ne:e≠h.objs.size:=aM (Heap.lt_size he)
 generalize h1d:((h.push { cls:=.type "dict",data:=.dict #[] }).update e fun o=>{ cls:=o.cls,dict:=some h.objs.size,data:=o.data,slots:=o.slots })=h1
 have x1:h1.get? e=some (Kz C (some h.objs.size) t0):=by rw[<- h1d];exact Heap.get?_update_self _ (Heap.get?_push_of_some _ he) rfl
 have k1:∀b o,b≠e->h.get? b=some o->h1.get? b=some o:=fun b o n z=>by rw[<- h1d];exact(Heap.get?_update_ne _ _ _ _ n).trans (Heap.get?_push_of_some _ z)
 have n1:h1.Ns1 h.objs.size (fun _=>none):=Heap.Ns1.of_empty ⟨_,#[],_,by rw[<- h1d];exact(Heap.get?_update_ne _ _ _ _ ne.symm).trans (Heap.get?_push_at rfl rfl),rfl,fun e he=>absurd he (by simp),fun _=>rfl⟩
 unfold Builtin.«object.__setattr__»
 repeat (first | rw[h1d] | rw[refuse_eq] | rw[refuseLoop_ref,pass] | with_reducible refine wpAny_loadPart_at he ?_ | with_reducible refine wpAny_mroOf_exc hC ?_ | with_reducible refine l2.here ?_ | with_reducible refine wpAny_nsSet1 n1 fun h' hn hs=>?_ | wp_step)
 obtain⟨oD,eD,pD,hoD,hdD,hcD⟩:=hn.count (Within.cons f v Within.nil)
 refine wpAny_loadPart hoD ?_
 rw[hdD,pastItsLine_dict (aj hcD (by rw[aG,bU,sizeLine_eq];(first|lia|omega)))]
 refine wpAny_pure (wpAny_pure (hq h' _ (fun b o n z=>?_) ((hs.2 e ne).trans x1) hn))
 exact(hs.2 b (aM (Heap.lt_size z))).trans (k1 b o n z)
theorem A0g {Q:Unit->u_->Prop}(X:K.In h)(T:OwnTail h bmV bm)(hC:h.get? C=some (excClassObj nm q C N bs bm true sn sub ab col dd k0 k1 k2 k3 k5 "ValueError.__new__")) (hs:findIn K (.ref C) "__setattr__" = some (some (.builtin "object.__setattr__"))) (hf:findIn K (.ref C) f=some none)
 (he:h.get? e=some (Kz C none t0))
 (hq:∀h' tk,(∀b o,b≠e->h.get? b=some o->h'.get? b=some o)->h'.get? e=some (Kz C (some h.objs.size) t0)->h'.Ns1 h.objs.size (fun y=>if y=f then some v else none)->Q () ⟨h',g,d,tk,os⟩) :
 wpAny (model prog w) A (setAttr (.ref e) f v) Q E ⟨h,g,d,t,os⟩:=by
 have SF:=PySem.F.store_ValueError;have f3:=SF.slot.bind (.ref e);have l1:=looks_findIn (M:=model prog w) X hs;unfold setAttr callSpecial? specialOf
 repeat (any_goals (first | assumption | with_reducible refine wpAny_loadPart_at he ?_ | with_reducible refine l1.here ?_ | wp_step))
 refine codeAny_call_builtin SF.slot.plain SF.entry (A1f T hC he (A1z X T hC hf he fun h' tk k1 k2 k3=>?_))
 repeat (any_goals (first | assumption | wp_step))
 exact hq h' tk k1 k2 k3
end
section
variable {prog:u6}{w:World}{A:q_}{E:z_}{h:Heap}{g:Array GenState}{d:Drawn}{t:Nat}{os:OsState}{a C dx:Addr}{o:Obj}{K:v9}{f:Str}{v:Value}{m:x_}
theorem A6m {tk:Tok}{vs:v7}{Q:Fin->u_->Prop}(X:K.In h)(Z:Jg K C)(hf:findIn K (.ref C) f=some none)(hx:h.get? a=some o)(hc:o.cls=.ref C)(hd:o.dict=some dx)(ho:o.data=.fields vs)(hn:h.Ns1 dx m)(hm:m f=some v)(hq:Q (.done (.ret v)) ⟨h,g,d,t,os⟩) :
 wpAny (model prog w) A (Builtin.«object.__getattribute__» ⟨[.ref a,.str f tk],[]⟩) Q E ⟨h,g,d,t,os⟩:=by
 obtain⟨bm,Nn,nm,qn,bs,sn,sub,ab,col,dd,k0,k1,k2,k3,k5,hC,T⟩:=G4 X Z.exc;have lc:=looks_findIn (M:=model prog w) X hf;have ns:=hn.ns;obtain⟨oc,od,oa,ol⟩:=o
 cases hc;cases hd;cases ho
 unfold Builtin.«object.__getattribute__»
 repeat (any_goals (first | assumption | with_reducible refine wpAny_loadPart_at hx ?_ | with_reducible refine wpAny_loadPart_at hC ?_ | with_reducible refine lc.here ?_ | (with_reducible refine wpAny_nsGet ns ?_;rw[hm]) | wp_step))
theorem B1m {tk:Tok}{fill expr:Bool}{vs:v7}{Q:z_}(X:K.In h)(Z:Jg K C)(hf:findIn K (.ref C) f=some none)(hx:h.get? a=some o)(hc:o.cls=.ref C)(hd:o.dict=some dx)(ho:o.data=.fields vs)(hn:h.Ns1 dx m)(hm:m f=some v)(hh:handedOut v=pure v)(hq:Q v ⟨h,g,d,t,os⟩) :
 wpAny (model prog w) A (getAttrBy (.ref a) (.str f tk) fill expr) Q E ⟨h,g,d,t,os⟩:=by
 have f3:=eG.ga.bind (.ref a)
 have x0:(expr&&onTheHeap (Value.builtin "BaseException.__getattribute__"))=false:=by cases expr <;> rfl
 have x2:(Value.builtin "BaseException.__getattribute__" == Value.builtin "object.__getattribute__")=false:=by decide +kernel
 have x1:(onTheHeap (Value.ref C)&&Value.builtin "BaseException.__getattribute__" == Value.builtin "object.__getattribute__")=false:=by rw[x2];rfl
 have l1:=looks_findIn (M:=model prog w) X Z.ga;have l2:=looks_findIn (M:=model prog w) X Z.gat
 repeat (any_goals (first | assumption | (with_reducible refine wpAny_loadPart_at hx ?_;rw[hc]) | with_reducible refine l1.here ?_ | with_reducible refine l2.here ?_ | wp_step))
 refine codeAny_call_builtin eG.ga.plain PySem.F.entry_bexc_ga (Aa9 X Z hx hc (A6m X Z hf hx hc hd ho hn hm ?_))
 repeat (any_goals (first | assumption | rw[hh] | wp_step))
theorem Ba8 {expr:Bool}{vs:v7}{Q:z_}(X:K.In h)(Z:Jg K C)(hf:findIn K (.ref C) f=some none)(hx:h.get? a=some o)(hc:o.cls=.ref C)(hd:o.dict=some dx)(ho:o.data=.fields vs)(hn:h.Ns1 dx m)(hm:m f=some v)(hh:handedOut v=pure v)(hq:Q v ⟨h,g,d,t+1,os⟩) :
 wpAny (model prog w) A (getAttr (.ref a) f expr) Q E ⟨h,g,d,t,os⟩:=by
 unfold getAttr
 repeat (any_goals (first | assumption | with_reducible apply B1m X Z hf hx hc hd ho hn hm hh | wp_step))
end
theorem Ak6 {x:V}{u:Value}(r:RelV x u):handedOut u=pure u:=by
 cases u with
 | builtin i=>cases x <;> first | (obtain⟨_,e⟩:=r;cases e) | cases r
 | _=>rfl
section
variable {X:Cx}{e:Expr}{f:Str}{pos:Pos}{ta:TE}
def tXF (K:v9)(ta:TE)(f:Str):TE:=fun σ H Q=>ta σ H fun x H1=>∃a C dx v,x=.ref a/\H1 a=some (Jw a C (some dx))/\H1 dx=some (.xd [(f,v)])/\Jg K C/\findIn K (.ref C) f=some none/\Q v H1
theorem B2w (he:PE X e ta)(hb:attributeBase e f X.env (eval e X.env)=eval e X.env):PE X (.Attribute e f pos) (tXF X.K ta f):=by
 intro pins s σ H Q I h
 refine Bj0 hb (thn (he pins s σ H _ I h) fun u s1 ⟨x,H1,I1,rx,a,C,dx,v,ex,ea,ed,Z,n,q⟩=>?_)
 subst ex;obtain rfl:u=Value.ref a:=rx;obtain⟨⟨o,h1,h2,h3,vs,h4⟩,_⟩:=I1.hok a _ ea;obtain⟨mA,hn,hr⟩:=I1.hok dx _ ed;have hv:=hr f;rw[List.lookup_cons_self]at hv
 cases em:mA f with
 | none=>rw[em]at hv;exact hv.elim
 | some z =>
  rw[em]at hv;obtain⟨hp,g,d,t,os⟩:=s1;exact Ba8 I1.kIn Z n h1 h2 h3 h4 hn em (Ak6 hv) ⟨v,H1,I1.tok _,hv,q⟩
theorem B2v {Kq:v9}(hK:X.K=Kq)(he:QE X e ta)(hb:attributeBase e f X.env (eval e X.env)=eval e X.env:=by rfl):QE X (.Attribute e f pos) (tXF Kq ta f):=by
 subst hK;exact⟨B2w he.get hb⟩
end
end L2
namespace L2
open PySem PySem.Spec PyProof.Rows PySem.W
def exI (e C:Addr)(d:Option Addr):HO:=.ext fun h=>∃t,h.get? e=some (Kz C d t)
theorem Ao2 {P:u6}{w:World}{H:Hp}{h:Heap}{e C t:Addr}{d:Option Addr}(z:h.get? e=some (Kz C d t)):z8 P w H h e (exI e C d):=⟨⟨t,z⟩,⟨_,z⟩,fun h1 h2 ⟨t,z⟩ k=>⟨t,k _ z⟩⟩
structure M5 (K:Frag) (C F:Addr) (f:Str):Prop where
 exc:Yh K C=true
 sa:findIn K (.ref C) "__setattr__" = some (some (.builtin "object.__setattr__"))
 fld:findIn K (.ref C) f=some none
 ty:typeIn K (.ref F)=some (.type "type")
 third:nsIn K cStatics "thirdparty.any" = some none
 base:findIn K (.ref F) "__init__" = some (some (.builtin "ValueError.__init__"))
theorem A6k {H:Hp}{a:Addr}{o:HO}(h:H a=some o):upd H a o=H:=by
 funext b
 by_cases e:b=a
 ·subst e;rw[Bg,h]
 ·rw[Am e]
section
variable {X:Cx}{C F:Addr}{f x:Str}{p ap cp ep tp pos:Pos}{e o value:Expr}{es:v_}{t:TA}{ta tv:TE}
def B0k (C:Addr)(t:TA):TS:=fun D σ H=>t σ H fun vs H1=>∃e u,vs=[.ref e,u]/\H1 e=some (exI e C none)/\D.nx σ H1
theorem Bn5 (Z:M5 X.K C F f)(hg:Gl X x)(hm:X.mg x=some (.ref F))(ha:PA X (e::es) t)(hdb:(x==("__debug__" : Str))=false) (he:starEach (e::es) X.env=(false,eval e X.env)::starEach es X.env) (hpl:(backTo cp (starEach es X.env)).any (·.1)=false)
 (hsw:swapsWith (.Call (.Attribute (.Name x p) "__init__" ap) (e::es) [] cp) none ep.line X.env=pure false) (hl:(ap.endLine==cp.line)=true) (hfew:methodCallForm ((e::es).length+([]:List Keyword).length) (backTo cp (starEach (e::es) X.env)) (backToKw cp (keywordEach [] X.env))=true) :
 PS X (.Expr (.Call (.Attribute (.Name x p) "__init__" ap) (e::es) [] cp) ep) (B0k C t):=by
 intro pins s σ H D I h
 refine wpAny_Expr_any ?_ I.quiet hsw
 have hpos:methodCallPos true (.Name x p) X.env ap cp=pure cp:=by unfold methodCallPos;simp[hl]
 rw[arm_eval_Call,show attributeBase (.Name x p) "__init__" X.env (eval (.Name x p) X.env)=eval (.Name x p) X.env from rfl]
 refine wpAny_bind (Hh I hg hm ?_ hdb)
 refine wpAny_bind (wpAny_standAt ?_)
 unfold methodCall;rw[hfew]
 refine wpAny_bind (wpAny_holding (A8m I.kIn Z.ty Z.third Z.base ?_))
 refine wpAny_bind (wpAny_of_eq hpos ?_)
 refine fY (thn (ha cp pins _ σ H _ (I.tok _) h) fun us s1 ⟨vs,H1,I1,r1,a,u,ev,hE,q⟩=>?_) he hpl
 subst ev;obtain⟨u1,u2,rfl,r2,r3⟩:=vals2 r1
 cases (show u1=Value.ref a from r2)
 obtain⟨⟨t0,ha⟩,_⟩:=I1.hok a _ hE;obtain⟨bm,Nn,nm,qn,bs,sn,sub,ab,col,dd,k0,k1,k2,k3,k5,hC,T⟩:=G4 I1.kIn Z.exc;obtain⟨hp,g,d,tk,os⟩:=s1
 refine Be2 T hC ha fun h' t1 k e1=>?_
 have I2:=I1.write (x:=a) (e:=a) (o:=exI a C none) (t':=tk) (by rw[hE];exact True.intro) (.inl rfl) k ⟨_,e1⟩ (Ao2 e1)
 rw[A6k hE]at I2;exact⟨σ,H1,I2,q⟩
def Bq2 (C:Addr)(f:Str)(ta tv:TE):TS:=fun D σ H=>tv σ H fun y H1=>ta σ H1 fun x H2=>∃e,x=.ref e/\H2 e=some (exI e C none)/\∀dx,H2 dx=none->D.nx σ (upd (upd H2 e (exI e C (some dx))) dx (.xd [(f,y)]))
theorem Bn4 (Z:M5 X.K C F f)(ha:PE X o ta)(hv:PE X value tv)(hs:swapsWith value (some (.Attribute o f tp)) pos.line X.env=pure false):PS X (.Assign [.Attribute o f tp] value pos) (Bq2 C f ta tv):=by
 intro pins s σ H D I h
 refine plainObj_wpAny_Assign_Attribute (thn (hv pins s σ H _ I h) fun u s1 ⟨y,H1,I1,ry,q⟩=>thn (ha pins s1 σ H1 _ I1 q) fun ov s2 ⟨x,H2,I2,rx,a,ex,hE,q2⟩=>?_) hs
 subst ex;obtain rfl:ov=Value.ref a:=rx;obtain⟨⟨t0,ha⟩,_⟩:=I2.hok a _ hE;obtain⟨bm,Nn,nm,qn,bs,sn,sub,ab,col,dd,k0,k1,k2,k3,k5,hC,T⟩:=G4 I2.kIn Z.exc;have fr:H2 s2.heap.objs.size=none:=I2.hok.fresh (ak _);have fp:Nb X pins H2 s2.heap.objs.size:=I2.fpOk (ak _) fr
 have nd:s2.heap.objs.size≠a:=fun z=>by rw[z,hE]at fr;cases fr
 have h0:X.s₀.heap.get? s2.heap.objs.size=none:=Heap.get?_none_of_le I2.sz;obtain⟨hp,g,d,tk,os⟩:=s2
 refine A0g I2.kIn T hC Z.sa Z.fld ha fun h' tk' k e1 n1=>?_
 have I3:=I2.write (x:=a) (e:=a) (o:=exI a C (some hp.objs.size)) (t':=tk') (by rw[hE];exact True.intro) (.inl rfl) k ⟨_,e1⟩ (Ao2 e1)
 refine⟨σ,_,I3.track (a:=hp.objs.size) (o:=.xd [(f,y)]) (by rw[Am nd];exact fr) h0 fp.2.1 (fun x c e=>fp.2.2.2.2.1 x c e) (fun p hp=>fp.2.2.2.2.2 p hp) ⟨_,n1,fun z=>?_⟩,q2 _ fr⟩
 by_cases hz:z=f
 ·subst hz;rw[List.lookup_cons_self,if_pos rfl];exact ry
 ·rw[if_neg hz,aN,beq_false_of_ne hz];exact True.intro
end
theorem Oz {x:Str}{e:Expr}(h:isNm x e=true):∃p,e=.Name x p:=by
 unfold isNm at h
 split at h
 ·exact⟨_,by rw[aV.mp h]⟩
 ·cases h
theorem Ba7 {x f:Str}{e:Expr}(h:isAt x f e=true):∃p q,e=.Attribute (.Name x p) f q:=by
 unfold isAt at h
 split at h
 ·obtain⟨h1,h2⟩:=aq.mp h
  obtain⟨p,rfl⟩:=Oz h1
  exact⟨p,_,by rw[aV.mp h2]⟩
 ·cases h
theorem Y0 {x:Str}{e:Expr}(h:A4e x e=true):∃k p,e=.Constant (.str x) k p:=by
 unfold A4e at h
 split at h
 ·exact⟨_,_,by rw[aV.mp h]⟩
 ·cases h
theorem Aw7 {x:Str}{e:Expr}(h:Bc8 x e=true):∃p q,e=.FormattedValue (.Name x p) 114 none q:=by
 unfold Bc8 at h
 split at h
 ·obtain⟨h1,h2⟩:=aq.mp h
  obtain⟨p,rfl⟩:=Oz h1
  exact⟨p,_,by rw[aV.mp h2]⟩
 ·cases h
theorem B0d {s:Stmt}{g:Expr}{as:v_}(h:stE s=some (g,as)):∃q p r,s=.Expr (.Call (.Attribute g "__init__" q) as [] p) r/\(q.endLine==p.line)=true:=by
 unfold stE at h
 split at h
 ·split at h
  ·rename_i c
   cases h
   obtain⟨c1,c2⟩:=aq.mp c
   exact⟨_,_,_,by rw[aV.mp c1],c2⟩
  ·cases h
 ·cases h
theorem B0e {s:Stmt}{g v:Expr}(h:stA s=some (g,v)):∃p,s=.Assign [g] v p:=by
 unfold stA at h
 split at h
 ·cases h;exact⟨_,rfl⟩
 ·cases h
theorem Bg6 {F p f y z:Str}{b:List Stmt}(h:Bs0 F p f y z b=true):∃s u p1 p2 p3 p4 p5 j p6 p7 p8 p9,b=[s,u]/\s=.Expr (.Call (.Attribute (.Name F p1) "__init__" p2) [.Name "self" p3,j] [] p4) p5/\A3r p y z j=true/\(p2.endLine==p4.line)=true/\u=.Assign [.Attribute (.Name "self" p6) f p7] (.Name p p8) p9:=by
 unfold Bs0 at h
 split at h
 ·rename_i s u
  obtain⟨h1,h2⟩:=aq.mp h
  split at h1
  ·rename_i g a j hs
   split at h2
   ·rename_i g2 v hu
    simp only[aO]at h1 h2;obtain⟨p2,p4,p5,rfl,hl⟩:=B0d hs;obtain⟨p9,rfl⟩:=B0e hu;obtain⟨p1,rfl⟩:=Oz h1.1;obtain⟨p3,rfl⟩:=Oz h1.2.1;obtain⟨p6,p7,rfl⟩:=Ba7 h2.1;obtain⟨p8,rfl⟩:=Oz h2.2;exact⟨_,_,p1,p2,p3,p4,p5,j,p6,p7,p8,p9,rfl,rfl,h1.2.2,hl,rfl⟩
   ·cases h2
  ·cases h1
 ·cases h
theorem Bk2 {p:Str}{a:Arguments}(h:Bt8 p a=true):∃x y a1 a2,a=⟨[],[⟨"self",x,a1⟩,⟨p,y,a2⟩],none,[],[],none,[]⟩:=by
 unfold Bt8 at h
 split at h
 ·rename_i a b
  obtain⟨n1,x,a1⟩:=a;obtain⟨n2,y,a2⟩:=b;simp only[aO,aV]at h;obtain⟨rfl,rfl⟩:=h;exact⟨x,y,a1,a2,rfl⟩
 ·cases h
def spI (C:Addr)(n:Nat)(f:Str):Sp:=fun vs H Q _=>∃e v d,vs=[.ref e,v]/\H e=some (exI e C none)/\Tr H d v/\Ao0 n d=true/\∀dx,H dx=none->Q .non (upd (upd H e (exI e C (some dx))) dx (.xd [(f,v)]))
section
variable {X:Cx}{C F:Addr}{f x:Str}{p ap cp ep tp pos:Pos}{e o value:Expr}{es:v_}{t:TA}{ta tv:TE}
theorem B0h (Z:M5 X.K C F f)(hg:Gl X x)(hm:X.mg x=some (.ref F))(ha:QA X (e::es) t)(hdb:(x==("__debug__" : Str))=false) (he:starEach (e::es) X.env=(false,eval e X.env)::starEach es X.env) (hpl:(backTo cp (starEach es X.env)).any (·.1)=false)
 (hsw:swapsWith (.Call (.Attribute (.Name x p) "__init__" ap) (e::es) [] cp) none ep.line X.env=pure false) (hl:(ap.endLine==cp.line)=true) (hfew:methodCallForm ((e::es).length+([]:List Keyword).length) (backTo cp (starEach (e::es) X.env)) (backToKw cp (keywordEach [] X.env))=true) :
 QS X (.Expr (.Call (.Attribute (.Name x p) "__init__" ap) (e::es) [] cp) ep) (B0k C t):=⟨Bn5 Z hg hm ha.get hdb he hpl hsw hl hfew⟩
theorem Bv7 (Z:M5 X.K C F f)(ha:QE X o ta)(hv:QE X value tv)(hs:swapsWith value (some (.Attribute o f tp)) pos.line X.env=pure false):QS X (.Assign [.Attribute o f tp] value pos) (Bq2 C f ta tv):=⟨Bn4 Z ha.get hv.get hs⟩
end
theorem B3e {X:Cx}{p y z:Str}{j:Expr}(hu:X.A.units+64<cLine)(gd:X.A.guards=some [])(ly:y.length<=1000)(lz:z.length<=1000)(v1:∀ps,QE X (.Name p ps) (Rj 1))(hj:A3r p y z j=true):QE X j (tFs y.length (Rj 1))/\∃l ps,j=.JoinedStr l ps:=by
 unfold A3r at hj
 split at hj
 ·simp only[aO]at hj
  obtain⟨_,_,rfl⟩:=Y0 hj.1;obtain⟨_,_,rfl⟩:=Aw7 hj.2;exact⟨A9m hu gd Ed ly (v1 _) Bv6 (aD _),_,_,rfl⟩
 ·simp only[aO]at hj
  obtain⟨_,_,rfl⟩:=Y0 hj.1.1;obtain⟨_,_,rfl⟩:=Aw7 hj.1.2;obtain⟨_,_,rfl⟩:=Y0 hj.2;exact⟨A9m hu gd Ed ly (v1 _) (Bo8 Ed) lz,_,_,rfl⟩
 ·cases hj
theorem Bc9 {X:Cx}{C Fa:Addr}{F p f y z:Str}{j:Expr}{p1 p2 p3 p4 p5 p6 p7 p8 p9:Pos}(Z:M5 X.K C Fa f)(h0:X.N[0]?=some ("self" : Str)) (h1:X.N[1]?=some p) (s0:Vis X.env.scope "self") (s1:Vis X.env.scope p) (hg:Gl X F) (hm:X.mg F=some (.ref Fa)) (hu:X.A.units+64<cLine) (gd:X.A.guards=some [])
 (ly:y.length<=1000) (lz:z.length<=1000) (n1:(p==("__debug__" : Str))=false) (n2:(p==("__classdict__" : Str))=false) (nd:(F==("__debug__" : Str))=false) (hj:A3r p y z j=true) (hl:(p2.endLine==p4.line)=true) :
 QSs X [.Expr (.Call (.Attribute (.Name F p1) "__init__" p2) [.Name "self" p3,j] [] p4) p5,.Assign [.Attribute (.Name "self" p6) f p7] (.Name p p8) p9] (A6i (B0k C (Ca (Rj 0) (Ca (tFs y.length (Rj 1)) Fl))) (Bq2 C f (Rj 0) (Rj 1))):=by
 have v0:∀ps,QE X (.Name "self" ps) (Rj 0):=fun ps=>qv 0 h0 s0
 have v1:∀ps,QE X (.Name p ps) (Rj 1):=fun ps=>qv 1 h1 s1 n1 n2
 obtain⟨js,l,ps,rfl⟩:=B3e hu gd ly lz v1 hj;exact Ah (B0h Z hg hm (Af (v0 _) (Af js Ae)) nd rfl rfl rfl hl rfl) (An (Bv7 Z (v0 _) (v1 _) rfl))
def Aq5 (p:Str):Prop:=∀(fd:u5) (x y:Option Expr) (a1 a2:Pos) (u1 u2:Value),fd.params=⟨[],[⟨"self",x,a1⟩,⟨p,y,a2⟩],none,[],[],none,[]⟩->fd.defaults=.none->bindArgs fd ⟨[u1,u2],[]⟩=pure [(("self" : Str),u1),(p,u2)]
theorem Bb1 {K:Frag}{D:Il}{a:Addr}(hB:Aq5 D.p)(h:Wh K D a=true)(hD:Aq4 D=true):∃fd od osl,K.lookup a=some ⟨.type "function",od,.func fd,osl⟩/\Binds K fd ["self",D.p] [] /\
 ∀{P:u6} {w:World} {mg:x_} {base:Heap} {C Fa:Addr},M5 K C Fa D.f->mg D.F=some (.ref Fa)->FnOk P w K mg base CX0 1 a fd ["self",D.p] (spI C D.y.length D.f):=by
 obtain⟨q,F,p,f,y,z⟩:=D;simp only[Aq4,aO,cV,bne_iff_ne,aV]at hD;obtain⟨ly,lz,np,n1,n2,nd⟩:=hD;unfold Wh at h
 split at h
 ·rename_i od fd osl lk
  unfold fnB at h;simp only[aO,aV,List.isEmpty_iff,cV]at h;obtain⟨e1,e2,e3,e4,e5,e6,e7,e8,e9⟩:=h
  split at e9
  ·rename_i b hb
   obtain⟨nm,qn,par,bd,sc,gl,cl,df,kd,dc,pm,an,co,ct,bu⟩:=fd
   dsimp only at e1 e2 e3 e4 e5 e6 e7 e8 hb
   subst e1 e2 e3 e4 e5 hb;obtain⟨x1,x2,a1,a2,rfl⟩:=Bk2 e7;obtain⟨s,u,p1,p2,p3,p4,p5,j,p6,p7,p8,p9,rfl,rfl,hj,hl,rfl⟩:=Bg6 e9;simp only[B0y,aO,cV,dz,aV,aU,bne_iff_ne]at e8;obtain⟨s1,s2,s3,s4,s5,s6,s7⟩:=e8
   refine⟨_,od,osl,lk,.all fun us hl=>?_,fun {P w mg base C Fa} Z hm=>?_⟩
   ·match us,hl with
    | [_,_],_=>exact hB _ _ _ _ _ _ _ rfl rfl
   ·have S:Bq ["self",p] ["self",p] sc:=⟨s1,s2,s3,by simp[aB np],rfl,fun x m=>.inl (by
     rcases au.mp m with rfl | m
     ·exact s4
     ·cases aP.mp m;exact s5),s7⟩
    refine Ar2 (k:=0) lk e6 S (fun vs H Q E ⟨_,_,_,e,_⟩=>by rw[e];rfl) fun A outer s H vs Q E hr hsp=>?_
    obtain⟨e,v,d,rfl,hE,td,hs,hQ⟩:=hsp
    refine G3 (Bc9 Z rfl rfl (.inl s4) (.inl s5) s6 hm hr.units hr.gd ly lz n1 n2 nd hj hl) ?_
    exact⟨.ref e,rfl,v,rfl,d,td,hs,fun z=>⟨e,.str z,rfl,hE,v,rfl,.ref e,rfl,e,rfl,hE,hQ⟩⟩
  ·cases e9
 ·cases h
theorem Ax5 {p:Str}(h:∀(nm qn:Str) (bd:FuncBody) (sc:Scope) (gl:Addr) (cl:List (Str×Addr)) (kd dc pm:Value) (an:Option Addr) (co ct:Value) (bu:Addr) (x y:Option Expr) (a1 a2:Pos) (u1 u2:Value),bindArgs ⟨nm,qn,⟨[],[⟨"self",x,a1⟩,⟨p,y,a2⟩],none,[],[],none,[]⟩,bd,sc,gl,cl,.none,kd,dc,pm,an,co,ct,bu⟩ ⟨[u1,u2],[]⟩=pure [(("self" : Str),u1),(p,u2)]):Aq5 p:=by
 intro fd x y a1 a2 u1 u2 e1 e2;obtain⟨nm,qn,par,bd,sc,gl,cl,df,kd,dc,pm,an,co,ct,bu⟩:=fd
 dsimp only at e1 e2
 subst e1 e2;exact h ..
example:Aq5 "name" := Ax5 fun _ _ _ _ _ _ _ _ _ _ _ _ _ _ _ _ _ _ _=>rfl
section
variable {X:Cx}{pins:y_}{σ:St}{H:Hp}{s:u_}
theorem Inv.drop {e:Addr}{φ:Heap->Prop}(I:Inv X pins σ H s)(hH:H e=some (.ext φ))(f:Nb X pins (fun b=>if b=e then none else H b) e):Inv X pins σ (fun b=>if b=e then none else H b) { s with heap:=s.heap.hide e }:=by
 have kp:∀b,b≠e->(s.heap.hide e).get? b=s.heap.get? b:=fun b n=>Heap.hide_ne s.heap n
 have ne:∀b u,H b=some u->(∀φ,u≠.ext φ)->b≠e:=fun b u q n z=>by rw[z,hH]at q;exact n φ (bN q).symm
 have nl:∀b,H b=none->b≠e:=fun b q z=>by rw[z,hH]at q;cases q
 obtain⟨_,f1,f2,f3,f4,f5⟩:=f
 refine I.step (g':=s.gens) (d':=s.drawn) (t':=s.toks) (ch:=[e]) (fun b hb=>?_) (fun b o _ _ hc q _=>(kp b fun z=>hc (by simp[z])).trans q) (fun b o _ _ hc q _=>⟨o.slots,(kp b fun z=>hc (by simp[z])).trans q⟩) (fun b o hc q n=>by show (if b=e then none else H b)=none;rw[if_neg (fun z=>hc (by simp[z]))];exact n)
  (fun b o hc q=>⟨o,(kp b fun z=>hc (by simp[z])).trans q⟩) (fun b xs q=>?_) (fun b o u q=>?_) (fun b q z=>?_) (fun m hm=>?_) (fun b u q=>?_) I.bare
 ·cases aP.mp hb
  exact⟨f3,f1,f4,f5⟩
 ·show (if b=e then none else H b)=_;rw[if_neg (ne b _ q fun _ z=>nomatch z)];exact q
 ·show (if b=e then none else H b)=_;rw[if_neg (ne b _ q fun _ z=>nomatch z)];exact q
 ·show (if b=e then none else H b)=_;rw[if_neg (ne b _ z fun _ z=>nomatch z)];exact z
 ·obtain⟨o,es,ep,ho,r⟩:=hm
  exact⟨o,es,ep,(kp _ (aB f1)).trans ho,r⟩
 ·by_cases hb:b=e
  ·rw[if_pos hb]at q;cases q
  ·rw[if_neg hb]at q
   refine (I.hok b u q).stay (fun c v hc z=>(kp c ?_).trans z) (fun c z=>?_) (fun c xs z=>?_) fun c ob xs z=>?_
   ·rcases hc with rfl | hc
    ·exact hb
    ·exact ne c _ hc fun _ z=>nomatch z
   ·show (if c=e then none else H c)=_;rw[if_neg (ne c _ z fun _ z=>nomatch z)];exact z
   ·show (if c=e then none else H c)=_;rw[if_neg (ne c _ z fun _ z=>nomatch z)];exact z
   ·show (if c=e then none else H c)=_;rw[if_neg (ne c _ z fun _ z=>nomatch z)];exact z
end
section
variable {X:Cx}{x f p:Str}{C Fa fI:Addr}{n:Nat}{np cpos pos:Pos}{e:Expr}{te:TE}{E:XK}{od:Option Addr}{osl:Array (u9)}{fd:u5}
def Zc (C:Addr)(n:Nat)(f:Str)(E:XK)(t:TA):TS:=fun _ σ H=>t σ H fun vs H1=>∃v d,vs=[v]/\Tr H1 d v/\Ao0 n d=true/\∀dx,H1 dx=none->E (.ref C) (some dx) (upd H1 dx (.xd [(f,v)]))
theorem Az6 (hR:Raises X E)(hc:X.calm=true)(hg:Gl X x)(hm:X.mg x=some (.ref C))(Z:M5 X.K C Fa f)(hi:findIn X.K (.ref C) "__init__" = some (some (.ref fI))) (lk:X.K.lookup fI=some ⟨.type "function",od,.func fd,osl⟩) (hb:Binds X.K fd ["self",p] [])
 (F:FnOk X.prog X.w X.K X.mg X.base CX0 1 fI fd ["self",p] (spI C n f)) (hr:Room 2 X.A) (ha:PE X e te) (hst:isStar e=false) (hdb:(x==("__debug__" : Str))=false:=by decide) (he:starEach [e] X.env=(false,eval e X.env)::starEach [] X.env:=by rfl) :
 PS X (.Raise (some (.Call (.Name x np) [e] [] cpos)) none pos) (Zc C n f E (Ca te Fl)):=by
 intro pins s σ H D I h;obtain⟨bm,Nn,nm,qn,bs,sn,sub,ab,col,dd,k0,k1,k2,k3,k5,hC,T⟩:=G4 I.mod.kin Z.exc
 refine Ai6 (C:=C) (nm:=nm) (q:=qn) (N:=Nn) (bs:=bs) (bm:=bm) (hdct:=true) (sn:=sn) (sub:=sub) (ab:=ab) (col:=col) (dd:=dd) (k0:=k0) (k1:=k1) (k2:=k2) (k3:=k3) (k5:=k5) (newId := "ValueError.__new__") (T.hasType (X := "BaseException") (b:=true) rfl) (I.ok.hd hc) (by rw[he];rfl) (Hh I hg hm ⟨rfl,?_⟩ hdb)
 have hs:=Bv2 ha (Xd (X:=X)) hst cpos pins s σ H _ I h;rw[he]at hs ⊢
 refine Calls.evalArgs_plain (wpAny_mono hs (fun us s2 ⟨vs,H2,I2,r2,v,d,ev,td,sh,q⟩=>?_) fun _ _ z=>z)
 subst ev;have kp:∀b o,X.base.get? b=some o->s2.heap.get? b=some o:=I2.bk;obtain⟨u,rfl,ru⟩:=vals1 r2
 refine⟨rfl,kp _ _ hC,?_⟩
 obtain⟨hp,g,d0,tk,os⟩:=s2
 refine Az4 I2.kIn (T.keeps kp) (kp _ _ hC) hi (I2.kIn _ _ lk) rfl (by show 1<=sizeLine;decide) fun h' ea hM le=>?_
 obtain⟨t0,hea,_⟩:=hM.there;have fr:H2 ea=none:=I2.hok.fresh le;have fp:Nb X pins H2 ea:=I2.fpOk le fr;have h0:X.s₀.heap.get? ea=none:=Heap.get?_none_of_le (aj I2.sz le);have I3:Inv X pins σ H2 ⟨h',g,d0,tk,os⟩:=I2.kept (t':=tk) hM.keeps
 have I4:=I3.track (a:=ea) (o:=exI ea C none) fr h0 fp.2.1 (fun x c e=>fp.2.2.2.2.1 x c e) (fun p hp=>fp.2.2.2.2.2 p hp) (Ao2 hea)
 have r4:Vals [.ref ea,v] [.ref ea,u]:=.cons rfl r2
 have sp:spI C n f [.ref ea,v] (upd H2 ea (exI ea C none)) (fun r H3=>∃dx,H2 dx=none/\dx≠ea/\r=.non/\H3=upd (upd H2 ea (exI ea C (some dx))) dx (.xd [(f,v)])) E0 :=
  ⟨ea,v,d,rfl,Bg,Tr.same (fun b o z=>by rw[Am (Bk z fr)];exact z) td,sh,fun dx hd=>by
   have nd:dx≠ea:=fun z=>by rw[z,Bg]at hd;cases hd
   rw[Am nd]at hd
   exact⟨dx,hd,nd,rfl,by rw[Bh8]⟩⟩
 refine wpAny_call (codeAny_mono (F.run _ X.stack _ _ ⟨[.ref ea,u],[]⟩ [.ref ea,u] [.ref ea,v] _ E0 (hr.make C [u] []) (I4.env0.make C [u] []) (hb _ [.ref ea,u] I4.kIn rfl) r4 sp) fun r s' hq=>?_)
 cases r with
 | error ev=>exact False.elim hq
 | ok fl =>
  cases fl with
  | next=>exact False.elim hq
  | brk=>exact False.elim hq
  | cont=>exact False.elim hq
  | ret z =>
   obtain⟨v5,H5,I5,r5,dx,hd,nd,rfl,rfl⟩:=I4.after hq;obtain rfl:z=Value.none:=r5
   have e5:upd (upd H2 ea (exI ea C (some dx))) dx (.xd [(f,v)]) ea=some (exI ea C (some dx)):=by rw[Am (aB nd),Bg]
   obtain⟨⟨t1,x1⟩,_⟩:=I5.hok ea _ e5
   have eH:(fun b=>if b=ea then none else upd (upd H2 ea (exI ea C (some dx))) dx (.xd [(f,v)]) b)=upd H2 dx (.xd [(f,v)]):=by
    funext b
    by_cases hb:b=ea
    ·subst hb;rw[if_pos rfl,Am (aB nd)];exact fr.symm
    ·rw[if_neg hb];unfold upd;split
     ·rfl
     ·first | rfl | rw[if_neg hb]
   have I6:=I5.drop e5 ⟨by simp,fp.2⟩
   rw[eH]at I6
   refine⟨rfl,ea,some dx,t1,rfl,I5.bk _ _ hC,x1,?_⟩
   exact hR pins σ _ { s' with heap:=s'.heap.hide ea } s'.heap ea C (some dx) I6 ⟨fun b o z=>Heap.of_hide z,Heap.hide_self ..,_,_,x1,rfl,rfl,rfl,rfl⟩ (q dx hd)
theorem Fun.okXL {P:u6}{w:World}{K:v9}{mg:x_}{base:Heap}{x qual:Str}{st:Stmt}{f:Addr}{fd:u5}{N ps:v4}{k:Nat}{sp:Sp}(F:Fun K x qual st f fd)(S:Bq N ps (Ar st))(len:∀vs H Q E,sp vs H Q E->vs.length=ps.length)
 (hbody:∀(cdv:Value) (A:q_) (outer:List Env) (s:u_) (H:Hp) (vs:l_) (Q:VK) (E:XK),fd.code=cdv->Room k (A.deeper (envOfC qual (Ar st) s.heap.objs.size f cdv))->sp vs H Q E ->
  ∃t,PSs (K3 (CXe P w) P w K mg base N qual (Ar st) f cdv A outer s H E) (Gi st) t/\t { nx:=fun _ H'=>Q .non H',rt:=Q } (start N vs) H):FnOk P w K mg base (CXe P w) (k+1) f fd ps sp:=by
 obtain⟨oc,od,kV,doc,pm,an,cdv,ct,osl,rfl,lk,hcd⟩:=F.ex
 exact Ar2 lk hcd S len fun A outer s H vs Q E hr hsp=>hbody cdv A outer s H vs Q E rfl hr hsp
theorem A0e (hR:Raises X E)(hc:X.calm=true)(hg:Gl X x)(hm:X.mg x=some (.ref C))(Z:M5 X.K C Fa f)(hi:findIn X.K (.ref C) "__init__" = some (some (.ref fI))) (lk:X.K.lookup fI=some ⟨.type "function",od,.func fd,osl⟩) (hb:Binds X.K fd ["self",p] [])
 (F:FnOk X.prog X.w X.K X.mg X.base CX0 1 fI fd ["self",p] (spI C n f)) (hr:Room 2 X.A) (ha:QE X e te) (hst:isStar e=false:=by rfl) (hdb:(x==("__debug__" : Str))=false:=by decide) (he:starEach [e] X.env=(false,eval e X.env)::starEach [] X.env:=by rfl) :
 QS X (.Raise (some (.Call (.Name x np) [e] [] cpos)) none pos) (Zc C n f E (Ca te Fl)):=⟨Az6 hR hc hg hm Z hi lk hb F hr ha.get hst hdb he⟩
end
section
variable {K K':Frag}
theorem Az7 (s:Ht K K'){c:Value}{q:Str}(e:codeIn K c q=true):codeIn K' c q=true:=by
 unfold codeIn at e ⊢
 split at e
 ·split at e
  ·rename_i ho;rw[s _ _ ho];exact e
  ·cases e
 ·cases e
theorem A4z (s:Ht K K'){D:Il}{a:Addr}(e:Wh K D a=true):Wh K' D a=true:=by
 unfold Wh at e ⊢
 split at e
 ·rename_i ho
  rw[s _ _ ho];unfold fnB at e ⊢;simp only[aO]at e ⊢;obtain⟨e1,e2,e3,e4,e5,e6,e7⟩:=e;exact⟨e1,e2,e3,e4,e5,Az7 s e6,e7⟩
 ·cases e
theorem Bq4 (s:Ht K K'){C F:Addr}{f:Str}(e:ikB K C F f=true):M5 K' C F f:=by
 unfold ikB at e;simp only[aO,aV]at e;obtain⟨e1,e2,e3,e4,e5,e6⟩:=e
 refine⟨Au6 s e1,Gy s e2,Gy s e3,?_,Oi s e5,Gy s e6⟩
 obtain⟨o,h1,h2⟩:=aH.mp (show (K.lookup F).map (·.cls)=_ from e4)
 show (K'.lookup F).map (·.cls)=_
 rw[s _ _ h1];exact bO some h2
def ClI (K:Frag)(mg:x_)(D:Il)(x:Str):Prop:=∃C F a fd od osl,mg x=some (.ref C)/\nsIn K mainGlobals x=some (some (.ref C))/\(Jg K C/\M5 K C F D.f)/\findIn K (.ref C) "__init__" = some (some (.ref a))/\K.lookup a=some ⟨.type "function",od,.func fd,osl⟩/\Binds K fd ["self",D.p] [] /\
 ∀(P:u6) (w:World) (base:Heap),FnOk P w K mg base CX0 1 a fd ["self",D.p] (spI C D.y.length D.f)
def Bq1 (K:Frag)(F:Addr)(NS:v4):Prop:=∀nm∈NS,∀C,nsIn K mainGlobals nm=some (some (.ref C))->exmOne K (.ref C) (.ref F)=some false
theorem Bw6 (s:Ht K K'){F:Addr}{NS:v4}(e:exN K F NS=true):Bq1 K' F NS:=fun nm m C hn=>by
 obtain⟨C',n,q⟩:=J7 s (aU.mp e nm m);rw[n]at hn;cases hn;exact Wb s (aV.mp q)
def ClH (K:Frag)(mg:x_)(yes no:v4)(T:Str):Prop:=∃g,mg T=some (.ref g)/\ExOk K g yes/\Bq1 K g no
def A1q (J:List (Str×Il))(Y:List (Str×List Str×v4))(h:Heap):Prop:=∃K:Frag,ciA J Y K=true/\∀a o,K.lookup a=some o->h.get? a=some o/\Bx2 o=true
variable {J:List (Str×Il)}{Y:List (Str×List Str×v4)}{h h':Heap}{mg:x_}
theorem B1s {l:List Nat}(e:ciA J Y (A9x l h)=true):A1q J Y h:=⟨A9x l h,e,fun a o q=>by
 unfold A9x at q;rw[J5]at q
 split at q
 ·obtain⟨o',h1,h2⟩:=bh.mp q
  split at h2
  ·cases h2;exact⟨h1,by assumption⟩
  ·cases h2
 ·cases q⟩
theorem A9l (x:A1q J Y h)(hk:∀b o,h.get? b=some o->h'.get? b=some o):A1q J Y h' :=
 let ⟨K,e,q⟩:=x; ⟨K,e,fun a o z=>⟨hk _ _ (q a o z).1,(q a o z).2⟩⟩
theorem Ba1 (x:A1q J Y h)(kin:K.In h)(G:h.Ns mainGlobals mg)(hK:∀a o,h.get? a=some o->Fo o=true->o.data≠.fields #[]->K.lookup a=some o) :
 (∀(i:Nat) (q:Str×Il),J[i]?=some q->Aq5 q.2.p->ClI K mg q.2 q.1)/\∀(i:Nat) (q:Str×List Str×v4),Y[i]?=some q->ClH K mg q.2.1 q.2.2 q.1:=by
 obtain⟨K0,e,q⟩:=x
 have s:Ht K0 K:=fun a o z=>by
  obtain⟨q1,q2⟩:=q a o z;unfold Bx2 at q2
  refine hK a o q1 ?_ ?_
  ·unfold Fo;split at q2 <;> simp_all
  ·intro y;rw[y]at q2;simp at q2
 obtain⟨e1,e2⟩:=aq.mp e
 refine⟨fun i p m hB=>?_,fun i p m=>?_⟩
 ·obtain⟨ok,z⟩:=aq.mp (aU.mp e1 p (bA m))
  obtain⟨C,n,z⟩:=J7 s z;obtain⟨F,nF,z⟩:=J7 s z;obtain⟨z1,z2⟩:=aq.mp z
  split at z2
  ·rename_i a ha
   obtain⟨z0,z1⟩:=aq.mp z1;have Z:=Bq4 s z1;obtain⟨fd,od,osl,lk,hb,f⟩:=Bb1 hB (A4z s z2) ok
   exact⟨C,F,a,fd,od,osl,mg_of kin G n,n,⟨A8b s z0,Z⟩,Gy s ha,lk,hb,fun P w base=>f Z (mg_of kin G nF)⟩
  ·cases z2
 ·obtain⟨F,n,z⟩:=J7 s (aU.mp e2 p (bA m))
  obtain⟨z1,z2⟩:=aq.mp z;exact⟨F,mg_of kin G n,An2 s z1,Bw6 s z2⟩
end
inductive QHs (X:Cx) (n:Str):List ExceptHandler->List (Addr×TS)->Prop
 | nil:QHs X n [] []
 | cons {y:Str} {yp hpos:Pos} {b:Stmt} {su:List Stmt} {F:Addr} {th:TS} {hs:List ExceptHandler} {ts:List (Addr×TS)} (hg:Gl X y) (hm:X.mg y=some (.ref F)) (hd:(y==("__debug__" : Str))=false) (hsu:∀a,QSs (Xe X a) (b::su) th) (r:QHs X n hs ts) :
  QHs X n (.ExceptHandler (some (.Name y yp)) (some n) (b::su) hpos::hs) ((F,th)::ts)
def tHs (K:Frag)(j:Nat)(D:Ends)(σ:St)(C:Addr)(d:Option Addr)(H:Hp):List (Addr×TS)->Prop
 | []=>False
 | q::r=>∃b,exmOne K (.ref C) (.ref q.1)=some b/\if b=true then ∀a,H a=none->q.2 { nx:=fun σ2 H3=>D.nx (σ2.set j none) H3,rt:=D.rt } (σ.set j (some (.ref a))) (upd H a (Jw a C d)) else tHs K j D σ C d H r
section
variable {X:Cx}{pins:y_}{σ:St}{H H1 H2:Hp}{s s1 s':u_}{E:XK}{D:Ends}{n:Str}{j:Nat}{ev:Value}{a C:Addr}{d:Option Addr}{B:Heap}{hs:List ExceptHandler}{ts:List (Addr×TS)}
theorem hands (hx0:X.ex=[])(hN:X.N.Nodup)(hj:X.N[j]?=some n)(hlo:X.env.scope.names.lookup n=some .local)(I:Inv X pins σ H1 s1)(fl:FlyD B X.stack a (.ref C) d .none s'.heap)(cov:Cov (frs X.stack) H2 s1.heap s'.heap B)(new:∀b o,s1.heap.get? b=some o->b≠a)(fr:H2 a=none)
 (os:s'.os=s1.os) (bare:AllBare s'.gens) (u:Un (frs X.stack) [] H1 H2 s1.heap s'.heap) (hok:HOk X.prog X.w H2 s'.heap) (J:QHs X n hs ts):∀h5,FlyD B X.stack a (.ref C) d .none h5->s'.heap.UpToSlots h5->tHs X.K j D σ C d H2 ts->wpAny (model X.prog X.w) X.A (handleBy (.ref a) X.env hs) (SP X pins D) X.xe { s' with heap:=h5 }:=by
 have fly:∀h6,FlyD B X.stack a (.ref C) d .none h6->s'.heap.UpToSlots h6->Inv X pins σ H2 { s' with heap:=h6 }:=fun h6 f6 up=>I.flown (tk:=s'.toks) u hok os bare fl.ff cov f6.1 up
 induction J with
 | nil=>intro h5 f5 up t;exact t.elim
 | cons hg hm hdb hsu r ih =>
  intro h5 f5 up t;obtain⟨b,hex,t⟩:=t;have I5:=fly h5 f5 up;obtain⟨ob,hob,hoc,_⟩:=f5.there;have LT:Looks (model X.prog X.w) h5 (typeOf (.ref a)) (.ref C):=hoc▸(Looks.ld hob).andThen .now;have LX:=exm_one (M:=model X.prog X.w) (h:=h5) I5.kIn LT hex
  refine wpAny_handleBy_cons (codeAny_handlers_test (Hh (X:=Xe X a) (I5.mark a) hg hm ?_ hdb)) (by intro z;cases z)
  refine LX.here ?_
  cases b with
  | false=>exact ih h5 f5 up t
  | true =>
   refine codeAny_handlers_suite_as ?_
   refine Rv (s:={ s' with heap:=h5 }) f5 fun h6 f6 up6=>?_
   have I6:=fly h6 f6 (up.trans up6);obtain⟨o6,ho6,hc6,hd6⟩:=f6.there
   have n0:X.s₀.heap.get? a=none:=by
    cases z:X.s₀.heap.get? a with
    | none=>rfl
    | some o0 =>
     obtain⟨o1,e1⟩:=I.base.there a o0 z (by rw[hx0];simp)
     exact absurd rfl (new a o1 e1)
   have I7:Inv X pins σ (upd H2 a (Jw a C d)) { s' with heap:=h6 }:=I6.track fr n0 (fun z=>by
    obtain⟨m,⟨o,es,ep,e,_⟩,_⟩:=I.loc
    exact new _ o e z.symm) (fun y c e z=>by
    obtain⟨v,o,e1,_⟩:=I.cell y c e
    exact new c o e1 z) (fun p hp z=>new p.1 p.2 (I.pin p hp).1 z) (Bg4 ho6 hc6 hd6)
   refine Gk (X:=X) (v:=.ref a) I7 hN hj (.inl hlo) rfl (fun s8 I8=>?_) (.inr hlo)
   refine wpAny_mono ((hsu a).get pins s8 _ _ _ (I8.mark a) (t a fr)) (fun fw s9 h9=>?_) fun _ _ z=>z.elim
   have hcls:(X.env.scope.kind==.class||(X.env.scope.kind==.module&&X.env.locals != X.env.globals))=false:=by rw[I.ok.kind];rfl
   cases fw with
   | next =>
    obtain⟨σ9,H9,I9,q9⟩:=h9;have I9:=I9.unmark I.ok;obtain⟨m,hm9,_⟩:=id I9.loc
    exact wpAny_nameGoes_keeps hlo hm9 hcls fun h10 v hn10 sb=>⟨_,H9,I9.unbound hN hj hm9 hn10 (fun y hy=>if_neg hy) sb,q9⟩
   | ret w =>
    obtain⟨v,σ9,H9,I9,r9,q9⟩:=h9;have I9:=I9.unmark I.ok;obtain⟨m,hm9,_⟩:=id I9.loc
    exact wpAny_nameGoes_keeps hlo hm9 hcls fun h10 v' hn10 sb=>⟨v,_,H9,I9.unbound hN hj hm9 hn10 (fun y hy=>if_neg hy) sb,r9,q9⟩
   | brk=>obtain⟨_,_,_,q9⟩:=h9;exact q9.elim
   | cont=>obtain⟨_,_,_,q9⟩:=h9;exact q9.elim
end
section
variable {X:Cx}{k:Nat}{f:Addr}{fd:u5}{ps:v4}{sp:Sp}{x n v:Str}{p pos epos cpos vp:Pos}{e:Expr}{es:v_}{t:TA}{j i:Nat}{hs:List ExceptHandler}{ts:List (Addr×TS)}
def Bl0 (K:Frag)(j:Nat)(sp:Sp)(t:TA)(i:Nat)(ts:List (Addr×TS)):TS:=fun D σ H=>t σ H fun vs H1=>sp vs H1 (fun u H2=>D.nx (σ.set i (some u)) H2) (fun c d H2=>∃C,c=.ref C/\tHs K j D σ C d H2 ts)
theorem Bf1 {Kq:Frag}{h₀:ExceptHandler}(hKq:X.K=Kq)(F:FnOk X.prog X.w X.K X.mg X.base (CXe X.prog X.w) k f fd ps sp)(hr:Room k X.A)(hgf:Gl X x)(hmf:X.mg x=some (.ref f))(hk:PySem.W.keepIn X.K (.ref f)=true)(hb:Binds X.K fd ps [])(hxe:∀e s,¬ X.xe e s)(ha:QA X (e::es) t)
 (hx0:X.ex=[]) (hs':X.stack=X.env::X.outer/\X.env.frame=some X.env.locals) (hN:X.N.Nodup) (hi:X.N[i]?=some v) (hv:Loc X.env.scope v) (hj:X.N[j]?=some n) (hlo:X.env.scope.names.lookup n=some .local) (J:QHs X n (h₀::hs) ts)
 (hd1:(x==("__debug__" : Str))=false:=by decide) (he:starEach (e::es) X.env=(false,eval e X.env)::starEach es X.env:=by rfl) (hpl:(backTo cpos (starEach es X.env)).any (·.1)=false:=by rfl)
 (hsw:swapsWith (.Call (.Name x p) (e::es) [] cpos) (some (.Name v vp)) epos.line X.env=pure false:=by rfl) (hf:X.fn v=true\/X.env.scope.names.lookup v=some .local:=by first | exact .inl rfl | exact .inr rfl | assumption) :
 QS X (.Try [.Assign [.Name v vp] (.Call (.Name x p) (e::es) [] cpos) epos] (h₀::hs) [] [] pos) (Bl0 Kq j sp t i ts):=by
 subst hKq
 constructor
 intro pins s σ H D I h
 have h0:t σ H fun vs H1=>sp (vs++[]) H1 (fun u H2=>D.nx (σ.set i (some u)) H2) (fun c d H2=>∃C,c=.ref C/\tHs X.K j D σ C d H2 ts):=by
  simp only[bQ];exact h
 refine wpAny_Try_except (wpAny_execs_cons (wpAny_Assign_Name ?_ hsw))
 refine wpAny_mono (A8a F hr hgf hmf hk hb .nil hxe ha.get I h0 hd1 he hpl) (fun u s1 ⟨v1,H1,I1,r1,q1⟩=>?_) (fun ev s' ⟨H1,s1,I1,cx⟩=>?_)
 ·exact Gk I1 hN hi hv r1 (fun s2 I2=>wpAny_execs_nil (wpAny_execs_nil ⟨_,H1,I2,q1⟩)) hf
 ·obtain⟨a,C,d,H2,rfl,⟨⟨B,fl,cov⟩,new,fr⟩,os,bare,u,hok,C',e1,q⟩:=cx
  cases e1
  have fl':=fl;rw[hs'.1]at fl'
  refine As7 (I1.ok.frames.trans (bO some hs'.1)) hs'.2 fl' fun h4 held up4=>?_
  refine Rv (s:={ s' with heap:=h4 }) held fun h5 fl5 up5=>?_
  rw[<- hs'.1]at fl5;exact hands hx0 hN hj hlo I1 fl cov new fr os bare u hok J h5 fl5 (up4.trans up5) q
end
end L2
set_option autoImplicit true
namespace U
open PySem L2
def Ry (nm:Str)(n:Nat)(f:Str)(fe:m6):Ev->XS:=fun c=>match fe c with
 | .bad=>.s .bad
 | .ok p c=>match rdP c p with
  | some (.im d)=>if Ao0 n d=true then .ex ⟨nm,some (f,d)⟩ c else .s .bad
  | _=>.s .bad
def cXF (NS:v4)(f:Str)(fe:m6):m6:=fun c=>(fe c).bind fun p c=>match rdP c p with
 | some (.ty (.xc nm))=>if NS.contains nm.n=true then match nm.p with
  | some q=>if q.1=f then .ok (.o (.im q.2)) c else .bad
  | none=>.bad
  else .bad
 | _=>.bad
def Tt (j:Nat):List (List Str×List Str×(Ev->SR))->Xn->Ev->XS
 | [],_,_=>.s .bad
 | q
  :: r,nm,c=>if q.1.contains nm.n then .s (match q.2.2 (c.set j (some (.ty (.xc nm)))) with
  | .nx c2=>.nx (c2.set j none)
  | _=>.bad)
  else if q.2.1.contains nm.n then Tt j r nm c else .s .bad
def Au9 (F:w5->XF)(fa:n7)(j i:Nat)(hs:List (List Str×List Str×(Ev->SR))):Ev->SR:=fun c=>unX (Wi F fa (Bc4 (some i)) (Tt j hs) c)
section
variable {K:v9}{β:Nat->V}{W W':Wo}{c c':Ev}{σ σ':St}{D:Ends}{E:XK}{Hf H:Hp}{o:O}{v:V}{fp:v6}
theorem B2e {p:PV}{d:t_}(R:Rep K β W c σ)(r:Ea K W σ p v fp)(e:rdP c p=some (.im d)):Tr W.Hf d v:=by
 cases p with
 | o o1=>cases e;exact r.1.2
 | sl i =>
  have e:(c[i]?).join=some (.im d):=e
  have e2:c[i]?=some (some (.im d)):=by
   cases q:c[i]? with
   | none=>rw[q]at e;cases e
   | some x=>
    rw[q]at e;cases x with
     | none=>cases e
     | some y=>cases e;rfl
  obtain⟨v',e3,r3,_⟩:=R.get i _ e2;have h:σ[i]?=some (some v):=r.2;rw[h]at e3;cases e3;exact r3.2
theorem A2g {nm f:Str}{n:Nat}{C:Addr}{te:TE}{fe:m6}(hn:PySem.W.nsIn K mainGlobals nm=some (some (.ref C)))(h:ME K te fe):MX K E (Zc C n f E (Ca te Fl)) (Ry nm n f fe):=by
 intro β W c σ D R l;unfold Ry at l
 refine h β W c σ _ R ?_
 cases e:fe c with
 | bad=>rw[e]at l;exact l
 | ok p c1 =>
  rw[e]at l;intro v W1 fp st R1 r1
  cases ed:rdP c1 p with
  | none=>simp only[ed]at l;exact l.elim
  | some o =>
   simp only[ed]at l
   split at l
   ·rename_i d eo
    cases eo
    split at l
    ·rename_i hs
     have tv:=B2e R1 r1 ed
     refine⟨v,d,rfl,Tr.same R1.sub tv,hs,fun dx hd=>?_⟩
     have s4:Stp (fun _=>False) W1.Hf W1.H (fun _=>False) (upd W1.Hf dx (.xd [(f,v)])) (upd W1.H dx (.xd [(f,v)])):=Stp.newF R1.sub hd
     have s5:Stp W1.S W1.Hf W1.H (Wo.S ⟨upd W1.Hf dx (.xd [(f,v)]),upd W1.H dx (.xd [(f,v)]),W1.fps⟩) (upd W1.Hf dx (.xd [(f,v)])) (upd W1.H dx (.xd [(f,v)])):=⟨s4.fz,fun a o e n=>s4.kp a o e (fun z=>z),fun a o e mu n q=>s4.nf a o e mu (fun z=>z) q,fun a z=>.inl z⟩
     have R5:Rep K β ⟨upd W1.Hf dx (.xd [(f,v)]),upd W1.H dx (.xd [(f,v)]),W1.fps⟩ c1 σ:=Stp.rep R1 s4 (Kc R1.sub)
     exact l C (some dx) σ ⟨upd W1.Hf dx (.xd [(f,v)]),upd W1.H dx (.xd [(f,v)]),W1.fps⟩ ⟨hn,dx,v,rfl,Bg,Tr.same s4.fz tv⟩ ((st.less fun a z=>.inl z).trans s5) R5
    ·exact l.elim
   ·exact l.elim
theorem B3n {te:TE}{fe:m6}{f:Str}{NS:v4}(hz:∀nm∈NS,∀C,PySem.W.nsIn K mainGlobals nm=some (some (.ref C))->Jg K C/\PySem.W.findIn K (.ref C) f=some none)(h:ME K te fe):ME K (tXF K te f) (cXF NS f fe):=by
 intro β W c σ Q R s
 refine h β W c σ _ R ((s.bnd).mono fun p c1 s1 v1 W1 fp1 st1 R1 r1=>?_)
 cases ed:rdP c1 p with
 | none=>simp only[ed]at s1;exact s1.elim
 | some o =>
  simp only[ed]at s1
  split at s1
  ·rename_i nm eo
   cases eo
   split at s1
   ·rename_i hc
    obtain⟨a,C,d,e,hn,hf⟩:=A3o R1 r1 ed;subst e;have pay:=hn.pay
    cases ep:nm.p with
    | none=>rw[ep]at s1;exact s1.elim
    | some q =>
     rw[ep]at s1 pay
     dsimp only at s1
     split at s1
     ·rename_i hq
      obtain⟨dx,v,rfl,hx,tv⟩:=pay
      obtain⟨z1,z2⟩:=hz nm.n (by simpa using hc) C hn.ns
      rw[hq]at hx
      refine⟨a,C,dx,v,rfl,R1.sub _ _ hf,R1.sub _ _ hx,z1,z2,?_⟩
      exact s1 v W1 [] (st1.less fun a z=>by
       rcases z with z | z
       ·exact .inl z
       ·cases z) R1 ⟨⟨rfl,tv⟩,fun a z=>nomatch z⟩
     ·exact s1.elim
   ·exact s1.elim
  ·exact s1.elim
theorem A5j {mg:x_}{D:Il}{x:Str}(h:ClI K mg D x):∀nm∈[x],∀C,PySem.W.nsIn K mainGlobals nm=some (some (.ref C))->Jg K C/\PySem.W.findIn K (.ref C) D.f=some none:=fun nm hm C hn=>by
 obtain⟨C',F,a,fd,od,osl,m,n,Z,_⟩:=h
 cases aP.mp hm
 rw[n]at hn
 cases hn
 exact⟨Z.1,Z.2.fld⟩
inductive MHs (K:v9):List (Addr×TS)->List (List Str×List Str×(Ev->SR))->Prop
 | nil:MHs K [] []
 | cons {F:Addr} {th:TS} {yes no:v4} {fh:Ev->SR} {ts:List (Addr×TS)} {hs:List (List Str×List Str×(Ev->SR))} (h1:ExOk K F yes) (h2:Bq1 K F no) (hh:MS K th fh) (r:MHs K ts hs):MHs K ((F,th)::ts) ((yes,no,fh)::hs)
theorem A5f {nm:Xn}{j:Nat}{C:Addr}{d:Option Addr}{ts:List (Addr×TS)}{hs:List (List Str×List Str×(Ev->SR))}{W0:Wo}(st:Stp W0.S W0.Hf W0.H W.S W.Hf W.H)(R3:Rep K β W c σ)(hn:XAt K W.Hf nm C d)(J:MHs K ts hs)(l:LeadX K β W0 D (fun _ _ _=>False) (Tt j hs nm c)):tHs K j D σ C d W.H ts:=by
 induction J with
 | nil=>exact l.elim
 | cons h1 h2 hh r ih =>
  rename_i F th yes no fh ts hs;unfold Tt at l
  dsimp only at l
  split at l
  ·rename_i hc
   refine⟨true,h1 nm.n (by simpa using hc) C hn.ns,?_⟩
   rw[if_pos rfl];intro a fa0
   have s4:Stp (fun _=>False) W.Hf W.H (fun _=>False) (upd W.Hf a (Jw a C d)) (upd W.H a (Jw a C d)):=Stp.newF R3.sub fa0
   have s5:Stp W.S W.Hf W.H (Wo.S ⟨upd W.Hf a (Jw a C d),upd W.H a (Jw a C d),W.fps⟩) (upd W.Hf a (Jw a C d)) (upd W.H a (Jw a C d)):=⟨s4.fz,fun a o e n=>s4.kp a o e (fun z=>z),fun a o e mu n q=>s4.nf a o e mu (fun z=>z) q,fun a z=>.inl z⟩
   have R5:Rep K β ⟨upd W.Hf a (Jw a C d),upd W.H a (Jw a C d),W.fps⟩ c σ:=Stp.rep R3 s4 (Kc R3.sub)
   have rn:Ea K ⟨upd W.Hf a (Jw a C d),upd W.H a (Jw a C d),W.fps⟩ σ (.o (.ty (.xc nm))) (.ref a) []:=⟨⟨rfl,a,C,d,rfl,hn.same s4.fz,Bg⟩,fun a z=>nomatch z⟩
   refine Ao β _ c σ (.o (.ty (.xc nm))) (.ref a) [] (fun σ2 H3=>th { nx:=fun σ2 H3=>D.nx (σ2.set j none) H3,rt:=D.rt } σ2 H3) R5 rn ?_
   show ∀σ' W',_->_->_
   intro σ6 W6 st6 R6
   refine hh β W6 _ σ6 _ R6 ?_
   have l:zG K β W0 D (match fh (c.set j (some (.ty (.xc nm)))) with
    | .nx c2=>.nx (c2.set j none)
    | _=>.bad):=l
   cases ef:fh (c.set j (some (.ty (.xc nm)))) with
   | nx c2 =>
    rw[ef]at l;intro σ7 W7 st7 R7;have R8:=Rep.setU (Rep.drop R7 j)
    refine l _ ⟨W7.Hf,W7.H,clr W7.fps j⟩ ?_ R8
    refine ((st.trans s5).trans ((st6.up fun a z=>by
     rcases z with z | z
     ·exact z
     ·cases z).trans st7)).less fun a z=>?_
    obtain⟨k,z⟩:=z;exact⟨k,(Gg z).1⟩
   | rt p c2=>rw[ef]at l;exact l.elim
   | bk c2=>rw[ef]at l;exact l.elim
   | ct c2=>rw[ef]at l;exact l.elim
   | bad=>rw[ef]at l;exact l.elim
  ·split at l
   ·rename_i hc
    exact⟨false,h2 nm.n (by simpa using hc) C hn.ns,ih l⟩
   ·exact l.elim
theorem Bh0 {F:w5->XF}{fa:n7}{t:TA}{j i:Nat}{ts:List (Addr×TS)}{hs:List (List Str×List Str×(Ev->SR))}(ha:MA K t fa)(J:MHs K ts hs):MS K (Bl0 K j (spX K F) t i ts) (Au9 F fa j i hs):=by
 intro β W c σ D R l
 have l':LeadX K β W D (fun _ _ _=>False) (Wi F fa (Bc4 (some i)) (Tt j hs) c):=by
  unfold Au9 at l
  cases e:Wi F fa (Bc4 (some i)) (Tt j hs) c with
  | s r=>rw[e]at l;exact l
  | ex nm c1=>rw[e]at l;exact l.elim
 refine A3g ha R l' (fun o c1 W1 v st R3 lk r=>?_) (fun nm c1 W1 C d st R3 lk hn=>⟨C,rfl,A5f st R3 hn J lk⟩)
 refine Ao β W1 c1 σ (.o o) v [] D.nx R3 r ((Em (show zG K β W D _ from lk)).mono fun _ c2 l2 σ2 W2 st2 R2=>?_)
 exact l2 σ2 W2 (st.trans (st2.up fun a z=>Aw4 z)) R2
end
end U
namespace PS
open PySem PySem.W PyProof.Rows L2
theorem Js {α β:Type}{B:Nat->Nat->Option Bool}{f:α->KasT β}:∀t:KasT α,kEv B (t.bind f)=(kEv B t).bind fun a=>kEv B (f a)
 | .ret a=>rfl
 | .ask i j k=>by
  show (B i j).bind (fun b=>kEv B ((k b).bind f))=((B i j).bind fun b=>kEv B (k b)).bind fun a=>kEv B (f a)
  rw[Option.bind_assoc]
  congr 1;funext b
  exact Js (k b)
structure Ord (lt:Nat->Nat->Bool):Prop where
 irr:∀a,lt a a=false
 tr:∀a b c,lt a b=true->lt b c=true->lt a c=true
 neg:∀a b c,lt a c=true->lt a b=true\/lt b c=true
def Rr (lt:Nat->Nat->Bool)(x y:Nat):Prop:=lt x y=true\/(lt y x=false/\x<y)
section
variable {lt:Nat->Nat->Bool}{B:Nat->Nat->Option Bool}{n:Nat}{p:Array Nat}
theorem Ord.no (O:Ord lt)  (h:lt a b=true):lt b a=false:=by
 cases e:lt b a with
 | false=>rfl
 | true=>have:=O.tr _ _ _ h e;rw[O.irr]at this;trivial
theorem Rr.trans (O:Ord lt)  (h:Rr lt a b) (k:Rr lt b c):Rr lt a c:=by
 rcases h with h | ⟨h,f⟩
 ·rcases k with k | ⟨k,d⟩
  ·exact .inl (O.tr _ _ _ h k)
  ·rcases O.neg _ c _ h with z | z
   ·exact .inl z
   simp_all
 ·rcases k with k | ⟨k,d⟩
  ·rcases O.neg _ a _ k with z | z
   ·simp_all
   ·exact .inl z
  ·refine .inr ⟨?_,by (first|lia|omega)⟩
   cases e:lt c a with
   | false=>rfl
   | true =>
    rcases O.neg _ b _ e with z | z
    ·simp_all
    simp_all
def Eq' (lt:Nat->Nat->Bool)(x y:Nat):Prop:=lt x y=false/\lt y x=false
theorem Eq'.lt_of (O:Ord lt)  (h:Eq' lt a b) (k:lt b c=true):lt a c=true:=by
 rcases O.neg _ a _ k with z | z
 ·rw[h.2]at z;grind
 trivial
theorem Eq'.lt_to (O:Ord lt)  (h:Eq' lt a b) (k:lt c b=true):lt c a=true:=by
 rcases O.neg _ a _ k with z | z
 ·grind
 ·rw[h.1]at z;grind
theorem Eq'.trans (O:Ord lt)  (h:Eq' lt a b) (k:Eq' lt b c):Eq' lt a c:=by
 refine⟨?_,?_⟩
 ·cases e:lt a c with
  | false=>rfl
  | true=>
   rcases O.neg _ b _ e with z | z
   ·rw[h.1]at z;grind
   ·rw[k.1]at z;grind
 ·cases e:lt c a with
  | false=>rfl
  | true=>
   rcases O.neg _ b _ e with z | z
   ·rw[k.2]at z;grind
   ·rw[h.2]at z;grind
theorem gD (p:Array Nat)(k:Nat):p.getD k 0=(p[k]?).getD 0:=by
 simp_all
theorem Jb  (hj:j<=p.size) (k:Nat):(kas_rev p i j).getD k 0=if i<=k/\k<j then p.getD (i+j-1-k) 0 else p.getD k 0:=by
 rw[gD,gD,gD,kas_rev,getElem?_mirror_all hj]
 grind
theorem Bt1  (hs:src<p.size) (hd:d<=src) (k:Nat):(bubble p src d).getD k 0=if k=src-d then p.getD src 0 else if src-d<k/\k<=src then p.getD (k-1) 0 else p.getD k 0:=by
 rw[gD,gD,gD,gD,getElem?_bubble hs d hd]
 grind
structure Fx (n:Nat) (p:Array Nat) (k:Nat):Prop where
 sz:p.size=n
 lo:∀i,i<k->p.getD i 0<k
 hi:∀i,k<=i->i<n->p.getD i 0=i
theorem Fx.rev  (F:Fx n p k) (hj:j<=k) (hk:k<=n):Fx n (kas_rev p i j) k:=by
 have b:j<=p.size:=by rw[F.sz];(first|lia|omega)
 refine⟨(mirror_size _ _ _ _).trans F.sz,fun a d=>?_,fun a e c=>?_⟩
 ·rw[Jb b]
  split
  ·exact F.lo _ (by (first|lia|omega))
  ·exact F.lo _ d
 ·rw[Jb b,if_neg (by (first|lia|omega))]
  exact F.hi a e c
theorem Fx.up  (F:Fx n p k) (hk:k<n):Fx n p (k+1):=by
 refine⟨F.sz,fun i b=>?_,fun i c a=>F.hi i (by (first|lia|omega)) a⟩
 rcases aW i k with h | h
 ·have:=F.lo i h;(first|lia|omega)
 ·rw[show i=k by (first|lia|omega),F.hi k (ak _) hk];(first|lia|omega)
theorem Fx.bound  (F:Fx n p k) (hk:k<=n) (hi:i<n):p.getD i 0<n:=by
 rcases aW i k with h | h
 ·have:=F.lo i h;(first|lia|omega)
 ·rw[F.hi i h hi];(first|lia|omega)
def So (lt:Nat->Nat->Bool)(p:Array Nat)(k:Nat):Prop:=∀i j,i<j->j<k->Rr lt (p.getD i 0) (p.getD j 0)
theorem So.up (O:Ord lt)  (S:So lt p k) (F:Fx n p k) (hk:k<n) (d:0<k) (h:lt (p.getD k 0) (p.getD (k-1) 0)=false):So lt p (k+1):=by
 have a:Rr _ _ _:=.inr ⟨h,by rw[F.hi k (ak _) hk];exact F.lo _ (by (first|lia|omega))⟩
 intro i j b c
 rcases aW j k with z | z
 ·exact S i j b z
 ·have e:j=k:=by (first|lia|omega)
  subst e
  rcases aW i _ with y | y
  ·exact(S i _ y (by (first|lia|omega))).trans O a
  grind
theorem Aj6 (O:Ord lt)(hB:∀i j,i<n->j<n->B i j=some (lt i j)):∀(f k:Nat),0<k->k+f=n->Fx n p k->So lt p k->∃m,kEv B (kas_asc p f k)=some m/\k<=m/\m<=n/\Fx n p m/\So lt p m/\(m<n->lt (p.getD m 0) (p.getD (m-1) 0)=true)
 | 0,k,h0,hk,F,S=>⟨k,rfl,ak _,by (first|lia|omega),F,S,fun z=>by (first|lia|omega)⟩
 | f+1,k,h0,hk,F,S=>by
  have e:kEv B (kas_asc p (f+1) k)=kEv B (if lt (p.getD k 0) (p.getD (k-1) 0)=true then .ret k else kas_asc p f (k+1)):=by
   show (B _ _).bind _=_
   rw[hB _ _ (F.bound (by (first|lia|omega)) (by (first|lia|omega))) (F.bound (by (first|lia|omega)) (by (first|lia|omega)))];rfl
  rw[e]
  cases c:lt (p.getD k 0) (p.getD (k-1) 0) with
  | true=>exact⟨k,rfl,ak _,by (first|lia|omega),F,S,fun _=>c⟩
  | false =>
   obtain⟨m,h1,h2,h3⟩:=Aj6 O hB f (k+1) (by (first|lia|omega)) (by (first|lia|omega)) (F.up (by (first|lia|omega))) (S.up O F (by (first|lia|omega)) h0 c)
   exact⟨m,h1,by (first|lia|omega),h3⟩
structure De (lt:Nat->Nat->Bool) (p:Array Nat) (k q:Nat):Prop where
 hq:q<k
 al:∀i,k-(q+1)<=i->i<k->Eq' lt (p.getD i 0) (p.getD (k-1) 0)
 asc:∀i j,k-(q+1)<=i->i<j->j<k->p.getD i 0<p.getD j 0
 dec:∀i j,i<j->j<k->i<k-(q+1)->Rr lt (p.getD j 0) (p.getD i 0)
 str:∀i j,i<k-(q+1)->k-(q+1)<=j->j<k->lt (p.getD j 0) (p.getD i 0)=true
def Dn (lt:Nat->Nat->Bool)(p:Array Nat)(k:Nat):Prop:=∀i j,i<j->j<k->Rr lt (p.getD j 0) (p.getD i 0)
theorem De.flat  (D:De lt p k 0):Dn lt p k:=fun i j a b=>D.dec i j a b (by (first|lia|omega))
theorem Eq'.symm  (h:Eq' lt a b):Eq' lt b a:=⟨h.2,h.1⟩
theorem Eq'.refl (O:Ord lt)(a:Nat):Eq' lt a a:=⟨O.irr a,O.irr a⟩
theorem Rr.not (O:Ord lt)  (h:Rr lt a b):lt b a=false:=by
 rcases h with h | h
 ·exact O.no h
 grind
theorem De.flush (O:Ord lt)  (D:De lt p k q) (hs:k<=p.size):Dn lt (kas_rev p (k-(q+1)) k) k:=by
 have e:=D.hq;intro i j a b;have d:=Jb (i:=k-(q+1)) hs i;rw[d,(Jb (i:=k-(q+1)) hs j)]
 by_cases hi:k-(q+1)<=i
 ·rw[if_pos (⟨by (first|lia|omega),by (first|lia|omega)⟩:k-(q+1)<=i/\i<k),if_pos (⟨by (first|lia|omega),by (first|lia|omega)⟩:k-(q+1)<=j/\j<k)]
  have c:=D.al (k-(q+1)+k-1-i) (by (first|lia|omega)) (by (first|lia|omega))
  exact .inr ⟨(c.trans O (D.al (k-(q+1)+k-1-j) (by (first|lia|omega)) (by (first|lia|omega))).symm).1,D.asc _ _ (by (first|lia|omega)) (by (first|lia|omega)) (by (first|lia|omega))⟩
 ·rw[if_neg (by (first|lia|omega):¬ (k-(q+1)<=i/\i<k))]
  by_cases hj':k-(q+1)<=j
  ·rw[if_pos (⟨hj',b⟩)]
   exact .inl (D.str i _ (by (first|lia|omega)) (by (first|lia|omega)) (by (first|lia|omega)))
  ·rw[if_neg (by (first|lia|omega))]
   exact D.dec i j a b (by (first|lia|omega))
theorem Dn.next (O:Ord lt)  (D:Dn lt p k) (e:0<k) (h:lt (p.getD k 0) (p.getD (k-1) 0)=true):De lt p (k+1) 0:=by
 have a:∀i,i<k->lt (p.getD k 0) (p.getD i 0)=true:=fun i f=>by
  rcases aW i (k-1) with y | y
  ·rcases D i _ y (by (first|lia|omega)) with z | ⟨z,_⟩
   ·exact O.tr _ _ _ h z
   ·rcases O.neg _ _ _ h with x | x
    ·exact x
    ·rw[z]at x;cases x
  ·rw[show i=k-1 by (first|lia|omega)];exact h
 refine⟨by (first|lia|omega),fun i b c=>?_,fun i j b c d=>by (first|lia|omega),fun i j b c d=>?_,fun i j b c d=>?_⟩
 ·rw[show i=k+1-1 by (first|lia|omega)];exact Eq'.refl O _
 ·rcases aW j k with z | z
  ·exact D i j b z
  ·rw[show j=k by (first|lia|omega)];exact .inl (a i (by (first|lia|omega)))
 ·rw[show j=k by (first|lia|omega)];exact a i (by (first|lia|omega))
theorem De.more (O:Ord lt)  (D:De lt p k q) (F:Fx n p k) (hk:k<n) (h1:lt (p.getD k 0) (p.getD (k-1) 0)=false) (h2:lt (p.getD (k-1) 0) (p.getD k 0)=false):De lt p (k+1) (q+1):=by
 have d:=D.hq;have e:Eq' lt (p.getD (k-1) 0) (p.getD k 0):=⟨h2,h1⟩
 refine⟨by (first|lia|omega),fun i b a=>?_,fun i j b a c=>?_,fun i j b a c=>?_,fun i j b a c=>?_⟩
 ·show Eq' lt (p.getD i 0) (p.getD k 0)
  rcases aW i k with z | z
  ·exact(D.al i (by (first|lia|omega)) z).trans O e
  ·rw[show i=k by (first|lia|omega)];exact Eq'.refl O _
 ·rcases aW j k with z | z
  ·exact D.asc i j (by (first|lia|omega)) a z
  ·rw[show j=k by (first|lia|omega),F.hi k (ak _) hk];exact F.lo i (by (first|lia|omega))
 ·rcases aW j k with z | z
  ·exact D.dec i j b z (by (first|lia|omega))
  ·rw[show j=k by (first|lia|omega)]
   exact .inl (e.symm.lt_of O (D.str i _ (by (first|lia|omega)) (by (first|lia|omega)) (by (first|lia|omega))))
 ·rcases aW j k with z | z
  ·exact D.str i j (by (first|lia|omega)) (by (first|lia|omega)) z
  ·rw[show j=k by (first|lia|omega)]
   exact e.symm.lt_of O (D.str i _ (by (first|lia|omega)) (by (first|lia|omega)) (by (first|lia|omega)))
theorem Sq (O:Ord lt)(hB:∀i j,i<n->j<n->B i j=some (lt i j)):∀(f:Nat) (p:Array Nat) (k q:Nat),k+f=n->Fx n p k->De lt p k q ->
 ∃p' m q',kEv B (kas_desc f p k q)=some (p',m,q')/\0<m/\m<=n/\Fx n p' m/\De lt p' m q'/\p'.Perm p
 | 0,p,k,q,hk,F,D=>⟨p,k,q,rfl,by have:=D.hq;(first|lia|omega),by (first|lia|omega),F,D,dI _⟩
 | f+1,p,k,q,hk,F,D=>by
  have hq:=D.hq
  have hkn:k<n:=by (first|lia|omega)
  have b1:=F.bound (i:=k) (by (first|lia|omega)) (by (first|lia|omega))
  have b2:=F.bound (i:=k-1) (by (first|lia|omega)) (by (first|lia|omega))
  have e:kEv B (kas_desc (f+1) p k q)=kEv B (if lt (p.getD k 0) (p.getD (k-1) 0)=true then (if q>0 then kas_desc f (kas_rev p (k-(q+1)) k) (k+1) 0 else kas_desc f p (k+1) 0)
   else .ask (p.getD (k-1) 0) (p.getD k 0) fun d=>if d=true then .ret (p,k,q) else kas_desc f p (k+1) (q+1)):=by
   show (B _ _).bind _=_
   rw[hB _ _ b1 b2];rfl
  rw[e]
  cases c:lt (p.getD k 0) (p.getD (k-1) 0) with
  | true =>
   rw[if_pos rfl]
   by_cases h0:q>0
   ·rw[if_pos h0]
    have hs:k<=p.size:=by rw[F.sz];(first|lia|omega)
    have g1:(kas_rev p (k-(q+1)) k).getD k 0=p.getD k 0:=by rw[Jb hs,if_neg (by (first|lia|omega))]
    have g2:(kas_rev p (k-(q+1)) k).getD (k-1) 0=p.getD (k-(q+1)) 0:=by rw[Jb hs,if_pos (by (first|lia|omega))];congr 1;(first|lia|omega)
    have D2:=(D.flush O hs).next O (by (first|lia|omega)) (by rw[g1,g2];exact(D.al (k-(q+1)) (by (first|lia|omega)) (by (first|lia|omega))).lt_to O c)
    obtain⟨p',m,q',a1,a2,a3,a4,a5,a6⟩:=Sq O hB f _ (k+1) 0 (by (first|lia|omega)) ((F.rev (by (first|lia|omega)) (by (first|lia|omega))).up hkn) D2
    exact⟨p',m,q',a1,a2,a3,a4,a5,a6.trans (mirror_perm _ _ _ _)⟩
   ·rw[if_neg h0]
    have hq0:q=0:=by (first|lia|omega)
    subst hq0
    exact Sq O hB f p (k+1) 0 (by (first|lia|omega)) (F.up hkn) (D.flat.next O (by (first|lia|omega)) c)
  | false =>
   rw[if_neg (by decide)]
   have e2:kEv B (.ask (p.getD (k-1) 0) (p.getD k 0) fun d=>if d=true then .ret (p,k,q) else kas_desc f p (k+1) (q+1))=kEv B (if lt (p.getD (k-1) 0) (p.getD k 0)=true then .ret (p,k,q) else kas_desc f p (k+1) (q+1)):=by
    show (B _ _).bind _=_
    rw[hB _ _ b2 b1];rfl
   rw[e2]
   cases d:lt (p.getD (k-1) 0) (p.getD k 0) with
   | true=>exact⟨p,k,q,rfl,by (first|lia|omega),by (first|lia|omega),F,D,dI _⟩
   | false=>exact Sq O hB f p (k+1) (q+1) (by (first|lia|omega)) (F.up hkn) (D.more O F hkn c d)
theorem Ac7 (O:Ord lt)(hB:∀i j,i<n->j<n->B i j=some (lt i j))  (c:0<k) (hk:k<=n) (F:Fx n p k) (D:Dn lt p k):∃m p',kEv B (kas_tail3 k n p)=some (m,p')/\0<m/\m<=n/\Fx n p' m/\So lt p' m/\p'.Perm p:=by
 have a:k<=p.size:=by rw[F.sz];(first|lia|omega)
 have S:So _ (kas_rev p 0 k) k:=fun i j e h=>by
  rw[Jb a i,Jb a j,if_pos (⟨by (first|lia|omega),by (first|lia|omega)⟩),if_pos (⟨by (first|lia|omega),by (first|lia|omega)⟩)]
  exact D _ _ (by (first|lia|omega)) (by (first|lia|omega))
 obtain⟨m,f,l,d,g,b,_⟩:=Aj6 O hB (n-k) k c (by (first|lia|omega)) (F.rev  (ak _) hk) S
 refine⟨m,kas_rev p 0 k,?_,by (first|lia|omega),d,g,b,mirror_perm _ _ _ _⟩
 rw[kas_tail3,Js,f];rfl
theorem Qw (O:Ord lt)(hB:∀i j,i<n->j<n->B i j=some (lt i j))  (hk:k<n) (F:Fx n p (k+1)) (D:De lt p (k+1) 0):∃m a,kEv B (kas_descPart k n p)=some (m,a)/\0<m/\m<=n/\Fx n a m/\So lt a m/\a.Perm p:=by
 obtain⟨u,m,q,x,t,f,g,v,w⟩:=Sq O hB (n-(k+1)) p _ 0 (by (first|lia|omega)) F D
 have e:kEv B (kas_descPart k n p)=kEv B (if q>0 then kas_tail3 m n (kas_rev u (m-(q+1)) m) else kas_tail3 m n u):=by
  rw[kas_descPart,Js,x];rfl
 rw[e]
 by_cases h0:q>0
 ·rw[if_pos h0]
  obtain⟨d,a,h,c,o,l,r,s⟩:=Ac7 O hB t f (g.rev (ak _) f) (v.flush O (by rw[g.sz];grind))
  exact⟨d,a,h,c,o,l,r,(s.trans (mirror_perm _ _ _ _)).trans w⟩
 ·have b:q=0:=by (first|lia|omega)
  subst b;obtain⟨d,a,h,c,o,l,r,s⟩:=Ac7 O hB t f g v.flat;exact⟨d,a,h,c,o,l,r,s.trans w⟩
theorem A8u (O:Ord lt)(hB:∀i j,i<n->j<n->B i j=some (lt i j))(h1:1<=n)(F:Fx n p 1):∃m f,kEv B (kas_count n p)=some (m,f)/\0<m/\m<=n/\Fx n f m/\So lt f m/\f.Perm p:=by
 obtain⟨m,v,K,l,b,k,u⟩:=Aj6 O hB (n-1) 1 (by (first|lia|omega)) (by (first|lia|omega)) F (fun i j h o=>by (first|lia|omega))
 have e:kEv B (kas_count n p)=kEv B (if (m==n)=true then .ret (m,p) else if m>1 then .ask (p.getD 0 0) (p.getD (m-1) 0) fun c=>if c=true then .ret (m,p) else kas_descPart m n (kas_rev p 0 m) else kas_descPart m n p):=by
  rw[kas_count,Js,v];rfl
 rw[e]
 by_cases hmn:m=n
 ·rw[if_pos (by simp[hmn])];exact⟨m,p,rfl,by (first|lia|omega),l,b,k,dI _⟩
 ·rw[if_neg (by simp[hmn])]
  have a:m<n:=by (first|lia|omega)
  have c:=u a
  by_cases hm:m>1
  ·rw[if_pos hm]
   have E:kEv B (.ask (p.getD 0 0) (p.getD (m-1) 0) fun c=>if c=true then .ret (m,p) else kas_descPart m n (kas_rev p 0 m))=kEv B (if lt (p.getD 0 0) (p.getD (m-1) 0)=true then .ret (m,p) else kas_descPart m n (kas_rev p 0 m)):=by
    show (B _ _).bind _=_
    rw[hB _ _ (b.bound l (by (first|lia|omega))) (b.bound l (by (first|lia|omega)))];rfl
   rw[E]
   cases d:lt (p.getD 0 0) (p.getD (m-1) 0) with
   | true=>exact⟨m,p,rfl,by (first|lia|omega),l,b,k,dI _⟩
   | false =>
    rw[if_neg (by decide)]
    have s:m<=p.size:=by rw[b.sz];(first|lia|omega)
    have g:∀i,i<m->(kas_rev p 0 m).getD i 0=p.getD (m-1-i) 0:=fun i q=>by
     rw[Jb s,if_pos (⟨by (first|lia|omega),q⟩:0<=i/\i<m)];congr 1;(first|lia|omega)
    have w:(kas_rev p 0 m).getD m 0=p.getD m 0:=by rw[Jb s,if_neg (by (first|lia|omega))]
    have A:∀i,i<m->Eq' lt (p.getD i 0) (p.getD (m-1) 0):=fun i q=>by
     refine⟨?_,?_⟩
     ·cases x:lt (p.getD i 0) (p.getD (m-1) 0) with
      | false=>rfl
      | true =>
       rcases O.neg _ (p.getD 0 0) _ x with z | z
       ·rcases Nat.eq_zero_or_pos i with y | y
        ·rw[y,O.irr]at z;cases z
        ·rw[(k 0 i y q).not O]at z;cases z
       ·rw[d]at z;cases z
     ·rcases aW i (m-1) with y | y
      ·exact(k i (m-1) y (by (first|lia|omega))).not O
      ·rw[show i=m-1 by (first|lia|omega)];exact O.irr _
    have r:Dn lt (kas_rev p 0 m) m:=fun i j h o=>by
     rw[g i (by (first|lia|omega)),g j o];exact k _ _ (by (first|lia|omega)) (by (first|lia|omega))
    obtain⟨D,f,G,C,I,H,J,t⟩:=Qw O hB a ((b.rev  (ak _) l).up a) (r.next O (by (first|lia|omega)) (by rw[w,g _ (by (first|lia|omega))];exact(A _ (by (first|lia|omega))).lt_to O c))
    exact⟨D,f,G,C,I,H,J,t.trans (mirror_perm _ _ _ _)⟩
  ·rw[if_neg hm]
   have r:Dn lt p m:=fun i j h o=>by (first|lia|omega)
   exact Qw O hB a (b.up a) (r.next O (by (first|lia|omega)) c)
theorem Jh (O:Ord lt)(hB:∀i j,i<n->j<n->B i j=some (lt i j)){k:Nat}(hk:k<n)(F:Fx n p k)(S:So lt p k):∀(f l r:Nat),l<=r->r<=k->r-l<=f->(∀i,i<l->lt (p.getD k 0) (p.getD i 0)=false)->(∀i,r<=i->i<k->lt (p.getD k 0) (p.getD i 0)=true) ->
 ∃m,kEv B (kas_place p k f l r)=some m/\m<=k/\(∀i,i<m->lt (p.getD k 0) (p.getD i 0)=false)/\(∀i,m<=i->i<k->lt (p.getD k 0) (p.getD i 0)=true)
 | 0,l,r,h1,h2,h3,a,b=>⟨l,rfl,by (first|lia|omega),a,fun i x y=>b i (by (first|lia|omega)) y⟩
 | f+1,l,r,h1,h2,h3,a,b=>by
  by_cases h:l≥r
  ·refine⟨l,?_,by (first|lia|omega),a,fun i x y=>b i (by (first|lia|omega)) y⟩
   rw[kas_place,if_pos h];rfl
  ·have e:kEv B (kas_place p k (f+1) l r)=kEv B (if lt (p.getD k 0) (p.getD ((l+r) / 2) 0)=true then kas_place p k f l ((l+r) / 2) else kas_place p k f ((l+r) / 2+1) r):=by
    rw[kas_place,if_neg h]
    show (B _ _).bind _=_
    rw[hB _ _ (F.bound (by (first|lia|omega)) (by (first|lia|omega))) (F.bound (by (first|lia|omega)) (by (first|lia|omega)))];rfl
   rw[e]
   cases c:lt (p.getD k 0) (p.getD ((l+r) / 2) 0) with
   | true =>
    rw[if_pos rfl]
    refine Jh O hB hk F S f l _ (by (first|lia|omega)) (by (first|lia|omega)) (by (first|lia|omega)) a fun i x y=>?_
    rcases aW ((l+r) / 2) i with z | z
    ·rcases S _ i z y with q | ⟨q,_⟩
     ·exact O.tr _ _ _ c q
     ·rcases O.neg _ (p.getD i 0) _ c with w | w
      ·exact w
      ·rw[q]at w;cases w
    ·rw[show i=(l+r) / 2 by (first|lia|omega)];exact c
   | false =>
    rw[if_neg (by decide)]
    refine Jh O hB hk F S f _ r (by (first|lia|omega)) h2 (by (first|lia|omega)) (fun i x=>?_) b
    rcases aW i ((l+r) / 2) with z | z
    ·have q:=S i _ z (by (first|lia|omega))
     cases w:lt (p.getD k 0) (p.getD i 0) with
     | false=>rfl
     | true =>
      rcases O.neg _ (p.getD ((l+r) / 2) 0) _ w with y | y
      ·rw[c]at y;cases y
      ·rw[q.not O]at y;cases y
    ·rw[show i=(l+r) / 2 by (first|lia|omega)];exact c
theorem A7x (O:Ord lt)(hB:∀i j,i<n->j<n->B i j=some (lt i j)):∀(f:Nat) (p:Array Nat) (k:Nat),k+f=n->Fx n p k->So lt p k->∃p',kEv B (kas_bin f p k)=some p'/\Fx n p' n/\So lt p' n/\p'.Perm p
 | 0,p,k,hk,F,S=>by
  have e:k=n:=by (first|lia|omega)
  subst e;exact⟨p,rfl,F,S,dI _⟩
 | f+1,p,k,hk,F,S=>by
  have hkn:k<n:=by (first|lia|omega)
  obtain⟨l,a1,a2,a3,a4⟩:=Jh O hB hkn F S k 0 k (by (first|lia|omega)) (ak _) (by (first|lia|omega)) (fun i x=>by (first|lia|omega)) (fun i x y=>by (first|lia|omega))
  have hs:k<p.size:=by rw[F.sz];exact hkn
  have g:=fun i=>Bt1 (p:=p) (src:=k) (d:=k-l) hs (by (first|lia|omega)) i
  have kl:k-(k-l)=l:=by (first|lia|omega)
  rw[kl]at g
  have e:kEv B (kas_bin (f+1) p k)=kEv B (kas_bin f (bubble p k (k-l)) (k+1)):=by
   rw[kas_bin,Js,a1];rfl
  have F2:Fx n (bubble p k (k-l)) (k+1):=by
   have U:=F.up hkn
   refine⟨(bubble_size _ _ _).trans F.sz,fun i hi=>?_,fun i h1 h2=>?_⟩
   ·rw[g i]
    by_cases c1:i=l
    ·rw[if_pos c1];exact U.lo _ (by (first|lia|omega))
    ·rw[if_neg c1]
     by_cases c2:l<i/\i<=k
     ·rw[if_pos c2];exact U.lo _ (by (first|lia|omega))
     ·rw[if_neg c2];exact U.lo _ hi
   ·rw[g i,if_neg (by (first|lia|omega)),if_neg (by (first|lia|omega))]
    exact F.hi i (by (first|lia|omega)) h2
  have new:∀i,i<l->Rr lt (p.getD i 0) (p.getD k 0):=fun i hi=>.inr ⟨a3 i hi,by rw[F.hi k (ak _) hkn];exact F.lo i (by (first|lia|omega))⟩
  have S2:So lt (bubble p k (k-l)) (k+1):=fun i j hij hj=>by
   rw[g i,g j]
   by_cases c1:j=l
   ·rw[if_pos c1,if_neg (by (first|lia|omega)),if_neg (by (first|lia|omega))]
    exact new i (by (first|lia|omega))
   ·rw[if_neg c1]
    by_cases c2:l<j/\j<=k
    ·rw[if_pos c2]
     by_cases c3:i=l
     ·rw[if_pos c3];exact .inl (a4 _ (by (first|lia|omega)) (by (first|lia|omega)))
     ·rw[if_neg c3]
      by_cases c4:l<i/\i<=k
      ·rw[if_pos c4];exact S _ _ (by (first|lia|omega)) (by (first|lia|omega))
      ·rw[if_neg c4];exact S _ _ (by (first|lia|omega)) (by (first|lia|omega))
    ·rw[if_neg c2,if_neg (by (first|lia|omega)),if_neg (by (first|lia|omega))];exact S _ _ hij (by (first|lia|omega))
  rw[e]
  obtain⟨p',b1,b2,b3,b4⟩:=A7x O hB f _ (k+1) (by (first|lia|omega)) F2 S2
  exact⟨p',b1,b2,b3,b4.trans (bubble_perm _ _ _)⟩
theorem Bd0 (O:Ord lt)(hB:∀i j,i<n->j<n->B i j=some (lt i j))(h1:1<=n):∃p,kEv B (kas_sort n)=some p/\p.size=n/\So lt p n/\p.toList.Perm (List.range n):=by
 have F:Fx n (List.toArray (List.range n)) 1:=by
  have q:∀i,i<n->(List.toArray (List.range n)).getD i 0=i:=fun i a=>by
   rw[gD];simp[a]
  exact⟨by simp,fun i a=>by rw[q i (by (first|lia|omega))];exact a,fun i _ a=>q i a⟩
 obtain⟨m,p,g,t,u,c,f,b⟩:=A8u O hB h1 F
 have e:kEv B (kas_sort n)=kEv B (if m<n then kas_bin (n-max m 1) p (max m 1) else .ret p):=by
  rw[kas_sort,Js,g];rfl
 rw[e]
 have d:∀q:Array _,q.Perm (List.toArray (List.range n))->q.toList.Perm _:=fun q h=>by
  have:=Array.perm_iff_toList_perm.mp h
  simpa using this
 by_cases h:m<n
 ·rw[if_pos h,show max m 1=m by (first|lia|omega)]
  obtain⟨r,k,l,s,o⟩:=A7x O hB (n-m) p m (by (first|lia|omega)) c f
  exact⟨r,k,l.sz,s,d _ (o.trans b)⟩
 ·rw[if_neg h]
  have e:m=n:=by (first|lia|omega)
  subst e;exact⟨p,rfl,c.sz,f,d _ b⟩
end
end PS
namespace U
open PySem L2
theorem R.bind_ok  {a:b}  {k:b->Ev->R d}:(R.ok a c).bind k=k a c:=rfl
theorem R.toS_ok  {a:b}  {k:b->Ev->SR}:(R.ok a c).toS k=k a c:=rfl
theorem Ay0 {a:Type}{x:Option a}:(some x).join=x:=rfl
theorem B1c  (x:a) (r:List a):atI (x::r) 0=some x:=Iu  rfl
theorem B1u  (x y:a) (r:List a):atI (x::y::r) 1=some y:=Iu  rfl
theorem B3k  (x y z:a) (r:List a):atI (x::y::z::r) 2=some z:=Iu  rfl
theorem B3o  (x y z u:a) (r:List a):atI (x::y::z::u::r) 3=some u:=Iu  rfl
theorem B1f  (x y z u w:a) (r:List a):atI (x::y::z::u::w::r) 4=some w:=Iu  rfl
theorem Br0:ixN 3 0=some 0:=rfl
theorem Bv0:ixN 3 1=some 1:=rfl
theorem Bp7:ixN 3 2=some 2:=rfl
def Q5 (g:o_)(body:Ev->SR)(d:t_)(c:Ev):SR:=(g (.o (.im d)) c).toS fun _ c=>body c
theorem A0h      (h:Q5 g body d c=.nx c'\/Q5 g body d c=.ct c'):forL g body (d::ds) c=forL g body ds c':=by
 unfold Q5 at h;rw[forL]
 cases e:g _ c with
 | bad=>rw[e]at h;rcases h with h | h <;> cases h
 | ok u a =>
  rw[e]at h;have h:body _=.nx _\/body _=.ct _:=h
  grind
theorem G5 {g:o_}{body:Ev->SR}{P:Nat->Ev->Prop}:∀{items:w5}{n:Nat}{c:Ev},P n c ->
 (∀k d c,items[k]?=some d->P (n+k) c->∃c',(Q5 g body d c=.nx c'\/Q5 g body d c=.ct c')/\P (n+k+1) c')->∃c',forL g body items c=.nx c'/\P (n+items.length) c'
 | [],n,c,h0,_=>⟨c,rfl,h0⟩
 | d::ds,n,c,h0,hs=>by
  obtain⟨c1,e,h1⟩:=hs 0 d c rfl h0;rw[A0h e]
  obtain⟨c2,e2,h2⟩:=G5 (P:=P) (items:=ds) (n:=n+1) (c:=c1) h1 (fun k d c hk hp=>by
   have:=hs (k+1) d c (by simpa using hk) (by rw[show n+(k+1)=n+1+k by (first|lia|omega)];exact hp)
   rw[show n+(k+1)+1=n+1+k+1 by (first|lia|omega)]at this
   exact this)
  exact⟨c2,e2,by rw[aG,show n+(ds.length+1)=n+1+ds.length by (first|lia|omega)];exact h2⟩
def Q4 (g:o_)(ft:n_)(fe:m6)(d:t_)(c:Ev):R (Option t_) :=
 (g (.o (.im d)) c).bind fun _ c=>(ft c).bind fun b c=>if b=true then (fe c).bind fun p c=>(frz (nrm p) c).bind fun y c=>.ok (some y) c else .ok none c
theorem Nm       : Dt g ft fe (d::ds) acc c=(Q4 g ft fe d c).bind fun o c=>Dt g ft fe ds (acc++o.toList) c:=by
 unfold Q4;rw[Dt]
 cases e:g _ c with
 | bad=>rfl
 | ok u f =>
  simp only[R.bind_ok]
  cases e2:ft _ with
  | bad=>rfl
  | ok b h =>
   simp only[R.bind_ok]
   cases b with
   | false=>simp[R.bind_ok]
   | true =>
    cases e3:fe _ with
    | bad=>rfl
    | ok p i =>
     simp only[R.bind_ok]
     cases e4:frz _ _ with
     | bad=>rfl
     | ok y a=>rfl
theorem Mr {g:o_}{ft:n_}{fe:m6}{P:Nat->w5->Ev->Prop}:∀{items acc:w5}{n:Nat}{c:Ev},P n acc c ->
 (∀k d acc c,items[k]?=some d->P (n+k) acc c->∃o c',Q4 g ft fe d c=.ok o c'/\P (n+k+1) (acc++o.toList) c')->∃acc' c',Dt g ft fe items acc c=.ok acc' c'/\P (n+items.length) acc' c'
 | [],acc,n,c,h0,_=>⟨acc,c,rfl,h0⟩
 | d::ds,acc,n,c,h0,hs=>by
  obtain⟨o,c1,e,h1⟩:=hs 0 d acc c rfl h0;rw[Nm,e,R.bind_ok]
  obtain⟨acc2,c2,e2,h2⟩:=Mr (P:=P) (items:=ds) (n:=n+1) (c:=c1) h1 (fun k d acc c hk hp=>by
   have:=hs (k+1) d acc c (by simpa using hk) (by rw[show n+(k+1)=n+1+k by (first|lia|omega)];exact hp)
   rw[show n+(k+1)+1=n+1+k+1 by (first|lia|omega)]at this
   exact this)
  exact⟨acc2,c2,e2,by rw[aG,show n+(ds.length+1)=n+1+ds.length by (first|lia|omega)];exact h2⟩
theorem Zu {g:o_}{ft:n_}{fe:m6}{I:Ev->Prop}{F:t_->Option t_}:∀{items acc:w5}{c:Ev},I c ->
 (∀d c,d∈items->I c->∃c',Q4 g ft fe d c=.ok (F d) c'/\I c')->∃c',Dt g ft fe items acc c=.ok (acc++items.filterMap F) c'/\I c'
 | [],acc,c,h0,_=>⟨c,by simp[Dt],h0⟩
 | d::ds,acc,c,h0,hs=>by
  obtain⟨c1,e,h1⟩:=hs d c (.head _) h0;rw[Nm,e,R.bind_ok]
  obtain⟨c2,e2,h2⟩:=Zu (I:=I) (F:=F) (items:=ds) (acc:=acc++(F d).toList) h1 (fun d c hd hi=>hs d c (.tail _ hd) hi)
  refine⟨c2,?_,h2⟩
  rw[e2,dH];rw[cT]
  cases F d <;> rfl
theorem A0p    {I:Ev->Prop}    (b:I c)
 (hs:∀d c,d∈items->I c->∃a,Q4 g ft fe d c=.ok (some (F d)) a/\I a):∃a,Dt g ft fe items acc c=.ok (acc++items.map F) a/\I a:=by
 obtain⟨a,e,h⟩:=Zu  (acc:=acc) b hs
 refine⟨a,?_,h⟩
 simp_all
theorem V1 {α:Type}{g:o_}{ft:n_}{fe:m6}{I:Ev->Prop}{f:α->t_}{G:α->Option t_}:∀{xs:List α}{acc:w5}{c:Ev},I c ->
 (∀x c,x∈xs->I c->∃c',Q4 g ft fe (f x) c=.ok (G x) c'/\I c')->∃c',Dt g ft fe (xs.map f) acc c=.ok (acc++xs.filterMap G) c'/\I c'
 | [],acc,c,h0,_=>⟨c,by simp[Dt],h0⟩
 | x::xs,acc,c,h0,hs=>by
  obtain⟨c1,e,h1⟩:=hs x c (.head _) h0;rw[aQ,Nm,e,R.bind_ok]
  obtain⟨c2,e2,h2⟩:=V1 (I:=I) (f:=f) (G:=G) (xs:=xs) (acc:=acc++(G x).toList) h1 (fun d c hd hi=>hs d c (.tail _ hd) hi)
  refine⟨c2,?_,h2⟩
  rw[e2,dH];rw[cT]
  cases G x <;> rfl
theorem J0 {b:Type}    {I:Ev->Prop}{f:b->t_}{G:b->t_}{xs:List b}   (d:I c)
 (hs:∀x c,x∈xs->I c->∃a,Q4 g ft fe (f x) c=.ok (some (G x)) a/\I a):∃a,Dt g ft fe (xs.map f) acc c=.ok (acc++xs.map G) a/\I a:=by
 obtain⟨a,e,h⟩:=V1  (acc:=acc) d hs
 refine⟨a,?_,h⟩
 simp_all
theorem Jt        (h1:fi c=.ok ds c1) (hl:ds.length<=16000000) (h2:Dt g ft fe ds [] (cIn idx c1)=.ok acc cI) (a:Gn cI (pairsOf 0 idx) c1=some c2) :
 cLC idx fi g ft fe c=.ok (.o (.ls false acc)) c2:=by
 unfold cLC;rw[h1,R.bind_ok]
 simp_all
theorem Su      (h1:fi c=.ok ds c1):Oa fi g body c=forL g body ds c1:=by
 unfold Oa;rw[h1];rfl
theorem Bp   (h:f c=.nx c'):Az f g c=g c':=by unfold Az;rw[h]
theorem Sh       (h:body (a.map some++List.replicate (N-n) none)=.rt p c) (hl:a.length=n) (hf:A0r a p c=r):Fe n N body a=r:=by
 unfold Fe;grind
end U
namespace K
open PySem L2 U
structure Good (d:t_) (n w:Nat):Prop where
 lay:d.canLay0=true
 shw:d.showable=true
 dct:d.hasDict=false
 dep:d.depth<=n
 wgt:wt d<=w
structure Goods (ds:w5) (n w:Nat):Prop where
 lay:PyData.canLayAll0 ds=true
 shw:PyData.showableAll ds=true
 dct:PyData.hasDictAll ds=false
 dep:PyData.depthAll ds<=n
 wgt:Hu ds<=w*ds.length
theorem Goods.of {n w:Nat}:∀{ds:w5},(∀d∈ds,Good d n w)->Goods ds n (w+2)
 | [],_=>⟨rfl,rfl,rfl,aD _,aD _⟩
 | d::r,h=>by
  have a:=h d (.head _)
  have b:=Goods.of fun e he=>h e (.tail _ he)
  refine⟨?_,?_,?_,?_,?_⟩
  ·show (d.canLay0&&PyData.canLayAll0 r)=true;rw[a.lay,b.lay];rfl
  ·show (d.showable&&PyData.showableAll r)=true;rw[a.shw,b.shw];rfl
  ·show (d.hasDict||PyData.hasDictAll r)=false;rw[a.dct,b.dct];rfl
  ·show max d.depth (PyData.depthAll r)<=n;have:=a.dep;have:=b.dep;(first|lia|omega)
  ·show wt d+2+Hu r<=(w+2)*(r.length+1)
   have:=a.wgt;have:=b.wgt;rw[Nat.mul_succ];(first|lia|omega)
theorem Good.tup   (h:∀d∈ds,Good d n w) (hk:ds.length<=k):Good (.tuple ds) (n+1) ((w+2)*k+4):=by
 have g:=Goods.of h;have m:(w+2)*ds.length<=(w+2)*k:=bV _ hk
 refine⟨g.lay,g.shw,g.dct,?_,?_⟩
 ·show PyData.depthAll _+1<=n+1;have:=g.dep;(first|lia|omega)
 ·show Hu _+4<=(w+2)*k+4;have:=g.wgt;(first|lia|omega)
theorem Good.lst   (h:∀d∈ds,Good d n w) (hk:ds.length<=k):Good (.list ds) (n+1) ((w+2)*k+4):=by
 have g:=Goods.of h;have m:(w+2)*ds.length<=(w+2)*k:=bV _ hk
 refine⟨g.lay,g.shw,g.dct,?_,?_⟩
 ·show PyData.depthAll _+1<=n+1;have:=g.dep;(first|lia|omega)
 ·show Hu _+4<=(w+2)*k+4;have:=g.wgt;(first|lia|omega)
theorem Good.mono   (h:Good d n w) (a:n<=n') (b:w<=w'):Good d n' w':=⟨h.lay,h.shw,h.dct,aj h.dep a,aj h.wgt b⟩
theorem Good.flatB   (h:Good d n w) (hn:n<=40):By d=true:=by
 unfold U.By;rw[h.lay,az (aj h.dep hn)];rfl
theorem A2s    (ha:Good a n w) (hb:Good b n' w') (hn:n<=40) (c:n'<=40):Cp neg a b=some (.im (.bool (if neg then !PyData.eqv a b else PyData.eqv a b))):=by
 unfold Cp;rw[ha.flatB hn,hb.flatB c];rfl
theorem Ap0   (h:Good d n w) (hn:n<=40) (hw:w<=16000000) (hs:isSeq d=true):Ul d=some (.im (.str d.shown)):=by
 have l:d.shown.length<=sizeLine:=aj (Ac5 d h.lay h.shw) (aj h.wgt (aj hw (by decide)))
 cases d with
 | int i=>cases hs
 | none=>rfl
 | bool b=>rfl
 | str x=>cases hs
 | dict k=>cases hs
 | list a =>
  show (if isSeq _&&_ then _ else _)=_
  rw[h.shw,h.dct,az (aj h.dep hn),az l];rfl
 | tuple a =>
  show (if isSeq _&&_ then _ else _)=_
  rw[h.shw,h.dct,az (aj h.dep hn),az l];rfl
theorem Ma  (h:∀d∈ds,d.canLay0=true):PyData.canLayAll0 ds=true:=by
 induction ds with
 | nil=>rfl
 | cons d r a=>show (d.canLay0&&PyData.canLayAll0 r)=true;grind
theorem A8e   : Cp neg (.str a) (.str b)=some (.im (.bool (if neg then !decide (a=b) else decide (a=b)))):=by
 unfold Cp
 rw[show Ru _ _=true from rfl]
 rw[Uu]
 simp
inductive Vl where
 | non
 | int (i:Int)
 | str (x:Str)
 deriving DecidableEq
abbrev j0:=List Vl
abbrev k_:=List (j0)
@[simp] theorem Vl.int.injEq (a b:Int):(Vl.int a=Vl.int b)=(a=b):=propext ⟨fun h=>by cases h;rfl,fun h=>by rw[h]⟩
@[simp] theorem Vl.str.injEq (a b:Str):(Vl.str a=Vl.str b)=(a=b):=propext ⟨fun h=>by cases h;rfl,fun h=>by rw[h]⟩
def Vl.d:Vl->t_
 | .non=>.none
 | .int i=>.int i
 | .str x=>.str x
def vb:Vl->Bool
 | .non=>true
 | .int i=>decide (-1000000000000<=i)&&decide (i<=1000000000000)
 | .str x=>decide (x.length<=40)&&x.cps.toList.all fun c=>decide (32<=c)&&decide (c<=126)
abbrev VB (v:Vl):Prop:=vb v=true
abbrev VBs (vs:j0):Prop:=∀v∈vs,VB v
def tD (vs:j0):t_:=.tuple (vs.map Vl.d)
theorem Yc (x y:Str):PyData.eqv (.str x) (.str y)=decide (x=y):=by
 show (x==y)=_
 grind
theorem Bk9 (a b:Vl):PyData.eqv a.d b.d=decide (a=b):=by
 cases a with
 | non=>cases b <;> simp[Vl.d,PyData.eqv]
 | int i=>
  cases b with
   | int j =>
    show (i==j)=_
    grind
   | non=>rfl
   | str y=>trivial
 | str x=>
  cases b with
   | str y=>rw[show PyData.eqv (Vl.d (.str x)) (Vl.d (.str y))=_ from Yc x y];simp_all
   | non=>trivial
   | int y=>trivial
theorem Ae5:∀as bs:j0,PyData.eqvAll (as.map Vl.d) (bs.map Vl.d)=decide (as=bs)
 | [],[]=>by simp[PyData.eqvAll]
 | [],b::bs=>by simp[PyData.eqvAll]
 | a::as,[]=>by simp[PyData.eqvAll]
 | a::as,b::bs=>by
  show (PyData.eqv a.d b.d&&PyData.eqvAll (as.map Vl.d) (bs.map Vl.d))=_
  rw[Bk9,Ae5 as bs]
  simp
theorem Ws (a bs:j0):PyData.eqv (tD a) (tD bs)=decide (a=bs):=by
 exact Ae5 _ _
theorem Ej  (h:VB v):Good v.d 0 1921:=by
 cases v with
 | non=>exact⟨rfl,rfl,rfl,ak _,by decide⟩
 | int i =>
  obtain⟨a,b⟩:=aq.mp (show (decide _&&decide _)=true from h)
  have a:=aL a;have b:=aL b
  refine⟨rfl,?_,rfl,ak _,ak _⟩
  have c:i.natAbs<2 ^ 41:=by (first|lia|omega)
  have:i.natAbs.log2<1920:=by
   by_cases hz:i.natAbs=0
   ·rw[hz];decide
   ·exact aA ((Nat.log2_lt hz).mpr c) (by decide)
  simpa[Vl.d,PyData.showable] using this
 | str x =>
  obtain⟨a,b⟩:=aq.mp (show (decide _&&x.cps.toList.all _)=true from h)
  have a:=aL a
  refine⟨?_,rfl,rfl,ak _,?_⟩
  ·show x.cps.all _=true
   grind
  ·show 10*x.length+2<=1921
   (first|lia|omega)
theorem Gf   (h:VBs vs) (hk:vs.length<=k):Good (tD vs) 1 (1923*k+4) :=
 Good.tup (fun d a=>by obtain⟨v,b,rfl⟩:=aJ.mp a;exact Ej (h v b)) (by simp_all)
theorem VBs.app  (h:VBs a) (k:VBs b):VBs (a++b):=fun v c=>by
 grind
theorem B1r (v:Vl)(vs:j0):((vs.map Vl.d).any fun e=>PyData.eqv e v.d)=decide (v∈vs):=by
 induction vs with
 | nil=>simp
 | cons a r b =>
  rw[aQ,List.any_cons,Bk9]
  grind
theorem Bl2 (v:j0)(vs:k_):((vs.map tD).any fun e=>PyData.eqv e (tD v))=decide (v∈vs):=by
 induction vs with
 | nil=>simp
 | cons a r b =>
  rw[aQ,List.any_cons,Ws]
  grind
theorem A5q    (h:VB v) (hs:VBs vs):Jo neg v.d (.list (vs.map Vl.d))=some (.im (.bool (if neg then !decide (v∈vs) else decide (v∈vs)))):=by
 have e:Jo neg v.d (.list (vs.map Vl.d))=if By v.d&&PyData.canLayAll0 (vs.map Vl.d) then some (.im (.bool (if neg then !(vs.map Vl.d).any fun e=>PyData.eqv e v.d else (vs.map Vl.d).any fun e=>PyData.eqv e v.d))) else none:=by rfl
 rw[e,(Ej h).flatB (by decide),Ma fun d a=>by obtain⟨u,b,rfl⟩:=aJ.mp a;exact(Ej (hs u b)).lay,B1r];rfl
theorem A3q   {vs:k_}(h:VBs v) (hs:∀u∈vs,VBs u):Jo neg (tD v) (.list (vs.map tD))=some (.im (.bool (if neg then !decide (v∈vs) else decide (v∈vs)))):=by
 show (if By _&&PyData.canLayAll0 _ then some _ else none)=_
 rw[(Gf h (ak _)).flatB (by decide),Ma fun d a=>by obtain⟨u,b,rfl⟩:=aJ.mp a;exact(Gf (hs u b) (ak _)).lay,Bl2];rfl
theorem Qh  {l:List a}{r:Int}(b:0<=r) (h1:r<l.length):∃d,atI l r=some d/\d∈l/\l[r.toNat]?=some d:=by
 obtain⟨k,rfl⟩:=cX b
 exact⟨l[k],Iu (bR _),List.getElem_mem _,by grind⟩
def Aw1 (pr:m7):Ev->SR :=
 (Az
  (cIf (Bb (cOp (Ez false) (Ad 0) (cC (.none)))) (Dc (Fq (Ac (cC (.int 0)) (Ac (cC (.int 0)) Aq)))) Ck)
  (Az (cIf (Bb (cUn (Eb .int) (Ad 0))) (Dc (Fq (Ac (cC (.int 1)) (Ac (Ad 0) Aq)))) Ck)
  (Az (cIf (Bb (cUn (Eb .str) (Ad 0))) (Dc (Fq (Ac (cC (.int 2)) (Ac (Ad 0) Aq)))) Ck)
  (Dc (Fq (Ac (cC (.int 3)) (Ac (cUn Cg (cLC [none] (Fd (Ad 0)) (cgN 0) Cz (cF pr (Ac (Ad 0) Aq)))) Aq)))))))
def Do:Nat->List O->FR
 | 0=>fun _=>.bad
 | k+1=>Fe 1 1 (Aw1 (Do k))
def Aa6:Ev->SR :=
 (Dc (Br9 (Do 2) (Ad 0)))
def Ld:m7:=Fe 1 1 Aa6
def Qz:Ev->SR :=
 (Dc (cUn Cg (cLC [none,none] (Fd (cOp Av (Ad 0) (cC (.int 4)))) (cgT 2 (Cv (cgN 0) (Cv (cgN 1) Hq))) Cz (Ad 0))))
def Fz:m7:=Fe 1 1 Qz
def Gw:Ev->XS :=
 (Af0 (xIf (Bb (cOp (Jo true) (Ad 1) (cOp Av (Ad 0) (cC (.int 3))))) (Xa "NoHead" (Ac (cC (.str "no such head")) Aq)) (Q6 Ck))
  (Q6 (Dc (A0f (cOp Av (Ad 0) (cC (.int 3))) (Ad 1)))))
def Cy:w5->XF:=Ah6 2 2 Gw
def K8:Ev->SR :=
 (Az
  (cIf (Bb (cOp (Cp false) (Ad 1) (cC (.str "seen")))) (Dc (cUn Nz (Ad 0))) Ck)
  (Az (cIf (Bb (cOp (Cp false) (Ad 1) (cC (.str "rising")))) T5 Ck)
  (Az (cIf (Bb (cOp (Cp false) (Ad 1) (cC (.str "falling")))) (Dc (cUn Yi (cF Ld (Ac (Ad 0) Aq)))) Ck)
  (Az T5
  T5))))
def Ew:m7:=Fe 2 2 K8
def Q0:Ev->SR :=
 (Az
  (Cm (cDP (cOp Av (Ad 0) (cC (.int 4)))) (cgN 2))
  (Az (Cm (cLC [none,some 2] (Fd (cF Ew (Ac (cF Fz (Ac (Ad 0) Aq)) (Ac (Ad 1) Aq)))) (cgN 0) Cz (Fq (Ac (Ad 0) (Ac (Ad8 (Ad 1) (Ad 0)) Aq)))) (cgN 3))
  (Dc (cOp Cj (cSl Og (Ad 0) cON (cOS (cC (.int 4)))) (Fq (Ac (cUn Cg (Ad 3)) Aq))))))
def Gb:m7:=Fe 2 4 Q0
def G7:Ev->SR :=
 (Dc (cF (Do 2) (Ac (Mx (Bb (cOp (Ez false) (Ad 0) (cC (.none)))) (Fq Aq) (Fq (Ac (cOp Av (Ad 0) (Ad 1)) Aq))) Aq)))
def Dw:m7:=Fe 2 2 G7
def Dy:m7:=Fe 3 3 (Dc (cF Dw (Ac (cOp Av (cOp Av (Ad 0) (cC (.int 1))) (Ad 2)) (Ac (Ad 1) Aq))))
def Ij:Ev->XS :=
 (Af0 (A5d Cy (Ac (Ad 0) (Ac (Ad 1) Aq)) 3)
  (Af0 (xIf (Bb (cOp (Jo true) (Ad 2) (cOp Av (Ad 0) (cC (.int 2))))) (Ry "NoColumn" (Str.ofString "no column ").length "name" (Ad 2)) (Q6 Ck))
  (Af0 (Q6 (Cm (cMt Gs R9 (cOp Av (Ad 0) (cC (.int 2))) (Ad 2)) (cgN 4)))
  (Af0 (Q6 (Cm (A8q Dy [4,3] (cOp Av (Ad 0) (cC (.int 4)))) (cgN 5)))
  (Q6 (Dc (cOp Cj (cSl Og (Ad 0) cON (cOS (cC (.int 4)))) (Fq (Ac (cUn Cg (Ad 5)) Aq)))))))))
def Cu:w5->XF:=Ah6 3 6 Ij
def Jv:Ev->SR :=
 (Az
  (cIf (Bb (cOp O3 (Ad 1) (Ja (Ad 0)))) (Dc (Bz4 (Ad 0) (Ad 1))) Ck)
  (Dc (cC (.int 0))))
def Fg:m7:=Fe 2 2 Jv
def Ac4:Ev->SR :=
 (Az
  (Cm (cF Fg (Ac (Ad 0) (Ac (Ad 1) Aq))) (cgN 2))
  (Dc (Hv (Ac (cOp Kf (cUn As3 (Ad 2)) (cUn Um (cOp Bt7 (cUn As3 (Ad 2)) (cOp Q7 (cC (.int 10)) (cC (.int 18)))))) (Ac (cOp Cj (cOp Cj (cOp Ph (Ad 2) (cC (.int 2305843009213693951))) (cOp Kf (cC (.int 39373)) (Ad 1))) (cC (.int 17))) (Ac (cC (.int 0)) Aq))))))
def Lr:m7:=Fe 2 3 Ac4
def Qp:Ev->SR :=
 (Az
  (cIf (Bb (cOp Ap1 (cOp Av (Ad 0) (cC (.int 0))) (cC (.int 0)))) (Az (Cm (cOp Ph (cOp Av (Ad 0) (cC (.int 0))) (Ad 1)) (cgN 2))
  (Az (Cm (cOp X5 (cOp Av (Ad 0) (cC (.int 0))) (Ad 1)) (Ar5 (Ad 0) (cC (.int 0))))
  (Dc (Ad 2)))) Ck)
  (Az (Cm (cOp Cj (cOp Av (Ad 0) (cC (.int 2))) (cC (.int 1))) (Ar5 (Ad 0) (cC (.int 2))))
  (Az (Cm (cOp Ph (cOp Kf (cOp Cj (cOp Av (Ad 0) (cC (.int 1))) (cOp Kf (cC (.int 48271)) (cOp Av (Ad 0) (cC (.int 2))))) (cOp Cj (cC (.int 39373)) (cOp Av (Ad 0) (cC (.int 2))))) (cC (.int 2147483647))) (cgN 3))
  (Az (Cm (cOp Ph (cOp Kf (cOp Cj (Ad 3) (cOp Av (Ad 0) (cC (.int 2)))) (cOp Cj (cOp Ph (Ad 3) (cC (.int 40009))) (cC (.int 7)))) (cC (.int 2147483629))) (cgN 4))
  (Dc (cOp Ph (cOp X5 (cOp Ph (cOp Cj (cOp Kf (Ad 4) (cC (.int 48271))) (Ad 3)) (cC (.int 2147483587))) (cC (.int 64))) (Ad 1)))))))
def Aj:m7:=Fe 2 5 Qp
def Qe:Ev->SR :=
 (Az
  (cIf (Bb (cOp (Cp false) (cF Aj (Ac (Ad 0) (Ac (cC (.int 8)) Aq))) (cC (.int 0)))) (Dc (cOp Cj (cC (.int 7)) (cF Aj (Ac (Ad 0) (Ac (cOp M4 (Ad 3) (cC (.int 6))) Aq))))) Ck)
  (Dc (cOp Cj (Ad 1) (cF Aj (Ac (Ad 0) (Ac (cOp Cj (cOp M4 (Ad 2) (Ad 1)) (cC (.int 1))) Aq))))))
def Gu:m7:=Fe 4 4 Qe
def T6:Ev->SR :=
 (Az
  (Cm (Hv (cK [.str "b",.str "a",.str "year",.str "z",.str "ab",.str "month",.str "aa",.str "quantity",.str "c",.str "town",.str "zz",.str "ba"])) (cgN 2))
  (Dc (cLC [none,some 2,some 0] (Kv (Ad 1)) (cgN 0) Cz (U7 (Ad 1) (cF Aj (Ac (Ad 2) (Ac (Ja (Ad 1)) Aq)))))))
def Gp:m7:=Fe 2 3 T6
def Hs:Ev->SR :=
 (Az
  (Cm (cF Aj (Ac (Ad 0) (Ac (cC (.int 9)) Aq))) (cgN 1))
  (Az (cIf (Bb (cOp O3 (Ad 1) (cC (.int 4)))) (Dc (cOp M4 (cF Aj (Ac (Ad 0) (Ac (cC (.int 13)) Aq))) (cC (.int 3)))) Ck)
  (Az (cIf (Bb (cOp (Cp false) (Ad 1) (cC (.int 4)))) (Dc (cOp Av (Hv (Ac (cOp M4 (cOp Q7 (cC (.int 10)) (cC (.int 12))) (cC (.int 1))) (Ac (cOp M4 (cC (.int 0)) (cOp Q7 (cC (.int 10)) (cC (.int 11)))) (Ac (cC (.int 100)) (Ac (cC (.int 10)) Aq))))) (cF Aj (Ac (Ad 0) (Ac (cC (.int 4)) Aq))))) Ck)
  (Az (cIf (Bb (cOp (Cp false) (Ad 1) (cC (.int 5)))) (Dc (cC (.none))) Ck)
  (Dc (cOp Av (Hv (cK [.str "",.str "a",.str "b",.str "B",.str "10",.str "9",.str "-",.str "a b",.str "it's",.str "\\",.str "/",.str "_",.str ":",.str "None",.str "ab"])) (cF Aj (Ac (Ad 0) (Ac (cC (.int 15)) Aq)))))))))
def Bv:m7:=Fe 1 2 Hs
def K9:Ev->SR :=
 (Az
  (cIf (Bb (cOp (Cp false) (cF Aj (Ac (Ad 0) (Ac (cC (.int 9)) Aq))) (cC (.int 0)))) (Dc (cOp Av (Hv (Ac (cOp M4 (cOp Q7 (cC (.int 10)) (cC (.int 12))) (cC (.int 1))) (Ac (cOp M4 (cC (.int 1)) (cOp Q7 (cC (.int 10)) (cC (.int 12)))) (Ac (cOp Q7 (cC (.int 10)) (cC (.int 11))) (Ac (cC (.int 0)) Aq))))) (cF Aj (Ac (Ad 0) (Ac (cC (.int 4)) Aq))))) Ck)
  (Dc (cOp M4 (cF Aj (Ac (Ad 0) (Ac (cC (.int 25)) Aq))) (cC (.int 7)))))
def Cr:m7:=Fe 1 1 K9
def V4:Ev->SR :=
 (Az
  (Cm (Hv Aq) (cgN 2))
  (Az (Oa (Kv (Ad 1)) (cgN 3) (Az (Cm (cF Bv (Ac (Ad 0) Aq)) (cgN 4))
  (cIf (Bb (cOp (Jo true) (Ad 4) (Ad 2))) (Iw (Om (Ad 2) (Ad 4))) Ck)))
  (Dc (Ad 2))))
def Hi:m7:=Fe 2 5 V4
def Qa:Ev->SR :=
 (Az
  (cIf (Bb (cOp (Ez false) (Ad 0) (cC (.none)))) (Dc (Fq (Ac (cC (.int 0)) (Ac (cC (.int 0)) (Ac (cC (.str "")) Aq))))) Ck)
  (Az (cIf (Bb (cUn (Eb .str) (Ad 0))) (Dc (Fq (Ac (cC (.int 2)) (Ac (cC (.int 0)) (Ac (Ad 0) Aq))))) Ck)
  (Dc (Fq (Ac (cC (.int 1)) (Ac (Ad 0) (Ac (cC (.str "")) Aq)))))))
def Gq:m7:=Fe 1 1 Qa
def Qv:Ev->SR :=
 (Az
  (Cm (cF Hi (Ac (Ad 0) (Ac (cC (.int 6)) Aq))) (cgN 3))
  (Az (Cm (Hv Aq) (cgN 4))
  (Az (Oa (Kv (Ad 2)) (cgN 5) (Az (Cm (cUn Cg (cLC [none,some 3,some 0] (Kv (Ad 1)) (cgN 0) Cz (cOp Av (Ad 1) (cF Aj (Ac (Ad 2) (Ac (Ja (Ad 1)) Aq)))))) (cgN 6))
  (cIf (Bb (cOp (Jo true) (Ad 6) (Ad 4))) (Iw (Om (Ad 4) (Ad 6))) Ck)))
  (Dc (Ad 4)))))
def Ga:m7:=Fe 3 7 Qv
def Qs:Ev->SR :=
 (Az
  (Cm (cF Gp (Ac (Ad 0) (Ac (cC (.int 9)) Aq))) (cgN 2))
  (Az (A9f 3 4 5 (Ac (cF Aj (Ac (Ad 0) (Ac (cC (.int 3)) Aq))) (Ac (cF Aj (Ac (Ad 0) (Ac (cC (.int 3)) Aq))) (Ac (cOp Cj (cC (.int 1)) (cF Aj (Ac (Ad 0) (Ac (cC (.int 2)) Aq)))) Aq))))
  (Az (cIf (Bb (cOp (Cp false) (cF Aj (Ac (Ad 0) (Ac (cC (.int 8)) Aq))) (cC (.int 0)))) (Cm (cOp Cj (cC (.int 3)) (cF Aj (Ac (Ad 0) (Ac (cC (.int 3)) Aq)))) (cgN 5)) Ck)
  (Az (Bf3 6 7 (Ac (cSl Og (Ad 2) cON (cOS (Ad 3))) (Ac (cSl Og (Ad 2) (cOS (Ad 3)) (cOS (cOp Cj (Ad 3) (Ad 4)))) Aq)))
  (Az (Cm (cSl Og (Ad 2) (cOS (cOp Cj (Ad 3) (Ad 4))) (cOS (cOp Cj (cOp Cj (Ad 3) (Ad 4)) (Ad 5)))) (cgN 8))
  (Az (Cm (cF Ga (Ac (Ad 0) (Ac (Ad 4) (Ac (cF Gu (Ac (Ad 0) (Ac (cC (.int 0)) (Ac (cC (.int 5)) (Ac (cC (.int 12)) Aq))))) Aq)))) (cgN 9))
  (Az (Cm (cOp Av (Hv (Ac (cC (.int 9)) (Ac (cC (.int 2)) (Ac (cC (.int 3)) Aq)))) (cF Aj (Ac (Ad 0) (Ac (cC (.int 3)) Aq)))) (cgN 10))
  (Az (Cm (Hv Aq) (cgN 11))
  (Az (Oa (Fd (cF Ga (Ac (Ad 0) (Ac (Ad 3) (Ac (cF Gu (Ac (Ad 0) (Ac (cC (.int 0)) (Ac (cC (.int 5)) (Ac (cC (.int 12)) Aq))))) Aq))))) (cgN 12) (Az (Cm (Hv Aq) (cgN 13))
  (Az (Oa (Fd (Ad 9)) (cgN 14) (Az (Cm (cUn Cg (cLC [none,some 1,some 0] (Fd (Ad 8)) (cgN 0) Cz (Mx (Bb (Ad 1)) (cF Cr (Ac (Ad 2) Aq)) (cF Bv (Ac (Ad 2) Aq))))) (cgN 15))
  (Iw (Om (Ad 13) (Mx (Bb (cOp (Cp false) (cF Aj (Ac (Ad 0) (Ac (Ad 10) Aq))) (cC (.int 0)))) (cC (.none)) (Ad 15))))))
  (Iw (Om (Ad 11) (Fq (Ac (Ad 12) (Ac (cUn Cg (Ad 13)) Aq))))))))
  (Dc (Fq (Ac (cUn Cg (Ad 6)) (Ac (cUn Cg (Ad 7)) (Ac (cUn Cg (Ad 8)) (Ac (cUn Cg (Ad 9)) (Ac (cUn Cg (Ad 11)) Aq))))))))))))))))
def Mi:m7:=Fe 2 16 Qs
def Gd (pr:m7):Ev->SR :=
 (Az
  (cIf (Bb (cUn (Lk .list .tuple) (Ad 1))) (Az (cIf (cOr (Bb (cOp (Cp true) (cUn (Eb .list) (Ad 0)) (cUn (Eb .list) (Ad 1)))) (Bb (cOp (Cp true) (cUn (Eb .tuple) (Ad 0)) (cUn (Eb .tuple) (Ad 1))))) (Dc (cC (.bool false))) Ck)
  (Dc (T3 (cOp (Cp false) (Ja (Ad 0)) (Ja (Ad 1))) (cUn At5 (cLC [none,none] (A2t (Ad 0) (Ad 1)) (cgT 2 (Cv (cgN 0) (Cv (cgN 1) Hq))) Cz (cF pr (Ac (Ad 0) (Ac (Ad 1) Aq)))))))) Ck)
  (Az (cIf (cOr (Bb (cOp (Ez false) (Ad 1) (cC (.none)))) (Bb (cUn (Eb .str) (Ad 1)))) (Dc (T3 (cOp (Cp false) (Ad 0) (Ad 1)) (cOp (Cp false) (cUn (Eb .str) (Ad 0)) (cUn (Eb .str) (Ad 1))))) Ck)
  (Az (cIf (Bb (cUn (Eb .bool) (Ad 1))) (Dc (T3 (cUn (Eb .bool) (Ad 0)) (cOp (Cp false) (Ad 0) (Ad 1)))) Ck)
  (Dc (T3 (cUn (Eb .int) (Ad 0)) (T3 (Ar8 (cUn (Eb .bool) (Ad 0))) (cOp (Cp false) (Ad 0) (Ad 1))))))))
def Bs:Nat->List O->FR
 | 0=>fun _=>.bad
 | k+1=>Fe 2 2 (Gd (Bs k))
def Ao4:Ev->SR :=
 (Az
  (Cm (Hv (Ac (K6 [("NoHead",false),("NoColumn",false)] (Ad 0)) (Ac (K6 [("NoHead",false),("NoColumn",false)] (Ad 0)) (Ac (K6 [("NoHead",false),("NoColumn",false)] (Ad 0)) Aq)))) (cgN 1))
  (Az (Cm (cOp Cj (Ad 1) (Hv (Ac (K6 [("NoHead",false),("NoColumn",false)] (Ad 0)) (Ac (K6 [("NoHead",true),("NoColumn",false)] (Ad 0)) (Ac (K6 [("NoHead",false),("NoColumn",true)] (Ad 0)) Aq))))) (cgN 1))
  (Az (Cm (Bp6 (K6 [("NoHead",false),("NoColumn",false)] (Ad 0)) (Ar8 (K6 [("NoHead",true),("NoColumn",true)] (Ad 0)))) (cgN 2))
  (Az (cIf (cOr (Bb (Ad 2)) (Bb (cOp (Cp true) (cMt Lx S7 (Ad 1) (cC (.bool true))) (cC (.int 1))))) (Dc (cC (.str "odd"))) Ck)
  (Dc (cOp Av (Hv (cK [.str "BadColumns",.str "BadOrder",.str "BadWay",.str "NoNumber",.str "NoHead",.str "NoColumn"])) (cMt Lx Vf (Ad 1) (cC (.bool true)))))))))
def Gr:m7:=Fe 1 3 Ao4
def Ms:Ev->SR :=
 (Az
  (Cm (cC (.none)) (cgN 3))
  (Az (Au9 Cu (Ac (Ad 0) (Ac (Ad 1) (Ac (Ad 2) Aq))) 4 3 [(["NoColumn"],["NoHead"],(Cm (Hv (Ac (cF Gr (Ac (Ad 4) Aq)) (Ac (cXF ["NoColumn"] "name" (Ad 4)) Aq))) (cgN 3))),(["NoHead", "NoColumn"],[],(Cm (cF Gr (Ac (Ad 4) Aq)) (cgN 3)))])
  (Dc (cFz (Ad 3)))))
def Ec:m7:=Fe 3 5 Ms
def Lb:Ev->SR :=
 (Az
  (cIf (Bb (cOp (Jo true) (Ad 1) (cOp Av (Ad 0) (cC (.int 3))))) (Dc (cC (.str "NoHead"))) Ck)
  (Az (cIf (Bb (cOp (Jo true) (Ad 2) (cOp Av (Ad 0) (cC (.int 2))))) (Dc (Hv (Ac (cC (.str "NoColumn")) (Ac (Ad 2) Aq)))) Ck)
  (Az (Bf3 3 4 (Ac (A0f (cOp Av (Ad 0) (cC (.int 3))) (Ad 1)) (Ac (A0f (cOp Av (Ad 0) (cC (.int 2))) (Ad 2)) Aq)))
  (Az (Cm (Hv Aq) (cgN 5))
  (Az (Oa (A7s (cOp Av (Ad 0) (cC (.int 4)))) (cgT 2 (Cv (cgN 6) (Cv (cgN 7) Hq))) (Az (Cm (cOp Av (cOp Av (Ad 7) (cC (.int 1))) (Ad 3)) (cgN 8))
  (Iw (Om (Ad 5) (Fq (Ac (cUn Um (cOp (Ez true) (Ad 8) (cC (.none)))) (Ac (Mx (Bb (cOp (Ez false) (Ad 8) (cC (.none)))) (Fq (Ac (cC (.int 0)) (Ac (cC (.int 0)) (Ac (cC (.str "")) Aq)))) (cF Gq (Ac (cOp Av (Ad 8) (Ad 4)) Aq))) (Ac (Ad 6) Aq))))))))
  (Dc (cOp Cj (cSl Og (Ad 0) cON (cOS (cC (.int 4)))) (Fq (Ac (cUn Cg (cLC [none,some 0] (Fd (cUn Oj (Ad 5))) (cgN 0) Cz (cOp Av (cOp Av (Ad 1) (cC (.int 4))) (cOp Av (Ad 0) (cC (.int 2)))))) Aq)))))))))
def Ft:m7:=Fe 3 9 Lb
def Ng:Ev->SR :=
 (Az
  (Cm (cF Mi (Ac (Ad 0) (Ac (cOp (Cp false) (cF Aj (Ac (Ad 0) (Ac (cC (.int 2)) Aq))) (cC (.int 0))) Aq))) (cgN 1))
  (Az (Cm (Hv (Ac (Fq (Ac (cC (.str "nowhere")) Aq)) (Ac (Fq Aq) (Ac (Fq (Ac (cC (.none)) Aq)) (Ac (Fq (Ac (cC (.int 7)) (Ac (cC (.int 7)) Aq))) (Ac (Fq (Ac (cC (.str "a")) Aq)) Aq)))))) (cgN 2))
  (Az (Cm (cOp Cj (cOp Cj (Hv (Ac (cC (.str "nowhere")) (Ac (cC (.str "a")) (Ac (cC (.str "zz")) Aq)))) (cUn Nz (cOp Av (Ad 1) (cC (.int 0))))) (cUn Nz (cOp Av (Ad 1) (cC (.int 1))))) (cgN 3))
  (Az (Oa (Kv (cC (.int 4))) (cgN 4) (Az (Cm (cOp Av (cFz (Ad 2)) (cF Aj (Ac (Ad 0) (Ac (cC (.int 5)) Aq)))) (cgN 5))
  (Az (cIf (Ay4 (Bb (cOp (Cp true) (cOp Av (Ad 1) (cC (.int 3))) (Fq Aq))) (Bb (cOp Ap1 (cF Aj (Ac (Ad 0) (Ac (cC (.int 6)) Aq))) (cC (.int 0))))) (Cm (cOp Av (cOp Av (Ad 1) (cC (.int 3))) (cF Aj (Ac (Ad 0) (Ac (Ja (cOp Av (Ad 1) (cC (.int 3)))) Aq)))) (cgN 5)) Ck)
  (Az (Cm (cOp Av (cOp Av (Ad 1) (cC (.int 2))) (cF Aj (Ac (Ad 0) (Ac (Ja (cOp Av (Ad 1) (cC (.int 2)))) Aq)))) (cgN 6))
  (Az (cIf (Bb (cOp (Cp false) (cF Aj (Ac (Ad 0) (Ac (cC (.int 6)) Aq))) (cC (.int 0)))) (Cm (cOp Av (cFz (Ad 3)) (cF Aj (Ac (Ad 0) (Ac (Ja (cFz (Ad 3))) Aq)))) (cgN 6)) Ck)
  (Az (Cm (cUn Ul (Ad 1)) (cgN 7))
  (Az (Cm (cF Ec (Ac (Ad 1) (Ac (Ad 5) (Ac (Ad 6) Aq)))) (cgN 8))
  (Az (cIf (cOr (A6v (Bb (cF (Bs 8) (Ac (cFz (Ad 8)) (Ac (cFz (cF Ft (Ac (Ad 1) (Ac (Ad 5) (Ac (Ad 6) Aq))))) Aq))))) (Bb (cOp (Cp true) (cUn Ul (Ad 1)) (Ad 7)))) (Dc (cC (.bool false))) Ck)
  (cIf (Ay4 (Bb (cUn (Eb .tuple) (cFz (Ad 8)))) (Bb (cOp (Cp false) (cF Aj (Ac (Ad 0) (Ac (cC (.int 2)) Aq))) (cC (.int 0))))) (Cm (cF Gb (Ac (cFz (Ad 8)) (Ac (cOp Av (Hv (Ac (cC (.str "falling")) (Ac (cC (.str "seen")) Aq))) (cF Aj (Ac (Ad 0) (Ac (cC (.int 2)) Aq)))) Aq))) (cgN 1)) Ck)))))))))
  (Dc (cC (.bool true)))))))
def J6:m7:=Fe 1 9 Ng
def S9:Ev->SR :=
 (cIf (A6v (Bb (cFO J6 (cF Lr (Ac (Ad 0) (Ac (Ad 1) Aq))) Aq))) (Dc (cC (.bool false))) Ck)
def Aj0:Ev->SR :=
 (Az
  (Oa (Kv (cOp Yu (cC (.int 3)) (cOp Ye (Ja (Ad 0)) (cC (.int 12))))) (cgN 1) S9)
  (Dc (cC (.bool true))))
def An3:m7:=Fe 1 2 Aj0
local macro_rules | `(tactic| wp_walk using $ts,*)=>`(tactic| simp only [Az,Cm,cgN,cgT,Cv,Hq,Ad,cC,cOp,cUn,Ja,cF,cFO,cFz,dB,Lp,Oq,slots,pairsOf,ndB,Gn,Aq,Ac,cK,nrm,Dl,Vj,rdP,O.dat,O.flag,O.bor,frz,frzs,Fq,Hv,cIf,Bb,Cz,Ay4,cOr,A6v,T3,Bp6,Ar8,Mx,Dc,Iw,Ck,T5,Om,slL,U7,Ar5,Bf3,A9f,cSl,cON,cOS,Kv,cIn,R.bind_ok,R.toS_ok,Fe,A0r,resolve,G6,Zh,U.opI,U.Vv,Ap1,Bt7,M4,X5,Ph,Q7,Q5,Q4,Bz4,List.getElem?_cons_zero,c7,List.set_cons_zero,List.set_cons_succ,aQ,List.map_nil,aG,bU,List.replicate,List.cons_append,dC,bQ,List.contains_nil,du,eN,Option.bind_some,Option.join_some,Option.isSome_some,cA,if_false,Bool.not_true,Bool.not_false,Bool.and_true,Bool.true_and,Bool.and_false,Bool.false_and,Bool.or_true,Bool.or_false,Bool.true_or,Bool.false_or,dD,List.dropLast,List.any_nil,List.flatMap_nil,ite_true,ite_false,decide_true,decide_false,reduceCtorEq,B1c,B1u,B3k,B3o,B1f,Br0,Bv0,Bp7,U.Ay0,aX,Nat.reduceAdd,Nat.reduceSub,Nat.reduceLeDiff,Nat.reduceLT,Nat.reduceEqDiff,Int.reduceAdd,Int.reduceSub,Int.reduceNeg,Int.reduceLT,Int.reduceLE,Int.reducePow,Int.reduceToNat,Int.reduceMul,and_self,and_true,bC,fQ,dX,Q6,Af0,xIf,Xa,Ry,Au4,Wi,Af9,Vj,scO,A5d,Ah6,Au9,Bc4,Tt,unX,cXF,K6,$[$ts:term],*])
def Bx (n:Nat)(ds:w5):Prop:=∃x y z:Int,ds=[.int x,.int y,.int z]/\0<=x/\0<=y/\y<2 ^ 62/\0<=z/\z<=n
theorem Bx.mono   (h:Bx n ds) (l:n<=m):Bx m ds:=by
 obtain⟨x,y,z,e,b,c,a,d,f⟩:=h
 exact⟨x,y,z,e,b,c,a,d,by (first|lia|omega)⟩
theorem mod_lt {x m:Int}(h:0<m):0<=x % m/\x % m<m:=⟨Int.emod_nonneg _ (by (first|lia|omega)),Int.emod_lt_of_pos _ h⟩
theorem A8k  (h:-(2 ^ 64)<i/\i<2 ^ 64):Ui i j=true:=by
 unfold Ui;grind
theorem Yr  (h:-(2 ^ 64)<j/\j<2 ^ 64):Ui i j=true:=by
 unfold Ui;grind
theorem Am8  (h:0<j):A3h i j=true:=az h
theorem B2a  (h:0<j/\j<1073741824):At4 i j=true:=by
 unfold At4;grind
theorem B1y:Af2 10 18=true:=by rfl
theorem Bm5:Af2 10 12=true:=by rfl
theorem Bm8:Af2 10 11=true:=by rfl
theorem Bu    (hb:Bx n ds) (hn:n<2 ^ 40) (a:0<m) (h1:m<16000000) :
 ∃r ds',Bx (n+1) ds'/\0<=r/\r<m/\Aj [.ls true ds,.im (.int m)]=.ret (.im (.int r)) [.ls true ds',.im (.int m)]:=by
 obtain⟨x,y,z,rfl,d,e,b,g,z1⟩:=hb
 by_cases c:0<x
 ·refine⟨x % m,[.int (x / m),.int y,.int z],⟨_,_,_,rfl,Int.ediv_nonneg d (by (first|lia|omega)),e,b,g,by (first|lia|omega)⟩,(mod_lt a).1,(mod_lt a).2,?_⟩
  wp_walk using Aj,Qp,Av,az c,Am8 a,B2a ⟨a,(by (first|lia|omega):m<1073741824)⟩
 ·have h:=mod_lt (x:=(y+48271*(z+1))*(39373+(z+1))) (m:=2147483647) (by decide)
  generalize e1:(y+48271*(z+1))*(39373+(z+1)) % 2147483647=once at h
  have g2:=mod_lt (x:=once) (m:=40009) (by decide)
  have f:=mod_lt (x:=(once+(z+1))*(once % 40009+7)) (m:=2147483629) (by decide)
  generalize e2:(once+(z+1))*(once % 40009+7) % 2147483629=twice at f
  refine⟨(twice*48271+once) % 2147483587 / 64 % m,[.int x,.int y,.int (z+1)],⟨_,_,_,rfl,d,e,b,by (first|lia|omega),by (first|lia|omega)⟩,(mod_lt a).1,(mod_lt a).2,?_⟩
  wp_walk using Aj,Qp,Av,Kf,Cj,aK c,Am8 a,B2a (i:=(twice*48271+once) % 2147483587) (j:=64) ⟨by decide,by decide⟩,A8k (i:=48271) (j:=z+1) ⟨by decide,by decide⟩,Yr (i:=y+48271*(z+1)) (j:=39373+(z+1)) ⟨by (first|lia|omega),by (first|lia|omega)⟩,Am8 (i:=(y+48271*(z+1))*(39373+(z+1))) (j:=2147483647) (by decide),e1,Am8 (i:=once) (j:=40009) (by decide),Yr (i:=once+(z+1)) (j:=once % 40009+7) ⟨by (first|lia|omega),by (first|lia|omega)⟩,Am8 (i:=(once+(z+1))*(once % 40009+7)) (j:=2147483629) (by decide),e2,Yr (i:=twice)  _,Am8  (j:=2147483587) (by decide)
theorem Ah5  {k:Nat}:∃i:Int,Fg [.sc ns,.im (.int k)]=.ret (.im (.int i)) [.sc ns,.im (.int k)]:=by
 by_cases c:k<ns.length
 ·refine⟨ns[k],?_⟩
  have e:atI ns (k:Int)=some ns[k]:=Iu (bR c)
  wp_walk using Fg,Jv,O3,By,PyData.canLay0,PyData.depth,Ig,az (show (k:Int)<ns.length by (first|lia|omega)),e,aD
 ·refine⟨0,?_⟩
  wp_walk using Fg,Jv,O3,By,PyData.canLay0,PyData.depth,Ig,aK (show ¬ (k:Int)<ns.length by (first|lia|omega)),aD
theorem By4  {k:Nat}(hk:k<=63):∃ds,Bx 0 ds/\Lr [.sc ns,.im (.int k)]=.ret (.ls false ds) [.sc ns,.im (.int k)]:=by
 obtain⟨i,e⟩:=Ah5 (ns:=ns) (k:=k)
 have a:(0:Int)<=(if i<0 then -i else i):=by grind
 have c:=mod_lt (x:=i) (m:=2305843009213693951) (by decide)
 generalize ea:(if i<0 then -i else i)=ab at a
 have b:(0:Int)<=(if decide ((1000000000000000000:Int)<=ab)=true then 1 else 0)/\(if decide ((1000000000000000000:Int)<=ab)=true then (1:Int) else 0)<=1:=by (first|lia|omega)
 generalize eo:(if decide ((1000000000000000000:Int)<=ab)=true then (1:Int) else 0)=on at b
 refine⟨[.int (ab*on),.int (i % 2305843009213693951+39373*(k:Int)+17),.int 0],⟨_,_,_,rfl,Int.mul_nonneg a b.1,by (first|lia|omega),by (first|lia|omega),by (first|lia|omega),by (first|lia|omega)⟩,?_⟩
 wp_walk using Lr,Ac4,e,As3,ea,Um,Kf,Cj,eo,B1y,Am8 (i:=i) (j:=2305843009213693951) (by decide),Yr  (j:=on) ⟨by (first|lia|omega),by (first|lia|omega)⟩,A8k   _
theorem Au0    (hb:Bx n ds) (hn:n<2 ^ 39) (j:0<=l) (h1:l<=7) (h2:l<=f) (t:f<=m) (o:7<=m) (p:m<1000) :
 ∃r ds',Bx (n+2) ds'/\l<=r/\r<=m/\Gu [.ls true ds,.im (.int l),.im (.int f),.im (.int m)]=.ret (.im (.int r)) [.ls true ds',.im (.int l),.im (.int f),.im (.int m)]:=by
 obtain⟨r,s,g,u,k,e⟩:=Bu (m:=8) hb (by (first|lia|omega)) (by decide) (by decide)
 by_cases c:r=0
 ·subst c
  obtain⟨q,a,d,h,i,b⟩:=Bu (m:=m-6) g (by (first|lia|omega)) (by (first|lia|omega)) (by (first|lia|omega))
  refine⟨7+q,a,d,by (first|lia|omega),by (first|lia|omega),?_⟩
  wp_walk using Gu,Qe,e,b,Cp,By,PyData.canLay0,PyData.depth,PyData.eqv,Cj,aD,bK
 ·obtain⟨q,a,d,h,i,b⟩:=Bu (m:=f-l+1) g (by (first|lia|omega)) (by (first|lia|omega)) (by (first|lia|omega))
  refine⟨l+q,a,d,by (first|lia|omega),by (first|lia|omega),?_⟩
  wp_walk using Gu,Qe,e,b,Cp,By,PyData.canLay0,PyData.depth,PyData.eqv,Cj,aD,cB.mpr c
theorem A0i   (hb:Bx n ds) (hn:n<2 ^ 39):∃(i:Int) (ds':w5),Bx (n+2) ds'/\VB (.int i)/\Cr [.ls true ds]=.ret (.im (.int i)) [.ls true ds']:=by
 obtain⟨r,d1,k,r0,r1,j⟩:=Bu (m:=9) hb (by (first|lia|omega)) (by decide) (by decide)
 by_cases c:r=0
 ·subst c
  obtain⟨q,b,e,f,h,a⟩:=Bu (m:=4) k (by (first|lia|omega)) (by decide) (by decide)
  obtain⟨d,s,g,_⟩:=Qh (l:=[PyData.int 999999999999,.int (-999999999999),.int 100000000000,.int 0]) (r:=q) f h
  have p:∃i:Int,d=.int i/\VB (.int i):=by
   simp only[au,bf,bB]at g
   rcases g with rfl | rfl | rfl | rfl <;> exact⟨_,rfl,by decide⟩
  obtain⟨i,rfl,o⟩:=p
  refine⟨i,b,e,o,?_⟩
  wp_walk using Cr,K9,j,a,Cp,By,PyData.canLay0,PyData.depth,PyData.eqv,Cj,aD,bK,Bm5,Bm8,Av,s
 ·obtain⟨q,b,e,f,h,a⟩:=Bu (m:=25) k (by (first|lia|omega)) (by decide) (by decide)
  refine⟨q-7,b,e,?_,?_⟩
  ·show (decide (-1000000000000<=q-7)&&decide _)=true
   rw[az (by (first|lia|omega)),az (by (first|lia|omega))];rfl
  wp_walk using Cr,K9,j,a,Cp,By,PyData.canLay0,PyData.depth,PyData.eqv,Cj,aD,cB.mpr c
theorem Ab2   (hb:Bx n ds) (hn:n<2 ^ 39):∃(v:Vl) (ds':w5),Bx (n+2) ds'/\VB v/\Bv [.ls true ds]=.ret (.im v.d) [.ls true ds']:=by
 obtain⟨r,t,k,r0,r1,j⟩:=Bu (m:=9) hb (by (first|lia|omega)) (by decide) (by decide)
 by_cases c4:r<4
 ·obtain⟨q,e,g,h,i,c⟩:=Bu (m:=13) k (by (first|lia|omega)) (by decide) (by decide)
  refine⟨.int (q-3),e,g,?_,?_⟩
  ·show (decide (-1000000000000<=q-3)&&decide (q-3<=1000000000000))=true
   rw[az (by (first|lia|omega)),az (by (first|lia|omega))];rfl
  wp_walk using Bv,Hs,j,c,O3,Ig,By,PyData.canLay0,PyData.depth,aD,az c4,Vl.d
 by_cases c5:r=4
 ·subst c5
  obtain⟨q,e,g,h,i,c⟩:=Bu (m:=4) k (by (first|lia|omega)) (by decide) (by decide)
  obtain⟨d,s,f,_⟩:=Qh (l:=[PyData.int 999999999999,.int (-100000000000),.int 100,.int 10]) (r:=q) h i
  have p:∃v:Vl,d=v.d/\VB v:=by
   simp only[au,bf,bB]at f
   rcases f with rfl | rfl | rfl | rfl <;> exact⟨.int _,rfl,by decide⟩
  obtain⟨v,rfl,o⟩:=p
  refine⟨v,e,g,o,?_⟩
  wp_walk using Bv,Hs,j,c,O3,Ig,Cp,By,PyData.canLay0,PyData.depth,PyData.eqv,aD,aK c4,bK,Bm5,Bm8,Av,s
 by_cases c6:r=5
 ·subst c6
  refine⟨.non,t,k.mono (by (first|lia|omega)),rfl,?_⟩
  wp_walk using Bv,Hs,j,O3,Ig,Cp,By,PyData.canLay0,PyData.depth,PyData.eqv,aD,aK c4,bK,cB.mpr c5,Vl.d
 ·obtain⟨q,e,g,h,i,c⟩:=Bu (m:=15) k (by (first|lia|omega)) (by decide) (by decide)
  obtain⟨d,s,f,_⟩:=Qh (l:=[PyData.str "",.str "a",.str "b",.str "B",.str "10",.str "9",.str "-",.str "a b",.str "it's",.str "\\",.str "/",.str "_",.str ":",.str "None",.str "ab"]) (r:=q) h i
  have p:∃v:Vl,d=v.d/\VB v:=by
   simp only[au,bf,bB]at f
   rcases f with rfl | rfl | rfl | rfl | rfl | rfl | rfl | rfl | rfl | rfl | rfl | rfl | rfl | rfl | rfl <;> exact⟨.str _,rfl,by decide⟩
  obtain⟨v,rfl,o⟩:=p
  refine⟨v,e,g,o,?_⟩
  wp_walk using Bv,Hs,j,c,O3,Ig,Cp,By,PyData.canLay0,PyData.depth,PyData.eqv,aD,aK c4,cB.mpr c5,cB.mpr c6,Av,s
def names12:v4:=[Str.ofString "b",Str.ofString "a",Str.ofString "year",Str.ofString "z",Str.ofString "ab",Str.ofString "month",Str.ofString "aa",Str.ofString "quantity",Str.ofString "c",Str.ofString "town",Str.ofString "zz",Str.ofString "ba"]
theorem Bc7 {m:Nat}(h:m<=1000):(m:Int)<=16000000/\-16000000<=(m:Int):=by (first|lia|omega)
theorem upN {n k a b c:Nat}(hn:n<a)(hk:k<=b)(h:a+b<=c):n+k<c:=aA (dJ hn hk) h
theorem Bf2 {n:Nat}{r:Int}(a:0<=r)(h1:r<n):ixN n r=some r.toNat:=by
 unfold ixN;simp_all
theorem Ml   : (Jm lo n).length=n:=by unfold Jm;simp_all
theorem Mp    (h:(Jm lo n)[k]?=some d):d=.int (lo+k)/\k<n:=by
 unfold Jm at h
 grind
theorem Wq {α β:Type}(f:α->β):∀(l:List α) (j:Nat),(l.map f).eraseIdx j=(l.eraseIdx j).map f
 | [],j=>rfl
 | a::l,0=>rfl
 | a::l,j+1=>by rw[aQ,fX,fX,aQ,Wq f l j]
theorem Ua {α:Type}:∀(l:List α) {j:Nat}(h:j<l.length),(l[j]::l.eraseIdx j).Perm l
 | a::l,0,h=>List.Perm.refl _
 | a::l,j+1,h=>by
  rw[fX,List.getElem_cons_succ]
  exact(List.Perm.swap a _ _).trans (List.Perm.cons a (Ua l (by simpa using h)))
structure Names (ns:v4):Prop where
 nd:ns.Nodup
 sub:∀x∈ns,x∈names12
theorem A5p    (hb:Bx n ds) (hn:n<2 ^ 38) (hm:m<=12) :
 ∃b ds',b.length=m/\Names b/\Bx (n+m) ds'/\Gp [.ls true ds,.im (.int m)]=.ret (.ls false (b.map PyData.str)) [.ls true ds',.im (.int m)]:=by
 have i:=Mr (g:=cgN 0) (ft:=Cz) (fe:=U7 (Ad 1) (cF Aj (Ac (Ad 2) (Ac (Ja (Ad 1)) Aq)))) (items:=Jm 0 m) (acc:=[]) (n:=0) (c:=[none,some (.ls true (names12.map PyData.str)),some (.ls true ds)])
  (P:=fun k f c=>∃a h t b,c=[t,some (.ls true (a.map PyData.str)),some (.ls true h)]/\Bx (n+k) h/\f=b.map PyData.str/\(b++a).Perm names12/\b.length=k)
  ⟨names12,ds,none,[],rfl,hb,rfl,List.Perm.refl _,rfl⟩ (fun k d f c C w=>by
   rw[aX]at w ⊢;obtain⟨a,h,t,b,rfl,o,rfl,j,l⟩:=w;obtain⟨rfl,hk⟩:=Mp C
   have ll:a.length+k=12:=by have:=j.length_eq;rw[bD,l]at this;have e:names12.length=12:=rfl;(first|lia|omega)
   obtain⟨r,v,A,z,y,B⟩:=Bu (m:=(a.length:Int)) o (by (first|lia|omega)) (by (first|lia|omega)) (by (first|lia|omega))
   have u:r.toNat<a.length:=by (first|lia|omega)
   have q:(a.map PyData.str)[r.toNat]?=some (.str a[r.toNat]):=by simp[u]
   have p:ixN a.length r=some r.toNat:=Bf2 z y
   refine⟨some (.str a[r.toNat]),[some (.im (.int (0+(k:Int)))),some (.ls true ((a.eraseIdx r.toNat).map PyData.str)),some (.ls true v)],?_,a.eraseIdx r.toNat,v,_,b++[a[r.toNat]],rfl,A.mono (by (first|lia|omega)),by simp,?_,by simp[l]⟩
   ·wp_walk using Ku,ao,B,p,q,Wq,show a.length<=16000000 by (first|lia|omega)
   ·rw[dH]
    exact(List.Perm.append_left b (Ua a u)).trans j)
 obtain⟨f,cI,e,a,h,t,b,rfl,o,rfl,j,l⟩:=i;rw[aX,Ml]at o l
 have D:(b++a).Nodup:=j.nodup_iff.mpr (by decide)
 refine⟨b,h,l,⟨(List.nodup_append.mp D).1,fun x q=>j.mem_iff.mp (bz _ q)⟩,o,?_⟩
 have s:cLC [none,some 2,some 0] (Kv (Ad 1)) (cgN 0) Cz (U7 (Ad 1) (cF Aj (Ac (Ad 2) (Ac (Ja (Ad 1)) Aq)))) [some (.ls true ds),some (.im (.int m)),some (.ls false (names12.map PyData.str))]=.ok (.o (.ls false (b.map PyData.str))) [some (.ls true h),some (.im (.int m)),some (.ls false (a.map PyData.str))] :=
  Jt (ds:=Jm 0 m) (c1:=[some (.ls true ds),some (.im (.int m)),some (.ls false (names12.map PyData.str))]) (by wp_walk using Bc7  (aj hm (by decide)),cP) (by rw[Ml];exact aj hm (by decide)) e (by wp_walk using bC)
 unfold Gp T6;simp only[names12,aQ,List.map_nil]at s
 wp_walk using s
theorem Ax9 {k:Nat}{vs:j0}  (h:v∉vs) (a:vs.Nodup):(vs++[v]).Nodup:=by
 grind
theorem Bk0    (hb:Bx n ds) (hn:n<2 ^ 38) (hm:m<=1000) :
 ∃a ds',VBs a/\a.Nodup/\a.length<=m/\(0<m->a≠[])/\Bx (n+2*m) ds'/\Hi [.ls true ds,.im (.int m)]=.ret (.ls false (a.map Vl.d)) [.ls true ds',.im (.int m)]:=by
 have i:=G5 (g:=cgN 3) (body:=Az (Cm (cF Bv (Ac (Ad 0) Aq)) (cgN 4)) (cIf (Bb (cOp (Jo true) (Ad 4) (Ad 2))) (Iw (Om (Ad 2) (Ad 4))) Ck)) (items:=Jm 0 m) (n:=0) (c:=[some (.ls true ds),some (.im (.int m)),some (.ls false []),none,none])
  (P:=fun k c=>∃j a x y,c=[some (.ls true j),some (.im (.int m)),some (.ls false (a.map Vl.d)),x,y]/\Bx (n+2*k) j/\VBs a/\a.Nodup/\a.length<=k/\(0<k->a≠[]))
  ⟨ds,[],none,none,rfl,hb,(fun v b=>by cases b),dF,ak _,fun h=>absurd h (by decide)⟩ (fun k d c B s=>by
   rw[aX]at s ⊢;obtain⟨j,a,x,y,rfl,p,b,o,l,f⟩:=s;obtain⟨rfl,w⟩:=Mp B
   obtain⟨v,q,t,r,A⟩:=Ab2 p (upN hn (bV 2 (aj (bM w) hm)) (by decide))
   by_cases c:v∈a
   ·refine⟨[some (.ls true q),some (.im (.int m)),some (.ls false (a.map Vl.d)),some (.im (.int (0+(k:Int)))),some (.im v.d)],.inl ?_,q,a,_,_,rfl,t,b,o,Nat.le_succ_of_le l,fun _ z=>by rw[z]at c;cases c⟩
    wp_walk using A,A5q r b,az c
   ·refine⟨[some (.ls true q),some (.im (.int m)),some (.ls false ((a++[v]).map Vl.d)),some (.im (.int (0+(k:Int)))),some (.im v.d)],.inl ?_,q,a++[v],_,_,rfl,t,VBs.app b (fun u C=>by rw[aP.mp C];exact r),Ax9 (k:=k) c o,by rw[bD,cN];(first|lia|omega),fun _=>by simp⟩
    wp_walk using A,A5q r b,aK c,ao,show a.length<16000000 from bc l (aA w (aj hm (by decide))),cj)
 obtain⟨c',e,j,a,x,y,rfl,p,b,o,l,f⟩:=i;rw[aX,Ml]at p l f
 refine⟨a,j,b,o,l,f,p,?_⟩
 unfold Hi V4
 wp_walk using Oa,Bc7 hm,cP,e
theorem A6q {n:Nat}{ds:w5}{vs:j0}{w:Nat}(hb:Bx n ds)(hn:n<2 ^ 38)(hw:w<=1000)(hv:VBs vs)(j:vs≠[])(hl:vs.length<=1000) :
 ∃
  a f t,a.length=w/\VBs a/\(∀u∈a,u∈vs)/\Bx (n+w) f /\
  Dt (cgN 0) Cz (cOp Av (Ad 1) (cF Aj (Ac (Ad 2) (Ac (Ja (Ad 1)) Aq)))) (Jm 0 w) [] [none,some (.ls true (vs.map Vl.d)),some (.ls true ds)]=.ok (a.map Vl.d) [t,some (.ls true (vs.map Vl.d)),some (.ls true f)]:=by
 have i:=Mr (g:=cgN 0) (ft:=Cz) (fe:=cOp Av (Ad 1) (cF Aj (Ac (Ad 2) (Ac (Ja (Ad 1)) Aq)))) (items:=Jm 0 w) (acc:=[]) (n:=0) (c:=[none,some (.ls true (vs.map Vl.d)),some (.ls true ds)])
  (P:=fun k b c=>∃f t a,c=[t,some (.ls true (vs.map Vl.d)),some (.ls true f)]/\Bx (n+k) f/\b=a.map Vl.d/\a.length=k/\VBs a/\∀u∈a,u∈vs)
  ⟨ds,none,[],rfl,hb,rfl,rfl,(fun v hv=>by cases hv),fun v hv=>by cases hv⟩ (fun k d b c B s=>by
   rw[aX]at s ⊢;obtain⟨f,t,a,rfl,p,rfl,q,y,z⟩:=s;obtain⟨rfl,o⟩:=Mp B;have C:0<vs.length:=List.length_pos_iff.mpr j
   obtain⟨r,D,E,A,r1,G⟩:=Bu (m:=(vs.length:Int)) p (upN hn (aj (bM o) hw) (by decide)) (Int.natCast_pos.mpr C) (Int.ofNat_lt.mpr (bc hl (by decide)))
   obtain⟨x,F,H,_⟩:=Qh (l:=vs.map Vl.d) (r:=r) A (by simp_all)
   obtain⟨v,I,rfl⟩:=aJ.mp H
   refine⟨some v.d,[some (.im (.int (0+k))),some _,some _],?_,D,_,a++[v],rfl,E,by simp,by grind,VBs.app y fun u h=>by grind,fun u h=>by
    grind⟩
   wp_walk using Ku,ao,G,Av,F)
 obtain⟨b,cI,e,f,t,a,rfl,p,rfl,q,y,z⟩:=i;rw[Ml]at p q
 grind
theorem Wj {n:Nat}{ds:w5}{w m:Nat}(hb:Bx n ds)(hn:n<2 ^ 37)(hw:w<=100)(hm:m<=1000) :
 ∃(f:k_) (ds':w5),f.Nodup/\(∀t∈f,t.length=w/\VBs t)/\f.length<=m/\Bx (n+12+w*m) ds'/\Ga [.ls true ds,.im (.int w),.im (.int m)]=.ret (.ls false (f.map tD)) [.ls true ds',.im (.int w),.im (.int m)]:=by
 obtain⟨i,E,F,s,H,C,Q,D⟩:=Bk0 (m:=6) hb (dW hn (by decide)) (by decide)
 have D:Hi [.ls true ds,.im (.int 6)]=.ret (.ls false (i.map Vl.d)) [.ls true E,.im (.int 6)]:=D
 have z:=G5 (g:=cgN 5) (body:=Az (Cm (cUn Cg (cLC [none,some 3,some 0] (Kv (Ad 1)) (cgN 0) Cz (cOp Av (Ad 1) (cF Aj (Ac (Ad 2) (Ac (Ja (Ad 1)) Aq)))))) (cgN 6)) (cIf (Bb (cOp (Jo true) (Ad 6) (Ad 4))) (Iw (Om (Ad 4) (Ad 6))) Ck)) (items:=Jm 0 m) (n:=0)
  (c:=[some (.ls true E),some (.im (.int w)),some (.im (.int m)),some (.ls false (i.map Vl.d)),some (.ls false []),none,none])
  (P:=fun k c=>∃l f x y,c=[some (.ls true l),some (.im (.int w)),some (.im (.int m)),some (.ls false (i.map Vl.d)),some (.ls false (f.map tD)),x,y]/\Bx (n+12+w*k) l/\f.Nodup/\(∀t∈f,t.length=w/\VBs t)/\f.length<=k)
  ⟨E,[],none,none,rfl,Q,dF,(fun v F=>by cases F),ak _⟩ (fun k d c N J=>by
   rw[aX]at J ⊢;obtain⟨l,f,x,y,rfl,B,s,o,q⟩:=J;obtain⟨rfl,L⟩:=Mp N;have r:w*k<=100*1000:=Nat.mul_le_mul hw (bM (aA L hm))
   obtain⟨j,p,t,R,G,_,S,O⟩:=A6q (w:=w) (vs:=i) B (upN (upN hn (ak 12) (show 2 ^ 37+12<=2 ^ 37+100 by decide)) r (by decide)) (aj hw (by decide)) F (C (by decide)) (aj H (by decide))
   have K:cLC [none,some 3,some 0] (Kv (Ad 1)) (cgN 0) Cz (cOp Av (Ad 1) (cF Aj (Ac (Ad 2) (Ac (Ja (Ad 1)) Aq)))) [some (.ls true l),some (.im (.int w)),some (.im (.int m)),some (.ls false (i.map Vl.d)),some (.ls false (f.map tD)),some (.im (.int (0+(k:Int)))),y]=.ok (.o (.ls false (j.map Vl.d))) [some (.ls true p),some (.im (.int w)),some (.im (.int m)),some (.ls false (i.map Vl.d)),some (.ls false (f.map tD)),some (.im (.int (0+(k:Int)))),y] :=
    Jt (ds:=Jm 0 w) (c1:=[some (.ls true l),some (.im (.int w)),some (.im (.int m)),some (.ls false (i.map Vl.d)),some (.ls false (f.map tD)),some (.im (.int (0+(k:Int)))),y]) (by wp_walk using Bc7 (m:=w) (aj hw (by decide)),cP) (by rw[Ml];(first|lia|omega)) O (by wp_walk using bC)
   have A:Bx (n+12+w*(k+1)) p:=S.mono (dm (cG _ _ _));have M:PyData.tuple (j.map Vl.d)=tD j:=rfl
   by_cases c:j∈f
   ·refine⟨[some (.ls true p),some (.im (.int w)),some (.im (.int m)),some (.ls false (i.map Vl.d)),some (.ls false (f.map tD)),some (.im (.int (0+(k:Int)))),some (.im (tD j))],.inl ?_,p,f,_,_,rfl,A,s,o,Nat.le_succ_of_le q⟩
    wp_walk using K,Cg,M,A3q G (fun u I=>(o u I).2),az c
   ·refine⟨[some (.ls true p),some (.im (.int w)),some (.im (.int m)),some (.ls false (i.map Vl.d)),some (.ls false ((f++[j]).map tD)),some (.im (.int (0+(k:Int)))),some (.im (tD j))],.inl ?_,p,f++[j],_,_,rfl,A,?_,fun t h=>?_,by rw[bD,cN];exact dU q⟩
    ·wp_walk using K,Cg,M,A3q G (fun u I=>(o u I).2),aK c,ao,show f.length<16000000 from bc q (aA L (aj hm (by decide))),cj
    ·rw[List.nodup_append]
     exact⟨s,by simp,fun a T b hb e=>by rw[aP.mp hb]at e;exact c (e▸T)⟩
    ·rcases bx.mp h with h | h
     ·exact o t h
     ·rw[aP.mp h];exact⟨R,G⟩)
 obtain⟨c',e,l,f,x,y,rfl,B,s,o,q⟩:=z;rw[aX,Ml]at B q
 refine⟨f,l,s,o,q,B,?_⟩
 unfold Ga Qv
 wp_walk using D,Oa,Bc7 hm,cP,e
structure Wd where
 key:v4
 names:v4
 vals:v4
 heads:k_
 rows:List (List Vl×List (Option (j0)))
def nD (ns:v4):t_:=.tuple (ns.map PyData.str)
def En:Option (j0)->t_
 | none=>.none
 | some c=>tD c
def Ds (r:List Vl×List (Option (j0))):t_:=.tuple [tD r.1,.tuple (r.2.map En)]
def Wd.ps (w:Wd):w5:=[nD w.key,nD w.names,nD w.vals,.tuple (w.heads.map tD),.tuple (w.rows.map Ds)]
def Wd.d (w:Wd):t_:=.tuple w.ps
def Np (n:Nat)(c:Option (j0)):Prop:=∀vs,c=some vs->vs.length=n/\VBs vs
structure Ae9 (k h v:Nat) (r:List Vl×List (Option (j0))):Prop where
 plen:r.1.length=k
 part:VBs r.1
 clen:r.2.length=h
 cells:∀c∈r.2,Np v c
structure Wd.Ok (w:Wd):Prop where
 nms:Names (w.key++w.names++w.vals)
 klen:w.key.length<=2
 nlen:w.names.length<=2
 vlen:w.vals.length<=5
 vpos:1<=w.vals.length
 heads:∀h∈w.heads,h.length=w.names.length/\VBs h
 hnd:w.heads.Nodup
 hlen:w.heads.length<=12
 rows:∀r∈w.rows,Ae9 w.key.length w.heads.length w.vals.length r
 rnd:(w.rows.map (·.1)).Nodup
 rlen:w.rows.length<=12
def Wd.Num (w:Wd):Prop:=∀r∈w.rows,∀c∈r.2,∀vs,c=some vs->∀v∈vs,∃i,v=Vl.int i
theorem Bt0  {b:Nat}:cutD ds none (some (b:Int))=ds.take b:=by
 unfold cutD;rw[HT.A5v,HT.Yg,List.drop_zero]
 simp_all
theorem A5w {ds:w5}{a b:Nat}(h:a<=b)(hb:b<=ds.length):cutD ds (some (a:Int)) (some (b:Int))=(ds.drop a).take (b-a):=by
 unfold cutD;rw[HT.Yg,HT.Yg,cY hb,cY (aj h hb)]
theorem A9z {n:Nat}{ds:w5}{items:w5}{num:Bool}(hb:Bx n ds)(hn:n<2 ^ 38)(hl:items.length<=1000) :
 ∃
  a f t,a.length=items.length/\VBs a/\(num=true->∀u∈a,∃i,u=Vl.int i)/\Bx (n+2*items.length) f /\
  Dt (cgN 0) Cz (Mx (Bb (Ad 1)) (cF Cr (Ac (Ad 2) Aq)) (cF Bv (Ac (Ad 2) Aq))) items [] [none,some (.im (.bool num)),some (.ls true ds)]=.ok (a.map Vl.d) [t,some (.im (.bool num)),some (.ls true f)]:=by
 have p:=Mr (g:=cgN 0) (ft:=Cz) (fe:=Mx (Bb (Ad 1)) (cF Cr (Ac (Ad 2) Aq)) (cF Bv (Ac (Ad 2) Aq))) (items:=items) (acc:=[]) (n:=0) (c:=[none,some (.im (.bool num)),some (.ls true ds)])
  (P:=fun k e c=>∃f t a,c=[t,some (.im (.bool num)),some (.ls true f)]/\k<=items.length/\Bx (n+2*k) f/\e=a.map Vl.d/\a.length=k/\VBs a/\(num=true->∀u∈a,∃i,u=Vl.int i))
  ⟨ds,none,[],rfl,aD _,hb,rfl,rfl,(fun v o=>by cases o),fun _ v o=>by cases o⟩ (fun k d e c hd s=>by
   rw[aX]at s ⊢;obtain⟨f,t,a,rfl,x,q,rfl,r,w,hs⟩:=s
   have b:k<items.length:=by
    grind
   cases num with
   | true =>
    obtain⟨i,j,m,y,l⟩:=A0i q (upN hn (bV 2 (aj (bM b) hl)) (by decide))
    refine⟨some (.int i),[some (.im d),some (.im (.bool true)),some (.ls true j)],?_,j,_,a++[.int i],rfl,b,m,by simp[Vl.d],by simp[r],VBs.app w fun u h=>by grind,fun _ u h=>by
     grind⟩
    wp_walk using l
   | false =>
    obtain⟨v,j,m,y,l⟩:=Ab2 q (upN hn (bV 2 (aj (bM b) hl)) (by decide))
    refine⟨some v.d,[some (.im d),some _,some _],?_,j,_,a++[v],rfl,b,m,by simp,by simp[r],VBs.app w fun u h=>by grind,fun z=>nomatch z⟩
    wp_walk using l)
 grind
def isL (o:O)(ds:w5):Prop:=o=.ls false ds\/o=.im (.list ds)
theorem Bg8 {n:Nat}{ds:w5}{num:Bool}{s2 s3 s4 s5 s6 s7 o8 o9 s11 s12:m_}{often:Int}{vals:w5}{heads:k_}(hb:Bx n ds)(hn:n<2 ^ 37)(L:0<often)(h1:often<1000)(hv:vals.length<=5)(E:heads.length<=12){x14 x15:m_}
 (Q:∃o,o8=some o/\isL o vals) :
 ∃
  (a:List (Option (j0))) (l:w5) (o8' j b:m_),a.length=heads.length/\(∀c∈a,Np vals.length c)/\(num=true->∀c∈a,∀p,c=some p->∀v∈p,∃i,v=Vl.int i)/\Bx (n+11*heads.length) l/\(∃o,o8'=some o/\isL o vals) /\
  forL (cgN 14) (Az (Cm (cUn Cg (cLC [none,some 1,some 0] (Fd (Ad 8)) (cgN 0) Cz (Mx (Bb (Ad 1)) (cF Cr (Ac (Ad 2) Aq)) (cF Bv (Ac (Ad 2) Aq))))) (cgN 15))
   (Iw (Om (Ad 13) (Mx (Bb (cOp (Cp false) (cF Aj (Ac (Ad 0) (Ac (Ad 10) Aq))) (cC (.int 0)))) (cC (.none)) (Ad 15))))) (heads.map tD)
   [some (.ls true ds),some (.im (.bool num)),s2,s3,s4,s5,s6,s7,o8,o9,some (.im (.int often)),s11,s12,some (.ls false []),x14,x15] =
  .nx [some (.ls true l),some (.im (.bool num)),s2,s3,s4,s5,s6,s7,o8',o9,some (.im (.int often)),s11,s12,some (.ls false (a.map En)),j,b]:=by
 have y:=G5 (g:=cgN 14) (body:=Az (Cm (cUn Cg (cLC [none,some 1,some 0] (Fd (Ad 8)) (cgN 0) Cz (Mx (Bb (Ad 1)) (cF Cr (Ac (Ad 2) Aq)) (cF Bv (Ac (Ad 2) Aq))))) (cgN 15))
  (Iw (Om (Ad 13) (Mx (Bb (cOp (Cp false) (cF Aj (Ac (Ad 0) (Ac (Ad 10) Aq))) (cC (.int 0)))) (cC (.none)) (Ad 15))))) (items:=heads.map tD) (n:=0)
  (c:=[some (.ls true ds),some (.im (.bool num)),s2,s3,s4,s5,s6,s7,o8,o9,some (.im (.int often)),s11,s12,some (.ls false []),x14,x15])
  (P:=fun k c=>∃l C j b a,c=[some (.ls true l),some (.im (.bool num)),s2,s3,s4,s5,s6,s7,C,o9,some (.im (.int often)),s11,s12,some (.ls false (a.map En)),j,b]/\k<=heads.length/\Bx (n+11*k) l/\(∃o,C=some o/\isL o vals) /\
   a.length=k/\(∀c∈a,Np vals.length c)/\(num=true->∀c∈a,∀p,c=some p->∀v∈p,∃i,v=Vl.int i))
  ⟨ds,o8,_,_,[],rfl,aD _,hb,Q,rfl,(fun c s=>by cases s),fun _ c s=>by cases s⟩ (fun k d c K J=>by
   rw[aX]at J ⊢;obtain⟨l,C,j,b,a,rfl,S,D,⟨o,rfl,F⟩,u,s,f⟩:=J
   have x:k<heads.length:=by
    rcases aW k heads.length with q | q
    ·exact q
    ·rw[cR (by rw[ao];exact q)]at K;cases K
   obtain⟨w,V,t,U,W,M,N,R⟩:=A9z (items:=vals) (num:=num) D (upN hn (bV 11 (aj (bM x) E)) (by decide)) (aj hv (by decide))
   have G:cLC [none,some 1,some 0] (Fd (Ad 8)) (cgN 0) Cz (Mx (Bb (Ad 1)) (cF Cr (Ac (Ad 2) Aq)) (cF Bv (Ac (Ad 2) Aq)))
    [some (.ls true l),some (.im (.bool num)),s2,s3,s4,s5,s6,s7,some o,o9,some (.im (.int often)),s11,s12,some (.ls false (a.map En)),some (.im d),b] =
    .ok (.o (.ls false (w.map Vl.d))) [some (.ls true V),some (.im (.bool num)),s2,s3,s4,s5,s6,s7,some (.im (.list vals)),o9,some (.im (.int often)),s11,s12,some (.ls false (a.map En)),some (.im d),b]:=by
    refine Jt (ds:=vals) (c1:=[some (.ls true l),some (.im (.bool num)),s2,s3,s4,s5,s6,s7,some (.im (.list vals)),o9,some (.im (.int often)),s11,s12,some (.ls false (a.map En)),some (.im d),b]) ?_ (aj hv (by decide)) R (by wp_walk using bC)
    rcases F with rfl | rfl <;> wp_walk using Fd
   obtain⟨r,A,T,r0,r1,I⟩:=Bu (m:=often) N (upN (upN hn (bV 11 (aj (bM x) E)) (show 2 ^ 37+11*12<=2 ^ 38 by decide)) (bV 2 hv) (by decide)) L (Int.lt_trans h1 (by decide))
   have H:PyData.tuple (w.map Vl.d)=tD w:=rfl;have B:Bx (n+11*(k+1)) A:=T.mono (bI (dU (bV 2 hv)) (n+11*k))
   by_cases c:r=0
   ·subst c
    refine⟨[some (.ls true A),some (.im (.bool num)),s2,s3,s4,s5,s6,s7,some (.im (.list vals)),o9,some (.im (.int often)),s11,s12,some (.ls false ((a++[none]).map En)),some (.im d),some (.im (tD w))],.inl ?_,A,_,_,_,a++[none],rfl,x,B,⟨_,rfl,.inr rfl⟩,by simp[u],fun c h=>?_,fun z c h p e=>?_⟩
    ·wp_walk using G,Cg,H,I,Cp,By,PyData.canLay0,PyData.depth,PyData.eqv,aD,bK,ao,show a.length<16000000 from u▸aA x (aj E (by decide)),cj,En
    ·rcases bx.mp h with h | h
     ·exact s c h
     ·rw[aP.mp h];exact fun p e=>nomatch e
    ·rcases bx.mp h with h | h
     ·exact f z c h p e
     ·rw[aP.mp h]at e;cases e
   ·refine⟨[some (.ls true A),some (.im (.bool num)),s2,s3,s4,s5,s6,s7,some (.im (.list vals)),o9,some (.im (.int often)),s11,s12,some (.ls false ((a++[some w]).map En)),some (.im d),some (.im (tD w))],.inl ?_,A,_,_,_,a++[some _],rfl,x,B,⟨_,rfl,.inr rfl⟩,by simp[u],fun c h=>?_,fun z c h p e=>?_⟩
    ·wp_walk using G,Cg,H,I,Cp,By,PyData.canLay0,PyData.depth,PyData.eqv,aD,cB.mpr c,ao,show a.length<16000000 from u▸aA x (aj E (by decide)),cj,En
    ·rcases bx.mp h with h | h
     ·exact s c h
     ·rw[aP.mp h];exact fun p e=>by cases e;exact⟨U,W⟩
    ·rcases bx.mp h with h | h
     ·exact f z c h _ e
     ·rw[aP.mp h]at e;cases e;exact M z)
 obtain⟨c',e,l,C,j,b,a,rfl,_,D,F,u,s,f⟩:=y;rw[aX,ao]at D u;exact⟨a,l,C,j,b,u,s,f,D,F,e⟩
abbrev A6a:Ev->SR:=Az (Cm (cUn Cg (cLC [none,some 1,some 0] (Fd (Ad 8)) (cgN 0) Cz (Mx (Bb (Ad 1)) (cF Cr (Ac (Ad 2) Aq)) (cF Bv (Ac (Ad 2) Aq))))) (cgN 15))
 (Iw (Om (Ad 13) (Mx (Bb (cOp (Cp false) (cF Aj (Ac (Ad 0) (Ac (Ad 10) Aq))) (cC (.int 0)))) (cC (.none)) (Ad 15))))
abbrev Tw:Ev->SR:=Az (Cm (Hv Aq) (cgN 13)) (Az (Oa (Fd (Ad 9)) (cgN 14) A6a) (Iw (Om (Ad 11) (Fq (Ac (Ad 12) (Ac (cUn Cg (Ad 13)) Aq))))))
theorem A9a {n:Nat}{ds:w5}{num:Bool}{s2 s3 s4 s5 s6 s7 o8 o9:m_}{often:Int}{vals:w5}{heads parts:k_}(hb:Bx n ds)(hn:n<2 ^ 36)(h0:0<often)(h1:often<1000)(hv:vals.length<=5)(hh:heads.length<=12)(hp:parts.length<=12)
 (h8:∃o,o8=some o/\isL o vals) (h9:∃o,o9=some o/\isL o (heads.map tD)) {x12 x13 x14 x15:m_} {kl:Nat} (hpk:∀t∈parts,t.length=kl/\VBs t) :
 ∃
  (rows:List (List Vl×List (Option (j0)))) (d1:w5) (p8 p9 y12 y13 y14 y15:m_),rows.map (·.1)=parts/\(∀r∈rows,Ae9 kl heads.length vals.length r)/\(num=true->∀r∈rows,∀c∈r.2,∀vs,c=some vs->∀v∈vs,∃i,v=Vl.int i)/\Bx (n+132*parts.length) d1/\(∃o,p8=some o/\isL o vals)/\(∃o,p9=some o/\isL o (heads.map tD)) /\
  forL (cgN 12) Tw (parts.map tD) [some (.ls true ds),some (.im (.bool num)),s2,s3,s4,s5,s6,s7,o8,o9,some (.im (.int often)),some (.ls false []),x12,x13,x14,x15] =
  .nx [some (.ls true d1),some (.im (.bool num)),s2,s3,s4,s5,s6,s7,p8,p9,some (.im (.int often)),some (.ls false (rows.map Ds)),y12,y13,y14,y15]:=by
 have loop:=G5 (g:=cgN 12) (body:=Tw) (items:=parts.map tD) (n:=0) (c:=[some (.ls true ds),some (.im (.bool num)),s2,s3,s4,s5,s6,s7,o8,o9,some (.im (.int often)),some (.ls false []),x12,x13,x14,x15])
  (P:=fun k c=>∃d1 p8 p9 y12 y13 y14 y15 rows,c=[some (.ls true d1),some (.im (.bool num)),s2,s3,s4,s5,s6,s7,p8,p9,some (.im (.int often)),some (.ls false (rows.map Ds)),y12,y13,y14,y15]/\k<=parts.length/\Bx (n+132*k) d1/\(∃o,p8=some o/\isL o vals)/\(∃o,p9=some o/\isL o (heads.map tD)) /\
   rows.map (·.1)=parts.take k/\(∀r∈rows,Ae9 kl heads.length vals.length r)/\(num=true->∀r∈rows,∀c∈r.2,∀vs,c=some vs->∀v∈vs,∃i,v=Vl.int i))
  ⟨ds,o8,o9,_,_,_,_,[],rfl,aD _,hb,h8,h9,rfl,(fun r hr=>by cases hr),fun _ r hr=>by cases hr⟩ (fun k d c hd hP=>by
   rw[aX]at hP ⊢;obtain⟨d1,p8,p9,y12,y13,y14,y15,rows,rfl,hk0,b1,h8,⟨o,rfl,ho⟩,hr,hro,hnum⟩:=hP;obtain⟨t,ht,e⟩:=Fp hd;subst e;have hk:k<parts.length:=(bG.mp ht).1
   obtain⟨cells,d2,q8,z14,z15,cl,cc,cn,b2,g8,e2⟩:=Bg8 (num:=num) (s2:=s2) (s3:=s3) (s4:=s4) (s5:=s5) (s6:=s6) (s7:=s7) (o8:=p8) (o9:=some (.im (.list (heads.map tD)))) (s11:=some (.ls false (rows.map Ds))) (s12:=some (.im (tD t))) (x14:=y14) (x15:=y15) (heads:=heads) b1 (by (first|lia|omega)) h0 h1 hv hh h8
   have rl:rows.length=k:=by have:=bO List.length hr;rw[ao,cz]at this;exact this.trans (cY hk0)
   refine⟨[some (.ls true d2),some (.im (.bool num)),s2,s3,s4,s5,s6,s7,q8,some (.im (.list (heads.map tD))),some (.im (.int often)),some (.ls false ((rows++[(t,cells)]).map Ds)),some (.im (tD t)),some (.ls false (cells.map En)),z14,z15],.inl ?_,d2,q8,_,_,_,_,_,rows++[(t,cells)],rfl,hk,b2.mono (by (first|lia|omega)),g8,⟨_,rfl,.inr rfl⟩,?_,fun r h=>?_,fun z r h=>?_⟩
   ·have en:(rows.map Ds).length<16000000:=by rw[ao,rl];exact aA hk (aj hp (by decide))
    rcases ho with rfl | rfl <;> wp_walk using Tw,Oa,Fd,e2,Cg,en,cj,Ds
   ·rw[cj,hr,aQ,List.map_nil,List.take_succ,ht];rfl
   ·rcases bx.mp h with h | h
    ·exact hro r h
    ·rw[aP.mp h]
     have:=hpk t (bA ht);exact⟨this.1,this.2,cl,cc⟩
   ·rcases bx.mp h with h | h
    ·exact hnum z r h
    ·rw[aP.mp h];exact cn z)
 obtain⟨c',e,d1,p8,p9,y12,y13,y14,y15,rows,rfl,_,b1,h8,h9,hr,hro,hnum⟩:=loop;rw[aX,ao]at b1 hr;rw[fO]at hr;exact⟨rows,d1,p8,p9,y12,y13,y14,y15,hr,hro,hnum,b1,h8,h9,e⟩
theorem Kh {ns:v4}{a:Nat}:(ns.map PyData.str).take a=(ns.take a).map PyData.str:=List.map_take.symm
theorem Pb {ns:v4}{a:Nat}:(ns.map PyData.str).drop a=(ns.drop a).map PyData.str:=List.map_drop.symm
theorem Names.sublist {a b:v4}(h:Names b)(s:a.Sublist b):Names a:=⟨h.nd.sublist s,fun x c=>h.sub x (s.subset c)⟩
theorem A5n {o:O}{ds:w5}{i:Nat}{c:Ev}(h:isL o ds)(hc:c[i]?=some (some o)):cUn Cg (Ad i) c=.ok (.o (.im (.tuple ds))) c:=by
 rcases h with rfl | rfl <;> wp_walk using hc,Cg
theorem B4d {b d e f g:m6}{c:Ev}{h a j k i:t_}(h1:b c=.ok (.o (.im h)) c)(h2:d c=.ok (.o (.im a)) c)(m:e c=.ok (.o (.im j)) c)(n:f c=.ok (.o (.im k)) c)(l:g c=.ok (.o (.im i)) c) :
 Dc (Fq (Ac b (Ac d (Ac e (Ac f (Ac g Aq)))))) c=.rt (.o (.im (.tuple [h,a,j,k,i]))) c:=by
 wp_walk using h1,h2,m,n,l
theorem Bd8 {n:Nat}{ds:w5}{num:Bool}(hb:Bx n ds)(hn:n<2 ^ 35) :
 ∃(W:Wd) (ds':w5),W.Ok/\(num=true->W.Num)/\Bx (n+3000) ds'/\Mi [.ls true ds,.im (.bool num)]=.ret (.im W.d) [.ls true ds',.im (.bool num)]:=by
 have u:∀k,k<=5000->n+k<2 ^ 40:=fun k F=>aA (dJ hn F) (by decide)
 have K:∀k,k<=5000->n+k<2 ^ 39:=fun k F=>aA (dJ hn F) (by decide)
 have J:∀k,k<=5000->n+k<2 ^ 37:=fun k F=>aA (dJ hn F) (by decide)
 have V:∀k,k<=5000->n+k<2 ^ 36:=fun k F=>aA (dJ hn F) (by decide)
 obtain⟨o,d1,L,nms,b1,X⟩:=A5p (m:=9) hb (dW hn (by decide)) (by decide)
 have X:Gp [.ls true ds,.im (.int 9)]=.ret (.ls false (o.map PyData.str)) [.ls true d1,.im (.int 9)]:=X
 obtain⟨a,d2,b2,a0,a1,e2⟩:=Bu (m:=3) b1 (u 9 (by decide)) (by decide) (by decide)
 obtain⟨b,d3,b3,bb0,T,e3⟩:=Bu (m:=3) b2 (u 10 (by decide)) (by decide) (by decide)
 obtain⟨c,d4,b4,c0,c1,e4⟩:=Bu (m:=2) b3 (u 11 (by decide)) (by decide) (by decide)
 obtain⟨q,d5,b5,q0,q1,e5⟩:=Bu (m:=8) b4 (u 12 (by decide)) (by decide) (by decide)
 obtain⟨a,rfl⟩:=cX a0;obtain⟨b,rfl⟩:=cX bb0;have G:a<=2:=eX.mp (Int.le_of_lt_add_one a1);have y:b<=2:=eX.mp (Int.le_of_lt_add_one T)
 have hc:∃(v:Nat) (E:w5),1<=v/\v<=5/\Bx (n+14) E /\
  cIf (Bb (cOp (Cp false) (cF Aj (Ac (Ad 0) (Ac (cC (.int 8)) Aq))) (cC (.int 0)))) (Cm (cOp Cj (cC (.int 3)) (cF Aj (Ac (Ad 0) (Ac (cC (.int 3)) Aq)))) (cgN 5)) Ck
   [some (.ls true d4),some (.im (.bool num)),some (.ls false (o.map PyData.str)),some (.im (.int a)),some (.im (.int b)),some (.im (.int (1+c))),none,none,none,none,none,none,none,none,none,none] =
  .nx [some (.ls true E),some (.im (.bool num)),some (.ls false (o.map PyData.str)),some (.im (.int a)),some (.im (.int b)),some (.im (.int (v:Int))),none,none,none,none,none,none,none,none,none,none]:=by
  by_cases z:q=0
  ·subst z
   obtain⟨k,E,Z,k0,k1,e6⟩:=Bu (m:=3) b5 (u 13 (by decide)) (by decide) (by decide)
   refine⟨(3+k).toNat,E,by (first|lia|omega),by (first|lia|omega),Z.mono (ak _),?_⟩
   wp_walk using e5,e6,Cp,By,PyData.canLay0,PyData.depth,PyData.eqv,aD,bK,Cj,Int.toNat_of_nonneg (show 0<=3+k by (first|lia|omega))
  ·refine⟨(1+c).toNat,d5,by (first|lia|omega),by (first|lia|omega),b5.mono (cL _),?_⟩
   wp_walk using e5,Cp,By,PyData.canLay0,PyData.depth,PyData.eqv,aD,cB.mpr z,Int.toNat_of_nonneg (show 0<=1+c by (first|lia|omega))
 obtain⟨v,E,v1,v5,Z,e6⟩:=hc
 obtain⟨S,d7,b7,m10,m11,e7⟩:=Au0 (l:=0) (f:=5) (m:=12) Z (K 14 (by decide)) (by decide) (by decide) (by decide) (by decide) (by decide) (by decide)
 obtain⟨S,rfl⟩:=cX m10;have D:S<=12:=eX.mp m11
 obtain⟨d,d8,hnd,hh,hl,b8,e8⟩:=Wj (w:=b) (m:=S) b7 (J 16 (by decide)) (aj y (by decide)) (aj D (by decide))
 obtain⟨f,d9,b9,f0,f1,e9⟩:=Bu (m:=3) (b8.mono (m:=n+52) (bI (show b*S<=24 from Nat.mul_le_mul y D) (n+28))) (u 52 (by decide)) (by decide) (by decide)
 obtain⟨fo,hfo,M,_⟩:=Qh (l:=[PyData.int 9,.int 2,.int 3]) (r:=f) f0 f1
 have hof:∃i:Int,fo=.int i/\0<i/\i<1000:=by
  simp only[au,bf,bB]at M
  rcases M with rfl | rfl | rfl <;> exact⟨_,rfl,by decide,by decide⟩
 obtain⟨i,rfl,U,of1⟩:=hof
 obtain⟨R,d10,b10,m20,m21,Y⟩:=Au0 (l:=0) (f:=5) (m:=12) b9 (K 53 (by decide)) (by decide) (by decide) (by decide) (by decide) (by decide) (by decide)
 obtain⟨R,rfl⟩:=cX m20;have B:R<=12:=eX.mp m21
 obtain⟨s,d11,pnd,hp,pl,b11,e11⟩:=Wj (w:=a) (m:=R) b10 (J 55 (by decide)) (aj G (by decide)) (aj B (by decide))
 have x:s.length<=12:=aj pl B;have A:d.length<=12:=aj hl D;have I:a+b<=4:=Nat.add_le_add G y;have O:a+b+v<=9:=Nat.add_le_add I v5
 let j:=o.take a
 let g:=(o.drop a).take b
 let e:=(o.drop (a+b)).take v
 have kl:j.length=a:=by show (o.take a).length=a;rw[cz,L];exact cY (aj G (by decide))
 have ol:g.length=b:=by show ((o.drop a).take b).length=b;rw[cz,dR,L];exact cY (Nat.le_sub_of_add_le (aj (Nat.add_le_add y G) (by decide)))
 have vl:e.length=v:=by show ((o.drop (a+b)).take v).length=v;rw[cz,dR,L];exact cY (Nat.le_sub_of_add_le (Nat.add_comm v (a+b)▸O))
 have C:j++g++e=o.take (a+b+v):=by
  show o.take a++(o.drop a).take b++(o.drop (a+b)).take v=_
  rw[<- List.take_add,<- List.take_add]
 have c1:cutD (o.map PyData.str) none (some (a:Int))=j.map PyData.str:=by rw[Bt0,Kh]
 have c2:cutD (o.map PyData.str) (some (a:Int)) (some ((a:Int)+(b:Int)))=g.map PyData.str:=by
  rw[<- Int.natCast_add,A5w (bL _ _) (by rw[ao,L];exact aj I (by decide)),Pb,Kh,Nat.add_sub_cancel_left]
 have c3:cutD (o.map PyData.str) (some ((a:Int)+(b:Int))) (some ((a:Int)+(b:Int)+(v:Int)))=e.map PyData.str:=by
  rw[<- Int.natCast_add,<- Int.natCast_add,A5w (bL _ _) (by rw[ao,L];exact O),Pb,Kh,Nat.add_sub_cancel_left]
 obtain⟨t,N,p8,p9,y12,y13,y14,y15,hr,hro,P,b12,⟨o8,rfl,g8⟩,⟨o9,rfl,g9⟩,e12⟩:=A9a (num:=num) (s2:=some (.ls false (o.map PyData.str))) (s3:=some (.im (.int a))) (s4:=some (.im (.int b))) (s5:=some (.im (.int v))) (s6:=some (.im (.list (j.map PyData.str)))) (s7:=some (.im (.list (g.map PyData.str)))) (o8:=some (.ls false (e.map PyData.str))) (o9:=some (.ls false (d.map tD))) (often:=i) (vals:=e.map PyData.str) (heads:=d) (parts:=s) (b11.mono (m:=n+91) (bI (show a*R<=24 from Nat.mul_le_mul G B) (n+67))) (V 91 (by decide)) U of1 (by rw[ao,vl];exact v5) A x ⟨_,rfl,.inl rfl⟩ ⟨_,rfl,.inl rfl⟩ (x12:=none) (x13:=none) (x14:=none) (x15:=none) (kl:=a) hp
 have Q:Names (j++g++e):=by rw[C];exact nms.sublist (List.take_sublist _ _)
 refine⟨⟨j,g,e,d,t⟩,N,⟨Q,by rw[kl];exact G,by rw[ol];exact y,by rw[vl];exact v5,by rw[vl];exact v1,fun h H=>⟨by rw[ol];exact(hh h H).1,(hh h H).2⟩,hnd,A,fun r h=>?_,by show (t.map (·.1)).Nodup;rw[hr];exact pnd,?_⟩,P,b12.mono (aj (bI (bV 132 x) (n+91)) (bI (show 91+132*12<=3000 by decide) n)),?_⟩
 ·have:=hro r h
  rw[ao]at this
  show Ae9 j.length d.length e.length r
  rw[kl];exact this
 ·show t.length<=12
  have:=bO List.length hr;rw[ao]at this;exact aj (dm this) x
 refine Sh (p:=.o (.im (Wd.d ⟨j,g,e,d,t⟩))) (c:=[some (.ls true N),some (.im (.bool num)),some (.ls false (o.map PyData.str)),some (.im (.int a)),some (.im (.int b)),some (.im (.int v)),some (.im (.list (j.map PyData.str))),some (.im (.list (g.map PyData.str))),some o8,some o9,some (.im (.int i)),some (.ls false (t.map Ds)),y12,y13,y14,y15]) ?_ rfl (by wp_walk using bC)
 show Qs [some (.ls true ds),some (.im (.bool num)),none,none,none,none,none,none,none,none,none,none,none,none,none,none]=_
 unfold Qs
 refine (Bp (c':=[some (.ls true d1),some (.im (.bool num)),some (.ls false (o.map PyData.str)),none,none,none,none,none,none,none,none,none,none,none,none,none]) (by wp_walk using X)).trans ?_
 refine (Bp (c':=[some (.ls true d4),some (.im (.bool num)),some (.ls false (o.map PyData.str)),some (.im (.int a)),some (.im (.int b)),some (.im (.int (1+c))),none,none,none,none,none,none,none,none,none,none]) (by wp_walk using e2,e3,e4,Cj)).trans ?_
 refine (Bp e6).trans ?_
 refine (Bp (c':=[some (.ls true E),some (.im (.bool num)),some (.ls false (o.map PyData.str)),some (.im (.int a)),some (.im (.int b)),some (.im (.int v)),some (.im (.list (j.map PyData.str))),some (.im (.list (g.map PyData.str))),none,none,none,none,none,none,none,none]) (by wp_walk using Og,Cj,c1,c2)).trans ?_
 refine (Bp (c':=[some (.ls true E),some (.im (.bool num)),some (.ls false (o.map PyData.str)),some (.im (.int a)),some (.im (.int b)),some (.im (.int v)),some (.im (.list (j.map PyData.str))),some (.im (.list (g.map PyData.str))),some (.ls false (e.map PyData.str)),none,none,none,none,none,none,none]) (by wp_walk using Og,Cj,c3)).trans ?_
 refine (Bp (c':=[some (.ls true d8),some (.im (.bool num)),some (.ls false (o.map PyData.str)),some (.im (.int a)),some (.im (.int b)),some (.im (.int v)),some (.im (.list (j.map PyData.str))),some (.im (.list (g.map PyData.str))),some (.ls false (e.map PyData.str)),some (.ls false (d.map tD)),none,none,none,none,none,none]) (by wp_walk using e7,e8)).trans ?_
 refine (Bp (c':=[some (.ls true d9),some (.im (.bool num)),some (.ls false (o.map PyData.str)),some (.im (.int a)),some (.im (.int b)),some (.im (.int v)),some (.im (.list (j.map PyData.str))),some (.im (.list (g.map PyData.str))),some (.ls false (e.map PyData.str)),some (.ls false (d.map tD)),some (.im (.int i)),none,none,none,none,none]) (by wp_walk using e9,Av,hfo)).trans ?_
 refine (Bp (c':=[some (.ls true d9),some (.im (.bool num)),some (.ls false (o.map PyData.str)),some (.im (.int a)),some (.im (.int b)),some (.im (.int v)),some (.im (.list (j.map PyData.str))),some (.im (.list (g.map PyData.str))),some (.ls false (e.map PyData.str)),some (.ls false (d.map tD)),some (.im (.int i)),some (.ls false []),none,none,none,none]) (by wp_walk using bC)).trans ?_
 refine (Bp ((Su (ds:=s.map tD) (c1:=[some (.ls true d11),some (.im (.bool num)),some (.ls false (o.map PyData.str)),some (.im (.int a)),some (.im (.int b)),some (.im (.int v)),some (.im (.list (j.map PyData.str))),some (.im (.list (g.map PyData.str))),some (.ls false (e.map PyData.str)),some (.ls false (d.map tD)),some (.im (.int i)),some (.ls false []),none,none,none,none]) (by wp_walk using Fd,Y,e11)).trans e12)).trans ?_
 exact B4d (A5n (.inr rfl) rfl) (A5n (.inr rfl) rfl) (A5n g8 rfl) (A5n g9 rfl) (A5n (.inl rfl) rfl)
theorem At7 (i:Int):PyData.eqv (.int i) (.int i)=true:=by show (i==i)=true;simp
theorem Z3  : (List.replicate n true).all id=true:=by simp
theorem Lf:∀n:Nat,boolsOf (List.replicate n (PyData.bool true))=some (List.replicate n true)
 | 0=>rfl
 | n+1=>by rw[List.replicate_succ,List.replicate_succ];show (boolsOf (List.replicate n (PyData.bool true))).map (true::·)=_;rw[Lf n];rfl
theorem Ks   (ha:By a=true) (hb:By b=true):Cp neg a b=some (.im (.bool (if neg then !PyData.eqv a b else PyData.eqv a b))):=by unfold Cp;grind
theorem Bd6   (h:x∈Ol ds ds):∃d∈ds,x=.tuple [d,d]:=by
 obtain⟨⟨a,b⟩,f,c⟩:=aJ.mp h;obtain⟨i,g,e⟩:=List.getElem_of_mem f
 grind
theorem Xw {d:t_}:∀{ds:w5},d∈ds->d.depth<=PyData.depthAll ds
 | a::r,h=>by
  show d.depth<=max a.depth (PyData.depthAll r)
  rcases au.mp h with rfl | h
  ·exact Nat.le_max_left _ _
  ·exact aj (Xw h) (Nat.le_max_right _ _)
theorem Zt {d:t_}:∀{ds:w5},d∈ds->PyData.canLayAll0 ds=true->d.canLay0=true
 | a::r,h,l=>by
  obtain⟨l1,l2⟩:=aq.mp (show (a.canLay0&&PyData.canLayAll0 r)=true from l)
  rcases au.mp h with rfl | h
  ·exact l1
  ·exact Zt h l2
def Short:Nat->t_->Prop
 | 0,_=>True
 | n+1,.list ds=>ds.length<=16000000/\∀d∈ds,Short n d
 | n+1,.tuple ds=>ds.length<=16000000/\∀d∈ds,Short n d
 | _+1,_=>True
theorem Ap9:∀ds:w5,2*ds.length<=Hu ds
 | []=>ak _
 | d::r=>by have:=Ap9 r;show 2*(r.length+1)<=wt d+2+Hu r;(first|lia|omega)
theorem Al6 {d:t_}:∀{ds:w5},d∈ds->wt d<=Hu ds
 | a::r,h=>by
  show wt d<=wt a+2+Hu r
  rcases au.mp h with rfl | h
  ·exact aj (bL _ 2) (bL _ _)
  ·exact aj (Al6 h) (Nat.le_add_left _ _)
theorem Vi:∀(n:Nat) (d:t_),wt d<=16000000->Short n d
 | 0,d,h=>trivial
 | n+1,.list ds,h=>by
  have h:Hu ds<=16000000:=aj (bL _ 4) h
  exact⟨aj (aj (Nat.le_mul_of_pos_left _ (by decide)) (Ap9 ds)) h,fun d hd=>Vi n d (aj (Al6 hd) h)⟩
 | n+1,.tuple ds,h=>by
  have h:Hu ds<=16000000:=aj (bL _ 4) h
  exact⟨aj (aj (Nat.le_mul_of_pos_left _ (by decide)) (Ap9 ds)) h,fun d hd=>Vi n d (aj (Al6 hd) h)⟩
 | n+1,.none,h=>trivial
 | n+1,.bool _,h=>trivial
 | n+1,.int _,h=>trivial
 | n+1,.str _,h=>trivial
 | n+1,.dict _,h=>trivial
theorem X4:∀(n:Nat) (d:t_),d.depth<n->n<=40->d.canLay0=true->Short n d->Bs n [.im d,.im d]=.ret (.im (.bool true)) [.im d,.im d]
 | 0,d,h,_,_,_=>absurd h (Nat.not_lt_zero _)
 | n+1,d,h,hn,hl,hs=>by
  have fb:∀b:Bool,By (.bool b)=true:=fun b=>rfl
  have fl:By d=true:=by unfold By;rw[hl,az (show d.depth<=40 from aj (Nat.le_of_lt_succ h) (cM hn))];rfl
  have fi:∀k:Nat,By (.int (k:Int))=true:=fun k=>rfl
  have loop:∀ds:w5,(∀e∈ds,Bs n [.im e,.im e]=.ret (.im (.bool true)) [.im e,.im e])->∃c',Dt (cgT 2 (Cv (cgN 0) (Cv (cgN 1) Hq))) Cz (cF (Bs n) (Ac (Ad 0) (Ac (Ad 1) Aq))) (Ol ds ds) [] [none,none]=.ok ((Ol ds ds).map fun _=>.bool true) c'/\∃a b,c'=[a,b]:=fun ds hds=>by
   have:=A0p (g:=cgT 2 (Cv (cgN 0) (Cv (cgN 1) Hq))) (ft:=Cz) (fe:=cF (Bs n) (Ac (Ad 0) (Ac (Ad 1) Aq))) (I:=fun c=>∃a b,c=[a,b]) (F:=fun _=>.bool true) (items:=Ol ds ds) (acc:=[]) (c:=[none,none]) ⟨none,none,rfl⟩ (fun x c hx ⟨a,b,hc⟩=>by
    subst hc;obtain⟨e,he,rfl⟩:=Bd6 hx
    refine⟨[some (.im e),some (.im e)],?_,_,_,rfl⟩
    wp_walk using hds e he)
   simpa using this
  have fin:∀ds:w5,(Ol ds ds).map (fun _=>PyData.bool true)=List.replicate ds.length (.bool true):=fun ds=>by
   rw[List.map_const'];unfold Ol;rw[ao,List.length_zip,d_]
  show Fe 2 2 (Gd (Bs n)) _=_
  cases d with
  | none=>wp_walk using Gd,Lk,Eb,Mw,Ez,Ks fl fl,Ks (fb _) (fb _),PyData.eqv,bK
  | bool b=>wp_walk using Gd,Lk,Eb,Mw,Ez,Ks fl fl,Ks (fb _) (fb _),PyData.eqv,bK
  | int i=>wp_walk using Gd,Lk,Eb,Mw,Ez,Ks fl fl,Ks (fb _) (fb _),PyData.eqv,bK
  | str x=>wp_walk using Gd,Lk,Eb,Mw,Ez,Ks fl fl,Ks (fb _) (fb _),PyData.eqv,bK
  | dict k=>cases hl
  | list ds =>
   have hd:∀e∈ds,Bs n [.im e,.im e]=.ret (.im (.bool true)) [.im e,.im e]:=fun e he=>X4 n e (bc (Xw he) (eV h)) (cM hn) (Zt he hl) (hs.2 e he)
   obtain⟨c',e1,a,b,rfl⟩:=loop ds hd;rw[fin]at e1
   have e2:cLC [none,none] (A2t (Ad 0) (Ad 1)) (cgT 2 (Cv (cgN 0) (Cv (cgN 1) Hq))) Cz (cF (Bs n) (Ac (Ad 0) (Ac (Ad 1) Aq))) [some (.im (.list ds)),some (.im (.list ds))]=.ok (.o (.ls false (List.replicate ds.length (.bool true)))) [some (.im (.list ds)),some (.im (.list ds))] :=
    Jt (ds:=Ol ds ds) (c1:=[some (.im (.list ds)),some (.im (.list ds))]) (by wp_walk using A2t,Lq) (by unfold Ol;rw[ao,List.length_zip,d_];exact hs.1) e1 rfl
   wp_walk using Gd,Lk,Eb,Mw,Ks (fb _) (fb _),Ku,Ks (fi _) (fi _),PyData.eqv,bK,e2,At5,Lf,Z3
  | tuple ds =>
   have hd:∀e∈ds,Bs n [.im e,.im e]=.ret (.im (.bool true)) [.im e,.im e]:=fun e he=>X4 n e (bc (Xw he) (eV h)) (cM hn) (Zt he hl) (hs.2 e he)
   obtain⟨c',e1,a,b,rfl⟩:=loop ds hd;rw[fin]at e1
   have e2:cLC [none,none] (A2t (Ad 0) (Ad 1)) (cgT 2 (Cv (cgN 0) (Cv (cgN 1) Hq))) Cz (cF (Bs n) (Ac (Ad 0) (Ac (Ad 1) Aq))) [some (.im (.tuple ds)),some (.im (.tuple ds))]=.ok (.o (.ls false (List.replicate ds.length (.bool true)))) [some (.im (.tuple ds)),some (.im (.tuple ds))] :=
    Jt (ds:=Ol ds ds) (c1:=[some (.im (.tuple ds)),some (.im (.tuple ds))]) (by wp_walk using A2t,Lq) (by unfold Ol;rw[ao,List.length_zip,d_];exact hs.1) e1 rfl
   wp_walk using Gd,Lk,Eb,Mw,Ks (fb _) (fb _),Ku,Ks (fi _) (fi _),PyData.eqv,bK,e2,At5,Lf,Z3
theorem Px {n:Nat}{d:t_}{k w:Nat}(h:Good d k w)(hk:k<n)(hn:n<=40)(hw:w<=16000000):Bs n [.im d,.im d]=.ret (.im (.bool true)) [.im d,.im d] :=
 X4 n d (bc h.dep hk) hn h.lay (Vi n d (aj h.wgt hw))
theorem A2k {x:Str}(h:x∈names12):Good (.str x) 0 1921:=by
 have:VB (.str x):=by
  simp only[names12,au,bf,bB]at h
  rcases h with rfl | rfl | rfl | rfl | rfl | rfl | rfl | rfl | rfl | rfl | rfl | rfl <;> decide
 exact Ej this
theorem Yx {ns:v4}{k:Nat}(h:∀x∈ns,x∈names12)(hk:ns.length<=k):Good (nD ns) 1 (1923*k+4) :=
 Good.tup (fun d a=>by obtain⟨v,b,rfl⟩:=aJ.mp a;exact A2k (h v b)) (by simp_all)
theorem Al4 {c:Option (j0)}{v:Nat}(h:Np v c)(hv:v<=5):Good (En c) 1 9619:=by
 cases c with
 | none=>exact⟨rfl,rfl,rfl,aD _,by decide⟩
 | some a=>exact(Gf (h _ rfl).2 (show a.length<=5 by rw[(h _ rfl).1];grind)).mono (ak _) (by decide)
theorem A1r {k n v:Nat}{r:List Vl×List (Option (j0))}(h:Ae9 k n v r)(hk:k<=2)(hn:n<=12)(hv:v<=5):Good (Ds r) 3 250000:=by
 have a:Good _ 2 115460:=(Gf h.part (by rw[h.plen];(first|lia|omega))).mono (by decide) (by decide)
 have b:Good _ 2 115460:=(Good.tup    (fun d e=>by obtain⟨c,f,rfl⟩:=aJ.mp e;exact Al4 (h.cells c f) hv) (by rw[ao,h.clen];(first|lia|omega))).mono (by decide) (by decide)
 have t:=Good.tup (ds:=[tD r.1,.tuple (r.2.map En)]) (n:=2) (w:=115460) (k:=2) fun d e=>by
  grind (ak _)
 exact t.mono (by decide) (by decide)
theorem Wd.good5 {w:Wd}(h:w.Ok):Good w.d 5 15500014:=by
 have f  := fun x a=>h.nms.sub x (bz _ (bz _ a))
 have g  := fun x a=>h.nms.sub x (bz _ (aC _ a))
 have a1:=(Yx f h.klen).mono (show 1<=4 by decide) (show 1923*2+4<=3100000 by decide)
 have a2:=(Yx g h.nlen).mono (show 1<=4 by decide) (show 1923*2+4<=3100000 by decide)
 have a3:=(Yx (fun x a=>h.nms.sub x (aC _ a)) h.vlen).mono (show 1<=4 by decide) (show 1923*5+4<=3100000 by decide)
 have a4:Good _ 4 3100000:=(Good.tup    (fun d b=>by obtain⟨c,e,rfl⟩:=aJ.mp b;exact Gf (h.heads c e).2 (by rw[(h.heads c e).1];exact h.nlen)) (by simpa using h.hlen)).mono (by decide) (by decide)
 have a5:Good _ 4 3100000:=(Good.tup    (fun d b=>by obtain⟨c,e,rfl⟩:=aJ.mp b;exact A1r (h.rows c e) h.klen h.hlen h.vlen) (by simpa using h.rlen)).mono (by decide) (by decide)
 have t:=Good.tup (ds:=w.ps) (n:=4) (w:=3100000)  (fun d b=>by
  simp only[Wd.ps,bf]at b
  grind) (ak _)
 assumption
theorem Wd.good {w:Wd}(h:w.Ok):Good w.d 5 16000000:=(Wd.good5 h).mono (by decide) (by decide)
def vlt:Vl->Vl->Bool
 | .non,.non=>false
 | .non,_=>true
 | .int i,.int j=>decide (i<j)
 | .int _,.str _=>true
 | .str x,.str y=>decide (x.cps.toList<y.cps.toList)
 | _,_=>false
def Ey:Vl->t_
 | .non=>.tuple [.int 0,.int 0]
 | .int i=>.tuple [.int 1,.int i]
 | .str x=>.tuple [.int 2,.str x]
def Kp:Vl->t_
 | .non=>.tuple [.int 0,.int 0,.str ""]
 | .int i=>.tuple [.int 1,.int i,.str ""]
 | .str x=>.tuple [.int 2,.int 0,.str x]
theorem Bi0   : Do (k+1) [.im v.d]=.ret (.im (Ey v)) [.im v.d]:=by
 cases v with
 | non=>rfl
 | int i=>rfl
 | str x=>trivial
theorem A7n  : Gq [.im v.d]=.ret (.im (Kp v)) [.im v.d]:=by
 cases v with
 | non=>wp_walk using Gq,Qa,Vl.d,Ez,Eb,Mw,Kp
 | int i=>wp_walk using Gq,Qa,Vl.d,Ez,Eb,Mw,Kp
 | str x=>trivial
theorem Bz5 (l:List Nat):¬ l<l:=List.lt_irrefl l
theorem A5k (a b:Vl):Ig false (Ey a) (Ey b)=some (vlt a b):=by
 cases a with
 | non=>cases b <;> rfl
 | int i=>
  cases b with
   | non=>rfl
   | int j =>
    show (if (i==j)=true then some _ else some _)=some (decide _)
    simp_all
   | str y=>rfl
 | str x=>
  cases b with
   | non=>rfl
   | int j=>rfl
   | str y =>
    show (if (x==y)=true then some _ else some _)=some (decide _)
    simp_all
theorem A0z (c:Bool)(a b:Vl):Ig c (Kp a) (Kp b)=some (if c then vlt b a else vlt a b):=by
 have d:PyData.eqv (.str "") (.str "")=true:=by decide +kernel
 cases a with
 | non=>
  cases b with
   | non =>
    show (if PyData.eqv (.str "") (.str "")=true then some false else Ig c (.str "") (.str ""))=_
    rw[if_pos d];cases c <;> rfl
   | int j=>cases c <;> rfl
   | str y=>cases c <;> rfl
 | int i=>
  cases b with
   | non=>cases c <;> rfl
   | int j =>
    show (if (i==j)=true then (if PyData.eqv (.str "") (.str _)=true then some _ else Ig c _ _) else some _)=_
    by_cases h:i=j
    ·subst h;rw[if_pos d];cases c <;> simp[vlt]
    ·rw[if_neg (by simpa using h)];cases c <;> rfl
   | str y=>cases c <;> rfl
 | str x=>
  cases b with
   | non=>cases c <;> rfl
   | int j=>cases c <;> rfl
   | str y =>
    show (if (x==y)=true then some _ else some _)=_
    by_cases h:x=y
    ·subst h;cases c <;> simp[vlt]
    ·rw[if_neg (by simpa using h)];cases c <;> rfl
theorem A0t (a b:Vl):PyData.eqv (Kp a) (Kp b)=decide (a=b):=by
 have c:PyData.eqv (.str "") (.str "")=true:=by rfl
 cases a with
 | non=>
  cases b with
   | non=>assumption
   | int j=>trivial
   | str y=>trivial
 | int i=>
  cases b with
   | non=>rfl
   | int j =>
    show (true&&i==j&&(PyData.eqv _ _&&true))=_
    grind
   | str y=>trivial
 | str x=>
  cases b with
   | non=>trivial
   | int j=>rfl
   | str y =>
    show (true&&(true&&x==y&&true))=_
    grind
theorem Bj4 {x y:Str}(h:x.cps.toList=y.cps.toList):x=y:=by
 obtain⟨a⟩:=x
 simp_all
theorem Bj1 (a:Vl):vlt a a=false:=by
 cases a with
 | non=>rfl
 | int i=>exact aK (by (first|lia|omega))
 | str x=>exact aK (Bz5 _)
theorem Bs3  (h:vlt a b=true) (k:vlt b c=true):vlt a c=true:=by
 cases a with
 | non=>
  cases b with
   | non=>grind
   | int j=>
    cases c with
     | non=>cases k
     | int l=>rfl
     | str z=>rfl
   | str y=>
    cases c with
     | non=>cases k
     | int l=>rfl
     | str z=>rfl
 | int i=>
  cases b with
   | non=>cases h
   | int j=>
    cases c with
     | non=>cases k
     | int l=>exact az (Int.lt_trans (aL h) (aL k))
     | str z=>rfl
   | str y=>
    cases c with
     | non=>cases k
     | int l=>cases k
     | str z=>rfl
 | str x=>
  cases b with
   | non=>cases h
   | int j=>cases h
   | str y=>
    cases c with
     | non=>cases k
     | int l=>cases k
     | str z=>exact az (List.lt_trans (aL h) (aL k))
theorem Be3 (a b:Vl):vlt a b=true\/a=b\/vlt b a=true:=by
 cases a with
 | non=>
  cases b with
   | non=>grind
   | int j=>exact .inl rfl
   | str y=>exact .inl rfl
 | int i=>
  cases b with
   | non=>exact .inr (.inr rfl)
   | int j =>
    rcases Int.lt_trichotomy i j with h | h | h
    ·exact .inl (az h)
    ·grind
    ·exact .inr (.inr (az h))
   | str y=>exact .inl rfl
 | str x=>
  cases b with
   | non=>exact .inr (.inr rfl)
   | int j=>exact .inr (.inr rfl)
   | str y =>
    by_cases h1:x.cps.toList<y.cps.toList
    ·exact .inl (az h1)
    ·by_cases h2:y.cps.toList<x.cps.toList
     ·exact .inr (.inr (az h2))
     ·exact .inr (.inl (by rw[Bj4 (List.le_antisymm (List.not_lt.mp h2) (List.not_lt.mp h1))]))
theorem Jp   : Cp neg (.int a) (.int b)=some (.im (.bool (if neg then !decide (a=b) else decide (a=b)))):=by
 have e:PyData.eqv (.int a) (.int b)=decide (a=b):=by
  show (a==b)=_
  grind
 unfold Cp
 rw[show By _=true from rfl,show By _=true from rfl,e]
 simp
abbrev VG (v:Vl):Prop:=Good v.d 0 1921
abbrev VGs (vs:j0):Prop:=∀v∈vs,VG v
theorem A4d   (h:VGs vs) (hk:vs.length<=k):Good (tD vs) 1 (1923*k+4) :=
 Good.tup fun d a=>by
  grind (by simp_all)
def rlt:j0->j0->Bool
 | [],[]=>false
 | [],_::_=>true
 | _::_,[]=>false
 | x::xs,y::ys=>if x=y then rlt xs ys else vlt x y
theorem O6:∀a:j0,rlt a a=false
 | []=>rfl
 | x::xs=>by rw[rlt,if_pos rfl];exact O6 xs
theorem Yz:∀{a b c:j0},rlt a b=true->rlt b c=true->rlt a c=true
 | [],[],c,h,k=>nomatch h
 | [],_::_,[],h,k=>nomatch k
 | [],_::_,_::_,h,k=>rfl
 | _::_,[],c,h,k=>nomatch h
 | _::_,_::_,[],h,k=>nomatch k
 | x::xs,y::ys,z::zs,h,k=>by
  rw[rlt]at h k ⊢
  by_cases e1:x=y
  ·subst e1
   rw[if_pos rfl]at h
   by_cases e2:x=z
   ·rw[if_pos e2]at k ⊢;exact Yz h k
   ·rw[if_neg e2]at k ⊢;exact k
  ·rw[if_neg e1]at h
   by_cases e2:y=z
   ·subst e2;rw[if_neg e1];exact h
   ·rw[if_neg e2]at k
    have q:=Bs3 h k
    rw[if_neg (fun e=>by subst e;rw[Bj1]at q;cases q)]
    exact q
theorem Yk:∀a b:j0,rlt a b=true\/a=b\/rlt b a=true
 | [],[]=>.inr (.inl rfl)
 | [],_::_=>.inl rfl
 | _::_,[]=>.inr (.inr rfl)
 | x::xs,y::ys=>by
  rw[rlt,rlt]
  by_cases e:x=y
  ·subst e
   rw[if_pos rfl,if_pos rfl]
   rcases Yk xs ys with h | h | h
   ·exact .inl h
   ·exact .inr (.inl (by rw[h]))
   ·exact .inr (.inr h)
  ·rw[if_neg e,if_neg (fun z=>e z.symm)]
   rcases Be3 x y with h | h | h
   ·exact .inl h
   ·exact absurd h e
   ·exact .inr (.inr h)
def Gh (r:j0):t_:=.tuple [.int 3,.tuple (r.map Ey)]
theorem Az8  (h:VG v):Good (Ey v) 1 3850:=by
 have q:∀a b ,VG a->VG b->Good (tD [a,b]) 1 3850:=fun a b d e=>A4d (k:=2) fun v c=>by
  grind (by simp)
 cases v with
 | non=>exact q (.int 0) (.int 0) (Ej (by rfl)) (Ej (by rfl))
 | int i=>exact q (.int 1) _ (Ej (by rfl)) h
 | str x=>exact q (.int 2) _ (Ej (by rfl)) h
theorem Tq  (h:VGs r) (hl:r.length<=30):Good (Gh r) 3 300000:=by
 have g1:Good _ 2 (3852*30+4):=Good.tup  (fun d a=>by
  obtain⟨v,b,rfl⟩:=aJ.mp a
  exact Az8 (h v b)) (by simp_all)
 refine (Good.tup (n:=2) (w:=3852*30+4) (k:=2) (fun d a=>?_) (by simp)).mono (by decide) (by decide)
 simp  at a
 rcases a with rfl | rfl
 ·exact(Ej (v:=.int 3) (by rfl)).mono (by decide) (by decide)
 simp_all
theorem Ad3 (a b:Vl):PyData.eqv (Ey a) (Ey b)=decide (a=b):=by
 have c:∀p q e d ,PyData.eqv (tD [p,q]) (tD [e,d])=decide _:=fun p q e d=>Ws _ _
 cases a with
 | non=>
  cases b with
   | non=>rfl
   | int j=>rfl
   | str y=>rfl
 | int i=>
  cases b with
   | non=>rfl
   | int j=>exact(c (.int 1) (.int i) (.int 1) (.int j)).trans (by simp)
   | str y=>rfl
 | str x=>
  cases b with
   | non=>rfl
   | int j=>rfl
   | str y=>exact(c (.int 2) (.str x) (.int 2) (.str y)).trans (by simp)
theorem W9:∀a b:j0,PyData.eqvAll (a.map Ey) (b.map Ey)=decide (a=b)
 | [],[]=>rfl
 | [],_::_=>rfl
 | _::_,[]=>rfl
 | x::xs,y::ys=>by
  show (PyData.eqv (Ey x) (Ey y)&&PyData.eqvAll (xs.map Ey) (ys.map Ey))=_
  rw[Ad3,W9 xs ys]
  by_cases h:x=y <;> by_cases k:xs=ys <;> simp[h,k]
theorem Ab4:∀a b:j0,Hg false (a.map Ey) (b.map Ey)=some (rlt a b)
 | [],[]=>rfl
 | [],_::_=>rfl
 | _::_,[]=>rfl
 | x::xs,y::ys=>by
  show (if PyData.eqv (Ey x) (Ey y)=true then Hg false (xs.map Ey) (ys.map Ey) else Ig false (Ey x) (Ey y))=some (if x=y then rlt xs ys else vlt x y)
  rw[Ad3,Ab4 xs ys,A5k]
  by_cases h:x=y
  ·rw[if_pos (az h),if_pos h]
  ·rw[if_neg (by simp[h]),if_neg h]
theorem Av2 (a b:j0):Ig false (Gh a) (Gh b)=some (rlt a b):=by
 show (if PyData.eqvAll _ _=true then some _ else Hg _ _ _)=_
 rw[W9,Ab4]
 by_cases h:a=b
 ·subst h;rw[if_pos (by simp),O6]
 simp_all
theorem U6  (hl:r.length<=30):Do 2 [.im (tD r)]=.ret (.im (Gh r)) [.im (tD r)]:=by
 obtain⟨cI,d,u,rfl⟩:=J0 (g:=cgN 0) (ft:=Cz) (fe:=cF (Do 1) (Ac (Ad 0) Aq)) (I:=fun c=>∃u,c=[u]) (f:=Vl.d) (G:=Ey) (xs:=r) (acc:=[]) (c:=[none]) ⟨none,rfl⟩
  (fun v c hv b=>by
   obtain⟨u,rfl⟩:=b
   refine⟨[some (.im v.d)],?_,_,rfl⟩
   wp_walk using Bi0 (v:=v) (k:=0))
 have a:cLC [none] (Fd (Ad 0)) (cgN 0) Cz (cF (Do 1) (Ac (Ad 0) Aq)) [some (.im (tD r))]=.ok (.o (.ls false (r.map Ey))) [some (.im (tD r))]:=by
  refine Jt (ds:=r.map Vl.d) (c1:=[some (.im (tD r))])  ?_ (by rw[ao];(first|lia|omega)) (by simpa[cIn] using d) (by wp_walk using bC)
  wp_walk using Fd,tD
 show Fe 1 1 _ _=_
 unfold tD at a ⊢
 wp_walk using Aw1,Ez,Eb,Mw,a,Cg,Gh
section
variable {α:Type}[DecidableEq α]
def fnd (x:α):List α->Nat
 | []=>0
 | y::l=>if y=x then 0 else fnd x l+1
theorem Aw0 {x:α}:∀{l:List α},x∈l->l[fnd x l]?=some x
 | y::l,h=>by
  unfold fnd
  by_cases e:y=x
  ·rw[if_pos e,e];rfl
  ·rw[if_neg e]
   rcases au.mp h with h | h
   ·exact absurd h.symm e
   ·rw[c7];exact Aw0 h
theorem X7 {x:α}  (h:x∈l):fnd x l<l.length:=(bG.mp (Aw0 h)).1
theorem Ak0 {x:α}:∀{l:List α}{i:Nat},l.Nodup->l[i]?=some x->fnd x l=i
 | y::l,0,_,h=>by
  have e:y=x:=bN h;unfold fnd;rw[if_pos e]
 | y::l,i+1,nd,h=>by
  rw[c7]at h
  have e:y≠x:=fun z=>(bJ.mp nd).1 (z▸bA h)
  unfold fnd;rw[if_neg e,Ak0 (bJ.mp nd).2 h]
def atP (d:α)(l:List α)(p:List Nat):List α:=p.map fun i=>l.getD i d
theorem A0y (d:α)(l:List α):atP d l (List.range l.length)=l:=by
 unfold atP;apply List.ext_getElem
 ·simp
 simp_all
theorem A9o {d:α}{l:List α}{p:List Nat}:atP d l p.reverse=(atP d l p).reverse:=by unfold atP;rw[List.map_reverse]
theorem Bi6 {d:α}   (h:∀i∈p,i<l.length)  (hx:x∈atP d l p):x∈l:=by
 obtain⟨i,hi,rfl⟩:=aJ.mp (show x∈p.map _ from hx)
 simp_all
theorem Io {p:List Nat}  (h:p.Perm (List.range n)):∀i∈p,i<n:=fun i a=>cZ.mp (h.mem_iff.mp a)
theorem Bz0 {d:α}{l:List α}{p:List Nat}(c:l.Nodup)(h:p.Perm (List.range l.length)):(atP d l p).Nodup:=by
 unfold atP;rw[List.nodup_iff_pairwise_ne,List.pairwise_map]
 refine List.Pairwise.imp_of_mem (fun {a b} g i f=>?_) (List.nodup_iff_pairwise_ne.mp (h.nodup_iff.mpr List.nodup_range))
 have k:=Io h a g;have j:=Io h b i;intro e;have n:=Ak0 c (bR k);have m:=Ak0 c (bR j)
 simp_all
end
theorem Ad6 {R:Nat->Nat->Prop}(anti:∀a b,R a b->R b a->False):∀{p q:List Nat},p.Perm q->p.Pairwise R->q.Pairwise R->p=q
 | [],q,h,_,_=>(List.Perm.eq_nil h.symm).symm
 | a::p,[],h,_,_=>absurd h.length_eq (by simp)
 | a::p,b::q,h,wp,wq=>by
  have e:a=b:=by
   by_cases e:a=b
   ·exact e
   ·have ha:a∈q:=(au.mp (h.mem_iff.mp (.head _))).resolve_left e
    have hb:b∈p:=(au.mp (h.symm.mem_iff.mp (.head _))).resolve_left (aB e);exact(anti a b ((eY.mp wp).1 b hb) ((eY.mp wq).1 a ha)).elim
  subst e;rw[Ad6 anti (List.Perm.cons_inv h) (eY.mp wp).2 (eY.mp wq).2]
def klt (ks:k_)(i j:Nat):Bool:=rlt (ks.getD i []) (ks.getD j [])
theorem Xj (ks:k_):PS.Ord (klt ks):=⟨fun a=>O6 _,fun a b c h k=>Yz h k,fun a b c h=>by
 rcases Yk _ _ with q | q | q
 ·exact .inl q
 ·exact .inr (by unfold klt at h ⊢;grind)
 ·exact .inr (Yz q h)⟩
theorem Bb9  (O:PS.Ord lt) (a b:Nat) (h:PS.Rr lt a b) (k:PS.Rr lt b a):False:=by
 rcases h with h | ⟨h,d⟩
 ·rcases k with k | ⟨k,c⟩
  ·have:=O.tr _ _ _ h k;rw[O.irr]at this;grind
  grind
 ·rcases k with k | ⟨k,c⟩
  ·grind
  (first|lia|omega)
theorem range_getD (ds:w5):((List.range ds.length).map fun i=>ds.getD i .none)=ds:=by
 apply List.ext_getElem
 ·simp
 simp_all
theorem Yt    (O:PS.Ord lt) (hk:ks.length=ds.length) (h:ds.length<64) (b:0<ks.length->kdOf ks=kd) (hf:∀k∈ks,Jz kd k=true/\By k=true)
 (hB:∀i j x y,ks[i]?=some x->ks[j]?=some y->Bg0 kd x y=some (lt i j)) :
 ∃p:List Nat,p.Perm (List.range ds.length)/\p.Pairwise (PS.Rr lt)/\Ou ds ks=some (p.map fun i=>ds.getD i .none):=by
 unfold Ou
 by_cases h2:ds.length<2
 ·rw[if_pos h2]
  refine⟨List.range ds.length,.refl _,?_,?_⟩
  ·rw[List.pairwise_iff_getElem]
   grind
  ·rw[range_getD]
 ·rw[if_neg h2,b (by (first|lia|omega))]
  have m:(decide (ds.length<64)&&(ks.all (Jz kd)&&ks.all By))=true:=by
   simp_all
  rw[if_pos m]
  obtain⟨p,e,o,g,f⟩:=PS.Bd0 (B:=Zz kd ks) O (n:=ds.length) fun i j l c=>by
   unfold Zz
   grind (by (first|lia|omega))
  rw[e]
  refine⟨p.toList,f,?_,rfl⟩
  rw[List.pairwise_iff_getElem];intro i j l c a
  have d  := by rw[dh,o]at c;exact c
  have q:=g i j a d
  have r:p.getD i 0=p.toList[i]:=by simp[Array.getElem?_eq_getElem (show i<p.size by (first|lia|omega))]
  simp_all
theorem Z4  [DecidableEq a] (f:a->t_) (d:a) (l:List a)  (h:∀i∈p,i<l.length):(p.map fun i=>(l.map f).getD i .none)=(atP d l p).map f:=by
 unfold atP
 simp_all
structure HK (hs:k_):Prop where
 nd:hs.Nodup
 vb:∀h∈hs,VBs h/\h.length<=4
 len:hs.length<=60
theorem Ax1  (h:VBs vs):VGs vs:=fun v a=>Ej (h v a)
theorem Ay1 {hs:k_}:(∀h∈hs,h.length<=4)->Sy (Do 2) (hs.map tD)=some (hs.map Gh):=by
 induction hs with
 | nil=>intro _;rfl
 | cons h hs c =>
  intro a
  have b:Ak8 (Do 2) (tD h)=some (Gh h):=by unfold Ak8;rw[(U6  (aj (a h (.head _)) (by decide)))];rfl
  show (Ak8 _ _).bind _=_
  grind
theorem A9c  (H:HK hs):∃p:List Nat,p.Perm (List.range hs.length)/\p.Pairwise (PS.Rr (klt hs))/\Ld [.im (.tuple (hs.map tD))]=.ret (.ls false ((atP [] hs p).map tD)) [.im (.tuple (hs.map tD))]:=by
 have l:=H.len
 obtain⟨p,d,m,e⟩:=Yt (ds:=hs.map tD) (ks:=hs.map Gh) (kd:=.ti) (Xj hs) (by simp_all) (by grind) (fun h0=>by
  cases hs with
  | nil=>trivial
  | cons h hs=>rfl) (fun k g=>by
  obtain⟨h,c,rfl⟩:=aJ.mp g
  exact⟨rfl,(Tq (Ax1 (H.vb h c).1) (aj (H.vb h c).2 (by decide))).flatB (by decide)⟩) (fun i j x y o f=>by
  obtain⟨a,r,rfl⟩:=Fp o;obtain⟨b,q,rfl⟩:=Fp f
  show Ig _ _ (Gh b)=_
  unfold klt
  rw[Av2,eZ,eZ,r,q];rfl)
 rw[ao]at d;rw[Z4 _ [] _ (Io d)]at e
 refine⟨p,d,m,?_⟩
 have ek:=Ay1 fun h c=>(H.vb h c).2
 have n:(Sy (Do 2) (hs.map tD)).bind (Ou (hs.map tD))=some ((atP [] hs p).map tD):=by simp_all
 wp_walk using Ld,Aa6,Br9,U.Lq,n
theorem Am4  (h:VB v):Good (Kp v) 1 5800:=by
 have g:=Ej h
 cases v with
 | non=>exact⟨by decide +kernel,rfl,rfl,by decide,by decide +kernel⟩
 | int i=>
  exact(Good.tup  (n:=0) (w:=1921) (k:=3) (fun d a=>by
   simp  at a
   rcases a with rfl | rfl | rfl
   ·exact⟨rfl,rfl,rfl,by decide,by trivial⟩
   ·exact g
   ·exact⟨by decide +kernel,rfl,rfl,by decide,by trivial⟩) (ak _)).mono (by decide) (by decide)
 | str x=>
  exact(Good.tup  (n:=0) (w:=1921) (k:=3) (fun d a=>by
   simp  at a
   rcases a with rfl | rfl | rfl
   ·exact⟨rfl,rfl,rfl,by decide,by decide +kernel⟩
   ·exact⟨rfl,rfl,rfl,by decide,by decide +kernel⟩
   ·exact g) (ak _)).mono (by decide) (by decide)
def isB (o:m_)(b:Bool):Bool:=match o with
 | some (.im (.bool c))=>c==b
 | _=>false
theorem Xg   (h:isB o b=true):o=some (.im (.bool b)):=by
 unfold isB at h
 grind
theorem B3u {t:j0}(h:VBs t/\t.length<=4):Good (tD t) 1 7696:=Gf h.1 h.2
theorem Zy (x:String)(h:vb (.str (Str.ofString x))=true):Good (.str (Str.ofString x)) 0 1921:=Ej  h
abbrev hT (hs:k_):t_:=.tuple (hs.map tD)
abbrev hL (hs:k_):t_:=.list (hs.map tD)
abbrev aS:t_:=.str "seen"
abbrev aR:t_:=.str "rising"
abbrev aF:t_:=.str "falling"
theorem sS:Cp false aS aS=some (.im (.bool true)):=Xg (by decide +kernel)
theorem fS:Cp false aF aS=some (.im (.bool false)):=Xg (by decide +kernel)
theorem fR:Cp false aF aR=some (.im (.bool false)):=Xg (by decide +kernel)
theorem fF:Cp false aF aF=some (.im (.bool true)):=Xg (by decide +kernel)
structure InO (hs:k_) (od:t_) (p:List Nat):Prop where
 pm:p.Perm (List.range hs.length)
 ord:Ew [.im (hT hs),.im od]=.ret (.ls false ((atP [] hs p).map tD)) [.im (hT hs),.im od]
theorem Bc5 {hs:k_}:InO hs aS (List.range hs.length):=by
 refine⟨.refl _,?_⟩
 rw[A0y]
 wp_walk using Ew,K8,sS,Nz
theorem Ai4 {hs:k_}(H:HK hs):∃p,InO hs aF p:=by
 obtain⟨p,pm,pw,e⟩:=A9c H
 refine⟨p.reverse,⟨p.reverse_perm.trans pm,?_⟩⟩
 rw[A9o,List.map_reverse]
 wp_walk using Ew,K8,fS,fR,fF,e,Yi
abbrev Rw:=List Vl×List (Option (j0))
def Wd.ar (w:Wd)(p:List Nat):Wd:={ w with rows:=atP (([],[]):Rw) w.rows p }
theorem Av7 {a:Type}[DecidableEq a]{d:a}{l:List a}{p:List Nat}:(atP d l p).length=p.length:=by unfold atP;grind
theorem As0 {a b:Type}[DecidableEq a][DecidableEq b](f:a->b){d:a}{l:List a}{p:List Nat}:(atP d l p).map f=atP (f d) (l.map f) p:=by
 unfold atP
 simp_all
abbrev ptD (w:Wd):k_:=w.rows.map (·.1)
theorem P0 {a:Type}{l:List a}{d:a}{i:Nat}(h:i<l.length):l.getD i d∈l:=by grind
theorem Au3 {w:Wd}{p:List Nat}(h:w.Ok)(a:p.Perm (List.range w.rows.length)):(w.ar p).Ok:=by
 have c:p.length=w.rows.length:=by rw[a.length_eq,bW]
 refine⟨h.nms,h.klen,h.nlen,h.vlen,h.vpos,h.heads,h.hnd,h.hlen,fun r b=>h.rows r (Bi6 (Io a) b),?_,by show (atP _ _ p).length<=12;rw[Av7,c];exact h.rlen⟩
 show ((atP _ _ p).map _).Nodup
 rw[As0]
 exact Bz0 h.rnd (by simp_all)
abbrev Fw (r:Rw):t_:=.tuple (r.2.map En)
theorem Bz8 (v:Vl):keyB v.d=true:=by cases v <;> rfl
theorem Au7:∀vs:j0,Fj (vs.map Vl.d)=true
 | []=>rfl
 | v::vs=>by
  show (keyB v.d&&Fj (vs.map Vl.d))=true
  rw[Bz8,Au7 vs];rfl
theorem B3d (v:Vl):v.d.depth=0:=by cases v <;> rfl
theorem A3y:∀vs:j0,PyData.depthAll (vs.map Vl.d)=0
 | []=>rfl
 | v::vs=>by
  show max v.d.depth (PyData.depthAll (vs.map Vl.d))=0
  rw[B3d,A3y vs];rfl
theorem Aq1 {vs:j0}(h:VBs vs):Mv (tD vs)=true:=by
 show (Fj _&&PyData.canLayAll0 _&&decide _)=true
 have l:PyData.canLayAll0 _=true:=(Gf h (ak _)).lay;rw[Au7,l,A3y];rfl
theorem Vy:∀{rs:List Rw},(∀r∈rs,VBs r.1)->Km (rs.map Ds)=some (rs.map (fun r=>tD r.1),rs.map Fw)
 | [],_=>rfl
 | r::rs,h=>by
  have ih:=Vy fun x hx=>h x (bw _ hx)
  rw[aQ]
  show (if Mv (tD r.1)=true then (Km (rs.map Ds)).map fun x=>(tD r.1::x.1,Fw r::x.2) else none)=_
  rw[if_pos (Aq1 (h r a_)),ih];rfl
theorem Ae4:∀{rs:List Rw},(rs.map (·.1)).Nodup->T9 (rs.map fun r=>tD r.1)=true
 | [],_=>rfl
 | r::rs,h=>by
  rw[aQ,bJ]at h
  show (!((rs.map fun r=>tD r.1).any fun e=>PyData.eqv (tD r.1) e)&&T9 (rs.map fun r=>tD r.1))=true
  have z:((rs.map fun r=>tD r.1).any fun e=>PyData.eqv (tD r.1) e)=false:=by
   rw[List.any_eq_false];intro e he q;obtain⟨x,hx,rfl⟩:=aJ.mp he;rw[Ws]at q;exact h.1 (aJ.mpr ⟨x,hx,(aL q).symm⟩)
  rw[z,Ae4 h.2];rfl
theorem Ad4:∀{rs:List Rw}{i:Nat}{r:Rw},(rs.map (·.1)).Nodup->rs[i]?=some r->S8 (rs.map fun r=>tD r.1) (rs.map Fw) (tD r.1)=some (Fw r)
 | x::rs,0,r,_,e=>by
  cases (show some x=some r from e)
  show (if PyData.eqv (tD x.1) (tD x.1)=true then some (Fw x) else _)=_
  rw[Ws,az rfl,if_pos rfl]
 | x::rs,i+1,r,h,e=>by
  rw[aQ,bJ]at h
  have e:rs[i]?=some r:=by simpa using e
  have ne:x.1≠r.1:=fun z=>h.1 (aJ.mpr ⟨r,bA e,z.symm⟩)
  show (if PyData.eqv (tD x.1) (tD r.1)=true then some (Fw x) else S8 (rs.map fun r=>tD r.1) (rs.map Fw) (tD r.1))=_
  rw[Ws,aK ne,if_neg (by decide)]
  exact Ad4 h.2 e
theorem B1n {a:Type}[DecidableEq a]{f:a->t_}{d:a}{xs:List a}{i:Nat}(h:i<xs.length):atI (xs.map f) ((i:Nat):Int)=some (f (xs.getD i d)):=Iu (by grind)
theorem A6t {a:Type}[DecidableEq a]{f:a->t_}{d:a}{xs:List a}{i:Nat}(h:i<xs.length):Av (.tuple (xs.map f)) (.int (i:Nat))=some (.im (f (xs.getD i d))):=by
 show (atI _ _).map _=_
 rw[B1n   h];rfl
theorem ix0 (w:Wd):Av w.d (.int 0)=some (.im (nD w.key)):=rfl
theorem ix1 (w:Wd):Av w.d (.int 1)=some (.im (nD w.names)):=rfl
theorem ix2 (w:Wd):Av w.d (.int 2)=some (.im (nD w.vals)):=rfl
theorem ix3 (w:Wd):Av w.d (.int 3)=some (.im (hT w.heads)):=rfl
theorem ixW (w:Wd):Av w.d (.int 4)=some (.im (.tuple (w.rows.map Ds))):=rfl
theorem slW (w:Wd):Og w.d none (some 4)=some (.im (.tuple [nD w.key,nD w.names,nD w.vals,hT w.heads])):=by
 rfl
theorem A0b (rs:List Rw):∃u v,Dt (cgT 2 (Cv (cgN 0) (Cv (cgN 1) Hq))) Cz (Ad 0) (rs.map Ds) [] [none,none]=.ok ((rs.map (·.1)).map tD) [u,v]:=by
 obtain⟨cI,e,u,v,rfl⟩:=J0 (g:=cgT 2 (Cv (cgN 0) (Cv (cgN 1) Hq))) (ft:=Cz) (fe:=Ad 0) (I:=fun c=>∃u v,c=[u,v]) (f:=Ds)     ⟨none,none,rfl⟩
  fun r c hx a=>by
   obtain⟨u,v,rfl⟩:=a
   refine⟨[some (.im (tD r.1)),some (.im (.tuple (r.2.map En)))],?_,_,_,rfl⟩
   trivial
 refine⟨u,v,?_⟩
 rw[cW];exact e
theorem Be7 {w:Wd}(l:w.rows.length<=60):cLC [none,none] (Fd (cOp Av (Ad 0) (cC (.int 4)))) (cgT 2 (Cv (cgN 0) (Cv (cgN 1) Hq))) Cz (Ad 0) [some (.im w.d)]=.ok (.o (.ls false ((ptD w).map tD))) [some (.im w.d)]:=by
 obtain⟨u,v,e⟩:=A0b _
 exact Jt    (by rfl) (by grind) e rfl
theorem Af3 {w:Wd}(l:w.rows.length<=60):Fz [.im w.d]=.ret (.im (hT (ptD w))) [.im w.d]:=by
 wp_walk using Fz,Qz,Be7 l,Cg
theorem A6p {w:Wd}(h:w.Ok):HK (ptD w):=⟨h.rnd,fun x b=>by
 obtain⟨r,a,rfl⟩:=aJ.mp b
 exact⟨(h.rows r a).part,by rw[(h.rows r a).plen];exact aj h.klen (by decide)⟩,by rw[ao];exact aj h.rlen (by decide)⟩
theorem Rh {w:Wd}{od:t_}{p:List Nat}(h:w.Ok)(I:InO (ptD w) od p):Gb [.im w.d,.im od]=.ret (.im (w.ar p).d) [.im w.d,.im od]:=by
 have lp:p.length=w.rows.length:=by rw[I.pm.length_eq,bW,ao]
 have b:w.rows.length<=60:=aj h.rlen (by decide)
 have v:∀i∈p,i<w.rows.length:=by have:=Io I.pm;rw[ao]at this;exact this
 have a:∀r∈w.rows,VBs r.1:=fun r j=>(h.rows r j).part
 have D:=Vy a
 have C:(w.rows.map fun r=>tD r.1).length<=16000000:=by rw[ao];(first|lia|omega)
 have s:cDP (cOp Av (Ad 0) (cC (.int 4))) [some (.im w.d),some (.im od),none,none]=.ok (.o (.ty (.dt (w.rows.map fun r=>tD r.1) (w.rows.map Fw)))) [some (.im w.d),some (.im od),none,none]:=by
  wp_walk using cDP,ixW w,D,(Ae4 h.rnd),C
 have t:(w.rows.map fun r=>tD r.1).all Mv=true:=List.all_eq_true.mpr fun k y=>by obtain⟨r,j,rfl⟩:=aJ.mp y;exact Aq1 (a r j)
 obtain⟨z,e,u,rfl⟩:=J0 (g:=cgN 0) (ft:=Cz) (fe:=Fq (Ac (Ad 0) (Ac (Ad8 (Ad 1) (Ad 0)) Aq))) (I:=fun c=>∃u,c=[u,some (.ty (.dt (w.rows.map fun r=>tD r.1) (w.rows.map Fw)))]) (f:=fun k:Nat=>tD (w.rows.getD k ([],[])).1) (G:=fun k=>Ds (w.rows.getD k ([],[]))) (xs:=p) (acc:=[]) (c:=[none,some (.ty (.dt (w.rows.map fun r=>tD r.1) (w.rows.map Fw)))]) ⟨none,rfl⟩
  (fun x c A B=>by
   obtain⟨u,rfl⟩:=B
   have n:w.rows[x]?=some (w.rows.getD x ([],[])):=by simp[(v x A)]
   have m:=Ad4 h.rnd n;have o:=Aq1 (a _ (bA n))
   refine⟨[some (.im (tD (w.rows.getD x ([],[])).1)),some (.ty (.dt (w.rows.map fun r=>tD r.1) (w.rows.map Fw)))],?_,_,rfl⟩
   generalize w.rows.getD x ([],[])=r at m o ⊢
   wp_walk using Ad8,m,o,t,Ds)
 rw[dC]at e
 have E:(atP [] (ptD w) p).map tD=p.map fun k=>tD (w.rows.getD k ([],[])).1:=by
  rw[show atP [] (ptD w) p=(atP (([],[]):Rw) w.rows p).map (fun r:Rw=>r.1) from (As0 (d:=(([],[]):Rw)) (l:=w.rows) (fun r:Rw=>r.1)).symm]
  unfold atP;rw[cW,cW];rfl
 have F:cLC [none,some 2] (Fd (cF Ew (Ac (cF Fz (Ac (Ad 0) Aq)) (Ac (Ad 1) Aq)))) (cgN 0) Cz (Fq (Ac (Ad 0) (Ac (Ad8 (Ad 1) (Ad 0)) Aq))) [some (.im w.d),some (.im od),some (.ty (.dt (w.rows.map fun r=>tD r.1) (w.rows.map Fw))),none]=.ok (.o (.ls false ((w.ar p).rows.map Ds))) [some (.im w.d),some (.im od),some (.ty (.dt (w.rows.map fun r=>tD r.1) (w.rows.map Fw))),none]:=by
  refine Jt (ds:=(atP [] (ptD w) p).map tD) (c1:=[some (.im w.d),some (.im od),some (.ty (.dt (w.rows.map fun r=>tD r.1) (w.rows.map Fw))),none]) (cI:=[u,some (.ty (.dt (w.rows.map fun r=>tD r.1) (w.rows.map Fw)))]) (by wp_walk using Fd,(Af3 b),I.ord) (by rw[ao,Av7];(first|lia|omega)) ?_ rfl
  rw[E]
  show _=R.ok ((atP (([],[]):Rw) w.rows p).map _) _
  unfold atP;rw[cW];exact e
 have q:Cj (.tuple [nD w.key,nD w.names,nD w.vals,hT w.heads]) (.tuple [.tuple _])=some (.im (w.ar p).d):=rfl
 wp_walk using Gb,Q0,s,F,Cg,slW w,q
theorem O9 {neg:Bool}{v:j0}{vs:k_}(h:VBs v)(hs:∀u∈vs,VBs u):Jo neg (tD v) (.tuple (vs.map tD))=some (.im (.bool (if neg then !decide (v∈vs) else decide (v∈vs)))):=by
 show (if By _&&PyData.canLayAll0 _ then some _ else none)=_
 rw[(Gf h (ak _)).flatB (by decide),Ma fun d a=>by obtain⟨u,b,rfl⟩:=aJ.mp a;exact(Gf (hs u b) (ak _)).lay,Bl2];rfl
theorem Af7 {v:j0}:∀{vs:k_},v∈vs->T4 (tD v) (vs.map tD)=some (fnd v vs)
 | u::us,h=>by
  rw[aQ]
  show (if PyData.eqv (tD u) (tD v)=true then some 0 else (T4 (tD v) (us.map tD)).map (·+1))=_
  unfold fnd;rw[Ws]
  by_cases e:u=v
  ·rw[az e,if_pos rfl,if_pos e]
  ·rw[aK e,if_neg (by decide),if_neg e,Af7 ((au.mp h).resolve_left (aB e))];rfl
theorem At9 {v:j0}{vs:k_}(hv:v∈vs)(h:∀u∈vs,VBs u):Hx (.tuple (vs.map tD)) (tD v)=some (.im (.int (fnd v vs:Nat))):=by
 show (if By _&&PyData.canLayAll0 _ then (T4 _ _).map _ else none)=_
 rw[(Gf (h v hv) (ak _)).flatB (by decide),Ma fun d a=>by obtain⟨u,b,rfl⟩:=aJ.mp a;exact(Gf (h u b) (ak _)).lay,Af7 hv];rfl
theorem Af8 (x:Str):∀cols:v4,((cols.map PyData.str).any fun e=>PyData.eqv e (.str x))=decide (x∈cols)
 | []=>rfl
 | y::r=>by
  rw[aQ,List.any_cons,Af8 x r,Yc]
  by_cases e:y=x
  ·subst e;simp
  ·simp[e,aB e]
def names13:v4:=Str.ofString "nowhere" :: names12
theorem B3x:(names13.all fun x=>By (.str x)&&(Ao0 (Str.ofString "no column ").length (.str x)&&vb (.str x)))=true:=by decide +kernel
theorem O8 {x:Str}(h:x∈names13):By (.str x)=true/\Ao0 (Str.ofString "no column ").length (.str x)=true/\VB (.str x):=by
 have:=aU.mp B3x x h;simp only[aO]at this;exact⟨this.1,this.2.1,this.2.2⟩
theorem A8w {x:Str}(h:x∈names12):(PyData.str x).canLay0=true:=(Ej (O8 (x:=x) (.tail _ h)).2.2).lay
theorem Ss {x:Str}{cols:v4}(hx:x∈names13)(hs:∀y∈cols,y∈names12):Jo true (.str x) (nD cols)=some (.im (.bool (!decide (x∈cols)))):=by
 show (if By (.str x)&&PyData.canLayAll0 (cols.map PyData.str) then some (O.im (.bool (!((cols.map PyData.str).any fun e=>PyData.eqv e (.str x))))) else none)=_
 rw[(O8 hx).1,Ma (fun d hd=>by obtain⟨u,hu,rfl⟩:=aJ.mp hd;exact A8w (hs u hu)),Af8]
 rfl
theorem Aa1 {x:Str}:∀{vs:v4},x∈vs->T4 (.str x) (vs.map PyData.str)=some (fnd x vs)
 | u::us,h=>by
  rw[aQ]
  show (if PyData.eqv (.str u) (.str x)=true then some 0 else (T4 (.str x) (us.map PyData.str)).map (·+1))=_
  unfold fnd;rw[Yc]
  by_cases e:u=x
  ·rw[if_pos e,if_pos (by simp[e])]
  ·rw[if_neg e,if_neg (by simp[e]),Aa1 ((au.mp h).resolve_left (aB e))];rfl
theorem A3p {x:Str}{cols:v4}(hx:x∈cols)(hs:∀y∈cols,y∈names12):Hx (nD cols) (.str x)=some (.im (.int (fnd x cols:Nat))):=by
 show (if By (.str x)&&PyData.canLayAll0 (cols.map PyData.str) then (T4 (.str x) (cols.map PyData.str)).map (fun j=>O.im (.int (j:Nat))) else none)=_
 rw[(O8 (x:=x) (.tail _ (hs x hx))).1,Ma (fun d hd=>by obtain⟨u,hu,rfl⟩:=aJ.mp hd;exact A8w (hs u hu)),Aa1 hx];rfl
theorem As4:∀ss:v4,strsOf (ss.map PyData.str)=some ss
 | []=>rfl
 | x::ss=>by show (strsOf (ss.map PyData.str)).map (x::·)=_;rw[As4 ss];rfl
theorem Av3 {x:Str}:∀{vs:v4},x∈vs->Vm x vs=some (fnd x vs)
 | u::us,h=>by
  unfold Vm fnd
  by_cases e:u=x
  ·simp[e]
  ·rw[if_neg e,if_neg (by simpa using e),Av3 ((au.mp h).resolve_left (aB e))];rfl
theorem Aj3 {x:Str}{cols:v4}(h:x∈cols):R9 (nD cols) (.str x)=some (.im (.int (fnd x cols:Nat))):=by
 show ((strsOf (cols.map PyData.str)).bind fun ss=>(Vm x ss).map fun j=>O.im (.int (j:Nat)))=_
 rw[As4,Option.bind_some,Av3 h];rfl
def kc (c:Nat):Option (j0)->j0
 | none=>[]
 | some vs=>[vs.getD c .non]
abbrev kys (rows:List Rw)(s c:Nat):k_:=rows.map fun r=>kc c (r.2.getD s none)
structure At (w:Wd) (s c:Nat):Prop where
 ok:w.Ok
 hs:s<w.heads.length
 hc:c<w.vals.length
theorem At.ix {w:Wd}{s c:Nat}(A:At w s c){r:Rw}(hr:r∈w.rows):Av (.tuple (r.2.map En)) (.int (s:Nat))=some (.im (En (r.2.getD s none))):=A6t (f:=En) (d:=none) (by rw[(A.ok.rows r hr).clen];exact A.hs)
theorem At.cell {w:Wd}{s c:Nat}(A:At w s c){r:Rw}(hr:r∈w.rows):Np w.vals.length (r.2.getD s none):=(A.ok.rows r hr).cells _ (P0 (by rw[(A.ok.rows r hr).clen];exact A.hs))
theorem At3 {vs:j0}{c:Nat}(hc:c<vs.length):Av (tD vs) (.int (c:Nat))=some (.im (vs.getD c .non).d):=A6t (f:=Vl.d) (d:=.non) hc
theorem B0x {v c:Nat}{x:Option (j0)}(h:Np v x)(hc:c<v):VBs (kc c x)/\(kc c x).length<=1:=by
 cases x with
 | none=>exact⟨(fun v hv=>(nomatch hv)),aD _⟩
 | some vs =>
  obtain⟨l,b⟩:=h vs rfl
  refine⟨fun v hv=>?_,ak _⟩
  cases aP.mp hv
  exact b _ (P0 (by (first|lia|omega)))
theorem Bh1 {v c:Nat}{x:Option (j0)}(h:Np v x)(hc:c<v):Dw [.im (En x),.im (.int (c:Nat))]=.ret (.im (Gh (kc c x))) [.im (En x),.im (.int (c:Nat))]:=by
 cases x with
 | none =>
  have e:=U6 (r:=[]) (by decide)
  have e2:Ez false .none .none=some (.im (.bool true)):=rfl;have e:Do 2 [.im (.tuple [])]=.ret (.im (Gh [])) [.im (.tuple [])]:=e
  wp_walk using Dw,G7,En,kc,e,e2
 | some vs =>
  obtain⟨l,b⟩:=h vs rfl
  have e:=U6 (r:=[vs.getD c .non]) (show 1<=30 by decide)
  have e:Do 2 [.im (.tuple [(vs.getD c .non).d])]=.ret (.im (Gh [vs.getD c .non])) [.im (.tuple [(vs.getD c .non).d])]:=e
  have e1:=At3 (vs:=vs) (c:=c) (by (first|lia|omega))
  have e2:Ez false (tD vs) .none=some (.im (.bool false)):=rfl
  wp_walk using Dw,G7,En,kc,e,e1,e2
theorem B2f (r:Rw):Av (Ds r) (.int 1)=some (.im (.tuple (r.2.map En))):=rfl
theorem B2r {w:Wd}{s c:Nat}(A:At w s c){r:Rw}(hr:r∈w.rows):Dy [.im (Ds r),.im (.int (c:Nat)),.im (.int (s:Nat))]=.ret (.im (Gh (kc c (r.2.getD s none)))) [.im (Ds r),.im (.int (c:Nat)),.im (.int (s:Nat))]:=by
 have e1:=B2f r;have e2:=A.ix hr;have e3:=Bh1 (A.cell hr) A.hc
 wp_walk using Dy,e1,e2,e3
theorem As5 {w:Wd}{s c:Nat}(A:At w s c){s0 s1 s2 s5:m_}:∀rows:List Rw,(∀r∈rows,r∈w.rows) ->
 Va Dy [4,3] (rows.map Ds) [s0,s1,s2,some (.im (.int (s:Nat))),some (.im (.int (c:Nat))),s5]=.ok ((kys rows s c).map Gh) [s0,s1,s2,some (.im (.int (s:Nat))),some (.im (.int (c:Nat))),s5]
 | [],_=>rfl
 | r::rs,hr=>by
  have e:=B2r A (hr r (.head _))
  have ih:=As5 A (s0:=s0) (s1:=s1) (s2:=s2) (s5:=s5) rs fun x hx=>hr x (.tail _ hx)
  have e1:A0x Dy [4,3] (Ds r) [s0,s1,s2,some (.im (.int (s:Nat))),some (.im (.int (c:Nat))),s5]=.ok (Gh (kc c (r.2.getD s none))) [s0,s1,s2,some (.im (.int (s:Nat))),some (.im (.int (c:Nat))),s5]:=by
   have b:(!((4:Nat)==3))=true:=rfl
   wp_walk using A0x,e,b
  show ((A0x Dy [4,3] (Ds r) _).bind fun k c=>(Va Dy [4,3] (rs.map Ds) c).bind fun ks c=>R.ok (k::ks) c)=_
  rw[e1]
  show ((Va Dy [4,3] (rs.map Ds) _).bind fun ks c=>R.ok (_::ks) c)=_
  rw[ih];rfl
theorem A5u {w:Wd}{s c:Nat}(A:At w s c):∀k∈kys w.rows s c,VBs k/\k.length<=1:=fun k hk=>by
 obtain⟨r,hr,rfl⟩:=aJ.mp hk;exact B0x (A.cell hr) A.hc
theorem Bc6 {w:Wd}{s c:Nat}(A:At w s c):∃p:List Nat,p.Perm (List.range w.rows.length)/\p.Pairwise (PS.Rr (klt (kys w.rows s c)))/\Ou (w.rows.map Ds) ((kys w.rows s c).map Gh)=some ((w.ar p).rows.map Ds):=by
 have l:=A.ok.rlen
 obtain⟨p,pm,pw,e⟩:=Yt (ds:=w.rows.map Ds) (ks:=(kys w.rows s c).map Gh) (kd:=.ti) (Xj (kys w.rows s c)) (by rw[ao,ao,ao]) (by rw[ao];(first|lia|omega)) (fun h0=>by
  cases hr:w.rows with
  | nil=>rw[hr]at h0;simp at h0
  | cons h hs=>rfl) (fun k hk=>by
  obtain⟨h,hh,rfl⟩:=aJ.mp hk;have:=A5u A h hh
  exact⟨rfl,(Tq (Ax1 this.1) (aj this.2 (by decide))).flatB (by decide)⟩) (fun i j x y hx hy=>by
  obtain⟨a,ha,rfl⟩:=Fp hx;obtain⟨b,hb,rfl⟩:=Fp hy
  show Ig false (Gh a) (Gh b)=_
  unfold klt
  rw[Av2,eZ,eZ,ha,hb];rfl)
 rw[ao]at pm;rw[Z4 Ds (([],[]):Rw) w.rows (Io pm)]at e;exact⟨p,pm,pw,e⟩
abbrev nH:Xn:=⟨Str.ofString "NoHead",none⟩
abbrev nC (x:Str):Xn:=⟨Str.ofString "NoColumn",some (Str.ofString "name",.str x)⟩
theorem Fb {w:Wd}(h:w.Ok):∀u∈w.heads,VBs u:=fun u hu=>(h.heads u hu).2
theorem Ii {w:Wd}(h:w.Ok):∀y∈w.vals,y∈names12:=fun y hy=>h.nms.sub y (aC _ hy)
theorem A9d {w:Wd}{hv:j0}(h:w.Ok)(hb:VBs hv)(n:hv∉w.heads):Cy [w.d,tD hv]=.ex nH:=by
 have e:=O9 (neg:=true) hb (Fb h);rw[aK n]at e;have e:Jo true (tD hv) (hT w.heads)=some (.im (.bool true)):=e
 wp_walk using Cy,Gw,ix3 w,e
theorem Jh {w:Wd}{hv:j0}(h:w.Ok)(m:hv∈w.heads):Cy [w.d,tD hv]=.ret (.im (.int (fnd hv w.heads:Nat))):=by
 have e:=O9 (neg:=true) (Fb h hv m) (Fb h);rw[az m]at e;have e:Jo true (tD hv) (hT w.heads)=some (.im (.bool false)):=e;have e2:Hx (hT w.heads) (tD hv)=some (.im (.int (fnd hv w.heads:Nat))):=At9 m (Fb h)
 wp_walk using Cy,Gw,ix3 w,e,A0f,Lx,Gs,mtR,e2
theorem A0s {w:Wd}{hv:j0}{x:t_}(h:w.Ok)(hb:VBs hv)(n:hv∉w.heads):Cu [w.d,tD hv,x]=.ex nH:=by
 have e:=A9d h hb n;have z:(none:Option (Str×t_)).isNone=true:=rfl
 wp_walk using Cu,Ij,e,z
theorem A5z {w:Wd}{hv:j0}{x:Str}(h:w.Ok)(m:hv∈w.heads)(hx:x∈names13)(n:x∉w.vals):Cu [w.d,tD hv,.str x]=.ex (nC x):=by
 have e:=Jh h m;have e1:=Ss hx (Ii h);rw[aK n]at e1;have e2:=(O8 hx).2.1
 wp_walk using Cu,Ij,e,ix2 w,e1,e2
theorem B1b {w:Wd}{hv:j0}{x:Str}(h:w.Ok)(m:hv∈w.heads)(mx:x∈w.vals):∃p:List Nat,p.Perm (List.range w.rows.length)/\p.Pairwise (PS.Rr (klt (kys w.rows (fnd hv w.heads) (fnd x w.vals))))/\Cu [w.d,tD hv,.str x]=.ret (.im (w.ar p).d):=by
 have A:At w (fnd hv w.heads) (fnd x w.vals):=⟨h,X7 m,X7 mx⟩;obtain⟨p,pm,pw,es⟩:=Bc6 A
 refine⟨p,pm,pw,?_⟩
 have e:=Jh h m;have hx:x∈names13:=.tail _ (Ii h x mx);have e1:=Ss hx (Ii h);rw[az mx]at e1;have e2:=Aj3 mx;have tt:Gs (nD w.vals)=true:=rfl
 have e3:=As5 A (s0:=some (.im w.d)) (s1:=some (.im (tD hv))) (s2:=some (.im (.str x))) (s5:=none) w.rows fun r hr=>hr
 have e8:Cj (.tuple [nD w.key,nD w.names,nD w.vals,hT w.heads]) (.tuple [.tuple ((w.ar p).rows.map Ds)])=some (.im (w.ar p).d):=rfl
 wp_walk using Cu,Ij,e,ix2 w,e1,e2,ixW w,A8q,U.Lq,e3,es,slW w,Cg,e8,cMt,tt
def lrK:j0->t_
 | []=>.tuple [.int 0,.int 0,.str ""]
 | v::_=>Kp v
def gq (ks:k_)(k:Nat):t_:=.tuple [.int (if ks.getD k []=[] then 0 else 1),lrK (ks.getD k []),.int (k:Nat)]
def lx (ks:k_)(i j:Nat):Bool:=if ks.getD i []=ks.getD j [] then decide (i<j) else rlt (ks.getD i []) (ks.getD j [])
theorem Bl5 {ks:k_}{a b c:Nat}(h:lx ks a b=true)(k:lx ks b c=true):lx ks a c=true:=by
 unfold lx at h k ⊢
 by_cases e1:ks.getD a []=ks.getD b []
 ·rw[if_pos e1]at h
  by_cases e2:ks.getD b []=ks.getD c []
  ·rw[if_pos e2]at k
   rw[if_pos (e1.trans e2)];have:=aL h;have:=aL k
   exact az (by (first|lia|omega))
  ·rw[if_neg e2]at k
   rw[if_neg (fun q=>e2 (e1.symm.trans q)),e1];exact k
 ·rw[if_neg e1]at h
  by_cases e2:ks.getD b []=ks.getD c []
  ·rw[if_neg (fun q=>e1 (q.trans e2.symm)),<- e2];exact h
  ·rw[if_neg e2]at k
   have q:=Yz h k
   rw[if_neg (fun z=>by rw[z,O6]at q;cases q)];exact q
theorem Bo9 (ks:k_)(a b:Nat):lx ks a b=true\/a=b\/lx ks b a=true:=by
 unfold lx
 by_cases e:ks.getD a []=ks.getD b []
 ·rw[if_pos e,if_pos e.symm]
  rcases Nat.lt_trichotomy a b with q | q | q
  ·exact .inl (az q)
  ·exact .inr (.inl q)
  ·exact .inr (.inr (az q))
 ·rw[if_neg e,if_neg (aB e)]
  rcases Yk (ks.getD a []) (ks.getD b []) with q | q | q
  ·exact .inl q
  ·exact absurd q e
  ·exact .inr (.inr q)
theorem Bp5 (ks:k_):PS.Ord (lx ks):=⟨fun a=>by unfold lx;rw[if_pos rfl];exact aK (aY _),fun a b c h k=>Bl5 h k,fun a b c h=>by
 rcases Bo9 ks a b with q | q | q
 ·exact .inl q
 ·exact .inr (by rw[<- q];exact h)
 ·exact .inr (Bl5 q h)⟩
theorem B2d {ks:k_}{i j:Nat}(h:PS.Rr (lx ks) i j):PS.Rr (klt ks) i j:=by
 have eqf:ks.getD i []=ks.getD j []->klt ks j i=false:=fun e=>by unfold klt;rw[e];exact O6 _
 rcases h with h | ⟨h,l⟩
 ·unfold lx at h
  by_cases e:ks.getD i []=ks.getD j []
  ·rw[if_pos e]at h;exact .inr ⟨eqf e,aL h⟩
  ·rw[if_neg e]at h;exact .inl h
 ·unfold lx at h
  by_cases e:ks.getD j []=ks.getD i []
  ·exact .inr ⟨eqf e.symm,l⟩
  ·rw[if_neg e]at h;exact .inr ⟨h,l⟩
theorem Ak2 (i j:Int):PyData.eqv (.int i) (.int j)=decide (i=j):=by
 unfold PyData.eqv
 first | rfl | simp
theorem B2n (i j:Nat):Hg false [.int (i:Nat)] [.int (j:Nat)]=some (decide (i<j)):=by
 rw[Hg,Ak2]
 by_cases e:i=j
 ·subst e
  rw[if_pos (by simp)]
  simp[Hg]
 ·rw[if_neg (by simp;(first|lia|omega))]
  show some (decide ((i:Int)<(j:Int)))=_
  simp
theorem Bz7 {ks:k_}(hk:∀k∈ks,k.length<=1){i j:Nat}(hi:i<ks.length)(hj:j<ks.length):Ig false (gq ks i) (gq ks j)=some (lx ks i j):=by
 have mi:=hk _ (P0 (d:=([]:j0)) hi);have mj:=hk _ (P0 (d:=([]:j0)) hj);have lk:=B2n i j;unfold gq lx
 generalize ks.getD i []=a at *
 generalize ks.getD j []=b at *
 show Hg false _ _=_
 match a,b,mi,mj with
 | [],[],_,_ =>
  rw[if_pos rfl,if_pos rfl,Hg,At7,if_pos (by decide),Hg,show PyData.eqv (lrK []) (lrK [])=true from by decide +kernel,if_pos rfl]
  exact lk
 | [],[v],_,_=>rw[if_pos rfl,if_neg (by simp),if_neg (by simp),Hg,Ak2,if_neg (by decide)];rfl
 | [u],[],_,_=>rw[if_pos rfl,if_neg (by simp),if_neg (by simp),Hg,Ak2,if_neg (by decide)];rfl
 | [u],[v],_,_ =>
  rw[if_neg (by simp),if_neg (by simp),Hg,At7,if_pos (by decide),Hg,show PyData.eqv (lrK [u]) (lrK [v])=decide (u=v) from A0t u v]
  by_cases e:u=v
  ·subst e
   rw[az rfl,if_pos rfl,if_pos rfl];exact lk
  ·rw[aK e,if_neg (by decide),if_neg (by simpa using e),show Ig false (lrK [u]) (lrK [v])=some (vlt u v) from A0z false u v,rlt,if_neg e]
theorem A9p {ks:k_}(hk:∀k∈ks,VBs k/\k.length<=1){i:Nat}(hi:i<ks.length)(hl:ks.length<=60):Good (gq ks i) 2 20000:=by
 have mi:=hk _ (P0 (d:=([]:j0)) hi)
 have a:Good (.int (i:Nat)) 1 5800:=(Ej (v:=.int (i:Nat)) (by
  show vb (.int (i:Nat))=true
  unfold vb
  simp
  (first|lia|omega))).mono (by decide) (by decide)
 have b:Good (.int (if ks.getD i []=[] then 0 else 1)) 1 5800:=by
  split
  ·exact⟨rfl,rfl,rfl,by decide,by decide +kernel⟩
  ·exact⟨rfl,rfl,rfl,by decide,by decide +kernel⟩
 have c:Good (lrK (ks.getD i [])) 1 5800:=by
  generalize ks.getD i []=z at *
  cases z with
  | nil=>exact⟨by decide +kernel,rfl,rfl,by decide,by decide +kernel⟩
  | cons v vs=>exact Am4 (mi.1 v (.head _))
 exact(Good.tup (ds:=[.int (if ks.getD i []=[] then 0 else 1),lrK (ks.getD i []),.int (i:Nat)]) (n:=1) (w:=5800) (k:=3) (fun d hd=>by
  simp only[au,bf,bB]at hd
  rcases hd with rfl | rfl | rfl
  ·exact b
  ·exact c
  ·exact a) (ak _)).mono (by decide) (by decide)
theorem Bk8 {ks:k_}(hk:∀k∈ks,VBs k/\k.length<=1)(hl:ks.length<=60):∃p:List Nat,p.Perm (List.range ks.length)/\p.Pairwise (PS.Rr (klt ks))/\Oj (.list ((List.range ks.length).map (gq ks)))=some (.ls false (p.map (gq ks))):=by
 have at_:∀i x,((List.range ks.length).map (gq ks))[i]?=some x->i<ks.length/\x=gq ks i:=fun i x hx=>by
  obtain⟨j,hj,rfl⟩:=Fp hx
  have hi:i<ks.length:=by
   rcases aW i ks.length with q | q
   ·exact q
   ·rw[cR (by rw[bW];exact q)]at hj;cases hj
  rw[eU hi]at hj
  cases hj
  exact⟨hi,rfl⟩
 obtain⟨p,pm,pw,e⟩:=Yt (ds:=(List.range ks.length).map (gq ks)) (ks:=(List.range ks.length).map (gq ks)) (kd:=.ti) (Bp5 ks) rfl (by rw[ao,bW];(first|lia|omega)) (fun h0=>by
  rw[ao,bW]at h0
  obtain⟨m,hm⟩:∃m,ks.length=m+1:=⟨ks.length-1,by (first|lia|omega)⟩
  rw[hm,List.range_succ_eq_map];rfl) (fun k hk'=>by
  obtain⟨h,hh,rfl⟩:=aJ.mp hk'
  exact⟨rfl,(A9p hk (cZ.mp hh) hl).flatB (by decide)⟩) (fun i j x y hx hy=>by
  obtain⟨hi,rfl⟩:=at_ i x hx;obtain⟨hj,rfl⟩:=at_ j y hy
  exact Bz7 (fun k h=>(hk k h).2) hi hj)
 rw[ao,bW]at pm
 refine⟨p,pm,pw.imp B2d,?_⟩
 have e3:(p.map fun i=>((List.range ks.length).map (gq ks)).getD i .none)=p.map (gq ks):=List.map_congr_left fun i hi=>by
  have:=Io pm i hi
  simp[this]
 rw[e3]at e
 show (Ou _ _).map _=_
 rw[e];rfl
abbrev Z9:Ev->SR:=Az (Cm (cOp Av (cOp Av (Ad 7) (cC (.int 1))) (Ad 3)) (cgN 8))
 (Iw (Om (Ad 5) (Fq (Ac (cUn Um (cOp (Ez true) (Ad 8) (cC (.none)))) (Ac (Mx (Bb (cOp (Ez false) (Ad 8) (cC (.none)))) (Fq (Ac (cC (.int 0)) (Ac (cC (.int 0)) (Ac (cC (.str "")) Aq)))) (cF Gq (Ac (cOp Av (Ad 8) (Ad 4)) Aq))) (Ac (Ad 6) Aq))))))
abbrev stA:Ev->SR:=Cm (cOp Av (cFz (Ad 2)) (cF Aj (Ac (Ad 0) (Ac (cC (.int 5)) Aq)))) (cgN 5)
abbrev stB:Ev->SR:=cIf (Ay4 (Bb (cOp (Cp true) (cOp Av (Ad 1) (cC (.int 3))) (Fq Aq))) (Bb (cOp Ap1 (cF Aj (Ac (Ad 0) (Ac (cC (.int 6)) Aq))) (cC (.int 0))))) (Cm (cOp Av (cOp Av (Ad 1) (cC (.int 3))) (cF Aj (Ac (Ad 0) (Ac (Ja (cOp Av (Ad 1) (cC (.int 3)))) Aq)))) (cgN 5)) Ck
abbrev stC:Ev->SR:=Cm (cOp Av (cOp Av (Ad 1) (cC (.int 2))) (cF Aj (Ac (Ad 0) (Ac (Ja (cOp Av (Ad 1) (cC (.int 2)))) Aq)))) (cgN 6)
abbrev stD:Ev->SR:=cIf (Bb (cOp (Cp false) (cF Aj (Ac (Ad 0) (Ac (cC (.int 6)) Aq))) (cC (.int 0)))) (Cm (cOp Av (cFz (Ad 3)) (cF Aj (Ac (Ad 0) (Ac (Ja (cFz (Ad 3))) Aq)))) (cgN 6)) Ck
abbrev stE:Ev->SR:=Cm (cUn Ul (Ad 1)) (cgN 7)
abbrev stF:Ev->SR:=Cm (cF Ec (Ac (Ad 1) (Ac (Ad 5) (Ac (Ad 6) Aq)))) (cgN 8)
abbrev stG:Ev->SR:=cIf (cOr (A6v (Bb (cF (Bs 8) (Ac (cFz (Ad 8)) (Ac (cFz (cF Ft (Ac (Ad 1) (Ac (Ad 5) (Ac (Ad 6) Aq))))) Aq))))) (Bb (cOp (Cp true) (cUn Ul (Ad 1)) (Ad 7)))) (Dc (cC (.bool false))) Ck
abbrev stH:Ev->SR:=cIf (Ay4 (Bb (cUn (Eb .tuple) (cFz (Ad 8)))) (Bb (cOp (Cp false) (cF Aj (Ac (Ad 0) (Ac (cC (.int 2)) Aq))) (cC (.int 0))))) (Cm (cF Gb (Ac (cFz (Ad 8)) (Ac (cOp Av (Hv (Ac (cC (.str "falling")) (Ac (cC (.str "seen")) Aq))) (cF Aj (Ac (Ad 0) (Ac (cC (.int 2)) Aq)))) Aq))) (cgN 1)) Ck
abbrev B1x:Ev->SR:=Az stA (Az stB (Az stC (Az stD (Az stE (Az stF (Az stG stH))))))
theorem Aj7 (rows:List Rw):M7 (rows.map Ds)=(List.range rows.length).map fun k=>.tuple [.int (k:Nat),Ds (rows.getD k ([],[]))]:=by
 unfold M7;rw[ao]
 refine List.map_congr_left fun k hk=>?_
 have:=cZ.mp hk
 simp[this]
theorem B0r {rows:List Rw}{s c k:Nat}(h:k<rows.length):(kys rows s c).getD k []=kc c ((rows.getD k ([],[])).2.getD s none):=by
 unfold kys;simp[h]
theorem A6h {w:Wd}{s c k:Nat}(A:At w s c)(hk:k<w.rows.length){s0 s1 s2 a b d:m_}{acc:w5}(hl:acc.length<16000000):∃z,Q5 (cgT 2 (Cv (cgN 6) (Cv (cgN 7) Hq))) Z9 (.tuple [.int (k:Nat),Ds (w.rows.getD k ([],[]))]) [s0,s1,s2,some (.im (.int (s:Nat))),some (.im (.int (c:Nat))),some (.ls false acc),a,b,d] =
 .nx [s0,s1,s2,some (.im (.int (s:Nat))),some (.im (.int (c:Nat))),some (.ls false (acc++[gq (kys w.rows s c) k])),some (.im (.int (k:Nat))),some (.im (Ds (w.rows.getD k ([],[])))),z]:=by
 have hr:w.rows.getD k ([],[])∈w.rows:=P0 hk;have e1:=B2f (w.rows.getD k ([],[]));have e2:=A.ix hr;have ce:=A.cell hr;have hc:=A.hc;unfold gq;rw[B0r hk]
 generalize w.rows.getD k ([],[])=r at *
 generalize r.2.getD s none=x at *
 cases x with
 | none =>
  have z1:Ez true .none .none=some (.im (.bool false)):=rfl;have z2:Ez false .none .none=some (.im (.bool true)):=rfl;have z3:Um (.bool false)=some (.im (.int 0)):=rfl
  refine⟨some (.im .none),?_⟩
  wp_walk using Z9,e1,e2,En,kc,z1,z2,z3,lrK,hl
 | some vs =>
  obtain⟨l,b⟩:=ce vs rfl;have z1:Ez true (tD vs) .none=some (.im (.bool true)):=rfl;have z2:Ez false (tD vs) .none=some (.im (.bool false)):=rfl;have z3:Um (.bool true)=some (.im (.int 1)):=rfl
  have z4:=At3 (vs:=vs) (c:=c) (by (first|lia|omega))
  have z5:=A7n (v:=vs.getD c .non)
  refine⟨some (.im (tD vs)),?_⟩
  wp_walk using Z9,e1,e2,En,kc,z1,z2,z3,z4,z5,lrK,hl
theorem A5x {w:Wd}{s c:Nat}(A:At w s c){s0 s1 s2:m_}:∃a b d,forL (cgT 2 (Cv (cgN 6) (Cv (cgN 7) Hq))) Z9 (M7 (w.rows.map Ds)) [s0,s1,s2,some (.im (.int (s:Nat))),some (.im (.int (c:Nat))),some (.ls false []),none,none,none] =
 .nx [s0,s1,s2,some (.im (.int (s:Nat))),some (.im (.int (c:Nat))),some (.ls false ((List.range w.rows.length).map (gq (kys w.rows s c)))),a,b,d]:=by
 obtain⟨c',e,a,b,d,rfl⟩:=G5 (g:=cgT 2 (Cv (cgN 6) (Cv (cgN 7) Hq))) (body:=Z9) (items:=M7 (w.rows.map Ds)) (n:=0) (c:=[s0,s1,s2,some (.im (.int (s:Nat))),some (.im (.int (c:Nat))),some (.ls false []),none,none,none])
  (P:=fun k e=>∃a b d,e=[s0,s1,s2,some (.im (.int (s:Nat))),some (.im (.int (c:Nat))),some (.ls false ((List.range k).map (gq (kys w.rows s c)))),a,b,d]) ⟨none,none,none,rfl⟩ (fun k d e hd hP=>by
   rw[aX]at hP ⊢;obtain⟨a,b,z,rfl⟩:=hP;rw[Aj7]at hd;obtain⟨j,hj,rfl⟩:=Fp hd
   have hk:k<w.rows.length:=by
    rcases aW k w.rows.length with q | q
    ·exact q
    ·rw[cR (by rw[bW];exact q)]at hj;cases hj
   rw[eU hk]at hj
   cases hj
   obtain⟨z,e⟩:=A6h A hk (s0:=s0) (s1:=s1) (s2:=s2) (a:=a) (b:=b) (d:=z) (acc:=(List.range k).map (gq (kys w.rows s c))) (by rw[ao,bW];have:=A.ok.rlen;(first|lia|omega))
   refine⟨_,.inl e,some (.im (.int (k:Nat))),some (.im (Ds (w.rows.getD k ([],[])))),z,?_⟩
   rw[List.range_succ,cj];rfl)
 rw[aX,Aj7,ao,bW,<- Aj7]at e;exact⟨a,b,d,e⟩
theorem Al7 {w:Wd}{hv:j0}{x:t_}(h:w.Ok)(hb:VBs hv)(n:hv∉w.heads):Ft [.im w.d,.im (tD hv),.im x]=.ret (.im (.str "NoHead")) [.im w.d,.im (tD hv),.im x]:=by
 have e:=O9 (neg:=true) hb (Fb h);rw[aK n]at e;have e:Jo true (tD hv) (hT w.heads)=some (.im (.bool true)):=e
 wp_walk using Ft,Lb,ix3 w,e
abbrev lC (x:Str):w5:=[.str "NoColumn",.str x]
theorem A0a {w:Wd}{hv:j0}{x:Str}(h:w.Ok)(m:hv∈w.heads)(hx:x∈names13)(n:x∉w.vals):Ft [.im w.d,.im (tD hv),.im (.str x)]=.ret (.ls false (lC x)) [.im w.d,.im (tD hv),.im (.str x)]:=by
 have e:=O9 (neg:=true) (Fb h hv m) (Fb h);rw[az m]at e;have e:Jo true (tD hv) (hT w.heads)=some (.im (.bool false)):=e;have e1:=Ss hx (Ii h);rw[aK n]at e1
 wp_walk using Ft,Lb,ix3 w,e,ix2 w,e1
theorem Bo4 {w:Wd}{hv:j0}{x:Str}{p:List Nat}(h:w.Ok)(m:hv∈w.heads)(mx:x∈w.vals)(pm:p.Perm (List.range w.rows.length))(pw:p.Pairwise (PS.Rr (klt (kys w.rows (fnd hv w.heads) (fnd x w.vals))))) :
 Ft [.im w.d,.im (tD hv),.im (.str x)]=.ret (.im (w.ar p).d) [.im w.d,.im (tD hv),.im (.str x)]:=by
 have A:At w (fnd hv w.heads) (fnd x w.vals):=⟨h,X7 m,X7 mx⟩;have r12:=h.rlen;have lk:(kys w.rows (fnd hv w.heads) (fnd x w.vals)).length=w.rows.length:=ao _
 obtain⟨q,qm,qw,es⟩:=Bk8 (A5u A) (by rw[lk];(first|lia|omega))
 rw[lk]at qm es;have pq:q=p:=Ad6 (Bb9 (Xj _)) (qm.trans pm.symm) qw pw;subst pq;have e:=O9 (neg:=true) (Fb h hv m) (Fb h);rw[az m]at e;have e:Jo true (tD hv) (hT w.heads)=some (.im (.bool false)):=e;have hx:x∈names13:=.tail _ (Ii h x mx);have e1:=Ss hx (Ii h);rw[az mx]at e1;have e2:Hx (hT w.heads) (tD hv)=some (.im (.int (fnd hv w.heads:Nat))):=At9 m (Fb h);have e3:=A3p mx (Ii h);obtain⟨a,b,d,el⟩:=A5x A (s0:=some (.im w.d)) (s1:=some (.im (tD hv))) (s2:=some (.im (.str x)))
 have gi:∀k:Nat,Av (gq (kys w.rows (fnd hv w.heads) (fnd x w.vals)) k) (.int 2)=some (.im (.int (k:Nat))):=fun k=>rfl
 have hq:=Io qm
 generalize kys w.rows (fnd hv w.heads) (fnd x w.vals)=ks at *
 obtain⟨cI,eL,z,rfl⟩:=J0 (g:=cgN 0) (ft:=Cz) (fe:=cOp Av (cOp Av (Ad 1) (cC (.int 4))) (cOp Av (Ad 0) (cC (.int 2)))) (I:=fun c=>∃u,c=[u,some (.im w.d)]) (f:=gq ks) (G:=fun k=>Ds (w.rows.getD k ([],[]))) (xs:=q) (acc:=[]) (c:=[none,some (.im w.d)]) ⟨none,rfl⟩
  (fun k c hx hI=>by
   obtain⟨u,rfl⟩:=hI
   refine⟨[some (.im (gq ks k)),some (.im w.d)],?_,_,rfl⟩
   have i1:Av (.tuple (w.rows.map Ds)) (.int (k:Nat))=some (.im (Ds (w.rows.getD k ([],[])))):=A6t (f:=Ds) (d:=([],[])) (hq k hx);have i2:=gi k
   wp_walk using ixW w,i1,i2)
 have eL:Dt (cgN 0) Cz (cOp Av (cOp Av (Ad 1) (cC (.int 4))) (cOp Av (Ad 0) (cC (.int 2)))) (q.map (gq ks)) [] [none,some (.im w.d)]=.ok ((w.ar q).rows.map Ds) [z,some (.im w.d)]:=by
  rw[dC]at eL
  refine eL.trans ?_
  show _=R.ok ((atP (([],[]):Rw) w.rows q).map Ds) _
  unfold atP;rw[cW];rfl
 have lq:q.length<=12:=by rw[qm.length_eq,bW];exact r12
 have e6:cLC [none,some 0] (Fd (cUn Oj (Ad 5))) (cgN 0) Cz (cOp Av (cOp Av (Ad 1) (cC (.int 4))) (cOp Av (Ad 0) (cC (.int 2)))) [some (.im w.d),some (.im (tD hv)),some (.im (.str x)),some (.im (.int (fnd hv w.heads:Nat))),some (.im (.int (fnd x w.vals:Nat))),some (.ls false ((List.range w.rows.length).map (gq ks))),a,b,d]=.ok (.o (.ls false ((w.ar q).rows.map Ds))) [some (.im w.d),some (.im (tD hv)),some (.im (.str x)),some (.im (.int (fnd hv w.heads:Nat))),some (.im (.int (fnd x w.vals:Nat))),some (.ls false ((List.range w.rows.length).map (gq ks))),a,b,d] :=
  Jt (ds:=q.map (gq ks)) (c1:=[some (.im w.d),some (.im (tD hv)),some (.im (.str x)),some (.im (.int (fnd hv w.heads:Nat))),some (.im (.int (fnd x w.vals:Nat))),some (.ls false ((List.range w.rows.length).map (gq ks))),a,b,d]) (by wp_walk using Fd,es) (by rw[ao];(first|lia|omega)) eL rfl
 have e8:Cj (.tuple [nD w.key,nD w.names,nD w.vals,hT w.heads]) (.tuple [.tuple ((w.ar q).rows.map Ds)])=some (.im (w.ar q).d):=rfl
 refine Sh (p:=.o (.im (w.ar q).d)) (c:=[some (.im w.d),some (.im (tD hv)),some (.im (.str x)),some (.im (.int (fnd hv w.heads:Nat))),some (.im (.int (fnd x w.vals:Nat))),some (.ls false ((List.range w.rows.length).map (gq ks))),a,b,d]) ?_ rfl (by wp_walk using bC)
 show Lb [some (.im w.d),some (.im (tD hv)),some (.im (.str x)),none,none,none,none,none,none]=_
 unfold Lb
 refine (Bp (c':=[some (.im w.d),some (.im (tD hv)),some (.im (.str x)),none,none,none,none,none,none]) (by wp_walk using ix3 w,e)).trans ?_
 refine (Bp (c':=[some (.im w.d),some (.im (tD hv)),some (.im (.str x)),none,none,none,none,none,none]) (by wp_walk using ix2 w,e1)).trans ?_
 refine (Bp (c':=[some (.im w.d),some (.im (tD hv)),some (.im (.str x)),some (.im (.int (fnd hv w.heads:Nat))),some (.im (.int (fnd x w.vals:Nat))),none,none,none,none]) (by
  have t2:Gs (nD w.vals)=true:=rfl;have t3:Gs (hT w.heads)=true:=rfl;have l2:Lx (nD w.vals)=false:=rfl;have l3:Lx (hT w.heads)=false:=rfl
  wp_walk using ix3 w,ix2 w,A0f,t2,t3,l2,l3,mtR,e2,e3)).trans ?_
 refine (Bp (c':=[some (.im w.d),some (.im (tD hv)),some (.im (.str x)),some (.im (.int (fnd hv w.heads:Nat))),some (.im (.int (fnd x w.vals:Nat))),some (.ls false []),none,none,none]) (by wp_walk using bC)).trans ?_
 refine (Bp ((Su (ds:=M7 (w.rows.map Ds)) (c1:=[some (.im w.d),some (.im (tD hv)),some (.im (.str x)),some (.im (.int (fnd hv w.heads:Nat))),some (.im (.int (fnd x w.vals:Nat))),some (.ls false []),none,none,none]) (by wp_walk using A7s,ixW w,U.Lq)).trans el)).trans ?_
 wp_walk using slW w,e6,Cg,e8
abbrev tH:t_:=.str "NoHead"
theorem A9t:Gr [.ty (.xc nH)]=.ret (.im tH) [.ty (.xc nH)]:=rfl
theorem Bb7 (x:Str):Gr [.ty (.xc (nC x))]=.ret (.im (.str "NoColumn")) [.ty (.xc (nC x))]:=rfl
theorem B4e:(Str.ofString "NoHead" == Str.ofString "NoColumn")=false:=by decide +kernel
theorem B4a:(Str.ofString "NoHead" == Str.ofString "NoHead")=true:=by decide +kernel
theorem B3v:(Str.ofString "NoColumn" == Str.ofString "NoColumn")=true:=by decide +kernel
theorem Z7 {a b c:t_}(e:Cu [a,b,c]=.ex nH):Ec [.im a,.im b,.im c]=.ret (.im tH) [.im a,.im b,.im c]:=by
 have h1:=B4e;have h2:=B4a;have h3:=A9t
 wp_walk using Ec,Ms,e,h1,h2,h3
theorem Aq0 {a b:t_}{x:Str}(e:Cu [a,b,.str x]=.ex (nC x)):Ec [.im a,.im b,.im (.str x)]=.ret (.im (.list (lC x))) [.im a,.im b,.im (.str x)]:=by
 have h1:=B3v;have h3:=Bb7 x
 wp_walk using Ec,Ms,e,h1,h3
theorem Bf8 {a b c d:t_}(e:Cu [a,b,c]=.ret (.im d)):Ec [.im a,.im b,.im c]=.ret (.im d) [.im a,.im b,.im c]:=by
 wp_walk using Ec,Ms,e
theorem Bp9 {w:Wd}(h:w.Ok):Ul w.d=some (.im (.str w.d.shown)):=Ap0 (Wd.good h) (by decide) (by decide) rfl
theorem Bt5 {w:Wd}(h:w.Ok):Bs 8 [.im w.d,.im w.d]=.ret (.im (.bool true)) [.im w.d,.im w.d]:=Px (n:=8) (Wd.good h) (by decide) (by decide) (by decide)
theorem Br8:Bs 8 [.im tH,.im tH]=.ret (.im (.bool true)) [.im tH,.im tH]:=Px (n:=8) (Zy "NoHead" (by decide +kernel)) (by decide) (by decide) (by decide)
theorem Bn7 {x:Str}(hx:x∈names13):Bs 8 [.im (.list (lC x)),.im (.list (lC x))]=.ret (.im (.bool true)) [.im (.list (lC x)),.im (.list (lC x))] :=
 Px (n:=8) (Good.lst (ds:=lC x) (n:=0) (w:=1921) (k:=2) (fun d hd=>by
  simp only[au,bf,bB]at hd
  rcases hd with rfl | rfl
  ·exact Zy "NoColumn" (by decide +kernel)
  ·exact Ej (O8 hx).2.2) (ak _)) (by decide) (by decide) (by decide)
def oth:k_:=[[.str "nowhere"],[],[.non],[.int 7,.int 7],[.str "a"]]
theorem A5o:∀t∈oth,VBs t:=by
 intro t ht
 have:(oth.all fun t=>t.all vb)=true:=by decide +kernel
 exact fun v hv=>aU.mp (aU.mp this t ht) v hv
theorem Sv {α:Type}{f:α->t_}{l:List α}{r:Int}(h0:0<=r)(h1:r<l.length):∃x,x∈l/\Av (.list (l.map f)) (.int r)=some (.im (f x))/\Av (.tuple (l.map f)) (.int r)=some (.im (f x)):=by
 obtain⟨x,hx,hm,_⟩:=Qh (l:=l.map f) (r:=r) h0 (by rw[ao];exact h1)
 obtain⟨t,ht,rfl⟩:=aJ.mp hm
 refine⟨t,ht,?_,?_⟩
 ·show (atI (l.map f) r).map (fun d=>O.im d)=_
  rw[hx];rfl
 ·show (atI (l.map f) r).map (fun d=>O.im d)=_
  rw[hx];rfl
theorem B2m {hs:k_}(H:HK hs):Cp true (hT hs) (.tuple [])=some (.im (.bool (!decide (hs=[])))):=by
 have g:Good (hT hs) 2 480000:=(Good.tup (ds:=hs.map tD) (n:=1) (w:=7696) (k:=62) (fun d hd=>by obtain⟨t,ht,rfl⟩:=aJ.mp hd;exact B3u (H.vb t ht)) (by rw[ao];have:=H.len;(first|lia|omega))).mono (by decide) (by decide)
 rw[A2s g (n':=1) (w':=4) ⟨rfl,rfl,rfl,by decide,by decide⟩ (by decide) (by decide)]
 cases hs with
 | nil=>rfl
 | cons h hs=>rfl
theorem B3m {w:Wd}(h:w.Ok):HK w.heads:=⟨h.hnd,fun x hx=>⟨(h.heads x hx).2,by rw[(h.heads x hx).1];exact aj h.nlen (by decide)⟩,aj h.hlen (by decide)⟩
abbrev X2 (x:O):Prop:=x=.ls false (oth.map tD)\/x=.im (hL oth)
abbrev X3 (ns:v4)(x:O):Prop:=x=.ls false (ns.map PyData.str)\/x=.im (.list (ns.map PyData.str))
theorem Bv1 {w:Wd}(h:w.Ok){n:Nat}{ds:w5}(hb:Bx n ds)(hn:n<2 ^ 39){x2:O}(hx:X2 x2){s3 s4 s5 s6 s7 s8:m_}(rest:Ev->SR):∃(ds':w5) (hv:j0),VBs hv/\Bx (n+3) ds' /\
 Az stA (Az stB rest) [some (.ls true ds),some (.im w.d),some x2,s3,s4,s5,s6,s7,s8]=rest [some (.ls true ds'),some (.im w.d),some (.im (hL oth)),s3,s4,some (.im (tD hv)),s6,s7,s8]:=by
 obtain⟨r,d1,b1,r0,r1,e1⟩:=Bu (m:=5) hb (by (first|lia|omega)) (by decide) (by decide)
 obtain⟨t,mt,i1,_⟩:=Sv (f:=tD) (l:=oth) (r:=r) r0 r1
 have a1:stA [some (.ls true ds),some (.im w.d),some x2,s3,s4,s5,s6,s7,s8]=.nx [some (.ls true d1),some (.im w.d),some (.im (hL oth)),s3,s4,some (.im (tD t)),s6,s7,s8]:=by
  rcases hx with rfl | rfl <;> wp_walk using stA,e1,i1
 have q:=B2m (B3m h)
 by_cases e:w.heads=[]
 ·rw[az e]at q
  refine⟨d1,t,A5o t mt,b1.mono (by (first|lia|omega)),(Bp a1).trans (Bp ?_)⟩
  wp_walk using stB,ix3 w,q
 ·rw[aK e]at q
  obtain⟨u,d2,b2,u0,u1,e2⟩:=Bu (m:=6) b1 (by (first|lia|omega)) (by decide) (by decide)
  by_cases g:u>0
  ·have lp:0<w.heads.length:=List.length_pos_iff.mpr e
   have l12:=h.hlen
   obtain⟨v,d3,b3,v0,v1,e3⟩:=Bu (m:=(w.heads.length:Int)) b2 (by (first|lia|omega)) (by (first|lia|omega)) (by (first|lia|omega))
   obtain⟨hv,mh,_,i2⟩:=Sv (f:=tD) (l:=w.heads) (r:=v) v0 v1
   have ln:Ku [hT w.heads]=some (.im (.int (w.heads.length:Nat))):=by show some (O.im (.int ((w.heads.map tD).length:Nat)))=_;rw[ao]
   refine⟨d3,hv,Fb h hv mh,b3.mono (by (first|lia|omega)),(Bp a1).trans (Bp ?_)⟩
   wp_walk using stB,ix3 w,q,e2,Ap1,g,ln,e3,i2
  ·refine⟨d2,t,A5o t mt,b2.mono (by (first|lia|omega)),(Bp a1).trans (Bp ?_)⟩
   wp_walk using stB,ix3 w,q,e2,Ap1,g
theorem Bo7 {w:Wd}(h:w.Ok){n:Nat}{ds:w5}(hb:Bx n ds)(hn:n<2 ^ 39){x3:O}{ns:v4}(hx:X3 ns x3)(hns:∀y∈ns,y∈names13)(n0:0<ns.length)(n1:ns.length<=60){s2 s4 s5 s6 s7 s8:m_}(rest:Ev->SR):∃(ds':w5) (x:Str) (y3:O),x∈names13/\X3 ns y3/\Bx (n+3) ds' /\
 Az stC (Az stD rest) [some (.ls true ds),some (.im w.d),s2,some x3,s4,s5,s6,s7,s8]=rest [some (.ls true ds'),some (.im w.d),s2,some y3,s4,s5,some (.im (.str x)),s7,s8]:=by
 have vp:=h.vpos;have v5:=h.vlen
 obtain⟨r,d1,b1,r0,r1,e1⟩:=Bu (m:=(w.vals.length:Int)) hb (by (first|lia|omega)) (by (first|lia|omega)) (by (first|lia|omega))
 obtain⟨x,mx,_,i1⟩:=Sv (f:=PyData.str) (l:=w.vals) (r:=r) r0 r1;have i1:Av (nD w.vals) (.int r)=some (.im (.str x)):=i1
 have ln:Ku [nD w.vals]=some (.im (.int (w.vals.length:Nat))):=by show some (O.im (.int ((w.vals.map PyData.str).length:Nat)))=_;rw[ao]
 have a1:stC [some (.ls true ds),some (.im w.d),s2,some x3,s4,s5,s6,s7,s8]=.nx [some (.ls true d1),some (.im w.d),s2,some x3,s4,s5,some (.im (.str x)),s7,s8]:=by wp_walk using stC,ix2 w,ln,e1,i1
 obtain⟨u,d2,b2,u0,u1,e2⟩:=Bu (m:=6) b1 (by (first|lia|omega)) (by decide) (by decide)
 by_cases g:u=0
 ·subst g
  obtain⟨v,d3,b3,v0,v1,e3⟩:=Bu (m:=(ns.length:Int)) b2 (by (first|lia|omega)) (by (first|lia|omega)) (by (first|lia|omega))
  obtain⟨y,my,i2,_⟩:=Sv (f:=PyData.str) (l:=ns) (r:=v) v0 v1
  have l2:Ku [.list (ns.map PyData.str)]=some (.im (.int (ns.length:Nat))):=by show some (O.im (.int ((ns.map PyData.str).length:Nat)))=_;rw[ao]
  refine⟨d3,y,.im (.list (ns.map PyData.str)),hns y my,.inr rfl,b3.mono (by (first|lia|omega)),(Bp a1).trans (Bp ?_)⟩
  have dt:decide ((0:Int)=0)=true:=rfl
  rcases hx with rfl | rfl <;> wp_walk using stD,e2,Jp,dt,l2,e3,i2
 ·refine⟨d2,x,x3,.tail _ (Ii h x mx),hx,b2.mono (by (first|lia|omega)),(Bp a1).trans (Bp ?_)⟩
  wp_walk using stD,e2,Jp,aK g
theorem B0n {w:Wd}(h:w.Ok):Cp true (.str w.d.shown) (.str w.d.shown)=some (.im (.bool false)):=by rw[A8e];simp
theorem Bh6 (f:t_):Eb .tuple f=some (.im (.bool (Gs f))):=by cases f <;> rfl
theorem Bx4 {w:Wd}(h:w.Ok){hv:j0}(hb:VBs hv){x:Str}(hx:x∈names13){s0 s2 s3 s4 s7 s8:m_}(rest:Ev->SR):∃f:t_,(Gs f=true->∃p,p.Perm (List.range w.rows.length)/\f=(w.ar p).d) /\
 Az stE (Az stF (Az stG rest)) [s0,some (.im w.d),s2,s3,s4,some (.im (tD hv)),some (.im (.str x)),s7,s8]=rest [s0,some (.im w.d),s2,s3,s4,some (.im (tD hv)),some (.im (.str x)),some (.im (.str w.d.shown)),some (.im f)]:=by
 have es:=Bp9 h;have q:=B0n h
 have a1:∀s7 s8:m_,stE [s0,some (.im w.d),s2,s3,s4,some (.im (tD hv)),some (.im (.str x)),s7,s8]=.nx [s0,some (.im w.d),s2,s3,s4,some (.im (tD hv)),some (.im (.str x)),some (.im (.str w.d.shown)),s8]:=fun s7 s8=>by wp_walk using stE,es
 have fin:∀(f:t_) (o:O),(o=.im f\/∃ds,o=.ls false ds/\f=.list ds)->Ec [.im w.d,.im (tD hv),.im (.str x)]=.ret (.im f) [.im w.d,.im (tD hv),.im (.str x)]->Ft [.im w.d,.im (tD hv),.im (.str x)]=.ret o [.im w.d,.im (tD hv),.im (.str x)]->Bs 8 [.im f,.im f]=.ret (.im (.bool true)) [.im f,.im f] ->
  Az stE (Az stF (Az stG rest)) [s0,some (.im w.d),s2,s3,s4,some (.im (tD hv)),some (.im (.str x)),s7,s8]=rest [s0,some (.im w.d),s2,s3,s4,some (.im (tD hv)),some (.im (.str x)),some (.im (.str w.d.shown)),some (.im f)]:=fun f o ho e1 e2 e3=>by
  refine (Bp (a1 s7 s8)).trans ((Bp (c':=[s0,some (.im w.d),s2,s3,s4,some (.im (tD hv)),some (.im (.str x)),some (.im (.str w.d.shown)),some (.im f)]) (by wp_walk using stF,e1)).trans (Bp ?_))
  rcases ho with rfl | ⟨ds,rfl,rfl⟩
  ·wp_walk using stG,e2,e3,es,q
  ·wp_walk using stG,e2,e3,es,q
 by_cases m:hv∈w.heads
 ·by_cases mx:x∈w.vals
  ·obtain⟨p,pm,pw,e⟩:=B1b h m mx
   exact⟨(w.ar p).d,fun _=>⟨p,pm,rfl⟩,fin _ _ (.inl rfl) (Bf8 e) (Bo4 h m mx pm pw) (Bt5 (Au3 h pm))⟩
  ·exact⟨.list (lC x),(fun z=>(nomatch z)),fin _ _ (.inr ⟨_,rfl,rfl⟩) (Aq0 (A5z h m hx mx)) (A0a h m hx mx) (Bn7 hx)⟩
 ·exact⟨tH,(fun z=>(nomatch z)),fin _ _ (.inl rfl) (Z7 (A0s h hb m)) (Al7 h hb m) Br8⟩
theorem Bw5 {w:Wd}(h:w.Ok){f:t_}(hf:Gs f=true->∃p,p.Perm (List.range w.rows.length)/\f=(w.ar p).d){n:Nat}{ds:w5}(hb:Bx n ds)(hn:n<2 ^ 39){s2 s3 s4 s5 s6 s7:m_}:∃(w':Wd) (ds':w5),w'.Ok/\Bx (n+2) ds' /\
 stH [some (.ls true ds),some (.im w.d),s2,s3,s4,s5,s6,s7,some (.im f)]=.nx [some (.ls true ds'),some (.im w'.d),s2,s3,s4,s5,s6,s7,some (.im f)]:=by
 have et:Eb .tuple f=some (.im (.bool (Gs f))):=Bh6 f
 cases e:Gs f with
 | false =>
  rw[e]at et
  refine⟨w,ds,h,hb.mono (by (first|lia|omega)),?_⟩
  wp_walk using stH,et
 | true =>
  rw[e]at et;obtain⟨p,pm,rfl⟩:=hf e
  obtain⟨u,d1,b1,u0,u1,e1⟩:=Bu (m:=2) hb (by (first|lia|omega)) (by decide) (by decide)
  by_cases g:u=0
  ·subst g
   have ok:=Au3 h pm
   obtain⟨v,d2,b2,v0,v1,e2⟩:=Bu (m:=2) b1 (by (first|lia|omega)) (by decide) (by decide)
   have dt:decide ((0:Int)=0)=true:=rfl
   rcases (show v=0\/v=1 by (first|lia|omega)) with rfl | rfl
   ·obtain⟨q,I⟩:=Ai4 (A6p ok)
    have e3:=Rh ok I
    have qm:q.Perm (List.range (w.ar p).rows.length):=by have:=I.pm;rw[ao]at this;exact this
    have i1:Av (.list [.str "falling",.str "seen"]) (.int 0)=some (.im aF):=rfl
    refine⟨(w.ar p).ar q,d2,Au3 ok qm,b2.mono (by (first|lia|omega)),?_⟩
    generalize w.ar p=z at *
    wp_walk using stH,et,e1,Jp,dt,e2,i1,e3
   ·have I:=Bc5 (hs:=ptD (w.ar p))
    have e3:=Rh ok I;have qm:=I.pm;rw[ao]at qm;have i1:Av (.list [.str "falling",.str "seen"]) (.int 1)=some (.im aS):=rfl
    refine⟨(w.ar p).ar (List.range (ptD (w.ar p)).length),d2,Au3 ok (by rw[ao]),b2.mono (by (first|lia|omega)),?_⟩
    generalize w.ar p=z at *
    wp_walk using stH,et,e1,Jp,dt,e2,i1,e3
  ·refine⟨w,d1,h,b1.mono (by (first|lia|omega)),?_⟩
   wp_walk using stH,et,e1,Jp,aK g
theorem A6c {a b:w5}(h:a.length+b.length<=16000000):Cj (.list a) (.list b)=some (.ls false (a++b)):=by
 show (if a.length+b.length<=16000000 then some (O.ls false (a++b)) else none)=_
 rw[if_pos h]
theorem A6l {n:Nat}{ds:w5}(hb:Bx n ds)(hn:n<2 ^ 34):∃ds',J6 [.ls true ds]=.ret (.im (.bool true)) [.ls true ds']:=by
 obtain⟨r,d0,b0,r0,r1,e0⟩:=Bu (m:=2) hb (by (first|lia|omega)) (by decide) (by decide)
 have eq0:Cp false (.int r) (.int 0)=some (.im (.bool (decide (r=0)))):=Jp
 obtain⟨w,d1,h,_,b1,e1⟩:=Bd8 (num:=decide (r=0)) b0 (by (first|lia|omega))
 let ns:v4:=[Str.ofString "nowhere",Str.ofString "a",Str.ofString "zz"]++w.key++w.names
 have hns:∀y∈ns,y∈names13:=fun y hy=>by
  rcases bx.mp hy with hy | hy
  ·rcases bx.mp hy with hy | hy
   ·have:([Str.ofString "nowhere",Str.ofString "a",Str.ofString "zz"]:v4).all (fun y=>names13.contains y)=true:=by decide +kernel
    simpa using aU.mp this y hy
   ·exact .tail _ (h.nms.sub y (bz _ (bz _ hy)))
  ·exact .tail _ (h.nms.sub y (bz _ (aC _ hy)))
 have k2:=h.klen;have n2:=h.nlen
 have l0:0<ns.length:=by show 0<(_++w.key++w.names).length;simp
 have l60:ns.length<=60:=by show ([Str.ofString "nowhere",Str.ofString "a",Str.ofString "zz"]++w.key++w.names).length<=60;simp;(first|lia|omega)
 have ek:Nz (nD w.key)=some (.ls false (w.key.map PyData.str)):=rfl;have en:Nz (nD w.names)=some (.ls false (w.names.map PyData.str)):=rfl
 have a1:Cj (.list [.str "nowhere",.str "a",.str "zz"]) (.list (w.key.map PyData.str))=some (.ls false ([.str "nowhere",.str "a",.str "zz"]++w.key.map PyData.str)):=A6c (by simp;(first|lia|omega))
 have a2:Cj (.list ([.str "nowhere",.str "a",.str "zz"]++w.key.map PyData.str)) (.list (w.names.map PyData.str))=some (.ls false (ns.map PyData.str)):=by
  rw[A6c (by simp;(first|lia|omega))]
  show _=some (O.ls false (([Str.ofString "nowhere",Str.ofString "a",Str.ofString "zz"]++w.key++w.names).map PyData.str))
  rw[cj,cj];rfl
 generalize ([.str "nowhere",.str "a",.str "zz"]++w.key.map PyData.str:w5)=z1 at a1 a2
 generalize ns=ns at *
 obtain⟨c',e,w',d3,x2,x3,t4,t5,t6,t7,t8,rfl,_,_,_,_⟩:=G5 (g:=cgN 4) (body:=B1x) (items:=Jm 0 4) (n:=0) (c:=[some (.ls true d1),some (.im w.d),some (.ls false (oth.map tD)),some (.ls false (ns.map PyData.str)),none,none,none,none,none])
  (P:=fun k c=>∃w' d3 x2 x3 t4 t5 t6 t7 t8,c=[some (.ls true d3),some (.im (Wd.d w')),some x2,some x3,t4,t5,t6,t7,t8]/\Wd.Ok w'/\Bx (n+3010+8*k) d3/\X2 x2/\X3 ns x3)
  ⟨w,d1,_,_,none,none,none,none,none,rfl,h,b1.mono (by (first|lia|omega)),.inl rfl,.inl rfl⟩ (fun k d c hd hP=>by
   rw[aX]at hP ⊢;obtain⟨w,d3,x2,x3,t4,t5,t6,t7,t8,rfl,h,b3,h2,h3⟩:=hP;obtain⟨rfl,hk⟩:=Mp hd
   obtain⟨d4,hv,vb,b4,e4⟩:=Bv1 h b3 (by (first|lia|omega)) h2 (s3:=some x3) (s4:=some (.im (.int (0+(k:Int))))) (s5:=t5) (s6:=t6) (s7:=t7) (s8:=t8) (Az stC (Az stD (Az stE (Az stF (Az stG stH)))))
   obtain⟨d5,x,y3,hx,h3',b5,e5⟩:=Bo7 h b4 (by (first|lia|omega)) h3 hns l0 l60 (s2:=some (.im (hL oth))) (s4:=some (.im (.int (0+(k:Int))))) (s5:=some (.im (tD hv))) (s6:=t6) (s7:=t7) (s8:=t8) (Az stE (Az stF (Az stG stH)))
   obtain⟨f,hf,e6⟩:=Bx4 h vb hx (s0:=some (.ls true d5)) (s2:=some (.im (hL oth))) (s3:=some y3) (s4:=some (.im (.int (0+(k:Int))))) (s7:=t7) (s8:=t8) stH
   obtain⟨w',d6,h',b6,e7⟩:=Bw5 h hf b5 (by (first|lia|omega)) (s2:=some (.im (hL oth))) (s3:=some y3) (s4:=some (.im (.int (0+(k:Int))))) (s5:=some (.im (tD hv))) (s6:=some (.im (.str x))) (s7:=some (.im (.str w.d.shown)))
   refine⟨_,.inl ?_,w',d6,.im (hL oth),y3,some (.im (.int (0+(k:Int)))),some (.im (tD hv)),some (.im (.str x)),some (.im (.str w.d.shown)),some (.im f),rfl,h',b6.mono (by (first|lia|omega)),.inr rfl,h3'⟩
   unfold Q5
   rw[show cgN 4 (.o (.im (.int (0+(k:Int))))) [some (.ls true d3),some (.im w.d),some x2,some x3,t4,t5,t6,t7,t8]=.ok () [some (.ls true d3),some (.im w.d),some x2,some x3,some (.im (.int (0+(k:Int)))),t5,t6,t7,t8] from by wp_walk using bC]
   exact e4.trans (e5.trans (e6.trans e7)))
 refine⟨d3,Sh (p:=.o (.im (.bool true))) (c:=[some (.ls true d3),some (.im w'.d),some x2,some x3,t4,t5,t6,t7,t8]) ?_ rfl (by wp_walk using bC)⟩
 show Ng [some (.ls true ds),none,none,none,none,none,none,none,none]=_
 unfold Ng
 refine (Bp (c':=[some (.ls true d1),some (.im w.d),none,none,none,none,none,none,none]) (by wp_walk using e0,eq0,e1)).trans ?_
 refine (Bp (c':=[some (.ls true d1),some (.im w.d),some (.ls false (oth.map tD)),none,none,none,none,none,none]) (by wp_walk;rfl)).trans ?_
 refine (Bp (c':=[some (.ls true d1),some (.im w.d),some (.ls false (oth.map tD)),some (.ls false (ns.map PyData.str)),none,none,none,none,none]) (by wp_walk using ix0 w,ix1 w,ek,en,a1,a2)).trans ?_
 refine (Bp ((Su (ds:=Jm 0 4) (c1:=[some (.ls true d1),some (.im w.d),some (.ls false (oth.map tD)),some (.ls false (ns.map PyData.str)),none,none,none,none,none]) (by wp_walk using bC)).trans e)).trans ?_
 wp_walk using bC
theorem A4o:∀ns:List Int,ns.length<=63->An3 [.sc ns]=.ret (.im (.bool true)) [.sc ns]:=by
 intro ns hns
 have hm:∃m:Nat,m<=12/\Kv (cOp Yu (cC (.int 3)) (cOp Ye (Ja (Ad 0)) (cC (.int 12)))) [some (.sc ns),none]=.ok (Jm 0 m) [some (.sc ns),none]:=by
  obtain⟨a,ha⟩:∃a:Int,a=(if (12:Int)<(ns.length:Int) then 12 else (ns.length:Int)):=⟨_,rfl⟩
  have a12:a<=12:=by rw[ha];split <;> (first|lia|omega)
  obtain⟨b,hb⟩:∃b:Int,b=(if a>(3:Int) then a else 3):=⟨_,rfl⟩
  have b12:3<=b/\b<=12:=by rw[hb];split <;> (first|lia|omega)
  obtain⟨m,hm⟩:=cX (show 0<=b by (first|lia|omega))
  refine⟨m,by (first|lia|omega),?_⟩
  rw[hm]at hb
  wp_walk using Ye,ha.symm,Yu,hb.symm,show (m:Int)<=16000000/\-16000000<=(m:Int) by (first|lia|omega),cP
 obtain⟨m,m12,em⟩:=hm
 have loop:=G5 (g:=cgN 1) (body:=S9) (items:=Jm 0 m) (n:=0) (c:=[some (.sc ns),none])
  (P:=fun _ c=>∃a,c=[some (.sc ns),a]) ⟨_,rfl⟩ (fun k d c hd hP=>by
   obtain⟨a,rfl⟩:=hP;obtain⟨rfl,hk⟩:=Mp hd
   obtain⟨db,bb,e1⟩:=By4 (ns:=ns) (k:=k) (by (first|lia|omega))
   obtain⟨d2,e2⟩:=A6l bb (by decide)
   refine⟨[some (.sc ns),some (.im (.int (0+(k:Int))))],.inl ?_,_,rfl⟩
   wp_walk using S9,show (0:Int)+(k:Int)=(k:Int) by (first|lia|omega),e1,e2)
 obtain⟨c',e,a,rfl⟩:=loop
 refine Sh (p:=.o (.im (.bool true))) (c:=[some (.sc ns),a]) ?_ rfl (by wp_walk using bC)
 show Aj0 [some (.sc ns),none]=_
 unfold Aj0
 refine (Bp ((Su em).trans e)).trans ?_
 wp_walk using bC
def top (i:Nat):Stmt:=PySem.Challenge.pw_pivotfold_k34_rows_by_a_head.main.body.getD i (.Pass ⟨0,0,0,0⟩)
abbrev Xb:Stmt:=top 13
theorem Bh4:Bq ["value"] ["value"] (Ar Xb):=⟨rfl,rfl,rfl,by grind,rfl,by decide +kernel,by decide +kernel⟩
abbrev Zb:Stmt:=top 14
theorem A6x:Bq ["values"] ["values"] (Ar Zb):=⟨rfl,rfl,rfl,by grind,rfl,by decide +kernel,by decide +kernel⟩
abbrev N5:Stmt:=top 17
theorem Ah3:Bq ["wide"] ["wide"] (Ar N5):=⟨rfl,rfl,rfl,by grind,rfl,by decide +kernel,by decide +kernel⟩
abbrev G9:Stmt:=top 18
theorem Qn:Bq ["wide", "head"] ["wide", "head"] (Ar G9):=⟨rfl,rfl,rfl,by decide +kernel,rfl,by decide +kernel,by decide +kernel⟩
abbrev N6:Stmt:=top 22
theorem Ag9:Bq ["things", "order"] ["things", "order"] (Ar N6):=⟨rfl,rfl,rfl,by trivial,rfl,by decide +kernel,by decide +kernel⟩
abbrev M8:Stmt:=top 23
theorem zY:Bq ["wide", "order", "cells", "rows"] ["wide", "order"] (Ar M8):=⟨rfl,rfl,rfl,by trivial,rfl,by decide +kernel,by decide +kernel⟩
abbrev Ia:Stmt:=top 24
theorem Ri:Bq ["cell", "place"] ["cell", "place"] (Ar Ia):=⟨rfl,rfl,rfl,by decide +kernel,rfl,by decide +kernel,by decide +kernel⟩
abbrev Nu:Stmt:=top 25
theorem zR:Bq ["wide", "head", "name", "head_place", "place", "rows"] ["wide", "head", "name"] (Ar Nu):=⟨rfl,rfl,rfl,by decide +kernel,rfl,by decide +kernel,by decide +kernel⟩
abbrev Lj:Stmt:=top 27
theorem Yb:Bq ["_law_script", "_law_k"] ["_law_script", "_law_k"] (Ar Lj):=⟨rfl,rfl,rfl,by trivial,rfl,by decide +kernel,by decide +kernel⟩
abbrev Xv:Stmt:=top 28
theorem yJ:Bq ["_law_script", "_law_k", "_law_number_here"] ["_law_script", "_law_k"] (Ar Xv):=⟨rfl,rfl,rfl,by trivial,rfl,by decide +kernel,by decide +kernel⟩
abbrev Ve:Stmt:=top 29
theorem zW:Bq ["_law_box_here", "_law_many_here", "_law_found", "_law_once", "_law_twice"] ["_law_box_here", "_law_many_here"] (Ar Ve):=⟨rfl,rfl,rfl,by trivial,rfl,by decide +kernel,by decide +kernel⟩
abbrev Up:Stmt:=top 30
theorem A2o:Bq ["_law_box_here", "_law_least", "_law_few", "_law_most"] ["_law_box_here", "_law_least", "_law_few", "_law_most"] (Ar Up):=⟨rfl,rfl,rfl,by trivial,rfl,by decide +kernel,by decide +kernel⟩
abbrev Ql:Stmt:=top 31
theorem yE:Bq ["_law_box_here", "_law_many_here", "_law_some"] ["_law_box_here", "_law_many_here"] (Ar Ql):=⟨rfl,rfl,rfl,by trivial,rfl,by decide +kernel,by decide +kernel⟩
abbrev Qo:Stmt:=top 32
theorem yF:Bq ["_law_box_here", "_law_way"] ["_law_box_here"] (Ar Qo):=⟨rfl,rfl,rfl,by trivial,rfl,by decide +kernel,by decide +kernel⟩
abbrev Nf:Stmt:=top 33
theorem Ac2:Bq ["_law_box_here"] ["_law_box_here"] (Ar Nf):=⟨rfl,rfl,rfl,by grind,rfl,by decide +kernel,by decide +kernel⟩
abbrev U4:Stmt:=top 34
theorem zX:Bq ["_law_box_here", "_law_many_here", "_law_found", "_law_turn", "_law_value_here"] ["_law_box_here", "_law_many_here"] (Ar U4):=⟨rfl,rfl,rfl,by trivial,rfl,by decide +kernel,by decide +kernel⟩
abbrev Uy:Stmt:=top 35
theorem A0j:Bq ["_law_value_here"] ["_law_value_here"] (Ar Uy):=⟨rfl,rfl,rfl,by grind,rfl,by decide +kernel,by decide +kernel⟩
abbrev Nr:Stmt:=top 36
theorem zM:Bq ["_law_box_here", "_law_wide_here", "_law_many_here", "_law_pool_here", "_law_found", "_law_turn", "_law_one"] ["_law_box_here", "_law_wide_here", "_law_many_here"] (Ar Nr):=⟨rfl,rfl,rfl,by trivial,rfl,by decide +kernel,by decide +kernel⟩
abbrev Ub:Stmt:=top 37
theorem zE:Bq ["_law_box_here", "_law_numbers", "_law_names_here", "_law_a", "_law_b", "_law_c", "_law_stem", "_law_over", "_law_values", "_law_heads", "_law_often", "_law_rows", "_law_part", "_law_cells", "_law_head", "_law_one"] ["_law_box_here", "_law_numbers"] (Ar Ub):=⟨rfl,rfl,rfl,by trivial,rfl,by decide +kernel,by decide +kernel⟩
abbrev Oo:Stmt:=top 38
theorem A1d:Bq ["_law_found", "_law_due_here"] ["_law_found", "_law_due_here"] (Ar Oo):=⟨rfl,rfl,rfl,by trivial,rfl,by decide +kernel,by decide +kernel⟩
abbrev Pu:Stmt:=top 40
theorem zU:Bq ["_law_error", "_law_marks", "_law_others"] ["_law_error"] (Ar Pu):=⟨rfl,rfl,rfl,by decide +kernel,rfl,by decide +kernel,by decide +kernel⟩
abbrev Tz:Stmt:=top 41
theorem zT:Bq ["_law_wide_here", "_law_head", "_law_name", "_law_found", "_law_error"] ["_law_wide_here", "_law_head", "_law_name"] (Ar Tz):=⟨rfl,rfl,rfl,by decide +kernel,rfl,by decide +kernel,by decide +kernel⟩
abbrev Xq:Stmt:=top 42
theorem zP:Bq ["_law_wide_here", "_law_head", "_law_name", "_law_spot", "_law_place", "_law_rows", "_law_k", "_law_row", "_law_inner"] ["_law_wide_here", "_law_head", "_law_name"] (Ar Xq):=⟨rfl,rfl,rfl,by decide +kernel,rfl,by decide +kernel,by decide +kernel⟩
abbrev Qq:Stmt:=top 43
theorem zB:Bq ["_law_box_here", "_law_wide_here", "_law_others", "_law_names_here", "_law_turn", "_law_head", "_law_name", "_law_before", "_law_found"] ["_law_box_here"] (Ar Qq):=⟨rfl,rfl,rfl,by decide +kernel,rfl,by decide +kernel,by decide +kernel⟩
abbrev A8v:Stmt:=top 44
theorem yK:Bq ["_law_script", "_law_k"] ["_law_script"] (Ar A8v):=⟨rfl,rfl,rfl,by trivial,rfl,by decide +kernel,by decide +kernel⟩
section
variable {P:u6}{w:World}{K:v9}{mg:x_}{base:Heap}
theorem Bj7 {n:Nat}{f:Addr}{k:u5}(F:Fun K "rank" "rank" Xb f k) (c:Def P w K mg base "rank" (n) ["value"] (spP K (Do n))) (d:mg "int" = none) (a:mg "isinstance" = none) (e:mg "str" = none) (b:mg "tuple" = none):FnOk P w K mg base CX0 (n+1) f k ["value"] (spP K (Do (n+1))):=by
 refine F.ok Bh4 (fun o H Q E h=>Dh h) (fun l A g s H o Q E j h=>?_)
 have p:=j.units;have m:=j.gd
 refine G3 (Ah (Di (Jk (qv 0) Jf) (An (Bf (Df (Af Ag (Af Ag Ae))))) Bo)
  (Ah (Di (Ib (Bw (Kq:=K) rfl rfl a (Af (qv 0) (Af (Dp (v:=.ty "int") rfl d Al0 rfl) Ae)))) (An (Bf (Df (Af Ag (Af (qv 0) Ae))))) Bo)
  (Ah (Di (Ib (Bw (Kq:=K) rfl rfl a (Af (qv 0) (Af (Dp (v:=.ty "str") rfl e Pr rfl) Ae)))) (An (Bf (Df (Af Ag (Af (qv 0) Ae))))) Bo)
  (An (Bf (Df (Af Ag (Af (Bd (Kq:=K) rfl rfl b (Af (by exact(Uv (N':=["each"]) (idx:=[none]) (Jx rfl rfl (by trivial) rfl rfl rfl) rfl (Nt (Kq:=K) rfl (qv 0)) (fun _ _ _ _ _=>by exact(Dq (i:=0) (by grind) rfl (Or.inl rfl))) (fun _ _ _ _ _=>by exact Ip) (fun _ _ _ _ _=>by exact(Br c j (Af (qv 0) Ae))))) Ae)) Ae)))))))) ?_
 exact Dg (Aw (Du (Bh (Ai Aa (Al rfl) Ob)) (Bc (Dj (Ab (Al rfl) (Ab (Al rfl) Ak)))) Bm)
  (Aw (Du (Ti (Fv .int Aa)) (Bc (Dj (Ab (Al rfl) (Ab Aa Ak)))) Bm)
  (Aw (Du (Ti (Fv .str Aa)) (Bc (Dj (Ab (Al rfl) (Ab Aa Ak)))) Bm)
  (Bc (Dj (Ab (Al rfl) (Ab (Bt (Q3 (by decide) (Ni Aa) Ao Lh (Ax (Ab Aa Ak))) Ef) Ak))))))) h
theorem Ad2 {f:Addr}{fd:u5}(F:Fun K "rank" "rank" Xb f fd) (bF:Binds K fd ["value"] []) (mF:mg "rank" = some (.ref f)) (zN:mg "int" = none) (z7:mg "isinstance" = none) (zK:mg "str" = none) (z9:mg "tuple" = none):∀n:Nat,FnOk P w K mg base CX0 (n) f fd ["value"] (spP K (Do n))
 | 0=>A2v
 | n+1=>Bj7 F ⟨f,fd,Ad2 F bF mF zN z7 zK z9 n,bF,F.kp,mF⟩ zN z7 zK z9
theorem A4r {f:Addr}{m:u5}(F:Fun K "risen" "risen" Zb f m) (c:Def P w K mg base "rank" 2 ["value"] (spP K (Do 2))) (a:mg "sorted" = none):FnOk P w K mg base CX0 5 f m ["values"] (spP K Ld):=by
 obtain⟨j,i,b,d,g,e⟩:=c
 refine F.ok A6x (fun p H Q E h=>Dh h) (fun n A k s H p Q E l h=>?_)
 have q:=l.units;have o:=l.gd
 refine G3 (An (Bf (A3n  rfl b (l.mono (by (first|lia|omega))) d rfl a (Af (qv 0) Ae) (Bj3 (Be5 (v:=.ref _) rfl e rfl) Bs6)))) ?_
 exact Dg (Bc (Bn8 Aa)) h
theorem Ah1 {f:Addr}{c:u5}(F:Fun K "parts_of" "parts_of" N5 f c) (a:mg "tuple" = none):FnOk P w K mg base CX0 1 f c ["wide"] (spP K Fz):=by
 refine F.ok Ah3 (fun g H Q E h=>Dh h) (fun j A b s H g Q E d h=>?_)
 have k:=d.units;have e:=d.gd
 refine G3 (An (Bf (Bd (Kq:=K) rfl rfl a (Af (by exact(Uv (N':=["part", "cells"]) (idx:=[none,none]) (Jx rfl rfl (by decide +kernel) rfl rfl rfl) rfl (Nt (Kq:=K) rfl (Be (Kq:=K) rfl (qv 0) Ag Ba)) (fun _ _ _ _ _=>by exact(Am1 (Kq:=K) rfl (n:=2) rfl (Jr (Dq (i:=0) (by show (["part", "cells"]:v4).Nodup;trivial) rfl (Or.inl rfl)) (Jr (Dq (i:=1) (by show (["part", "cells"]:v4).Nodup;decide +kernel) rfl (Or.inl rfl)) Xf)))) (fun _ _ _ _ _=>by exact Ip) (fun _ _ _ _ _=>by exact(qv 0)))) Ae)))) ?_
 exact Dg (Bc (Bt (Q3 (by decide) (Ni (Ai Aa (Al rfl) Ay)) (Ak5 (Ji Ao (Ji Ao Zf))) Lh Aa) Ef)) h
theorem Qf {f:Addr}{fd:u5}(F:Fun K "place_of_head" "place_of_head" G9 f fd) (r_NoHead:ClR K mg "NoHead"):FnOk P w K mg base (CXe P w) 1 f fd ["wide", "head"] (spX K Cy):=by
 obtain⟨gr_NoHead,mr_NoHead,n_NoHead,q_NoHead⟩:=r_NoHead
 refine F.okX Qn (fun vs H Q E h=>As8 h) (fun cdv A outer s H vs Q E hr h=>?_)
 have hu:=hr.units;have hgd:=hr.gd
 refine G3 (Ah (Di (Fi hu (qv 1) (Be (Kq:=K) rfl (qv 0) Ag Ba) (by with_unfolding_all rfl)) (An (A8l Wl rfl rfl mr_NoHead q_NoHead (Af Ed Ae))) Bo)
  (An (Bf (Aq2 (Kq:=K) rfl hu (Be (Kq:=K) rfl (qv 0) Ag Ba) (Af (qv 1) Ae))))) ?_
 exact As1 (Ut (Bm1 (Bh (Ai Aa (Ai Aa (Al rfl) Ay) Hl)) (A3m n_NoHead (Ab (Al rfl) Ak) (fun _ _ _ e=>by cases e;decide)) (Mm Bm))
  (Mm (Bc (Aj5 (Ai Aa (Al rfl) Ay) Aa)))) h
theorem Z8 {f:Addr}{fd:u5}(F:Fun K "in_order" "in_order" N6 f fd) (D_risen:Def P w K mg base "risen" 5 ["values"] (spP K Ld)) (zH:mg "list" = none) (yC:mg "reversed" = none):FnOk P w K mg base CX0 6 f fd ["things", "order"] (spP K Ew):=by
 refine F.ok Ag9 (fun vs H Q E h=>Dh h) (fun cdv A outer s H vs Q E hr h=>?_)
 have hu:=hr.units;have hgd:=hr.gd
 refine G3 (Ah (Di (K5 hu (qv 1) Ed) (An (Bf (Hb (Kq:=K) rfl rfl zH (Af (qv 0) Ae)))) Bo)
  (Ah (Di (K5 hu (qv 1) Ed) (An Vb) Bo)
  (Ah (Di (K5 hu (qv 1) Ed) (An (Bf (An8 (Kq:=K) rfl rfl rfl zH rfl yC (Af (Br D_risen hr (Af (qv 0) Ae)) Ae)))) Bo)
  (Ah Vb
  (An Vb))))) ?_
 exact Dg (Aw (Du (Bh (Ai Aa (Al rfl) Eu)) (Bc (Bt Aa Uo)) Bm)
  (Aw (Du (Bh (Ai Aa (Al rfl) Eu)) Uq Bm)
  (Aw (Du (Bh (Ai Aa (Al rfl) Eu)) (Bc (Bc3 (Ax (Ab Aa Ak)))) Bm)
  (Aw Uq
  Uq)))) h
theorem Ae1 {f:Addr}{j:u5}(F:Fun K "parts_in" "parts_in" M8 f j) (b:Def P w K mg base "parts_of" 1 ["wide"] (spP K Fz)) (a:Def P w K mg base "in_order" 6 ["things", "order"] (spP K Ew)) (d:mg "dict" = none) (c:mg "tuple" = none):FnOk P w K mg base CX0 7 f j ["wide", "order"] (spP K Gb):=by
 refine F.ok zY (fun n H Q E h=>Dh h) (fun m A g s H n Q E e h=>?_)
 have k:=e.units;have l:=e.gd
 refine G3 (Ah (Bl (i:=2) zY.nd rfl (Or.inr rfl) (B3i (Kq:=K) rfl rfl k rfl d (Be (Kq:=K) rfl (qv 0) Ag Ba)))
  (Ah (by exact(A6g (i:=3) zY.nd rfl (Or.inl rfl) (N':=["part", "cells"]) (idx:=[none,some 2]) (Jx rfl rfl (by decide +kernel) rfl rfl rfl) rfl (Nt (Kq:=K) rfl (Br a e (Af (Br b e (Af (qv 0) Ae)) (Af (qv 1) Ae)))) (fun _ _ _ _ _=>by exact(Dq (i:=0) (by show (["part", "cells"]:v4).Nodup;decide +kernel) rfl (Or.inl rfl))) (fun _ _ _ _ _=>by exact Ip) (fun _ _ _ _ _=>by exact(Df (Af (qv 0) (Af (Bx3 k (qv 1) (qv 0) Gx) Ae))))))
  (An (Bf (Dk (Wx (Kq:=K) rfl (qv 0) Sg (Im Ag)) (Df (Af (Bd (Kq:=K) rfl rfl c (Af (qv 3) Ae)) Ae))))))) ?_
 exact Dg (Aw (Bj (B2h (Ai Aa (Al rfl) Ay)) Ao)
  (Aw (Bj (Q3 (by decide) (Ni (Ax (Ab (Ax (Ab Aa Ak)) (Ab Aa Ak)))) Ao Lh (Dj (Ab Aa (Ab (A9w Aa Aa) Ak)))) Ao)
  (Bc (Ai (V0 Aa Sw (Ir (Al rfl)) Mj) (Dj (Ab (Bt Aa Ef) Ak)) Cq)))) h
theorem Rn {f:Addr}{fd:u5}(F:Fun K "rank_in_cell" "rank_in_cell" Ia f fd) (D_rank:Def P w K mg base "rank" 2 ["value"] (spP K (Do 2))):FnOk P w K mg base CX0 3 f fd ["cell", "place"] (spP K Dw):=by
 refine F.ok Ri (fun vs H Q E h=>Dh h) (fun cdv A outer s H vs Q E hr h=>?_)
 have hu:=hr.units;have hgd:=hr.gd
 refine G3 (An (Bf (Br D_rank hr (Af (Pj (Jk (qv 0) Jf) (Df Ae) (Df (Af (Be (Kq:=K) rfl (qv 0) (qv 1) Gx) Ae))) Ae)))) ?_
 exact Dg (Bc (Ax (Ab (Y6 (Bh (Ai Aa (Al rfl) Ob)) (Dj Ak) (Dj (Ab (Ai Aa Aa Ay) Ak))) Ak))) h
theorem Af1 {f:Addr}{fd:u5}(F:Fun K "parts_by" "parts_by" Nu f fd) {c_ T_:Addr} (hT_:(T_,("parts_by" : Str) ++ ".<locals>." ++ "<lambda>")∈Dr K) (hC_:PySem.W.codeHdIn K c_ T_=true) (hD_:fd.code=.ref c_) (D_place_of_head:DefX P w K mg base "place_of_head" 1 ["wide", "head"] (spX K Cy)) (D_rank_in_cell:Def P w K mg base "rank_in_cell" 3 ["cell", "place"] (spP K Dw)) (zO:mg "sorted" = none) (z9:mg "tuple" = none) (r_NoColumn:ClI K mg ⟨"NoColumn.__init__", "FoldError", "name", "name", "no column ", ""⟩ "NoColumn"):FnOk P w K mg base (CXe P w) 7 f fd ["wide", "head", "name"] (spX K Cu):=by
 have xz_NoColumn:=A5j r_NoColumn;obtain⟨gi_NoColumn,gF_NoColumn,fa_NoColumn,fd_NoColumn,od_NoColumn,os_NoColumn,mi_NoColumn,ni_NoColumn,Zi_NoColumn,hi_NoColumn,lk_NoColumn,bi_NoColumn,fi_NoColumn⟩:=r_NoColumn;obtain⟨f_place_of_head,fd_place_of_head,G_place_of_head,b_place_of_head,kp_place_of_head,m_place_of_head⟩:=D_place_of_head
 refine F.okXL zR (fun vs H Q E h=>As8 h) (fun cdv A outer s H vs Q E hcd_ hr h=>?_)
 have hu:=hr.units;have hgd:=hr.gd
 refine G3 (Ah (Bl (i:=3) zR.nd rfl (Or.inr rfl) (Ae8 G_place_of_head (hr.mono (by (first|lia|omega))) rfl m_place_of_head kp_place_of_head b_place_of_head .nil Az9 (Af (qv 0) (Af (qv 1) Ae))))
  (Ah (Di (Fi hu (qv 2) (Be (Kq:=K) rfl (qv 0) Ag Ba) (by with_unfolding_all rfl)) (An (A0e Wl rfl rfl mi_NoColumn Zi_NoColumn.2 hi_NoColumn lk_NoColumn bi_NoColumn (fi_NoColumn _ _ _) (hr.mono (by (first|lia|omega))) (qv 2))) Bo)
  (Ah (Bl (i:=4) zR.nd rfl (Or.inr rfl) (Au5 (Kq:=K) rfl PySem.F.plainAttrs_tuple PySem.F.slot_tuple_index PySem.F.type_tuple_index (Am9 rfl) (Be (Kq:=K) rfl (qv 0) Ag Ba) (Af (qv 2) Ae)))
  (Ah (Bl (i:=5) zR.nd rfl (Or.inl rfl) (A7k (Kq:=K) rfl (k:=3) (x := "row") (N':=["place", "head_place"]) (idx:=[some 4,some 3]) hT_ hC_ (hcd_.symm.trans hD_) hr rfl zO (Af (Be (Kq:=K) rfl (qv 0) Ag Ba) Ae) ⟨Jx rfl rfl (by decide +kernel) rfl rfl rfl,by decide +kernel⟩ (fun _ _ _ _ _ hr=>by have hu:=hr.units;have hgd:=hr.gd;exact(Br D_rank_in_cell hr (Af (Be (Kq:=K) rfl (Be (Kq:=K) rfl (qv 0) Ag Ba) (qv 2) Gx) (Af (qv 1) Ae))))))
  (An (Bf (Dk (Wx (Kq:=K) rfl (qv 0) Sg (Im Ag)) (Df (Af (Bd (Kq:=K) rfl rfl z9 (Af (qv 5) Ae)) Ae))))))))) ?_
 exact As1 (Ut (A9y (Ab Aa (Ab Aa Ak)))
  (Ut (Bm1 (Bh (Ai Aa (Ai Aa (Al rfl) Ay) Hl)) (A2g ni_NoColumn Aa) (Mm Bm))
  (Ut (Mm (Bj (A3c (Ai Aa (Al rfl) Ay) Aa A4w A2j) Ao))
  (Ut (Mm (Bj (Bk6 (js:=[4,3]) (F:=Dy) (Ai Aa (Al rfl) Ay) (Bb3 (Ax (Ab (Ai (Ai Aa (Al rfl) Ay) Aa Ay) (Ab Aa Ak))) ["row", "place", "head_place"] rfl)) Ao))
  (Mm (Bc (Ai (V0 Aa Sw (Ir (Al rfl)) Mj) (Dj (Ab (Bt Aa Ef) Ak)) Cq))))))) h
theorem Y4   (F:Fun K "_law_cell_at" "_law_cell_at" Lj f c) (a:mg "len" = none):FnOk P w K mg base CX0 1 f c ["_law_script", "_law_k"] (spP K Fg):=by
 refine F.ok Yb (fun g H Q E h=>Dh h) (fun i A b s H g Q E d h=>?_)
 have j:=d.units;have e:=d.gd
 refine G3 (Ah (Di (Ag1 (qv 1) (J9  rfl rfl a (Af (qv 0) Ae))) (An (Bf (Bl4 (show IxR _ _ from Bq6) (qv 0) (qv 1) Gx))) Bo)
  (An (Bf Ag))) ?_
 exact Dg (Aw (Du (Bh (Ai Aa (Ka Aa) At6)) (Bc (B0c Aa Aa)) Bm)
  (Bc (Al rfl))) h
theorem A7y {f:Addr}{g:u5}(F:Fun K "_law_box" "_law_box" Xv f g) (a:Def P w K mg base "_law_cell_at" 1 ["_law_script", "_law_k"] (spP K Fg)) (b:mg "abs" = none) (c:mg "int" = none):FnOk P w K mg base CX0 2 f g ["_law_script", "_law_k"] (spP K Lr):=by
 refine F.ok yJ (fun k H Q E h=>Dh h) (fun l A e s H k Q E d h=>?_)
 have m:=d.units;have j:=d.gd
 refine G3 (Ah (Bl (i:=2) yJ.nd rfl (Or.inl rfl) (Br a d (Af (qv 0) (Af (qv 1) Ae))))
  (An (Bf (Ek (Af (Hm (Qy (Kq:=K) rfl rfl b (Af (qv 2) Ae)) (N8 (Kq:=K) rfl rfl c (Af (A8s (Qy (Kq:=K) rfl rfl b (Af (qv 2) Ae)) (Hk Ag Ag)) Ae))) (Af (Dk (Dk (Gv (qv 2) Ag) (Hm Ag (qv 1))) Ag) (Af Ag Ae))))))) ?_
 exact Dg (Aw (Bj (Ax (Ab Aa (Ab Aa Ak))) Ao)
  (Bc (El (Ab (Ai (Bt Aa Av4) (Bt (Ai (Bt Aa Av4) (Ai (Al rfl) (Al rfl) Ly) Bz6) Aw6) Jq) (Ab (Ai (Ai (Ai Aa (Al rfl) Kg) (Ai (Al rfl) Aa Jq) Cq) (Al rfl) Cq) (Ab (Al rfl) Ak)))))) h
theorem A2i   (F:Fun K "_law_take" "_law_take" Ve f b):FnOk P w K mg base CX0 1 f b ["_law_box_here", "_law_many_here"] (spP K Aj):=by
 refine F.ok zW (fun d H Q E h=>Dh h) (fun g A a s H d Q E c h=>?_)
 have j:=c.units;have e:=c.gd
 refine G3 (Ah (Di (Ad9 (Be (Kq:=K) rfl (qv 0) Ag Ba) Ag) (Ah (Bl (i:=2) zW.nd rfl (Or.inl rfl) (Gv (Be (Kq:=K) rfl (qv 0) Ag Ba) (qv 1)))
  (Ah (A4h (Uc (Be (Kq:=K) rfl (qv 0) Ag Ba) (qv 1)) (A4t (qv 0) Ag set_list))
  (An (Bf (qv 2))))) Bo)
  (Ah (A4h (Dk (Be (Kq:=K) rfl (qv 0) Ag Ba) Ag) (A4t (qv 0) Ag set_list))
  (Ah (Bl (i:=3) zW.nd rfl (Or.inl rfl) (Gv (Hm (Dk (Be (Kq:=K) rfl (qv 0) Ag Ba) (Hm Ag (Be (Kq:=K) rfl (qv 0) Ag Ba))) (Dk Ag (Be (Kq:=K) rfl (qv 0) Ag Ba))) Ag))
  (Ah (Bl (i:=4) zW.nd rfl (Or.inl rfl) (Gv (Hm (Dk (qv 3) (Be (Kq:=K) rfl (qv 0) Ag Ba)) (Dk (Gv (qv 3) Ag) Ag)) Ag))
  (An (Bf (Gv (Uc (Gv (Dk (Hm (qv 4) Ag) (qv 3)) Ag) Ag) (qv 1)))))))) ?_
 exact Dg (Aw (Du (Bh (Ai (Ai Aa (Al rfl) Ay) (Al rfl) A8z)) (Aw (Bj (Ai (Ai Aa (Al rfl) Ay) Aa Kg) Ao)
  (Aw (Bj (Ai (Ai Aa (Al rfl) Ay) Aa Z0) (A4j Aa (Al rfl)))
  (Bc Aa))) Bm)
  (Aw (Bj (Ai (Ai Aa (Al rfl) Ay) (Al rfl) Cq) (A4j Aa (Al rfl)))
  (Aw (Bj (Ai (Ai (Ai (Ai Aa (Al rfl) Ay) (Ai (Al rfl) (Ai Aa (Al rfl) Ay) Jq) Cq) (Ai (Al rfl) (Ai Aa (Al rfl) Ay) Cq) Jq) (Al rfl) Kg) Ao)
  (Aw (Bj (Ai (Ai (Ai Aa (Ai Aa (Al rfl) Ay) Cq) (Ai (Ai Aa (Al rfl) Kg) (Al rfl) Cq) Jq) (Al rfl) Kg) Ao)
  (Bc (Ai (Ai (Ai (Ai (Ai Aa (Al rfl) Jq) Aa Cq) (Al rfl) Kg) (Al rfl) Z0) Aa Kg)))))) h
theorem A2q {f:Addr}{d:u5}(F:Fun K "_law_many" "_law_many" Up f d) (a:Def P w K mg base "_law_take" 1 ["_law_box_here", "_law_many_here"] (spP K Aj)):FnOk P w K mg base CX0 2 f d ["_law_box_here", "_law_least", "_law_few", "_law_most"] (spP K Gu):=by
 refine F.ok A2o (fun g H Q E h=>Dh h) (fun i A c s H g Q E b h=>?_)
 have e:=b.gd
 refine G3 (Ah (Di (K5 b.units (Br a b (Af (qv 0) (Af Ag Ae))) Ag) (An (Bf (Dk Ag (Br a b (Af (qv 0) (Af (Fy (qv 3) Ag) Ae)))))) Bo)
  (An (Bf (Dk (qv 1) (Br a b (Af (qv 0) (Af (Dk (Fy (qv 2) (qv 1)) Ag) Ae))))))) ?_
 exact Dg (Aw (Du (Bh (Ai (Ax (Ab Aa (Ab (Al rfl) Ak))) (Al rfl) Eu)) (Bc (Ai (Al rfl) (Ax (Ab Aa (Ab (Ai Aa (Al rfl) Iz) Ak))) Cq)) Bm)
  (Bc (Ai Aa (Ax (Ab Aa (Ab (Ai (Ai Aa Aa Iz) (Al rfl) Cq) Ak))) Cq))) h
theorem Aj4 {f:Addr}{m:u5}(F:Fun K "_law_names" "_law_names" Ql f m) (d:Def P w K mg base "_law_take" 1 ["_law_box_here", "_law_many_here"] (spP K Aj)) (g:mg "len" = none) (e:mg "range" = none):FnOk P w K mg base CX0 2 f m ["_law_box_here", "_law_many_here"] (spP K Gp):=by
 refine F.ok yE (fun l H Q E h=>Dh h) (fun n A j s H l Q E k h=>?_)
 have p:=k.units;have o:=k.gd
 refine G3 (Ah (Bl (i:=2) yE.nd rfl (Or.inr rfl) (Ek (Qg (vs:=[.str "b",.str "a",.str "year",.str "z",.str "ab",.str "month",.str "aa",.str "quantity",.str "c",.str "town",.str "zz",.str "ba"]) rfl)))
  (An (Bf (by exact(Uv (N':=["_law_turn", "_law_some", "_law_box_here"]) (idx:=[none,some 2,some 0]) (Jx rfl rfl (by decide +kernel) rfl rfl rfl) rfl (Hj rfl e (Af (qv 1) Ae)) (fun _ _ _ _ _=>by exact(Dq (i:=0) (by show (["_law_turn", "_law_some", "_law_box_here"]:v4).Nodup;decide +kernel) rfl (Or.inl rfl))) (fun _ _ _ _ _=>by exact Ip) (fun _ _ _ _ _=>by exact(Au5 (Kq:=K) rfl dw PySem.F.slot_list_pop PySem.F.type_list_pop A9e (qv 1) (Af (Br d k (Af (qv 2) (Af (J9 (Kq:=K) rfl rfl g (Af (qv 1) Ae)) Ae))) Ae)))))))) ?_
 exact Dg (Aw (Bj (El (Bu9 rfl)) Ao)
  (Bc (Q3 (by decide) (Mt Aa) Ao Lh (A6s Aa (Ax (Ab Aa (Ab (Ka Aa) Ak))))))) h
theorem Am6   (F:Fun K "_law_value" "_law_value" Qo f g) (c:Def P w K mg base "_law_take" 1 ["_law_box_here", "_law_many_here"] (spP K Aj)):FnOk P w K mg base CX0 2 f g ["_law_box_here"] (spP K Bv):=by
 refine F.ok yF (fun k H Q E h=>Dh h) (fun m A e s H k Q E d h=>?_)
 have j:=d.units;have l:=d.gd
 refine G3 (Ah (Bl (i:=1) yF.nd rfl (Or.inl rfl) (Br c d (Af (qv 0) (Af Ag Ae))))
  (Ah (Di (Ag1 (qv 1) Ag) (An (Bf (Fy (Br c d (Af (qv 0) (Af Ag Ae))) Ag))) Bo)
  (Ah (Di (K5 j (qv 1) Ag) (An (Bf (Be (Kq:=K) rfl (Ek (Af (Fy (Hk Ag Ag) Ag) (Af (Fy Ag (Hk Ag Ag)) (Af Ag (Af Ag Ae))))) (Br c d (Af (qv 0) (Af Ag Ae))) Dm))) Bo)
  (Ah (Di (K5 j (qv 1) Ag) (An (Bf Jf)) Bo)
  (An (Bf (Be (Kq:=K) rfl (Ek (Qg (vs:=[.str "",.str "a",.str "b",.str "B",.str "10",.str "9",.str "-",.str "a b",.str "it's",.str "\\",.str "/",.str "_",.str ":",.str "None",.str "ab"]) rfl)) (Br c d (Af (qv 0) (Af Ag Ae))) Dm))))))) ?_
 exact Dg (Aw (Bj (Ax (Ab Aa (Ab (Al rfl) Ak))) Ao)
  (Aw (Du (Bh (Ai Aa (Al rfl) At6)) (Bc (Ai (Ax (Ab Aa (Ab (Al rfl) Ak))) (Al rfl) Iz)) Bm)
  (Aw (Du (Bh (Ai Aa (Al rfl) Eu)) (Bc (Ai (El (Ab (Ai (Ai (Al rfl) (Al rfl) Ly) (Al rfl) Iz) (Ab (Ai (Al rfl) (Ai (Al rfl) (Al rfl) Ly) Iz) (Ab (Al rfl) (Ab (Al rfl) Ak))))) (Ax (Ab Aa (Ab (Al rfl) Ak))) Ay)) Bm)
  (Aw (Du (Bh (Ai Aa (Al rfl) Eu)) (Bc (Al rfl)) Bm)
  (Bc (Ai (El (Bu9 rfl)) (Ax (Ab Aa (Ab (Al rfl) Ak))) Ay)))))) h
theorem Aa4 {f:Addr}{d:u5}(F:Fun K "_law_number" "_law_number" Nf f d) (a:Def P w K mg base "_law_take" 1 ["_law_box_here", "_law_many_here"] (spP K Aj)):FnOk P w K mg base CX0 2 f d ["_law_box_here"] (spP K Cr):=by
 refine F.ok Ac2 (fun g H Q E h=>Dh h) (fun i A c s H g Q E b h=>?_)
 have e:=b.gd
 refine G3 (Ah (Di (K5 b.units (Br a b (Af (qv 0) (Af Ag Ae))) Ag) (An (Bf (Be (Kq:=K) rfl (Ek (Af (Fy (Hk Ag Ag) Ag) (Af (Fy Ag (Hk Ag Ag)) (Af (Hk Ag Ag) (Af Ag Ae))))) (Br a b (Af (qv 0) (Af Ag Ae))) Dm))) Bo)
  (An (Bf (Fy (Br a b (Af (qv 0) (Af Ag Ae))) Ag)))) ?_
 exact Dg (Aw (Du (Bh (Ai (Ax (Ab Aa (Ab (Al rfl) Ak))) (Al rfl) Eu)) (Bc (Ai (El (Ab (Ai (Ai (Al rfl) (Al rfl) Ly) (Al rfl) Iz) (Ab (Ai (Al rfl) (Ai (Al rfl) (Al rfl) Ly) Iz) (Ab (Ai (Al rfl) (Al rfl) Ly) (Ab (Al rfl) Ak))))) (Ax (Ab Aa (Ab (Al rfl) Ak))) Ay)) Bm)
  (Bc (Ai (Ax (Ab Aa (Ab (Al rfl) Ak))) (Al rfl) Iz))) h
theorem A1g {f:Addr}{e:u5}(F:Fun K "_law_pool" "_law_pool" U4 f e) (a:Def P w K mg base "_law_value" 2 ["_law_box_here"] (spP K Bv)) (b:mg "range" = none):FnOk P w K mg base CX0 3 f e ["_law_box_here", "_law_many_here"] (spP K Hi):=by
 refine F.ok zX (fun j H Q E h=>Dh h) (fun k A c s H j Q E d h=>?_)
 have g:=d.gd
 refine G3 (Ah (Bl (i:=2) zX.nd rfl (Or.inl rfl) (Ek Ae))
  (Ah (Nq PassesOwn.never rfl (Hj rfl b (Af (qv 1) Ae)) (Dq (i:=3) zX.nd rfl (Or.inl rfl)) (Ah (Bl (i:=4) zX.nd rfl (Or.inl rfl) (Br a d (Af (qv 0) Ae)))
  (An (Di (Fi d.units (qv 4) (qv 2) (by trivial)) (An (Pk (Jj (Kq:=K) rfl (qv 2) (qv 4)))) Bo))))
  (An (Bf (qv 2))))) ?_
 exact Dg (Aw (Bj (El Ak) Ao)
  (Aw (Nv (Mt Aa) Ao (Aw (Bj (Ax (Ab Aa Ak)) Ao)
  (Du (Bh (Ai Aa Aa Hl)) (Pg (U5 Aa Aa)) Bm)))
  (Bc Aa))) h
theorem A1y   (F:Fun K "_law_rank" "_law_rank" Uy f d) (a:mg "isinstance" = none) (b:mg "str" = none):FnOk P w K mg base CX0 1 f d ["_law_value_here"] (spP K Gq):=by
 refine F.ok A0j (fun i H Q E h=>Dh h) (fun j A c s H i Q E e h=>?_)
 have k:=e.units;have g:=e.gd
 refine G3 (Ah (Di (Jk (qv 0) Jf) (An (Bf (Df (Af Ag (Af Ag (Af Ed Ae)))))) Bo)
  (Ah (Di (Ib (Bw (Kq:=K) rfl rfl a (Af (qv 0) (Af (Dp (v:=.ty "str") rfl b Pr rfl) Ae)))) (An (Bf (Df (Af Ag (Af Ag (Af (qv 0) Ae)))))) Bo)
  (An (Bf (Df (Af Ag (Af (qv 0) (Af Ed Ae)))))))) ?_
 exact Dg (Aw (Du (Bh (Ai Aa (Al rfl) Ob)) (Bc (Dj (Ab (Al rfl) (Ab (Al rfl) (Ab (Al rfl) Ak))))) Bm)
  (Aw (Du (Ti (Fv _ Aa)) (Bc (Dj (Ab (Al rfl) (Ab (Al rfl) (Ab Aa Ak))))) Bm)
  (Bc (Dj (Ab (Al rfl) (Ab Aa (Ab (Al rfl) Ak))))))) h
theorem Ag0 {f:Addr}{k:u5}(F:Fun K "_law_tuples" "_law_tuples" Nr f k) (b:Def P w K mg base "_law_take" 1 ["_law_box_here", "_law_many_here"] (spP K Aj)) (c:Def P w K mg base "_law_pool" 3 ["_law_box_here", "_law_many_here"] (spP K Hi)) (e:mg "len" = none) (a:mg "range" = none) (d:mg "tuple" = none):FnOk P w K mg base CX0 4 f k ["_law_box_here", "_law_wide_here", "_law_many_here"] (spP K Ga):=by
 refine F.ok zM (fun n H Q E h=>Dh h) (fun l A j s H n Q E g h=>?_)
 have m:=g.gd
 refine G3 (Ah (Bl (i:=3) zM.nd rfl (Or.inr rfl) (Br c g (Af (qv 0) (Af Ag Ae))))
  (Ah (Bl (i:=4) zM.nd rfl (Or.inl rfl) (Ek Ae))
  (Ah (Nq PassesOwn.never rfl (Hj rfl a (Af (qv 2) Ae)) (Dq (i:=5) zM.nd rfl (Or.inl rfl)) (Ah (Bl (i:=6) zM.nd rfl (Or.inl rfl) (Bd (Kq:=K) rfl rfl d (Af (by exact(Uv (N':=["_law_k", "_law_pool_here", "_law_box_here"]) (idx:=[none,some 3,some 0]) (Jx rfl rfl (by decide +kernel) rfl rfl rfl) rfl (Hj rfl a (Af (qv 1) Ae)) (fun _ _ _ _ _=>by exact(Dq (i:=0) (by show (["_law_k", "_law_pool_here", "_law_box_here"]:v4).Nodup;decide +kernel) rfl (Or.inl rfl))) (fun _ _ _ _ _=>by exact Ip) (fun _ _ _ _ _=>by exact(Be (Kq:=K) rfl (qv 1) (Br b g (Af (qv 2) (Af (J9 (Kq:=K) rfl rfl e (Af (qv 1) Ae)) Ae))) Dm)))) Ae)))
  (An (Di (Fi g.units (qv 6) (qv 4) (by with_unfolding_all rfl)) (An (Pk (Jj (Kq:=K) rfl (qv 4) (qv 6)))) Bo))))
  (An (Bf (qv 4)))))) ?_
 exact Dg (Aw (Bj (Ax (Ab Aa (Ab (Al rfl) Ak))) Ao)
  (Aw (Bj (El Ak) Ao)
  (Aw (Nv (Mt Aa) Ao (Aw (Bj (Bt (Q3 (by decide) (Mt Aa) Ao Lh (Ai Aa (Ax (Ab Aa (Ab (Ka Aa) Ak))) Ay)) Ef) Ao)
  (Du (Bh (Ai Aa Aa Hl)) (Pg (U5 Aa Aa)) Bm)))
  (Bc Aa)))) h
theorem A1a {f:Addr}{o:u5}(F:Fun K "_law_wide" "_law_wide" Ub f o) (a:Def P w K mg base "_law_take" 1 ["_law_box_here", "_law_many_here"] (spP K Aj)) (d:Def P w K mg base "_law_many" 2 ["_law_box_here", "_law_least", "_law_few", "_law_most"] (spP K Gu)) (m:Def P w K mg base "_law_names" 2 ["_law_box_here", "_law_many_here"] (spP K Gp)) (l:Def P w K mg base "_law_value" 2 ["_law_box_here"] (spP K Bv)) (e:Def P w K mg base "_law_number" 2 ["_law_box_here"] (spP K Cr)) (c:Def P w K mg base "_law_tuples" 4 ["_law_box_here", "_law_wide_here", "_law_many_here"] (spP K Ga)) (b:mg "tuple" = none):FnOk P w K mg base CX0 5 f o ["_law_box_here", "_law_numbers"] (spP K Mi):=by
 refine F.ok zE (fun r H Q E h=>Dh h) (fun q A n s H r Q E g h=>?_)
 have p:=g.units;have t:=g.gd
 refine G3 (Ah (Bl (i:=2) zE.nd rfl (Or.inl rfl) (Br m g (Af (qv 0) (Af Ag Ae))))
  (Ah (Bd1 (i:=3) (j:=4) (k:=5) rfl zE.nd rfl rfl rfl (by decide) (by decide) (by decide) rfl rfl rfl (Af (Br a g (Af (qv 0) (Af Ag Ae))) (Af (Br a g (Af (qv 0) (Af Ag Ae))) (Af (Dk Ag (Br a g (Af (qv 0) (Af Ag Ae)))) Ae))) rfl)
  (Ah (Di (K5 p (Br a g (Af (qv 0) (Af Ag Ae))) Ag) (An (Bl (i:=5) zE.nd rfl (Or.inl rfl) (Dk Ag (Br a g (Af (qv 0) (Af Ag Ae)))))) Bo)
  (Ah (A3s (i:=6) (j:=7) rfl zE.nd rfl rfl (by decide) rfl rfl (Af (Wx (Kq:=K) rfl (qv 2) Sg (Im (qv 3))) (Af (Wx (Kq:=K) rfl (qv 2) (Im (qv 3)) (Im (Dk (qv 3) (qv 4)))) Ae)) rfl)
  (Ah (Bl (i:=8) zE.nd rfl (Or.inl rfl) (Wx (Kq:=K) rfl (qv 2) (Im (Dk (qv 3) (qv 4))) (Im (Dk (Dk (qv 3) (qv 4)) (qv 5)))))
  (Ah (Bl (i:=9) zE.nd rfl (Or.inl rfl) (Br c g (Af (qv 0) (Af (qv 4) (Af (Br d g (Af (qv 0) (Af Ag (Af Ag (Af Ag Ae))))) Ae)))))
  (Ah (Bl (i:=10) zE.nd rfl (Or.inl rfl) (Be (Kq:=K) rfl (Ek (Af Ag (Af Ag (Af Ag Ae)))) (Br a g (Af (qv 0) (Af Ag Ae))) Dm))
  (Ah (Bl (i:=11) zE.nd rfl (Or.inl rfl) (Ek Ae))
  (Ah (Nq PassesOwn.never rfl (Nt (Kq:=K) rfl (Br c g (Af (qv 0) (Af (qv 3) (Af (Br d g (Af (qv 0) (Af Ag (Af Ag (Af Ag Ae))))) Ae))))) (Dq (i:=12) zE.nd rfl (Or.inl rfl)) (Ah (Bl (i:=13) zE.nd rfl (Or.inl rfl) (Ek Ae))
  (Ah (Nq PassesOwn.never rfl (Nt (Kq:=K) rfl (qv 9)) (Dq (i:=14) zE.nd rfl (Or.inl rfl)) (Ah (Bl (i:=15) zE.nd rfl (Or.inl rfl) (Bd (Kq:=K) rfl rfl b (Af (by exact(Uv (N':=["_law_name", "_law_numbers", "_law_box_here"]) (idx:=[none,some 1,some 0]) (Jx rfl rfl (by decide +kernel) rfl rfl rfl) rfl (Nt (Kq:=K) rfl (qv 8)) (fun _ _ _ _ _=>by exact(Dq (i:=0) (by show (["_law_name", "_law_numbers", "_law_box_here"]:v4).Nodup;decide +kernel) rfl (Or.inl rfl))) (fun _ _ _ _ _=>by exact Ip) (fun _ _ _ _ _=>by exact(Pj (Ib (qv 1)) (Br e g (Af (qv 2) Ae)) (Br l g (Af (qv 2) Ae)))))) Ae)))
  (An (Pk (Jj (Kq:=K) rfl (qv 13) (Pj (K5 p (Br a g (Af (qv 0) (Af (qv 10) Ae))) Ag) Jf (qv 15)))))))
  (An (Pk (Jj (Kq:=K) rfl (qv 11) (Df (Af (qv 12) (Af (Bd (Kq:=K) rfl rfl b (Af (qv 13) Ae)) Ae)))))))))
  (An (Bf (Df (Af (Bd (Kq:=K) rfl rfl b (Af (qv 6) Ae)) (Af (Bd (Kq:=K) rfl rfl b (Af (qv 7) Ae)) (Af (Bd (Kq:=K) rfl rfl b (Af (qv 8) Ae)) (Af (Bd (Kq:=K) rfl rfl b (Af (qv 9) Ae)) (Af (Bd (Kq:=K) rfl rfl b (Af (qv 11) Ae)) Ae))))))))))))))))) ?_
 exact Dg (Aw (Bj (Ax (Ab Aa (Ab (Al rfl) Ak))) Ao)
  (Aw (Bh3 (Ab (Ax (Ab Aa (Ab (Al rfl) Ak))) (Ab (Ax (Ab Aa (Ab (Al rfl) Ak))) (Ab (Ai (Al rfl) (Ax (Ab Aa (Ab (Al rfl) Ak))) Cq) Ak))))
  (Aw (Du (Bh (Ai (Ax (Ab Aa (Ab (Al rfl) Ak))) (Al rfl) Eu)) (Bj (Ai (Al rfl) (Ax (Ab Aa (Ab (Al rfl) Ak))) Cq) Ao) Bm)
  (Aw (A7b (Ab (V0 Aa Sw (Ir Aa) Mj) (Ab (V0 Aa (Ir Aa) (Ir (Ai Aa Aa Cq)) Mj) Ak)))
  (Aw (Bj (V0 Aa (Ir (Ai Aa Aa Cq)) (Ir (Ai (Ai Aa Aa Cq) Aa Cq)) Mj) Ao)
  (Aw (Bj (Ax (Ab Aa (Ab Aa (Ab (Ax (Ab Aa (Ab (Al rfl) (Ab (Al rfl) (Ab (Al rfl) Ak))))) Ak)))) Ao)
  (Aw (Bj (Ai (El (Ab (Al rfl) (Ab (Al rfl) (Ab (Al rfl) Ak)))) (Ax (Ab Aa (Ab (Al rfl) Ak))) Ay) Ao)
  (Aw (Bj (El Ak) Ao)
  (Aw (Nv (Ni (Ax (Ab Aa (Ab Aa (Ab (Ax (Ab Aa (Ab (Al rfl) (Ab (Al rfl) (Ab (Al rfl) Ak))))) Ak))))) Ao (Aw (Bj (El Ak) Ao)
  (Aw (Nv (Ni Aa) Ao (Aw (Bj (Bt (Q3 (by decide) (Ni Aa) Ao Lh (Y6 (Ti Aa) (Ax (Ab Aa Ak)) (Ax (Ab Aa Ak)))) Ef) Ao)
  (Pg (U5 Aa (Y6 (Bh (Ai (Ax (Ab Aa (Ab Aa Ak))) (Al rfl) Eu)) (Al rfl) Aa)))))
  (Pg (U5 Aa (Dj (Ab Aa (Ab (Bt Aa Ef) Ak))))))))
  (Bc (Dj (Ab (Bt Aa Ef) (Ab (Bt Aa Ef) (Ab (Bt Aa Ef) (Ab (Bt Aa Ef) (Ab (Bt Aa Ef) Ak)))))))))))))))) h
theorem A1n {n:Nat}{f:Addr}{r:u5}(F:Fun K "_law_same" "_law_same" Oo f r) (g:Def P w K mg base "_law_same" (n) ["_law_found", "_law_due_here"] (spP K (Bs n))) (m:mg "all" = none) (d:mg "bool" = none) (l:mg "int" = none) (a:mg "isinstance" = none) (j:mg "len" = none) (c:mg "list" = none) (e:mg "str" = none) (b:mg "tuple" = none) (k:mg "zip" = none):FnOk P w K mg base CX0 (n+1) f r ["_law_found", "_law_due_here"] (spP K (Bs (n+1))):=by
 refine F.ok A1d (fun u H Q E h=>Dh h) (fun x A p s H u Q E q h=>?_)
 have o:=q.units;have t:=q.gd
 refine G3 (Ah (Di (Ib (Yn (Kq:=K) rfl rfl a (Af (qv 1) (Af (Df (Af (Dp (v:=.ty "list") rfl c O5 rfl) (Af (Dp (v:=.ty "tuple") rfl b Ls rfl) Ae))) Ae)))) (Ah (Di (QW.qt (Ar3 (Ab0 o (Bw (Kq:=K) rfl rfl a (Af (qv 0) (Af (Dp (v:=.ty "list") rfl c O5 rfl) Ae))) (Bw (Kq:=K) rfl rfl a (Af (qv 1) (Af (Dp (v:=.ty "list") rfl c O5 rfl) Ae)))) (Y7 (Ab0 o (Bw (Kq:=K) rfl rfl a (Af (qv 0) (Af (Dp (v:=.ty "tuple") rfl b Ls rfl) Ae))) (Bw (Kq:=K) rfl rfl a (Af (qv 1) (Af (Dp (v:=.ty "tuple") rfl b Ls rfl) Ae))))))) (An (Bf U0)) Bo)
  (An (Bf (Uh (Wk o (J9 (Kq:=K) rfl rfl j (Af (qv 0) Ae)) (J9 (Kq:=K) rfl rfl j (Af (qv 1) Ae))) (Vg (Zd (Kq:=K) rfl rfl rfl m (Af (by exact(Uv (N':=["_law_one", "_law_other"]) (idx:=[none,none]) (Jx rfl rfl (by decide +kernel) rfl rfl rfl) rfl (Bt2 rfl k (Af (qv 0) (Af (qv 1) Ae))) (fun _ _ _ _ _=>by exact(Am1 (Kq:=K) rfl (n:=2) rfl (Jr (Dq (i:=0) (by show (["_law_one", "_law_other"]:v4).Nodup;decide +kernel) rfl (Or.inl rfl)) (Jr (Dq (i:=1) (by show (["_law_one", "_law_other"]:v4).Nodup;decide +kernel) rfl (Or.inl rfl)) Xf)))) (fun _ _ _ _ _=>by exact Ip) (fun _ _ _ _ _=>by exact(Br g q (Af (qv 0) (Af (qv 1) Ae)))))) Ae))))))) Bo)
  (Ah (Di (QW.qt (Ar3 (Jk (qv 1) Jf) (Y7 (Ib (Bw (Kq:=K) rfl rfl a (Af (qv 1) (Af (Dp (v:=.ty "str") rfl e Pr rfl) Ae))))))) (An (Bf (Uh (Wk o (qv 0) (qv 1)) (Vg (Wk o (Bw (Kq:=K) rfl rfl a (Af (qv 0) (Af (Dp (v:=.ty "str") rfl e Pr rfl) Ae))) (Bw (Kq:=K) rfl rfl a (Af (qv 1) (Af (Dp (v:=.ty "str") rfl e Pr rfl) Ae)))))))) Bo)
  (Ah (Di (Ib (Bw (Kq:=K) rfl rfl a (Af (qv 1) (Af (Dp (v:=.ty "bool") rfl d Zo rfl) Ae)))) (An (Bf (Uh (Bw (Kq:=K) rfl rfl a (Af (qv 0) (Af (Dp (v:=.ty "bool") rfl d Zo rfl) Ae))) (Vg (Wk o (qv 0) (qv 1)))))) Bo)
  (An (Bf (Uh (Bw (Kq:=K) rfl rfl a (Af (qv 0) (Af (Dp (v:=.ty "int") rfl l Al0 rfl) Ae))) (Uh (A7m (Bw (Kq:=K) rfl rfl a (Af (qv 0) (Af (Dp (v:=.ty "bool") rfl d Zo rfl) Ae)))) (Vg (Wk o (qv 0) (qv 1)))))))))) ?_
 exact Dg (Aw (Du (Ti (Bc1 .list .tuple Aa)) (Aw (Du (Aq8 (Bh (Ai (Fv .list Aa) (Fv .list Aa) Ur)) (Bh (Ai (Fv .tuple Aa) (Fv .tuple Aa) Ur))) (Bc (Al rfl)) Bm)
  (Bc (Od (Ai (Ka Aa) (Ka Aa) Eu) (Bt (Q3 (by decide) (Bq8 Aa Aa) (Ak5 (Ji Ao (Ji Ao Zf))) Lh (Ax (Ab Aa (Ab Aa Ak)))) Bi9)))) Bm)
  (Aw (Du (Aq8 (Bh (Ai Aa (Al rfl) Ob)) (Ti (Fv .str Aa))) (Bc (Od (Ai Aa Aa Eu) (Ai (Fv .str Aa) (Fv .str Aa) Eu))) Bm)
  (Aw (Du (Ti (Fv .bool Aa)) (Bc (Od (Fv .bool Aa) (Ai Aa Aa Eu))) Bm)
  (Bc (Od (Fv _ Aa) (Od (Ar6 (Fv _ Aa)) (Ai Aa Aa Eu))))))) h
theorem Tg {f:Addr}{fd:u5}(F:Fun K "_law_same" "_law_same" Oo f fd) (bF:Binds K fd ["_law_found", "_law_due_here"] []) (mF:mg "_law_same" = some (.ref f)) (yH:mg "all" = none) (yG:mg "bool" = none) (zN:mg "int" = none) (z7:mg "isinstance" = none) (zL:mg "len" = none) (zH:mg "list" = none) (zK:mg "str" = none) (z9:mg "tuple" = none) (yI:mg "zip" = none):∀n:Nat,FnOk P w K mg base CX0 (n) f fd ["_law_found", "_law_due_here"] (spP K (Bs n))
 | 0=>A2v
 | n+1=>A1n F ⟨f,fd,Tg F bF mF yH yG zN z7 zL zH zK z9 yI n,bF,F.kp,mF⟩ yH yG zN z7 zL zH zK z9 yI
theorem Ai1 {f:Addr}{fd:u5}(F:Fun K "_law_class" "_law_class" Pu f fd) (zV:mg "ValueError" = none) (z7:mg "isinstance" = none) (k_BadColumns:ClT K mg [("NoHead",false),("NoColumn",false)] "BadColumns") (k_BadOrder:ClT K mg [("NoHead",false),("NoColumn",false)] "BadOrder") (k_BadRow:ClT K mg [("NoHead",false),("NoColumn",false)] "BadRow") (k_BadWay:ClT K mg [("NoHead",false),("NoColumn",false)] "BadWay") (k_Double:ClT K mg [("NoHead",false),("NoColumn",false)] "Double") (k_NoColumn:ClT K mg [("NoHead",false),("NoColumn",true)] "NoColumn") (k_NoHead:ClT K mg [("NoHead",true),("NoColumn",false)] "NoHead") (k_NoNumber:ClT K mg [("NoHead",false),("NoColumn",false)] "NoNumber") (k_NoPart:ClT K mg [("NoHead",false),("NoColumn",false)] "NoPart") (k_NoRow:ClT K mg [("NoHead",false),("NoColumn",false)] "NoRow") (k_ValueError:TbOk K (.type "ValueError") [("NoHead",true),("NoColumn",true)]):FnM P w K mg base 1 f fd ["_law_error"] (spP K Gr):=by
 obtain⟨gt_BadColumns,mt_BadColumns,tb_BadColumns⟩:=k_BadColumns;obtain⟨gt_BadOrder,mt_BadOrder,tb_BadOrder⟩:=k_BadOrder;obtain⟨gt_BadRow,mt_BadRow,tb_BadRow⟩:=k_BadRow;obtain⟨gt_BadWay,mt_BadWay,tb_BadWay⟩:=k_BadWay;obtain⟨gt_Double,mt_Double,tb_Double⟩:=k_Double;obtain⟨gt_NoColumn,mt_NoColumn,tb_NoColumn⟩:=k_NoColumn;obtain⟨gt_NoHead,mt_NoHead,tb_NoHead⟩:=k_NoHead;obtain⟨gt_NoNumber,mt_NoNumber,tb_NoNumber⟩:=k_NoNumber;obtain⟨gt_NoPart,mt_NoPart,tb_NoPart⟩:=k_NoPart;obtain⟨gt_NoRow,mt_NoRow,tb_NoRow⟩:=k_NoRow;have tb_ValueError:=k_ValueError
 refine F.okM zU (fun vs H Q E h=>Dh h) (fun cdv A outer s H vs Q E hr h=>?_)
 have hu:=hr.units;have hgd:=hr.gd
 refine G3 (Ah (Bl (i:=1) zU.nd rfl (Or.inl rfl) (Ek (Af (Ko (Kq:=K) rfl rfl z7 (Af (qv 0) (Af (Je rfl mt_BadColumns) Ae))) (Af (Ko (Kq:=K) rfl rfl z7 (Af (qv 0) (Af (Je rfl mt_BadOrder) Ae))) (Af (Ko (Kq:=K) rfl rfl z7 (Af (qv 0) (Af (Je rfl mt_BadWay) Ae))) Ae)))))
  (Ah (Bl (i:=1) zU.nd rfl (Or.inl rfl) (Dk (qv 1) (Ek (Af (Ko (Kq:=K) rfl rfl z7 (Af (qv 0) (Af (Je rfl mt_NoNumber) Ae))) (Af (Ko (Kq:=K) rfl rfl z7 (Af (qv 0) (Af (Je rfl mt_NoHead) Ae))) (Af (Ko (Kq:=K) rfl rfl z7 (Af (qv 0) (Af (Je rfl mt_NoColumn) Ae))) Ae))))))
  (Ah (Bl (i:=2) zU.nd rfl (Or.inl rfl) (B3f (A8d (Kq:=K) rfl rfl z7 (Af (qv 0) (Af (Df (Af (Je rfl mt_NoPart) (Af (Je rfl mt_NoRow) (Af (Je rfl mt_Double) (Af (Je rfl mt_BadRow) Ae))))) Ae))) (Vg (A7m (Ko (Kq:=K) rfl rfl z7 (Af (qv 0) (Af (Dp (v:=.ty "ValueError") rfl zV Vw rfl) Ae)))))))
  (Ah (Di (QW.qt (Ar3 (Ib (qv 2)) (Y7 (Ab0 hu (Au5 (Kq:=K) rfl dw PySem.F.slot_list_count PySem.F.type_list_count (A1t rfl hu) (qv 1) (Af U0 Ae)) Ag)))) (An (Bf Ed)) Bo)
  (An (Bf (Be (Kq:=K) rfl (Ek (Qg (vs:=[.str "BadColumns",.str "BadOrder",.str "BadWay",.str "NoNumber",.str "NoHead",.str "NoColumn"]) rfl)) (Au5 (Kq:=K) rfl dw PySem.F.slot_list_index PySem.F.type_list_index (A1e rfl hu) (qv 1) (Af U0 Ae)) Dm))))))) ?_
 exact Dg (Aw (Bj (El (Ab (Ju rfl tb_BadColumns Aa) (Ab (Ju rfl tb_BadOrder Aa) (Ab (Ju rfl tb_BadWay Aa) Ak)))) Ao)
  (Aw (Bj (Ai Aa (El (Ab (Ju rfl tb_NoNumber Aa) (Ab (Ju rfl tb_NoHead Aa) (Ab (Ju rfl tb_NoColumn Aa) Ak)))) Cq) Ao)
  (Aw (Bj (Bp2 (A3e (show Ad0 K _ [("NoHead",false),("NoColumn",false)] from (U9 tb_NoPart (U9 tb_NoRow (U9 tb_Double (Bf0 tb_BadRow) rfl) rfl) rfl)) Aa) (Ar6 (Ju rfl tb_ValueError Aa))) Ao)
  (Aw (Du (Aq8 (Ti Aa) (Bh (Ai (A3c Aa (Al rfl) Ap8 Ai5) (Al rfl) Ur))) (Bc (Al rfl)) Bm)
  (Bc (Ai (El (Bu9 rfl)) (A3c Aa (Al rfl) Ap8 An1) Ay)))))) h
theorem A0v {f:Addr}{fd:u5}(F:Fun K "_law_told" "_law_told" Tz f fd) (D_parts_by:DefX P w K mg base "parts_by" 7 ["wide", "head", "name"] (spX K Cu)) (D_l_class:Bw3 P w K mg base "_law_class" 1 ["_law_error"] (spP K Gr)) (r_NoColumn:ClI K mg ⟨"NoColumn.__init__", "FoldError", "name", "name", "no column ", ""⟩ "NoColumn") (y_FoldError:ClH K mg ["NoHead", "NoColumn"] [] "FoldError") (y_NoColumn:ClH K mg ["NoColumn"] ["NoHead"] "NoColumn"):FnOk P w K mg base CX0 8 f fd ["_law_wide_here", "_law_head", "_law_name"] (spP K Ec):=by
 have xz_NoColumn:=A5j r_NoColumn;obtain⟨gi_NoColumn,gF_NoColumn,fa_NoColumn,fd_NoColumn,od_NoColumn,os_NoColumn,mi_NoColumn,ni_NoColumn,Zi_NoColumn,hi_NoColumn,lk_NoColumn,bi_NoColumn,fi_NoColumn⟩:=r_NoColumn;obtain⟨gh_FoldError,mh_FoldError,xy_FoldError,xn_FoldError⟩:=y_FoldError;obtain⟨gh_NoColumn,mh_NoColumn,xy_NoColumn,xn_NoColumn⟩:=y_NoColumn;obtain⟨f_parts_by,fd_parts_by,G_parts_by,b_parts_by,kp_parts_by,m_parts_by⟩:=D_parts_by
 refine F.ok zT (fun vs H Q E h=>Dh h) (fun cdv A outer s H vs Q E hr h=>?_)
 have hu:=hr.units;have hgd:=hr.gd
 refine G3 (Ah (Bl (i:=3) zT.nd rfl (Or.inl rfl) Jf)
  (Ah (Bf1 (Kq:=K) rfl (i:=3) (j:=4) G_parts_by (hr.mono (by (first|lia|omega))) rfl m_parts_by kp_parts_by b_parts_by (fun _ _ z=>z) (Af (qv 0) (Af (qv 1) (Af (qv 2) Ae))) rfl ⟨rfl,rfl⟩ zT.nd rfl (Or.inl rfl) rfl rfl (.cons rfl mh_NoColumn (by decide) (fun _=>by exact(An (Bl (i:=3) zT.nd rfl (Or.inl rfl) (Ek (Af (Bl1 D_l_class hr.again (Af (qv 4) Ae)) (Af (B2v (Kq:=K) rfl (qv 4)) Ae)))))) (.cons rfl mh_FoldError (by decide) (fun _=>by exact(An (Bl (i:=3) zT.nd rfl (Or.inl rfl) (Bl1 D_l_class hr.again (Af (qv 4) Ae))))) .nil)))
  (An (Bf (qv 3))))) ?_
 exact Dg (Aw (Bj (Al rfl) Ao)
  (Aw (Bh0 (Ab Aa (Ab Aa (Ab Aa Ak))) (.cons xy_NoColumn xn_NoColumn (Bj (El (Ab (Ax (Ab Aa Ak)) (Ab (B3n xz_NoColumn Aa) Ak))) Ao) (.cons xy_FoldError xn_FoldError (Bj (Ax (Ab Aa Ak)) Ao) .nil)))
  (Bc (Rg Aa)))) h
theorem A3d {f:Addr}{fd:u5}(F:Fun K "_law_due" "_law_due" Xq f fd) (D_l_rank:Def P w K mg base "_law_rank" 1 ["_law_value_here"] (spP K Gq)) (zZ:mg "enumerate" = none) (zN:mg "int" = none) (zO:mg "sorted" = none) (z9:mg "tuple" = none):FnOk P w K mg base CX0 2 f fd ["_law_wide_here", "_law_head", "_law_name"] (spP K Ft):=by
 refine F.ok zP (fun vs H Q E h=>Dh h) (fun cdv A outer s H vs Q E hr h=>?_)
 have hu:=hr.units;have hgd:=hr.gd
 refine G3 (Ah (Di (Fi hu (qv 1) (Be (Kq:=K) rfl (qv 0) Ag Ba) (by with_unfolding_all rfl)) (An (Bf Ed)) Bo)
  (Ah (Di (Fi hu (qv 2) (Be (Kq:=K) rfl (qv 0) Ag Ba) (by with_unfolding_all rfl)) (An (Bf (Ek (Af Ed (Af (qv 2) Ae))))) Bo)
  (Ah (A3s (i:=3) (j:=4) rfl zP.nd rfl rfl (by decide) rfl rfl (Af (Aq2 (Kq:=K) rfl hu (Be (Kq:=K) rfl (qv 0) Ag Ba) (Af (qv 1) Ae)) (Af (Aq2 (Kq:=K) rfl hu (Be (Kq:=K) rfl (qv 0) Ag Ba) (Af (qv 2) Ae)) Ae)) rfl)
  (Ah (Bl (i:=5) zP.nd rfl (Or.inl rfl) (Ek Ae))
  (Ah (Nq PassesOwn.never rfl (Bi7 rfl zZ (Af (Be (Kq:=K) rfl (qv 0) Ag Ba) Ae)) (Am1 (Kq:=K) rfl (n:=2) rfl (Jr (Dq (i:=6) zP.nd rfl (Or.inl rfl)) (Jr (Dq (i:=7) zP.nd rfl (Or.inl rfl)) Xf))) (Ah (Bl (i:=8) zP.nd rfl (Or.inl rfl) (Be (Kq:=K) rfl (Be (Kq:=K) rfl (qv 7) Ag Ba) (qv 3) Gx))
  (An (Pk (Jj (Kq:=K) rfl (qv 5) (Df (Af (N8 (Kq:=K) rfl rfl zN (Af (Al8 (qv 8) Jf) Ae)) (Af (Pj (Jk (qv 8) Jf) (Df (Af Ag (Af Ag (Af Ed Ae)))) (Br D_l_rank hr (Af (Be (Kq:=K) rfl (qv 8) (qv 4) Gx) Ae))) (Af (qv 6) Ae)))))))))
  (An (Bf (Dk (Wx (Kq:=K) rfl (qv 0) Sg (Im Ag)) (Df (Af (Bd (Kq:=K) rfl rfl z9 (Af (by exact(Uv (N':=["_law_row", "_law_wide_here"]) (idx:=[none,some 0]) (Jx rfl rfl (by decide +kernel) rfl rfl rfl) rfl (Nt (Kq:=K) rfl (A8j (Kq:=K) rfl hr.un80 rfl zO (Af (qv 5) Ae))) (fun _ _ _ _ _=>by exact(Dq (i:=0) (by show (["_law_row", "_law_wide_here"]:v4).Nodup;decide +kernel) rfl (Or.inl rfl))) (fun _ _ _ _ _=>by exact Ip) (fun _ _ _ _ _=>by exact(Be (Kq:=K) rfl (Be (Kq:=K) rfl (qv 1) Ag Ba) (Be (Kq:=K) rfl (qv 0) Ag Ba) Ay6)))) Ae)) Ae)))))))))) ?_
 exact Dg (Aw (Du (Bh (Ai Aa (Ai Aa (Al rfl) Ay) Hl)) (Bc (Al rfl)) Bm)
  (Aw (Du (Bh (Ai Aa (Ai Aa (Al rfl) Ay) Hl)) (Bc (El (Ab (Al rfl) (Ab Aa Ak)))) Bm)
  (Aw (A7b (Ab (Aj5 (Ai Aa (Al rfl) Ay) Aa) (Ab (Aj5 (Ai Aa (Al rfl) Ay) Aa) Ak)))
  (Aw (Bj (El Ak) Ao)
  (Aw (Nv (Ba6 (Ai Aa (Al rfl) Ay)) (Ak5 (Ji Ao (Ji Ao Zf))) (Aw (Bj (Ai (Ai Aa (Al rfl) Ay) Aa Ay) Ao)
  (Pg (U5 Aa (Dj (Ab (Bt (Ai Aa (Al rfl) A7u) Aw6) (Ab (Y6 (Bh (Ai Aa (Al rfl) Ob)) (Dj (Ab (Al rfl) (Ab (Al rfl) (Ab (Al rfl) Ak)))) (Ax (Ab (Ai Aa Aa Ay) Ak))) (Ab Aa Ak))))))))
  (Bc (Ai (V0 Aa Sw (Ir (Al rfl)) Mj) (Dj (Ab (Bt (Q3 (by decide) (Ni (Bt Aa A1k)) Ao Lh (Ai (Ai Aa (Al rfl) Ay) (Ai Aa (Al rfl) Ay) Ay)) Ef) Ak)) Cq))))))) h
theorem Ap7 {f:Addr}{fd:u5}(F:Fun K "_law_right" "_law_right" Qq f fd) (D_parts_in:Def P w K mg base "parts_in" 7 ["wide", "order"] (spP K Gb)) (D_l_take:Def P w K mg base "_law_take" 1 ["_law_box_here", "_law_many_here"] (spP K Aj)) (D_l_wide:Def P w K mg base "_law_wide" 5 ["_law_box_here", "_law_numbers"] (spP K Mi)) (D_l_same:Def P w K mg base "_law_same" 8 ["_law_found", "_law_due_here"] (spP K (Bs 8))) (D_l_told:Def P w K mg base "_law_told" 8 ["_law_wide_here", "_law_head", "_law_name"] (spP K Ec)) (D_l_due:Def P w K mg base "_law_due" 2 ["_law_wide_here", "_law_head", "_law_name"] (spP K Ft)) (z7:mg "isinstance" = none) (zL:mg "len" = none) (zH:mg "list" = none) (zQ:mg "range" = none) (zK:mg "str" = none) (z9:mg "tuple" = none):FnOk P w K mg base CX0 9 f fd ["_law_box_here"] (spP K J6):=by
 refine F.ok zB (fun vs H Q E h=>Dh h) (fun cdv A outer s H vs Q E hr h=>?_)
 have hu:=hr.units;have hgd:=hr.gd
 refine G3 (Ah (Bl (i:=1) zB.nd rfl (Or.inl rfl) (Br D_l_wide hr (Af (qv 0) (Af (Wk hu (Br D_l_take hr (Af (qv 0) (Af Ag Ae))) Ag) Ae))))
  (Ah (Bl (i:=2) zB.nd rfl (Or.inl rfl) (Ek (Af (Df (Af Ed Ae)) (Af (Df Ae) (Af (Df (Af Jf Ae)) (Af (Df (Af Ag (Af Ag Ae))) (Af (Df (Af Ed Ae)) Ae)))))))
  (Ah (Bl (i:=3) zB.nd rfl (Or.inl rfl) (Dk (Dk (Ek (Af Ed (Af Ed (Af Ed Ae)))) (Hb (Kq:=K) rfl rfl zH (Af (Be (Kq:=K) rfl (qv 1) Ag Ba) Ae))) (Hb (Kq:=K) rfl rfl zH (Af (Be (Kq:=K) rfl (qv 1) Ag Ba) Ae))))
  (Ah (Nq PassesOwn.never rfl (Hj rfl zQ (Af Ag Ae)) (Dq (i:=4) zB.nd rfl (Or.inl rfl)) (Ah (Bl (i:=5) zB.nd rfl (Or.inl rfl) (Be (Kq:=K) rfl (qv 2) (Br D_l_take hr (Af (qv 0) (Af Ag Ae))) Dm))
  (Ah (Di (QW.qt (A2z (Ab0 hu (Be (Kq:=K) rfl (qv 1) Ag Ba) (Df Ae)) (Au1 (Ad9 (Br D_l_take hr (Af (qv 0) (Af Ag Ae))) Ag)))) (An (Bl (i:=5) zB.nd rfl (Or.inl rfl) (Be (Kq:=K) rfl (Be (Kq:=K) rfl (qv 1) Ag Ba) (Br D_l_take hr (Af (qv 0) (Af (J9 (Kq:=K) rfl rfl zL (Af (Be (Kq:=K) rfl (qv 1) Ag Ba) Ae)) Ae))) Dm))) Bo)
  (Ah (Bl (i:=6) zB.nd rfl (Or.inl rfl) (Be (Kq:=K) rfl (Be (Kq:=K) rfl (qv 1) Ag Ba) (Br D_l_take hr (Af (qv 0) (Af (J9 (Kq:=K) rfl rfl zL (Af (Be (Kq:=K) rfl (qv 1) Ag Ba) Ae)) Ae))) Dm))
  (Ah (Di (K5 hu (Br D_l_take hr (Af (qv 0) (Af Ag Ae))) Ag) (An (Bl (i:=6) zB.nd rfl (Or.inl rfl) (Be (Kq:=K) rfl (qv 3) (Br D_l_take hr (Af (qv 0) (Af (J9 (Kq:=K) rfl rfl zL (Af (qv 3) Ae)) Ae))) Dm))) Bo)
  (Ah (Bl (i:=7) zB.nd rfl (Or.inl rfl) (A8c (Kq:=K) rfl hu hgd rfl zK (Af (qv 1) Ae)))
  (Ah (Bl (i:=8) zB.nd rfl (Or.inl rfl) (Br D_l_told hr (Af (qv 1) (Af (qv 5) (Af (qv 6) Ae)))))
  (Ah (Di (QW.qt (Ar3 (A9j (Ib (Br D_l_same hr (Af (qv 8) (Af (Br D_l_due hr (Af (qv 1) (Af (qv 5) (Af (qv 6) Ae)))) Ae))))) (Y7 (Ab0 hu (A8c (Kq:=K) rfl hu hgd rfl zK (Af (qv 1) Ae)) (qv 7))))) (An (Bf U0)) Bo)
  (An (Di (QW.qt (A2z (Ib (Bw (Kq:=K) rfl rfl z7 (Af (qv 8) (Af (Dp (v:=.ty "tuple") rfl z9 Ls rfl) Ae)))) (Au1 (K5 hu (Br D_l_take hr (Af (qv 0) (Af Ag Ae))) Ag)))) (An (Bl (i:=1) zB.nd rfl (Or.inl rfl) (Br D_parts_in hr (Af (qv 8) (Af (Be (Kq:=K) rfl (Ek (Af Ed (Af Ed Ae))) (Br D_l_take hr (Af (qv 0) (Af Ag Ae))) Dm) Ae))))) Bo))))))))))
  (An (Bf U0)))))) ?_
 exact Dg (Aw (Bj (Ax (Ab Aa (Ab (Ai (Ax (Ab Aa (Ab (Al rfl) Ak))) (Al rfl) Eu) Ak))) Ao)
  (Aw (Bj (El (Ab (Dj (Ab (Al rfl) Ak)) (Ab (Dj Ak) (Ab (Dj (Ab (Al rfl) Ak)) (Ab (Dj (Ab (Al rfl) (Ab (Al rfl) Ak))) (Ab (Dj (Ab (Al rfl) Ak)) Ak)))))) Ao)
  (Aw (Bj (Ai (Ai (El (Ab (Al rfl) (Ab (Al rfl) (Ab (Al rfl) Ak)))) (Bt (Ai Aa (Al rfl) Ay) Uo) Cq) (Bt (Ai Aa (Al rfl) Ay) Uo) Cq) Ao)
  (Aw (Nv (Mt (Al rfl)) Ao (Aw (Bj (Ai (Rg Aa) (Ax (Ab Aa (Ab (Al rfl) Ak))) Ay) Ao)
  (Aw (Du (A4b (Bh (Ai (Ai Aa (Al rfl) Ay) (Dj Ak) Ur)) (Bh (Ai (Ax (Ab Aa (Ab (Al rfl) Ak))) (Al rfl) A8z))) (Bj (Ai (Ai Aa (Al rfl) Ay) (Ax (Ab Aa (Ab (Ka (Ai Aa (Al rfl) Ay)) Ak))) Ay) Ao) Bm)
  (Aw (Bj (Ai (Ai Aa (Al rfl) Ay) (Ax (Ab Aa (Ab (Ka (Ai Aa (Al rfl) Ay)) Ak))) Ay) Ao)
  (Aw (Du (Bh (Ai (Ax (Ab Aa (Ab (Al rfl) Ak))) (Al rfl) Eu)) (Bj (Ai (Rg Aa) (Ax (Ab Aa (Ab (Ka (Rg Aa)) Ak))) Ay) Ao) Bm)
  (Aw (Bj (Bt Aa Aw2) Ao)
  (Aw (Bj (Ax (Ab Aa (Ab Aa (Ab Aa Ak)))) Ao)
  (Aw (Du (Aq8 (A3f (Ti (Ax (Ab (Rg Aa) (Ab (Rg (Ax (Ab Aa (Ab Aa (Ab Aa Ak))))) Ak))))) (Bh (Ai (Bt Aa Aw2) Aa Ur))) (Bc (Al rfl)) Bm)
  (Du (A4b (Ti (Fv .tuple (Rg Aa))) (Bh (Ai (Ax (Ab Aa (Ab (Al rfl) Ak))) (Al rfl) Eu))) (Bj (Ax (Ab (Rg Aa) (Ab (Ai (El (Ab (Al rfl) (Ab (Al rfl) Ak))) (Ax (Ab Aa (Ab (Al rfl) Ak))) Ay) Ak))) Ao) Bm)))))))))
  (Bc (Al rfl)))))) h
theorem B0s {f:Addr}{l:u5}(F:Fun K "law" "law" A8v f l) (b:Def P w K mg base "_law_box" 2 ["_law_script", "_law_k"] (spP K Lr)) (a:Def P w K mg base "_law_right" 9 ["_law_box_here"] (spP K J6)) (g:mg "len" = none) (d:mg "max" = none) (e:mg "min" = none) (c:mg "range" = none):FnOk P w K mg base CX0 10 f l ["_law_script"] (spP K An3):=by
 refine F.ok yK (fun o H Q E h=>Dh h) (fun m A k s H o Q E j h=>?_)
 have p:=j.units;have n:=j.gd
 refine G3 (Ah (Nq PassesOwn.never rfl (Hj rfl c (Af (Yo (Kq:=K) rfl rfl rfl d (Af Ag (Af (Xz (Kq:=K) rfl rfl rfl e (Af (J9 (Kq:=K) rfl rfl g (Af (qv 0) Ae)) (Af Ag Ae))) Ae))) Ae)) (Dq (i:=1) yK.nd rfl (Or.inl rfl)) (An (Di (A9j (Ib (Br a j (Af (Br b j (Af (qv 0) (Af (qv 1) Ae))) Ae)))) (An (Bf U0)) Bo)))
  (An (Bf U0))) ?_
 exact Dg (Aw (Nv (Mt (Bd4 (Al rfl) (Bg9 (Ka Aa) (Al rfl)))) Ao (Du (A3f (Ti (A7f (Ax (Ab Aa (Ab Aa Ak))) Ak))) (Bc (Al rfl)) Bm))
  (Bc (Al rfl))) h
end
theorem lnS  {us:w6}(h:us.length=n+1):∃x r,us=x::r/\r.length=n:=by
 cases us with
 | nil=>grind
 | cons x r=>grind
theorem ln1 {us:w6}(h:us.length=1):∃x0,us=[x0]:=by
 obtain⟨x,r,a,b⟩:=lnS h
 simp_all
theorem ln2 {us:w6}(h:us.length=2):∃c b,us=[c,b]:=by
 obtain⟨c,r,a,d⟩:=lnS h;obtain⟨b,a⟩:=ln1 d
 grind
theorem ln3 {us:w6}(h:us.length=3):∃c d b,us=[c,d,b]:=by
 obtain⟨c,r,a,e⟩:=lnS h;obtain⟨d,b,a⟩:=ln2 e
 grind
theorem ln4 {us:w6}(h:us.length=4):∃c d e b,us=[c,d,e,b]:=by
 obtain⟨c,r,a,f⟩:=lnS h;obtain⟨d,e,b,a⟩:=ln3 f
 grind
theorem mkD            (a:FnOk P w K mg base CX0 k f d ps sp) (b:Binds K d ps []) (c:PySem.W.keepIn K (.ref f)=true) (g:mg x=some (.ref f)):Def P w K mg base x k ps sp:=⟨f,d,a,b,c,g⟩
theorem mkX {P:u6}{w:World}{K:v9}{mg:x_}{base:Heap}{k:Nat}{f:Addr}{fd:u5}{x:Str}{ps:v4}{sp:Sp}(a:FnOk P w K mg base (CXe P w) k f fd ps sp)(b:Binds K fd ps [])(c:PySem.W.keepIn K (.ref f)=true)(g:mg x=some (.ref f)):DefX P w K mg base x k ps sp:=⟨f,fd,a,b,c,g⟩
theorem mkM {P:u6}{w:World}{K:v9}{mg:x_}{base:Heap}{k:Nat}{f:Addr}{fd:u5}{x:Str}{ps:v4}{sp:Sp}(a:FnM P w K mg base k f fd ps sp)(b:Binds K fd ps [])(c:PySem.W.keepIn K (.ref f)=true)(g:mg x=some (.ref f)):Bw3 P w K mg base x k ps sp:=⟨f,fd,a,b,c,g⟩
theorem Dd       (T:PyProof.Rows.Top q loose g mg j h) (k:∀a o,h.get? a=some o->Fo o=true->o.data≠.fields #[]->K.lookup a=some o)  (l:(PyProof.Rows.recsOf q).map (fun d=>(d.name,d.params,d.body,d.scope))=L) {i:Nat}   (e:L[i]?=some (x,Ke st,Gi st,Ar st)):∃f fd,Fun K x x st f fd/\mg x=some (.ref f):=by
 obtain⟨d,m,rfl,a,b,c⟩:=Ae3 l e;exact Bd9 T k m a b c
abbrev rr (x:Str)(i:Nat):Str×Arguments×List Stmt×Scope:=(x,Ke (top i),Gi (top i),Ar (top i))
theorem Bu5 {l:PySem.W.OpenLaw}{w:World}{q:u6}{loose:v4}{mean:ExcName->u9}{mg mb:x_}{h:Heap}{fa:Addr}(T:PyProof.Rows.Top q loose mean mg mb h)(hfa:mg "law" = some (.ref fa))
 (hlaw:∀ns:List Int,ns.length<=63->An3 [.sc ns]=.ret (.im (.bool true)) [.sc ns])
 (hR:(PyProof.Rows.recsOf q).map (fun d=>(d.name,d.params,d.body,d.scope))=[rr "rank" 13,rr "risen" 14,rr "is_pair" 16,rr "parts_of" 17,rr "place_of_head" 18,rr "is_told_order" 20,rr "in_told_order" 21,rr "in_order" 22,rr "parts_in" 23,rr "rank_in_cell" 24,rr "parts_by" 25,rr "_law_cell_at" 27,rr "_law_box" 28,rr "_law_take" 29,rr "_law_many" 30,rr "_law_names" 31,rr "_law_value" 32,rr "_law_number" 33,rr "_law_pool" 34,rr "_law_rank" 35,rr "_law_tuples" 36,rr "_law_wide" 37,rr "_law_same" 38,rr "_law_ranks" 39,rr "_law_class" 40,rr "_law_told" 41,rr "_law_due" 42,rr "_law_right" 43,rr "law" 44])
 (hB:(["ValueError", "abs", "all", "bool", "dict", "enumerate", "int", "isinstance", "len", "list", "max", "min", "range", "reversed", "sorted", "str", "tuple", "zip"]:v4).all (A5r q loose ["rank", "risen", "is_pair", "parts_of", "place_of_head", "is_told_order", "in_told_order", "in_order", "parts_in", "rank_in_cell", "parts_by", "_law_cell_at", "_law_box", "_law_take", "_law_many", "_law_names", "_law_value", "_law_number", "_law_pool", "_law_rank", "_law_tuples", "_law_wide", "_law_same", "_law_ranks", "_law_class", "_law_told", "_law_due", "_law_right", "law"])=true)
 (hF:A0c xcR xcT xcV xcF h)
 (hI:A1q xcJ xcY h) :
 ∃(K:v9) (fd:u5),K.In h/\TabAt K h/\(∀(s:u_) (v:Value),BindsTo s fd ⟨[v],[]⟩ [("_law_script",v)])/\∀base:Heap,K.In base->base.Ns mainGlobals mg->FnOk l.prog w K mg base CX0 10 fa fd ["_law_script"] (Av6 K):=by
 obtain⟨d8,m8,n8,p8⟩:=Ae3 hR (i:=10) rfl;obtain⟨yD,T_parts_by,hd_parts_by,ht_parts_by,hc_parts_by⟩:=Ba0 T m8
 obtain⟨kin,tab,hcd,hK⟩:=B2x (h:=h) (tabs:=[(yD,T_parts_by,(("parts_by" : Str) ++ ".<locals>." ++ "<lambda>"))]) (fun t m=>by cases aP.mp m;exact⟨hd_parts_by,ht_parts_by⟩) (fun t m=>by cases aP.mp m;simp)
 obtain⟨lc_parts_by,lt_parts_by⟩:=hcd _ (List.mem_singleton.mpr rfl)
 generalize O7 h [(yD,T_parts_by,(("parts_by" : Str) ++ ".<locals>." ++ "<lambda>"))]=K at *
 obtain⟨f1,fd1,F1,g1⟩:=Dd T hK hR (st:=Xb) (i:=0) rfl
 have b1:=F1.binds (ps:=["value"]) fun _ _ _ _ _ _ us hl=>by obtain⟨_,rfl⟩:=ln1 hl;rfl
 obtain⟨f2,fd2,F2,g2⟩:=Dd T hK hR (st:=Zb) (i:=1) rfl
 have b2:=F2.binds (ps:=["values"]) fun _ _ _ _ _ _ us hl=>by obtain⟨_,rfl⟩:=ln1 hl;rfl
 obtain⟨f3,fd3,F3,g3⟩:=Dd T hK hR (st:=N5) (i:=3) rfl
 have b3:=F3.binds (ps:=["wide"]) fun _ _ _ _ _ _ us hl=>by obtain⟨_,rfl⟩:=ln1 hl;rfl
 obtain⟨f4,fd4,F4,g4⟩:=Dd T hK hR (st:=G9) (i:=4) rfl
 have b4:=F4.binds (ps:=["wide", "head"]) fun _ _ _ _ _ _ us hl=>by obtain⟨_,_,rfl⟩:=ln2 hl;rfl
 obtain⟨f5,fd5,F5,g5⟩:=Dd T hK hR (st:=N6) (i:=7) rfl
 have b5:=F5.binds (ps:=["things", "order"]) fun _ _ _ _ _ _ us hl=>by obtain⟨_,_,rfl⟩:=ln2 hl;rfl
 obtain⟨f6,fd6,F6,g6⟩:=Dd T hK hR (st:=M8) (i:=8) rfl
 have b6:=F6.binds (ps:=["wide", "order"]) fun _ _ _ _ _ _ us hl=>by obtain⟨_,_,rfl⟩:=ln2 hl;rfl
 obtain⟨f7,fd7,F7,g7⟩:=Dd T hK hR (st:=Ia) (i:=9) rfl
 have b7:=F7.binds (ps:=["cell", "place"]) fun _ _ _ _ _ _ us hl=>by obtain⟨_,_,rfl⟩:=ln2 hl;rfl
 obtain⟨f8,fd8,F8,g8⟩:=Dd T hK hR (st:=Nu) (i:=10) rfl
 have b8:=F8.binds (ps:=["wide", "head", "name"]) fun _ _ _ _ _ _ us hl=>by obtain⟨_,_,_,rfl⟩:=ln3 hl;rfl
 have ld_parts_by:fd8.code=.ref yD:=A7q F8 kin (by have z:d8.name = "parts_by" := n8;rw[<- z];exact hc_parts_by) g8
 obtain⟨f9,fd9,F9,g9⟩:=Dd T hK hR (st:=Lj) (i:=11) rfl
 have b9:=F9.binds (ps:=["_law_script", "_law_k"]) fun _ _ _ _ _ _ us hl=>by obtain⟨_,_,rfl⟩:=ln2 hl;rfl
 obtain⟨f10,fd10,F10,g10⟩:=Dd T hK hR (st:=Xv) (i:=12) rfl
 have b10:=F10.binds (ps:=["_law_script", "_law_k"]) fun _ _ _ _ _ _ us hl=>by obtain⟨_,_,rfl⟩:=ln2 hl;rfl
 obtain⟨f11,fd11,F11,g11⟩:=Dd T hK hR (st:=Ve) (i:=13) rfl
 have b11:=F11.binds (ps:=["_law_box_here", "_law_many_here"]) fun _ _ _ _ _ _ us hl=>by obtain⟨_,_,rfl⟩:=ln2 hl;rfl
 obtain⟨f12,fd12,F12,g12⟩:=Dd T hK hR (st:=Up) (i:=14) rfl
 have b12:=F12.binds (ps:=["_law_box_here", "_law_least", "_law_few", "_law_most"]) fun _ _ _ _ _ _ us hl=>by obtain⟨_,_,_,_,rfl⟩:=ln4 hl;rfl
 obtain⟨f13,fd13,F13,g13⟩:=Dd T hK hR (st:=Ql) (i:=15) rfl
 have b13:=F13.binds (ps:=["_law_box_here", "_law_many_here"]) fun _ _ _ _ _ _ us hl=>by obtain⟨_,_,rfl⟩:=ln2 hl;rfl
 obtain⟨f14,fd14,F14,g14⟩:=Dd T hK hR (st:=Qo) (i:=16) rfl
 have b14:=F14.binds (ps:=["_law_box_here"]) fun _ _ _ _ _ _ us hl=>by obtain⟨_,rfl⟩:=ln1 hl;rfl
 obtain⟨f15,fd15,F15,g15⟩:=Dd T hK hR (st:=Nf) (i:=17) rfl
 have b15:=F15.binds (ps:=["_law_box_here"]) fun _ _ _ _ _ _ us hl=>by obtain⟨_,rfl⟩:=ln1 hl;rfl
 obtain⟨f16,fd16,F16,g16⟩:=Dd T hK hR (st:=U4) (i:=18) rfl
 have b16:=F16.binds (ps:=["_law_box_here", "_law_many_here"]) fun _ _ _ _ _ _ us hl=>by obtain⟨_,_,rfl⟩:=ln2 hl;rfl
 obtain⟨f17,fd17,F17,g17⟩:=Dd T hK hR (st:=Uy) (i:=19) rfl
 have b17:=F17.binds (ps:=["_law_value_here"]) fun _ _ _ _ _ _ us hl=>by obtain⟨_,rfl⟩:=ln1 hl;rfl
 obtain⟨f18,fd18,F18,g18⟩:=Dd T hK hR (st:=Nr) (i:=20) rfl
 have b18:=F18.binds (ps:=["_law_box_here", "_law_wide_here", "_law_many_here"]) fun _ _ _ _ _ _ us hl=>by obtain⟨_,_,_,rfl⟩:=ln3 hl;rfl
 obtain⟨f19,fd19,F19,g19⟩:=Dd T hK hR (st:=Ub) (i:=21) rfl
 have b19:=F19.binds (ps:=["_law_box_here", "_law_numbers"]) fun _ _ _ _ _ _ us hl=>by obtain⟨_,_,rfl⟩:=ln2 hl;rfl
 obtain⟨f20,fd20,F20,g20⟩:=Dd T hK hR (st:=Oo) (i:=22) rfl
 have b20:=F20.binds (ps:=["_law_found", "_law_due_here"]) fun _ _ _ _ _ _ us hl=>by obtain⟨_,_,rfl⟩:=ln2 hl;rfl
 obtain⟨f21,fd21,F21,g21⟩:=Dd T hK hR (st:=Pu) (i:=24) rfl
 have b21:=F21.binds (ps:=["_law_error"]) fun _ _ _ _ _ _ us hl=>by obtain⟨_,rfl⟩:=ln1 hl;rfl
 obtain⟨f22,fd22,F22,g22⟩:=Dd T hK hR (st:=Tz) (i:=25) rfl
 have b22:=F22.binds (ps:=["_law_wide_here", "_law_head", "_law_name"]) fun _ _ _ _ _ _ us hl=>by obtain⟨_,_,_,rfl⟩:=ln3 hl;rfl
 obtain⟨f23,fd23,F23,g23⟩:=Dd T hK hR (st:=Xq) (i:=26) rfl
 have b23:=F23.binds (ps:=["_law_wide_here", "_law_head", "_law_name"]) fun _ _ _ _ _ _ us hl=>by obtain⟨_,_,_,rfl⟩:=ln3 hl;rfl
 obtain⟨f24,fd24,F24,g24⟩:=Dd T hK hR (st:=Qq) (i:=27) rfl
 have b24:=F24.binds (ps:=["_law_box_here"]) fun _ _ _ _ _ _ us hl=>by obtain⟨_,rfl⟩:=ln1 hl;rfl
 obtain⟨f25,fd25,F25,g25⟩:=Dd T hK hR (st:=A8v) (i:=28) rfl
 have b25:=F25.binds (ps:=["_law_script"]) fun _ _ _ _ _ _ us hl=>by obtain⟨_,rfl⟩:=ln1 hl;rfl
 have zV:=Cw (x := "ValueError") T (Cd hR) hB (by simp)
 have yM:=Cw (x := "abs") T (Cd hR) hB (by simp)
 have yH:=Cw (x := "all") T (Cd hR) hB (by simp)
 have yG:=Cw (x := "bool") T (Cd hR) hB (by simp)
 have yL:=Cw (x := "dict") T (Cd hR) hB (by simp)
 have zZ:=Cw (x := "enumerate") T (Cd hR) hB (by simp)
 have zN:=Cw (x := "int") T (Cd hR) hB (by simp)
 have z7:=Cw (x := "isinstance") T (Cd hR) hB (by simp)
 have zL:=Cw (x := "len") T (Cd hR) hB (by simp)
 have zH:=Cw (x := "list") T (Cd hR) hB (by simp)
 have yN:=Cw (x := "max") T (Cd hR) hB (by simp)
 have yO:=Cw (x := "min") T (Cd hR) hB (by simp)
 have zQ:=Cw (x := "range") T (Cd hR) hB (by simp)
 have yC:=Cw (x := "reversed") T (Cd hR) hB (by simp)
 have zO:=Cw (x := "sorted") T (Cd hR) hB (by simp)
 have zK:=Cw (x := "str") T (Cd hR) hB (by simp)
 have z9:=Cw (x := "tuple") T (Cd hR) hB (by simp)
 have yI:=Cw (x := "zip") T (Cd hR) hB (by simp)
 obtain⟨qR,qT,k_ValueError,qF⟩:=Bb6 hF kin T.g hK;have r_NoHead:ClR K mg "NoHead" := qR 0 _ rfl;have k_BadColumns:ClT K mg [("NoHead",false),("NoColumn",false)] "BadColumns" := qT 0 _ rfl;have k_BadOrder:ClT K mg [("NoHead",false),("NoColumn",false)] "BadOrder" := qT 1 _ rfl;have k_BadRow:ClT K mg [("NoHead",false),("NoColumn",false)] "BadRow" := qT 2 _ rfl;have k_BadWay:ClT K mg [("NoHead",false),("NoColumn",false)] "BadWay" := qT 3 _ rfl;have k_Double:ClT K mg [("NoHead",false),("NoColumn",false)] "Double" := qT 4 _ rfl;have k_NoColumn:ClT K mg [("NoHead",false),("NoColumn",true)] "NoColumn" := qT 5 _ rfl;have k_NoHead:ClT K mg [("NoHead",true),("NoColumn",false)] "NoHead" := qT 6 _ rfl;have k_NoNumber:ClT K mg [("NoHead",false),("NoColumn",false)] "NoNumber" := qT 7 _ rfl;have k_NoPart:ClT K mg [("NoHead",false),("NoColumn",false)] "NoPart" := qT 8 _ rfl;have k_NoRow:ClT K mg [("NoHead",false),("NoColumn",false)] "NoRow" := qT 9 _ rfl;obtain⟨qJ,qY⟩:=Ba1 hI kin T.g hK
 have i_NoColumn:ClI K mg ⟨"NoColumn.__init__", "FoldError", "name", "name", "no column ", ""⟩ "NoColumn" := qJ 0 _ rfl (Ax5 fun _ _ _ _ _ _ _ _ _ _ _ _ _ _ _ _ _ _ _=>rfl)
 have y_FoldError:ClH K mg ["NoHead", "NoColumn"] [] "FoldError" := qY 0 _ rfl;have y_NoColumn:ClH K mg ["NoColumn"] ["NoHead"] "NoColumn" := qY 1 _ rfl;have e:=hfa.symm.trans g25
 cases e
 refine⟨K,fd25,kin,tab,A7v F25 (fun kV dc pm an cd ct s v=>.of_eq rfl),fun base _ _=>?_⟩
 have D_rank:Def l.prog w K mg base "rank" 2 ["value"] (spP K (Do 2)):=mkD (Ad2 F1 b1 g1 zN z7 zK z9 2) b1 F1.kp g1;have D_risen:=mkD (A4r (P:=l.prog) (w:=w) (mg:=mg) (base:=base) F2 D_rank zO) b2 F2.kp g2;have D_parts_of:=mkD (Ah1 (P:=l.prog) (w:=w) (mg:=mg) (base:=base) F3 z9) b3 F3.kp g3;have D_place_of_head:=mkX (Qf (P:=l.prog) (w:=w) (mg:=mg) (base:=base) F4 r_NoHead) b4 F4.kp g4;have D_in_order:=mkD (Z8 (P:=l.prog) (w:=w) (mg:=mg) (base:=base) F5 D_risen zH yC) b5 F5.kp g5;have D_parts_in:=mkD (Ae1 (P:=l.prog) (w:=w) (mg:=mg) (base:=base) F6 D_parts_of D_in_order yL z9) b6 F6.kp g6;have D_rank_in_cell:=mkD (Rn (P:=l.prog) (w:=w) (mg:=mg) (base:=base) F7 D_rank) b7 F7.kp g7;have D_parts_by:=mkX (Af1 (P:=l.prog) (w:=w) (mg:=mg) (base:=base) F8 lt_parts_by lc_parts_by ld_parts_by D_place_of_head D_rank_in_cell zO z9 i_NoColumn) b8 F8.kp g8;have D_l_cell_at:=mkD (Y4 (P:=l.prog) (w:=w) (mg:=mg) (base:=base) F9 zL) b9 F9.kp g9;have D_l_box:=mkD (A7y (P:=l.prog) (w:=w) (mg:=mg) (base:=base) F10 D_l_cell_at yM zN) b10 F10.kp g10;have D_l_take:=mkD (A2i (P:=l.prog) (w:=w) (mg:=mg) (base:=base) F11 ) b11 F11.kp g11;have D_l_many:=mkD (A2q (P:=l.prog) (w:=w) (mg:=mg) (base:=base) F12 D_l_take) b12 F12.kp g12;have D_l_names:=mkD (Aj4 (P:=l.prog) (w:=w) (mg:=mg) (base:=base) F13 D_l_take zL zQ) b13 F13.kp g13;have D_l_value:=mkD (Am6 (P:=l.prog) (w:=w) (mg:=mg) (base:=base) F14 D_l_take) b14 F14.kp g14;have D_l_number:=mkD (Aa4 (P:=l.prog) (w:=w) (mg:=mg) (base:=base) F15 D_l_take) b15 F15.kp g15;have D_l_pool:=mkD (A1g (P:=l.prog) (w:=w) (mg:=mg) (base:=base) F16 D_l_value zQ) b16 F16.kp g16;have D_l_rank:=mkD (A1y (P:=l.prog) (w:=w) (mg:=mg) (base:=base) F17 z7 zK) b17 F17.kp g17;have D_l_tuples:=mkD (Ag0 (P:=l.prog) (w:=w) (mg:=mg) (base:=base) F18 D_l_take D_l_pool zL zQ z9) b18 F18.kp g18;have D_l_wide:=mkD (A1a (P:=l.prog) (w:=w) (mg:=mg) (base:=base) F19 D_l_take D_l_many D_l_names D_l_value D_l_number D_l_tuples z9) b19 F19.kp g19;have D_l_same:Def l.prog w K mg base "_law_same" 8 ["_law_found", "_law_due_here"] (spP K (Bs 8)):=mkD (Tg F20 b20 g20 yH yG zN z7 zL zH zK z9 yI 8) b20 F20.kp g20;have D_l_class:=mkM (Ai1 (P:=l.prog) (w:=w) (mg:=mg) (base:=base) F21 zV z7 k_BadColumns k_BadOrder k_BadRow k_BadWay k_Double k_NoColumn k_NoHead k_NoNumber k_NoPart k_NoRow k_ValueError) b21 F21.kp g21;have D_l_told:=mkD (A0v (P:=l.prog) (w:=w) (mg:=mg) (base:=base) F22 D_parts_by D_l_class i_NoColumn y_FoldError y_NoColumn) b22 F22.kp g22;have D_l_due:=mkD (A3d (P:=l.prog) (w:=w) (mg:=mg) (base:=base) F23 D_l_rank zZ zN zO z9) b23 F23.kp g23;have D_l_right:=mkD (Ap7 (P:=l.prog) (w:=w) (mg:=mg) (base:=base) F24 D_parts_in D_l_take D_l_wide D_l_same D_l_told D_l_due z7 zL zH zQ zK z9) b24 F24.kp g24
 exact(B0s F25 D_l_box D_l_right zL yN yO zQ).imp fun vs H Q E h=>Bu2 hlaw h
theorem walk {l:PySem.W.OpenLaw}{q:u6}{loose:v4}{XP:(x_)->Heap->Prop}{YP:World->Heap->Prop}{d:DefRec}(hn:l.most=some 63)(hdf:d.params.defaults=[])
 (F:∀(w:World) (mean:ExcName->u9) (mg mb:x_) (fa:Addr) (h:Heap),PyProof.Rows.Top q (PySem.W.looseW q loose) mean mg mb h->XP mg h->mg d.name=some (.ref fa) ->
  ∃(K:v9) (fd:u5),K.In h/\TabAt K h/\(∀(s:u_) (u:Value),BindsTo s fd ⟨[u],[]⟩ [("_law_script",u)])/\∀base:Heap,K.In base->base.Ns mainGlobals mg->FnOk l.prog w K mg base CX0 10 fa fd ["_law_script"] (Av6 K)) :
 PySem.W.WalkO q loose XP YP l.row.toRowW d [] (fun f vs=>PySem.call f vs) :=
 L2.walk_ofX (n:=63) (k:=10) (x := "_law_script") (sp:=Av6) hn (by decide) hdf ⟨rfl,by decide,by decide,rfl⟩ F fun _ _ a ns hl hS=>⟨a,ns,rfl,hS,hl,fun _=>rfl⟩
end K
open PySem PySem.W PyProof.Rows
set_option maxHeartbeats 0
namespace K
def dOf:Stmt->DefRec
 | .FunctionDef _ a b _ _ _ s _ _ p=>⟨"law",a,b,s,p⟩
 | _=>⟨"law",⟨[],[],none,[],[],none,[]⟩,[],default,default⟩
def dL:DefRec:=⟨"law",(dOf (top 44)).params,(dOf (top 44)).body,(dOf (top 44)).scope,(dOf (top 44)).pos⟩
theorem B2t:rwT.wellSaid=true:=by kernel_rfl
theorem B4h:defOf qT rwT.row.name=some (dL,[]):=by kernel_rfl
theorem B3s:rwT.row.prog.theDef rwT.row.name=some (dL.params,dL.body,dL.scope):=by trivial
theorem kwT:kwWritten? dL.params.kwonlyargs dL.params.kw_defaults=some []:=by trivial
theorem okT:(chainsOk qT&&opensWell rwT.row.prog&&(frees rwT.row.toRowW&&rwT.row.within.isEmpty))=true:=by trivial
theorem dfT:dL.params.defaults=[]:=by rfl
theorem B1v:rwT.row.prog.bare:=⟨rfl,rfl,rfl,rfl,rfl,by decide +kernel⟩
theorem B3j:rwT.row.toRowW.promised:=by w_witness2
end K
theorem PySem.Challenge.cw_pivotfold_k34_rows_by_a_head_holds : PySem.Challenge.rw_pivotfold_k34_rows_by_a_head.Holds := by
 refine holds_law K.B2t fun said=>?_
 refine holds_open (q:=K.qT) (loose:=[]) (Xt:=K.xtT) (XP:=(fun _ h=>L2.A0c K.xcR K.xcT K.xcV K.xcF h/\L2.A1q K.xcJ K.xcY h)) (Yf:=Hook.none.obs) (Ya:=Hook.none.val) (YP:=Hook.none.says) (N:=20000) K.B1q Hook.none.of Hook.none.keeps (fun s e=>⟨L2.B2o (aq.mp (aq.mp e).1).2,L2.B1s (aq.mp e).2⟩) (fun mg h h' x hk=>⟨L2.A7i x.1 hk,L2.A9l x.2 hk⟩) K.B4h K.B3s K.kwT (fun s e=>recFacts_of (aq.mp (aq.mp (aq.mp e).1).1).2) rfl said K.okT K.B1v K.B3j ?_
 refine K.walk (l:=PySem.Challenge.rw_pivotfold_k34_rows_by_a_head) rfl K.dfT ?F
 case F =>
  intro w mean mg mb fa h T X hmg
  refine K.Bu5 T hmg K.A4o ?R ?B X.1 X.2
  (case R=>kernel_rfl); (case B=>kernel_rfl)
end
