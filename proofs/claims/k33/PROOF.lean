import PyProof.Rows.All
import PyProof.FactsAll.NoneType_1
import Wide.All
import OpenK.AllK
import Wide.FinOn
import Lean
import PyProof.EqAt
import PyProof.EqKinds
import PyProof.TupleCall
import PyProof.StrWalks
import PyProof.StrLawsRepr
import PyProof.ListMulRoad
import PyProof.StrOps2
import PyProof.CallStr
import PyProof.CollectStr
import PyProof.TupleOfSeq
import PyProof.DictTable
import KE.KSortTup
import PyProof.MeetsStr
import PyProof.FactsAll.str_5
import PyProof.StrBlockG
import PyProof.AttrMiss
import PyProof.FactsAll.zip_1
import KE.KDictOf
import PyProof.AttrMissHeap
import KE.KTryMore
import KE.KRevIter
import PyProof.ListRange
import PyProof.FactsAll.dict_3
import PyProof.MeetsDict
import PyProof.FactsAll.dict_keyiterator
import PyProof.DictItems
import PyProof.DictValues
import KE.KPairComp
import PyProof.TupleOfStr
import PyProof.TupleOfGen
import PySem.Challenge.RW_pivotfold_k33_what_is_no_order
set_option genInjectivity false
set_option genSizeOf false
set_option Elab.async false
set_option linter.all false
set_option maxRecDepth 100000
noncomputable section
namespace L2
open PySem PySem.Spec PyProof.Rows PySem.W
abbrev bmV:List Value:=[.type "ValueError",.type "Exception",.type "BaseException",.type "object"]
def xcB (K:Frag)(C:Addr):Bool:=excIn K C bmV "ValueError.__new__" && (findIn K (.ref C) "__getattribute__" == some (some (.builtin "BaseException.__getattribute__"))&&(findIn K (.ref C) "__getattr__" == some none&&findIn K (.ref C) "__class__" == some (some (.builtin "object.__class__"))))
def clB (K:Frag)(x:Str)(p:Addr->Bool):Bool:=match nsIn K mainGlobals x with
 | some (some (.ref C))=>p C
 | _=>false
def tbB (K:Frag)(z:Value)(tbl:List (Str×Bool)):Bool:=tbl.all fun p=>clB K p.1 fun C=>xcB K C&&kitOne K (.ref C) z==some p.2
def exB (K:Frag)(F:Addr)(NS:List Str):Bool:=NS.all fun x=>clB K x fun C=>exmOne K (.ref C) (.ref F)==some true
def Bx0 (o:Obj):Bool:=match o.data with
 | .cls _=>true
 | .dict _ _=>true
 | _=>false
def Bb9 (l:List Nat)(h:Heap):Frag:=l.filterMap fun a=>((h.get? a).bind fun o=>if Bx0 o=true then some o else none).map fun o=>(a,o)
def cfB (R:List Str)(T:List (Str×List (Str×Bool)))(V:List (Str×Bool))(F:List Str)(K:Frag):Bool :=
 (R.all fun x=>clB K x fun C=>excIn K C bmV "ValueError.__new__")&&((T.all fun q=>clB K q.1 fun C=>tbB K (.ref C) q.2)&&(tbB K (.type "ValueError") V&&F.all fun x=>clB K x fun C=>exB K C R))
end L2
namespace K
open PySem PySem.W PyProof.Rows
def xcR:List Str:=["BadOrder"]
def xcT:List (Str×List (Str×Bool)):=[("BadColumns",[("BadOrder",false)]),("BadOrder",[("BadOrder",true)]),("BadRow",[("BadOrder",false)]),("BadWay",[("BadOrder",false)]),("Double",[("BadOrder",false)]),("NoColumn",[("BadOrder",false)]),("NoHead",[("BadOrder",false)]),("NoNumber",[("BadOrder",false)]),("NoPart",[("BadOrder",false)]),("NoRow",[("BadOrder",false)])]
def xcV:List (Str×Bool):=[("BadOrder",true)]
def xcF:List Str:=["FoldError"]
abbrev pwT:=PySem.Challenge.pw_pivotfold_k33_what_is_no_order
abbrev rwT:=PySem.Challenge.rw_pivotfold_k33_what_is_no_order
def B1f:Stmt->Bool
 | .FunctionDef ..=>true
 | .ClassDef ..=>true
 | _=>false
def qT:Program:={ pwT with main:={ pwT.main with body:=pwT.main.body.filter B1f } }
abbrev xtT:Shared->Bool:=fun s=>xlAt qT [] s&&recOk (RowW.records rwT.row.toRowW) s&&L2.cfB xcR xcT xcV xcF (L2.Bb9 [3,49,48,24,23,37,166,61,147,128,97,73,85,109] s.heap)
set_option maxHeartbeats 0 in
theorem B0i:LeftO rwT.row.prog qT [] xtT Hook.none.obs Hook.none.val 20000:=fun w=>by kernel_rfl
end K
namespace L2
open PySem PySem.Spec PyProof.Rows
abbrev Key:=Sum Int Str
def Yk:Key->Value->Bool
 | .inl k,v=>Value.isInt k v
 | .inr x,v=>Value.isStrOf x v
def Bt2 (w:World):Key->Int
 | .inl k=>hashInt k
 | .inr x=>hashStr w x
theorem Ez:∀{k:Key}{v:Value},Yk k v=true->(∃i t,k=Sum.inl i/\v=Value.int i t)\/(∃x t,k=Sum.inr x/\v=Value.str x t)
 | .inl i,v,h=>by
  obtain⟨t,e⟩:=Value.isInt_shape (k:=i) (v:=v) h;exact .inl ⟨i,t,rfl,e⟩
 | .inr x,v,h=>by
  obtain⟨t,e⟩:=Value.isStrOf_shape (x:=x) (v:=v) h;exact .inr ⟨x,t,rfl,e⟩
theorem A0b (i:Int)(t:Tok):Yk (.inl i) (.int i t)=true:=by simp[Yk,Value.isInt]
theorem A1w (x:Str)(t:Tok):Yk (.inr x) (.str x t)=true:=by simp[Yk,Value.isStrOf]
theorem Bt5 (a b:Int):decide ((Sum.inl a:Key)=Sum.inl b)=(a==b):=by
 grind
theorem Bn0 (a b:Str):decide ((Sum.inr a:Key)=Sum.inr b)=decide (a=b):=by
 grind
theorem Bo9 (a:Int)(b:Str):decide ((Sum.inl a:Key)=Sum.inr b)=false:=decide_eq_false fun q=>nomatch q
theorem Bn5 (a:Str)(b:Int):decide ((Sum.inr a:Key)=Sum.inl b)=false:=decide_eq_false fun q=>nomatch q
def Io (prog:Program)(w:World):PySem.KeyKind prog w Key where
 is:=Yk
 hash:=Bt2 w
 inj:=fun v a b ha hb=>by
  rcases Ez ha with ⟨i,t,rfl,rfl⟩ | ⟨x,t,rfl,rfl⟩
  ·rcases Ez hb with ⟨j,u,rfl,e⟩ | ⟨y,u,rfl,e⟩
   ·injection e with e1 _;rw[e1]
   ·exact nomatch e
  ·rcases Ez hb with ⟨j,u,rfl,e⟩ | ⟨y,u,rfl,e⟩
   ·exact nomatch e
   ·injection e with e1 _;rw[e1]
 byValue:=fun k v h=>by
  rcases Ez h with ⟨i,t,rfl,rfl⟩ | ⟨x,t,rfl,rfl⟩ <;> rfl
 pyHash:=fun hv h=>by
  rcases Ez hv with ⟨i,t,rfl,rfl⟩ | ⟨x,t,rfl,rfl⟩
  ·exact wpAny_pyHash_int h
  ·exact wpAny_pyHash_str h
 eqBool:=fun hu hv h=>by
  rcases Ez hu with ⟨i,t,rfl,rfl⟩ | ⟨x,t,rfl,rfl⟩
  ·rcases Ez hv with ⟨j,u,rfl,rfl⟩ | ⟨y,u,rfl,rfl⟩
   ·rw[Bt5]at h;exact wpAny_eqBool_int h
   ·rw[Bo9]at h;exact SeqAt.EqAt.int_str i t y u _ _ _ _ h
  ·rcases Ez hv with ⟨j,u,rfl,rfl⟩ | ⟨y,u,rfl,rfl⟩
   ·rw[Bn5]at h;exact SeqAt.EqAt.str_int x t j u _ _ _ _ h
   ·rw[Bn0]at h;exact wpAny_eqBool_str h
 «strs»:=fun k x t v h=>by
  rcases Ez h with ⟨i,u,rfl,e⟩ | ⟨y,u,rfl,e⟩
  ·exact nomatch e
  ·injection e with e1 _
   subst e1
   cases v <;> rfl
theorem Nm (prog:Program)(w:World)(i:Int)(t:Tok):(Io prog w).is (.inl i) (.int i t)=true:=A0b i t
theorem Mq (prog:Program)(w:World)(x:Str)(t:Tok):(Io prog w).is (.inr x) (.str x t)=true:=A1w x t
noncomputable instance B2n:DecidableEq PyData:=fun a b=>Classical.propDecidable (a=b)
mutual
def keyB:PyData->Bool
 | .none=>true
 | .int _=>true
 | .str _=>true
 | .tuple ds=>Gv ds
 | _=>false
def Gv:List PyData->Bool
 | []=>true
 | d::ds=>keyB d&&Gv ds
end
mutual
theorem Qi:∀(x y:PyData),keyB x=true->keyB y=true->(PyData.eqv x y=true↔x=y)
 | .none,y,_,hy=>by cases y <;> simp_all [PyData.eqv,keyB]
 | .int _,y,_,hy=>by cases y <;> simp_all [PyData.eqv,keyB]
 | .str _,y,_,hy=>by cases y <;> simp_all [PyData.eqv,keyB]
 | .tuple xs,.tuple ys,hx,hy=>by
  have:=Af3 xs ys hx hy
  show PyData.eqvAll xs ys=true↔_
  rw[this]
  exact⟨fun e=>by rw[e],fun e=>by cases e;rfl⟩
 | .tuple xs,.none,hx,hy=>⟨(fun e=>nomatch e),fun e=>nomatch e⟩
 | .tuple xs,.int _,hx,hy=>⟨(fun e=>nomatch e),fun e=>nomatch e⟩
 | .tuple xs,.str _,hx,hy=>⟨(fun e=>nomatch e),fun e=>nomatch e⟩
theorem Af3:∀(xs ys:List PyData),Gv xs=true->Gv ys=true->(PyData.eqvAll xs ys=true↔xs=ys)
 | [],[],_,_=>⟨fun _=>rfl,fun _=>rfl⟩
 | [],_::_,_,_=>⟨(fun e=>nomatch e),fun e=>nomatch e⟩
 | _::_,[],_,_=>⟨(fun e=>nomatch e),fun e=>nomatch e⟩
 | x::xs,y::ys,hx,hy=>by
  obtain⟨a,b⟩:=Bool.and_eq_true_iff.mp (show (keyB x&&Gv xs)=true from hx)
  obtain⟨c,d⟩:=Bool.and_eq_true_iff.mp (show (keyB y&&Gv ys)=true from hy)
  show (PyData.eqv x y&&PyData.eqvAll xs ys)=true↔_
  rw[Bool.and_eq_true_iff,Qi x y a c,Af3 xs ys b d,List.cons.injEq]
end
mutual
theorem Uk {h h':Heap}{d:Addr}{o:Obj}{es:Array DictEntry}{ep:Nat}(ho:h.get? d=some o)(hd:o.data=.dict es ep)(hs:Heap.SameBut d h h'):∀(k:PyData),keyB k=true->∀(v:Value) (as:List Addr),Reads h v k as->Reads h' v k as
 | .none,_,_,_,r=>by cases r;exact .none
 | .int i,_,_,_,r=>by cases r;exact .int _ _
 | .str x,_,_,_,r=>by cases r;exact .str _ _
 | .tuple ds,hk,_,_,r=>by
  cases r with
  | @tuple a o' vs n xs as h1 h2 h3 h4 =>
   refine .tuple ((hs.2 a ?_).trans h1) h2 h3 (Tz ho hd hs ds hk _ _ h4)
   intro e;rw[e,ho]at h1;cases h1;rw[hd]at h3;cases h3
theorem Tz {h h':Heap}{d:Addr}{o:Obj}{es:Array DictEntry}{ep:Nat}(ho:h.get? d=some o)(hd:o.data=.dict es ep)(hs:Heap.SameBut d h h'):∀(ks:List PyData),Gv ks=true->∀(vs:List Value) (as:List Addr),ReadsAll h vs ks as->ReadsAll h' vs ks as
 | [],_,_,_,r=>by cases r;exact .nil
 | k::ks,hk,_,_,r=>by
  obtain⟨a,b⟩:=Bool.and_eq_true_iff.mp (show (keyB k&&Gv ks)=true from hk)
  cases r with
  | cons r1 r2=>exact .cons (Uk ho hd hs k a _ _ r1) (Tz ho hd hs ks b _ _ r2)
end
mutual
def Ag5 (w:World):PyData->Int
 | .none=>hashInt 0xFCA86420
 | .int i=>Bt2 w (.inl i)
 | .str x=>Bt2 w (.inr x)
 | .tuple ds=>reduceHash (Builtin.Tuple.tupleHashOf (Lh w ds))
 | _=>0
def Lh (w:World):List PyData->List Int
 | []=>[]
 | d::ds=>Ag5 w d::Lh w ds
end
mutual
def Ac2:PyData->Nat
 | .tuple ds=>Mv ds+1
 | _=>1
def Mv:List PyData->Nat
 | []=>0
 | d::ds=>Ac2 d+Mv ds
end
section
variable {prog:Program}{w:World}
theorem Xp     (h:Q (hashInt 0xFCA86420) { s with toks:=s.toks+1 }):wpAny (model prog w) A (pyHash .none) Q E s:=by
 have a:s.TypeIs Value.none "NoneType" := rfl;unfold pyHash
 first | unfold pyHashByItsType | skip
 have b:[Value.none].any Value.onHeap=false:=rfl
 refine wpAny_bind ?_
 rw[cRoomFor,if_neg (by rw[b];exact Bool.false_ne_true)];refine wpAny_pure ?_
 refine wpAny_bind (wpAny_specialOf a F.slot_NoneType_hash.lookup ?_)
 show wpAny _ _ (if (some (Value.builtin "NoneType.__hash__")==some Value.none)=true then _ else _) Q E s
 rw[if_neg (by rw[beq_builtin_none];exact Bool.false_ne_true)]
 refine wpAny_bind (wpAny_specialOf a F.slot_NoneType_hash.lookup ?_)
 show wpAny _ _ (callSpecialIfBoundUnlessNone? .none "__hash__" _ >>= _) Q E s
 refine wpAny_bind (wpAny_callSpecialIfBoundUnlessNone?_slot a F.slot_NoneType_hash
  (wpAny_call_entry F.slot_NoneType_hash a F.entry_NoneType_hash
   (show wpAny _ _ (do ret (<- mkInt _)) _ _ s from wpAny_ret_mkInt ?_) (F.args_NoneType_hash_1 _)))
 exact wpAny_pure h
theorem A1b:∀(n:Nat) (d:PyData),d.depth<=n->keyB d=true->∀(A:Around) (E:Value->Shared->Prop) (s:Shared) (v:Value) (y:List Addr) (Q:Int->Shared->Prop),A.units+n<cLine->Reads s.heap v d y ->
 Q (Ag5 w d) { s with toks:=s.toks+Ac2 d }->wpAny (model prog w) A (pyHash v) Q E s:=by
 intro n
 induction n with
 | zero =>
  intro d M j A E s v y Q C r h
  cases r with
  | none=>exact Xp h
  | int i t=>exact(Io prog w).pyHash (k:=.inl i) (v:=.int i t) (Nm prog w i t) h
  | str x t=>exact(Io prog w).pyHash (k:=.inr x) (v:=.str x t) (Mq prog w x t) h
  | tuple=>exact absurd M (by simp[PyData.depth])
  | bool b=>cases j
  | list=>cases j
  | dict=>cases j
 | succ n Y =>
  intro d M j A E s v y Q C r h
  cases r with
  | none=>exact Xp h
  | int i t=>exact(Io prog w).pyHash (k:=.inl i) (v:=.int i t) (Nm prog w i t) h
  | str x t=>exact(Io prog w).pyHash (k:=.inr x) (v:=.str x t) (Mq prog w x t) h
  | bool b=>cases j
  | list=>cases j
  | dict=>cases j
  | @tuple a o N n' g y R hc J U =>
   have G:s.TypeIs (.ref a) "tuple" := ⟨o,R,hc⟩
   have H:PyData.depthAll g<=n:=Nat.le_of_succ_le_succ (show PyData.depthAll g+1<=n+1 from M)
   have I:Gv g=true:=j;unfold pyHash
   first | unfold pyHashByItsType | skip
   first | refine wpAny_bind (wpAny_cRoomFor_or (.inr (Nat.lt_of_le_of_lt (Nat.le_add_right _ _) C)) ?_) | skip
   refine wpAny_bind (wpAny_specialOf G F.slot_tuple_hash.lookup ?_)
   show wpAny _ _ (if (some (Value.builtin "tuple.__hash__")==some Value.none)=true then _ else _) Q E s
   rw[if_neg (by rw[beq_builtin_none];exact Bool.false_ne_true)]
   refine wpAny_bind (wpAny_specialOf G F.slot_tuple_hash.lookup ?_)
   show wpAny _ _ (callSpecialIfBoundUnlessNone? (.ref a) "__hash__" _ >>= _) Q E s
   refine wpAny_bind (wpAny_callSpecialIfBoundUnlessNone?_slot G F.slot_tuple_hash (wpAny_call_entry F.slot_tuple_hash G F.entry_tuple_hash ?_ (F.args_tuple_hash_1 _)))
   show wpAny _ _ (Builtin.Tuple.tupleItemsOf (.ref a) >>= _) _ _ s
   refine wpAny_bind (wpAny_tupleItemsOf R J ?_)
   refine wpAny_bind ?_
   rw[<- Array.forIn_toList]
   refine wpAny_forIn_list _
    (fun m (b:Array Int) O=>∃c e K,Lh w g=c++Lh w e/\ReadsAll s.heap m e K/\Gv e=true/\PyData.depthAll e<=n/\b.toList=c/\∃k,k+Mv e=Mv g/\O={ s with toks:=s.toks+k })
    _ ?_ ?_ _ _ ⟨[],g,_,rfl,U,I,H,rfl,0,Nat.zero_add _,rfl⟩
   ·rintro x m b O ⟨c,e,K,z,L,q,p,B,k,D,rfl⟩
    cases L with
    | @cons _ _ l f V W X u =>
     obtain⟨Z,S⟩:=Bool.and_eq_true_iff.mp (show (keyB l&&Gv f)=true from q)
     have P:l.depth<=n/\PyData.depthAll f<=n:=by
      have:max l.depth (PyData.depthAll f)<=n:=p;omega
     refine wpAny_bind (Y l P.1 Z _ _ _ _ _ _ (by first | exact Nat.lt_of_le_of_lt (by simp;omega) C | (have:=C;simp at *;omega)) X ?_)
     first
      | exact wpAny_pure ⟨c++[Ag5 w l],f,_,by rw[z];simp[Lh],u,S,P.2,by simp[B],k+Ac2 l,by rw[<- D];simp[Mv,Nat.add_assoc],by simp[Nat.add_assoc]⟩
      | exact wpAny_bind (wpAny_pure (wpAny_pure ⟨c++[Ag5 w l],f,_,by rw[z];simp[Lh],u,S,P.2,by simp[B],k+Ac2 l,by rw[<- D];simp[Mv,Nat.add_assoc],by simp[Nat.add_assoc]⟩))
   ·rintro b O ⟨c,e,K,z,L,q,p,B,k,D,rfl⟩
    cases L
    have e2:Lh w g=c:=by rw[z];simp[Lh]
    have T:k=Mv g:=D
    have h:Q (reduceHash (Builtin.Tuple.tupleHashOf (Lh w g))) { s with toks:=s.toks+(Mv g+1) }:=h
    rw[e2]at h;subst T
    show wpAny _ _ (retInt (Builtin.Tuple.tupleHashOf b.toList)) _ _ _
    rw[B]
    refine wpAny_ret_mkInt ?_
    show wpAny _ _ (if (decide (-(2:Int) ^ 63<=Builtin.Tuple.tupleHashOf c)&&decide (Builtin.Tuple.tupleHashOf c<2 ^ 63))=true then _ else _) Q E _
    unfold reduceHash at h
    by_cases hr:(decide (-(2:Int) ^ 63<=Builtin.Tuple.tupleHashOf c)&&decide (Builtin.Tuple.tupleHashOf c<2 ^ 63))=true
    ·rw[if_pos hr]
     rw[if_pos hr]at h
     exact wpAny_pure (by simpa[Nat.add_assoc] using h)
    ·rw[if_neg hr]
     rw[if_neg hr]at h
     exact wpAny_bind (wpAny_rule (wpAny_pure (by simpa[Nat.add_assoc] using h)))
theorem Aq5:∀(m:Nat) (d:PyData),d.depth<=m->keyB d=true->∀(A:Around) (E:Value->Shared->Prop) (s:Shared) (v:Value) (j:List Addr) (Q:Bool->Shared->Prop),Reads s.heap v d j->Q true s->wpAny (model prog w) A (eqIsQuiet (m+1) v) Q E s:=by
 intro m
 induction m with
 | zero =>
  intro d q f A E s v j Q r h
  cases r with
  | none=>rw[eqIsQuiet_byValue _ rfl];exact wpAny_pure h
  | int i t=>rw[eqIsQuiet_byValue _ rfl];exact wpAny_pure h
  | str x t=>rw[eqIsQuiet_byValue _ rfl];exact wpAny_pure h
  | tuple=>exact absurd q (by simp[PyData.depth])
  | bool b=>cases f
  | list=>cases f
  | dict=>cases f
 | succ n O =>
  intro d q f A E s v j Q r h
  cases r with
  | none=>rw[eqIsQuiet_byValue _ rfl];exact wpAny_pure h
  | int i t=>rw[eqIsQuiet_byValue _ rfl];exact wpAny_pure h
  | str x t=>rw[eqIsQuiet_byValue _ rfl];exact wpAny_pure h
  | bool b=>cases f
  | list=>cases f
  | dict=>cases f
  | @tuple a o y n' M j G L l U =>
   have D:s.TypeIs (.ref a) _:=⟨o,G,L⟩
   have p  := Nat.le_of_succ_le_succ (show PyData.depthAll _+1<=n+1 from q)
   unfold eqIsQuiet
   refine wpAny_bind (wpAny_specialOf D F.slot_tuple_eq.lookup ?_)
   refine wpAny_bind (wpAny_isInstance D isSubtype_tuple_tuple ?_)
   refine wpAny_bind (wpAny_seqItems G l ?_)
   refine wpAny_bind ?_
   rw[<- Array.forIn_toList]
   refine wpAny_forIn_list _ (fun e r u=>r.1=none/\u=s/\∃c H,ReadsAll _ e c H/\Gv c=true/\PyData.depthAll c<=n) _ ?_ ?_ _ _ ⟨rfl,rfl,M,_,U,f,p⟩
   ·rintro v e r u ⟨C,rfl,c,H,J,k,z⟩
    cases J with
    | @cons _ _ N g P R K B =>
     obtain⟨S,T⟩:=Bool.and_eq_true_iff.mp (show (keyB _&&Gv _)=true from k)
     have I:N.depth<=n/\PyData.depthAll g<=n:=by
      have:max _ _<=n:=z;omega
     refine wpAny_bind (O _ I.1 S _ _ _ _ _ _ K ?_)
     exact wpAny_pure ⟨rfl,rfl,g,_,B,T,I.2⟩
   ·rintro⟨r1,r2⟩ u ⟨C,rfl,_⟩
    subst C;exact wpAny_pure h
def isKeyT (h:Heap)(k:PyData)(a:Addr):Prop:=(keyB k=true/\k.canLay0=true/\k.depth<=7)/\∃as,Reads h (.ref a) k as
def Gk (prog:Program)(w:World):HeapKind prog w PyData where
 is:=isKeyT
 hash:=Ag5 w
 draws:=Ac2
 room:=fun A=>A.units+8<cLine
 inj:=fun hx hy=>let ⟨⟨_,l,_⟩,_,r⟩:=hx;let ⟨_,_,r'⟩:=hy; SeqAt.Reads.unique _ _ _ _ _ l r r'
 keeps:=fun x ho hd hs=>let ⟨c,_,r⟩:=x; ⟨c,_,Uk ho hd hs _ c.1 _ _ r⟩
 pyHash:=fun hu hk h=>let ⟨c,_,r⟩:=hk; A1b 7 _ c.2.2 c.1 _ _ _ _ _ _ (Nat.lt_of_le_of_lt (Nat.add_le_add_left (by decide) _) hu) r h
 eqBool:=fun {A E s x y a b Q} hu hx hy h=>by
  obtain⟨c,_,r⟩:=hx;obtain⟨d,_,r'⟩:=hy
  refine SeqAt.eqAt_reads x y A s _ _ _ _ r r' c.2.1 d.2.1 (Nat.lt_of_le_of_lt (Nat.add_le_add_left (Nat.le_trans (Nat.min_le_left _ _) (Nat.le_trans c.2.2 (by decide))) _) hu) prog w E Q ?_
  have e:PyData.eqv x y=decide (x=y):=by
   have:=Qi x y c.1 d.1
   by_cases z:x=y
   ·rw[decide_eq_true z];exact this.mpr z
   ·rw[decide_eq_false z]
    cases q:PyData.eqv x y with
    | false=>rfl
    | true=>exact absurd (this.mp q) z
  rw[e];exact h
 quiet:=fun hk h=>let ⟨c,_,r⟩:=hk; Aq5 7 _ c.2.2 c.1 _ _ _ _ _ _ r h
end
inductive V where
 | non | bl (b:Bool) | int (i:Int) | str (x:Str) | byt (b:Array UInt8) | flt (b:UInt64) | ref (a:Addr) | ty (n:String)
 deriving DecidableEq
@[simp] theorem V.bl.injEq (a b:Bool):(V.bl a=V.bl b)=(a=b):=propext ⟨fun h=>by cases h;rfl,fun h=>by rw[h]⟩
@[simp] theorem V.int.injEq (a b:Int):(V.int a=V.int b)=(a=b):=propext ⟨fun h=>by cases h;rfl,fun h=>by rw[h]⟩
@[simp] theorem V.str.injEq (a b:Str):(V.str a=V.str b)=(a=b):=propext ⟨fun h=>by cases h;rfl,fun h=>by rw[h]⟩
@[simp] theorem V.byt.injEq (a b:Array UInt8):(V.byt a=V.byt b)=(a=b):=propext ⟨fun h=>by cases h;rfl,fun h=>by rw[h]⟩
@[simp] theorem V.ref.injEq (a b:Addr):(V.ref a=V.ref b)=(a=b):=propext ⟨fun h=>by cases h;rfl,fun h=>by rw[h]⟩
def RelV:V->Value->Prop
 | .non,u=>u=Value.none
 | .bl b,u=>u=Value.bool b
 | .int i,u=>∃t,u=Value.int i t
 | .str x,u=>∃t,u=Value.str x t
 | .byt b,u=>∃t,u=Value.bytes b t
 | .flt b,u=>∃t,u=Value.float b t
 | .ref a,u=>u=Value.ref a
 | .ty n,u=>u=Value.type n
abbrev Vals:List V->List Value->Prop:=Paired RelV
theorem Vals.length   (r:Vals xs us):xs.length=us.length:=Paired.length r
theorem Vals.get:∀{xs:List V}{us:List Value}{i:Nat}{x:V},Vals xs us->xs[i]?=some x->∃u,us[i]?=some u/\RelV x u
 | _,_,_,_,.nil,e=>by simp at e
 | _,_,0,_,.cons r _,e=>by simp at e;subst e;exact⟨_,rfl,r⟩
 | _,_,i+1,x,.cons _ t,e=>by
  obtain⟨u,h1,h2⟩:=Vals.get (i:=i) (x:=x) t (by simpa using e)
  exact⟨u,by simpa using h1,h2⟩
theorem Vals.set {x:V}{u:Value}(r:RelV x u):∀{xs:List V}{us:List Value}(i:Nat),Vals xs us->Vals (xs.set i x) (us.set i u)
 | _,_,_,.nil=>.nil
 | _,_,0,.cons _ t=>.cons r t
 | _,_,i+1,.cons q t=>.cons q (Vals.set r i t)
theorem Vals.append:∀{xs ys:List V}{us ws:List Value},Vals xs us->Vals ys ws->Vals (xs++ys) (us++ws)
 | _,_,_,_,.nil,s=>s
 | _,_,_,_,.cons r t,s=>.cons r (Vals.append t s)
theorem Vals.take:∀{xs:List V}{us:List Value}(n:Nat),Vals xs us->Vals (xs.take n) (us.take n)
 | _,_,0,_=>.nil
 | _,_,_+1,.nil=>.nil
 | _,_,n+1,.cons r t=>.cons r (Vals.take n t)
theorem Vals.drop:∀{xs:List V}{us:List Value}(n:Nat),Vals xs us->Vals (xs.drop n) (us.drop n)
 | _,_,0,r=>r
 | _,_,_+1,.nil=>.nil
 | _,_,n+1,.cons _ t=>Vals.drop n t
def RelO:Option V->Option Value->Prop
 | some v,some u=>RelV v u
 | none,none=>True
 | _,_=>False
def KV {κ:Type}:List (κ×V)->List (κ×Value)->Prop:=Paired fun (p:κ×V) (q:κ×Value)=>p.1=q.1/\RelV p.2 q.2
def kV:Key->V
 | .inl i=>.int i
 | .inr x=>.str x
inductive HO where
 | lst (xs:List V)
 | tup (xs:List V)
 | dK (kvs:List (Key×V)) | dT (kvs:List (PyData×V))
 | set (S:Int->Bool) (n:Nat)
 | ins (C dx:Addr) (fs:List (Str×V))
 | own (x:Addr)
 | xd (fs:List (Str×V))
 | met (f x:Addr)
 | rng (lo hi:Int)
 | frz (o:Obj) (u:HO)
 | tbl (q:Str)
 | ext (φ:Heap->Prop)
abbrev Hp:=Addr->Option HO
def upd (H:Hp)(a:Addr)(o:HO):Hp:=fun b=>if b=a then some o else H b
theorem Ca    : upd H a o a=some o:=by unfold upd;simp_all
theorem Ar    (h:b≠a):upd H a o b=H b:=by unfold upd;simp_all
theorem Bv {H:Hp}   (h:H a=some o) (h':H b=none):a≠b:=by
 grind
mutual
def KTr (H:Hp):PyData->V->Prop
 | .none,v=>v=.non
 | .int i,v=>v=.int i
 | .str x,v=>v=.str x
 | .tuple ds,v=>∃a vs,v=.ref a/\H a=some (.tup vs)/\KTrL H ds vs
 | _,_=>False
def KTrL (H:Hp):List PyData->List V->Prop
 | [],vs=>vs=[]
 | d::ds,vs=>∃v r,vs=v::r/\KTr H d v/\KTrL H ds r
end
mutual
theorem KTr.stay {H H':Hp}(ht:∀b xs,H b=some (.tup xs)->H' b=some (.tup xs)):∀{d:PyData}{v:V},KTr H d v->KTr H' d v
 | .none,_,h=>h
 | .int _,_,h=>h
 | .str _,_,h=>h
 | .tuple _,_,⟨a,vs,e,ha,t⟩=>⟨a,vs,e,ht _ _ ha,KTrL.stay ht t⟩
theorem KTrL.stay {H H':Hp}(ht:∀b xs,H b=some (.tup xs)->H' b=some (.tup xs)):∀{ds:List PyData}{vs:List V},KTrL H ds vs->KTrL H' ds vs
 | [],_,h=>h
 | _::_,_,⟨v,r,e,h,t⟩=>⟨v,r,e,KTr.stay ht h,KTrL.stay ht t⟩
end
def Bj5 (k:PyData):Prop:=keyB k=true/\k.canLay0=true/\k.depth<=7
def KAt (H:Hp)(k:PyData)(a:Addr):Prop:=Bj5 k/\KTr H k (.ref a)
theorem KAt.stay    (ht:∀b xs,H b=some (.tup xs)->H' b=some (.tup xs)) (h:KAt H k a):KAt H' k a:=⟨h.1,KTr.stay ht h.2⟩
def zL (h:Heap)(a:Addr)(items:Array Value):Prop:=∃o,h.get? a=some o/\o.cls=.type "tuple" /\ (∃n,o.data=.seq items n)/\o.dict=none
theorem zL.tup    (x:zL h a items):IsTup h a items:=let ⟨o,h1,h2,h3,_⟩:=x; ⟨o,h1,h2,h3⟩
theorem zL.lt    (x:zL h a items):a<h.objs.size:=x.tup.lt
theorem zL.new (h:Heap)(items:Array Value):zL (h.push { cls:=.type "tuple",data:=.seq items }) h.objs.size items:=⟨_,Heap.get?_push_size _ rfl,rfl,⟨_,rfl⟩,rfl⟩
section
variable (P:Program)(w:World)
def z9 (H:Hp)(h:Heap)(a:Addr):HO->Prop
 | .lst xs=>xs.length<=sizeLine/\∃(its:List Value) (n:Nat),Vals xs its/\h.get? a=some { cls:=.type "list",data:=.seq its.toArray n }
 | .tup xs=>xs.length<=sizeLine/\∃its:List Value,Vals xs its/\zL h a its.toArray
 | .dK kvs=>kvs.length<=sizeLine/\(a==sysModules)=false/\∃vs,KV kvs vs/\h.DictOf (Io P w) a vs
 | .dT kvs=>kvs.length<=sizeLine/\(a==sysModules)=false/\∃xs:List (PyData×Addr×Value),
  Paired (fun (p:PyData×V) (q:PyData×Addr×Value)=>p.1=q.1/\KAt H p.1 q.2.1/\RelV p.2 q.2.2) kvs xs /\
  ∃o es ep,h.get? a=some o/\o.ExactDict/\o.data=.dict es ep/\es.toList=xs.map (entryOfKey (Gk P w))/\(xs.map (·.1)).Nodup
 | .set S n=>h.SetOf (intKind P w) a S n
 | .ins C dx fs=>H dx=some (.own a)/\fs.length<=1000/\dx≠a/\h.get? a=some (PySem.W.instObj C dx) /\
  ∃mA,h.Ns1 dx mA/\(∀f,RelO (fs.lookup f) (mA f))/\PySem.Within mA (fs.map (·.1))
 | .own _=>∃o,h.get? a=some o
 | .xd fs=>∃mA,h.Ns1 a mA/\∀f,RelO (fs.lookup f) (mA f)
 | .rng lo hi=>∃t u v,h.get? a=some { cls:=.type "range",data:=.fields #[.int lo t,.int hi u,.int 1 v] }
 | .frz o u=>h.get? a=some o/\z9 H h a u
 | .tbl q=>∃ps:Array Value,h.get? a=some { cls:=.none,data:=.fields ps }/\TriplesOk ps.toList/\∀pos cv,codeAmong pos ps.toList=some cv->∃c o vs t,cv=.ref c/\H c=some (.frz o (.own 0))/\o.data=.fields vs/\vs[1]?=some (.str q t)
 | .met f x=>h.get? a=some (PySem.W.methodObj (.ref f) (.ref x))
 | .ext φ=>φ h/\(∃o,h.get? a=some o)/\∀h1 h2:Heap,φ h1->(∀o,h1.get? a=some o->h2.get? a=some o)->φ h2
def HOk (H:Hp)(h:Heap):Prop:=∀a o,H a=some o->z9 P w H h a o
end
section
variable {P:Program}{w:World}{H H':Hp}{h h':Heap}{a:Addr}{o:HO}
theorem z9.lt (x:z9 P w H h a o):a<h.objs.size:=by
 cases o with
 | lst d=>obtain⟨_,_,_,_,e⟩:=x;exact Heap.lt_size e
 | tup d=>obtain⟨_,_,_,p⟩:=x;exact p.lt
 | dK b=>obtain⟨_,_,_,_,o,_,_,e,_⟩:=x;exact Heap.lt_size e
 | dT b=>obtain⟨_,_,_,_,o,_,_,e,_⟩:=x;exact Heap.lt_size e
 | set S n=>obtain⟨o,_,_,_,e,_⟩:=x;exact Heap.lt_size e
 | ins C g c=>obtain⟨_,_,_,e,_⟩:=x;exact Heap.lt_size e
 | own y=>obtain⟨_,e⟩:=x;exact Heap.lt_size e
 | xd c=>obtain⟨_,⟨_,_,_,e,_⟩,_⟩:=x;exact Heap.lt_size e
 | rng j k=>obtain⟨_,_,_,e⟩:=x;exact Heap.lt_size e
 | frz l u=>obtain⟨e,_⟩:=x;exact Heap.lt_size e
 | tbl q=>obtain⟨_,e,_⟩:=x;exact Heap.lt_size e
 | met f y=>exact Heap.lt_size (x)
 | ext i=>obtain⟨_,⟨_,e⟩,_⟩:=x;exact Heap.lt_size e
theorem Paired.mapP {α β:Type}{F G:α->β->Prop}:∀{l₁:List α}{l₂:List β},Paired F l₁ l₂->(∀a b,F a b->G a b)->Paired G l₁ l₂
 | _,_,.nil,_=>.nil
 | _,_,.cons r t,f=>.cons (f _ _ r) (Paired.mapP t f)
theorem z9.stay (x:z9 P w H h a o)(k:∀b u,(b=a\/H b=some (.own a))->h.get? b=some u->h'.get? b=some u)
 (ho:∀b,H b=some (.own a)->H' b=some (.own a)) (ht:∀b m,H b=some (.tup m)->H' b=some (.tup m)) (hz:∀b o u,H b=some (.frz o u)->H' b=some (.frz o u):=by exact fun _ _ _ q=>q):z9 P w H' h' a o:=by
 induction o with
 | lst m=>obtain⟨z,l,n,r,e⟩:=x;exact⟨z,l,n,r,k _ _ (.inl rfl) e⟩
 | tup m=>obtain⟨z,l,r,g,e,c⟩:=x;exact⟨z,l,r,g,k _ _ (.inl rfl) e,c⟩
 | dK A=>obtain⟨z,y,D,r,g,i,j,e,c⟩:=x;exact⟨z,y,D,r,g,i,j,k _ _ (.inl rfl) e,c⟩
 | dT A =>
  obtain⟨z,y,m,r,g,i,j,e,c⟩:=x
  exact⟨z,y,m,Paired.mapP r fun p q z=>⟨z.1,z.2.1.stay ht,z.2.2⟩,g,i,j,k _ _ (.inl rfl) e,c⟩
 | set S n=>obtain⟨g,i,j,t,e,c⟩:=x;exact⟨g,i,j,t,k _ _ (.inl rfl) e,c⟩
 | ins C M J =>
  obtain⟨d,z,G,e,s,⟨B,i,j,E,c⟩,r⟩:=x;exact⟨ho _ d,z,G,k _ _ (.inl rfl) e,s,⟨B,i,j,k _ _ (.inr d) E,c⟩,r⟩
 | own y=>obtain⟨g,e⟩:=x;exact⟨g,k _ _ (.inl rfl) e⟩
 | xd J=>obtain⟨s,⟨B,i,j,e,c⟩,r⟩:=x;exact⟨s,⟨B,i,j,k _ _ (.inl rfl) e,c⟩,r⟩
 | rng O N=>obtain⟨t,u,v,e⟩:=x;exact⟨t,u,v,k _ _ (.inl rfl) e⟩
 | frz g u K=>obtain⟨e,q⟩:=x;exact⟨k _ _ (.inl rfl) e,K q⟩
 | tbl q =>
  obtain⟨I,e,t,f⟩:=x
  exact⟨I,k a _ (.inl rfl) e,t,fun L Q z=>let ⟨c,g,D,tk,e1,E,e3⟩:=f _ _ z; ⟨c,g,D,tk,e1,hz _ _ _ E,e3⟩⟩
 | met f y =>
  have e:h.get? a=some _:=x
  show h'.get? a=some _
  grind
 | ext R=>obtain⟨p,⟨o,e⟩,F⟩:=x;exact⟨F _ _ p fun o q=>k _ _ (.inl rfl) q,⟨o,k _ _ (.inl rfl) e⟩,F⟩
theorem HOk.lt (x:HOk P w H h)(e:H a=some o):a<h.objs.size:=(x a o e).lt
theorem HOk.fresh (x:HOk P w H h)(e:h.objs.size<=a):H a=none:=by
 cases q:H a with
 | none=>rfl
 | some u=>exact absurd (Nat.lt_of_lt_of_le (x.lt q) e) (Nat.lt_irrefl _)
theorem HOk.kept (x:HOk P w H h)(k:∀b u,h.get? b=some u->h'.get? b=some u):HOk P w H h':=fun a o e =>
 (x a o e).stay (fun b u _ q=>k b u q) (fun _ q=>q) fun _ _ q=>q
theorem HOk.laid (x:HOk P w H h)(k:∀b u,h.get? b=some u->h'.get? b=some u)(hp:h.objs.size<=a)(f:z9 P w (upd H a o) h' a o):HOk P w (upd H a o) h':=fun b u e=>by
 have d:=x.fresh hp
 by_cases hb:b=a
 ·subst hb;rw[Ca]at e;simp_all
 ·rw[Ar hb]at e
  exact(x b u e).stay (fun c v _ q=>k c v q) fun c q=>by rw[Ar (Bv q d)];grind fun c g q=>by rw[Ar (Bv q d)];grind fun c i g q=>by rw[Ar (Bv q d)];grind
end
def Rd (H:Hp)(a:Addr)(u:HO):Prop:=H a=some u\/∃o,H a=some (.frz o u)
theorem Rd.ok       (r:Rd H a u) (x:HOk P w H h):z9 P w H h a u:=by
 rcases r with r | ⟨o,r⟩
 ·exact x a u r
 ·obtain⟨_,q⟩:=x a _ r
  omega
def Mut:Option HO->Prop
 | some (.lst _)=>True
 | some (.dK _)=>True
 | some (.dT _)=>True
 | some (.set _ _)=>True
 | some (.ins _ _ _)=>True
 | some (.ext _)=>True
 | _=>False
section
variable {P:Program}{w:World}{H:Hp}{h h':Heap}{x e:Addr}{o':HO}
theorem HOk.write (s:HOk P w H h)(f:Mut (H x))(he:e=x\/H e=some (.own x))(k:∀b u,b≠e->h.get? b=some u->h'.get? b=some u)(m:∃u,h'.get? e=some u)
 (l:z9 P w (upd H x o') h' x o'):HOk P w (upd H x o') h':=fun b u q=>by
 have a:∀c y,H c=some (.own y)->c≠x:=fun c y r z=>by subst z;rw[r]at f;exact f
 have i:∀c d,H c=some (.tup d)->c≠x:=fun c d r z=>by subst z;rw[r]at f;exact f
 have g:∀c n d,H c=some (.frz n d)->c≠x:=fun c n d r z=>by subst z;rw[r]at f;exact f
 by_cases hb:b=x
 ·subst hb;rw[Ca]at q;cases q;exact l
 ·rw[Ar hb]at q
  by_cases hbe:b=e
  ·have o:H b=some (.own x):=by
    simp_all
   rw[q]at o;cases o;obtain⟨v,p⟩:=m
   exact⟨v,by rw[hbe];exact p⟩
  ·refine (s b u q).stay (fun c v j r=>k c v ?_ r) (fun c r=>by rw[Ar (a c b r)];exact r) (fun c d r=>by rw[Ar (i c _ r)];exact r) fun c n d r=>by rw[Ar (g c _ _ r)];exact r
   rcases j with rfl | j
   ·exact hbe
   ·rintro rfl
    rcases he with z | z
    ·exact a c b j z
    ·rw[j]at z;cases z;exact hb rfl
end
structure Un (fs ex:List Addr) (H H':Hp) (h h':Heap):Prop where
 keep:∀b o,h.get? b=some o->H b=none->b∉fs->b∉ex->h'.get? b=some o
 slot:∀b o,h.get? b=some o->H b=none->b∈fs->b∉ex->∃sl,h'.get? b=some { o with slots:=sl }
 free:∀b o,h.get? b=some o->H b=none->b∉ex->H' b=none
 there:∀b o,h.get? b=some o->b∉ex->∃o',h'.get? b=some o'
 tups:∀b xs,H b=some (.tup xs)->H' b=some (.tup xs)
 frzs:∀b o u,H b=some (.frz o u)->H' b=some (.frz o u)
 tbls:∀b q,H b=some (.tbl q)->H' b=some (.tbl q)
section
variable {fs fs' ex ex':List Addr}{H H1 H2:Hp}{h h1 h2 h':Heap}{a x e:Addr}{o:HO}
theorem Un.any (u:Un fs ex H H1 h h1)   (q:h.get? b=some ob) (n:H b=none) (hx:b∉ex):∃sl,h1.get? b=some { ob with slots:=sl }:=by
 by_cases hb:b∈fs
 ·exact u.slot b _ q n hb hx
 ·exact⟨ob.slots,u.keep b _ q n hb hx⟩
theorem Un.kept (k:∀b u,h.get? b=some u->h'.get? b=some u):Un fs ex H H h h' :=
 ⟨fun b a q _ _ _=>k b _ q,fun b a q _ _ _=>⟨a.slots,k b a q⟩,fun _ _ _ n _=>n,fun b a q _=>⟨a,k b _ q⟩,fun _ _ q=>q,fun _ _ _ q=>q,fun _ _ q=>q⟩
theorem Un.refl:Un fs ex H H h h:=Un.kept fun _ _ q=>q
theorem Un.laid (k:∀b u,h.get? b=some u->h'.get? b=some u)(hp:h.objs.size<=a)(hn:H a=none):Un fs ex H (upd H a o) h h' where
 keep:=fun b u q _ _ _=>k b u q
 slot:=fun b u q _ _ _=>⟨u.slots,k b u q⟩
 free:=fun b u q n _=>by rw[Ar (Nat.ne_of_lt (Nat.lt_of_lt_of_le (Heap.lt_size q) hp))];exact n
 there:=fun b u q _=>⟨u,k b u q⟩
 tups:=fun b xs q=>by rw[Ar (Bv q hn)];exact q
 frzs:=fun b u xs q=>by rw[Ar (Bv q hn)];exact q
 tbls:=fun b ps q=>by rw[Ar (Bv q hn)];exact q
theorem Un.write (d:Mut (H x))(he:e=x\/H e=some (.own x))(k:∀b u,b≠e->h.get? b=some u->h'.get? b=some u)(f:∃u,h'.get? e=some u):Un fs ex H (upd H x o) h h':=by
 have i:∀b,H b=none->b≠x:=fun b n z=>by subst z;rw[n]at d;exact d
 have c:∀b,H b=none->b≠e:=fun b n z=>by
  grind
 have a:∀b u,H b=some u->¬ Mut (some u)->b≠x:=fun b u q l z=>by simp_all
 refine⟨fun b u q n _ _=>k b u (c b n) q,fun b u q n _ _=>⟨u.slots,k b u (c b n) q⟩,fun b u q n _=>by rw[Ar (i b n)];grind,fun b u q _=>?_,
  fun b g q=>by rw[Ar (a b _ q fun z=>z)];grind,fun b u g q=>by rw[Ar (a b _ q fun z=>z)];grind,fun b j q=>by rw[Ar (a b _ q fun z=>z)];grind⟩
 grind
end
def trk (h:Heap)(H:Hp):List Addr:=(List.range h.objs.size).filter fun a=>(H a).isSome
def Ws (h:Heap)(H:Hp):Heap:=PySem.W.hideAll h (trk h H)
theorem A2h (h:Heap)(H:Hp):(Ws h H).objs.size=h.objs.size:=PySem.W.hideAll_size _ _
theorem A7m     (e:h.get? b=some o) (n:H b=none):(Ws h H).get? b=some o :=
 PySem.W.hideAll_get _ e fun a=>by
  have q  := (List.mem_filter.mp a).2
  grind
theorem Bd9     (e:(Ws h H).get? b=some o):h.get? b=some o/\H b=none:=by
 have a  := PySem.W.of_hideAll _ e
 refine⟨a,?_⟩
 cases q:H b with
 | none=>rfl
 | some x =>
  have c:b∈trk h H:=List.mem_filter.mpr ⟨List.mem_range.mpr (Heap.lt_size a),by grind⟩
  have z:(Ws h H).get? b=none:=PySem.W.hideAll_none _ c
  simp_all
def Be2 (g h:Heap)(L:Addr):List (Addr×Obj):=(List.range h.objs.size).filterMap fun a=>if a=L\/(g.get? a).isSome=true then none else (h.get? a).map fun o=>(a,o)
def rest (g h:Heap)(L d:Addr):List (Addr×Obj):=(Be2 g h L).filter fun p=>decide (p.1≠d)
def Av9 (T:Addr)(q:Str):Obj:={ cls:=.str q 0,data:=.cell (some (.ref T)) }
def V9 (o:Obj):Option (Addr×Str):=match o.data with
 | .cell (some (.ref T))=>(match o.cls with
  | .str q _=>some (T,q)
  | _=>none)
 | _=>none
def Em (K:PySem.W.Frag):List (Addr×Str):=K.filterMap fun p=>V9 p.2
structure Mod (K:PySem.W.Frag) (mg:Str->Option Value) (base:Heap):Prop where
 kin:K.In base
 glob:base.Ns mainGlobals mg
 blt:∃mb,base.Ns builtinsNs mb/\∀x:Str,x ≠ "__name__" -> mb x=bootBuiltins x
 nolimit:base.NoLimit
 bmod:∃bm o,mg "__builtins__" = some (.ref bm)/\bm≠builtinsNs/\bm≠mainGlobals/\base.get? bm=some o/\o.cls=.type "module" /\ o.dict=some builtinsNs/\o.data=.plain
structure Cx where
 prog:Program
 w:World
 K:PySem.W.Frag
 mg:Str->Option Value
 base:Heap
 A:Around
 N:List Str
 s₀:Shared
 H₀:Hp
 env:Env
 outer:List Env
 stack:List Env
 ex:List Addr
 fn:Str->Bool
 calm:Bool
 pn:List (Addr×Obj)
 xe:Value->Shared->Prop
def frs (l:List Env):List Addr:=l.filterMap (·.frame)
abbrev Cx.fs (X:Cx):List Addr:=frs X.outer
def Vis (sc:Scope)(x:Str):Prop:=sc.names.lookup x=some .local\/sc.names.lookup x=some .cell\/sc.names.lookup x=some .free
def Loc (sc:Scope)(x:Str):Prop:=sc.names.lookup x=some .local\/sc.names.lookup x=some .cell
def Look (env:Env)(h:Heap)(m:Str->Option Value)(x:Str)(u:Value):Prop :=
 (env.kindOf x=some .local/\m x=some u)\/((env.kindOf x=some .cell\/env.kindOf x=some .free)/\∃c,env.cells.lookup x=some c/\h.IsCell c (some u))
structure Cx.Ok (X:Cx):Prop where
 mod:Mod X.K X.mg X.base
 kind:X.env.scope.kind=.function
 glob:X.env.globals=mainGlobals
 blt:X.env.builtins=builtinsNs
 above:X.s₀.heap.objs.size<=X.env.locals
 inj:∀x y c,X.env.cells.lookup x=some c->X.env.cells.lookup y=some c->x=y
 has:∀x,(X.env.kindOf x=some .cell\/X.env.kindOf x=some .free)->∃c,X.env.cells.lookup x=some c
 cab:∀x c,X.fn x=true->X.env.cells.lookup x=some c->X.s₀.heap.objs.size<=c
 hd:X.calm=true->X.A.handled=none
 frames:X.A.frames=some X.stack
 stk:X.stack=X.outer\/(X.stack=X.env::X.outer/\X.env.frame=some X.env.locals)
 exf:∀b∈X.ex,b≠X.env.locals/\∀x c,X.env.cells.lookup x=some c->c≠b
 bs:∀b o,X.base.get? b=some o->X.s₀.heap.get? b=some o/\X.H₀ b=none
 bsz:X.base.objs.size<=X.s₀.heap.objs.size
 noex:∀b o,X.base.get? b=some o->b∉X.ex
 exfs:∀b∈X.ex,b∉X.fs
 funs:X.s₀.heap.FunFrames X.base X.outer
 frf:∀b∈X.fs,X.H₀ b=none
 tab:∀p∈Em X.K,X.H₀ p.1=some (.tbl p.2)
structure Inv (X:Cx) (pins:List (Addr×Obj)) (σ:List (Option V)) (H:Hp) (s:Shared):Prop where
 ok:X.Ok
 os:s.os=X.s₀.os
 bare:AllBare s.gens
 base:Un X.fs X.ex X.H₀ H X.s₀.heap s.heap
 loc:∃m,s.heap.Ns X.env.locals m/\∀(i:Nat) (x:Str) (v:V),X.N[i]?=some x->σ[i]?=some (some v)->Vis X.env.scope x->∃u,RelV v u/\Look X.env s.heap m x u
 cell:∀x c,X.env.cells.lookup x=some c->∃v,s.heap.IsCell c v
 free:H X.env.locals=none
 freeC:∀x c,X.env.cells.lookup x=some c->H c=none
 pin:∀p∈X.pn++pins,s.heap.get? p.1=some p.2/\H p.1=none/\p.1≠X.env.locals/\p.1∉X.fs/\∀v,p.2.data≠.cell v
 hok:HOk X.prog X.w H s.heap
 len:σ.length=X.N.length
section
variable {X:Cx}{pins:List (Addr×Obj)}{σ:List (Option V)}{H H':Hp}{s:Shared}{h':Heap}
theorem Cx.Ok.nofr (c:X.Ok)   (e:X.base.get? b=some o):b∉X.fs:=fun a=>by
 have:=(c.funs.mem a).1
 simp_all
theorem Inv.bs (I:Inv X pins σ H s):∀b o,X.base.get? b=some o->s.heap.get? b=some o/\H b=none:=fun b o e =>
 ⟨I.base.keep b o (I.ok.bs b o e).1 (I.ok.bs b o e).2 (I.ok.nofr e) (I.ok.noex b o e),I.base.free b o (I.ok.bs b o e).1 (I.ok.bs b o e).2 (I.ok.noex b o e)⟩
theorem Inv.bk (I:Inv X pins σ H s):∀b o,X.base.get? b=some o->s.heap.get? b=some o:=fun b o e=>(I.bs b o e).1
theorem Inv.mod (I:Inv X pins σ H s):Mod X.K X.mg X.base:=I.ok.mod
theorem Inv.kIn (I:Inv X pins σ H s):X.K.In s.heap:=I.ok.mod.kin.keeps I.bk
theorem Inv.nolimit (I:Inv X pins σ H s):s.heap.NoLimit:=I.ok.mod.nolimit.keeps I.bk
theorem Inv.fr (I:Inv X pins σ H s):∃m,Fr X.base X.env.locals s.heap m :=
 let ⟨m,hn,_⟩:=I.loc
 ⟨m,hn,I.bk,Nat.le_trans I.ok.bsz I.ok.above⟩
theorem Inv.lt (I:Inv X pins σ H s):X.env.locals<s.heap.objs.size:=let ⟨_,hn,_⟩:=I.loc;hn.lt
theorem Inv.sz (I:Inv X pins σ H s):X.s₀.heap.objs.size<=s.heap.objs.size:=Nat.le_trans I.ok.above (Nat.le_of_lt I.lt)
theorem Inv.nofs (I:Inv X pins σ H s)  (h:s.heap.objs.size<=a):a∉X.fs:=fun c=>by
 obtain⟨_,o,b,_⟩:=I.ok.funs.mem c;exact absurd (Nat.lt_of_lt_of_le (Heap.lt_size b) (Nat.le_trans I.sz h)) (Nat.lt_irrefl _)
theorem Inv.cne (I:Inv X pins σ H s):∀x c,X.env.cells.lookup x=some c->c≠X.env.locals:=fun x c e z=>by
 obtain⟨v,o,d,i⟩:=I.cell x c e;obtain⟨m,⟨f,g,h,a,b,_⟩,_⟩:=I.loc
 simp_all
theorem Inv.funs (I:Inv X pins σ H s):s.heap.FunFrames X.base X.outer:=by
 have d:∀(l:List _),(∀b∈frs l,b∈X.fs)->X.s₀.heap.FunFrames X.base l->s.heap.FunFrames X.base l:=by
  intro l
  induction l with
  | nil=>intro _ _;trivial
  | cons h r j =>
   intro g q;obtain⟨i,⟨L,o,f,k,m,n⟩,p⟩:=q
   have c  := g L (by unfold frs;simp_all)
   obtain⟨t,e⟩:=I.base.slot L o m (I.ok.frf L c) c fun z=>I.ok.exfs L z c
   exact⟨i,⟨L,_,f,k,e,n⟩,j (fun b a=>g b (by unfold frs;rw[List.filterMap_cons,f];exact List.mem_cons_of_mem _ a)) p⟩
 exact d _ (fun _ a=>a) I.ok.funs
theorem Inv.stack (I:Inv X pins σ H s):s.heap.FunFrames X.base X.stack:=by
 rcases I.ok.stk with e | ⟨e,b⟩
 ·rw[e];exact I.funs
 ·rw[e]
  obtain⟨m,a,_⟩:=I.loc
  refine .cons (by rw[I.ok.kind];decide) b a ?_ I.funs
  exact Heap.get?_none_of_le (Nat.le_trans I.ok.bsz I.ok.above)
theorem Inv.stkSub (I:Inv X pins σ H s):∀b∈frs X.stack,b∈X.env.locals::X.fs:=fun b a=>by
 rcases I.ok.stk with e | ⟨e,c⟩
 ·simp_all
 ·rw[e]at a
  unfold frs at a;rw[List.filterMap_cons,c]at a;exact a
theorem Inv.stkFree (I:Inv X pins σ H s):∀b∈frs X.stack,H b=none:=fun b a=>by
 rcases List.mem_cons.mp (I.stkSub b a) with e | a
 ·rw[e];exact I.free
 ·obtain⟨_,o,c,_⟩:=I.ok.funs.mem a
  exact I.base.free b o c (I.ok.frf b a) fun z=>I.ok.exfs b z a
theorem Inv.step    {ch:List Addr}(I:Inv X pins σ H s)
 (j:∀b∈ch,(b∈X.ex\/X.s₀.heap.objs.size<=b)/\b≠X.env.locals/\(∀x c,X.env.cells.lookup x=some c->c≠b)/\∀p∈X.pn++pins,p.1≠b)
 (t:∀b o,b≠X.env.locals->b∉X.fs->b∉ch->s.heap.get? b=some o->H b=none->h'.get? b=some o)
 (slot:∀b o,b≠X.env.locals->b∈X.fs->b∉ch->s.heap.get? b=some o->H b=none->∃L,h'.get? b=some { o with slots:=L }) (f:∀b o,b∉ch->s.heap.get? b=some o->H b=none->H' b=none)
 (w:∀b o,b∉ch->s.heap.get? b=some o->∃O,h'.get? b=some O)
 (D:∀b J,H b=some (.tup J)->H' b=some (.tup J)) (F:∀b o u,H b=some (.frz o u)->H' b=some (.frz o u)) (C:∀b q,H b=some (.tbl q)->H' b=some (.tbl q))
 (ns:∀m,s.heap.Ns X.env.locals m->h'.Ns X.env.locals m) (N:HOk X.prog X.w H' h') (hg:AllBare g') :
 Inv X pins σ H' { s with heap:=h',gens:=g',drawn:=d',toks:=t' }:=by
 have G:∀b o,X.s₀.heap.get? b=some o->b≠X.env.locals:=fun b o e=>Nat.ne_of_lt (Nat.lt_of_lt_of_le (Heap.lt_size e) I.ok.above)
 have h:∀b o,X.s₀.heap.get? b=some o->b∉X.ex->b∉ch:=fun b o e a A=>by
  rcases (j b A).1 with z | z
  ·exact a z
  ·exact absurd (Nat.lt_of_lt_of_le (Heap.lt_size e) z) (Nat.lt_irrefl _)
 have g:∀x c,X.env.cells.lookup x=some c->∀v,s.heap.IsCell c v->h'.IsCell c v:=fun x c e v ⟨o,B,K⟩=>by
  have E:c∉ch:=fun z=>(j c z).2.2.1 x c e rfl
  by_cases hc:c∈X.fs
  ·obtain⟨L,q⟩:=slot c o (I.cne x c e) hc E B (I.freeC x c e)
   exact⟨_,q,K⟩
  ·exact⟨o,t c o (I.cne x c e) hc E B (I.freeC x c e),K⟩
 refine⟨I.ok,I.os,hg,⟨fun b o e n A a=>?_,fun b o e n A a=>?_,fun b o e n a=>?_,fun b o e a=>?_,fun b J e=>D b _ (I.base.tups b _ e),fun b o J e=>F b o _ (I.base.frzs b o _ e),fun b V e=>?_⟩,?_,fun x c e=>?_,?_,fun x c e=>?_,fun p Q=>?_,N,I.len⟩
 ·exact t b o (G b o e) A (h b o e a) (I.base.keep b o e n A a) (I.base.free b o e n a)
 ·obtain⟨L,y⟩:=I.base.slot b o e n A a
  obtain⟨P,M⟩:=slot b _ (G b o e) A (h b o e a) y (I.base.free b o e n a);exact⟨P,M⟩
 ·obtain⟨O,y⟩:=I.base.there b o e a
  exact f b _ (h b o e a) y (I.base.free b o e n a)
 ·obtain⟨O,y⟩:=I.base.there b o e a
  exact w b _ (h b o e a) y
 ·exact C b _ (I.base.tbls b _ e)
 ·obtain⟨m,R,S⟩:=I.loc
  refine⟨m,ns m R,fun i x v y M T=>?_⟩
  obtain⟨u,r,l⟩:=S i x v y M T
  refine⟨u,r,?_⟩
  rcases l with l | ⟨k,c,e,z⟩
  ·exact .inl l
  ·exact .inr ⟨k,c,e,g x c e _ z⟩
 ·obtain⟨v,z⟩:=I.cell x c e
  exact⟨v,g x c e v z⟩
 ·obtain⟨m,⟨o,_,_,B,_⟩,_⟩:=I.loc
  exact f _ o (fun z=>(j _ z).2.1 rfl) B I.free
 ·obtain⟨v,o,B,K⟩:=I.cell x c e
  exact f c o (fun z=>(j c z).2.2.1 x c e rfl) B (I.freeC x c e)
 ·obtain⟨e,n,W,U,d⟩:=I.pin p Q
  grind
theorem Inv.un  (I:Inv X pins σ H s) (u:Un X.fs [] H H' s.heap h') (g:HOk X.prog X.w H' h'):Inv X pins σ H' { s with heap:=h',toks:=t' }:=by
 obtain⟨m,⟨o,l,v,h,r⟩,_⟩:=id I.loc
 obtain⟨q,j⟩:=u.any h I.free (by simp)
 exact I.step   (ch:=[]) (fun _ z=>nomatch z) (fun b o _ c _ e n=>u.keep b o e n c (by simp)) (fun b o _ c _ e n=>u.slot b o e n c (by simp)) (fun b o _ e n=>u.free b o e n (by simp)) (fun b o _ e=>u.there b o e (by simp)) u.tups u.frzs u.tbls (fun t i=>by
  obtain⟨p,d,f,a,k⟩:=i;rw[h]at a;cases a
  exact⟨_,d,f,j,k⟩) g I.bare
theorem Inv.call     (I:Inv X pins σ H s) (u:Un (frs X.stack) ch H H' s.heap h') (g:HOk X.prog X.w H' h') (hg:AllBare g')
 (d:∀b∈ch,(b∈X.ex\/X.s₀.heap.objs.size<=b)/\b≠X.env.locals/\(∀x c,X.env.cells.lookup x=some c->c≠b)/\∀p∈X.pn++pins,p.1≠b) :
 Inv X pins σ H' { s with heap:=h',gens:=g',drawn:=d',toks:=t' }:=by
 obtain⟨m,⟨o,v,A,k,r⟩,_⟩:=id I.loc
 obtain⟨y,h⟩:=u.any k I.free fun z=>(d _ z).2.1 rfl
 exact I.step  d (fun b o h q a e n=>u.keep b o e n (fun z=>(List.mem_cons.mp (I.stkSub b z)).elim h q) a) (fun b o _ _ a e n=>u.any e n a) (fun b o a e n=>u.free b o e n a) (fun b o a e=>u.there b o e a) u.tups u.frzs u.tbls (fun B t=>by
  obtain⟨w,j,i,f,l⟩:=t;rw[k]at f;cases f
  exact⟨_,j,i,h,l⟩) g hg
theorem Inv.turned   (I:Inv X pins σ H s) (k:∀b o,b≠it->s.heap.get? b=some o->h'.get? b=some o) (hn:H it=none) (h:it≠X.env.locals)
 (h1:it∈X.ex\/X.s₀.heap.objs.size<=it) (h2:∀x c,X.env.cells.lookup x=some c->c≠it) (j:∀p∈X.pn++pins,p.1≠it):Inv X pins σ H { s with heap:=h',toks:=t' }:=by
 refine I.step   (ch:=[it]) (fun b t=>?_) (fun b o _ _ a e _=>k b o (fun z=>a (by grind)) e) (fun b o _ _ a e _=>⟨o.slots,k b o (fun z=>a (by grind)) e⟩) (fun _ _ _ _ n=>n)
  (fun b o a e=>⟨o,k b o (fun z=>a (by grind)) e⟩) (fun _ _ e=>e) (fun _ _ _ e=>e) (fun b l e=>e) (fun m g=>?_) (fun b u e=>?_) I.bare
 ·grind
 ·obtain⟨o,f,i,d,r⟩:=g
  exact⟨o,f,i,k _ o (Ne.symm h) d,r⟩
 ·refine (I.hok b u e).stay (fun c v a q=>k c v ?_ q) (fun _ q=>q) fun _ _ q=>q
  grind
theorem Inv.tok (I:Inv X pins σ H s)(t:Nat):Inv X pins σ H { s with toks:=t }:=I.un   Un.refl I.hok
theorem Inv.kept  (I:Inv X pins σ H s) (k:∀b u,s.heap.get? b=some u->h'.get? b=some u):Inv X pins σ H { s with heap:=h',toks:=t' }:=I.un (Un.kept k) (I.hok.kept k)
theorem Inv.laid    (I:Inv X pins σ H s) (k:∀b u,s.heap.get? b=some u->h'.get? b=some u) (hp:s.heap.objs.size<=a) (c:z9 X.prog X.w (upd H a o) h' a o) :
 Inv X pins σ (upd H a o) { s with heap:=h',toks:=t' }:=I.un (Un.laid k hp (I.hok.fresh hp)) (I.hok.laid k hp c)
theorem Inv.write    (I:Inv X pins σ H s) (d:Mut (H x)) (he:e=x\/H e=some (.own x)) (k:∀b u,b≠e->s.heap.get? b=some u->h'.get? b=some u) (a:∃u,h'.get? e=some u)
 (c:z9 X.prog X.w (upd H x o) h' x o):Inv X pins σ (upd H x o) { s with heap:=h',toks:=t' }:=I.un (Un.write d he k a) (I.hok.write d he k a c)
theorem Inv.pins_of  (I:Inv X pins σ H s) (h:∀p∈a,s.heap.get? p.1=some p.2/\H p.1=none/\p.1≠X.env.locals/\p.1∉X.fs/\∀v,p.2.data≠.cell v):Inv X a σ H s :=
 ⟨I.ok,I.os,I.bare,I.base,I.loc,I.cell,I.free,I.freeC,fun p b=>(List.mem_append.mp b).elim (fun z=>I.pin p (List.mem_append_left _ z)) (h p),I.hok,I.len⟩
theorem Af1 {N:List Str}(hN:N.Nodup){i j:Nat}  (a:N[i]?=some x) (b:N[j]?=some x):i=j:=by
 obtain⟨e,d⟩:=List.getElem?_eq_some_iff.mp a;obtain⟨f,c⟩:=List.getElem?_eq_some_iff.mp b;exact(List.getElem_inj hN).mp (d.trans c.symm)
theorem Yi         (I:Inv X pins σ H s) (hN:X.N.Nodup) (hi:X.N[i]?=some x) (hx:Loc X.env.scope x) (r:RelV v u)
 (h:∀s',Inv X pins (σ.set i (some v)) H s'->(∃a,Heap.SameBut a s.heap s'.heap/\(a=X.env.locals\/X.env.cells.lookup x=some a))->Q () s') (hf:X.fn x=true\/X.env.scope.names.lookup x=some .local:=by first | exact .inl rfl | exact .inr rfl | assumption):wpAny M A (storeName X.env x u) Q E s:=by
 obtain⟨m,S,hl⟩:=id I.loc
 have K:(X.env.scope.kind==.class||(X.env.scope.kind==.module&&X.env.locals != X.env.globals))=false:=by rw[I.ok.kind];rfl
 have C:i<σ.length:=by rw[I.len];exact(List.getElem?_eq_some_iff.mp hi).1
 have J:=I.cne
 have g:∀{a:Addr} {L:Heap},(∃o,s.heap.get? a=some o/\H a=none)->Heap.SameBut a s.heap L->HOk X.prog X.w H L:=fun {a L} ha f b ob e=>by
  obtain⟨_,_,w⟩:=ha
  refine (I.hok b ob e).stay (fun c w' t q=>(f.2 c ?_).trans q) (fun _ q=>q) fun _ _ q=>q
  rintro rfl
  rcases t with rfl | t
  ·rw[w]at e;cases e
  ·rw[w]at t;cases t
 rcases hx with D | D
 ·refine wpAny_storeName_local D S (fun L hn' f=>?_) K
  obtain⟨oL,_,_,hoL,_⟩:=id S
  refine h _ ⟨I.ok,I.os,I.bare,⟨fun b o e n F hx=>?_,fun b o e n F hx=>?_,I.base.free,fun b o e hx=>?_,I.base.tups,I.base.frzs,I.base.tbls⟩,⟨_,hn',fun j y v' l B T=>?_⟩,fun y c e=>?_,I.free,I.freeC,fun p U=>?_,g ⟨oL,hoL,I.free⟩ f,by simpa using I.len⟩ ⟨_,f,.inl rfl⟩
  ·exact(f.2 b (Nat.ne_of_lt (Nat.lt_of_lt_of_le (Heap.lt_size e) I.ok.above))).trans (I.base.keep b o e n F hx)
  ·obtain⟨W,l⟩:=I.base.slot b o e n F hx
   exact⟨W,(f.2 b (Nat.ne_of_lt (Nat.lt_of_lt_of_le (Heap.lt_size e) I.ok.above))).trans l⟩
  ·obtain⟨Y,l⟩:=I.base.there b o e hx
   exact⟨Y,(f.2 b (Nat.ne_of_lt (Nat.lt_of_lt_of_le (Heap.lt_size e) I.ok.above))).trans l⟩
  ·by_cases hj:j=i
   ·subst hj
    rw[hi]at l;cases l;rw[List.getElem?_set_self C]at B
    cases B
    exact⟨u,r,.inl ⟨D,by simp⟩⟩
   ·rw[List.getElem?_set_ne (Ne.symm hj)]at B
    obtain⟨Z,r',q⟩:=hl j y _ l B T
    refine⟨Z,r',?_⟩
    rcases q with ⟨k,e⟩ | ⟨k,c,e,z⟩
    ·refine .inl ⟨k,?_⟩
     have:y≠x:=fun e=>hj (Af1 hN l (e▸hi))
     simp[this,e]
    ·exact .inr ⟨k,c,e,z.sameBut f (J y c e)⟩
  ·obtain⟨w',z⟩:=I.cell y c e
   exact⟨w',z.sameBut f (J y c e)⟩
  ·obtain⟨e,n,R,nf,d⟩:=I.pin p U
   exact⟨(f.2 _ R).trans e,n,R,nf,d⟩
 ·have G:X.fn x=true:=by
   rcases hf with z | z
   ·exact z
   ·rw[z]at D;cases D
  obtain⟨c,t⟩:=I.ok.has x (.inl D);obtain⟨w',z⟩:=I.cell x c t
  refine wpAny_storeName_cell I.ok.kind D t z fun L N f=>?_
  obtain⟨oc,P,O⟩:=id z
  refine h _ ⟨I.ok,I.os,I.bare,⟨fun b o e n F hx=>?_,fun b o e n F hx=>?_,I.base.free,fun b o e hx=>?_,I.base.tups,I.base.frzs,I.base.tbls⟩,⟨m,S.sameBut f (Ne.symm (J x c t)),fun j y v' l B T=>?_⟩,fun y c' e=>?_,I.free,I.freeC,fun p U=>?_,g ⟨oc,P,I.freeC x c t⟩ f,by simpa using I.len⟩ ⟨c,f,.inr t⟩
  ·exact(f.2 b (Nat.ne_of_lt (Nat.lt_of_lt_of_le (Heap.lt_size e) (I.ok.cab x c G t)))).trans (I.base.keep b o e n F hx)
  ·obtain⟨W,l⟩:=I.base.slot b o e n F hx
   exact⟨W,(f.2 b (Nat.ne_of_lt (Nat.lt_of_lt_of_le (Heap.lt_size e) (I.ok.cab x c G t)))).trans l⟩
  ·obtain⟨Y,l⟩:=I.base.there b o e hx
   exact⟨Y,(f.2 b (Nat.ne_of_lt (Nat.lt_of_lt_of_le (Heap.lt_size e) (I.ok.cab x c G t)))).trans l⟩
  ·by_cases hj:j=i
   ·subst hj
    rw[hi]at l;cases l;rw[List.getElem?_set_self C]at B
    cases B
    exact⟨u,r,.inr ⟨.inl D,c,t,N⟩⟩
   ·rw[List.getElem?_set_ne (Ne.symm hj)]at B
    obtain⟨Z,r',q⟩:=hl j y _ l B T
    refine⟨Z,r',?_⟩
    rcases q with q | ⟨k,c',e,z'⟩
    ·exact .inl q
    ·refine .inr ⟨k,c',e,z'.sameBut f ?_⟩
     rintro rfl
     exact hj (Af1 hN l (I.ok.inj _ _ _ e t▸hi))
  ·by_cases hcc:c'=c
   ·subst hcc;exact⟨_,N⟩
   ·obtain⟨w2,z2⟩:=I.cell y _ e
    exact⟨w2,z2.sameBut f hcc⟩
  ·obtain⟨e,n,R,nf,d⟩:=I.pin p U
   refine⟨(f.2 _ ?_).trans e,n,R,nf,d⟩
   intro q;rw[q,P]at e
   exact d _ (by rw[<- (Option.some.inj e)];exact O)
theorem Hk         (I:Inv X pins σ H s) (hN:X.N.Nodup) (hi:X.N[i]?=some x) (hx:Loc X.env.scope x) (r:RelV v u)
 (h:∀a,Inv X pins (σ.set i (some v)) H a->Q () a) (hf:X.fn x=true\/X.env.scope.names.lookup x=some .local:=by first | exact .inl rfl | exact .inr rfl | assumption):wpAny M A (storeName X.env x u) Q E s :=
 Yi I hN hi hx r (fun a b _=>h _ b) hf
theorem Inv.call'   (I:Inv X pins σ H s) (ho:s'.os=s.os) (u:Un (frs X.stack) ch H H' s.heap s'.heap) (d:HOk X.prog X.w H' s'.heap) (hg:AllBare s'.gens)
 (a:∀b∈ch,(b∈X.ex\/X.s₀.heap.objs.size<=b)/\b≠X.env.locals/\(∀x c,X.env.cells.lookup x=some c->c≠b)/\∀p∈X.pn++pins,p.1≠b):Inv X pins σ H' s':=by
 obtain⟨f,g,h,i,e⟩:=s';subst ho;exact I.call    u d hg a
end
abbrev XK:=Value->Option Addr->Hp->Prop
abbrev St:=List (Option V)
abbrev VK:=V->Hp->Prop
abbrev TE:=St->Hp->VK->Prop
abbrev TT:=St->Hp->(Bool->Hp->Prop)->Prop
abbrev TA:=St->Hp->(List V->Hp->Prop)->Prop
structure Ends where
 nx:St->Hp->Prop
 rt:VK
 bk:St->Hp->Prop:=fun _ _=>False
 ct:St->Hp->Prop:=fun _ _=>False
abbrev TS:=Ends->St->Hp->Prop
def EP (X:Cx)(pins:List (Addr×Obj))(σ:St)(Q:VK)(u:Value)(s':Shared):Prop:=∃v H',Inv X pins σ H' s'/\RelV v u/\Q v H'
def TP (X:Cx)(pins:List (Addr×Obj))(σ:St)(Q:Bool->Hp->Prop)(b:Bool)(s':Shared):Prop:=∃H',Inv X pins σ H' s'/\Q b H'
def AP (X:Cx)(pins:List (Addr×Obj))(σ:St)(Q:List V->Hp->Prop)(us:List Value)(s':Shared):Prop:=∃vs H',Inv X pins σ H' s'/\Vals vs us/\Q vs H'
def SP (X:Cx)(pins:List (Addr×Obj))(D:Ends)(f:Flow)(s':Shared):Prop :=
 match f with
 | .next=>∃σ' H',Inv X pins σ' H' s'/\D.nx σ' H'
 | .brk=>∃σ' H',Inv X pins σ' H' s'/\D.bk σ' H'
 | .cont=>∃σ' H',Inv X pins σ' H' s'/\D.ct σ' H'
 | .ret u=>∃v σ' H',Inv X pins σ' H' s'/\RelV v u/\D.rt v H'
def PE (X:Cx)(e:Expr)(t:TE):Prop :=
 ∀(pins:List (Addr×Obj)) (s:Shared) (σ:St) (H:Hp) (Q:VK),Inv X pins σ H s->t σ H Q->wpAny (model X.prog X.w) X.A (eval e X.env) (EP X pins σ Q) X.xe s
def PT (X:Cx)(e:Expr)(t:TT):Prop :=
 ∀(pins:List (Addr×Obj)) (s:Shared) (σ:St) (H:Hp) (Q:Bool->Hp->Prop),Inv X pins σ H s->t σ H Q->wpAny (model X.prog X.w) X.A (isTrue e X.env (eval e X.env)) (TP X pins σ Q) X.xe s
def PW (X:Cx)(e:Expr)(t:TT):Prop :=
 ∀(whole:Sem Value) (pins:List (Addr×Obj)) (s:Shared) (σ:St) (H:Hp) (Q:Bool->Hp->Prop),Inv X pins σ H s->t σ H Q->wpAny (model X.prog X.w) X.A (isTrue e X.env whole) (TP X pins σ Q) X.xe s
theorem PW.pt    (h:PW X e t):PT X e t:=h _
def PA (X:Cx)(es:List Expr)(t:TA):Prop :=
 ∀(pos:Pos) (pins:List (Addr×Obj)) (s:Shared) (σ:St) (H:Hp) (Q:List V->Hp->Prop),Inv X pins σ H s->t σ H Q->wpAny (model X.prog X.w) X.A (spliced (backTo pos (starEach es X.env))) (AP X pins σ Q) X.xe s
def PS (X:Cx)(st:Stmt)(t:TS):Prop :=
 ∀(pins:List (Addr×Obj)) (s:Shared) (σ:St) (H:Hp) (D:Ends),Inv X pins σ H s->t D σ H->wpAny (model X.prog X.w) X.A (exec st X.env) (SP X pins D) X.xe s
def PSs (X:Cx)(st:List Stmt)(t:TS):Prop :=
 ∀(pins:List (Addr×Obj)) (s:Shared) (σ:St) (H:Hp) (D:Ends),Inv X pins σ H s->t D σ H->wpAny (model X.prog X.w) X.A (execs st X.env) (SP X pins D) X.xe s
theorem thn  {t:Sem c}{Q b:c->Shared->Prop}     (h:wpAny M A t Q E s) (d:∀a s,Q a s->b a s):wpAny M A t b E s:=wpAny_mono h d fun _ _ x=>x
section
variable {X:Cx}
def Bs2 (i:Nat):TE:=fun σ H Q=>∃v,σ[i]?=some (some v)/\Q v H
def tC (v:V):TE:=fun _ H Q=>Q v H
theorem Bq8   {f:Pos}(hN:X.N[i]?=some x) (hv:Vis X.env.scope x) (hd:(x==("__debug__" : Str))=false:=by decide) (hcd:(x==("__classdict__" : Str))=false:=by decide):PE X (.Name x f) (Bs2 i):=by
 intro j s p H Q I h;obtain⟨v,e,h⟩:=h;obtain⟨m,k,n⟩:=I.loc;obtain⟨u,r,l⟩:=n i x v hN e hv;have b:EP X _ _ Q u s:=⟨v,H,I,r,h⟩
 rcases l with ⟨d,o⟩ | ⟨d,c,g,a⟩
 ·exact wpAny_Name (wpAny_loadName_local I.ok.kind d k o b) hd
 ·rcases d with d | d
  ·exact wpAny_Name (wpAny_loadName_cell I.ok.kind d g a b) hd
  ·exact wpAny_Name (wpAny_loadName_free I.ok.kind d g a b hcd) hd
theorem A3p  : PE X (.Constant (.int i) j a) (tC (.int i)):=fun _ _ _ H _ I h=>wpAny_Constant_int ⟨.int i,H,I.tok _,⟨_,rfl⟩,h⟩
theorem Bj6  : PE X (.Constant (.bool b) j a) (tC (.bl b)):=fun _ _ _ H _ I h=>Constant_bool ⟨.bl b,H,I,rfl,h⟩
theorem A6j  : PE X (.Constant .none j a) (tC .non):=fun _ _ _ H _ I h=>Constant_none ⟨.non,H,I,rfl,h⟩
theorem A5e  : PE X (.Constant (.str x) j a) (tC (.str x)):=fun _ _ _ H _ I h=>Calls.Constant_str ⟨.str x,H,I.tok _,⟨_,rfl⟩,h⟩
def Gl (X:Cx)(x:Str):Prop:=X.env.kindOf x=some .globalImplicit
theorem Lb          (I:Inv X pins b H s) (hg:Gl X x) (hm:X.mg x=some u) (h:Q u s)
 (hd:(x==("__debug__" : Str))=false:=by decide):wpAny (model X.prog X.w) X.A (eval (.Name x a) X.env) Q E s :=
 Calls.Name_function_global I.ok.kind hg (Calls.loadGlobal_global (by rw[I.ok.glob];exact I.mod.glob.keeps I.bk) hm h) hd
theorem Jh {E:Value->Shared->Prop}       {a:Pos}  (I:Inv X pins c H s) (hg:Gl X x) (hm:X.mg x=none) (hv:bootBuiltins x=some u) (h:Q u s)
 (hn:x ≠ "__name__" := by decide) (hd:(x==("__debug__" : Str))=false:=by decide):wpAny (model X.prog X.w) X.A (eval (.Name x a) X.env) Q E s:=by
 obtain⟨e,d,b⟩:=I.mod.blt
 exact Calls.Name_function_global I.ok.kind hg (Calls.loadGlobal_builtin (by rw[I.ok.glob];exact I.mod.glob.keeps I.bk) hm (by rw[I.ok.blt];exact d.keeps I.bk) ((b x hn).trans hv) h) hd
theorem Bi1     (hg:Gl X x) (hm:X.mg x=some u) (r:RelV v u) (hd:(x==("__debug__" : Str))=false:=by decide):PE X (.Name x a) (tC v) :=
 fun _ _ _ H _ I h=>Lb I hg hm ⟨v,H,I,r,h⟩ hd
theorem A9c    {a:Pos}(hg:Gl X x) (hm:X.mg x=none) (hv:bootBuiltins x=some u) (r:RelV v u) (hn:x ≠ "__name__" := by decide) (hd:(x==("__debug__" : Str))=false:=by decide):PE X (.Name x a) (tC v) :=
 fun _ _ _ H _ I h=>Jh I hg hm hv ⟨v,H,I,r,h⟩ hn hd
variable {a b:Expr}{ta tb:TE}{pos:Pos}
def tB (t:TE):TT:=fun σ H Q=>t σ H fun x H1=>∃c,x=.bl c/\Q c H1
theorem Bv2   (h:PE X e t) (he:∀whole,isTrue e X.env whole=(do let v <- whole;standAt e.pos;holding [v] (truthy v)):=by intro _;rfl):PT X e (tB t):=by
 intro a s σ H Q I f
 refine isTrue_plain (thn (h _ s _ H _ I f) fun v s1 ⟨x,g,b,c,i⟩=>?_) (he _)
 obtain⟨d,rfl,q⟩:=i
 cases c
 exact wpAny_truthy_bool ⟨g,b,q⟩
variable {tA tB':TT}{rest:List Expr}
def Bo3 (t u:TT):TT:=fun σ H Q=>t σ H fun c H1=>if c=true then u σ H1 Q else Q false H1
def tOr (t u:TT):TT:=fun σ H Q=>t σ H fun c H1=>if c=true then Q true H1 else u σ H1 Q
def Bs3 (t:TT):TT:=fun σ H Q=>t σ H fun c H1=>Q (!c) H1
theorem Bf7 (ha:PT X a tA):PW X (.BoolOp .And [a] pos) tA:=by
 intro f b s g H Q I h
 refine isTrue_and (thn (ha _ s _ H Q I h) fun c d e=>?_)
 cases c with
 | true=>exact isTrue_and_nil e
 | false=>exact e
theorem Bv0 (ha:PT X a tA):PW X (.BoolOp .Or [a] pos) tA:=by
 intro f b s g H Q I h
 refine isTrue_or (thn (ha _ s _ H Q I h) fun c d e=>?_)
 cases c with
 | false=>exact isTrue_or_nil e
 | true=>exact e
theorem Br7 (ha:PT X a tA)(hb:PW X (.BoolOp .And (b::rest) pos) tB'):PW X (.BoolOp .And (a::b::rest) pos) (Bo3 tA tB'):=by
 intro g d s k H Q I h
 refine isTrue_and (thn (ha _ s _ H _ I h) fun c i ⟨j,f,e⟩=>?_)
 cases c with
 | true=>exact hb _ _ _ _ _ Q f e
 | false=>trivial
theorem B0z (ha:PT X a tA)(hb:PW X (.BoolOp .Or (b::rest) pos) tB'):PW X (.BoolOp .Or (a::b::rest) pos) (tOr tA tB'):=by
 intro g d s k H Q I h
 refine isTrue_or (thn (ha _ s _ H _ I h) fun c i ⟨j,f,e⟩=>?_)
 cases c with
 | true=>assumption
 | false=>exact hb _ _ _ _ _ Q f e
theorem Bp3 (ha:PT X a tA):PT X (.UnaryOp .Not a pos) (Bs3 tA):=by
 intro b s c H Q I h;exact isTrue_not (ha _ s _ H _ I h)
def A8w (ta tb:TE):TE:=fun σ H Q=>ta σ H fun x H1=>∃c,x=.bl c/\if c=true then tb σ H1 Q else Q (.bl false) H1
def Bn6 (ta tb:TE):TE:=fun σ H Q=>ta σ H fun x H1=>∃c,x=.bl c/\if c=true then Q (.bl true) H1 else tb σ H1 Q
def A4b (ta:TE):TE:=fun σ H Q=>ta σ H fun x H1=>∃c,x=.bl c/\Q (.bl (!c)) H1
theorem Bl4   (h:PE X a t):PE X (.BoolOp op [a] pos) t:=fun b s d H Q I c=>BoolOp_one (h _ s _ H Q I c)
theorem Br0 (ha:PE X a ta)(hb:PE X (.BoolOp .And (b::rest) pos) tb):PE X (.BoolOp .And (a::b::rest) pos) (A8w ta tb):=by
 intro e s σ H Q I h
 refine BoolOp_and (thn (ha _ s _ H _ I h) fun v s1 ⟨x,i,f,g,d⟩=>?_)
 obtain⟨c,rfl,d⟩:=d
 cases g
 refine wpAny_truthy_bool ?_
 cases c with
 | true=>exact hb _ _ _ _ Q f d
 | false=>exact⟨.bl _,i,f,rfl,d⟩
theorem B0l (ha:PE X a ta)(hb:PE X (.BoolOp .Or (b::rest) pos) tb):PE X (.BoolOp .Or (a::b::rest) pos) (Bn6 ta tb):=by
 intro e s σ H Q I h
 refine BoolOp_or (thn (ha _ s _ H _ I h) fun v s1 ⟨x,i,f,g,d⟩=>?_)
 obtain⟨c,rfl,d⟩:=d
 cases g
 refine wpAny_truthy_bool ?_
 cases c with
 | false=>exact hb _ _ _ _ Q f d
 | true=>exact⟨.bl _,i,f,rfl,d⟩
theorem Bq6 (ha:PE X a ta):PE X (.UnaryOp .Not a pos) (A4b ta):=by
 intro d s σ H Q I h
 refine UnaryOp_ (thn (ha _ s _ H _ I h) fun v s1 ⟨x,f,g,e,b⟩=>?_)
 obtain⟨c,rfl,b⟩:=b
 cases e
 exact not_of (wpAny_truthy_bool ⟨.bl _,f,g,rfl,b⟩)
def tIf (t:TT)(ta tb:TE):TE:=fun σ H Q=>t σ H fun c H1=>if c=true then ta σ H1 Q else tb σ H1 Q
theorem A8c  (hc:PT X c tA) (ha:PE X a ta) (hb:PE X b tb):PE X (.IfExp c a b pos) (tIf tA ta tb):=by
 intro g s i H Q I h
 refine wpAny_IfExp (thn (hc _ s _ H _ I h) fun d k ⟨j,f,e⟩=>?_)
 cases d with
 | true=>exact ha _ _ _ _ Q f e
 | false=>exact hb _ _ _ _ Q f e
end
def SqL (K:PySem.W.Frag)(H:Hp)(a:Addr)(xs:List V):Prop :=
 Rd H a (.lst xs) \/
  ∃(o:Obj) (its:Array Value) (n:Nat),K.lookup a=some o/\o.cls=.type "list" /\ o.dict=none/\o.data=.seq its n/\its.size<=sizeLine/\Vals xs its.toList
def SqT (K:PySem.W.Frag)(H:Hp)(a:Addr)(xs:List V):Prop :=
 Rd H a (.tup xs) \/
  ∃(o:Obj) (its:Array Value) (n:Nat),K.lookup a=some o/\o.cls=.type "tuple" /\ o.data=.seq its n/\its.size<=sizeLine/\Vals xs its.toList
def B2b:Value->Option V
 | .none=>some .non
 | .bool b=>some (.bl b)
 | .int i _=>some (.int i)
 | .str x _=>some (.str x)
 | .bytes b _=>some (.byt b)
 | .float b _=>some (.flt b)
 | .ref a=>some (.ref a)
 | .type n=>some (.ty n)
 | _=>none
theorem RelV.abs   (r:RelV x u):B2b u=some x:=by
 cases x with
 | non=>cases r;rfl
 | bl _=>cases r;rfl
 | int _=>obtain⟨t,rfl⟩:=r;rfl
 | str _=>obtain⟨t,rfl⟩:=r;rfl
 | byt _=>obtain⟨t,rfl⟩:=r;rfl
 | flt _=>obtain⟨t,rfl⟩:=r;rfl
 | ref _=>cases r;rfl
 | ty _=>cases r;rfl
theorem RelV.inj   (r:RelV x u) (q:RelV y u):x=y:=Option.some.inj (r.abs.symm.trans q.abs)
theorem Vals.inj:∀{xs ys:List V}{us:List Value},Vals xs us->Vals ys us->xs=ys
 | _,_,_,.nil,.nil=>rfl
 | _,_,_,.cons r t,.cons r' t'=>by rw[r.inj r',Vals.inj t t']
section
variable {X:Cx}{pins:List (Addr×Obj)}{σ:St}{H:Hp}{s:Shared}{a:Addr}{xs ys:List V}
theorem SqL.of {K:PySem.W.Frag}(h:H a=some (.lst xs)):SqL K H a xs:=.inl (.inl h)
theorem SqT.of {K:PySem.W.Frag}(h:H a=some (.tup xs)):SqT K H a xs:=.inl (.inl h)
theorem Inv.list (I:Inv X pins σ H s)(h:SqL X.K H a xs):∃b:List Value,Vals xs b/\PlainL s.heap a b.toArray/\xs.length<=sizeLine:=by
 rcases h with h | ⟨o,b,n,d,c,f,i,g,r⟩
 ·obtain⟨z,b,n,r,e⟩:=h.ok I.hok
  exact⟨b,r,⟨_,n,e,rfl,rfl,rfl⟩,z⟩
 ·refine⟨b.toList,r,⟨o,n,I.kIn a o d,c,f,by trivial⟩,?_⟩
  have e:=r.length
  simp_all
theorem Inv.tuple (I:Inv X pins σ H s)(h:SqT X.K H a xs):∃b:List Value,Vals xs b/\IsTup s.heap a b.toArray/\xs.length<=sizeLine:=by
 rcases h with h | ⟨o,b,n,d,c,g,f,r⟩
 ·obtain⟨z,b,r,p⟩:=h.ok I.hok
  exact⟨b,r,p.tup,z⟩
 ·refine⟨b.toList,r,⟨o,I.kIn a o d,c,n,by trivial⟩,?_⟩
  have e:=r.length
  simp_all
theorem Inv.list_inj (I:Inv X pins σ H s)(h:SqL X.K H a xs)(h':SqL X.K H a ys):xs=ys:=by
 obtain⟨c,r,⟨o,n,e,_,_,d⟩,_⟩:=I.list h;obtain⟨b,f,⟨i,j,k,_,_,g⟩,_⟩:=I.list h'
 have:c=b:=by simp_all
 subst this;exact r.inj f
theorem Inv.tuple_inj (I:Inv X pins σ H s)(h:SqT X.K H a xs)(h':SqT X.K H a ys):xs=ys:=by
 obtain⟨c,r,⟨o,e,_,n,d⟩,_⟩:=I.tuple h;obtain⟨b,f,⟨i,j,_,k,g⟩,_⟩:=I.tuple h'
 have:c=b:=by simp_all
 subst this;exact r.inj f
end
abbrev Cx.wish (X:Cx)(E:Value->Shared->Prop):Cx:={ X with xe:=E }
abbrev Cx.nox (X:Cx):Cx:=X.wish fun _ _=>False
theorem Cx.Ok.wish {X:Cx}(a:X.Ok)(E:Value->Shared->Prop):(X.wish E).Ok :=
 ⟨a.mod,a.kind,a.glob,a.blt,a.above,a.inj,a.has,a.cab,a.hd,a.frames,a.stk,a.exf,a.bs,a.bsz,a.noex,a.exfs,a.funs,a.frf,a.tab⟩
theorem Cx.Ok.unwish {X:Cx}  (a:(X.wish E).Ok):X.Ok :=
 ⟨a.mod,a.kind,a.glob,a.blt,a.above,a.inj,a.has,a.cab,a.hd,a.frames,a.stk,a.exf,a.bs,a.bsz,a.noex,a.exfs,a.funs,a.frf,a.tab⟩
section
variable {X:Cx}{pins:List (Addr×Obj)}{σ:St}{H:Hp}{s:Shared}{E:Value->Shared->Prop}
theorem Inv.wish (I:Inv X pins σ H s)(E:Value->Shared->Prop):Inv (X.wish E) pins σ H s:=⟨I.ok.wish E,I.os,I.bare,I.base,I.loc,I.cell,I.free,I.freeC,I.pin,I.hok,I.len⟩
theorem Inv.unwish (I:Inv (X.wish E) pins σ H s):Inv X pins σ H s:=⟨I.ok.unwish,I.os,I.bare,I.base,I.loc,I.cell,I.free,I.freeC,I.pin,I.hok,I.len⟩
theorem SP.unwish    (h:SP (X.wish E) pins D f s'):SP X pins D f s':=by
 cases f with
 | next=>obtain⟨a,b,I,q⟩:=h;exact⟨a,b,I.unwish,q⟩
 | brk=>obtain⟨a,b,I,q⟩:=h;exact⟨a,b,I.unwish,q⟩
 | cont=>obtain⟨a,b,I,q⟩:=h;exact⟨a,b,I.unwish,q⟩
 | ret u=>obtain⟨v,a,b,I,r,q⟩:=h;exact⟨v,a,b,I.unwish,r,q⟩
theorem PSs.nox {st:List Stmt}  (h:PSs X.nox st t):PSs X st t:=fun a s c H D I b =>
 wpAny_mono (h _ s _ H D (I.wish _) b) (fun _ _ q=>q.unwish) fun _ _ z=>False.elim z
end
section
variable {X:Cx}{st:Stmt}{rest:List Stmt}{t u:TS}{e:Expr}{te:TE}{pos:Pos}
def A2z:TS:=fun D σ H=>D.nx σ H
def Bg8 (t u:TS):TS:=fun D σ H=>t { D with nx:=u D } σ H
theorem Bf1:PSs X [] A2z:=fun _ _ a H _ I h=>wpAny_execs_nil ⟨a,H,I,h⟩
theorem A7v (h1:PS X st t)(h2:PSs X rest u):PSs X (st::rest) (Bg8 t u):=by
 intro a s d H D I h
 refine wpAny_execs_cons (thn (h1 _ s _ H _ I h) fun f e q=>?_)
 cases f with
 | next =>
  obtain⟨c,g,b,q⟩:=q;exact h2 _ _ _ _ D b q
 | ret v=>exact q
 | brk=>exact q
 | cont=>exact q
theorem A9v (h1:PS X st t):PSs X [st] t:=by
 intro a s c H D I h
 refine wpAny_execs_cons (thn (h1 _ s _ H D I h) fun f b q=>?_)
 cases f with
 | next=>exact wpAny_execs_nil q
 | ret v=>grind
 | brk=>grind
 | cont=>grind
theorem Inv.quiet     (I:Inv X pins a H s):interactive X.env=false:=by simp[interactive,I.ok.kind]
def A8v (te:TE):TS:=fun D σ H=>te σ H fun _ H1=>D.nx σ H1
theorem Bd5 (he:PE X e te)(hs:swapsWith e none pos.line X.env=pure false:=by rfl):PS X (.Expr e pos) (A8v te):=by
 intro a s c H D I h
 exact wpAny_Expr_any (thn (he _ s _ H _ I h) fun v g ⟨x,f,d,i,b⟩=>⟨c,f,d,b⟩) I.quiet hs
def Bs9 (te:TE):TS:=fun D σ H=>te σ H D.rt
theorem Bt4 (he:PE X e te):PS X (.Return (some e) pos) (Bs9 te):=by
 intro a s c H D I h
 exact wpAny_Return_some (thn (he _ s _ H _ I h) fun v i ⟨x,f,d,g,b⟩=>⟨x,c,f,d,g,b⟩)
def A8b (c:TT)(t u:TS):TS:=fun D σ H=>c σ H fun b H1=>if b=true then t D σ H1 else u D σ H1
theorem By1    (hc:PT X c f) (ha:PSs X a t) (hb:PSs X b u):PS X (.If c a b pos) (A8b f t u):=by
 intro i s j H D I h
 refine wpAny_If (thn (hc _ s _ H _ I h) fun d l ⟨k,g,e⟩=>?_)
 cases d with
 | true=>exact ha _ _ _ _ D g e
 | false=>exact hb _ _ _ _ D g e
end
abbrev TG:=V->St->Hp->(St->Hp->Prop)->Prop
abbrev TGs:=List V->St->Hp->(St->Hp->Prop)->Prop
def PG (X:Cx)(target:Expr)(t:TG):Prop :=
 ∀
  (pins:List (Addr×Obj)) (s:Shared) (σ:St) (H:Hp) (v:V) (u:Value) (Q:St->Hp->Prop),Inv X pins σ H s->RelV v u->t v σ H Q ->
  wpAny (model X.prog X.w) X.A (assign target X.env u) (fun _ s'=>∃σ' H',Inv X pins σ' H' s'/\Q σ' H') X.xe s
def PGs (X:Cx)(ts:List Expr)(t:TGs):Prop :=
 ∀
  (pins:List (Addr×Obj)) (s:Shared) (σ:St) (H:Hp) (vs:List V) (us:List Value) (Q:St->Hp->Prop),Inv X pins σ H s->Vals vs us->t vs σ H Q ->
  wpAny (model X.prog X.w) X.A (assignInOrder ((assignEach ts X.env).map (·.2)) us) (fun _ s'=>∃σ' H',Inv X pins σ' H' s'/\Q σ' H') X.xe s
abbrev By8:=V->V->V->Hp->(Hp->Prop)->Prop
def Bs7 (X:Cx)(t:By8):Prop :=
 ∀
  (pins:List (Addr×Obj)) (s:Shared) (σ:St) (H:Hp) (o i v:V) (ov iv u:Value) (Q:Hp->Prop),Inv X pins σ H s->RelV o ov->RelV i iv->RelV v u->t o i v H Q ->
  wpAny (model X.prog X.w) X.A (setItem ov iv u) (fun _ s'=>∃H',Inv X pins σ H' s'/\Q H') X.xe s
section
variable {X:Cx}{pos:Pos}
def Px (i:Nat):TG:=fun v σ H Q=>Q (σ.set i (some v)) H
theorem Bd8   (hN:X.N.Nodup) (hi:X.N[i]?=some x) (hx:Loc X.env.scope x) (hf:X.fn x=true\/X.env.scope.names.lookup x=some .local:=by first | exact .inl rfl | exact .inr rfl | assumption):PG X (.Name x pos) (Px i):=by
 intro a s c H v u Q I r h
 exact wpAny_assign_Name (Hk I hN hi hx r (fun d b=>⟨_,H,b,h⟩) hf)
def A9r:TGs:=fun vs σ H Q=>vs=[]/\Q σ H
def Aj9 (t:TG)(u:TGs):TGs:=fun vs σ H Q=>∃v r,vs=v::r/\t v σ H fun σ' H'=>u r σ' H' Q
theorem A9n:PGs X [] A9r:=by
 intro a s b H d c Q I r h;obtain⟨e,h⟩:=h;exact assignInOrder_nil ⟨b,H,I,h⟩
theorem A7i     (h1:PG X e t) (h2:PGs X es u)
 (hs:(assignEach (e::es) X.env).map (·.2)=assign e X.env::(assignEach es X.env).map (·.2):=by rfl):PGs X (e::es) (Aj9 t u):=by
 intro a s i H j n Q I r h;obtain⟨v,l,f,h⟩:=h;subst f
 cases r with
 | cons r d =>
  rw[hs]
  refine assignInOrder_cons (thn (h1 _ s _ H _ _ _ I r h) fun _ k ⟨c,m,g,b⟩=>?_)
  exact h2 _ _ _ _ _ _ Q g d b
def Be5 (K:PySem.W.Frag)(n:Nat)(t:TGs):TG:=fun v σ H Q=>∃a xs,v=.ref a/\SqT K H a xs/\xs.length=n/\t xs σ H Q
theorem Bt0  {k:Nat}   (hc:X.calm=true) (h:PGs X es t)
 (hn:(assignEach es X.env).length=n:=by rfl) (hst:(assignEach es X.env).findIdx? (·.1)=none:=by rfl):PG X (.Tuple es k pos) (Be5 X.K n t):=by
 intro d s x H v u Q I r c;obtain⟨a,y,j,l,m,c⟩:=c;subst j
 cases r
 obtain⟨g,i,q,z⟩:=I.tuple l
 refine assign_Tuple_tuple (I.ok.hd hc) q (by simp[hn,<- m,i.length]) hst fun p w=>?_
 have f:Inv X _ _ H { s with heap:=p }:=I.kept  fun b o e=>w b o (Nat.ne_of_lt (Heap.lt_size e)) e
 exact h _ _ _ H _ _ Q f (by trivial) c
def Bm8 (to ti:TE)(t:By8):TG:=fun v σ H Q=>to σ H fun o H1=>ti σ H1 fun i H2=>t o i v H2 fun H3=>Q σ H3
theorem Bp7    (ho:PE X o e) (hi:PE X i d) (hs:Bs7 X t)
 (ha:∀v,assign (.Subscript o i pos) X.env v=(do
  let a <- holding [v] (eval o X.env)
  let b <- holding [v,a] (eval i X.env)
  standAt pos
  holding [v,a,b] (setItem a b v)
  release [v,a,b] []):=by intro _;rfl):PG X (.Subscript o i pos) (Bm8 e d t):=by
 intro c s m H v u Q I r h;rw[ha]
 refine wpAny_bind (wpAny_holding (thn (ho _ s _ H _ I h) fun a z ⟨x,C,j,k,l⟩=>?_))
 refine wpAny_bind (wpAny_holding (thn (hi _ _ _ _ _ j l) fun b D ⟨y,A,g,p,n⟩=>?_))
 refine wpAny_bind (wpAny_standAt (wpAny_bind (wpAny_holding (thn (hs _ _ _ _ x y v _ _ u _ g k p r n) fun _ B ⟨q,w,f⟩=>?_))))
 exact wpAny_release ⟨m,q,w,f⟩
def Aq7 (te:TE)(g:TG):TS:=fun D σ H=>te σ H fun x H1=>g x σ H1 D.nx
theorem Bt3    (he:PE X e b) (hg:PG X a g) (hs:swapsWithSole [a] e pos.line X.env=pure false:=by rfl) (hw:swappedStores [a] e X.env=pure none:=by rfl)
 (h1:(assignEach [a] X.env).map (·.2)=[assign a X.env]:=by rfl):PS X (.Assign [a] e pos) (Aq7 b g):=by
 intro c s k H D I h
 refine wpAny_Assign_stores (thn (he _ s _ H _ I h) fun v l ⟨x,m,d,i,f⟩=>?_) hs hw
 rw[h1]
 exact thn (hg _ _ _ _ x v _ d i f) fun _ j q=>q
theorem Bx4      (hN:X.N.Nodup) (hi:X.N[i]?=some x) (hx:Loc X.env.scope x) (he:PE X e b) (hs:swapsWith e (some (.Name x a)) pos.line X.env=pure false:=by rfl) (hf:X.fn x=true\/X.env.scope.names.lookup x=some .local:=by first | exact .inl rfl | exact .inr rfl | assumption) :
 PS X (.Assign [.Name x a] e pos) (Aq7 b (Px i)):=by
 intro c s l H D I h
 refine wpAny_Assign_Name (thn (he _ s _ H _ I h) fun v m ⟨y,j,f,g,k⟩=>?_) hs
 exact Hk f hN hi hx g (fun n d=>⟨_,j,d,k⟩) hf
def Bl0 (i j:Nat)(ta:TA):TS:=fun D σ H=>ta σ H fun vs H1=>∃v w,vs=[v,w]/\D.nx ((σ.set i (some v)).set j (some w)) H1
theorem Bu0       (hc:X.calm=true) (hN:X.N.Nodup) (hi:X.N[i]?=some x) (hj:X.N[j]?=some y) (hij:i≠j)
 (hx:X.env.scope.names.lookup x=some .local) (hy:X.env.scope.names.lookup y=some .local) (ha:PA X [a,b] C)
 (hw:swappedStores [.Tuple [.Name x m,.Name y r] n t] (.Tuple [a,b] k2 d) X.env=pure (some [x,y]))
 (hs:swapsWithSole [.Tuple [.Name x m,.Name y r] n t] (.Tuple [a,b] k2 d) pos.line X.env=pure false:=by rfl) :
 PS X (.Assign [.Tuple [.Name x m,.Name y r] n t] (.Tuple [a,b] k2 d) pos) (Bl0 i j C):=by
 intro c s B H D I h;rw[exec_Assign_arm]
 refine wpAny_bind (wpAny_standAt ?_)
 rw[hs]
 refine wpAny_bind (wpAny_pure ?_)
 rw[if_neg (by decide)]
 refine wpAny_bind (Tuple_ (thn (ha _ c s B H _ I h) fun L f ⟨vs,E,M,F,l⟩=>?_))
 obtain⟨v,w,G,l⟩:=l;subst G
 obtain⟨k,g,rfl,K,u⟩:∃k g,L=[k,g]/\RelV v k/\RelV w g:=by
  cases F with
  | cons p q =>
   cases q with
   | cons p' O =>
    cases O
    grind
 refine wpAny_newObj_type ?_ (by show 2<=sizeLine;decide)
 have J:Inv X c B E { f with heap:=f.heap.push { cls:=.type "tuple",data:=.seq [k,g].toArray } }:=M.kept (t':=f.toks) fun b o e=>Heap.get?_push_of_some _ e
 rw[hw]
 refine wpAny_bind (wpAny_pure ?_)
 show wpAny (model X.prog X.w) X.A (do rule "assign.swapped-stores";let items <- unpackItems (.ref f.heap.objs.size) 2 none;assignInOrder [fun v=>bindName X.env y v,fun v=>bindName X.env x v] items.reverse;pure Flow.next) _ _ _
 refine wpAny_bind (wpAny_rule (wpAny_bind (unpackItems_tuple (items:=#[k,g]) (I.ok.hd hc) (IsTup.new _ _) fun h' z=>?_)))
 refine wpAny_bind (assignInOrder_cons (wpAny_bindName (Hk (J.kept  (t':=f.toks) fun b o e=>z b o (Nat.ne_of_lt (Heap.lt_size e)) e) hN hj (.inl hy) u (fun s2 N=>?_) (.inr hy))))
 refine assignInOrder_cons (wpAny_bindName (Hk N hN hi (.inl hx) K (fun s3 A=>assignInOrder_nil (wpAny_pure ?_)) (.inr hx)))
 rw[List.set_comm _ _ (Ne.symm hij)]at A;exact⟨_,E,A,l⟩
end
structure It where
 go:Nat->Hp->Prop
 yld:Nat->Hp->V->Hp->Prop
 stop:Nat->Hp->Prop
def T9 (X:Cx)(pins:List (Addr×Obj))(H:Hp)(b:Addr):Prop :=
 H b=none/\b≠X.env.locals/\b∉X.fs/\(b∈X.ex\/X.s₀.heap.objs.size<=b)/\(∀x c,X.env.cells.lookup x=some c->c≠b)/\∀p∈X.pn++pins,p.1≠b
theorem Inv.fpOk       (I:Inv X pins d H s) (hb:s.heap.objs.size<=b) (hn:H' b=none):T9 X pins H' b:=by
 refine⟨hn,Nat.ne_of_gt (Nat.lt_of_lt_of_le I.lt hb),I.nofs hb,.inr (Nat.le_trans I.sz hb),fun x c e z=>?_,fun p a z=>?_⟩
 ·obtain⟨v,q⟩:=I.cell x c e
  exact absurd (Nat.lt_of_lt_of_le q.lt (by simp_all)) (Nat.lt_irrefl _)
 ·exact absurd (Nat.lt_of_lt_of_le (Heap.lt_size (I.pin p a).1) (by simp_all)) (Nat.lt_irrefl _)
structure Turn (P:Program) (w:World) (K:PySem.W.Frag) (tg:Expr) (J:It) (fp:List Addr) (it:Addr) (tn:Nat->Heap->Prop):Prop where
 mem:it∈fp
 obj:∀i h,tn i h->∀b∈fp,∃o,h.get? b=some o/\∀v,o.data≠.cell v
 keep:∀i h h',tn i h->(∀b∈fp,∀o,h.get? b=some o->h'.get? b=some o)->tn i h'
 item:∀(X:Cx),X.prog=P->X.w=w->X.K=K->X.calm=true->∀(i:Nat) (pins:List (Addr×Obj)) (s:Shared) (σ:St) (H:Hp) (E:Value->Shared->Prop),Inv X pins σ H s->(∀b∈fp,T9 X pins H b)->tn i s.heap->J.go i H ->
  wpAny (model P w) X.A (pyNext (.ref it)) (fun r s1=>∃u,r=some u /\
   wpAny (model P w) X.A (letOwnedTupleGo tg (.ref it) u) (fun _ s2=>∃x H',Inv X pins σ H' s2/\RelV x u/\J.yld i H x H'/\tn (i+1) s2.heap/\∀b∈fp,H' b=none) E s1) E s
 done:∀(X:Cx),X.prog=P->X.w=w->X.K=K->X.calm=true->∀(i:Nat) (pins:List (Addr×Obj)) (s:Shared) (σ:St) (H:Hp) (E:Value->Shared->Prop),Inv X pins σ H s->(∀b∈fp,T9 X pins H b)->tn i s.heap->J.stop i H ->
  wpAny (model P w) X.A (pyNext (.ref it)) (fun r s1=>r=none/\Inv X pins σ H s1) E s
 self:∀(A:Around) (i:Nat) (s:Shared) (Q:Value->Shared->Prop) (E:Value->Shared->Prop),tn i s.heap->Q (.ref it) s->wpAny (model P w) A (pyIter (.ref it)) Q E s
abbrev TI:=St->Hp->(It->Hp->Prop)->Prop
def PIE (X:Cx)(pins:List (Addr×Obj))(σ:St)(tg:Expr)(R:It->Hp->Prop)(itv:Value)(s2:Shared):Prop :=
 ∃(it:Addr) (fp:List Addr) (tn:Nat->Heap->Prop) (J:It) (H':Hp),itv=.ref it/\Inv X pins σ H' s2/\Turn X.prog X.w X.K tg J fp it tn/\tn 0 s2.heap/\(∀b∈fp,T9 X pins H' b)/\R J H'
def PI (X:Cx)(tg iter:Expr)(wi:TI):Prop :=
 ∀
  (pins:List (Addr×Obj)) (s:Shared) (σ:St) (H:Hp) (R:It->Hp->Prop),Inv X pins σ H s->wi σ H R ->
  wpAny (model X.prog X.w) X.A (eval iter X.env) (fun v s1=>wpAny (model X.prog X.w) X.A (pyIter v) (PIE X pins σ tg R) X.xe s1) X.xe s
theorem A2u            (ho:s.heap.get? it=some o) (hc:o.cls=.type n) (hd:o.data=.fields vs)
 (hn:["enumerate", "zip", "dict_itemiterator", "dict_reverseitemiterator", "odict_iterator", "itertools.zip_longest", "itertools.pairwise"].contains n=false) (a:Q () s):wpAny M A (letOwnedTupleGo b (.ref it) u) Q E s:=by
 cases b <;> first
  | exact wpAny_pure a
  | (cases u <;> first
   | exact wpAny_pure a
   | (
    refine wpAny_bind (wpAny_load ho ?_)
    rw[hc,hd]
    show wpAny M A (if (["enumerate", "zip", "dict_itemiterator", "dict_reverseitemiterator", "odict_iterator", "itertools.zip_longest", "itertools.pairwise"].contains n&&vs[0]?==some _)=true then _ else _) Q E s
    rw[if_neg (by intro h;rw[hn]at h;cases h)]
    exact wpAny_pure a))
def Itl (K:PySem.W.Frag)(a:Addr):It :=
 ⟨fun i H=>∃xs x,SqL K H a xs/\xs[i]?=some x,fun i H x H'=>H'=H/\∀xs,SqL K H a xs->xs[i]?=some x,fun i H=>∃xs,SqL K H a xs/\xs.length<=i⟩
def Itt (K:PySem.W.Frag)(a:Addr):It :=
 ⟨fun i H=>∃xs x,SqT K H a xs/\xs[i]?=some x,fun i H x H'=>H'=H/\∀xs,SqT K H a xs->xs[i]?=some x,fun i H=>∃xs,SqT K H a xs/\xs.length<=i⟩
def Itr (lo:Int)(n:Nat):It:=⟨fun i _=>i<n,fun i H x H'=>H'=H/\x=.int (lo+i),fun i _=>n<=i⟩
theorem A2b {P:Program}{w:World}{K:PySem.W.Frag}{tg:Expr}(a it:Addr):Turn P w K tg (Itl K a) [it] it (fun i h=>h.IsListIter it a i) where
 mem:=by simp
 obj:=fun i h st b hb=>by
  have e:b=it:=by simpa using hb
  subst e;obtain⟨o,e,c,d⟩:=st
  exact⟨o,e,fun v z=>by rw[d]at z;cases z⟩
 keep:=fun i h h' st k=>st.at fun o e=>k it (by simp) o e
 item:=by
  intro X hP hw hK hc i pins s σ H E I hf st hg;subst hP hw hK;obtain⟨xs,x,hq,hx⟩:=hg;obtain⟨its,rv,p,hz⟩:=I.list hq;obtain⟨u,hu,ru⟩:=rv.get hx
  obtain⟨f0,f1,f2,f3,f4,f5⟩:=hf it (by simp)
  refine wpAny_pyNext_list_item st p.isList (x:=u) (by simpa using hu) fun h' st' sb=>?_
  have I1:Inv X pins σ H { s with heap:=h' }:=I.turned (t':=s.toks) (fun b o hb e=>(sb.2 b hb).trans e) f0 f1 f3 f4 f5
  obtain⟨o,e,c,d⟩:=id st'
  exact⟨u,rfl,A2u (s:={ s with heap:=h' }) e c d (by decide) ⟨x,H,I1,ru,⟨rfl,fun ys hy=>by rw[I.list_inj hy hq];exact hx⟩,st',fun b hb=>(hf b hb).1⟩⟩
 done:=by
  intro X hP hw hK hc i pins s σ H E I hf st hg;subst hP hw hK;obtain⟨xs,hq,hx⟩:=hg;obtain⟨its,rv,p,hz⟩:=I.list hq
  obtain⟨f0,f1,f2,f3,f4,f5⟩:=hf it (by simp)
  have hl:=rv.length
  exact wpAny_pyNext_list_end (I.ok.hd hc) st p.isList (by simp;omega) fun h' eb=>⟨rfl,I.turned (t':=s.toks) (fun b o hb e=>eb b o hb e) f0 f1 f3 f4 f5⟩
 self:=fun _ _ _ _ _ st h=>wpAny_pyIter_listiter st h
theorem Ar9 {P:Program}{w:World}{K:PySem.W.Frag}{tg:Expr}(a it:Addr):Turn P w K tg (Itt K a) [it] it (fun i h=>h.IsTupleIter it a i) where
 mem:=by simp
 obj:=fun i h st b hb=>by
  have e:b=it:=by simpa using hb
  subst e;obtain⟨o,e,c,d⟩:=st
  exact⟨o,e,fun v z=>by rw[d]at z;cases z⟩
 keep:=fun i h h' st k=>st.at fun o e=>k it (by simp) o e
 item:=by
  intro X hP hw hK hc i pins s σ H E I hf st hg;subst hP hw hK;obtain⟨xs,x,hq,hx⟩:=hg;obtain⟨its,rv,p,hz⟩:=I.tuple hq;obtain⟨u,hu,ru⟩:=rv.get hx
  obtain⟨f0,f1,f2,f3,f4,f5⟩:=hf it (by simp)
  refine wpAny_pyNext_tuple_item st (show s.heap.IsTuple a its.toArray from p) (x:=u) (by simpa using hu) fun h' st' sb=>?_
  have I1:Inv X pins σ H { s with heap:=h' }:=I.turned (t':=s.toks) (fun b o hb e=>(sb.2 b hb).trans e) f0 f1 f3 f4 f5
  obtain⟨o,e,c,d⟩:=id st'
  exact⟨u,rfl,A2u (s:={ s with heap:=h' }) e c d (by decide) ⟨x,H,I1,ru,⟨rfl,fun ys hy=>by rw[I.tuple_inj hy hq];exact hx⟩,st',fun b hb=>(hf b hb).1⟩⟩
 done:=by
  intro X hP hw hK hc i pins s σ H E I hf st hg;subst hP hw hK;obtain⟨xs,hq,hx⟩:=hg;obtain⟨its,rv,p,hz⟩:=I.tuple hq
  obtain⟨f0,f1,f2,f3,f4,f5⟩:=hf it (by simp)
  have hl:=rv.length
  exact wpAny_pyNext_tuple_end (I.ok.hd hc) st (show s.heap.IsTuple a its.toArray from p) (by simp;omega) fun h' eb=>⟨rfl,I.turned (t':=s.toks) (fun b o hb e=>eb b o hb e) f0 f1 f3 f4 f5⟩
 self:=fun _ _ _ _ _ st h=>wpAny_pyIter_tupleiter st h
theorem Al7 {P:Program}{w:World}{K:PySem.W.Frag}{tg:Expr}(it:Addr)(lo:Int)(n:Nat):Turn P w K tg (Itr lo n) [it] it (fun i h=>IsRangeIter h it (lo+(i:Nat)*1) ((n:Int)-(i:Nat)) 1) where
 mem:=by simp
 obj:=fun i h st b hb=>by
  have e:b=it:=by simpa using hb
  subst e
  exact⟨_,st,fun v z=>by
   have z':Data.fields _=Data.cell v:=z
   cases z'⟩
 keep:=fun i h h' st k=>k it (by simp) _ st
 item:=by
  intro X hP hw hK hc i pins s σ H E I hf st hg;subst hP hw hK
  obtain⟨f0,f1,f2,f3,f4,f5⟩:=hf it (by simp)
  have W:=Walks.range (prog:=X.prog) (w:=X.w) (I.ok.hd hc) it lo 1 n
  refine W.item i s _ _ hg st fun v h' tk hv st' kk=>?_
  obtain⟨t,rfl⟩:=hv
  have I1:Inv X pins σ H { s with heap:=h',toks:=tk }:=I.turned (fun b o hb e=>kk b o (by simpa using hb) e) f0 f1 f3 f4 f5
  refine⟨_,rfl,A2u (s:={ s with heap:=h',toks:=tk }) (n := "range_iterator") st' rfl rfl (by decide) ⟨.int (lo+i),H,I1,⟨t,?_⟩,⟨rfl,rfl⟩,st',fun b hb=>(hf b hb).1⟩⟩
  rw[Int.mul_one]
 done:=by
  intro X hP hw hK hc i pins s σ H E I hf st hg;subst hP hw hK
  obtain⟨f0,f1,f2,f3,f4,f5⟩:=hf it (by simp)
  exact wpAny_pyNext_range_end (I.ok.hd hc) st (by have:n<=i:=hg;omega) fun h' eb=>⟨rfl,I.turned (t':=s.toks) (fun b o hb e=>eb b o hb e) f0 f1 f3 f4 f5⟩
 self:=fun _ _ _ _ _ st h=>wpAny_pyIter_rangeiter st h
section
variable {X:Cx}{tg:Expr}
theorem A3t       {lo hi:Int}   (I:Inv X pins c H s) (h1:-(2 ^ 62)<=lo) (h2:lo<2 ^ 62) (d:-(2 ^ 62)<=hi) (f:hi<2 ^ 62)
 (q:R (Itr lo (hi-lo).toNat) H):wpAny (model X.prog X.w) X.A (pyIter (.ref s.heap.objs.size)) (PIE X pins c tg R) E { s with heap:=s.heap.push { cls:=.type "range",data:=.fields #[.int lo t,.int hi u,.int 1 v] },toks:=tk }:=by
 refine wpAny_pyIter_range (IsRange.new ..) (small_one h1 h2 d f) ?_
 have a:Inv X _ _ H { s with heap:=s.heap.push { cls:=.type "range",data:=.fields #[.int lo t,.int hi u,.int 1 v] },toks:=tk }:=I.kept fun b o e=>Heap.get?_push_of_some _ e
 refine⟨(s.heap.push _).objs.size,[(s.heap.push _).objs.size],_,_,H,rfl,
  a.kept  fun b o e=>Heap.get?_push_of_some _ e,Al7 _ _ _,?_,fun b i=>?_,q⟩
 ·have h:lo+((0:Nat))*1=lo:=by simp
  have g:(((hi-lo).toNat):Int)-((0:Nat))=Builtin.Range.rangeSize lo hi 1:=by rw[rangeSize_one];grind
  rw[h,g];exact Heap.get?_push_size _ rfl
 ·have e:b=(s.heap.push { cls:=.type "range",data:=.fields #[.int lo t,.int hi u,.int 1 v] }).objs.size:=by grind
  subst e;exact a.fpOk (Nat.le_refl _) (a.hok.fresh (Nat.le_refl _))
def A6n (ta:TA):TI:=fun σ H R=>ta σ H fun vs H1=>∃j:Int,vs=[.int j]/\-(2 ^ 62)<=j/\j<2 ^ 62/\R (Itr 0 j.toNat) H1
theorem A0m    (hg:Gl X "range") (hm:X.mg "range" = none) (ha:PA X [a] d) (hs:starEach [a] X.env=[(false,eval a X.env)]:=by rfl):PI X tg (.Call (.Name "range" p) [a] [] b) (A6n d):=by
 intro f s σ H R I h
 refine Call_ (Jh I hg hm boot_range (PyProof.Rows.callWith_type1 (thn (ha _ _ s _ H _ I h) fun us s1 ⟨vs,H1,g,i,c⟩=>?_) hs rfl))
 obtain⟨j,e,c,k,q⟩:=c;subst e
 cases i with
 | cons r l =>
  cases l
  obtain⟨t,rfl⟩:=r
  exact call_range_1 (A3t g (by omega) (by omega) c k (by grind))
def Bw2 (wi:TI)(g:TG)(tb:TS):TS:=fun D σ H=>wi σ H fun J H1=>∃W:Nat->Nat->St->Hp->Prop,(∃m,W 0 m σ H1)/\∀i m σ H,W i m σ H ->
 (J.stop i H/\D.nx σ H)\/(J.go i H/\∃N:St->Hp->Prop,(∀σ' H',N σ' H'->∃m',m'<m/\W (i+1) m' σ' H')/\∀x H',J.yld i H x H'->g x σ H' fun σ2 H2=>tb { D with nx:=N,ct:=N,bk:=D.nx } σ2 H2)
def Uv (fp:List Addr)(h:Heap):List (Addr×Obj):=fp.filterMap fun b=>(h.get? b).map fun o=>(b,o)
theorem Lw     (hb:b∈fp) (e:h.get? b=some o):(b,o)∈Uv fp h:=List.mem_filterMap.mpr ⟨b,hb,by grind⟩
theorem A0a    (hp:p∈Uv fp h):p.1∈fp/\h.get? p.1=some p.2:=by
 obtain⟨b,a,e⟩:=List.mem_filterMap.mp hp
 cases q:h.get? b with
 | none=>simp_all
 | some o =>
  grind
theorem Inv.pinned      (I:Inv X pins a H s) (hf:∀b∈fp,T9 X pins H b) (ho:∀b∈fp,∃o,s.heap.get? b=some o/\∀v,o.data≠.cell v):Inv X (pins++Uv fp s.heap) a H s :=
 I.pins_of fun p d=>(List.mem_append.mp d).elim (fun z=>I.pin p (List.mem_append_right _ z)) fun z=>by
  obtain⟨c,e⟩:=A0a z;obtain⟨g,h,f,_⟩:=hf _ c
  grind
theorem Inv.unpinned     (I:Inv X (pins++pl) a H s):Inv X pins a H s:=I.pins_of fun p b=>I.pin p (List.mem_append_right _ (List.mem_append_left _ b))
theorem Bw7       (hp:PassesOwn (model X.prog X.w) X.A X.env X.xe) (hc:X.calm=true) (hi:PI X tg p Z) (hg:PG X tg g) (hb:PSs X body tb)
 (hs:∀x,foldedSetIterable p X.env x=pure x:=by intro _;rfl):PS X (.For tg p body [] P) (Bw2 Z g tb):=by
 intro a s σ H D I h
 refine wpAny_For (thn (hi a s σ H _ I h) fun v s1 h1=>thn h1 fun itv s2 h2=>?_) hs
 obtain⟨it,C,tn,J,H2,e,I2,T,Q,Y,W,⟨m0,w0⟩,E⟩:=h2;subst e
 have k:∀{t:Hp},(∀b∈C,t b=none)->∀b∈C,T9 X a t b:=fun hn b hb=>⟨hn b hb,(Y b hb).2⟩
 refine codeAny_forLoop_any (fun n U=>∃i σ' t,Inv X a σ' t U/\tn i U.heap/\(∀b∈C,t b=none)/\W i n σ' t) ?_ m0 ⟨0,σ,H2,I2,Q,fun b hb=>(Y b hb).1,w0⟩
 rintro n V ⟨i,j,L,I3,B,F,w3⟩
 rcases E i n j L w3 with ⟨A,qn⟩ | ⟨go,N,hN,K⟩
 ·refine wpAny_passesOwn hp (thn (T.done X rfl rfl rfl hc i a V j L X.xe I3 (k F) B A) fun r s4 ⟨M,I4⟩=>?_)
  subst M;exact wpAny_execs_nil ⟨j,L,I4,qn⟩
 ·refine wpAny_passesOwn hp (thn (T.item X rfl rfl rfl hc i a V j L X.xe I3 (k F) B go) fun r s4 ⟨u,M,h4⟩=>?_)
  subst M
  refine wpAny_passesOwn hp (thn h4 fun _ s5 ⟨x,S,I5,r5,y5,z,O⟩=>?_)
  refine wpAny_passesOwn hp (thn (hg _ s5 j S x u _ (I5.pinned (k O) (T.obj _ _ z)) r5 (K x S y5)) fun _ s6 ⟨R,H6,I6,q6⟩=>?_)
  refine wpAny_passesOwn hp (thn (hb _ s6 R H6 _ I6 q6) fun f s7 y=>?_)
  have l:∀{c:St} {w:Hp},Inv X (a++Uv C s5.heap) c w s7->N c w->∃m,m<n/\∃i σ' t,Inv X a σ' t _/\tn i _/\(∀b∈C,t b=none)/\W i m σ' t:=fun {c w} q G=>by
   obtain⟨m',hm,w7⟩:=hN _ _ G
   refine⟨m',hm,i+1,c,w,q.unpinned,T.keep _ _ _ z fun b hb o e=>(q.pin _ (List.mem_append_right _ (List.mem_append_right _ (Lw hb e)))).1,fun b hb=>?_,w7⟩
   obtain⟨o,e,d⟩:=T.obj _ _ z b hb;exact(q.pin _ (List.mem_append_right _ (List.mem_append_right _ (Lw hb e)))).2.1
  cases f with
  | next=>obtain⟨c,w,q,G⟩:=y;exact l q G
  | cont=>obtain⟨c,w,q,G⟩:=y;exact l q G
  | brk=>obtain⟨c,w,q,y⟩:=y;exact⟨c,w,q.unpinned,y⟩
  | ret v=>obtain⟨x7,c,w,q,r7,y⟩:=y;exact⟨x7,c,w,q.unpinned,r7,y⟩
end
abbrev R2:=V->V->Hp->VK->Prop
def OpR (X:Cx)(f:Value->Value->Sem Value)(r:R2):Prop :=
 ∀
  (pins:List (Addr×Obj)) (s:Shared) (σ:St) (H:Hp) (x y:V) (v u:Value) (Q:VK),Inv X pins σ H s->RelV x v->RelV y u->r x y H Q ->
  wpAny (model X.prog X.w) X.A (f v u) (EP X pins σ Q) X.xe s
def UnR (X:Cx)(f:Value->Sem Value)(r:V->Hp->VK->Prop):Prop :=
 ∀
  (pins:List (Addr×Obj)) (s:Shared) (σ:St) (H:Hp) (x:V) (v:Value) (Q:VK),Inv X pins σ H s->RelV x v->r x H Q ->
  wpAny (model X.prog X.w) X.A (f v) (EP X pins σ Q) X.xe s
def zB (X:Cx)(f:Value)(r:List V->Hp->VK->Prop):Prop :=
 ∀
  (pins:List (Addr×Obj)) (s:Shared) (σ:St) (H:Hp) (xs:List V) (us:List Value) (Q:VK),Inv X pins σ H s->Vals xs us->r xs H Q ->
  wpAny (model X.prog X.w) X.A (call f us) (EP X pins σ Q) X.xe s
def tOp (r:R2)(ta tb:TE):TE:=fun σ H Q=>ta σ H fun x H1=>tb σ H1 fun y H2=>r x y H2 Q
def tUn (r:V->Hp->VK->Prop)(ta:TE):TE:=fun σ H Q=>ta σ H fun x H1=>r x H1 Q
def rI (C:Int->Int->Prop)(g:Int->Int->V):R2:=fun x y H Q=>∃i j,x=.int i/\y=.int j/\C i j/\Q (g i j) H
def rI0 (g:Int->Int->V):R2:=fun x y H Q=>∃i j,x=.int i/\y=.int j/\Q (g i j) H
def rU (g:Int->V):V->Hp->VK->Prop:=fun x H Q=>∃i,x=.int i/\Q (g i) H
section
variable {X:Cx}{a b c:Expr}{ta tb tc:TE}{pos:Pos}
theorem Bu4 (ha:PE X a ta)(hb:PE X b tb)     {R:V->V->Hp->Prop}(I:Inv X pins g H s)
 (h:ta g H fun x j=>tb g j fun y c=>R x y c)  {f:Value->Value->Sem Value}
 (hf:∀v u i x y c,Inv X pins g c i->RelV x v->RelV y u->R x y c->wpAny (model X.prog X.w) X.A (f v u) Q X.xe i) :
 wpAny (model X.prog X.w) X.A (eval a X.env) (fun v d=>wpAny (model X.prog X.w) X.A (eval b X.env) (fun u e=>wpAny (model X.prog X.w) X.A (f v u) Q X.xe e) X.xe d) X.xe s:=by
 refine thn (ha _ s _ H _ I h) fun v o ⟨x,j,k,n,l⟩=>?_
 refine thn (hb _ _ _ _ _ k l) fun u i ⟨y,c,p,q,m⟩=>?_
 grind
theorem Xu   (ho:OpR X (binaryOp op) r) (ha:PE X a ta) (hb:PE X b tb):PE X (.BinOp a op b pos) (tOp r ta tb):=by
 intro c s g H Q I h
 exact wpAny_BinOp (Bu4 ha hb I h fun v u i x y j f e d q=>ho _ _ _ _ x y v u Q f e d q)
theorem By9   (ho:UnR X (unaryOp op) r) (ha:PE X a ta):PE X (.UnaryOp op a pos) (tUn r ta):=by
 intro b s f H Q I h
 exact UnaryOp_ (thn (ha _ s _ H _ I h) fun v g ⟨x,i,e,d,c⟩=>ho _ _ _ _ x v Q e d c)
theorem opI   {g:Int->Int->Int}
 (a:∀(i j:Int) (t u:Tok) (s:Shared) (Q:Value->Shared->Prop) (E:Value->Shared->Prop),C i j->Q (.int (g i j) s.toks) { s with toks:=s.toks+1 }->wpAny (model X.prog X.w) X.A (f (.int i t) (.int j u)) Q E s) :
 OpR X f (rI C fun i j=>.int (g i j)):=by
 intro b s σ H x y v u Q I c e h;obtain⟨i,j,rfl,rfl,d,q⟩:=h;obtain⟨t,rfl⟩:=c;obtain⟨t',rfl⟩:=e;exact a i j t _ s _ _ d ⟨.int _,H,I.tok _,⟨_,rfl⟩,q⟩
theorem Wn  {g:Int->Int->Int}
 (a:∀(i j:Int) (t u:Tok) (s:Shared) (Q:Value->Shared->Prop) (E:Value->Shared->Prop),Q (.int (g i j) s.toks) { s with toks:=s.toks+1 }->wpAny (model X.prog X.w) X.A (f (.int i t) (.int j u)) Q E s) :
 OpR X f (rI0 fun i j=>.int (g i j)):=by
 intro b s σ H x y v u Q I c d h;obtain⟨i,j,rfl,rfl,q⟩:=h;obtain⟨t,rfl⟩:=c;obtain⟨t',rfl⟩:=d;exact a i j t _ s _ _ ⟨.int _,H,I.tok _,⟨_,rfl⟩,q⟩
theorem By0  {g:Int->Int->Bool}
 (a:∀(i j:Int) (t u:Tok) (s:Shared) (Q:Value->Shared->Prop) (E:Value->Shared->Prop),Q (.bool (g i j)) s->wpAny (model X.prog X.w) X.A (f (.int i t) (.int j u)) Q E s) :
 OpR X f (rI0 fun i j=>.bl (g i j)):=by
 intro b s σ H x y v u Q I c d h;obtain⟨i,j,rfl,rfl,q⟩:=h;obtain⟨t,rfl⟩:=c;obtain⟨t',rfl⟩:=d;exact a i j t _ s _ _ ⟨.bl _,H,I,rfl,q⟩
def A8d (i j:Int):Prop:=0<j/\j<1073741824
def A6o (i j:Int):Prop:=0<=j/\j<=1000000/\i.natAbs<2 ^ 64
def CMul (i j:Int):Prop:=(-(2 ^ 64)<i/\i<2 ^ 64)\/(-(2 ^ 64)<j/\j<2 ^ 64)
theorem CMul.ok  (h:CMul i j):IntMulOk i j:=by
 rcases h with ⟨b,a⟩ | ⟨b,a⟩
 ·exact .of_left (intBits_le_64 b a)
 ·exact .of_right (intBits_le_64 b a)
theorem Bt8:OpR X (binaryOp .Add) (rI0 fun i j=>.int (i+j)):=Wn fun _ _ _ _ _ _ _ q=>add_int q
theorem Bu5:OpR X (binaryOp .Sub) (rI0 fun i j=>.int (i-j)):=Wn fun _ _ _ _ _ _ _ q=>sub_int q
theorem Bk7:OpR X (binaryOp .Mult) (rI CMul fun i j=>.int (i*j)):=opI fun _ _ _ _ _ _ _ a q=>mul_int q a.ok
theorem A9m:OpR X (binaryOp .FloorDiv) (rI A8d fun i j=>.int (i / j)):=opI fun i j _ _ _ _ _ a q=>by
 have c:(0:Int)<j:=a.1;have b:j<1073741824:=a.2
 exact floordiv_int (by omega) (by rw[Int.fdiv_eq_ediv_of_nonneg i (by omega)];exact q) (.inl (PyProof.noPylong_small (by omega)))
theorem Bp8:OpR X (binaryOp .Mod) (rI (fun _ j=>0<j) fun i j=>.int (i % j)):=opI fun i j _ _ _ _ _ a q=>by
 have b:(0:Int)<j:=a
 exact mod_int' (by omega) (by rw[Int.fmod_eq_emod_of_nonneg i (by omega)];exact q)
theorem Bq0:OpR X (binaryOp .Pow) (rI A6o fun i j=>.int (i ^ j.toNat)):=opI fun _ _ _ _ _ _ _ a q=>pow_int_small a.1 a.2.1 a.2.2 q
theorem unI  {g:Int->Int}
 (a:∀(i:Int) (t:Tok) (s:Shared) (Q:Value->Shared->Prop) (E:Value->Shared->Prop),Q (.int (g i) s.toks) { s with toks:=s.toks+1 }->wpAny (model X.prog X.w) X.A (f (.int i t)) Q E s) :
 UnR X f (rU fun i=>.int (g i)):=by
 intro b s σ H x v Q I c h;obtain⟨i,rfl,q⟩:=h;obtain⟨t,rfl⟩:=c;exact a i t s _ _ ⟨.int _,H,I.tok _,⟨_,rfl⟩,q⟩
theorem Bu7:UnR X (unaryOp .USub) (rU fun i=>.int (-i)):=unI fun _ _ _ _ _ q=>neg_int q
end
def B0s:V->V->Bool
 | .non,.non=>true | .non,.int _=>true | .int _,.non=>true | .non,.bl _=>true | .bl _,.non=>true | .non,.str _=>true | .str _,.non=>true
 | .int _,.int _=>true | .bl _,.bl _=>true | .str _,.str _=>true | .byt _,.byt _=>true
 | .int _,.str _=>true | .str _,.int _=>true | .bl _,.str _=>true | .str _,.bl _=>true
 | _,_=>false
def rEq:R2:=fun x y H Q=>B0s x y=true/\Q (.bl (decide (x=y))) H
def rNe:R2:=fun x y H Q=>B0s x y=true/\Q (.bl (!decide (x=y))) H
theorem Ay3  : decide (V.int i=V.int j)=(i==j):=by
 grind
theorem A6r  : decide (V.bl i=V.bl j)=(i==j):=by
 grind
theorem Au9  : decide (V.str i=V.str j)=(i==j):=by
 grind
theorem Az0  : decide (V.byt i=V.byt j)=(i.toList==j.toList):=by
 rw[Bool.eq_iff_iff]
 simp_all
section
variable {X:Cx}{a b c:Expr}{ta tb tc:TE}{pos:Pos}
theorem Cz  {b:St}    {k a:Bool}(I:Inv X pins b H s) (q:Q (.bl k) H) (e:k=a):EP X pins b Q (.bool a) s:=by
 subst e;exact⟨.bl k,H,I,rfl,q⟩
theorem B0q:OpR X (compareOp .Eq) rEq:=by
 intro e s σ H x y v u Q I d a h;obtain⟨c,q⟩:=h
 cases x with
 | non =>
  cases d
  cases y with
  | non=>cases a;exact PySem.EqNone.eq_none_none (Cz I q (by simp))
  | bl j=>cases a;exact PySem.EqNone.eq_none_bool (Cz I q (by simp))
  | int j=>obtain⟨b,rfl⟩:=a;exact PySem.EqNone.eq_none_int (Cz I q (by simp))
  | str j=>obtain⟨b,rfl⟩:=a;exact PySem.EqNone.eq_none_str (Cz I q (by simp))
  | _=>exact absurd (show false=true from c) Bool.false_ne_true
 | bl i =>
  cases d
  cases y with
  | non=>cases a;exact PySem.EqNone.eq_bool_none (Cz I q (by simp))
  | bl j=>cases a;exact eq_bool (Cz I q A6r)
  | str j=>obtain⟨b,rfl⟩:=a;exact PySem.EqMixed.eq_bool_str (Cz I q (by simp))
  | _=>exact absurd (show false=true from c) Bool.false_ne_true
 | int i =>
  obtain⟨t,rfl⟩:=d
  cases y with
  | non=>cases a;exact PySem.EqNone.eq_int_none (Cz I q (by simp))
  | int j=>obtain⟨b,rfl⟩:=a;exact eq_int (Cz I q Ay3)
  | str j=>obtain⟨b,rfl⟩:=a;exact PySem.EqMixed.eq_int_str (Cz I q (by simp))
  | _=>exact absurd (show false=true from c) Bool.false_ne_true
 | str i =>
  obtain⟨t,rfl⟩:=d
  cases y with
  | non=>cases a;exact PySem.EqNone.eq_str_none (Cz I q (by simp))
  | bl j=>cases a;exact PySem.EqMixed.eq_str_bool (Cz I q (by simp))
  | int j=>obtain⟨b,rfl⟩:=a;exact PySem.EqMixed.eq_str_int (Cz I q (by simp))
  | str j=>obtain⟨b,rfl⟩:=a;exact eq_str (Cz I q Au9)
  | _=>exact absurd (show false=true from c) Bool.false_ne_true
 | byt i =>
  obtain⟨t,rfl⟩:=d
  cases y with
  | byt j=>obtain⟨b,rfl⟩:=a;exact PySem.W.eq_bytes (Cz I q Az0)
  | _=>exact absurd (c) Bool.false_ne_true
 | _=>cases y <;> exact absurd (show false=true from c) Bool.false_ne_true
theorem B0h:OpR X (compareOp .NotEq) rNe:=by
 intro e s σ H x y v u Q I d a h;obtain⟨c,q⟩:=h
 cases x with
 | non =>
  cases d
  cases y with
  | non=>cases a;exact PySem.EqNone.ne_none_none (Cz I q (by simp))
  | bl j=>cases a;exact PySem.EqNone.ne_none_bool (Cz I q (by simp))
  | int j=>obtain⟨b,rfl⟩:=a;exact PySem.EqNone.ne_none_int (Cz I q (by simp))
  | str j=>obtain⟨b,rfl⟩:=a;exact PySem.EqNone.ne_none_str (Cz I q (by simp))
  | _=>exact absurd (show false=true from c) Bool.false_ne_true
 | bl i =>
  cases d
  cases y with
  | non=>cases a;exact PySem.EqNone.ne_bool_none (Cz I q (by simp))
  | bl j=>cases a;exact ne_bool (Cz I q (congrArg not A6r))
  | str j=>obtain⟨b,rfl⟩:=a;exact PySem.EqMixed.ne_bool_str (Cz I q (by simp))
  | _=>exact absurd (show false=true from c) Bool.false_ne_true
 | int i =>
  obtain⟨t,rfl⟩:=d
  cases y with
  | non=>cases a;exact PySem.EqNone.ne_int_none (Cz I q (by simp))
  | int j=>obtain⟨b,rfl⟩:=a;exact ne_int (Cz I q (congrArg not Ay3))
  | str j=>obtain⟨b,rfl⟩:=a;exact PySem.EqMixed.ne_int_str (Cz I q (by simp))
  | _=>exact absurd (show false=true from c) Bool.false_ne_true
 | str i =>
  obtain⟨t,rfl⟩:=d
  cases y with
  | non=>cases a;exact PySem.EqNone.ne_str_none (Cz I q (by simp))
  | bl j=>cases a;exact PySem.EqMixed.ne_str_bool (Cz I q (by simp))
  | int j=>obtain⟨b,rfl⟩:=a;exact PySem.EqMixed.ne_str_int (Cz I q (by simp))
  | str j=>obtain⟨b,rfl⟩:=a;exact ne_str (Cz I q (congrArg not Au9))
  | _=>exact absurd (show false=true from c) Bool.false_ne_true
 | byt i =>
  obtain⟨t,rfl⟩:=d
  cases y with
  | byt j=>obtain⟨b,rfl⟩:=a;exact PySem.W.ne_bytes (Cz I q (congrArg not Az0))
  | _=>exact absurd (c) Bool.false_ne_true
 | _=>cases y <;> exact absurd (show false=true from c) Bool.false_ne_true
theorem By6:OpR X (compareOp .Lt) (rI0 fun i j=>.bl (decide (i<j))):=By0 fun _ _ _ _ _ _ _ q=>lt_int q
theorem By3:OpR X (compareOp .Gt) (rI0 fun i j=>.bl (decide (j<i))):=By0 fun _ _ _ _ _ _ _ q=>gt_int q
theorem B1k:OpR X (compareOp .GtE) (rI0 fun i j=>.bl (decide (j<=i))):=By0 fun _ _ _ _ _ _ _ q=>ge_int q
theorem A1x:OpR X (compareOp .In) (fun x y H Q=>∃i j,x=.str i/\y=.str j/\Q (.bl (!(Builtin.Str.occurrences j i 0 j.length 1).isEmpty)) H):=by
 intro a s σ H x y v u Q I b c h;obtain⟨i,j,rfl,rfl,q⟩:=h;obtain⟨t,rfl⟩:=b;obtain⟨t',rfl⟩:=c;exact in_str (Cz I q rfl)
theorem Bo0:OpR X (compareOp .Is) (fun x y H Q=>y=.non/\Q (.bl (decide (x=.non))) H):=by
 intro a s σ H x y v u Q I c b h;obtain⟨rfl,q⟩:=h
 cases b
 refine is_none_gen (Cz I q ?_)
 cases x <;> first
  | omega
  | (obtain⟨t,rfl⟩:=c;rfl)
theorem OpR.or  {r b:R2}(h:OpR X f r) (h':OpR X f b):OpR X f (fun x y H Q=>r x y H Q\/b x y H Q):=by
 intro c s e H x y v u Q I d a q
 rcases q with q | q
 ·exact h _ s _ H x y v u Q I d a q
 ·exact h' _ s _ H x y v u Q I d a q
theorem O9 (b:Expr)  (h:op≠.In:=by decide) (h2:op≠.NotIn:=by decide):behindInMarks op b=false:=by
 have c:(op==CmpOp.In)=false:=by grind
 have a:(op==CmpOp.NotIn)=false:=by grind
 cases b <;> simp[behindInMarks,c,a]
theorem Au3   (ho:OpR X (compareOp op) r) (ha:PE X a ta) (hb:PE X b tb) (hm:behindInMarks op b=false):PE X (.Compare a [op] [b] pos) (tOp r ta tb):=by
 intro c s g H Q I h
 exact wpAny_Compare1 (Bu4 ha hb I h fun v u i x y j f e d q=>ho _ _ _ _ x y v u Q f e d q) hm
def Km (t:TE):TT:=fun σ H Q=>t σ H fun x H'=>∃k,x=.bl k/\Q k H'
theorem Ls   (ho:OpR X (compareOp op) r) (ha:PE X a ta) (hb:PE X b tb) (hm:behindInMarks op b=false):PT X (.Compare a [op] [b] pos) (Km (tOp r ta tb)):=by
 intro d s t H Q I h
 refine wpAny_isTrue_Compare1 (thn (ha _ s _ H _ I h) fun v C ⟨x,D,j,l,m⟩=>thn (hb _ _ _ _ _ j m) fun u w ⟨y,B,i,g,o⟩ =>
  thn (ho _ _ _ _ x y v u _ i l g o) fun c A ⟨z,n,p,q,k,e,f⟩=>?_) hm
 subst e
 cases q
 exact wpAny_truthy_bool ⟨n,p,f⟩
theorem We:(sizeLine:Nat)<2 ^ 63:=by decide
theorem Am5:OpR X (binaryOp .Add) (fun x y H Q=>∃i j,x=.str i/\y=.str j/\i.length+j.length<=sizeLine/\Q (.str (i++j)) H):=by
 intro a s σ H x y v u Q I c b h;obtain⟨i,j,rfl,rfl,e,q⟩:=h;obtain⟨t,rfl⟩:=c;obtain⟨d,rfl⟩:=b
 exact add_str (fun d tk=>⟨.str _,H,I.tok _,⟨_,rfl⟩,q⟩) e
theorem vals1   (r:Vals [x] us):∃u,us=[u]/\RelV x u:=by
 cases r with
 | cons b a=>cases a;grind
theorem vals2   (r:Vals [x,y] us):∃u w',us=[u,w']/\RelV x u/\RelV y w':=by
 cases r with
 | cons c b =>
  cases b with
  | cons d a=>cases a;grind
theorem A7u:zB X (.builtin "abs") (fun xs H Q=>∃i,xs=[.int i]/\Q (.int (if i<0 then -i else i)) H):=by
 intro a s σ H xs us Q I r h;obtain⟨i,rfl,q⟩:=h;obtain⟨u,rfl,t,rfl⟩:=vals1 r
 exact call_abs_int fun u tk=>⟨.int _,H,I.tok _,⟨_,rfl⟩,q⟩
theorem A2n (hc:X.calm=true):zB X (.builtin "max") (fun xs H Q=>∃i j,xs=[.int i,.int j]/\Q (.int (if j>i then j else i)) H):=by
 intro a s σ H xs us Q I r h;obtain⟨i,j,rfl,q⟩:=h;obtain⟨u,w',rfl,⟨t,rfl⟩,⟨t',rfl⟩⟩:=vals2 r
 refine max_two_ints (I.ok.hd hc) fun h' tk k=>⟨_,H,I.kept k,?_,q⟩
 by_cases hj:j>i
 ·rw[if_pos hj,if_pos hj];exact⟨_,rfl⟩
 ·rw[if_neg hj,if_neg hj];exact⟨_,rfl⟩
theorem A0k (hc:X.calm=true):zB X (.builtin "min") (fun xs H Q=>∃i j,xs=[.int i,.int j]/\Q (.int (if j<i then j else i)) H):=by
 intro a s σ H xs us Q I r h;obtain⟨i,j,rfl,q⟩:=h;obtain⟨u,w',rfl,⟨t,rfl⟩,⟨t',rfl⟩⟩:=vals2 r
 refine min_two_ints (I.ok.hd hc) fun h' tk k=>⟨_,H,I.kept k,?_,q⟩
 by_cases hj:j<i
 ·rw[if_pos hj,if_pos hj];exact⟨_,rfl⟩
 ·rw[if_neg hj,if_neg hj];exact⟨_,rfl⟩
theorem A1h:zB X (.type "int") (fun xs H Q=>(∃i,xs=[.int i]/\Q (.int i) H)\/∃k,xs=[.bl k]/\Q (.int (if k then 1 else 0)) H):=by
 intro a s σ H xs us Q I r h
 rcases h with ⟨i,rfl,q⟩ | ⟨k,rfl,q⟩
 ·obtain⟨u,rfl,t,rfl⟩:=vals1 r
  exact call_int_int ⟨.int i,H,I,⟨_,rfl⟩,q⟩
 ·obtain⟨u,rfl,b⟩:=vals1 r
  cases b
  exact call_int_bool ⟨.int _,H,I.tok _,⟨_,rfl⟩,q⟩
def B1u (K:PySem.W.Frag)(x:V)(H:Hp)(n:Nat):Prop :=
 match x with
 | .str y=>y.length<=sizeLine/\n=y.length
 | .byt y=>y.size<=sizeLine/\n=y.size
 | .ref p=>(∃xs,SqL K H p xs/\n=xs.length)\/∃xs,SqT K H p xs/\n=xs.length
 | _=>False
theorem Aj1:zB X (.builtin "len") (fun xs H Q=>∃x n,xs=[x]/\B1u X.K x H n/\Q (.int n) H):=by
 intro j s σ H xs us Q I r h;obtain⟨x,n,rfl,e,q⟩:=h;obtain⟨u,rfl,d⟩:=vals1 r;have hl:=We;have hs:sizeLine=16777216:=sizeLine_eq
 cases x with
 | str y =>
  obtain⟨t,rfl⟩:=d;obtain⟨l,b⟩:y.length<=sizeLine/\n=y.length:=e;subst b
  exact len_str (by omega) ⟨.int _,H,I.tok _,⟨_,rfl⟩,q⟩
 | byt y =>
  obtain⟨t,rfl⟩:=d;obtain⟨l,b⟩:y.size<=sizeLine/\n=y.size:=e;subst b
  exact PySem.W.len_bytes (by omega) ⟨.int _,H,I.tok _,⟨_,rfl⟩,q⟩
 | ref p =>
  cases d
  have b  := e
  rcases b with ⟨xs,c,b⟩ | ⟨xs,c,b⟩
  ·subst b
   obtain⟨g,f,i,k⟩:=I.list c;have a:=f.length
   exact Calls.call_len_list i.isList (by grind) ⟨.int _,H,I.tok _,⟨_,by simp only[List.size_toArray];rw[a]⟩,q⟩
  ·subst b
   obtain⟨g,f,i,k⟩:=I.tuple c;have a:=f.length
   exact len_tuple i (by grind) ⟨.int _,H,I.tok _,⟨_,by simp only[List.size_toArray];rw[a]⟩,q⟩
 | _=>trivial
end
theorem RelO.some_of {v:V}{o:Option Value}(r:RelO (some v) o):∃u,o=some u/\RelV v u:=by
 cases o with
 | none=>trivial
 | some u=>exact⟨u,rfl,r⟩
structure Room (k:Nat) (A:Around):Prop where
 hd:A.handled=none
 dp:A.depth+3*k+5<recursionLimit
 un:A.units+16*k+200<cLine
 gd:A.guards=some []
theorem Room.mono   (r:Room k A) (h:j<=k):Room j A:=⟨r.hd,by have:=r.dp;omega,by have:=r.un;omega,r.gd⟩
theorem Room.deeper   (r:Room (k+1) A) (env:Env):Room k (A.deeper env) :=
 ⟨r.hd,by have:=r.dp;show A.depth+1+3*k+5<_;omega,by have:=r.un;show A.units+3+16*k+200<_;omega,r.gd⟩
theorem Room.in1   (r:Room (k+1) A):Room k A.in1 :=
 ⟨r.hd,by have:=r.dp;grind,by have:=r.un;grind,r.gd⟩
theorem Room.depth   (r:Room k A):A.depth<recursionLimit:=by have:=r.dp;omega
theorem Room.units   (r:Room k A):A.units+64<cLine:=by have:=r.un;omega
def G6:TA:=fun _ H Q=>Q [] H
def Dh (ta:TE)(tr:TA):TA:=fun σ H Q=>ta σ H fun x H1=>tr σ H1 fun xs H2=>Q (x::xs) H2
section
variable {X:Cx}{e:Expr}{es:List Expr}{te:TE}{t:TA}{pos:Pos}
theorem Vi:PA X [] G6:=fun _ _ _ _ H Q I h=>Calls.spliced_nil ⟨[],H,I,.nil,h⟩
theorem At5 (ha:PE X e te)(hr:PA X es t)(hs:starEach (e::es) X.env=(false,eval e X.env)::starEach es X.env:=by rfl):PA X (e::es) (Dh te t):=by
 intro d a s m H Q I h;rw[hs]
 refine Calls.spliced_cons (thn (ha _ s _ H _ I h) fun u o ⟨x,n,f,g,i⟩=>?_)
 exact thn (hr _ _ _ _ _ _ f i) fun p q ⟨c,k,j,l,b⟩=>⟨x::c,k,j,.cons g l,b⟩
def A5c (t:TA):TE:=fun σ H Q=>t σ H fun xs H1=>xs.length<=sizeLine/\∀p,H1 p=none->Q (.ref p) (upd H1 p (.tup xs))
def Bx5 (t:TA):TE:=fun σ H Q=>t σ H fun xs H1=>xs.length<=sizeLine/\∀p,H1 p=none->Q (.ref p) (upd H1 p (.lst xs))
theorem Bw1  (h:PA X es t):PE X (.Tuple es d pos) (A5c t):=by
 intro a s i H Q I g
 refine wpAny_Tuple_spliced (thn (h _ _ s _ H _ I g) fun f j ⟨k,l,c,r,z,q⟩=>⟨by rw[<- r.length];grind,?_⟩)
 refine⟨.ref _,upd _ _ _,c.laid  (fun b u e=>Heap.get?_push_of_some _ e) (Nat.le_refl _) ?_,rfl,q _ (c.hok.fresh (Nat.le_refl _))⟩
 exact⟨z,f,r,⟨_,Heap.get?_push_size _ rfl,rfl,⟨_,rfl⟩,rfl⟩⟩
theorem Bv8 (h:PA X es t):PE X (.List es pos) (Bx5 t):=by
 intro c s g H Q I d
 refine wpAny_List_spliced (thn (h _ _ s _ H _ I d) fun f i ⟨j,k,a,r,z,q⟩=>⟨by rw[<- r.length];grind,?_⟩)
 refine⟨.ref _,upd _ _ _,a.laid  (fun b u e=>Heap.get?_push_of_some _ e) (Nat.le_refl _) ?_,rfl,q _ (a.hok.fresh (Nat.le_refl _))⟩
 exact⟨z,f,0,r,Heap.get?_push_size _ rfl⟩
end
abbrev Sp:=List V->Hp->VK->XK->Prop
abbrev CXT:=List Env->Hp->Shared->XK->Value->Shared->Prop
structure Env0 (P:Program) (w:World) (K:PySem.W.Frag) (mg:Str->Option Value) (base:Heap) (A:Around) (outer:List Env) (s:Shared) (H:Hp):Prop where
 frames:A.frames=some outer
 mod:Mod K mg base
 bs:∀b o,base.get? b=some o->s.heap.get? b=some o/\H b=none
 bsz:base.objs.size<=s.heap.objs.size
 funs:s.heap.FunFrames base outer
 frf:∀b∈frs outer,H b=none
 tab:∀p∈Em K,H p.1=some (.tbl p.2)
 hok:HOk P w H s.heap
 bare:AllBare s.gens
def CE (outer:List Env)(P:Program)(w:World)(H:Hp)(s:Shared)(Q:VK)(u:Value)(s':Shared):Prop :=
 ∃v H',s'.os=s.os/\AllBare s'.gens/\Un (frs outer) [] H H' s.heap s'.heap/\HOk P w H' s'.heap/\RelV v u/\Q v H'
def CR (CX:CXT)(outer:List Env)(P:Program)(w:World)(H:Hp)(s:Shared)(Q:VK)(E:XK)(r:Result)(s':Shared):Prop :=
 match r with
 | .ok (.ret u)=>CE outer P w H s Q u s'
 | .ok _=>False
 | .error e=>CX outer H s E e s'
structure FnOk (P:Program) (w:World) (K:PySem.W.Frag) (mg:Str->Option Value) (base:Heap) (CX:CXT) (k:Nat) (f:Addr) (fd:FuncData) (ps:List Str) (sp:Sp):Prop where
 len:∀vs H Q E,sp vs H Q E->vs.length=ps.length
 run:∀(A:Around) (outer:List Env) (s:Shared) (H:Hp) (args:Args) (us:List Value) (vs:List V) (Q:VK) (E:XK),Room k A->Env0 P w K mg base A outer s H->BindsTo s fd args (ps.zip us)->Vals vs us->sp vs H Q E ->
  codeAny (model P w) A (.call (.ref f) args) (CR CX outer P w H s Q E) s
theorem FnOk.imp   {K:PySem.W.Frag}         (F:FnOk P w K mg base CX k f d ps sp)
 (h:∀b H Q E,a b H Q E->sp b H Q E):FnOk P w K mg base CX k f d ps a :=
 ⟨fun b H Q E q=>F.len _ H Q E (h _ _ _ _ q),fun A c s H e n b Q E j l i m g=>F.run A _ s H _ _ _ Q E j l i m (h _ _ _ _ g)⟩
theorem Env0.in1   {K:PySem.W.Frag}       (e:Env0 P w K mg base A a s H) :
 Env0 P w K mg base A.in1 a s H:=⟨e.frames,e.mod,e.bs,e.bsz,e.funs,e.frf,e.tab,e.hok,e.bare⟩
section
variable {X:Cx}{pins:List (Addr×Obj)}{σ:St}{H:Hp}{s s':Shared}
theorem Inv.env0 (I:Inv X pins σ H s):Env0 X.prog X.w X.K X.mg X.base X.A X.stack s H :=
 ⟨I.ok.frames,I.ok.mod,I.bs,Nat.le_trans I.ok.bsz I.sz,I.stack,I.stkFree,fun p a=>I.base.tbls _ _ (I.ok.tab p a),I.hok,I.bare⟩
theorem Inv.after   (I:Inv X pins σ H s) (h:CE X.stack X.prog X.w H s Q u s'):EP X pins σ Q u s':=by
 obtain⟨v,j,i,a,f,c,r,q⟩:=h;obtain⟨hh,g,d,t,e⟩:=s';obtain rfl:e=s.os:=i
 exact⟨v,j,I.call      f c a fun b z=>absurd z (by simp),r,q⟩
end
def Mg (sp:Sp)(dvs:List V)(E:XK)(t:TA):TE:=fun σ H Q=>t σ H fun vs H1=>sp (vs++dvs) H1 Q E
def Binds (K:PySem.W.Frag)(fd:FuncData)(ps:List Str)(ds:List Value):Prop :=
 ∀(s:Shared) (us:List Value),K.In s.heap->(us++ds).length=ps.length->BindsTo s fd ⟨us,[]⟩ (ps.zip (us++ds))
theorem Binds.all {K:PySem.W.Frag}   (h:∀a:List Value,a.length=ps.length->bindArgs c ⟨a,[]⟩=pure (ps.zip a)):Binds K c ps []:=fun s a _ b=>by
 rw[List.append_nil]at b ⊢;exact .of_eq (h _ b)
def M6 (CX:CXT)(X:Cx)(E:XK):Prop:=∀(pins:List (Addr×Obj)) (σ:St) (H:Hp) (s:Shared) (e:Value) (s':Shared),Inv X pins σ H s->CX X.stack H s E e s'->X.xe e s'
section
variable {X:Cx}{CX:CXT}{k:Nat}{f C:Addr}{fd:FuncData}{ps:List Str}{sp:Sp}{dvs:List V}{ds:List Value}{E:XK}{x m:Str}{p pos apos:Pos}{e o:Expr}{es:List Expr}{ta:TE}{t:TA}
theorem Bo7        (F:FnOk X.prog X.w X.K X.mg X.base CX k f fd ps sp) (hr:Room k X.A) (hb:Binds X.K fd ps ds) (hd:Vals dvs ds) (hx:M6 CX X E)
 (I:Inv X pins b H s) (r:Vals vs us) (h:sp (vs++dvs) H Q E):wpAny (model X.prog X.w) X.A (call (.ref f) us) (EP X pins b Q) X.xe s:=by
 have a  := r.append hd
 have g:(us++ds).length=ps.length:=by rw[<- a.length];exact F.len _ _ _ _ h
 refine wpAny_call (codeAny_mono (F.run _ _ s H _ _ _ Q E hr I.env0 (hb s _ I.kIn g) a h) fun r i c=>?_)
 cases r with
 | error e=>exact hx _ _ H s e _ I c
 | ok d =>
  cases d with
  | ret u=>exact I.after c
  | next=>assumption
  | brk=>assumption
  | cont=>trivial
theorem Bb0 (F:FnOk X.prog X.w X.K X.mg X.base CX k f fd ps sp)(hr:Room k X.A)(hg:Gl X x)(hm:X.mg x=some (.ref f))(hk:PySem.W.keepIn X.K (.ref f)=true)(hb:Binds X.K fd ps ds)(hd:Vals dvs ds)(hx:M6 CX X E)
 (ha:PA X (e::es) t) (hdb:(x==("__debug__" : Str))=false:=by decide) (he:starEach (e::es) X.env=(false,eval e X.env)::starEach es X.env:=by rfl) (hpl:(backTo pos (starEach es X.env)).any (·.1)=false:=by rfl) :
 PE X (.Call (.Name x p) (e::es) [] pos) (Mg sp dvs E t):=by
 intro b s c H Q I h
 refine wpAny_Call_Name_kw (Lb I hg hm ?_ hdb)
 refine PySem.W.callWith_K  I.ok.mod.kin hk (thn (ha _ _ s _ H _ I h) fun d g ⟨i,j,a,r,q⟩=>⟨a.kIn,?_⟩) he hpl
 exact Bo7 F hr hb hd hx a r q
end
def PK (X:Cx)(kws:List Keyword)(t:TA):Prop :=
 ∀(pos:Pos) (pins:List (Addr×Obj)) (s:Shared) (σ:St) (H:Hp) (Q:List V->Hp->Prop),Inv X pins σ H s->t σ H Q->wpAny (model X.prog X.w) X.A (evalAll ((backToKw pos (keywordEach kws X.env)).map (·.2))) (AP X pins σ Q) X.xe s
section
variable {X:Cx}{CX:CXT}{k:Nat}{f C:Addr}{fd:FuncData}{ps ks:List Str}{sp:Sp}{E:XK}{x m:Str}{p pos apos kpos:Pos}{e o:Expr}{es:List Expr}{kws:List Keyword}{te ta:TE}{t tk:TA}{nm:Option Str}
theorem Bm9:PK X [] G6:=fun _ _ _ _ H Q I h=>wpAny_evalAll_nil ⟨[],H,I,.nil,h⟩
theorem Bd4 (ha:PE X e te)(hr:PK X kws t):PK X (⟨nm,e,kpos⟩::kws) (Dh te t):=by
 intro d a s m H Q I h
 refine wpAny_evalAll_cons (wpAny_bind (thn (ha _ s _ H _ I h) fun u o ⟨x,n,f,g,i⟩=>wpAny_bind (wpAny_standAt (wpAny_pure ?_))))
 exact thn (hr _ _ _ _ _ _ f i) fun p q ⟨c,k,j,l,b⟩=>⟨x::c,k,j,.cons g l,b⟩
variable {g:List Value->List Value->List Value}{gV:List V->List V->List V}
end
structure Bk (N P:List Str) (sc:Scope):Prop where
 kind:sc.kind=.function
 co:sc.isCoroutine=false
 gen:sc.isGenerator=false
 nd:N.Nodup
 pre:N.take P.length=P
 par:∀x∈P,sc.names.lookup x=some .local\/sc.names.lookup x=some .cell
 nofree:∀y∈sc.names,y.2≠.free
theorem Xn {kindOf:Str->Option NameKind}{x:Str}:∀{binds:List (Str×Value)}{m:Str->Option Value},(∀v,(x,v)∉binds)->bindL kindOf binds m x=m x
 | [],_,_=>rfl
 | (n,v)::r,m,h=>by
  unfold bindL
  rw[Xn fun w hw=>h w (List.mem_cons_of_mem _ hw)]
  split
  ·have:x≠n:=by rintro rfl;exact h v List.mem_cons_self
   simp[this]
  ·rfl
theorem Xb {kindOf:Str->Option NameKind}{x:Str}:∀{binds:List (Str×Value)}{m:Str->Option Value},(∀v,(x,v)∉binds)->bindC kindOf binds m x=m x
 | [],_,_=>rfl
 | (n,v)::r,m,h=>by
  unfold bindC
  rw[Xb fun w hw=>h w (List.mem_cons_of_mem _ hw)]
  split
  ·rfl
  ·have:x≠n:=by rintro rfl;exact h v List.mem_cons_self
   simp[this]
theorem Xa {kindOf:Str->Option NameKind}{x:Str}{v:Value}:∀{P:List Str}{vs:List Value}{i:Nat}{m:Str->Option Value},P.Nodup->P[i]?=some x->vs[i]?=some v->kindOf x=some .local ->
 bindL kindOf (P.zip vs) m x=some v
 | [],_,_,_,_,h,_,_=>by simp at h
 | _::_,[],_,_,_,_,h,_=>by simp at h
 | p::P,w::vs,0,m,nd,h1,h2,hk=>by
  simp at h1 h2;subst h1;subst h2
  show bindL kindOf ((p,w)::P.zip vs) m p=_
  unfold bindL
  rw[Xn fun v hv=>(List.nodup_cons.mp nd).1 (List.of_mem_zip hv).1,if_pos hk]
  simp
 | p::P,w::vs,i+1,m,nd,h1,h2,hk=>by
  show bindL kindOf ((p,w)::P.zip vs) m x=_
  unfold bindL
  exact Xa (i:=i) (List.nodup_cons.mp nd).2 (by simpa using h1) (by simpa using h2) hk
theorem Xm {kindOf:Str->Option NameKind}{x:Str}{v:Value}:∀{P:List Str}{vs:List Value}{i:Nat}{m:Str->Option Value},P.Nodup->P[i]?=some x->vs[i]?=some v->kindOf x≠some .local ->
 bindC kindOf (P.zip vs) m x=some v
 | [],_,_,_,_,h,_,_=>by simp at h
 | _::_,[],_,_,_,_,h,_=>by simp at h
 | p::P,w::vs,0,m,nd,h1,h2,hk=>by
  simp at h1 h2;subst h1;subst h2
  show bindC kindOf ((p,w)::P.zip vs) m p=_
  unfold bindC
  rw[Xb fun v hv=>(List.nodup_cons.mp nd).1 (List.of_mem_zip hv).1,if_neg hk]
  simp
 | p::P,w::vs,i+1,m,nd,h1,h2,hk=>by
  show bindC kindOf ((p,w)::P.zip vs) m x=_
  unfold bindC
  exact Xm (i:=i) (List.nodup_cons.mp nd).2 (by simpa using h1) (by simpa using h2) hk
def start (N:List Str)(vs:List V):St:=vs.map some++List.replicate (N.length-vs.length) none
def Mx (CX:CXT)(P:Program)(w:World)(K:PySem.W.Frag)(mg:Str->Option Value)(base:Heap)(N:List Str)(qual:Str)(scope:Scope)(f:Addr)(cd:Value)(A:Around)(outer:List Env)(s:Shared)(H:Hp)(E:XK):Cx where
 prog:=P
 w:=w
 K:=K
 mg:=mg
 base:=base
 A:=A.deeper (envOfC qual scope s.heap.objs.size f cd)
 N:=N
 s₀:=s
 H₀:=H
 env:=envOfC qual scope s.heap.objs.size f cd
 outer:=outer
 stack:=envOfC qual scope s.heap.objs.size f cd::outer
 ex:=[]
 calm:=true
 fn:=fun _=>true
 pn:=[]
 xe:=fun e s'=>wpAny (model P w) (A.deeper (envOfC qual scope s.heap.objs.size f cd)) (leaving (envOfC qual scope s.heap.objs.size f cd) e) (fun _ s''=>CX outer H s E e s'') (fun e' s''=>CX outer H s E e' s'') s'
theorem Ak0 {a:Scope}   (h:a.names.lookup x=some .cell):∃c,(cellsFrom n a.names []).lookup x=some c:=by
 exact Option.isSome_iff_exists.mp (PySem.W.cellsFrom_some _ n [] (.inl h))
theorem Yb    {K:PySem.W.Frag}              
 (S:Bk N ps scope) (hd:A.handled=none) (d:Env0 P w K mg base A a s H) (hl:vs.length=ps.length) (r:Vals vs us)
 (x:InCallC s s.heap.objs.size (bindL (envOfC qual scope s.heap.objs.size f t).kindOf (ps.zip us) fun _=>none) (cellsFrom (s.heap.objs.size+1) scope.names []) (bindC (envOfC qual scope s.heap.objs.size f t).kindOf (ps.zip us) fun _=>none) s1) :
 Inv (Mx CX P w K mg base N qual scope f t A a s H E) [] (start N vs) H s1:=by
 have D:ps.length<=N.length:=by have:=congrArg List.length S.pre;rw[List.length_take]at this;omega
 obtain⟨o,tk,rfl,B⟩:=x.done
 have g:∀b:Addr,b∉(Mx CX P w K mg base N qual scope f t A a s H E).ex:=fun b z=>absurd (show b∈([]:List Addr) from z) (by simp)
 refine⟨⟨d.mod,S.kind,rfl,rfl,Nat.le_refl _,fun y z c o n=>?_,fun y j=>?_,fun y c _ h=>?_,fun _=>hd,Around.frames_deeper d.frames,.inr ⟨rfl,rfl⟩,fun b z=>absurd z (g b),d.bs,d.bsz,fun b _ _=>g b,fun b z=>absurd z (g b),d.funs,d.frf,d.tab⟩,
  rfl,d.bare,Un.kept B,⟨_,x.toInCall.ns,fun i y v o n h3=>?_⟩,fun y c h=>⟨_,x.cell y c h⟩,d.hok.fresh (Nat.le_refl _),fun y c h=>?_,fun p m=>absurd (show p∈([]:List (Addr×Obj)) from m) (by simp),d.hok.kept B,?_⟩
 ·exact name_of_addr x.apart (PySem.mem_of_lookup o) (PySem.mem_of_lookup n)
 ·have j:scope.names.lookup y=some .cell\/scope.names.lookup y=some .free:=j
  rcases j with j | j
  ·exact Ak0 j
  ·exact absurd rfl (S.nofree _ (PySem.mem_of_lookup j))
 ·exact Nat.le_of_lt (x.above y c (PySem.mem_of_lookup h))
 ·have hi:i<vs.length:=by
   unfold start at n
   grind
  have F:vs[i]?=some v:=by
   unfold start at n
   grind
  obtain⟨u,C,G⟩:=r.get F
  have m:ps[i]?=some y:=by
   rw[<- S.pre,List.getElem?_take_of_lt (by omega)];exact o
  have l:ps.Nodup:=by rw[<- S.pre];exact S.nd.sublist (List.take_sublist _ _)
  refine⟨u,G,?_⟩
  rcases S.par y (List.mem_of_getElem? m) with k | k
  ·exact .inl ⟨k,Xa l m C k⟩
  ·obtain⟨c,e⟩:=Ak0  k
   refine .inr ⟨.inl k,c,e,?_⟩
   have q:=x.cell y c e
   rw[Xm l m C (by show scope.names.lookup y≠_;rw[k];decide)]at q
   exact q
 ·exact d.hok.fresh (Nat.le_of_lt (x.above y c (PySem.mem_of_lookup h)))
 ·unfold start
  show _=N.length
  simp_all
theorem A8j    {K:PySem.W.Frag}          
 (lk:K.lookup f=some ⟨oc,od,.func (PySem.W.fnOf name qual d body scope U O z R M a W),F⟩) (hcd:PySem.W.codeIn K a qual=true) (S:Bk N ps scope)
 (p:∀vs H Q E,sp vs H Q E->vs.length=ps.length)
 (i:∀(A:Around) (c:List Env) (s:Shared) (H:Hp) (vs:List V) (Q:VK) (E:XK),Room k (A.deeper (envOfC qual scope s.heap.objs.size f a))->sp vs H Q E ->
  ∃t,PSs (Mx CX P w K mg base N qual scope f a A c s H E) body t/\t { nx:=fun _ H'=>Q .non H',rt:=Q } (start N vs) H) :
 FnOk P w K mg base CX (k+1) f (PySem.W.fnOf name qual d body scope U O z R M a W) ps sp:=by
 refine⟨p,fun A c s H T X vs Q E C l hb r m=>?_⟩
 have hl:=p _ _ _ _ m
 have G  := l.mod.kin.keeps fun b o e=>(l.bs b o e).1
 have h:∀y∈ps.zip X,scope.names.lookup y.1=some .local\/(scope.names.lookup y.1=some _/\((cellsFrom (s.heap.objs.size+1) _ []).lookup y.1).isSome=true):=fun⟨n,v⟩ Y=>by
  rcases S.par n (List.of_mem_zip Y).1 with q | q
  ·grind
  ·exact .inr ⟨q,PySem.W.cellsFrom_some _ _ _ (.inl q)⟩
 refine codeAny_call_function C.depth (G _ _ lk) rfl S.co S.gen rfl (PySem.W.codeRec_of G hcd) (hb _ _ _ _ ?_)
 refine wpAny_newFunctionEnv_cells S.kind h fun Z he s1 x=>?_
 subst he
 refine⟨(l.mod.nolimit.keeps fun b o e=>(l.bs b o e).1).keeps x.toInCall.keep,codeAny_func ?_⟩
 obtain⟨t,ht,hq⟩:=i A _ s H _ Q E (C.deeper _) m;have I:Inv (Mx CX P w K _ _ N qual _ f a A _ s H E) _ _ H _:=Yb S C.hd l hl r x
 refine wpAny_mono (ht _ _ _ H _ I hq) (fun fl L j=>?_) fun e L j=>j
 have B:∀{g:St} {H':Hp} {v:V} {u:Value},Inv (Mx CX P w K mg base N qual scope f a A c s H E) [] g _ L->RelV v u->Q v _->CE _ P w H s Q u _ :=
  fun {g H' v u} J D q=>⟨v,H',J.os,J.bare,J.base,J.hok,D,q⟩
 cases fl with
 | ret u =>
  obtain⟨v,g,H',J,D,q⟩:=j;exact B J D q
 | next =>
  obtain⟨g,H',J,q⟩:=j;exact B (v:=V.non)  J rfl q
 | brk =>
  obtain⟨_,_,_,q⟩:=j
  trivial
 | cont =>
  obtain⟨_,_,_,q⟩:=j
  trivial
section
variable {X:Cx}{x:Str}{p pos:Pos}{e:Expr}{es:List Expr}{t:TA}{id T:String}{r:List V->Hp->VK->Prop}
def tCB (r:List V->Hp->VK->Prop)(t:TA):TE:=fun σ H Q=>t σ H fun vs H1=>r vs H1 Q
theorem A8x (hc:zB X (.builtin id) r)(hg:Gl X x)(hm:X.mg x=none)(hv:bootBuiltins x=some (.builtin id))(ha:PA X (e::es) t)(hn:x ≠ "__name__" := by decide) (hdb:(x==("__debug__" : Str))=false:=by decide)
 (he:starEach (e::es) X.env=(false,eval e X.env)::starEach es X.env:=by rfl) (hpl:(backTo pos (starEach es X.env)).any (·.1)=false:=by rfl):PE X (.Call (.Name x p) (e::es) [] pos) (tCB r t):=by
 intro a s f H Q I h
 refine wpAny_Call_Name_kw (Jh I hg hm hv ?_ hn hdb)
 exact PyProof.Rows.callWith_builtin1 (thn (ha _ _ s _ H _ I h) fun j k ⟨g,i,d,c,b⟩=>hc _ _ _ _ _ _ Q d c b) he hpl
theorem Az5 (hc:zB X (.type T) r)(hg:Gl X x)(hm:X.mg x=none)(hv:bootBuiltins x=some (.type T))(ha:PA X (e::es) t)(hn:x ≠ "__name__" := by decide) (hdb:(x==("__debug__" : Str))=false:=by decide)
 (he:starEach (e::es) X.env=(false,eval e X.env)::starEach es X.env:=by rfl) (hpl:(backTo pos (starEach es X.env)).any (·.1)=false:=by rfl):PE X (.Call (.Name x p) (e::es) [] pos) (tCB r t):=by
 intro a s f H Q I h
 refine wpAny_Call_Name_kw (Jh I hg hm hv ?_ hn hdb)
 exact PyProof.Rows.callWith_type1 (thn (ha _ _ s _ H _ I h) fun j k ⟨g,i,d,c,b⟩=>hc _ _ _ _ _ _ Q d c b) he hpl
end
end L2
namespace HT
open PySem PyProof.Rows
section
variable {prog:Program}{w:World}{A:Around}{E:Value->Shared->Prop}{s:Shared}
theorem Be8    (ht:IsTup s.heap t vs.toArray) (hb:IsTup s.heap b c.toArray) (hv:vs≠[])
 (h1:c=[]->Q (.ref t) s) (h2:c≠[]->Q (.ref s.heap.objs.size) { s with heap:=s.heap.push { cls:=.type "tuple",data:=.seq (vs++c).toArray } })
 (hsz:vs.length+c.length<=sizeLine):wpAny (model prog w) A (binaryOp .Add (.ref t) (.ref b)) Q E s:=by
 obtain⟨⟨g,q,d,p⟩,e,o,n,l⟩:=id ht;obtain⟨⟨j,k,i,m⟩,a,h,r,f⟩:=id hb;subst o l h f
 by_cases hw:c=[]
 ·exact concat_meets ⟨_,e,rfl⟩ ⟨_,a,rfl⟩ noFill_tuple_add seq_tuple_add PySem.F.slot_tuple_add PySem.F.entry_tuple_add (PySem.F.args_tuple_add_2 _ _)
   (tuple_addW1 t b _ _ n _ _ _ _ _ (by simp_all) (by grind)) ⟨e,a,h1 hw⟩
 ·refine concat_meets ⟨_,e,rfl⟩ ⟨_,a,rfl⟩ noFill_tuple_add seq_tuple_add PySem.F.slot_tuple_add PySem.F.entry_tuple_add (PySem.F.args_tuple_add_2 _ _)
   (tuple_addW2 t b _ _ n _ _ _ _ _ (by grind) (by simp_all) (by simp_all)) ⟨e,a,?_⟩
  grind
def sIx (n d:Nat):Option Int->Nat
 | none=>d
 | some v=>if v<0 then (v+(n:Int)).toNat else min v.toNat n
theorem A4k (n d:Nat):sIx n d none=d:=rfl
theorem Yv (n d k:Nat):sIx n d (some (k:Int))=min k n:=by
 show (if k<0 then ((k:Int)+n).toNat else min _ n)=min k n
 grind
theorem Bm3 (n d:Nat)(hd:d<=n)(o:Option Int):sIx n d o<=n:=by
 cases o with
 | none=>exact hd
 | some v =>
  show (if v<0 then (v+n).toNat else min _ n)<=n
  grind
theorem Az2 (v:Int)(n d:Nat):(if v<0 then max (v+(n:Int)) 0 else min v (n:Int))=((sIx n d (some v):Nat):Int):=by
 show (if v<0 then max _ 0 else min v _)=(((if v<0 then (v+n).toNat else min _ n):Nat):Int)
 grind
theorem Ar4 (lo hi:Option Int)(n:Nat):Builtin.Slice.sliceAdjust lo hi 1 (n:Int)=(((sIx n 0 lo:Nat):Int),((sIx n n hi:Nat):Int)):=by
 refine Prod.ext ?_ ?_
 ·cases lo with
  | none=>rfl
  | some v=>exact Az2 v n 0
 ·cases hi with
  | none=>rfl
  | some v=>exact Az2 v n n
theorem Ar7 (i j:Nat):Builtin.Slice.slicePlaces (i:Int) (j:Int) 1=j-i:=by
 unfold Builtin.Slice.slicePlaces
 have h1:(1:Int)>0:=by omega
 simp only[h1,if_true,Int.ediv_one]
 split <;> omega
theorem Ox    (p:IsPart v o) (h:Q o s):wpAny (model prog w) A (Builtin.Slice.slicePartIndex v) Q E s:=by
 cases p with
 | none=>exact slicePart_none h
 | int i t=>exact slicePart_int h
theorem Kp   {lo hi:Option Int}{n:Nat}  (hs:s.heap.IsSliceOf e d c .none) (pl:IsPart d lo) (g:IsPart c hi)
 (h:Q (((sIx n 0 lo:Nat):Int),1,sIx n n hi-sIx n 0 lo) s):wpAny (model prog w) A (Builtin.Slice.sliceApplied (.ref e) (pure (n:Int))) Q E s:=by
 obtain⟨i,a,f,b⟩:=id hs
 refine wpAny_bind (wpAny_bind (wpAny_field a b (x:=d) rfl (wpAny_bind (wpAny_field a b (x:=c) rfl (wpAny_bind (wpAny_field a b  rfl (wpAny_pure ?_)))))))
 refine wpAny_bind (slicePart_none ?_)
 refine wpAny_bind (Ox pl (wpAny_bind (Ox g (wpAny_bind (wpAny_pure ?_)))))
 show wpAny _ _ (match Builtin.Slice.sliceAdjust _ _ 1 _ with | (lo,hi)=>pure (lo,(1:Int),Builtin.Slice.slicePlaces lo hi 1)) _ _ s
 rw[Ar4 _ _ n]
 show wpAny _ _ (pure _) _ _ s
 rw[Ar7];exact wpAny_pure h
theorem A5n (xs:Array Value)(i k:Nat):((List.range k).filterMap fun (m:Nat)=>xs[((i:Int)+(m:Int)*1).toNat]?).toArray=((xs.toList.drop i).take k).toArray:=by
 have e:(fun (m:Nat)=>xs[((i:Int)+m*1).toNat]?)=fun m=>xs[i+m]?:=by
  funext m
  have:((i:Int)+m*1).toNat=i+m:=by omega
  rw[this]
 rw[e];have:=pick_run xs i k;rw[List.filterMap_map]at this
 have a:((fun x=>xs[x]?) ∘ fun x=>i+x)=fun m=>xs[i+m]?:=rfl
 rw[a]at this;rw[this]
theorem Q4    {lo hi:Option Int}  (ht:IsTup s.heap t items) (hs:s.heap.IsSliceOf sl vl vu .none) (pl:IsPart vl lo) (pu:IsPart vu hi)
 (hw:¬ (sIx items.size 0 lo=0/\sIx items.size items.size hi=items.size))
 (h:Q (.ref s.heap.objs.size) { s with heap:=s.heap.push { cls:=.type "tuple",data:=.seq ((items.toList.drop (sIx items.size 0 lo)).take (sIx items.size items.size hi-sIx items.size 0 lo)).toArray } })
 (hsz:items.size<=sizeLine):wpAny (model prog w) A (getItem (.ref t) (.ref sl)) Q E s:=by
 have htake:sizeOk (.seq ((items.toList.drop (sIx items.size 0 lo)).take (sIx items.size items.size hi-sIx items.size 0 lo)).toArray):=by
  show ((items.toList.drop (sIx items.size 0 lo)).take (sIx items.size items.size hi-sIx items.size 0 lo)).toArray.size<=sizeLine
  rw[List.size_toArray,List.length_take,List.length_drop,Array.length_toList];omega
 have hj:sIx items.size items.size hi<=items.size:=Bm3 _ _ (Nat.le_refl _) hi;obtain⟨os,hos,hcs,hds⟩:=id hs;have hTs:s.TypeIs (.ref sl) "slice" := ⟨os,hos,hcs⟩;unfold getItem
 try with_reducible refine wpAny_holding ?_
 first | refine wpAny_bind (wpAny_pure ?_) | skip
 refine wpAny_bind (wpAny_sequenceKey ht.typeIs (by decide) ?_)
 refine wpAny_bind (wpAny_callSpecial?_slot (name:="__getitem__") ht.typeIs PyProof.Rows.slot_tuple_getitem
  (wpAny_call_entry PyProof.Rows.slot_tuple_getitem ht.typeIs entry_tuple_getitem ?_ (args_tuple_getitem _ _)))
 show wpAny _ _ (Builtin.Tuple.tupleItemsOf (.ref t) >>= _) _ _ s
 refine wpAny_bind (tupleItemsOf_ ht ?_)
 refine wpAny_bind (wpAny_typeOf hTs ?_)
 rw[if_pos (by decide)]
 refine wpAny_bind (Kp hs pl pu ?_)
 have hno:¬ ((((sIx items.size 0 lo:Nat):Int)==0&&(1:Int)==1&&(sIx items.size items.size hi-sIx items.size 0 lo)==items.size)=true):=by
  intro q;rw[Bool.and_eq_true,Bool.and_eq_true]at q;have q1:((sIx items.size 0 lo:Nat):Int)=0:=eq_of_beq q.1.1;have q2:sIx items.size items.size hi-sIx items.size 0 lo=items.size:=eq_of_beq q.2
  exact hw ⟨by omega,by omega⟩
 show wpAny _ _ (if (((sIx items.size 0 lo:Nat):Int)==0&&(1:Int)==1&&(sIx items.size items.size hi-sIx items.size 0 lo)==items.size)=true then _ else _) _ _ s
 rw[if_neg hno,A5n]
 first
  | exact wpAny_bind (m:=Builtin.Tuple.tupleExact _) (wpAny_newObj_type (wpAny_pure ⟨_,rfl,wpAny_pure h⟩) htake)
  | exact wpAny_bind (m:=Builtin.Tuple.tupleExact _) (wpAny_newObj_type (wpAny_bind (wpAny_pure (wpAny_pure ⟨_,rfl,wpAny_pure h⟩))) htake)
  | exact wpAny_bind (wpAny_bind (m:=Builtin.Tuple.tupleExact _) (wpAny_newObj_type (wpAny_pure (wpAny_pure ⟨_,rfl,wpAny_pure h⟩)) htake))
  | exact wpAny_bind (wpAny_bind (m:=Builtin.Tuple.tupleExact _) (wpAny_newObj_type (wpAny_pure ⟨_,rfl,wpAny_pure h⟩) htake))
end
end HT
namespace L2
open PySem PySem.Spec PyProof.Rows
abbrev TO:=St->Hp->(Option Int->Hp->Prop)->Prop
def PO (X:Cx)(e:Option Expr)(t:TO):Prop :=
 ∀
  (pins:List (Addr×Obj)) (s:Shared) (σ:St) (H:Hp) (Q:Option Int->Hp->Prop),Inv X pins σ H s->t σ H Q ->
  wpAny (model X.prog X.w) X.A (evalPart e X.env) (fun u s'=>∃o H',Inv X pins σ H' s'/\IsPart u o/\Q o H') X.xe s
def Aa5:TO:=fun _ H Q=>Q none H
def A7x (t:TE):TO:=fun σ H Q=>t σ H fun x H1=>∃i,x=.int i/\Q (some i) H1
section
variable {X:Cx}{e:Expr}{te:TE}{lo hi:Option Expr}{tl th:TO}{pos p2:Pos}
theorem Be3:PO X none Aa5:=by
 intro a s b H Q I h;exact wpAny_pure ⟨none,H,I,.none,h⟩
theorem A9x (h:PE X e te):PO X (some e) (A7x te):=by
 intro a s σ H Q I d
 refine thn (h _ s _ H _ I d) fun u s1 ⟨x,f,b,c,g⟩=>?_
 obtain⟨i,rfl,q⟩:=g;obtain⟨t,rfl⟩:=c;exact⟨some i,f,b,.int i t,q⟩
def SlR (X:Cx)(r:V->Option Int->Option Int->Hp->VK->Prop):Prop :=
 ∀
  (pins:List (Addr×Obj)) (s:Shared) (σ:St) (H:Hp) (x:V) (v vl vu:Value) (lo hi:Option Int) (sl:Addr) (Q:VK),Inv X pins σ H s->RelV x v->s.heap.IsSliceOf sl vl vu .none->IsPart vl lo->IsPart vu hi->r x lo hi H Q ->
  ∃T id,typeLookup (.type T) "__getitem__" = pure (some (.builtin id))/\s.TypeIs v T/\wpAny (model X.prog X.w) X.A (getItem v (.ref sl)) (EP X pins σ Q) X.xe s
theorem SlR.or  (h:SlR X r) (h':SlR X b):SlR X (fun x lo hi H Q=>r x lo hi H Q\/b x lo hi H Q):=by
 intro d s g H x v i j lo hi k Q I e c f a q
 rcases q with q | q
 ·exact h _ s _ H x v _ _ _ _ _ Q I e c f a q
 ·exact h' _ s _ H x v _ _ _ _ _ Q I e c f a q
def tSl (r:V->Option Int->Option Int->Hp->VK->Prop)(te:TE)(tl th:TO):TE:=fun σ H Q=>te σ H fun x H1=>tl σ H1 fun l H2=>th σ H2 fun u H3=>r x l u H3 Q
theorem A4t  (hr:SlR X r) (he:PE X e te) (hl:PO X lo tl) (hu:PO X hi th):PE X (.Subscript e (.Slice lo hi none p2) pos) (tSl r te tl th):=by
 intro c s E H Q I h
 refine Subscript_ (thn (he _ s _ H _ I h) fun v B ⟨x,D,i,j,k⟩=>?_)
 refine wpAny_Slice (thn (hl _ _ _ _ _ i k) fun m C ⟨l,K,n,o,f⟩=>thn (hu _ _ _ _ _ n f) fun g a ⟨u,J,t,w,p⟩=>?_)
 refine wpAny_pure ?_
 have z:Inv X _ _ _ { a with heap:=a.heap.push { cls:=.type "slice",data:=.fields #[m,g,.none] } }:=t.kept  fun b F q=>Heap.get?_push_of_some _ q
 obtain⟨T,G,y,A,d⟩:=hr _ _ _ _ x v _ _ l u _ Q z j (Heap.IsSliceOf.new ..) o w p
 exact tail_any  A y d (by trivial)
def A0v (xs:List V)(lo hi:Option Int):List V:=(xs.drop (HT.sIx xs.length 0 lo)).take (HT.sIx xs.length xs.length hi-HT.sIx xs.length 0 lo)
theorem Tv (xs:List V)(lo hi:Option Int):(A0v xs lo hi).length<=xs.length:=by
 unfold A0v;rw[List.length_take,List.length_drop];omega
def B1i (K:PySem.W.Frag):V->Option Int->Option Int->Hp->VK->Prop:=fun x lo hi H Q=>∃a xs,x=.ref a/\SqT K H a xs /\
 ¬ (HT.sIx xs.length 0 lo=0/\HT.sIx xs.length xs.length hi=xs.length)/\∀p,H p=none->Q (.ref p) (upd H p (.tup (A0v xs lo hi)))
theorem Bt1:SlR X (B1i X.K):=by
 intro e s σ H x v vl vu lo hi sl Q I j k g l h;obtain⟨a,i,rfl,m,hw,q⟩:=h
 cases j
 obtain⟨d,r,f,n⟩:=I.tuple m
 have c:d.toArray.size=i.length:=by exact r.length.symm
 refine⟨"tuple",_,PyProof.Rows.slot_tuple_getitem.lookup,f.typeIs,?_⟩
 refine HT.Q4 f k g l (by grind) ?_ (by simp_all)
 rw[c]
 refine⟨.ref _,_,I.laid   (fun b ob q=>Heap.get?_push_of_some _ q) (Nat.le_refl _) ?_,rfl,q _ (I.hok.fresh (Nat.le_refl _))⟩
 exact⟨Nat.le_trans (Tv _ _ _) n,_,(r.drop _).take _,zL.new _ _⟩
def B0e (K:PySem.W.Frag):R2:=fun x y H Q=>∃a b xs ys,x=.ref a/\y=.ref b/\SqT K H a xs/\SqT K H b ys/\xs≠[]/\xs.length+ys.length<=sizeLine /\
 (ys=[]->Q (.ref a) H)/\(ys≠[]->∀p,H p=none->Q (.ref p) (upd H p (.tup (xs++ys))))
theorem Vals.nil_iff   (r:Vals xs us):us=[]↔xs=[]:=by
 cases r with
 | nil=>simp
 | cons _ _=>simp
theorem Bg6:OpR X (binaryOp .Add) (B0e X.K):=by
 intro e s σ H x y v u Q I o p h;obtain⟨a,b,xs,ys,rfl,rfl,k,l,g,hz,m,j⟩:=h
 cases o
 cases p
 obtain⟨i,d,n,_⟩:=I.tuple k;obtain⟨f,c,r,_⟩:=I.tuple l
 refine HT.Be8 n r (fun z=>g (d.nil_iff.mp z)) (fun z=>⟨.ref a,H,I,rfl,m (c.nil_iff.mp z)⟩) (fun z=>?_) (by rw[<- d.length,<- c.length];grind)
 refine⟨.ref _,_,I.laid   (fun b ob q=>Heap.get?_push_of_some _ q) (Nat.le_refl _) ?_,rfl,j (fun w=>z (c.nil_iff.mpr w)) _ (I.hok.fresh (Nat.le_refl _))⟩
 exact⟨by simp_all,_,d.append c,zL.new _ _⟩
end
def ixN (n:Nat)(i:Int):Option Nat:=if 0<=i then (if i<n then some i.toNat else none) else if -(n:Int)<=i then some (i+n).toNat else none
def atI {α:Type}(xs:List α)(i:Int):Option α:=(ixN xs.length i).bind fun j=>xs[j]?
theorem Zz    (h:ixN n i=some j):seqIndex? i n=some j/\j<n/\-(n:Int)<=i/\i<n:=by
 unfold ixN at h
 by_cases h0:0<=i
 ·rw[if_pos h0]at h
  by_cases h1:i<n
  ·rw[if_pos h1]at h
   have e  := Option.some.inj h
   exact⟨by rw[seqIndex_of h0 h1,e],by omega,by omega,h1⟩
  simp_all
 ·rw[if_neg h0]at h
  by_cases h1:-n<=i
  ·rw[if_pos h1]at h
   have e  := Option.some.inj h
   exact⟨by rw[seqIndex_neg (by omega) h1,e],by omega,h1,by omega⟩
  simp_all
theorem Zt  {xs:List a}  {v:a}(h:atI xs i=some v):∃j,seqIndex? i xs.length=some j/\xs[j]?=some v/\j<xs.length/\-(xs.length:Int)<=i/\i<xs.length:=by
 unfold atI at h
 cases e:ixN xs.length i with
 | none=>simp_all
 | some j =>
  obtain⟨c,d,f,b⟩:=Zz e
  grind
theorem J1  {xs:List a}{j:Nat}{v:a}(h:xs[j]?=some v):atI xs (j:Int)=some v:=by
 have b  := (List.getElem?_eq_some_iff.mp h).1
 have e:ixN xs.length j=some j:=by
  unfold ixN
  simp_all
 unfold atI;grind
def N8 (b:Expr):Prop:=∀o i,subscripted b false o i=operate [o,i] (getItem o i)
def IxR (X:Cx)(r:R2):Prop :=
 ∀
  (value slice:Expr) (pins:List (Addr×Obj)) (s:Shared) (σ:St) (H:Hp) (x y:V) (v u:Value) (Q:VK),Inv X pins σ H s->RelV x v->RelV y u->r x y H Q ->
  subscripted slice false v u=operate [v,u] (getItem v u)->wpAny (model X.prog X.w) X.A (subscriptTail value slice v u) (EP X pins σ Q) X.xe s
def MtR (X:Cx)(id:String)(r:V->List V->Hp->VK->Prop):Prop :=
 ∀
  (pins:List (Addr×Obj)) (s:Shared) (σ:St) (H:Hp) (x:V) (xs:List V) (v:Value) (us:List Value) (Q:VK),Inv X pins σ H s->RelV x v->Vals xs us->r x xs H Q ->
  wpAny (model X.prog X.w) X.A (call (.builtin id) (v::us)) (EP X pins σ Q) X.xe s
section
variable {X:Cx}{a b:Expr}{ta tb:TE}{pos:Pos}
theorem IxR.or  (h:IxR X r) (h':IxR X d):IxR X (fun x y H Q=>r x y H Q\/d x y H Q):=by
 intro b a e s i H x y v u Q I f g q c
 rcases q with q | q
 ·exact h _ _ _ s _ H x y v u Q I f g q c
 ·exact h' _ _ _ s _ H x y v u Q I f g q c
theorem B0t  (hr:IxR X r) (ha:PE X a ta) (hb:PE X b tb) (hs:N8 b):PE X (.Subscript a b pos) (tOp r ta tb):=by
 intro c s g H Q I h
 exact Subscript_ (Bu4 ha hb I h fun v u i x y j f e d q=>hr a b _ _ _ _ x y v u Q f e d q (hs _ _))
def Bm6 (K:PySem.W.Frag):R2:=fun x y H Q=>∃p xs i v,x=.ref p/\y=.int i/\SqL K H p xs/\atI xs i=some v/\Q v H
def Bo4 (K:PySem.W.Frag):R2:=fun x y H Q=>∃p xs i v,x=.ref p/\y=.int i/\SqT K H p xs/\atI xs i=some v/\Q v H
def B1x:R2:=fun x y H Q=>∃z i c,x=.str z/\y=.int i/\z.length<=sizeLine/\atI z.cps.toList i=some c/\Q (.str ⟨#[c]⟩) H
theorem ix_list:IxR X (Bm6 X.K):=by
 intro g f a s m H x y v u Q I C F h l;obtain⟨p,xs,i,z,rfl,rfl,E,n,q⟩:=h
 cases C
 obtain⟨t,rfl⟩:=F;obtain⟨e,r,c,hz⟩:=I.list E;obtain⟨j,k,D,h3,o,B⟩:=Zt n;obtain⟨w,ew,d⟩:=r.get D;have hl:=r.length;have hn:=We;have b:EP X a m Q w s:=⟨z,H,I,d,q⟩
 by_cases h0:0<=i
 ·have A:i.toNat=j:=by
   rw[seqIndex_of h0 B]at k
   simp_all
  exact item_listR c.isList h0 (by omega) (by grind) b l
 ·have A:(i+e.toArray.size).toNat=j:=by
   rw[seqIndex_neg (by omega) o]at k
   simp_all
  exact subscriptTail_builtinR  c.isList.typeIs slot_list_getitem.lookup
   (wpAny_getItem_list_neg  c.isList (by omega) (by simp_all) (by omega) (by grind) ⟨rfl,b⟩) l
theorem ix_tup:IxR X (Bo4 X.K):=by
 intro b c e s σ H x y v u Q I A g h o;obtain⟨p,xs,i,z,rfl,rfl,m,n,q⟩:=h
 cases A
 obtain⟨t,rfl⟩:=g;obtain⟨k,r,f,hz⟩:=I.tuple m;obtain⟨j,h1,l,h3,h4,h5⟩:=Zt n;obtain⟨w,ew,d⟩:=r.get l;have hl:=r.length;have hn:=We;have a:EP X _ _ Q w s:=⟨z,H,I,d,q⟩
 exact subscriptTail_builtinR  f.typeIs slot_tuple_getitem.lookup
  (getItem_tuple (j:=j)  f (by omega) (by omega) (by simp_all) (by grind) ⟨rfl,a⟩) o
theorem Bx7:IxR X B1x:=by
 intro a b d s σ H x y v u Q I f m h g;obtain⟨z,i,c,rfl,rfl,hz,l,q⟩:=h;obtain⟨t,rfl⟩:=f;obtain⟨t',rfl⟩:=m;obtain⟨j,e,k,h3,o,n⟩:=Zt l
 have p:z.cps.toList.length=z.length:=by simp[Str.length]
 rw[p]at e o n;have hn:=We
 exact tail_any (typeIs_str s z t) slot_str_getitem.lookup (getItem_str  (by
  grind) (by rw[e];simpa using k) ⟨.str _,H,I.tok _,⟨_,rfl⟩,q⟩) g
def rIx (K:PySem.W.Frag):R2:=fun x y H Q=>Bm6 K x y H Q\/Bo4 K x y H Q\/B1x x y H Q
theorem Bt9:IxR X (rIx X.K):=ix_list.or (ix_tup.or Bx7)
theorem An1 (a:List Value)(n j:Nat)(u:Value):Obj.mapSeq (·.setIfInBounds j u) { cls:=.type "list",data:=.seq a.toArray n }={ cls:=.type "list",data:=.seq (a.set j u).toArray n }:=by
 simp[Obj.mapSeq]
theorem Inv.lst  {b:St}     (I:Inv X pins b H s) (h:H p=some (.lst xs)) :
 ∃(a:List Value) (n:Nat),Vals xs a/\s.heap.get? p=some { cls:=.type "list",data:=.seq a.toArray n }/\xs.length<=sizeLine:=by
 obtain⟨z,a,n,r,e⟩:=I.hok p _ h
 grind
theorem Inv.lstUpd       {a its':List Value}   (I:Inv X pins c H s) (h:H p=some (.lst xs))
 (ho:s.heap.get? p=some { cls:=.type "list",data:=.seq a.toArray n }) (hf:f { cls:=.type "list",data:=.seq a.toArray n }={ cls:=.type "list",data:=.seq its'.toArray n' }) (r:Vals ys its') (hz:ys.length<=sizeLine) (t:Nat) :
 Inv X pins c (upd H p (.lst ys)) { s with heap:=s.heap.update p f,toks:=t }:=by
 have e:(s.heap.update p f).get? p=some { cls:=.type "list",data:=.seq its'.toArray n' }:=by
  rw[Heap.get?_update_self f ho (by rw[hf] <;> rfl),hf]
 refine I.write   (by rw[h];trivial) (.inl rfl) (fun b u d q=>(Heap.get?_update_other _ _ (Ne.symm d)).trans q) ⟨_,e⟩ ?_
 exact⟨hz,its',n',r,e⟩
def Bi5:V->V->V->Hp->(Hp->Prop)->Prop:=fun o i v H Q=>∃p xs k j,o=.ref p/\i=.int k/\H p=some (.lst xs)/\ixN xs.length k=some j/\Q (upd H p (.lst (xs.set j v)))
theorem set_list:Bs7 X Bi5:=by
 intro a s w H o i v ov iv u Q I y m g h;obtain⟨p,l,k,j,rfl,rfl,d,x,q⟩:=h
 cases y
 obtain⟨t,rfl⟩:=m;obtain⟨b,n,r,c,hz⟩:=I.lst d;obtain⟨e,h2,z,A⟩:=Zz x;have hl:=r.length;have hn:=We
 have I':Inv X a w (upd H p (.lst (l.set j v))) { s with heap:=s.heap.update p (Obj.mapSeq (·.setIfInBounds j u)) } :=
  I.lstUpd d c (An1 _ n j u) (r.set g j) (by grind) _
 by_cases h0:0<=k
 ·have f:k.toNat=j:=by
   rw[seqIndex_of h0 A]at e
   grind
  exact PySem.W.ki_setAt c h0 (by omega) (by grind) (by grind)
 ·have f:(k+b.toArray.size).toNat=j:=by
   rw[seqIndex_neg (by omega) z]at e
   simp_all
  exact PySem.W.ki_setBack c (by omega) (by simp_all) (by omega) (by grind)
theorem Z6 (lo hi:Option Int)(n:Nat):(sliceBounds lo hi none n).1=((HT.sIx n 0 lo:Nat):Int)/\(sliceBounds lo hi none n).2.1=((HT.sIx n n hi:Nat):Int)/\(sliceBounds lo hi none n).2.2=1:=by
 refine⟨?_,?_,rfl⟩
 ·cases lo with
  | none=>simp[sliceBounds,HT.sIx]
  | some i =>
   simp only[sliceBounds,HT.sIx,Option.getD_none,show (1:Int)>0 by decide,if_true]
   by_cases h:i<0
   ·simp only[h,if_true] <;> omega
   ·simp only[h,if_false] <;> omega
 ·cases hi with
  | none=>simp[sliceBounds,HT.sIx]
  | some i =>
   simp only[sliceBounds,HT.sIx,Option.getD_none,show (1:Int)>0 by decide,if_true]
   by_cases h:i<0
   ·simp only[h,if_true] <;> omega
   ·simp only[h,if_false] <;> omega
theorem Wx (a:List Value)(lo hi:Option Int):slicePick a.toArray lo hi none=((a.drop (HT.sIx a.length 0 lo)).take (HT.sIx a.length a.length hi-HT.sIx a.length 0 lo)).toArray:=by
 obtain⟨c,d,b⟩:=Z6 _ _ _;unfold slicePick;rw[c,d,b]
 simp only[sliceRange_one,pick_run] <;> rfl
def B0n (K:PySem.W.Frag):V->Option Int->Option Int->Hp->VK->Prop:=fun x lo hi H Q=>∃a xs,x=.ref a/\SqL K H a xs/\∀p,H p=none->Q (.ref p) (upd H p (.lst (A0v xs lo hi)))
theorem A9o:SlR X (B0n X.K):=by
 intro e s σ H x v vl vu lo hi sl Q I i j f k h;obtain⟨a,xs,rfl,g,q⟩:=h
 cases i
 obtain⟨l,r,d,m⟩:=I.list g;have c:=r.length
 refine⟨"list",_,slot_list_getitem.lookup,d.isList.typeIs,?_⟩
 refine wpAny_getItem_list_slice d.isList j f k .none (by simp) ?_ (by simp_all)
 rw[Wx,<- c]
 refine⟨.ref _,_,I.laid   (fun b ob q=>Heap.get?_push_of_some _ q) (Nat.le_refl _) ?_,rfl,q _ (I.hok.fresh (Nat.le_refl _))⟩
 exact⟨Nat.le_trans (Tv _ _ _) m,_,0,(r.drop _).take _,Heap.get?_push_size _ rfl⟩
theorem zB.or  {r b:List V->Hp->VK->Prop}(h:zB X f r) (h':zB X f b):zB X f (fun xs H Q=>r xs H Q\/b xs H Q):=by
 intro c s d H xs e Q I a q
 rcases q with q | q
 ·exact h _ s _ H _ _ Q I a q
 ·exact h' _ s _ H _ _ Q I a q
theorem Aa3:zB X (.type "list") (fun xs H Q=>∃p k,xs=[.ref p]/\(SqL X.K H p k\/SqT X.K H p k)/\∀l,H l=none->Q (.ref l) (upd H l (.lst k))):=by
 intro z s σ H xs us Q I r h;obtain⟨p,k,rfl,f,q⟩:=h;obtain⟨u,rfl,A⟩:=vals1 r
 cases A
 have g:∀(a:List _),Vals _ _->k.length<=sizeLine->∀(d:Heap) (t:Nat),(∀b o',s.heap.get? b=some _->d.get? b=some _) ->
  d.get? _=some _->EP X _ _ Q _ { s with heap:=d }:=fun a c j d t i e =>
  ⟨.ref _,_,I.laid  i (Nat.le_refl _) (show z9 _ _ _ _ _ (.lst _) from ⟨j,a,t,c,e⟩),rfl,q _ (I.hok.fresh (Nat.le_refl _))⟩
 rcases f with f | f
 ·obtain⟨a,c,y,j⟩:=I.list f
  have m:=c.length;obtain⟨o,w,x,n,v⟩:=y.isList
  exact call_list_seq p (.inl rfl) w x v (fun d t i e=>g _ c j _ _ i e) (by simp_all)
 ·obtain⟨a,c,y,j⟩:=I.tuple f
  have m:=c.length;obtain⟨o,w,x,n,v⟩:=y
  exact call_list_seq p (.inr rfl) w x v (fun d t i e=>g _ c j _ _ i e) (by simp_all)
theorem Wk:zB X (.type "tuple") (fun xs H Q=>∃p c,xs=[.ref p]/\((SqL X.K H p c/\∀l,H l=none->Q (.ref l) (upd H l (.tup c)))\/(SqT X.K H p c/\Q (.ref p) H))):=by
 intro i s σ H xs us Q I r h;obtain⟨p,c,rfl,h⟩:=h;obtain⟨u,rfl,w⟩:=vals1 r
 cases w
 rcases h with ⟨d,q⟩ | ⟨d,q⟩
 ·obtain⟨a,g,f,m⟩:=I.list d
  have k:=g.length
  refine call_tuple_list f.isList (fun j v=>?_) (by simp_all)
  have n:Inv X _ _ H { s with heap:=j }:=I.kept  v
  have t:Inv X _ _ (upd H _ (.tup _)) { s with heap:=j.push _ } :=
   n.laid  (fun b o e=>Heap.get?_push_of_some _ e) (Nat.le_refl _) (show z9 _ _ _ _ _ _ from ⟨m,a,g,zL.new _ _⟩)
  exact⟨.ref _,_,t,rfl,q _ (n.hok.fresh (Nat.le_refl _))⟩
 ·obtain⟨a,g,f,m⟩:=I.tuple d
  exact call_tuple_same f ⟨.ref p,H,I,rfl,q⟩
def tyV (K:PySem.W.Frag)(T:String)(x:V)(H:Hp):Prop:=match x with
 | .str _=>T = "str"
 | .int _=>T = "int"
 | .ref p=>(T = "list" /\ ∃xs,SqL K H p xs)\/(T = "tuple" /\ ∃o,K.lookup p=some o/\o.cls=.type "tuple" /\ o.dict=none) \/
  (T = "dict" /\ ((∃kvs,H p=some (.dK kvs))\/∃kvs,H p=some (.dT kvs)))\/(T = "set" /\ ∃S n,H p=some (.set S n))\/(T = "tuple" /\ ∃xs,H p=some (.tup xs))
 | _=>False
theorem Al1        (I:Inv X pins l H s) (r:RelV x v) (ty:tyV X.K T x H) :
 s.TypeIs v T/\∀a,v=.ref a->∃ob,s.heap.get? a=some ob/\ob.dict=none:=by
 cases x with
 | str z =>
  obtain⟨t,rfl⟩:=r
  cases (ty)
  exact⟨typeIs_str s z t,fun _ e=>nomatch e⟩
 | int i =>
  obtain⟨t,rfl⟩:=r
  cases (ty)
  exact⟨typeIs_int s i t,fun _ e=>nomatch e⟩
 | ref p =>
  cases r
  rcases ty with ⟨rfl,m,u⟩ | ⟨rfl,o,b,q,k⟩ | ⟨rfl,b⟩ | ⟨rfl,S,n,b⟩ | ⟨rfl,m,b⟩
  ·obtain⟨h,_,j,_⟩:=I.list u
   refine⟨j.isList.typeIs,fun a e=>?_⟩
   obtain⟨o,n,e,c,k,_⟩:=j
   grind
  ·refine⟨⟨o,I.kIn p o b,q⟩,fun a e=>?_⟩
   cases e
   exact⟨o,I.kIn _ o b,k⟩
  ·have z:∃o,s.heap.get? p=some o/\o.ExactDict:=by
    rcases b with ⟨g,b⟩ | ⟨g,b⟩
    ·obtain⟨_,_,_,_,o,_,_,e,d,_⟩:=I.hok p _ b
     grind
    ·obtain⟨_,_,_,_,o,_,_,e,d,_⟩:=I.hok p _ b
     grind
   obtain⟨o,e,d⟩:=z
   refine⟨⟨o,e,d.1⟩,fun a f=>?_⟩
   cases f
   exact⟨o,e,d.2.1⟩
  ·obtain⟨o,_,_,_,e,d,_⟩:=I.hok p _ b
   refine⟨⟨o,e,d.1⟩,fun a f=>?_⟩
   cases f
   exact⟨o,e,d.2.1⟩
  ·obtain⟨_,h,_,o,e,c,_,dn⟩:=I.hok p _ b
   refine⟨⟨o,e,c⟩,fun a f=>?_⟩
   grind
 | _=>exact False.elim ty
def tBM (K:PySem.W.Frag)(T:String)(r:V->List V->Hp->VK->Prop)(to:TE)(t:TA):TE:=fun σ H Q=>to σ H fun x H1=>tyV K T x H1/\t σ H1 fun xs H2=>r x xs H2 Q
variable {o e:Expr}{es:List Expr}{to:TE}{t:TA}{name:Str}{apos cpos:Pos}{T id:String}{r:V->List V->Hp->VK->Prop}
theorem Bj3 (pa:PlainAttrs T)(slot:Slot T name id)(hty:typeOf (.builtin id)=pure (.type "method_descriptor")) (hm:MtR X id r) (ho:PE X o to) (ha:PA X (e::es) t)
 (hbase:attributeBase o name X.env (eval o X.env)=eval o X.env:=by rfl)
 (hfew:((backTo cpos (starEach (e::es) X.env)).all (fun x=>!x.1)&&(backToKw cpos (keywordEach [] X.env)).all (fun x=>x.1.isSome)
  && decide ((e::es).length+([]:List Keyword).length+(if ([]:List Keyword).isEmpty then 0 else 1)<30))=true:=by rfl)
 (hline:(apos.endLine==cpos.line)=true:=by rfl) (hs:starEach (e::es) X.env=(false,eval e X.env)::starEach es X.env:=by rfl) (hplain:(backTo cpos (starEach es X.env)).any (·.1)=false:=by rfl) :
 PE X (.Call (.Attribute o name apos) (e::es) [] cpos) (tBM X.K T r to t):=by
 intro b s p H Q I h
 refine wpAny_Call_method_late hbase hfew hline rfl (thn (ho _ s _ H _ I h) fun v z ⟨x,y,c,a,j,k⟩=>?_)
 obtain⟨g,m⟩:=Al1 c a j
 refine⟨T,id,pa,slot,hty,g,m,?_⟩
 have d:=ha cpos _ _ _ _ _ c k;rw[hs]at d ⊢
 refine Calls.callWith_builtin (by grind) (Calls.evalArgs_plain ?_)
 exact thn d fun i q ⟨u,w,l,n,f⟩=>hm _ _ _ _ x _ v i Q l a n f
end
def MtM (X:Cx)(id:String)(r:V->List V->Hp->VK->Prop):Prop :=
 ∀
  (pins:List (Addr×Obj)) (s:Shared) (σ:St) (H:Hp) (x:V) (xs:List V) (v:Value) (us:List Value) (Q:VK),Inv X pins σ H s->RelV x v->Vals xs us->r x xs H Q ->
  wpAny (model X.prog X.w) X.A (call (.builtin id) (v::us)) (EP X pins σ Q) X.xe s
theorem Vals.one:∀{x:V}{us:List Value},Vals [x] us->∃u,us=[u]/\RelV x u
 | _,_,h=>by
  cases h with
  | cons r t=>cases t;exact⟨_,rfl,r⟩
theorem Vals.two:∀{x y:V}{us:List Value},Vals [x,y] us->∃u v,us=[u,v]/\RelV x u/\RelV y v
 | _,_,_,h=>by
  cases h with
  | cons r t =>
   cases t with
   | cons q t=>cases t;exact⟨_,_,rfl,r,q⟩
theorem Vals.eraseIdx:∀{xs:List V}{us:List Value}(i:Nat),Vals xs us->Vals (xs.eraseIdx i) (us.eraseIdx i)
 | _,_,_,.nil=>.nil
 | _,_,0,.cons _ t=>t
 | _,_,i+1,.cons r t=>.cons r (Vals.eraseIdx i t)
theorem Vals.reverse {xs:List V}{us:List Value}(h:Vals xs us):Vals xs.reverse us.reverse:=by
 induction h with
 | nil=>exact .nil
 | cons r t a=>rw[List.reverse_cons,List.reverse_cons];exact Vals.append a (.cons r .nil)
theorem A2j {α:Type}:∀(l:List α) (i:Nat),(l.eraseIdx i).length<=l.length
 | [],_=>Nat.le_refl _
 | _::_,0=>Nat.le_succ _
 | _::r,i+1=>Nat.succ_le_succ (A2j r i)
section
variable {X:Cx}{pins:List (Addr×Obj)}{σ:St}{H:Hp}{s:Shared}{l b:Addr}{xs ys zs:List V}
theorem Inv.lset {a its':List Value}    (I:Inv X pins σ H s) (c:H l=some (.lst xs))
 (e:s.heap.get? l=some { cls:=.type "list",data:=.seq a.toArray n }) (hf:f a.toArray=its'.toArray) (hv:Vals ys its') (hz:ys.length<=sizeLine) :
 Inv X pins σ (upd H l (.lst ys)) { s with heap:=s.heap.update l (Obj.mapSeq f),toks:=t' }:=by
 have q:=PySem.IsL.update e f;rw[hf]at q
 refine I.write   (by rw[c];trivial) (.inl rfl) (fun g u d b=>(Heap.get?_update_other _ _ (Ne.symm d)).trans b) ⟨_,q⟩ ?_
 exact⟨hz,its',_,hv,q⟩
theorem Inv.lnew   (I:Inv X pins σ H s) (hv:Vals ys a) (hz:ys.length<=sizeLine) :
 Inv X pins σ (upd H s.heap.objs.size (.lst ys)) { s with heap:=s.heap.push { cls:=.type "list",data:=.seq a.toArray },toks:=t' } :=
 I.laid (fun _ _ q=>Heap.get?_push_of_some _ q) (Nat.le_refl _) ⟨hz,a,0,hv,Heap.get?_push_size _ rfl⟩
theorem Inv.fresh (I:Inv X pins σ H s):H s.heap.objs.size=none:=I.hok.fresh (Nat.le_refl _)
theorem Inv.lstM (I:Inv X pins σ H s)(b:H l=some (.lst xs)):xs.length<=sizeLine/\∃(a:List Value) (n:Nat),Vals xs a/\xs.length=a.length/\s.heap.get? l=some { cls:=.type "list",data:=.seq a.toArray n }:=by
 obtain⟨z,a,n,r,e⟩:=I.hok l _ b;exact⟨z,a,n,r,r.length,e⟩
end
section
variable {X:Cx}
def rAppend:V->List V->Hp->VK->Prop:=fun x vs H Q=>∃l xs y,x=.ref l/\vs=[y]/\H l=some (.lst xs)/\xs.length<sizeLine/\Q .non (upd H l (.lst (xs++[y])))
theorem A1g:MtM X "list.append" rAppend:=by
 intro a s σ H x vs v us Q I c f h;obtain⟨l,xs,y,rfl,rfl,b,hz,q⟩:=h
 cases c
 obtain⟨u,rfl,d⟩:=f.one;obtain⟨z,g,n,r,hl,e⟩:=I.lstM b
 refine call_meets F.slot_list_append ⟨_,e,rfl⟩ F.entry_list_append (F.args_list_append_2 _ _) (PySem.list_append l _ n u (by simp_all)) ⟨e,?_⟩
 refine⟨.non,_,I.lset  b e (by simp) (r.append (.cons d .nil)) ?_,rfl,q⟩
 grind
def rPopAt:V->List V->Hp->VK->Prop:=fun x vs H Q=>∃l xs i k y,x=.ref l/\vs=[.int i]/\H l=some (.lst xs)/\-(2 ^ 63)<=i/\i<2 ^ 63/\seqIndex? i xs.length=some k/\xs[k]?=some y/\Q y (upd H l (.lst (xs.eraseIdx k)))
theorem A7o:MtM X "list.pop" rPopAt:=by
 intro b s σ H x vs v us Q I f g h;obtain⟨l,xs,i,k,y,rfl,rfl,c,d,j,hk,o,q⟩:=h
 cases f
 obtain⟨u,rfl,m⟩:=g.one;obtain⟨t,rfl⟩:=m;obtain⟨z,p,n,r,hl,e⟩:=I.lstM c;obtain⟨w,hw,a⟩:=r.get o
 refine call_meets F.slot_list_pop ⟨_,e,rfl⟩ F.entry_list_pop (F.args_list_pop_2 _ _)
  (MeetsSeq.list_pop_at l _ n i t k w (fitsIndex_both d j) (by simp_all) (by simp_all) (by simp_all)) ⟨e,?_⟩
 refine⟨y,_,I.lset  c e ?_ (r.eraseIdx k) ?_,a,q⟩
 ·simp_all
 grind
def B0d:R2:=fun x y H Q=>∃l b xs zs,x=.ref l/\y=.ref b/\H l=some (.lst xs)/\H b=some (.lst zs)/\xs.length+zs.length<=sizeLine/\∀p,H p=none->Q (.ref p) (upd H p (.lst (xs++zs)))
theorem Bp1:OpR X (binaryOp .Add) B0d:=by
 intro d s σ H x y v u Q I k g h;obtain⟨l,b,xs,zs,rfl,rfl,i,j,hz,q⟩:=h
 cases k
 cases g
 obtain⟨z,c,n,r,hl,e⟩:=I.lstM i;obtain⟨z2,a,n2,o,m,p⟩:=I.lstM j
 refine PySem.P.add_list e p ?_ (by grind)
 have f:c.toArray++a.toArray=(c++a).toArray:=by simp
 rw[f]
 exact⟨.ref _,_,I.lnew  (r.append o) (by simp_all),rfl,q _ I.fresh⟩
end
section
variable {κ:Type}[DecidableEq κ]
def Wy (kvs:List (κ×V))(k:κ):Option V:=(kvs.find? fun kv=>decide (kv.1=k)).map (·.2)
def putK (kvs:List (κ×V))(k:κ)(v:V):List (κ×V) :=
 if (kvs.any fun kv=>decide (kv.1=k))=true then kvs.map (fun kv=>if kv.1=k then (kv.1,v) else kv) else kvs++[(k,v)]
theorem U3 {p:κ×V}   (e:p.1=k):Wy (p::r) k=some p.2:=by simp[Wy,e]
theorem Ve {p:κ×V}   (e:¬ p.1=k):Wy (p::r) k=Wy r k:=by simp[Wy,e]
theorem KV.val   (r:KV a vs) (k:κ):RelO (Wy a k) (valueAt vs k):=by
 induction r with
 | nil=>trivial
 | @cons p q j c h t i =>
  obtain⟨d,g⟩:=h
  by_cases e:p.1=k
  ·have b:valueAt (q::c) k=some q.2:=by simp[valueAt,(d.symm.trans e)]
   rw[U3 e,b];exact g
  ·have f:¬ q.1=k:=fun z=>e (d.trans z)
   have b:valueAt (q::c) k=valueAt c k:=by simp[valueAt,f]
   rw[Ve e];grind
theorem KV.any   (r:KV a vs) (k:κ):(a.any fun b=>decide (b.1=k))=vs.any fun b=>decide (b.1=k):=by
 induction r with
 | nil=>rfl
 | cons h t c=>simp_all
end
theorem B1b     (r:RelV (kV k) u):(Io P w).is k u=true:=by
 cases k with
 | inl i=>obtain⟨t,e⟩:=(r);subst e;exact Nm P w i t
 | inr x=>obtain⟨t,e⟩:=(r);subst e;exact Mq P w x t
theorem B0u {A:Around}(hu:A.units+9<cLine):A.in1.units+8<cLine:=Nat.lt_of_le_of_lt (Nat.le_of_eq (rfl)) hu
abbrev KT (H:Hp):List (PyData×V)->List (PyData×Addr×Value)->Prop:=Paired fun p q=>p.1=q.1/\KAt H p.1 q.2.1/\RelV p.2 q.2.2
theorem KT.val    (r:KT H a xs) (k:PyData):RelO (Wy a k) ((atKey xs k).map (·.2)):=by
 induction r with
 | nil=>trivial
 | @cons p q j c h t i =>
  obtain⟨d,_,g⟩:=h
  by_cases e:p.1=k
  ·have b:atKey (q::c) k=some q.2:=by simp[atKey,(d.symm.trans e)]
   rw[U3 e,b];exact g
  ·have f:¬ q.1=k:=fun z=>e (d.trans z)
   have b:atKey (q::c) k=atKey c k:=by simp[atKey,f]
   rw[Ve e];grind
theorem KT.keeps    (r:KT H a xs) (ht:∀b ys,H b=some (.tup ys)->H' b=some (.tup ys)):KT H' a xs :=
 Paired.mapP r fun _ _ z=>⟨z.1,z.2.1.stay ht,z.2.2⟩
section
variable {P:Program}{w:World}{H:Hp}{h:Heap}{a:Addr}
theorem Fw  (b:HOk P w H h) (e:Rd H a u):z9 P w H h a u:=e.ok b
theorem Bj8  (c:HOk P w H h) (e:Rd H a (.dK b)):b.length<=sizeLine/\(a==sysModules)=false/\∃vs,KV b vs/\h.DictOf (Io P w) a vs :=
 show z9 P w H h a _ from Fw c e
mutual
theorem Xd (ok:HOk P w H h):∀{d:PyData}{v:V}{u:Value},KTr H d v->RelV v u->∃as,Reads h u d as
 | .none,_,u=>fun e r=>by
  cases (show _=V.non from e)
  cases (show u=Value.none from r)
  exact⟨_,.none⟩
 | .int i,_,u=>fun e r=>by
  cases (show _=V.int i from e)
  obtain⟨t,rfl⟩:=r;exact⟨_,.int i t⟩
 | .str x,_,u=>fun e r=>by
  cases (show _=V.str x from e)
  obtain⟨t,rfl⟩:=r;exact⟨_,.str x t⟩
 | .tuple ds,_,u=>fun e r=>by
  obtain⟨a,vs,rfl,ha,t⟩:=e
  cases (show u=Value.ref a from r)
  obtain⟨z,its,rv,o,e,c,⟨n,dt⟩,_⟩:=ok a _ ha;obtain⟨as,q⟩:=Vr ok t rv
  exact⟨_,.tuple e c dt (by simpa using q)⟩
 | .bool _,_,_=>fun e _=>False.elim e
 | .list _,_,_=>fun e _=>False.elim e
 | .dict _,_,_=>fun e _=>False.elim e
theorem Vr (ok:HOk P w H h):∀{ds:List PyData}{vs:List V}{us:List Value},KTrL H ds vs->Vals vs us->∃as,ReadsAll h us ds as
 | [],_,us=>fun e r=>by
  cases (show _=[] from e)
  cases r
  exact⟨_,.nil⟩
 | d::ds,_,us=>fun e r=>by
  obtain⟨v,vs,rfl,hv,t⟩:=e
  cases r with
  | cons r1 r2 =>
   obtain⟨as,q⟩:=Xd ok hv r1;obtain⟨bs,p⟩:=Vr ok t r2;exact⟨_,.cons q p⟩
end
theorem Ak9  (b:HOk P w H h) (e:KAt H k a):(Gk P w).is h k a:=⟨e.1,Xd b e.2 (show RelV _ _ from rfl)⟩
theorem Bk0  (f:HOk P w H h) (e:Rd H a (.dT b)):b.length<=sizeLine/\(a==sysModules)=false /\
 ∃c,KT H b c/\h.DictOfH (Gk P w) a c:=by
 obtain⟨z,y,c,r,o,v,i,j,k,g,s,u⟩:=(show z9 P w H h a _ from Fw f e)
 refine⟨z,y,c,r,o,v,i,j,k,g,s,fun x d=>?_,u⟩
 have n:∀{l:List _} {m:List _},KT H l m->∀x∈m,(Gk P w).is h x.1 x.2.1:=by
  intro l m q
  induction q with
  | nil=>simp_all
  | @cons p q B C D t A =>
   intro x d
   rcases List.mem_cons.mp d with e | d
   ·exact Ak9 f (by grind)
   grind
 grind
end
def Bm5 (H:Hp)(a:Addr)(y:V)(r:Option V):Prop :=
 (∃kvs k,Rd H a (.dK kvs)/\y=kV k/\r=Wy kvs k)\/∃kvs k b,Rd H a (.dT kvs)/\y=.ref b/\KAt H k b/\r=Wy kvs k
section
variable {X:Cx}{pins:List (Addr×Obj)}{σ:St}{H:Hp}{s:Shared}{a:Addr}{y v:V}{u r:Value}{o:Option V}{A:Around}{E:Value->Shared->Prop}
theorem Inv.big (I:Inv X pins σ H s):sysModules<s.heap.objs.size:=by
 exact Nat.lt_trans (by decide) ((I.mod.glob.keeps I.bk).lt)
theorem A0t {Q:Value->Shared->Prop}(hu:A.units+9<cLine)(I:Inv X pins σ H s)(g:Bm5 H a y (some v))(q:RelV y u)(h:∀f s',Inv X pins σ H s'->RelV v f->Q f s') :
 wpAny (model X.prog X.w) A (getItem (.ref a) u) Q E s:=by
 rcases g with ⟨m,k,e,n,l⟩ | ⟨m,k,b,e,n,r,l⟩
 ·subst n
  obtain⟨z,w,x,d,j⟩:=Bj8 I.hok e
  obtain⟨f,o,c⟩:=RelO.some_of   (by rw[l];exact d.val k)
  exact wpAny_getItem_of (B1b q) j.mapOf o (h _ _ (I.tok _) c)
 ·subst n
  cases (q)
  obtain⟨z,w,B,d,j⟩:=Bk0 I.hok e
  obtain⟨f,o,c⟩:=RelO.some_of   (by rw[l];exact d.val k)
  obtain⟨p,t,i⟩:=Option.map_eq_some_iff.mp o
  refine wpAny_getItem_heap ((B0u hu)) (Ak9 I.hok r) j t ?_
  rw[i];exact h _ _ (I.tok _) c
end
def Bp2 (i:Expr):Prop:=∀ov iv,subscripted i false ov iv=operate [ov,iv] (getItem ov iv)
theorem A9z {prog:Program}{w:World}{A:Around}{E:Value->Shared->Prop}{s:Shared}{env:Env}{b a:Expr}{k:Pos}{T id:String}{Q:Value->Shared->Prop}
 (hl:typeLookup (.type T) "__getitem__" = pure (some (.builtin id))) (hs:Bp2 a)
 (h:wpAny (model prog w) A (eval b env) (fun o e=>wpAny (model prog w) A (eval a env) (fun i c=>c.TypeIs o T/\wpAny (model prog w) A (getItem o i) Q E c) E e) E s) :
 wpAny (model prog w) A (eval (.Subscript b a k) env) Q E s:=by
 refine Subscript_ (wpAny_mono h (fun o e j=>wpAny_mono j (fun i c d=>?_) fun _ _ x=>x) fun _ _ x=>x)
 obtain⟨m,d⟩:=d
 refine wpAny_bind ?_
 refine wpAny_bind (wpAny_specialOf m hl ?_)
 have l:wpAny (model prog w) A (subscripted a false o i) (fun r f=>wpAny (model prog w) A (letTemporaryGo b o r >>= fun _=>pure r) Q E f) E c:=by
  rw[hs o i]
  exact wpAny_operating (wpAny_mono d (fun r f g=>wpAny_bind (wpAny_letTemporaryGo (wpAny_pure g))) fun _ _ x=>x)
 first
  | exact wpAny_pure (wpAny_bind l)
  | simp_all
  | trivial
theorem Ae3 {X:Cx}{pins:List (Addr×Obj)}{f:St}{H:Hp}{s:Shared}{a:Addr}{y:V}{o:Option V}(I:Inv X pins f H s)(g:Bm5 H a y o):s.TypeIs (.ref a) "dict" := by
 rcases g with ⟨d,k,e,_,_⟩ | ⟨d,k,b,e,_,_,_⟩
 ·obtain⟨_,_,i,_,c⟩:=Bj8 I.hok e
  exact c.typeIs
 ·obtain⟨_,_,h,_,c⟩:=Bk0 I.hok e
  exact c.typeIs
def A6m (td ty:TE):TE:=fun σ H Q=>td σ H fun x H1=>ty σ H1 fun y H2=>∃a v,x=.ref a/\Bm5 H2 a y (some v)/\Q v H2
section
variable {X:Cx}{o i e value:Expr}{pos pos' tpos:Pos}{td ty tv:TE}
theorem A9w (hu:X.A.units+9<cLine)(ho:PE X o td)(hi:PE X i ty)(hs:Bp2 i):PE X (.Subscript o i pos) (A6m td ty):=by
 intro c s σ H Q I h
 refine A9z PySem.F.slot_dict_getitem.lookup hs (thn (ho _ s _ H _ I h) fun u s1 ⟨x,H1,f,j,k⟩=>thn (hi _ _ _ _ _ f k) fun iv s2 ⟨y,l,d,e,a,v,n,g,m⟩=>?_)
 subst n;obtain rfl:u=Value.ref a:=j
 exact⟨Ae3 d g,A0t hu d g e fun w' s3 p b=>⟨v,l,p,b,m⟩⟩
end
end L2
namespace Att
open PySem PySem.W PySem.Calls PyProof.Rows
theorem T3   : ∀(ns:List Int) (vs:List Value),WellAll P h vs (ns.map WData.int)->IntsAre vs ns:=by
 intro ns
 induction ns with
 | nil =>
  intro vs w
  cases w
  exact .nil
 | cons n ns c =>
  intro vs w
  cases w with
  | cons a b =>
   cases a
   exact .cons _ _ (c _ b)
theorem A0y {l:OpenLaw}  (hn:l.most=some n)    
 (hpre:l.row.toRowW.claim.pre args=true) (hwl:WellAll P h vals args) :
 ∃a vs ns,vals=[Value.ref a]/\args=[WData.list (ns.map WData.int)]/\h.get? a=some { cls:=.type "list",data:=.seq vs.toArray }/\IntsAre vs ns/\ns.length<=n:=by
 have hsh:WShape.hasAll [] args [.list .int]=true:=(pre_splitW hpre).1;have hc:l.pre.holds [] { args:=args }=true:=(pre_splitW hpre).2;obtain⟨d,r,rfl,h1,h2⟩:=hasAllW_cons hsh;obtain rfl:=hasAllW_nil h2;obtain⟨xs,rfl,h3⟩:=hasW_list h1;obtain⟨ns,rfl⟩:=items_int h3
 have hlen:ns.length<=n:=by
  unfold OpenLaw.pre at hc
  have h4:(WTm.not (.lt (.lit (.int (n:Int))) (.len (.arg 0)))).holds [] { args:=[.list (ns.map .int)] }=true:=by
   have h4:=(holds_andW hc).1;rw[hn]at h4;exact h4
  have h5:=condW_of h4 (w_not (w_lt w_lit (w_len_list (w_arg rfl))));rw[List.length_map]at h5
  refine Nat.le_of_not_lt fun q=>?_
  have q':(n:Int)<((ns.length:Nat):Int):=by omega
  first
   | (rw[decide_eq_true q']at h5;exact absurd h5 (by decide))
   | (simp at h5;omega)
 cases hwl with
 | cons w1 w2 =>
  cases w2
  cases w1 with
  | list ho hall=>exact⟨_,_,ns,rfl,rfl,ho,T3 ns _ hall,hlen⟩
theorem A2m (l:OpenLaw)(args:List WData):l.row.toRowW.claim.post args (.bool true) args=true :=
 postW_of  
  (show WShape.has _ _ _=true by rfl)
  (show (WTm.eq _ _).value _ _=some _ from w_eq_bool (w_res rfl) w_lit) rfl
theorem Aj4 {l:OpenLaw}      
 (hn:l.most=some n) (t:d.params.defaults=[])
 (i:∀(w:World) (c b:Shared) (mg B:Str->Option Value) (fa:Addr) (o:Obj) (z v h:Value) (a:Addr) (vs:List Value) (ns:List Int),
  Ground q loose [] XP w c mg B b.heap->YP w b.heap ->
  b.heap.get? fa=some o->o.data=.func (docDef d.name d.params d.body d.scope z v h)->b.heap.CodeRec v d.name->mg d.name=some (.ref fa) ->
  b.heap.get? a=some { cls:=.type "list",data:=.seq vs.toArray }->IntsAre vs ns->ns.length<=n->b.gens=#[] ->
  codeAny (model l.prog w) callerA (.call (.ref fa) ⟨[.ref a],[]⟩) (fun r s'=>r=.ok (.ret (.bool true))/\OldK b.heap s'.heap/\s'.os=b.os/\AllBare s'.gens) b) :
 WalkO q loose XP YP l.row.toRowW d [] (fun f vs=>PySem.call f vs):=by
 intro w c b mg B G Y fa o z v h M H J K u C m D x A as g y F p I;obtain rfl:M=.none:=Dflts.none C t;obtain rfl:H=.none:=Dflts.noKw C;obtain⟨a,vs,ns,rfl,rfl,j,e,k⟩:=A0y hn g p
 refine enter_call (codeAny_mono (i w _ _ _ _ _ o _ _ _ a _ _ G Y J (fd_plain K) u m j e k D) fun r s' N=>?_)
 obtain⟨rfl,L,O,P⟩:=N
 exact⟨.inl ⟨.bool _,.bool _,[],rfl,fun _=>rfl,.bool _,A2m l _,fun _=>⟨List.Pairwise.nil,fun _ E=>nomatch E⟩⟩,L,O,P⟩
end Att
namespace L2
open PySem PySem.Spec PyProof.Rows
theorem Xy:∀{vs:List Value}{ns:List Int},IntsAre vs ns->Vals (ns.map V.int) vs
 | _,_,.nil=>.nil
 | _,_,.cons n t h=>.cons ⟨t,rfl⟩ (Xy h)
def La (s:Stmt):Arguments:=match s with
 | .FunctionDef _ a _ _ _ _ _ _ _ _=>a
 | _=>{ posonlyargs:=[],args:=[],vararg:=none,kwonlyargs:=[],kw_defaults:=[],kwarg:=none,defaults:=[] }
def Hc (s:Stmt):List Stmt:=match s with
 | .FunctionDef _ _ b _ _ _ _ _ _ _=>b
 | _=>[]
def Aq (s:Stmt):Scope:=match s with
 | .FunctionDef _ _ _ _ _ _ sc _ _ _=>sc
 | _=>{ kind:=.function,names:=[],isGenerator:=false,isCoroutine:=false }
abbrev CX0:CXT:=fun _ _ _ _ _ _=>False
abbrev E0:XK:=fun _ _ _=>False
theorem B1g  : M6 CX0 X E0:=fun _ _ _ _ _ _ _ h=>h.elim
structure Fun (K:PySem.W.Frag) (x qual:Str) (st:Stmt) (f:Addr) (fd:FuncData):Prop where
 ex:∃(oc:Value) (od:Option Addr) (kV doc pm:Value) (an:Option Addr) (cdv ct:Value) (osl:Array (Option Value)),
  fd=PySem.W.fnOf x qual (La st) (Hc st) (Aq st) .none kV doc pm an cdv ct/\K.lookup f=some ⟨oc,od,.func fd,osl⟩/\PySem.W.codeIn K cdv qual=true
 kp:PySem.W.keepIn K (.ref f)=true
section
variable {P:Program}{w:World}{K:PySem.W.Frag}{mg:Str->Option Value}{base:Heap}
theorem Fun.ok  {st:Stmt}      (F:Fun K x qual st f i) (S:Bk N ps (Aq st)) (g:∀vs H Q E,sp vs H Q E->vs.length=ps.length)
 (b:∀(c:Value) (A:Around) (a:List Env) (s:Shared) (H:Hp) (vs:List V) (Q:VK) (E:XK),Room k (A.deeper (envOfC qual (Aq st) s.heap.objs.size f c))->sp vs H Q E ->
  ∃t,PSs (Mx CX0 P w K mg base N qual (Aq st) f c A a s H E).nox (Hc st) t/\t { nx:=fun _ H'=>Q .non H',rt:=Q } (start N vs) H):FnOk P w K mg base CX0 (k+1) f i ps sp:=by
 obtain⟨oc,od,kV,l,pm,an,c,ct,j,rfl,m,e⟩:=F.ex
 refine A8j m e S g fun A a s H vs Q E n d=>?_
 obtain⟨t,h,q⟩:=b _ A _ s H _ Q E n d;exact⟨t,h.nox,q⟩
theorem Fun.binds  {st:Stmt}    (F:Fun K x qual st f d)
 (h:∀(i b e:Value) (g:Option Addr) (a c:Value) (us:List Value),us.length=ps.length->bindArgs (PySem.W.fnOf x qual (La st) (Hc st) (Aq st) .none i b e g a c) ⟨us,[]⟩=pure (ps.zip us)):Binds K d ps []:=by
 obtain⟨oc,od,i,b,e,g,a,c,k,rfl,lk,j⟩:=F.ex;exact .all (h _ _ _ _ _ _)
end
def Same (H H':Hp):Prop:=∀b o,H b=some o->H' b=some o
theorem Same.refl (H:Hp):Same H H:=fun _ _ h=>h
theorem Same.trans  (a:Same H e) (b:Same e d):Same H d:=fun c o h=>b c o (a c o h)
theorem Same.free  (e:Same H H')  (h:H' l=Option.none):H l=Option.none:=by
 cases q:H l with
 | none=>rfl
 | some o =>
  rw[e l o q]at h
  grind
theorem Same.seq {K:PySem.W.Frag}    (e:Same H H') (h:SqL K H a xs):SqL K H' a xs:=by
 rcases h with (h | ⟨o,h⟩) | h
 ·exact .inl (.inl (e _ _ h))
 ·exact .inl (.inr ⟨o,e _ _ h⟩)
 ·exact .inr h
end L2
set_option maxHeartbeats 4000000
namespace L2
open PySem PySem.Spec PyProof.Rows
abbrev Fz (X:Cx)(N':List Str)(scope:Scope)(cl:List (Str×Addr))(C:Addr)(s₀:Shared)(H₀:Hp)(ex:List Addr):Cx :=
 { X with N:=N',env:=compEnvC scope cl C X.env,s₀:=s₀,H₀:=H₀,outer:=X.stack,stack:=X.stack,ex:=ex,fn:=fun x=>decide (scope.names.lookup x=some .local\/scope.names.lookup x=some .cell),pn:=[],xe:=fun _ _=>False }
def cst (idx:List (Option Nat))(σ:St):St:=idx.map fun o=>o.bind fun i=>(σ[i]?).join
structure Ip (X:Cx) (N':List Str) (idx:List (Option Nat)) (scope:Scope):Prop where
 kind:scope.kind=.function
 nod:(scope.names.map (·.1)).Nodup
 free:∀y∈scope.names,y.2=.free->X.env.kindOf y.1=some .cell\/X.env.kindOf y.1=some .free
 len:idx.length=N'.length
 at':∀(j i:Nat) (x:Str),N'[j]?=some x->idx[j]?=some (some i)->X.N[i]?=some x/\scope.names.lookup x=some .free
structure Qc (X:Cx) (N':List Str) (idx:List (Option Nat)) (scope:Scope):Prop extends Ip X N' idx scope where
 cell:∀y∈scope.names,y.2≠.cell
theorem J7 (env:Env):∀(names:List (Str×NameKind)) (acc:List (Str×Addr)),(∀y∈names,y.2=.free->∃c,env.cells.lookup y.1=some c) ->
 ∃
  cl,(forIn names acc fun (p:Str×NameKind) (r:List (Str×Addr))=>(if (p.2==NameKind.free)=true then (do let c <- cellOf env p.1;pure (ForInStep.yield ((p.1,c)::r))) else pure (ForInStep.yield r):Sem (ForInStep (List (Str×Addr)))))=(pure cl:Sem (List (Str×Addr))) /\
  (∀x c,cl.lookup x=some c->acc.lookup x=some c\/(env.cells.lookup x=some c/\(x,NameKind.free)∈names))/\(∀x,((∃c,acc.lookup x=some c)\/(x,NameKind.free)∈names)->∃c,cl.lookup x=some c)
 | [],acc,_=>⟨acc,rfl,fun x c e=>.inl e,fun x h=>by
  rcases h with h | h
  ·exact h
  ·simp at h⟩
 | (n,k)::r,acc,h=>by
  by_cases hk:k=NameKind.free
  ·subst hk
   obtain⟨c,hc⟩:=h (n,.free) (by simp) rfl
   obtain⟨cl,e,a,b⟩:=J7 env r ((n,c)::acc) fun y hy=>h y (List.mem_cons_of_mem _ hy)
   refine⟨cl,?_,fun x c' e'=>?_,fun x hx=>?_⟩
   ·rw[List.forIn_cons]
    simp only[cellOf,hc];exact e
   ·rcases a x c' e' with z | ⟨z1,z2⟩
    ·rw[List.lookup_cons]at z
     split at z
     ·rename_i hxe
      have:x=n:=by simpa using hxe
      subst this
      cases z
      exact .inr ⟨hc,by simp⟩
     ·exact .inl z
    ·exact .inr ⟨z1,List.mem_cons_of_mem _ z2⟩
   ·refine b x ?_
    rcases hx with ⟨c',z⟩ | z
    ·left
     rw[List.lookup_cons]
     split
     ·exact⟨_,rfl⟩
     ·exact⟨_,z⟩
    ·rcases List.mem_cons.mp z with z | z
     ·left
      cases z
      exact⟨c,by simp⟩
     ·exact .inr z
  ·obtain⟨cl,e,a,b⟩:=J7 env r acc fun y hy=>h y (List.mem_cons_of_mem _ hy)
   refine⟨cl,?_,fun x c' e'=>?_,fun x hx=>?_⟩
   ·rw[List.forIn_cons]
    have:(k==NameKind.free)=false:=by cases k <;> first | rfl | exact absurd rfl hk
    simp only[this];exact e
   ·rcases a x c' e' with z | ⟨z1,z2⟩
    ·exact .inl z
    ·exact .inr ⟨z1,List.mem_cons_of_mem _ z2⟩
   ·refine b x ?_
    rcases hx with z | z
    ·exact .inl z
    ·rcases List.mem_cons.mp z with z | z
     ·cases z;exact absurd rfl hk
     ·exact .inr z
theorem Ov   (h:∀y∈scope.names,y.2=.free->∃c,env.cells.lookup y.1=some c) :
 ∃d,closureFor scope env=pure d/\(∀x c,d.lookup x=some c->env.cells.lookup x=some c/\(x,NameKind.free)∈scope.names)/\(∀x,(x,NameKind.free)∈scope.names->∃c,d.lookup x=some c):=by
 obtain⟨d,e,a,b⟩:=J7 _ _ [] h
 refine⟨d,?_,fun x c g=>?_,fun x f=>b x (.inr f)⟩
 ·unfold closureFor
  grind
 simp_all
abbrev A9f (ifs:List Expr)(env:Env):Sem Bool:=forIn ifs true fun c r=>if r=true then do let ok <- isTrue c env (eval c env);pure (ForInStep.yield ok) else pure (ForInStep.yield r)
def Bo8 (M:Model)(A:Around)(E:Value->Shared->Prop)(tg elt:Expr)(ifs:List Expr)(env:Env)(it acc v:Value)(Z:Shared->Prop)(s:Shared):Prop :=
 wpAny M A (letOwnedTupleGo tg it v) (fun _ a=>wpAny M A (assign tg env v) (fun _ b=>wpAny M A (A9f ifs env) (fun ok c=>match ok with
  | true=>wpAny M A (eval elt env) (fun x d=>wpAny M A (call (.builtin "list.append") [acc,x]) (fun _ z=>Z z) E d) E c
  | false=>Z c) E b) E a) E s
theorem A9g            (C:E=notedBy (model P w) A env fun x z=>R (.error x) z) (Wd:Nat->Shared->Prop)
 (step:∀n z,Wd n z->wpAny (model P w) A (pyNext it) (fun r a=>match r with
  | none=>R (.ok .next) a
  | some v=>Bo8 (model P w) A E o i j env it acc v (fun y=>∃m,m<n/\Wd m y) a) E z) (n:Nat)  (h:Wd n s) :
 codeAny (model P w) A (.compLoop (.ListComp i [⟨o,f,j,0⟩] p l) 0 it acc env) R s:=by
 subst C
 refine codeAny_loop (I:=Wd) rfl (turn:=?_) n h
 intro k z G
 show wpAny (model P w) A (Sem.onRaise (compTurn (.ListComp i [⟨o,f,j,0⟩] p l) 0 it acc env) fun x=>do noteFrame x env;theTreesLotGoes x) _ _ z
 apply wpAny_noted;rw[compTurn_list];apply wpAny_bind;apply wpAny_standAt;apply wpAny_bind
 refine wpAny_mono (step k z G) ?_ fun _ _ q=>q
 rintro (_ | v) a u
 ·exact wpAny_pure u
 apply wpAny_bind
 refine wpAny_mono u ?_ fun _ _ q=>q
 intro _ b D;apply wpAny_bind
 refine wpAny_mono D ?_ fun _ _ q=>q
 intro _ c F;apply wpAny_bind
 refine wpAny_mono F ?_ fun _ _ q=>q
 rintro (_ | _) d t
 ·exact wpAny_pure (And.intro rfl t)
 apply wpAny_bind;apply wpAny_bind
 refine wpAny_mono t ?_ fun _ _ q=>q
 intro y e H;apply wpAny_bind
 refine wpAny_mono H ?_ fun _ _ q=>q
 intro _ g B;exact wpAny_pure (wpAny_pure (And.intro rfl B))
def PTs (X:Cx)(ifs:List Expr)(t:TT):Prop :=
 ∀
  (pins:List (Addr×Obj)) (s:Shared) (σ:St) (H:Hp) (Q:Bool->Hp->Prop),Inv X pins σ H s->t σ H Q ->
  wpAny (model X.prog X.w) X.A (forIn ifs true fun c r=>if r=true then do let ok <- isTrue c X.env (eval c X.env);pure (ForInStep.yield ok) else pure (ForInStep.yield r)) (TP X pins σ Q) X.xe s
def Bt6:TT:=fun _ H Q=>Q true H
theorem Bc8  : PTs X [] Bt6:=fun _ _ _ H _ I h=>wpAny_tests_nil ⟨H,I,h⟩
theorem Bd2    (h:PT X c t):PTs X [c] t:=fun a s b H Q I q=>wpAny_tests_one (h _ s _ H Q I q)
def tLC (idx:List (Option Nat))(wi:TI)(g:TG)(tc:TT)(te:TE):TE:=fun σ H Q=>wi σ H fun J H1 =>
 ∃
  W:Nat->Nat->St->List V->Hp->Prop,(∃m,W 0 m (cst idx σ) [] H1)/\∀i m σ' acc H,W i m σ' acc H ->
  (J.stop i H/\∀p,H p=none->Q (.ref p) (upd H p (.lst acc))) \/
  (J.go i H/\acc.length<sizeLine/\∃N:St->List V->Hp->Prop,(∀σ' acc' H',N σ' acc' H'->∃m',m'<m/\W (i+1) m' σ' acc' H')/\∀x H',J.yld i H x H'->g x σ' H' fun σ2 H2=>tc σ2 H2 fun b H3 =>
   if b=true then te σ2 H3 fun y H4=>N σ2 (acc++[y]) H4 else N σ2 acc H3)
theorem HOk.track       (x:HOk P w H h) (hn:H a=none) (f:z9 P w (upd H a o) h a o):HOk P w (upd H a o) h:=fun b u e=>by
 by_cases hb:b=a
 ·subst hb;rw[Ca]at e;simp_all
 ·rw[Ar hb]at e
  exact(x b u e).stay (fun c v _ q=>q) fun c q=>by rw[Ar (Bv q hn)];grind fun c d q=>by rw[Ar (Bv q hn)];grind fun c g d q=>by rw[Ar (Bv q hn)];grind
theorem Il {env:Env}:∀{names:List (Str×NameKind)}{x:Str},names.lookup x=some .free ->
 (names.map fun (n,k)=>if (k==NameKind.free&&env.scope.kind==.function&&env.kindOf n==some .cell) then (n,NameKind.cell) else (n,k)).lookup x=some .free \/
 (names.map fun (n,k)=>if (k==NameKind.free&&env.scope.kind==.function&&env.kindOf n==some .cell) then (n,NameKind.cell) else (n,k)).lookup x=some .cell
 | [],_,h=>by simp at h
 | (n,k)::r,x,h=>by
  have ih:=@Il env r x;simp only[List.map_cons]
  cases hx:x==n with
  | true =>
   simp only[List.lookup_cons,hx]at h
   cases h
   split
   ·right;simp[List.lookup_cons,hx]
   ·left;simp[List.lookup_cons,hx]
  | false =>
   simp only[List.lookup_cons,hx]at h
   split
   ·simp only[List.lookup_cons,hx];exact ih h
   ·simp only[List.lookup_cons,hx];exact ih h
theorem Le {env:Env}:∀{names:List (Str×NameKind)}{x:Str}{k:NameKind},
 (names.map fun (n,k)=>if (k==NameKind.free&&env.scope.kind==.function&&env.kindOf n==some .cell) then (n,NameKind.cell) else (n,k)).lookup x=some k ->
 names.lookup x=some k\/(k=.cell/\names.lookup x=some .free)
 | [],_,_,h=>by simp at h
 | (n,k')::r,x,k,h=>by
  have ih:=@Le env r x k;simp only[List.map_cons]at h
  cases hx:x==n with
  | true =>
   by_cases hc:(k'==NameKind.free&&env.scope.kind==.function&&env.kindOf n==some .cell)=true
   ·rw[if_pos hc]at h
    simp only[List.lookup_cons,hx]at h
    cases h
    right
    refine⟨rfl,?_⟩
    simp only[List.lookup_cons,hx]
    have:k'=.free:=by
     simp only[Bool.and_eq_true]at hc;exact eq_of_beq hc.1.1
    rw[this]
   ·rw[if_neg hc]at h
    simp only[List.lookup_cons,hx]at h ⊢;exact .inl h
  | false =>
   simp only[List.lookup_cons,hx]
   refine ih ?_
   by_cases hc:(k'==NameKind.free&&env.scope.kind==.function&&env.kindOf n==some .cell)=true
   ·rw[if_pos hc]at h;simpa only[List.lookup_cons,hx] using h
   ·rw[if_neg hc]at h;simpa only[List.lookup_cons,hx] using h
theorem lookup_mem {α:Type}:∀{l:List (Str×α)}{x:Str}{k:α},l.lookup x=some k->(x,k)∈l
 | [],_,_,h=>by simp at h
 | (n,k')::r,x,k,h=>by
  rw[List.lookup_cons]at h
  split at h
  ·rename_i e
   have:x=n:=by simpa using e
   subst this
   cases h
   simp
  ·exact List.mem_cons_of_mem _ (lookup_mem h)
theorem mem_lookup {α:Type}:∀{l:List (Str×α)}{x:Str}{k:α},(l.map (·.1)).Nodup->(x,k)∈l->l.lookup x=some k
 | [],_,_,_,h=>by simp at h
 | (n,k')::r,x,k,hn,h=>by
  have hn:(n::r.map (·.1)).Nodup:=hn
  obtain⟨h1,h2⟩:=List.nodup_cons.mp hn
  rcases List.mem_cons.mp h with h | hr
  ·cases h;simp
  ·rw[List.lookup_cons]
   split
   ·rename_i e
    have:x=n:=by simpa using e
    subst this
    exact absurd (show x∈r.map (·.1) from List.mem_map.mpr ⟨(x,k),hr,rfl⟩) h1
   ·exact mem_lookup h2 hr
section
variable {X:Cx}{N':List Str}{idx:List (Option Nat)}{scope:Scope}
theorem Bc9 {pins:List (Addr×Obj)}{σ:St}{H:Hp}{s:Shared}{fp:List Addr}{cl:List (Str×Addr)}{C:Addr}(L:Ip X N' idx scope)(I:Inv X pins σ H s)(hf:∀b∈fp,T9 X pins H b)(hfs:∀b∈fp,b<s.heap.objs.size)
 (hC:s.heap.objs.size<=C) (c1:∀x c,cl.lookup x=some c->(X.env.cells.lookup x=some c/\(x,NameKind.free)∈scope.names)\/(s.heap.objs.size<=c/\(x,NameKind.cell)∈scope.names)) (c2:∀x,((x,NameKind.free)∈scope.names\/(x,NameKind.cell)∈scope.names)->∃c,cl.lookup x=some c) (c3:∀x y c,cl.lookup x=some c->cl.lookup y=some c->x=y) :
 (Fz X N' scope cl C s H fp).Ok where
 mod:=I.ok.mod
 kind:=L.kind
 glob:=I.ok.glob
 blt:=I.ok.blt
 above:=hC
 inj:=c3
 has:=fun x h=>by
  refine c2 x ?_
  have h':(relabel scope X.env).names.lookup x=some .cell\/(relabel scope X.env).names.lookup x=some .free:=h
  rcases h' with h | h
  ·rcases Le h with z | ⟨_,z⟩
   ·exact .inr (lookup_mem z)
   ·exact .inl (lookup_mem z)
  ·rcases Le h with z | ⟨z,_⟩
   ·exact .inl (lookup_mem z)
   ·cases z
 cab:=fun x c hx hc=>by
  have hx':scope.names.lookup x=some .local\/scope.names.lookup x=some .cell:=of_decide_eq_true hx
  rcases c1 x c hc with ⟨_,z⟩ | ⟨z,_⟩
  ·have z:=mem_lookup L.nod z
   rw[z]at hx'
   rcases hx' with hx' | hx' <;> cases hx'
  ·exact z
 hd:=I.ok.hd
 frames:=I.ok.frames
 stk:=.inl rfl
 exf
  := fun b hb=>⟨Nat.ne_of_lt (Nat.lt_of_lt_of_le (hfs b hb) hC),fun x c e=>by
  rcases c1 x c e with ⟨z,_⟩ | ⟨z,_⟩
  ·exact(hf b hb).2.2.2.2.1 x c z
  ·exact Nat.ne_of_gt (Nat.lt_of_lt_of_le (hfs b hb) z)⟩
 bs:=I.bs
 bsz:=Nat.le_trans I.ok.bsz I.sz
 noex:=fun b o e hb=>by
  rcases (hf b hb).2.2.2.1 with z | z
  ·exact I.ok.noex b o e z
  ·exact absurd (Nat.lt_of_lt_of_le (Heap.lt_size e) (Nat.le_trans I.ok.bsz z)) (Nat.lt_irrefl _)
 exfs:=fun b hb z=>by
  rcases List.mem_cons.mp (I.stkSub b z) with q | q
  ·exact(hf b hb).2.1 q
  ·exact(hf b hb).2.2.1 q
 funs:=I.stack
 frf:=I.stkFree
 tab:=fun p hp=>I.base.tbls p.1 p.2 (I.ok.tab p hp)
theorem A3a {pins:List (Addr×Obj)}{σ:St}{H:Hp}{s s':Shared}{fp:List Addr}{cl:List (Str×Addr)}{C:Addr}{m:Str->Option Value}(L:Ip X N' idx scope)(I:Inv X pins σ H s)(hf:∀b∈fp,T9 X pins H b)(hfs:∀b∈fp,b<s.heap.objs.size)
 (hC:s.heap.objs.size<=C) (c1:∀x c,cl.lookup x=some c->(X.env.cells.lookup x=some c/\(x,NameKind.free)∈scope.names)\/(s.heap.objs.size<=c/\(x,NameKind.cell)∈scope.names)) (c2:∀x,((x,NameKind.free)∈scope.names\/(x,NameKind.cell)∈scope.names)->∃c,cl.lookup x=some c) (c3:∀x y c,cl.lookup x=some c->cl.lookup y=some c->x=y) (c4:∀x c,cl.lookup x=some c->(x,NameKind.cell)∈scope.names->s'.heap.IsCell c none)
 (ho:s'.os=s.os) (hg:s'.gens=s.gens) (k:∀b o,s.heap.get? b=some o->s'.heap.get? b=some o) (hn:s'.heap.Ns C m):Inv (Fz X N' scope cl C s H fp) [] (cst idx σ) H s' where
 ok:=Bc9 L I hf hfs hC c1 c2 c3
 os:=ho
 bare:=by rw[hg];exact I.bare
 base:=Un.kept k
 loc:=by
  refine⟨m,hn,fun j x v e1 e2 e3=>?_⟩
  obtain⟨m0,hn0,hl⟩:=I.loc
  have e2':(idx.map fun o=>o.bind fun i=>(σ[i]?).join)[j]?=some (some v):=e2
  rw[List.getElem?_map]at e2'
  cases ei:idx[j]? with
  | none=>rw[ei]at e2';cases e2'
  | some o =>
   rw[ei]at e2';simp only[Option.map_some,Option.some.injEq]at e2'
   cases o with
   | none=>cases e2'
   | some i =>
    have e2'':(σ[i]?).join=some v:=e2';obtain⟨hNi,hfr⟩:=L.at' j i x e1 ei
    have hσ:σ[i]?=some (some v):=by
     cases q:σ[i]? with
     | none=>rw[q]at e2'';cases e2''
     | some z=>rw[q]at e2'';rw[show z=some v from e2'']
    have hk:=L.free _ (lookup_mem hfr) rfl
    have hvis:Vis X.env.scope x:=by
     rcases hk with z | z
     ·exact .inr (.inl z)
     ·exact .inr (.inr z)
    obtain⟨u,r,lk⟩:=hl i x v hNi hσ hvis
    refine⟨u,r,.inr ?_⟩
    rcases lk with ⟨z,_⟩ | ⟨_,c,hc,hcl⟩
    ·exfalso
     have z':X.env.kindOf x=some .local:=z
     rcases hk with q | q
     ·rw[show X.env.kindOf x=_ from q]at z';cases z'
     ·rw[show X.env.kindOf x=_ from q]at z';cases z'
    ·obtain⟨c',hc'⟩:=c2 x (.inl (lookup_mem hfr))
     have:c'=c:=by
      rcases c1 x c' hc' with ⟨q,_⟩ | ⟨_,q⟩
      ·rw[hc]at q;exact(Option.some.inj q).symm
      ·rw[mem_lookup L.nod q]at hfr;cases hfr
     subst this
     refine⟨?_,c',hc',let ⟨o,e,d⟩:=hcl; ⟨o,k _ o e,d⟩⟩
     rcases Il (env:=X.env) hfr with q | q
     ·exact .inr q
     ·exact .inl q
 cell:=fun x c e=>by
  rcases c1 x c e with ⟨q,_⟩ | ⟨_,q⟩
  ·obtain⟨v,z⟩:=I.cell x c q
   exact⟨v,let ⟨o,e,d⟩:=z; ⟨o,k _ o e,d⟩⟩
  ·exact⟨none,c4 x c e q⟩
 free:=I.hok.fresh hC
 freeC:=fun x c e=>by
  rcases c1 x c e with ⟨q,_⟩ | ⟨q,_⟩
  ·exact I.freeC x c q
  ·exact I.hok.fresh q
 pin:=fun p hp=>by simp at hp
 hok:=I.hok.kept k
 len:=by
  show (idx.map _).length=N'.length
  rw[List.length_map];exact L.len
end
section
variable {X:Cx}{N':List Str}{idx:List (Option Nat)}{scope:Scope}{elt tg iter:Expr}{ifs:List Expr}{pos:Pos}{wi:TI}{g:TG}{tc:TT}{te:TE}
theorem O5:∀(names:List (Str×NameKind)) (h:Heap) (acc:List (Str×Addr)),(∀x y c,acc.lookup x=some c->acc.lookup y=some c->x=y)->(∀x c,acc.lookup x=some c->c<h.objs.size) ->
 (∀x c,(cellsFrom h.objs.size names acc).lookup x=some c->acc.lookup x=some c\/(h.objs.size<=c/\(x,NameKind.cell)∈names/\(pushCells h names).IsCell c none)) /\
 (∀x,((∃c,acc.lookup x=some c)\/(x,NameKind.cell)∈names)->∃c,(cellsFrom h.objs.size names acc).lookup x=some c) /\
 (∀x y c,(cellsFrom h.objs.size names acc).lookup x=some c->(cellsFrom h.objs.size names acc).lookup y=some c->x=y)
 | [],h,acc,hi,hl=>by
  refine⟨fun x c e=>.inl e,fun x z=>?_,hi⟩
  rcases z with z | z
  ·exact z
  ·exact nomatch z
 | (n,k)::r,h,acc,hi,hl=>by
  unfold cellsFrom pushCells
  by_cases hk:(k==NameKind.cell)=true
  ·rw[if_pos hk,if_pos hk]
   have hk':k=.cell:=eq_of_beq hk;subst hk';have sz:(h.push { cls:=.type "cell",data:=.cell none }).objs.size=h.objs.size+1:=Heap.size_push ..
   have ih:=O5 r (h.push { cls:=.type "cell",data:=.cell none }) ((n,h.objs.size)::acc) (fun x y c e1 e2=>?_) (fun x c e=>?_)
   ·rw[sz]at ih
    obtain⟨i1,i2,i3⟩:=ih
    refine⟨fun x c e=>?_,fun x z=>?_,i3⟩
    ·rcases i1 x c e with q | ⟨q1,q2,q3⟩
     ·rw[List.lookup_cons]at q
      split at q
      ·rename_i hb
       cases q
       have:x=n:=eq_of_beq hb;subst this;exact .inr ⟨Nat.le_refl _,List.mem_cons_self,_,pushCells_keeps _ _ _ _ (Heap.get?_push_size _ rfl),rfl⟩
      ·exact .inl q
     ·exact .inr ⟨Nat.le_of_succ_le q1,List.mem_cons_of_mem _ q2,q3⟩
    ·refine i2 x ?_
     by_cases hx:x=n
     ·subst hx;exact .inl ⟨h.objs.size,by simp⟩
     ·rcases z with ⟨c,z⟩ | z
      ·exact .inl ⟨c,by rw[List.lookup_cons,beq_false_of_ne hx];exact z⟩
      ·rcases List.mem_cons.mp z with z | z
       ·cases z;exact absurd rfl hx
       ·exact .inr z
   ·rw[List.lookup_cons]at e1 e2
    split at e1
    ·rename_i hb1
     cases e1
     split at e2
     ·rename_i hb2
      exact(eq_of_beq hb1).trans (eq_of_beq hb2).symm
     ·exact absurd (hl _ _ e2) (Nat.lt_irrefl _)
    ·split at e2
     ·cases e2
      exact absurd (hl _ _ e1) (Nat.lt_irrefl _)
     ·exact hi x y c e1 e2
   ·rw[sz]
    rw[List.lookup_cons]at e
    split at e
    ·cases e;exact Nat.lt_succ_self _
    ·exact Nat.lt_succ_of_lt (hl x c e)
  ·rw[if_neg hk,if_neg hk]
   have ih:=O5 r h acc hi hl;obtain⟨i1,i2,i3⟩:=ih
   refine⟨fun x c e=>?_,fun x z=>i2 x ?_,i3⟩
   ·rcases i1 x c e with q | ⟨q1,q2,q3⟩
    ·exact .inl q
    ·exact .inr ⟨q1,List.mem_cons_of_mem _ q2,q3⟩
   ·rcases z with z | z
    ·exact .inl z
    ·rcases List.mem_cons.mp z with z | z
     ·cases z;exact absurd rfl hk
     ·exact .inr z
theorem Bc4          
 (h:Q (newEnv scope s.heap.objs.size a (cellsFrom (s.heap.objs.size+1) scope.names d) qual none .none (some b) builtinsNs) { s with heap:=pushCells (s.heap.push { cls:=.type "dict",data:=.dict #[] }) scope.names }) :
 wpAny M A (newFunctionEnv scope a d [] qual none .none (some b)) Q E s:=by
 refine wpAny_bind (wpAny_alloc ?_)
 refine wpAny_bind (wpAny_layCells _ fun e f c=>by trivial _ _ _ _ ?_)
 rw[show ({ s with heap:=s.heap.push _ }:Shared).heap.objs.size=s.heap.objs.size+1 from Heap.size_push ..]
 exact wpAny_bind (wpAny_pure (wpAny_pure h))
theorem Ad4         {K:List (Str×Addr)}  {RR:Value->Addr->Result->Shared->Prop}{F:List V->Hp->Prop}
 (L:Ip X N' idx scope) (hc:X.calm=true)
 (hg:∀K C s₀ H₀ ex,PG (Fz X N' scope K C s₀ H₀ ex) tg g) (ht:∀K C s₀ H₀ ex,PTs (Fz X N' scope K C s₀ H₀ ex) ifs tc) (he:∀K C s₀ H₀ ex,PE (Fz X N' scope K C s₀ H₀ ex) elt te)
 (c1:∀x c,K.lookup x=some c->X.env.cells.lookup x=some c/\(x,NameKind.free)∈scope.names) (c2:∀x,(x,NameKind.free)∈scope.names->∃c,K.lookup x=some c)
 (I2:Inv X pins σ R s2) (T:Turn X.prog X.w X.K tg J fp it tn) (st2:tn 0 s2.heap) (f2:∀b∈fp,T9 X pins R b) (W:Nat->Nat->St->List V->Hp->Prop) (w0:∃m,W 0 m (cst idx σ) [] R)
 (turn:∀i m t acc H,W i m t acc H->(J.stop i H/\F acc H) \/
  (J.go i H/\acc.length<sizeLine/\∃N:St->List V->Hp->Prop,(∀t acc' H',N t acc' H'->∃m',m'<m/\W (i+1) m' t acc' H')/\∀x H',J.yld i H x H'->g x t H' fun Z R=>tc Z R fun b H3 =>
   if b=true then te Z H3 fun y H4=>N Z (acc++[y]) H4 else N Z acc H3))
 (hR:∀(D C:Addr) (s':Shared) (acc:List V) (a:List Value) (n:Nat) (H':Hp) (m:Str->Option Value),s2.heap.objs.size<=D->s2.heap.objs.size<=C->D≠C->s'.heap.Ns C m->s'.heap.get? D=some { cls:=.type "list",data:=.seq a.toArray n }->Vals acc a->acc.length<=sizeLine ->
  H' D=none->H' C=none->s'.os=s2.os->AllBare s'.gens->Un (frs X.stack) fp R H' s2.heap s'.heap->HOk X.prog X.w H' s'.heap->F acc H'->RR (.ref D) C (.ok .next) s') :
 wpAny (model X.prog X.w) X.A (newList []) (fun acc B=>wpAny (model X.prog X.w) X.A (newFunctionEnv scope X.env.globals K [] X.env.qual none .none (some X.env)) (fun cenv s₄ =>
  codeAny (model X.prog X.w) X.A (.compStart (.ListComp elt [⟨tg,iter,ifs,0⟩] scope pos) 0 (.ref it) acc { cenv with scope:=relabel scope X.env }) (RR acc cenv.locals) s₄) E B) E s2:=by
 have U:∀b∈fp,b<s2.heap.objs.size:=fun b w=>let ⟨o,e,_⟩:=T.obj _ _ st2 b w; Heap.lt_size e
 refine wpAny_newObj_type (Bc4 ?_)
 dsimp only
 generalize hH2:s2.heap.push { cls:=.type "list",dict:=none,data:=.seq ([]:List Value).toArray }=G
 have hC:G.objs.size=s2.heap.objs.size+1:=by rw[<- hH2,Heap.size_push]
 have hDC:s2.heap.objs.size≠G.objs.size:=by rw[hC];exact Nat.ne_of_lt (Nat.lt_succ_self _)
 have A:s2.heap.objs.size<=G.objs.size:=by rw[hC];exact Nat.le_succ _
 obtain⟨j,l⟩:∃j,j=pushCells (G.push { cls:=.type "dict",data:=.dict #[] }) scope.names:=⟨_,rfl⟩;rw[<- l]
 have S:j.Ns G.objs.size (fun _=>none):=by rw[l];exact(Heap.Ns.new G (.type "dict")).keeps (pushCells_keeps _ _)
 have old:∀b o,s2.heap.get? b=some o->j.get? b=some o:=fun b o e=>by rw[l];exact pushCells_keeps _ _ b o (Heap.get?_push_of_some _ (hH2▸Heap.get?_push_of_some _ e))
 have hacc:j.get? s2.heap.objs.size=some { cls:=.type "list",dict:=none,data:=.seq ([]:List Value).toArray }:=by rw[l];exact pushCells_keeps _ _ _ _ (Heap.get?_push_of_some _ (hH2▸Heap.get?_push_size _ rfl))
 have szD:(G.push { cls:=.type "dict",data:=.dict #[] }).objs.size=G.objs.size+1:=Heap.size_push ..
 obtain⟨k1,k2,k3⟩:=O5 scope.names (G.push { cls:=.type "dict",data:=.dict #[] }) K (fun x y c e1 e2=>I2.ok.inj x y c (c1 x c e1).1 (c1 y c e2).1) (fun x c e=>by
  obtain⟨v,o,ho,_⟩:=I2.cell x c (c1 x c e).1
  rw[szD];exact Nat.lt_succ_of_lt (Nat.lt_of_lt_of_le (Heap.lt_size ho) A))
 rw[szD,<- l]at k1;rw[szD]at k2 k3;obtain⟨cl0,hcl0⟩:∃cl0,cl0=K:=⟨_,rfl⟩;have c1o:=c1;have c2o:=c2;rw[<- hcl0]at k1 k2 k3 c1o c2o;rw[<- hcl0]
 clear c1 c2
 generalize cellsFrom (G.objs.size+1) scope.names cl0=K at k1 k2 k3 ⊢
 have c1:∀x c,K.lookup x=some c->(X.env.cells.lookup x=some c/\(x,NameKind.free)∈scope.names)\/(s2.heap.objs.size<=c/\(x,NameKind.cell)∈scope.names):=fun x c e=>by
  rcases k1 x c e with q | ⟨q1,q2,_⟩
  ·exact .inl (c1o x c q)
  ·exact .inr ⟨Nat.le_trans A (Nat.le_of_succ_le q1),q2⟩
 have c2:∀x,((x,NameKind.free)∈scope.names\/(x,NameKind.cell)∈scope.names)->∃c,K.lookup x=some c:=fun x z=>k2 x (z.imp (fun z=>c2o x z) id)
 have c4:∀x c,K.lookup x=some c->(x,NameKind.cell)∈scope.names->j.IsCell c none:=fun x c e z=>by
  rcases k1 x c e with q | ⟨_,_,q⟩
  ·have:=mem_lookup L.nod (c1o x c q).2
   rw[mem_lookup L.nod z]at this;cases this
  ·exact q
 let X':Cx:=Fz X N' scope K G.objs.size s2 R fp
 have I1:Inv X' [] (cst idx σ) R { s2 with heap:=j }:=A3a L I2 f2 U A c1 c2 k3 c4 rfl rfl old S
 have hD2:R s2.heap.objs.size=none:=I2.hok.fresh (Nat.le_refl _)
 have hDfs:s2.heap.objs.size∉X'.fs:=fun z=>by
  obtain⟨_,o,ho,_⟩:=I2.stack.mem z;exact absurd (Heap.lt_size ho) (Nat.lt_irrefl _)
 have hDfp:s2.heap.objs.size∉fp:=fun z=>absurd (U _ z) (Nat.lt_irrefl _)
 have P:∀{H':Hp} {pl:List (Addr×Obj)},(∀b∈fp,H' b=none)->(∀p∈pl,p.1∉fp)->∀b∈fp,T9 X' pl H' b:=fun {H' pl} hn M b w =>
  ⟨hn b w,Nat.ne_of_lt (Nat.lt_of_lt_of_le (U b w) A),fun z=>by
   rcases List.mem_cons.mp (I2.stkSub b z) with q | q
   ·exact(f2 b w).2.1 q
   ·exact(f2 b w).2.2.1 q,.inl w,fun x c e=>by
    rcases c1 x c e with ⟨z,_⟩ | ⟨z,_⟩
    ·exact(f2 b w).2.2.2.2.1 x c z
    ·exact Nat.ne_of_gt (Nat.lt_of_lt_of_le (U b w) z),fun p Q z=>M p (by have hp':p∈[]++pl:=Q;simpa using hp') (z▸w)⟩
 have loop:∀B:Shared,B={ s2 with heap:=j } ->
  codeAny (model X.prog X.w) X.A (.compLoop (.ListComp elt [⟨tg,iter,ifs,0⟩] scope pos) 0 (.ref it) (.ref s2.heap.objs.size) (compEnvC scope K G.objs.size X.env)) (RR (.ref s2.heap.objs.size) G.objs.size) B:=by
  rintro B rfl
  obtain⟨m0,w0⟩:=w0
  refine A9g rfl (Wd:=fun n s'=>∃i t acc a k H',Inv X' [(s2.heap.objs.size,{ cls:=.type "list",data:=.seq a.toArray k })] t H' s'/\Vals acc a/\acc.length<=sizeLine/\tn i s'.heap/\(∀b∈fp,H' b=none)/\W i n t acc H') (step:=?_) m0
   ⟨0,cst idx σ,[],[],0,R,I1.pins_of (fun p Q=>?_),.nil,Nat.zero_le _,T.keep _ _ _ st2 fun b _ o e=>old b o e,fun b w=>(f2 b w).1,w0⟩
  ·rintro n s3 ⟨i,Y,acc,a,k,H3,I3,rv,hz,st3,fr3,w3⟩
   have M:∀p∈[((s2.heap.objs.size,{ cls:=.type "list",data:=.seq a.toArray k }):Addr×Obj)],p.1∉fp:=fun p Q=>by
    rcases List.mem_singleton.mp Q with rfl;exact hDfp
   rcases turn i n Y acc H3 w3 with ⟨stop,q⟩ | ⟨go,hlt,N,hN,step⟩
   ·refine wpAny_mono (T.done X' rfl rfl rfl hc i _ s3 Y H3 (fun _ _=>False) I3 (P fr3 M) st3 stop) (fun r s4 ⟨hr,I4⟩=>?_) fun _ _ f=>f.elim
    subst hr;obtain⟨p1,p2,p3,p4,p5⟩:=I4.pin (s2.heap.objs.size,{ cls:=.type "list",data:=.seq a.toArray k }) (List.mem_append_right _ List.mem_cons_self);obtain⟨m4,hn4,_⟩:=I4.loc;exact hR _ _ s4 acc a k H3 m4 (Nat.le_refl _) A hDC hn4 p1 rv hz p2 I4.free I4.os I4.bare I4.base I4.hok q
   ·refine wpAny_mono (T.item X' rfl rfl rfl hc i _ s3 Y H3 (fun _ _=>False) I3 (P fr3 M) st3 go) (fun r s4 ⟨u,hr,h4⟩=>?_) fun _ _ f=>f.elim
    subst hr
    refine wpAny_mono h4 (fun _ s5 ⟨x,H5,I5,r5,y5,st5,fr5⟩=>?_) fun _ _ f=>f.elim
    refine wpAny_mono (hg _ _ _ _ _ _ s5 Y H5 x u _ (I5.pinned (P fr5 M) (T.obj _ _ st5)) r5 (step x H5 y5)) (fun _ s6 ⟨O,H6,I6,q6⟩=>?_) fun _ _ f=>f.elim
    refine wpAny_mono (ht _ _ _ _ _ _ s6 O H6 _ I6 q6) (fun ok s7 ⟨H7,I7,q7⟩=>?_) fun _ _ f=>f.elim
    have tnk:∀{t:St} {H':Hp} {s':Shared},Inv X' ([(s2.heap.objs.size,{ cls:=.type "list",data:=.seq a.toArray k })]++Uv fp s5.heap) t H' s'->tn (i+1) s'.heap/\∀b∈fp,H' b=none:=fun {t H' s'} I=>by
     refine⟨T.keep _ _ _ st5 fun b w o e=>(I.pin (b,o) (List.mem_append_right _ (List.mem_append_right _ (Lw w e)))).1,fun b w=>?_⟩
     obtain⟨o,e,d⟩:=T.obj _ _ st5 b w;exact(I.pin (b,o) (List.mem_append_right _ (List.mem_append_right _ (Lw w e)))).2.1
    cases ok with
    | false =>
     rw[if_neg (by decide)]at q7
     obtain⟨m',hm,w7⟩:=hN _ _ _ q7;exact⟨m',hm,i+1,O,acc,a,k,H7,I7.unpinned,rv,hz,(tnk I7).1,(tnk I7).2,w7⟩
    | true =>
     rw[if_pos rfl]at q7
     refine wpAny_mono (he _ _ _ _ _ _ s7 O H7 _ I7 q7) (fun y s8 ⟨yv,H8,I8,r8,q8⟩=>?_) fun _ _ f=>f.elim
     obtain⟨m',hm,w8⟩:=hN _ _ _ q8;obtain⟨p1,p2,p3,p4,p5⟩:=I8.pin (s2.heap.objs.size,{ cls:=.type "list",data:=.seq a.toArray k }) (List.mem_append_right _ List.mem_cons_self)
     refine call_meets PySem.F.slot_list_append ⟨_,p1,rfl⟩ PySem.F.entry_list_append (PySem.F.args_list_append_2 _ _) (PySem.list_append s2.heap.objs.size a.toArray k y (by have:=rv.length;rw[List.size_toArray];omega)) ⟨p1,?_⟩
     have hz':=rv.length;obtain⟨t8,f8⟩:=tnk I8
     have I8':Inv X' [] O H8 s8:=I8.pins_of fun p Q=>nomatch Q
     have q:=PySem.IsL.update p1 (·.push y)
     have e':(a.toArray.push y)=(a++[y]).toArray:=by simp
     rw[e']at q
     obtain⟨k9,q⟩:∃k9,(s8.heap.update s2.heap.objs.size (Obj.mapSeq (·.push y))).get? _=some { cls:=.type _,data:=.seq _ k9 }:=⟨_,q⟩
     have I9:Inv _ _ _ _ { s8 with heap:=s8.heap.update _ (Obj.mapSeq (·.push y)) } :=
      I8'.turned  (fun b o w e=>(Heap.get?_update_other _ _ (Ne.symm w)).trans e) p2 p3 (.inr (Nat.le_refl _)) (fun x c e z=>by
       obtain⟨v,o,ho,hd⟩:=I8'.cell x c e
       rw[z,p1]at ho;cases ho;cases hd) (fun p Q=>by have hp':p∈([]:List _)++[]:=Q;simp at hp')
     refine⟨m',hm,i+1,O,acc++[yv],a++[y],k9,H8,I9.pins_of fun p Q=>?_,rv.append (.cons r8 .nil),by rw[List.length_append,List.length_singleton];omega,T.keep _ _ _ t8 fun b w o e=>(Heap.get?_update_other _ _ (fun z=>hDfp (by rw[z];exact w))).trans e,f8,w8⟩
     rcases List.mem_singleton.mp Q with rfl
     exact⟨q,p2,p3,p4,fun v z=>by cases z⟩
  ·rcases List.mem_singleton.mp Q with rfl
   exact⟨hacc,hD2,hDC,hDfs,fun v z=>by cases z⟩
 exact codeAny_compStart_list (loop _ rfl) (T.self _ 0 _ _ _ (T.keep _ _ _ st2 fun b _ o e=>old b o e) (loop _ rfl))
theorem B1r (L:Ip X N' idx scope)(hc:X.calm=true)(hi:PI X tg iter wi)
 (hg:∀t C s₀ H₀ ex,PG (Fz X N' scope t C s₀ H₀ ex) tg g) (ht:∀t C s₀ H₀ ex,PTs (Fz X N' scope t C s₀ H₀ ex) ifs tc) (he:∀t C s₀ H₀ ex,PE (Fz X N' scope t C s₀ H₀ ex) elt te)
 (hs:∀x,foldedSetIterable iter X.env x=pure x:=by intro _;rfl) :
 PE X (.ListComp elt [⟨tg,iter,ifs,0⟩] scope pos) (tLC idx wi g tc te):=by
 intro j s Z H Q I h
 obtain⟨t,l,c1,c2⟩:=Ov (env:=X.env) (scope:=scope) fun y hy hf=>I.ok.has y.1 (L.free y hy hf)
 rw[eval_ListComp]
 refine wpAny_comprehension_free (use:=none) rfl hs l L.kind (fun y hy hl=>mem_lookup L.nod (by grind)) (wpAny_mono (hi j s Z H _ I h) (fun v s1 h1=>wpAny_mono h1 (fun itv V h2=>?_) fun _ _ e=>e) fun _ _ e=>e)
 obtain⟨it,fp,tn,J,H2,rfl,I2,T,M,z,W,w0,A⟩:=h2
 refine Ad4 (F:=fun a H=>∀p,H p=none->Q (.ref p) (upd H p (.lst a))) (RR:=fun a C=>compPost (model X.prog X.w) X.A X.xe none (EP X j Z Q) a C) L hc hg ht he c1 c2 I2 T M z W w0 A ?_
 intro D C s' a w n N m hD hC O hn P rv hz d hC' ho K i hk q
 refine⟨m,hn,fun G f=>?_⟩
 have eD:G.get? D=some { cls:=.type "list",data:=.seq w.toArray n }:=f.extBut _ _ O P
 have S:HOk X.prog X.w N G:=fun b u e=>by
  refine (hk b u e).stay (fun c v hc q=>f.extBut c v ?_ q) (fun _ q=>q) fun _ _ q=>q
  grind
 have U:HOk X.prog X.w (upd N D (.lst a)) G:=S.track d ⟨hz,w,n,rv,eD⟩
 have k:∀b o,V.heap.get? b=some o->b≠C:=fun b o e=>Nat.ne_of_lt (Nat.lt_of_lt_of_le (Heap.lt_size e) hC)
 have R:∀b o,V.heap.get? b=some o->b≠D:=fun b o e=>Nat.ne_of_lt (Nat.lt_of_lt_of_le (Heap.lt_size e) hD)
 have u2:Un (frs X.stack) fp H2 (upd N D (.lst a)) V.heap G :=
  ⟨
   fun b o e r B Y=>f.extBut b o (k b o e) (i.keep b o e r B Y),fun b o e r B Y=>let ⟨sl,q⟩:=i.slot b o e r B Y; ⟨sl,f.extBut b _ (k b o e) q⟩,
   fun b o e r B=>by rw[Ar (R b o e)];exact i.free b o e r B,fun b o e r=>let ⟨o',q⟩:=i.there b o e r; ⟨o',f.extBut b _ (k b o e) q⟩,
   fun b xs e=>by rw[Ar (Bv (i.tups b _ e) d)];exact i.tups b _ e,fun b o u e=>by rw[Ar (Bv (i.frzs b o u e) d)];exact i.frzs b o u e,
   fun b ps e=>by rw[Ar (Bv (i.tbls b _ e) d)];exact i.tbls b _ e⟩
 refine⟨.ref D,upd _ D _,I2.call'  ho u2 U K fun b E=>⟨(z b E).2.2.2.1,(z b E).2.1,(z b E).2.2.2.2.1,(z b E).2.2.2.2.2⟩,rfl,q D d⟩
end
section
variable {X:Cx}{N':List Str}{idx:List (Option Nat)}{scope:Scope}{elt tg iter:Expr}{ifs:List Expr}{pos:Pos}{wi:TI}{g:TG}{tc:TT}{te:TE}
theorem A2x   {K t:Pos}(hN:X.N.Nodup) (hi':X.N[i]?=some y) (hy:Loc X.env.scope y) (L:Ip X N' idx scope) (hc:X.calm=true) (hi:PI X tg iter wi)
 (hg:∀B C s₀ H₀ ex,PG (Fz X N' scope B C s₀ H₀ ex) tg g) (ht:∀B C s₀ H₀ ex,PTs (Fz X N' scope B C s₀ H₀ ex) ifs tc) (he:∀B C s₀ H₀ ex,PE (Fz X N' scope B C s₀ H₀ ex) elt te)
 (hsw:swapsWith (.ListComp elt [⟨tg,iter,ifs,0⟩] scope pos) (some (.Name y K)) t.line X.env=pure true:=by rfl)
 (hf:X.fn y=true\/X.env.scope.names.lookup y=some .local:=by first | exact .inl rfl | exact .inr rfl | assumption)
 (hs:∀x,foldedSetIterable iter X.env x=pure x:=by intro _;rfl) :
 PS X (.Assign [.Name y K] (.ListComp elt [⟨tg,iter,ifs,0⟩] scope pos) t) (Aq7 (tLC idx wi g tc te) (Px i)):=by
 intro d s M H j I h
 have h:tLC idx wi g tc te M H fun x H1=>j.nx (M.set i (some x)) H1:=h
 obtain⟨B,A,c1,c2⟩:=Ov (env:=X.env) (scope:=scope) fun y hy hf=>I.ok.has y.1 (L.free y hy hf)
 rw[exec_Assign_Name_used _ _ _ _ hsw]
 refine wpAny_bind (wpAny_standAt (wpAny_bind ?_))
 show wpAny _ X.A (do let _ <- comprehension (.ListComp elt [⟨tg,iter,ifs,0⟩] scope pos) scope X.env _ (newList []) false (eval iter X.env) (some (assign (.Name y K) X.env))) _ _ s
 refine wpAny_bind (wpAny_mono (wpAny_comprehension_free (use:=some (assign (.Name y K) X.env)) (Q:=fun _ r=>SP X d j .next r) rfl hs A L.kind (fun y hy hl=>mem_lookup L.nod (by rw[<- hl];exact hy))
  (wpAny_mono (hi d s M H _ I h) (fun v s1 h1=>wpAny_mono h1 (fun itv s2 h2=>?_) fun _ _ e=>e) fun _ _ e=>e)) (fun _ r hq=>wpAny_pure (wpAny_pure hq)) fun _ _ e=>e)
 obtain⟨it,fp,tn,J,H2,rfl,G,T,U,N,W,w0,O⟩:=h2
 refine Ad4 (F:=fun f H=>∀p,H p=none->j.nx (M.set i (some (.ref p))) (upd H p (.lst f))) (RR:=fun f C=>compPost (model X.prog X.w) X.A X.xe (some (assign (.Name y K) X.env)) (fun _ r=>SP X d j .next r) f C) L hc hg ht he c1 c2 G T U N W w0 O ?_
 intro D C r f V n Y m hD P Z hn hDo rv hz k hC' ho hg' l hk q;have S:HOk X.prog X.w (upd Y D (.lst f)) r.heap:=hk.track k ⟨hz,V,n,rv,hDo⟩
 have neD:∀b o,s2.heap.get? b=some o->b≠D:=fun b o e=>Nat.ne_of_lt (Nat.lt_of_lt_of_le (Heap.lt_size e) hD)
 have u2:Un (frs X.stack) fp H2 (upd Y D (.lst f)) s2.heap r.heap :=
  ⟨
   l.keep,l.slot,fun b o e n1 n2=>by rw[Ar (neD b o e)];exact l.free b o e n1 n2,l.there,
   fun b xs e=>by rw[Ar (Bv (l.tups b xs e) k)];exact l.tups b xs e,fun b o u e=>by rw[Ar (Bv (l.frzs b o u e) k)];exact l.frzs b o u e,
   fun b ps e=>by rw[Ar (Bv (l.tbls b ps e) k)];exact l.tbls b ps e⟩
 have I3:Inv X d M (upd Y D (.lst f)) r:=G.call' ho u2 S hg' (fun b E=>⟨(N b E).2.2.2.1,(N b E).2.1,(N b E).2.2.2.2.1,(N b E).2.2.2.2.2⟩)
 have hCL:C≠X.env.locals:=Nat.ne_of_gt (Nat.lt_of_lt_of_le G.lt P)
 have hCc:∀x c,X.env.cells.lookup x=some c->c≠C:=fun x c e z=>by
  obtain⟨v,w⟩:=G.cell x c e
  exact absurd (Nat.lt_of_lt_of_le w.lt (by rw[z];exact P)) (Nat.lt_irrefl _)
 have hCp:∀p∈X.pn++d,p.1≠C:=fun p hp z=>absurd (Nat.lt_of_lt_of_le (Heap.lt_size (G.pin p hp).1) (by rw[z];exact P)) (Nat.lt_irrefl _)
 refine wpAny_assign_Name (Yi (v:=.ref D) I3 hN hi' hy rfl (fun s4 I4 ⟨a,sb,ha⟩=>?_) hf)
 have hCa:C≠a:=by
  grind
 refine⟨m,hn.sameBut sb hCa,fun h' R=>?_⟩
 refine⟨_,_,I4.turned  (fun b o E e=>R.extBut b o E e) ?_ hCL (.inr (Nat.le_trans G.sz P)) hCc hCp,q D k⟩
 rw[Ar (Ne.symm Z)];exact hC'
end
section
variable {X:Cx}
def Oq (H:Hp):V->Option String
 | .non=>some "NoneType" | .bl _=>some "bool" | .int _=>some "int" | .str _=>some "str"
 | .ref a=>match H a with
  | some (.lst _)=>some "list"
  | some (.tup _)=>some "tuple"
  | some (.dK _)=>some "dict"
  | some (.dT _)=>some "dict"
  | _=>none
 | _=>none
section
variable {X:Cx}{pins:List (Addr×Obj)}{σ:St}{H:Hp}{s:Shared}
theorem A4v    (I:Inv X pins σ H s) (f:RelV x u) (h:Oq H x=some t):∃hp:Heap->Prop,PySem.W.KitX X.K u (.type t) hp/\hp s.heap/\u≠.builtin "__main__.__loader__#opaque" := by
 cases x with
 | non=>cases h;cases (f);exact⟨_,PySem.W.kitx_none,True.intro,fun z=>nomatch z⟩
 | bl b=>cases h;cases (f);exact⟨_,PySem.W.kitx_bool,True.intro,fun z=>nomatch z⟩
 | int i=>cases h;obtain⟨t,rfl⟩:=f;exact⟨_,PySem.W.kitx_int,True.intro,fun z=>nomatch z⟩
 | str y=>cases h;obtain⟨t,rfl⟩:=f;exact⟨_,PySem.W.kitx_str,True.intro,fun z=>nomatch z⟩
 | ref a =>
  cases (f)
  have c:∀T,PySem.W.KitX X.K (.ref a) (.type T) (PySem.W.KitAt a T)->PySem.W.KitAt a T s.heap->some T=some t->∃hp:Heap->Prop,PySem.W.KitX X.K (.ref a) (.type t) hp/\hp s.heap/\Value.ref a≠.builtin "__main__.__loader__#opaque" := fun T k p q=>by grind
  have h:(match H a with | some (.lst _)=>some _ | some (.tup _)=>some _ | some (.dK _)=>some _ | some (.dT _)=>some _ | _=>none)=some t:=h
  split at h
  ·rename_i l e
   obtain⟨_,_,n,_,d⟩:=(show z9 _ _ H _ a _ from I.hok a _ e)
   exact c _ PySem.W.kitx_list ⟨_,d,rfl⟩ h
  ·rename_i l e
   obtain⟨_,_,_,o,d,g,_⟩:=(show z9 _ _ H _ a _ from I.hok a _ e)
   exact c _ PySem.W.kitx_tuple ⟨o,d,g⟩ h
  ·rename_i j e
   obtain⟨_,_,vs,_,o,r,m,d,g,_⟩:=(show z9 _ _ H _ a _ from I.hok a _ e)
   exact c _ PySem.W.kitx_dict ⟨o,d,g.1⟩ h
  ·rename_i j e
   obtain⟨_,_,l,_,o,r,m,d,g,_⟩:=(show z9 _ _ H _ a _ from I.hok a _ e)
   exact c _ PySem.W.kitx_dict ⟨o,d,g.1⟩ h
  grind
 | byt b=>cases h
 | flt b=>cases h
 | ty n=>cases h
end
def Fq (t T:String):Option Bool:=if ["NoneType", "bool", "int", "str", "list", "tuple", "dict"].contains t&&["int", "str", "bool", "list", "tuple"].contains T then some (t==T||(t == "bool" && T == "int")) else none
theorem Ag2 {K:PySem.W.Frag}   (h:Fq t T=some b):PySem.W.kitOne K (.type t) (.type T)=some b:=by
 unfold Fq at h
 split at h
 ·rename_i a
  cases h
  simp only[Bool.and_eq_true,List.contains_iff_mem,List.mem_cons,List.not_mem_nil,or_false]at a;obtain⟨c,d⟩:=a
  rcases c with rfl | rfl | rfl | rfl | rfl | rfl | rfl <;> rcases d with rfl | rfl | rfl | rfl | rfl <;> with_unfolding_all rfl
 ·cases h
theorem A7w:zB X (.builtin "isinstance") (fun xs H Q=>∃x T t b,xs=[x,.ty T]/\Oq H x=some t/\Fq t T=some b/\Q (.bl b) H):=by
 intro a s σ H xs us Q I r h;obtain⟨x,T,t,b,rfl,f,c,q⟩:=h;obtain⟨u,v,rfl,e,d⟩:=Vals.two r
 cases (d)
 obtain⟨hp,z,p,g⟩:=A4v I e f
 exact PySem.W.kia_one z I.kIn p (Ag2 c) g fun tk=>⟨.bl b,H,I.tok _,rfl,q⟩
theorem walk_seq          (m:A.handled=none) (I:Inv X pins d H s) (h:SqL X.K H a xs)
 (k:∀(c:List Value) (J:Addr) (s2:Shared),Vals xs c->Walks X.prog X.w A J [J,a] [J] c.length (fun i v=>c[i]?=some v) (fun i h=>h.IsListIter J a i/\h.IsList a c.toArray)->s2.heap.IsListIter J a 0/\s2.heap.IsList a c.toArray->(∀b∈[J,a],b<s2.heap.objs.size) ->
  Inv X pins d H s2->(∀f l,(∀b o,b∉[J]->s2.heap.get? b=some o->f.get? b=some o)->Inv X pins d H { s2 with heap:=f,toks:=l })->R (.ref J) s2) :
 wpAny (model X.prog X.w) A (pyIter (.ref a)) R E s:=by
 obtain⟨c,n,p,D⟩:=I.list h
 refine wpAny_pyIter_list p.isList ?_
 have u:a<s.heap.objs.size:=let ⟨_,e,_⟩:=p.isList; Heap.lt_size e
 have g:a≠s.heap.objs.size:=Nat.ne_of_lt u;have W:=Walks.list (prog:=X.prog) (w:=X.w) (A:=A) m s.heap.objs.size a g c.toArray;rw[List.size_toArray]at W
 have j:Inv X pins d H { s with heap:=s.heap.push { cls:=.type "list_iterator",data:=.fields #[.ref a,.int 0 0] } }:=I.kept (t':=s.toks) fun b o e=>Heap.get?_push_of_some _ e
 refine k c s.heap.objs.size _ n (by simp_all) ⟨⟨_,Heap.get?_push_size _ rfl,rfl,rfl⟩,let ⟨o,e,r⟩:=p.isList; ⟨o,Heap.get?_push_of_some _ e,r⟩⟩ ?_ j fun f l x=>?_
 ·intro b z
  have e:=Heap.size_push s.heap { cls:=.type "list_iterator",data:=.fields #[.ref a,.int 0 0] }
  grind
 ·obtain⟨q,B,F,y,C,t⟩:=(I.fpOk (b:=s.heap.objs.size) (Nat.le_refl _) (I.hok.fresh (Nat.le_refl _)))
  exact j.turned  (fun b o z e=>x b o (by simp_all) e) q B y C t
theorem Ad2   {bs:List Bool}(r:Vals (bs.map V.bl) a):TruthOf X.prog X.w A (fun i v=>a[i]?=some v) (fun i=>bs.getD i false):=by
 intro i v s Q E c b;have h  := (List.getElem?_eq_some_iff.mp c).1
 have g:i<bs.length:=by have:=r.length;simp_all
 obtain⟨u,d,f⟩:=r.get (i:=i) (x:=V.bl bs[i]) (by simp_all)
 rw[c]at d
 cases d
 cases (show v=Value.bool _ from f)
 have e:bs.getD i false=bs[i]:=by simp_all
 have b:Q (bs.getD i _) s:=b;rw[e]at b;exact wpAny_truthy_bool b
theorem range_all (bs:List Bool):(List.range bs.length).all (fun i=>bs.getD i false)=bs.all id:=by
 rw[Bool.eq_iff_iff];simp only[List.all_eq_true,List.mem_range]
 constructor
 ·intro h b d
  obtain⟨i,a,c⟩:=List.getElem_of_mem d
  simp_all
 ·intro h i a
  simpa[a] using h _ (List.getElem_mem _)
theorem A1u (hc:X.calm=true):zB X (.builtin "all") (fun xs H Q=>∃(a:Addr) (b:List Bool),xs=[.ref a]/\SqL X.K H a (b.map V.bl)/\Q (.bl (b.all id)) H):=by
 intro d s σ H xs us Q I r h;obtain⟨a,b,rfl,i,q⟩:=h;obtain⟨u,rfl,g⟩:=vals1 r
 cases (g)
 refine call_all_walk (walk_seq  (I.ok.hd hc) I i fun c J s2 f W l hb I2 k=>⟨J,_,_,_,_,_,_,rfl,W,l,Ad2 f,fun h' tk j=>?_⟩)
 have e:c.length=b.length:=by rw[<- f.length,List.length_map]
 rw[e,range_all];exact⟨.bl _,H,k _ _ j,rfl,q⟩
end
mutual
def Tr (H:Hp):PyData->V->Prop
 | .none,v=>v=.non
 | .bool b,v=>v=.bl b
 | .int i,v=>v=.int i
 | .str x,v=>v=.str x
 | .list ds,v=>∃a vs,v=.ref a/\H a=some (.lst vs)/\TrL H ds vs
 | .tuple ds,v=>∃a vs,v=.ref a/\H a=some (.tup vs)/\TrL H ds vs
 | .dict _,_=>False
def TrL (H:Hp):List PyData->List V->Prop
 | [],vs=>vs=[]
 | d::ds,vs=>∃v r,vs=v::r/\Tr H d v/\TrL H ds r
end
theorem TrL.length {H:Hp}:∀{ds:List PyData}{vs:List V},TrL H ds vs->ds.length=vs.length
 | [],_,h=>by cases (show _=[] from h);rfl
 | d::ds,_,h=>by
  obtain⟨v,r,rfl,_,t⟩:=h;rw[List.length_cons,List.length_cons,TrL.length t]
mutual
theorem Tr.same {H H':Hp}(S:Same H H'):∀{d:PyData}{v:V},Tr H d v->Tr H' d v
 | .none,_,h=>h
 | .bool _,_,h=>h
 | .int _,_,h=>h
 | .str _,_,h=>h
 | .list ds,_,⟨a,vs,e,ha,t⟩=>⟨a,vs,e,S _ _ ha,TrL.same S t⟩
 | .tuple ds,_,⟨a,vs,e,ha,t⟩=>⟨a,vs,e,S _ _ ha,TrL.same S t⟩
theorem TrL.same {H H':Hp}(S:Same H H'):∀{ds:List PyData}{vs:List V},TrL H ds vs->TrL H' ds vs
 | [],_,h=>h
 | d::ds,_,⟨v,r,e,h,t⟩=>⟨v,r,e,Tr.same S h,TrL.same S t⟩
end
def B2o (H H':Hp):Prop:=∀b xs,H b=some (.tup xs)->H' b=some (.tup xs)
section
variable {X:Cx}{pins:List (Addr×Obj)}{σ:St}{H:Hp}{s:Shared}
mutual
theorem Tr.reads (I:Inv X pins σ H s):∀{d:PyData}{v:V}{u:Value},Tr H d v->RelV v u->∃as,Reads s.heap u d as
 | .none,_,u=>fun h r=>by
  cases (show _=V.non from h)
  cases (show u=Value.none from r)
  exact⟨_,.none⟩
 | .bool b,_,u=>fun h r=>by
  cases (show _=V.bl b from h)
  cases (show u=Value.bool b from r)
  exact⟨_,.bool b⟩
 | .int i,_,u=>fun h r=>by
  cases (show _=V.int i from h)
  obtain⟨t,rfl⟩:=r;exact⟨_,.int i t⟩
 | .str x,_,u=>fun h r=>by
  cases (show _=V.str x from h)
  obtain⟨t,rfl⟩:=r;exact⟨_,.str x t⟩
 | .list ds,_,u=>fun h r=>by
  obtain⟨a,vs,rfl,ha,t⟩:=h
  cases (show u=Value.ref a from r)
  obtain⟨z,its,n,rv,e⟩:=I.hok a _ ha;obtain⟨as,q⟩:=TrL.reads I t rv
  exact⟨_,.list e rfl rfl (by simpa using q)⟩
 | .tuple ds,_,u=>fun h r=>by
  obtain⟨a,vs,rfl,ha,t⟩:=h
  cases (show u=Value.ref a from r)
  obtain⟨z,its,rv,o,e,c,⟨n,dt⟩,_⟩:=I.hok a _ ha;obtain⟨as,q⟩:=TrL.reads I t rv
  exact⟨_,.tuple e c dt (by simpa using q)⟩
 | .dict k,_,u=>fun h r=>False.elim h
theorem TrL.reads (I:Inv X pins σ H s):∀{ds:List PyData}{vs:List V}{us:List Value},TrL H ds vs->Vals vs us->∃as,ReadsAll s.heap us ds as
 | [],_,us=>fun h r=>by
  cases (show _=[] from h)
  cases r
  exact⟨_,.nil⟩
 | d::ds,_,us=>fun h r=>by
  obtain⟨v,vs,rfl,hv,t⟩:=h
  cases r with
  | cons r1 r2 =>
   obtain⟨as,q⟩:=Tr.reads I hv r1;obtain⟨bs,p⟩:=TrL.reads I t r2;exact⟨_,.cons q p⟩
end
end
def Flat (d:PyData):Prop:=d.canLay0=true/\d.depth<=40
section
variable {X:Cx}
theorem Bj9  (hu:u+64<c) (hb:b<=40):u+min a b<c:=Nat.lt_of_le_of_lt (Nat.add_le_add_left (Nat.le_trans (Nat.min_le_right a b) (Nat.le_trans hb (by decide))) u) hu
theorem Rn  (hu:u+64<c) (hb:b<=40):u+1+min a b<c:=Nat.lt_of_le_of_lt (Nat.le_trans (Nat.add_le_add_left (Nat.le_trans (Nat.min_le_right a b) hb) _) (Nat.add_le_add_left (show 1+40<=64 by decide) u)) hu
theorem Bv7 (hu:X.A.units+64<cLine):OpR X (compareOp .Eq) (fun x y H Q=>∃a b,Tr H a x/\Tr H b y/\Flat a/\Flat b/\Q (.bl (PyData.eqv a b)) H):=by
 intro c s n H x y v u Q I g f h;obtain⟨a,b,i,j,k,d,q⟩:=h;obtain⟨m,l⟩:=i.reads I g;obtain⟨o,e⟩:=j.reads I f;exact SeqAt.compareEq_reads l e k.1 d.1 (Bj9 hu d.2) ⟨.bl _,H,I,rfl,q⟩
theorem Bq2 (hu:X.A.units+64<cLine):OpR X (compareOp .NotEq) (fun x y H Q=>∃a b,Tr H a x/\Tr H b y/\Flat a/\Flat b/\Q (.bl (!PyData.eqv a b)) H):=by
 intro c s n H x y v u Q I g f h;obtain⟨a,b,i,j,k,d,q⟩:=h;obtain⟨m,l⟩:=i.reads I g;obtain⟨o,e⟩:=j.reads I f;exact SeqAt.compareNe_reads l e k.1 d.1 (Bj9 hu d.2) ⟨.bl _,H,I,rfl,q⟩
theorem Br8 (hu:X.A.units+64<cLine):OpR X (compareOp .In) (fun x y H Q=>∃d a,Tr H d x/\(Tr H (.list a) y\/Tr H (.tuple a) y)/\Flat d/\PyData.canLayAll0 a=true/\Q (.bl (a.any fun e=>PyData.eqv e d)) H):=by
 intro i s o H x y v u Q I n g h;obtain⟨d,a,l,b,c,j,q⟩:=h;obtain⟨p,k⟩:=l.reads I n
 rcases b with b | b
 ·obtain⟨m,f⟩:=b.reads I g
  exact SeqAt.in_list_reads f k j c.1 (Rn hu c.2) ⟨.bl _,H,I,rfl,q⟩
 ·obtain⟨m,f⟩:=b.reads I g
  exact SeqAt.in_tuple_reads f k j c.1 (Rn hu c.2) ⟨.bl _,H,I,rfl,q⟩
theorem A0d (hu:X.A.units+64<cLine):OpR X (compareOp .NotIn) (fun x y H Q=>∃d ds,Tr H d x/\(Tr H (.list ds) y\/Tr H (.tuple ds) y)/\Flat d/\PyData.canLayAll0 ds=true/\Q (.bl (!ds.any fun e=>PyData.eqv e d)) H):=by
 intro g s σ H x y v u Q I m f h;obtain⟨d,ds,k,a,b,i,q⟩:=h;obtain⟨as,j⟩:=k.reads I m
 rcases a with a | a
 ·obtain⟨l,c⟩:=a.reads I f
  exact SeqAt.notIn_list_reads c j i b.1 (Rn hu b.2) ⟨.bl _,H,I,rfl,q⟩
 ·obtain⟨l,c⟩:=a.reads I f
  exact SeqAt.notIn_tuple_reads c j i b.1 (Rn hu b.2) ⟨.bl _,H,I,rfl,q⟩
end
mutual
def Kl (gt:Bool):PyData->PyData->Option Bool
 | .int i,.int j=>some (if gt then decide (j<i) else decide (i<j))
 | .str i,.str j=>some (if gt then decide (j.cps.toList<i.cps.toList) else decide (i.cps.toList<j.cps.toList))
 | .tuple xs,.tuple ys=>Ld gt xs ys
 | _,_=>none
def Ld (gt:Bool):List PyData->List PyData->Option Bool
 | [],[]=>some false
 | [],_::_=>some (!gt)
 | _::_,[]=>some gt
 | x::xs,y::ys=>if PyData.eqv x y=true then Ld gt xs ys else Kl gt x y
end
abbrev opG (gt:Bool):CmpOp:=if gt then .Gt else .Lt
def Bv5 (gt:Bool)(A:Around)(s:Shared)(a b:Value)(r:Bool):Prop :=
 ∀(prog:Program) (w:World) (E:Value->Shared->Prop) (Q:Value->Shared->Prop),Q (.bool r) s->wpAny (model prog w) A (richCompare (opG gt) a b) Q E s
inductive Oj (gt:Bool) (A:Around) (s:Shared):List Value->List Value->Bool->Prop
 | nn:Oj gt A s [] [] false
 | nc {y ys}:Oj gt A s [] (y::ys) (!gt)
 | cn {x xs}:Oj gt A s (x::xs) [] gt
 | eq {x xs y ys r}:SeqAt.EqAt A s x y true->Oj gt A s xs ys r->Oj gt A s (x::xs) (y::ys) r
 | ne {x xs y ys r}:SeqAt.EqAt A s x y false->Bv5 gt A s x y r->Oj gt A s (x::xs) (y::ys) r
section
open PySem.SeqAt
open PySem.AutoSeq1 (wpAny_loadPart')
open PySem.MeetsSeq PySem.MeetsSeq2 PySem.MeetsSeq3
theorem Y5 (l b:Addr)(items a:Array Value)(n n2:Nat)(dd dd2:Option Addr)(sl sl2:Array (Option Value))(r:Bool) :
 Meets (Builtin.«tuple.__lt__» ⟨[.ref l,.ref b],[]⟩)
  (fun A R s=>s.heap.get? l=some { cls:=.type "tuple",dict:=dd,data:=.seq items n,slots:=sl }/\s.heap.get? b=some { cls:=.type "tuple",dict:=dd2,data:=.seq a n2,slots:=sl2 } /\
   Oj false A.in1 s items.toList a.toList r/\R (.ok (.ret (.bool r))) s) :=
 .of_wp fun f w A R s h=>by
  obtain⟨hp,g,d,tk,os⟩:=s;obtain⟨hl,hb,hx,h⟩:=h;have f2:=AutoSeq1.sub_tuple_tuple
  wp_walk using wpAny_loadPart' hl,wpAny_loadPart' hb,wpAny_forIn_list _ (fun rest b s'=>b.1=none/\s'=⟨hp,g,d,tk,os⟩/\∃(vs ws:List Value),rest=vs.zip ws /\
   vs.length+a.size=ws.length+items.size/\Oj false A.in1 ⟨hp,g,d,tk,os⟩ vs ws r) _
  case turn =>
   rintro⟨y,x⟩ rest b s' ⟨hb',rfl,vs,ws,e,c,hR⟩
   cases hR with
   | nn=>rw[List.zip_nil_left]at e;cases e
   | nc=>rw[List.zip_nil_left]at e;cases e
   | cn=>rw[List.zip_nil_right]at e;cases e
   | eq he hr =>
    rw[List.zip_cons_cons]at e
    injection e with hyx hrest
    injection hyx with hy hx
    subst hy hx;simp only[List.length_cons]at c
    refine wpAny_bind (he f w _ _ ?_)
    wp_walk
    exact⟨rfl,rfl,_,_,hrest,by omega,hr⟩
   | ne he hr =>
    rw[List.zip_cons_cons]at e
    injection e with hyx hrest
    injection hyx with hy hx
    subst hy hx
    refine wpAny_bind (he f w _ _ ?_)
    have hri:∀(E:Value->Shared->Prop) (Q:Value->Shared->Prop),Q (.bool r) ⟨hp,g,d,tk,os⟩->wpAny (model f w) A.in1 (richCompare .Lt y x) Q E ⟨hp,g,d,tk,os⟩:=hr f w
    wp_walk using hri
    exact⟨_,rfl,by simpa using h⟩
  case fin =>
   rintro⟨b1,b2⟩ s' ⟨hb',rfl,vs,ws,e,c,hR⟩
   simp only at hb';subst hb'
   have hv:r=decide (items.size<a.size):=by
    cases hR with
    | nn=>exact(decide_eq_false (by simp only[List.length_nil]at c;omega)).symm
    | nc=>simp only[List.length_nil,List.length_cons]at c;exact(decide_eq_true (by omega)).symm
    | cn=>simp only[List.length_nil,List.length_cons]at c;exact(decide_eq_false (by omega)).symm
    | eq=>rw[List.zip_cons_cons]at e;cases e
    | ne=>rw[List.zip_cons_cons]at e;cases e
   rw[hv]at h
   wp_walk
   exact⟨_,rfl,by simpa[Builtin.Tuple.tupleCompareSizes] using h⟩
  case h =>
   exact⟨rfl,rfl,items.toList,a.toList,rfl,by simp;omega,hx⟩
theorem Yt (l b:Addr)(items a:Array Value)(n n2:Nat)(dd dd2:Option Addr)(sl sl2:Array (Option Value))(r:Bool) :
 Meets (Builtin.«tuple.__gt__» ⟨[.ref l,.ref b],[]⟩)
  (fun A R s=>s.heap.get? l=some { cls:=.type "tuple",dict:=dd,data:=.seq items n,slots:=sl }/\s.heap.get? b=some { cls:=.type "tuple",dict:=dd2,data:=.seq a n2,slots:=sl2 } /\
   Oj true A.in1 s items.toList a.toList r/\R (.ok (.ret (.bool r))) s) :=
 .of_wp fun f w A R s h=>by
  obtain⟨hp,g,d,tk,os⟩:=s;obtain⟨hl,hb,hx,h⟩:=h;have f2:=AutoSeq1.sub_tuple_tuple
  wp_walk using wpAny_loadPart' hl,wpAny_loadPart' hb,wpAny_forIn_list _ (fun rest b s'=>b.1=none/\s'=⟨hp,g,d,tk,os⟩/\∃(vs ws:List Value),rest=vs.zip ws /\
   vs.length+a.size=ws.length+items.size/\Oj true A.in1 ⟨hp,g,d,tk,os⟩ vs ws r) _
  case turn =>
   rintro⟨y,x⟩ rest b s' ⟨hb',rfl,vs,ws,e,c,hR⟩
   cases hR with
   | nn=>rw[List.zip_nil_left]at e;cases e
   | nc=>rw[List.zip_nil_left]at e;cases e
   | cn=>rw[List.zip_nil_right]at e;cases e
   | eq he hr =>
    rw[List.zip_cons_cons]at e
    injection e with hyx hrest
    injection hyx with hy hx
    subst hy hx;simp only[List.length_cons]at c
    refine wpAny_bind (he f w _ _ ?_)
    wp_walk
    exact⟨rfl,rfl,_,_,hrest,by omega,hr⟩
   | ne he hr =>
    rw[List.zip_cons_cons]at e
    injection e with hyx hrest
    injection hyx with hy hx
    subst hy hx
    refine wpAny_bind (he f w _ _ ?_)
    have hri:∀(E:Value->Shared->Prop) (Q:Value->Shared->Prop),Q (.bool r) ⟨hp,g,d,tk,os⟩->wpAny (model f w) A.in1 (richCompare .Gt y x) Q E ⟨hp,g,d,tk,os⟩:=hr f w
    wp_walk using hri
    exact⟨_,rfl,by simpa using h⟩
  case fin =>
   rintro⟨b1,b2⟩ s' ⟨hb',rfl,vs,ws,e,c,hR⟩
   simp only at hb';subst hb'
   have hv:r=decide (a.size<items.size):=by
    cases hR with
    | nn=>exact(decide_eq_false (by simp only[List.length_nil]at c;omega)).symm
    | nc=>simp only[List.length_nil,List.length_cons]at c;exact(decide_eq_false (by omega)).symm
    | cn=>simp only[List.length_nil,List.length_cons]at c;exact(decide_eq_true (by omega)).symm
    | eq=>rw[List.zip_cons_cons]at e;cases e
    | ne=>rw[List.zip_cons_cons]at e;cases e
   rw[hv]at h
   wp_walk
   exact⟨_,rfl,by simpa[Builtin.Tuple.tupleCompareSizes] using h⟩
  case h =>
   exact⟨rfl,rfl,items.toList,a.toList,rfl,by simp;omega,hx⟩
end
theorem Bn8       (hl:s.heap.IsTuple l items) (hb:s.heap.IsTuple b a) (hx:Oj f A.in1 s items.toList a.toList r) (hu:A.units<cLine):Bv5 f A s (.ref l) (.ref b) r:=by
 intro m w E Q h;obtain⟨⟨o,y,k,v⟩,d,p,n,u⟩:=id hl;obtain⟨⟨j,t,g,q⟩,c,i,z,e⟩:=id hb;subst p u i e
 cases f with
 | false =>
  exact richCompare_meets_room  ⟨_,d,rfl⟩ ⟨_,c,rfl⟩ PySem.F.slot_tuple_lt PySem.F.entry_tuple_lt (PySem.F.args_tuple_lt_2 _ _) (Y5 l b _ _ n _ _ _ _ _ r)
   ⟨d,c,hx,show Value.bool r≠Value.notImplemented/\Q _ s from ⟨(fun x=>nomatch x),h⟩⟩ hu
 | true =>
  exact richCompare_meets_room  ⟨_,d,rfl⟩ ⟨_,c,rfl⟩ PySem.F.slot_tuple_gt PySem.F.entry_tuple_gt (PySem.F.args_tuple_gt_2 _ _) (Yt l b _ _ n _ _ _ _ _ r)
   ⟨d,c,hx,show Value.bool r≠Value.notImplemented/\Q _ s from ⟨(fun x=>nomatch x),h⟩⟩ hu
mutual
theorem A5z (gt:Bool):∀(da db:PyData) (A:Around) (s:Shared) (a b:Value) (as bs:List Addr) (r:Bool),Reads s.heap a da as->Reads s.heap b db bs->da.canLay0=true->db.canLay0=true->A.units+da.depth<cLine->Kl gt da db=some r->Bv5 gt A s a b r
 | .int i,db,A,s,a,b,as,bs,r,ra,rb,ca,cb,hu,h=>by
  cases db with
  | int j =>
   cases ra
   cases rb
   cases h
   intro prog w E Q q
   cases gt with
   | false=>exact(PyProof.Rows.lt_int q:wpAny (model prog w) A (compareOp .Lt _ _) Q E s)
   | true=>exact(PyProof.Rows.gt_int q:wpAny (model prog w) A (compareOp .Gt _ _) Q E s)
  | _=>cases h
 | .str i,db,A,s,a,b,as,bs,r,ra,rb,ca,cb,hu,h=>by
  cases db with
  | str j =>
   cases ra
   cases rb
   cases h
   intro prog w E Q q
   cases gt with
   | false=>exact(PyProof.Rows.lt_str q:wpAny (model prog w) A (compareOp .Lt _ _) Q E s)
   | true=>exact(PySem.P.gt_str q:wpAny (model prog w) A (compareOp .Gt _ _) Q E s)
  | _=>cases h
 | .tuple xs,db,A,s,a,b,as,bs,r,ra,rb,ca,cb,hu,h=>by
  cases db with
  | tuple ys =>
   cases ra with
   | tuple h1 h2 h3 h4 =>
    cases rb with
    | tuple g1 g2 g3 g4 =>
     have hu':A.units+(PyData.depthAll xs+1)<cLine:=hu
     exact Bn8 ⟨_,h1,h2,_,h3⟩ ⟨_,g1,g2,_,g3⟩ (O7 gt xs ys A.in1 s _ _ _ _ r h4 g4 ca cb (by show A.units+1+PyData.depthAll xs<cLine;omega) h) (by omega)
  | _=>cases h
 | .none,db,A,s,a,b,as,bs,r,ra,rb,ca,cb,hu,h=>by cases db <;> cases h
 | .bool _,db,A,s,a,b,as,bs,r,ra,rb,ca,cb,hu,h=>by cases db <;> cases h
 | .list _,db,A,s,a,b,as,bs,r,ra,rb,ca,cb,hu,h=>by cases db <;> cases h
 | .dict _,db,A,s,a,b,as,bs,r,ra,rb,ca,cb,hu,h=>by cases db <;> cases h
theorem O7 (gt:Bool):∀(xs ys:List PyData) (A:Around) (s:Shared) (vs ws:List Value) (as bs:List Addr) (r:Bool),ReadsAll s.heap vs xs as->ReadsAll s.heap ws ys bs->PyData.canLayAll0 xs=true->PyData.canLayAll0 ys=true->A.units+PyData.depthAll xs<cLine->Ld gt xs ys=some r->Oj gt A s vs ws r
 | [],[],A,s,vs,ws,as,bs,r,ra,rb,ca,cb,hu,h=>by cases ra;cases rb;cases h;exact .nn
 | [],y::ys,A,s,vs,ws,as,bs,r,ra,rb,ca,cb,hu,h=>by cases ra;cases rb;cases h;exact .nc
 | x::xs,[],A,s,vs,ws,as,bs,r,ra,rb,ca,cb,hu,h=>by cases ra;cases rb;cases h;exact .cn
 | x::xs,y::ys,A,s,vs,ws,as,bs,r,ra,rb,ca,cb,hu,h=>by
  cases ra with
  | cons r1 r2 =>
   cases rb with
   | cons q1 q2 =>
    have ca':=Bool.and_eq_true_iff.mp ca;have cb':=Bool.and_eq_true_iff.mp cb;have hu':A.units+max x.depth (PyData.depthAll xs)<cLine:=hu
    have e:=SeqAt.eqAt_reads x y A s _ _ _ _ r1 q1 ca'.1 cb'.1 (by omega)
    rw[Ld]at h
    by_cases he:PyData.eqv x y=true
    ·rw[if_pos he]at h
     rw[he]at e
     exact .eq e (O7 gt xs ys A s _ _ _ _ r r2 q2 ca'.2 cb'.2 (by omega) h)
    ·rw[if_neg he]at h
     rw[Bool.not_eq_true _ |>.mp he]at e
     exact .ne e (A5z gt x y A s _ _ _ _ r r1 q1 ca'.1 cb'.1 (by omega) h)
end
section
variable {X:Cx}{pins:List (Addr×Obj)}{σ:St}{H:Hp}{s:Shared}
theorem Inv.recS     (I:Inv X (pins++(S,o)::pl) σ H s) (hS:X.s₀.heap.objs.size<=S) (hp:∀p∈pins++pl,p.1≠S) (hpn:∀p∈X.pn,p.1≠S)
 (hu:(s.heap.update S f).get? S=some o') (hd:∀v,o'.data≠.cell v):Inv X (pins++(S,o')::pl) σ H { s with heap:=s.heap.update S f }:=by
 obtain⟨p1,p2,p3,p4,p5⟩:=I.pin (S,o) (List.mem_append_right _ (List.mem_append_right _ List.mem_cons_self))
 have I0:Inv X [] σ H s:=I.pins_of fun p hp=>nomatch hp
 have I1:Inv X [] σ H { s with heap:=s.heap.update S f }:=I0.turned (t':=s.toks) (fun b u hb e=>(Heap.get?_update_other s.heap f (Ne.symm hb)).trans e) p2 p3 (.inr hS) (fun x c e z=>by
  obtain⟨v,ob,ho,hdc⟩:=I.cell x c e
  rw[z,p1]at ho;cases ho;exact p5 v hdc) (fun p hp' z=>by
   have hp':p∈X.pn++[]:=hp';rw[List.append_nil]at hp'
   exact hpn p hp' z)
 refine I1.pins_of fun p hpp=>?_
 have keep:∀p∈pins++pl,(s.heap.update S f).get? p.1=some p.2/\H p.1=none/\p.1≠X.env.locals/\p.1∉X.fs/\∀v,p.2.data≠.cell v:=fun p hpm=>by
  have hpm':p∈X.pn++(pins++(S,o)::pl):=List.mem_append_right _ (by
   rcases List.mem_append.mp hpm with z | z
   ·exact List.mem_append_left _ z
   ·exact List.mem_append_right _ (List.mem_cons_of_mem _ z))
  obtain⟨q1,q2,q3,q4,q5⟩:=I.pin p hpm';exact⟨(Heap.get?_update_other s.heap f (Ne.symm (hp p hpm))).trans q1,q2,q3,q4,q5⟩
 rcases List.mem_append.mp hpp with z | z
 ·exact keep p (List.mem_append_left _ z)
 ·rcases List.mem_cons.mp z with rfl | z
  ·exact⟨hu,p2,p3,p4,hd⟩
  ·exact keep p (List.mem_append_right _ z)
end
def Az9 (H:Hp):V->Option Nat
 | .ref p=>match H p with
  | some (.lst xs)=>some xs.length
  | some (.tup xs)=>some xs.length
  | _=>none
 | .str z=>if z.length<=sizeLine then some z.length else none
 | _=>none
def rAppF:V->List V->Hp->VK->Prop:=fun x vs H Q=>∃l y xs,x=.ref l/\vs=[y]/\H l=some (.lst xs)/\xs.length<sizeLine/\Q .non (upd H l (.lst (xs++[y])))
def Br1 (K:PySem.W.Frag)(tl:TE):TI:=fun σ H R=>tl σ H fun x H1=>∃a,x=.ref a/\((∃xs,H1 a=some (.lst xs)/\R (Itl K a) H1)\/(∃xs,H1 a=some (.tup xs)/\R (Itt K a) H1))
section
variable {X:Cx}
theorem A2o:zB X (.builtin "len") (fun xs H Q=>∃x n,xs=[x]/\Az9 H x=some n/\Q (.int (n:Nat)) H):=by
 intro a s σ H xs us Q I r h;obtain⟨x,n,rfl,e,q⟩:=h
 refine Aj1 _ s _ H _ _ Q I r ⟨x,n,rfl,?_,q⟩
 cases x with
 | ref p =>
  have e:(match H p with | some (.lst _)=>some _ | some (.tup _)=>some _ | _=>none)=some n:=e
  cases hp:H p with
  | none=>simp_all
  | some o =>
   rw[hp]at e
   cases o with
   | lst xs=>cases e;exact .inl ⟨xs,SqL.of hp,rfl⟩
   | tup xs=>cases e;exact .inr ⟨xs,SqT.of hp,rfl⟩
   | _=>grind
 | str z =>
  have e:(if z.length<=sizeLine then some _ else none)=some n:=e
  split at e
  ·cases e;trivial
  trivial
 | _=>cases e
theorem Bb5:MtM X "list.append" rAppF:=by
 intro a s j H x k v m Q I e f h;obtain⟨l,y,d,c,g,i,b,q⟩:=h;exact A1g _ s _ H x _ v _ Q I e f ⟨l,d,y,c,g,i,b,q⟩
theorem Bk8   (hl:PE X l j):PI X u l (Br1 X.K j):=by
 intro k s z H R I h
 refine thn (hl _ s _ H _ I h) fun v d ⟨x,m,c,r,f⟩=>?_
 obtain⟨a,e,f⟩:=f;subst e
 cases r
 rcases f with ⟨t,i,q⟩ | ⟨t,i,q⟩
 ·obtain⟨g,w,p,y⟩:=c.list (SqL.of i)
  refine wpAny_pyIter_list p.isList ?_
  refine⟨d.heap.objs.size,[d.heap.objs.size],_,_,m,rfl,c.kept  fun b o e=>Heap.get?_push_of_some _ e,A2b a _,⟨_,Heap.get?_push_size _ rfl,rfl,rfl⟩,fun b n=>?_,q⟩
  have e:b=d.heap.objs.size:=by grind
  subst e;exact c.fpOk (Nat.le_refl _) (c.hok.fresh (Nat.le_refl _))
 ·obtain⟨g,w,p,y⟩:=c.tuple (SqT.of i)
  refine wpAny_pyIter_tuple (show d.heap.IsTuple a _ from p) ?_
  refine⟨d.heap.objs.size,[d.heap.objs.size],_,_,m,rfl,c.kept  fun b o e=>Heap.get?_push_of_some _ e,Ar9 a _,⟨_,Heap.get?_push_size _ rfl,rfl,rfl⟩,fun b n=>?_,q⟩
  have e:b=d.heap.objs.size:=by grind
  subst e;exact c.fpOk (Nat.le_refl _) (c.hok.fresh (Nat.le_refl _))
def K8 (t:String):List String->Option Bool
 | []=>some false
 | T::r=>match Fq t T with
  | some true=>some true
  | some false=>K8 t r
  | none=>none
theorem Wh {K:PySem.W.Frag}{t:String}:∀{Ts:List String}{b:Bool},K8 t Ts=some b->PySem.W.kitAny K (.type t) (Ts.map Value.type)=some b
 | [],b,h=>h
 | T::r,b,h=>by
  have h:(match Fq t T with | some true=>some true | some false=>K8 t r | none=>none)=some b:=h
  show (match PySem.W.kitOne K (.type t) (.type T) with | some true=>some true | some false=>PySem.W.kitAny K (.type t) (r.map Value.type) | none=>none)=some b
  cases e:Fq t T with
  | none=>rw[e]at h;cases h
  | some k =>
   rw[e]at h;rw[Ag2 e]
   cases k with
   | true=>exact h
   | false=>exact Wh h
theorem Ae8:∀{Ts:List String}{us:List Value},Vals (Ts.map V.ty) us->us=Ts.map Value.type
 | [],_,.nil=>rfl
 | T::r,_,.cons h t=>by
  cases (show _=Value.type T from h)
  rw[Ae8 t]
  rfl
theorem A2p:zB X (.builtin "isinstance") (fun xs H Q=>∃x p a t b,xs=[x,.ref p]/\H p=some (.tup (a.map V.ty))/\Oq H x=some t/\K8 t a=some b/\Q (.bl b) H):=by
 intro e s σ H xs us Q I r h;obtain⟨x,p,a,t,b,rfl,d,E,j,q⟩:=h;obtain⟨u,v,rfl,k,l⟩:=Vals.two r
 cases (l)
 obtain⟨z,m,w,o,y,A,⟨n,B⟩,C⟩:=I.hok p _ d;have D:=Ae8 w;subst D;obtain⟨F,dd,f,sl⟩:=o;subst A B
 have c:∀g,EP X _ _ Q _ { s with toks:=g }:=fun g=>⟨.bl b,H,I.tok _,rfl,q⟩
 obtain⟨d,z,p,i⟩:=A4v I k E;exact PySem.W.kia_tup z I.kIn p y (Wh  j) i c
end
theorem Bl1:bootBuiltins "len" = some (.builtin "len"):=by decide +kernel
theorem Bm2:bootBuiltins "abs" = some (.builtin "abs"):=by decide +kernel
theorem Hy:bootBuiltins "isinstance" = some (.builtin "isinstance"):=by decide +kernel
theorem Br6:bootBuiltins "all" = some (.builtin "all"):=by decide +kernel
theorem Bv9:bootBuiltins "min" = some (.builtin "min"):=by decide +kernel
theorem Br9:bootBuiltins "max" = some (.builtin "max"):=by decide +kernel
theorem Ao4:bootBuiltins "int" = some (.type "int"):=by decide +kernel
theorem Ur:bootBuiltins "str" = some (.type "str"):=by decide +kernel
theorem Ab4:bootBuiltins "bool" = some (.type "bool"):=by decide +kernel
theorem J0:bootBuiltins "list" = some (.type "list"):=by decide +kernel
theorem Hz:bootBuiltins "tuple" = some (.type "tuple"):=by decide +kernel
theorem Bf0:bootBuiltins "dict" = some (.type "dict"):=by decide +kernel
theorem A7p:bootBuiltins "range" = some (.type "range"):=by decide +kernel
theorem Eg {X:Cx}{N':List Str}{idx:List (Option Nat)}{scope:Scope}(h1:scope.kind=.function)(h2:(0:Nat)=0)(h3:(scope.names.map (·.1)).Nodup)
 (h4:(scope.names.all fun y=>decide (y.2≠.free)||decide (X.env.kindOf y.1=some .cell)||decide (X.env.kindOf y.1=some .free))=true) (h5:idx.length=N'.length)
 (h6:((idx.zip N').all fun p=>match p.1 with | none=>true | some i=>decide (X.N[i]?=some p.2)&&decide (scope.names.lookup p.2=some .free))=true):Ip X N' idx scope where
 kind:=h1
 nod:=h3
 free:=fun y hy hf=>by
  have h:=List.all_eq_true.mp h4 y hy;simp only[Bool.or_eq_true,decide_eq_true_eq]at h
  rcases h with (h | h) | h
  ·exact absurd hf h
  ·exact .inl h
  ·exact .inr h
 len:=h5
 at':=fun j i x e1 e2=>by
  have hz:(some i,x)∈idx.zip N':=by
   have:(idx.zip N')[j]?=some (some i,x):=by simp[List.getElem?_zip_eq_some,e1,e2]
   exact List.mem_of_getElem? this
  have h:=List.all_eq_true.mp h6 _ hz;simp only[Bool.and_eq_true,decide_eq_true_eq]at h;exact h
def U5:Expr->Option V
 | .Constant (.int i) _ _=>some (.int i)
 | .Constant (.str x) _ _=>some (.str x)
 | .Constant (.bool b) _ _=>some (.bl b)
 | .Constant .none _ _=>some .non
 | _=>none
def Qe:List Expr->Option (List V)
 | []=>some []
 | e::es=>match U5 e,Qe es with
  | some v,some vs=>some (v::vs)
  | _,_=>none
def tK (vs:List V):TA:=fun _ H Q=>Q vs H
theorem A8a    (h:U5 e=some v):PE X e (tC v)/\∀es,starEach (e::es) X.env=(false,eval e X.env)::starEach es X.env:=by
 unfold U5 at h
 split at h <;> first
  | (cases h;exact⟨A3p,fun _=>rfl⟩)
  | (cases h;exact⟨A5e,fun _=>rfl⟩)
  | (cases h;exact⟨Bj6,fun _=>rfl⟩)
  | (cases h;exact⟨A6j,fun _=>rfl⟩)
  | cases h
theorem X4 {X:Cx}:∀{es:List Expr}{vs:List V},Qe es=some vs->PA X es (tK vs)
 | [],vs,h=>by cases h;exact Vi
 | e::es,vs,h=>by
  have h:(match U5 e,Qe es with | some v,some vs=>some (v::vs) | _,_=>none)=some vs:=h
  cases e1:U5 e with
  | none=>rw[e1]at h;cases h
  | some v =>
   cases e2:Qe es with
   | none=>rw[e1,e2]at h;cases h
   | some r =>
    rw[e1,e2]at h
    cases h
    obtain⟨p1,p2⟩:=A8a (X:=X) e1;exact At5 p1 (X4 e2) (p2 es)
def isStar:Expr->Bool
 | .Starred ..=>true
 | _=>false
def noStar:List Expr->Bool
 | []=>true
 | e::es=>!isStar e&&noStar es
theorem Ge    (h:isStar e=false):starEach (e::es) env=(false,eval e env)::starEach es env:=by
 cases e <;> first | rfl | cases h
theorem Jj {pos:Pos}{env:Env}:∀{es:List Expr},noStar es=true->(backTo pos (starEach es env)).any (·.1)=false
 | [],_=>rfl
 | e::es,h=>by
  obtain⟨h1,h2⟩:=Bool.and_eq_true_iff.mp h
  rw[Ge (by simpa using h1)]
  show (false||(backTo pos (starEach es env)).any (·.1))=false
  rw[Jj h2]
  rfl
theorem Ft   (h:noStar (e::es)=true):isStar e=false/\noStar es=true:=by
 obtain⟨b,a⟩:=Bool.and_eq_true_iff.mp h
 simp_all
section
variable {X:Cx}{CX:CXT}{k:Nat}{f:Addr}{fd:FuncData}{ps:List Str}{sp:Sp}{dvs:List V}{ds:List Value}{E:XK}{x:Str}{p pos:Pos}{e:Expr}{es:List Expr}{te:TE}{t:TA}{id T:String}{r:List V->Hp->VK->Prop}
theorem Bb7 (ha:PE X e te)(hr:PA X es t)(hs:isStar e=false:=by rfl):PA X (e::es) (Dh te t):=At5 ha hr (Ge hs)
theorem A6f (F:FnOk X.prog X.w X.K X.mg X.base CX k f fd ps sp)(hr:Room k X.A)(hg:Gl X x)(hm:X.mg x=some (.ref f))(hk:PySem.W.keepIn X.K (.ref f)=true)(hb:Binds X.K fd ps ds)(hd:Vals dvs ds)(hx:M6 CX X E)
 (ha:PA X (e::es) t) (hdb:(x==("__debug__" : Str))=false:=by decide) (hn:noStar (e::es)=true:=by rfl):PE X (.Call (.Name x p) (e::es) [] pos) (Mg sp dvs E t) :=
 Bb0 F hr hg hm hk hb hd hx ha hdb (Ge (Ft hn).1) (Jj (Ft hn).2)
theorem Fy (hc:zB X (.builtin id) r)(hg:Gl X x)(hm:X.mg x=none)(hv:bootBuiltins x=some (.builtin id))(ha:PA X (e::es) t)(hn:x ≠ "__name__" := by decide) (hdb:(x==("__debug__" : Str))=false:=by decide)
 (hns:noStar (e::es)=true:=by rfl):PE X (.Call (.Name x p) (e::es) [] pos) (tCB r t):=A8x hc hg hm hv ha hn hdb (Ge (Ft hns).1) (Jj (Ft hns).2)
theorem Jp (hc:zB X (.type T) r)(hg:Gl X x)(hm:X.mg x=none)(hv:bootBuiltins x=some (.type T))(ha:PA X (e::es) t)(hn:x ≠ "__name__" := by decide) (hdb:(x==("__debug__" : Str))=false:=by decide)
 (hns:noStar (e::es)=true:=by rfl):PE X (.Call (.Name x p) (e::es) [] pos) (tCB r t):=Az5 hc hg hm hv ha hn hdb (Ge (Ft hns).1) (Jj (Ft hns).2)
end
section
variable {X:Cx}{a b e:Expr}{es:List Expr}{ta tb te:TE}{t:TA}{p pos apos cpos:Pos}{p2:Pos}
theorem G7   {b:List Keyword}{a:Pos}:N8 (.Call f args b a):=fun _ _=>rfl
theorem Hw  {a:Pos}:N8 (.Name x a):=fun _ _=>rfl
theorem Bq   {a:Pos}:N8 (.Constant (.int i) j a):=fun _ _=>rfl
theorem A1e (ha:PE X a ta)(hb:PE X b tb):PE X (.BinOp a .Sub b pos) (tOp (rI0 fun i j=>.int (i-j)) ta tb):=Xu Bu5 ha hb
theorem A2d (ha:PE X a ta)(hb:PE X b tb):PE X (.BinOp a .Mult b pos) (tOp (rI CMul fun i j=>.int (i*j)) ta tb):=Xu Bk7 ha hb
theorem An7 (ha:PE X a ta)(hb:PE X b tb):PE X (.BinOp a .FloorDiv b pos) (tOp (rI A8d fun i j=>.int (i / j)) ta tb):=Xu A9m ha hb
theorem A1o (ha:PE X a ta)(hb:PE X b tb):PE X (.BinOp a .Mod b pos) (tOp (rI (fun _ j=>0<j) fun i j=>.int (i % j)) ta tb):=Xu Bp8 ha hb
theorem A2k (ha:PE X a ta)(hb:PE X b tb):PE X (.BinOp a .Pow b pos) (tOp (rI A6o fun i j=>.int (i ^ j.toNat)) ta tb):=Xu Bq0 ha hb
def B2i:R2:=fun x y H Q=>∃da db,Tr H da x/\Tr H db y/\Flat da/\Flat db/\Q (.bl (PyData.eqv da db)) H
def B2k:R2:=fun x y H Q=>∃da db,Tr H da x/\Tr H db y/\Flat da/\Flat db/\Q (.bl (!PyData.eqv da db)) H
theorem A5x (ha:PE X a ta)(hb:PE X b tb):PT X (.Compare a [.Lt] [b] pos) (Km (tOp (rI0 fun i j=>.bl (decide (i<j))) ta tb)):=Ls By6 ha hb (O9 _)
theorem A7d (ha:PE X a ta)(hb:PE X b tb):PT X (.Compare a [.Gt] [b] pos) (Km (tOp (rI0 fun i j=>.bl (decide (j<i))) ta tb)):=Ls By3 ha hb (O9 _)
theorem A5k (ha:PE X a ta)(hb:PE X b tb):PE X (.Compare a [.GtE] [b] pos) (tOp (rI0 fun i j=>.bl (decide (j<=i))) ta tb):=Au3 B1k ha hb (O9 _)
theorem A1f (ha:PE X a ta)(hb:PE X b tb):PT X (.Compare a [.Is] [b] pos) (Km (tOp (fun x y H Q=>y=.non/\Q (.bl (decide (x=.non))) H) ta tb)):=Ls Bo0 ha hb (O9 _)
theorem Bs4 (ha:PE X a ta):PE X (.UnaryOp .USub a pos) (tUn (rU fun i=>.int (-i)) ta):=By9 Bu7 ha
def S9 (K:PySem.W.Frag):List V->Hp->VK->Prop:=fun xs H Q=>∃x n,xs=[x]/\Az9 H x=some n/\Q (.int (n:Nat)) H
def Ao1 (K:PySem.W.Frag):List V->Hp->VK->Prop:=fun xs H Q=>∃x n,xs=[x]/\B1u K x H n/\Q (.int n) H
def Oz (K:PySem.W.Frag):List V->Hp->VK->Prop:=fun xs H Q=>∃i,xs=[.int i]/\Q (.int (if i<0 then -i else i)) H
theorem Ac9 (hgl:Gl X "abs") (hm:X.mg "abs" = none) (ha:PA X (e::es) t) (hns:noStar (e::es)=true:=by rfl):PE X (.Call (.Name "abs" p) (e::es) [] pos) (tCB (Oz X.K) t):=Fy A7u hgl hm Bm2 ha (by decide) (by rfl) hns
def Ph (K:PySem.W.Frag):List V->Hp->VK->Prop:=fun xs H Q=>∃x T t b,xs=[x,.ty T]/\Oq H x=some t/\Fq t T=some b/\Q (.bl b) H
theorem Af9 (hgl:Gl X "isinstance") (hm:X.mg "isinstance" = none) (ha:PA X (e::es) t) (hns:noStar (e::es)=true:=by rfl):PE X (.Call (.Name "isinstance" p) (e::es) [] pos) (tCB (Ph X.K) t):=Fy A7w hgl hm Hy ha (by decide) (by rfl) hns
def Jz (K:PySem.W.Frag):List V->Hp->VK->Prop:=fun xs H Q=>∃x p Ts t b,xs=[x,.ref p]/\H p=some (.tup (Ts.map V.ty))/\Oq H x=some t/\K8 t Ts=some b/\Q (.bl b) H
theorem Zr (hgl:Gl X "isinstance") (hm:X.mg "isinstance" = none) (ha:PA X (e::es) t) (hns:noStar (e::es)=true:=by rfl):PE X (.Call (.Name "isinstance" p) (e::es) [] pos) (tCB (Jz X.K) t):=Fy A2p hgl hm Hy ha (by decide) (by rfl) hns
def Mr (K:PySem.W.Frag):List V->Hp->VK->Prop:=fun xs H Q=>∃(a:Addr) (bs:List Bool),xs=[.ref a]/\SqL K H a (bs.map V.bl)/\Q (.bl (bs.all id)) H
theorem Zh (hc:X.calm=true)(hgl:Gl X "all") (hm:X.mg "all" = none) (ha:PA X (e::es) t) (hns:noStar (e::es)=true:=by rfl):PE X (.Call (.Name "all" p) (e::es) [] pos) (tCB (Mr X.K) t):=Fy (A1u hc) hgl hm Br6 ha (by decide) (by rfl) hns
def Mu (K:PySem.W.Frag):List V->Hp->VK->Prop:=fun xs H Q=>(∃i,xs=[.int i]/\Q (.int i) H)\/∃k,xs=[.bl k]/\Q (.int (if k then 1 else 0)) H
theorem Ab7 (hgl:Gl X "int") (hm:X.mg "int" = none) (ha:PA X (e::es) t) (hns:noStar (e::es)=true:=by rfl):PE X (.Call (.Name "int" p) (e::es) [] pos) (tCB (Mu X.K) t):=Jp A1h hgl hm Ao4 ha (by decide) (by rfl) hns
def Ij (K:PySem.W.Frag):List V->Hp->VK->Prop:=fun xs H Q=>∃p ys,xs=[.ref p]/\((SqL K H p ys/\∀l,H l=none->Q (.ref l) (upd H l (.tup ys)))\/(SqT K H p ys/\Q (.ref p) H))
theorem Q8 (hgl:Gl X "tuple") (hm:X.mg "tuple" = none) (ha:PA X (e::es) t) (hns:noStar (e::es)=true:=by rfl):PE X (.Call (.Name "tuple" p) (e::es) [] pos) (tCB (Ij X.K) t):=Jp Wk hgl hm Hz ha (by decide) (by rfl) hns
def Jg (K:PySem.W.Frag):List V->Hp->VK->Prop:=fun xs H Q=>∃p ys,xs=[.ref p]/\(SqL K H p ys\/SqT K H p ys)/\∀l,H l=none->Q (.ref l) (upd H l (.lst ys))
theorem T8 (hgl:Gl X "list") (hm:X.mg "list" = none) (ha:PA X (e::es) t) (hns:noStar (e::es)=true:=by rfl):PE X (.Call (.Name "list" p) (e::es) [] pos) (tCB (Jg X.K) t):=Jp Aa3 hgl hm J0 ha (by decide) (by rfl) hns
def My (K:PySem.W.Frag):List V->Hp->VK->Prop:=fun xs H Q=>∃i j,xs=[.int i,.int j]/\Q (.int (if j<i then j else i)) H
theorem Aa1 (hc:X.calm=true)(hgl:Gl X "min") (hm:X.mg "min" = none) (ha:PA X (e::es) t) (hns:noStar (e::es)=true:=by rfl):PE X (.Call (.Name "min" p) (e::es) [] pos) (tCB (My X.K) t):=Fy (A0k hc) hgl hm Bv9 ha (by decide) (by rfl) hns
theorem A2a (ho:PE X a ta)(hv:PE X e te)(hbase:attributeBase a "append" X.env (eval a X.env)=eval a X.env:=by rfl)
 (hfew:((backTo cpos (starEach [e] X.env)).all (fun x=>!x.1)&&(backToKw cpos (keywordEach [] X.env)).all (fun x=>x.1.isSome)
  && decide ([e].length+([]:List Keyword).length+(if ([]:List Keyword).isEmpty then 0 else 1)<30))=true:=by rfl)
 (hline:(apos.endLine==cpos.line)=true:=by rfl) (hns:isStar e=false:=by rfl) :
 PE X (.Call (.Attribute a "append" apos) [e] [] cpos) (tBM X.K "list" rAppF ta (Dh te G6)) :=
 Bj3 PySem.F.plainAttrs_list PySem.F.slot_list_append PySem.F.type_list_append Bb5 ho (Bb7 hv Vi hns) hbase hfew hline (Ge hns) rfl
end
section
variable {P:Program}{w:World}{A:Around}
abbrev bare (led:Bool):Obj:={ cls:=.type "set",dict:=none,data:=.set #[] 0 (.fresh 0 0 led) }
end
section
variable {P:Program}{w:World}{A:Around}{E:Value->Shared->Prop}{s:Shared}
theorem Te    (a:s.heap.IsTupleIter j u k)
 (body:wpAny (model P w) A.in1 (Builtin.«tuple_iterator.__next__» ⟨[.ref j],[]⟩) (fun f z=>∃v,f=.done (.ret v)/\Q v z) E s) :
 wpAny (model P w) A (Builtin.SmallTypes.nextOf (.ref j)) Q E s:=by
 apply wpAny_bind
 refine wpAny_callSpecial?_slot  a.typeIs F.slot_tuple_iterator_next ?_
 refine wpAny_call_entry F.slot_tuple_iterator_next a.typeIs F.entry_tuple_iterator_next ?_ (F.args_tuple_iterator_next_1 _)
 refine wpAny_mono body (fun f z c=>?_) fun _ _ q=>q
 obtain⟨v,b,q⟩:=c;exact⟨v,b,wpAny_pure q⟩
theorem Am6      (c:s.heap.IsTupleIter j u k) (g:s.heap.IsTuple u vs) (hx:vs[k]?=some x)
 (q:∀h',h'.IsTupleIter j u (k+1)->Heap.SameBut j s.heap h'->Q x { s with heap:=h' }):wpAny (model P w) A (Builtin.SmallTypes.nextOf (.ref j)) Q E s:=by
 refine Te c ?_
 obtain⟨o,d,f,b⟩:=c;obtain⟨i,h,_,n,e⟩:=g;apply wpAny_bind (m:=field _ 0);apply wpAny_field d b  rfl;apply wpAny_bind ;apply wpAny_field d b  rfl;apply wpAny_bind ;apply wpAny_seqItems h e;simp only[hx,Int.toNat_natCast];apply wpAny_bind
 apply wpAny_setField d b (by simp)
 apply wpAny_pure
 refine⟨x,rfl,q _ ⟨_,(Heap.get?_update_self (Obj.mapFields fun a=>a.setIfInBounds 1 (rawInt (k+1))) d (Obj.isFreed_of_fields (Obj.data_mapFields b _))),(Obj.cls_mapFields ..).trans f,?_⟩ (Heap.SameBut.update ..)⟩
 rw[Obj.data_mapFields b]
 trivial
theorem A0g     (c:A.handled=none) (d:s.heap.IsTupleIter j u k) (h:s.heap.IsTuple u vs) (hx:vs[k]?=none)
 (q:∀h' e,Heap.ExtBut j s.heap h'->(∃o,h'.get? e=some o/\o.cls=.type "StopIteration")->E (.ref e) { s with heap:=h' }):wpAny (model P w) A (Builtin.SmallTypes.nextOf (.ref j)) Q E s:=by
 refine Te d ?_
 obtain⟨o,f,r,g⟩:=d;obtain⟨t,i,_,n,l⟩:=h;apply wpAny_bind (m:=field (.ref j) 0);apply wpAny_field f g (x:=.ref u) rfl;have p:¬ ((Value.ref u==Value.none)=true):=Bool.false_ne_true
 show wpAny _ _ (if (Value.ref u==.none)=true then _ else _) _ _ _
 rw[if_neg p];apply wpAny_bind (m:=field (.ref j) 1);apply wpAny_field f g (x:=.int k 0) rfl;apply wpAny_bind (m:=seqItems? (.ref u));apply wpAny_seqItems i l;simp only[hx,Int.toNat_natCast];apply wpAny_bind;apply wpAny_rule;apply wpAny_bind
 apply wpAny_setField f g (by simp)
 apply wpAny_bind (m:=newExc (.type "StopIteration") []);unfold newExc newTuple;apply wpAny_bind
 refine wpAny_newObj_type ?_ (by size_fits )
 apply wpAny_bind (m:=firstArgMember _ _)
 refine wpAny_of_eq (a:=Value.none) (by simp only[firstArgMember];rfl) ?_
 refine wpAny_newObj_type ?_ (by size_fits )
 unfold raiseNew;apply wpAny_bind;apply wpAny_handled;have b:A.in1.handled=none:=c;rw[b]
 refine wpAny_bind (wpAny_pure ?_)
 apply wpAny_throw;exact q _ _ (((Heap.SameBut.update ..).extBut.push _).push _) ⟨_,Heap.get?_push_size _ rfl,rfl⟩
def ItAt (t:Bool)(h:Heap)(j u:Addr)(k:Nat):Prop:=match t with
 | true=>h.IsTupleIter j u k
 | false=>h.IsListIter j u k
def SqA (t:Bool)(h:Heap)(u:Addr)(vs:Array Value):Prop:=match t with
 | true=>h.IsTuple u vs
 | false=>h.IsList u vs
theorem ItAt.stay     (x:ItAt t h j u k) (q:∀o,h.get? j=some o->h'.get? j=some o):ItAt t h' j u k:=by
 cases t <;> (obtain⟨o,e,r⟩:=x;exact⟨o,q o e,r⟩)
theorem ItAt.obj     (x:ItAt t h j u k):∃o,h.get? j=some o/\o.data=.fields #[.ref u,.int k 0]:=by
 cases t <;> (obtain⟨o,e,_,r⟩:=x;grind)
theorem SqA.stay     (x:SqA t h u vs) (q:∀o,h.get? u=some o->h'.get? u=some o):SqA t h' u vs:=by
 cases t <;> (obtain⟨o,e,r⟩:=x;exact⟨o,q o e,r⟩)
theorem next_item       (a:ItAt t s.heap j u k) (b:SqA t s.heap u vs) (hx:vs[k]?=some x)
 (q:∀h',ItAt t h' j u (k+1)->Heap.SameBut j s.heap h'->Q x { s with heap:=h' }):wpAny (model P w) A (Builtin.SmallTypes.nextOf (.ref j)) Q E s:=by
 cases t
 ·exact wpAny_nextOf_list_item a b hx q
 ·exact Am6 a b hx q
theorem next_end      (c:A.handled=none) (a:ItAt t s.heap j u k) (b:SqA t s.heap u vs) (hx:vs[k]?=none)
 (q:∀h' e,Heap.ExtBut j s.heap h'->(∃o,h'.get? e=some o/\o.cls=.type "StopIteration")->E (.ref e) { s with heap:=h' }):wpAny (model P w) A (Builtin.SmallTypes.nextOf (.ref j)) Q E s:=by
 cases t
 ·exact wpAny_nextOf_list_end c a b hx q
 ·exact A0g c a b hx q
structure Ae2 (h:Heap) (t1 t2:Bool) (z ti to i1 i2 a b:Addr) (f0:Value) (k:Nat):Prop where
 zip:IsZip h z ti to f0
 ins:IsPair h ti (.ref i1) (.ref i2)
 outs:∃u v,IsPair h to u v
 one:ItAt t1 h i1 a k
 two:ItAt t2 h i2 b k
structure zE (z ti to i1 i2 a b:Addr):Prop where
 nd:[z,ti,to,i1,i2].Nodup
 na:a∉[z,ti,to,i1,i2]
 nb:b∉[z,ti,to,i1,i2]
theorem zE.z_ti (x:zE z ti to i1 i2 a b):ti≠z:=by have:=x.nd;grind
theorem zE.z_to (x:zE z ti to i1 i2 a b):to≠z:=by have:=x.nd;grind
theorem zE.z_i1 (x:zE z ti to i1 i2 a b):i1≠z:=by have:=x.nd;grind
theorem zE.z_i2 (x:zE z ti to i1 i2 a b):i2≠z:=by have:=x.nd;grind
theorem zE.to_i1 (x:zE z ti to i1 i2 a b):to≠i1:=by have:=x.nd;simp_all
theorem zE.to_i2 (x:zE z ti to i1 i2 a b):to≠i2:=by have:=x.nd;simp_all
theorem zE.i1_i2 (x:zE z ti to i1 i2 a b):i1≠i2:=by have:=x.nd;simp_all
theorem zE.ti_to (x:zE z ti to i1 i2 a b):ti≠to:=by have:=x.nd;simp_all
theorem zE.ti_i1 (x:zE z ti to i1 i2 a b):ti≠i1:=by have:=x.nd;simp_all
theorem zE.ti_i2 (x:zE z ti to i1 i2 a b):ti≠i2:=by have:=x.nd;simp_all
theorem A2y      {Q:Value->Shared->Prop}(d:zE z j h r t a b) (y:Ae2 s.heap t1 t2 z j h r t a b .none k)
 (ha:SqA t1 s.heap a xs) (hb:SqA t2 s.heap b ys) (hx:xs[k]?=some x) (O:ys[k]?=some x')
 (q:∀h',Ae2 h' t1 t2 z j h r t a b (rawInt s.heap.objs.size) (k+1)->IsPair h' s.heap.objs.size x x'->(∀c o,c∉[z,j,h,r,t]->s.heap.get? c=some o->h'.get? c=some o)->Q (.ref s.heap.objs.size) { s with heap:=h' }) :
 wpAny (model P w) A (Builtin.«zip.__next__» ⟨[.ref z],[]⟩) (fun f z=>∃v,f=.done (.ret v)/\Q v z) E s:=by
 obtain⟨u0,N,o0⟩:=y.outs;have S:=d.na;have I:=d.nb;simp only[List.mem_cons,List.not_mem_nil,or_false,not_or]at S I;apply wpAny_bind (m:=field (.ref z) 2);apply wpAny_field y.zip rfl (x:=.bool false) rfl;apply wpAny_bind (m:=field (.ref z) 3);apply wpAny_field y.zip rfl (x:=.ref j) rfl;apply wpAny_bind;apply wpAny_seqItems y.ins rfl;apply wpAny_bind (m:=Builtin.SmallTypes.ownedTupleIsFree (.ref z));unfold Builtin.SmallTypes.ownedTupleIsFree;apply wpAny_bind;apply wpAny_field y.zip rfl (x:=.none) rfl;apply wpAny_pure;simp only[if_true];apply wpAny_bind;apply wpAny_rule;apply wpAny_bind;apply wpAny_field y.zip rfl (x:=.ref h) rfl;apply wpAny_bind
 apply wpAny_setField_rec y.zip (by simp)
 intro g1 L n;have L:IsZip g1 z j h .ellipsis:=L;apply wpAny_bind;simp only[List.zipIdx_cons,List.zipIdx_nil,List.forIn_cons,List.forIn_nil];apply wpAny_bind;apply wpAny_bind;apply wpAny_onRaise;apply wpAny_bind (m:=Builtin.SmallTypes.nextOf (.ref r))
 refine next_item (y.one.stay fun o e=>n.extBut _ _ d.z_i1 e) (ha.stay fun o e=>n.extBut _ _ S.1 e) hx fun g2 n1 u=>?_
 apply wpAny_pure;have V:IsPair g2 h u0 N:=u.extBut _ _ d.to_i1 (n.extBut _ _ d.z_to o0);apply wpAny_bind;apply wpAny_seqItems V rfl;apply wpAny_bind;apply wpAny_updateSeq_pair V;intro g3 R B;have R:IsPair g3 h x N:=R;apply wpAny_bind;apply wpAny_letGo;apply wpAny_pure;apply wpAny_bind;apply wpAny_bind;apply wpAny_onRaise;apply wpAny_bind (m:=Builtin.SmallTypes.nextOf (.ref t))
 refine next_item (y.two.stay fun o e=>B.extBut _ _ d.to_i2.symm (u.extBut _ _ d.i1_i2.symm (n.extBut _ _ d.z_i2 e))) (hb.stay fun o e=>B.extBut _ _ I.2.2.1 (u.extBut _ _ I.2.2.2.1 (n.extBut _ _ I.1 e))) O fun g4 n2 D=>?_
 apply wpAny_pure;have U:IsPair g4 h x N:=D.extBut _ _ d.to_i2 R;apply wpAny_bind;apply wpAny_seqItems U rfl;apply wpAny_bind;apply wpAny_updateSeq_pair U;intro i K F;have K:IsPair i h x x':=K;apply wpAny_bind;apply wpAny_letGo;apply wpAny_pure;apply wpAny_pure;apply wpAny_bind;apply wpAny_seqItems K rfl;apply wpAny_bind
 refine wpAny_newTuple ?_
 have W:i.objs.size=s.heap.objs.size:=by rw[F.1,D.1,B.1,u.1,n.1]
 have l:∀c o,c≠z->c≠h->c≠r->c≠t->s.heap.get? c=some o->i.get? c=some o:=fun c o p1 T p3 p4 e=>F.extBut _ _ T (D.extBut _ _ p4 (B.extBut _ _ T (u.extBut _ _ p3 (n.extBut _ _ p1 e))))
 have Y:IsZip i z j h .ellipsis:=F.extBut _ _ d.z_to.symm (D.extBut _ _ d.z_i2.symm (B.extBut _ _ d.z_to.symm (u.extBut _ _ d.z_i1.symm L)))
 have m1:ItAt t1 i r a (k+1):=n1.stay fun o e=>F.extBut _ _ d.to_i1.symm (D.extBut _ _ d.i1_i2 (B.extBut _ _ d.to_i1.symm e))
 have m2:ItAt t2 i t b (k+1):=n2.stay fun o e=>F.extBut _ _ d.to_i2.symm e
 apply wpAny_bind (m:=Builtin.SmallTypes.ownedTupleHandOut (.ref z) (.ref i.objs.size));unfold Builtin.SmallTypes.ownedTupleHandOut;have z6:IsZip (i.push { cls:=.type "tuple",data:=.seq #[x,x'] }) z j h .ellipsis:=Heap.get?_push_of_some _ Y;apply wpAny_bind
 apply wpAny_setField_rec z6 (by simp)
 intro g7 M X;have M:IsZip g7 z j h (rawInt i.objs.size):=M
 apply wpAny_setField_rec M (by simp)
 intro H J Z;have J:IsZip H z j h (rawInt i.objs.size):=J
 have g:∀c o,c≠z->i.get? c=some o->H.get? c=some o:=fun c o p e=>Z.extBut _ _ p (X.extBut _ _ p (Heap.get?_push_of_some _ e))
 have G:z<i.objs.size:=Heap.lt_size Y;have C:IsPair H i.objs.size x x':=Z.extBut _ _ (Nat.ne_of_gt G) (X.extBut _ _ (Nat.ne_of_gt G) (Heap.get?_push_size _ rfl));rw[W]at J C;apply wpAny_pure
 refine⟨_,rfl,?_⟩
 show Q (.ref i.objs.size) _
 rw[W]
 refine q H ⟨J,g _ _ d.z_ti (l _ _ d.z_ti d.ti_to d.ti_i1 d.ti_i2 y.ins),⟨x,x',g _ _ d.z_to K⟩,m1.stay fun o e=>g _ _ d.z_i1 e,m2.stay fun o e=>g _ _ d.z_i2 e⟩ C fun c o p e=>?_
 simp  at p
 exact g c o p.1 (l c o p.1 p.2.2.1 p.2.2.2.1 p.2.2.2.2 e)
theorem A6t      (f:A.handled=none) (d:zE z l j v C a b) (y:Ae2 s.heap t1 t2 z l j v C a b .none k)
 (ha:SqA t1 s.heap a xs) (hb:SqA t2 s.heap b ys) (hx:xs[k]?=none\/ys[k]?=none)
 (q:∀h' e,(∀c o,c∉[z,l,j,v,C]->s.heap.get? c=some o->h'.get? c=some o)->(∃o,h'.get? e=some o/\o.cls=.type "StopIteration")->E (.ref e) { s with heap:=h' }) :
 wpAny (model P w) A (Builtin.«zip.__next__» ⟨[.ref z],[]⟩) F E s:=by
 obtain⟨T,V,S⟩:=y.outs;have I:=d.na;have B:=d.nb;simp only[List.mem_cons,List.not_mem_nil,or_false,not_or]at I B;apply wpAny_bind (m:=field (.ref z) 2);apply wpAny_field y.zip rfl (x:=.bool false) rfl;apply wpAny_bind (m:=field (.ref z) 3);apply wpAny_field y.zip rfl (x:=.ref l) rfl;apply wpAny_bind;apply wpAny_seqItems y.ins rfl;apply wpAny_bind (m:=Builtin.SmallTypes.ownedTupleIsFree (.ref z));unfold Builtin.SmallTypes.ownedTupleIsFree;apply wpAny_bind;apply wpAny_field y.zip rfl (x:=.none) rfl;apply wpAny_pure;simp only[if_true];apply wpAny_bind;apply wpAny_rule;apply wpAny_bind;apply wpAny_field y.zip rfl (x:=.ref j) rfl;apply wpAny_bind
 apply wpAny_setField_rec y.zip (by simp)
 intro U u g;have u:IsZip U z l j .ellipsis:=u;apply wpAny_bind;simp only[List.zipIdx_cons,List.zipIdx_nil,List.forIn_cons,List.forIn_nil];apply wpAny_bind;apply wpAny_bind;apply wpAny_onRaise;apply wpAny_bind (m:=Builtin.SmallTypes.nextOf (.ref v))
 cases e1:xs[k]? with
 | none =>
  refine next_end f (y.one.stay fun o e=>g.extBut _ _ d.z_i1 e) (ha.stay fun o e=>g.extBut _ _ I.1 e) e1 fun H x i K=>?_
  obtain⟨D,r,t⟩:=K;have Q:IsZip H z l j .ellipsis:=i _ _ d.z_i1.symm u
  have G:x≠z:=fun e=>by subst e;rw[Q]at r;cases r;simp at t
  apply wpAny_setField_rec Q (by simp)
  intro N _ n
  refine q N x (fun c o p e=>?_) ⟨D,n.extBut _ _ G r,t⟩
  simp only[List.mem_cons,List.not_mem_nil,or_false,not_or]at p;exact n.extBut _ _ p.1 (i _ _ p.2.2.2.1 (g.extBut _ _ p.1 e))
 | some x =>
  have Y:ys[k]?=none:=by
   rcases hx with h | h
   ·rw[e1]at h;cases h
   ·exact h
  refine next_item (y.one.stay fun o e=>g.extBut _ _ d.z_i1 e) (ha.stay fun o e=>g.extBut _ _ I.1 e) e1 fun H n1 i=>?_
  apply wpAny_pure;have O:IsPair H j T V:=i.extBut _ _ d.to_i1 (g.extBut _ _ d.z_to S);apply wpAny_bind;apply wpAny_seqItems O rfl;apply wpAny_bind;apply wpAny_updateSeq_pair O;intro N Z n;apply wpAny_bind;apply wpAny_letGo;apply wpAny_pure;apply wpAny_bind;apply wpAny_bind;apply wpAny_onRaise;apply wpAny_bind (m:=Builtin.SmallTypes.nextOf (.ref C))
  refine next_end f (y.two.stay fun o e=>n.extBut _ _ d.to_i2.symm (i.extBut _ _ d.i1_i2.symm (g.extBut _ _ d.z_i2 e))) (hb.stay fun o e=>n.extBut _ _ B.2.2.1 (i.extBut _ _ B.2.2.2.1 (g.extBut _ _ B.1 e))) Y fun W x M J=>?_
  obtain⟨D,r,t⟩:=J;have R:IsZip W z l j .ellipsis:=M _ _ d.z_i2.symm (n.extBut _ _ d.z_to.symm (i.extBut _ _ d.z_i1.symm u))
  have G:x≠z:=fun e=>by subst e;rw[R]at r;cases r;simp at t
  apply wpAny_setField_rec R (by simp)
  intro X _ L
  refine q X x (fun c o p e=>?_) ⟨D,L.extBut _ _ G r,t⟩
  simp only[List.mem_cons,List.not_mem_nil,or_false,not_or]at p;exact L.extBut _ _ p.1 (M _ _ p.2.2.2.2 (n.extBut _ _ p.2.2.1 (i.extBut _ _ p.2.2.2.1 (g.extBut _ _ p.1 e))))
end
section
variable {X:Cx}{pins:List (Addr×Obj)}{σ:St}{H:Hp}{s:Shared}{h':Heap}
theorem Inv.turnLay {ch:List Addr}{p:Addr}{o:HO}{t':Nat}(I:Inv X pins σ H s)(hf:∀b∈ch,T9 X pins H b)(k:∀b u,b∉ch->s.heap.get? b=some u->h'.get? b=some u)(hp:s.heap.objs.size<=p)(w:z9 X.prog X.w (upd H p o) h' p o) :
 Inv X pins σ (upd H p o) { s with heap:=h',toks:=t' }:=by
 have g:H p=none:=I.hok.fresh hp
 have t:∀b u,H b=some u->b∉ch:=fun b u e z=>by rw[(hf b z).1]at e;grind
 have d:∀b u,H b=some u->b≠p:=fun b u e=>Bv e g
 have h:∀b u,s.heap.get? b=some u->b≠p:=fun b u e z=>absurd (Heap.lt_size e) (by simp_all)
 refine I.step (g':=s.gens) (d':=s.drawn) (ch:=ch) (fun b f=>?_) (fun b u _ _ a e _=>k b u a e) (fun b u _ _ a e _=>⟨u.slots,k b u a e⟩) (fun b u _ e n=>?_) (fun b u a e=>⟨u,k b u a e⟩)
  (fun b i e=>?_) (fun b o u e=>?_) (fun b B e=>?_) (fun m x=>?_) (fun b u e=>?_) I.bare
 ·obtain⟨F,G,J,C,D,E⟩:=hf b f
  grind
 ·rw[Ar (h b u e)];grind
 ·rw[Ar (d b _ e)];grind
 ·rw[Ar (d b _ e)];omega
 ·rw[Ar (d b _ e)];grind
 ·obtain⟨j,y,A,l,r⟩:=x
  exact⟨j,y,A,k _ _ (fun z=>(hf _ z).2.1 rfl) l,r⟩
 ·by_cases f:b=p
  ·subst f;rw[Ca]at e;grind
  ·rw[Ar f]at e
   refine (I.hok b u e).stay (fun c v a q=>k c v ?_ q) fun c q=>by rw[Ar (d c _ q)];grind fun c i q=>by rw[Ar (d c _ q)];grind fun c j i q=>by rw[Ar (d c _ q)];grind
   grind
theorem Inv.turnL {ch:List Addr}{t':Nat}(I:Inv X pins σ H s)(hf:∀b∈ch,T9 X pins H b)(k:∀b u,b∉ch->s.heap.get? b=some u->h'.get? b=some u):Inv X pins σ H { s with heap:=h',toks:=t' }:=by
 have g:∀b u,H b=some u->b∉ch:=fun b u e z=>by rw[(hf b z).1]at e;grind
 refine I.step    (fun b f=>?_) (fun b u _ _ a e _=>k b u a e) (fun b u _ _ a e _=>⟨u.slots,k b u a e⟩) (fun b u _ e n=>n) (fun b u a e=>⟨u,k b u a e⟩)
  (fun b i e=>e) (fun b o u e=>e) (fun b t e=>e) (fun m j=>?_) (fun b u e=>?_) I.bare
 ·obtain⟨A,B,C,w,x,y⟩:=hf b f
  grind
 ·obtain⟨h,l,p,d,r⟩:=j
  exact⟨h,l,p,k _ _ (fun z=>(hf _ z).2.1 rfl) d,r⟩
 ·refine (I.hok b u e).stay (fun c v a q=>k c v ?_ q) (fun c q=>q) fun c i q=>q
  grind
end
def SqK (t:Bool)(H:Hp)(a:Addr)(xs:List V):Prop:=match t with
 | true=>H a=some (.tup xs)
 | false=>H a=some (.lst xs)
theorem SqK.one     (x:SqK t H a xs) (y:SqK t H a ys):xs=ys:=by
 cases t
 ·have y:H a=some _:=y
  rw[x]at y;cases y;rfl
 ·have y:H a=some _:=y
  rw[x]at y;cases y;rfl
theorem SqK.some     (x:SqK t H a xs):∃o,H a=some o:=by
 cases t
 ·exact⟨_,x⟩
 ·exact⟨_,x⟩
theorem SqK.its         (I:Inv X pins d H s) (x:SqK t H a xs):∃b:List Value,Vals xs b/\SqA t s.heap a b.toArray:=by
 cases t
 ·obtain⟨b,c,p,_⟩:=I.list (SqL.of x)
  exact⟨b,c,p.isList⟩
 ·obtain⟨b,c,p,_⟩:=I.tuple (SqT.of x)
  exact⟨b,c,(show s.heap.IsTuple a _ from p)⟩
def Itz (t1 t2:Bool)(a b:Addr):It :=
 ⟨
  fun i H=>∃xs ys x y,SqK t1 H a xs/\SqK t2 H b ys/\xs[i]?=some x/\ys[i]?=some y,
  fun i H v H'=>∃p x y,v=.ref p/\H p=none/\H'=upd H p (.tup [x,y])/\(∀xs,SqK t1 H a xs->xs[i]?=some x)/\∀ys,SqK t2 H b ys->ys[i]?=some y,
  fun i H=>∃xs ys,SqK t1 H a xs/\SqK t2 H b ys/\(xs.length<=i\/ys.length<=i)⟩
theorem A6b {P:Program}{w:World}{K:PySem.W.Frag}{t1 t2:Bool}{elts:List Expr}{kk:Nat}{pos:Pos}{z ti to i1 i2 a b:Addr}(nd:[z,ti,to,i1,i2].Nodup) :
 Turn P w K (.Tuple elts kk pos) (Itz t1 t2 a b) [z,ti,to,i1,i2] z (fun i h=>Ae2 h t1 t2 z ti to i1 i2 a b .none i) where
 mem:=by simp
 obj:=fun i h st c hc=>by
  simp only[List.mem_cons,List.not_mem_nil,or_false]at hc
  rcases hc with rfl | rfl | rfl | rfl | rfl
  ·exact⟨_,st.zip,fun v e=>by cases e⟩
  ·exact⟨_,st.ins,fun v e=>by cases e⟩
  ·obtain⟨u,v,e⟩:=st.outs;exact⟨_,e,fun v e=>by cases e⟩
  ·obtain⟨o,e,q⟩:=st.one.obj;exact⟨o,e,fun v e=>by rw[q]at e;cases e⟩
  ·obtain⟨o,e,q⟩:=st.two.obj;exact⟨o,e,fun v e=>by rw[q]at e;cases e⟩
 keep:=fun i h h' st k=>by
  obtain⟨u,v,e⟩:=st.outs
  exact⟨k z (by simp) _ st.zip,k ti (by simp) _ st.ins,⟨u,v,k to (by simp) _ e⟩,st.one.stay fun o e=>k i1 (by simp) o e,st.two.stay fun o e=>k i2 (by simp) o e⟩
 item:=by
  intro X hP hw hK hc i pins s σ H E I hf st hg;subst hP hw hK;obtain⟨xs,ys,x,y,ha,hb,hx,hy⟩:=hg;obtain⟨its,rv,pa⟩:=ha.its I;obtain⟨jts,rw',pb⟩:=hb.its I;obtain⟨u,hu,ru⟩:=rv.get hx;obtain⟨v,hv,rv'⟩:=rw'.get hy
  have off:zE z ti to i1 i2 a b:=⟨nd,fun m=>by (obtain⟨o,e⟩:=ha.some;rw[(hf a m).1]at e;cases e),fun m=>by (obtain⟨o,e⟩:=hb.some;rw[(hf b m).1]at e;cases e)⟩
  have ty:s.TypeIs (.ref z) "zip" := ⟨_,st.zip,rfl⟩;unfold pyNext;apply wpAny_bind;apply wpAny_attempt
  refine wpAny_callSpecial?_slot (name:="__next__") ty F.slot_zip_next ?_
  refine wpAny_call_entry F.slot_zip_next ty F.entry_zip_next ?_ (F.args_zip_next_1 _)
  refine A2y off st pa pb (x:=u) (x':=v) (by simpa using hu) (by simpa using hv) fun h1 z1 new kp=>?_
  refine wpAny_pure ⟨_,rfl,?_⟩
  apply wpAny_letOwnedTupleGo_zip z1.zip;intro h2 z2 sb;have nz:s.heap.objs.size≠z:=Nat.ne_of_gt (Heap.lt_size st.zip);have new2:IsPair h2 s.heap.objs.size u v:=sb.extBut _ _ nz new
  have ok:z9 X.prog X.w (upd H s.heap.objs.size (.tup [x,y])) h2 s.heap.objs.size (.tup [x,y]):=⟨(show 2<=sizeLine by decide),[u,v],.cons ru (.cons rv' .nil),⟨_,new2,rfl,⟨_,rfl⟩,rfl⟩⟩
  have I2:=I.turnLay (t':=s.toks) hf (h':=h2) (fun c o m e=>sb.extBut _ _ (fun e=>m (by simp[e])) (kp c o m e)) (Nat.le_refl _) ok
  obtain⟨u1,v1,e1⟩:=z1.outs;have zf:H s.heap.objs.size=none:=I.hok.fresh (Nat.le_refl _)
  refine⟨.ref s.heap.objs.size,_,I2,rfl,⟨_,x,y,rfl,zf,rfl,fun xs' h=>?_,fun ys' h=>?_⟩,?_,fun c hc=>?_⟩
  ·rw[h.one ha];exact hx
  ·rw[h.one hb];exact hy
  ·exact⟨z2,sb.extBut _ _ off.z_ti z1.ins,⟨u1,v1,sb.extBut _ _ off.z_to e1⟩,z1.one.stay fun o e=>sb.extBut _ _ off.z_i1 e,z1.two.stay fun o e=>sb.extBut _ _ off.z_i2 e⟩
  ·have lt:c<s.heap.objs.size:=by
    simp only[List.mem_cons,List.not_mem_nil,or_false]at hc
    rcases hc with rfl | rfl | rfl | rfl | rfl
    ·exact Heap.lt_size st.zip
    ·exact Heap.lt_size st.ins
    ·obtain⟨_,_,e⟩:=st.outs;exact Heap.lt_size e
    ·obtain⟨o,e,q⟩:=st.one.obj;exact Heap.lt_size e
    ·obtain⟨o,e,q⟩:=st.two.obj;exact Heap.lt_size e
   rw[Ar (Nat.ne_of_lt lt)];exact(hf c hc).1
 done:=by
  intro X hP hw hK hc i pins s σ H E I hf st hg;subst hP hw hK;obtain⟨xs,ys,ha,hb,hl⟩:=hg;obtain⟨its,rv,pa⟩:=ha.its I;obtain⟨jts,rw',pb⟩:=hb.its I
  have off:zE z ti to i1 i2 a b:=⟨nd,fun m=>by (obtain⟨o,e⟩:=ha.some;rw[(hf a m).1]at e;cases e),fun m=>by (obtain⟨o,e⟩:=hb.some;rw[(hf b m).1]at e;cases e)⟩
  have ty:s.TypeIs (.ref z) "zip" := ⟨_,st.zip,rfl⟩;have l1:=rv.length;have l2:=rw'.length;unfold pyNext;apply wpAny_bind;apply wpAny_attempt
  refine wpAny_callSpecial?_slot (name:="__next__") ty F.slot_zip_next ?_
  refine wpAny_call_entry F.slot_zip_next ty F.entry_zip_next ?_ (F.args_zip_next_1 _)
  refine A6t (I.ok.hd hc) off st pa pb (by simp;omega) fun h1 e kp he=>?_
  obtain⟨o,e1,e2⟩:=he;apply wpAny_bind
  refine wpAny_isInstance (T := "StopIteration") (b:=true) ⟨o,e1,e2⟩ isSubtype_stop ?_
  exact wpAny_pure ⟨rfl,I.turnL (t':=s.toks) hf fun c o m e=>kp c o m e⟩
 self:=fun _ _ _ _ _ st h=>wpAny_pyIter_zip st.zip h
section
variable {P:Program}{w:World}{A:Around}{E:Value->Shared->Prop}{s:Shared}
abbrev itO (t:Bool)(u:Addr):Obj:={ cls:=.type (if t then "tuple_iterator" else "list_iterator"),data:=.fields #[.ref u,.int 0 0] }
abbrev zh1 (h:Heap)(t1:Bool)(a:Addr):Heap:=h.push (itO t1 a)
abbrev zh2 (h:Heap)(t1 t2:Bool)(a b:Addr):Heap:=(zh1 h t1 a).push (itO t2 b)
abbrev zh3 (h:Heap)(t1 t2:Bool)(a b:Addr):Heap:=(zh2 h t1 t2 a b).push { cls:=.type "tuple",data:=.seq #[.ref h.objs.size,.ref (zh1 h t1 a).objs.size] }
abbrev zh4 (h:Heap)(t1 t2:Bool)(a b:Addr):Heap:=(zh3 h t1 t2 a b).push { cls:=.type "tuple",data:=.seq #[.none,.none] }
abbrev zh5 (h:Heap)(t1 t2:Bool)(a b:Addr):Heap:=(zh4 h t1 t2 a b).push { cls:=.type "zip",data:=.fields #[.none,.bool false,.bool false,.ref (zh2 h t1 t2 a b).objs.size,.ref (zh3 h t1 t2 a b).objs.size] }
theorem A2v (t1 t2:Bool)(a b:Addr)(xs ys:Array Value) :
 Meets (Builtin.«zip.__new__» ⟨[.type "zip",.ref a,.ref b],[]⟩) (fun _ R s=>SqA t1 s.heap a xs/\SqA t2 s.heap b ys/\R (.ok (.ret (.ref (zh4 s.heap t1 t2 a b).objs.size))) { s with heap:=zh5 s.heap t1 t2 a b }) :=
 .of_wp fun P w A R s h=>by
  obtain⟨e,g,d,c,f⟩:=s;obtain⟨k,l,h⟩:=h;have m:=sub_zip
  cases t1 <;> cases t2
  ·have j:Heap.IsList (Shared.heap ⟨e,g,d,c,f⟩) a xs:=k
   have i:Heap.IsList (Shared.heap ⟨e.push { cls:=.type "list_iterator",data:=.fields #[.ref a,.int 0 0] },g,d,c,f⟩) b ys:=Heap.IsList.push l _
   wp_walk using wpAny_pyIter_list j,wpAny_pyIter_list i
   exact⟨_,rfl,h⟩
  ·have j:Heap.IsList (Shared.heap ⟨e,g,d,c,f⟩) a xs:=k
   have i:Heap.IsTuple (Shared.heap ⟨e.push { cls:=.type "list_iterator",data:=.fields #[.ref a,.int 0 0] },g,d,c,f⟩) b ys:=Heap.IsTuple.push l _
   wp_walk using wpAny_pyIter_list j,wpAny_pyIter_tuple i
   exact⟨_,rfl,h⟩
  ·have j:Heap.IsTuple (Shared.heap ⟨e,g,d,c,f⟩) a xs:=k
   have i:Heap.IsList (Shared.heap ⟨e.push { cls:=.type "tuple_iterator",data:=.fields #[.ref a,.int 0 0] },g,d,c,f⟩) b ys:=Heap.IsList.push l _
   wp_walk using wpAny_pyIter_tuple j,wpAny_pyIter_list i
   exact⟨_,rfl,h⟩
  ·have j:Heap.IsTuple (Shared.heap ⟨e,g,d,c,f⟩) a xs:=k
   have i:Heap.IsTuple (Shared.heap ⟨e.push { cls:=.type "tuple_iterator",data:=.fields #[.ref a,.int 0 0] },g,d,c,f⟩) b ys:=Heap.IsTuple.push l _
   wp_walk using wpAny_pyIter_tuple j,wpAny_pyIter_tuple i
   exact⟨_,rfl,h⟩
theorem Al9    (e:h.get? j=some (itO t u)):ItAt t h j u 0:=by
 cases t
 ·exact⟨_,e,rfl,rfl⟩
 ·exact⟨_,e,rfl,rfl⟩
theorem Aq2     (t:SqA t1 s.heap a xs) (u:SqA t2 s.heap b ys)
 (q:∀h',Ae2 h' t1 t2 (s.heap.objs.size+4) (s.heap.objs.size+2) (s.heap.objs.size+3) s.heap.objs.size (s.heap.objs.size+1) a b .none 0->(∀c o,s.heap.get? c=some o->h'.get? c=some o)->Q (.ref (s.heap.objs.size+4)) { s with heap:=h' }) :
 wpAny (model P w) A (call (.type "zip") [.ref a,.ref b]) Q E s:=by
 apply callType_new F.called_zip (by decide) (F.typeCall_zip_2 _ _) (F.newCall_zip_2 _ _) (fun o=>F.args_object_init_3 o _ _) F.entry_zip_new (A2v t1 t2 a b xs ys)
 refine⟨t,u,?_⟩
 have i:(zh1 s.heap t1 a).objs.size=s.heap.objs.size+1:=Heap.size_push ..
 have g:(zh2 s.heap t1 t2 a b).objs.size=s.heap.objs.size+2:=by rw[Heap.size_push,i]
 have f:(zh3 s.heap t1 t2 a b).objs.size=s.heap.objs.size+3:=by rw[Heap.size_push,g]
 have k:(zh4 s.heap t1 t2 a b).objs.size=s.heap.objs.size+4:=by rw[Heap.size_push,f]
 have d:=fun {h:Heap} {c:Addr} {o:Obj} (n:Obj) (e:h.get? c=some o)=>Heap.get?_push_of_some n e
 have j:(zh5 s.heap t1 t2 a b).get? (zh4 s.heap t1 t2 a b).objs.size=some _:=Heap.get?_push_size _ rfl;have m:(zh5 s.heap t1 t2 a b).get? (zh3 s.heap t1 t2 a b).objs.size=some _:=d _ (Heap.get?_push_size _ rfl);have l:(zh5 s.heap t1 t2 a b).get? (zh2 s.heap t1 t2 a b).objs.size=some _:=d _ (d _ (Heap.get?_push_size _ rfl));have p:(zh5 s.heap t1 t2 a b).get? (zh1 s.heap t1 a).objs.size=some _:=d _ (d _ (d _ (Heap.get?_push_size _ rfl)));have r:(zh5 s.heap t1 t2 a b).get? s.heap.objs.size=some _:=d _ (d _ (d _ (d _ (Heap.get?_push_size _ rfl))));rw[g,f,k]at j;rw[i,g]at l;rw[f]at m;rw[i]at p;rw[k]
 exact⟨⟨_,j,rfl⟩,q _ ⟨j,l,⟨_,_,m⟩,Al9 r,Al9 p⟩ fun c o e=>d _ (d _ (d _ (d _ (d _ e))))⟩
end
theorem A1i:bootBuiltins "zip" = some (.type "zip"):=by decide +kernel
section
variable {X:Cx}
def Bs6 (ta:TA):TI:=fun σ H R=>ta σ H fun vs H1=>∃a b,vs=[.ref a,.ref b]/\∃t1 t2 xs ys,SqK t1 H1 a xs/\SqK t2 H1 b ys/\R (Itz t1 t2 a b) H1
theorem Bx6   {p j e:Pos}{f:List Expr}{t:Nat}(hg:Gl X "zip") (hm:X.mg "zip" = none) (ha:PA X [a,b] m) (hs1:isStar a=false:=by rfl) (hs2:isStar b=false:=by rfl) :
 PI X (.Tuple f t e) (.Call (.Name "zip" p) [a,b] [] j) (Bs6 m):=by
 intro l s σ H R I h;have i:=Ge (es:=[b]) (env:=X.env) hs1
 refine Call_ (Jh I hg hm A1i (PyProof.Rows.callWith_type1 (thn (ha _ _ s _ H _ I h) fun us d ⟨vs,r,g,u,v⟩=>?_) i (by rw[(Ge (es:=[]) (env:=X.env) hs2)];rfl)))
 obtain⟨a',b',rfl,t1,t2,xs,ys,y,o,q⟩:=v;obtain⟨z,A,rfl,B,x⟩:=Vals.two u
 cases (show z=Value.ref _ from B)
 cases (show A=Value.ref _ from x)
 obtain⟨C,rv,w⟩:=y.its g;obtain⟨E,F,D⟩:=o.its g
 refine Aq2 w D fun h' n G=>?_
 apply wpAny_pyIter_zip n.zip
 have J:[d.heap.objs.size+4,d.heap.objs.size+2,d.heap.objs.size+3,d.heap.objs.size,d.heap.objs.size+1].Nodup:=by simp
 refine⟨_,_,_,_,r,rfl,g.kept  G,A6b J,n,fun c hc=>?_,q⟩
 have k:d.heap.objs.size<=c:=by
  grind
 exact g.fpOk k (g.hok.fresh k)
end
def Bk1:R2:=fun x y H Q=>∃a b xs ys,x=.ref a/\y=.ref b/\H a=some (.tup xs)/\H b=some (.tup ys)/\xs.length+ys.length<=sizeLine/\∀p H',Same H H'->H' p=some (.tup (xs++ys))->Q (.ref p) H'
section
variable {X:Cx}
theorem Cw   (h:H p=none) (o:HO):Same H (upd H p o):=fun b u e=>by rw[Ar (Bv e h)];grind
theorem Bc7:OpR X (binaryOp .Add) Bk1:=by
 intro d s σ H x y v u Q I i f h;obtain⟨a,b,g,E,rfl,rfl,j,c,n,q⟩:=h
 by_cases e:g=[]
 ·cases i
  cases f
  subst e;obtain⟨o,r,t,_⟩:=I.tuple (SqT.of j);obtain⟨w,r2,A,_⟩:=I.tuple (SqT.of c);have C  := r.nil_iff.mpr rfl;subst C;obtain⟨⟨c1,d1,D,s1⟩,k,F,n1,z⟩:=id t;obtain⟨⟨c2,d2,B,s2⟩,l,J,n2,G⟩:=id A;subst F z J G
  exact concat_meets ⟨_,k,rfl⟩ ⟨_,l,rfl⟩ noFill_tuple_add seq_tuple_add PySem.F.slot_tuple_add PySem.F.entry_tuple_add (PySem.F.args_tuple_add_2 _ _)
   (tuple_addW0 a b _ _ _ _ _ _ _ _ (by simp)) ⟨k,l,⟨.ref b,H,I,rfl,q b H (fun _ _ e=>e) c⟩⟩
 ·refine Bg6 _ s _ H _ _ v u Q I i f ⟨a,b,g,E,rfl,rfl,SqT.of j,SqT.of c,e,n,fun K=>?_,fun K p m=>?_⟩
  ·exact q a H (fun _ _ e=>e) (by simp_all)
  ·exact q p _ (Cw m _) Ca
end
section
variable {P:Program}{w:World}{A:Around}{E:Value->Shared->Prop}{s:Shared}
theorem Bm0 (quiet:A.handled=none)(t:Bool)(j u:Addr)(ne:u≠j)(vs:Array Value):Draws P w A j [j,u] vs.size (fun i v=>vs[i]?=some v) (fun i h=>ItAt t h j u i/\SqA t h u vs) where
 live:=fun i h x=>let ⟨o,e,_⟩:=x.1.obj; ⟨o,e⟩
 frame:=fun i h h' x k=>⟨x.1.stay fun o e=>k j (by simp) o e,x.2.stay fun o e=>k u (by simp) o e⟩
 item:=fun i s Q E hi x q=>next_item x.1 x.2 (x:=vs[i]) (by simp[hi]) fun h' a b=>q _ h' s.toks (by simp[hi]) ⟨a,x.2.stay fun o e=>b.extBut _ _ ne e⟩ b
 done:=fun s Q E x q=>next_end quiet x.1 x.2 (by simp) q
theorem Ao2 (u:Addr)(vs:Array Value)(n:Nat)(b:Option Addr)(l:Array (Option Value)) :
 Meets (Builtin.«enumerate.__new__» ⟨[.type "enumerate",.ref u],[]⟩) (fun _ R s=>s.heap.get? u=some { cls:=.type "tuple",dict:=b,data:=.seq vs n,slots:=l } /\
  R (.ok (.ret (.ref (s.heap.push (itO true u)).objs.size))) { s with heap:=(s.heap.push (itO true u)).push { cls:=.type "enumerate",data:=.fields #[.none,.bool false,.ref s.heap.objs.size,rawInt 0,.none,.none] } }) :=
 .of_wp fun P w A R s h=>by
  obtain⟨i,g,d,f,k⟩:=s;obtain⟨e,h⟩:=h;have j:=sub_enumerate;have a:Heap.IsTuple (Shared.heap ⟨i,g,d,f,k⟩) u vs:=⟨_,e,rfl,n,rfl⟩
  wp_walk using AutoSeq1.wpAny_loadPart' e
  refine wpAny_stack_any fun m=>wpAny_pure ?_
  split
  ·rename_i c _ _ _ _ _
   cases (c==Value.type "enumerate")
   ·wp_walk using AutoSeq1.wpAny_loadPart' e,wpAny_pyIter_tuple a
    exact⟨_,rfl,h⟩
   ·wp_walk using AutoSeq1.wpAny_loadPart' e,wpAny_pyIter_tuple a
    exact⟨_,rfl,h⟩
  ·wp_walk using AutoSeq1.wpAny_loadPart' e,wpAny_pyIter_tuple a
   exact⟨_,rfl,h⟩
theorem Af0     (p:SqA t s.heap u vs)
 (q:∀f,IsEnum f (s.heap.objs.size+1) s.heap.objs.size 0 .none->ItAt t f s.heap.objs.size u 0->(∀c o,s.heap.get? c=some o->f.get? c=some o)->Q (.ref (s.heap.objs.size+1)) { s with heap:=f }) :
 wpAny (model P w) A (call (.type "enumerate") [.ref u]) Q E s:=by
 cases t
 ·exact call_enumerate_list p fun f a b c d=>q f a b d
 ·obtain⟨⟨c,i,m,l⟩,e,k,n,g⟩:=p
  simp only at k g;subst k g
  apply callType_new F.called_enumerate (by decide) (F.typeCall_enumerate_1 _) (F.newCall_enumerate_1 _) (fun o=>F.args_object_init_2 o _) F.entry_enumerate_new (Ao2 u vs n i l)
  refine⟨e,?_⟩
  have j:(s.heap.push (itO true u)).objs.size=s.heap.objs.size+1:=Heap.size_push ..;have h:IsEnum ((s.heap.push (itO true u)).push { cls:=.type "enumerate",data:=.fields #[.none,.bool false,.ref s.heap.objs.size,rawInt 0,.none,.none] }) (s.heap.push (itO _ u)).objs.size _ 0 _:=Heap.get?_push_size _ rfl;rw[j]at h;rw[j]
  exact⟨⟨_,h,rfl⟩,q _ h (Al9 (Heap.get?_push_of_some _ (Heap.get?_push_size _ rfl))) fun c o x=>Heap.get?_push_of_some _ (Heap.get?_push_of_some _ x)⟩
end
def Ite (t:Bool)(a:Addr):It :=
 ⟨
  fun i H=>∃xs x,SqK t H a xs/\xs[i]?=some x,
  fun i H v H'=>∃p x,v=.ref p/\H p=none/\H'=upd H p (.tup [.int i,x])/\∀xs,SqK t H a xs->xs[i]?=some x,
  fun i H=>∃xs,SqK t H a xs/\xs.length<=i⟩
theorem A0u {P:Program}{w:World}{K:PySem.W.Frag}{t:Bool}{elts:List Expr}{kk:Nat}{pos:Pos}{e j a:Addr}(ne:e≠j) :
 Turn P w K (.Tuple elts kk pos) (Ite t a) [e,j] e (fun i h=>(∃old,IsEnum h e j i old)/\ItAt t h j a i) where
 mem:=by simp
 obj:=fun i h st c hc=>by
  simp only[List.mem_cons,List.not_mem_nil,or_false]at hc
  rcases hc with rfl | rfl
  ·obtain⟨old,q⟩:=st.1;exact⟨_,q,fun v e=>by cases e⟩
  ·obtain⟨o,e,q⟩:=st.2.obj;exact⟨o,e,fun v e=>by rw[q]at e;cases e⟩
 keep:=fun i h h' st k=>by
  obtain⟨⟨old,q⟩,r⟩:=st
  exact⟨⟨old,k e (by simp) _ q⟩,r.stay fun o e=>k j (by simp) o e⟩
 item:=by
  intro X hP hw hK hc i pins s σ H E I hf st hg;subst hP hw hK;obtain⟨xs,x,ha,hx⟩:=hg;obtain⟨⟨old,en⟩,it⟩:=st;obtain⟨its,rv,pa⟩:=ha.its I;obtain⟨u,hu,ru⟩:=rv.get hx
  have off:∀c∈[e,j],a≠c:=fun c m z=>by obtain⟨o,q⟩:=ha.some;rw[z,(hf c m).1]at q;cases q
  have dr:=Bm0 (P:=X.prog) (w:=X.w) (A:=X.A.in1) (I.ok.hd hc) t j a (off j (by simp)) its.toArray
  have li:i<its.toArray.size:=by simpa using (List.getElem?_eq_some_iff.mp hu).1
  refine wpAny_pyNext_enum_itemD dr en ⟨it,pa⟩ li ne (by simp;exact⟨ne,fun z=>off e (by simp) z.symm⟩) fun u' h1 tk pu ou st1 new _ kp=>?_
  have eu:u'=u:=by
   have pu:its.toArray[i]?=some u':=pu;rw[List.getElem?_toArray,hu]at pu;cases pu;rfl
  subst eu
  refine⟨_,rfl,?_⟩
  apply wpAny_letOwnedTupleGo_enum ou;intro h2 en2 sb
  have lt:∀c∈[e,j],c<s.heap.objs.size:=fun c m=>by
   simp only[List.mem_cons,List.not_mem_nil,or_false]at m
   rcases m with rfl | rfl
   ·exact Heap.lt_size en
   ·obtain⟨o,e,_⟩:=it.obj;exact Heap.lt_size e
  have new2:h2.get? s.heap.objs.size=some { cls:=.type "tuple",data:=.seq #[.int i tk,u'] }:=sb.extBut _ _ (Nat.ne_of_gt (lt e (by simp))) new
  have ok:z9 X.prog X.w (upd H s.heap.objs.size (.tup [.int i,x])) h2 s.heap.objs.size (.tup [.int i,x]):=⟨(show 2<=sizeLine by decide),[.int i tk,u'],.cons ⟨tk,rfl⟩ (.cons ru .nil),⟨_,new2,rfl,⟨_,rfl⟩,rfl⟩⟩
  have I2:=I.turnLay (t':=tk+1) hf (h':=h2) (fun c o m q=>sb.extBut _ _ (fun z=>m (by simp[z])) (kp c o (fun z=>m (by simp[z])) (fun z=>m (by simp[z])) q)) (Nat.le_refl _) ok
  refine⟨.ref s.heap.objs.size,_,I2,rfl,⟨_,x,rfl,I.hok.fresh (Nat.le_refl _),rfl,fun xs' h=>?_⟩,⟨⟨u',?_⟩,?_⟩,fun c m=>?_⟩
  ·rw[h.one ha];exact hx
  ·have:IsEnum h2 e j ((i:Int)+1) u':=en2
   simpa using this
  ·exact st1.1.stay fun o q=>sb.extBut _ _ (Ne.symm ne) q
  ·rw[Ar (Nat.ne_of_lt (lt c m))]
   exact(hf c m).1
 done:=by
  intro X hP hw hK hc i pins s σ H E I hf st hg;subst hP hw hK;obtain⟨xs,ha,hl⟩:=hg;obtain⟨⟨old,en⟩,it⟩:=st;obtain⟨its,rv,pa⟩:=ha.its I
  have off:∀c∈[e,j],a≠c:=fun c m z=>by obtain⟨o,q⟩:=ha.some;rw[z,(hf c m).1]at q;cases q
  have ty:s.TypeIs (.ref e) "enumerate" := ⟨_,en,rfl⟩;have ln:=rv.length;unfold pyNext;apply wpAny_bind;apply wpAny_attempt
  refine wpAny_callSpecial?_slot (name:="__next__") ty F.slot_enumerate_next ?_
  refine wpAny_call_entry F.slot_enumerate_next ty F.entry_enumerate_next ?_ (F.args_enumerate_next_1 _)
  apply wpAny_bind (m:=field (.ref e) 2);apply wpAny_field en rfl (x:=.ref j) rfl;apply wpAny_bind
  refine next_end (I.ok.hd hc) it pa (by simp;omega) fun h1 x kp hx=>?_
  obtain⟨o,e1,e2⟩:=hx;apply wpAny_bind
  refine wpAny_isInstance (T := "StopIteration") (b:=true) ⟨o,e1,e2⟩ isSubtype_stop ?_
  exact wpAny_pure ⟨rfl,I.turnL (t':=s.toks) hf fun c o m q=>kp c o (fun z=>m (by simp[z])) q⟩
 self:=fun _ _ _ _ _ st h=>let ⟨_,q⟩:=st.1;wpAny_pyIter_enum q h
theorem Ao8:bootBuiltins "enumerate" = some (.type "enumerate"):=by decide +kernel
section
variable {X:Cx}
def A5a (ta:TA):TI:=fun σ H R=>ta σ H fun vs H1=>∃a,vs=[.ref a]/\∃t xs,SqK t H1 a xs/\R (Ite t a) H1
theorem A9e      (hg:Gl X "enumerate") (hm:X.mg "enumerate" = none) (ha:PA X [a] i) (hs1:isStar a=false:=by rfl) :
 PI X (.Tuple d v b) (.Call (.Name "enumerate" p) [a] [] f) (A5a i):=by
 intro j s σ H R I h
 refine Call_ (Jh I hg hm Ao8 (PyProof.Rows.callWith_type1 (thn (ha _ _ s _ H _ I h) fun us x ⟨vs,o,e,r,u⟩=>?_) (Ge (es:=[]) (env:=X.env) hs1) rfl))
 obtain⟨a',rfl,t,xs,l,q⟩:=u;obtain⟨w,rfl,m⟩:=vals1 r
 cases (show w=Value.ref _ from m)
 obtain⟨n,rv,y⟩:=l.its e
 refine Af0 y fun h' k z A=>?_
 apply wpAny_pyIter_enum k
 refine⟨_,_,_,_,o,rfl,e.kept  A,A0u (Nat.ne_of_gt (Nat.lt_succ_self _)),⟨⟨_,k⟩,z⟩,fun c hc=>?_,q⟩
 have g:x.heap.objs.size<=c:=by
  grind
 exact e.fpOk g (e.hok.fresh g)
end
section
variable {X:Cx}
def A7f (i j k:Nat)(ta:TA):TS:=fun D σ H=>ta σ H fun vs H1=>∃v w y,vs=[v,w,y]/\D.nx (((σ.set i (some v)).set j (some w)).set k (some y)) H1
theorem Be1 {i j k:Nat}{x y z:Str}{a b c:Expr}{M:TA}{t r B u:Pos}{C k2 f}(hc:X.calm=true)(hN:X.N.Nodup)(hi:X.N[i]?=some x)(hj:X.N[j]?=some y)(hk:X.N[k]?=some z)(hij:i≠j)(hik:i≠k)(hjk:j≠k)
 (hx:X.env.scope.names.lookup x=some .local) (hy:X.env.scope.names.lookup y=some .local) (hz:X.env.scope.names.lookup z=some .local) (ha:PA X [a,b,c] M)
 (hw:swappedStores [.Tuple [.Name x t,.Name y r,.Name z B] C u] (.Tuple [a,b,c] k2 f) X.env=pure (some [x,y,z]))
 (hs:swapsWithSole [.Tuple [.Name x t,.Name y r,.Name z B] C u] (.Tuple [a,b,c] k2 f) pos.line X.env=pure false:=by rfl) :
 PS X (.Assign [.Tuple [.Name x t,.Name y r,.Name z B] C u] (.Tuple [a,b,c] k2 f) pos) (A7f i j k M):=by
 intro d s N H D I h;rw[exec_Assign_arm]
 refine wpAny_bind (wpAny_standAt ?_)
 rw[hs]
 refine wpAny_bind (wpAny_pure ?_)
 rw[if_neg (by decide)]
 refine wpAny_bind (Tuple_ (thn (ha _ d s N H _ I h) fun W g ⟨vs,L,R,V,A⟩=>?_))
 obtain⟨v,w,y',P,A⟩:=A;subst P
 obtain⟨n,m,l,rfl,Q,F,S⟩:∃n m l,W=[n,m,l]/\RelV v n/\RelV w m/\RelV y' l:=by
  cases V with
  | cons p q =>
   cases q with
   | cons T U =>
    cases U with
    | cons E G =>
     cases G
     exact⟨_,_,_,rfl,p,T,E⟩
 refine wpAny_newObj_type ?_ (by show 3<=sizeLine;decide)
 have Y:Inv X d N L { g with heap:=g.heap.push { cls:=.type "tuple",data:=.seq [n,m,l].toArray } }:=R.kept (t':=g.toks) fun b o e=>Heap.get?_push_of_some _ e
 rw[hw]
 refine wpAny_bind (wpAny_pure ?_)
 show wpAny (model X.prog X.w) X.A (do rule "assign.swapped-stores";let items <- unpackItems (.ref g.heap.objs.size) 3 none;assignInOrder [fun v=>bindName X.env z v,fun v=>bindName X.env y v,fun v=>bindName X.env x v] items.reverse;pure Flow.next) _ _ _
 refine wpAny_bind (wpAny_rule (wpAny_bind (unpackItems_tuple (items:=#[n,m,l]) (I.ok.hd hc) (IsTup.new g.heap _) fun O J=>?_)))
 show wpAny _ _ (assignInOrder [fun v=>bindName X.env z v,fun v=>bindName X.env y v,fun v=>bindName X.env x v] [l,m,n] >>= fun _=>pure Flow.next) _ _ _
 refine wpAny_bind (assignInOrder_cons (wpAny_bindName (Hk (Y.kept (h':=O) (t':=g.toks) fun b o e=>J b o (Nat.ne_of_lt (Heap.lt_size e)) e) hN hk (.inl hz) S (fun s2 Z=>?_) (.inr hz))))
 refine assignInOrder_cons (wpAny_bindName (Hk Z hN hj (.inl hy) F (fun s3 I5=>?_) (.inr hy)))
 refine assignInOrder_cons (wpAny_bindName (Hk I5 hN hi (.inl hx) Q (fun s4 K=>assignInOrder_nil (wpAny_pure ?_)) (.inr hx)))
 rw[List.set_comm _ _ (Ne.symm hij),List.set_comm _ _ (Ne.symm hik),List.set_comm _ _ (Ne.symm hjk)]at K;exact⟨_,L,K,A⟩
end
section
variable {X:Cx}{a b:Expr}{ta tb:TE}{pos:Pos}
def Be0 (neg:Bool):R2:=fun x y H Q=>∃d ds,Tr H d x/\(Tr H (.list ds) y\/Tr H (.tuple ds) y)/\Flat d/\PyData.canLayAll0 ds=true/\Q (.bl (if neg then !ds.any (fun e=>PyData.eqv e d) else ds.any fun e=>PyData.eqv e d)) H
theorem Yx (hu:X.A.units+64<cLine)(ha:PE X a ta)(hb:PE X b tb)(hm:behindInMarks .NotIn b=false):PT X (.Compare a [.NotIn] [b] pos) (Km (tOp (Be0 true) ta tb)):=Ls (A0d hu) ha hb hm
end
end L2
set_option autoImplicit true
namespace L2
open PySem PySem.Spec PyProof.Rows
structure QE (X:Cx) (e:Expr) (t:TE):Prop where
 get:PE X e t
structure QT (X:Cx) (e:Expr) (t:TT):Prop where
 get:PT X e t
structure QW (X:Cx) (e:Expr) (t:TT):Prop where
 get:PW X e t
structure QA (X:Cx) (e:(List Expr)) (t:TA):Prop where
 get:PA X e t
structure QS (X:Cx) (st:Stmt) (t:TS):Prop where
 get:PS X st t
structure QSs (X:Cx) (st:(List Stmt)) (t:TS):Prop where
 get:PSs X st t
structure QG (X:Cx) (e:Expr) (t:TG):Prop where
 get:PG X e t
structure QGs (X:Cx) (e:(List Expr)) (t:TGs):Prop where
 get:PGs X e t
structure QO (X:Cx) (e:(Option Expr)) (t:TO):Prop where
 get:PO X e t
structure QK (X:Cx) (e:(List Keyword)) (t:TA):Prop where
 get:PK X e t
structure QTs (X:Cx) (e:(List Expr)) (t:TT):Prop where
 get:PTs X e t
structure QI (X:Cx) (tg iter:Expr) (wi:TI):Prop where
 get:PI X tg iter wi
theorem Ah  : QE X (.Constant (.int i) j a) (tC (.int i)) :=
 ⟨A3p ⟩
theorem Np  : QE X (.Constant (.bool b) j a) (tC (.bl b)) :=
 ⟨Bj6 ⟩
theorem Jo  : QE X (.Constant .none j a) (tC .non) :=
 ⟨A6j ⟩
theorem Bs  : QE X (.Constant (.str x) j a) (tC (.str x)) :=
 ⟨A5e ⟩
theorem Bc6     (hg:Gl X x) (hm:X.mg x=some u) (r:RelV v u) (hd:(x==("__debug__" : Str))=false:=by decide):QE X (.Name x a) (tC v) :=
 ⟨Bi1 (hg:=hg) (hm:=hm) (r:=r) (hd:=hd)⟩
theorem Dp    {a:Pos}(hg:Gl X x) (hm:X.mg x=none) (hv:bootBuiltins x=some u) (r:RelV v u) (hn:x ≠ "__name__" := by decide) (hd:(x==("__debug__" : Str))=false:=by decide):QE X (.Name x a) (tC v) :=
 ⟨A9c (hg:=hg) (hm:=hm) (hv:=hv) (r:=r) (hn:=hn) (hd:=hd)⟩
theorem Ay7 (ha:QT X a tA):QW X (.BoolOp .And [a] pos) tA :=
 ⟨Bf7 (ha:=ha.get)⟩
theorem Ap9 (ha:QT X a tA):QW X (.BoolOp .Or [a] pos) tA :=
 ⟨Bv0 (ha:=ha.get)⟩
theorem Z1 (ha:QT X a tA)(hb:QW X (.BoolOp .And (b::rst) pos) tB'):QW X (.BoolOp .And (a::b::rst) pos) (Bo3 tA tB') :=
 ⟨Br7 (ha:=ha.get) (hb:=hb.get)⟩
theorem A3m (ha:QT X a tA)(hb:QW X (.BoolOp .Or (b::rst) pos) tB'):QW X (.BoolOp .Or (a::b::rst) pos) (tOr tA tB') :=
 ⟨B0z (ha:=ha.get) (hb:=hb.get)⟩
theorem An2 (ha:QT X a tA):QT X (.UnaryOp .Not a pos) (Bs3 tA) :=
 ⟨Bp3 (ha:=ha.get)⟩
theorem Ou   (h:QE X a t):QE X (.BoolOp op [a] pos) t :=
 ⟨Bl4 (h:=h.get)⟩
theorem M5 (ha:QE X a ta)(hb:QE X (.BoolOp .And (b::rst) pos) tb):QE X (.BoolOp .And (a::b::rst) pos) (A8w ta tb) :=
 ⟨Br0 (ha:=ha.get) (hb:=hb.get)⟩
theorem B1j (ha:QE X a ta)(hb:QE X (.BoolOp .Or (b::rst) pos) tb):QE X (.BoolOp .Or (a::b::rst) pos) (Bn6 ta tb) :=
 ⟨B0l (ha:=ha.get) (hb:=hb.get)⟩
theorem A7k (ha:QE X a ta):QE X (.UnaryOp .Not a pos) (A4b ta) :=
 ⟨Bq6 (ha:=ha.get)⟩
theorem Nh  (hc:QT X c tA) (ha:QE X a ta) (hb:QE X b tb):QE X (.IfExp c a b pos) (tIf tA ta tb) :=
 ⟨A8c (hc:=hc.get) (ha:=ha.get) (hb:=hb.get)⟩
theorem Ci  : QSs X [] A2z :=
 ⟨Bf1 ⟩
theorem Ai (h1:QS X stm t)(h2:QSs X rst u):QSs X (stm::rst) (Bg8 t u) :=
 ⟨A7v (h1:=h1.get) (h2:=h2.get)⟩
theorem Ao (h1:QS X stm t):QSs X [stm] t :=
 ⟨A9v (h1:=h1.get)⟩
theorem Q3 (he:QE X e te)(hs:swapsWith e none pos.line X.env=pure false:=by rfl):QS X (.Expr e pos) (A8v te) :=
 ⟨Bd5 (he:=he.get) (hs:=hs)⟩
theorem Bc (he:QE X e te):QS X (.Return (some e) pos) (Bs9 te) :=
 ⟨Bt4 (he:=he.get)⟩
theorem Ep    (hc:QT X c d) (ha:QSs X a t) (hb:QSs X b u):QS X (.If c a b pos) (A8b d t u) :=
 ⟨By1 (hc:=hc.get) (ha:=ha.get) (hb:=hb.get)⟩
theorem Bh   (hN:X.N.Nodup) (hi:X.N[i]?=some x) (hx:Loc X.env.scope x) (hf:X.fn x=true\/X.env.scope.names.lookup x=some .local:=by first | exact .inl rfl | exact .inr rfl | assumption):QG X (.Name x pos) (Px i) :=
 ⟨Bd8 (hN:=hN) (hi:=hi) (hx:=hx) ⟩
theorem Iu  : QGs X [] A9r :=
 ⟨A9n ⟩
theorem Ds     (h1:QG X e t) (h2:QGs X es u) (hs:(assignEach (e::es) X.env).map (·.2)=assign e X.env::(assignEach es X.env).map (·.2):=by rfl):QGs X (e::es) (Aj9 t u) :=
 ⟨A7i (h1:=h1.get) (h2:=h2.get) (hs:=hs)⟩
theorem Lr  (a:X.K=Kq)  {k:Nat}   (hc:X.calm=true) (h:QGs X es t) (hn:(assignEach es X.env).length=n:=by rfl) (hst:(assignEach es X.env).findIdx? (·.1)=none:=by rfl):QG X (.Tuple es k pos) (Be5 Kq n t):=by
 subst a;exact⟨Bt0 (hc:=hc) (h:=h.get) (hn:=hn) (hst:=hst)⟩
theorem A5y    (ho:QE X o b) (hi:QE X i a) (hs:Bs7 X t) (ha:∀v,assign (.Subscript o i pos) X.env v=(do
 let ov <- holding [v] (eval o X.env)
 let iv <- holding [v,ov] (eval i X.env)
 standAt pos
 holding [v,ov,iv] (setItem ov iv v)
 release [v,ov,iv] []):=by intro _;rfl):QG X (.Subscript o i pos) (Bm8 b a t) :=
 ⟨Bp7 (ho:=ho.get) (hi:=hi.get) (hs:=hs) (ha:=ha)⟩
theorem A8s    (he:QE X e b) (hg:QG X a g) (hs:swapsWithSole [a] e pos.line X.env=pure false:=by rfl) (hw:swappedStores [a] e X.env=pure none:=by rfl) (h1:(assignEach [a] X.env).map (·.2)=[assign a X.env]:=by rfl):QS X (.Assign [a] e pos) (Aq7 b g) :=
 ⟨Bt3 (he:=he.get) (hg:=hg.get) (hs:=hs) (hw:=hw) (h1:=h1)⟩
theorem By      (hN:X.N.Nodup) (hi:X.N[i]?=some x) (hx:Loc X.env.scope x) (he:QE X e b) (hs:swapsWith e (some (.Name x a)) pos.line X.env=pure false:=by rfl) (hf:X.fn x=true\/X.env.scope.names.lookup x=some .local:=by first | exact .inl rfl | exact .inr rfl | assumption):QS X (.Assign [.Name x a] e pos) (Aq7 b (Px i)) :=
 ⟨Bx4 (hN:=hN) (hi:=hi) (hx:=hx) (he:=he.get) (hs:=hs) ⟩
theorem A4j       (hc:X.calm=true) (hN:X.N.Nodup) (hi:X.N[i]?=some x) (hj:X.N[j]?=some y) (hij:i≠j) (hx:X.env.scope.names.lookup x=some .local) (hy:X.env.scope.names.lookup y=some .local) (ha:QA X [a,b] h) (hw:swappedStores [.Tuple [.Name x e,.Name y d] g f] (.Tuple [a,b] k2 c) X.env=pure (some [x,y])) (hs:swapsWithSole [.Tuple [.Name x e,.Name y d] g f] (.Tuple [a,b] k2 c) pos.line X.env=pure false:=by rfl):QS X (.Assign [.Tuple [.Name x e,.Name y d] g f] (.Tuple [a,b] k2 c) pos) (Bl0 i j h) :=
 ⟨Bu0 (hc:=hc) (hN:=hN) (hi:=hi) (hj:=hj) (hij:=hij) (hx:=hx) (hy:=hy) (ha:=ha.get) (hw:=hw) ⟩
theorem Fe  (a:X.K=Kq)   (hl:QE X l b):QI X c l (Br1 Kq b):=by
 subst a;exact⟨Bk8 (hl:=hl.get)⟩
theorem Ja    (hg:Gl X "range") (hm:X.mg "range" = none) (ha:QA X [a] c) (hs:starEach [a] X.env=[(false,eval a X.env)]:=by rfl):QI X tg (.Call (.Name "range" p) [a] [] b) (A6n c) :=
 ⟨A0m (hg:=hg) (hm:=hm) (ha:=ha.get) (hs:=hs)⟩
theorem Sx       (hp:PassesOwn (model X.prog X.w) X.A X.env X.xe) (hc:X.calm=true) (hi:QI X tg a c) (hg:QG X tg g) (hb:QSs X body d) (hs:∀x,foldedSetIterable a X.env x=pure x:=by intro _;rfl):QS X (.For tg a body [] b) (Bw2 c g d) :=
 ⟨Bw7 (hp:=hp) (hc:=hc) (hi:=hi.get) (hg:=hg.get) (hb:=hb.get) (hs:=hs)⟩
theorem G8   (h:QE X e t) (he:∀whole,isTrue e X.env whole=(do let v <- whole;standAt e.pos;holding [v] (truthy v)):=by intro _;rfl):QT X e (tB t) :=
 ⟨Bv2 (h:=h.get) (he:=he)⟩
theorem Ae  : QA X [] G6 :=
 ⟨Vi ⟩
theorem Af (ha:QE X e te)(hr:QA X es t)(hs:isStar e=false:=by rfl):QA X (e::es) (Dh te t) :=
 ⟨Bb7 (ha:=ha.get) (hr:=hr.get) (hs:=hs)⟩
theorem Ce  (h:QA X es t):QE X (.Tuple es a pos) (A5c t) :=
 ⟨Bw1 (h:=h.get)⟩
theorem Ec (h:QA X es t):QE X (.List es pos) (Bx5 t) :=
 ⟨Bv8 (h:=h.get)⟩
theorem U9 (F:FnOk X.prog X.w X.K X.mg X.base CX k f fd ps sp)(hr:Room k X.A)(hg:Gl X x)(hm:X.mg x=some (.ref f))(hk:PySem.W.keepIn X.K (.ref f)=true)(hb:Binds X.K fd ps ds)(hd:Vals dvs ds)(hx:M6 CX X E)(ha:QA X (e::es) t)(hdb:(x==("__debug__" : Str))=false:=by decide) (hn:noStar (e::es)=true:=by rfl):QE X (.Call (.Name x p) (e::es) [] pos) (Mg sp dvs E t) :=
 ⟨A6f (F:=F) (hr:=hr) (hg:=hg) (hm:=hm) (hk:=hk) (hb:=hb) (hd:=hd) (hx:=hx) (ha:=ha.get) (hdb:=hdb) (hn:=hn)⟩
theorem Bm7  : QK X [] G6 :=
 ⟨Bm9 ⟩
theorem Bb3 (ha:QE X e te)(hr:QK X kws t):QK X (⟨nm,e,kpos⟩::kws) (Dh te t) :=
 ⟨Bd4 (ha:=ha.get) (hr:=hr.get)⟩
theorem Nt  : QO X none Aa5 :=
 ⟨Be3 ⟩
theorem G4 (h:QE X e te):QO X (some e) (A7x te) :=
 ⟨A9x (h:=h.get)⟩
theorem A2w  (hr:SlR X r) (he:QE X e te) (hl:QO X low tl) (hu:QO X hi th):QE X (.Subscript e (.Slice low hi none p2) pos) (tSl r te tl th) :=
 ⟨A4t (hr:=hr) (he:=he.get) (hl:=hl.get) (hu:=hu.get)⟩
theorem Bk3  (hr:IxR X r) (ha:QE X a ta) (hb:QE X b tb) (hs:N8 b):QE X (.Subscript a b pos) (tOp r ta tb) :=
 ⟨B0t (hr:=hr) (ha:=ha.get) (hb:=hb.get) (hs:=hs)⟩
theorem Ay5  (a:X.K=Kq) (pa:PlainAttrs T) (slot:Slot T name idn) (hty:typeOf (.builtin idn)=pure (.type "method_descriptor")) (hm:MtR X idn r) (ho:QE X o to) (ha:QA X (e::es) t) (hbase:attributeBase o name X.env (eval o X.env)=eval o X.env:=by rfl) (hfew:((backTo cpos (starEach (e::es) X.env)).all (fun x=>!x.1)&&(backToKw cpos (keywordEach [] X.env)).all (fun x=>x.1.isSome)
 && decide ((e::es).length+([]:List Keyword).length+(if ([]:List Keyword).isEmpty then 0 else 1)<30))=true:=by rfl) (hline:(apos.endLine==cpos.line)=true:=by rfl) (hs:starEach (e::es) X.env=(false,eval e X.env)::starEach es X.env:=by rfl) (hplain:(backTo cpos (starEach es X.env)).any (·.1)=false:=by rfl):QE X (.Call (.Attribute o name apos) (e::es) [] cpos) (tBM Kq T r to t):=by
 subst a;exact⟨Bj3 (pa:=pa) (slot:=slot) (hty:=hty) (hm:=hm) (ho:=ho.get) (ha:=ha.get) (hbase:=hbase) (hfew:=hfew) (hline:=hline) (hs:=hs) (hplain:=hplain)⟩
theorem K3  (b:X.K=Kq) (ho:QE X a ta) (hv:QE X e te) (hbase:attributeBase a "append" X.env (eval a X.env)=eval a X.env:=by rfl) (hfew:((backTo cpos (starEach [e] X.env)).all (fun x=>!x.1)&&(backToKw cpos (keywordEach [] X.env)).all (fun x=>x.1.isSome)
 && decide ([e].length+([]:List Keyword).length+(if ([]:List Keyword).isEmpty then 0 else 1)<30))=true:=by rfl) (hline:(apos.endLine==cpos.line)=true:=by rfl) (hns:isStar e=false:=by rfl):QE X (.Call (.Attribute a "append" apos) [e] [] cpos) (tBM Kq "list" rAppF ta (Dh te G6)):=by
 subst b;exact⟨A2a (ho:=ho.get) (hv:=hv.get) (hbase:=hbase) (hfew:=hfew) (hline:=hline) (hns:=hns)⟩
theorem Eb  : QTs X [] Bt6 :=
 ⟨Bc8 ⟩
theorem Uc    (h:QT X c t):QTs X [c] t :=
 ⟨Bd2 (h:=h.get)⟩
theorem Hm (L:Ip X N' idx scope)(hc:X.calm=true)(hi:QI X tg iter wi)(hg:∀d C b a c,QG (Fz X N' scope d C b a c) tg g)(ht:∀d C b a c,QTs (Fz X N' scope d C b a c) ifs tc)(he:∀d C b a c,QE (Fz X N' scope d C b a c) elt te)(hs:∀x,foldedSetIterable iter X.env x=pure x:=by intro _;rfl):QE X (.ListComp elt [⟨tg,iter,ifs,0⟩] scope pos) (tLC idx wi g tc te) :=
 ⟨B1r (L:=L) (hc:=hc) (hi:=hi.get) (hg:=fun d C b a c=>(hg _ C _ _ _).get) (ht:=fun d C b a c=>(ht _ C _ _ _).get) (he:=fun d C b a c=>(he _ C _ _ _).get) (hs:=hs)⟩
theorem M4   {f d:Pos}(hN:X.N.Nodup) (hi':X.N[i]?=some y) (hy:Loc X.env.scope y) (L:Ip X N' idx scope) (hc:X.calm=true) (hi:QI X tg iter wi) (hg:∀e C b a c,QG (Fz X N' scope e C b a c) tg g) (ht:∀e C b a c,QTs (Fz X N' scope e C b a c) ifs tc) (he:∀e C b a c,QE (Fz X N' scope e C b a c) elt te) (hsw:swapsWith (.ListComp elt [⟨tg,iter,ifs,0⟩] scope pos) (some (.Name y f)) d.line X.env=pure true:=by rfl) (hf:X.fn y=true\/X.env.scope.names.lookup y=some .local:=by first | exact .inl rfl | exact .inr rfl | assumption) (hs:∀x,foldedSetIterable iter X.env x=pure x:=by intro _;rfl):QS X (.Assign [.Name y f] (.ListComp elt [⟨tg,iter,ifs,0⟩] scope pos) d) (Aq7 (tLC idx wi g tc te) (Px i)) :=
 ⟨A2x (hN:=hN) (hi':=hi') (hy:=hy) (L:=L) (hc:=hc) (hi:=hi.get) (hg:=fun e C b a c=>(hg _ C _ _ _).get) (ht:=fun e C b a c=>(ht _ C _ _ _).get) (he:=fun e C b a c=>(he _ C _ _ _).get) (hsw:=hsw)  (hs:=hs)⟩
theorem A5d (ha:QE X a ta):QE X (.UnaryOp .USub a pos) (tUn (rU fun i=>.int (-i)) ta) :=
 ⟨Bs4 (ha:=ha.get)⟩
theorem Hb (ha:QE X a ta)(hb:QE X b tb):QE X (.BinOp a .Sub b pos) (tOp (rI0 fun i j=>.int (i-j)) ta tb) :=
 ⟨A1e (ha:=ha.get) (hb:=hb.get)⟩
theorem Jb (ha:QE X a ta)(hb:QE X b tb):QE X (.BinOp a .Mult b pos) (tOp (rI CMul fun i j=>.int (i*j)) ta tb) :=
 ⟨A2d (ha:=ha.get) (hb:=hb.get)⟩
theorem Vw (ha:QE X a ta)(hb:QE X b tb):QE X (.BinOp a .FloorDiv b pos) (tOp (rI A8d fun i j=>.int (i / j)) ta tb) :=
 ⟨An7 (ha:=ha.get) (hb:=hb.get)⟩
theorem Hr (ha:QE X a ta)(hb:QE X b tb):QE X (.BinOp a .Mod b pos) (tOp (rI (fun _ j=>0<j) fun i j=>.int (i % j)) ta tb) :=
 ⟨A1o (ha:=ha.get) (hb:=hb.get)⟩
theorem Iz (ha:QE X a ta)(hb:QE X b tb):QE X (.BinOp a .Pow b pos) (tOp (rI A6o fun i j=>.int (i ^ j.toNat)) ta tb) :=
 ⟨A2k (ha:=ha.get) (hb:=hb.get)⟩
theorem Ag7 (ha:QE X a ta)(hb:QE X b tb):QT X (.Compare a [.Lt] [b] pos) (Km (tOp (rI0 fun i j=>.bl (decide (i<j))) ta tb)) :=
 ⟨A5x (ha:=ha.get) (hb:=hb.get)⟩
theorem A5w (ha:QE X a ta)(hb:QE X b tb):QT X (.Compare a [.Gt] [b] pos) (Km (tOp (rI0 fun i j=>.bl (decide (j<i))) ta tb)) :=
 ⟨A7d (ha:=ha.get) (hb:=hb.get)⟩
theorem A6w (ha:QE X a ta)(hb:QE X b tb):QE X (.Compare a [.GtE] [b] pos) (tOp (rI0 fun i j=>.bl (decide (j<=i))) ta tb) :=
 ⟨A5k (ha:=ha.get) (hb:=hb.get)⟩
theorem Kh (ha:QE X a ta)(hb:QE X b tb):QT X (.Compare a [.Is] [b] pos) (Km (tOp (fun x y H Q=>y=.non/\Q (.bl (decide (x=.non))) H) ta tb)) :=
 ⟨A1f (ha:=ha.get) (hb:=hb.get)⟩
theorem S8  (a:X.K=Kq) (hgl:Gl X "abs") (hm:X.mg "abs" = none) (ha:QA X (e::es) t) (hns:noStar (e::es)=true:=by rfl):QE X (.Call (.Name "abs" p) (e::es) [] pos) (tCB (Oz Kq) t):=by
 exact⟨Ac9 (hgl:=hgl) (hm:=hm) (ha:=ha.get) (hns:=hns)⟩
theorem Cj  (a:X.K=Kq) (hgl:Gl X "isinstance") (hm:X.mg "isinstance" = none) (ha:QA X (e::es) t) (hns:noStar (e::es)=true:=by rfl):QE X (.Call (.Name "isinstance" p) (e::es) [] pos) (tCB (Ph Kq) t):=by
 exact⟨Af9 (hgl:=hgl) (hm:=hm) (ha:=ha.get) (hns:=hns)⟩
theorem Ln  (a:X.K=Kq) (hgl:Gl X "isinstance") (hm:X.mg "isinstance" = none) (ha:QA X (e::es) t) (hns:noStar (e::es)=true:=by rfl):QE X (.Call (.Name "isinstance" p) (e::es) [] pos) (tCB (Jz Kq) t):=by
 exact⟨Zr (hgl:=hgl) (hm:=hm) (ha:=ha.get) (hns:=hns)⟩
theorem Qp  (a:X.K=Kq) (hc:X.calm=true) (hgl:Gl X "all") (hm:X.mg "all" = none) (ha:QA X (e::es) t) (hns:noStar (e::es)=true:=by rfl):QE X (.Call (.Name "all" p) (e::es) [] pos) (tCB (Mr Kq) t):=by
 subst a;exact⟨Zh (hc:=hc) (hgl:=hgl) (hm:=hm) (ha:=ha.get) (hns:=hns)⟩
theorem Yo  (a:X.K=Kq) (hgl:Gl X "int") (hm:X.mg "int" = none) (ha:QA X (e::es) t) (hns:noStar (e::es)=true:=by rfl):QE X (.Call (.Name "int" p) (e::es) [] pos) (tCB (Mu Kq) t):=by
 exact⟨Ab7 (hgl:=hgl) (hm:=hm) (ha:=ha.get) (hns:=hns)⟩
theorem Az  (a:X.K=Kq) (hgl:Gl X "tuple") (hm:X.mg "tuple" = none) (ha:QA X (e::es) t) (hns:noStar (e::es)=true:=by rfl):QE X (.Call (.Name "tuple" p) (e::es) [] pos) (tCB (Ij Kq) t):=by
 subst a;exact⟨Q8 (hgl:=hgl) (hm:=hm) (ha:=ha.get) (hns:=hns)⟩
theorem Ef  (a:X.K=Kq) (hgl:Gl X "list") (hm:X.mg "list" = none) (ha:QA X (e::es) t) (hns:noStar (e::es)=true:=by rfl):QE X (.Call (.Name "list" p) (e::es) [] pos) (tCB (Jg Kq) t):=by
 subst a;exact⟨T8 (hgl:=hgl) (hm:=hm) (ha:=ha.get) (hns:=hns)⟩
theorem Ze  (a:X.K=Kq) (hc:X.calm=true) (hgl:Gl X "min") (hm:X.mg "min" = none) (ha:QA X (e::es) t) (hns:noStar (e::es)=true:=by rfl):QE X (.Call (.Name "min" p) (e::es) [] pos) (tCB (My Kq) t):=by
 exact⟨Aa1 (hc:=hc) (hgl:=hgl) (hm:=hm) (ha:=ha.get) (hns:=hns)⟩
theorem Bm4   {p e d:Pos}{c:List Expr}{g:Nat}(hg:Gl X "zip") (hm:X.mg "zip" = none) (ha:QA X [a,b] f) (hs1:isStar a=false:=by rfl) (hs2:isStar b=false:=by rfl):QI X (.Tuple c g d) (.Call (.Name "zip" p) [a,b] [] e) (Bs6 f) :=
 ⟨Bx6 (hg:=hg) (hm:=hm) (ha:=ha.get) (hs1:=hs1) (hs2:=hs2)⟩
theorem Zg      (hg:Gl X "enumerate") (hm:X.mg "enumerate" = none) (ha:QA X [a] e) (hs1:isStar a=false:=by rfl):QI X (.Tuple b f c) (.Call (.Name "enumerate" p) [a] [] d) (A5a e) :=
 ⟨A9e (hg:=hg) (hm:=hm) (ha:=ha.get) (hs1:=hs1)⟩
theorem Bb8 {i j k:Nat}{x y z:Str}{a b c:Expr}{m:TA}{f g e h:Pos}{l k2 d}(hc:X.calm=true)(hN:X.N.Nodup)(hi:X.N[i]?=some x)(hj:X.N[j]?=some y)(hk:X.N[k]?=some z)(hij:i≠j)(hik:i≠k)(hjk:j≠k)(hx:X.env.scope.names.lookup x=some .local)(hy:X.env.scope.names.lookup y=some .local)(hz:X.env.scope.names.lookup z=some .local)(ha:QA X [a,b,c] m)(hw:swappedStores [.Tuple [.Name x f,.Name y g,.Name z e] l h] (.Tuple [a,b,c] k2 d) X.env=pure (some [x,y,z]))(hs:swapsWithSole [.Tuple [.Name x f,.Name y g,.Name z e] l h] (.Tuple [a,b,c] k2 d) pos.line X.env=pure false:=by rfl):QS X (.Assign [.Tuple [.Name x f,.Name y g,.Name z e] l h] (.Tuple [a,b,c] k2 d) pos) (A7f i j k m) :=
 ⟨Be1 (hc:=hc) (hN:=hN) (hi:=hi) (hj:=hj) (hk:=hk) (hij:=hij) (hik:=hik) (hjk:=hjk) (hx:=hx) (hy:=hy) (hz:=hz) (ha:=ha.get) (hw:=hw) ⟩
theorem Gr (hu:X.A.units+64<cLine)(ha:QE X a ta)(hb:QE X b tb)(hm:behindInMarks .NotIn b=false):QT X (.Compare a [.NotIn] [b] pos) (Km (tOp (Be0 true) ta tb)) :=
 ⟨Yx (hu:=hu) (ha:=ha.get) (hb:=hb.get) (hm:=hm)⟩
theorem Rb    (h:Qe es=some vs):QA X es (tK vs):=⟨X4 h⟩
theorem QW.qt    (h:QW X e t):QT X e t:=⟨h.get.pt⟩
theorem qv (i:Nat)  {a:Pos}(hN:X.N[i]?=some x:=by rfl) (hv:Vis X.env.scope x:=by first | exact Or.inl rfl | exact Or.inr (Or.inl rfl) | exact Or.inr (Or.inr rfl)) (hd:(x==("__debug__" : Str))=false:=by decide) (hcd:(x==("__classdict__" : Str))=false:=by decide):QE X (.Name x a) (Bs2 i):=⟨Bq8 hN hv hd hcd⟩
end L2
namespace L2
open PySem
theorem G3       (h:QSs X st t) (k:t D a H):∃t,PSs X st t/\t D a H:=⟨t,h.get,k⟩
theorem T7:Fq "NoneType" "int" = some false:=by trivial
theorem T4:Fq "NoneType" "str" = some false:=by trivial
theorem Ra:Fq "NoneType" "bool" = some false:=by trivial
theorem Q9:Fq "NoneType" "list" = some false:=by trivial
theorem Py:Fq "NoneType" "tuple" = some false:=by trivial
theorem Af7:Fq "bool" "int" = some true:=by trivial
theorem Ad8:Fq "bool" "str" = some false:=by trivial
theorem Zv:Fq "bool" "bool" = some true:=by trivial
theorem Aa4:Fq "bool" "list" = some false:=by trivial
theorem Wq:Fq "bool" "tuple" = some false:=by trivial
theorem As7:Fq "int" "int" = some true:=by trivial
theorem Am3:Fq "int" "str" = some false:=by trivial
theorem Ak4:Fq "int" "bool" = some false:=by trivial
theorem Ak2:Fq "int" "list" = some false:=by trivial
theorem Yw:Fq "int" "tuple" = some false:=by trivial
theorem Aq6:Fq "str" "int" = some false:=by trivial
theorem Am7:Fq "str" "str" = some true:=by trivial
theorem Ac7:Fq "str" "bool" = some false:=by trivial
theorem Ae6:Fq "str" "list" = some false:=by trivial
theorem Ab6:Fq "str" "tuple" = some false:=by trivial
theorem Ad5:Fq "list" "int" = some false:=by trivial
theorem Aj3:Fq "list" "str" = some false:=by trivial
theorem Ab1:Fq "list" "bool" = some false:=by trivial
theorem Ac0:Fq "list" "list" = some true:=by trivial
theorem Wr:Fq "list" "tuple" = some false:=by trivial
theorem Zx:Fq "tuple" "int" = some false:=by trivial
theorem Aa7:Fq "tuple" "str" = some false:=by trivial
theorem Wu:Fq "tuple" "bool" = some false:=by trivial
theorem Wj:Fq "tuple" "list" = some false:=by trivial
theorem Vs:Fq "tuple" "tuple" = some true:=by trivial
section
variable {K:PySem.W.Frag}{H:Hp}{Q:VK}{x:V}{T:String}{i j:Int}{a p:Addr}
theorem Bp6  (h:H a=some (.lst xs)):Oq H (.ref a)=some "list" := by simp only[Oq,h]
theorem Bx9  (h:H a=some (.tup xs)):Oq H (.ref a)=some "tuple" := by simp only[Oq,h]
theorem Bd1  (h:H a=some (.lst xs)):Az9 H (.ref a)=some xs.length:=by simp only[Az9,h]
theorem Bi3  (h:H a=some (.tup xs)):Az9 H (.ref a)=some xs.length:=by simp only[Az9,h]
end
abbrev g2 (K:PySem.W.Frag)(i j:Nat):TG:=Be5 K 2 (Aj9 (Px i) (Aj9 (Px j) A9r))
theorem exc {R:Addr->Addr->List V->List V->Prop}{x y:Addr}:(∃a b xs ys,V.ref x=V.ref a/\V.ref y=V.ref b/\R a b xs ys)↔∃xs ys,R x y xs ys:=by
 constructor
 ·rintro⟨a,b,xs,ys,e1,e2,h⟩;cases e1;cases e2;exact⟨xs,ys,h⟩
 ·rintro⟨xs,ys,h⟩;exact⟨x,y,xs,ys,rfl,rfl,h⟩
mutual
def noL:PyData->Bool
 | .none=>true
 | .bool _=>true
 | .int _=>true
 | .str _=>true
 | .tuple ds=>Rf ds
 | .list _=>false
 | .dict _=>false
def Rf:List PyData->Bool
 | []=>true
 | d::r=>noL d&&Rf r
end
theorem TrL.got {H:Hp}:∀{ds:List PyData}{vs:List V}{k:Nat}{d:PyData},TrL H ds vs->ds[k]?=some d->∃v,vs[k]?=some v/\Tr H d v
 | [],_,k,d,h,e=>by simp at e
 | d::r,_,0,_,⟨v,_,rfl,q,_⟩,e=>by simp at e;subst e;exact⟨v,rfl,q⟩
 | d::r,_,k+1,_,⟨_,_,rfl,_,q⟩,e=>by simp at e;simpa using TrL.got q e
theorem TrL.app {H:Hp}:∀{ds es:List PyData}{vs us:List V},TrL H ds vs->TrL H es us->TrL H (ds++es) (vs++us)
 | [],es,_,us,h,q=>by cases (show _=[] from h);exact q
 | d::r,es,_,us,⟨v,vr,rfl,q1,q2⟩,q=>⟨v,vr++us,rfl,q1,TrL.app q2 q⟩
theorem TrL.one    (h:Tr H d v):TrL H [d] [v]:=⟨v,[],rfl,h,rfl⟩
theorem Pz  (h:∀d∈ds,noL d=true):Rf ds=true:=by
 induction ds with
 | nil=>rfl
 | cons a r b=>show (noL a&&Rf r)=true;grind
end L2
namespace L2
open PySem PySem.Spec PyProof.Rows
end L2
namespace L2
open PySem
mutual
def wt:PyData->Nat
 | .none=>4
 | .bool _=>5
 | .int _=>1921
 | .str x=>10*x.length+2
 | .list xs=>Mp xs+4
 | .tuple xs=>Mp xs+4
 | .dict _=>0
def Mp:List PyData->Nat
 | []=>0
 | x::xs=>wt x+2+Mp xs
end
end L2
namespace L2
open PySem PySem.Spec PyProof.Rows
end L2
namespace HT
open PySem PySem.Spec PyProof.Rows
section
variable {prog:Program}{w:World}{A:Around}{E:Value->Shared->Prop}{s:Shared}
theorem Sw {sl:Addr}{vst:Value}{n:Nat}{Q:Int×Int×Nat->Shared->Prop}(hs:s.heap.IsSliceOf sl .none .none vst)(ps:IsPart vst (some (-1)))
 (h:Q ((n:Int)-1,-1,n) s):wpAny (model prog w) A (Builtin.Slice.sliceApplied (.ref sl) (pure (n:Int))) Q E s:=by
 obtain⟨os,hos,hcs,hds⟩:=id hs;unfold Builtin.Slice.sliceApplied Builtin.Slice.sliceFields
 refine wpAny_bind (wpAny_bind (wpAny_field hos hds (x:=.none) rfl (wpAny_bind (wpAny_field hos hds (x:=.none) rfl (wpAny_bind (wpAny_field hos hds (x:=vst) rfl (wpAny_pure ?_)))))))
 refine wpAny_bind (Ox ps ?_)
 show wpAny _ _ (if (((-1):Int)==0)=true then _ else _) _ _ s
 rw[if_neg (by decide)]
 refine wpAny_bind (slicePart_none (wpAny_bind (slicePart_none (wpAny_bind (wpAny_pure ?_)))))
 show wpAny _ _ (match Builtin.Slice.sliceAdjust none none (-1) (n:Int) with | (lo,hi)=>pure (lo,(-1:Int),Builtin.Slice.slicePlaces lo hi (-1))) _ _ s
 have e1:Builtin.Slice.sliceAdjust none none (-1) (n:Int)=((n:Int)-1,-1):=rfl;rw[e1]
 show wpAny _ _ (pure ((n:Int)-1,(-1:Int),Builtin.Slice.slicePlaces ((n:Int)-1) (-1) (-1))) _ _ s
 have e2:Builtin.Slice.slicePlaces ((n:Int)-1) (-1) (-1)=n:=by
  unfold Builtin.Slice.slicePlaces
  rw[if_neg (by decide)]
  by_cases h0:n=0
  ·subst h0;rfl
  ·rw[if_pos (by omega)]
   have:((n:Int)-1 - -1-1) / (- -1)=(n:Int)-1:=by
    have:(- -1:Int)=1:=by decide
    rw[this,Int.ediv_one];omega
   rw[this];omega
 rw[e2];exact wpAny_pure h
theorem Aj5 (xs:Array Value):((List.range xs.size).filterMap fun (m:Nat)=>xs[((xs.size:Int)-1+(m:Int)*(-1)).toNat]?).toArray=xs.toList.reverse.toArray:=by
 congr 1
 apply List.ext_getElem?;intro i
 have:((List.range xs.size).filterMap fun (m:Nat)=>xs[((xs.size:Int)-1+(m:Int)*(-1)).toNat]?)=(List.range xs.size).map fun m=>xs.toList.reverse.getD m .none:=by
  have d:∀l:List Nat,(∀m∈l,m<xs.size)->(l.filterMap fun (m:Nat)=>xs[((xs.size:Int)-1+(m:Int)*(-1)).toNat]?)=l.map fun m=>xs.toList.reverse.getD m .none:=by
   intro l
   induction l with
   | nil=>intro _;rfl
   | cons m r j =>
    intro a;have b:=a m (.head _)
    have e:((xs.size:Int)-1+(m:Int)*(-1)).toNat=xs.size-1-m:=by omega
    have c:m<xs.toList.reverse.length:=by simpa using b
    have n:xs.toList.reverse.getD m .none=xs[xs.size-1-m]:=by
     rw[List.getD_eq_getElem?_getD,List.getElem?_eq_getElem c]
     simp
    have o:xs[((xs.size:Int)-1+(m:Int)*(-1)).toNat]?=some (xs.toList.reverse.getD m .none):=by
     rw[n,e,Array.getElem?_eq_getElem]
    rw[List.filterMap_cons_some (f:=fun (m:Nat)=>xs[((xs.size:Int)-1+m*-1).toNat]?) o,List.map_cons,j fun k g=>a k (.tail _ g)]
  exact d _ fun m b=>List.mem_range.mp b
 rw[this]
 by_cases h:i<xs.size
 ·have c:i<xs.toList.reverse.length:=by simpa using h
  rw[List.getElem?_map,List.getElem?_range h,List.getElem?_eq_getElem c]
  show some (xs.toList.reverse.getD i _)=_
  rw[List.getD_eq_getElem?_getD,List.getElem?_eq_getElem _];rfl
 ·rw[List.getElem?_eq_none (by simpa using h),List.getElem?_eq_none (by simpa using h)]
theorem Pq {t sl:Addr}{items:Array Value}{vst:Value}{Q:Value->Shared->Prop}(ht:IsTup s.heap t items)(hs:s.heap.IsSliceOf sl .none .none vst)(ps:IsPart vst (some (-1)))
 (h:Q (.ref s.heap.objs.size) { s with heap:=s.heap.push { cls:=.type "tuple",data:=.seq items.toList.reverse.toArray } })
 (hsz:items.size<=sizeLine):wpAny (model prog w) A (getItem (.ref t) (.ref sl)) Q E s:=by
 have htake:sizeOk (.seq items.toList.reverse.toArray):=by
  show items.toList.reverse.toArray.size<=sizeLine
  rw[List.size_toArray,List.length_reverse,Array.length_toList];exact hsz
 obtain⟨os,hos,hcs,hds⟩:=id hs;have hTs:s.TypeIs (.ref sl) "slice" := ⟨os,hos,hcs⟩;unfold getItem
 try with_reducible refine wpAny_holding ?_
 first | refine wpAny_bind (wpAny_pure ?_) | skip
 refine wpAny_bind (wpAny_sequenceKey ht.typeIs (by decide) ?_)
 refine wpAny_bind (wpAny_callSpecial?_slot (name:="__getitem__") ht.typeIs PyProof.Rows.slot_tuple_getitem
  (wpAny_call_entry PyProof.Rows.slot_tuple_getitem ht.typeIs entry_tuple_getitem ?_ (args_tuple_getitem _ _)))
 show wpAny _ _ (Builtin.Tuple.tupleItemsOf (.ref t) >>= _) _ _ s
 refine wpAny_bind (tupleItemsOf_ ht ?_)
 refine wpAny_bind (wpAny_typeOf hTs ?_)
 rw[if_pos (by decide)]
 refine wpAny_bind (Sw hs ps ?_)
 have hno:¬ (((((items.size:Int)-1)==0&&((-1):Int)==1)&&items.size==items.size)=true):=by
  intro q;rw[Bool.and_eq_true,Bool.and_eq_true]at q
  exact absurd q.1.2 (by decide)
 show wpAny _ _ (if ((((items.size:Int)-1)==0&&((-1):Int)==1)&&items.size==items.size)=true then _ else _) _ _ s
 rw[if_neg hno,Aj5]
 first
  | exact wpAny_bind (m:=Builtin.Tuple.tupleExact _) (wpAny_newObj_type (wpAny_pure ⟨_,rfl,wpAny_pure h⟩) htake)
  | exact wpAny_bind (m:=Builtin.Tuple.tupleExact _) (wpAny_newObj_type (wpAny_bind (wpAny_pure (wpAny_pure ⟨_,rfl,wpAny_pure h⟩))) htake)
  | exact wpAny_bind (wpAny_bind (m:=Builtin.Tuple.tupleExact _) (wpAny_newObj_type (wpAny_pure (wpAny_pure ⟨_,rfl,wpAny_pure h⟩)) htake))
  | exact wpAny_bind (wpAny_bind (m:=Builtin.Tuple.tupleExact _) (wpAny_newObj_type (wpAny_pure ⟨_,rfl,wpAny_pure h⟩) htake))
end
end HT
namespace L2
open PySem PySem.Spec PyProof.Rows
section
variable {X:Cx}{a b e:Expr}{ta tb te:TE}{pos p2:Pos}{st:Expr}{tst:TO}
def B2f:R2:=fun x y H Q=>∃i j,x=.str i/\y=.str j/\Q (.bl (!(Builtin.Str.occurrences j i 0 j.length 1).isEmpty)) H
end
end L2
namespace HT
open PySem PySem.Spec PyProof.Rows
section
variable {prog:Program}{w:World}{A:Around}{E:Value->Shared->Prop}{s:Shared}
theorem Oi    {lo hi:Option Int}  (ht:IsTup s.heap t items) (hs:s.heap.IsSliceOf b g f .none) (pl:IsPart g lo) (i:IsPart f hi)
 (hw:sIx items.size 0 lo=0/\sIx items.size items.size hi=items.size) (h:Q (.ref t) s):wpAny (model prog w) A (getItem (.ref t) (.ref b)) Q E s:=by
 obtain⟨k,d,c,j⟩:=id hs;have e:s.TypeIs (.ref b) "slice" := ⟨k,d,c⟩;unfold getItem
 try with_reducible refine wpAny_holding ?_
 first | refine wpAny_bind (wpAny_pure ?_) | skip
 refine wpAny_bind (wpAny_sequenceKey ht.typeIs (by decide) ?_)
 refine wpAny_bind (wpAny_callSpecial?_slot (name:="__getitem__") ht.typeIs PyProof.Rows.slot_tuple_getitem
  (wpAny_call_entry PyProof.Rows.slot_tuple_getitem ht.typeIs entry_tuple_getitem ?_ (args_tuple_getitem _ _)))
 show wpAny _ _ (Builtin.Tuple.tupleItemsOf (.ref t) >>= _) _ _ s
 refine wpAny_bind (tupleItemsOf_ ht ?_)
 refine wpAny_bind (wpAny_typeOf e ?_)
 rw[if_pos (by decide)]
 refine wpAny_bind (Kp hs pl i ?_)
 show wpAny _ _ (if (((sIx items.size 0 lo:Nat):Int)==0&&(1:Int)==1&&(sIx _ _ _-sIx _ 0 _)==items.size)=true then _ else _) _ _ s
 have a:(((sIx items.size 0 lo):Int)==0&&(1:Int)==1&&sIx items.size items.size hi-sIx items.size 0 lo==items.size)=true:=by
  rw[hw.1,hw.2];simp
 rw[if_pos a]
 refine wpAny_bind  (wpAny_bind (wpAny_typeOf ht.typeIs (wpAny_pure ?_)))
 refine wpAny_bind (wpAny_rule ?_)
 first
  | exact wpAny_pure ⟨_,rfl,wpAny_pure h⟩
  | exact wpAny_bind _
  | exact wpAny_bind _
  | trace_state
end
end HT
namespace L2
open PySem PySem.Spec PyProof.Rows
section
variable {X:Cx}
def Bj1 (K:PySem.W.Frag):V->Option Int->Option Int->Hp->VK->Prop:=fun x lo hi H Q=>∃a xs,x=.ref a/\SqT K H a xs /\
 (HT.sIx xs.length 0 lo=0/\HT.sIx xs.length xs.length hi=xs.length)/\Q (.ref a) H
theorem Ba0:SlR X (Bj1 X.K):=by
 intro d s σ H x v vl vu lo hi sl Q I k f g e h;obtain⟨a,xs,rfl,j,hw,q⟩:=h
 cases k
 obtain⟨i,r,c,hz⟩:=I.tuple j
 have b  := by exact r.length.symm
 refine⟨"tuple",_,PyProof.Rows.slot_tuple_getitem.lookup,c.typeIs,?_⟩
 exact HT.Oi c f g e (by grind) ⟨.ref a,H,I,rfl,q⟩
end
theorem Wt (l:Addr)(items:Array Value)(n:Nat)(dd:Option Addr)(sl:Array (Option Value))(x:Value)(e:Value->Bool)(j:Nat)(hj:j<items.size)
 (p:e items[j]=true) (hno:∀m (hm:m<items.size),m<j->e items[m]=false) :
 Meets (Builtin.«tuple.index» ⟨[.ref l,x],[]⟩)
  (fun A R s=>s.heap.get? l=some { cls:=.type "tuple",dict:=dd,data:=.seq items n,slots:=sl }/\(∀y,y∈items->SeqAt.EqAt A.in1 s y x (e y))/\R (.ok (.ret (.int j s.toks))) { s with toks:=s.toks+1 }) :=
 .of_wp fun f w A R s h=>by
  obtain⟨hp,g,d,tk,os⟩:=s;obtain⟨hl,he,h⟩:=h
  wp_walk using wpAny_loadPart' hl
  change wpAny _ _ (forIn (m:=Sem) [:min items.size items.size] ((none,()):Option Fin×Unit) _) _ _ _
  rw[Std.Legacy.Range.forIn_eq_forIn_range'];simp only[Std.Legacy.Range.size,Nat.sub_zero,Nat.add_sub_cancel,Nat.div_one,Nat.min_self]
  refine wpAny_forIn_list _ (fun a b s'=>b.1=none/\s'=⟨hp,g,d,tk,os⟩/\∃i,i<=j/\a=List.range' i (items.size-i)) _ ?_ ?_ _ _ ⟨rfl,rfl,0,Nat.zero_le _,rfl⟩
  ·rintro y a b s' ⟨hb,rfl,i,c,k⟩
   have o:i<items.size:=Nat.lt_of_le_of_lt c hj;have hd:items.size-i=(items.size-(i+1))+1:=(Nat.succ_pred_eq_of_pos (Nat.sub_pos_of_lt o)).symm;rw[hd,List.range'_succ]at k
   cases k
   have hg:items[y]?=some items[y]:=by simp[o]
   simp only[hg]
   refine wpAny_bind (he _ (Array.getElem_mem o) f w _ _ ?_)
   rcases Nat.lt_or_eq_of_le c with lt | rfl
   ·rw[hno y o lt]
    wp_walk
    exact⟨rfl,rfl,y+1,lt,rfl⟩
   ·rw[p]
    wp_walk
    exact⟨_,rfl,h⟩
  ·rintro⟨b1,b2⟩ s' ⟨hb,rfl,i,c,k⟩
   have hz:=congrArg List.length k
   simp at hz
   omega
section
variable {X:Cx}
def B2l (ks:List Str)(xs:List V):List (Key×V):=(ks.zip xs).map fun p=>((Sum.inr p.1:Key),p.2)
end
end L2
namespace L2
open PySem PySem.Spec PyProof.Rows PySem.W
section
open PySem.SeqAt
open PySem.AutoSeq1 (wpAny_loadPart')
open PySem.MeetsSeq PySem.MeetsSeq2 PySem.MeetsSeq3
theorem A1c (l b:Addr)(items c:Array Value)(n T:Nat)(dd D:Option Addr)(N G:Array (Option Value))(r:Bool)(k:Nat) :
 ∀
  (i:Nat) (vs z:List Value),items.toList.drop i=vs->c.toList.drop i=z->i<=items.size->i<=c.size->vs.length=k->Meets (Builtin.«list.__eq__.loop» ⟨[.ref l,.ref b,rawInt i,rawInt 0],[]⟩)
  (fun A R s=>s.heap.get? l=some { cls:=.type "list",dict:=dd,data:=.seq items n,slots:=N }/\s.heap.get? b=some { cls:=.type "list",dict:=D,data:=.seq c T,slots:=G } /\
   Oj false A.in1 s vs z r/\R (.ok (.ret (.bool r))) s):=by
 have m:∀{f:Array Value} {i:Nat},f.toList.drop i=[]->f[((i:Nat):Int).toNat]?=none:=fun {f i} e=>by
  have:=List.drop_eq_nil_iff.mp e
  simp at this ⊢;omega
 have a:∀{f:Array Value} {i:Nat} {x:Value} {r:List Value},f.toList.drop i=x::r->f[((i:Nat):Int).toNat]?=some x/\f.toList.drop (i+1)=r/\i<f.size:=fun {f i x r} e=>by
  have J:i<f.size:=by
   rcases Nat.lt_or_ge i f.size with h | h
   ·exact h
   ·rw[List.drop_eq_nil_of_le (by simpa using h)]at e;cases e
  rw[List.drop_eq_getElem_cons (by simpa using J)]at e
  injection e with e1 e2
  exact⟨by simp[J];simpa using e1,e2,J⟩
 induction k with
 | zero =>
  intro i vs z t q S P y j w A R s h;obtain⟨H,g,d,B,I⟩:=s;obtain⟨o,p,L,h⟩:=h;have C:vs=[]:=List.length_eq_zero_iff.mp y;subst C
  wp_walk using wpAny_loadPart' o,wpAny_loadPart' p
  rw[m t]
  have V:items.size=i:=by have:=List.drop_eq_nil_iff.mp t;simp at this;omega
  wp_walk using wpAny_loadPart' o,wpAny_loadPart' p
  show R (.ok (.ret (.bool (decide (items.size<c.size))))) _
  have C:decide (items.size<c.size)=r:=by
   cases L with
   | nn=>have:=List.drop_eq_nil_iff.mp q;simp at this;exact decide_eq_false (by omega)
   | nc=>exact decide_eq_true (by have:=(a q).2.2;omega)
  rw[C];exact h
 | succ k O =>
  intro i vs z t q S P y j w A R s h;obtain⟨H,g,d,B,I⟩:=s;obtain⟨o,p,L,h⟩:=h
  cases L with
  | nn=>cases y
  | nc=>cases y
  | cn =>
   wp_walk using wpAny_loadPart' o,wpAny_loadPart' p
   rw[(a t).1,m q]
   wp_walk using wpAny_loadPart' o,wpAny_loadPart' p
   show R (.ok (.ret (.bool (decide (items.size<c.size))))) _
   have:=(a t).2.2;have:=List.drop_eq_nil_iff.mp q
   simp at this
   rw[decide_eq_false (by omega)];exact h
  | eq K M =>
   have u:=a t;have v:=a q
   have U:((i:Int)+1)=((i+1:Nat):Int):=by push_cast;rfl
   wp_walk using wpAny_loadPart' o,wpAny_loadPart' p
   rw[u.1,v.1]
   refine wpAny_bind (K j w _ _ ?_)
   wp_walk
   rw[U]
   exact⟨plainId_quiet plain_eq_loop _,codeAny_builtin entry_eq_loop (by
    rw[Around.under_plainId plain_eq_loop _]
    exact O (i+1) _ _ u.2.1 v.2.1 u.2.2 v.2.2 (by simpa using y) j w A R _ ⟨o,p,M,h⟩)⟩
  | ne K M =>
   have u:=a t;have v:=a q
   wp_walk using wpAny_loadPart' o,wpAny_loadPart' p
   rw[u.1,v.1]
   refine wpAny_bind (K j w _ _ ?_)
   have F:∀(E:Value->Shared->Prop) (Q:Value->Shared->Prop),Q (.bool r) ⟨H,g,d,B,I⟩->wpAny (model j w) A.in1 (richCompare .Lt _ _) Q E ⟨H,g,d,B,I⟩:=M j w
   wp_walk using wpAny_loadPart' o,wpAny_loadPart' p
   rw[u.1,v.1]
   wp_walk using F
   simpa using h
theorem A1n (l b:Addr)(items a:Array Value)(n f:Nat)(dd e:Option Addr)(i c:Array (Option Value))(r:Bool) :
 Meets (Builtin.«list.__lt__» ⟨[.ref l,.ref b],[]⟩)
  (fun A R s=>s.heap.get? l=some { cls:=.type "list",dict:=dd,data:=.seq items n,slots:=i }/\s.heap.get? b=some { cls:=.type "list",dict:=e,data:=.seq a f,slots:=c } /\
   Oj false A.in1 s items.toList a.toList r/\R (.ok (.ret (.bool r))) s):=by
 intro k w A R s h;obtain⟨q,g,d,t,u⟩:=s;obtain⟨j,m,o,h⟩:=h;have p:=AutoSeq1.sub_list_list
 wp_walk using wpAny_loadPart' j,wpAny_loadPart' m
 exact⟨plainId_quiet plain_eq_loop _,codeAny_builtin entry_eq_loop (by
  rw[Around.under_plainId plain_eq_loop _]
  exact A1c l b items a n f dd e i c r _ 0 _ _ rfl rfl (Nat.zero_le _) (Nat.zero_le _) rfl _ w A R _ ⟨j,m,o,h⟩)⟩
end
def kEv {α:Type}(B:Nat->Nat->Option Bool):KasT α->Option α
 | .ret a=>some a
 | .ask i j k=>(B i j).bind fun b=>kEv B (k b)
theorem Al5 {α:Type}{cmp:Nat->Nat->(Bool->Shared->Prop)->Shared->Prop}{B:Nat->Nat->Option Bool}{s:Shared}(hc:∀i j b C,B i j=some b->C b s->cmp i j C s){G:α->Shared->Prop} :
 ∀(t:KasT α) (a:α),kEv B t=some a->G a s->t.kasWp cmp G s
 | .ret a,a',e,g=>by cases e;exact g
 | .ask i j k,a',e,g=>by
  obtain⟨b,e1,e2⟩:=Option.bind_eq_some_iff.mp (show (B i j).bind (fun b=>kEv B (k b))=some a' from e)
  exact hc i j b _ e1 (Al5 hc (k b) a' e2 g)
def Ao5 (b:Bool):PyData->Bool
 | .tuple (.int _::_)=>b
 | .tuple (.tuple _::_)=>!b
 | _=>false
section
variable {prog:Program}{w:World}{A:Around}{E:Value->Shared->Prop}{s:Shared}{b fin:Bool}{Q:Bool->Shared->Prop}
theorem Zb:∀{vs ws:List Value}{r:Bool},Oj false A s vs ws r->∀i,(b&&i==0)=false->fin=decide (vs.length<ws.length)->Q r s->KatLex prog w A b fin Q (vs.zip ws) i s
 | _,_,_,.nn,i,_,hf,h=>by
  have e:fin=false:=hf;subst e;exact kat_nil h
 | _,_,_,.nc (y:=y) (ys:=ys),i,_,hf,h=>by
  have e:fin=true:=hf.trans (decide_eq_true (by rw[List.length_nil,List.length_cons];omega))
  subst e;exact kat_nil h
 | _,_,_,.cn (x:=x) (xs:=xs),i,_,hf,h=>by
  have e:fin=false:=hf.trans (decide_eq_false (by rw[List.length_nil,List.length_cons];omega))
  subst e;exact kat_nil h
 | _,_,_,.eq he hr,i,hi,hf,h=>kat_cons (he prog w _ _ (kat_yes (Zb hr (i+1) (by simp) (hf.trans (by simp)) h)))
 | _,_,_,.ne he hr,i,hi,hf,h=>kat_cons (he prog w _ _ (kat_no (by rw[hi];exact kat_one _ _ (hr prog w _ _ h))))
theorem B2d      (m:ReadsAll s.heap us (.int i::xs) k) (o:ReadsAll s.heap vs (.int j::ys) bs) (p:PyData.canLayAll0 (.int i::xs)=true) (g:PyData.canLayAll0 (.int j::ys)=true)
 (hu:A.units+PyData.depthAll (.int i::xs)<cLine) (hc:Ld false (.int i::xs) (.int j::ys)=some r) (hf:fin=decide (us.length<vs.length)) (h:Q r s):KatLex prog w A true fin Q (us.zip vs) 0 s:=by
 cases m with
 | cons c l =>
  cases o with
  | cons d n =>
   have b:=Bool.and_eq_true_iff.mp p;have a:=Bool.and_eq_true_iff.mp g;have q:A.units+max (PyData.int i).depth (PyData.depthAll xs)<cLine:=hu
   have e:=SeqAt.eqAt_reads (.int i) (.int j) A s _ _ _ _ c d b.1 a.1 (by omega)
   rw[Ld]at hc
   by_cases he:PyData.eqv (.int i) (.int j)=true
   ·rw[if_pos he]at hc
    rw[he]at e
    exact kat_cons (e prog w _ _ (kat_yes (Zb (O7 false xs ys A s _ _ _ _ r l n b.2 a.2 (by omega) hc) 1 (by simp) (hf.trans (by simp)) h)))
   ·rw[if_neg he]at hc
    rw[Bool.not_eq_true _ |>.mp he]at e
    refine kat_cons (e _ w _ _ (kat_no ?_))
    cases c
    cases d
    have f  := by simpa[Kl] using hc
    rw[<- f]at h;exact(kat_lt_int h:wpAny _ A _ Q _ s)
theorem A3w     (t:Reads s.heap u a n) (x:Reads s.heap v d bs) (f:a.canLay0=true) (e:d.canLay0=true)
 (fa:Ao5 b a=true) (fb:Ao5 b d=true) (hu:A.units+a.depth<cLine) (hc:Kl false a d=some r) (h:Q r s):wpAny (model prog w) A (keyLt' (tuples' b) u v) Q E s:=by
 cases a with
 | tuple l =>
  cases d with
  | tuple m =>
   cases t with
   | tuple o B q g =>
    cases x with
    | tuple p z y k =>
     have c:A.units+(PyData.depthAll _+1)<cLine:=hu
     refine kat_lt o q p y ?_
     cases b with
     | false=>exact Zb (O7 _ _ _ A s _ _ _ _ r g k f e (by omega) hc) 0 rfl (by simp) h
     | true =>
      match l,m,fa,fb,g,k,f,e,c,hc with
      | .int i::l,.int j::m,_,_,g,k,f,e,c,hc=>exact B2d g k f e (by omega) hc (by simp) h
  | _=>cases fb
 | _=>cases fa
end
inductive Kd where
 | ti | tt | tl | ii | ll
def Lk:Kd->PyData->Bool
 | .ti,.tuple (.int _::_)=>true
 | .tt,.tuple (.tuple _::_)=>true
 | .tl,.tuple (.list _::_)=>true
 | .ii,.int _=>true
 | .ll,.list _=>true
 | _,_=>false
theorem Iw   (h:Lk kd d=true):match kd with
 | .ti=>∃i xs,d=.tuple (.int i::xs)
 | .tt=>∃ys xs,d=.tuple (.tuple ys::xs)
 | .tl=>∃ys xs,d=.tuple (.list ys::xs)
 | .ii=>∃i,d=.int i
 | .ll=>∃xs,d=.list xs:=by
 unfold Lk at h
 split at h
 ·exact⟨_,_,rfl⟩
 ·exact⟨_,_,rfl⟩
 ·exact⟨_,_,rfl⟩
 ·exact⟨_,rfl⟩
 ·exact⟨_,rfl⟩
 ·cases h
def kdK:Kd->SortKind
 | .ti=>tuples' true
 | .tt=>tuples' false
 | .tl=>tuples' true
 | .ii=>oneType'
 | .ll=>oneType'
def B1y (x y:PyData):Option Bool:=match x,y with
 | .tuple (.list a::xs),.tuple (.list b::ys)=>if PyData.eqv (.list a) (.list b)=true then Ld false xs ys else Ld false a b
 | _,_=>none
def B1o (x y:PyData):Option Bool:=match x,y with
 | .list a,.list b=>Ld false a b
 | _,_=>none
def Bh1 (kd:Kd)(x y:PyData):Option Bool:=match kd with
 | .tl=>B1y x y
 | .ll=>B1o x y
 | _=>Kl false x y
def Ak3 (kd:Kd)(ds:List PyData)(i j:Nat):Option Bool:=match ds[i]?,ds[j]? with
 | some x,some y=>Bh1 kd x y
 | _,_=>none
section
variable {prog:Program}{w:World}{A:Around}{E:Value->Shared->Prop}{s:Shared}{fin:Bool}{Q:Bool->Shared->Prop}
theorem U8      (h1:s.heap.get? l=some o) (h2:o.cls=.type "list") (f:o.data=.seq items n) (g:s.heap.get? b=some c) (i:c.cls=.type "list") (k:c.data=.seq a p)
 (hx:Oj false A.in1 s items.toList a.toList r) (hu:A.units<cLine) (h:Q r s):wpAny (model prog w) A (oneLt' true (.ref l) (.ref b)) Q E s:=by
 obtain⟨q,u,m,v⟩:=o;obtain⟨t,j,d,e⟩:=c;subst h2 f i k
 refine wpAny_bind (wpAny_cRoomFor hu ?_)
 refine wpAny_bind (wpAny_callSpecialIfBound?_slot ⟨_,h1,rfl⟩ F.slot_list_lt (call_meets F.slot_list_lt ⟨_,h1,rfl⟩ F.entry_list_lt (F.args_list_lt_2 _ _) (A1n l b _ _ n _ _ _ _ _ r) ⟨h1,g,hx,?_⟩))
 exact wpAny_truthy_bool h
theorem B2m     (k:ReadsAll s.heap us (.list a::xs) p) (m:ReadsAll s.heap vs (.list b::ys) bs) (o:PyData.canLayAll0 (.list a::xs)=true) (j:PyData.canLayAll0 (.list b::ys)=true)
 (hu:A.units+PyData.depthAll (.list a::xs)<cLine) (hc:B1y (.tuple (.list a::xs)) (.tuple (.list b::ys))=some r) (hf:fin=decide (us.length<vs.length)) (h:Q r s):KatLex prog w A true fin Q (us.zip vs) 0 s:=by
 cases k with
 | cons g l =>
  cases m with
  | cons f n =>
   have c:=Bool.and_eq_true_iff.mp o;have d:=Bool.and_eq_true_iff.mp j;have q:A.units+max (PyData.list a).depth (PyData.depthAll xs)<cLine:=hu;have C:(PyData.list a).depth=PyData.depthAll a+1:=rfl
   have e:=SeqAt.eqAt_reads (.list a) (.list b) A s _ _ _ _ g f c.1 d.1 (by omega)
   have hc:(if PyData.eqv (.list a) _=true then Ld _ _ _ else Ld _ a b)=some r:=hc
   by_cases he:PyData.eqv (.list a) (.list b)=true
   ·rw[if_pos he]at hc
    rw[he]at e
    exact kat_cons (e _ w _ _ (kat_yes (Zb (O7 _ _ _ A s _ _ _ _ r l n c.2 d.2 (by omega) hc) 1 (by simp) (hf.trans (by simp)) h)))
   ·rw[if_neg he]at hc
    rw[Bool.not_eq_true _ |>.mp he]at e
    refine kat_cons (e _ w _ _ (kat_no ?_))
    cases g with
    | list u v x t =>
     cases f with
     | list z y B i=>exact U8 u v x z y B (O7 _ a b _ s _ _ _ _ r t i c.1 d.1 (by grind) hc) (by omega) h
theorem Av3      (d:Reads s.heap u a F) (e:Reads s.heap v l bs) (m:a.canLay0=true) (k:l.canLay0=true)
 (fa:Lk kd a=true) (fb:Lk kd l=true) (hu:A.units+a.depth<cLine) (hc:Bh1 kd a l=some r) (h:Q r s):wpAny (model prog w) A (keyLt' (kdK kd) u v) Q E s:=by
 have c:=Iw fa;have f:=Iw fb
 cases kd with
 | ti =>
  obtain⟨i,g,rfl⟩:=c;obtain⟨j,n,rfl⟩:=f;exact A3w (b:=true) d e m k rfl rfl hu hc h
 | tt =>
  obtain⟨i,g,rfl⟩:=c;obtain⟨j,n,rfl⟩:=f;exact A3w (b:=false) d e m k rfl rfl hu hc h
 | tl =>
  obtain⟨i,g,rfl⟩:=c;obtain⟨j,n,rfl⟩:=f
  cases d with
  | tuple t B x o =>
   cases e with
   | tuple p C q y =>
    refine kat_lt t x p q (B2m o y m k ?_ hc (by simp) h)
    have z:A.units+(PyData.depthAll (.list i::g)+1)<cLine:=hu;omega
 | ii =>
  obtain⟨i,rfl⟩:=c;obtain⟨j,rfl⟩:=f
  cases d
  cases e
  have D:decide (i<j)=r:=by simpa[Bh1,Kl] using hc
  rw[<- D]at h;exact kat_lt_int h
 | ll =>
  obtain⟨g,rfl⟩:=c;obtain⟨n,rfl⟩:=f
  cases d with
  | list t B x o =>
   cases e with
   | list p C q y =>
    have z:A.units+(PyData.depthAll g+1)<cLine:=hu
    show wpAny (model prog w) A (keyLt' oneType' _ _) Q E s
    rw[keyLt'_oneType]
    exact U8 t B x p C q (O7 _ _ _ _ s _ _ _ _ r o y m k (by show A.units+1+_<_;omega) hc) (by omega) h
end
section
variable {M:Model}{A:Around}{E:Value->Shared->Prop}{s:Shared}
def tyK (b:Bool):Value:=if b then .type "int" else .type "tuple"
theorem Uu      (r:ReadsAll h vs (d::ds) a):∃v as',vs[0]?=some v/\Reads h v d as':=by
 cases r with
 | cons c b=>grind
theorem Um {h:Heap}{b:Bool}:∀{us:List Value}{ds:List PyData}{as:List Addr},ReadsAll h us ds as->ds.all (Ao5 b)=true->∃fs,KatTups h us fs/\fs.length=us.length/\∀v∈fs,Looks M h (typeOf v) (tyK b)
 | _,_,_,.nil,_=>⟨[],trivial,rfl,fun v z=>nomatch z⟩
 | _,_,_,.cons (d:=d) r1 r2,hb=>by
  obtain⟨h1,h2⟩:=Bool.and_eq_true_iff.mp (show (Ao5 b d&&_)=true from hb)
  obtain⟨fs,t,l,k⟩:=Um r2 h2
  cases d with
  | tuple xs =>
   cases r1 with
   | tuple e1 e2 e3 e4 =>
    match xs,h1,e4 with
    | .int i::xs,h1,e4 =>
     obtain⟨v,as',f1,f2⟩:=Uu e4;have hb':b=true:=h1;subst hb'
     cases f2 with
     | int i t0=>
      exact⟨.int i t0::fs,KatTups.cons e1 e2 e3 (by rw[<- Array.getElem?_toList];exact f1) t,by rw[List.length_cons,List.length_cons,l],fun v hv=>by
       rcases List.mem_cons.mp hv with rfl | hv
       ·exact Looks.now
       ·exact k v hv⟩
    | .tuple ys::xs,h1,e4 =>
     obtain⟨v,as',f1,f2⟩:=Uu e4
     have hb':b=false:=by simpa[Ao5] using h1
     subst hb'
     cases f2 with
     | tuple g1 g2 g3 g4=>
      exact⟨_::fs,KatTups.cons e1 e2 e3 (by rw[<- Array.getElem?_toList];exact f1) t,by rw[List.length_cons,List.length_cons,l],fun v hv=>by
       rcases List.mem_cons.mp hv with rfl | hv
       ·have q:=(Looks.ld (M:=M) (part:=none) g1).andThen (f:=fun o=>pure o.cls) .now
        rw[g2]at q;exact q
       ·exact k v hv⟩
  | _=>cases h1
theorem Ac6      (r:ReadsAll s.heap us ds a) (hb:ds.all (Ao5 b)=true) (d:0<us.length) (h:Q (tuples' b) s):wpAny M A (keyKind' us.toArray) Q E s:=by
 obtain⟨c,t,l,k⟩:=Um  r hb
 refine kat_kind t (by omega) k (by simp_all) ?_
 cases b <;> exact h
theorem Af4 {h:Heap}:∀{us:List Value}{ds:List PyData}{as:List Addr},ReadsAll h us ds as->ds.all (Lk .tl)=true->∃fs,KatTups h us fs/\fs.length=us.length/\∀v∈fs,Looks M h (typeOf v) (.type "list")
 | _,_,_,.nil,_=>⟨[],trivial,rfl,fun v z=>nomatch z⟩
 | _,_,_,.cons (d:=d) r1 r2,hb=>by
  obtain⟨h1,h2⟩:=Bool.and_eq_true_iff.mp (show (Lk .tl d&&_)=true from hb)
  obtain⟨fs,t,l,k⟩:=Af4 r2 h2;obtain⟨_,_,rfl⟩:=Iw h1
  cases r1 with
  | tuple e1 e2 e3 e4 =>
   obtain⟨v,as',f1,f2⟩:=Uu e4
   cases f2 with
   | list g1 g2 g3 g4=>
    exact⟨_::fs,KatTups.cons e1 e2 e3 (by rw[<- Array.getElem?_toList];exact f1) t,by rw[List.length_cons,List.length_cons,l],fun v hv=>by
     rcases List.mem_cons.mp hv with rfl | hv
     ·have q:=(Looks.ld (M:=M) (part:=none) g1).andThen (f:=fun o=>pure o.cls) .now
      rw[g2]at q;exact q
     ·exact k v hv⟩
theorem Ae0 {h:Heap}:∀{us:List Value}{ds:List PyData}{as:List Addr},ReadsAll h us ds as->ds.all (Lk .ll)=true->∀v∈us,Looks M h (typeOf v) (.type "list")
 | _,_,_,.nil,_,v,z=>nomatch z
 | _,_,_,.cons (d:=d) r1 r2,hb,v,hv=>by
  obtain⟨h1,h2⟩:=Bool.and_eq_true_iff.mp (show (Lk .ll d&&_)=true from hb)
  rcases List.mem_cons.mp hv with rfl | hv
  ·obtain⟨_,rfl⟩:=Iw h1
   cases r1 with
   | list g1 g2 g3 g4 =>
    have q:=(Looks.ld (M:=M) (part:=none) g1).andThen (f:=fun o=>pure o.cls) .now
    rw[g2]at q;exact q
  ·exact Ae0 r2 h2 v hv
theorem ints_of {h:Heap}:∀{us:List Value}{ds:List PyData}{as:List Addr},ReadsAll h us ds as->ds.all (Lk .ii)=true->∃ns,IntsAre us ns
 | _,_,_,.nil,_=>⟨[],.nil⟩
 | _,_,_,.cons (d:=d) r1 r2,hb=>by
  obtain⟨h1,h2⟩:=Bool.and_eq_true_iff.mp (show (Lk .ii d&&_)=true from hb)
  obtain⟨ns,t⟩:=ints_of r2 h2;obtain⟨_,rfl⟩:=Iw h1
  cases r1 with
  | int i t0=>exact⟨_::ns,.cons _ _ t⟩
theorem Ay1  : ∀{ds:List PyData},ds.all (Lk (if b then .ti else .tt))=true->ds.all (Ao5 b)=true:=fun {ds} h=>by
 rw[List.all_eq_true]at h ⊢;intro d a;have:=Iw (h d a)
 cases b
 ·obtain⟨_,_,rfl⟩:=this;rfl
 ·obtain⟨_,_,rfl⟩:=this;rfl
theorem Ac8      (r:ReadsAll s.heap us ds c) (hb:ds.all (Lk kd)=true) (a:2<=us.length) (h:Q (kdK kd) s):wpAny M A (keyKind' us.toArray) Q E s:=by
 cases kd with
 | ti=>exact Ac6 (b:=true) r (Ay1  hb) (by omega) h
 | tt=>exact Ac6 (b:=false) r (Ay1  hb) (by omega) h
 | tl =>
  obtain⟨e,t,l,k⟩:=Af4  r hb
  exact kat_kind t (by omega) k (by rfl) h
 | ii =>
  obtain⟨d,t⟩:=ints_of r hb
  rw[ksk_kind  (by assumption) (by trivial)]
  exact wpAny_pure h
 | ll=>exact kas_kind a (Ae0  r hb) (by rfl) (by rfl) h
theorem Yj {body:Value->PUnit->Sem (ForInStep PUnit)}{Iv:List Value->Shared->Prop}(step:∀x rest s,Iv (x::rest) s->wpAny M A (body x ⟨⟩) (fun r s'=>r=.yield ⟨⟩/\Iv rest s') E s) :
 ∀(l:List Value) (s:Shared),Iv l s->wpAny M A (forIn l PUnit.unit body) (fun _ s'=>Iv [] s') E s
 | [],s,h=>by rw[List.forIn_nil];exact wpAny_pure h
 | x::l,s,h=>by
  rw[List.forIn_cons]
  refine wpAny_bind (wpAny_mono (step x l s h) (fun q s' hq=>?_) fun _ _ z=>z)
  obtain⟨rfl,h'⟩:=hq;exact Yj step l s' h'
end
section
variable {X:Cx}{pins:List (Addr×Obj)}{σ:St}{H:Hp}{s:Shared}{h':Heap}
theorem Inv.adopt    (I:Inv X pins σ H s) (k:∀b u,b≠D->s.heap.get? b=some u->h'.get? b=some u) (hn:H D=none) (h:D≠X.env.locals) (h1:X.s₀.heap.objs.size<=D)
 (h2:∀x c,X.env.cells.lookup x=some c->c≠D) (A:∀p∈X.pn++pins,p.1≠D) (i:z9 X.prog X.w (upd H D o) h' D o):Inv X pins σ (upd H D o) { s with heap:=h',toks:=t' }:=by
 have a:∀b u,H b=some u->b≠D:=fun b u e z=>by simp_all
 refine I.step (g':=s.gens) (d':=s.drawn) (ch:=[D]) (fun b f=>?_) (fun b o _ _ d e _=>k b o (fun z=>d (by simp[z])) e) (fun b o _ _ d e _=>⟨o.slots,k b o (fun z=>d (by grind)) e⟩) (fun b o d e n=>by rw[Ar (fun z=>d (by simp[z]))];exact n)
  (fun b o d e=>⟨o,k b o (fun z=>d (by grind)) e⟩) (fun b g e=>by rw[Ar (a _ _ e)];exact e) (fun b _ _ e=>by rw[Ar (a _ _ e)];exact e) (fun b y e=>by rw[Ar (a _ _ e)];exact e) (fun m j=>?_) (fun b u e=>?_) I.bare
 ·grind
 ·obtain⟨o,t,l,w,r⟩:=j
  exact⟨o,t,l,k _ o (Ne.symm h) w,r⟩
 ·by_cases f:b=D
  ·subst f;rw[Ca]at e;grind
  ·rw[Ar f]at e
   refine (I.hok b u e).stay (fun c v d q=>k c v ?_ q) (fun c q=>by rw[Ar (a _ _ q)];exact q) (fun c g q=>by rw[Ar (a _ _ q)];exact q) fun c B g q=>by rw[Ar (a _ _ q)];exact q
   grind
theorem Bc1          (F:FnOk X.prog X.w X.K X.mg X.base CX0 k f a ps sp) (hr:Room (k+2) X.A) (hb:Binds X.K a ps [])
 (I:Inv X pins σ H s) (r:Vals vs us) (h:sp vs H Q E0):wpAny (model X.prog X.w) X.A.in1.in1 (call (.ref f) us) (EP X pins σ Q) E s:=by
 have c:(us++[]).length=ps.length:=by rw[List.append_nil,<- r.length];exact F.len _ _ _ _ h
 refine wpAny_call (codeAny_mono (F.run _ _ s H _ _ _ Q _ hr.in1.in1 I.env0.in1.in1 (hb s _ I.kIn c) (by grind) h) fun r g d=>?_)
 cases r with
 | error e=>trivial
 | ok b =>
  cases b with
  | ret u=>exact I.after d
  | next=>assumption
  | brk=>assumption
  | cont=>trivial
end
def Tf (Ky:V->Hp->VK->Prop):List V->List V->Hp->(List V->Hp->Prop)->Prop
 | [],ks,H,k=>k ks H
 | x::xs,ks,H,k=>Ky x H (fun kv H1=>Tf Ky xs (ks++[kv]) H1 k)
abbrev Av6 (sp:Sp):List V->List V->Hp->(List V->Hp->Prop)->Prop:=Tf fun x H Q=>sp [x] H Q E0
def Wz (vs ks:List V)(H:Hp)(Q:VK):Prop :=
 (vs.length<2/\∀p,H p=none->Q (.ref p) (upd H p (.lst vs))) \/
 (2<=vs.length/\vs.length<64/\∃ds kd p,TrL H ds ks/\ds.all (Lk kd)=true/\(∀d∈ds,Flat d)/\kEv (Ak3 kd ds) (kas_sort vs.length)=some p/\∀l,H l=none->Q (.ref l) (upd H l (.lst (p.toList.map fun i=>vs.getD i .non))))
theorem Ax2:∀{vs:List V}{us:List Value},Vals vs us->∀i,RelV (vs.getD i .non) (us.getD i Value.none)
 | _,_,.nil,i=>rfl
 | _,_,.cons r rs,0=>r
 | _,_,.cons r rs,i+1=>Ax2 rs i
theorem Ss {vs:List V}{us:List Value}(r:Vals vs us):∀l:List Nat,Vals (l.map fun i=>vs.getD i .non) (l.map fun i=>us.getD i Value.none)
 | []=>.nil
 | i::l=>.cons (Ax2 r i) (Ss r l)
theorem R9 {v:V}{u:Value}(h:RelV v u):∀{vs:List V}{us:List Value},Vals vs us->Vals (vs++[v]) (us++[u])
 | _,_,.nil=>.cons h .nil
 | _,_,.cons r rs=>.cons r (R9 h rs)
theorem M8 {h:Heap}:∀{us:List Value}{ds:List PyData}{as:List Addr},ReadsAll h us ds as->∀{i:Nat}{d:PyData},ds[i]?=some d->∃as',Reads h (us.getD i Value.none) d as'
 | _,_,_,.nil,i,d,e=>by simp at e
 | _,_,_,.cons r rs,0,d,e=>by simp at e;subst e;exact⟨_,r⟩
 | _,_,_,.cons r rs,i+1,d,e=>M8 rs (by simpa using e)
section
variable {X:Cx}{pins:List (Addr×Obj)}{σ:St}{H:Hp}{s:Shared}{D S:Addr}{e1 n:Nat}{Q:VK}{P:PySem.Fin->Shared->Prop}{E:Value->Shared->Prop}{A:Around}
theorem Xc {d ous:List Value}  {st:SortSt}(O:X.s₀.heap.objs.size<=D) (G:X.s₀.heap.objs.size<=S) (w:D≠S) (hp:∀p∈X.pn++pins,p.1≠S/\p.1≠D)
 (I:Inv X (pins++[(S,seqObj "list" d.toArray n),(D,seqObj "list" #[] e1)]) σ H s) (hz:outs.length<=sizeLine) (hk:d.length<=sizeLine)
 (ho:(arrOf st).map (·.2)=List.toArray ous) (hf:failedOf st=none) (B:Vals outs ous) (q:∀l,H l=none->Q (.ref l) (upd H l (.lst outs)))
 (F:∀s',EP X pins σ Q (.ref D) s'->P (.done (.ret .none)) s'):wpAny (model X.prog X.w) A (ksk_tail D false e1 (.ref S) st) P E s:=by
 obtain⟨j,k,m,J,N⟩:=I.pin (S,seqObj "list" d.toArray n) (List.mem_append_right _ (List.mem_append_right _ List.mem_cons_self));obtain⟨r,g,h,R,T⟩:=I.pin (D,seqObj "list" #[] e1) (List.mem_append_right _ (List.mem_append_right _ (List.mem_cons_of_mem _ List.mem_cons_self)))
 have f:∀x c,X.env.cells.lookup x=some c->c≠S/\c≠D:=fun x c e=>by
  obtain⟨v,U,ho,K⟩:=I.cell x c e
  grind
 have L:Inv X pins σ H s:=I.pins_of fun p hp=>I.pin p (List.mem_append_right _ (List.mem_append_left _ hp))
 have M:Inv X pins σ H { s with heap:=s.heap.update S (Obj.mapSeq fun _=>#[]) }:=L.turned (t':=s.toks) (fun b o i e=>(Heap.get?_update_other s.heap _ (Ne.symm i)).trans e) k m (.inr G) (fun x c e=>(f x c e).1) (fun p a=>(hp p a).1)
 have t:(s.heap.update S (Obj.mapSeq fun _=>(#[]:Array Value))).get? D=some (seqObj "list" #[] e1):=(Heap.get?_update_other s.heap _ (Ne.symm w)).trans r
 obtain⟨C,y⟩:∃C,((s.heap.update S (Obj.mapSeq _)).update D (Obj.mapSeq fun _=>ous.toArray)).get? D=some _:=⟨_,get?_update_seq t _⟩
 have z:=B.length;unfold ksk_tail;rw[ho]
 refine wpAny_bind (listUpdate_at j rfl ?_ (by simp_all) (Nat.zero_le _))
 refine wpAny_bind (wpAny_letGo ?_)
 refine wpAny_bind (seqEpoch_at t rfl ?_)
 refine wpAny_bind (listUpdate_at t rfl ?_ (Nat.zero_le _) (by grind))
 rw[hf]
 simp 
 refine wpAny_pure (F _ ⟨.ref D,upd H D _,?_,rfl,q D g⟩)
 exact M.adopt  (fun b u i e=>(Heap.get?_update_other _ _ (Ne.symm i)).trans e) g h O (fun x c e=>(f x c e).2) (fun p a=>(hp p a).2) ⟨hz,ous,C,B,y⟩
theorem A6e   (hu:A.units+64<cLine) (R:X.s₀.heap.objs.size<=D) (M:X.s₀.heap.objs.size<=S) (h:D≠S) (hp:∀p∈X.pn++pins,p.1≠S/\p.1≠D)
 (I:Inv X (pins++[(S,seqObj "list" a.toArray n),(D,seqObj "list" #[] e1)]) σ H s) (hz:vs.length<=sizeLine) (m:Vals vs us) (rk:Vals ks a) (hl:a.length=us.length) (hw:Wz vs ks H Q)
 (L:∀d,EP X pins σ Q (.ref D) d->P (.done (.ret .none)) d):wpAny (model X.prog X.w) A (ksk_end D false us.toArray e1 (.ref S) a.toArray) P E s:=by
 have k:=m.length;unfold ksk_end;simp only[Bool.false_eq_true,if_false]
 rcases hw with ⟨Z,q⟩ | ⟨Z,U,w,T,p,t,u,g,f,q⟩
 ·have b:us.toArray.size<2:=by rw[List.size_toArray];omega
  rw[if_pos b,if_pos b]
  refine wpAny_bind (wpAny_pure ?_)
  rw[StateT.run_pure]
  refine wpAny_bind (wpAny_pure ?_)
  refine Xc R M h hp I hz (by omega) ?_ rfl m q L
  show (a.toArray.zip us.toArray).map (·.2)=us.toArray
  apply Array.ext';simp only[Array.toList_map,Array.toList_zip]
  exact List.map_snd_zip (l₁:=a) (l₂:=us) (by omega)
 ·have b:¬ us.toArray.size<2:=by rw[List.size_toArray];omega
  rw[if_neg b,if_neg b];obtain⟨as,v⟩:=t.reads I rk
  refine wpAny_bind (Ac8 v u (by omega) ?_)
  have o:us.length<64:=by omega
  rw[k]at f
  refine wpAny_bind (wpAny_mono (kat_run (Q:=fun c d=>d=s/\arrOf c=p.map (kas_item (a.toArray.zip us.toArray))/\failedOf c=none/\p.size=us.length) (G:=fun F d=>F=p/\d=s) hl (by omega) o (fun F c d y K a3 a4=>?_) (Al5 (B:=Ak3 T w) (fun i j r C e W=>?_) _ p f ⟨rfl,rfl⟩)) ?_ fun _ _ z=>z)
  ·obtain⟨rfl,rfl⟩:=a4
   exact⟨rfl,K,a3,y⟩
  ·unfold Ak3 at e
   cases ei:w[i]? with
   | none=>rw[ei]at e;cases e
   | some di =>
    cases ej:w[j]? with
    | none=>rw[ei,ej]at e;cases e
    | some dj =>
     rw[ei,ej]at e;obtain⟨y,r1⟩:=M8 v ei;obtain⟨K,r2⟩:=M8 v ej;have J  := List.mem_of_getElem? ei;have O  := List.mem_of_getElem? ej;have N:=g _ J
     exact Av3 r1 r2 N.1 (g _ O).1 (List.all_eq_true.mp u _ J) (List.all_eq_true.mp u _ O) (by have:=N.2;omega) e W
  ·rintro⟨⟨⟩,c⟩ d ⟨rfl,x,hf,Y⟩
   refine Xc R M h hp I  ?_ (by omega) (kat_snds hl x) hf (Ss m _) q L
   rw[List.length_map,Array.length_toList];omega
def Bu1 (X:Cx)(pins:List (Addr×Obj))(σ:St)(f:Addr)(Z:Hp->Prop)(Ky:V->Hp->VK->Prop):Prop :=
 ∀(pins':List (Addr×Obj)) (s:Shared) (H:Hp) (x:V) (u:Value) (Q':VK),Inv X (pins++pins') σ H s->Z H->RelV x u->Ky x H Q'->wpAny (model X.prog X.w) X.A.in1.in1 (call (.ref f) [u]) (EP X (pins++pins') σ fun v H'=>Z H'/\Q' v H') (fun _ _=>False) s
theorem A2r       (q:Bu1 X pins σ f Z C) (hr:Room (k+2) X.A)
 (U:X.s₀.heap.objs.size<=D) (J:X.s₀.heap.objs.size<=S) (t:D≠S) (hp:∀p∈X.pn++pins,p.1≠S/\p.1≠D)
 (I:Inv X (pins++[(S,seqObj "list" #[] 0),(D,seqObj "list" #[] e1)]) σ H s) (hZ:Z H) (hz:vs.length<=sizeLine) (o:Vals vs us) (h:Tf C vs [] H (fun ks c=>Wz vs ks c Q))
 (hP:∀r,EP X pins σ Q (.ref D) r->P (.done (.ret .none)) r):wpAny (model X.prog X.w) X.A.in1.in1 (ksk_rest D (.ref f) false us.toArray e1 (.ref S)) P E s:=by
 have G:=o.length;unfold ksk_rest
 refine wpAny_bind (wpAny_rule ?_)
 rw[<- Array.forIn_toList]
 refine wpAny_bind (wpAny_mono (Yj (Iv:=fun b s=>∃ks a n c i,Inv X (pins++[(S,seqObj "list" (List.toArray a) n),(D,seqObj "list" #[] e1)]) σ c s/\Vals ks a/\Vals i b/\a.length+b.length=us.length/\Z c/\Tf C i ks c (fun ks c=>Wz vs ks c Q)) ?_ us s ⟨[],[],0,H,vs,I,.nil,o,by simp,hZ,h⟩) (fun _ r T=>?_) fun _ _ z=>z)
 ·rintro x b s ⟨ks,a,n,c,i,g,u,w,K,e,m⟩
  rw[List.length_cons]at K
  cases w with
  | cons N Y =>
   refine wpAny_bind (wpAny_attempt (wpAny_mono (q _ s c _ x _ g e N m) (fun j s2 h2=>?_) fun _ _ z=>z.elim))
   obtain⟨O,R,L,A,B,y⟩:=h2;obtain⟨l,t2,t3,W,t5⟩:=L.pin (S,seqObj "list" a.toArray n) (List.mem_append_right _ (List.mem_append_right _ List.mem_cons_self))
   have ea:(List.toArray a).push j=List.toArray (a++[j]):=by simp
   dsimp only
   refine wpAny_bind (listUpdate_at l rfl ?_ (by rw[List.size_toArray];omega) (by rw[Array.size_push,List.size_toArray];omega))
   have M:=get?_update_seq l (·.push j)
   rw[ea]at M
   refine wpAny_pure ⟨rfl,ks++[O],a++[j],_,R,_,L.recS J (fun p d=>?_) (fun p d=>(hp p (List.mem_append_left _ d)).1) M (fun v z=>by cases z),R9 A u,Y,?_,B,y⟩
   ·grind
   ·rw[List.length_append,List.length_singleton];omega
 ·obtain⟨ks,a,n,c,i,g,u,F,K,e,m⟩:=T
  cases F
  obtain⟨l,t2,t3,W,t5⟩:=g.pin _ (List.mem_append_right _ (List.mem_append_right _ List.mem_cons_self))
  refine wpAny_bind (listItems_at l rfl ?_)
  have hu:X.A.in1.in1.units+64<cLine:=by have:=hr.un;show X.A.units+1+1+64<_;omega
  exact A6e hu U J t hp g hz o u (by omega) m hP
theorem Up       (F:Bu1 X pins σ f Z N) (hr:Room (k+2) X.A)
 (I:Inv X pins σ H s) (hZ:Z H) (A:SqL X.K H a vs\/SqT X.K H a vs) (h:Tf N vs [] H (fun ks H1=>Wz vs ks H1 Q)) :
 wpAny (model X.prog X.w) X.A (call (.builtin "sorted") [.ref a] [(Str.ofString "key",.ref f)]) (EP X pins σ Q) E s:=by
 obtain⟨d,T,o,n,t,hT,ho,J,hd,w⟩:∃(d:List Value) (T:String) (o:Obj) (n:Nat),Vals vs d/\(T = "list" \/ T = "tuple")/\s.heap.get? a=some o/\o.cls=.type T/\o.data=.seq d.toArray n/\vs.length<=sizeLine:=by
  rcases A with A | A
  ·obtain⟨d,t,⟨o,n,r,j,c,g4⟩,w⟩:=I.list A
   exact⟨d, "list",o,n,t,.inl rfl,r,j,by first | exact c | exact g4,w⟩
  ·obtain⟨d,t,it,w⟩:=I.tuple A
   obtain⟨o,r,j,n,c⟩:=it;exact⟨d, "tuple",o,n,t,.inr rfl,r,j,c,w⟩
 have O:=t.length
 refine call_function_entry_kw kind_sorted plain_sorted entry_sorted (ksk_s1 _ _) ?_
 unfold Builtin.«sorted»
 refine wpAny_bind (m:=checkCount "sorted" 1 1 _) (wpAny_pure ?_)
 refine wpAny_bind (wpAny_collect_seq a hT ho J hd (fun g U=>?_) (by rw[List.size_toArray];omega))
 refine wpAny_bind (wpAny_newList ?_ (by simp;omega))
 have l:Inv X pins σ H { s with heap:=g }:=I.kept (t':=s.toks) U
 have le:∀b o,s.heap.get? b=some o->b<g.objs.size:=fun b o e=>Heap.lt_size (U b o e)
 have P:X.s₀.heap.objs.size<=g.objs.size:=l.sz;generalize hg1:g.push (seqObj "list" d.toArray 0)=r
 have W:r.objs.size=g.objs.size+1:=by rw[<- hg1,size_push']
 have B:r.get? g.objs.size=some (seqObj "list" d.toArray 0):=by rw[<- hg1];exact Heap.get?_push_size _ rfl
 refine wpAny_bind (wpAny_holding (wpAny_call_entry_kw slot_list_sort ⟨_,B,rfl⟩ entry_list_sort ?_ (ksk_l1 _ _)))
 show wpAny (model X.prog X.w) X.A.in1.in1 (Builtin.«list.sort» ⟨[.ref g.objs.size],[(Str.ofString "key",.ref f)]⟩) _ _ _
 rw[ksk_t1];unfold ksk_tree
 refine wpAny_bind (listItems_at B rfl ?_)
 refine wpAny_bind (listUpdate_at B rfl ?_ (by rw[List.size_toArray];omega) (Nat.zero_le _))
 generalize hg2:r.update g.objs.size (Obj.mapSeq fun _=>(#[]:Array Value))=j
 obtain⟨C,x⟩:∃C,j.get? g.objs.size=some (seqObj "list" #[] C):=⟨_,by rw[<- hg2];exact get?_update_seq B fun _=>#[]⟩
 have Y:j.objs.size=g.objs.size+1:=by rw[<- hg2,Heap.size_update,W]
 refine wpAny_bind (seqEpoch_at x rfl ?_)
 refine wpAny_bind (wpAny_newTuple ?_ (by simp;omega))
 refine wpAny_bind (wpAny_newList ?_ (Nat.zero_le _))
 refine wpAny_holding ?_
 generalize hg3:j.push { cls:=.type "tuple",data:=.seq d.toArray.toList.toArray }=c
 have e3:c.objs.size=g.objs.size+2:=by rw[<- hg3,Heap.size_push,Y]
 have M:=l.fpOk (b:=g.objs.size) (Nat.le_refl _) (l.hok.fresh (Nat.le_refl _))
 have G:=l.fpOk (b:=c.objs.size) (by show g.objs.size<=_;omega) (l.hok.fresh (by show g.objs.size<=_;omega))
 have y:∀b u,g.get? b=some u->(c.push { cls:=.type "list",data:=.seq ([]:List Value).toArray }).get? b=some u:=fun b u e=>by
  have K:b<g.objs.size:=Heap.lt_size e
  have q1:r.get? b=some u:=by rw[<- hg1];exact Heap.get?_push_of_some _ e
  have q2:j.get? b=some u:=by rw[<- hg2];exact(Heap.get?_update_other _ _ (Nat.ne_of_gt K)).trans q1
  have q3:c.get? b=some u:=by rw[<- hg3];exact Heap.get?_push_of_some _ q2
  exact Heap.get?_push_of_some _ q3
 have R:Inv X pins σ H { s with heap:=c.push { cls:=.type "list",data:=.seq ([]:List Value).toArray } }:=l.kept (t':=s.toks) y
 have gS:(c.push { cls:=.type "list",data:=.seq ([]:List Value).toArray }).get? c.objs.size=some (seqObj "list" #[] 0):=Heap.get?_push_size _ rfl
 have L:(c.push { cls:=.type "list",data:=.seq ([]:List Value).toArray }).get? g.objs.size=some (seqObj "list" #[] C):=Heap.get?_push_of_some _ (by rw[<- hg3];exact Heap.get?_push_of_some _ x)
 have I3:Inv X (pins++[(c.objs.size,seqObj "list" #[] 0),(g.objs.size,seqObj "list" #[] C)]) σ H { s with heap:=c.push { cls:=.type "list",data:=.seq ([]:List Value).toArray } }:=R.pins_of fun p i=>by
  rcases List.mem_append.mp i with z | z
  ·exact R.pin p (List.mem_append_right _ z)
  ·rcases List.mem_cons.mp z with rfl | z
   ·exact⟨gS,G.1,G.2.1,G.2.2.1,fun v z=>by cases z⟩
   ·rw[List.mem_singleton.mp z]
    exact⟨L,M.1,M.2.1,M.2.2.1,fun v z=>by cases z⟩
 refine A2r (us:=d) (D:=g.objs.size) (S:=c.objs.size) F hr P (Nat.le_trans P (by omega)) (fun z=>by have z:g.objs.size=c.objs.size:=z;omega) (fun p i=>⟨fun z=>?_,fun z=>?_⟩) I3 hZ w t h fun s' q=>⟨_,rfl,wpAny_pure ⟨_,rfl,q⟩⟩
 ·exact absurd (Heap.lt_size (l.pin p i).1) (by rw[z];show ¬ c.objs.size<g.objs.size;omega)
 ·exact absurd (Heap.lt_size (l.pin p i).1) (by rw[z];show ¬ g.objs.size<g.objs.size;omega)
theorem Aq9        (F:FnOk X.prog X.w X.K X.mg X.base CX0 k f c ps sp) (hr:Room (k+2) X.A) (hb:Binds X.K c ps [])
 (I:Inv X pins σ H s) (g:SqL X.K H a vs\/SqT X.K H a vs) (h:Av6 sp vs [] H (fun ks e=>Wz vs ks e Q)) :
 wpAny (model X.prog X.w) X.A (call (.builtin "sorted") [.ref a] [(Str.ofString "key",.ref f)]) (EP X pins σ Q) E s :=
 Up  (fun b s H x u m I _ r j=>wpAny_mono (Bc1 F hr hb I (.cons r .nil) j) (fun _ _ ⟨v,i,l,d,q⟩=>⟨v,i,l,d,trivial,q⟩) fun _ _ z=>z) hr I trivial g h
end
section
variable {X:Cx}{p pos:Pos}{e:Expr}{t tk:TA}{kws:List Keyword}
def Bu3 (K:PySem.W.Frag)(f:Addr)(sp:Sp)(t tk:TA):TE:=fun σ H Q=>t σ H fun vs H1=>tk σ H1 fun zs H2=>∃a xs,vs=[.ref a]/\zs=[.ref f]/\(SqL K H2 a xs\/SqT K H2 a xs)/\Av6 sp xs [] H2 (fun ks H3=>Wz xs ks H3 Q)
theorem A7a      (F:FnOk X.prog X.w X.K X.mg X.base CX0 k f c ps sp) (hr:Room (k+2) X.A) (hb:Binds X.K c ps []) (hg:Gl X "sorted") (hm:X.mg "sorted" = none)
 (ha:PA X [e] t) (hkw:PK X kws tk) (hall:(backToKw pos (keywordEach kws X.env)).all (·.1.isSome)=true:=by rfl) (hks:(backToKw pos (keywordEach kws X.env)).filterMap (·.1)=[Str.ofString "key"]:=by rfl)
 (he:backTo pos (starEach [e] X.env)=(false,eval e X.env)::backTo pos (starEach [] X.env):=by rfl) (hpl:(backTo pos (starEach [e] X.env)).any (·.1)=false:=by rfl) (hno:(backToKw pos (keywordEach kws X.env)).any (·.1.isNone)=false:=by rfl) :
 PE X (.Call (.Name "sorted" p) [e] kws pos) (Bu3 X.K f sp t tk):=by
 intro b s σ H Q I h
 refine wpAny_Call_Name_kw (Jh I hg hm boot_sorted ?_ (by decide) (by rfl))
 refine PyProof.Rows.callWith_kw (thn (ha _ _ s _ H _ I h) fun us s1 ⟨vs,H1,j,r,q⟩=>?_) he hpl hall hno
 refine thn (hkw _ _ _ _ _ _ j q) fun ws s2 ⟨zs,H2,i,l,g⟩=>?_
 obtain⟨a,xs,rfl,rfl,n,m⟩:=g;obtain⟨u,rfl,o⟩:=vals1 r
 cases (o)
 obtain⟨uf,rfl,d⟩:=vals1 l
 cases (d)
 rw[hks];exact Aq9 F hr hb i n m
theorem A4x  (a:X.K=Kq)      (F:FnOk X.prog X.w X.K X.mg X.base CX0 k f b ps sp) (hr:Room (k+2) X.A) (hb:Binds X.K b ps []) (hg:Gl X "sorted") (hm:X.mg "sorted" = none)
 (ha:QA X [e] t) (hkw:QK X kws tk) (hall:(backToKw pos (keywordEach kws X.env)).all (·.1.isSome)=true:=by rfl) (hks:(backToKw pos (keywordEach kws X.env)).filterMap (·.1)=[Str.ofString "key"]:=by rfl)
 (he:backTo pos (starEach [e] X.env)=(false,eval e X.env)::backTo pos (starEach [] X.env):=by rfl) (hpl:(backTo pos (starEach [e] X.env)).any (·.1)=false:=by rfl) (hno:(backToKw pos (keywordEach kws X.env)).any (·.1.isNone)=false:=by rfl) :
 QE X (.Call (.Name "sorted" p) [e] kws pos) (Bu3 Kq f sp t tk):=by
 subst a;exact⟨A7a F hr hb hg hm ha.get hkw.get hall hks he hpl hno⟩
end
end L2
namespace L2
open PySem PySem.Spec PyProof.Rows
def Aj6:Value->Bool
 | .bool b=>b
 | _=>false
theorem Ab0:∀{bs:List Bool}{us:List Value},Vals (bs.map V.bl) us->us=bs.map Value.bool
 | [],us,h=>by cases h;rfl
 | b::bs,us,h=>by
  cases h with
  | cons r rs =>
   rw[Ab0 rs]
   cases r;rfl
section
variable {X:Cx}
def At0 (K:PySem.W.Frag):V->List V->Hp->VK->Prop:=fun x vs H Q=>∃(a:Addr) (bs:List Bool) (j:Nat),x=.ref a/\vs=[.bl true]/\SqL K H a (bs.map V.bl)/\bs[j]?=some true/\(∀m<j,bs[m]?≠some true)/\j<1000000/\Q (.int j) H
theorem A1l {Kq:PySem.W.Frag}(hKq:X.K=Kq)(hu:X.A.units+64<cLine):MtM X "list.index" (At0 Kq):=by
 subst hKq;intro pins s σ H x vs v us Q I rx rv h;obtain⟨a,bs,j,rfl,rfl,hq,hj,hno,hjs,q⟩:=h
 cases rx
 obtain⟨u,rfl,ru⟩:=rv.one
 cases ru
 obtain⟨its,r,pl,hz⟩:=I.list hq
 cases Ab0 r
 obtain⟨o,n,e,hc,hdn,hd⟩:=pl;obtain⟨c0,dd,dat,sl⟩:=o
 dsimp only at hc hd hdn
 subst hc hd hdn;obtain⟨lj,ej⟩:=List.getElem?_eq_some_iff.mp hj
 refine call_meets F.slot_list_index ⟨_,e,rfl⟩ F.entry_list_index (F.args_list_index_2 _ _) (SeqAt.list_indexAt a (bs.map Value.bool).toArray n none sl (.bool true) Aj6 j (by simpa using lj) (by omega) ?_ ?_) ⟨e,fun w hw=>?_,?_⟩
 ·simp[Aj6,ej]
 ·intro m hm hlt
  have hm':m<bs.length:=by simpa using hm
  have h2:=hno m hlt;rw[List.getElem?_eq_getElem hm']at h2
  simpa[Aj6] using h2
 ·obtain⟨b,hb,rfl⟩:∃b∈bs,Value.bool b=w:=by simpa using hw
  have:=SeqAt.eqAt_reads (.bool b) (.bool true) X.A.in1 s _ _ _ _ (.bool b) (.bool true) rfl rfl (by show X.A.units+1+0<_;omega)
  cases b <;> exact this
 ·exact⟨.int _,H,I.tok _,⟨_,rfl⟩,q⟩
end
section
variable {X:Cx}
def B1h:V->Option Int->Option Int->Hp->VK->Prop:=fun x lo hi H Q=>∃z:Str,x=.str z/\z.length<=sizeLine/\Q (.str (Txt.slice z lo hi)) H
theorem part_of   (h:IsPart v o):∃p:Option (Int×Tok),v=partValue p/\p.map (·.1)=o:=by
 cases h with
 | none=>exact⟨none,rfl,rfl⟩
 | int i t=>exact⟨some (i,t),rfl,rfl⟩
theorem Bl7:SlR X B1h:=by
 intro a s σ H x v vl vu lo hi sl Q I d c b e h;obtain⟨z,rfl,f,q⟩:=h;obtain⟨t,rfl⟩:=d;obtain⟨l,rfl,rfl⟩:=part_of b;obtain⟨u,rfl,rfl⟩:=part_of e
 refine⟨"str",_,F.slot_str_getitem.lookup,typeIs_str _ _ _,wpAny_getItem_str_slice (l:=l) (u:=u) (st:=none) c rfl ?_⟩
 exact post_val_or_str ⟨Nat.le_trans (Txt.slice_le z _ _) f,fun t' k=>⟨.str _,H,I.tok _,⟨_,rfl⟩,q⟩⟩
end
section
variable {P:Program}{w:World}{A:Around}{E:Value->Shared->Prop}{s:Shared}{t1 t2:Bool}{z ti to i1 i2 a b p0:Addr}{b1:Bool}{k:Nat}{xs ys:Array Value}
theorem Yh:entryFor table "dict.update.loop" = some Builtin.«dict.update.loop»:=entryFor_of_tree (by trivial)
theorem Ob:plainId "dict.update.loop" = true:=by decide +kernel
end
theorem B0g (q:Value.type "tuple" = Value.type "tuple_iterator"):False:=by grind
theorem B2h (q:Value.type "tuple" = Value.type "dict"):False:=by grind
def StT (h h':Heap):Prop:=∀a o,h.get? a=some o->o.cls=.type "tuple" -> h'.get? a=some o
mutual
theorem V8 {h h':Heap}(hs:StT h h'):∀(k:PyData),keyB k=true->∀(v:Value) (as:List Addr),Reads h v k as->Reads h' v k as
 | .none,_,_,_,r=>by cases r;exact .none
 | .int i,_,_,_,r=>by cases r;exact .int _ _
 | .str x,_,_,_,r=>by cases r;exact .str _ _
 | .tuple ds,hk,_,_,r=>by
  cases r with
  | tuple h1 h2 h3 h4=>exact .tuple (hs _ _ h1 h2) h2 h3 (Td hs ds hk _ _ h4)
theorem Td {h h':Heap}(hs:StT h h'):∀(ks:List PyData),Gv ks=true->∀(vs:List Value) (as:List Addr),ReadsAll h vs ks as->ReadsAll h' vs ks as
 | [],_,_,_,r=>by cases r;exact .nil
 | k::ks,hk,_,_,r=>by
  obtain⟨a,b⟩:=Bool.and_eq_true_iff.mp (show (keyB k&&Gv ks)=true from hk)
  cases r with
  | cons r1 r2=>exact .cons (V8 hs k a _ _ r1) (Td hs ks b _ _ r2)
end
theorem isKeyT.stay {h h':Heap}(hs:StT h h'){k:PyData}{a:Addr}(x:isKeyT h k a):isKeyT h' k a:=let ⟨c,_,r⟩:=x; ⟨c,_,V8 hs _ c.1 _ _ r⟩
def PairsAt (h:Heap)(ps:List Addr)(ks:List (PyData×Addr×Value)):Prop:=ps.length=ks.length/\∀(i:Nat) (p:Addr) (x:PyData×Addr×Value),ps[i]?=some p->ks[i]?=some x->h.IsTuple p #[.ref x.2.1,x.2.2]/\isKeyT h x.1 x.2.1
theorem IsTuple.stayT {h h':Heap}(hs:StT h h'){a:Addr}{xs:Array Value}(x:h.IsTuple a xs):h'.IsTuple a xs:=let ⟨o,e,c,r⟩:=x; ⟨o,hs a o e c,c,r⟩
theorem PairsAt.stay {h h':Heap}(hs:StT h h'){ps:List Addr}{ks:List (PyData×Addr×Value)}(x:PairsAt h ps ks):PairsAt h' ps ks :=
 ⟨x.1,fun i p y d c=>let ⟨a,b⟩:=x.2 i p y d c; ⟨IsTuple.stayT hs a,b.stay hs⟩⟩
section
variable {P:Program}{w:World}{A:Around}{E:Value->Shared->Prop}{s:Shared}
theorem Ap6:typeLookup (.type "tuple") "keys" = pure none:=by rw[typeLookup_type,builtinLookup_eq_fast];trivial
set_option maxRecDepth 8000 in
theorem A3q {z:Addr}{o:Obj}{xs:Array Value}{k:Nat}{Q:Option Value->Shared->Prop}(e:s.heap.get? z=some o)(hc:o.cls=.type "tuple") (hdat:o.data=.seq xs k) (hd:o.dict=none) (quiet:A.handled=none)
 (q:∀h' tk,(∀b o,s.heap.get? b=some o->h'.get? b=some o)->Q none { s with heap:=h',toks:=tk }):wpAny (model P w) A (getAttr? (.ref z) "keys") Q E s:=by
 obtain⟨c,dct,dat,sl⟩:=o;simp only at hc hdat hd;subst hc hdat hd;obtain⟨hp,g,d,tk,os⟩:=s
 have ty:∀tk',(⟨hp,g,d,tk',os⟩:Shared).TypeIs (.ref z) "tuple" := fun _=>⟨_,e,rfl⟩
 have f1:=sub_AttributeError;have f3:=F.slot_tuple_getattribute.lookup;have f4:=F.slot_tuple_getattribute.bind (.ref z);have f5:=am_tuple_getattr_none;unfold getAttr? getAttrBy? getAttrBy
 repeat any_goals first | assumption | exact ty _ | ((with_reducible show wpAny _ _ (call (Value.builtin "tuple.__getattribute__") _ _) _ _ _);refine call_meets F.slot_tuple_getattribute (ty _) am_entry_tuple_getattribute (F.args_tuple_getattribute_2 _ _) (meets_getattribute_miss_tuple z xs k sl _ _ Ap6 (by decide) (by decide +kernel)) ⟨e,quiet,fun h' tk' x new=>?_⟩) | wp_step
 obtain⟨t',u',he⟩:=new.there
 show wpAny _ _ (getattributeRaised _ _ _ _ _ _ _) _ _ _
 unfold getattributeRaised
 repeat any_goals first | assumption | wp_step
 exact q h' tk' fun b o z=>new.keeps b o z
theorem Lf {h h':Heap}{D:Addr}{a:List (PyData×Addr×Value)}(x:h.DictOfH (Gk P w) D a)(hs:StT h h')(k:∀o,h.get? D=some o->h'.get? D=some o):h'.DictOfH (Gk P w) D a:=by
 obtain⟨o,c,d,e,f,g,i,j,l⟩:=x
 exact⟨o,c,d,k o e,f,g,i,fun x b=>(j x b).stay hs,l⟩
theorem Bf9 {ks:List (PyData×Addr×Value)}(b:(ks.map (·.1)).Nodup){i:Nat}{x:PyData×Addr×Value}(e:ks[i]?=some x):atKey (ks.take i) x.1=none:=by
 refine atKey_none_of_get fun j p q=>?_
 have a:j<i:=by
  grind
 rw[List.getElem?_take_of_lt a]at q;exact absurd (idxH_unique b   q e) (Nat.ne_of_lt a)
theorem Bf5 {R:Result->Shared->Prop}{D it t:Addr}{ps:List Addr}{ks:List (PyData×Addr×Value)}(g:A.in1.handled=none)(hu:A.units+20<cLine)(M:D≠it)(nt:t≠it)(ntD:t≠D)(X:(ks.map (·.1)).Nodup)(hz:ks.length<=sizeLine)(s0:Shared)
 (N:∀p tk,p.DictOfH (Gk P w) D ks->(∀c o,c≠D->c≠it->s0.heap.get? c=some o->p.get? c=some o)->R (.ok (.ret .none)) { s0 with heap:=p,toks:=tk }) :
 ∀
  (r i:Nat) (h:Heap) (tk:Nat),i+r=ks.length->h.IsTuple t (ps.map Value.ref).toArray->PairsAt h ps ks->h.IsTupleIter it t i->h.DictOfH (Gk P w) D (ks.take i) ->
  (∀c o,c≠D->c≠it->s0.heap.get? c=some o->h.get? c=some o)->codeAny (model P w) A (.builtin "dict.update.loop" ⟨[.ref D,.ref it,rawInt i,.none],[]⟩) R { s0 with heap:=h,toks:=tk }:=by
 intro r
 induction r with
 | zero =>
  intro i h tk e H F b G T
  have n:i=ks.length:=by omega
  subst n
  refine codeAny_builtin Yh ?_
  rw[Around.under_plainId Ob _]
  show wpAny _ A.in1 (pyNext (.ref it) >>= _) _ _ _
  refine wpAny_bind (wpAny_pyNext_tuple_end g b H (by have:=F.1;simp;omega) fun p f=>?_)
  refine wpAny_bind (m:=Builtin.Dict.addKeywords D []) (wpAny_pure ?_)
  have K:StT h p:=fun a o e c=>f a o (fun z=>by
   obtain⟨W,y,B,_⟩:=b
   rw[z,y]at e;cases e;exact B0g (c.symm.trans B)) e
  refine wpAny_pure (N p tk ?_ fun c o I u e=>f c o u (T c o I u e))
  rw[List.take_of_length_le (Nat.le_refl _)]at G
  exact Lf G K fun o e=>f D o M e
 | succ r ih =>
  intro i h tk e H F b G T
  have n:i<ks.length:=by omega
  have q:i<ps.length:=by rw[F.1];exact n
  obtain⟨O,hk⟩:=F.2 i ps[i] ks[i] (List.getElem?_eq_getElem q) (List.getElem?_eq_getElem n)
  refine codeAny_builtin Yh ?_
  rw[Around.under_plainId Ob _]
  show wpAny _ A.in1 (pyNext (.ref it) >>= _) _ _ _
  refine wpAny_bind (wpAny_pyNext_tuple_item (x:=.ref ps[i]) b H (by simp[q]) fun J v j=>?_)
  have d:StT h J:=fun a o e c=>(j.2 a (fun z=>by
   obtain⟨W,y,B,_⟩:=b
   rw[z,y]at e;cases e;exact B0g (c.symm.trans B))).trans e
  obtain⟨op,E,L,np,S⟩:=IsTuple.stayT d O
  have C:=Lf G d fun o e=>(j.2 D M).trans e
  have Q:({ s0 with heap:=J,toks:=tk }:Shared).TypeIs (.ref ps[i]) "tuple" := ⟨_,E,L⟩
  refine wpAny_bind (wpAny_holding (wpAny_bind (wpAny_tryCatch ?_)))
  unfold Builtin.Dict.pairItems
  refine wpAny_bind (wpAny_typeOf Q ?_)
  rw[if_pos (by decide)]
  refine wpAny_bind (wpAny_seqItems E S (wpAny_pure ?_))
  refine wpAny_holding (wpAny_dictSet_heap (knd:=Gk P w) (s:={ s0 with heap:=J,toks:=tk }) (k:=ks[i].1) (a:=ks[i].2.1) (xs:=ks.take i) (show A.in1.units+8<cLine from Nat.lt_of_le_of_lt (Nat.add_le_add_left (show 1+8<=20 by decide) A.units) hu) (hk.stay d) C (fun h2 l V=>?_) ?_)
  ·refine wpAny_pure ⟨plainId_quiet Ob _,?_⟩
   rw[storedH_new (Bf9 X (List.getElem?_eq_getElem n))]at l
   have Y:ks.take i++[(ks[i].1,ks[i].2.1,ks[i].2.2)]=ks.take (i+1):=by
    rw[List.take_succ_eq_append_getElem n]
   rw[Y]at l
   have U:StT J h2:=fun a o e c=>(V.2 a (fun z=>by
    obtain⟨W,_,_,y,B,_⟩:=C
    rw[z,y]at e;cases e;exact B2h (c.symm.trans B.1))).trans e
   have K:=fun a o e c=>U a o (d a o e c) c
   refine ih (i+1) _ _ (by omega) (IsTuple.stayT K H) (F.stay K) ?_ l fun c o I u e=>(V.2 c I).trans ((j.2 c u).trans (T c o I u e))
   obtain⟨oi,e1,Z⟩:=v;exact⟨oi,(V.2 _ (Ne.symm M)).trans e1,Z⟩
  ·rw[List.length_take];exact Nat.le_trans (Nat.min_le_right _ _) hz
theorem Bc2 {Q:Value->Shared->Prop}{t:Addr}{ps:List Addr}{ks:List (PyData×Addr×Value)}(f:A.handled=none)(hu:A.units+21<cLine)(I:(ks.map (·.1)).Nodup)(hz:ks.length<=sizeLine)
 (ht:zL s.heap t (ps.map Value.ref).toArray) (hp:PairsAt s.heap ps ks)
 (q:∀l p it,s.heap.objs.size<=it->it≠s.heap.objs.size->l.DictOfH (Gk P w) s.heap.objs.size ks->(∀c o,s.heap.get? c=some o->l.get? c=some o)->Q (.ref s.heap.objs.size) { s with heap:=l,toks:=p }) :
 wpAny (model P w) A (call (.type "dict") [.ref t]) Q E s:=by
 refine callType_codes (Q₁:=fun j y=>j=.ref s.heap.objs.size/\y={ s with heap:=s.heap.push { cls:=.type "dict",data:=.dict #[] } }) F.kt_called_dict (F.kt_typeCall_dict_1 _) F.entry_dict_init (kt_code_dict_new _ ⟨rfl,rfl⟩) ?_
 rintro j y ⟨rfl,rfl⟩
 have i:(s.heap.push { cls:=.type "dict",data:=.dict #[] }).DictOfH (Gk P w) s.heap.objs.size []:=Heap.DictOfH.new s.heap
 have d:∀c o,s.heap.get? c=some o->(s.heap.push { cls:=.type "dict",data:=.dict #[] }).get? c=some o:=fun c o e=>Heap.get?_push_of_some _ e
 obtain⟨o,h,m,⟨z,r⟩,G⟩:=ht
 refine⟨i.typeIs,F.args_dict_init_2 _ _,?_⟩
 unfold Builtin.«dict.__init__»
 refine wpAny_bind ?_
 unfold Builtin.Dict.selfAndRest
 refine wpAny_bind (wpAny_notOrdered_dict i.typeIs ?_)
 show wpAny _ _ (pure (s.heap.objs.size,[Value.ref t])) _ _ _
 refine wpAny_pure ?_
 show wpAny _ _ (Builtin.Dict.updateFrom "dict.__init__" s.heap.objs.size (.ref t) [] .none) _ _ _
 unfold Builtin.Dict.updateFrom
 have v:({ s with heap:=s.heap.push { cls:=.type "dict",data:=.dict #[] } }:Shared).TypeIs (.ref t) "tuple" := ⟨_,d _ _ h,m⟩
 refine wpAny_bind (wpAny_typeOf v ?_)
 rw[if_pos (by decide)]
 refine wpAny_bind (A3q (d _ _ h) m r G (by simpa using f) fun g p b=>?_)
 rw[if_pos (by rfl)]
 refine wpAny_bind (wpAny_rule ?_)
 refine wpAny_bind ?_
 have H:g.IsTuple t (ps.map Value.ref).toArray:=⟨o,b _ _ (d _ _ h),m,z,r⟩
 refine wpAny_pyIter_tuple H ?_
 refine wpAny_pure ⟨plainId_quiet Ob _,?_⟩
 have n:∀c o,g.get? c=some o->(g.push { cls:=.type "tuple_iterator",data:=.fields #[.ref t,.int 0 0] }).get? c=some o:=fun c o e=>Heap.get?_push_of_some _ e
 have B:∀c o,s.heap.get? c=some o->c≠s.heap.objs.size:=fun c o e=>Nat.ne_of_lt (Heap.lt_size e)
 obtain⟨oD,u,_⟩:=Lf (P:=P) (w:=w) i (fun a o e _=>b a o e) fun o e=>b _ _ e
 have u:∃o,g.get? s.heap.objs.size=some o:=by
  obtain⟨o,_,_,e,_⟩:=i;exact⟨o,b _ _ e⟩
 have k:s.heap.objs.size≠g.objs.size:=let ⟨o,e⟩:=u; Nat.ne_of_lt (Heap.lt_size e)
 have C:StT s.heap (g.push { cls:=.type "tuple_iterator",data:=.fields #[.ref t,.int 0 0] }):=fun a o e _=>n _ _ (b _ _ (d _ _ e))
 refine Bf5 (A:=A.in1) (it:=g.objs.size) (s0:={ s with heap:=g.push { cls:=.type "tuple_iterator",data:=.fields #[.ref t,.int 0 0] },toks:=p }) (by simpa using f) (show A.units+1+20<cLine from hu) k (Nat.ne_of_lt (Heap.lt_size (b _ _ (d _ _ h)))) (B _ _ h) I hz
  (fun l x J D=>⟨rfl,q l x g.objs.size (Nat.le_of_lt (let ⟨o,e⟩:=u; Heap.lt_size e)) (Ne.symm k) J fun c o e=>D c o (B c o e) (Nat.ne_of_lt (Heap.lt_size (b _ _ (d _ _ e)))) (n _ _ (b _ _ (d _ _ e)))⟩) ks.length 0 _ _ (by omega) (IsTuple.stayT C ⟨o,h,m,z,r⟩) (hp.stay C) ⟨_,Heap.get?_push_size _ rfl,rfl,rfl⟩ (by exact Lf i (fun a o e _=>n _ _ (b _ _ e)) fun o e=>n _ _ (b _ _ e)) fun c o _ _ e=>e
end
def PairsR (H:Hp):List V->List (PyData×V)->Prop
 | [],kvs=>kvs=[]
 | v::vs,kvs=>∃p b k x r,v=.ref p/\H p=some (.tup [.ref b,x])/\KAt H k b/\kvs=(k,x)::r/\PairsR H vs r
def tDP (te:TE):TE:=fun σ H Q=>te σ H fun v H1=>∃t vs kvs,v=.ref t/\H1 t=some (.tup vs)/\PairsR H1 vs kvs/\kvs.length<=sizeLine/\(kvs.map (·.1)).Nodup/\∀p,H1 p=none->Q (.ref p) (upd H1 p (.dT kvs))
theorem W8 {P:Program}{w:World}{H:Hp}{h:Heap}(ok:HOk P w H h):∀{vs:List V}{kvs:List (PyData×V)}{its:List Value},PairsR H vs kvs->Vals vs its ->
 ∃ps ks,its=ps.map Value.ref/\PairsAt h ps ks/\KT H kvs ks
 | [],kvs,its,e,r=>by
  cases (show kvs=[] from e)
  cases r
  exact⟨[],[],rfl,⟨rfl,fun i p x e=>by simp at e⟩,.nil⟩
 | v::vs,kvs,its,e,r=>by
  obtain⟨p,b,k,x,rest,rfl,hp,hk,rfl,t⟩:=e
  obtain⟨u,us,rfl,r1,rs⟩:∃u us,its=u::us/\RelV (.ref p) u/\Vals vs us:=by
   cases r with
   | cons r rs=>exact⟨_,_,rfl,r,rs⟩
  obtain⟨ps,ks,rfl,pa,kt⟩:=W8 ok t rs
  cases (show u=Value.ref p from r1)
  obtain⟨_,its2,rv,o,e1,e2,⟨n,e3⟩,_⟩:=ok p _ hp;obtain⟨u1,u2,rfl,g1,g2⟩:=Vals.two rv
  cases (show u1=Value.ref b from g1)
  refine⟨p::ps,(k,b,u2)::ks,rfl,⟨by simp[pa.1],fun i q y a1 a2=>?_⟩,.cons ⟨rfl,hk,g2⟩ kt⟩
  cases i with
  | zero =>
   simp only[List.getElem?_cons_zero,Option.some.injEq]at a1 a2;subst a1 a2;exact⟨⟨o,e1,e2,n,e3⟩,Ak9 ok hk⟩
  | succ i=>exact pa.2 i q y (by simpa using a1) (by simpa using a2)
theorem KT.keys {H:Hp}{a:List (PyData×V)}{xs:List (PyData×Addr×Value)}(r:KT H a xs):xs.map (·.1)=a.map (·.1):=by
 induction r with
 | nil=>rfl
 | cons h t b=>simp_all
section
variable {X:Cx}
theorem By7 {a:Expr}{n:TE}{p g:Pos}(hc:X.calm=true)(hu:X.A.units+64<cLine)(j:Gl X "dict") (k:X.mg "dict" = none) (ha:PE X a n) (hs1:isStar a=false:=by rfl) :
 PE X (.Call (.Name "dict" p) [a] [] g) (tDP n):=by
 intro c s r H Q I h;have f:=Ge (es:=[]) (env:=X.env) hs1
 refine Call_ (Jh I j k Bf0 (PyProof.Rows.callWith_type1 ?_ f rfl))
 rw[f]
 show wpAny _ _ (spliced ((false,eval a X.env)::backTo g (starEach [] X.env))) _ _ s
 refine Calls.spliced_cons ?_
 refine thn (ha c s r H _ I h) fun u m ⟨v,Y,d,A,D⟩=>?_
 refine Calls.spliced_nil ?_
 obtain⟨t,vs,i,rfl,B,C,w,E,q⟩:=D
 cases (show u=Value.ref t from A)
 obtain⟨_,F,G,y⟩:=d.hok t _ B;obtain⟨ps,L,rfl,M,l⟩:=W8 d.hok C G
 refine Bc2 (I.ok.hd hc) (Nat.lt_of_le_of_lt (Nat.add_le_add_left (by decide) _) hu) (by rw[l.keys];exact E) (by rw[((Paired.length l).symm)];exact w) y M fun O P it S T J K=>?_
 have N:Inv X c r (upd Y m.heap.objs.size (.dT i)) { m with heap:=O,toks:=P }:=by
  refine d.laid    (fun b o e=>K b o e) (Nat.le_refl _) ?_
  obtain⟨o,x,R,U,W,V,Z,a5,a6⟩:=J
  refine⟨w,beq_eq_false_iff_ne.mpr (Nat.ne_of_gt d.big),L,?_,o,x,R,U,W,V,Z,a6⟩
  exact KT.keeps l fun b ys e=>by
   rw[Ar];exact e;intro z;rw[z,d.hok.fresh (Nat.le_refl _)]at e;cases e
 exact⟨.ref _,_,N,rfl,q _ (d.hok.fresh (Nat.le_refl _))⟩
theorem B1m {Kq:PySem.W.Frag}(f:X.K=Kq){a:Expr}{e:TE}{p d:Pos}(hc:X.calm=true)(hu:X.A.units+64<cLine)(c:Gl X "dict") (b:X.mg "dict" = none) (ha:QE X a e) (hs1:isStar a=false:=by rfl) :
 QE X (.Call (.Name "dict" p) [a] [] d) (tDP e):=⟨By7 hc hu c b ha.get hs1⟩
end
end L2
namespace L2
open PySem PySem.Spec PyProof.Rows PySem.W
section
variable {P:Program}{w:World}{H H':Hp}{h h1 h2 B:Heap}{a b:Addr}{o:HO}{outer:List Env}
theorem z9.there (x:z9 P w H h a o):∃u,h.get? a=some u:=by
 cases o with
 | lst xs=>obtain⟨_,_,_,_,e⟩:=x;exact⟨_,e⟩
 | tup xs=>obtain⟨_,_,_,o,e,_⟩:=x;exact⟨_,e⟩
 | dK kvs=>obtain⟨_,_,_,_,o,_,_,e,_⟩:=x;exact⟨_,e⟩
 | dT kvs=>obtain⟨_,_,_,_,o,_,_,e,_⟩:=x;exact⟨_,e⟩
 | set S n=>obtain⟨o,_,_,_,e,_⟩:=x;exact⟨_,e⟩
 | ins C dx fs=>obtain⟨_,_,_,e,_⟩:=x;exact⟨_,e⟩
 | own y=>exact x
 | xd fs=>obtain⟨_,⟨_,_,_,e,_⟩,_⟩:=x;exact⟨_,e⟩
 | rng lo hi=>obtain⟨_,_,_,e⟩:=x;exact⟨_,e⟩
 | frz ob u=>obtain⟨e,_⟩:=x;exact⟨_,e⟩
 | tbl q=>obtain⟨_,e,_⟩:=x;exact⟨_,e⟩
 | met f y=>exact⟨_,(show h.get? a=some _ from x)⟩
 | ext φ=>exact x.2.1
def Cov (fs:List Addr)(H':Hp)(h0 h B:Heap):Prop:=∀b o,h.get? b=some o->b∉fs->((∃u,h0.get? b=some u)\/H' b≠none)->B.get? b=some o
theorem Bp9 (u:Un (frs outer) [] H H' h h1)(hk:HOk P w H' h1)(hB:Cov (frs outer) H' h h1 B)(ff:h1.FunFrames B outer)(frf:∀b∈frs outer,H' b=none)(st:B.StaysIn h2)(up:h1.UpToSlots h2) :
 Un (frs outer) [] H H' h h2/\HOk P w H' h2:=by
 have nx:∀b:Addr,b∉([]:List Addr):=fun b z=>nomatch z
 refine⟨⟨fun b o e n hf _=>st b o (hB b o (u.keep b o e n hf (nx b)) hf (.inl ⟨o,e⟩)),fun b o e n hf _=>?_,fun b o e n _=>u.free b o e n (nx b),fun b o e _=>?_,u.tups,u.frzs,u.tbls⟩,fun a o e=>?_⟩
 ·obtain⟨sl,e1⟩:=u.slot b o e n hf (nx b)
  obtain⟨_,o',e2,nf⟩:=ff.mem hf;rw[e1]at e2;cases e2;obtain⟨sl',e3⟩:=up b _ e1 nf;exact⟨sl',e3⟩
 ·obtain⟨o',e1⟩:=u.there b o e (nx b)
  by_cases hf:b∈frs outer
  ·obtain⟨_,o2,e2,nf⟩:=ff.mem hf
   obtain⟨sl',e3⟩:=up b _ e2 nf;exact⟨_,e3⟩
  ·exact⟨o',st b o' (hB b o' e1 hf (.inl ⟨o,e⟩))⟩
 ·have key:∀b u,H' b≠none->h1.get? b=some u->h2.get? b=some u:=fun b u hn e=>st b u (hB b u e (fun z=>hn (frf b z)) (.inr hn))
  refine (hk a o e).stay (fun b u hb eu=>key b u ?_ eu) (fun _ q=>q) (fun _ _ q=>q)
  rcases hb with rfl | hb
  ·rw[e];simp
  ·rw[hb];simp
end
structure Fly (outer:List Env) (H':Hp) (h0:Heap) (a:Addr) (cls:Value) (h:Heap):Prop where
 fl:∃B t,Heap.FlyingW B outer a cls (.ref t) h/\Cov (frs outer) H' h0 h B
 new:∀b o,h0.get? b=some o->b≠a
 free:H' a=none
def CXe (P:Program)(w:World):CXT:=fun outer H s E e s'=>∃a C H',e=.ref a/\Fly outer H' s.heap a (.ref C) s'.heap/\s'.os=s.os/\AllBare s'.gens/\Un (frs outer) [] H H' s.heap s'.heap/\HOk P w H' s'.heap/\E (.ref C) none H'
section
variable {X:Cx}{pins:List (Addr×Obj)}{σ:St}{H H':Hp}{s s':Shared}
theorem Inv.flown {h2 B:Heap}{tk:Nat}(I:Inv X pins σ H s)(u:Un (frs X.stack) [] H H' s.heap s'.heap)(hk:HOk X.prog X.w H' s'.heap)(os:s'.os=s.os)(bare:AllBare s'.gens)
 (ff:s'.heap.FunFrames B X.stack) (cov:Cov (frs X.stack) H' s.heap s'.heap B) (st:B.StaysIn h2) (up:s'.heap.UpToSlots h2):Inv X pins σ H' { s' with heap:=h2,toks:=tk }:=by
 have frf:∀b∈frs X.stack,H' b=none:=fun b hb=>by
  obtain⟨_,o,ho,_⟩:=I.stack.mem hb
  exact u.free b o ho (I.stkFree b hb) (fun z=>nomatch z)
 obtain⟨u2,k2⟩:=Bp9 u hk cov ff frf st up
 obtain⟨v,H2,I2,_,rfl⟩:=I.after (s':={ s' with heap:=h2,toks:=tk }) (Q:=fun _ H2=>H2=H') (u:=.none) ⟨.non,H',os,bare,u2,k2,rfl,rfl⟩
 exact I2
end
section
variable {P:Program}{w:World}{K:PySem.W.Frag}{mg:Str->Option Value}{base:Heap}{N:List Str}{qual:Str}{scope:Scope}{f:Addr}{cd:Value}{A:Around}{outer:List Env}{s₀:Shared}{H₀:Hp}{E:XK}
theorem Xi:M6 (CXe P w) (Mx (CXe P w) P w K mg base N qual scope f cd A outer s₀ H₀ E) E:=by
 intro pins σ H s e s' I h;obtain⟨a,C,H',rfl,⟨⟨B,t,fl,cov⟩,new,fr⟩,os,bare,u,hok,q⟩:=h
 refine wpAny_leaves_onW (base:=B) (cls:=.ref C) (a0:=.ref t) I.ok.frames rfl fl fun h2 fl2 up=>?_
 have I2:Inv (Mx (CXe P w) P w K mg base N qual scope f cd A outer s₀ H₀ E) pins σ H' { s' with heap:=h2 }:=I.flown (tk:=s'.toks) u hok os bare fl.2.2.1 cov fl2.1 up
 have nb:∀b o,s₀.heap.get? b=some o->∃o',s.heap.get? b=some o':=fun b o e=>I.base.there b o e (fun z=>nomatch z)
 refine⟨a,C,H',rfl,⟨⟨B,t,fl2,fun b o e hf hb=>?_⟩,fun b o e=>?_,fr⟩,os.trans I.os,bare,I2.base,I2.hok,q⟩
 ·have nl:b≠(envOfC qual scope s₀.heap.objs.size f cd).locals:=by
   rintro rfl
   rcases hb with ⟨u',e'⟩ | hb
   ·exact absurd (Heap.lt_size e') (Nat.lt_irrefl _)
   ·exact hb I2.free
  have hfs:b∉frs (Mx (CXe P w) P w K mg base N qual scope f cd A outer s₀ H₀ E).stack:=fun z=>by
   rcases List.mem_cons.mp (I.stkSub b z) with q | q
   ·exact nl q
   ·exact hf q
  have there:∃o',s'.heap.get? b=some o':=by
   rcases hb with ⟨u',e'⟩ | hb
   ·obtain⟨o1,e1⟩:=nb b u' e'
    exact u.there b o1 e1 (fun z=>nomatch z)
   ·cases q':H' b with
    | none=>exact absurd q' hb
    | some ho=>exact(hok b ho q').there
  obtain⟨o',e'⟩:=there
  have:=cov b o' e' hfs (by
   rcases hb with ⟨u',q'⟩ | hb
   ·exact .inl (nb b u' q')
   ·exact .inr hb)
  have e2:=fl2.1 b o' this;rw[e]at e2;cases e2;exact this
 ·obtain⟨o',e'⟩:=nb b o e
  exact new b o' e'
end
def Raises (X:Cx)(E:XK):Prop:=∀(pins:List (Addr×Obj)) (σ:St) (H:Hp) (s:Shared) (h':Heap) (e C:Addr) (args:List Value),Inv X pins σ H s->Heap.MadeExcOf s.heap h' e (.ref C) args->E (.ref C) none H->X.xe (.ref e) { s with heap:=h' }
section
variable {P:Program}{w:World}{K:PySem.W.Frag}{mg:Str->Option Value}{base:Heap}{N:List Str}{qual:Str}{scope:Scope}{f:Addr}{cd:Value}{A:Around}{outer:List Env}{s₀:Shared}{H₀:Hp}{E:XK}
theorem A0q:Raises (Mx (CXe P w) P w K mg base N qual scope f cd A outer s₀ H₀ E) E:=by
 intro pins σ H s h' e C args I hx q
 let X:=Mx (CXe P w) P w K mg base N qual scope f cd A outer s₀ H₀ E
 have st0:(hideAll s.heap (frs X.stack)).StaysIn s.heap:=fun b o z=>of_hideAll _ z
 have ff:s.heap.FunFrames (hideAll s.heap (frs X.stack)) X.stack:=funFrames_hide I.stack fun env he b hb=>List.mem_filterMap.mpr ⟨env,he,hb⟩
 have ff':h'.FunFrames (hideAll s.heap (frs X.stack)) X.stack:=ff.of_keeps fun b o z _=>⟨o,hx.keeps b o z,rfl⟩
 have hok':HOk P w H h':=I.hok.kept hx.keeps
 have fr:H e=none:=by
  cases z:H e with
  | none=>rfl
  | some ho =>
   obtain⟨u,hu⟩:=(I.hok e ho z).there;rw[hx.new]at hu;cases hu
 have cov:Cov (frs X.stack) H s.heap h' (hideAll s.heap (frs X.stack)):=fun b o z hf hb=>by
  have:∃u,s.heap.get? b=some u:=by
   rcases hb with hb | hb
   ·exact hb
   ·cases y:H b with
    | none=>exact absurd y hb
    | some ho=>exact(I.hok b ho y).there
  obtain⟨u,hu⟩:=this;have:=hx.keeps b u hu;rw[z]at this;cases this;exact hideAll_get _ hu hf
 refine wpAny_leaves_madeW (h:=s.heap) (args:=args) (cls:=.ref C) I.ok.frames rfl st0 ff hx fun h2 t fl2 tup btn up=>?_
 have I2:Inv X pins σ H { s with heap:=h2 }:=I.flown (s':={ s with heap:=h' }) (tk:=s.toks) (Un.kept hx.keeps) hok' rfl I.bare ff' cov fl2.1 up
 have nb:∀b o,s₀.heap.get? b=some o->∃o',s.heap.get? b=some o':=fun b o z=>I.base.there b o z (fun z=>nomatch z)
 refine⟨e,C,H,rfl,⟨⟨_,t,fl2,fun b o z hf hb=>?_⟩,fun b o z y=>?_,fr⟩,I.os,I.bare,I2.base,I2.hok,q⟩
 ·have nl:b≠(envOfC qual scope s₀.heap.objs.size f cd).locals:=by
   rintro rfl
   rcases hb with ⟨u',e'⟩ | hb
   ·exact absurd (Heap.lt_size e') (Nat.lt_irrefl _)
   ·exact hb I2.free
  have hfs:b∉frs X.stack:=fun z=>by
   rcases List.mem_cons.mp (I.stkSub b z) with q | q
   ·exact nl q
   ·exact hf q
  have there:∃o',h'.get? b=some o':=by
   rcases hb with ⟨u',e'⟩ | hb
   ·obtain⟨o1,e1⟩:=nb b u' e'
    exact⟨o1,hx.keeps b o1 e1⟩
   ·cases q':H b with
    | none=>exact absurd q' hb
    | some ho=>exact(hok' b ho q').there
  obtain⟨o',e'⟩:=there
  have:=cov b o' e' hfs (by
   rcases hb with ⟨u',q'⟩ | hb
   ·exact .inl (nb b u' q')
   ·exact .inr hb)
  have e2:=fl2.1 b o' this;rw[z]at e2;cases e2;exact this
 ·obtain⟨o',e'⟩:=nb b o z
  rw[y,hx.new]at e';cases e'
end
theorem Pu {K:PySem.W.Frag}{h:Heap}{C:Addr}{bmB:List Value}{newId:String}(X:K.In h)(q:excIn K C bmB newId=true):∃bm N nm qn bs hdct sn sub ab col dd k0 k1 k2 k3 k5 mN,h.get? C=some (excClassObj nm qn C N bs bm hdct sn sub ab col dd k0 k1 k2 k3 k5 newId)/\h.Ns N mN/\mN "__init__" = none/\OwnTail h bmB bm:=by
 cases hl:K.lookup C with
 | none=>unfold excIn at q;rw[hl]at q;cases q
 | some ob =>
  have hX:=X _ _ hl;unfold excIn at q;rw[hl]at q;obtain⟨oc,od,da,sl⟩:=ob
  split at q
  ·rename_i d1 c1 s1 z
   cases z
   split at q
   ·rename_i C' tl x0 x1 x2 x3 n x5 y1 y2
    simp only[Bool.and_eq_true,beq_iff_eq,Bool.not_eq_true']at q;obtain⟨⟨⟨⟨⟨e1,e2⟩,e3⟩,e4⟩,e5⟩,e6⟩:=q;obtain⟨nm,bs,mro,nsp,qn,hd,sn,sub,ab,col,del⟩:=c1
    dsimp only at y1 e3 e5 e6
    subst e1 e2 y1 e3
    have e7:sl=#[x0,x1,x2,x3,some (.builtin n),x5]:=by
     obtain⟨l⟩:=sl
     dsimp only at y2
     rw[y2]
    subst e7
    refine⟨tl,nsp,nm,qn,bs,hd,sn,sub,ab,col,_,x0,x1,x2,x3,x5,h.nsMap nsp,hX,.of_isNs (isNs_of_in X e5),nsMap_none_of_in X e5 e6,tail_of_in X e4⟩
   ·cases q
  ·cases q
section
variable {X:Cx}{x:Str}{C:Addr}{np cpos pos:Pos}{e:Expr}{es:List Expr}{t:TA}{E:XK}
def Am8 (C:Addr)(E:XK)(t:TA):TS:=fun _ σ H=>t σ H fun vs H1=>vs.length<=sizeLine/\E (.ref C) none H1
theorem A8z (hR:Raises X E)(hc:X.calm=true)(hg:Gl X x)(hm:X.mg x=some (.ref C))(hq:excIn X.K C bmV "ValueError.__new__" = true) (ha:PA X (e::es) t) (hdb:(x==("__debug__" : Str))=false:=by decide)
 (he:starEach (e::es) X.env=(false,eval e X.env)::starEach es X.env:=by rfl) (hpl:(backTo cpos (starEach es X.env)).any (·.1)=false:=by rfl) :
 PS X (.Raise (some (.Call (.Name x np) (e::es) [] cpos)) none pos) (Am8 C E t):=by
 intro pins s σ H D I h;obtain⟨bm,Nn,nm,qn,bs,hdct,sn,sub,ab,col,dd,k0,k1,k2,k3,k5,mN,hC,hN,hni,T⟩:=Pu I.mod.kin hq
 have hp2:(backTo cpos (starEach (e::es) X.env)).any (·.1)=false:=by
  rw[he]
  show (false||(backTo cpos (starEach es X.env)).any (·.1))=false
  rw[hpl];rfl
 refine wpAny_Raise_call_subT (C:=C) (nm:=nm) (q:=qn) (N:=Nn) (bs:=bs) (bm:=bm) (hdct:=hdct) (sn:=sn) (sub:=sub) (ab:=ab) (col:=col) (dd:=dd) (k0:=k0) (k1:=k1) (k2:=k2) (k3:=k3) (k5:=k5) PySem.F.excBase_ValueError (mN:=mN) (T.hasType PySem.F.excBase_ValueError.hasBase) (I.ok.hd hc) hp2 hni (Lb I hg hm ⟨rfl,?_⟩ hdb)
 have hs:=ha cpos pins s σ H _ I h;rw[he]at hs ⊢
 refine Calls.evalArgs_plain (wpAny_mono hs (fun us s2 ⟨vs,H2,I2,r2,z,q2⟩=>?_) fun _ _ z=>z)
 have kp:∀b o,X.base.get? b=some o->s2.heap.get? b=some o:=I2.bk
 exact⟨rfl,by rw[<- r2.length];exact z,kp _ _ hC,hN.keeps kp,T.keeps kp,fun h' ea hM=>hR pins σ H2 s2 h' ea C us I2 hM q2⟩
end
section
variable {X:Cx}{pins:List (Addr×Obj)}{σ:St}{H H':Hp}{s s':Shared}{CX:CXT}{k:Nat}{f:Addr}{fd:FuncData}{ps:List Str}{sp:Sp}{dvs:List V}{ds:List Value}{E:XK}{x:Str}{p pos:Pos}{e:Expr}{es:List Expr}{t:TA}{Q:VK}
theorem A5s (F:FnOk X.prog X.w X.K X.mg X.base CX k f fd ps sp)(hr:Room k X.A)(hg:Gl X x)(hm:X.mg x=some (.ref f))(hk:PySem.W.keepIn X.K (.ref f)=true)(hb:Binds X.K fd ps ds)(hd:Vals dvs ds)(hx0:∀e s,¬ X.xe e s)
 (ha:PA X (e::es) t) (I:Inv X pins σ H s) (h:t σ H fun vs H1=>sp (vs++dvs) H1 Q E) (hdb:(x==("__debug__" : Str))=false:=by decide) (he:starEach (e::es) X.env=(false,eval e X.env)::starEach es X.env:=by rfl) (hpl:(backTo pos (starEach es X.env)).any (·.1)=false:=by rfl) :
 wpAny (model X.prog X.w) X.A (eval (.Call (.Name x p) (e::es) [] pos) X.env) (EP X pins σ Q) (fun ev s'=>∃H1 s1,Inv X pins σ H1 s1/\CX X.stack H1 s1 E ev s') s:=by
 have arg:=wpAny_mono (E':=fun ev s'=>∃H1 s1,Inv X pins σ H1 s1/\CX X.stack H1 s1 E ev s') (ha pos pins s σ H _ I h) (fun _ _ z=>z) (fun ev s2 z=>absurd z (hx0 ev s2))
 refine wpAny_Call_Name_kw (Lb I hg hm ?_ hdb)
 refine PySem.W.callWith_K (h₀:=X.base) I.ok.mod.kin hk (thn arg fun us s1 ⟨vs,H1,I1,r,q⟩=>⟨I1.kIn,?_⟩) he hpl
 have r2:Vals (vs++dvs) (us++ds):=r.append hd
 have hl:(us++ds).length=ps.length:=by rw[<- r2.length];exact F.len _ _ _ _ q
 refine wpAny_call (codeAny_mono (F.run X.A X.stack s1 H1 ⟨us,[]⟩ (us++ds) (vs++dvs) Q E hr I1.env0 (hb s1 us I1.kIn hl) r2 q) fun r s' hq=>?_)
 cases r with
 | error ev=>exact⟨H1,s1,I1,hq⟩
 | ok fl =>
  cases fl with
  | ret u=>exact I1.after hq
  | next=>exact False.elim hq
  | brk=>exact False.elim hq
  | cont=>exact False.elim hq
def Kr (a C:Addr):HO:=.ext fun h=>∃o,h.get? a=some o/\o.cls=.ref C
theorem Be6 {P:Program}{w:World}{a C:Addr}{h:Heap}{o:Obj}(e:h.get? a=some o)(c:o.cls=.ref C):z9 P w H h a (Kr a C) :=
 ⟨⟨o,e,c⟩,⟨o,e⟩,fun h1 h2 ⟨o,e,c⟩ k=>⟨o,k o e,c⟩⟩
theorem Inv.track {a:Addr}{o:HO}(I:Inv X pins σ H s)(hn:H a=none)(h0:X.s₀.heap.get? a=none)(hL:a≠X.env.locals)(h2:∀x c,X.env.cells.lookup x=some c->c≠a)(h3:∀p∈X.pn++pins,p.1≠a)
 (new:z9 X.prog X.w (upd H a o) s.heap a o):Inv X pins σ (upd H a o) s:=by
 have ne:∀b u,H b=some u->b≠a:=fun b u e z=>by rw[z,hn]at e;cases e
 have b0:∀b u,X.s₀.heap.get? b=some u->b≠a:=fun b u e z=>by rw[z,h0]at e;cases e
 refine⟨I.ok,I.os,I.bare,⟨I.base.keep,I.base.slot,fun b u e n hx=>by rw[Ar (b0 b u e)];exact I.base.free b u e n hx,I.base.there,fun b xs e=>by
  have:=I.base.tups b xs e
  rw[Ar (ne _ _ this)];exact this,fun b u v e=>by
  have:=I.base.frzs b u v e
  rw[Ar (ne _ _ this)];exact this,fun b ps e=>by
  have:=I.base.tbls b ps e
  rw[Ar (ne _ _ this)];exact this⟩,I.loc,I.cell,by rw[Ar (Ne.symm hL)];exact I.free,fun y c e=>by rw[Ar (h2 y c e)];exact I.freeC y c e,fun p hp=>?_,fun b u e=>?_,I.len⟩
 ·obtain⟨q1,q2,q3⟩:=I.pin p hp
  exact⟨q1,by rw[Ar (h3 p hp)];exact q2,q3⟩
 ·by_cases hb:b=a
  ·subst hb
   rw[Ca]at e;cases e;exact new
  ·rw[Ar hb]at e
   exact(I.hok b u e).stay (fun c v _ z=>z) (fun c z=>by rw[Ar (ne _ _ z)];exact z) (fun c xs z=>by rw[Ar (ne _ _ z)];exact z) (fun c ob xs z=>by rw[Ar (ne _ _ z)];exact z)
theorem Inv.unbound {j:Nat}{n:Str}{h':Heap}{m m':Str->Option Value}{tk:Nat}(I:Inv X pins σ H s)(hN:X.N.Nodup)(hj:X.N[j]?=some n)(hm:s.heap.Ns X.env.locals m)(hm':h'.Ns X.env.locals m')(hmm:∀y,y≠n->m' y=m y)(sb:Heap.SameBut X.env.locals s.heap h') :
 Inv X pins (σ.set j none) H { s with heap:=h',toks:=tk }:=by
 have kp:∀b u,b≠X.env.locals->s.heap.get? b=some u->h'.get? b=some u:=fun b u hb e=>sb.extBut b u hb e
 have nl:∀b u,X.s₀.heap.get? b=some u->b≠X.env.locals:=fun b u e z=>by
  have:=Heap.lt_size e;rw[z]at this;exact absurd (Nat.lt_of_lt_of_le this I.ok.above) (Nat.lt_irrefl _)
 have cc:∀{y:Str} {c:Addr} {v:Option Value},X.env.cells.lookup y=some c->s.heap.IsCell c v->h'.IsCell c v:=fun {y c v} e ⟨o,ho,hd⟩=>⟨o,kp c o (I.cne y c e) ho,hd⟩
 refine⟨I.ok,I.os,I.bare,⟨fun b u e n hf hx=>kp b u (nl b u e) (I.base.keep b u e n hf hx),fun b u e n hf hx=>?_,I.base.free,fun b u e hx=>?_,I.base.tups,I.base.frzs,I.base.tbls⟩,⟨m',hm',fun i y v e1 e2 e3=>?_⟩,fun y c e=>?_,I.free,I.freeC,fun q hq=>?_,fun b u e=>?_,by rw[List.length_set];exact I.len⟩
 ·obtain⟨sl,q⟩:=I.base.slot b u e n hf hx
  exact⟨sl,kp b _ (nl b u e) q⟩
 ·obtain⟨u',q⟩:=I.base.there b u e hx
  exact⟨u',kp b u' (nl b u e) q⟩
 ·have ij:i≠j:=fun z=>by
   subst z;rw[List.getElem?_set]at e2
   simp at e2
  rw[List.getElem?_set_ne (Ne.symm ij)]at e2;obtain⟨m0,hn0,hl⟩:=I.loc
  have em:m0=m:=by
   obtain⟨o1,es1,p1,g1,d1,_,f1⟩:=hn0;obtain⟨o2,es2,p2,g2,d2,_,f2⟩:=hm;rw[g1]at g2;cases g2;rw[d1]at d2;cases d2
   funext z
   rw[<- f1,<- f2]
  subst em;obtain⟨u,r,lk⟩:=hl i y v e1 e2 e3
  refine⟨u,r,?_⟩
  rcases lk with ⟨q1,q2⟩ | ⟨q1,c,q2,q3⟩
  ·have yn:y≠n:=fun z=>ij (by
    subst z
    exact(List.getElem?_inj (List.getElem?_eq_some_iff.mp e1).1 hN).mp (e1.trans hj.symm))
   exact .inl ⟨q1,by rw[hmm y yn];exact q2⟩
  ·exact .inr ⟨q1,c,q2,cc q2 q3⟩
 ·obtain⟨v,z⟩:=I.cell y c e
  exact⟨v,cc e z⟩
 ·obtain⟨q1,q2,q3,q4⟩:=I.pin q hq
  exact⟨kp _ _ q3 q1,q2,q3,q4⟩
 ·have key:∀b u v,H b=some u->s.heap.get? b=some v->h'.get? b=some v:=fun b u v z e=>kp b v (fun y=>by rw[y,I.free]at z;cases z) e
  refine (I.hok b u e).stay (fun c v hc z=>?_) (fun _ z=>z) (fun _ _ z=>z)
  rcases hc with rfl | hc
  ·exact key _ _ _ e z
  ·exact key _ _ _ hc z
def Sy (X:Cx)(a:Addr):Cx:={ X with A:=X.A.mark (some (.ref a)),calm:=false,xe:=fun _ _=>False }
theorem Inv.mark (I:Inv X pins σ H s)(a:Addr):Inv (Sy X a) pins σ H s :=
 ⟨⟨I.ok.mod,I.ok.kind,I.ok.glob,I.ok.blt,I.ok.above,I.ok.inj,I.ok.has,I.ok.cab,(fun z=>nomatch z),I.ok.frames,I.ok.stk,I.ok.exf,I.ok.bs,I.ok.bsz,I.ok.noex,I.ok.exfs,I.ok.funs,I.ok.frf,I.ok.tab⟩,I.os,I.bare,I.base,I.loc,I.cell,I.free,I.freeC,I.pin,I.hok,I.len⟩
theorem Inv.unmark {a:Addr}(ok:X.Ok)(I:Inv (Sy X a) pins σ H s):Inv X pins σ H s:=⟨ok,I.os,I.bare,I.base,I.loc,I.cell,I.free,I.freeC,I.pin,I.hok,I.len⟩
end
section
variable {X:Cx}{pins:List (Addr×Obj)}{σ:St}{H H1:Hp}{s s1 s':Shared}{E:XK}{D:Ends}{y n:Str}{Fc:Addr}{yp hpos:Pos}{b₀:Stmt}{suite:List Stmt}{th:TS}{j:Nat}{ev:Value}
theorem A2q (hx0:X.ex=[])(hs:X.stack=X.env::X.outer/\X.env.frame=some X.env.locals)(hN:X.N.Nodup)(hj:X.N[j]?=some n)(hlo:X.env.scope.names.lookup n=some .local)(hg:Gl X y)(hm:X.mg y=some (.ref Fc))(hsu:∀a,PSs (Sy X a) (b₀::suite) th)
 (I:Inv X pins σ H1 s1) (cx:CXe X.prog X.w X.stack H1 s1 E ev s') (hE:∀C H2,E (.ref C) none H2->exmOne X.K (.ref C) (.ref Fc)=some true/\∀a,H2 a=none->th { nx:=fun σ2 H3=>D.nx (σ2.set j none) H3,rt:=D.rt } (σ.set j (some (.ref a))) (upd H2 a (Kr a C)))
 (hdb:(y==("__debug__" : Str))=false:=by decide) :
 wpAny (model X.prog X.w) X.A (noteFrame ev X.env) (fun _ s₂=>wpAny (model X.prog X.w) X.A (setFlight ev none) (fun _ s₃=>wpAny (model X.prog X.w) X.A (handleBy ev X.env [.ExceptHandler (some (.Name y yp)) (some n) (b₀::suite) hpos]) (SP X pins D) X.xe s₃) X.xe s₂) X.xe s':=by
 obtain⟨a,C,H2,rfl,⟨⟨B,t,fl,cov⟩,new,fr⟩,os,bare,u,hok,q⟩:=cx;obtain⟨hex,hth⟩:=hE C H2 q;have hth:=hth a fr;have fl':=fl;rw[hs.1]at fl'
 refine wpAny_looks_onW (I.ok.frames.trans (congrArg some hs.1)) hs.2 fl' fun h4 held up4=>?_
 refine wpAny_landsW held fun h5 fl5 up5=>?_
 have I5:Inv X pins σ H2 { s' with heap:=h5 }:=I.flown (tk:=s'.toks) u hok os bare fl.2.2.1 cov fl5.1 (up4.trans up5)
 obtain⟨ob,hob,hoc⟩:=fl5.there;have LT:Looks (model X.prog X.w) h5 (typeOf (.ref a)) (.ref C):=hoc▸(Looks.ld hob).andThen .now;have LX:=exm_one (M:=model X.prog X.w) (h:=h5) I5.kIn LT hex
 refine wpAny_handleBy_cons (codeAny_handlers_test (Lb (X:=Sy X a) (I5.mark a) hg hm ?_ hdb)) (by intro z;cases z)
 refine LX.here ?_
 refine codeAny_handlers_suite_as ?_
 refine lands_againW fl5 fun h6 fl6 up6=>?_
 have I6:Inv X pins σ H2 { s' with heap:=h6 }:=I.flown (tk:=s'.toks) u hok os bare fl.2.2.1 cov fl6.1 ((up4.trans up5).trans up6)
 obtain⟨o6,ho6,hc6⟩:=fl6.there
 have n0:X.s₀.heap.get? a=none:=by
  cases z:X.s₀.heap.get? a with
  | none=>rfl
  | some o0 =>
   obtain⟨o1,e1⟩:=I.base.there a o0 z (by rw[hx0];simp)
   exact absurd rfl (new a o1 e1)
 have I7:Inv X pins σ (upd H2 a (Kr a C)) { s' with heap:=h6 }:=I6.track fr n0 (fun z=>by
  obtain⟨m,⟨o,es,ep,e,_⟩,_⟩:=I.loc
  exact new _ o e z.symm) (fun y c e z=>by
  obtain⟨v,o,e1,_⟩:=I.cell y c e
  exact new c o e1 z) (fun p hp z=>new p.1 p.2 (I.pin p hp).1 z) (Be6 ho6 hc6)
 refine Hk (X:=X) (v:=.ref a) I7 hN hj (.inl hlo) rfl (fun s8 I8=>?_) (.inr hlo)
 refine wpAny_mono (hsu a pins s8 _ _ _ (I8.mark a) hth) (fun fw s9 h9=>?_) fun _ _ z=>z.elim
 have hcls:(X.env.scope.kind==.class||(X.env.scope.kind==.module&&X.env.locals != X.env.globals))=false:=by rw[I.ok.kind];rfl
 cases fw with
 | next =>
  obtain⟨σ9,H9,I9,q9⟩:=h9;have I9:=I9.unmark I.ok;obtain⟨m,hm9,_⟩:=id I9.loc
  exact wpAny_nameGoes_keeps hlo hm9 hcls fun h10 v hn10 sb=>⟨_,H9,I9.unbound hN hj hm9 hn10 (fun y hy=>if_neg hy) sb,q9⟩
 | ret w =>
  obtain⟨v,σ9,H9,I9,r9,q9⟩:=h9;have I9:=I9.unmark I.ok;obtain⟨m,hm9,_⟩:=id I9.loc
  exact wpAny_nameGoes_keeps hlo hm9 hcls fun h10 v' hn10 sb=>⟨v,_,H9,I9.unbound hN hj hm9 hn10 (fun y hy=>if_neg hy) sb,r9,q9⟩
 | brk=>obtain⟨_,_,_,q9⟩:=h9;exact q9.elim
 | cont=>obtain⟨_,_,_,q9⟩:=h9;exact q9.elim
end
section
variable {X:Cx}{k:Nat}{f:Addr}{fd:FuncData}{ps:List Str}{sp:Sp}{x y n v:Str}{p pos epos cpos yp hpos vp:Pos}{e:Expr}{es:List Expr}{t:TA}{Fc:Addr}{b₀:Stmt}{suite:List Stmt}{th:TS}{j i:Nat}
def Bo5 (K:PySem.W.Frag)(Fc:Addr)(j:Nat)(sp:Sp)(t:TA)(i:Option Nat)(th:TS):TS:=fun D σ H=>t σ H fun vs H1=>sp vs H1 (fun u H2=>D.nx (match i with | some i=>σ.set i (some u) | none=>σ) H2)
 (fun c _ H2=>∃C,c=.ref C/\exmOne K c (.ref Fc)=some true/\∀a,H2 a=none->th { nx:=fun σ2 H3=>D.nx (σ2.set j none) H3,rt:=D.rt } (σ.set j (some (.ref a))) (upd H2 a (Kr a C)))
end
section
variable {prog:Program}{w:World}{A:Around}{E:Value->Shared->Prop}{h:Heap}{g:Array GenState}{d:Drawn}{t:Nat}{os:OsState}{a C:Addr}{o:Obj}{K:PySem.W.Frag}
structure Rm (K:PySem.W.Frag) (C:Addr):Prop where
 exc:excIn K C bmV "ValueError.__new__" = true
 ga:findIn K (.ref C) "__getattribute__" = some (some (.builtin "BaseException.__getattribute__"))
 gat:findIn K (.ref C) "__getattr__" = some none
 cls:findIn K (.ref C) "__class__" = some (some (.builtin "object.__class__"))
theorem Bq7 {R:Result->Shared->Prop}(X:K.In h)(Z:Rm K C)(hx:h.get? a=some o)(hc:o.cls=.ref C)(hq:R (.ok (.ret (.ref C))) ⟨h,g,d,t,os⟩) :
 codeAny (model prog w) A (.call (.builtin "getset_descriptor.__get__") ⟨[.builtin "object.__class__",.ref a,.ref C],[]⟩) R ⟨h,g,d,t,os⟩:=by
 obtain⟨bm,Nn,nm,qn,bs,hdct,sn,sub,ab,col,dd,k0,k1,k2,k3,k5,mN,hC,hN,hni,T⟩:=Pu X Z.exc;have hT5:(⟨h,g,d,t,os⟩:Shared).TypeIs (.builtin "object.__class__") "getset_descriptor" := PySem.F.typeOf_object_class
 have hO:(Value.ref C::bm).contains (.type (".".intercalate ("object.__class__".cutAt '.').dropLast))=true:=by
  rw[PySem.F.owner_object_class,List.contains_cons,T.hasType (X := "object") (b:=true) rfl];rfl
 refine codeAny_call_builtin PySem.F.slot_gs_get.plain PySem.F.entry_gs_get (PySem.F.slot_gs_get.check _ _ _ _ _ _ _ _ hT5 (PySem.F.args_gs_get _ _ _) ?_)
 repeat (any_goals (first | assumption | (with_reducible refine wpAny_loadPart_at hx ?_;rw[hc]) | (with_reducible refine wpAny_isSubtype_exc hC ?_;rw[hO]) | wp_step))
 refine⟨Code.quiet_builtin _ (by decide +kernel),codeAny_builtin PySem.F.entry_object_class ?_⟩
 repeat (any_goals (first | assumption | (with_reducible refine wpAny_loadPart_at hx ?_;rw[hc]) | wp_step))
theorem A6a {tk:Tok}{Q:Fin->Shared->Prop}(X:K.In h)(Z:Rm K C)(hx:h.get? a=some o)(hc:o.cls=.ref C)(hq:Q (.done (.ret (.ref C))) ⟨h,g,d,t,os⟩) :
 wpAny (model prog w) A (Builtin.«object.__getattribute__» ⟨[.ref a,.str "__class__" tk],[]⟩) Q E ⟨h,g,d,t,os⟩:=by
 have hT5:(⟨h,g,d,t,os⟩:Shared).TypeIs (.builtin "object.__class__") "getset_descriptor" := PySem.F.typeOf_object_class;have f5:=PySem.F.typeOf_object_class;have f6:=PySem.F.slot_gs_get.lookup;have f7:=PySem.F.slot_gs_set.lookup;have lc:=looks_findIn (M:=model prog w) X Z.cls
 repeat (any_goals (first | assumption | (with_reducible refine wpAny_loadPart_at hx ?_;rw[hc]) | with_reducible refine lc.here ?_ | wp_step))
 refine Bq7 X Z hx hc ?_
 repeat (any_goals (first | assumption | wp_step))
theorem A6s {M:Model}{nameV:Value}{Q:Unit->Shared->Prop}(X:K.In h)(Z:Rm K C)(hx:h.get? a=some o)(hc:o.cls=.ref C)(hq:Q () ⟨h,g,d,t,os⟩):wpAny M A (checkBuiltinCall "BaseException.__getattribute__" ⟨[.ref a,nameV],[]⟩) Q E ⟨h,g,d,t,os⟩:=by
 obtain⟨bm,Nn,nm,qn,bs,hdct,sn,sub,ab,col,dd,k0,k1,k2,k3,k5,mN,hC,hN,hni,T⟩:=Pu X Z.exc
 have hk:builtinKind "BaseException.__getattribute__" = some .slot:=by decide +kernel
 have hsp:splitId "BaseException.__getattribute__" = some ("BaseException", "__getattribute__"):=by decide +kernel
 have hB:(Value.ref C::bm).contains (.type "BaseException")=true:=by rw[List.contains_cons,T.hasType (X := "BaseException") (b:=true) rfl];rfl
 have ha:=PySem.F.args_bexc_ga (.ref a) nameV;simp only[checkBuiltinCall,hk,hsp]
 refine wpAny_bind ?_
 unfold isInstance
 repeat (first | (with_reducible refine wpAny_loadPart_at hx ?_;rw[hc]) | (with_reducible refine wpAny_isSubtype_exc hC ?_;rw[hB]) | wp_step)
 exact hq
theorem B1e {tk:Tok}{Q:Value->Shared->Prop}(X:K.In h)(Z:Rm K C)(hx:h.get? a=some o)(hc:o.cls=.ref C)(hq:Q (.ref C) ⟨h,g,d,t,os⟩):wpAny (model prog w) A (getAttrBy (.ref a) (.str "__class__" tk) false) Q E ⟨h,g,d,t,os⟩:=by
 have f3:=PySem.F.excAttr_ValueError.ga.bind (.ref a)
 have x2:(Value.builtin "BaseException.__getattribute__" == Value.builtin "object.__getattribute__")=false:=by decide +kernel
 have x1:(onTheHeap (Value.ref C)&&Value.builtin "BaseException.__getattribute__" == Value.builtin "object.__getattribute__")=false:=by rw[x2];rfl
 have l1:=looks_findIn (M:=model prog w) X Z.ga;have l2:=looks_findIn (M:=model prog w) X Z.gat
 repeat (any_goals (first | assumption | (with_reducible refine wpAny_loadPart_at hx ?_;rw[hc]) | with_reducible refine l1.here ?_ | with_reducible refine l2.here ?_ | wp_step))
 refine codeAny_call_builtin PySem.F.excAttr_ValueError.ga.plain PySem.F.entry_bexc_ga (A6s X Z hx hc (A6a X Z hx hc ?_))
 repeat (any_goals (first | assumption | wp_step))
theorem Bh2 {Q:Option Value->Shared->Prop}(X:K.In h)(Z:Rm K C)(hx:h.get? a=some o)(hc:o.cls=.ref C)(hq:Q (some (.ref C)) ⟨h,g,d,t+1,os⟩):wpAny (model prog w) A (getAttr? (.ref a) "__class__") Q E ⟨h,g,d,t,os⟩:=by
 unfold getAttr? getAttrBy?
 repeat (any_goals (first | assumption | with_reducible apply B1e X Z hx hc | wp_step))
end
section
variable {K:PySem.W.Frag}{a C:Addr}
theorem Ai6 (Z:Rm K C):KitX K (.ref a) (.ref C) (fun h=>∃o,h.get? a=some o/\o.cls=.ref C) where
 ty:=fun M h _ ⟨o,e,c⟩=>c▸(Looks.ld e).andThen .now
 it:=fun M h X _=>by
  obtain⟨bm,Nn,nm,qn,bs,hdct,sn,sub,ab,col,dd,k0,k1,k2,k3,k5,mN,hC,_⟩:=Pu X Z.exc;intro A' Q' E' s' kp q;unfold isType loadHead;exact wpAny_bind (wpAny_loadPart (kp _ _ hC) (wpAny_pure q))
 ne:=fun h tp dd its n sl X htp=>by
  obtain⟨bm,Nn,nm,qn,bs,hdct,sn,sub,ab,col,d',k0,k1,k2,k3,k5,mN,hC,_⟩:=Pu X Z.exc
  refine Bool.eq_false_iff.mpr fun q=>?_
  cases (Value.ref.inj (beq_iff_eq.mp q))
  rw[hC]at htp;have z:=congrArg Obj.data (Option.some.inj htp)
  cases z
 ca:=fun {_ _ _ _ _ s} X p q=>by
  obtain⟨hh,g,d,t,os⟩:=s;obtain⟨o,e,c⟩:=p;exact Bh2 X Z e c q
end
section
variable {X:Cx}
def Bv3:V->Option Value
 | .ref D=>some (.ref D)
 | .ty T=>some (.type T)
 | _=>none
theorem A7y {c:V}{u z:Value}(e:Bv3 c=some z)(r:RelV c u):u=z:=by
 cases c with
 | ref D=>cases e;exact r
 | ty T=>cases e;exact r
 | _=>cases e
def Ap8 (K:PySem.W.Frag):List V->Hp->VK->Prop:=fun xs H Q=>∃a C c z b,xs=[.ref a,c]/\H a=some (Kr a C)/\Rm K C/\Bv3 c=some z/\kitOne K (.ref C) z=some b/\Q (.bl b) H
theorem A0x:zB X (.builtin "isinstance") (Ap8 X.K):=by
 intro pins s σ H xs us Q I r h;obtain⟨a,C,c,z,b,rfl,ha,Z,ec,ek,q⟩:=h;obtain⟨u1,u2,rfl,r1,r2⟩:=vals2 r
 cases (show u1=Value.ref a from r1)
 cases A7y ec r2
 have ho:z9 X.prog X.w H s.heap a (Kr a C):=I.hok a _ ha
 exact kia_one (Ai6 Z) I.kIn ho.1 ek (fun z=>nomatch z) fun tk=>⟨.bl b,H,I.tok _,rfl,q⟩
def B2g (D:Addr):TE:=fun _ H Q=>Q (.ref D) H
theorem Bs5 {y:Str}{D:Addr}{p:Pos}(hg:Gl X y)(hm:X.mg y=some (.ref D))(hdb:(y==("__debug__" : Str))=false:=by decide):PE X (.Name y p) (B2g D):=fun pins s σ H Q I h=>Lb I hg hm ⟨.ref D,H,I,rfl,h⟩ hdb
end
end L2
namespace L2
open PySem PySem.Spec PyProof.Rows
section
variable {X:Cx}
def Au0 (K:PySem.W.Frag):V->List V->Hp->VK->Prop:=fun x vs H Q=>∃(a:Addr) (bs:List Bool),x=.ref a/\vs=[.bl true]/\SqL K H a (bs.map V.bl)/\Q (.int ((bs.countP id:Nat):Int)) H
theorem A2g {Kq:PySem.W.Frag}(hKq:X.K=Kq)(hu:X.A.units+64<cLine):MtM X "list.count" (Au0 Kq):=by
 subst hKq;intro pins s σ H x vs v us Q I rx rv h;obtain⟨a,bs,rfl,rfl,hq,q⟩:=h
 cases rx
 obtain⟨u,rfl,ru⟩:=rv.one
 cases ru
 obtain⟨its,r,pl,hz⟩:=I.list hq
 cases Ab0 r
 obtain⟨o,n,e,hc,hdn,hd⟩:=pl;obtain⟨c0,dd,dat,sl⟩:=o
 dsimp only at hc hd hdn
 subst hc hd hdn
 have hcnt:(bs.map Value.bool).toArray.toList.countP Aj6=bs.countP id:=by
  rw[List.countP_map]
  congr 1
 refine call_meets F.slot_list_count ⟨_,e,rfl⟩ F.entry_list_count (F.args_list_count_2 _ _) (SeqAt.list_countAt a (bs.map Value.bool).toArray n none sl (.bool true) Aj6) ⟨e,fun w hw=>?_,?_⟩
 ·obtain⟨b,hb,rfl⟩:∃b∈bs,Value.bool b=w:=by simpa using hw
  have:=SeqAt.eqAt_reads (.bool b) (.bool true) X.A.in1 s _ _ _ _ (.bool b) (.bool true) rfl rfl (by show X.A.units+1+0<_;omega)
  cases b <;> exact this
 ·exact⟨.int _,H,I.tok _,⟨_,by rw[hcnt]⟩,q⟩
end
section
variable {X:Cx}
def rIndexD:V->List V->Hp->VK->Prop:=fun x vs H Q=>∃(y:V) (d:PyData) (ds:List PyData) (j:Nat),vs=[y]/\Tr H d y/\Tr H (.tuple ds) x/\Flat d/\PyData.canLayAll0 ds=true /\
 (∃e,ds[j]?=some e/\PyData.eqv e d=true)/\(∀m e,m<j->ds[m]?=some e->PyData.eqv e d=false)/\Q (.int (j:Nat)) H
theorem Xx (hu:X.A.units+64<cLine):MtM X "tuple.index" rIndexD:=by
 intro l s σ H x vs v us Q I P L h;obtain⟨y,d,c,j,rfl,A,E,w,i,⟨ej,B,C⟩,D,q⟩:=h;obtain⟨u,rfl,G⟩:=L.one;obtain⟨as,J⟩:=A.reads I G;obtain⟨bs,K⟩:=E.reads I P
 cases K with
 | tuple k g p r =>
  rename_i a o b n;obtain⟨c0,dd,N,sl⟩:=o
  dsimp only at g p
  subst g p;have t:=SeqAt.readsAll_map c _ _ i r
  have M:∀m (O:m<b.size) e,c[m]?=some e->SeqAt.readOf s.heap b[m]=e:=fun m O e he=>by
   grind
  have f:b.size=c.length:=by grind
  obtain⟨z,_⟩:=List.getElem?_eq_some_iff.mp B
  refine call_meets F.slot_tuple_index ⟨_,k,rfl⟩ F.entry_tuple_index (F.args_tuple_index_2 _ _) (Wt a _ n _ _ _ (fun y=>PyData.eqv (SeqAt.readOf s.heap y) d) j (f▸z) ?_ ?_) ⟨k,?_,?_⟩
  ·simp_all
  ·grind
  ·exact SeqAt.items_eqAt r J i w.1 (Rn hu w.2)
  ·exact⟨.int _,H,I.tok _,⟨_,rfl⟩,q⟩
end
def TabAt (K:PySem.W.Frag)(h:Heap):Prop:=(∀p∈Em K,h.get? p.1=some { cls:=.none,data:=.fields #[] }/\isCodeTable h p.1/\K.lookup p.1=none)/\∀p∈Em K,(Em K).lookup p.1=some p.2
theorem Jv {l:List (Addr×Str)}   (h:l.lookup b=some q):(b,q)∈l:=by
 induction l with
 | nil=>grind
 | cons p r a =>
  grind
theorem A1y   {K:PySem.W.Frag}          
 (KX:K.In c.heap) (hns:c.heap.Ns mainGlobals mg) (hb:c.heap.Ns builtinsNs U) (X:∀x:Str,x ≠ "__name__" -> U x=bootBuiltins x) (L:c.heap.NoLimit) (hg:c.gens=#[])
 (T:∃j o,mg "__builtins__" = some (.ref j)/\j≠builtinsNs/\c.heap.get? j=some o/\o.cls=.type "module" /\ o.dict=some builtinsNs/\o.data=.plain) (D:TabAt K c.heap)
 (ha:c.heap.get? a=some { cls:=.type "list",data:=.seq vs.toArray }) (hi:IntsAre vs ns) (hl:ns.length<=sizeLine) (hr:Room k callerA)
 (F:∀base:Heap,K.In base->base.Ns mainGlobals mg->FnOk P w K mg base CX k fa fd [x] sp) (C:∀(s:Shared) (u:Value),BindsTo s fd ⟨[u],[]⟩ [(x,u)])
 (hsp:∀H:Hp,SqL K H a (ns.map V.int)->sp [.ref a] H (fun v _=>v=.bl true) fun _ _ _=>False)
 (W:∀H e s',CX [] H c (fun _ _ _=>False) e s'->False) :
 codeAny (model P w) callerA (.call (.ref fa) ⟨[.ref a],[]⟩) (fun r s'=>r=.ok (.ret (.bool true))/\OldK c.heap s'.heap/\s'.os=c.os/\AllBare s'.gens) c:=by
 have rv:=Xy hi;have E:=hi.length
 have Y:∀p∈Em K,p.1≠a:=fun p B z=>by
  have e:=(D.1 p B).1;rw[z,ha]at e;cases e
 have t:∀H:Hp,SqL K H a (ns.map V.int)->HOk P w H c.heap->(∀b u,H b=some u->(b=a/\K.lookup a=none/\∃o xs,u=.frz o (.lst xs))\/∃q,(b,q)∈Em K/\u=.tbl q)->(∀p∈Em K,H p.1=some (.tbl p.2)) ->
  codeAny (model P w) callerA (.call (.ref fa) ⟨[.ref a],[]⟩) (fun r s'=>r=.ok (.ret (.bool true))/\OldK c.heap s'.heap/\s'.os=c.os/\AllBare s'.gens) c:=by
  intro H hS G hA hH
  have f:∀{b:Addr} {o:Obj},c.heap.get? b=some o->H b=none->(Ws c.heap H).get? b=some o:=fun e n=>A7m e n
  have N:∀{b:Addr} {o:Obj},c.heap.get? b=some o->(∀x n,o.data≠.seq x n)->(∀x,o.data≠.fields x)->H b=none:=fun {b o} e d1 d2=>by
   cases q:H b with
   | none=>rfl
   | some u =>
    rcases hA b u q with ⟨z,_⟩ | ⟨y,O,_⟩
    ·rw[z,ha]at e;cases e;exact absurd rfl (d1 _ _)
    ·have g:=(D.1 _ O).1
     rw[e]at g;cases g;exact absurd rfl (d2 _)
  have l:∀{b:Addr} {m:Str->Option Value},c.heap.Ns b m->(Ws c.heap H).Ns b m:=fun {b m} ⟨o,es,ep,e,d,r⟩=>⟨o,es,ep,f e (N e (fun x n z=>by rw[d]at z;cases z) fun x z=>by rw[d]at z;cases z),d,r⟩
  have I:K.In (Ws c.heap H):=fun b o e=>f (KX b o e) (by
   cases q:H b with
   | none=>rfl
   | some u =>
    rcases hA b u q with ⟨z,z2,_⟩ | ⟨y,O,_⟩
    ·rw[z,z2]at e;cases e
    ·rw[(D.1 _ O).2.2]at e;cases e)
  have Z:∃j o,mg "__builtins__" = some (.ref j)/\j≠builtinsNs/\j≠mainGlobals/\(Ws c.heap H).get? j=some o/\o.cls=.type "module" /\ o.dict=some builtinsNs/\o.data=.plain:=by
   obtain⟨j,o,b1,b2,Q,b4,b5,M⟩:=T
   refine⟨j,o,b1,b2,fun z=>?_,f Q (N Q (fun x n z=>by rw[M]at z;cases z) fun x z=>by rw[M]at z;cases z),b4,b5,M⟩
   obtain⟨og,es,ep,e,d,_⟩:=hns;rw[z,e]at Q;cases Q;rw[d]at M;cases M
  have hM:Mod K mg (Ws c.heap H):=⟨I,l hns,⟨U,l hb,X⟩,(let ⟨mc,h1,h2⟩:=L; ⟨mc,l h1,h2⟩),Z⟩
  have e0:Env0 P w K mg (Ws c.heap H) callerA [] c H:=⟨rfl,hM,fun b o e=>Bd9 e,Nat.le_of_eq (A2h _ _),trivial,fun b hb=>absurd (show b∈([]:List Addr) from hb) (by simp),hH,G,.of_eq hg⟩
  refine codeAny_mono ((F _ I (l hns)).run callerA [] c H ⟨[.ref a],[]⟩ [.ref a] [.ref a] _ _ hr e0 (C c (.ref a)) (.cons rfl .nil) (hsp H hS)) fun r s' h=>?_
  cases r with
  | error e=>exact(W H e s' h).elim
  | ok fl =>
   cases fl with
   | next=>exact False.elim h
   | brk=>exact False.elim h
   | cont=>exact False.elim h
   | ret u =>
    obtain⟨v,H',os,J,R,A,r',q⟩:=h;have q':v=.bl true:=q;subst q';obtain rfl:u=Value.bool true:=r'
    refine⟨rfl,⟨fun b o e=>?_,fun b o e=>R.there b o e (by simp)⟩,os,J⟩
    cases q:H b with
    | none=>exact .inl (R.keep b o e q (by intro z;exact absurd (show b∈([]:List Addr) from z) (by simp)) (by simp))
    | some u =>
     rcases hA b u q with ⟨_,_,ob,xs,rfl⟩ | ⟨y,O,rfl⟩
     ·obtain⟨g,_⟩:=G b _ q
      obtain⟨e2,_⟩:=A b _ (R.frzs b ob _ q);rw[e]at g;cases g;exact .inl e2
     ·obtain⟨ps,e2,_⟩:=A b _ (R.tbls b y q)
      obtain⟨t1,t2,_⟩:=D.1 _ O;rw[e]at t1;cases t1
      exact .inr (.inl ⟨t2,rfl,#[],ps,rfl,by rw[e2];simp⟩)
 have i:∀(H:Hp) (p:Addr×Str),p∈Em K->z9 P w H _ _ (.tbl p.2):=fun H p B=>⟨#[],(D.1 p B).1,trivial,fun pos cv z=>by cases z⟩
 cases hk:K.lookup a with
 | some o =>
  have e:=KX a o hk;rw[ha]at e
  cases e
  refine t (fun b=>((Em K).lookup b).map .tbl) (.inr ⟨_,vs.toArray,_,hk,rfl,rfl,rfl,by rw[List.size_toArray,E];exact hl,by simpa using rv⟩) (fun b u z=>?_) (fun b u z=>?_) fun p B=>?_
  ·obtain⟨q,g,rfl⟩:=Option.map_eq_some_iff.mp z
   exact i _ _ (Jv g)
  ·obtain⟨q,g,rfl⟩:=Option.map_eq_some_iff.mp z
   exact .inr ⟨q,Jv g,rfl⟩
  ·rw[D.2 p B];rfl
 | none =>
  refine t (fun b=>if b=a then some (.frz { cls:=.type "list",data:=.seq vs.toArray } _) else ((Em K).lookup b).map .tbl) (.inl (.inr ⟨{ cls:=.type _,data:=.seq _ },if_pos rfl⟩)) (fun b u z=>?_) (fun b u z=>?_) fun p B=>?_
  ·by_cases hb:b=a
   ·have S:=(if_pos hb).symm.trans z
    cases S
    subst hb
    exact⟨ha,by rw[List.length_map];exact hl,vs,_,rv,ha⟩
   ·obtain⟨q,g,rfl⟩:=Option.map_eq_some_iff.mp ((if_neg hb).symm.trans z)
    exact i _ _ (Jv g)
  ·by_cases hb:b=a
   ·have S:=(if_pos hb).symm.trans z
    cases S
    exact .inl ⟨hb,hk,_,_,rfl⟩
   ·obtain⟨q,g,rfl⟩:=Option.map_eq_some_iff.mp ((if_neg hb).symm.trans z)
    exact .inr ⟨q,Jv g,rfl⟩
  ·rw[if_neg (Y p B),D.2 p B];rfl
end L2
namespace L2
open PySem PySem.Spec PyProof.Rows PySem.W
theorem Zy {f:Pos}{c:Value}:∀(l:List Value),TriplesOk l->TriplesOk (l++[rawInt f.line,rawInt f.col,c]):=fun l h=>by
 fun_induction TriplesOk l with
 | case1=>trivial
 | case2 a b c d e g i=>exact i h
 | case3=>trivial
theorem Al2 {g f:Pos}{c cv:Value}:∀(l:List Value),TriplesOk l->codeAmong f (l++[rawInt g.line,rawInt g.col,c])=some cv->codeAmong f l=some cv\/cv=c:=fun l h e=>by
 fun_induction TriplesOk l with
 | case1 =>
  simp only[List.nil_append,rawInt,codeAmong]at e
  grind
 | case2 a b c d k i j =>
  simp only[List.cons_append,codeAmong]at e ⊢
  grind
 | case3=>trivial
def Bt7 (H H':Hp):Prop:=H'=H\/∃c o,H c=none/\H'=upd H c (.frz o (.own 0))
abbrev Ap7 (qual:Str)(params:Arguments)(body:Expr)(scope:Scope)(cl:List (Str×Addr))(pm cv ctv:Value):Obj:={ cls:=.type "function",data:=.func (kla_fn "<lambda>" qual params body scope cl pm cv ctv) }
def LamCd (qual:Str)(cv:Value)(H:Hp):Prop:=∃c o vs t,cv=.ref c/\H c=some (.frz o (.own 0))/\o.data=.fields vs/\vs[1]?=some (.str qual t)
theorem LamCd.rec {P:Program}{w:World}{qual:Str}{cv:Value}{H:Hp}{h:Heap}(x:LamCd qual cv H)(b:HOk P w H h):h.CodeRec cv qual:=by
 obtain⟨c,o,i,t,e,a,d,f⟩:=x;obtain⟨g,_⟩:=b c _ a;exact⟨c,o,i,t,e,g,d,f⟩
section
variable {X:Cx}{pins:List (Addr×Obj)}{σ:St}{H:Hp}{s:Shared}
theorem Inv.grown {T c:Addr}{q:Str}{f:Obj}{h':Heap}{t':Nat}(I:Inv X pins σ H s)(w:H T=some (.tbl q))(k:∀b o,b≠T->s.heap.get? b=some o->h'.get? b=some o)(hc:s.heap.objs.size<=c)(ho:h'.get? c=some f)
 (j:z9 X.prog X.w (upd H c (.frz f (.own 0))) h' T (.tbl q)):Inv X pins σ (upd H c (.frz f (.own 0))) { s with heap:=h',toks:=t' }:=by
 have p:H c=none:=I.hok.fresh hc
 have a:∀b u,H b=some u->b≠c:=fun b u e=>Bv e p
 have i:∀b u,s.heap.get? b=some u->b≠c:=fun b u e z=>absurd (Heap.lt_size e) (by simp_all)
 have h:∀b,H b=none->b≠T:=fun b e z=>by rw[z,w]at e;cases e
 refine I.step (g':=s.gens) (d':=s.drawn) (ch:=[]) (fun _ z=>nomatch z) (fun b o _ _ _ e n=>k b o (h b n) e) (fun b o _ _ _ e n=>⟨o.slots,k b o (h b n) e⟩) (fun b o _ e n=>by rw[Ar (i b o e)];exact n) (fun b o _ e=>?_)
  (fun b l e=>by rw[Ar (a b _ e)];exact e) (fun b o u e=>by rw[Ar (a b _ e)];exact e) (fun b q e=>by rw[Ar (a b _ e)];exact e) (fun m x=>?_) (fun b u e=>?_) I.bare
 ·by_cases hb:b=T
  ·obtain⟨B,g,_⟩:=j
   simp_all
  ·exact⟨o,k b o hb e⟩
 ·obtain⟨o,t,y,e,r⟩:=x
  exact⟨o,t,y,k _ o (h _ I.free) e,r⟩
 ·by_cases hb:b=c
  ·rw[hb]at e ⊢
   rw[Ca]at e;cases e;exact⟨ho,f,ho⟩
  ·rw[Ar hb]at e
   by_cases hbT:b=T
   ·simp_all
   ·refine (I.hok b u e).stay (fun d v C z=>k d v ?_ z) (fun d z=>by rw[Ar (a d _ z)];exact z) (fun d l z=>by rw[Ar (a d _ z)];exact z) fun d A l z=>by rw[Ar (a d _ z)];exact z
    grind
theorem A3c {a:Arguments}{body:Expr}{scope:Scope}{N:Pos}{cl:List (Str×Addr)}{c T:Addr}{l:Str}{Q:Value->Shared->Prop}{A:Around}{E:Value->Shared->Prop}(I:Inv X pins σ H s)(hT:(T,l)∈Em X.K)(hC:codeHdIn X.K c T=true)(g:X.env.code=.ref c)
 (hq:X.env.qual ++ "<lambda>" = l) (w:defaultsOf a X.env=([],[])) (x:closureFor scope X.env=pure cl)
 (h:∀(f:Addr) (s':Shared) (H':Hp) (pm cv j:Value),Inv X (pins++[(f,Ap7 l a body scope cl pm cv j)]) σ H' s'->Bt7 H H'->LamCd l cv H'->Q (.ref f) s') :
 wpAny (model X.prog X.w) A (eval (.Lambda a body scope N) X.env) Q E s:=by
 have D:H T=some (.tbl l):=I.base.tbls T l (I.ok.tab (T,l) hT);obtain⟨ps,F,K,i⟩:=I.hok T _ D;have C:=codeHd_of_K I.kIn hC;have m:s.heap.Ns mainGlobals X.mg:=I.ok.mod.glob.keeps I.bk;obtain⟨Z,ob,b1,b2,b3,b4,b5,b6,b7⟩:=I.ok.mod.bmod;have k:=I.bk _ _ b4
 have M:mainGlobals≠T:=fun z=>by
  obtain⟨o,es,ep,e,d,_⟩:=m;rw[z,F]at e;cases e;cases d
 have O:Z≠T:=fun z=>by rw[z,F]at k;cases k;cases b5
 have Y:s.heap.BuiltinsAt X.mg T:=⟨Z,ob,b1,b2,b3,O,k,b5,b6,b7⟩
 have q:∀{n:Heap} {H':Hp} {y:Nat} {o:Obj},Inv X _ σ H' { s with heap:=n,toks:=y }->o.isFreed=false->(∀v,o.data≠.cell v)->Inv X (pins++[(n.objs.size,o)]) _ _ _:=fun {n H' y o} J R G=>by
  have f:=J.fpOk  (Nat.le_refl _) (J.hok.fresh (Nat.le_refl _))
  have J2:Inv X _ _ _ { s with heap:=n.push o,toks:=y }:=J.kept  fun b u e=>Heap.get?_push_of_some _ e
  refine J2.pins_of fun p hp=>?_
  rcases List.mem_append.mp hp with z | z
  ·exact J2.pin p (List.mem_append_right _ z)
  ·rw[List.mem_singleton.mp z]
   exact⟨Heap.get?_push_size _ R,f.1,f.2.1,f.2.2.1,G⟩
 refine kla_eval w ?_
 rw[hq]
 cases hf:codeAmong _ _ with
 | none =>
  refine kla_makeFunction  x I.ok.glob m g C F K hf M Y fun S j n y hx r hlt B U=>?_
  obtain⟨c2,P,vs,t,L,V,G,hv⟩:=B
  cases L
  have hn  := I.hok.fresh r
  refine h _ _ _ _ _ _ (q (I.grown  D (fun b o hb e=>hx b o hb e) r V ?_) rfl fun v z=>by cases z) (.inr ⟨S,P,hn,rfl⟩) ⟨S,P,vs,t,rfl,Ca,G,hv⟩
  refine⟨_,U,by rw[Array.toList_append];exact Zy _ K,fun pos' cv z=>?_⟩
  rw[Array.toList_append]at z
  rcases Al2 _ K z with z | rfl
  ·obtain⟨d,o,W,t',e1,L,e3⟩:=i _ _ z
   exact⟨d,o,W,t',e1,by rw[Ar (Bv L hn)];exact L,e3⟩
  ·exact⟨S,P,vs,t,rfl,Ca,G,hv⟩
 | some cv =>
  refine kla_makeFunctionHit  x I.ok.glob m g C F K hf Y fun j n y hk hsz=>?_
  exact h _ _ H _ _ _ (q (I.kept  hk) rfl fun v z=>by cases z) (.inl rfl) (i _ _ hf)
abbrev Xe (X:Cx)(N':List Str)(scope:Scope)(cl:List (Str×Addr))(qual:Str)(f:Addr)(cv:Value)(s:Shared)(H:Hp):Cx :=
 { X with
  A:=X.A.in1.in1.deeper (envX qual scope s.heap.objs.size f cv cl),N:=N',s₀:=s,H₀:=H,env:=envX qual scope s.heap.objs.size f cv cl,outer:=X.stack,stack:=envX qual scope s.heap.objs.size f cv cl::X.stack,
  ex:=[],fn:=fun _=>false,calm:=true,pn:=[],xe:=fun _ _=>False }
theorem Ba2 {N':List Str}{idx:List (Option Nat)}{scope:Scope}{cl:List (Str×Addr)}{qual x:Str}{f:Addr}{cv u:Value}{v:V}{h₁:Heap}{t':Nat}(L:Qc X (x::N') (none::idx) scope)(hx:scope.names.lookup x=some .local)(hd:X.A.handled=none)(I:Inv X pins σ H s)
 (c1:∀x c,cl.lookup x=some c->X.env.cells.lookup x=some c/\(x,NameKind.free)∈scope.names) (c2:∀x,(x,NameKind.free)∈scope.names->∃c,cl.lookup x=some c) (r:RelV v u)
 (k:∀b o,s.heap.get? b=some o->h₁.get? b=some o) (hn:h₁.Ns s.heap.objs.size (fun y=>[(x,u)].reverse.lookup y)) :
 Inv (Xe X (x::N') scope cl qual f cv s H) [] (some v::cst idx σ) H { s with heap:=h₁,toks:=t' } where
 ok:={
  mod:=I.ok.mod,kind:=L.kind,glob:=rfl,blt:=rfl,above:=Nat.le_refl _,inj:=fun y z c e1 e2=>I.ok.inj y z c (c1 y c e1).1 (c1 z c e2).1
  has:=fun y h=>by
   have h':scope.names.lookup y=some .cell\/scope.names.lookup y=some .free:=h
   rcases h' with h | h
   ·exact absurd rfl (L.cell _ (lookup_mem h))
   ·exact c2 y (lookup_mem h)
  cab:=(fun y c z=>nomatch z),hd:=fun _=>hd,frames:=Around.frames_deeper I.ok.frames,stk:=.inr ⟨rfl,rfl⟩,exf:=(fun b z=>nomatch z),bs:=I.bs,bsz:=Nat.le_trans I.ok.bsz I.sz,noex:=(fun _ _ _ z=>nomatch z),exfs:=(fun _ z=>nomatch z)
  funs:=I.stack,frf:=I.stkFree,tab:=fun p hp=>I.base.tbls p.1 p.2 (I.ok.tab p hp) }
 os:=rfl
 bare:=I.bare
 base:=Un.kept k
 loc:=by
  refine⟨_,hn,fun j y w e1 e2 e3=>?_⟩
  cases j with
  | zero =>
   cases (show some x=some y from e1)
   cases (show some (some v)=some (some w) from e2)
   exact⟨u,r,.inl ⟨hx,by simp⟩⟩
  | succ j =>
   obtain⟨m0,hn0,hl⟩:=I.loc
   have e2':(idx.map fun o=>o.bind fun i=>(σ[i]?).join)[j]?=some (some w):=e2
   rw[List.getElem?_map]at e2'
   cases ei:idx[j]? with
   | none=>rw[ei]at e2';cases e2'
   | some o =>
    rw[ei]at e2';simp only[Option.map_some,Option.some.injEq]at e2'
    cases o with
    | none=>cases e2'
    | some i =>
     have e2'':(σ[i]?).join=some w:=e2';obtain⟨hNi,hfr⟩:=L.at' (j+1) i y e1 ei
     have hσ:σ[i]?=some (some w):=by
      cases q:σ[i]? with
      | none=>rw[q]at e2'';cases e2''
      | some z=>rw[q]at e2'';rw[show z=some w from e2'']
     have hk:=L.free _ (lookup_mem hfr) rfl
     have hvis:Vis X.env.scope y:=by
      rcases hk with z | z
      ·exact .inr (.inl z)
      ·exact .inr (.inr z)
     obtain⟨u',r',lk⟩:=hl i y w hNi hσ hvis
     refine⟨u',r',.inr ⟨.inr hfr,?_⟩⟩
     rcases lk with ⟨z,_⟩ | ⟨_,c,hc,hcl⟩
     ·exfalso
      have z':X.env.kindOf y=some .local:=z
      rcases hk with q | q
      ·rw[show X.env.kindOf y=_ from q]at z';cases z'
      ·rw[show X.env.kindOf y=_ from q]at z';cases z'
     ·obtain⟨c',hc'⟩:=c2 y (lookup_mem hfr)
      have ec:c'=c:=Option.some.inj ((c1 y c' hc').1.symm.trans hc);obtain⟨oc,g1,g2⟩:=hcl
      exact⟨c',hc',oc,by rw[ec];exact k _ _ g1,g2⟩
 cell:=fun y c e=>by
  obtain⟨w,oc,g1,g2⟩:=I.cell y c (c1 y c e).1;exact⟨w,oc,k _ _ g1,g2⟩
 free:=I.hok.fresh (Nat.le_refl _)
 freeC:=fun y c e=>I.freeC y c (c1 y c e).1
 pin:=fun p hp=>nomatch hp
 hok:=I.hok.kept k
 len:=by
  show (some v::idx.map _).length=(x::N').length
  have:=L.len;rw[List.length_cons,List.length_cons]at this;rw[List.length_cons,List.length_map,List.length_cons];exact this
theorem Ba8 {k:Nat}{N':List Str}{idx:List (Option Nat)}{a:Arguments}{body:Expr}{scope:Scope}{i:List (Str×Addr)}{qual x:Str}{f:Addr}{B cv j u:Value}{v:V}{A:TE}{Q:VK}(L:Qc X (x::N') (none::idx) scope)(hx:scope.names.lookup x=some .local)
 (n:scope.isCoroutine=false) (l:scope.isGenerator=false) (g:bindArgs (kla_fn "<lambda>" qual a body scope i B cv j) ⟨[u],[]⟩=pure [(x,u)]) (hr:Room (k+3) X.A)
 (hb:QE (Xe X (x::N') scope i qual f cv s H) body A) (I:Inv X pins σ H s) (ho:s.heap.get? f=some (Ap7 qual a body scope i B cv j)) (hcd:s.heap.CodeRec cv qual)
 (c1:∀x c,i.lookup x=some c->X.env.cells.lookup x=some c/\(x,NameKind.free)∈scope.names) (c2:∀x,(x,NameKind.free)∈scope.names->∃c,i.lookup x=some c) (r:RelV v u) (h:A (some v::cst idx σ) H Q) :
 wpAny (model X.prog X.w) X.A.in1.in1 (call (.ref f) [u]) (EP X pins σ fun v H'=>(∀b o u,H b=some (.frz o u)->H' b=some (.frz o u))/\Q v H') (fun _ _=>False) s:=by
 refine wpAny_call ?_
 refine kla_callFunE hr.in1.in1.depth ho rfl n l rfl hcd ?_
 rw[g]
 refine wpAny_pure (wpAny_newFunctionEnv L.cell fun y J=>by simp_all (fun w t p=>?_) L.kind)
 have d  := fun b o e=>p.extBut b o (Nat.ne_of_lt (Heap.lt_size e)) (Heap.get?_push_of_some _ e)
 refine⟨I.nolimit.keeps d,?_⟩
 refine kla_codeExpr (wpAny_mono (hb.get _ _ _ H Q (Ba2 (qual:=qual) (f:=f) (cv:=cv) (t':=s.toks+[(x,u)].length) L hx hr.hd I c1 c2 r d t) h) (fun F G C=>?_) fun _ _ z=>z.elim)
 obtain⟨E,H',m,D,q⟩:=C;exact I.after ⟨E,H',m.os,m.bare,m.base,m.hok,D,m.base.frzs,q⟩
end
section
variable {X:Cx}{p pos lpos kpos:Pos}{e:Expr}{t:TA}
def A3r (K:PySem.W.Frag)(idx:List (Option Nat))(te:TE)(t:TA):TE:=fun σ H Q=>t σ H fun vs H1=>∃a xs,vs=[.ref a]/\∀H2,Bt7 H1 H2->(SqL K H2 a xs\/SqT K H2 a xs)/\Tf (fun x H Q=>te (some x::cst idx σ) H Q) xs [] H2 (fun ks H3=>Wz xs ks H3 Q)
theorem A5l {k:Nat}{N':List Str}{idx:List (Option Nat)}{b:Arguments}{body:Expr}{scope:Scope}{w x:Str}{c T:Addr}{K:TE}(hT:(T,w)∈Em X.K)(Z:codeHdIn X.K c T=true)(j:X.env.code=.ref c)(hr:Room (k+3) X.A)
 (hg:Gl X "sorted") (hm:X.mg "sorted" = none) (ha:PA X [e] t) (L:Qc X (x::N') (none::idx) scope) (hb:∀f A n s H,Room k (Xe X (x::N') scope n w f A s H).A->QE (Xe X (x::N') scope n w f A s H) body K)
 (hx:scope.names.lookup x=some .local:=by rfl) (M:scope.isCoroutine=false:=by rfl) (C:scope.isGenerator=false:=by rfl) (B:X.env.qual ++ "<lambda>" = w:=by rfl) (D:defaultsOf b X.env=([],[]):=by rfl)
 (l:∀n F A m u,bindArgs (kla_fn "<lambda>" w b body scope n F A m) ⟨[u],[]⟩=pure [(x,u)]:=by exact fun _ _ _ _ _=>rfl)
 (he:backTo pos (starEach [e] X.env)=(false,eval e X.env)::backTo pos (starEach [] X.env):=by rfl) (hpl:(backTo pos (starEach [e] X.env)).any (·.1)=false:=by rfl) :
 PE X (.Call (.Name "sorted" p) [e] [⟨some "key",.Lambda b body scope lpos,kpos⟩] pos) (A3r X.K idx K t):=by
 intro g s V H Q I h
 refine wpAny_Call_Name_kw (Jh I hg hm boot_sorted ?_ (by decide) (by rfl))
 refine PyProof.Rows.callWith_kw (thn (ha pos g s V H _ I h) fun us Y ⟨S,H1,W,r,q⟩=>?_) he hpl rfl rfl
 obtain⟨n,i,c1,c2⟩:=Ov (env:=X.env) (scope:=scope) fun y hy hf=>W.ok.has y.1 (L.free y hy hf)
 show wpAny _ _ (evalAll [do let v <- eval (.Lambda b body scope lpos) X.env;standAt pos;pure v]) _ _ Y
 refine wpAny_evalAll_cons (wpAny_bind (A3c W hT Z j B D i fun f s2 H2 F A m I2 hl N=>wpAny_bind (wpAny_standAt (wpAny_pure (wpAny_evalAll_nil ?_)))))
 obtain⟨a,xs,rfl,q⟩:=q;obtain⟨hs,hw⟩:=q H2 hl;obtain⟨u,rfl,ru⟩:=vals1 r
 cases (show u=Value.ref a from ru)
 have J:Bu1 X (g++[(f,Ap7 w b body scope n F A m)]) V f (LamCd _ _) (fun x H Q=>K _ H Q):=fun G s H x u Q' I U r hk=>by
  refine wpAny_mono (Ba8 L hx M C (l _ _ _ _ u) hr (hb f _ _ s H (hr.in1.in1.deeper _)) I ((I.pin _ (List.mem_append_right _ (List.mem_append_left _ (List.mem_append_right _ List.mem_cons_self)))).1) (U.rec I.hok) c1 c2 r hk) (fun u' s' B=>?_) fun _ _ z=>z
  obtain⟨P,O,E,R,fz,q⟩:=B;obtain⟨c0,o,S,t0,e,hc,d⟩:=U;exact⟨P,O,E,R,⟨c0,o,S,t0,e,fz _ _ _ hc,d⟩,q⟩
 refine thn (Up  J hr I2 N hs hw) fun u s3 B=>?_
 obtain⟨P,O,E,R,q⟩:=B
 exact⟨P,O,E.pins_of fun p hp=>E.pin p (List.mem_append_right _ (List.mem_append_left _ hp)),R,q⟩
theorem A4f {Kq:PySem.W.Frag}(j:X.K=Kq){k:Nat}{N':List Str}{idx:List (Option Nat)}{a:Arguments}{body:Expr}{scope:Scope}{g x:Str}{c T:Addr}{m:TE}(n:(T,g)∈Em X.K)(q:codeHdIn X.K c T=true)(b:X.env.code=.ref c)(hr:Room (k+3) X.A)
 (hg:Gl X "sorted") (hm:X.mg "sorted" = none) (ha:QA X [e] t) (L:Qc X (x::N') (none::idx) scope) (hb:∀f cv cl s H,Room k (Xe X (x::N') scope cl g f cv s H).A->QE (Xe X (x::N') scope cl g f cv s H) body m)
 (hx:scope.names.lookup x=some .local:=by rfl) (l:scope.isCoroutine=false:=by rfl) (i:scope.isGenerator=false:=by rfl) (o:X.env.qual ++ "<lambda>" = g:=by rfl) (h:defaultsOf a X.env=([],[]):=by rfl)
 (d:∀cl pm cv ctv u,bindArgs (kla_fn "<lambda>" g a body scope cl pm cv ctv) ⟨[u],[]⟩=pure [(x,u)]:=by exact fun _ _ _ _ _=>rfl)
 (he:backTo pos (starEach [e] X.env)=(false,eval e X.env)::backTo pos (starEach [] X.env):=by rfl) (hpl:(backTo pos (starEach [e] X.env)).any (·.1)=false:=by rfl) :
 QE X (.Call (.Name "sorted" p) [e] [⟨some "key",.Lambda a body scope lpos,kpos⟩] pos) (A3r Kq idx m t):=by
 subst j;exact⟨A5l n q b hr hg hm ha.get L hb hx l i o h d he hpl⟩
end
theorem Fun.okL {P:Program}{w:World}{K:PySem.W.Frag}{mg:Str->Option Value}{base:Heap}{x qual:Str}{st:Stmt}{f:Addr}{i:FuncData}{N ps:List Str}{k:Nat}{sp:Sp}(F:Fun K x qual st f i)(S:Bk N ps (Aq st))(e:∀vs H Q E,sp vs H Q E->vs.length=ps.length)
 (c:∀(b:Value) (A:Around) (a:List Env) (s:Shared) (H:Hp) (vs:List V) (Q:VK) (E:XK),i.code=b->Room k (A.deeper (envOfC qual (Aq st) s.heap.objs.size f b))->sp vs H Q E ->
  ∃t,PSs (Mx CX0 P w K mg base N qual (Aq st) f b A a s H E).nox (Hc st) t/\t { nx:=fun _ H'=>Q .non H',rt:=Q } (start N vs) H):FnOk P w K mg base CX0 (k+1) f i ps sp:=by
 obtain⟨oc,od,kV,j,pm,an,b,ct,l,rfl,m,g⟩:=F.ex
 refine A8j m g S e fun A a s H vs Q E n d=>?_
 obtain⟨t,h,q⟩:=c b A _ s H _ Q E rfl n d;exact⟨t,h.nox,q⟩
def Hj (o:Obj):Bool:=match o.data with
 | .cell _=>false
 | _=>true
def sel (h:Heap)(tabs:List (Addr×Addr×Str))(a:Addr):Option Obj:=(h.get? a).bind fun o=>if (Hj o&&!(tabs.any fun t=>t.2.1==a))=true then some o else none
def Qz (h:Heap)(tabs:List (Addr×Addr×Str)):Frag:=((List.range h.objs.size).filterMap fun a=>(sel h tabs a).map fun o=>(a,o))++tabs.map fun t=>(t.1,Av9 t.2.1 t.2.2)
theorem Nu {f:Nat->Option Obj}{b:Nat}:∀{l:List Nat},(l.filterMap fun a=>(f a).map fun o=>(a,o)).lookup b=if b∈l then f b else none
 | []=>by simp
 | a::l=>by
  rw[List.filterMap_cons]
  by_cases e:b=a
  ·subst e
   rw[if_pos List.mem_cons_self]
   cases q:f b with
   | none =>
    simp only[Option.map_none];rw[Nu]
    split
    ·exact q
    ·rfl
   | some o=>simp
  ·have h1:(b∈a::l)=(b∈l):=by simp[e]
   simp only[h1]
   cases q:f a with
   | none=>simp only[Option.map_none];exact Nu
   | some o =>
    simp only[Option.map_some];rw[List.lookup_cons]
    have:(b==a)=false:=by simp[e]
    rw[this];exact Nu
section
variable {h:Heap}{tabs:List (Addr×Addr×Str)}
theorem Pr   (e:sel h tabs a=some o):h.get? a=some o/\Hj o=true/\∀t∈tabs,t.2.1≠a:=by
 obtain⟨c,d,b⟩:=Option.bind_eq_some_iff.mp e
 grind
theorem Bv4   (e:h.get? a=some o) (hp:Hj o=true) (hn:∀t∈tabs,t.2.1≠a):sel h tabs a=some o:=by
 unfold sel
 grind
theorem O2   (e:sel h tabs a=some o):(Qz h tabs).lookup a=some o:=by
 unfold Qz;rw[List.lookup_append,Nu,if_pos (List.mem_range.mpr (Heap.lt_size (Pr e).1)),e];rfl
theorem Uo {a:Addr}{o:Obj}:∀{tabs:List (Addr×Addr×Str)},(tabs.map fun t=>(t.1,Av9 t.2.1 t.2.2)).lookup a=some o->∃t∈tabs,t.1=a
 | [],e=>by cases e
 | t::r,e=>by
  rw[List.map_cons,List.lookup_cons]at e
  split at e
  ·rename_i z
   exact⟨t,List.mem_cons_self,by simpa using (eq_comm.mp (by simpa using z))⟩
  ·obtain⟨t',h1,h2⟩:=Uo e
   exact⟨t',List.mem_cons_of_mem _ h1,h2⟩
theorem B0p (ht:∀t∈tabs,CodeHd h t.1 t.2.1/\h.get? t.2.1=some { cls:=.none,data:=.fields #[] })(D:∀t∈tabs,(tabs.map fun t=>(t.2.1,t.2.2)).lookup t.2.1=some t.2.2) :
 (Qz h tabs).In h/\TabAt (Qz h tabs) h/\(∀t∈tabs,codeHdIn (Qz h tabs) t.1 t.2.1=true/\(t.2.1,t.2.2)∈Em (Qz h tabs))/\∀a o,h.get? a=some o->Hj o=true->o.data≠.fields #[]->(Qz h tabs).lookup a=some o:=by
 have g:∀a o,h.get? a=some o->Hj o=true->o.data≠.fields #[]->sel h tabs a=some o:=fun a o e d j=>Bv4 e d fun t m z=>by
  have:=(ht t m).2;rw[z,e]at this;cases this;exact j rfl
 have code:∀t∈tabs,∃o i,h.get? t.1=some o/\o.cls=.type "code" /\ o.data=.fields i/\i[11]?=some (.ref t.2.1)/\sel h tabs t.1=some o:=fun t m=>by
  obtain⟨o,i,_,_,_,_,_,_,_,w,v,l,u,_⟩:=(ht t m).1
  refine⟨o,i,w,v,l,u,g t.1 o w (by unfold Hj;rw[l]) fun z=>?_⟩
  rw[l]at z
  injection z with z
  rw[z]at u;simp at u
 have c:∀{a:Addr} {o:Obj},(Qz h tabs).lookup a=some o->sel h tabs a=some o:=fun {a o} e=>by
  cases q:sel h tabs a with
  | some y=>rw[O2 q]at e;exact e
  | none =>
   unfold Qz at e;rw[List.lookup_append,Nu]at e
   have F:(if a∈List.range h.objs.size then sel h tabs a else none)=none:=by
    split
    ·exact q
    ·rfl
   rw[F]at e
   obtain⟨t,m,z⟩:=Uo (show (tabs.map fun t=>(t.1,Av9 t.2.1 t.2.2)).lookup a=some o from e)
   obtain⟨_,_,_,_,_,_,s⟩:=code t m;rw[z,q]at s;cases s
 have k:Em (Qz h tabs)=tabs.map fun t=>(t.2.1,t.2.2):=by
  unfold Em Qz;rw[List.filterMap_append]
  have x:((List.range h.objs.size).filterMap fun a=>(sel h tabs a).map fun o=>(a,o)).filterMap (fun p=>V9 p.2)=[]:=by
   rw[List.filterMap_eq_nil_iff];intro p d;obtain⟨a,_,e⟩:=List.mem_filterMap.mp d;obtain⟨o,x,rfl⟩:=Option.map_eq_some_iff.mp e;have j:=(Pr x).2.1
   show V9 o=none
   unfold V9;unfold Hj at j
   split
   ·rename_i z;rw[z]at j;cases j
   ·rfl
  have Q:(tabs.map fun t=>(t.1,Av9 t.2.1 t.2.2)).filterMap (fun p=>V9 p.2)=tabs.map fun t=>(t.2.1,t.2.2):=by
   clear g c code D ht x
   induction tabs with
   | nil=>rfl
   | cons t r S =>
    rw[List.map_cons,List.filterMap_cons]
    show (t.2.1,t.2.2)::_=_
    rw[S];rfl
  rw[x,Q,List.nil_append]
 have B:(Qz h tabs).In h:=fun a o e=>(Pr (c e)).1
 refine⟨B,⟨fun p d=>?_,fun p d=>?_⟩,fun t m=>⟨?_,?_⟩,fun a o e d j=>O2 (g a o e d j)⟩
 ·rw[k]at d
  obtain⟨t,m,rfl⟩:=List.mem_map.mp d;obtain⟨o,i,w,v,l,u,_⟩:=code t m
  refine⟨(ht t m).2,⟨t.1,o,i,w,v,l,u⟩,?_⟩
  cases q:(Qz h _).lookup _ with
  | none=>rfl
  | some y=>exact absurd rfl ((Pr (c q)).2.2 t m)
 ·rw[k]at d ⊢
  obtain⟨t,m,rfl⟩:=List.mem_map.mp d;exact D t m
 ·obtain⟨o,i,_,v,l,_,s⟩:=code t m
  obtain⟨y,G,f,tf,fl,tg,b,n,tt,J,K,L,M,g5,I,N,H,P,A⟩:=(ht t m).1;have O  := Option.some.inj (J.symm.trans (Pr s).1);subst O;obtain⟨R,od,C,E⟩:=y
  cases (show R=Value.type _ from K)
  cases (show C=Data.fields _ from L)
  unfold codeHdIn;rw[(O2 s)];simp only[M,I,N,H,P]
  simp[A]
 ·rw[k];exact List.mem_map.mpr ⟨t,m,rfl⟩
end
section
variable {q:Program}{loose:List Str}{mean:ExcName->Option Value}{mg mb:Str->Option Value}{h:Heap}{K:Frag}
theorem A1s   (j:∀a o,h.get? a=some o->Hj o=true->o.data≠.fields #[]->K.lookup a=some o) (c:h.CodeRec f x):codeIn K f x=true:=by
 obtain⟨a,o,b,t,rfl,g,d,e⟩:=c
 have k:=j a o g (by unfold Hj;rw[d]) fun z=>by grind
 obtain⟨oc,od,m,i⟩:=o
 show (match K.lookup a with
  | some ⟨_,_,.fields b,_⟩=>match b.toList with | _::.str n _::_=>n==x | _=>false
  | _=>false)=true
 obtain⟨l⟩:=b
 match l,e with
 | _::.str n u::_,e =>
  simp_all
theorem Bg0 (T:Top q loose mean mg mb h)(i:∀a o,h.get? a=some o->Hj o=true->o.data≠.fields #[]->K.lookup a=some o)  {st:Stmt}(hd:d∈recsOf q) (w:d.params=La st) (l:d.body=Hc st) (m:d.scope=Aq st) :
 ∃f fd,Fun K d.name d.name st f fd/\mg d.name=some (.ref f):=by
 obtain⟨a,o,e,b,c,n,p,r,s⟩:=T.fn d hd
 have k:=i a o p (by unfold Hj;grind) fun z=>by simp_all
 obtain⟨t,u,v,g⟩:=o
 cases (r)
 have j:PySem.Calls.docDef d.name d.params d.body d.scope e b c=fnOf d.name d.name (La st) (Hc st) (Aq st) .none .none c e none b .none:=by rw[w,l,m];rfl
 refine⟨a,_,⟨⟨t,u,.none,c,e,none,b,.none,g,j,k,A1s i s⟩,?_⟩,n⟩
 unfold keepIn
 grind
theorem Bi2 (T:Top q loose mean mg mb h){d:DefRec}(hd:d∈recsOf q):∃c P:Addr,CodeHd h c P/\h.get? P=some { cls:=.none,data:=.fields #[] }/\∀f o b,mg d.name=some (.ref f)->h.get? f=some o->o.data=.func b->b.code=.ref c:=by
 obtain⟨a,o,b,c,P,m,j,p,k,g,e⟩:=T.tab d hd
 refine⟨c,P,CodeHd.of g e,e.2,fun f n i r s l=>?_⟩
 simp_all
def A6g (q:Program)(loose:List Str)(RN:List Str)(x:Str):Bool:=!startupNames.contains x&&!loose.contains x&&!RN.contains x&&!((litsOf q).map (·.1)).contains x&&!((clssOf q loose).map (·.name)).contains x
theorem Dr (T:Top q loose mean mg mb h){a bs:List Str}(f:(recsOf q).map (·.name)=a)(hb:bs.all (A6g q loose a)=true)  (hx:x∈bs):mg x=none:=by
 have:=List.all_eq_true.mp hb x hx;unfold A6g at this;simp only[Bool.and_eq_true,Bool.not_eq_true',List.contains_eq_mem,decide_eq_false_iff_not]at this;obtain⟨⟨⟨⟨d,c⟩,g⟩,e⟩,b⟩:=this
 exact T.free x d c (by grind) e b
end
theorem Aj7   (a:(recsOf q).map (fun d=>(d.name,d.params,d.body,d.scope))=L) {i:Nat}  (e:L[i]?=some x) :
 ∃d,d∈recsOf q/\d.name=x.1/\d.params=x.2.1/\d.body=x.2.2.1/\d.scope=x.2.2.2:=by
 grind
theorem Cy   (a:(recsOf q).map (fun d=>(d.name,d.params,d.body,d.scope))=L):(recsOf q).map (·.name)=L.map (·.1):=by
 rw[<- a,List.map_map];rfl
theorem A8k {K:Frag}{h:Heap}{x qual:Str}{st:Stmt}{f:Addr}{a:FuncData}{v:Value}{mg:Str->Option Value}(F:Fun K x qual st f a)(b:K.In h)(hc:∀f o a,mg x=some (.ref f)->h.get? f=some o->o.data=.func a->a.code=v)(hm:mg x=some (.ref f)):a.code=v:=by
 obtain⟨j,p,m,g,k,l,d,n,i,e,c,_⟩:=F.ex;exact hc f _ _ hm (b _ _ c) rfl
theorem A8p {K:Frag}  {st:Stmt}   (F:Fun K x qual st f c) (h:∀(d a e:Value) (i:Option Addr) (b g:Value) (s:Shared) (u:Value),BindsTo s (fnOf x qual (La st) (Hc st) (Aq st) .none d a e i b g) ⟨[u],[]⟩ [(y,u)]):∀(s:Shared) (u:Value),BindsTo s c ⟨[u],[]⟩ [(y,u)]:=by
 obtain⟨m,n,d,a,e,i,b,g,j,k,l,_⟩:=F.ex
 simp_all
section
variable {X:Cx}{pins:List (Addr×Obj)}{σ:St}{H:Hp}{s:Shared}{D:Addr}{e1:Nat}{Q:VK}{P:PySem.Fin->Shared->Prop}{E:Value->Shared->Prop}{A:Around}
theorem Va {ous:List Value}{outs:List V}{st:SortSt}(hD:X.s₀.heap.objs.size<=D)(hp:∀p∈X.pn++pins,p.1≠D)(I:Inv X (pins++[(D,seqObj "list" #[] e1)]) σ H s) (hz:outs.length<=sizeLine)
 (ho:(arrOf st).map (·.2)=List.toArray ous) (hf:failedOf st=none) (rv:Vals outs ous) (q:∀l,H l=none->Q (.ref l) (upd H l (.lst outs))) (hP:∀s',EP X pins σ Q (.ref D) s'->P (.done (.ret .none)) s') :
 wpAny (model X.prog X.w) A (do
  let sorted:=(arrOf st).map (·.2)
  let touched:=(<- seqEpoch D) != e1
  Builtin.List.listUpdate (.ref D) fun _=>sorted
  if let some e:=failedOf st then rule "list.sort.comparison-raised";throw e
  if touched then rule "list.sort.modified";raiseError "ValueError" "list modified during sort"
  ret .none) P E s:=by
 obtain⟨pd1,pd2,pd3,pd4,pd5⟩:=I.pin (D,seqObj "list" #[] e1) (List.mem_append_right _ (List.mem_append_right _ List.mem_cons_self))
 have cel:∀x c,X.env.cells.lookup x=some c->c≠D:=fun x c e z=>by
  obtain⟨v,ob,ho,hdc⟩:=I.cell x c e;rw[z,pd1]at ho;cases ho;exact pd5 v hdc
 have I0:Inv X pins σ H s:=I.pins_of fun p hp=>I.pin p (List.mem_append_right _ (List.mem_append_left _ hp))
 obtain⟨n2,gD2⟩:∃n2,(s.heap.update D (Obj.mapSeq fun _=>ous.toArray)).get? D=some (seqObj "list" ous.toArray n2):=⟨_,get?_update_seq pd1 fun _=>ous.toArray⟩
 have hlen:=rv.length
 dsimp only
 rw[ho]
 refine wpAny_bind (seqEpoch_at pd1 rfl ?_)
 refine wpAny_bind (listUpdate_at pd1 rfl ?_ (Nat.zero_le _) (by rw[List.size_toArray];omega))
 rw[hf];simp only[bne_self_eq_false,Bool.false_eq_true,if_false]
 refine wpAny_pure (hP _ ⟨.ref D,upd H D (.lst outs),?_,rfl,q D pd2⟩)
 exact I0.adopt (t':=s.toks) (fun b u hb e=>(Heap.get?_update_other _ _ (Ne.symm hb)).trans e) pd2 pd3 hD cel hp ⟨hz,ous,n2,rv,gD2⟩
theorem As8 {a:Addr}{vs:List V}(hu:X.A.units+80<cLine)(I:Inv X pins σ H s)(hq:SqL X.K H a vs\/SqT X.K H a vs)(h:Wz vs vs H Q) :
 wpAny (model X.prog X.w) X.A (call (.builtin "sorted") [.ref a]) (EP X pins σ Q) E s:=by
 obtain⟨us,T,o,n,rv,hT,ho,hcl,hd,hz⟩:∃(us:List Value) (T:String) (o:Obj) (n:Nat),Vals vs us/\(T = "list" \/ T = "tuple")/\s.heap.get? a=some o/\o.cls=.type T/\o.data=.seq us.toArray n/\vs.length<=sizeLine:=by
  rcases hq with hq | hq
  ·obtain⟨us,rv,⟨o,n,g1,g2,g3,g4⟩,hz⟩:=I.list hq
   exact⟨us, "list",o,n,rv,.inl rfl,g1,g2,by first | exact g3 | exact g4,hz⟩
  ·obtain⟨us,rv,it,hz⟩:=I.tuple hq
   obtain⟨o,g1,g2,n,g3⟩:=it;exact⟨us, "tuple",o,n,rv,.inr rfl,g1,g2,g3,hz⟩
 have hlen:=rv.length
 refine Calls.call_function_entry kind_sorted plain_sorted entry_sorted (args_sorted1 _) ?_
 unfold Builtin.«sorted»
 refine wpAny_bind (m:=checkCount "sorted" 1 1 _) (wpAny_pure ?_)
 refine wpAny_bind (wpAny_collect_seq a hT ho hcl hd (fun g kg=>?_) (by rw[List.size_toArray];omega))
 refine wpAny_bind (wpAny_newList ?_ (by simp;omega))
 have I1:Inv X pins σ H { s with heap:=g }:=I.kept (t':=s.toks) kg
 have lo:X.s₀.heap.objs.size<=g.objs.size:=I1.sz;generalize hg1:g.push (seqObj "list" us.toArray 0)=g1
 have e1:g1.objs.size=g.objs.size+1:=by rw[<- hg1,size_push']
 have gD:g1.get? g.objs.size=some (seqObj "list" us.toArray 0):=by rw[<- hg1];exact Heap.get?_push_size _ rfl
 refine wpAny_bind (wpAny_holding (wpAny_call_entry slot_list_sort ⟨_,gD,rfl⟩ entry_list_sort ?_ (args_list_sort _)))
 show wpAny (model X.prog X.w) X.A.in1.in1 (Builtin.«list.sort» ⟨[.ref g.objs.size],[]⟩) _ _ _
 rw[list_sort_plain]
 refine wpAny_bind (listItems_at gD rfl ?_)
 refine wpAny_bind (listUpdate_at gD rfl ?_ (by rw[List.size_toArray];omega) (Nat.zero_le _))
 generalize hg2:g1.update g.objs.size (Obj.mapSeq fun _=>(#[]:Array Value))=g2
 obtain⟨n1,gD1⟩:∃n1,g2.get? g.objs.size=some (seqObj "list" #[] n1):=⟨_,by rw[<- hg2];exact get?_update_seq gD fun _=>#[]⟩
 refine wpAny_bind (seqEpoch_at gD1 rfl ?_)
 refine wpAny_bind (wpAny_newTuple ?_ (by simp;omega))
 refine wpAny_bind (wpAny_newList ?_ (Nat.zero_le _))
 refine wpAny_holding ?_
 generalize hg3:g2.push { cls:=.type "tuple",data:=.seq us.toArray.toList.toArray }=g3
 have keep:∀b u,g.get? b=some u->(g3.push { cls:=.type "list",data:=.seq ([]:List Value).toArray }).get? b=some u:=fun b u e=>by
  have hlt:b<g.objs.size:=Heap.lt_size e
  have q1:g1.get? b=some u:=by rw[<- hg1];exact Heap.get?_push_of_some _ e
  have q2:g2.get? b=some u:=by rw[<- hg2];exact(Heap.get?_update_other _ _ (Nat.ne_of_gt hlt)).trans q1
  have q3:g3.get? b=some u:=by rw[<- hg3];exact Heap.get?_push_of_some _ q2
  exact Heap.get?_push_of_some _ q3
 have fD:=I1.fpOk (b:=g.objs.size) (Nat.le_refl _) (I1.hok.fresh (Nat.le_refl _))
 have I2:Inv X pins σ H { s with heap:=g3.push { cls:=.type "list",data:=.seq ([]:List Value).toArray } }:=I1.kept (t':=s.toks) keep
 have gD2:(g3.push { cls:=.type "list",data:=.seq ([]:List Value).toArray }).get? g.objs.size=some (seqObj "list" #[] n1):=Heap.get?_push_of_some _ (by rw[<- hg3];exact Heap.get?_push_of_some _ gD1)
 have I3:Inv X (pins++[(g.objs.size,seqObj "list" #[] n1)]) σ H { s with heap:=g3.push { cls:=.type "list",data:=.seq ([]:List Value).toArray } }:=I2.pins_of fun p hpp=>by
  rcases List.mem_append.mp hpp with z | z
  ·exact I2.pin p (List.mem_append_right _ z)
  ·rw[List.mem_singleton.mp z]
   exact⟨gD2,fD.1,fD.2.1,fD.2.2.1,fun v z=>by cases z⟩
 have hp:∀p∈X.pn++pins,p.1≠g.objs.size:=fun p hpp z=>absurd (Heap.lt_size (I1.pin p hpp).1) (by rw[z];show ¬ (g.objs.size<g.objs.size);omega)
 clear I2 gD2 keep
 dsimp only
 generalize ({ s with heap:=g3.push { cls:=.type "list",data:=.seq ([]:List Value).toArray } }:Shared)=s3 at I3 ⊢
 rcases h with ⟨h2,q⟩ | ⟨h2,h64,ds,kd,p,tds,hb,hfl,hpp,q⟩
 ·have h2':us.toArray.size<2:=by rw[List.size_toArray];omega
  rw[if_pos h2',if_pos h2']
  refine wpAny_bind (wpAny_pure ?_)
  rw[StateT.run_pure]
  refine wpAny_bind (wpAny_pure ?_)
  refine Va (ous:=us) lo hp I3 hz ?_ rfl rv q fun s' q=>⟨_,rfl,wpAny_pure ⟨_,rfl,q⟩⟩
  show (us.toArray.zip us.toArray).map (·.2)=us.toArray
  apply Array.ext';simp only[Array.toList_map,Array.toList_zip];exact List.map_snd_zip (l₁:=us) (l₂:=us) (Nat.le_refl _)
 ·have h2':¬ us.toArray.size<2:=by rw[List.size_toArray];omega
  rw[if_neg h2',if_neg h2'];obtain⟨as,rd⟩:=tds.reads I3 rv
  have hu':X.A.in1.in1.units+64<cLine:=by show X.A.units+1+1+64<_;omega
  refine wpAny_bind (Ac8 rd hb (by omega) ?_)
  have e64:us.length<64:=by omega
  rw[hlen]at hpp
  refine wpAny_bind (wpAny_mono (kat_run (ks:=us) (vs:=us) (Q:=fun st' s'=>s'=s3/\arrOf st'=p.map (kas_item (us.toArray.zip us.toArray))/\failedOf st'=none/\p.size=us.length) (G:=fun p' s'=>p'=p/\s'=s3) rfl (by omega) e64 (fun p' st' s' a1 a2 a3 a4=>?_) (Al5 (B:=Ak3 kd ds) (fun i j r C hB hC=>?_) _ p hpp ⟨rfl,rfl⟩)) ?_ fun _ _ z=>z)
  ·obtain⟨rfl,rfl⟩:=a4
   exact⟨rfl,a2,a3,a1⟩
  ·unfold Ak3 at hB
   cases ei:ds[i]? with
   | none=>rw[ei]at hB;cases hB
   | some di =>
    cases ej:ds[j]? with
    | none=>rw[ei,ej]at hB;cases hB
    | some dj =>
     rw[ei,ej]at hB;obtain⟨a1,r1⟩:=M8 rd ei;obtain⟨a2,r2⟩:=M8 rd ej;have mi:di∈ds:=List.mem_of_getElem? ei;have mj:dj∈ds:=List.mem_of_getElem? ej;have fi:=hfl di mi;have fj:=hfl dj mj
     exact Av3 r1 r2 fi.1 fj.1 (List.all_eq_true.mp hb di mi) (List.all_eq_true.mp hb dj mj) (by have:=fi.2;omega) hB hC
  ·rintro⟨⟨⟩,st'⟩ s' ⟨rfl,har,hf,hps⟩
   refine Va (outs:=p.toList.map fun i=>vs.getD i .non) lo hp I3 ?_ (kat_snds rfl har) hf (Ss rv _) q fun s' q=>⟨_,rfl,wpAny_pure ⟨_,rfl,q⟩⟩
   rw[List.length_map,Array.length_toList,hps];omega
end
theorem Room.un80 {k:Nat}{A:Around}(r:Room k A):A.units+80<cLine:=by have:=r.un;omega
section
variable {X:Cx}{p p2 pos pos2:Pos}{e:Expr}{es:List Expr}{t:TA}{te:TE}{Kq:PySem.W.Frag}
def Ao3 (K:PySem.W.Frag):List V->Hp->VK->Prop:=fun xs H Q=>∃a vs,xs=[.ref a]/\(SqL K H a vs\/SqT K H a vs)/\Wz vs vs H Q
theorem Ah0 (hu:X.A.units+80<cLine):zB X (.builtin "sorted") (Ao3 X.K):=by
 intro pins s σ H xs us Q I r h;obtain⟨a,vs,rfl,hq,q⟩:=h;obtain⟨u,rfl,ru⟩:=vals1 r
 cases (show u=Value.ref a from ru)
 exact As8 hu I hq q
theorem A4u (hKq:X.K=Kq)(hu:X.A.units+80<cLine)(hgl:Gl X "sorted") (hm:X.mg "sorted" = none) (ha:QA X (e::es) t) (hns:noStar (e::es)=true:=by rfl):QE X (.Call (.Name "sorted" p) (e::es) [] pos) (tCB (Ao3 Kq) t):=by
 subst hKq
 exact⟨Fy (Ah0 hu) hgl hm boot_sorted ha.get (by decide) (by decide) hns⟩
def Tj (K:PySem.W.Frag):List V->Hp->VK->Prop:=fun xs H Q=>∃i j,xs=[.int i,.int j]/\Q (.int (if j>i then j else i)) H
theorem Aa9 (a:X.K=Kq)(hc:X.calm=true)(hgl:Gl X "max") (hm:X.mg "max" = none) (ha:QA X (e::es) t) (hns:noStar (e::es)=true:=by rfl):QE X (.Call (.Name "max" p) (e::es) [] pos) (tCB (Tj Kq) t):=by
 exact⟨Fy (A2n hc) hgl hm Br9 ha.get (by decide) (by rfl) hns⟩
def Be4:List V->Hp->VK->Prop:=fun xs H Q=>∃j:Int,xs=[.int j]/\∀p,H p=none->Q (.ref p) (upd H p (.rng 0 j))
theorem Aj2:zB X (.type "range") Be4:=by
 intro pins s σ H xs us Q I r h;obtain⟨j,rfl,q⟩:=h;obtain⟨u,rfl,t,rfl⟩:=vals1 r
 refine call_range_1 ?_
 exact⟨.ref s.heap.objs.size,_,I.laid (fun b o e=>Heap.get?_push_of_some _ e) (Nat.le_refl _) (show z9 X.prog X.w _ _ _ (.rng 0 j) from ⟨_,_,_,Heap.get?_push_size _ rfl⟩),rfl,q _ (I.hok.fresh (Nat.le_refl _))⟩
def Ax0:List V->Hp->VK->Prop:=fun xs H Q=>∃(p:Addr) (n:Nat),xs=[.ref p]/\H p=some (.rng 0 (n:Nat))/\n<=2 ^ 24/\∀l,H l=none->Q (.ref l) (upd H l (.lst ((List.range n).map fun i=>.int (i:Nat))))
theorem An0 {f:Nat->V}{R:Nat->Value->Prop}(hR:∀i v,R i v->RelV (f i) v){acc:Array Value}{n:Nat}(h:ItemsOf R acc n):Vals ((List.range n).map f) acc.toList:=by
 obtain⟨hs,hi⟩:=h;obtain⟨l⟩:=acc;have hs:l.length=n:=hs
 have hi:∀j v,l[j]?=some v->R j v:=fun j v e=>hi j v (by simpa using e)
 show Vals ((List.range n).map f) l
 subst hs
 have key:∀(l:List Value) (k:Nat),(∀j v,l[j]?=some v->RelV (f (k+j)) v)->Vals ((List.range' k l.length).map f) l:=by
  intro l
  induction l with
  | nil=>intro k _;exact .nil
  | cons v l ih =>
   intro k h;rw[List.length_cons,List.range'_succ,List.map_cons]
   refine .cons (by simpa using h 0 v rfl) (ih (k+1) fun j w e=>?_)
   have:=h (j+1) w (by simpa using e)
   rw[Nat.add_assoc,Nat.add_comm 1 j];exact this
 rw[List.range_eq_range']
 exact key l 0 fun j v e=>by rw[Nat.zero_add];exact hR _ _ (hi j v e)
theorem Wm (hc:X.calm=true):zB X (.type "list") Ax0:=by
 intro pins s σ H xs us Q I r h;obtain⟨p,n,rfl,hp,hn,q⟩:=h;obtain⟨u,rfl,ru⟩:=vals1 r
 cases (show u=Value.ref p from ru)
 obtain⟨t,u,v,hr⟩:=I.hok p _ hp
 refine call_list_range (n:=n) (I.ok.hd hc) hr (small_one (by omega) (by omega) (by omega) (by omega)) (by rw[rangeSize_one];split <;> omega) hn fun h' tk acc c kp e it=>?_
 refine⟨.ref s.heap.objs.size,_,I.laid kp (Nat.le_refl _) (show z9 X.prog X.w _ h' _ (.lst _) from ⟨?_,acc.toList,c,An0 (fun i v ⟨t,e⟩=>?_) it,e⟩),rfl,q _ (I.hok.fresh (Nat.le_refl _))⟩
 ·rw[List.length_map,List.length_range,sizeLine_eq];omega
 ·exact⟨t,by rw[e];simp⟩
theorem Ao0 (hc:X.calm=true)(hgl:Gl X "list") (hml:X.mg "list" = none) (hgr:Gl X "range") (hmr:X.mg "range" = none) (he:QE X e te) (hns:isStar e=false:=by rfl):QE X (.Call (.Name "list" p) [.Call (.Name "range" p2) [e] [] pos2] [] pos) (tCB Ax0 (Dh (tCB Be4 (Dh te G6)) G6)) :=
 ⟨Jp (Wm hc) hgl hml J0 (Bb7 (Jp Aj2 hgr hmr A7p (Bb7 he.get Vi hns) (by decide) (by decide) (by show (!isStar e&&true)=true;rw[hns];rfl)) Vi rfl) (by decide) (by decide) rfl⟩
def rIndexL:V->List V->Hp->VK->Prop:=fun x vs H Q=>∃(y:V) (d:PyData) (ds:List PyData) (j:Nat),vs=[y]/\Tr H d y/\Tr H (.list ds) x/\Flat d/\PyData.canLayAll0 ds=true/\j<1000000 /\
 (∃e,ds[j]?=some e/\PyData.eqv e d=true)/\(∀m e,m<j->ds[m]?=some e->PyData.eqv e d=false)/\Q (.int (j:Nat)) H
theorem Az7 (hu:X.A.units+64<cLine):MtM X "list.index" rIndexL:=by
 intro l s σ H x vs v us Q I S N h;obtain⟨y,d,f,j,rfl,B,O,t,w,A,⟨ej,C,D⟩,E,q⟩:=h;obtain⟨u,rfl,G⟩:=N.one;obtain⟨as,L⟩:=B.reads I G;obtain⟨bs,M⟩:=O.reads I S
 cases M with
 | list k i p r =>
  rename_i a o b n J;obtain⟨c0,dd,K,sl⟩:=o
  dsimp only at i p
  subst i p;have c:=SeqAt.readsAll_map f _ _ w r
  have R:∀m (P:m<b.size) e,f[m]?=some e->SeqAt.readOf s.heap b[m]=e:=fun m P e he=>by
   grind
  have g:b.size=f.length:=by rw[<- c,List.length_map,Array.length_toList]
  obtain⟨z,_⟩:=List.getElem?_eq_some_iff.mp C
  refine call_meets F.slot_list_index ⟨_,k,rfl⟩ F.entry_list_index (F.args_list_index_2 _ _) (SeqAt.list_indexAt a b n _ _ _ (fun y=>PyData.eqv (SeqAt.readOf s.heap y) d) j (g▸z) (by omega) ?_ ?_) ⟨k,?_,?_⟩
  ·simp_all
  ·grind
  ·exact SeqAt.items_eqAt r L w t.1 (Rn hu t.2)
  ·exact⟨.int _,H,I.tok _,⟨_,rfl⟩,q⟩
def Bm1 (K:PySem.W.Frag)(to:TE)(t:TA):TE:=fun σ H Q=>to σ H fun x H1=>(tyV K "list" x H1/\t σ H1 fun xs H2=>rIndexL x xs H2 Q)\/(tyV K "tuple" x H1/\t σ H1 fun xs H2=>rIndexD x xs H2 Q)
variable {o:Expr}{to:TE}{apos cpos:Pos}
theorem Bw3 (hu:X.A.units+64<cLine)(ho:PE X o to)(ha:PA X (e::es) t)
 (hbase:attributeBase o "index" X.env (eval o X.env)=eval o X.env:=by rfl)
 (hfew:((backTo cpos (starEach (e::es) X.env)).all (fun x=>!x.1)&&(backToKw cpos (keywordEach [] X.env)).all (fun x=>x.1.isSome)
  && decide ((e::es).length+([]:List Keyword).length+(if ([]:List Keyword).isEmpty then 0 else 1)<30))=true:=by rfl)
 (hline:(apos.endLine==cpos.line)=true:=by rfl) (hs:starEach (e::es) X.env=(false,eval e X.env)::starEach es X.env:=by rfl) (hplain:(backTo cpos (starEach es X.env)).any (·.1)=false:=by rfl) :
 PE X (.Call (.Attribute o "index" apos) (e::es) [] cpos) (Bm1 X.K to t):=by
 intro b s p H Q I h
 refine wpAny_Call_method_late hbase hfew hline rfl (thn (ho b s p H _ I h) fun v y ⟨x,z,d,c,w⟩=>?_)
 rcases w with ⟨j,k⟩ | ⟨j,k⟩
 ·obtain⟨g,m⟩:=Al1 d c j
  refine⟨"list", "list.index",PySem.F.plainAttrs_list,PySem.F.slot_list_index,PySem.F.type_list_index,g,m,?_⟩
  have a:=ha cpos _ _ _ _ _ d k;rw[hs]at a ⊢
  refine Calls.callWith_builtin (by grind) (Calls.evalArgs_plain ?_)
  exact thn a fun i q ⟨r,u,l,n,f⟩=>Az7 hu _ _ _ _ x _ v i Q l c n f
 ·obtain⟨g,m⟩:=Al1 d c j
  refine⟨"tuple", "tuple.index",PySem.F.plainAttrs_tuple,PySem.F.slot_tuple_index,PySem.F.type_tuple_index,g,m,?_⟩
  have a:=ha cpos _ _ _ _ _ d k;rw[hs]at a ⊢
  refine Calls.callWith_builtin (by grind) (Calls.evalArgs_plain ?_)
  exact thn a fun i q ⟨r,u,l,n,f⟩=>Xx hu _ _ _ _ x _ v i Q l c n f
theorem A6q {Kq:PySem.W.Frag}(a:X.K=Kq)(hu:X.A.units+64<cLine)(ho:QE X o to)(ha:QA X (e::es) t)
 (hbase:attributeBase o "index" X.env (eval o X.env)=eval o X.env:=by rfl)
 (hfew:((backTo cpos (starEach (e::es) X.env)).all (fun x=>!x.1)&&(backToKw cpos (keywordEach [] X.env)).all (fun x=>x.1.isSome)
  && decide ((e::es).length+([]:List Keyword).length+(if ([]:List Keyword).isEmpty then 0 else 1)<30))=true:=by rfl)
 (hline:(apos.endLine==cpos.line)=true:=by rfl) (hs:starEach (e::es) X.env=(false,eval e X.env)::starEach es X.env:=by rfl) (hplain:(backTo cpos (starEach es X.env)).any (·.1)=false:=by rfl) :
 QE X (.Call (.Attribute o "index" apos) (e::es) [] cpos) (Bm1 Kq to t):=by
 subst a;exact⟨Bw3 hu ho.get ha.get hbase hfew hline hs hplain⟩
end
section
variable {prog:Program}{w:World}{A:Around}{E:Value->Shared->Prop}{s:Shared}{R:Result->Shared->Prop}
variable {I:Addr}{fp wr:List Addr}{G:Array GenState->Array GenState->Prop}{n:Nat}{P:Nat->Value->Prop}{St:Nat->Shared->Prop}
theorem A2l:typeLookup (.type "list_reverseiterator") "__len__" = pure none:=by rw[typeLookup_type,builtinLookup_eq_fast];trivial
theorem A8r:typeLookup (.type "list_reverseiterator") "__length_hint__" = pure (some (.builtin "list_reverseiterator.__length_hint__")):=by rw[typeLookup_type,builtinLookup_eq_fast];trivial
theorem As5 (W:WalksS prog w A.in1 I fp wr G n P St)(l:∀i s,St i s->s.TypeIs (.ref I) "list_reverseiterator") (S:Addr) (g:Value) (h:Nat) (hst:St 0 s) (d:S∉fp) (r:I∈fp)
 (t:s.heap.get? S=some { cls:=.type "list",data:=.seq #[] h })
 (q:∀s' a k,Moved (S::wr) G s s'->s'.heap.get? S=some { cls:=.type "list",dict:=none,data:=.seq a k,slots:=#[] }->ItemsOf P a n->R (.ok (.ret g)) s') (hn:n<=sizeLine) :
 wpAny (model prog w) A.in1 (Builtin.List.listExtendWith (.ref S) (.ref I) g)
  (fun o s'=>match o with | .done f=>R (.ok f) s' | .again k=>k.quiet=true/\codeAny (model prog w) A k R s') (fun e s'=>R (.error e) s') s:=by
 have m:S≠I:=fun e=>d (e▸r)
 have v:Builtin.List.listSameRef (.ref S) (.ref I)=false:=by simp[Builtin.List.listSameRef,m]
 unfold Builtin.List.listExtendWith
 refine wpAny_bind (wpAny_typeOf (l 0 _ hst) ?_)
 rw[if_neg (by rw[v];decide)]
 refine wpAny_bind (W.self 0 _ _ _ hst ?_)
 refine wpAny_bind (wpAny_holding ?_)
 unfold Builtin.List.listLengthHint
 refine wpAny_bind (wpAny_specialOf (l 0 _ hst) A2l ?_)
 show wpAny _ A.in1 (specialOf (Value.ref I) (Str.ofString "__length_hint__") >>= _) _ _ _
 refine wpAny_bind (wpAny_specialOf (l 0 _ hst) A8r ?_)
 generalize hid:("list_reverseiterator.__length_hint__" : String)=id0
 wp_delta
 rw[show splitId id0=some ("list_reverseiterator", "__length_hint__") from by subst hid;decide +kernel]
 subst hid
 refine wpAny_bind (wpAny_isInstance (b:=true) (l 0 _ hst) (by rw[isSubtype_type];kernel_rfl) ?_)
 refine wpAny_pure ?_
 rw[if_neg (by decide)]
 refine wpAny_pure ⟨plainId_quiet F.plain_extend_loop _,codeAny_extend_loopS W hn _ d _ n 0 _ _ _ rfl (Nat.zero_le _) hst t (ItemsOf.nil P) fun s' a k u p j=>?_⟩
 exact q _ _ _ u p j
theorem A8m (W:WalksS prog w A.in1 I fp wr G n P St)(v:∀i s,St i s->s.TypeIs (.ref I) "list_reverseiterator") (S:Addr) (hst:St 0 s) (k:S∉fp) (y:I∈fp)
 (j:s.heap.get? S=some { cls:=.type "list",data:=.seq #[] })
 (u:∀s' a p,Moved (S::wr) G s s'->s'.heap.get? S=some { cls:=.type "list",dict:=none,data:=.seq a p,slots:=#[] }->ItemsOf P a n->R (.ok (.ret .none)) s') (hn:n<=sizeLine) :
 wpAny (model prog w) A.in1 (Builtin.«list.__init__» ⟨[.ref S,.ref I],[]⟩)
  (fun q s'=>match q with | .done f=>R (.ok f) s' | .again p=>p.quiet=true/\codeAny (model prog w) A p R s') (fun e s'=>R (.error e) s') s:=by
 show wpAny _ A.in1 (Builtin.List.listItems (.ref S) >>= fun t=>Builtin.List.listUpdate (.ref S) (fun _=>#[]) >>= fun _=>letGo t.toList.reverse >>= fun _=>Builtin.List.listExtendWith (.ref S) (.ref I) .none) _ _ s
 refine wpAny_bind ?_
 unfold Builtin.List.listItems
 refine wpAny_bind (wpAny_seqItems j rfl (wpAny_pure ?_))
 refine wpAny_bind (m:=updateSeq S (fun _=>#[])) (wpAny_updateSeq j rfl ?_)
 have d:=Heap.get?_update_self (Obj.mapSeq (fun _=>(#[]:Array Value))) j rfl
 have c:∀b o,b≠S->s.heap.get? b=some o->(s.heap.update S (Obj.mapSeq (fun _=>(#[]:Array Value)))).get? b=some o :=
  fun b o l e=>(Heap.get?_update_other _ _ (Ne.symm l)).trans e
 refine wpAny_bind (wpAny_letGo ?_)
 refine As5 (hn:=hn) W v S .none _ (W.frame 0 s _ s.toks hst (Nat.le_refl _) fun b l o e=>c b o (fun h=>k (h▸l)) e) k y d fun s' a p x r g=>?_
 exact u _ _ _ (Moved.trans W.gtrans ((Moved.refl W.grefl).then_heap (Nat.le_refl _) fun b o l e=>c b o (fun h=>l (h▸List.mem_cons_self)) e) x) r g
theorem Wl {Q:Value->Shared->Prop}(W:WalksS prog w A.in1.in1 I fp wr G n P St)(q:∀i s,St i s->s.TypeIs (.ref I) "list_reverseiterator") (hst:St 0 s) (j:∀b∈fp,b<s.heap.objs.size) (r:I∈fp)
 (hQ:∀g a p,Moved (s.heap.objs.size::wr) G { s with heap:=s.heap.push { cls:=.type "list",data:=.seq #[] } } g ->
  g.heap.get? s.heap.objs.size=some { cls:=.type "list",dict:=none,data:=.seq a p,slots:=#[] }->ItemsOf P a n->Q (.ref s.heap.objs.size) g) (hn:n<=sizeLine) :
 wpAny (model prog w) A (call (.type "list") [.ref I]) Q E s:=by
 refine callType_codes (Q₁:=fun f c=>f=.ref _/\c={ s with heap:=s.heap.push _ }) F.called_list (F.typeCall_list_1 _) F.entry_list_init (code_list_new _ ⟨rfl,rfl⟩) fun f c d=>?_
 obtain⟨rfl,rfl⟩:=d;have m:(s.heap.push { cls:=.type "list",data:=.seq #[] }).get? _=some _:=Heap.get?_push_size _ rfl
 refine⟨⟨_,m,rfl⟩,F.args_list_init_2 _ _,A8m (hn:=hn) W q _ (W.frame 0 s _ _ hst (Nat.le_refl _) fun b _ o e=>Heap.get?_push_of_some _ e) (fun l=>Nat.lt_irrefl _ (j _ l)) r m fun g a p l t k=>?_⟩
 grind
end
section
variable {X:Cx}{p p2 pos pos2:Pos}{e:Expr}{te:TE}{Kq:PySem.W.Frag}
theorem Uq:∀{vs:List V}{us:List Value},Vals vs us->Vals vs.reverse us.reverse
 | _,_,.nil=>.nil
 | _,_,.cons r rs=>by rw[List.reverse_cons,List.reverse_cons];exact R9 r (Uq rs)
def A4q (K:PySem.W.Frag)(t:TA):TE:=fun σ H Q=>t σ H fun xs H1=>∃a vs,xs=[.ref a]/\SqL K H1 a vs/\∀l,H1 l=none->Q (.ref l) (upd H1 l (.lst vs.reverse))
theorem Al0 {t:TA}(hc:X.calm=true)(hgl:Gl X "list") (hml:X.mg "list" = none) (r:Gl X "reversed") (v:X.mg "reversed" = none) (ha:PA X [e] t) (hns:isStar e=false:=by rfl):PE X (.Call (.Name "list" p) [.Call (.Name "reversed" p2) [e] [] pos2] [] pos) (A4q X.K t):=by
 intro j s S H Q I h
 refine wpAny_Call_Name_kw (Jh I hgl hml J0 ?_ (by decide) (by decide))
 refine PyProof.Rows.callWith_type1 ?_ (Ge rfl) rfl
 rw[Ge (env:=X.env) (es:=[]) (e:=.Call (.Name "reversed" p2) [e] [] pos2) rfl]
 show wpAny _ _ (spliced ((false,eval (.Call (.Name "reversed" p2) [e] [] pos2) X.env)::backTo pos (starEach [] X.env))) _ _ s
 refine Calls.spliced_cons ?_
 refine wpAny_Call_Name_kw (Jh I r v boot_reversed ?_ (by decide) (by decide))
 refine PyProof.Rows.callWith_type1 (thn (ha pos2 j s S H _ I h) fun us f ⟨xs,H1,m,N,O⟩=>?_) (Ge hns) rfl
 obtain⟨a,R,rfl,V,q⟩:=O;obtain⟨u,rfl,W⟩:=vals1 N
 cases (show u=Value.ref a from W)
 obtain⟨d,G,J,E⟩:=m.list V
 refine call_reversed_list J.isList (Calls.spliced_nil ?_)
 obtain⟨Y,g,D⟩:=J.isList;have k:=Heap.lt_size g
 have y:d.toArray.size=R.length:=by rw[List.size_toArray,G.length]
 have P:=(Heap.get?_push_size f.heap (o:=revObj a ((d.toArray.size:Int)-1)) rfl)
 refine Wl ((Walks.listRev (prog:=X.prog) (w:=X.w) (A:=X.A.in1.in1) (m.ok.hd hc) f.heap.objs.size a (Nat.ne_of_lt k) d.toArray).toS) (fun i s x=>x.2.1.typeIs) ⟨Nat.zero_le _,⟨_,P,rfl,?_⟩,⟨Y,Heap.get?_push_of_some _ g,D⟩⟩ (fun b B=>?_) (by simp) (fun L l c F M U=>?_) (by rw[y];exact E)
 ·simp[revObj]
 ·have C:(f.heap.push (revObj a ((d.toArray.size:Int)-1))).objs.size=f.heap.objs.size+1:=size_push' _ _
  show b<(f.heap.push (revObj a ((d.toArray.size:Int)-1))).objs.size
  rw[C]
  rcases List.mem_cons.mp B with e | B
  ·rw[e];exact Nat.lt_succ_self _
  ·rw[List.mem_singleton.mp B];exact Nat.lt_succ_of_lt k
 ·have C:(f.heap.push (revObj a ((d.toArray.size:Int)-1))).objs.size=f.heap.objs.size+1:=size_push' _ _
  have T:∀b u,f.heap.get? b=some u->L.heap.get? b=some u:=fun b u e=>F.heap b u (fun z=>by
   have n:=Heap.lt_size e
   rcases List.mem_cons.mp z with z | z
   ·have z:b=(f.heap.push (revObj a ((d.toArray.size:Int)-1))).objs.size:=z
    rw[C]at z;rw[z]at n;exact absurd n (Nat.not_lt.mpr (Nat.le_succ _))
   ·rw[(List.mem_singleton.mp z)]at n
    exact absurd n (Nat.lt_irrefl _)) (Heap.get?_push_of_some _ (Heap.get?_push_of_some _ e))
  have K:f.heap.objs.size<=(f.heap.push (revObj a (d.toArray.size-1))).objs.size:=by omega
  rw[Moved.eq_with F]
  refine⟨.ref _,_,m.laid  T K (show z9 _ _ _ _ _ (.lst _) from ⟨by rw[List.length_reverse];exact E,l.toList,c,?_,M⟩),rfl,q _ (m.hok.fresh K)⟩
  have:l.toList=d.reverse:=by
   obtain⟨hs,hi⟩:=U;apply List.ext_getElem?
   grind
  rw[this];exact Uq G
theorem Ak6 {t:TA}(b:X.K=Kq)(hc:X.calm=true)(hgl:Gl X "list") (hml:X.mg "list" = none) (c:Gl X "reversed") (a:X.mg "reversed" = none) (ha:QA X [e] t) (hns:isStar e=false:=by rfl):QE X (.Call (.Name "list" p) [.Call (.Name "reversed" p2) [e] [] pos2] [] pos) (A4q Kq t):=by
 subst b;exact⟨Al0 hc hgl hml c a ha.get hns⟩
end
section
variable {X:Cx}{e:Expr}{te:TE}{pos p2:Pos}{st:Expr}{tst:TO}
theorem Wv (its:List Value):slicePick its.toArray none none (some (-1))=its.reverse.toArray:=by
 have e:=HT.Aj5 its.toArray
 have h:slicePick its.toArray none none (some (-1))=((List.range its.toArray.size).filterMap fun (m:Nat)=>its.toArray[((its.toArray.size:Int)-1+(m:Int)*(-1)).toNat]?).toArray:=by
  generalize its.toArray=xs
  have b:sliceBounds none none (some (-1)) xs.size=((xs.size:Int)-1,-1,-1):=by
   simp only[sliceBounds,Option.getD_some,show ¬ ((-1:Int)>0) by decide,if_false]
  unfold slicePick;rw[b];unfold sliceRange
  have c:(if ((-1:Int)>0) then (if (xs.size:Int)-1 < -1 then (-1-((xs.size:Int)-1)+-1-1) / -1 else 0) else (if (xs.size:Int)-1 > -1 then ((xs.size:Int)-1 - -1 - -1-1) / (- -1) else 0)).toNat=xs.size:=by
   rw[if_neg (by decide)]
   by_cases h0:xs.size=0
   ·rw[if_neg (by omega),h0];rfl
   ·rw[if_pos (by omega)]
    have:((xs.size:Int)-1 - -1 - -1-1) / (- -1)=(xs.size:Int):=by
     have:(- -1:Int)=1:=by decide
     rw[this,Int.ediv_one];omega
    rw[this];omega
  dsimp only
  rw[c,List.filterMap_map]
  congr 2
  funext m
  show xs[((xs.size:Int)-1+-1*(m:Int)).toNat]?=_
  rw[Int.mul_comm]
 rw[h,e]
def A5b (K:PySem.W.Frag)(te:TE)(ts:TO):TE:=fun σ H Q=>te σ H fun x H1=>ts σ H1 fun o H2=>o=some (-1)/\∃a xs,x=.ref a/\((SqT K H2 a xs/\∀p,H2 p=none->Q (.ref p) (upd H2 p (.tup xs.reverse)))\/(SqL K H2 a xs/\∀p,H2 p=none->Q (.ref p) (upd H2 p (.lst xs.reverse))))
theorem Be9 (he:PE X e te)(hst:PO X (some st) tst):PE X (.Subscript e (.Slice none none (some st) p2) pos) (A5b X.K te tst):=by
 intro pins s σ H Q I h
 refine Subscript_ (thn (he pins s σ H _ I h) fun v s1 ⟨x,H1,I1,r1,q1⟩=>?_)
 refine wpAny_Slice ?_
 rw[evalPart_none]
 refine wpAny_pure ?_
 refine wpAny_pure ?_
 refine thn (hst pins s1 σ H1 _ I1 q1) fun vst s3 ⟨o,H3,I3,ps,q3⟩=>?_
 obtain⟨rfl,a,xs,rfl,q⟩:=q3
 cases r1
 have I4:Inv X pins σ H3 { s3 with heap:=s3.heap.push { cls:=.type "slice",data:=.fields #[.none,.none,vst] } }:=I3.kept (t':=s3.toks) fun b ob q=>Heap.get?_push_of_some _ q
 show wpAny (model X.prog X.w) X.A (subscriptTail e (.Slice none none (some st) p2) (.ref a) (.ref s3.heap.objs.size)) (EP X pins σ Q) X.xe { s3 with heap:=s3.heap.push { cls:=.type "slice",data:=.fields #[.none,.none,vst] } }
 rcases q with ⟨hx,q⟩ | ⟨hx,q⟩
 ·obtain⟨its,r,ht,hz⟩:=I4.tuple hx
  refine tail_any (ops:=[.ref a,.ref s3.heap.objs.size]) ht.typeIs PyProof.Rows.slot_tuple_getitem.lookup ?_ (by with_unfolding_all rfl)
  have hlen:its.toArray.size=xs.length:=by rw[List.size_toArray];exact r.length.symm
  refine HT.Pq ht (Heap.IsSliceOf.new ..) ps ?_ (by rw[hlen];exact hz)
  refine⟨.ref _,_,I4.laid (t':=s3.toks) (o:=.tup xs.reverse) (fun b ob q=>Heap.get?_push_of_some _ q) (Nat.le_refl _) ?_,rfl,q _ (I4.hok.fresh (Nat.le_refl _))⟩
  exact⟨by rw[List.length_reverse];exact hz,_,r.reverse,zL.new _ _⟩
 ·obtain⟨its,r,ht,hz⟩:=I4.list hx
  have hlen:=r.length
  refine tail_any (ops:=[.ref a,.ref s3.heap.objs.size]) ht.isList.typeIs slot_list_getitem.lookup ?_ (by with_unfolding_all rfl)
  refine wpAny_getItem_list_slice ht.isList (Heap.IsSliceOf.new ..) .none .none ps (by simp) ?_ (by rw[List.size_toArray] <;> omega)
  rw[Wv]
  refine⟨.ref _,_,I4.laid (t':=s3.toks) (o:=.lst xs.reverse) (fun b ob q=>Heap.get?_push_of_some _ q) (Nat.le_refl _) ?_,rfl,q _ (I4.hok.fresh (Nat.le_refl _))⟩
  exact⟨by rw[List.length_reverse];exact hz,_,0,Uq r,Heap.get?_push_size _ rfl⟩
theorem Ax1 {Kq:PySem.W.Frag}(hKq:X.K=Kq)(he:QE X e te)(hst:QO X (some st) tst):QE X (.Subscript e (.Slice none none (some st) p2) pos) (A5b Kq te tst):=by
 subst hKq;exact⟨Be9 he.get hst.get⟩
end
end L2
namespace L2
open PySem PySem.Spec PyProof.Rows
end L2
namespace L2
open PySem PySem.Spec PyProof.Rows PySem.W
theorem walk_ofX {l:OpenLaw}       {sp:Frag->Sp} 
 (hn:l.most=some n) (r:n<=sizeLine) (t:d.params.defaults=[]) (hr:Room k callerA)
 (F:∀(w:World) (g:ExcName->Option Value) (mg C:Str->Option Value) (fa:Addr) (h:Heap),Top q (looseW q loose) g mg C h->XP mg h->mg d.name=some (.ref fa) ->
  ∃(K:Frag) (p:FuncData),K.In h/\TabAt K h/\(∀(s:Shared) (u:Value),BindsTo s p ⟨[u],[]⟩ [(x,u)])/\∀base:Heap,K.In base->base.Ns mainGlobals mg->FnOk l.prog w K mg base CX0 k fa p [x] (sp K))
 (m:∀(K:Frag) (H:Hp) (a:Addr) (ns:List Int),ns.length<=n->SqL K H a (ns.map V.int)->sp K [.ref a] H (fun v _=>v=.bl true) fun _ _ _=>False) :
 WalkO q loose XP YP l.row.toRowW d [] (fun f vs=>PySem.call f vs):=by
 refine Att.Aj4 hn t fun w D B mg C fa o P O J a vs ns G Y Q R E j i c b L=>?_
 obtain⟨K,p,y,A,I,M⟩:=F w _ _ _ _ _ G.T G.X j
 exact A1y y G.T.g G.T.b G.T.builtins G.T.nolimit L G.T.bmain A i c (Nat.le_trans b r) hr M I (fun H N=>m K H a _ b N) fun H e S z=>z
end L2
namespace U
open PySem L2
inductive Th where
 | nm (T:String)
 | dc (ks:List Str) (ds:List PyData)
 | dt (ks ds:List PyData)
 | ds (ks ds:List PyData)
 | td (xs ks ds:List PyData)
 | xc (nm:Str)
 | tc (ss:List Str)
inductive O where
 | im (d:PyData)
 | ls (b:Bool) (ds:List PyData)
 | sc (ns:List Int)
 | ty (T:Th)
abbrev Ev:=List (Option O)
inductive PV where
 | o (o:O)
 | sl (i:Nat)
inductive R (α:Type) where
 | ok (a:α) (c:Ev)
 | bad
def R.bind {α β:Type}(r:R α)(k:α->Ev->R β):R β:=match r with
 | .ok a c=>k a c
 | .bad=>.bad
def R.sat {α:Type}(r:R α)(φ:α->Ev->Prop):Prop:=match r with
 | .ok a c=>φ a c
 | .bad=>False
theorem R.sat_bind  {r:R d}{k:d->Ev->R e}{b:e->Ev->Prop}:(r.bind k).sat b↔r.sat fun a c=>(k a c).sat b:=by cases r <;> exact Iff.rfl
theorem R.sat.mono  {r:R d}{e b:d->Ev->Prop}(h:r.sat e) (f:∀a c,e a c->b a c):r.sat b:=by
 cases r with
 | ok a c=>exact f a c h
 | bad=>exact h
theorem R.sat.bnd  {r:R d}{k:d->Ev->R e}{b:e->Ev->Prop}(h:(r.bind k).sat b):r.sat fun a c=>(k a c).sat b:=R.sat_bind.mp h
def O.bor:O->Bool
 | .ls b _=>b
 | _=>false
def O.own:O->Bool
 | .ls _ _=>true
 | _=>false
def O.dat:O->Option PyData
 | .im d=>some d
 | .ls _ ds=>some (.list ds)
 | _=>none
def O.flag (b:Bool):O->O
 | .ls _ ds=>.ls b ds
 | o=>o
def nrm:PV->PV
 | .o (.ls _ ds)=>.o (.im (.list ds))
 | p=>p
def rdP (c:Ev):PV->Option O
 | .o o=>some o
 | .sl i=>(c[i]?).join
def Er (c:Ev)(p:PV):Option PyData:=(rdP c p).bind O.dat
structure Wo where
 Hf:Hp
 H:Hp
 fps:Nat->List Addr
def Wo.S (W:Wo):Addr->Prop:=fun a=>∃i,a∈W.fps i
def RepT (K:PySem.W.Frag)(Hf:Hp):Th->V->Prop
 | .nm T,v=>v=.ty T
 | .dc ks ds,v=>∃a xs,v=.ref a/\Hf a=some (.dK (B2l ks xs))/\TrL Hf ds xs
 | .dt ks ds,v=>∃a xs,v=.ref a/\Rd Hf a (.dT (ks.zip xs))/\TrL Hf ds xs/\ks.length=xs.length
 | .ds ks ds,v=>∃a o xs,v=.ref a/\Hf a=some (.frz o (.dT (ks.zip xs)))/\TrL Hf ds xs/\ks.length=xs.length
 | .td es ks ds,v=>∃a us b o xs,v=.ref a/\Hf a=some (.tup (us++[.ref b]))/\TrL Hf es us/\Hf b=some (.frz o (.dT (ks.zip xs)))/\TrL Hf ds xs/\ks.length=xs.length
 | .xc nm,v=>∃a C,v=.ref a/\PySem.W.nsIn K mainGlobals nm=some (some (.ref C))/\Hf a=some (Kr a C)
 | .tc ss,v=>∃p,v=.ref p/\∀H,SqT K H p (ss.map V.str)
theorem Z9  (S:Same Hf b)   (h:Rd Hf a u):Rd b a u:=h.imp (fun h=>S _ _ h) fun⟨o,h⟩=>⟨o,S _ _ h⟩
theorem RepT.same {K:PySem.W.Frag}{Hf Hf':Hp}(S:Same Hf Hf'):∀{t:Th}{v:V},RepT K Hf t v->RepT K Hf' t v
 | .nm T,_,h=>h
 | .dc ks ds,_,⟨a,xs,e,h,t⟩=>⟨a,xs,e,S _ _ h,TrL.same S t⟩
 | .dt ks ds,_,⟨a,xs,e,h,t,l⟩=>⟨a,xs,e,Z9 S h,TrL.same S t,l⟩
 | .ds ks ds,_,⟨a,o,xs,e,h,t,l⟩=>⟨a,o,xs,e,S _ _ h,TrL.same S t,l⟩
 | .td es ks ds,_,⟨a,us,b,o,xs,e,h,t,h2,t2,l⟩=>⟨a,us,b,o,xs,e,S _ _ h,TrL.same S t,S _ _ h2,TrL.same S t2,l⟩
 | .xc nm,_,⟨a,C,e,n,h⟩=>⟨a,C,e,n,S _ _ h⟩
 | .tc ss,_,h=>h
def RepN (K:PySem.W.Frag)(Hf:Hp):O->V->Prop
 | .im d,v=>Tr Hf d v
 | .sc ns,v=>∃a,v=.ref a/\SqL K Hf a (ns.map V.int)
 | .ty T,v=>RepT K Hf T v
 | .ls _ _,_=>False
def RepO (K:PySem.W.Frag)(Hf H:Hp)(o:O)(v:V)(fp:List Addr):Prop:=match o with
 | .ls _ ds=>∃a vs,v=.ref a/\fp=[a]/\Hf a=none/\H a=some (.lst vs)/\TrL Hf ds vs
 | o=>fp=[]/\RepN K Hf o v
structure Stp (S:Addr->Prop) (Hf H:Hp) (S':Addr->Prop) (Hf' H':Hp):Prop where
 fz:Same Hf Hf'
 kp:∀a o,H a=some o->¬ S a->H' a=some o
 nf:∀a o,H a=some o->Mut (some o)->¬ S a->Hf a=none->Hf' a=none
 fr:∀a,S' a->S a\/H a=none
structure Rep (K:PySem.W.Frag) (β:Nat->V) (W:Wo) (c:Ev) (σ:St):Prop where
 sub:Same W.Hf W.H
 len:c.length=σ.length
 get:∀i o,c[i]?=some (some o)->∃v,σ[i]?=some (some v)/\RepO K W.Hf W.H o v (W.fps i)/\(o.bor=true->v=β i)
 dis:∀i j a,a∈W.fps i->a∈W.fps j->i=j
 own:∀i a,a∈W.fps i->W.Hf a=none/\∃o,W.H a=some o/\Mut (some o)
def Fv (K:PySem.W.Frag)(W:Wo)(σ:St):PV->V->List Addr->Prop
 | .o o,v,fp=>RepO K W.Hf W.H o v fp/\∀a∈fp,¬ W.S a
 | .sl i,v,fp=>fp=[]/\σ[i]?=some (some v)
def RepA (K:PySem.W.Frag)(Hf:Hp)(σ:St):PV->V->Prop
 | .o o,v=>RepN K Hf o v
 | .sl i,v=>σ[i]?=some (some v)
def zH (K:PySem.W.Frag)(Hf:Hp)(σ:St):List PV->List V->Prop
 | [],vs=>vs=[]
 | p::ps,vs=>∃v r,vs=v::r/\RepA K Hf σ p v/\zH K Hf σ ps r
abbrev orS (S:Addr->Prop)(fp:List Addr):Addr->Prop:=fun a=>S a\/a∈fp
section
variable {K:PySem.W.Frag}{β:Nat->V}{W W':Wo}{c c':Ev}{σ:St}{Hf Hf' Hf2 H H' H2:Hp}{o:O}{v:V}{fp:List Addr}{S S' S2:Addr->Prop}{p:PV}{a:Addr}
theorem Stp.refl:Stp S Hf H S Hf H:=⟨fun _ _ h=>h,fun _ _ h _=>h,fun _ _ _ _ _ h=>h,fun _ h=>.inl h⟩
theorem Stp.trans (x:Stp S Hf H S' Hf' H')(y:Stp S' Hf' H' S2 Hf2 H2):Stp S Hf H S2 Hf2 H2:=by
 have b:∀a o,H a=some o->¬ S a->¬ S' a:=fun a o h n z=>by
  rcases x.fr a z with q | q
  ·trivial
  simp_all
 refine⟨x.fz.trans y.fz,fun a o h n=>y.kp a o (x.kp a o h n) (b a o h n),fun a o h c n q=>y.nf a o (x.kp a o h n) c (b a o h n) (x.nf a o h c n q),fun a h=>?_⟩
 rcases y.fr a h with q | q
 ·exact x.fr a q
 ·cases e:H a with
  | none=>simp_all
  | some o =>
   by_cases n:S a
   ·grind
   ·rw[x.kp a o e n]at q;grind
theorem Stp.less (x:Stp S Hf H S' Hf' H')(h:∀a,S2 a->S' a):Stp S Hf H S2 Hf' H':=⟨x.fz,x.kp,x.nf,fun a q=>x.fr a (h a q)⟩
theorem Stp.more {F:Addr->Prop}(x:Stp S Hf H S' Hf' H'):Stp (fun a=>S a\/F a) Hf H (fun a=>S' a\/F a) Hf' H' :=
 ⟨x.fz,fun a o h n=>x.kp a o h fun z=>n (.inl z),fun a o h b n q=>x.nf a o h b (fun z=>n (.inl z)) q,fun a q=>by
  rcases q with q | q
  ·rcases x.fr a q with z | z
   ·simp_all
   grind
  simp_all⟩
theorem Stp.up (x:Stp S Hf H S' Hf' H')(h:∀a,S a->S2 a):Stp S2 Hf H S' Hf' H' :=
 ⟨x.fz,fun a o e n=>x.kp a o e fun z=>n (h a z),fun a o e b n q=>x.nf a o e b (fun z=>n (h a z)) q,fun a q=>(x.fr a q).imp (h a) id⟩
theorem RepN.same (S:Same Hf Hf'):∀{o:O}{v:V},RepN K Hf o v->RepN K Hf' o v
 | .im d,_,h=>Tr.same S h
 | .sc ns,_,⟨a,e,h⟩=>⟨a,e,Same.seq S h⟩
 | .ty T,_,h=>RepT.same S h
 | .ls _ _,_,h=>h
theorem RepA.same (S:Same Hf Hf'):∀{p:PV}{v:V},RepA K Hf σ p v->RepA K Hf' σ p v
 | .o _,_,h=>RepN.same S h
 | .sl _,_,h=>h
theorem zH.same (S:Same Hf Hf'):∀{ps:List PV}{vs:List V},zH K Hf σ ps vs->zH K Hf' σ ps vs
 | [],_,h=>h
 | p::ps,_,⟨v,r,e,h,t⟩=>⟨v,r,e,RepA.same S h,zH.same S t⟩
theorem RepO.mono (h:RepO K Hf H o v fp)(S:Same Hf Hf')(h1:∀a∈fp,Hf' a=none/\H' a=H a):RepO K Hf' H' o v fp:=by
 cases o with
 | ls b ds =>
  obtain⟨a,f,rfl,rfl,q,e,t⟩:=h;obtain⟨c,g⟩:=h1 a (.head _);exact⟨a,f,rfl,rfl,c,g.trans e,TrL.same S t⟩
 | im d=>exact⟨h.1,RepN.same S h.2⟩
 | sc ns=>exact⟨h.1,RepN.same S h.2⟩
 | ty T=>exact⟨h.1,RepN.same S h.2⟩
theorem Rep.frame (R:Rep K β W c σ)(S:Same W.Hf Hf')(sub:Same Hf' H')(h:∀a,W.S a->Hf' a=none/\H' a=W.H a):Rep K β ⟨Hf',H',W.fps⟩ c σ :=
 ⟨sub,R.len,fun i o e=>by
  obtain⟨v,f,r,b⟩:=R.get i o e
  exact⟨v,f,r.mono S fun a d=>h a ⟨i,d⟩,b⟩,R.dis,fun i a d=>by
  obtain⟨_,o,q,j⟩:=R.own i a d;obtain⟨k,g⟩:=h a ⟨i,d⟩
  grind⟩
theorem Rep.notS (R:Rep K β W c σ)(h:W.H a=none):¬ W.S a:=fun⟨i,q⟩=>by
 obtain⟨_,o,e,_⟩:=R.own i a q
 grind
theorem Stp.rep (R:Rep K β W c σ)(x:Stp (fun _=>False) W.Hf W.H S' Hf' H')(sub:Same Hf' H'):Rep K β ⟨Hf',H',W.fps⟩ c σ :=
 R.frame x.fz sub fun a d=>by
  obtain⟨i,f⟩:=d;obtain⟨z,o,e,b⟩:=R.own i a f
  exact⟨x.nf a o e b (fun z=>z) z,(x.kp a o e fun z=>z).trans e.symm⟩
theorem Cw  {p:Addr}{o:HO}(h:H p=none):Same H (upd H p o):=fun b u e=>by
 rw[Ar];exact e
 grind
theorem Oe {o:HO}(s:Same Hf H):Same (upd Hf a o) (upd H a o):=fun b u e=>by
 unfold upd at e ⊢
 split
 ·grind
 ·rename_i z;rw[if_neg z]at e;exact s b u e
theorem Stp.newF {o:HO}(s:Same Hf H)(h:H a=none):Stp (fun _=>False) Hf H (fun _=>False) (upd Hf a o) (upd H a o) :=
 ⟨Cw (Same.free s h),fun b u e _=>Cw h b u e,fun b u e _ _ q=>by rw[Ar (Bv e h)];grind,fun _ z=>z.elim⟩
theorem Stp.newL {o:HO}(s:Same Hf H)(h:H a=none):Stp (fun _=>False) Hf H (fun b=>b∈[a]) Hf (upd H a o) :=
 ⟨Same.refl _,fun b u e _=>Cw h b u e,fun b u e _ _ q=>q,fun b z=>by
  grind⟩
theorem Z5 {o:HO}(s:Same Hf H)(h:H a=none):Same Hf (upd H a o):=s.trans (Cw h)
def ME (K:PySem.W.Frag)(T:TE)(f:Ev->R PV):Prop:=∀(β:Nat->V) (W:Wo) (c:Ev) (σ:St) (Q:VK),Rep K β W c σ ->
 (f c).sat (fun p c'=>∀v W' fp,Stp W.S W.Hf W.H (orS W'.S fp) W'.Hf W'.H->Rep K β W' c' σ->Fv K W' σ p v fp->Q v W'.H)->T σ W.H Q
def MV (K:PySem.W.Frag)(T:TE)(f:Ev->R PV):Prop:=∀(β:Nat->V) (W:Wo) (c:Ev) (σ:St) (Q:VK),Rep K β W c σ ->
 (f c).sat (fun p c'=>∀v W',Stp W.S W.Hf W.H W'.S W'.Hf W'.H->Rep K β W' c' σ->RepA K W'.Hf σ (nrm p) v->Q v W'.H)->T σ W.H Q
def MA (K:PySem.W.Frag)(T:TA)(f:Ev->R (List PV)):Prop:=∀(β:Nat->V) (W:Wo) (c:Ev) (σ:St) (Q:List V->Hp->Prop),Rep K β W c σ ->
 (f c).sat (fun ps c'=>∀vs W',Stp W.S W.Hf W.H W'.S W'.Hf W'.H->Rep K β W' c' σ->zH K W'.Hf σ ps vs->Q vs W'.H)->T σ W.H Q
def MT (K:PySem.W.Frag)(T:TT)(f:Ev->R Bool):Prop:=∀(β:Nat->V) (W:Wo) (c:Ev) (σ:St) (Q:Bool->Hp->Prop),Rep K β W c σ ->
 (f c).sat (fun b c'=>∀W',Stp W.S W.Hf W.H W'.S W'.Hf W'.H->Rep K β W' c' σ->Q b W'.H)->T σ W.H Q
theorem Zq  (R:Rep K β W c σ) (hf:W.Hf a=none) (h:W.H a=some (.lst vs)) (hn:¬ W.S a):Rep K β ⟨upd W.Hf a (.lst vs),W.H,W.fps⟩ c σ :=
 R.frame (Cw hf) (fun b u e=>by
  unfold upd at e
  split at e
  ·grind
  ·exact R.sub b u e) fun b f=>by
   obtain⟨i,g⟩:=f
   have d:b≠a:=fun z=>hn ⟨i,by simp_all⟩
   exact⟨by rw[Ar d];exact(R.own i b g).1,rfl⟩
theorem Bi7  {Q:VK}  (k:∀v c,Stp W.S W.Hf W.H c.S c.Hf c.H->Rep K β c c' σ->RepA K c.Hf σ (nrm p) v->Q v c.H) (v:V) (c:Wo) (fp:List Addr) (st:Stp W.S W.Hf W.H (orS c.S fp) c.Hf c.H) (g:Rep K β c c' σ) (f:Fv K c σ p v fp):Q v c.H:=by
 cases p with
 | sl i =>
  obtain⟨rfl,e⟩:=f
  exact k v _ (st.less fun a z=>.inl z) g e
 | o o =>
  cases o with
  | im d =>
   obtain⟨⟨rfl,e⟩,_⟩:=f
   exact k v _ (st.less fun a z=>.inl z) g e
  | sc d =>
   obtain⟨⟨rfl,e⟩,_⟩:=f
   exact k v _ (st.less fun a z=>.inl z) g e
  | ty d =>
   obtain⟨⟨rfl,e⟩,_⟩:=f
   exact k v _ (st.less fun a z=>.inl z) g e
  | ls b ds =>
   obtain⟨⟨a,l,rfl,rfl,h,r,t⟩,m⟩:=f
   refine k _ ⟨upd _ a _,c.H,c.fps⟩ ⟨st.fz.trans (Cw h),st.kp,fun b o e s n q=>?_,fun b z=>st.fr b (.inl z)⟩ (Zq g h r (m a (.head _))) ?_
   ·have j:b≠a:=fun z=>by
     rcases st.fr a (.inr (.head _)) with y | y
     ·grind
     simp_all
    show upd _ a _ b=none
    rw[Ar j];exact st.nf b o e s n q
   ·exact⟨a,l,rfl,Ca,TrL.same (Cw h) t⟩
theorem ME.toV   (h:ME K T f):MV K T f:=fun e W c j Q R s=>h _ W c _ Q R (s.mono fun p l k v g i a d b=>Bi7 k v _ _ a d b)
end
def RdV (Hf H:Hp):PyData->V->Prop
 | .list ds,v=>∃a vs,v=.ref a/\H a=some (.lst vs)/\TrL Hf ds vs
 | d,v=>Tr Hf d v
section
variable {K:PySem.W.Frag}{β:Nat->V}{W W':Wo}{c c':Ev}{σ:St}{Hf Hf' Hf2 H H' H2:Hp}{o:O}{v:V}{fp:List Addr}{S S' S2:Addr->Prop}{p:PV}{a:Addr}{d:PyData}
theorem RdV.of (s:Same Hf H)(h:Tr Hf d v):RdV Hf H d v:=by
 cases d with
 | list f=>obtain⟨a,c,e,q,t⟩:=h;exact⟨a,c,e,s _ _ q,t⟩
 | none=>exact h
 | bool b=>exact h
 | int i=>exact h
 | str x=>exact h
 | tuple f=>exact h
 | dict k=>exact h
theorem RdV.tr (s:Same Hf H)(h:RdV Hf H d v):Tr H d v:=by
 cases d with
 | list f=>obtain⟨a,c,e,q,t⟩:=h;exact⟨a,c,e,q,TrL.same s t⟩
 | none=>exact h
 | bool b=>exact h
 | int i=>exact h
 | str x=>exact h
 | tuple f=>exact Tr.same s h
 | dict k=>trivial
theorem Fw (R:Rep K β W c σ)(h:RepA K W.Hf σ p v)(e:Er c p=some d):RdV W.Hf W.H d v:=by
 cases p with
 | o o =>
  cases o with
  | im m=>cases e;exact .of R.sub h
  | ls b n=>trivial
  | sc k=>trivial
  | ty T=>trivial
 | sl i =>
  have l:c[i]?.join.bind _=some d:=e;obtain⟨o,g,f⟩:=Option.bind_eq_some_iff.mp l
  have g:c[i]?=some (some o):=by
   grind
  obtain⟨u,s,r,_⟩:=R.get i o g
  cases s.symm.trans h
  cases o with
  | im m=>cases f;exact .of R.sub r.2
  | ls b n =>
   cases f
   obtain⟨a,j,e,_,_,q,t⟩:=r;exact⟨a,j,e,q,t⟩
  | sc k=>trivial
  | ty T=>trivial
def Bv1 (Hf H:Hp):List PyData->List V->Prop
 | [],vs=>vs=[]
 | d::ds,vs=>∃v r,vs=v::r/\RdV Hf H d v/\Bv1 Hf H ds r
abbrev New (K:PySem.W.Frag)(Hf H:Hp)(o:O)(Q:VK):Prop:=∀v Hf' H' fp,Stp (fun _=>False) Hf H (fun a=>a∈fp) Hf' H'->Same Hf' H'->RepO K Hf' H' o v fp->Q v H'
def OpS (K:PySem.W.Frag)(r:R2)(op:PyData->PyData->Option O):Prop:=∀(Hf H:Hp) (x y:V) (dx dy:PyData) (o:O) (Q:VK),Same Hf H->RdV Hf H dx x->RdV Hf H dy y->op dx dy=some o->New K Hf H o Q->r x y H Q
def B0v (K:PySem.W.Frag)(r:List V->Hp->VK->Prop)(op:List PyData->Option O):Prop:=∀(Hf H:Hp) (xs:List V) (ds:List PyData) (o:O) (Q:VK),Same Hf H->Bv1 Hf H ds xs->op ds=some o->New K Hf H o Q->r xs H Q
theorem New.same  (h:New K Hf H (.im d) Q) (s:Same Hf H)  (t:Tr Hf d v):Q v H:=h v _ H [] (Stp.refl.less fun a z=>nomatch z) s ⟨rfl,t⟩
theorem New.tup    (h:New K Hf H (.im (.tuple ds)) Q) (s:Same Hf H) (t:TrL Hf ds vs) {p:Addr}(hp:H p=none):Q (.ref p) (upd H p (.tup vs)) :=
 h _ _ _ [] ((Stp.newF s hp).less fun a z=>nomatch z) (Oe s) ⟨rfl,p,vs,rfl,Ca,TrL.same (Cw (Same.free s hp)) t⟩
theorem New.lst    (h:New K Hf H (.ls false ds) Q) (s:Same Hf H) (t:TrL Hf ds vs) {p:Addr}(hp:H p=none):Q (.ref p) (upd H p (.lst vs)) :=
 h _ _ _ _ (Stp.newL s hp) (Z5 s hp) ⟨p,vs,rfl,rfl,Same.free s hp,Ca,t⟩
theorem New.of  (R:Rep K β W c σ) (k:∀v W' d,Stp W.S W.Hf W.H (orS W'.S d) W'.Hf W'.H->Rep K β W' c σ->Fv K W' σ (.o o) v d->Q v W'.H):New K W.Hf W.H o Q:=by
 intro v h j d b f r
 refine k v _ _ ⟨b.fz,fun a o e _=>b.kp a o e fun z=>z,fun a o e i _ q=>b.nf a o e i (fun z=>z) q,fun a z=>?_⟩ (b.rep R f) ⟨r,fun a g z=>?_⟩
 ·rcases z with z | z
  ·exact .inl z
  ·rcases b.fr a z with y | y
   ·trivial
   grind
 ·rcases b.fr a g with y | y
  ·omega
  ·exact R.notS y z
def cOp (op:PyData->PyData->Option O)(fa fb:Ev->R PV):Ev->R PV:=fun c=>(fa c).bind fun p c=>(fb c).bind fun q c =>
 match Er c (nrm p),Er c (nrm q) with
 | some x,some y=>match op x y with
  | some o=>.ok (.o o) c
  | none=>.bad
 | _,_=>.bad
theorem Ak     (ha:ME K g fa) (hb:ME K f fb) (hr:OpS K r op):ME K (tOp r g f) (cOp op fa fb):=by
 intro β W c σ Q R s
 refine ha.toV _ W c _ _ R (s.bnd.mono fun p c1 l v1 W1 d i j=>?_)
 refine hb.toV _ _ _ _ _ i (l.bnd.mono fun q e a v2 W2 b R2 k=>?_)
 cases ex:Er e (nrm p) with
 | none=>simp only[ex]at a;trivial
 | some x =>
  cases ey:Er e (nrm q) with
  | none=>simp only[ex,ey]at a;trivial
  | some y =>
   simp only[ex,ey]at a
   cases eo:op x y with
   | none=>simp only[eo]at a;trivial
   | some o =>
    simp only[eo]at a
    exact hr _ _ _ _ x y o Q R2.sub (Fw R2 (RepA.same b.fz j) ex) (Fw R2 k ey) eo (New.of R2 fun v W' fp m n h=>a v _ _ (d.trans (b.trans m)) n h)
def Al:Ev->R (List PV):=fun c=>.ok [] c
def Ac (f:Ev->R PV)(fr:Ev->R (List PV)):Ev->R (List PV):=fun c=>(f c).bind fun p c=>(fr c).bind fun ps c=>.ok (nrm p::ps) c
def cK (ds:List PyData):Ev->R (List PV):=fun c=>.ok (ds.map fun d=>.o (.im d)) c
theorem Ag:MA K G6 Al:=fun b W c a Q R s=>s _ W Stp.refl R rfl
theorem Aa {d:TE}    (ha:ME K d fa) (hr:MA K e f):MA K (Dh d e) (Ac fa f):=by
 intro t W c v Q R s
 refine ha.toV _ W c _ _ R (s.bnd.mono fun p o i j r b h g=>?_)
 refine hr _ _ _ _ _ h (i.bnd.mono fun w q m l u a n k=>?_)
 exact m _ _ (b.trans a) n ⟨j,l,rfl,RepA.same a.fz g,k⟩
def Ad (i:Nat):Ev->R PV:=fun c=>match c[i]? with
 | some (some (.ls _ _))=>.ok (.sl i) c
 | some (some o)=>.ok (.o o) c
 | _=>.bad
theorem Rep.here (R:Rep K β W c σ)  (h:RepN K W.Hf o v) (n:o.own=false) {Q:VK}(s:∀v W' fp,Stp W.S W.Hf W.H (orS W'.S fp) W'.Hf W'.H->Rep K β W' c σ->Fv K W' σ (.o o) v fp->Q v W'.H):Q v W.H :=
 s
  v W [] (Stp.refl.less fun a z=>by
  grind) R ⟨by
   cases o with
   | ls b e=>trivial
   | im d=>trivial
   | sc d=>trivial
   | ty d=>trivial,fun a z=>nomatch z⟩
theorem Ab  : ME K (Bs2 i) (Ad i):=by
 intro j W c h Q R s;unfold Ad at s
 cases e:c[i]? with
 | none=>simp only[e]at s;trivial
 | some x =>
  cases x with
  | none=>simp only[e]at s;trivial
  | some o =>
   obtain⟨v,f,r,_⟩:=R.get i o e
   refine⟨v,f,?_⟩
   simp only[e]at s
   cases o with
   | ls b g=>
    exact s v W _ (Stp.refl.less fun a z=>by
     rcases z with z | z
     ·omega
     simp_all) R ⟨rfl,f⟩
   | im d=>exact R.here r.2 rfl s
   | sc d=>exact R.here r.2 rfl s
   | ty d=>exact R.here r.2 rfl s
def cC (d:PyData):Ev->R PV:=fun c=>.ok (.o (.im d)) c
def vD:V->Option PyData
 | .non=>some .none
 | .bl b=>some (.bool b)
 | .int i=>some (.int i)
 | .str x=>some (.str x)
 | _=>none
theorem Bi8:∀{v:V}{d:PyData},vD v=some d->Tr H d v
 | .non,_,e=>by cases e;rfl
 | .bl b,_,e=>by cases e;rfl
 | .int i,_,e=>by cases e;rfl
 | .str x,_,e=>by cases e;rfl
 | .byt _,_,e=>nomatch e
 | .flt _,_,e=>nomatch e
 | .ref _,_,e=>nomatch e
 | .ty _,_,e=>nomatch e
theorem Am   (h:vD v=some d):ME K (tC v) (cC d):=fun b W c a Q R s=>R.here (o:=.im d) (Bi8 h) rfl s
def frz (p:PV)(c:Ev):R PyData:=match p with
 | .o (.im d)=>.ok d c
 | .o _=>.bad
 | .sl i=>match c[i]? with
  | some (some (.im d))=>.ok d c
  | some (some (.ls false ds))=>.ok (.list ds) (c.set i (some (.im (.list ds))))
  | _=>.bad
def clr (fps:Nat->List Addr)(i:Nat):Nat->List Addr:=fun j=>if j=i then [] else fps j
theorem Hd   (h:a∈clr b i j):a∈b j/\j≠i:=by
 unfold clr at h
 grind
theorem Rep.setN (R:Rep K β W c σ)   (h:RepN K W.Hf o v) (n:o.own=false):Rep K β ⟨W.Hf,W.H,clr W.fps i⟩ (c.set i (some o)) (σ.set i (some v)):=by
 refine⟨R.sub,by rw[List.length_set,List.length_set];exact R.len,fun j s e=>?_,fun j k a m g=>R.dis j k a (Hd m).1 (Hd g).1,fun j a h=>R.own j a (Hd h).1⟩
 by_cases z:j=i
 ·subst z
  by_cases l:j<c.length
  ·rw[List.getElem?_set_self l]at e
   cases e
   refine⟨v,by rw[List.getElem?_set_self (by rw[<- R.len];exact l)],?_,fun b=>?_⟩
   ·show RepO K W.Hf W.H o v (clr _ j j)
    unfold clr;rw[if_pos rfl]
    cases o with
    | ls b f=>exact nomatch n
    | im d=>exact⟨rfl,h⟩
    | sc d=>trivial
    | ty d=>exact⟨rfl,h⟩
   ·cases o with
    | ls b f=>exact nomatch n
    | im d=>exact nomatch b
    | sc d=>exact nomatch b
    | ty d=>exact nomatch b
  grind
 ·rw[List.getElem?_set_ne fun y=>z y.symm]at e
  obtain⟨p,q,r,b⟩:=R.get j _ e
  refine⟨p,by grind,?_,b⟩
  unfold clr
  simp_all
theorem Rep.setO (R:Rep K β W c σ)   (h:RepO K W.Hf W.H o v fp) (hn:∀a∈fp,¬ W.S a) (hb:o.bor=false):Rep K β ⟨W.Hf,W.H,fun j=>if j=i then fp else W.fps j⟩ (c.set i (some o)) (σ.set i (some v)):=by
 refine⟨R.sub,by rw[List.length_set,List.length_set];exact R.len,fun j o' e=>?_,fun j k a f g=>?_,fun j a f=>?_⟩
 ·by_cases z:j=i
  ·subst z
   by_cases l:j<c.length
   ·rw[List.getElem?_set_self l]at e
    cases e
    refine⟨v,by rw[List.getElem?_set_self (by rw[<- R.len];exact l)],?_,fun b=>by rw[hb]at b;cases b⟩
    simp_all
   simp_all
  ·rw[List.getElem?_set_ne fun y=>z y.symm]at e
   obtain⟨v',e1,r,b⟩:=R.get j _ e
   grind
 ·have f:a∈if j=i then fp else W.fps j:=f
  have g:a∈if k=i then fp else W.fps k:=g
  split at f
  ·split at g
   ·omega
   ·exact absurd ⟨k,g⟩ (hn a f)
  ·split at g
   ·exact absurd ⟨j,f⟩ (hn a g)
   ·exact R.dis j k a f g
 ·have f:a∈if j=i then fp else W.fps j:=f
  split at f
  ·cases o with
   | ls b ds =>
    obtain⟨a',vs,_,rfl,n,m,_⟩:=h
    cases List.mem_singleton.mp f
    exact⟨n,_,m,trivial⟩
   | im d=>rw[h.1]at f;cases f
   | sc d=>rw[h.1]at f;cases f
   | ty d=>rw[h.1]at f;cases f
  ·exact R.own j a f
theorem set_same {a:Type}{l:List a}  {x:a}(h:l[i]?=some x):l.set i x=l:=by
 apply List.ext_getElem?
 grind
theorem Rep.drop (R:Rep K β W c σ)(i:Nat):Rep K β ⟨W.Hf,W.H,clr W.fps i⟩ (c.set i none) σ:=by
 refine⟨R.sub,by rw[List.length_set];exact R.len,fun j m e=>?_,fun j k a g f=>R.dis j k a (Hd g).1 (Hd f).1,fun j a h=>R.own j a (Hd h).1⟩
 by_cases z:j=i
 ·grind
 ·rw[List.getElem?_set_ne fun y=>z y.symm]at e
  obtain⟨l,d,r,b⟩:=R.get j _ e
  refine⟨l,d,?_,b⟩
  unfold clr
  simp_all
theorem Ka (R:Rep K β W c σ)(h:RepA K W.Hf σ p v)  (s:(frz p c).sat k) :
 ∃d c' W',frz p c=.ok d c'/\k d c'/\W'.H=W.H/\Stp W.S W.Hf W.H W'.S W'.Hf W'.H/\Rep K β W' c' σ/\Tr W'.Hf d v:=by
 cases p with
 | o o =>
  cases o with
  | im d=>exact⟨d,c,W,rfl,s,rfl,Stp.refl,R,h⟩
  | ls b w=>exact s.elim
  | sc d=>exact s.elim
  | ty d=>exact s.elim
 | sl i =>
  unfold frz at s ⊢
  cases e:c[i]? with
  | none=>simp only[e]at s;exact s.elim
  | some x =>
   cases x with
   | none=>simp only[e]at s;exact s.elim
   | some o =>
    obtain⟨v',u,r,_⟩:=R.get i o e
    cases (show some _=some _ from u.symm.trans h)
    cases o with
    | im d=>simp only[e]at s;exact⟨d,c,W,by simp only[e],s,rfl,Stp.refl,R,r.2⟩
    | sc d=>simp only[e]at s;exact s.elim
    | ty d=>simp only[e]at s;exact s.elim
    | ls b w =>
     cases b with
     | true=>simp only[e]at s;exact s.elim
     | false =>
      simp only[e]at s;obtain⟨a,m,rfl,l,f,A,t⟩:=r
      refine⟨.list _,c.set i _,⟨upd _ a _,W.H,clr W.fps i⟩,by simp only[e],s,rfl,⟨Cw f,fun b o e _=>e,fun b o e mu n q=>?_,fun b z=>?_⟩,?_,⟨a,m,rfl,Ca,TrL.same (Cw f) t⟩⟩
      ·have C:b≠a:=fun z=>n ⟨i,by rw[z,l];exact .head _⟩
       show upd _ a _ b=none
       rw[Ar C];exact q
      ·obtain⟨j,g⟩:=z
       exact .inl ⟨j,(Hd g).1⟩
      ·have B:¬ Wo.S ⟨W.Hf,W.H,clr W.fps i⟩ a:=fun⟨j,g⟩=>by
        obtain⟨E,D⟩:=Hd g
        exact D (R.dis j i a E (by rw[l];exact .head _))
       have y:=(Zq (R.drop i) f A B).setN (i:=i) (o:=.im (.list _))  ⟨a,m,rfl,Ca,TrL.same (Cw f) t⟩ rfl;rw[set_same h]at y
       have z:clr (clr W.fps i) i=clr W.fps i:=by funext j;unfold clr;split <;> rfl
       simp_all
def vDs:List V->Option (List PyData)
 | []=>some []
 | v::vs=>(vD v).bind fun d=>(vDs vs).map (d::·)
theorem At7:∀{vs:List V}{ds:List PyData},vDs vs=some ds->zH K Hf σ (ds.map fun d=>.o (.im d)) vs
 | [],_,e=>by cases (show some []=some _ from e);exact rfl
 | v::vs,ds,e=>by
  obtain⟨d,e1,e2⟩:=Option.bind_eq_some_iff.mp (show ((vD v).bind fun d=>(vDs vs).map (d::·))=some ds from e)
  obtain⟨ds',e3,rfl⟩:=Option.map_eq_some_iff.mp e2;exact⟨v,vs,rfl,Bi8 e1,At7 e3⟩
theorem Bl3   (h:vDs vs=some ds):MA K (tK vs) (cK ds):=fun b W c a Q R s=>s _ W Stp.refl R (At7 h)
def frzs:List PV->Ev->R (List PyData)
 | [],c=>.ok [] c
 | p::ps,c=>(frz p c).bind fun d c=>(frzs ps c).bind fun ds c=>.ok (d::ds) c
theorem Qm:∀{ps:List PV}{vs:List V}{W:Wo}{c:Ev}{φ:List PyData->Ev->Prop},Rep K β W c σ->zH K W.Hf σ ps vs->(frzs ps c).sat φ ->
 ∃ds c' W',φ ds c'/\W'.H=W.H/\Stp W.S W.Hf W.H W'.S W'.Hf W'.H/\Rep K β W' c' σ/\TrL W'.Hf ds vs
 | [],vs,W,c,φ,R,h,s=>⟨[],c,W,s,rfl,Stp.refl,R,h⟩
 | p::ps,_,W,c,φ,R,⟨v,r,rfl,h,t⟩,s=>by
  obtain⟨d,c1,W1,_,s1,e1,st1,R1,t1⟩:=Ka R h s.bnd;obtain⟨ds,c2,W2,s2,e2,st2,R2,t2⟩:=Qm R1 (zH.same st1.fz t) s1.bnd;exact⟨d::ds,c2,W2,s2,e2.trans e1,st1.trans st2,R2,v,r,rfl,Tr.same st2.fz t1,t2⟩
def Ei (f:Ev->R (List PV)):Ev->R PV:=fun c=>(f c).bind fun ps c=>(frzs ps c).bind fun ds c=>if ds.length<=1000 then .ok (.o (.im (.tuple ds))) c else .bad
def Hn (f:Ev->R (List PV)):Ev->R PV:=fun c=>(f c).bind fun ps c=>(frzs ps c).bind fun ds c=>if ds.length<=1000 then .ok (.o (.ls false ds)) c else .bad
theorem Au2  (h:n<=1000):n<=sizeLine:=Nat.le_trans h (by decide)
theorem Cq   (h:MA K t f):ME K (A5c t) (Ei f):=by
 intro w W c z Q R s
 refine h _ W c _ _ R (s.bnd.mono fun x y k A F b o m=>?_)
 obtain⟨r,B,E,a,j,d,e,i⟩:=Qm o m k.bnd
 by_cases l:r.length<=1000
 ·rw[if_pos l]at a
  refine⟨by rw[<- i.length];exact Au2 l,fun p g=>?_⟩
  rw[<- j]at g ⊢
  exact New.tup (New.of e fun v C D q u n=>a v _ _ (b.trans (d.trans q)) u n) e.sub i g
 ·rw[if_neg l]at a;trivial
theorem Ed   (h:MA K t f):ME K (Bx5 t) (Hn f):=by
 intro w W c z Q R s
 refine h _ W c _ _ R (s.bnd.mono fun x y k A F b o m=>?_)
 obtain⟨r,B,E,a,j,d,e,i⟩:=Qm o m k.bnd
 by_cases l:r.length<=1000
 ·rw[if_pos l]at a
  refine⟨by rw[<- i.length];exact Au2 l,fun p g=>?_⟩
  rw[<- j]at g ⊢
  exact New.lst (New.of e fun v C D q u n=>a v _ _ (b.trans (d.trans q)) u n) e.sub i g
 ·rw[if_neg l]at a;trivial
end
def Ho (cI:Ev):List (Nat×Nat)->Ev->Option Ev
 | [],c=>some c
 | (k,i)::m,c=>match c[i]? with
  | some (some (.ls b _))=>match cI[k]? with
   | some (some (.ls true ds))=>Ho cI m (c.set i (some (.ls b ds)))
   | _=>none
  | _=>Ho cI m c
def inn (m:List (Nat×Nat))(i:Nat):Option Nat:=(m.find? fun p=>p.2==i).map (·.1)
def As6 (m:List (Nat×Nat))(k:Nat):Option Nat:=(m.find? fun p=>p.1==k).map (·.2)
theorem Jq   : inn ((k,j)::m) i=if j=i then some k else inn m i:=by
 unfold inn
 grind
theorem Ui   (h:inn m i=some k):(k,i)∈m:=by
 induction m with
 | nil=>cases h
 | cons p m a =>
  rw[Jq]at h
  grind
theorem Ug   (b:(m.map (·.2)).Nodup) (h:(k,i)∈m):inn m i=some k:=by
 induction m with
 | nil=>grind
 | cons p m a =>
  rw[Jq]
  grind
theorem Ay6 {m:List (Nat×Nat)}  (b:(m.map (·.1)).Nodup) (h:(k,i)∈m) (h':(k,j)∈m):i=j:=by
 induction m with
 | nil=>grind
 | cons p m a =>
  grind
theorem Ry {cI:Ev}:∀{m:List (Nat×Nat)}{c cO:Ev},(m.map (·.2)).Nodup->Ho cI m c=some cO->cO.length=c.length/\∀i,
 (∃b ds0 k ds,c[i]?=some (some (.ls b ds0))/\inn m i=some k/\cI[k]?=some (some (.ls true ds))/\cO[i]?=some (some (.ls b ds))) \/
 (cO[i]?=c[i]?/\∀b ds,c[i]?=some (some (.ls b ds))->inn m i=none)
 | [],c,cO,nd,e=>by cases (show some c=some cO from e);exact⟨rfl,fun i=>.inr ⟨rfl,fun _ _ _=>rfl⟩⟩
 | (k,j)::m,c,cO,nd,e=>by
  rw[List.map_cons,List.nodup_cons]at nd
  have nj:inn m j=none:=by
   cases q:inn m j with
   | none=>rfl
   | some k'=>exact absurd (List.mem_map.mpr ⟨(k',j),Ui q,rfl⟩) nd.1
  unfold Ho at e
  have other:Ho cI m c=some cO->(∀b ds,c[j]?≠some (some (.ls b ds)))->cO.length=c.length/\∀i,
   (∃b ds0 k' ds,c[i]?=some (some (.ls b ds0))/\inn ((k,j)::m) i=some k'/\cI[k']?=some (some (.ls true ds))/\cO[i]?=some (some (.ls b ds))) \/
   (cO[i]?=c[i]?/\∀b ds,c[i]?=some (some (.ls b ds))->inn ((k,j)::m) i=none):=fun e hn=>by
   obtain⟨hl,hg⟩:=Ry nd.2 e
   refine⟨hl,fun i=>?_⟩
   rcases hg i with ⟨b,ds0,k',ds,q1,q2,q3,q4⟩ | ⟨q1,q2⟩
   ·refine .inl ⟨b,ds0,k',ds,q1,?_,q3,q4⟩
    rw[Jq,if_neg (fun z=>hn b ds0 (by rw[z];exact q1))];exact q2
   ·refine .inr ⟨q1,fun b ds q=>?_⟩
    rw[Jq,if_neg (fun z=>hn b ds (by rw[z];exact q))];exact q2 b ds q
  cases ec:c[j]? with
  | none=>simp only[ec]at e;exact other e fun b ds z=>by rw[ec]at z;cases z
  | some x =>
   cases x with
   | none=>simp only[ec]at e;exact other e fun b ds z=>by rw[ec]at z;cases z
   | some o =>
    cases o with
    | im d=>simp only[ec]at e;exact other e fun b ds z=>by rw[ec]at z;cases z
    | sc d=>simp only[ec]at e;exact other e fun b ds z=>by rw[ec]at z;cases z
    | ty d=>simp only[ec]at e;exact other e fun b ds z=>by rw[ec]at z;cases z
    | ls b0 ds0 =>
     simp only[ec]at e
     cases ei:cI[k]? with
     | none=>simp only[ei]at e;cases e
     | some x =>
      cases x with
      | none=>simp only[ei]at e;cases e
      | some o =>
       cases o with
       | im d=>simp only[ei]at e;cases e
       | sc d=>simp only[ei]at e;cases e
       | ty d=>simp only[ei]at e;cases e
       | ls b1 ds1 =>
        cases b1 with
        | false=>simp only[ei]at e;cases e
        | true =>
         simp only[ei]at e
         have lj:j<c.length:=by
          rcases Nat.lt_or_ge j c.length with q | q
          ·exact q
          ·rw[List.getElem?_eq_none q]at ec;cases ec
         obtain⟨hl,hg⟩:=Ry nd.2 e;rw[List.length_set]at hl
         refine⟨hl,fun i=>?_⟩
         by_cases z:j=i
         ·subst z
          rcases hg j with ⟨b,ds0',k',ds,q1,q2,q3,q4⟩ | ⟨q1,q2⟩
          ·rw[nj]at q2;cases q2
          ·rw[List.getElem?_set_self lj]at q1
           exact .inl ⟨b0,ds0,k,ds1,ec,by rw[Jq,if_pos rfl],ei,q1⟩
         ·have gs:(c.set j (some (.ls b0 ds1)))[i]?=c[i]?:=List.getElem?_set_ne z
          rcases hg i with ⟨b,ds0',k',ds,q1,q2,q3,q4⟩ | ⟨q1,q2⟩
          ·rw[gs]at q1
           exact .inl ⟨b,ds0',k',ds,q1,by rw[Jq,if_neg z];exact q2,q3,q4⟩
          ·rw[gs]at q1 q2
           exact .inr ⟨q1,fun b ds q=>by rw[Jq,if_neg z];exact q2 b ds q⟩
def Ig:Option (Option O)->Bool
 | some (some (.ls _ _))=>true
 | _=>false
def T6 (m:List (Nat×Nat))(c:Ev)(fps:Nat->List Addr):Nat->List Addr:=fun k=>match As6 m k with
 | some i=>if Ig c[i]? then fps i else []
 | none=>[]
theorem U0   (h:As6 m k=some i):(k,i)∈m:=by
 obtain⟨p,b,a⟩:=Option.map_eq_some_iff.mp h
 grind
theorem Hg      (h:a∈T6 m c b k):∃i,(k,i)∈m/\Ig c[i]?=true/\a∈b i:=by
 unfold T6 at h
 cases e:As6 m k with
 | none=>grind
 | some i =>
  rw[e]at h
  have h:a∈if Ig _ then b i else []:=h
  by_cases q:Ig c[i]?=true
  ·rw[if_pos q]at h;exact⟨i,U0 e,q,h⟩
  grind
theorem Ba3   (a:(m.map (·.1)).Nodup) (h:(k,i)∈m):As6 m k=some i:=by
 cases e:As6 m k with
 | none =>
  unfold As6 at e;rw[Option.map_eq_none_iff]at e
  grind
 | some j=>rw[Ay6 a h (U0 e)]
def Ao7 (m:List (Nat×Nat))(c:Ev)(fps fpsJ:Nat->List Addr):Nat->List Addr:=fun i=>if Ig c[i]? then (match inn m i with
 | some k=>fpsJ k
 | none=>fps i) else fps i
section
variable {K:PySem.W.Frag}{β β':Nat->V}{W W':Wo}{c cI cI' cO:Ev}{σ σI σI':St}{m:List (Nat×Nat)}{fp:List Addr}
structure Lent (K:PySem.W.Frag) (Hf:Hp) (m:List (Nat×Nat)) (c:Ev) (σ:St) (β':Nat->V) (cI:Ev) (σI:St):Prop where
 n1:(m.map (·.1)).Nodup
 n2:(m.map (·.2)).Nodup
 len:cI.length=σI.length
 at_:∀k o,cI[k]?=some (some o)->(o.own=false/\(∀i,(k,i)∈m->Ig c[i]?=false)/\(∃v,σI[k]?=some (some v)/\RepN K Hf o v))\/∃i b ds v,(k,i)∈m/\c[i]?=some (some (.ls b ds))/\o=.ls true ds/\σ[i]?=some (some v)/\σI[k]?=some (some v)/\β' k=v
theorem Lent.rep (L:Lent K W.Hf m c σ β' cI σI)(R:Rep K β W c σ):Rep K β' ⟨W.Hf,W.H,T6 m c W.fps⟩ cI σI:=by
 refine⟨R.sub,L.len,fun k o e=>?_,fun k l a B C=>?_,fun k a h=>?_⟩
 ·rcases L.at_ k o e with ⟨n,s,v,p,r⟩ | ⟨i,b,x,v,E,w,rfl,J,p,A⟩
  ·refine⟨v,p,?_,fun q=>?_⟩
   ·have g:∀t ,t=[]->RepO K _ W.H o v t:=fun t z=>by
     cases o with
     | ls b x=>exact nomatch n
     | im d=>exact⟨z,r⟩
     | sc d=>exact⟨z,r⟩
     | ty d=>exact⟨z,r⟩
    refine g _ ?_
    show T6 m c _ k=[]
    unfold T6
    cases q:As6 m k with
    | none=>rfl
    | some i =>
     show (if Ig _ then W.fps i else [])=[]
     rw[s i (U0 q)]
     rfl
   ·cases o with
    | ls b x=>exact nomatch n
    | im d=>exact nomatch q
    | sc d=>exact nomatch q
    | ty d=>exact nomatch q
  ·obtain⟨v',f,r,_⟩:=R.get i _ w
   cases (show some _=some _ from f.symm.trans J)
   refine⟨v,p,?_,fun _=>A.symm⟩
   obtain⟨a,F,G,D,I⟩:=r
   refine⟨a,F,G,?_,I⟩
   show T6 m c _ k=[a]
   unfold T6;rw[Ba3 L.n1 E]
   show (if Ig _ then W.fps i else [])=[a]
   rw[w];exact D
 ·obtain⟨i,H,_,u⟩:=Hg B
  obtain⟨j,M,_,y⟩:=Hg C
  cases R.dis i j a u y
  have f:=Ug L.n2 M;rw[(Ug L.n2 H)]at f;exact Option.some.inj f
 ·obtain⟨i,_,_,u⟩:=Hg h
  exact R.own i a u
theorem A9k  (h:Ig x=true):∃b ds,x=some (some (.ls b ds)):=by
 match x,h with
 | some (some (.ls b _)),_=>grind
theorem Lent.back (L:Lent K W.Hf m c σ β' cI σI)(R:Rep K β W c σ)(I:Rep K β' W' cI' σI')(st:Stp (Wo.S ⟨W.Hf,W.H,T6 m c W.fps⟩) W.Hf W.H (orS W'.S fp) W'.Hf W'.H)(hb:Ho cI' m c=some cO)
 (H:∀k i b J v,(k,i)∈m->c[i]?=some (some (.ls b J))->σ[i]?=some (some v)->β' k=v) (Q:∀a∈fp,¬ W'.S a) :
 ∃W2:Wo,W2.Hf=W'.Hf/\W2.H=W'.H/\Rep K β W2 cO σ/\Stp W.S W.Hf W.H (orS W2.S fp) W'.Hf W'.H/\∀a∈fp,¬ W2.S a:=by
 obtain⟨hl,hg⟩:=Ry L.n2 hb
 have t:∀k a,a∈W'.fps k->(∃i,(∃l,(l,i)∈m)/\Ig c[i]?=true/\a∈W.fps i)\/W.H a=none:=fun k a h=>by
  rcases st.fr a (.inl ⟨k,h⟩) with ⟨l,q⟩ | q
  ·obtain⟨i,s,x,g⟩:=Hg q
   exact .inl ⟨i,⟨l,s⟩,x,g⟩
  ·exact .inr q
 have d:∀i a,a∈W.fps i->(Ig c[i]?=true->inn m i=none)->¬ Wo.S ⟨W.Hf,W.H,T6 m c W.fps⟩ a:=fun i a h n ⟨k,q⟩=>by
  obtain⟨j,s,x,g⟩:=Hg q
  cases (R.dis i j a h g)
  have:=n x;rw[Ug L.n2 s]at this;cases this
 have D:∀i a,a∈Ao7 m c W.fps W'.fps i->(∃k,inn m i=some k/\Ig c[i]?=true/\a∈W'.fps k)\/(a∈W.fps i/\(Ig c[i]?=true->inn m i=none)):=fun i a h=>by
  have h:a∈if Ig c[i]? then (match inn m i with | some k=>W'.fps k | none=>W.fps i) else W.fps i:=h
  by_cases q:Ig c[i]?=true
  ·rw[if_pos q]at h
   cases e:inn m i with
   | none=>rw[e]at h;exact .inr ⟨h,fun _=>rfl⟩
   | some k=>rw[e]at h;exact .inl ⟨k,rfl,q,h⟩
  ·rw[if_neg q]at h;exact .inr ⟨h,fun z=>absurd z q⟩
 have p:∀i k a,a∈W.fps i->(Ig c[i]?=true->inn m i=none)->a∈W'.fps k->False:=fun i k a h n V=>by
  rcases t k a V with ⟨j,⟨l,s⟩,x,g⟩ | q
  ·cases (R.dis i j a h g)
   have:=n x;rw[Ug L.n2 s]at this;cases this
  ·obtain⟨_,o,e,_⟩:=R.own i a h
   rw[q]at e;cases e
 refine⟨⟨W'.Hf,W'.H,Ao7 m c W.fps W'.fps⟩,rfl,rfl,⟨I.sub,hl.trans R.len,fun i o e=>?_,fun i j a Z T=>?_,fun i a h=>?_⟩,⟨st.fz,fun a o e n=>st.kp a o e fun⟨k,q⟩=>?_,fun a o e F n q=>st.nf a o e F (fun zz=>?_) q,fun a h=>?_⟩,fun a C ⟨i,h⟩=>?_⟩
 ·rcases hg i with ⟨b,N,k,J,s,x,g,U⟩ | ⟨s,x⟩
  ·rw[U]at e;cases e
   obtain⟨v,M,r,P⟩:=R.get i _ s;obtain⟨X,e1',r',O⟩:=I.get k _ g;have S:=O rfl;rw[H k i b N v (Ui x) s M]at S;subst S
   refine⟨X,M,?_,P⟩
   obtain⟨a,Y,A,E,G⟩:=r'
   refine⟨a,Y,A,?_,G⟩
   show Ao7 m c W.fps W'.fps i=[a]
   unfold Ao7;rw[s,x];exact E
  ·rw[s]at e
   obtain⟨v,M,r,P⟩:=R.get i _ e
   refine⟨v,M,?_,P⟩
   have n:Ig c[i]?=true->inn m i=none:=fun z=>by
    obtain⟨b,J,z⟩:=A9k z;exact x b J z
   have ef:Ao7 m c W.fps W'.fps i=W.fps i:=by
    unfold Ao7
    by_cases q:Ig c[i]?=true
    ·rw[if_pos q,n q]
    ·rw[if_neg q]
   show RepO K W'.Hf W'.H o v (Ao7 m c W.fps W'.fps i)
   rw[ef]
   refine r.mono st.fz fun a C=>?_
   obtain⟨z,u,y,F⟩:=R.own i a C;exact⟨st.nf a u y F (d i a C n) z,(st.kp a u y (d i a C n)).trans y.symm⟩
 ·rcases D i a Z with ⟨k,f,w,B⟩ | ⟨f,w⟩
  ·rcases D j a T with ⟨l,A,E,G⟩ | ⟨A,E⟩
   ·cases I.dis k l a B G
    exact Ay6 L.n1 (Ui f) (Ui A)
   ·exact(p j k a A E B).elim
  ·rcases D j a T with ⟨l,A,E,G⟩ | ⟨A,E⟩
   ·exact(p i l a f w G).elim
   ·exact R.dis i j a f A
 ·rcases D i a h with ⟨k,f,w,B⟩ | ⟨f,w⟩
  ·exact I.own k a B
  ·obtain⟨z,u,y,F⟩:=R.own i a f
   exact⟨st.nf a u y F (d i a f w) z,u,st.kp a u y (d i a f w),F⟩
 ·obtain⟨i,_,_,g⟩:=Hg q
  exact n ⟨i,g⟩
 ·obtain⟨k,q'⟩:=zz
  obtain⟨i,_,_,g⟩:=Hg q';exact n ⟨i,g⟩
 ·rcases h with ⟨i,h⟩ | h
  ·rcases D i a h with ⟨k,f,w,B⟩ | ⟨f,w⟩
   ·rcases t k a B with ⟨j,_,_,q⟩ | q
    ·exact .inl ⟨j,q⟩
    ·exact .inr q
   ·exact .inl ⟨i,f⟩
  ·rcases st.fr a (.inr h) with ⟨k,q⟩ | q
   ·obtain⟨i,_,_,g⟩:=Hg q
    exact .inl ⟨i,g⟩
   ·exact .inr q
 ·rcases D i a h with ⟨k,f,w,B⟩ | ⟨f,w⟩
  ·exact Q a C ⟨k,B⟩
  ·rcases st.fr a (.inr C) with q | q
   ·exact d i a f w q
   ·obtain⟨_,u,y,_⟩:=R.own i a f
    rw[q]at y;cases y
end
inductive SR where
 | nx (c:Ev)
 | rt (p:PV) (c:Ev)
 | bk (c:Ev)
 | ct (c:Ev)
 | bad
def zK (K:PySem.W.Frag)(β:Nat->V)(W:Wo)(D:Ends):SR->Prop
 | .nx c'=>∀σ' W',Stp W.S W.Hf W.H W'.S W'.Hf W'.H->Rep K β W' c' σ'->D.nx σ' W'.H
 | .bk c'=>∀σ' W',Stp W.S W.Hf W.H W'.S W'.Hf W'.H->Rep K β W' c' σ'->D.bk σ' W'.H
 | .ct c'=>∀σ' W',Stp W.S W.Hf W.H W'.S W'.Hf W'.H->Rep K β W' c' σ'->D.ct σ' W'.H
 | .rt p c'=>∀σ' v W' fp,Stp W.S W.Hf W.H (orS W'.S fp) W'.Hf W'.H->Rep K β W' c' σ'->Fv K W' σ' p v fp->D.rt v W'.H
 | .bad=>False
def MS (K:PySem.W.Frag)(T:TS)(f:Ev->SR):Prop:=∀(β:Nat->V) (W:Wo) (c:Ev) (σ:St) (D:Ends),Rep K β W c σ->zK K β W D (f c)->T D σ W.H
def MG (K:PySem.W.Frag)(g:TG)(cg:PV->Ev->R Unit):Prop:=∀(β:Nat->V) (W:Wo) (c:Ev) (σ:St) (p:PV) (v:V) (fp:List Addr) (k:St->Hp->Prop),Rep K β W c σ->Fv K W σ p v fp ->
 (cg p c).sat (fun _ c'=>∀σ' W',Stp (orS W.S fp) W.Hf W.H W'.S W'.Hf W'.H->Rep K β W' c' σ'->k σ' W'.H)->g v σ W.H k
def MGs (K:PySem.W.Frag)(g:TGs)(cg:List PyData->Ev->R Unit):Prop:=∀(β:Nat->V) (W:Wo) (c:Ev) (σ:St) (ds:List PyData) (vs:List V) (k:St->Hp->Prop),Rep K β W c σ->TrL W.Hf ds vs ->
 (cg ds c).sat (fun _ c'=>∀σ' W',Stp W.S W.Hf W.H W'.S W'.Hf W'.H->Rep K β W' c' σ'->k σ' W'.H)->g vs σ W.H k
def R.toS {α:Type}(r:R α)(k:α->Ev->SR):SR:=match r with
 | .ok a c=>k a c
 | .bad=>.bad
section
variable {K:PySem.W.Frag}{β β':Nat->V}{W W':Wo}{c c' cI cI' cO:Ev}{σ σ' σI σI':St}{D:Ends}{Hf H:Hp}{o:O}{v:V}{fp:List Addr}
theorem Gg  {r:R b}{k:b->Ev->SR}(h:zK K β W D (r.toS k)):r.sat fun a c=>zK K β W D (k a c):=by
 cases r with
 | ok a c=>exact h
 | bad=>exact h
theorem zK.step  (h:zK K β W D r) (st:Stp W.S W.Hf W.H W'.S W'.Hf W'.H):zK K β W' D r:=by
 cases r with
 | nx c=>exact fun b d a R=>h _ _ (st.trans a) R
 | bk c=>exact fun b d a R=>h _ _ (st.trans a) R
 | ct c=>exact fun b d a R=>h _ _ (st.trans a) R
 | rt p c=>exact fun b v d e a R r=>h _ v _ _ (st.trans a) R r
 | bad=>exact h
def Bf (f g:Ev->SR):Ev->SR:=fun c=>match f c with
 | .nx c=>g c
 | r=>r
theorem Aw   (h1:MS K t f) (h2:MS K u g):MS K (Bg8 t u) (Bf f g):=by
 intro k W c i D R l
 refine h1 _ W c _ _ R ?_
 unfold Bf at l
 cases e:f c with
 | nx a=>rw[e]at l;exact fun h j d b=>h2 _ _ _ _ D b (zK.step l d)
 | rt p a=>rw[e]at l;exact l
 | bk a=>rw[e]at l;exact l
 | ct a=>rw[e]at l;exact l
 | bad=>rw[e]at l;exact l
def Du:Ev->SR:=fun c=>.nx c
theorem Cg:MS K A2z Du:=fun b W c a D R l=>l _ W Stp.refl R
def Kz (f:Ev->R PV):Ev->SR:=fun c=>(f c).toS fun _ c=>.nx c
theorem Qv   (h:ME K a f):MS K (A8v a) (Kz f):=fun g W c i D R l =>
 h.toV _ W c _ _ R ((Gg l).mono fun p k e v j d b _=>e _ _ d b)
def Dc (f:Ev->R PV):Ev->SR:=fun c=>(f c).toS fun p c=>.rt p c
theorem Bb   (h:ME K a f):MS K (Bs9 a) (Dc f):=fun i W c n D R l =>
 h _ W c _ _ R ((Gg l).mono fun p m e v j k d g b=>e _ v _ _ d g b)
def cIf (t:Ev->R Bool)(f g:Ev->SR):Ev->SR:=fun c=>(t c).toS fun b c=>if b=true then f c else g c
theorem Fl     (h:MT K d ft) (h1:MS K t f) (h2:MS K u g):MS K (A8b d t u) (cIf ft f g):=fun k W c j D R l =>
 h
  _ W c _ _ R ((Gg l).mono fun b n i m e a=>by
  cases b with
  | true=>exact h1 _ _ _ _ D a (zK.step i e)
  | false=>exact h2 _ _ _ _ D a (zK.step i e))
def cgN (i:Nat):PV->Ev->R Unit:=fun p c=>match p with
 | .o (.ls _ ds)=>.ok () (c.set i (some (.ls false ds)))
 | .o o=>.ok () (c.set i (some o))
 | .sl j=>(frz (.sl j) c).bind fun d c=>.ok () (c.set i (some (.im d)))
theorem Bx1   (h:Wo.S ⟨Hf,H,clr W.fps i⟩ a):W.S a:=by
 obtain⟨j,h⟩:=h;exact⟨j,(Hd h).1⟩
theorem Aj  : MG K (Px i) (cgN i):=by
 intro w W c x p v u k R r s
 have f:∀{o:O} {g:Wo} {m:Ev},Rep K w g m x->o.own=false->RepN K g.Hf o v->Stp (orS W.S u) W.Hf W.H g.S _ g.H->g.H=W.H->(∀σ' W',Stp _ _ _ W'.S W'.Hf W'.H->Rep K _ W' _ σ'->k σ' W'.H)->k _ W.H:=fun {o g m} h n r l e s=>by
  rw[<- e]
  exact s _ ⟨g.Hf,g.H,clr _ i⟩ (l.less fun a z=>Bx1 z) (h.setN r n)
 cases p with
 | sl j =>
  obtain⟨rfl,e⟩:=r
  obtain⟨d,m,g,e1,A,y,l,h,t⟩:=Ka R (show RepA K _ _ (.sl j) v from e) s.bnd
  exact f h (o:=.im d) rfl t (l.up fun a z=>.inl z) y A
 | o o =>
  cases o with
  | im d=>exact f R rfl r.1.2 (Stp.refl.up fun a z=>.inl z) rfl s
  | sc d=>exact f R rfl r.1.2 (Stp.refl.up fun a z=>.inl z) rfl s
  | ty d=>exact f R rfl r.1.2 (Stp.refl.up fun a z=>.inl z) rfl s
  | ls b ds =>
   refine s _ ⟨W.Hf,W.H,fun j=>if j=i then u else W.fps j⟩ ⟨Same.refl _,fun a o e _=>e,fun a o e _ _ q=>q,fun a z=>?_⟩ (R.setO  r.1 r.2 rfl)
   obtain⟨j,z⟩:=z
   have z:a∈if j=i then u else W.fps j:=z
   split at z
   ·grind
   ·exact .inl (.inl ⟨j,z⟩)
def Ek:List PyData->Ev->R Unit:=fun ds c=>match ds with
 | []=>.ok () c
 | _=>.bad
def Ba (g:PV->Ev->R Unit)(gs:List PyData->Ev->R Unit):List PyData->Ev->R Unit:=fun ds c=>match ds with
 | d::ds=>(g (.o (.im d)) c).bind fun _ c=>gs ds c
 | []=>.bad
theorem Ir:MGs K A9r Ek:=fun f W c e a b k R t s=>by
 cases a with
 | nil=>cases (t);exact⟨rfl,s _ W Stp.refl R⟩
 | cons d r=>trivial
theorem Dt     (h1:MG K t g) (h2:MGs K u f):MGs K (Aj9 t u) (Ba g f):=fun β W c σ x vs k R j s=>by
 cases x with
 | nil=>trivial
 | cons d r =>
  obtain⟨v,l,rfl,m,n⟩:=j
  refine⟨v,l,rfl,h1 _ W c _ (.o (.im d)) v _ _ R ⟨⟨rfl,m⟩,fun a z=>nomatch z⟩ (s.bnd.mono fun _ c1 o i W1 b q=>?_)⟩
  have b:=b.up (S2:=W.S) fun a z=>by
   grind
  exact h2 _ _ _ _ r _ k q (TrL.same b.fz n) (o.mono fun _ c2 p w W2 e h=>p _ _ (b.trans e) h)
def cgT (n:Nat)(gs:List PyData->Ev->R Unit):PV->Ev->R Unit:=fun p c=>match p with
 | .o (.im (.tuple ds))=>if ds.length=n then gs ds c else .bad
 | _=>.bad
theorem Lp    (h:MGs K t d):MG K (Be5 K n t) (cgT n d):=by
 intro u W c w p v q k R r s
 match p,r,s with
 | .o (.im (.tuple ds)),r,s =>
  obtain⟨⟨b,a,j,b,l,f⟩,_⟩:=r
  have s:(if ds.length=n then d _ c else .bad:U.R _).sat _:=s
  by_cases e:ds.length=n
  ·rw[if_pos e]at s
   refine⟨a,j,b,SqT.of (R.sub _ _ l),by rw[<- f.length];exact e,h _ W c _ _ _ k R f (s.mono fun _ y i m x o g=>i _ _ (o.up fun a z=>.inl z) g)⟩
  ·rw[if_neg e]at s;trivial
 | .o (.im .none),r,s=>trivial
 | .o (.im (.bool _)),r,s=>trivial
 | .o (.im (.int _)),r,s=>trivial
 | .o (.im (.str _)),r,s=>trivial
 | .o (.im (.list _)),r,s=>trivial
 | .o (.im (.dict _)),r,s=>trivial
 | .o (.ls _ _),r,s=>exact s.elim
 | .o (.sc _),r,s=>exact s.elim
 | .o (.ty _),r,s=>exact s.elim
 | .sl _,r,s=>trivial
def Dg (f:Ev->R PV)(g:PV->Ev->R Unit):Ev->SR:=fun c=>(f c).toS fun p c=>(g p c).toS fun _ c=>.nx c
theorem Bj     (h:ME K b f) (hg:MG K t g):MS K (Aq7 b t) (Dg f g):=fun x W c o D R l =>
 h _ W c _ _ R ((Gg l).mono fun p q j v s u k e i=>hg _ _ _ _ p v _ _ e i ((Gg j).mono fun _ r m n w a d=>m _ _ (k.trans a) d))
def A0j (J:It)(Hf:Hp)(ds:List PyData):Prop:=∀(i:Nat) (Hf' H:Hp),Same Hf Hf'->Same Hf' H->(i=ds.length->J.stop i H) /\
 ∀d,ds[i]?=some d->J.go i H/\∀x H',J.yld i H x H'->∃Hf2,Stp (fun _=>False) Hf' H (fun _=>False) Hf2 H'/\Same Hf2 H'/\Tr Hf2 d x
def MI (K:PySem.W.Frag)(wi:TI)(fi:Ev->R (List PyData)):Prop:=∀(β:Nat->V) (W:Wo) (c:Ev) (σ:St) (k:It->Hp->Prop),Rep K β W c σ ->
 (fi c).sat (fun ds c'=>∀J W',Stp W.S W.Hf W.H W'.S W'.Hf W'.H->Rep K β W' c' σ->A0j J W'.Hf ds->k J W'.H)->wi σ W.H k
def forL (g:PV->Ev->R Unit)(body:Ev->SR):List PyData->Ev->SR
 | [],c=>.nx c
 | d::ds,c=>match g (.o (.im d)) c with
  | .bad=>.bad
  | .ok _ c=>match body c with
   | .nx c=>forL g body ds c
   | .ct c=>forL g body ds c
   | .bk c=>.nx c
   | .rt p c=>.rt p c
   | .bad=>.bad
def Rk (fi:Ev->R (List PyData))(g:PV->Ev->R Unit)(body:Ev->SR):Ev->SR:=fun c=>(fi c).toS fun ds c=>forL g body ds c
theorem Xz {a:Type}{l:List a}  (h:i<l.length):l.drop i=l[i]::l.drop (i+1):=List.drop_eq_getElem_cons h
theorem Rx   {V:TS}    (hi:MI K X fi) (hg:MG K t g) (hb:MS K V body):MS K (Bw2 X t V) (Rk fi g body):=by
 intro C W c I D R l
 refine hi C W c I _ R ((Gg l).mono fun k c1 l1 J T N R1 it=>?_)
 refine⟨fun i m I H=>∃d y,d.H=H/\Rep K C d y I/\m=k.length-i/\i<=k.length/\Same T.Hf d.Hf/\zK K C d D (forL g body (k.drop i) y),⟨_,T,c1,rfl,R1,rfl,Nat.zero_le _,Same.refl _,zK.step l1 N⟩,?_⟩
 rintro i m I H ⟨d,y,rfl,O,rfl,hle,Y,h⟩
 obtain⟨A,Q⟩:=it i d.Hf d.H Y O.sub
 by_cases lt:i<k.length
 ·obtain⟨q1,q2⟩:=Q k[i] (List.getElem?_eq_getElem lt)
  refine .inr ⟨q1,fun M s=>∃d y,d.H=s/\Rep K C d y M/\Same T.Hf d.Hf/\zK K C d D (forL g body (k.drop (i+1)) y),fun M s ⟨U,Z,e3,R3,s3,l3⟩=>⟨k.length-(i+1),by omega,U,Z,e3,R3,rfl,by omega,s3,l3⟩,fun x s hy=>?_⟩
  obtain⟨n,j,G,tx⟩:=q2 x s hy
  have P:Stp d.S d.Hf d.H (Wo.S ⟨n,s,d.fps⟩) n s:=⟨j.fz,fun a o e _=>j.kp a o e fun z=>z,fun a o e mu _ q=>j.nf a o e mu (fun z=>z) q,fun a z=>.inl z⟩
  rw[Xz lt]at h;unfold forL at h
  refine hg C ⟨n,s,d.fps⟩ y I (.o (.im _)) x _ _ (j.rep O G) ⟨⟨rfl,tx⟩,fun a z=>nomatch z⟩ ?_
  cases eg:g _ _ with
  | bad=>rw[eg]at h;exact h.elim
  | ok u Z =>
   rw[eg]at h;intro σ3 U w S
   have w:=w.up  fun a z=>by
    rcases z with z | z
    ·exact z
    ·cases z
   have f:=P.trans w;have F  := Y.trans f.fz
   refine hb _ _ _ _ _ S ?_
   cases ebd:body _ with
   | nx E=>simp only[ebd]at h;exact fun r L b B=>⟨L,E,rfl,B,F.trans b.fz,zK.step h (f.trans b)⟩
   | ct E=>simp only[ebd]at h;exact fun r L b B=>⟨L,E,rfl,B,F.trans b.fz,zK.step h (f.trans b)⟩
   | bk E=>simp only[ebd]at h;exact fun r L b B=>h _ _ (f.trans b) B
   | rt p E=>simp only[ebd]at h;exact fun r v L fp b B r4=>h _ v _ _ (f.trans b) B r4
   | bad=>simp only[ebd]at h;exact h.elim
 ·have e:i=k.length:=by omega
  subst e;rw[List.drop_length]at h;exact .inl ⟨A rfl,h _ _ Stp.refl O⟩
def Eh (g:PV->Ev->R Unit)(ft:Ev->R Bool)(fe:Ev->R PV):List PyData->List PyData->Ev->R (List PyData)
 | [],acc,c=>.ok acc c
 | d::ds,acc,c=>(g (.o (.im d)) c).bind fun _ c=>(ft c).bind fun b c=>if b=true then (fe c).bind fun p c=>(frz (nrm p) c).bind fun y c=>Eh g ft fe ds (acc++[y]) c else Eh g ft fe ds acc c
def cIn (idx:List (Option Nat))(c:Ev):Ev:=idx.map fun o=>o.bind fun i=>((c[i]?).join).map (O.flag true)
def pairsOf:Nat->List (Option Nat)->List (Nat×Nat)
 | _,[]=>[]
 | k,none::r=>pairsOf (k+1) r
 | k,some i::r=>(k,i)::pairsOf (k+1) r
def cLC (idx:List (Option Nat))(fi:Ev->R (List PyData))(g:PV->Ev->R Unit)(ft:Ev->R Bool)(fe:Ev->R PV):Ev->R PV:=fun c=>(fi c).bind fun ds c =>
 if ds.length<=16000000 then match Eh g ft fe ds [] (cIn idx c) with
 | .bad=>.bad
 | .ok acc cI=>match Ho cI (pairsOf 0 idx) c with
  | none=>.bad
  | some c=>.ok (.o (.ls false acc)) c
 else .bad
theorem A8t  (h:l+1<=k):k-(l+1)+1=k-l:=by omega
theorem Gq {k i:Nat}:∀{l:Nat}{idx:List (Option Nat)},(k,i)∈pairsOf l idx->l<=k/\idx[k-l]?=some (some i)
 | l,[],h=>by cases h
 | l,none::r,h=>by
  obtain⟨q1,q2⟩:=Gq (l:=l+1) (idx:=r) h
  refine⟨Nat.le_of_succ_le q1,?_⟩
  rw[show k-l=(k-(l+1))+1 from (A8t q1).symm,List.getElem?_cons_succ];exact q2
 | l,some j::r,h=>by
  rcases List.mem_cons.mp (show (k,i)∈(l,j)::pairsOf (l+1) r from h) with e | e
  ·cases e;exact⟨Nat.le_refl _,by rw[Nat.sub_self];rfl⟩
  ·obtain⟨q1,q2⟩:=Gq (l:=l+1) (idx:=r) e
   refine⟨Nat.le_of_succ_le q1,?_⟩
   rw[show k-l=(k-(l+1))+1 from (A8t q1).symm,List.getElem?_cons_succ];exact q2
theorem Nz {k i:Nat}:∀{l:Nat}{idx:List (Option Nat)},idx[k]?=some (some i)->(k+l,i)∈pairsOf l idx
 | l,[],h=>by simp at h
 | l,none::r,h=>by
  cases k with
  | zero=>simp at h
  | succ k =>
   rw[List.getElem?_cons_succ]at h;have:=Nz (l:=l+1) (idx:=r) h
   rw[show k+1+l=k+(l+1) by omega];exact this
 | l,some j::r,h=>by
  cases k with
  | zero=>simp at h;subst h;rw[Nat.zero_add];exact .head _
  | succ k =>
   rw[List.getElem?_cons_succ]at h;have:=Nz (l:=l+1) (idx:=r) h
   rw[show k+1+l=k+(l+1) by omega];exact .tail _ this
theorem Q0:∀{l:Nat}{idx:List (Option Nat)},((pairsOf l idx).map (·.1)).Nodup
 | l,[]=>List.nodup_nil
 | l,none::r=>Q0 (l:=l+1) (idx:=r)
 | l,some j::r=>by
  show (l::(pairsOf (l+1) r).map (·.1)).Nodup
  rw[List.nodup_cons]
  refine⟨fun h=>?_,Q0⟩
  obtain⟨⟨k,i⟩,h1,h2⟩:=List.mem_map.mp h;have:=(Gq h1).1;have h2:k=l:=h2;omega
theorem B1t   (h:x.join=some o):x=some (some o):=by
 cases x with
 | none=>grind
 | some y=>simp_all
theorem Bh5   {k:Nat}  (h:(cIn idx c)[k]?=some (some o)):∃i a,idx[k]?=some (some i)/\c[i]?=some (some a)/\o=a.flag true:=by
 unfold cIn at h;rw[List.getElem?_map]at h;obtain⟨x,e,b⟩:=Option.map_eq_some_iff.mp h
 cases x with
 | none=>grind
 | some i =>
  obtain⟨a,f,d⟩:=Option.map_eq_some_iff.mp b
  grind
theorem At2   {k i:Nat}  (h1:idx[k]?=some (some i)) (h2:a[i]?=some (some v)):(cst idx a)[k]?=some (some v):=by
 unfold cst
 grind
theorem Bc3 {idx:List (Option Nat)}(R:Rep K β W c σ)(hnd:((pairsOf 0 idx).map (·.2)).Nodup):Lent K W.Hf (pairsOf 0 idx) c σ (fun k=>(((cst idx σ)[k]?).join).getD .non) (cIn idx c) (cst idx σ) where
 n1:=Q0
 n2:=hnd
 len:=by unfold cIn cst;rw[List.length_map,List.length_map]
 at_:=fun k o h=>by
  obtain⟨i,o',h1,h2,rfl⟩:=Bh5 h;obtain⟨v,e,r,_⟩:=R.get i o' h2;have hs:=At2 h1 e
  have one:∀j,(k,j)∈pairsOf 0 idx->j=i:=fun j hj=>by
   have:=(Gq hj).2;rw[Nat.sub_zero,h1]at this;cases this;rfl
  have nol:Ig c[i]?=false->∀j,(k,j)∈pairsOf 0 idx->Ig c[j]?=false:=fun q j hj=>by rw[one j hj];exact q
  cases o' with
  | im d=>exact .inl ⟨rfl,nol (by rw[h2];rfl),v,hs,r.2⟩
  | sc d=>exact .inl ⟨rfl,nol (by rw[h2];rfl),v,hs,r.2⟩
  | ty d=>exact .inl ⟨rfl,nol (by rw[h2];rfl),v,hs,r.2⟩
  | ls b ds=>exact .inr ⟨i,b,ds,v,Nz (l:=0) h1,h2,rfl,e,hs,by rw[hs];rfl⟩
theorem A9q             (hnd:((pairsOf 0 idx).map (·.2)).Nodup) (hg:MG K t g) (ht:MT K tc ft) (he:ME K te fe)
 (st1:Stp W.S W.Hf W.H W1.S W1.Hf W1.H) (R1:Rep K β W1 c1 σ)
 (it:∀(i:Nat) (h:Wo),Stp (Wo.S ⟨W1.Hf,W1.H,T6 (pairsOf 0 idx) c1 W1.fps⟩) W1.Hf W1.H h.S h.Hf h.H->Same h.Hf h.H->(i=ds.length->J.stop i h.H) /\
  ∀d,ds[i]?=some d->J.go i h.H/\∀x E,J.yld i h.H x E->∃s,Stp (fun _=>False) h.Hf h.H (fun _=>False) s E/\Same s E/\Tr s d x)
 (s1:(if ds.length<=16000000 then match Eh g ft fe ds [] (cIn idx c1) with
  | .bad=>.bad
  | .ok f I=>match Ho I (pairsOf 0 idx) c1 with
   | none=>.bad
   | some c=>.ok (.o (.ls false f)) c
  else .bad:R PV).sat fun p c'=>∀v j w,Stp W.S W.Hf W.H (orS j.S w) j.Hf j.H->Rep K β j c' σ->Fv K j σ p v w->Q v j.H):tLC idx (fun _ H k=>k J H) t tc te σ W1.H Q:=by
 unfold tLC
 dsimp only
 by_cases hl:ds.length<=16000000
 ·rw[if_pos hl]at s1
  have L:=Bc3 (idx:=idx) R1 hnd
  let C:Nat->V:=fun k=>(((cst idx σ)[k]?).join).getD .non
  let F:Wo:=⟨W1.Hf,W1.H,T6 (pairsOf 0 idx) c1 W1.fps⟩
  let B:U.R (List PyData)->Prop:=fun r=>match r with
   | .bad=>False
   | .ok f I=>match Ho I (pairsOf 0 idx) c1 with
    | none=>False
    | some c=>∀v j w,Stp W.S W.Hf W.H (orS j.S w) j.Hf j.H->Rep K β j c σ->Fv K j σ (.o (.ls false f)) v w->Q v j.H
  have s2:B (Eh g ft fe ds [] (cIn idx c1)):=by
   show match Eh g ft fe ds [] (cIn idx c1) with
    | .bad=>False
    | .ok f I=>match Ho I (pairsOf 0 idx) c1 with
     | none=>False
     | some c=>∀v j w,Stp W.S W.Hf W.H (orS j.S w) j.Hf j.H->Rep K β j c σ->Fv K j σ (.o (.ls false f)) v w->Q v j.H
   cases e1:Eh g ft fe ds [] (cIn idx c1) with
   | bad=>rw[e1]at s1;exact s1.elim
   | ok f I =>
    simp only[e1]at s1
    show match Ho I (pairsOf 0 idx) c1 with
     | none=>False
     | some c=>∀v j w,Stp W.S W.Hf W.H (orS j.S w) j.Hf j.H->Rep K β j c σ->Fv K j σ (.o (.ls false f)) v w->Q v j.H
    cases e2:Ho I (pairsOf 0 idx) c1 with
    | none=>simp only[e2]at s1;exact s1.elim
    | some D=>simp only[e2]at s1;exact s1
  refine⟨fun i m A S H=>∃h D f,h.H=H/\Rep K C h D A/\m=ds.length-i/\i<=ds.length/\S.length<=i/\Stp F.S F.Hf F.H h.S h.Hf h.H/\TrL h.Hf f S/\B (Eh g ft fe (ds.drop i) f D),
   ⟨_,F,cIn idx c1,[],rfl,(L.rep R1),rfl,Nat.zero_le _,Nat.le_refl _,Stp.refl,rfl,s2⟩,?_⟩
  rintro i m A S H ⟨h,D,f,rfl,R2,rfl,hle,hvs,N,ta,l⟩
  obtain⟨P,hgo⟩:=it i h N R2.sub
  by_cases lt:i<ds.length
  ·obtain⟨q1,q2⟩:=hgo ds[i] (List.getElem?_eq_getElem lt)
   refine .inr ⟨q1,Nat.lt_of_lt_of_le (Nat.lt_of_le_of_lt hvs (Nat.lt_of_lt_of_le lt hl)) (by decide),fun A S E=>∃h D f,h.H=E/\Rep K C h D A/\S.length<=i+1/\Stp F.S F.Hf F.H h.S h.Hf h.H/\TrL h.Hf f S/\B (Eh g ft fe (ds.drop (i+1)) f D),
    fun A acc' E ⟨O,X,Y,e3,R3,h3,n,t3,f3⟩=>⟨ds.length-(i+1),by omega,O,X,Y,e3,R3,rfl,by omega,h3,n,t3,f3⟩,fun x E hy=>?_⟩
   obtain⟨s,n,sub3,tx⟩:=q2 x E hy
   have stx:Stp h.S h.Hf h.H (Wo.S ⟨s,E,h.fps⟩) s E:=⟨n.fz,fun a o e _=>n.kp a o e fun z=>z,fun a o e mu _ q=>n.nf a o e mu (fun z=>z) q,fun a z=>.inl z⟩
   rw[Xz lt]at l;unfold Eh at l
   refine hg C ⟨s,E,h.fps⟩ D A (.o (.im ds[i])) x [] _ (n.rep R2 sub3) ⟨⟨rfl,tx⟩,fun a z=>nomatch z⟩ ?_
   cases eg:g (.o (.im ds[i])) D with
   | bad=>rw[eg]at l;exact l.elim
   | ok u X =>
    rw[eg]at l
    have l:B ((ft X).bind fun b c=>if b=true then (fe c).bind fun p c=>(frz (nrm p) c).bind fun y c=>Eh g ft fe (ds.drop (i+1)) (f++[y]) c else Eh g ft fe (ds.drop (i+1)) f c):=l
    intro σ3 O G R4
    have G:=G.up (S2:=h.S) fun a z=>by
     rcases z with z | z
     ·exact z
     ·cases z
    refine ht C O X σ3 _ R4 ?_
    cases et:ft X with
    | bad=>rw[et]at l;exact l.elim
    | ok b c4 =>
     rw[et]at l;intro T st5 R5;have M:Stp F.S F.Hf F.H T.S T.Hf T.H:=N.trans (stx.trans (G.trans st5));have Z:TrL T.Hf f S:=TrL.same (stx.trans (G.trans st5)).fz ta
     cases b with
     | false=>rw[if_neg (by decide)];exact⟨T,c4,f,rfl,R5,by omega,M,Z,l⟩
     | true =>
      rw[if_pos rfl]
      have l:B ((fe c4).bind fun p c=>(frz (nrm p) c).bind fun y c=>Eh g ft fe (ds.drop (i+1)) (f++[y]) c):=l
      refine he.toV C T c4 σ3 _ R5 ?_
      cases ee:fe c4 with
      | bad=>rw[ee]at l;exact l.elim
      | ok p c5 =>
       rw[ee]at l
       have l:B ((frz (nrm p) c5).bind fun y c=>Eh g ft fe (ds.drop (i+1)) (f++[y]) c):=l
       intro y W5 st6 R6 r6
       have fz:(frz (nrm p) c5).sat fun _ _=>True:=by
        cases ef:frz (nrm p) c5 with
        | bad=>rw[ef]at l;exact l.elim
        | ok d c=>trivial
       obtain⟨d,c6,W6,e6,_,eH,st7,R7,t7⟩:=Ka R6 r6 fz;rw[e6]at l
       refine⟨W6,c6,f++[d],eH,R7,by rw[List.length_append,List.length_singleton];omega,M.trans (st6.trans st7),(TrL.same (st6.trans st7).fz Z).app (TrL.one t7),l⟩
  ·have e:i=ds.length:=by omega
   subst e;rw[List.drop_length]at l
   refine .inl ⟨P rfl,fun p hp=>?_⟩
   have l:match Ho D (pairsOf 0 idx) c1 with
    | none=>False
    | some c=>∀v j w,Stp W.S W.Hf W.H (orS _ _) _ _->Rep K _ j c _->Fv K _ _ _ v _->Q v _:=l
   cases eb:Ho D (pairsOf 0 idx) c1 with
   | none=>simp only[eb]at l
   | some cO =>
    simp only[eb]at l
    obtain⟨O,e1,e2,R3,n,_⟩:=L.back (fp:=[]) R1 R2 (N.less fun a z=>by
     rcases z with z | z
     ·exact z
     ·cases z) eb (fun k i b ds v hm _ hv=>by
      have:=(Gq hm).2;rw[Nat.sub_zero]at this
      rw[At2 this hv];rfl) fun a z=>nomatch z
    have n:Stp W1.S W1.Hf W1.H O.S O.Hf O.H:=by
     rw[e1,e2];exact n.less fun a z=>.inl z
    rw[<- e2]at hp ⊢
    exact New.lst (New.of R3 fun v j w st R' rp=>l v _ _ (st1.trans (n.trans st)) R' rp) R3.sub (by rw[e1];exact ta) hp
 ·rw[if_neg hl]at s1;exact s1.elim
theorem Gd          (d:((pairsOf 0 idx).map (·.2)).Nodup) (hi:MI K f fi) (hg:MG K t g) (ht:MT K h ft) (he:ME K j fe) :
 ME K (tLC idx f t h j) (cLC idx fi g ft fe):=by
 intro n W c o Q R s
 refine hi _ W c _ _ R (s.bnd.mono fun q p l J u a k m=>?_)
 exact A9q d hg ht he a k (fun i r e b=>m i _ _ e.fz b) l
end
inductive FR where
 | ret (o:O) (as:List O)
 | bad
def resolve (p:PV)(c:Ev):Option (O×Ev):=match p with
 | .o (.ls _ ds)=>some (.ls false ds,c)
 | .o o=>some (o,c)
 | .sl i=>match c[i]? with
  | some (some (.ls false ds))=>some (.ls false ds,c.set i none)
  | some (some (.im d))=>some (.im d,c)
  | _=>none
def Ia:List O->Ev->Option (List O)
 | [],_=>some []
 | .ls true _::r,some (.ls true ds)::c=>(Ia r c).map (.ls true ds::·)
 | .ls _ _::_,_=>none
 | o::r,_::c=>(Ia r c).map (o::·)
 | _::_,[]=>none
def A1r (as:List O)(p:PV)(c:Ev):FR:=match resolve p c with
 | none=>.bad
 | some (o,c)=>match Ia as c with
  | none=>.bad
  | some as'=>.ret o as'
def Fp (n N:Nat)(body:Ev->SR):List O->FR:=fun as=>if as.length=n then match body (as.map some++List.replicate (N-n) none) with
 | .nx c=>A1r as (.o (.im .none)) c
 | .rt p c=>A1r as p c
 | _=>.bad
 else .bad
def spP (K:PySem.W.Frag)(F:List O->FR):Sp:=fun vs H Q _=>∃(β:Nat->V) (W:Wo) (as:List O),W.H=H/\as.length=vs.length/\Rep K β W (as.map some) (vs.map some)/\match F as with
 | .bad=>False
 | .ret o as'=>∀v W' fp,Stp W.S W.Hf W.H (orS W'.S fp) W'.Hf W'.H->Rep K β W' (as'.map some) (vs.map some)->RepO K W'.Hf W'.H o v fp->(∀a∈fp,¬ W'.S a)->Q v W'.H
section
variable {K:PySem.W.Frag}{β β':Nat->V}{W W':Wo}{c c' cI cI' cO:Ev}{σ σ' σI σI':St}{D:Ends}{Hf H:Hp}{o:O}{v:V}{fp:List Addr}
theorem Qf:∀{as:List O}{c:Ev}{as':List O},Ia as c=some as'->as'.length=as.length/\∀(i:Nat) (o':O),as'[i]?=some o'->(o'.own=false/\as[i]?=some o')\/(∃ds ds',o'=.ls true ds'/\as[i]?=some (.ls true ds)/\c[i]?=some (some (.ls true ds')))
 | [],c,as',e=>by cases (show some []=some as' from e);exact⟨rfl,fun i o' h=>by simp at h⟩
 | o::r,[],as',e=>by
  cases o with
  | ls b ds=>cases b <;> cases e
  | im d=>cases e
  | sc d=>cases e
  | ty d=>cases e
 | o::r,x::c,as',e=>by
  have go:∀o1:O,(Ia r c).map (o1::·)=some as'->((o1.own=false/\o1=o)\/(∃ds ds',o1=.ls true ds'/\o=.ls true ds/\x=some (.ls true ds'))) ->
   as'.length=(o::r).length/\∀(i:Nat) (o':O),as'[i]?=some o'->(o'.own=false/\(o::r)[i]?=some o')\/(∃ds ds',o'=.ls true ds'/\(o::r)[i]?=some (.ls true ds)/\(x::c)[i]?=some (some (.ls true ds'))):=fun o1 e1 h1=>by
   obtain⟨t,e2,rfl⟩:=Option.map_eq_some_iff.mp e1;obtain⟨l,g⟩:=Qf e2
   refine⟨by rw[List.length_cons,List.length_cons,l],fun i o' h=>?_⟩
   cases i with
   | zero =>
    cases (show some o1=some o' from h)
    rcases h1 with ⟨z1,z2⟩ | ⟨ds,ds',z1,z2,z3⟩
    ·exact .inl ⟨z1,by rw[z2];rfl⟩
    ·exact .inr ⟨ds,ds',z1,by rw[z2];rfl,by rw[z3];rfl⟩
   | succ i=>exact g i o' (by simpa using h)
  cases o with
  | ls b ds =>
   cases b with
   | false=>cases e
   | true =>
    match x,e with
    | some (.ls true ds'),e=>exact go (.ls true ds') e (.inr ⟨ds,ds',rfl,rfl,rfl⟩)
    | some (.ls false ds'),e=>cases e
    | some (.im _),e=>cases e
    | some (.sc _),e=>cases e
    | some (.ty _),e=>cases e
    | none,e=>cases e
  | im d=>exact go (.im d) e (.inl ⟨rfl,rfl⟩)
  | sc d=>exact go (.sc d) e (.inl ⟨rfl,rfl⟩)
  | ty d=>exact go (.ty d) e (.inl ⟨rfl,rfl⟩)
theorem Vk   (R:Rep K β W c σ) (r:Fv K W σ p v fp) (e:resolve p c=some (o,c')) :
 ∃W2 fp2,W2.Hf=W.Hf/\W2.H=W.H/\Rep K β W2 c' σ/\RepO K W2.Hf W2.H o v fp2/\(∀a∈fp2,¬ W2.S a)/\∀a,orS W2.S fp2 a->orS W.S fp a:=by
 cases p with
 | o f =>
  have g:o=f.flag false/\c'=c:=by
   cases f with
   | ls b h=>cases e;exact⟨rfl,rfl⟩
   | im d=>cases e;exact⟨rfl,rfl⟩
   | sc d=>cases e;exact⟨rfl,rfl⟩
   | ty d=>cases e;exact⟨rfl,rfl⟩
  obtain⟨rfl,rfl⟩:=g
  refine⟨W,fp,rfl,rfl,R,?_,r.2,fun a z=>z⟩
  cases f with
  | ls b h=>exact r.1
  | im d=>exact r.1
  | sc d=>exact r.1
  | ty d=>exact r.1
 | sl i =>
  obtain⟨rfl,n⟩:=r;unfold resolve at e
  cases ec:c[i]? with
  | none=>simp_all
  | some x =>
   cases x with
   | none=>grind
   | some f =>
    obtain⟨v',g,k,_⟩:=R.get i _ ec
    cases (show some _=some _ from g.symm.trans n)
    cases f with
    | sc d=>simp_all
    | ty d=>simp_all
    | im d =>
     simp only[ec]at e
     cases e
     exact⟨W,[],rfl,rfl,R,⟨rfl,k.2⟩,(fun a z=>by cases z),fun a z=>z⟩
    | ls b h =>
     cases b with
     | true=>simp_all
     | false =>
      simp only[ec]at e
      cases e
      refine⟨⟨W.Hf,W.H,clr _ i⟩,W.fps i,rfl,rfl,R.drop i,k,fun a q ⟨j,m⟩=>?_,fun a z=>?_⟩
      ·obtain⟨s,l⟩:=Hd m
       exact l (R.dis j i a s q)
      ·rcases z with z | z
       ·exact .inl (Bx1 z)
       ·exact .inl ⟨i,z⟩
theorem Hl {b a:Type}{l:List b}{f:b->a}{i:Nat}{y:a}(h:(l.map f)[i]?=some y):∃x,l[i]?=some x/\f x=y:=by
 grind
theorem A3y  {vs:List V}  (t:Rep K β z (p.map some) (vs.map some)) (R:Rep K β W c σ) (S:Same z.Hf W.Hf) (e:Ia p c=some k) :
 ∃W2:Wo,W2.Hf=W.Hf/\W2.H=W.H/\Rep K β W2 (k.map some) (vs.map some)/\∀a,W2.S a->W.S a:=by
 obtain⟨E,G⟩:=Qf e
 let f:Nat->List Addr:=fun i=>if Ig ((k.map some)[i]?) then W.fps i else []
 have g:∀i a,a∈f i->a∈W.fps i:=fun i a h=>by
  grind
 have m:p.length=vs.length:=by have:=t.len;rwa [List.length_map,List.length_map]at this
 refine⟨⟨W.Hf,W.H,f⟩,rfl,rfl,⟨R.sub,by rw[List.length_map,List.length_map,E,m],fun i o h=>?_,fun i j a u w=>R.dis i j a (g i a u) (g j a w),fun i a h=>R.own i a (g i a h)⟩,fun a ⟨i,h⟩=>⟨i,g i a h⟩⟩
 obtain⟨o',u,w⟩:=Hl h
 cases w
 rcases G i o u with ⟨n,q⟩ | ⟨A,C,rfl,J,D⟩
 ·obtain⟨v,s,r,_⟩:=t.get i o (by rw[List.getElem?_map,q];rfl)
  have x:f i=[]:=by
   show (if Ig _ then W.fps i else [])=[]
   rw[h]
   cases o with
   | ls b A=>exact nomatch n
   | im d=>rfl
   | sc d=>rfl
   | ty d=>rfl
  refine⟨v,s,?_,?_⟩
  ·show RepO K W.Hf W.H o v (f i)
   rw[x]
   cases o with
   | ls b A=>exact nomatch n
   | im d=>exact⟨rfl,RepN.same S r.2⟩
   | sc d=>exact⟨rfl,RepN.same S r.2⟩
   | ty d=>exact⟨rfl,RepN.same S r.2⟩
  grind
 ·obtain⟨v,s,r,B⟩:=t.get i _ (by rw[List.getElem?_map,J];rfl)
  obtain⟨H,F,I,y⟩:=R.get i _ D;have l:=y rfl;rw[<- (B rfl)]at l;subst l
  refine⟨H,s,?_,B⟩
  have x:f i=W.fps i:=by
   show (if Ig _ then W.fps i else [])=_
   rw[h];rfl
  show RepO K _ _ _ _ (f i)
  rw[x];exact I
theorem Dl        (h:MS K T body) (hs:spP K (Fp n N.length body) vs H Q E):T { nx:=fun _ H'=>Q .non H',rt:=Q } (start N vs) H:=by
 obtain⟨u,W,j,rfl,B,m,b⟩:=hs;unfold Fp at b
 by_cases hn:j.length=n
 ·rw[if_pos hn]at b
  let D:Ev:=j.map some++List.replicate (N.length-n) none
  have R:Rep K u W D (start N vs):=by
   refine⟨m.sub,?_,fun i o e=>?_,m.dis,m.own⟩
   ·show (j.map some++List.replicate (N.length-n) none).length=(vs.map some++List.replicate (N.length-vs.length) none).length
    rw[List.length_append,List.length_append,List.length_map,List.length_map,List.length_replicate,List.length_replicate,<- B,hn]
   ·have e:(j.map some++List.replicate (N.length-n) none)[i]?=some (some o):=e
    by_cases li:i<j.length
    ·rw[List.getElem?_append_left (by rw[List.length_map];exact li)]at e
     obtain⟨v,w,r⟩:=m.get i o e
     refine⟨v,?_,r⟩
     show (vs.map some++List.replicate (N.length-vs.length) none)[i]?=_
     rw[List.getElem?_append_left (by rw[List.length_map,<- B];exact li)];exact w
    ·rw[List.getElem?_append_right (by rw[List.length_map];exact Nat.le_of_not_lt li),List.getElem?_replicate]at e
     split at e <;> cases e
  refine h u W D (start N vs) _ R ?_
  have l:∀p f c v d g,(match A1r j p f with
   | .bad=>False
   | .ret o t=>∀v W' g,Stp W.S W.Hf W.H (orS W'.S g) W'.Hf W'.H->Rep K u W' (t.map some) (vs.map some)->RepO K W'.Hf W'.H o v g->(∀a∈g,¬ W'.S a)->Q v W'.H) ->
   Stp W.S W.Hf W.H (orS d.S g) d.Hf d.H->Rep K u d f c->Fv K d c p v g->Q v d.H:=fun p f c v d g b k s x=>by
   unfold A1r at b
   cases er:resolve p f with
   | none=>simp only[er]at b
   | some q =>
    obtain⟨o,U⟩:=q;simp only[er]at b
    cases ea:Ia j U with
    | none=>simp only[ea]at b
    | some t =>
     simp only[ea]at b;obtain⟨W2,S,w,C,I,J,L,M⟩:=Vk s x er
     obtain⟨O,A,y,P,F⟩:=A3y m I (by rw[w];exact k.fz) ea
     rw[show d.H=O.H by rw[y,C]]
     refine b v _ _ ?_ P (by rw[A,y];exact J) fun a G z=>L a G (F a z)
     rw[A,y,w,C]
     exact k.less fun a z=>M a (by
      rcases z with z | z
      ·exact .inl (F a z)
      ·exact .inr z)
  cases eb:body _ with
  | nx f =>
   rw[show body _=.nx _ from eb]at b
   exact fun c d k s=>l _ _ _ _ _ _ b (k.less fun a z=>by
    rcases z with z | z
    ·exact z
    ·cases z) s ⟨⟨rfl,rfl⟩,fun a z=>nomatch z⟩
  | rt p f =>
   rw[show body _=.rt p _ from eb]at b
   exact fun c v d g k s x=>l p _ _ v _ _ b k s x
  | bk f=>rw[show body _=.bk _ from eb]at b;exact b.elim
  | ct f=>rw[show body _=.ct _ from eb]at b;exact b.elim
  | bad=>rw[show body _=.bad from eb]at b;exact b.elim
 ·rw[if_neg hn]at b;exact b.elim
theorem Dm       (hs:spP K (Fp n N body) vs H Q E):vs.length=n:=by
 obtain⟨d,W,c,b,e,f,a⟩:=hs;unfold Fp at a
 grind
def Qu (c:Ev):List PV->Option (List O)
 | []=>some []
 | .o o::r=>(Qu c r).map (o::·)
 | .sl i::r=>match c[i]? with
  | some (some o)=>(Qu c r).map (o.flag true::·)
  | _=>none
def slots:List PV->List (Option Nat)
 | []=>[]
 | .o _::r=>none::slots r
 | .sl i::r=>some i::slots r
def ndB:List Nat->Bool
 | []=>true
 | x::r=>!r.contains x&&ndB r
theorem A6k:∀{l:List Nat},ndB l=true->l.Nodup
 | [],_=>List.nodup_nil
 | x::r,h=>by
  obtain⟨h1,h2⟩:=Bool.and_eq_true_iff.mp (show (!r.contains x&&ndB r)=true from h)
  rw[List.nodup_cons]
  exact⟨fun z=>by simp[z]at h1,A6k h2⟩
def M3 (F:List O->FR)(ps:List PV)(c:Ev):R PV:=match Qu c ps with
 | none=>.bad
 | some as=>if ndB ((pairsOf 0 (slots ps)).map (·.2))=true then match F as with
  | .bad=>.bad
  | .ret o as'=>match Ho (as'.map some) (pairsOf 0 (slots ps)) c with
   | none=>.bad
   | some c=>.ok (.o o) c
  else .bad
def cF (F:List O->FR)(fa:Ev->R (List PV)):Ev->R PV:=fun c=>(fa c).bind fun ps c=>M3 F ps c
theorem Uy {Hf:Hp}:∀{ps:List PV}{vs:List V}{as:List O},Qu c ps=some as->zH K Hf σ ps vs->as.length=vs.length/\∀(k:Nat) (o:O),as[k]?=some o->∃v,vs[k]?=some v /\
 ((RepN K Hf o v/\(slots ps)[k]?=some none)\/∃i o',(slots ps)[k]?=some (some i)/\c[i]?=some (some o')/\o=o'.flag true/\σ[i]?=some (some v))
 | [],vs,as,e,h=>by cases (show some []=some as from e);cases (show vs=[] from h);exact⟨rfl,fun k o h=>by simp at h⟩
 | .o o1::r,_,as,e,⟨v,vr,rfl,h,t⟩=>by
  obtain⟨l,e2,rfl⟩:=Option.map_eq_some_iff.mp (show (Qu c r).map (o1::·)=some as from e)
  obtain⟨hl,hg⟩:=Uy e2 t
  refine⟨by rw[List.length_cons,List.length_cons,hl],fun k o hk=>?_⟩
  cases k with
  | zero=>cases (show some o1=some o from hk);exact⟨v,rfl,.inl ⟨h,rfl⟩⟩
  | succ k=>exact hg k o (by simpa using hk)
 | .sl i::r,_,as,e,⟨v,vr,rfl,h,t⟩=>by
  unfold Qu at e
  cases ec:c[i]? with
  | none=>simp only[ec]at e;cases e
  | some x =>
   cases x with
   | none=>simp only[ec]at e;cases e
   | some o1 =>
    simp only[ec]at e;obtain⟨l,e2,rfl⟩:=Option.map_eq_some_iff.mp e;obtain⟨hl,hg⟩:=Uy e2 t
    refine⟨by rw[List.length_cons,List.length_cons,hl],fun k o hk=>?_⟩
    cases k with
    | zero=>cases (show some (o1.flag true)=some o from hk);exact⟨v,rfl,.inr ⟨i,o1,rfl,ec,rfl,h⟩⟩
    | succ k=>exact hg k o (by simpa using hk)
theorem Rh {Hf:Hp}:∀{ps:List PV}{vs:List V}{k i:Nat}{v:V},zH K Hf σ ps vs->(slots ps)[k]?=some (some i)->σ[i]?=some (some v)->vs[k]?=some v
 | [],vs,k,i,v,h,e,q=>by simp[slots]at e
 | .o _::r,_,k,i,v,⟨v1,vr,rfl,h,t⟩,e,q=>by
  cases k with
  | zero=>simp[slots]at e
  | succ k=>have:=Rh (k:=k) t (by simpa[slots] using e) q;simpa using this
 | .sl j::r,_,k,i,v,⟨v1,vr,rfl,h,t⟩,e,q=>by
  cases k with
  | zero =>
   have:j=i:=by simpa[slots] using e
   subst this
   cases (show some (some v1)=some (some v) from (show σ[j]?=some (some v1) from h).symm.trans q)
   rfl
  | succ k=>have:=Rh (k:=k) t (by simpa[slots] using e) q;simpa using this
theorem Am2        (g:Rep K β W1 c1 σ) (R:zH K W1.Hf σ ps vs)
 (s1:(M3 F ps c1).sat fun p c'=>∀v e y,Stp W1.S W1.Hf W1.H (orS e.S y) e.Hf e.H->Rep K β e c' σ->Fv K e σ p v y->(∀j a,a∈W1.fps j->some j∉slots ps->e.H a=W1.H a)->Q v e.H):spP K F (vs++[]) W1.H Q E:=by
 unfold M3 at s1
 cases ea:Qu c1 ps with
 | none=>simp only[ea]at s1;exact s1.elim
 | some M =>
  simp only[ea]at s1
  by_cases nd:ndB ((pairsOf 0 (slots ps)).map (·.2))=true
  ·rw[if_pos nd]at s1
   obtain⟨P,hg⟩:=Uy ea R
   let m:=pairsOf 0 (slots ps)
   let l:Nat->V:=fun k=>(vs[k]?).getD .non
   have L:Lent K W1.Hf m c1 σ l (M.map some) (vs.map some):=by
    refine⟨Q0,A6k nd,by rw[List.length_map,List.length_map];exact P,fun k o B=>?_⟩
    obtain⟨o1,T,h2⟩:=Hl B
    cases h2
    obtain⟨v,u,q⟩:=hg k o T
    have c:(vs.map some)[k]?=some (some v):=by rw[List.getElem?_map,u];rfl
    rcases q with ⟨I,t⟩ | ⟨i,H,t,n,rfl,G⟩
    ·refine .inl ⟨?_,fun i Z=>?_,v,c,I⟩
     ·cases o with
      | ls b D=>exact I.elim
      | im d=>rfl
      | sc d=>rfl
      | ty d=>rfl
     ·have:=(Gq Z).2
      rw[Nat.sub_zero,t]at this;cases this
    ·have f:Ig c1[i]?=false->∀j,(k,j)∈m->Ig c1[j]?=false:=fun q j z=>by
      have:=(Gq z).2;rw[Nat.sub_zero,t]at this;cases this;exact q
     obtain⟨v',w,r,_⟩:=g.get i H n
     cases (show some _=some _ from w.symm.trans G)
     cases H with
     | im d=>exact .inl ⟨rfl,f (by rw[n];rfl),v,c,r.2⟩
     | sc d=>exact .inl ⟨rfl,f (by rw[n];rfl),v,c,r.2⟩
     | ty d=>exact .inl ⟨rfl,f (by rw[n];rfl),v,c,r.2⟩
     | ls b D=>exact .inr ⟨i,b,D,v,Nz  t,n,rfl,G,c,by show vs[k]?.getD _=v;rw[u];rfl⟩
   refine⟨l,⟨W1.Hf,W1.H,T6 m _ _⟩,M,rfl,by rw[List.append_nil];exact P,by rw[List.append_nil];exact(L.rep g),?_⟩
   cases ef:F _ with
   | bad=>simp only[ef]at s1;exact s1.elim
   | ret o A =>
    simp only[ef]at s1;intro v e y J U W X
    cases eb:Ho (A.map some) m c1 with
    | none=>simp only[m]at eb;simp only[eb]at s1;exact s1.elim
    | some cO =>
     have h:=eb;simp only[m]at h;simp only[h]at s1
     obtain⟨W2,w,x,R2,C,Y⟩:=L.back g U J eb (fun k i b D v hm hc u=>by
      have:=(Gq hm).2;rw[Nat.sub_zero]at this
      show vs[k]?.getD _=v
      rw[Rh R this u];rfl) X
     rw[<- x]
     refine s1 v _ _ (by rw[w,x];exact C) R2 ⟨by rw[w,x];exact W,Y⟩ fun j a N z=>?_
     obtain⟨_,ob,s,_⟩:=g.own j a N;rw[x,s]
     refine J.kp a _ s fun⟨k,B⟩=>z ?_
     obtain⟨i,q1,_,S⟩:=Hg B
     cases g.dis i j a S N
     have:=(Gq q1).2;exact List.mem_of_getElem? this
  ·rw[if_neg nd]at s1;exact s1.elim
theorem N5        (d:Rep K β W1 c1 σ) (e:zH K W1.Hf σ ps vs)
 (s1:(M3 F ps c1).sat fun p c'=>∀v a b,Stp W1.S W1.Hf W1.H (orS a.S b) a.Hf a.H->Rep K β a c' σ->Fv K a σ p v b->Q v a.H):spP K F (vs++[]) W1.H Q E :=
 Am2 d e (s1.mono fun p c' k v a b c R r _=>k v _ _ c R r)
theorem Ax     (ha:MA K t fa):ME K (Mg (spP K F) [] E t) (cF F fa):=by
 intro j W c h Q R s
 refine ha _ W c _ _ R (s.bnd.mono fun l m f u i a e d=>?_)
 exact N5 e d (f.mono fun p n k v o q g b r=>k v _ _ (a.trans g) b r)
theorem zH.ext {Hf:Hp}{x:Option V}:∀{ps:List PV}{vs:List V},zH K Hf σ ps vs->zH K Hf (σ++[x]) ps vs
 | [],vs,h=>h
 | .o _::r,_,⟨v,vr,e,h,t⟩=>⟨v,vr,e,h,zH.ext t⟩
 | .sl i::r,_,⟨v,vr,e,h,t⟩=>⟨v,vr,e,by
  have h:σ[i]?=some (some v):=h
  have:i<σ.length:=by
   rcases Nat.lt_or_ge i σ.length with q | q
   ·exact q
   ·rw[List.getElem?_eq_none q]at h;cases h
  show (σ++[x])[i]?=_
  rw[List.getElem?_append_left this];exact h,zH.ext t⟩
def cFO (F:List O->FR)(fa:Ev->R PV)(fr:Ev->R (List PV)):Ev->R PV:=fun c=>(fa c).bind fun p c=>(fr c).bind fun ps c=>match p with
 | .o (.ls _ ds)=>(M3 F (.sl c.length::ps) (c++[some (.ls false ds)])).bind fun r c'=>match r with
  | .o o=>.ok (.o o) c'.dropLast
  | .sl _=>.bad
 | _=>.bad
theorem A4p {F:List O->FR}{E:XK}{ta:TE}{t:TA}{fa:Ev->R PV}{fr:Ev->R (List PV)}(ha:ME K ta fa)(hr:MA K t fr):ME K (Mg (spP K F) [] E (Dh ta t)) (cFO F fa fr):=by
 intro T W c g Q R s
 refine ha T W c g _ R (s.bnd.mono fun p c1 s1 v1 W1 fp1 st1 R1 X=>?_)
 refine hr T W1 c1 g _ R1 (s1.bnd.mono fun ps n u vs m l y r2=>?_)
 match p,X,u with
 | .sl _,_,u=>exact u.elim
 | .o (.im _),_,u=>exact u.elim
 | .o (.sc _),_,u=>exact u.elim
 | .o (.ty _),_,u=>exact u.elim
 | .o (.ls b ds),X,u =>
  obtain⟨⟨a,us,rfl,rfl,hf,U,t⟩,D⟩:=X;have D:=D a (.head _);have G:=l.kp a _ U D;have L:=l.nf a _ U trivial D hf
  have B:¬ m.S a:=fun z=>by
   rcases l.fr a z with q | q
   ·exact D q
   ·rw[U]at q;cases q
  let H:Wo:=⟨m.Hf,m.H,fun j=>if j=n.length then [a] else m.fps j⟩
  have d:∀j x,x∈H.fps j->(j=n.length/\x=a)\/x∈m.fps j:=fun j x h=>by
   have h:x∈if j=n.length then [a] else m.fps j:=h
   split at h
   ·rename_i z;exact .inl ⟨z,List.mem_singleton.mp h⟩
   ·exact .inr h
  have R3:Rep K T H (n++[some (.ls false ds)]) (g++[some (.ref a)]):=by
   refine⟨y.sub,by rw[List.length_append,List.length_append,y.len];rfl,fun i o e=>?_,fun i j x Z P=>?_,fun i x h=>?_⟩
   ·by_cases z:i<n.length
    ·rw[List.getElem?_append_left z]at e
     obtain⟨v,N,r,Y⟩:=y.get i o e
     refine⟨v,by rw[List.getElem?_append_left (by rw[<- y.len];exact z)];exact N,?_,Y⟩
     show RepO K m.Hf m.H o v (if i=n.length then [a] else m.fps i)
     rw[if_neg (by omega)];exact r
    ·by_cases z2:i=n.length
     ·subst z2
      rw[List.getElem?_append_right (Nat.le_refl _),Nat.sub_self]at e
      cases e
      refine⟨.ref a,by rw[y.len,List.getElem?_append_right (Nat.le_refl _),Nat.sub_self];rfl,?_,fun z=>nomatch z⟩
      refine⟨a,us,rfl,?_,L,G,TrL.same l.fz t⟩
      show (if n.length=n.length then [a] else _)=_
      rw[if_pos rfl]
     ·rw[List.getElem?_eq_none (by rw[List.length_append,List.length_singleton];omega)]at e;cases e
   ·rcases d i x Z with ⟨q1,C⟩ | q
    ·rcases d j x P with ⟨q3,q4⟩ | M
     ·omega
     ·rw[C]at M;exact absurd ⟨j,M⟩ B
    ·rcases d j x P with ⟨q3,q4⟩ | M
     ·rw[q4]at q;exact absurd ⟨i,q⟩ B
     ·exact y.dis i j x q M
   ·rcases d i x h with ⟨q1,C⟩ | q
    ·rw[C];exact⟨L,_,G,trivial⟩
    ·exact y.own i x q
  have J:Stp W.S W.Hf W.H H.S m.Hf m.H:=by
   refine (st1.trans (Stp.more (F:=fun x=>x∈[a]) l)).less fun x ⟨i,z⟩=>?_
   rcases d i x z with ⟨q1,C⟩ | q
   ·exact .inr (by rw[C];exact .head _)
   ·exact .inl ⟨i,q⟩
  have r3:zH K H.Hf (g++[some (.ref a)]) (.sl n.length::ps) (.ref a::vs) :=
   ⟨.ref a,vs,rfl,by show (g++[some (V.ref a)])[n.length]?=_;rw[y.len,List.getElem?_append_right (Nat.le_refl _),Nat.sub_self];rfl,zH.ext r2⟩
  refine N5 (W1:=H) R3 r3 (u.bnd.mono fun p c' k v A fp st I r=>?_)
  match p,r,k with
  | .sl _,r,k=>exact k.elim
  | .o o,r,k =>
   have hl:c'.length=g.length+1:=by have:=I.len;rw[List.length_append,List.length_singleton]at this;exact this
   let S:Wo:=⟨A.Hf,A.H,fun j=>if j<g.length then A.fps j else []⟩
   have f:∀j x,x∈S.fps j->x∈A.fps j/\j<g.length:=fun j x h=>by
    have h:x∈if j<g.length then A.fps j else []:=h
    split at h
    ·rename_i z;exact⟨h,z⟩
    ·cases h
   have R4:Rep K T S c'.dropLast g:=by
    refine⟨I.sub,by rw[List.length_dropLast,hl];rfl,fun i o e=>?_,fun i j x Z P=>I.dis i j x (f i x Z).1 (f j x P).1,fun i x h=>I.own i x (f i x h).1⟩
    have z:i<g.length:=by
     rcases Nat.lt_or_ge i g.length with q | q
     ·exact q
     ·rw[List.getElem?_eq_none (by rw[List.length_dropLast,hl];exact q)]at e;cases e
    rw[List.getElem?_dropLast,if_pos (by omega)]at e
    obtain⟨v,N,r,Y⟩:=I.get i o e
    refine⟨v,by rw[List.getElem?_append_left z]at N;exact N,?_,Y⟩
    show RepO K _ _ o v (if i<g.length then A.fps i else [])
    rw[if_pos z];exact r
   have w:∀x,S.S x->A.S x:=fun x ⟨i,h⟩=>⟨i,(f i x h).1⟩
   refine k v S _ ((J.trans st).less fun x z=>?_) R4 ⟨r.1,fun x hx z=>r.2 x hx (w x z)⟩
   rcases z with z | z
   ·exact .inl (w x z)
   ·exact .inr z
end
def B1z (is:List Nat)(c:Ev):Ev:=is.foldl (fun c i=>c.set i none) c
section
variable {K:PySem.W.Frag}{X:Cx}{Hf H:Hp}{Q:VK}
theorem OpR.or    (h:OpR X f r) (h':OpR X f b):OpR X f (fun x y H Q=>r x y H Q\/b x y H Q):=by
 intro c s e H x y v u Q I d a q
 rcases q with q | q
 ·exact h _ s _ H x y v u Q I d a q
 ·exact h' _ s _ H x y v u Q I d a q
theorem zB.or    (h:zB X f r) (h':zB X f b):zB X f (fun xs H Q=>r xs H Q\/b xs H Q):=by
 intro c s d H xs e Q I a q
 rcases q with q | q
 ·exact h _ s _ H _ _ Q I a q
 ·exact h' _ s _ H _ _ Q I a q
theorem Eu   (h:RdV Hf H (.int i) v):v=.int i:=h
theorem Jt   (h:RdV Hf H (.str x) v):v=.str x:=h
theorem Ud   (h:RdV Hf H (.bool b) v):v=.bl b:=h
theorem Aa2  (h:RdV Hf H .none v):v=.non:=h
theorem Hs   (s:Same Hf H) (h:RdV Hf H (.tuple ds) v):∃a b,v=.ref a/\H a=some (.tup b)/\TrL Hf ds b:=by
 obtain⟨a,b,e,q,t⟩:=(show Tr _ _ v from h)
 exact⟨a,b,e,s _ _ q,t⟩
theorem Ga   (h:RdV Hf H (.list ds) v):∃a vs,v=.ref a/\H a=some (.lst vs)/\TrL Hf ds vs:=h
theorem New.int  (h:New K Hf H (.im (.int i)) Q) (s:Same Hf H):Q (.int i) H:=h.same s rfl
theorem New.bl  (h:New K Hf H (.im (.bool b)) Q) (s:Same Hf H):Q (.bl b) H:=h.same s rfl
theorem New.str  (h:New K Hf H (.im (.str x)) Q) (s:Same Hf H):Q (.str x) H:=h.same s rfl
theorem New.tupS   (h:New K Hf H (.im (.tuple ds)) Q) (s:Same Hf H) (t:TrL Hf ds vs)   (S:Same H H') (hp:H' p=some (.tup vs)):Q (.ref p) H':=by
 have c:Same _ (upd Hf p (.tup vs)):=fun b u e=>by
  unfold upd
  split
  ·have:=S b u (s b u e)
   simp_all
  grind
 refine h _ _ _ [] ⟨c,fun a o e _=>S a o e,fun a o e d _ q=>?_,fun a z=>nomatch z⟩ (fun b u e=>?_) ⟨rfl,p,vs,rfl,Ca,TrL.same c t⟩
 ·unfold upd
  split
  ·rename_i z
   have:=S a o e;rw[z,hp]at this
   cases this
   trivial
  omega
 ·unfold upd at e
  split at e
  ·simp_all
  ·exact S b u (s b u e)
def Bs1:R2:=fun x y H Q=>(rI0 (fun i j=>.int (i+j)) x y H Q\/(∃i j,x=.str i/\y=.str j/\i.length+j.length<=sizeLine/\Q (.str (i++j)) H))\/(B0d x y H Q\/Bk1 x y H Q)
theorem Bq3:OpR X (binaryOp .Add) Bs1:=OpR.or (OpR.or Bt8 Am5) (OpR.or Bp1 Bc7)
def Ck:PyData->PyData->Option O
 | .int i,.int j=>some (.im (.int (i+j)))
 | .str a,.str b=>if a.length+b.length<=16000000 then some (.im (.str (a++b))) else none
 | .list a,.list b=>if a.length+b.length<=16000000 then some (.ls false (a++b)) else none
 | .tuple a,.tuple b=>if a.length+b.length<=16000000 then some (.im (.tuple (a++b))) else none
 | _,_=>none
theorem lim  (h:n<=16000000):n<=sizeLine:=Nat.le_trans h (by decide)
theorem Cu:OpS K Bs1 Ck:=by
 intro C H x y A B o Q s g f e n;unfold Ck at e
 split at e
 ·rename_i i j
  cases e
  exact .inl (.inl ⟨i,j,Eu g,Eu f,n.int s⟩)
 ·rename_i a b
  split at e
  ·rename_i l
   cases e
   exact .inl (.inr ⟨a,b,Jt g,Jt f,lim l,n.str s⟩)
  ·cases e
 ·have e  := e
  split at e
  ·rename_i l
   cases e
   obtain⟨p,v,k,h,d⟩:=Ga g;obtain⟨q,t,u,m,c⟩:=Ga f
   exact .inr (.inl ⟨p,q,v,t,k,u,h,m,by rw[<- d.length,<- c.length];exact lim l,fun r w=>n.lst s (d.app c) w⟩)
  ·cases e
 ·have e  := e
  split at e
  ·rename_i l
   cases e
   obtain⟨p,v,k,h,d⟩:=Hs s g;obtain⟨q,t,u,m,c⟩:=Hs s f
   exact .inr (.inr ⟨p,q,v,t,k,u,h,m,by rw[<- d.length,<- c.length];exact lim l,fun r z S w=>n.tupS s (d.app c) S w⟩)
  ·cases e
 ·cases e
def opI (C:Int->Int->Bool)(g:Int->Int->Int):PyData->PyData->Option O
 | .int i,.int j=>if C i j then some (.im (.int (g i j))) else none
 | _,_=>none
theorem Av5    (hc:∀i j,C i j=true->a i j):OpS K (rI a fun i j=>.int (g i j)) (opI C g):=by
 intro d H x y h f o Q s c b e n;unfold opI at e
 split at e
 ·rename_i i j
  split at e
  ·rename_i l
   cases e
   exact⟨i,j,Eu c,Eu b,hc i j l,n.int s⟩
  trivial
 grind
def Wn (g:Int->Int->PyData):PyData->PyData->Option O
 | .int i,.int j=>some (.im (g i j))
 | _,_=>none
theorem Ab8   (hg:∀i j H,Tr H (g i j) (g' i j)):OpS K (rI0 g') (Wn g):=by
 intro c H x y f d o Q s a b e n;unfold Wn at e
 split at e
 ·rename_i i j
  cases e
  exact⟨i,j,Eu a,Eu b,n.same s (hg i j _)⟩
 trivial
def Vh (i j:Int):Bool:=(decide (-(2 ^ 64)<i)&&decide (i<2 ^ 64))||(decide (-(2 ^ 64)<j)&&decide (j<2 ^ 64))
def Df (d:PyData):Bool:=d.canLay0&&decide (d.depth<=40)
theorem Gn  (h:Df d=true):Flat d:=by
 obtain⟨b,a⟩:=Bool.and_eq_true_iff.mp h;exact⟨b,of_decide_eq_true a⟩
def Yr:PyData->PyData->Bool
 | .str _,.str _=>true
 | _,_=>false
def Di (neg:Bool)(a b:PyData):Option O:=if (Df a&&Df b)||Yr a b then some (.im (.bool (if neg then !PyData.eqv a b else PyData.eqv a b))) else none
def rEQ:R2:=fun x y H Q=>B2i x y H Q\/rEq x y H Q
def rNE:R2:=fun x y H Q=>B2k x y H Q\/rNe x y H Q
theorem Bi6 (hu:X.A.units+64<cLine):OpR X (compareOp .Eq) rEQ:=OpR.or (Bv7 hu) B0q
theorem B0k (hu:X.A.units+64<cLine):OpR X (compareOp .NotEq) rNE:=OpR.or (Bq2 hu) B0h
theorem Ac1 (x y:Str):PyData.eqv (.str x) (.str y)=decide (V.str x=V.str y):=by
 show (x==y)=_
 grind
theorem Fd:OpS K rEQ (Di false):=by
 intro h H x y f d o Q s b a e n;unfold Di at e
 split at e
 ·rename_i l
  cases e
  rcases Bool.or_eq_true_iff.mp l with l | l
  ·obtain⟨g,c⟩:=Bool.and_eq_true_iff.mp l
   exact .inl ⟨f,d,b.tr s,a.tr s,Gn g,Gn c,n.bl s⟩
  ·unfold Yr at l
   split at l
   ·cases Jt b
    cases Jt a
    refine .inr ⟨rfl,?_⟩
    rw[<- Ac1];exact n.bl s
   grind
 grind
theorem An8:OpS K rNE (Di true):=by
 intro h H x y f d o Q s b a e n;unfold Di at e
 split at e
 ·rename_i l
  cases e
  rcases Bool.or_eq_true_iff.mp l with l | l
  ·obtain⟨g,c⟩:=Bool.and_eq_true_iff.mp l
   exact .inl ⟨f,d,b.tr s,a.tr s,Gn g,Gn c,n.bl s⟩
  ·unfold Yr at l
   split at l
   ·cases Jt b
    cases Jt a
    refine .inr ⟨rfl,?_⟩
    rw[<- Ac1];exact n.bl s
   grind
 grind
def Hi (neg:Bool)(a b:PyData):Option O:=match b with
 | .none=>some (.im (.bool (match a with
  | .none=>!neg
  | _=>neg)))
 | _=>none
theorem Bi0   (h:RdV Hf H d v):decide (v=.non)=(match d with | .none=>true | _=>false):=by
 cases d with
 | none=>cases Aa2 h;rfl
 | bool b=>cases Ud h;rfl
 | int i=>cases Eu h;rfl
 | str x=>cases Jt h;rfl
 | list c=>obtain⟨a,e,rfl,_⟩:=Ga h;rfl
 | tuple c=>obtain⟨a,e,rfl,_⟩:=(show Tr _ _ v from h);rfl
 | dict k=>trivial
theorem Qg:OpS K (fun x y H Q=>y=.non/\Q (.bl (decide (x=.non))) H) (Hi false):=by
 intro f H x y c b o Q s d a e n
 match b,a,e with
 | .none,a,e =>
  refine⟨Aa2 a,?_⟩
  rw[Bi0 d]
  cases e
  cases c <;> exact n.bl s
def rIN:R2:=fun x y H Q=>Be0 false x y H Q\/B2f x y H Q
theorem Bz6 (hu:X.A.units+64<cLine):OpR X (compareOp .In) rIN:=OpR.or (Br8 hu) A1x
def Gy (neg:Bool):PyData->PyData->Option O
 | d,.list ds=>if Df d&&PyData.canLayAll0 ds then some (.im (.bool (if neg then !(ds.any fun e=>PyData.eqv e d) else ds.any fun e=>PyData.eqv e d))) else none
 | d,.tuple ds=>if Df d&&PyData.canLayAll0 ds then some (.im (.bool (if neg then !(ds.any fun e=>PyData.eqv e d) else ds.any fun e=>PyData.eqv e d))) else none
 | .str i,.str j=>if neg then none else some (.im (.bool (!(Builtin.Str.occurrences j i 0 j.length 1).isEmpty)))
 | _,_=>none
theorem A3j:OpS K rIN (Gy false):=by
 intro h H x y g k o Q s b d e n;unfold Gy at e
 split at e
 ·rename_i c
  have e  := e
  split at e
  ·rename_i l
   obtain⟨f,a⟩:=Bool.and_eq_true_iff.mp l
   cases e
   exact .inl ⟨g,c,b.tr s,.inl (d.tr s),Gn f,a,n.bl s⟩
  grind
 ·rename_i c
  have e  := e
  split at e
  ·rename_i l
   obtain⟨f,a⟩:=Bool.and_eq_true_iff.mp l
   cases e
   exact .inl ⟨g,c,b.tr s,.inr (d.tr s),Gn f,a,n.bl s⟩
  simp_all
 ·rename_i i j
  cases e
  exact .inr ⟨i,j,Jt b,Jt d,n.bl s⟩
 trivial
theorem Jd:OpS K (Be0 true) (Gy true):=by
 intro h H x y f i o Q s d g e n;unfold Gy at e
 split at e
 ·rename_i a
  have e  := e
  split at e
  ·rename_i l
   obtain⟨c,b⟩:=Bool.and_eq_true_iff.mp l
   cases e
   exact⟨f,a,d.tr s,.inl (g.tr s),Gn c,b,n.bl s⟩
  simp_all
 ·rename_i a
  have e  := e
  split at e
  ·rename_i l
   obtain⟨c,b⟩:=Bool.and_eq_true_iff.mp l
   cases e
   exact⟨f,a,d.tr s,.inr (g.tr s),Gn c,b,n.bl s⟩
  grind
 ·simp_all
 grind
theorem A8u     (t:TrL Hf ds vs) (h:atI ds i=some d):∃v,atI vs i=some v/\Tr Hf d v:=by
 unfold atI at h ⊢;rw[<- t.length];obtain⟨j,c,a⟩:=Option.bind_eq_some_iff.mp h;obtain⟨v,e,b⟩:=t.got a
 grind
def cutD (ds:List PyData)(lo hi:Option Int):List PyData:=(ds.drop (HT.sIx ds.length 0 lo)).take (HT.sIx ds.length ds.length hi-HT.sIx ds.length 0 lo)
theorem TrL.drop':∀{ds:List PyData}{vs:List V}(n:Nat),TrL Hf ds vs->TrL Hf (ds.drop n) (vs.drop n)
 | ds,vs,0,h=>h
 | [],_,n+1,h=>by cases (show _=[] from h);exact rfl
 | d::ds,_,n+1,⟨v,r,rfl,_,t⟩=>TrL.drop' n t
theorem TrL.take':∀{ds:List PyData}{vs:List V}(n:Nat),TrL Hf ds vs->TrL Hf (ds.take n) (vs.take n)
 | ds,vs,0,h=>by rw[List.take_zero,List.take_zero];exact rfl
 | [],_,n+1,h=>by cases (show _=[] from h);exact rfl
 | d::ds,_,n+1,⟨v,r,rfl,q,t⟩=>⟨v,r.take n,rfl,q,TrL.take' n t⟩
theorem TrL.cut    (t:TrL Hf ds vs):TrL Hf (cutD ds lo hi) (A0v vs lo hi):=by
 unfold cutD A0v;rw[<- t.length];exact TrL.take' _ (TrL.drop' _ t)
theorem TrL.rev:∀{ds:List PyData}{vs:List V},TrL Hf ds vs->TrL Hf ds.reverse vs.reverse
 | [],_,h=>by cases (show _=[] from h);exact rfl
 | d::ds,_,⟨v,r,rfl,q,t⟩=>by
  rw[List.reverse_cons,List.reverse_cons];exact(TrL.rev t).app (TrL.one q)
end
section
variable {K:PySem.W.Frag}{X:Cx}{Hf H:Hp}{Q:VK}{β:Nat->V}{W W':Wo}{c c':Ev}{σ:St}{v:V}
theorem Bp0   (h:Bv1 Hf H [d] xs):∃x,xs=[x]/\RdV Hf H d x:=by
 obtain⟨v,r,b,c,a⟩:=h
 cases (a)
 grind
def Kf:List PyData->Option O
 | [.list ds]=>some (.im (.int ds.length))
 | [.tuple ds]=>some (.im (.int ds.length))
 | [.str z]=>if z.length<=16000000 then some (.im (.int z.length)) else none
 | _=>none
theorem A2c:B0v K (S9 K) Kf:=by
 intro Hf H xs ds o Q s d e n;unfold Kf at e
 split at e
 ·obtain⟨x,rfl,r⟩:=Bp0 d
  obtain⟨a,c,rfl,b,t⟩:=Ga r
  cases e
  refine⟨.ref a,c.length,rfl,Bd1 b,?_⟩
  rw[<- t.length];exact n.int s
 ·obtain⟨x,rfl,r⟩:=Bp0 d
  obtain⟨a,c,rfl,b,t⟩:=Hs s r
  cases e
  refine⟨.ref a,c.length,rfl,Bi3 b,?_⟩
  rw[<- t.length];exact n.int s
 ·rename_i z
  obtain⟨x,rfl,r⟩:=Bp0 d
  cases Jt r
  split at e
  ·rename_i l
   cases e
   refine⟨.str z,z.length,rfl,?_,n.int s⟩
   show (if z.length<=sizeLine then some _ else none)=_
   rw[if_pos (lim l)]
  trivial
 simp_all
def Bf8 (K:PySem.W.Frag):List V->Hp->VK->Prop:=fun xs H Q=>S9 K xs H Q\/Ao1 K xs H Q
theorem A4d:zB X (.builtin "len") (Bf8 X.K):=zB.or A2o Aj1
def K7 (f:Ev->R PV):Ev->R PV:=fun c=>(f c).bind fun p c=>match nrm p with
 | .o (.sc ns)=>.ok (.o (.im (.int ns.length))) c
 | p=>match Er c p with
  | some d=>match Kf [d] with
   | some o=>.ok (.o o) c
   | none=>.bad
  | none=>.bad
theorem J5   (h:ME K t f):ME K (tCB (Bf8 K) (Dh t G6)) (K7 f):=by
 intro A W c u Q R s
 refine h.toV A W c u _ R (s.bnd.mono fun p w e v r n k g=>?_)
 have m:∀q:PV,RepA K r.Hf u q v->((match Er w q with
  | some d=>(match Kf [d] with
   | some o=>.ok (.o o) w
   | none=>.bad)
  | none=>.bad:U.R PV)).sat (fun p C=>∀v j l,Stp W.S W.Hf W.H (orS j.S l) j.Hf j.H->Rep K A j C u->Fv K j u p v l->Q v j.H)->Bf8 K [v] r.H Q:=fun q g e=>by
  cases ex:Er w q with
  | none=>simp only[ex]at e;exact e.elim
  | some d =>
   simp only[ex]at e
   cases eo:Kf [d] with
   | none=>simp only[eo]at e;exact e.elim
   | some o =>
    simp only[eo]at e
    exact .inl (A2c r.Hf r.H [v] [d] o Q k.sub ⟨v,[],rfl,Fw k g ex,rfl⟩ eo (New.of k fun v j l z y x=>e v j l (n.trans z) y x))
 generalize nrm p=q at e g
 match q,g,e with
 | .o (.sc ns),g,e =>
  obtain⟨a,rfl,B⟩:=g;have e:∀v j l,Stp _ _ _ _ _ _->Rep K _ j _ _->Fv K _ _ _ v _->Q v _:=e
  refine .inr ⟨.ref a,ns.length,rfl,?_,(New.of k fun v j l z y x=>e v _ _ (n.trans z) y x).int k.sub⟩
  exact .inl ⟨ns.map _,Same.seq k.sub B,by simp_all⟩
 | .o (.im d),g,e=>exact m _ g e
 | .o (.ls b d),g,e=>trivial
 | .o (.ty T),g,e=>trivial
 | .sl i,g,e=>exact m _ g e
inductive Ty5 where
 | int | str | bool | list | tuple
def Ty5.nm:Ty5->String
 | .int => "int"
 | .str => "str"
 | .bool => "bool"
 | .list => "list"
 | .tuple => "tuple"
def Pn:Ty5->PyData->Bool
 | .int,.int _=>true
 | .int,.bool _=>true
 | .str,.str _=>true
 | .bool,.bool _=>true
 | .list,.list _=>true
 | .tuple,.tuple _=>true
 | _,_=>false
def At6:PyData->String
 | .none => "NoneType"
 | .bool _ => "bool"
 | .int _ => "int"
 | .str _ => "str"
 | .list _ => "list"
 | .tuple _ => "tuple"
 | .dict _ => "dict"
theorem At3   (s:Same Hf H) (h:RdV Hf H d v):Oq H v=some (At6 d):=by
 cases d with
 | none=>cases Aa2 h;rfl
 | bool b=>cases Ud h;rfl
 | int i=>cases Eu h;rfl
 | str x=>cases Jt h;rfl
 | list c=>obtain⟨a,f,rfl,e,_⟩:=Ga h;exact Bp6 e
 | tuple c=>obtain⟨a,f,rfl,e,_⟩:=Hs s h;exact Bx9 e
 | dict k=>trivial
theorem Ar5   (h:RdV Hf H d v) (T:Ty5):Fq (At6 d) T.nm=some (Pn T d):=by
 cases d with
 | none=>cases T <;> first | exact T7 | exact T4 | exact Ra | exact Q9 | exact Py
 | bool b=>cases T <;> first | exact Af7 | exact Ad8 | exact Zv | exact Aa4 | exact Wq
 | int i=>cases T <;> first | exact As7 | exact Am3 | exact Ak4 | exact Ak2 | exact Yw
 | str x=>cases T <;> first | exact Aq6 | exact Am7 | exact Ac7 | exact Ae6 | exact Ab6
 | list a=>cases T <;> first | exact Ad5 | exact Aj3 | exact Ab1 | exact Ac0 | exact Wr
 | tuple a=>cases T <;> first | exact Zx | exact Aa7 | exact Wu | exact Wj | exact Vs
 | dict k=>exact(h).elim
def cUn (op:PyData->Option O)(f:Ev->R PV):Ev->R PV:=fun c=>(f c).bind fun p c=>match Er c (nrm p) with
 | some d=>match op d with
  | some o=>.ok (.o o) c
  | none=>.bad
 | none=>.bad
def UnS (K:PySem.W.Frag)(r:V->Hp->VK->Prop)(op:PyData->Option O):Prop:=∀(Hf H:Hp) (x:V) (d:PyData) (o:O) (Q:VK),Same Hf H->RdV Hf H d x->op d=some o->New K Hf H o Q->r x H Q
theorem Xv     (h:ME K t f) (hr:UnS K r op):ME K (tUn r t) (cUn op f):=by
 intro u W c m Q R s
 refine h.toV _ W c _ _ R (s.bnd.mono fun p j a v w e b k=>?_)
 cases ex:Er j (nrm p) with
 | none=>simp only[ex]at a;trivial
 | some d =>
  simp only[ex]at a
  cases eo:op d with
  | none=>simp only[eo]at a;trivial
  | some o =>
   simp only[eo]at a
   exact hr _ _ v d o Q b.sub (Fw b k ex) eo (New.of b fun v n q i l g=>a v _ _ (e.trans i) l g)
theorem Bl     (h:ME K t f) (hr:UnS K (fun x H Q=>r [x] H Q) op):ME K (tCB r (Dh t G6)) (cUn op f):=Xv h hr
def En (T:Ty5)(d:PyData):Option O:=some (.im (.bool (Pn T d)))
def Ju (T1 T2:Ty5)(d:PyData):Option O:=some (.im (.bool (Pn T1 d||Pn T2 d)))
theorem Gw   (T:Ty5) (h:ME K t f):ME K (tCB (Ph K) (Dh t (Dh (tC (.ty T.nm)) G6))) (cUn (En T) f) :=
 Xv  h fun a H x d o Q s r e n=>by
  cases e
  exact⟨x,T.nm,At6 d,Pn T d,rfl,At3 s r,Ar5 r T,n.bl s⟩
theorem Ba1    (h1:Fq t A=some a) (h2:Fq t B=some b):K8 t [A,B]=some (a||b):=by
 unfold K8;unfold K8;unfold K8
 grind
theorem Ab9   (g j:Ty5) (h:ME K t f):ME K (tCB (Jz K) (Dh t (Dh (A5c (Dh (tC (.ty g.nm)) (Dh (tC (.ty j.nm)) G6))) G6))) (cUn (Ju g j) f) :=
 Xv (r:=fun x H Q=>2<=sizeLine/\∀p,H p=none->Jz K _ _ Q) h fun v H x d o Q s r e n=>by
  cases e
  refine⟨by decide,fun p c=>⟨x,p,[g.nm,j.nm],At6 d,Pn _ d||Pn _ d,rfl,Ca,?_,Ba1 (Ar5 r _) (Ar5 r _),?_⟩⟩
  ·have l:Same _ (upd H p (.tup [.ty g.nm,.ty j.nm])):=Z5 s c
   refine At3  l ?_
   cases d with
   | list u=>obtain⟨a,m,e,q,t⟩:=r;exact⟨a,m,e,Cw c _ _ q,t⟩
   | none=>exact r
   | bool b=>exact r
   | int i=>exact r
   | str z=>exact r
   | tuple u=>exact r
   | dict k=>exact r
  ·exact n _ _ _ [] ((Stp.newL s c).less fun a z=>nomatch z) (Z5 s c) ⟨rfl,rfl⟩
def boolsOf:List PyData->Option (List Bool)
 | []=>some []
 | .bool b::r=>(boolsOf r).map (b::·)
 | _=>none
theorem Ua:∀{ds:List PyData}{bs:List Bool}{vs:List V},boolsOf ds=some bs->TrL Hf ds vs->vs=bs.map V.bl
 | [],bs,vs,e,t=>by cases (show some []=some bs from e);exact t
 | .bool b::r,bs,_,e,⟨v,vr,rfl,h,t⟩=>by
  obtain⟨l,e1,rfl⟩:=Option.map_eq_some_iff.mp (show (boolsOf r).map (b::·)=some bs from e)
  cases (show v=.bl b from h)
  rw[Ua e1 t];rfl
 | .none::r,bs,_,e,_=>nomatch e
 | .int _::r,bs,_,e,_=>nomatch e
 | .str _::r,bs,_,e,_=>nomatch e
 | .list _::r,bs,_,e,_=>nomatch e
 | .tuple _::r,bs,_,e,_=>nomatch e
 | .dict _::r,bs,_,e,_=>nomatch e
def Ah8:PyData->Option O
 | .list ds=>(boolsOf ds).map fun bs=>.im (.bool (bs.all id))
 | _=>none
theorem Aw2:UnS K (fun x H Q=>Mr K [x] H Q) Ah8:=by
 intro Hf H x d o Q s r e n
 match d,r,e with
 | .list _,r,e =>
  obtain⟨c,f,rfl⟩:=Option.map_eq_some_iff.mp (show (boolsOf _).map _=some o from e)
  obtain⟨a,vs,rfl,b,t⟩:=Ga r
  exact⟨a,c,rfl,by rw[<- Ua f t];exact SqL.of b,n.bl s⟩
def A5j:PyData->Option O
 | .int i=>some (.im (.int i))
 | .bool b=>some (.im (.int (if b then 1 else 0)))
 | _=>none
theorem A9s:UnS K (fun x H Q=>Mu K [x] H Q) A5j:=by
 intro a H x d o Q s r e n
 match d,r,e with
 | .int i,r,e=>cases e;cases Eu r;exact .inl ⟨i,rfl,n.int s⟩
 | .bool b,r,e=>cases e;cases Ud r;exact .inr ⟨b,rfl,n.int s⟩
def Av4:PyData->Option O
 | .int i=>some (.im (.int (if i<0 then -i else i)))
 | _=>none
theorem At4:UnS K (fun x H Q=>Oz K [x] H Q) Av4:=by
 intro a H x d o Q s r e n
 match d,r,e with
 | .int i,r,e=>cases e;cases Eu r;exact⟨i,rfl,n.int s⟩
def Jf:PyData->Option O
 | .list ds=>some (.ls false ds)
 | .tuple ds=>some (.ls false ds)
 | _=>none
theorem Jm:UnS K (fun x H Q=>Jg K [x] H Q) Jf:=by
 intro Hf H x d o Q s r e n
 match d,r,e with
 | .list _,r,e =>
  cases e
  obtain⟨a,c,rfl,f,t⟩:=Ga r
  exact⟨a,c,rfl,.inl (SqL.of f),fun l b=>n.lst s t b⟩
 | .tuple _,r,e =>
  cases e
  obtain⟨a,c,rfl,f,t⟩:=Hs s r
  exact⟨a,c,rfl,.inr (SqT.of f),fun l b=>n.lst s t b⟩
def Zw:PyData->PyData->Option O
 | .int i,.int j=>some (.im (.int (if j<i then j else i)))
 | _,_=>none
theorem Be7 {c d:TE}  (ha:ME K c fa) (hb:ME K d fb):ME K (tCB (My K) (Dh c (Dh d G6))) (cOp Zw fa fb) :=
 Ak  ha hb fun h H x y g f o Q s a b e n=>by
  match g,f,a,b,e with
  | .int i,.int j,a,b,e=>cases e;cases Eu a;cases Eu b;exact⟨i,j,rfl,n.int s⟩
def MO (K:PySem.W.Frag)(T:TO)(f:Ev->R (Option Int)):Prop:=∀(β:Nat->V) (W:Wo) (c:Ev) (σ:St) (Q:Option Int->Hp->Prop),Rep K β W c σ ->
 (f c).sat (fun b c'=>∀W',Stp W.S W.Hf W.H W'.S W'.Hf W'.H->Rep K β W' c' σ->Q b W'.H)->T σ W.H Q
def cON:Ev->R (Option Int):=fun c=>.ok none c
theorem Nv:MO K Aa5 cON:=fun b W c a Q R s=>s W Stp.refl R
def cOS (f:Ev->R PV):Ev->R (Option Int):=fun c=>(f c).bind fun p c=>match Er c (nrm p) with
 | some (.int i)=>.ok (some i) c
 | _=>.bad
theorem Hx   (h:ME K t f):MO K (A7x t) (cOS f):=by
 intro g W c k Q R s
 refine h.toV _ W c _ _ R (s.bnd.mono fun p l a v j b d e=>?_)
 match ex:Er _ _,a with
 | some (.int i),a=>exact⟨i,Eu (Fw d e ex),a _ b d⟩
 | some .none,a=>exact a.elim
 | some (.bool _),a=>exact a.elim
 | some (.str _),a=>exact a.elim
 | some (.list _),a=>exact a.elim
 | some (.tuple _),a=>exact a.elim
 | some (.dict _),a=>exact a.elim
 | none,a=>exact a.elim
def SlS (K:PySem.W.Frag)(r:V->Option Int->Option Int->Hp->VK->Prop)(op:PyData->Option Int->Option Int->Option O):Prop:=∀(Hf H:Hp) (x:V) (lo hi:Option Int) (d:PyData) (o:O) (Q:VK),Same Hf H->RdV Hf H d x->op d lo hi=some o->New K Hf H o Q->r x lo hi H Q
def cSl (op:PyData->Option Int->Option Int->Option O)(f:Ev->R PV)(fl fh:Ev->R (Option Int)):Ev->R PV:=fun c=>(f c).bind fun p c=>(fl c).bind fun lo c=>(fh c).bind fun hi c=>match Er c (nrm p) with
 | some d=>match op d lo hi with
  | some o=>.ok (.o o) c
  | none=>.bad
 | none=>.bad
theorem Tu       (h:ME K j f) (hl:MO K l k) (u:MO K m n) (hr:SlS K r op):ME K (tSl r j l m) (cSl op f k n):=by
 intro P W c G Q R s
 refine h.toV _ W c _ _ R (s.bnd.mono fun p I D v N g w x=>?_)
 refine hl _ _ _ _ _ w (D.bnd.mono fun z F A J a B=>?_)
 refine u _ _ _ _ _ B (A.bnd.mono fun t y b H e i=>?_)
 cases ex:Er y (nrm p) with
 | none=>simp only[ex]at b;trivial
 | some d =>
  simp only[ex]at b
  cases eo:op d z t with
  | none=>simp only[eo]at b;trivial
  | some o =>
   simp only[eo]at b
   exact hr _ _ v _ _ d o Q i.sub (Fw i (RepA.same (a.trans e).fz x) ex) eo (New.of i fun v L M C E q=>b v _ _ (g.trans (a.trans (e.trans C))) E q)
end
section
variable {K:PySem.W.Frag}{X:Cx}{Hf H:Hp}{Q:VK}{β:Nat->V}{W W':Wo}{c c':Ev}{σ:St}{v:V}
def rSL (K:PySem.W.Frag):V->Option Int->Option Int->Hp->VK->Prop:=fun x lo hi H Q=>(B0n K x lo hi H Q\/(B1i K x lo hi H Q\/Bj1 K x lo hi H Q))\/B1h x lo hi H Q
theorem Bn2:SlR X (rSL X.K):=SlR.or (SlR.or A9o (SlR.or Bt1 Ba0)) Bl7
def J3:PyData->Option Int->Option Int->Option O
 | .list ds,lo,hi=>some (.ls false (cutD ds lo hi))
 | .tuple ds,lo,hi=>some (.im (.tuple (cutD ds lo hi)))
 | .str z,lo,hi=>if z.length<=16000000 then some (.im (.str (Txt.slice z lo hi))) else none
 | _,_,_=>none
theorem Jy:SlS K (rSL K) J3:=by
 intro Hf H x f c d o Q s r e n
 match d,r,e with
 | .list ds,r,e =>
  cases e
  obtain⟨a,b,rfl,g,t⟩:=Ga r
  exact .inl (.inl ⟨a,b,rfl,SqL.of g,fun p h=>n.lst s (TrL.cut t) h⟩)
 | .str z,r,e =>
  by_cases hz:z.length<=16000000
  ·rw[show J3 (.str z) f c=some (.im (.str (Txt.slice z f c))) by simp only[J3];rw[if_pos hz]]at e
   cases e
   exact .inr ⟨z,r,Nat.le_trans hz (by decide),n.same s rfl⟩
  ·rw[show J3 (.str z) f c=none by simp only[J3];rw[if_neg hz]]at e;cases e
 | .tuple ds,r,e =>
  cases e
  obtain⟨a,b,rfl,g,t⟩:=Hs s r
  by_cases w:HT.sIx b.length 0 f=0/\HT.sIx b.length b.length c=b.length
  ·refine .inl (.inr (.inr ⟨a,b,rfl,SqT.of g,w,?_⟩))
   have e:cutD ds f c=ds:=by
    unfold cutD;rw[t.length,w.1,w.2,List.drop_zero,Nat.sub_zero,<- t.length,List.take_length]
   rw[e]at n;exact n.same s r
  ·exact .inl (.inr (.inl ⟨a,b,rfl,SqT.of g,w,fun p h=>n.tup s (TrL.cut t) h⟩))
def Bd (f:Ev->R PV):Ev->R Bool:=fun c=>(f c).bind fun p c=>match Er c (nrm p) with
 | some (.bool b)=>.ok b c
 | _=>.bad
theorem Bo   (h:ME K t f):MT K (Km t) (Bd f):=by
 intro g W c k Q R s
 refine h.toV _ W c _ _ R (s.bnd.mono fun p l a v j b d e=>?_)
 match ex:Er _ _,a with
 | some (.bool i),a=>exact⟨i,Ud (Fw d e ex),a _ b d⟩
 | some .none,a=>exact a.elim
 | some (.int _),a=>exact a.elim
 | some (.str _),a=>exact a.elim
 | some (.list _),a=>exact a.elim
 | some (.tuple _),a=>exact a.elim
 | some (.dict _),a=>exact a.elim
 | none,a=>exact a.elim
theorem Pj   (h:ME K t f):MT K (tB t) (Bd f):=Bo h
def Be:Ev->R Bool:=fun c=>.ok true c
theorem Fg:MT K Bt6 Be:=fun b W c a Q R s=>s W Stp.refl R
def Al8 (f g:Ev->R Bool):Ev->R Bool:=fun c=>(f c).bind fun b c=>if b=true then g c else .ok false c
def cOr (f g:Ev->R Bool):Ev->R Bool:=fun c=>(f c).bind fun b c=>if b=true then .ok true c else g c
def Ap1 (f:Ev->R Bool):Ev->R Bool:=fun c=>(f c).bind fun b c=>.ok (!b) c
theorem Zu   (h1:MT K t f) (h2:MT K u g):MT K (Bo3 t u) (Al8 f g):=fun n W c p Q R s =>
 h1 _ W c _ _ R (s.bnd.mono fun b l h k a e=>by
  cases b with
  | true=>exact h2 _ _ _ _ _ e (h.mono fun b m j o d i=>j _ (a.trans d) i)
  | false=>exact h _ a e)
theorem A5q   (h1:MT K t f) (h2:MT K u g):MT K (tOr t u) (cOr f g):=fun n W c p Q R s =>
 h1 _ W c _ _ R (s.bnd.mono fun b l h k a e=>by
  cases b with
  | false=>exact h2 _ _ _ _ _ e (h.mono fun b m j o d i=>j _ (a.trans d) i)
  | true=>exact h _ a e)
theorem As0   (h1:MT K t f):MT K (Bs3 t) (Ap1 f):=fun h W c g Q R s =>
 h1 _ W c _ _ R (s.bnd.mono fun b j e i a d=>e _ a d)
theorem Zk  {d:Wo}(R:Rep K β W c σ) (st:Stp d.S d.Hf d.H W.S W.Hf W.H) (s:∀v a e,Stp d.S d.Hf d.H (orS a.S e) a.Hf a.H->Rep K β a c σ->Fv K a σ (.o (.im (.bool b))) v e->Q v a.H):Q (.bl b) W.H :=
 R.here (o:=.im (.bool b))  rfl rfl fun v a e f g r=>s v _ _ (st.trans f) g r
def Ol (f g:Ev->R PV):Ev->R PV:=fun c=>(Bd f c).bind fun b c=>if b=true then g c else .ok (.o (.im (.bool false))) c
def Bn1 (f g:Ev->R PV):Ev->R PV:=fun c=>(Bd f c).bind fun b c=>if b=true then .ok (.o (.im (.bool true))) c else g c
def Ax3 (f:Ev->R PV):Ev->R PV:=fun c=>(Bd f c).bind fun b c=>.ok (.o (.im (.bool (!b)))) c
def Ml (ft:Ev->R Bool)(f g:Ev->R PV):Ev->R PV:=fun c=>(ft c).bind fun b c=>if b=true then f c else g c
theorem Qk {r:U.R PV}{b:Wo}(s:r.sat fun p c'=>∀v a d,Stp b.S b.Hf b.H (orS a.S d) a.Hf a.H->Rep K β a c' σ->Fv K a σ p v d->Q v a.H)(st:Stp b.S b.Hf b.H W.S W.Hf W.H) :
 r.sat fun p c'=>∀v a d,Stp W.S W.Hf W.H (orS a.S d) a.Hf a.H->Rep K β a c' σ->Fv K a σ p v d->Q v a.H:=s.mono fun p c k v a d e R r=>k v _ _ (st.trans e) R r
theorem Jx   (h1:ME K h f) (h2:ME K e g):ME K (A8w h e) (Ol f g):=by
 intro k W c j Q R s
 refine Bo h1 _ W c _ _ R (s.bnd.mono fun b m i l a d=>?_)
 cases b with
 | true=>exact h2 _ _ _ _ _ d (Qk i a)
 | false=>exact Zk d a i
theorem Bn9 {h e:TE}{f g:Ev->R PV}(h1:ME K h f)(h2:ME K e g):ME K (Bn6 h e) (Bn1 f g):=by
 intro k W c j Q R s
 refine Bo h1 _ W c _ _ R (s.bnd.mono fun b m i l a d=>?_)
 cases b with
 | false=>exact h2 _ _ _ _ _ d (Qk i a)
 | true=>exact Zk d a i
theorem Aw0   (h1:ME K d f):ME K (A4b d) (Ax3 f):=by
 intro k W c h Q R s
 exact Bo h1 _ W c _ _ R (s.bnd.mono fun b i g j a e=>Zk e a g)
theorem Vm     (ht:MT K i ft) (h1:ME K e f) (h2:ME K h g):ME K (tIf i e h) (Ml ft f g):=by
 intro l W c k Q R s
 refine ht _ W c _ _ R (s.bnd.mono fun b n j m a d=>?_)
 cases b with
 | true=>exact h1 _ _ _ _ _ d (Qk j a)
 | false=>exact h2 _ _ _ _ _ d (Qk j a)
def Bm (f:Ev->R PV):Ev->R (List PyData):=fun c=>(f c).bind fun p c=>(frz (nrm p) c).bind fun d c=>match d with
 | .list ds=>.ok ds c
 | .tuple ds=>.ok ds c
 | _=>.bad
theorem Ba5    (ha:Hf a=some (.lst vs)) (t:TrL Hf ds vs):A0j (Itl K a) Hf ds:=by
 intro i c H f g;have b:=g _ _ (f _ _ ha)
 refine⟨fun e=>⟨vs,SqL.of b,by rw[<- t.length];omega⟩,fun d j=>?_⟩
 obtain⟨v,h,k⟩:=t.got j
 refine⟨⟨vs,v,SqL.of b,h⟩,fun x l ⟨e,q⟩=>?_⟩
 subst e;have:=q _ (SqL.of b);rw[h]at this
 cases this
 exact⟨c,Stp.refl,g,Tr.same f k⟩
theorem Bn7    (ha:Hf a=some (.tup vs)) (t:TrL Hf ds vs):A0j (Itt K a) Hf ds:=by
 intro i c H f g;have b:=g _ _ (f _ _ ha)
 refine⟨fun e=>⟨vs,SqT.of b,by rw[<- t.length];omega⟩,fun d j=>?_⟩
 obtain⟨v,h,k⟩:=t.got j
 refine⟨⟨vs,v,SqT.of b,h⟩,fun x l ⟨e,q⟩=>?_⟩
 subst e;have:=q _ (SqT.of b);rw[h]at this
 cases this
 exact⟨c,Stp.refl,g,Tr.same f k⟩
theorem Fo   (h:ME K t f):MI K (Br1 K t) (Bm f):=by
 intro w W c B k R s
 refine h.toV _ W c _ _ R (s.bnd.mono fun p A r v x l u q=>?_)
 obtain⟨d,y,z,_,b,o,i,m,e⟩:=Ka u q r.bnd;rw[<- o]
 match d,e,b with
 | .list _,e,b =>
  obtain⟨a,n,g,j,t⟩:=e;exact⟨a,g,.inl ⟨n,m.sub _ _ j,b _ _ (l.trans i) m (Ba5 j t)⟩⟩
 | .tuple _,e,b =>
  obtain⟨a,n,g,j,t⟩:=e;exact⟨a,g,.inr ⟨n,m.sub _ _ j,b _ _ (l.trans i) m (Bn7 j t)⟩⟩
 | .none,e,b=>exact b.elim
 | .bool _,e,b=>exact b.elim
 | .int _,e,b=>exact b.elim
 | .str _,e,b=>exact b.elim
 | .dict _,e,b=>trivial
def Ko (lo:Int)(n:Nat):List PyData:=(List.range n).map fun k=>.int (lo+(k:Nat))
theorem Bw8   : A0j (Itr lo n) Hf (Ko lo n):=by
 intro i b H g f
 have l:(Ko lo n).length=n:=by unfold Ko;simp_all
 refine⟨fun e=>by show n<=i;omega,fun d a=>?_⟩
 have c:i<n:=by
  grind
 refine⟨c,fun x h ⟨e,q⟩=>?_⟩
 subst e;unfold Ko at a;rw[List.getElem?_map,List.getElem?_range c]at a
 cases a
 exact⟨b,Stp.refl,f,q⟩
def Mh (f:Ev->R PV):Ev->R (List PyData):=fun c=>(f c).bind fun p c=>match Er c (nrm p) with
 | some (.int j)=>if j<=16000000/\-16000000<=j then .ok (Ko 0 j.toNat) c else .bad
 | _=>.bad
theorem N7   (h:ME K t f):MI K (A6n (Dh t G6)) (Mh f):=by
 intro g W c m k R s
 refine h.toV _ W c _ _ R (s.bnd.mono fun p n a v i b d e=>?_)
 match ex:Er _ _,a with
 | some (.int j),a =>
  cases Eu (Fw d e ex)
  by_cases l:j<=16000000/\-16000000<=j
  ·have a:(if j<=16000000/\-16000000<=j then U.R.ok _ _ else .bad).sat _:=a
   rw[if_pos l]at a
   exact⟨j,rfl,by omega,by omega,a _ _ b d Bw8⟩
  ·have a:(if j<=16000000/\-16000000<=j then U.R.ok _ _ else .bad).sat _:=a
   rw[if_neg l]at a;trivial
 | some .none,a=>exact a.elim
 | some (.bool _),a=>exact a.elim
 | some (.str _),a=>exact a.elim
 | some (.list _),a=>exact a.elim
 | some (.tuple _),a=>exact a.elim
 | some (.dict _),a=>exact a.elim
 | none,a=>exact a.elim
def Z7 (d:Option PyData):Option Int:=match d with
 | some (.int i)=>some i
 | _=>none
theorem Zm   (h:Z7 d=some i):d=some (.int i):=by
 unfold Z7 at h
 grind
def Mj:PyData->Option (List PyData)
 | .list ds=>some ds
 | .tuple ds=>some ds
 | _=>none
theorem Aq3    (h:Mj d=some ds) (t:Tr Hf d v):∃b a c,v=.ref a/\SqK b Hf a c/\TrL Hf ds c:=by
 cases d with
 | list l=>cases h;obtain⟨a,c,e,f,t⟩:=t;exact⟨false,a,c,e,f,t⟩
 | tuple l=>cases h;obtain⟨a,c,e,f,t⟩:=t;exact⟨true,a,c,e,f,t⟩
 | none=>cases h
 | bool _=>cases h
 | int _=>cases h
 | str _=>cases h
 | dict _=>cases h
theorem Jr    {c:Hp}(S:Same Hf c) (h:SqK b Hf a vs):SqK b c a vs:=by
 cases b
 ·exact S _ _ h
 ·exact S _ _ h
def T5 (xs ys:List PyData):List PyData:=(xs.zip ys).map fun p=>.tuple [p.1,p.2]
theorem Bq5     (ha:SqK t1 Hf a vs) (hb:SqK t2 Hf b us) (t:TrL Hf xs vs) (u:TrL Hf ys us):A0j (Itz t1 t2 a b) Hf (T5 xs ys):=by
 intro i B H j f;have m:=Jr (j.trans f) ha;have k:=Jr (j.trans f) hb
 have l:(T5 xs ys).length=min xs.length ys.length:=by unfold T5;simp_all
 refine⟨fun e=>⟨vs,us,m,k,by rw[<- t.length,<- u.length,e];omega⟩,fun d x=>?_⟩
 obtain⟨p,n,e⟩:=Hl x;rw[List.getElem?_zip_eq_some]at n;obtain⟨h,r,v⟩:=t.got n.1;obtain⟨c,s,w⟩:=u.got n.2
 refine⟨⟨vs,us,h,c,m,k,r,s⟩,fun z H' y=>?_⟩
 obtain⟨p,x',y',rfl,g,rfl,A,C⟩:=y;have:=A _ m;rw[r]at this;cases this;have:=C _ k;rw[s]at this;cases this;subst e;have q:=Cw (o:=.tup [h,c]) (Same.free f g);exact⟨upd _ p _,Stp.newF f g,Oe f,p,[h,c],rfl,Ca,h,[c],rfl,Tr.same q (Tr.same j v),c,[],rfl,Tr.same q (Tr.same j w),rfl⟩
def A9d (f g:Ev->R PV):Ev->R (List PyData):=fun c=>(f c).bind fun p c=>(g c).bind fun q c=>(frz (nrm p) c).bind fun x c=>(frz (nrm q) c).bind fun y c=>match Mj x,Mj y with
 | some xs,some ys=>.ok (T5 xs ys) c
 | _,_=>.bad
theorem Bo6   (h:ME K t f) (h':ME K u g):MI K (Bs6 (Dh t (Dh u G6))) (A9d f g):=by
 intro β W c σ k R s
 refine h.toV _ W c _ _ R (s.bnd.mono fun p c1 G v1 W1 l P v=>?_)
 refine h'.toV _ _ _ _ _ P (G.bnd.mono fun q c2 w v2 W2 i A B=>?_)
 obtain⟨x,c3,W3,_,C,D,e,E,F⟩:=Ka A (RepA.same i.fz v) w.bnd;obtain⟨y,c4,W4,_,j,r,d,m,I⟩:=Ka E (RepA.same e.fz B) C.bnd
 cases ex:Mj x with
 | none=>simp only[ex]at j;trivial
 | some xs =>
  cases ey:Mj y with
  | none=>simp only[ex,ey]at j;trivial
  | some ys =>
   simp only[ex,ey]at j;obtain⟨J,a,L,rfl,H,N⟩:=Aq3 ex F;obtain⟨M,b,O,rfl,n,o⟩:=Aq3 ey I;rw[<- D,<- r];have z:=Jr d.fz H;exact⟨a,b,rfl,J,M,L,O,Jr m.sub z,Jr m.sub n,j _ _ (l.trans (i.trans (e.trans d))) m (Bq5 z n (TrL.same d.fz N) o)⟩
def Je (xs:List PyData):List PyData:=(List.range xs.length).map fun k=>.tuple [.int (k:Nat),xs.getD k .none]
theorem Bh0     (ha:SqK t Hf a vs) (u:TrL Hf xs vs):A0j (Ite t a) Hf (Je xs):=by
 intro i v H j f;have h:=Jr (j.trans f) ha
 have l:(Je xs).length=xs.length:=by unfold Je;simp_all
 refine⟨fun e=>⟨vs,h,by rw[<- u.length];omega⟩,fun d g=>?_⟩
 have n:i<xs.length:=by
  grind
 unfold Je at g;rw[List.getElem?_map,List.getElem?_range n]at g
 cases g
 have q:xs[i]?=some (xs.getD i .none):=by grind
 obtain⟨b,k,r⟩:=u.got q
 refine⟨⟨vs,b,h,k⟩,fun z H' s=>?_⟩
 obtain⟨p,x',rfl,c,rfl,m⟩:=s;have:=m _ h;rw[k]at this;cases this;exact⟨upd _ p _,Stp.newF f c,Oe f,p,[.int i,b],rfl,Ca,.int i,[b],rfl,rfl,b,[],rfl,Tr.same (Cw (o:=.tup [.int i,b]) (Same.free f c)) (Tr.same j r),rfl⟩
def Mi (f:Ev->R PV):Ev->R (List PyData):=fun c=>(f c).bind fun p c=>(frz (nrm p) c).bind fun x c=>match Mj x with
 | some xs=>.ok (Je xs) c
 | _=>.bad
theorem Ab5   (h:ME K t f):MI K (A5a (Dh t G6)) (Mi f):=by
 intro β W c σ k R s
 refine h.toV _ W c _ _ R (s.bnd.mono fun p c1 u v1 W1 e n q=>?_)
 obtain⟨x,c3,W3,_,b,l,d,g,o⟩:=Ka n q u.bnd
 cases ex:Mj x with
 | none=>simp only[ex]at b;trivial
 | some xs =>
  simp only[ex]at b;obtain⟨m,a,r,rfl,i,j⟩:=Aq3 ex o;rw[<- l];exact⟨a,rfl,m,r,Jr g.sub i,b _ _ (e.trans d) g (Bh0 i j)⟩
end
section
variable {K:PySem.W.Frag}{X:Cx}{Hf H:Hp}{Q:VK}{β:Nat->V}{W W':Wo}{c c':Ev}{σ:St}{v:V}{p:PV}{fp:List Addr}{i:Nat}{b:Bool}{ds ds':List PyData}
theorem Bw5 (R:Rep K β W c σ)(r:Fv K W σ p v fp):∃W',W'.H=W.H/\Stp (orS W.S fp) W.Hf W.H W'.S W'.Hf W'.H/\Rep K β W' c σ/\RepA K W'.Hf σ (nrm p) v:=by
 have f:Stp (orS W.S fp) W.Hf W.H _ _ _:=Stp.refl.up fun a z=>.inl z
 cases p with
 | sl i=>exact⟨W,rfl,f,R,r.2⟩
 | o o =>
  cases o with
  | im d=>exact⟨W,rfl,f,R,r.1.2⟩
  | sc d=>exact⟨W,rfl,f,R,r.1.2⟩
  | ty d=>exact⟨W,rfl,f,R,r.1.2⟩
  | ls b ds =>
   obtain⟨⟨a,h,rfl,rfl,g,j,t⟩,l⟩:=r
   refine⟨⟨upd _ a _,W.H,W.fps⟩,rfl,⟨Cw g,fun b o e _=>e,fun b o e mu n q=>?_,fun b z=>.inl (.inl z)⟩,Zq R g j (l a (.head _)),a,h,rfl,Ca,TrL.same (Cw g) t⟩
   have k:b≠a:=fun z=>n (.inr (by grind))
   show upd _ a _ b=none
   rw[Ar k];grind
theorem Rep.mut (R:Rep K β W c σ)(hc:c[i]?=some (some (.ls b ds)))(hv:σ[i]?=some (some v)):∃a h,v=.ref a/\W.H a=some (.lst h)/\TrL W.Hf ds h /\
 ∀f d,TrL W.Hf f d->Rep K β ⟨W.Hf,upd W.H a (.lst d),W.fps⟩ (c.set i (some (.ls b f))) σ/\Stp W.S W.Hf W.H W.S W.Hf (upd W.H a (.lst d)):=by
 obtain⟨m,p,⟨a,h,rfl,w,A,H,t⟩,B⟩:=R.get i _ hc
 cases (show some _=some _ from p.symm.trans hv)
 have D:i<c.length:=by
  grind
 have s:a∈W.fps i:=by rw[w];exact .head _
 refine⟨a,h,rfl,H,t,fun f d F=>⟨⟨fun b u e=>?_,by rw[List.length_set];exact R.len,fun j o e=>?_,R.dis,fun j x g=>?_⟩,⟨Same.refl _,fun x o e n=>?_,fun x o e r n q=>q,fun x z=>.inl z⟩⟩⟩
 ·have E:b≠a:=fun z=>by rw[z,A]at e;cases e
  show upd _ a _ b=_
  rw[Ar E];exact R.sub b u e
 ·by_cases z:j=i
  ·subst z
   rw[List.getElem?_set_self D]at e
   cases e
   exact⟨.ref a,p,⟨a,d,rfl,w,A,Ca,F⟩,B⟩
  ·rw[List.getElem?_set_ne fun y=>z y.symm]at e
   obtain⟨m,k,G,l⟩:=R.get j o e
   refine⟨m,k,G.mono (Same.refl _) fun x g=>⟨(R.own j x g).1,?_⟩,l⟩
   show upd _ a _ x=_
   rw[Ar];intro q;rw[q]at g;exact z (R.dis j i a g s)
 ·obtain⟨I,o,C,r⟩:=R.own j x g
  refine⟨I,?_⟩
  by_cases z:x=a
  ·exact⟨.lst _,by rw[z];exact Ca,trivial⟩
  ·exact⟨o,by show upd _ a _ x=_;rw[Ar z];exact C,r⟩
 ·rw[Ar]
  ·exact e
  ·intro z;exact n ⟨i,by rw[z];exact s⟩
def slL (c:Ev)(p:PV):Option (Nat×Bool×List PyData):=match p with
 | .sl i=>match c[i]? with
  | some (some (.ls b ds))=>some (i,b,ds)
  | _=>none
 | _=>none
theorem Zd  (h:slL c p=some x):p=.sl x.1/\c[x.1]?=some (some (.ls x.2.1 x.2.2)):=by
 unfold slL at h
 grind
def Rz (fo fe:Ev->R PV):Ev->R PV:=fun c=>(fo c).bind fun p c=>if (slL c (nrm p)).isSome=true then (fe c).bind fun q c=>(frz (nrm q) c).bind fun d c=>match slL c (nrm p) with
 | some (i,b,ds)=>if ds.length<16000000 then .ok (.o (.im .none)) (c.set i (some (.ls b (ds++[d])))) else .bad
 | none=>.bad
 else .bad
theorem A3x {b:Wo}(R:Rep K β W c σ)(st:Stp b.S b.Hf b.H W.S W.Hf W.H)(s:∀v a d,Stp b.S b.Hf b.H (orS a.S d) a.Hf a.H->Rep K β a c σ->Fv K a σ (.o (.im .none)) v d->Q v a.H):Q .non W.H :=
 R.here (o:=.im .none)  rfl rfl fun v a d e f r=>s v _ _ (st.trans e) f r
theorem ty_list (R:Rep K β W c σ)(h:(slL c p).isSome=true)(r:RepA K W.Hf σ p v):tyV K "list" v W.H:=by
 obtain⟨x,d⟩:=Option.isSome_iff_exists.mp h;obtain⟨rfl,e⟩:=Zd d;obtain⟨a,f,rfl,b,_⟩:=R.mut e r;exact .inl ⟨rfl,f,SqL.of b⟩
theorem V0  {v fe:Ev->R PV}(ho:ME K u v) (he:ME K o fe):ME K (tBM K "list" rAppF u (Dh o G6)) (Rz v fe):=by
 intro β W c σ Q R s
 refine ho.toV _ W c _ _ R (s.bnd.mono fun p y f v1 W1 h r j=>?_)
 by_cases hs:(slL y (nrm p)).isSome=true
 ·rw[if_pos hs]at f
  refine⟨ty_list r hs j,he.toV _ _ _ _ _ r (f.bnd.mono fun q c2 D H W2 m z w=>?_)⟩
  obtain⟨d,A,W3,_,e,C,n,E,F⟩:=Ka z w D.bnd
  cases ex:slL A (nrm p) with
  | none=>simp only[ex]at e;exact e.elim
  | some x =>
   simp only[ex]at e;obtain⟨i,b,G⟩:=x;obtain⟨B,I⟩:=Zd ex;rw[B]at j;obtain⟨a,J,rfl,L,t,k⟩:=E.mut I j
   by_cases l:G.length<16000000
   ·rw[if_pos l]at e
    obtain⟨M,g⟩:=k _ _ (t.app (TrL.one F));rw[<- C]
    refine⟨a,H,J,rfl,rfl,L,by rw[<- t.length];exact Nat.lt_trans l (by decide),?_⟩
    exact A3x M (h.trans (m.trans (n.trans g))) e
   ·rw[if_neg l]at e;exact e.elim
 ·rw[if_neg hs]at f;exact f.elim
def Uw (fo fe:Ev->R PV):Ev->R PV:=fun c=>(fo c).bind fun p c=>if (slL c (nrm p)).isSome=true then (fe c).bind fun q c=>match slL c (nrm p),Z7 (Er c (nrm q)) with
 | some (i,b,ds),some k=>if ds.length<=16000000 then match ixN ds.length k with
  | some j=>match ds[j]? with
   | some d=>.ok (.o (.im d)) (c.set i (some (.ls b (ds.eraseIdx j))))
   | none=>.bad
  | none=>.bad
  else .bad
 | _,_=>.bad
 else .bad
theorem TrL.erase:∀{ds:List PyData}{vs:List V}(n:Nat),TrL Hf ds vs->TrL Hf (ds.eraseIdx n) (vs.eraseIdx n)
 | [],_,n,h=>by cases (show _=[] from h);exact rfl
 | d::ds,_,0,⟨v,r,rfl,_,t⟩=>t
 | d::ds,_,n+1,⟨v,r,rfl,q,t⟩=>⟨v,r.eraseIdx n,rfl,q,TrL.erase n t⟩
theorem TrL.setAt:∀{ds:List PyData}{vs:List V}(n:Nat) {d:PyData}{v:V},TrL Hf ds vs->Tr Hf d v->TrL Hf (ds.set n d) (vs.set n v)
 | [],_,n,d,v,h,_=>by cases (show _=[] from h);exact rfl
 | e::ds,_,0,d,v,⟨u,r,rfl,_,t⟩,q=>⟨v,r,rfl,q,t⟩
 | e::ds,_,n+1,d,v,⟨u,r,rfl,h,t⟩,q=>⟨u,r.set n v,rfl,h,TrL.setAt n t q⟩
theorem A3e   (ho:ME K z G) (he:ME K F fe):ME K (tBM K "list" rPopAt z (Dh F G6)) (Uw G fe):=by
 intro B W c H Q R s
 refine ho.toV B W c H _ R (s.bnd.mono fun p O g v1 W1 n A w=>?_)
 by_cases hs:(slL O (nrm p)).isSome=true
 ·rw[if_pos hs]at g
  refine⟨ty_list A hs w,he.toV B _ _ _ _ A (g.bnd.mono fun q D e v2 W2 h E I=>?_)⟩
  cases ex:slL D (nrm p) with
  | none=>simp only[ex]at e;exact e.elim
  | some x =>
   obtain⟨i,b,l⟩:=x
   cases ey:Z7 (Er D (nrm q)) with
   | none=>simp only[ex,ey]at e;exact e.elim
   | some k =>
    simp only[ex,ey]at e
    by_cases hl:l.length<=16000000
    case neg=>rw[if_neg hl]at e;exact e.elim
    rw[if_pos hl]at e
    cases ej:ixN l.length k with
    | none=>simp only[ej]at e;exact e.elim
    | some j =>
     simp only[ej]at e
     cases ed:l[j]? with
     | none=>simp only[ed]at e;exact e.elim
     | some d =>
      simp only[ed]at e;obtain⟨L,N⟩:=Zd ex;rw[L]at w
      cases Eu (Fw E I (Zm ey))
      obtain⟨a,C,rfl,P,t,S⟩:=E.mut N w;obtain⟨y,M,U⟩:=t.got ed;obtain⟨T,q2,q3,q4⟩:=Zz ej;obtain⟨V,m⟩:=S _ _ (TrL.erase j t)
      have u:seqIndex? k C.length=some j:=by rw[<- t.length];exact T
      have f:-2 ^ 63<=k/\k<2 ^ 63:=by omega
      refine⟨a,C,k,j,y,rfl,rfl,P,f.1,f.2,u,M,?_⟩
      exact V.here (o:=.im d)  U rfl fun v W' fp X J r=>e v _ _ (n.trans (h.trans (m.trans X))) J r
 ·rw[if_neg hs]at g;exact g.elim
def Av1 (fo fi:Ev->R PV):PV->Ev->R Unit:=fun p c=>(frz (nrm p) c).bind fun d c=>(fo c).bind fun o c=>(fi c).bind fun q c=>match slL c (nrm o),Z7 (Er c (nrm q)) with
 | some (i,b,ds),some k=>match ixN ds.length k with
  | some j=>.ok () (c.set i (some (.ls b (ds.set j d))))
  | none=>.bad
 | _,_=>.bad
theorem A6u   (ho:ME K u A) (hi:ME K z fi):MG K (Bm8 u z Bi5) (Av1 A fi):=by
 intro β W c σ p v fp k R r s;obtain⟨W0,M,l,C,F⟩:=Bw5 R r;obtain⟨d,c1,W1,_,D,E,n,G,I⟩:=Ka C F s.bnd;rw[<- M,<- E]
 refine ho.toV _ _ _ _ _ G (D.bnd.mono fun o c2 J v2 W2 g L w=>?_)
 refine hi.toV _ _ _ _ _ L (J.bnd.mono fun q y e v3 W3 f B N=>?_)
 cases ex:slL y (nrm o) with
 | none=>simp only[ex]at e;exact e.elim
 | some x =>
  obtain⟨i,b,O⟩:=x
  cases ey:Z7 (Er y (nrm q)) with
  | none=>simp only[ex,ey]at e;exact e.elim
  | some m =>
   simp only[ex,ey]at e
   cases ej:ixN O.length m with
   | none=>simp only[ej]at e;exact e.elim
   | some j =>
    simp only[ej]at e;obtain⟨H,Q⟩:=Zd ex;rw[H]at w
    cases Eu (Fw B N (Zm ey))
    obtain⟨a,S,rfl,P,t,T⟩:=B.mut Q w;obtain⟨U,h⟩:=T _ _ (TrL.setAt j t (Tr.same (g.trans f).fz I))
    refine⟨a,S,m,j,rfl,rfl,P,by rw[<- t.length];exact ej,?_⟩
    exact e _ _ (l.trans (n.trans (g.trans (f.trans h)))) U
def Bd3 (i j:Nat)(f:Ev->R (List PV)):Ev->SR:=fun c=>(f c).toS fun ps c=>(frzs ps c).toS fun ds c=>match ds with
 | [x,y]=>.nx ((c.set i (some (.im x))).set j (some (.im y)))
 | _=>.bad
theorem A6c    (h:Wo.S ⟨W.Hf,W.H,clr W.fps i⟩ a):W.S a:=Bx1 h
theorem A5p    (h:MA K m f):MS K (Bl0 i j m) (Bd3 i j f):=by
 intro β W c σ D R l
 refine h _ W c _ _ R ((Gg l).mono fun ps c1 C vs W1 k t w=>?_)
 obtain⟨A,c2,n,b,s,g,q,d⟩:=Qm t w (Gg C)
 match A,d,b with
 | [x,y],d,b =>
  obtain⟨v,r,rfl,B,u,r',rfl,E,e⟩:=d
  cases (e)
  refine⟨v,u,rfl,?_⟩
  have p:=q.setN (i:=i) (o:=.im x) B rfl;rw[<- s]
  exact b _ ⟨n.Hf,n.H,clr _ j⟩ ((k.trans g).less fun a z=>A6c (A6c  z)) (p.setN (i:=j) (o:=.im y)  E rfl)
 | [],d,b=>trivial
 | [_],d,b=>trivial
 | _::_::_::_,d,b=>exact b.elim
def A5g (i j m:Nat)(f:Ev->R (List PV)):Ev->SR:=fun c=>(f c).toS fun ps c=>(frzs ps c).toS fun ds c=>match ds with
 | [x,y,z]=>.nx (((c.set i (some (.im x))).set j (some (.im y))).set m (some (.im z)))
 | _=>.bad
theorem A9y {i j m:Nat}{n:TA}{f:Ev->R (List PV)}(h:MA K n f):MS K (A7f i j m n) (A5g i j m f):=by
 intro β W c σ D R l
 refine h _ W c _ _ R ((Gg l).mono fun ps c1 s vs W1 k t A=>?_)
 obtain⟨B,c2,p,b,C,g,E,d⟩:=Qm t A (Gg s)
 match B,d,b with
 | [x,y,z],d,b =>
  obtain⟨v,r,rfl,G,u,r',rfl,F,w,H,rfl,I,e⟩:=d
  cases (e)
  refine⟨v,u,w,rfl,?_⟩
  have q:=(E.setN (i:=i) (o:=.im x) G rfl).setN (i:=j) (o:=.im y)  F rfl;rw[<- C]
  exact b _ ⟨p.Hf,p.H,clr _ m⟩ ((k.trans g).less fun a z=>A6c (A6c  (A6c  z))) (q.setN (i:=m) (o:=.im z)  I rfl)
 | [],d,b=>trivial
 | [_],d,b=>trivial
 | [_,_],d,b=>trivial
 | _::_::_::_::_,d,b=>exact b.elim
end
end U
set_option autoImplicit true
namespace L2
open PySem U
theorem Dw (ha:QE X a ta)(hb:QE X b tb):QE X (.BinOp a .Add b pos) (tOp Bs1 ta tb):=⟨Xu Bq3 ha.get hb.get⟩
theorem Vd (hu:X.A.units+64<cLine)(ha:QE X a ta)(hb:QE X b tb):QE X (.Compare a [.Eq] [b] pos) (tOp rEQ ta tb):=⟨Au3 (Bi6 hu) ha.get hb.get (O9 _)⟩
theorem K5 (hu:X.A.units+64<cLine)(ha:QE X a ta)(hb:QE X b tb):QT X (.Compare a [.Eq] [b] pos) (Km (tOp rEQ ta tb)):=⟨Ls (Bi6 hu) ha.get hb.get (O9 _)⟩
theorem A7s (hu:X.A.units+64<cLine)(ha:QE X a ta)(hb:QE X b tb):QT X (.Compare a [.NotEq] [b] pos) (Km (tOp rNE ta tb)):=⟨Ls (B0k hu) ha.get hb.get (O9 _)⟩
theorem Bi4 (hu:X.A.units+64<cLine)(ha:QE X a ta)(hb:QE X b tb)(hm:behindInMarks .In b=false):QT X (.Compare a [.In] [b] pos) (Km (tOp rIN ta tb)):=⟨Ls (Bz6 hu) ha.get hb.get hm⟩
theorem J9  (a:X.K=Kq) (hgl:Gl X "len") (hm:X.mg "len" = none) (ha:QA X (e::es) t) (hns:noStar (e::es)=true:=by rfl):QE X (.Call (.Name "len" p) (e::es) [] pos) (tCB (Bf8 Kq) t):=by
 subst a
 exact⟨Fy A4d hgl hm Bl1 ha.get (by decide) (by rfl) hns⟩
theorem Ti  (a:X.K=Kq) (he:QE X e te) (hl:QO X low tl) (hu:QO X hi th):QE X (.Subscript e (.Slice low hi none p2) pos) (tSl (rSL Kq) te tl th):=by
 subst a;exact A2w Bn2 he hl hu
end L2
namespace U
open PySem L2
def Def (P:Program)(w:World)(K:PySem.W.Frag)(mg:Str->Option Value)(base:Heap)(x:Str)(k:Nat)(ps:List Str)(sp:Sp):Prop :=
 ∃(f:Addr) (fd:FuncData),FnOk P w K mg base CX0 k f fd ps sp/\Binds K fd ps []/\PySem.W.keepIn K (.ref f)=true/\mg x=some (.ref f)
def Aw4 (K:PySem.W.Frag):Sp:=fun vs H Q _=>∃(a:Addr) (ns:List Int),vs=[.ref a]/\SqL K H a (ns.map V.int)/\ns.length<=63/\∀H',Q (.bl true) H'
theorem Bn3   (f:∀b:List Int,b.length<=63->F [.sc b]=.ret (.im (.bool true)) [.sc b])     (h:Aw4 K vs H Q E):spP K F vs H Q E:=by
 obtain⟨a,b,rfl,c,d,q⟩:=h
 refine⟨fun _=>.non,⟨H,H,fun _=>[]⟩,[.sc b],rfl,rfl,⟨Same.refl _,rfl,fun i o e=>?_,fun i j a h=>by grind,fun i a h=>by grind⟩,?_⟩
 ·cases i with
  | zero =>
   cases (show some _=some _ from e)
   exact⟨.ref a,rfl,⟨rfl,a,rfl,c⟩,fun z=>nomatch z⟩
  | succ i=>grind
 ·rw[f _ d]
  intro v W' fp st R r n
  cases (show v=.bl _ from r.2)
  grind
theorem A8y          : FnOk P w K mg base CX0 n f c ps (spP K fun _=>.bad) :=
 ⟨fun d H Q E h=>by obtain⟨_,_,_,_,_,_,h⟩:=h;simp_all,fun A a s H b e d Q E _ _ _ _ h=>by obtain⟨_,_,_,_,_,_,h⟩:=h;simp_all⟩
def Aw7 (i j:Int):Bool:=decide (0<j)&&decide (j<1073741824)
theorem A7c (i j:Int)(h:Aw7 i j=true):A8d i j:=by
 obtain⟨b,a⟩:=Bool.and_eq_true_iff.mp h;exact⟨of_decide_eq_true b,of_decide_eq_true a⟩
def A8n (i j:Int):Bool:=decide (0<j)
theorem A6y (i j:Int)(h:A8n i j=true):0<j:=of_decide_eq_true h
def Ag9 (i j:Int):Bool:=decide (0<=j)&&(decide (j<=1000000)&&decide (i.natAbs<2 ^ 64))
theorem A3i (i j:Int)(h:Ag9 i j=true):A6o i j:=by
 obtain⟨c,a⟩:=Bool.and_eq_true_iff.mp h;obtain⟨a,b⟩:=Bool.and_eq_true_iff.mp a;exact⟨of_decide_eq_true c,of_decide_eq_true a,of_decide_eq_true b⟩
section
variable {K:PySem.W.Frag}
abbrev Ot:PyData->PyData->Option O:=Wn fun i j=>.int (i-j)
abbrev Bu8:PyData->PyData->Option O:=Wn fun i j=>.bool (decide (j<i))
abbrev Bw0:PyData->PyData->Option O:=Wn fun i j=>.bool (decide (j<=i))
theorem Jw:OpS K (rI0 fun i j=>.int (i-j)) Ot:=Ab8 fun _ _ _=>rfl
theorem Bw6:OpS K (rI0 fun i j=>.bl (decide (j<i))) Bu8:=Ab8 fun _ _ _=>rfl
theorem Bo2:OpS K (rI0 fun i j=>.bl (decide (j<=i))) Bw0:=Ab8 fun _ _ _=>rfl
abbrev Ys:PyData->PyData->Option O:=opI Aw7 fun i j=>i / j
abbrev Qq:PyData->PyData->Option O:=opI A8n fun i j=>i % j
abbrev Tt:PyData->PyData->Option O:=opI Ag9 fun i j=>i ^ j.toNat
theorem Ai8:OpS K (rI A8d fun i j=>.int (i / j)) Ys:=Av5 A7c
theorem Ma:OpS K (rI (fun _ j=>0<j) fun i j=>.int (i % j)) Qq:=Av5 A6y
theorem Nx:OpS K (rI A6o fun i j=>.int (i ^ j.toNat)) Tt:=Av5 A3i
def Bv6 (fa fb:Ev->R PV):Ev->R PV:=fun c=>(fa c).bind fun p c=>(fb c).bind fun q c=>match nrm p,Z7 (Er c (nrm q)) with
 | .o (.sc ns),some k=>match atI ns k with
  | some i=>.ok (.o (.im (.int i))) c
  | none=>.bad
 | _,_=>.bad
theorem A9l   (h:atI ns k=some i):atI (ns.map V.int) k=some (V.int i):=by
 unfold atI at h ⊢;obtain⟨j,b,a⟩:=Option.bind_eq_some_iff.mp h
 simp_all
theorem Bw4   (ha:ME K h fa) (hb:ME K j fb):ME K (tOp (rIx K) h j) (Bv6 fa fb):=by
 intro β W c σ Q R s
 refine ha.toV _ W c _ _ R (s.bnd.mono fun p c1 u v1 W1 f n d=>?_)
 refine hb.toV _ _ _ _ _ n (u.bnd.mono fun q t b v2 W2 e g m=>?_)
 have d:=RepA.same e.fz d
 cases ey:Z7 (Er t (nrm q)) with
 | none =>
  simp only[ey]at b;generalize nrm p=np at b
  cases np with
  | sl i=>trivial
  | o o=>cases o <;> exact b.elim
 | some k =>
  simp only[ey]at b;generalize nrm p=np at b d
  match np,d,b with
  | .o (.sc ns),d,b =>
   have b:(match atI ns k with
    | some i=>U.R.ok _ _
    | none=>.bad).sat _:=b
   cases ei:atI _ k with
   | none=>rw[ei]at b;trivial
   | some i =>
    rw[ei]at b;obtain⟨a,rfl,w⟩:=d
    cases Eu (Fw g m (Zm ey))
    exact .inl ⟨a,_,k,.int i,rfl,rfl,Same.seq g.sub w,A9l ei,g.here (o:=.im (.int i))  rfl rfl fun v W' fp x l r=>b v _ _ (f.trans (e.trans x)) l r⟩
  | .o (.im _),d,b=>exact b.elim
  | .o (.ls _ _),d,b=>exact b.elim
  | .o (.ty _),d,b=>exact b.elim
  | .sl _,d,b=>trivial
end
section
variable {P:Program}{w:World}{K:PySem.W.Frag}{X:Cx}{Hf H:Hp}{Q:VK}{β:Nat->V}{W W':Wo}{c c':Ev}{σ:St}{v:V}
def cMt (isT:PyData->Bool)(op:PyData->PyData->Option O)(fa fb:Ev->R PV):Ev->R PV:=fun c=>(fa c).bind fun p c=>match Er c (nrm p) with
 | some d=>if isT d=true then (fb c).bind fun q c=>match Er c (nrm p),Er c (nrm q) with
  | some x,some y=>match op x y with
   | some o=>.ok (.o o) c
   | none=>.bad
  | _,_=>.bad
  else .bad
 | none=>.bad
theorem A4r       (ha:ME K l fa) (hb:ME K m fb)
 (n:∀(Hf H:Hp) (d:PyData) (v:V),a d=true->Same Hf H->RdV Hf H d v->tyV K T v H) (hr:OpS K (fun x y H Q=>r x [y] H Q) op):ME K (tBM K T r l (Dh m G6)) (cMt a op fa fb):=by
 intro E W c C Q R s
 refine ha.toV _ W c _ _ R (s.bnd.mono fun p w e B D i h j=>?_)
 cases ed:Er w (nrm p) with
 | none=>simp only[ed]at e;trivial
 | some d =>
  simp only[ed]at e
  by_cases it:a d=true
  case neg=>rw[if_neg it]at e;trivial
  rw[if_pos it]at e
  refine⟨n _ _ d _ it h.sub (Fw h j ed),?_⟩
  refine hb.toV _ _ _ _ _ h (e.bnd.mono fun q k b I J f g u=>?_)
  cases ex:Er k (nrm p) with
  | none=>simp only[ex]at b;trivial
  | some x =>
   cases ey:Er k (nrm q) with
   | none=>simp only[ex,ey]at b;trivial
   | some y =>
    simp only[ex,ey]at b
    cases eo:op x y with
    | none=>simp only[eo]at b;trivial
    | some o =>
     simp only[eo]at b
     exact hr _ _ _ _ x y o Q g.sub (Fw g (RepA.same f.fz j) ex) (Fw g u ey) eo (New.of g fun v F G z A t=>b v _ _ (i.trans (f.trans z)) A t)
def Nq:PyData->Bool
 | .tuple _=>true
 | _=>false
theorem A4e (Hf H:Hp)(d:PyData)(v:V)(h:Nq d=true)(s:Same Hf H)(r:RdV Hf H d v):tyV K "tuple" v H:=by
 cases d with
 | tuple ds =>
  obtain⟨a,c,rfl,b,t⟩:=Hs s r;exact .inr (.inr (.inr (.inr ⟨rfl,c,b⟩)))
 | _=>cases h
end
end U
namespace L2
open PySem U
theorem Br3 {X:Cx}{o i:Expr}{b ty:TE}{a:Pos}(hu:X.A.units+64<cLine)(ho:QE X o b)(hi:QE X i ty)(hs:Bp2 i):QE X (.Subscript o i a) (A6m b ty):=⟨A9w (by omega) ho.get hi.get hs⟩
end L2
namespace U
open PySem L2 PySem.W
def Bl5:O->Option PyData
 | .im k=>some k
 | .ls false xs=>some (.list xs)
 | _=>none
def Ap3 (F:List O->FR)(d:PyData):Option PyData:=match F [.im d] with
 | .ret o _=>Bl5 o
 | .bad=>none
def V2 (F:List O->FR):List PyData->Option (List PyData)
 | []=>some []
 | d::ds=>(Ap3 F d).bind fun k=>(V2 F ds).map (k::·)
def kdOf:List PyData->Kd
 | .tuple (.tuple _::_)::_=>.tt
 | .tuple (.list _::_)::_=>.tl
 | .int _::_=>.ii
 | .list _::_=>.ll
 | _=>.ti
def Qw (ds ks:List PyData):Option (List PyData):=if ds.length<2 then some ds else if ds.length<64&&(ks.all (Lk (kdOf ks))&&ks.all Df) then (kEv (Ak3 (kdOf ks) ks) (kas_sort ds.length)).map fun p=>p.toList.map fun i=>ds.getD i .none else none
def Bq1 (F:List O->FR)(fa:Ev->R PV):Ev->R PV:=fun c=>(fa c).bind fun p c=>match (Er c (nrm p)).bind Mj with
 | none=>.bad
 | some ds=>match (V2 F ds).bind (Qw ds) with
  | none=>.bad
  | some out=>.ok (.o (.ls false out)) c
section
variable {K:PySem.W.Frag}{β:Nat->V}{W W':Wo}{c c':Ev}{σ:St}{Hf H:Hp}
theorem TrL.at_:∀{ds:List PyData}{vs:List V},TrL Hf ds vs->∀i,Tr Hf (ds.getD i .none) (vs.getD i .non)
 | [],_,h,i=>by cases (show _=[] from h);exact rfl
 | d::ds,_,⟨v,r,e,t,ts⟩,0=>by subst e;exact t
 | d::ds,_,⟨v,r,e,t,ts⟩,i+1=>by subst e;exact TrL.at_ ts i
theorem TrL.pick {ds:List PyData}{vs:List V}(t:TrL Hf ds vs):∀l:List Nat,TrL Hf (l.map fun i=>ds.getD i .none) (l.map fun i=>vs.getD i .non)
 | []=>rfl
 | i::l=>⟨_,_,rfl,TrL.at_ t i,TrL.pick t l⟩
theorem TrL.len':∀{ds:List PyData}{vs:List V},TrL Hf ds vs->ds.length=vs.length
 | [],_,h=>by cases (show _=[] from h);rfl
 | d::ds,_,⟨v,r,e,t,ts⟩=>by subst e;rw[List.length_cons,List.length_cons,TrL.len' ts]
theorem A3o     (R:Rep K β W c σ) (t:Tr W.Hf d v) (m:Ap3 F d=some k) (h:∀e a,Stp W.S W.Hf W.H a.S a.Hf a.H->Rep K β a c σ->Tr a.Hf k e->Q e a.H):spP K F [v] W.H Q E0:=by
 have j:∃o b,F [.im d]=.ret o b/\Bl5 o=some k:=by
  unfold Ap3 at m
  grind
 obtain⟨o,b,j,f⟩:=j
 have p:nrm (.o o)=.o (.im k):=by
  unfold Bl5 at f
  split at f
  ·cases f;rfl
  ·cases f;rfl
  trivial
 have r:M3 F [.o (.im d)] c=.ok (.o o) c:=by
  unfold M3;simp only[Qu,Option.map_some,j]
  rfl
 refine (N5 (ps:=[.o (.im d)])  R ⟨v,[],rfl,t,rfl⟩ ?_:spP K F _ _ _ _)
 rw[r]
 exact fun x w n g q i=>Bi7    (fun e a u s l=>h e _ u s (by rw[p]at l;exact l)) _ _ _ g q i
theorem Ac4 {F:List O->FR}{Q:List V->Hp->Prop}:∀(ds:List PyData) (vs:List V) (ks kd:List PyData) (kv:List V) (W:Wo),Rep K β W c σ->TrL W.Hf ds vs->V2 F ds=some ks->TrL W.Hf kd kv ->
 (∀W' kv',Stp W.S W.Hf W.H W'.S W'.Hf W'.H->Rep K β W' c σ->TrL W'.Hf (kd++ks) kv'->Q kv' W'.H)->Av6 (spP K F) vs kv W.H Q
 | [],vs,ks,kd,kv,W,R,t,e,tk,h=>by
  cases (show vs=[] from t)
  cases (show some []=some ks from e)
  exact h W kv Stp.refl R (by rw[List.append_nil];exact tk)
 | d::ds,vs,ks,kd,kv,W,R,⟨v,r,ev,t,ts⟩,e,tk,h=>by
  subst ev
  obtain⟨k,e1,e2⟩:=Option.bind_eq_some_iff.mp (show (Ap3 F d).bind (fun k=>(V2 F ds).map (k::·))=some ks from e)
  obtain⟨ks',e3,rfl⟩:=Option.map_eq_some_iff.mp e2
  show spP K F [v] W.H (fun kv1 H1=>Av6 (spP K F) r (kv++[kv1]) H1 Q) E0
  refine A3o R t e1 fun v' W' st R' tv=>?_
  refine Ac4 ds r ks' (kd++[k]) (kv++[v']) W' R' (TrL.same st.fz ts) e3 ((TrL.same st.fz tk).app (TrL.one tv)) fun W2 kv' st2 R2 t2=>?_
  exact h W2 kv' (st.trans st2) R2 (by rw[List.append_assoc]at t2;exact t2)
theorem Bq9     (ha:ME K C fa):ME K (Bu3 K f (spP K F) (Dh C G6) (Dh (tC (.ref f)) G6)) (Bq1 F fa):=by
 intro M W c σ Q R s
 refine ha.toV M W c σ _ R (s.bnd.mono fun p L i U r u n T=>?_)
 cases ed:(Er L (nrm p)).bind Mj with
 | none=>simp only[ed]at i;exact i.elim
 | some l =>
  simp only[ed]at i
  cases ek:(V2 F l).bind (Qw l) with
  | none=>simp only[ek]at i;exact i.elim
  | some o =>
   simp only[ek]at i;obtain⟨d,Y,w⟩:=Option.bind_eq_some_iff.mp ed;obtain⟨m,S,g⟩:=Option.bind_eq_some_iff.mp ek;have B:=Fw n T Y
   obtain⟨a,b,rfl,G,t⟩:∃a b,U=.ref a/\(SqL K r.H a b\/SqT K r.H a b)/\TrL r.Hf l b:=by
    cases d with
    | list H =>
     cases w
     obtain⟨a,b,e,h,t⟩:=Ga B;exact⟨a,b,e,.inl (SqL.of h),t⟩
    | tuple H =>
     cases w
     obtain⟨a,b,e,h,t⟩:=Hs n.sub B;exact⟨a,b,e,.inr (SqT.of h),t⟩
    | _=>cases w
   refine⟨a,b,rfl,rfl,G,?_⟩
   refine Ac4 _ _ _ [] _ _ n t S rfl fun J kv j x N=>?_
   have t:=TrL.same j.fz t;have P:=TrL.len' t
   have k:∀(z:List _) (y:List V),z=o->TrL _ z y->∀q,J.H q=none->Q (.ref q) (upd _ q (.lst y)):=fun z y e X q I=>by
    subst e
    exact New.lst (New.of x fun v W' fp Z R' rp=>i v _ _ (u.trans (j.trans Z)) R' rp) x.sub X I
   unfold Qw at g
   by_cases h2:l.length<2
   ·rw[if_pos h2]at g
    cases g
    exact .inl ⟨by omega,k _ _ rfl t⟩
   ·rw[if_neg h2]at g
    by_cases hb:(decide (l.length<64)&&(m.all (Lk (kdOf m))&&m.all Df))=true
    ·rw[if_pos hb]at g
     obtain⟨D,A⟩:=Bool.and_eq_true_iff.mp hb;obtain⟨A,b3⟩:=Bool.and_eq_true_iff.mp A;have D:=of_decide_eq_true D;obtain⟨pm,q1,q2⟩:=Option.map_eq_some_iff.mp g
     refine .inr ⟨by omega,by omega,m,kdOf _,pm,TrL.same x.sub N,A,fun d E=>Gn (List.all_eq_true.mp b3 d E),by rw[<- P];exact q1,k _ _ q2 (TrL.pick t _)⟩
    ·rw[if_neg hb]at g;cases g
end
end U
namespace U
open PySem L2
section
variable {K:PySem.W.Frag}{Hf H:Hp}
def Nj:PyData->Bool
 | .list _=>true
 | _=>false
theorem As4 (Hf H:Hp)(d:PyData)(v:V)(h:Nj d=true)(s:Same Hf H)(r:RdV Hf H d v):tyV K "list" v H:=by
 cases d with
 | list ds =>
  obtain⟨a,c,rfl,b,t⟩:=Ga r;exact .inl ⟨rfl,c,SqL.of b⟩
 | _=>cases h
def A7b:List Bool->Option Nat
 | []=>none
 | true::_=>some 0
 | false::r=>(A7b r).map (·+1)
theorem Ay2:∀{bs:List Bool}{j:Nat},A7b bs=some j->bs[j]?=some true/\∀m<j,bs[m]?≠some true
 | true::r,j,h=>by cases h;exact⟨rfl,fun m hm=>by omega⟩
 | false::r,j,h=>by
  obtain⟨k,h1,rfl⟩:=Option.map_eq_some_iff.mp (show (A7b r).map (·+1)=some j from h)
  obtain⟨q1,q2⟩:=Ay2 h1
  refine⟨by rw[List.getElem?_cons_succ];exact q1,fun m hm=>?_⟩
  cases m with
  | zero=>simp
  | succ m=>rw[List.getElem?_cons_succ];exact q2 m (by omega)
def Ut:PyData->PyData->Option O
 | .list ds,.bool true=>(boolsOf ds).bind fun bs=>(A7b bs).bind fun j=>if j<1000000 then some (.im (.int (j:Nat))) else none
 | _,_=>none
theorem Ak8:OpS K (fun x y H Q=>At0 K x [y] H Q) Ut:=by
 intro Hf H x y dx dy o Q s rx ry e n;unfold Ut at e
 split at e
 ·rename_i ds
  obtain⟨bs,e1,e2⟩:=Option.bind_eq_some_iff.mp (show ((boolsOf ds).bind fun bs=>(A7b bs).bind fun j=>if j<1000000 then some (O.im (.int (j:Nat))) else none)=some o from e)
  obtain⟨j,e3,e4⟩:=Option.bind_eq_some_iff.mp e2
  by_cases hb:j<1000000
  ·rw[if_pos hb]at e4
   cases e4
   obtain⟨a,vs,rfl,h1,t⟩:=Ga rx
   cases Ua e1 t
   cases (show y=.bl true from ry)
   obtain⟨q1,q2⟩:=Ay2 e3;exact⟨a,bs,j,rfl,rfl,SqL.of h1,q1,q2,hb,n.int s⟩
  ·rw[if_neg hb]at e4;cases e4
 ·cases e
end
inductive XF where
 | ret (o:O)
 | ex (nm:Str)
 | bad
inductive XS where
 | s (r:SR)
 | ex (nm:Str) (c:Ev)
def spX (K:PySem.W.Frag)(F:List PyData->XF):Sp:=fun vs H Q E=>∃(Hf:Hp) (ds:List PyData),Same Hf H/\TrL Hf ds vs/\match F ds with
 | .bad=>False
 | .ret o=>∀v Hf' H' fp,Stp (fun _=>False) Hf H (fun a=>a∈fp) Hf' H'->Same Hf' H'->RepO K Hf' H' o v fp->Q v H'
 | .ex nm=>∀C Hf' H',PySem.W.nsIn K mainGlobals nm=some (some (.ref C))->Stp (fun _=>False) Hf H (fun _=>False) Hf' H'->Same Hf' H'->E (.ref C) none H'
def LeadX (K:PySem.W.Frag)(β:Nat->V)(W:Wo)(D:Ends)(E:XK):XS->Prop
 | .s r=>zK K β W D r
 | .ex nm c'=>∀C σ' W',PySem.W.nsIn K mainGlobals nm=some (some (.ref C))->Stp W.S W.Hf W.H W'.S W'.Hf W'.H->Rep K β W' c' σ'->E (.ref C) none W'.H
def MX (K:PySem.W.Frag)(E:XK)(T:TS)(f:Ev->XS):Prop:=∀(β:Nat->V) (W:Wo) (c:Ev) (σ:St) (D:Ends),Rep K β W c σ->LeadX K β W D E (f c)->T D σ W.H
def Kw (f:Ev->SR):Ev->XS:=fun c=>.s (f c)
def Wi (f g:Ev->XS):Ev->XS:=fun c=>match f c with
 | .s (.nx c)=>g c
 | r=>r
def xIf (t:Ev->R Bool)(f g:Ev->XS):Ev->XS:=fun c=>match t c with
 | .ok b c=>if b=true then f c else g c
 | .bad=>.s .bad
def Z8 (nm:Str)(fa:Ev->R (List PV)):Ev->XS:=fun c=>match fa c with
 | .ok _ c=>.ex nm c
 | .bad=>.s .bad
def Ae1 (n N:Nat)(body:Ev->XS):List PyData->XF:=fun ds=>if ds.length=n then match body (ds.map (fun d=>some (.im d))++List.replicate (N-n) none) with
 | .s (.nx _)=>.ret (.im .none)
 | .s (.rt p c)=>match resolve p c with
  | some (o,_)=>.ret o
  | none=>.bad
 | .ex nm _=>.ex nm
 | _=>.bad
 else .bad
section
variable {K:PySem.W.Frag}{β:Nat->V}{W W':Wo}{c c':Ev}{σ σ':St}{D:Ends}{E:XK}{Hf H:Hp}{o:O}{v:V}{fp:List Addr}
theorem LeadX.step {r:XS}(h:LeadX K β W D E r)(st:Stp W.S W.Hf W.H W'.S W'.Hf W'.H):LeadX K β W' D E r:=by
 cases r with
 | s r=>exact zK.step h st
 | ex nm c=>exact fun C σ2 W2 hn st2 R2=>h C σ2 W2 hn (st.trans st2) R2
theorem Hh {T:TS}{f:Ev->SR}(h:MS K T f):MX K E T (Kw f):=fun β W c σ D R l=>h β W c σ D R l
theorem Pg {T U:TS}{f g:Ev->XS}(h1:MX K E T f)(h2:MX K E U g):MX K E (Bg8 T U) (Wi f g):=by
 intro β W c σ D R l
 refine h1 β W c σ _ R ?_
 unfold Wi at l
 cases e:f c with
 | ex nm c1=>rw[e]at l;exact l
 | s r =>
  rw[e]at l
  cases r with
  | nx c1=>exact fun σ' W1 st R1=>h2 β W1 c1 σ' D R1 (LeadX.step l st)
  | rt p c1=>exact l
  | bk c1=>exact l
  | ct c1=>exact l
  | bad=>exact l
theorem Az1 {tc:TT}{T U:TS}{ft:Ev->R Bool}{f g:Ev->XS}(h:MT K tc ft)(h1:MX K E T f)(h2:MX K E U g):MX K E (A8b tc T U) (xIf ft f g):=by
 intro β W c σ D R l;unfold xIf at l
 refine h β W c σ _ R ?_
 cases e:ft c with
 | bad=>rw[e]at l;exact l
 | ok b c1 =>
  rw[e]at l;intro W1 st R1
  cases b with
  | true=>exact h1 β W1 c1 σ D R1 (LeadX.step l st)
  | false=>exact h2 β W1 c1 σ D R1 (LeadX.step l st)
theorem A5v {nm:Str}{C:Addr}{t:TA}{fa:Ev->R (List PV)}(hn:PySem.W.nsIn K mainGlobals nm=some (some (.ref C)))(ha:MA K t fa)(hl:∀c ps c',fa c=.ok ps c'->ps.length<=1000):MX K E (Am8 C E t) (Z8 nm fa):=by
 intro β W c σ D R l;unfold Z8 at l
 refine ha β W c σ _ R ?_
 cases e:fa c with
 | bad=>rw[e]at l;exact l
 | ok ps c1 =>
  rw[e]at l;intro vs W1 st R1 r1
  have:∀{ps:List PV} {vs:List V},zH K W1.Hf σ ps vs->vs.length=ps.length:=fun {ps}=>by
   induction ps with
   | nil=>intro vs h;cases (show vs=[] from h);rfl
   | cons p r ih=>intro vs h;obtain⟨v,vr,rfl,_,t⟩:=h;rw[List.length_cons,List.length_cons,ih t]
  exact⟨by rw[this r1];exact Nat.le_trans (hl c ps c1 e) (by decide),l C σ W1 hn st R1⟩
theorem Xh {S:Addr->Prop}{H':Hp}(s:Same H H'):Stp S Hf H S Hf H':=⟨Same.refl _,fun a o e _=>s a o e,fun a o e mu n q=>q,fun a z=>.inl z⟩
theorem Yy   (h:orS S [] a):S a:=by
 grind
theorem Z3 {n N:Nat}{body:Ev->XS}{vs:List V}{Q:VK}(hs:spX K (Ae1 n N body) vs H Q E):vs.length=n:=by
 obtain⟨Hf,ds,sub,t,hf⟩:=hs;unfold Ae1 at hf
 by_cases hn:ds.length=n
 ·rw[<- t.length];exact hn
 ·rw[if_neg hn]at hf;exact hf.elim
theorem Yu {n:Nat}{N:List Str}{body:Ev->XS}{T:TS}{vs:List V}{Q:VK}(h:MX K E T body)(hs:spX K (Ae1 n N.length body) vs H Q E):T { nx:=fun _ H'=>Q .non H',rt:=Q } (start N vs) H:=by
 obtain⟨Hf,ds,sub,t,hf⟩:=hs;unfold Ae1 at hf
 by_cases hn:ds.length=n
 ·rw[if_pos hn]at hf
  have hl:=t.length
  let W:Wo:=⟨Hf,H,fun _=>[]⟩
  have R:Rep K (fun _=>.non) W (ds.map (fun d=>some (.im d))++List.replicate (N.length-n) none) (start N vs):=by
   refine⟨sub,?_,fun i o e=>?_,(fun i j a z=>nomatch z),fun i a z=>nomatch z⟩
   ·show _=(vs.map some++List.replicate (N.length-vs.length) none).length
    rw[List.length_append,List.length_append,List.length_map,List.length_map,List.length_replicate,List.length_replicate,<- hl,hn]
   ·by_cases li:i<ds.length
    ·rw[List.getElem?_append_left (by rw[List.length_map];exact li),List.getElem?_map]at e
     cases ed:ds[i]? with
     | none=>rw[ed]at e;cases e
     | some d =>
      rw[ed]at e;cases e;obtain⟨v,ev,tv⟩:=t.got ed
      refine⟨v,?_,⟨rfl,tv⟩,fun z=>nomatch z⟩
      show (vs.map some++List.replicate (N.length-vs.length) none)[i]?=_
      rw[List.getElem?_append_left (by rw[List.length_map,<- hl];exact li),List.getElem?_map,ev];rfl
    ·rw[List.getElem?_append_right (by rw[List.length_map];exact Nat.le_of_not_lt li),List.getElem?_replicate]at e
     split at e <;> cases e
  have noS:∀a,W.S a->False:=fun a ⟨i,z⟩=>nomatch z
  refine h _ W _ (start N vs) _ R ?_
  cases eb:body (ds.map (fun d=>some (.im d))++List.replicate (N.length-n) none) with
  | ex nm c1 =>
   rw[eb]at hf
   exact fun C σ1 W1 hn st R1=>hf C W1.Hf W1.H hn ⟨st.fz,fun a o e _=>st.kp a o e (noS a),fun a o e mu _ q=>st.nf a o e mu (noS a) q,fun a z=>z.elim⟩ R1.sub
  | s r =>
   rw[eb]at hf
   cases r with
   | nx c1=>exact fun σ1 W1 st R1=>hf .non W1.Hf W1.H [] ⟨st.fz,fun a o e _=>st.kp a o e (noS a),fun a o e mu _ q=>st.nf a o e mu (noS a) q,fun a z=>nomatch z⟩ R1.sub ⟨rfl,rfl⟩
   | rt p c1 =>
    intro σ1 v W1 fp st R1 r1
    cases er:resolve p c1 with
    | none=>simp only[er]at hf
    | some q =>
     obtain⟨o,c2⟩:=q;simp only[er]at hf;obtain⟨W2,fp2,e1,e2,R2,r2,n2,s2⟩:=Vk R1 r1 er;rw[<- e2]
     refine hf v W2.Hf W2.H fp2 ?_ R2.sub r2
     rw[e1,e2]
     refine⟨st.fz,fun a o e _=>st.kp a o e (noS a),fun a o e mu _ q=>st.nf a o e mu (noS a) q,fun a z=>?_⟩
     rcases st.fr a (s2 a (.inr z)) with y | y
     ·exact(noS a y).elim
     ·exact .inr y
   | bk c1=>exact hf.elim
   | ct c1=>exact hf.elim
   | bad=>exact hf.elim
 ·rw[if_neg hn]at hf;exact hf.elim
end
end U
set_option autoImplicit true
namespace U
open PySem L2
def Bh4 (i:Option Nat)(o:O)(c:Ev):XS:=.s (match i with
 | some i=>(cgN i (.o o) c).toS fun _ c=>.nx c
 | none=>.nx c)
def
 tryH (j:Nat) (NS:List Str) (fh:Ev->SR) (nm:Str) (c:Ev):XS:=.s (if NS.contains nm then match fh (c.set j (some (.ty (.xc nm)))) with
 | .nx c2=>.nx (c2.set j none)
 | _=>.bad
 else .bad)
def unX:XS->SR
 | .s r=>r
 | .ex _ _=>.bad
def Mz (tbl:List (Str×Bool))(f:Ev->R PV):Ev->R PV:=fun c=>(f c).bind fun p c=>match rdP c p with
 | some (.ty (.xc nm))=>match tbl.lookup nm with
  | some b=>.ok (.o (.im (.bool b))) c
  | none=>.bad
 | _=>.bad
section
variable {K:PySem.W.Frag}{β:Nat->V}{W W':Wo}{c c':Ev}{σ σ':St}{D:Ends}{E:XK}{Hf H:Hp}{o:O}{v:V}{fp:List Addr}
theorem Rep.setU {j:Nat}(R:Rep K β W (c.set j none) σ):Rep K β W (c.set j none) (σ.set j none):=by
 refine⟨R.sub,by rw[R.len,List.length_set],fun i o e=>?_,R.dis,R.own⟩
 by_cases ij:i=j
 ·subst ij
  rw[List.getElem?_set]at e
  simp at e
 ·obtain⟨v,e1,r⟩:=R.get i o e
  exact⟨v,by rw[List.getElem?_set_ne (Ne.symm ij)];exact e1,r⟩
theorem Bk2 {p:PV}{nm:Str}(R:Rep K β W c σ)(r:Fv K W σ p v fp)(e:rdP c p=some (.ty (.xc nm))):RepN K W.Hf (.ty (.xc nm)) v:=by
 cases p with
 | o o1=>cases e;exact r.1.2
 | sl i =>
  have e:(c[i]?).join=some (.ty (.xc nm)):=e
  have e2:c[i]?=some (some (.ty (.xc nm))):=by
   cases q:c[i]? with
   | none=>rw[q]at e;cases e
   | some x=>
    rw[q]at e;cases x with
     | none=>cases e
     | some y=>cases e;rfl
  obtain⟨v',e3,r3,_⟩:=R.get i _ e2;have h:σ[i]?=some (some v):=r.2;rw[h]at e3;cases e3;exact r3.2
theorem Li {te:TE}{f:Ev->R PV}{cv:V}{z:Value}{tbl:List (Str×Bool)}(hz:Bv3 cv=some z)(ht:∀nm b,tbl.lookup nm=some b->∀C,PySem.W.nsIn K mainGlobals nm=some (some (.ref C))->Rm K C/\PySem.W.kitOne K (.ref C) z=some b)(h:ME K te f) :
 ME K (tCB (Ap8 K) (Dh te (Dh (tC cv) G6))) (Mz tbl f):=by
 intro β W c σ Q R s
 refine h β W c σ _ R ((s.bnd).mono fun p c1 s1 v1 W1 fp1 st1 R1 r1=>?_)
 cases ed:rdP c1 p with
 | none=>simp only[ed]at s1;exact s1.elim
 | some o =>
  simp only[ed]at s1
  match o,ed,s1 with
  | .ty (.xc nm),ed,s1 =>
   cases el:tbl.lookup nm with
   | none=>simp only[el]at s1;exact s1.elim
   | some b =>
    simp only[el]at s1;obtain⟨a,C,e,hn,hf⟩:=Bk2 R1 r1 ed;subst e;obtain⟨x1,x2⟩:=ht nm b el C hn
    refine⟨a,C,cv,z,b,rfl,R1.sub _ _ hf,x1,hz,x2,?_⟩
    exact s1 (.bl b) W1 [] (st1.less fun a z=>by
     rcases z with z | z
     ·exact .inl z
     ·cases z) R1 ⟨⟨rfl,rfl⟩,fun a z=>nomatch z⟩
  | .ty (.nm _),ed,s1=>exact s1.elim
  | .ty (.tc _),ed,s1=>exact s1.elim
  | .ty (.dc _ _),ed,s1=>exact s1.elim
  | .ty (.dt _ _),ed,s1=>exact s1.elim
  | .ty (.ds _ _),ed,s1=>exact s1.elim
  | .ty (.td _ _ _),ed,s1=>exact s1.elim
  | .im _,ed,s1=>exact s1.elim
  | .ls _ _,ed,s1=>exact s1.elim
  | .sc _,ed,s1=>exact s1.elim
end
end U
set_option autoImplicit true
namespace L2
open PySem PySem.Spec PyProof.Rows PySem.W
section
variable {P:Program}{w:World}{K:PySem.W.Frag}{mg:Str->Option Value}{base:Heap}
theorem Fun.okX {x qual:Str}{st:Stmt}{f:Addr}{fd:FuncData}{N ps:List Str}{k:Nat}{sp:Sp}(F:Fun K x qual st f fd)(S:Bk N ps (Aq st))(len:∀vs H Q E,sp vs H Q E->vs.length=ps.length)
 (hbody:∀(cdv:Value) (A:Around) (outer:List Env) (s:Shared) (H:Hp) (vs:List V) (Q:VK) (E:XK),Room k (A.deeper (envOfC qual (Aq st) s.heap.objs.size f cdv))->sp vs H Q E ->
  ∃t,PSs (Mx (CXe P w) P w K mg base N qual (Aq st) f cdv A outer s H E) (Hc st) t/\t { nx:=fun _ H'=>Q .non H',rt:=Q } (start N vs) H):FnOk P w K mg base (CXe P w) (k+1) f fd ps sp:=by
 obtain⟨oc,od,kV,doc,pm,an,cdv,ct,osl,rfl,lk,hcd⟩:=F.ex
 exact A8j lk hcd S len fun A outer s H vs Q E hr hsp=>hbody cdv A outer s H vs Q E hr hsp
end
section
variable {X:Cx}{x y n v:Str}{C Fc f:Addr}{np cpos pos p epos yp hpos vp:Pos}{e:Expr}{es:List Expr}{t:TA}{E:XK}{k j i:Nat}{fd:FuncData}{ps:List Str}{sp:Sp}{b₀:Stmt}{suite:List Stmt}{th:TS}
theorem A6z (hR:Raises X E)(hc:X.calm=true)(hg:Gl X x)(hm:X.mg x=some (.ref C))(hq:excIn X.K C bmV "ValueError.__new__" = true) (ha:QA X (e::es) t) (hdb:(x==("__debug__" : Str))=false:=by decide)
 (he:starEach (e::es) X.env=(false,eval e X.env)::starEach es X.env:=by rfl) (hpl:(backTo cpos (starEach es X.env)).any (·.1)=false:=by rfl) :
 QS X (.Raise (some (.Call (.Name x np) (e::es) [] cpos)) none pos) (Am8 C E t):=⟨A8z hR hc hg hm hq ha.get hdb he hpl⟩
theorem J6 {D:Addr}(hg:Gl X y)(hm:X.mg y=some (.ref D))(hdb:(y==("__debug__" : Str))=false:=by decide):QE X (.Name y p) (tC (.ref D)):=⟨Bs5 hg hm hdb⟩
theorem Lq {Kq:PySem.W.Frag}(hKq:X.K=Kq)(hgl:Gl X "isinstance") (hm:X.mg "isinstance" = none) (ha:QA X (e::es) t) (hn:noStar (e::es)=true:=by rfl):QE X (.Call (.Name "isinstance" p) (e::es) [] pos) (tCB (Ap8 Kq) t):=by
 subst hKq
 exact⟨Fy A0x hgl hm Hy ha.get (by decide) (by decide) hn⟩
theorem Ww:bootBuiltins "ValueError" = some (.type "ValueError"):=by decide +kernel
end
def TbOk (K:PySem.W.Frag)(z:Value)(tbl:List (Str×Bool)):Prop:=∀nm b,tbl.lookup nm=some b->∀C,PySem.W.nsIn K mainGlobals nm=some (some (.ref C))->Rm K C/\PySem.W.kitOne K (.ref C) z=some b
def ExOk (K:PySem.W.Frag)(Fc:Addr)(NS:List Str):Prop:=∀nm∈NS,∀C,PySem.W.nsIn K mainGlobals nm=some (some (.ref C))->PySem.W.exmOne K (.ref C) (.ref Fc)=some true
def ClT (K:PySem.W.Frag)(mg:Str->Option Value)(tbl:List (Str×Bool))(T:Str):Prop:=∃g,mg T=some (.ref g)/\TbOk K (.ref g) tbl
def ClF (K:PySem.W.Frag)(mg:Str->Option Value)(NS:List Str)(T:Str):Prop:=∃g,mg T=some (.ref g)/\ExOk K g NS
def ClR (K:PySem.W.Frag)(mg:Str->Option Value)(T:Str):Prop:=∃g,mg T=some (.ref g)/\PySem.W.nsIn K mainGlobals T=some (some (.ref g))/\excIn K g bmV "ValueError.__new__" = true
section
variable {K:PySem.W.Frag}{z:Value}{tbl:List (Str×Bool)}{x:Str}{g Fc:Addr}{b:Bool}{NS:List Str}
theorem TbOk.nil:TbOk K z []:=fun _ _ e=>nomatch e
theorem TbOk.cons (n:PySem.W.nsIn K mainGlobals x=some (some (.ref g)))(X:Rm K g)(k:PySem.W.kitOne K (.ref g) z=some b)(t:TbOk K z tbl):TbOk K z ((x,b)::tbl):=fun nm b' e C hn=>by
 rw[List.lookup_cons]at e
 cases q:nm==x with
 | true =>
  rw[q]at e
  cases e
  cases (beq_iff_eq.mp q)
  rw[n]at hn
  cases hn
  exact⟨X,k⟩
 | false=>rw[q]at e;exact t nm b' e C hn
theorem ExOk.nil:ExOk K Fc []:=fun _ z=>nomatch z
theorem ExOk.cons (n:PySem.W.nsIn K mainGlobals x=some (some (.ref g)))(k:PySem.W.exmOne K (.ref g) (.ref Fc)=some true)(t:ExOk K Fc NS):ExOk K Fc (x::NS):=fun nm h C hn=>by
 rcases List.mem_cons.mp h with rfl | h
 ·rw[n]at hn
  cases hn
  exact k
 ·exact t nm h C hn
end
end L2
namespace U
open PySem L2
def DefX (P:Program)(w:World)(K:PySem.W.Frag)(mg:Str->Option Value)(base:Heap)(x:Str)(k:Nat)(ps:List Str)(sp:Sp):Prop :=
 ∃(f:Addr) (fd:FuncData),FnOk P w K mg base (CXe P w) k f fd ps sp/\Binds K fd ps []/\PySem.W.keepIn K (.ref f)=true/\mg x=some (.ref f)
section
variable {K:PySem.W.Frag}{β:Nat->V}{W W':Wo}{c c':Ev}{σ:St}{Hf H:Hp}
def Vv:PyData->PyData->Option O
 | .list ds,.bool true=>(boolsOf ds).map fun bs=>.im (.int ((bs.countP id:Nat):Int))
 | _,_=>none
theorem Ap2:OpS K (fun x y H Q=>Au0 K x [y] H Q) Vv:=by
 intro Hf H x y dx dy o Q s rx ry e n;unfold Vv at e
 split at e
 ·rename_i ds
  obtain⟨bs,e1,e2⟩:=Option.map_eq_some_iff.mp e;subst e2;obtain⟨a,vs,rfl,h1,t⟩:=Ga rx
  cases Ua e1 t
  cases (show y=.bl true from ry)
  exact⟨a,bs,rfl,rfl,SqL.of h1,n.int s⟩
 ·cases e
end
end U
set_option autoImplicit true
namespace U
open PySem L2
def Sv (c:Ev):List PV->Option (List PyData)
 | []=>some []
 | .o (.im d)::r=>(Sv c r).map (d::·)
 | .sl i::r=>match c[i]? with
  | some (some (.im d))=>(Sv c r).map (d::·)
  | _=>none
 | _=>none
def Tc (F:List PyData->XF)(fa:Ev->R (List PV))(k:O->Ev->XS)(h:Str->Ev->XS):Ev->XS:=fun c=>match fa c with
 | .bad=>.s .bad
 | .ok ps c=>match Sv c ps with
  | none=>.s .bad
  | some ds=>match F ds with
   | .ret (.im d)=>k (.im d) c
   | .ex nm=>h nm c
   | _=>.s .bad
def Ag4 (F:List PyData->XF)(fa:Ev->R (List PV))(j:Nat)(i:Option Nat)(NS:List Str)(fh:Ev->SR):Ev->SR:=fun c=>unX (Tc F fa (Bh4 i) (tryH j NS fh) c)
section
variable {K:PySem.W.Frag}{β:Nat->V}{W W':Wo}{c c':Ev}{σ σ':St}{D:Ends}{E:XK}{Hf H:Hp}{o:O}{v:V}{fp:List Addr}
theorem Qn (R:Rep K β W c σ):∀{ps:List PV}{vs:List V}{ds:List PyData},zH K W.Hf σ ps vs->Sv c ps=some ds->TrL W.Hf ds vs
 | [],vs,ds,h,e=>by cases (show vs=[] from h);cases e;exact rfl
 | .o (.im d)::r,_,ds,⟨v,vr,rfl,h,t⟩,e=>by
  obtain⟨l,e2,rfl⟩:=Option.map_eq_some_iff.mp (show (Sv c r).map (d::·)=some ds from e)
  exact⟨v,vr,rfl,h,Qn R t e2⟩
 | .sl i::r,_,ds,⟨v,vr,rfl,h,t⟩,e=>by
  unfold Sv at e
  split at e
  ·rename_i d ec
   obtain⟨l,e2,rfl⟩:=Option.map_eq_some_iff.mp e;obtain⟨v',e1,r1,_⟩:=R.get i _ ec
   cases (show some (some v')=some (some v) from e1.symm.trans h)
   exact⟨v,vr,rfl,r1.2,Qn R t e2⟩
  ·cases e
 | .o (.sc _)::r,_,ds,_,e=>by cases e
 | .o (.ls _ _)::r,_,ds,_,e=>by cases e
 | .o (.ty _)::r,_,ds,_,e=>by cases e
theorem Ag3 {F:List PyData->XF}{fa:Ev->R (List PV)}{t:TA}{k:O->Ev->XS}{h:Str->Ev->XS}{Q:VK}{E':XK}(ha:MA K t fa)(R:Rep K β W c σ)(l:LeadX K β W D E (Tc F fa k h c))
 (hk:∀o c1 W2 v,Stp W.S W.Hf W.H W2.S W2.Hf W2.H->Rep K β W2 c1 σ->LeadX K β W D E (k o c1)->Fv K W2 σ (.o o) v []->Q v W2.H)
 (hh:∀nm c1 W2 C,Stp W.S W.Hf W.H W2.S W2.Hf W2.H->Rep K β W2 c1 σ->LeadX K β W D E (h nm c1)->PySem.W.nsIn K mainGlobals nm=some (some (.ref C))->E' (.ref C) none W2.H) :
 t σ W.H fun vs H1=>spX K F vs H1 Q E':=by
 unfold Tc at l
 refine ha β W c σ _ R ?_
 cases e:fa c with
 | bad=>rw[e]at l;exact l
 | ok ps c1 =>
  rw[e]at l;intro vs W1 st R1 r1
  cases ea:Sv c1 ps with
  | none=>simp only[ea]at l;exact l.elim
  | some ds =>
   simp only[ea]at l
   refine⟨W1.Hf,ds,R1.sub,Qn R1 r1 ea,?_⟩
   have go:∀{Hf' H':Hp},Stp (fun _=>False) W1.Hf W1.H (fun _=>False) Hf' H'->Same Hf' H'->Stp W.S W.Hf W.H (Wo.S ⟨Hf',H',W1.fps⟩) Hf' H'/\Rep K β ⟨Hf',H',W1.fps⟩ c1 σ:=fun {Hf' H'} s2 sub =>
    ⟨st.trans ⟨s2.fz,fun a o e _=>s2.kp a o e fun z=>z,fun a o e mu _ q=>s2.nf a o e mu (fun z=>z) q,fun a z=>.inl z⟩,Stp.rep R1 s2 sub⟩
   cases ef:F ds with
   | bad=>simp only[ef]at l;exact l.elim
   | ret o =>
    match o,ef with
    | .im d,ef =>
     simp only[ef]at l;intro v Hf' H' fp s2 sub r;obtain⟨rfl,tv⟩:=r
     obtain⟨s3,R3⟩:=go (s2.less fun a z=>nomatch z) sub
     exact hk (.im d) c1 ⟨Hf',H',W1.fps⟩ v s3 R3 l ⟨⟨rfl,tv⟩,fun a z=>nomatch z⟩
    | .sc _,ef=>simp only[ef]at l;exact l.elim
    | .ls _ _,ef=>simp only[ef]at l;exact l.elim
    | .ty _,ef=>simp only[ef]at l;exact l.elim
   | ex nm =>
    simp only[ef]at l;intro C Hf' H' hn s2 sub;obtain⟨s3,R3⟩:=go s2 sub;exact hh nm c1 ⟨Hf',H',W1.fps⟩ C s3 R3 l hn
theorem Ay4 {F:List PyData->XF}{Fc:Addr}{fa:Ev->R (List PV)}{t:TA}{th:TS}{fh:Ev->SR}{j:Nat}{i:Option Nat}{NS:List Str}
 (hx:∀nm∈NS,∀C,PySem.W.nsIn K mainGlobals nm=some (some (.ref C))->PySem.W.exmOne K (.ref C) (.ref Fc)=some true) (ha:MA K t fa) (hh:MS K th fh):MS K (Bo5 K Fc j (spX K F) t i th) (Ag4 F fa j i NS fh):=by
 intro β W c σ D R l
 have l':LeadX K β W D (fun _ _ _=>False) (Tc F fa (Bh4 i) (tryH j NS fh) c):=by
  unfold Ag4 at l
  cases e:Tc F fa (Bh4 i) (tryH j NS fh) c with
  | s r=>rw[e]at l;exact l
  | ex nm c1=>rw[e]at l;exact l.elim
 refine Ag3 ha R l' (fun o c1 W1 v st R3 lk r=>?_) (fun nm c1 W1 C st R3 lk hn=>?_)
 ·cases i with
  | none =>
   exact lk σ W1 st R3
  | some i =>
   refine Aj β W1 c1 σ (.o o) v [] D.nx R3 r ((Gg (show zK K β W D _ from lk)).mono fun _ c2 l2 σ2 W2 st2 R2=>?_)
   exact l2 σ2 W2 (st.trans (st2.up fun a z=>Yy z)) R2
 ·have lk:zK K β W D (if NS.contains nm then match fh (c1.set j (some (.ty (.xc nm)))) with
   | .nx c2=>.nx (c2.set j none)
   | _=>.bad
   else .bad):=lk
  by_cases hc:NS.contains nm=true
  ·rw[if_pos hc]at lk
   refine⟨C,rfl,hx nm (by simpa using hc) C hn,fun a fa0=>?_⟩
   have s4:Stp (fun _=>False) W1.Hf W1.H (fun _=>False) (upd W1.Hf a (Kr a C)) (upd W1.H a (Kr a C)):=Stp.newF R3.sub fa0
   have s5:Stp W1.S W1.Hf W1.H (Wo.S ⟨upd W1.Hf a (Kr a C),upd W1.H a (Kr a C),W1.fps⟩) (upd W1.Hf a (Kr a C)) (upd W1.H a (Kr a C)):=⟨s4.fz,fun a o e n=>s4.kp a o e (fun z=>z),fun a o e mu n q=>s4.nf a o e mu (fun z=>z) q,fun a z=>.inl z⟩
   have R5:Rep K β ⟨upd W1.Hf a (Kr a C),upd W1.H a (Kr a C),W1.fps⟩ c1 σ:=Stp.rep R3 s4 (Oe R3.sub)
   have rn:Fv K ⟨upd W1.Hf a (Kr a C),upd W1.H a (Kr a C),W1.fps⟩ σ (.o (.ty (.xc nm))) (.ref a) []:=⟨⟨rfl,a,C,rfl,hn,Ca⟩,fun a z=>nomatch z⟩
   refine Aj β _ c1 σ (.o (.ty (.xc nm))) (.ref a) [] (fun σ2 H3=>th { nx:=fun σ2 H3=>D.nx (σ2.set j none) H3,rt:=D.rt } σ2 H3) R5 rn ?_
   show ∀σ' W',_->_->_
   intro σ6 W6 st6 R6
   refine hh β W6 _ σ6 _ R6 ?_
   cases ef:fh (c1.set j (some (.ty (.xc nm)))) with
   | nx c2 =>
    rw[ef]at lk;intro σ7 W7 st7 R7;have R8:=Rep.setU (Rep.drop R7 j)
    refine lk _ ⟨W7.Hf,W7.H,clr W7.fps j⟩ ?_ R8
    refine ((st.trans s5).trans ((st6.up fun a z=>by
     rcases z with z | z
     ·exact z
     ·cases z).trans st7)).less fun a z=>?_
    obtain⟨k,z⟩:=z;exact⟨k,(Hd z).1⟩
   | rt p c2=>rw[ef]at lk;exact lk.elim
   | bk c2=>rw[ef]at lk;exact lk.elim
   | ct c2=>rw[ef]at lk;exact lk.elim
   | bad=>rw[ef]at lk;exact lk.elim
  ·rw[if_neg hc]at lk;exact lk.elim
def Yp (d:PyData):List PyData->Option Nat
 | []=>none
 | x::xs=>if PyData.eqv x d=true then some 0 else (Yp d xs).map (·+1)
theorem Z4 {d:PyData}:∀{xs:List PyData}{j:Nat},Yp d xs=some j->(∃e,xs[j]?=some e/\PyData.eqv e d=true)/\∀m e,m<j->xs[m]?=some e->PyData.eqv e d=false
 | [],j,h=>by cases h
 | x::xs,j,h=>by
  unfold Yp at h
  by_cases q:PyData.eqv x d=true
  ·rw[if_pos q]at h;cases h
   exact⟨⟨x,rfl,q⟩,fun m e hm=>absurd hm (Nat.not_lt_zero _)⟩
  ·rw[if_neg q]at h
   obtain⟨k,e1,rfl⟩:=Option.map_eq_some_iff.mp h;obtain⟨⟨e2,h1,h2⟩,h3⟩:=Z4 e1
   refine⟨⟨e2,h1,h2⟩,fun m e hm he=>?_⟩
   cases m with
   | zero=>cases (show some x=some e from he);exact Bool.eq_false_iff.mpr q
   | succ m=>exact h3 m e (Nat.lt_of_succ_lt_succ hm) he
def Ib:PyData->PyData->Option O
 | .tuple ds,d=>if Df d&&PyData.canLayAll0 ds then (Yp d ds).map fun j=>.im (.int (j:Nat)) else none
 | _,_=>none
theorem Vg:OpS K (fun x y H Q=>rIndexD x [y] H Q) Ib:=by
 intro Hf H x y dx c o Q s d f e n;unfold Ib at e
 split at e
 ·split at e
  ·rename_i l
   obtain⟨i,b⟩:=Bool.and_eq_true_iff.mp l;obtain⟨j,g,rfl⟩:=Option.map_eq_some_iff.mp e;obtain⟨h,a⟩:=Z4 g;exact⟨y,c,_,j,rfl,f.tr s,d.tr s,Gn i,b,h,a,n.int s⟩
  simp_all
 trivial
end
def Ql:PyData->PyData->Option O:=Wn fun i j=>.bool (decide (i<j))
theorem Ax4  : OpS K (rI0 fun i j=>.bl (decide (i<j))) Ql:=Ab8 fun _ _ _=>rfl
theorem B1n  (l:Vh i j=true):CMul i j:=by
 unfold Vh at l;rw[Bool.or_eq_true_iff,Bool.and_eq_true_iff,Bool.and_eq_true_iff]at l
 rcases l with ⟨b,a⟩ | ⟨b,a⟩
 ·exact .inl ⟨of_decide_eq_true b,of_decide_eq_true a⟩
 ·exact .inr ⟨of_decide_eq_true b,of_decide_eq_true a⟩
def Lj:PyData->PyData->Option O:=opI Vh fun i j=>i*j
theorem K4  : OpS K (rI CMul fun i j=>.int (i*j)) Lj:=Av5 fun _ _=>B1n
def Br:PyData->Option O
 | .list ds=>some (.im (.tuple ds))
 | .tuple ds=>some (.im (.tuple ds))
 | _=>none
theorem Dv  : UnS K (fun x H Q=>Ij K [x] H Q) Br:=by
 intro Hf H x d o Q s r e n;unfold Br at e
 split at e
 ·cases e
  obtain⟨a,b,rfl,c,t⟩:=Ga r
  exact⟨a,b,rfl,.inl ⟨SqL.of c,fun l f=>n.tup s t f⟩⟩
 ·cases e
  obtain⟨a,b,rfl,c,t⟩:=Hs s r;exact⟨a,b,rfl,.inr ⟨SqT.of c,n.same s r⟩⟩
 trivial
def By2 (K:PySem.W.Frag):R2:=fun x y H Q=>Bm6 K x y H Q\/Bo4 K x y H Q
def Ay:PyData->PyData->Option O
 | .list ds,.int i=>(atI ds i).map O.im
 | .tuple ds,.int i=>(atI ds i).map O.im
 | _,_=>none
theorem Bp  : OpS K (By2 K) Ay:=by
 intro Hf H x y dx dy o Q s i j e n;unfold Ay at e
 split at e
 ·obtain⟨d,g,rfl⟩:=Option.map_eq_some_iff.mp e
  obtain⟨a,c,rfl,f,t⟩:=Ga i;obtain⟨v,h,b⟩:=A8u t g;exact .inl ⟨a,c,_,v,rfl,Eu j,SqL.of f,h,n.same s b⟩
 ·obtain⟨d,g,rfl⟩:=Option.map_eq_some_iff.mp e
  obtain⟨a,c,rfl,f,t⟩:=Hs s i;obtain⟨v,h,b⟩:=A8u t g;exact .inr ⟨a,c,_,v,rfl,Eu j,SqT.of f,h,n.same s b⟩
 grind
end U
namespace L2
open PySem
section
variable {X:Cx}{a b:Expr}{ta tb:TE}{pos:Pos}
theorem Cm  (c:X.K=Kq) (ha:QE X a ta) (hb:QE X b tb) (hs:N8 b):QE X (.Subscript a b pos) (tOp (U.By2 Kq) ta tb):=by
 subst c;exact Bk3 (IxR.or ix_list ix_tup) ha hb hs
end
end L2
namespace U
open PySem L2 PySem.W
def A2i (F:List O->FR)(js:List Nat)(d:PyData)(c:Ev):R PyData:=(M3 F (.o (.im d)::js.map PV.sl) c).bind fun p c=>match p with
 | .o (.im k)=>.ok k c
 | _=>.bad
def Vf (F:List O->FR)(js:List Nat):List PyData->Ev->R (List PyData)
 | [],c=>.ok [] c
 | d::ds,c=>(A2i F js d c).bind fun k c=>(Vf F js ds c).bind fun ks c=>.ok (k::ks) c
def Aw1 (F:List O->FR)(js:List Nat)(fa:Ev->R PV):Ev->R PV:=fun c=>(fa c).bind fun p c=>match (Er c (nrm p)).bind Mj with
 | none=>.bad
 | some ds=>(Vf F js ds c).bind fun ks c=>match Qw ds ks with
  | none=>.bad
  | some out=>.ok (.o (.ls false out)) c
section
variable {K:PySem.W.Frag}{β:Nat->V}{W W':Wo}{c c':Ev}{σ:St}{Hf H:Hp}
def Bs0 (K:PySem.W.Frag)(te:TE)(F:List O->FR):Prop:=∀(vs:List V) (H:Hp) (Q:VK),spP K F vs H Q E0->te (vs.map some) H Q
theorem A9u {n:Nat}{b:TE}{c:Ev->R PV}(h:ME K b c)(N:List Str)(hN:N.length=n):Bs0 K b (Fp n N.length (Dc c)):=by
 intro a H Q d;have f:=Dm d;have:=Dl  (Bb h) d
 have e:start N a=a.map some:=by
  show a.map _++List.replicate _ _=_
  simp_all
 rw[e]at this
 trivial
theorem As9 (R:Rep K β W c σ):∀{js:List Nat}{as:List O},Qu c (js.map PV.sl)=some as->∃cvs,zH K W.Hf σ (js.map PV.sl) cvs/\cst (js.map some) σ=cvs.map some
 | [],as,e=>⟨[],rfl,rfl⟩
 | j::js,as,e=>by
  have e:Qu c (.sl j::js.map PV.sl)=some as:=e;unfold Qu at e
  cases ec:c[j]? with
  | none=>simp only[ec]at e;cases e
  | some x =>
   cases x with
   | none=>simp only[ec]at e;cases e
   | some o1 =>
    simp only[ec]at e;obtain⟨l,e2,rfl⟩:=Option.map_eq_some_iff.mp e;obtain⟨cvs,r,q⟩:=As9 R e2;obtain⟨v,e1,_⟩:=R.get j o1 ec
    refine⟨v::cvs,⟨v,cvs,rfl,e1,r⟩,?_⟩
    show ((some j).bind fun i=>(σ[i]?).join)::cst (js.map some) σ=_
    rw[q]
    show (σ[j]?).join::_=_
    rw[e1];rfl
theorem Ai2 {F:List O->FR}{te:TE}{js:List Nat}(hF:Bs0 K te F){Q:List V->Hp->Prop}:∀(ds:List PyData) (vs:List V) (kd:List PyData) (kv:List V) (W:Wo) (c:Ev),Rep K β W c σ->TrL W.Hf ds vs->TrL W.Hf kd kv ->
 ((Vf F js ds c).sat fun ks c'=>∀W' kv',Stp W.S W.Hf W.H W'.S W'.Hf W'.H->Rep K β W' c' σ->TrL W'.Hf (kd++ks) kv'->Q kv' W'.H)->Tf (fun x H Q=>te (some x::cst (js.map some) σ) H Q) vs kv W.H Q
 | [],vs,kd,kv,W,c,R,t,tk,h=>by
  cases (show vs=[] from t)
  exact h W kv Stp.refl R (by rw[List.append_nil];exact tk)
 | d::ds,vs,kd,kv,W,c,R,⟨v,r,ev,t,ts⟩,tk,h=>by
  subst ev
  have h:((A2i F js d c).bind fun k c=>(Vf F js ds c).bind fun ks c=>U.R.ok (k::ks) c).sat _:=h
  have h:=h.bnd;unfold A2i at h;have h:=h.bnd
  cases ea:Qu c (js.map PV.sl) with
  | none =>
   have:M3 F (.o (.im d)::js.map PV.sl) c=.bad:=by
    unfold M3;simp only[Qu,ea,Option.map_none]
   rw[this]at h;exact h.elim
  | some as =>
   obtain⟨cvs,rc,ec⟩:=As9 R ea
   show te (some v::cst (js.map some) σ) W.H _
   rw[ec]
   refine hF (v::cvs) W.H _ ?_
   have hs:spP K F ((v::cvs)++[]) W.H (fun kv1 H1=>Tf (fun x H Q=>te (some x::cst (js.map some) σ) H Q) r (kv++[kv1]) H1 Q) E0:=by
    refine N5 (ps:=.o (.im d)::js.map PV.sl) R ⟨v,cvs,rfl,t,rc⟩ (h.mono fun p c1 h1 v' W' fp st R' rp=>?_)
    cases p with
    | sl i=>exact h1.elim
    | o o =>
     cases o with
     | im k =>
      obtain⟨⟨rfl,tv⟩,_⟩:=rp
      have st:Stp W.S W.Hf W.H W'.S W'.Hf W'.H:=st.less fun a z=>.inl z
      refine Ai2 hF ds r (kd++[k]) (kv++[v']) W' c1 R' (TrL.same st.fz ts) ((TrL.same st.fz tk).app (TrL.one tv)) (h1.bnd.mono fun ks c2 h2 W2 kv' st2 R2 t2=>?_)
      exact h2 W2 kv' (st.trans st2) R2 (by rw[List.append_assoc]at t2;exact t2)
     | ls b ds=>exact h1.elim
     | sc d=>exact h1.elim
     | ty d=>exact h1.elim
   rw[List.append_nil,ec]at hs;exact hs
theorem A6l {d:Hp}(R:Rep K β W c σ)(h:Bt7 W.H d):∃W2:Wo,W2.H=d/\Stp W.S W.Hf W.H W2.S W2.Hf W2.H/\Rep K β W2 c σ:=by
 rcases h with rfl | ⟨a,o,e,rfl⟩
 ·exact⟨W,rfl,Stp.refl,R⟩
 ·have b:=Stp.newF (o:=.frz o (.own 0)) R.sub e
  refine⟨⟨upd _ a _,upd _ a _,W.fps⟩,rfl,?_,b.rep R (Oe R.sub)⟩
  exact((b.more ).up  fun a z=>z.elim (fun z=>z.elim) id).less  fun a z=>.inr z
theorem Bh8 {F:List O->FR}{js:List Nat}{E G:TE}{fa:Ev->R PV}(ha:ME K G fa)(hF:Bs0 K E F):ME K (A3r K (js.map some) E (Dh G G6)) (Aw1 F js fa):=by
 intro β W c U Q R s
 refine ha.toV β W c U _ R (s.bnd.mono fun p c1 m v1 n u w Z=>?_)
 cases ed:(Er c1 (nrm p)).bind Mj with
 | none=>simp only[ed]at m;exact m.elim
 | some r =>
  simp only[ed]at m;obtain⟨d,e1,A⟩:=Option.bind_eq_some_iff.mp ed
  obtain⟨a,f,rfl,sq,t⟩:∃a f,v1=.ref a/\(n.H a=some (.lst f)\/n.H a=some (.tup f))/\TrL n.Hf r f:=by
   have L:=Fw w Z e1
   cases d with
   | list M =>
    cases A
    obtain⟨a,f,e,h,t⟩:=Ga L;exact⟨a,f,e,.inl h,t⟩
   | tuple M =>
    cases A
    obtain⟨a,f,e,h,t⟩:=Hs w.sub L;exact⟨a,f,e,.inr h,t⟩
   | _=>cases A
  refine⟨a,f,rfl,fun H2 H=>?_⟩
  obtain⟨W0,rfl,i,R0⟩:=A6l w H
  have I:Same n.H W0.H:=by
   rcases H with e | ⟨b,o,P,e⟩
   ·rw[e];exact Same.refl _
   ·rw[e];exact Cw P
  refine⟨sq.imp (fun h=>SqL.of (I _ _ h)) (fun h=>SqT.of (I _ _ h)),?_⟩
  refine Ai2 hF _ _ [] _ _ _ R0 (TrL.same i.fz t) rfl (m.bnd.mono fun k c2 l X kv x y t2=>?_)
  cases ek:Qw r k with
  | none=>simp only[ek]at l;exact l.elim
  | some z =>
   simp only[ek]at l;have g:=i.trans x;have t:=TrL.same g.fz t;have N:=TrL.len' t
   have j:∀(C:List _) (B:List V),C=z->TrL _ C B->∀q,X.H q=none->Q (.ref q) (upd _ q (.lst B)):=fun C B e T q Y=>by
    subst e
    exact New.lst (New.of y fun v W' fp st R' rp=>l v _ _ (u.trans (g.trans st)) R' rp) y.sub T Y
   unfold Qw at ek
   by_cases h2:r.length<2
   ·rw[if_pos h2]at ek
    cases ek
    exact .inl ⟨by omega,j _ _ rfl t⟩
   ·rw[if_neg h2]at ek
    by_cases hb:(decide (r.length<64)&&(k.all (Lk (kdOf k))&&k.all Df))=true
    ·rw[if_pos hb]at ek
     obtain⟨J,D⟩:=Bool.and_eq_true_iff.mp hb;obtain⟨D,b3⟩:=Bool.and_eq_true_iff.mp D;have J:=of_decide_eq_true J;obtain⟨pm,q1,q2⟩:=Option.map_eq_some_iff.mp ek
     refine .inr ⟨by omega,by omega,k,kdOf _,pm,TrL.same y.sub t2,D,fun d S=>Gn (List.all_eq_true.mp b3 d S),by rw[<- N];exact q1,j _ _ q2 (TrL.pick t _)⟩
    ·rw[if_neg hb]at ek;cases ek
end
section
variable {K:PySem.W.Frag}{β:Nat->V}{W W':Wo}{c c':Ev}{σ:St}{Hf H:Hp}
def Z2:PyData->PyData->Option O
 | .int i,.int j=>some (.im (.int (if j>i then j else i)))
 | _,_=>none
theorem Bg3 {c d:TE}{fa fb:Ev->R PV}(ha:ME K c fa)(hb:ME K d fb):ME K (tCB (Tj K) (Dh c (Dh d G6))) (cOp Z2 fa fb) :=
 Ak  ha hb fun h H x y g f o Q s a b e n=>by
  match g,f,a,b,e with
  | .int i,.int j,a,b,e=>cases e;cases Eu a;cases Eu b;exact⟨i,j,rfl,n.int s⟩
theorem Au4 {Q:VK}{ds ks out:List PyData}{vs kv:List V}(s:Same Hf H)(t:TrL Hf ds vs)(tk:TrL Hf ks kv)(e:Qw ds ks=some out)(n:New K Hf H (.ls false out) Q):Wz vs kv H Q:=by
 have hl:=TrL.len' t;unfold Qw at e
 by_cases h2:ds.length<2
 ·rw[if_pos h2]at e
  cases e
  exact .inl ⟨by omega,fun q hq=>n.lst s t hq⟩
 ·rw[if_neg h2]at e
  by_cases hb:(decide (ds.length<64)&&(ks.all (Lk (kdOf ks))&&ks.all Df))=true
  ·rw[if_pos hb]at e
   obtain⟨b1,b2⟩:=Bool.and_eq_true_iff.mp hb;obtain⟨b2,b3⟩:=Bool.and_eq_true_iff.mp b2;have b1:=of_decide_eq_true b1;obtain⟨pm,q1,q2⟩:=Option.map_eq_some_iff.mp e;subst q2
   exact .inr ⟨by omega,by omega,ks,kdOf ks,pm,TrL.same s tk,b2,fun d hd=>Gn (List.all_eq_true.mp b3 d hd),by rw[<- hl];exact q1,fun q hq=>n.lst s (TrL.pick t _) hq⟩
  ·rw[if_neg hb]at e;cases e
def Oc (d:PyData):Option O:=(Mj d).bind fun ds=>(Qw ds ds).map fun out=>.ls false out
theorem A1m:UnS K (fun x H Q=>Ao3 K [x] H Q) Oc:=by
 intro Hf H x d o Q s r e n;unfold Oc at e;obtain⟨ds,e1,e2⟩:=Option.bind_eq_some_iff.mp e;obtain⟨out,e3,rfl⟩:=Option.map_eq_some_iff.mp e2
 cases d with
 | list xs =>
  cases e1
  obtain⟨a,vs,rfl,h1,t⟩:=Ga r;exact⟨a,vs,rfl,.inl (SqL.of h1),Au4 s t t e3 n⟩
 | tuple xs =>
  cases e1
  obtain⟨a,vs,rfl,h1,t⟩:=Hs s r;exact⟨a,vs,rfl,.inr (SqT.of h1),Au4 s t t e3 n⟩
 | _=>cases e1
def Aq1:PyData->Option O
 | .int i=>if 0<=i/\i<=2 ^ 24 then some (.ls false ((List.range i.toNat).map fun k=>.int (k:Nat))) else none
 | _=>none
theorem At1:∀l:List Nat,TrL Hf (l.map fun k=>PyData.int (k:Nat)) (l.map fun k=>V.int (k:Nat))
 | []=>rfl
 | k::l=>⟨_,_,rfl,rfl,At1 l⟩
theorem New.junk {o:O}{Q:VK}{p:Addr}{u:HO}(n:New K Hf H o Q)(hp:H p=none):New K Hf (upd H p u) o Q:=by
 intro v Hf' H' fp st sm rp
 have ne:∀b w,H b=some w->b≠p:=fun b w e z=>by rw[z,hp]at e;cases e
 refine n v Hf' H' fp ⟨st.fz,fun b w e hb=>st.kp b w (by rw[Ar (ne b w e)];exact e) hb,fun a w e m ha hf=>st.nf a w (by rw[Ar (ne a w e)];exact e) m ha hf,fun a ha=>?_⟩ sm rp
 rcases st.fr a ha with z | z
 ·exact .inl z
 ·by_cases h:a=p
  ·exact .inr (by rw[h];exact hp)
  ·rw[Ar h]at z;exact .inr z
theorem A3h:UnS K (fun x H Q=>Be4 [x] H fun y H=>Ax0 [y] H Q) Aq1:=by
 intro Hf H x d o Q s r e n
 match d,r,e with
 | .int i,r,e =>
  have e:(if 0<=i/\i<=2 ^ 24 then some (O.ls false ((List.range i.toNat).map fun k=>.int (k:Nat))) else none)=some o:=e
  split at e
  ·rename_i hi
   cases e
   cases Eu r
   refine⟨i,rfl,fun p hp=>⟨p,i.toNat,rfl,?_,by omega,fun l hl=>?_⟩⟩
   ·rw[Ca,Int.toNat_of_nonneg hi.1]
   ·exact(n.junk hp).lst (fun b u e=>Cw hp b u (s b u e)) (At1 _) hl
  ·cases e
def Ym:PyData->Option O
 | .list ds=>some (.ls false ds.reverse)
 | _=>none
theorem A8f:UnS K (fun x H Q=>∃a b,[x]=[V.ref a]/\SqL K H a b/\∀l,H l=none->Q (.ref l) (upd H l (.lst b.reverse))) Ym:=by
 intro Hf H x d o Q s r e n
 match d,r,e with
 | .list _,r,e =>
  cases e
  obtain⟨a,b,rfl,f,t⟩:=Ga r
  exact⟨a,b,rfl,SqL.of f,fun l c=>n.lst s (TrL.rev t) c⟩
theorem Bh9 {a:TE}{fa:Ev->R PV}(ha:ME K a fa):ME K (A4q K (Dh a G6)) (cUn Ym fa):=Xv  ha A8f
def U6:PyData->PyData->Option O
 | .list ds,d=>if Df d&&(PyData.canLayAll0 ds&&decide (ds.length<1000000)) then (Yp d ds).map fun j=>.im (.int (j:Nat)) else none
 | _,_=>none
theorem Ar8:OpS K (fun x y H Q=>rIndexL x [y] H Q) U6:=by
 intro Hf H x y dx g o Q s i p e n;unfold U6 at e
 split at e
 ·split at e
  ·rename_i l
   obtain⟨f,b⟩:=Bool.and_eq_true_iff.mp l;obtain⟨b,l3⟩:=Bool.and_eq_true_iff.mp b;obtain⟨j,d,rfl⟩:=Option.map_eq_some_iff.mp e;obtain⟨k,h⟩:=Z4 d;obtain⟨m,c,a⟩:=k
   exact⟨y,g,_,j,rfl,p.tr s,i.tr s,Gn f,b,by grind,⟨m,c,a⟩,h,n.int s⟩
  simp_all
 grind
def mtR (op:PyData->PyData->Option O)(fb:Ev->R PV)(p:PV):Ev->R PV:=fun c=>(fb c).bind fun q c=>match Er c (nrm p),Er c (nrm q) with
 | some x,some y=>match op x y with
  | some o=>.ok (.o o) c
  | none=>.bad
 | _,_=>.bad
def Af2 (fa fb:Ev->R PV):Ev->R PV:=fun c=>(fa c).bind fun p c=>match Er c (nrm p) with
 | some d=>if Nj d=true then mtR U6 fb p c else if Nq d=true then mtR Ib fb p c else .bad
 | none=>.bad
theorem A3u {z u:TE}{fa fb:Ev->R PV}(ha:ME K z fa)(hb:ME K u fb):ME K (Bm1 K z (Dh u G6)) (Af2 fa fb):=by
 intro n W c h Q R s
 refine ha.toV n W c h _ R ((s.bnd).mono fun p m a D B t i l=>?_)
 have f:∀(r:V->List V->Hp->VK->Prop) (j:PyData->PyData->Option O),OpS K (fun x y H Q=>r x [y] H Q) j->((mtR j fb p m).sat fun E I=>∀v b w,Stp W.S W.Hf W.H (orS b.S w) b.Hf b.H->Rep K n b I h->Fv K b h E v w->Q v b.H)->Dh u G6 h B.H fun J G=>r D J G Q:=by
  intro r j L a
  refine hb.toV n B m h _ i ((a.bnd).mono fun q A e P S g k F=>?_)
  cases ex:Er A (nrm p) with
  | none=>simp only[ex]at e;trivial
  | some x =>
   cases ey:Er A (nrm q) with
   | none=>simp only[ex,ey]at e;trivial
   | some y =>
    simp only[ex,ey]at e
    cases eo:j x y with
    | none=>simp only[eo]at e;trivial
    | some o =>
     simp only[eo]at e
     exact L _ _ _ _ x y o Q k.sub (Fw k (RepA.same g.fz l) ex) (Fw k F ey) eo (New.of k fun v b w N M C=>e v _ _ (t.trans (g.trans N)) M C)
 cases ed:Er m (nrm p) with
 | none=>simp only[ed]at a;trivial
 | some d =>
  simp only[ed]at a
  by_cases it:Nj d=true
  ·rw[if_pos it]at a
   exact .inl ⟨As4 _ _ d _ it i.sub (Fw i l ed),f _ _ Ar8 a⟩
  ·rw[if_neg it]at a
   by_cases it:Nq d=true
   ·rw[if_pos it]at a
    exact .inr ⟨A4e _ _ d _ it i.sub (Fw i l ed),f _ _ Vg a⟩
   ·rw[if_neg it]at a;trivial
def Vy:PyData->Option O
 | .tuple ds=>some (.im (.tuple ds.reverse))
 | .list ds=>some (.ls false ds.reverse)
 | _=>none
theorem Ay8 {t:TE}{ts:TO}{f:Ev->R PV}(h:ME K t f)(hs:∀σ H Q,Q (some (-1)) H->ts σ H Q):ME K (A5b K t ts) (cUn Vy f):=by
 intro β W c σ Q R s
 refine (Xv (r:=fun x H Q=>ts σ H fun o H2=>o=some (-1)/\∃a xs,x=.ref a/\((SqT K H2 a xs/\∀p,H2 p=none->Q (.ref p) (upd H2 p (.tup xs.reverse)))\/(SqL K H2 a xs/\∀p,H2 p=none->Q (.ref p) (upd H2 p (.lst xs.reverse))))) h fun Hf H x d o Q s r e n=>hs _ _ _ ⟨rfl,?_⟩) β W c σ Q R s
 match d,r,e with
 | .tuple ds,r,e =>
  cases e
  obtain⟨a,vs,rfl,h1,t⟩:=Hs s r
  exact⟨a,vs,rfl,.inl ⟨SqT.of h1,fun p hp=>n.tup s (TrL.rev t) hp⟩⟩
 | .list ds,r,e =>
  cases e
  obtain⟨a,vs,rfl,h1,t⟩:=Ga r
  exact⟨a,vs,rfl,.inr ⟨SqL.of h1,fun p hp=>n.lst s (TrL.rev t) hp⟩⟩
def cFz (f:Ev->R PV):Ev->R PV:=fun c=>(f c).bind fun p c=>(frz (nrm p) c).bind fun d c=>.ok (.o (.im d)) c
theorem Mf   (h:ME K t f):ME K t (cFz f):=by
 intro y W c x Q R s
 refine h.toV _ W c _ Q R (s.bnd.mono fun p n j v u e i k=>?_)
 obtain⟨d,o,r,_,l,w,b,m,g⟩:=Ka i k j.bnd
 have q:=l v _ [] ((e.trans b).less fun a z=>z.elim id fun z=>nomatch z) m ⟨⟨rfl,g⟩,fun a z=>nomatch z⟩
 grind
end
def Oh:PyData->Bool
 | .tuple ds=>Gv ds&&PyData.canLayAll0 ds&&decide (PyData.depthAll ds<=6)
 | _=>false
def K6:List PyData->Option (List PyData×List PyData)
 | []=>some ([],[])
 | d::r=>match d with
  | .tuple l=>match l with
   | [k,v]=>if Oh k then (K6 r).map fun x=>(k::x.1,v::x.2) else none
   | _=>none
  | _=>none
def Vz:List PyData->Bool
 | []=>true
 | k::r=>!(r.any fun e=>PyData.eqv k e)&&Vz r
def Vj:List PyData->List PyData->PyData->Option PyData
 | k::ks,d::ds,z=>if PyData.eqv k z=true then some d else Vj ks ds z
 | _,_,_=>none
def cDP (fa:Ev->R PV):Ev->R PV:=fun c=>(fa c).bind fun p c=>match Er c (nrm p) with
 | some (.tuple ds)=>match K6 ds with
  | some x=>if x.1.length<=16000000/\Vz x.1=true then .ok (.o (.ty (.dt x.1 x.2))) c else .bad
  | none=>.bad
 | _=>.bad
def Af8 (fa fw:Ev->R PV):Ev->R PV:=fun c=>(fa c).bind fun p c=>match p with
 | .o (.ty (.dt ks ds))=>(fw c).bind fun q c=>match Er c (nrm q) with
  | some k=>if (Oh k&&ks.all Oh)=true then match Vj ks ds k with
   | some d=>.ok (.o (.im d)) c
   | none=>.bad
   else .bad
  | none=>.bad
 | _=>.bad
theorem Q5  (h:Oh k=true):Bj5 k/\∃a,k=.tuple a:=by
 cases k with
 | tuple a =>
  obtain⟨c,d⟩:=Bool.and_eq_true_iff.mp (show (Gv _&&PyData.canLayAll0 _&&decide _)=true from h)
  obtain⟨e,b⟩:=Bool.and_eq_true_iff.mp c;exact⟨⟨e,b,Nat.succ_le_succ (of_decide_eq_true d)⟩,a,rfl⟩
 | _=>cases h
mutual
theorem A4n {H:Hp}:∀{d:PyData}{v:V},keyB d=true->Tr H d v->KTr H d v
 | .none,_,_,h=>h
 | .int _,_,_,h=>h
 | .str _,_,_,h=>h
 | .tuple ds,_,k,⟨a,vs,e,ha,t⟩=>⟨a,vs,e,ha,Ax7 k t⟩
theorem Ax7 {H:Hp}:∀{ds:List PyData}{vs:List V},Gv ds=true->TrL H ds vs->KTrL H ds vs
 | [],_,_,h=>h
 | d::ds,_,k,⟨v,r,e,h,t⟩=>by
  obtain⟨k1,k2⟩:=Bool.and_eq_true_iff.mp (show (keyB d&&Gv ds)=true from k)
  exact⟨v,r,e,A4n k1 h,Ax7 k2 t⟩
end
theorem A6v    (h:Oh k=true) (t:Tr H k v):∃b,v=.ref b/\KAt H k b:=by
 obtain⟨c,ds,rfl⟩:=Q5 h;obtain⟨a,d,rfl,f,e⟩:=t;exact⟨a,rfl,c,A4n c.1 ⟨a,d,rfl,f,e⟩⟩
theorem V1:∀{ks:List PyData},(∀k∈ks,Oh k=true)->Vz ks=true->ks.Nodup
 | [],_,_=>List.nodup_nil
 | k::r,hk,h=>by
  obtain⟨h1,h2⟩:=Bool.and_eq_true_iff.mp (show (!(r.any fun e=>PyData.eqv k e)&&Vz r)=true from h)
  refine List.nodup_cons.mpr ⟨fun m=>?_,V1 (fun x hx=>hk x (List.mem_cons_of_mem _ hx)) h2⟩
  have b:=(Q5 (hk k List.mem_cons_self)).1.1
  have:(r.any fun e=>PyData.eqv k e)=true:=List.any_eq_true.mpr ⟨k,m,(Qi k k b b).mpr rfl⟩
  rw[this]at h1;cases h1
theorem Xq:∀{ds:List PyData}{x:List PyData×List PyData},K6 ds=some x->∀k∈x.1,Oh k=true
 | [],_,e,k,hk=>by cases e;cases hk
 | d::r,x,e,k,hk=>by
  unfold K6 at e
  split at e
  ·split at e
   ·rename_i k' v
    by_cases c:Oh k'=true
    ·rw[if_pos c]at e
     obtain⟨y,e1,rfl⟩:=Option.map_eq_some_iff.mp e
     rcases List.mem_cons.mp hk with rfl | hk
     ·exact c
     ·exact Xq e1 k hk
    ·rw[if_neg c]at e;cases e
   ·cases e
  ·cases e
section
variable {K:PySem.W.Frag}{β:Nat->V}{W W':Wo}{c c':Ev}{σ:St}{Hf H:Hp}
theorem Av8:∀{ds:List PyData}{vs:List V}{x:List PyData×List PyData},TrL H ds vs->K6 ds=some x->∃xs,PairsR H vs (x.1.zip xs)/\TrL H x.2 xs/\x.1.length=xs.length
 | [],_,_,e,q=>by cases q;cases (show _=[] from e);exact⟨[],rfl,rfl,rfl⟩
 | d::r,_,x,⟨v,vs,rfl,t,ts⟩,e=>by
  unfold K6 at e
  split at e
  ·split at e
   ·rename_i k' w
    by_cases c:Oh k'=true
    ·rw[if_pos c]at e
     obtain⟨y,e1,rfl⟩:=Option.map_eq_some_iff.mp e;obtain⟨xs,p1,p2,p3⟩:=Av8 ts e1;obtain⟨a,us,rfl,ha,tl⟩:=t;obtain⟨v1,r1,rfl,t1,v2,r2,rfl,t2,e3⟩:=tl
     cases (show r2=[] from e3)
     obtain⟨b,rfl,kb⟩:=A6v c t1
     exact⟨v2::xs,⟨a,b,k',v2,_,rfl,ha,kb,rfl,p1⟩,⟨v2,xs,rfl,t2,p2⟩,by simp[p3]⟩
    ·rw[if_neg c]at e;cases e
   ·cases e
  ·cases e
theorem New.dt {Q:VK}{ks ds:List PyData}{vs:List V}(h:New K Hf H (.ty (.dt ks ds)) Q)(s:Same Hf H)(t:TrL Hf ds vs)(l:ks.length=vs.length){p:Addr}(hp:H p=none):Q (.ref p) (upd H p (.dT (ks.zip vs))) :=
 h _ _ _ [] ((Stp.newF s hp).less fun a z=>nomatch z) (Oe s) ⟨rfl,p,vs,rfl,.inl Ca,TrL.same (Cw (Same.free s hp)) t,l⟩
theorem PairsR.same {H H':Hp}(S:Same H H'):∀{vs:List V}{kvs:List (PyData×V)},PairsR H vs kvs->PairsR H' vs kvs
 | [],_,h=>h
 | _::_,_,⟨p,b,k,x,r,e,hp,hk,e2,t⟩=>⟨p,b,k,x,r,e,S _ _ hp,hk.stay fun b xs q=>S _ _ q,e2,PairsR.same S t⟩
theorem B0x {h:TE}{fa:Ev->R PV}(ha:ME K h fa):ME K (tDP h) (cDP fa):=by
 intro C W c H Q R s
 refine ha.toV _ W c _ _ R (s.bnd.mono fun p k b G D f e l=>?_)
 cases ex:Er k (nrm p) with
 | none=>simp only[ex]at b;exact b.elim
 | some d =>
  cases d with
  | tuple m =>
   simp only[ex]at b
   cases ey:K6 m with
   | none=>simp only[ey]at b;exact b.elim
   | some x =>
    simp only[ey]at b
    by_cases hb:x.1.length<=16000000/\Vz x.1=true
    ·rw[if_pos hb]at b
     obtain⟨a,n,g,q,j⟩:=(show Tr _ _ _ from Fw e l ex)
     obtain⟨w,t,u,i⟩:=Av8 j ey
     have r:(x.1.zip w).length=x.1.length:=by simp_all
     refine⟨a,n,x.1.zip _,g,e.sub _ _ q,PairsR.same e.sub t,by rw[r];exact lim hb.1,?_,fun z A=>New.dt (New.of e fun v E F y B o=>b v _ _ (f.trans y) B o) e.sub u i A⟩
     rw[List.map_fst_zip (Nat.le_of_eq i)];exact V1 (Xq ey) hb.2
    ·rw[if_neg hb]at b;exact b.elim
  | none=>simp only[ex]at b;exact b.elim
  | bool _=>simp only[ex]at b;exact b.elim
  | int _=>simp only[ex]at b;exact b.elim
  | str _=>simp only[ex]at b;exact b.elim
  | list _=>simp only[ex]at b;exact b.elim
  | dict _=>simp only[ex]at b;exact b.elim
theorem Aw9:∀{ks ds:List PyData}{xs:List V}{z d:PyData},(∀k∈ks,Oh k=true)->Oh z=true->TrL Hf ds xs->Vj ks ds z=some d->∃v,Wy (ks.zip xs) z=some v/\Tr Hf d v
 | [],_,_,_,_,_,_,_,e=>nomatch e
 | _::_,[],_,_,_,_,_,_,e=>nomatch e
 | k::ks,d0::ds,_,z,d,hk,hz,⟨v,r,ev,t,ts⟩,e=>by
  subst ev;have b:=(Q5 (hk k List.mem_cons_self)).1.1;have b2:=(Q5 hz).1.1
  have e:(if PyData.eqv k z=true then some d0 else Vj ks ds z)=some d:=e
  by_cases h:PyData.eqv k z=true
  ·rw[if_pos h]at e
   cases e
   exact⟨v,U3 ((Qi k z b b2).mp h),t⟩
  ·rw[if_neg h]at e
   obtain⟨v',h1,h2⟩:=Aw9 (fun k m=>hk k (List.mem_cons_of_mem _ m)) hz ts e
   refine⟨v',?_,h2⟩
   rw[List.zip_cons_cons,Ve (fun q=>h ((Qi k z b b2).mpr q))];exact h1
theorem Bc0 {ta tw:TE}{fa fw:Ev->R PV}(ha:ME K ta fa)(hw:ME K tw fw):ME K (A6m ta tw) (Af8 fa fw):=by
 intro β W c σ Q R s
 refine ha β W c σ _ R ((s.bnd).mono fun p c1 s1 v1 W1 fp1 st1 R1 r1=>?_)
 match p,r1,s1 with
 | .o (.ty (.dt ks ds)),r1,s1 =>
  obtain⟨⟨rfl,a,xs,rfl,h1,t1,l1⟩,_⟩:=r1
  have st1:Stp W.S W.Hf W.H W1.S W1.Hf W1.H:=st1.less fun a z=>.inl z
  refine hw.toV β W1 c1 σ _ R1 ((s1.bnd).mono fun q c2 s2 v2 W2 st2 R2 r2=>?_)
  cases ed:Er c2 (nrm q) with
  | none=>simp only[ed]at s2;exact s2.elim
  | some k =>
   simp only[ed]at s2
   by_cases hb:(Oh k&&ks.all Oh)=true
   ·rw[if_pos hb]at s2
    obtain⟨hk,hks⟩:=Bool.and_eq_true_iff.mp hb
    cases el:Vj ks ds k with
    | none=>simp only[el]at s2;exact s2.elim
    | some d =>
     simp only[el]at s2;obtain⟨_,kd,rfl⟩:=Q5 hk;have tz:Tr W2.Hf (.tuple kd) v2:=Fw R2 r2 ed;obtain⟨b,rfl,kb⟩:=A6v hk tz
     obtain⟨v,q1,q2⟩:=Aw9 (fun k m=>List.all_eq_true.mp hks k m) hk (TrL.same st2.fz t1) el
     have e2:Rd W2.H a (.dT (ks.zip xs)):=Z9 R2.sub (Z9 st2.fz h1)
     refine⟨a,v,rfl,?_,?_⟩
     ·rw[<- q1]
      exact .inr ⟨_,_,b,e2,rfl,kb.stay fun b xs q=>R2.sub _ _ q,rfl⟩
     ·exact s2 v W2 [] ((st1.trans st2).less fun a h=>by
       rcases h with h | h
       ·exact h
       ·cases h) R2 ⟨⟨rfl,q2⟩,fun a h=>nomatch h⟩
   ·rw[if_neg hb]at s2;exact s2.elim
 | .o (.ty (.nm _)),r1,s1=>exact s1.elim
 | .o (.ty (.tc _)),r1,s1=>exact s1.elim
 | .o (.ty (.xc _)),r1,s1=>exact s1.elim
 | .o (.ty (.dc _ _)),r1,s1=>exact s1.elim
 | .o (.ty (.ds _ _)),r1,s1=>exact s1.elim
 | .o (.ty (.td _ _ _)),r1,s1=>exact s1.elim
 | .o (.im _),r1,s1=>exact s1.elim
 | .o (.ls _ _),r1,s1=>exact s1.elim
 | .o (.sc _),r1,s1=>exact s1.elim
 | .sl _,r1,s1=>exact s1.elim
end
inductive DE where
 | d (x:PyData)
 | l (xs:List PyData)
inductive BR where
 | nx (c:Ev) (ks:List PyData) (es:List DE)
 | bad
def DX (a:Addr)(X:Nat->List Addr)(b:Addr):Prop:=b=a\/∃j,b∈X j
abbrev orX (S:Addr->Prop)(a:Addr)(X:Nat->List Addr):Addr->Prop:=fun b=>S b\/DX a X b
variable {K:PySem.W.Frag}
theorem Bu         {p a:Pos}(D:Def X.prog X.w X.K X.mg X.base x k ps sp) (hr:Room c X.A) (ha:QA X (e::es) t) (h:k<=c:=by omega) (hg:Gl X x:=by rfl)
 (hdb:(x==("__debug__" : Str))=false:=by decide) (hn:noStar (e::es)=true:=by rfl):QE X (.Call (.Name x p) (e::es) [] a) (Mg sp [] E0 t):=by
 obtain⟨f,g,G,b,d,m⟩:=D;exact U9 G (hr.mono h) hg m d b .nil B1g ha hdb hn
end U
namespace L2
open PySem PySem.Spec PyProof.Rows
end L2
namespace L2
open PySem PySem.Spec PyProof.Rows PySem.W
end L2
namespace U
open PySem L2 PySem.W
section
variable {K:PySem.W.Frag}{β:Nat->V}{W W':Wo}{c c':Ev}{σ σ':St}{D:Ends}{E:XK}{Hf H:Hp}
def cFY (F:List PyData->XF)(fa:Ev->R (List PV)):Ev->R PV:=fun c=>(fa c).bind fun ps c=>match Sv c ps with
 | none=>.bad
 | some ds=>match F ds with
  | .ret (.im d)=>.ok (.o (.im d)) c
  | _=>.bad
theorem Qx {F:List PyData->XF}{t:TA}{fa:Ev->R (List PV)}(ha:MA K t fa):ME K (Mg (spX K F) [] E0 t) (cFY F fa):=by
 intro β W c σ Q R s
 show t σ W.H fun vs H1=>spX K F (vs++[]) H1 Q E0
 simp only[List.append_nil]
 refine ha β W c σ _ R (s.bnd.mono fun ps c1 s1 vs W1 st R1 r1=>?_)
 cases ea:Sv c1 ps with
 | none=>simp only[ea]at s1;exact s1.elim
 | some ds =>
  simp only[ea]at s1
  refine⟨W1.Hf,ds,R1.sub,Qn R1 r1 ea,?_⟩
  split at s1
  ·rename_i d ef
   rw[ef];intro v Hf' H' fp s2 sub r;obtain⟨rfl,tv⟩:=r
   have s2:Stp (fun _=>False) W1.Hf W1.H (fun _=>False) Hf' H':=s2.less fun a z=>nomatch z
   exact s1 v ⟨Hf',H',W1.fps⟩ [] ((st.trans ⟨s2.fz,fun a o e _=>s2.kp a o e fun z=>z,fun a o e mu _ q=>s2.nf a o e mu (fun z=>z) q,fun a z=>.inl z⟩).less fun a z=>Yy z) (Stp.rep R1 s2 sub) ⟨⟨rfl,tv⟩,fun a z=>nomatch z⟩
  ·exact s1.elim
end
theorem B1w {P:Program}{w:World}{X:Cx}:M6 (CXe P w) X E0:=fun _ _ _ _ _ _ _ ⟨_,_,_,_,_,_,_,_,_,h⟩=>h.elim
theorem At9 {X:Cx}{x:Str}{k k':Nat}{ps:List Str}{sp:Sp}{e:Expr}{es:List Expr}{t:TA}{p pos:Pos}(D:DefX X.prog X.w X.K X.mg X.base x k ps sp)(hr:Room k' X.A)(ha:QA X (e::es) t)(h:k<=k':=by omega)(hg:Gl X x:=by rfl)
 (hdb:(x==("__debug__" : Str))=false:=by decide) (hn:noStar (e::es)=true:=by rfl):QE X (.Call (.Name x p) (e::es) [] pos) (Mg sp [] E0 t):=by
 obtain⟨f,fd,G,b,kp,m⟩:=D;exact U9 G (hr.mono h) hg m kp b .nil B1w ha hdb hn
end U
namespace L2
open PySem PySem.Spec PyProof.Rows PySem.W
section
variable {K K':Frag}
def Nk (K K':Frag):Prop:=∀a o,K.lookup a=some o->K'.lookup a=some o
theorem Uh (s:Nk K K'){ns:Addr}{x:Str}{r:Option Value}(e:nsIn K ns x=some r):nsIn K' ns x=some r:=by
 unfold nsIn at e ⊢
 split at e
 ·rename_i ho;rw[s _ _ ho];exact e
 ·cases e
theorem Ag0 (s:Nk K K'){x:Str}{v:Value}{r:Option Value}(e:ownIn K x v=some r):ownIn K' x v=some r:=by
 cases v with
 | ref a =>
  unfold ownIn at e ⊢
  dsimp only at e ⊢
  split at e
  ·rename_i ho;rw[s _ _ ho];exact Uh s e
  ·cases e
 | _=>exact e
theorem Wc (s:Nk K K'){x:Str}:∀{l:List Value}{r:Option Value},alongIn K x l=some r->alongIn K' x l=some r
 | [],r,e=>e
 | v::l,r,e=>by
  unfold alongIn at e ⊢
  split at e
  ·rename_i h;rw[Ag0 s h];exact e
  ·rename_i h;rw[Ag0 s h];exact Wc s e
  ·cases e
theorem Q7 (s:Nk K K'){x:Str}{C:Addr}{r:Option Value}(e:findIn K (.ref C) x=some r):findIn K' (.ref C) x=some r:=by
 unfold findIn at e ⊢
 dsimp only at e ⊢
 split at e
 ·rename_i ho;rw[s _ _ ho];exact Wc s e
 ·cases e
theorem A5o (s:Nk K K'){C:Addr}{cd:ClassData}(e:clsIn K C=some cd):clsIn K' C=some cd:=by
 unfold clsIn at e ⊢
 split at e
 ·rename_i ho;rw[s _ _ ho];exact e
 ·cases e
theorem Ux (s:Nk K K'){t b:Value}{r:Bool}(e:subIn K t b=some r):subIn K' t b=some r:=by
 cases t with
 | ref C =>
  obtain⟨cd,h1,h2⟩:=Option.bind_eq_some_iff.mp (show (clsIn K C).bind _=_ from e)
  exact Option.bind_eq_some_iff.mpr ⟨cd,A5o s h1,h2⟩
 | _=>exact e
theorem X7 (s:Nk K K'){t c:Value}{r:Bool}(e:kitCls K t c=some r):kitCls K' t c=some r:=by
 unfold kitCls at e ⊢
 split at e
 ·rename_i C
  split at e
  ·rename_i z
   rw[if_pos,Ux s e]
   dsimp only[clsIn,typeIn]at z ⊢
   cases ho:K.lookup C with
   | none=>rw[ho]at z;cases z
   | some o=>rw[s _ _ ho];rw[ho]at z;exact z
  ·cases e
 ·split at e
  ·rename_i z;rw[if_pos z,Ux s e]
  ·cases e
 ·cases e
theorem A1z (s:Nk K K'){t c:Value}{r:Bool}(e:kitOne K t c=some r):kitOne K' t c=some r:=by
 unfold kitOne at e ⊢
 split at e
 ·rename_i z;rw[if_pos z];exact e
 ·rename_i z;rw[if_neg z];exact X7 s e
theorem A0h (s:Nk K K'){t c:Value}{r:Bool}(e:exmOne K t c=some r):exmOne K' t c=some r:=by
 unfold exmOne at e ⊢
 split at e
 ·rename_i z
  rw[if_pos (by rw[Ux s (beq_iff_eq.mp z)];rfl)];exact X7 s e
 ·cases e
theorem Ax5 (s:Nk K K'){n:Addr}(e:nsOkIn K n=true):nsOkIn K' n=true:=by
 unfold nsOkIn at e ⊢
 split at e
 ·rename_i ho;rw[s _ _ ho];exact e
 ·cases e
theorem Yc (s:Nk K K'){b:List Value}:∀{l:List Value},tailIn K b l=true->tailIn K' b l=true
 | [],e=>e
 | v::l,e=>by
  unfold tailIn at e ⊢
  rcases Bool.or_eq_true_iff.mp e with q | q
  ·rw[q];rfl
  ·refine Bool.or_eq_true_iff.mpr (.inr ?_)
   split at q
   ·split at q
    ·rename_i ho
     rw[s _ _ ho];simp only[Bool.and_eq_true,beq_iff_eq]at q ⊢;exact⟨⟨Ax5 s q.1.1,Uh s q.1.2⟩,Yc s q.2⟩
    ·cases q
   ·cases q
theorem Ad9 (s:Nk K K'){C:Addr}{b:List Value}{i:String}(e:excIn K C b i=true):excIn K' C b i=true:=by
 unfold excIn at e ⊢
 split at e
 ·rename_i ho
  rw[s _ _ ho]
  split at e
  ·rename_i h1 h2
   simp only[h1,h2,Bool.and_eq_true,beq_iff_eq]at e ⊢;obtain⟨⟨⟨e1,e2⟩,e3⟩,e4⟩:=e;exact⟨⟨⟨e1,Yc s e2⟩,Ax5 s e3⟩,Uh s e4⟩
  ·cases e
 ·cases e
theorem Bk6 (s:Nk K K'){C:Addr}(e:xcB K C=true):Rm K' C:=by
 unfold xcB at e;simp only[Bool.and_eq_true,beq_iff_eq]at e;exact⟨Ad9 s e.1,Q7 s e.2.1,Q7 s e.2.2.1,Q7 s e.2.2.2⟩
theorem Wg (s:Nk K K'){x:Str}{p:Addr->Bool}(e:clB K x p=true):∃C,nsIn K' mainGlobals x=some (some (.ref C))/\p C=true:=by
 unfold clB at e
 split at e
 ·rename_i C h;exact⟨C,Uh s h,e⟩
 ·cases e
theorem Al6 (s:Nk K K'){z:Value}:∀{tbl:List (Str×Bool)},tbB K z tbl=true->TbOk K' z tbl
 | [],_=>.nil
 | (x,b)::tbl,e=>by
  obtain⟨e1,e2⟩:=Bool.and_eq_true_iff.mp e;obtain⟨C,n,q⟩:=Wg s e1;obtain⟨q1,q2⟩:=Bool.and_eq_true_iff.mp q;exact .cons n (Bk6 s q1) (A1z s (beq_iff_eq.mp q2)) (Al6 s e2)
theorem A3z (s:Nk K K'){F:Addr}:∀{NS:List Str},exB K F NS=true->ExOk K' F NS
 | [],_=>.nil
 | x::NS,e=>by
  obtain⟨e1,e2⟩:=Bool.and_eq_true_iff.mp e;obtain⟨C,n,q⟩:=Wg s e1;exact .cons n (A0h s (beq_iff_eq.mp q)) (A3z s e2)
def A1d (R:List Str)(T:List (Str×List (Str×Bool)))(V:List (Str×Bool))(F:List Str)(h:Heap):Prop:=∃K:Frag,cfB R T V F K=true/\∀a o,K.lookup a=some o->h.get? a=some o/\Bx0 o=true
variable {R:List Str}{T:List (Str×List (Str×Bool))}{V:List (Str×Bool)}{F:List Str}{h h':Heap}{mg:Str->Option Value}
theorem B0w {l:List Nat}(e:cfB R T V F (Bb9 l h)=true):A1d R T V F h:=⟨Bb9 l h,e,fun a o q=>by
 unfold Bb9 at q;rw[Nu]at q
 split at q
 ·obtain⟨o',h1,h2⟩:=Option.bind_eq_some_iff.mp q
  split at h2
  ·cases h2;exact⟨h1,by assumption⟩
  ·cases h2
 ·cases q⟩
theorem A3b (x:A1d R T V F h)(hk:∀b o,h.get? b=some o->h'.get? b=some o):A1d R T V F h' :=
 let ⟨K,e,q⟩:=x; ⟨K,e,fun a o z=>⟨hk _ _ (q a o z).1,(q a o z).2⟩⟩
theorem Bg4 (x:A1d R T V F h)(kin:K.In h)(G:h.Ns mainGlobals mg)(hK:∀a o,h.get? a=some o->Hj o=true->o.data≠.fields #[]->K.lookup a=some o) :
 (∀(i:Nat) (x:Str),R[i]?=some x->ClR K mg x)/\(∀(i:Nat) (q:Str×List (Str×Bool)),T[i]?=some q->ClT K mg q.2 q.1)/\TbOk K (.type "ValueError") V/\∀(i:Nat) (x:Str),F[i]?=some x->ClF K mg R x:=by
 obtain⟨K0,e,q⟩:=x
 have s:Nk K0 K:=fun a o z=>by
  obtain⟨q1,q2⟩:=q a o z;unfold Bx0 at q2
  refine hK a o q1 ?_ ?_
  ·unfold Hj;split at q2 <;> simp_all
  ·intro y;rw[y]at q2;cases q2
 obtain⟨e1,e2⟩:=Bool.and_eq_true_iff.mp e;obtain⟨e2,e3⟩:=Bool.and_eq_true_iff.mp e2;obtain⟨e3,e4⟩:=Bool.and_eq_true_iff.mp e3
 refine⟨fun i x m=>?_,fun i p m=>?_,Al6 s e3,fun i x m=>?_⟩
 ·obtain⟨C,n,z⟩:=Wg s (List.all_eq_true.mp e1 x (List.mem_of_getElem? m))
  exact⟨C,mg_of kin G n,n,Ad9 s z⟩
 ·obtain⟨C,n,z⟩:=Wg s (List.all_eq_true.mp e2 p (List.mem_of_getElem? m))
  exact⟨C,mg_of kin G n,Al6 s z⟩
 ·obtain⟨C,n,z⟩:=Wg s (List.all_eq_true.mp e4 x (List.mem_of_getElem? m))
  exact⟨C,mg_of kin G n,A3z s z⟩
end
section
variable {X:Cx}{k k1 k2 k':Nat}{ps ps1 ps2:List Str}{sp sp1 sp2:Sp}{x x1 x2 y n v:Str}{p p1 p2 pos epos cpos cpos1 cpos2 ipos yp hpos vp:Pos}{e e1 e2 ec:Expr}{es es1 es2:List Expr}{t t1 t2:TA}{tc:TT}{Fc:Addr}{b₀:Stmt}{suite:List Stmt}{th:TS}{j i:Nat}
def PX (X:Cx)(e:Expr)(t:St->Hp->VK->XK->Prop):Prop :=
 ∀(pins:List (Addr×Obj)) (s:Shared) (σ:St) (H:Hp) (Q:VK) (E:XK),Inv X pins σ H s->t σ H Q E->wpAny (model X.prog X.w) X.A (eval e X.env) (EP X pins σ Q) (fun ev s'=>∃H1 s1,Inv X pins σ H1 s1/\CXe X.prog X.w X.stack H1 s1 E ev s') s
theorem Au1 (D:U.DefX X.prog X.w X.K X.mg X.base x k ps sp)(hr:Room k' X.A)(h:k<=k')(hg:Gl X x)(hx0:∀e s,¬ X.xe e s)(ha:PA X (e::es) t)(hdb:(x==("__debug__" : Str))=false:=by decide)
 (he:starEach (e::es) X.env=(false,eval e X.env)::starEach es X.env:=by rfl) (hpl:(backTo pos (starEach es X.env)).any (·.1)=false:=by rfl):PX X (.Call (.Name x p) (e::es) [] pos) (fun σ H Q E=>t σ H fun vs H1=>sp vs H1 Q E):=by
 obtain⟨f,fd,G,b,kp,m⟩:=D;intro pins s σ H Q E I q
 exact A5s (ds:=[]) (dvs:=[]) G (hr.mono h) hg m kp b .nil hx0 ha I (by simpa only[List.append_nil] using q) hdb he hpl
theorem Bz0 {te1 te2:St->Hp->VK->XK->Prop}(hx0:∀e s,¬ X.xe e s)(hc:PT X ec tc)(h1:PX X e1 te1)(h2:PX X e2 te2):PX X (.IfExp ec e1 e2 ipos) (fun σ H Q E=>tc σ H fun b H1=>if b=true then te1 σ H1 Q E else te2 σ H1 Q E):=by
 intro pins s σ H Q E I q
 refine wpAny_IfExp (wpAny_mono (hc pins s σ H _ I q) (fun d s1 ⟨H1,I1,q1⟩=>?_) fun ev s2 z=>absurd z (hx0 ev s2))
 cases d with
 | true=>exact h1 pins s1 σ H1 Q E I1 q1
 | false=>exact h2 pins s1 σ H1 Q E I1 q1
theorem Ba4 {te:St->Hp->VK->XK->Prop}(hp:PX X e te)
 (hx0:X.ex=[]) (hs:X.stack=X.env::X.outer/\X.env.frame=some X.env.locals) (hN:X.N.Nodup) (hi:X.N[i]?=some v) (hv:Loc X.env.scope v) (hj:X.N[j]?=some n) (hlo:X.env.scope.names.lookup n=some .local) (hg:Gl X y) (hm:X.mg y=some (.ref Fc)) (hsu:∀a,PSs (Sy X a) (b₀::suite) th)
 (hsw:swapsWith e (some (.Name v vp)) epos.line X.env=pure false) (hd2:(y==("__debug__" : Str))=false) (hf:X.fn v=true\/X.env.scope.names.lookup v=some .local) :
 PS X (.Try [.Assign [.Name v vp] e epos] [.ExceptHandler (some (.Name y yp)) (some n) (b₀::suite) hpos] [] [] pos) (fun D σ H=>te σ H (fun u H2=>D.nx (σ.set i (some u)) H2)
  (fun c _ H2=>∃C,c=.ref C/\exmOne X.K c (.ref Fc)=some true/\∀a,H2 a=none->th { nx:=fun σ2 H3=>D.nx (σ2.set j none) H3,rt:=D.rt } (σ.set j (some (.ref a))) (upd H2 a (Kr a C)))):=by
 intro pins s σ H D I h
 refine wpAny_Try_except (wpAny_execs_cons (wpAny_Assign_Name ?_ hsw))
 refine wpAny_mono (hp pins s σ H _ _ I h) (fun u s1 ⟨v1,H1,I1,r1,q1⟩=>?_) (fun ev s' ⟨H1,s1,I1,cx⟩=>?_)
 ·exact Hk I1 hN hi hv r1 (fun s2 I2=>wpAny_execs_nil (wpAny_execs_nil ⟨_,H1,I2,q1⟩)) hf
 ·exact A2q hx0 hs hN hj hlo hg hm hsu I1 cx (fun C H2 ⟨C',e1,e2,e3⟩=>by cases e1;exact⟨e2,e3⟩) hd2
theorem A8g {Kq:PySem.W.Frag}(hKq:X.K=Kq)(hr:Room k' X.A)(hxe:∀e s,¬ X.xe e s)(hc:QT X ec tc)(D1:U.DefX X.prog X.w X.K X.mg X.base x1 k1 ps1 sp1)(ha1:QA X (e1::es1) t1)(D2:U.DefX X.prog X.w X.K X.mg X.base x2 k2 ps2 sp2)(ha2:QA X (e2::es2) t2)
 (hx0:X.ex=[]) (hs:X.stack=X.env::X.outer/\X.env.frame=some X.env.locals) (hN:X.N.Nodup) (hi:X.N[i]?=some v) (hv:Loc X.env.scope v) (hj:X.N[j]?=some n) (hlo:X.env.scope.names.lookup n=some .local) (hg:Gl X y) (hm:X.mg y=some (.ref Fc)) (hsu:∀a,QSs (Sy X a) (b₀::suite) th)
 (h1:k1<=k':=by omega) (h2:k2<=k':=by omega) (hg1:Gl X x1:=by rfl) (hg2:Gl X x2:=by rfl)
 (hd1:(x1==("__debug__" : Str))=false:=by decide) (hd2:(x2==("__debug__" : Str))=false:=by decide) (hd3:(y==("__debug__" : Str))=false:=by decide)
 (he1:starEach (e1::es1) X.env=(false,eval e1 X.env)::starEach es1 X.env:=by rfl) (hpl1:(backTo cpos1 (starEach es1 X.env)).any (·.1)=false:=by rfl)
 (he2:starEach (e2::es2) X.env=(false,eval e2 X.env)::starEach es2 X.env:=by rfl) (hpl2:(backTo cpos2 (starEach es2 X.env)).any (·.1)=false:=by rfl)
 (hsw:swapsWith (.IfExp ec (.Call (.Name x1 p1) (e1::es1) [] cpos1) (.Call (.Name x2 p2) (e2::es2) [] cpos2) ipos) (some (.Name v vp)) epos.line X.env=pure false:=by rfl) (hf:X.fn v=true\/X.env.scope.names.lookup v=some .local:=by first | exact .inl rfl | exact .inr rfl | assumption) :
 QS X (.Try [.Assign [.Name v vp] (.IfExp ec (.Call (.Name x1 p1) (e1::es1) [] cpos1) (.Call (.Name x2 p2) (e2::es2) [] cpos2) ipos) epos] [.ExceptHandler (some (.Name y yp)) (some n) (b₀::suite) hpos] [] [] pos)
  (A8b tc (Bo5 Kq Fc j sp1 t1 (some i) th) (Bo5 Kq Fc j sp2 t2 (some i) th)):=by
 subst hKq
 exact⟨Ba4 (Bz0 hxe hc.get (Au1 D1 hr h1 hg1 hxe ha1.get hd1 he1 hpl1) (Au1 D2 hr h2 hg2 hxe ha2.get hd2 he2 hpl2)) hx0 hs hN hi hv hj hlo hg hm (fun a=>(hsu a).get) hsw hd3 hf⟩
end
def Xo (A:Around):Around:={ A with handled:=none }
def Cx.wild (X:Cx):Cx:={ X with calm:=false,xe:=fun _ _=>False }
structure FnM (P:Program) (w:World) (K:PySem.W.Frag) (mg:Str->Option Value) (base:Heap) (k:Nat) (f:Addr) (fd:FuncData) (ps:List Str) (sp:Sp):Prop where
 len:∀vs H Q E,sp vs H Q E->vs.length=ps.length
 run:∀(A:Around) (outer:List Env) (s:Shared) (H:Hp) (args:Args) (us:List Value) (vs:List V) (Q:VK) (E:XK),Room k (Xo A)->Env0 P w K mg base A outer s H->BindsTo s fd args (ps.zip us)->Vals vs us->sp vs H Q E ->
  codeAny (model P w) A (.call (.ref f) args) (CR CX0 outer P w H s Q E) s
section
variable {P:Program}{w:World}{K:PySem.W.Frag}{mg:Str->Option Value}{base:Heap}
theorem Fun.okM {x qual:Str}{st:Stmt}{f:Addr}{fd:FuncData}{N ps:List Str}{k:Nat}{sp:Sp}(F:Fun K x qual st f fd)(S:Bk N ps (Aq st))(len:∀vs H Q E,sp vs H Q E->vs.length=ps.length)
 (hbody:∀(cdv:Value) (A:Around) (outer:List Env) (s:Shared) (H:Hp) (vs:List V) (Q:VK) (E:XK),Room k (Xo (A.deeper (envOfC qual (Aq st) s.heap.objs.size f cdv)))->sp vs H Q E ->
  ∃t,PSs (Mx CX0 P w K mg base N qual (Aq st) f cdv A outer s H E).wild (Hc st) t/\t { nx:=fun _ H'=>Q .non H',rt:=Q } (start N vs) H):FnM P w K mg base (k+1) f fd ps sp:=by
 obtain⟨oc,od,kV,doc,pm,an,cdv,ct,osl,rfl,lk,hcd⟩:=F.ex
 refine⟨len,fun A outer s H args us vs Q E hr e0 hb r hsp=>?_⟩
 have hl:=len _ _ _ _ hsp
 have KX:K.In s.heap:=e0.mod.kin.keeps fun b o e=>(e0.bs b o e).1
 have lim:s.heap.NoLimit:=e0.mod.nolimit.keeps fun b o e=>(e0.bs b o e).1
 have hkind:∀y∈ps.zip us,(Aq st).names.lookup y.1=some .local\/((Aq st).names.lookup y.1=some .cell/\((cellsFrom (s.heap.objs.size+1) (Aq st).names []).lookup y.1).isSome=true):=fun⟨n,v⟩ hy=>by
  rcases S.par n (List.of_mem_zip hy).1 with q | q
  ·exact .inl q
  ·exact .inr ⟨q,PySem.W.cellsFrom_some _ _ _ (.inl q)⟩
 refine codeAny_call_function (show A.depth<recursionLimit from hr.depth) (KX _ _ lk) rfl S.co S.gen rfl (PySem.W.codeRec_of KX hcd) (hb _ _ _ _ ?_)
 refine wpAny_newFunctionEnv_cells S.kind hkind fun env he s1 x=>?_
 subst he
 refine⟨lim.keeps x.toInCall.keep,codeAny_func ?_⟩
 obtain⟨t,ht,hq⟩:=hbody cdv A outer s H vs Q E (hr.deeper _) hsp;have e1:Env0 P w K mg base (Xo A) outer s H:=⟨e0.frames,e0.mod,e0.bs,e0.bsz,e0.funs,e0.frf,e0.tab,e0.hok,e0.bare⟩;have I0:Inv (Mx CX0 P w K mg base N qual (Aq st) f cdv (Xo A) outer s H E) [] (start N vs) H s1:=Yb S hr.hd e1 hl r x
 have I:Inv (Mx CX0 P w K mg base N qual (Aq st) f cdv A outer s H E).wild [] (start N vs) H s1 :=
  ⟨⟨I0.ok.mod,I0.ok.kind,I0.ok.glob,I0.ok.blt,I0.ok.above,I0.ok.inj,I0.ok.has,I0.ok.cab,(fun z=>nomatch z),Around.frames_deeper e0.frames,I0.ok.stk,I0.ok.exf,I0.ok.bs,I0.ok.bsz,I0.ok.noex,I0.ok.exfs,I0.ok.funs,I0.ok.frf,I0.ok.tab⟩,I0.os,I0.bare,I0.base,I0.loc,I0.cell,I0.free,I0.freeC,I0.pin,I0.hok,I0.len⟩
 refine wpAny_mono (ht [] s1 (start N vs) H _ I hq) (fun fl s' hs=>?_) fun e s' hs=>hs.elim
 have fin:∀{σ':St} {H':Hp} {v:V} {u:Value},Inv (Mx CX0 P w K mg base N qual (Aq st) f cdv A outer s H E).wild [] σ' H' s'->RelV v u->Q v H'->CE outer P w H s Q u s' :=
  fun {σ' H' v u} J rv q=>⟨v,H',J.os,J.bare,J.base,J.hok,rv,q⟩
 cases fl with
 | ret u =>
  obtain⟨v,σ',H',J,rv,q⟩:=hs;exact fin J rv q
 | next =>
  obtain⟨σ',H',J,q⟩:=hs;exact fin (v:=V.non) (u:=Value.none) J rfl q
 | brk =>
  obtain⟨_,_,_,q⟩:=hs;exact False.elim q
 | cont =>
  obtain⟨_,_,_,q⟩:=hs;exact False.elim q
end
end L2
namespace U
open PySem L2
def Bl8 (P:Program)(w:World)(K:PySem.W.Frag)(mg:Str->Option Value)(base:Heap)(x:Str)(k:Nat)(ps:List Str)(sp:Sp):Prop :=
 ∃(f:Addr) (fd:FuncData),FnM P w K mg base k f fd ps sp/\Binds K fd ps []/\PySem.W.keepIn K (.ref f)=true/\mg x=some (.ref f)
theorem Bz8 {X:Cx}{x:Str}{k k':Nat}{ps:List Str}{sp:Sp}{e:Expr}{es:List Expr}{t:TA}{p pos:Pos}(D:Bl8 X.prog X.w X.K X.mg X.base x k ps sp)(hr:Room k' (Xo X.A))(ha:QA X (e::es) t)(h:k<=k':=by omega)(hg:Gl X x:=by rfl)
 (hdb:(x==("__debug__" : Str))=false:=by decide) (hn:noStar (e::es)=true:=by rfl):QE X (.Call (.Name x p) (e::es) [] pos) (Mg sp [] E0 t):=by
 obtain⟨f,fd,G,b,kp,m⟩:=D
 refine⟨fun pins s σ H Q I h0=>?_⟩
 refine wpAny_Call_Name_kw (Lb I hg m ?_ hdb)
 refine PySem.W.callWith_K (h₀:=X.base) I.ok.mod.kin kp (thn (ha.get pos pins s σ H _ I h0) fun us s1 ⟨vs,H1,I1,r,q⟩=>⟨I1.kIn,?_⟩) (Ge (Ft hn).1) (Jj (Ft hn).2)
 have r2:Vals (vs++[]) (us++[]):=r.append .nil
 have hl:(us++[]).length=ps.length:=by rw[<- r2.length];exact G.len _ _ _ _ q
 refine wpAny_call (codeAny_mono (G.run X.A X.stack s1 H1 ⟨us,[]⟩ (us++[]) (vs++[]) Q E0 (hr.mono h) I1.env0 (b s1 us I1.kIn hl) r2 q) fun r s' hq=>?_)
 cases r with
 | error e=>exact hq.elim
 | ok fl =>
  cases fl with
  | ret u=>exact I1.after hq
  | next=>exact False.elim hq
  | brk=>exact False.elim hq
  | cont=>exact False.elim hq
end U
namespace L2
open PySem PySem.Spec PyProof.Rows PySem.W
def Ab3 (K:PySem.W.Frag):List V->Hp->VK->Prop:=fun xs H Q=>∃(a C p:Addr) (cs:List Addr) (b:Bool),xs=[.ref a,.ref p]/\H a=some (Kr a C)/\Rm K C/\H p=some (.tup (cs.map V.ref))/\kitAny K (.ref C) (cs.map Value.ref)=some b/\Q (.bl b) H
theorem Yd:∀{cs:List Addr}{us:List Value},Vals (cs.map V.ref) us->us=cs.map Value.ref
 | [],us,h=>by cases h;rfl
 | c::cs,us,h=>by
  cases h with
  | cons r t=>rw[Yd t,show _=Value.ref c from r];rfl
section
variable {X:Cx}
theorem Ap4:zB X (.builtin "isinstance") (Ab3 X.K):=by
 intro pins s σ H xs us Q I r h;obtain⟨a,C,p,cs,b,rfl,ha,Z,hp,ek,q⟩:=h;obtain⟨u1,u2,rfl,r1,r2⟩:=vals2 r
 cases (show u1=Value.ref a from r1)
 cases (show u2=Value.ref p from r2)
 have ho:z9 X.prog X.w H s.heap a (Kr a C):=I.hok a _ ha;obtain⟨_,its,rt,o,hq,hc,⟨n,hd⟩,_⟩:=I.hok p _ hp
 cases Yd rt
 obtain⟨cls,dd,data,sl⟩:=o;simp only at hc hd;subst hc hd
 exact kia_tup (Ai6 Z) I.kIn ho.1 hq ek (fun z=>nomatch z) fun tk=>⟨.bl b,H,I.tok _,rfl,q⟩
theorem A3l {e:Expr}{es:List Expr}{t:TA}{p pos:Pos}{Kq:PySem.W.Frag}(hKq:X.K=Kq)(hgl:Gl X "isinstance") (hm:X.mg "isinstance" = none) (ha:QA X (e::es) t) (hn:noStar (e::es)=true:=by rfl):QE X (.Call (.Name "isinstance" p) (e::es) [] pos) (tCB (Ab3 Kq) t):=by
 subst hKq
 exact⟨Fy Ap4 hgl hm Hy ha.get (by decide) (by decide) hn⟩
end
def Ah4 (K:PySem.W.Frag)(gs:List Addr)(tbl:List (Str×Bool)):Prop:=∀nm b,tbl.lookup nm=some b->∀C,PySem.W.nsIn K mainGlobals nm=some (some (.ref C))->Rm K C/\kitAny K (.ref C) (gs.map Value.ref)=some b
theorem Bg2 {K:PySem.W.Frag}{g:Addr}{tbl:List (Str×Bool)}(h:TbOk K (.ref g) tbl):Ah4 K [g] tbl:=fun nm b e C hn=>by
 obtain⟨x,k⟩:=h nm b e C hn
 refine⟨x,?_⟩
 show (match kitOne K (.ref C) (.ref g) with
  | some true=>some true
  | some false=>some false
  | none=>none)=some b
 rw[k];cases b <;> rfl
def orT:List (Str×Bool)->List (Str×Bool)->List (Str×Bool)
 | (n,b)::r,(_,c)::s=>(n,b||c)::orT r s
 | _,_=>[]
theorem Ah3:∀{t u:List (Str×Bool)}{nm:Str}{b:Bool},t.map (·.1)=u.map (·.1)->(orT t u).lookup nm=some b->∃x y,t.lookup nm=some x/\u.lookup nm=some y/\b=(x||y)
 | [],_,nm,b,_,e=>by cases e
 | _::_,[],nm,b,_,e=>by cases e
 | (n,x)::t,(m,y)::u,nm,b,h,e=>by
  rw[List.map_cons,List.map_cons]at h;obtain⟨h1,h2⟩:=List.cons.inj h
  cases (show n=m from h1)
  rw[List.lookup_cons,List.lookup_cons]
  rw[show orT ((n,x)::t) ((n,y)::u)=(n,x||y)::orT t u from rfl,List.lookup_cons]at e
  cases q:nm==n with
  | true=>rw[q]at e;cases e;exact⟨x,y,rfl,rfl,rfl⟩
  | false=>rw[q]at e;exact Ah3 h2 e
theorem Vn {K:PySem.W.Frag}{g:Addr}{gs:List Addr}{t u:List (Str×Bool)}(h:TbOk K (.ref g) t)(hs:Ah4 K gs u)(e:t.map (·.1)=u.map (·.1)):Ah4 K (g::gs) (orT t u):=fun nm b el C hn=>by
 obtain⟨x,y,e1,e2,rfl⟩:=Ah3 e el;obtain⟨x1,k⟩:=h nm x e1 C hn;obtain⟨_,k2⟩:=hs nm y e2 C hn
 refine⟨x1,?_⟩
 show (match kitOne K (.ref C) (.ref g) with
  | some true=>some true
  | some false=>kitAny K (.ref C) (gs.map Value.ref)
  | none=>none)=_
 rw[k]
 cases x
 ·exact k2
 ·rfl
end L2
namespace U
open PySem L2 PySem.W
variable {K:PySem.W.Frag}
def tCs:List Addr->TA
 | []=>G6
 | g::gs=>Dh (tC (.ref g)) (tCs gs)
theorem A4m {σ:St}:∀{gs:List Addr}{H:Hp}{k:List V->Hp->Prop},k (gs.map V.ref) H->tCs gs σ H k
 | [],_,_,h=>h
 | g::gs,H,k,h=>A4m (gs:=gs) (k:=fun vs H1=>k (V.ref g::vs) H1) h
theorem A8l {te:TE}{f:Ev->R PV}{gs:List Addr}{tbl:List (Str×Bool)}(ht:Ah4 K gs tbl)(h:ME K te f)(hl:gs.length<=1000:=by simp) :
 ME K (tCB (Ab3 K) (Dh te (Dh (A5c (tCs gs)) G6))) (Mz tbl f):=by
 intro β W c σ Q R s
 refine h β W c σ _ R ((s.bnd).mono fun p c1 s1 v1 W1 fp1 st1 R1 r1=>?_)
 cases ed:rdP c1 p with
 | none=>simp only[ed]at s1;exact s1.elim
 | some o =>
  simp only[ed]at s1
  match o,ed,s1 with
  | .ty (.xc nm),ed,s1 =>
   cases el:tbl.lookup nm with
   | none=>simp only[el]at s1;exact s1.elim
   | some b =>
    simp only[el]at s1;obtain⟨a,C,e,hn,hf⟩:=Bk2 R1 r1 ed;subst e;obtain⟨x1,x2⟩:=ht nm b el C hn
    refine A4m ⟨by rw[List.length_map];exact Nat.le_trans hl (by decide),fun q hq=>?_⟩
    have sn:Same W1.H (upd W1.H q (.tup (gs.map V.ref))):=fun b u e=>Cw hq b u e
    refine⟨a,C,q,gs,b,rfl,sn _ _ (R1.sub _ _ hf),x1,Ca,x2,?_⟩
    have R2:Rep K β ⟨W1.Hf,upd W1.H q (.tup (gs.map V.ref)),W1.fps⟩ c1 σ:=Stp.rep (S':=fun _=>False) R1 (Xh sn) fun a o e=>sn a o (R1.sub a o e)
    exact s1 (.bl b) ⟨W1.Hf,upd W1.H q (.tup (gs.map V.ref)),W1.fps⟩ [] ((st1.trans (Xh sn)).less fun a z=>by
     rcases z with z | z
     ·exact .inl z
     ·cases z) R2 ⟨⟨rfl,rfl⟩,fun a z=>nomatch z⟩
  | .ty (.nm _),ed,s1=>exact s1.elim
  | .ty (.tc _),ed,s1=>exact s1.elim
  | .ty (.dc _ _),ed,s1=>exact s1.elim
  | .ty (.dt _ _),ed,s1=>exact s1.elim
  | .ty (.ds _ _),ed,s1=>exact s1.elim
  | .ty (.td _ _ _),ed,s1=>exact s1.elim
  | .im _,ed,s1=>exact s1.elim
  | .ls _ _,ed,s1=>exact s1.elim
  | .sc _,ed,s1=>exact s1.elim
end U
namespace L2
open PySem
theorem Room.again {k:Nat}{A:Around}{a:Option Value}(r:Room k A):Room k (Xo (A.mark a)):=⟨rfl,r.dp,r.un,r.gd⟩
end L2
namespace U
open PySem L2 PySem.W
section
variable {K:PySem.W.Frag}{E:XK}
theorem Yg {F:List PyData->XF}{t:TA}{fa:Ev->R (List PV)}(ha:MA K t fa):ME K (Mg (spX K F) [] E t) (cFY F fa):=by
 intro β W c σ Q R s
 show t σ W.H fun vs H1=>spX K F (vs++[]) H1 Q E
 simp only[List.append_nil]
 refine ha β W c σ _ R (s.bnd.mono fun ps c1 s1 vs W1 st R1 r1=>?_)
 cases ea:Sv c1 ps with
 | none=>simp only[ea]at s1;exact s1.elim
 | some ds =>
  simp only[ea]at s1
  refine⟨W1.Hf,ds,R1.sub,Qn R1 r1 ea,?_⟩
  split at s1
  ·rename_i d ef
   rw[ef];intro v Hf' H' fp s2 sub r;obtain⟨rfl,tv⟩:=r
   have s2:Stp (fun _=>False) W1.Hf W1.H (fun _=>False) Hf' H':=s2.less fun a z=>nomatch z
   exact s1 v ⟨Hf',H',W1.fps⟩ [] ((st.trans ⟨s2.fz,fun a o e _=>s2.kp a o e fun z=>z,fun a o e mu _ q=>s2.nf a o e mu (fun z=>z) q,fun a z=>.inl z⟩).less fun a z=>Yy z) (Stp.rep R1 s2 sub) ⟨⟨rfl,tv⟩,fun a z=>nomatch z⟩
  ·exact s1.elim
def V6 (F:List PyData->XF)(fa:Ev->R (List PV))(vs:List Nat)(f:Ev->SR):Ev->XS:=fun c=>match fa c with
 | .bad=>.s .bad
 | .ok ps c1=>match Sv c1 ps with
  | none=>.s .bad
  | some ds=>match F ds with
   | .ex nm=>if vs.all (fun i=>match c[i]? with | some (some _)=>true | _=>false) then .ex nm c1 else .s .bad
   | _=>.s (f c)
theorem Ai7 {F:List PyData->XF}{t:TA}{fa:Ev->R (List PV)}{vs:List Nat}{T:TS}{f:Ev->SR}(ha:MA K t fa)(hm:MS K T f)
 (hx:∀(σ:St) (H:Hp) (D:Ends),(∀i∈vs,∃v,σ[i]?=some (some v))->(∀Q,Mg (spX K F) [] E t σ H Q)->T D σ H):MX K E T (V6 F fa vs f):=by
 intro β W c σ D R l;unfold V6 at l
 cases e:fa c with
 | bad=>rw[e]at l;exact l.elim
 | ok ps c1 =>
 rw[e]at l
 cases ea:Sv c1 ps with
 | none=>simp only[ea]at l;exact l.elim
 | some ds =>
 simp only[ea]at l
 cases ef:F ds with
 | bad=>simp only[ef]at l;exact hm β W c σ D R l
 | ret o=>simp only[ef]at l;exact hm β W c σ D R l
 | ex nm =>
  simp only[ef]at l
  split at l
  ·rename_i hv
   refine hx σ W.H D (fun i hi=>?_) fun Q=>?_
   ·have:=List.all_eq_true.mp hv i hi
    split at this
    ·rename_i o ho
     obtain⟨v,h1,_⟩:=R.get i o ho;exact⟨v,h1⟩
    ·cases this
   ·have l':LeadX K β W D E (Tc F fa (fun _ _=>.s .bad) (fun n c=>.ex n c) c):=by
     unfold Tc;rw[e];simp only[ea,ef];exact l
    have:=Ag3 (Q:=Q) (E':=E) ha R l' (fun _ _ _ _ _ _ z _=>z.elim) (fun n c1 W2 C st R2 lk hn=>lk C σ W2 hn st R2)
    show t σ W.H fun vs H1=>spX K F (vs++[]) H1 Q E
    simp only[List.append_nil];exact this
  ·exact l.elim
end
theorem Bj0 {X:Cx}{x:Str}{k k':Nat}{ps:List Str}{sp:Sp}{E:XK}{e:Expr}{es:List Expr}{t:TA}{p pos:Pos}(hx:M6 (CXe X.prog X.w) X E)(D:DefX X.prog X.w X.K X.mg X.base x k ps sp)(hr:Room k' X.A)(ha:QA X (e::es) t)(h:k<=k':=by omega)(hg:Gl X x:=by rfl)
 (hdb:(x==("__debug__" : Str))=false:=by decide) (hn:noStar (e::es)=true:=by rfl):QE X (.Call (.Name x p) (e::es) [] pos) (Mg sp [] E t):=by
 obtain⟨f,fd,G,b,kp,m⟩:=D;exact U9 G (hr.mono h) hg m kp b .nil hx ha hdb hn
end U
namespace PS
open PySem PySem.W PyProof.Rows L2
theorem Kc {α β:Type}{B:Nat->Nat->Option Bool}{f:α->KasT β}:∀t:KasT α,kEv B (t.bind f)=(kEv B t).bind fun a=>kEv B (f a)
 | .ret a=>rfl
 | .ask i j k=>by
  show (B i j).bind (fun b=>kEv B ((k b).bind f))=((B i j).bind fun b=>kEv B (k b)).bind fun a=>kEv B (f a)
  rw[Option.bind_assoc]
  congr 1;funext b
  exact Kc (k b)
structure Ord (lt:Nat->Nat->Bool):Prop where
 irr:∀a,lt a a=false
 tr:∀a b c,lt a b=true->lt b c=true->lt a c=true
 neg:∀a b c,lt a c=true->lt a b=true\/lt b c=true
def Rr (lt:Nat->Nat->Bool)(x y:Nat):Prop:=lt x y=true\/(lt y x=false/\x<y)
section
variable {lt:Nat->Nat->Bool}{B:Nat->Nat->Option Bool}{n:Nat}{p:Array Nat}
theorem Ord.no (O:Ord lt)  (h:lt a b=true):lt b a=false:=by
 cases e:lt b a with
 | false=>rfl
 | true=>have:=O.tr _ _ _ h e;rw[O.irr]at this;trivial
theorem Rr.trans (O:Ord lt)  (h:Rr lt a b) (k:Rr lt b c):Rr lt a c:=by
 rcases h with h | ⟨h,f⟩
 ·rcases k with k | ⟨k,d⟩
  ·exact .inl (O.tr _ _ _ h k)
  ·rcases O.neg _ c _ h with z | z
   ·exact .inl z
   simp_all
 ·rcases k with k | ⟨k,d⟩
  ·rcases O.neg _ a _ k with z | z
   ·simp_all
   ·exact .inl z
  ·refine .inr ⟨?_,by omega⟩
   cases e:lt c a with
   | false=>rfl
   | true =>
    rcases O.neg _ b _ e with z | z
    ·simp_all
    simp_all
def Eq' (lt:Nat->Nat->Bool)(x y:Nat):Prop:=lt x y=false/\lt y x=false
theorem Eq'.lt_of (O:Ord lt)  (h:Eq' lt a b) (k:lt b c=true):lt a c=true:=by
 rcases O.neg _ a _ k with z | z
 ·rw[h.2]at z;grind
 trivial
theorem Eq'.lt_to (O:Ord lt)  (h:Eq' lt a b) (k:lt c b=true):lt c a=true:=by
 rcases O.neg _ a _ k with z | z
 ·grind
 ·rw[h.1]at z;grind
theorem Eq'.trans (O:Ord lt)  (h:Eq' lt a b) (k:Eq' lt b c):Eq' lt a c:=by
 refine⟨?_,?_⟩
 ·cases e:lt a c with
  | false=>rfl
  | true=>
   rcases O.neg _ b _ e with z | z
   ·rw[h.1]at z;grind
   ·rw[k.1]at z;grind
 ·cases e:lt c a with
  | false=>rfl
  | true=>
   rcases O.neg _ b _ e with z | z
   ·rw[k.2]at z;grind
   ·rw[h.2]at z;grind
theorem gD (p:Array Nat)(k:Nat):p.getD k 0=(p[k]?).getD 0:=by
 simp_all
theorem J4  (hj:j<=p.size) (k:Nat):(kas_rev p i j).getD k 0=if i<=k/\k<j then p.getD (i+j-1-k) 0 else p.getD k 0:=by
 rw[gD,gD,gD,kas_rev,getElem?_mirror_all hj]
 grind
theorem Bu9  (hs:src<p.size) (hd:d<=src) (k:Nat):(bubble p src d).getD k 0=if k=src-d then p.getD src 0 else if src-d<k/\k<=src then p.getD (k-1) 0 else p.getD k 0:=by
 rw[gD,gD,gD,gD,getElem?_bubble hs d hd]
 grind
structure Fx (n:Nat) (p:Array Nat) (k:Nat):Prop where
 sz:p.size=n
 lo:∀i,i<k->p.getD i 0<k
 hi:∀i,k<=i->i<n->p.getD i 0=i
theorem Fx.rev  (F:Fx n p k) (hj:j<=k) (hk:k<=n):Fx n (kas_rev p i j) k:=by
 have b:j<=p.size:=by rw[F.sz];omega
 refine⟨(mirror_size _ _ _ _).trans F.sz,fun a d=>?_,fun a e c=>?_⟩
 ·rw[J4 b]
  split
  ·exact F.lo _ (by omega)
  ·exact F.lo _ d
 ·rw[J4 b,if_neg (by omega)]
  exact F.hi a e c
theorem Fx.up  (F:Fx n p k) (hk:k<n):Fx n p (k+1):=by
 refine⟨F.sz,fun i b=>?_,fun i c a=>F.hi i (by omega) a⟩
 rcases Nat.lt_or_ge i k with h | h
 ·have:=F.lo i h;omega
 ·rw[show i=k by omega,F.hi k (Nat.le_refl _) hk];omega
theorem Fx.bound  (F:Fx n p k) (hk:k<=n) (hi:i<n):p.getD i 0<n:=by
 rcases Nat.lt_or_ge i k with h | h
 ·have:=F.lo i h;omega
 ·rw[F.hi i h hi];omega
def So (lt:Nat->Nat->Bool)(p:Array Nat)(k:Nat):Prop:=∀i j,i<j->j<k->Rr lt (p.getD i 0) (p.getD j 0)
theorem So.up (O:Ord lt)  (S:So lt p k) (F:Fx n p k) (hk:k<n) (d:0<k) (h:lt (p.getD k 0) (p.getD (k-1) 0)=false):So lt p (k+1):=by
 have a:Rr _ _ _:=.inr ⟨h,by rw[F.hi k (Nat.le_refl _) hk];exact F.lo _ (by omega)⟩
 intro i j b c
 rcases Nat.lt_or_ge j k with z | z
 ·exact S i j b z
 ·have e:j=k:=by omega
  subst e
  rcases Nat.lt_or_ge i _ with y | y
  ·exact(S i _ y (by omega)).trans O a
  grind
theorem As2 (O:Ord lt)(hB:∀i j,i<n->j<n->B i j=some (lt i j)):∀(f k:Nat),0<k->k+f=n->Fx n p k->So lt p k->∃m,kEv B (kas_asc p f k)=some m/\k<=m/\m<=n/\Fx n p m/\So lt p m/\(m<n->lt (p.getD m 0) (p.getD (m-1) 0)=true)
 | 0,k,h0,hk,F,S=>⟨k,rfl,Nat.le_refl _,by omega,F,S,fun z=>by omega⟩
 | f+1,k,h0,hk,F,S=>by
  have e:kEv B (kas_asc p (f+1) k)=kEv B (if lt (p.getD k 0) (p.getD (k-1) 0)=true then .ret k else kas_asc p f (k+1)):=by
   show (B _ _).bind _=_
   rw[hB _ _ (F.bound (by omega) (by omega)) (F.bound (by omega) (by omega))];rfl
  rw[e]
  cases c:lt (p.getD k 0) (p.getD (k-1) 0) with
  | true=>exact⟨k,rfl,Nat.le_refl _,by omega,F,S,fun _=>c⟩
  | false =>
   obtain⟨m,h1,h2,h3⟩:=As2 O hB f (k+1) (by omega) (by omega) (F.up (by omega)) (S.up O F (by omega) h0 c)
   exact⟨m,h1,by omega,h3⟩
structure De (lt:Nat->Nat->Bool) (p:Array Nat) (k q:Nat):Prop where
 hq:q<k
 al:∀i,k-(q+1)<=i->i<k->Eq' lt (p.getD i 0) (p.getD (k-1) 0)
 asc:∀i j,k-(q+1)<=i->i<j->j<k->p.getD i 0<p.getD j 0
 dec:∀i j,i<j->j<k->i<k-(q+1)->Rr lt (p.getD j 0) (p.getD i 0)
 str:∀i j,i<k-(q+1)->k-(q+1)<=j->j<k->lt (p.getD j 0) (p.getD i 0)=true
def Dn (lt:Nat->Nat->Bool)(p:Array Nat)(k:Nat):Prop:=∀i j,i<j->j<k->Rr lt (p.getD j 0) (p.getD i 0)
theorem De.flat  (D:De lt p k 0):Dn lt p k:=fun i j a b=>D.dec i j a b (by omega)
theorem Eq'.symm  (h:Eq' lt a b):Eq' lt b a:=⟨h.2,h.1⟩
theorem Eq'.refl (O:Ord lt)(a:Nat):Eq' lt a a:=⟨O.irr a,O.irr a⟩
theorem Rr.not (O:Ord lt)  (h:Rr lt a b):lt b a=false:=by
 rcases h with h | h
 ·exact O.no h
 grind
theorem De.flush (O:Ord lt)  (D:De lt p k q) (hs:k<=p.size):Dn lt (kas_rev p (k-(q+1)) k) k:=by
 have e:=D.hq;intro i j a b;have d:=J4 (i:=k-(q+1)) hs i;rw[d,(J4 (i:=k-(q+1)) hs j)]
 by_cases hi:k-(q+1)<=i
 ·rw[if_pos (⟨by omega,by omega⟩:k-(q+1)<=i/\i<k),if_pos (⟨by omega,by omega⟩:k-(q+1)<=j/\j<k)]
  have c:=D.al (k-(q+1)+k-1-i) (by omega) (by omega)
  exact .inr ⟨(c.trans O (D.al (k-(q+1)+k-1-j) (by omega) (by omega)).symm).1,D.asc _ _ (by omega) (by omega) (by omega)⟩
 ·rw[if_neg (by omega:¬ (k-(q+1)<=i/\i<k))]
  by_cases hj':k-(q+1)<=j
  ·rw[if_pos (⟨hj',b⟩)]
   exact .inl (D.str i _ (by omega) (by omega) (by omega))
  ·rw[if_neg (by omega)]
   exact D.dec i j a b (by omega)
theorem Dn.next (O:Ord lt)  (D:Dn lt p k) (e:0<k) (h:lt (p.getD k 0) (p.getD (k-1) 0)=true):De lt p (k+1) 0:=by
 have a:∀i,i<k->lt (p.getD k 0) (p.getD i 0)=true:=fun i f=>by
  rcases Nat.lt_or_ge i (k-1) with y | y
  ·rcases D i _ y (by omega) with z | ⟨z,_⟩
   ·exact O.tr _ _ _ h z
   ·rcases O.neg _ _ _ h with x | x
    ·exact x
    ·rw[z]at x;cases x
  ·rw[show i=k-1 by omega];exact h
 refine⟨by omega,fun i b c=>?_,fun i j b c d=>by omega,fun i j b c d=>?_,fun i j b c d=>?_⟩
 ·rw[show i=k+1-1 by omega];exact Eq'.refl O _
 ·rcases Nat.lt_or_ge j k with z | z
  ·exact D i j b z
  ·rw[show j=k by omega];exact .inl (a i (by omega))
 ·rw[show j=k by omega];exact a i (by omega)
theorem De.more (O:Ord lt)  (D:De lt p k q) (F:Fx n p k) (hk:k<n) (h1:lt (p.getD k 0) (p.getD (k-1) 0)=false) (h2:lt (p.getD (k-1) 0) (p.getD k 0)=false):De lt p (k+1) (q+1):=by
 have d:=D.hq;have e:Eq' lt (p.getD (k-1) 0) (p.getD k 0):=⟨h2,h1⟩
 refine⟨by omega,fun i b a=>?_,fun i j b a c=>?_,fun i j b a c=>?_,fun i j b a c=>?_⟩
 ·show Eq' lt (p.getD i 0) (p.getD k 0)
  rcases Nat.lt_or_ge i k with z | z
  ·exact(D.al i (by omega) z).trans O e
  ·rw[show i=k by omega];exact Eq'.refl O _
 ·rcases Nat.lt_or_ge j k with z | z
  ·exact D.asc i j (by omega) a z
  ·rw[show j=k by omega,F.hi k (Nat.le_refl _) hk];exact F.lo i (by omega)
 ·rcases Nat.lt_or_ge j k with z | z
  ·exact D.dec i j b z (by omega)
  ·rw[show j=k by omega]
   exact .inl (e.symm.lt_of O (D.str i _ (by omega) (by omega) (by omega)))
 ·rcases Nat.lt_or_ge j k with z | z
  ·exact D.str i j (by omega) (by omega) z
  ·rw[show j=k by omega]
   exact e.symm.lt_of O (D.str i _ (by omega) (by omega) (by omega))
theorem Ue (O:Ord lt)(hB:∀i j,i<n->j<n->B i j=some (lt i j)):∀(f:Nat) (p:Array Nat) (k q:Nat),k+f=n->Fx n p k->De lt p k q ->
 ∃p' m q',kEv B (kas_desc f p k q)=some (p',m,q')/\0<m/\m<=n/\Fx n p' m/\De lt p' m q'/\p'.Perm p
 | 0,p,k,q,hk,F,D=>⟨p,k,q,rfl,by have:=D.hq;omega,by omega,F,D,Array.Perm.refl _⟩
 | f+1,p,k,q,hk,F,D=>by
  have hq:=D.hq
  have hkn:k<n:=by omega
  have b1:=F.bound (i:=k) (by omega) (by omega)
  have b2:=F.bound (i:=k-1) (by omega) (by omega)
  have e:kEv B (kas_desc (f+1) p k q)=kEv B (if lt (p.getD k 0) (p.getD (k-1) 0)=true then (if q>0 then kas_desc f (kas_rev p (k-(q+1)) k) (k+1) 0 else kas_desc f p (k+1) 0)
   else .ask (p.getD (k-1) 0) (p.getD k 0) fun d=>if d=true then .ret (p,k,q) else kas_desc f p (k+1) (q+1)):=by
   show (B _ _).bind _=_
   rw[hB _ _ b1 b2];rfl
  rw[e]
  cases c:lt (p.getD k 0) (p.getD (k-1) 0) with
  | true =>
   rw[if_pos rfl]
   by_cases h0:q>0
   ·rw[if_pos h0]
    have hs:k<=p.size:=by rw[F.sz];omega
    have g1:(kas_rev p (k-(q+1)) k).getD k 0=p.getD k 0:=by rw[J4 hs,if_neg (by omega)]
    have g2:(kas_rev p (k-(q+1)) k).getD (k-1) 0=p.getD (k-(q+1)) 0:=by rw[J4 hs,if_pos (by omega)];congr 1;omega
    have D2:=(D.flush O hs).next O (by omega) (by rw[g1,g2];exact(D.al (k-(q+1)) (by omega) (by omega)).lt_to O c)
    obtain⟨p',m,q',a1,a2,a3,a4,a5,a6⟩:=Ue O hB f _ (k+1) 0 (by omega) ((F.rev (by omega) (by omega)).up hkn) D2
    exact⟨p',m,q',a1,a2,a3,a4,a5,a6.trans (mirror_perm _ _ _ _)⟩
   ·rw[if_neg h0]
    have hq0:q=0:=by omega
    subst hq0
    exact Ue O hB f p (k+1) 0 (by omega) (F.up hkn) (D.flat.next O (by omega) c)
  | false =>
   rw[if_neg (by decide)]
   have e2:kEv B (.ask (p.getD (k-1) 0) (p.getD k 0) fun d=>if d=true then .ret (p,k,q) else kas_desc f p (k+1) (q+1))=kEv B (if lt (p.getD (k-1) 0) (p.getD k 0)=true then .ret (p,k,q) else kas_desc f p (k+1) (q+1)):=by
    show (B _ _).bind _=_
    rw[hB _ _ b2 b1];rfl
   rw[e2]
   cases d:lt (p.getD (k-1) 0) (p.getD k 0) with
   | true=>exact⟨p,k,q,rfl,by omega,by omega,F,D,Array.Perm.refl _⟩
   | false=>exact Ue O hB f p (k+1) (q+1) (by omega) (F.up hkn) (D.more O F hkn c d)
theorem Ah9 (O:Ord lt)(hB:∀i j,i<n->j<n->B i j=some (lt i j))  (c:0<k) (hk:k<=n) (F:Fx n p k) (D:Dn lt p k):∃m p',kEv B (kas_tail3 k n p)=some (m,p')/\0<m/\m<=n/\Fx n p' m/\So lt p' m/\p'.Perm p:=by
 have a:k<=p.size:=by rw[F.sz];omega
 have S:So _ (kas_rev p 0 k) k:=fun i j e h=>by
  rw[J4 a i,J4 a j,if_pos (⟨by omega,by omega⟩),if_pos (⟨by omega,by omega⟩)]
  exact D _ _ (by omega) (by omega)
 obtain⟨m,f,l,d,g,b,_⟩:=As2 O hB (n-k) k c (by omega) (F.rev  (Nat.le_refl _) hk) S
 refine⟨m,kas_rev p 0 k,?_,by omega,d,g,b,mirror_perm _ _ _ _⟩
 rw[kas_tail3,Kc,f];rfl
theorem Tg (O:Ord lt)(hB:∀i j,i<n->j<n->B i j=some (lt i j))  (hk:k<n) (F:Fx n p (k+1)) (D:De lt p (k+1) 0):∃m a,kEv B (kas_descPart k n p)=some (m,a)/\0<m/\m<=n/\Fx n a m/\So lt a m/\a.Perm p:=by
 obtain⟨u,m,q,x,t,f,g,v,w⟩:=Ue O hB (n-(k+1)) p _ 0 (by omega) F D
 have e:kEv B (kas_descPart k n p)=kEv B (if q>0 then kas_tail3 m n (kas_rev u (m-(q+1)) m) else kas_tail3 m n u):=by
  rw[kas_descPart,Kc,x];rfl
 rw[e]
 by_cases h0:q>0
 ·rw[if_pos h0]
  obtain⟨d,a,h,c,o,l,r,s⟩:=Ah9 O hB t f (g.rev (Nat.le_refl _) f) (v.flush O (by rw[g.sz];grind))
  exact⟨d,a,h,c,o,l,r,(s.trans (mirror_perm _ _ _ _)).trans w⟩
 ·have b:q=0:=by omega
  subst b;obtain⟨d,a,h,c,o,l,r,s⟩:=Ah9 O hB t f g v.flat;exact⟨d,a,h,c,o,l,r,s.trans w⟩
theorem A9a (O:Ord lt)(hB:∀i j,i<n->j<n->B i j=some (lt i j))(h1:1<=n)(F:Fx n p 1):∃m f,kEv B (kas_count n p)=some (m,f)/\0<m/\m<=n/\Fx n f m/\So lt f m/\f.Perm p:=by
 obtain⟨m,v,K,l,b,k,u⟩:=As2 O hB (n-1) 1 (by omega) (by omega) F (fun i j h o=>by omega)
 have e:kEv B (kas_count n p)=kEv B (if (m==n)=true then .ret (m,p) else if m>1 then .ask (p.getD 0 0) (p.getD (m-1) 0) fun c=>if c=true then .ret (m,p) else kas_descPart m n (kas_rev p 0 m) else kas_descPart m n p):=by
  rw[kas_count,Kc,v];rfl
 rw[e]
 by_cases hmn:m=n
 ·rw[if_pos (by simp[hmn])];exact⟨m,p,rfl,by omega,l,b,k,Array.Perm.refl _⟩
 ·rw[if_neg (by simp[hmn])]
  have a:m<n:=by omega
  have c:=u a
  by_cases hm:m>1
  ·rw[if_pos hm]
   have E:kEv B (.ask (p.getD 0 0) (p.getD (m-1) 0) fun c=>if c=true then .ret (m,p) else kas_descPart m n (kas_rev p 0 m))=kEv B (if lt (p.getD 0 0) (p.getD (m-1) 0)=true then .ret (m,p) else kas_descPart m n (kas_rev p 0 m)):=by
    show (B _ _).bind _=_
    rw[hB _ _ (b.bound l (by omega)) (b.bound l (by omega))];rfl
   rw[E]
   cases d:lt (p.getD 0 0) (p.getD (m-1) 0) with
   | true=>exact⟨m,p,rfl,by omega,l,b,k,Array.Perm.refl _⟩
   | false =>
    rw[if_neg (by decide)]
    have s:m<=p.size:=by rw[b.sz];omega
    have g:∀i,i<m->(kas_rev p 0 m).getD i 0=p.getD (m-1-i) 0:=fun i q=>by
     rw[J4 s,if_pos (⟨by omega,q⟩:0<=i/\i<m)];congr 1;omega
    have w:(kas_rev p 0 m).getD m 0=p.getD m 0:=by rw[J4 s,if_neg (by omega)]
    have A:∀i,i<m->Eq' lt (p.getD i 0) (p.getD (m-1) 0):=fun i q=>by
     refine⟨?_,?_⟩
     ·cases x:lt (p.getD i 0) (p.getD (m-1) 0) with
      | false=>rfl
      | true =>
       rcases O.neg _ (p.getD 0 0) _ x with z | z
       ·rcases Nat.eq_zero_or_pos i with y | y
        ·rw[y,O.irr]at z;cases z
        ·rw[(k 0 i y q).not O]at z;cases z
       ·rw[d]at z;cases z
     ·rcases Nat.lt_or_ge i (m-1) with y | y
      ·exact(k i (m-1) y (by omega)).not O
      ·rw[show i=m-1 by omega];exact O.irr _
    have r:Dn lt (kas_rev p 0 m) m:=fun i j h o=>by
     rw[g i (by omega),g j o];exact k _ _ (by omega) (by omega)
    obtain⟨D,f,G,C,I,H,J,t⟩:=Tg O hB a ((b.rev  (Nat.le_refl _) l).up a) (r.next O (by omega) (by rw[w,g _ (by omega)];exact(A _ (by omega)).lt_to O c))
    exact⟨D,f,G,C,I,H,J,t.trans (mirror_perm _ _ _ _)⟩
  ·rw[if_neg hm]
   have r:Dn lt p m:=fun i j h o=>by omega
   exact Tg O hB a (b.up a) (r.next O (by omega) c)
theorem Wf (O:Ord lt)(hB:∀i j,i<n->j<n->B i j=some (lt i j)){k:Nat}(hk:k<n)(F:Fx n p k)(S:So lt p k):∀(f l r:Nat),l<=r->r<=k->r-l<=f->(∀i,i<l->lt (p.getD k 0) (p.getD i 0)=false)->(∀i,r<=i->i<k->lt (p.getD k 0) (p.getD i 0)=true) ->
 ∃m,kEv B (kas_place p k f l r)=some m/\m<=k/\(∀i,i<m->lt (p.getD k 0) (p.getD i 0)=false)/\(∀i,m<=i->i<k->lt (p.getD k 0) (p.getD i 0)=true)
 | 0,l,r,h1,h2,h3,a,b=>⟨l,rfl,by omega,a,fun i x y=>b i (by omega) y⟩
 | f+1,l,r,h1,h2,h3,a,b=>by
  by_cases h:l≥r
  ·refine⟨l,?_,by omega,a,fun i x y=>b i (by omega) y⟩
   rw[kas_place,if_pos h];rfl
  ·have e:kEv B (kas_place p k (f+1) l r)=kEv B (if lt (p.getD k 0) (p.getD ((l+r) / 2) 0)=true then kas_place p k f l ((l+r) / 2) else kas_place p k f ((l+r) / 2+1) r):=by
    rw[kas_place,if_neg h]
    show (B _ _).bind _=_
    rw[hB _ _ (F.bound (by omega) (by omega)) (F.bound (by omega) (by omega))];rfl
   rw[e]
   cases c:lt (p.getD k 0) (p.getD ((l+r) / 2) 0) with
   | true =>
    rw[if_pos rfl]
    refine Wf O hB hk F S f l _ (by omega) (by omega) (by omega) a fun i x y=>?_
    rcases Nat.lt_or_ge ((l+r) / 2) i with z | z
    ·rcases S _ i z y with q | ⟨q,_⟩
     ·exact O.tr _ _ _ c q
     ·rcases O.neg _ (p.getD i 0) _ c with w | w
      ·exact w
      ·rw[q]at w;cases w
    ·rw[show i=(l+r) / 2 by omega];exact c
   | false =>
    rw[if_neg (by decide)]
    refine Wf O hB hk F S f _ r (by omega) h2 (by omega) (fun i x=>?_) b
    rcases Nat.lt_or_ge i ((l+r) / 2) with z | z
    ·have q:=S i _ z (by omega)
     cases w:lt (p.getD k 0) (p.getD i 0) with
     | false=>rfl
     | true =>
      rcases O.neg _ (p.getD ((l+r) / 2) 0) _ w with y | y
      ·rw[c]at y;cases y
      ·rw[q.not O]at y;cases y
    ·rw[show i=(l+r) / 2 by omega];exact c
theorem A5r (O:Ord lt)(hB:∀i j,i<n->j<n->B i j=some (lt i j)):∀(f:Nat) (p:Array Nat) (k:Nat),k+f=n->Fx n p k->So lt p k->∃p',kEv B (kas_bin f p k)=some p'/\Fx n p' n/\So lt p' n/\p'.Perm p
 | 0,p,k,hk,F,S=>by
  have e:k=n:=by omega
  subst e;exact⟨p,rfl,F,S,Array.Perm.refl _⟩
 | f+1,p,k,hk,F,S=>by
  have hkn:k<n:=by omega
  obtain⟨l,a1,a2,a3,a4⟩:=Wf O hB hkn F S k 0 k (by omega) (Nat.le_refl _) (by omega) (fun i x=>by omega) (fun i x y=>by omega)
  have hs:k<p.size:=by rw[F.sz];exact hkn
  have g:=fun i=>Bu9 (p:=p) (src:=k) (d:=k-l) hs (by omega) i
  have kl:k-(k-l)=l:=by omega
  rw[kl]at g
  have e:kEv B (kas_bin (f+1) p k)=kEv B (kas_bin f (bubble p k (k-l)) (k+1)):=by
   rw[kas_bin,Kc,a1];rfl
  have F2:Fx n (bubble p k (k-l)) (k+1):=by
   have U:=F.up hkn
   refine⟨(bubble_size _ _ _).trans F.sz,fun i hi=>?_,fun i h1 h2=>?_⟩
   ·rw[g i]
    by_cases c1:i=l
    ·rw[if_pos c1];exact U.lo _ (by omega)
    ·rw[if_neg c1]
     by_cases c2:l<i/\i<=k
     ·rw[if_pos c2];exact U.lo _ (by omega)
     ·rw[if_neg c2];exact U.lo _ hi
   ·rw[g i,if_neg (by omega),if_neg (by omega)]
    exact F.hi i (by omega) h2
  have new:∀i,i<l->Rr lt (p.getD i 0) (p.getD k 0):=fun i hi=>.inr ⟨a3 i hi,by rw[F.hi k (Nat.le_refl _) hkn];exact F.lo i (by omega)⟩
  have S2:So lt (bubble p k (k-l)) (k+1):=fun i j hij hj=>by
   rw[g i,g j]
   by_cases c1:j=l
   ·rw[if_pos c1,if_neg (by omega),if_neg (by omega)]
    exact new i (by omega)
   ·rw[if_neg c1]
    by_cases c2:l<j/\j<=k
    ·rw[if_pos c2]
     by_cases c3:i=l
     ·rw[if_pos c3];exact .inl (a4 _ (by omega) (by omega))
     ·rw[if_neg c3]
      by_cases c4:l<i/\i<=k
      ·rw[if_pos c4];exact S _ _ (by omega) (by omega)
      ·rw[if_neg c4];exact S _ _ (by omega) (by omega)
    ·rw[if_neg c2,if_neg (by omega),if_neg (by omega)];exact S _ _ hij (by omega)
  rw[e]
  obtain⟨p',b1,b2,b3,b4⟩:=A5r O hB f _ (k+1) (by omega) F2 S2
  exact⟨p',b1,b2,b3,b4.trans (bubble_perm _ _ _)⟩
theorem A9b (O:Ord lt)(hB:∀i j,i<n->j<n->B i j=some (lt i j))(h1:1<=n):∃p,kEv B (kas_sort n)=some p/\p.size=n/\So lt p n/\p.toList.Perm (List.range n):=by
 have F:Fx n (List.toArray (List.range n)) 1:=by
  have q:∀i,i<n->(List.toArray (List.range n)).getD i 0=i:=fun i a=>by
   rw[gD];simp[a]
  exact⟨by simp,fun i a=>by rw[q i (by omega)];exact a,fun i _ a=>q i a⟩
 obtain⟨m,p,g,t,u,c,f,b⟩:=A9a O hB h1 F
 have e:kEv B (kas_sort n)=kEv B (if m<n then kas_bin (n-max m 1) p (max m 1) else .ret p):=by
  rw[kas_sort,Kc,g];rfl
 rw[e]
 have d:∀q:Array _,q.Perm (List.toArray (List.range n))->q.toList.Perm _:=fun q h=>by
  have:=Array.perm_iff_toList_perm.mp h
  simpa using this
 by_cases h:m<n
 ·rw[if_pos h,show max m 1=m by omega]
  obtain⟨r,k,l,s,o⟩:=A5r O hB (n-m) p m (by omega) c f
  exact⟨r,k,l.sz,s,d _ (o.trans b)⟩
 ·rw[if_neg h]
  have e:m=n:=by omega
  subst e;exact⟨p,rfl,c.sz,f,d _ b⟩
end
end PS
namespace U
open PySem L2
theorem R.bind_ok  {a:b}  {k:b->Ev->R d}:(R.ok a c).bind k=k a c:=rfl
theorem R.toS_ok  {a:b}  {k:b->Ev->SR}:(R.ok a c).toS k=k a c:=rfl
theorem A0f {a:Type}{x:Option a}:(some x).join=x:=rfl
theorem B1a  (x:a) (r:List a):atI (x::r) 0=some x:=J1  rfl
theorem By4  (x y:a) (r:List a):atI (x::y::r) 1=some y:=J1  rfl
theorem B0y  (x y z:a) (r:List a):atI (x::y::z::r) 2=some z:=J1  rfl
theorem B1p  (x y z u:a) (r:List a):atI (x::y::z::u::r) 3=some u:=J1  rfl
theorem B0o  (x y z u w:a) (r:List a):atI (x::y::z::u::w::r) 4=some w:=J1  rfl
theorem Bl2:ixN 3 0=some 0:=rfl
theorem Bq4:ixN 3 1=some 1:=rfl
theorem Bl9:ixN 3 2=some 2:=rfl
def Vp (g:PV->Ev->R Unit)(body:Ev->SR)(d:PyData)(c:Ev):SR:=(g (.o (.im d)) c).toS fun _ c=>body c
theorem A2e      (h:Vp g body d c=.nx c'\/Vp g body d c=.ct c'):forL g body (d::ds) c=forL g body ds c':=by
 unfold Vp at h;rw[forL]
 cases e:g _ c with
 | bad=>rw[e]at h;rcases h with h | h <;> cases h
 | ok u a =>
  rw[e]at h;have h:body _=.nx _\/body _=.ct _:=h
  grind
theorem Ji {g:PV->Ev->R Unit}{body:Ev->SR}{P:Nat->Ev->Prop}:∀{items:List PyData}{n:Nat}{c:Ev},P n c ->
 (∀k d c,items[k]?=some d->P (n+k) c->∃c',(Vp g body d c=.nx c'\/Vp g body d c=.ct c')/\P (n+k+1) c')->∃c',forL g body items c=.nx c'/\P (n+items.length) c'
 | [],n,c,h0,_=>⟨c,rfl,h0⟩
 | d::ds,n,c,h0,hs=>by
  obtain⟨c1,e,h1⟩:=hs 0 d c rfl h0;rw[A2e e]
  obtain⟨c2,e2,h2⟩:=Ji (P:=P) (items:=ds) (n:=n+1) (c:=c1) h1 (fun k d c hk hp=>by
   have:=hs (k+1) d c (by simpa using hk) (by rw[show n+(k+1)=n+1+k by omega];exact hp)
   rw[show n+(k+1)+1=n+1+k+1 by omega]at this
   exact this)
  exact⟨c2,e2,by rw[List.length_cons,show n+(ds.length+1)=n+1+ds.length by omega];exact h2⟩
def Oo (g:PV->Ev->R Unit)(ft:Ev->R Bool)(fe:Ev->R PV)(d:PyData)(c:Ev):R (Option PyData) :=
 (g (.o (.im d)) c).bind fun _ c=>(ft c).bind fun b c=>if b=true then (fe c).bind fun p c=>(frz (nrm p) c).bind fun y c=>.ok (some y) c else .ok none c
theorem G5       : Eh g ft fe (d::ds) acc c=(Oo g ft fe d c).bind fun o c=>Eh g ft fe ds (acc++o.toList) c:=by
 unfold Oo;rw[Eh]
 cases e:g _ c with
 | bad=>rfl
 | ok u f =>
  simp only[R.bind_ok]
  cases e2:ft _ with
  | bad=>rfl
  | ok b h =>
   simp only[R.bind_ok]
   cases b with
   | false=>simp[R.bind_ok]
   | true =>
    cases e3:fe _ with
    | bad=>rfl
    | ok p i =>
     simp only[R.bind_ok]
     cases e4:frz _ _ with
     | bad=>rfl
     | ok y a=>rfl
theorem Nr {g:PV->Ev->R Unit}{ft:Ev->R Bool}{fe:Ev->R PV}{P:Nat->List PyData->Ev->Prop}:∀{items acc:List PyData}{n:Nat}{c:Ev},P n acc c ->
 (∀k d acc c,items[k]?=some d->P (n+k) acc c->∃o c',Oo g ft fe d c=.ok o c'/\P (n+k+1) (acc++o.toList) c')->∃acc' c',Eh g ft fe items acc c=.ok acc' c'/\P (n+items.length) acc' c'
 | [],acc,n,c,h0,_=>⟨acc,c,rfl,h0⟩
 | d::ds,acc,n,c,h0,hs=>by
  obtain⟨o,c1,e,h1⟩:=hs 0 d acc c rfl h0;rw[G5,e,R.bind_ok]
  obtain⟨acc2,c2,e2,h2⟩:=Nr (P:=P) (items:=ds) (n:=n+1) (c:=c1) h1 (fun k d acc c hk hp=>by
   have:=hs (k+1) d acc c (by simpa using hk) (by rw[show n+(k+1)=n+1+k by omega];exact hp)
   rw[show n+(k+1)+1=n+1+k+1 by omega]at this
   exact this)
  exact⟨acc2,c2,e2,by rw[List.length_cons,show n+(ds.length+1)=n+1+ds.length by omega];exact h2⟩
theorem Ag1 {g:PV->Ev->R Unit}{ft:Ev->R Bool}{fe:Ev->R PV}{I:Ev->Prop}{F:PyData->Option PyData}:∀{items acc:List PyData}{c:Ev},I c ->
 (∀d c,d∈items->I c->∃c',Oo g ft fe d c=.ok (F d) c'/\I c')->∃c',Eh g ft fe items acc c=.ok (acc++items.filterMap F) c'/\I c'
 | [],acc,c,h0,_=>⟨c,by simp[Eh],h0⟩
 | d::ds,acc,c,h0,hs=>by
  obtain⟨c1,e,h1⟩:=hs d c (.head _) h0;rw[G5,e,R.bind_ok]
  obtain⟨c2,e2,h2⟩:=Ag1 (I:=I) (F:=F) (items:=ds) (acc:=acc++(F d).toList) h1 (fun d c hd hi=>hs d c (.tail _ hd) hi)
  refine⟨c2,?_,h2⟩
  rw[e2,List.append_assoc];rw[List.filterMap_cons]
  cases F d <;> rfl
theorem A0l    {I:Ev->Prop}    (b:I c)
 (hs:∀d c,d∈items->I c->∃a,Oo g ft fe d c=.ok (some (F d)) a/\I a):∃a,Eh g ft fe items acc c=.ok (acc++items.map F) a/\I a:=by
 obtain⟨a,e,h⟩:=Ag1  (acc:=acc) b hs
 refine⟨a,?_,h⟩
 simp_all
theorem Kv {α:Type}{g:PV->Ev->R Unit}{ft:Ev->R Bool}{fe:Ev->R PV}{I:Ev->Prop}{f:α->PyData}{G:α->Option PyData}:∀{xs:List α}{acc:List PyData}{c:Ev},I c ->
 (∀x c,x∈xs->I c->∃c',Oo g ft fe (f x) c=.ok (G x) c'/\I c')->∃c',Eh g ft fe (xs.map f) acc c=.ok (acc++xs.filterMap G) c'/\I c'
 | [],acc,c,h0,_=>⟨c,by simp[Eh],h0⟩
 | x::xs,acc,c,h0,hs=>by
  obtain⟨c1,e,h1⟩:=hs x c (.head _) h0;rw[List.map_cons,G5,e,R.bind_ok]
  obtain⟨c2,e2,h2⟩:=Kv (I:=I) (f:=f) (G:=G) (xs:=xs) (acc:=acc++(G x).toList) h1 (fun d c hd hi=>hs d c (.tail _ hd) hi)
  refine⟨c2,?_,h2⟩
  rw[e2,List.append_assoc];rw[List.filterMap_cons]
  cases G x <;> rfl
theorem Do {b:Type}    {I:Ev->Prop}{f:b->PyData}{G:b->PyData}{xs:List b}   (d:I c)
 (hs:∀x c,x∈xs->I c->∃a,Oo g ft fe (f x) c=.ok (some (G x)) a/\I a):∃a,Eh g ft fe (xs.map f) acc c=.ok (acc++xs.map G) a/\I a:=by
 obtain⟨a,e,h⟩:=Kv  (acc:=acc) d hs
 refine⟨a,?_,h⟩
 simp_all
theorem Et        (h1:fi c=.ok ds c1) (hl:ds.length<=16000000) (h2:Eh g ft fe ds [] (cIn idx c1)=.ok acc cI) (a:Ho cI (pairsOf 0 idx) c1=some c2) :
 cLC idx fi g ft fe c=.ok (.o (.ls false acc)) c2:=by
 unfold cLC;rw[h1,R.bind_ok]
 simp_all
theorem Y7      (h1:fi c=.ok ds c1):Rk fi g body c=forL g body ds c1:=by
 unfold Rk;rw[h1];rfl
theorem Cp   (h:f c=.nx c'):Bf f g c=g c':=by unfold Bf;rw[h]
theorem Y8       (h:body (a.map some++List.replicate (N-n) none)=.rt p c) (hl:a.length=n) (hf:A1r a p c=r):Fp n N body a=r:=by
 unfold Fp;grind
end U
namespace K
open PySem L2 U
structure Good (d:PyData) (n w:Nat):Prop where
 lay:d.canLay0=true
 shw:d.showable=true
 dct:d.hasDict=false
 dep:d.depth<=n
 wgt:wt d<=w
structure Goods (ds:List PyData) (n w:Nat):Prop where
 lay:PyData.canLayAll0 ds=true
 shw:PyData.showableAll ds=true
 dct:PyData.hasDictAll ds=false
 dep:PyData.depthAll ds<=n
 wgt:Mp ds<=w*ds.length
theorem Goods.of {n w:Nat}:∀{ds:List PyData},(∀d∈ds,Good d n w)->Goods ds n (w+2)
 | [],_=>⟨rfl,rfl,rfl,Nat.zero_le _,Nat.zero_le _⟩
 | d::r,h=>by
  have a:=h d (.head _)
  have b:=Goods.of fun e he=>h e (.tail _ he)
  refine⟨?_,?_,?_,?_,?_⟩
  ·show (d.canLay0&&PyData.canLayAll0 r)=true;rw[a.lay,b.lay];rfl
  ·show (d.showable&&PyData.showableAll r)=true;rw[a.shw,b.shw];rfl
  ·show (d.hasDict||PyData.hasDictAll r)=false;rw[a.dct,b.dct];rfl
  ·show max d.depth (PyData.depthAll r)<=n;have:=a.dep;have:=b.dep;omega
  ·show wt d+2+Mp r<=(w+2)*(r.length+1)
   have:=a.wgt;have:=b.wgt;rw[Nat.mul_succ];omega
theorem Good.tup   (h:∀d∈ds,Good d n w) (hk:ds.length<=k):Good (.tuple ds) (n+1) ((w+2)*k+4):=by
 have g:=Goods.of h;have m:(w+2)*ds.length<=(w+2)*k:=Nat.mul_le_mul_left _ hk
 refine⟨g.lay,g.shw,g.dct,?_,?_⟩
 ·show PyData.depthAll _+1<=n+1;have:=g.dep;omega
 ·show Mp _+4<=(w+2)*k+4;have:=g.wgt;omega
theorem Good.lst   (h:∀d∈ds,Good d n w) (hk:ds.length<=k):Good (.list ds) (n+1) ((w+2)*k+4):=by
 have g:=Goods.of h;have m:(w+2)*ds.length<=(w+2)*k:=Nat.mul_le_mul_left _ hk
 refine⟨g.lay,g.shw,g.dct,?_,?_⟩
 ·show PyData.depthAll _+1<=n+1;have:=g.dep;omega
 ·show Mp _+4<=(w+2)*k+4;have:=g.wgt;omega
theorem Good.mono   (h:Good d n w) (a:n<=n') (b:w<=w'):Good d n' w':=⟨h.lay,h.shw,h.dct,Nat.le_trans h.dep a,Nat.le_trans h.wgt b⟩
theorem Good.flatB   (h:Good d n w) (hn:n<=40):Df d=true:=by
 unfold U.Df;rw[h.lay,decide_eq_true (Nat.le_trans h.dep hn)];rfl
theorem Xk    (ha:Good a n w) (hb:Good b n' w') (hn:n<=40) (c:n'<=40):Di neg a b=some (.im (.bool (if neg then !PyData.eqv a b else PyData.eqv a b))):=by
 unfold Di;rw[ha.flatB hn,hb.flatB c];rfl
theorem Qy  (h:∀d∈ds,d.canLay0=true):PyData.canLayAll0 ds=true:=by
 induction ds with
 | nil=>rfl
 | cons d r a=>show (d.canLay0&&PyData.canLayAll0 r)=true;grind
inductive Vl where
 | non
 | int (i:Int)
 | str (x:Str)
 deriving DecidableEq
@[simp] theorem Vl.int.injEq (a b:Int):(Vl.int a=Vl.int b)=(a=b):=propext ⟨fun h=>by cases h;rfl,fun h=>by rw[h]⟩
@[simp] theorem Vl.str.injEq (a b:Str):(Vl.str a=Vl.str b)=(a=b):=propext ⟨fun h=>by cases h;rfl,fun h=>by rw[h]⟩
def Vl.d:Vl->PyData
 | .non=>.none
 | .int i=>.int i
 | .str x=>.str x
def vb:Vl->Bool
 | .non=>true
 | .int i=>decide (-1000000000000<=i)&&decide (i<=1000000000000)
 | .str x=>decide (x.length<=40)&&x.cps.toList.all fun c=>decide (32<=c)&&decide (c<=126)
abbrev VB (v:Vl):Prop:=vb v=true
abbrev VBs (vs:List Vl):Prop:=∀v∈vs,VB v
def tD (vs:List Vl):PyData:=.tuple (vs.map Vl.d)
theorem Bb2 (x y:Str):PyData.eqv (.str x) (.str y)=decide (x=y):=by
 show (x==y)=_
 grind
theorem Bk4 (a b:Vl):PyData.eqv a.d b.d=decide (a=b):=by
 cases a with
 | non=>cases b <;> simp[Vl.d,PyData.eqv]
 | int i=>
  cases b with
   | int j =>
    show (i==j)=_
    grind
   | non=>rfl
   | str y=>trivial
 | str x=>
  cases b with
   | str y=>rw[show PyData.eqv (Vl.d (.str x)) (Vl.d (.str y))=_ from Bb2 x y];simp_all
   | non=>trivial
   | int y=>trivial
theorem Ai4:∀as bs:List Vl,PyData.eqvAll (as.map Vl.d) (bs.map Vl.d)=decide (as=bs)
 | [],[]=>by simp[PyData.eqvAll]
 | [],b::bs=>by simp[PyData.eqvAll]
 | a::as,[]=>by simp[PyData.eqvAll]
 | a::as,b::bs=>by
  show (PyData.eqv a.d b.d&&PyData.eqvAll (as.map Vl.d) (bs.map Vl.d))=_
  rw[Bk4,Ai4 as bs]
  simp
theorem Xj (a bs:List Vl):PyData.eqv (tD a) (tD bs)=decide (a=bs):=by
 exact Ai4 _ _
theorem Gp  (h:VB v):Good v.d 0 1921:=by
 cases v with
 | non=>exact⟨rfl,rfl,rfl,Nat.le_refl _,by decide⟩
 | int i =>
  obtain⟨a,b⟩:=Bool.and_eq_true_iff.mp (show (decide _&&decide _)=true from h)
  have a:=of_decide_eq_true a;have b:=of_decide_eq_true b
  refine⟨rfl,?_,rfl,Nat.le_refl _,Nat.le_refl _⟩
  have c:i.natAbs<2 ^ 41:=by omega
  have:i.natAbs.log2<1920:=by
   by_cases hz:i.natAbs=0
   ·rw[hz];decide
   ·exact Nat.lt_of_lt_of_le ((Nat.log2_lt hz).mpr c) (by decide)
  simpa[Vl.d,PyData.showable] using this
 | str x =>
  obtain⟨a,b⟩:=Bool.and_eq_true_iff.mp (show (decide _&&x.cps.toList.all _)=true from h)
  have a:=of_decide_eq_true a
  refine⟨?_,rfl,rfl,Nat.le_refl _,?_⟩
  ·show x.cps.all _=true
   grind
  ·show 10*x.length+2<=1921
   omega
theorem Gm   (h:VBs vs) (hk:vs.length<=k):Good (tD vs) 1 (1923*k+4) :=
 Good.tup (fun d a=>by obtain⟨v,b,rfl⟩:=List.mem_map.mp a;exact Gp (h v b)) (by simp_all)
theorem VBs.app  (h:VBs a) (k:VBs b):VBs (a++b):=fun v c=>by
 grind
theorem B0b (v:Vl)(vs:List Vl):((vs.map Vl.d).any fun e=>PyData.eqv e v.d)=decide (v∈vs):=by
 induction vs with
 | nil=>simp
 | cons a r b =>
  rw[List.map_cons,List.any_cons,Bk4]
  grind
theorem Bj2 (v:List Vl)(vs:List (List Vl)):((vs.map tD).any fun e=>PyData.eqv e (tD v))=decide (v∈vs):=by
 induction vs with
 | nil=>simp
 | cons a r b =>
  rw[List.map_cons,List.any_cons,Xj]
  grind
theorem A3s    (h:VB v) (hs:VBs vs):Gy neg v.d (.list (vs.map Vl.d))=some (.im (.bool (if neg then !decide (v∈vs) else decide (v∈vs)))):=by
 have e:Gy neg v.d (.list (vs.map Vl.d))=if Df v.d&&PyData.canLayAll0 (vs.map Vl.d) then some (.im (.bool (if neg then !(vs.map Vl.d).any fun e=>PyData.eqv e v.d else (vs.map Vl.d).any fun e=>PyData.eqv e v.d))) else none:=by rfl
 rw[e,(Gp h).flatB (by decide),Qy fun d a=>by obtain⟨u,b,rfl⟩:=List.mem_map.mp a;exact(Gp (hs u b)).lay,B0b];rfl
theorem Ro   {vs:List (List Vl)}(h:VBs v) (hs:∀u∈vs,VBs u):Gy neg (tD v) (.list (vs.map tD))=some (.im (.bool (if neg then !decide (v∈vs) else decide (v∈vs)))):=by
 show (if Df _&&PyData.canLayAll0 _ then some _ else none)=_
 rw[(Gm h (Nat.le_refl _)).flatB (by decide),Qy fun d a=>by obtain⟨u,b,rfl⟩:=List.mem_map.mp a;exact(Gm (hs u b) (Nat.le_refl _)).lay,Bj2];rfl
theorem Rq  {l:List a}{r:Int}(b:0<=r) (h1:r<l.length):∃d,atI l r=some d/\d∈l/\l[r.toNat]?=some d:=by
 obtain⟨k,rfl⟩:=Int.eq_ofNat_of_zero_le b
 exact⟨l[k],J1 (List.getElem?_eq_getElem _),List.getElem_mem _,by grind⟩
def Ay9 (pr:List O->FR):Ev->SR :=
 (Bf
  (cIf (Bd (cOp (Hi false) (Ad 0) (cC (.none)))) (Dc (Ei (Ac (cC (.int 0)) (Ac (cC (.int 0)) Al)))) Du)
  (Bf (cIf (Bd (cUn (En .int) (Ad 0))) (Dc (Ei (Ac (cC (.int 1)) (Ac (Ad 0) Al)))) Du)
  (Bf (cIf (Bd (cUn (En .str) (Ad 0))) (Dc (Ei (Ac (cC (.int 2)) (Ac (Ad 0) Al)))) Du)
  (Dc (Ei (Ac (cC (.int 3)) (Ac (cUn Br (cLC [none] (Bm (Ad 0)) (cgN 0) Be (cF pr (Ac (Ad 0) Al)))) Al)))))))
def Gb:Nat->List O->FR
 | 0=>fun _=>.bad
 | k+1=>Fp 1 1 (Ay9 (Gb k))
def Ag8:Ev->SR :=
 (Dc (Bq1 (Gb 2) (Ad 0)))
def Ks:List O->FR:=Fp 1 1 Ag8
def Qo:Ev->SR :=
 (Dc (cUn Br (cLC [none,some 0] (Bm (Ad 1)) (cgN 0) Be (cOp Ay (Ad 1) (Ad 0)))))
def Ey:List O->FR:=Fp 2 2 Qo
def Hu:Ev->SR :=
 (Dc (Ol (cUn (En .tuple) (Ad 0)) (cOp (Di false) (K7 (Ad 0)) (cC (.int 2)))))
def Gj:List O->FR:=Fp 1 1 Hu
def Tp:Ev->SR :=
 (Dc (cUn Br (cLC [none,none] (Bm (cOp Ay (Ad 0) (cC (.int 4)))) (cgT 2 (Ba (cgN 0) (Ba (cgN 1) Ek))) Be (Ad 0))))
def Gf:List O->FR:=Fp 1 1 Tp
def Ke:Ev->SR :=
 (Bf
  (Dg (cLC [none,none,some 1] (Bm (cOp Ay (Ad 0) (cC (.int 4)))) (cgT 2 (Ba (cgN 0) (Ba (cgN 1) Ek))) Be (Ei (Ac (Ad 0) (Ac (cF Ey (Ac (Ad 1) (Ac (Ad 2) Al))) Al)))) (cgN 2))
  (Dc (cOp Ck (cSl J3 (Ad 0) cON (cOS (cC (.int 3)))) (Ei (Ac (cF Ey (Ac (cOp Ay (Ad 0) (cC (.int 3))) (Ac (Ad 1) Al))) (Ac (cUn Br (Ad 2)) Al))))))
def Fi:List O->FR:=Fp 2 3 Ke
def Ej:Ev->SR :=
 (Dc (Ol (cF Gj (Ac (Ad 0) Al)) (Ol (cOp (Di false) (cOp Ay (Ad 0) (cC (.int 0))) (cC (.str "told"))) (cUn (Ju .list .tuple) (cOp Ay (Ad 0) (cC (.int 1)))))))
def Cv:List O->FR:=Fp 1 1 Ej
def Bw:List O->FR:=Fp 2 2 (Dc (Af2 (Ad 1) (Ad 0)))
def Kg:Ev->SR :=
 (Bf
  (Dg (cLC [none,some 1] (Bm (Ad 0)) (cgN 0) (Bd (cOp (Gy false) (Ad 0) (Ad 1))) (Ad 0)) (cgN 2))
  (Bf (Dg (cLC [none,some 1] (Bm (Ad 0)) (cgN 0) (Bd (cOp (Gy true) (Ad 0) (Ad 1))) (Ad 0)) (cgN 3))
  (Dc (cOp Ck (Aw1 Bw [1] (Ad 2)) (Ad 3)))))
def Ff:List O->FR:=Fp 2 4 Kg
def Ew:Ev->XS :=
 (Wi
  (xIf (Bd (cOp (Di false) (Ad 1) (cC (.str "seen")))) (Kw (Dc (cFz (cUn Jf (Ad 0))))) (Kw Du))
  (Wi (xIf (Bd (cOp (Di false) (Ad 1) (cC (.str "rising")))) (Kw (Dc (cFz (cF Ks (Ac (Ad 0) Al))))) (Kw Du))
  (Wi (xIf (Bd (cOp (Di false) (Ad 1) (cC (.str "falling")))) (Kw (Dc (cFz (cUn Ym (cF Ks (Ac (Ad 0) Al)))))) (Kw Du))
  (Wi (xIf (Bd (cF Cv (Ac (Ad 1) Al))) (Kw (Dc (cFz (cF Ff (Ac (Ad 0) (Ac (cOp Ay (Ad 1) (cC (.int 1))) Al)))))) (Kw Du))
  (Z8 "BadOrder" (Ac (cC (.str "an order is seen, rising, falling or told")) Al))))))
def Bg:List PyData->XF:=Ae1 2 2 Ew
def Ni:Ev->XS :=
 (Wi
  (Kw (Dg (cOp Ay (Ad 0) (cC (.int 3))) (cgN 2)))
  (V6 Bg (Ac (Ad 2) (Ac (Ad 1) Al)) [0] (Dc (cF Fi (Ac (Ad 0) (Ac (cLC [none,some 2] (Bm (cFY Bg (Ac (Ad 2) (Ac (Ad 1) Al)))) (cgN 0) Be (cMt Nq Ib (Ad 1) (Ad 0))) Al))))))
def Dk:List PyData->XF:=Ae1 2 3 Ni
def M9:Ev->XS :=
 (Wi
  (Kw (Dg (cDP (cOp Ay (Ad 0) (cC (.int 4)))) (cgN 2)))
  (Wi (V6 Bg (Ac (cF Gf (Ac (Ad 0) Al)) (Ac (Ad 1) Al)) [] (Dg (cLC [none,some 2] (Bm (cFY Bg (Ac (cF Gf (Ac (Ad 0) Al)) (Ac (Ad 1) Al)))) (cgN 0) Be (Ei (Ac (Ad 0) (Ac (Af8 (Ad 1) (Ad 0)) Al)))) (cgN 3)))
  (Kw (Dc (cOp Ck (cSl J3 (Ad 0) cON (cOS (cC (.int 4)))) (Ei (Ac (cUn Br (Ad 3)) Al)))))))
def Dj:List PyData->XF:=Ae1 2 4 M9
def Lz:Ev->SR :=
 (Bf
  (cIf (Bd (cOp Ql (Ad 1) (K7 (Ad 0)))) (Dc (Bv6 (Ad 0) (Ad 1))) Du)
  (Dc (cC (.int 0))))
def Gu:List O->FR:=Fp 2 2 Lz
def Ac3:Ev->SR :=
 (Bf
  (Dg (cF Gu (Ac (Ad 0) (Ac (Ad 1) Al))) (cgN 2))
  (Dc (Hn (Ac (cOp Lj (cUn Av4 (Ad 2)) (cUn A5j (cOp Bw0 (cUn Av4 (Ad 2)) (cOp Tt (cC (.int 10)) (cC (.int 18)))))) (Ac (cOp Ck (cOp Ck (cOp Qq (Ad 2) (cC (.int 2305843009213693951))) (cOp Lj (cC (.int 39373)) (Ad 1))) (cC (.int 17))) (Ac (cC (.int 0)) Al))))))
def Ms:List O->FR:=Fp 2 3 Ac3
def Rv:Ev->SR :=
 (Bf
  (cIf (Bd (cOp Bu8 (cOp Ay (Ad 0) (cC (.int 0))) (cC (.int 0)))) (Bf (Dg (cOp Qq (cOp Ay (Ad 0) (cC (.int 0))) (Ad 1)) (cgN 2))
  (Bf (Dg (cOp Ys (cOp Ay (Ad 0) (cC (.int 0))) (Ad 1)) (Av1 (Ad 0) (cC (.int 0))))
  (Dc (Ad 2)))) Du)
  (Bf (Dg (cOp Ck (cOp Ay (Ad 0) (cC (.int 2))) (cC (.int 1))) (Av1 (Ad 0) (cC (.int 2))))
  (Bf (Dg (cOp Qq (cOp Lj (cOp Ck (cOp Ay (Ad 0) (cC (.int 1))) (cOp Lj (cC (.int 48271)) (cOp Ay (Ad 0) (cC (.int 2))))) (cOp Ck (cC (.int 39373)) (cOp Ay (Ad 0) (cC (.int 2))))) (cC (.int 2147483647))) (cgN 3))
  (Bf (Dg (cOp Qq (cOp Lj (cOp Ck (Ad 3) (cOp Ay (Ad 0) (cC (.int 2)))) (cOp Ck (cOp Qq (Ad 3) (cC (.int 40009))) (cC (.int 7)))) (cC (.int 2147483629))) (cgN 4))
  (Dc (cOp Qq (cOp Ys (cOp Qq (cOp Ck (cOp Lj (Ad 4) (cC (.int 48271))) (Ad 3)) (cC (.int 2147483587))) (cC (.int 64))) (Ad 1)))))))
def Av:List O->FR:=Fp 2 5 Rv
def Su:Ev->SR :=
 (Bf
  (cIf (Bd (cOp (Di false) (cF Av (Ac (Ad 0) (Ac (cC (.int 8)) Al))) (cC (.int 0)))) (Dc (cOp Ck (cC (.int 7)) (cF Av (Ac (Ad 0) (Ac (cOp Ot (Ad 3) (cC (.int 6))) Al))))) Du)
  (Dc (cOp Ck (Ad 1) (cF Av (Ac (Ad 0) (Ac (cOp Ck (cOp Ot (Ad 2) (Ad 1)) (cC (.int 1))) Al))))))
def Hq:List O->FR:=Fp 4 4 Su
def Ul:Ev->SR :=
 (Bf
  (Dg (Hn (cK [.str "b",.str "a",.str "year",.str "z",.str "ab",.str "month",.str "aa",.str "quantity",.str "c",.str "town",.str "zz",.str "ba"])) (cgN 2))
  (Dc (cLC [none,some 2,some 0] (Mh (Ad 1)) (cgN 0) Be (Uw (Ad 1) (cF Av (Ac (Ad 2) (Ac (K7 (Ad 1)) Al)))))))
def Hv:List O->FR:=Fp 2 3 Ul
def Jl:Ev->SR :=
 (Bf
  (Dg (cF Av (Ac (Ad 0) (Ac (cC (.int 9)) Al))) (cgN 1))
  (Bf (cIf (Bd (cOp Ql (Ad 1) (cC (.int 4)))) (Dc (cOp Ot (cF Av (Ac (Ad 0) (Ac (cC (.int 13)) Al))) (cC (.int 3)))) Du)
  (Bf (cIf (Bd (cOp (Di false) (Ad 1) (cC (.int 4)))) (Dc (cOp Ay (Hn (Ac (cOp Ot (cOp Tt (cC (.int 10)) (cC (.int 12))) (cC (.int 1))) (Ac (cOp Ot (cC (.int 0)) (cOp Tt (cC (.int 10)) (cC (.int 11)))) (Ac (cC (.int 100)) (Ac (cC (.int 10)) Al))))) (cF Av (Ac (Ad 0) (Ac (cC (.int 4)) Al))))) Du)
  (Bf (cIf (Bd (cOp (Di false) (Ad 1) (cC (.int 5)))) (Dc (cC (.none))) Du)
  (Dc (cOp Ay (Hn (cK [.str "",.str "a",.str "b",.str "B",.str "10",.str "9",.str "-",.str "a b",.str "it's",.str "\\",.str "/",.str "_",.str ":",.str "None",.str "ab"])) (cF Av (Ac (Ad 0) (Ac (cC (.int 15)) Al)))))))))
def Cr:List O->FR:=Fp 1 2 Jl
def Mt:Ev->SR :=
 (Bf
  (cIf (Bd (cOp (Di false) (cF Av (Ac (Ad 0) (Ac (cC (.int 9)) Al))) (cC (.int 0)))) (Dc (cOp Ay (Hn (Ac (cOp Ot (cOp Tt (cC (.int 10)) (cC (.int 12))) (cC (.int 1))) (Ac (cOp Ot (cC (.int 1)) (cOp Tt (cC (.int 10)) (cC (.int 12)))) (Ac (cOp Tt (cC (.int 10)) (cC (.int 11))) (Ac (cC (.int 0)) Al))))) (cF Av (Ac (Ad 0) (Ac (cC (.int 4)) Al))))) Du)
  (Dc (cOp Ot (cF Av (Ac (Ad 0) (Ac (cC (.int 25)) Al))) (cC (.int 7)))))
def Dq:List O->FR:=Fp 1 1 Mt
def Xf:Ev->SR :=
 (Bf
  (Dg (Hn Al) (cgN 2))
  (Bf (Rk (Mh (Ad 1)) (cgN 3) (Bf (Dg (cF Cr (Ac (Ad 0) Al)) (cgN 4))
  (cIf (Bd (cOp (Gy true) (Ad 4) (Ad 2))) (Kz (Rz (Ad 2) (Ad 4))) Du)))
  (Dc (Ad 2))))
def Jc:List O->FR:=Fp 2 5 Xf
def Rt:Ev->SR :=
 (Bf
  (cIf (Bd (cOp (Hi false) (Ad 0) (cC (.none)))) (Dc (Ei (Ac (cC (.int 0)) (Ac (cC (.int 0)) (Ac (cC (.str "")) Al))))) Du)
  (Bf (cIf (Bd (cUn (En .str) (Ad 0))) (Dc (Ei (Ac (cC (.int 2)) (Ac (cC (.int 0)) (Ac (Ad 0) Al))))) Du)
  (Dc (Ei (Ac (cC (.int 1)) (Ac (Ad 0) (Ac (cC (.str "")) Al)))))))
def G9:List O->FR:=Fp 1 1 Rt
def Tn:Ev->SR :=
 (Bf
  (Dg (cF Jc (Ac (Ad 0) (Ac (cC (.int 6)) Al))) (cgN 3))
  (Bf (Dg (Hn Al) (cgN 4))
  (Bf (Rk (Mh (Ad 2)) (cgN 5) (Bf (Dg (cUn Br (cLC [none,some 3,some 0] (Mh (Ad 1)) (cgN 0) Be (cOp Ay (Ad 1) (cF Av (Ac (Ad 2) (Ac (K7 (Ad 1)) Al)))))) (cgN 6))
  (cIf (Bd (cOp (Gy true) (Ad 6) (Ad 4))) (Kz (Rz (Ad 4) (Ad 6))) Du)))
  (Dc (Ad 4)))))
def Ha:List O->FR:=Fp 3 7 Tn
def Ri:Ev->SR :=
 (Bf
  (Dg (cF Hv (Ac (Ad 0) (Ac (cC (.int 9)) Al))) (cgN 2))
  (Bf (A5g 3 4 5 (Ac (cF Av (Ac (Ad 0) (Ac (cC (.int 3)) Al))) (Ac (cF Av (Ac (Ad 0) (Ac (cC (.int 3)) Al))) (Ac (cOp Ck (cC (.int 1)) (cF Av (Ac (Ad 0) (Ac (cC (.int 2)) Al)))) Al))))
  (Bf (cIf (Bd (cOp (Di false) (cF Av (Ac (Ad 0) (Ac (cC (.int 8)) Al))) (cC (.int 0)))) (Dg (cOp Ck (cC (.int 3)) (cF Av (Ac (Ad 0) (Ac (cC (.int 3)) Al)))) (cgN 5)) Du)
  (Bf (Bd3 6 7 (Ac (cSl J3 (Ad 2) cON (cOS (Ad 3))) (Ac (cSl J3 (Ad 2) (cOS (Ad 3)) (cOS (cOp Ck (Ad 3) (Ad 4)))) Al)))
  (Bf (Dg (cSl J3 (Ad 2) (cOS (cOp Ck (Ad 3) (Ad 4))) (cOS (cOp Ck (cOp Ck (Ad 3) (Ad 4)) (Ad 5)))) (cgN 8))
  (Bf (Dg (cF Ha (Ac (Ad 0) (Ac (Ad 4) (Ac (cF Hq (Ac (Ad 0) (Ac (cC (.int 0)) (Ac (cC (.int 5)) (Ac (cC (.int 12)) Al))))) Al)))) (cgN 9))
  (Bf (Dg (cOp Ay (Hn (Ac (cC (.int 9)) (Ac (cC (.int 2)) (Ac (cC (.int 3)) Al)))) (cF Av (Ac (Ad 0) (Ac (cC (.int 3)) Al)))) (cgN 10))
  (Bf (Dg (Hn Al) (cgN 11))
  (Bf (Rk (Bm (cF Ha (Ac (Ad 0) (Ac (Ad 3) (Ac (cF Hq (Ac (Ad 0) (Ac (cC (.int 0)) (Ac (cC (.int 5)) (Ac (cC (.int 12)) Al))))) Al))))) (cgN 12) (Bf (Dg (Hn Al) (cgN 13))
  (Bf (Rk (Bm (Ad 9)) (cgN 14) (Bf (Dg (cUn Br (cLC [none,some 1,some 0] (Bm (Ad 8)) (cgN 0) Be (Ml (Bd (Ad 1)) (cF Dq (Ac (Ad 2) Al)) (cF Cr (Ac (Ad 2) Al))))) (cgN 15))
  (Kz (Rz (Ad 13) (Ml (Bd (cOp (Di false) (cF Av (Ac (Ad 0) (Ac (Ad 10) Al))) (cC (.int 0)))) (cC (.none)) (Ad 15))))))
  (Kz (Rz (Ad 11) (Ei (Ac (Ad 12) (Ac (cUn Br (Ad 13)) Al))))))))
  (Dc (Ei (Ac (cUn Br (Ad 6)) (Ac (cUn Br (Ad 7)) (Ac (cUn Br (Ad 8)) (Ac (cUn Br (Ad 9)) (Ac (cUn Br (Ad 11)) Al))))))))))))))))
def N6:List O->FR:=Fp 2 16 Ri
def Ht (pr:List O->FR):Ev->SR :=
 (Bf
  (cIf (Bd (cUn (Ju .list .tuple) (Ad 1))) (Bf (cIf (cOr (Bd (cOp (Di true) (cUn (En .list) (Ad 0)) (cUn (En .list) (Ad 1)))) (Bd (cOp (Di true) (cUn (En .tuple) (Ad 0)) (cUn (En .tuple) (Ad 1))))) (Dc (cC (.bool false))) Du)
  (Dc (Ol (cOp (Di false) (K7 (Ad 0)) (K7 (Ad 1))) (cUn Ah8 (cLC [none,none] (A9d (Ad 0) (Ad 1)) (cgT 2 (Ba (cgN 0) (Ba (cgN 1) Ek))) Be (cF pr (Ac (Ad 0) (Ac (Ad 1) Al)))))))) Du)
  (Bf (cIf (cOr (Bd (cOp (Hi false) (Ad 1) (cC (.none)))) (Bd (cUn (En .str) (Ad 1)))) (Dc (Ol (cOp (Di false) (Ad 0) (Ad 1)) (cOp (Di false) (cUn (En .str) (Ad 0)) (cUn (En .str) (Ad 1))))) Du)
  (Bf (cIf (Bd (cUn (En .bool) (Ad 1))) (Dc (Ol (cUn (En .bool) (Ad 0)) (cOp (Di false) (Ad 0) (Ad 1)))) Du)
  (Dc (Ol (cUn (En .int) (Ad 0)) (Ol (Ax3 (cUn (En .bool) (Ad 0))) (cOp (Di false) (Ad 0) (Ad 1))))))))
def Bt:Nat->List O->FR
 | 0=>fun _=>.bad
 | k+1=>Fp 2 2 (Ht (Bt k))
def Vo:Ev->SR :=
 (Dc (cLC [none] (Bm (Ad 0)) (cgN 0) Be (cF G9 (Ac (Ad 0) Al))))
def Gi:List O->FR:=Fp 1 1 Vo
def Ex:Ev->SR :=
 (Bf
  (cIf (Al8 (Bd (cUn (En .tuple) (Ad 1))) (Al8 (Bd (cOp (Di false) (K7 (Ad 1)) (cC (.int 2)))) (Al8 (Bd (cOp (Di false) (cOp Ay (Ad 1) (cC (.int 0))) (cC (.str "told")))) (Bd (cUn (Ju .list .tuple) (cOp Ay (Ad 1) (cC (.int 1)))))))) (Bf (Dg (cLC [none,none,some 0,some 1] (Mi (cOp Ay (Ad 1) (cC (.int 1)))) (cgT 2 (Ba (cgN 0) (Ba (cgN 1) Ek))) (Al8 (Bd (cOp (Gy false) (Ad 1) (Ad 2))) (Bd (cOp (Gy true) (Ad 1) (cSl J3 (cOp Ay (Ad 3) (cC (.int 1))) cON (cOS (Ad 0)))))) (Ad 1)) (cgN 2))
  (Dc (cOp Ck (cLC [none,some 0] (Bm (Ad 2)) (cgN 0) Be (Af2 (Ad 1) (Ad 0))) (cLC [none,none,some 2] (Mi (Ad 0)) (cgT 2 (Ba (cgN 0) (Ba (cgN 1) Ek))) (Bd (cOp (Gy true) (Ad 1) (Ad 2))) (Ad 0))))) Du)
  (Bf (cIf (Bd (cOp (Gy true) (Ad 1) (Ei (Ac (cC (.str "seen")) (Ac (cC (.str "rising")) (Ac (cC (.str "falling")) Al)))))) (Dc (cC (.none))) Du)
  (Bf (cIf (Bd (cOp (Di false) (Ad 1) (cC (.str "seen")))) (Dc (cUn Aq1 (K7 (Ad 0)))) Du)
  (Bf (Dg (cLC [none,none] (Bm (cUn Oc (cLC [none,none] (Mi (Ad 0)) (cgT 2 (Ba (cgN 0) (Ba (cgN 1) Ek))) Be (Ei (Ac (cF Gi (Ac (Ad 1) Al)) (Ac (Ad 0) Al)))))) (cgT 2 (Ba (cgN 0) (Ba (cgN 1) Ek))) Be (Ad 1)) (cgN 3))
  (Dc (Ml (Bd (cOp (Di false) (Ad 1) (cC (.str "rising")))) (Ad 3) (cUn Vy (Ad 3))))))))
def Cd:List O->FR:=Fp 2 4 Ex
def Nb:Ev->SR :=
 (Bf
  (Dg (cUn Br (cLC [none,none,some 1] (Bm (cOp Ay (Ad 0) (cC (.int 4)))) (cgT 2 (Ba (cgN 0) (Ba (cgN 1) Ek))) Be (Ei (Ac (Ad 0) (Ac (cUn Br (cLC [none,some 1] (Bm (Ad 2)) (cgN 0) Be (cOp Ay (Ad 1) (Ad 0)))) Al))))) (cgN 2))
  (Dc (cOp Ck (cSl J3 (Ad 0) cON (cOS (cC (.int 3)))) (Ei (Ac (cUn Br (cLC [none,some 0] (Bm (Ad 1)) (cgN 0) Be (cOp Ay (cOp Ay (Ad 1) (cC (.int 3))) (Ad 0)))) (Ac (Ad 2) Al))))))
def Fj:List O->FR:=Fp 2 3 Nb
def Us:Ev->SR :=
 (Dc (cLC [none,none] (Bm (cOp Ay (Ad 0) (cC (.int 4)))) (cgT 2 (Ba (cgN 0) (Ba (cgN 1) Ek))) Be (Ad 0)))
def Jk:List O->FR:=Fp 1 1 Us
def Am0:Ev->SR :=
 (Bf
  (Dg (Hn (Ac (Mz [("BadOrder",false)] (Ad 0)) (Ac (Mz [("BadOrder",true)] (Ad 0)) (Ac (Mz [("BadOrder",false)] (Ad 0)) Al)))) (cgN 1))
  (Bf (Dg (cOp Ck (Ad 1) (Hn (Ac (Mz [("BadOrder",false)] (Ad 0)) (Ac (Mz [("BadOrder",false)] (Ad 0)) (Ac (Mz [("BadOrder",false)] (Ad 0)) Al))))) (cgN 1))
  (Bf (Dg (Bn1 (Mz [("BadOrder",false)] (Ad 0)) (Ax3 (Mz [("BadOrder",true)] (Ad 0)))) (cgN 2))
  (Bf (cIf (cOr (Bd (Ad 2)) (Bd (cOp (Di true) (cMt Nj Vv (Ad 1) (cC (.bool true))) (cC (.int 1))))) (Dc (cC (.str "odd"))) Du)
  (Dc (cOp Ay (Hn (cK [.str "BadColumns",.str "BadOrder",.str "BadWay",.str "NoNumber",.str "NoHead",.str "NoColumn"])) (cMt Nj Ut (Ad 1) (cC (.bool true)))))))))
def Js:List O->FR:=Fp 1 3 Am0
def K1:Ev->SR :=
 (Bf
  (Dg (cC (.none)) (cgN 3))
  (Bf (cIf (Bd (Ad 2)) (Ag4 Dk (Ac (Ad 0) (Ac (Ad 1) Al)) 4 (some 3) ["BadOrder"] (Dg (cF Js (Ac (Ad 4) Al)) (cgN 3))) (Ag4 Dj (Ac (Ad 0) (Ac (Ad 1) Al)) 4 (some 3) ["BadOrder"] (Dg (cF Js (Ac (Ad 4) Al)) (cgN 3))))
  (Dc (Ad 3))))
def Ea:List O->FR:=Fp 3 5 K1
def Ai3:Ev->SR :=
 (Bf
  (Dg (Hn (Ac (cC (.str "seen")) (Ac (cC (.str "rising")) (Ac (cC (.str "falling")) (Ac (cC (.str "Rising")) (Ac (cC (.str "told")) (Ac (cC (.str "")) (Ac (cC (.str "rise")) (Ac (cC (.str "rising falling")) (Ac (cC (.none)) (Ac (cC (.int 0)) (Ac (cC (.int 1)) (Ac (cC (.bool true)) (Ac (Ei Al) (Ac (Hn Al) Al))))))))))))))) (cgN 2))
  (Bf (Dg (cOp Ck (Ad 2) (Hn (Ac (Ei (Ac (cC (.str "told")) Al)) (Ac (Ei (Ac (cC (.str "told")) (Ac (cUn Jf (Ad 1)) (Ac (cUn Jf (Ad 1)) Al)))) (Ac (Ei (Ac (cC (.str "seen")) (Ac (Hn Al) Al))) (Ac (Ei (Ac (cC (.str "rising")) Al)) (Ac (Hn (Ac (cC (.str "told")) (Ac (cUn Jf (Ad 1)) Al))) Al))))))) (cgN 2))
  (Bf (Kz (Rz (Ad 2) (Ei (Ac (cC (.str "told")) (Ac (cC (.none)) Al)))))
  (Bf (Dg (cOp Ck (Ad 2) (Hn (Ac (Ei (Ac (cC (.str "told")) (Ac (cC (.str "seen")) Al))) (Ac (Ei (Ac (cC (.str "told")) (Ac (cC (.int 0)) Al))) (Ac (Ei (Ac (cC (.str "Told")) (Ac (cUn Jf (Ad 1)) Al))) (Ac (Hn Al) (Ac (Hn (Ac (cC (.str "seen")) Al)) (Ac (Ei (Ac (cC (.str "told")) (Ac (Hn Al) Al))) (Ac (Ei (Ac (cC (.str "told")) (Ac (Ei Al) Al))) Al))))))))) (cgN 2))
  (Bf (Dg (cOp Ck (Ad 2) (Hn (Ac (Ei (Ac (cC (.str "told")) (Ac (cUn Vy (cUn Jf (Ad 1))) Al))) (Ac (Ei (Ac (cC (.str "told")) (Ac (cUn Br (Ad 1)) Al))) Al)))) (cgN 2))
  (Dc (cOp Ay (Ad 2) (cF Av (Ac (Ad 0) (Ac (K7 (Ad 2)) Al))))))))))
def Ie:List O->FR:=Fp 2 3 Ai3
def O3:Ev->SR :=
 (Bf
  (Dg (cF N6 (Ac (Ad 0) (Ac (cC (.bool false)) Al))) (cgN 1))
  (Bf (Bd3 2 3 (Ac (cF Jk (Ac (Ad 1) Al)) (Ac (cUn Jf (cOp Ay (Ad 1) (cC (.int 3)))) Al)))
  (Bf (Rk (Mh (cC (.int 4))) (cgN 4) (Bf (Dg (cF Ie (Ac (Ad 0) (Ac (cFz (Ad 3)) Al))) (cgN 5))
  (Bf (Dg (cF Cd (Ac (cFz (Ad 3)) (Ac (Ad 5) Al))) (cgN 6))
  (Bf (Dg (Ml (Bd (cOp (Hi false) (cFz (Ad 6)) (cC (.none)))) (cC (.str "BadOrder")) (cF Fj (Ac (Ad 1) (Ac (cFz (Ad 6)) Al)))) (cgN 7))
  (Bf (cIf (Ap1 (Bd (cF (Bt 8) (Ac (cF Ea (Ac (Ad 1) (Ac (Ad 5) (Ac (cC (.bool true)) Al)))) (Ac (Ad 7) Al))))) (Dc (cC (.bool false))) Du)
  (Bf (Dg (cF Ie (Ac (Ad 0) (Ac (cFz (Ad 2)) Al))) (cgN 5))
  (Bf (Dg (cF Cd (Ac (cFz (Ad 2)) (Ac (Ad 5) Al))) (cgN 6))
  (Bf (Dg (Ml (Bd (cOp (Hi false) (cFz (Ad 6)) (cC (.none)))) (cC (.str "BadOrder")) (cOp Ck (cSl J3 (Ad 1) cON (cOS (cC (.int 4)))) (Ei (Ac (cUn Br (cLC [none,some 1] (Bm (cFz (Ad 6))) (cgN 0) Be (cOp Ay (cOp Ay (Ad 1) (cC (.int 4))) (Ad 0)))) Al)))) (cgN 7))
  (cIf (Ap1 (Bd (cF (Bt 8) (Ac (cF Ea (Ac (Ad 1) (Ac (Ad 5) (Ac (cC (.bool false)) Al)))) (Ac (Ad 7) Al))))) (Dc (cC (.bool false))) Du)))))))))
  (Bf (Dg (Hn (Ac (cFY Dk (Ac (Ad 1) (Ac (cC (.str "seen")) Al))) (Ac (cFY Dk (Ac (Ad 1) (Ac (Ei (Ac (cC (.str "told")) (Ac (Hn Al) Al))) Al))) (Ac (cFY Dj (Ac (Ad 1) (Ac (cC (.str "seen")) Al))) (Ac (cFY Dj (Ac (Ad 1) (Ac (Ei (Ac (cC (.str "told")) (Ac (Ei Al) Al))) Al))) Al))))) (cgN 8))
  (Dc (cUn Ah8 (cLC [none,some 1] (Bm (Ad 8)) (cgN 0) Be (cF (Bt 8) (Ac (Ad 0) (Ac (Ad 1) Al))))))))))
def Ly:List O->FR:=Fp 1 9 O3
def Vq:Ev->SR :=
 (cIf (Ap1 (Bd (cFO Ly (cF Ms (Ac (Ad 0) (Ac (Ad 1) Al))) Al))) (Dc (cC (.bool false))) Du)
def An6:Ev->SR :=
 (Bf
  (Rk (Mh (cOp Z2 (cC (.int 3)) (cOp Zw (K7 (Ad 0)) (cC (.int 12))))) (cgN 1) Vq)
  (Dc (cC (.bool true))))
def Ap5:List O->FR:=Fp 1 2 An6
local macro_rules | `(tactic| wp_walk using $ts,*)=>`(tactic| simp only [Bf,Dg,cgN,cgT,Ba,Ek,Ad,cC,cOp,cUn,K7,cF,cFO,cFz,List.all_cons,List.all_nil,List.contains_cons,M3,Qu,slots,pairsOf,ndB,Ho,Al,Ac,cK,nrm,Er,rdP,O.dat,O.flag,O.bor,frz,frzs,Ei,Hn,cIf,Bd,Be,Al8,cOr,Ap1,Ol,Bn1,Ax3,Ml,Dc,Kz,Du,Rz,slL,Uw,Av1,Bd3,A5g,cSl,cON,cOS,Mh,cIn,R.bind_ok,R.toS_ok,Fp,A1r,resolve,Ia,Z7,U.opI,U.Wn,Bu8,Bw0,Ot,Ys,Qq,Tt,Vp,Oo,Bv6,List.getElem?_cons_zero,List.getElem?_cons_succ,List.set_cons_zero,List.set_cons_succ,List.map_cons,List.map_nil,List.length_cons,List.length_nil,List.replicate,List.cons_append,List.nil_append,List.append_nil,List.contains_nil,Option.map_some,Option.map_none,Option.bind_some,Option.join_some,Option.isSome_some,if_true,if_false,Bool.not_true,Bool.not_false,Bool.and_true,Bool.true_and,Bool.and_false,Bool.false_and,Bool.or_true,Bool.or_false,Bool.true_or,Bool.false_or,Nat.sub_self,List.dropLast,List.any_nil,List.flatMap_nil,ite_true,ite_false,decide_true,decide_false,reduceCtorEq,B1a,By4,B0y,B1p,B0o,Bl2,Bq4,Bl9,U.A0f,Nat.zero_add,Nat.reduceAdd,Nat.reduceSub,Nat.reduceLeDiff,Nat.reduceLT,Nat.reduceEqDiff,Int.reduceAdd,Int.reduceSub,Int.reduceNeg,Int.reduceLT,Int.reduceLE,Int.reducePow,Int.reduceToNat,Int.reduceMul,and_self,and_true,true_and,Bool.false_eq_true,Option.some.injEq,Kw,Wi,xIf,Z8,Tc,Sv,Ae1,Ag4,Bh4,tryH,unX,cFY,V6,Mz,$[$ts:term],*])
def Bx (n:Nat)(ds:List PyData):Prop:=∃x y z:Int,ds=[.int x,.int y,.int z]/\0<=x/\0<=y/\y<2 ^ 62/\0<=z/\z<=n
theorem Bx.mono   (h:Bx n ds) (l:n<=m):Bx m ds:=by
 obtain⟨x,y,z,e,b,c,a,d,f⟩:=h
 exact⟨x,y,z,e,b,c,a,d,by omega⟩
theorem mod_lt {x m:Int}(h:0<m):0<=x % m/\x % m<m:=⟨Int.emod_nonneg _ (by omega),Int.emod_lt_of_pos _ h⟩
theorem A5f  (h:-(2 ^ 64)<i/\i<2 ^ 64):Vh i j=true:=by
 unfold Vh;grind
theorem Aa0  (h:-(2 ^ 64)<j/\j<2 ^ 64):Vh i j=true:=by
 unfold Vh;grind
theorem An5  (h:0<j):A8n i j=true:=decide_eq_true h
theorem B0f  (h:0<j/\j<1073741824):Aw7 i j=true:=by
 unfold Aw7;grind
theorem B0r:Ag9 10 18=true:=by rfl
theorem Bi9:Ag9 10 12=true:=by rfl
theorem Bj4:Ag9 10 11=true:=by rfl
theorem Dz    (hb:Bx n ds) (hn:n<2 ^ 40) (a:0<m) (h1:m<16000000) :
 ∃r ds',Bx (n+1) ds'/\0<=r/\r<m/\Av [.ls true ds,.im (.int m)]=.ret (.im (.int r)) [.ls true ds',.im (.int m)]:=by
 obtain⟨x,y,z,rfl,d,e,b,g,z1⟩:=hb
 by_cases c:0<x
 ·refine⟨x % m,[.int (x / m),.int y,.int z],⟨_,_,_,rfl,Int.ediv_nonneg d (by omega),e,b,g,by omega⟩,(mod_lt a).1,(mod_lt a).2,?_⟩
  wp_walk using Av,Rv,Ay,decide_eq_true c,An5 a,B0f ⟨a,(by omega:m<1073741824)⟩
 ·have h:=mod_lt (x:=(y+48271*(z+1))*(39373+(z+1))) (m:=2147483647) (by decide)
  generalize e1:(y+48271*(z+1))*(39373+(z+1)) % 2147483647=once at h
  have g2:=mod_lt (x:=once) (m:=40009) (by decide)
  have f:=mod_lt (x:=(once+(z+1))*(once % 40009+7)) (m:=2147483629) (by decide)
  generalize e2:(once+(z+1))*(once % 40009+7) % 2147483629=twice at f
  refine⟨(twice*48271+once) % 2147483587 / 64 % m,[.int x,.int y,.int (z+1)],⟨_,_,_,rfl,d,e,b,by omega,by omega⟩,(mod_lt a).1,(mod_lt a).2,?_⟩
  wp_walk using Av,Rv,Ay,Lj,Ck,decide_eq_false c,An5 a,B0f (i:=(twice*48271+once) % 2147483587) (j:=64) ⟨by decide,by decide⟩,A5f (i:=48271) (j:=z+1) ⟨by decide,by decide⟩,Aa0 (i:=y+48271*(z+1)) (j:=39373+(z+1)) ⟨by omega,by omega⟩,An5 (i:=(y+48271*(z+1))*(39373+(z+1))) (j:=2147483647) (by decide),e1,An5 (i:=once) (j:=40009) (by decide),Aa0 (i:=once+(z+1)) (j:=once % 40009+7) ⟨by omega,by omega⟩,An5 (i:=(once+(z+1))*(once % 40009+7)) (j:=2147483629) (by decide),e2,Aa0 (i:=twice)  _,An5  (j:=2147483587) (by decide)
theorem Ar2  {k:Nat}:∃i:Int,Gu [.sc ns,.im (.int k)]=.ret (.im (.int i)) [.sc ns,.im (.int k)]:=by
 by_cases c:k<ns.length
 ·refine⟨ns[k],?_⟩
  have e:atI ns (k:Int)=some ns[k]:=J1 (List.getElem?_eq_getElem c)
  wp_walk using Gu,Lz,Ql,Df,PyData.canLay0,PyData.depth,Kl,decide_eq_true (show (k:Int)<ns.length by omega),e,Nat.zero_le
 ·refine⟨0,?_⟩
  wp_walk using Gu,Lz,Ql,Df,PyData.canLay0,PyData.depth,Kl,decide_eq_false (show ¬ (k:Int)<ns.length by omega),Nat.zero_le
theorem Bw9  {k:Nat}(hk:k<=63):∃ds,Bx 0 ds/\Ms [.sc ns,.im (.int k)]=.ret (.ls false ds) [.sc ns,.im (.int k)]:=by
 obtain⟨i,e⟩:=Ar2 (ns:=ns) (k:=k)
 have a:(0:Int)<=(if i<0 then -i else i):=by grind
 have c:=mod_lt (x:=i) (m:=2305843009213693951) (by decide)
 generalize ea:(if i<0 then -i else i)=ab at a
 have b:(0:Int)<=(if decide ((1000000000000000000:Int)<=ab)=true then 1 else 0)/\(if decide ((1000000000000000000:Int)<=ab)=true then (1:Int) else 0)<=1:=by omega
 generalize eo:(if decide ((1000000000000000000:Int)<=ab)=true then (1:Int) else 0)=on at b
 refine⟨[.int (ab*on),.int (i % 2305843009213693951+39373*(k:Int)+17),.int 0],⟨_,_,_,rfl,Int.mul_nonneg a b.1,by omega,by omega,by omega,by omega⟩,?_⟩
 wp_walk using Ms,Ac3,e,Av4,ea,A5j,Lj,Ck,eo,B0r,An5 (i:=i) (j:=2305843009213693951) (by decide),Aa0  (j:=on) ⟨by omega,by omega⟩,A5f   _
theorem Av0    (hb:Bx n ds) (hn:n<2 ^ 39) (j:0<=l) (h1:l<=7) (h2:l<=f) (t:f<=m) (o:7<=m) (p:m<1000) :
 ∃r ds',Bx (n+2) ds'/\l<=r/\r<=m/\Hq [.ls true ds,.im (.int l),.im (.int f),.im (.int m)]=.ret (.im (.int r)) [.ls true ds',.im (.int l),.im (.int f),.im (.int m)]:=by
 obtain⟨r,s,g,u,k,e⟩:=Dz (m:=8) hb (by omega) (by decide) (by decide)
 by_cases c:r=0
 ·subst c
  obtain⟨q,a,d,h,i,b⟩:=Dz (m:=m-6) g (by omega) (by omega) (by omega)
  refine⟨7+q,a,d,by omega,by omega,?_⟩
  wp_walk using Hq,Su,e,b,Di,Df,PyData.canLay0,PyData.depth,PyData.eqv,Ck,Nat.zero_le,beq_self_eq_true
 ·obtain⟨q,a,d,h,i,b⟩:=Dz (m:=f-l+1) g (by omega) (by omega) (by omega)
  refine⟨l+q,a,d,by omega,by omega,?_⟩
  wp_walk using Hq,Su,e,b,Di,Df,PyData.canLay0,PyData.depth,PyData.eqv,Ck,Nat.zero_le,beq_eq_false_iff_ne.mpr c
theorem A1v   (hb:Bx n ds) (hn:n<2 ^ 39):∃(i:Int) (ds':List PyData),Bx (n+2) ds'/\VB (.int i)/\Dq [.ls true ds]=.ret (.im (.int i)) [.ls true ds']:=by
 obtain⟨r,d1,k,r0,r1,j⟩:=Dz (m:=9) hb (by omega) (by decide) (by decide)
 by_cases c:r=0
 ·subst c
  obtain⟨q,b,e,f,h,a⟩:=Dz (m:=4) k (by omega) (by decide) (by decide)
  obtain⟨d,s,g,_⟩:=Rq (l:=[PyData.int 999999999999,.int (-999999999999),.int 100000000000,.int 0]) (r:=q) f h
  have p:∃i:Int,d=.int i/\VB (.int i):=by
   simp only[List.mem_cons,List.not_mem_nil,or_false]at g
   rcases g with rfl | rfl | rfl | rfl <;> exact⟨_,rfl,by decide⟩
  obtain⟨i,rfl,o⟩:=p
  refine⟨i,b,e,o,?_⟩
  wp_walk using Dq,Mt,j,a,Di,Df,PyData.canLay0,PyData.depth,PyData.eqv,Ck,Nat.zero_le,beq_self_eq_true,Bi9,Bj4,Ay,s
 ·obtain⟨q,b,e,f,h,a⟩:=Dz (m:=25) k (by omega) (by decide) (by decide)
  refine⟨q-7,b,e,?_,?_⟩
  ·show (decide (-1000000000000<=q-7)&&decide _)=true
   rw[decide_eq_true (by omega),decide_eq_true (by omega)];rfl
  wp_walk using Dq,Mt,j,a,Di,Df,PyData.canLay0,PyData.depth,PyData.eqv,Ck,Nat.zero_le,beq_eq_false_iff_ne.mpr c
theorem Aj8   (hb:Bx n ds) (hn:n<2 ^ 39):∃(v:Vl) (ds':List PyData),Bx (n+2) ds'/\VB v/\Cr [.ls true ds]=.ret (.im v.d) [.ls true ds']:=by
 obtain⟨r,t,k,r0,r1,j⟩:=Dz (m:=9) hb (by omega) (by decide) (by decide)
 by_cases c4:r<4
 ·obtain⟨q,e,g,h,i,c⟩:=Dz (m:=13) k (by omega) (by decide) (by decide)
  refine⟨.int (q-3),e,g,?_,?_⟩
  ·show (decide (-1000000000000<=q-3)&&decide (q-3<=1000000000000))=true
   rw[decide_eq_true (by omega),decide_eq_true (by omega)];rfl
  wp_walk using Cr,Jl,j,c,Ql,Kl,Df,PyData.canLay0,PyData.depth,Nat.zero_le,decide_eq_true c4,Vl.d
 by_cases c5:r=4
 ·subst c5
  obtain⟨q,e,g,h,i,c⟩:=Dz (m:=4) k (by omega) (by decide) (by decide)
  obtain⟨d,s,f,_⟩:=Rq (l:=[PyData.int 999999999999,.int (-100000000000),.int 100,.int 10]) (r:=q) h i
  have p:∃v:Vl,d=v.d/\VB v:=by
   simp only[List.mem_cons,List.not_mem_nil,or_false]at f
   rcases f with rfl | rfl | rfl | rfl <;> exact⟨.int _,rfl,by decide⟩
  obtain⟨v,rfl,o⟩:=p
  refine⟨v,e,g,o,?_⟩
  wp_walk using Cr,Jl,j,c,Ql,Kl,Di,Df,PyData.canLay0,PyData.depth,PyData.eqv,Nat.zero_le,decide_eq_false c4,beq_self_eq_true,Bi9,Bj4,Ay,s
 by_cases c6:r=5
 ·subst c6
  refine⟨.non,t,k.mono (by omega),rfl,?_⟩
  wp_walk using Cr,Jl,j,Ql,Kl,Di,Df,PyData.canLay0,PyData.depth,PyData.eqv,Nat.zero_le,decide_eq_false c4,beq_self_eq_true,beq_eq_false_iff_ne.mpr c5,Vl.d
 ·obtain⟨q,e,g,h,i,c⟩:=Dz (m:=15) k (by omega) (by decide) (by decide)
  obtain⟨d,s,f,_⟩:=Rq (l:=[PyData.str "",.str "a",.str "b",.str "B",.str "10",.str "9",.str "-",.str "a b",.str "it's",.str "\\",.str "/",.str "_",.str ":",.str "None",.str "ab"]) (r:=q) h i
  have p:∃v:Vl,d=v.d/\VB v:=by
   simp only[List.mem_cons,List.not_mem_nil,or_false]at f
   rcases f with rfl | rfl | rfl | rfl | rfl | rfl | rfl | rfl | rfl | rfl | rfl | rfl | rfl | rfl | rfl <;> exact⟨.str _,rfl,by decide⟩
  obtain⟨v,rfl,o⟩:=p
  refine⟨v,e,g,o,?_⟩
  wp_walk using Cr,Jl,j,c,Ql,Kl,Di,Df,PyData.canLay0,PyData.depth,PyData.eqv,Nat.zero_le,decide_eq_false c4,beq_eq_false_iff_ne.mpr c5,beq_eq_false_iff_ne.mpr c6,Ay,s
def names12:List Str:=[Str.ofString "b",Str.ofString "a",Str.ofString "year",Str.ofString "z",Str.ofString "ab",Str.ofString "month",Str.ofString "aa",Str.ofString "quantity",Str.ofString "c",Str.ofString "town",Str.ofString "zz",Str.ofString "ba"]
theorem Bh7 {m:Nat}(h:m<=1000):(m:Int)<=16000000/\-16000000<=(m:Int):=by omega
theorem upN {n k a b c:Nat}(hn:n<a)(hk:k<=b)(h:a+b<=c):n+k<c:=Nat.lt_of_lt_of_le (Nat.add_lt_add_of_lt_of_le hn hk) h
theorem Bf4 {n:Nat}{r:Int}(a:0<=r)(h1:r<n):ixN n r=some r.toNat:=by
 unfold ixN;simp_all
theorem Oa   : (Ko lo n).length=n:=by unfold Ko;simp_all
theorem Ny    (h:(Ko lo n)[k]?=some d):d=.int (lo+k)/\k<n:=by
 unfold Ko at h
 grind
theorem W9 {α β:Type}(f:α->β):∀(l:List α) (j:Nat),(l.map f).eraseIdx j=(l.eraseIdx j).map f
 | [],j=>rfl
 | a::l,0=>rfl
 | a::l,j+1=>by rw[List.map_cons,List.eraseIdx_cons_succ,List.eraseIdx_cons_succ,List.map_cons,W9 f l j]
theorem Wa {α:Type}:∀(l:List α) {j:Nat}(h:j<l.length),(l[j]::l.eraseIdx j).Perm l
 | a::l,0,h=>List.Perm.refl _
 | a::l,j+1,h=>by
  rw[List.eraseIdx_cons_succ,List.getElem_cons_succ]
  exact(List.Perm.swap a _ _).trans (List.Perm.cons a (Wa l (by simpa using h)))
structure Names (ns:List Str):Prop where
 nd:ns.Nodup
 sub:∀x∈ns,x∈names12
theorem A7e    (hb:Bx n ds) (hn:n<2 ^ 38) (hm:m<=12) :
 ∃b ds',b.length=m/\Names b/\Bx (n+m) ds'/\Hv [.ls true ds,.im (.int m)]=.ret (.ls false (b.map PyData.str)) [.ls true ds',.im (.int m)]:=by
 have i:=Nr (g:=cgN 0) (ft:=Be) (fe:=Uw (Ad 1) (cF Av (Ac (Ad 2) (Ac (K7 (Ad 1)) Al)))) (items:=Ko 0 m) (acc:=[]) (n:=0) (c:=[none,some (.ls true (names12.map PyData.str)),some (.ls true ds)])
  (P:=fun k f c=>∃a h t b,c=[t,some (.ls true (a.map PyData.str)),some (.ls true h)]/\Bx (n+k) h/\f=b.map PyData.str/\(b++a).Perm names12/\b.length=k)
  ⟨names12,ds,none,[],rfl,hb,rfl,List.Perm.refl _,rfl⟩ (fun k d f c C w=>by
   rw[Nat.zero_add]at w ⊢;obtain⟨a,h,t,b,rfl,o,rfl,j,l⟩:=w;obtain⟨rfl,hk⟩:=Ny C
   have ll:a.length+k=12:=by have:=j.length_eq;rw[List.length_append,l]at this;have e:names12.length=12:=rfl;omega
   obtain⟨r,v,A,z,y,B⟩:=Dz (m:=(a.length:Int)) o (by omega) (by omega) (by omega)
   have u:r.toNat<a.length:=by omega
   have q:(a.map PyData.str)[r.toNat]?=some (.str a[r.toNat]):=by simp[u]
   have p:ixN a.length r=some r.toNat:=Bf4 z y
   refine⟨some (.str a[r.toNat]),[some (.im (.int (0+(k:Int)))),some (.ls true ((a.eraseIdx r.toNat).map PyData.str)),some (.ls true v)],?_,a.eraseIdx r.toNat,v,_,b++[a[r.toNat]],rfl,A.mono (by omega),by simp,?_,by simp[l]⟩
   ·wp_walk using Kf,List.length_map,B,p,q,W9,show a.length<=16000000 by omega
   ·rw[List.append_assoc]
    exact(List.Perm.append_left b (Wa a u)).trans j)
 obtain⟨f,cI,e,a,h,t,b,rfl,o,rfl,j,l⟩:=i;rw[Nat.zero_add,Oa]at o l
 have D:(b++a).Nodup:=j.nodup_iff.mpr (by decide)
 refine⟨b,h,l,⟨(List.nodup_append.mp D).1,fun x q=>j.mem_iff.mp (List.mem_append_left _ q)⟩,o,?_⟩
 have s:cLC [none,some 2,some 0] (Mh (Ad 1)) (cgN 0) Be (Uw (Ad 1) (cF Av (Ac (Ad 2) (Ac (K7 (Ad 1)) Al)))) [some (.ls true ds),some (.im (.int m)),some (.ls false (names12.map PyData.str))]=.ok (.o (.ls false (b.map PyData.str))) [some (.ls true h),some (.im (.int m)),some (.ls false (a.map PyData.str))] :=
  Et (ds:=Ko 0 m) (c1:=[some (.ls true ds),some (.im (.int m)),some (.ls false (names12.map PyData.str))]) (by wp_walk using Bh7  (Nat.le_trans hm (by decide)),Int.toNat_natCast) (by rw[Oa];exact Nat.le_trans hm (by decide)) e (by wp_walk using true_and)
 unfold Hv Ul;simp only[names12,List.map_cons,List.map_nil]at s
 wp_walk using s
theorem Az6 {k:Nat}{vs:List Vl}  (h:v∉vs) (a:vs.Nodup):(vs++[v]).Nodup:=by
 grind
theorem Bb1    (hb:Bx n ds) (hn:n<2 ^ 38) (hm:m<=1000) :
 ∃a ds',VBs a/\a.Nodup/\a.length<=m/\(0<m->a≠[])/\Bx (n+2*m) ds'/\Jc [.ls true ds,.im (.int m)]=.ret (.ls false (a.map Vl.d)) [.ls true ds',.im (.int m)]:=by
 have i:=Ji (g:=cgN 3) (body:=Bf (Dg (cF Cr (Ac (Ad 0) Al)) (cgN 4)) (cIf (Bd (cOp (Gy true) (Ad 4) (Ad 2))) (Kz (Rz (Ad 2) (Ad 4))) Du)) (items:=Ko 0 m) (n:=0) (c:=[some (.ls true ds),some (.im (.int m)),some (.ls false []),none,none])
  (P:=fun k c=>∃j a x y,c=[some (.ls true j),some (.im (.int m)),some (.ls false (a.map Vl.d)),x,y]/\Bx (n+2*k) j/\VBs a/\a.Nodup/\a.length<=k/\(0<k->a≠[]))
  ⟨ds,[],none,none,rfl,hb,(fun v b=>by cases b),List.nodup_nil,Nat.le_refl _,fun h=>absurd h (by decide)⟩ (fun k d c B s=>by
   rw[Nat.zero_add]at s ⊢;obtain⟨j,a,x,y,rfl,p,b,o,l,f⟩:=s;obtain⟨rfl,w⟩:=Ny B
   obtain⟨v,q,t,r,A⟩:=Aj8 p (upN hn (Nat.mul_le_mul_left 2 (Nat.le_trans (Nat.le_of_lt w) hm)) (by decide))
   by_cases c:v∈a
   ·refine⟨[some (.ls true q),some (.im (.int m)),some (.ls false (a.map Vl.d)),some (.im (.int (0+(k:Int)))),some (.im v.d)],.inl ?_,q,a,_,_,rfl,t,b,o,Nat.le_succ_of_le l,fun _ z=>by rw[z]at c;cases c⟩
    wp_walk using A,A3s r b,decide_eq_true c
   ·refine⟨[some (.ls true q),some (.im (.int m)),some (.ls false ((a++[v]).map Vl.d)),some (.im (.int (0+(k:Int)))),some (.im v.d)],.inl ?_,q,a++[v],_,_,rfl,t,VBs.app b (fun u C=>by rw[List.mem_singleton.mp C];exact r),Az6 (k:=k) c o,by rw[List.length_append,List.length_singleton];omega,fun _=>by simp⟩
    wp_walk using A,A3s r b,decide_eq_false c,List.length_map,show a.length<16000000 from Nat.lt_of_le_of_lt l (Nat.lt_of_lt_of_le w (Nat.le_trans hm (by decide))),List.map_append)
 obtain⟨c',e,j,a,x,y,rfl,p,b,o,l,f⟩:=i;rw[Nat.zero_add,Oa]at p l f
 refine⟨a,j,b,o,l,f,p,?_⟩
 unfold Jc Xf
 wp_walk using Rk,Bh7 hm,Int.toNat_natCast,e
theorem A8h {n:Nat}{ds:List PyData}{vs:List Vl}{w:Nat}(hb:Bx n ds)(hn:n<2 ^ 38)(hw:w<=1000)(hv:VBs vs)(j:vs≠[])(hl:vs.length<=1000) :
 ∃
  a f t,a.length=w/\VBs a/\(∀u∈a,u∈vs)/\Bx (n+w) f /\
  Eh (cgN 0) Be (cOp Ay (Ad 1) (cF Av (Ac (Ad 2) (Ac (K7 (Ad 1)) Al)))) (Ko 0 w) [] [none,some (.ls true (vs.map Vl.d)),some (.ls true ds)]=.ok (a.map Vl.d) [t,some (.ls true (vs.map Vl.d)),some (.ls true f)]:=by
 have i:=Nr (g:=cgN 0) (ft:=Be) (fe:=cOp Ay (Ad 1) (cF Av (Ac (Ad 2) (Ac (K7 (Ad 1)) Al)))) (items:=Ko 0 w) (acc:=[]) (n:=0) (c:=[none,some (.ls true (vs.map Vl.d)),some (.ls true ds)])
  (P:=fun k b c=>∃f t a,c=[t,some (.ls true (vs.map Vl.d)),some (.ls true f)]/\Bx (n+k) f/\b=a.map Vl.d/\a.length=k/\VBs a/\∀u∈a,u∈vs)
  ⟨ds,none,[],rfl,hb,rfl,rfl,(fun v hv=>by cases hv),fun v hv=>by cases hv⟩ (fun k d b c B s=>by
   rw[Nat.zero_add]at s ⊢;obtain⟨f,t,a,rfl,p,rfl,q,y,z⟩:=s;obtain⟨rfl,o⟩:=Ny B;have C:0<vs.length:=List.length_pos_iff.mpr j
   obtain⟨r,D,E,A,r1,G⟩:=Dz (m:=(vs.length:Int)) p (upN hn (Nat.le_trans (Nat.le_of_lt o) hw) (by decide)) (Int.natCast_pos.mpr C) (Int.ofNat_lt.mpr (Nat.lt_of_le_of_lt hl (by decide)))
   obtain⟨x,F,H,_⟩:=Rq (l:=vs.map Vl.d) (r:=r) A (by simp_all)
   obtain⟨v,I,rfl⟩:=List.mem_map.mp H
   refine⟨some v.d,[some (.im (.int (0+k))),some _,some _],?_,D,_,a++[v],rfl,E,by simp,by grind,VBs.app y fun u h=>by grind,fun u h=>by
    grind⟩
   wp_walk using Kf,List.length_map,G,Ay,F)
 obtain⟨b,cI,e,f,t,a,rfl,p,rfl,q,y,z⟩:=i;rw[Oa]at p q
 grind
theorem X3 {n:Nat}{ds:List PyData}{w m:Nat}(hb:Bx n ds)(hn:n<2 ^ 37)(hw:w<=100)(hm:m<=1000) :
 ∃(f:List (List Vl)) (ds':List PyData),f.Nodup/\(∀t∈f,t.length=w/\VBs t)/\f.length<=m/\Bx (n+12+w*m) ds'/\Ha [.ls true ds,.im (.int w),.im (.int m)]=.ret (.ls false (f.map tD)) [.ls true ds',.im (.int w),.im (.int m)]:=by
 obtain⟨i,E,F,s,H,C,Q,D⟩:=Bb1 (m:=6) hb (Nat.lt_trans hn (by decide)) (by decide)
 have D:Jc [.ls true ds,.im (.int 6)]=.ret (.ls false (i.map Vl.d)) [.ls true E,.im (.int 6)]:=D
 have z:=Ji (g:=cgN 5) (body:=Bf (Dg (cUn Br (cLC [none,some 3,some 0] (Mh (Ad 1)) (cgN 0) Be (cOp Ay (Ad 1) (cF Av (Ac (Ad 2) (Ac (K7 (Ad 1)) Al)))))) (cgN 6)) (cIf (Bd (cOp (Gy true) (Ad 6) (Ad 4))) (Kz (Rz (Ad 4) (Ad 6))) Du)) (items:=Ko 0 m) (n:=0)
  (c:=[some (.ls true E),some (.im (.int w)),some (.im (.int m)),some (.ls false (i.map Vl.d)),some (.ls false []),none,none])
  (P:=fun k c=>∃l f x y,c=[some (.ls true l),some (.im (.int w)),some (.im (.int m)),some (.ls false (i.map Vl.d)),some (.ls false (f.map tD)),x,y]/\Bx (n+12+w*k) l/\f.Nodup/\(∀t∈f,t.length=w/\VBs t)/\f.length<=k)
  ⟨E,[],none,none,rfl,Q,List.nodup_nil,(fun v F=>by cases F),Nat.le_refl _⟩ (fun k d c N J=>by
   rw[Nat.zero_add]at J ⊢;obtain⟨l,f,x,y,rfl,B,s,o,q⟩:=J;obtain⟨rfl,L⟩:=Ny N;have r:w*k<=100*1000:=Nat.mul_le_mul hw (Nat.le_of_lt (Nat.lt_of_lt_of_le L hm))
   obtain⟨j,p,t,R,G,_,S,O⟩:=A8h (w:=w) (vs:=i) B (upN (upN hn (Nat.le_refl 12) (show 2 ^ 37+12<=2 ^ 37+100 by decide)) r (by decide)) (Nat.le_trans hw (by decide)) F (C (by decide)) (Nat.le_trans H (by decide))
   have K:cLC [none,some 3,some 0] (Mh (Ad 1)) (cgN 0) Be (cOp Ay (Ad 1) (cF Av (Ac (Ad 2) (Ac (K7 (Ad 1)) Al)))) [some (.ls true l),some (.im (.int w)),some (.im (.int m)),some (.ls false (i.map Vl.d)),some (.ls false (f.map tD)),some (.im (.int (0+(k:Int)))),y]=.ok (.o (.ls false (j.map Vl.d))) [some (.ls true p),some (.im (.int w)),some (.im (.int m)),some (.ls false (i.map Vl.d)),some (.ls false (f.map tD)),some (.im (.int (0+(k:Int)))),y] :=
    Et (ds:=Ko 0 w) (c1:=[some (.ls true l),some (.im (.int w)),some (.im (.int m)),some (.ls false (i.map Vl.d)),some (.ls false (f.map tD)),some (.im (.int (0+(k:Int)))),y]) (by wp_walk using Bh7 (m:=w) (Nat.le_trans hw (by decide)),Int.toNat_natCast) (by rw[Oa];omega) O (by wp_walk using true_and)
   have A:Bx (n+12+w*(k+1)) p:=S.mono (Nat.le_of_eq (Nat.add_assoc _ _ _));have M:PyData.tuple (j.map Vl.d)=tD j:=rfl
   by_cases c:j∈f
   ·refine⟨[some (.ls true p),some (.im (.int w)),some (.im (.int m)),some (.ls false (i.map Vl.d)),some (.ls false (f.map tD)),some (.im (.int (0+(k:Int)))),some (.im (tD j))],.inl ?_,p,f,_,_,rfl,A,s,o,Nat.le_succ_of_le q⟩
    wp_walk using K,Br,M,Ro G (fun u I=>(o u I).2),decide_eq_true c
   ·refine⟨[some (.ls true p),some (.im (.int w)),some (.im (.int m)),some (.ls false (i.map Vl.d)),some (.ls false ((f++[j]).map tD)),some (.im (.int (0+(k:Int)))),some (.im (tD j))],.inl ?_,p,f++[j],_,_,rfl,A,?_,fun t h=>?_,by rw[List.length_append,List.length_singleton];exact Nat.succ_le_succ q⟩
    ·wp_walk using K,Br,M,Ro G (fun u I=>(o u I).2),decide_eq_false c,List.length_map,show f.length<16000000 from Nat.lt_of_le_of_lt q (Nat.lt_of_lt_of_le L (Nat.le_trans hm (by decide))),List.map_append
    ·rw[List.nodup_append]
     exact⟨s,by simp,fun a T b hb e=>by rw[List.mem_singleton.mp hb]at e;exact c (e▸T)⟩
    ·rcases List.mem_append.mp h with h | h
     ·exact o t h
     ·rw[List.mem_singleton.mp h];exact⟨R,G⟩)
 obtain⟨c',e,l,f,x,y,rfl,B,s,o,q⟩:=z;rw[Nat.zero_add,Oa]at B q
 refine⟨f,l,s,o,q,B,?_⟩
 unfold Ha Tn
 wp_walk using D,Rk,Bh7 hm,Int.toNat_natCast,e
structure Wd where
 key:List Str
 names:List Str
 vals:List Str
 heads:List (List Vl)
 rows:List (List Vl×List (Option (List Vl)))
def nD (ns:List Str):PyData:=.tuple (ns.map PyData.str)
def Eo:Option (List Vl)->PyData
 | none=>.none
 | some c=>tD c
def Es (r:List Vl×List (Option (List Vl))):PyData:=.tuple [tD r.1,.tuple (r.2.map Eo)]
def Wd.ps (w:Wd):List PyData:=[nD w.key,nD w.names,nD w.vals,.tuple (w.heads.map tD),.tuple (w.rows.map Es)]
def Wd.d (w:Wd):PyData:=.tuple w.ps
def Yn (n:Nat)(c:Option (List Vl)):Prop:=∀vs,c=some vs->vs.length=n/\VBs vs
structure Ah7 (k h v:Nat) (r:List Vl×List (Option (List Vl))):Prop where
 plen:r.1.length=k
 part:VBs r.1
 clen:r.2.length=h
 cells:∀c∈r.2,Yn v c
structure Wd.Ok (w:Wd):Prop where
 nms:Names (w.key++w.names++w.vals)
 klen:w.key.length<=2
 nlen:w.names.length<=2
 vlen:w.vals.length<=5
 vpos:1<=w.vals.length
 heads:∀h∈w.heads,h.length=w.names.length/\VBs h
 hnd:w.heads.Nodup
 hlen:w.heads.length<=12
 rows:∀r∈w.rows,Ah7 w.key.length w.heads.length w.vals.length r
 rnd:(w.rows.map (·.1)).Nodup
 rlen:w.rows.length<=12
def Wd.Num (w:Wd):Prop:=∀r∈w.rows,∀c∈r.2,∀vs,c=some vs->∀v∈vs,∃i,v=Vl.int i
theorem Al4  {b:Nat}:cutD ds none (some (b:Int))=ds.take b:=by
 unfold cutD;rw[HT.A4k,HT.Yv,List.drop_zero]
 simp_all
theorem A3g {ds:List PyData}{a b:Nat}(h:a<=b)(hb:b<=ds.length):cutD ds (some (a:Int)) (some (b:Int))=(ds.drop a).take (b-a):=by
 unfold cutD;rw[HT.Yv,HT.Yv,Nat.min_eq_left hb,Nat.min_eq_left (Nat.le_trans h hb)]
theorem Bf3 {n:Nat}{ds:List PyData}{items:List PyData}{num:Bool}(hb:Bx n ds)(hn:n<2 ^ 38)(hl:items.length<=1000) :
 ∃
  a f t,a.length=items.length/\VBs a/\(num=true->∀u∈a,∃i,u=Vl.int i)/\Bx (n+2*items.length) f /\
  Eh (cgN 0) Be (Ml (Bd (Ad 1)) (cF Dq (Ac (Ad 2) Al)) (cF Cr (Ac (Ad 2) Al))) items [] [none,some (.im (.bool num)),some (.ls true ds)]=.ok (a.map Vl.d) [t,some (.im (.bool num)),some (.ls true f)]:=by
 have p:=Nr (g:=cgN 0) (ft:=Be) (fe:=Ml (Bd (Ad 1)) (cF Dq (Ac (Ad 2) Al)) (cF Cr (Ac (Ad 2) Al))) (items:=items) (acc:=[]) (n:=0) (c:=[none,some (.im (.bool num)),some (.ls true ds)])
  (P:=fun k e c=>∃f t a,c=[t,some (.im (.bool num)),some (.ls true f)]/\k<=items.length/\Bx (n+2*k) f/\e=a.map Vl.d/\a.length=k/\VBs a/\(num=true->∀u∈a,∃i,u=Vl.int i))
  ⟨ds,none,[],rfl,Nat.zero_le _,hb,rfl,rfl,(fun v o=>by cases o),fun _ v o=>by cases o⟩ (fun k d e c hd s=>by
   rw[Nat.zero_add]at s ⊢;obtain⟨f,t,a,rfl,x,q,rfl,r,w,hs⟩:=s
   have b:k<items.length:=by
    grind
   cases num with
   | true =>
    obtain⟨i,j,m,y,l⟩:=A1v q (upN hn (Nat.mul_le_mul_left 2 (Nat.le_trans (Nat.le_of_lt b) hl)) (by decide))
    refine⟨some (.int i),[some (.im d),some (.im (.bool true)),some (.ls true j)],?_,j,_,a++[.int i],rfl,b,m,by simp[Vl.d],by simp[r],VBs.app w fun u h=>by grind,fun _ u h=>by
     grind⟩
    wp_walk using l
   | false =>
    obtain⟨v,j,m,y,l⟩:=Aj8 q (upN hn (Nat.mul_le_mul_left 2 (Nat.le_trans (Nat.le_of_lt b) hl)) (by decide))
    refine⟨some v.d,[some (.im d),some _,some _],?_,j,_,a++[v],rfl,b,m,by simp,by simp[r],VBs.app w fun u h=>by grind,fun z=>nomatch z⟩
    wp_walk using l)
 grind
def isL (o:O)(ds:List PyData):Prop:=o=.ls false ds\/o=.im (.list ds)
theorem Bd6 {n:Nat}{ds:List PyData}{num:Bool}{s2 s3 s4 s5 s6 s7 o8 o9 s11 s12:Option O}{often:Int}{vals:List PyData}{heads:List (List Vl)}(hb:Bx n ds)(hn:n<2 ^ 37)(L:0<often)(h1:often<1000)(hv:vals.length<=5)(E:heads.length<=12){x14 x15:Option O}
 (Q:∃o,o8=some o/\isL o vals) :
 ∃
  (a:List (Option (List Vl))) (l:List PyData) (o8' j b:Option O),a.length=heads.length/\(∀c∈a,Yn vals.length c)/\(num=true->∀c∈a,∀p,c=some p->∀v∈p,∃i,v=Vl.int i)/\Bx (n+11*heads.length) l/\(∃o,o8'=some o/\isL o vals) /\
  forL (cgN 14) (Bf (Dg (cUn Br (cLC [none,some 1,some 0] (Bm (Ad 8)) (cgN 0) Be (Ml (Bd (Ad 1)) (cF Dq (Ac (Ad 2) Al)) (cF Cr (Ac (Ad 2) Al))))) (cgN 15))
   (Kz (Rz (Ad 13) (Ml (Bd (cOp (Di false) (cF Av (Ac (Ad 0) (Ac (Ad 10) Al))) (cC (.int 0)))) (cC (.none)) (Ad 15))))) (heads.map tD)
   [some (.ls true ds),some (.im (.bool num)),s2,s3,s4,s5,s6,s7,o8,o9,some (.im (.int often)),s11,s12,some (.ls false []),x14,x15] =
  .nx [some (.ls true l),some (.im (.bool num)),s2,s3,s4,s5,s6,s7,o8',o9,some (.im (.int often)),s11,s12,some (.ls false (a.map Eo)),j,b]:=by
 have y:=Ji (g:=cgN 14) (body:=Bf (Dg (cUn Br (cLC [none,some 1,some 0] (Bm (Ad 8)) (cgN 0) Be (Ml (Bd (Ad 1)) (cF Dq (Ac (Ad 2) Al)) (cF Cr (Ac (Ad 2) Al))))) (cgN 15))
  (Kz (Rz (Ad 13) (Ml (Bd (cOp (Di false) (cF Av (Ac (Ad 0) (Ac (Ad 10) Al))) (cC (.int 0)))) (cC (.none)) (Ad 15))))) (items:=heads.map tD) (n:=0)
  (c:=[some (.ls true ds),some (.im (.bool num)),s2,s3,s4,s5,s6,s7,o8,o9,some (.im (.int often)),s11,s12,some (.ls false []),x14,x15])
  (P:=fun k c=>∃l C j b a,c=[some (.ls true l),some (.im (.bool num)),s2,s3,s4,s5,s6,s7,C,o9,some (.im (.int often)),s11,s12,some (.ls false (a.map Eo)),j,b]/\k<=heads.length/\Bx (n+11*k) l/\(∃o,C=some o/\isL o vals) /\
   a.length=k/\(∀c∈a,Yn vals.length c)/\(num=true->∀c∈a,∀p,c=some p->∀v∈p,∃i,v=Vl.int i))
  ⟨ds,o8,_,_,[],rfl,Nat.zero_le _,hb,Q,rfl,(fun c s=>by cases s),fun _ c s=>by cases s⟩ (fun k d c K J=>by
   rw[Nat.zero_add]at J ⊢;obtain⟨l,C,j,b,a,rfl,S,D,⟨o,rfl,F⟩,u,s,f⟩:=J
   have x:k<heads.length:=by
    rcases Nat.lt_or_ge k heads.length with q | q
    ·exact q
    ·rw[List.getElem?_eq_none (by rw[List.length_map];exact q)]at K;cases K
   obtain⟨w,V,t,U,W,M,N,R⟩:=Bf3 (items:=vals) (num:=num) D (upN hn (Nat.mul_le_mul_left 11 (Nat.le_trans (Nat.le_of_lt x) E)) (by decide)) (Nat.le_trans hv (by decide))
   have G:cLC [none,some 1,some 0] (Bm (Ad 8)) (cgN 0) Be (Ml (Bd (Ad 1)) (cF Dq (Ac (Ad 2) Al)) (cF Cr (Ac (Ad 2) Al)))
    [some (.ls true l),some (.im (.bool num)),s2,s3,s4,s5,s6,s7,some o,o9,some (.im (.int often)),s11,s12,some (.ls false (a.map Eo)),some (.im d),b] =
    .ok (.o (.ls false (w.map Vl.d))) [some (.ls true V),some (.im (.bool num)),s2,s3,s4,s5,s6,s7,some (.im (.list vals)),o9,some (.im (.int often)),s11,s12,some (.ls false (a.map Eo)),some (.im d),b]:=by
    refine Et (ds:=vals) (c1:=[some (.ls true l),some (.im (.bool num)),s2,s3,s4,s5,s6,s7,some (.im (.list vals)),o9,some (.im (.int often)),s11,s12,some (.ls false (a.map Eo)),some (.im d),b]) ?_ (Nat.le_trans hv (by decide)) R (by wp_walk using true_and)
    rcases F with rfl | rfl <;> wp_walk using Bm
   obtain⟨r,A,T,r0,r1,I⟩:=Dz (m:=often) N (upN (upN hn (Nat.mul_le_mul_left 11 (Nat.le_trans (Nat.le_of_lt x) E)) (show 2 ^ 37+11*12<=2 ^ 38 by decide)) (Nat.mul_le_mul_left 2 hv) (by decide)) L (Int.lt_trans h1 (by decide))
   have H:PyData.tuple (w.map Vl.d)=tD w:=rfl;have B:Bx (n+11*(k+1)) A:=T.mono (Nat.add_le_add_left (Nat.succ_le_succ (Nat.mul_le_mul_left 2 hv)) (n+11*k))
   by_cases c:r=0
   ·subst c
    refine⟨[some (.ls true A),some (.im (.bool num)),s2,s3,s4,s5,s6,s7,some (.im (.list vals)),o9,some (.im (.int often)),s11,s12,some (.ls false ((a++[none]).map Eo)),some (.im d),some (.im (tD w))],.inl ?_,A,_,_,_,a++[none],rfl,x,B,⟨_,rfl,.inr rfl⟩,by simp[u],fun c h=>?_,fun z c h p e=>?_⟩
    ·wp_walk using G,Br,H,I,Di,Df,PyData.canLay0,PyData.depth,PyData.eqv,Nat.zero_le,beq_self_eq_true,List.length_map,show a.length<16000000 from u▸Nat.lt_of_lt_of_le x (Nat.le_trans E (by decide)),List.map_append,Eo
    ·rcases List.mem_append.mp h with h | h
     ·exact s c h
     ·rw[List.mem_singleton.mp h];exact fun p e=>nomatch e
    ·rcases List.mem_append.mp h with h | h
     ·exact f z c h p e
     ·rw[List.mem_singleton.mp h]at e;cases e
   ·refine⟨[some (.ls true A),some (.im (.bool num)),s2,s3,s4,s5,s6,s7,some (.im (.list vals)),o9,some (.im (.int often)),s11,s12,some (.ls false ((a++[some w]).map Eo)),some (.im d),some (.im (tD w))],.inl ?_,A,_,_,_,a++[some _],rfl,x,B,⟨_,rfl,.inr rfl⟩,by simp[u],fun c h=>?_,fun z c h p e=>?_⟩
    ·wp_walk using G,Br,H,I,Di,Df,PyData.canLay0,PyData.depth,PyData.eqv,Nat.zero_le,beq_eq_false_iff_ne.mpr c,List.length_map,show a.length<16000000 from u▸Nat.lt_of_lt_of_le x (Nat.le_trans E (by decide)),List.map_append,Eo
    ·rcases List.mem_append.mp h with h | h
     ·exact s c h
     ·rw[List.mem_singleton.mp h];exact fun p e=>by cases e;exact⟨U,W⟩
    ·rcases List.mem_append.mp h with h | h
     ·exact f z c h _ e
     ·rw[List.mem_singleton.mp h]at e;cases e;exact M z)
 obtain⟨c',e,l,C,j,b,a,rfl,_,D,F,u,s,f⟩:=y;rw[Nat.zero_add,List.length_map]at D u;exact⟨a,l,C,j,b,u,s,f,D,F,e⟩
abbrev A7j:Ev->SR:=Bf (Dg (cUn Br (cLC [none,some 1,some 0] (Bm (Ad 8)) (cgN 0) Be (Ml (Bd (Ad 1)) (cF Dq (Ac (Ad 2) Al)) (cF Cr (Ac (Ad 2) Al))))) (cgN 15))
 (Kz (Rz (Ad 13) (Ml (Bd (cOp (Di false) (cF Av (Ac (Ad 0) (Ac (Ad 10) Al))) (cC (.int 0)))) (cC (.none)) (Ad 15))))
abbrev Vu:Ev->SR:=Bf (Dg (Hn Al) (cgN 13)) (Bf (Rk (Bm (Ad 9)) (cgN 14) A7j) (Kz (Rz (Ad 11) (Ei (Ac (Ad 12) (Ac (cUn Br (Ad 13)) Al))))))
theorem A3d {n:Nat}{ds:List PyData}{num:Bool}{s2 s3 s4 s5 s6 s7 o8 o9:Option O}{often:Int}{vals:List PyData}{heads parts:List (List Vl)}(hb:Bx n ds)(hn:n<2 ^ 36)(h0:0<often)(h1:often<1000)(hv:vals.length<=5)(hh:heads.length<=12)(hp:parts.length<=12)
 (h8:∃o,o8=some o/\isL o vals) (h9:∃o,o9=some o/\isL o (heads.map tD)) {x12 x13 x14 x15:Option O} {kl:Nat} (hpk:∀t∈parts,t.length=kl/\VBs t) :
 ∃
  (rows:List (List Vl×List (Option (List Vl)))) (d1:List PyData) (p8 p9 y12 y13 y14 y15:Option O),rows.map (·.1)=parts/\(∀r∈rows,Ah7 kl heads.length vals.length r)/\(num=true->∀r∈rows,∀c∈r.2,∀vs,c=some vs->∀v∈vs,∃i,v=Vl.int i)/\Bx (n+132*parts.length) d1/\(∃o,p8=some o/\isL o vals)/\(∃o,p9=some o/\isL o (heads.map tD)) /\
  forL (cgN 12) Vu (parts.map tD) [some (.ls true ds),some (.im (.bool num)),s2,s3,s4,s5,s6,s7,o8,o9,some (.im (.int often)),some (.ls false []),x12,x13,x14,x15] =
  .nx [some (.ls true d1),some (.im (.bool num)),s2,s3,s4,s5,s6,s7,p8,p9,some (.im (.int often)),some (.ls false (rows.map Es)),y12,y13,y14,y15]:=by
 have loop:=Ji (g:=cgN 12) (body:=Vu) (items:=parts.map tD) (n:=0) (c:=[some (.ls true ds),some (.im (.bool num)),s2,s3,s4,s5,s6,s7,o8,o9,some (.im (.int often)),some (.ls false []),x12,x13,x14,x15])
  (P:=fun k c=>∃d1 p8 p9 y12 y13 y14 y15 rows,c=[some (.ls true d1),some (.im (.bool num)),s2,s3,s4,s5,s6,s7,p8,p9,some (.im (.int often)),some (.ls false (rows.map Es)),y12,y13,y14,y15]/\k<=parts.length/\Bx (n+132*k) d1/\(∃o,p8=some o/\isL o vals)/\(∃o,p9=some o/\isL o (heads.map tD)) /\
   rows.map (·.1)=parts.take k/\(∀r∈rows,Ah7 kl heads.length vals.length r)/\(num=true->∀r∈rows,∀c∈r.2,∀vs,c=some vs->∀v∈vs,∃i,v=Vl.int i))
  ⟨ds,o8,o9,_,_,_,_,[],rfl,Nat.zero_le _,hb,h8,h9,rfl,(fun r hr=>by cases hr),fun _ r hr=>by cases hr⟩ (fun k d c hd hP=>by
   rw[Nat.zero_add]at hP ⊢;obtain⟨d1,p8,p9,y12,y13,y14,y15,rows,rfl,hk0,b1,h8,⟨o,rfl,ho⟩,hr,hro,hnum⟩:=hP;obtain⟨t,ht,e⟩:=Hl hd;subst e;have hk:k<parts.length:=(List.getElem?_eq_some_iff.mp ht).1
   obtain⟨cells,d2,q8,z14,z15,cl,cc,cn,b2,g8,e2⟩:=Bd6 (num:=num) (s2:=s2) (s3:=s3) (s4:=s4) (s5:=s5) (s6:=s6) (s7:=s7) (o8:=p8) (o9:=some (.im (.list (heads.map tD)))) (s11:=some (.ls false (rows.map Es))) (s12:=some (.im (tD t))) (x14:=y14) (x15:=y15) (heads:=heads) b1 (by omega) h0 h1 hv hh h8
   have rl:rows.length=k:=by have:=congrArg List.length hr;rw[List.length_map,List.length_take]at this;exact this.trans (Nat.min_eq_left hk0)
   refine⟨[some (.ls true d2),some (.im (.bool num)),s2,s3,s4,s5,s6,s7,q8,some (.im (.list (heads.map tD))),some (.im (.int often)),some (.ls false ((rows++[(t,cells)]).map Es)),some (.im (tD t)),some (.ls false (cells.map Eo)),z14,z15],.inl ?_,d2,q8,_,_,_,_,_,rows++[(t,cells)],rfl,hk,b2.mono (by omega),g8,⟨_,rfl,.inr rfl⟩,?_,fun r h=>?_,fun z r h=>?_⟩
   ·have en:(rows.map Es).length<16000000:=by rw[List.length_map,rl];exact Nat.lt_of_lt_of_le hk (Nat.le_trans hp (by decide))
    rcases ho with rfl | rfl <;> wp_walk using Vu,Rk,Bm,e2,Br,en,List.map_append,Es
   ·rw[List.map_append,hr,List.map_cons,List.map_nil,List.take_succ,ht];rfl
   ·rcases List.mem_append.mp h with h | h
    ·exact hro r h
    ·rw[List.mem_singleton.mp h]
     have:=hpk t (List.mem_of_getElem? ht);exact⟨this.1,this.2,cl,cc⟩
   ·rcases List.mem_append.mp h with h | h
    ·exact hnum z r h
    ·rw[List.mem_singleton.mp h];exact cn z)
 obtain⟨c',e,d1,p8,p9,y12,y13,y14,y15,rows,rfl,_,b1,h8,h9,hr,hro,hnum⟩:=loop;rw[Nat.zero_add,List.length_map]at b1 hr;rw[List.take_length]at hr;exact⟨rows,d1,p8,p9,y12,y13,y14,y15,hr,hro,hnum,b1,h8,h9,e⟩
theorem Lg {ns:List Str}{a:Nat}:(ns.map PyData.str).take a=(ns.take a).map PyData.str:=List.map_take.symm
theorem P0 {ns:List Str}{a:Nat}:(ns.map PyData.str).drop a=(ns.drop a).map PyData.str:=List.map_drop.symm
theorem Names.sublist {a b:List Str}(h:Names b)(s:a.Sublist b):Names a:=⟨h.nd.sublist s,fun x c=>h.sub x (s.subset c)⟩
theorem A7r {o:O}{ds:List PyData}{i:Nat}{c:Ev}(h:isL o ds)(hc:c[i]?=some (some o)):cUn Br (Ad i) c=.ok (.o (.im (.tuple ds))) c:=by
 rcases h with rfl | rfl <;> wp_walk using hc,Br
theorem B2a {b d e f g:Ev->R PV}{c:Ev}{h a j k i:PyData}(h1:b c=.ok (.o (.im h)) c)(h2:d c=.ok (.o (.im a)) c)(m:e c=.ok (.o (.im j)) c)(n:f c=.ok (.o (.im k)) c)(l:g c=.ok (.o (.im i)) c) :
 Dc (Ei (Ac b (Ac d (Ac e (Ac f (Ac g Al)))))) c=.rt (.o (.im (.tuple [h,a,j,k,i]))) c:=by
 wp_walk using h1,h2,m,n,l
theorem Bb4 {n:Nat}{ds:List PyData}{num:Bool}(hb:Bx n ds)(hn:n<2 ^ 35) :
 ∃(W:Wd) (ds':List PyData),W.Ok/\(num=true->W.Num)/\Bx (n+3000) ds'/\N6 [.ls true ds,.im (.bool num)]=.ret (.im W.d) [.ls true ds',.im (.bool num)]:=by
 have u:∀k,k<=5000->n+k<2 ^ 40:=fun k F=>Nat.lt_of_lt_of_le (Nat.add_lt_add_of_lt_of_le hn F) (by decide)
 have K:∀k,k<=5000->n+k<2 ^ 39:=fun k F=>Nat.lt_of_lt_of_le (Nat.add_lt_add_of_lt_of_le hn F) (by decide)
 have J:∀k,k<=5000->n+k<2 ^ 37:=fun k F=>Nat.lt_of_lt_of_le (Nat.add_lt_add_of_lt_of_le hn F) (by decide)
 have V:∀k,k<=5000->n+k<2 ^ 36:=fun k F=>Nat.lt_of_lt_of_le (Nat.add_lt_add_of_lt_of_le hn F) (by decide)
 obtain⟨o,d1,L,nms,b1,X⟩:=A7e (m:=9) hb (Nat.lt_trans hn (by decide)) (by decide)
 have X:Hv [.ls true ds,.im (.int 9)]=.ret (.ls false (o.map PyData.str)) [.ls true d1,.im (.int 9)]:=X
 obtain⟨a,d2,b2,a0,a1,e2⟩:=Dz (m:=3) b1 (u 9 (by decide)) (by decide) (by decide)
 obtain⟨b,d3,b3,bb0,T,e3⟩:=Dz (m:=3) b2 (u 10 (by decide)) (by decide) (by decide)
 obtain⟨c,d4,b4,c0,c1,e4⟩:=Dz (m:=2) b3 (u 11 (by decide)) (by decide) (by decide)
 obtain⟨q,d5,b5,q0,q1,e5⟩:=Dz (m:=8) b4 (u 12 (by decide)) (by decide) (by decide)
 obtain⟨a,rfl⟩:=Int.eq_ofNat_of_zero_le a0;obtain⟨b,rfl⟩:=Int.eq_ofNat_of_zero_le bb0;have G:a<=2:=Int.ofNat_le.mp (Int.le_of_lt_add_one a1);have y:b<=2:=Int.ofNat_le.mp (Int.le_of_lt_add_one T)
 have hc:∃(v:Nat) (E:List PyData),1<=v/\v<=5/\Bx (n+14) E /\
  cIf (Bd (cOp (Di false) (cF Av (Ac (Ad 0) (Ac (cC (.int 8)) Al))) (cC (.int 0)))) (Dg (cOp Ck (cC (.int 3)) (cF Av (Ac (Ad 0) (Ac (cC (.int 3)) Al)))) (cgN 5)) Du
   [some (.ls true d4),some (.im (.bool num)),some (.ls false (o.map PyData.str)),some (.im (.int a)),some (.im (.int b)),some (.im (.int (1+c))),none,none,none,none,none,none,none,none,none,none] =
  .nx [some (.ls true E),some (.im (.bool num)),some (.ls false (o.map PyData.str)),some (.im (.int a)),some (.im (.int b)),some (.im (.int (v:Int))),none,none,none,none,none,none,none,none,none,none]:=by
  by_cases z:q=0
  ·subst z
   obtain⟨k,E,Z,k0,k1,e6⟩:=Dz (m:=3) b5 (u 13 (by decide)) (by decide) (by decide)
   refine⟨(3+k).toNat,E,by omega,by omega,Z.mono (Nat.le_refl _),?_⟩
   wp_walk using e5,e6,Di,Df,PyData.canLay0,PyData.depth,PyData.eqv,Nat.zero_le,beq_self_eq_true,Ck,Int.toNat_of_nonneg (show 0<=3+k by omega)
  ·refine⟨(1+c).toNat,d5,by omega,by omega,b5.mono (Nat.le_succ _),?_⟩
   wp_walk using e5,Di,Df,PyData.canLay0,PyData.depth,PyData.eqv,Nat.zero_le,beq_eq_false_iff_ne.mpr z,Int.toNat_of_nonneg (show 0<=1+c by omega)
 obtain⟨v,E,v1,v5,Z,e6⟩:=hc
 obtain⟨S,d7,b7,m10,m11,e7⟩:=Av0 (l:=0) (f:=5) (m:=12) Z (K 14 (by decide)) (by decide) (by decide) (by decide) (by decide) (by decide) (by decide)
 obtain⟨S,rfl⟩:=Int.eq_ofNat_of_zero_le m10;have D:S<=12:=Int.ofNat_le.mp m11
 obtain⟨d,d8,hnd,hh,hl,b8,e8⟩:=X3 (w:=b) (m:=S) b7 (J 16 (by decide)) (Nat.le_trans y (by decide)) (Nat.le_trans D (by decide))
 obtain⟨f,d9,b9,f0,f1,e9⟩:=Dz (m:=3) (b8.mono (m:=n+52) (Nat.add_le_add_left (show b*S<=24 from Nat.mul_le_mul y D) (n+28))) (u 52 (by decide)) (by decide) (by decide)
 obtain⟨fo,hfo,M,_⟩:=Rq (l:=[PyData.int 9,.int 2,.int 3]) (r:=f) f0 f1
 have hof:∃i:Int,fo=.int i/\0<i/\i<1000:=by
  simp only[List.mem_cons,List.not_mem_nil,or_false]at M
  rcases M with rfl | rfl | rfl <;> exact⟨_,rfl,by decide,by decide⟩
 obtain⟨i,rfl,U,of1⟩:=hof
 obtain⟨R,d10,b10,m20,m21,Y⟩:=Av0 (l:=0) (f:=5) (m:=12) b9 (K 53 (by decide)) (by decide) (by decide) (by decide) (by decide) (by decide) (by decide)
 obtain⟨R,rfl⟩:=Int.eq_ofNat_of_zero_le m20;have B:R<=12:=Int.ofNat_le.mp m21
 obtain⟨s,d11,pnd,hp,pl,b11,e11⟩:=X3 (w:=a) (m:=R) b10 (J 55 (by decide)) (Nat.le_trans G (by decide)) (Nat.le_trans B (by decide))
 have x:s.length<=12:=Nat.le_trans pl B;have A:d.length<=12:=Nat.le_trans hl D;have I:a+b<=4:=Nat.add_le_add G y;have O:a+b+v<=9:=Nat.add_le_add I v5
 let j:=o.take a
 let g:=(o.drop a).take b
 let e:=(o.drop (a+b)).take v
 have kl:j.length=a:=by show (o.take a).length=a;rw[List.length_take,L];exact Nat.min_eq_left (Nat.le_trans G (by decide))
 have ol:g.length=b:=by show ((o.drop a).take b).length=b;rw[List.length_take,List.length_drop,L];exact Nat.min_eq_left (Nat.le_sub_of_add_le (Nat.le_trans (Nat.add_le_add y G) (by decide)))
 have vl:e.length=v:=by show ((o.drop (a+b)).take v).length=v;rw[List.length_take,List.length_drop,L];exact Nat.min_eq_left (Nat.le_sub_of_add_le (Nat.add_comm v (a+b)▸O))
 have C:j++g++e=o.take (a+b+v):=by
  show o.take a++(o.drop a).take b++(o.drop (a+b)).take v=_
  rw[<- List.take_add,<- List.take_add]
 have c1:cutD (o.map PyData.str) none (some (a:Int))=j.map PyData.str:=by rw[Al4,Lg]
 have c2:cutD (o.map PyData.str) (some (a:Int)) (some ((a:Int)+(b:Int)))=g.map PyData.str:=by
  rw[<- Int.natCast_add,A3g (Nat.le_add_right _ _) (by rw[List.length_map,L];exact Nat.le_trans I (by decide)),P0,Lg,Nat.add_sub_cancel_left]
 have c3:cutD (o.map PyData.str) (some ((a:Int)+(b:Int))) (some ((a:Int)+(b:Int)+(v:Int)))=e.map PyData.str:=by
  rw[<- Int.natCast_add,<- Int.natCast_add,A3g (Nat.le_add_right _ _) (by rw[List.length_map,L];exact O),P0,Lg,Nat.add_sub_cancel_left]
 obtain⟨t,N,p8,p9,y12,y13,y14,y15,hr,hro,P,b12,⟨o8,rfl,g8⟩,⟨o9,rfl,g9⟩,e12⟩:=A3d (num:=num) (s2:=some (.ls false (o.map PyData.str))) (s3:=some (.im (.int a))) (s4:=some (.im (.int b))) (s5:=some (.im (.int v))) (s6:=some (.im (.list (j.map PyData.str)))) (s7:=some (.im (.list (g.map PyData.str)))) (o8:=some (.ls false (e.map PyData.str))) (o9:=some (.ls false (d.map tD))) (often:=i) (vals:=e.map PyData.str) (heads:=d) (parts:=s) (b11.mono (m:=n+91) (Nat.add_le_add_left (show a*R<=24 from Nat.mul_le_mul G B) (n+67))) (V 91 (by decide)) U of1 (by rw[List.length_map,vl];exact v5) A x ⟨_,rfl,.inl rfl⟩ ⟨_,rfl,.inl rfl⟩ (x12:=none) (x13:=none) (x14:=none) (x15:=none) (kl:=a) hp
 have Q:Names (j++g++e):=by rw[C];exact nms.sublist (List.take_sublist _ _)
 refine⟨⟨j,g,e,d,t⟩,N,⟨Q,by rw[kl];exact G,by rw[ol];exact y,by rw[vl];exact v5,by rw[vl];exact v1,fun h H=>⟨by rw[ol];exact(hh h H).1,(hh h H).2⟩,hnd,A,fun r h=>?_,by show (t.map (·.1)).Nodup;rw[hr];exact pnd,?_⟩,P,b12.mono (Nat.le_trans (Nat.add_le_add_left (Nat.mul_le_mul_left 132 x) (n+91)) (Nat.add_le_add_left (show 91+132*12<=3000 by decide) n)),?_⟩
 ·have:=hro r h
  rw[List.length_map]at this
  show Ah7 j.length d.length e.length r
  rw[kl];exact this
 ·show t.length<=12
  have:=congrArg List.length hr;rw[List.length_map]at this;exact Nat.le_trans (Nat.le_of_eq this) x
 refine Y8 (p:=.o (.im (Wd.d ⟨j,g,e,d,t⟩))) (c:=[some (.ls true N),some (.im (.bool num)),some (.ls false (o.map PyData.str)),some (.im (.int a)),some (.im (.int b)),some (.im (.int v)),some (.im (.list (j.map PyData.str))),some (.im (.list (g.map PyData.str))),some o8,some o9,some (.im (.int i)),some (.ls false (t.map Es)),y12,y13,y14,y15]) ?_ rfl (by wp_walk using true_and)
 show Ri [some (.ls true ds),some (.im (.bool num)),none,none,none,none,none,none,none,none,none,none,none,none,none,none]=_
 unfold Ri
 refine (Cp (c':=[some (.ls true d1),some (.im (.bool num)),some (.ls false (o.map PyData.str)),none,none,none,none,none,none,none,none,none,none,none,none,none]) (by wp_walk using X)).trans ?_
 refine (Cp (c':=[some (.ls true d4),some (.im (.bool num)),some (.ls false (o.map PyData.str)),some (.im (.int a)),some (.im (.int b)),some (.im (.int (1+c))),none,none,none,none,none,none,none,none,none,none]) (by wp_walk using e2,e3,e4,Ck)).trans ?_
 refine (Cp e6).trans ?_
 refine (Cp (c':=[some (.ls true E),some (.im (.bool num)),some (.ls false (o.map PyData.str)),some (.im (.int a)),some (.im (.int b)),some (.im (.int v)),some (.im (.list (j.map PyData.str))),some (.im (.list (g.map PyData.str))),none,none,none,none,none,none,none,none]) (by wp_walk using J3,Ck,c1,c2)).trans ?_
 refine (Cp (c':=[some (.ls true E),some (.im (.bool num)),some (.ls false (o.map PyData.str)),some (.im (.int a)),some (.im (.int b)),some (.im (.int v)),some (.im (.list (j.map PyData.str))),some (.im (.list (g.map PyData.str))),some (.ls false (e.map PyData.str)),none,none,none,none,none,none,none]) (by wp_walk using J3,Ck,c3)).trans ?_
 refine (Cp (c':=[some (.ls true d8),some (.im (.bool num)),some (.ls false (o.map PyData.str)),some (.im (.int a)),some (.im (.int b)),some (.im (.int v)),some (.im (.list (j.map PyData.str))),some (.im (.list (g.map PyData.str))),some (.ls false (e.map PyData.str)),some (.ls false (d.map tD)),none,none,none,none,none,none]) (by wp_walk using e7,e8)).trans ?_
 refine (Cp (c':=[some (.ls true d9),some (.im (.bool num)),some (.ls false (o.map PyData.str)),some (.im (.int a)),some (.im (.int b)),some (.im (.int v)),some (.im (.list (j.map PyData.str))),some (.im (.list (g.map PyData.str))),some (.ls false (e.map PyData.str)),some (.ls false (d.map tD)),some (.im (.int i)),none,none,none,none,none]) (by wp_walk using e9,Ay,hfo)).trans ?_
 refine (Cp (c':=[some (.ls true d9),some (.im (.bool num)),some (.ls false (o.map PyData.str)),some (.im (.int a)),some (.im (.int b)),some (.im (.int v)),some (.im (.list (j.map PyData.str))),some (.im (.list (g.map PyData.str))),some (.ls false (e.map PyData.str)),some (.ls false (d.map tD)),some (.im (.int i)),some (.ls false []),none,none,none,none]) (by wp_walk using true_and)).trans ?_
 refine (Cp ((Y7 (ds:=s.map tD) (c1:=[some (.ls true d11),some (.im (.bool num)),some (.ls false (o.map PyData.str)),some (.im (.int a)),some (.im (.int b)),some (.im (.int v)),some (.im (.list (j.map PyData.str))),some (.im (.list (g.map PyData.str))),some (.ls false (e.map PyData.str)),some (.ls false (d.map tD)),some (.im (.int i)),some (.ls false []),none,none,none,none]) (by wp_walk using Bm,Y,e11)).trans e12)).trans ?_
 exact B2a (A7r (.inr rfl) rfl) (A7r (.inr rfl) rfl) (A7r g8 rfl) (A7r g9 rfl) (A7r (.inl rfl) rfl)
theorem Bg9 (i:Int):PyData.eqv (.int i) (.int i)=true:=by show (i==i)=true;simp
theorem A4l  : (List.replicate n true).all id=true:=by simp
theorem Tq:∀n:Nat,boolsOf (List.replicate n (PyData.bool true))=some (List.replicate n true)
 | 0=>rfl
 | n+1=>by rw[List.replicate_succ,List.replicate_succ];show (boolsOf (List.replicate n (PyData.bool true))).map (true::·)=_;rw[Tq n];rfl
theorem Om   (ha:Df a=true) (hb:Df b=true):Di neg a b=some (.im (.bool (if neg then !PyData.eqv a b else PyData.eqv a b))):=by unfold Di;grind
theorem Bg5   (h:x∈T5 ds ds):∃d∈ds,x=.tuple [d,d]:=by
 obtain⟨⟨a,b⟩,f,c⟩:=List.mem_map.mp h;obtain⟨i,g,e⟩:=List.getElem_of_mem f
 grind
theorem Ay0 {d:PyData}:∀{ds:List PyData},d∈ds->d.depth<=PyData.depthAll ds
 | a::r,h=>by
  show d.depth<=max a.depth (PyData.depthAll r)
  rcases List.mem_cons.mp h with rfl | h
  ·exact Nat.le_max_left _ _
  ·exact Nat.le_trans (Ay0 h) (Nat.le_max_right _ _)
theorem Au5 {d:PyData}:∀{ds:List PyData},d∈ds->PyData.canLayAll0 ds=true->d.canLay0=true
 | a::r,h,l=>by
  obtain⟨l1,l2⟩:=Bool.and_eq_true_iff.mp (show (a.canLay0&&PyData.canLayAll0 r)=true from l)
  rcases List.mem_cons.mp h with rfl | h
  ·exact l1
  ·exact Au5 h l2
def Short:Nat->PyData->Prop
 | 0,_=>True
 | _+1,.list _=>False
 | n+1,.tuple ds=>ds.length<=16000000/\∀d∈ds,Short n d
 | _+1,_=>True
theorem A4s:∀ds:List PyData,2*ds.length<=Mp ds
 | []=>Nat.le_refl _
 | d::r=>by have:=A4s r;show 2*(r.length+1)<=wt d+2+Mp r;omega
theorem A4a {d:PyData}:∀{ds:List PyData},d∈ds->wt d<=Mp ds
 | a::r,h=>by
  show wt d<=wt a+2+Mp r
  rcases List.mem_cons.mp h with rfl | h
  ·exact Nat.le_trans (Nat.le_add_right _ 2) (Nat.le_add_right _ _)
  ·exact Nat.le_trans (A4a h) (Nat.le_add_left _ _)
theorem Ab2:∀vs:List Vl,Rf (vs.map Vl.d)=true
 | []=>rfl
 | v::vs=>by
  show (noL v.d&&Rf (vs.map Vl.d))=true
  rw[Ab2 vs]
  cases v <;> rfl
theorem Qt:∀a:List Str,Rf (a.map PyData.str)=true
 | []=>rfl
 | x::a=>by show (true&&Rf (a.map PyData.str))=true;rw[Qt a];rfl
theorem Pz  (h:∀d∈ds,noL d=true):Rf ds=true:=by
 induction ds with
 | nil=>rfl
 | cons d r a=>show (noL d&&Rf r)=true;grind
theorem Ax6 {d:PyData}:∀{ds:List PyData},d∈ds->Rf ds=true->noL d=true
 | a::r,h,l=>by
  obtain⟨l1,l2⟩:=Bool.and_eq_true_iff.mp (show (noL a&&Rf r)=true from l)
  rcases List.mem_cons.mp h with rfl | h
  ·exact l1
  ·exact Ax6 h l2
theorem B1v (w:Wd):noL w.d=true:=by
 refine Pz fun d a=>?_
 simp only[Wd.ps,List.mem_cons,List.not_mem_nil,or_false]at a
 rcases a with rfl | rfl | rfl | rfl | rfl
 ·exact Qt _
 ·exact Qt _
 ·exact Qt _
 ·exact Pz fun d a=>by obtain⟨r,_,rfl⟩:=List.mem_map.mp a;exact Ab2 r
 ·refine Pz fun d a=>?_
  obtain⟨r,_,rfl⟩:=List.mem_map.mp a
  show (noL _&&(Rf _&&true))=true
  rw[show noL (tD _)=true from Ab2 _,Pz fun d a=>by
   obtain⟨c,_,rfl⟩:=List.mem_map.mp a
   cases c with
   | none=>rfl
   | some vs=>exact Ab2 _];rfl
theorem A7q (n:Nat):∀(d:PyData),wt d<=16000000->noL d=true->Short n d:=by
 induction n with
 | zero=>intro d _ _;trivial
 | succ n c =>
  intro d h b
  cases d with
  | tuple e =>
   have h  := Nat.le_trans (Nat.le_add_right _ 4) h
   exact⟨Nat.le_trans (Nat.le_trans (Nat.le_mul_of_pos_left _ (by decide)) (A4s _)) h,fun d a=>c d (Nat.le_trans (A4a a) h) (Ax6 a b)⟩
  | list e=>cases b
  | _=>trivial
theorem Av7:∀(n:Nat) (d:PyData),d.depth<n->n<=40->d.canLay0=true->Short n d->Bt n [.im d,.im d]=.ret (.im (.bool true)) [.im d,.im d]
 | 0,d,h,_,_,_=>absurd h (Nat.not_lt_zero _)
 | n+1,d,h,hn,hl,hs=>by
  have fb:∀b:Bool,Df (.bool b)=true:=fun b=>rfl
  have fl:Df d=true:=by unfold Df;rw[hl,decide_eq_true (show d.depth<=40 from Nat.le_trans (Nat.le_of_lt_succ h) (Nat.le_of_succ_le hn))];rfl
  have fi:∀k:Nat,Df (.int (k:Int))=true:=fun k=>rfl
  have loop:∀ds:List PyData,(∀e∈ds,Bt n [.im e,.im e]=.ret (.im (.bool true)) [.im e,.im e])->∃c',Eh (cgT 2 (Ba (cgN 0) (Ba (cgN 1) Ek))) Be (cF (Bt n) (Ac (Ad 0) (Ac (Ad 1) Al))) (T5 ds ds) [] [none,none]=.ok ((T5 ds ds).map fun _=>.bool true) c'/\∃a b,c'=[a,b]:=fun ds hds=>by
   have:=A0l (g:=cgT 2 (Ba (cgN 0) (Ba (cgN 1) Ek))) (ft:=Be) (fe:=cF (Bt n) (Ac (Ad 0) (Ac (Ad 1) Al))) (I:=fun c=>∃a b,c=[a,b]) (F:=fun _=>.bool true) (items:=T5 ds ds) (acc:=[]) (c:=[none,none]) ⟨none,none,rfl⟩ (fun x c hx ⟨a,b,hc⟩=>by
    subst hc;obtain⟨e,he,rfl⟩:=Bg5 hx
    refine⟨[some (.im e),some (.im e)],?_,_,_,rfl⟩
    wp_walk using hds e he)
   simpa using this
  have fin:∀ds:List PyData,(T5 ds ds).map (fun _=>PyData.bool true)=List.replicate ds.length (.bool true):=fun ds=>by
   rw[List.map_const'];unfold T5;rw[List.length_map,List.length_zip,Nat.min_self]
  show Fp 2 2 (Ht (Bt n)) _=_
  cases d with
  | none=>wp_walk using Ht,Ju,En,Pn,Hi,Om fl fl,Om (fb _) (fb _),PyData.eqv,beq_self_eq_true
  | bool b=>wp_walk using Ht,Ju,En,Pn,Hi,Om fl fl,Om (fb _) (fb _),PyData.eqv,beq_self_eq_true
  | int i=>wp_walk using Ht,Ju,En,Pn,Hi,Om fl fl,Om (fb _) (fb _),PyData.eqv,beq_self_eq_true
  | str x=>wp_walk using Ht,Ju,En,Pn,Hi,Om fl fl,Om (fb _) (fb _),PyData.eqv,beq_self_eq_true
  | dict k=>cases hl
  | list ds=>exact hs.elim
  | tuple ds =>
   have hd:∀e∈ds,Bt n [.im e,.im e]=.ret (.im (.bool true)) [.im e,.im e]:=fun e he=>Av7 n e (Nat.lt_of_le_of_lt (Ay0 he) (Nat.lt_of_succ_lt_succ h)) (Nat.le_of_succ_le hn) (Au5 he hl) (hs.2 e he)
   obtain⟨c',e1,a,b,rfl⟩:=loop ds hd;rw[fin]at e1
   have e2:cLC [none,none] (A9d (Ad 0) (Ad 1)) (cgT 2 (Ba (cgN 0) (Ba (cgN 1) Ek))) Be (cF (Bt n) (Ac (Ad 0) (Ac (Ad 1) Al))) [some (.im (.tuple ds)),some (.im (.tuple ds))]=.ok (.o (.ls false (List.replicate ds.length (.bool true)))) [some (.im (.tuple ds)),some (.im (.tuple ds))] :=
    Et (ds:=T5 ds ds) (c1:=[some (.im (.tuple ds)),some (.im (.tuple ds))]) (by wp_walk using A9d,Mj) (by unfold T5;rw[List.length_map,List.length_zip,Nat.min_self];exact hs.1) e1 rfl
   wp_walk using Ht,Ju,En,Pn,Om (fb _) (fb _),Kf,Om (fi _) (fi _),PyData.eqv,beq_self_eq_true,e2,Ah8,Tq,A4l
theorem X6 {n:Nat}{d:PyData}{k w:Nat}(h:Good d k w)(hk:k<n)(hn:n<=40)(hw:w<=16000000)(hl:noL d=true):Bt n [.im d,.im d]=.ret (.im (.bool true)) [.im d,.im d] :=
 Av7 n d (Nat.lt_of_le_of_lt h.dep hk) hn h.lay (A7q n d (Nat.le_trans h.wgt hw) hl)
theorem A0r {x:Str}(h:x∈names12):Good (.str x) 0 1921:=by
 have:VB (.str x):=by
  simp only[names12,List.mem_cons,List.not_mem_nil,or_false]at h
  rcases h with rfl | rfl | rfl | rfl | rfl | rfl | rfl | rfl | rfl | rfl | rfl | rfl <;> decide
 exact Gp this
theorem Zi {ns:List Str}{k:Nat}(h:∀x∈ns,x∈names12)(hk:ns.length<=k):Good (nD ns) 1 (1923*k+4) :=
 Good.tup (fun d a=>by obtain⟨v,b,rfl⟩:=List.mem_map.mp a;exact A0r (h v b)) (by simp_all)
theorem Ar3 {c:Option (List Vl)}{v:Nat}(h:Yn v c)(hv:v<=5):Good (Eo c) 1 9619:=by
 cases c with
 | none=>exact⟨rfl,rfl,rfl,Nat.zero_le _,by decide⟩
 | some a=>exact(Gm (h _ rfl).2 (show a.length<=5 by rw[(h _ rfl).1];grind)).mono (Nat.le_refl _) (by decide)
theorem A1j {k n v:Nat}{r:List Vl×List (Option (List Vl))}(h:Ah7 k n v r)(hk:k<=2)(hn:n<=12)(hv:v<=5):Good (Es r) 3 250000:=by
 have a:Good _ 2 115460:=(Gm h.part (by rw[h.plen];omega)).mono (by decide) (by decide)
 have b:Good _ 2 115460:=(Good.tup    (fun d e=>by obtain⟨c,f,rfl⟩:=List.mem_map.mp e;exact Ar3 (h.cells c f) hv) (by rw[List.length_map,h.clen];omega)).mono (by decide) (by decide)
 have t:=Good.tup (ds:=[tD r.1,.tuple (r.2.map Eo)]) (n:=2) (w:=115460) (k:=2) fun d e=>by
  grind (Nat.le_refl _)
 exact t.mono (by decide) (by decide)
theorem Wd.good5 {w:Wd}(h:w.Ok):Good w.d 5 15500014:=by
 have f  := fun x a=>h.nms.sub x (List.mem_append_left _ (List.mem_append_left _ a))
 have g  := fun x a=>h.nms.sub x (List.mem_append_left _ (List.mem_append_right _ a))
 have a1:=(Zi f h.klen).mono (show 1<=4 by decide) (show 1923*2+4<=3100000 by decide)
 have a2:=(Zi g h.nlen).mono (show 1<=4 by decide) (show 1923*2+4<=3100000 by decide)
 have a3:=(Zi (fun x a=>h.nms.sub x (List.mem_append_right _ a)) h.vlen).mono (show 1<=4 by decide) (show 1923*5+4<=3100000 by decide)
 have a4:Good _ 4 3100000:=(Good.tup    (fun d b=>by obtain⟨c,e,rfl⟩:=List.mem_map.mp b;exact Gm (h.heads c e).2 (by rw[(h.heads c e).1];exact h.nlen)) (by simpa using h.hlen)).mono (by decide) (by decide)
 have a5:Good _ 4 3100000:=(Good.tup    (fun d b=>by obtain⟨c,e,rfl⟩:=List.mem_map.mp b;exact A1j (h.rows c e) h.klen h.hlen h.vlen) (by simpa using h.rlen)).mono (by decide) (by decide)
 have t:=Good.tup (ds:=w.ps) (n:=4) (w:=3100000)  (fun d b=>by
  simp only[Wd.ps,List.not_mem_nil]at b
  grind) (Nat.le_refl _)
 assumption
theorem Wd.good {w:Wd}(h:w.Ok):Good w.d 5 16000000:=(Wd.good5 h).mono (by decide) (by decide)
def vlt:Vl->Vl->Bool
 | .non,.non=>false
 | .non,_=>true
 | .int i,.int j=>decide (i<j)
 | .int _,.str _=>true
 | .str x,.str y=>decide (x.cps.toList<y.cps.toList)
 | _,_=>false
def Gh:Vl->PyData
 | .non=>.tuple [.int 0,.int 0]
 | .int i=>.tuple [.int 1,.int i]
 | .str x=>.tuple [.int 2,.str x]
def Dy:Vl->PyData
 | .non=>.tuple [.int 0,.int 0,.str ""]
 | .int i=>.tuple [.int 1,.int i,.str ""]
 | .str x=>.tuple [.int 2,.int 0,.str x]
theorem A9t   : Gb (k+1) [.im v.d]=.ret (.im (Gh v)) [.im v.d]:=by
 cases v with
 | non=>rfl
 | int i=>rfl
 | str x=>trivial
theorem A2s  : G9 [.im v.d]=.ret (.im (Dy v)) [.im v.d]:=by
 cases v with
 | non=>wp_walk using G9,Rt,Vl.d,Hi,En,Pn,Dy
 | int i=>wp_walk using G9,Rt,Vl.d,Hi,En,Pn,Dy
 | str x=>trivial
theorem Bu2 (l:List Nat):¬ l<l:=List.lt_irrefl l
theorem A8e (a b:Vl):Kl false (Gh a) (Gh b)=some (vlt a b):=by
 cases a with
 | non=>cases b <;> rfl
 | int i=>
  cases b with
   | non=>rfl
   | int j =>
    show (if (i==j)=true then some _ else some _)=some (decide _)
    simp_all
   | str y=>rfl
 | str x=>
  cases b with
   | non=>rfl
   | int j=>rfl
   | str y =>
    show (if (x==y)=true then some _ else some _)=some (decide _)
    simp_all
theorem Az4 (c:Bool)(a b:Vl):Kl c (Dy a) (Dy b)=some (if c then vlt b a else vlt a b):=by
 have d:PyData.eqv (.str "") (.str "")=true:=by decide +kernel
 cases a with
 | non=>
  cases b with
   | non =>
    show (if PyData.eqv (.str "") (.str "")=true then some false else Kl c (.str "") (.str ""))=_
    rw[if_pos d];cases c <;> rfl
   | int j=>cases c <;> rfl
   | str y=>cases c <;> rfl
 | int i=>
  cases b with
   | non=>cases c <;> rfl
   | int j =>
    show (if (i==j)=true then (if PyData.eqv (.str "") (.str _)=true then some _ else Kl c _ _) else some _)=_
    by_cases h:i=j
    ·subst h;rw[if_pos d];cases c <;> simp[vlt]
    ·rw[if_neg (by simpa using h)];cases c <;> rfl
   | str y=>cases c <;> rfl
 | str x=>
  cases b with
   | non=>cases c <;> rfl
   | int j=>cases c <;> rfl
   | str y =>
    show (if (x==y)=true then some _ else some _)=_
    by_cases h:x=y
    ·subst h;cases c <;> simp[vlt]
    ·rw[if_neg (by simpa using h)];cases c <;> rfl
theorem Xg (a b:Vl):PyData.eqv (Dy a) (Dy b)=decide (a=b):=by
 have c:PyData.eqv (.str "") (.str "")=true:=by rfl
 cases a with
 | non=>
  cases b with
   | non=>assumption
   | int j=>trivial
   | str y=>trivial
 | int i=>
  cases b with
   | non=>rfl
   | int j =>
    show (true&&i==j&&(PyData.eqv _ _&&true))=_
    grind
   | str y=>trivial
 | str x=>
  cases b with
   | non=>trivial
   | int j=>rfl
   | str y =>
    show (true&&(true&&x==y&&true))=_
    grind
theorem Bb6 {x y:Str}(h:x.cps.toList=y.cps.toList):x=y:=by
 obtain⟨a⟩:=x
 simp_all
theorem Bg7 (a:Vl):vlt a a=false:=by
 cases a with
 | non=>rfl
 | int i=>exact decide_eq_false (by omega)
 | str x=>exact decide_eq_false (Bu2 _)
theorem Bp4  (h:vlt a b=true) (k:vlt b c=true):vlt a c=true:=by
 cases a with
 | non=>
  cases b with
   | non=>grind
   | int j=>
    cases c with
     | non=>cases k
     | int l=>rfl
     | str z=>rfl
   | str y=>
    cases c with
     | non=>cases k
     | int l=>rfl
     | str z=>rfl
 | int i=>
  cases b with
   | non=>cases h
   | int j=>
    cases c with
     | non=>cases k
     | int l=>exact decide_eq_true (Int.lt_trans (of_decide_eq_true h) (of_decide_eq_true k))
     | str z=>rfl
   | str y=>
    cases c with
     | non=>cases k
     | int l=>cases k
     | str z=>rfl
 | str x=>
  cases b with
   | non=>cases h
   | int j=>cases h
   | str y=>
    cases c with
     | non=>cases k
     | int l=>cases k
     | str z=>exact decide_eq_true (List.lt_trans (of_decide_eq_true h) (of_decide_eq_true k))
theorem Ba7 (a b:Vl):vlt a b=true\/a=b\/vlt b a=true:=by
 cases a with
 | non=>
  cases b with
   | non=>grind
   | int j=>exact .inl rfl
   | str y=>exact .inl rfl
 | int i=>
  cases b with
   | non=>exact .inr (.inr rfl)
   | int j =>
    rcases Int.lt_trichotomy i j with h | h | h
    ·exact .inl (decide_eq_true h)
    ·grind
    ·exact .inr (.inr (decide_eq_true h))
   | str y=>exact .inl rfl
 | str x=>
  cases b with
   | non=>exact .inr (.inr rfl)
   | int j=>exact .inr (.inr rfl)
   | str y =>
    by_cases h1:x.cps.toList<y.cps.toList
    ·exact .inl (decide_eq_true h1)
    ·by_cases h2:y.cps.toList<x.cps.toList
     ·exact .inr (.inr (decide_eq_true h2))
     ·exact .inr (.inl (by rw[Bb6 (List.le_antisymm (List.not_lt.mp h2) (List.not_lt.mp h1))]))
theorem Ad1   : Di neg (.int a) (.int b)=some (.im (.bool (if neg then !decide (a=b) else decide (a=b)))):=by
 have e:PyData.eqv (.int a) (.int b)=decide (a=b):=by
  show (a==b)=_
  grind
 unfold Di
 rw[show Df _=true from rfl,show Df _=true from rfl,e]
 simp
abbrev VG (v:Vl):Prop:=Good v.d 0 1921
abbrev VGs (vs:List Vl):Prop:=∀v∈vs,VG v
theorem A3n   (h:VGs vs) (hk:vs.length<=k):Good (tD vs) 1 (1923*k+4) :=
 Good.tup fun d a=>by
  grind (by simp_all)
def rlt:List Vl->List Vl->Bool
 | [],[]=>false
 | [],_::_=>true
 | _::_,[]=>false
 | x::xs,y::ys=>if x=y then rlt xs ys else vlt x y
theorem Uj:∀a:List Vl,rlt a a=false
 | []=>rfl
 | x::xs=>by rw[rlt,if_pos rfl];exact Uj xs
theorem Am9:∀{a b c:List Vl},rlt a b=true->rlt b c=true->rlt a c=true
 | [],[],c,h,k=>nomatch h
 | [],_::_,[],h,k=>nomatch k
 | [],_::_,_::_,h,k=>rfl
 | _::_,[],c,h,k=>nomatch h
 | _::_,_::_,[],h,k=>nomatch k
 | x::xs,y::ys,z::zs,h,k=>by
  rw[rlt]at h k ⊢
  by_cases e1:x=y
  ·subst e1
   rw[if_pos rfl]at h
   by_cases e2:x=z
   ·rw[if_pos e2]at k ⊢;exact Am9 h k
   ·rw[if_neg e2]at k ⊢;exact k
  ·rw[if_neg e1]at h
   by_cases e2:y=z
   ·subst e2;rw[if_neg e1];exact h
   ·rw[if_neg e2]at k
    have q:=Bp4 h k
    rw[if_neg (fun e=>by subst e;rw[Bg7]at q;cases q)]
    exact q
theorem Au8:∀a b:List Vl,rlt a b=true\/a=b\/rlt b a=true
 | [],[]=>.inr (.inl rfl)
 | [],_::_=>.inl rfl
 | _::_,[]=>.inr (.inr rfl)
 | x::xs,y::ys=>by
  rw[rlt,rlt]
  by_cases e:x=y
  ·subst e
   rw[if_pos rfl,if_pos rfl]
   rcases Au8 xs ys with h | h | h
   ·exact .inl h
   ·exact .inr (.inl (by rw[h]))
   ·exact .inr (.inr h)
  ·rw[if_neg e,if_neg (fun z=>e z.symm)]
   rcases Ba7 x y with h | h | h
   ·exact .inl h
   ·exact absurd h e
   ·exact .inr (.inr h)
def Qj (r:List Vl):PyData:=.tuple [.int 3,.tuple (r.map Gh)]
theorem A0s  (h:VG v):Good (Gh v) 1 3850:=by
 have q:∀a b ,VG a->VG b->Good (tD [a,b]) 1 3850:=fun a b d e=>A3n (k:=2) fun v c=>by
  grind (by simp)
 cases v with
 | non=>exact q (.int 0) (.int 0) (Gp (by rfl)) (Gp (by rfl))
 | int i=>exact q (.int 1) _ (Gp (by rfl)) h
 | str x=>exact q (.int 2) _ (Gp (by rfl)) h
theorem Ar6  (h:VGs r) (hl:r.length<=30):Good (Qj r) 3 300000:=by
 have g1:Good _ 2 (3852*30+4):=Good.tup  (fun d a=>by
  obtain⟨v,b,rfl⟩:=List.mem_map.mp a
  exact A0s (h v b)) (by simp_all)
 refine (Good.tup (n:=2) (w:=3852*30+4) (k:=2) (fun d a=>?_) (by simp)).mono (by decide) (by decide)
 simp  at a
 rcases a with rfl | rfl
 ·exact(Gp (v:=.int 3) (by rfl)).mono (by decide) (by decide)
 simp_all
theorem Aj0 (a b:Vl):PyData.eqv (Gh a) (Gh b)=decide (a=b):=by
 have c:∀p q e d ,PyData.eqv (tD [p,q]) (tD [e,d])=decide _:=fun p q e d=>Xj _ _
 cases a with
 | non=>
  cases b with
   | non=>rfl
   | int j=>rfl
   | str y=>rfl
 | int i=>
  cases b with
   | non=>rfl
   | int j=>exact(c (.int 1) (.int i) (.int 1) (.int j)).trans (by simp)
   | str y=>rfl
 | str x=>
  cases b with
   | non=>rfl
   | int j=>rfl
   | str y=>exact(c (.int 2) (.str x) (.int 2) (.str y)).trans (by simp)
theorem Xl:∀a b:List Vl,PyData.eqvAll (a.map Gh) (b.map Gh)=decide (a=b)
 | [],[]=>rfl
 | [],_::_=>rfl
 | _::_,[]=>rfl
 | x::xs,y::ys=>by
  show (PyData.eqv (Gh x) (Gh y)&&PyData.eqvAll (xs.map Gh) (ys.map Gh))=_
  rw[Aj0,Xl xs ys]
  by_cases h:x=y <;> by_cases k:xs=ys <;> simp[h,k]
theorem Ac5:∀a b:List Vl,Ld false (a.map Gh) (b.map Gh)=some (rlt a b)
 | [],[]=>rfl
 | [],_::_=>rfl
 | _::_,[]=>rfl
 | x::xs,y::ys=>by
  show (if PyData.eqv (Gh x) (Gh y)=true then Ld false (xs.map Gh) (ys.map Gh) else Kl false (Gh x) (Gh y))=some (if x=y then rlt xs ys else vlt x y)
  rw[Aj0,Ac5 xs ys,A8e]
  by_cases h:x=y
  ·rw[if_pos (decide_eq_true h),if_pos h]
  ·rw[if_neg (by simp[h]),if_neg h]
theorem Ba9 (a b:List Vl):Kl false (Qj a) (Qj b)=some (rlt a b):=by
 show (if PyData.eqvAll _ _=true then some _ else Ld _ _ _)=_
 rw[Xl,Ac5]
 by_cases h:a=b
 ·subst h;rw[if_pos (by simp),Uj]
 simp_all
theorem A4w  (hl:r.length<=30):Gb 2 [.im (tD r)]=.ret (.im (Qj r)) [.im (tD r)]:=by
 obtain⟨cI,d,u,rfl⟩:=Do (g:=cgN 0) (ft:=Be) (fe:=cF (Gb 1) (Ac (Ad 0) Al)) (I:=fun c=>∃u,c=[u]) (f:=Vl.d) (G:=Gh) (xs:=r) (acc:=[]) (c:=[none]) ⟨none,rfl⟩
  (fun v c hv b=>by
   obtain⟨u,rfl⟩:=b
   refine⟨[some (.im v.d)],?_,_,rfl⟩
   wp_walk using A9t (v:=v) (k:=0))
 have a:cLC [none] (Bm (Ad 0)) (cgN 0) Be (cF (Gb 1) (Ac (Ad 0) Al)) [some (.im (tD r))]=.ok (.o (.ls false (r.map Gh))) [some (.im (tD r))]:=by
  refine Et (ds:=r.map Vl.d) (c1:=[some (.im (tD r))])  ?_ (by rw[List.length_map];omega) (by simpa[cIn] using d) (by wp_walk using true_and)
  wp_walk using Bm,tD
 show Fp 1 1 _ _=_
 unfold tD at a ⊢
 wp_walk using Ay9,Hi,En,Pn,a,Br,Qj
section
variable {α:Type}[DecidableEq α]
def fnd (x:α):List α->Nat
 | []=>0
 | y::l=>if y=x then 0 else fnd x l+1
theorem K9 {x:α}:∀{l:List α},x∈l->l[fnd x l]?=some x
 | y::l,h=>by
  unfold fnd
  by_cases e:y=x
  ·rw[if_pos e,e];rfl
  ·rw[if_neg e]
   rcases List.mem_cons.mp h with h | h
   ·exact absurd h.symm e
   ·rw[List.getElem?_cons_succ];exact K9 h
theorem A7g {x:α}  (h:x∈l):fnd x l<l.length:=(List.getElem?_eq_some_iff.mp (K9 h)).1
theorem Lx {x:α}:∀{l:List α}{i:Nat},l.Nodup->l[i]?=some x->fnd x l=i
 | y::l,0,_,h=>by
  have e:y=x:=Option.some.inj h;unfold fnd;rw[if_pos e]
 | y::l,i+1,nd,h=>by
  rw[List.getElem?_cons_succ]at h
  have e:y≠x:=fun z=>(List.nodup_cons.mp nd).1 (z▸List.mem_of_getElem? h)
  unfold fnd;rw[if_neg e,Lx (List.nodup_cons.mp nd).2 h]
theorem Aw8 {x y:α}{l:List α}(hx:x∈l)(hy:y∈l)(e:fnd x l=fnd y l):x=y:=by
 have a:=K9 hx;rw[e,K9 hy]at a
 simp_all
theorem Yq {x:α}:∀{p q:List α},x∉p->fnd x (p++q)=p.length+fnd x q
 | [],q,_=>by simp
 | y::p,q,h=>by
  have e:y≠x:=fun z=>h (z▸List.mem_cons_self)
  rw[List.cons_append,List.length_cons]
  show (if y=x then 0 else fnd x (p++q)+1)=_
  rw[if_neg e,Yq fun z=>h (List.mem_cons_of_mem _ z)]
  omega
def firsts (hs:List α):List α->List α->List α
 | _,[]=>[]
 | pre,x::r=>if x∈hs/\x∉pre then x::firsts hs (pre++[x]) r else firsts hs (pre++[x]) r
theorem firsts_mem {hs:List α}{x:α}:∀{pre r:List α},x∈firsts hs pre r↔x∈hs/\x∉pre/\x∈r
 | pre,[]=>by simp[firsts]
 | pre,y::r=>by
  have ih:=firsts_mem (hs:=hs) (x:=x) (pre:=pre++[y]) (r:=r);unfold firsts
  by_cases c:y∈hs/\y∉pre
  ·rw[if_pos c,List.mem_cons,ih]
   by_cases e:x=y
   ·subst e;simp[c.1,c.2]
   ·simp[e]
  ·rw[if_neg c,ih]
   by_cases e:x=y
   ·subst e
    simp only[List.mem_append,List.mem_cons,List.not_mem_nil,or_false,not_or,true_or,and_true,not_true,and_false,false_and]
    constructor
    ·intro h;exact h.elim
    ·intro h;exact c ⟨h.1,h.2⟩
   ·simp[e]
theorem Sg {hs:List α}:∀{pre r:List α},(firsts hs pre r).Pairwise fun a b=>fnd a (pre++r)<fnd b (pre++r)
 | pre,[]=>by simp[firsts]
 | pre,y::r=>by
  have ih:=Sg (hs:=hs) (pre:=pre++[y]) (r:=r);rw[List.append_assoc,List.singleton_append]at ih;unfold firsts
  by_cases c:y∈hs/\y∉pre
  ·rw[if_pos c]
   refine List.pairwise_cons.mpr ⟨fun b hb=>?_,ih⟩
   obtain⟨_,h2,_⟩:=firsts_mem.mp hb
   have e1:fnd y (pre++y::r)=pre.length:=by rw[Yq c.2];simp[fnd]
   have e2:=Yq (q:=r) h2;rw[List.append_assoc,List.singleton_append,List.length_append,List.length_singleton]at e2;rw[e1,e2];omega
  ·rw[if_neg c];exact ih
theorem A3f {f:α->Nat}:∀{l m:List α},l.Pairwise (fun a b=>f a<f b)->m.Pairwise (fun a b=>f a<f b)->(∀x,x∈l↔x∈m)->l=m
 | [],[],_,_,_=>rfl
 | [],b::m,_,_,h=>absurd ((h b).mpr List.mem_cons_self) (by simp)
 | a::l,[],_,_,h=>absurd ((h a).mp List.mem_cons_self) (by simp)
 | a::l,b::m,pl,pm,h=>by
  obtain⟨l1,l2⟩:=List.pairwise_cons.mp pl;obtain⟨m1,m2⟩:=List.pairwise_cons.mp pm
  have e:a=b:=by
   by_cases e:a=b
   ·exact e
   ·have ha:=(List.mem_cons.mp ((h a).mp List.mem_cons_self)).resolve_left e
    have hb:=(List.mem_cons.mp ((h b).mpr List.mem_cons_self)).resolve_left (Ne.symm e);have:=m1 a ha;have:=l1 b hb;omega
  subst e
  rw[A3f l2 m2 fun x=>?_]
  constructor
  ·intro hx
   rcases List.mem_cons.mp ((h x).mp (List.mem_cons_of_mem _ hx)) with z | z
   ·have:=l1 x hx;rw[z]at this;omega
   ·exact z
  ·intro hx
   rcases List.mem_cons.mp ((h x).mpr (List.mem_cons_of_mem _ hx)) with z | z
   ·have:=m1 x hx;rw[z]at this;omega
   ·exact z
theorem B0m {f:α->Nat}{l:List α}(h:l.Pairwise fun a b=>f a<f b):l.Nodup:=h.imp fun h e=>by grind
def atP (d:α)(l:List α)(p:List Nat):List α:=p.map fun i=>l.getD i d
theorem Ku (d:α)(l:List α):atP d l (List.range l.length)=l:=by
 unfold atP;apply List.ext_getElem
 ·simp
 simp_all
theorem Ar0 (d:α)(l:List α)(q:α->Bool):atP d l ((List.range l.length).filter fun k=>q (l.getD k d))=l.filter q:=by
 conv=>rhs;rw[<- Ku d l]
 unfold atP;rw[List.filter_map];rfl
theorem Aw5 {d:α}{l:List α}:∀{xs:List α},(∀x∈xs,x∈l)->atP d l (xs.map fun x=>fnd x l)=xs
 | [],_=>rfl
 | x::xs,h=>by
  have e:=K9 (h x List.mem_cons_self)
  have ih:=Aw5 (d:=d) (l:=l) (xs:=xs) fun y hy=>h y (List.mem_cons_of_mem _ hy)
  unfold atP at ih ⊢;rw[List.map_cons,List.map_cons,ih,List.getD_eq_getElem?_getD,e];rfl
theorem Bg1 {d:α}{l:List α}{p q:List Nat}:atP d l (p++q)=atP d l p++atP d l q:=by unfold atP;grind
theorem Bd0 {d:α}{l:List α}{p:List Nat}:atP d l p.reverse=(atP d l p).reverse:=by unfold atP;rw[List.map_reverse]
theorem Ub {d:α}   (h:∀i∈p,i<l.length)  (hx:x∈atP d l p):x∈l:=by
 obtain⟨i,hi,rfl⟩:=List.mem_map.mp (show x∈p.map _ from hx)
 simp_all
theorem El {p:List Nat}  (h:p.Perm (List.range n)):∀i∈p,i<n:=fun i a=>List.mem_range.mp (h.mem_iff.mp a)
theorem A6d {d:α}{l:List α}{p:List Nat}(c:l.Nodup)(h:p.Perm (List.range l.length)):(atP d l p).Nodup:=by
 unfold atP;rw[List.nodup_iff_pairwise_ne,List.pairwise_map]
 refine List.Pairwise.imp_of_mem (fun {a b} g i f=>?_) (List.nodup_iff_pairwise_ne.mp (h.nodup_iff.mpr List.nodup_range))
 have k:=El h a g;have j:=El h b i;intro e;have n:=Lx c (List.getElem?_eq_getElem k);have m:=Lx c (List.getElem?_eq_getElem j)
 simp_all
def Im (hs told:List α)(d:α):List Nat:=(firsts hs [] told).map (fun x=>fnd x hs)++(List.range hs.length).filter fun k=>!decide (hs.getD k d∈firsts hs [] told)
theorem O8 {hs told:List α}{d:α}(n:hs.Nodup):(Im hs told d).Perm (List.range hs.length):=by
 have g:∀x∈firsts _ [] told,x∈hs:=fun x f=>(firsts_mem.mp f).1
 refine (List.perm_ext_iff_of_nodup ?_ List.nodup_range).mpr fun k=>?_
 ·unfold Im
  rw[List.nodup_append]
  refine⟨?_,List.nodup_range.filter _,fun a j b i e=>?_⟩
  ·rw[List.nodup_iff_pairwise_ne,List.pairwise_map]
   refine List.Pairwise.imp_of_mem (fun {a b} j i l e=>l (Aw8 (g a j) (g b i) e)) (List.nodup_iff_pairwise_ne.mp (B0m (Sg (hs:=hs) (pre:=[]) (r:=told))))
  ·subst e
   obtain⟨x,f,rfl⟩:=List.mem_map.mp j;have:=(List.mem_filter.mp i).2;rw[List.getD_eq_getElem?_getD,K9 (g x f)]at this
   simp[f]at this
 ·unfold Im
  rw[List.mem_append,List.mem_map,List.mem_filter,List.mem_range]
  constructor
  ·rintro (⟨x,f,rfl⟩ | ⟨h,_⟩)
   ·exact A7g (g x f)
   ·exact h
  ·intro m
   by_cases c:hs.getD k d∈firsts hs [] told
   ·refine .inl ⟨_,c,Lx n ?_⟩
    simp[m]
   simp_all
theorem A7n {hs told:List α}{d:α}:atP d hs (Im hs told d)=firsts hs [] told++hs.filter fun x=>!decide (x∈told):=by
 unfold Im
 rw[Bg1,Aw5 fun x a=>(firsts_mem.mp a).1,Ar0 d _ fun x=>!decide _]
 congr 1
 refine List.filter_congr fun x a=>?_
 congr 1
 rw[decide_eq_decide,firsts_mem]
 grind
end
theorem Ah1 {R:Nat->Nat->Prop}(anti:∀a b,R a b->R b a->False):∀{p q:List Nat},p.Perm q->p.Pairwise R->q.Pairwise R->p=q
 | [],q,h,_,_=>(List.Perm.eq_nil h.symm).symm
 | a::p,[],h,_,_=>absurd h.length_eq (by simp)
 | a::p,b::q,h,wp,wq=>by
  have e:a=b:=by
   by_cases e:a=b
   ·exact e
   ·have ha:a∈q:=(List.mem_cons.mp (h.mem_iff.mp (.head _))).resolve_left e
    have hb:b∈p:=(List.mem_cons.mp (h.symm.mem_iff.mp (.head _))).resolve_left (Ne.symm e);exact(anti a b ((List.pairwise_cons.mp wp).1 b hb) ((List.pairwise_cons.mp wq).1 a ha)).elim
  subst e;rw[Ah1 anti (List.Perm.cons_inv h) (List.pairwise_cons.mp wp).2 (List.pairwise_cons.mp wq).2]
def klt (ks:List (List Vl))(i j:Nat):Bool:=rlt (ks.getD i []) (ks.getD j [])
theorem Z0 (ks:List (List Vl)):PS.Ord (klt ks):=⟨fun a=>Uj _,fun a b c h k=>Am9 h k,fun a b c h=>by
 rcases Au8 _ _ with q | q | q
 ·exact .inl q
 ·exact .inr (by unfold klt at h ⊢;grind)
 ·exact .inr (Am9 q h)⟩
theorem Bh6  (O:PS.Ord lt) (a b:Nat) (h:PS.Rr lt a b) (k:PS.Rr lt b a):False:=by
 rcases h with h | ⟨h,d⟩
 ·rcases k with k | ⟨k,c⟩
  ·have:=O.tr _ _ _ h k;rw[O.irr]at this;grind
  grind
 ·rcases k with k | ⟨k,c⟩
  ·grind
  omega
theorem range_getD (ds:List PyData):((List.range ds.length).map fun i=>ds.getD i .none)=ds:=by
 apply List.ext_getElem
 ·simp
 simp_all
theorem Aa8    (O:PS.Ord lt) (hk:ks.length=ds.length) (h:ds.length<64) (b:0<ks.length->kdOf ks=kd) (hf:∀k∈ks,Lk kd k=true/\Df k=true)
 (hB:∀i j x y,ks[i]?=some x->ks[j]?=some y->Bh1 kd x y=some (lt i j)) :
 ∃p:List Nat,p.Perm (List.range ds.length)/\p.Pairwise (PS.Rr lt)/\Qw ds ks=some (p.map fun i=>ds.getD i .none):=by
 unfold Qw
 by_cases h2:ds.length<2
 ·rw[if_pos h2]
  refine⟨List.range ds.length,.refl _,?_,?_⟩
  ·rw[List.pairwise_iff_getElem]
   grind
  ·rw[range_getD]
 ·rw[if_neg h2,b (by omega)]
  have m:(decide (ds.length<64)&&(ks.all (Lk kd)&&ks.all Df))=true:=by
   simp_all
  rw[if_pos m]
  obtain⟨p,e,o,g,f⟩:=PS.A9b (B:=Ak3 kd ks) O (n:=ds.length) fun i j l c=>by
   unfold Ak3
   grind (by omega)
  rw[e]
  refine⟨p.toList,f,?_,rfl⟩
  rw[List.pairwise_iff_getElem];intro i j l c a
  have d  := by rw[Array.length_toList,o]at c;exact c
  have q:=g i j a d
  have r:p.getD i 0=p.toList[i]:=by simp[Array.getElem?_eq_getElem (show i<p.size by omega)]
  simp_all
theorem Ae9  [DecidableEq a] (f:a->PyData) (d:a) (l:List a)  (h:∀i∈p,i<l.length):(p.map fun i=>(l.map f).getD i .none)=(atP d l p).map f:=by
 unfold atP
 simp_all
structure HK (hs:List (List Vl)):Prop where
 nd:hs.Nodup
 vb:∀h∈hs,VBs h/\h.length<=4
 len:hs.length<=60
theorem Bd7  (h:VBs vs):VGs vs:=fun v a=>Gp (h v a)
theorem A0i {hs:List (List Vl)}:(∀h∈hs,h.length<=4)->V2 (Gb 2) (hs.map tD)=some (hs.map Qj):=by
 induction hs with
 | nil=>intro _;rfl
 | cons h hs c =>
  intro a
  have b:Ap3 (Gb 2) (tD h)=some (Qj h):=by unfold Ap3;rw[(A4w  (Nat.le_trans (a h (.head _)) (by decide)))];rfl
  show (Ap3 _ _).bind _=_
  grind
theorem A4h  (H:HK hs):∃p:List Nat,p.Perm (List.range hs.length)/\p.Pairwise (PS.Rr (klt hs))/\Ks [.im (.tuple (hs.map tD))]=.ret (.ls false ((atP [] hs p).map tD)) [.im (.tuple (hs.map tD))]:=by
 have l:=H.len
 obtain⟨p,d,m,e⟩:=Aa8 (ds:=hs.map tD) (ks:=hs.map Qj) (kd:=.ti) (Z0 hs) (by simp_all) (by grind) (fun h0=>by
  cases hs with
  | nil=>trivial
  | cons h hs=>rfl) (fun k g=>by
  obtain⟨h,c,rfl⟩:=List.mem_map.mp g
  exact⟨rfl,(Ar6 (Bd7 (H.vb h c).1) (Nat.le_trans (H.vb h c).2 (by decide))).flatB (by decide)⟩) (fun i j x y o f=>by
  obtain⟨a,r,rfl⟩:=Hl o;obtain⟨b,q,rfl⟩:=Hl f
  show Kl _ _ (Qj b)=_
  unfold klt
  rw[Ba9,List.getD_eq_getElem?_getD,List.getD_eq_getElem?_getD,r,q];rfl)
 rw[List.length_map]at d;rw[Ae9 _ [] _ (El d)]at e
 refine⟨p,d,m,?_⟩
 have ek:=A0i fun h c=>(H.vb h c).2
 have n:(V2 (Gb 2) (hs.map tD)).bind (Qw (hs.map tD))=some ((atP [] hs p).map tD):=by simp_all
 wp_walk using Ks,Ag8,Bq1,U.Mj,n
theorem Ye:∀a b:List Vl,Ld false (a.map Dy) (b.map Dy)=some (rlt a b)
 | [],[]=>rfl
 | [],_::_=>rfl
 | _::_,[]=>rfl
 | x::xs,y::ys=>by
  rw[List.map_cons,List.map_cons,Ld,rlt,Xg]
  by_cases e:x=y
  ·rw[decide_eq_true e,if_pos rfl,if_pos e];exact Ye xs ys
  ·rw[decide_eq_false e,if_neg (by decide),if_neg e,Az4];rfl
theorem U7:∀a b:List Vl,PyData.eqvAll (a.map Dy) (b.map Dy)=decide (a=b)
 | [],[]=>rfl
 | [],_::_=>rfl
 | _::_,[]=>rfl
 | x::xs,y::ys=>by
  show (PyData.eqv (Dy x) (Dy y)&&PyData.eqvAll (xs.map Dy) (ys.map Dy))=_
  rw[Xg,U7 xs ys,<- Bool.decide_and]
  exact decide_eq_decide.mpr ⟨fun h=>by rw[h.1,h.2],fun h=>by cases h;exact⟨rfl,rfl⟩⟩
theorem Am4  (h:VB v):Good (Dy v) 1 5800:=by
 have g:=Gp h
 cases v with
 | non=>exact⟨by decide +kernel,rfl,rfl,by decide,by decide +kernel⟩
 | int i=>
  exact(Good.tup  (n:=0) (w:=1921) (k:=3) (fun d a=>by
   simp  at a
   rcases a with rfl | rfl | rfl
   ·exact⟨rfl,rfl,rfl,by decide,by trivial⟩
   ·exact g
   ·exact⟨by decide +kernel,rfl,rfl,by decide,by trivial⟩) (Nat.le_refl _)).mono (by decide) (by decide)
 | str x=>
  exact(Good.tup  (n:=0) (w:=1921) (k:=3) (fun d a=>by
   simp  at a
   rcases a with rfl | rfl | rfl
   ·exact⟨rfl,rfl,rfl,by decide,by decide +kernel⟩
   ·exact⟨rfl,rfl,rfl,by decide,by decide +kernel⟩
   ·exact g) (Nat.le_refl _)).mono (by decide) (by decide)
theorem A4o {h:List Vl}(hl:h.length<=4):Gi [.im (tD h)]=.ret (.ls false (h.map Dy)) [.im (tD h)]:=by
 obtain⟨cI,e,u,rfl⟩:=Do (g:=cgN 0) (ft:=Be) (fe:=cF G9 (Ac (Ad 0) Al)) (I:=fun c=>∃u,c=[u]) (f:=Vl.d) (G:=Dy) (xs:=h) (acc:=[]) (c:=[none]) ⟨none,rfl⟩
  (fun x c hx hI=>by
   obtain⟨u,rfl⟩:=hI
   refine⟨[some (.im x.d)],?_,_,rfl⟩
   wp_walk using A2s)
 have e2:cLC [none] (Bm (Ad 0)) (cgN 0) Be (cF G9 (Ac (Ad 0) Al)) [some (.im (tD h))]=.ok (.o (.ls false (h.map Dy))) [some (.im (tD h))] :=
  Et (ds:=h.map Vl.d) (c1:=[some (.im (tD h))]) (by wp_walk using Bm,tD) (by rw[List.length_map];omega) (by simpa[cIn] using e) rfl
 wp_walk using Gi,Vo,e2
def gk (hs:List (List Vl))(k:Nat):PyData:=.tuple [.list ((hs.getD k []).map Dy),.int (k:Nat)]
theorem Bf2 {hs:List (List Vl)}(H:HK hs){k:Nat}(hk:k<hs.length):Good (gk hs k) 3 50000:=by
 have hm:hs.getD k []∈hs:=by simp[hk]
 have l:=H.len
 have a:Good (.list ((hs.getD k []).map Dy)) 2 23300:=(Good.lst (n:=1) (w:=5800) (k:=4) (fun d hd=>by obtain⟨v,hv,rfl⟩:=List.mem_map.mp hd;exact Am4 ((H.vb _ hm).1 v hv)) (by rw[List.length_map];exact(H.vb _ hm).2)).mono (by decide) (by decide)
 have b:Good (.int (k:Nat)) 2 23300:=(Gp (v:=.int (k:Nat)) (by
  show vb (.int (k:Nat))=true
  unfold vb
  simp
  omega)).mono (by decide) (by decide)
 exact(Good.tup (ds:=[.list ((hs.getD k []).map Dy),.int (k:Nat)]) (n:=2) (w:=23300) (k:=2) (fun d hd=>by
  simp only[List.mem_cons,List.not_mem_nil,or_false]at hd
  rcases hd with rfl | rfl
  ·exact a
  ·exact b) (Nat.le_refl _)).mono (by decide) (by decide)
theorem A9j {hs:List (List Vl)}(H:HK hs):∃p:List Nat,p.Perm (List.range hs.length)/\p.Pairwise (PS.Rr (klt hs))/\Oc (.list ((List.range hs.length).map (gk hs)))=some (.ls false (p.map (gk hs))):=by
 have l:=H.len
 have at_:∀i x,((List.range hs.length).map (gk hs))[i]?=some x->i<hs.length/\x=gk hs i:=fun i x hx=>by
  obtain⟨j,hj,rfl⟩:=Hl hx
  have hi:i<hs.length:=by
   rcases Nat.lt_or_ge i hs.length with q | q
   ·exact q
   ·rw[List.getElem?_eq_none (by rw[List.length_range];exact q)]at hj;cases hj
  rw[List.getElem?_range hi]at hj
  cases hj
  exact⟨hi,rfl⟩
 obtain⟨p,pm,pw,e⟩:=Aa8 (ds:=(List.range hs.length).map (gk hs)) (ks:=(List.range hs.length).map (gk hs)) (kd:=.tl) (Z0 hs) rfl (by rw[List.length_map,List.length_range];omega) (fun h0=>by
  rw[List.length_map,List.length_range]at h0
  obtain⟨m,hm⟩:∃m,hs.length=m+1:=⟨hs.length-1,by omega⟩
  rw[hm,List.range_succ_eq_map];rfl) (fun k hk=>by
  obtain⟨h,hh,rfl⟩:=List.mem_map.mp hk
  exact⟨rfl,(Bf2 H (List.mem_range.mp hh)).flatB (by decide)⟩) (fun i j x y hx hy=>by
  obtain⟨hi,rfl⟩:=at_ i x hx;obtain⟨hj,rfl⟩:=at_ j y hy
  show (if PyData.eqvAll ((hs.getD i []).map Dy) ((hs.getD j []).map Dy)=true then Ld false [.int (i:Nat)] [.int (j:Nat)] else Ld false ((hs.getD i []).map Dy) ((hs.getD j []).map Dy))=_
  unfold klt;rw[U7,Ye]
  by_cases q:hs.getD i []=hs.getD j []
  ·rw[decide_eq_true q,if_pos rfl]
   have e1:hs[i]?=some (hs.getD i []):=by simp[hi]
   have e2:hs[j]?=some (hs.getD i []):=by rw[q];simp[hj]
   have:i=j:=(Lx H.nd e1).symm.trans (Lx H.nd e2);subst this;rw[Uj,Ld,Bg9,if_pos rfl];rfl
  ·rw[decide_eq_false q,if_neg (by decide)])
 rw[List.length_map,List.length_range]at pm
 refine⟨p,pm,pw,?_⟩
 have e3:(p.map fun i=>((List.range hs.length).map (gk hs)).getD i .none)=p.map (gk hs):=List.map_congr_left fun i hi=>by
  have:=El pm i hi
  simp[this]
 rw[e3]at e
 show (Qw _ _).map _=_
 rw[e];rfl
def isB (o:Option O)(b:Bool):Bool:=match o with
 | some (.im (.bool c))=>c==b
 | _=>false
theorem An   (h:isB o b=true):o=some (.im (.bool b)):=by
 unfold isB at h
 grind
def sqD (b:Bool)(l:List PyData):PyData:=if b then .tuple l else .list l
def Fb (b:Bool)(ts:List (List Vl)):PyData:=.tuple [.str "told",sqD b (ts.map tD)]
inductive Od where
 | seen | rising | falling
 | told (b:Bool) (ts:List (List Vl))
def Od.d:Od->PyData
 | .seen=>.str "seen"
 | .rising=>.str "rising"
 | .falling=>.str "falling"
 | .told b ts=>Fb b ts
structure TO' (ts:List (List Vl)):Prop where
 vb:∀t∈ts,VBs t/\t.length<=4
 len:ts.length<=62
def Od.Ok:Od->Prop
 | .told _ ts=>TO' ts
 | _=>True
theorem Bz5 {t:List Vl}(h:VBs t/\t.length<=4):Good (tD t) 1 7696:=Gm h.1 h.2
theorem Au6 {b:Bool}{ts:List (List Vl)}(h:TO' ts):Good (sqD b (ts.map tD)) 2 480000:=by
 cases b with
 | true=>exact(Good.tup     (fun d a=>by obtain⟨t,c,rfl⟩:=List.mem_map.mp a;exact Bz5 (h.vb t c)) (by rw[List.length_map];exact h.len)).mono (by decide) (by decide)
 | false=>exact(Good.lst     (fun d a=>by obtain⟨t,c,rfl⟩:=List.mem_map.mp a;exact Bz5 (h.vb t c)) (by rw[List.length_map];exact h.len)).mono (by decide) (by decide)
theorem Gz (x:String)(h:vb (.str (Str.ofString x))=true):Good (.str (Str.ofString x)) 0 1921:=Gp  h
theorem A0c {b:Bool}{ts:List (List Vl)}(h:TO' ts):Good (Fb b ts) 3 970000 :=
 (Good.tup  (n:=2) (w:=480000) (k:=2) (fun d a=>by
  simp  at a
  rcases a with rfl | rfl
  ·exact(Gz _ (by trivial)).mono (by decide) (by decide)
  ·exact Au6 h) (Nat.le_refl _)).mono (by decide) (by decide)
abbrev hT (hs:List (List Vl)):PyData:=.tuple (hs.map tD)
abbrev hL (hs:List (List Vl)):PyData:=.list (hs.map tD)
abbrev pI (p:List Nat):List PyData:=p.map fun k=>PyData.int (k:Nat)
structure InO (hs:List (List Vl)) (od:PyData) (p:List Nat):Prop where
 pm:p.Perm (List.range hs.length)
 ord:Bg [hT hs,od]=.ret (.im (.list ((atP [] hs p).map tD)))
 plc:Cd [.im (hL hs),.im od]=.ret (.ls false (pI p)) [.im (hL hs),.im od]
abbrev aS:PyData:=.str "seen"
abbrev aR:PyData:=.str "rising"
abbrev aF:PyData:=.str "falling"
theorem sS:Di false aS aS=some (.im (.bool true)):=An (by decide +kernel)
theorem rS:Di false aR aS=some (.im (.bool false)):=An (by decide +kernel)
theorem rR:Di false aR aR=some (.im (.bool true)):=An (by decide +kernel)
theorem fS:Di false aF aS=some (.im (.bool false)):=An (by decide +kernel)
theorem fR:Di false aF aR=some (.im (.bool false)):=An (by decide +kernel)
theorem fF:Di false aF aF=some (.im (.bool true)):=An (by decide +kernel)
theorem iS:Gy true aS (.tuple [aS,aR,aF])=some (.im (.bool false)):=An (by decide +kernel)
theorem iR:Gy true aR (.tuple [aS,aR,aF])=some (.im (.bool false)):=An (by decide +kernel)
theorem iF:Gy true aF (.tuple [aS,aR,aF])=some (.im (.bool false)):=An (by decide +kernel)
theorem Vc (x:Str):En .tuple (.str x)=some (.im (.bool false)):=rfl
theorem B1q (l:List (List Vl)):Kf [.list (l.map tD)]=some (.im (.int (l.length:Nat))):=by show some _=_;simp_all
theorem Aa6 {hs:List (List Vl)}(H:HK hs):InO hs aS (List.range hs.length):=by
 have l:=H.len
 refine⟨.refl _,?_,?_⟩
 ·rw[Ku]
  wp_walk using Bg,Ew,sS,Jf
 ·have e:Aq1 (.int (hs.length:Nat))=some (.ls false (pI (List.range hs.length))):=by
   show (if 0<=((hs.length:Nat):Int)/\((hs.length:Nat):Int)<=2 ^ 24 then some (O.ls false ((List.range ((hs.length:Nat):Int).toNat).map fun k=>.int (k:Nat))) else none)=_
   rw[if_pos ⟨by omega,by omega⟩,Int.toNat_natCast]
  wp_walk using Cd,Ex,Vc,sS,iS,B1q,e
theorem Ba6 {hs:List (List Vl)}(H:HK hs){s1 s2 s3:Option O}:cLC [none,none] (Mi (Ad 0)) (cgT 2 (Ba (cgN 0) (Ba (cgN 1) Ek))) Be (Ei (Ac (cF Gi (Ac (Ad 1) Al)) (Ac (Ad 0) Al))) [some (.im (hL hs)),s1,s2,s3]=.ok (.o (.ls false ((List.range hs.length).map (gk hs)))) [some (.im (hL hs)),s1,s2,s3]:=by
 have l:=H.len
 obtain⟨cI,e,u,v,rfl⟩:=Do (g:=cgT 2 (Ba (cgN 0) (Ba (cgN 1) Ek))) (ft:=Be) (fe:=Ei (Ac (cF Gi (Ac (Ad 1) Al)) (Ac (Ad 0) Al))) (I:=fun c=>∃u v,c=[u,v]) (f:=fun k=>.tuple [.int (k:Nat),(hs.map tD).getD k .none]) (G:=gk hs) (xs:=List.range hs.length) (acc:=[]) (c:=[none,none]) ⟨none,none,rfl⟩
  (fun x c hx hI=>by
   obtain⟨u,v,rfl⟩:=hI;have hx:=List.mem_range.mp hx
   have hm:hs.getD x []∈hs:=by simp[hx]
   have ed:(hs.map tD).getD x .none=tD (hs.getD x []):=by simp[hx]
   refine⟨[some (.im (.int (x:Nat))),some (.im (tD (hs.getD x [])))],?_,_,_,rfl⟩
   rw[ed]
   wp_walk using A4o (H.vb _ hm).2,gk)
 have e1:Je (hs.map tD)=(List.range hs.length).map fun k=>.tuple [.int (k:Nat),(hs.map tD).getD k .none]:=by unfold Je;rw[List.length_map]
 exact Et (ds:=Je (hs.map tD)) (c1:=[some (.im (hL hs)),s1,s2,s3]) (by wp_walk using Mi,U.Mj) (by rw[e1,List.length_map,List.length_range];omega) (by rw[e1];simpa[cIn] using e) rfl
theorem A9p {hs:List (List Vl)}(H:HK hs){p:List Nat}{s1 s2 s3:Option O}(hp:p.length<=60)(e:Oc (.list ((List.range hs.length).map (gk hs)))=some (.ls false (p.map (gk hs)))) :
 cLC [none,none] (Bm (cUn Oc (cLC [none,none] (Mi (Ad 0)) (cgT 2 (Ba (cgN 0) (Ba (cgN 1) Ek))) Be (Ei (Ac (cF Gi (Ac (Ad 1) Al)) (Ac (Ad 0) Al)))))) (cgT 2 (Ba (cgN 0) (Ba (cgN 1) Ek))) Be (Ad 1) [some (.im (hL hs)),s1,s2,s3]=.ok (.o (.ls false (pI p))) [some (.im (hL hs)),s1,s2,s3]:=by
 have e1:=Ba6 H (s1:=s1) (s2:=s2) (s3:=s3)
 obtain⟨cI,e2,u,v,rfl⟩:=Do (g:=cgT 2 (Ba (cgN 0) (Ba (cgN 1) Ek))) (ft:=Be) (fe:=Ad 1) (I:=fun c=>∃u v,c=[u,v]) (f:=gk hs) (G:=fun k=>.int (k:Nat)) (xs:=p) (acc:=[]) (c:=[none,none]) ⟨none,none,rfl⟩
  (fun x c hx hI=>by
   obtain⟨u,v,rfl⟩:=hI
   refine⟨[some (.im (.list ((hs.getD x []).map Dy))),some (.im (.int (x:Nat)))],?_,_,_,rfl⟩
   wp_walk using gk)
 refine Et (ds:=p.map (gk hs)) (c1:=[some (.im (hL hs)),s1,s2,s3]) ?_ (by rw[List.length_map];omega) (by simpa[cIn] using e2) rfl
 unfold Bm cUn;rw[e1]
 wp_walk using e
theorem X8 {hs:List (List Vl)}(H:HK hs):∃p,InO hs aR p/\InO hs aF p.reverse:=by
 have l:=H.len;obtain⟨p,pm,pw,e⟩:=A4h H;obtain⟨q,qm,qw,e2⟩:=A9j H;have:q=p:=Ah1 (Bh6 (Z0 hs)) (qm.trans pm.symm) qw pw;subst this
 have lq:q.length<=60:=by rw[pm.length_eq,List.length_range];exact l
 have e3:=fun (s1 s2 s3:Option O)=>A9p H (s1:=s1) (s2:=s2) (s3:=s3) lq e2
 refine⟨q,⟨pm,?_,?_⟩,⟨q.reverse_perm.trans pm,?_,?_⟩⟩
 ·wp_walk using Bg,Ew,rS,rR,e
 ·wp_walk using Cd,Ex,Vc,rS,iR,e3,rR
 ·rw[Bd0,List.map_reverse]
  wp_walk using Bg,Ew,fS,fR,fF,e,Ym
 ·show _=FR.ret (.ls false (q.reverse.map fun k=>PyData.int (k:Nat))) _
  rw[List.map_reverse]
  wp_walk using Cd,Ex,Vc,fS,iF,e3,fR,Vy
theorem At8 {neg:Bool}{v:List Vl}{vs:List (List Vl)}(h:VBs v)(hs:∀u∈vs,VBs u):Gy neg (tD v) (.tuple (vs.map tD))=some (.im (.bool (if neg then !decide (v∈vs) else decide (v∈vs)))):=by
 show (if Df _&&PyData.canLayAll0 _ then some _ else none)=_
 rw[(Gm h (Nat.le_refl _)).flatB (by decide),Qy fun d a=>by obtain⟨u,b,rfl⟩:=List.mem_map.mp a;exact(Gm (hs u b) (Nat.le_refl _)).lay,Bj2];rfl
theorem By5 {neg b:Bool}{v:List Vl}{vs:List (List Vl)}(h:VBs v)(hs:∀u∈vs,VBs u):Gy neg (tD v) (sqD b (vs.map tD))=some (.im (.bool (if neg then !decide (v∈vs) else decide (v∈vs)))):=by
 cases b with
 | true=>exact At8 h hs
 | false=>exact Ro h hs
theorem Vb {v:List Vl}:∀{vs:List (List Vl)},v∈vs->Yp (tD v) (vs.map tD)=some (fnd v vs)
 | u::us,h=>by
  rw[List.map_cons]
  show (if PyData.eqv (tD u) (tD v)=true then some 0 else (Yp (tD v) (us.map tD)).map (·+1))=_
  unfold fnd;rw[Xj]
  by_cases e:u=v
  ·rw[decide_eq_true e,if_pos rfl,if_pos e]
  ·rw[decide_eq_false e,if_neg (by decide),if_neg e,Vb ((List.mem_cons.mp h).resolve_left (Ne.symm e))];rfl
theorem Av2 {v:List Vl}{vs:List (List Vl)}(hv:v∈vs)(h:∀u∈vs,VBs u)(hl:vs.length<=1000):U6 (.list (vs.map tD)) (tD v)=some (.im (.int (fnd v vs:Nat))):=by
 show (if Df _&&(PyData.canLayAll0 _&&decide _) then (Yp _ _).map _ else none)=_
 rw[(Gm (h v hv) (Nat.le_refl _)).flatB (by decide),Qy fun d a=>by obtain⟨u,b,rfl⟩:=List.mem_map.mp a;exact(Gm (h u b) (Nat.le_refl _)).lay,decide_eq_true (by grind),Vb hv];rfl
theorem Ax9 {v:List Vl}{vs:List (List Vl)}(hv:v∈vs)(h:∀u∈vs,VBs u):Ib (.tuple (vs.map tD)) (tD v)=some (.im (.int (fnd v vs:Nat))):=by
 show (if Df _&&PyData.canLayAll0 _ then (Yp _ _).map _ else none)=_
 rw[(Gm (h v hv) (Nat.le_refl _)).flatB (by decide),Qy fun d a=>by obtain⟨u,b,rfl⟩:=List.mem_map.mp a;exact(Gm (h u b) (Nat.le_refl _)).lay,Vb hv];rfl
theorem B1c {b:Bool}{v:List Vl}{ts:List (List Vl)}(h:TO' ts)(hv:v∈ts):Bw [.im (tD v),.im (sqD b (ts.map tD))]=.ret (.im (.int (fnd v ts:Nat))) [.im (tD v),.im (sqD b (ts.map tD))]:=by
 have l:=h.len
 cases b with
 | true =>
  wp_walk using Bw,sqD,Af2,Nj,Nq,mtR,(Ax9 hv fun u a=>(h.vb u a).1)
 | false =>
  wp_walk using Bw,sqD,Af2,Nj,mtR,(Av2 hv (fun u a=>(h.vb u a).1) (by omega))
theorem Xr {b:Bool}{ts:List (List Vl)}{s0 s2 s3:Option O}(h:TO' ts):∀fs:List (List Vl),(∀f∈fs,f∈ts) ->
 Vf Bw [1] (fs.map tD) [s0,some (.im (sqD b (ts.map tD))),s2,s3]=.ok (fs.map fun f=>.int (fnd f ts:Nat)) [s0,some (.im (sqD b (ts.map tD))),s2,s3]
 | [],_=>rfl
 | f::fs,hf=>by
  have e:=B1c (b:=b) h (hf f (.head _))
  have ih:=Xr (b:=b) (s0:=s0) (s2:=s2) (s3:=s3) h fs fun x hx=>hf x (.tail _ hx)
  have e1:A2i Bw [1] (tD f) [s0,some (.im (sqD b (ts.map tD))),s2,s3]=.ok (.int (fnd f ts:Nat)) [s0,some (.im (sqD b (ts.map tD))),s2,s3]:=by
   wp_walk using A2i,e
  show ((A2i Bw [1] (tD f) _).bind fun k c=>(Vf Bw [1] (fs.map tD) c).bind fun ks c=>R.ok (k::ks) c)=_
  rw[e1]
  show ((Vf Bw [1] (fs.map tD) _).bind fun ks c=>R.ok (_::ks) c)=_
  rw[ih];rfl
def flt (neg:Bool)(hs ts:List (List Vl)):List (List Vl):=hs.filter fun h=>if neg then !decide (h∈ts) else decide (h∈ts)
theorem Ae5 {neg b:Bool}{hs ts:List (List Vl)}{s2 s3:Option O}(H:HK hs)(h:TO' ts) :
 cLC [none,some 1] (Bm (Ad 0)) (cgN 0) (Bd (cOp (Gy neg) (Ad 0) (Ad 1))) (Ad 0) [some (.im (hT hs)),some (.im (sqD b (ts.map tD))),s2,s3]=.ok (.o (.ls false ((flt neg hs ts).map tD))) [some (.im (hT hs)),some (.im (sqD b (ts.map tD))),s2,s3]:=by
 have l:=H.len
 obtain⟨cI,e,u,rfl⟩:=Kv (g:=cgN 0) (ft:=Bd (cOp (Gy neg) (Ad 0) (Ad 1))) (fe:=Ad 0) (I:=fun c=>∃u,c=[u,some (.im (sqD b (ts.map tD)))]) (f:=tD) (G:=fun h=>if (if neg then !decide (h∈ts) else decide (h∈ts))=true then some (tD h) else none) (xs:=hs) (acc:=[]) (c:=[none,some (.im (sqD b (ts.map tD)))]) ⟨none,rfl⟩
  (fun x c i j=>by
   obtain⟨u,rfl⟩:=j
   have a:=By5 (neg:=neg) (b:=b) (H.vb x i).1 fun u k=>(h.vb u k).1
   refine⟨[some (.im (tD x)),some (.im (sqD b (ts.map tD)))],?_,_,rfl⟩
   generalize hq:(if neg then !decide (x∈ts) else decide (x∈ts))=q at a ⊢
   cases q <;> wp_walk using a)
 have d:hs.filterMap (fun h=>if (if neg then !decide (h∈ts) else decide (h∈ts))=true then some (tD h) else none)=(flt neg hs ts).map tD:=by
  unfold flt;rw[<- List.filterMap_eq_map,List.filterMap_filter]
  rfl
 rw[d]at e
 exact Et (ds:=hs.map tD) (c1:=[some _,some (.im _),s2,s3]) (by wp_walk using Bm) (by rw[List.length_map];omega) (by simpa[cIn,O.flag] using e) rfl
theorem A0o {hs ts:List (List Vl)}(H:HK hs):Qw ((flt false hs ts).map tD) ((flt false hs ts).map fun f=>.int (fnd f ts:Nat))=some ((firsts hs [] ts).map tD):=by
 have l:=H.len;have E:(flt false hs ts).length<=hs.length:=List.length_filter_le _ _
 have m:∀x∈flt false hs ts,x∈hs/\x∈ts:=fun x d=>by
  obtain⟨t,n⟩:=List.mem_filter.mp d
  exact⟨t,by simpa using n⟩
 have o:(flt false hs ts).Nodup:=H.nd.filter _;generalize hF:flt false hs ts=F at E m o ⊢
 have C:PS.Ord fun i j=>decide (fnd (F.getD i []) ts<fnd (F.getD j []) ts):=⟨fun a=>by simp,fun a b c h k=>by simp at h k ⊢;omega,fun a b c h=>by simp at h ⊢;omega⟩
 obtain⟨p,g,G,e⟩:=Aa8 (ds:=F.map tD) (ks:=F.map fun f=>.int (fnd f ts:Nat)) (kd:=.ii) C (by rw[List.length_map,List.length_map]) (by rw[List.length_map];omega) (fun B=>by
  cases F with
  | nil=>simp at B
  | cons h hs=>rfl) (fun k J=>by
  obtain⟨h,hh,rfl⟩:=List.mem_map.mp J
  exact⟨rfl,rfl⟩) (fun i j x y d D=>by
  obtain⟨a,u,rfl⟩:=Hl d;obtain⟨c,s,rfl⟩:=Hl D;rw[List.getD_eq_getElem?_getD,List.getD_eq_getElem?_getD,u,s]
  show Kl false (.int (fnd a ts:Nat)) (.int (fnd c ts:Nat))=some (decide (fnd a ts<fnd c ts))
  show some (decide (((fnd a ts:Nat):Int)<((fnd c ts:Nat):Int)))=_
  congr 1
  exact decide_eq_decide.mpr (by omega))
 rw[List.length_map]at g;rw[Ae9 tD [] F (El g)]at e;rw[e]
 congr 2
 refine A3f (f:=fun x=>fnd x ts) ?_ (Sg (pre:=[])) fun x=>?_
 ·unfold atP
  rw[List.pairwise_map]
  refine List.Pairwise.imp_of_mem (fun {a c} u s r=>?_) G
  have v:=El g a u;have w:=El g c s
  rcases r with r | ⟨r,q⟩
  ·simpa using r
  ·have r:¬ fnd (F.getD c []) ts<fnd (F.getD a []) ts:=of_decide_eq_false r
   have I:F.getD a []∈F:=by simp[v]
   have K:F.getD c []∈F:=by simp[w]
   rcases Nat.lt_or_ge (fnd (F.getD a []) ts) (fnd (F.getD c []) ts) with z | z
   ·exact z
   ·have:=Aw8 (m _ I).2 (m _ K).2 (by omega)
    have L:F[a]?=some (F.getD a []):=by simp[v]
    have A:F[c]?=some (F.getD a []):=by rw[this];simp[w]
    have:=(Lx o L).symm.trans (Lx o A);omega
 ·rw[firsts_mem]
  constructor
  ·intro d
   have:=m x (Ub (El g) d)
   exact⟨this.1,by simp,this.2⟩
  ·rintro⟨t,_,n⟩
   have d:x∈F:=by rw[<- hF];exact List.mem_filter.mpr ⟨t,by simpa using n⟩
   refine List.mem_map.mpr ⟨fnd x F,g.mem_iff.mpr (List.mem_range.mpr (A7g d)),?_⟩
   rw[List.getD_eq_getElem?_getD,K9 d];rfl
theorem Bk5 {a b:List PyData}(h:a.length+b.length<=16000000):Ck (.list a) (.list b)=some (.ls false (a++b)):=by
 show (if a.length+b.length<=16000000 then some _ else none)=_
 simp_all
theorem Ar1 {b:Bool}{hs ts:List (List Vl)}(H:HK hs)(h:TO' ts):Ff [.im (hT hs),.im (sqD b (ts.map tD))]=.ret (.ls false ((atP [] hs (Im hs ts [])).map tD)) [.im (hT hs),.im (sqD b (ts.map tD))]:=by
 have l:=H.len
 have g:=fun c a=>Ae5 (neg:=false) (b:=b) (s2:=c) (s3:=a) H h
 have i:=fun c a=>Ae5 (neg:=true) (b:=b) (s2:=c) (s3:=a) H h
 have k:=Xr (b:=b) (s0:=some (.im (hT hs))) (s2:=some (.ls false ((flt false hs ts).map tD))) (s3:=some (.ls false ((flt true hs ts).map tD))) h (flt false hs ts) fun f e=>by
  have:=(List.mem_filter.mp e).2
  simpa using this
 have j:Aw1 Bw [1] (Ad 2) [some (.im (hT hs)),some (.im (sqD b (ts.map tD))),some (.ls false ((flt false hs ts).map tD)),some (.ls false ((flt true hs ts).map tD))]=.ok (.o (.ls false ((firsts hs [] ts).map tD))) [some (.im (hT hs)),some (.im (sqD b (ts.map tD))),some (.ls false ((flt false hs ts).map tD)),some (.ls false ((flt true hs ts).map tD))]:=by
  wp_walk using Aw1,U.Mj,k,(A0o (ts:=ts) H)
 have p:(firsts hs [] ts).length<=hs.length:=by
  have:=(O8 (hs:=hs) (told:=ts) (d:=[]) H.nd).length_eq;unfold Im at this
  grind
 have o:(flt true hs ts).length<=hs.length:=List.length_filter_le _ _
 have m:Ck (.list ((firsts hs [] ts).map tD)) (.list ((flt true hs ts).map tD))=some (.ls false ((atP [] hs (Im hs ts [])).map tD)):=by
  rw[Bk5 (by grind),A7n,List.map_append]
  congr 4
  exact List.filter_congr fun x n=>by simp
 wp_walk using Ff,Kg,g,i,j,m
theorem Y6 {b:Bool}{ts:List (List Vl)}(h:TO' ts)(x:Str)(hx:Good (.str x) 0 1921):Di false (Fb b ts) (.str x)=some (.im (.bool false)):=by
 rw[Xk (A0c h) hx (by decide) (by decide)];rfl
theorem Ax8:Di false (.str "told") (.str "told")=some (.im (.bool true)):=An (by decide +kernel)
theorem A4g (b:Bool)(l:List PyData):Ju .list .tuple (sqD b l)=some (.im (.bool true)):=by cases b <;> rfl
theorem A6i (a b:PyData):Kf [.tuple [a,b]]=some (.im (.int 2)):=rfl
theorem A1q:Di false (.int 2) (.int 2)=some (.im (.bool true)):=An (by trivial)
theorem A7h (a b:PyData):Ay (.tuple [a,b]) (.int 0)=some (.im a):=rfl
theorem Bk9 (a b:PyData):Ay (.tuple [a,b]) (.int 1)=some (.im b):=rfl
theorem A7l (a b:PyData):En .tuple (.tuple [a,b])=some (.im (.bool true)):=rfl
theorem As1 (b:Bool)(ts:List (List Vl)):Cv [.im (Fb b ts)]=.ret (.im (.bool true)) [.im (Fb b ts)]:=by
 wp_walk using Cv,Ej,Gj,Hu,Fb,A7l,A6i,A1q,A7h,Bk9,Ax8,A4g
theorem Ak1 {b:Bool}{hs ts:List (List Vl)}(H:HK hs)(h:TO' ts):Bg [hT hs,Fb b ts]=.ret (.im (.list ((atP [] hs (Im hs ts [])).map tD))):=by
 have e1:=Y6 (b:=b) h (Str.ofString "seen") (Gz _ (by decide +kernel))
 have e2:=Y6 (b:=b) h (Str.ofString "rising") (Gz _ (by decide +kernel))
 have e3:=Y6 (b:=b) h (Str.ofString "falling") (Gz _ (by decide +kernel))
 have e4:=As1 b ts;have e5:=Ar1 (b:=b) H h;have e6:Ay (Fb b ts) (.int 1)=some (.im (sqD b (ts.map tD))):=rfl
 wp_walk using Bg,Ew,e1,e2,e3,e4,e6,e5
theorem Xw {hs:List (List Vl)}:∀(r pre:List (List Vl)),((List.range r.length).filterMap fun k=>if r.getD k []∈hs/\r.getD k []∉pre++r.take k then some (r.getD k []) else none)=firsts hs pre r
 | [],pre=>rfl
 | x::r,pre=>by
  have ih:=Xw (hs:=hs) r (pre++[x]);rw[List.length_cons,List.range_succ_eq_map,List.filterMap_cons,List.filterMap_map]
  have e:((fun k=>if (x::r).getD k []∈hs/\(x::r).getD k []∉pre++(x::r).take k then some ((x::r).getD k []) else none) ∘ Nat.succ)=fun k=>if r.getD k []∈hs/\r.getD k []∉(pre++[x])++r.take k then some (r.getD k []) else none:=by
   funext k
   show (if (x::r).getD (k+1) []∈hs/\(x::r).getD (k+1) []∉pre++(x::r).take (k+1) then some ((x::r).getD (k+1) []) else none)=_
   rw[List.getD_cons_succ,List.take_succ_cons,List.append_assoc,List.singleton_append]
  rw[e,ih];simp only[List.getD_cons_zero,List.take_zero,List.append_nil]
  conv=>rhs;unfold firsts
  by_cases c:x∈hs/\x∉pre
  ·simp only[if_pos c]
  ·simp only[if_neg c]
theorem A9h     (h:f c=.ok (.o (.im (sqD b l))) c):Mi f c=.ok (Je l) c:=by
 cases b <;> wp_walk using Mi,h,sqD,U.Mj
theorem B0a {ts:List (List Vl)}{k:Nat}:J3 (.tuple (ts.map tD)) none (some (k:Int))=some (.im (.tuple ((ts.take k).map tD))):=by
 show some (O.im (.tuple (cutD (ts.map tD) none (some (k:Int)))))=_
 rw[Al4,<- List.map_take]
theorem B0c {ts:List (List Vl)}{k:Nat}:J3 (.list (ts.map tD)) none (some (k:Int))=some (.ls false ((ts.take k).map tD)):=by
 show some (O.ls false (cutD (ts.map tD) none (some (k:Int))))=_
 rw[Al4,<- List.map_take]
abbrev Yl:Ev->R Bool:=Al8 (Bd (cOp (Gy false) (Ad 1) (Ad 2))) (Bd (cOp (Gy true) (Ad 1) (cSl J3 (cOp Ay (Ad 3) (cC (.int 1))) cON (cOS (Ad 0)))))
theorem A4z {b:Bool}{hs ts:List (List Vl)}{k:Nat}{x:List Vl}{u v:Option O}(H:HK hs)(h:TO' ts)(hm:x∈ts) :
 Oo (cgT 2 (Ba (cgN 0) (Ba (cgN 1) Ek))) Yl (Ad 1) (.tuple [.int (k:Nat),tD x]) [u,v,some (.im (hL hs)),some (.im (Fb b ts))] =
  .ok (if x∈hs/\x∉ts.take k then some (tD x) else none) [some (.im (.int (k:Nat))),some (.im (tD x)),some (.im (hL hs)),some (.im (Fb b ts))]:=by
 have e1:Gy false (tD x) (hL hs)=_:=Ro (neg:=false) (h.vb x hm).1 fun u hu=>(H.vb u hu).1
 have e2:Gy true (tD x) (.list ((ts.take k).map tD))=_:=Ro (neg:=true) (h.vb x hm).1 fun u hu=>(h.vb u (List.mem_of_mem_take hu)).1
 have e3:Gy true (tD x) (.tuple ((ts.take k).map tD))=_:=At8 (neg:=true) (h.vb x hm).1 fun u hu=>(h.vb u (List.mem_of_mem_take hu)).1
 have e6:Ay (Fb b ts) (.int 1)=some (.im (sqD b (ts.map tD))):=rfl
 by_cases c1:x∈hs
 ·rw[decide_eq_true c1]at e1
  by_cases c2:x∈ts.take k
  ·rw[decide_eq_true c2]at e2 e3
   rw[if_neg (fun z=>z.2 c2)]
   cases b with
   | true=>wp_walk using Yl,e1,e6,sqD,B0a,e3
   | false=>wp_walk using Yl,e1,e6,sqD,B0c,e2
  ·rw[decide_eq_false c2]at e2 e3
   rw[if_pos ⟨c1,c2⟩]
   cases b with
   | true=>wp_walk using Yl,e1,e6,sqD,B0a,e3
   | false=>wp_walk using Yl,e1,e6,sqD,B0c,e2
 ·rw[decide_eq_false c1]at e1
  rw[if_neg (fun z=>c1 z.1)]
  wp_walk using Yl,e1
theorem Ad6 {b:Bool}{hs ts:List (List Vl)}{s2 s3:Option O}(H:HK hs)(h:TO' ts) :
 cLC [none,none,some 0,some 1] (Mi (cOp Ay (Ad 1) (cC (.int 1)))) (cgT 2 (Ba (cgN 0) (Ba (cgN 1) Ek))) Yl (Ad 1) [some (.im (hL hs)),some (.im (Fb b ts)),s2,s3]=.ok (.o (.ls false ((firsts hs [] ts).map tD))) [some (.im (hL hs)),some (.im (Fb b ts)),s2,s3]:=by
 have l:=H.len;have lt:=h.len;have e6:Ay (Fb b ts) (.int 1)=some (.im (sqD b (ts.map tD))):=rfl
 obtain⟨cI,e,u,v,rfl⟩:=Kv (g:=cgT 2 (Ba (cgN 0) (Ba (cgN 1) Ek))) (ft:=Yl) (fe:=Ad 1) (I:=fun c=>∃u v,c=[u,v,some (.im (hL hs)),some (.im (Fb b ts))]) (f:=fun k=>.tuple [.int (k:Nat),(ts.map tD).getD k .none])
  (G:=fun k=>if ts.getD k []∈hs/\ts.getD k []∉ts.take k then some (tD (ts.getD k [])) else none) (xs:=List.range ts.length) (acc:=[]) (c:=[none,none,some (.im (hL hs)),some (.im (Fb b ts))]) ⟨none,none,rfl⟩
  (fun k c hx hI=>by
   obtain⟨u,v,rfl⟩:=hI;have hk:=List.mem_range.mp hx
   have ed:(ts.map tD).getD k .none=tD (ts.getD k []):=by simp[hk]
   have hm:ts.getD k []∈ts:=by simp[hk]
   rw[ed]
   exact⟨_,A4z H h hm,_,_,rfl⟩)
 have e1:Je (ts.map tD)=(List.range ts.length).map fun k=>.tuple [.int (k:Nat),(ts.map tD).getD k .none]:=by unfold Je;rw[List.length_map]
 have e2:((List.range ts.length).filterMap fun k=>if ts.getD k []∈hs/\ts.getD k []∉ts.take k then some (tD (ts.getD k [])) else none)=(firsts hs [] ts).map tD:=by
  rw[<- Xw ts [],List.map_filterMap]
  congr 1
  funext k
  rw[List.nil_append]
  by_cases c:ts.getD k []∈hs/\ts.getD k []∉ts.take k
  ·rw[if_pos c,if_pos c];rfl
  ·rw[if_neg c,if_neg c];rfl
 rw[List.nil_append,e2]at e
 refine Et (ds:=Je (ts.map tD)) (c1:=[some (.im (hL hs)),some (.im (Fb b ts)),s2,s3]) (cI:=[u,v,some (.im (hL hs)),some (.im (Fb b ts))]) (A9h (b:=b) (by wp_walk using e6)) (by rw[e1,List.length_map,List.length_range];omega) ?_ (by wp_walk using true_and)
 rw[e1];exact e
theorem A5t {hs fs:List (List Vl)}{s1 s3:Option O}(H:HK hs)(hf:∀x∈fs,x∈hs)(hl:fs.length<=60) :
 cLC [none,some 0] (Bm (Ad 2)) (cgN 0) Be (Af2 (Ad 1) (Ad 0)) [some (.im (hL hs)),s1,some (.ls false (fs.map tD)),s3]=.ok (.o (.ls false (pI (fs.map fun x=>fnd x hs)))) [some (.im (hL hs)),s1,some (.im (.list (fs.map tD))),s3]:=by
 have l:=H.len
 obtain⟨cI,e,u,rfl⟩:=Do (g:=cgN 0) (ft:=Be) (fe:=Af2 (Ad 1) (Ad 0)) (I:=fun c=>∃u,c=[u,some (.im (hL hs))]) (f:=tD) (G:=fun x=>.int (fnd x hs:Nat)) (xs:=fs) (acc:=[]) (c:=[none,some (.im (hL hs))]) ⟨none,rfl⟩
  (fun x c hx hI=>by
   obtain⟨u,rfl⟩:=hI
   have e1:U6 (hL hs) (tD x)=_:=Av2 (hf x hx) (fun u hu=>(H.vb u hu).1) (by omega)
   refine⟨[some (.im (tD x)),some (.im (hL hs))],?_,_,rfl⟩
   wp_walk using Af2,Nj,mtR,e1)
 rw[List.nil_append]at e
 refine Et (ds:=fs.map tD) (c1:=[some (.im (hL hs)),s1,some (.im (.list (fs.map tD))),s3]) (by wp_walk using Bm) (by rw[List.length_map];omega) (acc:=pI (fs.map fun x=>fnd x hs)) (cI:=[u,some (.im (hL hs))]) ?_ (by wp_walk using true_and)
 show Eh _ _ _ _ [] (cIn [none,some 0] _)=_
 unfold pI;rw[List.map_map];exact e
theorem A6x {hs fs:List (List Vl)}{s1 s3:Option O}(H:HK hs)(hf:∀x∈fs,x∈hs) :
 cLC [none,none,some 2] (Mi (Ad 0)) (cgT 2 (Ba (cgN 0) (Ba (cgN 1) Ek))) (Bd (cOp (Gy true) (Ad 1) (Ad 2))) (Ad 0) [some (.im (hL hs)),s1,some (.im (.list (fs.map tD))),s3]=.ok (.o (.ls false (pI ((List.range hs.length).filter fun k=>!decide (hs.getD k []∈fs))))) [some (.im (hL hs)),s1,some (.im (.list (fs.map tD))),s3]:=by
 have l:=H.len
 obtain⟨cI,e,u,v,rfl⟩:=Kv (g:=cgT 2 (Ba (cgN 0) (Ba (cgN 1) Ek))) (ft:=Bd (cOp (Gy true) (Ad 1) (Ad 2))) (fe:=Ad 0) (I:=fun c=>∃u v,c=[u,v,some (.im (.list (fs.map tD)))]) (f:=fun k=>.tuple [.int (k:Nat),(hs.map tD).getD k .none])
  (G:=fun k=>if (!decide (hs.getD k []∈fs))=true then some (.int (k:Nat)) else none) (xs:=List.range hs.length) (acc:=[]) (c:=[none,none,some (.im (.list (fs.map tD)))]) ⟨none,none,rfl⟩
  (fun k c hx hI=>by
   obtain⟨u,v,rfl⟩:=hI;have hk:=List.mem_range.mp hx
   have ed:(hs.map tD).getD k .none=tD (hs.getD k []):=by simp[hk]
   have hm:hs.getD k []∈hs:=by simp[hk]
   refine⟨[some (.im (.int (k:Nat))),some (.im (tD (hs.getD k []))),some (.im (.list (fs.map tD)))],?_,_,_,rfl⟩
   rw[ed]
   have e1:=Ro (neg:=true) (vs:=fs) (H.vb _ hm).1 fun u hu=>(H.vb u (hf u hu)).1
   generalize hs.getD k []=x at e1 ⊢
   by_cases c:x∈fs
   ·rw[decide_eq_true c]at e1 ⊢
    wp_walk using e1
   ·rw[decide_eq_false c]at e1 ⊢
    wp_walk using e1)
 have e1:Je (hs.map tD)=(List.range hs.length).map fun k=>.tuple [.int (k:Nat),(hs.map tD).getD k .none]:=by unfold Je;rw[List.length_map]
 have e2:((List.range hs.length).filterMap fun k=>if (!decide (hs.getD k []∈fs))=true then some (PyData.int (k:Nat)) else none)=pI ((List.range hs.length).filter fun k=>!decide (hs.getD k []∈fs)):=by
  unfold pI;rw[<- List.filterMap_eq_map,List.filterMap_filter];rfl
 rw[List.nil_append,e2]at e
 refine Et (ds:=Je (hs.map tD)) (c1:=[some (.im (hL hs)),s1,some (.im (.list (fs.map tD))),s3]) (cI:=[u,v,some (.im (.list (fs.map tD)))]) (by wp_walk using Mi,U.Mj) (by rw[e1,List.length_map,List.length_range];omega) ?_ (by wp_walk using true_and)
 rw[e1];exact e
theorem Ad0 {b:Bool}{hs ts:List (List Vl)}(H:HK hs)(h:TO' ts):Cd [.im (hL hs),.im (Fb b ts)]=.ret (.ls false (pI (Im hs ts []))) [.im (hL hs),.im (Fb b ts)]:=by
 have l:=H.len
 have hf:∀x∈firsts hs [] ts,x∈hs:=fun x hx=>(firsts_mem.mp hx).1
 have lt:(Im hs ts []).length=hs.length:=by rw[(O8 (told:=ts) (d:=[]) H.nd).length_eq,List.length_range]
 have lf:(firsts hs [] ts).length<=60:=by
  have:=lt;unfold Im at this;rw[List.length_append,List.length_map]at this;omega
 have e1:=Ad6 (b:=b) (s2:=none) (s3:=none) H h;have e2:=A5t (s1:=some (.im (Fb b ts))) (s3:=none) H hf lf;have e3:=A6x (s1:=some (.im (Fb b ts))) (s3:=none) H hf
 have e4:Ck (.list (pI ((firsts hs [] ts).map fun x=>fnd x hs))) (.list (pI ((List.range hs.length).filter fun k=>!decide (hs.getD k []∈firsts hs [] ts))))=some (.ls false (pI (Im hs ts []))):=by
  rw[Bk5 ?_]
  ·unfold Im pI
   rw[List.map_append]
   congr 4
   exact List.filter_congr fun k hk=>by simp
  ·unfold pI
   have z:((List.range hs.length).filter fun k=>!decide (hs.getD k []∈firsts hs [] ts)).length<=hs.length:=Nat.le_trans (List.length_filter_le _ _) (by rw[List.length_range];exact Nat.le_refl _)
   simp only[List.length_map];omega
 have e5:En .tuple (Fb b ts)=some (.im (.bool true)):=rfl;have e6:Kf [Fb b ts]=some (.im (.int 2)):=rfl;have e7:Ay (Fb b ts) (.int 0)=some (.im (.str "told")):=rfl;have e8:Ay (Fb b ts) (.int 1)=some (.im (sqD b (ts.map tD))):=rfl;unfold Yl at e1
 wp_walk using Cd,Ex,e5,e6,A1q,e7,Ax8,e8,A4g,e1,e2,e3,e4
theorem Qh {hs:List (List Vl)}{od:Od}(H:HK hs)(h:od.Ok):∃p,InO hs od.d p:=by
 cases od with
 | seen=>exact⟨_,Aa6 H⟩
 | rising=>obtain⟨p,h1,_⟩:=X8 H;exact⟨p,h1⟩
 | falling=>obtain⟨p,_,h1⟩:=X8 H;exact⟨_,h1⟩
 | told b ts=>exact⟨_,O8 H.nd,Ak1 H h,Ad0 H h⟩
abbrev Rw:=List Vl×List (Option (List Vl))
def Wd.at (w:Wd)(p:List Nat):Wd:={ w with heads:=atP [] w.heads p,rows:=w.rows.map fun r=>(r.1,atP none r.2 p) }
def Wd.ar (w:Wd)(p:List Nat):Wd:={ w with rows:=atP (([],[]):Rw) w.rows p }
theorem Og {a:Type}[DecidableEq a]{d:a}{l:List a}{p:List Nat}:(atP d l p).length=p.length:=by unfold atP;grind
theorem Az3 {a b:Type}[DecidableEq a][DecidableEq b](f:a->b){d:a}{l:List a}{p:List Nat}:(atP d l p).map f=atP (f d) (l.map f) p:=by
 unfold atP
 simp_all
abbrev ptD (w:Wd):List (List Vl):=w.rows.map (·.1)
theorem Bz4 {w:Wd}{p:List Nat}(h:w.Ok)(a:p.Perm (List.range w.rows.length)):(w.ar p).Ok:=by
 have c:p.length=w.rows.length:=by rw[a.length_eq,List.length_range]
 refine⟨h.nms,h.klen,h.nlen,h.vlen,h.vpos,h.heads,h.hnd,h.hlen,fun r b=>h.rows r (Ub (El a) b),?_,by show (atP _ _ p).length<=12;rw[Og,c];exact h.rlen⟩
 show ((atP _ _ p).map _).Nodup
 rw[Az3]
 exact A6d h.rnd (by simp_all)
abbrev Gx (r:Rw):PyData:=.tuple (r.2.map Eo)
theorem Bn4 (v:Vl):keyB v.d=true:=by cases v <;> rfl
theorem Aw3:∀vs:List Vl,Gv (vs.map Vl.d)=true
 | []=>rfl
 | v::vs=>by
  show (keyB v.d&&Gv (vs.map Vl.d))=true
  rw[Bn4,Aw3 vs];rfl
theorem B0j (v:Vl):v.d.depth=0:=by cases v <;> rfl
theorem A4i:∀vs:List Vl,PyData.depthAll (vs.map Vl.d)=0
 | []=>rfl
 | v::vs=>by
  show max v.d.depth (PyData.depthAll (vs.map Vl.d))=0
  rw[B0j,A4i vs];rfl
theorem Am1 {vs:List Vl}(h:VBs vs):Oh (tD vs)=true:=by
 show (Gv _&&PyData.canLayAll0 _&&decide _)=true
 have l:PyData.canLayAll0 _=true:=(Gm h (Nat.le_refl _)).lay;rw[Aw3,l,A4i];rfl
theorem Rg:∀{rs:List Rw},(∀r∈rs,VBs r.1)->K6 (rs.map Es)=some (rs.map (fun r=>tD r.1),rs.map Gx)
 | [],_=>rfl
 | r::rs,h=>by
  have ih:=Rg fun x hx=>h x (List.mem_cons_of_mem _ hx)
  rw[List.map_cons]
  show (if Oh (tD r.1)=true then (K6 (rs.map Es)).map fun x=>(tD r.1::x.1,Gx r::x.2) else none)=_
  rw[if_pos (Am1 (h r List.mem_cons_self)),ih];rfl
theorem V5:∀{rs:List Rw},(rs.map (·.1)).Nodup->Vz (rs.map fun r=>tD r.1)=true
 | [],_=>rfl
 | r::rs,h=>by
  rw[List.map_cons,List.nodup_cons]at h
  show (!((rs.map fun r=>tD r.1).any fun e=>PyData.eqv (tD r.1) e)&&Vz (rs.map fun r=>tD r.1))=true
  have z:((rs.map fun r=>tD r.1).any fun e=>PyData.eqv (tD r.1) e)=false:=by
   rw[List.any_eq_false];intro e he q;obtain⟨x,hx,rfl⟩:=List.mem_map.mp he;rw[Xj]at q;exact h.1 (List.mem_map.mpr ⟨x,hx,(of_decide_eq_true q).symm⟩)
  rw[z,V5 h.2];rfl
theorem Ae7:∀{rs:List Rw}{i:Nat}{r:Rw},(rs.map (·.1)).Nodup->rs[i]?=some r->Vj (rs.map fun r=>tD r.1) (rs.map Gx) (tD r.1)=some (Gx r)
 | x::rs,0,r,_,e=>by
  cases (show some x=some r from e)
  show (if PyData.eqv (tD x.1) (tD x.1)=true then some (Gx x) else _)=_
  rw[Xj,decide_eq_true rfl,if_pos rfl]
 | x::rs,i+1,r,h,e=>by
  rw[List.map_cons,List.nodup_cons]at h
  have e:rs[i]?=some r:=by simpa using e
  have ne:x.1≠r.1:=fun z=>h.1 (List.mem_map.mpr ⟨r,List.mem_of_getElem? e,z.symm⟩)
  show (if PyData.eqv (tD x.1) (tD r.1)=true then some (Gx x) else Vj (rs.map fun r=>tD r.1) (rs.map Gx) (tD r.1))=_
  rw[Xj,decide_eq_false ne,if_neg (by decide)]
  exact Ae7 h.2 e
theorem Bz3 {a:Type}[DecidableEq a]{f:a->PyData}{d:a}{xs:List a}{i:Nat}(h:i<xs.length):atI (xs.map f) ((i:Nat):Int)=some (f (xs.getD i d)):=J1 (by grind)
theorem Au7 {a:Type}[DecidableEq a]{f:a->PyData}{d:a}{xs:List a}{i:Nat}(h:i<xs.length):Ay (.tuple (xs.map f)) (.int (i:Nat))=some (.im (f (xs.getD i d))):=by
 show (atI _ _).map _=_
 rw[Bz3   h];rfl
theorem ix3 (w:Wd):Ay w.d (.int 3)=some (.im (hT w.heads)):=rfl
theorem ixW (w:Wd):Ay w.d (.int 4)=some (.im (.tuple (w.rows.map Es))):=rfl
theorem slW (w:Wd):J3 w.d none (some 4)=some (.im (.tuple [nD w.key,nD w.names,nD w.vals,hT w.heads])):=by
 rfl
theorem Bz9 (w:Wd):J3 w.d none (some 3)=some (.im (.tuple [nD w.key,nD w.names,nD w.vals])):=by
 rfl
theorem B2c (w:Wd)(hs:List (List Vl))(rs:List Rw):Ck (.tuple [nD w.key,nD w.names,nD w.vals]) (.tuple [hT hs,.tuple (rs.map Es)])=some (.im (Wd.mk w.key w.names w.vals hs rs).d):=rfl
theorem A0n (rs:List Rw):∃u v,Eh (cgT 2 (Ba (cgN 0) (Ba (cgN 1) Ek))) Be (Ad 0) (rs.map Es) [] [none,none]=.ok ((rs.map (·.1)).map tD) [u,v]:=by
 obtain⟨cI,e,u,v,rfl⟩:=Do (g:=cgT 2 (Ba (cgN 0) (Ba (cgN 1) Ek))) (ft:=Be) (fe:=Ad 0) (I:=fun c=>∃u v,c=[u,v]) (f:=Es)     ⟨none,none,rfl⟩
  fun r c hx a=>by
   obtain⟨u,v,rfl⟩:=a
   refine⟨[some (.im (tD r.1)),some (.im (.tuple (r.2.map Eo)))],?_,_,_,rfl⟩
   trivial
 refine⟨u,v,?_⟩
 rw[List.map_map];exact e
theorem Aw6 {w:Wd}(l:w.rows.length<=60):cLC [none,none] (Bm (cOp Ay (Ad 0) (cC (.int 4)))) (cgT 2 (Ba (cgN 0) (Ba (cgN 1) Ek))) Be (Ad 0) [some (.im w.d)]=.ok (.o (.ls false ((ptD w).map tD))) [some (.im w.d)]:=by
 obtain⟨u,v,e⟩:=A0n _
 exact Et    (by rfl) (by grind) e rfl
theorem Tw {w:Wd}(l:w.rows.length<=60):Gf [.im w.d]=.ret (.im (hT (ptD w))) [.im w.d]:=by
 wp_walk using Gf,Tp,Aw6 l,Br
theorem Zn {w:Wd}(l:w.rows.length<=60):Jk [.im w.d]=.ret (.ls false ((ptD w).map tD)) [.im w.d]:=by
 wp_walk using Jk,Us,Aw6 l
theorem Qa {w:Wd}(h:w.Ok):HK (ptD w):=⟨h.rnd,fun x b=>by
 obtain⟨r,a,rfl⟩:=List.mem_map.mp b
 exact⟨(h.rows r a).part,by rw[(h.rows r a).plen];exact Nat.le_trans h.klen (by decide)⟩,by rw[List.length_map];exact Nat.le_trans h.rlen (by decide)⟩
theorem Mm {w:Wd}(h:w.Ok):HK w.heads:=⟨h.hnd,fun x a=>⟨(h.heads x a).2,by rw[(h.heads x a).1];exact Nat.le_trans h.nlen (by decide)⟩,Nat.le_trans h.hlen (by decide)⟩
theorem Ng {w:Wd}{od:PyData}{p:List Nat}(h:w.Ok)(I:InO (ptD w) od p):Dj [w.d,od]=.ret (.im (w.ar p).d):=by
 have lp:p.length=w.rows.length:=by rw[I.pm.length_eq,List.length_range,List.length_map]
 have l60:w.rows.length<=60:=Nat.le_trans h.rlen (by decide)
 have pl:∀i∈p,i<w.rows.length:=by have:=El I.pm;rw[List.length_map]at this;exact this
 have hvb:∀r∈w.rows,VBs r.1:=fun r hr=>(h.rows r hr).part
 have eP:=Rg hvb;have eD:=V5 h.rnd
 have eL:(w.rows.map fun r=>tD r.1).length<=16000000:=by rw[List.length_map];omega
 have e1:cDP (cOp Ay (Ad 0) (cC (.int 4))) [some (.im w.d),some (.im od),none,none]=.ok (.o (.ty (.dt (w.rows.map fun r=>tD r.1) (w.rows.map Gx)))) [some (.im w.d),some (.im od),none,none]:=by
  wp_walk using cDP,ixW w,eP,eD,eL
 have eK:(w.rows.map fun r=>tD r.1).all Oh=true:=List.all_eq_true.mpr fun k hk=>by obtain⟨r,hr,rfl⟩:=List.mem_map.mp hk;exact Am1 (hvb r hr)
 obtain⟨cI,e,u,rfl⟩:=Do (g:=cgN 0) (ft:=Be) (fe:=Ei (Ac (Ad 0) (Ac (Af8 (Ad 1) (Ad 0)) Al))) (I:=fun c=>∃u,c=[u,some (.ty (.dt (w.rows.map fun r=>tD r.1) (w.rows.map Gx)))]) (f:=fun k:Nat=>tD (w.rows.getD k ([],[])).1) (G:=fun k=>Es (w.rows.getD k ([],[]))) (xs:=p) (acc:=[]) (c:=[none,some (.ty (.dt (w.rows.map fun r=>tD r.1) (w.rows.map Gx)))]) ⟨none,rfl⟩
  (fun x c hx hI=>by
   obtain⟨u,rfl⟩:=hI;have hk:=pl x hx
   have hg:w.rows[x]?=some (w.rows.getD x ([],[])):=by simp[hk]
   have e2:=Ae7 h.rnd hg;have e3:=Am1 (hvb _ (List.mem_of_getElem? hg))
   refine⟨[some (.im (tD (w.rows.getD x ([],[])).1)),some (.ty (.dt (w.rows.map fun r=>tD r.1) (w.rows.map Gx)))],?_,_,rfl⟩
   generalize w.rows.getD x ([],[])=r at e2 e3 ⊢
   wp_walk using Af8,e2,e3,eK,Es)
 rw[List.nil_append]at e
 have e0:(atP [] (ptD w) p).map tD=p.map fun k=>tD (w.rows.getD k ([],[])).1:=by
  rw[show atP [] (ptD w) p=(atP (([],[]):Rw) w.rows p).map (fun r:Rw=>r.1) from (Az3 (d:=(([],[]):Rw)) (l:=w.rows) (fun r:Rw=>r.1)).symm]
  unfold atP;rw[List.map_map,List.map_map];rfl
 have e2:=Tw l60
 have e4:cLC [none,some 2] (Bm (cFY Bg (Ac (cF Gf (Ac (Ad 0) Al)) (Ac (Ad 1) Al)))) (cgN 0) Be (Ei (Ac (Ad 0) (Ac (Af8 (Ad 1) (Ad 0)) Al))) [some (.im w.d),some (.im od),some (.ty (.dt (w.rows.map fun r=>tD r.1) (w.rows.map Gx))),none]=.ok (.o (.ls false ((w.ar p).rows.map Es))) [some (.im w.d),some (.im od),some (.ty (.dt (w.rows.map fun r=>tD r.1) (w.rows.map Gx))),none]:=by
  refine Et (ds:=(atP [] (ptD w) p).map tD) (c1:=[some (.im w.d),some (.im od),some (.ty (.dt (w.rows.map fun r=>tD r.1) (w.rows.map Gx))),none]) (cI:=[u,some (.ty (.dt (w.rows.map fun r=>tD r.1) (w.rows.map Gx)))]) (by wp_walk using Bm,e2,I.ord) (by rw[List.length_map,Og];omega) ?_ rfl
  rw[e0]
  show _=R.ok ((atP (([],[]):Rw) w.rows p).map Es) _
  unfold atP;rw[List.map_map];exact e
 have e5:Ck (.tuple [nD w.key,nD w.names,nD w.vals,hT w.heads]) (.tuple [.tuple ((w.ar p).rows.map Es)])=some (.im (w.ar p).d):=rfl
 wp_walk using Dj,M9,e1,e2,I.ord,e4,Br,slW w,e5
theorem X5 {a:Type}[DecidableEq a]{f:a->PyData}(d:a){xs:List a}{p:List Nat}(hp:∀i∈p,i<xs.length)(hl:p.length<=60) :
 Ey [.im (.tuple (xs.map f)),.im (.list (pI p))]=.ret (.im (.tuple ((atP d xs p).map f))) [.im (.tuple (xs.map f)),.im (.list (pI p))]:=by
 obtain⟨b,e,u,rfl⟩:=Do (g:=cgN 0) (ft:=Be) (fe:=cOp Ay (Ad 1) (Ad 0)) (I:=fun c=>∃u,c=[u,some (.im (.tuple (xs.map f)))]) (f:=fun k:Nat=>PyData.int (k:Nat)) (G:=fun k=>f (xs.getD k d)) (xs:=p) (acc:=[]) (c:=[none,some (.im (.tuple (xs.map f)))]) ⟨none,rfl⟩
  (fun x c j l=>by
   obtain⟨u,rfl⟩:=l
   refine⟨[some (.im (.int (x:Nat))),some (.im (.tuple (xs.map f)))],?_,_,rfl⟩
   wp_walk using Au7 (f:=f) (d:=d) (hp x j))
 rw[List.nil_append]at e
 have h:cLC [none,some 0] (Bm (Ad 1)) (cgN 0) Be (cOp Ay (Ad 1) (Ad 0)) [some (.im (.tuple (xs.map f))),some (.im (.list (pI p)))]=.ok (.o (.ls false ((atP d xs p).map f))) [some (.im (.tuple (xs.map f))),some (.im (.list (pI p)))]:=by
  refine Et  (c1:=[some (.im _),some _]) (cI:=[u,some (.im (.tuple (xs.map f)))]) (by wp_walk using Bm) (by grind) (e.trans ?_) rfl
  unfold atP;rw[List.map_map];rfl
 wp_walk using Ey,Qo,h,Br
theorem A9i {w:Wd}{p:List Nat}(h:w.Ok)(a:p.Perm (List.range w.heads.length)):Fi [.im w.d,.im (.list (pI p))]=.ret (.im (w.at p).d) [.im w.d,.im (.list (pI p))]:=by
 have lp:p.length=w.heads.length:=by rw[a.length_eq,List.length_range]
 have d:=h.hlen;have i:=h.rlen
 obtain⟨j,e,u,v,rfl⟩:=Do (g:=cgT 2 (Ba (cgN 0) (Ba (cgN 1) Ek))) (ft:=Be) (fe:=Ei (Ac (Ad 0) (Ac (cF Ey (Ac (Ad 1) (Ac (Ad 2) Al))) Al))) (I:=fun c=>∃u v,c=[u,v,some (.im (.list (pI p)))]) (f:=Es) (G:=fun r=>Es (r.1,atP none r.2 p)) (xs:=w.rows) (acc:=[]) (c:=[none,none,some (.im (.list (pI p)))]) ⟨none,none,rfl⟩
  (fun r c l k=>by
   obtain⟨u,v,rfl⟩:=k
   refine⟨[some (.im (tD r.1)),some (.im (.tuple (r.2.map Eo))),some (.im (.list (pI p)))],?_,_,_,rfl⟩
   wp_walk using Es,(X5 (f:=Eo) none (xs:=r.2) (p:=p) (by rw[(h.rows r l).clen];exact El a) (by omega)))
 rw[List.nil_append]at e
 have m:cLC [none,none,some 1] (Bm (cOp Ay (Ad 0) (cC (.int 4)))) (cgT 2 (Ba (cgN 0) (Ba (cgN 1) Ek))) Be (Ei (Ac (Ad 0) (Ac (cF Ey (Ac (Ad 1) (Ac (Ad 2) Al))) Al))) [some (.im w.d),some (.im (.list (pI p))),none]=.ok (.o (.ls false ((w.at p).rows.map Es))) [some (.im w.d),some (.im (.list (pI p))),none]:=by
  refine Et (ds:=w.rows.map Es) (c1:=[some (.im w.d),some (.im (.list (pI p))),none]) (cI:=[u,v,some (.im (.list (pI p)))]) (by wp_walk using Bm,ixW w) (by rw[List.length_map];omega) (e.trans ?_) rfl
  show R.ok (w.rows.map fun r=>Es (r.1,atP none r.2 p)) _=R.ok ((w.rows.map _).map _) _
  rw[List.map_map];rfl
 have b:=X5 (f:=tD) []   (El a) (by omega)
 wp_walk using Fi,Ke,m,Bz9 w,ix3 w,b,Br,(B2c w (atP [] w.heads p) (w.at p).rows)
 rfl
theorem Mw {w:Wd}{od:PyData}{p:List Nat}(h:w.Ok)(I:InO w.heads od p):Dk [w.d,od]=.ret (.im (w.at p).d):=by
 have H:=Mm h
 have lp:p.length=w.heads.length:=by rw[I.pm.length_eq,List.length_range]
 have l60:=H.len
 obtain⟨cI,e,u,rfl⟩:=Do (g:=cgN 0) (ft:=Be) (fe:=cMt Nq Ib (Ad 1) (Ad 0)) (I:=fun c=>∃u,c=[u,some (.im (hT w.heads))]) (f:=fun k:Nat=>tD (w.heads.getD k [])) (G:=fun k=>.int (k:Nat)) (xs:=p) (acc:=[]) (c:=[none,some (.im (hT w.heads))]) ⟨none,rfl⟩
  (fun x c hx hI=>by
   obtain⟨u,rfl⟩:=hI;have hk:=El I.pm x hx
   have hm:w.heads.getD x []∈w.heads:=by simp[hk]
   have e1:Ib (hT w.heads) (tD (w.heads.getD x []))=_:=Ax9 hm fun u hu=>(H.vb u hu).1
   rw[Lx H.nd (i:=x) (by simp[hk])]at e1
   refine⟨[some (.im (tD (w.heads.getD x []))),some (.im (hT w.heads))],?_,_,rfl⟩
   wp_walk using cMt,Nq,e1)
 rw[List.nil_append]at e
 have e0:(atP [] w.heads p).map tD=p.map fun k=>tD (w.heads.getD k []):=by unfold atP;rw[List.map_map];rfl
 have e2:cLC [none,some 2] (Bm (cFY Bg (Ac (Ad 2) (Ac (Ad 1) Al)))) (cgN 0) Be (cMt Nq Ib (Ad 1) (Ad 0)) [some (.im w.d),some (.im od),some (.im (hT w.heads))]=.ok (.o (.ls false (pI p))) [some (.im w.d),some (.im od),some (.im (hT w.heads))]:=by
  refine Et (ds:=(atP [] w.heads p).map tD) (c1:=[some (.im w.d),some (.im od),some (.im (hT w.heads))]) (cI:=[u,some (.im (hT w.heads))]) (by wp_walk using Bm,I.ord) (by rw[List.length_map,Og];omega) ?_ rfl
  rw[e0];exact e
 have e3:=A9i h I.pm
 wp_walk using Dk,Ni,ix3 w,I.ord,e2,e3
abbrev tS:PyData:=.str "told"
abbrev st3:PyData:=.tuple [aS,aR,aF]
structure NoO (hs:List (List Vl)) (od:PyData):Prop where
 ord:Bg [hT hs,od]=.ex "BadOrder"
 plc:Cd [.im (hL hs),.im od]=.ret (.im .none) [.im (hL hs),.im od]
structure Qs (od:PyData):Prop where
 s:Di false od aS=some (.im (.bool false))
 r:Di false od aR=some (.im (.bool false))
 f:Di false od aF=some (.im (.bool false))
 i:Gy true od st3=some (.im (.bool true))
theorem Gs {hs:List (List Vl)}{od:PyData}(Q:Qs od)(h:En .tuple od=some (.im (.bool false))):NoO hs od:=by
 obtain⟨q1,q2,q3,q4⟩:=Q
 exact⟨(by wp_walk using Bg,Ew,q1,q2,q3,Cv,Ej,Gj,Hu,h),(by wp_walk using Cd,Ex,h,q4)⟩
theorem Y9 {hs:List (List Vl)}{l:List PyData}{k:Int}(Q:Qs (.tuple l))(hk:Kf [.tuple l]=some (.im (.int k)))(h:k≠2):NoO hs (.tuple l):=by
 obtain⟨q1,q2,q3,q4⟩:=Q;have e:En .tuple (.tuple l)=some (.im (.bool true)):=rfl
 exact⟨(by wp_walk using Bg,Ew,q1,q2,q3,Cv,Ej,Gj,Hu,e,hk,Ad1,decide_eq_false h),(by wp_walk using Cd,Ex,e,hk,Ad1,decide_eq_false h,q4)⟩
theorem A2t {hs:List (List Vl)}{a b:PyData}(Q:Qs (.tuple [a,b]))(h:Di false a tS=some (.im (.bool false))):NoO hs (.tuple [a,b]):=by
 obtain⟨q1,q2,q3,q4⟩:=Q
 exact⟨(by wp_walk using Bg,Ew,q1,q2,q3,Cv,Ej,Gj,Hu,A7l,A6i,A1q,A7h,h),(by wp_walk using Cd,Ex,A7l,A6i,A1q,A7h,h,q4)⟩
theorem Aq0 {hs:List (List Vl)}{b:PyData}(Q:Qs (.tuple [tS,b]))(h:Ju .list .tuple b=some (.im (.bool false))):NoO hs (.tuple [tS,b]):=by
 obtain⟨q1,q2,q3,q4⟩:=Q
 exact⟨(by wp_walk using Bg,Ew,q1,q2,q3,Cv,Ej,Gj,Hu,A7l,A6i,A1q,A7h,Bk9,Ax8,h),(by wp_walk using Cd,Ex,A7l,A6i,A1q,A7h,Bk9,Ax8,h,q4)⟩
theorem A8q {od:PyData}{n w:Nat}(g:Good od n w)(hn:n<=6)(e:∀x:Str,PyData.eqv od (.str x)=false)(e':∀x:Str,PyData.eqv (.str x) od=false):Qs od:=by
 have h:∀x:Str,Good (.str x) 0 1921->Di false od (.str x)=some (.im (.bool false)):=fun x hx=>by
  rw[Xk g hx (by omega) (by decide),e];rfl
 refine⟨h _ (Gz "seen" (by decide +kernel)),h _ (Gz "rising" (by decide +kernel)),h _ (Gz "falling" (by decide +kernel)),?_⟩
 show (if Df od&&PyData.canLayAll0 [aS,aR,aF] then some (O.im (.bool (if true then !([aS,aR,aF].any fun e=>PyData.eqv e od) else [aS,aR,aF].any fun e=>PyData.eqv e od))) else none)=_
 rw[g.flatB (by omega),show PyData.canLayAll0 [aS,aR,aF]=true by decide +kernel]
 simp only[List.any_cons,List.any_nil,e',Bool.or_false,Bool.and_self,if_true,Bool.not_false]
theorem Bf6 {hs:List (List Vl)}(H:HK hs):Good (hL hs) 2 480000:=Au6 (b:=false) ⟨H.vb,Nat.le_trans H.len (by decide)⟩
def Ae4 (hs:List (List Vl)):List PyData:=[aS,aR,aF,.str "Rising",tS,.str "",.str "rise",.str "rising falling",.none,.int 0,.int 1,.bool true,.tuple [],.list [],
 .tuple [tS],.tuple [tS,hL hs,hL hs],.tuple [aS,.list []],.tuple [aR],.list [tS,hL hs],.tuple [tS,.none],
 .tuple [tS,aS],.tuple [tS,.int 0],.tuple [.str "Told",hL hs],.list [],.list [aS],.tuple [tS,.list []],.tuple [tS,.tuple []],.tuple [tS,hL hs.reverse],.tuple [tS,hT hs]]
theorem A4c {hs:List (List Vl)}(H:HK hs){n:Nat}{ds:List PyData}(hb:Bx n ds)(hn:n<2 ^ 38):∃(od:PyData) (ds':List PyData),od∈Ae4 hs/\Bx (n+1) ds'/\Ie [.ls true ds,.im (hL hs)]=.ret (.im od) [.ls true ds',.im (hL hs)]:=by
 obtain⟨f,d1,b1,f0,f1,e1⟩:=Dz (m:=29) hb (by omega) (by decide) (by decide)
 obtain⟨od,h1,h2,_⟩:=Rq (l:=Ae4 hs) (r:=f) f0 f1;have e1:Av [.ls true ds,.im (.int 29)]=.ret (.im (.int f)) [.ls true d1,.im (.int 29)]:=e1
 have h1:Ay (.list (Ae4 hs)) (.int f)=some (.im od):=by
  show (atI (Ae4 hs) f).map O.im=_
  rw[h1];rfl
 refine⟨od,d1,h2,b1,?_⟩
 have l1:Jf (hL hs)=some (.ls false (hs.map tD)):=rfl
 have l2:Vy (hL hs)=some (.ls false (hs.reverse.map tD)):=by show some (O.ls false (hs.map tD).reverse)=_;rw[List.map_reverse]
 have l3:Br (hL hs)=some (.im (hT hs)):=rfl;have l4:Kf [.list (Ae4 hs)]=some (.im (.int 29)):=rfl;unfold Ae4 at h1 l4
 wp_walk using Ie,Ai3,l1,l2,l3,Ck,h1,l4,e1
theorem Ai5 {hs:List (List Vl)}(H:HK hs):∀od∈Ae4 hs,(∃p,InO hs od p)\/NoO hs od:=by
 have g:=Bf6 H
 have gS:Good tS 2 480000:=(Gz "told" (by decide +kernel)).mono (by decide) (by decide)
 have two:∀{a b:PyData},Good a 2 480000->Good b 2 480000->Good (.tuple [a,b]) 3 970000:=fun ha hb=>(Good.tup (k:=2) (fun d hd=>by
  simp only[List.mem_cons,List.not_mem_nil,or_false]at hd
  rcases hd with rfl | rfl
  ·exact ha
  ·exact hb) (Nat.le_refl _)).mono (by decide) (by decide)
 have tl:∀(b:Bool) (ts:List (List Vl)),TO' ts->(∃p,InO hs (Fb b ts) p):=fun b ts h=>Qh (od:=.told b ts) H h
 have nil:TO' []:=⟨(fun t h=>(nomatch h)),Nat.zero_le _⟩
 intro od hd;unfold Ae4 at hd;simp only[List.mem_cons,List.not_mem_nil,or_false]at hd
 rcases hd with rfl | rfl | rfl | rfl | rfl | rfl | rfl | rfl | rfl | rfl | rfl | rfl | rfl | rfl | rfl | rfl | rfl | rfl | rfl | rfl | rfl | rfl | rfl | rfl | rfl | rfl | rfl | rfl | rfl
 ·exact .inl (Qh (od:=.seen) H trivial)
 ·exact .inl (Qh (od:=.rising) H trivial)
 ·exact .inl (Qh (od:=.falling) H trivial)
 ·exact .inr (Gs ⟨An (by decide +kernel),An (by decide +kernel),An (by decide +kernel),An (by decide +kernel)⟩ rfl)
 ·exact .inr (Gs ⟨An (by decide +kernel),An (by decide +kernel),An (by decide +kernel),An (by decide +kernel)⟩ rfl)
 ·exact .inr (Gs ⟨An (by decide +kernel),An (by decide +kernel),An (by decide +kernel),An (by decide +kernel)⟩ rfl)
 ·exact .inr (Gs ⟨An (by decide +kernel),An (by decide +kernel),An (by decide +kernel),An (by decide +kernel)⟩ rfl)
 ·exact .inr (Gs ⟨An (by decide +kernel),An (by decide +kernel),An (by decide +kernel),An (by decide +kernel)⟩ rfl)
 ·exact .inr (Gs ⟨An (by decide +kernel),An (by decide +kernel),An (by decide +kernel),An (by decide +kernel)⟩ rfl)
 ·exact .inr (Gs ⟨An (by decide +kernel),An (by decide +kernel),An (by decide +kernel),An (by decide +kernel)⟩ rfl)
 ·exact .inr (Gs ⟨An (by decide +kernel),An (by decide +kernel),An (by decide +kernel),An (by decide +kernel)⟩ rfl)
 ·exact .inr (Gs ⟨An (by decide +kernel),An (by decide +kernel),An (by decide +kernel),An (by decide +kernel)⟩ rfl)
 ·exact .inr (Y9 ⟨An (by decide +kernel),An (by decide +kernel),An (by decide +kernel),An (by decide +kernel)⟩ (k:=0) rfl (by decide))
 ·exact .inr (Gs ⟨An (by decide +kernel),An (by decide +kernel),An (by decide +kernel),An (by decide +kernel)⟩ rfl)
 ·exact .inr (Y9 ⟨An (by decide +kernel),An (by decide +kernel),An (by decide +kernel),An (by decide +kernel)⟩ (k:=1) rfl (by decide))
 ·exact .inr (Y9 (A8q (n:=3) (w:=1500000) ((Good.tup (k:=3) (fun d hd=>by
   simp only[List.mem_cons,List.not_mem_nil,or_false]at hd
   rcases hd with rfl | rfl | rfl
   ·exact gS
   ·exact g
   ·exact g) (Nat.le_refl _)).mono (by decide) (by decide)) (by decide) (fun _=>rfl) fun _=>rfl) (k:=3) rfl (by decide))
 ·exact .inr (A2t ⟨An (by decide +kernel),An (by decide +kernel),An (by decide +kernel),An (by decide +kernel)⟩ (An (by decide +kernel)))
 ·exact .inr (Y9 ⟨An (by decide +kernel),An (by decide +kernel),An (by decide +kernel),An (by decide +kernel)⟩ (k:=1) rfl (by decide))
 ·exact .inr (Gs (A8q (n:=3) (w:=970000) ((Good.lst (k:=2) (fun d hd=>by
   simp only[List.mem_cons,List.not_mem_nil,or_false]at hd
   rcases hd with rfl | rfl
   ·exact gS
   ·exact g) (Nat.le_refl _)).mono (by decide) (by decide)) (by decide) (fun _=>rfl) fun _=>rfl) rfl)
 ·exact .inr (Aq0 ⟨An (by decide +kernel),An (by decide +kernel),An (by decide +kernel),An (by decide +kernel)⟩ rfl)
 ·exact .inr (Aq0 ⟨An (by decide +kernel),An (by decide +kernel),An (by decide +kernel),An (by decide +kernel)⟩ rfl)
 ·exact .inr (Aq0 ⟨An (by decide +kernel),An (by decide +kernel),An (by decide +kernel),An (by decide +kernel)⟩ rfl)
 ·exact .inr (A2t (A8q (two ((Gz "Told" (by decide +kernel)).mono (by decide) (by decide)) g) (by decide) (fun _=>rfl) fun _=>rfl) (An (by decide +kernel)))
 ·exact .inr (Gs ⟨An (by decide +kernel),An (by decide +kernel),An (by decide +kernel),An (by decide +kernel)⟩ rfl)
 ·exact .inr (Gs ⟨An (by decide +kernel),An (by decide +kernel),An (by decide +kernel),An (by decide +kernel)⟩ rfl)
 ·exact .inl (tl false [] nil)
 ·exact .inl (tl true [] nil)
 ·exact .inl (tl false hs.reverse ⟨fun t h=>H.vb t (List.mem_reverse.mp h),by rw[List.length_reverse];exact Nat.le_trans H.len (by decide)⟩)
 ·exact .inl (tl true hs ⟨H.vb,Nat.le_trans H.len (by decide)⟩)
abbrev bO:PyData:=.str "BadOrder"
theorem Ai1:Js [.ty (.xc "BadOrder")]=.ret (.im bO) [.ty (.xc "BadOrder")]:=rfl
theorem A5i {w:Wd}{od:PyData}(N:NoO w.heads od):Dk [w.d,od]=.ex "BadOrder" := by
 wp_walk using Dk,Ni,ix3 w,N.ord
theorem A8o {w:Wd}{od:PyData}(h:w.Ok)(N:NoO (ptD w) od):Dj [w.d,od]=.ex "BadOrder" := by
 have l60:w.rows.length<=60:=Nat.le_trans h.rlen (by decide)
 have eP:=Rg fun r hr=>(h.rows r hr).part
 have eD:=V5 h.rnd
 have eL:(w.rows.map fun r=>tD r.1).length<=16000000:=by rw[List.length_map];omega
 have e1:cDP (cOp Ay (Ad 0) (cC (.int 4))) [some (.im w.d),some (.im od),none,none]=.ok (.o (.ty (.dt (w.rows.map fun r=>tD r.1) (w.rows.map Gx)))) [some (.im w.d),some (.im od),none,none]:=by
  wp_walk using cDP,ixW w,eP,eD,eL
 have e2:=Tw l60
 wp_walk using Dj,M9,e1,e2,N.ord
theorem Bj7:((Str.ofString "BadOrder")==(Str.ofString "BadOrder"))=true:=by decide +kernel
theorem Bu6 {a b c:PyData}(e:Dk [a,b]=.ret (.im c)):Ea [.im a,.im b,.im (.bool true)]=.ret (.im c) [.im a,.im b,.im (.bool true)]:=by
 wp_walk using Ea,K1,e
theorem Bx2 {a b c:PyData}(e:Dj [a,b]=.ret (.im c)):Ea [.im a,.im b,.im (.bool false)]=.ret (.im c) [.im a,.im b,.im (.bool false)]:=by
 wp_walk using Ea,K1,e
theorem Bs8 {a b:PyData}(e:Dk [a,b]=.ex "BadOrder"):Ea [.im a,.im b,.im (.bool true)]=.ret (.im bO) [.im a,.im b,.im (.bool true)]:=by
 have c:=Bj7
 wp_walk using Ea,K1,e,c,Ai1
theorem Br4 {a b:PyData}(e:Dj [a,b]=.ex "BadOrder"):Ea [.im a,.im b,.im (.bool false)]=.ret (.im bO) [.im a,.im b,.im (.bool false)]:=by
 have c:=Bj7
 wp_walk using Ea,K1,e,c,Ai1
theorem A5u:Bt 8 [.im bO,.im bO]=.ret (.im (.bool true)) [.im bO,.im bO]:=X6 (n:=8) (Gz "BadOrder" (by decide +kernel)) (by decide) (by decide) (by decide) rfl
theorem Ao9 {w:Wd}(h:w.Ok):Bt 8 [.im w.d,.im w.d]=.ret (.im (.bool true)) [.im w.d,.im w.d]:=X6  (Wd.good h) (by decide) (by decide) (by decide) (B1v _)
theorem B1d {w:Wd}{p:List Nat}(h:w.Ok)(pm:p.Perm (List.range w.heads.length)):(w.at p).Ok:=by
 have lp:p.length=w.heads.length:=by rw[pm.length_eq,List.length_range]
 refine⟨h.nms,h.klen,h.nlen,h.vlen,h.vpos,fun x hx=>h.heads x (Ub (El pm) hx),A6d h.hnd pm,by show (atP _ w.heads p).length<=12;rw[Og,lp];exact h.hlen,fun r hr=>?_,?_,by show (w.rows.map _).length<=12;rw[List.length_map];exact h.rlen⟩
 ·obtain⟨q,hq,rfl⟩:=List.mem_map.mp (show r∈w.rows.map fun r=>(r.1,atP none r.2 p) from hr)
  have o:=h.rows q hq
  exact⟨o.plen,o.part,by show (atP none q.2 p).length=(atP [] w.heads p).length;rw[Og,Og],fun c hc=>o.cells c (Ub (fun i hi=>by rw[o.clen];exact El pm i hi) hc)⟩
 ·show ((w.rows.map fun r=>(r.1,atP none r.2 p)).map fun r:Rw=>r.1).Nodup
  rw[List.map_map];exact h.rnd
theorem Bl6 {w:Wd}{p:List Nat}(h:w.Ok)(pm:p.Perm (List.range w.heads.length)):Fj [.im w.d,.im (.list (pI p))]=.ret (.im (w.at p).d) [.im w.d,.im (.list (pI p))]:=by
 have lp:p.length=w.heads.length:=by rw[pm.length_eq,List.length_range]
 have l12:=h.hlen;have r12:=h.rlen
 have at_loop:∀{xs:List (Option (List Vl))},(∀i∈p,i<xs.length)->∃u,Eh (cgN 0) Be (cOp Ay (Ad 1) (Ad 0)) (pI p) [] [none,some (.im (.tuple (xs.map Eo)))]=.ok ((atP none xs p).map Eo) [u,some (.im (.tuple (xs.map Eo)))]:=fun {xs} hp=>by
  obtain⟨cI,e,u,rfl⟩:=Do (g:=cgN 0) (ft:=Be) (fe:=cOp Ay (Ad 1) (Ad 0)) (I:=fun c=>∃u,c=[u,some (.im (.tuple (xs.map Eo)))]) (f:=fun k:Nat=>PyData.int (k:Nat)) (G:=fun k=>Eo (xs.getD k none)) (xs:=p) (acc:=[]) (c:=[none,some (.im (.tuple (xs.map Eo)))]) ⟨none,rfl⟩
   (fun x c hx hI=>by
    obtain⟨u,rfl⟩:=hI
    refine⟨[some (.im (.int (x:Nat))),some (.im (.tuple (xs.map Eo)))],?_,_,rfl⟩
    wp_walk using Au7 (f:=Eo) (d:=none) (hp x hx))
  refine⟨u,?_⟩
  rw[List.nil_append]at e;unfold atP;rw[List.map_map];exact e
 obtain⟨cI,e,u,v,rfl⟩:=Do (g:=cgT 2 (Ba (cgN 0) (Ba (cgN 1) Ek))) (ft:=Be) (fe:=Ei (Ac (Ad 0) (Ac (cUn Br (cLC [none,some 1] (Bm (Ad 2)) (cgN 0) Be (cOp Ay (Ad 1) (Ad 0)))) Al))) (I:=fun c=>∃u v,c=[u,v,some (.im (.list (pI p)))]) (f:=Es) (G:=fun r=>Es (r.1,atP none r.2 p)) (xs:=w.rows) (acc:=[]) (c:=[none,none,some (.im (.list (pI p)))]) ⟨none,none,rfl⟩
  (fun r c hx hI=>by
   obtain⟨u,v,rfl⟩:=hI
   obtain⟨z,e1⟩:=at_loop (xs:=r.2) (by rw[(h.rows r hx).clen];exact El pm)
   have e2:cLC [none,some 1] (Bm (Ad 2)) (cgN 0) Be (cOp Ay (Ad 1) (Ad 0)) [some (.im (tD r.1)),some (.im (.tuple (r.2.map Eo))),some (.im (.list (pI p)))]=.ok (.o (.ls false ((atP none r.2 p).map Eo))) [some (.im (tD r.1)),some (.im (.tuple (r.2.map Eo))),some (.im (.list (pI p)))] :=
    Et (ds:=pI p) (c1:=[some (.im (tD r.1)),some (.im (.tuple (r.2.map Eo))),some (.im (.list (pI p)))]) (by wp_walk using Bm) (by unfold pI;rw[List.length_map];omega) e1 rfl
   refine⟨[some (.im (tD r.1)),some (.im (.tuple (r.2.map Eo))),some (.im (.list (pI p)))],?_,_,_,rfl⟩
   wp_walk using Es,e2,Br)
 rw[List.nil_append]at e
 have e2:cLC [none,none,some 1] (Bm (cOp Ay (Ad 0) (cC (.int 4)))) (cgT 2 (Ba (cgN 0) (Ba (cgN 1) Ek))) Be (Ei (Ac (Ad 0) (Ac (cUn Br (cLC [none,some 1] (Bm (Ad 2)) (cgN 0) Be (cOp Ay (Ad 1) (Ad 0)))) Al))) [some (.im w.d),some (.im (.list (pI p))),none]=.ok (.o (.ls false ((w.at p).rows.map Es))) [some (.im w.d),some (.im (.list (pI p))),none]:=by
  refine Et (ds:=w.rows.map Es) (c1:=[some (.im w.d),some (.im (.list (pI p))),none]) (cI:=[u,v,some (.im (.list (pI p)))]) (by wp_walk using Bm,ixW w) (by rw[List.length_map];omega) (e.trans ?_) rfl
  show R.ok (w.rows.map fun r=>Es (r.1,atP none r.2 p)) _=R.ok ((w.rows.map fun r=>(r.1,atP none r.2 p)).map Es) _
  rw[List.map_map];rfl
 obtain⟨cI,e3,z,rfl⟩:=Do (g:=cgN 0) (ft:=Be) (fe:=cOp Ay (cOp Ay (Ad 1) (cC (.int 3))) (Ad 0)) (I:=fun c=>∃u,c=[u,some (.im w.d)]) (f:=fun k:Nat=>PyData.int (k:Nat)) (G:=fun k=>tD (w.heads.getD k [])) (xs:=p) (acc:=[]) (c:=[none,some (.im w.d)]) ⟨none,rfl⟩
  (fun x c hx hI=>by
   obtain⟨u,rfl⟩:=hI
   refine⟨[some (.im (.int (x:Nat))),some (.im w.d)],?_,_,rfl⟩
   have e1:Ay (hT w.heads) (.int (x:Nat))=some (.im (tD (w.heads.getD x []))):=Au7 (f:=tD) (d:=[]) (El pm x hx)
   wp_walk using ix3 w,e1)
 rw[List.nil_append]at e3
 have e4:cLC [none,some 0] (Bm (Ad 1)) (cgN 0) Be (cOp Ay (cOp Ay (Ad 1) (cC (.int 3))) (Ad 0)) [some (.im w.d),some (.im (.list (pI p))),some (.im (.tuple ((w.at p).rows.map Es)))]=.ok (.o (.ls false ((atP [] w.heads p).map tD))) [some (.im w.d),some (.im (.list (pI p))),some (.im (.tuple ((w.at p).rows.map Es)))]:=by
  refine Et (ds:=pI p) (c1:=[some (.im w.d),some (.im (.list (pI p))),some (.im (.tuple ((w.at p).rows.map Es)))]) (cI:=[z,some (.im w.d)]) (by wp_walk using Bm) (by unfold pI;rw[List.length_map];omega) ?_ rfl
  unfold atP;rw[List.map_map];exact e3
 have e5:Ck (.tuple [nD w.key,nD w.names,nD w.vals]) (.tuple [hT (atP [] w.heads p),.tuple ((w.at p).rows.map Es)])=some (.im (w.at p).d):=rfl
 wp_walk using Fj,Nb,e2,Br,Bz9 w,e4,e5
theorem A5m {w:Wd}{p:List Nat}(hp:∀i∈p,i<w.rows.length) :
 ∃u,Eh (cgN 0) Be (cOp Ay (cOp Ay (Ad 1) (cC (.int 4))) (Ad 0)) (pI p) [] [none,some (.im w.d)]=.ok ((w.ar p).rows.map Es) [u,some (.im w.d)]:=by
 obtain⟨cI,e,u,rfl⟩:=Do (g:=cgN 0) (ft:=Be) (fe:=cOp Ay (cOp Ay (Ad 1) (cC (.int 4))) (Ad 0)) (I:=fun c=>∃u,c=[u,some (.im w.d)]) (f:=fun k:Nat=>PyData.int (k:Nat)) (G:=fun k=>Es (w.rows.getD k ([],[]))) (xs:=p) (acc:=[]) (c:=[none,some (.im w.d)]) ⟨none,rfl⟩
  (fun x c hx hI=>by
   obtain⟨u,rfl⟩:=hI
   refine⟨[some (.im (.int (x:Nat))),some (.im w.d)],?_,_,rfl⟩
   have e1:Ay (.tuple (w.rows.map Es)) (.int (x:Nat))=some (.im (Es (w.rows.getD x ([],[])))):=Au7 (f:=Es) (d:=([],[])) (hp x hx)
   wp_walk using ixW w,e1)
 refine⟨u,?_⟩
 rw[List.nil_append]at e
 show _=R.ok ((atP (([],[]):Rw) w.rows p).map Es) _
 unfold atP;rw[List.map_map];exact e
abbrev stA:Ev->SR:=Dg (cF Ie (Ac (Ad 0) (Ac (cFz (Ad 3)) Al))) (cgN 5)
abbrev stB:Ev->SR:=Dg (cF Cd (Ac (cFz (Ad 3)) (Ac (Ad 5) Al))) (cgN 6)
abbrev stC:Ev->SR:=Dg (Ml (Bd (cOp (Hi false) (cFz (Ad 6)) (cC (.none)))) (cC (.str "BadOrder")) (cF Fj (Ac (Ad 1) (Ac (cFz (Ad 6)) Al)))) (cgN 7)
abbrev stD:Ev->SR:=cIf (Ap1 (Bd (cF (Bt 8) (Ac (cF Ea (Ac (Ad 1) (Ac (Ad 5) (Ac (cC (.bool true)) Al)))) (Ac (Ad 7) Al))))) (Dc (cC (.bool false))) Du
abbrev stE:Ev->SR:=Dg (cF Ie (Ac (Ad 0) (Ac (cFz (Ad 2)) Al))) (cgN 5)
abbrev stF:Ev->SR:=Dg (cF Cd (Ac (cFz (Ad 2)) (Ac (Ad 5) Al))) (cgN 6)
abbrev stG:Ev->SR:=Dg (Ml (Bd (cOp (Hi false) (cFz (Ad 6)) (cC (.none)))) (cC (.str "BadOrder")) (cOp Ck (cSl J3 (Ad 1) cON (cOS (cC (.int 4)))) (Ei (Ac (cUn Br (cLC [none,some 1] (Bm (cFz (Ad 6))) (cgN 0) Be (cOp Ay (cOp Ay (Ad 1) (cC (.int 4))) (Ad 0)))) Al)))) (cgN 7)
abbrev stH:Ev->SR:=cIf (Ap1 (Bd (cF (Bt 8) (Ac (cF Ea (Ac (Ad 1) (Ac (Ad 5) (Ac (cC (.bool false)) Al)))) (Ac (Ad 7) Al))))) (Dc (cC (.bool false))) Du
abbrev B1l:Ev->SR:=Bf stA (Bf stB (Bf stC (Bf stD (Bf stE (Bf stF (Bf stG stH))))))
theorem Bx3 {w:Wd}(h:w.Ok){n:Nat}{ds:List PyData}(hb:Bx n ds)(hn:n<2 ^ 38){x3:O}(hx:x3=.ls false (w.heads.map tD)\/x3=.im (hL w.heads)){s2 s4 s5 s6 s7 s8:Option O}(rest:Ev->SR):∃(ds':List PyData) (t5 t6 t7:Option O),Bx (n+1) ds' /\
 Bf stA (Bf stB (Bf stC (Bf stD rest))) [some (.ls true ds),some (.im w.d),s2,some x3,s4,s5,s6,s7,s8]=rest [some (.ls true ds'),some (.im w.d),s2,some (.im (hL w.heads)),s4,t5,t6,t7,s8]:=by
 obtain⟨od,d1,m1,b1,e1⟩:=A4c (Mm h) hb hn
 have a1:stA [some (.ls true ds),some (.im w.d),s2,some x3,s4,s5,s6,s7,s8]=.nx [some (.ls true d1),some (.im w.d),s2,some (.im (hL w.heads)),s4,some (.im od),s6,s7,s8]:=by
  rcases hx with rfl | rfl <;> wp_walk using stA,e1
 rcases Ai5 (Mm h) od m1 with ⟨p,I⟩ | N
 ·have e2:=I.plc
  have e3:=Bl6 h I.pm;have e4:=Bu6 (Mw h I);have e5:=Ao9 (B1d h I.pm);have e6:Hi false (.list (pI p)) .none=some (.im (.bool false)):=rfl
  refine⟨d1,some (.im od),some (.im (.list (pI p))),some (.im (w.at p).d),b1,?_⟩
  refine (Cp a1).trans ?_
  refine (Cp (c':=[some (.ls true d1),some (.im w.d),s2,some (.im (hL w.heads)),s4,some (.im od),some (.ls false (pI p)),s7,s8]) (by wp_walk using stB,e2)).trans ?_
  refine (Cp (c':=[some (.ls true d1),some (.im w.d),s2,some (.im (hL w.heads)),s4,some (.im od),some (.im (.list (pI p))),some (.im (w.at p).d),s8]) (by wp_walk using stC,e6,e3)).trans ?_
  exact Cp (by wp_walk using stD,e4,e5)
 ·have e2:=N.plc
  have e4:=Bs8 (A5i N);have e6:Hi false .none .none=some (.im (.bool true)):=rfl
  refine⟨d1,some (.im od),some (.im .none),some (.im bO),b1,?_⟩
  refine (Cp a1).trans ?_
  refine (Cp (c':=[some (.ls true d1),some (.im w.d),s2,some (.im (hL w.heads)),s4,some (.im od),some (.im .none),s7,s8]) (by wp_walk using stB,e2)).trans ?_
  refine (Cp (c':=[some (.ls true d1),some (.im w.d),s2,some (.im (hL w.heads)),s4,some (.im od),some (.im .none),some (.im bO),s8]) (by wp_walk using stC,e6)).trans ?_
  exact Cp (by wp_walk using stD,e4,A5u)
theorem Bx8 {w:Wd}(h:w.Ok){n:Nat}{ds:List PyData}(hb:Bx n ds)(hn:n<2 ^ 38){x2:O}(hx:x2=.ls false ((ptD w).map tD)\/x2=.im (hL (ptD w))){s3 s4 s5 s6 s7 s8:Option O}:∃(ds':List PyData) (t5 t6 t7:Option O),Bx (n+1) ds' /\
 Bf stE (Bf stF (Bf stG stH)) [some (.ls true ds),some (.im w.d),some x2,s3,s4,s5,s6,s7,s8]=.nx [some (.ls true ds'),some (.im w.d),some (.im (hL (ptD w))),s3,s4,t5,t6,t7,s8]:=by
 obtain⟨od,d1,m1,b1,e1⟩:=A4c (Qa h) hb hn
 have a1:stE [some (.ls true ds),some (.im w.d),some x2,s3,s4,s5,s6,s7,s8]=.nx [some (.ls true d1),some (.im w.d),some (.im (hL (ptD w))),s3,s4,some (.im od),s6,s7,s8]:=by
  rcases hx with rfl | rfl <;> wp_walk using stE,e1
 rcases Ai5 (Qa h) od m1 with ⟨p,I⟩ | N
 ·have pm:p.Perm (List.range w.rows.length):=by have:=I.pm;rw[List.length_map]at this;exact this
  have e2:=I.plc;have r12:=h.rlen
  have lp:p.length<=12:=by rw[pm.length_eq,List.length_range];exact r12
  obtain⟨u,e3⟩:=A5m (w:=w) (El pm);have e4:=Bx2 (Ng h I);have e5:=Ao9 (Bz4 h pm);have e6:Hi false (.list (pI p)) .none=some (.im (.bool false)):=rfl
  have e7:cLC [none,some 1] (Bm (cFz (Ad 6))) (cgN 0) Be (cOp Ay (cOp Ay (Ad 1) (cC (.int 4))) (Ad 0)) [some (.ls true d1),some (.im w.d),some (.im (hL (ptD w))),s3,s4,some (.im od),some (.im (.list (pI p))),s7,s8]=.ok (.o (.ls false ((w.ar p).rows.map Es))) [some (.ls true d1),some (.im w.d),some (.im (hL (ptD w))),s3,s4,some (.im od),some (.im (.list (pI p))),s7,s8] :=
   Et (ds:=pI p) (c1:=[some (.ls true d1),some (.im w.d),some (.im (hL (ptD w))),s3,s4,some (.im od),some (.im (.list (pI p))),s7,s8]) (by wp_walk using Bm) (by unfold pI;rw[List.length_map];omega) e3 rfl
  have e8:Ck (.tuple [nD w.key,nD w.names,nD w.vals,hT w.heads]) (.tuple [.tuple ((w.ar p).rows.map Es)])=some (.im (w.ar p).d):=rfl
  refine⟨d1,some (.im od),some (.im (.list (pI p))),some (.im (w.ar p).d),b1,?_⟩
  refine (Cp a1).trans ?_
  refine (Cp (c':=[some (.ls true d1),some (.im w.d),some (.im (hL (ptD w))),s3,s4,some (.im od),some (.ls false (pI p)),s7,s8]) (by wp_walk using stF,e2)).trans ?_
  refine (Cp (c':=[some (.ls true d1),some (.im w.d),some (.im (hL (ptD w))),s3,s4,some (.im od),some (.im (.list (pI p))),some (.im (w.ar p).d),s8]) (by wp_walk using stG,e6,slW w,e7,Br,e8)).trans ?_
  wp_walk using stH,e4,e5
 ·have e2:=N.plc
  have e4:=Br4 (A8o h N);have e6:Hi false .none .none=some (.im (.bool true)):=rfl
  refine⟨d1,some (.im od),some (.im .none),some (.im bO),b1,?_⟩
  refine (Cp a1).trans ?_
  refine (Cp (c':=[some (.ls true d1),some (.im w.d),some (.im (hL (ptD w))),s3,s4,some (.im od),some (.im .none),s7,s8]) (by wp_walk using stF,e2)).trans ?_
  refine (Cp (c':=[some (.ls true d1),some (.im w.d),some (.im (hL (ptD w))),s3,s4,some (.im od),some (.im .none),some (.im bO),s8]) (by wp_walk using stG,e6)).trans ?_
  wp_walk using stH,e4,A5u
theorem Bp5 {w:Wd}(h:w.Ok):w.at (List.range w.heads.length)=w:=by
 unfold Wd.at;rw[Ku]
 have:(w.rows.map fun r=>(r.1,atP none r.2 (List.range w.heads.length)))=w.rows:=by
  conv=>rhs;rw[<- List.map_id w.rows]
  refine List.map_congr_left fun r hr=>?_
  rw[<- (h.rows r hr).clen,Ku];rfl
 rw[this]
theorem Bo1 (w:Wd):w.ar (List.range w.rows.length)=w:=by
 unfold Wd.ar;rw[Ku]
theorem A3v {hs:List (List Vl)}:Im hs [] []=List.range hs.length:=by
 unfold Im
 simp[firsts]
theorem A7z {hs:List (List Vl)}(H:HK hs)(b:Bool):InO hs (Fb b []) (List.range hs.length):=by
 have nil:TO' []:=⟨(fun t h=>(nomatch h)),Nat.zero_le _⟩
 have e:=A3v (hs:=hs);have a:=Ak1 (b:=b) H nil;have c:=Ad0 (b:=b) H nil;rw[e]at a c;exact⟨.refl _,a,c⟩
theorem A5h {n:Nat}{ds:List PyData}(hb:Bx n ds)(hn:n<2 ^ 34):∃ds',Ly [.ls true ds]=.ret (.im (.bool true)) [.ls true ds']:=by
 obtain⟨w,d1,h,_,b1,e1⟩:=Bb4 (num:=false) hb (by omega)
 have l60:w.rows.length<=60:=Nat.le_trans h.rlen (by decide)
 have e2:=Zn l60;have e3:Jf (hT w.heads)=some (.ls false (w.heads.map tD)):=rfl
 obtain⟨c',e,d3,x2,x3,t4,t5,t6,t7,rfl,_,_,_⟩:=Ji (g:=cgN 4) (body:=B1l) (items:=Ko 0 4) (n:=0) (c:=[some (.ls true d1),some (.im w.d),some (.im (hL (ptD w))),some (.im (hL w.heads)),none,none,none,none,none])
  (P:=fun k c=>∃d3 x2 x3 t4 t5 t6 t7,c=[some (.ls true d3),some (.im w.d),some x2,some x3,t4,t5,t6,t7,none]/\Bx (n+3000+2*k) d3/\(x2=.ls false ((ptD w).map tD)\/x2=.im (hL (ptD w)))/\(x3=.ls false (w.heads.map tD)\/x3=.im (hL w.heads)))
  ⟨d1,_,_,none,none,none,none,rfl,b1.mono (by omega),.inr rfl,.inr rfl⟩ (fun k d c hd hP=>by
   rw[Nat.zero_add]at hP ⊢;obtain⟨d3,x2,x3,t4,t5,t6,t7,rfl,b3,h2,h3⟩:=hP;obtain⟨rfl,hk⟩:=Ny hd
   obtain⟨d4,u5,u6,u7,b4,e4⟩:=Bx3 h b3 (by omega) h3 (s2:=some x2) (s4:=some (.im (.int (0+(k:Int))))) (s5:=t5) (s6:=t6) (s7:=t7) (s8:=none) (Bf stE (Bf stF (Bf stG stH)))
   obtain⟨d5,v5,v6,v7,b5,e5⟩:=Bx8 h b4 (by omega) h2 (s3:=some (.im (hL w.heads))) (s4:=some (.im (.int (0+(k:Int))))) (s5:=u5) (s6:=u6) (s7:=u7) (s8:=none)
   refine⟨_,.inl ?_,d5,_,_,some (.im (.int (0+(k:Int)))),v5,v6,v7,rfl,b5.mono (by omega),.inr rfl,.inr rfl⟩
   unfold Vp
   rw[show cgN 4 (.o (.im (.int (0+(k:Int))))) [some (.ls true d3),some (.im w.d),some x2,some x3,t4,t5,t6,t7,none]=.ok () [some (.ls true d3),some (.im w.d),some x2,some x3,some (.im (.int (0+(k:Int)))),t5,t6,t7,none] from by wp_walk using true_and]
   exact e4.trans e5)
 have f1:=Mw h (Aa6 (Mm h));have f2:=Mw h (A7z (Mm h) false);have f3:=Ng h (Aa6 (Qa h));have f4:=Ng h (A7z (Qa h) true);rw[Bp5 h]at f1 f2;rw[List.length_map,Bo1]at f3 f4;have f2:Dk [w.d,.tuple [.str "told",.list []]]=.ret (.im w.d):=f2;have f4:Dj [w.d,.tuple [.str "told",.tuple []]]=.ret (.im w.d):=f4;have sW:=Ao9 h
 have ft:∀u:Option O,Oo (cgN 0) Be (cF (Bt 8) (Ac (Ad 0) (Ac (Ad 1) Al))) w.d [u,some (.im w.d)]=.ok (some (.bool true)) [some (.im w.d),some (.im w.d)]:=fun u=>by wp_walk using sW
 have eL:Eh (cgN 0) Be (cF (Bt 8) (Ac (Ad 0) (Ac (Ad 1) Al))) [w.d,w.d,w.d,w.d] [] [none,some (.im w.d)]=.ok [.bool true,.bool true,.bool true,.bool true] [some (.im w.d),some (.im w.d)]:=by
  rw[G5,ft,R.bind_ok,G5,ft,R.bind_ok,G5,ft,R.bind_ok,G5,ft,R.bind_ok];rfl
 have ea:Ah8 (.list [.bool true,.bool true,.bool true,.bool true])=some (.im (.bool true)):=rfl
 refine⟨d3,Y8 (p:=.o (.im (.bool true))) (c:=[some (.ls true d3),some (.im w.d),some x2,some x3,t4,t5,t6,t7,some (.im (.list [w.d,w.d,w.d,w.d]))]) ?_ rfl (by wp_walk using true_and)⟩
 have e9:cLC [none,some 1] (Bm (Ad 8)) (cgN 0) Be (cF (Bt 8) (Ac (Ad 0) (Ac (Ad 1) Al))) [some (.ls true d3),some (.im w.d),some x2,some x3,t4,t5,t6,t7,some (.ls false [w.d,w.d,w.d,w.d])]=.ok (.o (.ls false [.bool true,.bool true,.bool true,.bool true])) [some (.ls true d3),some (.im w.d),some x2,some x3,t4,t5,t6,t7,some (.im (.list [w.d,w.d,w.d,w.d]))] :=
  Et (ds:=[w.d,w.d,w.d,w.d]) (c1:=[some (.ls true d3),some (.im w.d),some x2,some x3,t4,t5,t6,t7,some (.im (.list [w.d,w.d,w.d,w.d]))]) (by wp_walk using Bm) (show (4:Nat)<=16000000 by decide) eL rfl
 show O3 [some (.ls true ds),none,none,none,none,none,none,none,none]=_
 unfold O3
 refine (Cp (c':=[some (.ls true d1),some (.im w.d),none,none,none,none,none,none,none]) (by wp_walk using e1)).trans ?_
 refine (Cp (c':=[some (.ls true d1),some (.im w.d),some (.im (hL (ptD w))),some (.im (hL w.heads)),none,none,none,none,none]) (by wp_walk using e2,ix3 w,e3)).trans ?_
 refine (Cp ((Y7 (ds:=Ko 0 4) (c1:=[some (.ls true d1),some (.im w.d),some (.im (hL (ptD w))),some (.im (hL w.heads)),none,none,none,none,none]) (by wp_walk using true_and)).trans e)).trans ?_
 refine (Cp (c':=[some (.ls true d3),some (.im w.d),some x2,some x3,t4,t5,t6,t7,some (.ls false [w.d,w.d,w.d,w.d])]) (by wp_walk using f1,f2,f3,f4)).trans ?_
 wp_walk using e9,ea
theorem A7t:∀ns:List Int,ns.length<=63->Ap5 [.sc ns]=.ret (.im (.bool true)) [.sc ns]:=by
 intro ns hns
 have hm:∃m:Nat,m<=12/\Mh (cOp Z2 (cC (.int 3)) (cOp Zw (K7 (Ad 0)) (cC (.int 12)))) [some (.sc ns),none]=.ok (Ko 0 m) [some (.sc ns),none]:=by
  obtain⟨a,ha⟩:∃a:Int,a=(if (12:Int)<(ns.length:Int) then 12 else (ns.length:Int)):=⟨_,rfl⟩
  have a12:a<=12:=by rw[ha];split <;> omega
  obtain⟨b,hb⟩:∃b:Int,b=(if a>(3:Int) then a else 3):=⟨_,rfl⟩
  have b12:3<=b/\b<=12:=by rw[hb];split <;> omega
  obtain⟨m,hm⟩:=Int.eq_ofNat_of_zero_le (show 0<=b by omega)
  refine⟨m,by omega,?_⟩
  rw[hm]at hb
  wp_walk using Zw,ha.symm,Z2,hb.symm,show (m:Int)<=16000000/\-16000000<=(m:Int) by omega,Int.toNat_natCast
 obtain⟨m,m12,em⟩:=hm
 have loop:=Ji (g:=cgN 1) (body:=Vq) (items:=Ko 0 m) (n:=0) (c:=[some (.sc ns),none])
  (P:=fun _ c=>∃a,c=[some (.sc ns),a]) ⟨_,rfl⟩ (fun k d c hd hP=>by
   obtain⟨a,rfl⟩:=hP;obtain⟨rfl,hk⟩:=Ny hd
   obtain⟨db,bb,e1⟩:=Bw9 (ns:=ns) (k:=k) (by omega)
   obtain⟨d2,e2⟩:=A5h bb (by decide)
   refine⟨[some (.sc ns),some (.im (.int (0+(k:Int))))],.inl ?_,_,rfl⟩
   wp_walk using Vq,show (0:Int)+(k:Int)=(k:Int) by omega,e1,e2)
 obtain⟨c',e,a,rfl⟩:=loop
 refine Y8 (p:=.o (.im (.bool true))) (c:=[some (.sc ns),a]) ?_ rfl (by wp_walk using true_and)
 show An6 [some (.sc ns),none]=_
 unfold An6
 refine (Cp ((Y7 em).trans e)).trans ?_
 wp_walk using true_and
def top (i:Nat):Stmt:=PySem.Challenge.pw_pivotfold_k33_what_is_no_order.main.body.getD i (.Pass ⟨0,0,0,0⟩)
abbrev Zo:Stmt:=top 13
theorem Bc5:Bk ["value"] ["value"] (Aq Zo):=⟨rfl,rfl,rfl,by grind,rfl,by decide +kernel,by decide +kernel⟩
abbrev Za:Stmt:=top 14
theorem A8i:Bk ["values"] ["values"] (Aq Za):=⟨rfl,rfl,rfl,by grind,rfl,by decide +kernel,by decide +kernel⟩
abbrev Nf:Stmt:=top 16
theorem Y4:Bk ["row", "places"] ["row", "places"] (Aq Nf):=⟨rfl,rfl,rfl,by trivial,rfl,by decide +kernel,by decide +kernel⟩
abbrev S5:Stmt:=top 18
theorem Aq4:Bk ["thing"] ["thing"] (Aq S5):=⟨rfl,rfl,rfl,by grind,rfl,by decide +kernel,by decide +kernel⟩
abbrev O6:Stmt:=top 19
theorem Ai9:Bk ["wide"] ["wide"] (Aq O6):=⟨rfl,rfl,rfl,by grind,rfl,by decide +kernel,by decide +kernel⟩
abbrev Ik:Stmt:=top 20
theorem zX:Bk ["wide", "places", "rows"] ["wide", "places"] (Aq Ik):=⟨rfl,rfl,rfl,by trivial,rfl,by decide +kernel,by decide +kernel⟩
abbrev Ih:Stmt:=top 22
theorem Sd:Bk ["order"] ["order"] (Aq Ih):=⟨rfl,rfl,rfl,by grind,rfl,by decide +kernel,by decide +kernel⟩
abbrev Ii:Stmt:=top 23
theorem zQ:Bk ["things", "told", "first", "others"] ["things", "told"] (Aq Ii):=⟨rfl,rfl,rfl,by trivial,rfl,by decide +kernel,by decide +kernel⟩
abbrev O4:Stmt:=top 24
theorem Ai0:Bk ["things", "order"] ["things", "order"] (Aq O4):=⟨rfl,rfl,rfl,by trivial,rfl,by decide +kernel,by decide +kernel⟩
abbrev Ow:Stmt:=top 25
theorem yL:Bk ["wide", "order", "heads"] ["wide", "order"] (Aq Ow):=⟨rfl,rfl,rfl,by trivial,rfl,by decide +kernel,by decide +kernel⟩
abbrev Pa:Stmt:=top 26
theorem yG:Bk ["wide", "order", "cells", "rows"] ["wide", "order"] (Aq Pa):=⟨rfl,rfl,rfl,by trivial,rfl,by decide +kernel,by decide +kernel⟩
abbrev M7:Stmt:=top 28
theorem Zc:Bk ["_law_script", "_law_k"] ["_law_script", "_law_k"] (Aq M7):=⟨rfl,rfl,rfl,by trivial,rfl,by decide +kernel,by decide +kernel⟩
abbrev Y0:Stmt:=top 29
theorem yO:Bk ["_law_script", "_law_k", "_law_number_here"] ["_law_script", "_law_k"] (Aq Y0):=⟨rfl,rfl,rfl,by trivial,rfl,by decide +kernel,by decide +kernel⟩
abbrev Vx:Stmt:=top 30
theorem yD:Bk ["_law_box_here", "_law_many_here", "_law_found", "_law_once", "_law_twice"] ["_law_box_here", "_law_many_here"] (Aq Vx):=⟨rfl,rfl,rfl,by trivial,rfl,by decide +kernel,by decide +kernel⟩
abbrev Wb:Stmt:=top 31
theorem A1t:Bk ["_law_box_here", "_law_least", "_law_few", "_law_most"] ["_law_box_here", "_law_least", "_law_few", "_law_most"] (Aq Wb):=⟨rfl,rfl,rfl,by trivial,rfl,by decide +kernel,by decide +kernel⟩
abbrev Ru:Stmt:=top 32
theorem yM:Bk ["_law_box_here", "_law_many_here", "_law_some"] ["_law_box_here", "_law_many_here"] (Aq Ru):=⟨rfl,rfl,rfl,by trivial,rfl,by decide +kernel,by decide +kernel⟩
abbrev Rp:Stmt:=top 33
theorem yN:Bk ["_law_box_here", "_law_way"] ["_law_box_here"] (Aq Rp):=⟨rfl,rfl,rfl,by trivial,rfl,by decide +kernel,by decide +kernel⟩
abbrev Pk:Stmt:=top 34
theorem Af6:Bk ["_law_box_here"] ["_law_box_here"] (Aq Pk):=⟨rfl,rfl,rfl,by grind,rfl,by decide +kernel,by decide +kernel⟩
abbrev Vt:Stmt:=top 35
theorem yE:Bk ["_law_box_here", "_law_many_here", "_law_found", "_law_turn", "_law_value_here"] ["_law_box_here", "_law_many_here"] (Aq Vt):=⟨rfl,rfl,rfl,by trivial,rfl,by decide +kernel,by decide +kernel⟩
abbrev V4:Stmt:=top 36
theorem A1k:Bk ["_law_value_here"] ["_law_value_here"] (Aq V4):=⟨rfl,rfl,rfl,by grind,rfl,by decide +kernel,by decide +kernel⟩
abbrev O1:Stmt:=top 37
theorem zO:Bk ["_law_box_here", "_law_wide_here", "_law_many_here", "_law_pool_here", "_law_found", "_law_turn", "_law_one"] ["_law_box_here", "_law_wide_here", "_law_many_here"] (Aq O1):=⟨rfl,rfl,rfl,by trivial,rfl,by decide +kernel,by decide +kernel⟩
abbrev V7:Stmt:=top 38
theorem zF:Bk ["_law_box_here", "_law_numbers", "_law_names_here", "_law_a", "_law_b", "_law_c", "_law_stem", "_law_over", "_law_values", "_law_heads", "_law_often", "_law_rows", "_law_part", "_law_cells", "_law_head", "_law_one"] ["_law_box_here", "_law_numbers"] (Aq V7):=⟨rfl,rfl,rfl,by trivial,rfl,by decide +kernel,by decide +kernel⟩
abbrev Qd:Stmt:=top 39
theorem A0w:Bk ["_law_found", "_law_due"] ["_law_found", "_law_due"] (Aq Qd):=⟨rfl,rfl,rfl,by decide +kernel,rfl,by decide +kernel,by decide +kernel⟩
abbrev S7:Stmt:=top 40
theorem Aq8:Bk ["_law_values"] ["_law_values"] (Aq S7):=⟨rfl,rfl,rfl,by grind,rfl,by decide +kernel,by decide +kernel⟩
abbrev Pb:Stmt:=top 41
theorem yH:Bk ["_law_some", "_law_order", "_law_told_here", "_law_found"] ["_law_some", "_law_order"] (Aq Pb):=⟨rfl,rfl,rfl,by decide +kernel,rfl,by decide +kernel,by decide +kernel⟩
abbrev J8:Stmt:=top 42
theorem yI:Bk ["_law_wide_here", "_law_places_here", "_law_rows"] ["_law_wide_here", "_law_places_here"] (Aq J8):=⟨rfl,rfl,rfl,by decide +kernel,rfl,by decide +kernel,by decide +kernel⟩
abbrev S6:Stmt:=top 43
theorem An9:Bk ["_law_wide_here"] ["_law_wide_here"] (Aq S6):=⟨rfl,rfl,rfl,by grind,rfl,by decide +kernel,by decide +kernel⟩
abbrev Sq:Stmt:=top 44
theorem zV:Bk ["_law_error", "_law_marks", "_law_others"] ["_law_error"] (Aq Sq):=⟨rfl,rfl,rfl,by decide +kernel,rfl,by decide +kernel,by decide +kernel⟩
abbrev Uz:Stmt:=top 45
theorem yF:Bk ["_law_wide_here", "_law_order", "_law_heads", "_law_found", "_law_error"] ["_law_wide_here", "_law_order", "_law_heads"] (Aq Uz):=⟨rfl,rfl,rfl,by decide +kernel,rfl,by decide +kernel,by decide +kernel⟩
abbrev Zj:Stmt:=top 46
theorem zY:Bk ["_law_box_here", "_law_some", "_law_odd_here"] ["_law_box_here", "_law_some"] (Aq Zj):=⟨rfl,rfl,rfl,by decide +kernel,rfl,by decide +kernel,by decide +kernel⟩
abbrev Rj:Stmt:=top 47
theorem zG:Bk ["_law_box_here", "_law_wide_here", "_law_parts_here", "_law_heads", "_law_turn", "_law_order", "_law_places_here", "_law_due", "_law_some"] ["_law_box_here"] (Aq Rj):=⟨rfl,rfl,rfl,by decide +kernel,rfl,by decide +kernel,by decide +kernel⟩
abbrev A3k:Stmt:=top 48
theorem yQ:Bk ["_law_script", "_law_k"] ["_law_script"] (Aq A3k):=⟨rfl,rfl,rfl,by trivial,rfl,by decide +kernel,by decide +kernel⟩
section
variable {P:Program}{w:World}{K:PySem.W.Frag}{mg:Str->Option Value}{base:Heap}
theorem Bh3 {n:Nat}{f:Addr}{k:FuncData}(F:Fun K "rank" "rank" Zo f k) (c:Def P w K mg base "rank" (n) ["value"] (spP K (Gb n))) (d:mg "int" = none) (a:mg "isinstance" = none) (e:mg "str" = none) (b:mg "tuple" = none):FnOk P w K mg base CX0 (n+1) f k ["value"] (spP K (Gb (n+1))):=by
 refine F.ok Bc5 (fun o H Q E h=>Dm h) (fun l A g s H o Q E j h=>?_)
 have p:=j.units;have m:=j.gd
 refine G3 (Ai (Ep (Kh (qv 0) Jo) (Ao (Bc (Ce (Af Ah (Af Ah Ae))))) Ci)
  (Ai (Ep (G8 (Cj (Kq:=K) rfl rfl a (Af (qv 0) (Af (Dp (v:=.ty "int") rfl d Ao4 rfl) Ae)))) (Ao (Bc (Ce (Af Ah (Af (qv 0) Ae))))) Ci)
  (Ai (Ep (G8 (Cj (Kq:=K) rfl rfl a (Af (qv 0) (Af (Dp (v:=.ty "str") rfl e Ur rfl) Ae)))) (Ao (Bc (Ce (Af Ah (Af (qv 0) Ae))))) Ci)
  (Ao (Bc (Ce (Af Ah (Af (Az (Kq:=K) rfl rfl b (Af (by exact(Hm (N':=["each"]) (idx:=[none]) (Eg rfl rfl (by trivial) rfl rfl rfl) rfl (Fe (Kq:=K) rfl (qv 0)) (fun _ _ _ _ _=>by exact(Bh (i:=0) (by grind) rfl (Or.inl rfl))) (fun _ _ _ _ _=>by exact Eb) (fun _ _ _ _ _=>by exact(Bu c j (Af (qv 0) Ae))))) Ae)) Ae)))))))) ?_
 exact Dl (Aw (Fl (Bo (Ak Ab (Am rfl) Qg)) (Bb (Cq (Aa (Am rfl) (Aa (Am rfl) Ag)))) Cg)
  (Aw (Fl (Pj (Gw .int Ab)) (Bb (Cq (Aa (Am rfl) (Aa Ab Ag)))) Cg)
  (Aw (Fl (Pj (Gw .str Ab)) (Bb (Cq (Aa (Am rfl) (Aa Ab Ag)))) Cg)
  (Bb (Cq (Aa (Am rfl) (Aa (Bl (Gd (by decide) (Fo Ab) Aj Fg (Ax (Aa Ab Ag))) Dv) Ag))))))) h
theorem Ah5 {f:Addr}{fd:FuncData}(F:Fun K "rank" "rank" Zo f fd) (bF:Binds K fd ["value"] []) (mF:mg "rank" = some (.ref f)) (zR:mg "int" = none) (z7:mg "isinstance" = none) (zN:mg "str" = none) (z8:mg "tuple" = none):∀n:Nat,FnOk P w K mg base CX0 (n) f fd ["value"] (spP K (Gb n))
 | 0=>A8y
 | n+1=>Bh3 F ⟨f,fd,Ah5 F bF mF zR z7 zN z8 n,bF,F.kp,mF⟩ zR z7 zN z8
theorem A6p {f:Addr}{m:FuncData}(F:Fun K "risen" "risen" Za f m) (c:Def P w K mg base "rank" 2 ["value"] (spP K (Gb 2))) (a:mg "sorted" = none):FnOk P w K mg base CX0 5 f m ["values"] (spP K Ks):=by
 obtain⟨j,i,b,d,g,e⟩:=c
 refine F.ok A8i (fun p H Q E h=>Dm h) (fun n A k s H p Q E l h=>?_)
 have q:=l.units;have o:=l.gd
 refine G3 (Ao (Bc (A4x  rfl b (l.mono (by omega)) d rfl a (Af (qv 0) Ae) (Bb3 (Bc6 (v:=.ref _) rfl e rfl) Bm7)))) ?_
 exact Dl (Bb (Bq9 Ab)) h
theorem Zf   (F:Fun K "values_at" "values_at" Nf f c) (a:mg "tuple" = none):FnOk P w K mg base CX0 1 f c ["row", "places"] (spP K Ey):=by
 refine F.ok Y4 (fun g H Q E h=>Dm h) (fun j A b s H g Q E d h=>?_)
 have k:=d.units;have e:=d.gd
 refine G3 (Ao (Bc (Az (Kq:=K) rfl rfl a (Af (by exact(Hm (N':=["place", "row"]) (idx:=[none,some 0]) (Eg rfl rfl (by decide +kernel) rfl rfl rfl) rfl (Fe (Kq:=K) rfl (qv 1)) (fun _ _ _ _ _=>by exact(Bh (i:=0) (by show (["place", "row"]:List Str).Nodup;decide +kernel) rfl (Or.inl rfl))) (fun _ _ _ _ _=>by exact Eb) (fun _ _ _ _ _=>by exact(Cm (Kq:=K) rfl (qv 1) (qv 0) Hw)))) Ae)))) ?_
 exact Dl (Bb (Bl (Gd (by decide) (Fo Ab) Aj Fg (Ak Ab Ab Bp)) Dv)) h
theorem An4 {f:Addr}{e:FuncData}(F:Fun K "is_pair" "is_pair" S5 f e) (a:mg "isinstance" = none) (c:mg "len" = none) (b:mg "tuple" = none):FnOk P w K mg base CX0 1 f e ["thing"] (spP K Gj):=by
 refine F.ok Aq4 (fun j H Q E h=>Dm h) (fun k A d s H j Q E g h=>?_)
 have i:=g.gd
 refine G3 (Ao (Bc (M5 (Cj  rfl rfl a (Af (qv 0) (Af (Dp (v:=.ty _) rfl b Hz rfl) Ae))) (Ou (Vd g.units (J9  rfl rfl c (Af (qv 0) Ae)) Ah))))) ?_
 exact Dl (Bb (Jx (Gw _ Ab) (Ak (J5 Ab) (Am rfl) Fd))) h
theorem Ad3 {f:Addr}{c:FuncData}(F:Fun K "parts_of" "parts_of" O6 f c) (a:mg "tuple" = none):FnOk P w K mg base CX0 1 f c ["wide"] (spP K Gf):=by
 refine F.ok Ai9 (fun g H Q E h=>Dm h) (fun j A b s H g Q E d h=>?_)
 have k:=d.units;have e:=d.gd
 refine G3 (Ao (Bc (Az (Kq:=K) rfl rfl a (Af (by exact(Hm (N':=["part", "cells"]) (idx:=[none,none]) (Eg rfl rfl (by decide +kernel) rfl rfl rfl) rfl (Fe (Kq:=K) rfl (Cm (Kq:=K) rfl (qv 0) Ah Bq)) (fun _ _ _ _ _=>by exact(Lr (Kq:=K) rfl (n:=2) rfl (Ds (Bh (i:=0) (by show (["part", "cells"]:List Str).Nodup;trivial) rfl (Or.inl rfl)) (Ds (Bh (i:=1) (by show (["part", "cells"]:List Str).Nodup;decide +kernel) rfl (Or.inl rfl)) Iu)))) (fun _ _ _ _ _=>by exact Eb) (fun _ _ _ _ _=>by exact(qv 0)))) Ae)))) ?_
 exact Dl (Bb (Bl (Gd (by decide) (Fo (Ak Ab (Am rfl) Bp)) (Lp (Dt Aj (Dt Aj Ir))) Fg Ab) Dv)) h
theorem Q6 {f:Addr}{e:FuncData}(F:Fun K "with_heads_at" "with_heads_at" Ik f e) (a:Def P w K mg base "values_at" 1 ["row", "places"] (spP K Ey)) (b:mg "tuple" = none):FnOk P w K mg base CX0 2 f e ["wide", "places"] (spP K Fi):=by
 refine F.ok zX (fun j H Q E h=>Dm h) (fun k A d s H j Q E c h=>?_)
 have l:=c.units;have g:=c.gd
 refine G3 (Ai (by exact(M4 (i:=2) zX.nd rfl (Or.inl rfl) (N':=["part", "cells", "places"]) (idx:=[none,none,some 1]) (Eg rfl rfl (by decide +kernel) rfl rfl rfl) rfl (Fe (Kq:=K) rfl (Cm (Kq:=K) rfl (qv 0) Ah Bq)) (fun _ _ _ _ _=>by exact(Lr (Kq:=K) rfl (n:=2) rfl (Ds (Bh (i:=0) (by show (["part", "cells", "places"]:List Str).Nodup;decide +kernel) rfl (Or.inl rfl)) (Ds (Bh (i:=1) (by show (["part", "cells", "places"]:List Str).Nodup;decide +kernel) rfl (Or.inl rfl)) Iu)))) (fun _ _ _ _ _=>by exact Eb) (fun _ _ _ _ _=>by exact(Ce (Af (qv 0) (Af (Bu a c (Af (qv 1) (Af (qv 2) Ae))) Ae))))))
  (Ao (Bc (Dw (Ti (Kq:=K) rfl (qv 0) Nt (G4 Ah)) (Ce (Af (Bu a c (Af (Cm (Kq:=K) rfl (qv 0) Ah Bq) (Af (qv 1) Ae))) (Af (Az (Kq:=K) rfl rfl b (Af (qv 2) Ae)) Ae))))))) ?_
 exact Dl (Aw (Bj (Gd (by decide) (Fo (Ak Ab (Am rfl) Bp)) (Lp (Dt Aj (Dt Aj Ir))) Fg (Cq (Aa Ab (Aa (Ax (Aa Ab (Aa Ab Ag))) Ag)))) Aj)
  (Bb (Ak (Tu Ab Nv (Hx (Am rfl)) Jy) (Cq (Aa (Ax (Aa (Ak Ab (Am rfl) Bp) (Aa Ab Ag))) (Aa (Bl Ab Dv) Ag))) Cu))) h
theorem Rc {f:Addr}{i:FuncData}(F:Fun K "is_told_order" "is_told_order" Ih f i) (b:Def P w K mg base "is_pair" 1 ["thing"] (spP K Gj)) (a:mg "isinstance" = none) (d:mg "list" = none) (c:mg "tuple" = none):FnOk P w K mg base CX0 2 f i ["order"] (spP K Cv):=by
 refine F.ok Sd (fun l H Q E h=>Dm h) (fun j A g s H l Q E e h=>?_)
 have k:=e.gd
 refine G3 (Ao (Bc (M5 (Bu b e (Af (qv 0) Ae)) (M5 (Vd e.units (Cm (Kq:=K) rfl (qv 0) Ah Bq) Bs) (Ou (Ln (Kq:=K) rfl rfl a (Af (Cm (Kq:=K) rfl (qv 0) Ah Bq) (Af (Ce (Af (Dp (v:=.ty "list") rfl d J0 rfl) (Af (Dp (v:=.ty _) rfl c Hz rfl) Ae))) Ae)))))))) ?_
 exact Dl (Bb (Jx (Ax (Aa Ab Ag)) (Jx (Ak (Ak Ab (Am rfl) Bp) (Am rfl) Fd) (Ab9 .list .tuple (Ak Ab (Am rfl) Bp))))) h
theorem Sh {f:Addr}{m:FuncData}(F:Fun K "in_told_order" "in_told_order" Ii f m) {n p:Addr} (e:(p,("in_told_order" : Str) ++ ".<locals>." ++ "<lambda>")∈Em K) (g:PySem.W.codeHdIn K n p=true) (j:m.code=.ref n) (a:mg "sorted" = none):FnOk P w K mg base CX0 5 f m ["things", "told"] (spP K Ff):=by
 refine F.okL zQ (fun r H Q E h=>Dm h) (fun q A l s H r Q E c b h=>?_)
 have o:=b.units;have d:=b.gd
 refine G3 (Ai (by exact(M4 (i:=2) zQ.nd rfl (Or.inl rfl) (N':=["thing", "told"]) (idx:=[none,some 1]) (Eg rfl rfl (by decide +kernel) rfl rfl rfl) rfl (Fe (Kq:=K) rfl (qv 0)) (fun _ _ _ _ _=>by exact(Bh (i:=0) (by show (["thing", "told"]:List Str).Nodup;decide +kernel) rfl (Or.inl rfl))) (fun _ _ _ _ _=>by exact(Uc (Bi4 o (qv 0) (qv 1) (by with_unfolding_all rfl)))) (fun _ _ _ _ _=>by exact(qv 0))))
  (Ai (by exact(M4 (i:=3) zQ.nd rfl (Or.inl rfl) (N':=["thing", "told"]) (idx:=[none,some 1]) (Eg rfl rfl (by decide +kernel) rfl rfl rfl) rfl (Fe (Kq:=K) rfl (qv 0)) (fun _ _ _ _ _=>by exact(Bh (i:=0) (by show (["thing", "told"]:List Str).Nodup;decide +kernel) rfl (Or.inl rfl))) (fun _ _ _ _ _=>by exact(Uc (Gr o (qv 0) (qv 1) (by with_unfolding_all rfl)))) (fun _ _ _ _ _=>by exact(qv 0))))
  (Ao (Bc (Dw (A4f (Kq:=K) rfl (k:=1) (x := "thing") (N':=["told"]) (idx:=[some 1]) e g (c.symm.trans j) b rfl a (Af (qv 2) Ae) ⟨Eg rfl rfl (by decide +kernel) rfl rfl rfl,by decide +kernel⟩ (fun _ _ _ _ _ b=>by have d:=b.gd;exact(A6q (Kq:=K) rfl b.units (qv 1) (Af (qv 0) Ae)))) (qv 3)))))) ?_
 exact Dl (Aw (Bj (Gd (by decide) (Fo Ab) Aj (Bo (Ak Ab Ab A3j)) Ab) Aj)
  (Aw (Bj (Gd (by decide) (Fo Ab) Aj (Bo (Ak Ab Ab Jd)) Ab) Aj)
  (Bb (Ak (Bh8 (js:=[1]) (F:=Bw) Ab (A9u (A3u Ab Ab) ["thing", "told"] rfl)) Ab Cu)))) h
theorem Ah2 {f:Addr}{fd:FuncData}(F:Fun K "in_order" "in_order" O4 f fd) (D_risen:Def P w K mg base "risen" 5 ["values"] (spP K Ks)) (D_is_told_order:Def P w K mg base "is_told_order" 2 ["order"] (spP K Cv)) (D_in_told_order:Def P w K mg base "in_told_order" 5 ["things", "told"] (spP K Ff)) (zA:mg "list" = none) (yJ:mg "reversed" = none) (r_BadOrder:ClR K mg "BadOrder"):FnOk P w K mg base (CXe P w) 6 f fd ["things", "order"] (spX K Bg):=by
 obtain⟨gr_BadOrder,mr_BadOrder,n_BadOrder,q_BadOrder⟩:=r_BadOrder
 refine F.okX Ai0 (fun vs H Q E h=>Z3 h) (fun cdv A outer s H vs Q E hr h=>?_)
 have hu:=hr.units;have hgd:=hr.gd
 refine G3 (Ai (Ep (K5 hu (qv 1) Bs) (Ao (Bc (Ef (Kq:=K) rfl rfl zA (Af (qv 0) Ae)))) Ci)
  (Ai (Ep (K5 hu (qv 1) Bs) (Ao (Bc (Bu D_risen hr (Af (qv 0) Ae)))) Ci)
  (Ai (Ep (K5 hu (qv 1) Bs) (Ao (Bc (Ak6 (Kq:=K) rfl rfl rfl zA rfl yJ (Af (Bu D_risen hr (Af (qv 0) Ae)) Ae)))) Ci)
  (Ai (Ep (G8 (Bu D_is_told_order hr (Af (qv 1) Ae))) (Ao (Bc (Bu D_in_told_order hr (Af (qv 0) (Af (Cm (Kq:=K) rfl (qv 1) Ah Bq) Ae))))) Ci)
  (Ao (A6z A0q rfl rfl mr_BadOrder q_BadOrder (Af Bs Ae))))))) ?_
 exact Yu (Pg (Az1 (Bo (Ak Ab (Am rfl) Fd)) (Hh (Bb (Mf (Bl Ab Jm)))) (Hh Cg))
  (Pg (Az1 (Bo (Ak Ab (Am rfl) Fd)) (Hh (Bb (Mf (Ax (Aa Ab Ag))))) (Hh Cg))
  (Pg (Az1 (Bo (Ak Ab (Am rfl) Fd)) (Hh (Bb (Mf (Bh9 (Ax (Aa Ab Ag)))))) (Hh Cg))
  (Pg (Az1 (Pj (Ax (Aa Ab Ag))) (Hh (Bb (Mf (Ax (Aa Ab (Aa (Ak Ab (Am rfl) Bp) Ag)))))) (Hh Cg))
  (A5v n_BadOrder (Aa (Am rfl) Ag) (fun _ _ _ e=>by cases e;decide)))))) h
theorem Ag6 {f:Addr}{fd:FuncData}(F:Fun K "heads_in" "heads_in" Ow f fd) (D_with_heads_at:Def P w K mg base "with_heads_at" 2 ["wide", "places"] (spP K Fi)) (D_in_order:DefX P w K mg base "in_order" 6 ["things", "order"] (spX K Bg)):FnOk P w K mg base (CXe P w) 7 f fd ["wide", "order"] (spX K Dk):=by
 refine F.okX yL (fun vs H Q E h=>Z3 h) (fun cdv A outer s H vs Q E hr h=>?_)
 have hu:=hr.units;have hgd:=hr.gd
 refine G3 (Ai (By (i:=2) yL.nd rfl (Or.inr rfl) (Cm (Kq:=K) rfl (qv 0) Ah Bq))
  (Ao (Bc (Bu D_with_heads_at hr (Af (qv 0) (Af (by exact(Hm (N':=["head", "heads"]) (idx:=[none,some 2]) (Eg rfl rfl (by decide +kernel) rfl rfl rfl) rfl (Fe (Kq:=K) rfl (Bj0 Xi D_in_order hr (Af (qv 2) (Af (qv 1) Ae)))) (fun _ _ _ _ _=>by exact(Bh (i:=0) (by show (["head", "heads"]:List Str).Nodup;decide +kernel) rfl (Or.inl rfl))) (fun _ _ _ _ _=>by exact Eb) (fun _ _ _ _ _=>by exact(Ay5 (Kq:=K) rfl PySem.F.plainAttrs_tuple PySem.F.slot_tuple_index PySem.F.type_tuple_index (Xx hu) (qv 1) (Af (qv 0) Ae))))) Ae)))))) ?_
 exact Yu (Pg (Hh (Bj (Ak Ab (Am rfl) Bp) Aj))
  (Ai7 (F:=Bg) (vs:=[0]) (Aa Ab (Aa Ab Ag)) (Bb (Ax (Aa Ab (Aa (Gd (by decide) (Fo (Yg (Aa Ab (Aa Ab Ag)))) Aj Fg (A4r Ab Ab A4e Vg)) Ag)))) (fun σ H D hb hq=>by obtain⟨v0,h0⟩:=hb 0 (by decide);exact⟨_,h0,hq _⟩))) h
theorem Ad7 {f:Addr}{fd:FuncData}(F:Fun K "parts_in" "parts_in" Pa f fd) (D_parts_of:Def P w K mg base "parts_of" 1 ["wide"] (spP K Gf)) (D_in_order:DefX P w K mg base "in_order" 6 ["things", "order"] (spX K Bg)) (yP:mg "dict" = none) (z8:mg "tuple" = none):FnOk P w K mg base (CXe P w) 7 f fd ["wide", "order"] (spX K Dj):=by
 refine F.okX yG (fun vs H Q E h=>Z3 h) (fun cdv A outer s H vs Q E hr h=>?_)
 have hu:=hr.units;have hgd:=hr.gd
 refine G3 (Ai (By (i:=2) yG.nd rfl (Or.inr rfl) (B1m (Kq:=K) rfl rfl hu rfl yP (Cm (Kq:=K) rfl (qv 0) Ah Bq)))
  (Ai (by exact(M4 (i:=3) yG.nd rfl (Or.inl rfl) (N':=["part", "cells"]) (idx:=[none,some 2]) (Eg rfl rfl (by decide +kernel) rfl rfl rfl) rfl (Fe (Kq:=K) rfl (Bj0 Xi D_in_order hr (Af (Bu D_parts_of hr (Af (qv 0) Ae)) (Af (qv 1) Ae)))) (fun _ _ _ _ _=>by exact(Bh (i:=0) (by show (["part", "cells"]:List Str).Nodup;decide +kernel) rfl (Or.inl rfl))) (fun _ _ _ _ _=>by exact Eb) (fun _ _ _ _ _=>by exact(Ce (Af (qv 0) (Af (Br3 hu (qv 1) (qv 0) Hw) Ae))))))
  (Ao (Bc (Dw (Ti (Kq:=K) rfl (qv 0) Nt (G4 Ah)) (Ce (Af (Az (Kq:=K) rfl rfl z8 (Af (qv 3) Ae)) Ae))))))) ?_
 exact Yu (Pg (Hh (Bj (B0x (Ak Ab (Am rfl) Bp)) Aj))
  (Pg (Ai7 (F:=Bg) (vs:=[]) (Aa (Ax (Aa Ab Ag)) (Aa Ab Ag)) (Bj (Gd (by decide) (Fo (Yg (Aa (Ax (Aa Ab Ag)) (Aa Ab Ag)))) Aj Fg (Cq (Aa Ab (Aa (Bc0 Ab Ab) Ag)))) Aj) (fun σ H D hb hq=>by exact hq _))
  (Hh (Bb (Ak (Tu Ab Nv (Hx (Am rfl)) Jy) (Cq (Aa (Bl Ab Dv) Ag)) Cu))))) h
theorem Yz   (F:Fun K "_law_cell_at" "_law_cell_at" M7 f c) (a:mg "len" = none):FnOk P w K mg base CX0 1 f c ["_law_script", "_law_k"] (spP K Gu):=by
 refine F.ok Zc (fun g H Q E h=>Dm h) (fun i A b s H g Q E d h=>?_)
 have j:=d.units;have e:=d.gd
 refine G3 (Ai (Ep (Ag7 (qv 1) (J9  rfl rfl a (Af (qv 0) Ae))) (Ao (Bc (Bk3 (show IxR _ _ from Bt9) (qv 0) (qv 1) Hw))) Ci)
  (Ao (Bc Ah))) ?_
 exact Dl (Aw (Fl (Bo (Ak Ab (J5 Ab) Ax4)) (Bb (Bw4 Ab Ab)) Cg)
  (Bb (Am rfl))) h
theorem A4y {f:Addr}{g:FuncData}(F:Fun K "_law_box" "_law_box" Y0 f g) (a:Def P w K mg base "_law_cell_at" 1 ["_law_script", "_law_k"] (spP K Gu)) (b:mg "abs" = none) (c:mg "int" = none):FnOk P w K mg base CX0 2 f g ["_law_script", "_law_k"] (spP K Ms):=by
 refine F.ok yO (fun k H Q E h=>Dm h) (fun l A e s H k Q E d h=>?_)
 have m:=d.units;have j:=d.gd
 refine G3 (Ai (By (i:=2) yO.nd rfl (Or.inl rfl) (Bu a d (Af (qv 0) (Af (qv 1) Ae))))
  (Ao (Bc (Ec (Af (Jb (S8 (Kq:=K) rfl rfl b (Af (qv 2) Ae)) (Yo (Kq:=K) rfl rfl c (Af (A6w (S8 (Kq:=K) rfl rfl b (Af (qv 2) Ae)) (Iz Ah Ah)) Ae))) (Af (Dw (Dw (Hr (qv 2) Ah) (Jb Ah (qv 1))) Ah) (Af Ah Ae))))))) ?_
 exact Dl (Aw (Bj (Ax (Aa Ab (Aa Ab Ag))) Aj)
  (Bb (Ed (Aa (Ak (Bl Ab At4) (Bl (Ak (Bl Ab At4) (Ak (Am rfl) (Am rfl) Nx) Bo2) A9s) K4) (Aa (Ak (Ak (Ak Ab (Am rfl) Ma) (Ak (Am rfl) Ab K4) Cu) (Am rfl) Cu) (Aa (Am rfl) Ag)))))) h
theorem A0p   (F:Fun K "_law_take" "_law_take" Vx f b):FnOk P w K mg base CX0 1 f b ["_law_box_here", "_law_many_here"] (spP K Av):=by
 refine F.ok yD (fun d H Q E h=>Dm h) (fun g A a s H d Q E c h=>?_)
 have j:=c.units;have e:=c.gd
 refine G3 (Ai (Ep (A5w (Cm (Kq:=K) rfl (qv 0) Ah Bq) Ah) (Ai (By (i:=2) yD.nd rfl (Or.inl rfl) (Hr (Cm (Kq:=K) rfl (qv 0) Ah Bq) (qv 1)))
  (Ai (A8s (Vw (Cm (Kq:=K) rfl (qv 0) Ah Bq) (qv 1)) (A5y (qv 0) Ah set_list))
  (Ao (Bc (qv 2))))) Ci)
  (Ai (A8s (Dw (Cm (Kq:=K) rfl (qv 0) Ah Bq) Ah) (A5y (qv 0) Ah set_list))
  (Ai (By (i:=3) yD.nd rfl (Or.inl rfl) (Hr (Jb (Dw (Cm (Kq:=K) rfl (qv 0) Ah Bq) (Jb Ah (Cm (Kq:=K) rfl (qv 0) Ah Bq))) (Dw Ah (Cm (Kq:=K) rfl (qv 0) Ah Bq))) Ah))
  (Ai (By (i:=4) yD.nd rfl (Or.inl rfl) (Hr (Jb (Dw (qv 3) (Cm (Kq:=K) rfl (qv 0) Ah Bq)) (Dw (Hr (qv 3) Ah) Ah)) Ah))
  (Ao (Bc (Hr (Vw (Hr (Dw (Jb (qv 4) Ah) (qv 3)) Ah) Ah) (qv 1)))))))) ?_
 exact Dl (Aw (Fl (Bo (Ak (Ak Ab (Am rfl) Bp) (Am rfl) Bw6)) (Aw (Bj (Ak (Ak Ab (Am rfl) Bp) Ab Ma) Aj)
  (Aw (Bj (Ak (Ak Ab (Am rfl) Bp) Ab Ai8) (A6u Ab (Am rfl)))
  (Bb Ab))) Cg)
  (Aw (Bj (Ak (Ak Ab (Am rfl) Bp) (Am rfl) Cu) (A6u Ab (Am rfl)))
  (Aw (Bj (Ak (Ak (Ak (Ak Ab (Am rfl) Bp) (Ak (Am rfl) (Ak Ab (Am rfl) Bp) K4) Cu) (Ak (Am rfl) (Ak Ab (Am rfl) Bp) Cu) K4) (Am rfl) Ma) Aj)
  (Aw (Bj (Ak (Ak (Ak Ab (Ak Ab (Am rfl) Bp) Cu) (Ak (Ak Ab (Am rfl) Ma) (Am rfl) Cu) K4) (Am rfl) Ma) Aj)
  (Bb (Ak (Ak (Ak (Ak (Ak Ab (Am rfl) K4) Ab Cu) (Am rfl) Ma) (Am rfl) Ai8) Ab Ma)))))) h
theorem A1p {f:Addr}{d:FuncData}(F:Fun K "_law_many" "_law_many" Wb f d) (a:Def P w K mg base "_law_take" 1 ["_law_box_here", "_law_many_here"] (spP K Av)):FnOk P w K mg base CX0 2 f d ["_law_box_here", "_law_least", "_law_few", "_law_most"] (spP K Hq):=by
 refine F.ok A1t (fun g H Q E h=>Dm h) (fun i A c s H g Q E b h=>?_)
 have e:=b.gd
 refine G3 (Ai (Ep (K5 b.units (Bu a b (Af (qv 0) (Af Ah Ae))) Ah) (Ao (Bc (Dw Ah (Bu a b (Af (qv 0) (Af (Hb (qv 3) Ah) Ae)))))) Ci)
  (Ao (Bc (Dw (qv 1) (Bu a b (Af (qv 0) (Af (Dw (Hb (qv 2) (qv 1)) Ah) Ae))))))) ?_
 exact Dl (Aw (Fl (Bo (Ak (Ax (Aa Ab (Aa (Am rfl) Ag))) (Am rfl) Fd)) (Bb (Ak (Am rfl) (Ax (Aa Ab (Aa (Ak Ab (Am rfl) Jw) Ag))) Cu)) Cg)
  (Bb (Ak Ab (Ax (Aa Ab (Aa (Ak (Ak Ab Ab Jw) (Am rfl) Cu) Ag))) Cu))) h
theorem Al3 {f:Addr}{m:FuncData}(F:Fun K "_law_names" "_law_names" Ru f m) (d:Def P w K mg base "_law_take" 1 ["_law_box_here", "_law_many_here"] (spP K Av)) (g:mg "len" = none) (e:mg "range" = none):FnOk P w K mg base CX0 2 f m ["_law_box_here", "_law_many_here"] (spP K Hv):=by
 refine F.ok yM (fun l H Q E h=>Dm h) (fun n A j s H l Q E k h=>?_)
 have p:=k.units;have o:=k.gd
 refine G3 (Ai (By (i:=2) yM.nd rfl (Or.inr rfl) (Ec (Rb (vs:=[.str "b",.str "a",.str "year",.str "z",.str "ab",.str "month",.str "aa",.str "quantity",.str "c",.str "town",.str "zz",.str "ba"]) rfl)))
  (Ao (Bc (by exact(Hm (N':=["_law_turn", "_law_some", "_law_box_here"]) (idx:=[none,some 2,some 0]) (Eg rfl rfl (by decide +kernel) rfl rfl rfl) rfl (Ja rfl e (Af (qv 1) Ae)) (fun _ _ _ _ _=>by exact(Bh (i:=0) (by show (["_law_turn", "_law_some", "_law_box_here"]:List Str).Nodup;decide +kernel) rfl (Or.inl rfl))) (fun _ _ _ _ _=>by exact Eb) (fun _ _ _ _ _=>by exact(Ay5 (Kq:=K) rfl PySem.F.plainAttrs_list PySem.F.slot_list_pop PySem.F.type_list_pop A7o (qv 1) (Af (Bu d k (Af (qv 2) (Af (J9 (Kq:=K) rfl rfl g (Af (qv 1) Ae)) Ae))) Ae)))))))) ?_
 exact Dl (Aw (Bj (Ed (Bl3 rfl)) Aj)
  (Bb (Gd (by decide) (N7 Ab) Aj Fg (A3e Ab (Ax (Aa Ab (Aa (J5 Ab) Ag))))))) h
theorem Ap0   (F:Fun K "_law_value" "_law_value" Rp f g) (c:Def P w K mg base "_law_take" 1 ["_law_box_here", "_law_many_here"] (spP K Av)):FnOk P w K mg base CX0 2 f g ["_law_box_here"] (spP K Cr):=by
 refine F.ok yN (fun k H Q E h=>Dm h) (fun m A e s H k Q E d h=>?_)
 have j:=d.units;have l:=d.gd
 refine G3 (Ai (By (i:=1) yN.nd rfl (Or.inl rfl) (Bu c d (Af (qv 0) (Af Ah Ae))))
  (Ai (Ep (Ag7 (qv 1) Ah) (Ao (Bc (Hb (Bu c d (Af (qv 0) (Af Ah Ae))) Ah))) Ci)
  (Ai (Ep (K5 j (qv 1) Ah) (Ao (Bc (Cm (Kq:=K) rfl (Ec (Af (Hb (Iz Ah Ah) Ah) (Af (Hb Ah (Iz Ah Ah)) (Af Ah (Af Ah Ae))))) (Bu c d (Af (qv 0) (Af Ah Ae))) G7))) Ci)
  (Ai (Ep (K5 j (qv 1) Ah) (Ao (Bc Jo)) Ci)
  (Ao (Bc (Cm (Kq:=K) rfl (Ec (Rb (vs:=[.str "",.str "a",.str "b",.str "B",.str "10",.str "9",.str "-",.str "a b",.str "it's",.str "\\",.str "/",.str "_",.str ":",.str "None",.str "ab"]) rfl)) (Bu c d (Af (qv 0) (Af Ah Ae))) G7))))))) ?_
 exact Dl (Aw (Bj (Ax (Aa Ab (Aa (Am rfl) Ag))) Aj)
  (Aw (Fl (Bo (Ak Ab (Am rfl) Ax4)) (Bb (Ak (Ax (Aa Ab (Aa (Am rfl) Ag))) (Am rfl) Jw)) Cg)
  (Aw (Fl (Bo (Ak Ab (Am rfl) Fd)) (Bb (Ak (Ed (Aa (Ak (Ak (Am rfl) (Am rfl) Nx) (Am rfl) Jw) (Aa (Ak (Am rfl) (Ak (Am rfl) (Am rfl) Nx) Jw) (Aa (Am rfl) (Aa (Am rfl) Ag))))) (Ax (Aa Ab (Aa (Am rfl) Ag))) Bp)) Cg)
  (Aw (Fl (Bo (Ak Ab (Am rfl) Fd)) (Bb (Am rfl)) Cg)
  (Bb (Ak (Ed (Bl3 rfl)) (Ax (Aa Ab (Aa (Am rfl) Ag))) Bp)))))) h
theorem Af5 {f:Addr}{d:FuncData}(F:Fun K "_law_number" "_law_number" Pk f d) (a:Def P w K mg base "_law_take" 1 ["_law_box_here", "_law_many_here"] (spP K Av)):FnOk P w K mg base CX0 2 f d ["_law_box_here"] (spP K Dq):=by
 refine F.ok Af6 (fun g H Q E h=>Dm h) (fun i A c s H g Q E b h=>?_)
 have e:=b.gd
 refine G3 (Ai (Ep (K5 b.units (Bu a b (Af (qv 0) (Af Ah Ae))) Ah) (Ao (Bc (Cm (Kq:=K) rfl (Ec (Af (Hb (Iz Ah Ah) Ah) (Af (Hb Ah (Iz Ah Ah)) (Af (Iz Ah Ah) (Af Ah Ae))))) (Bu a b (Af (qv 0) (Af Ah Ae))) G7))) Ci)
  (Ao (Bc (Hb (Bu a b (Af (qv 0) (Af Ah Ae))) Ah)))) ?_
 exact Dl (Aw (Fl (Bo (Ak (Ax (Aa Ab (Aa (Am rfl) Ag))) (Am rfl) Fd)) (Bb (Ak (Ed (Aa (Ak (Ak (Am rfl) (Am rfl) Nx) (Am rfl) Jw) (Aa (Ak (Am rfl) (Ak (Am rfl) (Am rfl) Nx) Jw) (Aa (Ak (Am rfl) (Am rfl) Nx) (Aa (Am rfl) Ag))))) (Ax (Aa Ab (Aa (Am rfl) Ag))) Bp)) Cg)
  (Bb (Ak (Ax (Aa Ab (Aa (Am rfl) Ag))) (Am rfl) Jw))) h
theorem A0e {f:Addr}{e:FuncData}(F:Fun K "_law_pool" "_law_pool" Vt f e) (a:Def P w K mg base "_law_value" 2 ["_law_box_here"] (spP K Cr)) (b:mg "range" = none):FnOk P w K mg base CX0 3 f e ["_law_box_here", "_law_many_here"] (spP K Jc):=by
 refine F.ok yE (fun j H Q E h=>Dm h) (fun k A c s H j Q E d h=>?_)
 have g:=d.gd
 refine G3 (Ai (By (i:=2) yE.nd rfl (Or.inl rfl) (Ec Ae))
  (Ai (Sx PassesOwn.never rfl (Ja rfl b (Af (qv 1) Ae)) (Bh (i:=3) yE.nd rfl (Or.inl rfl)) (Ai (By (i:=4) yE.nd rfl (Or.inl rfl) (Bu a d (Af (qv 0) Ae)))
  (Ao (Ep (Gr d.units (qv 4) (qv 2) (by trivial)) (Ao (Q3 (K3 (Kq:=K) rfl (qv 2) (qv 4)))) Ci))))
  (Ao (Bc (qv 2))))) ?_
 exact Dl (Aw (Bj (Ed Ag) Aj)
  (Aw (Rx (N7 Ab) Aj (Aw (Bj (Ax (Aa Ab Ag)) Aj)
  (Fl (Bo (Ak Ab Ab Jd)) (Qv (V0 Ab Ab)) Cg)))
  (Bb Ab))) h
theorem Az8   (F:Fun K "_law_rank" "_law_rank" V4 f d) (a:mg "isinstance" = none) (b:mg "str" = none):FnOk P w K mg base CX0 1 f d ["_law_value_here"] (spP K G9):=by
 refine F.ok A1k (fun i H Q E h=>Dm h) (fun j A c s H i Q E e h=>?_)
 have k:=e.units;have g:=e.gd
 refine G3 (Ai (Ep (Kh (qv 0) Jo) (Ao (Bc (Ce (Af Ah (Af Ah (Af Bs Ae)))))) Ci)
  (Ai (Ep (G8 (Cj (Kq:=K) rfl rfl a (Af (qv 0) (Af (Dp (v:=.ty "str") rfl b Ur rfl) Ae)))) (Ao (Bc (Ce (Af Ah (Af Ah (Af (qv 0) Ae)))))) Ci)
  (Ao (Bc (Ce (Af Ah (Af (qv 0) (Af Bs Ae)))))))) ?_
 exact Dl (Aw (Fl (Bo (Ak Ab (Am rfl) Qg)) (Bb (Cq (Aa (Am rfl) (Aa (Am rfl) (Aa (Am rfl) Ag))))) Cg)
  (Aw (Fl (Pj (Gw _ Ab)) (Bb (Cq (Aa (Am rfl) (Aa (Am rfl) (Aa Ab Ag))))) Cg)
  (Bb (Cq (Aa (Am rfl) (Aa Ab (Aa (Am rfl) Ag))))))) h
theorem Ak5 {f:Addr}{k:FuncData}(F:Fun K "_law_tuples" "_law_tuples" O1 f k) (b:Def P w K mg base "_law_take" 1 ["_law_box_here", "_law_many_here"] (spP K Av)) (c:Def P w K mg base "_law_pool" 3 ["_law_box_here", "_law_many_here"] (spP K Jc)) (e:mg "len" = none) (a:mg "range" = none) (d:mg "tuple" = none):FnOk P w K mg base CX0 4 f k ["_law_box_here", "_law_wide_here", "_law_many_here"] (spP K Ha):=by
 refine F.ok zO (fun n H Q E h=>Dm h) (fun l A j s H n Q E g h=>?_)
 have m:=g.gd
 refine G3 (Ai (By (i:=3) zO.nd rfl (Or.inr rfl) (Bu c g (Af (qv 0) (Af Ah Ae))))
  (Ai (By (i:=4) zO.nd rfl (Or.inl rfl) (Ec Ae))
  (Ai (Sx PassesOwn.never rfl (Ja rfl a (Af (qv 2) Ae)) (Bh (i:=5) zO.nd rfl (Or.inl rfl)) (Ai (By (i:=6) zO.nd rfl (Or.inl rfl) (Az (Kq:=K) rfl rfl d (Af (by exact(Hm (N':=["_law_k", "_law_pool_here", "_law_box_here"]) (idx:=[none,some 3,some 0]) (Eg rfl rfl (by decide +kernel) rfl rfl rfl) rfl (Ja rfl a (Af (qv 1) Ae)) (fun _ _ _ _ _=>by exact(Bh (i:=0) (by show (["_law_k", "_law_pool_here", "_law_box_here"]:List Str).Nodup;decide +kernel) rfl (Or.inl rfl))) (fun _ _ _ _ _=>by exact Eb) (fun _ _ _ _ _=>by exact(Cm (Kq:=K) rfl (qv 1) (Bu b g (Af (qv 2) (Af (J9 (Kq:=K) rfl rfl e (Af (qv 1) Ae)) Ae))) G7)))) Ae)))
  (Ao (Ep (Gr g.units (qv 6) (qv 4) (by with_unfolding_all rfl)) (Ao (Q3 (K3 (Kq:=K) rfl (qv 4) (qv 6)))) Ci))))
  (Ao (Bc (qv 4)))))) ?_
 exact Dl (Aw (Bj (Ax (Aa Ab (Aa (Am rfl) Ag))) Aj)
  (Aw (Bj (Ed Ag) Aj)
  (Aw (Rx (N7 Ab) Aj (Aw (Bj (Bl (Gd (by decide) (N7 Ab) Aj Fg (Ak Ab (Ax (Aa Ab (Aa (J5 Ab) Ag))) Bp)) Dv) Aj)
  (Fl (Bo (Ak Ab Ab Jd)) (Qv (V0 Ab Ab)) Cg)))
  (Bb Ab)))) h
theorem A0z {f:Addr}{o:FuncData}(F:Fun K "_law_wide" "_law_wide" V7 f o) (a:Def P w K mg base "_law_take" 1 ["_law_box_here", "_law_many_here"] (spP K Av)) (d:Def P w K mg base "_law_many" 2 ["_law_box_here", "_law_least", "_law_few", "_law_most"] (spP K Hq)) (m:Def P w K mg base "_law_names" 2 ["_law_box_here", "_law_many_here"] (spP K Hv)) (l:Def P w K mg base "_law_value" 2 ["_law_box_here"] (spP K Cr)) (e:Def P w K mg base "_law_number" 2 ["_law_box_here"] (spP K Dq)) (c:Def P w K mg base "_law_tuples" 4 ["_law_box_here", "_law_wide_here", "_law_many_here"] (spP K Ha)) (b:mg "tuple" = none):FnOk P w K mg base CX0 5 f o ["_law_box_here", "_law_numbers"] (spP K N6):=by
 refine F.ok zF (fun r H Q E h=>Dm h) (fun q A n s H r Q E g h=>?_)
 have p:=g.units;have t:=g.gd
 refine G3 (Ai (By (i:=2) zF.nd rfl (Or.inl rfl) (Bu m g (Af (qv 0) (Af Ah Ae))))
  (Ai (Bb8 (i:=3) (j:=4) (k:=5) rfl zF.nd rfl rfl rfl (by decide) (by decide) (by decide) rfl rfl rfl (Af (Bu a g (Af (qv 0) (Af Ah Ae))) (Af (Bu a g (Af (qv 0) (Af Ah Ae))) (Af (Dw Ah (Bu a g (Af (qv 0) (Af Ah Ae)))) Ae))) rfl)
  (Ai (Ep (K5 p (Bu a g (Af (qv 0) (Af Ah Ae))) Ah) (Ao (By (i:=5) zF.nd rfl (Or.inl rfl) (Dw Ah (Bu a g (Af (qv 0) (Af Ah Ae)))))) Ci)
  (Ai (A4j (i:=6) (j:=7) rfl zF.nd rfl rfl (by decide) rfl rfl (Af (Ti (Kq:=K) rfl (qv 2) Nt (G4 (qv 3))) (Af (Ti (Kq:=K) rfl (qv 2) (G4 (qv 3)) (G4 (Dw (qv 3) (qv 4)))) Ae)) rfl)
  (Ai (By (i:=8) zF.nd rfl (Or.inl rfl) (Ti (Kq:=K) rfl (qv 2) (G4 (Dw (qv 3) (qv 4))) (G4 (Dw (Dw (qv 3) (qv 4)) (qv 5)))))
  (Ai (By (i:=9) zF.nd rfl (Or.inl rfl) (Bu c g (Af (qv 0) (Af (qv 4) (Af (Bu d g (Af (qv 0) (Af Ah (Af Ah (Af Ah Ae))))) Ae)))))
  (Ai (By (i:=10) zF.nd rfl (Or.inl rfl) (Cm (Kq:=K) rfl (Ec (Af Ah (Af Ah (Af Ah Ae)))) (Bu a g (Af (qv 0) (Af Ah Ae))) G7))
  (Ai (By (i:=11) zF.nd rfl (Or.inl rfl) (Ec Ae))
  (Ai (Sx PassesOwn.never rfl (Fe (Kq:=K) rfl (Bu c g (Af (qv 0) (Af (qv 3) (Af (Bu d g (Af (qv 0) (Af Ah (Af Ah (Af Ah Ae))))) Ae))))) (Bh (i:=12) zF.nd rfl (Or.inl rfl)) (Ai (By (i:=13) zF.nd rfl (Or.inl rfl) (Ec Ae))
  (Ai (Sx PassesOwn.never rfl (Fe (Kq:=K) rfl (qv 9)) (Bh (i:=14) zF.nd rfl (Or.inl rfl)) (Ai (By (i:=15) zF.nd rfl (Or.inl rfl) (Az (Kq:=K) rfl rfl b (Af (by exact(Hm (N':=["_law_name", "_law_numbers", "_law_box_here"]) (idx:=[none,some 1,some 0]) (Eg rfl rfl (by decide +kernel) rfl rfl rfl) rfl (Fe (Kq:=K) rfl (qv 8)) (fun _ _ _ _ _=>by exact(Bh (i:=0) (by show (["_law_name", "_law_numbers", "_law_box_here"]:List Str).Nodup;decide +kernel) rfl (Or.inl rfl))) (fun _ _ _ _ _=>by exact Eb) (fun _ _ _ _ _=>by exact(Nh (G8 (qv 1)) (Bu e g (Af (qv 2) Ae)) (Bu l g (Af (qv 2) Ae)))))) Ae)))
  (Ao (Q3 (K3 (Kq:=K) rfl (qv 13) (Nh (K5 p (Bu a g (Af (qv 0) (Af (qv 10) Ae))) Ah) Jo (qv 15)))))))
  (Ao (Q3 (K3 (Kq:=K) rfl (qv 11) (Ce (Af (qv 12) (Af (Az (Kq:=K) rfl rfl b (Af (qv 13) Ae)) Ae)))))))))
  (Ao (Bc (Ce (Af (Az (Kq:=K) rfl rfl b (Af (qv 6) Ae)) (Af (Az (Kq:=K) rfl rfl b (Af (qv 7) Ae)) (Af (Az (Kq:=K) rfl rfl b (Af (qv 8) Ae)) (Af (Az (Kq:=K) rfl rfl b (Af (qv 9) Ae)) (Af (Az (Kq:=K) rfl rfl b (Af (qv 11) Ae)) Ae))))))))))))))))) ?_
 exact Dl (Aw (Bj (Ax (Aa Ab (Aa (Am rfl) Ag))) Aj)
  (Aw (A9y (Aa (Ax (Aa Ab (Aa (Am rfl) Ag))) (Aa (Ax (Aa Ab (Aa (Am rfl) Ag))) (Aa (Ak (Am rfl) (Ax (Aa Ab (Aa (Am rfl) Ag))) Cu) Ag))))
  (Aw (Fl (Bo (Ak (Ax (Aa Ab (Aa (Am rfl) Ag))) (Am rfl) Fd)) (Bj (Ak (Am rfl) (Ax (Aa Ab (Aa (Am rfl) Ag))) Cu) Aj) Cg)
  (Aw (A5p (Aa (Tu Ab Nv (Hx Ab) Jy) (Aa (Tu Ab (Hx Ab) (Hx (Ak Ab Ab Cu)) Jy) Ag)))
  (Aw (Bj (Tu Ab (Hx (Ak Ab Ab Cu)) (Hx (Ak (Ak Ab Ab Cu) Ab Cu)) Jy) Aj)
  (Aw (Bj (Ax (Aa Ab (Aa Ab (Aa (Ax (Aa Ab (Aa (Am rfl) (Aa (Am rfl) (Aa (Am rfl) Ag))))) Ag)))) Aj)
  (Aw (Bj (Ak (Ed (Aa (Am rfl) (Aa (Am rfl) (Aa (Am rfl) Ag)))) (Ax (Aa Ab (Aa (Am rfl) Ag))) Bp) Aj)
  (Aw (Bj (Ed Ag) Aj)
  (Aw (Rx (Fo (Ax (Aa Ab (Aa Ab (Aa (Ax (Aa Ab (Aa (Am rfl) (Aa (Am rfl) (Aa (Am rfl) Ag))))) Ag))))) Aj (Aw (Bj (Ed Ag) Aj)
  (Aw (Rx (Fo Ab) Aj (Aw (Bj (Bl (Gd (by decide) (Fo Ab) Aj Fg (Vm (Pj Ab) (Ax (Aa Ab Ag)) (Ax (Aa Ab Ag)))) Dv) Aj)
  (Qv (V0 Ab (Vm (Bo (Ak (Ax (Aa Ab (Aa Ab Ag))) (Am rfl) Fd)) (Am rfl) Ab)))))
  (Qv (V0 Ab (Cq (Aa Ab (Aa (Bl Ab Dv) Ag))))))))
  (Bb (Cq (Aa (Bl Ab Dv) (Aa (Bl Ab Dv) (Aa (Bl Ab Dv) (Aa (Bl Ab Dv) (Aa (Bl Ab Dv) Ag)))))))))))))))) h
theorem A1a {n:Nat}{f:Addr}{fd:FuncData}(F:Fun K "_law_same" "_law_same" Qd f fd) (D_l_same:Def P w K mg base "_law_same" (n) ["_law_found", "_law_due"] (spP K (Bt n))) (zW:mg "all" = none) (zU:mg "bool" = none) (zR:mg "int" = none) (z7:mg "isinstance" = none) (zJ:mg "len" = none) (zA:mg "list" = none) (zN:mg "str" = none) (z8:mg "tuple" = none) (yK:mg "zip" = none):FnOk P w K mg base CX0 (n+1) f fd ["_law_found", "_law_due"] (spP K (Bt (n+1))):=by
 refine F.ok A0w (fun vs H Q E h=>Dm h) (fun cdv A outer s H vs Q E hr h=>?_)
 have hu:=hr.units;have hgd:=hr.gd
 refine G3 (Ai (Ep (G8 (Ln (Kq:=K) rfl rfl z7 (Af (qv 1) (Af (Ce (Af (Dp (v:=.ty "list") rfl zA J0 rfl) (Af (Dp (v:=.ty "tuple") rfl z8 Hz rfl) Ae))) Ae)))) (Ai (Ep (QW.qt (A3m (A7s hu (Cj (Kq:=K) rfl rfl z7 (Af (qv 0) (Af (Dp (v:=.ty "list") rfl zA J0 rfl) Ae))) (Cj (Kq:=K) rfl rfl z7 (Af (qv 1) (Af (Dp (v:=.ty "list") rfl zA J0 rfl) Ae)))) (Ap9 (A7s hu (Cj (Kq:=K) rfl rfl z7 (Af (qv 0) (Af (Dp (v:=.ty "tuple") rfl z8 Hz rfl) Ae))) (Cj (Kq:=K) rfl rfl z7 (Af (qv 1) (Af (Dp (v:=.ty "tuple") rfl z8 Hz rfl) Ae))))))) (Ao (Bc Np)) Ci)
  (Ao (Bc (M5 (Vd hu (J9 (Kq:=K) rfl rfl zJ (Af (qv 0) Ae)) (J9 (Kq:=K) rfl rfl zJ (Af (qv 1) Ae))) (Ou (Qp (Kq:=K) rfl rfl rfl zW (Af (by exact(Hm (N':=["_law_one", "_law_other"]) (idx:=[none,none]) (Eg rfl rfl (by decide +kernel) rfl rfl rfl) rfl (Bm4 rfl yK (Af (qv 0) (Af (qv 1) Ae))) (fun _ _ _ _ _=>by exact(Lr (Kq:=K) rfl (n:=2) rfl (Ds (Bh (i:=0) (by show (["_law_one", "_law_other"]:List Str).Nodup;decide +kernel) rfl (Or.inl rfl)) (Ds (Bh (i:=1) (by show (["_law_one", "_law_other"]:List Str).Nodup;decide +kernel) rfl (Or.inl rfl)) Iu)))) (fun _ _ _ _ _=>by exact Eb) (fun _ _ _ _ _=>by exact(Bu D_l_same hr (Af (qv 0) (Af (qv 1) Ae)))))) Ae))))))) Ci)
  (Ai (Ep (QW.qt (A3m (Kh (qv 1) Jo) (Ap9 (G8 (Cj (Kq:=K) rfl rfl z7 (Af (qv 1) (Af (Dp (v:=.ty "str") rfl zN Ur rfl) Ae))))))) (Ao (Bc (M5 (Vd hu (qv 0) (qv 1)) (Ou (Vd hu (Cj (Kq:=K) rfl rfl z7 (Af (qv 0) (Af (Dp (v:=.ty "str") rfl zN Ur rfl) Ae))) (Cj (Kq:=K) rfl rfl z7 (Af (qv 1) (Af (Dp (v:=.ty "str") rfl zN Ur rfl) Ae)))))))) Ci)
  (Ai (Ep (G8 (Cj (Kq:=K) rfl rfl z7 (Af (qv 1) (Af (Dp (v:=.ty "bool") rfl zU Ab4 rfl) Ae)))) (Ao (Bc (M5 (Cj (Kq:=K) rfl rfl z7 (Af (qv 0) (Af (Dp (v:=.ty "bool") rfl zU Ab4 rfl) Ae))) (Ou (Vd hu (qv 0) (qv 1)))))) Ci)
  (Ao (Bc (M5 (Cj (Kq:=K) rfl rfl z7 (Af (qv 0) (Af (Dp (v:=.ty "int") rfl zR Ao4 rfl) Ae))) (M5 (A7k (Cj (Kq:=K) rfl rfl z7 (Af (qv 0) (Af (Dp (v:=.ty "bool") rfl zU Ab4 rfl) Ae)))) (Ou (Vd hu (qv 0) (qv 1)))))))))) ?_
 exact Dl (Aw (Fl (Pj (Ab9 .list .tuple Ab)) (Aw (Fl (A5q (Bo (Ak (Gw .list Ab) (Gw .list Ab) An8)) (Bo (Ak (Gw .tuple Ab) (Gw .tuple Ab) An8))) (Bb (Am rfl)) Cg)
  (Bb (Jx (Ak (J5 Ab) (J5 Ab) Fd) (Bl (Gd (by decide) (Bo6 Ab Ab) (Lp (Dt Aj (Dt Aj Ir))) Fg (Ax (Aa Ab (Aa Ab Ag)))) Aw2)))) Cg)
  (Aw (Fl (A5q (Bo (Ak Ab (Am rfl) Qg)) (Pj (Gw .str Ab))) (Bb (Jx (Ak Ab Ab Fd) (Ak (Gw .str Ab) (Gw .str Ab) Fd))) Cg)
  (Aw (Fl (Pj (Gw .bool Ab)) (Bb (Jx (Gw .bool Ab) (Ak Ab Ab Fd))) Cg)
  (Bb (Jx (Gw .int Ab) (Jx (Aw0 (Gw .bool Ab)) (Ak Ab Ab Fd))))))) h
theorem U4 {f:Addr}{fd:FuncData}(F:Fun K "_law_same" "_law_same" Qd f fd) (bF:Binds K fd ["_law_found", "_law_due"] []) (mF:mg "_law_same" = some (.ref f)) (zW:mg "all" = none) (zU:mg "bool" = none) (zR:mg "int" = none) (z7:mg "isinstance" = none) (zJ:mg "len" = none) (zA:mg "list" = none) (zN:mg "str" = none) (z8:mg "tuple" = none) (yK:mg "zip" = none):∀n:Nat,FnOk P w K mg base CX0 (n) f fd ["_law_found", "_law_due"] (spP K (Bt n))
 | 0=>A8y
 | n+1=>A1a F ⟨f,fd,U4 F bF mF zW zU zR z7 zJ zA zN z8 yK n,bF,F.kp,mF⟩ zW zU zR z7 zJ zA zN z8 yK
theorem An3 {f:Addr}{fd:FuncData}(F:Fun K "_law_ranks" "_law_ranks" S7 f fd) (D_l_rank:Def P w K mg base "_law_rank" 1 ["_law_value_here"] (spP K G9)):FnOk P w K mg base CX0 2 f fd ["_law_values"] (spP K Gi):=by
 refine F.ok Aq8 (fun vs H Q E h=>Dm h) (fun cdv A outer s H vs Q E hr h=>?_)
 have hu:=hr.units;have hgd:=hr.gd
 refine G3 (Ao (Bc (by exact(Hm (N':=["_law_value_here"]) (idx:=[none]) (Eg rfl rfl (by decide +kernel) rfl rfl rfl) rfl (Fe (Kq:=K) rfl (qv 0)) (fun _ _ _ _ _=>by exact(Bh (i:=0) (by show (["_law_value_here"]:List Str).Nodup;decide +kernel) rfl (Or.inl rfl))) (fun _ _ _ _ _=>by exact Eb) (fun _ _ _ _ _=>by exact(Bu D_l_rank hr (Af (qv 0) Ae))))))) ?_
 exact Dl (Bb (Gd (by decide) (Fo Ab) Aj Fg (Ax (Aa Ab Ag)))) h
theorem Ah6 {f:Addr}{fd:FuncData}(F:Fun K "_law_places" "_law_places" Pb f fd) (D_l_ranks:Def P w K mg base "_law_ranks" 2 ["_law_values"] (spP K Gi)) (zP:mg "enumerate" = none) (z7:mg "isinstance" = none) (zJ:mg "len" = none) (zA:mg "list" = none) (zM:mg "range" = none) (zZ:mg "sorted" = none) (z8:mg "tuple" = none):FnOk P w K mg base CX0 3 f fd ["_law_some", "_law_order"] (spP K Cd):=by
 refine F.ok yH (fun vs H Q E h=>Dm h) (fun cdv A outer s H vs Q E hr h=>?_)
 have hu:=hr.units;have hgd:=hr.gd
 refine G3 (Ai (Ep (QW.qt (Z1 (G8 (Cj (Kq:=K) rfl rfl z7 (Af (qv 1) (Af (Dp (v:=.ty "tuple") rfl z8 Hz rfl) Ae)))) (Z1 (K5 hu (J9 (Kq:=K) rfl rfl zJ (Af (qv 1) Ae)) Ah) (Z1 (K5 hu (Cm (Kq:=K) rfl (qv 1) Ah Bq) Bs) (Ay7 (G8 (Ln (Kq:=K) rfl rfl z7 (Af (Cm (Kq:=K) rfl (qv 1) Ah Bq) (Af (Ce (Af (Dp (v:=.ty "list") rfl zA J0 rfl) (Af (Dp (v:=.ty "tuple") rfl z8 Hz rfl) Ae))) Ae))))))))) (Ai (By (i:=2) yH.nd rfl (Or.inr rfl) (by exact(Hm (N':=["_law_k", "_law_one", "_law_some", "_law_order"]) (idx:=[none,none,some 0,some 1]) (Eg rfl rfl (by decide +kernel) rfl rfl rfl) rfl (Zg rfl zP (Af (Cm (Kq:=K) rfl (qv 1) Ah Bq) Ae)) (fun _ _ _ _ _=>by exact(Lr (Kq:=K) rfl (n:=2) rfl (Ds (Bh (i:=0) (by show (["_law_k", "_law_one", "_law_some", "_law_order"]:List Str).Nodup;decide +kernel) rfl (Or.inl rfl)) (Ds (Bh (i:=1) (by show (["_law_k", "_law_one", "_law_some", "_law_order"]:List Str).Nodup;decide +kernel) rfl (Or.inl rfl)) Iu)))) (fun _ _ _ _ _=>by exact(Uc (QW.qt (Z1 (Bi4 hu (qv 1) (qv 2) (by with_unfolding_all rfl)) (Ay7 (Gr hu (qv 1) (Ti (Kq:=K) rfl (Cm (Kq:=K) rfl (qv 3) Ah Bq) Nt (G4 (qv 0))) (by with_unfolding_all rfl))))))) (fun _ _ _ _ _=>by exact(qv 1)))))
  (Ao (Bc (Dw (by exact(Hm (N':=["_law_one", "_law_some"]) (idx:=[none,some 0]) (Eg rfl rfl (by decide +kernel) rfl rfl rfl) rfl (Fe (Kq:=K) rfl (qv 2)) (fun _ _ _ _ _=>by exact(Bh (i:=0) (by show (["_law_one", "_law_some"]:List Str).Nodup;decide +kernel) rfl (Or.inl rfl))) (fun _ _ _ _ _=>by exact Eb) (fun _ _ _ _ _=>by exact(A6q (Kq:=K) rfl hu (qv 1) (Af (qv 0) Ae))))) (by exact(Hm (N':=["_law_k", "_law_one", "_law_told_here"]) (idx:=[none,none,some 2]) (Eg rfl rfl (by decide +kernel) rfl rfl rfl) rfl (Zg rfl zP (Af (qv 0) Ae)) (fun _ _ _ _ _=>by exact(Lr (Kq:=K) rfl (n:=2) rfl (Ds (Bh (i:=0) (by show (["_law_k", "_law_one", "_law_told_here"]:List Str).Nodup;decide +kernel) rfl (Or.inl rfl)) (Ds (Bh (i:=1) (by show (["_law_k", "_law_one", "_law_told_here"]:List Str).Nodup;decide +kernel) rfl (Or.inl rfl)) Iu)))) (fun _ _ _ _ _=>by exact(Uc (Gr hu (qv 1) (qv 2) (by with_unfolding_all rfl)))) (fun _ _ _ _ _=>by exact(qv 0)))))))) Ci)
  (Ai (Ep (Gr hu (qv 1) (Ce (Af Bs (Af Bs (Af Bs Ae)))) (by with_unfolding_all rfl)) (Ao (Bc Jo)) Ci)
  (Ai (Ep (K5 hu (qv 1) Bs) (Ao (Bc (Ao0 rfl rfl zA rfl zM (J9 (Kq:=K) rfl rfl zJ (Af (qv 0) Ae))))) Ci)
  (Ai (by exact(M4 (i:=3) yH.nd rfl (Or.inl rfl) (N':=["_law_grade", "_law_k"]) (idx:=[none,none]) (Eg rfl rfl (by decide +kernel) rfl rfl rfl) rfl (Fe (Kq:=K) rfl (A4u (Kq:=K) rfl hr.un80 rfl zZ (Af (by exact(Hm (N':=["_law_k", "_law_one"]) (idx:=[none,none]) (Eg rfl rfl (by decide +kernel) rfl rfl rfl) rfl (Zg rfl zP (Af (qv 0) Ae)) (fun _ _ _ _ _=>by exact(Lr (Kq:=K) rfl (n:=2) rfl (Ds (Bh (i:=0) (by show (["_law_k", "_law_one"]:List Str).Nodup;decide +kernel) rfl (Or.inl rfl)) (Ds (Bh (i:=1) (by show (["_law_k", "_law_one"]:List Str).Nodup;decide +kernel) rfl (Or.inl rfl)) Iu)))) (fun _ _ _ _ _=>by exact Eb) (fun _ _ _ _ _=>by exact(Ce (Af (Bu D_l_ranks hr (Af (qv 1) Ae)) (Af (qv 0) Ae)))))) Ae))) (fun _ _ _ _ _=>by exact(Lr (Kq:=K) rfl (n:=2) rfl (Ds (Bh (i:=0) (by show (["_law_grade", "_law_k"]:List Str).Nodup;decide +kernel) rfl (Or.inl rfl)) (Ds (Bh (i:=1) (by show (["_law_grade", "_law_k"]:List Str).Nodup;decide +kernel) rfl (Or.inl rfl)) Iu)))) (fun _ _ _ _ _=>by exact Eb) (fun _ _ _ _ _=>by exact(qv 1))))
  (Ao (Bc (Nh (K5 hu (qv 1) Bs) (qv 3) (Ax1 (Kq:=K) rfl (qv 3) (G4 (A5d Ah)))))))))) ?_
 exact Dl (Aw (Fl (Zu (Pj (Gw .tuple Ab)) (Zu (Bo (Ak (J5 Ab) (Am rfl) Fd)) (Zu (Bo (Ak (Ak Ab (Am rfl) Bp) (Am rfl) Fd)) (Pj (Ab9 .list .tuple (Ak Ab (Am rfl) Bp)))))) (Aw (Bj (Gd (by decide) (Ab5 (Ak Ab (Am rfl) Bp)) (Lp (Dt Aj (Dt Aj Ir))) (Zu (Bo (Ak Ab Ab A3j)) (Bo (Ak Ab (Tu (Ak Ab (Am rfl) Bp) Nv (Hx Ab) Jy) Jd))) Ab) Aj)
  (Bb (Ak (Gd (by decide) (Fo Ab) Aj Fg (A3u Ab Ab)) (Gd (by decide) (Ab5 Ab) (Lp (Dt Aj (Dt Aj Ir))) (Bo (Ak Ab Ab Jd)) Ab) Cu))) Cg)
  (Aw (Fl (Bo (Ak Ab (Cq (Aa (Am rfl) (Aa (Am rfl) (Aa (Am rfl) Ag)))) Jd)) (Bb (Am rfl)) Cg)
  (Aw (Fl (Bo (Ak Ab (Am rfl) Fd)) (Bb (Xv (r:=fun x H Q=>Be4 [x] H fun y H=>Ax0 [y] H Q) (J5 Ab) A3h)) Cg)
  (Aw (Bj (Gd (by decide) (Fo (Bl (Gd (by decide) (Ab5 Ab) (Lp (Dt Aj (Dt Aj Ir))) Fg (Cq (Aa (Ax (Aa Ab Ag)) (Aa Ab Ag)))) A1m)) (Lp (Dt Aj (Dt Aj Ir))) Fg Ab) Aj)
  (Bb (Vm (Bo (Ak Ab (Am rfl) Fd)) Ab (Ay8 Ab fun _ _ _ h=>⟨1,rfl,-1,rfl,h⟩))))))) h
theorem V3 {f:Addr}{fd:FuncData}(F:Fun K "_law_heads_due" "_law_heads_due" J8 f fd) (z8:mg "tuple" = none):FnOk P w K mg base CX0 1 f fd ["_law_wide_here", "_law_places_here"] (spP K Fj):=by
 refine F.ok yI (fun vs H Q E h=>Dm h) (fun cdv A outer s H vs Q E hr h=>?_)
 have hu:=hr.units;have hgd:=hr.gd
 refine G3 (Ai (By (i:=2) yI.nd rfl (Or.inl rfl) (Az (Kq:=K) rfl rfl z8 (Af (by exact(Hm (N':=["_law_part", "_law_cells", "_law_places_here"]) (idx:=[none,none,some 1]) (Eg rfl rfl (by decide +kernel) rfl rfl rfl) rfl (Fe (Kq:=K) rfl (Cm (Kq:=K) rfl (qv 0) Ah Bq)) (fun _ _ _ _ _=>by exact(Lr (Kq:=K) rfl (n:=2) rfl (Ds (Bh (i:=0) (by show (["_law_part", "_law_cells", "_law_places_here"]:List Str).Nodup;decide +kernel) rfl (Or.inl rfl)) (Ds (Bh (i:=1) (by show (["_law_part", "_law_cells", "_law_places_here"]:List Str).Nodup;decide +kernel) rfl (Or.inr rfl)) Iu)))) (fun _ _ _ _ _=>by exact Eb) (fun _ _ _ _ _=>by exact(Ce (Af (qv 0) (Af (Az (Kq:=K) rfl rfl z8 (Af (by exact(Hm (N':=["_law_place", "_law_cells"]) (idx:=[none,some 1]) (Eg rfl rfl (by decide +kernel) rfl rfl rfl) rfl (Fe (Kq:=K) rfl (qv 2)) (fun _ _ _ _ _=>by exact(Bh (i:=0) (by show (["_law_place", "_law_cells"]:List Str).Nodup;decide +kernel) rfl (Or.inl rfl))) (fun _ _ _ _ _=>by exact Eb) (fun _ _ _ _ _=>by exact(Cm (Kq:=K) rfl (qv 1) (qv 0) Hw)))) Ae)) Ae)))))) Ae)))
  (Ao (Bc (Dw (Ti (Kq:=K) rfl (qv 0) Nt (G4 Ah)) (Ce (Af (Az (Kq:=K) rfl rfl z8 (Af (by exact(Hm (N':=["_law_place", "_law_wide_here"]) (idx:=[none,some 0]) (Eg rfl rfl (by decide +kernel) rfl rfl rfl) rfl (Fe (Kq:=K) rfl (qv 1)) (fun _ _ _ _ _=>by exact(Bh (i:=0) (by show (["_law_place", "_law_wide_here"]:List Str).Nodup;decide +kernel) rfl (Or.inl rfl))) (fun _ _ _ _ _=>by exact Eb) (fun _ _ _ _ _=>by exact(Cm (Kq:=K) rfl (Cm (Kq:=K) rfl (qv 1) Ah Bq) (qv 0) Hw)))) Ae)) (Af (qv 2) Ae))))))) ?_
 exact Dl (Aw (Bj (Bl (Gd (by decide) (Fo (Ak Ab (Am rfl) Bp)) (Lp (Dt Aj (Dt Aj Ir))) Fg (Cq (Aa Ab (Aa (Bl (Gd (by decide) (Fo Ab) Aj Fg (Ak Ab Ab Bp)) Dv) Ag)))) Dv) Aj)
  (Bb (Ak (Tu Ab Nv (Hx (Am rfl)) Jy) (Cq (Aa (Bl (Gd (by decide) (Fo Ab) Aj Fg (Ak (Ak Ab (Am rfl) Bp) Ab Bp)) Dv) (Aa Ab Ag))) Cu))) h
theorem As3 {f:Addr}{b:FuncData}(F:Fun K "_law_parts" "_law_parts" S6 f b):FnOk P w K mg base CX0 1 f b ["_law_wide_here"] (spP K Jk):=by
 refine F.ok An9 (fun d H Q E h=>Dm h) (fun g A a s H d Q E c h=>?_)
 have j:=c.units;have e:=c.gd
 refine G3 (Ao (Bc (by exact(Hm (N':=["_law_part", "_law_cells"]) (idx:=[none,none]) (Eg rfl rfl (by decide +kernel) rfl rfl rfl) rfl (Fe (Kq:=K) rfl (Cm (Kq:=K) rfl (qv 0) Ah Bq)) (fun _ _ _ _ _=>by exact(Lr (Kq:=K) rfl (n:=2) rfl (Ds (Bh (i:=0) (by show (["_law_part", "_law_cells"]:List Str).Nodup;decide +kernel) rfl (Or.inl rfl)) (Ds (Bh (i:=1) (by show (["_law_part", "_law_cells"]:List Str).Nodup;decide +kernel) rfl (Or.inl rfl)) Iu)))) (fun _ _ _ _ _=>by exact Eb) (fun _ _ _ _ _=>by exact(qv 0)))))) ?_
 exact Dl (Bb (Gd (by decide) (Fo (Ak Ab (Am rfl) Bp)) (Lp (Dt Aj (Dt Aj Ir))) Fg Ab)) h
theorem Ao6 {f:Addr}{fd:FuncData}(F:Fun K "_law_class" "_law_class" Sq f fd) (yC:mg "ValueError" = none) (z7:mg "isinstance" = none) (k_BadColumns:ClT K mg [("BadOrder",false)] "BadColumns") (k_BadOrder:ClT K mg [("BadOrder",true)] "BadOrder") (k_BadRow:ClT K mg [("BadOrder",false)] "BadRow") (k_BadWay:ClT K mg [("BadOrder",false)] "BadWay") (k_Double:ClT K mg [("BadOrder",false)] "Double") (k_NoColumn:ClT K mg [("BadOrder",false)] "NoColumn") (k_NoHead:ClT K mg [("BadOrder",false)] "NoHead") (k_NoNumber:ClT K mg [("BadOrder",false)] "NoNumber") (k_NoPart:ClT K mg [("BadOrder",false)] "NoPart") (k_NoRow:ClT K mg [("BadOrder",false)] "NoRow") (k_ValueError:TbOk K (.type "ValueError") [("BadOrder",true)]):FnM P w K mg base 1 f fd ["_law_error"] (spP K Js):=by
 obtain⟨gt_BadColumns,mt_BadColumns,tb_BadColumns⟩:=k_BadColumns;obtain⟨gt_BadOrder,mt_BadOrder,tb_BadOrder⟩:=k_BadOrder;obtain⟨gt_BadRow,mt_BadRow,tb_BadRow⟩:=k_BadRow;obtain⟨gt_BadWay,mt_BadWay,tb_BadWay⟩:=k_BadWay;obtain⟨gt_Double,mt_Double,tb_Double⟩:=k_Double;obtain⟨gt_NoColumn,mt_NoColumn,tb_NoColumn⟩:=k_NoColumn;obtain⟨gt_NoHead,mt_NoHead,tb_NoHead⟩:=k_NoHead;obtain⟨gt_NoNumber,mt_NoNumber,tb_NoNumber⟩:=k_NoNumber;obtain⟨gt_NoPart,mt_NoPart,tb_NoPart⟩:=k_NoPart;obtain⟨gt_NoRow,mt_NoRow,tb_NoRow⟩:=k_NoRow;have tb_ValueError:=k_ValueError
 refine F.okM zV (fun vs H Q E h=>Dm h) (fun cdv A outer s H vs Q E hr h=>?_)
 have hu:=hr.units;have hgd:=hr.gd
 refine G3 (Ai (By (i:=1) zV.nd rfl (Or.inl rfl) (Ec (Af (Lq (Kq:=K) rfl rfl z7 (Af (qv 0) (Af (J6 rfl mt_BadColumns) Ae))) (Af (Lq (Kq:=K) rfl rfl z7 (Af (qv 0) (Af (J6 rfl mt_BadOrder) Ae))) (Af (Lq (Kq:=K) rfl rfl z7 (Af (qv 0) (Af (J6 rfl mt_BadWay) Ae))) Ae)))))
  (Ai (By (i:=1) zV.nd rfl (Or.inl rfl) (Dw (qv 1) (Ec (Af (Lq (Kq:=K) rfl rfl z7 (Af (qv 0) (Af (J6 rfl mt_NoNumber) Ae))) (Af (Lq (Kq:=K) rfl rfl z7 (Af (qv 0) (Af (J6 rfl mt_NoHead) Ae))) (Af (Lq (Kq:=K) rfl rfl z7 (Af (qv 0) (Af (J6 rfl mt_NoColumn) Ae))) Ae))))))
  (Ai (By (i:=2) zV.nd rfl (Or.inl rfl) (B1j (A3l (Kq:=K) rfl rfl z7 (Af (qv 0) (Af (Ce (Af (J6 rfl mt_NoPart) (Af (J6 rfl mt_NoRow) (Af (J6 rfl mt_Double) (Af (J6 rfl mt_BadRow) Ae))))) Ae))) (Ou (A7k (Lq (Kq:=K) rfl rfl z7 (Af (qv 0) (Af (Dp (v:=.ty "ValueError") rfl yC Ww rfl) Ae)))))))
  (Ai (Ep (QW.qt (A3m (G8 (qv 2)) (Ap9 (A7s hu (Ay5 (Kq:=K) rfl PySem.F.plainAttrs_list PySem.F.slot_list_count PySem.F.type_list_count (A2g rfl hu) (qv 1) (Af Np Ae)) Ah)))) (Ao (Bc Bs)) Ci)
  (Ao (Bc (Cm (Kq:=K) rfl (Ec (Rb (vs:=[.str "BadColumns",.str "BadOrder",.str "BadWay",.str "NoNumber",.str "NoHead",.str "NoColumn"]) rfl)) (Ay5 (Kq:=K) rfl PySem.F.plainAttrs_list PySem.F.slot_list_index PySem.F.type_list_index (A1l rfl hu) (qv 1) (Af Np Ae)) G7))))))) ?_
 exact Dl (Aw (Bj (Ed (Aa (Li rfl tb_BadColumns Ab) (Aa (Li rfl tb_BadOrder Ab) (Aa (Li rfl tb_BadWay Ab) Ag)))) Aj)
  (Aw (Bj (Ak Ab (Ed (Aa (Li rfl tb_NoNumber Ab) (Aa (Li rfl tb_NoHead Ab) (Aa (Li rfl tb_NoColumn Ab) Ag)))) Cu) Aj)
  (Aw (Bj (Bn9 (A8l (show Ah4 K _ [("BadOrder",false)] from (Vn tb_NoPart (Vn tb_NoRow (Vn tb_Double (Bg2 tb_BadRow) rfl) rfl) rfl)) Ab) (Aw0 (Li rfl tb_ValueError Ab))) Aj)
  (Aw (Fl (A5q (Pj Ab) (Bo (Ak (A4r Ab (Am rfl) As4 Ap2) (Am rfl) An8))) (Bb (Am rfl)) Cg)
  (Bb (Ak (Ed (Bl3 rfl)) (A4r Ab (Am rfl) As4 Ak8) Bp)))))) h
theorem A2f {f:Addr}{fd:FuncData}(F:Fun K "_law_told" "_law_told" Uz f fd) (D_heads_in:DefX P w K mg base "heads_in" 7 ["wide", "order"] (spX K Dk)) (D_parts_in:DefX P w K mg base "parts_in" 7 ["wide", "order"] (spX K Dj)) (D_l_class:Bl8 P w K mg base "_law_class" 1 ["_law_error"] (spP K Js)) (h_FoldError:ClF K mg ["BadOrder"] "FoldError"):FnOk P w K mg base CX0 8 f fd ["_law_wide_here", "_law_order", "_law_heads"] (spP K Ea):=by
 obtain⟨gf_FoldError,mf_FoldError,xf_FoldError⟩:=h_FoldError
 refine F.ok yF (fun vs H Q E h=>Dm h) (fun cdv A outer s H vs Q E hr h=>?_)
 have hu:=hr.units;have hgd:=hr.gd
 refine G3 (Ai (By (i:=3) yF.nd rfl (Or.inl rfl) Jo)
  (Ai (A8g (Kq:=K) rfl (i:=3) (j:=4) hr (fun _ _ z=>z) (G8 (qv 2)) D_heads_in (Af (qv 0) (Af (qv 1) Ae)) D_parts_in (Af (qv 0) (Af (qv 1) Ae)) rfl ⟨rfl,rfl⟩ yF.nd rfl (Or.inl rfl) rfl rfl rfl mf_FoldError (fun _=>by exact(Ao (By (i:=3) yF.nd rfl (Or.inl rfl) (Bz8 D_l_class hr.again (Af (qv 4) Ae))))))
  (Ao (Bc (qv 3))))) ?_
 exact Dl (Aw (Bj (Am rfl) Aj)
  (Aw (Fl (Pj Ab) (Ay4 xf_FoldError (Aa Ab (Aa Ab Ag)) (Bj (Ax (Aa Ab Ag)) Aj)) (Ay4 xf_FoldError (Aa Ab (Aa Ab Ag)) (Bj (Ax (Aa Ab Ag)) Aj)))
  (Bb Ab))) h
theorem A6h {f:Addr}{fd:FuncData}(F:Fun K "_law_odd" "_law_odd" Zj f fd) (D_l_take:Def P w K mg base "_law_take" 1 ["_law_box_here", "_law_many_here"] (spP K Av)) (zJ:mg "len" = none) (zA:mg "list" = none) (z8:mg "tuple" = none):FnOk P w K mg base CX0 2 f fd ["_law_box_here", "_law_some"] (spP K Ie):=by
 refine F.ok zY (fun vs H Q E h=>Dm h) (fun cdv A outer s H vs Q E hr h=>?_)
 have hu:=hr.units;have hgd:=hr.gd
 refine G3 (Ai (By (i:=2) zY.nd rfl (Or.inl rfl) (Ec (Af Bs (Af Bs (Af Bs (Af Bs (Af Bs (Af Bs (Af Bs (Af Bs (Af Jo (Af Ah (Af Ah (Af Np (Af (Ce Ae) (Af (Ec Ae) Ae))))))))))))))))
  (Ai (By (i:=2) zY.nd rfl (Or.inl rfl) (Dw (qv 2) (Ec (Af (Ce (Af Bs Ae)) (Af (Ce (Af Bs (Af (Ef (Kq:=K) rfl rfl zA (Af (qv 1) Ae)) (Af (Ef (Kq:=K) rfl rfl zA (Af (qv 1) Ae)) Ae)))) (Af (Ce (Af Bs (Af (Ec Ae) Ae))) (Af (Ce (Af Bs Ae)) (Af (Ec (Af Bs (Af (Ef (Kq:=K) rfl rfl zA (Af (qv 1) Ae)) Ae))) Ae))))))))
  (Ai (Q3 (K3 (Kq:=K) rfl (qv 2) (Ce (Af Bs (Af Jo Ae)))))
  (Ai (By (i:=2) zY.nd rfl (Or.inl rfl) (Dw (qv 2) (Ec (Af (Ce (Af Bs (Af Bs Ae))) (Af (Ce (Af Bs (Af Ah Ae))) (Af (Ce (Af Bs (Af (Ef (Kq:=K) rfl rfl zA (Af (qv 1) Ae)) Ae))) (Af (Ec Ae) (Af (Ec (Af Bs Ae)) (Af (Ce (Af Bs (Af (Ec Ae) Ae))) (Af (Ce (Af Bs (Af (Ce Ae) Ae))) Ae))))))))))
  (Ai (By (i:=2) zY.nd rfl (Or.inl rfl) (Dw (qv 2) (Ec (Af (Ce (Af Bs (Af (Ax1 (Kq:=K) rfl (Ef (Kq:=K) rfl rfl zA (Af (qv 1) Ae)) (G4 (A5d Ah))) Ae))) (Af (Ce (Af Bs (Af (Az (Kq:=K) rfl rfl z8 (Af (qv 1) Ae)) Ae))) Ae)))))
  (Ao (Bc (Cm (Kq:=K) rfl (qv 2) (Bu D_l_take hr (Af (qv 0) (Af (J9 (Kq:=K) rfl rfl zJ (Af (qv 2) Ae)) Ae))) G7)))))))) ?_
 exact Dl (Aw (Bj (Ed (Aa (Am rfl) (Aa (Am rfl) (Aa (Am rfl) (Aa (Am rfl) (Aa (Am rfl) (Aa (Am rfl) (Aa (Am rfl) (Aa (Am rfl) (Aa (Am rfl) (Aa (Am rfl) (Aa (Am rfl) (Aa (Am rfl) (Aa (Cq Ag) (Aa (Ed Ag) Ag))))))))))))))) Aj)
  (Aw (Bj (Ak Ab (Ed (Aa (Cq (Aa (Am rfl) Ag)) (Aa (Cq (Aa (Am rfl) (Aa (Bl Ab Jm) (Aa (Bl Ab Jm) Ag)))) (Aa (Cq (Aa (Am rfl) (Aa (Ed Ag) Ag))) (Aa (Cq (Aa (Am rfl) Ag)) (Aa (Ed (Aa (Am rfl) (Aa (Bl Ab Jm) Ag))) Ag)))))) Cu) Aj)
  (Aw (Qv (V0 Ab (Cq (Aa (Am rfl) (Aa (Am rfl) Ag)))))
  (Aw (Bj (Ak Ab (Ed (Aa (Cq (Aa (Am rfl) (Aa (Am rfl) Ag))) (Aa (Cq (Aa (Am rfl) (Aa (Am rfl) Ag))) (Aa (Cq (Aa (Am rfl) (Aa (Bl Ab Jm) Ag))) (Aa (Ed Ag) (Aa (Ed (Aa (Am rfl) Ag)) (Aa (Cq (Aa (Am rfl) (Aa (Ed Ag) Ag))) (Aa (Cq (Aa (Am rfl) (Aa (Cq Ag) Ag))) Ag)))))))) Cu) Aj)
  (Aw (Bj (Ak Ab (Ed (Aa (Cq (Aa (Am rfl) (Aa (Ay8 (Bl Ab Jm) fun _ _ _ h=>⟨1,rfl,-1,rfl,h⟩) Ag))) (Aa (Cq (Aa (Am rfl) (Aa (Bl Ab Dv) Ag))) Ag))) Cu) Aj)
  (Bb (Ak Ab (Ax (Aa Ab (Aa (J5 Ab) Ag))) Bp))))))) h
theorem Ak7 {f:Addr}{fd:FuncData}(F:Fun K "_law_right" "_law_right" Rj f fd) (D_heads_in:DefX P w K mg base "heads_in" 7 ["wide", "order"] (spX K Dk)) (D_parts_in:DefX P w K mg base "parts_in" 7 ["wide", "order"] (spX K Dj)) (D_l_wide:Def P w K mg base "_law_wide" 5 ["_law_box_here", "_law_numbers"] (spP K N6)) (D_l_same:Def P w K mg base "_law_same" 8 ["_law_found", "_law_due"] (spP K (Bt 8))) (D_l_places:Def P w K mg base "_law_places" 3 ["_law_some", "_law_order"] (spP K Cd)) (D_l_heads_due:Def P w K mg base "_law_heads_due" 1 ["_law_wide_here", "_law_places_here"] (spP K Fj)) (D_l_parts:Def P w K mg base "_law_parts" 1 ["_law_wide_here"] (spP K Jk)) (D_l_told:Def P w K mg base "_law_told" 8 ["_law_wide_here", "_law_order", "_law_heads"] (spP K Ea)) (D_l_odd:Def P w K mg base "_law_odd" 2 ["_law_box_here", "_law_some"] (spP K Ie)) (zW:mg "all" = none) (zA:mg "list" = none) (zM:mg "range" = none) (z8:mg "tuple" = none):FnOk P w K mg base CX0 9 f fd ["_law_box_here"] (spP K Ly):=by
 refine F.ok zG (fun vs H Q E h=>Dm h) (fun cdv A outer s H vs Q E hr h=>?_)
 have hu:=hr.units;have hgd:=hr.gd
 refine G3 (Ai (By (i:=1) zG.nd rfl (Or.inr rfl) (Bu D_l_wide hr (Af (qv 0) (Af Np Ae))))
  (Ai (A4j (i:=2) (j:=3) rfl zG.nd rfl rfl (by decide) rfl rfl (Af (Bu D_l_parts hr (Af (qv 1) Ae)) (Af (Ef (Kq:=K) rfl rfl zA (Af (Cm (Kq:=K) rfl (qv 1) Ah Bq) Ae)) Ae)) rfl)
  (Ai (Sx PassesOwn.never rfl (Ja rfl zM (Af Ah Ae)) (Bh (i:=4) zG.nd rfl (Or.inl rfl)) (Ai (By (i:=5) zG.nd rfl (Or.inl rfl) (Bu D_l_odd hr (Af (qv 0) (Af (qv 3) Ae))))
  (Ai (By (i:=6) zG.nd rfl (Or.inl rfl) (Bu D_l_places hr (Af (qv 3) (Af (qv 5) Ae))))
  (Ai (By (i:=7) zG.nd rfl (Or.inl rfl) (Nh (Kh (qv 6) Jo) Bs (Bu D_l_heads_due hr (Af (qv 1) (Af (qv 6) Ae)))))
  (Ai (Ep (An2 (G8 (Bu D_l_same hr (Af (Bu D_l_told hr (Af (qv 1) (Af (qv 5) (Af Np Ae)))) (Af (qv 7) Ae))))) (Ao (Bc Np)) Ci)
  (Ai (By (i:=5) zG.nd rfl (Or.inl rfl) (Bu D_l_odd hr (Af (qv 0) (Af (qv 2) Ae))))
  (Ai (By (i:=6) zG.nd rfl (Or.inl rfl) (Bu D_l_places hr (Af (qv 2) (Af (qv 5) Ae))))
  (Ai (By (i:=7) zG.nd rfl (Or.inl rfl) (Nh (Kh (qv 6) Jo) Bs (Dw (Ti (Kq:=K) rfl (qv 1) Nt (G4 Ah)) (Ce (Af (Az (Kq:=K) rfl rfl z8 (Af (by exact(Hm (N':=["_law_place", "_law_wide_here"]) (idx:=[none,some 1]) (Eg rfl rfl (by decide +kernel) rfl rfl rfl) rfl (Fe (Kq:=K) rfl (qv 6)) (fun _ _ _ _ _=>by exact(Bh (i:=0) (by show (["_law_place", "_law_wide_here"]:List Str).Nodup;decide +kernel) rfl (Or.inl rfl))) (fun _ _ _ _ _=>by exact Eb) (fun _ _ _ _ _=>by exact(Cm (Kq:=K) rfl (Cm (Kq:=K) rfl (qv 1) Ah Bq) (qv 0) Hw)))) Ae)) Ae)))))
  (Ao (Ep (An2 (G8 (Bu D_l_same hr (Af (Bu D_l_told hr (Af (qv 1) (Af (qv 5) (Af Np Ae)))) (Af (qv 7) Ae))))) (Ao (Bc Np)) Ci))))))))))
  (Ai (By (i:=8) zG.nd rfl (Or.inl rfl) (Ec (Af (At9 D_heads_in hr (Af (qv 1) (Af Bs Ae))) (Af (At9 D_heads_in hr (Af (qv 1) (Af (Ce (Af Bs (Af (Ec Ae) Ae))) Ae))) (Af (At9 D_parts_in hr (Af (qv 1) (Af Bs Ae))) (Af (At9 D_parts_in hr (Af (qv 1) (Af (Ce (Af Bs (Af (Ce Ae) Ae))) Ae))) Ae))))))
  (Ao (Bc (Qp (Kq:=K) rfl rfl rfl zW (Af (by exact(Hm (N':=["_law_one", "_law_wide_here"]) (idx:=[none,some 1]) (Eg rfl rfl (by decide +kernel) rfl rfl rfl) rfl (Fe (Kq:=K) rfl (qv 8)) (fun _ _ _ _ _=>by exact(Bh (i:=0) (by show (["_law_one", "_law_wide_here"]:List Str).Nodup;decide +kernel) rfl (Or.inl rfl))) (fun _ _ _ _ _=>by exact Eb) (fun _ _ _ _ _=>by exact(Bu D_l_same hr (Af (qv 0) (Af (qv 1) Ae)))))) Ae)))))))) ?_
 exact Dl (Aw (Bj (Ax (Aa Ab (Aa (Am rfl) Ag))) Aj)
  (Aw (A5p (Aa (Ax (Aa Ab Ag)) (Aa (Bl (Ak Ab (Am rfl) Bp) Jm) Ag)))
  (Aw (Rx (N7 (Am rfl)) Aj (Aw (Bj (Ax (Aa Ab (Aa (Mf Ab) Ag))) Aj)
  (Aw (Bj (Ax (Aa (Mf Ab) (Aa Ab Ag))) Aj)
  (Aw (Bj (Vm (Bo (Ak (Mf Ab) (Am rfl) Qg)) (Am rfl) (Ax (Aa Ab (Aa (Mf Ab) Ag)))) Aj)
  (Aw (Fl (As0 (Pj (Ax (Aa (Ax (Aa Ab (Aa Ab (Aa (Am rfl) Ag)))) (Aa Ab Ag))))) (Bb (Am rfl)) Cg)
  (Aw (Bj (Ax (Aa Ab (Aa (Mf Ab) Ag))) Aj)
  (Aw (Bj (Ax (Aa (Mf Ab) (Aa Ab Ag))) Aj)
  (Aw (Bj (Vm (Bo (Ak (Mf Ab) (Am rfl) Qg)) (Am rfl) (Ak (Tu Ab Nv (Hx (Am rfl)) Jy) (Cq (Aa (Bl (Gd (by decide) (Fo (Mf Ab)) Aj Fg (Ak (Ak Ab (Am rfl) Bp) Ab Bp)) Dv) Ag)) Cu)) Aj)
  (Fl (As0 (Pj (Ax (Aa (Ax (Aa Ab (Aa Ab (Aa (Am rfl) Ag)))) (Aa Ab Ag))))) (Bb (Am rfl)) Cg)))))))))
  (Aw (Bj (Ed (Aa (Qx (Aa Ab (Aa (Am rfl) Ag))) (Aa (Qx (Aa Ab (Aa (Cq (Aa (Am rfl) (Aa (Ed Ag) Ag))) Ag))) (Aa (Qx (Aa Ab (Aa (Am rfl) Ag))) (Aa (Qx (Aa Ab (Aa (Cq (Aa (Am rfl) (Aa (Cq Ag) Ag))) Ag))) Ag))))) Aj)
  (Bb (Bl (Gd (by decide) (Fo Ab) Aj Fg (Ax (Aa Ab (Aa Ab Ag)))) Aw2)))))) h
theorem Br2 {f:Addr}{l:FuncData}(F:Fun K "law" "law" A3k f l) (b:Def P w K mg base "_law_box" 2 ["_law_script", "_law_k"] (spP K Ms)) (a:Def P w K mg base "_law_right" 9 ["_law_box_here"] (spP K Ly)) (g:mg "len" = none) (d:mg "max" = none) (e:mg "min" = none) (c:mg "range" = none):FnOk P w K mg base CX0 10 f l ["_law_script"] (spP K Ap5):=by
 refine F.ok yQ (fun o H Q E h=>Dm h) (fun m A k s H o Q E j h=>?_)
 have p:=j.units;have n:=j.gd
 refine G3 (Ai (Sx PassesOwn.never rfl (Ja rfl c (Af (Aa9 (Kq:=K) rfl rfl rfl d (Af Ah (Af (Ze (Kq:=K) rfl rfl rfl e (Af (J9 (Kq:=K) rfl rfl g (Af (qv 0) Ae)) (Af Ah Ae))) Ae))) Ae)) (Bh (i:=1) yQ.nd rfl (Or.inl rfl)) (Ao (Ep (An2 (G8 (Bu a j (Af (Bu b j (Af (qv 0) (Af (qv 1) Ae))) Ae)))) (Ao (Bc Np)) Ci)))
  (Ao (Bc Np))) ?_
 exact Dl (Aw (Rx (N7 (Bg3 (Am rfl) (Be7 (J5 Ab) (Am rfl)))) Aj (Fl (As0 (Pj (A4p (Ax (Aa Ab (Aa Ab Ag))) Ag))) (Bb (Am rfl)) Cg))
  (Bb (Am rfl))) h
end
theorem lnS  {us:List Value}(h:us.length=n+1):∃x r,us=x::r/\r.length=n:=by
 cases us with
 | nil=>grind
 | cons x r=>grind
theorem ln1 {us:List Value}(h:us.length=1):∃x0,us=[x0]:=by
 obtain⟨x,r,a,b⟩:=lnS h
 simp_all
theorem ln2 {us:List Value}(h:us.length=2):∃c b,us=[c,b]:=by
 obtain⟨c,r,a,d⟩:=lnS h;obtain⟨b,a⟩:=ln1 d
 grind
theorem ln3 {us:List Value}(h:us.length=3):∃c d b,us=[c,d,b]:=by
 obtain⟨c,r,a,e⟩:=lnS h;obtain⟨d,b,a⟩:=ln2 e
 grind
theorem ln4 {us:List Value}(h:us.length=4):∃c d e b,us=[c,d,e,b]:=by
 obtain⟨c,r,a,f⟩:=lnS h;obtain⟨d,e,b,a⟩:=ln3 f
 grind
theorem mkD            (a:FnOk P w K mg base CX0 k f d ps sp) (b:Binds K d ps []) (c:PySem.W.keepIn K (.ref f)=true) (g:mg x=some (.ref f)):Def P w K mg base x k ps sp:=⟨f,d,a,b,c,g⟩
theorem mkX {P:Program}{w:World}{K:PySem.W.Frag}{mg:Str->Option Value}{base:Heap}{k:Nat}{f:Addr}{fd:FuncData}{x:Str}{ps:List Str}{sp:Sp}(a:FnOk P w K mg base (CXe P w) k f fd ps sp)(b:Binds K fd ps [])(c:PySem.W.keepIn K (.ref f)=true)(g:mg x=some (.ref f)):DefX P w K mg base x k ps sp:=⟨f,fd,a,b,c,g⟩
theorem mkM {P:Program}{w:World}{K:PySem.W.Frag}{mg:Str->Option Value}{base:Heap}{k:Nat}{f:Addr}{fd:FuncData}{x:Str}{ps:List Str}{sp:Sp}(a:FnM P w K mg base k f fd ps sp)(b:Binds K fd ps [])(c:PySem.W.keepIn K (.ref f)=true)(g:mg x=some (.ref f)):Bl8 P w K mg base x k ps sp:=⟨f,fd,a,b,c,g⟩
theorem Dd       (T:PyProof.Rows.Top q loose g mg j h) (k:∀a o,h.get? a=some o->Hj o=true->o.data≠.fields #[]->K.lookup a=some o)  (l:(PyProof.Rows.recsOf q).map (fun d=>(d.name,d.params,d.body,d.scope))=L) {i:Nat}   (e:L[i]?=some (x,La st,Hc st,Aq st)):∃f fd,Fun K x x st f fd/\mg x=some (.ref f):=by
 obtain⟨d,m,rfl,a,b,c⟩:=Aj7 l e;exact Bg0 T k m a b c
abbrev rr (x:Str)(i:Nat):Str×Arguments×List Stmt×Scope:=(x,La (top i),Hc (top i),Aq (top i))
theorem Br5 {l:PySem.W.OpenLaw}{w:World}{q:Program}{loose:List Str}{mean:ExcName->Option Value}{mg mb:Str->Option Value}{h:Heap}{fa:Addr}(T:PyProof.Rows.Top q loose mean mg mb h)(hfa:mg "law" = some (.ref fa))
 (hlaw:∀ns:List Int,ns.length<=63->Ap5 [.sc ns]=.ret (.im (.bool true)) [.sc ns])
 (hR:(PyProof.Rows.recsOf q).map (fun d=>(d.name,d.params,d.body,d.scope))=[rr "rank" 13,rr "risen" 14,rr "values_at" 16,rr "is_pair" 18,rr "parts_of" 19,rr "with_heads_at" 20,rr "is_told_order" 22,rr "in_told_order" 23,rr "in_order" 24,rr "heads_in" 25,rr "parts_in" 26,rr "_law_cell_at" 28,rr "_law_box" 29,rr "_law_take" 30,rr "_law_many" 31,rr "_law_names" 32,rr "_law_value" 33,rr "_law_number" 34,rr "_law_pool" 35,rr "_law_rank" 36,rr "_law_tuples" 37,rr "_law_wide" 38,rr "_law_same" 39,rr "_law_ranks" 40,rr "_law_places" 41,rr "_law_heads_due" 42,rr "_law_parts" 43,rr "_law_class" 44,rr "_law_told" 45,rr "_law_odd" 46,rr "_law_right" 47,rr "law" 48])
 (hB:(["ValueError", "abs", "all", "bool", "dict", "enumerate", "int", "isinstance", "len", "list", "max", "min", "range", "reversed", "sorted", "str", "tuple", "zip"]:List Str).all (A6g q loose ["rank", "risen", "values_at", "is_pair", "parts_of", "with_heads_at", "is_told_order", "in_told_order", "in_order", "heads_in", "parts_in", "_law_cell_at", "_law_box", "_law_take", "_law_many", "_law_names", "_law_value", "_law_number", "_law_pool", "_law_rank", "_law_tuples", "_law_wide", "_law_same", "_law_ranks", "_law_places", "_law_heads_due", "_law_parts", "_law_class", "_law_told", "_law_odd", "_law_right", "law"])=true)
 (hF:A1d xcR xcT xcV xcF h) :
 ∃(K:PySem.W.Frag) (fd:FuncData),K.In h/\TabAt K h/\(∀(s:Shared) (v:Value),BindsTo s fd ⟨[v],[]⟩ [("_law_script",v)])/\∀base:Heap,K.In base->base.Ns mainGlobals mg->FnOk l.prog w K mg base CX0 10 fa fd ["_law_script"] (Aw4 K):=by
 obtain⟨d8,m8,n8,p8⟩:=Aj7 hR (i:=7) rfl;obtain⟨zT,T_in_told_order,hd_in_told_order,ht_in_told_order,hc_in_told_order⟩:=Bi2 T m8
 obtain⟨kin,tab,hcd,hK⟩:=B0p (h:=h) (tabs:=[(zT,T_in_told_order,(("in_told_order" : Str) ++ ".<locals>." ++ "<lambda>"))]) (fun t m=>by cases List.mem_singleton.mp m;exact⟨hd_in_told_order,ht_in_told_order⟩) (fun t m=>by cases List.mem_singleton.mp m;simp)
 obtain⟨lc_in_told_order,lt_in_told_order⟩:=hcd _ (List.mem_singleton.mpr rfl)
 generalize Qz h [(zT,T_in_told_order,(("in_told_order" : Str) ++ ".<locals>." ++ "<lambda>"))]=K at *
 obtain⟨f1,fd1,F1,g1⟩:=Dd T hK hR (st:=Zo) (i:=0) rfl
 have b1:=F1.binds (ps:=["value"]) fun _ _ _ _ _ _ us hl=>by obtain⟨_,rfl⟩:=ln1 hl;rfl
 obtain⟨f2,fd2,F2,g2⟩:=Dd T hK hR (st:=Za) (i:=1) rfl
 have b2:=F2.binds (ps:=["values"]) fun _ _ _ _ _ _ us hl=>by obtain⟨_,rfl⟩:=ln1 hl;rfl
 obtain⟨f3,fd3,F3,g3⟩:=Dd T hK hR (st:=Nf) (i:=2) rfl
 have b3:=F3.binds (ps:=["row", "places"]) fun _ _ _ _ _ _ us hl=>by obtain⟨_,_,rfl⟩:=ln2 hl;rfl
 obtain⟨f4,fd4,F4,g4⟩:=Dd T hK hR (st:=S5) (i:=3) rfl
 have b4:=F4.binds (ps:=["thing"]) fun _ _ _ _ _ _ us hl=>by obtain⟨_,rfl⟩:=ln1 hl;rfl
 obtain⟨f5,fd5,F5,g5⟩:=Dd T hK hR (st:=O6) (i:=4) rfl
 have b5:=F5.binds (ps:=["wide"]) fun _ _ _ _ _ _ us hl=>by obtain⟨_,rfl⟩:=ln1 hl;rfl
 obtain⟨f6,fd6,F6,g6⟩:=Dd T hK hR (st:=Ik) (i:=5) rfl
 have b6:=F6.binds (ps:=["wide", "places"]) fun _ _ _ _ _ _ us hl=>by obtain⟨_,_,rfl⟩:=ln2 hl;rfl
 obtain⟨f7,fd7,F7,g7⟩:=Dd T hK hR (st:=Ih) (i:=6) rfl
 have b7:=F7.binds (ps:=["order"]) fun _ _ _ _ _ _ us hl=>by obtain⟨_,rfl⟩:=ln1 hl;rfl
 obtain⟨f8,fd8,F8,g8⟩:=Dd T hK hR (st:=Ii) (i:=7) rfl
 have b8:=F8.binds (ps:=["things", "told"]) fun _ _ _ _ _ _ us hl=>by obtain⟨_,_,rfl⟩:=ln2 hl;rfl
 have ld_in_told_order:fd8.code=.ref zT:=A8k F8 kin (by have z:d8.name = "in_told_order" := n8;rw[<- z];exact hc_in_told_order) g8
 obtain⟨f9,fd9,F9,g9⟩:=Dd T hK hR (st:=O4) (i:=8) rfl
 have b9:=F9.binds (ps:=["things", "order"]) fun _ _ _ _ _ _ us hl=>by obtain⟨_,_,rfl⟩:=ln2 hl;rfl
 obtain⟨f10,fd10,F10,g10⟩:=Dd T hK hR (st:=Ow) (i:=9) rfl
 have b10:=F10.binds (ps:=["wide", "order"]) fun _ _ _ _ _ _ us hl=>by obtain⟨_,_,rfl⟩:=ln2 hl;rfl
 obtain⟨f11,fd11,F11,g11⟩:=Dd T hK hR (st:=Pa) (i:=10) rfl
 have b11:=F11.binds (ps:=["wide", "order"]) fun _ _ _ _ _ _ us hl=>by obtain⟨_,_,rfl⟩:=ln2 hl;rfl
 obtain⟨f12,fd12,F12,g12⟩:=Dd T hK hR (st:=M7) (i:=11) rfl
 have b12:=F12.binds (ps:=["_law_script", "_law_k"]) fun _ _ _ _ _ _ us hl=>by obtain⟨_,_,rfl⟩:=ln2 hl;rfl
 obtain⟨f13,fd13,F13,g13⟩:=Dd T hK hR (st:=Y0) (i:=12) rfl
 have b13:=F13.binds (ps:=["_law_script", "_law_k"]) fun _ _ _ _ _ _ us hl=>by obtain⟨_,_,rfl⟩:=ln2 hl;rfl
 obtain⟨f14,fd14,F14,g14⟩:=Dd T hK hR (st:=Vx) (i:=13) rfl
 have b14:=F14.binds (ps:=["_law_box_here", "_law_many_here"]) fun _ _ _ _ _ _ us hl=>by obtain⟨_,_,rfl⟩:=ln2 hl;rfl
 obtain⟨f15,fd15,F15,g15⟩:=Dd T hK hR (st:=Wb) (i:=14) rfl
 have b15:=F15.binds (ps:=["_law_box_here", "_law_least", "_law_few", "_law_most"]) fun _ _ _ _ _ _ us hl=>by obtain⟨_,_,_,_,rfl⟩:=ln4 hl;rfl
 obtain⟨f16,fd16,F16,g16⟩:=Dd T hK hR (st:=Ru) (i:=15) rfl
 have b16:=F16.binds (ps:=["_law_box_here", "_law_many_here"]) fun _ _ _ _ _ _ us hl=>by obtain⟨_,_,rfl⟩:=ln2 hl;rfl
 obtain⟨f17,fd17,F17,g17⟩:=Dd T hK hR (st:=Rp) (i:=16) rfl
 have b17:=F17.binds (ps:=["_law_box_here"]) fun _ _ _ _ _ _ us hl=>by obtain⟨_,rfl⟩:=ln1 hl;rfl
 obtain⟨f18,fd18,F18,g18⟩:=Dd T hK hR (st:=Pk) (i:=17) rfl
 have b18:=F18.binds (ps:=["_law_box_here"]) fun _ _ _ _ _ _ us hl=>by obtain⟨_,rfl⟩:=ln1 hl;rfl
 obtain⟨f19,fd19,F19,g19⟩:=Dd T hK hR (st:=Vt) (i:=18) rfl
 have b19:=F19.binds (ps:=["_law_box_here", "_law_many_here"]) fun _ _ _ _ _ _ us hl=>by obtain⟨_,_,rfl⟩:=ln2 hl;rfl
 obtain⟨f20,fd20,F20,g20⟩:=Dd T hK hR (st:=V4) (i:=19) rfl
 have b20:=F20.binds (ps:=["_law_value_here"]) fun _ _ _ _ _ _ us hl=>by obtain⟨_,rfl⟩:=ln1 hl;rfl
 obtain⟨f21,fd21,F21,g21⟩:=Dd T hK hR (st:=O1) (i:=20) rfl
 have b21:=F21.binds (ps:=["_law_box_here", "_law_wide_here", "_law_many_here"]) fun _ _ _ _ _ _ us hl=>by obtain⟨_,_,_,rfl⟩:=ln3 hl;rfl
 obtain⟨f22,fd22,F22,g22⟩:=Dd T hK hR (st:=V7) (i:=21) rfl
 have b22:=F22.binds (ps:=["_law_box_here", "_law_numbers"]) fun _ _ _ _ _ _ us hl=>by obtain⟨_,_,rfl⟩:=ln2 hl;rfl
 obtain⟨f23,fd23,F23,g23⟩:=Dd T hK hR (st:=Qd) (i:=22) rfl
 have b23:=F23.binds (ps:=["_law_found", "_law_due"]) fun _ _ _ _ _ _ us hl=>by obtain⟨_,_,rfl⟩:=ln2 hl;rfl
 obtain⟨f24,fd24,F24,g24⟩:=Dd T hK hR (st:=S7) (i:=23) rfl
 have b24:=F24.binds (ps:=["_law_values"]) fun _ _ _ _ _ _ us hl=>by obtain⟨_,rfl⟩:=ln1 hl;rfl
 obtain⟨f25,fd25,F25,g25⟩:=Dd T hK hR (st:=Pb) (i:=24) rfl
 have b25:=F25.binds (ps:=["_law_some", "_law_order"]) fun _ _ _ _ _ _ us hl=>by obtain⟨_,_,rfl⟩:=ln2 hl;rfl
 obtain⟨f26,fd26,F26,g26⟩:=Dd T hK hR (st:=J8) (i:=25) rfl
 have b26:=F26.binds (ps:=["_law_wide_here", "_law_places_here"]) fun _ _ _ _ _ _ us hl=>by obtain⟨_,_,rfl⟩:=ln2 hl;rfl
 obtain⟨f27,fd27,F27,g27⟩:=Dd T hK hR (st:=S6) (i:=26) rfl
 have b27:=F27.binds (ps:=["_law_wide_here"]) fun _ _ _ _ _ _ us hl=>by obtain⟨_,rfl⟩:=ln1 hl;rfl
 obtain⟨f28,fd28,F28,g28⟩:=Dd T hK hR (st:=Sq) (i:=27) rfl
 have b28:=F28.binds (ps:=["_law_error"]) fun _ _ _ _ _ _ us hl=>by obtain⟨_,rfl⟩:=ln1 hl;rfl
 obtain⟨f29,fd29,F29,g29⟩:=Dd T hK hR (st:=Uz) (i:=28) rfl
 have b29:=F29.binds (ps:=["_law_wide_here", "_law_order", "_law_heads"]) fun _ _ _ _ _ _ us hl=>by obtain⟨_,_,_,rfl⟩:=ln3 hl;rfl
 obtain⟨f30,fd30,F30,g30⟩:=Dd T hK hR (st:=Zj) (i:=29) rfl
 have b30:=F30.binds (ps:=["_law_box_here", "_law_some"]) fun _ _ _ _ _ _ us hl=>by obtain⟨_,_,rfl⟩:=ln2 hl;rfl
 obtain⟨f31,fd31,F31,g31⟩:=Dd T hK hR (st:=Rj) (i:=30) rfl
 have b31:=F31.binds (ps:=["_law_box_here"]) fun _ _ _ _ _ _ us hl=>by obtain⟨_,rfl⟩:=ln1 hl;rfl
 obtain⟨f32,fd32,F32,g32⟩:=Dd T hK hR (st:=A3k) (i:=31) rfl
 have b32:=F32.binds (ps:=["_law_script"]) fun _ _ _ _ _ _ us hl=>by obtain⟨_,rfl⟩:=ln1 hl;rfl
 have yC:=Dr (x := "ValueError") T (Cy hR) hB (by simp)
 have yR:=Dr (x := "abs") T (Cy hR) hB (by simp)
 have zW:=Dr (x := "all") T (Cy hR) hB (by simp)
 have zU:=Dr (x := "bool") T (Cy hR) hB (by simp)
 have yP:=Dr (x := "dict") T (Cy hR) hB (by simp)
 have zP:=Dr (x := "enumerate") T (Cy hR) hB (by simp)
 have zR:=Dr (x := "int") T (Cy hR) hB (by simp)
 have z7:=Dr (x := "isinstance") T (Cy hR) hB (by simp)
 have zJ:=Dr (x := "len") T (Cy hR) hB (by simp)
 have zA:=Dr (x := "list") T (Cy hR) hB (by simp)
 have yS:=Dr (x := "max") T (Cy hR) hB (by simp)
 have yU:=Dr (x := "min") T (Cy hR) hB (by simp)
 have zM:=Dr (x := "range") T (Cy hR) hB (by simp)
 have yJ:=Dr (x := "reversed") T (Cy hR) hB (by simp)
 have zZ:=Dr (x := "sorted") T (Cy hR) hB (by simp)
 have zN:=Dr (x := "str") T (Cy hR) hB (by simp)
 have z8:=Dr (x := "tuple") T (Cy hR) hB (by simp)
 have yK:=Dr (x := "zip") T (Cy hR) hB (by simp)
 obtain⟨qR,qT,k_ValueError,qF⟩:=Bg4 hF kin T.g hK;have r_BadOrder:ClR K mg "BadOrder" := qR 0 _ rfl;have k_BadColumns:ClT K mg [("BadOrder",false)] "BadColumns" := qT 0 _ rfl;have k_BadOrder:ClT K mg [("BadOrder",true)] "BadOrder" := qT 1 _ rfl;have k_BadRow:ClT K mg [("BadOrder",false)] "BadRow" := qT 2 _ rfl;have k_BadWay:ClT K mg [("BadOrder",false)] "BadWay" := qT 3 _ rfl;have k_Double:ClT K mg [("BadOrder",false)] "Double" := qT 4 _ rfl;have k_NoColumn:ClT K mg [("BadOrder",false)] "NoColumn" := qT 5 _ rfl;have k_NoHead:ClT K mg [("BadOrder",false)] "NoHead" := qT 6 _ rfl;have k_NoNumber:ClT K mg [("BadOrder",false)] "NoNumber" := qT 7 _ rfl;have k_NoPart:ClT K mg [("BadOrder",false)] "NoPart" := qT 8 _ rfl;have k_NoRow:ClT K mg [("BadOrder",false)] "NoRow" := qT 9 _ rfl;have h_FoldError:ClF K mg ["BadOrder"] "FoldError" := qF 0 _ rfl;have e:=hfa.symm.trans g32
 cases e
 refine⟨K,fd32,kin,tab,A8p F32 (fun kV dc pm an cd ct s v=>.of_eq rfl),fun base _ _=>?_⟩
 have D_rank:Def l.prog w K mg base "rank" 2 ["value"] (spP K (Gb 2)):=mkD (Ah5 F1 b1 g1 zR z7 zN z8 2) b1 F1.kp g1;have D_risen:=mkD (A6p (P:=l.prog) (w:=w) (mg:=mg) (base:=base) F2 D_rank zZ) b2 F2.kp g2;have D_values_at:=mkD (Zf (P:=l.prog) (w:=w) (mg:=mg) (base:=base) F3 z8) b3 F3.kp g3;have D_is_pair:=mkD (An4 (P:=l.prog) (w:=w) (mg:=mg) (base:=base) F4 z7 zJ z8) b4 F4.kp g4;have D_parts_of:=mkD (Ad3 (P:=l.prog) (w:=w) (mg:=mg) (base:=base) F5 z8) b5 F5.kp g5;have D_with_heads_at:=mkD (Q6 (P:=l.prog) (w:=w) (mg:=mg) (base:=base) F6 D_values_at z8) b6 F6.kp g6;have D_is_told_order:=mkD (Rc (P:=l.prog) (w:=w) (mg:=mg) (base:=base) F7 D_is_pair z7 zA z8) b7 F7.kp g7;have D_in_told_order:=mkD (Sh (P:=l.prog) (w:=w) (mg:=mg) (base:=base) F8 lt_in_told_order lc_in_told_order ld_in_told_order zZ) b8 F8.kp g8;have D_in_order:=mkX (Ah2 (P:=l.prog) (w:=w) (mg:=mg) (base:=base) F9 D_risen D_is_told_order D_in_told_order zA yJ r_BadOrder) b9 F9.kp g9;have D_heads_in:=mkX (Ag6 (P:=l.prog) (w:=w) (mg:=mg) (base:=base) F10 D_with_heads_at D_in_order) b10 F10.kp g10;have D_parts_in:=mkX (Ad7 (P:=l.prog) (w:=w) (mg:=mg) (base:=base) F11 D_parts_of D_in_order yP z8) b11 F11.kp g11;have D_l_cell_at:=mkD (Yz (P:=l.prog) (w:=w) (mg:=mg) (base:=base) F12 zJ) b12 F12.kp g12;have D_l_box:=mkD (A4y (P:=l.prog) (w:=w) (mg:=mg) (base:=base) F13 D_l_cell_at yR zR) b13 F13.kp g13;have D_l_take:=mkD (A0p (P:=l.prog) (w:=w) (mg:=mg) (base:=base) F14 ) b14 F14.kp g14;have D_l_many:=mkD (A1p (P:=l.prog) (w:=w) (mg:=mg) (base:=base) F15 D_l_take) b15 F15.kp g15;have D_l_names:=mkD (Al3 (P:=l.prog) (w:=w) (mg:=mg) (base:=base) F16 D_l_take zJ zM) b16 F16.kp g16;have D_l_value:=mkD (Ap0 (P:=l.prog) (w:=w) (mg:=mg) (base:=base) F17 D_l_take) b17 F17.kp g17;have D_l_number:=mkD (Af5 (P:=l.prog) (w:=w) (mg:=mg) (base:=base) F18 D_l_take) b18 F18.kp g18;have D_l_pool:=mkD (A0e (P:=l.prog) (w:=w) (mg:=mg) (base:=base) F19 D_l_value zM) b19 F19.kp g19;have D_l_rank:=mkD (Az8 (P:=l.prog) (w:=w) (mg:=mg) (base:=base) F20 z7 zN) b20 F20.kp g20;have D_l_tuples:=mkD (Ak5 (P:=l.prog) (w:=w) (mg:=mg) (base:=base) F21 D_l_take D_l_pool zJ zM z8) b21 F21.kp g21;have D_l_wide:=mkD (A0z (P:=l.prog) (w:=w) (mg:=mg) (base:=base) F22 D_l_take D_l_many D_l_names D_l_value D_l_number D_l_tuples z8) b22 F22.kp g22;have D_l_same:Def l.prog w K mg base "_law_same" 8 ["_law_found", "_law_due"] (spP K (Bt 8)):=mkD (U4 F23 b23 g23 zW zU zR z7 zJ zA zN z8 yK 8) b23 F23.kp g23;have D_l_ranks:=mkD (An3 (P:=l.prog) (w:=w) (mg:=mg) (base:=base) F24 D_l_rank) b24 F24.kp g24;have D_l_places:=mkD (Ah6 (P:=l.prog) (w:=w) (mg:=mg) (base:=base) F25 D_l_ranks zP z7 zJ zA zM zZ z8) b25 F25.kp g25;have D_l_heads_due:=mkD (V3 (P:=l.prog) (w:=w) (mg:=mg) (base:=base) F26 z8) b26 F26.kp g26;have D_l_parts:=mkD (As3 (P:=l.prog) (w:=w) (mg:=mg) (base:=base) F27 ) b27 F27.kp g27;have D_l_class:=mkM (Ao6 (P:=l.prog) (w:=w) (mg:=mg) (base:=base) F28 yC z7 k_BadColumns k_BadOrder k_BadRow k_BadWay k_Double k_NoColumn k_NoHead k_NoNumber k_NoPart k_NoRow k_ValueError) b28 F28.kp g28;have D_l_told:=mkD (A2f (P:=l.prog) (w:=w) (mg:=mg) (base:=base) F29 D_heads_in D_parts_in D_l_class h_FoldError) b29 F29.kp g29;have D_l_odd:=mkD (A6h (P:=l.prog) (w:=w) (mg:=mg) (base:=base) F30 D_l_take zJ zA z8) b30 F30.kp g30;have D_l_right:=mkD (Ak7 (P:=l.prog) (w:=w) (mg:=mg) (base:=base) F31 D_heads_in D_parts_in D_l_wide D_l_same D_l_places D_l_heads_due D_l_parts D_l_told D_l_odd zW zA zM z8) b31 F31.kp g31
 exact(Br2 F32 D_l_box D_l_right zJ yS yU zM).imp fun vs H Q E h=>Bn3 hlaw h
theorem walk {l:PySem.W.OpenLaw}{q:Program}{loose:List Str}{XP:(Str->Option Value)->Heap->Prop}{YP:World->Heap->Prop}{d:DefRec}(hn:l.most=some 63)(hdf:d.params.defaults=[])
 (F:∀(w:World) (mean:ExcName->Option Value) (mg mb:Str->Option Value) (fa:Addr) (h:Heap),PyProof.Rows.Top q (PySem.W.looseW q loose) mean mg mb h->XP mg h->mg d.name=some (.ref fa) ->
  ∃(K:PySem.W.Frag) (fd:FuncData),K.In h/\TabAt K h/\(∀(s:Shared) (u:Value),BindsTo s fd ⟨[u],[]⟩ [("_law_script",u)])/\∀base:Heap,K.In base->base.Ns mainGlobals mg->FnOk l.prog w K mg base CX0 10 fa fd ["_law_script"] (Aw4 K)) :
 PySem.W.WalkO q loose XP YP l.row.toRowW d [] (fun f vs=>PySem.call f vs) :=
 L2.walk_ofX (n:=63) (k:=10) (x := "_law_script") (sp:=Aw4) hn (by decide) hdf ⟨rfl,by decide,by decide,rfl⟩ F fun _ _ a ns hl hS=>⟨a,ns,rfl,hS,hl,fun _=>rfl⟩
end K
open PySem PySem.W PyProof.Rows
set_option maxHeartbeats 0
namespace K
def dOf:Stmt->DefRec
 | .FunctionDef _ a b _ _ _ s _ _ p=>⟨"law",a,b,s,p⟩
 | _=>⟨"law",⟨[],[],none,[],[],none,[]⟩,[],default,default⟩
def dL:DefRec:=⟨"law",(dOf (top 48)).params,(dOf (top 48)).body,(dOf (top 48)).scope,(dOf (top 48)).pos⟩
theorem Bz1:rwT.wellSaid=true:=by kernel_rfl
theorem B2e:defOf qT rwT.row.name=some (dL,[]):=by kernel_rfl
theorem B2j:rwT.row.prog.theDef rwT.row.name=some (dL.params,dL.body,dL.scope):=by trivial
theorem kwT:kwWritten? dL.params.kwonlyargs dL.params.kw_defaults=some []:=by trivial
theorem okT:(chainsOk qT&&opensWell rwT.row.prog&&(frees rwT.row.toRowW&&rwT.row.within.isEmpty))=true:=by trivial
theorem dfT:dL.params.defaults=[]:=by rfl
theorem B1s:rwT.row.prog.bare:=⟨rfl,rfl,rfl,rfl,rfl,by decide +kernel⟩
theorem Bz7:rwT.row.toRowW.promised:=by w_witness2
end K
theorem PySem.Challenge.cw_pivotfold_k33_what_is_no_order_holds : PySem.Challenge.rw_pivotfold_k33_what_is_no_order.Holds := by
 refine holds_law K.Bz1 fun said=>?_
 refine holds_open (q:=K.qT) (loose:=[]) (Xt:=K.xtT) (XP:=(fun _ h=>L2.A1d K.xcR K.xcT K.xcV K.xcF h)) (Yf:=Hook.none.obs) (Ya:=Hook.none.val) (YP:=Hook.none.says) (N:=20000) K.B0i Hook.none.of Hook.none.keeps (fun s e=>L2.B0w (Bool.and_eq_true_iff.mp e).2) (fun mg h h' x hk=>L2.A3b x hk) K.B2e K.B2j K.kwT (fun s e=>recFacts_of (Bool.and_eq_true_iff.mp (Bool.and_eq_true_iff.mp e).1).2) rfl said K.okT K.B1s K.Bz7 ?_
 refine K.walk (l:=PySem.Challenge.rw_pivotfold_k33_what_is_no_order) rfl K.dfT ?F
 case F =>
  intro w mean mg mb fa h T X hmg
  refine K.Br5 T hmg K.A7t ?R ?B X
  (case R=>kernel_rfl); (case B=>kernel_rfl)
end
