import PyProof.Rows.All
import PyProof.FactsAll.NoneType_1
import Wide.All
import OpenK.AllK
import Wide.FinOn
import Lean
import PyProof.EqAt
import PyProof.EqKinds
import PyProof.TupleCall
import PyProof.StrWalks
import PyProof.StrLawsRepr
import PyProof.ListMulRoad
import PyProof.StrOps2
import PyProof.CallStr
import PyProof.CollectStr
import PyProof.TupleOfSeq
import PyProof.DictTable
import KE.KSortTup
import PyProof.MeetsStr
import PyProof.FactsAll.str_5
import PyProof.StrBlockG
import PyProof.AttrMiss
import PyProof.FactsAll.zip_1
import KE.KDictOf
import PyProof.AttrMissHeap
import KE.KTryMore
import KE.KRevIter
import PyProof.ListRange
import PyProof.FactsAll.dict_3
import PyProof.MeetsDict
import PyProof.FactsAll.dict_keyiterator
import PyProof.DictItems
import PyProof.DictValues
import KE.KPairComp
import PyProof.TupleOfStr
import PyProof.TupleOfGen
import PyProof.DictWalks
import PyProof.DictCompW
import PyProof.StrCalls5
import PyProof.StrCalls6
import PyProof.ToksMono
import PyProof.StrCalls2
import PyProof.JoinWalk
import KE.KIntText
import PyProof.Draws
import PyProof.EnumMake
import PyProof.Rows.Range3
import PyProof.StrBlock2
import PyProof.DictTruth
import PySem.Challenge.RW_pivotfold_k49_questions_walked
set_option genInjectivity false
set_option genSizeOf false
set_option Elab.async false
set_option linter.all false
set_option maxRecDepth 100000
noncomputable section
namespace L2
open PySem PySem.Spec PyProof.Rows PySem.W
noncomputable def Sv:List Str->List Value->Bool
 | [],[]=>true
 | s::ss,.str z _::us=>s==z&&Sv ss us
 | _,_=>false
def A1t (h:Heap)(q:Str×List Str):Bool:=match h.nsMap mainGlobals q.1 with
 | some (.ref a)=>match h.get? a with
  | some o=>match o.cls,o.data with
   | .type c,.seq its _=>c == "tuple" && decide (its.size<=sizeLine)&&Sv q.2 its.toList
   | _,_=>false
  | none=>false
 | _=>false
end L2
namespace K
open PySem PySem.W PyProof.Rows
noncomputable def tcT:List (Str×List Str):=[("CONDITION_WORDS",[Str.ofString "is",Str.ofString "not",Str.ofString "below",Str.ofString "above"]),("WAYS",[Str.ofString "first",Str.ofString "last",Str.ofString "sum",Str.ofString "count",Str.ofString "least",Str.ofString "greatest",Str.ofString "unlike"])]
abbrev pwT:=PySem.Challenge.pw_pivotfold_k49_questions_walked
abbrev rwT:=PySem.Challenge.rw_pivotfold_k49_questions_walked
noncomputable def Bq6:Stmt->Bool
 | .Assign [.Name n _] _ _=>!(["__name__", "CONDITION_WORDS", "WAYS"]:List Str).contains n
 | _=>true
def qT:Program:={ pwT with main:={ pwT.main with body:=pwT.main.body.filter Bq6 } }
abbrev xtT:Shared->Bool:=λs=>xlAt qT [] s&&recOk (RowW.records rwT.row.toRowW) s&&tcT.all (L2.A1t s.heap)
set_option maxHeartbeats 0 in
theorem Bm9:LeftO rwT.row.prog qT ["CONDITION_WORDS", "WAYS"] xtT Hook.none.obs Hook.none.val 20000:=λw=>by kernel_rfl
end K
namespace L2
open PySem PySem.Spec PyProof.Rows
abbrev Key:=Sum Int Str
noncomputable def Mh:Key->Value->Bool
 | .inl k,v=>Value.isInt k v
 | .inr x,v=>Value.isStrOf x v
noncomputable def A6a (w:World):Key->Int
 | .inl k=>hashInt k
 | .inr x=>hashStr w x
theorem Dk:∀{k:Key}{v:Value},Mh k v=true->(∃i t,k=Sum.inl i/\v=Value.int i t)\/(∃x t,k=Sum.inr x/\v=Value.str x t)
 | .inl i,v,h=>by
  obtain⟨t,e⟩:=Value.isInt_shape (k:=i) (v:=v) h;exact .inl ⟨i,t,rfl,e⟩
 | .inr x,v,h=>by
  obtain⟨t,e⟩:=Value.isStrOf_shape (x:=x) (v:=v) h;exact .inr ⟨x,t,rfl,e⟩
theorem Q0 (i:Int)(t:Tok):Mh (.inl i) (.int i t)=true:=by simp[Mh,Value.isInt]
theorem Qp (x:Str)(t:Tok):Mh (.inr x) (.str x t)=true:=by simp[Mh,Value.isStrOf]
theorem Bd7 (a b:Int):decide ((Sum.inl a:Key)=Sum.inl b)=(a==b):=by
 grind
theorem Bh2 (a b:Str):decide ((Sum.inr a:Key)=Sum.inr b)=decide (a=b):=by
 grind
theorem Bc5 (a:Int)(b:Str):decide ((Sum.inl a:Key)=Sum.inr b)=false:=decide_eq_false λq=>nomatch q
theorem Bk7 (a:Str)(b:Int):decide ((Sum.inr a:Key)=Sum.inl b)=false:=decide_eq_false λq=>nomatch q
def Dl (prog:Program)(w:World):PySem.KeyKind prog w Key where
 is:=Mh
 hash:=A6a w
 inj:=λv a b ha hb=>by
  rcases Dk ha with ⟨i,t,rfl,rfl⟩ | ⟨x,t,rfl,rfl⟩
  ·rcases Dk hb with ⟨j,u,rfl,e⟩ | ⟨y,u,rfl,e⟩
   ·injection e with e1 _;rw[e1]
   ·exact nomatch e
  ·rcases Dk hb with ⟨j,u,rfl,e⟩ | ⟨y,u,rfl,e⟩
   ·exact nomatch e
   ·injection e with e1 _;rw[e1]
 byValue:=λk v h=>by
  rcases Dk h with ⟨i,t,rfl,rfl⟩ | ⟨x,t,rfl,rfl⟩ <;> rfl
 pyHash:=λhv h=>by
  rcases Dk hv with ⟨i,t,rfl,rfl⟩ | ⟨x,t,rfl,rfl⟩
  ·exact wpAny_pyHash_int h
  ·exact wpAny_pyHash_str h
 eqBool:=λhu hv h=>by
  rcases Dk hu with ⟨i,t,rfl,rfl⟩ | ⟨x,t,rfl,rfl⟩
  ·rcases Dk hv with ⟨j,u,rfl,rfl⟩ | ⟨y,u,rfl,rfl⟩
   ·rw[Bd7]at h;exact wpAny_eqBool_int h
   ·rw[Bc5]at h;exact SeqAt.EqAt.int_str i t y u _ _ _ _ h
  ·rcases Dk hv with ⟨j,u,rfl,rfl⟩ | ⟨y,u,rfl,rfl⟩
   ·rw[Bk7]at h;exact SeqAt.EqAt.str_int x t j u _ _ _ _ h
   ·rw[Bh2]at h;exact wpAny_eqBool_str h
 «strs»:=λk x t v h=>by
  rcases Dk h with ⟨i,u,rfl,e⟩ | ⟨y,u,rfl,e⟩
  ·exact nomatch e
  ·injection e with e1 _
   subst e1
   cases v <;> rfl
theorem Li (prog:Program)(w:World)(i:Int)(t:Tok):(Dl prog w).is (.inl i) (.int i t)=true:=Q0 i t
theorem Ld (prog:Program)(w:World)(x:Str)(t:Tok):(Dl prog w).is (.inr x) (.str x t)=true:=Qp x t
noncomputable instance Bv7:DecidableEq PyData:=λa b=>Classical.propDecidable (a=b)
mutual
noncomputable def keyB:PyData->Bool
 | .none=>true
 | .int _=>true
 | .str _=>true
 | .tuple ds=>Jo ds
 | _=>false
noncomputable def Jo:List PyData->Bool
 | []=>true
 | d::ds=>keyB d&&Jo ds
end
mutual
theorem Sh:∀(x y:PyData),keyB x=true->keyB y=true->(PyData.eqv x y=true↔x=y)
 | .none,y,_,hy=>by cases y <;> simp_all [PyData.eqv,keyB]
 | .int _,y,_,hy=>by cases y <;> simp_all [PyData.eqv,keyB]
 | .str _,y,_,hy=>by cases y <;> simp_all [PyData.eqv,keyB]
 | .tuple xs,.tuple ys,hx,hy=>by
  have:=Ab9 xs ys hx hy
  show PyData.eqvAll xs ys=true↔_
  rw[this]
  exact⟨λe=>by rw[e],λe=>by cases e;rfl⟩
 | .tuple xs,.none,hx,hy=>⟨(λe=>nomatch e),λe=>nomatch e⟩
 | .tuple xs,.int _,hx,hy=>⟨(λe=>nomatch e),λe=>nomatch e⟩
 | .tuple xs,.str _,hx,hy=>⟨(λe=>nomatch e),λe=>nomatch e⟩
theorem Ab9:∀(xs ys:List PyData),Jo xs=true->Jo ys=true->(PyData.eqvAll xs ys=true↔xs=ys)
 | [],[],_,_=>⟨λ_=>rfl,λ_=>rfl⟩
 | [],_::_,_,_=>⟨(λe=>nomatch e),λe=>nomatch e⟩
 | _::_,[],_,_=>⟨(λe=>nomatch e),λe=>nomatch e⟩
 | x::xs,y::ys,hx,hy=>by
  obtain⟨a,b⟩:=Bool.and_eq_true_iff.mp (show (keyB x&&Jo xs)=true from hx)
  obtain⟨c,d⟩:=Bool.and_eq_true_iff.mp (show (keyB y&&Jo ys)=true from hy)
  show (PyData.eqv x y&&PyData.eqvAll xs ys)=true↔_
  rw[Bool.and_eq_true_iff,Sh x y a c,Ab9 xs ys b d,List.cons.injEq]
end
mutual
theorem Tq {h h':Heap}{d:Addr}{o:Obj}{es:Array DictEntry}{ep:Nat}(ho:h.get? d=some o)(hd:o.data=.dict es ep)(hs:Heap.SameBut d h h'):∀(k:PyData),keyB k=true->∀(v:Value) (as:List Addr),Reads h v k as->Reads h' v k as
 | .none,_,_,_,r=>by cases r;exact .none
 | .int i,_,_,_,r=>by cases r;exact .int _ _
 | .str x,_,_,_,r=>by cases r;exact .str _ _
 | .tuple ds,hk,_,_,r=>by
  cases r with
  | @tuple a o' vs n xs as h1 h2 h3 h4 =>
   refine .tuple ((hs.2 a ?_).trans h1) h2 h3 (Rc ho hd hs ds hk _ _ h4)
   intro e;rw[e,ho]at h1;cases h1;rw[hd]at h3;cases h3
theorem Rc {h h':Heap}{d:Addr}{o:Obj}{es:Array DictEntry}{ep:Nat}(ho:h.get? d=some o)(hd:o.data=.dict es ep)(hs:Heap.SameBut d h h'):∀(ks:List PyData),Jo ks=true->∀(vs:List Value) (as:List Addr),ReadsAll h vs ks as->ReadsAll h' vs ks as
 | [],_,_,_,r=>by cases r;exact .nil
 | k::ks,hk,_,_,r=>by
  obtain⟨a,b⟩:=Bool.and_eq_true_iff.mp (show (keyB k&&Jo ks)=true from hk)
  cases r with
  | cons r1 r2=>exact .cons (Tq ho hd hs k a _ _ r1) (Rc ho hd hs ks b _ _ r2)
end
mutual
def Zj (w:World):PyData->Int
 | .none=>hashInt 0xFCA86420
 | .int i=>A6a w (.inl i)
 | .str x=>A6a w (.inr x)
 | .tuple ds=>reduceHash (Builtin.Tuple.tupleHashOf (J8 w ds))
 | _=>0
def J8 (w:World):List PyData->List Int
 | []=>[]
 | d::ds=>Zj w d::J8 w ds
end
mutual
noncomputable def Ab2:PyData->Nat
 | .tuple ds=>Lq ds+1
 | _=>1
noncomputable def Lq:List PyData->Nat
 | []=>0
 | d::ds=>Ab2 d+Lq ds
end
section
variable {prog:Program}{w:World}
theorem Q3 (h:Q (hashInt 0xFCA86420) { s with toks:=s.toks+1 }):wpAny (model prog w) A (pyHash .none) Q E s:=by
 have a:s.TypeIs Value.none "NoneType" := rfl;unfold pyHash
 first | unfold pyHashByItsType | skip
 have b:[Value.none].any Value.onHeap=false:=rfl
 refine wpAny_bind ?_
 rw[cRoomFor,if_neg (by rw[b];exact Bool.false_ne_true)];refine wpAny_pure ?_
 refine wpAny_bind (wpAny_specialOf a F.slot_NoneType_hash.lookup ?_)
 show wpAny _ _ (if (some (Value.builtin "NoneType.__hash__")==some Value.none)=true then _ else _) Q E s
 rw[if_neg (by rw[beq_builtin_none];exact Bool.false_ne_true)]
 refine wpAny_bind (wpAny_specialOf a F.slot_NoneType_hash.lookup ?_)
 show wpAny _ _ (callSpecialIfBoundUnlessNone? .none "__hash__" _ >>= _) Q E s
 refine wpAny_bind (wpAny_callSpecialIfBoundUnlessNone?_slot a F.slot_NoneType_hash
  (wpAny_call_entry F.slot_NoneType_hash a F.entry_NoneType_hash
   (show wpAny _ _ (do ret (<- mkInt _)) _ _ s from wpAny_ret_mkInt ?_) (F.args_NoneType_hash_1 _)))
 exact wpAny_pure h
theorem Av8:∀(n:Nat) (d:PyData),d.depth<=n->keyB d=true->∀(A:Around) (E:Value->Shared->Prop) (s:Shared) (v:Value) (y:List Addr) (Q:Int->Shared->Prop),A.units+n<cLine->Reads s.heap v d y ->
 Q (Zj w d) { s with toks:=s.toks+Ab2 d }->wpAny (model prog w) A (pyHash v) Q E s:=by
 intro n
 induction n with
 | zero =>
  intro d M j A E s v y Q C r h
  cases r with
  | none=>exact Q3 h
  | int i t=>exact(Dl prog w).pyHash (k:=.inl i) (v:=.int i t) (Li prog w i t) h
  | str x t=>exact(Dl prog w).pyHash (k:=.inr x) (v:=.str x t) (Ld prog w x t) h
  | tuple=>exact absurd M (by simp[PyData.depth])
  | bool b=>cases j
  | list=>cases j
  | dict=>cases j
 | succ n Y =>
  intro d M j A E s v y Q C r h
  cases r with
  | none=>exact Q3 h
  | int i t=>exact(Dl prog w).pyHash (k:=.inl i) (v:=.int i t) (Li prog w i t) h
  | str x t=>exact(Dl prog w).pyHash (k:=.inr x) (v:=.str x t) (Ld prog w x t) h
  | bool b=>cases j
  | list=>cases j
  | dict=>cases j
  | @tuple a o N n' g y R hc J U =>
   have G:s.TypeIs (.ref a) "tuple" := ⟨o,R,hc⟩
   have H:PyData.depthAll g<=n:=Nat.le_of_succ_le_succ (show PyData.depthAll g+1<=n+1 from M)
   have I:Jo g=true:=j;unfold pyHash
   first | unfold pyHashByItsType | skip
   first | refine wpAny_bind (wpAny_cRoomFor_or (.inr (Nat.lt_of_le_of_lt (Nat.le_add_right _ _) C)) ?_) | skip
   refine wpAny_bind (wpAny_specialOf G F.slot_tuple_hash.lookup ?_)
   show wpAny _ _ (if (some (Value.builtin "tuple.__hash__")==some Value.none)=true then _ else _) Q E s
   rw[if_neg (by rw[beq_builtin_none];exact Bool.false_ne_true)]
   refine wpAny_bind (wpAny_specialOf G F.slot_tuple_hash.lookup ?_)
   show wpAny _ _ (callSpecialIfBoundUnlessNone? (.ref a) "__hash__" _ >>= _) Q E s
   refine wpAny_bind (wpAny_callSpecialIfBoundUnlessNone?_slot G F.slot_tuple_hash (wpAny_call_entry F.slot_tuple_hash G F.entry_tuple_hash ?_ (F.args_tuple_hash_1 _)))
   show wpAny _ _ (Builtin.Tuple.tupleItemsOf (.ref a) >>= _) _ _ s
   refine wpAny_bind (wpAny_tupleItemsOf R J ?_)
   refine wpAny_bind ?_
   rw[<- Array.forIn_toList]
   refine wpAny_forIn_list _
    (λm (b:Array Int) O=>∃c e K,J8 w g=c++J8 w e/\ReadsAll s.heap m e K/\Jo e=true/\PyData.depthAll e<=n/\b.toList=c/\∃k,k+Lq e=Lq g/\O={ s with toks:=s.toks+k })
    _ ?_ ?_ _ _ ⟨[],g,_,rfl,U,I,H,rfl,0,Nat.zero_add _,rfl⟩
   ·rintro x m b O ⟨c,e,K,z,L,q,p,B,k,D,rfl⟩
    cases L with
    | @cons _ _ l f V W X u =>
     obtain⟨Z,S⟩:=Bool.and_eq_true_iff.mp (show (keyB l&&Jo f)=true from q)
     have P:l.depth<=n/\PyData.depthAll f<=n:=by
      have:max l.depth (PyData.depthAll f)<=n:=p;omega
     refine wpAny_bind (Y l P.1 Z _ _ _ _ _ _ (by first | exact Nat.lt_of_le_of_lt (by simp;omega) C | (have:=C;simp at *;omega)) X ?_)
     first
      | exact wpAny_pure ⟨c++[Zj w l],f,_,by rw[z];simp[J8],u,S,P.2,by simp[B],k+Ab2 l,by rw[<- D];simp[Lq,Nat.add_assoc],by simp[Nat.add_assoc]⟩
      | exact wpAny_bind (wpAny_pure (wpAny_pure ⟨c++[Zj w l],f,_,by rw[z];simp[J8],u,S,P.2,by simp[B],k+Ab2 l,by rw[<- D];simp[Lq,Nat.add_assoc],by simp[Nat.add_assoc]⟩))
   ·rintro b O ⟨c,e,K,z,L,q,p,B,k,D,rfl⟩
    cases L
    have e2:J8 w g=c:=by rw[z];simp[J8]
    have T:k=Lq g:=D
    have h:Q (reduceHash (Builtin.Tuple.tupleHashOf (J8 w g))) { s with toks:=s.toks+(Lq g+1) }:=h
    rw[e2]at h;subst T
    show wpAny _ _ (retInt (Builtin.Tuple.tupleHashOf b.toList)) _ _ _
    rw[B]
    refine wpAny_ret_mkInt ?_
    show wpAny _ _ (if (decide (-(2:Int) ^ 63<=Builtin.Tuple.tupleHashOf c)&&decide (Builtin.Tuple.tupleHashOf c<2 ^ 63))=true then _ else _) Q E _
    unfold reduceHash at h
    by_cases hr:(decide (-(2:Int) ^ 63<=Builtin.Tuple.tupleHashOf c)&&decide (Builtin.Tuple.tupleHashOf c<2 ^ 63))=true
    ·rw[if_pos hr]
     rw[if_pos hr]at h
     exact wpAny_pure (by simpa[Nat.add_assoc] using h)
    ·rw[if_neg hr]
     rw[if_neg hr]at h
     exact wpAny_bind (wpAny_rule (wpAny_pure (by simpa[Nat.add_assoc] using h)))
theorem Aj4:∀(m:Nat) (d:PyData),d.depth<=m->keyB d=true->∀(A:Around) (E:Value->Shared->Prop) (s:Shared) (v:Value) (j:List Addr) (Q:Bool->Shared->Prop),Reads s.heap v d j->Q true s->wpAny (model prog w) A (eqIsQuiet (m+1) v) Q E s:=by
 intro m
 induction m with
 | zero =>
  intro d q f A E s v j Q r h
  cases r with
  | none=>rw[eqIsQuiet_byValue _ rfl];exact wpAny_pure h
  | int i t=>rw[eqIsQuiet_byValue _ rfl];exact wpAny_pure h
  | str x t=>rw[eqIsQuiet_byValue _ rfl];exact wpAny_pure h
  | tuple=>exact absurd q (by simp[PyData.depth])
  | bool b=>cases f
  | list=>cases f
  | dict=>cases f
 | succ n O =>
  intro d q f A E s v j Q r h
  cases r with
  | none=>rw[eqIsQuiet_byValue _ rfl];exact wpAny_pure h
  | int i t=>rw[eqIsQuiet_byValue _ rfl];exact wpAny_pure h
  | str x t=>rw[eqIsQuiet_byValue _ rfl];exact wpAny_pure h
  | bool b=>cases f
  | list=>cases f
  | dict=>cases f
  | @tuple a o y n' M j G L l U =>
   have D:s.TypeIs (.ref a) _:=⟨o,G,L⟩
   have p := Nat.le_of_succ_le_succ (show PyData.depthAll _+1<=n+1 from q)
   unfold eqIsQuiet
   refine wpAny_bind (wpAny_specialOf D F.slot_tuple_eq.lookup ?_)
   refine wpAny_bind (wpAny_isInstance D isSubtype_tuple_tuple ?_)
   refine wpAny_bind (wpAny_seqItems G l ?_)
   refine wpAny_bind ?_
   rw[<- Array.forIn_toList]
   refine wpAny_forIn_list _ (λe r u=>r.1=none/\u=s/\∃c H,ReadsAll _ e c H/\Jo c=true/\PyData.depthAll c<=n) _ ?_ ?_ _ _ ⟨rfl,rfl,M,_,U,f,p⟩
   ·rintro v e r u ⟨C,rfl,c,H,J,k,z⟩
    cases J with
    | @cons _ _ N g P R K B =>
     obtain⟨S,T⟩:=Bool.and_eq_true_iff.mp (show (keyB _&&Jo _)=true from k)
     have I:N.depth<=n/\PyData.depthAll g<=n:=by
      have:max _ _<=n:=z;omega
     refine wpAny_bind (O _ I.1 S _ _ _ _ _ _ K ?_)
     exact wpAny_pure ⟨rfl,rfl,g,_,B,T,I.2⟩
   ·rintro⟨r1,r2⟩ u ⟨C,rfl,_⟩
    subst C;exact wpAny_pure h
def Bj0 (h:Heap)(k:PyData)(a:Addr):Prop:=(keyB k=true/\k.canLay0=true/\k.depth<=7)/\∃as,Reads h (.ref a) k as
def Lg (prog:Program)(w:World):HeapKind prog w PyData where
 is:=Bj0
 hash:=Zj w
 draws:=Ab2
 room:=λA=>A.units+8<cLine
 inj:=λhx hy=>let ⟨⟨_,l,_⟩,_,r⟩:=hx;let ⟨_,_,r'⟩:=hy; SeqAt.Reads.unique _ _ _ _ _ l r r'
 keeps:=λx ho hd hs=>let ⟨c,_,r⟩:=x; ⟨c,_,Tq ho hd hs _ c.1 _ _ r⟩
 pyHash:=λhu hk h=>let ⟨c,_,r⟩:=hk; Av8 7 _ c.2.2 c.1 _ _ _ _ _ _ (Nat.lt_of_le_of_lt (Nat.add_le_add_left (by decide) _) hu) r h
 eqBool:=λ{A E s x y a b Q} hu hx hy h=>by
  obtain⟨c,_,r⟩:=hx;obtain⟨d,_,r'⟩:=hy
  refine SeqAt.eqAt_reads x y A s _ _ _ _ r r' c.2.1 d.2.1 (Nat.lt_of_le_of_lt (Nat.add_le_add_left (Nat.le_trans (Nat.min_le_left _ _) (Nat.le_trans c.2.2 (by decide))) _) hu) prog w E Q ?_
  have e:PyData.eqv x y=decide (x=y):=by
   have:=Sh x y c.1 d.1
   by_cases z:x=y
   ·rw[decide_eq_true z];exact this.mpr z
   ·rw[decide_eq_false z]
    cases q:PyData.eqv x y with
    | false=>rfl
    | true=>exact absurd (this.mp q) z
  rw[e];exact h
 quiet:=λhk h=>let ⟨c,_,r⟩:=hk; Aj4 7 _ c.2.2 c.1 _ _ _ _ _ _ r h
end
inductive V where
 | non | bl (b:Bool) | int (i:Int) | str (x:Str) | byt (b:Array UInt8) | flt (b:UInt64) | ref (a:Addr) | ty (n:String)
 deriving DecidableEq
@[simp] theorem V.bl.injEq (a b:Bool):(V.bl a=V.bl b)=(a=b):=propext ⟨λh=>by cases h;rfl,λh=>by rw[h]⟩
@[simp] theorem V.int.injEq (a b:Int):(V.int a=V.int b)=(a=b):=propext ⟨λh=>by cases h;rfl,λh=>by rw[h]⟩
@[simp] theorem V.str.injEq (a b:Str):(V.str a=V.str b)=(a=b):=propext ⟨λh=>by cases h;rfl,λh=>by rw[h]⟩
@[simp] theorem V.byt.injEq (a b:Array UInt8):(V.byt a=V.byt b)=(a=b):=propext ⟨λh=>by cases h;rfl,λh=>by rw[h]⟩
@[simp] theorem V.ref.injEq (a b:Addr):(V.ref a=V.ref b)=(a=b):=propext ⟨λh=>by cases h;rfl,λh=>by rw[h]⟩
def RelV:V->Value->Prop
 | .non,u=>u=Value.none
 | .bl b,u=>u=Value.bool b
 | .int i,u=>∃t,u=Value.int i t
 | .str x,u=>∃t,u=Value.str x t
 | .byt b,u=>∃t,u=Value.bytes b t
 | .flt b,u=>∃t,u=Value.float b t
 | .ref a,u=>u=Value.ref a
 | .ty n,u=>u=Value.type n
abbrev Vals:List V->List Value->Prop:=Paired RelV
theorem Vals.length (r:Vals xs us):xs.length=us.length:=Paired.length r
theorem Vals.get:∀{xs:List V}{us:List Value}{i:Nat}{x:V},Vals xs us->xs[i]?=some x->∃u,us[i]?=some u/\RelV x u
 | _,_,_,_,.nil,e=>by simp at e
 | _,_,0,_,.cons r _,e=>by simp at e;subst e;exact⟨_,rfl,r⟩
 | _,_,i+1,x,.cons _ t,e=>by
  obtain⟨u,h1,h2⟩:=Vals.get (i:=i) (x:=x) t (by simpa using e)
  exact⟨u,by simpa using h1,h2⟩
theorem Vals.set {x:V}{u:Value}(r:RelV x u):∀{xs:List V}{us:List Value}(i:Nat),Vals xs us->Vals (xs.set i x) (us.set i u)
 | _,_,_,.nil=>.nil
 | _,_,0,.cons _ t=>.cons r t
 | _,_,i+1,.cons q t=>.cons q (Vals.set r i t)
theorem Vals.append:∀{xs ys:List V}{us ws:List Value},Vals xs us->Vals ys ws->Vals (xs++ys) (us++ws)
 | _,_,_,_,.nil,s=>s
 | _,_,_,_,.cons r t,s=>.cons r (Vals.append t s)
theorem Vals.take:∀{xs:List V}{us:List Value}(n:Nat),Vals xs us->Vals (xs.take n) (us.take n)
 | _,_,0,_=>.nil
 | _,_,_+1,.nil=>.nil
 | _,_,n+1,.cons r t=>.cons r (Vals.take n t)
theorem Vals.drop:∀{xs:List V}{us:List Value}(n:Nat),Vals xs us->Vals (xs.drop n) (us.drop n)
 | _,_,0,r=>r
 | _,_,_+1,.nil=>.nil
 | _,_,n+1,.cons _ t=>Vals.drop n t
def RelO:Option V->Option Value->Prop
 | some v,some u=>RelV v u
 | none,none=>True
 | _,_=>False
def KV {κ:Type}:List (κ×V)->List (κ×Value)->Prop:=Paired λ(p:κ×V) (q:κ×Value)=>p.1=q.1/\RelV p.2 q.2
noncomputable def kV:Key->V
 | .inl i=>.int i
 | .inr x=>.str x
inductive HO where
 | lst (xs:List V)
 | tup (xs:List V)
 | dK (kvs:List (Key×V)) | dT (kvs:List (PyData×V))
 | set (S:Int->Bool) (n:Nat)
 | ins (C dx:Addr) (fs:List (Str×V))
 | own (x:Addr)
 | xd (fs:List (Str×V))
 | met (f x:Addr)
 | rng (lo hi:Int)
 | frz (o:Obj) (u:HO)
 | tbl (q:Str)
 | ext (φ:Heap->Prop)
abbrev Hp:=Addr->Option HO
noncomputable def upd (H:Hp) (a:Addr) (o:HO):Hp:=λb=>if b=a then some o else H b
theorem Bw : upd H a o a=some o:=by unfold upd;simp_all
theorem Ar (h:b≠a):upd H a o b=H b:=by unfold upd;simp_all
theorem Bm6 {H:Hp} (h:H a=some o) (h':H b=some u) (d:o≠u):a≠b:=by
 grind
theorem Bl {H:Hp} (h:H a=some o) (h':H b=none):a≠b:=by
 grind
mutual
def KTr (H:Hp):PyData->V->Prop
 | .none,v=>v=.non
 | .int i,v=>v=.int i
 | .str x,v=>v=.str x
 | .tuple ds,v=>∃a vs,v=.ref a/\H a=some (.tup vs)/\KTrL H ds vs
 | _,_=>False
def KTrL (H:Hp):List PyData->List V->Prop
 | [],vs=>vs=[]
 | d::ds,vs=>∃v r,vs=v::r/\KTr H d v/\KTrL H ds r
end
mutual
theorem KTr.stay {H H':Hp}(ht:∀b xs,H b=some (.tup xs)->H' b=some (.tup xs)):∀{d:PyData}{v:V},KTr H d v->KTr H' d v
 | .none,_,h=>h
 | .int _,_,h=>h
 | .str _,_,h=>h
 | .tuple _,_,⟨a,vs,e,ha,t⟩=>⟨a,vs,e,ht _ _ ha,KTrL.stay ht t⟩
theorem KTrL.stay {H H':Hp}(ht:∀b xs,H b=some (.tup xs)->H' b=some (.tup xs)):∀{ds:List PyData}{vs:List V},KTrL H ds vs->KTrL H' ds vs
 | [],_,h=>h
 | _::_,_,⟨v,r,e,h,t⟩=>⟨v,r,e,KTr.stay ht h,KTrL.stay ht t⟩
end
def Bn5 (k:PyData):Prop:=keyB k=true/\k.canLay0=true/\k.depth<=7
def KAt (H:Hp)(k:PyData)(a:Addr):Prop:=Bn5 k/\KTr H k (.ref a)
theorem KAt.stay (ht:∀b xs,H b=some (.tup xs)->H' b=some (.tup xs)) (h:KAt H k a):KAt H' k a:=⟨h.1,KTr.stay ht h.2⟩
def zT (h:Heap)(a:Addr)(items:Array Value):Prop:=∃o,h.get? a=some o/\o.cls=.type "tuple" /\ (∃n,o.data=.seq items n)/\o.dict=none
theorem zT.tup (x:zT h a items):IsTup h a items:=let ⟨o,h1,h2,h3,_⟩:=x; ⟨o,h1,h2,h3⟩
theorem zT.lt (x:zT h a items):a<h.objs.size:=x.tup.lt
theorem zT.new (h:Heap)(items:Array Value):zT (h.push { cls:=.type "tuple",data:=.seq items }) h.objs.size items:=⟨_,Heap.get?_push_size _ rfl,rfl,⟨_,rfl⟩,rfl⟩
section
variable (P:Program)(w:World)
def z8 (H:Hp)(h:Heap)(a:Addr):HO->Prop
 | .lst xs=>xs.length<=sizeLine/\∃(its:List Value) (n:Nat),Vals xs its/\h.get? a=some { cls:=.type "list",data:=.seq its.toArray n }
 | .tup xs=>xs.length<=sizeLine/\∃its:List Value,Vals xs its/\zT h a its.toArray
 | .dK kvs=>kvs.length<=sizeLine/\(a==sysModules)=false/\∃vs,KV kvs vs/\h.DictOf (Dl P w) a vs
 | .dT kvs=>kvs.length<=sizeLine/\(a==sysModules)=false/\∃xs:List (PyData×Addr×Value),
  Paired (λ(p:PyData×V) (q:PyData×Addr×Value)=>p.1=q.1/\KAt H p.1 q.2.1/\RelV p.2 q.2.2) kvs xs /\
  ∃o es ep,h.get? a=some o/\o.ExactDict/\o.data=.dict es ep/\es.toList=xs.map (entryOfKey (Lg P w))/\(xs.map (·.1)).Nodup
 | .set S n=>h.SetOf (intKind P w) a S n
 | .ins C dx fs=>H dx=some (.own a)/\fs.length<=1000/\dx≠a/\h.get? a=some (PySem.W.instObj C dx) /\
  ∃mA,h.Ns1 dx mA/\(∀f,RelO (fs.lookup f) (mA f))/\PySem.Within mA (fs.map (·.1))
 | .own _=>∃o,h.get? a=some o
 | .xd fs=>∃mA,h.Ns1 a mA/\∀f,RelO (fs.lookup f) (mA f)
 | .rng lo hi=>∃t u v,h.get? a=some { cls:=.type "range",data:=.fields #[.int lo t,.int hi u,.int 1 v] }
 | .frz o u=>h.get? a=some o/\z8 H h a u
 | .tbl q=>∃ps:Array Value,h.get? a=some { cls:=.none,data:=.fields ps }/\TriplesOk ps.toList/\∀pos cv,codeAmong pos ps.toList=some cv->∃c o vs t,cv=.ref c/\H c=some (.frz o (.own 0))/\o.data=.fields vs/\vs[1]?=some (.str q t)
 | .met f x=>h.get? a=some (PySem.W.methodObj (.ref f) (.ref x))
 | .ext φ=>φ h/\(∃o,h.get? a=some o)/\∀h1 h2:Heap,φ h1->(∀o,h1.get? a=some o->h2.get? a=some o)->φ h2
def HOk (H:Hp)(h:Heap):Prop:=∀a o,H a=some o->z8 P w H h a o
end
section
variable {P:Program}{w:World}{H H':Hp}{h h':Heap}{a:Addr}{o:HO}
theorem z8.lt (x:z8 P w H h a o):a<h.objs.size:=by
 cases o with
 | lst d=>obtain⟨_,_,_,_,e⟩:=x;exact Heap.lt_size e
 | tup d=>obtain⟨_,_,_,p⟩:=x;exact p.lt
 | dK b=>obtain⟨_,_,_,_,o,_,_,e,_⟩:=x;exact Heap.lt_size e
 | dT b=>obtain⟨_,_,_,_,o,_,_,e,_⟩:=x;exact Heap.lt_size e
 | set S n=>obtain⟨o,_,_,_,e,_⟩:=x;exact Heap.lt_size e
 | ins C g c=>obtain⟨_,_,_,e,_⟩:=x;exact Heap.lt_size e
 | own y=>obtain⟨_,e⟩:=x;exact Heap.lt_size e
 | xd c=>obtain⟨_,⟨_,_,_,e,_⟩,_⟩:=x;exact Heap.lt_size e
 | rng j k=>obtain⟨_,_,_,e⟩:=x;exact Heap.lt_size e
 | frz l u=>obtain⟨e,_⟩:=x;exact Heap.lt_size e
 | tbl q=>obtain⟨_,e,_⟩:=x;exact Heap.lt_size e
 | met f y=>exact Heap.lt_size (x)
 | ext i=>obtain⟨_,⟨_,e⟩,_⟩:=x;exact Heap.lt_size e
theorem Paired.mapP {α β:Type}{F G:α->β->Prop}:∀{l₁:List α}{l₂:List β},Paired F l₁ l₂->(∀a b,F a b->G a b)->Paired G l₁ l₂
 | _,_,.nil,_=>.nil
 | _,_,.cons r t,f=>.cons (f _ _ r) (Paired.mapP t f)
theorem z8.stay (x:z8 P w H h a o)(k:∀b u,(b=a\/H b=some (.own a))->h.get? b=some u->h'.get? b=some u)
 (ho:∀b,H b=some (.own a)->H' b=some (.own a)) (ht:∀b m,H b=some (.tup m)->H' b=some (.tup m)) (hz:∀b o u,H b=some (.frz o u)->H' b=some (.frz o u):=by exact λ_ _ _ q=>q):z8 P w H' h' a o:=by
 induction o with
 | lst m=>obtain⟨z,l,n,r,e⟩:=x;exact⟨z,l,n,r,k _ _ (.inl rfl) e⟩
 | tup m=>obtain⟨z,l,r,g,e,c⟩:=x;exact⟨z,l,r,g,k _ _ (.inl rfl) e,c⟩
 | dK A=>obtain⟨z,y,D,r,g,i,j,e,c⟩:=x;exact⟨z,y,D,r,g,i,j,k _ _ (.inl rfl) e,c⟩
 | dT A =>
  obtain⟨z,y,m,r,g,i,j,e,c⟩:=x
  exact⟨z,y,m,Paired.mapP r λp q z=>⟨z.1,z.2.1.stay ht,z.2.2⟩,g,i,j,k _ _ (.inl rfl) e,c⟩
 | set S n=>obtain⟨g,i,j,t,e,c⟩:=x;exact⟨g,i,j,t,k _ _ (.inl rfl) e,c⟩
 | ins C M J =>
  obtain⟨d,z,G,e,s,⟨B,i,j,E,c⟩,r⟩:=x;exact⟨ho _ d,z,G,k _ _ (.inl rfl) e,s,⟨B,i,j,k _ _ (.inr d) E,c⟩,r⟩
 | own y=>obtain⟨g,e⟩:=x;exact⟨g,k _ _ (.inl rfl) e⟩
 | xd J=>obtain⟨s,⟨B,i,j,e,c⟩,r⟩:=x;exact⟨s,⟨B,i,j,k _ _ (.inl rfl) e,c⟩,r⟩
 | rng O N=>obtain⟨t,u,v,e⟩:=x;exact⟨t,u,v,k _ _ (.inl rfl) e⟩
 | frz g u K=>obtain⟨e,q⟩:=x;exact⟨k _ _ (.inl rfl) e,K q⟩
 | tbl q =>
  obtain⟨I,e,t,f⟩:=x
  exact⟨I,k a _ (.inl rfl) e,t,λL Q z=>let ⟨c,g,D,tk,e1,E,e3⟩:=f _ _ z; ⟨c,g,D,tk,e1,hz _ _ _ E,e3⟩⟩
 | met f y =>
  have e:h.get? a=some _:=x
  show h'.get? a=some _
  grind
 | ext R=>obtain⟨p,⟨o,e⟩,F⟩:=x;exact⟨F _ _ p λo q=>k _ _ (.inl rfl) q,⟨o,k _ _ (.inl rfl) e⟩,F⟩
theorem HOk.lt (x:HOk P w H h)(e:H a=some o):a<h.objs.size:=(x a o e).lt
theorem HOk.fresh (x:HOk P w H h)(e:h.objs.size<=a):H a=none:=by
 cases q:H a with
 | none=>rfl
 | some u=>exact absurd (Nat.lt_of_lt_of_le (x.lt q) e) (Nat.lt_irrefl _)
theorem HOk.kept (x:HOk P w H h)(k:∀b u,h.get? b=some u->h'.get? b=some u):HOk P w H h':=λa o e =>
 (x a o e).stay (λb u _ q=>k b u q) (λ_ q=>q) λ_ _ q=>q
theorem HOk.laid (x:HOk P w H h)(k:∀b u,h.get? b=some u->h'.get? b=some u)(hp:h.objs.size<=a)(f:z8 P w (upd H a o) h' a o):HOk P w (upd H a o) h':=λb u e=>by
 have d:=x.fresh hp
 by_cases hb:b=a
 ·subst hb;rw[Bw]at e;simp_all
 ·rw[Ar hb]at e
  exact(x b u e).stay (λc v _ q=>k c v q) λc q=>by rw[Ar (Bl q d)];grind λc g q=>by rw[Ar (Bl q d)];grind λc i g q=>by rw[Ar (Bl q d)];grind
end
def Rd (H:Hp)(a:Addr)(u:HO):Prop:=H a=some u\/∃o,H a=some (.frz o u)
theorem Rd.ok (r:Rd H a u) (x:HOk P w H h):z8 P w H h a u:=by
 rcases r with r | ⟨o,r⟩
 ·exact x a u r
 ·obtain⟨_,q⟩:=x a _ r
  omega
def Mut:Option HO->Prop
 | some (.lst _)=>True
 | some (.dK _)=>True
 | some (.dT _)=>True
 | some (.set _ _)=>True
 | some (.ins _ _ _)=>True
 | some (.ext _)=>True
 | _=>False
section
variable {P:Program}{w:World}{H:Hp}{h h':Heap}{x e:Addr}{o':HO}
theorem HOk.write (s:HOk P w H h)(f:Mut (H x))(he:e=x\/H e=some (.own x))(k:∀b u,b≠e->h.get? b=some u->h'.get? b=some u)(m:∃u,h'.get? e=some u)
 (l:z8 P w (upd H x o') h' x o'):HOk P w (upd H x o') h':=λb u q=>by
 have a:∀c y,H c=some (.own y)->c≠x:=λc y r z=>by subst z;rw[r]at f;exact f
 have i:∀c d,H c=some (.tup d)->c≠x:=λc d r z=>by subst z;rw[r]at f;exact f
 have g:∀c n d,H c=some (.frz n d)->c≠x:=λc n d r z=>by subst z;rw[r]at f;exact f
 by_cases hb:b=x
 ·subst hb;rw[Bw]at q;cases q;exact l
 ·rw[Ar hb]at q
  by_cases hbe:b=e
  ·have o:H b=some (.own x):=by
    simp_all
   rw[q]at o;cases o;obtain⟨v,p⟩:=m
   exact⟨v,by rw[hbe];exact p⟩
  ·refine (s b u q).stay (λc v j r=>k c v ?_ r) (λc r=>by rw[Ar (a c b r)];exact r) (λc d r=>by rw[Ar (i c _ r)];exact r) λc n d r=>by rw[Ar (g c _ _ r)];exact r
   rcases j with rfl | j
   ·exact hbe
   ·rintro rfl
    rcases he with z | z
    ·exact a c b j z
    ·rw[j]at z;cases z;exact hb rfl
end
structure Un (fs ex:List Addr) (H H':Hp) (h h':Heap):Prop where
 keep:∀b o,h.get? b=some o->H b=none->b∉fs->b∉ex->h'.get? b=some o
 slot:∀b o,h.get? b=some o->H b=none->b∈fs->b∉ex->∃sl,h'.get? b=some { o with slots:=sl }
 free:∀b o,h.get? b=some o->H b=none->b∉ex->H' b=none
 there:∀b o,h.get? b=some o->b∉ex->∃o',h'.get? b=some o'
 tups:∀b xs,H b=some (.tup xs)->H' b=some (.tup xs)
 frzs:∀b o u,H b=some (.frz o u)->H' b=some (.frz o u)
 tbls:∀b q,H b=some (.tbl q)->H' b=some (.tbl q)
section
variable {fs ex:List Addr}{H H1:Hp}{h h1 h':Heap}{a x e:Addr}{o:HO}
theorem Un.any (u:Un fs ex H H1 h h1) (q:h.get? b=some ob) (n:H b=none) (hx:b∉ex):∃sl,h1.get? b=some { ob with slots:=sl }:=by
 by_cases hb:b∈fs
 ·exact u.slot b _ q n hb hx
 ·exact⟨ob.slots,u.keep b _ q n hb hx⟩
theorem Un.kept (k:∀b u,h.get? b=some u->h'.get? b=some u):Un fs ex H H h h' :=
 ⟨λb a q _ _ _=>k b _ q,λb a q _ _ _=>⟨a.slots,k b a q⟩,λ_ _ _ n _=>n,λb a q _=>⟨a,k b _ q⟩,λ_ _ q=>q,λ_ _ _ q=>q,λ_ _ q=>q⟩
theorem Un.refl:Un fs ex H H h h:=Un.kept λ_ _ q=>q
theorem Un.laid (k:∀b u,h.get? b=some u->h'.get? b=some u)(hp:h.objs.size<=a)(hn:H a=none):Un fs ex H (upd H a o) h h' where
 keep:=λb u q _ _ _=>k b u q
 slot:=λb u q _ _ _=>⟨u.slots,k b u q⟩
 free:=λb u q n _=>by rw[Ar (Nat.ne_of_lt (Nat.lt_of_lt_of_le (Heap.lt_size q) hp))];exact n
 there:=λb u q _=>⟨u,k b u q⟩
 tups:=λb xs q=>by rw[Ar (Bl q hn)];exact q
 frzs:=λb u xs q=>by rw[Ar (Bl q hn)];exact q
 tbls:=λb ps q=>by rw[Ar (Bl q hn)];exact q
theorem Un.write (d:Mut (H x))(he:e=x\/H e=some (.own x))(k:∀b u,b≠e->h.get? b=some u->h'.get? b=some u)(f:∃u,h'.get? e=some u):Un fs ex H (upd H x o) h h':=by
 have i:∀b,H b=none->b≠x:=λb n z=>by subst z;rw[n]at d;exact d
 have c:∀b,H b=none->b≠e:=λb n z=>by
  grind
 have a:∀b u,H b=some u->¬ Mut (some u)->b≠x:=λb u q l z=>by simp_all
 refine⟨λb u q n _ _=>k b u (c b n) q,λb u q n _ _=>⟨u.slots,k b u (c b n) q⟩,λb u q n _=>by rw[Ar (i b n)];grind,λb u q _=>?_,
  λb g q=>by rw[Ar (a b _ q λz=>z)];grind,λb u g q=>by rw[Ar (a b _ q λz=>z)];grind,λb j q=>by rw[Ar (a b _ q λz=>z)];grind⟩
 grind
end
noncomputable def trk (h:Heap) (H:Hp):List Addr:=(List.range h.objs.size).filter λa=>(H a).isSome
def Vh (h:Heap)(H:Hp):Heap:=PySem.W.hideAll h (trk h H)
theorem Ax6 (h:Heap)(H:Hp):(Vh h H).objs.size=h.objs.size:=PySem.W.hideAll_size _ _
theorem A5c (e:h.get? b=some o) (n:H b=none):(Vh h H).get? b=some o :=
 PySem.W.hideAll_get _ e λa=>by
  have q := (List.mem_filter.mp a).2
  grind
theorem A8d (e:(Vh h H).get? b=some o):h.get? b=some o/\H b=none:=by
 have a := PySem.W.of_hideAll _ e
 refine⟨a,?_⟩
 cases q:H b with
 | none=>rfl
 | some x =>
  have c:b∈trk h H:=List.mem_filter.mpr ⟨List.mem_range.mpr (Heap.lt_size a),by grind⟩
  have z:(Vh h H).get? b=none:=PySem.W.hideAll_none _ c
  simp_all
noncomputable def A7q (g h:Heap) (L:Addr):List (Addr×Obj):=(List.range h.objs.size).filterMap λa=>if a=L\/(g.get? a).isSome=true then none else (h.get? a).map λo=>(a,o)
def rest (g h:Heap)(L d:Addr):List (Addr×Obj):=(A7q g h L).filter λp=>decide (p.1≠d)
noncomputable def An5 (T:Addr) (q:Str):Obj:={ cls:=.str q 0,data:=.cell (some (.ref T)) }
noncomputable def U4 (o:Obj):Option (Addr×Str):=match o.data with
 | .cell (some (.ref T))=>(match o.cls with
  | .str q _=>some (T,q)
  | _=>none)
 | _=>none
def Ej (K:PySem.W.Frag):List (Addr×Str):=K.filterMap λp=>U4 p.2
structure Mod (K:PySem.W.Frag) (mg:Str->Option Value) (base:Heap):Prop where
 kin:K.In base
 glob:base.Ns mainGlobals mg
 blt:∃mb,base.Ns builtinsNs mb/\∀x:Str,x ≠ "__name__" -> mb x=bootBuiltins x
 nolimit:base.NoLimit
 bmod:∃bm o,mg "__builtins__" = some (.ref bm)/\bm≠builtinsNs/\bm≠mainGlobals/\base.get? bm=some o/\o.cls=.type "module" /\ o.dict=some builtinsNs/\o.data=.plain
structure Cx where
 prog:Program
 w:World
 K:PySem.W.Frag
 mg:Str->Option Value
 base:Heap
 A:Around
 N:List Str
 s₀:Shared
 H₀:Hp
 env:Env
 outer:List Env
 stack:List Env
 ex:List Addr
 fn:Str->Bool
 calm:Bool
 pn:List (Addr×Obj)
 xe:Value->Shared->Prop
noncomputable def frs (l:List Env):List Addr:=l.filterMap (·.frame)
abbrev Cx.fs (X:Cx):List Addr:=frs X.outer
def Vis (sc:Scope)(x:Str):Prop:=sc.names.lookup x=some .local\/sc.names.lookup x=some .cell\/sc.names.lookup x=some .free
def Loc (sc:Scope)(x:Str):Prop:=sc.names.lookup x=some .local\/sc.names.lookup x=some .cell
def Look (env:Env)(h:Heap)(m:Str->Option Value)(x:Str)(u:Value):Prop :=
 (env.kindOf x=some .local/\m x=some u)\/((env.kindOf x=some .cell\/env.kindOf x=some .free)/\∃c,env.cells.lookup x=some c/\h.IsCell c (some u))
structure Cx.Ok (X:Cx):Prop where
 mod:Mod X.K X.mg X.base
 kind:X.env.scope.kind=.function
 glob:X.env.globals=mainGlobals
 blt:X.env.builtins=builtinsNs
 above:X.s₀.heap.objs.size<=X.env.locals
 inj:∀x y c,X.env.cells.lookup x=some c->X.env.cells.lookup y=some c->x=y
 has:∀x,(X.env.kindOf x=some .cell\/X.env.kindOf x=some .free)->∃c,X.env.cells.lookup x=some c
 cab:∀x c,X.fn x=true->X.env.cells.lookup x=some c->X.s₀.heap.objs.size<=c
 hd:X.calm=true->X.A.handled=none
 frames:X.A.frames=some X.stack
 stk:X.stack=X.outer\/(X.stack=X.env::X.outer/\X.env.frame=some X.env.locals)
 exf:∀b∈X.ex,b≠X.env.locals/\∀x c,X.env.cells.lookup x=some c->c≠b
 bs:∀b o,X.base.get? b=some o->X.s₀.heap.get? b=some o/\X.H₀ b=none
 bsz:X.base.objs.size<=X.s₀.heap.objs.size
 noex:∀b o,X.base.get? b=some o->b∉X.ex
 exfs:∀b∈X.ex,b∉X.fs
 funs:X.s₀.heap.FunFrames X.base X.outer
 frf:∀b∈X.fs,X.H₀ b=none
 tab:∀p∈Ej X.K,X.H₀ p.1=some (.tbl p.2)
structure Inv (X:Cx) (pins:List (Addr×Obj)) (σ:List (Option V)) (H:Hp) (s:Shared):Prop where
 ok:X.Ok
 os:s.os=X.s₀.os
 bare:AllBare s.gens
 base:Un X.fs X.ex X.H₀ H X.s₀.heap s.heap
 loc:∃m,s.heap.Ns X.env.locals m/\∀(i:Nat) (x:Str) (v:V),X.N[i]?=some x->σ[i]?=some (some v)->Vis X.env.scope x->∃u,RelV v u/\Look X.env s.heap m x u
 cell:∀x c,X.env.cells.lookup x=some c->∃v,s.heap.IsCell c v
 free:H X.env.locals=none
 freeC:∀x c,X.env.cells.lookup x=some c->H c=none
 pin:∀p∈X.pn++pins,s.heap.get? p.1=some p.2/\H p.1=none/\p.1≠X.env.locals/\p.1∉X.fs/\∀v,p.2.data≠.cell v
 hok:HOk X.prog X.w H s.heap
 len:σ.length=X.N.length
section
variable {X:Cx}{pins:List (Addr×Obj)}{σ:List (Option V)}{H H':Hp}{s:Shared}{h':Heap}
theorem Cx.Ok.nofr (c:X.Ok) (e:X.base.get? b=some o):b∉X.fs:=λa=>by
 have:=(c.funs.mem a).1
 simp_all
theorem Inv.bs (I:Inv X pins σ H s):∀b o,X.base.get? b=some o->s.heap.get? b=some o/\H b=none:=λb o e =>
 ⟨I.base.keep b o (I.ok.bs b o e).1 (I.ok.bs b o e).2 (I.ok.nofr e) (I.ok.noex b o e),I.base.free b o (I.ok.bs b o e).1 (I.ok.bs b o e).2 (I.ok.noex b o e)⟩
theorem Inv.bk (I:Inv X pins σ H s):∀b o,X.base.get? b=some o->s.heap.get? b=some o:=λb o e=>(I.bs b o e).1
theorem Inv.mod (I:Inv X pins σ H s):Mod X.K X.mg X.base:=I.ok.mod
theorem Inv.kIn (I:Inv X pins σ H s):X.K.In s.heap:=I.ok.mod.kin.keeps I.bk
theorem Inv.nolimit (I:Inv X pins σ H s):s.heap.NoLimit:=I.ok.mod.nolimit.keeps I.bk
theorem Inv.fr (I:Inv X pins σ H s):∃m,Fr X.base X.env.locals s.heap m :=
 let ⟨m,hn,_⟩:=I.loc
 ⟨m,hn,I.bk,Nat.le_trans I.ok.bsz I.ok.above⟩
theorem Inv.lt (I:Inv X pins σ H s):X.env.locals<s.heap.objs.size:=let ⟨_,hn,_⟩:=I.loc;hn.lt
theorem Inv.sz (I:Inv X pins σ H s):X.s₀.heap.objs.size<=s.heap.objs.size:=Nat.le_trans I.ok.above (Nat.le_of_lt I.lt)
theorem Inv.nofs (I:Inv X pins σ H s) (h:s.heap.objs.size<=a):a∉X.fs:=λc=>by
 obtain⟨_,o,b,_⟩:=I.ok.funs.mem c;exact absurd (Nat.lt_of_lt_of_le (Heap.lt_size b) (Nat.le_trans I.sz h)) (Nat.lt_irrefl _)
theorem Inv.cne (I:Inv X pins σ H s):∀x c,X.env.cells.lookup x=some c->c≠X.env.locals:=λx c e z=>by
 obtain⟨v,o,d,i⟩:=I.cell x c e;obtain⟨m,⟨f,g,h,a,b,_⟩,_⟩:=I.loc
 simp_all
theorem Inv.funs (I:Inv X pins σ H s):s.heap.FunFrames X.base X.outer:=by
 have d:∀(l:List _),(∀b∈frs l,b∈X.fs)->X.s₀.heap.FunFrames X.base l->s.heap.FunFrames X.base l:=by
  intro l
  induction l with
  | nil=>intro _ _;trivial
  | cons h r j =>
   intro g q;obtain⟨i,⟨L,o,f,k,m,n⟩,p⟩:=q
   have c := g L (by unfold frs;simp_all)
   obtain⟨t,e⟩:=I.base.slot L o m (I.ok.frf L c) c λz=>I.ok.exfs L z c
   exact⟨i,⟨L,_,f,k,e,n⟩,j (λb a=>g b (by unfold frs;rw[List.filterMap_cons,f];exact List.mem_cons_of_mem _ a)) p⟩
 exact d _ (λ_ a=>a) I.ok.funs
theorem Inv.stack (I:Inv X pins σ H s):s.heap.FunFrames X.base X.stack:=by
 rcases I.ok.stk with e | ⟨e,b⟩
 ·rw[e];exact I.funs
 ·rw[e]
  obtain⟨m,a,_⟩:=I.loc
  refine .cons (by rw[I.ok.kind];decide) b a ?_ I.funs
  exact Heap.get?_none_of_le (Nat.le_trans I.ok.bsz I.ok.above)
theorem Inv.stkSub (I:Inv X pins σ H s):∀b∈frs X.stack,b∈X.env.locals::X.fs:=λb a=>by
 rcases I.ok.stk with e | ⟨e,c⟩
 ·simp_all
 ·rw[e]at a
  unfold frs at a;rw[List.filterMap_cons,c]at a;exact a
theorem Inv.stkFree (I:Inv X pins σ H s):∀b∈frs X.stack,H b=none:=λb a=>by
 rcases List.mem_cons.mp (I.stkSub b a) with e | a
 ·rw[e];exact I.free
 ·obtain⟨_,o,c,_⟩:=I.ok.funs.mem a
  exact I.base.free b o c (I.ok.frf b a) λz=>I.ok.exfs b z a
theorem Inv.step {ch:List Addr}(I:Inv X pins σ H s)
 (j:∀b∈ch,(b∈X.ex\/X.s₀.heap.objs.size<=b)/\b≠X.env.locals/\(∀x c,X.env.cells.lookup x=some c->c≠b)/\∀p∈X.pn++pins,p.1≠b)
 (t:∀b o,b≠X.env.locals->b∉X.fs->b∉ch->s.heap.get? b=some o->H b=none->h'.get? b=some o)
 (slot:∀b o,b≠X.env.locals->b∈X.fs->b∉ch->s.heap.get? b=some o->H b=none->∃L,h'.get? b=some { o with slots:=L }) (f:∀b o,b∉ch->s.heap.get? b=some o->H b=none->H' b=none)
 (w:∀b o,b∉ch->s.heap.get? b=some o->∃O,h'.get? b=some O)
 (D:∀b J,H b=some (.tup J)->H' b=some (.tup J)) (F:∀b o u,H b=some (.frz o u)->H' b=some (.frz o u)) (C:∀b q,H b=some (.tbl q)->H' b=some (.tbl q))
 (ns:∀m,s.heap.Ns X.env.locals m->h'.Ns X.env.locals m) (N:HOk X.prog X.w H' h') (hg:AllBare g') :
 Inv X pins σ H' { s with heap:=h',gens:=g',drawn:=d',toks:=t' }:=by
 have G:∀b o,X.s₀.heap.get? b=some o->b≠X.env.locals:=λb o e=>Nat.ne_of_lt (Nat.lt_of_lt_of_le (Heap.lt_size e) I.ok.above)
 have h:∀b o,X.s₀.heap.get? b=some o->b∉X.ex->b∉ch:=λb o e a A=>by
  rcases (j b A).1 with z | z
  ·exact a z
  ·exact absurd (Nat.lt_of_lt_of_le (Heap.lt_size e) z) (Nat.lt_irrefl _)
 have g:∀x c,X.env.cells.lookup x=some c->∀v,s.heap.IsCell c v->h'.IsCell c v:=λx c e v ⟨o,B,K⟩=>by
  have E:c∉ch:=λz=>(j c z).2.2.1 x c e rfl
  by_cases hc:c∈X.fs
  ·obtain⟨L,q⟩:=slot c o (I.cne x c e) hc E B (I.freeC x c e)
   exact⟨_,q,K⟩
  ·exact⟨o,t c o (I.cne x c e) hc E B (I.freeC x c e),K⟩
 refine⟨I.ok,I.os,hg,⟨λb o e n A a=>?_,λb o e n A a=>?_,λb o e n a=>?_,λb o e a=>?_,λb J e=>D b _ (I.base.tups b _ e),λb o J e=>F b o _ (I.base.frzs b o _ e),λb V e=>?_⟩,?_,λx c e=>?_,?_,λx c e=>?_,λp Q=>?_,N,I.len⟩
 ·exact t b o (G b o e) A (h b o e a) (I.base.keep b o e n A a) (I.base.free b o e n a)
 ·obtain⟨L,y⟩:=I.base.slot b o e n A a
  obtain⟨P,M⟩:=slot b _ (G b o e) A (h b o e a) y (I.base.free b o e n a);exact⟨P,M⟩
 ·obtain⟨O,y⟩:=I.base.there b o e a
  exact f b _ (h b o e a) y (I.base.free b o e n a)
 ·obtain⟨O,y⟩:=I.base.there b o e a
  exact w b _ (h b o e a) y
 ·exact C b _ (I.base.tbls b _ e)
 ·obtain⟨m,R,S⟩:=I.loc
  refine⟨m,ns m R,λi x v y M T=>?_⟩
  obtain⟨u,r,l⟩:=S i x v y M T
  refine⟨u,r,?_⟩
  rcases l with l | ⟨k,c,e,z⟩
  ·exact .inl l
  ·exact .inr ⟨k,c,e,g x c e _ z⟩
 ·obtain⟨v,z⟩:=I.cell x c e
  exact⟨v,g x c e v z⟩
 ·obtain⟨m,⟨o,_,_,B,_⟩,_⟩:=I.loc
  exact f _ o (λz=>(j _ z).2.1 rfl) B I.free
 ·obtain⟨v,o,B,K⟩:=I.cell x c e
  exact f c o (λz=>(j c z).2.2.1 x c e rfl) B (I.freeC x c e)
 ·obtain⟨e,n,W,U,d⟩:=I.pin p Q
  grind
theorem Inv.un (I:Inv X pins σ H s) (u:Un X.fs [] H H' s.heap h') (g:HOk X.prog X.w H' h'):Inv X pins σ H' { s with heap:=h',toks:=t' }:=by
 obtain⟨m,⟨o,l,v,h,r⟩,_⟩:=id I.loc
 obtain⟨q,j⟩:=u.any h I.free (by simp)
 exact I.step (ch:=[]) (λ_ z=>nomatch z) (λb o _ c _ e n=>u.keep b o e n c (by simp)) (λb o _ c _ e n=>u.slot b o e n c (by simp)) (λb o _ e n=>u.free b o e n (by simp)) (λb o _ e=>u.there b o e (by simp)) u.tups u.frzs u.tbls (λt i=>by
  obtain⟨p,d,f,a,k⟩:=i;rw[h]at a;cases a
  exact⟨_,d,f,j,k⟩) g I.bare
theorem Inv.call (I:Inv X pins σ H s) (u:Un (frs X.stack) ch H H' s.heap h') (g:HOk X.prog X.w H' h') (hg:AllBare g')
 (d:∀b∈ch,(b∈X.ex\/X.s₀.heap.objs.size<=b)/\b≠X.env.locals/\(∀x c,X.env.cells.lookup x=some c->c≠b)/\∀p∈X.pn++pins,p.1≠b) :
 Inv X pins σ H' { s with heap:=h',gens:=g',drawn:=d',toks:=t' }:=by
 obtain⟨m,⟨o,v,A,k,r⟩,_⟩:=id I.loc
 obtain⟨y,h⟩:=u.any k I.free λz=>(d _ z).2.1 rfl
 exact I.step d (λb o h q a e n=>u.keep b o e n (λz=>(List.mem_cons.mp (I.stkSub b z)).elim h q) a) (λb o _ _ a e n=>u.any e n a) (λb o a e n=>u.free b o e n a) (λb o a e=>u.there b o e a) u.tups u.frzs u.tbls (λB t=>by
  obtain⟨w,j,i,f,l⟩:=t;rw[k]at f;cases f
  exact⟨_,j,i,h,l⟩) g hg
theorem Inv.turned (I:Inv X pins σ H s) (k:∀b o,b≠it->s.heap.get? b=some o->h'.get? b=some o) (hn:H it=none) (h:it≠X.env.locals)
 (h1:it∈X.ex\/X.s₀.heap.objs.size<=it) (h2:∀x c,X.env.cells.lookup x=some c->c≠it) (j:∀p∈X.pn++pins,p.1≠it):Inv X pins σ H { s with heap:=h',toks:=t' }:=by
 refine I.step (ch:=[it]) (λb t=>?_) (λb o _ _ a e _=>k b o (λz=>a (by grind)) e) (λb o _ _ a e _=>⟨o.slots,k b o (λz=>a (by grind)) e⟩) (λ_ _ _ _ n=>n)
  (λb o a e=>⟨o,k b o (λz=>a (by grind)) e⟩) (λ_ _ e=>e) (λ_ _ _ e=>e) (λb l e=>e) (λm g=>?_) (λb u e=>?_) I.bare
 ·grind
 ·obtain⟨o,f,i,d,r⟩:=g
  exact⟨o,f,i,k _ o (Ne.symm h) d,r⟩
 ·refine (I.hok b u e).stay (λc v a q=>k c v ?_ q) (λ_ q=>q) λ_ _ q=>q
  grind
theorem Inv.tok (I:Inv X pins σ H s)(t:Nat):Inv X pins σ H { s with toks:=t }:=I.un Un.refl I.hok
theorem Inv.kept (I:Inv X pins σ H s) (k:∀b u,s.heap.get? b=some u->h'.get? b=some u):Inv X pins σ H { s with heap:=h',toks:=t' }:=I.un (Un.kept k) (I.hok.kept k)
theorem Inv.laid (I:Inv X pins σ H s) (k:∀b u,s.heap.get? b=some u->h'.get? b=some u) (hp:s.heap.objs.size<=a) (c:z8 X.prog X.w (upd H a o) h' a o) :
 Inv X pins σ (upd H a o) { s with heap:=h',toks:=t' }:=I.un (Un.laid k hp (I.hok.fresh hp)) (I.hok.laid k hp c)
theorem Inv.write (I:Inv X pins σ H s) (d:Mut (H x)) (he:e=x\/H e=some (.own x)) (k:∀b u,b≠e->s.heap.get? b=some u->h'.get? b=some u) (a:∃u,h'.get? e=some u)
 (c:z8 X.prog X.w (upd H x o) h' x o):Inv X pins σ (upd H x o) { s with heap:=h',toks:=t' }:=I.un (Un.write d he k a) (I.hok.write d he k a c)
theorem Inv.pins_of (I:Inv X pins σ H s) (h:∀p∈a,s.heap.get? p.1=some p.2/\H p.1=none/\p.1≠X.env.locals/\p.1∉X.fs/\∀v,p.2.data≠.cell v):Inv X a σ H s :=
 ⟨I.ok,I.os,I.bare,I.base,I.loc,I.cell,I.free,I.freeC,λp b=>(List.mem_append.mp b).elim (λz=>I.pin p (List.mem_append_left _ z)) (h p),I.hok,I.len⟩
theorem Ab6 {N:List Str}(hN:N.Nodup){i j:Nat} (a:N[i]?=some x) (b:N[j]?=some x):i=j:=by
 obtain⟨e,d⟩:=List.getElem?_eq_some_iff.mp a;obtain⟨f,c⟩:=List.getElem?_eq_some_iff.mp b;exact(List.getElem_inj hN).mp (d.trans c.symm)
theorem Wi (I:Inv X pins σ H s) (hN:X.N.Nodup) (hi:X.N[i]?=some x) (hx:Loc X.env.scope x) (r:RelV v u)
 (h:∀s',Inv X pins (σ.set i (some v)) H s'->(∃a,Heap.SameBut a s.heap s'.heap/\(a=X.env.locals\/X.env.cells.lookup x=some a))->Q () s') (hf:X.fn x=true\/X.env.scope.names.lookup x=some .local:=by first | exact .inl rfl | exact .inr rfl | assumption):wpAny M A (storeName X.env x u) Q E s:=by
 obtain⟨m,S,hl⟩:=id I.loc
 have K:(X.env.scope.kind==.class||(X.env.scope.kind==.module&&X.env.locals != X.env.globals))=false:=by rw[I.ok.kind];rfl
 have C:i<σ.length:=by rw[I.len];exact(List.getElem?_eq_some_iff.mp hi).1
 have J:=I.cne
 have g:∀{a:Addr} {L:Heap},(∃o,s.heap.get? a=some o/\H a=none)->Heap.SameBut a s.heap L->HOk X.prog X.w H L:=λ{a L} ha f b ob e=>by
  obtain⟨_,_,w⟩:=ha
  refine (I.hok b ob e).stay (λc w' t q=>(f.2 c ?_).trans q) (λ_ q=>q) λ_ _ q=>q
  rintro rfl
  rcases t with rfl | t
  ·rw[w]at e;cases e
  ·rw[w]at t;cases t
 rcases hx with D | D
 ·refine wpAny_storeName_local D S (λL hn' f=>?_) K
  obtain⟨oL,_,_,hoL,_⟩:=id S
  refine h _ ⟨I.ok,I.os,I.bare,⟨λb o e n F hx=>?_,λb o e n F hx=>?_,I.base.free,λb o e hx=>?_,I.base.tups,I.base.frzs,I.base.tbls⟩,⟨_,hn',λj y v' l B T=>?_⟩,λy c e=>?_,I.free,I.freeC,λp U=>?_,g ⟨oL,hoL,I.free⟩ f,by simpa using I.len⟩ ⟨_,f,.inl rfl⟩
  ·exact(f.2 b (Nat.ne_of_lt (Nat.lt_of_lt_of_le (Heap.lt_size e) I.ok.above))).trans (I.base.keep b o e n F hx)
  ·obtain⟨W,l⟩:=I.base.slot b o e n F hx
   exact⟨W,(f.2 b (Nat.ne_of_lt (Nat.lt_of_lt_of_le (Heap.lt_size e) I.ok.above))).trans l⟩
  ·obtain⟨Y,l⟩:=I.base.there b o e hx
   exact⟨Y,(f.2 b (Nat.ne_of_lt (Nat.lt_of_lt_of_le (Heap.lt_size e) I.ok.above))).trans l⟩
  ·by_cases hj:j=i
   ·subst hj
    rw[hi]at l;cases l;rw[List.getElem?_set_self C]at B
    cases B
    exact⟨u,r,.inl ⟨D,by simp⟩⟩
   ·rw[List.getElem?_set_ne (Ne.symm hj)]at B
    obtain⟨Z,r',q⟩:=hl j y _ l B T
    refine⟨Z,r',?_⟩
    rcases q with ⟨k,e⟩ | ⟨k,c,e,z⟩
    ·refine .inl ⟨k,?_⟩
     have:y≠x:=λe=>hj (Ab6 hN l (e▸hi))
     simp[this,e]
    ·exact .inr ⟨k,c,e,z.sameBut f (J y c e)⟩
  ·obtain⟨w',z⟩:=I.cell y c e
   exact⟨w',z.sameBut f (J y c e)⟩
  ·obtain⟨e,n,R,nf,d⟩:=I.pin p U
   exact⟨(f.2 _ R).trans e,n,R,nf,d⟩
 ·have G:X.fn x=true:=by
   rcases hf with z | z
   ·exact z
   ·rw[z]at D;cases D
  obtain⟨c,t⟩:=I.ok.has x (.inl D);obtain⟨w',z⟩:=I.cell x c t
  refine wpAny_storeName_cell I.ok.kind D t z λL N f=>?_
  obtain⟨oc,P,O⟩:=id z
  refine h _ ⟨I.ok,I.os,I.bare,⟨λb o e n F hx=>?_,λb o e n F hx=>?_,I.base.free,λb o e hx=>?_,I.base.tups,I.base.frzs,I.base.tbls⟩,⟨m,S.sameBut f (Ne.symm (J x c t)),λj y v' l B T=>?_⟩,λy c' e=>?_,I.free,I.freeC,λp U=>?_,g ⟨oc,P,I.freeC x c t⟩ f,by simpa using I.len⟩ ⟨c,f,.inr t⟩
  ·exact(f.2 b (Nat.ne_of_lt (Nat.lt_of_lt_of_le (Heap.lt_size e) (I.ok.cab x c G t)))).trans (I.base.keep b o e n F hx)
  ·obtain⟨W,l⟩:=I.base.slot b o e n F hx
   exact⟨W,(f.2 b (Nat.ne_of_lt (Nat.lt_of_lt_of_le (Heap.lt_size e) (I.ok.cab x c G t)))).trans l⟩
  ·obtain⟨Y,l⟩:=I.base.there b o e hx
   exact⟨Y,(f.2 b (Nat.ne_of_lt (Nat.lt_of_lt_of_le (Heap.lt_size e) (I.ok.cab x c G t)))).trans l⟩
  ·by_cases hj:j=i
   ·subst hj
    rw[hi]at l;cases l;rw[List.getElem?_set_self C]at B
    cases B
    exact⟨u,r,.inr ⟨.inl D,c,t,N⟩⟩
   ·rw[List.getElem?_set_ne (Ne.symm hj)]at B
    obtain⟨Z,r',q⟩:=hl j y _ l B T
    refine⟨Z,r',?_⟩
    rcases q with q | ⟨k,c',e,z'⟩
    ·exact .inl q
    ·refine .inr ⟨k,c',e,z'.sameBut f ?_⟩
     rintro rfl
     exact hj (Ab6 hN l (I.ok.inj _ _ _ e t▸hi))
  ·by_cases hcc:c'=c
   ·subst hcc;exact⟨_,N⟩
   ·obtain⟨w2,z2⟩:=I.cell y _ e
    exact⟨w2,z2.sameBut f hcc⟩
  ·obtain⟨e,n,R,nf,d⟩:=I.pin p U
   refine⟨(f.2 _ ?_).trans e,n,R,nf,d⟩
   intro q;rw[q,P]at e
   exact d _ (by rw[<- (Option.some.inj e)];exact O)
theorem Aa6 (I:Inv X pins σ H s) (hN:X.N.Nodup) (hi:X.N[i]?=some x) (hx:Loc X.env.scope x) (r:RelV v u)
 (h:∀a,Inv X pins (σ.set i (some v)) H a->Q () a) (hf:X.fn x=true\/X.env.scope.names.lookup x=some .local:=by first | exact .inl rfl | exact .inr rfl | assumption):wpAny M A (storeName X.env x u) Q E s :=
 Wi I hN hi hx r (λa b _=>h _ b) hf
theorem Inv.call' (I:Inv X pins σ H s) (ho:s'.os=s.os) (u:Un (frs X.stack) ch H H' s.heap s'.heap) (d:HOk X.prog X.w H' s'.heap) (hg:AllBare s'.gens)
 (a:∀b∈ch,(b∈X.ex\/X.s₀.heap.objs.size<=b)/\b≠X.env.locals/\(∀x c,X.env.cells.lookup x=some c->c≠b)/\∀p∈X.pn++pins,p.1≠b):Inv X pins σ H' s':=by
 obtain⟨f,g,h,i,e⟩:=s';subst ho;exact I.call u d hg a
end
abbrev XK:=Value->Option Addr->Hp->Prop
abbrev St:=List (Option V)
abbrev VK:=V->Hp->Prop
abbrev TE:=St->Hp->VK->Prop
abbrev TT:=St->Hp->(Bool->Hp->Prop)->Prop
abbrev TA:=St->Hp->(List V->Hp->Prop)->Prop
structure Ends where
 nx:St->Hp->Prop
 rt:VK
 bk:St->Hp->Prop:=λ_ _=>False
 ct:St->Hp->Prop:=λ_ _=>False
abbrev TS:=Ends->St->Hp->Prop
def EP (X:Cx)(pins:List (Addr×Obj))(σ:St)(Q:VK)(u:Value)(s':Shared):Prop:=∃v H',Inv X pins σ H' s'/\RelV v u/\Q v H'
def TP (X:Cx)(pins:List (Addr×Obj))(σ:St)(Q:Bool->Hp->Prop)(b:Bool)(s':Shared):Prop:=∃H',Inv X pins σ H' s'/\Q b H'
def AP (X:Cx)(pins:List (Addr×Obj))(σ:St)(Q:List V->Hp->Prop)(us:List Value)(s':Shared):Prop:=∃vs H',Inv X pins σ H' s'/\Vals vs us/\Q vs H'
def SP (X:Cx)(pins:List (Addr×Obj))(D:Ends)(f:Flow)(s':Shared):Prop :=
 match f with
 | .next=>∃σ' H',Inv X pins σ' H' s'/\D.nx σ' H'
 | .brk=>∃σ' H',Inv X pins σ' H' s'/\D.bk σ' H'
 | .cont=>∃σ' H',Inv X pins σ' H' s'/\D.ct σ' H'
 | .ret u=>∃v σ' H',Inv X pins σ' H' s'/\RelV v u/\D.rt v H'
def PE (X:Cx)(e:Expr)(t:TE):Prop :=
 ∀(pins:List (Addr×Obj)) (s:Shared) (σ:St) (H:Hp) (Q:VK),Inv X pins σ H s->t σ H Q->wpAny (model X.prog X.w) X.A (eval e X.env) (EP X pins σ Q) X.xe s
structure QE (X:Cx) (e:Expr) (t:TE):Prop where
 get:PE X e t
def PT (X:Cx)(e:Expr)(t:TT):Prop :=
 ∀(pins:List (Addr×Obj)) (s:Shared) (σ:St) (H:Hp) (Q:Bool->Hp->Prop),Inv X pins σ H s->t σ H Q->wpAny (model X.prog X.w) X.A (isTrue e X.env (eval e X.env)) (TP X pins σ Q) X.xe s
structure QT (X:Cx) (e:Expr) (t:TT):Prop where
 get:PT X e t
def PW (X:Cx)(e:Expr)(t:TT):Prop :=
 ∀(whole:Sem Value) (pins:List (Addr×Obj)) (s:Shared) (σ:St) (H:Hp) (Q:Bool->Hp->Prop),Inv X pins σ H s->t σ H Q->wpAny (model X.prog X.w) X.A (isTrue e X.env whole) (TP X pins σ Q) X.xe s
structure QW (X:Cx) (e:Expr) (t:TT):Prop where
 get:PW X e t
theorem PW.pt (h:PW X e t):PT X e t:=h _
def PA (X:Cx)(es:List Expr)(t:TA):Prop :=
 ∀(pos:Pos) (pins:List (Addr×Obj)) (s:Shared) (σ:St) (H:Hp) (Q:List V->Hp->Prop),Inv X pins σ H s->t σ H Q->wpAny (model X.prog X.w) X.A (spliced (backTo pos (starEach es X.env))) (AP X pins σ Q) X.xe s
structure QA (X:Cx) (e:(List Expr)) (t:TA):Prop where
 get:PA X e t
def PS (X:Cx)(st:Stmt)(t:TS):Prop :=
 ∀(pins:List (Addr×Obj)) (s:Shared) (σ:St) (H:Hp) (D:Ends),Inv X pins σ H s->t D σ H->wpAny (model X.prog X.w) X.A (exec st X.env) (SP X pins D) X.xe s
structure QS (X:Cx) (st:Stmt) (t:TS):Prop where
 get:PS X st t
def PSs (X:Cx)(st:List Stmt)(t:TS):Prop :=
 ∀(pins:List (Addr×Obj)) (s:Shared) (σ:St) (H:Hp) (D:Ends),Inv X pins σ H s->t D σ H->wpAny (model X.prog X.w) X.A (execs st X.env) (SP X pins D) X.xe s
structure QSs (X:Cx) (st:(List Stmt)) (t:TS):Prop where
 get:PSs X st t
theorem thn {t:Sem c}{Q b:c->Shared->Prop} (h:wpAny M A t Q E s) (d:∀a s,Q a s->b a s):wpAny M A t b E s:=wpAny_mono h d λ_ _ x=>x
section
variable {X:Cx}
def Xv (i:Nat):TE:=λσ H Q=>∃v,σ[i]?=some (some v)/\Q v H
def tC (v:V):TE:=λ_ H Q=>Q v H
theorem A4u {f:Pos}(hN:X.N[i]?=some x) (hv:Vis X.env.scope x) (hd:(x==("__debug__" : Str))=false:=by decide) (hcd:(x==("__classdict__" : Str))=false:=by decide):PE X (.Name x f) (Xv i):=by
 intro j s p H Q I h;obtain⟨v,e,h⟩:=h;obtain⟨m,k,n⟩:=I.loc;obtain⟨u,r,l⟩:=n i x v hN e hv;have b:EP X _ _ Q u s:=⟨v,H,I,r,h⟩
 rcases l with ⟨d,o⟩ | ⟨d,c,g,a⟩
 ·exact wpAny_Name (wpAny_loadName_local I.ok.kind d k o b) hd
 ·rcases d with d | d
  ·exact wpAny_Name (wpAny_loadName_cell I.ok.kind d g a b) hd
  ·exact wpAny_Name (wpAny_loadName_free I.ok.kind d g a b hcd) hd
theorem A0v : PE X (.Constant (.int i) j a) (tC (.int i)):=λ_ _ _ H _ I h=>wpAny_Constant_int ⟨.int i,H,I.tok _,⟨_,rfl⟩,h⟩
theorem Bb3 : PE X (.Constant (.bool b) j a) (tC (.bl b)):=λ_ _ _ H _ I h=>Constant_bool ⟨.bl b,H,I,rfl,h⟩
theorem A1y : PE X (.Constant .none j a) (tC .non):=λ_ _ _ H _ I h=>Constant_none ⟨.non,H,I,rfl,h⟩
theorem A1j : PE X (.Constant (.str x) j a) (tC (.str x)):=λ_ _ _ H _ I h=>Calls.Constant_str ⟨.str x,H,I.tok _,⟨_,rfl⟩,h⟩
def Gl (X:Cx)(x:Str):Prop:=X.env.kindOf x=some .globalImplicit
theorem Aq2 (I:Inv X pins b H s) (hg:Gl X x) (hm:X.mg x=some u) (h:Q u s)
 (hd:(x==("__debug__" : Str))=false:=by decide):wpAny (model X.prog X.w) X.A (eval (.Name x a) X.env) Q E s :=
 Calls.Name_function_global I.ok.kind hg (Calls.loadGlobal_global (by rw[I.ok.glob];exact I.mod.glob.keeps I.bk) hm h) hd
theorem Je {E:Value->Shared->Prop} {a:Pos} (I:Inv X pins c H s) (hg:Gl X x) (hm:X.mg x=none) (hv:bootBuiltins x=some u) (h:Q u s)
 (hn:x ≠ "__name__" := by decide) (hd:(x==("__debug__" : Str))=false:=by decide):wpAny (model X.prog X.w) X.A (eval (.Name x a) X.env) Q E s:=by
 obtain⟨e,d,b⟩:=I.mod.blt
 exact Calls.Name_function_global I.ok.kind hg (Calls.loadGlobal_builtin (by rw[I.ok.glob];exact I.mod.glob.keeps I.bk) hm (by rw[I.ok.blt];exact d.keeps I.bk) ((b x hn).trans hv) h) hd
theorem A7j (hg:Gl X x) (hm:X.mg x=some u) (r:RelV v u) (hd:(x==("__debug__" : Str))=false:=by decide):PE X (.Name x a) (tC v) :=
 λ_ _ _ H _ I h=>Aq2 I hg hm ⟨v,H,I,r,h⟩ hd
theorem A5z {a:Pos}(hg:Gl X x) (hm:X.mg x=none) (hv:bootBuiltins x=some u) (r:RelV v u) (hn:x ≠ "__name__" := by decide) (hd:(x==("__debug__" : Str))=false:=by decide):PE X (.Name x a) (tC v) :=
 λ_ _ _ H _ I h=>Je I hg hm hv ⟨v,H,I,r,h⟩ hn hd
variable {a b:Expr}{ta tb:TE}{pos:Pos}
def tB (t:TE):TT:=λσ H Q=>t σ H λx H1=>∃c,x=.bl c/\Q c H1
theorem Qj (h:QE X e t) (he:∀whole,isTrue e X.env whole=(do let v <- whole;standAt e.pos;holding [v] (truthy v)):=by intro _;rfl):QT X e (tB t):=by
 refine⟨?_⟩
 intro a s σ H Q I f
 refine isTrue_plain (thn (h.1 _ s _ H _ I f) λv s1 ⟨x,g,b,c,i⟩=>?_) (he _)
 obtain⟨d,rfl,q⟩:=i
 cases c
 exact wpAny_truthy_bool ⟨g,b,q⟩
variable {tA tB':TT}{rest:List Expr}
def Bt5 (t u:TT):TT:=λσ H Q=>t σ H λc H1=>if c=true then u σ H1 Q else Q false H1
def tOr (t u:TT):TT:=λσ H Q=>t σ H λc H1=>if c=true then Q true H1 else u σ H1 Q
def Bt2 (t:TT):TT:=λσ H Q=>t σ H λc H1=>Q (!c) H1
theorem A9b (ha:QT X a tA):QW X (.BoolOp .And [a] pos) tA:=by
 refine⟨?_⟩
 intro f b s g H Q I h
 refine isTrue_and (thn (ha.1 _ s _ H Q I h) λc d e=>?_)
 cases c with
 | true=>exact isTrue_and_nil e
 | false=>exact e
theorem Ah8 (ha:QT X a tA):QW X (.BoolOp .Or [a] pos) tA:=by
 refine⟨?_⟩
 intro f b s g H Q I h
 refine isTrue_or (thn (ha.1 _ s _ H Q I h) λc d e=>?_)
 cases c with
 | false=>exact isTrue_or_nil e
 | true=>exact e
theorem Bf5 (ha:QT X a tA)(hb:QW X (.BoolOp .And (b::rest) pos) tB'):QW X (.BoolOp .And (a::b::rest) pos) (Bt5 tA tB'):=by
 obtain⟨hb⟩:=hb
 refine⟨?_⟩
 intro g d s k H Q I h
 refine isTrue_and (thn (ha.1 _ s _ H _ I h) λc i ⟨j,f,e⟩=>?_)
 cases c with
 | true=>exact hb _ _ _ _ _ Q f e
 | false=>trivial
theorem A1n (ha:QT X a tA)(hb:QW X (.BoolOp .Or (b::rest) pos) tB'):QW X (.BoolOp .Or (a::b::rest) pos) (tOr tA tB'):=by
 obtain⟨hb⟩:=hb
 refine⟨?_⟩
 intro g d s k H Q I h
 refine isTrue_or (thn (ha.1 _ s _ H _ I h) λc i ⟨j,f,e⟩=>?_)
 cases c with
 | true=>assumption
 | false=>exact hb _ _ _ _ _ Q f e
theorem A4c (ha:QT X a tA):QT X (.UnaryOp .Not a pos) (Bt2 tA):=by
 refine⟨?_⟩
 intro b s c H Q I h;exact isTrue_not (ha.1 _ s _ H _ I h)
def tIf (t:TT)(ta tb:TE):TE:=λσ H Q=>t σ H λc H1=>if c=true then ta σ H1 Q else tb σ H1 Q
theorem Pz (hc:QT X c tA) (ha:QE X a ta) (hb:QE X b tb):QE X (.IfExp c a b pos) (tIf tA ta tb):=by
 obtain⟨ha⟩:=ha;obtain⟨hb⟩:=hb
 refine⟨?_⟩
 intro g s i H Q I h
 refine wpAny_IfExp (thn (hc.1 _ s _ H _ I h) λd k ⟨j,f,e⟩=>?_)
 cases d with
 | true=>exact ha _ _ _ _ Q f e
 | false=>exact hb _ _ _ _ Q f e
end
def SqL (K:PySem.W.Frag)(H:Hp)(a:Addr)(xs:List V):Prop :=
 Rd H a (.lst xs) \/
  ∃(o:Obj) (its:Array Value) (n:Nat),K.lookup a=some o/\o.cls=.type "list" /\ o.dict=none/\o.data=.seq its n/\its.size<=sizeLine/\Vals xs its.toList
def SqT (K:PySem.W.Frag)(H:Hp)(a:Addr)(xs:List V):Prop :=
 Rd H a (.tup xs) \/
  ∃(o:Obj) (its:Array Value) (n:Nat),K.lookup a=some o/\o.cls=.type "tuple" /\ o.data=.seq its n/\its.size<=sizeLine/\Vals xs its.toList
noncomputable def Bv4:Value->Option V
 | .none=>some .non
 | .bool b=>some (.bl b)
 | .int i _=>some (.int i)
 | .str x _=>some (.str x)
 | .bytes b _=>some (.byt b)
 | .float b _=>some (.flt b)
 | .ref a=>some (.ref a)
 | .type n=>some (.ty n)
 | _=>none
theorem RelV.abs (r:RelV x u):Bv4 u=some x:=by
 cases x with
 | non=>cases r;rfl
 | bl _=>cases r;rfl
 | int _=>obtain⟨t,rfl⟩:=r;rfl
 | str _=>obtain⟨t,rfl⟩:=r;rfl
 | byt _=>obtain⟨t,rfl⟩:=r;rfl
 | flt _=>obtain⟨t,rfl⟩:=r;rfl
 | ref _=>cases r;rfl
 | ty _=>cases r;rfl
theorem RelV.inj (r:RelV x u) (q:RelV y u):x=y:=Option.some.inj (r.abs.symm.trans q.abs)
theorem Vals.inj:∀{xs ys:List V}{us:List Value},Vals xs us->Vals ys us->xs=ys
 | _,_,_,.nil,.nil=>rfl
 | _,_,_,.cons r t,.cons r' t'=>by rw[r.inj r',Vals.inj t t']
section
variable {X:Cx}{pins:List (Addr×Obj)}{σ:St}{H:Hp}{s:Shared}{a:Addr}{xs ys:List V}
theorem SqL.of {K:PySem.W.Frag}(h:H a=some (.lst xs)):SqL K H a xs:=.inl (.inl h)
theorem SqT.of {K:PySem.W.Frag}(h:H a=some (.tup xs)):SqT K H a xs:=.inl (.inl h)
theorem Inv.list (I:Inv X pins σ H s)(h:SqL X.K H a xs):∃b:List Value,Vals xs b/\PlainL s.heap a b.toArray/\xs.length<=sizeLine:=by
 rcases h with h | ⟨o,b,n,d,c,f,i,g,r⟩
 ·obtain⟨z,b,n,r,e⟩:=h.ok I.hok
  exact⟨b,r,⟨_,n,e,rfl,rfl,rfl⟩,z⟩
 ·refine⟨b.toList,r,⟨o,n,I.kIn a o d,c,f,by trivial⟩,?_⟩
  have e:=r.length
  simp_all
theorem Inv.tuple (I:Inv X pins σ H s)(h:SqT X.K H a xs):∃b:List Value,Vals xs b/\IsTup s.heap a b.toArray/\xs.length<=sizeLine:=by
 rcases h with h | ⟨o,b,n,d,c,g,f,r⟩
 ·obtain⟨z,b,r,p⟩:=h.ok I.hok
  exact⟨b,r,p.tup,z⟩
 ·refine⟨b.toList,r,⟨o,I.kIn a o d,c,n,by trivial⟩,?_⟩
  have e:=r.length
  simp_all
theorem Inv.list_inj (I:Inv X pins σ H s)(h:SqL X.K H a xs)(h':SqL X.K H a ys):xs=ys:=by
 obtain⟨c,r,⟨o,n,e,_,_,d⟩,_⟩:=I.list h;obtain⟨b,f,⟨i,j,k,_,_,g⟩,_⟩:=I.list h'
 have:c=b:=by simp_all
 subst this;exact r.inj f
theorem Inv.tuple_inj (I:Inv X pins σ H s)(h:SqT X.K H a xs)(h':SqT X.K H a ys):xs=ys:=by
 obtain⟨c,r,⟨o,e,_,n,d⟩,_⟩:=I.tuple h;obtain⟨b,f,⟨i,j,_,k,g⟩,_⟩:=I.tuple h'
 have:c=b:=by simp_all
 subst this;exact r.inj f
end
noncomputable abbrev Cx.wish (X:Cx) (E:Value->Shared->Prop):Cx:={ X with xe:=E }
abbrev Cx.nox (X:Cx):Cx:=X.wish λ_ _=>False
theorem Cx.Ok.wish {X:Cx}(a:X.Ok)(E:Value->Shared->Prop):(X.wish E).Ok :=
 ⟨a.mod,a.kind,a.glob,a.blt,a.above,a.inj,a.has,a.cab,a.hd,a.frames,a.stk,a.exf,a.bs,a.bsz,a.noex,a.exfs,a.funs,a.frf,a.tab⟩
theorem Cx.Ok.unwish {X:Cx} (a:(X.wish E).Ok):X.Ok :=
 ⟨a.mod,a.kind,a.glob,a.blt,a.above,a.inj,a.has,a.cab,a.hd,a.frames,a.stk,a.exf,a.bs,a.bsz,a.noex,a.exfs,a.funs,a.frf,a.tab⟩
section
variable {X:Cx}{pins:List (Addr×Obj)}{σ:St}{H:Hp}{s:Shared}{E:Value->Shared->Prop}
theorem Inv.wish (I:Inv X pins σ H s)(E:Value->Shared->Prop):Inv (X.wish E) pins σ H s:=⟨I.ok.wish E,I.os,I.bare,I.base,I.loc,I.cell,I.free,I.freeC,I.pin,I.hok,I.len⟩
theorem Inv.unwish (I:Inv (X.wish E) pins σ H s):Inv X pins σ H s:=⟨I.ok.unwish,I.os,I.bare,I.base,I.loc,I.cell,I.free,I.freeC,I.pin,I.hok,I.len⟩
theorem SP.unwish (h:SP (X.wish E) pins D f s'):SP X pins D f s':=by
 cases f with
 | next=>obtain⟨a,b,I,q⟩:=h;exact⟨a,b,I.unwish,q⟩
 | brk=>obtain⟨a,b,I,q⟩:=h;exact⟨a,b,I.unwish,q⟩
 | cont=>obtain⟨a,b,I,q⟩:=h;exact⟨a,b,I.unwish,q⟩
 | ret u=>obtain⟨v,a,b,I,r,q⟩:=h;exact⟨v,a,b,I.unwish,r,q⟩
theorem PSs.nox {st:List Stmt} (h:PSs X.nox st t):PSs X st t:=λa s c H D I b =>
 wpAny_mono (h _ s _ H D (I.wish _) b) (λ_ _ q=>q.unwish) λ_ _ z=>False.elim z
end
section
variable {X:Cx}{st:Stmt}{rest:List Stmt}{t u:TS}{e:Expr}{te:TE}{pos:Pos}
def A4e:TS:=λD σ H=>D.nx σ H
def Ax3 (t u:TS):TS:=λD σ H=>t { D with nx:=u D } σ H
theorem A8e:PSs X [] A4e:=λ_ _ a H _ I h=>wpAny_execs_nil ⟨a,H,I,h⟩
theorem Af (h1:QS X st t)(h2:QSs X rest u):QSs X (st::rest) (Ax3 t u):=by
 obtain⟨h2⟩:=h2
 refine⟨?_⟩
 intro a s d H D I h
 refine wpAny_execs_cons (thn (h1.1 _ s _ H _ I h) λf e q=>?_)
 cases f with
 | next =>
  obtain⟨c,g,b,q⟩:=q;exact h2 _ _ _ _ D b q
 | ret v=>exact q
 | brk=>exact q
 | cont=>exact q
theorem Am (h1:QS X st t):QSs X [st] t:=by
 refine⟨?_⟩
 intro a s c H D I h
 refine wpAny_execs_cons (thn (h1.1 _ s _ H D I h) λf b q=>?_)
 cases f with
 | next=>exact wpAny_execs_nil q
 | ret v=>grind
 | brk=>grind
 | cont=>grind
theorem Inv.quiet (I:Inv X pins a H s):interactive X.env=false:=by simp[interactive,I.ok.kind]
def Ba8 (te:TE):TS:=λD σ H=>te σ H λ_ H1=>D.nx σ H1
theorem Nh (he:QE X e te)(hs:swapsWith e none pos.line X.env=pure false:=by rfl):QS X (.Expr e pos) (Ba8 te):=by
 refine⟨?_⟩
 intro a s c H D I h
 exact wpAny_Expr_any (thn (he.1 _ s _ H _ I h) λv g ⟨x,f,d,i,b⟩=>⟨c,f,d,b⟩) I.quiet hs
def Bg7 (te:TE):TS:=λD σ H=>te σ H D.rt
theorem Bc (he:QE X e te):QS X (.Return (some e) pos) (Bg7 te):=by
 refine⟨?_⟩
 intro a s c H D I h
 exact wpAny_Return_some (thn (he.1 _ s _ H _ I h) λv i ⟨x,f,d,g,b⟩=>⟨x,c,f,d,g,b⟩)
def Bp2 (c:TT)(t u:TS):TS:=λD σ H=>c σ H λb H1=>if b=true then t D σ H1 else u D σ H1
theorem Dr (hc:QT X c f) (ha:QSs X a t) (hb:QSs X b u):QS X (.If c a b pos) (Bp2 f t u):=by
 obtain⟨ha⟩:=ha;obtain⟨hb⟩:=hb
 refine⟨?_⟩
 intro i s j H D I h
 refine wpAny_If (thn (hc.1 _ s _ H _ I h) λd l ⟨k,g,e⟩=>?_)
 cases d with
 | true=>exact ha _ _ _ _ D g e
 | false=>exact hb _ _ _ _ D g e
def Aj3:TS:=λ_ _ _=>False
theorem A2b:PS X st Aj3:=λ_ _ _ _ _ _ h=>h.elim
end
abbrev TG:=V->St->Hp->(St->Hp->Prop)->Prop
abbrev TGs:=List V->St->Hp->(St->Hp->Prop)->Prop
def PG (X:Cx)(target:Expr)(t:TG):Prop :=
 ∀
  (pins:List (Addr×Obj)) (s:Shared) (σ:St) (H:Hp) (v:V) (u:Value) (Q:St->Hp->Prop),Inv X pins σ H s->RelV v u->t v σ H Q ->
  wpAny (model X.prog X.w) X.A (assign target X.env u) (λ_ s'=>∃σ' H',Inv X pins σ' H' s'/\Q σ' H') X.xe s
structure QG (X:Cx) (e:Expr) (t:TG):Prop where
 get:PG X e t
def PGs (X:Cx)(ts:List Expr)(t:TGs):Prop :=
 ∀
  (pins:List (Addr×Obj)) (s:Shared) (σ:St) (H:Hp) (vs:List V) (us:List Value) (Q:St->Hp->Prop),Inv X pins σ H s->Vals vs us->t vs σ H Q ->
  wpAny (model X.prog X.w) X.A (assignInOrder ((assignEach ts X.env).map (·.2)) us) (λ_ s'=>∃σ' H',Inv X pins σ' H' s'/\Q σ' H') X.xe s
structure QGs (X:Cx) (e:(List Expr)) (t:TGs):Prop where
 get:PGs X e t
abbrev Bq5:=V->V->V->Hp->(Hp->Prop)->Prop
def Bq7 (X:Cx)(t:Bq5):Prop :=
 ∀
  (pins:List (Addr×Obj)) (s:Shared) (σ:St) (H:Hp) (o i v:V) (ov iv u:Value) (Q:Hp->Prop),Inv X pins σ H s->RelV o ov->RelV i iv->RelV v u->t o i v H Q ->
  wpAny (model X.prog X.w) X.A (setItem ov iv u) (λ_ s'=>∃H',Inv X pins σ H' s'/\Q H') X.xe s
section
variable {X:Cx}{pos:Pos}
def K3 (i:Nat):TG:=λv σ H Q=>Q (σ.set i (some v)) H
theorem Bt (hN:X.N.Nodup) (hi:X.N[i]?=some x:=by exact rfl) (hx:Loc X.env.scope x:=by first | exact Or.inl rfl | exact Or.inr rfl) (hf:X.fn x=true\/X.env.scope.names.lookup x=some .local:=by first | exact .inl rfl | exact .inr rfl | assumption):QG X (.Name x pos) (K3 i):=by
 refine⟨?_⟩
 intro a s c H v u Q I r h
 exact wpAny_assign_Name (Aa6 I hN hi hx r (λd b=>⟨_,H,b,h⟩) hf)
noncomputable def Bd1:TGs:=λvs σ H Q=>vs=[]/\Q σ H
noncomputable def Ap9 (t:TG) (u:TGs):TGs:=λvs σ H Q=>∃v r,vs=v::r/\t v σ H λσ' H'=>u r σ' H' Q
theorem Yi:QGs X [] Bd1:=by
 refine⟨?_⟩
 intro a s b H d c Q I r h;obtain⟨e,h⟩:=h;exact assignInOrder_nil ⟨b,H,I,h⟩
theorem Jw (h1:QG X e t) (h2:QGs X es u)
 (hs:(assignEach (e::es) X.env).map (·.2)=assign e X.env::(assignEach es X.env).map (·.2):=by rfl):QGs X (e::es) (Ap9 t u):=by
 obtain⟨h2⟩:=h2
 refine⟨?_⟩
 intro a s i H j n Q I r h;obtain⟨v,l,f,h⟩:=h;subst f
 cases r with
 | cons r d =>
  rw[hs]
  refine assignInOrder_cons (thn (h1.1 _ s _ H _ _ _ I r h) λ_ k ⟨c,m,g,b⟩=>?_)
  exact h2 _ _ _ _ _ _ Q g d b
def A6c (K:PySem.W.Frag)(n:Nat)(t:TGs):TG:=λv σ H Q=>∃a xs,v=.ref a/\SqT K H a xs/\xs.length=n/\t xs σ H Q
theorem Bi4 {k:Nat} (hc:X.calm=true) (h:PGs X es t)
 (hn:(assignEach es X.env).length=n:=by rfl) (hst:(assignEach es X.env).findIdx? (·.1)=none:=by rfl):PG X (.Tuple es k pos) (A6c X.K n t):=by
 intro d s x H v u Q I r c;obtain⟨a,y,j,l,m,c⟩:=c;subst j
 cases r
 obtain⟨g,i,q,z⟩:=I.tuple l
 refine assign_Tuple_tuple (I.ok.hd hc) q (by simp[hn,<- m,i.length]) hst λp w=>?_
 have f:Inv X _ _ H { s with heap:=p }:=I.kept λb o e=>w b o (Nat.ne_of_lt (Heap.lt_size e)) e
 exact h _ _ _ H _ _ Q f (by trivial) c
def Bq8 (to ti:TE)(t:Bq5):TG:=λv σ H Q=>to σ H λo H1=>ti σ H1 λi H2=>t o i v H2 λH3=>Q σ H3
theorem A1l (ho:QE X o e) (hi:QE X i d) (hs:Bq7 X t)
 (ha:∀v,assign (.Subscript o i pos) X.env v=(do
  let a <- holding [v] (eval o X.env)
  let b <- holding [v,a] (eval i X.env)
  standAt pos
  holding [v,a,b] (setItem a b v)
  release [v,a,b] []):=by intro _;rfl):QG X (.Subscript o i pos) (Bq8 e d t):=by
 refine⟨?_⟩
 intro c s m H v u Q I r h;rw[ha]
 refine wpAny_bind (wpAny_holding (thn (ho.1 _ s _ H _ I h) λa z ⟨x,C,j,k,l⟩=>?_))
 refine wpAny_bind (wpAny_holding (thn (hi.1 _ _ _ _ _ j l) λb D ⟨y,A,g,p,n⟩=>?_))
 refine wpAny_bind (wpAny_standAt (wpAny_bind (wpAny_holding (thn (hs _ _ _ _ x y v _ _ u _ g k p r n) λ_ B ⟨q,w,f⟩=>?_))))
 exact wpAny_release ⟨m,q,w,f⟩
def Af9 (te:TE)(g:TG):TS:=λD σ H=>te σ H λx H1=>g x σ H1 D.nx
theorem A0r (he:QE X e b) (hg:QG X a g) (hs:swapsWithSole [a] e pos.line X.env=pure false:=by rfl) (hw:swappedStores [a] e X.env=pure none:=by rfl)
 (h1:(assignEach [a] X.env).map (·.2)=[assign a X.env]:=by rfl):QS X (.Assign [a] e pos) (Af9 b g):=by
 refine⟨?_⟩
 intro c s k H D I h
 refine wpAny_Assign_stores (thn (he.1 _ s _ H _ I h) λv l ⟨x,m,d,i,f⟩=>?_) hs hw
 rw[h1]
 exact thn (hg.1 _ _ _ _ x v _ d i f) λ_ j q=>q
theorem Bv (hN:X.N.Nodup) (he:QE X e b) (hi:X.N[i]?=some x:=by exact rfl) (hx:Loc X.env.scope x:=by first | exact Or.inl rfl | exact Or.inr rfl) (hs:swapsWith e (some (.Name x a)) pos.line X.env=pure false:=by rfl) (hf:X.fn x=true\/X.env.scope.names.lookup x=some .local:=by first | exact .inl rfl | exact .inr rfl | assumption) :
 QS X (.Assign [.Name x a] e pos) (Af9 b (K3 i)):=by
 refine⟨?_⟩
 intro c s l H D I h
 refine wpAny_Assign_Name (thn (he.1 _ s _ H _ I h) λv m ⟨y,j,f,g,k⟩=>?_) hs
 exact Aa6 f hN hi hx g (λn d=>⟨_,j,d,k⟩) hf
end
structure It where
 go:Nat->Hp->Prop
 yld:Nat->Hp->V->Hp->Prop
 stop:Nat->Hp->Prop
def Rv (X:Cx)(pins:List (Addr×Obj))(H:Hp)(b:Addr):Prop :=
 H b=none/\b≠X.env.locals/\b∉X.fs/\(b∈X.ex\/X.s₀.heap.objs.size<=b)/\(∀x c,X.env.cells.lookup x=some c->c≠b)/\∀p∈X.pn++pins,p.1≠b
theorem Inv.fpOk (I:Inv X pins d H s) (hb:s.heap.objs.size<=b) (hn:H' b=none):Rv X pins H' b:=by
 refine⟨hn,Nat.ne_of_gt (Nat.lt_of_lt_of_le I.lt hb),I.nofs hb,.inr (Nat.le_trans I.sz hb),λx c e z=>?_,λp a z=>?_⟩
 ·obtain⟨v,q⟩:=I.cell x c e
  exact absurd (Nat.lt_of_lt_of_le q.lt (by simp_all)) (Nat.lt_irrefl _)
 ·exact absurd (Nat.lt_of_lt_of_le (Heap.lt_size (I.pin p a).1) (by simp_all)) (Nat.lt_irrefl _)
structure Turn (P:Program) (w:World) (K:PySem.W.Frag) (tg:Expr) (J:It) (fp:List Addr) (it:Addr) (tn:Nat->Heap->Prop):Prop where
 mem:it∈fp
 obj:∀i h,tn i h->∀b∈fp,∃o,h.get? b=some o/\∀v,o.data≠.cell v
 keep:∀i h h',tn i h->(∀b∈fp,∀o,h.get? b=some o->h'.get? b=some o)->tn i h'
 item:∀(X:Cx),X.prog=P->X.w=w->X.K=K->X.calm=true->∀(i:Nat) (pins:List (Addr×Obj)) (s:Shared) (σ:St) (H:Hp) (E:Value->Shared->Prop),Inv X pins σ H s->(∀b∈fp,Rv X pins H b)->tn i s.heap->J.go i H ->
  wpAny (model P w) X.A (pyNext (.ref it)) (λr s1=>∃u,r=some u /\
   wpAny (model P w) X.A (letOwnedTupleGo tg (.ref it) u) (λ_ s2=>∃x H',Inv X pins σ H' s2/\RelV x u/\J.yld i H x H'/\tn (i+1) s2.heap/\∀b∈fp,H' b=none) E s1) E s
 done:∀(X:Cx),X.prog=P->X.w=w->X.K=K->X.calm=true->∀(i:Nat) (pins:List (Addr×Obj)) (s:Shared) (σ:St) (H:Hp) (E:Value->Shared->Prop),Inv X pins σ H s->(∀b∈fp,Rv X pins H b)->tn i s.heap->J.stop i H ->
  wpAny (model P w) X.A (pyNext (.ref it)) (λr s1=>r=none/\Inv X pins σ H s1) E s
 self:∀(A:Around) (i:Nat) (s:Shared) (Q:Value->Shared->Prop) (E:Value->Shared->Prop),tn i s.heap->Q (.ref it) s->wpAny (model P w) A (pyIter (.ref it)) Q E s
abbrev TI:=St->Hp->(It->Hp->Prop)->Prop
def PIE (X:Cx)(pins:List (Addr×Obj))(σ:St)(tg:Expr)(R:It->Hp->Prop)(itv:Value)(s2:Shared):Prop :=
 ∃(it:Addr) (fp:List Addr) (tn:Nat->Heap->Prop) (J:It) (H':Hp),itv=.ref it/\Inv X pins σ H' s2/\Turn X.prog X.w X.K tg J fp it tn/\tn 0 s2.heap/\(∀b∈fp,Rv X pins H' b)/\R J H'
def PI (X:Cx)(tg iter:Expr)(wi:TI):Prop :=
 ∀
  (pins:List (Addr×Obj)) (s:Shared) (σ:St) (H:Hp) (R:It->Hp->Prop),Inv X pins σ H s->wi σ H R ->
  wpAny (model X.prog X.w) X.A (eval iter X.env) (λv s1=>wpAny (model X.prog X.w) X.A (pyIter v) (PIE X pins σ tg R) X.xe s1) X.xe s
structure QI (X:Cx) (tg iter:Expr) (wi:TI):Prop where
 get:PI X tg iter wi
theorem A4r (ho:s.heap.get? it=some o) (hc:o.cls=.type n) (hd:o.data=.fields vs)
 (hn:["enumerate", "zip", "dict_itemiterator", "dict_reverseitemiterator", "odict_iterator", "itertools.zip_longest", "itertools.pairwise"].contains n=false) (a:Q () s):wpAny M A (letOwnedTupleGo b (.ref it) u) Q E s:=by
 cases b <;> first
  | exact wpAny_pure a
  | (cases u <;> first
   | exact wpAny_pure a
   | (
    refine wpAny_bind (wpAny_load ho ?_)
    rw[hc,hd]
    show wpAny M A (if (["enumerate", "zip", "dict_itemiterator", "dict_reverseitemiterator", "odict_iterator", "itertools.zip_longest", "itertools.pairwise"].contains n&&vs[0]?==some _)=true then _ else _) Q E s
    rw[if_neg (by intro h;rw[hn]at h;cases h)]
    exact wpAny_pure a))
noncomputable def Itl (K:PySem.W.Frag) (a:Addr):It :=
 ⟨λi H=>∃xs x,SqL K H a xs/\xs[i]?=some x,λi H x H'=>H'=H/\∀xs,SqL K H a xs->xs[i]?=some x,λi H=>∃xs,SqL K H a xs/\xs.length<=i⟩
noncomputable def Itt (K:PySem.W.Frag) (a:Addr):It :=
 ⟨λi H=>∃xs x,SqT K H a xs/\xs[i]?=some x,λi H x H'=>H'=H/\∀xs,SqT K H a xs->xs[i]?=some x,λi H=>∃xs,SqT K H a xs/\xs.length<=i⟩
noncomputable def Itr (lo:Int) (n:Nat):It:=⟨λi _=>i<n,λi H x H'=>H'=H/\x=.int (lo+i),λi _=>n<=i⟩
theorem At9 {P:Program}{w:World}{K:PySem.W.Frag}{tg:Expr}(a it:Addr):Turn P w K tg (Itl K a) [it] it (λi h=>h.IsListIter it a i) where
 mem:=by simp
 obj:=λi h st b hb=>by
  have e:b=it:=by simpa using hb
  subst e;obtain⟨o,e,c,d⟩:=st
  exact⟨o,e,λv z=>by rw[d]at z;cases z⟩
 keep:=λi h h' st k=>st.at λo e=>k it (by simp) o e
 item:=by
  intro X hP hw hK hc i pins s σ H E I hf st hg;subst hP hw hK;obtain⟨xs,x,hq,hx⟩:=hg;obtain⟨its,rv,p,hz⟩:=I.list hq;obtain⟨u,hu,ru⟩:=rv.get hx
  obtain⟨f0,f1,f2,f3,f4,f5⟩:=hf it (by simp)
  refine wpAny_pyNext_list_item st p.isList (x:=u) (by simpa using hu) λh' st' sb=>?_
  have I1:Inv X pins σ H { s with heap:=h' }:=I.turned (t':=s.toks) (λb o hb e=>(sb.2 b hb).trans e) f0 f1 f3 f4 f5
  obtain⟨o,e,c,d⟩:=id st'
  exact⟨u,rfl,A4r (s:={ s with heap:=h' }) e c d (by decide) ⟨x,H,I1,ru,⟨rfl,λys hy=>by rw[I.list_inj hy hq];exact hx⟩,st',λb hb=>(hf b hb).1⟩⟩
 done:=by
  intro X hP hw hK hc i pins s σ H E I hf st hg;subst hP hw hK;obtain⟨xs,hq,hx⟩:=hg;obtain⟨its,rv,p,hz⟩:=I.list hq
  obtain⟨f0,f1,f2,f3,f4,f5⟩:=hf it (by simp)
  have hl:=rv.length
  exact wpAny_pyNext_list_end (I.ok.hd hc) st p.isList (by simp;omega) λh' eb=>⟨rfl,I.turned (t':=s.toks) (λb o hb e=>eb b o hb e) f0 f1 f3 f4 f5⟩
 self:=λ_ _ _ _ _ st h=>wpAny_pyIter_listiter st h
theorem Ah2 {P:Program}{w:World}{K:PySem.W.Frag}{tg:Expr}(a it:Addr):Turn P w K tg (Itt K a) [it] it (λi h=>h.IsTupleIter it a i) where
 mem:=by simp
 obj:=λi h st b hb=>by
  have e:b=it:=by simpa using hb
  subst e;obtain⟨o,e,c,d⟩:=st
  exact⟨o,e,λv z=>by rw[d]at z;cases z⟩
 keep:=λi h h' st k=>st.at λo e=>k it (by simp) o e
 item:=by
  intro X hP hw hK hc i pins s σ H E I hf st hg;subst hP hw hK;obtain⟨xs,x,hq,hx⟩:=hg;obtain⟨its,rv,p,hz⟩:=I.tuple hq;obtain⟨u,hu,ru⟩:=rv.get hx
  obtain⟨f0,f1,f2,f3,f4,f5⟩:=hf it (by simp)
  refine wpAny_pyNext_tuple_item st (show s.heap.IsTuple a its.toArray from p) (x:=u) (by simpa using hu) λh' st' sb=>?_
  have I1:Inv X pins σ H { s with heap:=h' }:=I.turned (t':=s.toks) (λb o hb e=>(sb.2 b hb).trans e) f0 f1 f3 f4 f5
  obtain⟨o,e,c,d⟩:=id st'
  exact⟨u,rfl,A4r (s:={ s with heap:=h' }) e c d (by decide) ⟨x,H,I1,ru,⟨rfl,λys hy=>by rw[I.tuple_inj hy hq];exact hx⟩,st',λb hb=>(hf b hb).1⟩⟩
 done:=by
  intro X hP hw hK hc i pins s σ H E I hf st hg;subst hP hw hK;obtain⟨xs,hq,hx⟩:=hg;obtain⟨its,rv,p,hz⟩:=I.tuple hq
  obtain⟨f0,f1,f2,f3,f4,f5⟩:=hf it (by simp)
  have hl:=rv.length
  exact wpAny_pyNext_tuple_end (I.ok.hd hc) st (show s.heap.IsTuple a its.toArray from p) (by simp;omega) λh' eb=>⟨rfl,I.turned (t':=s.toks) (λb o hb e=>eb b o hb e) f0 f1 f3 f4 f5⟩
 self:=λ_ _ _ _ _ st h=>wpAny_pyIter_tupleiter st h
theorem Aj9 {P:Program}{w:World}{K:PySem.W.Frag}{tg:Expr}(it:Addr)(lo:Int)(n:Nat):Turn P w K tg (Itr lo n) [it] it (λi h=>IsRangeIter h it (lo+(i:Nat)*1) ((n:Int)-(i:Nat)) 1) where
 mem:=by simp
 obj:=λi h st b hb=>by
  have e:b=it:=by simpa using hb
  subst e
  exact⟨_,st,λv z=>by
   have z':Data.fields _=Data.cell v:=z
   cases z'⟩
 keep:=λi h h' st k=>k it (by simp) _ st
 item:=by
  intro X hP hw hK hc i pins s σ H E I hf st hg;subst hP hw hK
  obtain⟨f0,f1,f2,f3,f4,f5⟩:=hf it (by simp)
  have W:=Walks.range (prog:=X.prog) (w:=X.w) (I.ok.hd hc) it lo 1 n
  refine W.item i s _ _ hg st λv h' tk hv st' kk=>?_
  obtain⟨t,rfl⟩:=hv
  have I1:Inv X pins σ H { s with heap:=h',toks:=tk }:=I.turned (λb o hb e=>kk b o (by simpa using hb) e) f0 f1 f3 f4 f5
  refine⟨_,rfl,A4r (s:={ s with heap:=h',toks:=tk }) (n := "range_iterator") st' rfl rfl (by decide) ⟨.int (lo+i),H,I1,⟨t,?_⟩,⟨rfl,rfl⟩,st',λb hb=>(hf b hb).1⟩⟩
  rw[Int.mul_one]
 done:=by
  intro X hP hw hK hc i pins s σ H E I hf st hg;subst hP hw hK
  obtain⟨f0,f1,f2,f3,f4,f5⟩:=hf it (by simp)
  exact wpAny_pyNext_range_end (I.ok.hd hc) st (by have:n<=i:=hg;omega) λh' eb=>⟨rfl,I.turned (t':=s.toks) (λb o hb e=>eb b o hb e) f0 f1 f3 f4 f5⟩
 self:=λ_ _ _ _ _ st h=>wpAny_pyIter_rangeiter st h
section
variable {X:Cx}{tg:Expr}
theorem A4t {lo hi:Int} (I:Inv X pins c H s) (h1:-(2 ^ 62)<=lo) (h2:lo<2 ^ 62) (d:-(2 ^ 62)<=hi) (f:hi<2 ^ 62)
 (q:R (Itr lo (hi-lo).toNat) H):wpAny (model X.prog X.w) X.A (pyIter (.ref s.heap.objs.size)) (PIE X pins c tg R) E { s with heap:=s.heap.push { cls:=.type "range",data:=.fields #[.int lo t,.int hi u,.int 1 v] },toks:=tk }:=by
 refine wpAny_pyIter_range (IsRange.new ..) (small_one h1 h2 d f) ?_
 have a:Inv X _ _ H { s with heap:=s.heap.push { cls:=.type "range",data:=.fields #[.int lo t,.int hi u,.int 1 v] },toks:=tk }:=I.kept λb o e=>Heap.get?_push_of_some _ e
 refine⟨(s.heap.push _).objs.size,[(s.heap.push _).objs.size],_,_,H,rfl,
  a.kept λb o e=>Heap.get?_push_of_some _ e,Aj9 _ _ _,?_,λb i=>?_,q⟩
 ·have h:lo+((0:Nat))*1=lo:=by simp
  have g:(((hi-lo).toNat):Int)-((0:Nat))=Builtin.Range.rangeSize lo hi 1:=by rw[rangeSize_one];grind
  rw[h,g];exact Heap.get?_push_size _ rfl
 ·have e:b=(s.heap.push { cls:=.type "range",data:=.fields #[.int lo t,.int hi u,.int 1 v] }).objs.size:=by grind
  subst e;exact a.fpOk (Nat.le_refl _) (a.hok.fresh (Nat.le_refl _))
def Ba7 (ta:TA):TI:=λσ H R=>ta σ H λvs H1=>∃j:Int,vs=[.int j]/\-(2 ^ 62)<=j/\j<2 ^ 62/\R (Itr 0 j.toNat) H1
theorem Im (hg:Gl X "range") (hm:X.mg "range" = none) (ha:QA X [a] d) (hs:starEach [a] X.env=[(false,eval a X.env)]:=by rfl):QI X tg (.Call (.Name "range" p) [a] [] b) (Ba7 d):=by
 refine⟨?_⟩
 intro f s σ H R I h
 refine Call_ (Je I hg hm boot_range (PyProof.Rows.callWith_type1 (thn (ha.1 _ _ s _ H _ I h) λus s1 ⟨vs,H1,g,i,c⟩=>?_) hs rfl))
 obtain⟨j,e,c,k,q⟩:=c;subst e
 cases i with
 | cons r l =>
  cases l
  obtain⟨t,rfl⟩:=r
  exact call_range_1 (A4t g (by omega) (by omega) c k (by grind))
def A7h (wi:TI)(g:TG)(tb:TS):TS:=λD σ H=>wi σ H λJ H1=>∃W:Nat->Nat->St->Hp->Prop,(∃m,W 0 m σ H1)/\∀i m σ H,W i m σ H ->
 (J.stop i H/\D.nx σ H)\/(J.go i H/\∃N:St->Hp->Prop,(∀σ' H',N σ' H'->∃m',m'<m/\W (i+1) m' σ' H')/\∀x H',J.yld i H x H'->g x σ H' λσ2 H2=>tb { D with nx:=N,ct:=N,bk:=D.nx } σ2 H2)
noncomputable def T4 (fp:List Addr) (h:Heap):List (Addr×Obj):=fp.filterMap λb=>(h.get? b).map λo=>(b,o)
theorem Kf (hb:b∈fp) (e:h.get? b=some o):(b,o)∈T4 fp h:=List.mem_filterMap.mpr ⟨b,hb,by grind⟩
theorem Ax8 (hp:p∈T4 fp h):p.1∈fp/\h.get? p.1=some p.2:=by
 obtain⟨b,a,e⟩:=List.mem_filterMap.mp hp
 cases q:h.get? b with
 | none=>simp_all
 | some o =>
  grind
theorem Inv.pinned (I:Inv X pins a H s) (hf:∀b∈fp,Rv X pins H b) (ho:∀b∈fp,∃o,s.heap.get? b=some o/\∀v,o.data≠.cell v):Inv X (pins++T4 fp s.heap) a H s :=
 I.pins_of λp d=>(List.mem_append.mp d).elim (λz=>I.pin p (List.mem_append_right _ z)) λz=>by
  obtain⟨c,e⟩:=Ax8 z;obtain⟨g,h,f,_⟩:=hf _ c
  grind
theorem Inv.unpinned (I:Inv X (pins++pl) a H s):Inv X pins a H s:=I.pins_of λp b=>I.pin p (List.mem_append_right _ (List.mem_append_left _ b))
theorem Mi (hp:PassesOwn (model X.prog X.w) X.A X.env X.xe) (hc:X.calm=true) (hi:QI X tg p Z) (hg:QG X tg g) (hb:QSs X body tb)
 (hs:∀x,foldedSetIterable p X.env x=pure x:=by intro _;rfl):QS X (.For tg p body [] P) (A7h Z g tb):=by
 obtain⟨hb⟩:=hb
 refine⟨?_⟩
 intro a s σ H D I h
 refine wpAny_For (thn (hi.1 a s σ H _ I h) λv s1 h1=>thn h1 λitv s2 h2=>?_) hs
 obtain⟨it,C,tn,J,H2,e,I2,T,Q,Y,W,⟨m0,w0⟩,E⟩:=h2;subst e
 have k:∀{t:Hp},(∀b∈C,t b=none)->∀b∈C,Rv X a t b:=λhn b hb=>⟨hn b hb,(Y b hb).2⟩
 refine codeAny_forLoop_any (λn U=>∃i σ' t,Inv X a σ' t U/\tn i U.heap/\(∀b∈C,t b=none)/\W i n σ' t) ?_ m0 ⟨0,σ,H2,I2,Q,λb hb=>(Y b hb).1,w0⟩
 rintro n V ⟨i,j,L,I3,B,F,w3⟩
 rcases E i n j L w3 with ⟨A,qn⟩ | ⟨go,N,hN,K⟩
 ·refine wpAny_passesOwn hp (thn (T.done X rfl rfl rfl hc i a V j L X.xe I3 (k F) B A) λr s4 ⟨M,I4⟩=>?_)
  subst M;exact wpAny_execs_nil ⟨j,L,I4,qn⟩
 ·refine wpAny_passesOwn hp (thn (T.item X rfl rfl rfl hc i a V j L X.xe I3 (k F) B go) λr s4 ⟨u,M,h4⟩=>?_)
  subst M
  refine wpAny_passesOwn hp (thn h4 λ_ s5 ⟨x,S,I5,r5,y5,z,O⟩=>?_)
  refine wpAny_passesOwn hp (thn (hg.1 _ s5 j S x u _ (I5.pinned (k O) (T.obj _ _ z)) r5 (K x S y5)) λ_ s6 ⟨R,H6,I6,q6⟩=>?_)
  refine wpAny_passesOwn hp (thn (hb _ s6 R H6 _ I6 q6) λf s7 y=>?_)
  have l:∀{c:St} {w:Hp},Inv X (a++T4 C s5.heap) c w s7->N c w->∃m,m<n/\∃i σ' t,Inv X a σ' t _/\tn i _/\(∀b∈C,t b=none)/\W i m σ' t:=λ{c w} q G=>by
   obtain⟨m',hm,w7⟩:=hN _ _ G
   refine⟨m',hm,i+1,c,w,q.unpinned,T.keep _ _ _ z λb hb o e=>(q.pin _ (List.mem_append_right _ (List.mem_append_right _ (Kf hb e)))).1,λb hb=>?_,w7⟩
   obtain⟨o,e,d⟩:=T.obj _ _ z b hb;exact(q.pin _ (List.mem_append_right _ (List.mem_append_right _ (Kf hb e)))).2.1
  cases f with
  | next=>obtain⟨c,w,q,G⟩:=y;exact l q G
  | cont=>obtain⟨c,w,q,G⟩:=y;exact l q G
  | brk=>obtain⟨c,w,q,y⟩:=y;exact⟨c,w,q.unpinned,y⟩
  | ret v=>obtain⟨x7,c,w,q,r7,y⟩:=y;exact⟨x7,c,w,q.unpinned,r7,y⟩
end
abbrev R2:=V->V->Hp->VK->Prop
def OpR (X:Cx)(f:Value->Value->Sem Value)(r:R2):Prop :=
 ∀
  (pins:List (Addr×Obj)) (s:Shared) (σ:St) (H:Hp) (x y:V) (v u:Value) (Q:VK),Inv X pins σ H s->RelV x v->RelV y u->r x y H Q ->
  wpAny (model X.prog X.w) X.A (f v u) (EP X pins σ Q) X.xe s
def UnR (X:Cx)(f:Value->Sem Value)(r:V->Hp->VK->Prop):Prop :=
 ∀
  (pins:List (Addr×Obj)) (s:Shared) (σ:St) (H:Hp) (x:V) (v:Value) (Q:VK),Inv X pins σ H s->RelV x v->r x H Q ->
  wpAny (model X.prog X.w) X.A (f v) (EP X pins σ Q) X.xe s
def zE (X:Cx)(f:Value)(r:List V->Hp->VK->Prop):Prop :=
 ∀
  (pins:List (Addr×Obj)) (s:Shared) (σ:St) (H:Hp) (xs:List V) (us:List Value) (Q:VK),Inv X pins σ H s->Vals xs us->r xs H Q ->
  wpAny (model X.prog X.w) X.A (call f us) (EP X pins σ Q) X.xe s
def tOp (r:R2)(ta tb:TE):TE:=λσ H Q=>ta σ H λx H1=>tb σ H1 λy H2=>r x y H2 Q
def tUn (r:V->Hp->VK->Prop)(ta:TE):TE:=λσ H Q=>ta σ H λx H1=>r x H1 Q
def rI (C:Int->Int->Prop)(g:Int->Int->V):R2:=λx y H Q=>∃i j,x=.int i/\y=.int j/\C i j/\Q (g i j) H
def rI0 (g:Int->Int->V):R2:=λx y H Q=>∃i j,x=.int i/\y=.int j/\Q (g i j) H
def rU (g:Int->V):V->Hp->VK->Prop:=λx H Q=>∃i,x=.int i/\Q (g i) H
section
variable {X:Cx}{a b c:Expr}{ta tb:TE}{pos:Pos}
theorem Bm3 (ha:PE X a ta)(hb:PE X b tb) {R:V->V->Hp->Prop}(I:Inv X pins g H s)
 (h:ta g H λx j=>tb g j λy c=>R x y c) {f:Value->Value->Sem Value}
 (hf:∀v u i x y c,Inv X pins g c i->RelV x v->RelV y u->R x y c->wpAny (model X.prog X.w) X.A (f v u) Q X.xe i) :
 wpAny (model X.prog X.w) X.A (eval a X.env) (λv d=>wpAny (model X.prog X.w) X.A (eval b X.env) (λu e=>wpAny (model X.prog X.w) X.A (f v u) Q X.xe e) X.xe d) X.xe s:=by
 refine thn (ha _ s _ H _ I h) λv o ⟨x,j,k,n,l⟩=>?_
 refine thn (hb _ _ _ _ _ k l) λu i ⟨y,c,p,q,m⟩=>?_
 grind
theorem Tf (ho:OpR X (binaryOp op) r) (ha:PE X a ta) (hb:PE X b tb):PE X (.BinOp a op b pos) (tOp r ta tb):=by
 intro c s g H Q I h
 exact wpAny_BinOp (Bm3 ha hb I h λv u i x y j f e d q=>ho _ _ _ _ x y v u Q f e d q)
theorem Bs9 (ho:UnR X (unaryOp op) r) (ha:PE X a ta):PE X (.UnaryOp op a pos) (tUn r ta):=by
 intro b s f H Q I h
 exact UnaryOp_ (thn (ha _ s _ H _ I h) λv g ⟨x,i,e,d,c⟩=>ho _ _ _ _ x v Q e d c)
theorem opI {g:Int->Int->Int}
 (a:∀(i j:Int) (t u:Tok) (s:Shared) (Q:Value->Shared->Prop) (E:Value->Shared->Prop),C i j->Q (.int (g i j) s.toks) { s with toks:=s.toks+1 }->wpAny (model X.prog X.w) X.A (f (.int i t) (.int j u)) Q E s) :
 OpR X f (rI C λi j=>.int (g i j)):=by
 intro b s σ H x y v u Q I c e h;obtain⟨i,j,rfl,rfl,d,q⟩:=h;obtain⟨t,rfl⟩:=c;obtain⟨t',rfl⟩:=e;exact a i j t _ s _ _ d ⟨.int _,H,I.tok _,⟨_,rfl⟩,q⟩
theorem Vy {g:Int->Int->Int}
 (a:∀(i j:Int) (t u:Tok) (s:Shared) (Q:Value->Shared->Prop) (E:Value->Shared->Prop),Q (.int (g i j) s.toks) { s with toks:=s.toks+1 }->wpAny (model X.prog X.w) X.A (f (.int i t) (.int j u)) Q E s) :
 OpR X f (rI0 λi j=>.int (g i j)):=by
 intro b s σ H x y v u Q I c d h;obtain⟨i,j,rfl,rfl,q⟩:=h;obtain⟨t,rfl⟩:=c;obtain⟨t',rfl⟩:=d;exact a i j t _ s _ _ ⟨.int _,H,I.tok _,⟨_,rfl⟩,q⟩
theorem Bi7 {g:Int->Int->Bool}
 (a:∀(i j:Int) (t u:Tok) (s:Shared) (Q:Value->Shared->Prop) (E:Value->Shared->Prop),Q (.bool (g i j)) s->wpAny (model X.prog X.w) X.A (f (.int i t) (.int j u)) Q E s) :
 OpR X f (rI0 λi j=>.bl (g i j)):=by
 intro b s σ H x y v u Q I c d h;obtain⟨i,j,rfl,rfl,q⟩:=h;obtain⟨t,rfl⟩:=c;obtain⟨t',rfl⟩:=d;exact a i j t _ s _ _ ⟨.bl _,H,I,rfl,q⟩
def A7k (i j:Int):Prop:=0<j/\j<1073741824
def A9h (i j:Int):Prop:=0<=j/\j<=1000000/\i.natAbs<2 ^ 64
def CMul (i j:Int):Prop:=(-(2 ^ 64)<i/\i<2 ^ 64)\/(-(2 ^ 64)<j/\j<2 ^ 64)
theorem CMul.ok (h:CMul i j):IntMulOk i j:=by
 rcases h with ⟨b,a⟩ | ⟨b,a⟩
 ·exact .of_left (intBits_le_64 b a)
 ·exact .of_right (intBits_le_64 b a)
theorem Bk1:OpR X (binaryOp .Add) (rI0 λi j=>.int (i+j)):=Vy λ_ _ _ _ _ _ _ q=>add_int q
theorem Bd2:OpR X (binaryOp .Sub) (rI0 λi j=>.int (i-j)):=Vy λ_ _ _ _ _ _ _ q=>sub_int q
theorem Be1:OpR X (binaryOp .Mult) (rI CMul λi j=>.int (i*j)):=opI λ_ _ _ _ _ _ _ a q=>mul_int q a.ok
theorem A5w:OpR X (binaryOp .FloorDiv) (rI A7k λi j=>.int (i / j)):=opI λi j _ _ _ _ _ a q=>by
 have c:(0:Int)<j:=a.1;have b:j<1073741824:=a.2
 exact floordiv_int (by omega) (by rw[Int.fdiv_eq_ediv_of_nonneg i (by omega)];exact q) (.inl (PyProof.noPylong_small (by omega)))
theorem Bh6:OpR X (binaryOp .Mod) (rI (λ_ j=>0<j) λi j=>.int (i % j)):=opI λi j _ _ _ _ _ a q=>by
 have b:(0:Int)<j:=a
 exact mod_int' (by omega) (by rw[Int.fmod_eq_emod_of_nonneg i (by omega)];exact q)
theorem Bi9:OpR X (binaryOp .Pow) (rI A9h λi j=>.int (i ^ j.toNat)):=opI λ_ _ _ _ _ _ _ a q=>pow_int_small a.1 a.2.1 a.2.2 q
theorem unI {g:Int->Int}
 (a:∀(i:Int) (t:Tok) (s:Shared) (Q:Value->Shared->Prop) (E:Value->Shared->Prop),Q (.int (g i) s.toks) { s with toks:=s.toks+1 }->wpAny (model X.prog X.w) X.A (f (.int i t)) Q E s) :
 UnR X f (rU λi=>.int (g i)):=by
 intro b s σ H x v Q I c h;obtain⟨i,rfl,q⟩:=h;obtain⟨t,rfl⟩:=c;exact a i t s _ _ ⟨.int _,H,I.tok _,⟨_,rfl⟩,q⟩
theorem Bc7:UnR X (unaryOp .USub) (rU λi=>.int (-i)):=unI λ_ _ _ _ _ q=>neg_int q
end
noncomputable def Br2:V->V->Bool
 | .non,.non=>true | .non,.int _=>true | .int _,.non=>true | .non,.bl _=>true | .bl _,.non=>true | .non,.str _=>true | .str _,.non=>true
 | .int _,.int _=>true | .bl _,.bl _=>true | .str _,.str _=>true | .byt _,.byt _=>true
 | .int _,.str _=>true | .str _,.int _=>true | .bl _,.str _=>true | .str _,.bl _=>true
 | _,_=>false
def rEq:R2:=λx y H Q=>Br2 x y=true/\Q (.bl (decide (x=y))) H
def rNe:R2:=λx y H Q=>Br2 x y=true/\Q (.bl (!decide (x=y))) H
theorem Ap3 : decide (V.int i=V.int j)=(i==j):=by
 grind
theorem A2a : decide (V.bl i=V.bl j)=(i==j):=by
 grind
theorem Am2 : decide (V.str i=V.str j)=(i==j):=by
 grind
theorem An0 : decide (V.byt i=V.byt j)=(i.toList==j.toList):=by
 rw[Bool.eq_iff_iff]
 simp_all
section
variable {X:Cx}{a b c:Expr}{ta tb:TE}{pos:Pos}
theorem Cu {b:St} {k a:Bool}(I:Inv X pins b H s) (q:Q (.bl k) H) (e:k=a):EP X pins b Q (.bool a) s:=by
 subst e;exact⟨.bl k,H,I,rfl,q⟩
theorem Bn1:OpR X (compareOp .Eq) rEq:=by
 intro e s σ H x y v u Q I d a h;obtain⟨c,q⟩:=h
 cases x with
 | non =>
  cases d
  cases y with
  | non=>cases a;exact PySem.EqNone.eq_none_none (Cu I q (by simp))
  | bl j=>cases a;exact PySem.EqNone.eq_none_bool (Cu I q (by simp))
  | int j=>obtain⟨b,rfl⟩:=a;exact PySem.EqNone.eq_none_int (Cu I q (by simp))
  | str j=>obtain⟨b,rfl⟩:=a;exact PySem.EqNone.eq_none_str (Cu I q (by simp))
  | _=>exact absurd (show false=true from c) Bool.false_ne_true
 | bl i =>
  cases d
  cases y with
  | non=>cases a;exact PySem.EqNone.eq_bool_none (Cu I q (by simp))
  | bl j=>cases a;exact eq_bool (Cu I q A2a)
  | str j=>obtain⟨b,rfl⟩:=a;exact PySem.EqMixed.eq_bool_str (Cu I q (by simp))
  | _=>exact absurd (show false=true from c) Bool.false_ne_true
 | int i =>
  obtain⟨t,rfl⟩:=d
  cases y with
  | non=>cases a;exact PySem.EqNone.eq_int_none (Cu I q (by simp))
  | int j=>obtain⟨b,rfl⟩:=a;exact eq_int (Cu I q Ap3)
  | str j=>obtain⟨b,rfl⟩:=a;exact PySem.EqMixed.eq_int_str (Cu I q (by simp))
  | _=>exact absurd (show false=true from c) Bool.false_ne_true
 | str i =>
  obtain⟨t,rfl⟩:=d
  cases y with
  | non=>cases a;exact PySem.EqNone.eq_str_none (Cu I q (by simp))
  | bl j=>cases a;exact PySem.EqMixed.eq_str_bool (Cu I q (by simp))
  | int j=>obtain⟨b,rfl⟩:=a;exact PySem.EqMixed.eq_str_int (Cu I q (by simp))
  | str j=>obtain⟨b,rfl⟩:=a;exact eq_str (Cu I q Am2)
  | _=>exact absurd (show false=true from c) Bool.false_ne_true
 | byt i =>
  obtain⟨t,rfl⟩:=d
  cases y with
  | byt j=>obtain⟨b,rfl⟩:=a;exact PySem.W.eq_bytes (Cu I q An0)
  | _=>exact absurd (c) Bool.false_ne_true
 | _=>cases y <;> exact absurd (show false=true from c) Bool.false_ne_true
theorem Br1:OpR X (compareOp .NotEq) rNe:=by
 intro e s σ H x y v u Q I d a h;obtain⟨c,q⟩:=h
 cases x with
 | non =>
  cases d
  cases y with
  | non=>cases a;exact PySem.EqNone.ne_none_none (Cu I q (by simp))
  | bl j=>cases a;exact PySem.EqNone.ne_none_bool (Cu I q (by simp))
  | int j=>obtain⟨b,rfl⟩:=a;exact PySem.EqNone.ne_none_int (Cu I q (by simp))
  | str j=>obtain⟨b,rfl⟩:=a;exact PySem.EqNone.ne_none_str (Cu I q (by simp))
  | _=>exact absurd (show false=true from c) Bool.false_ne_true
 | bl i =>
  cases d
  cases y with
  | non=>cases a;exact PySem.EqNone.ne_bool_none (Cu I q (by simp))
  | bl j=>cases a;exact ne_bool (Cu I q (congrArg not A2a))
  | str j=>obtain⟨b,rfl⟩:=a;exact PySem.EqMixed.ne_bool_str (Cu I q (by simp))
  | _=>exact absurd (show false=true from c) Bool.false_ne_true
 | int i =>
  obtain⟨t,rfl⟩:=d
  cases y with
  | non=>cases a;exact PySem.EqNone.ne_int_none (Cu I q (by simp))
  | int j=>obtain⟨b,rfl⟩:=a;exact ne_int (Cu I q (congrArg not Ap3))
  | str j=>obtain⟨b,rfl⟩:=a;exact PySem.EqMixed.ne_int_str (Cu I q (by simp))
  | _=>exact absurd (show false=true from c) Bool.false_ne_true
 | str i =>
  obtain⟨t,rfl⟩:=d
  cases y with
  | non=>cases a;exact PySem.EqNone.ne_str_none (Cu I q (by simp))
  | bl j=>cases a;exact PySem.EqMixed.ne_str_bool (Cu I q (by simp))
  | int j=>obtain⟨b,rfl⟩:=a;exact PySem.EqMixed.ne_str_int (Cu I q (by simp))
  | str j=>obtain⟨b,rfl⟩:=a;exact ne_str (Cu I q (congrArg not Am2))
  | _=>exact absurd (show false=true from c) Bool.false_ne_true
 | byt i =>
  obtain⟨t,rfl⟩:=d
  cases y with
  | byt j=>obtain⟨b,rfl⟩:=a;exact PySem.W.ne_bytes (Cu I q (congrArg not An0))
  | _=>exact absurd (c) Bool.false_ne_true
 | _=>cases y <;> exact absurd (show false=true from c) Bool.false_ne_true
theorem Br7:OpR X (compareOp .Lt) (rI0 λi j=>.bl (decide (i<j))):=Bi7 λ_ _ _ _ _ _ _ q=>lt_int q
theorem Bu2:OpR X (compareOp .Gt) (rI0 λi j=>.bl (decide (j<i))):=Bi7 λ_ _ _ _ _ _ _ q=>gt_int q
theorem Bn8:OpR X (compareOp .GtE) (rI0 λi j=>.bl (decide (j<=i))):=Bi7 λ_ _ _ _ _ _ _ q=>ge_int q
theorem Az5:OpR X (compareOp .In) (λx y H Q=>∃i j,x=.str i/\y=.str j/\Q (.bl (!(Builtin.Str.occurrences j i 0 j.length 1).isEmpty)) H):=by
 intro a s σ H x y v u Q I b c h;obtain⟨i,j,rfl,rfl,q⟩:=h;obtain⟨t,rfl⟩:=b;obtain⟨t',rfl⟩:=c;exact in_str (Cu I q rfl)
theorem Bg6:OpR X (compareOp .Is) (λx y H Q=>y=.non/\Q (.bl (decide (x=.non))) H):=by
 intro a s σ H x y v u Q I c b h;obtain⟨rfl,q⟩:=h
 cases b
 refine is_none_gen (Cu I q ?_)
 cases x <;> first
  | omega
  | (obtain⟨t,rfl⟩:=c;rfl)
theorem A8l:OpR X (compareOp .IsNot) (λx y H Q=>y=.non/\Q (.bl (!decide (x=.non))) H):=by
 intro a s σ H x y v u Q I c b h;obtain⟨rfl,q⟩:=h
 cases b
 refine isnot_none_gen (Cu I q ?_)
 cases x <;> first
  | rfl
  | (obtain⟨t,rfl⟩:=c;rfl)
theorem OpR.or {r b:R2}(h:OpR X f r) (h':OpR X f b):OpR X f (λx y H Q=>r x y H Q\/b x y H Q):=by
 intro c s e H x y v u Q I d a q
 rcases q with q | q
 ·exact h _ s _ H x y v u Q I d a q
 ·exact h' _ s _ H x y v u Q I d a q
theorem Js (b:Expr) (h:op≠.In:=by decide) (h2:op≠.NotIn:=by decide):behindInMarks op b=false:=by
 have c:(op==CmpOp.In)=false:=by grind
 have a:(op==CmpOp.NotIn)=false:=by grind
 cases b <;> simp[behindInMarks,c,a]
theorem S7 (ho:OpR X (compareOp op) r) (ha:PE X a ta) (hb:PE X b tb) (hm:behindInMarks op b=false):PE X (.Compare a [op] [b] pos) (tOp r ta tb):=by
 intro c s g H Q I h
 exact wpAny_Compare1 (Bm3 ha hb I h λv u i x y j f e d q=>ho _ _ _ _ x y v u Q f e d q) hm
def K9 (t:TE):TT:=λσ H Q=>t σ H λx H'=>∃k,x=.bl k/\Q k H'
theorem Ig (ho:OpR X (compareOp op) r) (ha:PE X a ta) (hb:PE X b tb) (hm:behindInMarks op b=false):PT X (.Compare a [op] [b] pos) (K9 (tOp r ta tb)):=by
 intro d s t H Q I h
 refine wpAny_isTrue_Compare1 (thn (ha _ s _ H _ I h) λv C ⟨x,D,j,l,m⟩=>thn (hb _ _ _ _ _ j m) λu w ⟨y,B,i,g,o⟩ =>
  thn (ho _ _ _ _ x y v u _ i l g o) λc A ⟨z,n,p,q,k,e,f⟩=>?_) hm
 subst e
 cases q
 exact wpAny_truthy_bool ⟨n,p,f⟩
theorem U5:(sizeLine:Nat)<2 ^ 63:=by decide
theorem Ak5:OpR X (binaryOp .Add) (λx y H Q=>∃i j,x=.str i/\y=.str j/\i.length+j.length<=sizeLine/\Q (.str (i++j)) H):=by
 intro a s σ H x y v u Q I c b h;obtain⟨i,j,rfl,rfl,e,q⟩:=h;obtain⟨t,rfl⟩:=c;obtain⟨d,rfl⟩:=b
 exact add_str (λd tk=>⟨.str _,H,I.tok _,⟨_,rfl⟩,q⟩) e
theorem vals1 (r:Vals [x] us):∃u,us=[u]/\RelV x u:=by
 cases r with
 | cons b a=>cases a;grind
theorem vals2 (r:Vals [x,y] us):∃u w',us=[u,w']/\RelV x u/\RelV y w':=by
 cases r with
 | cons c b =>
  cases b with
  | cons d a=>cases a;grind
theorem A0z:zE X (.builtin "abs") (λxs H Q=>∃i,xs=[.int i]/\Q (.int (if i<0 then -i else i)) H):=by
 intro a s σ H xs us Q I r h;obtain⟨i,rfl,q⟩:=h;obtain⟨u,rfl,t,rfl⟩:=vals1 r
 exact call_abs_int λu tk=>⟨.int _,H,I.tok _,⟨_,rfl⟩,q⟩
theorem Au3 (hc:X.calm=true):zE X (.builtin "min") (λxs H Q=>∃i j,xs=[.int i,.int j]/\Q (.int (if j<i then j else i)) H):=by
 intro a s σ H xs us Q I r h;obtain⟨i,j,rfl,q⟩:=h;obtain⟨u,w',rfl,⟨t,rfl⟩,⟨t',rfl⟩⟩:=vals2 r
 refine min_two_ints (I.ok.hd hc) λh' tk k=>⟨_,H,I.kept k,?_,q⟩
 by_cases hj:j<i
 ·rw[if_pos hj,if_pos hj];exact⟨_,rfl⟩
 ·rw[if_neg hj,if_neg hj];exact⟨_,rfl⟩
theorem Az2:zE X (.type "int") (λxs H Q=>(∃i,xs=[.int i]/\Q (.int i) H)\/∃k,xs=[.bl k]/\Q (.int (if k then 1 else 0)) H):=by
 intro a s σ H xs us Q I r h
 rcases h with ⟨i,rfl,q⟩ | ⟨k,rfl,q⟩
 ·obtain⟨u,rfl,t,rfl⟩:=vals1 r
  exact call_int_int ⟨.int i,H,I,⟨_,rfl⟩,q⟩
 ·obtain⟨u,rfl,b⟩:=vals1 r
  cases b
  exact call_int_bool ⟨.int _,H,I.tok _,⟨_,rfl⟩,q⟩
def Bt9 (K:PySem.W.Frag)(x:V)(H:Hp)(n:Nat):Prop :=
 match x with
 | .str y=>y.length<=sizeLine/\n=y.length
 | .byt y=>y.size<=sizeLine/\n=y.size
 | .ref p=>(∃xs,SqL K H p xs/\n=xs.length)\/∃xs,SqT K H p xs/\n=xs.length
 | _=>False
theorem Ac4:zE X (.builtin "len") (λxs H Q=>∃x n,xs=[x]/\Bt9 X.K x H n/\Q (.int n) H):=by
 intro j s σ H xs us Q I r h;obtain⟨x,n,rfl,e,q⟩:=h;obtain⟨u,rfl,d⟩:=vals1 r;have hl:=U5;have hs:sizeLine=16777216:=sizeLine_eq
 cases x with
 | str y =>
  obtain⟨t,rfl⟩:=d;obtain⟨l,b⟩:y.length<=sizeLine/\n=y.length:=e;subst b
  exact len_str (by omega) ⟨.int _,H,I.tok _,⟨_,rfl⟩,q⟩
 | byt y =>
  obtain⟨t,rfl⟩:=d;obtain⟨l,b⟩:y.size<=sizeLine/\n=y.size:=e;subst b
  exact PySem.W.len_bytes (by omega) ⟨.int _,H,I.tok _,⟨_,rfl⟩,q⟩
 | ref p =>
  cases d
  have b := e
  rcases b with ⟨xs,c,b⟩ | ⟨xs,c,b⟩
  ·subst b
   obtain⟨g,f,i,k⟩:=I.list c;have a:=f.length
   exact Calls.call_len_list i.isList (by grind) ⟨.int _,H,I.tok _,⟨_,by simp only[List.size_toArray];rw[a]⟩,q⟩
  ·subst b
   obtain⟨g,f,i,k⟩:=I.tuple c;have a:=f.length
   exact len_tuple i (by grind) ⟨.int _,H,I.tok _,⟨_,by simp only[List.size_toArray];rw[a]⟩,q⟩
 | _=>trivial
end
theorem RelO.some_of {v:V}{o:Option Value}(r:RelO (some v) o):∃u,o=some u/\RelV v u:=by
 cases o with
 | none=>trivial
 | some u=>exact⟨u,rfl,r⟩
structure Room (k:Nat) (A:Around):Prop where
 hd:A.handled=none
 dp:A.depth+3*k+5<recursionLimit
 un:A.units+16*k+200<cLine
 gd:A.guards=some []
theorem Room.mono (r:Room k A) (h:j<=k):Room j A:=⟨r.hd,by have:=r.dp;omega,by have:=r.un;omega,r.gd⟩
theorem Room.deeper (r:Room (k+1) A) (env:Env):Room k (A.deeper env) :=
 ⟨r.hd,by have:=r.dp;show A.depth+1+3*k+5<_;omega,by have:=r.un;show A.units+3+16*k+200<_;omega,r.gd⟩
theorem Room.in1 (r:Room (k+1) A):Room k A.in1 :=
 ⟨r.hd,by have:=r.dp;grind,by have:=r.un;grind,r.gd⟩
theorem Room.depth (r:Room k A):A.depth<recursionLimit:=by have:=r.dp;omega
theorem Room.units (r:Room k A):A.units+64<cLine:=by have:=r.un;omega
def Hb:TA:=λ_ H Q=>Q [] H
def Ec (ta:TE)(tr:TA):TA:=λσ H Q=>ta σ H λx H1=>tr σ H1 λxs H2=>Q (x::xs) H2
section
variable {X:Cx}{e:Expr}{es:List Expr}{te:TE}{t:TA}{pos:Pos}
theorem Te:PA X [] Hb:=λ_ _ _ _ H Q I h=>Calls.spliced_nil ⟨[],H,I,.nil,h⟩
theorem Aq0 (ha:PE X e te)(hr:PA X es t)(hs:starEach (e::es) X.env=(false,eval e X.env)::starEach es X.env:=by rfl):PA X (e::es) (Ec te t):=by
 intro d a s m H Q I h;rw[hs]
 refine Calls.spliced_cons (thn (ha _ s _ H _ I h) λu o ⟨x,n,f,g,i⟩=>?_)
 exact thn (hr _ _ _ _ _ _ f i) λp q ⟨c,k,j,l,b⟩=>⟨x::c,k,j,.cons g l,b⟩
def Bm5 (t:TA):TE:=λσ H Q=>t σ H λxs H1=>xs.length<=sizeLine/\∀p,H1 p=none->Q (.ref p) (upd H1 p (.tup xs))
def Bq0 (t:TA):TE:=λσ H Q=>t σ H λxs H1=>xs.length<=sizeLine/\∀p,H1 p=none->Q (.ref p) (upd H1 p (.lst xs))
theorem Ed (h:QA X es t):QE X (.Tuple es d pos) (Bm5 t):=by
 refine⟨?_⟩
 intro a s i H Q I g
 refine wpAny_Tuple_spliced (thn (h.1 _ _ s _ H _ I g) λf j ⟨k,l,c,r,z,q⟩=>⟨by rw[<- r.length];grind,?_⟩)
 refine⟨.ref _,upd _ _ _,c.laid (λb u e=>Heap.get?_push_of_some _ e) (Nat.le_refl _) ?_,rfl,q _ (c.hok.fresh (Nat.le_refl _))⟩
 exact⟨z,f,r,⟨_,Heap.get?_push_size _ rfl,rfl,⟨_,rfl⟩,rfl⟩⟩
theorem Du (h:QA X es t):QE X (.List es pos) (Bq0 t):=by
 refine⟨?_⟩
 intro c s g H Q I d
 refine wpAny_List_spliced (thn (h.1 _ _ s _ H _ I d) λf i ⟨j,k,a,r,z,q⟩=>⟨by rw[<- r.length];grind,?_⟩)
 refine⟨.ref _,upd _ _ _,a.laid (λb u e=>Heap.get?_push_of_some _ e) (Nat.le_refl _) ?_,rfl,q _ (a.hok.fresh (Nat.le_refl _))⟩
 exact⟨z,f,0,r,Heap.get?_push_size _ rfl⟩
end
abbrev Sp:=List V->Hp->VK->XK->Prop
abbrev CXT:=List Env->Hp->Shared->XK->Value->Shared->Prop
structure Env0 (P:Program) (w:World) (K:PySem.W.Frag) (mg:Str->Option Value) (base:Heap) (A:Around) (outer:List Env) (s:Shared) (H:Hp):Prop where
 frames:A.frames=some outer
 mod:Mod K mg base
 bs:∀b o,base.get? b=some o->s.heap.get? b=some o/\H b=none
 bsz:base.objs.size<=s.heap.objs.size
 funs:s.heap.FunFrames base outer
 frf:∀b∈frs outer,H b=none
 tab:∀p∈Ej K,H p.1=some (.tbl p.2)
 hok:HOk P w H s.heap
 bare:AllBare s.gens
def CE (outer:List Env)(P:Program)(w:World)(H:Hp)(s:Shared)(Q:VK)(u:Value)(s':Shared):Prop :=
 ∃v H',s'.os=s.os/\AllBare s'.gens/\Un (frs outer) [] H H' s.heap s'.heap/\HOk P w H' s'.heap/\RelV v u/\Q v H'
def CR (CX:CXT)(outer:List Env)(P:Program)(w:World)(H:Hp)(s:Shared)(Q:VK)(E:XK)(r:Result)(s':Shared):Prop :=
 match r with
 | .ok (.ret u)=>CE outer P w H s Q u s'
 | .ok _=>False
 | .error e=>CX outer H s E e s'
structure FnOk (P:Program) (w:World) (K:PySem.W.Frag) (mg:Str->Option Value) (base:Heap) (CX:CXT) (k:Nat) (f:Addr) (fd:FuncData) (ps:List Str) (sp:Sp):Prop where
 len:∀vs H Q E,sp vs H Q E->vs.length=ps.length
 run:∀(A:Around) (outer:List Env) (s:Shared) (H:Hp) (args:Args) (us:List Value) (vs:List V) (Q:VK) (E:XK),Room k A->Env0 P w K mg base A outer s H->BindsTo s fd args (ps.zip us)->Vals vs us->sp vs H Q E ->
  codeAny (model P w) A (.call (.ref f) args) (CR CX outer P w H s Q E) s
theorem FnOk.imp {K:PySem.W.Frag} (F:FnOk P w K mg base CX k f d ps sp)
 (h:∀b H Q E,a b H Q E->sp b H Q E):FnOk P w K mg base CX k f d ps a :=
 ⟨λb H Q E q=>F.len _ H Q E (h _ _ _ _ q),λA c s H e n b Q E j l i m g=>F.run A _ s H _ _ _ Q E j l i m (h _ _ _ _ g)⟩
theorem Env0.in1 {K:PySem.W.Frag} (e:Env0 P w K mg base A a s H) :
 Env0 P w K mg base A.in1 a s H:=⟨e.frames,e.mod,e.bs,e.bsz,e.funs,e.frf,e.tab,e.hok,e.bare⟩
section
variable {X:Cx}{pins:List (Addr×Obj)}{σ:St}{H:Hp}{s s':Shared}
theorem Inv.env0 (I:Inv X pins σ H s):Env0 X.prog X.w X.K X.mg X.base X.A X.stack s H :=
 ⟨I.ok.frames,I.ok.mod,I.bs,Nat.le_trans I.ok.bsz I.sz,I.stack,I.stkFree,λp a=>I.base.tbls _ _ (I.ok.tab p a),I.hok,I.bare⟩
theorem Inv.after (I:Inv X pins σ H s) (h:CE X.stack X.prog X.w H s Q u s'):EP X pins σ Q u s':=by
 obtain⟨v,j,i,a,f,c,r,q⟩:=h;obtain⟨hh,g,d,t,e⟩:=s';obtain rfl:e=s.os:=i
 exact⟨v,j,I.call f c a λb z=>absurd z (by simp),r,q⟩
end
def Zr (sp:Sp)(dvs:List V)(E:XK)(t:TA):TE:=λσ H Q=>t σ H λvs H1=>sp (vs++dvs) H1 Q E
def Binds (K:PySem.W.Frag)(fd:FuncData)(ps:List Str)(ds:List Value):Prop :=
 ∀(s:Shared) (us:List Value),K.In s.heap->(us++ds).length=ps.length->BindsTo s fd ⟨us,[]⟩ (ps.zip (us++ds))
theorem Binds.all {K:PySem.W.Frag} (h:∀a:List Value,a.length=ps.length->bindArgs c ⟨a,[]⟩=pure (ps.zip a)):Binds K c ps []:=λs a _ b=>by
 rw[List.append_nil]at b ⊢;exact .of_eq (h _ b)
def U6 (CX:CXT)(X:Cx)(E:XK):Prop:=∀(pins:List (Addr×Obj)) (σ:St) (H:Hp) (s:Shared) (e:Value) (s':Shared),Inv X pins σ H s->CX X.stack H s E e s'->X.xe e s'
section
variable {X:Cx}{CX:CXT}{k:Nat}{f:Addr}{fd:FuncData}{ps:List Str}{sp:Sp}{dvs:List V}{ds:List Value}{E:XK}{x:Str}{p pos:Pos}{e:Expr}{es:List Expr}{t:TA}
theorem Bh5 (F:FnOk X.prog X.w X.K X.mg X.base CX k f fd ps sp) (hr:Room k X.A) (hb:Binds X.K fd ps ds) (hd:Vals dvs ds) (hx:U6 CX X E)
 (I:Inv X pins b H s) (r:Vals vs us) (h:sp (vs++dvs) H Q E):wpAny (model X.prog X.w) X.A (call (.ref f) us) (EP X pins b Q) X.xe s:=by
 have a := r.append hd
 have g:(us++ds).length=ps.length:=by rw[<- a.length];exact F.len _ _ _ _ h
 refine wpAny_call (codeAny_mono (F.run _ _ s H _ _ _ Q E hr I.env0 (hb s _ I.kIn g) a h) λr i c=>?_)
 cases r with
 | error e=>exact hx _ _ H s e _ I c
 | ok d =>
  cases d with
  | ret u=>exact I.after c
  | next=>assumption
  | brk=>assumption
  | cont=>trivial
theorem A8z (F:FnOk X.prog X.w X.K X.mg X.base CX k f fd ps sp)(hr:Room k X.A)(hg:Gl X x)(hm:X.mg x=some (.ref f))(hk:PySem.W.keepIn X.K (.ref f)=true)(hb:Binds X.K fd ps ds)(hd:Vals dvs ds)(hx:U6 CX X E)
 (ha:PA X (e::es) t) (hdb:(x==("__debug__" : Str))=false:=by decide) (he:starEach (e::es) X.env=(false,eval e X.env)::starEach es X.env:=by rfl) (hpl:(backTo pos (starEach es X.env)).any (·.1)=false:=by rfl) :
 PE X (.Call (.Name x p) (e::es) [] pos) (Zr sp dvs E t):=by
 intro b s c H Q I h
 refine wpAny_Call_Name_kw (Aq2 I hg hm ?_ hdb)
 refine PySem.W.callWith_K I.ok.mod.kin hk (thn (ha _ _ s _ H _ I h) λd g ⟨i,j,a,r,q⟩=>⟨a.kIn,?_⟩) he hpl
 exact Bh5 F hr hb hd hx a r q
end
def PK (X:Cx)(kws:List Keyword)(t:TA):Prop :=
 ∀(pos:Pos) (pins:List (Addr×Obj)) (s:Shared) (σ:St) (H:Hp) (Q:List V->Hp->Prop),Inv X pins σ H s->t σ H Q->wpAny (model X.prog X.w) X.A (evalAll ((backToKw pos (keywordEach kws X.env)).map (·.2))) (AP X pins σ Q) X.xe s
structure QK (X:Cx) (e:(List Keyword)) (t:TA):Prop where
 get:PK X e t
section
variable {X:Cx}{k:Nat}{f:Addr}{x m:Str}{p kpos:Pos}{e o:Expr}{kws:List Keyword}{te:TE}{t:TA}{nm:Option Str}
theorem Bd6:PK X [] Hb:=λ_ _ _ _ H Q I h=>wpAny_evalAll_nil ⟨[],H,I,.nil,h⟩
theorem Py (ha:QE X e te)(hr:QK X kws t):QK X (⟨nm,e,kpos⟩::kws) (Ec te t):=by
 refine⟨?_⟩
 intro d a s m H Q I h
 refine wpAny_evalAll_cons (wpAny_bind (thn (ha.1 _ s _ H _ I h) λu o ⟨x,n,f,g,i⟩=>wpAny_bind (wpAny_standAt (wpAny_pure ?_))))
 exact thn (hr.1 _ _ _ _ _ _ f i) λp q ⟨c,k,j,l,b⟩=>⟨x::c,k,j,.cons g l,b⟩
end
structure Br (N P:List Str) (sc:Scope):Prop where
 kind:sc.kind=.function:=by rfl
 co:sc.isCoroutine=false:=by rfl
 gen:sc.isGenerator=false:=by rfl
 nd:N.Nodup:=by decide +kernel
 pre:N.take P.length=P:=by rfl
 par:∀x∈P,sc.names.lookup x=some .local\/sc.names.lookup x=some .cell:=by decide +kernel
 nofree:∀y∈sc.names,y.2≠.free:=by decide +kernel
theorem Wa {kindOf:Str->Option NameKind}{x:Str}:∀{binds:List (Str×Value)}{m:Str->Option Value},(∀v,(x,v)∉binds)->bindL kindOf binds m x=m x
 | [],_,_=>rfl
 | (n,v)::r,m,h=>by
  unfold bindL
  rw[Wa λw hw=>h w (List.mem_cons_of_mem _ hw)]
  split
  ·have:x≠n:=by rintro rfl;exact h v List.mem_cons_self
   simp[this]
  ·rfl
theorem Wh {kindOf:Str->Option NameKind}{x:Str}:∀{binds:List (Str×Value)}{m:Str->Option Value},(∀v,(x,v)∉binds)->bindC kindOf binds m x=m x
 | [],_,_=>rfl
 | (n,v)::r,m,h=>by
  unfold bindC
  rw[Wh λw hw=>h w (List.mem_cons_of_mem _ hw)]
  split
  ·rfl
  ·have:x≠n:=by rintro rfl;exact h v List.mem_cons_self
   simp[this]
theorem Wk {kindOf:Str->Option NameKind}{x:Str}{v:Value}:∀{P:List Str}{vs:List Value}{i:Nat}{m:Str->Option Value},P.Nodup->P[i]?=some x->vs[i]?=some v->kindOf x=some .local ->
 bindL kindOf (P.zip vs) m x=some v
 | [],_,_,_,_,h,_,_=>by simp at h
 | _::_,[],_,_,_,_,h,_=>by simp at h
 | p::P,w::vs,0,m,nd,h1,h2,hk=>by
  simp at h1 h2;subst h1;subst h2
  show bindL kindOf ((p,w)::P.zip vs) m p=_
  unfold bindL
  rw[Wa λv hv=>(List.nodup_cons.mp nd).1 (List.of_mem_zip hv).1,if_pos hk]
  simp
 | p::P,w::vs,i+1,m,nd,h1,h2,hk=>by
  show bindL kindOf ((p,w)::P.zip vs) m x=_
  unfold bindL
  exact Wk (i:=i) (List.nodup_cons.mp nd).2 (by simpa using h1) (by simpa using h2) hk
theorem V5 {kindOf:Str->Option NameKind}{x:Str}{v:Value}:∀{P:List Str}{vs:List Value}{i:Nat}{m:Str->Option Value},P.Nodup->P[i]?=some x->vs[i]?=some v->kindOf x≠some .local ->
 bindC kindOf (P.zip vs) m x=some v
 | [],_,_,_,_,h,_,_=>by simp at h
 | _::_,[],_,_,_,_,h,_=>by simp at h
 | p::P,w::vs,0,m,nd,h1,h2,hk=>by
  simp at h1 h2;subst h1;subst h2
  show bindC kindOf ((p,w)::P.zip vs) m p=_
  unfold bindC
  rw[Wh λv hv=>(List.nodup_cons.mp nd).1 (List.of_mem_zip hv).1,if_neg hk]
  simp
 | p::P,w::vs,i+1,m,nd,h1,h2,hk=>by
  show bindC kindOf ((p,w)::P.zip vs) m x=_
  unfold bindC
  exact V5 (i:=i) (List.nodup_cons.mp nd).2 (by simpa using h1) (by simpa using h2) hk
noncomputable def start (N:List Str) (vs:List V):St:=vs.map some++List.replicate (N.length-vs.length) none
noncomputable def Aj6 (CX:CXT) (P:Program) (w:World) (K:PySem.W.Frag) (mg:Str->Option Value) (base:Heap) (N:List Str) (qual:Str) (scope:Scope) (f:Addr) (cd:Value) (A:Around) (outer:List Env) (s:Shared) (H:Hp) (E:XK):Cx where
 prog:=P
 w:=w
 K:=K
 mg:=mg
 base:=base
 A:=A.deeper (envOfC qual scope s.heap.objs.size f cd)
 N:=N
 s₀:=s
 H₀:=H
 env:=envOfC qual scope s.heap.objs.size f cd
 outer:=outer
 stack:=envOfC qual scope s.heap.objs.size f cd::outer
 ex:=[]
 calm:=true
 fn:=λ_=>true
 pn:=[]
 xe:=λe s'=>wpAny (model P w) (A.deeper (envOfC qual scope s.heap.objs.size f cd)) (leaving (envOfC qual scope s.heap.objs.size f cd) e) (λ_ s''=>CX outer H s E e s'') (λe' s''=>CX outer H s E e' s'') s'
theorem Ac8 {a:Scope} (h:a.names.lookup x=some .cell):∃c,(cellsFrom n a.names []).lookup x=some c:=by
 exact Option.isSome_iff_exists.mp (PySem.W.cellsFrom_some _ n [] (.inl h))
theorem Au4 {K:PySem.W.Frag}
 (S:Br N ps scope) (hd:A.handled=none) (d:Env0 P w K mg base A a s H) (hl:vs.length=ps.length) (r:Vals vs us)
 (x:InCallC s s.heap.objs.size (bindL (envOfC qual scope s.heap.objs.size f t).kindOf (ps.zip us) λ_=>none) (cellsFrom (s.heap.objs.size+1) scope.names []) (bindC (envOfC qual scope s.heap.objs.size f t).kindOf (ps.zip us) λ_=>none) s1) :
 Inv (Aj6 CX P w K mg base N qual scope f t A a s H E) [] (start N vs) H s1:=by
 have D:ps.length<=N.length:=by have:=congrArg List.length S.pre;rw[List.length_take]at this;omega
 obtain⟨o,tk,rfl,B⟩:=x.done
 have g:∀b:Addr,b∉(Aj6 CX P w K mg base N qual scope f t A a s H E).ex:=λb z=>absurd (show b∈([]:List Addr) from z) (by simp)
 refine⟨⟨d.mod,S.kind,rfl,rfl,Nat.le_refl _,λy z c o n=>?_,λy j=>?_,λy c _ h=>?_,λ_=>hd,Around.frames_deeper d.frames,.inr ⟨rfl,rfl⟩,λb z=>absurd z (g b),d.bs,d.bsz,λb _ _=>g b,λb z=>absurd z (g b),d.funs,d.frf,d.tab⟩,
  rfl,d.bare,Un.kept B,⟨_,x.toInCall.ns,λi y v o n h3=>?_⟩,λy c h=>⟨_,x.cell y c h⟩,d.hok.fresh (Nat.le_refl _),λy c h=>?_,λp m=>absurd (show p∈([]:List (Addr×Obj)) from m) (by simp),d.hok.kept B,?_⟩
 ·exact name_of_addr x.apart (PySem.mem_of_lookup o) (PySem.mem_of_lookup n)
 ·have j:scope.names.lookup y=some .cell\/scope.names.lookup y=some .free:=j
  rcases j with j | j
  ·exact Ac8 j
  ·exact absurd rfl (S.nofree _ (PySem.mem_of_lookup j))
 ·exact Nat.le_of_lt (x.above y c (PySem.mem_of_lookup h))
 ·have hi:i<vs.length:=by
   unfold start at n
   grind
  have F:vs[i]?=some v:=by
   unfold start at n
   grind
  obtain⟨u,C,G⟩:=r.get F
  have m:ps[i]?=some y:=by
   rw[<- S.pre,List.getElem?_take_of_lt (by omega)];exact o
  have l:ps.Nodup:=by rw[<- S.pre];exact S.nd.sublist (List.take_sublist _ _)
  refine⟨u,G,?_⟩
  rcases S.par y (List.mem_of_getElem? m) with k | k
  ·exact .inl ⟨k,Wk l m C k⟩
  ·obtain⟨c,e⟩:=Ac8 k
   refine .inr ⟨.inl k,c,e,?_⟩
   have q:=x.cell y c e
   rw[V5 l m C (by show scope.names.lookup y≠_;rw[k];decide)]at q
   exact q
 ·exact d.hok.fresh (Nat.le_of_lt (x.above y c (PySem.mem_of_lookup h)))
 ·unfold start
  show _=N.length
  simp_all
theorem Ba3 {K:PySem.W.Frag}
 (lk:K.lookup f=some ⟨oc,od,.func (PySem.W.fnOf name qual d body scope U O z R M a W),F⟩) (hcd:PySem.W.codeIn K a qual=true) (S:Br N ps scope)
 (p:∀vs H Q E,sp vs H Q E->vs.length=ps.length)
 (i:∀(A:Around) (c:List Env) (s:Shared) (H:Hp) (vs:List V) (Q:VK) (E:XK),Room k (A.deeper (envOfC qual scope s.heap.objs.size f a))->sp vs H Q E ->
  ∃t,PSs (Aj6 CX P w K mg base N qual scope f a A c s H E) body t/\t { nx:=λ_ H'=>Q .non H',rt:=Q } (start N vs) H) :
 FnOk P w K mg base CX (k+1) f (PySem.W.fnOf name qual d body scope U O z R M a W) ps sp:=by
 refine⟨p,λA c s H T X vs Q E C l hb r m=>?_⟩
 have hl:=p _ _ _ _ m
 have G := l.mod.kin.keeps λb o e=>(l.bs b o e).1
 have h:∀y∈ps.zip X,scope.names.lookup y.1=some .local\/(scope.names.lookup y.1=some _/\((cellsFrom (s.heap.objs.size+1) _ []).lookup y.1).isSome=true):=λ⟨n,v⟩ Y=>by
  rcases S.par n (List.of_mem_zip Y).1 with q | q
  ·grind
  ·exact .inr ⟨q,PySem.W.cellsFrom_some _ _ _ (.inl q)⟩
 refine codeAny_call_function C.depth (G _ _ lk) rfl S.co S.gen rfl (PySem.W.codeRec_of G hcd) (hb _ _ _ _ ?_)
 refine wpAny_newFunctionEnv_cells S.kind h λZ he s1 x=>?_
 subst he
 refine⟨(l.mod.nolimit.keeps λb o e=>(l.bs b o e).1).keeps x.toInCall.keep,codeAny_func ?_⟩
 obtain⟨t,ht,hq⟩:=i A _ s H _ Q E (C.deeper _) m;have I:Inv (Aj6 CX P w K _ _ N qual _ f a A _ s H E) _ _ H _:=Au4 S C.hd l hl r x
 refine wpAny_mono (ht _ _ _ H _ I hq) (λfl L j=>?_) λe L j=>j
 have B:∀{g:St} {H':Hp} {v:V} {u:Value},Inv (Aj6 CX P w K mg base N qual scope f a A c s H E) [] g _ L->RelV v u->Q v _->CE _ P w H s Q u _ :=
  λ{g H' v u} J D q=>⟨v,H',J.os,J.bare,J.base,J.hok,D,q⟩
 cases fl with
 | ret u =>
  obtain⟨v,g,H',J,D,q⟩:=j;exact B J D q
 | next =>
  obtain⟨g,H',J,q⟩:=j;exact B (v:=V.non) J rfl q
 | brk =>
  obtain⟨_,_,_,q⟩:=j
  trivial
 | cont =>
  obtain⟨_,_,_,q⟩:=j
  trivial
section
variable {X:Cx}{x:Str}{p pos:Pos}{e:Expr}{es:List Expr}{t:TA}{id T:String}{r:List V->Hp->VK->Prop}
def tCB (r:List V->Hp->VK->Prop)(t:TA):TE:=λσ H Q=>t σ H λvs H1=>r vs H1 Q
theorem A3n (hc:zE X (.builtin id) r)(hg:Gl X x)(hm:X.mg x=none)(hv:bootBuiltins x=some (.builtin id))(ha:PA X (e::es) t)(hn:x ≠ "__name__" := by decide) (hdb:(x==("__debug__" : Str))=false:=by decide)
 (he:starEach (e::es) X.env=(false,eval e X.env)::starEach es X.env:=by rfl) (hpl:(backTo pos (starEach es X.env)).any (·.1)=false:=by rfl):PE X (.Call (.Name x p) (e::es) [] pos) (tCB r t):=by
 intro a s f H Q I h
 refine wpAny_Call_Name_kw (Je I hg hm hv ?_ hn hdb)
 exact PyProof.Rows.callWith_builtin1 (thn (ha _ _ s _ H _ I h) λj k ⟨g,i,d,c,b⟩=>hc _ _ _ _ _ _ Q d c b) he hpl
theorem Az3 (hc:zE X (.type T) r)(hg:Gl X x)(hm:X.mg x=none)(hv:bootBuiltins x=some (.type T))(ha:PA X (e::es) t)(hn:x ≠ "__name__" := by decide) (hdb:(x==("__debug__" : Str))=false:=by decide)
 (he:starEach (e::es) X.env=(false,eval e X.env)::starEach es X.env:=by rfl) (hpl:(backTo pos (starEach es X.env)).any (·.1)=false:=by rfl):PE X (.Call (.Name x p) (e::es) [] pos) (tCB r t):=by
 intro a s f H Q I h
 refine wpAny_Call_Name_kw (Je I hg hm hv ?_ hn hdb)
 exact PyProof.Rows.callWith_type1 (thn (ha _ _ s _ H _ I h) λj k ⟨g,i,d,c,b⟩=>hc _ _ _ _ _ _ Q d c b) he hpl
end
end L2
namespace HT
open PySem PyProof.Rows
section
variable {prog:Program}{w:World}{A:Around}{E:Value->Shared->Prop}{s:Shared}
theorem A6i (ht:IsTup s.heap t vs.toArray) (hb:IsTup s.heap b c.toArray) (hv:vs≠[])
 (h1:c=[]->Q (.ref t) s) (h2:c≠[]->Q (.ref s.heap.objs.size) { s with heap:=s.heap.push { cls:=.type "tuple",data:=.seq (vs++c).toArray } })
 (hsz:vs.length+c.length<=sizeLine):wpAny (model prog w) A (binaryOp .Add (.ref t) (.ref b)) Q E s:=by
 obtain⟨⟨g,q,d,p⟩,e,o,n,l⟩:=id ht;obtain⟨⟨j,k,i,m⟩,a,h,r,f⟩:=id hb;subst o l h f
 by_cases hw:c=[]
 ·exact concat_meets ⟨_,e,rfl⟩ ⟨_,a,rfl⟩ noFill_tuple_add seq_tuple_add PySem.F.slot_tuple_add PySem.F.entry_tuple_add (PySem.F.args_tuple_add_2 _ _)
   (tuple_addW1 t b _ _ n _ _ _ _ _ (by simp_all) (by grind)) ⟨e,a,h1 hw⟩
 ·refine concat_meets ⟨_,e,rfl⟩ ⟨_,a,rfl⟩ noFill_tuple_add seq_tuple_add PySem.F.slot_tuple_add PySem.F.entry_tuple_add (PySem.F.args_tuple_add_2 _ _)
   (tuple_addW2 t b _ _ n _ _ _ _ _ (by grind) (by simp_all) (by simp_all)) ⟨e,a,?_⟩
  grind
noncomputable def sIx (n d:Nat):Option Int->Nat
 | none=>d
 | some v=>if v<0 then (v+(n:Int)).toNat else min v.toNat n
theorem Bm1 (n d:Nat)(hd:d<=n)(o:Option Int):sIx n d o<=n:=by
 cases o with
 | none=>exact hd
 | some v =>
  show (if v<0 then (v+n).toNat else min _ n)<=n
  grind
theorem An1 (v:Int)(n d:Nat):(if v<0 then max (v+(n:Int)) 0 else min v (n:Int))=((sIx n d (some v):Nat):Int):=by
 show (if v<0 then max _ 0 else min v _)=(((if v<0 then (v+n).toNat else min _ n):Nat):Int)
 grind
theorem Ah1 (lo hi:Option Int)(n:Nat):Builtin.Slice.sliceAdjust lo hi 1 (n:Int)=(((sIx n 0 lo:Nat):Int),((sIx n n hi:Nat):Int)):=by
 refine Prod.ext ?_ ?_
 ·cases lo with
  | none=>rfl
  | some v=>exact An1 v n 0
 ·cases hi with
  | none=>rfl
  | some v=>exact An1 v n n
theorem Ah5 (i j:Nat):Builtin.Slice.slicePlaces (i:Int) (j:Int) 1=j-i:=by
 unfold Builtin.Slice.slicePlaces
 have h1:(1:Int)>0:=by omega
 simp only[h1,if_true,Int.ediv_one]
 split <;> omega
theorem Ud (p:IsPart v o) (h:Q o s):wpAny (model prog w) A (Builtin.Slice.slicePartIndex v) Q E s:=by
 cases p with
 | none=>exact slicePart_none h
 | int i t=>exact slicePart_int h
theorem Ju {lo hi:Option Int}{n:Nat} (hs:s.heap.IsSliceOf e d c .none) (pl:IsPart d lo) (g:IsPart c hi)
 (h:Q (((sIx n 0 lo:Nat):Int),1,sIx n n hi-sIx n 0 lo) s):wpAny (model prog w) A (Builtin.Slice.sliceApplied (.ref e) (pure (n:Int))) Q E s:=by
 obtain⟨i,a,f,b⟩:=id hs
 refine wpAny_bind (wpAny_bind (wpAny_field a b (x:=d) rfl (wpAny_bind (wpAny_field a b (x:=c) rfl (wpAny_bind (wpAny_field a b rfl (wpAny_pure ?_)))))))
 refine wpAny_bind (slicePart_none ?_)
 refine wpAny_bind (Ud pl (wpAny_bind (Ud g (wpAny_bind (wpAny_pure ?_)))))
 show wpAny _ _ (match Builtin.Slice.sliceAdjust _ _ 1 _ with | (lo,hi)=>pure (lo,(1:Int),Builtin.Slice.slicePlaces lo hi 1)) _ _ s
 rw[Ah1 _ _ n]
 show wpAny _ _ (pure _) _ _ s
 rw[Ah5];exact wpAny_pure h
theorem A1h (xs:Array Value)(i k:Nat):((List.range k).filterMap λ(m:Nat)=>xs[((i:Int)+(m:Int)*1).toNat]?).toArray=((xs.toList.drop i).take k).toArray:=by
 have e:(λ(m:Nat)=>xs[((i:Int)+m*1).toNat]?)=λm=>xs[i+m]?:=by
  funext m
  have:((i:Int)+m*1).toNat=i+m:=by omega
  rw[this]
 rw[e];have:=pick_run xs i k;rw[List.filterMap_map]at this
 have a:((λx=>xs[x]?) ∘ λx=>i+x)=λm=>xs[i+m]?:=rfl
 rw[a]at this;rw[this]
theorem Ph {lo hi:Option Int} (ht:IsTup s.heap t items) (hs:s.heap.IsSliceOf sl vl vu .none) (pl:IsPart vl lo) (pu:IsPart vu hi)
 (hw:¬ (sIx items.size 0 lo=0/\sIx items.size items.size hi=items.size))
 (h:Q (.ref s.heap.objs.size) { s with heap:=s.heap.push { cls:=.type "tuple",data:=.seq ((items.toList.drop (sIx items.size 0 lo)).take (sIx items.size items.size hi-sIx items.size 0 lo)).toArray } })
 (hsz:items.size<=sizeLine):wpAny (model prog w) A (getItem (.ref t) (.ref sl)) Q E s:=by
 have htake:sizeOk (.seq ((items.toList.drop (sIx items.size 0 lo)).take (sIx items.size items.size hi-sIx items.size 0 lo)).toArray):=by
  show ((items.toList.drop (sIx items.size 0 lo)).take (sIx items.size items.size hi-sIx items.size 0 lo)).toArray.size<=sizeLine
  rw[List.size_toArray,List.length_take,List.length_drop,Array.length_toList];omega
 have hj:sIx items.size items.size hi<=items.size:=Bm1 _ _ (Nat.le_refl _) hi;obtain⟨os,hos,hcs,hds⟩:=id hs;have hTs:s.TypeIs (.ref sl) "slice" := ⟨os,hos,hcs⟩;unfold getItem
 try with_reducible refine wpAny_holding ?_
 first | refine wpAny_bind (wpAny_pure ?_) | skip
 refine wpAny_bind (wpAny_sequenceKey ht.typeIs (by decide) ?_)
 refine wpAny_bind (wpAny_callSpecial?_slot (name:="__getitem__") ht.typeIs PyProof.Rows.slot_tuple_getitem
  (wpAny_call_entry PyProof.Rows.slot_tuple_getitem ht.typeIs entry_tuple_getitem ?_ (args_tuple_getitem _ _)))
 show wpAny _ _ (Builtin.Tuple.tupleItemsOf (.ref t) >>= _) _ _ s
 refine wpAny_bind (tupleItemsOf_ ht ?_)
 refine wpAny_bind (wpAny_typeOf hTs ?_)
 rw[if_pos (by decide)]
 refine wpAny_bind (Ju hs pl pu ?_)
 have hno:¬ ((((sIx items.size 0 lo:Nat):Int)==0&&(1:Int)==1&&(sIx items.size items.size hi-sIx items.size 0 lo)==items.size)=true):=by
  intro q;rw[Bool.and_eq_true,Bool.and_eq_true]at q;have q1:((sIx items.size 0 lo:Nat):Int)=0:=eq_of_beq q.1.1;have q2:sIx items.size items.size hi-sIx items.size 0 lo=items.size:=eq_of_beq q.2
  exact hw ⟨by omega,by omega⟩
 show wpAny _ _ (if (((sIx items.size 0 lo:Nat):Int)==0&&(1:Int)==1&&(sIx items.size items.size hi-sIx items.size 0 lo)==items.size)=true then _ else _) _ _ s
 rw[if_neg hno,A1h]
 first
  | exact wpAny_bind (m:=Builtin.Tuple.tupleExact _) (wpAny_newObj_type (wpAny_pure ⟨_,rfl,wpAny_pure h⟩) htake)
  | exact wpAny_bind (m:=Builtin.Tuple.tupleExact _) (wpAny_newObj_type (wpAny_bind (wpAny_pure (wpAny_pure ⟨_,rfl,wpAny_pure h⟩))) htake)
  | exact wpAny_bind (wpAny_bind (m:=Builtin.Tuple.tupleExact _) (wpAny_newObj_type (wpAny_pure (wpAny_pure ⟨_,rfl,wpAny_pure h⟩)) htake))
  | exact wpAny_bind (wpAny_bind (m:=Builtin.Tuple.tupleExact _) (wpAny_newObj_type (wpAny_pure ⟨_,rfl,wpAny_pure h⟩) htake))
end
end HT
namespace L2
open PySem PySem.Spec PyProof.Rows
abbrev TO:=St->Hp->(Option Int->Hp->Prop)->Prop
def PO (X:Cx)(e:Option Expr)(t:TO):Prop :=
 ∀
  (pins:List (Addr×Obj)) (s:Shared) (σ:St) (H:Hp) (Q:Option Int->Hp->Prop),Inv X pins σ H s->t σ H Q ->
  wpAny (model X.prog X.w) X.A (evalPart e X.env) (λu s'=>∃o H',Inv X pins σ H' s'/\IsPart u o/\Q o H') X.xe s
structure QO (X:Cx) (e:(Option Expr)) (t:TO):Prop where
 get:PO X e t
noncomputable def A9r (t:TE):TO:=λσ H Q=>t σ H λx H1=>∃i,x=.int i/\Q (some i) H1
section
variable {X:Cx}{e:Expr}{te:TE}{lo hi:Option Expr}{tl th:TO}{pos p2:Pos}
theorem Am8 (h:QE X e te):QO X (some e) (A9r te):=by
 refine⟨?_⟩
 intro a s σ H Q I d
 refine thn (h.1 _ s _ H _ I d) λu s1 ⟨x,f,b,c,g⟩=>?_
 obtain⟨i,rfl,q⟩:=g;obtain⟨t,rfl⟩:=c;exact⟨some i,f,b,.int i t,q⟩
def SlR (X:Cx)(r:V->Option Int->Option Int->Hp->VK->Prop):Prop :=
 ∀
  (pins:List (Addr×Obj)) (s:Shared) (σ:St) (H:Hp) (x:V) (v vl vu:Value) (lo hi:Option Int) (sl:Addr) (Q:VK),Inv X pins σ H s->RelV x v->s.heap.IsSliceOf sl vl vu .none->IsPart vl lo->IsPart vu hi->r x lo hi H Q ->
  ∃T id,typeLookup (.type T) "__getitem__" = pure (some (.builtin id))/\s.TypeIs v T/\wpAny (model X.prog X.w) X.A (getItem v (.ref sl)) (EP X pins σ Q) X.xe s
theorem SlR.or (h:SlR X r) (h':SlR X b):SlR X (λx lo hi H Q=>r x lo hi H Q\/b x lo hi H Q):=by
 intro d s g H x v i j lo hi k Q I e c f a q
 rcases q with q | q
 ·exact h _ s _ H x v _ _ _ _ _ Q I e c f a q
 ·exact h' _ s _ H x v _ _ _ _ _ Q I e c f a q
def tSl (r:V->Option Int->Option Int->Hp->VK->Prop)(te:TE)(tl th:TO):TE:=λσ H Q=>te σ H λx H1=>tl σ H1 λl H2=>th σ H2 λu H3=>r x l u H3 Q
theorem A2k (hr:SlR X r) (he:QE X e te) (hl:QO X lo tl) (hu:QO X hi th):QE X (.Subscript e (.Slice lo hi none p2) pos) (tSl r te tl th):=by
 refine⟨?_⟩
 intro c s E H Q I h
 refine Subscript_ (thn (he.1 _ s _ H _ I h) λv B ⟨x,D,i,j,k⟩=>?_)
 refine wpAny_Slice (thn (hl.1 _ _ _ _ _ i k) λm C ⟨l,K,n,o,f⟩=>thn (hu.1 _ _ _ _ _ n f) λg a ⟨u,J,t,w,p⟩=>?_)
 refine wpAny_pure ?_
 have z:Inv X _ _ _ { a with heap:=a.heap.push { cls:=.type "slice",data:=.fields #[m,g,.none] } }:=t.kept λb F q=>Heap.get?_push_of_some _ q
 obtain⟨T,G,y,A,d⟩:=hr _ _ _ _ x v _ _ l u _ Q z j (Heap.IsSliceOf.new ..) o w p
 exact tail_any A y d (by trivial)
def Az6 (xs:List V)(lo hi:Option Int):List V:=(xs.drop (HT.sIx xs.length 0 lo)).take (HT.sIx xs.length xs.length hi-HT.sIx xs.length 0 lo)
theorem Q8 (xs:List V)(lo hi:Option Int):(Az6 xs lo hi).length<=xs.length:=by
 unfold Az6;rw[List.length_take,List.length_drop];omega
def Bo8 (K:PySem.W.Frag):V->Option Int->Option Int->Hp->VK->Prop:=λx lo hi H Q=>∃a xs,x=.ref a/\SqT K H a xs /\
 ¬ (HT.sIx xs.length 0 lo=0/\HT.sIx xs.length xs.length hi=xs.length)/\∀p,H p=none->Q (.ref p) (upd H p (.tup (Az6 xs lo hi)))
theorem Bk0:SlR X (Bo8 X.K):=by
 intro e s σ H x v vl vu lo hi sl Q I j k g l h;obtain⟨a,i,rfl,m,hw,q⟩:=h
 cases j
 obtain⟨d,r,f,n⟩:=I.tuple m
 have c:d.toArray.size=i.length:=by exact r.length.symm
 refine⟨"tuple",_,PyProof.Rows.slot_tuple_getitem.lookup,f.typeIs,?_⟩
 refine HT.Ph f k g l (by grind) ?_ (by simp_all)
 rw[c]
 refine⟨.ref _,_,I.laid (λb ob q=>Heap.get?_push_of_some _ q) (Nat.le_refl _) ?_,rfl,q _ (I.hok.fresh (Nat.le_refl _))⟩
 exact⟨Nat.le_trans (Q8 _ _ _) n,_,(r.drop _).take _,zT.new _ _⟩
def Ar5 (K:PySem.W.Frag):R2:=λx y H Q=>∃a b xs ys,x=.ref a/\y=.ref b/\SqT K H a xs/\SqT K H b ys/\xs≠[]/\xs.length+ys.length<=sizeLine /\
 (ys=[]->Q (.ref a) H)/\(ys≠[]->∀p,H p=none->Q (.ref p) (upd H p (.tup (xs++ys))))
theorem Vals.nil_iff (r:Vals xs us):us=[]↔xs=[]:=by
 cases r with
 | nil=>simp
 | cons _ _=>simp
theorem Am7:OpR X (binaryOp .Add) (Ar5 X.K):=by
 intro e s σ H x y v u Q I o p h;obtain⟨a,b,xs,ys,rfl,rfl,k,l,g,hz,m,j⟩:=h
 cases o
 cases p
 obtain⟨i,d,n,_⟩:=I.tuple k;obtain⟨f,c,r,_⟩:=I.tuple l
 refine HT.A6i n r (λz=>g (d.nil_iff.mp z)) (λz=>⟨.ref a,H,I,rfl,m (c.nil_iff.mp z)⟩) (λz=>?_) (by rw[<- d.length,<- c.length];grind)
 refine⟨.ref _,_,I.laid (λb ob q=>Heap.get?_push_of_some _ q) (Nat.le_refl _) ?_,rfl,j (λw=>z (c.nil_iff.mpr w)) _ (I.hok.fresh (Nat.le_refl _))⟩
 exact⟨by simp_all,_,d.append c,zT.new _ _⟩
end
noncomputable def ixN (n:Nat) (i:Int):Option Nat:=if 0<=i then (if i<n then some i.toNat else none) else if -(n:Int)<=i then some (i+n).toNat else none
def atI {α:Type}(xs:List α)(i:Int):Option α:=(ixN xs.length i).bind λj=>xs[j]?
theorem Xk (h:ixN n i=some j):seqIndex? i n=some j/\j<n/\-(n:Int)<=i/\i<n:=by
 unfold ixN at h
 by_cases h0:0<=i
 ·rw[if_pos h0]at h
  by_cases h1:i<n
  ·rw[if_pos h1]at h
   have e := Option.some.inj h
   exact⟨by rw[seqIndex_of h0 h1,e],by omega,by omega,h1⟩
  simp_all
 ·rw[if_neg h0]at h
  by_cases h1:-n<=i
  ·rw[if_pos h1]at h
   have e := Option.some.inj h
   exact⟨by rw[seqIndex_neg (by omega) h1,e],by omega,h1,by omega⟩
  simp_all
theorem Yl {xs:List a} {v:a}(h:atI xs i=some v):∃j,seqIndex? i xs.length=some j/\xs[j]?=some v/\j<xs.length/\-(xs.length:Int)<=i/\i<xs.length:=by
 unfold atI at h
 cases e:ixN xs.length i with
 | none=>simp_all
 | some j =>
  obtain⟨c,d,f,b⟩:=Xk e
  grind
theorem Fg {xs:List a}{j:Nat}{v:a}(h:xs[j]?=some v):atI xs (j:Int)=some v:=by
 have b := (List.getElem?_eq_some_iff.mp h).1
 have e:ixN xs.length j=some j:=by
  unfold ixN
  simp_all
 unfold atI;grind
def Jl (b:Expr):Prop:=∀o i,subscripted b false o i=operate [o,i] (getItem o i)
def IxR (X:Cx)(r:R2):Prop :=
 ∀
  (value slice:Expr) (pins:List (Addr×Obj)) (s:Shared) (σ:St) (H:Hp) (x y:V) (v u:Value) (Q:VK),Inv X pins σ H s->RelV x v->RelV y u->r x y H Q ->
  subscripted slice false v u=operate [v,u] (getItem v u)->wpAny (model X.prog X.w) X.A (subscriptTail value slice v u) (EP X pins σ Q) X.xe s
def MtR (X:Cx)(id:String)(r:V->List V->Hp->VK->Prop):Prop :=
 ∀
  (pins:List (Addr×Obj)) (s:Shared) (σ:St) (H:Hp) (x:V) (xs:List V) (v:Value) (us:List Value) (Q:VK),Inv X pins σ H s->RelV x v->Vals xs us->r x xs H Q ->
  wpAny (model X.prog X.w) X.A (call (.builtin id) (v::us)) (EP X pins σ Q) X.xe s
section
variable {X:Cx}{a b:Expr}{ta tb:TE}{pos:Pos}
theorem IxR.or (h:IxR X r) (h':IxR X d):IxR X (λx y H Q=>r x y H Q\/d x y H Q):=by
 intro b a e s i H x y v u Q I f g q c
 rcases q with q | q
 ·exact h _ _ _ s _ H x y v u Q I f g q c
 ·exact h' _ _ _ s _ H x y v u Q I f g q c
theorem Bc2 (hr:IxR X r) (ha:QE X a ta) (hb:QE X b tb) (hs:Jl b):QE X (.Subscript a b pos) (tOp r ta tb):=by
 obtain⟨ha⟩:=ha;obtain⟨hb⟩:=hb
 refine⟨?_⟩
 intro c s g H Q I h
 exact Subscript_ (Bm3 ha hb I h λv u i x y j f e d q=>hr a b _ _ _ _ x y v u Q f e d q (hs _ _))
def Bj4 (K:PySem.W.Frag):R2:=λx y H Q=>∃p xs i v,x=.ref p/\y=.int i/\SqL K H p xs/\atI xs i=some v/\Q v H
def Bj3 (K:PySem.W.Frag):R2:=λx y H Q=>∃p xs i v,x=.ref p/\y=.int i/\SqT K H p xs/\atI xs i=some v/\Q v H
def Bo2:R2:=λx y H Q=>∃z i c,x=.str z/\y=.int i/\z.length<=sizeLine/\atI z.cps.toList i=some c/\Q (.str ⟨#[c]⟩) H
theorem ix_list:IxR X (Bj4 X.K):=by
 intro g f a s m H x y v u Q I C F h l;obtain⟨p,xs,i,z,rfl,rfl,E,n,q⟩:=h
 cases C
 obtain⟨t,rfl⟩:=F;obtain⟨e,r,c,hz⟩:=I.list E;obtain⟨j,k,D,h3,o,B⟩:=Yl n;obtain⟨w,ew,d⟩:=r.get D;have hl:=r.length;have hn:=U5;have b:EP X a m Q w s:=⟨z,H,I,d,q⟩
 by_cases h0:0<=i
 ·have A:i.toNat=j:=by
   rw[seqIndex_of h0 B]at k
   simp_all
  exact item_listR c.isList h0 (by omega) (by grind) b l
 ·have A:(i+e.toArray.size).toNat=j:=by
   rw[seqIndex_neg (by omega) o]at k
   simp_all
  exact subscriptTail_builtinR c.isList.typeIs slot_list_getitem.lookup
   (wpAny_getItem_list_neg c.isList (by omega) (by simp_all) (by omega) (by grind) ⟨rfl,b⟩) l
theorem ix_tup:IxR X (Bj3 X.K):=by
 intro b c e s σ H x y v u Q I A g h o;obtain⟨p,xs,i,z,rfl,rfl,m,n,q⟩:=h
 cases A
 obtain⟨t,rfl⟩:=g;obtain⟨k,r,f,hz⟩:=I.tuple m;obtain⟨j,h1,l,h3,h4,h5⟩:=Yl n;obtain⟨w,ew,d⟩:=r.get l;have hl:=r.length;have hn:=U5;have a:EP X _ _ Q w s:=⟨z,H,I,d,q⟩
 exact subscriptTail_builtinR f.typeIs slot_tuple_getitem.lookup
  (getItem_tuple (j:=j) f (by omega) (by omega) (by simp_all) (by grind) ⟨rfl,a⟩) o
theorem Be5:IxR X Bo2:=by
 intro a b d s σ H x y v u Q I f m h g;obtain⟨z,i,c,rfl,rfl,hz,l,q⟩:=h;obtain⟨t,rfl⟩:=f;obtain⟨t',rfl⟩:=m;obtain⟨j,e,k,h3,o,n⟩:=Yl l
 have p:z.cps.toList.length=z.length:=by simp[Str.length]
 rw[p]at e o n;have hn:=U5
 exact tail_any (typeIs_str s z t) slot_str_getitem.lookup (getItem_str (by
  grind) (by rw[e];simpa using k) ⟨.str _,H,I.tok _,⟨_,rfl⟩,q⟩) g
def rIx (K:PySem.W.Frag):R2:=λx y H Q=>Bj4 K x y H Q\/Bj3 K x y H Q\/Bo2 x y H Q
theorem Bm4:IxR X (rIx X.K):=ix_list.or (ix_tup.or Be5)
theorem Ae1 (a:List Value)(n j:Nat)(u:Value):Obj.mapSeq (·.setIfInBounds j u) { cls:=.type "list",data:=.seq a.toArray n }={ cls:=.type "list",data:=.seq (a.set j u).toArray n }:=by
 simp[Obj.mapSeq]
theorem Inv.lst {b:St} (I:Inv X pins b H s) (h:H p=some (.lst xs)) :
 ∃(a:List Value) (n:Nat),Vals xs a/\s.heap.get? p=some { cls:=.type "list",data:=.seq a.toArray n }/\xs.length<=sizeLine:=by
 obtain⟨z,a,n,r,e⟩:=I.hok p _ h
 grind
theorem Inv.lstUpd {a its':List Value} (I:Inv X pins c H s) (h:H p=some (.lst xs))
 (ho:s.heap.get? p=some { cls:=.type "list",data:=.seq a.toArray n }) (hf:f { cls:=.type "list",data:=.seq a.toArray n }={ cls:=.type "list",data:=.seq its'.toArray n' }) (r:Vals ys its') (hz:ys.length<=sizeLine) (t:Nat) :
 Inv X pins c (upd H p (.lst ys)) { s with heap:=s.heap.update p f,toks:=t }:=by
 have e:(s.heap.update p f).get? p=some { cls:=.type "list",data:=.seq its'.toArray n' }:=by
  rw[Heap.get?_update_self f ho (by rw[hf] <;> rfl),hf]
 refine I.write (by rw[h];trivial) (.inl rfl) (λb u d q=>(Heap.get?_update_other _ _ (Ne.symm d)).trans q) ⟨_,e⟩ ?_
 exact⟨hz,its',n',r,e⟩
def A9y:V->V->V->Hp->(Hp->Prop)->Prop:=λo i v H Q=>∃p xs k j,o=.ref p/\i=.int k/\H p=some (.lst xs)/\ixN xs.length k=some j/\Q (upd H p (.lst (xs.set j v)))
theorem set_list:Bq7 X A9y:=by
 intro a s w H o i v ov iv u Q I y m g h;obtain⟨p,l,k,j,rfl,rfl,d,x,q⟩:=h
 cases y
 obtain⟨t,rfl⟩:=m;obtain⟨b,n,r,c,hz⟩:=I.lst d;obtain⟨e,h2,z,A⟩:=Xk x;have hl:=r.length;have hn:=U5
 have I':Inv X a w (upd H p (.lst (l.set j v))) { s with heap:=s.heap.update p (Obj.mapSeq (·.setIfInBounds j u)) } :=
  I.lstUpd d c (Ae1 _ n j u) (r.set g j) (by grind) _
 by_cases h0:0<=k
 ·have f:k.toNat=j:=by
   rw[seqIndex_of h0 A]at e
   grind
  exact PySem.W.ki_setAt c h0 (by omega) (by grind) (by grind)
 ·have f:(k+b.toArray.size).toNat=j:=by
   rw[seqIndex_neg (by omega) z]at e
   simp_all
  exact PySem.W.ki_setBack c (by omega) (by simp_all) (by omega) (by grind)
theorem W8 (lo hi:Option Int)(n:Nat):(sliceBounds lo hi none n).1=((HT.sIx n 0 lo:Nat):Int)/\(sliceBounds lo hi none n).2.1=((HT.sIx n n hi:Nat):Int)/\(sliceBounds lo hi none n).2.2=1:=by
 refine⟨?_,?_,rfl⟩
 ·cases lo with
  | none=>simp[sliceBounds,HT.sIx]
  | some i =>
   simp only[sliceBounds,HT.sIx,Option.getD_none,show (1:Int)>0 by decide,if_true]
   by_cases h:i<0
   ·simp only[h,if_true] <;> omega
   ·simp only[h,if_false] <;> omega
 ·cases hi with
  | none=>simp[sliceBounds,HT.sIx]
  | some i =>
   simp only[sliceBounds,HT.sIx,Option.getD_none,show (1:Int)>0 by decide,if_true]
   by_cases h:i<0
   ·simp only[h,if_true] <;> omega
   ·simp only[h,if_false] <;> omega
theorem Vx (a:List Value)(lo hi:Option Int):slicePick a.toArray lo hi none=((a.drop (HT.sIx a.length 0 lo)).take (HT.sIx a.length a.length hi-HT.sIx a.length 0 lo)).toArray:=by
 obtain⟨c,d,b⟩:=W8 _ _ _;unfold slicePick;rw[c,d,b]
 simp only[sliceRange_one,pick_run] <;> rfl
def Br3 (K:PySem.W.Frag):V->Option Int->Option Int->Hp->VK->Prop:=λx lo hi H Q=>∃a xs,x=.ref a/\SqL K H a xs/\∀p,H p=none->Q (.ref p) (upd H p (.lst (Az6 xs lo hi)))
theorem A9i:SlR X (Br3 X.K):=by
 intro e s σ H x v vl vu lo hi sl Q I i j f k h;obtain⟨a,xs,rfl,g,q⟩:=h
 cases i
 obtain⟨l,r,d,m⟩:=I.list g;have c:=r.length
 refine⟨"list",_,slot_list_getitem.lookup,d.isList.typeIs,?_⟩
 refine wpAny_getItem_list_slice d.isList j f k .none (by simp) ?_ (by simp_all)
 rw[Vx,<- c]
 refine⟨.ref _,_,I.laid (λb ob q=>Heap.get?_push_of_some _ q) (Nat.le_refl _) ?_,rfl,q _ (I.hok.fresh (Nat.le_refl _))⟩
 exact⟨Nat.le_trans (Q8 _ _ _) m,_,0,(r.drop _).take _,Heap.get?_push_size _ rfl⟩
noncomputable def Pg:V->Bool
 | .non=>true
 | .bl _=>true
 | .int _=>true
 | .str _=>true
 | _=>false
noncomputable def eqV:V->V->Bool
 | .non,.non=>true
 | .bl a,.bl b=>a==b
 | .bl a,.int b=>(if a then 1 else 0)==b
 | .int a,.bl b=>a==(if b then 1 else 0)
 | .int a,.int b=>a==b
 | .str a,.str b=>a==b
 | _,_=>false
theorem Bh1 (e:RelV y u) (c:RelV x v) (f:Pg y=true) (fx:Pg x=true):SeqAt.EqAt A s u v (eqV y x):=by
 cases y with
 | non =>
  cases e
  cases x with
  | non=>cases c;exact SeqAt.EqAt.same _
  | bl b=>cases c;exact SeqAt.EqAt.none_bool b
  | int b=>obtain⟨t,rfl⟩:=c;exact SeqAt.EqAt.none_int b t
  | str b=>obtain⟨t,rfl⟩:=c;exact SeqAt.EqAt.none_str b t
  | _=>exact absurd (show false=true from fx) Bool.false_ne_true
 | bl a =>
  cases e
  cases x with
  | non=>cases c;exact SeqAt.EqAt.bool_none a
  | bl b=>cases c;exact SeqAt.EqAt.bool_bool a b
  | int b=>obtain⟨t,rfl⟩:=c;exact SeqAt.EqAt.bool_int a b t
  | str b=>obtain⟨t,rfl⟩:=c;exact SeqAt.EqAt.bool_str a b t
  | _=>exact absurd (show false=true from fx) Bool.false_ne_true
 | int a =>
  obtain⟨d,rfl⟩:=e
  cases x with
  | non=>cases c;exact SeqAt.EqAt.int_none a d
  | bl b=>cases c;exact SeqAt.EqAt.int_bool a d b
  | int b=>obtain⟨t,rfl⟩:=c;exact SeqAt.EqAt.int_int a d b t
  | str b=>obtain⟨t,rfl⟩:=c;exact SeqAt.EqAt.int_str a d b t
  | _=>exact absurd (show false=true from fx) Bool.false_ne_true
 | str a =>
  obtain⟨d,rfl⟩:=e
  cases x with
  | non=>cases c;exact SeqAt.EqAt.str_none a d
  | bl b=>cases c;exact SeqAt.EqAt.str_bool a d b
  | int b=>obtain⟨t,rfl⟩:=c;exact SeqAt.EqAt.str_int a d b t
  | str b=>obtain⟨t,rfl⟩:=c;exact SeqAt.EqAt.str_str a _ b t
  | _=>exact absurd (fx) Bool.false_ne_true
 | _=>exact absurd f Bool.false_ne_true
def eqU (x:V)(u:Value):Bool:=match u with
 | .none=>eqV .non x
 | .bool b=>eqV (.bl b) x
 | .int i _=>eqV (.int i) x
 | .str z _=>eqV (.str z) x
 | _=>false
theorem A2l (r:RelV y u) (f:Pg y=true):eqU x u=eqV y x:=by
 cases y with
 | non=>cases r;rfl
 | bl b=>cases r;rfl
 | int i=>obtain⟨t,rfl⟩:=r;rfl
 | str z=>obtain⟨t,rfl⟩:=r;rfl
 | _=>trivial
theorem Xx {x:V}:∀{xs:List V}{us:List Value},Vals xs us->xs.all Pg=true->us.any (eqU x)=xs.any λy=>eqV y x
 | _,_,.nil,_=>rfl
 | y::xs,u::us,.cons r t,f=>by
  rw[List.all_cons,Bool.and_eq_true]at f;rw[List.any_cons,List.any_cons,A2l r f.1,Xx t f.2]
theorem U8 {A:Around}{s:Shared}{x:V}{v:Value}(rx:RelV x v)(fx:Pg x=true):∀{xs:List V}{us:List Value},Vals xs us->xs.all Pg=true->∀u∈us,SeqAt.EqAt A s u v (eqU x u)
 | _,_,.nil,_=>λu hu=>by cases hu
 | y::xs,u::us,.cons r t,f=>λu' hu=>by
  rw[List.all_cons,Bool.and_eq_true]at f
  rcases List.mem_cons.mp hu with rfl | hu
  ·rw[A2l r f.1];exact Bh1 r rx f.1 fx
  ·exact U8 rx fx t f.2 u' hu
def inV (x:V)(xs:List V):Bool:=xs.any λy=>eqV y x
def rIn (K:PySem.W.Frag)(neg:Bool):R2:=λx y H Q=>∃p xs,y=.ref p/\(SqL K H p xs\/SqT K H p xs)/\Pg x=true/\xs.all Pg=true/\Q (.bl (if neg then !inV x xs else inV x xs)) H
theorem Yc:OpR X (compareOp .NotIn) (rIn X.K true):=by
 intro e s σ H x y v u Q I f i h;obtain⟨p,xs,rfl,b,g,c,q⟩:=h
 cases i
 rcases b with b | b
 ·obtain⟨a,r,d,j⟩:=I.list b
  refine SeqAt.notIn_listAt _ d.isList (λw k=>U8 f g r c w (by grind)) ⟨.bl _,H,I,rfl,?_⟩
  rw[show a.toArray.any _=a.any (eqU x) by simp,Xx r c]
  exact q
 ·obtain⟨a,r,d,j⟩:=I.tuple b
  refine SeqAt.notIn_tupleAt _ d (λw k=>U8 f g r c w (by grind)) ⟨.bl _,H,I,rfl,?_⟩
  rw[show a.toArray.any _=a.any (eqU x) by simp,Xx r c]
  exact q
theorem zE.or {r b:List V->Hp->VK->Prop}(h:zE X f r) (h':zE X f b):zE X f (λxs H Q=>r xs H Q\/b xs H Q):=by
 intro c s d H xs e Q I a q
 rcases q with q | q
 ·exact h _ s _ H _ _ Q I a q
 ·exact h' _ s _ H _ _ Q I a q
theorem Y6:zE X (.type "list") (λxs H Q=>∃p k,xs=[.ref p]/\(SqL X.K H p k\/SqT X.K H p k)/\∀l,H l=none->Q (.ref l) (upd H l (.lst k))):=by
 intro z s σ H xs us Q I r h;obtain⟨p,k,rfl,f,q⟩:=h;obtain⟨u,rfl,A⟩:=vals1 r
 cases A
 have g:∀(a:List _),Vals _ _->k.length<=sizeLine->∀(d:Heap) (t:Nat),(∀b o',s.heap.get? b=some _->d.get? b=some _) ->
  d.get? _=some _->EP X _ _ Q _ { s with heap:=d }:=λa c j d t i e =>
  ⟨.ref _,_,I.laid i (Nat.le_refl _) (show z8 _ _ _ _ _ (.lst _) from ⟨j,a,t,c,e⟩),rfl,q _ (I.hok.fresh (Nat.le_refl _))⟩
 rcases f with f | f
 ·obtain⟨a,c,y,j⟩:=I.list f
  have m:=c.length;obtain⟨o,w,x,n,v⟩:=y.isList
  exact call_list_seq p (.inl rfl) w x v (λd t i e=>g _ c j _ _ i e) (by simp_all)
 ·obtain⟨a,c,y,j⟩:=I.tuple f
  have m:=c.length;obtain⟨o,w,x,n,v⟩:=y
  exact call_list_seq p (.inr rfl) w x v (λd t i e=>g _ c j _ _ i e) (by simp_all)
theorem Vk:zE X (.type "tuple") (λxs H Q=>∃p c,xs=[.ref p]/\((SqL X.K H p c/\∀l,H l=none->Q (.ref l) (upd H l (.tup c)))\/(SqT X.K H p c/\Q (.ref p) H))):=by
 intro i s σ H xs us Q I r h;obtain⟨p,c,rfl,h⟩:=h;obtain⟨u,rfl,w⟩:=vals1 r
 cases w
 rcases h with ⟨d,q⟩ | ⟨d,q⟩
 ·obtain⟨a,g,f,m⟩:=I.list d
  have k:=g.length
  refine call_tuple_list f.isList (λj v=>?_) (by simp_all)
  have n:Inv X _ _ H { s with heap:=j }:=I.kept v
  have t:Inv X _ _ (upd H _ (.tup _)) { s with heap:=j.push _ } :=
   n.laid (λb o e=>Heap.get?_push_of_some _ e) (Nat.le_refl _) (show z8 _ _ _ _ _ _ from ⟨m,a,g,zT.new _ _⟩)
  exact⟨.ref _,_,t,rfl,q _ (n.hok.fresh (Nat.le_refl _))⟩
 ·obtain⟨a,g,f,m⟩:=I.tuple d
  exact call_tuple_same f ⟨.ref p,H,I,rfl,q⟩
def tyV (K:PySem.W.Frag)(T:String)(x:V)(H:Hp):Prop:=match x with
 | .str _=>T = "str"
 | .int _=>T = "int"
 | .ref p=>(T = "list" /\ ∃xs,SqL K H p xs)\/(T = "tuple" /\ ∃o,K.lookup p=some o/\o.cls=.type "tuple" /\ o.dict=none) \/
  (T = "dict" /\ ((∃kvs,H p=some (.dK kvs))\/∃kvs,H p=some (.dT kvs)))\/(T = "set" /\ ∃S n,H p=some (.set S n))\/(T = "tuple" /\ ∃xs,H p=some (.tup xs))
 | _=>False
theorem Be3 (I:Inv X pins l H s) (r:RelV x v) (ty:tyV X.K T x H) :
 s.TypeIs v T/\∀a,v=.ref a->∃ob,s.heap.get? a=some ob/\ob.dict=none:=by
 cases x with
 | str z =>
  obtain⟨t,rfl⟩:=r
  cases (ty)
  exact⟨typeIs_str s z t,λ_ e=>nomatch e⟩
 | int i =>
  obtain⟨t,rfl⟩:=r
  cases (ty)
  exact⟨typeIs_int s i t,λ_ e=>nomatch e⟩
 | ref p =>
  cases r
  rcases ty with ⟨rfl,m,u⟩ | ⟨rfl,o,b,q,k⟩ | ⟨rfl,b⟩ | ⟨rfl,S,n,b⟩ | ⟨rfl,m,b⟩
  ·obtain⟨h,_,j,_⟩:=I.list u
   refine⟨j.isList.typeIs,λa e=>?_⟩
   obtain⟨o,n,e,c,k,_⟩:=j
   grind
  ·refine⟨⟨o,I.kIn p o b,q⟩,λa e=>?_⟩
   cases e
   exact⟨o,I.kIn _ o b,k⟩
  ·have z:∃o,s.heap.get? p=some o/\o.ExactDict:=by
    rcases b with ⟨g,b⟩ | ⟨g,b⟩
    ·obtain⟨_,_,_,_,o,_,_,e,d,_⟩:=I.hok p _ b
     grind
    ·obtain⟨_,_,_,_,o,_,_,e,d,_⟩:=I.hok p _ b
     grind
   obtain⟨o,e,d⟩:=z
   refine⟨⟨o,e,d.1⟩,λa f=>?_⟩
   cases f
   exact⟨o,e,d.2.1⟩
  ·obtain⟨o,_,_,_,e,d,_⟩:=I.hok p _ b
   refine⟨⟨o,e,d.1⟩,λa f=>?_⟩
   cases f
   exact⟨o,e,d.2.1⟩
  ·obtain⟨_,h,_,o,e,c,_,dn⟩:=I.hok p _ b
   refine⟨⟨o,e,c⟩,λa f=>?_⟩
   grind
 | _=>exact False.elim ty
def tBM (K:PySem.W.Frag)(T:String)(r:V->List V->Hp->VK->Prop)(to:TE)(t:TA):TE:=λσ H Q=>to σ H λx H1=>tyV K T x H1/\t σ H1 λxs H2=>r x xs H2 Q
variable {o e:Expr}{es:List Expr}{to:TE}{t:TA}{name:Str}{apos cpos:Pos}{T id:String}{r:V->List V->Hp->VK->Prop}
theorem Bb8 (pa:PlainAttrs T)(slot:Slot T name id)(hty:typeOf (.builtin id)=pure (.type "method_descriptor")) (hm:MtR X id r) (ho:PE X o to) (ha:PA X (e::es) t)
 (hbase:attributeBase o name X.env (eval o X.env)=eval o X.env:=by rfl)
 (hfew:((backTo cpos (starEach (e::es) X.env)).all (λx=>!x.1)&&(backToKw cpos (keywordEach [] X.env)).all (λx=>x.1.isSome)
  && decide ((e::es).length+([]:List Keyword).length+(if ([]:List Keyword).isEmpty then 0 else 1)<30))=true:=by rfl)
 (hline:(apos.endLine==cpos.line)=true:=by rfl) (hs:starEach (e::es) X.env=(false,eval e X.env)::starEach es X.env:=by rfl) (hplain:(backTo cpos (starEach es X.env)).any (·.1)=false:=by rfl) :
 PE X (.Call (.Attribute o name apos) (e::es) [] cpos) (tBM X.K T r to t):=by
 intro b s p H Q I h
 refine wpAny_Call_method_late hbase hfew hline rfl (thn (ho _ s _ H _ I h) λv z ⟨x,y,c,a,j,k⟩=>?_)
 obtain⟨g,m⟩:=Be3 c a j
 refine⟨T,id,pa,slot,hty,g,m,?_⟩
 have d:=ha cpos _ _ _ _ _ c k;rw[hs]at d ⊢
 refine Calls.callWith_builtin (by grind) (Calls.evalArgs_plain ?_)
 exact thn d λi q ⟨u,w,l,n,f⟩=>hm _ _ _ _ x _ v i Q l a n f
end
def MtM (X:Cx)(id:String)(r:V->List V->Hp->VK->Prop):Prop :=
 ∀
  (pins:List (Addr×Obj)) (s:Shared) (σ:St) (H:Hp) (x:V) (xs:List V) (v:Value) (us:List Value) (Q:VK),Inv X pins σ H s->RelV x v->Vals xs us->r x xs H Q ->
  wpAny (model X.prog X.w) X.A (call (.builtin id) (v::us)) (EP X pins σ Q) X.xe s
theorem Vals.one:∀{x:V}{us:List Value},Vals [x] us->∃u,us=[u]/\RelV x u
 | _,_,h=>by
  cases h with
  | cons r t=>cases t;exact⟨_,rfl,r⟩
theorem Vals.two:∀{x y:V}{us:List Value},Vals [x,y] us->∃u v,us=[u,v]/\RelV x u/\RelV y v
 | _,_,_,h=>by
  cases h with
  | cons r t =>
   cases t with
   | cons q t=>cases t;exact⟨_,_,rfl,r,q⟩
theorem Vals.eraseIdx:∀{xs:List V}{us:List Value}(i:Nat),Vals xs us->Vals (xs.eraseIdx i) (us.eraseIdx i)
 | _,_,_,.nil=>.nil
 | _,_,0,.cons _ t=>t
 | _,_,i+1,.cons r t=>.cons r (Vals.eraseIdx i t)
theorem Au7 {α:Type}:∀(l:List α) (i:Nat),(l.eraseIdx i).length<=l.length
 | [],_=>Nat.le_refl _
 | _::_,0=>Nat.le_succ _
 | _::r,i+1=>Nat.succ_le_succ (Au7 r i)
section
variable {X:Cx}{pins:List (Addr×Obj)}{σ:St}{H:Hp}{s:Shared}{l b:Addr}{xs ys:List V}
theorem Inv.lset {a its':List Value} (I:Inv X pins σ H s) (c:H l=some (.lst xs))
 (e:s.heap.get? l=some { cls:=.type "list",data:=.seq a.toArray n }) (hf:f a.toArray=its'.toArray) (hv:Vals ys its') (hz:ys.length<=sizeLine) :
 Inv X pins σ (upd H l (.lst ys)) { s with heap:=s.heap.update l (Obj.mapSeq f),toks:=t' }:=by
 have q:=PySem.IsL.update e f;rw[hf]at q
 refine I.write (by rw[c];trivial) (.inl rfl) (λg u d b=>(Heap.get?_update_other _ _ (Ne.symm d)).trans b) ⟨_,q⟩ ?_
 exact⟨hz,its',_,hv,q⟩
theorem Inv.lnew (I:Inv X pins σ H s) (hv:Vals ys a) (hz:ys.length<=sizeLine) :
 Inv X pins σ (upd H s.heap.objs.size (.lst ys)) { s with heap:=s.heap.push { cls:=.type "list",data:=.seq a.toArray },toks:=t' } :=
 I.laid (λ_ _ q=>Heap.get?_push_of_some _ q) (Nat.le_refl _) ⟨hz,a,0,hv,Heap.get?_push_size _ rfl⟩
theorem Inv.fresh (I:Inv X pins σ H s):H s.heap.objs.size=none:=I.hok.fresh (Nat.le_refl _)
theorem Inv.lstM (I:Inv X pins σ H s)(b:H l=some (.lst xs)):xs.length<=sizeLine/\∃(a:List Value) (n:Nat),Vals xs a/\xs.length=a.length/\s.heap.get? l=some { cls:=.type "list",data:=.seq a.toArray n }:=by
 obtain⟨z,a,n,r,e⟩:=I.hok l _ b;exact⟨z,a,n,r,r.length,e⟩
end
section
variable {X:Cx}
def rAppend:V->List V->Hp->VK->Prop:=λx vs H Q=>∃l xs y,x=.ref l/\vs=[y]/\H l=some (.lst xs)/\xs.length<sizeLine/\Q .non (upd H l (.lst (xs++[y])))
theorem Av9:MtM X "list.append" rAppend:=by
 intro a s σ H x vs v us Q I c f h;obtain⟨l,xs,y,rfl,rfl,b,hz,q⟩:=h
 cases c
 obtain⟨u,rfl,d⟩:=f.one;obtain⟨z,g,n,r,hl,e⟩:=I.lstM b
 refine call_meets F.slot_list_append ⟨_,e,rfl⟩ F.entry_list_append (F.args_list_append_2 _ _) (PySem.list_append l _ n u (by simp_all)) ⟨e,?_⟩
 refine⟨.non,_,I.lset b e (by simp) (r.append (.cons d .nil)) ?_,rfl,q⟩
 grind
def rPopAt:V->List V->Hp->VK->Prop:=λx vs H Q=>∃l xs i k y,x=.ref l/\vs=[.int i]/\H l=some (.lst xs)/\-(2 ^ 63)<=i/\i<2 ^ 63/\seqIndex? i xs.length=some k/\xs[k]?=some y/\Q y (upd H l (.lst (xs.eraseIdx k)))
theorem A1r:MtM X "list.pop" rPopAt:=by
 intro b s σ H x vs v us Q I f g h;obtain⟨l,xs,i,k,y,rfl,rfl,c,d,j,hk,o,q⟩:=h
 cases f
 obtain⟨u,rfl,m⟩:=g.one;obtain⟨t,rfl⟩:=m;obtain⟨z,p,n,r,hl,e⟩:=I.lstM c;obtain⟨w,hw,a⟩:=r.get o
 refine call_meets F.slot_list_pop ⟨_,e,rfl⟩ F.entry_list_pop (F.args_list_pop_2 _ _)
  (MeetsSeq.list_pop_at l _ n i t k w (fitsIndex_both d j) (by simp_all) (by simp_all) (by simp_all)) ⟨e,?_⟩
 refine⟨y,_,I.lset c e ?_ (r.eraseIdx k) ?_,a,q⟩
 ·simp_all
 grind
def Bo5:R2:=λx y H Q=>∃l b xs zs,x=.ref l/\y=.ref b/\H l=some (.lst xs)/\H b=some (.lst zs)/\xs.length+zs.length<=sizeLine/\∀p,H p=none->Q (.ref p) (upd H p (.lst (xs++zs)))
theorem Be4:OpR X (binaryOp .Add) Bo5:=by
 intro d s σ H x y v u Q I k g h;obtain⟨l,b,xs,zs,rfl,rfl,i,j,hz,q⟩:=h
 cases k
 cases g
 obtain⟨z,c,n,r,hl,e⟩:=I.lstM i;obtain⟨z2,a,n2,o,m,p⟩:=I.lstM j
 refine PySem.P.add_list e p ?_ (by grind)
 have f:c.toArray++a.toArray=(c++a).toArray:=by simp
 rw[f]
 exact⟨.ref _,_,I.lnew (r.append o) (by simp_all),rfl,q _ I.fresh⟩
end
section
variable {κ:Type}[DecidableEq κ]
noncomputable def O3 (kvs:List (κ×V)) (k:κ):Option V:=(kvs.find? λkv=>decide (kv.1=k)).map (·.2)
noncomputable def putK (kvs:List (κ×V)) (k:κ) (v:V):List (κ×V) :=
 if (kvs.any λkv=>decide (kv.1=k))=true then kvs.map (λkv=>if kv.1=k then (kv.1,v) else kv) else kvs++[(k,v)]
theorem Tc {p:κ×V} (e:p.1=k):O3 (p::r) k=some p.2:=by simp[O3,e]
theorem Tp {p:κ×V} (e:¬ p.1=k):O3 (p::r) k=O3 r k:=by simp[O3,e]
theorem Aa7 (k:κ):∀kvs:List (κ×V),(kvs.any λkv=>decide (kv.1=k))=(O3 kvs k).isSome
 | []=>rfl
 | p::r=>by
  rw[List.any_cons]
  by_cases e:p.1=k
  ·simp only[Tc e,decide_eq_true e,Bool.true_or,Option.isSome_some]
  ·rw[Tp e,decide_eq_false e,Bool.false_or];exact Aa7 k r
theorem Rp (a:List (κ×V))(k:κ)(v:V):(putK a k v).length<=a.length+1:=by
 unfold putK
 grind
theorem RelO.isSome_eq (r:RelO o u):o.isSome=u.isSome:=by
 cases o with
 | none=>
  cases u with
   | none=>rfl
   | some _=>trivial
 | some _=>
  cases u with
   | none=>trivial
   | some _=>rfl
theorem KV.val (r:KV a vs) (k:κ):RelO (O3 a k) (valueAt vs k):=by
 induction r with
 | nil=>trivial
 | @cons p q j c h t i =>
  obtain⟨d,g⟩:=h
  by_cases e:p.1=k
  ·have b:valueAt (q::c) k=some q.2:=by simp[valueAt,(d.symm.trans e)]
   rw[Tc e,b];exact g
  ·have f:¬ q.1=k:=λz=>e (d.trans z)
   have b:valueAt (q::c) k=valueAt c k:=by simp[valueAt,f]
   rw[Tp e];grind
theorem KV.any (r:KV a vs) (k:κ):(a.any λb=>decide (b.1=k))=vs.any λb=>decide (b.1=k):=by
 induction r with
 | nil=>rfl
 | cons h t c=>simp_all
theorem KV.repl (r:KV b vs) (k:κ) (d:RelV y u) :
 KV (b.map λa=>if a.1=k then (a.1,y) else a) (vs.map λa=>if a.1=k then (a.1,u) else a):=by
 induction r with
 | nil=>exact .nil
 | @cons p q e f h t c =>
  refine .cons ?_ c
  grind
theorem KV.put (r:KV a vs) (k:κ) (b:RelV y u):KV (putK a k y) (stored vs k u):=by
 unfold putK stored;rw[r.any k]
 by_cases e:(vs.any λc=>decide (c.1=k))=true
 ·rw[if_pos e,if_pos e];exact r.repl k b
 ·rw[if_neg e,if_neg e];exact Paired.snoc r ⟨rfl,b⟩
theorem KV.length {a:List (κ×V)} (r:KV a vs):a.length=vs.length:=Paired.length r
end
theorem Ba6 (r:RelV (kV k) u):(Dl P w).is k u=true:=by
 cases k with
 | inl i=>obtain⟨t,e⟩:=(r);subst e;exact Li P w i t
 | inr x=>obtain⟨t,e⟩:=(r);subst e;exact Ld P w x t
theorem A9v {A:Around}(hu:A.units+9<cLine):A.in1.units+8<cLine:=Nat.lt_of_le_of_lt (Nat.le_of_eq (rfl)) hu
abbrev KT (H:Hp):List (PyData×V)->List (PyData×Addr×Value)->Prop:=Paired λp q=>p.1=q.1/\KAt H p.1 q.2.1/\RelV p.2 q.2.2
theorem KT.val (r:KT H a xs) (k:PyData):RelO (O3 a k) ((atKey xs k).map (·.2)):=by
 induction r with
 | nil=>trivial
 | @cons p q j c h t i =>
  obtain⟨d,_,g⟩:=h
  by_cases e:p.1=k
  ·have b:atKey (q::c) k=some q.2:=by simp[atKey,(d.symm.trans e)]
   rw[Tc e,b];exact g
  ·have f:¬ q.1=k:=λz=>e (d.trans z)
   have b:atKey (q::c) k=atKey c k:=by simp[atKey,f]
   rw[Tp e];grind
theorem KT.repl (r:KT H a xs) (k:PyData) (d:RelV y u) :
 KT H (a.map λb=>if b.1=k then (b.1,y) else b) (xs.map (putAt k u)):=by
 induction r with
 | nil=>exact .nil
 | @cons p q e f h t c =>
  refine .cons ?_ c
  unfold putAt
  grind
theorem KT.put (r:KT H a xs) (k:PyData) (hb:KAt H k b) (c:RelV y u) :
 KT H (putK a k y) (storedH xs k b u):=by
 have e:(a.any λd=>decide (d.1=k))=(atKey xs k).isSome:=by
  rw[Aa7,(r.val k).isSome_eq,Option.isSome_map]
 unfold putK storedH;rw[e]
 by_cases q:(atKey xs k).isSome=true
 ·rw[if_pos q,if_pos q];exact r.repl k c
 ·rw[if_neg q,if_neg q];exact Paired.snoc r ⟨rfl,hb,c⟩
theorem KT.keeps (r:KT H a xs) (ht:∀b ys,H b=some (.tup ys)->H' b=some (.tup ys)):KT H' a xs :=
 Paired.mapP r λ_ _ z=>⟨z.1,z.2.1.stay ht,z.2.2⟩
section
variable {P:Program}{w:World}{H:Hp}{h:Heap}{a:Addr}
theorem Gp (b:HOk P w H h) (e:Rd H a u):z8 P w H h a u:=e.ok b
theorem A3c (c:HOk P w H h) (e:Rd H a (.dK b)):b.length<=sizeLine/\(a==sysModules)=false/\∃vs,KV b vs/\h.DictOf (Dl P w) a vs :=
 show z8 P w H h a _ from Gp c e
theorem Br6 (c:HOk P w H h) (e:H a=some (.dK b)):b.length<=sizeLine/\(a==sysModules)=false/\∃vs,KV b vs/\h.DictOf (Dl P w) a vs:=A3c c (.inl e)
mutual
theorem V7 (ok:HOk P w H h):∀{d:PyData}{v:V}{u:Value},KTr H d v->RelV v u->∃as,Reads h u d as
 | .none,_,u=>λe r=>by
  cases (show _=V.non from e)
  cases (show u=Value.none from r)
  exact⟨_,.none⟩
 | .int i,_,u=>λe r=>by
  cases (show _=V.int i from e)
  obtain⟨t,rfl⟩:=r;exact⟨_,.int i t⟩
 | .str x,_,u=>λe r=>by
  cases (show _=V.str x from e)
  obtain⟨t,rfl⟩:=r;exact⟨_,.str x t⟩
 | .tuple ds,_,u=>λe r=>by
  obtain⟨a,vs,rfl,ha,t⟩:=e
  cases (show u=Value.ref a from r)
  obtain⟨z,its,rv,o,e,c,⟨n,dt⟩,_⟩:=ok a _ ha;obtain⟨as,q⟩:=Va ok t rv
  exact⟨_,.tuple e c dt (by simpa using q)⟩
 | .bool _,_,_=>λe _=>False.elim e
 | .list _,_,_=>λe _=>False.elim e
 | .dict _,_,_=>λe _=>False.elim e
theorem Va (ok:HOk P w H h):∀{ds:List PyData}{vs:List V}{us:List Value},KTrL H ds vs->Vals vs us->∃as,ReadsAll h us ds as
 | [],_,us=>λe r=>by
  cases (show _=[] from e)
  cases r
  exact⟨_,.nil⟩
 | d::ds,_,us=>λe r=>by
  obtain⟨v,vs,rfl,hv,t⟩:=e
  cases r with
  | cons r1 r2 =>
   obtain⟨as,q⟩:=V7 ok hv r1;obtain⟨bs,p⟩:=Va ok t r2;exact⟨_,.cons q p⟩
end
theorem Ai6 (b:HOk P w H h) (e:KAt H k a):(Lg P w).is h k a:=⟨e.1,V7 b e.2 (show RelV _ _ from rfl)⟩
theorem A3m (f:HOk P w H h) (e:Rd H a (.dT b)):b.length<=sizeLine/\(a==sysModules)=false /\
 ∃c,KT H b c/\h.DictOfH (Lg P w) a c:=by
 obtain⟨z,y,c,r,o,v,i,j,k,g,s,u⟩:=(show z8 P w H h a _ from Gp f e)
 refine⟨z,y,c,r,o,v,i,j,k,g,s,λx d=>?_,u⟩
 have n:∀{l:List _} {m:List _},KT H l m->∀x∈m,(Lg P w).is h x.1 x.2.1:=by
  intro l m q
  induction q with
  | nil=>simp_all
  | @cons p q B C D t A =>
   intro x d
   rcases List.mem_cons.mp d with e | d
   ·exact Ai6 f (by grind)
   grind
 grind
theorem Bt0 (c:HOk P w H h) (e:H a=some (.dT b)):b.length<=sizeLine/\(a==sysModules)=false /\
 ∃xs,KT H b xs/\h.DictOfH (Lg P w) a xs:=A3m c (.inl e)
end
def DGet (H:Hp)(a:Addr)(y:V)(r:Option V):Prop :=
 (∃kvs k,Rd H a (.dK kvs)/\y=kV k/\r=O3 kvs k)\/∃kvs k b,Rd H a (.dT kvs)/\y=.ref b/\KAt H k b/\r=O3 kvs k
def DPut (H:Hp)(a:Addr)(y v:V)(H':Hp):Prop :=
 (∃kvs k,H a=some (.dK kvs)/\y=kV k/\kvs.length<sizeLine/\H'=upd H a (.dK (putK kvs k v))) \/
 ∃kvs k b,H a=some (.dT kvs)/\y=.ref b/\KAt H k b/\kvs.length<sizeLine/\H'=upd H a (.dT (putK kvs k v))
theorem DGet.k {H:Hp}{a:Addr}{kvs:List (Key×V)}{k:Key}(e:H a=some (.dK kvs)):DGet H a (kV k) (O3 kvs k):=.inl ⟨kvs,k,.inl e,rfl,rfl⟩
theorem DPut.k {H:Hp}{a:Addr}{kvs:List (Key×V)}{k:Key}{v:V}(e:H a=some (.dK kvs))(hl:kvs.length<sizeLine):DPut H a (kV k) v (upd H a (.dK (putK kvs k v))):=.inl ⟨kvs,k,e,rfl,hl,rfl⟩
section
variable {X:Cx}{pins:List (Addr×Obj)}{σ:St}{H:Hp}{s:Shared}{a:Addr}{y v:V}{u r:Value}{o:Option V}{A:Around}{E:Value->Shared->Prop}
theorem Inv.big (I:Inv X pins σ H s):sysModules<s.heap.objs.size:=by
 exact Nat.lt_trans (by decide) ((I.mod.glob.keeps I.bk).lt)
theorem As5 {Q:Value->Shared->Prop}(hu:A.units+9<cLine)(I:Inv X pins σ H s)(g:DGet H a y (some v))(q:RelV y u)(h:∀f s',Inv X pins σ H s'->RelV v f->Q f s') :
 wpAny (model X.prog X.w) A (getItem (.ref a) u) Q E s:=by
 rcases g with ⟨m,k,e,n,l⟩ | ⟨m,k,b,e,n,r,l⟩
 ·subst n
  obtain⟨z,w,x,d,j⟩:=A3c I.hok e
  obtain⟨f,o,c⟩:=RelO.some_of (by rw[l];exact d.val k)
  exact wpAny_getItem_of (Ba6 q) j.mapOf o (h _ _ (I.tok _) c)
 ·subst n
  cases (q)
  obtain⟨z,w,B,d,j⟩:=A3m I.hok e
  obtain⟨f,o,c⟩:=RelO.some_of (by rw[l];exact d.val k)
  obtain⟨p,t,i⟩:=Option.map_eq_some_iff.mp o
  refine wpAny_getItem_heap ((A9v hu)) (Ai6 I.hok r) j t ?_
  rw[i];exact h _ _ (I.tok _) c
theorem Wx (I:Inv X pins σ H s) (e:Mut (H a)) (hs:Heap.SameBut a s.heap h') (he:∃q,h'.get? a=some q) (c:z8 X.prog X.w (upd H a ob) h' a ob) :
 Inv X pins σ (upd H a ob) { s with heap:=h',toks:=t' } :=
 I.write e (.inl rfl) (λb q d z=>(hs.2 b d).trans z) he c
theorem Bc3 (z:b.length<=sizeLine) (hd:(a==sysModules)=false) (c:KV b vs) (dd:h'.DictOf (Dl P w) a vs) :
 z8 P w H' h' a (.dK b):=⟨z,hd,vs,c,dd⟩
theorem Au2 (hu:A.units+9<cLine) (I:Inv X pins σ H s) (g:DPut H a y v H') (C:RelV y u) (D:RelV v r) (h:∀s',Inv X pins σ H' s'->Q () s') :
 wpAny (model X.prog X.w) A (setItem (.ref a) u r) Q E s:=by
 rcases g with ⟨f,k,e,n,l,o⟩ | ⟨f,k,b,e,n,F,l,o⟩
 ·subst n o
  obtain⟨z,w,N,d,m⟩:=Br6 I.hok e
  have B:N.length<=sizeLine:=by rw[<- d.length];omega
  have p:(putK f k v).length<=sizeLine:=by have:=Rp f k v;omega
  refine wpAny_setItem_pairs (hsz:=B) (Ba6 C) m λx i t=>h _ ?_
  have J:∃q,x.get? a=some q:=let ⟨q,_,_,j,_⟩:=i; ⟨q,j⟩
  exact Wx I (by rw[e];trivial) t J (Bc3 p w (d.put k D) i)
 ·subst n o
  cases (show u=Value.ref b from C)
  obtain⟨z,w,K,d,m⟩:=Bt0 I.hok e
  have B:K.length<=sizeLine:=by rw[<- Paired.length d];grind
  have p:(putK f k v).length<=sizeLine:=by have:=Rp f k v;omega
  refine wpAny_setItem_heap ((A9v hu)) (Ai6 I.hok F) m λx i t=>h _ ?_
  obtain⟨q,L,M,j,O,P,R,_,S⟩:=i
  refine Wx I (by rw[e];trivial) t ⟨q,j⟩ ⟨p,w,_,(d.put k F D).keeps λc T G=>?_,q,L,M,j,O,P,R,S⟩
  rw[Ar (Bm6 G e λz=>nomatch z)]
  grind
end
def Bd4 (i:Expr):Prop:=∀ov iv,subscripted i false ov iv=operate [ov,iv] (getItem ov iv)
theorem A8p {prog:Program}{w:World}{A:Around}{E:Value->Shared->Prop}{s:Shared}{env:Env}{b a:Expr}{k:Pos}{T id:String}{Q:Value->Shared->Prop}
 (hl:typeLookup (.type T) "__getitem__" = pure (some (.builtin id))) (hs:Bd4 a)
 (h:wpAny (model prog w) A (eval b env) (λo e=>wpAny (model prog w) A (eval a env) (λi c=>c.TypeIs o T/\wpAny (model prog w) A (getItem o i) Q E c) E e) E s) :
 wpAny (model prog w) A (eval (.Subscript b a k) env) Q E s:=by
 refine Subscript_ (wpAny_mono h (λo e j=>wpAny_mono j (λi c d=>?_) λ_ _ x=>x) λ_ _ x=>x)
 obtain⟨m,d⟩:=d
 refine wpAny_bind ?_
 refine wpAny_bind (wpAny_specialOf m hl ?_)
 have l:wpAny (model prog w) A (subscripted a false o i) (λr f=>wpAny (model prog w) A (letTemporaryGo b o r >>= λ_=>pure r) Q E f) E c:=by
  rw[hs o i]
  exact wpAny_operating (wpAny_mono d (λr f g=>wpAny_bind (wpAny_letTemporaryGo (wpAny_pure g))) λ_ _ x=>x)
 first
  | exact wpAny_pure (wpAny_bind l)
  | simp_all
  | trivial
theorem Zf {X:Cx}{pins:List (Addr×Obj)}{f:St}{H:Hp}{s:Shared}{a:Addr}{y:V}{o:Option V}(I:Inv X pins f H s)(g:DGet H a y o):s.TypeIs (.ref a) "dict" := by
 rcases g with ⟨d,k,e,_,_⟩ | ⟨d,k,b,e,_,_,_⟩
 ·obtain⟨_,_,i,_,c⟩:=A3c I.hok e
  exact c.typeIs
 ·obtain⟨_,_,h,_,c⟩:=A3m I.hok e
  exact c.typeIs
def A3s (td ty:TE):TE:=λσ H Q=>td σ H λx H1=>ty σ H1 λy H2=>∃a v,x=.ref a/\DGet H2 a y (some v)/\Q v H2
def A4x (td ty tv:TE):TS:=λD σ H=>tv σ H λv H1=>td σ H1 λx H2=>ty σ H2 λy H3=>∃a H4,x=.ref a/\DPut H3 a y v H4/\D.nx σ H4
section
variable {X:Cx}{o i e value:Expr}{pos pos':Pos}{td ty tv:TE}
theorem A6o (hu:X.A.units+9<cLine)(ho:PE X o td)(hi:PE X i ty)(hs:Bd4 i):PE X (.Subscript o i pos) (A3s td ty):=by
 intro c s σ H Q I h
 refine A8p PySem.F.slot_dict_getitem.lookup hs (thn (ho _ s _ H _ I h) λu s1 ⟨x,H1,f,j,k⟩=>thn (hi _ _ _ _ _ f k) λiv s2 ⟨y,l,d,e,a,v,n,g,m⟩=>?_)
 subst n;obtain rfl:u=Value.ref a:=j
 exact⟨Zf d g,As5 hu d g e λw' s3 p b=>⟨v,l,p,b,m⟩⟩
theorem A6z (hu:X.A.units+9<cLine)(ho:PE X o td)(hi:PE X i ty)(hv:PE X value tv)(hs:swapsWith value (some (.Subscript o i pos')) pos.line X.env=pure false) :
 PS X (.Assign [.Subscript o i pos'] value pos) (A4x td ty tv):=by
 intro b s e H D I h
 refine wpAny_Assign_Subscript (thn (hv _ s _ H _ I h) λr s1 ⟨v,H1,f,j,k⟩=>thn (ho _ _ _ _ _ f k) λu s2 ⟨x,H2,l,m,d⟩=>thn (hi _ _ _ _ _ l d) λiv s3 ⟨y,H3,p,q,a,n,w,g,t⟩=>?_) hs
 subst w;obtain rfl:u=Value.ref a:=m
 exact Au2 hu p g q j λs4 c=>⟨e,n,c,t⟩
end
theorem A2i {P:Program}{w:World}{H:Hp}(h:Heap)(hb:sysModules<h.objs.size):z8 P w H (h.push { cls:=.type "dict",data:=.dict #[] }) h.objs.size (.dK []) :=
 ⟨Nat.zero_le _,beq_eq_false_iff_ne.mpr (Ne.symm (Nat.ne_of_lt hb)),[],.nil,Heap.DictOf.new h⟩
def Ad9:TE:=λ_ H Q=>∀p,H p=none->Q (.ref p) (upd H p (.dK []))
section
variable {X:Cx}{pos:Pos}
theorem A2r:PE X (.Dict [] [] pos) Ad9:=λpins s σ H Q I h =>
 wpAny_Dict_empty ⟨.ref s.heap.objs.size,_,I.laid (a:=s.heap.objs.size) (o:=.dK []) (t':=s.toks) (λ_ _ q=>Heap.get?_push_of_some _ q) (Nat.le_refl _) (A2i s.heap I.big),rfl,h _ (I.hok.fresh (Nat.le_refl _))⟩
end
end L2
namespace Att
open PySem PySem.W PySem.Calls PyProof.Rows
theorem R8 : ∀(ns:List Int) (vs:List Value),WellAll P h vs (ns.map WData.int)->IntsAre vs ns:=by
 intro ns
 induction ns with
 | nil =>
  intro vs w
  cases w
  exact .nil
 | cons n ns c =>
  intro vs w
  cases w with
  | cons a b =>
   cases a
   exact .cons _ _ (c _ b)
theorem Au8 {l:OpenLaw} (hn:l.most=some n)
 (hpre:l.row.toRowW.claim.pre args=true) (hwl:WellAll P h vals args) :
 ∃a vs ns,vals=[Value.ref a]/\args=[WData.list (ns.map WData.int)]/\h.get? a=some { cls:=.type "list",data:=.seq vs.toArray }/\IntsAre vs ns/\ns.length<=n:=by
 have hsh:WShape.hasAll [] args [.list .int]=true:=(pre_splitW hpre).1;have hc:l.pre.holds [] { args:=args }=true:=(pre_splitW hpre).2;obtain⟨d,r,rfl,h1,h2⟩:=hasAllW_cons hsh;obtain rfl:=hasAllW_nil h2;obtain⟨xs,rfl,h3⟩:=hasW_list h1;obtain⟨ns,rfl⟩:=items_int h3
 have hlen:ns.length<=n:=by
  unfold OpenLaw.pre at hc
  have h4:(WTm.not (.lt (.lit (.int (n:Int))) (.len (.arg 0)))).holds [] { args:=[.list (ns.map .int)] }=true:=by
   have h4:=(holds_andW hc).1;rw[hn]at h4;exact h4
  have h5:=condW_of h4 (w_not (w_lt w_lit (w_len_list (w_arg rfl))));rw[List.length_map]at h5
  refine Nat.le_of_not_lt λq=>?_
  have q':(n:Int)<((ns.length:Nat):Int):=by omega
  first
   | (rw[decide_eq_true q']at h5;exact absurd h5 (by decide))
   | (simp at h5;omega)
 cases hwl with
 | cons w1 w2 =>
  cases w2
  cases w1 with
  | list ho hall=>exact⟨_,_,ns,rfl,rfl,ho,R8 ns _ hall,hlen⟩
theorem At8 (l:OpenLaw)(args:List WData):l.row.toRowW.claim.post args (.bool true) args=true :=
 postW_of
  (show WShape.has _ _ _=true by rfl)
  (show (WTm.eq _ _).value _ _=some _ from w_eq_bool (w_res rfl) w_lit) rfl
theorem Ac0 {l:OpenLaw}
 (hn:l.most=some n) (t:d.params.defaults=[])
 (i:∀(w:World) (c b:Shared) (mg B:Str->Option Value) (fa:Addr) (o:Obj) (z v h:Value) (a:Addr) (vs:List Value) (ns:List Int),
  Ground q loose [] XP w c mg B b.heap->YP w b.heap ->
  b.heap.get? fa=some o->o.data=.func (docDef d.name d.params d.body d.scope z v h)->b.heap.CodeRec v d.name->mg d.name=some (.ref fa) ->
  b.heap.get? a=some { cls:=.type "list",data:=.seq vs.toArray }->IntsAre vs ns->ns.length<=n->b.gens=#[] ->
  codeAny (model l.prog w) callerA (.call (.ref fa) ⟨[.ref a],[]⟩) (λr s'=>r=.ok (.ret (.bool true))/\OldK b.heap s'.heap/\s'.os=b.os/\AllBare s'.gens) b) :
 WalkO q loose XP YP l.row.toRowW d [] (λf vs=>PySem.call f vs):=by
 intro w c b mg B G Y fa o z v h M H J K u C m D x A as g y F p I;obtain rfl:M=.none:=Dflts.none C t;obtain rfl:H=.none:=Dflts.noKw C;obtain⟨a,vs,ns,rfl,rfl,j,e,k⟩:=Au8 hn g p
 refine enter_call (codeAny_mono (i w _ _ _ _ _ o _ _ _ a _ _ G Y J (fd_plain K) u m j e k D) λr s' N=>?_)
 obtain⟨rfl,L,O,P⟩:=N
 exact⟨.inl ⟨.bool _,.bool _,[],rfl,λ_=>rfl,.bool _,At8 l _,λ_=>⟨List.Pairwise.nil,λ_ E=>nomatch E⟩⟩,L,O,P⟩
end Att
namespace L2
open PySem PySem.Spec PyProof.Rows
theorem Wc:∀{vs:List Value}{ns:List Int},IntsAre vs ns->Vals (ns.map V.int) vs
 | _,_,.nil=>.nil
 | _,_,.cons n t h=>.cons ⟨t,rfl⟩ (Wc h)
noncomputable def Jm (s:Stmt):Arguments:=match s with
 | .FunctionDef _ a _ _ _ _ _ _ _ _=>a
 | _=>{ posonlyargs:=[],args:=[],vararg:=none,kwonlyargs:=[],kw_defaults:=[],kwarg:=none,defaults:=[] }
noncomputable def Hq (s:Stmt):List Stmt:=match s with
 | .FunctionDef _ _ b _ _ _ _ _ _ _=>b
 | _=>[]
noncomputable def Ay (s:Stmt):Scope:=match s with
 | .FunctionDef _ _ _ _ _ _ sc _ _ _=>sc
 | _=>{ kind:=.function,names:=[],isGenerator:=false,isCoroutine:=false }
noncomputable abbrev CX0:CXT:=λ_ _ _ _ _ _=>False
abbrev E0:XK:=λ_ _ _=>False
theorem Br9 : U6 CX0 X E0:=λ_ _ _ _ _ _ _ h=>h.elim
structure Fun (K:PySem.W.Frag) (x qual:Str) (st:Stmt) (f:Addr) (fd:FuncData):Prop where
 ex:∃(oc:Value) (od:Option Addr) (kV doc pm:Value) (an:Option Addr) (cdv ct:Value) (osl:Array (Option Value)),
  fd=PySem.W.fnOf x qual (Jm st) (Hq st) (Ay st) .none kV doc pm an cdv ct/\K.lookup f=some ⟨oc,od,.func fd,osl⟩/\PySem.W.codeIn K cdv qual=true
 kp:PySem.W.keepIn K (.ref f)=true
section
variable {P:Program}{w:World}{K:PySem.W.Frag}{mg:Str->Option Value}{base:Heap}
theorem Fun.ok {st:Stmt} (F:Fun K x qual st f i) (S:Br N ps (Ay st)) (g:∀vs H Q E,sp vs H Q E->vs.length=ps.length)
 (b:∀(c:Value) (A:Around) (a:List Env) (s:Shared) (H:Hp) (vs:List V) (Q:VK) (E:XK),Room k (A.deeper (envOfC qual (Ay st) s.heap.objs.size f c))->sp vs H Q E ->
  ∃t,PSs (Aj6 CX0 P w K mg base N qual (Ay st) f c A a s H E).nox (Hq st) t/\t { nx:=λ_ H'=>Q .non H',rt:=Q } (start N vs) H):FnOk P w K mg base CX0 (k+1) f i ps sp:=by
 obtain⟨oc,od,kV,l,pm,an,c,ct,j,rfl,m,e⟩:=F.ex
 refine Ba3 m e S g λA a s H vs Q E n d=>?_
 obtain⟨t,h,q⟩:=b _ A _ s H _ Q E n d;exact⟨t,h.nox,q⟩
theorem Fun.binds {st:Stmt} (F:Fun K x qual st f d)
 (h:∀(i b e:Value) (g:Option Addr) (a c:Value) (us:List Value),us.length=ps.length->bindArgs (PySem.W.fnOf x qual (Jm st) (Hq st) (Ay st) .none i b e g a c) ⟨us,[]⟩=pure (ps.zip us)):Binds K d ps []:=by
 obtain⟨oc,od,i,b,e,g,a,c,k,rfl,lk,j⟩:=F.ex;exact .all (h _ _ _ _ _ _)
end
section
variable {X:Cx}
theorem pv (i:Nat) {a:Pos}(hN:X.N[i]?=some x:=by rfl) (hv:Vis X.env.scope x:=by first | exact Or.inl rfl | exact Or.inr (Or.inl rfl) | exact Or.inr (Or.inr rfl)) (hd:(x==("__debug__" : Str))=false:=by decide)
 (hcd:(x==("__classdict__" : Str))=false:=by decide):PE X (.Name x a) (Xv i):=A4u hN hv hd hcd
end
def Same (H H':Hp):Prop:=∀b o,H b=some o->H' b=some o
theorem Same.refl (H:Hp):Same H H:=λ_ _ h=>h
theorem Same.trans (a:Same H e) (b:Same e d):Same H d:=λc o h=>b c o (a c o h)
theorem Same.free (e:Same H H') (h:H' l=Option.none):H l=Option.none:=by
 cases q:H l with
 | none=>rfl
 | some o =>
  rw[e l o q]at h
  grind
theorem Same.seq {K:PySem.W.Frag} (e:Same H H') (h:SqL K H a xs):SqL K H' a xs:=by
 rcases h with (h | ⟨o,h⟩) | h
 ·exact .inl (.inl (e _ _ h))
 ·exact .inl (.inr ⟨o,e _ _ h⟩)
 ·exact .inr h
end L2
set_option maxHeartbeats 4000000
namespace L2
open PySem PySem.Spec PyProof.Rows
noncomputable abbrev Fe (X:Cx) (N':List Str) (scope:Scope) (cl:List (Str×Addr)) (C:Addr) (s₀:Shared) (H₀:Hp) (ex:List Addr):Cx :=
 { X with N:=N',env:=compEnvC scope cl C X.env,s₀:=s₀,H₀:=H₀,outer:=X.stack,stack:=X.stack,ex:=ex,fn:=λx=>decide (scope.names.lookup x=some .local\/scope.names.lookup x=some .cell),pn:=[],xe:=λ_ _=>False }
noncomputable def cst (idx:List (Option Nat)) (σ:St):St:=idx.map λo=>o.bind λi=>(σ[i]?).join
structure Ih (X:Cx) (N':List Str) (idx:List (Option Nat)) (scope:Scope):Prop where
 kind:scope.kind=.function
 nod:(scope.names.map (·.1)).Nodup
 free:∀y∈scope.names,y.2=.free->X.env.kindOf y.1=some .cell\/X.env.kindOf y.1=some .free
 len:idx.length=N'.length
 at':∀(j i:Nat) (x:Str),N'[j]?=some x->idx[j]?=some (some i)->X.N[i]?=some x/\scope.names.lookup x=some .free
structure Og (X:Cx) (N':List Str) (idx:List (Option Nat)) (scope:Scope):Prop extends Ih X N' idx scope where
 cell:∀y∈scope.names,y.2≠.cell
theorem Jr (env:Env):∀(names:List (Str×NameKind)) (acc:List (Str×Addr)),(∀y∈names,y.2=.free->∃c,env.cells.lookup y.1=some c) ->
 ∃
  cl,(forIn names acc λ(p:Str×NameKind) (r:List (Str×Addr))=>(if (p.2==NameKind.free)=true then (do let c <- cellOf env p.1;pure (ForInStep.yield ((p.1,c)::r))) else pure (ForInStep.yield r):Sem (ForInStep (List (Str×Addr)))))=(pure cl:Sem (List (Str×Addr))) /\
  (∀x c,cl.lookup x=some c->acc.lookup x=some c\/(env.cells.lookup x=some c/\(x,NameKind.free)∈names))/\(∀x,((∃c,acc.lookup x=some c)\/(x,NameKind.free)∈names)->∃c,cl.lookup x=some c)
 | [],acc,_=>⟨acc,rfl,λx c e=>.inl e,λx h=>by
  rcases h with h | h
  ·exact h
  ·simp at h⟩
 | (n,k)::r,acc,h=>by
  by_cases hk:k=NameKind.free
  ·subst hk
   obtain⟨c,hc⟩:=h (n,.free) (by simp) rfl
   obtain⟨cl,e,a,b⟩:=Jr env r ((n,c)::acc) λy hy=>h y (List.mem_cons_of_mem _ hy)
   refine⟨cl,?_,λx c' e'=>?_,λx hx=>?_⟩
   ·rw[List.forIn_cons]
    simp only[cellOf,hc];exact e
   ·rcases a x c' e' with z | ⟨z1,z2⟩
    ·rw[List.lookup_cons]at z
     split at z
     ·rename_i hxe
      have:x=n:=by simpa using hxe
      subst this
      cases z
      exact .inr ⟨hc,by simp⟩
     ·exact .inl z
    ·exact .inr ⟨z1,List.mem_cons_of_mem _ z2⟩
   ·refine b x ?_
    rcases hx with ⟨c',z⟩ | z
    ·left
     rw[List.lookup_cons]
     split
     ·exact⟨_,rfl⟩
     ·exact⟨_,z⟩
    ·rcases List.mem_cons.mp z with z | z
     ·left
      cases z
      exact⟨c,by simp⟩
     ·exact .inr z
  ·obtain⟨cl,e,a,b⟩:=Jr env r acc λy hy=>h y (List.mem_cons_of_mem _ hy)
   refine⟨cl,?_,λx c' e'=>?_,λx hx=>?_⟩
   ·rw[List.forIn_cons]
    have:(k==NameKind.free)=false:=by cases k <;> first | rfl | exact absurd rfl hk
    simp only[this];exact e
   ·rcases a x c' e' with z | ⟨z1,z2⟩
    ·exact .inl z
    ·exact .inr ⟨z1,List.mem_cons_of_mem _ z2⟩
   ·refine b x ?_
    rcases hx with z | z
    ·exact .inl z
    ·rcases List.mem_cons.mp z with z | z
     ·cases z;exact absurd rfl hk
     ·exact .inr z
theorem N5 (h:∀y∈scope.names,y.2=.free->∃c,env.cells.lookup y.1=some c) :
 ∃d,closureFor scope env=pure d/\(∀x c,d.lookup x=some c->env.cells.lookup x=some c/\(x,NameKind.free)∈scope.names)/\(∀x,(x,NameKind.free)∈scope.names->∃c,d.lookup x=some c):=by
 obtain⟨d,e,a,b⟩:=Jr _ _ [] h
 refine⟨d,?_,λx c g=>?_,λx f=>b x (.inr f)⟩
 ·unfold closureFor
  grind
 simp_all
noncomputable abbrev A8h (ifs:List Expr) (env:Env):Sem Bool:=forIn ifs true λc r=>if r=true then do let ok <- isTrue c env (eval c env);pure (ForInStep.yield ok) else pure (ForInStep.yield r)
def Bk3 (M:Model)(A:Around)(E:Value->Shared->Prop)(tg elt:Expr)(ifs:List Expr)(env:Env)(it acc v:Value)(Z:Shared->Prop)(s:Shared):Prop :=
 wpAny M A (letOwnedTupleGo tg it v) (λ_ a=>wpAny M A (assign tg env v) (λ_ b=>wpAny M A (A8h ifs env) (λok c=>match ok with
  | true=>wpAny M A (eval elt env) (λx d=>wpAny M A (call (.builtin "list.append") [acc,x]) (λ_ z=>Z z) E d) E c
  | false=>Z c) E b) E a) E s
theorem A9f (C:E=notedBy (model P w) A env λx z=>R (.error x) z) (Wd:Nat->Shared->Prop)
 (step:∀n z,Wd n z->wpAny (model P w) A (pyNext it) (λr a=>match r with
  | none=>R (.ok .next) a
  | some v=>Bk3 (model P w) A E o i j env it acc v (λy=>∃m,m<n/\Wd m y) a) E z) (n:Nat) (h:Wd n s) :
 codeAny (model P w) A (.compLoop (.ListComp i [⟨o,f,j,0⟩] p l) 0 it acc env) R s:=by
 subst C
 refine codeAny_loop (I:=Wd) rfl (turn:=?_) n h
 intro k z G
 show wpAny (model P w) A (Sem.onRaise (compTurn (.ListComp i [⟨o,f,j,0⟩] p l) 0 it acc env) λx=>do noteFrame x env;theTreesLotGoes x) _ _ z
 apply wpAny_noted;rw[compTurn_list];apply wpAny_bind;apply wpAny_standAt;apply wpAny_bind
 refine wpAny_mono (step k z G) ?_ λ_ _ q=>q
 rintro (_ | v) a u
 ·exact wpAny_pure u
 apply wpAny_bind
 refine wpAny_mono u ?_ λ_ _ q=>q
 intro _ b D;apply wpAny_bind
 refine wpAny_mono D ?_ λ_ _ q=>q
 intro _ c F;apply wpAny_bind
 refine wpAny_mono F ?_ λ_ _ q=>q
 rintro (_ | _) d t
 ·exact wpAny_pure (And.intro rfl t)
 apply wpAny_bind;apply wpAny_bind
 refine wpAny_mono t ?_ λ_ _ q=>q
 intro y e H;apply wpAny_bind
 refine wpAny_mono H ?_ λ_ _ q=>q
 intro _ g B;exact wpAny_pure (wpAny_pure (And.intro rfl B))
def PTs (X:Cx)(ifs:List Expr)(t:TT):Prop :=
 ∀
  (pins:List (Addr×Obj)) (s:Shared) (σ:St) (H:Hp) (Q:Bool->Hp->Prop),Inv X pins σ H s->t σ H Q ->
  wpAny (model X.prog X.w) X.A (forIn ifs true λc r=>if r=true then do let ok <- isTrue c X.env (eval c X.env);pure (ForInStep.yield ok) else pure (ForInStep.yield r)) (TP X pins σ Q) X.xe s
structure QTs (X:Cx) (e:(List Expr)) (t:TT):Prop where
 get:PTs X e t
def A9a:TT:=λ_ H Q=>Q true H
theorem A5x : PTs X [] A9a:=λ_ _ _ H _ I h=>wpAny_tests_nil ⟨H,I,h⟩
theorem A5t (h:PT X c t):PTs X [c] t:=λa s b H Q I q=>wpAny_tests_one (h _ s _ H Q I q)
def tLC (idx:List (Option Nat))(wi:TI)(g:TG)(tc:TT)(te:TE):TE:=λσ H Q=>wi σ H λJ H1 =>
 ∃
  W:Nat->Nat->St->List V->Hp->Prop,(∃m,W 0 m (cst idx σ) [] H1)/\∀i m σ' acc H,W i m σ' acc H ->
  (J.stop i H/\∀p,H p=none->Q (.ref p) (upd H p (.lst acc))) \/
  (J.go i H/\acc.length<sizeLine/\∃N:St->List V->Hp->Prop,(∀σ' acc' H',N σ' acc' H'->∃m',m'<m/\W (i+1) m' σ' acc' H')/\∀x H',J.yld i H x H'->g x σ' H' λσ2 H2=>tc σ2 H2 λb H3 =>
   if b=true then te σ2 H3 λy H4=>N σ2 (acc++[y]) H4 else N σ2 acc H3)
theorem HOk.track (x:HOk P w H h) (hn:H a=none) (f:z8 P w (upd H a o) h a o):HOk P w (upd H a o) h:=λb u e=>by
 by_cases hb:b=a
 ·subst hb;rw[Bw]at e;simp_all
 ·rw[Ar hb]at e
  exact(x b u e).stay (λc v _ q=>q) λc q=>by rw[Ar (Bl q hn)];grind λc d q=>by rw[Ar (Bl q hn)];grind λc g d q=>by rw[Ar (Bl q hn)];grind
theorem Ia {env:Env}:∀{names:List (Str×NameKind)}{x:Str},names.lookup x=some .free ->
 (names.map λ(n,k)=>if (k==NameKind.free&&env.scope.kind==.function&&env.kindOf n==some .cell) then (n,NameKind.cell) else (n,k)).lookup x=some .free \/
 (names.map λ(n,k)=>if (k==NameKind.free&&env.scope.kind==.function&&env.kindOf n==some .cell) then (n,NameKind.cell) else (n,k)).lookup x=some .cell
 | [],_,h=>by simp at h
 | (n,k)::r,x,h=>by
  have ih:=@Ia env r x;simp only[List.map_cons]
  cases hx:x==n with
  | true =>
   simp only[List.lookup_cons,hx]at h
   cases h
   split
   ·right;simp[List.lookup_cons,hx]
   ·left;simp[List.lookup_cons,hx]
  | false =>
   simp only[List.lookup_cons,hx]at h
   split
   ·simp only[List.lookup_cons,hx];exact ih h
   ·simp only[List.lookup_cons,hx];exact ih h
theorem Kh {env:Env}:∀{names:List (Str×NameKind)}{x:Str}{k:NameKind},
 (names.map λ(n,k)=>if (k==NameKind.free&&env.scope.kind==.function&&env.kindOf n==some .cell) then (n,NameKind.cell) else (n,k)).lookup x=some k ->
 names.lookup x=some k\/(k=.cell/\names.lookup x=some .free)
 | [],_,_,h=>by simp at h
 | (n,k')::r,x,k,h=>by
  have ih:=@Kh env r x k;simp only[List.map_cons]at h
  cases hx:x==n with
  | true =>
   by_cases hc:(k'==NameKind.free&&env.scope.kind==.function&&env.kindOf n==some .cell)=true
   ·rw[if_pos hc]at h
    simp only[List.lookup_cons,hx]at h
    cases h
    right
    refine⟨rfl,?_⟩
    simp only[List.lookup_cons,hx]
    have:k'=.free:=by
     simp only[Bool.and_eq_true]at hc;exact eq_of_beq hc.1.1
    rw[this]
   ·rw[if_neg hc]at h
    simp only[List.lookup_cons,hx]at h ⊢;exact .inl h
  | false =>
   simp only[List.lookup_cons,hx]
   refine ih ?_
   by_cases hc:(k'==NameKind.free&&env.scope.kind==.function&&env.kindOf n==some .cell)=true
   ·rw[if_pos hc]at h;simpa only[List.lookup_cons,hx] using h
   ·rw[if_neg hc]at h;simpa only[List.lookup_cons,hx] using h
theorem lookup_mem {α:Type}:∀{l:List (Str×α)}{x:Str}{k:α},l.lookup x=some k->(x,k)∈l
 | [],_,_,h=>by simp at h
 | (n,k')::r,x,k,h=>by
  rw[List.lookup_cons]at h
  split at h
  ·rename_i e
   have:x=n:=by simpa using e
   subst this
   cases h
   simp
  ·exact List.mem_cons_of_mem _ (lookup_mem h)
theorem mem_lookup {α:Type}:∀{l:List (Str×α)}{x:Str}{k:α},(l.map (·.1)).Nodup->(x,k)∈l->l.lookup x=some k
 | [],_,_,_,h=>by simp at h
 | (n,k')::r,x,k,hn,h=>by
  have hn:(n::r.map (·.1)).Nodup:=hn
  obtain⟨h1,h2⟩:=List.nodup_cons.mp hn
  rcases List.mem_cons.mp h with h | hr
  ·cases h;simp
  ·rw[List.lookup_cons]
   split
   ·rename_i e
    have:x=n:=by simpa using e
    subst this
    exact absurd (show x∈r.map (·.1) from List.mem_map.mpr ⟨(x,k),hr,rfl⟩) h1
   ·exact mem_lookup h2 hr
section
variable {X:Cx}{N':List Str}{idx:List (Option Nat)}{scope:Scope}
theorem A8x {pins:List (Addr×Obj)}{σ:St}{H:Hp}{s:Shared}{fp:List Addr}{cl:List (Str×Addr)}{C:Addr}(L:Ih X N' idx scope)(I:Inv X pins σ H s)(hf:∀b∈fp,Rv X pins H b)(hfs:∀b∈fp,b<s.heap.objs.size)
 (hC:s.heap.objs.size<=C) (c1:∀x c,cl.lookup x=some c->(X.env.cells.lookup x=some c/\(x,NameKind.free)∈scope.names)\/(s.heap.objs.size<=c/\(x,NameKind.cell)∈scope.names)) (c2:∀x,((x,NameKind.free)∈scope.names\/(x,NameKind.cell)∈scope.names)->∃c,cl.lookup x=some c) (c3:∀x y c,cl.lookup x=some c->cl.lookup y=some c->x=y) :
 (Fe X N' scope cl C s H fp).Ok where
 mod:=I.ok.mod
 kind:=L.kind
 glob:=I.ok.glob
 blt:=I.ok.blt
 above:=hC
 inj:=c3
 has:=λx h=>by
  refine c2 x ?_
  have h':(relabel scope X.env).names.lookup x=some .cell\/(relabel scope X.env).names.lookup x=some .free:=h
  rcases h' with h | h
  ·rcases Kh h with z | ⟨_,z⟩
   ·exact .inr (lookup_mem z)
   ·exact .inl (lookup_mem z)
  ·rcases Kh h with z | ⟨z,_⟩
   ·exact .inl (lookup_mem z)
   ·cases z
 cab:=λx c hx hc=>by
  have hx':scope.names.lookup x=some .local\/scope.names.lookup x=some .cell:=of_decide_eq_true hx
  rcases c1 x c hc with ⟨_,z⟩ | ⟨z,_⟩
  ·have z:=mem_lookup L.nod z
   rw[z]at hx'
   rcases hx' with hx' | hx' <;> cases hx'
  ·exact z
 hd:=I.ok.hd
 frames:=I.ok.frames
 stk:=.inl rfl
 exf
  := λb hb=>⟨Nat.ne_of_lt (Nat.lt_of_lt_of_le (hfs b hb) hC),λx c e=>by
  rcases c1 x c e with ⟨z,_⟩ | ⟨z,_⟩
  ·exact(hf b hb).2.2.2.2.1 x c z
  ·exact Nat.ne_of_gt (Nat.lt_of_lt_of_le (hfs b hb) z)⟩
 bs:=I.bs
 bsz:=Nat.le_trans I.ok.bsz I.sz
 noex:=λb o e hb=>by
  rcases (hf b hb).2.2.2.1 with z | z
  ·exact I.ok.noex b o e z
  ·exact absurd (Nat.lt_of_lt_of_le (Heap.lt_size e) (Nat.le_trans I.ok.bsz z)) (Nat.lt_irrefl _)
 exfs:=λb hb z=>by
  rcases List.mem_cons.mp (I.stkSub b z) with q | q
  ·exact(hf b hb).2.1 q
  ·exact(hf b hb).2.2.1 q
 funs:=I.stack
 frf:=I.stkFree
 tab:=λp hp=>I.base.tbls p.1 p.2 (I.ok.tab p hp)
theorem A2y {pins:List (Addr×Obj)}{σ:St}{H:Hp}{s s':Shared}{fp:List Addr}{cl:List (Str×Addr)}{C:Addr}{m:Str->Option Value}(L:Ih X N' idx scope)(I:Inv X pins σ H s)(hf:∀b∈fp,Rv X pins H b)(hfs:∀b∈fp,b<s.heap.objs.size)
 (hC:s.heap.objs.size<=C) (c1:∀x c,cl.lookup x=some c->(X.env.cells.lookup x=some c/\(x,NameKind.free)∈scope.names)\/(s.heap.objs.size<=c/\(x,NameKind.cell)∈scope.names)) (c2:∀x,((x,NameKind.free)∈scope.names\/(x,NameKind.cell)∈scope.names)->∃c,cl.lookup x=some c) (c3:∀x y c,cl.lookup x=some c->cl.lookup y=some c->x=y) (c4:∀x c,cl.lookup x=some c->(x,NameKind.cell)∈scope.names->s'.heap.IsCell c none)
 (ho:s'.os=s.os) (hg:s'.gens=s.gens) (k:∀b o,s.heap.get? b=some o->s'.heap.get? b=some o) (hn:s'.heap.Ns C m):Inv (Fe X N' scope cl C s H fp) [] (cst idx σ) H s' where
 ok:=A8x L I hf hfs hC c1 c2 c3
 os:=ho
 bare:=by rw[hg];exact I.bare
 base:=Un.kept k
 loc:=by
  refine⟨m,hn,λj x v e1 e2 e3=>?_⟩
  obtain⟨m0,hn0,hl⟩:=I.loc
  have e2':(idx.map λo=>o.bind λi=>(σ[i]?).join)[j]?=some (some v):=e2
  rw[List.getElem?_map]at e2'
  cases ei:idx[j]? with
  | none=>rw[ei]at e2';cases e2'
  | some o =>
   rw[ei]at e2';simp only[Option.map_some,Option.some.injEq]at e2'
   cases o with
   | none=>cases e2'
   | some i =>
    have e2'':(σ[i]?).join=some v:=e2';obtain⟨hNi,hfr⟩:=L.at' j i x e1 ei
    have hσ:σ[i]?=some (some v):=by
     cases q:σ[i]? with
     | none=>rw[q]at e2'';cases e2''
     | some z=>rw[q]at e2'';rw[show z=some v from e2'']
    have hk:=L.free _ (lookup_mem hfr) rfl
    have hvis:Vis X.env.scope x:=by
     rcases hk with z | z
     ·exact .inr (.inl z)
     ·exact .inr (.inr z)
    obtain⟨u,r,lk⟩:=hl i x v hNi hσ hvis
    refine⟨u,r,.inr ?_⟩
    rcases lk with ⟨z,_⟩ | ⟨_,c,hc,hcl⟩
    ·exfalso
     have z':X.env.kindOf x=some .local:=z
     rcases hk with q | q
     ·rw[show X.env.kindOf x=_ from q]at z';cases z'
     ·rw[show X.env.kindOf x=_ from q]at z';cases z'
    ·obtain⟨c',hc'⟩:=c2 x (.inl (lookup_mem hfr))
     have:c'=c:=by
      rcases c1 x c' hc' with ⟨q,_⟩ | ⟨_,q⟩
      ·rw[hc]at q;exact(Option.some.inj q).symm
      ·rw[mem_lookup L.nod q]at hfr;cases hfr
     subst this
     refine⟨?_,c',hc',let ⟨o,e,d⟩:=hcl; ⟨o,k _ o e,d⟩⟩
     rcases Ia (env:=X.env) hfr with q | q
     ·exact .inr q
     ·exact .inl q
 cell:=λx c e=>by
  rcases c1 x c e with ⟨q,_⟩ | ⟨_,q⟩
  ·obtain⟨v,z⟩:=I.cell x c q
   exact⟨v,let ⟨o,e,d⟩:=z; ⟨o,k _ o e,d⟩⟩
  ·exact⟨none,c4 x c e q⟩
 free:=I.hok.fresh hC
 freeC:=λx c e=>by
  rcases c1 x c e with ⟨q,_⟩ | ⟨q,_⟩
  ·exact I.freeC x c q
  ·exact I.hok.fresh q
 pin:=λp hp=>by simp at hp
 hok:=I.hok.kept k
 len:=by
  show (idx.map _).length=N'.length
  rw[List.length_map];exact L.len
end
section
variable {X:Cx}{N':List Str}{idx:List (Option Nat)}{scope:Scope}{elt tg iter:Expr}{ifs:List Expr}{pos:Pos}{wi:TI}{g:TG}{tc:TT}{te:TE}
theorem Ny:∀(names:List (Str×NameKind)) (h:Heap) (acc:List (Str×Addr)),(∀x y c,acc.lookup x=some c->acc.lookup y=some c->x=y)->(∀x c,acc.lookup x=some c->c<h.objs.size) ->
 (∀x c,(cellsFrom h.objs.size names acc).lookup x=some c->acc.lookup x=some c\/(h.objs.size<=c/\(x,NameKind.cell)∈names/\(pushCells h names).IsCell c none)) /\
 (∀x,((∃c,acc.lookup x=some c)\/(x,NameKind.cell)∈names)->∃c,(cellsFrom h.objs.size names acc).lookup x=some c) /\
 (∀x y c,(cellsFrom h.objs.size names acc).lookup x=some c->(cellsFrom h.objs.size names acc).lookup y=some c->x=y)
 | [],h,acc,hi,hl=>by
  refine⟨λx c e=>.inl e,λx z=>?_,hi⟩
  rcases z with z | z
  ·exact z
  ·exact nomatch z
 | (n,k)::r,h,acc,hi,hl=>by
  unfold cellsFrom pushCells
  by_cases hk:(k==NameKind.cell)=true
  ·rw[if_pos hk,if_pos hk]
   have hk':k=.cell:=eq_of_beq hk;subst hk';have sz:(h.push { cls:=.type "cell",data:=.cell none }).objs.size=h.objs.size+1:=Heap.size_push ..
   have ih:=Ny r (h.push { cls:=.type "cell",data:=.cell none }) ((n,h.objs.size)::acc) (λx y c e1 e2=>?_) (λx c e=>?_)
   ·rw[sz]at ih
    obtain⟨i1,i2,i3⟩:=ih
    refine⟨λx c e=>?_,λx z=>?_,i3⟩
    ·rcases i1 x c e with q | ⟨q1,q2,q3⟩
     ·rw[List.lookup_cons]at q
      split at q
      ·rename_i hb
       cases q
       have:x=n:=eq_of_beq hb;subst this;exact .inr ⟨Nat.le_refl _,List.mem_cons_self,_,pushCells_keeps _ _ _ _ (Heap.get?_push_size _ rfl),rfl⟩
      ·exact .inl q
     ·exact .inr ⟨Nat.le_of_succ_le q1,List.mem_cons_of_mem _ q2,q3⟩
    ·refine i2 x ?_
     by_cases hx:x=n
     ·subst hx;exact .inl ⟨h.objs.size,by simp⟩
     ·rcases z with ⟨c,z⟩ | z
      ·exact .inl ⟨c,by rw[List.lookup_cons,beq_false_of_ne hx];exact z⟩
      ·rcases List.mem_cons.mp z with z | z
       ·cases z;exact absurd rfl hx
       ·exact .inr z
   ·rw[List.lookup_cons]at e1 e2
    split at e1
    ·rename_i hb1
     cases e1
     split at e2
     ·rename_i hb2
      exact(eq_of_beq hb1).trans (eq_of_beq hb2).symm
     ·exact absurd (hl _ _ e2) (Nat.lt_irrefl _)
    ·split at e2
     ·cases e2
      exact absurd (hl _ _ e1) (Nat.lt_irrefl _)
     ·exact hi x y c e1 e2
   ·rw[sz]
    rw[List.lookup_cons]at e
    split at e
    ·cases e;exact Nat.lt_succ_self _
    ·exact Nat.lt_succ_of_lt (hl x c e)
  ·rw[if_neg hk,if_neg hk]
   have ih:=Ny r h acc hi hl;obtain⟨i1,i2,i3⟩:=ih
   refine⟨λx c e=>?_,λx z=>i2 x ?_,i3⟩
   ·rcases i1 x c e with q | ⟨q1,q2,q3⟩
    ·exact .inl q
    ·exact .inr ⟨q1,List.mem_cons_of_mem _ q2,q3⟩
   ·rcases z with z | z
    ·exact .inl z
    ·rcases List.mem_cons.mp z with z | z
     ·cases z;exact absurd rfl hk
     ·exact .inr z
theorem A8u
 (h:Q (newEnv scope s.heap.objs.size a (cellsFrom (s.heap.objs.size+1) scope.names d) qual none .none (some b) builtinsNs) { s with heap:=pushCells (s.heap.push { cls:=.type "dict",data:=.dict #[] }) scope.names }) :
 wpAny M A (newFunctionEnv scope a d [] qual none .none (some b)) Q E s:=by
 refine wpAny_bind (wpAny_alloc ?_)
 refine wpAny_bind (wpAny_layCells _ λe f c=>by trivial _ _ _ _ ?_)
 rw[show ({ s with heap:=s.heap.push _ }:Shared).heap.objs.size=s.heap.objs.size+1 from Heap.size_push ..]
 exact wpAny_bind (wpAny_pure (wpAny_pure h))
theorem Aa0 {K:List (Str×Addr)} {RR:Value->Addr->Result->Shared->Prop}{F:List V->Hp->Prop}
 (L:Ih X N' idx scope) (hc:X.calm=true)
 (hg:∀K C s₀ H₀ ex,PG (Fe X N' scope K C s₀ H₀ ex) tg g) (ht:∀K C s₀ H₀ ex,PTs (Fe X N' scope K C s₀ H₀ ex) ifs tc) (he:∀K C s₀ H₀ ex,PE (Fe X N' scope K C s₀ H₀ ex) elt te)
 (c1:∀x c,K.lookup x=some c->X.env.cells.lookup x=some c/\(x,NameKind.free)∈scope.names) (c2:∀x,(x,NameKind.free)∈scope.names->∃c,K.lookup x=some c)
 (I2:Inv X pins σ R s2) (T:Turn X.prog X.w X.K tg J fp it tn) (st2:tn 0 s2.heap) (f2:∀b∈fp,Rv X pins R b) (W:Nat->Nat->St->List V->Hp->Prop) (w0:∃m,W 0 m (cst idx σ) [] R)
 (turn:∀i m t acc H,W i m t acc H->(J.stop i H/\F acc H) \/
  (J.go i H/\acc.length<sizeLine/\∃N:St->List V->Hp->Prop,(∀t acc' H',N t acc' H'->∃m',m'<m/\W (i+1) m' t acc' H')/\∀x H',J.yld i H x H'->g x t H' λZ R=>tc Z R λb H3 =>
   if b=true then te Z H3 λy H4=>N Z (acc++[y]) H4 else N Z acc H3))
 (hR:∀(D C:Addr) (s':Shared) (acc:List V) (a:List Value) (n:Nat) (H':Hp) (m:Str->Option Value),s2.heap.objs.size<=D->s2.heap.objs.size<=C->D≠C->s'.heap.Ns C m->s'.heap.get? D=some { cls:=.type "list",data:=.seq a.toArray n }->Vals acc a->acc.length<=sizeLine ->
  H' D=none->H' C=none->s'.os=s2.os->AllBare s'.gens->Un (frs X.stack) fp R H' s2.heap s'.heap->HOk X.prog X.w H' s'.heap->F acc H'->RR (.ref D) C (.ok .next) s') :
 wpAny (model X.prog X.w) X.A (newList []) (λacc B=>wpAny (model X.prog X.w) X.A (newFunctionEnv scope X.env.globals K [] X.env.qual none .none (some X.env)) (λcenv s₄ =>
  codeAny (model X.prog X.w) X.A (.compStart (.ListComp elt [⟨tg,iter,ifs,0⟩] scope pos) 0 (.ref it) acc { cenv with scope:=relabel scope X.env }) (RR acc cenv.locals) s₄) E B) E s2:=by
 have U:∀b∈fp,b<s2.heap.objs.size:=λb w=>let ⟨o,e,_⟩:=T.obj _ _ st2 b w; Heap.lt_size e
 refine wpAny_newObj_type (A8u ?_)
 dsimp only
 generalize hH2:s2.heap.push { cls:=.type "list",dict:=none,data:=.seq ([]:List Value).toArray }=G
 have hC:G.objs.size=s2.heap.objs.size+1:=by rw[<- hH2,Heap.size_push]
 have hDC:s2.heap.objs.size≠G.objs.size:=by rw[hC];exact Nat.ne_of_lt (Nat.lt_succ_self _)
 have A:s2.heap.objs.size<=G.objs.size:=by rw[hC];exact Nat.le_succ _
 obtain⟨j,l⟩:∃j,j=pushCells (G.push { cls:=.type "dict",data:=.dict #[] }) scope.names:=⟨_,rfl⟩;rw[<- l]
 have S:j.Ns G.objs.size (λ_=>none):=by rw[l];exact(Heap.Ns.new G (.type "dict")).keeps (pushCells_keeps _ _)
 have old:∀b o,s2.heap.get? b=some o->j.get? b=some o:=λb o e=>by rw[l];exact pushCells_keeps _ _ b o (Heap.get?_push_of_some _ (hH2▸Heap.get?_push_of_some _ e))
 have hacc:j.get? s2.heap.objs.size=some { cls:=.type "list",dict:=none,data:=.seq ([]:List Value).toArray }:=by rw[l];exact pushCells_keeps _ _ _ _ (Heap.get?_push_of_some _ (hH2▸Heap.get?_push_size _ rfl))
 have szD:(G.push { cls:=.type "dict",data:=.dict #[] }).objs.size=G.objs.size+1:=Heap.size_push ..
 obtain⟨k1,k2,k3⟩:=Ny scope.names (G.push { cls:=.type "dict",data:=.dict #[] }) K (λx y c e1 e2=>I2.ok.inj x y c (c1 x c e1).1 (c1 y c e2).1) (λx c e=>by
  obtain⟨v,o,ho,_⟩:=I2.cell x c (c1 x c e).1
  rw[szD];exact Nat.lt_succ_of_lt (Nat.lt_of_lt_of_le (Heap.lt_size ho) A))
 rw[szD,<- l]at k1;rw[szD]at k2 k3;obtain⟨cl0,hcl0⟩:∃cl0,cl0=K:=⟨_,rfl⟩;have c1o:=c1;have c2o:=c2;rw[<- hcl0]at k1 k2 k3 c1o c2o;rw[<- hcl0]
 clear c1 c2
 generalize cellsFrom (G.objs.size+1) scope.names cl0=K at k1 k2 k3 ⊢
 have c1:∀x c,K.lookup x=some c->(X.env.cells.lookup x=some c/\(x,NameKind.free)∈scope.names)\/(s2.heap.objs.size<=c/\(x,NameKind.cell)∈scope.names):=λx c e=>by
  rcases k1 x c e with q | ⟨q1,q2,_⟩
  ·exact .inl (c1o x c q)
  ·exact .inr ⟨Nat.le_trans A (Nat.le_of_succ_le q1),q2⟩
 have c2:∀x,((x,NameKind.free)∈scope.names\/(x,NameKind.cell)∈scope.names)->∃c,K.lookup x=some c:=λx z=>k2 x (z.imp (λz=>c2o x z) id)
 have c4:∀x c,K.lookup x=some c->(x,NameKind.cell)∈scope.names->j.IsCell c none:=λx c e z=>by
  rcases k1 x c e with q | ⟨_,_,q⟩
  ·have:=mem_lookup L.nod (c1o x c q).2
   rw[mem_lookup L.nod z]at this;cases this
  ·exact q
 let X':Cx:=Fe X N' scope K G.objs.size s2 R fp
 have I1:Inv X' [] (cst idx σ) R { s2 with heap:=j }:=A2y L I2 f2 U A c1 c2 k3 c4 rfl rfl old S
 have hD2:R s2.heap.objs.size=none:=I2.hok.fresh (Nat.le_refl _)
 have hDfs:s2.heap.objs.size∉X'.fs:=λz=>by
  obtain⟨_,o,ho,_⟩:=I2.stack.mem z;exact absurd (Heap.lt_size ho) (Nat.lt_irrefl _)
 have hDfp:s2.heap.objs.size∉fp:=λz=>absurd (U _ z) (Nat.lt_irrefl _)
 have P:∀{H':Hp} {pl:List (Addr×Obj)},(∀b∈fp,H' b=none)->(∀p∈pl,p.1∉fp)->∀b∈fp,Rv X' pl H' b:=λ{H' pl} hn M b w =>
  ⟨hn b w,Nat.ne_of_lt (Nat.lt_of_lt_of_le (U b w) A),λz=>by
   rcases List.mem_cons.mp (I2.stkSub b z) with q | q
   ·exact(f2 b w).2.1 q
   ·exact(f2 b w).2.2.1 q,.inl w,λx c e=>by
    rcases c1 x c e with ⟨z,_⟩ | ⟨z,_⟩
    ·exact(f2 b w).2.2.2.2.1 x c z
    ·exact Nat.ne_of_gt (Nat.lt_of_lt_of_le (U b w) z),λp Q z=>M p (by have hp':p∈[]++pl:=Q;simpa using hp') (z▸w)⟩
 have loop:∀B:Shared,B={ s2 with heap:=j } ->
  codeAny (model X.prog X.w) X.A (.compLoop (.ListComp elt [⟨tg,iter,ifs,0⟩] scope pos) 0 (.ref it) (.ref s2.heap.objs.size) (compEnvC scope K G.objs.size X.env)) (RR (.ref s2.heap.objs.size) G.objs.size) B:=by
  rintro B rfl
  obtain⟨m0,w0⟩:=w0
  refine A9f rfl (Wd:=λn s'=>∃i t acc a k H',Inv X' [(s2.heap.objs.size,{ cls:=.type "list",data:=.seq a.toArray k })] t H' s'/\Vals acc a/\acc.length<=sizeLine/\tn i s'.heap/\(∀b∈fp,H' b=none)/\W i n t acc H') (step:=?_) m0
   ⟨0,cst idx σ,[],[],0,R,I1.pins_of (λp Q=>?_),.nil,Nat.zero_le _,T.keep _ _ _ st2 λb _ o e=>old b o e,λb w=>(f2 b w).1,w0⟩
  ·rintro n s3 ⟨i,Y,acc,a,k,H3,I3,rv,hz,st3,fr3,w3⟩
   have M:∀p∈[((s2.heap.objs.size,{ cls:=.type "list",data:=.seq a.toArray k }):Addr×Obj)],p.1∉fp:=λp Q=>by
    rcases List.mem_singleton.mp Q with rfl;exact hDfp
   rcases turn i n Y acc H3 w3 with ⟨stop,q⟩ | ⟨go,hlt,N,hN,step⟩
   ·refine wpAny_mono (T.done X' rfl rfl rfl hc i _ s3 Y H3 (λ_ _=>False) I3 (P fr3 M) st3 stop) (λr s4 ⟨hr,I4⟩=>?_) λ_ _ f=>f.elim
    subst hr;obtain⟨p1,p2,p3,p4,p5⟩:=I4.pin (s2.heap.objs.size,{ cls:=.type "list",data:=.seq a.toArray k }) (List.mem_append_right _ List.mem_cons_self);obtain⟨m4,hn4,_⟩:=I4.loc;exact hR _ _ s4 acc a k H3 m4 (Nat.le_refl _) A hDC hn4 p1 rv hz p2 I4.free I4.os I4.bare I4.base I4.hok q
   ·refine wpAny_mono (T.item X' rfl rfl rfl hc i _ s3 Y H3 (λ_ _=>False) I3 (P fr3 M) st3 go) (λr s4 ⟨u,hr,h4⟩=>?_) λ_ _ f=>f.elim
    subst hr
    refine wpAny_mono h4 (λ_ s5 ⟨x,H5,I5,r5,y5,st5,fr5⟩=>?_) λ_ _ f=>f.elim
    refine wpAny_mono (hg _ _ _ _ _ _ s5 Y H5 x u _ (I5.pinned (P fr5 M) (T.obj _ _ st5)) r5 (step x H5 y5)) (λ_ s6 ⟨O,H6,I6,q6⟩=>?_) λ_ _ f=>f.elim
    refine wpAny_mono (ht _ _ _ _ _ _ s6 O H6 _ I6 q6) (λok s7 ⟨H7,I7,q7⟩=>?_) λ_ _ f=>f.elim
    have tnk:∀{t:St} {H':Hp} {s':Shared},Inv X' ([(s2.heap.objs.size,{ cls:=.type "list",data:=.seq a.toArray k })]++T4 fp s5.heap) t H' s'->tn (i+1) s'.heap/\∀b∈fp,H' b=none:=λ{t H' s'} I=>by
     refine⟨T.keep _ _ _ st5 λb w o e=>(I.pin (b,o) (List.mem_append_right _ (List.mem_append_right _ (Kf w e)))).1,λb w=>?_⟩
     obtain⟨o,e,d⟩:=T.obj _ _ st5 b w;exact(I.pin (b,o) (List.mem_append_right _ (List.mem_append_right _ (Kf w e)))).2.1
    cases ok with
    | false =>
     rw[if_neg (by decide)]at q7
     obtain⟨m',hm,w7⟩:=hN _ _ _ q7;exact⟨m',hm,i+1,O,acc,a,k,H7,I7.unpinned,rv,hz,(tnk I7).1,(tnk I7).2,w7⟩
    | true =>
     rw[if_pos rfl]at q7
     refine wpAny_mono (he _ _ _ _ _ _ s7 O H7 _ I7 q7) (λy s8 ⟨yv,H8,I8,r8,q8⟩=>?_) λ_ _ f=>f.elim
     obtain⟨m',hm,w8⟩:=hN _ _ _ q8;obtain⟨p1,p2,p3,p4,p5⟩:=I8.pin (s2.heap.objs.size,{ cls:=.type "list",data:=.seq a.toArray k }) (List.mem_append_right _ List.mem_cons_self)
     refine call_meets PySem.F.slot_list_append ⟨_,p1,rfl⟩ PySem.F.entry_list_append (PySem.F.args_list_append_2 _ _) (PySem.list_append s2.heap.objs.size a.toArray k y (by have:=rv.length;rw[List.size_toArray];omega)) ⟨p1,?_⟩
     have hz':=rv.length;obtain⟨t8,f8⟩:=tnk I8
     have I8':Inv X' [] O H8 s8:=I8.pins_of λp Q=>nomatch Q
     have q:=PySem.IsL.update p1 (·.push y)
     have e':(a.toArray.push y)=(a++[y]).toArray:=by simp
     rw[e']at q
     obtain⟨k9,q⟩:∃k9,(s8.heap.update s2.heap.objs.size (Obj.mapSeq (·.push y))).get? _=some { cls:=.type _,data:=.seq _ k9 }:=⟨_,q⟩
     have I9:Inv _ _ _ _ { s8 with heap:=s8.heap.update _ (Obj.mapSeq (·.push y)) } :=
      I8'.turned (λb o w e=>(Heap.get?_update_other _ _ (Ne.symm w)).trans e) p2 p3 (.inr (Nat.le_refl _)) (λx c e z=>by
       obtain⟨v,o,ho,hd⟩:=I8'.cell x c e
       rw[z,p1]at ho;cases ho;cases hd) (λp Q=>by have hp':p∈([]:List _)++[]:=Q;simp at hp')
     refine⟨m',hm,i+1,O,acc++[yv],a++[y],k9,H8,I9.pins_of λp Q=>?_,rv.append (.cons r8 .nil),by rw[List.length_append,List.length_singleton];omega,T.keep _ _ _ t8 λb w o e=>(Heap.get?_update_other _ _ (λz=>hDfp (by rw[z];exact w))).trans e,f8,w8⟩
     rcases List.mem_singleton.mp Q with rfl
     exact⟨q,p2,p3,p4,λv z=>by cases z⟩
  ·rcases List.mem_singleton.mp Q with rfl
   exact⟨hacc,hD2,hDC,hDfs,λv z=>by cases z⟩
 exact codeAny_compStart_list (loop _ rfl) (T.self _ 0 _ _ _ (T.keep _ _ _ st2 λb _ o e=>old b o e) (loop _ rfl))
theorem Bt1 (L:Ih X N' idx scope)(hc:X.calm=true)(hi:PI X tg iter wi)
 (hg:∀t C s₀ H₀ ex,PG (Fe X N' scope t C s₀ H₀ ex) tg g) (ht:∀t C s₀ H₀ ex,PTs (Fe X N' scope t C s₀ H₀ ex) ifs tc) (he:∀t C s₀ H₀ ex,PE (Fe X N' scope t C s₀ H₀ ex) elt te)
 (hs:∀x,foldedSetIterable iter X.env x=pure x:=by intro _;rfl) :
 PE X (.ListComp elt [⟨tg,iter,ifs,0⟩] scope pos) (tLC idx wi g tc te):=by
 intro j s Z H Q I h
 obtain⟨t,l,c1,c2⟩:=N5 (env:=X.env) (scope:=scope) λy hy hf=>I.ok.has y.1 (L.free y hy hf)
 rw[eval_ListComp]
 refine wpAny_comprehension_free (use:=none) rfl hs l L.kind (λy hy hl=>mem_lookup L.nod (by grind)) (wpAny_mono (hi j s Z H _ I h) (λv s1 h1=>wpAny_mono h1 (λitv V h2=>?_) λ_ _ e=>e) λ_ _ e=>e)
 obtain⟨it,fp,tn,J,H2,rfl,I2,T,M,z,W,w0,A⟩:=h2
 refine Aa0 (F:=λa H=>∀p,H p=none->Q (.ref p) (upd H p (.lst a))) (RR:=λa C=>compPost (model X.prog X.w) X.A X.xe none (EP X j Z Q) a C) L hc hg ht he c1 c2 I2 T M z W w0 A ?_
 intro D C s' a w n N m hD hC O hn P rv hz d hC' ho K i hk q
 refine⟨m,hn,λG f=>?_⟩
 have eD:G.get? D=some { cls:=.type "list",data:=.seq w.toArray n }:=f.extBut _ _ O P
 have S:HOk X.prog X.w N G:=λb u e=>by
  refine (hk b u e).stay (λc v hc q=>f.extBut c v ?_ q) (λ_ q=>q) λ_ _ q=>q
  grind
 have U:HOk X.prog X.w (upd N D (.lst a)) G:=S.track d ⟨hz,w,n,rv,eD⟩
 have k:∀b o,V.heap.get? b=some o->b≠C:=λb o e=>Nat.ne_of_lt (Nat.lt_of_lt_of_le (Heap.lt_size e) hC)
 have R:∀b o,V.heap.get? b=some o->b≠D:=λb o e=>Nat.ne_of_lt (Nat.lt_of_lt_of_le (Heap.lt_size e) hD)
 have u2:Un (frs X.stack) fp H2 (upd N D (.lst a)) V.heap G :=
  ⟨
   λb o e r B Y=>f.extBut b o (k b o e) (i.keep b o e r B Y),λb o e r B Y=>let ⟨sl,q⟩:=i.slot b o e r B Y; ⟨sl,f.extBut b _ (k b o e) q⟩,
   λb o e r B=>by rw[Ar (R b o e)];exact i.free b o e r B,λb o e r=>let ⟨o',q⟩:=i.there b o e r; ⟨o',f.extBut b _ (k b o e) q⟩,
   λb xs e=>by rw[Ar (Bl (i.tups b _ e) d)];exact i.tups b _ e,λb o u e=>by rw[Ar (Bl (i.frzs b o u e) d)];exact i.frzs b o u e,
   λb ps e=>by rw[Ar (Bl (i.tbls b _ e) d)];exact i.tbls b _ e⟩
 refine⟨.ref D,upd _ D _,I2.call' ho u2 U K λb E=>⟨(z b E).2.2.2.1,(z b E).2.1,(z b E).2.2.2.2.1,(z b E).2.2.2.2.2⟩,rfl,q D d⟩
end
section
variable {X:Cx}{N':List Str}{idx:List (Option Nat)}{scope:Scope}{elt tg iter:Expr}{ifs:List Expr}{pos:Pos}{wi:TI}{g:TG}{tc:TT}{te:TE}
theorem A5d {K t:Pos}(hN:X.N.Nodup) (hi':X.N[i]?=some y) (hy:Loc X.env.scope y) (L:Ih X N' idx scope) (hc:X.calm=true) (hi:PI X tg iter wi)
 (hg:∀B C s₀ H₀ ex,PG (Fe X N' scope B C s₀ H₀ ex) tg g) (ht:∀B C s₀ H₀ ex,PTs (Fe X N' scope B C s₀ H₀ ex) ifs tc) (he:∀B C s₀ H₀ ex,PE (Fe X N' scope B C s₀ H₀ ex) elt te)
 (hsw:swapsWith (.ListComp elt [⟨tg,iter,ifs,0⟩] scope pos) (some (.Name y K)) t.line X.env=pure true:=by rfl)
 (hf:X.fn y=true\/X.env.scope.names.lookup y=some .local:=by first | exact .inl rfl | exact .inr rfl | assumption)
 (hs:∀x,foldedSetIterable iter X.env x=pure x:=by intro _;rfl) :
 PS X (.Assign [.Name y K] (.ListComp elt [⟨tg,iter,ifs,0⟩] scope pos) t) (Af9 (tLC idx wi g tc te) (K3 i)):=by
 intro d s M H j I h
 have h:tLC idx wi g tc te M H λx H1=>j.nx (M.set i (some x)) H1:=h
 obtain⟨B,A,c1,c2⟩:=N5 (env:=X.env) (scope:=scope) λy hy hf=>I.ok.has y.1 (L.free y hy hf)
 rw[exec_Assign_Name_used _ _ _ _ hsw]
 refine wpAny_bind (wpAny_standAt (wpAny_bind ?_))
 show wpAny _ X.A (do let _ <- comprehension (.ListComp elt [⟨tg,iter,ifs,0⟩] scope pos) scope X.env _ (newList []) false (eval iter X.env) (some (assign (.Name y K) X.env))) _ _ s
 refine wpAny_bind (wpAny_mono (wpAny_comprehension_free (use:=some (assign (.Name y K) X.env)) (Q:=λ_ r=>SP X d j .next r) rfl hs A L.kind (λy hy hl=>mem_lookup L.nod (by rw[<- hl];exact hy))
  (wpAny_mono (hi d s M H _ I h) (λv s1 h1=>wpAny_mono h1 (λitv s2 h2=>?_) λ_ _ e=>e) λ_ _ e=>e)) (λ_ r hq=>wpAny_pure (wpAny_pure hq)) λ_ _ e=>e)
 obtain⟨it,fp,tn,J,H2,rfl,G,T,U,N,W,w0,O⟩:=h2
 refine Aa0 (F:=λf H=>∀p,H p=none->j.nx (M.set i (some (.ref p))) (upd H p (.lst f))) (RR:=λf C=>compPost (model X.prog X.w) X.A X.xe (some (assign (.Name y K) X.env)) (λ_ r=>SP X d j .next r) f C) L hc hg ht he c1 c2 G T U N W w0 O ?_
 intro D C r f V n Y m hD P Z hn hDo rv hz k hC' ho hg' l hk q;have S:HOk X.prog X.w (upd Y D (.lst f)) r.heap:=hk.track k ⟨hz,V,n,rv,hDo⟩
 have neD:∀b o,s2.heap.get? b=some o->b≠D:=λb o e=>Nat.ne_of_lt (Nat.lt_of_lt_of_le (Heap.lt_size e) hD)
 have u2:Un (frs X.stack) fp H2 (upd Y D (.lst f)) s2.heap r.heap :=
  ⟨
   l.keep,l.slot,λb o e n1 n2=>by rw[Ar (neD b o e)];exact l.free b o e n1 n2,l.there,
   λb xs e=>by rw[Ar (Bl (l.tups b xs e) k)];exact l.tups b xs e,λb o u e=>by rw[Ar (Bl (l.frzs b o u e) k)];exact l.frzs b o u e,
   λb ps e=>by rw[Ar (Bl (l.tbls b ps e) k)];exact l.tbls b ps e⟩
 have I3:Inv X d M (upd Y D (.lst f)) r:=G.call' ho u2 S hg' (λb E=>⟨(N b E).2.2.2.1,(N b E).2.1,(N b E).2.2.2.2.1,(N b E).2.2.2.2.2⟩)
 have hCL:C≠X.env.locals:=Nat.ne_of_gt (Nat.lt_of_lt_of_le G.lt P)
 have hCc:∀x c,X.env.cells.lookup x=some c->c≠C:=λx c e z=>by
  obtain⟨v,w⟩:=G.cell x c e
  exact absurd (Nat.lt_of_lt_of_le w.lt (by rw[z];exact P)) (Nat.lt_irrefl _)
 have hCp:∀p∈X.pn++d,p.1≠C:=λp hp z=>absurd (Nat.lt_of_lt_of_le (Heap.lt_size (G.pin p hp).1) (by rw[z];exact P)) (Nat.lt_irrefl _)
 refine wpAny_assign_Name (Wi (v:=.ref D) I3 hN hi' hy rfl (λs4 I4 ⟨a,sb,ha⟩=>?_) hf)
 have hCa:C≠a:=by
  grind
 refine⟨m,hn.sameBut sb hCa,λh' R=>?_⟩
 refine⟨_,_,I4.turned (λb o E e=>R.extBut b o E e) ?_ hCL (.inr (Nat.le_trans G.sz P)) hCc hCp,q D k⟩
 rw[Ar (Ne.symm Z)];exact hC'
end
section
variable {X:Cx}
noncomputable def Rq (H:Hp):V->Option String
 | .non=>some "NoneType" | .bl _=>some "bool" | .int _=>some "int" | .str _=>some "str"
 | .ref a=>match H a with
  | some (.lst _)=>some "list"
  | some (.tup _)=>some "tuple"
  | some (.dK _)=>some "dict"
  | some (.dT _)=>some "dict"
  | _=>none
 | _=>none
section
variable {X:Cx}{pins:List (Addr×Obj)}{σ:St}{H:Hp}{s:Shared}
theorem Bm0 (I:Inv X pins σ H s) (f:RelV x u) (h:Rq H x=some t):∃hp:Heap->Prop,PySem.W.KitX X.K u (.type t) hp/\hp s.heap/\u≠.builtin "__main__.__loader__#opaque" := by
 cases x with
 | non=>cases h;cases (f);exact⟨_,PySem.W.kitx_none,True.intro,λz=>nomatch z⟩
 | bl b=>cases h;cases (f);exact⟨_,PySem.W.kitx_bool,True.intro,λz=>nomatch z⟩
 | int i=>cases h;obtain⟨t,rfl⟩:=f;exact⟨_,PySem.W.kitx_int,True.intro,λz=>nomatch z⟩
 | str y=>cases h;obtain⟨t,rfl⟩:=f;exact⟨_,PySem.W.kitx_str,True.intro,λz=>nomatch z⟩
 | ref a =>
  cases (f)
  have c:∀T,PySem.W.KitX X.K (.ref a) (.type T) (PySem.W.KitAt a T)->PySem.W.KitAt a T s.heap->some T=some t->∃hp:Heap->Prop,PySem.W.KitX X.K (.ref a) (.type t) hp/\hp s.heap/\Value.ref a≠.builtin "__main__.__loader__#opaque" := λT k p q=>by grind
  have h:(match H a with | some (.lst _)=>some _ | some (.tup _)=>some _ | some (.dK _)=>some _ | some (.dT _)=>some _ | _=>none)=some t:=h
  split at h
  ·rename_i l e
   obtain⟨_,_,n,_,d⟩:=(show z8 _ _ H _ a _ from I.hok a _ e)
   exact c _ PySem.W.kitx_list ⟨_,d,rfl⟩ h
  ·rename_i l e
   obtain⟨_,_,_,o,d,g,_⟩:=(show z8 _ _ H _ a _ from I.hok a _ e)
   exact c _ PySem.W.kitx_tuple ⟨o,d,g⟩ h
  ·rename_i j e
   obtain⟨_,_,vs,_,o,r,m,d,g,_⟩:=(show z8 _ _ H _ a _ from I.hok a _ e)
   exact c _ PySem.W.kitx_dict ⟨o,d,g.1⟩ h
  ·rename_i j e
   obtain⟨_,_,l,_,o,r,m,d,g,_⟩:=(show z8 _ _ H _ a _ from I.hok a _ e)
   exact c _ PySem.W.kitx_dict ⟨o,d,g.1⟩ h
  grind
 | byt b=>cases h
 | flt b=>cases h
 | ty n=>cases h
end
noncomputable def Fv (t T:String):Option Bool:=if ["NoneType", "bool", "int", "str", "list", "tuple", "dict"].contains t&&["int", "str", "bool", "list", "tuple"].contains T then some (t==T||(t == "bool" && T == "int")) else none
theorem A2c {K:PySem.W.Frag} (h:Fv t T=some b):PySem.W.kitOne K (.type t) (.type T)=some b:=by
 unfold Fv at h
 split at h
 ·rename_i a
  cases h
  simp only[Bool.and_eq_true,List.contains_iff_mem,List.mem_cons,List.not_mem_nil,or_false]at a;obtain⟨c,d⟩:=a
  rcases c with rfl | rfl | rfl | rfl | rfl | rfl | rfl <;> rcases d with rfl | rfl | rfl | rfl | rfl <;> with_unfolding_all rfl
 ·cases h
theorem A5a:zE X (.builtin "isinstance") (λxs H Q=>∃x T t b,xs=[x,.ty T]/\Rq H x=some t/\Fv t T=some b/\Q (.bl b) H):=by
 intro a s σ H xs us Q I r h;obtain⟨x,T,t,b,rfl,f,c,q⟩:=h;obtain⟨u,v,rfl,e,d⟩:=Vals.two r
 cases (d)
 obtain⟨hp,z,p,g⟩:=Bm0 I e f
 exact PySem.W.kia_one z I.kIn p (A2c c) g λtk=>⟨.bl b,H,I.tok _,rfl,q⟩
theorem walk_seq (m:A.handled=none) (I:Inv X pins d H s) (h:SqL X.K H a xs)
 (k:∀(c:List Value) (J:Addr) (s2:Shared),Vals xs c->Walks X.prog X.w A J [J,a] [J] c.length (λi v=>c[i]?=some v) (λi h=>h.IsListIter J a i/\h.IsList a c.toArray)->s2.heap.IsListIter J a 0/\s2.heap.IsList a c.toArray->(∀b∈[J,a],b<s2.heap.objs.size) ->
  Inv X pins d H s2->(∀f l,(∀b o,b∉[J]->s2.heap.get? b=some o->f.get? b=some o)->Inv X pins d H { s2 with heap:=f,toks:=l })->R (.ref J) s2) :
 wpAny (model X.prog X.w) A (pyIter (.ref a)) R E s:=by
 obtain⟨c,n,p,D⟩:=I.list h
 refine wpAny_pyIter_list p.isList ?_
 have u:a<s.heap.objs.size:=let ⟨_,e,_⟩:=p.isList; Heap.lt_size e
 have g:a≠s.heap.objs.size:=Nat.ne_of_lt u;have W:=Walks.list (prog:=X.prog) (w:=X.w) (A:=A) m s.heap.objs.size a g c.toArray;rw[List.size_toArray]at W
 have j:Inv X pins d H { s with heap:=s.heap.push { cls:=.type "list_iterator",data:=.fields #[.ref a,.int 0 0] } }:=I.kept (t':=s.toks) λb o e=>Heap.get?_push_of_some _ e
 refine k c s.heap.objs.size _ n (by simp_all) ⟨⟨_,Heap.get?_push_size _ rfl,rfl,rfl⟩,let ⟨o,e,r⟩:=p.isList; ⟨o,Heap.get?_push_of_some _ e,r⟩⟩ ?_ j λf l x=>?_
 ·intro b z
  have e:=Heap.size_push s.heap { cls:=.type "list_iterator",data:=.fields #[.ref a,.int 0 0] }
  grind
 ·obtain⟨q,B,F,y,C,t⟩:=(I.fpOk (b:=s.heap.objs.size) (Nat.le_refl _) (I.hok.fresh (Nat.le_refl _)))
  exact j.turned (λb o z e=>x b o (by simp_all) e) q B y C t
theorem Rm {bs:List Bool}(r:Vals (bs.map V.bl) a):TruthOf X.prog X.w A (λi v=>a[i]?=some v) (λi=>bs.getD i false):=by
 intro i v s Q E c b;have h := (List.getElem?_eq_some_iff.mp c).1
 have g:i<bs.length:=by have:=r.length;simp_all
 obtain⟨u,d,f⟩:=r.get (i:=i) (x:=V.bl bs[i]) (by simp_all)
 rw[c]at d
 cases d
 cases (show v=Value.bool _ from f)
 have e:bs.getD i false=bs[i]:=by simp_all
 have b:Q (bs.getD i _) s:=b;rw[e]at b;exact wpAny_truthy_bool b
theorem range_any (bs:List Bool):(List.range bs.length).any (λi=>bs.getD i false)=bs.any id:=by
 rw[Bool.eq_iff_iff];simp only[List.any_eq_true,List.mem_range]
 constructor
 ·rintro⟨i,a,e⟩
  exact⟨bs[i],List.getElem_mem _,by grind⟩
 ·rintro⟨b,d,e⟩
  obtain⟨i,a,c⟩:=List.getElem_of_mem d
  exact⟨i,a,by grind⟩
theorem range_all (bs:List Bool):(List.range bs.length).all (λi=>bs.getD i false)=bs.all id:=by
 rw[Bool.eq_iff_iff];simp only[List.all_eq_true,List.mem_range]
 constructor
 ·intro h b d
  obtain⟨i,a,c⟩:=List.getElem_of_mem d
  simp_all
 ·intro h i a
  simpa[a] using h _ (List.getElem_mem _)
theorem Av0 (hc:X.calm=true):zE X (.builtin "any") (λxs H Q=>∃(a:Addr) (b:List Bool),xs=[.ref a]/\SqL X.K H a (b.map V.bl)/\Q (.bl (b.any id)) H):=by
 intro d s σ H xs us Q I r h;obtain⟨a,b,rfl,i,q⟩:=h;obtain⟨u,rfl,g⟩:=vals1 r
 cases g
 refine call_any_walk (walk_seq (I.ok.hd hc) I i λc J s2 f W l hb I2 k=>⟨J,_,_,_,_,_,_,rfl,W,l,Rm f,λh' tk j=>?_⟩)
 have e:c.length=b.length:=by rw[<- f.length,List.length_map]
 rw[e,range_any];exact⟨.bl _,H,k _ _ j,rfl,q⟩
theorem Av2 (hc:X.calm=true):zE X (.builtin "all") (λxs H Q=>∃(a:Addr) (b:List Bool),xs=[.ref a]/\SqL X.K H a (b.map V.bl)/\Q (.bl (b.all id)) H):=by
 intro d s σ H xs us Q I r h;obtain⟨a,b,rfl,i,q⟩:=h;obtain⟨u,rfl,g⟩:=vals1 r
 cases (g)
 refine call_all_walk (walk_seq (I.ok.hd hc) I i λc J s2 f W l hb I2 k=>⟨J,_,_,_,_,_,_,rfl,W,l,Rm f,λh' tk j=>?_⟩)
 have e:c.length=b.length:=by rw[<- f.length,List.length_map]
 rw[e,range_all];exact⟨.bl _,H,k _ _ j,rfl,q⟩
theorem Rn (ns:List Int):∀n,n<=ns.length->preSum (λi=>ns.getD i 0) n=(ns.take n).sum
 | 0,_=>by simp[preSum]
 | n+1,h=>by
  have ih:=Rn ns n (by omega)
  have e:ns.take (n+1)=ns.take n++[ns[n]'(by omega)]:=by rw[List.take_add_one,List.getElem?_eq_getElem (by omega)];rfl
  rw[e,List.sum_append,preSum,ih]
  simp[List.getD,show n<ns.length by omega]
theorem Av7 (hc:X.calm=true):zE X (.builtin "sum") (λxs H Q=>∃(a:Addr) (b:List Int),xs=[.ref a]/\SqL X.K H a (b.map V.int)/\Q (.int b.sum) H):=by
 intro l s σ H xs us Q I r h;obtain⟨a,b,rfl,o,q⟩:=h;obtain⟨u,rfl,d⟩:=vals1 r
 cases (show u=Value.ref a from d)
 refine call_sum_walkAnyS (walk_seq (A:=X.A.in1) (I.ok.hd hc) I o λc J s2 g W p w I2 k=>⟨J,_,_,_,_,_,_,λi=>b.getD i 0,rfl,W.toS,p,w,λi v f=>?_,λm y n=>?_⟩)
 ·have f:c[i]?=some v:=f
  have hl := (List.getElem?_eq_some_iff.mp f).1
  have j:i<b.length:=by have:=g.length;grind
  obtain⟨u,hu,d⟩:=g.get (i:=i) (x:=V.int b[i]) (by simp[j])
  obtain⟨t,e⟩:=d
  grind
 ·have e:c.length=b.length:=by rw[<- g.length,List.length_map]
  rw[e,Rn _ _ (Nat.le_refl _),List.take_length];obtain⟨h',g',d',t2,o'⟩:=m;obtain⟨B,z,C,D,m5⟩:=n;subst z C D;exact⟨.int _,H,k _ _ B,⟨y,rfl⟩,q⟩
end
mutual
def Tr (H:Hp):PyData->V->Prop
 | .none,v=>v=.non
 | .bool b,v=>v=.bl b
 | .int i,v=>v=.int i
 | .str x,v=>v=.str x
 | .list ds,v=>∃a vs,v=.ref a/\H a=some (.lst vs)/\TrL H ds vs
 | .tuple ds,v=>∃a vs,v=.ref a/\H a=some (.tup vs)/\TrL H ds vs
 | .dict _,_=>False
def TrL (H:Hp):List PyData->List V->Prop
 | [],vs=>vs=[]
 | d::ds,vs=>∃v r,vs=v::r/\Tr H d v/\TrL H ds r
end
theorem TrL.length {H:Hp}:∀{ds:List PyData}{vs:List V},TrL H ds vs->ds.length=vs.length
 | [],_,h=>by cases (show _=[] from h);rfl
 | d::ds,_,h=>by
  obtain⟨v,r,rfl,_,t⟩:=h;rw[List.length_cons,List.length_cons,TrL.length t]
mutual
theorem Tr.same {H H':Hp}(S:Same H H'):∀{d:PyData}{v:V},Tr H d v->Tr H' d v
 | .none,_,h=>h
 | .bool _,_,h=>h
 | .int _,_,h=>h
 | .str _,_,h=>h
 | .list ds,_,⟨a,vs,e,ha,t⟩=>⟨a,vs,e,S _ _ ha,TrL.same S t⟩
 | .tuple ds,_,⟨a,vs,e,ha,t⟩=>⟨a,vs,e,S _ _ ha,TrL.same S t⟩
theorem TrL.same {H H':Hp}(S:Same H H'):∀{ds:List PyData}{vs:List V},TrL H ds vs->TrL H' ds vs
 | [],_,h=>h
 | d::ds,_,⟨v,r,e,h,t⟩=>⟨v,r,e,Tr.same S h,TrL.same S t⟩
end
def Bv8 (H H':Hp):Prop:=∀b xs,H b=some (.tup xs)->H' b=some (.tup xs)
section
variable {X:Cx}{pins:List (Addr×Obj)}{σ:St}{H:Hp}{s:Shared}
mutual
theorem Tr.reads (I:Inv X pins σ H s):∀{d:PyData}{v:V}{u:Value},Tr H d v->RelV v u->∃as,Reads s.heap u d as
 | .none,_,u=>λh r=>by
  cases (show _=V.non from h)
  cases (show u=Value.none from r)
  exact⟨_,.none⟩
 | .bool b,_,u=>λh r=>by
  cases (show _=V.bl b from h)
  cases (show u=Value.bool b from r)
  exact⟨_,.bool b⟩
 | .int i,_,u=>λh r=>by
  cases (show _=V.int i from h)
  obtain⟨t,rfl⟩:=r;exact⟨_,.int i t⟩
 | .str x,_,u=>λh r=>by
  cases (show _=V.str x from h)
  obtain⟨t,rfl⟩:=r;exact⟨_,.str x t⟩
 | .list ds,_,u=>λh r=>by
  obtain⟨a,vs,rfl,ha,t⟩:=h
  cases (show u=Value.ref a from r)
  obtain⟨z,its,n,rv,e⟩:=I.hok a _ ha;obtain⟨as,q⟩:=TrL.reads I t rv
  exact⟨_,.list e rfl rfl (by simpa using q)⟩
 | .tuple ds,_,u=>λh r=>by
  obtain⟨a,vs,rfl,ha,t⟩:=h
  cases (show u=Value.ref a from r)
  obtain⟨z,its,rv,o,e,c,⟨n,dt⟩,_⟩:=I.hok a _ ha;obtain⟨as,q⟩:=TrL.reads I t rv
  exact⟨_,.tuple e c dt (by simpa using q)⟩
 | .dict k,_,u=>λh r=>False.elim h
theorem TrL.reads (I:Inv X pins σ H s):∀{ds:List PyData}{vs:List V}{us:List Value},TrL H ds vs->Vals vs us->∃as,ReadsAll s.heap us ds as
 | [],_,us=>λh r=>by
  cases (show _=[] from h)
  cases r
  exact⟨_,.nil⟩
 | d::ds,_,us=>λh r=>by
  obtain⟨v,vs,rfl,hv,t⟩:=h
  cases r with
  | cons r1 r2 =>
   obtain⟨as,q⟩:=Tr.reads I hv r1;obtain⟨bs,p⟩:=TrL.reads I t r2;exact⟨_,.cons q p⟩
end
end
def Flat (d:PyData):Prop:=d.canLay0=true/\d.depth<=40
section
variable {X:Cx}
theorem Bb4 (hu:u+64<c) (hb:b<=40):u+min a b<c:=Nat.lt_of_le_of_lt (Nat.add_le_add_left (Nat.le_trans (Nat.min_le_right a b) (Nat.le_trans hb (by decide))) u) hu
theorem Ws (hu:u+64<c) (hb:b<=40):u+1+min a b<c:=Nat.lt_of_le_of_lt (Nat.le_trans (Nat.add_le_add_left (Nat.le_trans (Nat.min_le_right a b) hb) _) (Nat.add_le_add_left (show 1+40<=64 by decide) u)) hu
theorem Bj6 (hu:X.A.units+64<cLine):OpR X (compareOp .Eq) (λx y H Q=>∃a b,Tr H a x/\Tr H b y/\Flat a/\Flat b/\Q (.bl (PyData.eqv a b)) H):=by
 intro c s n H x y v u Q I g f h;obtain⟨a,b,i,j,k,d,q⟩:=h;obtain⟨m,l⟩:=i.reads I g;obtain⟨o,e⟩:=j.reads I f;exact SeqAt.compareEq_reads l e k.1 d.1 (Bb4 hu d.2) ⟨.bl _,H,I,rfl,q⟩
theorem Bg0 (hu:X.A.units+64<cLine):OpR X (compareOp .NotEq) (λx y H Q=>∃a b,Tr H a x/\Tr H b y/\Flat a/\Flat b/\Q (.bl (!PyData.eqv a b)) H):=by
 intro c s n H x y v u Q I g f h;obtain⟨a,b,i,j,k,d,q⟩:=h;obtain⟨m,l⟩:=i.reads I g;obtain⟨o,e⟩:=j.reads I f;exact SeqAt.compareNe_reads l e k.1 d.1 (Bb4 hu d.2) ⟨.bl _,H,I,rfl,q⟩
theorem Bl3 (hu:X.A.units+64<cLine):OpR X (compareOp .In) (λx y H Q=>∃d a,Tr H d x/\(Tr H (.list a) y\/Tr H (.tuple a) y)/\Flat d/\PyData.canLayAll0 a=true/\Q (.bl (a.any λe=>PyData.eqv e d)) H):=by
 intro i s o H x y v u Q I n g h;obtain⟨d,a,l,b,c,j,q⟩:=h;obtain⟨p,k⟩:=l.reads I n
 rcases b with b | b
 ·obtain⟨m,f⟩:=b.reads I g
  exact SeqAt.in_list_reads f k j c.1 (Ws hu c.2) ⟨.bl _,H,I,rfl,q⟩
 ·obtain⟨m,f⟩:=b.reads I g
  exact SeqAt.in_tuple_reads f k j c.1 (Ws hu c.2) ⟨.bl _,H,I,rfl,q⟩
theorem Av1 (hu:X.A.units+64<cLine):OpR X (compareOp .NotIn) (λx y H Q=>∃d ds,Tr H d x/\(Tr H (.list ds) y\/Tr H (.tuple ds) y)/\Flat d/\PyData.canLayAll0 ds=true/\Q (.bl (!ds.any λe=>PyData.eqv e d)) H):=by
 intro g s σ H x y v u Q I m f h;obtain⟨d,ds,k,a,b,i,q⟩:=h;obtain⟨as,j⟩:=k.reads I m
 rcases a with a | a
 ·obtain⟨l,c⟩:=a.reads I f
  exact SeqAt.notIn_list_reads c j i b.1 (Ws hu b.2) ⟨.bl _,H,I,rfl,q⟩
 ·obtain⟨l,c⟩:=a.reads I f
  exact SeqAt.notIn_tuple_reads c j i b.1 (Ws hu b.2) ⟨.bl _,H,I,rfl,q⟩
end
mutual
noncomputable def G6 (gt:Bool):PyData->PyData->Option Bool
 | .int i,.int j=>some (if gt then decide (j<i) else decide (i<j))
 | .str i,.str j=>some (if gt then decide (j.cps.toList<i.cps.toList) else decide (i.cps.toList<j.cps.toList))
 | .tuple xs,.tuple ys=>Vf gt xs ys
 | _,_=>none
noncomputable def Vf (gt:Bool):List PyData->List PyData->Option Bool
 | [],[]=>some false
 | [],_::_=>some (!gt)
 | _::_,[]=>some gt
 | x::xs,y::ys=>if PyData.eqv x y=true then Vf gt xs ys else G6 gt x y
end
noncomputable abbrev opG (gt:Bool):CmpOp:=if gt then .Gt else .Lt
def Bg1 (gt:Bool)(A:Around)(s:Shared)(a b:Value)(r:Bool):Prop :=
 ∀(prog:Program) (w:World) (E:Value->Shared->Prop) (Q:Value->Shared->Prop),Q (.bool r) s->wpAny (model prog w) A (richCompare (opG gt) a b) Q E s
inductive Nk (gt:Bool) (A:Around) (s:Shared):List Value->List Value->Bool->Prop
 | nn:Nk gt A s [] [] false
 | nc {y ys}:Nk gt A s [] (y::ys) (!gt)
 | cn {x xs}:Nk gt A s (x::xs) [] gt
 | eq {x xs y ys r}:SeqAt.EqAt A s x y true->Nk gt A s xs ys r->Nk gt A s (x::xs) (y::ys) r
 | ne {x xs y ys r}:SeqAt.EqAt A s x y false->Bg1 gt A s x y r->Nk gt A s (x::xs) (y::ys) r
section
open PySem.SeqAt
open PySem.AutoSeq1 (wpAny_loadPart')
open PySem.MeetsSeq PySem.MeetsSeq2 PySem.MeetsSeq3
theorem Xu (l b:Addr)(items a:Array Value)(n n2:Nat)(dd dd2:Option Addr)(sl sl2:Array (Option Value))(r:Bool) :
 Meets (Builtin.«tuple.__lt__» ⟨[.ref l,.ref b],[]⟩)
  (λA R s=>s.heap.get? l=some { cls:=.type "tuple",dict:=dd,data:=.seq items n,slots:=sl }/\s.heap.get? b=some { cls:=.type "tuple",dict:=dd2,data:=.seq a n2,slots:=sl2 } /\
   Nk false A.in1 s items.toList a.toList r/\R (.ok (.ret (.bool r))) s) :=
 .of_wp λf w A R s h=>by
  obtain⟨hp,g,d,tk,os⟩:=s;obtain⟨hl,hb,hx,h⟩:=h;have f2:=AutoSeq1.sub_tuple_tuple
  wp_walk using wpAny_loadPart' hl,wpAny_loadPart' hb,wpAny_forIn_list _ (λrest b s'=>b.1=none/\s'=⟨hp,g,d,tk,os⟩/\∃(vs ws:List Value),rest=vs.zip ws /\
   vs.length+a.size=ws.length+items.size/\Nk false A.in1 ⟨hp,g,d,tk,os⟩ vs ws r) _
  case turn =>
   rintro⟨y,x⟩ rest b s' ⟨hb',rfl,vs,ws,e,c,hR⟩
   cases hR with
   | nn=>rw[List.zip_nil_left]at e;cases e
   | nc=>rw[List.zip_nil_left]at e;cases e
   | cn=>rw[List.zip_nil_right]at e;cases e
   | eq he hr =>
    rw[List.zip_cons_cons]at e
    injection e with hyx hrest
    injection hyx with hy hx
    subst hy hx;simp only[List.length_cons]at c
    refine wpAny_bind (he f w _ _ ?_)
    wp_walk
    exact⟨rfl,rfl,_,_,hrest,by omega,hr⟩
   | ne he hr =>
    rw[List.zip_cons_cons]at e
    injection e with hyx hrest
    injection hyx with hy hx
    subst hy hx
    refine wpAny_bind (he f w _ _ ?_)
    have hri:∀(E:Value->Shared->Prop) (Q:Value->Shared->Prop),Q (.bool r) ⟨hp,g,d,tk,os⟩->wpAny (model f w) A.in1 (richCompare .Lt y x) Q E ⟨hp,g,d,tk,os⟩:=hr f w
    wp_walk using hri
    exact⟨_,rfl,by simpa using h⟩
  case fin =>
   rintro⟨b1,b2⟩ s' ⟨hb',rfl,vs,ws,e,c,hR⟩
   simp only at hb';subst hb'
   have hv:r=decide (items.size<a.size):=by
    cases hR with
    | nn=>exact(decide_eq_false (by simp only[List.length_nil]at c;omega)).symm
    | nc=>simp only[List.length_nil,List.length_cons]at c;exact(decide_eq_true (by omega)).symm
    | cn=>simp only[List.length_nil,List.length_cons]at c;exact(decide_eq_false (by omega)).symm
    | eq=>rw[List.zip_cons_cons]at e;cases e
    | ne=>rw[List.zip_cons_cons]at e;cases e
   rw[hv]at h
   wp_walk
   exact⟨_,rfl,by simpa[Builtin.Tuple.tupleCompareSizes] using h⟩
  case h =>
   exact⟨rfl,rfl,items.toList,a.toList,rfl,by simp;omega,hx⟩
theorem Xj (l b:Addr)(items a:Array Value)(n n2:Nat)(dd dd2:Option Addr)(sl sl2:Array (Option Value))(r:Bool) :
 Meets (Builtin.«tuple.__gt__» ⟨[.ref l,.ref b],[]⟩)
  (λA R s=>s.heap.get? l=some { cls:=.type "tuple",dict:=dd,data:=.seq items n,slots:=sl }/\s.heap.get? b=some { cls:=.type "tuple",dict:=dd2,data:=.seq a n2,slots:=sl2 } /\
   Nk true A.in1 s items.toList a.toList r/\R (.ok (.ret (.bool r))) s) :=
 .of_wp λf w A R s h=>by
  obtain⟨hp,g,d,tk,os⟩:=s;obtain⟨hl,hb,hx,h⟩:=h;have f2:=AutoSeq1.sub_tuple_tuple
  wp_walk using wpAny_loadPart' hl,wpAny_loadPart' hb,wpAny_forIn_list _ (λrest b s'=>b.1=none/\s'=⟨hp,g,d,tk,os⟩/\∃(vs ws:List Value),rest=vs.zip ws /\
   vs.length+a.size=ws.length+items.size/\Nk true A.in1 ⟨hp,g,d,tk,os⟩ vs ws r) _
  case turn =>
   rintro⟨y,x⟩ rest b s' ⟨hb',rfl,vs,ws,e,c,hR⟩
   cases hR with
   | nn=>rw[List.zip_nil_left]at e;cases e
   | nc=>rw[List.zip_nil_left]at e;cases e
   | cn=>rw[List.zip_nil_right]at e;cases e
   | eq he hr =>
    rw[List.zip_cons_cons]at e
    injection e with hyx hrest
    injection hyx with hy hx
    subst hy hx;simp only[List.length_cons]at c
    refine wpAny_bind (he f w _ _ ?_)
    wp_walk
    exact⟨rfl,rfl,_,_,hrest,by omega,hr⟩
   | ne he hr =>
    rw[List.zip_cons_cons]at e
    injection e with hyx hrest
    injection hyx with hy hx
    subst hy hx
    refine wpAny_bind (he f w _ _ ?_)
    have hri:∀(E:Value->Shared->Prop) (Q:Value->Shared->Prop),Q (.bool r) ⟨hp,g,d,tk,os⟩->wpAny (model f w) A.in1 (richCompare .Gt y x) Q E ⟨hp,g,d,tk,os⟩:=hr f w
    wp_walk using hri
    exact⟨_,rfl,by simpa using h⟩
  case fin =>
   rintro⟨b1,b2⟩ s' ⟨hb',rfl,vs,ws,e,c,hR⟩
   simp only at hb';subst hb'
   have hv:r=decide (a.size<items.size):=by
    cases hR with
    | nn=>exact(decide_eq_false (by simp only[List.length_nil]at c;omega)).symm
    | nc=>simp only[List.length_nil,List.length_cons]at c;exact(decide_eq_false (by omega)).symm
    | cn=>simp only[List.length_nil,List.length_cons]at c;exact(decide_eq_true (by omega)).symm
    | eq=>rw[List.zip_cons_cons]at e;cases e
    | ne=>rw[List.zip_cons_cons]at e;cases e
   rw[hv]at h
   wp_walk
   exact⟨_,rfl,by simpa[Builtin.Tuple.tupleCompareSizes] using h⟩
  case h =>
   exact⟨rfl,rfl,items.toList,a.toList,rfl,by simp;omega,hx⟩
end
theorem Bl7 (hl:s.heap.IsTuple l items) (hb:s.heap.IsTuple b a) (hx:Nk f A.in1 s items.toList a.toList r) (hu:A.units<cLine):Bg1 f A s (.ref l) (.ref b) r:=by
 intro m w E Q h;obtain⟨⟨o,y,k,v⟩,d,p,n,u⟩:=id hl;obtain⟨⟨j,t,g,q⟩,c,i,z,e⟩:=id hb;subst p u i e
 cases f with
 | false =>
  exact richCompare_meets_room ⟨_,d,rfl⟩ ⟨_,c,rfl⟩ PySem.F.slot_tuple_lt PySem.F.entry_tuple_lt (PySem.F.args_tuple_lt_2 _ _) (Xu l b _ _ n _ _ _ _ _ r)
   ⟨d,c,hx,show Value.bool r≠Value.notImplemented/\Q _ s from ⟨(λx=>nomatch x),h⟩⟩ hu
 | true =>
  exact richCompare_meets_room ⟨_,d,rfl⟩ ⟨_,c,rfl⟩ PySem.F.slot_tuple_gt PySem.F.entry_tuple_gt (PySem.F.args_tuple_gt_2 _ _) (Xj l b _ _ n _ _ _ _ _ r)
   ⟨d,c,hx,show Value.bool r≠Value.notImplemented/\Q _ s from ⟨(λx=>nomatch x),h⟩⟩ hu
mutual
theorem Oz (gt:Bool):∀(da db:PyData) (A:Around) (s:Shared) (a b:Value) (as bs:List Addr) (r:Bool),Reads s.heap a da as->Reads s.heap b db bs->da.canLay0=true->db.canLay0=true->A.units+da.depth<cLine->G6 gt da db=some r->Bg1 gt A s a b r
 | .int i,db,A,s,a,b,as,bs,r,ra,rb,ca,cb,hu,h=>by
  cases db with
  | int j =>
   cases ra
   cases rb
   cases h
   intro prog w E Q q
   cases gt with
   | false=>exact(PyProof.Rows.lt_int q:wpAny (model prog w) A (compareOp .Lt _ _) Q E s)
   | true=>exact(PyProof.Rows.gt_int q:wpAny (model prog w) A (compareOp .Gt _ _) Q E s)
  | _=>cases h
 | .str i,db,A,s,a,b,as,bs,r,ra,rb,ca,cb,hu,h=>by
  cases db with
  | str j =>
   cases ra
   cases rb
   cases h
   intro prog w E Q q
   cases gt with
   | false=>exact(PyProof.Rows.lt_str q:wpAny (model prog w) A (compareOp .Lt _ _) Q E s)
   | true=>exact(PySem.P.gt_str q:wpAny (model prog w) A (compareOp .Gt _ _) Q E s)
  | _=>cases h
 | .tuple xs,db,A,s,a,b,as,bs,r,ra,rb,ca,cb,hu,h=>by
  cases db with
  | tuple ys =>
   cases ra with
   | tuple h1 h2 h3 h4 =>
    cases rb with
    | tuple g1 g2 g3 g4 =>
     have hu':A.units+(PyData.depthAll xs+1)<cLine:=hu
     exact Bl7 ⟨_,h1,h2,_,h3⟩ ⟨_,g1,g2,_,g3⟩ (N8 gt xs ys A.in1 s _ _ _ _ r h4 g4 ca cb (by show A.units+1+PyData.depthAll xs<cLine;omega) h) (by omega)
  | _=>cases h
 | .none,db,A,s,a,b,as,bs,r,ra,rb,ca,cb,hu,h=>by cases db <;> cases h
 | .bool _,db,A,s,a,b,as,bs,r,ra,rb,ca,cb,hu,h=>by cases db <;> cases h
 | .list _,db,A,s,a,b,as,bs,r,ra,rb,ca,cb,hu,h=>by cases db <;> cases h
 | .dict _,db,A,s,a,b,as,bs,r,ra,rb,ca,cb,hu,h=>by cases db <;> cases h
theorem N8 (gt:Bool):∀(xs ys:List PyData) (A:Around) (s:Shared) (vs ws:List Value) (as bs:List Addr) (r:Bool),ReadsAll s.heap vs xs as->ReadsAll s.heap ws ys bs->PyData.canLayAll0 xs=true->PyData.canLayAll0 ys=true->A.units+PyData.depthAll xs<cLine->Vf gt xs ys=some r->Nk gt A s vs ws r
 | [],[],A,s,vs,ws,as,bs,r,ra,rb,ca,cb,hu,h=>by cases ra;cases rb;cases h;exact .nn
 | [],y::ys,A,s,vs,ws,as,bs,r,ra,rb,ca,cb,hu,h=>by cases ra;cases rb;cases h;exact .nc
 | x::xs,[],A,s,vs,ws,as,bs,r,ra,rb,ca,cb,hu,h=>by cases ra;cases rb;cases h;exact .cn
 | x::xs,y::ys,A,s,vs,ws,as,bs,r,ra,rb,ca,cb,hu,h=>by
  cases ra with
  | cons r1 r2 =>
   cases rb with
   | cons q1 q2 =>
    have ca':=Bool.and_eq_true_iff.mp ca;have cb':=Bool.and_eq_true_iff.mp cb;have hu':A.units+max x.depth (PyData.depthAll xs)<cLine:=hu
    have e:=SeqAt.eqAt_reads x y A s _ _ _ _ r1 q1 ca'.1 cb'.1 (by omega)
    rw[Vf]at h
    by_cases he:PyData.eqv x y=true
    ·rw[if_pos he]at h
     rw[he]at e
     exact .eq e (N8 gt xs ys A s _ _ _ _ r r2 q2 ca'.2 cb'.2 (by omega) h)
    ·rw[if_neg he]at h
     rw[Bool.not_eq_true _ |>.mp he]at e
     exact .ne e (Oz gt x y A s _ _ _ _ r r1 q1 ca'.1 cb'.1 (by omega) h)
end
section
variable {X:Cx}
theorem Be0 (hu:X.A.units+64<cLine):OpR X (compareOp .Lt) (λx y H Q=>∃a b r,Tr H a x/\Tr H b y/\Flat a/\Flat b/\G6 false a b=some r/\Q (.bl r) H):=by
 intro c s o H x y v u Q I i l h;obtain⟨a,b,r,j,k,d,g,e,q⟩:=h;obtain⟨n,m⟩:=j.reads I i;obtain⟨p,f⟩:=k.reads I l
 exact(Oz _ _ _ X.A s v u _ _ r m f d.1 g.1 (by have:=d.2;omega) e _ _ _ (EP X _ _ Q) ⟨.bl _,H,I,rfl,q⟩)
end
section
variable {X:Cx}{pins:List (Addr×Obj)}{σ:St}{H:Hp}{s:Shared}
theorem Inv.recS (I:Inv X (pins++(S,o)::pl) σ H s) (hS:X.s₀.heap.objs.size<=S) (hp:∀p∈pins++pl,p.1≠S) (hpn:∀p∈X.pn,p.1≠S)
 (hu:(s.heap.update S f).get? S=some o') (hd:∀v,o'.data≠.cell v):Inv X (pins++(S,o')::pl) σ H { s with heap:=s.heap.update S f }:=by
 obtain⟨p1,p2,p3,p4,p5⟩:=I.pin (S,o) (List.mem_append_right _ (List.mem_append_right _ List.mem_cons_self))
 have I0:Inv X [] σ H s:=I.pins_of λp hp=>nomatch hp
 have I1:Inv X [] σ H { s with heap:=s.heap.update S f }:=I0.turned (t':=s.toks) (λb u hb e=>(Heap.get?_update_other s.heap f (Ne.symm hb)).trans e) p2 p3 (.inr hS) (λx c e z=>by
  obtain⟨v,ob,ho,hdc⟩:=I.cell x c e
  rw[z,p1]at ho;cases ho;exact p5 v hdc) (λp hp' z=>by
   have hp':p∈X.pn++[]:=hp';rw[List.append_nil]at hp'
   exact hpn p hp' z)
 refine I1.pins_of λp hpp=>?_
 have keep:∀p∈pins++pl,(s.heap.update S f).get? p.1=some p.2/\H p.1=none/\p.1≠X.env.locals/\p.1∉X.fs/\∀v,p.2.data≠.cell v:=λp hpm=>by
  have hpm':p∈X.pn++(pins++(S,o)::pl):=List.mem_append_right _ (by
   rcases List.mem_append.mp hpm with z | z
   ·exact List.mem_append_left _ z
   ·exact List.mem_append_right _ (List.mem_cons_of_mem _ z))
  obtain⟨q1,q2,q3,q4,q5⟩:=I.pin p hpm';exact⟨(Heap.get?_update_other s.heap f (Ne.symm (hp p hpm))).trans q1,q2,q3,q4,q5⟩
 rcases List.mem_append.mp hpp with z | z
 ·exact keep p (List.mem_append_left _ z)
 ·rcases List.mem_cons.mp z with rfl | z
  ·exact⟨hu,p2,p3,p4,hd⟩
  ·exact keep p (List.mem_append_right _ z)
theorem Aq8 (F:FnOk X.prog X.w X.K X.mg X.base CX0 k f a ps sp) (hr:Room (k+1) X.A) (hb:Binds X.K a ps [])
 (I:Inv X pins σ H s) (r:Vals vs us) (h:sp vs H Q E0):wpAny (model X.prog X.w) X.A.in1 (call (.ref f) us) (EP X pins σ Q) E s:=by
 have c:(us++[]).length=ps.length:=by rw[List.append_nil,<- r.length];exact F.len _ _ _ _ h
 refine wpAny_call (codeAny_mono (F.run _ _ s H _ _ _ Q _ hr.in1 I.env0.in1 (hb s _ I.kIn c) (by grind) h) λr g d=>?_)
 cases r with
 | error e=>trivial
 | ok b =>
  cases b with
  | ret u=>exact I.after d
  | next=>trivial
  | brk=>trivial
  | cont=>trivial
end
def A9s:Option (V×V)->List Value->Prop
 | none,us=>us=[]
 | some (x,k),us=>∃u t,us=[u,t]/\RelV x u/\RelV k t
def MmW (gt:Bool)(K:PySem.W.Frag)(sp:Sp)(a:Addr)(vs:List V)(d:V)(H:Hp)(Q:VK):Prop :=
 ∃
  W:Nat->Option (V×V)->Hp->Prop,W 0 none H/\(∀i best H,W i best H->SqL K H a vs) /\
  (∀i x best H,vs[i]?=some x->W i best H->sp [x] H (λkv H1=>match best with
   | none=>W (i+1) (some (x,kv)) H1
   | some (bx,bk)=>∃dk db r,Tr H1 dk kv/\Tr H1 db bk/\Flat dk/\Flat db/\G6 gt dk db=some r/\W (i+1) (if r=true then some (x,kv) else some (bx,bk)) H1) E0) /\
  (∀best H,W vs.length best H->Q (match best with | some (x,_)=>x | none=>d) H)
section
variable {X:Cx}
theorem Aa9 (a v d:Value):argsOk "min" ⟨[a],[(Str.ofString "key",v),(Str.ofString "default",d)]⟩:=by rfl
theorem A5f {E:Value->Shared->Prop} (hc:X.calm=true)
 (F:FnOk X.prog X.w X.K X.mg X.base CX0 k f fd ps sp) (hr:Room (k+1) X.A) (hb:Binds X.K fd ps []) (rd:RelV d ud) (hS:X.s₀.heap.objs.size<=S) (hJ:X.s₀.heap.objs.size<=J) (M:S≠J) (haJ:a≠J)
 (hp:∀p∈X.pn++pins,p.1≠S/\p.1≠J)
 (W:Nat->Option (V×V)->Hp->Prop) (w1:∀i g H,W i g H->SqL X.K H a vs)
 (w2:∀i x g H,vs[i]?=some x->W i g H->sp [x] H (λl H1=>match g with
  | none=>W (i+1) (some (x,l)) H1
  | some (bx,bk)=>∃dk db r,Tr H1 dk l/\Tr H1 db bk/\Flat dk/\Flat db/\G6 false dk db=some r/\W (i+1) (if r=true then some (x,l) else some (bx,bk)) H1) E0)
 (w3:∀g H,W vs.length g H->Q (match g with | some (x,_)=>x | none=>d) H) :
 ∀
  (r i:Nat) (g:Option (V×V)) (j:List Value) (n:Nat) (oJ:Obj) (H:Hp) (s:Shared),vs.length-i=r->i<=vs.length->A9s g j->W i g H ->
  Inv X (pins++[(S,{ cls:=.type "list",data:=.seq j.toArray n }),(J,oJ)]) σ H s->s.heap.IsListIter J a i ->
  codeAny (model X.prog X.w) X.A (.builtin "min.loop" ⟨[.ref J,.ref f,.ref S],[(Str.ofString "default",ud)]⟩) (λr s'=>match r with | .ok (.ret v)=>EP X pins σ Q v s' | .ok _=>False | .error e=>E e s') s:=by
 have m:(toString "min" ++ toString ".loop" : String) = "min.loop" := by decide
 have hu:X.A.units+100<cLine:=by have:=hr.un;omega
 intro r
 induction r with
 | zero =>
  intro i g j n oJ H s hri hi h hw I hit
  have e:i=vs.length:=by omega
  subst e;obtain⟨B,ps2,ps3,ps4,U⟩:=I.pin (S,{ cls:=.type "list",data:=.seq j.toArray n }) (List.mem_append_right _ (List.mem_append_right _ List.mem_cons_self));obtain⟨T,L,N,pj4,Z⟩:=I.pin (J,oJ) (List.mem_append_right _ (List.mem_append_right _ (List.mem_cons_of_mem _ List.mem_cons_self)));obtain⟨us,rv,pl,hz⟩:=I.list (w1 _ _ _ hw);have hlen:=rv.length
  have I0:Inv X pins σ H s:=I.pins_of λp hp=>I.pin p (List.mem_append_right _ (List.mem_append_left _ hp))
  refine codeAny_builtin PySem.F.entry_min_loop ?_
  rw[Around.under_plainId PySem.F.plain_min_loop _]
  show wpAny _ X.A.in1 (seqItems? (.ref S) >>= _) _ _ _
  refine wpAny_bind (wpAny_seqItems B rfl ?_)
  show wpAny _ X.A.in1 (tryCatch (pyNext (.ref J)) _ >>= _) _ _ _
  refine wpAny_bind (wpAny_tryCatch (wpAny_pyNext_list_end (A:=X.A.in1) (I.ok.hd hc) hit pl.isList (by simp;omega) λh' eb=>?_))
  have I1:Inv X pins σ H { s with heap:=h' }:=I0.turned (t':=s.toks) (λb o hb e=>eb b o hb e) L N (.inr hJ) (λx c e z=>by
   obtain⟨v,ob,P,C⟩:=I.cell x c e
   rw[z,T]at P;cases P;exact Z v C) (λp G=>(hp p G).2)
  cases g with
  | none =>
   cases (show j=[] from h)
   show wpAny _ X.A.in1 (rule _ >>= _) _ _ _
   refine wpAny_bind (wpAny_rule (wpAny_pure ?_))
   exact⟨d,H,I1,rd,w3 none H hw⟩
  | some b =>
   obtain⟨bx,bk⟩:=b;obtain⟨u,t,rfl,ru,rt⟩:=h;have ps1':=eb S _ M B
   show wpAny _ X.A.in1 (updateSeq S (λ_=>#[]) >>= _) _ _ _
   refine wpAny_bind (wpAny_updateSeq ps1' rfl (wpAny_bind (wpAny_letGo (wpAny_pure ?_))))
   refine⟨bx,H,I1.turned (t':=s.toks) (λb o hb e=>(Heap.get?_update_other h' _ (Ne.symm hb)).trans e) ps2 ps3 (.inr hS) (λx c e z=>?_) (λp G=>(hp p G).1),ru,w3 (some (bx,bk)) H hw⟩
   obtain⟨v,ob,P,C⟩:=I.cell x c e;rw[z,B]at P;cases P;exact U v C
 | succ r ih =>
  intro i g j n oJ H s hri hi h hw I hit
  have D:i<vs.length:=by omega
  obtain⟨B,ps2,ps3,ps4,U⟩:=I.pin (S,{ cls:=.type "list",data:=.seq j.toArray n }) (List.mem_append_right _ (List.mem_append_right _ List.mem_cons_self));obtain⟨T,L,N,pj4,Z⟩:=I.pin (J,oJ) (List.mem_append_right _ (List.mem_append_right _ (List.mem_cons_of_mem _ List.mem_cons_self)));obtain⟨us,rv,pl,hz⟩:=I.list (w1 _ _ _ hw);have hlen:=rv.length
  obtain⟨u,hu1,ru⟩:=rv.get (i:=i) (x:=vs[i]) (by simp[D])
  have I0:Inv X pins σ H s:=I.pins_of λp hp=>I.pin p (List.mem_append_right _ (List.mem_append_left _ hp))
  refine codeAny_builtin PySem.F.entry_min_loop ?_
  rw[Around.under_plainId PySem.F.plain_min_loop _]
  show wpAny _ X.A.in1 (seqItems? (.ref S) >>= _) _ _ _
  refine wpAny_bind (wpAny_seqItems B rfl ?_)
  show wpAny _ X.A.in1 (tryCatch (pyNext (.ref J)) _ >>= _) _ _ _
  refine wpAny_bind (wpAny_tryCatch (wpAny_pyNext_list_item (A:=X.A.in1) hit pl.isList (x:=u) (by simpa using hu1) λh' hit' sb=>?_))
  have I1:Inv X pins σ H { s with heap:=h' }:=I0.turned (t':=s.toks) (λb o hb e=>(sb.2 b hb).trans e) L N (.inr hJ) (λx c e z=>by
   obtain⟨v,ob,P,C⟩:=I.cell x c e
   rw[z,T]at P;cases P;exact Z v C) (λp G=>(hp p G).2)
  obtain⟨w,hoJ',hoc,Y⟩:=id hit'
  have I2:Inv X (pins++[(S,{ cls:=.type "list",data:=.seq j.toArray n }),(J,w)]) σ H { s with heap:=h' }:=I1.pins_of λp K=>by
   rcases List.mem_append.mp K with z | z
   ·exact I1.pin p (List.mem_append_right _ z)
   ·rcases List.mem_cons.mp z with rfl | z
    ·exact⟨(sb.2 S M).trans B,ps2,ps3,ps4,U⟩
    ·rw[List.mem_singleton.mp z]
     exact⟨hoJ',L,N,pj4,λv q=>by rw[Y]at q;cases q⟩
  show wpAny _ X.A.in1 (tryCatch (holding [u] (call (.ref f) [u])) _ >>= _) _ _ _
  refine wpAny_bind (wpAny_tryCatch (wpAny_holding (wpAny_mono (Aq8 (E:=λ_ _=>False) F hr hb I2 (.cons ru .nil) (w2 i vs[i] g H (by simp[D]) hw)) (λl s3 h3=>?_) λ_ _ z=>z.elim)))
  obtain⟨kx,H3,I3,rk,q3⟩:=h3;obtain⟨t1,t2,t3,t4,t5⟩:=I3.pin (S,{ cls:=.type "list",data:=.seq j.toArray n }) (List.mem_append_right _ (List.mem_append_right _ List.mem_cons_self));obtain⟨j1,j2,j3,j4,j5⟩:=I3.pin (J,w) (List.mem_append_right _ (List.mem_append_right _ (List.mem_cons_of_mem _ List.mem_cons_self)));have hit3:s3.heap.IsListIter J a (i+1):=⟨w,j1,hoc,Y⟩
  have O:∀(y:List Value),∃n',Inv X (pins++[(S,{ cls:=.type "list",data:=.seq y.toArray n' }),(J,w)]) σ H3 { s3 with heap:=s3.heap.update S (Obj.mapSeq λ_=>y.toArray) }:=λy=>by
   have q:=PySem.IsL.update t1 (λ_=>y.toArray)
   refine⟨_,I3.recS hS (λp K=>?_) (λp K=>(hp p (List.mem_append_left _ K)).1) q λv z=>by cases z⟩
   rcases List.mem_append.mp K with z | z
   ·exact(hp p (List.mem_append_right _ z)).1
   ·rw[List.mem_singleton.mp z];exact Ne.symm M
  have R:∀y:List Value,(s3.heap.update S (Obj.mapSeq λ_=>y.toArray)).IsListIter J a (i+1):=λy=>⟨w,(Heap.get?_update_other s3.heap _ M).trans j1,hoc,Y⟩
  cases g with
  | none =>
   cases (show j=[] from h)
   obtain⟨n',I4⟩:=O [u,l]
   show wpAny _ X.A.in1 (updateSeq S (λ_=>#[u,l]) >>= _) _ _ _
   refine wpAny_bind (wpAny_updateSeq t1 rfl ?_)
   rw[m]
   exact wpAny_pure ⟨plainId_quiet PySem.F.plain_min_loop _,ih (i+1) (some (vs[i],kx)) [u,l] n' w H3 _ (by omega) D ⟨u,l,rfl,ru,rk⟩ q3 I4 (R [u,l])⟩
  | some b =>
   obtain⟨bx,bk⟩:=b;obtain⟨ub,tb,rfl,rub,rtb⟩:=h;obtain⟨dk,db,r',tk,tdb,fk,fb,ecmp,wn⟩:=q3;obtain⟨as,rdk⟩:=tk.reads I3 rk;obtain⟨bs,rdb⟩:=tdb.reads I3 rtb
   show wpAny _ X.A.in1 (tryCatch (holding [u,l] (richCompare .Lt l tb >>= _)) _ >>= _) _ _ _
   refine wpAny_bind (wpAny_tryCatch (wpAny_holding (wpAny_bind (Oz false dk db X.A.in1 s3 l tb as bs r' rdk rdb fk.1 fb.1 (by show X.A.units+1+dk.depth<cLine;have:=fk.2;omega) ecmp X.prog X.w _ _ ?_))))
   refine wpAny_bind (wpAny_holding (wpAny_truthy_bool ?_))
   refine wpAny_bind (wpAny_letGo (wpAny_pure ?_))
   cases r' with
   | true =>
    obtain⟨n',I4⟩:=O [u,l];simp only[if_true]
    refine wpAny_bind (wpAny_updateSeq t1 rfl (wpAny_bind (wpAny_letGo ?_)))
    rw[m]
    exact wpAny_pure ⟨plainId_quiet PySem.F.plain_min_loop _,ih (i+1) (some (vs[i],kx)) [u,l] n' w H3 _ (by omega) D ⟨u,l,rfl,ru,rk⟩ wn I4 (R [u,l])⟩
   | false =>
    simp only[Bool.false_eq_true,if_false]
    refine wpAny_bind (wpAny_letGo ?_)
    rw[m]
    exact wpAny_pure ⟨plainId_quiet PySem.F.plain_min_loop _,ih _ (some _) _ n _ _ _ (by omega) D ⟨ub,tb,rfl,rub,rtb⟩ (by simpa using wn) I3 hit3⟩
theorem Ai8 (hc:X.calm=true)
 (F:FnOk X.prog X.w X.K X.mg X.base CX0 k f q ps sp) (hr:Room (k+1) X.A) (hb:Binds X.K q ps []) (I:Inv X pins j H s) (B:SqL X.K H a vs) (D:RelV d i) (h:MmW false X.K sp a vs d H Q) :
 wpAny (model X.prog X.w) X.A (call (.builtin "min") [.ref a] [(Str.ofString "key",.ref f),(Str.ofString "default",i)]) (EP X pins j Q) E s:=by
 have c:(toString "min" ++ toString ".loop" : String) = "min.loop" := by decide
 obtain⟨W,K,M,w,G⟩:=h;obtain⟨us,rv,r,hz⟩:=I.list B
 have C:a<s.heap.objs.size:=let ⟨_,e,_⟩:=r.isList; Heap.lt_size e
 refine kmk_tree PySem.F.kind_min PySem.F.plain_min PySem.F.entry_min (Aa9 _ _ _) ?_
 show wpAny _ X.A.in1 (Builtin.Builtins.bindParams "min" ["key", "default"] 0 ⟨[],[(Str.ofString "key",.ref f),(Str.ofString "default",i)]⟩ >>= _) _ _ s
 refine wpAny_bind (wpAny_of_eq (show Builtin.Builtins.bindParams "min" ["key", "default"] 0 ⟨[],[(Str.ofString "key",.ref f),(Str.ofString "default",i)]⟩=pure [some (.ref f),some i] from rfl) ?_)
 refine wpAny_bind (wpAny_pure ?_)
 refine wpAny_bind (wpAny_pyIter_list r.isList ?_)
 refine wpAny_bind (wpAny_newList ?_ (Nat.zero_le _))
 rw[c]
 refine wpAny_pure ⟨plainId_quiet PySem.F.plain_min_loop _,?_⟩
 generalize hh1:s.heap.push { cls:=.type "list_iterator",data:=.fields #[.ref a,.int 0 0] }=h1
 have g:h1.objs.size=s.heap.objs.size+1:=by rw[<- hh1,Heap.size_push]
 have t:Inv X pins j H { s with heap:=h1.push { cls:=.type "list",data:=.seq ([]:List Value).toArray } }:=I.kept (t':=s.toks) λb o e=>Heap.get?_push_of_some _ (by rw[<- hh1];exact Heap.get?_push_of_some _ e)
 have A:∀b o,s.heap.get? b=some o->b≠s.heap.objs.size/\b≠h1.objs.size:=λb o e=>by have:=Heap.lt_size e;rw[g];exact⟨Nat.ne_of_lt this,Nat.ne_of_lt (Nat.lt_succ_of_lt this)⟩
 have m:=I.fpOk (b:=s.heap.objs.size) (Nat.le_refl _) (I.hok.fresh (Nat.le_refl _))
 have l:=I.fpOk (b:=h1.objs.size) (by rw[g];exact Nat.le_succ _) (I.hok.fresh (by rw[g];exact Nat.le_succ _))
 have u:(h1.push { cls:=.type "list",data:=.seq ([]:List Value).toArray }).get? s.heap.objs.size=some { cls:=.type "list_iterator",data:=.fields #[.ref a,.int 0 0] }:=Heap.get?_push_of_some _ (by rw[<- hh1];exact Heap.get?_push_size _ rfl)
 have J:(h1.push { cls:=.type "list",data:=.seq ([]:List Value).toArray }).get? h1.objs.size=some { cls:=.type "list",data:=.seq ([]:List Value).toArray }:=Heap.get?_push_size _ rfl
 refine A5f (S:=h1.objs.size) hc F hr hb D (by rw[g];exact Nat.le_succ_of_le I.sz) I.sz (by rw[g];exact Nat.ne_of_gt (Nat.lt_succ_self _)) (Nat.ne_of_lt C)
  (λp L=>let ⟨x,y⟩:=A _ _ (I.pin p L).1; ⟨y,x⟩) W M w G _ 0 none _ 0 { cls:=.type "list_iterator",data:=.fields #[.ref a,.int 0 0] } H _ rfl (Nat.zero_le _) rfl K (t.pins_of λp n=>?_) ⟨_,u,rfl,rfl⟩
 rcases List.mem_append.mp n with z | z
 ·exact t.pin p (List.mem_append_right _ z)
 ·rcases List.mem_cons.mp z with rfl | z
  ·exact⟨J,l.1,l.2.1,l.2.2.1,λv z=>by cases z⟩
  ·rw[List.mem_singleton.mp z]
   exact⟨u,m.1,m.2.1,m.2.2.1,λv z=>by cases z⟩
end
section
variable {X:Cx}
theorem Ze (a v d:Value):argsOk "max" ⟨[a],[(Str.ofString "key",v),(Str.ofString "default",d)]⟩:=by rfl
theorem A4j {E:Value->Shared->Prop} (hc:X.calm=true)
 (F:FnOk X.prog X.w X.K X.mg X.base CX0 k f fd ps sp) (hr:Room (k+1) X.A) (hb:Binds X.K fd ps []) (rd:RelV d ud) (hS:X.s₀.heap.objs.size<=S) (hJ:X.s₀.heap.objs.size<=J) (M:S≠J) (haJ:a≠J)
 (hp:∀p∈X.pn++pins,p.1≠S/\p.1≠J)
 (W:Nat->Option (V×V)->Hp->Prop) (w1:∀i g H,W i g H->SqL X.K H a vs)
 (w2:∀i x g H,vs[i]?=some x->W i g H->sp [x] H (λl H1=>match g with
  | none=>W (i+1) (some (x,l)) H1
  | some (bx,bk)=>∃dk db r,Tr H1 dk l/\Tr H1 db bk/\Flat dk/\Flat db/\G6 true dk db=some r/\W (i+1) (if r=true then some (x,l) else some (bx,bk)) H1) E0)
 (w3:∀g H,W vs.length g H->Q (match g with | some (x,_)=>x | none=>d) H) :
 ∀
  (r i:Nat) (g:Option (V×V)) (j:List Value) (n:Nat) (oJ:Obj) (H:Hp) (s:Shared),vs.length-i=r->i<=vs.length->A9s g j->W i g H ->
  Inv X (pins++[(S,{ cls:=.type "list",data:=.seq j.toArray n }),(J,oJ)]) O H s->s.heap.IsListIter J a i ->
  codeAny (model X.prog X.w) X.A (.builtin "max.loop" ⟨[.ref J,.ref f,.ref S],[(Str.ofString "default",ud)]⟩) (λr s'=>match r with | .ok (.ret v)=>EP X pins O Q v s' | .ok _=>False | .error e=>E e s') s:=by
 have m:(toString "max" ++ toString ".loop" : String) = "max.loop" := by decide
 have hu:X.A.units+100<cLine:=by have:=hr.un;omega
 intro r
 induction r with
 | zero =>
  intro i g j n oJ H s hri hi h hw I hit
  have e:i=vs.length:=by omega
  subst e;obtain⟨B,ps2,ps3,ps4,Y⟩:=I.pin (S,{ cls:=.type "list",data:=.seq j.toArray n }) (List.mem_append_right _ (List.mem_append_right _ List.mem_cons_self));obtain⟨U,L,N,pj4,pj5⟩:=I.pin (J,oJ) (List.mem_append_right _ (List.mem_append_right _ (List.mem_cons_of_mem _ List.mem_cons_self)));obtain⟨us,rv,pl,hz⟩:=I.list (w1 _ _ _ hw);have hlen:=rv.length
  have I0:Inv X pins O H s:=I.pins_of λp hp=>I.pin p (List.mem_append_right _ (List.mem_append_left _ hp))
  refine codeAny_builtin PySem.F.entry_max_loop ?_
  rw[Around.under_plainId PySem.F.plain_max_loop _]
  show wpAny _ X.A.in1 (seqItems? (.ref S) >>= _) _ _ _
  refine wpAny_bind (wpAny_seqItems B rfl ?_)
  show wpAny _ X.A.in1 (tryCatch (pyNext (.ref J)) _ >>= _) _ _ _
  refine wpAny_bind (wpAny_tryCatch (wpAny_pyNext_list_end (A:=X.A.in1) (I.ok.hd hc) hit pl.isList (by simp;omega) λh' eb=>?_))
  have I1:Inv X pins O H { s with heap:=h' }:=I0.turned (t':=s.toks) (λb o hb e=>eb b o hb e) L N (.inr hJ) (λx c e z=>by
   obtain⟨v,ob,R,C⟩:=I.cell x c e
   rw[z,U]at R;cases R;exact pj5 v C) (λp G=>(hp p G).2)
  cases g with
  | none =>
   cases (show j=[] from h)
   show wpAny _ X.A.in1 (rule _ >>= _) _ _ _
   refine wpAny_bind (wpAny_rule (wpAny_pure ?_))
   exact⟨d,H,I1,rd,w3 none H hw⟩
  | some b =>
   obtain⟨bx,bk⟩:=b;obtain⟨u,t,rfl,ru,rt⟩:=h;have ps1':=eb S _ M B
   show wpAny _ X.A.in1 (updateSeq S (λ_=>#[]) >>= _) _ _ _
   refine wpAny_bind (wpAny_updateSeq ps1' rfl (wpAny_bind (wpAny_letGo (wpAny_pure ?_))))
   refine⟨bx,H,I1.turned (t':=s.toks) (λb o hb e=>(Heap.get?_update_other h' _ (Ne.symm hb)).trans e) ps2 ps3 (.inr hS) (λx c e z=>?_) (λp G=>(hp p G).1),ru,w3 (some (bx,bk)) H hw⟩
   obtain⟨v,ob,R,C⟩:=I.cell x c e;rw[z,B]at R;cases R;exact Y v C
 | succ r ih =>
  intro i g j n oJ H s hri hi h hw I hit
  have D:i<vs.length:=by omega
  obtain⟨B,ps2,ps3,ps4,Y⟩:=I.pin (S,{ cls:=.type "list",data:=.seq j.toArray n }) (List.mem_append_right _ (List.mem_append_right _ List.mem_cons_self));obtain⟨U,L,N,pj4,pj5⟩:=I.pin (J,oJ) (List.mem_append_right _ (List.mem_append_right _ (List.mem_cons_of_mem _ List.mem_cons_self)));obtain⟨us,rv,pl,hz⟩:=I.list (w1 _ _ _ hw);have hlen:=rv.length
  obtain⟨u,hu1,ru⟩:=rv.get (i:=i) (x:=vs[i]) (by simp[D])
  have I0:Inv X pins O H s:=I.pins_of λp hp=>I.pin p (List.mem_append_right _ (List.mem_append_left _ hp))
  refine codeAny_builtin PySem.F.entry_max_loop ?_
  rw[Around.under_plainId PySem.F.plain_max_loop _]
  show wpAny _ X.A.in1 (seqItems? (.ref S) >>= _) _ _ _
  refine wpAny_bind (wpAny_seqItems B rfl ?_)
  show wpAny _ X.A.in1 (tryCatch (pyNext (.ref J)) _ >>= _) _ _ _
  refine wpAny_bind (wpAny_tryCatch (wpAny_pyNext_list_item (A:=X.A.in1) hit pl.isList (x:=u) (by simpa using hu1) λh' hit' sb=>?_))
  have I1:Inv X pins O H { s with heap:=h' }:=I0.turned (t':=s.toks) (λb o hb e=>(sb.2 b hb).trans e) L N (.inr hJ) (λx c e z=>by
   obtain⟨v,ob,R,C⟩:=I.cell x c e
   rw[z,U]at R;cases R;exact pj5 v C) (λp G=>(hp p G).2)
  obtain⟨w,hoJ',hoc,Z⟩:=id hit'
  have I2:Inv X (pins++[(S,{ cls:=.type "list",data:=.seq j.toArray n }),(J,w)]) O H { s with heap:=h' }:=I1.pins_of λp K=>by
   rcases List.mem_append.mp K with z | z
   ·exact I1.pin p (List.mem_append_right _ z)
   ·rcases List.mem_cons.mp z with rfl | z
    ·exact⟨(sb.2 S M).trans B,ps2,ps3,ps4,Y⟩
    ·rw[List.mem_singleton.mp z]
     exact⟨hoJ',L,N,pj4,λv q=>by rw[Z]at q;cases q⟩
  show wpAny _ X.A.in1 (tryCatch (holding [u] (call (.ref f) [u])) _ >>= _) _ _ _
  refine wpAny_bind (wpAny_tryCatch (wpAny_holding (wpAny_mono (Aq8 (E:=λ_ _=>False) F hr hb I2 (.cons ru .nil) (w2 i vs[i] g H (by simp[D]) hw)) (λl s3 h3=>?_) λ_ _ z=>z.elim)))
  obtain⟨kx,H3,I3,rk,q3⟩:=h3;obtain⟨t1,t2,t3,t4,t5⟩:=I3.pin (S,{ cls:=.type "list",data:=.seq j.toArray n }) (List.mem_append_right _ (List.mem_append_right _ List.mem_cons_self));obtain⟨j1,j2,j3,j4,j5⟩:=I3.pin (J,w) (List.mem_append_right _ (List.mem_append_right _ (List.mem_cons_of_mem _ List.mem_cons_self)));have hit3:s3.heap.IsListIter J a (i+1):=⟨w,j1,hoc,Z⟩
  have P:∀(y:List Value),∃n',Inv X (pins++[(S,{ cls:=.type "list",data:=.seq y.toArray n' }),(J,w)]) O H3 { s3 with heap:=s3.heap.update S (Obj.mapSeq λ_=>y.toArray) }:=λy=>by
   have q:=PySem.IsL.update t1 (λ_=>y.toArray)
   refine⟨_,I3.recS hS (λp K=>?_) (λp K=>(hp p (List.mem_append_left _ K)).1) q λv z=>by cases z⟩
   rcases List.mem_append.mp K with z | z
   ·exact(hp p (List.mem_append_right _ z)).1
   ·rw[List.mem_singleton.mp z];exact Ne.symm M
  have T:∀y:List Value,(s3.heap.update S (Obj.mapSeq λ_=>y.toArray)).IsListIter J a (i+1):=λy=>⟨w,(Heap.get?_update_other s3.heap _ M).trans j1,hoc,Z⟩
  cases g with
  | none =>
   cases (show j=[] from h)
   obtain⟨n',I4⟩:=P [u,l]
   show wpAny _ X.A.in1 (updateSeq S (λ_=>#[u,l]) >>= _) _ _ _
   refine wpAny_bind (wpAny_updateSeq t1 rfl ?_)
   rw[m]
   exact wpAny_pure ⟨plainId_quiet PySem.F.plain_max_loop _,ih (i+1) (some (vs[i],kx)) [u,l] n' w H3 _ (by omega) D ⟨u,l,rfl,ru,rk⟩ q3 I4 (T [u,l])⟩
  | some b =>
   obtain⟨bx,bk⟩:=b;obtain⟨ub,tb,rfl,rub,rtb⟩:=h;obtain⟨dk,db,r',tk,tdb,fk,fb,ecmp,wn⟩:=q3;obtain⟨as,rdk⟩:=tk.reads I3 rk;obtain⟨bs,rdb⟩:=tdb.reads I3 rtb
   show wpAny _ X.A.in1 (tryCatch (holding [u,l] (richCompare .Gt l tb >>= _)) _ >>= _) _ _ _
   refine wpAny_bind (wpAny_tryCatch (wpAny_holding (wpAny_bind (Oz true dk db X.A.in1 s3 l tb as bs r' rdk rdb fk.1 fb.1 (by show X.A.units+1+dk.depth<cLine;have:=fk.2;omega) ecmp X.prog X.w _ _ ?_))))
   refine wpAny_bind (wpAny_holding (wpAny_truthy_bool ?_))
   refine wpAny_bind (wpAny_letGo (wpAny_pure ?_))
   cases r' with
   | true =>
    obtain⟨n',I4⟩:=P [u,l];simp only[if_true]
    refine wpAny_bind (wpAny_updateSeq t1 rfl (wpAny_bind (wpAny_letGo ?_)))
    rw[m]
    exact wpAny_pure ⟨plainId_quiet PySem.F.plain_max_loop _,ih (i+1) (some (vs[i],kx)) [u,l] n' w H3 _ (by omega) D ⟨u,l,rfl,ru,rk⟩ wn I4 (T [u,l])⟩
   | false =>
    simp only[Bool.false_eq_true,if_false]
    refine wpAny_bind (wpAny_letGo ?_)
    rw[m]
    exact wpAny_pure ⟨plainId_quiet PySem.F.plain_max_loop _,ih _ (some _) _ n _ _ _ (by omega) D ⟨ub,tb,rfl,rub,rtb⟩ (by simpa using wn) I3 hit3⟩
theorem Aj1 (hc:X.calm=true)
 (F:FnOk X.prog X.w X.K X.mg X.base CX0 k f q ps sp) (hr:Room (k+1) X.A) (hb:Binds X.K q ps []) (I:Inv X pins j H s) (B:SqL X.K H a vs) (D:RelV d i) (h:MmW true X.K sp a vs d H Q) :
 wpAny (model X.prog X.w) X.A (call (.builtin "max") [.ref a] [(Str.ofString "key",.ref f),(Str.ofString "default",i)]) (EP X pins j Q) E s:=by
 have c:(toString "max" ++ toString ".loop" : String) = "max.loop" := by decide
 obtain⟨W,K,M,w,G⟩:=h;obtain⟨us,rv,r,hz⟩:=I.list B
 have C:a<s.heap.objs.size:=let ⟨_,e,_⟩:=r.isList; Heap.lt_size e
 refine kmk_tree PySem.F.kind_max PySem.F.plain_max PySem.F.entry_max (Ze _ _ _) ?_
 show wpAny _ X.A.in1 (Builtin.Builtins.bindParams "max" ["key", "default"] 0 ⟨[],[(Str.ofString "key",.ref f),(Str.ofString "default",i)]⟩ >>= _) _ _ s
 refine wpAny_bind (wpAny_of_eq (show Builtin.Builtins.bindParams "max" ["key", "default"] 0 ⟨[],[(Str.ofString "key",.ref f),(Str.ofString "default",i)]⟩=pure [some (.ref f),some i] from rfl) ?_)
 refine wpAny_bind (wpAny_pure ?_)
 refine wpAny_bind (wpAny_pyIter_list r.isList ?_)
 refine wpAny_bind (wpAny_newList ?_ (Nat.zero_le _))
 rw[c]
 refine wpAny_pure ⟨plainId_quiet PySem.F.plain_max_loop _,?_⟩
 generalize hh1:s.heap.push { cls:=.type "list_iterator",data:=.fields #[.ref a,.int 0 0] }=h1
 have g:h1.objs.size=s.heap.objs.size+1:=by rw[<- hh1,Heap.size_push]
 have t:Inv X pins j H { s with heap:=h1.push { cls:=.type "list",data:=.seq ([]:List Value).toArray } }:=I.kept (t':=s.toks) λb o e=>Heap.get?_push_of_some _ (by rw[<- hh1];exact Heap.get?_push_of_some _ e)
 have A:∀b o,s.heap.get? b=some o->b≠s.heap.objs.size/\b≠h1.objs.size:=λb o e=>by have:=Heap.lt_size e;rw[g];exact⟨Nat.ne_of_lt this,Nat.ne_of_lt (Nat.lt_succ_of_lt this)⟩
 have m:=I.fpOk (b:=s.heap.objs.size) (Nat.le_refl _) (I.hok.fresh (Nat.le_refl _))
 have l:=I.fpOk (b:=h1.objs.size) (by rw[g];exact Nat.le_succ _) (I.hok.fresh (by rw[g];exact Nat.le_succ _))
 have u:(h1.push { cls:=.type "list",data:=.seq ([]:List Value).toArray }).get? s.heap.objs.size=some { cls:=.type "list_iterator",data:=.fields #[.ref a,.int 0 0] }:=Heap.get?_push_of_some _ (by rw[<- hh1];exact Heap.get?_push_size _ rfl)
 have J:(h1.push { cls:=.type "list",data:=.seq ([]:List _).toArray }).get? _=some _:=Heap.get?_push_size _ rfl
 refine A4j hc F hr hb D (by rw[g];exact Nat.le_succ_of_le I.sz) I.sz (by rw[g];exact Nat.ne_of_gt (Nat.lt_succ_self _)) (Nat.ne_of_lt C)
  (λp L=>let ⟨x,y⟩:=A _ _ (I.pin p L).1; ⟨y,x⟩) W M w G _ 0 none _ 0 { cls:=.type "list_iterator",data:=.fields #[.ref a,.int 0 0] } H _ rfl (Nat.zero_le _) rfl K (t.pins_of λp n=>?_) ⟨_,u,rfl,rfl⟩
 rcases List.mem_append.mp n with z | z
 ·exact t.pin p (List.mem_append_right _ z)
 ·rcases List.mem_cons.mp z with rfl | z
  ·exact⟨J,l.1,l.2.1,l.2.2.1,λv z=>by cases z⟩
  ·rw[List.mem_singleton.mp z]
   exact⟨u,m.1,m.2.1,m.2.2.1,λv z=>by cases z⟩
end
section
variable {X:Cx}{p pos:Pos}{e:Expr}{t tk:TA}{kws:List Keyword}
def tMM (gt:Bool)(K:PySem.W.Frag)(f:Addr)(sp:Sp)(t tk:TA):TE:=λσ H Q=>t σ H λvs H1=>tk σ H1 λzs H2=>∃a xs d,vs=[.ref a]/\zs=[.ref f,d]/\SqL K H2 a xs/\MmW gt K sp a xs d H2 Q
theorem A3j (hc:X.calm=true) (F:FnOk X.prog X.w X.K X.mg X.base CX0 k f c ps sp) (hr:Room (k+1) X.A) (hb:Binds X.K c ps []) (hg:Gl X "min") (hm:X.mg "min" = none)
 (ha:PA X [e] t) (hkw:PK X kws tk) (hall:(backToKw pos (keywordEach kws X.env)).all (·.1.isSome)=true:=by rfl) (hks:(backToKw pos (keywordEach kws X.env)).filterMap (·.1)=[Str.ofString "key",Str.ofString "default"]:=by rfl)
 (he:backTo pos (starEach [e] X.env)=(false,eval e X.env)::backTo pos (starEach [] X.env):=by rfl) (hpl:(backTo pos (starEach [e] X.env)).any (·.1)=false:=by rfl) (hno:(backToKw pos (keywordEach kws X.env)).any (·.1.isNone)=false:=by rfl) :
 PE X (.Call (.Name "min" p) [e] kws pos) (tMM false X.K f sp t tk):=by
 intro b s σ H Q I h
 refine wpAny_Call_Name_kw (Je I hg hm boot_min ?_ (by decide) (by rfl))
 refine PyProof.Rows.callWith_kw (thn (ha _ _ s _ H _ I h) λus s1 ⟨vs,H1,l,r,q⟩=>?_) he hpl hall hno
 refine thn (hkw _ _ _ _ _ _ l q) λws s2 ⟨zs,H2,m,j,n⟩=>?_
 obtain⟨a,xs,d,rfl,rfl,i,v⟩:=n;obtain⟨u,rfl,o⟩:=vals1 r
 cases o
 obtain⟨uf,ud,rfl,w,g⟩:=Vals.two j
 cases w
 rw[hks];exact Ai8 hc F hr hb m i g v
theorem A5g (hc:X.calm=true) (F:FnOk X.prog X.w X.K X.mg X.base CX0 k f c ps sp) (hr:Room (k+1) X.A) (hb:Binds X.K c ps []) (hg:Gl X "max") (hm:X.mg "max" = none)
 (ha:PA X [e] t) (hkw:PK X kws tk) (hall:(backToKw pos (keywordEach kws X.env)).all (·.1.isSome)=true:=by rfl) (hks:(backToKw pos (keywordEach kws X.env)).filterMap (·.1)=[Str.ofString "key",Str.ofString "default"]:=by rfl)
 (he:backTo pos (starEach [e] X.env)=(false,eval e X.env)::backTo pos (starEach [] X.env):=by rfl) (hpl:(backTo pos (starEach [e] X.env)).any (·.1)=false:=by rfl) (hno:(backToKw pos (keywordEach kws X.env)).any (·.1.isNone)=false:=by rfl) :
 PE X (.Call (.Name "max" p) [e] kws pos) (tMM true X.K f sp t tk):=by
 intro b s σ H Q I h
 refine wpAny_Call_Name_kw (Je I hg hm boot_max ?_ (by decide) (by rfl))
 refine PyProof.Rows.callWith_kw (thn (ha _ _ s _ H _ I h) λus s1 ⟨vs,H1,l,r,q⟩=>?_) he hpl hall hno
 refine thn (hkw _ _ _ _ _ _ l q) λws s2 ⟨zs,H2,m,j,n⟩=>?_
 obtain⟨a,xs,d,rfl,rfl,i,v⟩:=n;obtain⟨u,rfl,o⟩:=vals1 r
 cases o
 obtain⟨uf,ud,rfl,w,g⟩:=Vals.two j
 cases w
 rw[hks];exact Aj1 hc F hr hb m i g v
end
noncomputable def Av4 (H:Hp):V->Option Nat
 | .ref p=>match H p with
  | some (.lst xs)=>some xs.length
  | some (.tup xs)=>some xs.length
  | _=>none
 | .str z=>if z.length<=sizeLine then some z.length else none
 | _=>none
def rAppF:V->List V->Hp->VK->Prop:=λx vs H Q=>∃l y xs,x=.ref l/\vs=[y]/\H l=some (.lst xs)/\xs.length<sizeLine/\Q .non (upd H l (.lst (xs++[y])))
def Bk9 (K:PySem.W.Frag)(tl:TE):TI:=λσ H R=>tl σ H λx H1=>∃a,x=.ref a/\((∃xs,H1 a=some (.lst xs)/\R (Itl K a) H1)\/(∃xs,H1 a=some (.tup xs)/\R (Itt K a) H1))
section
variable {X:Cx}
theorem Aw8:zE X (.builtin "len") (λxs H Q=>∃x n,xs=[x]/\Av4 H x=some n/\Q (.int (n:Nat)) H):=by
 intro a s σ H xs us Q I r h;obtain⟨x,n,rfl,e,q⟩:=h
 refine Ac4 _ s _ H _ _ Q I r ⟨x,n,rfl,?_,q⟩
 cases x with
 | ref p =>
  have e:(match H p with | some (.lst _)=>some _ | some (.tup _)=>some _ | _=>none)=some n:=e
  cases hp:H p with
  | none=>simp_all
  | some o =>
   rw[hp]at e
   cases o with
   | lst xs=>cases e;exact .inl ⟨xs,SqL.of hp,rfl⟩
   | tup xs=>cases e;exact .inr ⟨xs,SqT.of hp,rfl⟩
   | _=>grind
 | str z =>
  have e:(if z.length<=sizeLine then some _ else none)=some n:=e
  split at e
  ·cases e;trivial
  trivial
 | _=>cases e
theorem A9e:MtM X "list.append" rAppF:=by
 intro a s j H x k v m Q I e f h;obtain⟨l,y,d,c,g,i,b,q⟩:=h;exact Av9 _ s _ H x _ v _ Q I e f ⟨l,d,y,c,g,i,b,q⟩
theorem Bh3 (hl:PE X l j):PI X u l (Bk9 X.K j):=by
 intro k s z H R I h
 refine thn (hl _ s _ H _ I h) λv d ⟨x,m,c,r,f⟩=>?_
 obtain⟨a,e,f⟩:=f;subst e
 cases r
 rcases f with ⟨t,i,q⟩ | ⟨t,i,q⟩
 ·obtain⟨g,w,p,y⟩:=c.list (SqL.of i)
  refine wpAny_pyIter_list p.isList ?_
  refine⟨d.heap.objs.size,[d.heap.objs.size],_,_,m,rfl,c.kept λb o e=>Heap.get?_push_of_some _ e,At9 a _,⟨_,Heap.get?_push_size _ rfl,rfl,rfl⟩,λb n=>?_,q⟩
  have e:b=d.heap.objs.size:=by grind
  subst e;exact c.fpOk (Nat.le_refl _) (c.hok.fresh (Nat.le_refl _))
 ·obtain⟨g,w,p,y⟩:=c.tuple (SqT.of i)
  refine wpAny_pyIter_tuple (show d.heap.IsTuple a _ from p) ?_
  refine⟨d.heap.objs.size,[d.heap.objs.size],_,_,m,rfl,c.kept λb o e=>Heap.get?_push_of_some _ e,Ah2 a _,⟨_,Heap.get?_push_size _ rfl,rfl,rfl⟩,λb n=>?_,q⟩
  have e:b=d.heap.objs.size:=by grind
  subst e;exact c.fpOk (Nat.le_refl _) (c.hok.fresh (Nat.le_refl _))
end
theorem A5h:bootBuiltins "len" = some (.builtin "len"):=by decide +kernel
theorem Bi5:bootBuiltins "abs" = some (.builtin "abs"):=by decide +kernel
theorem Vw:bootBuiltins "isinstance" = some (.builtin "isinstance"):=by decide +kernel
theorem Bi3:bootBuiltins "any" = some (.builtin "any"):=by decide +kernel
theorem Bf1:bootBuiltins "all" = some (.builtin "all"):=by decide +kernel
theorem Bj1:bootBuiltins "sum" = some (.builtin "sum"):=by decide +kernel
theorem Be7:bootBuiltins "min" = some (.builtin "min"):=by decide +kernel
theorem A4d:bootBuiltins "int" = some (.type "int"):=by decide +kernel
theorem A4b:bootBuiltins "str" = some (.type "str"):=by decide +kernel
theorem A7l:bootBuiltins "list" = some (.type "list"):=by decide +kernel
theorem Z8:bootBuiltins "tuple" = some (.type "tuple"):=by decide +kernel
theorem Bd9:bootBuiltins "set" = some (.type "set"):=by decide +kernel
theorem Dy {X:Cx}{N':List Str}{idx:List (Option Nat)}{scope:Scope}(h1:scope.kind=.function:=by exact rfl)(h3:(scope.names.map (·.1)).Nodup:=by decide +kernel)
 (h4:(scope.names.all λy=>decide (y.2≠.free)||decide (X.env.kindOf y.1=some .cell)||decide (X.env.kindOf y.1=some .free))=true:=by exact rfl) (h5:idx.length=N'.length:=by exact rfl)
 (h6:((idx.zip N').all λp=>match p.1 with | none=>true | some i=>decide (X.N[i]?=some p.2)&&decide (scope.names.lookup p.2=some .free))=true:=by exact rfl):Ih X N' idx scope where
 kind:=h1
 nod:=h3
 free:=λy hy hf=>by
  have h:=List.all_eq_true.mp h4 y hy;simp only[Bool.or_eq_true,decide_eq_true_eq]at h
  rcases h with (h | h) | h
  ·exact absurd hf h
  ·exact .inl h
  ·exact .inr h
 len:=h5
 at':=λj i x e1 e2=>by
  have hz:(some i,x)∈idx.zip N':=by
   have:(idx.zip N')[j]?=some (some i,x):=by simp[List.getElem?_zip_eq_some,e1,e2]
   exact List.mem_of_getElem? this
  have h:=List.all_eq_true.mp h6 _ hz;simp only[Bool.and_eq_true,decide_eq_true_eq]at h;exact h
noncomputable def Uu:Expr->Option V
 | .Constant (.int i) _ _=>some (.int i)
 | .Constant (.str x) _ _=>some (.str x)
 | .Constant (.bool b) _ _=>some (.bl b)
 | .Constant .none _ _=>some .non
 | _=>none
def Ol:List Expr->Option (List V)
 | []=>some []
 | e::es=>match Uu e,Ol es with
  | some v,some vs=>some (v::vs)
  | _,_=>none
def tK (vs:List V):TA:=λ_ H Q=>Q vs H
theorem A0f (h:Uu e=some v):PE X e (tC v)/\∀es,starEach (e::es) X.env=(false,eval e X.env)::starEach es X.env:=by
 unfold Uu at h
 split at h <;> first
  | (cases h;exact⟨A0v,λ_=>rfl⟩)
  | (cases h;exact⟨A1j,λ_=>rfl⟩)
  | (cases h;exact⟨Bb3,λ_=>rfl⟩)
  | (cases h;exact⟨A1y,λ_=>rfl⟩)
  | cases h
theorem Wq {X:Cx}:∀{es:List Expr}{vs:List V},Ol es=some vs->PA X es (tK vs)
 | [],vs,h=>by cases h;exact Te
 | e::es,vs,h=>by
  have h:(match Uu e,Ol es with | some v,some vs=>some (v::vs) | _,_=>none)=some vs:=h
  cases e1:Uu e with
  | none=>rw[e1]at h;cases h
  | some v =>
   cases e2:Ol es with
   | none=>rw[e1,e2]at h;cases h
   | some r =>
    rw[e1,e2]at h
    cases h
    obtain⟨p1,p2⟩:=A0f (X:=X) e1;exact Aq0 p1 (Wq e2) (p2 es)
noncomputable def isStar:Expr->Bool
 | .Starred ..=>true
 | _=>false
def noStar:List Expr->Bool
 | []=>true
 | e::es=>!isStar e&&noStar es
theorem Ho (h:isStar e=false):starEach (e::es) env=(false,eval e env)::starEach es env:=by
 cases e <;> first | rfl | cases h
theorem Kg {pos:Pos}{env:Env}:∀{es:List Expr},noStar es=true->(backTo pos (starEach es env)).any (·.1)=false
 | [],_=>rfl
 | e::es,h=>by
  obtain⟨h1,h2⟩:=Bool.and_eq_true_iff.mp h
  rw[Ho (by simpa using h1)]
  show (false||(backTo pos (starEach es env)).any (·.1))=false
  rw[Kg h2]
  rfl
theorem Gk (h:noStar (e::es)=true):isStar e=false/\noStar es=true:=by
 obtain⟨b,a⟩:=Bool.and_eq_true_iff.mp h
 simp_all
section
variable {X:Cx}{CX:CXT}{k:Nat}{f:Addr}{fd:FuncData}{ps:List Str}{sp:Sp}{dvs:List V}{ds:List Value}{E:XK}{x:Str}{p pos:Pos}{e:Expr}{es:List Expr}{te:TE}{t:TA}{id T:String}{r:List V->Hp->VK->Prop}
theorem A6n (ha:PE X e te)(hr:PA X es t)(hs:isStar e=false:=by rfl):PA X (e::es) (Ec te t):=Aq0 ha hr (Ho hs)
theorem Az9 (F:FnOk X.prog X.w X.K X.mg X.base CX k f fd ps sp)(hr:Room k X.A)(hg:Gl X x)(hm:X.mg x=some (.ref f))(hk:PySem.W.keepIn X.K (.ref f)=true)(hb:Binds X.K fd ps ds)(hd:Vals dvs ds)(hx:U6 CX X E)
 (ha:PA X (e::es) t) (hdb:(x==("__debug__" : Str))=false:=by decide) (hn:noStar (e::es)=true:=by rfl):PE X (.Call (.Name x p) (e::es) [] pos) (Zr sp dvs E t) :=
 A8z F hr hg hm hk hb hd hx ha hdb (Ho (Gk hn).1) (Kg (Gk hn).2)
theorem Ga (hc:zE X (.builtin id) r)(hg:Gl X x)(hm:X.mg x=none)(hv:bootBuiltins x=some (.builtin id))(ha:PA X (e::es) t)(hn:x ≠ "__name__" := by decide) (hdb:(x==("__debug__" : Str))=false:=by decide)
 (hns:noStar (e::es)=true:=by rfl):PE X (.Call (.Name x p) (e::es) [] pos) (tCB r t):=A3n hc hg hm hv ha hn hdb (Ho (Gk hns).1) (Kg (Gk hns).2)
theorem Km (hc:zE X (.type T) r)(hg:Gl X x)(hm:X.mg x=none)(hv:bootBuiltins x=some (.type T))(ha:PA X (e::es) t)(hn:x ≠ "__name__" := by decide) (hdb:(x==("__debug__" : Str))=false:=by decide)
 (hns:noStar (e::es)=true:=by rfl):PE X (.Call (.Name x p) (e::es) [] pos) (tCB r t):=Az3 hc hg hm hv ha hn hdb (Ho (Gk hns).1) (Kg (Gk hns).2)
end
section
variable {X:Cx}{a b e:Expr}{es:List Expr}{ta tb te:TE}{t:TA}{p pos apos cpos:Pos}
theorem Er {b:List Keyword}{a:Pos}:Jl (.Call f args b a):=λ_ _=>rfl
theorem Ez {a:Pos}:Jl (.Name x a):=λ_ _=>rfl
theorem Ba {a:Pos}:Jl (.Constant (.int i) j a):=λ_ _=>rfl
theorem plain_bin {a b:Expr}{op}{c:Pos}:Jl (.BinOp a op b c):=λ_ _=>rfl
theorem Mt {b:Pos}:Jl (.UnaryOp op a b):=λ_ _=>rfl
theorem Ii (ha:QE X a ta)(hb:QE X b tb):QE X (.BinOp a .Sub b pos) (tOp (rI0 λi j=>.int (i-j)) ta tb):=⟨Tf Bd2 ha.1 hb.1⟩
theorem Il (ha:QE X a ta)(hb:QE X b tb):QE X (.BinOp a .Mult b pos) (tOp (rI CMul λi j=>.int (i*j)) ta tb):=⟨Tf Be1 ha.1 hb.1⟩
theorem Tu (ha:QE X a ta)(hb:QE X b tb):QE X (.BinOp a .FloorDiv b pos) (tOp (rI A7k λi j=>.int (i / j)) ta tb):=⟨Tf A5w ha.1 hb.1⟩
theorem Hj (ha:QE X a ta)(hb:QE X b tb):QE X (.BinOp a .Mod b pos) (tOp (rI (λ_ j=>0<j) λi j=>.int (i % j)) ta tb):=⟨Tf Bh6 ha.1 hb.1⟩
theorem Qk (ha:QE X a ta)(hb:QE X b tb):QE X (.BinOp a .Pow b pos) (tOp (rI A9h λi j=>.int (i ^ j.toNat)) ta tb):=⟨Tf Bi9 ha.1 hb.1⟩
theorem Aj5 (ha:PE X a ta)(hb:PE X b tb):PE X (.BinOp a .Add b pos) (tOp (Ar5 X.K) ta tb):=Tf Am7 ha hb
def Bv1:R2:=λx y H Q=>∃da db,Tr H da x/\Tr H db y/\Flat da/\Flat db/\Q (.bl (PyData.eqv da db)) H
def Bv0:R2:=λx y H Q=>∃da db,Tr H da x/\Tr H db y/\Flat da/\Flat db/\Q (.bl (!PyData.eqv da db)) H
def Bs0:R2:=λx y H Q=>∃da db r,Tr H da x/\Tr H db y/\Flat da/\Flat db/\G6 false da db=some r/\Q (.bl r) H
theorem Ab3 (ha:QE X a ta)(hb:QE X b tb):QT X (.Compare a [.Lt] [b] pos) (K9 (tOp (rI0 λi j=>.bl (decide (i<j))) ta tb)):=⟨Ig Br7 ha.1 hb.1 (Js _)⟩
theorem Uz (ha:QE X a ta)(hb:QE X b tb):QT X (.Compare a [.Gt] [b] pos) (K9 (tOp (rI0 λi j=>.bl (decide (j<i))) ta tb)):=⟨Ig Bu2 ha.1 hb.1 (Js _)⟩
theorem A4y (ha:QE X a ta)(hb:QE X b tb):QE X (.Compare a [.GtE] [b] pos) (tOp (rI0 λi j=>.bl (decide (j<=i))) ta tb):=⟨S7 Bn8 ha.1 hb.1 (Js _)⟩
theorem Ax2 (ha:QE X a ta)(hb:QE X b tb):QT X (.Compare a [.Is] [b] pos) (K9 (tOp (λx y H Q=>y=.non/\Q (.bl (decide (x=.non))) H) ta tb)):=⟨Ig Bg6 ha.1 hb.1 (Js _)⟩
theorem J9 (ha:QE X a ta)(hb:QE X b tb):QT X (.Compare a [.IsNot] [b] pos) (K9 (tOp (λx y H Q=>y=.non/\Q (.bl (!decide (x=.non))) H) ta tb)):=⟨Ig A8l ha.1 hb.1 (Js _)⟩
theorem Az1 (hu:X.A.units+64<cLine)(ha:QE X a ta)(hb:QE X b tb):QE X (.Compare a [.Lt] [b] pos) (tOp (Bs0) ta tb):=⟨S7 (Be0 hu) ha.1 hb.1 (Js _)⟩
theorem Qq (ha:QE X a ta):QE X (.UnaryOp .USub a pos) (tUn (rU λi=>.int (-i)) ta):=⟨Bs9 Bc7 ha.1⟩
def Q7 (K:PySem.W.Frag):List V->Hp->VK->Prop:=λxs H Q=>∃x n,xs=[x]/\Av4 H x=some n/\Q (.int (n:Nat)) H
def Af4 (K:PySem.W.Frag):List V->Hp->VK->Prop:=λxs H Q=>∃x n,xs=[x]/\Bt9 K x H n/\Q (.int n) H
def Od (K:PySem.W.Frag):List V->Hp->VK->Prop:=λxs H Q=>∃i,xs=[.int i]/\Q (.int (if i<0 then -i else i)) H
theorem Aa8 (hgl:Gl X "abs") (hm:X.mg "abs" = none) (ha:PA X (e::es) t) (hns:noStar (e::es)=true:=by rfl):PE X (.Call (.Name "abs" p) (e::es) [] pos) (tCB (Od X.K) t):=Ga A0z hgl hm Bi5 ha (by decide) (by rfl) hns
def Oa (K:PySem.W.Frag):List V->Hp->VK->Prop:=λxs H Q=>∃x T t b,xs=[x,.ty T]/\Rq H x=some t/\Fv t T=some b/\Q (.bl b) H
theorem Ac3 (hgl:Gl X "isinstance") (hm:X.mg "isinstance" = none) (ha:PA X (e::es) t) (hns:noStar (e::es)=true:=by rfl):PE X (.Call (.Name "isinstance" p) (e::es) [] pos) (tCB (Oa X.K) t):=Ga A5a hgl hm Vw ha (by decide) (by rfl) hns
def Lw (K:PySem.W.Frag):List V->Hp->VK->Prop:=λxs H Q=>∃(a:Addr) (bs:List Bool),xs=[.ref a]/\SqL K H a (bs.map V.bl)/\Q (.bl (bs.any id)) H
theorem Yq (hc:X.calm=true)(hgl:Gl X "any") (hm:X.mg "any" = none) (ha:PA X (e::es) t) (hns:noStar (e::es)=true:=by rfl):PE X (.Call (.Name "any" p) (e::es) [] pos) (tCB (Lw X.K) t):=Ga (Av0 hc) hgl hm Bi3 ha (by decide) (by rfl) hns
def La (K:PySem.W.Frag):List V->Hp->VK->Prop:=λxs H Q=>∃(a:Addr) (bs:List Bool),xs=[.ref a]/\SqL K H a (bs.map V.bl)/\Q (.bl (bs.all id)) H
theorem Yt (hc:X.calm=true)(hgl:Gl X "all") (hm:X.mg "all" = none) (ha:PA X (e::es) t) (hns:noStar (e::es)=true:=by rfl):PE X (.Call (.Name "all" p) (e::es) [] pos) (tCB (La X.K) t):=Ga (Av2 hc) hgl hm Bf1 ha (by decide) (by rfl) hns
def Mp (K:PySem.W.Frag):List V->Hp->VK->Prop:=λxs H Q=>∃(a:Addr) (ns:List Int),xs=[.ref a]/\SqL K H a (ns.map V.int)/\Q (.int ns.sum) H
theorem Yh (hc:X.calm=true)(hgl:Gl X "sum") (hm:X.mg "sum" = none) (ha:PA X (e::es) t) (hns:noStar (e::es)=true:=by rfl):PE X (.Call (.Name "sum" p) (e::es) [] pos) (tCB (Mp X.K) t):=Ga (Av7 hc) hgl hm Bj1 ha (by decide) (by rfl) hns
def K8 (K:PySem.W.Frag):List V->Hp->VK->Prop:=λxs H Q=>(∃i,xs=[.int i]/\Q (.int i) H)\/∃k,xs=[.bl k]/\Q (.int (if k then 1 else 0)) H
theorem X4 (hgl:Gl X "int") (hm:X.mg "int" = none) (ha:PA X (e::es) t) (hns:noStar (e::es)=true:=by rfl):PE X (.Call (.Name "int" p) (e::es) [] pos) (tCB (K8 X.K) t):=Km Az2 hgl hm A4d ha (by decide) (by rfl) hns
def Hy (K:PySem.W.Frag):List V->Hp->VK->Prop:=λxs H Q=>∃p ys,xs=[.ref p]/\((SqL K H p ys/\∀l,H l=none->Q (.ref l) (upd H l (.tup ys)))\/(SqT K H p ys/\Q (.ref p) H))
theorem Qv (hgl:Gl X "tuple") (hm:X.mg "tuple" = none) (ha:PA X (e::es) t) (hns:noStar (e::es)=true:=by rfl):PE X (.Call (.Name "tuple" p) (e::es) [] pos) (tCB (Hy X.K) t):=Km Vk hgl hm Z8 ha (by decide) (by rfl) hns
def Iz (K:PySem.W.Frag):List V->Hp->VK->Prop:=λxs H Q=>∃p ys,xs=[.ref p]/\(SqL K H p ys\/SqT K H p ys)/\∀l,H l=none->Q (.ref l) (upd H l (.lst ys))
theorem Ry (hgl:Gl X "list") (hm:X.mg "list" = none) (ha:PA X (e::es) t) (hns:noStar (e::es)=true:=by rfl):PE X (.Call (.Name "list" p) (e::es) [] pos) (tCB (Iz X.K) t):=Km Y6 hgl hm A7l ha (by decide) (by rfl) hns
def Lf (K:PySem.W.Frag):List V->Hp->VK->Prop:=λxs H Q=>∃i j,xs=[.int i,.int j]/\Q (.int (if j<i then j else i)) H
theorem Xb (hc:X.calm=true)(hgl:Gl X "min") (hm:X.mg "min" = none) (ha:PA X (e::es) t) (hns:noStar (e::es)=true:=by rfl):PE X (.Call (.Name "min" p) (e::es) [] pos) (tCB (Lf X.K) t):=Ga (Au3 hc) hgl hm Be7 ha (by decide) (by rfl) hns
theorem Av5 (ho:PE X a ta)(hv:PE X e te)(hbase:attributeBase a "append" X.env (eval a X.env)=eval a X.env:=by rfl)
 (hfew:((backTo cpos (starEach [e] X.env)).all (λx=>!x.1)&&(backToKw cpos (keywordEach [] X.env)).all (λx=>x.1.isSome)
  && decide ([e].length+([]:List Keyword).length+(if ([]:List Keyword).isEmpty then 0 else 1)<30))=true:=by rfl)
 (hline:(apos.endLine==cpos.line)=true:=by rfl) (hns:isStar e=false:=by rfl) :
 PE X (.Call (.Attribute a "append" apos) [e] [] cpos) (tBM X.K "list" rAppF ta (Ec te Hb)) :=
 Bb8 PySem.F.plainAttrs_list PySem.F.slot_list_append PySem.F.type_list_append A9e ho (A6n hv Te hns) hbase hfew hline (Ho hns) rfl
end
noncomputable def Ls {α:Type} [DecidableEq α] (ks:List α) (k:α):Bool:=ks.any λx=>decide (x=k)
theorem memB_iff [DecidableEq a] {ks:List a}{k:a}:Ls ks k=true↔k∈ks:=by simp[Ls]
theorem memB_snoc [DecidableEq b] {ks:List b}{k a:b}:Ls (ks++[k]) a=(Ls ks a||decide (a=k)):=by
 unfold Ls
 grind
def T9 {α:Type}[DecidableEq α](acc:List α)(x:α):List α:=if Ls acc x=true then acc else acc++[x]
def dst {α:Type}[DecidableEq α](xs:List α):List α:=xs.foldl T9 []
theorem Pk [DecidableEq a] (xs:List a) (x:a):dst (xs++[x])=T9 (dst xs) x:=by
 unfold dst;grind
theorem Xi {α:Type}[DecidableEq α]:∀(n:Nat) (xs:List α),xs.length=n->(dst xs).length<=n
 | 0,xs,h=>by cases xs with | nil=>exact Nat.le_refl _ | cons a r=>cases h
 | n+1,xs,h=>by
  rcases List.eq_nil_or_concat xs with rfl | ⟨ys,y,rfl⟩
  ·cases h
  ·rw[List.concat_eq_append]at h ⊢
   have hy:ys.length=n:=by simpa using h
   have ih:=Xi n ys hy;rw[Pk];unfold T9;split
   ·omega
   ·simp;omega
noncomputable def keyV:V->Option Key
 | .int i=>some (.inl i)
 | .str x=>some (.inr x)
 | _=>none
theorem A8b (h:keyV v=some k) (r:RelV v u):Mh k u=true/\u.scannable=true:=by
 cases v with
 | int i=>cases h;obtain⟨t,rfl⟩:=r;exact⟨Q0 i t,rfl⟩
 | str x=>cases h;obtain⟨t,rfl⟩:=r;exact⟨Qp x t,rfl⟩
 | _=>cases h
def Vv (P:Program)(w:World)(a:Addr)(ks:List Key)(h:Heap):Prop:=h.SetOf (Dl P w) a (Ls ks) ks.length
noncomputable def A8y (P:Program) (w:World) (a:Addr) (ks:List Key):HO:=.ext (Vv P w a ks)
theorem Qu (hs:Vv P w a ks h) (k:∀o,h.get? a=some o->h'.get? a=some o):Vv P w a ks h':=by
 obtain⟨o,c,d,t,e,b⟩:=hs;exact⟨o,c,d,t,k o e,b⟩
theorem Ay4
 (x:h.SetOf (Dl P w) a (λb=>Ls ks b||decide (b=k)) (if Ls ks k then ks.length else ks.length+1)):Vv P w a (T9 ks k) h:=by
 unfold Vv T9
 by_cases hk:Ls ks k=true
 ·have e:(λb=>Ls ks b||decide (b=k))=Ls ks:=by
   grind
  simp_all
 ·have e:(λb=>Ls ks b||decide (b=k))=Ls (ks++[k]):=by
   funext b
   exact memB_snoc.symm
  simp_all
section
variable {P:Program}{w:World}{A:Around}
theorem fill (W:WalksS P w A.in1 J fp h j n Pv E) (p:S∉fp)
 (ks:List Key) (g:ks.length=n) (is:∀i v,Pv i v->∃k,ks[i]?=some k/\Mh k v=true/\v.scannable=true) (Q:n+1<scanBound) (z:Shared)
 (G:∀s,Moved (S::h) j z s->Vv P w S (dst ks) s.heap->R (.ok (.ret .none)) s) :
 ∀(m i:Nat) (s:Shared),i+m=n->E i s->Moved (S::h) j z s->Vv P w S (dst (ks.take i)) s.heap->codeAny (model P w) A (.builtin "set.update.loop" ⟨[.ref S,.ref J],[]⟩) R s:=by
 have c:S∉h:=λq=>p (W.sub S q)
 have f:∀b,b∈h->b∈S::h:=λb q=>.tail _ q
 intro m
 induction m with
 | zero =>
  intro i s e K D r;have e:i=n:=e;subst e;apply codeAny_builtin PyProof.Rows.F.entry_set_update_loop;rw[Around.under_plainId PyProof.Rows.F.plain_set_update_loop _];apply wpAny_bind (m:=pyNext (.ref J));apply W.done s _ _ K;intro d a;apply wpAny_pure
  refine G d (Moved.trans W.gtrans D (a.mono f)) ?_
  have t:ks.take i=ks:=by rw[<- g];exact List.take_length
  rw[t]at r
  exact Qu r λo q=>a.heap S o c q
 | succ m ih =>
  intro i s e K D r
  have V:i<n:=by omega
  apply codeAny_builtin PyProof.Rows.F.entry_set_update_loop;rw[Around.under_plainId PyProof.Rows.F.plain_set_update_loop _];apply wpAny_bind (m:=pyNext (.ref J));apply W.item i s _ _ V K;intro v d Z F a;obtain⟨k,U,O,X⟩:=is i v Z;have H:Moved (S::h) j z d:=Moved.trans W.gtrans D (a.mono f)
  show wpAny _ A.in1 (holding [v] (setAdd S v) >>= _) _ _ d
  apply wpAny_bind;apply wpAny_holding;unfold setAdd;apply wpAny_holding;apply wpAny_bind
  refine (Dl P w).pyHash (k:=k) O ?_
  have l:(dst (ks.take i)).length+1<scanBound:=by
   have:=Xi _ (ks.take i) rfl
   have:(ks.take i).length<=n:=by rw[<- g];exact List.length_take_le' _ _
   omega
  have tk:ks.take (i+1)=ks.take i++[k]:=by rw[List.take_add_one,U];rfl
  have T:∀(B:Nat),d.toks<=B->wpAny (model P w) A.in1 (setAddHashed S v ((Dl P w).hash k)) (λ_ u=>Moved (S::h) j z u/\Vv P w S (dst (ks.take (i+1))) u.heap/\E (i+1) u) (λ_ _=>False) { d with toks:=B }:=by
   intro B N
   refine wpAny_setAddHashed_of (knd:=Dl P w) (s:={ d with toks:=B }) O X (Qu r λo q=>a.heap S o c q) l λY M so=>?_
   refine⟨Moved.then_heap H N λb o q x=>?_,?_,W.frame (i+1) d Y _ F N λb q o x=>?_⟩
   ·rw[M.2 b λy=>q (y▸.head _)];exact x
   ·rw[tk,Pk];exact Ay4 so
   ·rw[M.2 b λy=>p (y▸q)];exact x
  refine wpAny_mono (T _ (Nat.le_succ _)) (λb u y=>?_) λ_ _ q=>q.elim
  obtain⟨I,L,C⟩:=y
  exact wpAny_pure ⟨plainId_quiet PyProof.Rows.F.plain_set_update_loop _,ih _ _ (by omega) C I L⟩
noncomputable abbrev bare (led:Bool):Obj:={ cls:=.type "set",dict:=none,data:=.set #[] 0 (.fresh 0 0 led) }
abbrev Ie (s:Shared)(led:Bool):Shared:={ s with heap:=s.heap.push (bare led) }
theorem Up (s:Shared)(led:Bool):(Ie s led).heap.get? s.heap.objs.size=some (bare led):=Heap.get?_push_size _ rfl
abbrev A0t (P:Program)(w:World)(A:Around)(R:Result->Shared->Prop)(f:Fin)(z:Shared):Prop:=match f with
 | .done f=>R (.ok f) z
 | .again c=>c.quiet=true/\codeAny (model P w) A c R z
theorem A2x (Z:Shared->Prop) (hZ:∀z,Z z->Q (.ref s.heap.objs.size) z)
 (body:∀b:Bool,wpAny (model P w) A.in1.in1 (Builtin.«set.__init__» ⟨[.ref s.heap.objs.size,a],[]⟩) (A0t P w A.in1 (wants (λr z=>r=.none/\Z z) E)) (λe z=>wants (λr z=>r=.none/\Z z) E (.error e) z) (Ie s b)) :
 wpAny (model P w) A (call (.type "set") [a]) Q E s:=by
 have tc:=F.called_set;obtain⟨c0,cs,mro⟩:=tc.mro;have f1:=tc.made;have f2:=tc.sub;have f3:=tc.notType;have f4:=tc.canCreate;have f5:=F.typeCall_set_1 a;apply wpAny_call;apply codeAny_of_tree
 show wpAny _ _ (callAny (.type "set") ⟨[a],[]⟩) _ _ _
 refine wpAny_pure (And.intro (Code.quiet_builtin _ (by decide +kernel)) (codeAny_builtin F.entry_type_call ?_))
 rw[Around.under_plain (weight_type_call_type "set" [a] []) rfl]
 repeat any_goals first | wp_step | assumption
 have made:=code_set_new_1 (prog:=P) (w:=w) (A:=A.in1) (E:=E) (s:=s) a (Q₁:=λo z=>∃b,o=.ref s.heap.objs.size/\z=Ie s b) λb=>⟨b,rfl,rfl⟩
 refine codeAny_mono made λr z hz=>?_
 rcases r with (_ | f)
 ·exact hz
 cases f with
 | ret o =>
  obtain⟨b,rfl,rfl⟩:=hz;have ty:Shared.TypeIs (Ie s b) (.ref s.heap.objs.size) "set" := ⟨_,Up s b,rfl⟩;have f6:=tc.init.lookup;have f7:=tc.init.bind (.ref s.heap.objs.size)
  repeat any_goals first | wp_step | assumption
  refine codeAny_mono (codeAny_call_builtin (R:=wants (λr z=>r=.none/\Z z) E) tc.init.plain F.entry_set_init (check_set_init_1 (a:=a) ty (body b))) λr z hz=>?_
  rcases r with (_ | f)
  ·exact hz
  cases f with
  | ret o =>
   obtain⟨rfl,hz⟩:=hz
   repeat any_goals first | wp_step | assumption
   exact hZ _ hz
  | _=>exact hz.elim
 | _=>exact hz.elim
theorem Af5 {a:List Value} (g:A.handled=none) (hl:s.heap.IsList l a.toArray)
 (is:∀(i:Nat) (v:Value),a[i]?=some v->∃k,ks[i]?=some k/\Mh k v=true/\v.scannable=true) (hlen:ks.length=a.length) (few:a.length+1<scanBound)
 (fin:∀d tk,Vv P w s.heap.objs.size (dst ks) d->(∀b o,s.heap.get? b=some o->d.get? b=some o)->Q (.ref s.heap.objs.size) { s with heap:=d,toks:=tk }) :
 wpAny (model P w) A (call (.type "set") [.ref l]) Q E s:=by
 refine A2x (λz=>∃d tk,z={ s with heap:=d,toks:=tk }/\Vv P w s.heap.objs.size (dst ks) d/\∀b o,s.heap.get? b=some o->d.get? b=some o) ?_ λc=>?_
 ·rintro z ⟨d,tk,rfl,q1,q2⟩
  exact fin d tk q1 q2
 have here:=Up s c;have hl2:(Ie s c).heap.IsList l a.toArray:=hl.push _;obtain⟨ob,g1,g2,n,g3⟩:=hl2;obtain⟨_,dct,_,sls⟩:=ob
 dsimp only at g2 g3
 subst g2 g3;have w1:=F.sub_list_set;have w2:=F.sub_list_frozenset
 have w3:(Value.type "list" == Value.type "dict")=false:=by decide
 have hl3:(Ie s c).heap.IsList l a.toArray:=⟨_,g1,rfl,n,rfl⟩;unfold Builtin.«set.__init__» Builtin.Frozenset.updateFrom noKeywords;generalize walk:pyIter=itr
 wp_walk
 subst walk;apply wpAny_pyIter_list hl3;apply wpAny_bind;apply wpAny_runValue
 have lt:l<s.heap.objs.size:=by obtain⟨o,e,_⟩:=hl;exact Heap.lt_size e
 have sz:(Ie s c).heap.objs.size=s.heap.objs.size+1:=Heap.size_push _ _
 have f:A.in1.in1.in1.handled=none:=by simp[g]
 have apart:l≠(Ie s c).heap.objs.size:=by rw[sz];exact Nat.ne_of_lt (Nat.lt_succ_of_lt lt)
 have wk:=(Walks.list (prog:=P) (w:=w) f _ l apart a.toArray).toS
 refine fill wk (S:=s.heap.objs.size) ?_ ks (by simpa using hlen) (λi v p=>is i v (by simpa using p)) (by simpa using few) _ ?_ a.length 0 _ (by simp) ⟨⟨_,Heap.get?_push_size _ rfl,rfl,rfl⟩,hl3.push _⟩ (Moved.refl wk.grefl) ?_
 ·rw[sz]
  intro q
  rcases List.mem_cons.mp q with q | q
  ·exact Nat.ne_of_lt (Nat.lt_succ_self _) q
  ·exact Nat.ne_of_gt lt (List.mem_singleton.mp q)
 ·intro z mv sh
  obtain⟨d,g',d',t',o'⟩:=z;have e1:g'=s.gens:=mv.gens;have e2:d'=s.drawn:=mv.drawn;have e3:o'=s.os:=mv.os;subst e1 e2 e3;apply wpAny_pure
  show wpAny _ _ (ret Value.none) _ _ _
  refine wpAny_pure ⟨rfl,d,t',rfl,sh,λb o q=>mv.heap b o ?_ (Heap.get?_push_of_some _ (Heap.get?_push_of_some _ q))⟩
  have bl:=Heap.lt_size q;intro m
  rcases List.mem_cons.mp m with m | m
  ·exact Nat.ne_of_lt bl m
  ·have m:=List.mem_singleton.mp m
   rw[sz]at m;exact Nat.ne_of_lt (Nat.lt_succ_of_lt bl) m
 ·have new:((Ie s c).heap.push { cls:=.type "list_iterator",data:=.fields #[.ref l,.int 0 0] }).get? s.heap.objs.size=some (bare c):=Heap.get?_push_of_some _ here
  have e:Ls ([]:List Key)=λ_=>false:=rfl
  show Heap.SetOf (Dl P w) _ _ (Ls []) 0
  rw[e]
  exact⟨_,_,_,_,new,⟨rfl,rfl,rfl⟩,rfl,λx m=>by simp at m,λk=>by simp,by decide,by cases c <;> rfl,rfl⟩
end
section
variable {X:Cx}
def V4 (P:Program)(w:World)(K:PySem.W.Frag):List V->Hp->VK->Prop:=λxs H Q=>∃(a:Addr) (vs:List V) (ks:List Key),xs=[.ref a]/\SqL K H a vs/\vs.map keyV=ks.map some/\vs.length<1000/\∀p,H p=none->Q (.ref p) (upd H p (A8y P w p (dst ks)))
def Px (P:Program)(w:World):List V->Hp->VK->Prop:=λxs H Q=>∃(p:Addr) (ks:List Key),xs=[.ref p]/\H p=some (A8y P w p ks)/\ks.length<1000/\Q (.int (ks.length:Nat)) H
theorem Au6 (hc:X.calm=true):zE X (.type "set") (V4 X.prog X.w X.K):=by
 intro l s σ H xs us Q I r h;obtain⟨a,d,b,rfl,B,p,hv,q⟩:=h;obtain⟨u,rfl,f⟩:=vals1 r
 cases (show u=Value.ref a from f)
 obtain⟨D,c,t,hz⟩:=I.list B
 have j:b.length=d.length:=by have:=congrArg List.length p;simpa using this.symm
 refine Af5 (ks:=b) (I.ok.hd hc) t.isList (λi v e=>?_) (by rw[j,c.length]) (by rw[<- c.length];unfold scanBound;omega) λh' tk m A=>?_
 ·have w:i<d.length:=by have:=(List.getElem?_eq_some_iff.mp e).1;rw[c.length];exact this
  have g:i<b.length:=by omega
  obtain⟨u,n,f⟩:=c.get (i:=i) (x:=d[i]) (by simp[w])
  rw[e]at n
  cases n
  have C:keyV d[i]=some b[i]:=by
   have:=congrArg (λz=>z[i]?) p
   grind
  exact⟨b[i],by simp[g],A8b C f⟩
 ·have k:z8 X.prog X.w (upd H s.heap.objs.size (A8y X.prog X.w s.heap.objs.size (dst b))) _ _ (A8y _ _ _ _) :=
   ⟨m,let ⟨o,_,_,_,e,_⟩:=m; ⟨o,e⟩,λh1 h2 x y=>Qu x y⟩
  exact⟨.ref _,_,I.laid A (Nat.le_refl _) k,rfl,q _ (I.hok.fresh (Nat.le_refl _))⟩
theorem Ad0:zE X (.builtin "len") (Px X.prog X.w):=by
 intro a s σ H xs us Q I r h;obtain⟨p,ks,rfl,d,hn,q⟩:=h;obtain⟨u,rfl,f⟩:=vals1 r
 cases (f)
 obtain⟨⟨o,es,ep,t,e,c,g,x3,x4,x5,i,b⟩,_⟩:=I.hok p _ d
 refine call_len_set e c g i (by omega) ?_
 rw[b];exact⟨.int _,H,I.tok _ |>.tok _,⟨_,rfl⟩,q⟩
theorem Au9 (hc:X.calm=true) (hgs:Gl X "set") (hms:X.mg "set" = none) (hgl:Gl X "len") (hml:X.mg "len" = none) (he:PE X e c) (hns:isStar e=false:=by rfl) :
 PE X (.Call (.Name "len" p) [.Call (.Name "set" d) [e] [] a] [] b) (tCB (Px X.prog X.w) (Ec (tCB (V4 X.prog X.w X.K) (Ec c Hb)) Hb)) :=
 Ga Ad0 hgl hml A5h (A6n (Km (Au6 hc) hgs hms Bd9 (A6n he Te hns) (by decide) (by rfl) (by show !isStar e&&true=true;grind)) Te rfl) (by decide) (by rfl) rfl
end
section
variable {P:Program}{w:World}{A:Around}{E:Value->Shared->Prop}{s:Shared}
theorem Q6 (a:s.heap.IsTupleIter j u k)
 (body:wpAny (model P w) A.in1 (Builtin.«tuple_iterator.__next__» ⟨[.ref j],[]⟩) (λf z=>∃v,f=.done (.ret v)/\Q v z) E s) :
 wpAny (model P w) A (Builtin.SmallTypes.nextOf (.ref j)) Q E s:=by
 apply wpAny_bind
 refine wpAny_callSpecial?_slot a.typeIs F.slot_tuple_iterator_next ?_
 refine wpAny_call_entry F.slot_tuple_iterator_next a.typeIs F.entry_tuple_iterator_next ?_ (F.args_tuple_iterator_next_1 _)
 refine wpAny_mono body (λf z c=>?_) λ_ _ q=>q
 obtain⟨v,b,q⟩:=c;exact⟨v,b,wpAny_pure q⟩
theorem Af7 (c:s.heap.IsTupleIter j u k) (g:s.heap.IsTuple u vs) (hx:vs[k]?=some x)
 (q:∀h',h'.IsTupleIter j u (k+1)->Heap.SameBut j s.heap h'->Q x { s with heap:=h' }):wpAny (model P w) A (Builtin.SmallTypes.nextOf (.ref j)) Q E s:=by
 refine Q6 c ?_
 obtain⟨o,d,f,b⟩:=c;obtain⟨i,h,_,n,e⟩:=g;apply wpAny_bind (m:=field _ 0);apply wpAny_field d b rfl;apply wpAny_bind ;apply wpAny_field d b rfl;apply wpAny_bind ;apply wpAny_seqItems h e;simp only[hx,Int.toNat_natCast];apply wpAny_bind
 apply wpAny_setField d b (by simp)
 apply wpAny_pure
 refine⟨x,rfl,q _ ⟨_,(Heap.get?_update_self (Obj.mapFields λa=>a.setIfInBounds 1 (rawInt (k+1))) d (Obj.isFreed_of_fields (Obj.data_mapFields b _))),(Obj.cls_mapFields ..).trans f,?_⟩ (Heap.SameBut.update ..)⟩
 rw[Obj.data_mapFields b]
 trivial
theorem Ay9 (c:A.handled=none) (d:s.heap.IsTupleIter j u k) (h:s.heap.IsTuple u vs) (hx:vs[k]?=none)
 (q:∀h' e,Heap.ExtBut j s.heap h'->(∃o,h'.get? e=some o/\o.cls=.type "StopIteration")->E (.ref e) { s with heap:=h' }):wpAny (model P w) A (Builtin.SmallTypes.nextOf (.ref j)) Q E s:=by
 refine Q6 d ?_
 obtain⟨o,f,r,g⟩:=d;obtain⟨t,i,_,n,l⟩:=h;apply wpAny_bind (m:=field (.ref j) 0);apply wpAny_field f g (x:=.ref u) rfl;have p:¬ ((Value.ref u==Value.none)=true):=Bool.false_ne_true
 show wpAny _ _ (if (Value.ref u==.none)=true then _ else _) _ _ _
 rw[if_neg p];apply wpAny_bind (m:=field (.ref j) 1);apply wpAny_field f g (x:=.int k 0) rfl;apply wpAny_bind (m:=seqItems? (.ref u));apply wpAny_seqItems i l;simp only[hx,Int.toNat_natCast];apply wpAny_bind;apply wpAny_rule;apply wpAny_bind
 apply wpAny_setField f g (by simp)
 apply wpAny_bind (m:=newExc (.type "StopIteration") []);unfold newExc newTuple;apply wpAny_bind
 refine wpAny_newObj_type ?_ (by size_fits )
 apply wpAny_bind (m:=firstArgMember _ _)
 refine wpAny_of_eq (a:=Value.none) (by simp only[firstArgMember];rfl) ?_
 refine wpAny_newObj_type ?_ (by size_fits )
 unfold raiseNew;apply wpAny_bind;apply wpAny_handled;have b:A.in1.handled=none:=c;rw[b]
 refine wpAny_bind (wpAny_pure ?_)
 apply wpAny_throw;exact q _ _ (((Heap.SameBut.update ..).extBut.push _).push _) ⟨_,Heap.get?_push_size _ rfl,rfl⟩
def ItAt (t:Bool)(h:Heap)(j u:Addr)(k:Nat):Prop:=match t with
 | true=>h.IsTupleIter j u k
 | false=>h.IsListIter j u k
def SqA (t:Bool)(h:Heap)(u:Addr)(vs:Array Value):Prop:=match t with
 | true=>h.IsTuple u vs
 | false=>h.IsList u vs
theorem ItAt.stay (x:ItAt t h j u k) (q:∀o,h.get? j=some o->h'.get? j=some o):ItAt t h' j u k:=by
 cases t <;> (obtain⟨o,e,r⟩:=x;exact⟨o,q o e,r⟩)
theorem ItAt.obj (x:ItAt t h j u k):∃o,h.get? j=some o/\o.data=.fields #[.ref u,.int k 0]:=by
 cases t <;> (obtain⟨o,e,_,r⟩:=x;grind)
theorem SqA.stay (x:SqA t h u vs) (q:∀o,h.get? u=some o->h'.get? u=some o):SqA t h' u vs:=by
 cases t <;> (obtain⟨o,e,r⟩:=x;exact⟨o,q o e,r⟩)
theorem next_item (a:ItAt t s.heap j u k) (b:SqA t s.heap u vs) (hx:vs[k]?=some x)
 (q:∀h',ItAt t h' j u (k+1)->Heap.SameBut j s.heap h'->Q x { s with heap:=h' }):wpAny (model P w) A (Builtin.SmallTypes.nextOf (.ref j)) Q E s:=by
 cases t
 ·exact wpAny_nextOf_list_item a b hx q
 ·exact Af7 a b hx q
theorem next_end (c:A.handled=none) (a:ItAt t s.heap j u k) (b:SqA t s.heap u vs) (hx:vs[k]?=none)
 (q:∀h' e,Heap.ExtBut j s.heap h'->(∃o,h'.get? e=some o/\o.cls=.type "StopIteration")->E (.ref e) { s with heap:=h' }):wpAny (model P w) A (Builtin.SmallTypes.nextOf (.ref j)) Q E s:=by
 cases t
 ·exact wpAny_nextOf_list_end c a b hx q
 ·exact Ay9 c a b hx q
structure Zo (h:Heap) (t1 t2:Bool) (z ti to i1 i2 a b:Addr) (f0:Value) (k:Nat):Prop where
 zip:IsZip h z ti to f0
 ins:IsPair h ti (.ref i1) (.ref i2)
 outs:∃u v,IsPair h to u v
 one:ItAt t1 h i1 a k
 two:ItAt t2 h i2 b k
structure zB (z ti to i1 i2 a b:Addr):Prop where
 nd:[z,ti,to,i1,i2].Nodup
 na:a∉[z,ti,to,i1,i2]
 nb:b∉[z,ti,to,i1,i2]
theorem zB.z_ti (x:zB z ti to i1 i2 a b):ti≠z:=by have:=x.nd;grind
theorem zB.z_to (x:zB z ti to i1 i2 a b):to≠z:=by have:=x.nd;grind
theorem zB.z_i1 (x:zB z ti to i1 i2 a b):i1≠z:=by have:=x.nd;grind
theorem zB.z_i2 (x:zB z ti to i1 i2 a b):i2≠z:=by have:=x.nd;grind
theorem zB.to_i1 (x:zB z ti to i1 i2 a b):to≠i1:=by have:=x.nd;simp_all
theorem zB.to_i2 (x:zB z ti to i1 i2 a b):to≠i2:=by have:=x.nd;simp_all
theorem zB.i1_i2 (x:zB z ti to i1 i2 a b):i1≠i2:=by have:=x.nd;simp_all
theorem zB.ti_to (x:zB z ti to i1 i2 a b):ti≠to:=by have:=x.nd;simp_all
theorem zB.ti_i1 (x:zB z ti to i1 i2 a b):ti≠i1:=by have:=x.nd;simp_all
theorem zB.ti_i2 (x:zB z ti to i1 i2 a b):ti≠i2:=by have:=x.nd;simp_all
theorem A2n {Q:Value->Shared->Prop}(d:zB z j h r t a b) (y:Zo s.heap t1 t2 z j h r t a b .none k)
 (ha:SqA t1 s.heap a xs) (hb:SqA t2 s.heap b ys) (hx:xs[k]?=some x) (O:ys[k]?=some x')
 (q:∀h',Zo h' t1 t2 z j h r t a b (rawInt s.heap.objs.size) (k+1)->IsPair h' s.heap.objs.size x x'->(∀c o,c∉[z,j,h,r,t]->s.heap.get? c=some o->h'.get? c=some o)->Q (.ref s.heap.objs.size) { s with heap:=h' }) :
 wpAny (model P w) A (Builtin.«zip.__next__» ⟨[.ref z],[]⟩) (λf z=>∃v,f=.done (.ret v)/\Q v z) E s:=by
 obtain⟨u0,N,o0⟩:=y.outs;have S:=d.na;have I:=d.nb;simp only[List.mem_cons,List.not_mem_nil,or_false,not_or]at S I;apply wpAny_bind (m:=field (.ref z) 2);apply wpAny_field y.zip rfl (x:=.bool false) rfl;apply wpAny_bind (m:=field (.ref z) 3);apply wpAny_field y.zip rfl (x:=.ref j) rfl;apply wpAny_bind;apply wpAny_seqItems y.ins rfl;apply wpAny_bind (m:=Builtin.SmallTypes.ownedTupleIsFree (.ref z));unfold Builtin.SmallTypes.ownedTupleIsFree;apply wpAny_bind;apply wpAny_field y.zip rfl (x:=.none) rfl;apply wpAny_pure;simp only[if_true];apply wpAny_bind;apply wpAny_rule;apply wpAny_bind;apply wpAny_field y.zip rfl (x:=.ref h) rfl;apply wpAny_bind
 apply wpAny_setField_rec y.zip (by simp)
 intro g1 L n;have L:IsZip g1 z j h .ellipsis:=L;apply wpAny_bind;simp only[List.zipIdx_cons,List.zipIdx_nil,List.forIn_cons,List.forIn_nil];apply wpAny_bind;apply wpAny_bind;apply wpAny_onRaise;apply wpAny_bind (m:=Builtin.SmallTypes.nextOf (.ref r))
 refine next_item (y.one.stay λo e=>n.extBut _ _ d.z_i1 e) (ha.stay λo e=>n.extBut _ _ S.1 e) hx λg2 n1 u=>?_
 apply wpAny_pure;have V:IsPair g2 h u0 N:=u.extBut _ _ d.to_i1 (n.extBut _ _ d.z_to o0);apply wpAny_bind;apply wpAny_seqItems V rfl;apply wpAny_bind;apply wpAny_updateSeq_pair V;intro g3 R B;have R:IsPair g3 h x N:=R;apply wpAny_bind;apply wpAny_letGo;apply wpAny_pure;apply wpAny_bind;apply wpAny_bind;apply wpAny_onRaise;apply wpAny_bind (m:=Builtin.SmallTypes.nextOf (.ref t))
 refine next_item (y.two.stay λo e=>B.extBut _ _ d.to_i2.symm (u.extBut _ _ d.i1_i2.symm (n.extBut _ _ d.z_i2 e))) (hb.stay λo e=>B.extBut _ _ I.2.2.1 (u.extBut _ _ I.2.2.2.1 (n.extBut _ _ I.1 e))) O λg4 n2 D=>?_
 apply wpAny_pure;have U:IsPair g4 h x N:=D.extBut _ _ d.to_i2 R;apply wpAny_bind;apply wpAny_seqItems U rfl;apply wpAny_bind;apply wpAny_updateSeq_pair U;intro i K F;have K:IsPair i h x x':=K;apply wpAny_bind;apply wpAny_letGo;apply wpAny_pure;apply wpAny_pure;apply wpAny_bind;apply wpAny_seqItems K rfl;apply wpAny_bind
 refine wpAny_newTuple ?_
 have W:i.objs.size=s.heap.objs.size:=by rw[F.1,D.1,B.1,u.1,n.1]
 have l:∀c o,c≠z->c≠h->c≠r->c≠t->s.heap.get? c=some o->i.get? c=some o:=λc o p1 T p3 p4 e=>F.extBut _ _ T (D.extBut _ _ p4 (B.extBut _ _ T (u.extBut _ _ p3 (n.extBut _ _ p1 e))))
 have Y:IsZip i z j h .ellipsis:=F.extBut _ _ d.z_to.symm (D.extBut _ _ d.z_i2.symm (B.extBut _ _ d.z_to.symm (u.extBut _ _ d.z_i1.symm L)))
 have m1:ItAt t1 i r a (k+1):=n1.stay λo e=>F.extBut _ _ d.to_i1.symm (D.extBut _ _ d.i1_i2 (B.extBut _ _ d.to_i1.symm e))
 have m2:ItAt t2 i t b (k+1):=n2.stay λo e=>F.extBut _ _ d.to_i2.symm e
 apply wpAny_bind (m:=Builtin.SmallTypes.ownedTupleHandOut (.ref z) (.ref i.objs.size));unfold Builtin.SmallTypes.ownedTupleHandOut;have z6:IsZip (i.push { cls:=.type "tuple",data:=.seq #[x,x'] }) z j h .ellipsis:=Heap.get?_push_of_some _ Y;apply wpAny_bind
 apply wpAny_setField_rec z6 (by simp)
 intro g7 M X;have M:IsZip g7 z j h (rawInt i.objs.size):=M
 apply wpAny_setField_rec M (by simp)
 intro H J Z;have J:IsZip H z j h (rawInt i.objs.size):=J
 have g:∀c o,c≠z->i.get? c=some o->H.get? c=some o:=λc o p e=>Z.extBut _ _ p (X.extBut _ _ p (Heap.get?_push_of_some _ e))
 have G:z<i.objs.size:=Heap.lt_size Y;have C:IsPair H i.objs.size x x':=Z.extBut _ _ (Nat.ne_of_gt G) (X.extBut _ _ (Nat.ne_of_gt G) (Heap.get?_push_size _ rfl));rw[W]at J C;apply wpAny_pure
 refine⟨_,rfl,?_⟩
 show Q (.ref i.objs.size) _
 rw[W]
 refine q H ⟨J,g _ _ d.z_ti (l _ _ d.z_ti d.ti_to d.ti_i1 d.ti_i2 y.ins),⟨x,x',g _ _ d.z_to K⟩,m1.stay λo e=>g _ _ d.z_i1 e,m2.stay λo e=>g _ _ d.z_i2 e⟩ C λc o p e=>?_
 simp at p
 exact g c o p.1 (l c o p.1 p.2.2.1 p.2.2.2.1 p.2.2.2.2 e)
theorem A4k (f:A.handled=none) (d:zB z l j v C a b) (y:Zo s.heap t1 t2 z l j v C a b .none k)
 (ha:SqA t1 s.heap a xs) (hb:SqA t2 s.heap b ys) (hx:xs[k]?=none\/ys[k]?=none)
 (q:∀h' e,(∀c o,c∉[z,l,j,v,C]->s.heap.get? c=some o->h'.get? c=some o)->(∃o,h'.get? e=some o/\o.cls=.type "StopIteration")->E (.ref e) { s with heap:=h' }) :
 wpAny (model P w) A (Builtin.«zip.__next__» ⟨[.ref z],[]⟩) F E s:=by
 obtain⟨T,V,S⟩:=y.outs;have I:=d.na;have B:=d.nb;simp only[List.mem_cons,List.not_mem_nil,or_false,not_or]at I B;apply wpAny_bind (m:=field (.ref z) 2);apply wpAny_field y.zip rfl (x:=.bool false) rfl;apply wpAny_bind (m:=field (.ref z) 3);apply wpAny_field y.zip rfl (x:=.ref l) rfl;apply wpAny_bind;apply wpAny_seqItems y.ins rfl;apply wpAny_bind (m:=Builtin.SmallTypes.ownedTupleIsFree (.ref z));unfold Builtin.SmallTypes.ownedTupleIsFree;apply wpAny_bind;apply wpAny_field y.zip rfl (x:=.none) rfl;apply wpAny_pure;simp only[if_true];apply wpAny_bind;apply wpAny_rule;apply wpAny_bind;apply wpAny_field y.zip rfl (x:=.ref j) rfl;apply wpAny_bind
 apply wpAny_setField_rec y.zip (by simp)
 intro U u g;have u:IsZip U z l j .ellipsis:=u;apply wpAny_bind;simp only[List.zipIdx_cons,List.zipIdx_nil,List.forIn_cons,List.forIn_nil];apply wpAny_bind;apply wpAny_bind;apply wpAny_onRaise;apply wpAny_bind (m:=Builtin.SmallTypes.nextOf (.ref v))
 cases e1:xs[k]? with
 | none =>
  refine next_end f (y.one.stay λo e=>g.extBut _ _ d.z_i1 e) (ha.stay λo e=>g.extBut _ _ I.1 e) e1 λH x i K=>?_
  obtain⟨D,r,t⟩:=K;have Q:IsZip H z l j .ellipsis:=i _ _ d.z_i1.symm u
  have G:x≠z:=λe=>by subst e;rw[Q]at r;cases r;simp at t
  apply wpAny_setField_rec Q (by simp)
  intro N _ n
  refine q N x (λc o p e=>?_) ⟨D,n.extBut _ _ G r,t⟩
  simp only[List.mem_cons,List.not_mem_nil,or_false,not_or]at p;exact n.extBut _ _ p.1 (i _ _ p.2.2.2.1 (g.extBut _ _ p.1 e))
 | some x =>
  have Y:ys[k]?=none:=by
   rcases hx with h | h
   ·rw[e1]at h;cases h
   ·exact h
  refine next_item (y.one.stay λo e=>g.extBut _ _ d.z_i1 e) (ha.stay λo e=>g.extBut _ _ I.1 e) e1 λH n1 i=>?_
  apply wpAny_pure;have O:IsPair H j T V:=i.extBut _ _ d.to_i1 (g.extBut _ _ d.z_to S);apply wpAny_bind;apply wpAny_seqItems O rfl;apply wpAny_bind;apply wpAny_updateSeq_pair O;intro N Z n;apply wpAny_bind;apply wpAny_letGo;apply wpAny_pure;apply wpAny_bind;apply wpAny_bind;apply wpAny_onRaise;apply wpAny_bind (m:=Builtin.SmallTypes.nextOf (.ref C))
  refine next_end f (y.two.stay λo e=>n.extBut _ _ d.to_i2.symm (i.extBut _ _ d.i1_i2.symm (g.extBut _ _ d.z_i2 e))) (hb.stay λo e=>n.extBut _ _ B.2.2.1 (i.extBut _ _ B.2.2.2.1 (g.extBut _ _ B.1 e))) Y λW x M J=>?_
  obtain⟨D,r,t⟩:=J;have R:IsZip W z l j .ellipsis:=M _ _ d.z_i2.symm (n.extBut _ _ d.z_to.symm (i.extBut _ _ d.z_i1.symm u))
  have G:x≠z:=λe=>by subst e;rw[R]at r;cases r;simp at t
  apply wpAny_setField_rec R (by simp)
  intro X _ L
  refine q X x (λc o p e=>?_) ⟨D,L.extBut _ _ G r,t⟩
  simp only[List.mem_cons,List.not_mem_nil,or_false,not_or]at p;exact L.extBut _ _ p.1 (M _ _ p.2.2.2.2 (n.extBut _ _ p.2.2.1 (i.extBut _ _ p.2.2.2.1 (g.extBut _ _ p.1 e))))
end
section
variable {X:Cx}{pins:List (Addr×Obj)}{σ:St}{H:Hp}{s:Shared}{h':Heap}
theorem Inv.turnLay {ch:List Addr}{p:Addr}{o:HO}{t':Nat}(I:Inv X pins σ H s)(hf:∀b∈ch,Rv X pins H b)(k:∀b u,b∉ch->s.heap.get? b=some u->h'.get? b=some u)(hp:s.heap.objs.size<=p)(w:z8 X.prog X.w (upd H p o) h' p o) :
 Inv X pins σ (upd H p o) { s with heap:=h',toks:=t' }:=by
 have g:H p=none:=I.hok.fresh hp
 have t:∀b u,H b=some u->b∉ch:=λb u e z=>by rw[(hf b z).1]at e;grind
 have d:∀b u,H b=some u->b≠p:=λb u e=>Bl e g
 have h:∀b u,s.heap.get? b=some u->b≠p:=λb u e z=>absurd (Heap.lt_size e) (by simp_all)
 refine I.step (g':=s.gens) (d':=s.drawn) (ch:=ch) (λb f=>?_) (λb u _ _ a e _=>k b u a e) (λb u _ _ a e _=>⟨u.slots,k b u a e⟩) (λb u _ e n=>?_) (λb u a e=>⟨u,k b u a e⟩)
  (λb i e=>?_) (λb o u e=>?_) (λb B e=>?_) (λm x=>?_) (λb u e=>?_) I.bare
 ·obtain⟨F,G,J,C,D,E⟩:=hf b f
  grind
 ·rw[Ar (h b u e)];grind
 ·rw[Ar (d b _ e)];grind
 ·rw[Ar (d b _ e)];omega
 ·rw[Ar (d b _ e)];grind
 ·obtain⟨j,y,A,l,r⟩:=x
  exact⟨j,y,A,k _ _ (λz=>(hf _ z).2.1 rfl) l,r⟩
 ·by_cases f:b=p
  ·subst f;rw[Bw]at e;grind
  ·rw[Ar f]at e
   refine (I.hok b u e).stay (λc v a q=>k c v ?_ q) λc q=>by rw[Ar (d c _ q)];grind λc i q=>by rw[Ar (d c _ q)];grind λc j i q=>by rw[Ar (d c _ q)];grind
   grind
theorem Inv.turnL {ch:List Addr}{t':Nat}(I:Inv X pins σ H s)(hf:∀b∈ch,Rv X pins H b)(k:∀b u,b∉ch->s.heap.get? b=some u->h'.get? b=some u):Inv X pins σ H { s with heap:=h',toks:=t' }:=by
 have g:∀b u,H b=some u->b∉ch:=λb u e z=>by rw[(hf b z).1]at e;grind
 refine I.step (λb f=>?_) (λb u _ _ a e _=>k b u a e) (λb u _ _ a e _=>⟨u.slots,k b u a e⟩) (λb u _ e n=>n) (λb u a e=>⟨u,k b u a e⟩)
  (λb i e=>e) (λb o u e=>e) (λb t e=>e) (λm j=>?_) (λb u e=>?_) I.bare
 ·obtain⟨A,B,C,w,x,y⟩:=hf b f
  grind
 ·obtain⟨h,l,p,d,r⟩:=j
  exact⟨h,l,p,k _ _ (λz=>(hf _ z).2.1 rfl) d,r⟩
 ·refine (I.hok b u e).stay (λc v a q=>k c v ?_ q) (λc q=>q) λc i q=>q
  grind
end
def SqK (t:Bool)(H:Hp)(a:Addr)(xs:List V):Prop:=match t with
 | true=>H a=some (.tup xs)
 | false=>H a=some (.lst xs)
theorem SqK.one (x:SqK t H a xs) (y:SqK t H a ys):xs=ys:=by
 cases t
 ·have y:H a=some _:=y
  rw[x]at y;cases y;rfl
 ·have y:H a=some _:=y
  rw[x]at y;cases y;rfl
theorem SqK.some (x:SqK t H a xs):∃o,H a=some o:=by
 cases t
 ·exact⟨_,x⟩
 ·exact⟨_,x⟩
theorem SqK.its (I:Inv X pins d H s) (x:SqK t H a xs):∃b:List Value,Vals xs b/\SqA t s.heap a b.toArray:=by
 cases t
 ·obtain⟨b,c,p,_⟩:=I.list (SqL.of x)
  exact⟨b,c,p.isList⟩
 ·obtain⟨b,c,p,_⟩:=I.tuple (SqT.of x)
  exact⟨b,c,(show s.heap.IsTuple a _ from p)⟩
def Itz (t1 t2:Bool)(a b:Addr):It :=
 ⟨
  λi H=>∃xs ys x y,SqK t1 H a xs/\SqK t2 H b ys/\xs[i]?=some x/\ys[i]?=some y,
  λi H v H'=>∃p x y,v=.ref p/\H p=none/\H'=upd H p (.tup [x,y])/\(∀xs,SqK t1 H a xs->xs[i]?=some x)/\∀ys,SqK t2 H b ys->ys[i]?=some y,
  λi H=>∃xs ys,SqK t1 H a xs/\SqK t2 H b ys/\(xs.length<=i\/ys.length<=i)⟩
theorem A3g {P:Program}{w:World}{K:PySem.W.Frag}{t1 t2:Bool}{elts:List Expr}{kk:Nat}{pos:Pos}{z ti to i1 i2 a b:Addr}(nd:[z,ti,to,i1,i2].Nodup) :
 Turn P w K (.Tuple elts kk pos) (Itz t1 t2 a b) [z,ti,to,i1,i2] z (λi h=>Zo h t1 t2 z ti to i1 i2 a b .none i) where
 mem:=by simp
 obj:=λi h st c hc=>by
  simp only[List.mem_cons,List.not_mem_nil,or_false]at hc
  rcases hc with rfl | rfl | rfl | rfl | rfl
  ·exact⟨_,st.zip,λv e=>by cases e⟩
  ·exact⟨_,st.ins,λv e=>by cases e⟩
  ·obtain⟨u,v,e⟩:=st.outs;exact⟨_,e,λv e=>by cases e⟩
  ·obtain⟨o,e,q⟩:=st.one.obj;exact⟨o,e,λv e=>by rw[q]at e;cases e⟩
  ·obtain⟨o,e,q⟩:=st.two.obj;exact⟨o,e,λv e=>by rw[q]at e;cases e⟩
 keep:=λi h h' st k=>by
  obtain⟨u,v,e⟩:=st.outs
  exact⟨k z (by simp) _ st.zip,k ti (by simp) _ st.ins,⟨u,v,k to (by simp) _ e⟩,st.one.stay λo e=>k i1 (by simp) o e,st.two.stay λo e=>k i2 (by simp) o e⟩
 item:=by
  intro X hP hw hK hc i pins s σ H E I hf st hg;subst hP hw hK;obtain⟨xs,ys,x,y,ha,hb,hx,hy⟩:=hg;obtain⟨its,rv,pa⟩:=ha.its I;obtain⟨jts,rw',pb⟩:=hb.its I;obtain⟨u,hu,ru⟩:=rv.get hx;obtain⟨v,hv,rv'⟩:=rw'.get hy
  have off:zB z ti to i1 i2 a b:=⟨nd,λm=>by (obtain⟨o,e⟩:=ha.some;rw[(hf a m).1]at e;cases e),λm=>by (obtain⟨o,e⟩:=hb.some;rw[(hf b m).1]at e;cases e)⟩
  have ty:s.TypeIs (.ref z) "zip" := ⟨_,st.zip,rfl⟩;unfold pyNext;apply wpAny_bind;apply wpAny_attempt
  refine wpAny_callSpecial?_slot (name:="__next__") ty F.slot_zip_next ?_
  refine wpAny_call_entry F.slot_zip_next ty F.entry_zip_next ?_ (F.args_zip_next_1 _)
  refine A2n off st pa pb (x:=u) (x':=v) (by simpa using hu) (by simpa using hv) λh1 z1 new kp=>?_
  refine wpAny_pure ⟨_,rfl,?_⟩
  apply wpAny_letOwnedTupleGo_zip z1.zip;intro h2 z2 sb;have nz:s.heap.objs.size≠z:=Nat.ne_of_gt (Heap.lt_size st.zip);have new2:IsPair h2 s.heap.objs.size u v:=sb.extBut _ _ nz new
  have ok:z8 X.prog X.w (upd H s.heap.objs.size (.tup [x,y])) h2 s.heap.objs.size (.tup [x,y]):=⟨(show 2<=sizeLine by decide),[u,v],.cons ru (.cons rv' .nil),⟨_,new2,rfl,⟨_,rfl⟩,rfl⟩⟩
  have I2:=I.turnLay (t':=s.toks) hf (h':=h2) (λc o m e=>sb.extBut _ _ (λe=>m (by simp[e])) (kp c o m e)) (Nat.le_refl _) ok
  obtain⟨u1,v1,e1⟩:=z1.outs;have zf:H s.heap.objs.size=none:=I.hok.fresh (Nat.le_refl _)
  refine⟨.ref s.heap.objs.size,_,I2,rfl,⟨_,x,y,rfl,zf,rfl,λxs' h=>?_,λys' h=>?_⟩,?_,λc hc=>?_⟩
  ·rw[h.one ha];exact hx
  ·rw[h.one hb];exact hy
  ·exact⟨z2,sb.extBut _ _ off.z_ti z1.ins,⟨u1,v1,sb.extBut _ _ off.z_to e1⟩,z1.one.stay λo e=>sb.extBut _ _ off.z_i1 e,z1.two.stay λo e=>sb.extBut _ _ off.z_i2 e⟩
  ·have lt:c<s.heap.objs.size:=by
    simp only[List.mem_cons,List.not_mem_nil,or_false]at hc
    rcases hc with rfl | rfl | rfl | rfl | rfl
    ·exact Heap.lt_size st.zip
    ·exact Heap.lt_size st.ins
    ·obtain⟨_,_,e⟩:=st.outs;exact Heap.lt_size e
    ·obtain⟨o,e,q⟩:=st.one.obj;exact Heap.lt_size e
    ·obtain⟨o,e,q⟩:=st.two.obj;exact Heap.lt_size e
   rw[Ar (Nat.ne_of_lt lt)];exact(hf c hc).1
 done:=by
  intro X hP hw hK hc i pins s σ H E I hf st hg;subst hP hw hK;obtain⟨xs,ys,ha,hb,hl⟩:=hg;obtain⟨its,rv,pa⟩:=ha.its I;obtain⟨jts,rw',pb⟩:=hb.its I
  have off:zB z ti to i1 i2 a b:=⟨nd,λm=>by (obtain⟨o,e⟩:=ha.some;rw[(hf a m).1]at e;cases e),λm=>by (obtain⟨o,e⟩:=hb.some;rw[(hf b m).1]at e;cases e)⟩
  have ty:s.TypeIs (.ref z) "zip" := ⟨_,st.zip,rfl⟩;have l1:=rv.length;have l2:=rw'.length;unfold pyNext;apply wpAny_bind;apply wpAny_attempt
  refine wpAny_callSpecial?_slot (name:="__next__") ty F.slot_zip_next ?_
  refine wpAny_call_entry F.slot_zip_next ty F.entry_zip_next ?_ (F.args_zip_next_1 _)
  refine A4k (I.ok.hd hc) off st pa pb (by simp;omega) λh1 e kp he=>?_
  obtain⟨o,e1,e2⟩:=he;apply wpAny_bind
  refine wpAny_isInstance (T := "StopIteration") (b:=true) ⟨o,e1,e2⟩ isSubtype_stop ?_
  exact wpAny_pure ⟨rfl,I.turnL (t':=s.toks) hf λc o m e=>kp c o m e⟩
 self:=λ_ _ _ _ _ st h=>wpAny_pyIter_zip st.zip h
section
variable {P:Program}{w:World}{A:Around}{E:Value->Shared->Prop}{s:Shared}
noncomputable abbrev itO (t:Bool) (u:Addr):Obj:={ cls:=.type (if t then "tuple_iterator" else "list_iterator"),data:=.fields #[.ref u,.int 0 0] }
abbrev zh1 (h:Heap)(t1:Bool)(a:Addr):Heap:=h.push (itO t1 a)
abbrev zh2 (h:Heap)(t1 t2:Bool)(a b:Addr):Heap:=(zh1 h t1 a).push (itO t2 b)
abbrev zh3 (h:Heap)(t1 t2:Bool)(a b:Addr):Heap:=(zh2 h t1 t2 a b).push { cls:=.type "tuple",data:=.seq #[.ref h.objs.size,.ref (zh1 h t1 a).objs.size] }
abbrev zh4 (h:Heap)(t1 t2:Bool)(a b:Addr):Heap:=(zh3 h t1 t2 a b).push { cls:=.type "tuple",data:=.seq #[.none,.none] }
abbrev zh5 (h:Heap)(t1 t2:Bool)(a b:Addr):Heap:=(zh4 h t1 t2 a b).push { cls:=.type "zip",data:=.fields #[.none,.bool false,.bool false,.ref (zh2 h t1 t2 a b).objs.size,.ref (zh3 h t1 t2 a b).objs.size] }
theorem A2h (t1 t2:Bool)(a b:Addr)(xs ys:Array Value) :
 Meets (Builtin.«zip.__new__» ⟨[.type "zip",.ref a,.ref b],[]⟩) (λ_ R s=>SqA t1 s.heap a xs/\SqA t2 s.heap b ys/\R (.ok (.ret (.ref (zh4 s.heap t1 t2 a b).objs.size))) { s with heap:=zh5 s.heap t1 t2 a b }) :=
 .of_wp λP w A R s h=>by
  obtain⟨e,g,d,c,f⟩:=s;obtain⟨k,l,h⟩:=h;have m:=sub_zip
  cases t1 <;> cases t2
  ·have j:Heap.IsList (Shared.heap ⟨e,g,d,c,f⟩) a xs:=k
   have i:Heap.IsList (Shared.heap ⟨e.push { cls:=.type "list_iterator",data:=.fields #[.ref a,.int 0 0] },g,d,c,f⟩) b ys:=Heap.IsList.push l _
   wp_walk using wpAny_pyIter_list j,wpAny_pyIter_list i
   exact⟨_,rfl,h⟩
  ·have j:Heap.IsList (Shared.heap ⟨e,g,d,c,f⟩) a xs:=k
   have i:Heap.IsTuple (Shared.heap ⟨e.push { cls:=.type "list_iterator",data:=.fields #[.ref a,.int 0 0] },g,d,c,f⟩) b ys:=Heap.IsTuple.push l _
   wp_walk using wpAny_pyIter_list j,wpAny_pyIter_tuple i
   exact⟨_,rfl,h⟩
  ·have j:Heap.IsTuple (Shared.heap ⟨e,g,d,c,f⟩) a xs:=k
   have i:Heap.IsList (Shared.heap ⟨e.push { cls:=.type "tuple_iterator",data:=.fields #[.ref a,.int 0 0] },g,d,c,f⟩) b ys:=Heap.IsList.push l _
   wp_walk using wpAny_pyIter_tuple j,wpAny_pyIter_list i
   exact⟨_,rfl,h⟩
  ·have j:Heap.IsTuple (Shared.heap ⟨e,g,d,c,f⟩) a xs:=k
   have i:Heap.IsTuple (Shared.heap ⟨e.push { cls:=.type "tuple_iterator",data:=.fields #[.ref a,.int 0 0] },g,d,c,f⟩) b ys:=Heap.IsTuple.push l _
   wp_walk using wpAny_pyIter_tuple j,wpAny_pyIter_tuple i
   exact⟨_,rfl,h⟩
theorem Ah6 (e:h.get? j=some (itO t u)):ItAt t h j u 0:=by
 cases t
 ·exact⟨_,e,rfl,rfl⟩
 ·exact⟨_,e,rfl,rfl⟩
theorem Ak0 (t:SqA t1 s.heap a xs) (u:SqA t2 s.heap b ys)
 (q:∀h',Zo h' t1 t2 (s.heap.objs.size+4) (s.heap.objs.size+2) (s.heap.objs.size+3) s.heap.objs.size (s.heap.objs.size+1) a b .none 0->(∀c o,s.heap.get? c=some o->h'.get? c=some o)->Q (.ref (s.heap.objs.size+4)) { s with heap:=h' }) :
 wpAny (model P w) A (call (.type "zip") [.ref a,.ref b]) Q E s:=by
 apply callType_new F.called_zip (by decide) (F.typeCall_zip_2 _ _) (F.newCall_zip_2 _ _) (λo=>F.args_object_init_3 o _ _) F.entry_zip_new (A2h t1 t2 a b xs ys)
 refine⟨t,u,?_⟩
 have i:(zh1 s.heap t1 a).objs.size=s.heap.objs.size+1:=Heap.size_push ..
 have g:(zh2 s.heap t1 t2 a b).objs.size=s.heap.objs.size+2:=by rw[Heap.size_push,i]
 have f:(zh3 s.heap t1 t2 a b).objs.size=s.heap.objs.size+3:=by rw[Heap.size_push,g]
 have k:(zh4 s.heap t1 t2 a b).objs.size=s.heap.objs.size+4:=by rw[Heap.size_push,f]
 have d:=λ{h:Heap} {c:Addr} {o:Obj} (n:Obj) (e:h.get? c=some o)=>Heap.get?_push_of_some n e
 have j:(zh5 s.heap t1 t2 a b).get? (zh4 s.heap t1 t2 a b).objs.size=some _:=Heap.get?_push_size _ rfl;have m:(zh5 s.heap t1 t2 a b).get? (zh3 s.heap t1 t2 a b).objs.size=some _:=d _ (Heap.get?_push_size _ rfl);have l:(zh5 s.heap t1 t2 a b).get? (zh2 s.heap t1 t2 a b).objs.size=some _:=d _ (d _ (Heap.get?_push_size _ rfl));have p:(zh5 s.heap t1 t2 a b).get? (zh1 s.heap t1 a).objs.size=some _:=d _ (d _ (d _ (Heap.get?_push_size _ rfl)));have r:(zh5 s.heap t1 t2 a b).get? s.heap.objs.size=some _:=d _ (d _ (d _ (d _ (Heap.get?_push_size _ rfl))));rw[g,f,k]at j;rw[i,g]at l;rw[f]at m;rw[i]at p;rw[k]
 exact⟨⟨_,j,rfl⟩,q _ ⟨j,l,⟨_,_,m⟩,Ah6 r,Ah6 p⟩ λc o e=>d _ (d _ (d _ (d _ (d _ e))))⟩
end
theorem Ay6:bootBuiltins "zip" = some (.type "zip"):=by decide +kernel
section
variable {X:Cx}
def Bn4 (ta:TA):TI:=λσ H R=>ta σ H λvs H1=>∃a b,vs=[.ref a,.ref b]/\∃t1 t2 xs ys,SqK t1 H1 a xs/\SqK t2 H1 b ys/\R (Itz t1 t2 a b) H1
theorem Bg5 {p j e:Pos}{f:List Expr}{t:Nat}(hg:Gl X "zip") (hm:X.mg "zip" = none) (ha:QA X [a,b] m) (hs1:isStar a=false:=by rfl) (hs2:isStar b=false:=by rfl) :
 QI X (.Tuple f t e) (.Call (.Name "zip" p) [a,b] [] j) (Bn4 m):=by
 refine⟨?_⟩
 intro l s σ H R I h;have i:=Ho (es:=[b]) (env:=X.env) hs1
 refine Call_ (Je I hg hm Ay6 (PyProof.Rows.callWith_type1 (thn (ha.1 _ _ s _ H _ I h) λus d ⟨vs,r,g,u,v⟩=>?_) i (by rw[(Ho (es:=[]) (env:=X.env) hs2)];rfl)))
 obtain⟨a',b',rfl,t1,t2,xs,ys,y,o,q⟩:=v;obtain⟨z,A,rfl,B,x⟩:=Vals.two u
 cases (show z=Value.ref _ from B)
 cases (show A=Value.ref _ from x)
 obtain⟨C,rv,w⟩:=y.its g;obtain⟨E,F,D⟩:=o.its g
 refine Ak0 w D λh' n G=>?_
 apply wpAny_pyIter_zip n.zip
 have J:[d.heap.objs.size+4,d.heap.objs.size+2,d.heap.objs.size+3,d.heap.objs.size,d.heap.objs.size+1].Nodup:=by simp
 refine⟨_,_,_,_,r,rfl,g.kept G,A3g J,n,λc hc=>?_,q⟩
 have k:d.heap.objs.size<=c:=by
  grind
 exact g.fpOk k (g.hok.fresh k)
end
def Bc0:R2:=λx y H Q=>∃a b xs ys,x=.ref a/\y=.ref b/\H a=some (.tup xs)/\H b=some (.tup ys)/\xs.length+ys.length<=sizeLine/\∀p H',Same H H'->H' p=some (.tup (xs++ys))->Q (.ref p) H'
section
variable {X:Cx}
theorem Cq (h:H p=none) (o:HO):Same H (upd H p o):=λb u e=>by rw[Ar (Bl e h)];grind
theorem A5u:OpR X (binaryOp .Add) Bc0:=by
 intro d s σ H x y v u Q I i f h;obtain⟨a,b,g,E,rfl,rfl,j,c,n,q⟩:=h
 by_cases e:g=[]
 ·cases i
  cases f
  subst e;obtain⟨o,r,t,_⟩:=I.tuple (SqT.of j);obtain⟨w,r2,A,_⟩:=I.tuple (SqT.of c);have C := r.nil_iff.mpr rfl;subst C;obtain⟨⟨c1,d1,D,s1⟩,k,F,n1,z⟩:=id t;obtain⟨⟨c2,d2,B,s2⟩,l,J,n2,G⟩:=id A;subst F z J G
  exact concat_meets ⟨_,k,rfl⟩ ⟨_,l,rfl⟩ noFill_tuple_add seq_tuple_add PySem.F.slot_tuple_add PySem.F.entry_tuple_add (PySem.F.args_tuple_add_2 _ _)
   (tuple_addW0 a b _ _ _ _ _ _ _ _ (by simp)) ⟨k,l,⟨.ref b,H,I,rfl,q b H (λ_ _ e=>e) c⟩⟩
 ·refine Am7 _ s _ H _ _ v u Q I i f ⟨a,b,g,E,rfl,rfl,SqT.of j,SqT.of c,e,n,λK=>?_,λK p m=>?_⟩
  ·exact q a H (λ_ _ e=>e) (by simp_all)
  ·exact q p _ (Cq m _) Bw
end
section
variable {P:Program}{w:World}{A:Around}{E:Value->Shared->Prop}{s:Shared}
theorem Bi0 (quiet:A.handled=none)(t:Bool)(j u:Addr)(ne:u≠j)(vs:Array Value):Draws P w A j [j,u] vs.size (λi v=>vs[i]?=some v) (λi h=>ItAt t h j u i/\SqA t h u vs) where
 live:=λi h x=>let ⟨o,e,_⟩:=x.1.obj; ⟨o,e⟩
 frame:=λi h h' x k=>⟨x.1.stay λo e=>k j (by simp) o e,x.2.stay λo e=>k u (by simp) o e⟩
 item:=λi s Q E hi x q=>next_item x.1 x.2 (x:=vs[i]) (by simp[hi]) λh' a b=>q _ h' s.toks (by simp[hi]) ⟨a,x.2.stay λo e=>b.extBut _ _ ne e⟩ b
 done:=λs Q E x q=>next_end quiet x.1 x.2 (by simp) q
theorem Ag7 (u:Addr)(vs:Array Value)(n:Nat)(b:Option Addr)(l:Array (Option Value)) :
 Meets (Builtin.«enumerate.__new__» ⟨[.type "enumerate",.ref u],[]⟩) (λ_ R s=>s.heap.get? u=some { cls:=.type "tuple",dict:=b,data:=.seq vs n,slots:=l } /\
  R (.ok (.ret (.ref (s.heap.push (itO true u)).objs.size))) { s with heap:=(s.heap.push (itO true u)).push { cls:=.type "enumerate",data:=.fields #[.none,.bool false,.ref s.heap.objs.size,rawInt 0,.none,.none] } }) :=
 .of_wp λP w A R s h=>by
  obtain⟨i,g,d,f,k⟩:=s;obtain⟨e,h⟩:=h;have j:=sub_enumerate;have a:Heap.IsTuple (Shared.heap ⟨i,g,d,f,k⟩) u vs:=⟨_,e,rfl,n,rfl⟩
  wp_walk using AutoSeq1.wpAny_loadPart' e
  refine wpAny_stack_any λm=>wpAny_pure ?_
  split
  ·rename_i c _ _ _ _ _
   cases (c==Value.type "enumerate")
   ·wp_walk using AutoSeq1.wpAny_loadPart' e,wpAny_pyIter_tuple a
    exact⟨_,rfl,h⟩
   ·wp_walk using AutoSeq1.wpAny_loadPart' e,wpAny_pyIter_tuple a
    exact⟨_,rfl,h⟩
  ·wp_walk using AutoSeq1.wpAny_loadPart' e,wpAny_pyIter_tuple a
   exact⟨_,rfl,h⟩
theorem Ab1 (p:SqA t s.heap u vs)
 (q:∀f,IsEnum f (s.heap.objs.size+1) s.heap.objs.size 0 .none->ItAt t f s.heap.objs.size u 0->(∀c o,s.heap.get? c=some o->f.get? c=some o)->Q (.ref (s.heap.objs.size+1)) { s with heap:=f }) :
 wpAny (model P w) A (call (.type "enumerate") [.ref u]) Q E s:=by
 cases t
 ·exact call_enumerate_list p λf a b c d=>q f a b d
 ·obtain⟨⟨c,i,m,l⟩,e,k,n,g⟩:=p
  simp only at k g;subst k g
  apply callType_new F.called_enumerate (by decide) (F.typeCall_enumerate_1 _) (F.newCall_enumerate_1 _) (λo=>F.args_object_init_2 o _) F.entry_enumerate_new (Ag7 u vs n i l)
  refine⟨e,?_⟩
  have j:(s.heap.push (itO true u)).objs.size=s.heap.objs.size+1:=Heap.size_push ..;have h:IsEnum ((s.heap.push (itO true u)).push { cls:=.type "enumerate",data:=.fields #[.none,.bool false,.ref s.heap.objs.size,rawInt 0,.none,.none] }) (s.heap.push (itO _ u)).objs.size _ 0 _:=Heap.get?_push_size _ rfl;rw[j]at h;rw[j]
  exact⟨⟨_,h,rfl⟩,q _ h (Ah6 (Heap.get?_push_of_some _ (Heap.get?_push_size _ rfl))) λc o x=>Heap.get?_push_of_some _ (Heap.get?_push_of_some _ x)⟩
end
def Ite (t:Bool)(a:Addr):It :=
 ⟨
  λi H=>∃xs x,SqK t H a xs/\xs[i]?=some x,
  λi H v H'=>∃p x,v=.ref p/\H p=none/\H'=upd H p (.tup [.int i,x])/\∀xs,SqK t H a xs->xs[i]?=some x,
  λi H=>∃xs,SqK t H a xs/\xs.length<=i⟩
theorem Ax1 {P:Program}{w:World}{K:PySem.W.Frag}{t:Bool}{elts:List Expr}{kk:Nat}{pos:Pos}{e j a:Addr}(ne:e≠j) :
 Turn P w K (.Tuple elts kk pos) (Ite t a) [e,j] e (λi h=>(∃old,IsEnum h e j i old)/\ItAt t h j a i) where
 mem:=by simp
 obj:=λi h st c hc=>by
  simp only[List.mem_cons,List.not_mem_nil,or_false]at hc
  rcases hc with rfl | rfl
  ·obtain⟨old,q⟩:=st.1;exact⟨_,q,λv e=>by cases e⟩
  ·obtain⟨o,e,q⟩:=st.2.obj;exact⟨o,e,λv e=>by rw[q]at e;cases e⟩
 keep:=λi h h' st k=>by
  obtain⟨⟨old,q⟩,r⟩:=st
  exact⟨⟨old,k e (by simp) _ q⟩,r.stay λo e=>k j (by simp) o e⟩
 item:=by
  intro X hP hw hK hc i pins s σ H E I hf st hg;subst hP hw hK;obtain⟨xs,x,ha,hx⟩:=hg;obtain⟨⟨old,en⟩,it⟩:=st;obtain⟨its,rv,pa⟩:=ha.its I;obtain⟨u,hu,ru⟩:=rv.get hx
  have off:∀c∈[e,j],a≠c:=λc m z=>by obtain⟨o,q⟩:=ha.some;rw[z,(hf c m).1]at q;cases q
  have dr:=Bi0 (P:=X.prog) (w:=X.w) (A:=X.A.in1) (I.ok.hd hc) t j a (off j (by simp)) its.toArray
  have li:i<its.toArray.size:=by simpa using (List.getElem?_eq_some_iff.mp hu).1
  refine wpAny_pyNext_enum_itemD dr en ⟨it,pa⟩ li ne (by simp;exact⟨ne,λz=>off e (by simp) z.symm⟩) λu' h1 tk pu ou st1 new _ kp=>?_
  have eu:u'=u:=by
   have pu:its.toArray[i]?=some u':=pu;rw[List.getElem?_toArray,hu]at pu;cases pu;rfl
  subst eu
  refine⟨_,rfl,?_⟩
  apply wpAny_letOwnedTupleGo_enum ou;intro h2 en2 sb
  have lt:∀c∈[e,j],c<s.heap.objs.size:=λc m=>by
   simp only[List.mem_cons,List.not_mem_nil,or_false]at m
   rcases m with rfl | rfl
   ·exact Heap.lt_size en
   ·obtain⟨o,e,_⟩:=it.obj;exact Heap.lt_size e
  have new2:h2.get? s.heap.objs.size=some { cls:=.type "tuple",data:=.seq #[.int i tk,u'] }:=sb.extBut _ _ (Nat.ne_of_gt (lt e (by simp))) new
  have ok:z8 X.prog X.w (upd H s.heap.objs.size (.tup [.int i,x])) h2 s.heap.objs.size (.tup [.int i,x]):=⟨(show 2<=sizeLine by decide),[.int i tk,u'],.cons ⟨tk,rfl⟩ (.cons ru .nil),⟨_,new2,rfl,⟨_,rfl⟩,rfl⟩⟩
  have I2:=I.turnLay (t':=tk+1) hf (h':=h2) (λc o m q=>sb.extBut _ _ (λz=>m (by simp[z])) (kp c o (λz=>m (by simp[z])) (λz=>m (by simp[z])) q)) (Nat.le_refl _) ok
  refine⟨.ref s.heap.objs.size,_,I2,rfl,⟨_,x,rfl,I.hok.fresh (Nat.le_refl _),rfl,λxs' h=>?_⟩,⟨⟨u',?_⟩,?_⟩,λc m=>?_⟩
  ·rw[h.one ha];exact hx
  ·have:IsEnum h2 e j ((i:Int)+1) u':=en2
   simpa using this
  ·exact st1.1.stay λo q=>sb.extBut _ _ (Ne.symm ne) q
  ·rw[Ar (Nat.ne_of_lt (lt c m))]
   exact(hf c m).1
 done:=by
  intro X hP hw hK hc i pins s σ H E I hf st hg;subst hP hw hK;obtain⟨xs,ha,hl⟩:=hg;obtain⟨⟨old,en⟩,it⟩:=st;obtain⟨its,rv,pa⟩:=ha.its I
  have off:∀c∈[e,j],a≠c:=λc m z=>by obtain⟨o,q⟩:=ha.some;rw[z,(hf c m).1]at q;cases q
  have ty:s.TypeIs (.ref e) "enumerate" := ⟨_,en,rfl⟩;have ln:=rv.length;unfold pyNext;apply wpAny_bind;apply wpAny_attempt
  refine wpAny_callSpecial?_slot (name:="__next__") ty F.slot_enumerate_next ?_
  refine wpAny_call_entry F.slot_enumerate_next ty F.entry_enumerate_next ?_ (F.args_enumerate_next_1 _)
  apply wpAny_bind (m:=field (.ref e) 2);apply wpAny_field en rfl (x:=.ref j) rfl;apply wpAny_bind
  refine next_end (I.ok.hd hc) it pa (by simp;omega) λh1 x kp hx=>?_
  obtain⟨o,e1,e2⟩:=hx;apply wpAny_bind
  refine wpAny_isInstance (T := "StopIteration") (b:=true) ⟨o,e1,e2⟩ isSubtype_stop ?_
  exact wpAny_pure ⟨rfl,I.turnL (t':=s.toks) hf λc o m q=>kp c o (λz=>m (by simp[z])) q⟩
 self:=λ_ _ _ _ _ st h=>let ⟨_,q⟩:=st.1;wpAny_pyIter_enum q h
theorem Ad8:bootBuiltins "enumerate" = some (.type "enumerate"):=by decide +kernel
section
variable {X:Cx}
def A9q (ta:TA):TI:=λσ H R=>ta σ H λvs H1=>∃a,vs=[.ref a]/\∃t xs,SqK t H1 a xs/\R (Ite t a) H1
theorem Am9 (hg:Gl X "enumerate") (hm:X.mg "enumerate" = none) (ha:QA X [a] i) (hs1:isStar a=false:=by rfl) :
 QI X (.Tuple d v b) (.Call (.Name "enumerate" p) [a] [] f) (A9q i):=by
 refine⟨?_⟩
 intro j s σ H R I h
 refine Call_ (Je I hg hm Ad8 (PyProof.Rows.callWith_type1 (thn (ha.1 _ _ s _ H _ I h) λus x ⟨vs,o,e,r,u⟩=>?_) (Ho (es:=[]) (env:=X.env) hs1) rfl))
 obtain⟨a',rfl,t,xs,l,q⟩:=u;obtain⟨w,rfl,m⟩:=vals1 r
 cases (show w=Value.ref _ from m)
 obtain⟨n,rv,y⟩:=l.its e
 refine Ab1 y λh' k z A=>?_
 apply wpAny_pyIter_enum k
 refine⟨_,_,_,_,o,rfl,e.kept A,Ax1 (Nat.ne_of_gt (Nat.lt_succ_self _)),⟨⟨_,k⟩,z⟩,λc hc=>?_,q⟩
 have g:x.heap.objs.size<=c:=by
  grind
 exact e.fpOk g (e.hok.fresh g)
end
section
variable {X:Cx}{a b:Expr}{ta tb:TE}{pos:Pos}
def Bg4 (neg:Bool):R2:=λx y H Q=>∃d ds,Tr H d x/\(Tr H (.list ds) y\/Tr H (.tuple ds) y)/\Flat d/\PyData.canLayAll0 ds=true/\Q (.bl (if neg then !ds.any (λe=>PyData.eqv e d) else ds.any λe=>PyData.eqv e d)) H
theorem Kc (hu:X.A.units+64<cLine)(ha:QE X a ta)(hb:QE X b tb)(hm:behindInMarks .NotIn b=false):QT X (.Compare a [.NotIn] [b] pos) (K9 (tOp (Bg4 true) ta tb)):=⟨Ig (Av1 hu) ha.1 hb.1 hm⟩
end
end L2
set_option autoImplicit true
namespace L2
open PySem PySem.Spec PyProof.Rows
theorem Aj : QE X (.Constant (.int i) j a) (tC (.int i)) :=
 ⟨A0v ⟩
theorem Lx : QE X (.Constant (.bool b) j a) (tC (.bl b)) :=
 ⟨Bb3 ⟩
theorem Gi : QE X (.Constant .none j a) (tC .non) :=
 ⟨A1y ⟩
theorem Do : QE X (.Constant (.str x) j a) (tC (.str x)) :=
 ⟨A1j ⟩
theorem O4 (hg:Gl X x) (hm:X.mg x=some u) (r:RelV v u) (hd:(x==("__debug__" : Str))=false:=by decide):QE X (.Name x a) (tC v) :=
 ⟨A7j (hg:=hg) (hm:=hm) (r:=r) (hd:=hd)⟩
theorem Xy {a:Pos}(hg:Gl X x) (hm:X.mg x=none) (hv:bootBuiltins x=some u) (r:RelV v u) (hn:x ≠ "__name__" := by decide) (hd:(x==("__debug__" : Str))=false:=by decide):QE X (.Name x a) (tC v) :=
 ⟨A5z (hg:=hg) (hm:=hm) (hv:=hv) (r:=r) (hn:=hn) (hd:=hd)⟩
theorem Bp : QSs X [] A4e :=
 ⟨A8e ⟩
theorem Lj : QS X stm Aj3 :=
 ⟨A2b ⟩
theorem Ag5 (a:X.K=Kq) {k:Nat} (hc:X.calm=true) (h:QGs X es t) (hn:(assignEach es X.env).length=n:=by rfl) (hst:(assignEach es X.env).findIdx? (·.1)=none:=by rfl):QG X (.Tuple es k pos) (A6c Kq n t):=by
 subst a;exact⟨Bi4 (hc:=hc) (h:=h.get) (hn:=hn) (hst:=hst)⟩
theorem Ef (a:X.K=Kq) (hl:QE X l b):QI X c l (Bk9 Kq b):=by
 subst a;exact⟨Bh3 (hl:=hl.get)⟩
theorem Ad : QA X [] Hb :=
 ⟨Te ⟩
theorem Ae (ha:QE X e te)(hr:QA X es t)(hs:isStar e=false:=by rfl):QA X (e::es) (Ec te t) :=
 ⟨A6n (ha:=ha.get) (hr:=hr.get) (hs:=hs)⟩
theorem A1i (F:FnOk X.prog X.w X.K X.mg X.base CX k f fd ps sp)(hr:Room k X.A)(hg:Gl X x)(hm:X.mg x=some (.ref f))(hk:PySem.W.keepIn X.K (.ref f)=true)(hb:Binds X.K fd ps ds)(hd:Vals dvs ds)(hx:U6 CX X E)(ha:QA X (e::es) t)(hdb:(x==("__debug__" : Str))=false:=by decide) (hn:noStar (e::es)=true:=by rfl):QE X (.Call (.Name x p) (e::es) [] pos) (Zr sp dvs E t) :=
 ⟨Az9 (F:=F) (hr:=hr) (hg:=hg) (hm:=hm) (hk:=hk) (hb:=hb) (hd:=hd) (hx:=hx) (ha:=ha.get) (hdb:=hdb) (hn:=hn)⟩
theorem Aj2 : QK X [] Hb :=
 ⟨Bd6 ⟩
theorem Bb0 (a:X.K=Kq) (pa:PlainAttrs T) (slot:Slot T name idn) (hty:typeOf (.builtin idn)=pure (.type "method_descriptor")) (hm:MtR X idn r) (ho:QE X o to) (ha:QA X (e::es) t) (hbase:attributeBase o name X.env (eval o X.env)=eval o X.env:=by rfl) (hfew:((backTo cpos (starEach (e::es) X.env)).all (λx=>!x.1)&&(backToKw cpos (keywordEach [] X.env)).all (λx=>x.1.isSome)
 && decide ((e::es).length+([]:List Keyword).length+(if ([]:List Keyword).isEmpty then 0 else 1)<30))=true:=by rfl) (hline:(apos.endLine==cpos.line)=true:=by rfl) (hs:starEach (e::es) X.env=(false,eval e X.env)::starEach es X.env:=by rfl) (hplain:(backTo cpos (starEach es X.env)).any (·.1)=false:=by rfl):QE X (.Call (.Attribute o name apos) (e::es) [] cpos) (tBM Kq T r to t):=by
 subst a;exact⟨Bb8 (pa:=pa) (slot:=slot) (hty:=hty) (hm:=hm) (ho:=ho.get) (ha:=ha.get) (hbase:=hbase) (hfew:=hfew) (hline:=hline) (hs:=hs) (hplain:=hplain)⟩
theorem Qw (b:X.K=Kq) (ho:QE X a ta) (hv:QE X e te) (hbase:attributeBase a "append" X.env (eval a X.env)=eval a X.env:=by rfl) (hfew:((backTo cpos (starEach [e] X.env)).all (λx=>!x.1)&&(backToKw cpos (keywordEach [] X.env)).all (λx=>x.1.isSome)
 && decide ([e].length+([]:List Keyword).length+(if ([]:List Keyword).isEmpty then 0 else 1)<30))=true:=by rfl) (hline:(apos.endLine==cpos.line)=true:=by rfl) (hns:isStar e=false:=by rfl):QE X (.Call (.Attribute a "append" apos) [e] [] cpos) (tBM Kq "list" rAppF ta (Ec te Hb)):=by
 subst b;exact⟨Av5 (ho:=ho.get) (hv:=hv.get) (hbase:=hbase) (hfew:=hfew) (hline:=hline) (hns:=hns)⟩
theorem A6p : QTs X [] A9a :=
 ⟨A5x ⟩
theorem qtN:∀a b c d e,QTs (Fe X N' scope a b c d e) [] A9a:=λ_ _ _ _ _=>A6p
theorem Jk (h:QT X c t):QTs X [c] t :=
 ⟨A5t (h:=h.get)⟩
theorem Hv (L:Ih X N' idx scope)(hc:X.calm=true)(hi:QI X tg iter wi)(hg:∀d C b a c,QG (Fe X N' scope d C b a c) tg g)(ht:∀d C b a c,QTs (Fe X N' scope d C b a c) ifs tc)(he:∀d C b a c,QE (Fe X N' scope d C b a c) elt te)(hs:∀x,foldedSetIterable iter X.env x=pure x:=by intro _;rfl):QE X (.ListComp elt [⟨tg,iter,ifs,0⟩] scope pos) (tLC idx wi g tc te) :=
 ⟨Bt1 (L:=L) (hc:=hc) (hi:=hi.get) (hg:=λd C b a c=>(hg _ C _ _ _).get) (ht:=λd C b a c=>(ht _ C _ _ _).get) (he:=λd C b a c=>(he _ C _ _ _).get) (hs:=hs)⟩
theorem Iw {f d:Pos}(hN:X.N.Nodup) (hi':X.N[i]?=some y) (hy:Loc X.env.scope y) (L:Ih X N' idx scope) (hc:X.calm=true) (hi:QI X tg iter wi) (hg:∀e C b a c,QG (Fe X N' scope e C b a c) tg g) (ht:∀e C b a c,QTs (Fe X N' scope e C b a c) ifs tc) (he:∀e C b a c,QE (Fe X N' scope e C b a c) elt te) (hsw:swapsWith (.ListComp elt [⟨tg,iter,ifs,0⟩] scope pos) (some (.Name y f)) d.line X.env=pure true:=by rfl) (hf:X.fn y=true\/X.env.scope.names.lookup y=some .local:=by first | exact .inl rfl | exact .inr rfl | assumption) (hs:∀x,foldedSetIterable iter X.env x=pure x:=by intro _;rfl):QS X (.Assign [.Name y f] (.ListComp elt [⟨tg,iter,ifs,0⟩] scope pos) d) (Af9 (tLC idx wi g tc te) (K3 i)) :=
 ⟨A5d (hN:=hN) (hi':=hi') (hy:=hy) (L:=L) (hc:=hc) (hi:=hi.get) (hg:=λe C b a c=>(hg _ C _ _ _).get) (ht:=λe C b a c=>(ht _ C _ _ _).get) (he:=λe C b a c=>(he _ C _ _ _).get) (hsw:=hsw) (hs:=hs)⟩
theorem A5i (a:X.K=Kq) (hc:X.calm=true) (F:FnOk X.prog X.w X.K X.mg X.base CX0 k f b ps sp) (hr:Room (k+1) X.A) (hb:Binds X.K b ps []) (hg:Gl X "min") (hm:X.mg "min" = none) (ha:QA X [e] t) (hkw:QK X kws tk) (hall:(backToKw pos (keywordEach kws X.env)).all (·.1.isSome)=true:=by rfl) (hks:(backToKw pos (keywordEach kws X.env)).filterMap (·.1)=[Str.ofString "key",Str.ofString "default"]:=by rfl) (he:backTo pos (starEach [e] X.env)=(false,eval e X.env)::backTo pos (starEach [] X.env):=by rfl) (hpl:(backTo pos (starEach [e] X.env)).any (·.1)=false:=by rfl) (hno:(backToKw pos (keywordEach kws X.env)).any (·.1.isNone)=false:=by rfl):QE X (.Call (.Name "min" p) [e] kws pos) (tMM false Kq f sp t tk):=by
 subst a;exact⟨A3j (hc:=hc) (F:=F) (hr:=hr) (hb:=hb) (hg:=hg) (hm:=hm) (ha:=ha.get) (hkw:=hkw.get) (hall:=hall) (hks:=hks) (he:=he) (hpl:=hpl) (hno:=hno)⟩
theorem A2g (a:X.K=Kq) (hc:X.calm=true) (F:FnOk X.prog X.w X.K X.mg X.base CX0 k f b ps sp) (hr:Room (k+1) X.A) (hb:Binds X.K b ps []) (hg:Gl X "max") (hm:X.mg "max" = none) (ha:QA X [e] t) (hkw:QK X kws tk) (hall:(backToKw pos (keywordEach kws X.env)).all (·.1.isSome)=true:=by rfl) (hks:(backToKw pos (keywordEach kws X.env)).filterMap (·.1)=[Str.ofString "key",Str.ofString "default"]:=by rfl) (he:backTo pos (starEach [e] X.env)=(false,eval e X.env)::backTo pos (starEach [] X.env):=by rfl) (hpl:(backTo pos (starEach [e] X.env)).any (·.1)=false:=by rfl) (hno:(backToKw pos (keywordEach kws X.env)).any (·.1.isNone)=false:=by rfl):QE X (.Call (.Name "max" p) [e] kws pos) (tMM true Kq f sp t tk):=by
 subst a;exact⟨A5g (hc:=hc) (F:=F) (hr:=hr) (hb:=hb) (hg:=hg) (hm:=hm) (ha:=ha.get) (hkw:=hkw.get) (hall:=hall) (hks:=hks) (he:=he) (hpl:=hpl) (hno:=hno)⟩
theorem Ah3 {Kq:PySem.W.Frag}(hKq:X.K=Kq)(ha:QE X a ta)(hb:QE X b tb):QE X (.BinOp a .Add b pos) (tOp (Ar5 Kq) ta tb):=by
 subst hKq;exact⟨Aj5 (ha:=ha.get) (hb:=hb.get)⟩
theorem Q5 (a:X.K=Kq) (hgl:Gl X "abs") (hm:X.mg "abs" = none) (ha:QA X (e::es) t) (hns:noStar (e::es)=true:=by rfl):QE X (.Call (.Name "abs" p) (e::es) [] pos) (tCB (Od Kq) t):=by
 exact⟨Aa8 (hgl:=hgl) (hm:=hm) (ha:=ha.get) (hns:=hns)⟩
theorem Mr (a:X.K=Kq) (hgl:Gl X "isinstance") (hm:X.mg "isinstance" = none) (ha:QA X (e::es) t) (hns:noStar (e::es)=true:=by rfl):QE X (.Call (.Name "isinstance" p) (e::es) [] pos) (tCB (Oa Kq) t):=by
 exact⟨Ac3 (hgl:=hgl) (hm:=hm) (ha:=ha.get) (hns:=hns)⟩
theorem Yd (a:X.K=Kq) (hc:X.calm=true) (hgl:Gl X "any") (hm:X.mg "any" = none) (ha:QA X (e::es) t) (hns:noStar (e::es)=true:=by rfl):QE X (.Call (.Name "any" p) (e::es) [] pos) (tCB (Lw Kq) t):=by
 subst a;exact⟨Yq (hc:=hc) (hgl:=hgl) (hm:=hm) (ha:=ha.get) (hns:=hns)⟩
theorem Xm (a:X.K=Kq) (hc:X.calm=true) (hgl:Gl X "all") (hm:X.mg "all" = none) (ha:QA X (e::es) t) (hns:noStar (e::es)=true:=by rfl):QE X (.Call (.Name "all" p) (e::es) [] pos) (tCB (La Kq) t):=by
 subst a;exact⟨Yt (hc:=hc) (hgl:=hgl) (hm:=hm) (ha:=ha.get) (hns:=hns)⟩
theorem Yz (a:X.K=Kq) (hc:X.calm=true) (hgl:Gl X "sum") (hm:X.mg "sum" = none) (ha:QA X (e::es) t) (hns:noStar (e::es)=true:=by rfl):QE X (.Call (.Name "sum" p) (e::es) [] pos) (tCB (Mp Kq) t):=by
 subst a;exact⟨Yh (hc:=hc) (hgl:=hgl) (hm:=hm) (ha:=ha.get) (hns:=hns)⟩
theorem Yg (a:X.K=Kq) (hgl:Gl X "int") (hm:X.mg "int" = none) (ha:QA X (e::es) t) (hns:noStar (e::es)=true:=by rfl):QE X (.Call (.Name "int" p) (e::es) [] pos) (tCB (K8 Kq) t):=by
 exact⟨X4 (hgl:=hgl) (hm:=hm) (ha:=ha.get) (hns:=hns)⟩
theorem Ck (a:X.K=Kq) (hgl:Gl X "tuple") (hm:X.mg "tuple" = none) (ha:QA X (e::es) t) (hns:noStar (e::es)=true:=by rfl):QE X (.Call (.Name "tuple" p) (e::es) [] pos) (tCB (Hy Kq) t):=by
 subst a;exact⟨Qv (hgl:=hgl) (hm:=hm) (ha:=ha.get) (hns:=hns)⟩
theorem Kz (a:X.K=Kq) (hgl:Gl X "list") (hm:X.mg "list" = none) (ha:QA X (e::es) t) (hns:noStar (e::es)=true:=by rfl):QE X (.Call (.Name "list" p) (e::es) [] pos) (tCB (Iz Kq) t):=by
 subst a;exact⟨Ry (hgl:=hgl) (hm:=hm) (ha:=ha.get) (hns:=hns)⟩
theorem Yk (a:X.K=Kq) (hc:X.calm=true) (hgl:Gl X "min") (hm:X.mg "min" = none) (ha:QA X (e::es) t) (hns:noStar (e::es)=true:=by rfl):QE X (.Call (.Name "min" p) (e::es) [] pos) (tCB (Lf Kq) t):=by
 exact⟨Xb (hc:=hc) (hgl:=hgl) (hm:=hm) (ha:=ha.get) (hns:=hns)⟩
theorem As6 (b:X.K=Kq) (hc:X.calm=true) (hgs:Gl X "set") (hms:X.mg "set" = none) (hgl:Gl X "len") (hml:X.mg "len" = none) (he:QE X e d) (hns:isStar e=false:=by rfl):QE X (.Call (.Name "len" p) [.Call (.Name "set" f) [e] [] a] [] c) (tCB (Px X.prog X.w) (Ec (tCB (V4 X.prog X.w Kq) (Ec d Hb)) Hb)):=by
 subst b;exact⟨Au9 (hc:=hc) (hgs:=hgs) (hms:=hms) (hgl:=hgl) (hml:=hml) (he:=he.get) (hns:=hns)⟩
theorem Hk (h:Ol es=some vs):QA X es (tK vs):=⟨Wq h⟩
theorem QW.qt (h:QW X e t):QT X e t:=⟨h.get.pt⟩
theorem qv (i:Nat) {a:Pos}(hN:X.N[i]?=some x:=by rfl) (hv:Vis X.env.scope x:=by first | exact Or.inl rfl | exact Or.inr (Or.inl rfl) | exact Or.inr (Or.inr rfl)) (hd:(x==("__debug__" : Str))=false:=by decide) (hcd:(x==("__classdict__" : Str))=false:=by decide):QE X (.Name x a) (Xv i):=⟨A4u hN hv hd hcd⟩
end L2
namespace L2
open PySem
theorem Gf (h:QSs X st t) (k:t D a H):∃t,PSs X st t/\t D a H:=⟨t,h.get,k⟩
theorem Ru:Fv "NoneType" "int" = some false:=by trivial
theorem R9:Fv "NoneType" "str" = some false:=by trivial
theorem Qf:Fv "NoneType" "bool" = some false:=by trivial
theorem Qy:Fv "NoneType" "list" = some false:=by trivial
theorem O6:Fv "NoneType" "tuple" = some false:=by trivial
theorem Ab7:Fv "bool" "int" = some true:=by trivial
theorem Ab0:Fv "bool" "str" = some false:=by trivial
theorem X6:Fv "bool" "bool" = some true:=by trivial
theorem Yw:Fv "bool" "list" = some false:=by trivial
theorem Vs:Fv "bool" "tuple" = some false:=by trivial
theorem Ad7:Fv "int" "int" = some true:=by trivial
theorem Af0:Fv "int" "str" = some false:=by trivial
theorem Ac9:Fv "int" "bool" = some false:=by trivial
theorem Zt:Fv "int" "list" = some false:=by trivial
theorem Yo:Fv "int" "tuple" = some false:=by trivial
theorem Ai2:Fv "str" "int" = some false:=by trivial
theorem Af6:Fv "str" "str" = some true:=by trivial
theorem Aa1:Fv "str" "bool" = some false:=by trivial
theorem Ab8:Fv "str" "list" = some false:=by trivial
theorem Xo:Fv "str" "tuple" = some false:=by trivial
theorem Zx:Fv "list" "int" = some false:=by trivial
theorem Zm:Fv "list" "str" = some false:=by trivial
theorem X8:Fv "list" "bool" = some false:=by trivial
theorem Xq:Fv "list" "list" = some true:=by trivial
theorem Vt:Fv "list" "tuple" = some false:=by trivial
theorem Yx:Fv "tuple" "int" = some false:=by trivial
theorem Ym:Fv "tuple" "str" = some false:=by trivial
theorem Vz:Fv "tuple" "bool" = some false:=by trivial
theorem V2:Fv "tuple" "list" = some false:=by trivial
theorem T6:Fv "tuple" "tuple" = some true:=by trivial
section
variable {H:Hp}{a:Addr}
theorem Bh8 (h:H a=some (.lst xs)):Rq H (.ref a)=some "list" := by simp only[Rq,h]
theorem Be9 (h:H a=some (.tup xs)):Rq H (.ref a)=some "tuple" := by simp only[Rq,h]
theorem A8q (h:H a=some (.lst xs)):Av4 H (.ref a)=some xs.length:=by simp only[Av4,h]
theorem A7o (h:H a=some (.tup xs)):Av4 H (.ref a)=some xs.length:=by simp only[Av4,h]
end
abbrev g2 (K:PySem.W.Frag)(i j:Nat):TG:=A6c K 2 (Ap9 (K3 i) (Ap9 (K3 j) Bd1))
mutual
noncomputable def noL:PyData->Bool
 | .none=>true
 | .bool _=>true
 | .int _=>true
 | .str _=>true
 | .tuple ds=>Bp3 ds
 | .list _=>false
 | .dict _=>false
noncomputable def Bp3:List PyData->Bool
 | []=>true
 | d::r=>noL d&&Bp3 r
end
theorem TrL.got {H:Hp}:∀{ds:List PyData}{vs:List V}{k:Nat}{d:PyData},TrL H ds vs->ds[k]?=some d->∃v,vs[k]?=some v/\Tr H d v
 | [],_,k,d,h,e=>by simp at e
 | d::r,_,0,_,⟨v,_,rfl,q,_⟩,e=>by simp at e;subst e;exact⟨v,rfl,q⟩
 | d::r,_,k+1,_,⟨_,_,rfl,_,q⟩,e=>by simp at e;simpa using TrL.got q e
theorem TrL.app {H:Hp}:∀{ds es:List PyData}{vs us:List V},TrL H ds vs->TrL H es us->TrL H (ds++es) (vs++us)
 | [],es,_,us,h,q=>by cases (show _=[] from h);exact q
 | d::r,es,_,us,⟨v,vr,rfl,q1,q2⟩,q=>⟨v,vr++us,rfl,q1,TrL.app q2 q⟩
theorem TrL.one (h:Tr H d v):TrL H [d] [v]:=⟨v,[],rfl,h,rfl⟩
mutual
noncomputable def wt:PyData->Nat
 | .none=>4
 | .bool _=>5
 | .int _=>1921
 | .str x=>10*x.length+2
 | .list xs=>T8 xs+4
 | .tuple xs=>T8 xs+4
 | .dict _=>0
noncomputable def T8:List PyData->Nat
 | []=>0
 | x::xs=>wt x+2+T8 xs
end
end L2
namespace HT
open PySem PySem.Spec PyProof.Rows
end HT
namespace L2
open PySem PySem.Spec PyProof.Rows
section
def Bu6:R2:=λx y H Q=>∃i j,x=.str i/\y=.str j/\Q (.bl (!(Builtin.Str.occurrences j i 0 j.length 1).isEmpty)) H
end
section
noncomputable def A9l (y:Str):Value->Bool
 | .str z _=>z==y
 | _=>false
theorem Ar8:∀{ss:List Str}{us:List Value},Vals (ss.map V.str) us->∀u∈us,∃z t,u=.str z t
 | [],_,r,u,hu=>by cases r;cases hu
 | s::ss,_,r,u,hu=>by
  cases r with
  | cons r1 r2 =>
   rcases List.mem_cons.mp hu with rfl | hu
   ·obtain⟨t,rfl⟩:=r1;exact⟨s,t,rfl⟩
   ·exact Ar8 r2 u hu
end
end L2
namespace HT
open PySem PySem.Spec PyProof.Rows
section
variable {prog:Program}{w:World}{A:Around}{E:Value->Shared->Prop}{s:Shared}
theorem Nj {lo hi:Option Int} (ht:IsTup s.heap t items) (hs:s.heap.IsSliceOf b g f .none) (pl:IsPart g lo) (i:IsPart f hi)
 (hw:sIx items.size 0 lo=0/\sIx items.size items.size hi=items.size) (h:Q (.ref t) s):wpAny (model prog w) A (getItem (.ref t) (.ref b)) Q E s:=by
 obtain⟨k,d,c,j⟩:=id hs;have e:s.TypeIs (.ref b) "slice" := ⟨k,d,c⟩;unfold getItem
 try with_reducible refine wpAny_holding ?_
 first | refine wpAny_bind (wpAny_pure ?_) | skip
 refine wpAny_bind (wpAny_sequenceKey ht.typeIs (by decide) ?_)
 refine wpAny_bind (wpAny_callSpecial?_slot (name:="__getitem__") ht.typeIs PyProof.Rows.slot_tuple_getitem
  (wpAny_call_entry PyProof.Rows.slot_tuple_getitem ht.typeIs entry_tuple_getitem ?_ (args_tuple_getitem _ _)))
 show wpAny _ _ (Builtin.Tuple.tupleItemsOf (.ref t) >>= _) _ _ s
 refine wpAny_bind (tupleItemsOf_ ht ?_)
 refine wpAny_bind (wpAny_typeOf e ?_)
 rw[if_pos (by decide)]
 refine wpAny_bind (Ju hs pl i ?_)
 show wpAny _ _ (if (((sIx items.size 0 lo:Nat):Int)==0&&(1:Int)==1&&(sIx _ _ _-sIx _ 0 _)==items.size)=true then _ else _) _ _ s
 have a:(((sIx items.size 0 lo):Int)==0&&(1:Int)==1&&sIx items.size items.size hi-sIx items.size 0 lo==items.size)=true:=by
  rw[hw.1,hw.2];simp
 rw[if_pos a]
 refine wpAny_bind (wpAny_bind (wpAny_typeOf ht.typeIs (wpAny_pure ?_)))
 refine wpAny_bind (wpAny_rule ?_)
 first
  | exact wpAny_pure ⟨_,rfl,wpAny_pure h⟩
  | exact wpAny_bind _
  | exact wpAny_bind _
  | trace_state
end
end HT
namespace L2
open PySem PySem.Spec PyProof.Rows
section
variable {X:Cx}
def A9p (K:PySem.W.Frag):V->Option Int->Option Int->Hp->VK->Prop:=λx lo hi H Q=>∃a xs,x=.ref a/\SqT K H a xs /\
 (HT.sIx xs.length 0 lo=0/\HT.sIx xs.length xs.length hi=xs.length)/\Q (.ref a) H
theorem A8o:SlR X (A9p X.K):=by
 intro d s σ H x v vl vu lo hi sl Q I k f g e h;obtain⟨a,xs,rfl,j,hw,q⟩:=h
 cases k
 obtain⟨i,r,c,hz⟩:=I.tuple j
 have b := by exact r.length.symm
 refine⟨"tuple",_,PyProof.Rows.slot_tuple_getitem.lookup,c.typeIs,?_⟩
 exact HT.Nj c f g e (by grind) ⟨.ref a,H,I,rfl,q⟩
end
theorem Vq (l:Addr)(items:Array Value)(n:Nat)(dd:Option Addr)(sl:Array (Option Value))(x:Value)(e:Value->Bool)(j:Nat)(hj:j<items.size)
 (p:e items[j]=true) (hno:∀m (hm:m<items.size),m<j->e items[m]=false) :
 Meets (Builtin.«tuple.index» ⟨[.ref l,x],[]⟩)
  (λA R s=>s.heap.get? l=some { cls:=.type "tuple",dict:=dd,data:=.seq items n,slots:=sl }/\(∀y,y∈items->SeqAt.EqAt A.in1 s y x (e y))/\R (.ok (.ret (.int j s.toks))) { s with toks:=s.toks+1 }) :=
 .of_wp λf w A R s h=>by
  obtain⟨hp,g,d,tk,os⟩:=s;obtain⟨hl,he,h⟩:=h
  wp_walk using wpAny_loadPart' hl
  change wpAny _ _ (forIn (m:=Sem) [:min items.size items.size] ((none,()):Option Fin×Unit) _) _ _ _
  rw[Std.Legacy.Range.forIn_eq_forIn_range'];simp only[Std.Legacy.Range.size,Nat.sub_zero,Nat.add_sub_cancel,Nat.div_one,Nat.min_self]
  refine wpAny_forIn_list _ (λa b s'=>b.1=none/\s'=⟨hp,g,d,tk,os⟩/\∃i,i<=j/\a=List.range' i (items.size-i)) _ ?_ ?_ _ _ ⟨rfl,rfl,0,Nat.zero_le _,rfl⟩
  ·rintro y a b s' ⟨hb,rfl,i,c,k⟩
   have o:i<items.size:=Nat.lt_of_le_of_lt c hj;have hd:items.size-i=(items.size-(i+1))+1:=(Nat.succ_pred_eq_of_pos (Nat.sub_pos_of_lt o)).symm;rw[hd,List.range'_succ]at k
   cases k
   have hg:items[y]?=some items[y]:=by simp[o]
   simp only[hg]
   refine wpAny_bind (he _ (Array.getElem_mem o) f w _ _ ?_)
   rcases Nat.lt_or_eq_of_le c with lt | rfl
   ·rw[hno y o lt]
    wp_walk
    exact⟨rfl,rfl,y+1,lt,rfl⟩
   ·rw[p]
    wp_walk
    exact⟨_,rfl,h⟩
  ·rintro⟨b1,b2⟩ s' ⟨hb,rfl,i,c,k⟩
   have hz:=congrArg List.length k
   simp at hz
   omega
section
variable {X:Cx}
theorem A0q (y:Str){ss:List Str} (r:Vals (ss.map V.str) us) (hm:m<us.length) (h2:m<ss.length):A9l y us[m]=(ss[m]==y):=by
 obtain⟨u,a,b⟩:=r.get (i:=m) (x:=V.str ss[m]) (by grind)
 obtain⟨t,rfl⟩:=b;rw[List.getElem?_eq_getElem hm]at a
 injection a with a
 rw[a];rfl
def Xp (K:PySem.W.Frag):V->List V->Hp->VK->Prop:=λx vs H Q=>∃(a:Addr) (ss:List Str) (y:Str) (j:Nat),x=.ref a/\vs=[.str y]/\SqT K H a (ss.map V.str)/\ss[j]?=some y/\(∀m<j,ss[m]?≠some y)/\Q (.int (j:Nat)) H
theorem Ax5:MtM X "tuple.index" (Xp X.K):=by
 intro i s σ H x vs v us Q I D A h;obtain⟨a,C,y,j,rfl,rfl,G,B,M,q⟩:=h
 cases D
 obtain⟨u,rfl,p⟩:=A.one;obtain⟨t,rfl⟩:=p;obtain⟨b,r,l,hz⟩:=I.tuple G
 obtain⟨o,e,k,n,f⟩:=(show s.heap.IsTuple a b.toArray from l)
 obtain⟨c0,dd,E,sl⟩:=o
 dsimp only at k f
 subst k f
 have c := by have:=r.length;simpa using this.symm
 obtain⟨g,ej⟩:=List.getElem?_eq_some_iff.mp B
 refine call_meets F.slot_tuple_index ⟨_,e,rfl⟩ F.entry_tuple_index (F.args_tuple_index_2 _ _) (Vq a _ n _ _ _ (A9l y) j (by simpa[c] using g) ?_ ?_) ⟨e,λw K=>?_,?_⟩
 ·have:=A0q y r (by omega) g
  simp_all
 ·intro m J L
  have:=A0q y r (by simpa using J) (by omega)
  grind
 ·obtain⟨z,t',rfl⟩:=Ar8 r w (by simpa using K)
  exact SeqAt.EqAt.str_str z _ y t
 ·exact⟨.int _,H,I.tok _,⟨_,rfl⟩,q⟩
theorem Ae3 (a:X.K=Kq):MtM X "tuple.index" (Xp Kq):=by
 subst a;exact Ax5
end
section
def J5 (ks:List Str)(xs:List V):List (Key×V):=(ks.zip xs).map λp=>((Sum.inr p.1:Key),p.2)
end
end L2
namespace L2
open PySem PySem.Spec PyProof.Rows PySem.W
section
open PySem.SeqAt
open PySem.AutoSeq1 (wpAny_loadPart')
open PySem.MeetsSeq PySem.MeetsSeq2 PySem.MeetsSeq3
theorem Aw3 (l b:Addr)(items c:Array Value)(n T:Nat)(dd D:Option Addr)(N G:Array (Option Value))(r:Bool)(k:Nat) :
 ∀
  (i:Nat) (vs z:List Value),items.toList.drop i=vs->c.toList.drop i=z->i<=items.size->i<=c.size->vs.length=k->Meets (Builtin.«list.__eq__.loop» ⟨[.ref l,.ref b,rawInt i,rawInt 0],[]⟩)
  (λA R s=>s.heap.get? l=some { cls:=.type "list",dict:=dd,data:=.seq items n,slots:=N }/\s.heap.get? b=some { cls:=.type "list",dict:=D,data:=.seq c T,slots:=G } /\
   Nk false A.in1 s vs z r/\R (.ok (.ret (.bool r))) s):=by
 have m:∀{f:Array Value} {i:Nat},f.toList.drop i=[]->f[((i:Nat):Int).toNat]?=none:=λ{f i} e=>by
  have:=List.drop_eq_nil_iff.mp e
  simp at this ⊢;omega
 have a:∀{f:Array Value} {i:Nat} {x:Value} {r:List Value},f.toList.drop i=x::r->f[((i:Nat):Int).toNat]?=some x/\f.toList.drop (i+1)=r/\i<f.size:=λ{f i x r} e=>by
  have J:i<f.size:=by
   rcases Nat.lt_or_ge i f.size with h | h
   ·exact h
   ·rw[List.drop_eq_nil_of_le (by simpa using h)]at e;cases e
  rw[List.drop_eq_getElem_cons (by simpa using J)]at e
  injection e with e1 e2
  exact⟨by simp[J];simpa using e1,e2,J⟩
 induction k with
 | zero =>
  intro i vs z t q S P y j w A R s h;obtain⟨H,g,d,B,I⟩:=s;obtain⟨o,p,L,h⟩:=h;have C:vs=[]:=List.length_eq_zero_iff.mp y;subst C
  wp_walk using wpAny_loadPart' o,wpAny_loadPart' p
  rw[m t]
  have V:items.size=i:=by have:=List.drop_eq_nil_iff.mp t;simp at this;omega
  wp_walk using wpAny_loadPart' o,wpAny_loadPart' p
  show R (.ok (.ret (.bool (decide (items.size<c.size))))) _
  have C:decide (items.size<c.size)=r:=by
   cases L with
   | nn=>have:=List.drop_eq_nil_iff.mp q;simp at this;exact decide_eq_false (by omega)
   | nc=>exact decide_eq_true (by have:=(a q).2.2;omega)
  rw[C];exact h
 | succ k O =>
  intro i vs z t q S P y j w A R s h;obtain⟨H,g,d,B,I⟩:=s;obtain⟨o,p,L,h⟩:=h
  cases L with
  | nn=>cases y
  | nc=>cases y
  | cn =>
   wp_walk using wpAny_loadPart' o,wpAny_loadPart' p
   rw[(a t).1,m q]
   wp_walk using wpAny_loadPart' o,wpAny_loadPart' p
   show R (.ok (.ret (.bool (decide (items.size<c.size))))) _
   have:=(a t).2.2;have:=List.drop_eq_nil_iff.mp q
   simp at this
   rw[decide_eq_false (by omega)];exact h
  | eq K M =>
   have u:=a t;have v:=a q
   have U:((i:Int)+1)=((i+1:Nat):Int):=by push_cast;rfl
   wp_walk using wpAny_loadPart' o,wpAny_loadPart' p
   rw[u.1,v.1]
   refine wpAny_bind (K j w _ _ ?_)
   wp_walk
   rw[U]
   exact⟨plainId_quiet plain_eq_loop _,codeAny_builtin entry_eq_loop (by
    rw[Around.under_plainId plain_eq_loop _]
    exact O (i+1) _ _ u.2.1 v.2.1 u.2.2 v.2.2 (by simpa using y) j w A R _ ⟨o,p,M,h⟩)⟩
  | ne K M =>
   have u:=a t;have v:=a q
   wp_walk using wpAny_loadPart' o,wpAny_loadPart' p
   rw[u.1,v.1]
   refine wpAny_bind (K j w _ _ ?_)
   have F:∀(E:Value->Shared->Prop) (Q:Value->Shared->Prop),Q (.bool r) ⟨H,g,d,B,I⟩->wpAny (model j w) A.in1 (richCompare .Lt _ _) Q E ⟨H,g,d,B,I⟩:=M j w
   wp_walk using wpAny_loadPart' o,wpAny_loadPart' p
   rw[u.1,v.1]
   wp_walk using F
   simpa using h
theorem At2 (l b:Addr)(items a:Array Value)(n f:Nat)(dd e:Option Addr)(i c:Array (Option Value))(r:Bool) :
 Meets (Builtin.«list.__lt__» ⟨[.ref l,.ref b],[]⟩)
  (λA R s=>s.heap.get? l=some { cls:=.type "list",dict:=dd,data:=.seq items n,slots:=i }/\s.heap.get? b=some { cls:=.type "list",dict:=e,data:=.seq a f,slots:=c } /\
   Nk false A.in1 s items.toList a.toList r/\R (.ok (.ret (.bool r))) s):=by
 intro k w A R s h;obtain⟨q,g,d,t,u⟩:=s;obtain⟨j,m,o,h⟩:=h;have p:=AutoSeq1.sub_list_list
 wp_walk using wpAny_loadPart' j,wpAny_loadPart' m
 exact⟨plainId_quiet plain_eq_loop _,codeAny_builtin entry_eq_loop (by
  rw[Around.under_plainId plain_eq_loop _]
  exact Aw3 l b items a n f dd e i c r _ 0 _ _ rfl rfl (Nat.zero_le _) (Nat.zero_le _) rfl _ w A R _ ⟨j,m,o,h⟩)⟩
end
noncomputable def kEv {α:Type} (B:Nat->Nat->Option Bool):KasT α->Option α
 | .ret a=>some a
 | .ask i j k=>(B i j).bind λb=>kEv B (k b)
theorem Ae7 {α:Type}{cmp:Nat->Nat->(Bool->Shared->Prop)->Shared->Prop}{B:Nat->Nat->Option Bool}{s:Shared}(hc:∀i j b C,B i j=some b->C b s->cmp i j C s){G:α->Shared->Prop} :
 ∀(t:KasT α) (a:α),kEv B t=some a->G a s->t.kasWp cmp G s
 | .ret a,a',e,g=>by cases e;exact g
 | .ask i j k,a',e,g=>by
  obtain⟨b,e1,e2⟩:=Option.bind_eq_some_iff.mp (show (B i j).bind (λb=>kEv B (k b))=some a' from e)
  exact hc i j b _ e1 (Ae7 hc (k b) a' e2 g)
noncomputable def Af8 (b:Bool):PyData->Bool
 | .tuple (.int _::_)=>b
 | .tuple (.tuple _::_)=>!b
 | _=>false
section
variable {prog:Program}{w:World}{A:Around}{E:Value->Shared->Prop}{s:Shared}{b fin:Bool}{Q:Bool->Shared->Prop}
theorem X7:∀{vs ws:List Value}{r:Bool},Nk false A s vs ws r->∀i,(b&&i==0)=false->fin=decide (vs.length<ws.length)->Q r s->KatLex prog w A b fin Q (vs.zip ws) i s
 | _,_,_,.nn,i,_,hf,h=>by
  have e:fin=false:=hf;subst e;exact kat_nil h
 | _,_,_,.nc (y:=y) (ys:=ys),i,_,hf,h=>by
  have e:fin=true:=hf.trans (decide_eq_true (by rw[List.length_nil,List.length_cons];omega))
  subst e;exact kat_nil h
 | _,_,_,.cn (x:=x) (xs:=xs),i,_,hf,h=>by
  have e:fin=false:=hf.trans (decide_eq_false (by rw[List.length_nil,List.length_cons];omega))
  subst e;exact kat_nil h
 | _,_,_,.eq he hr,i,hi,hf,h=>kat_cons (he prog w _ _ (kat_yes (X7 hr (i+1) (by simp) (hf.trans (by simp)) h)))
 | _,_,_,.ne he hr,i,hi,hf,h=>kat_cons (he prog w _ _ (kat_no (by rw[hi];exact kat_one _ _ (hr prog w _ _ h))))
theorem Bv5 (m:ReadsAll s.heap us (.int i::xs) k) (o:ReadsAll s.heap vs (.int j::ys) bs) (p:PyData.canLayAll0 (.int i::xs)=true) (g:PyData.canLayAll0 (.int j::ys)=true)
 (hu:A.units+PyData.depthAll (.int i::xs)<cLine) (hc:Vf false (.int i::xs) (.int j::ys)=some r) (hf:fin=decide (us.length<vs.length)) (h:Q r s):KatLex prog w A true fin Q (us.zip vs) 0 s:=by
 cases m with
 | cons c l =>
  cases o with
  | cons d n =>
   have b:=Bool.and_eq_true_iff.mp p;have a:=Bool.and_eq_true_iff.mp g;have q:A.units+max (PyData.int i).depth (PyData.depthAll xs)<cLine:=hu
   have e:=SeqAt.eqAt_reads (.int i) (.int j) A s _ _ _ _ c d b.1 a.1 (by omega)
   rw[Vf]at hc
   by_cases he:PyData.eqv (.int i) (.int j)=true
   ·rw[if_pos he]at hc
    rw[he]at e
    exact kat_cons (e prog w _ _ (kat_yes (X7 (N8 false xs ys A s _ _ _ _ r l n b.2 a.2 (by omega) hc) 1 (by simp) (hf.trans (by simp)) h)))
   ·rw[if_neg he]at hc
    rw[Bool.not_eq_true _ |>.mp he]at e
    refine kat_cons (e _ w _ _ (kat_no ?_))
    cases c
    cases d
    have f := by simpa[G6] using hc
    rw[<- f]at h;exact(kat_lt_int h:wpAny _ A _ Q _ s)
theorem A3h (t:Reads s.heap u a n) (x:Reads s.heap v d bs) (f:a.canLay0=true) (e:d.canLay0=true)
 (fa:Af8 b a=true) (fb:Af8 b d=true) (hu:A.units+a.depth<cLine) (hc:G6 false a d=some r) (h:Q r s):wpAny (model prog w) A (keyLt' (tuples' b) u v) Q E s:=by
 cases a with
 | tuple l =>
  cases d with
  | tuple m =>
   cases t with
   | tuple o B q g =>
    cases x with
    | tuple p z y k =>
     have c:A.units+(PyData.depthAll _+1)<cLine:=hu
     refine kat_lt o q p y ?_
     cases b with
     | false=>exact X7 (N8 _ _ _ A s _ _ _ _ r g k f e (by omega) hc) 0 rfl (by simp) h
     | true =>
      match l,m,fa,fb,g,k,f,e,c,hc with
      | .int i::l,.int j::m,_,_,g,k,f,e,c,hc=>exact Bv5 g k f e (by omega) hc (by simp) h
  | _=>cases fb
 | _=>cases fa
end
inductive Kd where
 | ti | tt | tl | ii | ll
noncomputable def Jy:Kd->PyData->Bool
 | .ti,.tuple (.int _::_)=>true
 | .tt,.tuple (.tuple _::_)=>true
 | .tl,.tuple (.list _::_)=>true
 | .ii,.int _=>true
 | .ll,.list _=>true
 | _,_=>false
theorem Ip (h:Jy kd d=true):match kd with
 | .ti=>∃i xs,d=.tuple (.int i::xs)
 | .tt=>∃ys xs,d=.tuple (.tuple ys::xs)
 | .tl=>∃ys xs,d=.tuple (.list ys::xs)
 | .ii=>∃i,d=.int i
 | .ll=>∃xs,d=.list xs:=by
 unfold Jy at h
 split at h
 ·exact⟨_,_,rfl⟩
 ·exact⟨_,_,rfl⟩
 ·exact⟨_,_,rfl⟩
 ·exact⟨_,rfl⟩
 ·exact⟨_,rfl⟩
 ·cases h
noncomputable def kdK:Kd->SortKind
 | .ti=>tuples' true
 | .tt=>tuples' false
 | .tl=>tuples' true
 | .ii=>oneType'
 | .ll=>oneType'
def Br4 (x y:PyData):Option Bool:=match x,y with
 | .tuple (.list a::xs),.tuple (.list b::ys)=>if PyData.eqv (.list a) (.list b)=true then Vf false xs ys else Vf false a b
 | _,_=>none
def Bq2 (x y:PyData):Option Bool:=match x,y with
 | .list a,.list b=>Vf false a b
 | _,_=>none
def A8n (kd:Kd)(x y:PyData):Option Bool:=match kd with
 | .tl=>Br4 x y
 | .ll=>Bq2 x y
 | _=>G6 false x y
def Zv (kd:Kd)(ds:List PyData)(i j:Nat):Option Bool:=match ds[i]?,ds[j]? with
 | some x,some y=>A8n kd x y
 | _,_=>none
section
variable {prog:Program}{w:World}{A:Around}{E:Value->Shared->Prop}{s:Shared}{fin:Bool}{Q:Bool->Shared->Prop}
theorem Tg (h1:s.heap.get? l=some o) (h2:o.cls=.type "list") (f:o.data=.seq items n) (g:s.heap.get? b=some c) (i:c.cls=.type "list") (k:c.data=.seq a p)
 (hx:Nk false A.in1 s items.toList a.toList r) (hu:A.units<cLine) (h:Q r s):wpAny (model prog w) A (oneLt' true (.ref l) (.ref b)) Q E s:=by
 obtain⟨q,u,m,v⟩:=o;obtain⟨t,j,d,e⟩:=c;subst h2 f i k
 refine wpAny_bind (wpAny_cRoomFor hu ?_)
 refine wpAny_bind (wpAny_callSpecialIfBound?_slot ⟨_,h1,rfl⟩ F.slot_list_lt (call_meets F.slot_list_lt ⟨_,h1,rfl⟩ F.entry_list_lt (F.args_list_lt_2 _ _) (At2 l b _ _ n _ _ _ _ _ r) ⟨h1,g,hx,?_⟩))
 exact wpAny_truthy_bool h
theorem Bu8 (k:ReadsAll s.heap us (.list a::xs) p) (m:ReadsAll s.heap vs (.list b::ys) bs) (o:PyData.canLayAll0 (.list a::xs)=true) (j:PyData.canLayAll0 (.list b::ys)=true)
 (hu:A.units+PyData.depthAll (.list a::xs)<cLine) (hc:Br4 (.tuple (.list a::xs)) (.tuple (.list b::ys))=some r) (hf:fin=decide (us.length<vs.length)) (h:Q r s):KatLex prog w A true fin Q (us.zip vs) 0 s:=by
 cases k with
 | cons g l =>
  cases m with
  | cons f n =>
   have c:=Bool.and_eq_true_iff.mp o;have d:=Bool.and_eq_true_iff.mp j;have q:A.units+max (PyData.list a).depth (PyData.depthAll xs)<cLine:=hu;have C:(PyData.list a).depth=PyData.depthAll a+1:=rfl
   have e:=SeqAt.eqAt_reads (.list a) (.list b) A s _ _ _ _ g f c.1 d.1 (by omega)
   have hc:(if PyData.eqv (.list a) _=true then Vf _ _ _ else Vf _ a b)=some r:=hc
   by_cases he:PyData.eqv (.list a) (.list b)=true
   ·rw[if_pos he]at hc
    rw[he]at e
    exact kat_cons (e _ w _ _ (kat_yes (X7 (N8 _ _ _ A s _ _ _ _ r l n c.2 d.2 (by omega) hc) 1 (by simp) (hf.trans (by simp)) h)))
   ·rw[if_neg he]at hc
    rw[Bool.not_eq_true _ |>.mp he]at e
    refine kat_cons (e _ w _ _ (kat_no ?_))
    cases g with
    | list u v x t =>
     cases f with
     | list z y B i=>exact Tg u v x z y B (N8 _ a b _ s _ _ _ _ r t i c.1 d.1 (by grind) hc) (by omega) h
theorem Ap8 (d:Reads s.heap u a F) (e:Reads s.heap v l bs) (m:a.canLay0=true) (k:l.canLay0=true)
 (fa:Jy kd a=true) (fb:Jy kd l=true) (hu:A.units+a.depth<cLine) (hc:A8n kd a l=some r) (h:Q r s):wpAny (model prog w) A (keyLt' (kdK kd) u v) Q E s:=by
 have c:=Ip fa;have f:=Ip fb
 cases kd with
 | ti =>
  obtain⟨i,g,rfl⟩:=c;obtain⟨j,n,rfl⟩:=f;exact A3h (b:=true) d e m k rfl rfl hu hc h
 | tt =>
  obtain⟨i,g,rfl⟩:=c;obtain⟨j,n,rfl⟩:=f;exact A3h (b:=false) d e m k rfl rfl hu hc h
 | tl =>
  obtain⟨i,g,rfl⟩:=c;obtain⟨j,n,rfl⟩:=f
  cases d with
  | tuple t B x o =>
   cases e with
   | tuple p C q y =>
    refine kat_lt t x p q (Bu8 o y m k ?_ hc (by simp) h)
    have z:A.units+(PyData.depthAll (.list i::g)+1)<cLine:=hu;omega
 | ii =>
  obtain⟨i,rfl⟩:=c;obtain⟨j,rfl⟩:=f
  cases d
  cases e
  have D:decide (i<j)=r:=by simpa[A8n,G6] using hc
  rw[<- D]at h;exact kat_lt_int h
 | ll =>
  obtain⟨g,rfl⟩:=c;obtain⟨n,rfl⟩:=f
  cases d with
  | list t B x o =>
   cases e with
   | list p C q y =>
    have z:A.units+(PyData.depthAll g+1)<cLine:=hu
    show wpAny (model prog w) A (keyLt' oneType' _ _) Q E s
    rw[keyLt'_oneType]
    exact Tg t B x p C q (N8 _ _ _ _ s _ _ _ _ r o y m k (by show A.units+1+_<_;omega) hc) (by omega) h
end
section
variable {M:Model}{A:Around}{E:Value->Shared->Prop}{s:Shared}
noncomputable def tyK (b:Bool):Value:=if b then .type "int" else .type "tuple"
theorem Td (r:ReadsAll h vs (d::ds) a):∃v as',vs[0]?=some v/\Reads h v d as':=by
 cases r with
 | cons c b=>grind
theorem Ti {h:Heap}{b:Bool}:∀{us:List Value}{ds:List PyData}{as:List Addr},ReadsAll h us ds as->ds.all (Af8 b)=true->∃fs,KatTups h us fs/\fs.length=us.length/\∀v∈fs,Looks M h (typeOf v) (tyK b)
 | _,_,_,.nil,_=>⟨[],trivial,rfl,λv z=>nomatch z⟩
 | _,_,_,.cons (d:=d) r1 r2,hb=>by
  obtain⟨h1,h2⟩:=Bool.and_eq_true_iff.mp (show (Af8 b d&&_)=true from hb)
  obtain⟨fs,t,l,k⟩:=Ti r2 h2
  cases d with
  | tuple xs =>
   cases r1 with
   | tuple e1 e2 e3 e4 =>
    match xs,h1,e4 with
    | .int i::xs,h1,e4 =>
     obtain⟨v,as',f1,f2⟩:=Td e4;have hb':b=true:=h1;subst hb'
     cases f2 with
     | int i t0=>
      exact⟨.int i t0::fs,KatTups.cons e1 e2 e3 (by rw[<- Array.getElem?_toList];exact f1) t,by rw[List.length_cons,List.length_cons,l],λv hv=>by
       rcases List.mem_cons.mp hv with rfl | hv
       ·exact Looks.now
       ·exact k v hv⟩
    | .tuple ys::xs,h1,e4 =>
     obtain⟨v,as',f1,f2⟩:=Td e4
     have hb':b=false:=by simpa[Af8] using h1
     subst hb'
     cases f2 with
     | tuple g1 g2 g3 g4=>
      exact⟨_::fs,KatTups.cons e1 e2 e3 (by rw[<- Array.getElem?_toList];exact f1) t,by rw[List.length_cons,List.length_cons,l],λv hv=>by
       rcases List.mem_cons.mp hv with rfl | hv
       ·have q:=(Looks.ld (M:=M) (part:=none) g1).andThen (f:=λo=>pure o.cls) .now
        rw[g2]at q;exact q
       ·exact k v hv⟩
  | _=>cases h1
theorem Aa4 (r:ReadsAll s.heap us ds a) (hb:ds.all (Af8 b)=true) (d:0<us.length) (h:Q (tuples' b) s):wpAny M A (keyKind' us.toArray) Q E s:=by
 obtain⟨c,t,l,k⟩:=Ti r hb
 refine kat_kind t (by omega) k (by simp_all) ?_
 cases b <;> exact h
theorem Z4 {h:Heap}:∀{us:List Value}{ds:List PyData}{as:List Addr},ReadsAll h us ds as->ds.all (Jy .tl)=true->∃fs,KatTups h us fs/\fs.length=us.length/\∀v∈fs,Looks M h (typeOf v) (.type "list")
 | _,_,_,.nil,_=>⟨[],trivial,rfl,λv z=>nomatch z⟩
 | _,_,_,.cons (d:=d) r1 r2,hb=>by
  obtain⟨h1,h2⟩:=Bool.and_eq_true_iff.mp (show (Jy .tl d&&_)=true from hb)
  obtain⟨fs,t,l,k⟩:=Z4 r2 h2;obtain⟨_,_,rfl⟩:=Ip h1
  cases r1 with
  | tuple e1 e2 e3 e4 =>
   obtain⟨v,as',f1,f2⟩:=Td e4
   cases f2 with
   | list g1 g2 g3 g4=>
    exact⟨_::fs,KatTups.cons e1 e2 e3 (by rw[<- Array.getElem?_toList];exact f1) t,by rw[List.length_cons,List.length_cons,l],λv hv=>by
     rcases List.mem_cons.mp hv with rfl | hv
     ·have q:=(Looks.ld (M:=M) (part:=none) g1).andThen (f:=λo=>pure o.cls) .now
      rw[g2]at q;exact q
     ·exact k v hv⟩
theorem Zz {h:Heap}:∀{us:List Value}{ds:List PyData}{as:List Addr},ReadsAll h us ds as->ds.all (Jy .ll)=true->∀v∈us,Looks M h (typeOf v) (.type "list")
 | _,_,_,.nil,_,v,z=>nomatch z
 | _,_,_,.cons (d:=d) r1 r2,hb,v,hv=>by
  obtain⟨h1,h2⟩:=Bool.and_eq_true_iff.mp (show (Jy .ll d&&_)=true from hb)
  rcases List.mem_cons.mp hv with rfl | hv
  ·obtain⟨_,rfl⟩:=Ip h1
   cases r1 with
   | list g1 g2 g3 g4 =>
    have q:=(Looks.ld (M:=M) (part:=none) g1).andThen (f:=λo=>pure o.cls) .now
    rw[g2]at q;exact q
  ·exact Zz r2 h2 v hv
theorem ints_of {h:Heap}:∀{us:List Value}{ds:List PyData}{as:List Addr},ReadsAll h us ds as->ds.all (Jy .ii)=true->∃ns,IntsAre us ns
 | _,_,_,.nil,_=>⟨[],.nil⟩
 | _,_,_,.cons (d:=d) r1 r2,hb=>by
  obtain⟨h1,h2⟩:=Bool.and_eq_true_iff.mp (show (Jy .ii d&&_)=true from hb)
  obtain⟨ns,t⟩:=ints_of r2 h2;obtain⟨_,rfl⟩:=Ip h1
  cases r1 with
  | int i t0=>exact⟨_::ns,.cons _ _ t⟩
theorem Al8 : ∀{ds:List PyData},ds.all (Jy (if b then .ti else .tt))=true->ds.all (Af8 b)=true:=λ{ds} h=>by
 rw[List.all_eq_true]at h ⊢;intro d a;have:=Ip (h d a)
 cases b
 ·obtain⟨_,_,rfl⟩:=this;rfl
 ·obtain⟨_,_,rfl⟩:=this;rfl
theorem Z6 (r:ReadsAll s.heap us ds c) (hb:ds.all (Jy kd)=true) (a:2<=us.length) (h:Q (kdK kd) s):wpAny M A (keyKind' us.toArray) Q E s:=by
 cases kd with
 | ti=>exact Aa4 (b:=true) r (Al8 hb) (by omega) h
 | tt=>exact Aa4 (b:=false) r (Al8 hb) (by omega) h
 | tl =>
  obtain⟨e,t,l,k⟩:=Z4 r hb
  exact kat_kind t (by omega) k (by rfl) h
 | ii =>
  obtain⟨d,t⟩:=ints_of r hb
  rw[ksk_kind (by assumption) (by trivial)]
  exact wpAny_pure h
 | ll=>exact kas_kind a (Zz r hb) (by rfl) (by rfl) h
theorem Wj {body:Value->PUnit->Sem (ForInStep PUnit)}{Iv:List Value->Shared->Prop}(step:∀x rest s,Iv (x::rest) s->wpAny M A (body x ⟨⟩) (λr s'=>r=.yield ⟨⟩/\Iv rest s') E s) :
 ∀(l:List Value) (s:Shared),Iv l s->wpAny M A (forIn l PUnit.unit body) (λ_ s'=>Iv [] s') E s
 | [],s,h=>by rw[List.forIn_nil];exact wpAny_pure h
 | x::l,s,h=>by
  rw[List.forIn_cons]
  refine wpAny_bind (wpAny_mono (step x l s h) (λq s' hq=>?_) λ_ _ z=>z)
  obtain⟨rfl,h'⟩:=hq;exact Wj step l s' h'
end
section
variable {X:Cx}{pins:List (Addr×Obj)}{σ:St}{H:Hp}{s:Shared}{h':Heap}
theorem Inv.adopt (I:Inv X pins σ H s) (k:∀b u,b≠D->s.heap.get? b=some u->h'.get? b=some u) (hn:H D=none) (h:D≠X.env.locals) (h1:X.s₀.heap.objs.size<=D)
 (h2:∀x c,X.env.cells.lookup x=some c->c≠D) (A:∀p∈X.pn++pins,p.1≠D) (i:z8 X.prog X.w (upd H D o) h' D o):Inv X pins σ (upd H D o) { s with heap:=h',toks:=t' }:=by
 have a:∀b u,H b=some u->b≠D:=λb u e z=>by simp_all
 refine I.step (g':=s.gens) (d':=s.drawn) (ch:=[D]) (λb f=>?_) (λb o _ _ d e _=>k b o (λz=>d (by simp[z])) e) (λb o _ _ d e _=>⟨o.slots,k b o (λz=>d (by grind)) e⟩) (λb o d e n=>by rw[Ar (λz=>d (by simp[z]))];exact n)
  (λb o d e=>⟨o,k b o (λz=>d (by grind)) e⟩) (λb g e=>by rw[Ar (a _ _ e)];exact e) (λb _ _ e=>by rw[Ar (a _ _ e)];exact e) (λb y e=>by rw[Ar (a _ _ e)];exact e) (λm j=>?_) (λb u e=>?_) I.bare
 ·grind
 ·obtain⟨o,t,l,w,r⟩:=j
  exact⟨o,t,l,k _ o (Ne.symm h) w,r⟩
 ·by_cases f:b=D
  ·subst f;rw[Bw]at e;grind
  ·rw[Ar f]at e
   refine (I.hok b u e).stay (λc v d q=>k c v ?_ q) (λc q=>by rw[Ar (a _ _ q)];exact q) (λc g q=>by rw[Ar (a _ _ q)];exact q) λc B g q=>by rw[Ar (a _ _ q)];exact q
   grind
theorem A8m (F:FnOk X.prog X.w X.K X.mg X.base CX0 k f a ps sp) (hr:Room (k+2) X.A) (hb:Binds X.K a ps [])
 (I:Inv X pins σ H s) (r:Vals vs us) (h:sp vs H Q E0):wpAny (model X.prog X.w) X.A.in1.in1 (call (.ref f) us) (EP X pins σ Q) E s:=by
 have c:(us++[]).length=ps.length:=by rw[List.append_nil,<- r.length];exact F.len _ _ _ _ h
 refine wpAny_call (codeAny_mono (F.run _ _ s H _ _ _ Q _ hr.in1.in1 I.env0.in1.in1 (hb s _ I.kIn c) (by grind) h) λr g d=>?_)
 cases r with
 | error e=>trivial
 | ok b =>
  cases b with
  | ret u=>exact I.after d
  | next=>assumption
  | brk=>assumption
  | cont=>trivial
end
def Ri (Ky:V->Hp->VK->Prop):List V->List V->Hp->(List V->Hp->Prop)->Prop
 | [],ks,H,k=>k ks H
 | x::xs,ks,H,k=>Ky x H (λkv H1=>Ri Ky xs (ks++[kv]) H1 k)
abbrev Ap7 (sp:Sp):List V->List V->Hp->(List V->Hp->Prop)->Prop:=Ri λx H Q=>sp [x] H Q E0
def V1 (vs ks:List V)(H:Hp)(Q:VK):Prop :=
 (vs.length<2/\∀p,H p=none->Q (.ref p) (upd H p (.lst vs))) \/
 (2<=vs.length/\vs.length<64/\∃ds kd p,TrL H ds ks/\ds.all (Jy kd)=true/\(∀d∈ds,Flat d)/\kEv (Zv kd ds) (kas_sort vs.length)=some p/\∀l,H l=none->Q (.ref l) (upd H l (.lst (p.toList.map λi=>vs.getD i .non))))
theorem Ar2:∀{vs:List V}{us:List Value},Vals vs us->∀i,RelV (vs.getD i .non) (us.getD i Value.none)
 | _,_,.nil,i=>rfl
 | _,_,.cons r rs,0=>r
 | _,_,.cons r rs,i+1=>Ar2 rs i
theorem Qs {vs:List V}{us:List Value}(r:Vals vs us):∀l:List Nat,Vals (l.map λi=>vs.getD i .non) (l.map λi=>us.getD i Value.none)
 | []=>.nil
 | i::l=>.cons (Ar2 r i) (Qs r l)
theorem Wf {v:V}{u:Value}(h:RelV v u):∀{vs:List V}{us:List Value},Vals vs us->Vals (vs++[v]) (us++[u])
 | _,_,.nil=>.cons h .nil
 | _,_,.cons r rs=>.cons r (Wf h rs)
theorem Mu {h:Heap}:∀{us:List Value}{ds:List PyData}{as:List Addr},ReadsAll h us ds as->∀{i:Nat}{d:PyData},ds[i]?=some d->∃as',Reads h (us.getD i Value.none) d as'
 | _,_,_,.nil,i,d,e=>by simp at e
 | _,_,_,.cons r rs,0,d,e=>by simp at e;subst e;exact⟨_,r⟩
 | _,_,_,.cons r rs,i+1,d,e=>Mu rs (by simpa using e)
section
variable {X:Cx}{pins:List (Addr×Obj)}{σ:St}{H:Hp}{s:Shared}{D S:Addr}{e1 n:Nat}{Q:VK}{P:PySem.Fin->Shared->Prop}{E:Value->Shared->Prop}{A:Around}
theorem Wl {d ous:List Value} {st:SortSt}(O:X.s₀.heap.objs.size<=D) (G:X.s₀.heap.objs.size<=S) (w:D≠S) (hp:∀p∈X.pn++pins,p.1≠S/\p.1≠D)
 (I:Inv X (pins++[(S,seqObj "list" d.toArray n),(D,seqObj "list" #[] e1)]) σ H s) (hz:outs.length<=sizeLine) (hk:d.length<=sizeLine)
 (ho:(arrOf st).map (·.2)=List.toArray ous) (hf:failedOf st=none) (B:Vals outs ous) (q:∀l,H l=none->Q (.ref l) (upd H l (.lst outs)))
 (F:∀s',EP X pins σ Q (.ref D) s'->P (.done (.ret .none)) s'):wpAny (model X.prog X.w) A (ksk_tail D false e1 (.ref S) st) P E s:=by
 obtain⟨j,k,m,J,N⟩:=I.pin (S,seqObj "list" d.toArray n) (List.mem_append_right _ (List.mem_append_right _ List.mem_cons_self));obtain⟨r,g,h,R,T⟩:=I.pin (D,seqObj "list" #[] e1) (List.mem_append_right _ (List.mem_append_right _ (List.mem_cons_of_mem _ List.mem_cons_self)))
 have f:∀x c,X.env.cells.lookup x=some c->c≠S/\c≠D:=λx c e=>by
  obtain⟨v,U,ho,K⟩:=I.cell x c e
  grind
 have L:Inv X pins σ H s:=I.pins_of λp hp=>I.pin p (List.mem_append_right _ (List.mem_append_left _ hp))
 have M:Inv X pins σ H { s with heap:=s.heap.update S (Obj.mapSeq λ_=>#[]) }:=L.turned (t':=s.toks) (λb o i e=>(Heap.get?_update_other s.heap _ (Ne.symm i)).trans e) k m (.inr G) (λx c e=>(f x c e).1) (λp a=>(hp p a).1)
 have t:(s.heap.update S (Obj.mapSeq λ_=>(#[]:Array Value))).get? D=some (seqObj "list" #[] e1):=(Heap.get?_update_other s.heap _ (Ne.symm w)).trans r
 obtain⟨C,y⟩:∃C,((s.heap.update S (Obj.mapSeq _)).update D (Obj.mapSeq λ_=>ous.toArray)).get? D=some _:=⟨_,get?_update_seq t _⟩
 have z:=B.length;unfold ksk_tail;rw[ho]
 refine wpAny_bind (listUpdate_at j rfl ?_ (by simp_all) (Nat.zero_le _))
 refine wpAny_bind (wpAny_letGo ?_)
 refine wpAny_bind (seqEpoch_at t rfl ?_)
 refine wpAny_bind (listUpdate_at t rfl ?_ (Nat.zero_le _) (by grind))
 rw[hf]
 simp
 refine wpAny_pure (F _ ⟨.ref D,upd H D _,?_,rfl,q D g⟩)
 exact M.adopt (λb u i e=>(Heap.get?_update_other _ _ (Ne.symm i)).trans e) g h O (λx c e=>(f x c e).2) (λp a=>(hp p a).2) ⟨hz,ous,C,B,y⟩
theorem A0y (hu:A.units+64<cLine) (R:X.s₀.heap.objs.size<=D) (M:X.s₀.heap.objs.size<=S) (h:D≠S) (hp:∀p∈X.pn++pins,p.1≠S/\p.1≠D)
 (I:Inv X (pins++[(S,seqObj "list" a.toArray n),(D,seqObj "list" #[] e1)]) σ H s) (hz:vs.length<=sizeLine) (m:Vals vs us) (rk:Vals ks a) (hl:a.length=us.length) (hw:V1 vs ks H Q)
 (L:∀d,EP X pins σ Q (.ref D) d->P (.done (.ret .none)) d):wpAny (model X.prog X.w) A (ksk_end D false us.toArray e1 (.ref S) a.toArray) P E s:=by
 have k:=m.length;unfold ksk_end;simp only[Bool.false_eq_true,if_false]
 rcases hw with ⟨Z,q⟩ | ⟨Z,U,w,T,p,t,u,g,f,q⟩
 ·have b:us.toArray.size<2:=by rw[List.size_toArray];omega
  rw[if_pos b,if_pos b]
  refine wpAny_bind (wpAny_pure ?_)
  rw[StateT.run_pure]
  refine wpAny_bind (wpAny_pure ?_)
  refine Wl R M h hp I hz (by omega) ?_ rfl m q L
  show (a.toArray.zip us.toArray).map (·.2)=us.toArray
  apply Array.ext';simp only[Array.toList_map,Array.toList_zip]
  exact List.map_snd_zip (l₁:=a) (l₂:=us) (by omega)
 ·have b:¬ us.toArray.size<2:=by rw[List.size_toArray];omega
  rw[if_neg b,if_neg b];obtain⟨as,v⟩:=t.reads I rk
  refine wpAny_bind (Z6 v u (by omega) ?_)
  have o:us.length<64:=by omega
  rw[k]at f
  refine wpAny_bind (wpAny_mono (kat_run (Q:=λc d=>d=s/\arrOf c=p.map (kas_item (a.toArray.zip us.toArray))/\failedOf c=none/\p.size=us.length) (G:=λF d=>F=p/\d=s) hl (by omega) o (λF c d y K a3 a4=>?_) (Ae7 (B:=Zv T w) (λi j r C e W=>?_) _ p f ⟨rfl,rfl⟩)) ?_ λ_ _ z=>z)
  ·obtain⟨rfl,rfl⟩:=a4
   exact⟨rfl,K,a3,y⟩
  ·unfold Zv at e
   cases ei:w[i]? with
   | none=>rw[ei]at e;cases e
   | some di =>
    cases ej:w[j]? with
    | none=>rw[ei,ej]at e;cases e
    | some dj =>
     rw[ei,ej]at e;obtain⟨y,r1⟩:=Mu v ei;obtain⟨K,r2⟩:=Mu v ej;have J := List.mem_of_getElem? ei;have O := List.mem_of_getElem? ej;have N:=g _ J
     exact Ap8 r1 r2 N.1 (g _ O).1 (List.all_eq_true.mp u _ J) (List.all_eq_true.mp u _ O) (by have:=N.2;omega) e W
  ·rintro⟨⟨⟩,c⟩ d ⟨rfl,x,hf,Y⟩
   refine Wl R M h hp I ?_ (by omega) (kat_snds hl x) hf (Qs m _) q L
   rw[List.length_map,Array.length_toList];omega
def Bf0 (X:Cx)(pins:List (Addr×Obj))(σ:St)(f:Addr)(Z:Hp->Prop)(Ky:V->Hp->VK->Prop):Prop :=
 ∀(pins':List (Addr×Obj)) (s:Shared) (H:Hp) (x:V) (u:Value) (Q':VK),Inv X (pins++pins') σ H s->Z H->RelV x u->Ky x H Q'->wpAny (model X.prog X.w) X.A.in1.in1 (call (.ref f) [u]) (EP X (pins++pins') σ λv H'=>Z H'/\Q' v H') (λ_ _=>False) s
theorem Aw9 (q:Bf0 X pins σ f Z C) (hr:Room (k+2) X.A)
 (U:X.s₀.heap.objs.size<=D) (J:X.s₀.heap.objs.size<=S) (t:D≠S) (hp:∀p∈X.pn++pins,p.1≠S/\p.1≠D)
 (I:Inv X (pins++[(S,seqObj "list" #[] 0),(D,seqObj "list" #[] e1)]) σ H s) (hZ:Z H) (hz:vs.length<=sizeLine) (o:Vals vs us) (h:Ri C vs [] H (λks c=>V1 vs ks c Q))
 (hP:∀r,EP X pins σ Q (.ref D) r->P (.done (.ret .none)) r):wpAny (model X.prog X.w) X.A.in1.in1 (ksk_rest D (.ref f) false us.toArray e1 (.ref S)) P E s:=by
 have G:=o.length;unfold ksk_rest
 refine wpAny_bind (wpAny_rule ?_)
 rw[<- Array.forIn_toList]
 refine wpAny_bind (wpAny_mono (Wj (Iv:=λb s=>∃ks a n c i,Inv X (pins++[(S,seqObj "list" (List.toArray a) n),(D,seqObj "list" #[] e1)]) σ c s/\Vals ks a/\Vals i b/\a.length+b.length=us.length/\Z c/\Ri C i ks c (λks c=>V1 vs ks c Q)) ?_ us s ⟨[],[],0,H,vs,I,.nil,o,by simp,hZ,h⟩) (λ_ r T=>?_) λ_ _ z=>z)
 ·rintro x b s ⟨ks,a,n,c,i,g,u,w,K,e,m⟩
  rw[List.length_cons]at K
  cases w with
  | cons N Y =>
   refine wpAny_bind (wpAny_attempt (wpAny_mono (q _ s c _ x _ g e N m) (λj s2 h2=>?_) λ_ _ z=>z.elim))
   obtain⟨O,R,L,A,B,y⟩:=h2;obtain⟨l,t2,t3,W,t5⟩:=L.pin (S,seqObj "list" a.toArray n) (List.mem_append_right _ (List.mem_append_right _ List.mem_cons_self))
   have ea:(List.toArray a).push j=List.toArray (a++[j]):=by simp
   dsimp only
   refine wpAny_bind (listUpdate_at l rfl ?_ (by rw[List.size_toArray];omega) (by rw[Array.size_push,List.size_toArray];omega))
   have M:=get?_update_seq l (·.push j)
   rw[ea]at M
   refine wpAny_pure ⟨rfl,ks++[O],a++[j],_,R,_,L.recS J (λp d=>?_) (λp d=>(hp p (List.mem_append_left _ d)).1) M (λv z=>by cases z),Wf A u,Y,?_,B,y⟩
   ·grind
   ·rw[List.length_append,List.length_singleton];omega
 ·obtain⟨ks,a,n,c,i,g,u,F,K,e,m⟩:=T
  cases F
  obtain⟨l,t2,t3,W,t5⟩:=g.pin _ (List.mem_append_right _ (List.mem_append_right _ List.mem_cons_self))
  refine wpAny_bind (listItems_at l rfl ?_)
  have hu:X.A.in1.in1.units+64<cLine:=by have:=hr.un;show X.A.units+1+1+64<_;omega
  exact A0y hu U J t hp g hz o u (by omega) m hP
theorem U9 (F:Bf0 X pins σ f Z N) (hr:Room (k+2) X.A)
 (I:Inv X pins σ H s) (hZ:Z H) (A:SqL X.K H a vs\/SqT X.K H a vs) (h:Ri N vs [] H (λks H1=>V1 vs ks H1 Q)) :
 wpAny (model X.prog X.w) X.A (call (.builtin "sorted") [.ref a] [(Str.ofString "key",.ref f)]) (EP X pins σ Q) E s:=by
 obtain⟨d,T,o,n,t,hT,ho,J,hd,w⟩:∃(d:List Value) (T:String) (o:Obj) (n:Nat),Vals vs d/\(T = "list" \/ T = "tuple")/\s.heap.get? a=some o/\o.cls=.type T/\o.data=.seq d.toArray n/\vs.length<=sizeLine:=by
  rcases A with A | A
  ·obtain⟨d,t,⟨o,n,r,j,c,g4⟩,w⟩:=I.list A
   exact⟨d, "list",o,n,t,.inl rfl,r,j,by first | exact c | exact g4,w⟩
  ·obtain⟨d,t,it,w⟩:=I.tuple A
   obtain⟨o,r,j,n,c⟩:=it;exact⟨d, "tuple",o,n,t,.inr rfl,r,j,c,w⟩
 have O:=t.length
 refine call_function_entry_kw kind_sorted plain_sorted entry_sorted (ksk_s1 _ _) ?_
 unfold Builtin.«sorted»
 refine wpAny_bind (m:=checkCount "sorted" 1 1 _) (wpAny_pure ?_)
 refine wpAny_bind (wpAny_collect_seq a hT ho J hd (λg U=>?_) (by rw[List.size_toArray];omega))
 refine wpAny_bind (wpAny_newList ?_ (by simp;omega))
 have l:Inv X pins σ H { s with heap:=g }:=I.kept (t':=s.toks) U
 have le:∀b o,s.heap.get? b=some o->b<g.objs.size:=λb o e=>Heap.lt_size (U b o e)
 have P:X.s₀.heap.objs.size<=g.objs.size:=l.sz;generalize hg1:g.push (seqObj "list" d.toArray 0)=r
 have W:r.objs.size=g.objs.size+1:=by rw[<- hg1,size_push']
 have B:r.get? g.objs.size=some (seqObj "list" d.toArray 0):=by rw[<- hg1];exact Heap.get?_push_size _ rfl
 refine wpAny_bind (wpAny_holding (wpAny_call_entry_kw slot_list_sort ⟨_,B,rfl⟩ entry_list_sort ?_ (ksk_l1 _ _)))
 show wpAny (model X.prog X.w) X.A.in1.in1 (Builtin.«list.sort» ⟨[.ref g.objs.size],[(Str.ofString "key",.ref f)]⟩) _ _ _
 rw[ksk_t1];unfold ksk_tree
 refine wpAny_bind (listItems_at B rfl ?_)
 refine wpAny_bind (listUpdate_at B rfl ?_ (by rw[List.size_toArray];omega) (Nat.zero_le _))
 generalize hg2:r.update g.objs.size (Obj.mapSeq λ_=>(#[]:Array Value))=j
 obtain⟨C,x⟩:∃C,j.get? g.objs.size=some (seqObj "list" #[] C):=⟨_,by rw[<- hg2];exact get?_update_seq B λ_=>#[]⟩
 have Y:j.objs.size=g.objs.size+1:=by rw[<- hg2,Heap.size_update,W]
 refine wpAny_bind (seqEpoch_at x rfl ?_)
 refine wpAny_bind (wpAny_newTuple ?_ (by simp;omega))
 refine wpAny_bind (wpAny_newList ?_ (Nat.zero_le _))
 refine wpAny_holding ?_
 generalize hg3:j.push { cls:=.type "tuple",data:=.seq d.toArray.toList.toArray }=c
 have e3:c.objs.size=g.objs.size+2:=by rw[<- hg3,Heap.size_push,Y]
 have M:=l.fpOk (b:=g.objs.size) (Nat.le_refl _) (l.hok.fresh (Nat.le_refl _))
 have G:=l.fpOk (b:=c.objs.size) (by show g.objs.size<=_;omega) (l.hok.fresh (by show g.objs.size<=_;omega))
 have y:∀b u,g.get? b=some u->(c.push { cls:=.type "list",data:=.seq ([]:List Value).toArray }).get? b=some u:=λb u e=>by
  have K:b<g.objs.size:=Heap.lt_size e
  have q1:r.get? b=some u:=by rw[<- hg1];exact Heap.get?_push_of_some _ e
  have q2:j.get? b=some u:=by rw[<- hg2];exact(Heap.get?_update_other _ _ (Nat.ne_of_gt K)).trans q1
  have q3:c.get? b=some u:=by rw[<- hg3];exact Heap.get?_push_of_some _ q2
  exact Heap.get?_push_of_some _ q3
 have R:Inv X pins σ H { s with heap:=c.push { cls:=.type "list",data:=.seq ([]:List Value).toArray } }:=l.kept (t':=s.toks) y
 have gS:(c.push { cls:=.type "list",data:=.seq ([]:List Value).toArray }).get? c.objs.size=some (seqObj "list" #[] 0):=Heap.get?_push_size _ rfl
 have L:(c.push { cls:=.type "list",data:=.seq ([]:List Value).toArray }).get? g.objs.size=some (seqObj "list" #[] C):=Heap.get?_push_of_some _ (by rw[<- hg3];exact Heap.get?_push_of_some _ x)
 have I3:Inv X (pins++[(c.objs.size,seqObj "list" #[] 0),(g.objs.size,seqObj "list" #[] C)]) σ H { s with heap:=c.push { cls:=.type "list",data:=.seq ([]:List Value).toArray } }:=R.pins_of λp i=>by
  rcases List.mem_append.mp i with z | z
  ·exact R.pin p (List.mem_append_right _ z)
  ·rcases List.mem_cons.mp z with rfl | z
   ·exact⟨gS,G.1,G.2.1,G.2.2.1,λv z=>by cases z⟩
   ·rw[List.mem_singleton.mp z]
    exact⟨L,M.1,M.2.1,M.2.2.1,λv z=>by cases z⟩
 refine Aw9 (us:=d) (D:=g.objs.size) (S:=c.objs.size) F hr P (Nat.le_trans P (by omega)) (λz=>by have z:g.objs.size=c.objs.size:=z;omega) (λp i=>⟨λz=>?_,λz=>?_⟩) I3 hZ w t h λs' q=>⟨_,rfl,wpAny_pure ⟨_,rfl,q⟩⟩
 ·exact absurd (Heap.lt_size (l.pin p i).1) (by rw[z];show ¬ c.objs.size<g.objs.size;omega)
 ·exact absurd (Heap.lt_size (l.pin p i).1) (by rw[z];show ¬ g.objs.size<g.objs.size;omega)
theorem Ae0 (F:FnOk X.prog X.w X.K X.mg X.base CX0 k f c ps sp) (hr:Room (k+2) X.A) (hb:Binds X.K c ps [])
 (I:Inv X pins σ H s) (g:SqL X.K H a vs\/SqT X.K H a vs) (h:Ap7 sp vs [] H (λks e=>V1 vs ks e Q)) :
 wpAny (model X.prog X.w) X.A (call (.builtin "sorted") [.ref a] [(Str.ofString "key",.ref f)]) (EP X pins σ Q) E s :=
 U9 (λb s H x u m I _ r j=>wpAny_mono (A8m F hr hb I (.cons r .nil) j) (λ_ _ ⟨v,i,l,d,q⟩=>⟨v,i,l,d,trivial,q⟩) λ_ _ z=>z) hr I trivial g h
end
section
variable {X:Cx}{p pos:Pos}{e:Expr}{t tk:TA}{kws:List Keyword}
def Bj9 (K:PySem.W.Frag)(f:Addr)(sp:Sp)(t tk:TA):TE:=λσ H Q=>t σ H λvs H1=>tk σ H1 λzs H2=>∃a xs,vs=[.ref a]/\zs=[.ref f]/\(SqL K H2 a xs\/SqT K H2 a xs)/\Ap7 sp xs [] H2 (λks H3=>V1 xs ks H3 Q)
theorem A4m (F:FnOk X.prog X.w X.K X.mg X.base CX0 k f c ps sp) (hr:Room (k+2) X.A) (hb:Binds X.K c ps []) (hg:Gl X "sorted") (hm:X.mg "sorted" = none)
 (ha:PA X [e] t) (hkw:PK X kws tk) (hall:(backToKw pos (keywordEach kws X.env)).all (·.1.isSome)=true:=by rfl) (hks:(backToKw pos (keywordEach kws X.env)).filterMap (·.1)=[Str.ofString "key"]:=by rfl)
 (he:backTo pos (starEach [e] X.env)=(false,eval e X.env)::backTo pos (starEach [] X.env):=by rfl) (hpl:(backTo pos (starEach [e] X.env)).any (·.1)=false:=by rfl) (hno:(backToKw pos (keywordEach kws X.env)).any (·.1.isNone)=false:=by rfl) :
 PE X (.Call (.Name "sorted" p) [e] kws pos) (Bj9 X.K f sp t tk):=by
 intro b s σ H Q I h
 refine wpAny_Call_Name_kw (Je I hg hm boot_sorted ?_ (by decide) (by rfl))
 refine PyProof.Rows.callWith_kw (thn (ha _ _ s _ H _ I h) λus s1 ⟨vs,H1,j,r,q⟩=>?_) he hpl hall hno
 refine thn (hkw _ _ _ _ _ _ j q) λws s2 ⟨zs,H2,i,l,g⟩=>?_
 obtain⟨a,xs,rfl,rfl,n,m⟩:=g;obtain⟨u,rfl,o⟩:=vals1 r
 cases (o)
 obtain⟨uf,rfl,d⟩:=vals1 l
 cases (d)
 rw[hks];exact Ae0 F hr hb i n m
theorem A0c (a:X.K=Kq) (F:FnOk X.prog X.w X.K X.mg X.base CX0 k f b ps sp) (hr:Room (k+2) X.A) (hb:Binds X.K b ps []) (hg:Gl X "sorted") (hm:X.mg "sorted" = none)
 (ha:QA X [e] t) (hkw:QK X kws tk) (hall:(backToKw pos (keywordEach kws X.env)).all (·.1.isSome)=true:=by rfl) (hks:(backToKw pos (keywordEach kws X.env)).filterMap (·.1)=[Str.ofString "key"]:=by rfl)
 (he:backTo pos (starEach [e] X.env)=(false,eval e X.env)::backTo pos (starEach [] X.env):=by rfl) (hpl:(backTo pos (starEach [e] X.env)).any (·.1)=false:=by rfl) (hno:(backToKw pos (keywordEach kws X.env)).any (·.1.isNone)=false:=by rfl) :
 QE X (.Call (.Name "sorted" p) [e] kws pos) (Bj9 Kq f sp t tk):=by
 subst a;exact⟨A4m F hr hb hg hm ha.get hkw.get hall hks he hpl hno⟩
end
end L2
namespace L2
open PySem PySem.Spec PyProof.Rows
section
variable {X:Cx}
def Bt3:V->Option Int->Option Int->Hp->VK->Prop:=λx lo hi H Q=>∃z:Str,x=.str z/\z.length<=sizeLine/\Q (.str (Txt.slice z lo hi)) H
theorem part_of (h:IsPart v o):∃p:Option (Int×Tok),v=partValue p/\p.map (·.1)=o:=by
 cases h with
 | none=>exact⟨none,rfl,rfl⟩
 | int i t=>exact⟨some (i,t),rfl,rfl⟩
theorem Bd0:SlR X Bt3:=by
 intro a s σ H x v vl vu lo hi sl Q I d c b e h;obtain⟨z,rfl,f,q⟩:=h;obtain⟨t,rfl⟩:=d;obtain⟨l,rfl,rfl⟩:=part_of b;obtain⟨u,rfl,rfl⟩:=part_of e
 refine⟨"str",_,F.slot_str_getitem.lookup,typeIs_str _ _ _,wpAny_getItem_str_slice (l:=l) (u:=u) (st:=none) c rfl ?_⟩
 exact post_val_or_str ⟨Nat.le_trans (Txt.slice_le z _ _) f,λt' k=>⟨.str _,H,I.tok _,⟨_,rfl⟩,q⟩⟩
end
end L2
namespace L2
open PySem PySem.Spec PyProof.Rows PySem.W
section
noncomputable def Bv3 (a C:Addr) (d:Option Addr):HO:=.ext λh=>∃o,h.get? a=some o/\o.cls=.ref C/\o.dict=d/\∃vs,o.data=.fields vs
end
end L2
namespace L2
open PySem PySem.Spec PyProof.Rows
def TabAt (K:PySem.W.Frag)(h:Heap):Prop:=(∀p∈Ej K,h.get? p.1=some { cls:=.none,data:=.fields #[] }/\isCodeTable h p.1/\K.lookup p.1=none)/\∀p∈Ej K,(Ej K).lookup p.1=some p.2
theorem Jj {l:List (Addr×Str)} (h:l.lookup b=some q):(b,q)∈l:=by
 induction l with
 | nil=>grind
 | cons p r a =>
  grind
theorem At1 {K:PySem.W.Frag}
 (KX:K.In c.heap) (hns:c.heap.Ns mainGlobals mg) (hb:c.heap.Ns builtinsNs U) (X:∀x:Str,x ≠ "__name__" -> U x=bootBuiltins x) (L:c.heap.NoLimit) (hg:c.gens=#[])
 (T:∃j o,mg "__builtins__" = some (.ref j)/\j≠builtinsNs/\c.heap.get? j=some o/\o.cls=.type "module" /\ o.dict=some builtinsNs/\o.data=.plain) (D:TabAt K c.heap)
 (ha:c.heap.get? a=some { cls:=.type "list",data:=.seq vs.toArray }) (hi:IntsAre vs ns) (hl:ns.length<=sizeLine) (hr:Room k callerA)
 (F:∀base:Heap,K.In base->base.Ns mainGlobals mg->FnOk P w K mg base CX k fa fd [x] sp) (C:∀(s:Shared) (u:Value),BindsTo s fd ⟨[u],[]⟩ [(x,u)])
 (hsp:∀H:Hp,SqL K H a (ns.map V.int)->sp [.ref a] H (λv _=>v=.bl true) λ_ _ _=>False)
 (W:∀H e s',CX [] H c (λ_ _ _=>False) e s'->False) :
 codeAny (model P w) callerA (.call (.ref fa) ⟨[.ref a],[]⟩) (λr s'=>r=.ok (.ret (.bool true))/\OldK c.heap s'.heap/\s'.os=c.os/\AllBare s'.gens) c:=by
 have rv:=Wc hi;have E:=hi.length
 have Y:∀p∈Ej K,p.1≠a:=λp B z=>by
  have e:=(D.1 p B).1;rw[z,ha]at e;cases e
 have t:∀H:Hp,SqL K H a (ns.map V.int)->HOk P w H c.heap->(∀b u,H b=some u->(b=a/\K.lookup a=none/\∃o xs,u=.frz o (.lst xs))\/∃q,(b,q)∈Ej K/\u=.tbl q)->(∀p∈Ej K,H p.1=some (.tbl p.2)) ->
  codeAny (model P w) callerA (.call (.ref fa) ⟨[.ref a],[]⟩) (λr s'=>r=.ok (.ret (.bool true))/\OldK c.heap s'.heap/\s'.os=c.os/\AllBare s'.gens) c:=by
  intro H hS G hA hH
  have f:∀{b:Addr} {o:Obj},c.heap.get? b=some o->H b=none->(Vh c.heap H).get? b=some o:=λe n=>A5c e n
  have N:∀{b:Addr} {o:Obj},c.heap.get? b=some o->(∀x n,o.data≠.seq x n)->(∀x,o.data≠.fields x)->H b=none:=λ{b o} e d1 d2=>by
   cases q:H b with
   | none=>rfl
   | some u =>
    rcases hA b u q with ⟨z,_⟩ | ⟨y,O,_⟩
    ·rw[z,ha]at e;cases e;exact absurd rfl (d1 _ _)
    ·have g:=(D.1 _ O).1
     rw[e]at g;cases g;exact absurd rfl (d2 _)
  have l:∀{b:Addr} {m:Str->Option Value},c.heap.Ns b m->(Vh c.heap H).Ns b m:=λ{b m} ⟨o,es,ep,e,d,r⟩=>⟨o,es,ep,f e (N e (λx n z=>by rw[d]at z;cases z) λx z=>by rw[d]at z;cases z),d,r⟩
  have I:K.In (Vh c.heap H):=λb o e=>f (KX b o e) (by
   cases q:H b with
   | none=>rfl
   | some u =>
    rcases hA b u q with ⟨z,z2,_⟩ | ⟨y,O,_⟩
    ·rw[z,z2]at e;cases e
    ·rw[(D.1 _ O).2.2]at e;cases e)
  have Z:∃j o,mg "__builtins__" = some (.ref j)/\j≠builtinsNs/\j≠mainGlobals/\(Vh c.heap H).get? j=some o/\o.cls=.type "module" /\ o.dict=some builtinsNs/\o.data=.plain:=by
   obtain⟨j,o,b1,b2,Q,b4,b5,M⟩:=T
   refine⟨j,o,b1,b2,λz=>?_,f Q (N Q (λx n z=>by rw[M]at z;cases z) λx z=>by rw[M]at z;cases z),b4,b5,M⟩
   obtain⟨og,es,ep,e,d,_⟩:=hns;rw[z,e]at Q;cases Q;rw[d]at M;cases M
  have hM:Mod K mg (Vh c.heap H):=⟨I,l hns,⟨U,l hb,X⟩,(let ⟨mc,h1,h2⟩:=L; ⟨mc,l h1,h2⟩),Z⟩
  have e0:Env0 P w K mg (Vh c.heap H) callerA [] c H:=⟨rfl,hM,λb o e=>A8d e,Nat.le_of_eq (Ax6 _ _),trivial,λb hb=>absurd (show b∈([]:List Addr) from hb) (by simp),hH,G,.of_eq hg⟩
  refine codeAny_mono ((F _ I (l hns)).run callerA [] c H ⟨[.ref a],[]⟩ [.ref a] [.ref a] _ _ hr e0 (C c (.ref a)) (.cons rfl .nil) (hsp H hS)) λr s' h=>?_
  cases r with
  | error e=>exact(W H e s' h).elim
  | ok fl =>
   cases fl with
   | next=>exact False.elim h
   | brk=>exact False.elim h
   | cont=>exact False.elim h
   | ret u =>
    obtain⟨v,H',os,J,R,A,r',q⟩:=h;have q':v=.bl true:=q;subst q';obtain rfl:u=Value.bool true:=r'
    refine⟨rfl,⟨λb o e=>?_,λb o e=>R.there b o e (by simp)⟩,os,J⟩
    cases q:H b with
    | none=>exact .inl (R.keep b o e q (by intro z;exact absurd (show b∈([]:List Addr) from z) (by simp)) (by simp))
    | some u =>
     rcases hA b u q with ⟨_,_,ob,xs,rfl⟩ | ⟨y,O,rfl⟩
     ·obtain⟨g,_⟩:=G b _ q
      obtain⟨e2,_⟩:=A b _ (R.frzs b ob _ q);rw[e]at g;cases g;exact .inl e2
     ·obtain⟨ps,e2,_⟩:=A b _ (R.tbls b y q)
      obtain⟨t1,t2,_⟩:=D.1 _ O;rw[e]at t1;cases t1
      exact .inr (.inl ⟨t2,rfl,#[],ps,rfl,by rw[e2];simp⟩)
 have i:∀(H:Hp) (p:Addr×Str),p∈Ej K->z8 P w H _ _ (.tbl p.2):=λH p B=>⟨#[],(D.1 p B).1,trivial,λpos cv z=>by cases z⟩
 cases hk:K.lookup a with
 | some o =>
  have e:=KX a o hk;rw[ha]at e
  cases e
  refine t (λb=>((Ej K).lookup b).map .tbl) (.inr ⟨_,vs.toArray,_,hk,rfl,rfl,rfl,by rw[List.size_toArray,E];exact hl,by simpa using rv⟩) (λb u z=>?_) (λb u z=>?_) λp B=>?_
  ·obtain⟨q,g,rfl⟩:=Option.map_eq_some_iff.mp z
   exact i _ _ (Jj g)
  ·obtain⟨q,g,rfl⟩:=Option.map_eq_some_iff.mp z
   exact .inr ⟨q,Jj g,rfl⟩
  ·rw[D.2 p B];rfl
 | none =>
  refine t (λb=>if b=a then some (.frz { cls:=.type "list",data:=.seq vs.toArray } _) else ((Ej K).lookup b).map .tbl) (.inl (.inr ⟨{ cls:=.type _,data:=.seq _ },if_pos rfl⟩)) (λb u z=>?_) (λb u z=>?_) λp B=>?_
  ·by_cases hb:b=a
   ·have S:=(if_pos hb).symm.trans z
    cases S
    subst hb
    exact⟨ha,by rw[List.length_map];exact hl,vs,_,rv,ha⟩
   ·obtain⟨q,g,rfl⟩:=Option.map_eq_some_iff.mp ((if_neg hb).symm.trans z)
    exact i _ _ (Jj g)
  ·by_cases hb:b=a
   ·have S:=(if_pos hb).symm.trans z
    cases S
    exact .inl ⟨hb,hk,_,_,rfl⟩
   ·obtain⟨q,g,rfl⟩:=Option.map_eq_some_iff.mp ((if_neg hb).symm.trans z)
    exact .inr ⟨q,Jj g,rfl⟩
  ·rw[if_neg (Y p B),D.2 p B];rfl
end L2
namespace L2
open PySem PySem.Spec PyProof.Rows PySem.W
theorem Y0 {f:Pos}{c:Value}:∀(l:List Value),TriplesOk l->TriplesOk (l++[rawInt f.line,rawInt f.col,c]):=λl h=>by
 fun_induction TriplesOk l with
 | case1=>trivial
 | case2 a b c d e g i=>exact i h
 | case3=>trivial
theorem Ag0 {g f:Pos}{c cv:Value}:∀(l:List Value),TriplesOk l->codeAmong f (l++[rawInt g.line,rawInt g.col,c])=some cv->codeAmong f l=some cv\/cv=c:=λl h e=>by
 fun_induction TriplesOk l with
 | case1 =>
  simp only[List.nil_append,rawInt,codeAmong]at e
  grind
 | case2 a b c d k i j =>
  simp only[List.cons_append,codeAmong]at e ⊢
  grind
 | case3=>trivial
def Bc6 (H H':Hp):Prop:=H'=H\/∃c o,H c=none/\H'=upd H c (.frz o (.own 0))
noncomputable abbrev Ai5 (qual:Str) (params:Arguments) (body:Expr) (scope:Scope) (cl:List (Str×Addr)) (pm cv ctv:Value):Obj:={ cls:=.type "function",data:=.func (kla_fn "<lambda>" qual params body scope cl pm cv ctv) }
def LamCd (qual:Str)(cv:Value)(H:Hp):Prop:=∃c o vs t,cv=.ref c/\H c=some (.frz o (.own 0))/\o.data=.fields vs/\vs[1]?=some (.str qual t)
theorem LamCd.rec {P:Program}{w:World}{qual:Str}{cv:Value}{H:Hp}{h:Heap}(x:LamCd qual cv H)(b:HOk P w H h):h.CodeRec cv qual:=by
 obtain⟨c,o,i,t,e,a,d,f⟩:=x;obtain⟨g,_⟩:=b c _ a;exact⟨c,o,i,t,e,g,d,f⟩
section
variable {X:Cx}{pins:List (Addr×Obj)}{σ:St}{H:Hp}{s:Shared}
theorem Inv.grown {T c:Addr}{q:Str}{f:Obj}{h':Heap}{t':Nat}(I:Inv X pins σ H s)(w:H T=some (.tbl q))(k:∀b o,b≠T->s.heap.get? b=some o->h'.get? b=some o)(hc:s.heap.objs.size<=c)(ho:h'.get? c=some f)
 (j:z8 X.prog X.w (upd H c (.frz f (.own 0))) h' T (.tbl q)):Inv X pins σ (upd H c (.frz f (.own 0))) { s with heap:=h',toks:=t' }:=by
 have p:H c=none:=I.hok.fresh hc
 have a:∀b u,H b=some u->b≠c:=λb u e=>Bl e p
 have i:∀b u,s.heap.get? b=some u->b≠c:=λb u e z=>absurd (Heap.lt_size e) (by simp_all)
 have h:∀b,H b=none->b≠T:=λb e z=>by rw[z,w]at e;cases e
 refine I.step (g':=s.gens) (d':=s.drawn) (ch:=[]) (λ_ z=>nomatch z) (λb o _ _ _ e n=>k b o (h b n) e) (λb o _ _ _ e n=>⟨o.slots,k b o (h b n) e⟩) (λb o _ e n=>by rw[Ar (i b o e)];exact n) (λb o _ e=>?_)
  (λb l e=>by rw[Ar (a b _ e)];exact e) (λb o u e=>by rw[Ar (a b _ e)];exact e) (λb q e=>by rw[Ar (a b _ e)];exact e) (λm x=>?_) (λb u e=>?_) I.bare
 ·by_cases hb:b=T
  ·obtain⟨B,g,_⟩:=j
   simp_all
  ·exact⟨o,k b o hb e⟩
 ·obtain⟨o,t,y,e,r⟩:=x
  exact⟨o,t,y,k _ o (h _ I.free) e,r⟩
 ·by_cases hb:b=c
  ·rw[hb]at e ⊢
   rw[Bw]at e;cases e;exact⟨ho,f,ho⟩
  ·rw[Ar hb]at e
   by_cases hbT:b=T
   ·simp_all
   ·refine (I.hok b u e).stay (λd v C z=>k d v ?_ z) (λd z=>by rw[Ar (a d _ z)];exact z) (λd l z=>by rw[Ar (a d _ z)];exact z) λd A l z=>by rw[Ar (a d _ z)];exact z
    grind
theorem A3a {a:Arguments}{body:Expr}{scope:Scope}{N:Pos}{cl:List (Str×Addr)}{c T:Addr}{l:Str}{Q:Value->Shared->Prop}{A:Around}{E:Value->Shared->Prop}(I:Inv X pins σ H s)(hT:(T,l)∈Ej X.K)(hC:codeHdIn X.K c T=true)(g:X.env.code=.ref c)
 (hq:X.env.qual ++ "<lambda>" = l) (w:defaultsOf a X.env=([],[])) (x:closureFor scope X.env=pure cl)
 (h:∀(f:Addr) (s':Shared) (H':Hp) (pm cv j:Value),Inv X (pins++[(f,Ai5 l a body scope cl pm cv j)]) σ H' s'->Bc6 H H'->LamCd l cv H'->Q (.ref f) s') :
 wpAny (model X.prog X.w) A (eval (.Lambda a body scope N) X.env) Q E s:=by
 have D:H T=some (.tbl l):=I.base.tbls T l (I.ok.tab (T,l) hT);obtain⟨ps,F,K,i⟩:=I.hok T _ D;have C:=codeHd_of_K I.kIn hC;have m:s.heap.Ns mainGlobals X.mg:=I.ok.mod.glob.keeps I.bk;obtain⟨Z,ob,b1,b2,b3,b4,b5,b6,b7⟩:=I.ok.mod.bmod;have k:=I.bk _ _ b4
 have M:mainGlobals≠T:=λz=>by
  obtain⟨o,es,ep,e,d,_⟩:=m;rw[z,F]at e;cases e;cases d
 have O:Z≠T:=λz=>by rw[z,F]at k;cases k;cases b5
 have Y:s.heap.BuiltinsAt X.mg T:=⟨Z,ob,b1,b2,b3,O,k,b5,b6,b7⟩
 have q:∀{n:Heap} {H':Hp} {y:Nat} {o:Obj},Inv X _ σ H' { s with heap:=n,toks:=y }->o.isFreed=false->(∀v,o.data≠.cell v)->Inv X (pins++[(n.objs.size,o)]) _ _ _:=λ{n H' y o} J R G=>by
  have f:=J.fpOk (Nat.le_refl _) (J.hok.fresh (Nat.le_refl _))
  have J2:Inv X _ _ _ { s with heap:=n.push o,toks:=y }:=J.kept λb u e=>Heap.get?_push_of_some _ e
  refine J2.pins_of λp hp=>?_
  rcases List.mem_append.mp hp with z | z
  ·exact J2.pin p (List.mem_append_right _ z)
  ·rw[List.mem_singleton.mp z]
   exact⟨Heap.get?_push_size _ R,f.1,f.2.1,f.2.2.1,G⟩
 refine kla_eval w ?_
 rw[hq]
 cases hf:codeAmong _ _ with
 | none =>
  refine kla_makeFunction x I.ok.glob m g C F K hf M Y λS j n y hx r hlt B U=>?_
  obtain⟨c2,P,vs,t,L,V,G,hv⟩:=B
  cases L
  have hn := I.hok.fresh r
  refine h _ _ _ _ _ _ (q (I.grown D (λb o hb e=>hx b o hb e) r V ?_) rfl λv z=>by cases z) (.inr ⟨S,P,hn,rfl⟩) ⟨S,P,vs,t,rfl,Bw,G,hv⟩
  refine⟨_,U,by rw[Array.toList_append];exact Y0 _ K,λpos' cv z=>?_⟩
  rw[Array.toList_append]at z
  rcases Ag0 _ K z with z | rfl
  ·obtain⟨d,o,W,t',e1,L,e3⟩:=i _ _ z
   exact⟨d,o,W,t',e1,by rw[Ar (Bl L hn)];exact L,e3⟩
  ·exact⟨S,P,vs,t,rfl,Bw,G,hv⟩
 | some cv =>
  refine kla_makeFunctionHit x I.ok.glob m g C F K hf Y λj n y hk hsz=>?_
  exact h _ _ H _ _ _ (q (I.kept hk) rfl λv z=>by cases z) (.inl rfl) (i _ _ hf)
noncomputable abbrev Wn (X:Cx) (N':List Str) (scope:Scope) (cl:List (Str×Addr)) (qual:Str) (f:Addr) (cv:Value) (s:Shared) (H:Hp):Cx :=
 { X with
  A:=X.A.in1.in1.deeper (envX qual scope s.heap.objs.size f cv cl),N:=N',s₀:=s,H₀:=H,env:=envX qual scope s.heap.objs.size f cv cl,outer:=X.stack,stack:=envX qual scope s.heap.objs.size f cv cl::X.stack,
  ex:=[],fn:=λ_=>false,calm:=true,pn:=[],xe:=λ_ _=>False }
theorem A7z {N':List Str}{idx:List (Option Nat)}{scope:Scope}{cl:List (Str×Addr)}{qual x:Str}{f:Addr}{cv u:Value}{v:V}{h₁:Heap}{t':Nat}(L:Og X (x::N') (none::idx) scope)(hx:scope.names.lookup x=some .local)(hd:X.A.handled=none)(I:Inv X pins σ H s)
 (c1:∀x c,cl.lookup x=some c->X.env.cells.lookup x=some c/\(x,NameKind.free)∈scope.names) (c2:∀x,(x,NameKind.free)∈scope.names->∃c,cl.lookup x=some c) (r:RelV v u)
 (k:∀b o,s.heap.get? b=some o->h₁.get? b=some o) (hn:h₁.Ns s.heap.objs.size (λy=>[(x,u)].reverse.lookup y)) :
 Inv (Wn X (x::N') scope cl qual f cv s H) [] (some v::cst idx σ) H { s with heap:=h₁,toks:=t' } where
 ok:={
  mod:=I.ok.mod,kind:=L.kind,glob:=rfl,blt:=rfl,above:=Nat.le_refl _,inj:=λy z c e1 e2=>I.ok.inj y z c (c1 y c e1).1 (c1 z c e2).1
  has:=λy h=>by
   have h':scope.names.lookup y=some .cell\/scope.names.lookup y=some .free:=h
   rcases h' with h | h
   ·exact absurd rfl (L.cell _ (lookup_mem h))
   ·exact c2 y (lookup_mem h)
  cab:=(λy c z=>nomatch z),hd:=λ_=>hd,frames:=Around.frames_deeper I.ok.frames,stk:=.inr ⟨rfl,rfl⟩,exf:=(λb z=>nomatch z),bs:=I.bs,bsz:=Nat.le_trans I.ok.bsz I.sz,noex:=(λ_ _ _ z=>nomatch z),exfs:=(λ_ z=>nomatch z)
  funs:=I.stack,frf:=I.stkFree,tab:=λp hp=>I.base.tbls p.1 p.2 (I.ok.tab p hp) }
 os:=rfl
 bare:=I.bare
 base:=Un.kept k
 loc:=by
  refine⟨_,hn,λj y w e1 e2 e3=>?_⟩
  cases j with
  | zero =>
   cases (show some x=some y from e1)
   cases (show some (some v)=some (some w) from e2)
   exact⟨u,r,.inl ⟨hx,by simp⟩⟩
  | succ j =>
   obtain⟨m0,hn0,hl⟩:=I.loc
   have e2':(idx.map λo=>o.bind λi=>(σ[i]?).join)[j]?=some (some w):=e2
   rw[List.getElem?_map]at e2'
   cases ei:idx[j]? with
   | none=>rw[ei]at e2';cases e2'
   | some o =>
    rw[ei]at e2';simp only[Option.map_some,Option.some.injEq]at e2'
    cases o with
    | none=>cases e2'
    | some i =>
     have e2'':(σ[i]?).join=some w:=e2';obtain⟨hNi,hfr⟩:=L.at' (j+1) i y e1 ei
     have hσ:σ[i]?=some (some w):=by
      cases q:σ[i]? with
      | none=>rw[q]at e2'';cases e2''
      | some z=>rw[q]at e2'';rw[show z=some w from e2'']
     have hk:=L.free _ (lookup_mem hfr) rfl
     have hvis:Vis X.env.scope y:=by
      rcases hk with z | z
      ·exact .inr (.inl z)
      ·exact .inr (.inr z)
     obtain⟨u',r',lk⟩:=hl i y w hNi hσ hvis
     refine⟨u',r',.inr ⟨.inr hfr,?_⟩⟩
     rcases lk with ⟨z,_⟩ | ⟨_,c,hc,hcl⟩
     ·exfalso
      have z':X.env.kindOf y=some .local:=z
      rcases hk with q | q
      ·rw[show X.env.kindOf y=_ from q]at z';cases z'
      ·rw[show X.env.kindOf y=_ from q]at z';cases z'
     ·obtain⟨c',hc'⟩:=c2 y (lookup_mem hfr)
      have ec:c'=c:=Option.some.inj ((c1 y c' hc').1.symm.trans hc);obtain⟨oc,g1,g2⟩:=hcl
      exact⟨c',hc',oc,by rw[ec];exact k _ _ g1,g2⟩
 cell:=λy c e=>by
  obtain⟨w,oc,g1,g2⟩:=I.cell y c (c1 y c e).1;exact⟨w,oc,k _ _ g1,g2⟩
 free:=I.hok.fresh (Nat.le_refl _)
 freeC:=λy c e=>I.freeC y c (c1 y c e).1
 pin:=λp hp=>nomatch hp
 hok:=I.hok.kept k
 len:=by
  show (some v::idx.map _).length=(x::N').length
  have:=L.len;rw[List.length_cons,List.length_cons]at this;rw[List.length_cons,List.length_map,List.length_cons];exact this
theorem A7p {k:Nat}{N':List Str}{idx:List (Option Nat)}{a:Arguments}{body:Expr}{scope:Scope}{i:List (Str×Addr)}{qual x:Str}{f:Addr}{B cv j u:Value}{v:V}{A:TE}{Q:VK}(L:Og X (x::N') (none::idx) scope)(hx:scope.names.lookup x=some .local)
 (n:scope.isCoroutine=false) (l:scope.isGenerator=false) (g:bindArgs (kla_fn "<lambda>" qual a body scope i B cv j) ⟨[u],[]⟩=pure [(x,u)]) (hr:Room (k+3) X.A)
 (hb:QE (Wn X (x::N') scope i qual f cv s H) body A) (I:Inv X pins σ H s) (ho:s.heap.get? f=some (Ai5 qual a body scope i B cv j)) (hcd:s.heap.CodeRec cv qual)
 (c1:∀x c,i.lookup x=some c->X.env.cells.lookup x=some c/\(x,NameKind.free)∈scope.names) (c2:∀x,(x,NameKind.free)∈scope.names->∃c,i.lookup x=some c) (r:RelV v u) (h:A (some v::cst idx σ) H Q) :
 wpAny (model X.prog X.w) X.A.in1.in1 (call (.ref f) [u]) (EP X pins σ λv H'=>(∀b o u,H b=some (.frz o u)->H' b=some (.frz o u))/\Q v H') (λ_ _=>False) s:=by
 refine wpAny_call ?_
 refine kla_callFunE hr.in1.in1.depth ho rfl n l rfl hcd ?_
 rw[g]
 refine wpAny_pure (wpAny_newFunctionEnv L.cell λy J=>by simp_all (λw t p=>?_) L.kind)
 have d := λb o e=>p.extBut b o (Nat.ne_of_lt (Heap.lt_size e)) (Heap.get?_push_of_some _ e)
 refine⟨I.nolimit.keeps d,?_⟩
 refine kla_codeExpr (wpAny_mono (hb.get _ _ _ H Q (A7z (qual:=qual) (f:=f) (cv:=cv) (t':=s.toks+[(x,u)].length) L hx hr.hd I c1 c2 r d t) h) (λF G C=>?_) λ_ _ z=>z.elim)
 obtain⟨E,H',m,D,q⟩:=C;exact I.after ⟨E,H',m.os,m.bare,m.base,m.hok,D,m.base.frzs,q⟩
end
section
variable {X:Cx}{p pos lpos kpos:Pos}{e:Expr}{t:TA}
def A1s (K:PySem.W.Frag)(idx:List (Option Nat))(te:TE)(t:TA):TE:=λσ H Q=>t σ H λvs H1=>∃a xs,vs=[.ref a]/\∀H2,Bc6 H1 H2->(SqL K H2 a xs\/SqT K H2 a xs)/\Ri (λx H Q=>te (some x::cst idx σ) H Q) xs [] H2 (λks H3=>V1 xs ks H3 Q)
theorem A4v {k:Nat}{N':List Str}{idx:List (Option Nat)}{b:Arguments}{body:Expr}{scope:Scope}{w x:Str}{c T:Addr}{K:TE}(hT:(T,w)∈Ej X.K)(Z:codeHdIn X.K c T=true)(j:X.env.code=.ref c)(hr:Room (k+3) X.A)
 (hg:Gl X "sorted") (hm:X.mg "sorted" = none) (ha:PA X [e] t) (L:Og X (x::N') (none::idx) scope) (hb:∀f A n s H,Room k (Wn X (x::N') scope n w f A s H).A->QE (Wn X (x::N') scope n w f A s H) body K)
 (hx:scope.names.lookup x=some .local:=by rfl) (M:scope.isCoroutine=false:=by rfl) (C:scope.isGenerator=false:=by rfl) (B:X.env.qual ++ "<lambda>" = w:=by rfl) (D:defaultsOf b X.env=([],[]):=by rfl)
 (l:∀n F A m u,bindArgs (kla_fn "<lambda>" w b body scope n F A m) ⟨[u],[]⟩=pure [(x,u)]:=by exact λ_ _ _ _ _=>rfl)
 (he:backTo pos (starEach [e] X.env)=(false,eval e X.env)::backTo pos (starEach [] X.env):=by rfl) (hpl:(backTo pos (starEach [e] X.env)).any (·.1)=false:=by rfl) :
 PE X (.Call (.Name "sorted" p) [e] [⟨some "key",.Lambda b body scope lpos,kpos⟩] pos) (A1s X.K idx K t):=by
 intro g s V H Q I h
 refine wpAny_Call_Name_kw (Je I hg hm boot_sorted ?_ (by decide) (by rfl))
 refine PyProof.Rows.callWith_kw (thn (ha pos g s V H _ I h) λus Y ⟨S,H1,W,r,q⟩=>?_) he hpl rfl rfl
 obtain⟨n,i,c1,c2⟩:=N5 (env:=X.env) (scope:=scope) λy hy hf=>W.ok.has y.1 (L.free y hy hf)
 show wpAny _ _ (evalAll [do let v <- eval (.Lambda b body scope lpos) X.env;standAt pos;pure v]) _ _ Y
 refine wpAny_evalAll_cons (wpAny_bind (A3a W hT Z j B D i λf s2 H2 F A m I2 hl N=>wpAny_bind (wpAny_standAt (wpAny_pure (wpAny_evalAll_nil ?_)))))
 obtain⟨a,xs,rfl,q⟩:=q;obtain⟨hs,hw⟩:=q H2 hl;obtain⟨u,rfl,ru⟩:=vals1 r
 cases (show u=Value.ref a from ru)
 have J:Bf0 X (g++[(f,Ai5 w b body scope n F A m)]) V f (LamCd _ _) (λx H Q=>K _ H Q):=λG s H x u Q' I U r hk=>by
  refine wpAny_mono (A7p L hx M C (l _ _ _ _ u) hr (hb f _ _ s H (hr.in1.in1.deeper _)) I ((I.pin _ (List.mem_append_right _ (List.mem_append_left _ (List.mem_append_right _ List.mem_cons_self)))).1) (U.rec I.hok) c1 c2 r hk) (λu' s' B=>?_) λ_ _ z=>z
  obtain⟨P,O,E,R,fz,q⟩:=B;obtain⟨c0,o,S,t0,e,hc,d⟩:=U;exact⟨P,O,E,R,⟨c0,o,S,t0,e,fz _ _ _ hc,d⟩,q⟩
 refine thn (U9 J hr I2 N hs hw) λu s3 B=>?_
 obtain⟨P,O,E,R,q⟩:=B
 exact⟨P,O,E.pins_of λp hp=>E.pin p (List.mem_append_right _ (List.mem_append_left _ hp)),R,q⟩
theorem A2p {Kq:PySem.W.Frag}(j:X.K=Kq){k:Nat}{N':List Str}{idx:List (Option Nat)}{a:Arguments}{body:Expr}{scope:Scope}{g x:Str}{c T:Addr}{m:TE}(n:(T,g)∈Ej X.K)(q:codeHdIn X.K c T=true)(b:X.env.code=.ref c)(hr:Room (k+3) X.A)
 (hg:Gl X "sorted") (hm:X.mg "sorted" = none) (ha:QA X [e] t) (L:Og X (x::N') (none::idx) scope) (hb:∀f cv cl s H,Room k (Wn X (x::N') scope cl g f cv s H).A->QE (Wn X (x::N') scope cl g f cv s H) body m)
 (hx:scope.names.lookup x=some .local:=by rfl) (l:scope.isCoroutine=false:=by rfl) (i:scope.isGenerator=false:=by rfl) (o:X.env.qual ++ "<lambda>" = g:=by rfl) (h:defaultsOf a X.env=([],[]):=by rfl)
 (d:∀cl pm cv ctv u,bindArgs (kla_fn "<lambda>" g a body scope cl pm cv ctv) ⟨[u],[]⟩=pure [(x,u)]:=by exact λ_ _ _ _ _=>rfl)
 (he:backTo pos (starEach [e] X.env)=(false,eval e X.env)::backTo pos (starEach [] X.env):=by rfl) (hpl:(backTo pos (starEach [e] X.env)).any (·.1)=false:=by rfl) :
 QE X (.Call (.Name "sorted" p) [e] [⟨some "key",.Lambda a body scope lpos,kpos⟩] pos) (A1s Kq idx m t):=by
 subst j;exact⟨A4v n q b hr hg hm ha.get L hb hx l i o h d he hpl⟩
end
theorem Fun.okL {P:Program}{w:World}{K:PySem.W.Frag}{mg:Str->Option Value}{base:Heap}{x qual:Str}{st:Stmt}{f:Addr}{i:FuncData}{N ps:List Str}{k:Nat}{sp:Sp}(F:Fun K x qual st f i)(S:Br N ps (Ay st))(e:∀vs H Q E,sp vs H Q E->vs.length=ps.length)
 (c:∀(b:Value) (A:Around) (a:List Env) (s:Shared) (H:Hp) (vs:List V) (Q:VK) (E:XK),i.code=b->Room k (A.deeper (envOfC qual (Ay st) s.heap.objs.size f b))->sp vs H Q E ->
  ∃t,PSs (Aj6 CX0 P w K mg base N qual (Ay st) f b A a s H E).nox (Hq st) t/\t { nx:=λ_ H'=>Q .non H',rt:=Q } (start N vs) H):FnOk P w K mg base CX0 (k+1) f i ps sp:=by
 obtain⟨oc,od,kV,j,pm,an,b,ct,l,rfl,m,g⟩:=F.ex
 refine Ba3 m g S e λA a s H vs Q E n d=>?_
 obtain⟨t,h,q⟩:=c b A _ s H _ Q E rfl n d;exact⟨t,h.nox,q⟩
noncomputable def Gx (o:Obj):Bool:=match o.data with
 | .cell _=>false
 | _=>true
def sel (h:Heap)(tabs:List (Addr×Addr×Str))(a:Addr):Option Obj:=(h.get? a).bind λo=>if (Gx o&&!(tabs.any λt=>t.2.1==a))=true then some o else none
def O9 (h:Heap)(tabs:List (Addr×Addr×Str)):Frag:=((List.range h.objs.size).filterMap λa=>(sel h tabs a).map λo=>(a,o))++tabs.map λt=>(t.1,An5 t.2.1 t.2.2)
theorem Oi {f:Nat->Option Obj}{b:Nat}:∀{l:List Nat},(l.filterMap λa=>(f a).map λo=>(a,o)).lookup b=if b∈l then f b else none
 | []=>by simp
 | a::l=>by
  rw[List.filterMap_cons]
  by_cases e:b=a
  ·subst e
   rw[if_pos List.mem_cons_self]
   cases q:f b with
   | none =>
    simp only[Option.map_none];rw[Oi]
    split
    ·exact q
    ·rfl
   | some o=>simp
  ·have h1:(b∈a::l)=(b∈l):=by simp[e]
   simp only[h1]
   cases q:f a with
   | none=>simp only[Option.map_none];exact Oi
   | some o =>
    simp only[Option.map_some];rw[List.lookup_cons]
    have:(b==a)=false:=by simp[e]
    rw[this];exact Oi
section
variable {h:Heap}{tabs:List (Addr×Addr×Str)}
theorem O2 (e:sel h tabs a=some o):h.get? a=some o/\Gx o=true/\∀t∈tabs,t.2.1≠a:=by
 obtain⟨c,d,b⟩:=Option.bind_eq_some_iff.mp e
 grind
theorem Bh4 (e:h.get? a=some o) (hp:Gx o=true) (hn:∀t∈tabs,t.2.1≠a):sel h tabs a=some o:=by
 unfold sel
 grind
theorem Oc (e:sel h tabs a=some o):(O9 h tabs).lookup a=some o:=by
 unfold O9;rw[List.lookup_append,Oi,if_pos (List.mem_range.mpr (Heap.lt_size (O2 e).1)),e];rfl
theorem Uy {a:Addr}{o:Obj}:∀{tabs:List (Addr×Addr×Str)},(tabs.map λt=>(t.1,An5 t.2.1 t.2.2)).lookup a=some o->∃t∈tabs,t.1=a
 | [],e=>by cases e
 | t::r,e=>by
  rw[List.map_cons,List.lookup_cons]at e
  split at e
  ·rename_i z
   exact⟨t,List.mem_cons_self,by simpa using (eq_comm.mp (by simpa using z))⟩
  ·obtain⟨t',h1,h2⟩:=Uy e
   exact⟨t',List.mem_cons_of_mem _ h1,h2⟩
theorem Bo1 (ht:∀t∈tabs,CodeHd h t.1 t.2.1/\h.get? t.2.1=some { cls:=.none,data:=.fields #[] })(D:∀t∈tabs,(tabs.map λt=>(t.2.1,t.2.2)).lookup t.2.1=some t.2.2) :
 (O9 h tabs).In h/\TabAt (O9 h tabs) h/\(∀t∈tabs,codeHdIn (O9 h tabs) t.1 t.2.1=true/\(t.2.1,t.2.2)∈Ej (O9 h tabs))/\∀a o,h.get? a=some o->Gx o=true->o.data≠.fields #[]->(O9 h tabs).lookup a=some o:=by
 have g:∀a o,h.get? a=some o->Gx o=true->o.data≠.fields #[]->sel h tabs a=some o:=λa o e d j=>Bh4 e d λt m z=>by
  have:=(ht t m).2;rw[z,e]at this;cases this;exact j rfl
 have code:∀t∈tabs,∃o i,h.get? t.1=some o/\o.cls=.type "code" /\ o.data=.fields i/\i[11]?=some (.ref t.2.1)/\sel h tabs t.1=some o:=λt m=>by
  obtain⟨o,i,_,_,_,_,_,_,_,w,v,l,u,_⟩:=(ht t m).1
  refine⟨o,i,w,v,l,u,g t.1 o w (by unfold Gx;rw[l]) λz=>?_⟩
  rw[l]at z
  injection z with z
  rw[z]at u;simp at u
 have c:∀{a:Addr} {o:Obj},(O9 h tabs).lookup a=some o->sel h tabs a=some o:=λ{a o} e=>by
  cases q:sel h tabs a with
  | some y=>rw[Oc q]at e;exact e
  | none =>
   unfold O9 at e;rw[List.lookup_append,Oi]at e
   have F:(if a∈List.range h.objs.size then sel h tabs a else none)=none:=by
    split
    ·exact q
    ·rfl
   rw[F]at e
   obtain⟨t,m,z⟩:=Uy (show (tabs.map λt=>(t.1,An5 t.2.1 t.2.2)).lookup a=some o from e)
   obtain⟨_,_,_,_,_,_,s⟩:=code t m;rw[z,q]at s;cases s
 have k:Ej (O9 h tabs)=tabs.map λt=>(t.2.1,t.2.2):=by
  unfold Ej O9;rw[List.filterMap_append]
  have x:((List.range h.objs.size).filterMap λa=>(sel h tabs a).map λo=>(a,o)).filterMap (λp=>U4 p.2)=[]:=by
   rw[List.filterMap_eq_nil_iff];intro p d;obtain⟨a,_,e⟩:=List.mem_filterMap.mp d;obtain⟨o,x,rfl⟩:=Option.map_eq_some_iff.mp e;have j:=(O2 x).2.1
   show U4 o=none
   unfold U4;unfold Gx at j
   split
   ·rename_i z;rw[z]at j;cases j
   ·rfl
  have Q:(tabs.map λt=>(t.1,An5 t.2.1 t.2.2)).filterMap (λp=>U4 p.2)=tabs.map λt=>(t.2.1,t.2.2):=by
   clear g c code D ht x
   induction tabs with
   | nil=>rfl
   | cons t r S =>
    rw[List.map_cons,List.filterMap_cons]
    show (t.2.1,t.2.2)::_=_
    rw[S];rfl
  rw[x,Q,List.nil_append]
 have B:(O9 h tabs).In h:=λa o e=>(O2 (c e)).1
 refine⟨B,⟨λp d=>?_,λp d=>?_⟩,λt m=>⟨?_,?_⟩,λa o e d j=>Oc (g a o e d j)⟩
 ·rw[k]at d
  obtain⟨t,m,rfl⟩:=List.mem_map.mp d;obtain⟨o,i,w,v,l,u,_⟩:=code t m
  refine⟨(ht t m).2,⟨t.1,o,i,w,v,l,u⟩,?_⟩
  cases q:(O9 h _).lookup _ with
  | none=>rfl
  | some y=>exact absurd rfl ((O2 (c q)).2.2 t m)
 ·rw[k]at d ⊢
  obtain⟨t,m,rfl⟩:=List.mem_map.mp d;exact D t m
 ·obtain⟨o,i,_,v,l,_,s⟩:=code t m
  obtain⟨y,G,f,tf,fl,tg,b,n,tt,J,K,L,M,g5,I,N,H,P,A⟩:=(ht t m).1;have O := Option.some.inj (J.symm.trans (O2 s).1);subst O;obtain⟨R,od,C,E⟩:=y
  cases (show R=Value.type _ from K)
  cases (show C=Data.fields _ from L)
  unfold codeHdIn;rw[(Oc s)];simp only[M,I,N,H,P]
  simp[A]
 ·rw[k];exact List.mem_map.mpr ⟨t,m,rfl⟩
end
section
variable {q:Program}{loose:List Str}{mean:ExcName->Option Value}{mg mb:Str->Option Value}{h:Heap}{K:Frag}
theorem Aw7 (j:∀a o,h.get? a=some o->Gx o=true->o.data≠.fields #[]->K.lookup a=some o) (c:h.CodeRec f x):codeIn K f x=true:=by
 obtain⟨a,o,b,t,rfl,g,d,e⟩:=c
 have k:=j a o g (by unfold Gx;rw[d]) λz=>by grind
 obtain⟨oc,od,m,i⟩:=o
 show (match K.lookup a with
  | some ⟨_,_,.fields b,_⟩=>match b.toList with | _::.str n _::_=>n==x | _=>false
  | _=>false)=true
 obtain⟨l⟩:=b
 match l,e with
 | _::.str n u::_,e =>
  simp_all
theorem A7i (T:Top q loose mean mg mb h)(i:∀a o,h.get? a=some o->Gx o=true->o.data≠.fields #[]->K.lookup a=some o) {st:Stmt}(hd:d∈recsOf q) (w:d.params=Jm st) (l:d.body=Hq st) (m:d.scope=Ay st) :
 ∃f fd,Fun K d.name d.name st f fd/\mg d.name=some (.ref f):=by
 obtain⟨a,o,e,b,c,n,p,r,s⟩:=T.fn d hd
 have k:=i a o p (by unfold Gx;grind) λz=>by simp_all
 obtain⟨t,u,v,g⟩:=o
 cases (r)
 have j:PySem.Calls.docDef d.name d.params d.body d.scope e b c=fnOf d.name d.name (Jm st) (Hq st) (Ay st) .none .none c e none b .none:=by rw[w,l,m];rfl
 refine⟨a,_,⟨⟨t,u,.none,c,e,none,b,.none,g,j,k,Aw7 i s⟩,?_⟩,n⟩
 unfold keepIn
 grind
theorem A7x (T:Top q loose mean mg mb h){d:DefRec}(hd:d∈recsOf q):∃c P:Addr,CodeHd h c P/\h.get? P=some { cls:=.none,data:=.fields #[] }/\∀f o b,mg d.name=some (.ref f)->h.get? f=some o->o.data=.func b->b.code=.ref c:=by
 obtain⟨a,o,b,c,P,m,j,p,k,g,e⟩:=T.tab d hd
 refine⟨c,P,CodeHd.of g e,e.2,λf n i r s l=>?_⟩
 simp_all
noncomputable def A4n (q:Program) (loose:List Str) (RN:List Str) (x:Str):Bool:=!startupNames.contains x&&!loose.contains x&&!RN.contains x&&!((litsOf q).map (·.1)).contains x&&!((clssOf q loose).map (·.name)).contains x
theorem Dt (T:Top q loose mean mg mb h){a bs:List Str}(f:(recsOf q).map (·.name)=a)(hb:bs.all (A4n q loose a)=true) (hx:x∈bs):mg x=none:=by
 have:=List.all_eq_true.mp hb x hx;unfold A4n at this;simp only[Bool.and_eq_true,Bool.not_eq_true',List.contains_eq_mem,decide_eq_false_iff_not]at this;obtain⟨⟨⟨⟨d,c⟩,g⟩,e⟩,b⟩:=this
 exact T.free x d c (by grind) e b
end
theorem Y8 (a:(recsOf q).map (λd=>(d.name,d.params,d.body,d.scope))=L) {i:Nat} (e:L[i]?=some x) :
 ∃d,d∈recsOf q/\d.name=x.1/\d.params=x.2.1/\d.body=x.2.2.1/\d.scope=x.2.2.2:=by
 grind
theorem Dd (a:(recsOf q).map (λd=>(d.name,d.params,d.body,d.scope))=L):(recsOf q).map (·.name)=L.map (·.1):=by
 rw[<- a,List.map_map];rfl
theorem A0g {K:Frag}{h:Heap}{x qual:Str}{st:Stmt}{f:Addr}{a:FuncData}{v:Value}{mg:Str->Option Value}(F:Fun K x qual st f a)(b:K.In h)(hc:∀f o a,mg x=some (.ref f)->h.get? f=some o->o.data=.func a->a.code=v)(hm:mg x=some (.ref f)):a.code=v:=by
 obtain⟨j,p,m,g,k,l,d,n,i,e,c,_⟩:=F.ex;exact hc f _ _ hm (b _ _ c) rfl
theorem Az7 {K:Frag} {st:Stmt} (F:Fun K x qual st f c) (h:∀(d a e:Value) (i:Option Addr) (b g:Value) (s:Shared) (u:Value),BindsTo s (fnOf x qual (Jm st) (Hq st) (Ay st) .none d a e i b g) ⟨[u],[]⟩ [(y,u)]):∀(s:Shared) (u:Value),BindsTo s c ⟨[u],[]⟩ [(y,u)]:=by
 obtain⟨m,n,d,a,e,i,b,g,j,k,l,_⟩:=F.ex
 simp_all
section
variable {X:Cx}{pins:List (Addr×Obj)}{σ:St}{H:Hp}{s:Shared}{D:Addr}{e1:Nat}{Q:VK}{P:PySem.Fin->Shared->Prop}{E:Value->Shared->Prop}{A:Around}
theorem Ve {ous:List Value}{outs:List V}{st:SortSt}(hD:X.s₀.heap.objs.size<=D)(hp:∀p∈X.pn++pins,p.1≠D)(I:Inv X (pins++[(D,seqObj "list" #[] e1)]) σ H s) (hz:outs.length<=sizeLine)
 (ho:(arrOf st).map (·.2)=List.toArray ous) (hf:failedOf st=none) (rv:Vals outs ous) (q:∀l,H l=none->Q (.ref l) (upd H l (.lst outs))) (hP:∀s',EP X pins σ Q (.ref D) s'->P (.done (.ret .none)) s') :
 wpAny (model X.prog X.w) A (do
  let sorted:=(arrOf st).map (·.2)
  let touched:=(<- seqEpoch D) != e1
  Builtin.List.listUpdate (.ref D) λ_=>sorted
  if let some e:=failedOf st then rule "list.sort.comparison-raised";throw e
  if touched then rule "list.sort.modified";raiseError "ValueError" "list modified during sort"
  ret .none) P E s:=by
 obtain⟨pd1,pd2,pd3,pd4,pd5⟩:=I.pin (D,seqObj "list" #[] e1) (List.mem_append_right _ (List.mem_append_right _ List.mem_cons_self))
 have cel:∀x c,X.env.cells.lookup x=some c->c≠D:=λx c e z=>by
  obtain⟨v,ob,ho,hdc⟩:=I.cell x c e;rw[z,pd1]at ho;cases ho;exact pd5 v hdc
 have I0:Inv X pins σ H s:=I.pins_of λp hp=>I.pin p (List.mem_append_right _ (List.mem_append_left _ hp))
 obtain⟨n2,gD2⟩:∃n2,(s.heap.update D (Obj.mapSeq λ_=>ous.toArray)).get? D=some (seqObj "list" ous.toArray n2):=⟨_,get?_update_seq pd1 λ_=>ous.toArray⟩
 have hlen:=rv.length
 dsimp only
 rw[ho]
 refine wpAny_bind (seqEpoch_at pd1 rfl ?_)
 refine wpAny_bind (listUpdate_at pd1 rfl ?_ (Nat.zero_le _) (by rw[List.size_toArray];omega))
 rw[hf];simp only[bne_self_eq_false,Bool.false_eq_true,if_false]
 refine wpAny_pure (hP _ ⟨.ref D,upd H D (.lst outs),?_,rfl,q D pd2⟩)
 exact I0.adopt (t':=s.toks) (λb u hb e=>(Heap.get?_update_other _ _ (Ne.symm hb)).trans e) pd2 pd3 hD cel hp ⟨hz,ous,n2,rv,gD2⟩
theorem Aj0 {a:Addr}{vs:List V}(hu:X.A.units+80<cLine)(I:Inv X pins σ H s)(hq:SqL X.K H a vs\/SqT X.K H a vs)(h:V1 vs vs H Q) :
 wpAny (model X.prog X.w) X.A (call (.builtin "sorted") [.ref a]) (EP X pins σ Q) E s:=by
 obtain⟨us,T,o,n,rv,hT,ho,hcl,hd,hz⟩:∃(us:List Value) (T:String) (o:Obj) (n:Nat),Vals vs us/\(T = "list" \/ T = "tuple")/\s.heap.get? a=some o/\o.cls=.type T/\o.data=.seq us.toArray n/\vs.length<=sizeLine:=by
  rcases hq with hq | hq
  ·obtain⟨us,rv,⟨o,n,g1,g2,g3,g4⟩,hz⟩:=I.list hq
   exact⟨us, "list",o,n,rv,.inl rfl,g1,g2,by first | exact g3 | exact g4,hz⟩
  ·obtain⟨us,rv,it,hz⟩:=I.tuple hq
   obtain⟨o,g1,g2,n,g3⟩:=it;exact⟨us, "tuple",o,n,rv,.inr rfl,g1,g2,g3,hz⟩
 have hlen:=rv.length
 refine Calls.call_function_entry kind_sorted plain_sorted entry_sorted (args_sorted1 _) ?_
 unfold Builtin.«sorted»
 refine wpAny_bind (m:=checkCount "sorted" 1 1 _) (wpAny_pure ?_)
 refine wpAny_bind (wpAny_collect_seq a hT ho hcl hd (λg kg=>?_) (by rw[List.size_toArray];omega))
 refine wpAny_bind (wpAny_newList ?_ (by simp;omega))
 have I1:Inv X pins σ H { s with heap:=g }:=I.kept (t':=s.toks) kg
 have lo:X.s₀.heap.objs.size<=g.objs.size:=I1.sz;generalize hg1:g.push (seqObj "list" us.toArray 0)=g1
 have e1:g1.objs.size=g.objs.size+1:=by rw[<- hg1,size_push']
 have gD:g1.get? g.objs.size=some (seqObj "list" us.toArray 0):=by rw[<- hg1];exact Heap.get?_push_size _ rfl
 refine wpAny_bind (wpAny_holding (wpAny_call_entry slot_list_sort ⟨_,gD,rfl⟩ entry_list_sort ?_ (args_list_sort _)))
 show wpAny (model X.prog X.w) X.A.in1.in1 (Builtin.«list.sort» ⟨[.ref g.objs.size],[]⟩) _ _ _
 rw[list_sort_plain]
 refine wpAny_bind (listItems_at gD rfl ?_)
 refine wpAny_bind (listUpdate_at gD rfl ?_ (by rw[List.size_toArray];omega) (Nat.zero_le _))
 generalize hg2:g1.update g.objs.size (Obj.mapSeq λ_=>(#[]:Array Value))=g2
 obtain⟨n1,gD1⟩:∃n1,g2.get? g.objs.size=some (seqObj "list" #[] n1):=⟨_,by rw[<- hg2];exact get?_update_seq gD λ_=>#[]⟩
 refine wpAny_bind (seqEpoch_at gD1 rfl ?_)
 refine wpAny_bind (wpAny_newTuple ?_ (by simp;omega))
 refine wpAny_bind (wpAny_newList ?_ (Nat.zero_le _))
 refine wpAny_holding ?_
 generalize hg3:g2.push { cls:=.type "tuple",data:=.seq us.toArray.toList.toArray }=g3
 have keep:∀b u,g.get? b=some u->(g3.push { cls:=.type "list",data:=.seq ([]:List Value).toArray }).get? b=some u:=λb u e=>by
  have hlt:b<g.objs.size:=Heap.lt_size e
  have q1:g1.get? b=some u:=by rw[<- hg1];exact Heap.get?_push_of_some _ e
  have q2:g2.get? b=some u:=by rw[<- hg2];exact(Heap.get?_update_other _ _ (Nat.ne_of_gt hlt)).trans q1
  have q3:g3.get? b=some u:=by rw[<- hg3];exact Heap.get?_push_of_some _ q2
  exact Heap.get?_push_of_some _ q3
 have fD:=I1.fpOk (b:=g.objs.size) (Nat.le_refl _) (I1.hok.fresh (Nat.le_refl _))
 have I2:Inv X pins σ H { s with heap:=g3.push { cls:=.type "list",data:=.seq ([]:List Value).toArray } }:=I1.kept (t':=s.toks) keep
 have gD2:(g3.push { cls:=.type "list",data:=.seq ([]:List Value).toArray }).get? g.objs.size=some (seqObj "list" #[] n1):=Heap.get?_push_of_some _ (by rw[<- hg3];exact Heap.get?_push_of_some _ gD1)
 have I3:Inv X (pins++[(g.objs.size,seqObj "list" #[] n1)]) σ H { s with heap:=g3.push { cls:=.type "list",data:=.seq ([]:List Value).toArray } }:=I2.pins_of λp hpp=>by
  rcases List.mem_append.mp hpp with z | z
  ·exact I2.pin p (List.mem_append_right _ z)
  ·rw[List.mem_singleton.mp z]
   exact⟨gD2,fD.1,fD.2.1,fD.2.2.1,λv z=>by cases z⟩
 have hp:∀p∈X.pn++pins,p.1≠g.objs.size:=λp hpp z=>absurd (Heap.lt_size (I1.pin p hpp).1) (by rw[z];show ¬ (g.objs.size<g.objs.size);omega)
 clear I2 gD2 keep
 dsimp only
 generalize ({ s with heap:=g3.push { cls:=.type "list",data:=.seq ([]:List Value).toArray } }:Shared)=s3 at I3 ⊢
 rcases h with ⟨h2,q⟩ | ⟨h2,h64,ds,kd,p,tds,hb,hfl,hpp,q⟩
 ·have h2':us.toArray.size<2:=by rw[List.size_toArray];omega
  rw[if_pos h2',if_pos h2']
  refine wpAny_bind (wpAny_pure ?_)
  rw[StateT.run_pure]
  refine wpAny_bind (wpAny_pure ?_)
  refine Ve (ous:=us) lo hp I3 hz ?_ rfl rv q λs' q=>⟨_,rfl,wpAny_pure ⟨_,rfl,q⟩⟩
  show (us.toArray.zip us.toArray).map (·.2)=us.toArray
  apply Array.ext';simp only[Array.toList_map,Array.toList_zip];exact List.map_snd_zip (l₁:=us) (l₂:=us) (Nat.le_refl _)
 ·have h2':¬ us.toArray.size<2:=by rw[List.size_toArray];omega
  rw[if_neg h2',if_neg h2'];obtain⟨as,rd⟩:=tds.reads I3 rv
  have hu':X.A.in1.in1.units+64<cLine:=by show X.A.units+1+1+64<_;omega
  refine wpAny_bind (Z6 rd hb (by omega) ?_)
  have e64:us.length<64:=by omega
  rw[hlen]at hpp
  refine wpAny_bind (wpAny_mono (kat_run (ks:=us) (vs:=us) (Q:=λst' s'=>s'=s3/\arrOf st'=p.map (kas_item (us.toArray.zip us.toArray))/\failedOf st'=none/\p.size=us.length) (G:=λp' s'=>p'=p/\s'=s3) rfl (by omega) e64 (λp' st' s' a1 a2 a3 a4=>?_) (Ae7 (B:=Zv kd ds) (λi j r C hB hC=>?_) _ p hpp ⟨rfl,rfl⟩)) ?_ λ_ _ z=>z)
  ·obtain⟨rfl,rfl⟩:=a4
   exact⟨rfl,a2,a3,a1⟩
  ·unfold Zv at hB
   cases ei:ds[i]? with
   | none=>rw[ei]at hB;cases hB
   | some di =>
    cases ej:ds[j]? with
    | none=>rw[ei,ej]at hB;cases hB
    | some dj =>
     rw[ei,ej]at hB;obtain⟨a1,r1⟩:=Mu rd ei;obtain⟨a2,r2⟩:=Mu rd ej;have mi:di∈ds:=List.mem_of_getElem? ei;have mj:dj∈ds:=List.mem_of_getElem? ej;have fi:=hfl di mi;have fj:=hfl dj mj
     exact Ap8 r1 r2 fi.1 fj.1 (List.all_eq_true.mp hb di mi) (List.all_eq_true.mp hb dj mj) (by have:=fi.2;omega) hB hC
  ·rintro⟨⟨⟩,st'⟩ s' ⟨rfl,har,hf,hps⟩
   refine Ve (outs:=p.toList.map λi=>vs.getD i .non) lo hp I3 ?_ (kat_snds rfl har) hf (Qs rv _) q λs' q=>⟨_,rfl,wpAny_pure ⟨_,rfl,q⟩⟩
   rw[List.length_map,Array.length_toList,hps];omega
end
theorem Room.un80 {k:Nat}{A:Around}(r:Room k A):A.units+80<cLine:=by have:=r.un;omega
section
variable {X:Cx}{p pos:Pos}{e:Expr}{es:List Expr}{t:TA}{Kq:PySem.W.Frag}
def Ag1 (K:PySem.W.Frag):List V->Hp->VK->Prop:=λxs H Q=>∃a vs,xs=[.ref a]/\(SqL K H a vs\/SqT K H a vs)/\V1 vs vs H Q
theorem Za (hu:X.A.units+80<cLine):zE X (.builtin "sorted") (Ag1 X.K):=by
 intro pins s σ H xs us Q I r h;obtain⟨a,vs,rfl,hq,q⟩:=h;obtain⟨u,rfl,ru⟩:=vals1 r
 cases (show u=Value.ref a from ru)
 exact Aj0 hu I hq q
theorem Y7 (hKq:X.K=Kq)(hu:X.A.units+80<cLine)(hgl:Gl X "sorted") (hm:X.mg "sorted" = none) (ha:QA X (e::es) t) (hns:noStar (e::es)=true:=by rfl):QE X (.Call (.Name "sorted" p) (e::es) [] pos) (tCB (Ag1 Kq) t):=by
 subst hKq
 exact⟨Ga (Za hu) hgl hm boot_sorted ha.get (by decide) (by decide) hns⟩
end
end L2
namespace L2
open PySem PySem.Spec PyProof.Rows
section
variable {P:Program}{w:World}{A:Around}{E:Value->Shared->Prop}{s:Shared}
theorem Ag4:((Manifest.find? "dict_keyiterator").elim "dict_keyiterator" λx=>x.tpName) = "dict_keyiterator" := by rfl
theorem A0h (f:s.heap.IsKeyIter it dd i es.size e) (u:s.heap.get? dd=some od) (a:od.data=.dict es e) (hi:i<es.size)
 (q:∀h',h'.IsKeyIter it dd (i+1) es.size e->Heap.SameBut it s.heap h'->Q (some es[i].key) { s with heap:=h' }):wpAny (model P w) A (pyNext (.ref it)) Q E s:=by
 obtain⟨k,g,d,z,r⟩:=s;obtain⟨⟨c,v,x,G⟩,l,m,h⟩:=f;obtain⟨C,j,o,t⟩:=od;simp only at m h a;subst m h a;have n:(⟨k,g,d,z,r⟩:Shared).TypeIs (.ref it) "dict_keyiterator" := ⟨_,l,rfl⟩;have D:=mroOf_keyiter
 have p:Builtin.Dict_items.ownsTuple "dict_keyiterator" = false:=by decide
 have y:es[(i:Int).toNat]?=some es[i]:=by simp[hi]
 unfold pyNext
 refine wpAny_bind (wpAny_attempt (wpAny_callSpecial?_slot (name:="__next__") n F.slot_dict_keyiterator_next (wpAny_call_entry F.slot_dict_keyiterator_next n F.entry_dict_keyiterator_next ?_ (F.args_dict_keyiterator_next_1 _))))
 repeat any_goals first | assumption | wp_step
 simp only[Ag4,p,Bool.false_eq_true,if_false,List.drop_zero,List.take]
 have B:¬ ((i:Int)<0):=by omega
 simp only[B,if_false,y]
 repeat any_goals first | assumption | wp_step
 simp only[Ag4,p,Bool.false_eq_true,if_false]
 have b:(k.update it (Obj.mapFields (·.setIfInBounds 1 (rawInt ((i:Int)+1))))).IsKeyIter it dd (i+1) es.size e :=
  ⟨_,Heap.get?_update_self _ l (Obj.isFreed_of_fields (Obj.data_mapFields rfl _)),Obj.cls_mapFields ..,by rw[Obj.data_mapFields rfl];simp[rawInt]⟩
 exact⟨_,rfl,wpAny_pure (q _ b (Heap.SameBut.update ..))⟩
theorem A7w (a:A.handled=none) (f:s.heap.IsKeyIter it dd i es.size j) (u:s.heap.get? dd=some od) (e:od.data=.dict es j) (hi:es.size<=i)
 (v:∀h',Heap.ExtBut it s.heap h'->Q none { s with heap:=h' }):wpAny (model P w) A (pyNext (.ref it)) Q E s:=by
 obtain⟨z,g,d,r,x⟩:=s;obtain⟨⟨c,p,q,D⟩,t,h,l⟩:=f;obtain⟨G,k,m,B⟩:=od;simp only at h l e;subst h l e;have n:(⟨z,g,d,r,x⟩:Shared).TypeIs (.ref it) "dict_keyiterator" := ⟨_,t,rfl⟩;have H:=mroOf_keyiter
 have y:Builtin.Dict_items.ownsTuple "dict_keyiterator" = false:=by decide
 have C:es[(i:Int).toNat]?=none:=by simp[hi]
 unfold pyNext
 refine wpAny_bind (wpAny_attempt (wpAny_callSpecial?_slot (name:="__next__") n F.slot_dict_keyiterator_next (wpAny_call_entry F.slot_dict_keyiterator_next n F.entry_dict_keyiterator_next ?_ (F.args_dict_keyiterator_next_1 _))))
 repeat any_goals first | assumption | wp_step
 simp only[Ag4,y,Bool.false_eq_true,if_false,List.drop_zero,List.take]
 have o:¬ ((i:Int)<0):=by omega
 simp only[o,if_false,C]
 repeat any_goals first | assumption | wp_step
 refine wpAny_raiseNew_none (show A.in1.handled=none from a) ?_
 refine wpAny_bind (wpAny_isInstance (T := "StopIteration") (b:=true) ⟨_,Heap.get?_push_size _ rfl,rfl⟩ isSubtype_stop ?_)
 exact wpAny_pure (v _ (((Heap.SameBut.update ..).extBut.push _).push _))
theorem A0a (q:(dd==sysModules)=false) (b:s.heap.get? dd=some od) (hx:od.ExactDict) (a:od.data=.dict es k)
 (m:Q (.ref s.heap.objs.size) { s with heap:=s.heap.push { cls:=.type "dict_keyiterator",data:=.fields #[.ref dd,.int 0 0,.int es.size 0,.int k 0] } }):wpAny (model P w) A (pyIter (.ref dd)) Q E s:=by
 obtain⟨o,g,d,p,l⟩:=s;obtain⟨t,f,e,n⟩:=od;obtain⟨i,h,j⟩:=hx;simp only at i h j a;subst i h j a;have c:(⟨o,g,d,p,l⟩:Shared).TypeIs (.ref dd) "dict" := ⟨_,b,rfl⟩
 refine wpAny_pyIter_slot c F.slot_dict_iter (wpAny_call_entry F.slot_dict_iter c F.entry_dict_iter ?_ (F.args_dict_iter_1 _))
 unfold Builtin.«dict.__iter__» Builtin.Dict.dictSlotNone
 refine wpAny_bind (wpAny_bind (wpAny_notOrdered_dict c (wpAny_pure ?_)))
 have r:Builtin.Dict.showsAll dd=pure ():=by unfold Builtin.Dict.showsAll;rw[if_neg (by rw[q];exact Bool.false_ne_true)]
 show wpAny _ _ (Builtin.Dict.showsAll dd >>= _) _ _ _
 repeat any_goals first | assumption | wp_step
 exact⟨_,rfl, "dict_keyiterator",_,⟨_,Heap.get?_push_size _ rfl,rfl⟩,F.slot_dict_keyiterator_next.lookup,m⟩
end
section
variable {P:Program}{w:World}{A:Around}{E:Value->Shared->Prop}{s:Shared}
theorem As7 (quiet:A.handled=none){it dd:Addr}(ne:dd≠it){es:Array DictEntry}{ep:Nat}{o:Obj}(hd:o.data=.dict es ep) :
 Walks P w A it [it,dd] [it] es.size (λi v=>∃h:i<es.size,v=es[i].key) (λi h=>h.IsKeyIter it dd i es.size ep/\h.get? dd=some o) where
 sub:=λb hb=>by simp at hb;simp[hb]
 frame:=λ_ _ _ st hk=>⟨let ⟨o,e,r⟩:=st.1; ⟨o,hk it (by simp) o e,r⟩,hk dd (by simp) _ st.2⟩
 item:=λi s Q E hi st hQ=>A0h st.1 st.2 hd hi λh' it' sb=>hQ _ h' s.toks ⟨hi,rfl⟩ ⟨it',(sb.2 _ ne).trans st.2⟩ λb o hb e=>(sb.2 b (λh=>hb (by simp[h]))).trans e
 done:=λs Q E st hQ=>A7w quiet st.1 st.2 hd (Nat.le_refl _) λh' he=>hQ h' s.toks λb o hb e=>he b o (λh=>hb (by simp[h])) e
 self:=λ_ _ _ _ st hQ=>wpAny_pyIter_keyiter st.1 hQ
theorem A3u:typeLookup (.type "dict") "__len__" = pure (some (.builtin "dict.__len__")):=by trivial
theorem A1b:isSubtype (.type "dict") (.type "dict")=pure true:=by rfl
theorem Yu (f:A.handled=none) (T:(dd==sysModules)=false) (x:s.heap.get? dd=some o) (C:o.ExactDict) (hd:o.data=.dict es d) (hn:es.size<=sizeLine)
 (R:∀c acc,(∀b o,s.heap.get? b=some o->c.heap.get? b=some o)->c.gens=s.gens->c.drawn=s.drawn->c.os=s.os->ItemsOf (λi v=>∃h:i<es.size,v=es[i].key) acc es.size->Q acc.toList c):wpAny (model P w) A (collect (.ref dd)) Q E s:=by
 unfold collect
 refine wpAny_bind (wpAny_runValue (codeAny_builtin F.entry_proto_collect ?_))
 rw[Around.under_plainId F.plain_proto_collect _]
 show wpAny _ A.in1 (newList [] >>= λl=>again (.builtin "list.__iadd__" ⟨[l,.ref dd],[]⟩)) _ _ s
 refine wpAny_bind (wpAny_newObj_type ?_)
 refine wpAny_pure ⟨plainId_quiet F.plain_list_iadd _,codeAny_builtin F.entry_list_iadd ?_⟩
 rw[Around.under_plainId F.plain_list_iadd _];have B:s.heap.objs.size≠dd:=Nat.ne_of_gt (Heap.lt_size x)
 have N:Builtin.List.listSameRef (.ref s.heap.objs.size) (.ref dd)=false:=by simp[Builtin.List.listSameRef,B]
 have z:=Heap.get?_push_of_some { cls:=.type "list",data:=.seq ([]:List Value).toArray } x;have S:(s.heap.push { cls:=.type "list",data:=.seq ([]:List Value).toArray }).get? s.heap.objs.size=some { cls:=.type "list",data:=.seq ([]:List Value).toArray }:=Heap.get?_push_size _ rfl
 show wpAny _ A.in1 (Builtin.List.listExtendWith (.ref s.heap.objs.size) (.ref dd) (.ref s.heap.objs.size)) _ _ _
 unfold Builtin.List.listExtendWith
 have U:({ s with heap:=s.heap.push { cls:=.type "list",data:=.seq ([]:List Value).toArray } }:Shared).TypeIs (.ref dd) "dict" := ⟨_,z,C.1⟩
 refine wpAny_bind (wpAny_typeOf U ?_)
 have k:(Value.type "dict" == Value.type "list")=false:=by decide
 have J:(Value.type "dict" == Value.type "tuple")=false:=by decide
 simp only[N,k,J,Bool.or_false,Bool.false_eq_true,if_false]
 refine wpAny_bind (A0a T z C hd ?_)
 have D:=Heap.get?_push_of_some { cls:=.type "dict_keyiterator",data:=.fields #[.ref dd,.int 0 0,.int es.size 0,.int d 0] } z;have q:=Heap.get?_push_of_some { cls:=.type "dict_keyiterator",data:=.fields #[.ref dd,.int 0 0,.int es.size 0,.int d 0] } S;have G:((s.heap.push { cls:=.type "list",data:=.seq ([]:List Value).toArray }).push { cls:=.type "dict_keyiterator",data:=.fields #[.ref dd,.int 0 0,.int es.size 0,.int d 0] }).IsKeyIter (s.heap.push { cls:=.type "list",data:=.seq ([]:List Value).toArray }).objs.size dd 0 es.size d:=⟨_,Heap.get?_push_size _ rfl,rfl,rfl⟩;have K:(s.heap.push { cls:=.type "list",data:=.seq ([]:List Value).toArray }).objs.size=s.heap.objs.size+1:=Heap.size_push ..
 have O:∀b o,s.heap.get? b=some o->((s.heap.push { cls:=.type "list",data:=.seq ([]:List Value).toArray }).push { cls:=.type "dict_keyiterator",data:=.fields #[.ref dd,.int 0 0,.int es.size 0,.int d 0] }).get? b=some o:=λb o e=>Heap.get?_push_of_some _ (Heap.get?_push_of_some _ e)
 rw[K]at G ⊢
 generalize ((s.heap.push { cls:=.type "list",data:=.seq ([]:List Value).toArray }).push { cls:=.type "dict_keyiterator",data:=.fields #[.ref dd,.int 0 0,.int es.size 0,.int d 0] })=k at *
 have j:({ s with heap:=k }:Shared).TypeIs (.ref dd) "dict" := ⟨_,D,C.1⟩
 refine wpAny_bind (wpAny_holding ?_)
 unfold Builtin.List.listLengthHint
 refine wpAny_bind (wpAny_specialOf j A3u ?_)
 wp_delta
 refine wpAny_bind (wpAny_isInstance (b:=true) j A1b ?_)
 show wpAny _ A.in1 (typeOf (Value.ref dd) >>= _) _ _ _
 refine wpAny_bind (wpAny_typeOf j ?_)
 refine wpAny_pure ?_
 rw[if_pos (by decide)]
 refine wpAny_bind (wpAny_rule ?_)
 refine wpAny_bind (m:=Builtin.List.listTouch _) ?_
 unfold Builtin.List.listTouch
 refine wpAny_bind (wpAny_updateSeq q rfl ?_)
 have H:=Heap.get?_update_self (Obj.mapSeq (·.push Value.none)) q rfl
 refine wpAny_updateSeq H rfl ?_
 have Y:=Heap.get?_update_self (Obj.mapSeq (·.pop)) H rfl
 have g:∀b o,b≠s.heap.objs.size->k.get? b=some o->((k.update s.heap.objs.size (Obj.mapSeq (·.push Value.none))).update s.heap.objs.size (Obj.mapSeq (·.pop))).get? b=some o:=λb o n e=>(Heap.get?_update_other _ _ (Ne.symm n)).trans ((Heap.get?_update_other _ _ (Ne.symm n)).trans e)
 have L:=Heap.lt_size x;have M:dd≠s.heap.objs.size+1:=Nat.ne_of_lt (Nat.lt_succ_of_lt L)
 have W:=As7 (P:=P) (w:=w) (A:=A.in1) (show A.in1.handled=none from f) M hd
 refine wpAny_pure ⟨plainId_quiet F.plain_extend_loop _,codeAny_extend_loopS W.toS hn s.heap.objs.size (λm=>?_) _ es.size 0 _ _ _ rfl (Nat.zero_le _) ⟨?_,g _ _ (Ne.symm B) D⟩ Y (ItemsOf.nil _) λc r Z u y p=>?_⟩
 ·simp only[List.mem_cons,List.not_mem_nil,or_false]at m
  rcases m with m | m
  ·exact absurd m (Nat.ne_of_lt (Nat.lt_succ_self _))
  ·exact B m
 ·obtain⟨t,X,V⟩:=G
  exact⟨t,g _ _ (Nat.ne_of_gt (Nat.lt_succ_self _)) X,V⟩
 ·show wpAny _ A (load s.heap.objs.size >>= _) _ _ c
  refine wpAny_bind (wpAny_load y ?_)
  refine wpAny_pure (R c r (λb t e=>u.heap b t (λI=>?_) (g b t (Nat.ne_of_lt (Heap.lt_size e)) (O b t e))) u.gens u.drawn u.os p)
  have a:=Heap.lt_size e;simp only[List.mem_cons,List.not_mem_nil,or_false]at I
  rcases I with h | h
  ·rw[h]at a;exact absurd a (Nat.lt_irrefl _)
  ·rw[h]at a;exact absurd a (Nat.not_lt.mpr (Nat.le_succ _))
theorem Tt (t:(dd==sysModules)=false) (j:o.ExactDict) (hd:o.data=.dict es m) (hn:es.size<=sizeLine) :
 Meets (Builtin.«tuple.__new__» ⟨[.type "tuple",.ref dd],[]⟩)
  (λA R s=>A.handled=none/\s.heap.get? dd=some o/\∀(s':Shared) (acc:Array Value),(∀b o,s.heap.get? b=some o->s'.heap.get? b=some o)->s'.gens=s.gens->s'.drawn=s.drawn->s'.os=s.os->ItemsOf (λi v=>∃h:i<es.size,v=es[i].key) acc es.size ->
   R (.ok (.ret (.ref s'.heap.objs.size))) { s' with heap:=s'.heap.push { cls:=.type "tuple",data:=.seq acc } }) :=
 .of_wp λP w A R s h=>by
  obtain⟨p,k,h⟩:=h;have l:=sub_tuple_self;have c:=init_tuple_lookup;have u:=madeHere_tuple;have n:s.TypeIs (.ref dd) "dict" := ⟨_,k,j.1⟩;have f:A.in1.handled=none:=p
  wp_walk using wpAny_typeOf n,Yu f t k j hd hn
  intro s' acc q r d g a
  refine wpAny_bind (wpAny_pure ?_)
  show wpAny _ _ (Builtin.Tuple.tupleExact acc.toList.toArray >>= λv=>ret v) _ _ _
  unfold Builtin.Tuple.tupleExact
  have e:acc.toList.toArray=acc:=by simp
  refine wpAny_bind (wpAny_newObj_type ?_ (by rw[e];show acc.size<=sizeLine;rw[a.1];exact hn))
  refine wpAny_pure ⟨_,rfl,?_⟩
  rw[e];exact h s' _ q r d g a
theorem Vu (a:A.handled=none) (e:(dd==sysModules)=false) (f:s.heap.get? dd=some o) (g:o.ExactDict) (hd:o.data=.dict es d) (hn:es.size<=sizeLine)
 (h:∀(h':Heap) (tk:Nat) (acc:Array Value),(∀b o,s.heap.get? b=some o->h'.get? b=some o)->ItemsOf (λi v=>∃h:i<es.size,v=es[i].key) acc es.size->Q (.ref h'.objs.size) { s with heap:=h'.push { cls:=.type "tuple",data:=.seq acc },toks:=tk }) :
 wpAny (model P w) A (call (.type "tuple") [.ref dd]) Q E s:=by
 refine callType_new F.called_tuple (by rfl) (F.typeCall_tuple_1 _) (F.newCall_tuple_1 _) (λk=>F.args_object_init_2 _ _) F.entry_tuple_new
  (Tt e g hd hn) ⟨a,f,λm acc n p j l c=>⟨⟨_,Heap.get?_push_size _ rfl,rfl⟩,?_⟩⟩
 grind
end
section
variable {X:Cx}
theorem A8a (hu:X.A.units+64<cLine) (ho:QE X o d) (hi:QE X i ty) (hv:QE X a e) (hs:swapsWith a (some (.Subscript o i b)) c.line X.env=pure false:=by rfl) :
 QS X (.Assign [.Subscript o i b] a c) (A4x d ty e):=⟨A6z (Nat.lt_of_le_of_lt (Nat.add_le_add_left (by decide) _) hu) ho.get hi.get hv.get hs⟩
end
end L2
namespace L2
open PySem PySem.Spec PyProof.Rows PySem.W
def Ax4 (tc:List (Str×List Str))(mg:Str->Option Value)(h:Heap):Prop:=∀q∈tc,∃a o its n,mg q.1=some (.ref a)/\h.get? a=some o/\o.cls=.type "tuple" /\ o.data=.seq its n/\its.size<=sizeLine/\Vals (q.2.map V.str) its.toList
theorem Ou:∀{ss:List Str}{us:List Value},Sv ss us=true->Vals (ss.map V.str) us
 | [],[],_=>.nil
 | s::ss,.str z t::us,e=>by
  obtain⟨e1,e2⟩:=Bool.and_eq_true_iff.mp (show (s==z&&Sv ss us)=true from e)
  cases eq_of_beq e1
  exact .cons ⟨t,rfl⟩ (Ou e2)
theorem Bt6 {s:Shared}(e:d.all (A1t s.heap)=true):Ax4 d (s.heap.nsMap mainGlobals) s.heap:=λq m=>by
 have e:=List.all_eq_true.mp e q m;unfold A1t at e
 split at e
 ·rename_i a h
  split at e
  ·rename_i o g
   split at e
   ·rename_i c b n i j
    obtain⟨e,k⟩:=Bool.and_eq_true_iff.mp e;obtain⟨l,f⟩:=Bool.and_eq_true_iff.mp e
    exact⟨a,o,b,n,h,g,by rw[i,eq_of_beq l],j,of_decide_eq_true f,Ou k⟩
   ·cases e
  ·cases e
 ·cases e
theorem A0i (mg:Str->Option Value) (h h':Heap) (x:Ax4 c mg h) (hk:∀b o,h.get? b=some o->h'.get? b=some o):Ax4 c mg h':=λq m=>by
 obtain⟨a,o,d,n,f,e,r⟩:=x q m
 grind
theorem Ar9 {K:PySem.W.Frag}(x:Ax4 c mg h) (f:∀a o,h.get? a=some o->Gx o=true->o.data≠.fields #[]->K.lookup a=some o) {i:Nat} (e:c[i]?=some (y,ss)):∃p,mg y=some (.ref p)/\∀H,SqT K H p (ss.map V.str):=by
 obtain⟨a,o,b,n,g,j,k,l,m,d⟩:=x _ (List.mem_of_getElem? e)
 exact⟨a,g,λH=>.inr ⟨o,b,n,f a o j (by unfold Gx;grind) (by grind),k,l,m,d⟩⟩
theorem walk_ofX {l:OpenLaw} {sp:Frag->Sp}
 (hn:l.most=some n) (r:n<=sizeLine) (t:d.params.defaults=[]) (hr:Room k callerA)
 (F:∀(w:World) (g:ExcName->Option Value) (mg C:Str->Option Value) (fa:Addr) (h:Heap),Top q (looseW q loose) g mg C h->XP mg h->mg d.name=some (.ref fa) ->
  ∃(K:Frag) (p:FuncData),K.In h/\TabAt K h/\(∀(s:Shared) (u:Value),BindsTo s p ⟨[u],[]⟩ [(x,u)])/\∀base:Heap,K.In base->base.Ns mainGlobals mg->FnOk l.prog w K mg base CX0 k fa p [x] (sp K))
 (m:∀(K:Frag) (H:Hp) (a:Addr) (ns:List Int),ns.length<=n->SqL K H a (ns.map V.int)->sp K [.ref a] H (λv _=>v=.bl true) λ_ _ _=>False) :
 WalkO q loose XP YP l.row.toRowW d [] (λf vs=>PySem.call f vs):=by
 refine Att.Ac0 hn t λw D B mg C fa o P O J a vs ns G Y Q R E j i c b L=>?_
 obtain⟨K,p,y,A,I,M⟩:=F w _ _ _ _ _ G.T G.X j
 exact At1 y G.T.g G.T.b G.T.builtins G.T.nolimit L G.T.bmain A i c (Nat.le_trans b r) hr M I (λH N=>m K H a _ b N) λH e S z=>z
end L2
namespace U
open PySem L2
structure Xn where
 n:Str
 p:Option (Str×PyData)
inductive Th where
 | nm (T:String)
 | dc (ks:List Str) (ds:List PyData)
 | dt (ks ds:List PyData)
 | ds (ks ds:List PyData)
 | td (xs ks ds:List PyData)
 | xc (nm:Xn)
 | tc (ss:List Str)
inductive O where
 | im (d:PyData)
 | ls (b:Bool) (ds:List PyData)
 | sc (ns:List Int)
 | ty (T:Th)
abbrev Ev:=List (Option O)
inductive PV where
 | o (o:O)
 | sl (i:Nat)
inductive R (α:Type) where
 | ok (a:α) (c:Ev)
 | bad
noncomputable def R.bind {α β:Type} (r:R α) (k:α->Ev->R β):R β:=match r with
 | .ok a c=>k a c
 | .bad=>.bad
def R.sat {α:Type}(r:R α)(φ:α->Ev->Prop):Prop:=match r with
 | .ok a c=>φ a c
 | .bad=>False
theorem R.sat_bind {r:R d}{k:d->Ev->R e}{b:e->Ev->Prop}:(r.bind k).sat b↔r.sat λa c=>(k a c).sat b:=by cases r <;> exact Iff.rfl
theorem R.sat.mono {r:R d}{e b:d->Ev->Prop}(h:r.sat e) (f:∀a c,e a c->b a c):r.sat b:=by
 cases r with
 | ok a c=>exact f a c h
 | bad=>exact h
theorem R.sat.bnd {r:R d}{k:d->Ev->R e}{b:e->Ev->Prop}(h:(r.bind k).sat b):r.sat λa c=>(k a c).sat b:=R.sat_bind.mp h
noncomputable def O.bor:O->Bool
 | .ls b _=>b
 | _=>false
noncomputable def O.own:O->Bool
 | .ls _ _=>true
 | _=>false
noncomputable def O.dat:O->Option PyData
 | .im d=>some d
 | .ls _ ds=>some (.list ds)
 | _=>none
noncomputable def O.flag (b:Bool):O->O
 | .ls _ ds=>.ls b ds
 | o=>o
noncomputable def nrm:PV->PV
 | .o (.ls _ ds)=>.o (.im (.list ds))
 | p=>p
noncomputable def rdP (c:Ev):PV->Option O
 | .o o=>some o
 | .sl i=>(c[i]?).join
def Fj (c:Ev)(p:PV):Option PyData:=(rdP c p).bind O.dat
structure Wo where
 Hf:Hp
 H:Hp
 fps:Nat->List Addr
def Wo.S (W:Wo):Addr->Prop:=λa=>∃i,a∈W.fps i
def Bp7 (Hf:Hp):Option (Str×PyData)->Option Addr->Prop
 | none,d=>d=none
 | some q,d=>∃a v,d=some a/\Hf a=some (.xd [(q.1,v)])/\Tr Hf q.2 v
structure XAt (K:PySem.W.Frag) (Hf:Hp) (nm:Xn) (C:Addr) (d:Option Addr):Prop where
 ns:PySem.W.nsIn K mainGlobals nm.n=some (some (.ref C))
 pay:Bp7 Hf nm.p d
theorem XAt.same {K:PySem.W.Frag}{Hf Hf':Hp}{nm:Xn}{C:Addr}{d:Option Addr}(S:Same Hf Hf')(x:XAt K Hf nm C d):XAt K Hf' nm C d:=by
 refine⟨x.ns,?_⟩
 have q:=x.pay
 cases e:nm.p with
 | none=>rw[e]at q;exact q
 | some y=>rw[e]at q;obtain⟨a,v,h1,h2,h3⟩:=q;exact⟨a,v,h1,S _ _ h2,Tr.same S h3⟩
def RepT (K:PySem.W.Frag)(Hf:Hp):Th->V->Prop
 | .nm T,v=>v=.ty T
 | .dc ks ds,v=>∃a xs,v=.ref a/\Hf a=some (.dK (J5 ks xs))/\TrL Hf ds xs
 | .dt ks ds,v=>∃a xs,v=.ref a/\Rd Hf a (.dT (ks.zip xs))/\TrL Hf ds xs/\ks.length=xs.length
 | .ds ks ds,v=>∃a o xs,v=.ref a/\Hf a=some (.frz o (.dT (ks.zip xs)))/\TrL Hf ds xs/\ks.length=xs.length
 | .td es ks ds,v=>∃a us b o xs,v=.ref a/\Hf a=some (.tup (us++[.ref b]))/\TrL Hf es us/\Hf b=some (.frz o (.dT (ks.zip xs)))/\TrL Hf ds xs/\ks.length=xs.length
 | .xc nm,v=>∃a C d,v=.ref a/\XAt K Hf nm C d/\Hf a=some (Bv3 a C d)
 | .tc ss,v=>∃p,v=.ref p/\∀H,SqT K H p (ss.map V.str)
theorem A9d (S:Same Hf b) (h:Rd Hf a u):Rd b a u:=h.imp (λh=>S _ _ h) λ⟨o,h⟩=>⟨o,S _ _ h⟩
theorem RepT.same {K:PySem.W.Frag}{Hf Hf':Hp}(S:Same Hf Hf'):∀{t:Th}{v:V},RepT K Hf t v->RepT K Hf' t v
 | .nm T,_,h=>h
 | .dc ks ds,_,⟨a,xs,e,h,t⟩=>⟨a,xs,e,S _ _ h,TrL.same S t⟩
 | .dt ks ds,_,⟨a,xs,e,h,t,l⟩=>⟨a,xs,e,A9d S h,TrL.same S t,l⟩
 | .ds ks ds,_,⟨a,o,xs,e,h,t,l⟩=>⟨a,o,xs,e,S _ _ h,TrL.same S t,l⟩
 | .td es ks ds,_,⟨a,us,b,o,xs,e,h,t,h2,t2,l⟩=>⟨a,us,b,o,xs,e,S _ _ h,TrL.same S t,S _ _ h2,TrL.same S t2,l⟩
 | .xc nm,_,⟨a,C,d,e,n,h⟩=>⟨a,C,d,e,n.same S,S _ _ h⟩
 | .tc ss,_,h=>h
def RepN (K:PySem.W.Frag)(Hf:Hp):O->V->Prop
 | .im d,v=>Tr Hf d v
 | .sc ns,v=>∃a,v=.ref a/\SqL K Hf a (ns.map V.int)
 | .ty T,v=>RepT K Hf T v
 | .ls _ _,_=>False
def RepO (K:PySem.W.Frag)(Hf H:Hp)(o:O)(v:V)(fp:List Addr):Prop:=match o with
 | .ls _ ds=>∃a vs,v=.ref a/\fp=[a]/\Hf a=none/\H a=some (.lst vs)/\TrL Hf ds vs
 | o=>fp=[]/\RepN K Hf o v
structure Stp (S:Addr->Prop) (Hf H:Hp) (S':Addr->Prop) (Hf' H':Hp):Prop where
 fz:Same Hf Hf'
 kp:∀a o,H a=some o->¬ S a->H' a=some o
 nf:∀a o,H a=some o->Mut (some o)->¬ S a->Hf a=none->Hf' a=none
 fr:∀a,S' a->S a\/H a=none
structure Rep (K:PySem.W.Frag) (β:Nat->V) (W:Wo) (c:Ev) (σ:St):Prop where
 sub:Same W.Hf W.H
 len:c.length=σ.length
 get:∀i o,c[i]?=some (some o)->∃v,σ[i]?=some (some v)/\RepO K W.Hf W.H o v (W.fps i)/\(o.bor=true->v=β i)
 dis:∀i j a,a∈W.fps i->a∈W.fps j->i=j
 own:∀i a,a∈W.fps i->W.Hf a=none/\∃o,W.H a=some o/\Mut (some o)
def Gg (K:PySem.W.Frag)(W:Wo)(σ:St):PV->V->List Addr->Prop
 | .o o,v,fp=>RepO K W.Hf W.H o v fp/\∀a∈fp,¬ W.S a
 | .sl i,v,fp=>fp=[]/\σ[i]?=some (some v)
def RepA (K:PySem.W.Frag)(Hf:Hp)(σ:St):PV->V->Prop
 | .o o,v=>RepN K Hf o v
 | .sl i,v=>σ[i]?=some (some v)
def zM (K:PySem.W.Frag)(Hf:Hp)(σ:St):List PV->List V->Prop
 | [],vs=>vs=[]
 | p::ps,vs=>∃v r,vs=v::r/\RepA K Hf σ p v/\zM K Hf σ ps r
abbrev orS (S:Addr->Prop)(fp:List Addr):Addr->Prop:=λa=>S a\/a∈fp
section
variable {K:PySem.W.Frag}{β:Nat->V}{W W':Wo}{c c':Ev}{σ:St}{Hf Hf' Hf2 H H' H2:Hp}{o:O}{v:V}{fp:List Addr}{S S' S2:Addr->Prop}{p:PV}{a:Addr}
theorem Stp.refl:Stp S Hf H S Hf H:=⟨λ_ _ h=>h,λ_ _ h _=>h,λ_ _ _ _ _ h=>h,λ_ h=>.inl h⟩
theorem Stp.trans (x:Stp S Hf H S' Hf' H')(y:Stp S' Hf' H' S2 Hf2 H2):Stp S Hf H S2 Hf2 H2:=by
 have b:∀a o,H a=some o->¬ S a->¬ S' a:=λa o h n z=>by
  rcases x.fr a z with q | q
  ·trivial
  simp_all
 refine⟨x.fz.trans y.fz,λa o h n=>y.kp a o (x.kp a o h n) (b a o h n),λa o h c n q=>y.nf a o (x.kp a o h n) c (b a o h n) (x.nf a o h c n q),λa h=>?_⟩
 rcases y.fr a h with q | q
 ·exact x.fr a q
 ·cases e:H a with
  | none=>simp_all
  | some o =>
   by_cases n:S a
   ·grind
   ·rw[x.kp a o e n]at q;grind
theorem Stp.less (x:Stp S Hf H S' Hf' H')(h:∀a,S2 a->S' a):Stp S Hf H S2 Hf' H':=⟨x.fz,x.kp,x.nf,λa q=>x.fr a (h a q)⟩
theorem Stp.more {F:Addr->Prop}(x:Stp S Hf H S' Hf' H'):Stp (λa=>S a\/F a) Hf H (λa=>S' a\/F a) Hf' H' :=
 ⟨x.fz,λa o h n=>x.kp a o h λz=>n (.inl z),λa o h b n q=>x.nf a o h b (λz=>n (.inl z)) q,λa q=>by
  rcases q with q | q
  ·rcases x.fr a q with z | z
   ·simp_all
   grind
  simp_all⟩
theorem Stp.up (x:Stp S Hf H S' Hf' H')(h:∀a,S a->S2 a):Stp S2 Hf H S' Hf' H' :=
 ⟨x.fz,λa o e n=>x.kp a o e λz=>n (h a z),λa o e b n q=>x.nf a o e b (λz=>n (h a z)) q,λa q=>(x.fr a q).imp (h a) id⟩
theorem RepN.same (S:Same Hf Hf'):∀{o:O}{v:V},RepN K Hf o v->RepN K Hf' o v
 | .im d,_,h=>Tr.same S h
 | .sc ns,_,⟨a,e,h⟩=>⟨a,e,Same.seq S h⟩
 | .ty T,_,h=>RepT.same S h
 | .ls _ _,_,h=>h
theorem RepA.same (S:Same Hf Hf'):∀{p:PV}{v:V},RepA K Hf σ p v->RepA K Hf' σ p v
 | .o _,_,h=>RepN.same S h
 | .sl _,_,h=>h
theorem zM.same (S:Same Hf Hf'):∀{ps:List PV}{vs:List V},zM K Hf σ ps vs->zM K Hf' σ ps vs
 | [],_,h=>h
 | p::ps,_,⟨v,r,e,h,t⟩=>⟨v,r,e,RepA.same S h,zM.same S t⟩
theorem RepO.mono (h:RepO K Hf H o v fp)(S:Same Hf Hf')(h1:∀a∈fp,Hf' a=none/\H' a=H a):RepO K Hf' H' o v fp:=by
 cases o with
 | ls b ds =>
  obtain⟨a,f,rfl,rfl,q,e,t⟩:=h;obtain⟨c,g⟩:=h1 a (.head _);exact⟨a,f,rfl,rfl,c,g.trans e,TrL.same S t⟩
 | im d=>exact⟨h.1,RepN.same S h.2⟩
 | sc ns=>exact⟨h.1,RepN.same S h.2⟩
 | ty T=>exact⟨h.1,RepN.same S h.2⟩
theorem Rep.frame (R:Rep K β W c σ)(S:Same W.Hf Hf')(sub:Same Hf' H')(h:∀a,W.S a->Hf' a=none/\H' a=W.H a):Rep K β ⟨Hf',H',W.fps⟩ c σ :=
 ⟨sub,R.len,λi o e=>by
  obtain⟨v,f,r,b⟩:=R.get i o e
  exact⟨v,f,r.mono S λa d=>h a ⟨i,d⟩,b⟩,R.dis,λi a d=>by
  obtain⟨_,o,q,j⟩:=R.own i a d;obtain⟨k,g⟩:=h a ⟨i,d⟩
  grind⟩
theorem Rep.notS (R:Rep K β W c σ)(h:W.H a=none):¬ W.S a:=λ⟨i,q⟩=>by
 obtain⟨_,o,e,_⟩:=R.own i a q
 grind
theorem Rep.notF (R:Rep K β W c σ)(h:W.H a=none):W.Hf a=none:=Same.free R.sub h
theorem Stp.rep (R:Rep K β W c σ)(x:Stp (λ_=>False) W.Hf W.H S' Hf' H')(sub:Same Hf' H'):Rep K β ⟨Hf',H',W.fps⟩ c σ :=
 R.frame x.fz sub λa d=>by
  obtain⟨i,f⟩:=d;obtain⟨z,o,e,b⟩:=R.own i a f
  exact⟨x.nf a o e b (λz=>z) z,(x.kp a o e λz=>z).trans e.symm⟩
theorem Cq {p:Addr}{o:HO}(h:H p=none):Same H (upd H p o):=λb u e=>by
 rw[Ar];exact e
 grind
theorem Qa {o:HO}(s:Same Hf H):Same (upd Hf a o) (upd H a o):=λb u e=>by
 unfold upd at e ⊢
 split
 ·grind
 ·rename_i z;rw[if_neg z]at e;exact s b u e
theorem Stp.newF {o:HO}(s:Same Hf H)(h:H a=none):Stp (λ_=>False) Hf H (λ_=>False) (upd Hf a o) (upd H a o) :=
 ⟨Cq (Same.free s h),λb u e _=>Cq h b u e,λb u e _ _ q=>by rw[Ar (Bl e h)];grind,λ_ z=>z.elim⟩
theorem Stp.newL {o:HO}(s:Same Hf H)(h:H a=none):Stp (λ_=>False) Hf H (λb=>b∈[a]) Hf (upd H a o) :=
 ⟨Same.refl _,λb u e _=>Cq h b u e,λb u e _ _ q=>q,λb z=>by
  grind⟩
theorem Ye {o:HO}(s:Same Hf H)(h:H a=none):Same Hf (upd H a o):=s.trans (Cq h)
def ME (K:PySem.W.Frag)(T:TE)(f:Ev->R PV):Prop:=∀(β:Nat->V) (W:Wo) (c:Ev) (σ:St) (Q:VK),Rep K β W c σ ->
 (f c).sat (λp c'=>∀v W' fp,Stp W.S W.Hf W.H (orS W'.S fp) W'.Hf W'.H->Rep K β W' c' σ->Gg K W' σ p v fp->Q v W'.H)->T σ W.H Q
def MV (K:PySem.W.Frag)(T:TE)(f:Ev->R PV):Prop:=∀(β:Nat->V) (W:Wo) (c:Ev) (σ:St) (Q:VK),Rep K β W c σ ->
 (f c).sat (λp c'=>∀v W',Stp W.S W.Hf W.H W'.S W'.Hf W'.H->Rep K β W' c' σ->RepA K W'.Hf σ (nrm p) v->Q v W'.H)->T σ W.H Q
def MA (K:PySem.W.Frag)(T:TA)(f:Ev->R (List PV)):Prop:=∀(β:Nat->V) (W:Wo) (c:Ev) (σ:St) (Q:List V->Hp->Prop),Rep K β W c σ ->
 (f c).sat (λps c'=>∀vs W',Stp W.S W.Hf W.H W'.S W'.Hf W'.H->Rep K β W' c' σ->zM K W'.Hf σ ps vs->Q vs W'.H)->T σ W.H Q
def MT (K:PySem.W.Frag)(T:TT)(f:Ev->R Bool):Prop:=∀(β:Nat->V) (W:Wo) (c:Ev) (σ:St) (Q:Bool->Hp->Prop),Rep K β W c σ ->
 (f c).sat (λb c'=>∀W',Stp W.S W.Hf W.H W'.S W'.Hf W'.H->Rep K β W' c' σ->Q b W'.H)->T σ W.H Q
theorem X3 (R:Rep K β W c σ) (hf:W.Hf a=none) (h:W.H a=some (.lst vs)) (hn:¬ W.S a):Rep K β ⟨upd W.Hf a (.lst vs),W.H,W.fps⟩ c σ :=
 R.frame (Cq hf) (λb u e=>by
  unfold upd at e
  split at e
  ·grind
  ·exact R.sub b u e) λb f=>by
   obtain⟨i,g⟩:=f
   have d:b≠a:=λz=>hn ⟨i,by simp_all⟩
   exact⟨by rw[Ar d];exact(R.own i b g).1,rfl⟩
theorem Ba1 {Q:VK} (k:∀v c,Stp W.S W.Hf W.H c.S c.Hf c.H->Rep K β c c' σ->RepA K c.Hf σ (nrm p) v->Q v c.H) (v:V) (c:Wo) (fp:List Addr) (st:Stp W.S W.Hf W.H (orS c.S fp) c.Hf c.H) (g:Rep K β c c' σ) (f:Gg K c σ p v fp):Q v c.H:=by
 cases p with
 | sl i =>
  obtain⟨rfl,e⟩:=f
  exact k v _ (st.less λa z=>.inl z) g e
 | o o =>
  cases o with
  | im d =>
   obtain⟨⟨rfl,e⟩,_⟩:=f
   exact k v _ (st.less λa z=>.inl z) g e
  | sc d =>
   obtain⟨⟨rfl,e⟩,_⟩:=f
   exact k v _ (st.less λa z=>.inl z) g e
  | ty d =>
   obtain⟨⟨rfl,e⟩,_⟩:=f
   exact k v _ (st.less λa z=>.inl z) g e
  | ls b ds =>
   obtain⟨⟨a,l,rfl,rfl,h,r,t⟩,m⟩:=f
   refine k _ ⟨upd _ a _,c.H,c.fps⟩ ⟨st.fz.trans (Cq h),st.kp,λb o e s n q=>?_,λb z=>st.fr b (.inl z)⟩ (X3 g h r (m a (.head _))) ?_
   ·have j:b≠a:=λz=>by
     rcases st.fr a (.inr (.head _)) with y | y
     ·grind
     simp_all
    show upd _ a _ b=none
    rw[Ar j];exact st.nf b o e s n q
   ·exact⟨a,l,rfl,Bw,TrL.same (Cq h) t⟩
theorem ME.toV (h:ME K T f):MV K T f:=λe W c j Q R s=>h _ W c _ Q R (s.mono λp l k v g i a d b=>Ba1 k v _ _ a d b)
end
def RdV (Hf H:Hp):PyData->V->Prop
 | .list ds,v=>∃a vs,v=.ref a/\H a=some (.lst vs)/\TrL Hf ds vs
 | d,v=>Tr Hf d v
section
variable {K:PySem.W.Frag}{β:Nat->V}{W W':Wo}{c c':Ev}{σ:St}{Hf Hf' H H':Hp}{o:O}{v:V}{fp:List Addr}{S:Addr->Prop}{p:PV}{a:Addr}{d:PyData}
theorem RdV.of (s:Same Hf H)(h:Tr Hf d v):RdV Hf H d v:=by
 cases d with
 | list f=>obtain⟨a,c,e,q,t⟩:=h;exact⟨a,c,e,s _ _ q,t⟩
 | none=>exact h
 | bool b=>exact h
 | int i=>exact h
 | str x=>exact h
 | tuple f=>exact h
 | dict k=>exact h
theorem RdV.tr (s:Same Hf H)(h:RdV Hf H d v):Tr H d v:=by
 cases d with
 | list f=>obtain⟨a,c,e,q,t⟩:=h;exact⟨a,c,e,q,TrL.same s t⟩
 | none=>exact h
 | bool b=>exact h
 | int i=>exact h
 | str x=>exact h
 | tuple f=>exact Tr.same s h
 | dict k=>trivial
theorem Gp (R:Rep K β W c σ)(h:RepA K W.Hf σ p v)(e:Fj c p=some d):RdV W.Hf W.H d v:=by
 cases p with
 | o o =>
  cases o with
  | im m=>cases e;exact .of R.sub h
  | ls b n=>trivial
  | sc k=>trivial
  | ty T=>trivial
 | sl i =>
  have l:c[i]?.join.bind _=some d:=e;obtain⟨o,g,f⟩:=Option.bind_eq_some_iff.mp l
  have g:c[i]?=some (some o):=by
   grind
  obtain⟨u,s,r,_⟩:=R.get i o g
  cases s.symm.trans h
  cases o with
  | im m=>cases f;exact .of R.sub r.2
  | ls b n =>
   cases f
   obtain⟨a,j,e,_,_,q,t⟩:=r;exact⟨a,j,e,q,t⟩
  | sc k=>trivial
  | ty T=>trivial
def Bl4 (Hf H:Hp):List PyData->List V->Prop
 | [],vs=>vs=[]
 | d::ds,vs=>∃v r,vs=v::r/\RdV Hf H d v/\Bl4 Hf H ds r
abbrev New (K:PySem.W.Frag)(Hf H:Hp)(o:O)(Q:VK):Prop:=∀v Hf' H' fp,Stp (λ_=>False) Hf H (λa=>a∈fp) Hf' H'->Same Hf' H'->RepO K Hf' H' o v fp->Q v H'
def OpS (K:PySem.W.Frag)(r:R2)(op:PyData->PyData->Option O):Prop:=∀(Hf H:Hp) (x y:V) (dx dy:PyData) (o:O) (Q:VK),Same Hf H->RdV Hf H dx x->RdV Hf H dy y->op dx dy=some o->New K Hf H o Q->r x y H Q
def Bs2 (K:PySem.W.Frag)(r:List V->Hp->VK->Prop)(op:List PyData->Option O):Prop:=∀(Hf H:Hp) (xs:List V) (ds:List PyData) (o:O) (Q:VK),Same Hf H->Bl4 Hf H ds xs->op ds=some o->New K Hf H o Q->r xs H Q
theorem New.same (h:New K Hf H (.im d) Q) (s:Same Hf H) (t:Tr Hf d v):Q v H:=h v _ H [] (Stp.refl.less λa z=>nomatch z) s ⟨rfl,t⟩
theorem New.tup (h:New K Hf H (.im (.tuple ds)) Q) (s:Same Hf H) (t:TrL Hf ds vs) {p:Addr}(hp:H p=none):Q (.ref p) (upd H p (.tup vs)) :=
 h _ _ _ [] ((Stp.newF s hp).less λa z=>nomatch z) (Qa s) ⟨rfl,p,vs,rfl,Bw,TrL.same (Cq (Same.free s hp)) t⟩
theorem New.lst (h:New K Hf H (.ls false ds) Q) (s:Same Hf H) (t:TrL Hf ds vs) {p:Addr}(hp:H p=none):Q (.ref p) (upd H p (.lst vs)) :=
 h _ _ _ _ (Stp.newL s hp) (Ye s hp) ⟨p,vs,rfl,rfl,Same.free s hp,Bw,t⟩
theorem New.of (R:Rep K β W c σ) (k:∀v W' d,Stp W.S W.Hf W.H (orS W'.S d) W'.Hf W'.H->Rep K β W' c σ->Gg K W' σ (.o o) v d->Q v W'.H):New K W.Hf W.H o Q:=by
 intro v h j d b f r
 refine k v _ _ ⟨b.fz,λa o e _=>b.kp a o e λz=>z,λa o e i _ q=>b.nf a o e i (λz=>z) q,λa z=>?_⟩ (b.rep R f) ⟨r,λa g z=>?_⟩
 ·rcases z with z | z
  ·exact .inl z
  ·rcases b.fr a z with y | y
   ·trivial
   grind
 ·rcases b.fr a g with y | y
  ·omega
  ·exact R.notS y z
def cOp (op:PyData->PyData->Option O)(fa fb:Ev->R PV):Ev->R PV:=λc=>(fa c).bind λp c=>(fb c).bind λq c =>
 match Fj c (nrm p),Fj c (nrm q) with
 | some x,some y=>match op x y with
  | some o=>.ok (.o o) c
  | none=>.bad
 | _,_=>.bad
theorem Ag (ha:ME K g fa) (hb:ME K f fb) (hr:OpS K r op):ME K (tOp r g f) (cOp op fa fb):=by
 intro β W c σ Q R s
 refine ha.toV _ W c _ _ R (s.bnd.mono λp c1 l v1 W1 d i j=>?_)
 refine hb.toV _ _ _ _ _ i (l.bnd.mono λq e a v2 W2 b R2 k=>?_)
 cases ex:Fj e (nrm p) with
 | none=>simp only[ex]at a;trivial
 | some x =>
  cases ey:Fj e (nrm q) with
  | none=>simp only[ex,ey]at a;trivial
  | some y =>
   simp only[ex,ey]at a
   cases eo:op x y with
   | none=>simp only[eo]at a;trivial
   | some o =>
    simp only[eo]at a
    exact hr _ _ _ _ x y o Q R2.sub (Gp R2 (RepA.same b.fz j) ex) (Gp R2 k ey) eo (New.of R2 λv W' fp m n h=>a v _ _ (d.trans (b.trans m)) n h)
noncomputable def Aq:Ev->R (List PV):=λc=>.ok [] c
def Ac (f:Ev->R PV)(fr:Ev->R (List PV)):Ev->R (List PV):=λc=>(f c).bind λp c=>(fr c).bind λps c=>.ok (nrm p::ps) c
noncomputable def cK (ds:List PyData):Ev->R (List PV):=λc=>.ok (ds.map λd=>.o (.im d)) c
theorem Ah:MA K Hb Aq:=λb W c a Q R s=>s _ W Stp.refl R rfl
theorem Aa {d:TE} (ha:ME K d fa) (hr:MA K e f):MA K (Ec d e) (Ac fa f):=by
 intro t W c v Q R s
 refine ha.toV _ W c _ _ R (s.bnd.mono λp o i j r b h g=>?_)
 refine hr _ _ _ _ _ h (i.bnd.mono λw q m l u a n k=>?_)
 exact m _ _ (b.trans a) n ⟨j,l,rfl,RepA.same a.fz g,k⟩
noncomputable def Ab (i:Nat):Ev->R PV:=λc=>match c[i]? with
 | some (some (.ls _ _))=>.ok (.sl i) c
 | some (some o)=>.ok (.o o) c
 | _=>.bad
theorem Rep.here (R:Rep K β W c σ) (h:RepN K W.Hf o v) (n:o.own=false) {Q:VK}(s:∀v W' fp,Stp W.S W.Hf W.H (orS W'.S fp) W'.Hf W'.H->Rep K β W' c σ->Gg K W' σ (.o o) v fp->Q v W'.H):Q v W.H :=
 s
  v W [] (Stp.refl.less λa z=>by
  grind) R ⟨by
   cases o with
   | ls b e=>trivial
   | im d=>trivial
   | sc d=>trivial
   | ty d=>trivial,λa z=>nomatch z⟩
theorem me_var : ME K (Xv i) (Ab i):=by
 intro j W c h Q R s;unfold Ab at s
 cases e:c[i]? with
 | none=>simp only[e]at s;trivial
 | some x =>
  cases x with
  | none=>simp only[e]at s;trivial
  | some o =>
   obtain⟨v,f,r,_⟩:=R.get i o e
   refine⟨v,f,?_⟩
   simp only[e]at s
   cases o with
   | ls b g=>
    exact s v W _ (Stp.refl.less λa z=>by
     rcases z with z | z
     ·omega
     simp_all) R ⟨rfl,f⟩
   | im d=>exact R.here r.2 rfl s
   | sc d=>exact R.here r.2 rfl s
   | ty d=>exact R.here r.2 rfl s
noncomputable def cC (d:PyData):Ev->R PV:=λc=>.ok (.o (.im d)) c
noncomputable def vD:V->Option PyData
 | .non=>some .none
 | .bl b=>some (.bool b)
 | .int i=>some (.int i)
 | .str x=>some (.str x)
 | _=>none
theorem A9o:∀{v:V}{d:PyData},vD v=some d->Tr H d v
 | .non,_,e=>by cases e;rfl
 | .bl b,_,e=>by cases e;rfl
 | .int i,_,e=>by cases e;rfl
 | .str x,_,e=>by cases e;rfl
 | .byt _,_,e=>nomatch e
 | .flt _,_,e=>nomatch e
 | .ref _,_,e=>nomatch e
 | .ty _,_,e=>nomatch e
theorem Av (h:vD v=some d):ME K (tC v) (cC d):=λb W c a Q R s=>R.here (o:=.im d) (A9o h) rfl s
noncomputable def frz (p:PV) (c:Ev):R PyData:=match p with
 | .o (.im d)=>.ok d c
 | .o _=>.bad
 | .sl i=>match c[i]? with
  | some (some (.im d))=>.ok d c
  | some (some (.ls false ds))=>.ok (.list ds) (c.set i (some (.im (.list ds))))
  | _=>.bad
noncomputable def clr (fps:Nat->List Addr) (i:Nat):Nat->List Addr:=λj=>if j=i then [] else fps j
theorem Gv (h:a∈clr b i j):a∈b j/\j≠i:=by
 unfold clr at h
 grind
theorem Rep.setN (R:Rep K β W c σ) (h:RepN K W.Hf o v) (n:o.own=false):Rep K β ⟨W.Hf,W.H,clr W.fps i⟩ (c.set i (some o)) (σ.set i (some v)):=by
 refine⟨R.sub,by rw[List.length_set,List.length_set];exact R.len,λj s e=>?_,λj k a m g=>R.dis j k a (Gv m).1 (Gv g).1,λj a h=>R.own j a (Gv h).1⟩
 by_cases z:j=i
 ·subst z
  by_cases l:j<c.length
  ·rw[List.getElem?_set_self l]at e
   cases e
   refine⟨v,by rw[List.getElem?_set_self (by rw[<- R.len];exact l)],?_,λb=>?_⟩
   ·show RepO K W.Hf W.H o v (clr _ j j)
    unfold clr;rw[if_pos rfl]
    cases o with
    | ls b f=>exact nomatch n
    | im d=>exact⟨rfl,h⟩
    | sc d=>trivial
    | ty d=>exact⟨rfl,h⟩
   ·cases o with
    | ls b f=>exact nomatch n
    | im d=>exact nomatch b
    | sc d=>exact nomatch b
    | ty d=>exact nomatch b
  grind
 ·rw[List.getElem?_set_ne λy=>z y.symm]at e
  obtain⟨p,q,r,b⟩:=R.get j _ e
  refine⟨p,by grind,?_,b⟩
  unfold clr
  simp_all
theorem Rep.setO (R:Rep K β W c σ) (h:RepO K W.Hf W.H o v fp) (hn:∀a∈fp,¬ W.S a) (hb:o.bor=false):Rep K β ⟨W.Hf,W.H,λj=>if j=i then fp else W.fps j⟩ (c.set i (some o)) (σ.set i (some v)):=by
 refine⟨R.sub,by rw[List.length_set,List.length_set];exact R.len,λj o' e=>?_,λj k a f g=>?_,λj a f=>?_⟩
 ·by_cases z:j=i
  ·subst z
   by_cases l:j<c.length
   ·rw[List.getElem?_set_self l]at e
    cases e
    refine⟨v,by rw[List.getElem?_set_self (by rw[<- R.len];exact l)],?_,λb=>by rw[hb]at b;cases b⟩
    simp_all
   simp_all
  ·rw[List.getElem?_set_ne λy=>z y.symm]at e
   obtain⟨v',e1,r,b⟩:=R.get j _ e
   grind
 ·have f:a∈if j=i then fp else W.fps j:=f
  have g:a∈if k=i then fp else W.fps k:=g
  split at f
  ·split at g
   ·omega
   ·exact absurd ⟨k,g⟩ (hn a f)
  ·split at g
   ·exact absurd ⟨j,f⟩ (hn a g)
   ·exact R.dis j k a f g
 ·have f:a∈if j=i then fp else W.fps j:=f
  split at f
  ·cases o with
   | ls b ds =>
    obtain⟨a',vs,_,rfl,n,m,_⟩:=h
    cases List.mem_singleton.mp f
    exact⟨n,_,m,trivial⟩
   | im d=>rw[h.1]at f;cases f
   | sc d=>rw[h.1]at f;cases f
   | ty d=>rw[h.1]at f;cases f
  ·exact R.own j a f
theorem set_same {a:Type}{l:List a} {x:a}(h:l[i]?=some x):l.set i x=l:=by
 apply List.ext_getElem?
 grind
theorem Rep.drop (R:Rep K β W c σ)(i:Nat):Rep K β ⟨W.Hf,W.H,clr W.fps i⟩ (c.set i none) σ:=by
 refine⟨R.sub,by rw[List.length_set];exact R.len,λj m e=>?_,λj k a g f=>R.dis j k a (Gv g).1 (Gv f).1,λj a h=>R.own j a (Gv h).1⟩
 by_cases z:j=i
 ·grind
 ·rw[List.getElem?_set_ne λy=>z y.symm]at e
  obtain⟨l,d,r,b⟩:=R.get j _ e
  refine⟨l,d,?_,b⟩
  unfold clr
  simp_all
theorem Hh (R:Rep K β W c σ)(h:RepA K W.Hf σ p v) (s:(frz p c).sat k) :
 ∃d c' W',frz p c=.ok d c'/\k d c'/\W'.H=W.H/\Stp W.S W.Hf W.H W'.S W'.Hf W'.H/\Rep K β W' c' σ/\Tr W'.Hf d v:=by
 cases p with
 | o o =>
  cases o with
  | im d=>exact⟨d,c,W,rfl,s,rfl,Stp.refl,R,h⟩
  | ls b w=>exact s.elim
  | sc d=>exact s.elim
  | ty d=>exact s.elim
 | sl i =>
  unfold frz at s ⊢
  cases e:c[i]? with
  | none=>simp only[e]at s;exact s.elim
  | some x =>
   cases x with
   | none=>simp only[e]at s;exact s.elim
   | some o =>
    obtain⟨v',u,r,_⟩:=R.get i o e
    cases (show some _=some _ from u.symm.trans h)
    cases o with
    | im d=>simp only[e]at s;exact⟨d,c,W,by simp only[e],s,rfl,Stp.refl,R,r.2⟩
    | sc d=>simp only[e]at s;exact s.elim
    | ty d=>simp only[e]at s;exact s.elim
    | ls b w =>
     cases b with
     | true=>simp only[e]at s;exact s.elim
     | false =>
      simp only[e]at s;obtain⟨a,m,rfl,l,f,A,t⟩:=r
      refine⟨.list _,c.set i _,⟨upd _ a _,W.H,clr W.fps i⟩,by simp only[e],s,rfl,⟨Cq f,λb o e _=>e,λb o e mu n q=>?_,λb z=>?_⟩,?_,⟨a,m,rfl,Bw,TrL.same (Cq f) t⟩⟩
      ·have C:b≠a:=λz=>n ⟨i,by rw[z,l];exact .head _⟩
       show upd _ a _ b=none
       rw[Ar C];exact q
      ·obtain⟨j,g⟩:=z
       exact .inl ⟨j,(Gv g).1⟩
      ·have B:¬ Wo.S ⟨W.Hf,W.H,clr W.fps i⟩ a:=λ⟨j,g⟩=>by
        obtain⟨E,D⟩:=Gv g
        exact D (R.dis j i a E (by rw[l];exact .head _))
       have y:=(X3 (R.drop i) f A B).setN (i:=i) (o:=.im (.list _)) ⟨a,m,rfl,Bw,TrL.same (Cq f) t⟩ rfl;rw[set_same h]at y
       have z:clr (clr W.fps i) i=clr W.fps i:=by funext j;unfold clr;split <;> rfl
       simp_all
def vDs:List V->Option (List PyData)
 | []=>some []
 | v::vs=>(vD v).bind λd=>(vDs vs).map (d::·)
theorem Ao4:∀{vs:List V}{ds:List PyData},vDs vs=some ds->zM K Hf σ (ds.map λd=>.o (.im d)) vs
 | [],_,e=>by cases (show some []=some _ from e);exact rfl
 | v::vs,ds,e=>by
  obtain⟨d,e1,e2⟩:=Option.bind_eq_some_iff.mp (show ((vD v).bind λd=>(vDs vs).map (d::·))=some ds from e)
  obtain⟨ds',e3,rfl⟩:=Option.map_eq_some_iff.mp e2;exact⟨v,vs,rfl,A9o e1,Ao4 e3⟩
theorem Ad6 (h:vDs vs=some ds):MA K (tK vs) (cK ds):=λb W c a Q R s=>s _ W Stp.refl R (Ao4 h)
def frzs:List PV->Ev->R (List PyData)
 | [],c=>.ok [] c
 | p::ps,c=>(frz p c).bind λd c=>(frzs ps c).bind λds c=>.ok (d::ds) c
theorem Y4:∀{ps:List PV}{vs:List V}{W:Wo}{c:Ev}{φ:List PyData->Ev->Prop},Rep K β W c σ->zM K W.Hf σ ps vs->(frzs ps c).sat φ ->
 ∃ds c' W',φ ds c'/\W'.H=W.H/\Stp W.S W.Hf W.H W'.S W'.Hf W'.H/\Rep K β W' c' σ/\TrL W'.Hf ds vs
 | [],vs,W,c,φ,R,h,s=>⟨[],c,W,s,rfl,Stp.refl,R,h⟩
 | p::ps,_,W,c,φ,R,⟨v,r,rfl,h,t⟩,s=>by
  obtain⟨d,c1,W1,_,s1,e1,st1,R1,t1⟩:=Hh R h s.bnd;obtain⟨ds,c2,W2,s2,e2,st2,R2,t2⟩:=Y4 R1 (zM.same st1.fz t) s1.bnd;exact⟨d::ds,c2,W2,s2,e2.trans e1,st1.trans st2,R2,v,r,rfl,Tr.same st2.fz t1,t2⟩
def G3 (f:Ev->R (List PV)):Ev->R PV:=λc=>(f c).bind λps c=>(frzs ps c).bind λds c=>if ds.length<=1000 then .ok (.o (.im (.tuple ds))) c else .bad
def Fo (f:Ev->R (List PV)):Ev->R PV:=λc=>(f c).bind λps c=>(frzs ps c).bind λds c=>if ds.length<=1000 then .ok (.o (.ls false ds)) c else .bad
theorem Al4 (h:n<=1000):n<=sizeLine:=Nat.le_trans h (by decide)
theorem Eh (h:MA K t f):ME K (Bm5 t) (G3 f):=by
 intro w W c z Q R s
 refine h _ W c _ _ R (s.bnd.mono λx y k A F b o m=>?_)
 obtain⟨r,B,E,a,j,d,e,i⟩:=Y4 o m k.bnd
 by_cases l:r.length<=1000
 ·rw[if_pos l]at a
  refine⟨by rw[<- i.length];exact Al4 l,λp g=>?_⟩
  rw[<- j]at g ⊢
  exact New.tup (New.of e λv C D q u n=>a v _ _ (b.trans (d.trans q)) u n) e.sub i g
 ·rw[if_neg l]at a;trivial
theorem Dv (h:MA K t f):ME K (Bq0 t) (Fo f):=by
 intro w W c z Q R s
 refine h _ W c _ _ R (s.bnd.mono λx y k A F b o m=>?_)
 obtain⟨r,B,E,a,j,d,e,i⟩:=Y4 o m k.bnd
 by_cases l:r.length<=1000
 ·rw[if_pos l]at a
  refine⟨by rw[<- i.length];exact Al4 l,λp g=>?_⟩
  rw[<- j]at g ⊢
  exact New.lst (New.of e λv C D q u n=>a v _ _ (b.trans (d.trans q)) u n) e.sub i g
 ·rw[if_neg l]at a;trivial
end
noncomputable def Gj (cI:Ev):List (Nat×Nat)->Ev->Option Ev
 | [],c=>some c
 | (k,i)::m,c=>match c[i]? with
  | some (some (.ls b _))=>match cI[k]? with
   | some (some (.ls true ds))=>Gj cI m (c.set i (some (.ls b ds)))
   | _=>none
  | _=>Gj cI m c
noncomputable def inn (m:List (Nat×Nat)) (i:Nat):Option Nat:=(m.find? λp=>p.2==i).map (·.1)
noncomputable def Ad5 (m:List (Nat×Nat)) (k:Nat):Option Nat:=(m.find? λp=>p.1==k).map (·.2)
theorem Jg : inn ((k,j)::m) i=if j=i then some k else inn m i:=by
 unfold inn
 grind
theorem S8 (h:inn m i=some k):(k,i)∈m:=by
 induction m with
 | nil=>cases h
 | cons p m a =>
  rw[Jg]at h
  grind
theorem Ss (b:(m.map (·.2)).Nodup) (h:(k,i)∈m):inn m i=some k:=by
 induction m with
 | nil=>grind
 | cons p m a =>
  rw[Jg]
  grind
theorem Ap6 {m:List (Nat×Nat)} (b:(m.map (·.1)).Nodup) (h:(k,i)∈m) (h':(k,j)∈m):i=j:=by
 induction m with
 | nil=>grind
 | cons p m a =>
  grind
theorem Qx {cI:Ev}:∀{m:List (Nat×Nat)}{c cO:Ev},(m.map (·.2)).Nodup->Gj cI m c=some cO->cO.length=c.length/\∀i,
 (∃b ds0 k ds,c[i]?=some (some (.ls b ds0))/\inn m i=some k/\cI[k]?=some (some (.ls true ds))/\cO[i]?=some (some (.ls b ds))) \/
 (cO[i]?=c[i]?/\∀b ds,c[i]?=some (some (.ls b ds))->inn m i=none)
 | [],c,cO,nd,e=>by cases (show some c=some cO from e);exact⟨rfl,λi=>.inr ⟨rfl,λ_ _ _=>rfl⟩⟩
 | (k,j)::m,c,cO,nd,e=>by
  rw[List.map_cons,List.nodup_cons]at nd
  have nj:inn m j=none:=by
   cases q:inn m j with
   | none=>rfl
   | some k'=>exact absurd (List.mem_map.mpr ⟨(k',j),S8 q,rfl⟩) nd.1
  unfold Gj at e
  have other:Gj cI m c=some cO->(∀b ds,c[j]?≠some (some (.ls b ds)))->cO.length=c.length/\∀i,
   (∃b ds0 k' ds,c[i]?=some (some (.ls b ds0))/\inn ((k,j)::m) i=some k'/\cI[k']?=some (some (.ls true ds))/\cO[i]?=some (some (.ls b ds))) \/
   (cO[i]?=c[i]?/\∀b ds,c[i]?=some (some (.ls b ds))->inn ((k,j)::m) i=none):=λe hn=>by
   obtain⟨hl,hg⟩:=Qx nd.2 e
   refine⟨hl,λi=>?_⟩
   rcases hg i with ⟨b,ds0,k',ds,q1,q2,q3,q4⟩ | ⟨q1,q2⟩
   ·refine .inl ⟨b,ds0,k',ds,q1,?_,q3,q4⟩
    rw[Jg,if_neg (λz=>hn b ds0 (by rw[z];exact q1))];exact q2
   ·refine .inr ⟨q1,λb ds q=>?_⟩
    rw[Jg,if_neg (λz=>hn b ds (by rw[z];exact q))];exact q2 b ds q
  cases ec:c[j]? with
  | none=>simp only[ec]at e;exact other e λb ds z=>by rw[ec]at z;cases z
  | some x =>
   cases x with
   | none=>simp only[ec]at e;exact other e λb ds z=>by rw[ec]at z;cases z
   | some o =>
    cases o with
    | im d=>simp only[ec]at e;exact other e λb ds z=>by rw[ec]at z;cases z
    | sc d=>simp only[ec]at e;exact other e λb ds z=>by rw[ec]at z;cases z
    | ty d=>simp only[ec]at e;exact other e λb ds z=>by rw[ec]at z;cases z
    | ls b0 ds0 =>
     simp only[ec]at e
     cases ei:cI[k]? with
     | none=>simp only[ei]at e;cases e
     | some x =>
      cases x with
      | none=>simp only[ei]at e;cases e
      | some o =>
       cases o with
       | im d=>simp only[ei]at e;cases e
       | sc d=>simp only[ei]at e;cases e
       | ty d=>simp only[ei]at e;cases e
       | ls b1 ds1 =>
        cases b1 with
        | false=>simp only[ei]at e;cases e
        | true =>
         simp only[ei]at e
         have lj:j<c.length:=by
          rcases Nat.lt_or_ge j c.length with q | q
          ·exact q
          ·rw[List.getElem?_eq_none q]at ec;cases ec
         obtain⟨hl,hg⟩:=Qx nd.2 e;rw[List.length_set]at hl
         refine⟨hl,λi=>?_⟩
         by_cases z:j=i
         ·subst z
          rcases hg j with ⟨b,ds0',k',ds,q1,q2,q3,q4⟩ | ⟨q1,q2⟩
          ·rw[nj]at q2;cases q2
          ·rw[List.getElem?_set_self lj]at q1
           exact .inl ⟨b0,ds0,k,ds1,ec,by rw[Jg,if_pos rfl],ei,q1⟩
         ·have gs:(c.set j (some (.ls b0 ds1)))[i]?=c[i]?:=List.getElem?_set_ne z
          rcases hg i with ⟨b,ds0',k',ds,q1,q2,q3,q4⟩ | ⟨q1,q2⟩
          ·rw[gs]at q1
           exact .inl ⟨b,ds0',k',ds,q1,by rw[Jg,if_neg z];exact q2,q3,q4⟩
          ·rw[gs]at q1 q2
           exact .inr ⟨q1,λb ds q=>by rw[Jg,if_neg z];exact q2 b ds q⟩
noncomputable def Hx:Option (Option O)->Bool
 | some (some (.ls _ _))=>true
 | _=>false
def Rt (m:List (Nat×Nat))(c:Ev)(fps:Nat->List Addr):Nat->List Addr:=λk=>match Ad5 m k with
 | some i=>if Hx c[i]? then fps i else []
 | none=>[]
theorem Ug (h:Ad5 m k=some i):(k,i)∈m:=by
 obtain⟨p,b,a⟩:=Option.map_eq_some_iff.mp h
 grind
theorem G5 (h:a∈Rt m c b k):∃i,(k,i)∈m/\Hx c[i]?=true/\a∈b i:=by
 unfold Rt at h
 cases e:Ad5 m k with
 | none=>grind
 | some i =>
  rw[e]at h
  have h:a∈if Hx _ then b i else []:=h
  by_cases q:Hx c[i]?=true
  ·rw[if_pos q]at h;exact⟨i,Ug e,q,h⟩
  grind
theorem A5l (a:(m.map (·.1)).Nodup) (h:(k,i)∈m):Ad5 m k=some i:=by
 cases e:Ad5 m k with
 | none =>
  unfold Ad5 at e;rw[Option.map_eq_none_iff]at e
  grind
 | some j=>rw[Ap6 a h (Ug e)]
def Ai0 (m:List (Nat×Nat))(c:Ev)(fps fpsJ:Nat->List Addr):Nat->List Addr:=λi=>if Hx c[i]? then (match inn m i with
 | some k=>fpsJ k
 | none=>fps i) else fps i
section
variable {K:PySem.W.Frag}{β β':Nat->V}{W W':Wo}{c cI cI' cO:Ev}{σ σI σI':St}{m:List (Nat×Nat)}{fp:List Addr}
structure Lent (K:PySem.W.Frag) (Hf:Hp) (m:List (Nat×Nat)) (c:Ev) (σ:St) (β':Nat->V) (cI:Ev) (σI:St):Prop where
 n1:(m.map (·.1)).Nodup
 n2:(m.map (·.2)).Nodup
 len:cI.length=σI.length
 at_:∀k o,cI[k]?=some (some o)->(o.own=false/\(∀i,(k,i)∈m->Hx c[i]?=false)/\(∃v,σI[k]?=some (some v)/\RepN K Hf o v))\/∃i b ds v,(k,i)∈m/\c[i]?=some (some (.ls b ds))/\o=.ls true ds/\σ[i]?=some (some v)/\σI[k]?=some (some v)/\β' k=v
theorem Lent.rep (L:Lent K W.Hf m c σ β' cI σI)(R:Rep K β W c σ):Rep K β' ⟨W.Hf,W.H,Rt m c W.fps⟩ cI σI:=by
 refine⟨R.sub,L.len,λk o e=>?_,λk l a B C=>?_,λk a h=>?_⟩
 ·rcases L.at_ k o e with ⟨n,s,v,p,r⟩ | ⟨i,b,x,v,E,w,rfl,J,p,A⟩
  ·refine⟨v,p,?_,λq=>?_⟩
   ·have g:∀t ,t=[]->RepO K _ W.H o v t:=λt z=>by
     cases o with
     | ls b x=>exact nomatch n
     | im d=>exact⟨z,r⟩
     | sc d=>exact⟨z,r⟩
     | ty d=>exact⟨z,r⟩
    refine g _ ?_
    show Rt m c _ k=[]
    unfold Rt
    cases q:Ad5 m k with
    | none=>rfl
    | some i =>
     show (if Hx _ then W.fps i else [])=[]
     rw[s i (Ug q)]
     rfl
   ·cases o with
    | ls b x=>exact nomatch n
    | im d=>exact nomatch q
    | sc d=>exact nomatch q
    | ty d=>exact nomatch q
  ·obtain⟨v',f,r,_⟩:=R.get i _ w
   cases (show some _=some _ from f.symm.trans J)
   refine⟨v,p,?_,λ_=>A.symm⟩
   obtain⟨a,F,G,D,I⟩:=r
   refine⟨a,F,G,?_,I⟩
   show Rt m c _ k=[a]
   unfold Rt;rw[A5l L.n1 E]
   show (if Hx _ then W.fps i else [])=[a]
   rw[w];exact D
 ·obtain⟨i,H,_,u⟩:=G5 B
  obtain⟨j,M,_,y⟩:=G5 C
  cases R.dis i j a u y
  have f:=Ss L.n2 M;rw[(Ss L.n2 H)]at f;exact Option.some.inj f
 ·obtain⟨i,_,_,u⟩:=G5 h
  exact R.own i a u
theorem A8g (h:Hx x=true):∃b ds,x=some (some (.ls b ds)):=by
 match x,h with
 | some (some (.ls b _)),_=>grind
theorem Lent.back (L:Lent K W.Hf m c σ β' cI σI)(R:Rep K β W c σ)(I:Rep K β' W' cI' σI')(st:Stp (Wo.S ⟨W.Hf,W.H,Rt m c W.fps⟩) W.Hf W.H (orS W'.S fp) W'.Hf W'.H)(hb:Gj cI' m c=some cO)
 (H:∀k i b J v,(k,i)∈m->c[i]?=some (some (.ls b J))->σ[i]?=some (some v)->β' k=v) (Q:∀a∈fp,¬ W'.S a) :
 ∃W2:Wo,W2.Hf=W'.Hf/\W2.H=W'.H/\Rep K β W2 cO σ/\Stp W.S W.Hf W.H (orS W2.S fp) W'.Hf W'.H/\∀a∈fp,¬ W2.S a:=by
 obtain⟨hl,hg⟩:=Qx L.n2 hb
 have t:∀k a,a∈W'.fps k->(∃i,(∃l,(l,i)∈m)/\Hx c[i]?=true/\a∈W.fps i)\/W.H a=none:=λk a h=>by
  rcases st.fr a (.inl ⟨k,h⟩) with ⟨l,q⟩ | q
  ·obtain⟨i,s,x,g⟩:=G5 q
   exact .inl ⟨i,⟨l,s⟩,x,g⟩
  ·exact .inr q
 have d:∀i a,a∈W.fps i->(Hx c[i]?=true->inn m i=none)->¬ Wo.S ⟨W.Hf,W.H,Rt m c W.fps⟩ a:=λi a h n ⟨k,q⟩=>by
  obtain⟨j,s,x,g⟩:=G5 q
  cases (R.dis i j a h g)
  have:=n x;rw[Ss L.n2 s]at this;cases this
 have D:∀i a,a∈Ai0 m c W.fps W'.fps i->(∃k,inn m i=some k/\Hx c[i]?=true/\a∈W'.fps k)\/(a∈W.fps i/\(Hx c[i]?=true->inn m i=none)):=λi a h=>by
  have h:a∈if Hx c[i]? then (match inn m i with | some k=>W'.fps k | none=>W.fps i) else W.fps i:=h
  by_cases q:Hx c[i]?=true
  ·rw[if_pos q]at h
   cases e:inn m i with
   | none=>rw[e]at h;exact .inr ⟨h,λ_=>rfl⟩
   | some k=>rw[e]at h;exact .inl ⟨k,rfl,q,h⟩
  ·rw[if_neg q]at h;exact .inr ⟨h,λz=>absurd z q⟩
 have p:∀i k a,a∈W.fps i->(Hx c[i]?=true->inn m i=none)->a∈W'.fps k->False:=λi k a h n V=>by
  rcases t k a V with ⟨j,⟨l,s⟩,x,g⟩ | q
  ·cases (R.dis i j a h g)
   have:=n x;rw[Ss L.n2 s]at this;cases this
  ·obtain⟨_,o,e,_⟩:=R.own i a h
   rw[q]at e;cases e
 refine⟨⟨W'.Hf,W'.H,Ai0 m c W.fps W'.fps⟩,rfl,rfl,⟨I.sub,hl.trans R.len,λi o e=>?_,λi j a Z T=>?_,λi a h=>?_⟩,⟨st.fz,λa o e n=>st.kp a o e λ⟨k,q⟩=>?_,λa o e F n q=>st.nf a o e F (λzz=>?_) q,λa h=>?_⟩,λa C ⟨i,h⟩=>?_⟩
 ·rcases hg i with ⟨b,N,k,J,s,x,g,U⟩ | ⟨s,x⟩
  ·rw[U]at e;cases e
   obtain⟨v,M,r,P⟩:=R.get i _ s;obtain⟨X,e1',r',O⟩:=I.get k _ g;have S:=O rfl;rw[H k i b N v (S8 x) s M]at S;subst S
   refine⟨X,M,?_,P⟩
   obtain⟨a,Y,A,E,G⟩:=r'
   refine⟨a,Y,A,?_,G⟩
   show Ai0 m c W.fps W'.fps i=[a]
   unfold Ai0;rw[s,x];exact E
  ·rw[s]at e
   obtain⟨v,M,r,P⟩:=R.get i _ e
   refine⟨v,M,?_,P⟩
   have n:Hx c[i]?=true->inn m i=none:=λz=>by
    obtain⟨b,J,z⟩:=A8g z;exact x b J z
   have ef:Ai0 m c W.fps W'.fps i=W.fps i:=by
    unfold Ai0
    by_cases q:Hx c[i]?=true
    ·rw[if_pos q,n q]
    ·rw[if_neg q]
   show RepO K W'.Hf W'.H o v (Ai0 m c W.fps W'.fps i)
   rw[ef]
   refine r.mono st.fz λa C=>?_
   obtain⟨z,u,y,F⟩:=R.own i a C;exact⟨st.nf a u y F (d i a C n) z,(st.kp a u y (d i a C n)).trans y.symm⟩
 ·rcases D i a Z with ⟨k,f,w,B⟩ | ⟨f,w⟩
  ·rcases D j a T with ⟨l,A,E,G⟩ | ⟨A,E⟩
   ·cases I.dis k l a B G
    exact Ap6 L.n1 (S8 f) (S8 A)
   ·exact(p j k a A E B).elim
  ·rcases D j a T with ⟨l,A,E,G⟩ | ⟨A,E⟩
   ·exact(p i l a f w G).elim
   ·exact R.dis i j a f A
 ·rcases D i a h with ⟨k,f,w,B⟩ | ⟨f,w⟩
  ·exact I.own k a B
  ·obtain⟨z,u,y,F⟩:=R.own i a f
   exact⟨st.nf a u y F (d i a f w) z,u,st.kp a u y (d i a f w),F⟩
 ·obtain⟨i,_,_,g⟩:=G5 q
  exact n ⟨i,g⟩
 ·obtain⟨k,q'⟩:=zz
  obtain⟨i,_,_,g⟩:=G5 q';exact n ⟨i,g⟩
 ·rcases h with ⟨i,h⟩ | h
  ·rcases D i a h with ⟨k,f,w,B⟩ | ⟨f,w⟩
   ·rcases t k a B with ⟨j,_,_,q⟩ | q
    ·exact .inl ⟨j,q⟩
    ·exact .inr q
   ·exact .inl ⟨i,f⟩
  ·rcases st.fr a (.inr h) with ⟨k,q⟩ | q
   ·obtain⟨i,_,_,g⟩:=G5 q
    exact .inl ⟨i,g⟩
   ·exact .inr q
 ·rcases D i a h with ⟨k,f,w,B⟩ | ⟨f,w⟩
  ·exact Q a C ⟨k,B⟩
  ·rcases st.fr a (.inr C) with q | q
   ·exact d i a f w q
   ·obtain⟨_,u,y,_⟩:=R.own i a f
    rw[q]at y;cases y
end
inductive SR where
 | nx (c:Ev)
 | rt (p:PV) (c:Ev)
 | bk (c:Ev)
 | ct (c:Ev)
 | bad
def zK (K:PySem.W.Frag)(β:Nat->V)(W:Wo)(D:Ends):SR->Prop
 | .nx c'=>∀σ' W',Stp W.S W.Hf W.H W'.S W'.Hf W'.H->Rep K β W' c' σ'->D.nx σ' W'.H
 | .bk c'=>∀σ' W',Stp W.S W.Hf W.H W'.S W'.Hf W'.H->Rep K β W' c' σ'->D.bk σ' W'.H
 | .ct c'=>∀σ' W',Stp W.S W.Hf W.H W'.S W'.Hf W'.H->Rep K β W' c' σ'->D.ct σ' W'.H
 | .rt p c'=>∀σ' v W' fp,Stp W.S W.Hf W.H (orS W'.S fp) W'.Hf W'.H->Rep K β W' c' σ'->Gg K W' σ' p v fp->D.rt v W'.H
 | .bad=>False
def MS (K:PySem.W.Frag)(T:TS)(f:Ev->SR):Prop:=∀(β:Nat->V) (W:Wo) (c:Ev) (σ:St) (D:Ends),Rep K β W c σ->zK K β W D (f c)->T D σ W.H
def MG (K:PySem.W.Frag)(g:TG)(cg:PV->Ev->R Unit):Prop:=∀(β:Nat->V) (W:Wo) (c:Ev) (σ:St) (p:PV) (v:V) (fp:List Addr) (k:St->Hp->Prop),Rep K β W c σ->Gg K W σ p v fp ->
 (cg p c).sat (λ_ c'=>∀σ' W',Stp (orS W.S fp) W.Hf W.H W'.S W'.Hf W'.H->Rep K β W' c' σ'->k σ' W'.H)->g v σ W.H k
def MGs (K:PySem.W.Frag)(g:TGs)(cg:List PyData->Ev->R Unit):Prop:=∀(β:Nat->V) (W:Wo) (c:Ev) (σ:St) (ds:List PyData) (vs:List V) (k:St->Hp->Prop),Rep K β W c σ->TrL W.Hf ds vs ->
 (cg ds c).sat (λ_ c'=>∀σ' W',Stp W.S W.Hf W.H W'.S W'.Hf W'.H->Rep K β W' c' σ'->k σ' W'.H)->g vs σ W.H k
noncomputable def R.toS {α:Type} (r:R α) (k:α->Ev->SR):SR:=match r with
 | .ok a c=>k a c
 | .bad=>.bad
section
variable {K:PySem.W.Frag}{β:Nat->V}{W W':Wo}{c c' cI cO:Ev}{σ σ':St}{D:Ends}{Hf H:Hp}{o:O}{v:V}{fp:List Addr}
theorem Hw {r:R b}{k:b->Ev->SR}(h:zK K β W D (r.toS k)):r.sat λa c=>zK K β W D (k a c):=by
 cases r with
 | ok a c=>exact h
 | bad=>exact h
theorem zK.step (h:zK K β W D r) (st:Stp W.S W.Hf W.H W'.S W'.Hf W'.H):zK K β W' D r:=by
 cases r with
 | nx c=>exact λb d a R=>h _ _ (st.trans a) R
 | bk c=>exact λb d a R=>h _ _ (st.trans a) R
 | ct c=>exact λb d a R=>h _ _ (st.trans a) R
 | rt p c=>exact λb v d e a R r=>h _ v _ _ (st.trans a) R r
 | bad=>exact h
noncomputable def Bm (f g:Ev->SR):Ev->SR:=λc=>match f c with
 | .nx c=>g c
 | r=>r
theorem An (h1:MS K t f) (h2:MS K u g):MS K (Ax3 t u) (Bm f g):=by
 intro k W c i D R l
 refine h1 _ W c _ _ R ?_
 unfold Bm at l
 cases e:f c with
 | nx a=>rw[e]at l;exact λh j d b=>h2 _ _ _ _ D b (zK.step l d)
 | rt p a=>rw[e]at l;exact l
 | bk a=>rw[e]at l;exact l
 | ct a=>rw[e]at l;exact l
 | bad=>rw[e]at l;exact l
noncomputable def Cz:Ev->SR:=λc=>.nx c
theorem Bq:MS K A4e Cz:=λb W c a D R l=>l _ W Stp.refl R
noncomputable def Lp:Ev->SR:=λ_=>.bad
theorem Ly:MS K Aj3 Lp:=λb W c a D R l=>l.elim
def Lh (f:Ev->R PV):Ev->SR:=λc=>(f c).toS λ_ c=>.nx c
theorem Nb (h:ME K a f):MS K (Ba8 a) (Lh f):=λg W c i D R l =>
 h.toV _ W c _ _ R ((Hw l).mono λp k e v j d b _=>e _ _ d b)
def Dc (f:Ev->R PV):Ev->SR:=λc=>(f c).toS λp c=>.rt p c
theorem Bd (h:ME K a f):MS K (Bg7 a) (Dc f):=λi W c n D R l =>
 h _ W c _ _ R ((Hw l).mono λp m e v j k d g b=>e _ v _ _ d g b)
def cIf (t:Ev->R Bool)(f g:Ev->SR):Ev->SR:=λc=>(t c).toS λb c=>if b=true then f c else g c
theorem Dq (h:MT K d ft) (h1:MS K t f) (h2:MS K u g):MS K (Bp2 d t u) (cIf ft f g):=λk W c j D R l =>
 h
  _ W c _ _ R ((Hw l).mono λb n i m e a=>by
  cases b with
  | true=>exact h1 _ _ _ _ D a (zK.step i e)
  | false=>exact h2 _ _ _ _ D a (zK.step i e))
def cgN (i:Nat):PV->Ev->R Unit:=λp c=>match p with
 | .o (.ls _ ds)=>.ok () (c.set i (some (.ls false ds)))
 | .o o=>.ok () (c.set i (some o))
 | .sl j=>(frz (.sl j) c).bind λd c=>.ok () (c.set i (some (.im d)))
theorem Bo7 (h:Wo.S ⟨Hf,H,clr W.fps i⟩ a):W.S a:=by
 obtain⟨j,h⟩:=h;exact⟨j,(Gv h).1⟩
theorem Ak : MG K (K3 i) (cgN i):=by
 intro w W c x p v u k R r s
 have f:∀{o:O} {g:Wo} {m:Ev},Rep K w g m x->o.own=false->RepN K g.Hf o v->Stp (orS W.S u) W.Hf W.H g.S _ g.H->g.H=W.H->(∀σ' W',Stp _ _ _ W'.S W'.Hf W'.H->Rep K _ W' _ σ'->k σ' W'.H)->k _ W.H:=λ{o g m} h n r l e s=>by
  rw[<- e]
  exact s _ ⟨g.Hf,g.H,clr _ i⟩ (l.less λa z=>Bo7 z) (h.setN r n)
 cases p with
 | sl j =>
  obtain⟨rfl,e⟩:=r
  obtain⟨d,m,g,e1,A,y,l,h,t⟩:=Hh R (show RepA K _ _ (.sl j) v from e) s.bnd
  exact f h (o:=.im d) rfl t (l.up λa z=>.inl z) y A
 | o o =>
  cases o with
  | im d=>exact f R rfl r.1.2 (Stp.refl.up λa z=>.inl z) rfl s
  | sc d=>exact f R rfl r.1.2 (Stp.refl.up λa z=>.inl z) rfl s
  | ty d=>exact f R rfl r.1.2 (Stp.refl.up λa z=>.inl z) rfl s
  | ls b ds =>
   refine s _ ⟨W.Hf,W.H,λj=>if j=i then u else W.fps j⟩ ⟨Same.refl _,λa o e _=>e,λa o e _ _ q=>q,λa z=>?_⟩ (R.setO r.1 r.2 rfl)
   obtain⟨j,z⟩:=z
   have z:a∈if j=i then u else W.fps j:=z
   split at z
   ·grind
   ·exact .inl (.inl ⟨j,z⟩)
noncomputable def K4:List PyData->Ev->R Unit:=λds c=>match ds with
 | []=>.ok () c
 | _=>.bad
def El (g:PV->Ev->R Unit)(gs:List PyData->Ev->R Unit):List PyData->Ev->R Unit:=λds c=>match ds with
 | d::ds=>(g (.o (.im d)) c).bind λ_ c=>gs ds c
 | []=>.bad
theorem Xd:MGs K Bd1 K4:=λf W c e a b k R t s=>by
 cases a with
 | nil=>cases (t);exact⟨rfl,s _ W Stp.refl R⟩
 | cons d r=>trivial
theorem Jv (h1:MG K t g) (h2:MGs K u f):MGs K (Ap9 t u) (El g f):=λβ W c σ x vs k R j s=>by
 cases x with
 | nil=>trivial
 | cons d r =>
  obtain⟨v,l,rfl,m,n⟩:=j
  refine⟨v,l,rfl,h1 _ W c _ (.o (.im d)) v _ _ R ⟨⟨rfl,m⟩,λa z=>nomatch z⟩ (s.bnd.mono λ_ c1 o i W1 b q=>?_)⟩
  have b:=b.up (S2:=W.S) λa z=>by
   grind
  exact h2 _ _ _ _ r _ k q (TrL.same b.fz n) (o.mono λ_ c2 p w W2 e h=>p _ _ (b.trans e) h)
noncomputable def cgT (n:Nat) (gs:List PyData->Ev->R Unit):PV->Ev->R Unit:=λp c=>match p with
 | .o (.im (.tuple ds))=>if ds.length=n then gs ds c else .bad
 | _=>.bad
theorem Ak2 (h:MGs K t d):MG K (A6c K n t) (cgT n d):=by
 intro u W c w p v q k R r s
 match p,r,s with
 | .o (.im (.tuple ds)),r,s =>
  obtain⟨⟨b,a,j,b,l,f⟩,_⟩:=r
  have s:(if ds.length=n then d _ c else .bad:U.R _).sat _:=s
  by_cases e:ds.length=n
  ·rw[if_pos e]at s
   refine⟨a,j,b,SqT.of (R.sub _ _ l),by rw[<- f.length];exact e,h _ W c _ _ _ k R f (s.mono λ_ y i m x o g=>i _ _ (o.up λa z=>.inl z) g)⟩
  ·rw[if_neg e]at s;trivial
 | .o (.im .none),r,s=>trivial
 | .o (.im (.bool _)),r,s=>trivial
 | .o (.im (.int _)),r,s=>trivial
 | .o (.im (.str _)),r,s=>trivial
 | .o (.im (.list _)),r,s=>trivial
 | .o (.im (.dict _)),r,s=>trivial
 | .o (.ls _ _),r,s=>exact s.elim
 | .o (.sc _),r,s=>exact s.elim
 | .o (.ty _),r,s=>exact s.elim
 | .sl _,r,s=>trivial
def Dj (f:Ev->R PV)(g:PV->Ev->R Unit):Ev->SR:=λc=>(f c).toS λp c=>(g p c).toS λ_ c=>.nx c
theorem Bk (h:ME K b f) (hg:MG K t g):MS K (Af9 b t) (Dj f g):=λx W c o D R l =>
 h _ W c _ _ R ((Hw l).mono λp q j v s u k e i=>hg _ _ _ _ p v _ _ e i ((Hw j).mono λ_ r m n w a d=>m _ _ (k.trans a) d))
def Ay7 (J:It)(Hf:Hp)(ds:List PyData):Prop:=∀(i:Nat) (Hf' H:Hp),Same Hf Hf'->Same Hf' H->(i=ds.length->J.stop i H) /\
 ∀d,ds[i]?=some d->J.go i H/\∀x H',J.yld i H x H'->∃Hf2,Stp (λ_=>False) Hf' H (λ_=>False) Hf2 H'/\Same Hf2 H'/\Tr Hf2 d x
def MI (K:PySem.W.Frag)(wi:TI)(fi:Ev->R (List PyData)):Prop:=∀(β:Nat->V) (W:Wo) (c:Ev) (σ:St) (k:It->Hp->Prop),Rep K β W c σ ->
 (fi c).sat (λds c'=>∀J W',Stp W.S W.Hf W.H W'.S W'.Hf W'.H->Rep K β W' c' σ->Ay7 J W'.Hf ds->k J W'.H)->wi σ W.H k
noncomputable def forL (g:PV->Ev->R Unit) (body:Ev->SR):List PyData->Ev->SR
 | [],c=>.nx c
 | d::ds,c=>match g (.o (.im d)) c with
  | .bad=>.bad
  | .ok _ c=>match body c with
   | .nx c=>forL g body ds c
   | .ct c=>forL g body ds c
   | .bk c=>.nx c
   | .rt p c=>.rt p c
   | .bad=>.bad
def Vp (fi:Ev->R (List PyData))(g:PV->Ev->R Unit)(body:Ev->SR):Ev->SR:=λc=>(fi c).toS λds c=>forL g body ds c
theorem Nf {a:Type}{l:List a} (h:i<l.length):l.drop i=l[i]::l.drop (i+1):=List.drop_eq_getElem_cons h
theorem Qe {V:TS} (hi:MI K X fi) (hg:MG K t g) (hb:MS K V body):MS K (A7h X t V) (Vp fi g body):=by
 intro C W c I D R l
 refine hi C W c I _ R ((Hw l).mono λk c1 l1 J T N R1 it=>?_)
 refine⟨λi m I H=>∃d y,d.H=H/\Rep K C d y I/\m=k.length-i/\i<=k.length/\Same T.Hf d.Hf/\zK K C d D (forL g body (k.drop i) y),⟨_,T,c1,rfl,R1,rfl,Nat.zero_le _,Same.refl _,zK.step l1 N⟩,?_⟩
 rintro i m I H ⟨d,y,rfl,O,rfl,hle,Y,h⟩
 obtain⟨A,Q⟩:=it i d.Hf d.H Y O.sub
 by_cases lt:i<k.length
 ·obtain⟨q1,q2⟩:=Q k[i] (List.getElem?_eq_getElem lt)
  refine .inr ⟨q1,λM s=>∃d y,d.H=s/\Rep K C d y M/\Same T.Hf d.Hf/\zK K C d D (forL g body (k.drop (i+1)) y),λM s ⟨U,Z,e3,R3,s3,l3⟩=>⟨k.length-(i+1),by omega,U,Z,e3,R3,rfl,by omega,s3,l3⟩,λx s hy=>?_⟩
  obtain⟨n,j,G,tx⟩:=q2 x s hy
  have P:Stp d.S d.Hf d.H (Wo.S ⟨n,s,d.fps⟩) n s:=⟨j.fz,λa o e _=>j.kp a o e λz=>z,λa o e mu _ q=>j.nf a o e mu (λz=>z) q,λa z=>.inl z⟩
  rw[Nf lt]at h;unfold forL at h
  refine hg C ⟨n,s,d.fps⟩ y I (.o (.im _)) x _ _ (j.rep O G) ⟨⟨rfl,tx⟩,λa z=>nomatch z⟩ ?_
  cases eg:g _ _ with
  | bad=>rw[eg]at h;exact h.elim
  | ok u Z =>
   rw[eg]at h;intro σ3 U w S
   have w:=w.up λa z=>by
    rcases z with z | z
    ·exact z
    ·cases z
   have f:=P.trans w;have F := Y.trans f.fz
   refine hb _ _ _ _ _ S ?_
   cases ebd:body _ with
   | nx E=>simp only[ebd]at h;exact λr L b B=>⟨L,E,rfl,B,F.trans b.fz,zK.step h (f.trans b)⟩
   | ct E=>simp only[ebd]at h;exact λr L b B=>⟨L,E,rfl,B,F.trans b.fz,zK.step h (f.trans b)⟩
   | bk E=>simp only[ebd]at h;exact λr L b B=>h _ _ (f.trans b) B
   | rt p E=>simp only[ebd]at h;exact λr v L fp b B r4=>h _ v _ _ (f.trans b) B r4
   | bad=>simp only[ebd]at h;exact h.elim
 ·have e:i=k.length:=by omega
  subst e;rw[List.drop_length]at h;exact .inl ⟨A rfl,h _ _ Stp.refl O⟩
def Et (g:PV->Ev->R Unit)(ft:Ev->R Bool)(fe:Ev->R PV):List PyData->List PyData->Ev->R (List PyData)
 | [],acc,c=>.ok acc c
 | d::ds,acc,c=>(g (.o (.im d)) c).bind λ_ c=>(ft c).bind λb c=>if b=true then (fe c).bind λp c=>(frz (nrm p) c).bind λy c=>Et g ft fe ds (acc++[y]) c else Et g ft fe ds acc c
def cIn (idx:List (Option Nat))(c:Ev):Ev:=idx.map λo=>o.bind λi=>((c[i]?).join).map (O.flag true)
noncomputable def pairsOf:Nat->List (Option Nat)->List (Nat×Nat)
 | _,[]=>[]
 | k,none::r=>pairsOf (k+1) r
 | k,some i::r=>(k,i)::pairsOf (k+1) r
def cLC (idx:List (Option Nat))(fi:Ev->R (List PyData))(g:PV->Ev->R Unit)(ft:Ev->R Bool)(fe:Ev->R PV):Ev->R PV:=λc=>(fi c).bind λds c =>
 if ds.length<=16000000 then match Et g ft fe ds [] (cIn idx c) with
 | .bad=>.bad
 | .ok acc cI=>match Gj cI (pairsOf 0 idx) c with
  | none=>.bad
  | some c=>.ok (.o (.ls false acc)) c
 else .bad
theorem Az8 (h:l+1<=k):k-(l+1)+1=k-l:=by omega
theorem Fy {k i:Nat}:∀{l:Nat}{idx:List (Option Nat)},(k,i)∈pairsOf l idx->l<=k/\idx[k-l]?=some (some i)
 | l,[],h=>by cases h
 | l,none::r,h=>by
  obtain⟨q1,q2⟩:=Fy (l:=l+1) (idx:=r) h
  refine⟨Nat.le_of_succ_le q1,?_⟩
  rw[show k-l=(k-(l+1))+1 from (Az8 q1).symm,List.getElem?_cons_succ];exact q2
 | l,some j::r,h=>by
  rcases List.mem_cons.mp (show (k,i)∈(l,j)::pairsOf (l+1) r from h) with e | e
  ·cases e;exact⟨Nat.le_refl _,by rw[Nat.sub_self];rfl⟩
  ·obtain⟨q1,q2⟩:=Fy (l:=l+1) (idx:=r) e
   refine⟨Nat.le_of_succ_le q1,?_⟩
   rw[show k-l=(k-(l+1))+1 from (Az8 q1).symm,List.getElem?_cons_succ];exact q2
theorem M4 {k i:Nat}:∀{l:Nat}{idx:List (Option Nat)},idx[k]?=some (some i)->(k+l,i)∈pairsOf l idx
 | l,[],h=>by simp at h
 | l,none::r,h=>by
  cases k with
  | zero=>simp at h
  | succ k =>
   rw[List.getElem?_cons_succ]at h;have:=M4 (l:=l+1) (idx:=r) h
   rw[show k+1+l=k+(l+1) by omega];exact this
 | l,some j::r,h=>by
  cases k with
  | zero=>simp at h;subst h;rw[Nat.zero_add];exact .head _
  | succ k =>
   rw[List.getElem?_cons_succ]at h;have:=M4 (l:=l+1) (idx:=r) h
   rw[show k+1+l=k+(l+1) by omega];exact .tail _ this
theorem Pr:∀{l:Nat}{idx:List (Option Nat)},((pairsOf l idx).map (·.1)).Nodup
 | l,[]=>List.nodup_nil
 | l,none::r=>Pr (l:=l+1) (idx:=r)
 | l,some j::r=>by
  show (l::(pairsOf (l+1) r).map (·.1)).Nodup
  rw[List.nodup_cons]
  refine⟨λh=>?_,Pr⟩
  obtain⟨⟨k,i⟩,h1,h2⟩:=List.mem_map.mp h;have:=(Fy h1).1;have h2:k=l:=h2;omega
theorem Bs4 (h:x.join=some o):x=some (some o):=by
 cases x with
 | none=>grind
 | some y=>simp_all
theorem A8s {k:Nat} (h:(cIn idx c)[k]?=some (some o)):∃i a,idx[k]?=some (some i)/\c[i]?=some (some a)/\o=a.flag true:=by
 unfold cIn at h;rw[List.getElem?_map]at h;obtain⟨x,e,b⟩:=Option.map_eq_some_iff.mp h
 cases x with
 | none=>grind
 | some i =>
  obtain⟨a,f,d⟩:=Option.map_eq_some_iff.mp b
  grind
theorem Aq5 {k i:Nat} (h1:idx[k]?=some (some i)) (h2:a[i]?=some (some v)):(cst idx a)[k]?=some (some v):=by
 unfold cst
 grind
theorem A6d {idx:List (Option Nat)}(R:Rep K β W c σ)(hnd:((pairsOf 0 idx).map (·.2)).Nodup):Lent K W.Hf (pairsOf 0 idx) c σ (λk=>(((cst idx σ)[k]?).join).getD .non) (cIn idx c) (cst idx σ) where
 n1:=Pr
 n2:=hnd
 len:=by unfold cIn cst;rw[List.length_map,List.length_map]
 at_:=λk o h=>by
  obtain⟨i,o',h1,h2,rfl⟩:=A8s h;obtain⟨v,e,r,_⟩:=R.get i o' h2;have hs:=Aq5 h1 e
  have one:∀j,(k,j)∈pairsOf 0 idx->j=i:=λj hj=>by
   have:=(Fy hj).2;rw[Nat.sub_zero,h1]at this;cases this;rfl
  have nol:Hx c[i]?=false->∀j,(k,j)∈pairsOf 0 idx->Hx c[j]?=false:=λq j hj=>by rw[one j hj];exact q
  cases o' with
  | im d=>exact .inl ⟨rfl,nol (by rw[h2];rfl),v,hs,r.2⟩
  | sc d=>exact .inl ⟨rfl,nol (by rw[h2];rfl),v,hs,r.2⟩
  | ty d=>exact .inl ⟨rfl,nol (by rw[h2];rfl),v,hs,r.2⟩
  | ls b ds=>exact .inr ⟨i,b,ds,v,M4 (l:=0) h1,h2,rfl,e,hs,by rw[hs];rfl⟩
theorem A6w (hnd:((pairsOf 0 idx).map (·.2)).Nodup) (hg:MG K t g) (ht:MT K tc ft) (he:ME K te fe)
 (st1:Stp W.S W.Hf W.H W1.S W1.Hf W1.H) (R1:Rep K β W1 c1 σ)
 (it:∀(i:Nat) (h:Wo),Stp (Wo.S ⟨W1.Hf,W1.H,Rt (pairsOf 0 idx) c1 W1.fps⟩) W1.Hf W1.H h.S h.Hf h.H->Same h.Hf h.H->(i=ds.length->J.stop i h.H) /\
  ∀d,ds[i]?=some d->J.go i h.H/\∀x E,J.yld i h.H x E->∃s,Stp (λ_=>False) h.Hf h.H (λ_=>False) s E/\Same s E/\Tr s d x)
 (s1:(if ds.length<=16000000 then match Et g ft fe ds [] (cIn idx c1) with
  | .bad=>.bad
  | .ok f I=>match Gj I (pairsOf 0 idx) c1 with
   | none=>.bad
   | some c=>.ok (.o (.ls false f)) c
  else .bad:R PV).sat λp c'=>∀v j w,Stp W.S W.Hf W.H (orS j.S w) j.Hf j.H->Rep K β j c' σ->Gg K j σ p v w->Q v j.H):tLC idx (λ_ H k=>k J H) t tc te σ W1.H Q:=by
 unfold tLC
 dsimp only
 by_cases hl:ds.length<=16000000
 ·rw[if_pos hl]at s1
  have L:=A6d (idx:=idx) R1 hnd
  let C:Nat->V:=λk=>(((cst idx σ)[k]?).join).getD .non
  let F:Wo:=⟨W1.Hf,W1.H,Rt (pairsOf 0 idx) c1 W1.fps⟩
  let B:U.R (List PyData)->Prop:=λr=>match r with
   | .bad=>False
   | .ok f I=>match Gj I (pairsOf 0 idx) c1 with
    | none=>False
    | some c=>∀v j w,Stp W.S W.Hf W.H (orS j.S w) j.Hf j.H->Rep K β j c σ->Gg K j σ (.o (.ls false f)) v w->Q v j.H
  have s2:B (Et g ft fe ds [] (cIn idx c1)):=by
   show match Et g ft fe ds [] (cIn idx c1) with
    | .bad=>False
    | .ok f I=>match Gj I (pairsOf 0 idx) c1 with
     | none=>False
     | some c=>∀v j w,Stp W.S W.Hf W.H (orS j.S w) j.Hf j.H->Rep K β j c σ->Gg K j σ (.o (.ls false f)) v w->Q v j.H
   cases e1:Et g ft fe ds [] (cIn idx c1) with
   | bad=>rw[e1]at s1;exact s1.elim
   | ok f I =>
    simp only[e1]at s1
    show match Gj I (pairsOf 0 idx) c1 with
     | none=>False
     | some c=>∀v j w,Stp W.S W.Hf W.H (orS j.S w) j.Hf j.H->Rep K β j c σ->Gg K j σ (.o (.ls false f)) v w->Q v j.H
    cases e2:Gj I (pairsOf 0 idx) c1 with
    | none=>simp only[e2]at s1;exact s1.elim
    | some D=>simp only[e2]at s1;exact s1
  refine⟨λi m A S H=>∃h D f,h.H=H/\Rep K C h D A/\m=ds.length-i/\i<=ds.length/\S.length<=i/\Stp F.S F.Hf F.H h.S h.Hf h.H/\TrL h.Hf f S/\B (Et g ft fe (ds.drop i) f D),
   ⟨_,F,cIn idx c1,[],rfl,(L.rep R1),rfl,Nat.zero_le _,Nat.le_refl _,Stp.refl,rfl,s2⟩,?_⟩
  rintro i m A S H ⟨h,D,f,rfl,R2,rfl,hle,hvs,N,ta,l⟩
  obtain⟨P,hgo⟩:=it i h N R2.sub
  by_cases lt:i<ds.length
  ·obtain⟨q1,q2⟩:=hgo ds[i] (List.getElem?_eq_getElem lt)
   refine .inr ⟨q1,Nat.lt_of_lt_of_le (Nat.lt_of_le_of_lt hvs (Nat.lt_of_lt_of_le lt hl)) (by decide),λA S E=>∃h D f,h.H=E/\Rep K C h D A/\S.length<=i+1/\Stp F.S F.Hf F.H h.S h.Hf h.H/\TrL h.Hf f S/\B (Et g ft fe (ds.drop (i+1)) f D),
    λA acc' E ⟨O,X,Y,e3,R3,h3,n,t3,f3⟩=>⟨ds.length-(i+1),by omega,O,X,Y,e3,R3,rfl,by omega,h3,n,t3,f3⟩,λx E hy=>?_⟩
   obtain⟨s,n,sub3,tx⟩:=q2 x E hy
   have stx:Stp h.S h.Hf h.H (Wo.S ⟨s,E,h.fps⟩) s E:=⟨n.fz,λa o e _=>n.kp a o e λz=>z,λa o e mu _ q=>n.nf a o e mu (λz=>z) q,λa z=>.inl z⟩
   rw[Nf lt]at l;unfold Et at l
   refine hg C ⟨s,E,h.fps⟩ D A (.o (.im ds[i])) x [] _ (n.rep R2 sub3) ⟨⟨rfl,tx⟩,λa z=>nomatch z⟩ ?_
   cases eg:g (.o (.im ds[i])) D with
   | bad=>rw[eg]at l;exact l.elim
   | ok u X =>
    rw[eg]at l
    have l:B ((ft X).bind λb c=>if b=true then (fe c).bind λp c=>(frz (nrm p) c).bind λy c=>Et g ft fe (ds.drop (i+1)) (f++[y]) c else Et g ft fe (ds.drop (i+1)) f c):=l
    intro σ3 O G R4
    have G:=G.up (S2:=h.S) λa z=>by
     rcases z with z | z
     ·exact z
     ·cases z
    refine ht C O X σ3 _ R4 ?_
    cases et:ft X with
    | bad=>rw[et]at l;exact l.elim
    | ok b c4 =>
     rw[et]at l;intro T st5 R5;have M:Stp F.S F.Hf F.H T.S T.Hf T.H:=N.trans (stx.trans (G.trans st5));have Z:TrL T.Hf f S:=TrL.same (stx.trans (G.trans st5)).fz ta
     cases b with
     | false=>rw[if_neg (by decide)];exact⟨T,c4,f,rfl,R5,by omega,M,Z,l⟩
     | true =>
      rw[if_pos rfl]
      have l:B ((fe c4).bind λp c=>(frz (nrm p) c).bind λy c=>Et g ft fe (ds.drop (i+1)) (f++[y]) c):=l
      refine he.toV C T c4 σ3 _ R5 ?_
      cases ee:fe c4 with
      | bad=>rw[ee]at l;exact l.elim
      | ok p c5 =>
       rw[ee]at l
       have l:B ((frz (nrm p) c5).bind λy c=>Et g ft fe (ds.drop (i+1)) (f++[y]) c):=l
       intro y W5 st6 R6 r6
       have fz:(frz (nrm p) c5).sat λ_ _=>True:=by
        cases ef:frz (nrm p) c5 with
        | bad=>rw[ef]at l;exact l.elim
        | ok d c=>trivial
       obtain⟨d,c6,W6,e6,_,eH,st7,R7,t7⟩:=Hh R6 r6 fz;rw[e6]at l
       refine⟨W6,c6,f++[d],eH,R7,by rw[List.length_append,List.length_singleton];omega,M.trans (st6.trans st7),(TrL.same (st6.trans st7).fz Z).app (TrL.one t7),l⟩
  ·have e:i=ds.length:=by omega
   subst e;rw[List.drop_length]at l
   refine .inl ⟨P rfl,λp hp=>?_⟩
   have l:match Gj D (pairsOf 0 idx) c1 with
    | none=>False
    | some c=>∀v j w,Stp W.S W.Hf W.H (orS _ _) _ _->Rep K _ j c _->Gg K _ _ _ v _->Q v _:=l
   cases eb:Gj D (pairsOf 0 idx) c1 with
   | none=>simp only[eb]at l
   | some cO =>
    simp only[eb]at l
    obtain⟨O,e1,e2,R3,n,_⟩:=L.back (fp:=[]) R1 R2 (N.less λa z=>by
     rcases z with z | z
     ·exact z
     ·cases z) eb (λk i b ds v hm _ hv=>by
      have:=(Fy hm).2;rw[Nat.sub_zero]at this
      rw[Aq5 this hv];rfl) λa z=>nomatch z
    have n:Stp W1.S W1.Hf W1.H O.S O.Hf O.H:=by
     rw[e1,e2];exact n.less λa z=>.inl z
    rw[<- e2]at hp ⊢
    exact New.lst (New.of R3 λv j w st R' rp=>l v _ _ (st1.trans (n.trans st)) R' rp) R3.sub (by rw[e1];exact ta) hp
 ·rw[if_neg hl]at s1;exact s1.elim
theorem Fl (d:((pairsOf 0 idx).map (·.2)).Nodup) (hi:MI K f fi) (hg:MG K t g) (ht:MT K h ft) (he:ME K j fe) :
 ME K (tLC idx f t h j) (cLC idx fi g ft fe):=by
 intro n W c o Q R s
 refine hi _ W c _ _ R (s.bnd.mono λq p l J u a k m=>?_)
 exact A6w d hg ht he a k (λi r e b=>m i _ _ e.fz b) l
end
inductive FR where
 | ret (o:O) (as:List O)
 | bad
noncomputable def resolve (p:PV) (c:Ev):Option (O×Ev):=match p with
 | .o (.ls _ ds)=>some (.ls false ds,c)
 | .o o=>some (o,c)
 | .sl i=>match c[i]? with
  | some (some (.ls false ds))=>some (.ls false ds,c.set i none)
  | some (some (.im d))=>some (.im d,c)
  | _=>none
noncomputable def Hs:List O->Ev->Option (List O)
 | [],_=>some []
 | .ls true _::r,some (.ls true ds)::c=>(Hs r c).map (.ls true ds::·)
 | .ls _ _::_,_=>none
 | o::r,_::c=>(Hs r c).map (o::·)
 | _::_,[]=>none
def As9 (as:List O)(p:PV)(c:Ev):FR:=match resolve p c with
 | none=>.bad
 | some (o,c)=>match Hs as c with
  | none=>.bad
  | some as'=>.ret o as'
def Eu (n N:Nat)(body:Ev->SR):List O->FR:=λas=>if as.length=n then match body (as.map some++List.replicate (N-n) none) with
 | .nx c=>As9 as (.o (.im .none)) c
 | .rt p c=>As9 as p c
 | _=>.bad
 else .bad
def spP (K:PySem.W.Frag)(F:List O->FR):Sp:=λvs H Q _=>∃(β:Nat->V) (W:Wo) (as:List O),W.H=H/\as.length=vs.length/\Rep K β W (as.map some) (vs.map some)/\match F as with
 | .bad=>False
 | .ret o as'=>∀v W' fp,Stp W.S W.Hf W.H (orS W'.S fp) W'.Hf W'.H->Rep K β W' (as'.map some) (vs.map some)->RepO K W'.Hf W'.H o v fp->(∀a∈fp,¬ W'.S a)->Q v W'.H
section
variable {K:PySem.W.Frag}{β:Nat->V}{W W':Wo}{c c' cO:Ev}{σ:St}{D:Ends}{Hf H:Hp}{o:O}{v:V}{fp:List Addr}
theorem Pa:∀{as:List O}{c:Ev}{as':List O},Hs as c=some as'->as'.length=as.length/\∀(i:Nat) (o':O),as'[i]?=some o'->(o'.own=false/\as[i]?=some o')\/(∃ds ds',o'=.ls true ds'/\as[i]?=some (.ls true ds)/\c[i]?=some (some (.ls true ds')))
 | [],c,as',e=>by cases (show some []=some as' from e);exact⟨rfl,λi o' h=>by simp at h⟩
 | o::r,[],as',e=>by
  cases o with
  | ls b ds=>cases b <;> cases e
  | im d=>cases e
  | sc d=>cases e
  | ty d=>cases e
 | o::r,x::c,as',e=>by
  have go:∀o1:O,(Hs r c).map (o1::·)=some as'->((o1.own=false/\o1=o)\/(∃ds ds',o1=.ls true ds'/\o=.ls true ds/\x=some (.ls true ds'))) ->
   as'.length=(o::r).length/\∀(i:Nat) (o':O),as'[i]?=some o'->(o'.own=false/\(o::r)[i]?=some o')\/(∃ds ds',o'=.ls true ds'/\(o::r)[i]?=some (.ls true ds)/\(x::c)[i]?=some (some (.ls true ds'))):=λo1 e1 h1=>by
   obtain⟨t,e2,rfl⟩:=Option.map_eq_some_iff.mp e1;obtain⟨l,g⟩:=Pa e2
   refine⟨by rw[List.length_cons,List.length_cons,l],λi o' h=>?_⟩
   cases i with
   | zero =>
    cases (show some o1=some o' from h)
    rcases h1 with ⟨z1,z2⟩ | ⟨ds,ds',z1,z2,z3⟩
    ·exact .inl ⟨z1,by rw[z2];rfl⟩
    ·exact .inr ⟨ds,ds',z1,by rw[z2];rfl,by rw[z3];rfl⟩
   | succ i=>exact g i o' (by simpa using h)
  cases o with
  | ls b ds =>
   cases b with
   | false=>cases e
   | true =>
    match x,e with
    | some (.ls true ds'),e=>exact go (.ls true ds') e (.inr ⟨ds,ds',rfl,rfl,rfl⟩)
    | some (.ls false ds'),e=>cases e
    | some (.im _),e=>cases e
    | some (.sc _),e=>cases e
    | some (.ty _),e=>cases e
    | none,e=>cases e
  | im d=>exact go (.im d) e (.inl ⟨rfl,rfl⟩)
  | sc d=>exact go (.sc d) e (.inl ⟨rfl,rfl⟩)
  | ty d=>exact go (.ty d) e (.inl ⟨rfl,rfl⟩)
theorem Ai4 (R:Rep K β W c σ) (r:Gg K W σ p v fp) (e:resolve p c=some (o,c')) :
 ∃W2 fp2,W2.Hf=W.Hf/\W2.H=W.H/\Rep K β W2 c' σ/\RepO K W2.Hf W2.H o v fp2/\(∀a∈fp2,¬ W2.S a)/\∀a,orS W2.S fp2 a->orS W.S fp a:=by
 cases p with
 | o f =>
  have g:o=f.flag false/\c'=c:=by
   cases f with
   | ls b h=>cases e;exact⟨rfl,rfl⟩
   | im d=>cases e;exact⟨rfl,rfl⟩
   | sc d=>cases e;exact⟨rfl,rfl⟩
   | ty d=>cases e;exact⟨rfl,rfl⟩
  obtain⟨rfl,rfl⟩:=g
  refine⟨W,fp,rfl,rfl,R,?_,r.2,λa z=>z⟩
  cases f with
  | ls b h=>exact r.1
  | im d=>exact r.1
  | sc d=>exact r.1
  | ty d=>exact r.1
 | sl i =>
  obtain⟨rfl,n⟩:=r;unfold resolve at e
  cases ec:c[i]? with
  | none=>simp_all
  | some x =>
   cases x with
   | none=>grind
   | some f =>
    obtain⟨v',g,k,_⟩:=R.get i _ ec
    cases (show some _=some _ from g.symm.trans n)
    cases f with
    | sc d=>simp_all
    | ty d=>simp_all
    | im d =>
     simp only[ec]at e
     cases e
     exact⟨W,[],rfl,rfl,R,⟨rfl,k.2⟩,(λa z=>by cases z),λa z=>z⟩
    | ls b h =>
     cases b with
     | true=>simp_all
     | false =>
      simp only[ec]at e
      cases e
      refine⟨⟨W.Hf,W.H,clr _ i⟩,W.fps i,rfl,rfl,R.drop i,k,λa q ⟨j,m⟩=>?_,λa z=>?_⟩
      ·obtain⟨s,l⟩:=Gv m
       exact l (R.dis j i a s q)
      ·rcases z with z | z
       ·exact .inl (Bo7 z)
       ·exact .inl ⟨i,z⟩
theorem Gy {b a:Type}{l:List b}{f:b->a}{i:Nat}{y:a}(h:(l.map f)[i]?=some y):∃x,l[i]?=some x/\f x=y:=by
 grind
theorem A1k {vs:List V} (t:Rep K β z (p.map some) (vs.map some)) (R:Rep K β W c σ) (S:Same z.Hf W.Hf) (e:Hs p c=some k) :
 ∃W2:Wo,W2.Hf=W.Hf/\W2.H=W.H/\Rep K β W2 (k.map some) (vs.map some)/\∀a,W2.S a->W.S a:=by
 obtain⟨E,G⟩:=Pa e
 let f:Nat->List Addr:=λi=>if Hx ((k.map some)[i]?) then W.fps i else []
 have g:∀i a,a∈f i->a∈W.fps i:=λi a h=>by
  grind
 have m:p.length=vs.length:=by have:=t.len;rwa [List.length_map,List.length_map]at this
 refine⟨⟨W.Hf,W.H,f⟩,rfl,rfl,⟨R.sub,by rw[List.length_map,List.length_map,E,m],λi o h=>?_,λi j a u w=>R.dis i j a (g i a u) (g j a w),λi a h=>R.own i a (g i a h)⟩,λa ⟨i,h⟩=>⟨i,g i a h⟩⟩
 obtain⟨o',u,w⟩:=Gy h
 cases w
 rcases G i o u with ⟨n,q⟩ | ⟨A,C,rfl,J,D⟩
 ·obtain⟨v,s,r,_⟩:=t.get i o (by rw[List.getElem?_map,q];rfl)
  have x:f i=[]:=by
   show (if Hx _ then W.fps i else [])=[]
   rw[h]
   cases o with
   | ls b A=>exact nomatch n
   | im d=>rfl
   | sc d=>rfl
   | ty d=>rfl
  refine⟨v,s,?_,?_⟩
  ·show RepO K W.Hf W.H o v (f i)
   rw[x]
   cases o with
   | ls b A=>exact nomatch n
   | im d=>exact⟨rfl,RepN.same S r.2⟩
   | sc d=>exact⟨rfl,RepN.same S r.2⟩
   | ty d=>exact⟨rfl,RepN.same S r.2⟩
  grind
 ·obtain⟨v,s,r,B⟩:=t.get i _ (by rw[List.getElem?_map,J];rfl)
  obtain⟨H,F,I,y⟩:=R.get i _ D;have l:=y rfl;rw[<- (B rfl)]at l;subst l
  refine⟨H,s,?_,B⟩
  have x:f i=W.fps i:=by
   show (if Hx _ then W.fps i else [])=_
   rw[h];rfl
  show RepO K _ _ _ _ (f i)
  rw[x];exact I
theorem Cr (h:MS K T body) (hs:spP K (Eu n N.length body) vs H Q E):T { nx:=λ_ H'=>Q .non H',rt:=Q } (start N vs) H:=by
 obtain⟨u,W,j,rfl,B,m,b⟩:=hs;unfold Eu at b
 by_cases hn:j.length=n
 ·rw[if_pos hn]at b
  let D:Ev:=j.map some++List.replicate (N.length-n) none
  have R:Rep K u W D (start N vs):=by
   refine⟨m.sub,?_,λi o e=>?_,m.dis,m.own⟩
   ·show (j.map some++List.replicate (N.length-n) none).length=(vs.map some++List.replicate (N.length-vs.length) none).length
    rw[List.length_append,List.length_append,List.length_map,List.length_map,List.length_replicate,List.length_replicate,<- B,hn]
   ·have e:(j.map some++List.replicate (N.length-n) none)[i]?=some (some o):=e
    by_cases li:i<j.length
    ·rw[List.getElem?_append_left (by rw[List.length_map];exact li)]at e
     obtain⟨v,w,r⟩:=m.get i o e
     refine⟨v,?_,r⟩
     show (vs.map some++List.replicate (N.length-vs.length) none)[i]?=_
     rw[List.getElem?_append_left (by rw[List.length_map,<- B];exact li)];exact w
    ·rw[List.getElem?_append_right (by rw[List.length_map];exact Nat.le_of_not_lt li),List.getElem?_replicate]at e
     split at e <;> cases e
  refine h u W D (start N vs) _ R ?_
  have l:∀p f c v d g,(match As9 j p f with
   | .bad=>False
   | .ret o t=>∀v W' g,Stp W.S W.Hf W.H (orS W'.S g) W'.Hf W'.H->Rep K u W' (t.map some) (vs.map some)->RepO K W'.Hf W'.H o v g->(∀a∈g,¬ W'.S a)->Q v W'.H) ->
   Stp W.S W.Hf W.H (orS d.S g) d.Hf d.H->Rep K u d f c->Gg K d c p v g->Q v d.H:=λp f c v d g b k s x=>by
   unfold As9 at b
   cases er:resolve p f with
   | none=>simp only[er]at b
   | some q =>
    obtain⟨o,U⟩:=q;simp only[er]at b
    cases ea:Hs j U with
    | none=>simp only[ea]at b
    | some t =>
     simp only[ea]at b;obtain⟨W2,S,w,C,I,J,L,M⟩:=Ai4 s x er
     obtain⟨O,A,y,P,F⟩:=A1k m I (by rw[w];exact k.fz) ea
     rw[show d.H=O.H by rw[y,C]]
     refine b v _ _ ?_ P (by rw[A,y];exact J) λa G z=>L a G (F a z)
     rw[A,y,w,C]
     exact k.less λa z=>M a (by
      rcases z with z | z
      ·exact .inl (F a z)
      ·exact .inr z)
  cases eb:body _ with
  | nx f =>
   rw[show body _=.nx _ from eb]at b
   exact λc d k s=>l _ _ _ _ _ _ b (k.less λa z=>by
    rcases z with z | z
    ·exact z
    ·cases z) s ⟨⟨rfl,rfl⟩,λa z=>nomatch z⟩
  | rt p f =>
   rw[show body _=.rt p _ from eb]at b
   exact λc v d g k s x=>l p _ _ v _ _ b k s x
  | bk f=>rw[show body _=.bk _ from eb]at b;exact b.elim
  | ct f=>rw[show body _=.ct _ from eb]at b;exact b.elim
  | bad=>rw[show body _=.bad from eb]at b;exact b.elim
 ·rw[if_neg hn]at b;exact b.elim
theorem Cv (hs:spP K (Eu n N body) vs H Q E):vs.length=n:=by
 obtain⟨d,W,c,b,e,f,a⟩:=hs;unfold Eu at a
 grind
def Pq (c:Ev):List PV->Option (List O)
 | []=>some []
 | .o o::r=>(Pq c r).map (o::·)
 | .sl i::r=>match c[i]? with
  | some (some o)=>(Pq c r).map (o.flag true::·)
  | _=>none
noncomputable def slots:List PV->List (Option Nat)
 | []=>[]
 | .o _::r=>none::slots r
 | .sl i::r=>some i::slots r
noncomputable def ndB:List Nat->Bool
 | []=>true
 | x::r=>!r.contains x&&ndB r
theorem A0e:∀{l:List Nat},ndB l=true->l.Nodup
 | [],_=>List.nodup_nil
 | x::r,h=>by
  obtain⟨h1,h2⟩:=Bool.and_eq_true_iff.mp (show (!r.contains x&&ndB r)=true from h)
  rw[List.nodup_cons]
  exact⟨λz=>by simp[z]at h1,A0e h2⟩
def Nt (F:List O->FR)(ps:List PV)(c:Ev):R PV:=match Pq c ps with
 | none=>.bad
 | some as=>if ndB ((pairsOf 0 (slots ps)).map (·.2))=true then match F as with
  | .bad=>.bad
  | .ret o as'=>match Gj (as'.map some) (pairsOf 0 (slots ps)) c with
   | none=>.bad
   | some c=>.ok (.o o) c
  else .bad
def cF (F:List O->FR)(fa:Ev->R (List PV)):Ev->R PV:=λc=>(fa c).bind λps c=>Nt F ps c
theorem Tv {Hf:Hp}:∀{ps:List PV}{vs:List V}{as:List O},Pq c ps=some as->zM K Hf σ ps vs->as.length=vs.length/\∀(k:Nat) (o:O),as[k]?=some o->∃v,vs[k]?=some v /\
 ((RepN K Hf o v/\(slots ps)[k]?=some none)\/∃i o',(slots ps)[k]?=some (some i)/\c[i]?=some (some o')/\o=o'.flag true/\σ[i]?=some (some v))
 | [],vs,as,e,h=>by cases (show some []=some as from e);cases (show vs=[] from h);exact⟨rfl,λk o h=>by simp at h⟩
 | .o o1::r,_,as,e,⟨v,vr,rfl,h,t⟩=>by
  obtain⟨l,e2,rfl⟩:=Option.map_eq_some_iff.mp (show (Pq c r).map (o1::·)=some as from e)
  obtain⟨hl,hg⟩:=Tv e2 t
  refine⟨by rw[List.length_cons,List.length_cons,hl],λk o hk=>?_⟩
  cases k with
  | zero=>cases (show some o1=some o from hk);exact⟨v,rfl,.inl ⟨h,rfl⟩⟩
  | succ k=>exact hg k o (by simpa using hk)
 | .sl i::r,_,as,e,⟨v,vr,rfl,h,t⟩=>by
  unfold Pq at e
  cases ec:c[i]? with
  | none=>simp only[ec]at e;cases e
  | some x =>
   cases x with
   | none=>simp only[ec]at e;cases e
   | some o1 =>
    simp only[ec]at e;obtain⟨l,e2,rfl⟩:=Option.map_eq_some_iff.mp e;obtain⟨hl,hg⟩:=Tv e2 t
    refine⟨by rw[List.length_cons,List.length_cons,hl],λk o hk=>?_⟩
    cases k with
    | zero=>cases (show some (o1.flag true)=some o from hk);exact⟨v,rfl,.inr ⟨i,o1,rfl,ec,rfl,h⟩⟩
    | succ k=>exact hg k o (by simpa using hk)
theorem Qg {Hf:Hp}:∀{ps:List PV}{vs:List V}{k i:Nat}{v:V},zM K Hf σ ps vs->(slots ps)[k]?=some (some i)->σ[i]?=some (some v)->vs[k]?=some v
 | [],vs,k,i,v,h,e,q=>by simp[slots]at e
 | .o _::r,_,k,i,v,⟨v1,vr,rfl,h,t⟩,e,q=>by
  cases k with
  | zero=>simp[slots]at e
  | succ k=>have:=Qg (k:=k) t (by simpa[slots] using e) q;simpa using this
 | .sl j::r,_,k,i,v,⟨v1,vr,rfl,h,t⟩,e,q=>by
  cases k with
  | zero =>
   have:j=i:=by simpa[slots] using e
   subst this
   cases (show some (some v1)=some (some v) from (show σ[j]?=some (some v1) from h).symm.trans q)
   rfl
  | succ k=>have:=Qg (k:=k) t (by simpa[slots] using e) q;simpa using this
theorem Ai3 (g:Rep K β W1 c1 σ) (R:zM K W1.Hf σ ps vs)
 (s1:(Nt F ps c1).sat λp c'=>∀v e y,Stp W1.S W1.Hf W1.H (orS e.S y) e.Hf e.H->Rep K β e c' σ->Gg K e σ p v y->(∀j a,a∈W1.fps j->some j∉slots ps->e.H a=W1.H a)->Q v e.H):spP K F (vs++[]) W1.H Q E:=by
 unfold Nt at s1
 cases ea:Pq c1 ps with
 | none=>simp only[ea]at s1;exact s1.elim
 | some M =>
  simp only[ea]at s1
  by_cases nd:ndB ((pairsOf 0 (slots ps)).map (·.2))=true
  ·rw[if_pos nd]at s1
   obtain⟨P,hg⟩:=Tv ea R
   let m:=pairsOf 0 (slots ps)
   let l:Nat->V:=λk=>(vs[k]?).getD .non
   have L:Lent K W1.Hf m c1 σ l (M.map some) (vs.map some):=by
    refine⟨Pr,A0e nd,by rw[List.length_map,List.length_map];exact P,λk o B=>?_⟩
    obtain⟨o1,T,h2⟩:=Gy B
    cases h2
    obtain⟨v,u,q⟩:=hg k o T
    have c:(vs.map some)[k]?=some (some v):=by rw[List.getElem?_map,u];rfl
    rcases q with ⟨I,t⟩ | ⟨i,H,t,n,rfl,G⟩
    ·refine .inl ⟨?_,λi Z=>?_,v,c,I⟩
     ·cases o with
      | ls b D=>exact I.elim
      | im d=>rfl
      | sc d=>rfl
      | ty d=>rfl
     ·have:=(Fy Z).2
      rw[Nat.sub_zero,t]at this;cases this
    ·have f:Hx c1[i]?=false->∀j,(k,j)∈m->Hx c1[j]?=false:=λq j z=>by
      have:=(Fy z).2;rw[Nat.sub_zero,t]at this;cases this;exact q
     obtain⟨v',w,r,_⟩:=g.get i H n
     cases (show some _=some _ from w.symm.trans G)
     cases H with
     | im d=>exact .inl ⟨rfl,f (by rw[n];rfl),v,c,r.2⟩
     | sc d=>exact .inl ⟨rfl,f (by rw[n];rfl),v,c,r.2⟩
     | ty d=>exact .inl ⟨rfl,f (by rw[n];rfl),v,c,r.2⟩
     | ls b D=>exact .inr ⟨i,b,D,v,M4 t,n,rfl,G,c,by show vs[k]?.getD _=v;rw[u];rfl⟩
   refine⟨l,⟨W1.Hf,W1.H,Rt m _ _⟩,M,rfl,by rw[List.append_nil];exact P,by rw[List.append_nil];exact(L.rep g),?_⟩
   cases ef:F _ with
   | bad=>simp only[ef]at s1;exact s1.elim
   | ret o A =>
    simp only[ef]at s1;intro v e y J U W X
    cases eb:Gj (A.map some) m c1 with
    | none=>simp only[m]at eb;simp only[eb]at s1;exact s1.elim
    | some cO =>
     have h:=eb;simp only[m]at h;simp only[h]at s1
     obtain⟨W2,w,x,R2,C,Y⟩:=L.back g U J eb (λk i b D v hm hc u=>by
      have:=(Fy hm).2;rw[Nat.sub_zero]at this
      show vs[k]?.getD _=v
      rw[Qg R this u];rfl) X
     rw[<- x]
     refine s1 v _ _ (by rw[w,x];exact C) R2 ⟨by rw[w,x];exact W,Y⟩ λj a N z=>?_
     obtain⟨_,ob,s,_⟩:=g.own j a N;rw[x,s]
     refine J.kp a _ s λ⟨k,B⟩=>z ?_
     obtain⟨i,q1,_,S⟩:=G5 B
     cases g.dis i j a S N
     have:=(Fy q1).2;exact List.mem_of_getElem? this
  ·rw[if_neg nd]at s1;exact s1.elim
theorem Qo (d:Rep K β W1 c1 σ) (e:zM K W1.Hf σ ps vs)
 (s1:(Nt F ps c1).sat λp c'=>∀v a b,Stp W1.S W1.Hf W1.H (orS a.S b) a.Hf a.H->Rep K β a c' σ->Gg K a σ p v b->Q v a.H):spP K F (vs++[]) W1.H Q E :=
 Ai3 d e (s1.mono λp c' k v a b c R r _=>k v _ _ c R r)
theorem Al (ha:MA K t fa):ME K (Zr (spP K F) [] E t) (cF F fa):=by
 intro j W c h Q R s
 refine ha _ W c _ _ R (s.bnd.mono λl m f u i a e d=>?_)
 exact Qo e d (f.mono λp n k v o q g b r=>k v _ _ (a.trans g) b r)
end
noncomputable def Bu4 (is:List Nat) (c:Ev):Ev:=is.foldl (λc i=>c.set i none) c
section
variable {K:PySem.W.Frag}{X:Cx}{Hf H:Hp}{Q:VK}
theorem OpR.or (h:OpR X f r) (h':OpR X f b):OpR X f (λx y H Q=>r x y H Q\/b x y H Q):=by
 intro c s e H x y v u Q I d a q
 rcases q with q | q
 ·exact h _ s _ H x y v u Q I d a q
 ·exact h' _ s _ H x y v u Q I d a q
theorem zE.or (h:zE X f r) (h':zE X f b):zE X f (λxs H Q=>r xs H Q\/b xs H Q):=by
 intro c s d H xs e Q I a q
 rcases q with q | q
 ·exact h _ s _ H _ _ Q I a q
 ·exact h' _ s _ H _ _ Q I a q
theorem Ew (h:RdV Hf H (.int i) v):v=.int i:=h
theorem Ha (h:RdV Hf H (.str x) v):v=.str x:=h
theorem Sw (h:RdV Hf H (.bool b) v):v=.bl b:=h
theorem Sx (h:RdV Hf H .none v):v=.non:=h
theorem Gw (s:Same Hf H) (h:RdV Hf H (.tuple ds) v):∃a b,v=.ref a/\H a=some (.tup b)/\TrL Hf ds b:=by
 obtain⟨a,b,e,q,t⟩:=(show Tr _ _ v from h)
 exact⟨a,b,e,s _ _ q,t⟩
theorem Gb (h:RdV Hf H (.list ds) v):∃a vs,v=.ref a/\H a=some (.lst vs)/\TrL Hf ds vs:=h
theorem New.int (h:New K Hf H (.im (.int i)) Q) (s:Same Hf H):Q (.int i) H:=h.same s rfl
theorem New.bl (h:New K Hf H (.im (.bool b)) Q) (s:Same Hf H):Q (.bl b) H:=h.same s rfl
theorem New.str (h:New K Hf H (.im (.str x)) Q) (s:Same Hf H):Q (.str x) H:=h.same s rfl
theorem New.tupS (h:New K Hf H (.im (.tuple ds)) Q) (s:Same Hf H) (t:TrL Hf ds vs) (S:Same H H') (hp:H' p=some (.tup vs)):Q (.ref p) H':=by
 have c:Same _ (upd Hf p (.tup vs)):=λb u e=>by
  unfold upd
  split
  ·have:=S b u (s b u e)
   simp_all
  grind
 refine h _ _ _ [] ⟨c,λa o e _=>S a o e,λa o e d _ q=>?_,λa z=>nomatch z⟩ (λb u e=>?_) ⟨rfl,p,vs,rfl,Bw,TrL.same c t⟩
 ·unfold upd
  split
  ·rename_i z
   have:=S a o e;rw[z,hp]at this
   cases this
   trivial
  omega
 ·unfold upd at e
  split at e
  ·simp_all
  ·exact S b u (s b u e)
def Be8:R2:=λx y H Q=>(rI0 (λi j=>.int (i+j)) x y H Q\/(∃i j,x=.str i/\y=.str j/\i.length+j.length<=sizeLine/\Q (.str (i++j)) H))\/(Bo5 x y H Q\/Bc0 x y H Q)
theorem Bf8:OpR X (binaryOp .Add) Be8:=OpR.or (OpR.or Bk1 Ak5) (OpR.or Be4 A5u)
noncomputable def Ci:PyData->PyData->Option O
 | .int i,.int j=>some (.im (.int (i+j)))
 | .str a,.str b=>if a.length+b.length<=16000000 then some (.im (.str (a++b))) else none
 | .list a,.list b=>if a.length+b.length<=16000000 then some (.ls false (a++b)) else none
 | .tuple a,.tuple b=>if a.length+b.length<=16000000 then some (.im (.tuple (a++b))) else none
 | _,_=>none
theorem lim (h:n<=16000000):n<=sizeLine:=Nat.le_trans h (by decide)
theorem Cm:OpS K Be8 Ci:=by
 intro C H x y A B o Q s g f e n;unfold Ci at e
 split at e
 ·rename_i i j
  cases e
  exact .inl (.inl ⟨i,j,Ew g,Ew f,n.int s⟩)
 ·rename_i a b
  split at e
  ·rename_i l
   cases e
   exact .inl (.inr ⟨a,b,Ha g,Ha f,lim l,n.str s⟩)
  ·cases e
 ·have e := e
  split at e
  ·rename_i l
   cases e
   obtain⟨p,v,k,h,d⟩:=Gb g;obtain⟨q,t,u,m,c⟩:=Gb f
   exact .inr (.inl ⟨p,q,v,t,k,u,h,m,by rw[<- d.length,<- c.length];exact lim l,λr w=>n.lst s (d.app c) w⟩)
  ·cases e
 ·have e := e
  split at e
  ·rename_i l
   cases e
   obtain⟨p,v,k,h,d⟩:=Gw s g;obtain⟨q,t,u,m,c⟩:=Gw s f
   exact .inr (.inr ⟨p,q,v,t,k,u,h,m,by rw[<- d.length,<- c.length];exact lim l,λr z S w=>n.tupS s (d.app c) S w⟩)
  ·cases e
 ·cases e
noncomputable def opI (C:Int->Int->Bool) (g:Int->Int->Int):PyData->PyData->Option O
 | .int i,.int j=>if C i j then some (.im (.int (g i j))) else none
 | _,_=>none
theorem As0 (hc:∀i j,C i j=true->a i j):OpS K (rI a λi j=>.int (g i j)) (opI C g):=by
 intro d H x y h f o Q s c b e n;unfold opI at e
 split at e
 ·rename_i i j
  split at e
  ·rename_i l
   cases e
   exact⟨i,j,Ew c,Ew b,hc i j l,n.int s⟩
  trivial
 grind
noncomputable def Vy (g:Int->Int->PyData):PyData->PyData->Option O
 | .int i,.int j=>some (.im (g i j))
 | _,_=>none
theorem Yj (hg:∀i j H,Tr H (g i j) (g' i j)):OpS K (rI0 g') (Vy g):=by
 intro c H x y f d o Q s a b e n;unfold Vy at e
 split at e
 ·rename_i i j
  cases e
  exact⟨i,j,Ew a,Ew b,n.same s (hg i j _)⟩
 trivial
noncomputable def Ux (i j:Int):Bool:=(decide (-(2 ^ 64)<i)&&decide (i<2 ^ 64))||(decide (-(2 ^ 64)<j)&&decide (j<2 ^ 64))
noncomputable def Ce (d:PyData):Bool:=d.canLay0&&decide (d.depth<=40)
theorem Fd (h:Ce d=true):Flat d:=by
 obtain⟨b,a⟩:=Bool.and_eq_true_iff.mp h;exact⟨b,of_decide_eq_true a⟩
noncomputable def Sq:PyData->PyData->Bool
 | .str _,.str _=>true
 | _,_=>false
def Bo (neg:Bool)(a b:PyData):Option O:=if (Ce a&&Ce b)||Sq a b then some (.im (.bool (if neg then !PyData.eqv a b else PyData.eqv a b))) else none
def rEQ:R2:=λx y H Q=>Bv1 x y H Q\/rEq x y H Q
def rNE:R2:=λx y H Q=>Bv0 x y H Q\/rNe x y H Q
theorem Ba2 (hu:X.A.units+64<cLine):OpR X (compareOp .Eq) rEQ:=OpR.or (Bj6 hu) Bn1
theorem Bb9 (hu:X.A.units+64<cLine):OpR X (compareOp .NotEq) rNE:=OpR.or (Bg0 hu) Br1
theorem Tn (x y:Str):PyData.eqv (.str x) (.str y)=decide (V.str x=V.str y):=by
 show (x==y)=_
 grind
theorem Ex:OpS K rEQ (Bo false):=by
 intro h H x y f d o Q s b a e n;unfold Bo at e
 split at e
 ·rename_i l
  cases e
  rcases Bool.or_eq_true_iff.mp l with l | l
  ·obtain⟨g,c⟩:=Bool.and_eq_true_iff.mp l
   exact .inl ⟨f,d,b.tr s,a.tr s,Fd g,Fd c,n.bl s⟩
  ·unfold Sq at l
   split at l
   ·cases Ha b
    cases Ha a
    refine .inr ⟨rfl,?_⟩
    rw[<- Tn];exact n.bl s
   grind
 grind
theorem Gz:OpS K rNE (Bo true):=by
 intro h H x y f d o Q s b a e n;unfold Bo at e
 split at e
 ·rename_i l
  cases e
  rcases Bool.or_eq_true_iff.mp l with l | l
  ·obtain⟨g,c⟩:=Bool.and_eq_true_iff.mp l
   exact .inl ⟨f,d,b.tr s,a.tr s,Fd g,Fd c,n.bl s⟩
  ·unfold Sq at l
   split at l
   ·cases Ha b
    cases Ha a
    refine .inr ⟨rfl,?_⟩
    rw[<- Tn];exact n.bl s
   grind
 grind
def A1x (a b:PyData):Option O:=if Ce a&&Ce b then (G6 false a b).map λr=>.im (.bool r) else none
theorem Bi8:OpS K Bs0 A1x:=by
 intro Hf H x y b c o Q s d a e n;unfold A1x at e
 split at e
 ·rename_i l
  obtain⟨g,f⟩:=Bool.and_eq_true_iff.mp l;obtain⟨r,h,rfl⟩:=Option.map_eq_some_iff.mp e;exact⟨b,c,r,d.tr s,a.tr s,Fd g,Fd f,h,n.bl s⟩
 grind
noncomputable def Ib (neg:Bool) (a b:PyData):Option O:=match b with
 | .none=>some (.im (.bool (match a with
  | .none=>!neg
  | _=>neg)))
 | _=>none
theorem Ao2 (h:RdV Hf H d v):decide (v=.non)=(match d with | .none=>true | _=>false):=by
 cases d with
 | none=>cases Sx h;rfl
 | bool b=>cases Sw h;rfl
 | int i=>cases Ew h;rfl
 | str x=>cases Ha h;rfl
 | list c=>obtain⟨a,e,rfl,_⟩:=Gb h;rfl
 | tuple c=>obtain⟨a,e,rfl,_⟩:=(show Tr _ _ v from h);rfl
 | dict k=>trivial
theorem A7u:OpS K (λx y H Q=>y=.non/\Q (.bl (decide (x=.non))) H) (Ib false):=by
 intro f H x y c b o Q s d a e n
 match b,a,e with
 | .none,a,e =>
  refine⟨Sx a,?_⟩
  rw[Ao2 d]
  cases e
  cases c <;> exact n.bl s
theorem Pu:OpS K (λx y H Q=>y=.non/\Q (.bl (!decide (x=.non))) H) (Ib true):=by
 intro f H x y c b o Q s d a e n
 match b,a,e with
 | .none,a,e =>
  refine⟨Sx a,?_⟩
  rw[Ao2 d]
  cases e
  cases c <;> exact n.bl s
def rIN:R2:=λx y H Q=>Bg4 false x y H Q\/Bu6 x y H Q
theorem Bq9 (hu:X.A.units+64<cLine):OpR X (compareOp .In) rIN:=OpR.or (Bl3 hu) Az5
def Ji (neg:Bool):PyData->PyData->Option O
 | d,.list ds=>if Ce d&&PyData.canLayAll0 ds then some (.im (.bool (if neg then !(ds.any λe=>PyData.eqv e d) else ds.any λe=>PyData.eqv e d))) else none
 | d,.tuple ds=>if Ce d&&PyData.canLayAll0 ds then some (.im (.bool (if neg then !(ds.any λe=>PyData.eqv e d) else ds.any λe=>PyData.eqv e d))) else none
 | .str i,.str j=>if neg then none else some (.im (.bool (!(Builtin.Str.occurrences j i 0 j.length 1).isEmpty)))
 | _,_=>none
theorem A3q:OpS K rIN (Ji false):=by
 intro h H x y g k o Q s b d e n;unfold Ji at e
 split at e
 ·rename_i c
  have e := e
  split at e
  ·rename_i l
   obtain⟨f,a⟩:=Bool.and_eq_true_iff.mp l
   cases e
   exact .inl ⟨g,c,b.tr s,.inl (d.tr s),Fd f,a,n.bl s⟩
  grind
 ·rename_i c
  have e := e
  split at e
  ·rename_i l
   obtain⟨f,a⟩:=Bool.and_eq_true_iff.mp l
   cases e
   exact .inl ⟨g,c,b.tr s,.inr (d.tr s),Fd f,a,n.bl s⟩
  simp_all
 ·rename_i i j
  cases e
  exact .inr ⟨i,j,Ha b,Ha d,n.bl s⟩
 trivial
theorem Qm:OpS K (Bg4 true) (Ji true):=by
 intro h H x y f i o Q s d g e n;unfold Ji at e
 split at e
 ·rename_i a
  have e := e
  split at e
  ·rename_i l
   obtain⟨c,b⟩:=Bool.and_eq_true_iff.mp l
   cases e
   exact⟨f,a,d.tr s,.inl (g.tr s),Fd c,b,n.bl s⟩
  simp_all
 ·rename_i a
  have e := e
  split at e
  ·rename_i l
   obtain⟨c,b⟩:=Bool.and_eq_true_iff.mp l
   cases e
   exact⟨f,a,d.tr s,.inr (g.tr s),Fd c,b,n.bl s⟩
  grind
 ·simp_all
 grind
theorem A2o (t:TrL Hf ds vs) (h:atI ds i=some d):∃v,atI vs i=some v/\Tr Hf d v:=by
 unfold atI at h ⊢;rw[<- t.length];obtain⟨j,c,a⟩:=Option.bind_eq_some_iff.mp h;obtain⟨v,e,b⟩:=t.got a
 grind
def cutD (ds:List PyData)(lo hi:Option Int):List PyData:=(ds.drop (HT.sIx ds.length 0 lo)).take (HT.sIx ds.length ds.length hi-HT.sIx ds.length 0 lo)
theorem TrL.drop':∀{ds:List PyData}{vs:List V}(n:Nat),TrL Hf ds vs->TrL Hf (ds.drop n) (vs.drop n)
 | ds,vs,0,h=>h
 | [],_,n+1,h=>by cases (show _=[] from h);exact rfl
 | d::ds,_,n+1,⟨v,r,rfl,_,t⟩=>TrL.drop' n t
theorem TrL.take':∀{ds:List PyData}{vs:List V}(n:Nat),TrL Hf ds vs->TrL Hf (ds.take n) (vs.take n)
 | ds,vs,0,h=>by rw[List.take_zero,List.take_zero];exact rfl
 | [],_,n+1,h=>by cases (show _=[] from h);exact rfl
 | d::ds,_,n+1,⟨v,r,rfl,q,t⟩=>⟨v,r.take n,rfl,q,TrL.take' n t⟩
theorem TrL.cut (t:TrL Hf ds vs):TrL Hf (cutD ds lo hi) (Az6 vs lo hi):=by
 unfold cutD Az6;rw[<- t.length];exact TrL.take' _ (TrL.drop' _ t)
end
section
variable {K:PySem.W.Frag}{X:Cx}{Hf H:Hp}{Q:VK}{β:Nat->V}{W W':Wo}{c c':Ev}{σ:St}{v:V}
theorem Bh9 (h:Bl4 Hf H [d] xs):∃x,xs=[x]/\RdV Hf H d x:=by
 obtain⟨v,r,b,c,a⟩:=h
 cases (a)
 grind
noncomputable def Hc:List PyData->Option O
 | [.list ds]=>some (.im (.int ds.length))
 | [.tuple ds]=>some (.im (.int ds.length))
 | [.str z]=>if z.length<=16000000 then some (.im (.int z.length)) else none
 | _=>none
theorem As8:Bs2 K (Q7 K) Hc:=by
 intro Hf H xs ds o Q s d e n;unfold Hc at e
 split at e
 ·obtain⟨x,rfl,r⟩:=Bh9 d
  obtain⟨a,c,rfl,b,t⟩:=Gb r
  cases e
  refine⟨.ref a,c.length,rfl,A8q b,?_⟩
  rw[<- t.length];exact n.int s
 ·obtain⟨x,rfl,r⟩:=Bh9 d
  obtain⟨a,c,rfl,b,t⟩:=Gw s r
  cases e
  refine⟨.ref a,c.length,rfl,A7o b,?_⟩
  rw[<- t.length];exact n.int s
 ·rename_i z
  obtain⟨x,rfl,r⟩:=Bh9 d
  cases Ha r
  split at e
  ·rename_i l
   cases e
   refine⟨.str z,z.length,rfl,?_,n.int s⟩
   show (if z.length<=sizeLine then some _ else none)=_
   rw[if_pos (lim l)]
  trivial
 simp_all
def A6h (K:PySem.W.Frag):List V->Hp->VK->Prop:=λxs H Q=>Q7 K xs H Q\/Af4 K xs H Q
theorem A1g:zE X (.builtin "len") (A6h X.K):=zE.or Aw8 Ac4
def Ht (f:Ev->R PV):Ev->R PV:=λc=>(f c).bind λp c=>match nrm p with
 | .o (.sc ns)=>.ok (.o (.im (.int ns.length))) c
 | p=>match Fj c p with
  | some d=>match Hc [d] with
   | some o=>.ok (.o o) c
   | none=>.bad
  | none=>.bad
theorem G9 (h:ME K t f):ME K (tCB (A6h K) (Ec t Hb)) (Ht f):=by
 intro A W c u Q R s
 refine h.toV A W c u _ R (s.bnd.mono λp w e v r n k g=>?_)
 have m:∀q:PV,RepA K r.Hf u q v->((match Fj w q with
  | some d=>(match Hc [d] with
   | some o=>.ok (.o o) w
   | none=>.bad)
  | none=>.bad:U.R PV)).sat (λp C=>∀v j l,Stp W.S W.Hf W.H (orS j.S l) j.Hf j.H->Rep K A j C u->Gg K j u p v l->Q v j.H)->A6h K [v] r.H Q:=λq g e=>by
  cases ex:Fj w q with
  | none=>simp only[ex]at e;exact e.elim
  | some d =>
   simp only[ex]at e
   cases eo:Hc [d] with
   | none=>simp only[eo]at e;exact e.elim
   | some o =>
    simp only[eo]at e
    exact .inl (As8 r.Hf r.H [v] [d] o Q k.sub ⟨v,[],rfl,Gp k g ex,rfl⟩ eo (New.of k λv j l z y x=>e v j l (n.trans z) y x))
 generalize nrm p=q at e g
 match q,g,e with
 | .o (.sc ns),g,e =>
  obtain⟨a,rfl,B⟩:=g;have e:∀v j l,Stp _ _ _ _ _ _->Rep K _ j _ _->Gg K _ _ _ v _->Q v _:=e
  refine .inr ⟨.ref a,ns.length,rfl,?_,(New.of k λv j l z y x=>e v _ _ (n.trans z) y x).int k.sub⟩
  exact .inl ⟨ns.map _,Same.seq k.sub B,by simp_all⟩
 | .o (.im d),g,e=>exact m _ g e
 | .o (.ls b d),g,e=>trivial
 | .o (.ty T),g,e=>trivial
 | .sl i,g,e=>exact m _ g e
inductive Ty5 where
 | int | str | bool | list | tuple
noncomputable def Ty5.nm:Ty5->String
 | .int => "int"
 | .str => "str"
 | .bool => "bool"
 | .list => "list"
 | .tuple => "tuple"
noncomputable def A5s:Ty5->PyData->Bool
 | .int,.int _=>true
 | .int,.bool _=>true
 | .str,.str _=>true
 | .bool,.bool _=>true
 | .list,.list _=>true
 | .tuple,.tuple _=>true
 | _,_=>false
noncomputable def A3r:PyData->String
 | .none => "NoneType"
 | .bool _ => "bool"
 | .int _ => "int"
 | .str _ => "str"
 | .list _ => "list"
 | .tuple _ => "tuple"
 | .dict _ => "dict"
theorem A7y (s:Same Hf H) (h:RdV Hf H d v):Rq H v=some (A3r d):=by
 cases d with
 | none=>cases Sx h;rfl
 | bool b=>cases Sw h;rfl
 | int i=>cases Ew h;rfl
 | str x=>cases Ha h;rfl
 | list c=>obtain⟨a,f,rfl,e,_⟩:=Gb h;exact Bh8 e
 | tuple c=>obtain⟨a,f,rfl,e,_⟩:=Gw s h;exact Be9 e
 | dict k=>trivial
theorem Bh0 (h:RdV Hf H d v) (T:Ty5):Fv (A3r d) T.nm=some (A5s T d):=by
 cases d with
 | none=>cases T <;> first | exact Ru | exact R9 | exact Qf | exact Qy | exact O6
 | bool b=>cases T <;> first | exact Ab7 | exact Ab0 | exact X6 | exact Yw | exact Vs
 | int i=>cases T <;> first | exact Ad7 | exact Af0 | exact Ac9 | exact Zt | exact Yo
 | str x=>cases T <;> first | exact Ai2 | exact Af6 | exact Aa1 | exact Ab8 | exact Xo
 | list a=>cases T <;> first | exact Zx | exact Zm | exact X8 | exact Xq | exact Vt
 | tuple a=>cases T <;> first | exact Yx | exact Ym | exact Vz | exact V2 | exact T6
 | dict k=>exact(h).elim
def cUn (op:PyData->Option O)(f:Ev->R PV):Ev->R PV:=λc=>(f c).bind λp c=>match Fj c (nrm p) with
 | some d=>match op d with
  | some o=>.ok (.o o) c
  | none=>.bad
 | none=>.bad
def UnS (K:PySem.W.Frag)(r:V->Hp->VK->Prop)(op:PyData->Option O):Prop:=∀(Hf H:Hp) (x:V) (d:PyData) (o:O) (Q:VK),Same Hf H->RdV Hf H d x->op d=some o->New K Hf H o Q->r x H Q
theorem Mv (h:ME K t f) (hr:UnS K r op):ME K (tUn r t) (cUn op f):=by
 intro u W c m Q R s
 refine h.toV _ W c _ _ R (s.bnd.mono λp j a v w e b k=>?_)
 cases ex:Fj j (nrm p) with
 | none=>simp only[ex]at a;trivial
 | some d =>
  simp only[ex]at a
  cases eo:op d with
  | none=>simp only[eo]at a;trivial
  | some o =>
   simp only[eo]at a
   exact hr _ _ v d o Q b.sub (Gp b k ex) eo (New.of b λv n q i l g=>a v _ _ (e.trans i) l g)
theorem Dg (h:ME K t f) (hr:UnS K (λx H Q=>r [x] H Q) op):ME K (tCB r (Ec t Hb)) (cUn op f):=Mv h hr
def Zh (T:Ty5)(d:PyData):Option O:=some (.im (.bool (A5s T d)))
theorem Ak4 (T:Ty5) (h:ME K t f):ME K (tCB (Oa K) (Ec t (Ec (tC (.ty T.nm)) Hb))) (cUn (Zh T) f) :=
 Mv h λa H x d o Q s r e n=>by
  cases e
  exact⟨x,T.nm,A3r d,A5s T d,rfl,A7y s r,Bh0 r T,n.bl s⟩
noncomputable def boolsOf:List PyData->Option (List Bool)
 | []=>some []
 | .bool b::r=>(boolsOf r).map (b::·)
 | _=>none
noncomputable def intsOf:List PyData->Option (List Int)
 | []=>some []
 | .int b::r=>(intsOf r).map (b::·)
 | _=>none
theorem Wy:∀{ds:List PyData}{bs:List Bool}{vs:List V},boolsOf ds=some bs->TrL Hf ds vs->vs=bs.map V.bl
 | [],bs,vs,e,t=>by cases (show some []=some bs from e);exact t
 | .bool b::r,bs,_,e,⟨v,vr,rfl,h,t⟩=>by
  obtain⟨l,e1,rfl⟩:=Option.map_eq_some_iff.mp (show (boolsOf r).map (b::·)=some bs from e)
  cases (show v=.bl b from h)
  rw[Wy e1 t];rfl
 | .none::r,bs,_,e,_=>nomatch e
 | .int _::r,bs,_,e,_=>nomatch e
 | .str _::r,bs,_,e,_=>nomatch e
 | .list _::r,bs,_,e,_=>nomatch e
 | .tuple _::r,bs,_,e,_=>nomatch e
 | .dict _::r,bs,_,e,_=>nomatch e
theorem A4h:∀{ds:List PyData}{bs:List Int}{vs:List V},intsOf ds=some bs->TrL Hf ds vs->vs=bs.map V.int
 | [],bs,vs,e,t=>by cases (show some []=some bs from e);exact t
 | .int b::r,bs,_,e,⟨v,vr,rfl,h,t⟩=>by
  obtain⟨l,e1,rfl⟩:=Option.map_eq_some_iff.mp (show (intsOf r).map (b::·)=some bs from e)
  cases (show v=.int b from h)
  rw[A4h e1 t];rfl
 | .none::r,bs,_,e,_=>nomatch e
 | .bool _::r,bs,_,e,_=>nomatch e
 | .str _::r,bs,_,e,_=>nomatch e
 | .list _::r,bs,_,e,_=>nomatch e
 | .tuple _::r,bs,_,e,_=>nomatch e
 | .dict _::r,bs,_,e,_=>nomatch e
def A9u:PyData->Option O
 | .list ds=>(boolsOf ds).map λbs=>.im (.bool (bs.any id))
 | _=>none
def A0m:PyData->Option O
 | .list ds=>(boolsOf ds).map λbs=>.im (.bool (bs.all id))
 | _=>none
def Bc1:PyData->Option O
 | .list ds=>(intsOf ds).map λbs=>.im (.int bs.sum)
 | _=>none
theorem A5j:UnS K (λx H Q=>Lw K [x] H Q) A9u:=by
 intro Hf H x d o Q s r e n
 match d,r,e with
 | .list _,r,e =>
  obtain⟨c,f,rfl⟩:=Option.map_eq_some_iff.mp (e);obtain⟨a,vs,rfl,b,t⟩:=Gb r
  exact⟨a,c,rfl,by rw[<- Wy f t];exact SqL.of b,n.bl s⟩
theorem A8i:UnS K (λx H Q=>La K [x] H Q) A0m:=by
 intro Hf H x d o Q s r e n
 match d,r,e with
 | .list _,r,e =>
  obtain⟨c,f,rfl⟩:=Option.map_eq_some_iff.mp (show (boolsOf _).map _=some o from e)
  obtain⟨a,vs,rfl,b,t⟩:=Gb r
  exact⟨a,c,rfl,by rw[<- Wy f t];exact SqL.of b,n.bl s⟩
theorem A6r:UnS K (λx H Q=>Mp K [x] H Q) Bc1:=by
 intro Hf H x d o Q s r e n
 match d,r,e with
 | .list _,r,e =>
  obtain⟨c,f,rfl⟩:=Option.map_eq_some_iff.mp (e);obtain⟨a,vs,rfl,b,t⟩:=Gb r
  exact⟨a,c,rfl,by rw[<- A4h f t];exact SqL.of b,n.int s⟩
noncomputable def A2q:PyData->Option O
 | .int i=>some (.im (.int i))
 | .bool b=>some (.im (.int (if b then 1 else 0)))
 | _=>none
theorem A8j:UnS K (λx H Q=>K8 K [x] H Q) A2q:=by
 intro a H x d o Q s r e n
 match d,r,e with
 | .int i,r,e=>cases e;cases Ew r;exact .inl ⟨i,rfl,n.int s⟩
 | .bool b,r,e=>cases e;cases Sw r;exact .inr ⟨b,rfl,n.int s⟩
noncomputable def Al6:PyData->Option O
 | .int i=>some (.im (.int (if i<0 then -i else i)))
 | _=>none
theorem As2:UnS K (λx H Q=>Od K [x] H Q) Al6:=by
 intro a H x d o Q s r e n
 match d,r,e with
 | .int i,r,e=>cases e;cases Ew r;exact⟨i,rfl,n.int s⟩
noncomputable def J4:PyData->Option O
 | .int i=>some (.im (.int (-i)))
 | _=>none
theorem Mx:UnS K (rU λi=>.int (-i)) J4:=by
 intro a H x d o Q s r e n
 match d,r,e with
 | .int i,r,e=>cases e;cases Ew r;exact⟨i,rfl,n.int s⟩
noncomputable def Nz:PyData->Option O
 | .list ds=>some (.ls false ds)
 | .tuple ds=>some (.ls false ds)
 | _=>none
theorem Aa5:UnS K (λx H Q=>Iz K [x] H Q) Nz:=by
 intro Hf H x d o Q s r e n
 match d,r,e with
 | .list _,r,e =>
  cases e
  obtain⟨a,c,rfl,f,t⟩:=Gb r
  exact⟨a,c,rfl,.inl (SqL.of f),λl b=>n.lst s t b⟩
 | .tuple _,r,e =>
  cases e
  obtain⟨a,c,rfl,f,t⟩:=Gw s r
  exact⟨a,c,rfl,.inr (SqT.of f),λl b=>n.lst s t b⟩
noncomputable def Ak9:PyData->PyData->Option O
 | .int i,.int j=>some (.im (.int (if j<i then j else i)))
 | _,_=>none
theorem A8t {c d:TE} (ha:ME K c fa) (hb:ME K d fb):ME K (tCB (Lf K) (Ec c (Ec d Hb))) (cOp Ak9 fa fb) :=
 Ag ha hb λh H x y g f o Q s a b e n=>by
  match g,f,a,b,e with
  | .int i,.int j,a,b,e=>cases e;cases Ew a;cases Ew b;exact⟨i,j,rfl,n.int s⟩
def MO (K:PySem.W.Frag)(T:TO)(f:Ev->R (Option Int)):Prop:=∀(β:Nat->V) (W:Wo) (c:Ev) (σ:St) (Q:Option Int->Hp->Prop),Rep K β W c σ ->
 (f c).sat (λb c'=>∀W',Stp W.S W.Hf W.H W'.S W'.Hf W'.H->Rep K β W' c' σ->Q b W'.H)->T σ W.H Q
def cOS (f:Ev->R PV):Ev->R (Option Int):=λc=>(f c).bind λp c=>match Fj c (nrm p) with
 | some (.int i)=>.ok (some i) c
 | _=>.bad
theorem An6 (h:ME K t f):MO K (A9r t) (cOS f):=by
 intro g W c k Q R s
 refine h.toV _ W c _ _ R (s.bnd.mono λp l a v j b d e=>?_)
 match ex:Fj _ _,a with
 | some (.int i),a=>exact⟨i,Ew (Gp d e ex),a _ b d⟩
 | some .none,a=>exact a.elim
 | some (.bool _),a=>exact a.elim
 | some (.str _),a=>exact a.elim
 | some (.list _),a=>exact a.elim
 | some (.tuple _),a=>exact a.elim
 | some (.dict _),a=>exact a.elim
 | none,a=>exact a.elim
def SlS (K:PySem.W.Frag)(r:V->Option Int->Option Int->Hp->VK->Prop)(op:PyData->Option Int->Option Int->Option O):Prop:=∀(Hf H:Hp) (x:V) (lo hi:Option Int) (d:PyData) (o:O) (Q:VK),Same Hf H->RdV Hf H d x->op d lo hi=some o->New K Hf H o Q->r x lo hi H Q
def cSl (op:PyData->Option Int->Option Int->Option O)(f:Ev->R PV)(fl fh:Ev->R (Option Int)):Ev->R PV:=λc=>(f c).bind λp c=>(fl c).bind λlo c=>(fh c).bind λhi c=>match Fj c (nrm p) with
 | some d=>match op d lo hi with
  | some o=>.ok (.o o) c
  | none=>.bad
 | none=>.bad
theorem Bo4 (h:ME K j f) (hl:MO K l k) (u:MO K m n) (hr:SlS K r op):ME K (tSl r j l m) (cSl op f k n):=by
 intro P W c G Q R s
 refine h.toV _ W c _ _ R (s.bnd.mono λp I D v N g w x=>?_)
 refine hl _ _ _ _ _ w (D.bnd.mono λz F A J a B=>?_)
 refine u _ _ _ _ _ B (A.bnd.mono λt y b H e i=>?_)
 cases ex:Fj y (nrm p) with
 | none=>simp only[ex]at b;trivial
 | some d =>
  simp only[ex]at b
  cases eo:op d z t with
  | none=>simp only[eo]at b;trivial
  | some o =>
   simp only[eo]at b
   exact hr _ _ v _ _ d o Q i.sub (Gp i (RepA.same (a.trans e).fz x) ex) eo (New.of i λv L M C E q=>b v _ _ (g.trans (a.trans (e.trans C))) E q)
end
section
variable {K:PySem.W.Frag}{X:Cx}{Hf H:Hp}{Q:VK}{β:Nat->V}{W:Wo}{c c':Ev}{σ:St}{v:V}
def rSL (K:PySem.W.Frag):V->Option Int->Option Int->Hp->VK->Prop:=λx lo hi H Q=>(Br3 K x lo hi H Q\/(Bo8 K x lo hi H Q\/A9p K x lo hi H Q))\/Bt3 x lo hi H Q
theorem Bf2:SlR X (rSL X.K):=SlR.or (SlR.or A9i (SlR.or Bk0 A8o)) Bd0
def Ac7:PyData->Option Int->Option Int->Option O
 | .list ds,lo,hi=>some (.ls false (cutD ds lo hi))
 | .tuple ds,lo,hi=>some (.im (.tuple (cutD ds lo hi)))
 | .str z,lo,hi=>if z.length<=16000000 then some (.im (.str (Txt.slice z lo hi))) else none
 | _,_,_=>none
theorem A5m:SlS K (rSL K) Ac7:=by
 intro Hf H x f c d o Q s r e n
 match d,r,e with
 | .list ds,r,e =>
  cases e
  obtain⟨a,b,rfl,g,t⟩:=Gb r
  exact .inl (.inl ⟨a,b,rfl,SqL.of g,λp h=>n.lst s (TrL.cut t) h⟩)
 | .str z,r,e =>
  by_cases hz:z.length<=16000000
  ·rw[show Ac7 (.str z) f c=some (.im (.str (Txt.slice z f c))) by simp only[Ac7];rw[if_pos hz]]at e
   cases e
   exact .inr ⟨z,r,Nat.le_trans hz (by decide),n.same s rfl⟩
  ·rw[show Ac7 (.str z) f c=none by simp only[Ac7];rw[if_neg hz]]at e;cases e
 | .tuple ds,r,e =>
  cases e
  obtain⟨a,b,rfl,g,t⟩:=Gw s r
  by_cases w:HT.sIx b.length 0 f=0/\HT.sIx b.length b.length c=b.length
  ·refine .inl (.inr (.inr ⟨a,b,rfl,SqT.of g,w,?_⟩))
   have e:cutD ds f c=ds:=by
    unfold cutD;rw[t.length,w.1,w.2,List.drop_zero,Nat.sub_zero,<- t.length,List.take_length]
   rw[e]at n;exact n.same s r
  ·exact .inl (.inr (.inl ⟨a,b,rfl,SqT.of g,w,λp h=>n.tup s (TrL.cut t) h⟩))
def Bg (f:Ev->R PV):Ev->R Bool:=λc=>(f c).bind λp c=>match Fj c (nrm p) with
 | some (.bool b)=>.ok b c
 | _=>.bad
theorem Bf (h:ME K t f):MT K (K9 t) (Bg f):=by
 intro g W c k Q R s
 refine h.toV _ W c _ _ R (s.bnd.mono λp l a v j b d e=>?_)
 match ex:Fj _ _,a with
 | some (.bool i),a=>exact⟨i,Sw (Gp d e ex),a _ b d⟩
 | some .none,a=>exact a.elim
 | some (.int _),a=>exact a.elim
 | some (.str _),a=>exact a.elim
 | some (.list _),a=>exact a.elim
 | some (.tuple _),a=>exact a.elim
 | some (.dict _),a=>exact a.elim
 | none,a=>exact a.elim
theorem Av6 (h:ME K t f):MT K (tB t) (Bg f):=Bf h
noncomputable def By:Ev->R Bool:=λc=>.ok true c
theorem Gd:MT K A9a By:=λb W c a Q R s=>s W Stp.refl R
def A6v (f g:Ev->R Bool):Ev->R Bool:=λc=>(f c).bind λb c=>if b=true then g c else .ok false c
def cOr (f g:Ev->R Bool):Ev->R Bool:=λc=>(f c).bind λb c=>if b=true then .ok true c else g c
def A7g (f:Ev->R Bool):Ev->R Bool:=λc=>(f c).bind λb c=>.ok (!b) c
theorem Bg8 (h1:MT K t f) (h2:MT K u g):MT K (Bt5 t u) (A6v f g):=λn W c p Q R s =>
 h1 _ W c _ _ R (s.bnd.mono λb l h k a e=>by
  cases b with
  | true=>exact h2 _ _ _ _ _ e (h.mono λb m j o d i=>j _ (a.trans d) i)
  | false=>exact h _ a e)
theorem A3k (h1:MT K t f) (h2:MT K u g):MT K (tOr t u) (cOr f g):=λn W c p Q R s =>
 h1 _ W c _ _ R (s.bnd.mono λb l h k a e=>by
  cases b with
  | false=>exact h2 _ _ _ _ _ e (h.mono λb m j o d i=>j _ (a.trans d) i)
  | true=>exact h _ a e)
theorem A0d (h1:MT K t f):MT K (Bt2 t) (A7g f):=λh W c g Q R s =>
 h1 _ W c _ _ R (s.bnd.mono λb j e i a d=>e _ a d)
def Af3 (ft:Ev->R Bool)(f g:Ev->R PV):Ev->R PV:=λc=>(ft c).bind λb c=>if b=true then f c else g c
theorem Zc {r:U.R PV}{b:Wo}(s:r.sat λp c'=>∀v a d,Stp b.S b.Hf b.H (orS a.S d) a.Hf a.H->Rep K β a c' σ->Gg K a σ p v d->Q v a.H)(st:Stp b.S b.Hf b.H W.S W.Hf W.H) :
 r.sat λp c'=>∀v a d,Stp W.S W.Hf W.H (orS a.S d) a.Hf a.H->Rep K β a c' σ->Gg K a σ p v d->Q v a.H:=s.mono λp c k v a d e R r=>k v _ _ (st.trans e) R r
theorem Xf (ht:MT K i ft) (h1:ME K e f) (h2:ME K h g):ME K (tIf i e h) (Af3 ft f g):=by
 intro l W c k Q R s
 refine ht _ W c _ _ R (s.bnd.mono λb n j m a d=>?_)
 cases b with
 | true=>exact h1 _ _ _ _ _ d (Zc j a)
 | false=>exact h2 _ _ _ _ _ d (Zc j a)
def Bj (f:Ev->R PV):Ev->R (List PyData):=λc=>(f c).bind λp c=>(frz (nrm p) c).bind λd c=>match d with
 | .list ds=>.ok ds c
 | .tuple ds=>.ok ds c
 | _=>.bad
theorem A6u (ha:Hf a=some (.lst vs)) (t:TrL Hf ds vs):Ay7 (Itl K a) Hf ds:=by
 intro i c H f g;have b:=g _ _ (f _ _ ha)
 refine⟨λe=>⟨vs,SqL.of b,by rw[<- t.length];omega⟩,λd j=>?_⟩
 obtain⟨v,h,k⟩:=t.got j
 refine⟨⟨vs,v,SqL.of b,h⟩,λx l ⟨e,q⟩=>?_⟩
 subst e;have:=q _ (SqL.of b);rw[h]at this
 cases this
 exact⟨c,Stp.refl,g,Tr.same f k⟩
theorem Bf4 (ha:Hf a=some (.tup vs)) (t:TrL Hf ds vs):Ay7 (Itt K a) Hf ds:=by
 intro i c H f g;have b:=g _ _ (f _ _ ha)
 refine⟨λe=>⟨vs,SqT.of b,by rw[<- t.length];omega⟩,λd j=>?_⟩
 obtain⟨v,h,k⟩:=t.got j
 refine⟨⟨vs,v,SqT.of b,h⟩,λx l ⟨e,q⟩=>?_⟩
 subst e;have:=q _ (SqT.of b);rw[h]at this
 cases this
 exact⟨c,Stp.refl,g,Tr.same f k⟩
theorem Eg (h:ME K t f):MI K (Bk9 K t) (Bj f):=by
 intro w W c B k R s
 refine h.toV _ W c _ _ R (s.bnd.mono λp A r v x l u q=>?_)
 obtain⟨d,y,z,_,b,o,i,m,e⟩:=Hh u q r.bnd;rw[<- o]
 match d,e,b with
 | .list _,e,b =>
  obtain⟨a,n,g,j,t⟩:=e;exact⟨a,g,.inl ⟨n,m.sub _ _ j,b _ _ (l.trans i) m (A6u j t)⟩⟩
 | .tuple _,e,b =>
  obtain⟨a,n,g,j,t⟩:=e;exact⟨a,g,.inr ⟨n,m.sub _ _ j,b _ _ (l.trans i) m (Bf4 j t)⟩⟩
 | .none,e,b=>exact b.elim
 | .bool _,e,b=>exact b.elim
 | .int _,e,b=>exact b.elim
 | .str _,e,b=>exact b.elim
 | .dict _,e,b=>trivial
noncomputable def Kv (lo:Int) (n:Nat):List PyData:=(List.range n).map λk=>.int (lo+(k:Nat))
theorem Be2 : Ay7 (Itr lo n) Hf (Kv lo n):=by
 intro i b H g f
 have l:(Kv lo n).length=n:=by unfold Kv;simp_all
 refine⟨λe=>by show n<=i;omega,λd a=>?_⟩
 have c:i<n:=by
  grind
 refine⟨c,λx h ⟨e,q⟩=>?_⟩
 subst e;unfold Kv at a;rw[List.getElem?_map,List.getElem?_range c]at a
 cases a
 exact⟨b,Stp.refl,f,q⟩
def Nr (f:Ev->R PV):Ev->R (List PyData):=λc=>(f c).bind λp c=>match Fj c (nrm p) with
 | some (.int j)=>if j<=16000000/\-16000000<=j then .ok (Kv 0 j.toNat) c else .bad
 | _=>.bad
theorem Mz (h:ME K t f):MI K (Ba7 (Ec t Hb)) (Nr f):=by
 intro g W c m k R s
 refine h.toV _ W c _ _ R (s.bnd.mono λp n a v i b d e=>?_)
 match ex:Fj _ _,a with
 | some (.int j),a =>
  cases Ew (Gp d e ex)
  by_cases l:j<=16000000/\-16000000<=j
  ·have a:(if j<=16000000/\-16000000<=j then U.R.ok _ _ else .bad).sat _:=a
   rw[if_pos l]at a
   exact⟨j,rfl,by omega,by omega,a _ _ b d Be2⟩
  ·have a:(if j<=16000000/\-16000000<=j then U.R.ok _ _ else .bad).sat _:=a
   rw[if_neg l]at a;trivial
 | some .none,a=>exact a.elim
 | some (.bool _),a=>exact a.elim
 | some (.str _),a=>exact a.elim
 | some (.list _),a=>exact a.elim
 | some (.tuple _),a=>exact a.elim
 | some (.dict _),a=>exact a.elim
 | none,a=>exact a.elim
noncomputable def Yr (d:Option PyData):Option Int:=match d with
 | some (.int i)=>some i
 | _=>none
theorem Xe (h:Yr d=some i):d=some (.int i):=by
 unfold Yr at h
 grind
noncomputable def Hi:PyData->Option (List PyData)
 | .list ds=>some ds
 | .tuple ds=>some ds
 | _=>none
theorem Ae8 (h:Hi d=some ds) (t:Tr Hf d v):∃b a c,v=.ref a/\SqK b Hf a c/\TrL Hf ds c:=by
 cases d with
 | list l=>cases h;obtain⟨a,c,e,f,t⟩:=t;exact⟨false,a,c,e,f,t⟩
 | tuple l=>cases h;obtain⟨a,c,e,f,t⟩:=t;exact⟨true,a,c,e,f,t⟩
 | none=>cases h
 | bool _=>cases h
 | int _=>cases h
 | str _=>cases h
 | dict _=>cases h
theorem Jd {c:Hp}(S:Same Hf c) (h:SqK b Hf a vs):SqK b c a vs:=by
 cases b
 ·exact S _ _ h
 ·exact S _ _ h
noncomputable def Ay1 (xs ys:List PyData):List PyData:=(xs.zip ys).map λp=>.tuple [p.1,p.2]
theorem Bg3 (ha:SqK t1 Hf a vs) (hb:SqK t2 Hf b us) (t:TrL Hf xs vs) (u:TrL Hf ys us):Ay7 (Itz t1 t2 a b) Hf (Ay1 xs ys):=by
 intro i B H j f;have m:=Jd (j.trans f) ha;have k:=Jd (j.trans f) hb
 have l:(Ay1 xs ys).length=min xs.length ys.length:=by unfold Ay1;simp_all
 refine⟨λe=>⟨vs,us,m,k,by rw[<- t.length,<- u.length,e];omega⟩,λd x=>?_⟩
 obtain⟨p,n,e⟩:=Gy x;rw[List.getElem?_zip_eq_some]at n;obtain⟨h,r,v⟩:=t.got n.1;obtain⟨c,s,w⟩:=u.got n.2
 refine⟨⟨vs,us,h,c,m,k,r,s⟩,λz H' y=>?_⟩
 obtain⟨p,x',y',rfl,g,rfl,A,C⟩:=y;have:=A _ m;rw[r]at this;cases this;have:=C _ k;rw[s]at this;cases this;subst e;have q:=Cq (o:=.tup [h,c]) (Same.free f g);exact⟨upd _ p _,Stp.newF f g,Qa f,p,[h,c],rfl,Bw,h,[c],rfl,Tr.same q (Tr.same j v),c,[],rfl,Tr.same q (Tr.same j w),rfl⟩
def A9c (f g:Ev->R PV):Ev->R (List PyData):=λc=>(f c).bind λp c=>(g c).bind λq c=>(frz (nrm p) c).bind λx c=>(frz (nrm q) c).bind λy c=>match Hi x,Hi y with
 | some xs,some ys=>.ok (Ay1 xs ys) c
 | _,_=>.bad
theorem Bf3 (h:ME K t f) (h':ME K u g):MI K (Bn4 (Ec t (Ec u Hb))) (A9c f g):=by
 intro β W c σ k R s
 refine h.toV _ W c _ _ R (s.bnd.mono λp c1 G v1 W1 l P v=>?_)
 refine h'.toV _ _ _ _ _ P (G.bnd.mono λq c2 w v2 W2 i A B=>?_)
 obtain⟨x,c3,W3,_,C,D,e,E,F⟩:=Hh A (RepA.same i.fz v) w.bnd;obtain⟨y,c4,W4,_,j,r,d,m,I⟩:=Hh E (RepA.same e.fz B) C.bnd
 cases ex:Hi x with
 | none=>simp only[ex]at j;trivial
 | some xs =>
  cases ey:Hi y with
  | none=>simp only[ex,ey]at j;trivial
  | some ys =>
   simp only[ex,ey]at j;obtain⟨J,a,L,rfl,H,N⟩:=Ae8 ex F;obtain⟨M,b,O,rfl,n,o⟩:=Ae8 ey I;rw[<- D,<- r];have z:=Jd d.fz H;exact⟨a,b,rfl,J,M,L,O,Jd m.sub z,Jd m.sub n,j _ _ (l.trans (i.trans (e.trans d))) m (Bg3 z n (TrL.same d.fz N) o)⟩
noncomputable def Ot (xs:List PyData):List PyData:=(List.range xs.length).map λk=>.tuple [.int (k:Nat),xs.getD k .none]
theorem A7t (ha:SqK t Hf a vs) (u:TrL Hf xs vs):Ay7 (Ite t a) Hf (Ot xs):=by
 intro i v H j f;have h:=Jd (j.trans f) ha
 have l:(Ot xs).length=xs.length:=by unfold Ot;simp_all
 refine⟨λe=>⟨vs,h,by rw[<- u.length];omega⟩,λd g=>?_⟩
 have n:i<xs.length:=by
  grind
 unfold Ot at g;rw[List.getElem?_map,List.getElem?_range n]at g
 cases g
 have q:xs[i]?=some (xs.getD i .none):=by grind
 obtain⟨b,k,r⟩:=u.got q
 refine⟨⟨vs,b,h,k⟩,λz H' s=>?_⟩
 obtain⟨p,x',rfl,c,rfl,m⟩:=s;have:=m _ h;rw[k]at this;cases this;exact⟨upd _ p _,Stp.newF f c,Qa f,p,[.int i,b],rfl,Bw,.int i,[b],rfl,rfl,b,[],rfl,Tr.same (Cq (o:=.tup [.int i,b]) (Same.free f c)) (Tr.same j r),rfl⟩
def Ul (f:Ev->R PV):Ev->R (List PyData):=λc=>(f c).bind λp c=>(frz (nrm p) c).bind λx c=>match Hi x with
 | some xs=>.ok (Ot xs) c
 | _=>.bad
theorem Aq9 (h:ME K t f):MI K (A9q (Ec t Hb)) (Ul f):=by
 intro β W c σ k R s
 refine h.toV _ W c _ _ R (s.bnd.mono λp c1 u v1 W1 e n q=>?_)
 obtain⟨x,c3,W3,_,b,l,d,g,o⟩:=Hh n q u.bnd
 cases ex:Hi x with
 | none=>simp only[ex]at b;trivial
 | some xs =>
  simp only[ex]at b;obtain⟨m,a,r,rfl,i,j⟩:=Ae8 ex o;rw[<- l];exact⟨a,rfl,m,r,Jd g.sub i,b _ _ (e.trans d) g (A7t i j)⟩
end
section
variable {K:PySem.W.Frag}{X:Cx}{Hf H:Hp}{Q:VK}{β:Nat->V}{W W':Wo}{c:Ev}{σ:St}{v:V}{p:PV}{fp:List Addr}{i:Nat}{b:Bool}{ds:List PyData}
theorem Bl5 (R:Rep K β W c σ)(r:Gg K W σ p v fp):∃W',W'.H=W.H/\Stp (orS W.S fp) W.Hf W.H W'.S W'.Hf W'.H/\Rep K β W' c σ/\RepA K W'.Hf σ (nrm p) v:=by
 have f:Stp (orS W.S fp) W.Hf W.H _ _ _:=Stp.refl.up λa z=>.inl z
 cases p with
 | sl i=>exact⟨W,rfl,f,R,r.2⟩
 | o o =>
  cases o with
  | im d=>exact⟨W,rfl,f,R,r.1.2⟩
  | sc d=>exact⟨W,rfl,f,R,r.1.2⟩
  | ty d=>exact⟨W,rfl,f,R,r.1.2⟩
  | ls b ds =>
   obtain⟨⟨a,h,rfl,rfl,g,j,t⟩,l⟩:=r
   refine⟨⟨upd _ a _,W.H,W.fps⟩,rfl,⟨Cq g,λb o e _=>e,λb o e mu n q=>?_,λb z=>.inl (.inl z)⟩,X3 R g j (l a (.head _)),a,h,rfl,Bw,TrL.same (Cq g) t⟩
   have k:b≠a:=λz=>n (.inr (by grind))
   show upd _ a _ b=none
   rw[Ar k];grind
theorem Rep.mut (R:Rep K β W c σ)(hc:c[i]?=some (some (.ls b ds)))(hv:σ[i]?=some (some v)):∃a h,v=.ref a/\W.H a=some (.lst h)/\TrL W.Hf ds h /\
 ∀f d,TrL W.Hf f d->Rep K β ⟨W.Hf,upd W.H a (.lst d),W.fps⟩ (c.set i (some (.ls b f))) σ/\Stp W.S W.Hf W.H W.S W.Hf (upd W.H a (.lst d)):=by
 obtain⟨m,p,⟨a,h,rfl,w,A,H,t⟩,B⟩:=R.get i _ hc
 cases (show some _=some _ from p.symm.trans hv)
 have D:i<c.length:=by
  grind
 have s:a∈W.fps i:=by rw[w];exact .head _
 refine⟨a,h,rfl,H,t,λf d F=>⟨⟨λb u e=>?_,by rw[List.length_set];exact R.len,λj o e=>?_,R.dis,λj x g=>?_⟩,⟨Same.refl _,λx o e n=>?_,λx o e r n q=>q,λx z=>.inl z⟩⟩⟩
 ·have E:b≠a:=λz=>by rw[z,A]at e;cases e
  show upd _ a _ b=_
  rw[Ar E];exact R.sub b u e
 ·by_cases z:j=i
  ·subst z
   rw[List.getElem?_set_self D]at e
   cases e
   exact⟨.ref a,p,⟨a,d,rfl,w,A,Bw,F⟩,B⟩
  ·rw[List.getElem?_set_ne λy=>z y.symm]at e
   obtain⟨m,k,G,l⟩:=R.get j o e
   refine⟨m,k,G.mono (Same.refl _) λx g=>⟨(R.own j x g).1,?_⟩,l⟩
   show upd _ a _ x=_
   rw[Ar];intro q;rw[q]at g;exact z (R.dis j i a g s)
 ·obtain⟨I,o,C,r⟩:=R.own j x g
  refine⟨I,?_⟩
  by_cases z:x=a
  ·exact⟨.lst _,by rw[z];exact Bw,trivial⟩
  ·exact⟨o,by show upd _ a _ x=_;rw[Ar z];exact C,r⟩
 ·rw[Ar]
  ·exact e
  ·intro z;exact n ⟨i,by rw[z];exact s⟩
noncomputable def slL (c:Ev) (p:PV):Option (Nat×Bool×List PyData):=match p with
 | .sl i=>match c[i]? with
  | some (some (.ls b ds))=>some (i,b,ds)
  | _=>none
 | _=>none
theorem W9 (h:slL c p=some x):p=.sl x.1/\c[x.1]?=some (some (.ls x.2.1 x.2.2)):=by
 unfold slL at h
 grind
def Ab5 (fo fe:Ev->R PV):Ev->R PV:=λc=>(fo c).bind λp c=>if (slL c (nrm p)).isSome=true then (fe c).bind λq c=>(frz (nrm q) c).bind λd c=>match slL c (nrm p) with
 | some (i,b,ds)=>if ds.length<16000000 then .ok (.o (.im .none)) (c.set i (some (.ls b (ds++[d])))) else .bad
 | none=>.bad
 else .bad
theorem A3z {b:Wo}(R:Rep K β W c σ)(st:Stp b.S b.Hf b.H W.S W.Hf W.H)(s:∀v a d,Stp b.S b.Hf b.H (orS a.S d) a.Hf a.H->Rep K β a c σ->Gg K a σ (.o (.im .none)) v d->Q v a.H):Q .non W.H :=
 R.here (o:=.im .none) rfl rfl λv a d e f r=>s v _ _ (st.trans e) f r
theorem ty_list (R:Rep K β W c σ)(h:(slL c p).isSome=true)(r:RepA K W.Hf σ p v):tyV K "list" v W.H:=by
 obtain⟨x,d⟩:=Option.isSome_iff_exists.mp h;obtain⟨rfl,e⟩:=W9 d;obtain⟨a,f,rfl,b,_⟩:=R.mut e r;exact .inl ⟨rfl,f,SqL.of b⟩
theorem Ae6 {v fe:Ev->R PV}(ho:ME K u v) (he:ME K o fe):ME K (tBM K "list" rAppF u (Ec o Hb)) (Ab5 v fe):=by
 intro β W c σ Q R s
 refine ho.toV _ W c _ _ R (s.bnd.mono λp y f v1 W1 h r j=>?_)
 by_cases hs:(slL y (nrm p)).isSome=true
 ·rw[if_pos hs]at f
  refine⟨ty_list r hs j,he.toV _ _ _ _ _ r (f.bnd.mono λq c2 D H W2 m z w=>?_)⟩
  obtain⟨d,A,W3,_,e,C,n,E,F⟩:=Hh z w D.bnd
  cases ex:slL A (nrm p) with
  | none=>simp only[ex]at e;exact e.elim
  | some x =>
   simp only[ex]at e;obtain⟨i,b,G⟩:=x;obtain⟨B,I⟩:=W9 ex;rw[B]at j;obtain⟨a,J,rfl,L,t,k⟩:=E.mut I j
   by_cases l:G.length<16000000
   ·rw[if_pos l]at e
    obtain⟨M,g⟩:=k _ _ (t.app (TrL.one F));rw[<- C]
    refine⟨a,H,J,rfl,rfl,L,by rw[<- t.length];exact Nat.lt_trans l (by decide),?_⟩
    exact A3z M (h.trans (m.trans (n.trans g))) e
   ·rw[if_neg l]at e;exact e.elim
 ·rw[if_neg hs]at f;exact f.elim
def U7 (fo fe:Ev->R PV):Ev->R PV:=λc=>(fo c).bind λp c=>if (slL c (nrm p)).isSome=true then (fe c).bind λq c=>match slL c (nrm p),Yr (Fj c (nrm q)) with
 | some (i,b,ds),some k=>if ds.length<=16000000 then match ixN ds.length k with
  | some j=>match ds[j]? with
   | some d=>.ok (.o (.im d)) (c.set i (some (.ls b (ds.eraseIdx j))))
   | none=>.bad
  | none=>.bad
  else .bad
 | _,_=>.bad
 else .bad
theorem TrL.erase:∀{ds:List PyData}{vs:List V}(n:Nat),TrL Hf ds vs->TrL Hf (ds.eraseIdx n) (vs.eraseIdx n)
 | [],_,n,h=>by cases (show _=[] from h);exact rfl
 | d::ds,_,0,⟨v,r,rfl,_,t⟩=>t
 | d::ds,_,n+1,⟨v,r,rfl,q,t⟩=>⟨v,r.eraseIdx n,rfl,q,TrL.erase n t⟩
theorem TrL.setAt:∀{ds:List PyData}{vs:List V}(n:Nat) {d:PyData}{v:V},TrL Hf ds vs->Tr Hf d v->TrL Hf (ds.set n d) (vs.set n v)
 | [],_,n,d,v,h,_=>by cases (show _=[] from h);exact rfl
 | e::ds,_,0,d,v,⟨u,r,rfl,_,t⟩,q=>⟨v,r,rfl,q,t⟩
 | e::ds,_,n+1,d,v,⟨u,r,rfl,h,t⟩,q=>⟨u,r.set n v,rfl,h,TrL.setAt n t q⟩
theorem A1a (ho:ME K z G) (he:ME K F fe):ME K (tBM K "list" rPopAt z (Ec F Hb)) (U7 G fe):=by
 intro B W c H Q R s
 refine ho.toV B W c H _ R (s.bnd.mono λp O g v1 W1 n A w=>?_)
 by_cases hs:(slL O (nrm p)).isSome=true
 ·rw[if_pos hs]at g
  refine⟨ty_list A hs w,he.toV B _ _ _ _ A (g.bnd.mono λq D e v2 W2 h E I=>?_)⟩
  cases ex:slL D (nrm p) with
  | none=>simp only[ex]at e;exact e.elim
  | some x =>
   obtain⟨i,b,l⟩:=x
   cases ey:Yr (Fj D (nrm q)) with
   | none=>simp only[ex,ey]at e;exact e.elim
   | some k =>
    simp only[ex,ey]at e
    by_cases hl:l.length<=16000000
    case neg=>rw[if_neg hl]at e;exact e.elim
    rw[if_pos hl]at e
    cases ej:ixN l.length k with
    | none=>simp only[ej]at e;exact e.elim
    | some j =>
     simp only[ej]at e
     cases ed:l[j]? with
     | none=>simp only[ed]at e;exact e.elim
     | some d =>
      simp only[ed]at e;obtain⟨L,N⟩:=W9 ex;rw[L]at w
      cases Ew (Gp E I (Xe ey))
      obtain⟨a,C,rfl,P,t,S⟩:=E.mut N w;obtain⟨y,M,U⟩:=t.got ed;obtain⟨T,q2,q3,q4⟩:=Xk ej;obtain⟨V,m⟩:=S _ _ (TrL.erase j t)
      have u:seqIndex? k C.length=some j:=by rw[<- t.length];exact T
      have f:-2 ^ 63<=k/\k<2 ^ 63:=by omega
      refine⟨a,C,k,j,y,rfl,rfl,P,f.1,f.2,u,M,?_⟩
      exact V.here (o:=.im d) U rfl λv W' fp X J r=>e v _ _ (n.trans (h.trans (m.trans X))) J r
 ·rw[if_neg hs]at g;exact g.elim
def Ao1 (fo fi:Ev->R PV):PV->Ev->R Unit:=λp c=>(frz (nrm p) c).bind λd c=>(fo c).bind λo c=>(fi c).bind λq c=>match slL c (nrm o),Yr (Fj c (nrm q)) with
 | some (i,b,ds),some k=>match ixN ds.length k with
  | some j=>.ok () (c.set i (some (.ls b (ds.set j d))))
  | none=>.bad
 | _,_=>.bad
theorem A2v (ho:ME K u A) (hi:ME K z fi):MG K (Bq8 u z A9y) (Ao1 A fi):=by
 intro β W c σ p v fp k R r s;obtain⟨W0,M,l,C,F⟩:=Bl5 R r;obtain⟨d,c1,W1,_,D,E,n,G,I⟩:=Hh C F s.bnd;rw[<- M,<- E]
 refine ho.toV _ _ _ _ _ G (D.bnd.mono λo c2 J v2 W2 g L w=>?_)
 refine hi.toV _ _ _ _ _ L (J.bnd.mono λq y e v3 W3 f B N=>?_)
 cases ex:slL y (nrm o) with
 | none=>simp only[ex]at e;exact e.elim
 | some x =>
  obtain⟨i,b,O⟩:=x
  cases ey:Yr (Fj y (nrm q)) with
  | none=>simp only[ex,ey]at e;exact e.elim
  | some m =>
   simp only[ex,ey]at e
   cases ej:ixN O.length m with
   | none=>simp only[ej]at e;exact e.elim
   | some j =>
    simp only[ej]at e;obtain⟨H,Q⟩:=W9 ex;rw[H]at w
    cases Ew (Gp B N (Xe ey))
    obtain⟨a,S,rfl,P,t,T⟩:=B.mut Q w;obtain⟨U,h⟩:=T _ _ (TrL.setAt j t (Tr.same (g.trans f).fz I))
    refine⟨a,S,m,j,rfl,rfl,P,by rw[<- t.length];exact ej,?_⟩
    exact e _ _ (l.trans (n.trans (g.trans (f.trans h)))) U
end
end U
set_option autoImplicit true
namespace L2
open PySem U
theorem Dp (ha:QE X a ta)(hb:QE X b tb):QE X (.BinOp a .Add b pos) (tOp Be8 ta tb):=⟨Tf Bf8 ha.get hb.get⟩
theorem A4s (hu:X.A.units+64<cLine)(ha:QE X a ta)(hb:QE X b tb):QE X (.Compare a [.Eq] [b] pos) (tOp rEQ ta tb):=⟨S7 (Ba2 hu) ha.get hb.get (Js _)⟩
theorem Hu (hu:X.A.units+64<cLine)(ha:QE X a ta)(hb:QE X b tb):QT X (.Compare a [.Eq] [b] pos) (K9 (tOp rEQ ta tb)):=⟨Ig (Ba2 hu) ha.get hb.get (Js _)⟩
theorem Bu0 (hu:X.A.units+64<cLine)(ha:QE X a ta)(hb:QE X b tb):QE X (.Compare a [.NotEq] [b] pos) (tOp rNE ta tb):=⟨S7 (Bb9 hu) ha.get hb.get (Js _)⟩
theorem J3 (hu:X.A.units+64<cLine)(ha:QE X a ta)(hb:QE X b tb):QT X (.Compare a [.NotEq] [b] pos) (K9 (tOp rNE ta tb)):=⟨Ig (Bb9 hu) ha.get hb.get (Js _)⟩
theorem Bb1 (hu:X.A.units+64<cLine)(ha:QE X a ta)(hb:QE X b tb)(hm:behindInMarks .In b=false):QT X (.Compare a [.In] [b] pos) (K9 (tOp rIN ta tb)):=⟨Ig (Bq9 hu) ha.get hb.get hm⟩
theorem Gs (a:X.K=Kq) (hgl:Gl X "len") (hm:X.mg "len" = none) (ha:QA X (e::es) t) (hns:noStar (e::es)=true:=by rfl):QE X (.Call (.Name "len" p) (e::es) [] pos) (tCB (A6h Kq) t):=by
 subst a
 exact⟨Ga A1g hgl hm A5h ha.get (by decide) (by rfl) hns⟩
theorem Bp8 (a:X.K=Kq) (he:QE X e te) (hl:QO X low tl) (hu:QO X hi th):QE X (.Subscript e (.Slice low hi none p2) pos) (tSl (rSL Kq) te tl th):=by
 subst a;exact A2k Bf2 he hl hu
end L2
namespace U
open PySem L2
def Def (P:Program)(w:World)(K:PySem.W.Frag)(mg:Str->Option Value)(base:Heap)(x:Str)(k:Nat)(ps:List Str)(sp:Sp):Prop :=
 ∃(f:Addr) (fd:FuncData),FnOk P w K mg base CX0 k f fd ps sp/\Binds K fd ps []/\PySem.W.keepIn K (.ref f)=true/\mg x=some (.ref f)
def Ao0 (K:PySem.W.Frag):Sp:=λvs H Q _=>∃(a:Addr) (ns:List Int),vs=[.ref a]/\SqL K H a (ns.map V.int)/\ns.length<=63/\∀H',Q (.bl true) H'
theorem Bi6 (f:∀b:List Int,b.length<=63->F [.sc b]=.ret (.im (.bool true)) [.sc b]) (h:Ao0 K vs H Q E):spP K F vs H Q E:=by
 obtain⟨a,b,rfl,c,d,q⟩:=h
 refine⟨λ_=>.non,⟨H,H,λ_=>[]⟩,[.sc b],rfl,rfl,⟨Same.refl _,rfl,λi o e=>?_,λi j a h=>by grind,λi a h=>by grind⟩,?_⟩
 ·cases i with
  | zero =>
   cases (show some _=some _ from e)
   exact⟨.ref a,rfl,⟨rfl,a,rfl,c⟩,λz=>nomatch z⟩
  | succ i=>grind
 ·rw[f _ d]
  intro v W' fp st R r n
  cases (show v=.bl _ from r.2)
  grind
theorem Bj7 : FnOk P w K mg base CX0 n f c ps (spP K λ_=>.bad) :=
 ⟨λd H Q E h=>by obtain⟨_,_,_,_,_,_,h⟩:=h;simp_all,λA a s H b e d Q E _ _ _ _ h=>by obtain⟨_,_,_,_,_,_,h⟩:=h;simp_all⟩
noncomputable def Ar1 (i j:Int):Bool:=decide (0<j)&&decide (j<1073741824)
theorem A4i (i j:Int)(h:Ar1 i j=true):A7k i j:=by
 obtain⟨b,a⟩:=Bool.and_eq_true_iff.mp h;exact⟨of_decide_eq_true b,of_decide_eq_true a⟩
noncomputable def A4a (i j:Int):Bool:=decide (0<j)
theorem A2w (i j:Int)(h:A4a i j=true):0<j:=of_decide_eq_true h
noncomputable def Ac6 (i j:Int):Bool:=decide (0<=j)&&(decide (j<=1000000)&&decide (i.natAbs<2 ^ 64))
theorem A1f (i j:Int)(h:Ac6 i j=true):A9h i j:=by
 obtain⟨c,a⟩:=Bool.and_eq_true_iff.mp h;obtain⟨a,b⟩:=Bool.and_eq_true_iff.mp a;exact⟨of_decide_eq_true c,of_decide_eq_true a,of_decide_eq_true b⟩
section
variable {K:PySem.W.Frag}
abbrev Ox:PyData->PyData->Option O:=Vy λi j=>.int (i-j)
abbrev A0u:PyData->PyData->Option O:=Vy λi j=>.bool (decide (j<i))
abbrev Bg2:PyData->PyData->Option O:=Vy λi j=>.bool (decide (j<=i))
theorem M9:OpS K (rI0 λi j=>.int (i-j)) Ox:=Yj λ_ _ _=>rfl
theorem Ag6:OpS K (rI0 λi j=>.bl (decide (j<i))) A0u:=Yj λ_ _ _=>rfl
theorem Bm2:OpS K (rI0 λi j=>.bl (decide (j<=i))) Bg2:=Yj λ_ _ _=>rfl
abbrev Xw:PyData->PyData->Option O:=opI Ar1 λi j=>i / j
abbrev Om:PyData->PyData->Option O:=opI A4a λi j=>i % j
abbrev Zw:PyData->PyData->Option O:=opI Ac6 λi j=>i ^ j.toNat
theorem Ad1:OpS K (rI A7k λi j=>.int (i / j)) Xw:=As0 A4i
theorem Kl:OpS K (rI (λ_ j=>0<j) λi j=>.int (i % j)) Om:=As0 A2w
theorem Yy:OpS K (rI A9h λi j=>.int (i ^ j.toNat)) Zw:=As0 A1f
def Bk8 (fa fb:Ev->R PV):Ev->R PV:=λc=>(fa c).bind λp c=>(fb c).bind λq c=>match nrm p,Yr (Fj c (nrm q)) with
 | .o (.sc ns),some k=>match atI ns k with
  | some i=>.ok (.o (.im (.int i))) c
  | none=>.bad
 | _,_=>.bad
theorem A9j (h:atI ns k=some i):atI (ns.map V.int) k=some (V.int i):=by
 unfold atI at h ⊢;obtain⟨j,b,a⟩:=Option.bind_eq_some_iff.mp h
 simp_all
theorem Bj8 (ha:ME K h fa) (hb:ME K j fb):ME K (tOp (rIx K) h j) (Bk8 fa fb):=by
 intro β W c σ Q R s
 refine ha.toV _ W c _ _ R (s.bnd.mono λp c1 u v1 W1 f n d=>?_)
 refine hb.toV _ _ _ _ _ n (u.bnd.mono λq t b v2 W2 e g m=>?_)
 have d:=RepA.same e.fz d
 cases ey:Yr (Fj t (nrm q)) with
 | none =>
  simp only[ey]at b;generalize nrm p=np at b
  cases np with
  | sl i=>trivial
  | o o=>cases o <;> exact b.elim
 | some k =>
  simp only[ey]at b;generalize nrm p=np at b d
  match np,d,b with
  | .o (.sc ns),d,b =>
   have b:(match atI ns k with
    | some i=>U.R.ok _ _
    | none=>.bad).sat _:=b
   cases ei:atI _ k with
   | none=>rw[ei]at b;trivial
   | some i =>
    rw[ei]at b;obtain⟨a,rfl,w⟩:=d
    cases Ew (Gp g m (Xe ey))
    exact .inl ⟨a,_,k,.int i,rfl,rfl,Same.seq g.sub w,A9j ei,g.here (o:=.im (.int i)) rfl rfl λv W' fp x l r=>b v _ _ (f.trans (e.trans x)) l r⟩
  | .o (.im _),d,b=>exact b.elim
  | .o (.ls _ _),d,b=>exact b.elim
  | .o (.ty _),d,b=>exact b.elim
  | .sl _,d,b=>trivial
end
section
variable {w:World}{K:PySem.W.Frag}{Hf H:Hp}{Q:VK}{W:Wo}{c:Ev}{v:V}
def cMt (isT:PyData->Bool)(op:PyData->PyData->Option O)(fa fb:Ev->R PV):Ev->R PV:=λc=>(fa c).bind λp c=>match Fj c (nrm p) with
 | some d=>if isT d=true then (fb c).bind λq c=>match Fj c (nrm p),Fj c (nrm q) with
  | some x,some y=>match op x y with
   | some o=>.ok (.o o) c
   | none=>.bad
  | _,_=>.bad
  else .bad
 | none=>.bad
theorem Br0 (ha:ME K l fa) (hb:ME K m fb)
 (n:∀(Hf H:Hp) (d:PyData) (v:V),a d=true->Same Hf H->RdV Hf H d v->tyV K T v H) (hr:OpS K (λx y H Q=>r x [y] H Q) op):ME K (tBM K T r l (Ec m Hb)) (cMt a op fa fb):=by
 intro E W c C Q R s
 refine ha.toV _ W c _ _ R (s.bnd.mono λp w e B D i h j=>?_)
 cases ed:Fj w (nrm p) with
 | none=>simp only[ed]at e;trivial
 | some d =>
  simp only[ed]at e
  by_cases it:a d=true
  case neg=>rw[if_neg it]at e;trivial
  rw[if_pos it]at e
  refine⟨n _ _ d _ it h.sub (Gp h j ed),?_⟩
  refine hb.toV _ _ _ _ _ h (e.bnd.mono λq k b I J f g u=>?_)
  cases ex:Fj k (nrm p) with
  | none=>simp only[ex]at b;trivial
  | some x =>
   cases ey:Fj k (nrm q) with
   | none=>simp only[ex,ey]at b;trivial
   | some y =>
    simp only[ex,ey]at b
    cases eo:op x y with
    | none=>simp only[eo]at b;trivial
    | some o =>
     simp only[eo]at b
     exact hr _ _ _ _ x y o Q g.sub (Gp g (RepA.same f.fz j) ex) (Gp g u ey) eo (New.of g λv F G z A t=>b v _ _ (i.trans (f.trans z)) A t)
noncomputable def Yn:PyData->Bool
 | .tuple _=>true
 | _=>false
theorem Bl1 (Hf H:Hp)(d:PyData)(v:V)(h:Yn d=true)(s:Same Hf H)(r:RdV Hf H d v):tyV K "tuple" v H:=by
 cases d with
 | tuple ds =>
  obtain⟨a,c,rfl,b,t⟩:=Gw s r;exact .inr (.inr (.inr (.inr ⟨rfl,c,b⟩)))
 | _=>cases h
noncomputable def strsOf:List PyData->Option (List Str)
 | []=>some []
 | .str z::ds=>(strsOf ds).map (z::·)
 | _=>none
theorem A1c:∀{ds:List PyData}{ss:List Str}{vs:List V},strsOf ds=some ss->TrL Hf ds vs->vs=ss.map V.str
 | [],ss,vs,h,t=>by cases h;exact t
 | d::ds,ss,_,h,⟨v,r,rfl,h1,h2⟩=>by
  cases d with
  | str z =>
   have h:(strsOf ds).map (z::·)=some ss:=h
   cases e:strsOf ds with
   | none=>rw[e]at h;cases h
   | some ts =>
    rw[e]at h;cases h
    rw[A1c e h2,show v=V.str z from h1];rfl
  | _=>cases h
noncomputable def Vj (y:Str):List Str->Option Nat
 | []=>none
 | x::xs=>if x==y then some 0 else (Vj y xs).map (·+1)
theorem Am1 {y:Str}:∀{xs:List Str}{j:Nat},Vj y xs=some j->xs[j]?=some y/\∀m<j,xs[m]?≠some y
 | [],j,h=>by cases h
 | x::xs,j,h=>by
  unfold Vj at h
  by_cases q:(x==y)=true
  ·rw[if_pos q]at h;cases h
   exact⟨by simpa using q,λm hm=>absurd hm (Nat.not_lt_zero _)⟩
  ·rw[if_neg q]at h
   cases e:Vj y xs with
   | none=>rw[e]at h;cases h
   | some k =>
    rw[e]at h;cases h;obtain⟨h1,h2⟩:=Am1 e
    refine⟨by simpa using h1,λm hm=>?_⟩
    cases m with
    | zero=>simpa using q
    | succ m=>simpa using h2 m (Nat.lt_of_succ_lt_succ hm)
def S6:PyData->PyData->Option O
 | .tuple ds,.str y=>(strsOf ds).bind λss=>(Vj y ss).map λj=>.im (.int (j:Nat))
 | _,_=>none
theorem Aw0:OpS K (λx y H Q=>Xp K x [y] H Q) S6:=by
 intro Hf H x y dx dy o Q s f g e n;unfold S6 at e
 split at e
 ·rename_i d z
  obtain⟨a,vs,rfl,i,t⟩:=Gw s f
  cases es:strsOf d with
  | none=>grind
  | some b =>
   rw[es]at e;have e:(Vj z _).map _=some o:=e
   cases ei:Vj z b with
   | none=>grind
   | some j =>
    rw[ei]at e;cases e
    cases Ha g
    cases A1c es t
    obtain⟨h,c⟩:=Am1 ei;exact⟨a,b,z,j,rfl,rfl,SqT.of i,h,c,n.int s⟩
 grind
end
section
variable {K:PySem.W.Frag}{H:Hp}{Q:VK}
def Aq7 (neg:Bool)(ss:List Str):PyData->Option O
 | .str y=>some (.im (.bool (if neg then !inV (.str y) (ss.map V.str) else inV (.str y) (ss.map V.str))))
 | _=>none
theorem Au0 (ss:List Str):(ss.map V.str).all Pg=true:=by
 induction ss with
 | nil=>rfl
 | cons a r b=>rw[List.map_cons,List.all_cons,b];rfl
theorem Bc4 (he:ME K a fe) (hp:∀H,SqT K H p (ss.map V.str)):ME K (tOp (rIn K neg) a (tC (.ref p))) (cUn (Aq7 neg ss) fe) :=
 Mv he λb H x d o Q s r e n=>by
  match d,r,e with
  | .str y,r,e =>
   cases e
   cases Ha r
   exact⟨p,_,rfl,.inr (hp H),rfl,Au0 _,n.bl s⟩
end
end U
namespace L2
open PySem U
theorem Qn {X:Cx}{o i:Expr}{b ty:TE}{a:Pos}(hu:X.A.units+64<cLine)(ho:QE X o b)(hi:QE X i ty)(hs:Bd4 i):QE X (.Subscript o i a) (A3s b ty):=⟨A6o (by omega) ho.get hi.get hs⟩
theorem Aw2 (d:X.K=Kq) (ha:QE X a e) (hb:QE X b f) (hm:behindInMarks .NotIn b=false):QT X (.Compare a [.NotIn] [b] c) (K9 (tOp (rIn Kq true) e f)):=by
 subst d;exact⟨Ig Yc ha.get hb.get hm⟩
end L2
namespace U
open PySem L2 PySem.W
noncomputable def Bl0:O->Option PyData
 | .im k=>some k
 | .ls false xs=>some (.list xs)
 | _=>none
def Ur (F:List O->FR)(d:PyData):Option PyData:=match F [.im d] with
 | .ret o _=>Bl0 o
 | .bad=>none
def Rg (F:List O->FR):List PyData->Option (List PyData)
 | []=>some []
 | d::ds=>(Ur F d).bind λk=>(Rg F ds).map (k::·)
noncomputable def kdOf:List PyData->Kd
 | .tuple (.tuple _::_)::_=>.tt
 | .tuple (.list _::_)::_=>.tl
 | .int _::_=>.ii
 | .list _::_=>.ll
 | _=>.ti
def Mq (ds ks:List PyData):Option (List PyData):=if ds.length<2 then some ds else if ds.length<64&&(ks.all (Jy (kdOf ks))&&ks.all Ce) then (kEv (Zv (kdOf ks) ks) (kas_sort ds.length)).map λp=>p.toList.map λi=>ds.getD i .none else none
def Bf6 (F:List O->FR)(fa:Ev->R PV):Ev->R PV:=λc=>(fa c).bind λp c=>match (Fj c (nrm p)).bind Hi with
 | none=>.bad
 | some ds=>match (Rg F ds).bind (Mq ds) with
  | none=>.bad
  | some out=>.ok (.o (.ls false out)) c
section
variable {K:PySem.W.Frag}{β:Nat->V}{W W':Wo}{c:Ev}{σ:St}{Hf H:Hp}
theorem TrL.at_:∀{ds:List PyData}{vs:List V},TrL Hf ds vs->∀i,Tr Hf (ds.getD i .none) (vs.getD i .non)
 | [],_,h,i=>by cases (show _=[] from h);exact rfl
 | d::ds,_,⟨v,r,e,t,ts⟩,0=>by subst e;exact t
 | d::ds,_,⟨v,r,e,t,ts⟩,i+1=>by subst e;exact TrL.at_ ts i
theorem TrL.pick {ds:List PyData}{vs:List V}(t:TrL Hf ds vs):∀l:List Nat,TrL Hf (l.map λi=>ds.getD i .none) (l.map λi=>vs.getD i .non)
 | []=>rfl
 | i::l=>⟨_,_,rfl,TrL.at_ t i,TrL.pick t l⟩
theorem TrL.len':∀{ds:List PyData}{vs:List V},TrL Hf ds vs->ds.length=vs.length
 | [],_,h=>by cases (show _=[] from h);rfl
 | d::ds,_,⟨v,r,e,t,ts⟩=>by subst e;rw[List.length_cons,List.length_cons,TrL.len' ts]
theorem Y9 (R:Rep K β W c σ) (t:Tr W.Hf d v) (m:Ur F d=some k) (h:∀e a,Stp W.S W.Hf W.H a.S a.Hf a.H->Rep K β a c σ->Tr a.Hf k e->Q e a.H):spP K F [v] W.H Q E0:=by
 have j:∃o b,F [.im d]=.ret o b/\Bl0 o=some k:=by
  unfold Ur at m
  grind
 obtain⟨o,b,j,f⟩:=j
 have p:nrm (.o o)=.o (.im k):=by
  unfold Bl0 at f
  split at f
  ·cases f;rfl
  ·cases f;rfl
  trivial
 have r:Nt F [.o (.im d)] c=.ok (.o o) c:=by
  unfold Nt;simp only[Pq,Option.map_some,j]
  rfl
 refine (Qo (ps:=[.o (.im d)]) R ⟨v,[],rfl,t,rfl⟩ ?_:spP K F _ _ _ _)
 rw[r]
 exact λx w n g q i=>Ba1 (λe a u s l=>h e _ u s (by rw[p]at l;exact l)) _ _ _ g q i
theorem Ac5 {F:List O->FR}{Q:List V->Hp->Prop}:∀(ds:List PyData) (vs:List V) (ks kd:List PyData) (kv:List V) (W:Wo),Rep K β W c σ->TrL W.Hf ds vs->Rg F ds=some ks->TrL W.Hf kd kv ->
 (∀W' kv',Stp W.S W.Hf W.H W'.S W'.Hf W'.H->Rep K β W' c σ->TrL W'.Hf (kd++ks) kv'->Q kv' W'.H)->Ap7 (spP K F) vs kv W.H Q
 | [],vs,ks,kd,kv,W,R,t,e,tk,h=>by
  cases (show vs=[] from t)
  cases (show some []=some ks from e)
  exact h W kv Stp.refl R (by rw[List.append_nil];exact tk)
 | d::ds,vs,ks,kd,kv,W,R,⟨v,r,ev,t,ts⟩,e,tk,h=>by
  subst ev
  obtain⟨k,e1,e2⟩:=Option.bind_eq_some_iff.mp (show (Ur F d).bind (λk=>(Rg F ds).map (k::·))=some ks from e)
  obtain⟨ks',e3,rfl⟩:=Option.map_eq_some_iff.mp e2
  show spP K F [v] W.H (λkv1 H1=>Ap7 (spP K F) r (kv++[kv1]) H1 Q) E0
  refine Y9 R t e1 λv' W' st R' tv=>?_
  refine Ac5 ds r ks' (kd++[k]) (kv++[v']) W' R' (TrL.same st.fz ts) e3 ((TrL.same st.fz tk).app (TrL.one tv)) λW2 kv' st2 R2 t2=>?_
  exact h W2 kv' (st.trans st2) R2 (by rw[List.append_assoc]at t2;exact t2)
theorem Bk2 (ha:ME K C fa):ME K (Bj9 K f (spP K F) (Ec C Hb) (Ec (tC (.ref f)) Hb)) (Bf6 F fa):=by
 intro M W c σ Q R s
 refine ha.toV M W c σ _ R (s.bnd.mono λp L i U r u n T=>?_)
 cases ed:(Fj L (nrm p)).bind Hi with
 | none=>simp only[ed]at i;exact i.elim
 | some l =>
  simp only[ed]at i
  cases ek:(Rg F l).bind (Mq l) with
  | none=>simp only[ek]at i;exact i.elim
  | some o =>
   simp only[ek]at i;obtain⟨d,Y,w⟩:=Option.bind_eq_some_iff.mp ed;obtain⟨m,S,g⟩:=Option.bind_eq_some_iff.mp ek;have B:=Gp n T Y
   obtain⟨a,b,rfl,G,t⟩:∃a b,U=.ref a/\(SqL K r.H a b\/SqT K r.H a b)/\TrL r.Hf l b:=by
    cases d with
    | list H =>
     cases w
     obtain⟨a,b,e,h,t⟩:=Gb B;exact⟨a,b,e,.inl (SqL.of h),t⟩
    | tuple H =>
     cases w
     obtain⟨a,b,e,h,t⟩:=Gw n.sub B;exact⟨a,b,e,.inr (SqT.of h),t⟩
    | _=>cases w
   refine⟨a,b,rfl,rfl,G,?_⟩
   refine Ac5 _ _ _ [] _ _ n t S rfl λJ kv j x N=>?_
   have t:=TrL.same j.fz t;have P:=TrL.len' t
   have k:∀(z:List _) (y:List V),z=o->TrL _ z y->∀q,J.H q=none->Q (.ref q) (upd _ q (.lst y)):=λz y e X q I=>by
    subst e
    exact New.lst (New.of x λv W' fp Z R' rp=>i v _ _ (u.trans (j.trans Z)) R' rp) x.sub X I
   unfold Mq at g
   by_cases h2:l.length<2
   ·rw[if_pos h2]at g
    cases g
    exact .inl ⟨by omega,k _ _ rfl t⟩
   ·rw[if_neg h2]at g
    by_cases hb:(decide (l.length<64)&&(m.all (Jy (kdOf m))&&m.all Ce))=true
    ·rw[if_pos hb]at g
     obtain⟨D,A⟩:=Bool.and_eq_true_iff.mp hb;obtain⟨A,b3⟩:=Bool.and_eq_true_iff.mp A;have D:=of_decide_eq_true D;obtain⟨pm,q1,q2⟩:=Option.map_eq_some_iff.mp g
     refine .inr ⟨by omega,by omega,m,kdOf _,pm,TrL.same x.sub N,A,λd E=>Fd (List.all_eq_true.mp b3 d E),by rw[<- P];exact q1,k _ _ q2 (TrL.pick t _)⟩
    ·rw[if_neg hb]at g;cases g
end
end U
namespace U
open PySem L2
section
noncomputable def Bf9:PyData->Bool
 | .list _=>true
 | _=>false
end
noncomputable def J0:List Str->List PyData->Str->Option PyData
 | k::ks,d::ds,z=>if k=z then some d else J0 ks ds z
 | _,_,_=>none
def Rb (fa fw:Ev->R PV):Ev->R PV:=λc=>(fa c).bind λp c=>match p with
 | .o (.ty (.dc ks ds))=>(fw c).bind λq c=>match Fj c (nrm q) with
  | some (.str z)=>match J0 ks ds z with
   | some d=>.ok (.o (.im d)) c
   | none=>.bad
  | _=>.bad
 | _=>.bad
section
variable {K:PySem.W.Frag}{β:Nat->V}{W:Wo}{c:Ev}{σ:St}{Hf H:Hp}
theorem New.dc {Q:VK}{ks:List Str}{ds:List PyData}{vs:List V}(h:New K Hf H (.ty (.dc ks ds)) Q)(s:Same Hf H)(t:TrL Hf ds vs){p:Addr}(hp:H p=none):Q (.ref p) (upd H p (.dK (J5 ks vs))) :=
 h (.ref p) (upd Hf p (.dK (J5 ks vs))) _ [] ((Stp.newF s hp).less λa z=>nomatch z) (Qa s) ⟨rfl,p,vs,rfl,Bw,TrL.same (Cq (Same.free s hp)) t⟩
theorem A1e:∀{ks:List Str}{ds:List PyData}{xs:List V}{z:Str}{d:PyData},TrL Hf ds xs->J0 ks ds z=some d->∃v,O3 (J5 ks xs) (Sum.inr z)=some v/\Tr Hf d v
 | [],_,_,_,_,_,e=>nomatch e
 | _::_,[],_,_,_,_,e=>nomatch e
 | k::ks,d0::ds,_,z,d,⟨v,r,ev,t,ts⟩,e=>by
  subst ev
  have e:(if k=z then some d0 else J0 ks ds z)=some d:=e
  by_cases h:k=z
  ·rw[if_pos h]at e
   cases e
   exact⟨v,by subst h;simp[O3,J5],t⟩
  ·rw[if_neg h]at e
   obtain⟨v',h1,h2⟩:=A1e ts e
   exact⟨v',by rw[<- h1];simp[O3,J5,h],h2⟩
theorem Ni {ta tw:TE}{fa fw:Ev->R PV}(ha:ME K ta fa)(hw:ME K tw fw):ME K (A3s ta tw) (Rb fa fw):=by
 intro β W c σ Q R s
 refine ha β W c σ _ R ((s.bnd).mono λp c1 s1 v1 W1 fp1 st1 R1 r1=>?_)
 match p,r1,s1 with
 | .o (.ty (.dc ks ds)),r1,s1 =>
  obtain⟨⟨rfl,a,xs,rfl,h1,t1⟩,_⟩:=r1
  have st1:Stp W.S W.Hf W.H W1.S W1.Hf W1.H:=st1.less λa z=>.inl z
  refine hw.toV β W1 c1 σ _ R1 ((s1.bnd).mono λq c2 s2 v2 W2 st2 R2 r2=>?_)
  match ed:Fj c2 (nrm q),s2 with
  | some (.str z),s2 =>
   have rz:v2=.str z:=Ha (Gp R2 r2 ed)
   cases el:J0 ks ds z with
   | none=>simp only[el]at s2;exact s2.elim
   | some d =>
    simp only[el]at s2;obtain⟨v,q1,q2⟩:=A1e (TrL.same st2.fz t1) el;have e2:W2.H a=some (.dK (J5 ks xs)):=R2.sub _ _ (st2.fz _ _ h1)
    refine⟨a,v,rfl,?_,?_⟩
    ·rw[rz,<- q1]
     exact DGet.k (k:=Sum.inr z) e2
    ·exact s2 v W2 [] ((st1.trans st2).less λa h=>by
      rcases h with h | h
      ·exact h
      ·cases h) R2 ⟨⟨rfl,q2⟩,λa h=>nomatch h⟩
  | none,s2=>exact s2.elim
  | some .none,s2=>exact s2.elim
  | some (.bool _),s2=>exact s2.elim
  | some (.int _),s2=>exact s2.elim
  | some (.tuple _),s2=>exact s2.elim
  | some (.list _),s2=>exact s2.elim
  | some (.dict _),s2=>exact s2.elim
 | .o (.ty (.nm _)),r1,s1=>exact s1.elim
 | .o (.ty (.tc _)),r1,s1=>exact s1.elim
 | .o (.ty (.xc _)),r1,s1=>exact s1.elim
 | .o (.ty (.dt _ _)),r1,s1=>exact s1.elim
 | .o (.ty (.ds _ _)),r1,s1=>exact s1.elim
 | .o (.ty (.td _ _ _)),r1,s1=>exact s1.elim
 | .o (.im _),r1,s1=>exact s1.elim
 | .o (.ls _ _),r1,s1=>exact s1.elim
 | .o (.sc _),r1,s1=>exact s1.elim
 | .sl _,r1,s1=>exact s1.elim
end
section
theorem Al5 (h:orS S [] a):S a:=by
 grind
end
end U
set_option autoImplicit true
namespace U
open PySem L2
end U
set_option autoImplicit true
namespace U
open PySem L2
def mmF (gt:Bool)(F:List O->FR):List PyData->Option (PyData×PyData)->Option (Option (PyData×PyData))
 | [],best=>some best
 | d::ds,best=>(Ur F d).bind λk=>match best with
  | none=>mmF gt F ds (some (d,k))
  | some (b,bk)=>if (Ce k&&Ce bk)=true then (G6 gt k bk).bind λr=>mmF gt F ds (if r=true then some (d,k) else some (b,bk)) else none
noncomputable def mmD:Option (PyData×PyData)->PyData
 | some (d,_)=>d
 | none=>.none
def cMM (gt:Bool)(F:List O->FR)(fa:Ev->R PV):Ev->R PV:=λc=>(fa c).bind λp c=>(frz (nrm p) c).bind λd c=>match d with
 | .list ds=>match mmF gt F ds none with
  | some best=>.ok (.o (.im (mmD best))) c
  | none=>.bad
 | _=>.bad
section
variable {K:PySem.W.Frag}{W:Wo}{c:Ev}{Hf H:Hp}
def Bp9 (Hf:Hp):Option (V×V)->Option (PyData×PyData)->Prop
 | none,none=>True
 | some (x,k),some (d,kd)=>Tr Hf d x/\Tr Hf kd k
 | _,_=>False
theorem TrL.back:∀{ds:List PyData}{vs:List V}{i:Nat}{x:V},TrL Hf ds vs->vs[i]?=some x->∃d,ds[i]?=some d/\Tr Hf d x
 | [],_,i,x,h,e=>by cases (show _=[] from h);simp at e
 | d::ds,_,0,x,⟨v,r,e1,t,ts⟩,e=>by subst e1;cases (show some v=some x from e);exact⟨d,rfl,t⟩
 | d::ds,_,i+1,x,⟨v,r,e1,t,ts⟩,e=>by subst e1;exact TrL.back (ds:=ds) (vs:=r) (i:=i) ts (show r[i]?=some x from e)
theorem A9t (ha:ME K S fa):ME K (tMM n K f (spP K F) (Ec S Hb) (Ec (tC (.ref f)) (Ec (tC .non) Hb))) (cMM n F fa):=by
 intro M W c T Q R s
 refine ha.toV M W c T _ R (s.bnd.mono λp c1 Y v1 W1 C V r1=>?_)
 obtain⟨d,c2,A,_,j,e2,E,L,Z⟩:=Hh V r1 Y.bnd
 cases d with
 | list w =>
  cases em:mmF n F w none with
  | none=>simp only[em]at j;exact j.elim
  | some u =>
   simp only[em]at j;obtain⟨a,vs,rfl,N,t⟩:=id Z;rw[<- e2]
   refine⟨a,vs,.non,rfl,rfl,SqL.of (L.sub _ _ N),?_⟩
   refine⟨λi e H=>∃m o,m.H=H/\Stp A.S A.Hf A.H m.S m.Hf m.H/\Rep K M m c2 T/\Bp9 m.Hf e o/\mmF n F (w.drop i) o=some u,?_,?_,?_,?_⟩
   ·exact⟨A,none,rfl,Stp.refl,L,trivial,em⟩
   ·rintro i e H ⟨m,o,rfl,g,v,_,_⟩
    exact SqL.of (v.sub _ _ (g.fz _ _ N))
   ·rintro i x e H X ⟨m,o,rfl,g,v,G,y⟩
    obtain⟨d,hd,D⟩:=TrL.back (TrL.same g.fz t) X
    have I:w.drop i=d::w.drop (i+1):=by
     obtain⟨hi,q⟩:=List.getElem?_eq_some_iff.mp hd;rw[List.drop_eq_getElem_cons hi,q]
    rw[I]at y
    obtain⟨k,k1,l⟩:=Option.bind_eq_some_iff.mp (show ((Ur F d).bind _)=some u from y)
    refine Y9 v D k1 λv' U h B J=>?_
    match e,o,G,l with
    | none,none,_,l=>exact⟨U,some _,rfl,g.trans h,B,⟨Tr.same h.fz D,J⟩,l⟩
    | some _,some (b,kb),⟨t3,t4⟩,l =>
     have l:(if (Ce k&&Ce _)=true then (G6 _ k _).bind _ else none)=some _:=l
     by_cases hfl:(Ce k&&Ce kb)=true
     ·rw[if_pos hfl]at l
      obtain⟨f1,f2⟩:=Bool.and_eq_true_iff.mp hfl;obtain⟨r,q1,O⟩:=Option.bind_eq_some_iff.mp l
      refine⟨k,kb,r,Tr.same B.sub J,Tr.same B.sub (Tr.same h.fz t4),Fd f1,Fd f2,q1,U,if r=true then some _ else some _,rfl,g.trans h,B,?_,O⟩
      cases r with
      | true=>exact⟨Tr.same h.fz D,J⟩
      | false=>exact⟨Tr.same h.fz t3,Tr.same h.fz t4⟩
     ·rw[if_neg hfl]at l;cases l
   ·rintro e H ⟨m,o,rfl,g,v,G,y⟩
    rw[<- TrL.len' t,List.drop_length]at y
    cases y
    have P:=C.trans (E.trans g)
    match e,u,G,j with
    | none,none,_,j=>exact j _ _ _ (P.less λa z=>Al5 z) v ⟨⟨rfl,rfl⟩,λa z=>nomatch z⟩
    | some _,some _,⟨t3,t4⟩,j=>exact j _ _ _ (P.less λa z=>Al5 z) v ⟨⟨rfl,t3⟩,λa z=>nomatch z⟩
 | none=>exact j.elim
 | bool _=>exact j.elim
 | int _=>exact j.elim
 | str _=>exact j.elim
 | tuple _=>exact j.elim
 | dict _=>exact j.elim
noncomputable def Bp5:PyData->Option Key
 | .int i=>some (.inl i)
 | .str x=>some (.inr x)
 | _=>none
def Rh:List PyData->Option (List Key)
 | []=>some []
 | d::ds=>(Bp5 d).bind λk=>(Rh ds).map (k::·)
theorem Ap5:∀{ds:List PyData}{ks:List Key}{vs:List V},Rh ds=some ks->TrL Hf ds vs->vs.map keyV=ks.map some/\vs.length=ks.length
 | [],ks,vs,e,h=>by cases (show some []=some ks from e);cases (show vs=[] from h);exact⟨rfl,rfl⟩
 | d::ds,ks,_,e,⟨v,r,ev,t,ts⟩=>by
  subst ev
  obtain⟨k,e1,e2⟩:=Option.bind_eq_some_iff.mp (show ((Bp5 d).bind λk=>(Rh ds).map (k::·))=some ks from e)
  obtain⟨ks',e3,rfl⟩:=Option.map_eq_some_iff.mp e2;obtain⟨q1,q2⟩:=Ap5 e3 ts
  have hk:keyV v=some k:=by
   cases d with
   | int i=>cases e1;cases (show v=.int i from t);rfl
   | str x=>cases e1;cases (show v=.str x from t);rfl
   | _=>cases e1
  exact⟨by rw[List.map_cons,List.map_cons,hk,q1],by rw[List.length_cons,List.length_cons,q2]⟩
def M8:PyData->Option O
 | .list ds=>(Rh ds).bind λks=>if ks.length<1000 then some (.im (.int ((dst ks).length:Nat))) else none
 | _=>none
theorem Zn : UnS K (λx H Q=>V4 P w K [x] H λy H=>Px P w [y] H Q) M8:=by
 intro Hf H x d o Q s i e n
 cases d with
 | list ds =>
  obtain⟨g,j,f⟩:=Option.bind_eq_some_iff.mp (e);obtain⟨a,k,rfl,l,t⟩:=Gb i
  by_cases hl:g.length<1000
  ·rw[if_pos hl]at f
   cases f
   obtain⟨m,q2⟩:=Ap5 j t
   refine⟨a,k,g,rfl,SqL.of l,m,by grind,λp c=>⟨p,_,rfl,Bw,?_,?_⟩⟩
   ·exact Nat.lt_of_le_of_lt (Xi _ _ rfl) hl
   ·refine n _ _ _ [] ⟨λ_ _ h=>h,λb u e _=>?_,λ_ _ _ _ _ h=>h,λ_ h=>nomatch h⟩ (λb u e=>?_) ⟨rfl,rfl⟩
    ·exact Cq c b u e
    ·exact Cq c b u (s b u e)
  grind
 | _=>cases e
theorem Ak7 (h:ME K t f):ME K (tCB (Px P w) (Ec (tCB (V4 P w K) (Ec t Hb)) Hb)) (cUn M8 f):=Mv (r:=λx H Q=>V4 P w K _ H _) h Zn
end
end U
set_option autoImplicit true
namespace U
open PySem L2
def O8:PyData->PyData->Option O:=Vy λi j=>.bool (decide (i<j))
theorem Ao3 : OpS K (rI0 λi j=>.bl (decide (i<j))) O8:=Yj λ_ _ _=>rfl
theorem Bn6 (l:Ux i j=true):CMul i j:=by
 unfold Ux at l;rw[Bool.or_eq_true_iff,Bool.and_eq_true_iff,Bool.and_eq_true_iff]at l
 rcases l with ⟨b,a⟩ | ⟨b,a⟩
 ·exact .inl ⟨of_decide_eq_true b,of_decide_eq_true a⟩
 ·exact .inr ⟨of_decide_eq_true b,of_decide_eq_true a⟩
def Ks:PyData->PyData->Option O:=opI Ux λi j=>i*j
theorem J1 : OpS K (rI CMul λi j=>.int (i*j)) Ks:=As0 λ_ _=>Bn6
noncomputable def Em:PyData->Option O
 | .list ds=>some (.im (.tuple ds))
 | .tuple ds=>some (.im (.tuple ds))
 | _=>none
theorem Gq : UnS K (λx H Q=>Hy K [x] H Q) Em:=by
 intro Hf H x d o Q s r e n;unfold Em at e
 split at e
 ·cases e
  obtain⟨a,b,rfl,c,t⟩:=Gb r
  exact⟨a,b,rfl,.inl ⟨SqL.of c,λl f=>n.tup s t f⟩⟩
 ·cases e
  obtain⟨a,b,rfl,c,t⟩:=Gw s r;exact⟨a,b,rfl,.inr ⟨SqT.of c,n.same s r⟩⟩
 grind
def Bq3 (K:PySem.W.Frag):R2:=λx y H Q=>Bj4 K x y H Q\/Bj3 K x y H Q
def Ai:PyData->PyData->Option O
 | .list ds,.int i=>(atI ds i).map O.im
 | .tuple ds,.int i=>(atI ds i).map O.im
 | _,_=>none
theorem Ax : OpS K (Bq3 K) Ai:=by
 intro Hf H x y dx dy o Q s i j e n;unfold Ai at e
 split at e
 ·obtain⟨d,g,rfl⟩:=Option.map_eq_some_iff.mp e
  obtain⟨a,c,rfl,f,t⟩:=Gb i;obtain⟨v,h,b⟩:=A2o t g;exact .inl ⟨a,c,_,v,rfl,Ew j,SqL.of f,h,n.same s b⟩
 ·obtain⟨d,g,rfl⟩:=Option.map_eq_some_iff.mp e
  obtain⟨a,c,rfl,f,t⟩:=Gw s i;obtain⟨v,h,b⟩:=A2o t g;exact .inr ⟨a,c,_,v,rfl,Ew j,SqT.of f,h,n.same s b⟩
 grind
end U
namespace L2
open PySem
section
variable {X:Cx}{a b:Expr}{ta tb:TE}{pos:Pos}
theorem Bb (c:X.K=Kq) (ha:QE X a ta) (hb:QE X b tb) (hs:Jl b):QE X (.Subscript a b pos) (tOp (U.Bq3 Kq) ta tb):=by
 subst c;exact Bc2 (IxR.or ix_list ix_tup) ha hb hs
end
end L2
namespace U
open PySem L2 PySem.W
def Au5 (F:List O->FR)(js:List Nat)(d:PyData)(c:Ev):R PyData:=(Nt F (.o (.im d)::js.map PV.sl) c).bind λp c=>match p with
 | .o (.im k)=>.ok k c
 | _=>.bad
def Ub (F:List O->FR)(js:List Nat):List PyData->Ev->R (List PyData)
 | [],c=>.ok [] c
 | d::ds,c=>(Au5 F js d c).bind λk c=>(Ub F js ds c).bind λks c=>.ok (k::ks) c
def An2 (F:List O->FR)(js:List Nat)(fa:Ev->R PV):Ev->R PV:=λc=>(fa c).bind λp c=>match (Fj c (nrm p)).bind Hi with
 | none=>.bad
 | some ds=>(Ub F js ds c).bind λks c=>match Mq ds ks with
  | none=>.bad
  | some out=>.ok (.o (.ls false out)) c
section
variable {K:PySem.W.Frag}{β:Nat->V}{W W':Wo}{c c':Ev}{σ:St}{Hf H:Hp}
def Bk5 (K:PySem.W.Frag)(te:TE)(F:List O->FR):Prop:=∀(vs:List V) (H:Hp) (Q:VK),spP K F vs H Q E0->te (vs.map some) H Q
theorem A7r {n:Nat}{b:TE}{c:Ev->R PV}(h:ME K b c)(N:List Str)(hN:N.length=n):Bk5 K b (Eu n N.length (Dc c)):=by
 intro a H Q d;have f:=Cv d;have:=Cr (Bd h) d
 have e:start N a=a.map some:=by
  show a.map _++List.replicate _ _=_
  simp_all
 rw[e]at this
 trivial
theorem Am5 (R:Rep K β W c σ):∀{js:List Nat}{as:List O},Pq c (js.map PV.sl)=some as->∃cvs,zM K W.Hf σ (js.map PV.sl) cvs/\cst (js.map some) σ=cvs.map some
 | [],as,e=>⟨[],rfl,rfl⟩
 | j::js,as,e=>by
  have e:Pq c (.sl j::js.map PV.sl)=some as:=e;unfold Pq at e
  cases ec:c[j]? with
  | none=>simp only[ec]at e;cases e
  | some x =>
   cases x with
   | none=>simp only[ec]at e;cases e
   | some o1 =>
    simp only[ec]at e;obtain⟨l,e2,rfl⟩:=Option.map_eq_some_iff.mp e;obtain⟨cvs,r,q⟩:=Am5 R e2;obtain⟨v,e1,_⟩:=R.get j o1 ec
    refine⟨v::cvs,⟨v,cvs,rfl,e1,r⟩,?_⟩
    show ((some j).bind λi=>(σ[i]?).join)::cst (js.map some) σ=_
    rw[q]
    show (σ[j]?).join::_=_
    rw[e1];rfl
theorem Zi {F:List O->FR}{te:TE}{js:List Nat}(hF:Bk5 K te F){Q:List V->Hp->Prop}:∀(ds:List PyData) (vs:List V) (kd:List PyData) (kv:List V) (W:Wo) (c:Ev),Rep K β W c σ->TrL W.Hf ds vs->TrL W.Hf kd kv ->
 ((Ub F js ds c).sat λks c'=>∀W' kv',Stp W.S W.Hf W.H W'.S W'.Hf W'.H->Rep K β W' c' σ->TrL W'.Hf (kd++ks) kv'->Q kv' W'.H)->Ri (λx H Q=>te (some x::cst (js.map some) σ) H Q) vs kv W.H Q
 | [],vs,kd,kv,W,c,R,t,tk,h=>by
  cases (show vs=[] from t)
  exact h W kv Stp.refl R (by rw[List.append_nil];exact tk)
 | d::ds,vs,kd,kv,W,c,R,⟨v,r,ev,t,ts⟩,tk,h=>by
  subst ev
  have h:((Au5 F js d c).bind λk c=>(Ub F js ds c).bind λks c=>U.R.ok (k::ks) c).sat _:=h
  have h:=h.bnd;unfold Au5 at h;have h:=h.bnd
  cases ea:Pq c (js.map PV.sl) with
  | none =>
   have:Nt F (.o (.im d)::js.map PV.sl) c=.bad:=by
    unfold Nt;simp only[Pq,ea,Option.map_none]
   rw[this]at h;exact h.elim
  | some as =>
   obtain⟨cvs,rc,ec⟩:=Am5 R ea
   show te (some v::cst (js.map some) σ) W.H _
   rw[ec]
   refine hF (v::cvs) W.H _ ?_
   have hs:spP K F ((v::cvs)++[]) W.H (λkv1 H1=>Ri (λx H Q=>te (some x::cst (js.map some) σ) H Q) r (kv++[kv1]) H1 Q) E0:=by
    refine Qo (ps:=.o (.im d)::js.map PV.sl) R ⟨v,cvs,rfl,t,rc⟩ (h.mono λp c1 h1 v' W' fp st R' rp=>?_)
    cases p with
    | sl i=>exact h1.elim
    | o o =>
     cases o with
     | im k =>
      obtain⟨⟨rfl,tv⟩,_⟩:=rp
      have st:Stp W.S W.Hf W.H W'.S W'.Hf W'.H:=st.less λa z=>.inl z
      refine Zi hF ds r (kd++[k]) (kv++[v']) W' c1 R' (TrL.same st.fz ts) ((TrL.same st.fz tk).app (TrL.one tv)) (h1.bnd.mono λks c2 h2 W2 kv' st2 R2 t2=>?_)
      exact h2 W2 kv' (st.trans st2) R2 (by rw[List.append_assoc]at t2;exact t2)
     | ls b ds=>exact h1.elim
     | sc d=>exact h1.elim
     | ty d=>exact h1.elim
   rw[List.append_nil,ec]at hs;exact hs
theorem A1d {d:Hp}(R:Rep K β W c σ)(h:Bc6 W.H d):∃W2:Wo,W2.H=d/\Stp W.S W.Hf W.H W2.S W2.Hf W2.H/\Rep K β W2 c σ:=by
 rcases h with rfl | ⟨a,o,e,rfl⟩
 ·exact⟨W,rfl,Stp.refl,R⟩
 ·have b:=Stp.newF (o:=.frz o (.own 0)) R.sub e
  refine⟨⟨upd _ a _,upd _ a _,W.fps⟩,rfl,?_,b.rep R (Qa R.sub)⟩
  exact((b.more ).up λa z=>z.elim (λz=>z.elim) id).less λa z=>.inr z
theorem A8v {F:List O->FR}{js:List Nat}{E G:TE}{fa:Ev->R PV}(ha:ME K G fa)(hF:Bk5 K E F):ME K (A1s K (js.map some) E (Ec G Hb)) (An2 F js fa):=by
 intro β W c U Q R s
 refine ha.toV β W c U _ R (s.bnd.mono λp c1 m v1 n u w Z=>?_)
 cases ed:(Fj c1 (nrm p)).bind Hi with
 | none=>simp only[ed]at m;exact m.elim
 | some r =>
  simp only[ed]at m;obtain⟨d,e1,A⟩:=Option.bind_eq_some_iff.mp ed
  obtain⟨a,f,rfl,sq,t⟩:∃a f,v1=.ref a/\(n.H a=some (.lst f)\/n.H a=some (.tup f))/\TrL n.Hf r f:=by
   have L:=Gp w Z e1
   cases d with
   | list M =>
    cases A
    obtain⟨a,f,e,h,t⟩:=Gb L;exact⟨a,f,e,.inl h,t⟩
   | tuple M =>
    cases A
    obtain⟨a,f,e,h,t⟩:=Gw w.sub L;exact⟨a,f,e,.inr h,t⟩
   | _=>cases A
  refine⟨a,f,rfl,λH2 H=>?_⟩
  obtain⟨W0,rfl,i,R0⟩:=A1d w H
  have I:Same n.H W0.H:=by
   rcases H with e | ⟨b,o,P,e⟩
   ·rw[e];exact Same.refl _
   ·rw[e];exact Cq P
  refine⟨sq.imp (λh=>SqL.of (I _ _ h)) (λh=>SqT.of (I _ _ h)),?_⟩
  refine Zi hF _ _ [] _ _ _ R0 (TrL.same i.fz t) rfl (m.bnd.mono λk c2 l X kv x y t2=>?_)
  cases ek:Mq r k with
  | none=>simp only[ek]at l;exact l.elim
  | some z =>
   simp only[ek]at l;have g:=i.trans x;have t:=TrL.same g.fz t;have N:=TrL.len' t
   have j:∀(C:List _) (B:List V),C=z->TrL _ C B->∀q,X.H q=none->Q (.ref q) (upd _ q (.lst B)):=λC B e T q Y=>by
    subst e
    exact New.lst (New.of y λv W' fp st R' rp=>l v _ _ (u.trans (g.trans st)) R' rp) y.sub T Y
   unfold Mq at ek
   by_cases h2:r.length<2
   ·rw[if_pos h2]at ek
    cases ek
    exact .inl ⟨by omega,j _ _ rfl t⟩
   ·rw[if_neg h2]at ek
    by_cases hb:(decide (r.length<64)&&(k.all (Jy (kdOf k))&&k.all Ce))=true
    ·rw[if_pos hb]at ek
     obtain⟨J,D⟩:=Bool.and_eq_true_iff.mp hb;obtain⟨D,b3⟩:=Bool.and_eq_true_iff.mp D;have J:=of_decide_eq_true J;obtain⟨pm,q1,q2⟩:=Option.map_eq_some_iff.mp ek
     refine .inr ⟨by omega,by omega,k,kdOf _,pm,TrL.same y.sub t2,D,λd S=>Fd (List.all_eq_true.mp b3 d S),by rw[<- N];exact q1,j _ _ q2 (TrL.pick t _)⟩
    ·rw[if_neg hb]at ek;cases ek
end
section
variable {K:PySem.W.Frag}{W:Wo}{c:Ev}{Hf H:Hp}
theorem Al3 {Q:VK}{ds ks out:List PyData}{vs kv:List V}(s:Same Hf H)(t:TrL Hf ds vs)(tk:TrL Hf ks kv)(e:Mq ds ks=some out)(n:New K Hf H (.ls false out) Q):V1 vs kv H Q:=by
 have hl:=TrL.len' t;unfold Mq at e
 by_cases h2:ds.length<2
 ·rw[if_pos h2]at e
  cases e
  exact .inl ⟨by omega,λq hq=>n.lst s t hq⟩
 ·rw[if_neg h2]at e
  by_cases hb:(decide (ds.length<64)&&(ks.all (Jy (kdOf ks))&&ks.all Ce))=true
  ·rw[if_pos hb]at e
   obtain⟨b1,b2⟩:=Bool.and_eq_true_iff.mp hb;obtain⟨b2,b3⟩:=Bool.and_eq_true_iff.mp b2;have b1:=of_decide_eq_true b1;obtain⟨pm,q1,q2⟩:=Option.map_eq_some_iff.mp e;subst q2
   exact .inr ⟨by omega,by omega,ks,kdOf ks,pm,TrL.same s tk,b2,λd hd=>Fd (List.all_eq_true.mp b3 d hd),by rw[<- hl];exact q1,λq hq=>n.lst s (TrL.pick t _) hq⟩
  ·rw[if_neg hb]at e;cases e
def M6 (d:PyData):Option O:=(Hi d).bind λds=>(Mq ds ds).map λout=>.ls false out
theorem Wg:UnS K (λx H Q=>Ag1 K [x] H Q) M6:=by
 intro Hf H x d o Q s r e n;unfold M6 at e;obtain⟨ds,e1,e2⟩:=Option.bind_eq_some_iff.mp e;obtain⟨out,e3,rfl⟩:=Option.map_eq_some_iff.mp e2
 cases d with
 | list xs =>
  cases e1
  obtain⟨a,vs,rfl,h1,t⟩:=Gb r;exact⟨a,vs,rfl,.inl (SqL.of h1),Al3 s t t e3 n⟩
 | tuple xs =>
  cases e1
  obtain⟨a,vs,rfl,h1,t⟩:=Gw s r;exact⟨a,vs,rfl,.inr (SqT.of h1),Al3 s t t e3 n⟩
 | _=>cases e1
def cFz (f:Ev->R PV):Ev->R PV:=λc=>(f c).bind λp c=>(frz (nrm p) c).bind λd c=>.ok (.o (.im d)) c
theorem Dm (h:ME K t f):ME K t (cFz f):=by
 intro y W c x Q R s
 refine h.toV _ W c _ Q R (s.bnd.mono λp n j v u e i k=>?_)
 obtain⟨d,o,r,_,l,w,b,m,g⟩:=Hh i k j.bnd
 have q:=l v _ [] ((e.trans b).less λa z=>z.elim id λz=>nomatch z) m ⟨⟨rfl,g⟩,λa z=>nomatch z⟩
 grind
end
def Bv2:PyData->Bool
 | .tuple ds=>Jo ds&&PyData.canLayAll0 ds&&decide (PyData.depthAll ds<=6)
 | _=>false
inductive DE where
 | d (x:PyData)
 | l (xs:List PyData)
inductive BR where
 | nx (c:Ev) (ks:List PyData) (es:List DE)
 | bad
def DX (a:Addr)(X:Nat->List Addr)(b:Addr):Prop:=b=a\/∃j,b∈X j
abbrev orX (S:Addr->Prop)(a:Addr)(X:Nat->List Addr):Addr->Prop:=λb=>S b\/DX a X b
section
variable {σ σ':St}{H:Hp}{a:Addr}{d:Nat}
def GFr (d:Nat)(g:TG):Prop:=∀v σ H k,g v σ H (λσ' H'=>σ'[d]?=σ[d]?->k σ' H')->g v σ H k
theorem A5e (h:i≠d):GFr d (K3 i):=λv a H k q=>q (List.getElem?_set_ne h)
end
variable {K:PySem.W.Frag}
theorem Be {p a:Pos}(D:Def X.prog X.w X.K X.mg X.base x k ps sp) (hr:Room c X.A) (ha:QA X (e::es) t) (h:k<=c:=by omega) (hg:Gl X x:=by rfl)
 (hdb:(x==("__debug__" : Str))=false:=by decide) (hn:noStar (e::es)=true:=by rfl):QE X (.Call (.Name x p) (e::es) [] a) (Zr sp [] E0 t):=by
 obtain⟨f,g,G,b,d,m⟩:=D;exact A1i G (hr.mono h) hg m d b .nil Br9 ha hdb hn
variable {K:PySem.W.Frag}
noncomputable def Tz (ss:List Str):PyData->Option O
 | .tuple ds=>if ss≠[]/\ds≠[]/\ss.length+ds.length<=16000000 then some (.im (.tuple (ss.map PyData.str++ds))) else none
 | _=>none
theorem Al7 {Hf:Hp}:∀ss:List Str,TrL Hf (ss.map PyData.str) (ss.map V.str)
 | []=>rfl
 | s::ss=>⟨_,_,rfl,rfl,Al7 ss⟩
theorem A9g {c:TE}{fe:Ev->R PV}{p:Addr}{ss:List Str}(he:ME K c fe)(hp:∀H,SqT K H p (ss.map V.str)):ME K (tOp (Ar5 K) (tC (.ref p)) c) (cUn (Tz ss) fe) :=
 Mv he λHf H x d o Q s r e n=>by
  unfold Tz at e
  split at e
  ·split at e
   ·rename_i b
    cases e
    obtain⟨a,f,rfl,g,t⟩:=Gw s r;have i := t.length.symm
    have j:f≠[]:=λz=>b.2.1 (List.eq_nil_of_length_eq_zero (by grind))
    refine⟨p,a,ss.map _,f,rfl,rfl,hp H,SqT.of g,λz=>b.1 (List.map_eq_nil_iff.mp z),by rw[List.length_map,i];exact Nat.le_trans b.2.2 (by decide),λz=>absurd z j,λ_ q h=>?_⟩
    exact n.tup s ((Al7 _).app t) h
   grind
  grind
end U
namespace L2
open PySem PySem.Spec PyProof.Rows
abbrev G7:=Option Key
def nIs:G7->Value->Bool
 | none,.none=>true
 | none,_=>false
 | some k,v=>Mh k v
def nV:G7->V
 | none=>.non
 | some k=>kV k
theorem Fi:∀{k:G7}{v:Value},nIs k v=true->(k=none/\v=Value.none)\/∃z,k=some z/\Mh z v=true
 | none,v,h=>by
  cases v <;> first | exact .inl ⟨rfl,rfl⟩ | cases h
 | some z,v,h=>.inr ⟨z,rfl,h⟩
theorem Bq1 {k:G7}{u:Value}(r:RelV (nV k) u):nIs k u=true:=by
 cases k with
 | none=>cases (r);rfl
 | some z =>
  cases z with
  | inl i=>obtain⟨t,e⟩:=(r);subst e;exact Q0 i t
  | inr x=>obtain⟨t,e⟩:=(r);subst e;exact Qp x t
theorem Bd5 {k:G7}{u:Value}(h:nIs k u=true):RelV (nV k) u:=by
 rcases Fi h with ⟨rfl,rfl⟩ | ⟨z,rfl,h⟩
 ·trivial
 ·rcases Dk h with ⟨i,t,rfl,rfl⟩ | ⟨x,t,rfl,rfl⟩ <;> exact⟨t,rfl⟩
theorem Bn0 (a b:Key):decide ((some a:G7)=some b)=decide (a=b):=by
 grind
def Bb6 (prog:Program)(w:World):KeyKind prog w G7 where
 is:=nIs
 hash:=λk=>match k with
  | none=>hashInt 0xFCA86420
  | some z=>A6a w z
 inj:=λv a b ha hb=>by
  rcases Fi ha with ⟨rfl,rfl⟩ | ⟨z,rfl,ha⟩
  ·rcases Fi hb with ⟨rfl,_⟩ | ⟨z,rfl,hb⟩
   ·rfl
   ·cases z <;> cases hb
  ·rcases Fi hb with ⟨rfl,rfl⟩ | ⟨y,rfl,hb⟩
   ·cases z <;> cases ha
   ·rw[(Dl prog w).inj v z y ha hb]
 byValue:=λk v h=>by
  rcases Fi h with ⟨rfl,rfl⟩ | ⟨z,rfl,h⟩
  ·rfl
  ·exact(Dl prog w).byValue z v h
 pyHash:=λhv h=>by
  rcases Fi hv with ⟨rfl,rfl⟩ | ⟨z,rfl,hv⟩
  ·exact Q3 h
  ·exact(Dl prog w).pyHash hv h
 eqBool:=λ{A E s a b u v Q} hu hv h=>by
  rcases Fi hu with ⟨rfl,rfl⟩ | ⟨z,rfl,hz⟩
  ·rcases Fi hv with ⟨rfl,rfl⟩ | ⟨y,rfl,hy⟩
   ·exact SeqAt.EqAt.same _ _ _ _ _ h
   ·rcases Dk hy with ⟨i,t,rfl,rfl⟩ | ⟨x,t,rfl,rfl⟩
    ·exact SeqAt.EqAt.none_int i t _ _ _ _ h
    ·exact SeqAt.EqAt.none_str x t _ _ _ _ h
  ·rcases Fi hv with ⟨rfl,rfl⟩ | ⟨y,rfl,hy⟩
   ·rcases Dk hz with ⟨i,t,rfl,rfl⟩ | ⟨x,t,rfl,rfl⟩
    ·exact SeqAt.EqAt.int_none i t _ _ _ _ h
    ·exact SeqAt.EqAt.str_none x t _ _ _ _ h
   ·rw[Bn0]at h
    exact(Dl prog w).eqBool hz hy h
 «strs»:=λk x t v h=>by
  rcases Fi h with ⟨_,e⟩ | ⟨z,rfl,h⟩
  ·cases e
  ·exact(Dl prog w).strs z x t v h
noncomputable def tkv (ks:List G7):List (G7×Value):=ks.map λk=>(k,Value.bool true)
noncomputable def Xg (ks:List G7) (k:G7):List G7:=if ks.any (λx=>decide (x=k))=true then ks else ks++[k]
theorem Ae4 (ks:List G7)(k:G7):stored (tkv ks) k (.bool true)=tkv (Xg ks k):=by
 unfold stored Xg tkv
 by_cases h:ks.any λx=>decide (x=k)=true
 ·simp_all
 simp_all
def dN (P:Program)(w:World)(a:Addr)(ks:List G7):Heap->Prop:=λh=>ks.length<=sizeLine/\(a==sysModules)=false/\h.DictOf (Bb6 P w) a (tkv ks)
theorem Bn9 {P:Program}{w:World}{a:Addr}{ks:List G7}{h1 h2:Heap}(x:dN P w a ks h1)(k:∀o,h1.get? a=some o->h2.get? a=some o):dN P w a ks h2:=⟨x.1,x.2.1,x.2.2.at k⟩
theorem Ba0 {P:Program}{w:World}{H:Hp}{h:Heap}{a:Addr}{ks:List G7}(x:dN P w a ks h):z8 P w H h a (.ext (dN P w a ks)) :=
 ⟨x,let ⟨o,_,_,e,_⟩:=x.2.2; ⟨o,e⟩,λ_ _ y k=>Bn9 y k⟩
def Ag2 (P:Program)(w:World):TE:=λ_ H Q=>∀p,H p=none->Q (.ref p) (upd H p (.ext (dN P w p [])))
def A4q (P:Program)(w:World)(td ty tv:TE):TS:=λD σ H=>tv σ H λv H1=>td σ H1 λx H2=>ty σ H2 λy H3=>∃a ks k,v=.bl true/\x=.ref a/\H3 a=some (.ext (dN P w a ks))/\y=nV k/\ks.length<sizeLine/\D.nx σ (upd H3 a (.ext (dN P w a (Xg ks k))))
def A9z (P:Program)(w:World)(td:TE):TE:=λσ H Q=>td σ H λx H1=>∃a ks,x=.ref a/\H1 a=some (.ext (dN P w a ks))/\∀p,H1 p=none->Q (.ref p) (upd H1 p (.tup (ks.map nV)))
theorem Ab4 (ks:List G7)(k:G7):(Xg ks k).length<=ks.length+1:=by
 unfold Xg
 grind
theorem Vb {P:Program}{w:World}:∀{es:List DictEntry}{ks:List G7},Pairs (Bb6 P w) es (tkv ks)->Vals (ks.map nV) (es.map (·.key))
 | [],[],_=>.nil
 | _::_,_::_,.cons h _ t=>.cons (Bd5 h) (Vb t)
section
variable {X:Cx}{o i e value:Expr}{pos pos':Pos}{td ty tv te:TE}
theorem A1o:PE X (.Dict [] [] pos) (Ag2 X.prog X.w):=λa s b H Q I h =>
 wpAny_Dict_empty ⟨.ref _,_,I.laid (λ_ _ q=>Heap.get?_push_of_some _ q) (Nat.le_refl _)
  (Ba0 ⟨Nat.zero_le _,beq_eq_false_iff_ne.mpr (Ne.symm (Nat.ne_of_lt I.big)),Heap.DictOf.new _⟩),rfl,h _ (I.hok.fresh (Nat.le_refl _))⟩
theorem A6m (ho:PE X o td)(hi:PE X i ty)(hv:PE X value tv)(hs:swapsWith value (some (.Subscript o i pos')) pos.line X.env=pure false) :
 PS X (.Assign [.Subscript o i pos'] value pos) (A4q X.prog X.w td ty tv):=by
 intro b s d H D I h
 refine wpAny_Assign_Subscript (thn (hv b s d H _ I h) λr g ⟨v,E,C,j,l⟩=>thn (ho b g d E _ C l) λu m ⟨x,n,p,t,w⟩=>thn (hi b m d n _ p w) λQ O ⟨y,N,e,F,a,P,k,G,A,f,B,K,J⟩=>?_) hs
 subst G A B
 cases (show u=Value.ref a from t)
 cases (show r=Value.bool true from j)
 obtain⟨⟨z,L,M⟩,_⟩:=(show z8 _ _ _ _ a _ from e.hok a _ f)
 refine wpAny_setItem_pairs (hsz:=by rw[tkv];grind) (Bq1 F) M λR c hs=>⟨d,_,?_,J⟩
 rw[Ae4]at c
 exact Wx e (by rw[f];trivial) hs (let ⟨q,_,_,hq,_⟩:=c; ⟨q,hq⟩) (Ba0 ⟨Nat.le_trans (Ab4 _ k) K,L,c⟩)
theorem A9k {p:Pos}(hc:X.calm=true)(hg:Gl X "tuple") (hm:X.mg "tuple" = none) (he:QE X e te) (hs1:isStar e=false:=by rfl):QE X (.Call (.Name "tuple" p) [e] [] pos) (A9z X.prog X.w te):=by
 refine⟨?_⟩
 intro g s y H Q I h;have f:=Ho (es:=[]) (env:=X.env) hs1
 refine Call_ (Je I hg hm Z8 (PyProof.Rows.callWith_type1 ?_ f rfl))
 rw[f]
 show wpAny _ _ (spliced ((false,eval e X.env)::backTo pos (starEach [] X.env))) _ _ s
 refine Calls.spliced_cons (thn (he.1 g s y H _ I h) λu m ⟨v,A,r,F,a,k,N,P,q⟩=>Calls.spliced_nil ?_)
 subst N
 cases (show u=Value.ref a from F)
 obtain⟨⟨z,x,o,j,R,B,C,D,_,E,_⟩,_⟩:=(show z8 X.prog X.w A m.heap a (.ext (dN X.prog X.w a k)) from r.hok a _ P)
 have n:=Vb E
 have G:j.size=k.length:=by have l:=n.length;rw[List.length_map,List.length_map,Array.length_toList]at l;exact l.symm
 refine Vu (I.ok.hd hc) x B C D (by rw[G];exact z) λJ L d M c=>?_
 have K:d.toList=j.toList.map (·.key):=by
  apply List.ext_getElem
  ·rw[List.length_map];exact c.1
  ·intro i T U
   obtain⟨S,O⟩:=c.2 i _ (Array.getElem?_eq_getElem _);rw[Array.getElem_toList,O,List.getElem_map];rfl
 have t:Inv X _ _ _ { m with heap:=J,toks:=L }:=r.kept M
 have w := t.hok.fresh (Nat.le_refl _)
 refine⟨.ref _,upd _ _ _,t.laid (λb u e=>Heap.get?_push_of_some _ e) (Nat.le_refl _) ?_,rfl,q _ w⟩
 exact⟨by rw[List.length_map];exact z,d.toList,by rw[K];exact n,_,Heap.get?_push_size _ rfl,rfl,⟨0,by simp⟩,rfl⟩
theorem A0p:QE X (.Dict [] [] pos) (Ag2 X.prog X.w):=⟨A1o⟩
theorem A7f (ho:QE X o td)(hi:QE X i ty)(hv:QE X value tv)(hs:swapsWith value (some (.Subscript o i pos')) pos.line X.env=pure false:=by rfl) :
 QS X (.Assign [.Subscript o i pos'] value pos) (A4q X.prog X.w td ty tv):=⟨A6m ho.get hi.get hv.get hs⟩
end
end L2
namespace U
open PySem L2 PySem.W
noncomputable def A4f:PyData->Bool
 | .none=>true
 | .int _=>true
 | .str _=>true
 | _=>false
noncomputable def Oj:List PyData->List PyData->List PyData
 | ks,[]=>ks
 | ks,d::ds=>Oj (if ks.any (λk=>PyData.eqv k d)=true then ks else ks++[d]) ds
noncomputable def nD:G7->PyData
 | none=>.none
 | some (.inl i)=>.int i
 | some (.inr x)=>.str x
theorem A5p {d:PyData}(h:A4f d=true):∃k,d=nD k:=by
 cases d with
 | none=>exact⟨none,rfl⟩
 | int i=>exact⟨some (.inl i),rfl⟩
 | str x=>exact⟨some (.inr x),rfl⟩
 | _=>cases h
theorem Xc:∀k,keyB (nD k)=true
 | none=>rfl
 | some (.inl _)=>rfl
 | some (.inr _)=>rfl
theorem Bk4:∀{a b:G7},nD a=nD b->a=b
 | none,none,_=>rfl
 | none,some (.inl _),e=>nomatch e
 | none,some (.inr _),e=>nomatch e
 | some (.inl _),none,e=>nomatch e
 | some (.inr _),none,e=>nomatch e
 | some (.inl _),some (.inr _),e=>nomatch e
 | some (.inr _),some (.inl _),e=>nomatch e
 | some (.inl _),some (.inl _),e=>by injection e with e;rw[e]
 | some (.inr _),some (.inr _),e=>by injection e with e;rw[e]
theorem Bn3 {Hf:Hp}:∀{k:G7}{v:V},Tr Hf (nD k) v->v=nV k
 | none,_,h=>h
 | some (.inl _),_,h=>h
 | some (.inr _),_,h=>h
theorem Bs7 {Hf:Hp}:∀{k:G7},Tr Hf (nD k) (nV k)
 | none=>rfl
 | some (.inl _)=>rfl
 | some (.inr _)=>rfl
theorem A3y {Hf:Hp}:∀(ks:List G7),TrL Hf (ks.map nD) (ks.map nV)
 | []=>rfl
 | k::ks=>⟨nV k,ks.map nV,rfl,Bs7,A3y ks⟩
theorem Bg9 (ks:List G7)(k:G7):(if (ks.map nD).any (λx=>PyData.eqv x (nD k))=true then ks.map nD else ks.map nD++[nD k])=(Xg ks k).map nD:=by
 have e:(ks.map nD).any (λx=>PyData.eqv x (nD k))=ks.any λx=>decide (x=k):=by
  rw[List.any_map]
  refine congrArg _ (funext λx=>?_)
  by_cases h:x=k
  ·rw[decide_eq_true h,h];exact(Sh _ _ (Xc k) (Xc k)).mpr rfl
  ·rw[decide_eq_false h]
   exact Bool.eq_false_iff.mpr λz=>h (Bk4 ((Sh _ _ (Xc x) (Xc k)).mp z))
 unfold Xg
 grind
section
variable {K:PySem.W.Frag}{β:Nat->V}{W W1:Wo}{c:Ev}{σ:St}{D:Ends}{P:Program}{w:World}{d e:Nat}{a:Addr}{ks:List G7}
theorem Rep.blot (R:Rep K β W c σ){v:V}:Rep K β W (c.set e none) (σ.set e (some v)):=by
 refine⟨R.sub,by rw[List.length_set,List.length_set];exact R.len,λj a q=>?_,R.dis,R.own⟩
 have z:e≠j:=λz=>by
  grind
 rw[List.getElem?_set_ne z]at q ⊢;exact R.get j _ q
theorem Rep.blotC (R:Rep K β W c σ):Rep K β W (c.set e none) σ:=by
 refine⟨R.sub,by rw[List.length_set];exact R.len,λj a q=>?_,R.dis,R.own⟩
 have z:e≠j:=λz=>by
  grind
 rw[List.getElem?_set_ne z]at q;exact R.get j _ q
structure DN (P:Program) (w:World) (W:Wo) (a:Addr) (ks:List G7):Prop where
 at_:W.H a=some (.ext (dN P w a ks))
 fr:W.Hf a=none
 ns:¬ W.S a
theorem DN.step (h:DN P w W a ks)(st:Stp W.S W.Hf W.H W1.S W1.Hf W1.H):DN P w W1 a ks :=
 ⟨st.kp a _ h.at_ h.ns,st.nf a _ h.at_ trivial h.ns h.fr,λz=>by
  rcases st.fr a z with q | q
  ·exact h.ns q
  ·rw[h.at_]at q;grind⟩
def A4l (d e:Nat)(fi:Ev->R (List PyData)):Ev->SR:=λc=>if d<c.length/\e<c.length then (fi (c.set d none)).toS λds c=>if (ds.all A4f&&decide (ds.length<16000000))=true then .rt (.o (.im (.tuple (Oj [] ds)))) (c.set e none) else .bad
 else .bad
theorem A7e {wi:TI}{fi:Ev->R (List PyData)}{tv:TE}(hi:MI K wi fi)(ne:d≠e)(ht:∀h H Q,Q (.bl true) H->tv h H Q) :
 MS K (Ax3 (Af9 (Ag2 P w) (K3 d)) (Ax3 (A7h wi (K3 e) (A4q P w (Xv d) (Xv e) tv)) (Bg7 (A9z P w (Xv d))))) (A4l d e fi):=by
 intro β W c h D R l;unfold A4l at l
 by_cases hde:d<c.length/\e<c.length
 ·rw[if_pos hde]at l
  obtain⟨hdl,hel⟩:=hde
  show ∀p,W.H p=none->wi (h.set d (some (.ref p))) (upd W.H p (.ext (dN P w p []))) _
  intro p I
  have R0:Rep K β ⟨W.Hf,upd W.H p (.ext (dN P w p [])),W.fps⟩ (c.set d none) (h.set d (some (.ref p))) :=
   (R.blot (e:=d) (v:=.ref p)).frame (Same.refl _) (Ye R.sub I) λb ⟨i,E⟩=>by
    obtain⟨z,o,q,_⟩:=R.own i b E;exact⟨z,Ar (Bl q I)⟩
  have hs:(h.set d (some (.ref p)))[d]?=some (some (V.ref p)):=List.getElem?_set_self (by rw[<- R.len];exact hdl)
  have D0:DN P w ⟨W.Hf,upd W.H p (.ext (dN P w p [])),W.fps⟩ p []:=⟨Bw,R.notF I,R.notS I⟩
  have st0:Stp W.S W.Hf W.H (orS W.S [p]) W.Hf (upd W.H p (.ext (dN P w p []))) :=
   ⟨Same.refl _,λb o q _=>by rw[Ar (Bl q I)];exact q,λ_ _ _ _ _ q=>q,λb z=>by
    rcases z with z | z
    ·exact .inl z
    ·cases List.mem_singleton.mp z;exact .inr I⟩
  refine hi β _ _ _ _ R0 ((Hw l).mono λg c1 l1 J W1 O R1 it=>?_)
  by_cases E:(g.all A4f&&decide (g.length<16000000))=true
  ·rw[if_pos E]at l1
   obtain⟨hk,hn⟩:=Bool.and_eq_true_iff.mp E;have hn:=of_decide_eq_true hn
   refine⟨λi m h H=>∃f r,f.H=H/\Rep K β f (c1.set e none) h/\m=g.length-i/\i<=g.length/\Same W1.Hf f.Hf/\h[d]?=some (some (.ref p))/\DN P w f p r/\r.length<=i/\Oj (r.map nD) (g.drop i)=Oj [] g/\Stp W.S W.Hf W.H (orS f.S [p]) f.Hf f.H,
    ⟨_,W1,[],rfl,R1.blotC,rfl,Nat.zero_le _,Same.refl _,hs,D0.step O,Nat.zero_le _,rfl,st0.trans (Stp.more (F:=λb=>b∈[p]) O)⟩,?_⟩
   rintro i m h H ⟨f,r,rfl,M,rfl,hle,sm,U,L,S,ek,N⟩
   obtain⟨C,hgo⟩:=it i f.Hf f.H sm M.sub
   by_cases lt:i<g.length
   ·obtain⟨q1,q2⟩:=hgo g[i] (List.getElem?_eq_getElem lt)
    refine .inr ⟨q1,λG y=>∃f r,f.H=y/\Rep K β f (c1.set e none) G/\Same W1.Hf f.Hf/\G[d]?=some (some (.ref p))/\DN P w f p r/\r.length<=i+1/\Oj (r.map nD) (g.drop (i+1))=Oj [] g/\Stp W.S W.Hf W.H (orS f.S [p]) f.Hf f.H,
     λG y ⟨W3,k3,y1,T,s3,y2,y3,y4,y5,y6⟩=>⟨g.length-(i+1),by omega,W3,k3,y1,T,rfl,by omega,s3,y2,y3,y4,y5,y6⟩,λx y hy=>?_⟩
    obtain⟨A,t,B,tx⟩:=q2 x y hy;have T:=t.rep M B
    have X:Stp f.S f.Hf f.H (Wo.S ⟨A,y,f.fps⟩) A y:=⟨t.fz,λa o e _=>t.kp a o e λz=>z,λa o e mu _ q=>t.nf a o e mu (λz=>z) q,λa z=>.inl z⟩
    have s:=L.step (W1:=⟨A,y,f.fps⟩) X;obtain⟨k,Y⟩:=A5p (List.all_eq_true.mp hk g[i] (List.getElem_mem lt));rw[Y]at tx
    cases Bn3 tx
    have R4:=T.blot (e:=e) (v:=nV k);rw[List.set_set]at R4
    have hl4:e<h.length:=by
     have z1:=M.len;have z2:=R1.len;have z3:=R.len;rw[List.length_set]at z1 z2;omega
    have Z:(h.set e (some (nV k)))[d]?=some (some (.ref p)):=by rw[List.getElem?_set_ne (Ne.symm ne)];exact U
    show tv (h.set e (some (nV k))) y _
    refine ht _ _ _ ⟨_,Z,_,List.getElem?_set_self hl4,p,r,k,rfl,rfl,s.at_,rfl,Nat.lt_of_le_of_lt (Nat.le_trans S (Nat.le_of_lt lt)) (Nat.lt_of_lt_of_le hn (lim (Nat.le_refl _))),?_⟩
    have hH:∀b,b≠p->upd _ p (.ext (dN P w p (Xg r k))) b=y b:=λb n=>Ar n
    refine⟨⟨A,upd _ p _,f.fps⟩,Xg _ k,rfl,R4.frame (Same.refl _) (λb u q=>?_) λb E=>?_,sm.trans t.fz,Z,⟨Bw,s.fr,s.ns⟩,Nat.le_trans (Ab4 _ k) (Nat.succ_le_succ S),?_,?_⟩
    ·rw[hH b (λz=>nomatch (show (none:Option _)=some u from (s.fr)▸z▸q))];exact B b u q
    ·obtain⟨j,hj⟩:=E
     exact⟨(R4.own j b hj).1,hH b λz=>s.ns (z▸⟨j,hj⟩)⟩
    ·rw[Nf lt,Y]at ek
     rw[<- ek,<- Bg9];rfl
    ·refine (N.trans (Stp.more X)).trans ⟨Same.refl _,λb o q n=>?_,λ_ _ _ _ _ q=>q,λ_ z=>.inl z⟩
     show upd _ p _ b=_
     rw[hH b λz=>n (.inr (by rw[z];exact .head _))];exact q
   ·have e1:i=g.length:=by omega
    subst e1;rw[List.drop_length]at ek
    refine .inl ⟨C rfl,_,U,p,r,rfl,L.at_,λz hz=>?_⟩
    refine New.tup (New.of M λv W3 fp st3 T r3=>l1 _ v _ _ ?_ T r3) M.sub (ek▸A3y _) hz
    exact(N.less λb z=>.inl z).trans st3
  ·rw[if_neg E]at l1;exact l1.elim
 ·rw[if_neg hde]at l;exact l.elim
end
end U
namespace L2
open PySem PySem.Spec PyProof.Rows
open PySem.AutoSeq1 (wpAny_loadPart')
end L2
namespace L2
open PySem PySem.Spec PyProof.Rows PySem.Calls
open PySem.AutoSeq1 (wpAny_loadPart')
end L2
namespace U
open PySem L2
end U
namespace U
open PySem L2 PySem.W
variable {K:PySem.W.Frag}{W:Wo}{c:Ev}{H:Hp}
def A3p (j:Nat)(fi:Ev->R (List PyData)):Ev->R (List PyData):=λc=>(Ab j c).bind λp c=>(frz (nrm p) c).bind λ_ c=>fi c
theorem Bc9 (h:MI K b fi):MI K b (A3p j fi):=by
 intro z W c i k R s
 obtain⟨_,_,q⟩:=me_var.toV _ W c _ (λ_ u=>u=W.H->b i W.H k) R (s.bnd.mono λp x l v H e m n A=>by
  obtain⟨d,E,G,_,o,y,a,t,B⟩:=Hh m n l.bnd
  have q:=h _ _ _ _ k t (o.mono λC D r J F f w g=>r J _ (e.trans (a.trans f)) w g)
  grind)
 grind
end U
namespace L2
open PySem PySem.Spec PyProof.Rows
abbrev Bu5 (h:Heap)(it d:Addr)(i n ep:Nat)(x:Value)(b:Bool)(ok ov:Value):Prop :=
 h.get? it=some { cls:=.type "dict_itemiterator",dict:=none,data:=.fields #[x,.bool b,.ref d,.int i 0,.int n 0,.int ep 0,ok,ov],slots:=#[] }
def Is (h:Heap)(it d:Addr)(i n ep:Nat):Prop:=(∃ok ov,IsItemIter h it d i n ep ok ov)\/∃p0 b ok ov,p0≠it/\(∃o,h.get? p0=some o)/\Bu5 h it d i n ep (rawInt (p0:Nat)) b ok ov
end L2
namespace U
open PySem L2
section
variable {K:PySem.W.Frag}{β:Nat->V}{W W1:Wo}{c:Ev}{σ:St}{e:Nat}{a b:Addr}
theorem Rep.gone (R:Rep K β W c σ){v:V}:Rep K β W (c.set e none) (σ.set e (some v)):=by
 refine⟨R.sub,by rw[List.length_set,List.length_set];exact R.len,λj o' q=>?_,R.dis,R.own⟩
 have z:e≠j:=λz=>by
  subst z
  by_cases l:e<c.length
  ·rw[List.getElem?_set_self l]at q;cases q
  ·rw[List.getElem?_eq_none (by rw[List.length_set];omega)]at q;cases q
 rw[List.getElem?_set_ne z]at q ⊢;exact R.get j o' q
structure Ow (W:Wo) (a:Addr) (o:HO):Prop where
 at_:W.H a=some o
 fr:W.Hf a=none
 ns:¬ W.S a
theorem Ow.step {o:HO}(h:Ow W a o)(m:Mut (some o))(st:Stp W.S W.Hf W.H W1.S W1.Hf W1.H):Ow W1 a o :=
 ⟨st.kp a _ h.at_ h.ns,st.nf a _ h.at_ m h.ns h.fr,λz=>by
  rcases st.fr a z with q | q
  ·exact h.ns q
  ·rw[h.at_]at q;cases q⟩
theorem Ow.mk_new {o:HO}(R:Rep K β W c σ)(hp:W.H a=none):Rep K β ⟨W.Hf,upd W.H a o,W.fps⟩ c σ/\Ow ⟨W.Hf,upd W.H a o,W.fps⟩ a o :=
 ⟨R.frame (Same.refl _) (Ye R.sub hp) λb ⟨i,hb⟩=>by
  obtain⟨z,u,q,_⟩:=R.own i b hb
  exact⟨z,Ar (Bl q hp)⟩,Bw,R.notF hp,R.notS hp⟩
theorem Ow.put {o u:HO}(R:Rep K β W c σ)(h:Ow W a o):Rep K β ⟨W.Hf,upd W.H a u,W.fps⟩ c σ/\Ow ⟨W.Hf,upd W.H a u,W.fps⟩ a u :=
 ⟨R.frame (Same.refl _) (λb w q=>by
  show upd W.H a u b=_
  rw[Ar (λz=>by rw[z,h.fr]at q;cases q)];exact R.sub b w q) λb hb =>
  ⟨by obtain⟨i,hi⟩:=hb;exact(R.own i b hi).1,Ar λz=>h.ns (z▸hb)⟩,Bw,h.fr,h.ns⟩
theorem A6l {F:List Addr}{Hf H H':Hp}{S S':Addr->Prop}{Hf':Hp}{o:HO}(st:Stp S Hf H (orS S' F) Hf' H')(hp:H' a=none):Stp S Hf H (orS S' (a::F)) Hf' (upd H' a o) :=
 st.trans ⟨Same.refl _,λb u q _=>(Ar (Bl q hp)).trans q,λ_ _ _ _ _ q=>q,λb z=>by
  rcases z with z | z
  ·exact .inl (.inl z)
  ·rcases List.mem_cons.mp z with rfl | z
   ·exact .inr hp
   ·exact .inl (.inr z)⟩
theorem A8w {F:List Addr}{Hf H H':Hp}{S S':Addr->Prop}{Hf':Hp}{o:HO}(st:Stp S Hf H (orS S' F) Hf' H')(ha:a∈F):Stp S Hf H (orS S' F) Hf' (upd H' a o) :=
 st.trans ⟨Same.refl _,λb u q n=>(Ar λz=>n (.inr (by rw[z];exact ha))).trans q,λ_ _ _ _ _ q=>q,λ_ z=>.inl z⟩
theorem A3x {F:List Addr}{W2:Wo}(st:Stp W.S W.Hf W.H (orS W1.S F) W1.Hf W1.H)(x:Stp W1.S W1.Hf W1.H W2.S W2.Hf W2.H):Stp W.S W.Hf W.H (orS W2.S F) W2.Hf W2.H:=st.trans (Stp.more (F:=λb=>b∈F) x)
theorem A4g {Hf:Hp}{ds:List PyData}{vs:List V}{d:PyData}{v:V}(t:TrL Hf ds vs)(h:Tr Hf d v):TrL Hf (ds++[d]) (vs++[v]):=t.app (TrL.one h)
end
end U
namespace U
open PySem L2 PySem.W
noncomputable def Bp1 (ks:List PyData):List PyData:=ks.map λ_=>.bool true
structure DD (W:Wo) (a:Addr) (ks ds:List PyData) (xs:List V):Prop where
 ow:Ow W a (.dT (ks.zip xs))
 tr:TrL W.Hf ds xs
 len:ks.length=xs.length
 ky:∀k∈ks,Bv2 k=true
section
variable {K:PySem.W.Frag}{β:Nat->V}{W W0:Wo}{c:Ev}{σ:St}{dh dr i:Nat}{p r:Addr}{hs rs rd:List PyData}{xs ys:List V}
structure WI (K:PySem.W.Frag) (β:Nat->V) (W0 W:Wo) (c:Ev) (σ:St) (dh dr:Nat) (p r:Addr) (hs rs rd:List PyData) (xs ys:List V):Prop where
 R:Rep K β W c σ
 sh:σ[dh]?=some (some (.ref p))
 sr:σ[dr]?=some (some (.ref r))
 oh:DD W p hs (Bp1 hs) xs
 or_:DD W r rs rd ys
 ne:p≠r
 st:Stp W0.S W0.Hf W0.H (orS W.S [p,r]) W.Hf W.H
theorem Bl8 {l:List (Option V)}{d:Nat}{x:Option V}(h:l[d]?=some x):l.set d x=l:=by
 apply List.ext_getElem?;intro i
 by_cases q:i=d
 ·subst q
  rw[List.getElem?_set_self (by rcases Nat.lt_or_ge i l.length with q | q;exact q;rw[List.getElem?_eq_none q]at h;cases h),h]
 ·rw[List.getElem?_set_ne (λy=>q y.symm)]
end
end U
namespace L2
open PySem
theorem Ij {x:Str}{j}{pos:Pos}:Jl (.Constant (.str x) j pos):=λ_ _=>rfl
theorem A0x {X:Cx}{pos:Pos}:QE X (.Dict [] [] pos) Ad9:=⟨A2r⟩
end L2
namespace U
open PySem L2 PySem.W
section
variable {K:PySem.W.Frag}{β:Nat->V}{W W0 W1 W2:Wo}{c c':Ev}{σ σ' σe:St}{D:Ends}{d e:Nat}{p:Addr}{ss:List Str}{ds:List PyData}{xs:List V}
 {wi:TI} {tv:TE} {T:TS} {fi:Ev->R (List PyData)} {f:Ev->R PV} {g:Ev->SR}
abbrev KW:=Ev×List Str×List PyData
def Nq (e:Nat)(f:Ev->R PV):PyData->KW->Option KW
 | .str s,(c,ss,ds)=>match ((cgN e (.o (.im (.str s))) c).bind λ_ c=>(f c).bind λq c=>frz (nrm q) c) with
  | .ok y c=>if s∉ss/\ss.length<16000000 then some (c,ss++[s],ds++[y]) else none
  | .bad=>none
 | _,_=>none
noncomputable def K5 (f:PyData->KW->Option KW):List PyData->KW->Option KW
 | [],w=>some w
 | x::l,w=>match f x w with
  | some w=>K5 f l w
  | none=>none
def Am3 (d e:Nat)(fi:Ev->R (List PyData))(f:Ev->R PV)(g:Ev->SR):Ev->SR:=λc =>
 if d<c.length/\e<c.length/\e≠d then (fi (c.set d none)).toS λits c=>match K5 (Nq e f) its (c,[],[]) with
  | some (c,ss,ds)=>g (c.set d (some (.ty (.dc ss ds))))
  | none=>.bad
 else .bad
structure DQ (W:Wo) (a:Addr) (ss:List Str) (ds:List PyData) (xs:List V):Prop where
 ow:Ow W a (.dK (J5 ss xs))
 tr:TrL W.Hf ds xs
 len:ss.length=xs.length
theorem DQ.step (h:DQ W p ss ds xs)(st:Stp W.S W.Hf W.H W1.S W1.Hf W1.H):DQ W1 p ss ds xs:=⟨h.ow.step trivial st,TrL.same st.fz h.tr,h.len⟩
structure KI (K:PySem.W.Frag) (β:Nat->V) (W0 W:Wo) (c:Ev) (σ:St) (d:Nat) (p:Addr) (ss:List Str) (ds:List PyData) (xs:List V):Prop where
 R:Rep K β W c σ
 sd:σ[d]?=some (some (.ref p))
 q:DQ W p ss ds xs
 st:Stp W0.S W0.Hf W0.H (orS W.S [p]) W.Hf W.H
theorem KI.other (h:KI K β W0 W c σ d p ss ds xs)(st:Stp W.S W.Hf W.H W2.S W2.Hf W2.H)(R:Rep K β W2 c' σe)(sd:σe[d]?=some (some (.ref p))):KI K β W0 W2 c' σe d p ss ds xs:=⟨R,sd,h.q.step st,A3x h.st st⟩
theorem A7c {s:Str}{v:V}(hl:ss.length=xs.length)(h:s∉ss):putK (J5 ss xs) (Sum.inr s:Key) v=J5 (ss++[s]) (xs++[v]):=by
 have e:(J5 ss xs).any (λkv=>decide (kv.1=(Sum.inr s:Key)))=false:=by
  rw[List.any_eq_false];intro kv hk;obtain⟨z,hz,rfl⟩:=List.mem_map.mp hk;have:=(List.of_mem_zip hz).1
  simpa using λq:(Sum.inr z.1:Key)=Sum.inr s=>h (Sum.inr.inj q▸this)
 unfold putK;rw[e,if_neg Bool.false_ne_true];unfold J5;rw[List.zip_append hl,List.map_append];rfl
theorem Bt7 {α γ:Type}{a:R α}{k:α->Ev->R γ}{x:γ}{c':Ev}(e:a.bind k=.ok x c'):a.sat λy c=>k y c=.ok x c':=by
 cases a with
 | ok y c=>exact e
 | bad=>cases e
theorem A6k (hi:MI K wi fi)(hv:ME K tv f)(hT:MS K T g):MS K (Ax3 (Af9 Ad9 (K3 d)) (Ax3 (A7h wi (K3 e) (A4x (Xv d) (Xv e) tv)) T)) (Am3 d e fi f g):=by
 intro β W c σ D R l;unfold Am3 at l
 by_cases hde:d<c.length/\e<c.length/\e≠d
 ·rw[if_pos hde]at l
  obtain⟨hdl,hel,hne⟩:=hde
  show ∀p,W.H p=none->wi (σ.set d (some (.ref p))) (upd W.H p (.dK [])) _
  intro p hp;obtain⟨R1,o1⟩:=Ow.mk_new (a:=p) (o:=.dK []) R hp;have R3:=R1.gone (e:=d) (v:=.ref p);have ls:c.length=σ.length:=R.len
  have hs:(σ.set d (some (.ref p)))[d]?=some (some (V.ref p)):=List.getElem?_set_self (by omega)
  have st0:Stp W.S W.Hf W.H (orS W.S []) W.Hf W.H:=Stp.refl.less λ_ z=>z.elim id λz=>nomatch z
  have I0:KI K β W _ (c.set d none) (σ.set d (some (.ref p))) d p [] [] []:=⟨R3,hs,⟨o1,rfl,rfl⟩,A6l st0 hp⟩
  refine hi β _ _ _ _ R3 ((Hw l).mono λits c1 l1 J W1 st1 R1' it=>?_)
  have I1:=I0.other st1 R1' hs
  cases eL:K5 (Nq e f) its (c1,[],[]) with
  | none=>rw[eL]at l1;exact l1.elim
  | some z =>
   rw[eL]at l1;obtain⟨cz,sz,dz⟩:=z
   refine⟨λn m σ H=>∃W2 c2 ss ds xs,W2.H=H/\KI K β W W2 c2 σ d p ss ds xs/\e<σ.length/\m=its.length-n/\n<=its.length/\Same W1.Hf W2.Hf/\K5 (Nq e f) (its.drop n) (c2,ss,ds)=some (cz,sz,dz),
    ⟨_,W1,c1,[],[],[],rfl,I1,by rw[List.length_set];omega,rfl,Nat.zero_le _,Same.refl _,eL⟩,?_⟩
   rintro n m σ2 H ⟨W2,c2,ss,ds,xs,rfl,I2,hel2,rfl,hle,sm,L⟩
   obtain⟨hstop,hgo⟩:=it n W2.Hf W2.H sm I2.R.sub
   by_cases lt:n<its.length
   ·obtain⟨q1,q2⟩:=hgo its[n] (List.getElem?_eq_getElem lt)
    refine .inr ⟨q1,λσ' H'=>∃W2 c2 ss ds xs,W2.H=H'/\KI K β W W2 c2 σ' d p ss ds xs/\e<σ'.length/\Same W1.Hf W2.Hf/\K5 (Nq e f) (its.drop (n+1)) (c2,ss,ds)=some (cz,sz,dz),
     λσ' H' ⟨W3,c3,ss,ds,xs,y1,I3,el3,s3,L3⟩=>⟨its.length-(n+1),by omega,W3,c3,ss,ds,xs,y1,I3,el3,rfl,by omega,s3,L3⟩,λx H' hy=>?_⟩
    obtain⟨Hf2,stx,sub2,tx⟩:=q2 x H' hy;have R3:=stx.rep I2.R sub2
    have sty:Stp W2.S W2.Hf W2.H (Wo.S ⟨Hf2,H',W2.fps⟩) Hf2 H':=⟨stx.fz,λa o e _=>stx.kp a o e λz=>z,λa o e mu _ q=>stx.nf a o e mu (λz=>z) q,λa z=>.inl z⟩
    rw[Nf lt]at L;unfold K5 at L
    cases ew:Nq e f its[n] (c2,ss,ds) with
    | none=>rw[ew]at L;cases L
    | some w =>
    rw[ew]at L;unfold Nq at ew
    split at ew
    ·rename_i s c2' ss' ds' ex eq
     cases eq
     rw[ex]at tx
     cases (show x=V.str s from tx)
     split at ew
     ·rename_i y c5 em
      by_cases hb:s∉ss/\ss.length<16000000
      ·rw[if_pos hb]at ew
       cases ew
       have em:(f (c2.set e (some (.im (.str s))))).bind (λq c=>frz (nrm q) c)=.ok y c5:=em
       refine A5e hne _ _ _ _ (Ak β ⟨Hf2,H',W2.fps⟩ c2 σ2 (.o (.im (.str s))) (.str s) [] _ R3 ⟨⟨rfl,rfl⟩,λa z=>nomatch z⟩ ?_)
       intro σ3 W3 st3 R3' s3d
       have st3:=st3.up (S2:=W2.S) λa z=>by
        rcases z with z | z
        ·exact z
        ·cases z
       have sd3:=s3d.trans I2.sd;have I3:=I2.other (sty.trans st3) R3' sd3;have l3:=R3'.len;have l2:=I2.R.len;rw[List.length_set]at l3
       refine hv.toV β W3 _ σ3 _ R3' ((Bt7 em).mono λq c4 l4 v W4 st4 R4 r4=>?_)
       obtain⟨y',c5',W5,_,⟨rfl,rfl⟩,e5,st5,R5,t5⟩:=Hh R4 r4 (show (frz (nrm q) c4).sat (λy' c'=>y'=y/\c'=c5) by rw[l4];exact⟨rfl,rfl⟩)
       have I5:=I3.other (st4.trans st5) R5 sd3
       obtain⟨u,u1,u2,_⟩:=R3'.get e (.im (.str s)) (List.getElem?_set_self (by omega))
       cases (show u=V.str s from u2.2)
       obtain⟨R6,o6⟩:=Ow.put (u:=.dK (J5 (ss++[s]) (xs++[v]))) R5 I5.q.ow
       show ∃x,σ3[d]?=some (some x)/\_
       rw[<- e5]
       refine⟨_,sd3,_,u1,p,_,rfl,DPut.k (k:=Sum.inr s) I5.q.ow.at_ ?_,?_⟩
       ·unfold J5
        rw[List.length_map,List.length_zip,<- I5.q.len,Nat.min_self]
        exact Nat.lt_of_lt_of_le hb.2 (by decide)
       ·rw[A7c I5.q.len hb.1]
        exact⟨⟨W5.Hf,upd W5.H p (.dK (J5 (ss++[s]) (xs++[v]))),W5.fps⟩,_,_,_,_,rfl,⟨R6,sd3,⟨o6,A4g I5.q.tr t5,by rw[List.length_append,List.length_append,I5.q.len];rfl⟩,A8w I5.st (.head _)⟩,by omega,(sm.trans (sty.trans st3).fz).trans (st4.trans st5).fz,L⟩
      ·rw[if_neg hb]at ew;cases ew
     ·cases ew
    ·cases ew
   ·have e1:n=its.length:=by omega
    subst e1;rw[List.drop_length]at L
    cases (show some (c2,ss,ds)=some (cz,sz,dz) from L)
    have fh:Same W2.Hf (upd W2.Hf p (.dK (J5 sz xs))):=Cq I2.q.ow.fr
    have Rf:Rep K β ⟨upd W2.Hf p (.dK (J5 sz xs)),W2.H,W2.fps⟩ cz σ2:=I2.R.frame fh (λb u e=>by
     by_cases z:b=p
     ·subst z;rw[Bw]at e;rw[I2.q.ow.at_];exact e
     ·rw[Ar z]at e;exact I2.R.sub b u e) λb hb=>by
     have nh:b≠p:=λz=>I2.q.ow.ns (by rw[<- z];exact hb)
     obtain⟨k,hk⟩:=hb
     exact⟨by rw[Ar nh];exact(I2.R.own k b hk).1,rfl⟩
    have R5:=Rf.setN (i:=d) (o:=.ty (.dc sz dz)) (v:=.ref p) ⟨p,xs,rfl,Bw,TrL.same fh I2.q.tr⟩ rfl;rw[Bl8 I2.sd]at R5
    have stF:Stp W.S W.Hf W.H (Wo.S ⟨upd W2.Hf p (.dK (J5 sz xs)),W2.H,clr W2.fps d⟩) (upd W2.Hf p (.dK (J5 sz xs))) W2.H :=
     I2.st.trans ⟨fh,λb u e _=>e,λb u _ _ n q=>by rw[Ar (λz=>n (.inr (by rw[z];exact .head _)))];exact q,λb ⟨k,hb⟩=>.inl (.inl ⟨k,(Gv hb).1⟩)⟩
    exact .inl ⟨hstop rfl,hT β ⟨upd W2.Hf p (.dK (J5 sz xs)),W2.H,clr W2.fps d⟩ _ σ2 D R5 (zK.step l1 stF)⟩
 ·rw[if_neg hde]at l;exact l.elim
end
end U
namespace PS
open PySem PySem.W PyProof.Rows L2
theorem Jz {α β:Type}{B:Nat->Nat->Option Bool}{f:α->KasT β}:∀t:KasT α,kEv B (t.bind f)=(kEv B t).bind λa=>kEv B (f a)
 | .ret a=>rfl
 | .ask i j k=>by
  show (B i j).bind (λb=>kEv B ((k b).bind f))=((B i j).bind λb=>kEv B (k b)).bind λa=>kEv B (f a)
  rw[Option.bind_assoc]
  congr 1;funext b
  exact Jz (k b)
structure Ord (lt:Nat->Nat->Bool):Prop where
 irr:∀a,lt a a=false
 tr:∀a b c,lt a b=true->lt b c=true->lt a c=true
 neg:∀a b c,lt a c=true->lt a b=true\/lt b c=true
def Rr (lt:Nat->Nat->Bool)(x y:Nat):Prop:=lt x y=true\/(lt y x=false/\x<y)
section
variable {lt:Nat->Nat->Bool}{B:Nat->Nat->Option Bool}{n:Nat}{p:Array Nat}
theorem Ord.no (O:Ord lt) (h:lt a b=true):lt b a=false:=by
 cases e:lt b a with
 | false=>rfl
 | true=>have:=O.tr _ _ _ h e;rw[O.irr]at this;trivial
theorem Rr.trans (O:Ord lt) (h:Rr lt a b) (k:Rr lt b c):Rr lt a c:=by
 rcases h with h | ⟨h,f⟩
 ·rcases k with k | ⟨k,d⟩
  ·exact .inl (O.tr _ _ _ h k)
  ·rcases O.neg _ c _ h with z | z
   ·exact .inl z
   simp_all
 ·rcases k with k | ⟨k,d⟩
  ·rcases O.neg _ a _ k with z | z
   ·simp_all
   ·exact .inl z
  ·refine .inr ⟨?_,by omega⟩
   cases e:lt c a with
   | false=>rfl
   | true =>
    rcases O.neg _ b _ e with z | z
    ·simp_all
    simp_all
def Eq' (lt:Nat->Nat->Bool)(x y:Nat):Prop:=lt x y=false/\lt y x=false
theorem Eq'.lt_of (O:Ord lt) (h:Eq' lt a b) (k:lt b c=true):lt a c=true:=by
 rcases O.neg _ a _ k with z | z
 ·rw[h.2]at z;grind
 trivial
theorem Eq'.lt_to (O:Ord lt) (h:Eq' lt a b) (k:lt c b=true):lt c a=true:=by
 rcases O.neg _ a _ k with z | z
 ·grind
 ·rw[h.1]at z;grind
theorem Eq'.trans (O:Ord lt) (h:Eq' lt a b) (k:Eq' lt b c):Eq' lt a c:=by
 refine⟨?_,?_⟩
 ·cases e:lt a c with
  | false=>rfl
  | true=>
   rcases O.neg _ b _ e with z | z
   ·rw[h.1]at z;grind
   ·rw[k.1]at z;grind
 ·cases e:lt c a with
  | false=>rfl
  | true=>
   rcases O.neg _ b _ e with z | z
   ·rw[k.2]at z;grind
   ·rw[h.2]at z;grind
theorem gD (p:Array Nat)(k:Nat):p.getD k 0=(p[k]?).getD 0:=by
 simp_all
theorem Jq (hj:j<=p.size) (k:Nat):(kas_rev p i j).getD k 0=if i<=k/\k<j then p.getD (i+j-1-k) 0 else p.getD k 0:=by
 rw[gD,gD,gD,kas_rev,getElem?_mirror_all hj]
 grind
theorem Bj2 (hs:src<p.size) (hd:d<=src) (k:Nat):(bubble p src d).getD k 0=if k=src-d then p.getD src 0 else if src-d<k/\k<=src then p.getD (k-1) 0 else p.getD k 0:=by
 rw[gD,gD,gD,gD,getElem?_bubble hs d hd]
 grind
structure Fx (n:Nat) (p:Array Nat) (k:Nat):Prop where
 sz:p.size=n
 lo:∀i,i<k->p.getD i 0<k
 hi:∀i,k<=i->i<n->p.getD i 0=i
theorem Fx.rev (F:Fx n p k) (hj:j<=k) (hk:k<=n):Fx n (kas_rev p i j) k:=by
 have b:j<=p.size:=by rw[F.sz];omega
 refine⟨(mirror_size _ _ _ _).trans F.sz,λa d=>?_,λa e c=>?_⟩
 ·rw[Jq b]
  split
  ·exact F.lo _ (by omega)
  ·exact F.lo _ d
 ·rw[Jq b,if_neg (by omega)]
  exact F.hi a e c
theorem Fx.up (F:Fx n p k) (hk:k<n):Fx n p (k+1):=by
 refine⟨F.sz,λi b=>?_,λi c a=>F.hi i (by omega) a⟩
 rcases Nat.lt_or_ge i k with h | h
 ·have:=F.lo i h;omega
 ·rw[show i=k by omega,F.hi k (Nat.le_refl _) hk];omega
theorem Fx.bound (F:Fx n p k) (hk:k<=n) (hi:i<n):p.getD i 0<n:=by
 rcases Nat.lt_or_ge i k with h | h
 ·have:=F.lo i h;omega
 ·rw[F.hi i h hi];omega
def So (lt:Nat->Nat->Bool)(p:Array Nat)(k:Nat):Prop:=∀i j,i<j->j<k->Rr lt (p.getD i 0) (p.getD j 0)
theorem So.up (O:Ord lt) (S:So lt p k) (F:Fx n p k) (hk:k<n) (d:0<k) (h:lt (p.getD k 0) (p.getD (k-1) 0)=false):So lt p (k+1):=by
 have a:Rr _ _ _:=.inr ⟨h,by rw[F.hi k (Nat.le_refl _) hk];exact F.lo _ (by omega)⟩
 intro i j b c
 rcases Nat.lt_or_ge j k with z | z
 ·exact S i j b z
 ·have e:j=k:=by omega
  subst e
  rcases Nat.lt_or_ge i _ with y | y
  ·exact(S i _ y (by omega)).trans O a
  grind
theorem Ah0 (O:Ord lt)(hB:∀i j,i<n->j<n->B i j=some (lt i j)):∀(f k:Nat),0<k->k+f=n->Fx n p k->So lt p k->∃m,kEv B (kas_asc p f k)=some m/\k<=m/\m<=n/\Fx n p m/\So lt p m/\(m<n->lt (p.getD m 0) (p.getD (m-1) 0)=true)
 | 0,k,h0,hk,F,S=>⟨k,rfl,Nat.le_refl _,by omega,F,S,λz=>by omega⟩
 | f+1,k,h0,hk,F,S=>by
  have e:kEv B (kas_asc p (f+1) k)=kEv B (if lt (p.getD k 0) (p.getD (k-1) 0)=true then .ret k else kas_asc p f (k+1)):=by
   show (B _ _).bind _=_
   rw[hB _ _ (F.bound (by omega) (by omega)) (F.bound (by omega) (by omega))];rfl
  rw[e]
  cases c:lt (p.getD k 0) (p.getD (k-1) 0) with
  | true=>exact⟨k,rfl,Nat.le_refl _,by omega,F,S,λ_=>c⟩
  | false =>
   obtain⟨m,h1,h2,h3⟩:=Ah0 O hB f (k+1) (by omega) (by omega) (F.up (by omega)) (S.up O F (by omega) h0 c)
   exact⟨m,h1,by omega,h3⟩
structure De (lt:Nat->Nat->Bool) (p:Array Nat) (k q:Nat):Prop where
 hq:q<k
 al:∀i,k-(q+1)<=i->i<k->Eq' lt (p.getD i 0) (p.getD (k-1) 0)
 asc:∀i j,k-(q+1)<=i->i<j->j<k->p.getD i 0<p.getD j 0
 dec:∀i j,i<j->j<k->i<k-(q+1)->Rr lt (p.getD j 0) (p.getD i 0)
 str:∀i j,i<k-(q+1)->k-(q+1)<=j->j<k->lt (p.getD j 0) (p.getD i 0)=true
def Dn (lt:Nat->Nat->Bool)(p:Array Nat)(k:Nat):Prop:=∀i j,i<j->j<k->Rr lt (p.getD j 0) (p.getD i 0)
theorem De.flat (D:De lt p k 0):Dn lt p k:=λi j a b=>D.dec i j a b (by omega)
theorem Eq'.symm (h:Eq' lt a b):Eq' lt b a:=⟨h.2,h.1⟩
theorem Eq'.refl (O:Ord lt)(a:Nat):Eq' lt a a:=⟨O.irr a,O.irr a⟩
theorem Rr.not (O:Ord lt) (h:Rr lt a b):lt b a=false:=by
 rcases h with h | h
 ·exact O.no h
 grind
theorem De.flush (O:Ord lt) (D:De lt p k q) (hs:k<=p.size):Dn lt (kas_rev p (k-(q+1)) k) k:=by
 have e:=D.hq;intro i j a b;have d:=Jq (i:=k-(q+1)) hs i;rw[d,(Jq (i:=k-(q+1)) hs j)]
 by_cases hi:k-(q+1)<=i
 ·rw[if_pos (⟨by omega,by omega⟩:k-(q+1)<=i/\i<k),if_pos (⟨by omega,by omega⟩:k-(q+1)<=j/\j<k)]
  have c:=D.al (k-(q+1)+k-1-i) (by omega) (by omega)
  exact .inr ⟨(c.trans O (D.al (k-(q+1)+k-1-j) (by omega) (by omega)).symm).1,D.asc _ _ (by omega) (by omega) (by omega)⟩
 ·rw[if_neg (by omega:¬ (k-(q+1)<=i/\i<k))]
  by_cases hj':k-(q+1)<=j
  ·rw[if_pos (⟨hj',b⟩)]
   exact .inl (D.str i _ (by omega) (by omega) (by omega))
  ·rw[if_neg (by omega)]
   exact D.dec i j a b (by omega)
theorem Dn.next (O:Ord lt) (D:Dn lt p k) (e:0<k) (h:lt (p.getD k 0) (p.getD (k-1) 0)=true):De lt p (k+1) 0:=by
 have a:∀i,i<k->lt (p.getD k 0) (p.getD i 0)=true:=λi f=>by
  rcases Nat.lt_or_ge i (k-1) with y | y
  ·rcases D i _ y (by omega) with z | ⟨z,_⟩
   ·exact O.tr _ _ _ h z
   ·rcases O.neg _ _ _ h with x | x
    ·exact x
    ·rw[z]at x;cases x
  ·rw[show i=k-1 by omega];exact h
 refine⟨by omega,λi b c=>?_,λi j b c d=>by omega,λi j b c d=>?_,λi j b c d=>?_⟩
 ·rw[show i=k+1-1 by omega];exact Eq'.refl O _
 ·rcases Nat.lt_or_ge j k with z | z
  ·exact D i j b z
  ·rw[show j=k by omega];exact .inl (a i (by omega))
 ·rw[show j=k by omega];exact a i (by omega)
theorem De.more (O:Ord lt) (D:De lt p k q) (F:Fx n p k) (hk:k<n) (h1:lt (p.getD k 0) (p.getD (k-1) 0)=false) (h2:lt (p.getD (k-1) 0) (p.getD k 0)=false):De lt p (k+1) (q+1):=by
 have d:=D.hq;have e:Eq' lt (p.getD (k-1) 0) (p.getD k 0):=⟨h2,h1⟩
 refine⟨by omega,λi b a=>?_,λi j b a c=>?_,λi j b a c=>?_,λi j b a c=>?_⟩
 ·show Eq' lt (p.getD i 0) (p.getD k 0)
  rcases Nat.lt_or_ge i k with z | z
  ·exact(D.al i (by omega) z).trans O e
  ·rw[show i=k by omega];exact Eq'.refl O _
 ·rcases Nat.lt_or_ge j k with z | z
  ·exact D.asc i j (by omega) a z
  ·rw[show j=k by omega,F.hi k (Nat.le_refl _) hk];exact F.lo i (by omega)
 ·rcases Nat.lt_or_ge j k with z | z
  ·exact D.dec i j b z (by omega)
  ·rw[show j=k by omega]
   exact .inl (e.symm.lt_of O (D.str i _ (by omega) (by omega) (by omega)))
 ·rcases Nat.lt_or_ge j k with z | z
  ·exact D.str i j (by omega) (by omega) z
  ·rw[show j=k by omega]
   exact e.symm.lt_of O (D.str i _ (by omega) (by omega) (by omega))
theorem Su (O:Ord lt)(hB:∀i j,i<n->j<n->B i j=some (lt i j)):∀(f:Nat) (p:Array Nat) (k q:Nat),k+f=n->Fx n p k->De lt p k q ->
 ∃p' m q',kEv B (kas_desc f p k q)=some (p',m,q')/\0<m/\m<=n/\Fx n p' m/\De lt p' m q'/\p'.Perm p
 | 0,p,k,q,hk,F,D=>⟨p,k,q,rfl,by have:=D.hq;omega,by omega,F,D,Array.Perm.refl _⟩
 | f+1,p,k,q,hk,F,D=>by
  have hq:=D.hq
  have hkn:k<n:=by omega
  have b1:=F.bound (i:=k) (by omega) (by omega)
  have b2:=F.bound (i:=k-1) (by omega) (by omega)
  have e:kEv B (kas_desc (f+1) p k q)=kEv B (if lt (p.getD k 0) (p.getD (k-1) 0)=true then (if q>0 then kas_desc f (kas_rev p (k-(q+1)) k) (k+1) 0 else kas_desc f p (k+1) 0)
   else .ask (p.getD (k-1) 0) (p.getD k 0) λd=>if d=true then .ret (p,k,q) else kas_desc f p (k+1) (q+1)):=by
   show (B _ _).bind _=_
   rw[hB _ _ b1 b2];rfl
  rw[e]
  cases c:lt (p.getD k 0) (p.getD (k-1) 0) with
  | true =>
   rw[if_pos rfl]
   by_cases h0:q>0
   ·rw[if_pos h0]
    have hs:k<=p.size:=by rw[F.sz];omega
    have g1:(kas_rev p (k-(q+1)) k).getD k 0=p.getD k 0:=by rw[Jq hs,if_neg (by omega)]
    have g2:(kas_rev p (k-(q+1)) k).getD (k-1) 0=p.getD (k-(q+1)) 0:=by rw[Jq hs,if_pos (by omega)];congr 1;omega
    have D2:=(D.flush O hs).next O (by omega) (by rw[g1,g2];exact(D.al (k-(q+1)) (by omega) (by omega)).lt_to O c)
    obtain⟨p',m,q',a1,a2,a3,a4,a5,a6⟩:=Su O hB f _ (k+1) 0 (by omega) ((F.rev (by omega) (by omega)).up hkn) D2
    exact⟨p',m,q',a1,a2,a3,a4,a5,a6.trans (mirror_perm _ _ _ _)⟩
   ·rw[if_neg h0]
    have hq0:q=0:=by omega
    subst hq0
    exact Su O hB f p (k+1) 0 (by omega) (F.up hkn) (D.flat.next O (by omega) c)
  | false =>
   rw[if_neg (by decide)]
   have e2:kEv B (.ask (p.getD (k-1) 0) (p.getD k 0) λd=>if d=true then .ret (p,k,q) else kas_desc f p (k+1) (q+1))=kEv B (if lt (p.getD (k-1) 0) (p.getD k 0)=true then .ret (p,k,q) else kas_desc f p (k+1) (q+1)):=by
    show (B _ _).bind _=_
    rw[hB _ _ b2 b1];rfl
   rw[e2]
   cases d:lt (p.getD (k-1) 0) (p.getD k 0) with
   | true=>exact⟨p,k,q,rfl,by omega,by omega,F,D,Array.Perm.refl _⟩
   | false=>exact Su O hB f p (k+1) (q+1) (by omega) (F.up hkn) (D.more O F hkn c d)
theorem Aa3 (O:Ord lt)(hB:∀i j,i<n->j<n->B i j=some (lt i j)) (c:0<k) (hk:k<=n) (F:Fx n p k) (D:Dn lt p k):∃m p',kEv B (kas_tail3 k n p)=some (m,p')/\0<m/\m<=n/\Fx n p' m/\So lt p' m/\p'.Perm p:=by
 have a:k<=p.size:=by rw[F.sz];omega
 have S:So _ (kas_rev p 0 k) k:=λi j e h=>by
  rw[Jq a i,Jq a j,if_pos (⟨by omega,by omega⟩),if_pos (⟨by omega,by omega⟩)]
  exact D _ _ (by omega) (by omega)
 obtain⟨m,f,l,d,g,b,_⟩:=Ah0 O hB (n-k) k c (by omega) (F.rev (Nat.le_refl _) hk) S
 refine⟨m,kas_rev p 0 k,?_,by omega,d,g,b,mirror_perm _ _ _ _⟩
 rw[kas_tail3,Jz,f];rfl
theorem Ro (O:Ord lt)(hB:∀i j,i<n->j<n->B i j=some (lt i j)) (hk:k<n) (F:Fx n p (k+1)) (D:De lt p (k+1) 0):∃m a,kEv B (kas_descPart k n p)=some (m,a)/\0<m/\m<=n/\Fx n a m/\So lt a m/\a.Perm p:=by
 obtain⟨u,m,q,x,t,f,g,v,w⟩:=Su O hB (n-(k+1)) p _ 0 (by omega) F D
 have e:kEv B (kas_descPart k n p)=kEv B (if q>0 then kas_tail3 m n (kas_rev u (m-(q+1)) m) else kas_tail3 m n u):=by
  rw[kas_descPart,Jz,x];rfl
 rw[e]
 by_cases h0:q>0
 ·rw[if_pos h0]
  obtain⟨d,a,h,c,o,l,r,s⟩:=Aa3 O hB t f (g.rev (Nat.le_refl _) f) (v.flush O (by rw[g.sz];grind))
  exact⟨d,a,h,c,o,l,r,(s.trans (mirror_perm _ _ _ _)).trans w⟩
 ·have b:q=0:=by omega
  subst b;obtain⟨d,a,h,c,o,l,r,s⟩:=Aa3 O hB t f g v.flat;exact⟨d,a,h,c,o,l,r,s.trans w⟩
theorem A4w (O:Ord lt)(hB:∀i j,i<n->j<n->B i j=some (lt i j))(h1:1<=n)(F:Fx n p 1):∃m f,kEv B (kas_count n p)=some (m,f)/\0<m/\m<=n/\Fx n f m/\So lt f m/\f.Perm p:=by
 obtain⟨m,v,K,l,b,k,u⟩:=Ah0 O hB (n-1) 1 (by omega) (by omega) F (λi j h o=>by omega)
 have e:kEv B (kas_count n p)=kEv B (if (m==n)=true then .ret (m,p) else if m>1 then .ask (p.getD 0 0) (p.getD (m-1) 0) λc=>if c=true then .ret (m,p) else kas_descPart m n (kas_rev p 0 m) else kas_descPart m n p):=by
  rw[kas_count,Jz,v];rfl
 rw[e]
 by_cases hmn:m=n
 ·rw[if_pos (by simp[hmn])];exact⟨m,p,rfl,by omega,l,b,k,Array.Perm.refl _⟩
 ·rw[if_neg (by simp[hmn])]
  have a:m<n:=by omega
  have c:=u a
  by_cases hm:m>1
  ·rw[if_pos hm]
   have E:kEv B (.ask (p.getD 0 0) (p.getD (m-1) 0) λc=>if c=true then .ret (m,p) else kas_descPart m n (kas_rev p 0 m))=kEv B (if lt (p.getD 0 0) (p.getD (m-1) 0)=true then .ret (m,p) else kas_descPart m n (kas_rev p 0 m)):=by
    show (B _ _).bind _=_
    rw[hB _ _ (b.bound l (by omega)) (b.bound l (by omega))];rfl
   rw[E]
   cases d:lt (p.getD 0 0) (p.getD (m-1) 0) with
   | true=>exact⟨m,p,rfl,by omega,l,b,k,Array.Perm.refl _⟩
   | false =>
    rw[if_neg (by decide)]
    have s:m<=p.size:=by rw[b.sz];omega
    have g:∀i,i<m->(kas_rev p 0 m).getD i 0=p.getD (m-1-i) 0:=λi q=>by
     rw[Jq s,if_pos (⟨by omega,q⟩:0<=i/\i<m)];congr 1;omega
    have w:(kas_rev p 0 m).getD m 0=p.getD m 0:=by rw[Jq s,if_neg (by omega)]
    have A:∀i,i<m->Eq' lt (p.getD i 0) (p.getD (m-1) 0):=λi q=>by
     refine⟨?_,?_⟩
     ·cases x:lt (p.getD i 0) (p.getD (m-1) 0) with
      | false=>rfl
      | true =>
       rcases O.neg _ (p.getD 0 0) _ x with z | z
       ·rcases Nat.eq_zero_or_pos i with y | y
        ·rw[y,O.irr]at z;cases z
        ·rw[(k 0 i y q).not O]at z;cases z
       ·rw[d]at z;cases z
     ·rcases Nat.lt_or_ge i (m-1) with y | y
      ·exact(k i (m-1) y (by omega)).not O
      ·rw[show i=m-1 by omega];exact O.irr _
    have r:Dn lt (kas_rev p 0 m) m:=λi j h o=>by
     rw[g i (by omega),g j o];exact k _ _ (by omega) (by omega)
    obtain⟨D,f,G,C,I,H,J,t⟩:=Ro O hB a ((b.rev (Nat.le_refl _) l).up a) (r.next O (by omega) (by rw[w,g _ (by omega)];exact(A _ (by omega)).lt_to O c))
    exact⟨D,f,G,C,I,H,J,t.trans (mirror_perm _ _ _ _)⟩
  ·rw[if_neg hm]
   have r:Dn lt p m:=λi j h o=>by omega
   exact Ro O hB a (b.up a) (r.next O (by omega) c)
theorem Jx (O:Ord lt)(hB:∀i j,i<n->j<n->B i j=some (lt i j)){k:Nat}(hk:k<n)(F:Fx n p k)(S:So lt p k):∀(f l r:Nat),l<=r->r<=k->r-l<=f->(∀i,i<l->lt (p.getD k 0) (p.getD i 0)=false)->(∀i,r<=i->i<k->lt (p.getD k 0) (p.getD i 0)=true) ->
 ∃m,kEv B (kas_place p k f l r)=some m/\m<=k/\(∀i,i<m->lt (p.getD k 0) (p.getD i 0)=false)/\(∀i,m<=i->i<k->lt (p.getD k 0) (p.getD i 0)=true)
 | 0,l,r,h1,h2,h3,a,b=>⟨l,rfl,by omega,a,λi x y=>b i (by omega) y⟩
 | f+1,l,r,h1,h2,h3,a,b=>by
  by_cases h:l≥r
  ·refine⟨l,?_,by omega,a,λi x y=>b i (by omega) y⟩
   rw[kas_place,if_pos h];rfl
  ·have e:kEv B (kas_place p k (f+1) l r)=kEv B (if lt (p.getD k 0) (p.getD ((l+r) / 2) 0)=true then kas_place p k f l ((l+r) / 2) else kas_place p k f ((l+r) / 2+1) r):=by
    rw[kas_place,if_neg h]
    show (B _ _).bind _=_
    rw[hB _ _ (F.bound (by omega) (by omega)) (F.bound (by omega) (by omega))];rfl
   rw[e]
   cases c:lt (p.getD k 0) (p.getD ((l+r) / 2) 0) with
   | true =>
    rw[if_pos rfl]
    refine Jx O hB hk F S f l _ (by omega) (by omega) (by omega) a λi x y=>?_
    rcases Nat.lt_or_ge ((l+r) / 2) i with z | z
    ·rcases S _ i z y with q | ⟨q,_⟩
     ·exact O.tr _ _ _ c q
     ·rcases O.neg _ (p.getD i 0) _ c with w | w
      ·exact w
      ·rw[q]at w;cases w
    ·rw[show i=(l+r) / 2 by omega];exact c
   | false =>
    rw[if_neg (by decide)]
    refine Jx O hB hk F S f _ r (by omega) h2 (by omega) (λi x=>?_) b
    rcases Nat.lt_or_ge i ((l+r) / 2) with z | z
    ·have q:=S i _ z (by omega)
     cases w:lt (p.getD k 0) (p.getD i 0) with
     | false=>rfl
     | true =>
      rcases O.neg _ (p.getD ((l+r) / 2) 0) _ w with y | y
      ·rw[c]at y;cases y
      ·rw[q.not O]at y;cases y
    ·rw[show i=(l+r) / 2 by omega];exact c
theorem A0j (O:Ord lt)(hB:∀i j,i<n->j<n->B i j=some (lt i j)):∀(f:Nat) (p:Array Nat) (k:Nat),k+f=n->Fx n p k->So lt p k->∃p',kEv B (kas_bin f p k)=some p'/\Fx n p' n/\So lt p' n/\p'.Perm p
 | 0,p,k,hk,F,S=>by
  have e:k=n:=by omega
  subst e;exact⟨p,rfl,F,S,Array.Perm.refl _⟩
 | f+1,p,k,hk,F,S=>by
  have hkn:k<n:=by omega
  obtain⟨l,a1,a2,a3,a4⟩:=Jx O hB hkn F S k 0 k (by omega) (Nat.le_refl _) (by omega) (λi x=>by omega) (λi x y=>by omega)
  have hs:k<p.size:=by rw[F.sz];exact hkn
  have g:=λi=>Bj2 (p:=p) (src:=k) (d:=k-l) hs (by omega) i
  have kl:k-(k-l)=l:=by omega
  rw[kl]at g
  have e:kEv B (kas_bin (f+1) p k)=kEv B (kas_bin f (bubble p k (k-l)) (k+1)):=by
   rw[kas_bin,Jz,a1];rfl
  have F2:Fx n (bubble p k (k-l)) (k+1):=by
   have U:=F.up hkn
   refine⟨(bubble_size _ _ _).trans F.sz,λi hi=>?_,λi h1 h2=>?_⟩
   ·rw[g i]
    by_cases c1:i=l
    ·rw[if_pos c1];exact U.lo _ (by omega)
    ·rw[if_neg c1]
     by_cases c2:l<i/\i<=k
     ·rw[if_pos c2];exact U.lo _ (by omega)
     ·rw[if_neg c2];exact U.lo _ hi
   ·rw[g i,if_neg (by omega),if_neg (by omega)]
    exact F.hi i (by omega) h2
  have new:∀i,i<l->Rr lt (p.getD i 0) (p.getD k 0):=λi hi=>.inr ⟨a3 i hi,by rw[F.hi k (Nat.le_refl _) hkn];exact F.lo i (by omega)⟩
  have S2:So lt (bubble p k (k-l)) (k+1):=λi j hij hj=>by
   rw[g i,g j]
   by_cases c1:j=l
   ·rw[if_pos c1,if_neg (by omega),if_neg (by omega)]
    exact new i (by omega)
   ·rw[if_neg c1]
    by_cases c2:l<j/\j<=k
    ·rw[if_pos c2]
     by_cases c3:i=l
     ·rw[if_pos c3];exact .inl (a4 _ (by omega) (by omega))
     ·rw[if_neg c3]
      by_cases c4:l<i/\i<=k
      ·rw[if_pos c4];exact S _ _ (by omega) (by omega)
      ·rw[if_neg c4];exact S _ _ (by omega) (by omega)
    ·rw[if_neg c2,if_neg (by omega),if_neg (by omega)];exact S _ _ hij (by omega)
  rw[e]
  obtain⟨p',b1,b2,b3,b4⟩:=A0j O hB f _ (k+1) (by omega) F2 S2
  exact⟨p',b1,b2,b3,b4.trans (bubble_perm _ _ _)⟩
theorem A6y (O:Ord lt)(hB:∀i j,i<n->j<n->B i j=some (lt i j))(h1:1<=n):∃p,kEv B (kas_sort n)=some p/\p.size=n/\So lt p n/\p.toList.Perm (List.range n):=by
 have F:Fx n (List.toArray (List.range n)) 1:=by
  have q:∀i,i<n->(List.toArray (List.range n)).getD i 0=i:=λi a=>by
   rw[gD];simp[a]
  exact⟨by simp,λi a=>by rw[q i (by omega)];exact a,λi _ a=>q i a⟩
 obtain⟨m,p,g,t,u,c,f,b⟩:=A4w O hB h1 F
 have e:kEv B (kas_sort n)=kEv B (if m<n then kas_bin (n-max m 1) p (max m 1) else .ret p):=by
  rw[kas_sort,Jz,g];rfl
 rw[e]
 have d:∀q:Array _,q.Perm (List.toArray (List.range n))->q.toList.Perm _:=λq h=>by
  have:=Array.perm_iff_toList_perm.mp h
  simpa using this
 by_cases h:m<n
 ·rw[if_pos h,show max m 1=m by omega]
  obtain⟨r,k,l,s,o⟩:=A0j O hB (n-m) p m (by omega) c f
  exact⟨r,k,l.sz,s,d _ (o.trans b)⟩
 ·rw[if_neg h]
  have e:m=n:=by omega
  subst e;exact⟨p,rfl,c.sz,f,d _ b⟩
end
end PS
namespace U
open PySem L2
theorem R.bind_ok {a:b} {k:b->Ev->R d}:(R.ok a c).bind k=k a c:=rfl
theorem R.toS_ok {a:b} {k:b->Ev->SR}:(R.ok a c).toS k=k a c:=rfl
theorem Az0 {a:Type}{x:Option a}:(some x).join=x:=rfl
theorem A3o (x:a) (r:List a):atI (x::r) 0=some x:=Fg rfl
theorem Bs5 (x y:a) (r:List a):atI (x::y::r) 1=some y:=Fg rfl
theorem Bs8 (x y z:a) (r:List a):atI (x::y::z::r) 2=some z:=Fg rfl
theorem Bn7 (x y z u:a) (r:List a):atI (x::y::z::u::r) 3=some u:=Fg rfl
theorem Bq4 (x y z u w:a) (r:List a):atI (x::y::z::u::w::r) 4=some w:=Fg rfl
theorem Bl6:ixN 3 0=some 0:=rfl
theorem Bc8:ixN 3 1=some 1:=rfl
theorem Bf7:ixN 3 2=some 2:=rfl
def Oq (g:PV->Ev->R Unit)(body:Ev->SR)(d:PyData)(c:Ev):SR:=(g (.o (.im d)) c).toS λ_ c=>body c
theorem Ay8 (h:Oq g body d c=.nx c'\/Oq g body d c=.ct c'):forL g body (d::ds) c=forL g body ds c':=by
 unfold Oq at h;rw[forL]
 cases e:g _ c with
 | bad=>rw[e]at h;rcases h with h | h <;> cases h
 | ok u a =>
  rw[e]at h;have h:body _=.nx _\/body _=.ct _:=h
  grind
theorem Ir {g:PV->Ev->R Unit}{body:Ev->SR}{P:Nat->Ev->Prop}:∀{items:List PyData}{n:Nat}{c:Ev},P n c ->
 (∀k d c,items[k]?=some d->P (n+k) c->∃c',(Oq g body d c=.nx c'\/Oq g body d c=.ct c')/\P (n+k+1) c')->∃c',forL g body items c=.nx c'/\P (n+items.length) c'
 | [],n,c,h0,_=>⟨c,rfl,h0⟩
 | d::ds,n,c,h0,hs=>by
  obtain⟨c1,e,h1⟩:=hs 0 d c rfl h0;rw[Ay8 e]
  obtain⟨c2,e2,h2⟩:=Ir (P:=P) (items:=ds) (n:=n+1) (c:=c1) h1 (λk d c hk hp=>by
   have:=hs (k+1) d c (by simpa using hk) (by rw[show n+(k+1)=n+1+k by omega];exact hp)
   rw[show n+(k+1)+1=n+1+k+1 by omega]at this
   exact this)
  exact⟨c2,e2,by rw[List.length_cons,show n+(ds.length+1)=n+1+ds.length by omega];exact h2⟩
def Pb (g:PV->Ev->R Unit)(ft:Ev->R Bool)(fe:Ev->R PV)(d:PyData)(c:Ev):R (Option PyData) :=
 (g (.o (.im d)) c).bind λ_ c=>(ft c).bind λb c=>if b=true then (fe c).bind λp c=>(frz (nrm p) c).bind λy c=>.ok (some y) c else .ok none c
theorem Fp : Et g ft fe (d::ds) acc c=(Pb g ft fe d c).bind λo c=>Et g ft fe ds (acc++o.toList) c:=by
 unfold Pb;rw[Et]
 cases e:g _ c with
 | bad=>rfl
 | ok u f =>
  simp only[R.bind_ok]
  cases e2:ft _ with
  | bad=>rfl
  | ok b h =>
   simp only[R.bind_ok]
   cases b with
   | false=>simp[R.bind_ok]
   | true =>
    cases e3:fe _ with
    | bad=>rfl
    | ok p i =>
     simp only[R.bind_ok]
     cases e4:frz _ _ with
     | bad=>rfl
     | ok y a=>rfl
theorem My {g:PV->Ev->R Unit}{ft:Ev->R Bool}{fe:Ev->R PV}{P:Nat->List PyData->Ev->Prop}:∀{items acc:List PyData}{n:Nat}{c:Ev},P n acc c ->
 (∀k d acc c,items[k]?=some d->P (n+k) acc c->∃o c',Pb g ft fe d c=.ok o c'/\P (n+k+1) (acc++o.toList) c')->∃acc' c',Et g ft fe items acc c=.ok acc' c'/\P (n+items.length) acc' c'
 | [],acc,n,c,h0,_=>⟨acc,c,rfl,h0⟩
 | d::ds,acc,n,c,h0,hs=>by
  obtain⟨o,c1,e,h1⟩:=hs 0 d acc c rfl h0;rw[Fp,e,R.bind_ok]
  obtain⟨acc2,c2,e2,h2⟩:=My (P:=P) (items:=ds) (n:=n+1) (c:=c1) h1 (λk d acc c hk hp=>by
   have:=hs (k+1) d acc c (by simpa using hk) (by rw[show n+(k+1)=n+1+k by omega];exact hp)
   rw[show n+(k+1)+1=n+1+k+1 by omega]at this
   exact this)
  exact⟨acc2,c2,e2,by rw[List.length_cons,show n+(ds.length+1)=n+1+ds.length by omega];exact h2⟩
theorem Ik {α:Type}{g:PV->Ev->R Unit}{ft:Ev->R Bool}{fe:Ev->R PV}{I:Ev->Prop}{f:α->PyData}{G:α->Option PyData}:∀{xs:List α}{acc:List PyData}{c:Ev},I c ->
 (∀x c,x∈xs->I c->∃c',Pb g ft fe (f x) c=.ok (G x) c'/\I c')->∃c',Et g ft fe (xs.map f) acc c=.ok (acc++xs.filterMap G) c'/\I c'
 | [],acc,c,h0,_=>⟨c,by simp[Et],h0⟩
 | x::xs,acc,c,h0,hs=>by
  obtain⟨c1,e,h1⟩:=hs x c (.head _) h0;rw[List.map_cons,Fp,e,R.bind_ok]
  obtain⟨c2,e2,h2⟩:=Ik (I:=I) (f:=f) (G:=G) (xs:=xs) (acc:=acc++(G x).toList) h1 (λd c hd hi=>hs d c (.tail _ hd) hi)
  refine⟨c2,?_,h2⟩
  rw[e2,List.append_assoc];rw[List.filterMap_cons]
  cases G x <;> rfl
theorem Fb {b:Type} {I:Ev->Prop}{f:b->PyData}{G:b->PyData}{xs:List b} (d:I c)
 (hs:∀x c,x∈xs->I c->∃a,Pb g ft fe (f x) c=.ok (some (G x)) a/\I a):∃a,Et g ft fe (xs.map f) acc c=.ok (acc++xs.map G) a/\I a:=by
 obtain⟨a,e,h⟩:=Ik (acc:=acc) d hs
 refine⟨a,?_,h⟩
 simp_all
theorem Ff (h1:fi c=.ok ds c1) (hl:ds.length<=16000000) (h2:Et g ft fe ds [] (cIn idx c1)=.ok acc cI) (a:Gj cI (pairsOf 0 idx) c1=some c2) :
 cLC idx fi g ft fe c=.ok (.o (.ls false acc)) c2:=by
 unfold cLC;rw[h1,R.bind_ok]
 simp_all
theorem Oo (h1:fi c=.ok ds c1):Vp fi g body c=forL g body ds c1:=by
 unfold Vp;rw[h1];rfl
theorem Cd (h:f c=.nx c'):Bm f g c=g c':=by unfold Bm;rw[h]
theorem M5 (h:body (a.map some++List.replicate (N-n) none)=.rt p c) (hl:a.length=n) (hf:As9 a p c=r):Eu n N body a=r:=by
 unfold Eu;grind
end U
namespace K
open PySem L2 U
structure Good (d:PyData) (n w:Nat):Prop where
 lay:d.canLay0=true
 shw:d.showable=true
 dct:d.hasDict=false
 dep:d.depth<=n
 wgt:wt d<=w
structure Goods (ds:List PyData) (n w:Nat):Prop where
 lay:PyData.canLayAll0 ds=true
 shw:PyData.showableAll ds=true
 dct:PyData.hasDictAll ds=false
 dep:PyData.depthAll ds<=n
 wgt:T8 ds<=w*ds.length
theorem Goods.of {n w:Nat}:∀{ds:List PyData},(∀d∈ds,Good d n w)->Goods ds n (w+2)
 | [],_=>⟨rfl,rfl,rfl,Nat.zero_le _,Nat.zero_le _⟩
 | d::r,h=>by
  have a:=h d (.head _)
  have b:=Goods.of λe he=>h e (.tail _ he)
  refine⟨?_,?_,?_,?_,?_⟩
  ·show (d.canLay0&&PyData.canLayAll0 r)=true;rw[a.lay,b.lay];rfl
  ·show (d.showable&&PyData.showableAll r)=true;rw[a.shw,b.shw];rfl
  ·show (d.hasDict||PyData.hasDictAll r)=false;rw[a.dct,b.dct];rfl
  ·show max d.depth (PyData.depthAll r)<=n;have:=a.dep;have:=b.dep;omega
  ·show wt d+2+T8 r<=(w+2)*(r.length+1)
   have:=a.wgt;have:=b.wgt;rw[Nat.mul_succ];omega
theorem Good.tup (h:∀d∈ds,Good d n w) (hk:ds.length<=k):Good (.tuple ds) (n+1) ((w+2)*k+4):=by
 have g:=Goods.of h;have m:(w+2)*ds.length<=(w+2)*k:=Nat.mul_le_mul_left _ hk
 refine⟨g.lay,g.shw,g.dct,?_,?_⟩
 ·show PyData.depthAll _+1<=n+1;have:=g.dep;omega
 ·show T8 _+4<=(w+2)*k+4;have:=g.wgt;omega
theorem Good.lst (h:∀d∈ds,Good d n w) (hk:ds.length<=k):Good (.list ds) (n+1) ((w+2)*k+4):=by
 have g:=Goods.of h;have m:(w+2)*ds.length<=(w+2)*k:=Nat.mul_le_mul_left _ hk
 refine⟨g.lay,g.shw,g.dct,?_,?_⟩
 ·show PyData.depthAll _+1<=n+1;have:=g.dep;omega
 ·show T8 _+4<=(w+2)*k+4;have:=g.wgt;omega
theorem Good.mono (h:Good d n w) (a:n<=n') (b:w<=w'):Good d n' w':=⟨h.lay,h.shw,h.dct,Nat.le_trans h.dep a,Nat.le_trans h.wgt b⟩
theorem Good.flatB (h:Good d n w) (hn:n<=40):Ce d=true:=by
 unfold U.Ce;rw[h.lay,decide_eq_true (Nat.le_trans h.dep hn)];rfl
theorem Wb (ha:Good a n w) (hb:Good b n' w') (hn:n<=40) (c:n'<=40):Bo neg a b=some (.im (.bool (if neg then !PyData.eqv a b else PyData.eqv a b))):=by
 unfold Bo;rw[ha.flatB hn,hb.flatB c];rfl
theorem Ww (h:∀d∈ds,d.canLay0=true):PyData.canLayAll0 ds=true:=by
 induction ds with
 | nil=>rfl
 | cons d r a=>show (d.canLay0&&PyData.canLayAll0 r)=true;grind
theorem K7 : Bo neg (.str a) (.str b)=some (.im (.bool (if neg then !decide (a=b) else decide (a=b)))):=by
 unfold Bo
 rw[show Sq _ _=true from rfl]
 rw[Tn]
 simp
inductive Vl where
 | non
 | int (i:Int)
 | str (x:Str)
 deriving DecidableEq
@[simp] theorem Vl.int.injEq (a b:Int):(Vl.int a=Vl.int b)=(a=b):=propext ⟨λh=>by cases h;rfl,λh=>by rw[h]⟩
@[simp] theorem Vl.str.injEq (a b:Str):(Vl.str a=Vl.str b)=(a=b):=propext ⟨λh=>by cases h;rfl,λh=>by rw[h]⟩
noncomputable def Vl.d:Vl->PyData
 | .non=>.none
 | .int i=>.int i
 | .str x=>.str x
noncomputable def vb:Vl->Bool
 | .non=>true
 | .int i=>decide (-1000000000000<=i)&&decide (i<=1000000000000)
 | .str x=>decide (x.length<=40)&&x.cps.toList.all λc=>decide (32<=c)&&decide (c<=126)
abbrev VB (v:Vl):Prop:=vb v=true
abbrev VBs (vs:List Vl):Prop:=∀v∈vs,VB v
def tD (vs:List Vl):PyData:=.tuple (vs.map Vl.d)
theorem Al1 (x y:Str):PyData.eqv (.str x) (.str y)=decide (x=y):=by
 show (x==y)=_
 grind
theorem A3f (a b:Vl):PyData.eqv a.d b.d=decide (a=b):=by
 cases a with
 | non=>cases b <;> simp[Vl.d,PyData.eqv]
 | int i=>
  cases b with
   | int j =>
    show (i==j)=_
    grind
   | non=>rfl
   | str y=>trivial
 | str x=>
  cases b with
   | str y=>rw[show PyData.eqv (Vl.d (.str x)) (Vl.d (.str y))=_ from Al1 x y];simp_all
   | non=>trivial
   | int y=>trivial
theorem Z7:∀as bs:List Vl,PyData.eqvAll (as.map Vl.d) (bs.map Vl.d)=decide (as=bs)
 | [],[]=>by simp[PyData.eqvAll]
 | [],b::bs=>by simp[PyData.eqvAll]
 | a::as,[]=>by simp[PyData.eqvAll]
 | a::as,b::bs=>by
  show (PyData.eqv a.d b.d&&PyData.eqvAll (as.map Vl.d) (bs.map Vl.d))=_
  rw[A3f,Z7 as bs]
  simp
theorem Bm7 (a bs:List Vl):PyData.eqv (tD a) (tD bs)=decide (a=bs):=by
 exact Z7 _ _
theorem Ka (h:VB v):Good v.d 0 1921:=by
 cases v with
 | non=>exact⟨rfl,rfl,rfl,Nat.le_refl _,by decide⟩
 | int i =>
  obtain⟨a,b⟩:=Bool.and_eq_true_iff.mp (show (decide _&&decide _)=true from h)
  have a:=of_decide_eq_true a;have b:=of_decide_eq_true b
  refine⟨rfl,?_,rfl,Nat.le_refl _,Nat.le_refl _⟩
  have c:i.natAbs<2 ^ 41:=by omega
  have:i.natAbs.log2<1920:=by
   by_cases hz:i.natAbs=0
   ·rw[hz];decide
   ·exact Nat.lt_of_lt_of_le ((Nat.log2_lt hz).mpr c) (by decide)
  simpa[Vl.d,PyData.showable] using this
 | str x =>
  obtain⟨a,b⟩:=Bool.and_eq_true_iff.mp (show (decide _&&x.cps.toList.all _)=true from h)
  have a:=of_decide_eq_true a
  refine⟨?_,rfl,rfl,Nat.le_refl _,?_⟩
  ·show x.cps.all _=true
   grind
  ·show 10*x.length+2<=1921
   omega
theorem Ar0 (h:VBs vs) (hk:vs.length<=k):Good (tD vs) 1 (1923*k+4) :=
 Good.tup (λd a=>by obtain⟨v,b,rfl⟩:=List.mem_map.mp a;exact Ka (h v b)) (by simp_all)
theorem VBs.app (h:VBs a) (k:VBs b):VBs (a++b):=λv c=>by
 grind
theorem A9x (v:Vl)(vs:List Vl):((vs.map Vl.d).any λe=>PyData.eqv e v.d)=decide (v∈vs):=by
 induction vs with
 | nil=>simp
 | cons a r b =>
  rw[List.map_cons,List.any_cons,A3f]
  grind
theorem A3v (h:VB v) (hs:VBs vs):Ji neg v.d (.list (vs.map Vl.d))=some (.im (.bool (if neg then !decide (v∈vs) else decide (v∈vs)))):=by
 have e:Ji neg v.d (.list (vs.map Vl.d))=if Ce v.d&&PyData.canLayAll0 (vs.map Vl.d) then some (.im (.bool (if neg then !(vs.map Vl.d).any λe=>PyData.eqv e v.d else (vs.map Vl.d).any λe=>PyData.eqv e v.d))) else none:=by rfl
 rw[e,(Ka h).flatB (by decide),Ww λd a=>by obtain⟨u,b,rfl⟩:=List.mem_map.mp a;exact(Ka (hs u b)).lay,A9x];rfl
theorem Mg {l:List a}{r:Int}(b:0<=r) (h1:r<l.length):∃d,atI l r=some d/\d∈l/\l[r.toNat]?=some d:=by
 obtain⟨k,rfl⟩:=Int.eq_ofNat_of_zero_le b
 exact⟨l[k],Fg (List.getElem?_eq_getElem _),List.getElem_mem _,by grind⟩
def An3 (pr:List O->FR):Ev->SR :=
 (Bm
  (cIf (Bg (cOp (Ib false) (Ab 0) (cC (.none)))) (Dc (G3 (Ac (cC (.int 0)) (Ac (cC (.int 0)) Aq)))) Cz)
  (Bm (cIf (Bg (cUn (Zh .int) (Ab 0))) (Dc (G3 (Ac (cC (.int 1)) (Ac (Ab 0) Aq)))) Cz)
  (Bm (cIf (Bg (cUn (Zh .str) (Ab 0))) (Dc (G3 (Ac (cC (.int 2)) (Ac (Ab 0) Aq)))) Cz)
  (Dc (G3 (Ac (cC (.int 3)) (Ac (cUn Em (cLC [none] (Bj (Ab 0)) (cgN 0) By (cF pr (Ac (Ab 0) Aq)))) Aq)))))))
def Bu:Nat->List O->FR
 | 0=>λ_=>.bad
 | k+1=>Eu 1 1 (An3 (Bu k))
def Kw:Ev->SR :=
 (Dc (cOp A1x (cF (Bu 2) (Ac (Ab 0) Aq)) (cF (Bu 2) (Ac (Ab 1) Aq))))
def En:List O->FR:=Eu 2 2 Kw
def Ad4:Ev->SR :=
 (Dc (Bf6 (Bu 2) (Ab 0)))
def Mj:List O->FR:=Eu 1 1 Ad4
def Q9:Ev->SR :=
 (Bm
  (Dj (cOp Ai (Ab 0) (cC (.int 0))) (cgN 2))
  (Bm (cIf (Bg (cOp (Ji true) (Ab 1) (Ab 2))) Lp Cz)
  (Dc (cMt Yn S6 (Ab 2) (Ab 1)))))
def Eo:List O->FR:=Eu 2 3 Q9
def Oh:Ev->SR :=
 (Dc (cFz (cLC [none,some 0] (Bj (Ab 1)) (cgN 0) By (cF Eo (Ac (Ab 1) (Ac (Ab 0) Aq))))))
def Cp:List O->FR:=Eu 2 2 Oh
def O5:Ev->SR :=
 (Dc (cUn Em (cLC [none,some 0] (Bj (Ab 1)) (cgN 0) By (cOp Ai (Ab 1) (Ab 0)))))
def Eb:List O->FR:=Eu 2 2 O5
def Wm:Ev->SR :=
 (Bm
  (Dj (cF Eo (Ac (Ab 0) (Ac (Ab 1) Aq))) (cgN 2))
  (Dc (cFz (cLC [none,some 2] (Bj (cOp Ai (Ab 0) (cC (.int 1)))) (cgN 0) By (cOp Ai (Ab 0) (Ab 1))))))
def Di:List O->FR:=Eu 2 3 Wm
def As1:Ev->SR :=
 (Bm
  (Dj (cF Cp (Ac (Ab 0) (Ac (Ab 1) Aq))) (cgN 2))
  (Dc (G3 (Ac (cUn Em (Ab 1)) (Ac (cUn Em (cLC [none,some 2] (Bj (cOp Ai (Ab 0) (cC (.int 1)))) (cgN 0) By (cF Eb (Ac (Ab 0) (Ac (Ab 1) Aq))))) Aq)))))
def Pj:List O->FR:=Eu 2 3 As1
def Ds:List O->FR:=Eu 2 2 (Dc (cF (Bu 2) (Ac (cF Eb (Ac (Ab 0) (Ac (Ab 1) Aq))) Aq)))
def Ov:Ev->SR :=
 (Bm
  (Dj (cF Cp (Ac (Ab 0) (Ac (Ab 1) Aq))) (cgN 2))
  (Bm (Dj (An2 Ds [2] (cOp Ai (Ab 0) (cC (.int 1)))) (cgN 3))
  (Dc (G3 (Ac (cOp Ai (Ab 0) (cC (.int 0))) (Ac (cUn Em (Ab 3)) Aq))))))
def G8:List O->FR:=Eu 2 4 Ov
def Vm:Ev->SR :=
 (A4l 1 2 (Bj (Ab 0)))
def Hr:List O->FR:=Eu 1 3 Vm
def Ay5:Ev->SR :=
 (Bm
  (cIf (Bg (cUn A9u (cLC [none] (Bj (Ab 0)) (cgN 0) By (cUn (Zh .str) (Ab 0))))) Lp Cz)
  (Dc (cUn Bc1 (Ab 0))))
def Qi:List O->FR:=Eu 1 1 Ay5
def Dw:Ev->SR :=
 (Bm
  (cIf (Bg (cOp (Bo false) (Ab 1) (cC (.str "first")))) (Dc (cOp Ai (Ab 0) (cC (.int 0)))) Cz)
  (Bm (cIf (Bg (cOp (Bo false) (Ab 1) (cC (.str "last")))) (Dc (cOp Ai (Ab 0) (cUn J4 (cC (.int 1))))) Cz)
  (Bm (Dj (cLC [none] (Bj (Ab 0)) (cgN 0) (Bg (cOp (Ib true) (Ab 0) (cC (.none)))) (Ab 0)) (cgN 2))
  (Bm (cIf (Bg (cOp (Bo false) (Ab 1) (cC (.str "sum")))) (Dc (cF Qi (Ac (cFz (Ab 2)) Aq))) Cz)
  (Bm (cIf (Bg (cOp (Bo false) (Ab 1) (cC (.str "count")))) (Dc (Ht (cFz (Ab 2)))) Cz)
  (Bm (cIf (Bg (cOp (Bo false) (Ab 1) (cC (.str "least")))) (Dc (cMM false (Bu 2) (cFz (Ab 2)))) Cz)
  (Bm (cIf (Bg (cOp (Bo false) (Ab 1) (cC (.str "greatest")))) (Dc (cMM true (Bu 2) (cFz (Ab 2)))) Cz)
  (Bm (cIf (Bg (cOp (Bo false) (Ab 1) (cC (.str "unlike")))) (Dc (cUn M8 (cFz (Ab 2)))) Cz)
  Lp))))))))
def Cj:List O->FR:=Eu 2 3 Dw
def Nu:Ev->SR :=
 (Dc (cFz (cLC [none] (Bj (Ab 0)) (cgN 0) By (cOp Ai (Ab 0) (cC (.int 0))))))
def Es:List O->FR:=Eu 1 1 Nu
def Ml:Ev->SR :=
 (Vp (Bj (Ab 0)) (cgN 1) (cIf (Bg (cUn (Aq7 true [Str.ofString "is",Str.ofString "not",Str.ofString "below",Str.ofString "above"]) (cOp Ai (Ab 1) (cC (.int 1))))) Lp Cz))
def Fw:List O->FR:=Eu 1 2 Ml
def Le:Ev->SR :=
 (Bm
  (cIf (Bg (cOp (Bo false) (Ab 1) (cC (.str "is")))) (Dc (cOp (Bo false) (Ab 0) (Ab 2))) Cz)
  (Bm (cIf (Bg (cOp (Bo false) (Ab 1) (cC (.str "not")))) (Dc (cOp (Bo true) (Ab 0) (Ab 2))) Cz)
  (Bm (cIf (Bg (cOp (Bo false) (Ab 1) (cC (.str "below")))) (Dc (cF En (Ac (Ab 0) (Ac (Ab 2) Aq)))) Cz)
  (Dc (cF En (Ac (Ab 2) (Ac (Ab 0) Aq)))))))
def Ge:List O->FR:=Eu 3 3 Le
def Ra:Ev->SR :=
 (Dc (cUn A0m (cLC [none,none,some 0] (A9c (Ab 1) (Ab 2)) (cgT 2 (El (cgN 0) (El (cgN 1) K4))) By (cF Ge (Ac (cOp Ai (Ab 2) (Ab 0)) (Ac (cOp Ai (Ab 1) (cC (.int 1))) (Ac (cOp Ai (Ab 1) (cC (.int 2))) Aq)))))))
def Fq:List O->FR:=Eu 3 3 Ra
def Nv:Ev->SR :=
 (Bm
  (Dj (cF Cp (Ac (Ab 0) (Ac (cF Es (Ac (Ab 1) Aq)) Aq))) (cgN 2))
  (Bm (Lh (cF Fw (Ac (Ab 1) Aq)))
  (Dc (cFz (cLC [none,none,some 2,some 1] (Ul (cOp Ai (Ab 0) (cC (.int 1)))) (cgT 2 (El (cgN 0) (El (cgN 1) K4))) (Bg (cF Fq (Ac (Ab 1) (Ac (Ab 2) (Ac (Ab 3) Aq))))) (Ab 0))))))
def Ao:List O->FR:=Eu 2 3 Nv
def Gr:Ev->SR :=
 (Bm
  (Dj (cUn Nz (cSl Ac7 (Ab 1) (cOS (cC (.int 1))) (cOS (cUn J4 (cC (.int 1)))))) (cgN 2))
  (Bm (Lh (cF Cp (Ac (Ab 0) (Ac (cFz (cOp Ci (Ab 2) (cF Es (Ac (cOp Ai (Ab 1) (cUn J4 (cC (.int 1)))) Aq)))) Aq))))
  (Bm (Dj (Af3 (Bg (cOp A0u (Ht (Ab 2)) (cC (.int 0)))) (cUn (Tz [Str.ofString "first",Str.ofString "last",Str.ofString "sum",Str.ofString "count",Str.ofString "least",Str.ofString "greatest",Str.ofString "unlike"]) (G3 (Ac (cC (.str "all")) Aq))) (G3 (Ac (cC (.str "rows")) Aq))) (cgN 3))
  (cIf (Bg (cOp (Ji true) (cOp Ai (Ab 1) (cC (.int 0))) (Ab 3))) Lp Cz))))
def Dh:List O->FR:=Eu 2 4 Gr
def J6:Ev->SR :=
 (Bm
  (Lh (cF Dh (Ac (Ab 0) (Ac (Ab 1) Aq))))
  (Bm (Dj (cOp Ai (Ab 1) (cC (.int 0))) (cgN 2))
  (Bm (Dj (cLC [none,some 0] (Bj (cF Ao (Ac (Ab 0) (Ac (cOp Ai (Ab 1) (cUn J4 (cC (.int 1)))) Aq)))) (cgN 0) By (cOp Ai (cOp Ai (Ab 1) (cC (.int 1))) (Ab 0))) (cgN 3))
  (Bm (cIf (Bg (cOp (Bo false) (Ab 2) (cC (.str "rows")))) (Dc (cFz (cFz (Ab 3)))) Cz)
  (Bm (Dj (cF Di (Ac (G3 (Ac (cOp Ai (Ab 0) (cC (.int 0))) (Ac (cFz (Ab 3)) Aq))) (Ac (cOp Ai (Ab 1) (cC (.int 1))) Aq))) (cgN 4))
  (Bm (cIf (Bg (cOp (Bo false) (Ab 2) (cC (.str "all")))) (Dc (cFz (cF Mj (Ac (cF Hr (Ac (cFz (Ab 4)) Aq)) Aq)))) Cz)
  (Dc (cFz (Af3 (Bg (cOp A0u (Ht (cFz (Ab 4))) (cC (.int 0)))) (cF Cj (Ac (cFz (Ab 4)) (Ac (Ab 2) Aq))) (cC (.none)))))))))))
def Bs:List O->FR:=Eu 2 5 J6
def Ko:Ev->SR :=
 (Bm
  (cIf (Bg (cOp O8 (Ab 1) (Ht (Ab 0)))) (Dc (Bk8 (Ab 0) (Ab 1))) Cz)
  (Dc (cC (.int 0))))
def Fz:List O->FR:=Eu 2 2 Ko
def Zq:Ev->SR :=
 (Bm
  (Dj (cF Fz (Ac (Ab 0) (Ac (Ab 1) Aq))) (cgN 2))
  (Dc (Fo (Ac (cOp Ks (cUn Al6 (Ab 2)) (cUn A2q (cOp Bg2 (cUn Al6 (Ab 2)) (cOp Zw (cC (.int 10)) (cC (.int 18)))))) (Ac (cOp Ci (cOp Ci (cOp Om (Ab 2) (cC (.int 2305843009213693951))) (cOp Ks (cC (.int 39373)) (Ab 1))) (cC (.int 17))) (Ac (cC (.int 0)) Aq))))))
def Ms:List O->FR:=Eu 2 3 Zq
def Q4:Ev->SR :=
 (Bm
  (cIf (Bg (cOp A0u (cOp Ai (Ab 0) (cC (.int 0))) (cC (.int 0)))) (Bm (Dj (cOp Om (cOp Ai (Ab 0) (cC (.int 0))) (Ab 1)) (cgN 2))
  (Bm (Dj (cOp Xw (cOp Ai (Ab 0) (cC (.int 0))) (Ab 1)) (Ao1 (Ab 0) (cC (.int 0))))
  (Dc (Ab 2)))) Cz)
  (Bm (Dj (cOp Ci (cOp Ai (Ab 0) (cC (.int 2))) (cC (.int 1))) (Ao1 (Ab 0) (cC (.int 2))))
  (Bm (Dj (cOp Om (cOp Ks (cOp Ci (cOp Ai (Ab 0) (cC (.int 1))) (cOp Ks (cC (.int 48271)) (cOp Ai (Ab 0) (cC (.int 2))))) (cOp Ci (cC (.int 39373)) (cOp Ai (Ab 0) (cC (.int 2))))) (cC (.int 2147483647))) (cgN 3))
  (Bm (Dj (cOp Om (cOp Ks (cOp Ci (Ab 3) (cOp Ai (Ab 0) (cC (.int 2)))) (cOp Ci (cOp Om (Ab 3) (cC (.int 40009))) (cC (.int 7)))) (cC (.int 2147483629))) (cgN 4))
  (Dc (cOp Om (cOp Xw (cOp Om (cOp Ci (cOp Ks (Ab 4) (cC (.int 48271))) (Ab 3)) (cC (.int 2147483587))) (cC (.int 64))) (Ab 1)))))))
def Aw:List O->FR:=Eu 2 5 Q4
def Qd:Ev->SR :=
 (Bm
  (cIf (Bg (cOp (Bo false) (cF Aw (Ac (Ab 0) (Ac (cC (.int 8)) Aq))) (cC (.int 0)))) (Dc (cOp Ci (cC (.int 7)) (cF Aw (Ac (Ab 0) (Ac (cOp Ox (Ab 3) (cC (.int 6))) Aq))))) Cz)
  (Dc (cOp Ci (Ab 1) (cF Aw (Ac (Ab 0) (Ac (cOp Ci (cOp Ox (Ab 2) (Ab 1)) (cC (.int 1))) Aq))))))
def Hl:List O->FR:=Eu 4 4 Qd
def Um:Ev->SR :=
 (Bm
  (Dj (Fo (cK [.str "b",.str "a",.str "year",.str "z",.str "ab",.str "month",.str "aa",.str "quantity",.str "c",.str "town",.str "zz",.str "ba"])) (cgN 2))
  (Dc (cLC [none,some 2,some 0] (Nr (Ab 1)) (cgN 0) By (U7 (Ab 1) (cF Aw (Ac (Ab 2) (Ac (Ht (Ab 1)) Aq)))))))
def Iu:List O->FR:=Eu 2 3 Um
def Jc:Ev->SR :=
 (Bm
  (Dj (cF Aw (Ac (Ab 0) (Ac (cC (.int 9)) Aq))) (cgN 1))
  (Bm (cIf (Bg (cOp O8 (Ab 1) (cC (.int 4)))) (Dc (cOp Ox (cF Aw (Ac (Ab 0) (Ac (cC (.int 13)) Aq))) (cC (.int 3)))) Cz)
  (Bm (cIf (Bg (cOp (Bo false) (Ab 1) (cC (.int 4)))) (Dc (cOp Ai (Fo (Ac (cOp Ox (cOp Zw (cC (.int 10)) (cC (.int 12))) (cC (.int 1))) (Ac (cOp Ox (cC (.int 0)) (cOp Zw (cC (.int 10)) (cC (.int 11)))) (Ac (cC (.int 100)) (Ac (cC (.int 10)) Aq))))) (cF Aw (Ac (Ab 0) (Ac (cC (.int 4)) Aq))))) Cz)
  (Bm (cIf (Bg (cOp (Bo false) (Ab 1) (cC (.int 5)))) (Dc (cC (.none))) Cz)
  (Dc (cOp Ai (Fo (cK [.str "",.str "a",.str "b",.str "B",.str "10",.str "9",.str "-",.str "a b",.str "it's",.str "\\",.str "/",.str "_",.str ":",.str "None",.str "ab"])) (cF Aw (Ac (Ab 0) (Ac (cC (.int 15)) Aq)))))))))
def Df:List O->FR:=Eu 1 2 Jc
def We:Ev->SR :=
 (Bm
  (Dj (Fo Aq) (cgN 2))
  (Bm (Vp (Nr (Ab 1)) (cgN 3) (Bm (Dj (cF Df (Ac (Ab 0) Aq)) (cgN 4))
  (cIf (Bg (cOp (Ji true) (Ab 4) (Ab 2))) (Lh (Ab5 (Ab 2) (Ab 4))) Cz)))
  (Dc (Ab 2))))
def Gn:List O->FR:=Eu 2 5 We
def Ob:Ev->SR :=
 (Bm
  (Dj (cF Iu (Ac (Ab 0) (Ac (Ab 1) Aq))) (cgN 3))
  (Bm (Dj (cLC [none,some 0] (Bj (Ab 3)) (cgN 0) By (cF Gn (Ac (Ab 1) (Ac (cOp Ai (Fo (cK [.int 2,.int 3,.int 3,.int 5,.int 12])) (cF Aw (Ac (Ab 1) (Ac (cC (.int 5)) Aq)))) Aq)))) (cgN 4))
  (Bm (Dj (Fo Aq) (cgN 5))
  (Bm (Vp (Nr (Ab 2)) (cgN 6) (Bm (Dj (cUn Em (cLC [none,some 0] (Bj (Ab 4)) (cgN 0) By (cOp Ai (Ab 0) (cF Aw (Ac (Ab 1) (Ac (Ht (Ab 0)) Aq)))))) (cgN 7))
  (Bm (cIf (A6v (Bg (cOp (Bo true) (Ab 5) (Fo Aq))) (Bg (cOp (Bo false) (cF Aw (Ac (Ab 0) (Ac (cC (.int 9)) Aq))) (cC (.int 0))))) (Dj (cOp Ai (Ab 5) (cF Aw (Ac (Ab 0) (Ac (Ht (Ab 5)) Aq)))) (cgN 7)) Cz)
  (Lh (Ab5 (Ab 5) (Ab 7))))))
  (Dc (G3 (Ac (cUn Em (Ab 3)) (Ac (cUn Em (Ab 5)) Aq))))))))
def Kp:List O->FR:=Eu 3 8 Ob
def Lz:Ev->SR :=
 (Dc (cF Kp (Ac (Ab 0) (Ac (cF Hl (Ac (Ab 0) (Ac (cC (.int 2)) (Ac (cC (.int 5)) (Ac (cC (.int 12)) Aq))))) (Ac (cF Hl (Ac (Ab 0) (Ac (cC (.int 0)) (Ac (cC (.int 8)) (Ac (cC (.int 24)) Aq))))) Aq)))))
def Ft:List O->FR:=Eu 1 1 Lz
def Hz:Ev->SR :=
 (Bm
  (Dj (Fo Aq) (cgN 3))
  (Bm (Vp (Nr (cOp Ai (Fo (cK [.int 0,.int 1,.int 1,.int 2,.int 3])) (cF Aw (Ac (Ab 0) (Ac (cC (.int 5)) Aq))))) (cgN 4) (Bm (Dj (cF Aw (Ac (Ab 0) (Ac (Ht (Ab 1)) Aq))) (cgN 5))
  (Bm (Dj (cOp Ci (cLC [none,some 5] (Bj (Ab 2)) (cgN 0) By (cOp Ai (Ab 0) (Ab 1))) (Fo (Ac (cF Df (Ac (Ab 0) Aq)) Aq))) (cgN 6))
  (Bm (Dj (cOp Ai (Fo (cK [.str "is",.str "not",.str "below",.str "above"])) (cF Aw (Ac (Ab 0) (Ac (cC (.int 4)) Aq)))) (cgN 7))
  (Lh (Ab5 (Ab 3) (G3 (Ac (cOp Ai (Ab 1) (Ab 5)) (Ac (Ab 7) (Ac (cOp Ai (Ab 6) (cF Aw (Ac (Ab 0) (Ac (Ht (Ab 6)) Aq)))) Aq))))))))))
  (Dc (Ab 3))))
def Dz:List O->FR:=Eu 3 8 Hz
def Hd:Ev->SR :=
 (Am3 4 5 (Bj (G3 (cK [.str "is",.str "not",.str "below",.str "above"]))) (cF Ao (Ac (Ab 0) (Ac (cFz (cOp Ci (cUn Nz (Ab 3)) (Fo (Ac (G3 (Ac (Ab 1) (Ac (Ab 5) (Ac (Ab 2) Aq)))) Aq)))) Aq)))
  (Bm (Dj (cF Ao (Ac (Ab 0) (Ac (Ab 3) Aq))) (cgN 6))
  (Bm (cIf (Bg (cOp (Bo true) (cUn M6 (cOp Ci (Rb (Ab 4) (cC (.str "is"))) (Rb (Ab 4) (cC (.str "not"))))) (Ab 6))) (Dc (cC (.bool false))) Cz)
  (Bm (cIf (Bg (cOp (Bo true) (cUn M6 (cOp Ci (cOp Ci (Rb (Ab 4) (cC (.str "below"))) (Rb (Ab 4) (cC (.str "is")))) (Rb (Ab 4) (cC (.str "above"))))) (Ab 6))) (Dc (cC (.bool false))) Cz)
  (Bm (Dj (cF Ao (Ac (Ab 0) (Ac (cFz (Fo (Ac (G3 (Ac (Ab 1) (Ac (cC (.str "is")) (Ac (Ab 2) Aq)))) Aq))) Aq))) (cgN 7))
  (Dc (cOp (Bo false) (cLC [none,some 7] (Bj (Ab 6)) (cgN 0) (Bg (cOp (Ji false) (Ab 0) (Ab 1))) (Ab 0)) (Rb (Ab 4) (cC (.str "is"))))))))))
def Ey:List O->FR:=Eu 4 8 Hd
def G4:Ev->SR :=
 (Bm
  (Dj (cF Ao (Ac (Ab 0) (Ac (Ab 2) Aq))) (cgN 3))
  (Bm (Dj (cF Bs (Ac (Ab 0) (Ac (G3 (Ac (cC (.str "rows")) (Ac (Ab 2) Aq))) Aq))) (cgN 4))
  (Bm (cIf (Bg (cOp (Bo true) (Ab 4) (cLC [none,some 0] (Bj (Ab 3)) (cgN 0) By (cOp Ai (cOp Ai (Ab 1) (cC (.int 1))) (Ab 0))))) (Dc (cC (.bool false))) Cz)
  (Bm (Dj (cLC [none,some 0,some 1] (Bj (Ab 3)) (cgN 0) By (cOp Ai (cF Di (Ac (Ab 1) (Ac (Ab 2) Aq))) (Ab 0))) (cgN 5))
  (Bm (Dj (cF Bs (Ac (Ab 0) (Ac (G3 (Ac (cC (.str "all")) (Ac (Ab 1) (Ac (Ab 2) Aq)))) Aq))) (cgN 6))
  (Bm (Dj (cLC [none] (Bj (Ab 6)) (cgN 0) (Bg (cOp (Ib true) (Ab 0) (cC (.none)))) (Ab 0)) (cgN 7))
  (Bm (cIf (Bg (cOp (Bo true) (cF Bs (Ac (Ab 0) (Ac (G3 (Ac (cC (.str "unlike")) (Ac (Ab 1) (Ac (Ab 2) Aq)))) Aq))) (Af3 (Bg (cOp (Bo true) (Ab 5) (Fo Aq))) (Ht (Ab 7)) (cC (.none))))) (Dc (cC (.bool false))) Cz)
  (Bm (Dj (cLC [none,some 0,some 1,some 2] (Bj (G3 (cK [.str "least",.str "greatest",.str "first",.str "last"]))) (cgN 0) By (cF Bs (Ac (Ab 1) (Ac (G3 (Ac (Ab 0) (Ac (Ab 2) (Ac (Ab 3) Aq)))) Aq)))) (cgN 8))
  (Bm (cIf (Bg (cOp (Bo true) (Ab 8) (Fo (Ac (cOp Ai (cOp Ci (Ab 7) (Fo (Ac (cC (.none)) Aq))) (cC (.int 0))) (Ac (cOp Ai (cOp Ci (Fo (Ac (cC (.none)) Aq)) (Ab 7)) (cUn J4 (cC (.int 1)))) (Ac (cOp Ai (cOp Ci (Ab 5) (Fo (Ac (cC (.none)) Aq))) (cC (.int 0))) (Ac (cOp Ai (cOp Ci (Fo (Ac (cC (.none)) Aq)) (Ab 5)) (cUn J4 (cC (.int 1)))) Aq))))))) (Dc (cC (.bool false))) Cz)
  (Bm (Dj (cF Bs (Ac (Ab 0) (Ac (G3 (Ac (cC (.str "count")) (Ac (Ab 1) (Ac (Ab 2) Aq)))) Aq))) (cgN 9))
  (Bm (cIf (Bg (cOp (Bo true) (Ab 9) (Af3 (Bg (cOp (Bo true) (Ab 5) (Fo Aq))) (Ht (cLC [none] (Bj (Ab 5)) (cgN 0) (Bg (cOp (Ib true) (Ab 0) (cC (.none)))) (Ab 0))) (cC (.none))))) (Dc (cC (.bool false))) Cz)
  (Bm (Dj (cF Di (Ac (cF G8 (Ac (G3 (Ac (cOp Ai (Ab 0) (cC (.int 0))) (Ac (cUn Em (Ab 4)) Aq))) (Ac (cFz (Fo (Ac (Ab 1) Aq))) Aq))) (Ac (Ab 1) Aq))) (cgN 10))
  (Bm (Dj (cLC [none] (Bj (Ab 10)) (cgN 0) (Bg (cOp (Ib true) (Ab 0) (cC (.none)))) (Ab 0)) (cgN 10))
  (Dc (cOp (Bo false) (cLC [none,none,some 10] (Ul (Ab 10)) (cgT 2 (El (cgN 0) (El (cgN 1) K4))) (cOr (Bg (cOp (Bo false) (Ab 0) (cC (.int 0)))) (Bg (cOp (Bo true) (Ab 1) (cOp Ai (Ab 2) (cOp Ox (Ab 0) (cC (.int 1))))))) (Ab 1)) (Ab 7))))))))))))))))
def Ep:List O->FR:=Eu 3 11 G4
def Ma:Ev->SR :=
 (Bm
  (Dj (cF Dz (Ac (Ab 2) (Ac (cOp Ai (Ab 3) (cC (.int 0))) (Ac (cOp Ai (Ab 3) (cC (.int 1))) Aq)))) (cgN 5))
  (Bm (Dj (cF Dz (Ac (Ab 2) (Ac (cOp Ai (Ab 3) (cC (.int 0))) (Ac (cOp Ai (Ab 3) (cC (.int 1))) Aq)))) (cgN 6))
  (Bm (Dj (cLC [none,some 3,some 6] (A3p 6 (Bj (cF Ao (Ac (Ab 3) (Ac (cFz (Ab 5)) Aq))))) (cgN 0) (Bg (cOp (Ji false) (Ab 0) (cF Ao (Ac (Ab 1) (Ac (Ab 2) Aq))))) (Ab 0)) (cgN 7))
  (Bm (cIf (cOr (Bg (cOp (Bo true) (cF Ao (Ac (Ab 3) (Ac (cFz (cOp Ci (cFz (Ab 5)) (cFz (Ab 6)))) Aq))) (cFz (Ab 7)))) (Bg (cOp (Bo true) (cF Ao (Ac (Ab 3) (Ac (cFz (cOp Ci (cFz (Ab 6)) (cFz (Ab 5)))) Aq))) (cFz (Ab 7))))) (Dc (cC (.bool false))) Cz)
  (Bm (Dj (cOp Ai (cOp Ai (Ab 3) (cC (.int 0))) (cF Aw (Ac (Ab 2) (Ac (Ht (cOp Ai (Ab 3) (cC (.int 0)))) Aq)))) (cgN 8))
  (Bm (Dj (cOp Ai (cOp Ci (cF Di (Ac (Ab 3) (Ac (Ab 8) Aq))) (Fo (Ac (cF Df (Ac (Ab 2) Aq)) Aq))) (cF Aw (Ac (Ab 2) (Ac (cOp Ci (Ht (cOp Ai (Ab 3) (cC (.int 1)))) (cC (.int 1))) Aq)))) (cgN 9))
  (Bm (cIf (cOr (A7g (Bg (cF Ey (Ac (Ab 3) (Ac (Ab 8) (Ac (Ab 9) (Ac (cFz (Ab 5)) Aq))))))) (A7g (Bg (cF Ep (Ac (Ab 3) (Ac (Ab 8) (Ac (cFz (cOp Ci (cFz (Ab 5)) (cFz (Ab 6)))) Aq))))))) (Dc (cC (.bool false))) Cz)
  (Bm (Dj (cF Pj (Ac (Ab 3) (Ac (cFz (Fo (Ac (Ab 8) Aq))) Aq))) (cgN 10))
  (cIf (Bg (cOp (Bo true) (cF Ao (Ac (Ab 10) (Ac (cFz (Fo (Ac (G3 (Ac (Ab 8) (Ac (cC (.str "is")) (Ac (Ab 9) Aq)))) Aq))) Aq))) (cF Ao (Ac (Ab 3) (Ac (cFz (Fo (Ac (G3 (Ac (Ab 8) (Ac (cC (.str "is")) (Ac (Ab 9) Aq)))) Aq))) Aq))))) (Dc (cC (.bool false))) Cz)))))))))
def Mm:Ev->SR :=
 (Bm
  (Dj (cF Ms (Ac (Ab 0) (Ac (Ab 1) Aq))) (cgN 2))
  (Bm (Dj (cF Ft (Ac (Ab 2) Aq)) (cgN 3))
  (Vp (Nr (cC (.int 4))) (cgN 4) Ma)))
def Ae9:Ev->SR :=
 (Bm
  (Vp (Nr (cOp Ci (cC (.int 1)) (cOp Ak9 (cC (.int 3)) (Ht (Ab 0))))) (cgN 1) Mm)
  (Dc (cC (.bool true))))
def Af1:List O->FR:=Eu 1 11 Ae9
abbrev sI (x:PyData):Option O:=some (.im x)
abbrev sT (x:List PyData):Option O:=some (.ls true x)
abbrev sFa (x:List PyData):Option O:=some (.ls false x)
local macro_rules | `(tactic| wp_walk using $ts,*)=>`(tactic| simp only [sI,sT,sFa,Bm,Dj,cgN,cgT,El,K4,Ab,cC,cOp,cUn,Ht,cF,cFz,List.contains_cons,Nt,Pq,slots,pairsOf,ndB,Gj,Aq,Ac,cK,nrm,Fj,rdP,O.dat,O.flag,O.bor,frz,frzs,G3,Fo,cIf,Bg,By,A6v,cOr,A7g,Af3,Dc,Lh,Cz,Lp,Ab5,slL,U7,Ao1,cSl,cOS,Nr,cIn,R.bind_ok,R.toS_ok,Eu,As9,resolve,Hs,Yr,U.opI,U.Vy,A0u,Bg2,Ox,Xw,Om,Zw,Oq,Pb,Bk8,List.getElem?_cons_zero,List.getElem?_cons_succ,List.set_cons_zero,List.set_cons_succ,List.map_cons,List.map_nil,List.length_cons,List.length_nil,List.replicate,List.cons_append,List.nil_append,List.append_nil,List.contains_nil,Option.map_some,Option.map_none,Option.bind_some,Option.join_some,Option.isSome_some,if_true,if_false,Bool.not_true,Bool.not_false,Bool.and_true,Bool.true_and,Bool.and_false,Bool.false_and,Bool.or_true,Bool.or_false,Bool.true_or,Bool.false_or,Nat.sub_self,List.dropLast,List.any_nil,List.flatMap_nil,ite_true,ite_false,decide_true,decide_false,reduceCtorEq,A3o,Bs5,Bs8,Bn7,Bq4,Bl6,Bc8,Bf7,U.Az0,Nat.zero_add,Nat.reduceAdd,Nat.reduceSub,Nat.reduceLeDiff,Nat.reduceLT,Nat.reduceEqDiff,Int.reduceAdd,Int.reduceSub,Int.reduceNeg,Int.reduceLT,Int.reduceLE,Int.reducePow,Int.reduceToNat,Int.reduceMul,and_self,and_true,true_and,Bool.false_eq_true,Option.some.injEq,cMt,Yn,Bf9,$[$ts:term],*])
def Bx (n:Nat)(ds:List PyData):Prop:=∃x y z:Int,ds=[.int x,.int y,.int z]/\0<=x/\0<=y/\y<2 ^ 62/\0<=z/\z<=n
abbrev lH:Str:="_law_box_here"
abbrev lJ:Str:="_law_table_here"
abbrev lK:Str:="_law_many_here"
abbrev lL:Str:="conditions"
abbrev lM:Str:="_law_value_here"
abbrev lN:Str:="_law_conditions_here"
abbrev lP:Str:="_law_script"
abbrev lQ:Str:="_law_name"
abbrev lR:Str:="_law_rows"
theorem Bx.mono (h:Bx n ds) (l:n<=m):Bx m ds:=by
 obtain⟨x,y,z,e,b,c,a,d,f⟩:=h
 exact⟨x,y,z,e,b,c,a,d,by omega⟩
theorem mod_lt {x m:Int}(h:0<m):0<=x % m/\x % m<m:=⟨Int.emod_nonneg _ (by omega),Int.emod_lt_of_pos _ h⟩
theorem A2d (h:-(2 ^ 64)<i/\i<2 ^ 64):Ux i j=true:=by
 unfold Ux;grind
theorem Xh (h:-(2 ^ 64)<j/\j<2 ^ 64):Ux i j=true:=by
 unfold Ux;grind
theorem Ag9 (h:0<j):A4a i j=true:=decide_eq_true h
theorem Bo6 (h:0<j/\j<1073741824):Ar1 i j=true:=by
 unfold Ar1;grind
theorem Bu3:Ac6 10 18=true:=by rfl
theorem Bp4:Ac6 10 12=true:=by rfl
theorem Bm8:Ac6 10 11=true:=by rfl
theorem Ek (hb:Bx n ds) (hn:n<2 ^ 40) (a:0<m) (h1:m<16000000) :
 ∃r ds',Bx (n+1) ds'/\0<=r/\r<m/\Aw [.ls true ds,.im (.int m)]=.ret (.im (.int r)) [.ls true ds',.im (.int m)]:=by
 obtain⟨x,y,z,rfl,d,e,b,g,z1⟩:=hb
 by_cases c:0<x
 ·refine⟨x % m,[.int (x / m),.int y,.int z],⟨_,_,_,rfl,Int.ediv_nonneg d (by omega),e,b,g,by omega⟩,(mod_lt a).1,(mod_lt a).2,?_⟩
  wp_walk using Aw,Q4,Ai,decide_eq_true c,Ag9 a,Bo6 ⟨a,(by omega:m<1073741824)⟩
 ·have h:=mod_lt (x:=(y+48271*(z+1))*(39373+(z+1))) (m:=2147483647) (by decide)
  generalize e1:(y+48271*(z+1))*(39373+(z+1)) % 2147483647=once at h
  have g2:=mod_lt (x:=once) (m:=40009) (by decide)
  have f:=mod_lt (x:=(once+(z+1))*(once % 40009+7)) (m:=2147483629) (by decide)
  generalize e2:(once+(z+1))*(once % 40009+7) % 2147483629=twice at f
  refine⟨(twice*48271+once) % 2147483587 / 64 % m,[.int x,.int y,.int (z+1)],⟨_,_,_,rfl,d,e,b,by omega,by omega⟩,(mod_lt a).1,(mod_lt a).2,?_⟩
  wp_walk using Aw,Q4,Ai,Ks,Ci,decide_eq_false c,Ag9 a,Bo6 (i:=(twice*48271+once) % 2147483587) (j:=64) ⟨by decide,by decide⟩,A2d (i:=48271) (j:=z+1) ⟨by decide,by decide⟩,Xh (i:=y+48271*(z+1)) (j:=39373+(z+1)) ⟨by omega,by omega⟩,Ag9 (i:=(y+48271*(z+1))*(39373+(z+1))) (j:=2147483647) (by decide),e1,Ag9 (i:=once) (j:=40009) (by decide),Xh (i:=once+(z+1)) (j:=once % 40009+7) ⟨by omega,by omega⟩,Ag9 (i:=(once+(z+1))*(once % 40009+7)) (j:=2147483629) (by decide),e2,Xh _,Ag9 (j:=2147483587) (by decide)
theorem Ag8 {k:Nat}:∃i:Int,Fz [.sc ns,.im (.int k)]=.ret (.im (.int i)) [.sc ns,.im (.int k)]:=by
 by_cases c:k<ns.length
 ·refine⟨ns[k],?_⟩
  have e:atI ns (k:Int)=some ns[k]:=Fg (List.getElem?_eq_getElem c)
  wp_walk using Fz,Ko,O8,Ce,PyData.canLay0,PyData.depth,G6,decide_eq_true (show (k:Int)<ns.length by omega),e,Nat.zero_le
 ·refine⟨0,?_⟩
  wp_walk using Fz,Ko,O8,Ce,PyData.canLay0,PyData.depth,G6,decide_eq_false (show ¬ (k:Int)<ns.length by omega),Nat.zero_le
theorem Bj5 {k:Nat}(hk:k<=63):∃ds,Bx 0 ds/\Ms [.sc ns,.im (.int k)]=.ret (.ls false ds) [.sc ns,.im (.int k)]:=by
 obtain⟨i,e⟩:=Ag8 (ns:=ns) (k:=k)
 have a:(0:Int)<=(if i<0 then -i else i):=by grind
 have c:=mod_lt (x:=i) (m:=2305843009213693951) (by decide)
 generalize ea:(if i<0 then -i else i)=ab at a
 have b:(0:Int)<=(if decide ((1000000000000000000:Int)<=ab)=true then 1 else 0)/\(if decide ((1000000000000000000:Int)<=ab)=true then (1:Int) else 0)<=1:=by omega
 generalize eo:(if decide ((1000000000000000000:Int)<=ab)=true then (1:Int) else 0)=on at b
 refine⟨[.int _,.int (i % 2305843009213693951+39373*k+17),.int 0],⟨_,_,_,rfl,Int.mul_nonneg a b.1,by omega,by omega,by omega,by omega⟩,?_⟩
 wp_walk using Ms,Zq,e,Al6,ea,A2q,Ks,Ci,eo,Bu3,Ag9 (j:=2305843009213693951) (by decide),Xh (j:=on) ⟨by omega,by omega⟩,A2d _
theorem Aq6 (hb:Bx n ds) (hn:n<2 ^ 39) (j:0<=l) (h1:l<=7) (h2:l<=f) (t:f<=m) (o:7<=m) (p:m<1000) :
 ∃r ds',Bx (n+2) ds'/\l<=r/\r<=m/\Hl [.ls true ds,.im (.int l),.im (.int f),.im (.int m)]=.ret (.im (.int r)) [.ls true ds',.im (.int l),.im (.int f),.im (.int m)]:=by
 obtain⟨r,s,g,u,k,e⟩:=Ek (m:=8) hb (by omega) (by decide) (by decide)
 by_cases c:r=0
 ·subst c
  obtain⟨q,a,d,h,i,b⟩:=Ek (m:=m-6) g (by omega) (by omega) (by omega)
  refine⟨7+q,a,d,by omega,by omega,?_⟩
  wp_walk using Hl,Qd,e,b,Bo,Ce,PyData.canLay0,PyData.depth,PyData.eqv,Ci,Nat.zero_le,beq_self_eq_true
 ·obtain⟨q,a,d,h,i,b⟩:=Ek (m:=f-l+1) g (by omega) (by omega) (by omega)
  refine⟨l+q,a,d,by omega,by omega,?_⟩
  wp_walk using Hl,Qd,e,b,Bo,Ce,PyData.canLay0,PyData.depth,PyData.eqv,Ci,Nat.zero_le,beq_eq_false_iff_ne.mpr c
theorem Ua (hb:Bx n ds) (hn:n<2 ^ 39):∃(v:Vl) (ds':List PyData),Bx (n+2) ds'/\VB v/\Df [.ls true ds]=.ret (.im v.d) [.ls true ds']:=by
 obtain⟨r,t,k,r0,r1,j⟩:=Ek (m:=9) hb (by omega) (by decide) (by decide)
 by_cases c4:r<4
 ·obtain⟨q,e,g,h,i,c⟩:=Ek (m:=13) k (by omega) (by decide) (by decide)
  refine⟨.int (q-3),e,g,?_,?_⟩
  ·show (decide (-1000000000000<=q-3)&&decide (q-3<=1000000000000))=true
   rw[decide_eq_true (by omega),decide_eq_true (by omega)];rfl
  wp_walk using Df,Jc,j,c,O8,G6,Ce,PyData.canLay0,PyData.depth,Nat.zero_le,decide_eq_true c4,Vl.d
 by_cases c5:r=4
 ·subst c5
  obtain⟨q,e,g,h,i,c⟩:=Ek (m:=4) k (by omega) (by decide) (by decide)
  obtain⟨d,s,f,_⟩:=Mg (l:=[PyData.int 999999999999,.int (-100000000000),.int 100,.int 10]) (r:=q) h i
  have p:∃v:Vl,d=v.d/\VB v:=by
   simp only[List.mem_cons,List.not_mem_nil,or_false]at f
   rcases f with rfl | rfl | rfl | rfl <;> exact⟨.int _,rfl,by decide⟩
  obtain⟨v,rfl,o⟩:=p
  refine⟨v,e,g,o,?_⟩
  wp_walk using Df,Jc,j,c,O8,G6,Bo,Ce,PyData.canLay0,PyData.depth,PyData.eqv,Nat.zero_le,decide_eq_false c4,beq_self_eq_true,Bp4,Bm8,Ai,s
 by_cases c6:r=5
 ·subst c6
  refine⟨.non,t,k.mono (by omega),rfl,?_⟩
  wp_walk using Df,Jc,j,O8,G6,Bo,Ce,PyData.canLay0,PyData.depth,PyData.eqv,Nat.zero_le,decide_eq_false c4,beq_self_eq_true,beq_eq_false_iff_ne.mpr c5,Vl.d
 ·obtain⟨q,e,g,h,i,c⟩:=Ek (m:=15) k (by omega) (by decide) (by decide)
  obtain⟨d,s,f,_⟩:=Mg (l:=[PyData.str "",.str "a",.str "b",.str "B",.str "10",.str "9",.str "-",.str "a b",.str "it's",.str "\\",.str "/",.str "_",.str ":",.str "None",.str "ab"]) (r:=q) h i
  have p:∃v:Vl,d=v.d/\VB v:=by
   simp only[List.mem_cons,List.not_mem_nil,or_false]at f
   rcases f with rfl | rfl | rfl | rfl | rfl | rfl | rfl | rfl | rfl | rfl | rfl | rfl | rfl | rfl | rfl <;> exact⟨.str _,rfl,by decide⟩
  obtain⟨v,rfl,o⟩:=p
  refine⟨v,e,g,o,?_⟩
  wp_walk using Df,Jc,j,c,O8,G6,Bo,Ce,PyData.canLay0,PyData.depth,PyData.eqv,Nat.zero_le,decide_eq_false c4,beq_eq_false_iff_ne.mpr c5,beq_eq_false_iff_ne.mpr c6,Ai,s
noncomputable def names12:List Str:=[Str.ofString "b",Str.ofString "a",Str.ofString "year",Str.ofString "z",Str.ofString "ab",Str.ofString "month",Str.ofString "aa",Str.ofString "quantity",Str.ofString "c",Str.ofString "town",Str.ofString "zz",Str.ofString "ba"]
theorem Bs1 {m:Nat}(h:m<=1000):(m:Int)<=16000000/\-16000000<=(m:Int):=by omega
theorem upN {n k a b c:Nat}(hn:n<a)(hk:k<=b)(h:a+b<=c):n+k<c:=Nat.lt_of_lt_of_le (Nat.add_lt_add_of_lt_of_le hn hk) h
theorem A7n {n:Nat}{r:Int}(a:0<=r)(h1:r<n):ixN n r=some r.toNat:=by
 unfold ixN;grind
theorem Oe : (Kv lo n).length=n:=by unfold Kv;grind
theorem M7 (h:(Kv lo n)[k]?=some d):d=.int (lo+k)/\k<n:=by
 unfold Kv at h
 grind
theorem V8 {α β:Type}(f:α->β):∀(l:List α) (j:Nat),(l.map f).eraseIdx j=(l.eraseIdx j).map f
 | [],j=>rfl
 | a::l,0=>rfl
 | a::l,j+1=>by rw[List.map_cons,List.eraseIdx_cons_succ,List.eraseIdx_cons_succ,List.map_cons,V8 f l j]
theorem Ui {α:Type}:∀(l:List α) {j:Nat}(h:j<l.length),(l[j]::l.eraseIdx j).Perm l
 | a::l,0,h=>List.Perm.refl _
 | a::l,j+1,h=>by
  rw[List.eraseIdx_cons_succ,List.getElem_cons_succ]
  exact(List.Perm.swap a _ _).trans (List.Perm.cons a (Ui l (by simpa using h)))
structure Names (ns:List Str):Prop where
 nd:ns.Nodup
 sub:∀x∈ns,x∈names12
theorem A4o (hb:Bx n ds) (hn:n<2 ^ 38) (hm:m<=12) :
 ∃b ds',b.length=m/\Names b/\Bx (n+m) ds'/\Iu [.ls true ds,.im (.int m)]=.ret (.ls false (b.map PyData.str)) [.ls true ds',.im (.int m)]:=by
 have i:=My (g:=cgN 0) (ft:=By) (fe:=U7 (Ab 1) (cF Aw (Ac (Ab 2) (Ac (Ht (Ab 1)) Aq)))) (items:=Kv 0 m) (acc:=[]) (n:=0) (c:=[none,sT (names12.map PyData.str),sT ds])
  (P:=λk f c=>∃a h t b,c=[t,sT (a.map PyData.str),sT h]/\Bx (n+k) h/\f=b.map PyData.str/\(b++a).Perm names12/\b.length=k)
  ⟨names12,ds,none,[],rfl,hb,rfl,List.Perm.refl _,rfl⟩ (λk d f c C w=>by
   rw[Nat.zero_add]at w ⊢;obtain⟨a,h,t,b,rfl,o,rfl,j,l⟩:=w;obtain⟨rfl,hk⟩:=M7 C
   have ll:a.length+k=12:=by have:=j.length_eq;rw[List.length_append,l]at this;have e:names12.length=12:=rfl;omega
   obtain⟨r,v,A,z,y,B⟩:=Ek (m:=(a.length:Int)) o (by omega) (by omega) (by omega)
   have u:r.toNat<a.length:=by omega
   have q:(a.map PyData.str)[r.toNat]?=some (.str a[r.toNat]):=by simp[u]
   have p:ixN a.length r=some r.toNat:=A7n z y
   refine⟨some (.str a[r.toNat]),[sI (.int (0+(k:Int))),sT ((a.eraseIdx r.toNat).map PyData.str),sT v],?_,a.eraseIdx r.toNat,v,_,b++[a[r.toNat]],rfl,A.mono (by omega),by simp,?_,by simp[l]⟩
   ·wp_walk using Hc,List.length_map,B,p,q,V8,show a.length<=16000000 by omega
   ·rw[List.append_assoc]
    exact(List.Perm.append_left b (Ui a u)).trans j)
 obtain⟨f,cI,e,a,h,t,b,rfl,o,rfl,j,l⟩:=i;rw[Nat.zero_add,Oe]at o l
 have D:(b++a).Nodup:=j.nodup_iff.mpr (by decide)
 refine⟨b,h,l,⟨(List.nodup_append.mp D).1,λx q=>j.mem_iff.mp (List.mem_append_left _ q)⟩,o,?_⟩
 have s:cLC [none,some 2,some 0] (Nr (Ab 1)) (cgN 0) By (U7 (Ab 1) (cF Aw (Ac (Ab 2) (Ac (Ht (Ab 1)) Aq)))) [sT ds,sI (.int m),sFa (names12.map PyData.str)]=.ok (.o (.ls false (b.map PyData.str))) [sT h,sI (.int m),sFa (a.map PyData.str)] :=
  Ff (ds:=Kv 0 m) (c1:=[sT ds,sI (.int m),sFa _]) (by wp_walk using Bs1 (Nat.le_trans hm (by decide)),Int.toNat_natCast) (by rw[Oe];exact Nat.le_trans hm (by decide)) e (by wp_walk using true_and)
 unfold Iu Um;simp only[names12,List.map_cons,List.map_nil]at s
 wp_walk using s
theorem As4 {k:Nat}{vs:List Vl} (h:v∉vs) (a:vs.Nodup):(vs++[v]).Nodup:=by
 grind
theorem A6f (hb:Bx n ds) (hn:n<2 ^ 38) (hm:m<=1000) :
 ∃a ds',VBs a/\a.Nodup/\a.length<=m/\(0<m->a≠[])/\Bx (n+2*m) ds'/\Gn [.ls true ds,.im (.int m)]=.ret (.ls false (a.map Vl.d)) [.ls true ds',.im (.int m)]:=by
 have i:=Ir (g:=cgN 3) (body:=Bm (Dj (cF Df (Ac (Ab 0) Aq)) (cgN 4)) (cIf (Bg (cOp (Ji true) (Ab 4) (Ab 2))) (Lh (Ab5 (Ab 2) (Ab 4))) Cz)) (items:=Kv 0 m) (n:=0) (c:=[sT ds,sI (.int m),sFa [],none,none])
  (P:=λk c=>∃j a x y,c=[sT j,sI (.int m),sFa (a.map Vl.d),x,y]/\Bx (n+2*k) j/\VBs a/\a.Nodup/\a.length<=k/\(0<k->a≠[]))
  ⟨ds,[],none,none,rfl,hb,(λv b=>by cases b),List.nodup_nil,Nat.le_refl _,λh=>absurd h (by decide)⟩ (λk d c B s=>by
   rw[Nat.zero_add]at s ⊢;obtain⟨j,a,x,y,rfl,p,b,o,l,f⟩:=s;obtain⟨rfl,w⟩:=M7 B
   obtain⟨v,q,t,r,A⟩:=Ua p (upN hn (Nat.mul_le_mul_left 2 (Nat.le_trans (Nat.le_of_lt w) hm)) (by decide))
   by_cases c:v∈a
   ·refine⟨[sT q,sI (.int m),sFa (a.map Vl.d),sI (.int (0+(k:Int))),sI v.d],.inl ?_,q,a,_,_,rfl,t,b,o,Nat.le_succ_of_le l,λ_ z=>by rw[z]at c;cases c⟩
    wp_walk using A,A3v r b,decide_eq_true c
   ·refine⟨[sT q,sI (.int m),sFa ((a++[v]).map Vl.d),sI (.int (0+(k:Int))),sI v.d],.inl ?_,q,a++[v],_,_,rfl,t,VBs.app b (λu C=>by rw[List.mem_singleton.mp C];exact r),As4 (k:=k) c o,by rw[List.length_append,List.length_singleton];omega,λ_=>by simp⟩
    wp_walk using A,A3v r b,decide_eq_false c,List.length_map,show a.length<16000000 from Nat.lt_of_le_of_lt l (Nat.lt_of_lt_of_le w (Nat.le_trans hm (by decide))),List.map_append)
 obtain⟨c',e,j,a,x,y,rfl,p,b,o,l,f⟩:=i;rw[Nat.zero_add,Oe]at p l f
 refine⟨a,j,b,o,l,f,p,?_⟩
 unfold Gn We
 wp_walk using Vp,Bs1 hm,Int.toNat_natCast,e
structure Tb where
 cols:List Str
 rows:List (List Vl)
def Tb.d (t:Tb):PyData:=.tuple [.tuple (t.cols.map PyData.str),.tuple (t.rows.map tD)]
structure Tb.Ok (t:Tb):Prop where
 nms:Names t.cols
 cpos:2<=t.cols.length
 clen:t.cols.length<=12
 rows:∀r∈t.rows,r.length=t.cols.length/\VBs r
 rlen:t.rows.length<=24
def plD (vs:List Vl):PyData:=.list (vs.map Vl.d)
structure Ao7 (n:Nat) (ps:List (List Vl)):Prop where
 len:ps.length=n
 each:∀p∈ps,VBs p/\p≠[]/\p.length<=12
theorem A0k (hb:Bx n ds) (hn:n<2 ^ 37) (hl:items.length<=100) :
 ∃
  b f t,Ao7 items.length b/\Bx (n+25*items.length) f /\
  Et (cgN 0) By (cF Gn (Ac (Ab 1) (Ac (cOp Ai (Fo (cK [.int 2,.int 3,.int 3,.int 5,.int 12])) (cF Aw (Ac (Ab 1) (Ac (cC (.int 5)) Aq)))) Aq))) items [] [none,sT ds]=.ok (b.map plD) [t,sT f]:=by
 have j:=My (g:=cgN 0) (ft:=By) (fe:=cF Gn (Ac (Ab 1) (Ac (cOp Ai (Fo (cK [.int 2,.int 3,.int 3,.int 5,.int 12])) (cF Aw (Ac (Ab 1) (Ac (cC (.int 5)) Aq)))) Aq))) (items:=items) (acc:=[]) (n:=0) (c:=[none,sT ds])
  (P:=λk a c=>∃f t b,c=[t,sT f]/\k<=items.length/\Bx (n+25*k) f/\a=b.map plD/\Ao7 k b)
  ⟨ds,none,[],rfl,Nat.zero_le _,hb,rfl,rfl,λp i=>nomatch i⟩ (λk d a c E v=>by
   rw[Nat.zero_add]at v ⊢;obtain⟨f,t,b,rfl,F,o,rfl,i⟩:=v;have s:k<items.length:=(List.getElem?_eq_some_iff.mp E).1
   obtain⟨r,d2,G,B,z,C⟩:=Ek (m:=5) o (by omega) (by decide) (by decide)
   obtain⟨x,D,w,_⟩:=Mg (l:=[PyData.int 2,.int 3,.int 3,.int 5,.int 12]) (r:=r) B z
   have q:∃m:Nat,x=.int m/\0<m/\m<=12:=by
    simp only[List.mem_cons,List.not_mem_nil,or_false]at w
    rcases w with rfl | rfl | rfl | rfl | rfl
    ·exact⟨2,rfl,by decide,by decide⟩
    ·exact⟨3,rfl,by decide,by decide⟩
    ·exact⟨3,rfl,by decide,by decide⟩
    ·exact⟨5,rfl,by decide,by decide⟩
    ·exact⟨12,rfl,by decide,by decide⟩
   obtain⟨m,rfl,A,m1⟩:=q
   obtain⟨y,H,q,nd,I,u,J,K⟩:=A6f (m:=m) G (by omega) (by omega)
   refine⟨some (plD y),[sI d,some _],?_,H,_,b++[y],rfl,s,J.mono (by omega),by simp,by simp[i.len],λp h=>by
    rcases List.mem_append.mp h with h | h
    ·exact i.each p h
    ·rw[List.mem_singleton.mp h];exact⟨q,u A,by omega⟩⟩
   wp_walk using C,Ai,D,K,plD)
 obtain⟨a,cI,e,f,t,b,rfl,_,o,rfl,i⟩:=j;rw[Nat.zero_add]at o i;exact⟨b,f,t,i,o,e⟩
theorem As3 (hb:Bx n ds) (hn:n<2 ^ 37) (hp:Ao7 w ps) (hw:w<=100) :
 ∃
  a f t,a.length=w/\VBs a/\Bx (n+w) f /\
  Et (cgN 0) By (cOp Ai (Ab 0) (cF Aw (Ac (Ab 1) (Ac (Ht (Ab 0)) Aq)))) (ps.map plD) [] [none,sT ds]=.ok (a.map Vl.d) [t,sT f]:=by
 have o:=My (g:=cgN 0) (ft:=By) (fe:=cOp Ai (Ab 0) (cF Aw (Ac (Ab 1) (Ac (Ht (Ab 0)) Aq)))) (items:=ps.map plD) (acc:=[]) (n:=0) (c:=[none,sT ds])
  (P:=λk b c=>∃f t a,c=[t,sT f]/\k<=w/\Bx (n+k) f/\b=a.map Vl.d/\a.length=k/\VBs a)
  ⟨ds,none,[],rfl,Nat.zero_le _,hb,rfl,rfl,λv C=>by cases C⟩ (λk d b c F B=>by
   rw[Nat.zero_add]at B ⊢;obtain⟨f,t,a,rfl,M,s,rfl,q,A⟩:=B;obtain⟨p,j,e⟩:=Gy F;subst e;have i:k<ps.length:=(List.getElem?_eq_some_iff.mp j).1;rw[hp.len]at i;obtain⟨E,y,pl⟩:=hp.each p (List.mem_of_getElem? j);have lp:0<p.length:=List.length_pos_iff.mpr y
   obtain⟨r,I,J,D,H,G⟩:=Ek (m:=(p.length:Int)) s (by omega) (by omega) (by omega)
   obtain⟨x,L,K,_⟩:=Mg (l:=p.map Vl.d) (r:=r) D (by rw[List.length_map];exact H)
   obtain⟨v,z,rfl⟩:=List.mem_map.mp K
   refine⟨some v.d,[sI (plD p),some _],?_,I,_,a++[v],rfl,i,J.mono (by omega),by simp,by simp[q],VBs.app A λu h=>by rw[List.mem_singleton.mp h];exact E v z⟩
   wp_walk using plD,Hc,List.length_map,G,Ai,L)
 obtain⟨b,cI,e,f,t,a,rfl,_,s,rfl,q,A⟩:=o;rw[Nat.zero_add,List.length_map,hp.len]at s q;exact⟨a,f,t,q,A,s,e⟩
abbrev P0:Ev->SR:=Bm (Dj (cUn Em (cLC [none,some 0] (Bj (Ab 4)) (cgN 0) By (cOp Ai (Ab 0) (cF Aw (Ac (Ab 1) (Ac (Ht (Ab 0)) Aq)))))) (cgN 7))
 (Bm (cIf (A6v (Bg (cOp (Bo true) (Ab 5) (Fo Aq))) (Bg (cOp (Bo false) (cF Aw (Ac (Ab 0) (Ac (cC (.int 9)) Aq))) (cC (.int 0))))) (Dj (cOp Ai (Ab 5) (cF Aw (Ac (Ab 0) (Ac (Ht (Ab 5)) Aq)))) (cgN 7)) Cz)
 (Lh (Ab5 (Ab 5) (Ab 7))))
theorem Av3 {rows:List (List Vl)} (h:∀r∈rows,r.length=w/\VBs r) (hw:w<=12) (hl:rows.length<=100):Good (.list (rows.map tD)) 2 2400000:=by
 refine (Good.lst (n:=1) (w:=1923*12+4) (k:=100) (λd a=>?_) (by grind)).mono (by decide) (by decide)
 obtain⟨r,b,rfl⟩:=List.mem_map.mp a
 exact Ar0 (h r b).2 (by grind)
theorem A0l (h:∀r∈rows,r.length=w/\VBs r) (hw:w<=12) (hl:rows.length<=100):Bo true (.list (rows.map tD)) (.list [])=sI (.bool (decide (rows≠[]))):=by
 rw[Wb (Av3 h hw hl) (n':=1) (w':=4) ⟨rfl,rfl,rfl,by decide,by decide⟩ (by decide) (by decide)]
 cases rows with
 | nil=>rfl
 | cons a r=>rfl
def Bi1 (o:O)(ds:List PyData):Prop:=o=.ls false ds\/o=.im (.list ds)
theorem Ae2 (hb:Bx n ds) (hn:n<2 ^ 36) (hp:Ao7 w ps) (hw:w<=12) (p:Bi1 d (ps.map plD)) (hr:∀r∈rows,r.length=w/\VBs r) (hl:rows.length<=50) :
 ∃a h,a.length=w/\VBs a/\Bx (n+14) h/\Oq (cgN 6) P0 i [sT ds,s1,s2,s3,some d,sFa (rows.map tD),s6,s7]=.nx [sT h,s1,s2,s3,sI (.list (ps.map plD)),sFa ((rows++[a]).map tD),sI i,sI (tD a)]:=by
 obtain⟨g,h,t,q,v,y,C⟩:=As3 hb (by omega) hp (by omega)
 have f:∀d,Bi1 d (ps.map plD)->cLC [none,some 0] (Bj (Ab 4)) (cgN 0) By (cOp Ai (Ab 0) (cF Aw (Ac (Ab 1) (Ac (Ht (Ab 0)) Aq)))) [sT ds,s1,s2,s3,some d,sFa (rows.map tD),sI i,s7]=.ok (.o (.ls false (g.map Vl.d))) [sT h,s1,s2,s3,sI (.list (ps.map plD)),sFa (rows.map tD),sI i,s7]:=λd p=>by
  refine Ff (ds:=ps.map plD) (c1:=[sT ds,s1,s2,s3,sI (.list (ps.map plD)),sFa (rows.map tD),sI i,s7]) ?_ (by rw[List.length_map,hp.len];omega) C (by wp_walk using true_and)
  rcases p with rfl | rfl <;> wp_walk using Bj
 have f:=f d p;have o:PyData.tuple (g.map Vl.d)=tD g:=rfl
 have s:(rows.map tD).length<16000000:=by rw[List.length_map];omega
 have e:=A0l hr hw (by omega)
 by_cases hne:rows=[]
 ·subst hne
  refine⟨g,h,q,v,y.mono (by omega),?_⟩
  simp only[List.map_nil]at f e s
  wp_walk using P0,f,Em,o,e,ne_eq,not_true_eq_false
 ·obtain⟨r,B,z,r0,r1,u⟩:=Ek (m:=9) y (by omega) (by decide) (by decide)
  have e:Bo true (.list (rows.map tD)) (.list [])=sI (.bool true):=by rw[e,decide_eq_true hne]
  by_cases c:r=0
  ·subst c
   have lp:0<rows.length:=List.length_pos_iff.mpr hne
   obtain⟨k,G,D,F,E,H⟩:=Ek (m:=(rows.length:Int)) z (by omega) (by omega) (by omega)
   obtain⟨x,hx,A,_⟩:=Mg (l:=rows.map tD) (r:=k) F (by rw[List.length_map];exact E)
   obtain⟨a,b,rfl⟩:=List.mem_map.mp A
   refine⟨a,G,(hr a b).1,(hr a b).2,D.mono (by omega),?_⟩
   have j:Bo false (.int 0) (.int 0)=sI (.bool true):=rfl
   wp_walk using P0,f,Em,o,e,u,j,Hc,List.length_map,H,Ai,hx,s,List.map_append,show rows.length<16000000 by omega
  ·refine⟨g,B,q,v,z.mono (by omega),?_⟩
   have j:Bo false (.int r) (.int 0)=sI (.bool false):=by
    wp_walk using Bo,Ce,PyData.canLay0,PyData.depth,PyData.eqv,Nat.zero_le,beq_eq_false_iff_ne.mpr c
   wp_walk using P0,f,Em,o,e,u,j,List.length_map,List.map_append,show rows.length<16000000 by omega
theorem A3b (hb:Bx n ds) (hn:n<2 ^ 35) (h2:2<=m) (hm:m<=12) (hk:k<=24) :
 ∃t l,Tb.Ok t/\t.cols.length=m/\t.rows.length=k/\Bx (n+1000) l/\Kp [.ls true ds,.im (.int m),.im (.int k)]=.ret (.im t.d) [.ls true l,.im (.int m),.im (.int k)]:=by
 obtain⟨b,l,B,z,U,K⟩:=A4o (m:=m) hb (by omega) hm
 obtain⟨o,q,t,E,F,J⟩:=A0k (items:=b.map PyData.str) U (by omega) (by rw[List.length_map];omega)
 rw[List.length_map,B]at E F
 have L:cLC [none,some 0] (Bj (Ab 3)) (cgN 0) By (cF Gn (Ac (Ab 1) (Ac (cOp Ai (Fo (cK [.int 2,.int 3,.int 3,.int 5,.int 12])) (cF Aw (Ac (Ab 1) (Ac (cC (.int 5)) Aq)))) Aq))) [sT l,sI (.int m),sI (.int k),sFa (b.map PyData.str),none,none,none,none]=.ok (.o (.ls false (o.map plD))) [sT q,sI (.int m),sI (.int k),sI (.list (b.map PyData.str)),none,none,none,none] :=
  Ff (ds:=b.map PyData.str) (c1:=[sT l,sI (.int m),sI (.int k),sI (.list (b.map PyData.str)),none,none,none,none]) (by wp_walk using Bj) (by rw[List.length_map];omega) J (by wp_walk using true_and)
 have u:=Ir (g:=cgN 6) (body:=P0) (items:=Kv 0 k) (n:=0) (c:=[sT q,sI (.int m),sI (.int k),sI (.list (b.map PyData.str)),sFa (o.map plD),sFa [],none,none])
  (P:=λj c=>∃e s a x y,c=[sT e,sI (.int m),sI (.int k),sI (.list (b.map PyData.str)),some s,sFa (a.map tD),x,y]/\j<=k/\Bx (n+m+25*m+14*j) e/\Bi1 s (o.map plD)/\(∀r∈a,r.length=m/\VBs r)/\a.length=j)
  ⟨q,_,[],none,none,rfl,Nat.zero_le _,F,.inl rfl,(λr f=>nomatch f),rfl⟩ (λj d c N G=>by
   rw[Nat.zero_add]at G ⊢;obtain⟨e,s,a,x,y,rfl,I,v,D,f,w⟩:=G;obtain⟨rfl,M⟩:=M7 N
   obtain⟨A,O,Q,R,S,T⟩:=Ae2 (s1:=sI (.int m)) (s2:=sI (.int k)) (s3:=sI (.list (b.map PyData.str))) (s6:=x) (s7:=y) (i:=.int (0+(j:Int))) v (by omega) E hm D f (by omega)
   exact⟨_,.inl T,O,_,a++[A],_,_,rfl,M,S.mono (by omega),.inr rfl,λr h=>by
    rcases List.mem_append.mp h with h | h
    ·exact f r h
    ·rw[List.mem_singleton.mp h];exact⟨Q,R⟩,by simp[w]⟩)
 obtain⟨C,H,e,s,a,x,y,rfl,_,v,D,f,w⟩:=u;rw[Nat.zero_add,Oe]at v w
 refine⟨⟨b,a⟩,e,⟨z,by show 2<=b.length;omega,by show b.length<=12;omega,λr h=>by show r.length=b.length/\_;rw[B];exact f r h,by show a.length<=24;omega⟩,B,w,v.mono (by omega),?_⟩
 refine M5 (p:=.o (.im (Tb.d ⟨b,a⟩))) (c:=[sT e,sI (.int m),sI (.int k),sI (.list (b.map PyData.str)),some s,sFa (a.map tD),x,y]) ?_ rfl (by wp_walk using true_and)
 show Ob [sT ds,sI (.int m),sI (.int k),none,none,none,none,none]=_
 unfold Ob
 refine (Cd (c':=[sT l,sI (.int m),sI (.int k),sFa (b.map PyData.str),none,none,none,none]) (by wp_walk using K)).trans ?_
 refine (Cd (c':=[sT q,sI (.int m),sI (.int k),sI (.list (b.map PyData.str)),sFa (o.map plD),none,none,none]) (by wp_walk using L)).trans ?_
 refine (Cd (c':=[sT q,sI (.int m),sI (.int k),sI (.list (b.map PyData.str)),sFa (o.map plD),sFa [],none,none]) (by wp_walk using true_and)).trans ?_
 refine (Cd ((Oo (by wp_walk using show (k:Int)<=16000000/\-16000000<=(k:Int) by omega,Int.toNat_natCast)).trans H)).trans ?_
 wp_walk using Em,Tb.d
theorem Ys (hb:Bx n ds) (hn:n<2 ^ 34) :
 ∃t c,Tb.Ok t/\Bx (n+1004) c/\Ft [.ls true ds]=.ret (.im t.d) [.ls true c]:=by
 obtain⟨a,c,e,a0,a1,h⟩:=Aq6 (l:=2) (f:=5) (m:=12) hb (by omega) (by decide) (by decide) (by decide) (by decide) (by decide) (by decide)
 obtain⟨b,d2,i,j,c1,g⟩:=Aq6 (l:=0) (f:=8) (m:=24) e (by omega) (by decide) (by decide) (by decide) (by decide) (by decide) (by decide)
 obtain⟨o,rfl⟩:=Int.eq_ofNat_of_zero_le (show 0<=a by omega)
 obtain⟨q,rfl⟩:=Int.eq_ofNat_of_zero_le j
 obtain⟨t,p,r,_,_,s,d⟩:=A3b (m:=o) (k:=q) i (by omega) (by omega) (by omega) (by omega)
 refine⟨t,p,r,s.mono (by omega),?_⟩
 wp_walk using Ft,Lz,h,g,d
mutual
theorem Ao5:∀d:PyData,d.canLay0=true->PyData.eqv d d=true
 | .none,_=>rfl
 | .bool b,_=>by show (b==b)=true;simp
 | .int i,_=>by show (i==i)=true;simp
 | .str x,_=>by show (x==x)=true;simp
 | .tuple ds,h=>Uq ds h
 | .list ds,h=>Uq ds h
 | .dict kv,h=>nomatch h
theorem Uq:∀ds:List PyData,PyData.canLayAll0 ds=true->PyData.eqvAll ds ds=true
 | [],_=>rfl
 | d::r,h=>by
  obtain⟨n1,n2⟩:=Bool.and_eq_true_iff.mp (show (d.canLay0&&PyData.canLayAll0 r)=true from h)
  show (PyData.eqv d d&&PyData.eqvAll r r)=true
  rw[Ao5 d n1,Uq r n2]
  rfl
end
theorem A9n (ha:Ce a=true) (hb:Ce b=true):Bo neg a b=sI (.bool (if neg then !PyData.eqv a b else PyData.eqv a b)):=by unfold Bo;grind
theorem A3e:∀d:PyData,d.canLay0=true->PyData.eqv d d=true:=Ao5
noncomputable def vlt:Vl->Vl->Bool
 | .non,.non=>false
 | .non,_=>true
 | .int i,.int j=>decide (i<j)
 | .int _,.str _=>true
 | .str x,.str y=>decide (x.cps.toList<y.cps.toList)
 | _,_=>false
noncomputable def Ea:Vl->PyData
 | .non=>.tuple [.int 0,.int 0]
 | .int i=>.tuple [.int 1,.int i]
 | .str x=>.tuple [.int 2,.str x]
theorem Sy : Bu (k+1) [.im v.d]=.ret (.im (Ea v)) [.im v.d]:=by
 cases v with
 | non=>rfl
 | int i=>rfl
 | str x=>rfl
theorem Io (h:VB v):Ce (Ea v)=true:=by
 have g:=(Ka h).lay
 cases v with
 | non=>rfl
 | int i=>rfl
 | str x =>
  show ((PyData.int 2).canLay0&&(PyData.str x).canLay0&&true&&decide _)=true
  rw[show (PyData.str x).canLay0=true from g];rfl
theorem Bl2 (l:List Nat):¬ l<l:=List.lt_irrefl l
theorem A5q {x y:Str}(h:x.cps.toList=y.cps.toList):x=y:=by
 obtain⟨a⟩:=x
 simp_all
theorem Gh (a:Vl):vlt a a=false:=by
 cases a with
 | non=>rfl
 | int i=>exact decide_eq_false (by omega)
 | str x=>exact decide_eq_false (Bl2 _)
theorem Ku (h:vlt a b=true) (k:vlt b c=true):vlt a c=true:=by
 cases a with
 | non=>
  cases b with
   | non=>grind
   | int j=>
    cases c with
     | non=>cases k
     | int l=>rfl
     | str z=>rfl
   | str y=>
    cases c with
     | non=>cases k
     | int l=>rfl
     | str z=>rfl
 | int i=>
  cases b with
   | non=>cases h
   | int j=>
    cases c with
     | non=>cases k
     | int l=>exact decide_eq_true (Int.lt_trans (of_decide_eq_true h) (of_decide_eq_true k))
     | str z=>rfl
   | str y=>
    cases c with
     | non=>cases k
     | int l=>cases k
     | str z=>rfl
 | str x=>
  cases b with
   | non=>cases h
   | int j=>cases h
   | str y=>
    cases c with
     | non=>cases k
     | int l=>cases k
     | str z=>exact decide_eq_true (List.lt_trans (of_decide_eq_true h) (of_decide_eq_true k))
theorem Sg (a b:Vl):vlt a b=true\/a=b\/vlt b a=true:=by
 cases a with
 | non=>
  cases b with
   | non=>grind
   | int j=>exact .inl rfl
   | str y=>exact .inl rfl
 | int i=>
  cases b with
   | non=>exact .inr (.inr rfl)
   | int j =>
    rcases Int.lt_trichotomy i j with h | h | h
    ·exact .inl (decide_eq_true h)
    ·grind
    ·exact .inr (.inr (decide_eq_true h))
   | str y=>exact .inl rfl
 | str x=>
  cases b with
   | non=>exact .inr (.inr rfl)
   | int j=>exact .inr (.inr rfl)
   | str y =>
    by_cases h1:x.cps.toList<y.cps.toList
    ·exact .inl (decide_eq_true h1)
    ·by_cases h2:y.cps.toList<x.cps.toList
     ·exact .inr (.inr (decide_eq_true h2))
     ·exact .inr (.inl (by rw[A5q (List.le_antisymm (List.not_lt.mp h2) (List.not_lt.mp h1))]))
theorem Xl {a b c:Vl}(h:vlt a c=true):vlt a b=true\/vlt b c=true:=by
 rcases Sg a b with q | q | q
 ·grind
 ·grind
 ·exact .inr (Ku q h)
theorem Zu (a b:Vl):PyData.eqv (Ea a) (Ea b)=decide (a=b):=by
 have c:∀p q e d ,PyData.eqv (tD [p,q]) (tD [e,d])=decide _:=λp q e d=>Bm7 _ _
 cases a with
 | non=>
  cases b with
   | non=>rfl
   | int j=>rfl
   | str y=>rfl
 | int i=>
  cases b with
   | non=>rfl
   | int j=>exact(c (.int 1) (.int i) (.int 1) (.int j)).trans (by simp)
   | str y=>rfl
 | str x=>
  cases b with
   | non=>rfl
   | int j=>rfl
   | str y=>exact(c (.int 2) (.str x) (.int 2) (.str y)).trans (by simp)
theorem range_getD (ds:List PyData):((List.range ds.length).map λi=>ds.getD i .none)=ds:=by
 apply List.ext_getElem
 ·simp
 grind
theorem Aq4 (O:PS.Ord lt) (hk:ks.length=ds.length) (h:ds.length<64) (b:0<ks.length->kdOf ks=kd) (t:∀k∈ks,Jy kd k=true/\Ce k=true)
 (s:∀i j x y,ks[i]?=some x->ks[j]?=some y->A8n kd x y=some (lt i j)) :
 ∃p:List Nat,p.Perm (List.range ds.length)/\p.Pairwise (PS.Rr lt)/\Mq ds ks=some (p.map λi=>ds.getD i .none):=by
 unfold Mq
 by_cases h2:ds.length<2
 ·rw[if_pos h2]
  refine⟨List.range ds.length,.refl _,?_,?_⟩
  ·rw[List.pairwise_iff_getElem]
   grind
  ·rw[range_getD]
 ·rw[if_neg h2,b (by omega)]
  have m:(decide (ds.length<64)&&(ks.all (Jy kd)&&ks.all Ce))=true:=by
   simp_all
  rw[if_pos m]
  obtain⟨p,e,o,g,f⟩:=PS.A6y (B:=Zv kd ks) O (n:=ds.length) λi j l c=>by
   unfold Zv
   grind (by omega)
  rw[e]
  refine⟨p.toList,f,?_,rfl⟩
  rw[List.pairwise_iff_getElem];intro i j l c a
  have d := by rw[Array.length_toList,o]at c;exact c
  have q:=g i j a d
  have r:p.getD i 0=p.toList[i]:=by simp[Array.getElem?_eq_getElem (show i<p.size by omega)]
  simp_all
theorem A1u {neg:Bool}{a b:Vl}(ha:VB a)(hb:VB b):Bo neg a.d b.d=sI (.bool (if neg then !decide (a=b) else decide (a=b))):=by
 rw[Wb (Ka ha) (Ka hb) (by decide) (by decide),A3f]
theorem V3 (c:Bool)(a b:Vl):G6 c (Ea a) (Ea b)=some (if c then vlt b a else vlt a b):=by
 cases a with
 | non=>cases b <;> cases c <;> rfl
 | int i=>
  cases b with
   | non=>cases c <;> rfl
   | int j =>
    show (if (i==j)=true then some _ else some _)=_
    by_cases h:i=j
    ·subst h;cases c <;> simp[vlt]
    ·rw[if_neg (by simpa using h)];cases c <;> rfl
   | str y=>cases c <;> rfl
 | str x=>
  cases b with
   | non=>cases c <;> rfl
   | int j=>cases c <;> rfl
   | str y =>
    show (if (x==y)=true then some _ else some _)=_
    by_cases h:x=y
    ·subst h;cases c <;> simp[vlt]
    ·rw[if_neg (by simpa using h)];cases c <;> rfl
theorem Vc (a b:Vl):G6 false (Ea a) (Ea b)=some (vlt a b):=V3 false a b
theorem A8f {a b:Vl}(ha:VB a)(hb:VB b):A1x (Ea a) (Ea b)=sI (.bool (vlt a b)):=by
 unfold A1x;rw[Io ha,Io hb,Vc];rfl
def K6 (v:Vl):PyData:=.tuple [.int 3,.tuple [Ea v]]
theorem A6j (a b:Vl):G6 false (K6 a) (K6 b)=some (vlt a b):=by
 have e:(PyData.eqv (Ea a) (Ea b)&&true)=decide (a=b):=by rw[Bool.and_true];exact Zu a b
 show (if (PyData.eqv (Ea a) (Ea b)&&true)=true then some false else if PyData.eqv (Ea a) (Ea b)=true then some false else G6 false (Ea a) (Ea b))=_
 rw[e,Zu,Vc]
 by_cases h:a=b
 ·rw[if_pos (decide_eq_true h),h,Gh]
 ·rw[if_neg (by simpa using h),if_neg (by simpa using h)]
theorem A0b {v:Vl}(h:VB v):Ce (K6 v)=true:=by
 have g:=Io h;unfold Ce at g ⊢;obtain⟨g1,g2⟩:=Bool.and_eq_true_iff.mp g;have g2:=of_decide_eq_true g2
 have dp:(Ea v).depth<=1:=by cases v <;> exact Nat.le_refl _
 show (((PyData.int 3).canLay0&&((((Ea v).canLay0&&true))&&true))&&decide ((K6 v).depth<=40))=true
 rw[g1,decide_eq_true (show (K6 v).depth<=40 by
  show max 0 (max (max (Ea v).depth 0+1) 0)+1<=40
  omega)]
 rfl
theorem Ar3 {α:Type}(f:α->PyData)(g:α->Vl)(kf:Vl->PyData)(d0:α)(hk:∀a b,G6 false (kf a) (kf b)=some (vlt a b))(hf:∀v,VB v->Jy .ti (kf v)=true/\Ce (kf v)=true)(h0:∀v r,kdOf (kf v::r)=.ti)
 {xs:List α} (hv:∀x∈xs,VB (g x)) (h64:xs.length<64):∃out:List α,out.Perm xs/\out.Pairwise (λa b=>vlt (g b) (g a)=false)/\Mq (xs.map f) ((xs.map g).map kf)=some (out.map f):=by
 obtain⟨p,pm,pw,e⟩:=Aq4 (ds:=xs.map f) (ks:=(xs.map g).map kf) (kd:=.ti) (lt:=λi j=>vlt (g (xs.getD i d0)) (g (xs.getD j d0))) ⟨λa=>Gh _,λa b c=>Ku,λa b c=>Xl⟩ (by simp) (by rw[List.length_map];exact h64)
  (λh=>by
   cases xs with
   | nil=>simp at h
   | cons x r=>exact h0 _ _)
  (λk hk=>by
   obtain⟨v,hv',rfl⟩:=List.mem_map.mp hk;obtain⟨x,hx,rfl⟩:=List.mem_map.mp hv'
   exact hf _ (hv x hx))
  (λi j x y hx hy=>by
   rw[List.map_map]at hx hy;obtain⟨a,ha,rfl⟩:=Gy hx;obtain⟨b,hb,rfl⟩:=Gy hy
   show G6 false (kf (g a)) (kf (g b))=_
   rw[hk,List.getD_eq_getElem?_getD,List.getD_eq_getElem?_getD,ha,hb];rfl)
 rw[List.length_map]at pm
 have lt:∀i∈p,i<xs.length:=λi hi=>List.mem_range.mp (pm.mem_iff.mp hi)
 refine⟨p.map λi=>xs.getD i d0,?_,?_,?_⟩
 ·have:=pm.map λi=>xs.getD i d0
  have e2:((List.range xs.length).map λi=>xs.getD i d0)=xs:=by
   apply List.ext_getElem
   ·simp
   ·intro i h1 h2;simp[h2]
  rw[e2]at this;exact this
 ·rw[List.pairwise_map]
  refine pw.imp λ{i j} h=>?_
  rcases h with h | ⟨h,_⟩
  ·cases q:vlt (g (xs.getD j d0)) (g (xs.getD i d0)) with
   | false=>rfl
   | true=>have:=Ku h q;rw[Gh]at this;cases this
  ·exact h
 ·rw[e,List.map_map]
  congr 1
  refine List.map_congr_left λi hi=>?_
  have:=lt i hi
  show (xs.map f).getD i .none=f (xs.getD i d0)
  simp[this]
theorem Az4 {vs:List Vl}(hv:VBs vs)(hl:vs.length<64):∃out:List Vl,out.Perm vs/\out.Pairwise (λa b=>vlt b a=false)/\Mq (vs.map Vl.d) (vs.map Ea)=some (out.map Vl.d):=by
 have:=Ar3 Vl.d id Ea .non Vc (λv h=>⟨by cases v <;> rfl,Io h⟩) (λv r=>by cases v <;> rfl) hv hl
 rw[List.map_id]at this;exact this
theorem At3 {i:Nat}{rs:List (List Vl)}(hv:∀r∈rs,VB (r.getD i .non))(hl:rs.length<64):∃out:List (List Vl),out.Perm rs/\out.Pairwise (λa b=>vlt (b.getD i .non) (a.getD i .non)=false)/\Mq (rs.map tD) ((rs.map λr=>r.getD i .non).map K6)=some (out.map tD) :=
 Ar3 tD (λr=>r.getD i .non) K6 [] A6j (λv h=>⟨rfl,A0b h⟩) (λv r=>rfl) hv hl
abbrev nL (l:List Nat):List PyData:=l.map λk=>PyData.int (k:Nat)
theorem A7v (i j:Int):G6 false (.int i) (.int j)=some (decide (i<j)):=rfl
theorem Ax0 {l:List Nat}(hl:l.length<64):∃out:List Nat,out.Perm l/\out.Pairwise (·<=·)/\M6 (.list (nL l))=sFa (nL out):=by
 obtain⟨p,pm,pw,e⟩:=Aq4 (ds:=nL l) (ks:=nL l) (kd:=.ii) (lt:=λi j=>decide (l.getD i 0<l.getD j 0)) ⟨λa=>decide_eq_false (Nat.lt_irrefl _),λa b c h k=>decide_eq_true (Nat.lt_trans (of_decide_eq_true h) (of_decide_eq_true k)),λa b c h=>by
  have h:=of_decide_eq_true h
  rcases Nat.lt_or_ge (l.getD a 0) (l.getD b 0) with q | q
  ·exact .inl (decide_eq_true q)
  ·exact .inr (decide_eq_true (by omega))⟩ rfl (by rw[List.length_map];exact hl)
  (λh=>by
   cases l with
   | nil=>simp at h
   | cons x r=>rfl)
  (λk hk=>by
   obtain⟨v,_,rfl⟩:=List.mem_map.mp hk
   exact⟨rfl,rfl⟩)
  (λi j x y hx hy=>by
   obtain⟨a,ha,rfl⟩:=Gy hx;obtain⟨b,hb,rfl⟩:=Gy hy
   show G6 false (.int (a:Nat)) (.int (b:Nat))=_
   rw[A7v,List.getD_eq_getElem?_getD,List.getD_eq_getElem?_getD,ha,hb]
   exact congrArg some (decide_eq_decide.mpr Int.ofNat_lt))
 rw[List.length_map]at pm
 have lt:∀i∈p,i<l.length:=λi hi=>List.mem_range.mp (pm.mem_iff.mp hi)
 refine⟨p.map λi=>l.getD i 0,?_,?_,?_⟩
 ·have:=pm.map λi=>l.getD i 0
  have e2:((List.range l.length).map λi=>l.getD i 0)=l:=by
   apply List.ext_getElem
   ·simp
   ·intro i h1 h2;simp[h2]
  rw[e2]at this;exact this
 ·rw[List.pairwise_map]
  refine pw.imp λ{i j} h=>?_
  rcases h with h | ⟨h,_⟩
  ·exact Nat.le_of_lt (of_decide_eq_true h)
  ·have:=of_decide_eq_false h;omega
 ·show (Mq (nL l) (nL l)).map _=_
  rw[e,Option.map_some]
  show some (O.ls false _)=some (O.ls false ((p.map λi=>l.getD i 0).map λk=>PyData.int (k:Nat)))
  rw[List.map_map]
  congr 2
  refine List.map_congr_left λi hi=>?_
  have:=lt i hi
  show (nL l).getD i .none=PyData.int ((l.getD i 0:Nat):Int)
  simp[nL,this]
theorem Uo {α:Type}{R:α->α->Prop}(anti:∀a b,R a b->R b a->False):∀{l m:List α},l.Pairwise R->m.Pairwise R->(∀x,x∈l↔x∈m)->l=m
 | [],[],_,_,_=>rfl
 | [],b::q,_,_,h=>nomatch (h b).mpr (.head _)
 | a::p,[],_,_,h=>nomatch (h a).mp (.head _)
 | a::p,b::q,hl,hm,h=>by
  obtain⟨l1,l2⟩:=List.pairwise_cons.mp hl;obtain⟨m1,m2⟩:=List.pairwise_cons.mp hm
  have e:a=b:=Classical.byContradiction λn=>by
   have h1:=(List.mem_cons.mp ((h a).mp (.head _))).resolve_left n
   have h2:=(List.mem_cons.mp ((h b).mpr (.head _))).resolve_left λz=>n z.symm
   exact anti a b (l1 b h2) (m1 a h1)
  subst e
  rw[Uo anti l2 m2 λx=>?_]
  constructor
  ·intro hx
   rcases List.mem_cons.mp ((h x).mp (.tail _ hx)) with rfl | q
   ·exact(anti _ _ (l1 _ hx) (l1 _ hx)).elim
   ·exact q
  ·intro hx
   rcases List.mem_cons.mp ((h x).mpr (.tail _ hx)) with rfl | q
   ·exact(anti _ _ (m1 _ hx) (m1 _ hx)).elim
   ·exact q
theorem A3i {l m:List Nat}(h1:l.Perm m)(h2:l.Pairwise (·<=·))(h3:m.Pairwise (· < ·)):l=m:=by
 have nd:l.Nodup:=h1.nodup_iff.mpr (h3.imp λh=>Nat.ne_of_lt h)
 exact Uo (R:=(· < ·)) (λa b h k=>Nat.lt_asymm h k) ((List.Pairwise.and h2 nd).imp λ⟨a,b⟩=>Nat.lt_of_le_of_ne a b) h3 λx=>h1.mem_iff
abbrev VR (a b:Vl):Prop:=vlt a b=true
theorem A6g (a b:Vl)(h:VR a b)(k:VR b a):False:=by have:=Ku h k;rw[Gh]at this;cases this
theorem Bu1 {l:List Vl}(h:l.Pairwise (λa b=>vlt b a=false))(nd:l.Nodup):l.Pairwise VR:=(List.Pairwise.and h nd).imp λ{a b} ⟨h,n⟩=>by
 rcases Sg a b with q | q | q
 ·exact q
 ·exact absurd q n
 ·rw[h]at q;cases q
def Jb:List Vl->List Vl->List Vl
 | ks,[]=>ks
 | ks,d::ds=>Jb (if d∈ks then ks else ks++[d]) ds
theorem Ak6:∀(xs ks:List Vl),Oj (ks.map Vl.d) (xs.map Vl.d)=(Jb ks xs).map Vl.d
 | [],_=>rfl
 | x::xs,ks=>by
  show Oj (if ((ks.map Vl.d).any λk=>PyData.eqv k x.d)=true then ks.map Vl.d else ks.map Vl.d++[x.d]) (xs.map Vl.d)=(Jb (if x∈ks then ks else ks++[x]) xs).map Vl.d
  rw[A9x]
  by_cases h:x∈ks
  ·rw[if_pos (decide_eq_true h),if_pos h,Ak6 xs]
  ·rw[if_neg (by rw[decide_eq_false h];exact Bool.false_ne_true),if_neg h,<- Ak6 xs,List.map_append];rfl
theorem Aa2:∀(xs ks:List Vl) (x:Vl),x∈Jb ks xs↔x∈ks\/x∈xs
 | [],ks,x=>by simp[Jb]
 | d::ds,ks,x=>by
  unfold Jb;rw[Aa2 ds]
  by_cases h:d∈ks
  ·rw[if_pos h,List.mem_cons]
   constructor
   ·intro q;rcases q with q | q
    ·exact .inl q
    ·exact .inr (.inr q)
   ·intro q;rcases q with q | rfl | q
    ·exact .inl q
    ·exact .inl h
    ·exact .inr q
  ·rw[if_neg h,List.mem_append,List.mem_singleton,List.mem_cons,or_assoc]
theorem Wz:∀(xs ks:List Vl),ks.Nodup->(Jb ks xs).Nodup
 | [],_,n=>n
 | x::xs,ks,n=>by
  unfold Jb
  by_cases q:x∈ks
  ·rw[if_pos q];exact Wz xs ks n
  ·rw[if_neg q]
   refine Wz xs _ ?_
   rw[List.nodup_append]
   exact⟨n,by simp,λa ha b hb e=>q (by cases List.mem_singleton.mp hb;exact e▸ha)⟩
theorem Us:∀(xs ks:List Vl),(Jb ks xs).length<=ks.length+xs.length
 | [],ks=>Nat.le_refl _
 | x::xs,ks=>by
  unfold Jb
  by_cases q:x∈ks
  ·rw[if_pos q];exact Nat.le_trans (Us xs ks) (by rw[List.length_cons];omega)
  ·rw[if_neg q];exact Nat.le_trans (Us xs _) (by simp;omega)
theorem A2t {α:Type}[DecidableEq α]:∀(m l:List α),l.Nodup->(∀x∈l,x∈m)->l.length<=m.length
 | [],l,_,h=>by
  cases l with
  | nil=>exact Nat.le_refl _
  | cons a r=>exact nomatch h a (.head _)
 | a::m,l,n,h=>by
  have ih:=A2t m (l.erase a) (n.erase a) λx hx=>by
   obtain⟨h1,h2⟩:=(n.mem_erase_iff).mp hx
   rcases List.mem_cons.mp (h x h2) with q | q
   ·exact absurd q h1
   ·exact q
  have:=List.length_erase_le (a:=a) (l:=l)
  by_cases q:a∈l
  ·have:=List.length_erase_of_mem q
   rw[List.length_cons];omega
  ·rw[List.erase_of_not_mem q]at ih
   rw[List.length_cons];omega
theorem A2u {α:Type}[DecidableEq α]:∀(n:Nat) (xs:List α),xs.length=n->(dst xs).Nodup
 | 0,xs,h=>by cases List.length_eq_zero_iff.mp h;exact List.nodup_nil
 | n+1,xs,h=>by
  rcases List.eq_nil_or_concat xs with rfl | ⟨ys,y,rfl⟩
  ·exact List.nodup_nil
  ·rw[List.concat_eq_append]at h ⊢
   rw[Pk]
   have hn:ys.length=n:=by rw[List.length_append,List.length_singleton]at h;omega
   have ih:=A2u n ys hn;unfold T9
   by_cases q:Ls (dst ys) y=true
   ·rw[if_pos q];exact ih
   ·rw[if_neg q,List.nodup_append]
    exact⟨ih,by simp,λa ha b hb e=>q (by
     cases List.mem_singleton.mp hb
     subst e
     exact List.any_eq_true.mpr ⟨_,ha,by simp⟩)⟩
noncomputable def ddO:Option Vl->List Vl->List Vl
 | _,[]=>[]
 | p,v::r=>if p=some v then ddO (some v) r else v::ddO (some v) r
theorem Ai9:∀{p:Option Vl}{r:List Vl}{x:Vl},x∈ddO p r->x∈r
 | p,v::r,x,h=>by
  unfold ddO at h
  by_cases q:p=some v
  ·rw[if_pos q]at h;exact .tail _ (Ai9 h)
  ·rw[if_neg q]at h
   rcases List.mem_cons.mp h with rfl | h
   ·exact .head _
   ·exact .tail _ (Ai9 h)
theorem Ah9:∀{p:Option Vl}{r:List Vl}{x:Vl},x∈r->p=some x\/x∈ddO p r
 | p,v::r,x,h=>by
  unfold ddO
  by_cases q:p=some v
  ·rw[if_pos q]
   rcases List.mem_cons.mp h with rfl | h
   ·exact .inl q
   ·rcases Ah9 (p:=some v) h with e | e
    ·exact .inl (q.trans e)
    ·exact .inr e
  ·rw[if_neg q]
   rcases List.mem_cons.mp h with rfl | h
   ·exact .inr (.head _)
   ·rcases Ah9 (p:=some v) h with e | e
    ·exact .inr (by cases e;exact .head _)
    ·exact .inr (.tail _ e)
theorem An9:∀{r:List Vl}{p:Option Vl},r.Pairwise (λa b=>vlt b a=false)->(∀a,p=some a->∀x∈r,vlt x a=false)->(ddO p r).Pairwise VR/\∀a,p=some a->∀x∈ddO p r,VR a x
 | [],p,_,_=>⟨.nil,λ_ _ _ h=>nomatch h⟩
 | v::r,p,h,hp=>by
  obtain⟨h1,h2⟩:=List.pairwise_cons.mp h
  obtain⟨ih1,ih2⟩:=An9 (p:=some v) h2 λa e x hx=>by cases e;exact h1 x hx
  unfold ddO
  by_cases q:p=some v
  ·rw[if_pos q]
   exact⟨ih1,λa e x hx=>ih2 a (q.symm.trans e) x hx⟩
  ·rw[if_neg q]
   refine⟨List.pairwise_cons.mpr ⟨λx hx=>ih2 v rfl x hx,ih1⟩,λa e x hx=>?_⟩
   have hav:VR a v:=by
    rcases Sg a v with z | z | z
    ·exact z
    ·exact absurd (by rw[e,z]) q
    ·rw[hp a e v (.head _)]at z;cases z
   rcases List.mem_cons.mp hx with rfl | hx
   ·exact hav
   ·exact Ku hav (ih2 v rfl x hx)
def bt (gt:Bool)(a b:Vl):Bool:=if gt then vlt b a else vlt a b
theorem Bn2 {gt:Bool}{a b c:Vl}(h:bt gt a b=true)(k:bt gt b c=true):bt gt a c=true:=by
 cases gt
 ·exact Ku h k
 ·exact Ku k h
theorem Bh7 {gt:Bool}{a b c:Vl}(h:bt gt a c=true):bt gt a b=true\/bt gt b c=true:=by
 cases gt
 ·exact Xl h
 ·exact(Xl (b:=b) (show vlt c a=true from h)).symm
theorem Bd8 (gt:Bool)(a:Vl):bt gt a a=false:=by cases gt <;> exact Gh a
theorem Tj (v:Vl):Ur (Bu 2) v.d=some (Ea v):=by
 unfold Ur
 rw[show Bu 2 _=_ from Sy ];rfl
def prR (v:Vl):PyData×PyData:=(v.d,Ea v)
theorem Ba5 (gt:Bool):∀(ts:List Vl) (b:Vl),VBs ts->VB b->∃m:Vl,mmF gt (Bu 2) (ts.map Vl.d) (some (prR b))=some (some (prR m))/\(m=b\/m∈ts)/\bt gt b m=false/\∀x∈ts,bt gt x m=false
 | [],b,_,_=>⟨b,rfl,.inl rfl,Bd8 gt b,λ_ h=>nomatch h⟩
 | v::r,b,h1,hb=>by
  have hv:=h1 v (.head _)
  have hr:VBs r:=λu hu=>h1 u (.tail _ hu)
  obtain⟨m,e,hm,e1,e2⟩:=Ba5 gt r (if bt gt v b=true then v else b) hr (by split;exact hv;exact hb)
  refine⟨m,?_,?_,?_,λx hx=>?_⟩
  ·show ((Ur (Bu 2) v.d).bind λk=>if (Ce k&&Ce (Ea b))=true then (G6 gt k (Ea b)).bind λr'=>mmF gt (Bu 2) (r.map Vl.d) (if r'=true then some (v.d,k) else some (b.d,Ea b)) else none)=_
   rw[Tj,Option.bind_some,Io hv,Io hb,V3];rw[<- e]
   show mmF gt (Bu 2) (r.map Vl.d) (if bt gt v b=true then some (prR v) else some (prR b))=_
   congr 1
   split <;> rfl
  ·rcases hm with hm | hm
   ·by_cases q:bt gt v b=true
    ·rw[if_pos q]at hm;exact .inr (by rw[hm];exact .head _)
    ·rw[if_neg q]at hm;exact .inl hm
   ·exact .inr (.tail _ hm)
  ·by_cases q:bt gt v b=true
   ·rw[if_pos q]at e1
    cases z:bt gt b m with
    | false=>rfl
    | true=>rw[Bn2 q z]at e1;cases e1
   ·rw[if_neg q]at e1;exact e1
  ·rcases List.mem_cons.mp hx with rfl | hx
   ·by_cases q:bt gt x b=true
    ·rw[if_pos q]at e1;exact e1
    ·rw[if_neg q]at e1
     cases z:bt gt x m with
     | false=>rfl
     | true =>
      rcases Bh7 (b:=b) z with y | y
      ·exact absurd y q
      ·rw[y]at e1;cases e1
   ·exact e2 x hx
noncomputable def lo (l:List Vl):Vl:=(l++[Vl.non]).getD 0 .non
noncomputable def hi (l:List Vl):Vl:=(Vl.non::l).getD l.length .non
theorem A7b (gt:Bool)(v:Vl)(r:List Vl):mmF gt (Bu 2) ((v::r).map Vl.d) none=mmF gt (Bu 2) (r.map Vl.d) (some (prR v)):=by
 show ((Ur (Bu 2) v.d).bind λk=>mmF gt (Bu 2) (r.map Vl.d) (some (v.d,k)))=_
 rw[Tj];rfl
theorem Bd3 (gt:Bool){ts l:List Vl}(hv:VBs ts)(hl:l.Pairwise VR)(hm:∀x,x∈l↔x∈ts):∃o,mmF gt (Bu 2) (ts.map Vl.d) none=some o/\mmD o=(if gt then hi l else lo l).d:=by
 cases ts with
 | nil =>
  have e:l=[]:=by
   cases l with
   | nil=>rfl
   | cons a r=>exact nomatch (hm a).mp (.head _)
  subst e
  exact⟨none,rfl,by cases gt <;> rfl⟩
 | cons v r =>
  obtain⟨m,e,m1,m2,m3⟩:=Ba5 gt r v (λx hx=>hv x (.tail _ hx)) (hv v (.head _))
  refine⟨_,(A7b gt v r).trans e,?_⟩
  show m.d=_
  have ml:m∈l:=(hm m).mpr (by rcases m1 with rfl | h;exact .head _;exact .tail _ h)
  have best:∀x∈l,bt gt x m=false:=λx hx=>by
   rcases List.mem_cons.mp ((hm x).mp hx) with rfl | h
   ·exact m2
   ·exact m3 x h
  congr 1
  cases gt with
  | false =>
   cases l with
   | nil=>cases ml
   | cons a q =>
    show m=a
    rcases List.mem_cons.mp ml with h | h
    ·exact h
    ·have h1:vlt a m=true:=(List.pairwise_cons.mp hl).1 m h
     have h2:vlt a m=false:=best a (.head _);rw[h1]at h2;cases h2
  | true =>
   show m=(Vl.non::l).getD l.length .non
   have hp:0<l.length:=List.length_pos_iff.mpr λz=>by rw[z]at ml;cases ml
   have el:(Vl.non::l).getD l.length .non=l[l.length-1]:=by
    obtain⟨k,hk⟩:∃k,l.length=k+1:=⟨l.length-1,by omega⟩
    rw[List.getD_eq_getElem?_getD];simp only[hk,List.getElem?_cons_succ,Nat.add_sub_cancel]
    rw[List.getElem?_eq_getElem (by omega)];rfl
   rw[el];obtain⟨i,hi,e⟩:=List.getElem_of_mem ml
   rcases Nat.lt_or_ge i (l.length-1) with z | z
   ·have h1:vlt l[i] l[l.length-1]=true:=List.pairwise_iff_getElem.mp hl i (l.length-1) hi (by omega) z
    have h2:vlt m l[l.length-1]=false:=best _ (List.getElem_mem _);rw[<- e,h1]at h2;cases h2
   ·have:i=l.length-1:=by omega
    subst this;exact e.symm
structure Cn where
 at_:Nat
 name:Str
 word:Str
 val:Vl
def Cn.d (c:Cn):PyData:=.tuple [.str c.name,.str c.word,c.val.d]
noncomputable def words4:List Str:=[Str.ofString "is",Str.ofString "not",Str.ofString "below",Str.ofString "above"]
structure Cn.Ok (cols:List Str) (c:Cn):Prop where
 nm:cols[c.at_]?=some c.name
 wd:c.word∈words4
 vb:VB c.val
def Gm (w:Str)(a b:Vl):Bool:=if w=Str.ofString "is" then decide (a=b) else if w=Str.ofString "not" then !decide (a=b) else if w=Str.ofString "below" then vlt a b else vlt b a
theorem ne1:decide (Str.ofString "not" = Str.ofString "is")=false:=by rfl
theorem ne2:decide (Str.ofString "below" = Str.ofString "is")=false:=by rfl
theorem ne3:decide (Str.ofString "below" = Str.ofString "not")=false:=by rfl
theorem ne4:decide (Str.ofString "above" = Str.ofString "is")=false:=by rfl
theorem ne5:decide (Str.ofString "above" = Str.ofString "not")=false:=by rfl
theorem ne6:decide (Str.ofString "above" = Str.ofString "below")=false:=by rfl
theorem An8 (a b:Vl):Gm (Str.ofString "is") a b=decide (a=b)/\Gm (Str.ofString "not") a b=(!decide (a=b))/\Gm (Str.ofString "below") a b=vlt a b/\Gm (Str.ofString "above") a b=vlt b a:=by
 trivial
theorem Ac2 {a b:Vl}(ha:VB a)(hb:VB b):En [.im a.d,.im b.d]=.ret (.im (.bool (vlt a b))) [.im a.d,.im b.d]:=by
 wp_walk using En,Kw,Sy (v:=a) (k:=1),Sy (v:=b) (k:=1),A8f ha hb
theorem A1p {a b:Vl}{w:Str}(ha:VB a)(hb:VB b)(hw:w∈words4):Ge [.im a.d,.im (.str w),.im b.d]=.ret (.im (.bool (Gm w a b))) [.im a.d,.im (.str w),.im b.d]:=by
 obtain⟨h1,h2,h3,h4⟩:=An8 a b;simp only[words4,List.mem_cons,List.not_mem_nil,or_false]at hw
 rcases hw with rfl | rfl | rfl | rfl
 ·wp_walk using Ge,Le,K7,A1u ha hb,h1
 ·wp_walk using Ge,Le,K7,ne1,A1u ha hb,h2
 ·wp_walk using Ge,Le,K7,ne2,ne3,Ac2 ha hb,h3
 ·wp_walk using Ge,Le,K7,ne4,ne5,ne6,Ac2 hb ha,h4
theorem An7:∀{cols:List Str}{i:Nat}{x:Str},cols.Nodup->cols[i]?=some x->Vj x cols=some i
 | [],i,x,_,h=>by simp at h
 | y::r,0,x,_,h=>by
  have e:y=x:=by simpa using h
  unfold Vj;rw[if_pos (by simpa using e)]
 | y::r,i+1,x,nd,h=>by
  have h':r[i]?=some x:=by simpa using h
  obtain⟨n1,n2⟩:=List.nodup_cons.mp nd
  have ne:¬ y=x:=λe=>n1 (by rw[e];exact List.mem_of_getElem? h')
  unfold Vj;rw[if_neg (by simpa using ne),An7 n2 h'];rfl
theorem Zy:∀x∈names12,(PyData.str x).canLay0=true:=λx a=>List.all_eq_true.mp (show names12.all (λx=>(PyData.str x).canLay0)=true by decide +kernel) x a
theorem Rk:∀ss:List Str,strsOf (ss.map PyData.str)=some ss
 | []=>rfl
 | x::ss=>by show (strsOf (ss.map PyData.str)).map (x::·)=_;rw[Rk ss];rfl
theorem A5n {cols:List Str}(hx:x∈cols) (hs:∀y∈cols,y∈names12):Ji true (.str x) (.tuple (cols.map PyData.str))=sI (.bool false):=by
 show (if Ce _&&PyData.canLayAll0 _ then some _ else none)=_
 have a:Ce (.str x)=true:=by unfold Ce;rw[Zy x (hs x hx)];rfl
 rw[a,Ww λd b=>by obtain⟨u,c,rfl⟩:=List.mem_map.mp b;exact Zy u (hs u c),List.any_eq_true.mpr ⟨.str x,List.mem_map.mpr ⟨x,hx,rfl⟩,by rw[Al1];simp⟩]
 rfl
theorem Ai7 {cols:List Str}{i:Nat}(a:cols.Nodup) (h:cols[i]?=some x):S6 (.tuple (cols.map PyData.str)) (.str x)=sI (.int i):=by
 show (strsOf _).bind _=_
 rw[Rk,Option.bind_some,An7 a h];rfl
theorem V6 {b c:Type}(p:b->Bool)(f:b->c)(l:List b):(l.filterMap λk=>if p k then some (f k) else none)=(l.filter p).map f:=by
 induction l with
 | nil=>rfl
 | cons a r d =>
  grind
structure TK (cols:List Str) (rows:List (List Vl)):Prop where
 nd:cols.Nodup
 sub:∀x∈cols,x∈names12
 clen:cols.length<=12
 rlen:rows.length<=24
 rws:∀r∈rows,r.length=cols.length/\VBs r
noncomputable def Az (cols:List Str) (R:PyData):PyData:=.tuple [.tuple (cols.map PyData.str),R]
abbrev rD (rows:List (List Vl)):PyData:=.tuple (rows.map tD)
theorem tb0 (cols:List Str)(R:PyData):Ai (Az cols R) (.int 0)=sI (.tuple (cols.map PyData.str)):=rfl
theorem tb1 (cols:List Str)(R:PyData):Ai (Az cols R) (.int 1)=sI R:=rfl
structure CK (cols:List Str):Prop where
 nd:cols.Nodup
 sub:∀x∈cols,x∈names12
theorem TK.ck {cols:List Str}{rows:List (List Vl)}(h:TK cols rows):CK cols:=⟨h.nd,h.sub⟩
theorem Jx {cols:List Str}{R:PyData}{i:Nat}{x:Str}(h:CK cols)(hx:cols[i]?=some x):Eo [.im (Az cols R),.im (.str x)]=.ret (.im (.int i)) [.im (Az cols R),.im (.str x)]:=by
 have h1:=A5n (List.mem_of_getElem? hx) h.sub;have h2:=Ai7 h.nd hx;have i0:=tb0 cols R
 generalize Az cols R=D at *
 wp_walk using Eo,Q9,i0,h1,cMt,Yn,h2
theorem M3 {cols:List Str}{R:PyData}{cs:List Cn}(h:CK cols)(hc:∀c∈cs,cols[c.at_]?=some c.name)(hl:cs.length<=100) :
 Cp [.im (Az cols R),.im (.list (cs.map λc=>PyData.str c.name))]=.ret (.im (.list (cs.map λc=>PyData.int c.at_))) [.im (Az cols R),.im (.list (cs.map λc=>PyData.str c.name))]:=by
 obtain⟨cI,e,u,rfl⟩:=Fb (g:=cgN 0) (ft:=By) (fe:=cF Eo (Ac (Ab 1) (Ac (Ab 0) Aq))) (I:=λc=>∃u,c=[u,sI (Az cols R)]) (f:=λc:Cn=>PyData.str c.name) (G:=λc=>PyData.int c.at_) (xs:=cs) (acc:=[]) (c:=[none,sI (Az cols R)]) ⟨none,rfl⟩
  (λx c hx hI=>by
   obtain⟨u,rfl⟩:=hI
   refine⟨[sI (.str x.name),sI (Az cols R)],?_,_,rfl⟩
   wp_walk using Jx (R:=R) h (hc x hx))
 generalize Az cols R=D at *
 have e2:cLC [none,some 0] (Bj (Ab 1)) (cgN 0) By (cF Eo (Ac (Ab 1) (Ac (Ab 0) Aq))) [sI D,sI (.list (cs.map λc=>PyData.str c.name))]=.ok (.o (.ls false (cs.map λc=>PyData.int c.at_))) [sI D,sI (.list (cs.map λc=>PyData.str c.name))] :=
  Ff (ds:=cs.map λc=>PyData.str c.name) (c1:=[sI D,sI (.list (cs.map λc=>PyData.str c.name))]) (by wp_walk using Bj) (by rw[List.length_map];omega) (by simpa[cIn,O.flag] using e) rfl
 wp_walk using Cp,Oh,e2
theorem N6 {cs:List Cn}(hl:cs.length<=100):Es [.im (.list (cs.map Cn.d))]=.ret (.im (.list (cs.map λc=>PyData.str c.name))) [.im (.list (cs.map Cn.d))]:=by
 obtain⟨cI,e,t,rfl⟩:=Fb (g:=cgN 0) (ft:=By) (fe:=cOp Ai (Ab 0) (cC (.int 0))) (I:=λc=>∃t,c=[t]) (f:=Cn.d) (G:=λc=>PyData.str c.name) (xs:=cs) (acc:=[]) (c:=[none]) ⟨none,rfl⟩
  (λx c hx hc=>by
   obtain⟨t,rfl⟩:=hc
   refine⟨[sI x.d],?_,_,rfl⟩
   wp_walk using Cn.d,Ai)
 have e2:cLC [none] (Bj (Ab 0)) (cgN 0) By (cOp Ai (Ab 0) (cC (.int 0))) [sI (.list (cs.map Cn.d))]=.ok (.o (.ls false (cs.map λc=>PyData.str c.name))) [sI (.list (cs.map Cn.d))] :=
  Ff (ds:=cs.map Cn.d) (c1:=[sI (.list (cs.map Cn.d))]) (by wp_walk using Bj) (by rw[List.length_map];omega) (by simpa[cIn] using e) rfl
 wp_walk using Es,Nu,e2
theorem A2m {w:Str}(h:w∈words4):Aq7 true [Str.ofString "is",Str.ofString "not",Str.ofString "below",Str.ofString "above"] (.str w)=sI (.bool false):=by
 simp only[words4,List.mem_cons,List.not_mem_nil,or_false]at h
 show some (O.im (.bool (!inV (.str w) ([Str.ofString "is",Str.ofString "not",Str.ofString "below",Str.ofString "above"].map V.str))))=_
 have:inV (.str w) ([Str.ofString "is",Str.ofString "not",Str.ofString "below",Str.ofString "above"].map V.str)=true:=by
  rcases h with rfl | rfl | rfl | rfl <;> decide +kernel
 rw[this];rfl
theorem A4p {cs:List Cn}(hc:∀c∈cs,c.word∈words4):Fw [.im (.list (cs.map Cn.d))]=.ret (.im .none) [.im (.list (cs.map Cn.d))]:=by
 obtain⟨c',e,u,rfl⟩:=Ir (g:=cgN 1) (body:=cIf (Bg (cUn (Aq7 true [Str.ofString "is",Str.ofString "not",Str.ofString "below",Str.ofString "above"]) (cOp Ai (Ab 1) (cC (.int 1))))) Lp Cz) (items:=cs.map Cn.d) (n:=0) (c:=[sI (.list (cs.map Cn.d)),none])
  (P:=λ_ c=>∃u,c=[sI (.list (cs.map Cn.d)),u]) ⟨none,rfl⟩ (λk d c hd hP=>by
   obtain⟨u,rfl⟩:=hP;obtain⟨x,hx,rfl⟩:=Gy hd
   refine⟨[sI (.list (cs.map Cn.d)),sI x.d],.inl ?_,_,rfl⟩
   wp_walk using Cn.d,Ai,A2m (hc x (List.mem_of_getElem? hx)))
 have e2:Ml [sI (.list (cs.map Cn.d)),none]=.nx [sI (.list (cs.map Cn.d)),u]:=(Oo (by wp_walk using Bj)).trans e
 wp_walk using Fw,e2
noncomputable def Cg (i:Nat) (r:List Vl):Vl:=r.getD i .non
def Uh (r:List Vl)(cs:List Cn):Bool:=cs.all λc=>Gm c.word (Cg c.at_ r) c.val
theorem Lr {n i:Nat}{r:List Vl}(hi:i<n)(hr:r.length=n)(hv:VBs r):Ai (tD r) (.int i)=sI (Cg i r).d/\VB (Cg i r):=by
 have e:Cg i r=r[i]:=by unfold Cg;rw[List.getD_eq_getElem?_getD,List.getElem?_eq_getElem];rfl
 rw[e]
 refine⟨?_,hv _ (List.getElem_mem _)⟩
 show (atI (r.map Vl.d) (i:Int)).map O.im=_
 rw[Fg (by rw[List.getElem?_map,List.getElem?_eq_getElem (by omega)];rfl)];rfl
theorem Am6 {α:Type}(f g:α->PyData):∀l:List α,Ay1 (l.map f) (l.map g)=l.map λx=>.tuple [f x,g x]
 | []=>rfl
 | x::l=>by
  have:=Am6 f g l;unfold Ay1 at this ⊢;rw[List.map_cons,List.map_cons,List.zip_cons_cons,List.map_cons,this];rfl
theorem A5r {l:List PyData}:Hi (.list l)=some l:=rfl
theorem T5 {α:Type}(F:α->Bool):∀xs:List α,boolsOf (xs.map λx=>PyData.bool (F x))=some (xs.map F)
 | []=>rfl
 | x::xs=>by show (boolsOf (xs.map λx=>PyData.bool (F x))).map (F x::·)=_;rw[T5 F xs];rfl
theorem Ak8 {a:Type}(F:a->Bool)(xs:List a):A0m (.list (xs.map λx=>PyData.bool (F x)))=sI (.bool (xs.all F)):=by
 show (boolsOf _).map _=_
 rw[T5 F,Option.map_some,List.all_map];rfl
theorem A1w (a:List (List Vl)):Ot (a.map tD)=(List.range a.length).map λk:Nat=>PyData.tuple [.int k,tD (a.getD k [])]:=by
 unfold Ot
 simp_all
theorem Zg {cols:List Str}{r:List Vl}{cs:List Cn}(hc:∀c∈cs,Cn.Ok cols c)(hr:r.length=cols.length)(hv:VBs r)(hl:cs.length<=100) :
 Fq [.im (tD r),.im (.list (cs.map λc=>PyData.int c.at_)),.im (.list (cs.map Cn.d))]=.ret (.im (.bool (Uh r cs))) [.im (tD r),.im (.list (cs.map λc=>PyData.int c.at_)),.im (.list (cs.map Cn.d))]:=by
 obtain⟨cI,e,u,v,rfl⟩:=Fb (g:=cgT 2 (El (cgN 0) (El (cgN 1) K4))) (ft:=By) (fe:=cF Ge (Ac (cOp Ai (Ab 2) (Ab 0)) (Ac (cOp Ai (Ab 1) (cC (.int 1))) (Ac (cOp Ai (Ab 1) (cC (.int 2))) Aq)))) (I:=λc=>∃u v,c=[u,v,sI (tD r)]) (f:=λc:Cn=>PyData.tuple [.int c.at_,c.d]) (G:=λc=>PyData.bool (Gm c.word (Cg c.at_ r) c.val)) (xs:=cs) (acc:=[]) (c:=[none,none,sI (tD r)]) ⟨none,none,rfl⟩
  (λx c hx hI=>by
   obtain⟨u,v,rfl⟩:=hI;obtain⟨e1,vb⟩:=Lr (List.getElem?_eq_some_iff.mp (hc x hx).nm).1 hr hv;have e2:=A1p vb (hc x hx).vb (hc x hx).wd;have j1:Ai x.d (.int 1)=sI (.str x.word):=rfl;have j2:Ai x.d (.int 2)=sI x.val.d:=rfl
   refine⟨[sI (.int x.at_),sI x.d,sI (tD r)],?_,_,_,rfl⟩
   wp_walk using e1,e2,j1,j2)
 have e2:cLC [none,none,some 0] (A9c (Ab 1) (Ab 2)) (cgT 2 (El (cgN 0) (El (cgN 1) K4))) By (cF Ge (Ac (cOp Ai (Ab 2) (Ab 0)) (Ac (cOp Ai (Ab 1) (cC (.int 1))) (Ac (cOp Ai (Ab 1) (cC (.int 2))) Aq)))) [sI (tD r),sI (.list (cs.map λc=>PyData.int c.at_)),sI (.list (cs.map Cn.d))]=.ok (.o (.ls false (cs.map λc=>PyData.bool (Gm c.word (Cg c.at_ r) c.val)))) [sI (tD r),sI (.list (cs.map λc=>PyData.int c.at_)),sI (.list (cs.map Cn.d))] :=
  Ff (ds:=cs.map λc:Cn=>PyData.tuple [.int c.at_,c.d]) (c1:=[sI (tD r),sI (.list (cs.map λc=>PyData.int c.at_)),sI (.list (cs.map Cn.d))]) (by wp_walk using A9c,A5r,Am6) (by rw[List.length_map];omega) (by simpa[cIn,O.flag] using e) rfl
 wp_walk using Fq,Ra,e2,Ak8,Uh
def Bh (rows:List (List Vl))(cs:List Cn):List Nat:=(List.range rows.length).filter λk=>Uh (rows.getD k []) cs
theorem getD_at {rows:List (List Vl)}{k:Nat}(h:k<rows.length):rows.getD k []=rows[k]:=by rw[List.getD_eq_getElem?_getD,List.getElem?_eq_getElem h];rfl
theorem Qc {rows:List (List Vl)}{cs:List Cn}{k:Nat}(h:k∈Bh rows cs):k<rows.length:=List.mem_range.mp (List.mem_filter.mp h).1
theorem Mw (rows:List (List Vl))(cs:List Cn):(Bh rows cs).length<=rows.length:=Nat.le_trans (List.length_filter_le _ _) (by simp)
theorem Cy {cols:List Str}{rows:List (List Vl)}{cs:List Cn}(ht:TK cols rows)(hc:∀c∈cs,Cn.Ok cols c)(hl:cs.length<=100) :
 Ao [.im (Az cols (rD rows)),.im (.list (cs.map Cn.d))]=.ret (.im (.list (nL (Bh rows cs)))) [.im (Az cols (rD rows)),.im (.list (cs.map Cn.d))]:=by
 have h24:=ht.rlen
 obtain⟨cI,e,u,v,rfl⟩:=Ik (g:=cgT 2 (El (cgN 0) (El (cgN 1) K4))) (ft:=Bg (cF Fq (Ac (Ab 1) (Ac (Ab 2) (Ac (Ab 3) Aq))))) (fe:=Ab 0) (I:=λc=>∃u v,c=[u,v,sI (.list (cs.map λc=>PyData.int c.at_)),sI (.list (cs.map Cn.d))]) (f:=λk:Nat=>PyData.tuple [.int k,tD (rows.getD k [])]) (G:=λk=>if Uh (rows.getD k []) cs=true then some (PyData.int k) else none) (xs:=List.range rows.length) (acc:=[]) (c:=[none,none,sI (.list (cs.map λc=>PyData.int c.at_)),sI (.list (cs.map Cn.d))]) ⟨none,none,rfl⟩
  (λk c hk hI=>by
   obtain⟨u,v,rfl⟩:=hI;have hk:=List.mem_range.mp hk;have h:=ht.rws _ (List.getElem_mem hk);rw[getD_at hk];have e1:=Zg hc h.1 h.2 hl
   refine⟨[sI (.int k),sI (tD rows[k]),sI (.list (cs.map λc=>PyData.int c.at_)),sI (.list (cs.map Cn.d))],?_,_,_,rfl⟩
   cases ha:Uh rows[k] cs with
   | true =>
    rw[ha]at e1
    wp_walk using e1
   | false =>
    rw[ha]at e1
    wp_walk using e1)
 rw[V6]at e;have e0:=N6 (cs:=cs) hl
 have e1:=M3 (R:=rD rows) (cs:=cs) ht.ck (λc h=>(hc c h).nm) hl
 have e3:=A4p (cs:=cs) λc h=>(hc c h).wd
 have i1:=tb1 cols (rD rows)
 generalize Az cols (rD rows)=D at *
 have e2:cLC [none,none,some 2,some 1] (Ul (cOp Ai (Ab 0) (cC (.int 1)))) (cgT 2 (El (cgN 0) (El (cgN 1) K4))) (Bg (cF Fq (Ac (Ab 1) (Ac (Ab 2) (Ac (Ab 3) Aq))))) (Ab 0) [sI D,sI (.list (cs.map Cn.d)),sI (.list (cs.map λc=>PyData.int c.at_))]=.ok (.o (.ls false (nL (Bh rows cs)))) [sI D,sI (.list (cs.map Cn.d)),sI (.list (cs.map λc=>PyData.int c.at_))] :=
  Ff (ds:=(List.range rows.length).map λk:Nat=>PyData.tuple [.int k,tD (rows.getD k [])]) (c1:=[sI D,sI (.list (cs.map Cn.d)),sI (.list (cs.map λc=>PyData.int c.at_))]) (by wp_walk using Ul,i1,U.Hi,A1w) (by rw[List.length_map,List.length_range];omega) (by simpa[cIn,O.flag,Bh] using e) rfl
 wp_walk using Ao,Nv,e0,e1,e3,e2
noncomputable def sqD (b:Bool) (l:List PyData):PyData:=if b then .tuple l else .list l
theorem Ng {cols:List Str}{rs:List (List Vl)}{b:Bool}{i:Nat}{x:Str}(h:CK cols)(hx:cols[i]?=some x)(hr:∀r∈rs,r.length=cols.length/\VBs r)(hl:rs.length<=1000) :
 Di [.im (Az cols (sqD b (rs.map tD))),.im (.str x)]=.ret (.im (.list ((rs.map (Cg i)).map Vl.d))) [.im (Az cols (sqD b (rs.map tD))),.im (.str x)]:=by
 have e1:=Jx (R:=sqD b (rs.map tD)) h hx;have i1:=tb1 cols (sqD b (rs.map tD))
 generalize Az cols (sqD b (rs.map tD))=D at *
 obtain⟨cI,e,u,rfl⟩:=Fb (g:=cgN 0) (ft:=By) (fe:=cOp Ai (Ab 0) (Ab 1)) (I:=λc=>∃u,c=[u,sI (.int i)]) (f:=tD) (G:=λr=>(Cg i r).d) (xs:=rs) (acc:=[]) (c:=[none,sI (.int i)]) ⟨none,rfl⟩
  (λr c hr' hI=>by
   obtain⟨u,rfl⟩:=hI;have hh:=hr r hr';have ea:=(Lr (List.getElem?_eq_some_iff.mp hx).1 hh.1 hh.2).1
   refine⟨[sI (tD r),sI (.int i)],?_,_,rfl⟩
   wp_walk using ea)
 have ei:Bj (cOp Ai (Ab 0) (cC (.int 1))) [sI D,sI (.str x),sI (.int i)]=.ok (rs.map tD) [sI D,sI (.str x),sI (.int i)]:=by
  cases b <;> wp_walk using Bj,i1,sqD,U.Hi
 have e2:cLC [none,some 2] (Bj (cOp Ai (Ab 0) (cC (.int 1)))) (cgN 0) By (cOp Ai (Ab 0) (Ab 1)) [sI D,sI (.str x),sI (.int i)]=.ok (.o (.ls false (rs.map λr=>(Cg i r).d))) [sI D,sI (.str x),sI (.int i)] :=
  Ff (ds:=rs.map tD) (c1:=[sI D,sI (.str x),sI (.int i)]) ei (by rw[List.length_map];omega) (by simpa[cIn,O.flag] using e) rfl
 rw[List.map_map]
 show _=FR.ret (.im (.list (rs.map λr=>(Cg i r).d))) _
 wp_walk using Di,Wm,e1,e2
theorem U0 {i n:Nat}{r:List Vl}(hi:i<n)(hr:r.length=n)(hv:VBs r):Eb [.im (tD r),.im (.list [.int i])]=.ret (.im (tD [Cg i r])) [.im (tD r),.im (.list [.int i])]:=by
 have ea:=(Lr hi hr hv).1
 have e2:cLC [none,some 0] (Bj (Ab 1)) (cgN 0) By (cOp Ai (Ab 1) (Ab 0)) [sI (tD r),sI (.list [.int i])]=.ok (.o (.ls false [(Cg i r).d])) [sI (tD r),sI (.list [.int i])] :=
  Ff (ds:=[PyData.int i]) (c1:=[sI (tD r),sI (.list [.int i])]) (cI:=[sI (.int i),sI (tD r)]) (by wp_walk using Bj) (show (1:Nat)<=16000000 by decide) (by
   show Et (cgN 0) By (cOp Ai (Ab 1) (Ab 0)) [.int i] [] [none,sI (tD r)]=_
   rw[Fp]
   have et:Pb (cgN 0) By (cOp Ai (Ab 1) (Ab 0)) (.int i) [none,sI (tD r)]=.ok (some (Cg i r).d) [sI (.int i),sI (tD r)]:=by wp_walk using ea
   rw[et,R.bind_ok];rfl) rfl
 have e3:Em (.list [(Cg i r).d])=sI (tD [Cg i r]):=rfl
 wp_walk using Eb,O5,e2,e3
theorem Vd {cols:List Str}{R:PyData}{i:Nat}{x:Str}(h:CK cols)(hx:cols[i]?=some x):Cp [.im (Az cols R),.im (.list [.str x])]=.ret (.im (.list [.int i])) [.im (Az cols R),.im (.list [.str x])] :=
 M3 (cs:=[⟨i,x,x,.non⟩]) h (λc hc=>by cases List.mem_singleton.mp hc;exact hx) (show (1:Nat)<=100 by decide)
theorem A6t {cols:List Str}{rs:List (List Vl)}{i:Nat}{x:Str}(h:CK cols)(hx:cols[i]?=some x)(hr:∀r∈rs,r.length=cols.length/\VBs r)(hl:rs.length<=1000) :
 Pj [.im (Az cols (rD rs)),.im (.list [.str x])]=.ret (.im (Az [x] (rD (rs.map λr=>[Cg i r])))) [.im (Az cols (rD rs)),.im (.list [.str x])]:=by
 have e1:=Vd (R:=rD rs) h hx;have i1:=tb1 cols (rD rs)
 generalize Az cols (rD rs)=D at *
 obtain⟨cI,e,u,rfl⟩:=Fb (g:=cgN 0) (ft:=By) (fe:=cF Eb (Ac (Ab 0) (Ac (Ab 1) Aq))) (I:=λc=>∃u,c=[u,sI (.list [.int i])]) (f:=tD) (G:=λr=>tD [Cg i r]) (xs:=rs) (acc:=[]) (c:=[none,sI (.list [.int i])]) ⟨none,rfl⟩
  (λr c hr' hI=>by
   obtain⟨u,rfl⟩:=hI;have hh:=hr r hr';have ea:=U0 (List.getElem?_eq_some_iff.mp hx).1 hh.1 hh.2
   refine⟨[sI (tD r),sI (.list [.int i])],?_,_,rfl⟩
   wp_walk using ea)
 have e2:cLC [none,some 2] (Bj (cOp Ai (Ab 0) (cC (.int 1)))) (cgN 0) By (cF Eb (Ac (Ab 0) (Ac (Ab 1) Aq))) [sI D,sI (.list [.str x]),sI (.list [.int i])]=.ok (.o (.ls false (rs.map λr=>tD [Cg i r]))) [sI D,sI (.list [.str x]),sI (.list [.int i])] :=
  Ff (ds:=rs.map tD) (c1:=[sI D,sI (.list [.str x]),sI (.list [.int i])]) (by wp_walk using Bj,i1,U.Hi) (by rw[List.length_map];omega) (by simpa[cIn,O.flag] using e) rfl
 have e3:PyData.tuple [.tuple [.str x],.tuple (rs.map λr=>tD [Cg i r])]=Az [x] (rD (rs.map λr=>[Cg i r])):=by unfold Az rD;rw[List.map_map];rfl
 have e4:Em (.list [.str x])=sI (.tuple [.str x]):=rfl
 have e5:Em (.list (rs.map λr=>tD [Cg i r]))=sI (.tuple (rs.map λr=>tD [Cg i r])):=rfl
 wp_walk using Pj,As1,e1,e2,e4,e5,e3
def Bb5 (r:List Vl):PyData:=.tuple [.int 3,.tuple (r.map Ea)]
theorem A2j (hl:r.length<=30):Bu 2 [.im (tD r)]=.ret (.im (Bb5 r)) [.im (tD r)]:=by
 obtain⟨cI,d,u,rfl⟩:=Fb (g:=cgN 0) (ft:=By) (fe:=cF (Bu 1) (Ac (Ab 0) Aq)) (I:=λc=>∃u,c=[u]) (f:=Vl.d) (G:=Ea) (xs:=r) (acc:=[]) (c:=[none]) ⟨none,rfl⟩
  (λv c hv b=>by
   obtain⟨u,rfl⟩:=b
   refine⟨[sI v.d],?_,_,rfl⟩
   wp_walk using Sy (v:=v) (k:=0))
 have a:cLC [none] (Bj (Ab 0)) (cgN 0) By (cF (Bu 1) (Ac (Ab 0) Aq)) [sI (tD r)]=.ok (.o (.ls false (r.map Ea))) [sI (tD r)]:=by
  refine Ff (ds:=r.map Vl.d) (c1:=[sI (tD r)]) ?_ (by rw[List.length_map];omega) (by simpa[cIn] using d) (by wp_walk using true_and)
  wp_walk using Bj,tD
 show Eu 1 1 _ _=_
 unfold tD at a ⊢
 wp_walk using An3,Ib,Zh,A5s,a,Em,Bb5
theorem Bp0 {i n:Nat}{r:List Vl}(hi:i<n)(hr:r.length=n)(hv:VBs r):Ds [.im (tD r),.im (.list [.int i])]=.ret (.im (K6 (Cg i r))) [.im (tD r),.im (.list [.int i])]:=by
 have e1:=U0 hi hr hv
 have e2:Bu 2 [.im (tD [Cg i r])]=.ret (.im (K6 (Cg i r))) [.im (tD [Cg i r])]:=A2j (r:=[Cg i r]) (show (1:Nat)<=30 by decide)
 wp_walk using Ds,e1,e2
theorem Ap1 {i n:Nat}{s0 s1 s3:Option O}(hi:i<n):∀rs:List (List Vl),(∀r∈rs,r.length=n/\VBs r) ->
 Ub Ds [2] (rs.map tD) [s0,s1,sI (.list [.int i]),s3]=.ok ((rs.map (Cg i)).map K6) [s0,s1,sI (.list [.int i]),s3]
 | [],_=>rfl
 | r::rs,h=>by
  have hh:=h r (.head _);have e:=Bp0 hi hh.1 hh.2
  have ih:=Ap1 (s0:=s0) (s1:=s1) (s3:=s3) hi rs λr' h'=>h r' (.tail _ h')
  have e1:Au5 Ds [2] (tD r) [s0,s1,sI (.list [.int i]),s3]=.ok (K6 (Cg i r)) [s0,s1,sI (.list [.int i]),s3]:=by
   wp_walk using Au5,e
  show ((Au5 Ds [2] (tD r) _).bind λk c=>(Ub Ds [2] (rs.map tD) c).bind λks c=>R.ok (k::ks) c)=_
  rw[e1]
  show ((Ub Ds [2] (rs.map tD) _).bind λks c=>R.ok (_::ks) c)=_
  rw[ih];rfl
theorem Ay3 {cols:List Str}{rs:List (List Vl)}{i:Nat}{x:Str}(h:CK cols)(hx:cols[i]?=some x)(hr:∀r∈rs,r.length=cols.length/\VBs r)(hl:rs.length<=24) :
 ∃out:List (List Vl),out.Perm rs/\out.Pairwise (λa b=>vlt (Cg i b) (Cg i a)=false)/\G8 [.im (Az cols (rD rs)),.im (.list [.str x])]=.ret (.im (Az cols (rD out))) [.im (Az cols (rD rs)),.im (.list [.str x])]:=by
 have hi:=(List.getElem?_eq_some_iff.mp hx).1
 obtain⟨out,h1,h2,e⟩:=At3 (i:=i) (rs:=rs) (λr hr'=>(Lr hi (hr r hr').1 (hr r hr').2).2) (by omega)
 refine⟨out,h1,h2,?_⟩
 have e1:=Vd (R:=rD rs) h hx;have e2:=Ap1 (s0:=sI (Az cols (rD rs))) (s1:=sI (.list [.str x])) (s3:=none) hi rs hr;have i0:=tb0 cols (rD rs);have i1:=tb1 cols (rD rs);have e4:PyData.tuple [.tuple (cols.map PyData.str),.tuple (out.map tD)]=Az cols (rD out):=rfl
 generalize Az cols (rD rs)=D at *
 have e:Mq (rs.map tD) ((rs.map (Cg i)).map K6)=some (out.map tD):=e
 have e3:An2 Ds [2] (cOp Ai (Ab 0) (cC (.int 1))) [sI D,sI (.list [.str x]),sI (.list [.int i]),none]=.ok (.o (.ls false (out.map tD))) [sI D,sI (.list [.str x]),sI (.list [.int i]),none]:=by
  wp_walk using An2,i1,U.Hi,e2,e
 have e5:Em (.list (out.map tD))=sI (.tuple (out.map tD)):=rfl
 wp_walk using G8,Ov,e1,e3,i0,e5,e4
noncomputable def isN:Vl->Bool
 | .non=>true
 | _=>false
def thr (xs:List Vl):List Vl:=xs.filter λv=>!isN v
theorem Aq1 (xs:List Vl):(xs.filterMap λv=>if isN v=true then none else some v.d)=(thr xs).map Vl.d:=by
 induction xs with
 | nil=>rfl
 | cons v r a =>
  unfold thr at a ⊢
  grind
theorem O1 (xs:List Vl)(w:PyData)(hl:xs.length<=1000):cLC [none] (Bj (Ab 0)) (cgN 0) (Bg (cOp (Ib true) (Ab 0) (cC (.none)))) (Ab 0) [sI (.list (xs.map Vl.d)),sI w,none]
 = .ok (.o (.ls false ((thr xs).map Vl.d))) [sI (.list (xs.map Vl.d)),sI w,none]:=by
 obtain⟨cI,e,hI⟩:=Ik (g:=cgN 0) (ft:=Bg (cOp (Ib true) (Ab 0) (cC .none))) (fe:=Ab 0) (I:=λc=>∃t,c=[t]) (f:=Vl.d) (G:=λv=>if isN v=true then none else some _) ⟨none,rfl⟩
  λv c hv a=>by
   obtain⟨t,rfl⟩:=a
   refine⟨[sI v.d],?_,_,rfl⟩
   cases v with
   | non=>trivial
   | int i=>trivial
   | str x=>rfl
 rw[Aq1]at e
 exact Ff (by rfl) (by grind) e (by trivial)
theorem A2s : ∀v∈thr xs,isN v=false:=λv a=>by
 have:=(List.mem_filter.mp a).2
 grind
theorem Wr : (thr xs).length<=xs.length:=List.length_filter_le _ _
noncomputable def isF (o:Option O):Bool:=match o with
 | some (.im (.bool false))=>true
 | _=>false
theorem Ei {o:Option O}(h:isF o=true):o=sI (.bool false):=by
 unfold isF at h
 grind
abbrev wd (s:String):PyData:=.str (Str.ofString s)
theorem eqT (s:Str):Bo false (.str s) (.str s)=sI (.bool true):=by rw[K7];simp
theorem Z3:∀vs:List Vl,Rg (Bu 2) (vs.map Vl.d)=some (vs.map Ea)
 | []=>rfl
 | v::vs=>by
  show (Ur (Bu 2) v.d).bind (λk=>(Rg (Bu 2) (vs.map Vl.d)).map (k::·))=_
  rw[Z3 vs,Tj];rfl
theorem Xz {α:Type}[DecidableEq α](x:α):∀(n:Nat) (xs:List α),xs.length=n->(x∈dst xs↔x∈xs)
 | 0,xs,h=>by cases xs with | nil=>exact Iff.rfl | cons a r=>cases h
 | n+1,xs,h=>by
  rcases List.eq_nil_or_concat xs with rfl | ⟨ys,y,rfl⟩
  ·cases h
  ·rw[List.concat_eq_append]at h ⊢
   have hy:ys.length=n:=by simpa using h
   have ih:=Xz x n ys hy;rw[Pk];unfold T9
   split
   ·rename_i hm
    rw[ih,List.mem_append,List.mem_singleton]
    refine⟨.inl,λq=>?_⟩
    rcases q with q | rfl
    ·exact q
    ·exact ih.mp (memB_iff.mp hm)
   ·rw[List.mem_append,List.mem_append,ih]
theorem A5v (xs:List Vl):(xs.map Vl.d).all A4f=true:=by
 rw[List.all_map]
 exact List.all_eq_true.mpr λv _=>by cases v <;> rfl
theorem A0w {xs:List Vl}(hl:xs.length<=1000):Hr [.im (.list (xs.map Vl.d))]=.ret (.im (.tuple ((Jb [] xs).map Vl.d))) [.im (.list (xs.map Vl.d))]:=by
 have e:Oj _ (xs.map _)=(Jb _ _).map _:=Ak6 _ []
 have b:((xs.map Vl.d).all A4f&&decide ((xs.map Vl.d).length<16000000))=true:=by rw[A5v,List.length_map,decide_eq_true (by omega)];rfl
 refine M5 (p:=.o (.im _)) (c:=[sI (.list (xs.map Vl.d)),none,none]) ?_ rfl (by trivial)
 show (if _=true then SR.rt _ _ else _)=_
 grind
theorem A2e {vs:List Vl}(hv:VBs vs)(hl:vs.length<64):∃out:List Vl,out.Perm vs/\out.Pairwise (λa b=>vlt b a=false)/\Mj [.im (.tuple (vs.map Vl.d))]=.ret (.ls false (out.map Vl.d)) [.im (.tuple (vs.map Vl.d))]:=by
 obtain⟨out,h1,h2,e⟩:=Az4 hv hl
 refine⟨out,h1,h2,?_⟩
 have e:(Rg (Bu 2) (vs.map Vl.d)).bind (Mq (vs.map Vl.d))=some (out.map Vl.d):=by rw[Z3];exact e
 wp_walk using Mj,Ad4,Bf6,U.Hi,e
abbrev ptE (xs:List Vl)(s:String)(r:O):Prop:=Cj [.im (.list (xs.map Vl.d)),.im (wd s)]=.ret r [.im (.list (xs.map Vl.d)),.im (wd s)]
theorem Aw1 {xs:List Vl}(h:xs≠[]):ptE xs "first" (.im (lo xs).d):=by
 cases xs with
 | nil=>exact absurd rfl h
 | cons v r =>
  have e:Ai (.list ((v::r).map Vl.d)) (.int 0)=sI (lo (v::r)).d:=by
   show (atI (v.d::r.map Vl.d) 0).map O.im=_
   rw[A3o];rfl
  unfold ptE
  generalize (v::r).map Vl.d=L at *
  wp_walk using ptE,Cj,Dw,eqT,e
theorem Ap4 {xs:List Vl}(h:xs≠[]):Ai (.list (xs.map Vl.d)) (.int (-1))=sI (hi xs).d:=by
 have hp:0<xs.length:=List.length_pos_iff.mpr h
 have el:hi xs=xs[xs.length-1]:=by
  unfold hi
  obtain⟨k,hk⟩:∃k,xs.length=k+1:=⟨xs.length-1,by omega⟩
  rw[List.getD_eq_getElem?_getD];simp only[hk,List.getElem?_cons_succ,Nat.add_sub_cancel]
  rw[List.getElem?_eq_getElem (by omega)];rfl
 show (atI (xs.map Vl.d) (-1)).map O.im=_
 have ea:atI (xs.map Vl.d) (-1)=some (xs[xs.length-1]).d:=by
  unfold atI ixN
  rw[if_neg (by decide),List.length_map]
  rw[if_pos (by omega),Option.bind_some,List.getElem?_map]
  rw[show (-1+(xs.length:Int)).toNat=xs.length-1 by omega,List.getElem?_eq_getElem (by omega)]
  rfl
 rw[ea,el];rfl
theorem A2z {xs:List Vl}(h:xs≠[]):ptE xs "last" (.im (hi xs).d):=by
 have f1:=Ei (show isF (Bo false (wd "last") (wd "first"))=true by decide +kernel)
 have e:=Ap4 h;unfold ptE
 generalize xs.map Vl.d=L at *
 wp_walk using ptE,Cj,Dw,f1,eqT,J4,e
theorem Ax9 {xs:List Vl}(hl:xs.length<=1000):ptE xs "count" (.im (.int (thr xs).length)):=by
 have e:=O1 xs (wd "count") hl
 have f1:=Ei (show isF (Bo false (wd "count") (wd "first"))=true by decide +kernel)
 have f2:=Ei (show isF (Bo false (wd "count") (wd "last"))=true by decide +kernel)
 have f3:=Ei (show isF (Bo false (wd "count") (wd "sum"))=true by decide +kernel)
 have el:Hc [.list ((thr xs).map Vl.d)]=sI (.int (thr xs).length):=by show some (O.im (.int (((thr xs).map Vl.d).length:Nat)))=_;rw[List.length_map]
 generalize (thr xs).map Vl.d=T at *
 wp_walk using ptE,Cj,Dw,e,f1,f2,f3,eqT,el
theorem A0s {xs l:List Vl}(gt:Bool)(hl:xs.length<=1000)(hv:VBs xs)(h1:l.Pairwise VR)(h2:∀x,x∈l↔x∈thr xs):ptE xs (if gt then "greatest" else "least") (.im (if gt then hi l else lo l).d):=by
 obtain⟨o,em,eo⟩:=Bd3 gt (ts:=thr xs) (λv h=>hv v (List.mem_filter.mp h).1) h1 h2
 cases gt with
 | false =>
  have e:=O1 xs (wd "least") hl
  have f1:=Ei (show isF (Bo false (wd "least") (wd "first"))=true by decide +kernel)
  have f2:=Ei (show isF (Bo false (wd "least") (wd "last"))=true by decide +kernel)
  have f3:=Ei (show isF (Bo false (wd "least") (wd "sum"))=true by decide +kernel)
  have f4:=Ei (show isF (Bo false (wd "least") (wd "count"))=true by decide +kernel)
  show ptE xs "least" (.im (lo l).d)
  have eo:mmD o=(lo l).d:=eo
  generalize (lo l).d=Z at *
  generalize (thr xs).map Vl.d=T at *
  wp_walk using ptE,Cj,Dw,e,f1,f2,f3,f4,eqT,cMM,em,eo
 | true =>
  have e:=O1 xs (wd "greatest") hl
  have f1:=Ei (show isF (Bo false (wd "greatest") (wd "first"))=true by decide +kernel)
  have f2:=Ei (show isF (Bo false (wd "greatest") (wd "last"))=true by decide +kernel)
  have f3:=Ei (show isF (Bo false (wd "greatest") (wd "sum"))=true by decide +kernel)
  have f4:=Ei (show isF (Bo false (wd "greatest") (wd "count"))=true by decide +kernel)
  have f5:=Ei (show isF (Bo false (wd "greatest") (wd "least"))=true by decide +kernel)
  show ptE xs "greatest" (.im (hi l).d)
  have eo:mmD o=(hi l).d:=eo
  generalize (hi l).d=Z at *
  generalize (thr xs).map Vl.d=T at *
  wp_walk using ptE,Cj,Dw,e,f1,f2,f3,f4,f5,eqT,cMM,em,eo
noncomputable def kOf:Vl->Key
 | .non=>.inl 0
 | .int i=>.inl i
 | .str x=>.inr x
theorem Ar4:∀{ts:List Vl},(∀v∈ts,isN v=false)->Rh (ts.map Vl.d)=some (ts.map kOf)
 | [],_=>rfl
 | v::r,h=>by
  have e:=Ar4 (ts:=r) λu hu=>h u (.tail _ hu)
  have hv:=h v (.head _)
  cases v with
  | non=>cases hv
  | int i=>show (Rh (r.map Vl.d)).map ((Sum.inl i:Key)::·)=_;rw[e];rfl
  | str x=>show (Rh (r.map Vl.d)).map ((Sum.inr x:Key)::·)=_;rw[e];rfl
theorem A8r {a b:Vl}(ha:isN a=false)(hb:isN b=false)(e:kOf a=kOf b):a=b:=by
 cases a with
 | non=>cases ha
 | int i=>
  cases b with
   | non=>cases hb
   | int j=>have:=Sum.inl.inj e;rw[this]
   | str y=>cases e
 | str x=>
  cases b with
   | non=>cases hb
   | int j=>cases e
   | str y=>have:=Sum.inr.inj e;rw[this]
theorem Ah7 {xs l:List Vl}(hl:xs.length<=900)(h1:l.Pairwise VR)(h2:∀x,x∈l↔x∈thr xs):ptE xs "unlike" (.im (.int l.length)):=by
 have e:=O1 xs (wd "unlike") (by omega)
 have ek:=Ar4 (ts:=thr xs) A2s
 have f1:=Ei (show isF (Bo false (wd "unlike") (wd "first"))=true by decide +kernel)
 have f2:=Ei (show isF (Bo false (wd "unlike") (wd "last"))=true by decide +kernel)
 have f3:=Ei (show isF (Bo false (wd "unlike") (wd "sum"))=true by decide +kernel)
 have f4:=Ei (show isF (Bo false (wd "unlike") (wd "count"))=true by decide +kernel)
 have f5:=Ei (show isF (Bo false (wd "unlike") (wd "least"))=true by decide +kernel)
 have f6:=Ei (show isF (Bo false (wd "unlike") (wd "greatest"))=true by decide +kernel)
 have hk2:((thr xs).map kOf).length<1000:=by have:=Wr (xs:=xs);rw[List.length_map];omega
 have en:(dst ((thr xs).map kOf)).length=l.length:=by
  have n1:=A2u _ ((thr xs).map kOf) rfl
  have n2:(l.map kOf).Nodup:=by
   rw[List.Nodup,List.pairwise_map]
   refine (List.pairwise_iff_getElem.mpr λi j hi hj hij e=>?_)
   have a:=List.pairwise_iff_getElem.mp h1 i j hi hj hij;have ea:=A2s _ ((h2 _).mp (List.getElem_mem hi));have eb:=A2s _ ((h2 _).mp (List.getElem_mem hj));have q:=A8r ea eb e;rw[q]at a
   rw[show VR l[j] l[j]↔vlt l[j] l[j]=true from Iff.rfl,Gh]at a
   cases a
  have a:=A2t (l.map kOf) _ n1 λx hx=>by
   obtain⟨v,hv,rfl⟩:=List.mem_map.mp ((Xz x _ _ rfl).mp hx);exact List.mem_map.mpr ⟨v,(h2 v).mpr hv,rfl⟩
  have b:=A2t (dst ((thr xs).map kOf)) _ n2 λx hx=>by
   obtain⟨v,hv,rfl⟩:=List.mem_map.mp hx;exact(Xz _ _ _ rfl).mpr (List.mem_map.mpr ⟨v,(h2 v).mp hv,rfl⟩)
  rw[List.length_map]at a b;omega
 have eo:M8 (.list ((thr xs).map Vl.d))=sI (.int l.length):=by
  show (Rh ((thr xs).map Vl.d)).bind _=_
  rw[ek,Option.bind_some,if_pos hk2,en]
 generalize (thr xs).map Vl.d=T at *
 wp_walk using ptE,Cj,Dw,e,f1,f2,f3,f4,f5,f6,eqT,eo
abbrev csD (cs:List Cn):PyData:=.list (cs.map Cn.d)
def qR (cs:List Cn):PyData:=.tuple [.str "rows",csD cs]
def qW (w x:Str)(cs:List Cn):PyData:=.tuple [.str w,.str x,csD cs]
noncomputable def qw8:List Str:=[Str.ofString "first",Str.ofString "last",Str.ofString "sum",Str.ofString "count",Str.ofString "least",Str.ofString "greatest",Str.ofString "unlike",Str.ofString "all"]
theorem Bs3 {w:Str}(h:w∈qw8):Ji true (.str w) (.tuple (qw8.map PyData.str))=sI (.bool false) :=
 Ei (List.all_eq_true.mp (show (qw8.all λw=>isF (Ji true (.str w) (.tuple (qw8.map PyData.str))))=true by decide +kernel) w h)
theorem Bu7:Tz [Str.ofString "first",Str.ofString "last",Str.ofString "sum",Str.ofString "count",Str.ofString "least",Str.ofString "greatest",Str.ofString "unlike"] (.tuple [.str "all"])=sI (.tuple (qw8.map PyData.str)):=by
 unfold Tz
 dsimp only
 rw[if_pos ⟨by decide,by decide,by decide⟩];rfl
theorem A8c:Ji true (.str "rows") (.tuple [.str "rows"])=sI (.bool false):=Ei (show isF (Ji true (.str "rows") (.tuple [.str "rows"]))=true by decide +kernel)
theorem Aj7 {cols:List Str}{R:PyData}{cs:List Cn}(h:CK cols)(hc:∀c∈cs,Cn.Ok cols c)(hl:cs.length<=90):Dh [.im (Az cols R),.im (qR cs)]=.ret (.im .none) [.im (Az cols R),.im (qR cs)]:=by
 have e1:=N6 (cs:=cs) (by omega)
 have e2:=M3 (R:=R) (cs:=cs) h (λc hc'=>(hc c hc').nm) (by omega)
 have s1:Ac7 (qR cs) (some 1) (some (-1))=sI (.tuple []):=rfl;have s2:Ai (qR cs) (.int (-1))=sI (csD cs):=rfl;have s3:Ai (qR cs) (.int 0)=sI (.str "rows"):=rfl;have s4:Nz (.tuple [])=sFa []:=rfl;have s5:Hc [.list []]=sI (.int 0):=rfl
 have e3:Ci (.list []) (.list (cs.map λc=>PyData.str c.name))=sFa (cs.map λc=>PyData.str c.name):=by
  show (if ([]:List PyData).length+(cs.map λc=>PyData.str c.name).length<=16000000 then some (O.ls false ([]++cs.map λc=>PyData.str c.name)) else none)=_
  rw[if_pos (by rw[List.length_map];show 0+cs.length<=_;omega),List.nil_append]
 have e4:=A8c
 generalize Az cols R=D at *
 generalize qR cs=Q at *
 generalize (cs.map λc=>PyData.str c.name)=N at *
 wp_walk using Dh,Gr,J4,s1,s2,s3,s4,s5,e1,e3,e2,e4
theorem Uk {cols:List Str}{R:PyData}{cs:List Cn}{i:Nat}{x w:Str}(h:CK cols)(hx:cols[i]?=some x)(hw:w∈qw8)(hc:∀c∈cs,Cn.Ok cols c)(hl:cs.length<=90):Dh [.im (Az cols R),.im (qW w x cs)]=.ret (.im .none) [.im (Az cols R),.im (qW w x cs)]:=by
 have e1:=N6 (cs:=cs) (by omega)
 have e2:=M3 (R:=R) (cs:=⟨i,x,x,.non⟩::cs) h (λc hc'=>by rcases List.mem_cons.mp hc' with rfl | hc';exact hx;exact(hc c hc').nm) (by rw[List.length_cons];omega)
 have s1:Ac7 (qW w x cs) (some 1) (some (-1))=sI (.tuple [.str x]):=rfl;have s2:Ai (qW w x cs) (.int (-1))=sI (csD cs):=rfl;have s3:Ai (qW w x cs) (.int 0)=sI (.str w):=rfl;have s4:Nz (.tuple [.str x])=sFa [.str x]:=rfl;have s5:Hc [.list [.str x]]=sI (.int 1):=rfl
 have e3:Ci (.list [.str x]) (.list (cs.map λc=>PyData.str c.name))=sFa (.str x::cs.map λc=>PyData.str c.name):=by
  show (if ([.str x]:List PyData).length+(cs.map λc=>PyData.str c.name).length<=16000000 then some (O.ls false ([.str x]++cs.map λc=>PyData.str c.name)) else none)=_
  rw[if_pos (by rw[List.length_map];show 1+cs.length<=_;omega)];rfl
 have e2:Cp [.im (Az cols R),.im (.list (.str x::cs.map λc=>PyData.str c.name))]=.ret (.im (.list (.int i::cs.map λc=>PyData.int c.at_))) [.im (Az cols R),.im (.list (.str x::cs.map λc=>PyData.str c.name))]:=e2
 have e4:=Bs3 hw;have e5:=Bu7
 generalize Az cols R=D at *
 generalize qW w x cs=Q at *
 generalize (cs.map λc=>PyData.str c.name)=N at *
 generalize (cs.map λc=>PyData.int c.at_)=M at *
 generalize qw8.map PyData.str=W at *
 wp_walk using Dh,Gr,J4,s1,s2,s3,s4,s5,e1,e3,e2,e4,e5
def Gu (rows:List (List Vl))(cs:List Cn):List (List Vl):=(Bh rows cs).map λk=>rows.getD k []
theorem A6x {rows:List (List Vl)}{cs:List Cn}:∀r∈Gu rows cs,r∈rows:=λr h=>by
 obtain⟨k,hk,rfl⟩:=List.mem_map.mp h;rw[getD_at (Qc hk)];exact List.getElem_mem _
theorem A6e (rows:List (List Vl))(cs:List Cn):(Gu rows cs).length<=rows.length:=by unfold Gu;rw[List.length_map];exact Mw rows cs
theorem Au1 {D:PyData}{rows:List (List Vl)}(i1:Ai D (.int 1)=sI (rD rows))(N:List Nat)(hN:∀k∈N,k<rows.length):∃u,Et (cgN 0) By (cOp Ai (cOp Ai (Ab 1) (cC (.int 1))) (Ab 0)) (nL N) [] [none,sI D]=.ok ((N.map λk=>rows.getD k []).map tD) [u,sI D]:=by
 obtain⟨cI,e,u,rfl⟩:=Fb (g:=cgN 0) (ft:=By) (fe:=cOp Ai (cOp Ai (Ab 1) (cC (.int 1))) (Ab 0)) (I:=λc=>∃u,c=[u,sI D]) (f:=λk:Nat=>PyData.int k) (G:=λk=>tD (rows.getD k [])) (xs:=N) (acc:=[]) (c:=[none,sI D]) ⟨none,rfl⟩
  (λk c hk hI=>by
   obtain⟨u,rfl⟩:=hI;have hk:=hN k hk
   have ea:Ai (rD rows) (.int (k:Int))=sI (tD (rows.getD k [])):=by
    show (atI (rows.map tD) (k:Int)).map O.im=_
    rw[Fg (by rw[List.getElem?_map,List.getElem?_eq_getElem hk];rfl),getD_at hk];rfl
   refine⟨[sI (.int k),sI D],?_,_,rfl⟩
   wp_walk using i1,ea)
 refine⟨u,?_⟩
 rw[e,List.map_map];rfl
theorem Ar6 {D:PyData}{rows:List (List Vl)}{N:List Nat}{fi:Ev->R (List PyData)}{j:Nat}{c:Ev}(i1:Ai D (.int 1)=sI (rD rows))(hN:∀k∈N,k<rows.length)(hl:N.length<=1000)(hi:fi c=.ok (nL N) c)(hj:c[j]?=some (sI D))(hb:∀u,Gj [u,sI D] (pairsOf 0 [none,some j]) c=some c) :
 cLC [none,some j] fi (cgN 0) By (cOp Ai (cOp Ai (Ab 1) (cC (.int 1))) (Ab 0)) c=.ok (.o (.ls false ((N.map λk=>rows.getD k []).map tD))) c:=by
 obtain⟨u,e⟩:=Au1 i1 N hN
 refine Ff (ds:=nL N) (c1:=c) hi (by rw[List.length_map];omega) ?_ (hb u)
 rw[show cIn [none,some j] c=[none,sI D] by unfold cIn;simp[hj,O.flag]]
 exact e
structure AK (cols:List Str) (rows:List (List Vl)) (cs:List Cn):Prop where
 t:TK cols rows
 c:∀c∈cs,Cn.Ok cols c
 l:cs.length<=90
section
variable {cols:List Str}{rows:List (List Vl)}{cs:List Cn}
theorem AK.small (h:AK cols rows cs):(Gu rows cs).length<=24:=Nat.le_trans (A6e rows cs) h.t.rlen
theorem AK.rws (h:AK cols rows cs):∀r∈Gu rows cs,r.length=cols.length/\VBs r:=λr hr=>h.t.rws r (A6x r hr)
theorem Ak3 (h:AK cols rows cs){Q:PyData}{s2 s3 s4:Option O}(s1:Ai Q (.int (-1))=sI (csD cs)) :
 cLC [none,some 0] (Bj (cF Ao (Ac (Ab 0) (Ac (cOp Ai (Ab 1) (cUn J4 (cC (.int 1)))) Aq)))) (cgN 0) By (cOp Ai (cOp Ai (Ab 1) (cC (.int 1))) (Ab 0)) [sI (Az cols (rD rows)),sI Q,s2,s3,s4]=.ok (.o (.ls false ((Gu rows cs).map tD))) [sI (Az cols (rD rows)),sI Q,s2,s3,s4]:=by
 have e1:=Cy h.t h.c (Nat.le_trans h.l (by decide))
 have il:=Mw rows cs;have h24:=h.t.rlen
 refine Ar6 (tb1 cols (rD rows)) (λk hk=>Qc hk) (by omega) ?_ rfl λ_=>rfl
 generalize Az cols (rD rows)=D at *
 wp_walk using Bj,J4,s1,e1
theorem Ad3 (h:AK cols rows cs):Bs [.im (Az cols (rD rows)),.im (qR cs)]=.ret (.im (.list ((Gu rows cs).map tD))) [.im (Az cols (rD rows)),.im (qR cs)]:=by
 have e1:=Aj7 (R:=rD rows) h.t.ck h.c h.l
 have e2:=λs2 s3 s4=>Ak3 h (Q:=qR cs) (s2:=s2) (s3:=s3) (s4:=s4) rfl
 have s3:Ai (qR cs) (.int 0)=sI (.str "rows"):=rfl;have e4:=eqT (Str.ofString "rows")
 generalize Az cols (rD rows)=D at *
 generalize qR cs=Q at *
 wp_walk using Bs,J6,e1,s3,e2,e4
abbrev Ca (rows:List (List Vl))(cs:List Cn)(i:Nat):List Vl:=(Gu rows cs).map (Cg i)
theorem A1m (h:AK cols rows cs){i:Nat}{x:Str}(hx:cols[i]?=some x):VBs (Ca rows cs i):=λv hv=>by
 obtain⟨r,hr,rfl⟩:=List.mem_map.mp hv;have hh:=h.rws r hr;exact(Lr (List.getElem?_eq_some_iff.mp hx).1 hh.1 hh.2).2
theorem Ar7 (h:AK cols rows cs)(i:Nat):(Ca rows cs i).length<=24:=by rw[List.length_map];exact h.small
theorem Ao6 (h:AK cols rows cs){i:Nat}{x:Str}(hx:cols[i]?=some x):Di [.im (Az cols (.list ((Gu rows cs).map tD))),.im (.str x)]=.ret (.im (.list ((Ca rows cs i).map Vl.d))) [.im (Az cols (.list ((Gu rows cs).map tD))),.im (.str x)] :=
 Ng (b:=false) h.t.ck hx h.rws (Nat.le_trans h.small (by decide))
theorem A9m {w:Str}(h:w∈qw8):Bo false (.str w) (.str "rows")=sI (.bool false) :=
 Ei (List.all_eq_true.mp (show (qw8.all λw=>isF (Bo false (.str w) (.str "rows")))=true by decide +kernel) w h)
theorem Ah4 (h:AK cols rows cs){i:Nat}{x:Str}(hx:cols[i]?=some x) :
 ∃out:List Vl,out.Pairwise VR/\(∀v,v∈out↔v∈Ca rows cs i)/\out.length<=24/\Bs [.im (Az cols (rD rows)),.im (qW (Str.ofString "all") x cs)]=.ret (.im (.list (out.map Vl.d))) [.im (Az cols (rD rows)),.im (qW (Str.ofString "all") x cs)]:=by
 have hw:Str.ofString "all" ∈ qw8:=by decide +kernel
 have e1:=Uk (R:=rD rows) h.t.ck hx hw h.c h.l
 have e2:=λs2 s3 s4=>Ak3 h (Q:=qW (Str.ofString "all") x cs) (s2:=s2) (s3:=s3) (s4:=s4) rfl
 have s0:Ai (qW (Str.ofString "all") x cs) (.int 0)=sI (.str "all"):=rfl;have s1:Ai (qW (Str.ofString "all") x cs) (.int 1)=sI (.str x):=rfl;have e3:=A9m hw;have e4:=eqT (Str.ofString "all");have e5:=Ao6 h hx;have ol:=Ar7 h i
 have e6:=A0w (xs:=Ca rows cs i) (by omega)
 have sl:=Us (Ca rows cs i) []
 have sm:=λv=>Aa2 (Ca rows cs i) [] v
 have sn:=Wz (Ca rows cs i) [] List.nodup_nil;have ob:=A1m h hx
 have sl':(Jb [] (Ca rows cs i)).length<=24:=by
  have z:([]:List Vl).length=0:=rfl;omega
 obtain⟨out,o1,o2,e7⟩:=A2e (vs:=Jb [] (Ca rows cs i)) (λv hv=>ob v (((sm v).mp hv).resolve_left λz=>nomatch z)) (by omega)
 refine⟨out,Bu1 o2 (o1.nodup_iff.mpr sn),λv=>?_,by rw[o1.length_eq];exact sl',?_⟩
 ·rw[o1.mem_iff,sm]
  exact⟨λq=>q.resolve_left (λz=>nomatch z),λq=>.inr q⟩
 ·have i0:=tb0 cols (rD rows)
  have et:PyData.tuple [.tuple (cols.map PyData.str),.list ((Gu rows cs).map tD)]=Az cols (.list ((Gu rows cs).map tD)):=rfl
  generalize Az cols (.list ((Gu rows cs).map tD))=E at *
  generalize Az cols (rD rows)=D at *
  generalize qW (Str.ofString "all") x cs=Q at *
  generalize Jb [] (Ca rows cs i)=S at *
  generalize (Ca rows cs i).map Vl.d=O' at *
  generalize (Gu rows cs).map tD=G at *
  generalize cols.map PyData.str=C at *
  wp_walk using Bs,J6,e1,s0,s1,e2,e3,e4,i0,et,e5,e6,e7
theorem Hg (h:AK cols rows cs){i:Nat}{x:Str}(hx:cols[i]?=some x){s:String}{r:PyData}(hw:Str.ofString s∈qw8)(hn:isF (Bo false (wd s) (wd "all"))=true) (hr:Ca rows cs i≠[]->ptE (Ca rows cs i) s (.im r)) :
 Bs [.im (Az cols (rD rows)),.im (qW (Str.ofString s) x cs)]=.ret (.im (if Ca rows cs i=[] then .none else r)) [.im (Az cols (rD rows)),.im (qW (Str.ofString s) x cs)]:=by
 have e1:=Uk (R:=rD rows) h.t.ck hx hw h.c h.l
 have e2:=λs2 s3 s4=>Ak3 h (Q:=qW (Str.ofString s) x cs) (s2:=s2) (s3:=s3) (s4:=s4) rfl
 have s0:Ai (qW (Str.ofString s) x cs) (.int 0)=sI (.str (Str.ofString s)):=rfl;have s1:Ai (qW (Str.ofString s) x cs) (.int 1)=sI (.str x):=rfl;have e3:=A9m hw;have e4:=Ei hn;have e5:=Ao6 h hx;have i0:=tb0 cols (rD rows);have et:PyData.tuple [.tuple (cols.map PyData.str),.list ((Gu rows cs).map tD)]=Az cols (.list ((Gu rows cs).map tD)):=rfl
 have el:Hc [.list ((Ca rows cs i).map Vl.d)]=sI (.int (Ca rows cs i).length):=by show some (O.im (.int (((Ca rows cs i).map Vl.d).length:Nat)))=_;rw[List.length_map]
 by_cases z:Ca rows cs i=[]
 ·rw[if_pos z]
  have eg:decide ((0:Int)<((Ca rows cs i).length:Int))=false:=by rw[z];rfl
  generalize Az cols (.list ((Gu rows cs).map tD))=E at *
  generalize Az cols (rD rows)=D at *
  generalize qW (Str.ofString s) x cs=Q at *
  generalize (Ca rows cs i).map Vl.d=O' at *
  generalize ((Ca rows cs i).length:Int)=n at *
  generalize (Gu rows cs).map tD=G at *
  generalize cols.map PyData.str=C at *
  wp_walk using Bs,J6,e1,s0,s1,e2,e3,e4,i0,et,e5,el,eg
 ·rw[if_neg z]
  have e6:=hr z;have hp:=List.length_pos_iff.mpr z
  have eg:decide ((0:Int)<((Ca rows cs i).length:Int))=true:=decide_eq_true (by omega)
  unfold ptE at e6
  generalize Az cols (.list ((Gu rows cs).map tD))=E at *
  generalize Az cols (rD rows)=D at *
  generalize qW (Str.ofString s) x cs=Q at *
  generalize (Ca rows cs i).map Vl.d=O' at *
  generalize ((Ca rows cs i).length:Int)=n at *
  generalize (Gu rows cs).map tD=G at *
  generalize cols.map PyData.str=C at *
  wp_walk using Bs,J6,e1,s0,s1,e2,e3,e4,i0,et,e5,el,eg,e6
end
abbrev Uj:Ev->SR:=Bm (Dj (cF Aw (Ac (Ab 0) (Ac (Ht (Ab 1)) Aq))) (cgN 5))
 (Bm (Dj (cOp Ci (cLC [none,some 5] (Bj (Ab 2)) (cgN 0) By (cOp Ai (Ab 0) (Ab 1))) (Fo (Ac (cF Df (Ac (Ab 0) Aq)) Aq))) (cgN 6))
 (Bm (Dj (cOp Ai (Fo (cK [.str "is",.str "not",.str "below",.str "above"])) (cF Aw (Ac (Ab 0) (Ac (cC (.int 4)) Aq)))) (cgN 7))
 (Lh (Ab5 (Ab 3) (G3 (Ac (cOp Ai (Ab 1) (Ab 5)) (Ac (Ab 7) (Ac (cOp Ai (Ab 6) (cF Aw (Ac (Ab 0) (Ac (Ht (Ab 6)) Aq)))) Aq))))))))
theorem Zk {n:Nat}{ds:List PyData}{t:Tb}{cs:List Cn}{i:PyData}{s4 s5 s6 s7:Option O}(ht:Tb.Ok t)(hb:Bx n ds)(hn:n<2 ^ 36)(hl:cs.length<=100) :
 ∃(c:Cn) (d1:List PyData) (t5 t6 t7:Option O),Cn.Ok t.cols c/\Bx (n+5) d1/\Oq (cgN 4) Uj i [sT ds,sI (.tuple (t.cols.map PyData.str)),sI (.tuple (t.rows.map tD)),sFa (cs.map Cn.d),s4,s5,s6,s7]=.nx [sT d1,sI (.tuple (t.cols.map PyData.str)),sI (.tuple (t.rows.map tD)),sFa ((cs++[c]).map Cn.d),sI i,t5,t6,t7]:=by
 have h2:=ht.cpos;have h12:=ht.clen;have h24:=ht.rlen
 obtain⟨a,d1,b1,a0,a1,e1⟩:=Ek (m:=(t.cols.length:Int)) hb (by omega) (by omega) (by omega)
 obtain⟨k,rfl⟩:=Int.eq_ofNat_of_zero_le a0
 have hk:k<t.cols.length:=by omega
 obtain⟨v,d2,b2,vv,e2⟩:=Ua b1 (by omega)
 obtain⟨w,d3,b3,w0,w1,e3⟩:=Ek (m:=4) b2 (by omega) (by decide) (by decide)
 obtain⟨wd,hw,hwm,_⟩:=Mg (l:=words4.map PyData.str) (r:=w) w0 w1;obtain⟨wd,hwd,rfl⟩:=List.mem_map.mp hwm
 let vs:List Vl:=(t.rows.map λr=>(r[k]?).getD .non)++[v]
 have hvs:VBs vs:=λu hu=>by
  rcases List.mem_append.mp hu with q | q
  ·obtain⟨r,hr,rfl⟩:=List.mem_map.mp q
   have h:=ht.rows r hr
   have hl:k<r.length:=by rw[h.1];exact hk
   rw[List.getElem?_eq_getElem hl];exact h.2 _ (List.getElem_mem hl)
  ·rw[List.mem_singleton.mp q];exact vv
 have lvs:vs.length=t.rows.length+1:=by show (_++[v]).length=_;rw[List.length_append,List.length_map];rfl
 obtain⟨cI,eL,u,rfl⟩:=Fb (g:=cgN 0) (ft:=By) (fe:=cOp Ai (Ab 0) (Ab 1)) (I:=λc=>∃u,c=[u,sI (.int (k:Int))]) (f:=tD) (G:=λr=>((r[k]?).getD Vl.non).d) (xs:=t.rows) (acc:=[]) (c:=[none,sI (.int (k:Int))]) ⟨none,rfl⟩
  (λr c hr hI=>by
   obtain⟨u,rfl⟩:=hI;have h:=ht.rows r hr
   have hl:k<r.length:=by rw[h.1];exact hk
   have ea:atI (r.map Vl.d) (k:Int)=some ((r[k]?).getD Vl.non).d:=Fg (by rw[List.getElem?_map,List.getElem?_eq_getElem hl];rfl)
   refine⟨[sI (tD r),sI (.int (k:Int))],?_,_,rfl⟩
   wp_walk using tD,Ai,ea)
 have eC:cLC [none,some 5] (Bj (Ab 2)) (cgN 0) By (cOp Ai (Ab 0) (Ab 1)) [sT d1,sI (.tuple (t.cols.map PyData.str)),sI (.tuple (t.rows.map tD)),sFa (cs.map Cn.d),sI i,sI (.int (k:Int)),s6,s7]=.ok (.o (.ls false (t.rows.map λr=>((r[k]?).getD Vl.non).d))) [sT d1,sI (.tuple (t.cols.map PyData.str)),sI (.tuple (t.rows.map tD)),sFa (cs.map Cn.d),sI i,sI (.int (k:Int)),s6,s7] :=
  Ff (ds:=t.rows.map tD) (c1:=[sT d1,sI (.tuple (t.cols.map PyData.str)),sI (.tuple (t.rows.map tD)),sFa (cs.map Cn.d),sI i,sI (.int (k:Int)),s6,s7]) (by wp_walk using Bj) (by rw[List.length_map];omega) (by simpa[cIn,O.flag] using eL) rfl
 have eA:Ci (.list (t.rows.map λr=>((r[k]?).getD Vl.non).d)) (.list [v.d])=sFa (vs.map Vl.d):=by
  have:(t.rows.map λr=>((r[k]?).getD Vl.non).d)++[v.d]=vs.map Vl.d:=by show _=((t.rows.map _)++[v]).map Vl.d;rw[List.map_append,List.map_map];rfl
  simp only[Ci]
  rw[if_pos (by rw[List.length_map];simp;omega),this]
 obtain⟨q,d4,b4,q0,q1,e4⟩:=Ek (m:=(vs.length:Int)) b3 (by omega) (by omega) (by omega)
 obtain⟨x,hx,hxm,_⟩:=Mg (l:=vs.map Vl.d) (r:=q) q0 (by rw[List.length_map];exact q1)
 obtain⟨x,hxv,rfl⟩:=List.mem_map.mp hxm
 have eN:atI (t.cols.map PyData.str) (k:Int)=some (.str t.cols[k]):=Fg (by rw[List.getElem?_map,List.getElem?_eq_getElem hk];rfl)
 refine⟨⟨k,t.cols[k],wd,x⟩,d4,sI (.int (k:Int)),sFa (vs.map Vl.d),sI (.str wd),⟨List.getElem?_eq_getElem hk,hwd,hvs x hxv⟩,b4.mono (by omega),?_⟩
 generalize hvv:vs.map Vl.d=VS at *
 have lVS:VS.length=vs.length:=by rw[<- hvv,List.length_map]
 rw[<- lVS]at e4;simp only[words4,List.map_cons,List.map_nil]at hw
 have eLc:Hc [.tuple (t.cols.map PyData.str)]=sI (.int t.cols.length):=by show some (O.im (.int ((t.cols.map PyData.str).length:Nat)))=_;rw[List.length_map]
 have eLv:Hc [.list VS]=sI (.int VS.length):=rfl
 wp_walk using Uj,eLc,e1,eC,e2,eA,e3,Ai,hw,eN,eLv,e4,hx,List.length_map,show cs.length<16000000 by omega,List.map_append,Cn.d
theorem Np {n:Nat}{ds:List PyData}{t:Tb}(ht:Tb.Ok t)(hb:Bx n ds)(hn:n<2 ^ 35) :
 ∃(cs:List Cn) (d1:List PyData),(∀c∈cs,Cn.Ok t.cols c)/\cs.length<=3/\Bx (n+20) d1/\Dz [.ls true ds,.im (.tuple (t.cols.map PyData.str)),.im (.tuple (t.rows.map tD))]=.ret (.ls false (cs.map Cn.d)) [.ls true d1,.im (.tuple (t.cols.map PyData.str)),.im (.tuple (t.rows.map tD))]:=by
 obtain⟨r,d1,b1,r0,r1,e1⟩:=Ek (m:=5) hb (by omega) (by decide) (by decide)
 obtain⟨x,hx,hm,_⟩:=Mg (l:=[PyData.int 0,.int 1,.int 1,.int 2,.int 3]) (r:=r) r0 r1
 have hv:∃m:Nat,x=.int m/\m<=3:=by
  simp only[List.mem_cons,List.not_mem_nil,or_false]at hm
  rcases hm with rfl | rfl | rfl | rfl | rfl
  ·exact⟨0,rfl,by decide⟩
  ·exact⟨1,rfl,by decide⟩
  ·exact⟨1,rfl,by decide⟩
  ·exact⟨2,rfl,by decide⟩
  ·exact⟨3,rfl,by decide⟩
 obtain⟨m,rfl,m3⟩:=hv
 have loop:=Ir (g:=cgN 4) (body:=Uj) (items:=Kv 0 m) (n:=0) (c:=[sT d1,sI (.tuple (t.cols.map PyData.str)),sI (.tuple (t.rows.map tD)),sFa [],none,none,none,none])
  (P:=λk c=>∃d2 cs s4 s5 s6 s7,c=[sT d2,sI (.tuple (t.cols.map PyData.str)),sI (.tuple (t.rows.map tD)),sFa (cs.map Cn.d),s4,s5,s6,s7]/\k<=m/\Bx (n+1+5*k) d2/\(∀c∈cs,Cn.Ok t.cols c)/\cs.length=k)
  ⟨d1,[],_,_,_,_,rfl,Nat.zero_le _,b1,(λc hc=>nomatch hc),rfl⟩ (λk d c hd hP=>by
   rw[Nat.zero_add]at hP ⊢;obtain⟨d2,cs,s4,s5,s6,s7,rfl,hk0,b2,hc,hl⟩:=hP;obtain⟨rfl,hk⟩:=M7 hd
   obtain⟨c,d3,t5,t6,t7,co,b3,e3⟩:=Zk (cs:=cs) (i:=.int (0+(k:Int))) (s4:=s4) (s5:=s5) (s6:=s6) (s7:=s7) ht b2 (by omega) (by omega)
   exact⟨_,.inl e3,d3,cs++[c],_,_,_,_,rfl,hk,b3.mono (by omega),λx h=>by
    rcases List.mem_append.mp h with h | h
    ·exact hc x h
    ·rw[List.mem_singleton.mp h];exact co,by simp[hl]⟩)
 obtain⟨c',e,d2,cs,s4,s5,s6,s7,rfl,_,b2,hc,hl⟩:=loop;rw[Nat.zero_add,Oe]at b2 hl
 refine⟨cs,d2,hc,by omega,b2.mono (by omega),?_⟩
 refine M5 (p:=.sl 3) (c:=[sT d2,sI (.tuple (t.cols.map PyData.str)),sI (.tuple (t.rows.map tD)),sFa (cs.map Cn.d),s4,s5,s6,s7]) ?_ rfl (by wp_walk using true_and)
 show Hz [sT ds,sI (.tuple (t.cols.map PyData.str)),sI (.tuple (t.rows.map tD)),none,none,none,none,none]=_
 unfold Hz
 refine (Cd (c':=[sT ds,sI (.tuple (t.cols.map PyData.str)),sI (.tuple (t.rows.map tD)),sFa [],none,none,none,none]) (by wp_walk using true_and)).trans ?_
 refine (Cd ((Oo (ds:=Kv 0 m) (c1:=[sT d1,sI (.tuple (t.cols.map PyData.str)),sI (.tuple (t.rows.map tD)),sFa [],none,none,none,none]) (by wp_walk using e1,Ai,hx,show (m:Int)<=16000000/\-16000000<=(m:Int) by omega,Int.toNat_natCast)).trans e)).trans ?_
 wp_walk using true_and
theorem Am4 (l:List Nat):PyData.canLayAll0 (nL l)=true:=Ww λd hd=>by
 obtain⟨k,_,rfl⟩:=List.mem_map.mp hd;rfl
theorem Al0:∀l:List Nat,PyData.depthAll (nL l)=0
 | []=>rfl
 | k::l=>by
  show max 0 (PyData.depthAll (nL l))=0
  rw[Al0 l];rfl
theorem A8k (l:List Nat):Ce (.list (nL l))=true:=by
 show (PyData.canLayAll0 (nL l)&&decide (PyData.depthAll (nL l)+1<=40))=true
 rw[Am4,Al0];rfl
theorem S5 {neg:Bool}{d:PyData}(h:Ce d=true):Bo neg d d=sI (.bool (!neg)):=by
 rw[A9n h h,A3e _ (Bool.and_eq_true_iff.mp h).1]
 cases neg <;> rfl
theorem An4 {neg:Bool}(l:List Nat):Bo neg (.list (nL l)) (.list (nL l))=sI (.bool (!neg)):=S5 (A8k l)
theorem Bb7 (n:Nat)(l:List Nat):Ji false (.int n) (.list (nL l))=sI (.bool (decide (n∈l))):=by
 show (if Ce (.int n)&&PyData.canLayAll0 (nL l) then some (O.im (.bool ((nL l).any λe=>PyData.eqv e (.int n)))) else none)=_
 rw[Am4,show Ce (.int n)=true from rfl]
 have:((nL l).any λe=>PyData.eqv e (.int n))=decide (n∈l):=by
  rw[List.any_map]
  induction l with
  | nil=>rfl
  | cons a r ih =>
   rw[List.any_cons,ih]
   show (((a:Int)==(n:Int))||decide (n∈r))=_
   by_cases h:a=n
   ·subst h;simp
   ·have h':¬ (a:Int)=(n:Int):=by omega
    simp[h',Ne.symm h]
 rw[this];rfl
theorem Ae5 {a b:List Nat}(ha:a.length<=1000)(hb:b.length<=1000):Ci (.list (nL a)) (.list (nL b))=sFa (nL (a++b)):=by
 show (if (nL a).length+(nL b).length<=16000000 then some (O.ls false (nL a++nL b)) else none)=_
 rw[if_pos (by rw[List.length_map,List.length_map];omega)]
 show some (O.ls false (a.map _++b.map _))=some (O.ls false ((a++b).map _))
 rw[List.map_append]
theorem Ap2 {N:List Nat}{p:Nat->Bool}{fi:Ev->R (List PyData)}{ft:Ev->R Bool}{idx:List (Option Nat)}{c c1:Ev}{e:List (Option O)}(hi:fi c=.ok (nL N) c1)(hl:N.length<=1000)(hc:cIn idx c1=none::e)(hb:∀u,Gj (u::e) (pairsOf 0 idx) c1=some c1)
 (ht:∀k∈N,ft (sI (.int (k:Nat))::e)=.ok (p k) (sI (.int (k:Nat))::e)):cLC idx fi (cgN 0) ft (Ab 0) c=.ok (.o (.ls false (nL (N.filter p)))) c1:=by
 obtain⟨cI,eL,u,rfl⟩:=Ik (g:=cgN 0) (ft:=ft) (fe:=Ab 0) (I:=λc=>∃u,c=u::e) (f:=λk:Nat=>PyData.int k) (G:=λk=>if p k=true then some (PyData.int k) else none) (xs:=N) (acc:=[]) (c:=none::e) ⟨none,rfl⟩
  (λk c hk hI=>by
   obtain⟨u,rfl⟩:=hI
   refine⟨some (.im (.int k))::e,?_,_,rfl⟩
   have e1:=ht k hk
   cases hp:p k with
   | true =>
    rw[hp]at e1
    wp_walk using e1
   | false =>
    rw[hp]at e1
    wp_walk using e1)
 rw[V6,List.nil_append]at eL
 exact Ff (ds:=nL N) (c1:=c1) hi (by rw[List.length_map];omega) (by rw[hc];exact eL) (hb u)
section
variable {cols:List Str}{rows:List (List Vl)}{cs:List Cn}
abbrev hold (rows:List (List Vl))(i:Nat)(w:Str)(v:Vl)(k:Nat):Bool:=Gm w (Cg i (rows.getD k [])) v
theorem Ap0 (cs ds:List Cn):Bh rows (cs++ds)=(Bh rows cs).filter λk=>Uh (rows.getD k []) ds:=by
 unfold Bh;rw[List.filter_filter]
 refine List.filter_congr λk _=>?_
 unfold Uh;rw[List.all_append,Bool.and_comm]
theorem Al9 (cs:List Cn)(i:Nat)(x w:Str)(v:Vl):Bh rows (cs++[⟨i,x,w,v⟩])=(Bh rows cs).filter (hold rows i w v):=by
 rw[Ap0]
 refine List.filter_congr λk _=>?_
 unfold Uh;rw[List.all_cons,List.all_nil,Bool.and_true]
theorem A4z (cs:List Cn):(Bh rows cs).Pairwise (· < ·):=(List.pairwise_lt_range).sublist List.filter_sublist
theorem Z9 (p:Nat->Bool):∀l:List Nat,(l.filter p++l.filter λk=>!p k).Perm l
 | []=>.refl _
 | a::l=>by
  have ih:=Z9 p l;rw[List.filter_cons,List.filter_cons]
  cases h:p a with
  | true=>exact ih.cons a
  | false=>exact List.perm_middle.trans (ih.cons a)
theorem T3 (p q r:Nat->Bool)(h:∀k,(p k=true/\q k=false/\r k=false)\/(p k=false/\q k=true/\r k=false)\/(p k=false/\q k=false/\r k=true)):∀l:List Nat,(l.filter p++l.filter q++l.filter r).Perm l
 | []=>.refl _
 | a::l=>by
  have ih:=T3 p q r h l;rw[List.filter_cons,List.filter_cons,List.filter_cons]
  rcases h a with ⟨h1,h2,h3⟩ | ⟨h1,h2,h3⟩ | ⟨h1,h2,h3⟩
  ·rw[h1,h2,h3];exact ih.cons a
  ·rw[h1,h2,h3]
   show ((l.filter p++a::l.filter q)++l.filter r).Perm (a::l)
   rw[List.append_assoc]
   refine (List.perm_middle (l₁:=l.filter p) (l₂:=l.filter q++l.filter r)).trans ?_
   rw[<- List.append_assoc];exact ih.cons a
  ·rw[h1,h2,h3]
   exact List.perm_middle.trans (ih.cons a)
theorem three (a b:Vl):(vlt a b=true/\decide (a=b)=false/\vlt b a=false)\/(vlt a b=false/\decide (a=b)=true/\vlt b a=false)\/(vlt a b=false/\decide (a=b)=false/\vlt b a=true):=by
 rcases Sg a b with h | h | h
 ·refine .inl ⟨h,decide_eq_false λz=>?_,?_⟩
  ·rw[z,Gh]at h;cases h
  ·cases q:vlt b a with
   | false=>rfl
   | true=>have:=Ku h q;rw[Gh]at this;cases this
 ·subst h;exact .inr (.inl ⟨Gh a,by simp,Gh a⟩)
 ·refine .inr (.inr ⟨?_,decide_eq_false λz=>?_,h⟩)
  ·cases q:vlt a b with
   | false=>rfl
   | true=>have:=Ku h q;rw[Gh]at this;cases this
  ·rw[z,Gh]at h;cases h
theorem Rj {l every:List Nat}(h:l.Perm every)(hr:every.Pairwise (· < ·))(hl:every.length<64):M6 (.list (nL l))=sFa (nL every):=by
 obtain⟨out,o1,o2,e⟩:=Ax0 (l:=l) (by rw[h.length_eq];exact hl)
 rw[e,A3i (o1.trans h) o2 hr]
abbrev wI:Str:=Str.ofString "is"
abbrev wN:Str:=Str.ofString "not"
abbrev wB:Str:=Str.ofString "below"
abbrev wA:Str:=Str.ofString "above"
theorem Bo0 (a b c d:PyData):J0 [wI,wN,wB,wA] [a,b,c,d] wI=some a/\J0 [wI,wN,wB,wA] [a,b,c,d] wN=some b/\J0 [wI,wN,wB,wA] [a,b,c,d] wB=some c/\J0 [wI,wN,wB,wA] [a,b,c,d] wA=some d:=by
 have n1:¬ wI=wN:=by decide +kernel
 have n2:¬ wI=wB:=by decide +kernel
 have n3:¬ wN=wB:=by decide +kernel
 have n4:¬ wI=wA:=by decide +kernel
 have n5:¬ wN=wA:=by decide +kernel
 have n6:¬ wB=wA:=by decide +kernel
 unfold J0 J0 J0 J0
 refine⟨if_pos rfl,?_,?_,?_⟩
 ·rw[if_neg n1,if_pos rfl]
 ·rw[if_neg n2,if_neg n3,if_pos rfl]
 ·rw[if_neg n4,if_neg n5,if_neg n6,if_pos rfl]
abbrev pfv:Ev->R PV:=cF Ao (Ac (Ab 0) (Ac (cFz (cOp Ci (cUn Nz (Ab 3)) (Fo (Ac (G3 (Ac (Ab 1) (Ac (Ab 5) (Ac (Ab 2) Aq)))) Aq)))) Aq))
abbrev pev (D x v L:PyData) (s4 s5 s6 s7:Option O):Ev:=[sI D,sI x,sI v,sI L,s4,s5,s6,s7]
structure Nm (cols:List Str) (i:Nat) (x:Str) (v:Vl):Prop where
 nm:cols[i]?=some x
 vb:VB v
theorem Nm.cn {i:Nat}{x w:Str}{v:Vl}(h:Nm cols i x v)(hw:w∈words4):Cn.Ok cols ⟨i,x,w,v⟩:=⟨h.nm,hw,h.vb⟩
theorem Bt8 (h:AK cols rows cs)(hl:cs.length<=20){i:Nat}{x:Str}{v:Vl}(hx:Nm cols i x v){w:Str}(hw:w∈words4){s4 s6 s7:Option O}:pfv (pev (Az cols (rD rows)) (.str x) v.d (csD cs) s4 (sI (.str w)) s6 s7)=.ok (.o (.im (.list (nL ((Bh rows cs).filter (hold rows i w v)))))) (pev (Az cols (rD rows)) (.str x) v.d (csD cs) s4 (sI (.str w)) s6 s7):=by
 have e:=Cy (cs:=cs++[⟨i,x,w,v⟩]) h.t (λc hc=>by
  rcases List.mem_append.mp hc with hc | hc
  ·exact h.c c hc
  ·cases List.mem_singleton.mp hc;exact hx.cn hw) (by rw[List.length_append,List.length_singleton];omega)
 rw[Al9]at e;have e1:Nz (csD cs)=sFa (cs.map Cn.d):=rfl
 have e2:Ci (.list (cs.map Cn.d)) (.list [.tuple [.str x,.str w,v.d]])=sFa ((cs++[(⟨i,x,w,v⟩:Cn)]).map Cn.d):=by
  show (if (cs.map Cn.d).length+1<=16000000 then some (O.ls false (cs.map Cn.d++[.tuple [.str x,.str w,v.d]])) else none)=_
  rw[if_pos (by rw[List.length_map];omega),List.map_append];rfl
 generalize Az cols (rD rows)=D at *
 generalize csD cs=L at *
 generalize (cs++[(⟨i,x,w,v⟩:Cn)]).map Cn.d=M at *
 generalize cs.map Cn.d=N at *
 generalize nL ((Bh rows cs).filter (hold rows i w v))=Z at *
 generalize v.d=V at *
 wp_walk using pfv,pev,e1,e2,e
theorem Aq3 (h:AK cols rows cs)(hl:cs.length<=20){i:Nat}{x:Str}{v:Vl}(hx:Nm cols i x v){w:Str}(hw:w∈words4){s4 s5 s6 s7:Option O}{ss:List Str}{ds:List PyData}(hs:w∉ss)(hn:ss.length<=10) :
 Nq 5 pfv (.str w) (pev (Az cols (rD rows)) (.str x) v.d (csD cs) s4 s5 s6 s7,ss,ds)=some (pev (Az cols (rD rows)) (.str x) v.d (csD cs) s4 (sI (.str w)) s6 s7,ss++[w],ds++[.list (nL ((Bh rows cs).filter (hold rows i w v)))]):=by
 have e:=Bt8 h hl hx hw (s4:=s4) (s6:=s6) (s7:=s7)
 generalize Az cols (rD rows)=D at *
 generalize nL ((Bh rows cs).filter (hold rows i w v))=Z at *
 generalize pfv=F at *
 have e2:((cgN 5 (.o (.im (.str w))) (pev D (.str x) v.d (csD cs) s4 s5 s6 s7)).bind λ_ c=>(F c).bind λq c=>frz (nrm q) c)=.ok (.list Z) (pev D (.str x) v.d (csD cs) s4 (sI (.str w)) s6 s7):=by
  show ((F (pev D (.str x) v.d (csD cs) s4 (sI (.str w)) s6 s7)).bind λq c=>frz (nrm q) c)=_
  rw[e];rfl
 unfold Nq;simp only[e2]
 rw[if_pos ⟨hs,by omega⟩]
theorem A1q (h:AK cols rows cs)(hl:cs.length<=20){i:Nat}{x:Str}{v:Vl}(hx:Nm cols i x v) :
 Ey [.im (Az cols (rD rows)),.im (.str x),.im v.d,.im (csD cs)]=.ret (.im (.bool true)) [.im (Az cols (rD rows)),.im (.str x),.im v.d,.im (csD cs)]:=by
 have wi:wI∈words4:=.head _;have wn:wN∈words4:=.tail _ (.head _);have wb:wB∈words4:=.tail _ (.tail _ (.head _));have wa:wA∈words4:=.tail _ (.tail _ (.tail _ (.head _)))
 have n1:wN∉[wI]:=by decide +kernel
 have n2:wB∉[wI,wN]:=by decide +kernel
 have n3:wA∉[wI,wN,wB]:=by decide +kernel
 have k1:=λs4 s5 s6 s7=>Aq3 h hl hx wi (s4:=s4) (s5:=s5) (s6:=s6) (s7:=s7) (ss:=[]) (ds:=[]) (λz=>nomatch z) (by decide)
 have k2:=λs4 s5 s6 s7 ds=>Aq3 h hl hx wn (s4:=s4) (s5:=s5) (s6:=s6) (s7:=s7) (ss:=[wI]) (ds:=ds) n1 (by decide)
 have k3:=λs4 s5 s6 s7 ds=>Aq3 h hl hx wb (s4:=s4) (s5:=s5) (s6:=s6) (s7:=s7) (ss:=[wI,wN]) (ds:=ds) n2 (by decide)
 have k4:=λs4 s5 s6 s7 ds=>Aq3 h hl hx wa (s4:=s4) (s5:=s5) (s6:=s6) (s7:=s7) (ss:=[wI,wN,wB]) (ds:=ds) n3 (by decide)
 have er:=Cy h.t h.c (Nat.le_trans h.l (by decide))
 have eo:=Cy (cs:=[⟨i,x,wI,v⟩]) h.t (λc hc=>by cases List.mem_singleton.mp hc;exact hx.cn wi) (show (1:Nat)<=100 by decide)
 have il:=Mw rows cs;have h24:=h.t.rlen;have ri:=A4z (rows:=rows) cs
 have fl:=λp:Nat->Bool=>List.length_filter_le p (Bh rows cs)
 have hw4:=λk=>An8 (Cg i (rows.getD k [])) v
 have p2:((Bh rows cs).filter (hold rows i wI v)++(Bh rows cs).filter (hold rows i wN v)).Perm (Bh rows cs):=by
  have e:(hold rows i wN v)=λk=>!hold rows i wI v k:=funext λk=>by show Gm wN _ _=!Gm wI _ _;rw[(hw4 k).2.1,(hw4 k).1]
  rw[e];exact Z9 _ _
 have p3:((Bh rows cs).filter (hold rows i wB v)++(Bh rows cs).filter (hold rows i wI v)++(Bh rows cs).filter (hold rows i wA v)).Perm (Bh rows cs):=T3 _ _ _ (λk=>by
  show (Gm wB _ _=true/\Gm wI _ _=false/\Gm wA _ _=false)\/(Gm wB _ _=false/\Gm wI _ _=true/\Gm wA _ _=false)\/(Gm wB _ _=false/\Gm wI _ _=false/\Gm wA _ _=true)
  rw[(hw4 k).1,(hw4 k).2.2.1,(hw4 k).2.2.2]
  exact three _ _) _
 have s2:=Rj p2 ri (by omega)
 have s3:=Rj p3 ri (by omega)
 have q2:=Ae5 (a:=(Bh rows cs).filter (hold rows i wI v)) (b:=(Bh rows cs).filter (hold rows i wN v)) (Nat.le_trans (fl _) (by omega)) (Nat.le_trans (fl _) (by omega))
 have q3:=Ae5 (a:=(Bh rows cs).filter (hold rows i wB v)) (b:=(Bh rows cs).filter (hold rows i wI v)) (Nat.le_trans (fl _) (by omega)) (Nat.le_trans (fl _) (by omega))
 have q4:=Ae5 (a:=(Bh rows cs).filter (hold rows i wB v)++(Bh rows cs).filter (hold rows i wI v)) (b:=(Bh rows cs).filter (hold rows i wA v)) (by rw[List.length_append];have:=fl (hold rows i wB v);have:=fl (hold rows i wI v);omega) (Nat.le_trans (fl _) (by omega))
 obtain⟨l1,l2,l3,l4⟩:=Bo0 (.list (nL ((Bh rows cs).filter (hold rows i wI v)))) (.list (nL ((Bh rows cs).filter (hold rows i wN v)))) (.list (nL ((Bh rows cs).filter (hold rows i wB v)))) (.list (nL ((Bh rows cs).filter (hold rows i wA v))));have ee:=An4 (neg:=true) (Bh rows cs);have ef:=An4 (neg:=false) ((Bh rows cs).filter (hold rows i wI v))
 have elc:∀s4 s5:Option O,cLC [none,some 7] (Bj (Ab 6)) (cgN 0) (Bg (cOp (Ji false) (Ab 0) (Ab 1))) (Ab 0) (pev (Az cols (rD rows)) (.str x) v.d (csD cs) s4 s5 (sI (.list (nL (Bh rows cs)))) (sI (.list (nL (Bh rows [⟨i,x,wI,v⟩])))))=.ok (.o (.ls false (nL ((Bh rows cs).filter (hold rows i wI v))))) (pev (Az cols (rD rows)) (.str x) v.d (csD cs) s4 s5 (sI (.list (nL (Bh rows cs)))) (sI (.list (nL (Bh rows [⟨i,x,wI,v⟩]))))):=λs4 s5=>by
  refine Ap2 (N:=Bh rows cs) (p:=hold rows i wI v) (e:=[sI (.list (nL (Bh rows [⟨i,x,wI,v⟩])))]) (by wp_walk using pev,Bj,U.Hi) (by omega) rfl (λ_=>rfl) λk hk=>?_
  have ei:=Bb7 k (Bh rows [⟨i,x,wI,v⟩])
  have em:decide (k∈Bh rows [⟨i,x,wI,v⟩])=hold rows i wI v k:=by
   have:k∈Bh rows ([]++[⟨i,x,wI,v⟩])↔hold rows i wI v k=true:=by
    rw[Al9,List.mem_filter]
    exact⟨λz=>z.2,λz=>⟨List.mem_filter.mpr ⟨List.mem_range.mpr (Qc hk),rfl⟩,z⟩⟩
   cases hh:hold rows i wI v k with
   | true=>exact decide_eq_true (this.mpr hh)
   | false=>exact decide_eq_false λz=>by rw[this.mp z]at hh;cases hh
  rw[em]at ei
  generalize nL (Bh rows [⟨i,x,wI,v⟩])=Z at *
  wp_walk using ei
 have eo:Ao [.im (Az cols (rD rows)),.im (.list [.tuple [.str x,.str wI,v.d]])]=.ret (.im (.list (nL (Bh rows [⟨i,x,wI,v⟩])))) [.im (Az cols (rD rows)),.im (.list [.tuple [.str x,.str wI,v.d]])]:=eo
 have kl:K5 (Nq 5 pfv) [.str wI,.str wN,.str wB,.str wA] (pev (Az cols (rD rows)) (.str x) v.d (csD cs) none none none none,[],[])=some (pev (Az cols (rD rows)) (.str x) v.d (csD cs) none (sI (.str wA)) none none,[wI,wN,wB,wA],[.list (nL ((Bh rows cs).filter (hold rows i wI v))),.list (nL ((Bh rows cs).filter (hold rows i wN v))),.list (nL ((Bh rows cs).filter (hold rows i wB v))),.list (nL ((Bh rows cs).filter (hold rows i wA v)))]):=by
  unfold K5;simp only[k1];unfold K5;simp only[List.nil_append,k2];unfold K5;simp only[List.cons_append,List.nil_append,k3];unfold K5;simp only[List.cons_append,List.nil_append,k4]
  rfl
 refine M5 (p:=.o (.im (.bool true))) (c:=pev (Az cols (rD rows)) (.str x) v.d (csD cs) (some (.ty (.dc [wI,wN,wB,wA] [.list (nL ((Bh rows cs).filter (hold rows i wI v))),.list (nL ((Bh rows cs).filter (hold rows i wN v))),.list (nL ((Bh rows cs).filter (hold rows i wB v))),.list (nL ((Bh rows cs).filter (hold rows i wA v)))]))) (sI (.str wA)) (sI (.list (nL (Bh rows cs)))) (sI (.list (nL (Bh rows [⟨i,x,wI,v⟩]))))) ?_ rfl rfl
 show Hd (pev (Az cols (rD rows)) (.str x) v.d (csD cs) none none none none)=_
 unfold Hd Am3
 rw[if_pos ⟨show 4<8 by decide,show 5<8 by decide,by decide⟩]
 show (match K5 (Nq 5 pfv) [.str wI,.str wN,.str wB,.str wA] (pev (Az cols (rD rows)) (.str x) v.d (csD cs) none none none none,[],[]) with
  | some (c,ss,ds)=>_
  | none=>_)=_
 rw[kl]
 dsimp only
 generalize nL (Bh rows [⟨i,x,wI,v⟩])=Z1 at *
 generalize nL ((Bh rows cs).filter (hold rows i wI v)++(Bh rows cs).filter (hold rows i wN v))=A2 at *
 generalize nL ((Bh rows cs).filter (hold rows i wB v)++(Bh rows cs).filter (hold rows i wI v)++(Bh rows cs).filter (hold rows i wA v))=A3 at *
 generalize nL ((Bh rows cs).filter (hold rows i wB v)++(Bh rows cs).filter (hold rows i wI v))=A4 at *
 generalize nL ((Bh rows cs).filter (hold rows i wI v))=ZI at *
 generalize nL ((Bh rows cs).filter (hold rows i wN v))=ZN at *
 generalize nL ((Bh rows cs).filter (hold rows i wB v))=ZB at *
 generalize nL ((Bh rows cs).filter (hold rows i wA v))=ZA at *
 generalize nL (Bh rows cs)=Z at *
 generalize Az cols (rD rows)=D at *
 have elc:=elc (some (.ty (.dc [wI,wN,wB,wA] [.list ZI,.list ZN,.list ZB,.list ZA]))) (sI (.str wA))
 generalize hT:cLC [none,some 7] (Bj (Ab 6)) (cgN 0) (Bg (cOp (Ji false) (Ab 0) (Ab 1))) (Ab 0)=T at *
 wp_walk using pev,Rb,l1,l2,l3,l4,q2,q3,q4,s2,s3,ee,er,eo,elc,ef
end
theorem Zd : Bo neg (.int a) (.int b)=sI (.bool (if neg then !decide (a=b) else decide (a=b))):=by
 have e:PyData.eqv (.int a) (.int b)=decide (a=b):=by
  rfl
 unfold Bo
 rw[show Ce _=true from rfl,show Ce _=true from rfl,e]
 simp
theorem Ag3 {fi:Ev->R (List PyData)}{c c1:Ev}{xs:List Vl}(hi:fi c=.ok (xs.map Vl.d) c1)(hl:xs.length<=1000):cLC [none] fi (cgN 0) (Bg (cOp (Ib true) (Ab 0) (cC (.none)))) (Ab 0) c=.ok (.o (.ls false ((thr xs).map Vl.d))) c1:=by
 obtain⟨cI,e,u,rfl⟩:=Ik (g:=cgN 0) (ft:=Bg (cOp (Ib true) (Ab 0) (cC (.none)))) (fe:=Ab 0) (I:=λc=>∃t,c=[t]) (f:=Vl.d) (G:=λv=>if isN v=true then none else some v.d) (xs:=xs) (acc:=[]) (c:=[none]) ⟨none,rfl⟩
  (λv c hv hc=>by
   obtain⟨t,rfl⟩:=hc
   refine⟨[sI v.d],?_,_,rfl⟩
   cases v with
   | non=>wp_walk using Vl.d,Ib,isN
   | int i=>wp_walk using Vl.d,Ib,isN
   | str x=>wp_walk using Vl.d,Ib,isN)
 rw[Aq1,List.nil_append]at e
 exact Ff (ds:=xs.map Vl.d) (c1:=c1) hi (by rw[List.length_map];omega) e rfl
def enF:Nat->List Vl->List PyData
 | _,[]=>[]
 | n,v::r=>.tuple [.int n,v.d]::enF (n+1) r
theorem Al2:∀(n:Nat) (l:List Vl) (i:Nat),(enF n l)[i]?=l[i]?.map λv=>PyData.tuple [.int ((n+i:Nat):Int),v.d]
 | n,[],i=>by simp[enF]
 | n,v::r,0=>rfl
 | n,v::r,i+1=>by
  rw[enF,List.getElem?_cons_succ,List.getElem?_cons_succ,Al2 (n+1) r i,show n+1+i=n+(i+1) by omega]
theorem A5b (l:List Vl):Ot (l.map Vl.d)=enF 0 l:=by
 apply List.ext_getElem?;intro i;rw[Al2,Nat.zero_add];unfold Ot;rw[List.getElem?_map,List.length_map]
 rcases Nat.lt_or_ge i l.length with h | h
 ·rw[List.getElem?_range h,List.getElem?_eq_getElem h]
  simp[h]
 ·rw[List.getElem?_eq_none (by rw[List.length_range];exact h),List.getElem?_eq_none h];rfl
theorem Ao9:∀(n:Nat) (l:List Vl),(enF n l).length=l.length
 | _,[]=>rfl
 | n,v::r=>by rw[enF,List.length_cons,Ao9 (n+1) r,List.length_cons]
abbrev ddT:Ev->R Bool:=cOr (Bg (cOp (Bo false) (Ab 0) (cC (.int 0)))) (Bg (cOp (Bo true) (Ab 1) (cOp Ai (Ab 2) (cOp Ox (Ab 0) (cC (.int 1))))))
theorem Am0 {s:List Vl}(hs:VBs s):∀(rest pre:List Vl) (acc:List PyData) (u v:Option O),s=pre++rest->∃u' v',Et (cgT 2 (El (cgN 0) (El (cgN 1) K4))) ddT (Ab 1) (enF pre.length rest) acc [u,v,sI (.list (s.map Vl.d))]=.ok (acc++(ddO pre.getLast? rest).map Vl.d) [u',v',sI (.list (s.map Vl.d))]
 | [],pre,acc,u,v,_=>⟨u,v,by rw[enF,ddO,List.map_nil,List.append_nil];rfl⟩
 | x::r,pre,acc,u,v,e=>by
  have hx:VB x:=hs x (by rw[e];simp)
  obtain⟨u',v',ih⟩:=Am0 hs r (pre++[x]) (acc++((if pre.getLast?=some x then none else some x.d):Option PyData).toList) (sI (.int pre.length)) (sI x.d) (by rw[e];simp)
  refine⟨u',v',?_⟩
  rw[enF,Fp]
  have et:Pb (cgT 2 (El (cgN 0) (El (cgN 1) K4))) ddT (Ab 1) (.tuple [.int (pre.length:Nat),x.d]) [u,v,sI (.list (s.map Vl.d))]=.ok (if pre.getLast?=some x then none else some x.d) [sI (.int pre.length),sI x.d,sI (.list (s.map Vl.d))]:=by
   rcases List.eq_nil_or_concat pre with rfl | ⟨q,y,rfl⟩
   ·have t1:Bo false (.int ((0:Nat):Int)) (.int 0)=sI (.bool true):=rfl
    rw[if_neg (show ¬ ([]:List Vl).getLast?=some x by simp)]
    generalize s.map Vl.d=S at *
    generalize x.d=X at *
    wp_walk using ddT,t1
   ·rw[List.concat_eq_append]at e ⊢
    have hy:VB y:=hs y (by rw[e];simp)
    have t1:Bo false (.int ((q++[y]).length:Nat)) (.int 0)=sI (.bool false):=by
     rw[Zd,decide_eq_false (by simp;omega)];rfl
    have t2:(((q++[y]).length:Nat):Int)-1=(q.length:Nat):=by
     rw[List.length_append,List.length_singleton];omega
    have t3:Ai (.list (s.map Vl.d)) (.int (q.length:Nat))=sI y.d:=by
     show (atI (s.map Vl.d) ((q.length:Nat):Int)).map O.im=_
     rw[Fg (by rw[List.getElem?_map,e];simp;rfl)];rfl
    have t4:=A1u (neg:=true) hx hy
    have gl:(q++[y]).getLast?=some y:=by simp
    rw[gl]
    generalize ((q++[y]).length:Nat)=n at *
    by_cases z:x=y
    ·rw[decide_eq_true z]at t4
     rw[if_pos (by rw[z])]
     generalize s.map Vl.d=S at *
     generalize x.d=X at *
     wp_walk using ddT,t1,t2,t3,t4
    ·rw[decide_eq_false z]at t4
     rw[if_neg (λw=>z (Option.some.inj w).symm)]
     generalize s.map Vl.d=S at *
     generalize x.d=X at *
     wp_walk using ddT,t1,t2,t3,t4
  rw[et,R.bind_ok]
  have el:(pre++[x]).length=pre.length+1:=by simp
  rw[el]at ih;rw[ih]
  have gl:(pre++[x]).getLast?=some x:=by simp
  rw[gl,List.append_assoc]
  congr 2
  rw[ddO]
  by_cases z:pre.getLast?=some x
  ·rw[if_pos z,if_pos z];rfl
  ·rw[if_neg z,if_neg z];rfl
theorem Tw {vs:List Vl}(h:VBs vs)(hl:vs.length<=100):Ce (.list (vs.map Vl.d))=true:=(Good.lst (n:=0) (w:=1921) (k:=100) (λd hd=>by
 obtain⟨v,hv,rfl⟩:=List.mem_map.mp hd
 exact Ka (h v hv)) (by rw[List.length_map];exact hl)).flatB (by decide)
theorem At7 {rs:List (List Vl)}(h:∀r∈rs,r.length<=12/\VBs r)(hl:rs.length<=100):Ce (.list (rs.map tD))=true:=(Good.lst (n:=1) (w:=1923*12+4) (k:=100) (λd hd=>by
 obtain⟨r,hr,rfl⟩:=List.mem_map.mp hd
 exact Ar0 (h r hr).2 (h r hr).1) (by rw[List.length_map];exact hl)).flatB (by decide)
theorem Bk6 {vs:List Vl}(h:VBs vs)(hl:vs.length<=100):Bo true (.list (vs.map Vl.d)) (.list [])=sI (.bool (!decide (vs=[]))):=by
 rw[A9n (Tw h hl) rfl]
 cases vs with
 | nil=>rfl
 | cons v r=>rfl
theorem Ao8 {vs:List Vl}(hl:vs.length<=100):Ci (.list (vs.map Vl.d)) (.list [.none])=sFa ((vs++[Vl.non]).map Vl.d)/\Ci (.list [.none]) (.list (vs.map Vl.d))=sFa ((Vl.non::vs).map Vl.d):=by
 constructor
 ·show (if (vs.map Vl.d).length+1<=16000000 then some (O.ls false (vs.map Vl.d++[.none])) else none)=_
  rw[if_pos (by rw[List.length_map];omega),List.map_append];rfl
 ·show (if 1+(vs.map Vl.d).length<=16000000 then some (O.ls false ([.none]++vs.map Vl.d)) else none)=_
  rw[if_pos (by rw[List.length_map];omega)];rfl
theorem Ba9 (vs:List Vl):Ai (.list ((vs++[Vl.non]).map Vl.d)) (.int 0)=sI (lo vs).d:=by
 cases vs with
 | nil=>rfl
 | cons v r =>
  show (atI (v.d::(r++[Vl.non]).map Vl.d) 0).map O.im=_
  rw[A3o];rfl
theorem A5k (vs:List Vl):hi (Vl.non::vs)=hi vs:=by
 unfold hi;rw[List.length_cons,List.getD_eq_getElem?_getD,List.getD_eq_getElem?_getD,List.getElem?_cons_succ]
theorem Ba4 (vs:List Vl):Ai (.list ((Vl.non::vs).map Vl.d)) (.int (-1))=sI (hi vs).d:=by rw[Ap4 (by simp),A5k]
theorem A9w {vs:List Vl}(h:VBs vs):VB (lo vs):=by
 cases vs with
 | nil=>rfl
 | cons v r=>exact h v (.head _)
theorem Bb2 {vs:List Vl}(h:VBs vs):VB (hi vs):=by
 unfold hi;rw[List.getD_eq_getElem?_getD]
 cases e:(Vl.non::vs)[vs.length]? with
 | none=>rfl
 | some v =>
  rcases List.mem_cons.mp (List.mem_of_getElem? e) with rfl | q
  ·rfl
  ·exact h v q
theorem A6b:Bo true .none .none=sI (.bool false):=rfl
theorem Br5 (n:Nat):Bo true (.int n) (.int n)=sI (.bool false):=by rw[Zd];simp
section
variable {cols:List Str}{rows:List (List Vl)}{cs:List Cn}
abbrev vev (D x L:PyData) (s3 s4 s5 s6 s7 s8 s9 s10:Option O):Ev:=[sI D,sI x,sI L,s3,s4,s5,s6,s7,s8,s9,s10]
theorem Bi2 (h:AK cols rows cs){i:Nat}{x:Str}(hx:cols[i]?=some x){s4 s5 s6 s7 s8 s9 s10:Option O}{L:PyData} :
 cLC [none,some 0,some 1] (Bj (Ab 3)) (cgN 0) By (cOp Ai (cF Di (Ac (Ab 1) (Ac (Ab 2) Aq))) (Ab 0)) (vev (Az cols (rD rows)) (.str x) L (sI (.list (nL (Bh rows cs)))) s4 s5 s6 s7 s8 s9 s10)=.ok (.o (.ls false ((Ca rows cs i).map Vl.d))) (vev (Az cols (rD rows)) (.str x) L (sI (.list (nL (Bh rows cs)))) s4 s5 s6 s7 s8 s9 s10):=by
 have ec:Di [.im (Az cols (rD rows)),.im (.str x)]=.ret (.im (.list ((rows.map (Cg i)).map Vl.d))) [.im (Az cols (rD rows)),.im (.str x)]:=Ng (b:=true) h.t.ck hx h.t.rws (Nat.le_trans h.t.rlen (by decide))
 have il:=Mw rows cs;have h24:=h.t.rlen
 obtain⟨cI,e,u,rfl⟩:=Fb (g:=cgN 0) (ft:=By) (fe:=cOp Ai (cF Di (Ac (Ab 1) (Ac (Ab 2) Aq))) (Ab 0)) (I:=λc=>∃u,c=[u,sI (Az cols (rD rows)),sI (.str x)]) (f:=λk:Nat=>PyData.int k) (G:=λk=>(Cg i (rows.getD k [])).d) (xs:=Bh rows cs) (acc:=[]) (c:=[none,sI (Az cols (rD rows)),sI (.str x)]) ⟨none,rfl⟩
  (λk c hk hI=>by
   obtain⟨u,rfl⟩:=hI;have hk:=Qc hk
   have ea:Ai (.list ((rows.map (Cg i)).map Vl.d)) (.int (k:Int))=sI (Cg i (rows.getD k [])).d:=by
    show (atI ((rows.map (Cg i)).map Vl.d) (k:Int)).map O.im=_
    rw[Fg (by rw[List.getElem?_map,List.getElem?_map,List.getElem?_eq_getElem hk];rfl),getD_at hk];rfl
   refine⟨[sI (.int k),sI (Az cols (rD rows)),sI (.str x)],?_,_,rfl⟩
   generalize Az cols (rD rows)=D at *
   wp_walk using ec,ea)
 have em:(Ca rows cs i).map Vl.d=(Bh rows cs).map λk=>(Cg i (rows.getD k [])).d:=by unfold Ca Gu;rw[List.map_map,List.map_map];rfl
 rw[em]
 exact Ff (ds:=nL (Bh rows cs)) (c1:=vev (Az cols (rD rows)) (.str x) L (sI (.list (nL (Bh rows cs)))) s4 s5 s6 s7 s8 s9 s10) (by wp_walk using vev,Bj,U.Hi) (by rw[List.length_map];omega) (by simpa[cIn,O.flag] using e) rfl
theorem Bo3 {s:List Vl}{D x L:PyData}{s3 s4 s5 s6 s7 s8 s9:Option O}(hs:VBs s)(hl:s.length<=1000):cLC [none,none,some 10] (Ul (Ab 10)) (cgT 2 (El (cgN 0) (El (cgN 1) K4))) ddT (Ab 1) (vev D x L s3 s4 s5 s6 s7 s8 s9 (sFa (s.map Vl.d)))=.ok (.o (.ls false ((ddO none s).map Vl.d))) (vev D x L s3 s4 s5 s6 s7 s8 s9 (sI (.list (s.map Vl.d)))):=by
 obtain⟨u,v,e⟩:=Am0 hs s [] [] none none rfl
 refine Ff (ds:=enF 0 s) (c1:=vev D x L s3 s4 s5 s6 s7 s8 s9 (sI (.list (s.map Vl.d)))) (cI:=[u,v,sI (.list (s.map Vl.d))]) ?_ (by rw[Ao9];omega) e rfl
 have en:=A5b s
 generalize s.map Vl.d=S at *
 wp_walk using vev,Ul,U.Hi,en
abbrev A6s:Ev->R PV:=cF Bs (Ac (Ab 1) (Ac (G3 (Ac (Ab 0) (Ac (Ab 2) (Ac (Ab 3) Aq)))) Aq))
theorem A7d {D:PyData}{x:Str}{cs:List Cn}{r1 r2 r3 r4:PyData}{s3 s4 s5 s6 s7 s8 s9 s10:Option O}(e1:Bs [.im D,.im (qW (Str.ofString "least") x cs)]=.ret (.im r1) [.im D,.im (qW (Str.ofString "least") x cs)]) (e2:Bs [.im D,.im (qW (Str.ofString "greatest") x cs)]=.ret (.im r2) [.im D,.im (qW (Str.ofString "greatest") x cs)])
 (e3:Bs [.im D,.im (qW (Str.ofString "first") x cs)]=.ret (.im r3) [.im D,.im (qW (Str.ofString "first") x cs)]) (e4:Bs [.im D,.im (qW (Str.ofString "last") x cs)]=.ret (.im r4) [.im D,.im (qW (Str.ofString "last") x cs)]) :
 cLC [none,some 0,some 1,some 2] (Bj (G3 (cK [.str "least",.str "greatest",.str "first",.str "last"]))) (cgN 0) By A6s (vev D (.str x) (csD cs) s3 s4 s5 s6 s7 s8 s9 s10)=.ok (.o (.ls false [r1,r2,r3,r4])) (vev D (.str x) (csD cs) s3 s4 s5 s6 s7 s8 s9 s10):=by
 have tw:∀(w:Str) (r:PyData) (u:Option O),Bs [.im D,.im (qW w x cs)]=.ret (.im r) [.im D,.im (qW w x cs)]->Pb (cgN 0) By A6s (.str w) [u,sI D,sI (.str x),sI (csD cs)]=.ok (some r) [sI (.str w),sI D,sI (.str x),sI (csD cs)]:=λw r u e=>by
  have e:Bs [.im D,.im (.tuple [.str w,.str x,csD cs])]=.ret (.im r) [.im D,.im (.tuple [.str w,.str x,csD cs])]:=e
  generalize csD cs=L at *
  wp_walk using A6s,e
 refine Ff (ds:=[.str "least",.str "greatest",.str "first",.str "last"]) (c1:=vev D (.str x) (csD cs) s3 s4 s5 s6 s7 s8 s9 s10) (cI:=[sI (.str "last"),sI D,sI (.str x),sI (csD cs)]) (by wp_walk using vev,Bj,U.Hi) (show (4:Nat)<=16000000 by decide) ?_ rfl
 show Et (cgN 0) By A6s [.str "least",.str "greatest",.str "first",.str "last"] [] [none,sI D,sI (.str x),sI (csD cs)]=_
 rw[Fp,tw _ _ _ e1,R.bind_ok,Fp,tw _ _ _ e2,R.bind_ok,Fp,tw _ _ _ e3,R.bind_ok,Fp,tw _ _ _ e4,R.bind_ok];rfl
theorem Bs6 {own out l2:List Vl}(h1:out.Pairwise VR)(h2:∀v,v∈out↔v∈own)(h3:l2.Pairwise λa b=>vlt b a=false)(h4:∀v,v∈l2↔v∈own):ddO none (thr l2)=thr out:=by
 refine Uo (R:=VR) A6g (An9 (h3.sublist List.filter_sublist) λa e=>by cases e).1 (h1.sublist List.filter_sublist) λx=>?_
 have a:x∈ddO none (thr l2)↔x∈thr l2:=⟨Ai9,λq=>(Ah9 (p:=none) q).resolve_left λz=>by cases z⟩
 rw[a];unfold thr;rw[List.mem_filter,List.mem_filter,h4,h2]
theorem At0 (h:AK cols rows cs){i:Nat}{x:Str}(hx:cols[i]?=some x):Ep [.im (Az cols (rD rows)),.im (.str x),.im (csD cs)]=.ret (.im (.bool true)) [.im (Az cols (rD rows)),.im (.str x),.im (csD cs)]:=by
 have h24:=h.t.rlen;have il:=Mw rows cs;obtain⟨out,o1,o2,o3,ea⟩:=Ah4 h hx;have ob:=A1m h hx;have ol:=Ar7 h i
 have outb:VBs out:=λv hv=>ob v ((o2 v).mp hv)
 have thb:VBs (thr out):=λv hv=>outb v (List.mem_filter.mp hv).1
 have tl:(thr out).length<=24:=Nat.le_trans Wr o3;have tp:(thr out).Pairwise VR:=o1.sublist List.filter_sublist
 have tm:∀v,v∈thr out↔v∈thr (Ca rows cs i):=λv=>by unfold thr;rw[List.mem_filter,List.mem_filter,o2]
 have en:Ca rows cs i=[]->thr out=[]:=λz=>by
  cases e:thr out with
  | nil=>rfl
  | cons a r =>
   have:=(tm a).mp (by rw[e];exact .head _)
   rw[z]at this;cases this
 have er:Ao [.im (Az cols (rD rows)),.im (csD cs)]=.ret (.im (.list (nL (Bh rows cs)))) [.im (Az cols (rD rows)),.im (csD cs)]:=Cy h.t h.c (Nat.le_trans h.l (by decide))
 have eR:=Ad3 h
 have q8:∀s:String,(qw8.contains (Str.ofString s))=true->Str.ofString s∈qw8:=λs z=>List.contains_iff_mem.mp z
 have aU:=Hg h hx (s := "unlike") (r:=.int (thr out).length) (q8 _ (by decide +kernel)) (by decide +kernel) λ_=>Ah7 (Nat.le_trans ol (by decide)) tp tm
 have aL:=Hg h hx (s := "least") (r:=(lo (thr out)).d) (q8 _ (by decide +kernel)) (by decide +kernel) λ_=>A0s false (Nat.le_trans ol (by decide)) ob tp tm
 have aG:=Hg h hx (s := "greatest") (r:=(hi (thr out)).d) (q8 _ (by decide +kernel)) (by decide +kernel) λ_=>A0s true (Nat.le_trans ol (by decide)) ob tp tm
 have aF:=Hg h hx (s := "first") (r:=(lo (Ca rows cs i)).d) (q8 _ (by decide +kernel)) (by decide +kernel) λz=>Aw1 z
 have aE:=Hg h hx (s := "last") (r:=(hi (Ca rows cs i)).d) (q8 _ (by decide +kernel)) (by decide +kernel) λz=>A2z z
 have aC:=Hg h hx (s := "count") (r:=.int (thr (Ca rows cs i)).length) (q8 _ (by decide +kernel)) (by decide +kernel) λ_=>Ax9 (Nat.le_trans ol (by decide))
 have sL:(if Ca rows cs i=[] then PyData.none else (lo (thr out)).d)=(lo (thr out)).d:=by
  by_cases z:Ca rows cs i=[]
  ·rw[if_pos z,en z];rfl
  ·rw[if_neg z]
 have sG:(if Ca rows cs i=[] then PyData.none else (hi (thr out)).d)=(hi (thr out)).d:=by
  by_cases z:Ca rows cs i=[]
  ·rw[if_pos z,en z];rfl
  ·rw[if_neg z]
 have sF:(if Ca rows cs i=[] then PyData.none else (lo (Ca rows cs i)).d)=(lo (Ca rows cs i)).d:=by
  by_cases z:Ca rows cs i=[]
  ·rw[if_pos z,z];rfl
  ·rw[if_neg z]
 have sE:(if Ca rows cs i=[] then PyData.none else (hi (Ca rows cs i)).d)=(hi (Ca rows cs i)).d:=by
  by_cases z:Ca rows cs i=[]
  ·rw[if_pos z,z];rfl
  ·rw[if_neg z]
 rw[sL]at aL;rw[sG]at aG;rw[sF]at aF;rw[sE]at aE;obtain⟨so,p1,p2,eS⟩:=Ay3 h.t.ck hx h.rws h.small
 have sor:∀r∈so,r.length=cols.length/\VBs r:=λr hr=>h.rws r (p1.mem_iff.mp hr)
 have sol:so.length<=24:=by rw[p1.length_eq];exact h.small
 have eC:Di [.im (Az cols (rD so)),.im (.str x)]=.ret (.im (.list ((so.map (Cg i)).map Vl.d))) [.im (Az cols (rD so)),.im (.str x)]:=Ng (b:=true) h.t.ck hx sor (by omega)
 have sob:VBs (so.map (Cg i)):=λv hv=>by
  obtain⟨r,hr,rfl⟩:=List.mem_map.mp hv;exact(Lr (List.getElem?_eq_some_iff.mp hx).1 (sor r hr).1 (sor r hr).2).2
 have edd:ddO none (thr (so.map (Cg i)))=thr out:=Bs6 o1 o2 (by rw[List.pairwise_map];exact p2) λv=>(p1.map (Cg i)).mem_iff
 have fr:=S5 (neg:=true) (At7 (rs:=Gu rows cs) (λr hr=>⟨by rw[(h.rws r hr).1];exact h.t.clen,(h.rws r hr).2⟩) (Nat.le_trans h.small (by decide)))
 have ft:=S5 (neg:=false) (Tw thb (Nat.le_trans tl (by decide)))
 have fe:=S5 (neg:=true) (Tw (vs:=[lo (thr out),hi (thr out),lo (Ca rows cs i),hi (Ca rows cs i)]) (λv hv=>by
  simp only[List.mem_cons,List.not_mem_nil,or_false]at hv
  rcases hv with rfl | rfl | rfl | rfl
  ·exact A9w thb
  ·exact Bb2 thb
  ·exact A9w ob
  ·exact Bb2 ob) (show (4:Nat)<=100 by decide))
 have fe:Bo true (.list [(lo (thr out)).d,(hi (thr out)).d,(lo (Ca rows cs i)).d,(hi (Ca rows cs i)).d]) (.list [(lo (thr out)).d,(hi (thr out)).d,(lo (Ca rows cs i)).d,(hi (Ca rows cs i)).d])=sI (.bool false):=fe
 have nn:=Bk6 ob (Nat.le_trans ol (by decide))
 obtain⟨a1,a2⟩:=Ao8 (vs:=thr out) (Nat.le_trans tl (by decide))
 obtain⟨a3,a4⟩:=Ao8 (vs:=Ca rows cs i) (Nat.le_trans ol (by decide))
 have x1:=Ba9 (thr out);have x2:=Ba4 (thr out);have x3:=Ba9 (Ca rows cs i);have x4:=Ba4 (Ca rows cs i)
 have l7:Hc [.list ((thr out).map Vl.d)]=sI (.int (thr out).length):=by show some (O.im (.int (((thr out).map Vl.d).length:Nat)))=_;rw[List.length_map]
 have l5:Hc [.list ((thr (Ca rows cs i)).map Vl.d)]=sI (.int (thr (Ca rows cs i)).length):=by show some (O.im (.int (((thr (Ca rows cs i)).map Vl.d).length:Nat)))=_;rw[List.length_map]
 have c3:=λs4 s5 s6 s7 s8 s9 s10=>Ar6 (rows:=rows) (N:=Bh rows cs) (fi:=Bj (Ab 3)) (j:=0) (c:=vev (Az cols (rD rows)) (.str x) (csD cs) (sI (.list (nL (Bh rows cs)))) s4 s5 s6 s7 s8 s9 s10) (tb1 cols (rD rows)) (λk hk=>Qc hk) (by omega) (by wp_walk using vev,Bj,U.Hi) rfl λ_=>rfl
 have c4:=λs4 s5 s6 s7 s8 s9 s10=>Bi2 h hx (s4:=s4) (s5:=s5) (s6:=s6) (s7:=s7) (s8:=s8) (s9:=s9) (s10:=s10) (L:=csD cs)
 have c8:=λs4 s5 s6 s7 s8 s9 s10=>A7d (D:=Az cols (rD rows)) (x:=x) (cs:=cs) (s3:=sI (.list (nL (Bh rows cs)))) (s4:=s4) (s5:=s5) (s6:=s6) (s7:=s7) (s8:=s8) (s9:=s9) (s10:=s10) aL aG aF aE
 have tD0:=tb0 cols (rD rows);have eT:PyData.tuple [.tuple (cols.map PyData.str),.tuple ((Gu rows cs).map tD)]=Az cols (rD (Gu rows cs)):=rfl;have eU:Em (.list ((Gu rows cs).map tD))=sI (.tuple ((Gu rows cs).map tD)):=rfl;have aU:Bs [.im (Az cols (rD rows)),.im (.tuple [.str "unlike",.str x,csD cs])]=_:=aU;have aC:Bs [.im (Az cols (rD rows)),.im (.tuple [.str "count",.str x,csD cs])]=_:=aC;have ea:Bs [.im (Az cols (rD rows)),.im (.tuple [.str "all",.str x,csD cs])]=_:=ea;have eR:Bs [.im (Az cols (rD rows)),.im (.tuple [.str "rows",csD cs])]=_:=eR;have c3:∀s4 s5 s6 s7 s8 s9 s10,cLC [none,some 0] (Bj (Ab 3)) (cgN 0) By (cOp Ai (cOp Ai (Ab 1) (cC (.int 1))) (Ab 0)) (vev (Az cols (rD rows)) (.str x) (csD cs) (sI (.list (nL (Bh rows cs)))) s4 s5 s6 s7 s8 s9 s10)=.ok (.o (.ls false ((Gu rows cs).map tD))) (vev (Az cols (rD rows)) (.str x) (csD cs) (sI (.list (nL (Bh rows cs)))) s4 s5 s6 s7 s8 s9 s10):=c3
 have sobl:(so.map (Cg i)).length<=1000:=by rw[List.length_map];omega
 have dd:=λs3 s4 s5 s6 s7 s8 s9=>Bo3 (s:=thr (so.map (Cg i))) (D:=Az cols (rD rows)) (x:=.str x) (L:=csD cs) (s3:=s3) (s4:=s4) (s5:=s5) (s6:=s6) (s7:=s7) (s8:=s8) (s9:=s9) (λv hv=>sob v (List.mem_filter.mp hv).1) (Nat.le_trans Wr sobl)
 rw[edd]at dd
 have t6:=λs3 s4 s5 s7 s8 s9 s10=>Ag3 (fi:=Bj (Ab 6)) (c:=vev (Az cols (rD rows)) (.str x) (csD cs) s3 s4 s5 (sI (.list (out.map Vl.d))) s7 s8 s9 s10) (c1:=vev (Az cols (rD rows)) (.str x) (csD cs) s3 s4 s5 (sI (.list (out.map Vl.d))) s7 s8 s9 s10) (xs:=out) (by wp_walk using vev,Bj,U.Hi) (by omega)
 have t5:=λs3 s4 s6 s7 s8 s9 s10=>Ag3 (fi:=Bj (Ab 5)) (c:=vev (Az cols (rD rows)) (.str x) (csD cs) s3 s4 (sFa ((Ca rows cs i).map Vl.d)) s6 s7 s8 s9 s10) (c1:=vev (Az cols (rD rows)) (.str x) (csD cs) s3 s4 (sI (.list ((Ca rows cs i).map Vl.d))) s6 s7 s8 s9 s10) (xs:=Ca rows cs i) (by wp_walk using vev,Bj,U.Hi) (by omega)
 have t10:=λs3 s4 s5 s6 s7 s8 s9=>Ag3 (fi:=Bj (Ab 10)) (c:=vev (Az cols (rD rows)) (.str x) (csD cs) s3 s4 s5 s6 s7 s8 s9 (sI (.list ((so.map (Cg i)).map Vl.d)))) (c1:=vev (Az cols (rD rows)) (.str x) (csD cs) s3 s4 s5 s6 s7 s8 s9 (sI (.list ((so.map (Cg i)).map Vl.d)))) (xs:=so.map (Cg i)) (by wp_walk using vev,Bj,U.Hi) sobl
 generalize hCU:(if Ca rows cs i=[] then PyData.none else PyData.int (thr out).length)=CU at *
 generalize hCC:(if Ca rows cs i=[] then PyData.none else PyData.int (thr (Ca rows cs i)).length)=CC at *
 have nnT:Ca rows cs i=[]->Bo true (.list ((Ca rows cs i).map Vl.d)) (.list [])=sI (.bool false):=λz=>by rw[nn,decide_eq_true z];rfl
 have nnF:Ca rows cs i≠[]->Bo true (.list ((Ca rows cs i).map Vl.d)) (.list [])=sI (.bool true):=λz=>by rw[nn,decide_eq_false z];rfl
 have cuT:Ca rows cs i=[]->CU=.none:=λz=>by rw[<- hCU,if_pos z]
 have cuF:Ca rows cs i≠[]->CU=.int (thr out).length:=λz=>by rw[<- hCU,if_neg z]
 have ccT:Ca rows cs i=[]->CC=.none:=λz=>by rw[<- hCC,if_pos z]
 have ccF:Ca rows cs i≠[]->CC=.int (thr (Ca rows cs i)).length:=λz=>by rw[<- hCC,if_neg z]
 have ii:=Br5 (thr out).length;have ij:=Br5 (thr (Ca rows cs i)).length;have i0:=A6b
 clear hCU hCC nn edd sob sor sol p1 p2 en tm tp thb outb ob o1 o2 o3 sL sG sF sE sobl
 have z:Ca rows cs i=[]\/Ca rows cs i≠[]:=Classical.em _
 generalize Az cols (rD (Gu rows cs))=GD at *
 generalize Az cols (rD so)=SD at *
 generalize Az cols (rD rows)=D at *
 generalize nL (Bh rows cs)=NL at *
 generalize (Gu rows cs).map tD=GL at *
 generalize (so.map (Cg i)).map Vl.d=SV at *
 generalize (thr (so.map (Cg i))).map Vl.d=ST at *
 generalize (thr out++[Vl.non]).map Vl.d=A1 at *
 generalize (Vl.non::thr out).map Vl.d=A2 at *
 generalize (Ca rows cs i++[Vl.non]).map Vl.d=A3 at *
 generalize (Vl.non::Ca rows cs i).map Vl.d=A4 at *
 generalize (lo (thr out)).d=L1 at *
 generalize (hi (thr out)).d=L2 at *
 generalize (lo (Ca rows cs i)).d=L3 at *
 generalize (hi (Ca rows cs i)).d=L4 at *
 generalize (thr (Ca rows cs i)).map Vl.d=TO at *
 generalize (thr (Ca rows cs i)).length=nO at *
 generalize (Ca rows cs i).map Vl.d=OW at *
 generalize (Ca rows cs i=[])=P at *
 generalize (thr out).map Vl.d=TH at *
 generalize (thr out).length=nT at *
 generalize out.map Vl.d=OU at *
 generalize cols.map PyData.str=CL at *
 suffices hs:∃WW:Option O,G4 (vev D (.str x) (csD cs) none none none none none none none none)=.rt (.o (.im (.bool true))) (vev D (.str x) (csD cs) (sI (.list NL)) (sI (.list GL)) WW (sI (.list OU)) (sFa TH) (sFa [L1,L2,L3,L4]) (sI CC) (sI (.list ST))) by
  obtain⟨WW,e⟩:=hs;exact M5 e rfl rfl
 generalize csD cs=L at *
 have cnt:∃w,(w=some (O.ls false OW)\/w=some (O.im (.list OW)))/\cIf (Bg (cOp (Bo true) (Ab 9) (Af3 (Bg (cOp (Bo true) (Ab 5) (Fo Aq))) (Ht (cLC [none] (Bj (Ab 5)) (cgN 0) (Bg (cOp (Ib true) (Ab 0) (cC (.none)))) (Ab 0))) (cC (.none))))) (Dc (cC (.bool false))) Cz (vev D (.str x) L (sI (.list NL)) (sI (.list GL)) (sFa OW) (sI (.list OU)) (sFa TH) (sFa [L1,L2,L3,L4]) (sI CC) none)=.nx (vev D (.str x) L (sI (.list NL)) (sI (.list GL)) w (sI (.list OU)) (sFa TH) (sFa [L1,L2,L3,L4]) (sI CC) none):=by
  rcases z with z | z
  ·have n1:=nnT z
   refine⟨_,.inl rfl,?_⟩
   rw[ccT z]
   wp_walk using vev,n1,i0
  ·have n1:=nnF z
   refine⟨_,.inr rfl,?_⟩
   rw[ccF z]
   wp_walk using vev,n1,t5,l5,ij
 obtain⟨w,hw,cnt⟩:=cnt
 refine⟨w,?_⟩
 unfold G4
 refine (Cd (c':=vev D (.str x) L (sI (.list NL)) none none none none none none none) (by wp_walk using vev,er)).trans ?_
 refine (Cd (c':=vev D (.str x) L (sI (.list NL)) (sI (.list GL)) none none none none none none) (by wp_walk using vev,eR)).trans ?_
 refine (Cd (c':=vev D (.str x) L (sI (.list NL)) (sI (.list GL)) none none none none none none) (by wp_walk using vev,c3,fr)).trans ?_
 refine (Cd (c':=vev D (.str x) L (sI (.list NL)) (sI (.list GL)) (sFa OW) none none none none none) (by wp_walk using vev,c4)).trans ?_
 refine (Cd (c':=vev D (.str x) L (sI (.list NL)) (sI (.list GL)) (sFa OW) (sI (.list OU)) none none none none) (by wp_walk using vev,ea)).trans ?_
 refine (Cd (c':=vev D (.str x) L (sI (.list NL)) (sI (.list GL)) (sFa OW) (sI (.list OU)) (sFa TH) none none none) (by wp_walk using vev,t6)).trans ?_
 refine (Cd (c':=vev D (.str x) L (sI (.list NL)) (sI (.list GL)) (sFa OW) (sI (.list OU)) (sFa TH) none none none) (by
  rcases z with z | z
  ·have n1:=nnT z
   rw[cuT z]at aU
   wp_walk using vev,aU,n1,i0
  ·have n1:=nnF z
   rw[cuF z]at aU
   wp_walk using vev,aU,n1,l7,ii)).trans ?_
 refine (Cd (c':=vev D (.str x) L (sI (.list NL)) (sI (.list GL)) (sFa OW) (sI (.list OU)) (sFa TH) (sFa [L1,L2,L3,L4]) none none) (by wp_walk using vev,c8)).trans ?_
 refine (Cd (c':=vev D (.str x) L (sI (.list NL)) (sI (.list GL)) (sFa OW) (sI (.list OU)) (sFa TH) (sFa [L1,L2,L3,L4]) none none) (by wp_walk using vev,a1,a2,a3,a4,x1,x2,x3,x4,J4,fe)).trans ?_
 refine (Cd (c':=vev D (.str x) L (sI (.list NL)) (sI (.list GL)) (sFa OW) (sI (.list OU)) (sFa TH) (sFa [L1,L2,L3,L4]) (sI CC) none) (by wp_walk using vev,aC)).trans ?_
 rw[Cd cnt]
 refine (Cd (c':=vev D (.str x) L (sI (.list NL)) (sI (.list GL)) w (sI (.list OU)) (sFa TH) (sFa [L1,L2,L3,L4]) (sI CC) (sI (.list SV))) (by wp_walk using vev,tD0,eU,eT,eS,eC)).trans ?_
 refine (Cd (c':=vev D (.str x) L (sI (.list NL)) (sI (.list GL)) w (sI (.list OU)) (sFa TH) (sFa [L1,L2,L3,L4]) (sI CC) (sFa ST)) (by wp_walk using vev,t10)).trans ?_
 wp_walk using vev,dd,ft
end
theorem Br8 {t:Tb}(h:Tb.Ok t):TK t.cols t.rows:=⟨h.nms.nd,h.nms.sub,h.clen,h.rlen,h.rows⟩
theorem Ac1 {rows:List (List Vl)}(a b:List Cn):Bh rows (a++b)=(Bh rows a).filter λk=>decide (k∈Bh rows b):=by
 rw[Ap0]
 refine List.filter_congr λk hk=>?_
 have:k∈Bh rows b↔Uh (rows.getD k []) b=true:=by
  unfold Bh;rw[List.mem_filter]
  exact⟨λz=>z.2,λz=>⟨List.mem_range.mpr (Qc hk),z⟩⟩
 cases e:Uh (rows.getD k []) b with
 | true=>exact(decide_eq_true (this.mpr e)).symm
 | false=>exact(decide_eq_false λz=>by rw[this.mp z]at e;cases e).symm
theorem A3l {rows:List (List Vl)}(a b:List Cn):Bh rows (b++a)=Bh rows (a++b):=by
 unfold Bh
 refine List.filter_congr λk _=>?_
 unfold Uh;rw[List.all_append,List.all_append,Bool.and_comm]
theorem Ax7 {rows:List (List Vl)}{i:Nat}{x:Str}{v:Vl}:Bh (rows.map λr=>[Cg i r]) [⟨0,x,wI,v⟩]=Bh rows [⟨i,x,wI,v⟩]:=by
 unfold Bh;rw[List.length_map]
 refine List.filter_congr λk hk=>?_
 have hk:=List.mem_range.mp hk
 have e:(rows.map λr=>[Cg i r]).getD k []=[Cg i (rows.getD k [])]:=by
  rw[getD_at (by rw[List.length_map];exact hk),getD_at hk,List.getElem_map]
 rw[e];rfl
abbrev lev (s0 s1:Option O) (ds:List PyData) (D:PyData) (s4 s5 s6 s7 s8 s9 s10:Option O):Ev:=[s0,s1,sFa ds,sI D,s4,s5,s6,s7,s8,s9,s10]
theorem A3w {a b:List Cn}(ha:a.length<=100)(hb:b.length<=100):Ci (.list (a.map Cn.d)) (.list (b.map Cn.d))=sFa ((a++b).map Cn.d):=by
 show (if (a.map Cn.d).length+(b.map Cn.d).length<=16000000 then some (O.ls false (a.map Cn.d++b.map Cn.d)) else none)=_
 rw[if_pos (by rw[List.length_map,List.length_map];omega),List.map_append]
theorem A7m {t:Tb}{i:Nat}{x:Str}(ht:Tb.Ok t)(hx:t.cols[i]?=some x){v:Vl}(hv:VB v):VBs (t.rows.map (Cg i)++[v]):=λw hw=>by
 rcases List.mem_append.mp hw with q | q
 ·obtain⟨r,hr,rfl⟩:=List.mem_map.mp q
  have hh:=ht.rows r hr;exact(Lr (List.getElem?_eq_some_iff.mp hx).1 hh.1 hh.2).2
 ·cases List.mem_singleton.mp q;exact hv
theorem A7a {n:Nat}{ds:List PyData}{t:Tb}{s0 s1 s4 s5 s6 s7 s8 s9 s10:Option O}(hb:Bx n ds)(hn:n<2 ^ 33)(ht:Tb.Ok t) :
 ∃d1 u5 u6 u7 u8 u9 u10,Bx (n+60) d1/\Ma (lev s0 s1 ds t.d s4 s5 s6 s7 s8 s9 s10)=.nx (lev s0 s1 d1 t.d s4 u5 u6 u7 u8 u9 u10):=by
 have tk:=Br8 ht;have h24:=ht.rlen;have h12:=ht.clen;have h2:=ht.cpos
 obtain⟨one,d1,o1,o2,b1,e1⟩:=Np ht hb (by omega)
 obtain⟨oth,d2,p1,p2,b2,e2⟩:=Np ht b1 (by omega)
 obtain⟨a,d3,b3,a0,a1,e3⟩:=Ek (m:=(t.cols.length:Int)) b2 (by omega) (by omega) (by omega)
 obtain⟨i,rfl⟩:=Int.eq_ofNat_of_zero_le a0
 have hi:i<t.cols.length:=by omega
 have hx:t.cols[i]?=some t.cols[i]:=List.getElem?_eq_getElem hi
 generalize t.cols[i]=x at *
 obtain⟨v0,d4,b4,vv,e4⟩:=Ua b3 (by omega)
 obtain⟨q,d5,b5,q0,q1,e5⟩:=Ek (m:=((t.rows.length:Int)+1)) b4 (by omega) (by omega) (by omega)
 obtain⟨j,rfl⟩:=Int.eq_ofNat_of_zero_le q0;have vb:=A7m ht hx vv
 have hj:j<(t.rows.map (Cg i)++[v0]).length:=by rw[List.length_append,List.length_map,List.length_singleton];omega
 have evx:Ai (.list ((t.rows.map (Cg i)++[v0]).map Vl.d)) (.int (j:Nat))=sI ((t.rows.map (Cg i)++[v0])[j]).d:=by
  show (atI ((t.rows.map (Cg i)++[v0]).map Vl.d) (j:Int)).map O.im=_
  rw[Fg (by rw[List.getElem?_map,List.getElem?_eq_getElem hj];rfl)];rfl
 have hv:=vb _ (List.getElem_mem hj)
 generalize (t.rows.map (Cg i)++[v0])[j]=v at *
 have nx:Nm t.cols i x v:=⟨hx,hv⟩
 have K1:AK t.cols t.rows one:=⟨tk,o1,by omega⟩
 have K2:AK t.cols t.rows (one++oth):=⟨tk,λc hc=>by rcases List.mem_append.mp hc with z | z;exact o1 c z;exact p1 c z,by rw[List.length_append];omega⟩
 have r1:=Cy tk o1 (by omega)
 have r2:=Cy tk p1 (by omega)
 have r3:=Cy tk K2.c (by rw[List.length_append];omega)
 have r4:=Cy (cs:=oth++one) tk (λc hc=>by rcases List.mem_append.mp hc with z | z;exact p1 c z;exact o1 c z) (by rw[List.length_append];omega)
 rw[Ac1]at r3;rw[A3l one oth,Ac1]at r4;have l1:=Mw t.rows one
 have pr:=A1q K1 (by omega) nx
 have vr:=At0 K2 hx
 have kp:=A6t tk.ck hx tk.rws (by omega)
 have cl:Di [.im (Az t.cols (rD t.rows)),.im (.str x)]=.ret (.im (.list ((t.rows.map (Cg i)).map Vl.d))) [.im (Az t.cols (rD t.rows)),.im (.str x)]:=Ng (b:=true) tk.ck hx tk.rws (by omega)
 have tk2:TK [x] (t.rows.map λr=>[Cg i r]):=⟨by simp,λy hy=>by cases List.mem_singleton.mp hy;exact tk.sub _ (List.mem_of_getElem? hx),show (1:Nat)<=12 by decide,by rw[List.length_map];exact h24,λr hr=>by
  obtain⟨r0,h0,rfl⟩:=List.mem_map.mp hr
  refine⟨rfl,λu hu=>?_⟩
  cases List.mem_singleton.mp hu
  exact(Lr hi (ht.rows r0 h0).1 (ht.rows r0 h0).2).2⟩
 have r5:=Cy (cs:=[⟨i,x,wI,v⟩]) tk (λc hc=>by cases List.mem_singleton.mp hc;exact nx.cn (.head _)) (show (1:Nat)<=100 by decide)
 have r6:=Cy (cs:=[⟨0,x,wI,v⟩]) tk2 (λc hc=>by cases List.mem_singleton.mp hc;exact⟨rfl,.head _,hv⟩) (show (1:Nat)<=100 by decide)
 rw[Ax7]at r6;have r5:Ao [.im (Az t.cols (rD t.rows)),.im (.list [.tuple [.str x,.str wI,v.d]])]=_:=r5
 have r6:Ao [.im (Az [x] (rD (t.rows.map λr=>[Cg i r]))),.im (.list [.tuple [.str x,.str wI,v.d]])]=_:=r6
 have q5:=An4 (neg:=true) (Bh t.rows [⟨i,x,wI,v⟩])
 have qB:=An4 (neg:=true) ((Bh t.rows one).filter λk=>decide (k∈Bh t.rows oth))
 have a1:=A3w (a:=one) (b:=oth) (by omega) (by omega)
 have a2:=A3w (a:=oth) (b:=one) (by omega) (by omega)
 have aV:Ci (.list ((t.rows.map (Cg i)).map Vl.d)) (.list [v0.d])=sFa ((t.rows.map (Cg i)++[v0]).map Vl.d):=by
  show (if ((t.rows.map (Cg i)).map Vl.d).length+1<=16000000 then some (O.ls false ((t.rows.map (Cg i)).map Vl.d++[v0.d])) else none)=_
  rw[if_pos (by rw[List.length_map,List.length_map];omega),List.map_append];rfl
 have i0:=tb0 t.cols (rD t.rows);have i1:=tb1 t.cols (rD t.rows)
 have eN:Ai (.tuple (t.cols.map PyData.str)) (.int (i:Nat))=sI (.str x):=by
  show (atI (t.cols.map PyData.str) (i:Int)).map O.im=_
  rw[Fg (by rw[List.getElem?_map,hx];rfl)];rfl
 have eLc:Hc [.tuple (t.cols.map PyData.str)]=sI (.int t.cols.length):=by show some (O.im (.int ((t.cols.map PyData.str).length:Nat)))=_;rw[List.length_map]
 have eLr:Hc [rD t.rows]=sI (.int t.rows.length):=by show some (O.im (.int ((t.rows.map tD).length:Nat)))=_;rw[List.length_map]
 have ai:Ci (.int (t.rows.length:Nat)) (.int 1)=sI (.int ((t.rows.length:Int)+1)):=rfl
 have eC:cLC [none,some 3,some 6] (A3p 6 (Bj (cF Ao (Ac (Ab 3) (Ac (cFz (Ab 5)) Aq))))) (cgN 0) (Bg (cOp (Ji false) (Ab 0) (cF Ao (Ac (Ab 1) (Ac (Ab 2) Aq))))) (Ab 0) (lev s0 s1 d2 (Az t.cols (rD t.rows)) s4 (sFa (one.map Cn.d)) (sFa (oth.map Cn.d)) s7 s8 s9 s10) =
  .ok (.o (.ls false (nL ((Bh t.rows one).filter λk=>decide (k∈Bh t.rows oth))))) (lev s0 s1 d2 (Az t.cols (rD t.rows)) s4 (sI (.list (one.map Cn.d))) (sI (.list (oth.map Cn.d))) s7 s8 s9 s10):=by
  refine Ap2 (N:=Bh t.rows one) (c1:=lev s0 s1 d2 (Az t.cols (rD t.rows)) s4 (sI (csD one)) (sI (csD oth)) s7 s8 s9 s10) (e:=[sI (Az t.cols (rD t.rows)),sI (csD oth)]) ?_ (by omega) rfl (λ_=>rfl) λk hk=>?_
  ·generalize Az t.cols (rD t.rows)=D at *
   wp_walk using lev,A3p,Bj,U.Hi,r1
  ·have en:=Bb7 k (Bh t.rows oth)
   generalize Az t.cols (rD t.rows)=D at *
   generalize nL (Bh t.rows oth)=Z at *
   wp_walk using r2,en
 have e1:Dz [.ls true ds,.im (.tuple (t.cols.map PyData.str)),.im (rD t.rows)]=_:=e1;have e2:Dz [.ls true d1,.im (.tuple (t.cols.map PyData.str)),.im (rD t.rows)]=_:=e2;have r3:Ao [.im (Az t.cols (rD t.rows)),.im (.list ((one++oth).map Cn.d))]=.ret _ [.im (Az t.cols (rD t.rows)),.im (.list ((one++oth).map Cn.d))]:=r3;have r4:Ao [.im (Az t.cols (rD t.rows)),.im (.list ((oth++one).map Cn.d))]=.ret _ [.im (Az t.cols (rD t.rows)),.im (.list ((oth++one).map Cn.d))]:=r4;have vr:Ep [.im (Az t.cols (rD t.rows)),.im (.str x),.im (.list ((one++oth).map Cn.d))]=.ret _ [.im (Az t.cols (rD t.rows)),.im (.str x),.im (.list ((one++oth).map Cn.d))]:=vr;have pr:Ey [.im (Az t.cols (rD t.rows)),.im (.str x),.im v.d,.im (.list (one.map Cn.d))]=.ret _ [.im (Az t.cols (rD t.rows)),.im (.str x),.im v.d,.im (.list (one.map Cn.d))]:=pr;have eD:t.d=Az t.cols (rD t.rows):=rfl;rw[eD]
 refine⟨d5,sI (.list (one.map Cn.d)),sI (.list (oth.map Cn.d)),sI (.list (nL ((Bh t.rows one).filter λk=>decide (k∈Bh t.rows oth)))),sI (.str x),sI v.d,sI (Az [x] (rD (t.rows.map λr=>[Cg i r]))),b5.mono (by omega),?_⟩
 generalize hT:cLC [none,some 3,some 6] (A3p 6 (Bj (cF Ao (Ac (Ab 3) (Ac (cFz (Ab 5)) Aq))))) (cgN 0) (Bg (cOp (Ji false) (Ab 0) (cF Ao (Ac (Ab 1) (Ac (Ab 2) Aq))))) (Ab 0)=TC at *
 clear r1 r2 tk2 K1 K2 tk vb hj nx
 generalize Az [x] (rD (t.rows.map λr=>[Cg i r]))=E at *
 generalize nL ((Bh t.rows one).filter λk=>decide (k∈Bh t.rows oth))=ZB at *
 generalize nL (Bh t.rows [⟨i,x,wI,v⟩])=Z5 at *
 generalize Az t.cols (rD t.rows)=D at *
 generalize rD t.rows=R at *
 generalize t.cols.map PyData.str=C at *
 generalize (t.rows.map (Cg i)++[v0]).map Vl.d=VS at *
 generalize (t.rows.map (Cg i)).map Vl.d=V0 at *
 generalize (one++oth).map Cn.d=C12 at *
 generalize (oth++one).map Cn.d=C21 at *
 generalize one.map Cn.d=C1 at *
 generalize oth.map Cn.d=C2 at *
 generalize v.d=V at *
 generalize v0.d=V9 at *
 unfold Ma;rw[hT]
 refine (Cd (c':=lev s0 s1 d1 D s4 (sFa C1) s6 s7 s8 s9 s10) (by wp_walk using lev,i0,i1,e1)).trans ?_
 refine (Cd (c':=lev s0 s1 d2 D s4 (sFa C1) (sFa C2) s7 s8 s9 s10) (by wp_walk using lev,i0,i1,e2)).trans ?_
 refine (Cd (c':=lev s0 s1 d2 D s4 (sI (.list C1)) (sI (.list C2)) (sFa ZB) s8 s9 s10) (by wp_walk using lev,eC)).trans ?_
 refine (Cd (c':=lev s0 s1 d2 D s4 (sI (.list C1)) (sI (.list C2)) (sI (.list ZB)) s8 s9 s10) (by wp_walk using lev,a1,a2,r3,r4,qB)).trans ?_
 refine (Cd (c':=lev s0 s1 d3 D s4 (sI (.list C1)) (sI (.list C2)) (sI (.list ZB)) (sI (.str x)) s9 s10) (by wp_walk using lev,i0,eLc,e3,eN)).trans ?_
 refine (Cd (c':=lev s0 s1 d5 D s4 (sI (.list C1)) (sI (.list C2)) (sI (.list ZB)) (sI (.str x)) (sI V) s10) (by wp_walk using lev,i1,cl,e4,aV,eLr,ai,e5,evx)).trans ?_
 refine (Cd (c':=lev s0 s1 d5 D s4 (sI (.list C1)) (sI (.list C2)) (sI (.list ZB)) (sI (.str x)) (sI V) s10) (by wp_walk using lev,pr,a1,vr)).trans ?_
 refine (Cd (c':=lev s0 s1 d5 D s4 (sI (.list C1)) (sI (.list C2)) (sI (.list ZB)) (sI (.str x)) (sI V) (sI E)) (by wp_walk using lev,kp)).trans ?_
 wp_walk using lev,r5,r6,q5
theorem A5y {ns:List Int}{k:Nat}{s1 s2 s3 s4 s5 s6 s7 s8 s9 s10:Option O}(hk:k<=63):∃u2 u3 u4 u5 u6 u7 u8 u9 u10,Oq (cgN 1) Mm (.int (0+(k:Int))) [some (.sc ns),s1,s2,s3,s4,s5,s6,s7,s8,s9,s10]=.nx [some (.sc ns),sI (.int (0+(k:Int))),u2,u3,u4,u5,u6,u7,u8,u9,u10]:=by
 obtain⟨ds,b0,e0⟩:=Bj5 (ns:=ns) hk
 obtain⟨t,d1,ht,b1,e1⟩:=Ys b0 (by decide)
 obtain⟨c',e4,d3,u4,u5,u6,u7,u8,u9,u10,b3,rfl⟩:=Ir (g:=cgN 4) (body:=Ma) (items:=Kv 0 4) (n:=0) (c:=lev (some (.sc ns)) (sI (.int (0+(k:Int)))) d1 t.d s4 s5 s6 s7 s8 s9 s10)
  (P:=λj c=>∃d u4 u5 u6 u7 u8 u9 u10,Bx (0+1004+60*j) d/\c=lev (some (.sc ns)) (sI (.int (0+(k:Int)))) d t.d u4 u5 u6 u7 u8 u9 u10) ⟨d1,s4,s5,s6,s7,s8,s9,s10,b1,rfl⟩ (λj d c hd hP=>by
   rw[Nat.zero_add]at hP ⊢;obtain⟨d,u4,u5,u6,u7,u8,u9,u10,b,rfl⟩:=hP;obtain⟨rfl,hj⟩:=M7 hd
   obtain⟨d1,v5,v6,v7,v8,v9,v10,b',e⟩:=A7a (s0:=some (.sc ns)) (s1:=sI (.int (0+(k:Int)))) (s4:=sI (.int (j:Nat))) (s5:=u5) (s6:=u6) (s7:=u7) (s8:=u8) (s9:=u9) (s10:=u10) b (by omega) ht
   refine⟨_,.inl ?_,d1,sI (.int (j:Nat)),v5,v6,v7,v8,v9,v10,b'.mono (by omega),rfl⟩
   generalize Ma=G at *
   generalize t.d=D at *
   have z:(0:Int)+(j:Nat)=(j:Nat):=Int.zero_add _
   wp_walk using lev,z,e)
 refine⟨some (.ls false d3),sI t.d,u4,u5,u6,u7,u8,u9,u10,?_⟩
 show Mm [some (.sc ns),sI (.int (0+(k:Int))),s2,s3,s4,s5,s6,s7,s8,s9,s10]=_
 unfold Mm
 refine (Cd (c':=[some (.sc ns),sI (.int (0+(k:Int))),sFa ds,s3,s4,s5,s6,s7,s8,s9,s10]) (by wp_walk using show (0:Int)+(k:Int)=(k:Int) by omega,e0)).trans ?_
 refine (Cd (c':=lev (some (.sc ns)) (sI (.int (0+(k:Int)))) d1 t.d s4 s5 s6 s7 s8 s9 s10) (by wp_walk using lev,e1)).trans ?_
 exact(Oo (fi:=Nr (cC (.int 4))) (ds:=Kv 0 4) (c1:=lev (some (.sc ns)) (sI (.int (0+(k:Int)))) d1 t.d s4 s5 s6 s7 s8 s9 s10) rfl).trans e4
theorem A1v (ns:List Int)(_:ns.length<=63):Af1 [.sc ns]=.ret (.im (.bool true)) [.sc ns]:=by
 obtain⟨m,hm,em⟩:∃m:Nat,m<=13/\(1:Int)+(if (ns.length:Int)<3 then (ns.length:Int) else 3)=(m:Int):=by
  split
  ·exact⟨1+ns.length,by omega,by omega⟩
  ·exact⟨4,by omega,by omega⟩
 have loop:=Ir (g:=cgN 1) (body:=Mm) (items:=Kv 0 m) (n:=0) (c:=[some (.sc ns),none,none,none,none,none,none,none,none,none,none])
  (P:=λ_ c=>∃a b d e f g h i j l,c=[some (.sc ns),a,b,d,e,f,g,h,i,j,l]) ⟨_,_,_,_,_,_,_,_,_,_,rfl⟩ (λk d c hd hP=>by
   obtain⟨x1,x2,x3,x4,x5,x6,x7,x8,x9,x10,rfl⟩:=hP;obtain⟨rfl,hk⟩:=M7 hd
   obtain⟨u2,u3,u4,u5,u6,u7,u8,u9,u10,e⟩:=A5y (ns:=ns) (k:=k) (s1:=x1) (s2:=x2) (s3:=x3) (s4:=x4) (s5:=x5) (s6:=x6) (s7:=x7) (s8:=x8) (s9:=x9) (s10:=x10) (by omega)
   exact⟨_,.inl e,_,_,_,_,_,_,_,_,_,_,rfl⟩)
 obtain⟨c',e,x1,x2,x3,x4,x5,x6,x7,x8,x9,x10,rfl⟩:=loop
 refine M5 (p:=.o (.im (.bool true))) (c:=[some (.sc ns),x1,x2,x3,x4,x5,x6,x7,x8,x9,x10]) ?_ rfl (by wp_walk using true_and)
 show Ae9 [some (.sc ns),none,none,none,none,none,none,none,none,none,none]=_
 unfold Ae9
 refine (Cd ((Oo (ds:=Kv 0 m) (c1:=[some (.sc ns),none,none,none,none,none,none,none,none,none,none]) ?_).trans e)).trans ?_
 ·wp_walk using Ak9,Ci,em,show (m:Int)<=16000000/\-16000000<=(m:Int) by omega,Int.toNat_natCast
 ·wp_walk using true_and
noncomputable def top (i:Nat):Stmt:=PySem.Challenge.pw_pivotfold_k49_questions_walked.main.body.getD i (.Pass ⟨0,0,0,0⟩)
abbrev Yv:Stmt:=top 6
theorem A7s:Br ["value"] ["value"] (Ay Yv):={}
abbrev Ja:Stmt:=top 7
theorem Rx:Br ["one", "other"] ["one", "other"] (Ay Ja):={}
abbrev Yb:Stmt:=top 8
theorem A3t:Br ["values"] ["values"] (Ay Yb):={}
abbrev N7:Stmt:=top 10
theorem yH:Br ["table", "name", "columns"] ["table", "name"] (Ay N7):={}
abbrev Mf:Stmt:=top 11
theorem Xa:Br ["table", "names"] ["table", "names"] (Ay Mf):={}
abbrev Ln:Stmt:=top 12
theorem Wv:Br ["row", "places"] ["row", "places"] (Ay Ln):={}
abbrev U3:Stmt:=top 13
theorem yM:Br ["table", "name", "place"] ["table", "name"] (Ay U3):={}
abbrev Af2:Stmt:=top 14
theorem yP:Br ["table", "names", "places"] ["table", "names"] (Ay Af2):={}
abbrev Lb:Stmt:=top 15
theorem zV:Br ["table", "names", "places", "rows"] ["table", "names"] (Ay Lb):={}
abbrev Kr:Stmt:=top 17
theorem zU:Br ["things", "seen", "thing"] ["things"] (Ay Kr):={}
abbrev Uw:Stmt:=top 20
theorem Aw6:Br ["numbers"] ["numbers"] (Ay Uw):={}
abbrev Jh:Stmt:=top 21
theorem zW:Br ["some", "way", "there"] ["some", "way"] (Ay Jh):={}
abbrev Ke:Stmt:=top 24
theorem Vi:Br [lL] [lL] (Ay Ke):={}
abbrev Jp:Stmt:=top 25
theorem yD:Br [lL, "condition"] [lL] (Ay Jp):={}
abbrev Yp:Stmt:=top 26
theorem A2f:Br ["value", "word", "told"] ["value", "word", "told"] (Ay Yp):={}
abbrev Nx:Stmt:=top 27
theorem Z2:Br ["row", "places", lL] ["row", "places", lL] (Ay Nx):={}
abbrev J7:Stmt:=top 28
theorem yF:Br ["table", lL, "places"] ["table", lL] (Ay J7):={}
abbrev Hn:Stmt:=top 29
theorem zQ:Br ["table", "question", "names", "words"] ["table", "question"] (Ay Hn):={}
abbrev Ue:Stmt:=top 30
theorem zX:Br ["table", "question", "word", "rows", "some"] ["table", "question"] (Ay Ue):={}
abbrev Lk:Stmt:=top 32
theorem X5:Br [lP, "_law_k"] [lP, "_law_k"] (Ay Lk):={}
abbrev Wu:Stmt:=top 33
theorem yN:Br [lP, "_law_k", "_law_number"] [lP, "_law_k"] (Ay Wu):={}
abbrev Vg:Stmt:=top 34
theorem zY:Br [lH, lK, "_law_found", "_law_once", "_law_twice"] [lH, lK] (Ay Vg):={}
abbrev Uv:Stmt:=top 35
theorem Ay0:Br [lH, "_law_least", "_law_few", "_law_most"] [lH, "_law_least", "_law_few", "_law_most"] (Ay Uv):={}
abbrev Qz:Stmt:=top 36
theorem yI:Br [lH, lK, "_law_some"] [lH, lK] (Ay Qz):={}
abbrev Ql:Stmt:=top 37
theorem yJ:Br [lH, "_law_way"] [lH] (Ay Ql):={}
abbrev S9:Stmt:=top 38
theorem zZ:Br [lH, lK, "_law_found", "_law_turn", lM] [lH, lK] (Ay S9):={}
abbrev Qh:Stmt:=top 39
theorem zJ:Br [lH, lK, lR, "_law_names_here", "_law_pools", "_law_found", "_law_turn", "_law_row"] [lH, lK, lR] (Ay Qh):={}
abbrev Jt:Stmt:=top 40
theorem T7:Br [lH] [lH] (Ay Jt):={}
abbrev Jf:Stmt:=top 42
theorem zF:Br [lH, "_law_columns", lR, "_law_found", "_law_turn", "_law_at", "_law_some", "_law_word"] [lH, "_law_columns", lR] (Ay Jf):={}
abbrev H9:Stmt:=top 43
theorem zG:Br [lJ, lQ, lM, lN, "_law_some", "_law_word", "_law_every", "_law_alone"] [lJ, lQ, lM, lN] (Ay H9):={}
abbrev Hm:Stmt:=top 44
theorem z7:Br [lJ, lQ, lN, "_law_numbers", lR, "_law_own", "_law_every", "_law_there", "_law_ends", "_law_count", "_law_some"] [lJ, lQ, lN] (Ay Hm):={}
abbrev A0o:Stmt:=top 45
theorem zN:Br [lP, "_law_k", lH, lJ, "_law_turn", "_law_one", "_law_other", "_law_both", lQ, lM, "_law_alone"] [lP] (Ay A0o):={}
section
variable {P:Program}{w:World}{K:PySem.W.Frag}{mg:Str->Option Value}{base:Heap}
theorem A6q {n:Nat}{f:Addr}{k:FuncData}(F:Fun K "rank" "rank" Yv f k) (c:Def P w K mg base "rank" (n) ["value"] (spP K (Bu n))) (d:mg "int" = none) (a:mg "isinstance" = none) (e:mg "str" = none) (b:mg "tuple" = none):FnOk P w K mg base CX0 (n+1) f k ["value"] (spP K (Bu (n+1))):=by
 refine F.ok A7s (λ_ _ _ _=>Cv) (λl A g s H o Q E j h=>?_)
 have p:=j.units;have m:=j.gd
 refine Gf (Af (Dr (Ax2 (qv 0) Gi) (Am (Bc (Ed (Ae Aj (Ae Aj Ad))))) Bp)
  (Af (Dr (Qj (Mr (Kq:=K) rfl rfl a (Ae (qv 0) (Ae (Xy (v:=.ty "int") rfl d A4d rfl) Ad)))) (Am (Bc (Ed (Ae Aj (Ae (qv 0) Ad))))) Bp)
  (Af (Dr (Qj (Mr (Kq:=K) rfl rfl a (Ae (qv 0) (Ae (Xy (v:=.ty "str") rfl e A4b rfl) Ad)))) (Am (Bc (Ed (Ae Aj (Ae (qv 0) Ad))))) Bp)
  (Am (Bc (Ed (Ae Aj (Ae (Ck (Kq:=K) rfl rfl b (Ae (by exact(Hv (N':=["each"]) (idx:=[none]) Dy rfl (Ef (Kq:=K) rfl (qv 0)) (λ_ _ _ _ _=>by exact(Bt (i:=0) (by grind) rfl (Or.inl rfl))) qtN (λ_ _ _ _ _=>by exact(Be c j (Ae (qv 0) Ad))))) Ad)) Ad)))))))) ?_
 exact Cr (An (Dq (Bf (Ag me_var (Av rfl) A7u)) (Bd (Eh (Aa (Av rfl) (Aa (Av rfl) Ah)))) Bq)
  (An (Dq (Av6 (Ak4 .int me_var)) (Bd (Eh (Aa (Av rfl) (Aa me_var Ah)))) Bq)
  (An (Dq (Av6 (Ak4 .str me_var)) (Bd (Eh (Aa (Av rfl) (Aa me_var Ah)))) Bq)
  (Bd (Eh (Aa (Av rfl) (Aa (Dg (Fl (by decide) (Eg me_var) Ak Gd (Al (Aa me_var Ah))) Gq) Ah))))))) h
theorem Zb (F:Fun K "rank" "rank" Yv f fd) (bF:Binds K fd ["value"] []) (mF:mg "rank" = some (.ref f)) (yK:mg "int" = none) (zO:mg "isinstance" = none) (yL:mg "str" = none) (z9:mg "tuple" = none):∀n:Nat,FnOk P w K mg base CX0 (n) f fd ["value"] (spP K (Bu n))
 | 0=>Bj7
 | n+1=>A6q F ⟨f,fd,Zb F bF mF yK zO yL z9 n,bF,F.kp,mF⟩ yK zO yL z9
theorem Rz (F:Fun K "stands_ahead" "stands_ahead" Ja f fd) (c7:Def P w K mg base "rank" 2 ["value"] (spP K (Bu 2))):FnOk P w K mg base CX0 3 f fd ["one", "other"] (spP K En):=by
 refine F.ok Rx (λ_ _ _ _=>Cv) (λcdv A outer s H vs Q E hr h=>?_)
 have hu:=hr.units;have hgd:=hr.gd
 refine Gf (Am (Bc (Az1 hu (Be c7 hr (Ae (qv 0) Ad)) (Be c7 hr (Ae (qv 1) Ad))))) ?_
 exact Cr (Bd (Ag (Al (Aa me_var Ah)) (Al (Aa me_var Ah)) Bi8)) h
theorem A0n {f:Addr}{m:FuncData}(F:Fun K "risen" "risen" Yb f m) (c:Def P w K mg base "rank" 2 ["value"] (spP K (Bu 2))) (a:mg "sorted" = none):FnOk P w K mg base CX0 5 f m ["values"] (spP K Mj):=by
 obtain⟨j,i,b,d,g,e⟩:=c
 refine F.ok A3t (λ_ _ _ _=>Cv) (λn A k s H p Q E l h=>?_)
 have q:=l.units;have o:=l.gd
 refine Gf (Am (Bc (A0c rfl b (l.mono (by omega)) d rfl a (Ae (qv 0) Ad) (Py (O4 (v:=.ref _) rfl e rfl) Aj2)))) ?_
 exact Cr (Bd (Bk2 me_var)) h
theorem Ad2 (F:Fun K "place_of" "place_of" N7 f fd):FnOk P w K mg base CX0 3 f fd ["table", "name"] (spP K Eo):=by
 refine F.ok yH (λ_ _ _ _=>Cv) (λcdv A outer s H vs Q E hr h=>?_)
 have hu:=hr.units;have hgd:=hr.gd
 refine Gf (Af (Bv (i:=2) yH.nd (Bb (Kq:=K) rfl (qv 0) Aj Ba))
  (Af (Dr (Kc hu (qv 1) (qv 2) (by with_unfolding_all rfl)) (Am Lj) Bp)
  (Am (Bc (Bb0 (Kq:=K) rfl PySem.F.plainAttrs_tuple PySem.F.slot_tuple_index PySem.F.type_tuple_index (Ae3 rfl) (qv 2) (Ae (qv 1) Ad)))))) ?_
 exact Cr (An (Bk (Ag me_var (Av rfl) Ax) Ak)
  (An (Dq (Bf (Ag me_var me_var Qm)) Ly Bq)
  (Bd (Br0 me_var me_var Bl1 Aw0)))) h
abbrev yT5 (P w K mg base):=Def P w K mg base "place_of" 3 ["table", "name"] (spP K Eo)
theorem W7 (F:Fun K "places_of" "places_of" Mf f fd) (e8:yT5 P w K mg base):FnOk P w K mg base CX0 4 f fd ["table", "names"] (spP K Cp):=by
 refine F.ok Xa (λ_ _ _ _=>Cv) (λcdv A outer s H vs Q E hr h=>?_)
 have hu:=hr.units;have hgd:=hr.gd
 refine Gf (Am (Bc (by exact(Hv (N':=["name", "table"]) (idx:=[none,some 0]) Dy rfl (Ef (Kq:=K) rfl (qv 1)) (λ_ _ _ _ _=>by exact(Bt (i:=0) (by show (["name", "table"]:List Str).Nodup;decide +kernel))) qtN (λ_ _ _ _ _=>by exact(Be e8 hr (Ae (qv 1) (Ae (qv 0) Ad)))))))) ?_
 exact Cr (Bd (Dm (Fl (by decide) (Eg me_var) Ak Gd (Al (Aa me_var (Aa me_var Ah)))))) h
theorem Wt (F:Fun K "values_at" "values_at" Ln f c) (a:mg "tuple" = none):FnOk P w K mg base CX0 1 f c ["row", "places"] (spP K Eb):=by
 refine F.ok Wv (λ_ _ _ _=>Cv) (λj A b s H g Q E d h=>?_)
 have k:=d.units;have e:=d.gd
 refine Gf (Am (Bc (Ck (Kq:=K) rfl rfl a (Ae (by exact(Hv (N':=["place", "row"]) (idx:=[none,some 0]) Dy rfl (Ef (Kq:=K) rfl (qv 1)) (λ_ _ _ _ _=>by exact(Bt (i:=0) (by show (["place", "row"]:List Str).Nodup;decide +kernel))) qtN (λ_ _ _ _ _=>by exact(Bb (Kq:=K) rfl (qv 1) (qv 0) Ez)))) Ad)))) ?_
 exact Cr (Bd (Dg (Fl (by decide) (Eg me_var) Ak Gd (Ag me_var me_var Ax)) Gq)) h
theorem Aw4 (F:Fun K "column" "column" U3 f fd) (e8:yT5 P w K mg base):FnOk P w K mg base CX0 4 f fd ["table", "name"] (spP K Di):=by
 refine F.ok yM (λ_ _ _ _=>Cv) (λcdv A outer s H vs Q E hr h=>?_)
 have hu:=hr.units;have hgd:=hr.gd
 refine Gf (Af (Bv (i:=2) yM.nd (Be e8 hr (Ae (qv 0) (Ae (qv 1) Ad))))
  (Am (Bc (by exact(Hv (N':=["row", "place"]) (idx:=[none,some 2]) Dy rfl (Ef (Kq:=K) rfl (Bb (Kq:=K) rfl (qv 0) Aj Ba)) (λ_ _ _ _ _=>by exact(Bt (i:=0) (by show (["row", "place"]:List Str).Nodup;decide +kernel))) qtN (λ_ _ _ _ _=>by exact(Bb (Kq:=K) rfl (qv 0) (qv 1) Ez))))))) ?_
 exact Cr (An (Bk (Al (Aa me_var (Aa me_var Ah))) Ak)
  (Bd (Dm (Fl (by decide) (Eg (Ag me_var (Av rfl) Ax)) Ak Gd (Ag me_var me_var Ax))))) h
abbrev yT1 (P w K mg base):=Def P w K mg base "places_of" 4 ["table", "names"] (spP K Cp)
abbrev yT6 (P w K mg base):=Def P w K mg base "values_at" 1 ["row", "places"] (spP K Eb)
theorem A5o (F:Fun K "kept" "kept" Af2 f fd) (a9:yT1 P w K mg base) (d8:yT6 P w K mg base) (z9:mg "tuple" = none):FnOk P w K mg base CX0 5 f fd ["table", "names"] (spP K Pj):=by
 refine F.ok yP (λ_ _ _ _=>Cv) (λcdv A outer s H vs Q E hr h=>?_)
 have hu:=hr.units;have hgd:=hr.gd
 refine Gf (Af (Bv (i:=2) yP.nd (Be a9 hr (Ae (qv 0) (Ae (qv 1) Ad))))
  (Am (Bc (Ed (Ae (Ck (Kq:=K) rfl rfl z9 (Ae (qv 1) Ad)) (Ae (Ck (Kq:=K) rfl rfl z9 (Ae (by exact(Hv (N':=["row", "places"]) (idx:=[none,some 2]) Dy rfl (Ef (Kq:=K) rfl (Bb (Kq:=K) rfl (qv 0) Aj Ba)) (λ_ _ _ _ _=>by exact(Bt (i:=0) (by show (["row", "places"]:List Str).Nodup;decide +kernel))) qtN (λ_ _ _ _ _=>by exact(Be d8 hr (Ae (qv 0) (Ae (qv 1) Ad)))))) Ad)) Ad)))))) ?_
 exact Cr (An (Bk (Al (Aa me_var (Aa me_var Ah))) Ak)
  (Bd (Eh (Aa (Dg me_var Gq) (Aa (Dg (Fl (by decide) (Eg (Ag me_var (Av rfl) Ax)) Ak Gd (Al (Aa me_var (Aa me_var Ah)))) Gq) Ah))))) h
theorem Y5 (F:Fun K "sorted_by" "sorted_by" Lb f fd) {c_ T_:Addr} (hT_:(T_,("sorted_by" : Str) ++ ".<locals>." ++ "<lambda>")∈Ej K) (hC_:PySem.W.codeHdIn K c_ T_=true) (hD_:fd.code=.ref c_) (c7:Def P w K mg base "rank" 2 ["value"] (spP K (Bu 2))) (a9:yT1 P w K mg base) (d8:yT6 P w K mg base) (zP:mg "sorted" = none) (z9:mg "tuple" = none):FnOk P w K mg base CX0 6 f fd ["table", "names"] (spP K G8):=by
 refine F.okL zV (λ_ _ _ _=>Cv) (λcdv A outer s H vs Q E hcd_ hr h=>?_)
 have hu:=hr.units;have hgd:=hr.gd
 refine Gf (Af (Bv (i:=2) zV.nd (Be a9 hr (Ae (qv 0) (Ae (qv 1) Ad))))
  (Af (Bv (i:=3) zV.nd (A2p (Kq:=K) rfl (k:=2) (x := "row") (N':=["places"]) (idx:=[some 2]) hT_ hC_ (hcd_.symm.trans hD_) hr rfl zP (Ae (Bb (Kq:=K) rfl (qv 0) Aj Ba) Ad) ⟨Dy,by decide +kernel⟩ (λ_ _ _ _ _ hr=>by have hu:=hr.units;have hgd:=hr.gd;exact(Be c7 hr (Ae (Be d8 hr (Ae (qv 0) (Ae (qv 1) Ad))) Ad)))))
  (Am (Bc (Ed (Ae (Bb (Kq:=K) rfl (qv 0) Aj Ba) (Ae (Ck (Kq:=K) rfl rfl z9 (Ae (qv 3) Ad)) Ad))))))) ?_
 exact Cr (An (Bk (Al (Aa me_var (Aa me_var Ah))) Ak)
  (An (Bk (A8v (js:=[2]) (F:=Ds) (Ag me_var (Av rfl) Ax) (A7r (Al (Aa (Al (Aa me_var (Aa me_var Ah))) Ah)) ["row", "places"] rfl)) Ak)
  (Bd (Eh (Aa (Ag me_var (Av rfl) Ax) (Aa (Dg me_var Gq) Ah)))))) h
theorem Vo (F:Fun K "first_seen" "first_seen" Kr f fd) (z9:mg "tuple" = none):FnOk P w K mg base CX0 1 f fd ["things"] (spP K Hr):=by
 refine F.ok zU (λ_ _ _ _=>Cv) (λcdv A outer s H vs Q E hr h=>?_)
 have hu:=hr.units;have hgd:=hr.gd
 refine Gf (Af (Bv (i:=1) zU.nd A0p) (Af (Mi PassesOwn.never rfl (Ef (Kq:=K) rfl (qv 0)) (Bt (i:=2) zU.nd) (Am (A7f (qv 1) (qv 2) Lx))) (Am (Bc (A9k rfl rfl z9 (qv 1)))))) ?_
 exact Cr (A7e (Eg me_var) (by decide) (λ_ _ _ h=>h)) h
theorem Ay2 (F:Fun K "sum_of" "sum_of" Uw f g) (c:mg "any" = none) (a:mg "isinstance" = none) (b:mg "str" = none) (d:mg "sum" = none):FnOk P w K mg base CX0 1 f g ["numbers"] (spP K Qi):=by
 refine F.ok Aw6 (λ_ _ _ _=>Cv) (λm A e s H l Q E j h=>?_)
 have n:=j.units;have k:=j.gd
 refine Gf (Af (Dr (Qj (Yd (Kq:=K) rfl rfl rfl c (Ae (by exact(Hv (N':=["number"]) (idx:=[none]) Dy rfl (Ef (Kq:=K) rfl (qv 0)) (λ_ _ _ _ _=>by exact(Bt (i:=0) (by simp_all) rfl (Or.inl rfl))) qtN (λ_ _ _ _ _=>by exact(Mr (Kq:=K) rfl rfl a (Ae (qv 0) (Ae (Xy (v:=.ty "str") rfl b A4b rfl) Ad)))))) Ad))) (Am Lj) Bp)
  (Am (Bc (Yz (Kq:=K) rfl rfl rfl d (Ae (qv 0) Ad))))) ?_
 exact Cr (An (Dq (Av6 (Dg (Fl (by decide) (Eg me_var) Ak Gd (Ak4 _ me_var)) A5j)) Ly Bq)
  (Bd (Dg me_var A6r))) h
theorem Rw (F:Fun K "put_together" "put_together" Jh f fd) (c7:Def P w K mg base "rank" 2 ["value"] (spP K (Bu 2))) (k7:Def P w K mg base "sum_of" 1 ["numbers"] (spP K Qi)) (zA:mg "len" = none) (yQ:mg "max" = none) (yG:mg "min" = none) (yR:mg "set" = none):FnOk P w K mg base CX0 5 f fd ["some", "way"] (spP K Cj):=by
 obtain⟨l0,n0,l9,l8,n7,l6⟩:=c7
 refine F.ok zW (λ_ _ _ _=>Cv) (λcdv A outer s H vs Q E hr h=>?_)
 have hu:=hr.units;have hgd:=hr.gd
 refine Gf (Af (Dr (Hu hu (qv 1) Do) (Am (Bc (Bb (Kq:=K) rfl (qv 0) Aj Ba))) Bp)
  (Af (Dr (Hu hu (qv 1) Do) (Am (Bc (Bb (Kq:=K) rfl (qv 0) (Qq Aj) Mt))) Bp)
  (Af (by exact(Iw (i:=2) zW.nd rfl (Or.inl rfl) (N':=["value"]) (idx:=[none]) Dy rfl (Ef (Kq:=K) rfl (qv 0)) (λ_ _ _ _ _=>by exact(Bt (i:=0) (by show (["value"]:List Str).Nodup;decide +kernel))) (λ_ _ _ _ _=>by exact(Jk (J9 (qv 0) Gi))) (λ_ _ _ _ _=>by exact(qv 0))))
  (Af (Dr (Hu hu (qv 1) Do) (Am (Bc (Be k7 hr (Ae (qv 2) Ad)))) Bp)
  (Af (Dr (Hu hu (qv 1) Do) (Am (Bc (Gs (Kq:=K) rfl rfl zA (Ae (qv 2) Ad)))) Bp)
  (Af (Dr (Hu hu (qv 1) Do) (Am (Bc (A5i (Kq:=K) rfl rfl l9 (hr.mono (by omega)) l8 rfl yG (Ae (qv 2) Ad) (Py (O4 (v:=.ref l0) rfl l6 rfl) (Py Gi Aj2))))) Bp)
  (Af (Dr (Hu hu (qv 1) Do) (Am (Bc (A2g (Kq:=K) rfl rfl l9 (hr.mono (by omega)) l8 rfl yQ (Ae (qv 2) Ad) (Py (O4 (v:=.ref l0) rfl l6 rfl) (Py Gi Aj2))))) Bp)
  (Af (Dr (Hu hu (qv 1) Do) (Am (Bc (As6 (Kq:=K) rfl rfl rfl yR rfl zA (qv 2)))) Bp)
  (Am Lj))))))))) ?_
 exact Cr (An (Dq (Bf (Ag me_var (Av rfl) Ex)) (Bd (Ag me_var (Av rfl) Ax)) Bq)
  (An (Dq (Bf (Ag me_var (Av rfl) Ex)) (Bd (Ag me_var (Mv (Av rfl) Mx) Ax)) Bq)
  (An (Bk (Fl (by decide) (Eg me_var) Ak (Bf (Ag me_var (Av rfl) Pu)) me_var) Ak)
  (An (Dq (Bf (Ag me_var (Av rfl) Ex)) (Bd (Al (Aa (Dm me_var) Ah))) Bq)
  (An (Dq (Bf (Ag me_var (Av rfl) Ex)) (Bd (G9 (Dm me_var))) Bq)
  (An (Dq (Bf (Ag me_var (Av rfl) Ex)) (Bd (A9t (Dm me_var))) Bq)
  (An (Dq (Bf (Ag me_var (Av rfl) Ex)) (Bd (A9t (Dm me_var))) Bq)
  (An (Dq (Bf (Ag me_var (Av rfl) Ex)) (Bd (Ak7 (Dm me_var))) Bq)
  Ly)))))))) h
theorem Vr (F:Fun K "columns_of" "columns_of" Ke f fd):FnOk P w K mg base CX0 1 f fd [lL] (spP K Es):=by
 refine F.ok Vi (λ_ _ _ _=>Cv) (λcdv A outer s H vs Q E hr h=>?_)
 have hu:=hr.units;have hgd:=hr.gd
 refine Gf (Am (Bc (by exact(Hv (N':=["condition"]) (idx:=[none]) Dy rfl (Ef (Kq:=K) rfl (qv 0)) (λ_ _ _ _ _=>by exact(Bt (i:=0) (by show (["condition"]:List Str).Nodup;decide +kernel))) qtN (λ_ _ _ _ _=>by exact(Bb (Kq:=K) rfl (qv 0) Aj Ba)))))) ?_
 exact Cr (Bd (Dm (Fl (by decide) (Eg me_var) Ak Gd (Ag me_var (Av rfl) Ax)))) h
theorem Ut (F:Fun K "check_words" "check_words" Jp f fd) (zR:∃p,mg "CONDITION_WORDS" = some (.ref p)/\∀H,SqT K H p ([Str.ofString "is",Str.ofString "not",Str.ofString "below",Str.ofString "above"].map V.str)):FnOk P w K mg base CX0 1 f fd [lL] (spP K Fw):=by
 obtain⟨p_CONDITION_WORDS,m6,sq_CONDITION_WORDS⟩:=zR
 refine F.ok yD (λ_ _ _ _=>Cv) (λcdv A outer s H vs Q E hr h=>?_)
 have hu:=hr.units;have hgd:=hr.gd
 refine Gf (Am (Mi PassesOwn.never rfl (Ef (Kq:=K) rfl (qv 0)) (Bt (i:=1) yD.nd) (Am (Dr (Aw2 (Kq:=K) rfl (Bb (Kq:=K) rfl (qv 1) Aj Ba) (O4 (v:=.ref p_CONDITION_WORDS) rfl m6 rfl) (by with_unfolding_all rfl)) (Am Lj) Bp)))) ?_
 exact Cr (Qe (Eg me_var) Ak (Dq (Bf (Bc4 (Ag me_var (Av rfl) Ax) sq_CONDITION_WORDS)) Ly Bq)) h
theorem A3d (F:Fun K "holds" "holds" Yp f fd) (g0:Def P w K mg base "stands_ahead" 3 ["one", "other"] (spP K En)):FnOk P w K mg base CX0 4 f fd ["value", "word", "told"] (spP K Ge):=by
 refine F.ok A2f (λ_ _ _ _=>Cv) (λcdv A outer s H vs Q E hr h=>?_)
 have hu:=hr.units;have hgd:=hr.gd
 refine Gf (Af (Dr (Hu hu (qv 1) Do) (Am (Bc (A4s hu (qv 0) (qv 2)))) Bp)
  (Af (Dr (Hu hu (qv 1) Do) (Am (Bc (Bu0 hu (qv 0) (qv 2)))) Bp)
  (Af (Dr (Hu hu (qv 1) Do) (Am (Bc (Be g0 hr (Ae (qv 0) (Ae (qv 2) Ad))))) Bp)
  (Am (Bc (Be g0 hr (Ae (qv 2) (Ae (qv 0) Ad)))))))) ?_
 exact Cr (An (Dq (Bf (Ag me_var (Av rfl) Ex)) (Bd (Ag me_var me_var Ex)) Bq)
  (An (Dq (Bf (Ag me_var (Av rfl) Ex)) (Bd (Ag me_var me_var Gz)) Bq)
  (An (Dq (Bf (Ag me_var (Av rfl) Ex)) (Bd (Al (Aa me_var (Aa me_var Ah)))) Bq)
  (Bd (Al (Aa me_var (Aa me_var Ah))))))) h
theorem Z0 (F:Fun K "all_hold" "all_hold" Nx f fd) (k8:Def P w K mg base "holds" 4 ["value", "word", "told"] (spP K Ge)) (yS:mg "all" = none) (yU:mg "zip" = none):FnOk P w K mg base CX0 5 f fd ["row", "places", lL] (spP K Fq):=by
 refine F.ok Z2 (λ_ _ _ _=>Cv) (λcdv A outer s H vs Q E hr h=>?_)
 have hu:=hr.units;have hgd:=hr.gd
 refine Gf (Am (Bc (Xm (Kq:=K) rfl rfl rfl yS (Ae (by exact(Hv (N':=["place", "each", "row"]) (idx:=[none,none,some 0]) Dy rfl (Bg5 rfl yU (Ae (qv 1) (Ae (qv 2) Ad))) (λ_ _ _ _ _=>by exact(Ag5 (Kq:=K) rfl (n:=2) rfl (Jw (Bt (i:=0) (by show (["place", "each", "row"]:List Str).Nodup;decide +kernel)) (Jw (Bt (i:=1) (by show (["place", "each", "row"]:List Str).Nodup;decide +kernel)) Yi)))) qtN (λ_ _ _ _ _=>by exact(Be k8 hr (Ae (Bb (Kq:=K) rfl (qv 2) (qv 0) Ez) (Ae (Bb (Kq:=K) rfl (qv 1) Aj Ba) (Ae (Bb (Kq:=K) rfl (qv 1) Aj Ba) Ad))))))) Ad)))) ?_
 exact Cr (Bd (Dg (Fl (by decide) (Bf3 me_var me_var) (Ak2 (Jv Ak (Jv Ak Xd))) Gd (Al (Aa (Ag me_var me_var Ax) (Aa (Ag me_var (Av rfl) Ax) (Aa (Ag me_var (Av rfl) Ax) Ah))))) A8i)) h
abbrev yT7 (P w K mg base):=Def P w K mg base "columns_of" 1 [lL] (spP K Es)
theorem Vn (F:Fun K "rows_where" "rows_where" J7 f fd) (a9:yT1 P w K mg base) (e9:yT7 P w K mg base) (i4:Def P w K mg base "check_words" 1 [lL] (spP K Fw)) (j7:Def P w K mg base "all_hold" 5 ["row", "places", lL] (spP K Fq)) (zL:mg "enumerate" = none):FnOk P w K mg base CX0 6 f fd ["table", lL] (spP K Ao):=by
 refine F.ok yF (λ_ _ _ _=>Cv) (λcdv A outer s H vs Q E hr h=>?_)
 have hu:=hr.units;have hgd:=hr.gd
 refine Gf (Af (Bv (i:=2) yF.nd (Be a9 hr (Ae (qv 0) (Ae (Be e9 hr (Ae (qv 1) Ad)) Ad))))
  (Af (Nh (Be i4 hr (Ae (qv 1) Ad)))
  (Am (Bc (by exact(Hv (N':=["number", "row", "places", lL]) (idx:=[none,none,some 2,some 1]) Dy rfl (Am9 rfl zL (Ae (Bb (Kq:=K) rfl (qv 0) Aj Ba) Ad)) (λ_ _ _ _ _=>by exact(Ag5 (Kq:=K) rfl (n:=2) rfl (Jw (Bt (i:=0) (by show (["number", "row", "places", lL]:List Str).Nodup;decide +kernel)) (Jw (Bt (i:=1) (by show (["number", "row", "places", lL]:List Str).Nodup;decide +kernel)) Yi)))) (λ_ _ _ _ _=>by exact(Jk (Qj (Be j7 hr (Ae (qv 1) (Ae (qv 2) (Ae (qv 3) Ad))))))) (λ_ _ _ _ _=>by exact(qv 0)))))))) ?_
 exact Cr (An (Bk (Al (Aa me_var (Aa (Al (Aa me_var Ah)) Ah))) Ak)
  (An (Nb (Al (Aa me_var Ah)))
  (Bd (Dm (Fl (by decide) (Aq9 (Ag me_var (Av rfl) Ax)) (Ak2 (Jv Ak (Jv Ak Xd))) (Av6 (Al (Aa me_var (Aa me_var (Aa me_var Ah))))) me_var))))) h
theorem O7 (F:Fun K "check_question" "check_question" Hn f fd) (a9:yT1 P w K mg base) (e9:yT7 P w K mg base) (zA:mg "len" = none) (yE:mg "list" = none) (yO:∃p,mg "WAYS" = some (.ref p)/\∀H,SqT K H p ([Str.ofString "first",Str.ofString "last",Str.ofString "sum",Str.ofString "count",Str.ofString "least",Str.ofString "greatest",Str.ofString "unlike"].map V.str)):FnOk P w K mg base CX0 5 f fd ["table", "question"] (spP K Dh):=by
 obtain⟨p_WAYS,m7,sq_WAYS⟩:=yO
 refine F.ok zQ (λ_ _ _ _=>Cv) (λcdv A outer s H vs Q E hr h=>?_)
 have hu:=hr.units;have hgd:=hr.gd
 refine Gf (Af (Bv (i:=2) zQ.nd (Kz (Kq:=K) rfl rfl yE (Ae (Bp8 (Kq:=K) rfl (qv 1) (Am8 Aj) (Am8 (Qq Aj))) Ad)))
  (Af (Nh (Be a9 hr (Ae (qv 0) (Ae (Dp (qv 2) (Be e9 hr (Ae (Bb (Kq:=K) rfl (qv 1) (Qq Aj) Mt) Ad))) Ad))))
  (Af (Bv (i:=3) zQ.nd (Pz (Uz (Gs (Kq:=K) rfl rfl zA (Ae (qv 2) Ad)) Aj) (Ah3 (Kq:=K) rfl (O4 (v:=.ref p_WAYS) rfl m7 rfl) (Ed (Ae Do Ad))) (Ed (Ae Do Ad))))
  (Am (Dr (Kc hu (Bb (Kq:=K) rfl (qv 1) Aj Ba) (qv 3) (by with_unfolding_all rfl)) (Am Lj) Bp))))) ?_
 exact Cr (An (Bk (Dg (Bo4 me_var (An6 (Av rfl)) (An6 (Mv (Av rfl) Mx)) A5m) Aa5) Ak)
  (An (Nb (Al (Aa me_var (Aa (Dm (Ag me_var (Al (Aa (Ag me_var (Mv (Av rfl) Mx) Ax) Ah)) Cm)) Ah))))
  (An (Bk (Xf (Bf (Ag (G9 me_var) (Av rfl) Ag6)) (A9g (Eh (Aa (Av rfl) Ah)) sq_WAYS) (Eh (Aa (Av rfl) Ah))) Ak)
  (Dq (Bf (Ag (Ag me_var (Av rfl) Ax) me_var Qm)) Ly Bq)))) h
abbrev yT2 (P w K mg base):=Def P w K mg base "rows_where" 6 ["table", lL] (spP K Ao)
abbrev yT3 (P w K mg base):=Def P w K mg base "column" 4 ["table", "name"] (spP K Di)
theorem Aw5 (F:Fun K "answer" "answer" Ue f fd) (j0:Def P w K mg base "risen" 5 ["values"] (spP K Mj)) (c9:yT3 P w K mg base) (j6:Def P w K mg base "first_seen" 1 ["things"] (spP K Hr)) (i5:Def P w K mg base "put_together" 5 ["some", "way"] (spP K Cj)) (a7:yT2 P w K mg base) (i9:Def P w K mg base "check_question" 5 ["table", "question"] (spP K Dh)) (zA:mg "len" = none):FnOk P w K mg base CX0 7 f fd ["table", "question"] (spP K Bs):=by
 refine F.ok zX (λ_ _ _ _=>Cv) (λcdv A outer s H vs Q E hr h=>?_)
 have hu:=hr.units;have hgd:=hr.gd
 refine Gf (Af (Nh (Be i9 hr (Ae (qv 0) (Ae (qv 1) Ad))))
  (Af (Bv (i:=2) zX.nd (Bb (Kq:=K) rfl (qv 1) Aj Ba))
  (Af (by exact(Iw (i:=3) zX.nd rfl (Or.inl rfl) (N':=["number", "table"]) (idx:=[none,some 0]) Dy rfl (Ef (Kq:=K) rfl (Be a7 hr (Ae (qv 0) (Ae (Bb (Kq:=K) rfl (qv 1) (Qq Aj) Mt) Ad)))) (λ_ _ _ _ _=>by exact(Bt (i:=0) (by show (["number", "table"]:List Str).Nodup;decide +kernel))) qtN (λ_ _ _ _ _=>by exact(Bb (Kq:=K) rfl (Bb (Kq:=K) rfl (qv 1) Aj Ba) (qv 0) Ez))))
  (Af (Dr (Hu hu (qv 2) Do) (Am (Bc (qv 3))) Bp)
  (Af (Bv (i:=4) zX.nd (Be c9 hr (Ae (Ed (Ae (Bb (Kq:=K) rfl (qv 0) Aj Ba) (Ae (qv 3) Ad))) (Ae (Bb (Kq:=K) rfl (qv 1) Aj Ba) Ad))))
  (Af (Dr (Hu hu (qv 2) Do) (Am (Bc (Be j0 hr (Ae (Be j6 hr (Ae (qv 4) Ad)) Ad)))) Bp)
  (Am (Bc (Pz (Uz (Gs (Kq:=K) rfl rfl zA (Ae (qv 4) Ad)) Aj) (Be i5 hr (Ae (qv 4) (Ae (qv 2) Ad))) Gi))))))))) ?_
 exact Cr (An (Nb (Al (Aa me_var (Aa me_var Ah))))
  (An (Bk (Ag me_var (Av rfl) Ax) Ak)
  (An (Bk (Fl (by decide) (Eg (Al (Aa me_var (Aa (Ag me_var (Mv (Av rfl) Mx) Ax) Ah)))) Ak Gd (Ag (Ag me_var (Av rfl) Ax) me_var Ax)) Ak)
  (An (Dq (Bf (Ag me_var (Av rfl) Ex)) (Bd (Dm (Dm me_var))) Bq)
  (An (Bk (Al (Aa (Eh (Aa (Ag me_var (Av rfl) Ax) (Aa (Dm me_var) Ah))) (Aa (Ag me_var (Av rfl) Ax) Ah))) Ak)
  (An (Dq (Bf (Ag me_var (Av rfl) Ex)) (Bd (Dm (Al (Aa (Al (Aa (Dm me_var) Ah)) Ah)))) Bq)
  (Bd (Dm (Xf (Bf (Ag (G9 (Dm me_var)) (Av rfl) Ag6)) (Al (Aa (Dm me_var) (Aa me_var Ah))) (Av rfl)))))))))) h
theorem Xr (F:Fun K "_law_cell_at" "_law_cell_at" Lk f c) (a:mg "len" = none):FnOk P w K mg base CX0 1 f c [lP, "_law_k"] (spP K Fz):=by
 refine F.ok X5 (λ_ _ _ _=>Cv) (λi A b s H g Q E d h=>?_)
 have j:=d.units;have e:=d.gd
 refine Gf (Af (Dr (Ab3 (qv 1) (Gs rfl rfl a (Ae (qv 0) Ad))) (Am (Bc (Bc2 (show IxR _ _ from Bm4) (qv 0) (qv 1) Ez))) Bp)
  (Am (Bc Aj))) ?_
 exact Cr (An (Dq (Bf (Ag me_var (G9 me_var) Ao3)) (Bd (Bj8 me_var me_var)) Bq)
  (Bd (Av rfl))) h
theorem A1z {f:Addr}{g:FuncData}(F:Fun K "_law_box" "_law_box" Wu f g) (a:Def P w K mg base "_law_cell_at" 1 [lP, "_law_k"] (spP K Fz)) (b:mg "abs" = none) (c:mg "int" = none):FnOk P w K mg base CX0 2 f g [lP, "_law_k"] (spP K Ms):=by
 refine F.ok yN (λ_ _ _ _=>Cv) (λl A e s H k Q E d h=>?_)
 have m:=d.units;have j:=d.gd
 refine Gf (Af (Bv (i:=2) yN.nd (Be a d (Ae (qv 0) (Ae (qv 1) Ad))))
  (Am (Bc (Du (Ae (Il (Q5 (Kq:=K) rfl rfl b (Ae (qv 2) Ad)) (Yg (Kq:=K) rfl rfl c (Ae (A4y (Q5 (Kq:=K) rfl rfl b (Ae (qv 2) Ad)) (Qk Aj Aj)) Ad))) (Ae (Dp (Dp (Hj (qv 2) Aj) (Il Aj (qv 1))) Aj) (Ae Aj Ad))))))) ?_
 exact Cr (An (Bk (Al (Aa me_var (Aa me_var Ah))) Ak)
  (Bd (Dv (Aa (Ag (Dg me_var As2) (Dg (Ag (Dg me_var As2) (Ag (Av rfl) (Av rfl) Yy) Bm2) A8j) J1) (Aa (Ag (Ag (Ag me_var (Av rfl) Kl) (Ag (Av rfl) me_var J1) Cm) (Av rfl) Cm) (Aa (Av rfl) Ah)))))) h
theorem At6 (F:Fun K "_law_take" "_law_take" Vg f b):FnOk P w K mg base CX0 1 f b [lH, lK] (spP K Aw):=by
 refine F.ok zY (λ_ _ _ _=>Cv) (λg A a s H d Q E c h=>?_)
 have j:=c.units;have e:=c.gd
 refine Gf (Af (Dr (Uz (Bb (Kq:=K) rfl (qv 0) Aj Ba) Aj) (Af (Bv (i:=2) zY.nd (Hj (Bb (Kq:=K) rfl (qv 0) Aj Ba) (qv 1)))
  (Af (A0r (Tu (Bb (Kq:=K) rfl (qv 0) Aj Ba) (qv 1)) (A1l (qv 0) Aj set_list))
  (Am (Bc (qv 2))))) Bp)
  (Af (A0r (Dp (Bb (Kq:=K) rfl (qv 0) Aj Ba) Aj) (A1l (qv 0) Aj set_list))
  (Af (Bv (i:=3) zY.nd (Hj (Il (Dp (Bb (Kq:=K) rfl (qv 0) Aj Ba) (Il Aj (Bb (Kq:=K) rfl (qv 0) Aj Ba))) (Dp Aj (Bb (Kq:=K) rfl (qv 0) Aj Ba))) Aj))
  (Af (Bv (i:=4) zY.nd (Hj (Il (Dp (qv 3) (Bb (Kq:=K) rfl (qv 0) Aj Ba)) (Dp (Hj (qv 3) Aj) Aj)) Aj))
  (Am (Bc (Hj (Tu (Hj (Dp (Il (qv 4) Aj) (qv 3)) Aj) Aj) (qv 1)))))))) ?_
 exact Cr (An (Dq (Bf (Ag (Ag me_var (Av rfl) Ax) (Av rfl) Ag6)) (An (Bk (Ag (Ag me_var (Av rfl) Ax) me_var Kl) Ak)
  (An (Bk (Ag (Ag me_var (Av rfl) Ax) me_var Ad1) (A2v me_var (Av rfl)))
  (Bd me_var))) Bq)
  (An (Bk (Ag (Ag me_var (Av rfl) Ax) (Av rfl) Cm) (A2v me_var (Av rfl)))
  (An (Bk (Ag (Ag (Ag (Ag me_var (Av rfl) Ax) (Ag (Av rfl) (Ag me_var (Av rfl) Ax) J1) Cm) (Ag (Av rfl) (Ag me_var (Av rfl) Ax) Cm) J1) (Av rfl) Kl) Ak)
  (An (Bk (Ag (Ag (Ag me_var (Ag me_var (Av rfl) Ax) Cm) (Ag (Ag me_var (Av rfl) Kl) (Av rfl) Cm) J1) (Av rfl) Kl) Ak)
  (Bd (Ag (Ag (Ag (Ag (Ag me_var (Av rfl) J1) me_var Cm) (Av rfl) Kl) (Av rfl) Ad1) me_var Kl)))))) h
abbrev yT0 (P w K mg base):=Def P w K mg base "_law_take" 1 [lH, lK] (spP K Aw)
theorem At4 {f:Addr}{d:FuncData}(F:Fun K "_law_many" "_law_many" Uv f d) (a:yT0 P w K mg base):FnOk P w K mg base CX0 2 f d [lH, "_law_least", "_law_few", "_law_most"] (spP K Hl):=by
 refine F.ok Ay0 (λ_ _ _ _=>Cv) (λi A c s H g Q E b h=>?_)
 have e:=b.gd
 refine Gf (Af (Dr (Hu b.units (Be a b (Ae (qv 0) (Ae Aj Ad))) Aj) (Am (Bc (Dp Aj (Be a b (Ae (qv 0) (Ae (Ii (qv 3) Aj) Ad)))))) Bp)
  (Am (Bc (Dp (qv 1) (Be a b (Ae (qv 0) (Ae (Dp (Ii (qv 2) (qv 1)) Aj) Ad))))))) ?_
 exact Cr (An (Dq (Bf (Ag (Al (Aa me_var (Aa (Av rfl) Ah))) (Av rfl) Ex)) (Bd (Ag (Av rfl) (Al (Aa me_var (Aa (Ag me_var (Av rfl) M9) Ah))) Cm)) Bq)
  (Bd (Ag me_var (Al (Aa me_var (Aa (Ag (Ag me_var me_var M9) (Av rfl) Cm) Ah))) Cm))) h
theorem Aj8 {f:Addr}{m:FuncData}(F:Fun K "_law_names" "_law_names" Qz f m) (d:yT0 P w K mg base) (g:mg "len" = none) (e:mg "range" = none):FnOk P w K mg base CX0 2 f m [lH, lK] (spP K Iu):=by
 refine F.ok yI (λ_ _ _ _=>Cv) (λn A j s H l Q E k h=>?_)
 have p:=k.units;have o:=k.gd
 refine Gf (Af (Bv (i:=2) yI.nd (Du (Hk (vs:=[.str "b",.str "a",.str "year",.str "z",.str "ab",.str "month",.str "aa",.str "quantity",.str "c",.str "town",.str "zz",.str "ba"]) rfl)))
  (Am (Bc (by exact(Hv (N':=["_law_turn", "_law_some", lH]) (idx:=[none,some 2,some 0]) Dy rfl (Im rfl e (Ae (qv 1) Ad)) (λ_ _ _ _ _=>by exact(Bt (i:=0) (by show (["_law_turn", "_law_some", lH]:List Str).Nodup;decide +kernel))) qtN (λ_ _ _ _ _=>by exact(Bb0 (Kq:=K) rfl PySem.F.plainAttrs_list PySem.F.slot_list_pop PySem.F.type_list_pop A1r (qv 1) (Ae (Be d k (Ae (qv 2) (Ae (Gs (Kq:=K) rfl rfl g (Ae (qv 1) Ad)) Ad))) Ad)))))))) ?_
 exact Cr (An (Bk (Dv (Ad6 rfl)) Ak)
  (Bd (Fl (by decide) (Mz me_var) Ak Gd (A1a me_var (Al (Aa me_var (Aa (G9 me_var) Ah))))))) h
theorem Ai1 (F:Fun K "_law_value" "_law_value" Ql f g) (c:yT0 P w K mg base):FnOk P w K mg base CX0 2 f g [lH] (spP K Df):=by
 refine F.ok yJ (λ_ _ _ _=>Cv) (λm A e s H k Q E d h=>?_)
 have j:=d.units;have l:=d.gd
 refine Gf (Af (Bv (i:=1) yJ.nd (Be c d (Ae (qv 0) (Ae Aj Ad))))
  (Af (Dr (Ab3 (qv 1) Aj) (Am (Bc (Ii (Be c d (Ae (qv 0) (Ae Aj Ad))) Aj))) Bp)
  (Af (Dr (Hu j (qv 1) Aj) (Am (Bc (Bb (Kq:=K) rfl (Du (Ae (Ii (Qk Aj Aj) Aj) (Ae (Ii Aj (Qk Aj Aj)) (Ae Aj (Ae Aj Ad))))) (Be c d (Ae (qv 0) (Ae Aj Ad))) Er))) Bp)
  (Af (Dr (Hu j (qv 1) Aj) (Am (Bc Gi)) Bp)
  (Am (Bc (Bb (Kq:=K) rfl (Du (Hk (vs:=[.str "",.str "a",.str "b",.str "B",.str "10",.str "9",.str "-",.str "a b",.str "it's",.str "\\",.str "/",.str "_",.str ":",.str "None",.str "ab"]) rfl)) (Be c d (Ae (qv 0) (Ae Aj Ad))) Er))))))) ?_
 exact Cr (An (Bk (Al (Aa me_var (Aa (Av rfl) Ah))) Ak)
  (An (Dq (Bf (Ag me_var (Av rfl) Ao3)) (Bd (Ag (Al (Aa me_var (Aa (Av rfl) Ah))) (Av rfl) M9)) Bq)
  (An (Dq (Bf (Ag me_var (Av rfl) Ex)) (Bd (Ag (Dv (Aa (Ag (Ag (Av rfl) (Av rfl) Yy) (Av rfl) M9) (Aa (Ag (Av rfl) (Ag (Av rfl) (Av rfl) Yy) M9) (Aa (Av rfl) (Aa (Av rfl) Ah))))) (Al (Aa me_var (Aa (Av rfl) Ah))) Ax)) Bq)
  (An (Dq (Bf (Ag me_var (Av rfl) Ex)) (Bd (Av rfl)) Bq)
  (Bd (Ag (Dv (Ad6 rfl)) (Al (Aa me_var (Aa (Av rfl) Ah))) Ax)))))) h
abbrev yT4 (P w K mg base):=Def P w K mg base "_law_value" 2 [lH] (spP K Df)
theorem At5 {f:Addr}{e:FuncData}(F:Fun K "_law_pool" "_law_pool" S9 f e) (a:yT4 P w K mg base) (b:mg "range" = none):FnOk P w K mg base CX0 3 f e [lH, lK] (spP K Gn):=by
 refine F.ok zZ (λ_ _ _ _=>Cv) (λk A c s H j Q E d h=>?_)
 have g:=d.gd
 refine Gf (Af (Bv (i:=2) zZ.nd (Du Ad))
  (Af (Mi PassesOwn.never rfl (Im rfl b (Ae (qv 1) Ad)) (Bt (i:=3) zZ.nd) (Af (Bv (i:=4) zZ.nd (Be a d (Ae (qv 0) Ad)))
  (Am (Dr (Kc d.units (qv 4) (qv 2) (by trivial)) (Am (Nh (Qw (Kq:=K) rfl (qv 2) (qv 4)))) Bp))))
  (Am (Bc (qv 2))))) ?_
 exact Cr (An (Bk (Dv Ah) Ak)
  (An (Qe (Mz me_var) Ak (An (Bk (Al (Aa me_var Ah)) Ak)
  (Dq (Bf (Ag me_var me_var Qm)) (Nb (Ae6 me_var me_var)) Bq)))
  (Bd me_var))) h
theorem Ak1 (F:Fun K "_law_table" "_law_table" Qh f fd) (a8:yT0 P w K mg base) (j9:Def P w K mg base "_law_names" 2 [lH, lK] (spP K Iu)) (i8:Def P w K mg base "_law_pool" 3 [lH, lK] (spP K Gn)) (zA:mg "len" = none) (zH:mg "range" = none) (z9:mg "tuple" = none):FnOk P w K mg base CX0 4 f fd [lH, lK, lR] (spP K Kp):=by
 refine F.ok zJ (λ_ _ _ _=>Cv) (λcdv A outer s H vs Q E hr h=>?_)
 have hu:=hr.units;have hgd:=hr.gd
 refine Gf (Af (Bv (i:=3) zJ.nd (Be j9 hr (Ae (qv 0) (Ae (qv 1) Ad))))
  (Af (by exact(Iw (i:=4) zJ.nd rfl (Or.inl rfl) (N':=[lQ, lH]) (idx:=[none,some 0]) Dy rfl (Ef (Kq:=K) rfl (qv 3)) (λ_ _ _ _ _=>by exact(Bt (i:=0) (by show ([lQ, lH]:List Str).Nodup;decide +kernel))) qtN (λ_ _ _ _ _=>by exact(Be i8 hr (Ae (qv 1) (Ae (Bb (Kq:=K) rfl (Du (Hk (vs:=[.int 2,.int 3,.int 3,.int 5,.int 12]) rfl)) (Be a8 hr (Ae (qv 1) (Ae Aj Ad))) Er) Ad))))))
  (Af (Bv (i:=5) zJ.nd (Du Ad))
  (Af (Mi PassesOwn.never rfl (Im rfl zH (Ae (qv 2) Ad)) (Bt (i:=6) zJ.nd) (Af (Bv (i:=7) zJ.nd (Ck (Kq:=K) rfl rfl z9 (Ae (by exact(Hv (N':=["_law_pool_here", lH]) (idx:=[none,some 0]) Dy rfl (Ef (Kq:=K) rfl (qv 4)) (λ_ _ _ _ _=>by exact(Bt (i:=0) (by show (["_law_pool_here", lH]:List Str).Nodup;decide +kernel))) qtN (λ_ _ _ _ _=>by exact(Bb (Kq:=K) rfl (qv 0) (Be a8 hr (Ae (qv 1) (Ae (Gs (Kq:=K) rfl rfl zA (Ae (qv 0) Ad)) Ad))) Er)))) Ad)))
  (Af (Dr (QW.qt (Bf5 (J3 hu (qv 5) (Du Ad)) (A9b (Hu hu (Be a8 hr (Ae (qv 0) (Ae Aj Ad))) Aj)))) (Am (Bv (i:=7) zJ.nd (Bb (Kq:=K) rfl (qv 5) (Be a8 hr (Ae (qv 0) (Ae (Gs (Kq:=K) rfl rfl zA (Ae (qv 5) Ad)) Ad))) Er))) Bp)
  (Am (Nh (Qw (Kq:=K) rfl (qv 5) (qv 7)))))))
  (Am (Bc (Ed (Ae (Ck (Kq:=K) rfl rfl z9 (Ae (qv 3) Ad)) (Ae (Ck (Kq:=K) rfl rfl z9 (Ae (qv 5) Ad)) Ad))))))))) ?_
 exact Cr (An (Bk (Al (Aa me_var (Aa me_var Ah))) Ak)
  (An (Bk (Fl (by decide) (Eg me_var) Ak Gd (Al (Aa me_var (Aa (Ag (Dv (Ad6 rfl)) (Al (Aa me_var (Aa (Av rfl) Ah))) Ax) Ah)))) Ak)
  (An (Bk (Dv Ah) Ak)
  (An (Qe (Mz me_var) Ak (An (Bk (Dg (Fl (by decide) (Eg me_var) Ak Gd (Ag me_var (Al (Aa me_var (Aa (G9 me_var) Ah))) Ax)) Gq) Ak)
  (An (Dq (Bg8 (Bf (Ag me_var (Dv Ah) Gz)) (Bf (Ag (Al (Aa me_var (Aa (Av rfl) Ah))) (Av rfl) Ex))) (Bk (Ag me_var (Al (Aa me_var (Aa (G9 me_var) Ah))) Ax) Ak) Bq)
  (Nb (Ae6 me_var me_var)))))
  (Bd (Eh (Aa (Dg me_var Gq) (Aa (Dg me_var Gq) Ah)))))))) h
theorem Uc (F:Fun K "_law_any_table" "_law_any_table" Jt f fd) (h8:Def P w K mg base "_law_many" 2 [lH, "_law_least", "_law_few", "_law_most"] (spP K Hl)) (k5:Def P w K mg base "_law_table" 4 [lH, lK, lR] (spP K Kp)):FnOk P w K mg base CX0 5 f fd [lH] (spP K Ft):=by
 refine F.ok T7 (λ_ _ _ _=>Cv) (λcdv A outer s H vs Q E hr h=>?_)
 have hu:=hr.units;have hgd:=hr.gd
 refine Gf (Am (Bc (Be k5 hr (Ae (qv 0) (Ae (Be h8 hr (Ae (qv 0) (Ae Aj (Ae Aj (Ae Aj Ad))))) (Ae (Be h8 hr (Ae (qv 0) (Ae Aj (Ae Aj (Ae Aj Ad))))) Ad)))))) ?_
 exact Cr (Bd (Al (Aa me_var (Aa (Al (Aa me_var (Aa (Av rfl) (Aa (Av rfl) (Aa (Av rfl) Ah))))) (Aa (Al (Aa me_var (Aa (Av rfl) (Aa (Av rfl) (Aa (Av rfl) Ah))))) Ah))))) h
theorem Sd (F:Fun K "_law_conditions" "_law_conditions" Jf f fd) (a8:yT0 P w K mg base) (d7:yT4 P w K mg base) (zA:mg "len" = none) (zH:mg "range" = none):FnOk P w K mg base CX0 3 f fd [lH, "_law_columns", lR] (spP K Dz):=by
 refine F.ok zF (λ_ _ _ _=>Cv) (λcdv A outer s H vs Q E hr h=>?_)
 have hu:=hr.units;have hgd:=hr.gd
 refine Gf (Af (Bv (i:=3) zF.nd (Du Ad))
  (Af (Mi PassesOwn.never rfl (Im rfl zH (Ae (Bb (Kq:=K) rfl (Du (Hk (vs:=[.int 0,.int 1,.int 1,.int 2,.int 3]) rfl)) (Be a8 hr (Ae (qv 0) (Ae Aj Ad))) Er) Ad)) (Bt (i:=4) zF.nd) (Af (Bv (i:=5) zF.nd (Be a8 hr (Ae (qv 0) (Ae (Gs (Kq:=K) rfl rfl zA (Ae (qv 1) Ad)) Ad))))
  (Af (Bv (i:=6) zF.nd (Dp (by exact(Hv (N':=["_law_row", "_law_at"]) (idx:=[none,some 5]) Dy rfl (Ef (Kq:=K) rfl (qv 2)) (λ_ _ _ _ _=>by exact(Bt (i:=0) (by show (["_law_row", "_law_at"]:List Str).Nodup;decide +kernel))) qtN (λ_ _ _ _ _=>by exact(Bb (Kq:=K) rfl (qv 0) (qv 1) Ez)))) (Du (Ae (Be d7 hr (Ae (qv 0) Ad)) Ad))))
  (Af (Bv (i:=7) zF.nd (Bb (Kq:=K) rfl (Du (Hk (vs:=[.str "is",.str "not",.str "below",.str "above"]) rfl)) (Be a8 hr (Ae (qv 0) (Ae Aj Ad))) Er))
  (Am (Nh (Qw (Kq:=K) rfl (qv 3) (Ed (Ae (Bb (Kq:=K) rfl (qv 1) (qv 5) Ez) (Ae (qv 7) (Ae (Bb (Kq:=K) rfl (qv 6) (Be a8 hr (Ae (qv 0) (Ae (Gs (Kq:=K) rfl rfl zA (Ae (qv 6) Ad)) Ad))) Er) Ad)))))))))))
  (Am (Bc (qv 3))))) ?_
 exact Cr (An (Bk (Dv Ah) Ak)
  (An (Qe (Mz (Ag (Dv (Ad6 rfl)) (Al (Aa me_var (Aa (Av rfl) Ah))) Ax)) Ak (An (Bk (Al (Aa me_var (Aa (G9 me_var) Ah))) Ak)
  (An (Bk (Ag (Fl (by decide) (Eg me_var) Ak Gd (Ag me_var me_var Ax)) (Dv (Aa (Al (Aa me_var Ah)) Ah)) Cm) Ak)
  (An (Bk (Ag (Dv (Ad6 rfl)) (Al (Aa me_var (Aa (Av rfl) Ah))) Ax) Ak)
  (Nb (Ae6 me_var (Eh (Aa (Ag me_var me_var Ax) (Aa me_var (Aa (Ag me_var (Al (Aa me_var (Aa (G9 me_var) Ah))) Ax) Ah))))))))))
  (Bd me_var))) h
theorem Qt (F:Fun K "_law_parts_right" "_law_parts_right" H9 f fd) (a7:yT2 P w K mg base) (yE:mg "list" = none) (zP:mg "sorted" = none):FnOk P w K mg base CX0 7 f fd [lJ, lQ, lM, lN] (spP K Ey):=by
 refine F.ok zG (λ_ _ _ _=>Cv) (λcdv A outer s H vs Q E hr h=>?_)
 have hu:=hr.units;have hgd:=hr.gd
 refine Gf (Af (Bv (i:=4) zG.nd A0x) (Af (Mi PassesOwn.never rfl (Ef (Kq:=K) rfl (Ed (Hk (vs:=[.str "is",.str "not",.str "below",.str "above"]) rfl))) (Bt (i:=5) zG.nd) (Am (A8a hu (qv 4) (qv 5) (Be a7 hr (Ae (qv 0) (Ae (Dp (Kz (Kq:=K) rfl rfl yE (Ae (qv 3) Ad)) (Du (Ae (Ed (Ae (qv 1) (Ae (qv 5) (Ae (qv 2) Ad)))) Ad))) Ad))))))
  (Af (Bv (i:=6) zG.nd (Be a7 hr (Ae (qv 0) (Ae (qv 3) Ad))))
  (Af (Dr (J3 hu (Y7 (Kq:=K) rfl hr.un80 rfl zP (Ae (Dp (Qn hu (qv 4) Do Ij) (Qn hu (qv 4) Do Ij)) Ad)) (qv 6)) (Am (Bc Lx)) Bp)
  (Af (Dr (J3 hu (Y7 (Kq:=K) rfl hr.un80 rfl zP (Ae (Dp (Dp (Qn hu (qv 4) Do Ij) (Qn hu (qv 4) Do Ij)) (Qn hu (qv 4) Do Ij)) Ad)) (qv 6)) (Am (Bc Lx)) Bp)
  (Af (Bv (i:=7) zG.nd (Be a7 hr (Ae (qv 0) (Ae (Du (Ae (Ed (Ae (qv 1) (Ae Do (Ae (qv 2) Ad)))) Ad)) Ad))))
  (Am (Bc (A4s hu (by exact(Hv (N':=["_law_n", "_law_alone"]) (idx:=[none,some 7]) Dy rfl (Ef (Kq:=K) rfl (qv 6)) (λ_ _ _ _ _=>by exact(Bt (i:=0) (by show (["_law_n", "_law_alone"]:List Str).Nodup;decide +kernel))) (λ_ _ _ _ _=>by exact(Jk (Bb1 hu (qv 0) (qv 1) (by with_unfolding_all rfl)))) (λ_ _ _ _ _=>by exact(qv 0)))) (Qn hu (qv 4) Do Ij)))))))))) ?_
 exact Cr (A6k (Eg (Eh (Ad6 rfl))) (Al (Aa me_var (Aa (Dm (Ag (Dg me_var Aa5) (Dv (Aa (Eh (Aa me_var (Aa me_var (Aa me_var Ah)))) Ah)) Cm)) Ah)))
  (An (Bk (Al (Aa me_var (Aa me_var Ah))) Ak)
  (An (Dq (Bf (Ag (Dg (Ag (Ni me_var (Av rfl)) (Ni me_var (Av rfl)) Cm) Wg) me_var Gz)) (Bd (Av rfl)) Bq)
  (An (Dq (Bf (Ag (Dg (Ag (Ag (Ni me_var (Av rfl)) (Ni me_var (Av rfl)) Cm) (Ni me_var (Av rfl)) Cm) Wg) me_var Gz)) (Bd (Av rfl)) Bq)
  (An (Bk (Al (Aa me_var (Aa (Dm (Dv (Aa (Eh (Aa me_var (Aa (Av rfl) (Aa me_var Ah)))) Ah))) Ah))) Ak)
  (Bd (Ag (Fl (by decide) (Eg me_var) Ak (Bf (Ag me_var me_var A3q)) me_var) (Ni me_var (Av rfl)) Ex))))))) h
theorem Pn (F:Fun K "_law_values_right" "_law_values_right" Hm f fd) (c9:yT3 P w K mg base) (k0:Def P w K mg base "sorted_by" 6 ["table", "names"] (spP K G8)) (a7:yT2 P w K mg base) (d6:Def P w K mg base "answer" 7 ["table", "question"] (spP K Bs)) (zL:mg "enumerate" = none) (zA:mg "len" = none) (z9:mg "tuple" = none):FnOk P w K mg base CX0 8 f fd [lJ, lQ, lN] (spP K Ep):=by
 refine F.ok z7 (λ_ _ _ _=>Cv) (λcdv A outer s H vs Q E hr h=>?_)
 have hu:=hr.units;have hgd:=hr.gd
 refine Gf (Af (Bv (i:=3) z7.nd (Be a7 hr (Ae (qv 0) (Ae (qv 2) Ad))))
  (Af (Bv (i:=4) z7.nd (Be d6 hr (Ae (qv 0) (Ae (Ed (Ae Do (Ae (qv 2) Ad))) Ad))))
  (Af (Dr (J3 hu (qv 4) (by exact(Hv (N':=["_law_n", lJ]) (idx:=[none,some 0]) Dy rfl (Ef (Kq:=K) rfl (qv 3)) (λ_ _ _ _ _=>by exact(Bt (i:=0) (by show (["_law_n", lJ]:List Str).Nodup;decide +kernel))) qtN (λ_ _ _ _ _=>by exact(Bb (Kq:=K) rfl (Bb (Kq:=K) rfl (qv 1) Aj Ba) (qv 0) Ez))))) (Am (Bc Lx)) Bp)
  (Af (by exact(Iw (i:=5) z7.nd rfl (Or.inl rfl) (N':=["_law_n", lJ, lQ]) (idx:=[none,some 0,some 1]) Dy rfl (Ef (Kq:=K) rfl (qv 3)) (λ_ _ _ _ _=>by exact(Bt (i:=0) (by show (["_law_n", lJ, lQ]:List Str).Nodup;decide +kernel))) qtN (λ_ _ _ _ _=>by exact(Bb (Kq:=K) rfl (Be c9 hr (Ae (qv 1) (Ae (qv 2) Ad))) (qv 0) Ez))))
  (Af (Bv (i:=6) z7.nd (Be d6 hr (Ae (qv 0) (Ae (Ed (Ae Do (Ae (qv 1) (Ae (qv 2) Ad)))) Ad))))
  (Af (by exact(Iw (i:=7) z7.nd rfl (Or.inl rfl) (N':=[lM]) (idx:=[none]) Dy rfl (Ef (Kq:=K) rfl (qv 6)) (λ_ _ _ _ _=>by exact(Bt (i:=0) (by show ([lM]:List Str).Nodup;decide +kernel))) (λ_ _ _ _ _=>by exact(Jk (J9 (qv 0) Gi))) (λ_ _ _ _ _=>by exact(qv 0))))
  (Af (Dr (J3 hu (Be d6 hr (Ae (qv 0) (Ae (Ed (Ae Do (Ae (qv 1) (Ae (qv 2) Ad)))) Ad))) (Pz (J3 hu (qv 5) (Du Ad)) (Gs (Kq:=K) rfl rfl zA (Ae (qv 7) Ad)) Gi)) (Am (Bc Lx)) Bp)
  (Af (by exact(Iw (i:=8) z7.nd rfl (Or.inl rfl) (N':=["_law_word", lJ, lQ, lN]) (idx:=[none,some 0,some 1,some 2]) Dy rfl (Ef (Kq:=K) rfl (Ed (Hk (vs:=[.str "least",.str "greatest",.str "first",.str "last"]) rfl))) (λ_ _ _ _ _=>by exact(Bt (i:=0) (by show (["_law_word", lJ, lQ, lN]:List Str).Nodup;decide +kernel))) qtN (λ_ _ _ _ _=>by exact(Be d6 hr (Ae (qv 1) (Ae (Ed (Ae (qv 0) (Ae (qv 2) (Ae (qv 3) Ad)))) Ad))))))
  (Af (Dr (J3 hu (qv 8) (Du (Ae (Bb (Kq:=K) rfl (Dp (qv 7) (Du (Ae Gi Ad))) Aj Ba) (Ae (Bb (Kq:=K) rfl (Dp (Du (Ae Gi Ad)) (qv 7)) (Qq Aj) Mt) (Ae (Bb (Kq:=K) rfl (Dp (qv 5) (Du (Ae Gi Ad))) Aj Ba) (Ae (Bb (Kq:=K) rfl (Dp (Du (Ae Gi Ad)) (qv 5)) (Qq Aj) Mt) Ad)))))) (Am (Bc Lx)) Bp)
  (Af (Bv (i:=9) z7.nd (Be d6 hr (Ae (qv 0) (Ae (Ed (Ae Do (Ae (qv 1) (Ae (qv 2) Ad)))) Ad))))
  (Af (Dr (J3 hu (qv 9) (Pz (J3 hu (qv 5) (Du Ad)) (Gs (Kq:=K) rfl rfl zA (Ae (by exact(Hv (N':=[lM]) (idx:=[none]) Dy rfl (Ef (Kq:=K) rfl (qv 5)) (λ_ _ _ _ _=>by exact(Bt (i:=0) (by show ([lM]:List Str).Nodup;decide +kernel))) (λ_ _ _ _ _=>by exact(Jk (J9 (qv 0) Gi))) (λ_ _ _ _ _=>by exact(qv 0)))) Ad)) Gi)) (Am (Bc Lx)) Bp)
  (Af (Bv (i:=10) z7.nd (Be c9 hr (Ae (Be k0 hr (Ae (Ed (Ae (Bb (Kq:=K) rfl (qv 0) Aj Ba) (Ae (Ck (Kq:=K) rfl rfl z9 (Ae (qv 4) Ad)) Ad))) (Ae (Du (Ae (qv 1) Ad)) Ad))) (Ae (qv 1) Ad))))
  (Af (Bv (i:=10) z7.nd (by exact(Hv (N':=[lM]) (idx:=[none]) Dy rfl (Ef (Kq:=K) rfl (qv 10)) (λ_ _ _ _ _=>by exact(Bt (i:=0) (by show ([lM]:List Str).Nodup;decide +kernel))) (λ_ _ _ _ _=>by exact(Jk (J9 (qv 0) Gi))) (λ_ _ _ _ _=>by exact(qv 0)))))
  (Am (Bc (A4s hu (by exact(Hv (N':=["_law_k", lM, "_law_some"]) (idx:=[none,none,some 10]) Dy rfl (Am9 rfl zL (Ae (qv 10) Ad)) (λ_ _ _ _ _=>by exact(Ag5 (Kq:=K) rfl (n:=2) rfl (Jw (Bt (i:=0) (by show (["_law_k", lM, "_law_some"]:List Str).Nodup;decide +kernel)) (Jw (Bt (i:=1) (by show (["_law_k", lM, "_law_some"]:List Str).Nodup;decide +kernel)) Yi)))) (λ_ _ _ _ _=>by exact(Jk (QW.qt (A1n (Hu hu (qv 0) Aj) (Ah8 (J3 hu (qv 1) (Bb (Kq:=K) rfl (qv 2) (Ii (qv 0) Aj) plain_bin))))))) (λ_ _ _ _ _=>by exact(qv 1)))) (qv 7))))))))))))))))) ?_
 exact Cr (An (Bk (Al (Aa me_var (Aa me_var Ah))) Ak)
  (An (Bk (Al (Aa me_var (Aa (Eh (Aa (Av rfl) (Aa me_var Ah))) Ah))) Ak)
  (An (Dq (Bf (Ag me_var (Fl (by decide) (Eg me_var) Ak Gd (Ag (Ag me_var (Av rfl) Ax) me_var Ax)) Gz)) (Bd (Av rfl)) Bq)
  (An (Bk (Fl (by decide) (Eg me_var) Ak Gd (Ag (Al (Aa me_var (Aa me_var Ah))) me_var Ax)) Ak)
  (An (Bk (Al (Aa me_var (Aa (Eh (Aa (Av rfl) (Aa me_var (Aa me_var Ah)))) Ah))) Ak)
  (An (Bk (Fl (by decide) (Eg me_var) Ak (Bf (Ag me_var (Av rfl) Pu)) me_var) Ak)
  (An (Dq (Bf (Ag (Al (Aa me_var (Aa (Eh (Aa (Av rfl) (Aa me_var (Aa me_var Ah)))) Ah))) (Xf (Bf (Ag me_var (Dv Ah) Gz)) (G9 me_var) (Av rfl)) Gz)) (Bd (Av rfl)) Bq)
  (An (Bk (Fl (by decide) (Eg (Eh (Ad6 rfl))) Ak Gd (Al (Aa me_var (Aa (Eh (Aa me_var (Aa me_var (Aa me_var Ah)))) Ah)))) Ak)
  (An (Dq (Bf (Ag me_var (Dv (Aa (Ag (Ag me_var (Dv (Aa (Av rfl) Ah)) Cm) (Av rfl) Ax) (Aa (Ag (Ag (Dv (Aa (Av rfl) Ah)) me_var Cm) (Mv (Av rfl) Mx) Ax) (Aa (Ag (Ag me_var (Dv (Aa (Av rfl) Ah)) Cm) (Av rfl) Ax) (Aa (Ag (Ag (Dv (Aa (Av rfl) Ah)) me_var Cm) (Mv (Av rfl) Mx) Ax) Ah))))) Gz)) (Bd (Av rfl)) Bq)
  (An (Bk (Al (Aa me_var (Aa (Eh (Aa (Av rfl) (Aa me_var (Aa me_var Ah)))) Ah))) Ak)
  (An (Dq (Bf (Ag me_var (Xf (Bf (Ag me_var (Dv Ah) Gz)) (G9 (Fl (by decide) (Eg me_var) Ak (Bf (Ag me_var (Av rfl) Pu)) me_var)) (Av rfl)) Gz)) (Bd (Av rfl)) Bq)
  (An (Bk (Al (Aa (Al (Aa (Eh (Aa (Ag me_var (Av rfl) Ax) (Aa (Dg me_var Gq) Ah))) (Aa (Dm (Dv (Aa me_var Ah))) Ah))) (Aa me_var Ah))) Ak)
  (An (Bk (Fl (by decide) (Eg me_var) Ak (Bf (Ag me_var (Av rfl) Pu)) me_var) Ak)
  (Bd (Ag (Fl (by decide) (Aq9 me_var) (Ak2 (Jv Ak (Jv Ak Xd))) (A3k (Bf (Ag me_var (Av rfl) Ex)) (Bf (Ag me_var (Ag me_var (Ag me_var (Av rfl) M9) Ax) Gz))) me_var) me_var Ex))))))))))))))) h
theorem Be6 (F:Fun K "law" "law" A0o f fd) (c9:yT3 P w K mg base) (h9:Def P w K mg base "kept" 5 ["table", "names"] (spP K Pj)) (a7:yT2 P w K mg base) (i7:Def P w K mg base "_law_box" 2 [lP, "_law_k"] (spP K Ms)) (a8:yT0 P w K mg base) (d7:yT4 P w K mg base) (k6:Def P w K mg base "_law_any_table" 5 [lH] (spP K Ft)) (h7:Def P w K mg base "_law_conditions" 3 [lH, "_law_columns", lR] (spP K Dz)) (j8:Def P w K mg base "_law_parts_right" 7 [lJ, lQ, lM, lN] (spP K Ey)) (i6:Def P w K mg base "_law_values_right" 8 [lJ, lQ, lN] (spP K Ep)) (zA:mg "len" = none) (yG:mg "min" = none) (zH:mg "range" = none):FnOk P w K mg base CX0 9 f fd [lP] (spP K Af1):=by
 refine F.ok zN (λ_ _ _ _=>Cv) (λcdv A outer s H vs Q E hr h=>?_)
 have hu:=hr.units;have hgd:=hr.gd
 refine Gf (Af (Mi PassesOwn.never rfl (Im rfl zH (Ae (Dp Aj (Yk (Kq:=K) rfl rfl rfl yG (Ae Aj (Ae (Gs (Kq:=K) rfl rfl zA (Ae (qv 0) Ad)) Ad)))) Ad)) (Bt (i:=1) zN.nd) (Af (Bv (i:=2) zN.nd (Be i7 hr (Ae (qv 0) (Ae (qv 1) Ad))))
  (Af (Bv (i:=3) zN.nd (Be k6 hr (Ae (qv 2) Ad)))
  (Am (Mi PassesOwn.never rfl (Im rfl zH (Ae Aj Ad)) (Bt (i:=4) zN.nd) (Af (Bv (i:=5) zN.nd (Be h7 hr (Ae (qv 2) (Ae (Bb (Kq:=K) rfl (qv 3) Aj Ba) (Ae (Bb (Kq:=K) rfl (qv 3) Aj Ba) Ad)))))
  (Af (Bv (i:=6) zN.nd (Be h7 hr (Ae (qv 2) (Ae (Bb (Kq:=K) rfl (qv 3) Aj Ba) (Ae (Bb (Kq:=K) rfl (qv 3) Aj Ba) Ad)))))
  (Af (by exact(Iw (i:=7) zN.nd rfl (Or.inl rfl) (N':=["_law_n", lJ, "_law_other"]) (idx:=[none,some 3,some 6]) Dy rfl (Ef (Kq:=K) rfl (Be a7 hr (Ae (qv 3) (Ae (qv 5) Ad)))) (λ_ _ _ _ _=>by exact(Bt (i:=0) (by show (["_law_n", lJ, "_law_other"]:List Str).Nodup;decide +kernel))) (λ_ _ _ _ _=>by exact(Jk (Bb1 hu (qv 0) (Be a7 hr (Ae (qv 1) (Ae (qv 2) Ad))) (by with_unfolding_all rfl)))) (λ_ _ _ _ _=>by exact(qv 0))))
  (Af (Dr (QW.qt (A1n (J3 hu (Be a7 hr (Ae (qv 3) (Ae (Dp (qv 5) (qv 6)) Ad))) (qv 7)) (Ah8 (J3 hu (Be a7 hr (Ae (qv 3) (Ae (Dp (qv 6) (qv 5)) Ad))) (qv 7))))) (Am (Bc Lx)) Bp)
  (Af (Bv (i:=8) zN.nd (Bb (Kq:=K) rfl (Bb (Kq:=K) rfl (qv 3) Aj Ba) (Be a8 hr (Ae (qv 2) (Ae (Gs (Kq:=K) rfl rfl zA (Ae (Bb (Kq:=K) rfl (qv 3) Aj Ba) Ad)) Ad))) Er))
  (Af (Bv (i:=9) zN.nd (Bb (Kq:=K) rfl (Dp (Be c9 hr (Ae (qv 3) (Ae (qv 8) Ad))) (Du (Ae (Be d7 hr (Ae (qv 2) Ad)) Ad))) (Be a8 hr (Ae (qv 2) (Ae (Dp (Gs (Kq:=K) rfl rfl zA (Ae (Bb (Kq:=K) rfl (qv 3) Aj Ba) Ad)) Aj) Ad))) Er))
  (Af (Dr (QW.qt (A1n (A4c (Qj (Be j8 hr (Ae (qv 3) (Ae (qv 8) (Ae (qv 9) (Ae (qv 5) Ad))))))) (Ah8 (A4c (Qj (Be i6 hr (Ae (qv 3) (Ae (qv 8) (Ae (Dp (qv 5) (qv 6)) Ad))))))))) (Am (Bc Lx)) Bp)
  (Af (Bv (i:=10) zN.nd (Be h9 hr (Ae (qv 3) (Ae (Du (Ae (qv 8) Ad)) Ad))))
  (Am (Dr (J3 hu (Be a7 hr (Ae (qv 10) (Ae (Du (Ae (Ed (Ae (qv 8) (Ae Do (Ae (qv 9) Ad)))) Ad)) Ad))) (Be a7 hr (Ae (qv 3) (Ae (Du (Ae (Ed (Ae (qv 8) (Ae Do (Ae (qv 9) Ad)))) Ad)) Ad)))) (Am (Bc Lx)) Bp)))))))))))))))
  (Am (Bc Lx))) ?_
 exact Cr (An (Qe (Mz (Ag (Av rfl) (A8t (Av rfl) (G9 me_var)) Cm)) Ak (An (Bk (Al (Aa me_var (Aa me_var Ah))) Ak)
  (An (Bk (Al (Aa me_var Ah)) Ak)
  (Qe (Mz (Av rfl)) Ak (An (Bk (Al (Aa me_var (Aa (Ag me_var (Av rfl) Ax) (Aa (Ag me_var (Av rfl) Ax) Ah)))) Ak)
  (An (Bk (Al (Aa me_var (Aa (Ag me_var (Av rfl) Ax) (Aa (Ag me_var (Av rfl) Ax) Ah)))) Ak)
  (An (Bk (Fl (by decide) (Bc9 (Eg (Al (Aa me_var (Aa (Dm me_var) Ah))))) Ak (Bf (Ag me_var (Al (Aa me_var (Aa me_var Ah))) A3q)) me_var) Ak)
  (An (Dq (A3k (Bf (Ag (Al (Aa me_var (Aa (Dm (Ag (Dm me_var) (Dm me_var) Cm)) Ah))) (Dm me_var) Gz)) (Bf (Ag (Al (Aa me_var (Aa (Dm (Ag (Dm me_var) (Dm me_var) Cm)) Ah))) (Dm me_var) Gz))) (Bd (Av rfl)) Bq)
  (An (Bk (Ag (Ag me_var (Av rfl) Ax) (Al (Aa me_var (Aa (G9 (Ag me_var (Av rfl) Ax)) Ah))) Ax) Ak)
  (An (Bk (Ag (Ag (Al (Aa me_var (Aa me_var Ah))) (Dv (Aa (Al (Aa me_var Ah)) Ah)) Cm) (Al (Aa me_var (Aa (Ag (G9 (Ag me_var (Av rfl) Ax)) (Av rfl) Cm) Ah))) Ax) Ak)
  (An (Dq (A3k (A0d (Av6 (Al (Aa me_var (Aa me_var (Aa me_var (Aa (Dm me_var) Ah))))))) (A0d (Av6 (Al (Aa me_var (Aa me_var (Aa (Dm (Ag (Dm me_var) (Dm me_var) Cm)) Ah))))))) (Bd (Av rfl)) Bq)
  (An (Bk (Al (Aa me_var (Aa (Dm (Dv (Aa me_var Ah))) Ah))) Ak)
  (Dq (Bf (Ag (Al (Aa me_var (Aa (Dm (Dv (Aa (Eh (Aa me_var (Aa (Av rfl) (Aa me_var Ah)))) Ah))) Ah))) (Al (Aa me_var (Aa (Dm (Dv (Aa (Eh (Aa me_var (Aa (Av rfl) (Aa me_var Ah)))) Ah))) Ah))) Gz)) (Bd (Av rfl)) Bq)))))))))))))
  (Bd (Av rfl))) h
end
theorem lnS {us:List Value}(h:us.length=n+1):∃x r,us=x::r/\r.length=n:=by
 cases us with
 | nil=>grind
 | cons x r=>grind
theorem ln1 {us:List Value}(h:us.length=1):∃x0,us=[x0]:=by
 obtain⟨x,r,a,b⟩:=lnS h
 simp_all
theorem ln2 {us:List Value}(h:us.length=2):∃c b,us=[c,b]:=by
 obtain⟨c,r,a,d⟩:=lnS h;obtain⟨b,a⟩:=ln1 d
 grind
theorem ln3 {us:List Value}(h:us.length=3):∃c d b,us=[c,d,b]:=by
 obtain⟨c,r,a,e⟩:=lnS h;obtain⟨d,b,a⟩:=ln2 e
 grind
theorem ln4 {us:List Value}(h:us.length=4):∃c d e b,us=[c,d,e,b]:=by
 obtain⟨c,r,a,f⟩:=lnS h;obtain⟨d,e,b,a⟩:=ln3 f
 grind
theorem _root_.bi {st:Stmt}(F:L2.Fun K x qual st f d)(ps:List Str)(h:∀(i b e:Value) (g:Option Addr) (a c:Value) (us:List Value),us.length=ps.length->bindArgs (PySem.W.fnOf x qual (Jm st) (Hq st) (Ay st) .none i b e g a c) ⟨us,[]⟩=pure (ps.zip us):=by intro _ _ _ _ _ _ us hl;first | (obtain⟨_,rfl⟩:=ln1 hl;rfl) | (obtain⟨_,_,rfl⟩:=ln2 hl;rfl) | (obtain⟨_,_,_,rfl⟩:=ln3 hl;rfl) | (obtain⟨_,_,_,_,rfl⟩:=ln4 hl;rfl)):L2.Binds K d ps []:=F.binds h
theorem mkD (a:FnOk P w K mg base CX0 k f d ps sp) (b:Binds K d ps []) (c:PySem.W.keepIn K (.ref f)=true) (g:mg x=some (.ref f)):Def P w K mg base x k ps sp:=⟨f,d,a,b,c,g⟩
theorem Cw (T:PyProof.Rows.Top q loose g mg j h) (k:∀a o,h.get? a=some o->Gx o=true->o.data≠.fields #[]->K.lookup a=some o) (l:(PyProof.Rows.recsOf q).map (λd=>(d.name,d.params,d.body,d.scope))=L) {i:Nat} (e:L[i]?=some (x,Jm st,Hq st,Ay st)):∃f fd,Fun K x x st f fd/\mg x=some (.ref f):=by
 obtain⟨d,m,rfl,a,b,c⟩:=Y8 l e;exact A7i T k m a b c
abbrev rr (x:Str)(i:Nat):Str×Arguments×List Stmt×Scope:=(x,Jm (top i),Hq (top i),Ay (top i))
theorem Bl9 {l:PySem.W.OpenLaw}{w:World}{q:Program}{loose:List Str}{mean:ExcName->Option Value}{mg mb:Str->Option Value}{h:Heap}{fa:Addr}(T:PyProof.Rows.Top q loose mean mg mb h)(hfa:mg "law" = some (.ref fa))
 (hlaw:∀ns:List Int,ns.length<=63->Af1 [.sc ns]=.ret (.im (.bool true)) [.sc ns])
 (hR:(PyProof.Rows.recsOf q).map (λd=>(d.name,d.params,d.body,d.scope))=[rr "rank" 6,rr "stands_ahead" 7,rr "risen" 8,rr "place_of" 10,rr "places_of" 11,rr "values_at" 12,rr "column" 13,rr "kept" 14,rr "sorted_by" 15,rr "first_seen" 17,rr "sum_of" 20,rr "put_together" 21,rr "columns_of" 24,rr "check_words" 25,rr "holds" 26,rr "all_hold" 27,rr "rows_where" 28,rr "check_question" 29,rr "answer" 30,rr "_law_cell_at" 32,rr "_law_box" 33,rr "_law_take" 34,rr "_law_many" 35,rr "_law_names" 36,rr "_law_value" 37,rr "_law_pool" 38,rr "_law_table" 39,rr "_law_any_table" 40,rr "_law_same" 41,rr "_law_conditions" 42,rr "_law_parts_right" 43,rr "_law_values_right" 44,rr "law" 45])
 (hB:(["abs", "all", "any", "enumerate", "int", "isinstance", "len", "list", "max", "min", "range", "set", "sorted", "str", "sum", "tuple", "zip"]:List Str).all (A4n q loose [("rank" : Str),("stands_ahead" : Str),("risen" : Str),("place_of" : Str),("places_of" : Str),("values_at" : Str),("column" : Str),("kept" : Str),("sorted_by" : Str),("first_seen" : Str),("sum_of" : Str),("put_together" : Str),("columns_of" : Str),("check_words" : Str),("holds" : Str),("all_hold" : Str),("rows_where" : Str),("check_question" : Str),("answer" : Str),("_law_cell_at" : Str),("_law_box" : Str),("_law_take" : Str),("_law_many" : Str),("_law_names" : Str),("_law_value" : Str),("_law_pool" : Str),("_law_table" : Str),("_law_any_table" : Str),("_law_same" : Str),("_law_conditions" : Str),("_law_parts_right" : Str),("_law_values_right" : Str),("law" : Str)])=true)
 (hX:Ax4 tcT mg h) :
 ∃(K:PySem.W.Frag) (fd:FuncData),K.In h/\TabAt K h/\(∀(s:Shared) (v:Value),BindsTo s fd ⟨[v],[]⟩ [("_law_script",v)])/\∀base:Heap,K.In base->base.Ns mainGlobals mg->FnOk l.prog w K mg base CX0 9 fa fd [lP] (Ao0 K):=by
 obtain⟨d9,m9,n9,p9⟩:=Y8 hR (i:=8) rfl;obtain⟨yC,T_sorted_by,hd_sorted_by,ht_sorted_by,hc_sorted_by⟩:=A7x T m9
 obtain⟨kin,tab,hcd,hK⟩:=Bo1 (h:=h) (tabs:=[(yC,T_sorted_by,(("sorted_by" : Str) ++ ".<locals>." ++ "<lambda>"))]) (λt m=>by cases List.mem_singleton.mp m;exact⟨hd_sorted_by,ht_sorted_by⟩) (λt m=>by cases List.mem_singleton.mp m;simp)
 obtain⟨lc_sorted_by,lt_sorted_by⟩:=hcd _ (List.mem_singleton.mpr rfl)
 generalize O9 h [(yC,T_sorted_by,(("sorted_by" : Str) ++ ".<locals>." ++ "<lambda>"))]=K at *
 obtain⟨f1,fd1,F1,g1⟩:=Cw T hK hR (st:=Yv) (i:=0) rfl;have b1:=bi F1 ["value"];obtain⟨f2,fd2,F2,g2⟩:=Cw T hK hR (st:=Ja) (i:=1) rfl;have b2:=bi F2 ["one", "other"];obtain⟨f3,fd3,F3,g3⟩:=Cw T hK hR (st:=Yb) (i:=2) rfl;have b3:=bi F3 ["values"];obtain⟨f4,fd4,F4,g4⟩:=Cw T hK hR (st:=N7) (i:=3) rfl;have b4:=bi F4 ["table", "name"];obtain⟨f5,fd5,F5,g5⟩:=Cw T hK hR (st:=Mf) (i:=4) rfl;have b5:=bi F5 ["table", "names"];obtain⟨f6,fd6,F6,g6⟩:=Cw T hK hR (st:=Ln) (i:=5) rfl;have b6:=bi F6 ["row", "places"];obtain⟨f7,fd7,F7,g7⟩:=Cw T hK hR (st:=U3) (i:=6) rfl;have b7:=bi F7 ["table", "name"];obtain⟨f8,fd8,F8,g8⟩:=Cw T hK hR (st:=Af2) (i:=7) rfl;have b8:=bi F8 ["table", "names"];obtain⟨f9,fd9,F9,g9⟩:=Cw T hK hR (st:=Lb) (i:=8) rfl;have b9:=bi F9 ["table", "names"]
 have ld_sorted_by:fd9.code=.ref yC:=A0g F9 kin (by have z:d9.name = "sorted_by" := n9;rw[<- z];exact hc_sorted_by) g9
 obtain⟨f10,fd10,F10,g10⟩:=Cw T hK hR (st:=Kr) (i:=9) rfl;have b10:=bi F10 ["things"];obtain⟨f11,fd11,F11,g11⟩:=Cw T hK hR (st:=Uw) (i:=10) rfl;have b11:=bi F11 ["numbers"];obtain⟨f12,fd12,F12,g12⟩:=Cw T hK hR (st:=Jh) (i:=11) rfl;have b12:=bi F12 ["some", "way"];obtain⟨f13,fd13,F13,g13⟩:=Cw T hK hR (st:=Ke) (i:=12) rfl;have b13:=bi F13 [lL];obtain⟨f14,fd14,F14,g14⟩:=Cw T hK hR (st:=Jp) (i:=13) rfl;have b14:=bi F14 [lL];obtain⟨f15,fd15,F15,g15⟩:=Cw T hK hR (st:=Yp) (i:=14) rfl;have b15:=bi F15 ["value", "word", "told"];obtain⟨f16,fd16,F16,g16⟩:=Cw T hK hR (st:=Nx) (i:=15) rfl;have b16:=bi F16 ["row", "places", lL];obtain⟨f17,fd17,F17,g17⟩:=Cw T hK hR (st:=J7) (i:=16) rfl;have b17:=bi F17 ["table", lL];obtain⟨f18,fd18,F18,g18⟩:=Cw T hK hR (st:=Hn) (i:=17) rfl;have b18:=bi F18 ["table", "question"];obtain⟨f19,fd19,F19,g19⟩:=Cw T hK hR (st:=Ue) (i:=18) rfl;have b19:=bi F19 ["table", "question"];obtain⟨f20,fd20,F20,g20⟩:=Cw T hK hR (st:=Lk) (i:=19) rfl;have b20:=bi F20 [lP, "_law_k"];obtain⟨f21,fd21,F21,g21⟩:=Cw T hK hR (st:=Wu) (i:=20) rfl;have b21:=bi F21 [lP, "_law_k"];obtain⟨f22,fd22,F22,g22⟩:=Cw T hK hR (st:=Vg) (i:=21) rfl;have b22:=bi F22 [lH, lK];obtain⟨f23,fd23,F23,g23⟩:=Cw T hK hR (st:=Uv) (i:=22) rfl;have b23:=bi F23 [lH, "_law_least", "_law_few", "_law_most"];obtain⟨f24,fd24,F24,g24⟩:=Cw T hK hR (st:=Qz) (i:=23) rfl;have b24:=bi F24 [lH, lK];obtain⟨f25,fd25,F25,g25⟩:=Cw T hK hR (st:=Ql) (i:=24) rfl;have b25:=bi F25 [lH];obtain⟨f26,fd26,F26,g26⟩:=Cw T hK hR (st:=S9) (i:=25) rfl;have b26:=bi F26 [lH, lK];obtain⟨f27,fd27,F27,g27⟩:=Cw T hK hR (st:=Qh) (i:=26) rfl;have b27:=bi F27 [lH, lK, lR];obtain⟨f28,fd28,F28,g28⟩:=Cw T hK hR (st:=Jt) (i:=27) rfl;have b28:=bi F28 [lH];obtain⟨f29,fd29,F29,g29⟩:=Cw T hK hR (st:=Jf) (i:=29) rfl;have b29:=bi F29 [lH, "_law_columns", lR];obtain⟨f30,fd30,F30,g30⟩:=Cw T hK hR (st:=H9) (i:=30) rfl;have b30:=bi F30 [lJ, lQ, lM, lN];obtain⟨f31,fd31,F31,g31⟩:=Cw T hK hR (st:=Hm) (i:=31) rfl;have b31:=bi F31 [lJ, lQ, lN];obtain⟨f32,fd32,F32,g32⟩:=Cw T hK hR (st:=A0o) (i:=32) rfl;have b32:=bi F32 [lP]
 have yV:=Dt (x := "abs") T (Dd hR) hB (by simp)
 have yS:=Dt (x := "all") T (Dd hR) hB (by simp)
 have yW:=Dt (x := "any") T (Dd hR) hB (by simp)
 have zL:=Dt (x := "enumerate") T (Dd hR) hB (by simp)
 have yK:=Dt (x := "int") T (Dd hR) hB (by simp)
 have zO:=Dt (x := "isinstance") T (Dd hR) hB (by simp)
 have zA:=Dt (x := "len") T (Dd hR) hB (by simp)
 have yE:=Dt (x := "list") T (Dd hR) hB (by simp)
 have yQ:=Dt (x := "max") T (Dd hR) hB (by simp)
 have yG:=Dt (x := "min") T (Dd hR) hB (by simp)
 have zH:=Dt (x := "range") T (Dd hR) hB (by simp)
 have yR:=Dt (x := "set") T (Dd hR) hB (by simp)
 have zP:=Dt (x := "sorted") T (Dd hR) hB (by simp)
 have yL:=Dt (x := "str") T (Dd hR) hB (by simp)
 have yX:=Dt (x := "sum") T (Dd hR) hB (by simp)
 have z9:=Dt (x := "tuple") T (Dd hR) hB (by simp)
 have yU:=Dt (x := "zip") T (Dd hR) hB (by simp)
 have zR:=Ar9 hX hK (i:=0) (y := "CONDITION_WORDS") (ss:=[Str.ofString "is",Str.ofString "not",Str.ofString "below",Str.ofString "above"]) rfl;have yO:=Ar9 hX hK (i:=1) (y := "WAYS") (ss:=[Str.ofString "first",Str.ofString "last",Str.ofString "sum",Str.ofString "count",Str.ofString "least",Str.ofString "greatest",Str.ofString "unlike"]) rfl;have e:=hfa.symm.trans g32
 cases e
 refine⟨K,fd32,kin,tab,Az7 F32 (λkV dc pm an cd ct s v=>.of_eq rfl),λbase _ _=>?_⟩
 have M:∀{k f fd x ps sp},FnOk l.prog w K mg base CX0 k f fd ps sp->Binds K fd ps []->PySem.W.keepIn K (.ref f)=true->mg x=some (.ref f)->Def l.prog w K mg base x k ps sp:=mkD;have c7:Def l.prog w K mg base "rank" 2 ["value"] (spP K (Bu 2)):=mkD (Zb F1 b1 g1 yK zO yL z9 2) b1 F1.kp g1;have g0:=M (Rz F2 c7) b2 F2.kp g2;have j0:=M (A0n F3 c7 zP) b3 F3.kp g3;have e8:=M (Ad2 F4 ) b4 F4.kp g4;have a9:=M (W7 F5 e8) b5 F5.kp g5;have d8:=M (Wt F6 z9) b6 F6.kp g6;have c9:=M (Aw4 F7 e8) b7 F7.kp g7;have h9:=M (A5o F8 a9 d8 z9) b8 F8.kp g8;have k0:=M (Y5 F9 lt_sorted_by lc_sorted_by ld_sorted_by c7 a9 d8 zP z9) b9 F9.kp g9;have j6:=M (Vo F10 z9) b10 F10.kp g10;have k7:=M (Ay2 F11 yW zO yL yX) b11 F11.kp g11;have i5:=M (Rw F12 c7 k7 zA yQ yG yR) b12 F12.kp g12;have e9:=M (Vr F13 ) b13 F13.kp g13;have i4:=M (Ut F14 zR) b14 F14.kp g14;have k8:=M (A3d F15 g0) b15 F15.kp g15;have j7:=M (Z0 F16 k8 yS yU) b16 F16.kp g16;have a7:=M (Vn F17 a9 e9 i4 j7 zL) b17 F17.kp g17;have i9:=M (O7 F18 a9 e9 zA yE yO) b18 F18.kp g18;have d6:=M (Aw5 F19 j0 c9 j6 i5 a7 i9 zA) b19 F19.kp g19;have m8:=M (Xr F20 zA) b20 F20.kp g20;have i7:=M (A1z F21 m8 yV yK) b21 F21.kp g21;have a8:=M (At6 F22 ) b22 F22.kp g22;have h8:=M (At4 F23 a8) b23 F23.kp g23;have j9:=M (Aj8 F24 a8 zA zH) b24 F24.kp g24;have d7:=M (Ai1 F25 a8) b25 F25.kp g25;have i8:=M (At5 F26 d7 zH) b26 F26.kp g26;have k5:=M (Ak1 F27 a8 j9 i8 zA zH z9) b27 F27.kp g27;have k6:=M (Uc F28 h8 k5) b28 F28.kp g28;have h7:=M (Sd F29 a8 d7 zA zH) b29 F29.kp g29;have j8:=M (Qt F30 a7 yE zP) b30 F30.kp g30;have i6:=M (Pn F31 c9 k0 a7 d6 zL zA z9) b31 F31.kp g31
 exact(Be6 F32 c9 h9 a7 i7 a8 d7 k6 h7 j8 i6 zA yG zH).imp λvs H Q E h=>Bi6 hlaw h
theorem walk {l:PySem.W.OpenLaw}{q:Program}{loose:List Str}{XP:(Str->Option Value)->Heap->Prop}{YP:World->Heap->Prop}{d:DefRec}(hn:l.most=some 63)(hdf:d.params.defaults=[])
 (F:∀(w:World) (mean:ExcName->Option Value) (mg mb:Str->Option Value) (fa:Addr) (h:Heap),PyProof.Rows.Top q (PySem.W.looseW q loose) mean mg mb h->XP mg h->mg d.name=some (.ref fa) ->
  ∃(K:PySem.W.Frag) (fd:FuncData),K.In h/\TabAt K h/\(∀(s:Shared) (u:Value),BindsTo s fd ⟨[u],[]⟩ [("_law_script",u)])/\∀base:Heap,K.In base->base.Ns mainGlobals mg->FnOk l.prog w K mg base CX0 9 fa fd [lP] (Ao0 K)) :
 PySem.W.WalkO q loose XP YP l.row.toRowW d [] (λf vs=>PySem.call f vs) :=
 L2.walk_ofX (n:=63) (k:=9) (x := "_law_script") (sp:=Ao0) hn (by decide) hdf ⟨rfl,by decide,by decide,rfl⟩ F λ_ _ a ns hl hS=>⟨a,ns,rfl,hS,hl,λ_=>rfl⟩
end K
open PySem PySem.W PyProof.Rows
set_option maxHeartbeats 0
namespace K
noncomputable def dOf:Stmt->DefRec
 | .FunctionDef _ a b _ _ _ s _ _ p=>⟨"law",a,b,s,p⟩
 | _=>⟨"law",⟨[],[],none,[],[],none,[]⟩,[],default,default⟩
def dL:DefRec:=⟨"law",(dOf (top 45)).params,(dOf (top 45)).body,(dOf (top 45)).scope,(dOf (top 45)).pos⟩
theorem Bp6:rwT.wellSaid=true:=by kernel_rfl
theorem Bu9:defOf qT rwT.row.name=some (dL,[]):=by kernel_rfl
theorem Bv6:rwT.row.prog.theDef rwT.row.name=some (dL.params,dL.body,dL.scope):=by trivial
theorem kwT:kwWritten? dL.params.kwonlyargs dL.params.kw_defaults=some []:=by trivial
theorem okT:(chainsOk qT&&opensWell rwT.row.prog&&(frees rwT.row.toRowW&&rwT.row.within.isEmpty))=true:=by trivial
theorem dfT:dL.params.defaults=[]:=by rfl
theorem Bt4:rwT.row.prog.bare:=⟨rfl,rfl,rfl,rfl,rfl,by decide +kernel⟩
theorem Bo9:rwT.row.toRowW.promised:=by w_witness2
end K
theorem PySem.Challenge.cw_pivotfold_k49_questions_walked_holds : PySem.Challenge.rw_pivotfold_k49_questions_walked.Holds := by
 refine holds_law K.Bp6 λsaid=>?_
 refine holds_open (q:=K.qT) (loose:=["CONDITION_WORDS", "WAYS"]) (Xt:=K.xtT) (XP:=L2.Ax4 K.tcT) (Yf:=Hook.none.obs) (Ya:=Hook.none.val) (YP:=Hook.none.says) (N:=20000) K.Bm9 Hook.none.of Hook.none.keeps (λs e=>L2.Bt6 (Bool.and_eq_true_iff.mp e).2) L2.A0i K.Bu9 K.Bv6 K.kwT (λs e=>recFacts_of (Bool.and_eq_true_iff.mp (Bool.and_eq_true_iff.mp e).1).2) rfl said K.okT K.Bt4 K.Bo9 ?_
 refine K.walk (l:=PySem.Challenge.rw_pivotfold_k49_questions_walked) rfl K.dfT ?F
 case F =>
  intro w mean mg mb fa h T X hmg
  refine K.Bl9 T hmg K.A1v ?R ?B X
  (case R=>kernel_rfl); (case B=>kernel_rfl)
end
