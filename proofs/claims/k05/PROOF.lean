import PyProof.Rows.All
import PyProof.FactsAll.NoneType_1
import Wide.All
import OpenK.AllK
import Wide.FinOn
import Lean
import PyProof.EqAt
import PyProof.EqKinds
import PyProof.TupleCall
import PyProof.StrWalks
import PyProof.StrLawsRepr
import PyProof.ListMulRoad
import PyProof.StrOps2
import PyProof.CallStr
import PyProof.CollectStr
import PyProof.TupleOfSeq
import PyProof.DictTable
import KE.KSortTup
import PyProof.MeetsStr
import PyProof.FactsAll.str_5
import PyProof.StrBlockG
import PyProof.AttrMiss
import PyProof.FactsAll.zip_1
import KE.KDictOf
import PyProof.AttrMissHeap
import KE.KTryMore
import KE.KRevIter
import PyProof.ListRange
import PyProof.FactsAll.dict_3
import PyProof.MeetsDict
import PyProof.FactsAll.dict_keyiterator
import PyProof.DictItems
import PyProof.DictValues
import KE.KPairComp
import PyProof.TupleOfStr
import PyProof.TupleOfGen
import PyProof.DictWalks
import PyProof.ListNew
import PyProof.StrCalls5
import PyProof.StrCalls6
import PyProof.ToksMono
import PyProof.StrCalls2
import PyProof.JoinWalk
import KE.KIntText
import PyProof.Draws
import PyProof.EnumMake
import PyProof.Rows.Range3
import PyProof.StrBlock2
import PySem.Challenge.RW_pivotfold_k05_rows_that_agree
set_option genInjectivity false
set_option genSizeOf false
set_option Elab.async false
set_option linter.all false
set_option maxRecDepth 100000
noncomputable section
namespace K
open PySem PySem.W PyProof.Rows
abbrev pwT:=PySem.Challenge.pw_pivotfold_k05_rows_that_agree
abbrev rwT:=PySem.Challenge.rw_pivotfold_k05_rows_that_agree
noncomputable def Bk7:Stmt->Bool
 | .Assign [.Name n _] _ _=>!(["__name__"]:List Str).contains n
 | _=>true
def qT:Program:={ pwT with main:={ pwT.main with body:=pwT.main.body.filter Bk7 } }
abbrev xtT:Shared->Bool:=λs=>xlAt qT [] s&&recOk (RowW.records rwT.row.toRowW) s
set_option maxHeartbeats 0 in
theorem Bj1:LeftO rwT.row.prog qT [] xtT Hook.none.obs Hook.none.val 20000:=λw=>by kernel_rfl
end K
namespace L2
open PySem PySem.Spec PyProof.Rows
abbrev Key:=Sum Int Str
noncomputable def Oa:Key->Value->Bool
 | .inl k,v=>Value.isInt k v
 | .inr x,v=>Value.isStrOf x v
noncomputable def Be9 (w:World):Key->Int
 | .inl k=>hashInt k
 | .inr x=>hashStr w x
theorem Dr:∀{k:Key}{v:Value},Oa k v=true->(∃i t,k=Sum.inl i/\v=Value.int i t)\/(∃x t,k=Sum.inr x/\v=Value.str x t)
 | .inl i,v,h=>by
  obtain⟨t,e⟩:=Value.isInt_shape (k:=i) (v:=v) h;exact .inl ⟨i,t,rfl,e⟩
 | .inr x,v,h=>by
  obtain⟨t,e⟩:=Value.isStrOf_shape (x:=x) (v:=v) h;exact .inr ⟨x,t,rfl,e⟩
theorem Vq (i:Int)(t:Tok):Oa (.inl i) (.int i t)=true:=by simp[Oa,Value.isInt]
theorem Vi (x:Str)(t:Tok):Oa (.inr x) (.str x t)=true:=by simp[Oa,Value.isStrOf]
theorem Bb8 (a b:Int):decide ((Sum.inl a:Key)=Sum.inl b)=(a==b):=by
 grind
theorem A9h (a b:Str):decide ((Sum.inr a:Key)=Sum.inr b)=decide (a=b):=by
 grind
theorem Be8 (a:Int)(b:Str):decide ((Sum.inl a:Key)=Sum.inr b)=false:=decide_eq_false λq=>nomatch q
theorem A9p (a:Str)(b:Int):decide ((Sum.inr a:Key)=Sum.inl b)=false:=decide_eq_false λq=>nomatch q
def Er (prog:Program)(w:World):PySem.KeyKind prog w Key where
 is:=Oa
 hash:=Be9 w
 inj:=λv a b ha hb=>by
  rcases Dr ha with ⟨i,t,rfl,rfl⟩ | ⟨x,t,rfl,rfl⟩
  ·rcases Dr hb with ⟨j,u,rfl,e⟩ | ⟨y,u,rfl,e⟩
   ·injection e with e1 _;rw[e1]
   ·exact nomatch e
  ·rcases Dr hb with ⟨j,u,rfl,e⟩ | ⟨y,u,rfl,e⟩
   ·exact nomatch e
   ·injection e with e1 _;rw[e1]
 byValue:=λk v h=>by
  rcases Dr h with ⟨i,t,rfl,rfl⟩ | ⟨x,t,rfl,rfl⟩ <;> rfl
 pyHash:=λhv h=>by
  rcases Dr hv with ⟨i,t,rfl,rfl⟩ | ⟨x,t,rfl,rfl⟩
  ·exact wpAny_pyHash_int h
  ·exact wpAny_pyHash_str h
 eqBool:=λhu hv h=>by
  rcases Dr hu with ⟨i,t,rfl,rfl⟩ | ⟨x,t,rfl,rfl⟩
  ·rcases Dr hv with ⟨j,u,rfl,rfl⟩ | ⟨y,u,rfl,rfl⟩
   ·rw[Bb8]at h;exact wpAny_eqBool_int h
   ·rw[Be8]at h;exact SeqAt.EqAt.int_str i t y u _ _ _ _ h
  ·rcases Dr hv with ⟨j,u,rfl,rfl⟩ | ⟨y,u,rfl,rfl⟩
   ·rw[A9p]at h;exact SeqAt.EqAt.str_int x t j u _ _ _ _ h
   ·rw[A9h]at h;exact wpAny_eqBool_str h
 «strs»:=λk x t v h=>by
  rcases Dr h with ⟨i,u,rfl,e⟩ | ⟨y,u,rfl,e⟩
  ·exact nomatch e
  ·injection e with e1 _
   subst e1
   cases v <;> rfl
theorem Q5 (prog:Program)(w:World)(i:Int)(t:Tok):(Er prog w).is (.inl i) (.int i t)=true:=Vq i t
theorem Q6 (prog:Program)(w:World)(x:Str)(t:Tok):(Er prog w).is (.inr x) (.str x t)=true:=Vi x t
noncomputable instance Bo0:DecidableEq PyData:=λa b=>Classical.propDecidable (a=b)
mutual
noncomputable def keyB:PyData->Bool
 | .none=>true
 | .int _=>true
 | .str _=>true
 | .tuple ds=>Ge ds
 | _=>false
noncomputable def Ge:List PyData->Bool
 | []=>true
 | d::ds=>keyB d&&Ge ds
end
mutual
theorem O7:∀(x y:PyData),keyB x=true->keyB y=true->(PyData.eqv x y=true↔x=y)
 | .none,y,_,hy=>by cases y <;> simp_all [PyData.eqv,keyB]
 | .int _,y,_,hy=>by cases y <;> simp_all [PyData.eqv,keyB]
 | .str _,y,_,hy=>by cases y <;> simp_all [PyData.eqv,keyB]
 | .tuple xs,.tuple ys,hx,hy=>by
  have:=Yt xs ys hx hy
  show PyData.eqvAll xs ys=true↔_
  rw[this]
  exact⟨λe=>by rw[e],λe=>by cases e;rfl⟩
 | .tuple xs,.none,hx,hy=>⟨(λe=>nomatch e),λe=>nomatch e⟩
 | .tuple xs,.int _,hx,hy=>⟨(λe=>nomatch e),λe=>nomatch e⟩
 | .tuple xs,.str _,hx,hy=>⟨(λe=>nomatch e),λe=>nomatch e⟩
theorem Yt:∀(xs ys:List PyData),Ge xs=true->Ge ys=true->(PyData.eqvAll xs ys=true↔xs=ys)
 | [],[],_,_=>⟨λ_=>rfl,λ_=>rfl⟩
 | [],_::_,_,_=>⟨(λe=>nomatch e),λe=>nomatch e⟩
 | _::_,[],_,_=>⟨(λe=>nomatch e),λe=>nomatch e⟩
 | x::xs,y::ys,hx,hy=>by
  obtain⟨a,b⟩:=Bool.and_eq_true_iff.mp (show (keyB x&&Ge xs)=true from hx)
  obtain⟨c,d⟩:=Bool.and_eq_true_iff.mp (show (keyB y&&Ge ys)=true from hy)
  show (PyData.eqv x y&&PyData.eqvAll xs ys)=true↔_
  rw[Bool.and_eq_true_iff,O7 x y a c,Yt xs ys b d,List.cons.injEq]
end
mutual
theorem T3 {h h':Heap}{d:Addr}{o:Obj}{es:Array DictEntry}{ep:Nat}(ho:h.get? d=some o)(hd:o.data=.dict es ep)(hs:Heap.SameBut d h h'):∀(k:PyData),keyB k=true->∀(v:Value) (as:List Addr),Reads h v k as->Reads h' v k as
 | .none,_,_,_,r=>by cases r;exact .none
 | .int i,_,_,_,r=>by cases r;exact .int _ _
 | .str x,_,_,_,r=>by cases r;exact .str _ _
 | .tuple ds,hk,_,_,r=>by
  cases r with
  | @tuple a o' vs n xs as h1 h2 h3 h4 =>
   refine .tuple ((hs.2 a ?_).trans h1) h2 h3 (Qw ho hd hs ds hk _ _ h4)
   intro e;rw[e,ho]at h1;cases h1;rw[hd]at h3;cases h3
theorem Qw {h h':Heap}{d:Addr}{o:Obj}{es:Array DictEntry}{ep:Nat}(ho:h.get? d=some o)(hd:o.data=.dict es ep)(hs:Heap.SameBut d h h'):∀(ks:List PyData),Ge ks=true->∀(vs:List Value) (as:List Addr),ReadsAll h vs ks as->ReadsAll h' vs ks as
 | [],_,_,_,r=>by cases r;exact .nil
 | k::ks,hk,_,_,r=>by
  obtain⟨a,b⟩:=Bool.and_eq_true_iff.mp (show (keyB k&&Ge ks)=true from hk)
  cases r with
  | cons r1 r2=>exact .cons (T3 ho hd hs k a _ _ r1) (Qw ho hd hs ks b _ _ r2)
end
mutual
def Zv (w:World):PyData->Int
 | .none=>hashInt 0xFCA86420
 | .int i=>Be9 w (.inl i)
 | .str x=>Be9 w (.inr x)
 | .tuple ds=>reduceHash (Builtin.Tuple.tupleHashOf (J5 w ds))
 | _=>0
def J5 (w:World):List PyData->List Int
 | []=>[]
 | d::ds=>Zv w d::J5 w ds
end
mutual
noncomputable def Rw:PyData->Nat
 | .tuple ds=>Lg ds+1
 | _=>1
noncomputable def Lg:List PyData->Nat
 | []=>0
 | d::ds=>Rw d+Lg ds
end
section
variable {prog:Program}{w:World}
theorem Vk (h:Q (hashInt 0xFCA86420) { s with toks:=s.toks+1 }):wpAny (model prog w) A (pyHash .none) Q E s:=by
 have a:s.TypeIs Value.none "NoneType" := rfl;unfold pyHash
 first | unfold pyHashByItsType | skip
 have b:[Value.none].any Value.onHeap=false:=rfl
 refine wpAny_bind ?_
 rw[cRoomFor,if_neg (by rw[b];exact Bool.false_ne_true)];refine wpAny_pure ?_
 refine wpAny_bind (wpAny_specialOf a F.slot_NoneType_hash.lookup ?_)
 show wpAny _ _ (if (some (Value.builtin "NoneType.__hash__")==some Value.none)=true then _ else _) Q E s
 rw[if_neg (by rw[beq_builtin_none];exact Bool.false_ne_true)]
 refine wpAny_bind (wpAny_specialOf a F.slot_NoneType_hash.lookup ?_)
 show wpAny _ _ (callSpecialIfBoundUnlessNone? .none "__hash__" _ >>= _) Q E s
 refine wpAny_bind (wpAny_callSpecialIfBoundUnlessNone?_slot a F.slot_NoneType_hash
  (wpAny_call_entry F.slot_NoneType_hash a F.entry_NoneType_hash
   (show wpAny _ _ (do ret (<- mkInt _)) _ _ s from wpAny_ret_mkInt ?_) (F.args_NoneType_hash_1 _)))
 exact wpAny_pure h
theorem As9:∀(n:Nat) (d:PyData),d.depth<=n->keyB d=true->∀(A:Around) (E:Value->Shared->Prop) (s:Shared) (v:Value) (y:List Addr) (Q:Int->Shared->Prop),A.units+n<cLine->Reads s.heap v d y ->
 Q (Zv w d) { s with toks:=s.toks+Rw d }->wpAny (model prog w) A (pyHash v) Q E s:=by
 intro n
 induction n with
 | zero =>
  intro d M j A E s v y Q C r h
  cases r with
  | none=>exact Vk h
  | int i t=>exact(Er prog w).pyHash (k:=.inl i) (v:=.int i t) (Q5 prog w i t) h
  | str x t=>exact(Er prog w).pyHash (k:=.inr x) (v:=.str x t) (Q6 prog w x t) h
  | tuple=>exact absurd M (by simp[PyData.depth])
  | bool b=>cases j
  | list=>cases j
  | dict=>cases j
 | succ n Y =>
  intro d M j A E s v y Q C r h
  cases r with
  | none=>exact Vk h
  | int i t=>exact(Er prog w).pyHash (k:=.inl i) (v:=.int i t) (Q5 prog w i t) h
  | str x t=>exact(Er prog w).pyHash (k:=.inr x) (v:=.str x t) (Q6 prog w x t) h
  | bool b=>cases j
  | list=>cases j
  | dict=>cases j
  | @tuple a o N n' g y R hc J U =>
   have G:s.TypeIs (.ref a) "tuple" := ⟨o,R,hc⟩
   have H:PyData.depthAll g<=n:=Nat.le_of_succ_le_succ (show PyData.depthAll g+1<=n+1 from M)
   have I:Ge g=true:=j;unfold pyHash
   first | unfold pyHashByItsType | skip
   first | refine wpAny_bind (wpAny_cRoomFor_or (.inr (Nat.lt_of_le_of_lt (Nat.le_add_right _ _) C)) ?_) | skip
   refine wpAny_bind (wpAny_specialOf G F.slot_tuple_hash.lookup ?_)
   show wpAny _ _ (if (some (Value.builtin "tuple.__hash__")==some Value.none)=true then _ else _) Q E s
   rw[if_neg (by rw[beq_builtin_none];exact Bool.false_ne_true)]
   refine wpAny_bind (wpAny_specialOf G F.slot_tuple_hash.lookup ?_)
   show wpAny _ _ (callSpecialIfBoundUnlessNone? (.ref a) "__hash__" _ >>= _) Q E s
   refine wpAny_bind (wpAny_callSpecialIfBoundUnlessNone?_slot G F.slot_tuple_hash (wpAny_call_entry F.slot_tuple_hash G F.entry_tuple_hash ?_ (F.args_tuple_hash_1 _)))
   show wpAny _ _ (Builtin.Tuple.tupleItemsOf (.ref a) >>= _) _ _ s
   refine wpAny_bind (wpAny_tupleItemsOf R J ?_)
   refine wpAny_bind ?_
   rw[<- Array.forIn_toList]
   refine wpAny_forIn_list _
    (λm (b:Array Int) O=>∃c e K,J5 w g=c++J5 w e/\ReadsAll s.heap m e K/\Ge e=true/\PyData.depthAll e<=n/\b.toList=c/\∃k,k+Lg e=Lg g/\O={ s with toks:=s.toks+k })
    _ ?_ ?_ _ _ ⟨[],g,_,rfl,U,I,H,rfl,0,Nat.zero_add _,rfl⟩
   ·rintro x m b O ⟨c,e,K,z,L,q,p,B,k,D,rfl⟩
    cases L with
    | @cons _ _ l f V W X u =>
     obtain⟨Z,S⟩:=Bool.and_eq_true_iff.mp (show (keyB l&&Ge f)=true from q)
     have P:l.depth<=n/\PyData.depthAll f<=n:=by
      have:max l.depth (PyData.depthAll f)<=n:=p;omega
     refine wpAny_bind (Y l P.1 Z _ _ _ _ _ _ (by first | exact Nat.lt_of_le_of_lt (by simp;omega) C | (have:=C;simp at *;omega)) X ?_)
     first
      | exact wpAny_pure ⟨c++[Zv w l],f,_,by rw[z];simp[J5],u,S,P.2,by simp[B],k+Rw l,by rw[<- D];simp[Lg,Nat.add_assoc],by simp[Nat.add_assoc]⟩
      | exact wpAny_bind (wpAny_pure (wpAny_pure ⟨c++[Zv w l],f,_,by rw[z];simp[J5],u,S,P.2,by simp[B],k+Rw l,by rw[<- D];simp[Lg,Nat.add_assoc],by simp[Nat.add_assoc]⟩))
   ·rintro b O ⟨c,e,K,z,L,q,p,B,k,D,rfl⟩
    cases L
    have e2:J5 w g=c:=by rw[z];simp[J5]
    have T:k=Lg g:=D
    have h:Q (reduceHash (Builtin.Tuple.tupleHashOf (J5 w g))) { s with toks:=s.toks+(Lg g+1) }:=h
    rw[e2]at h;subst T
    show wpAny _ _ (retInt (Builtin.Tuple.tupleHashOf b.toList)) _ _ _
    rw[B]
    refine wpAny_ret_mkInt ?_
    show wpAny _ _ (if (decide (-(2:Int) ^ 63<=Builtin.Tuple.tupleHashOf c)&&decide (Builtin.Tuple.tupleHashOf c<2 ^ 63))=true then _ else _) Q E _
    unfold reduceHash at h
    by_cases hr:(decide (-(2:Int) ^ 63<=Builtin.Tuple.tupleHashOf c)&&decide (Builtin.Tuple.tupleHashOf c<2 ^ 63))=true
    ·rw[if_pos hr]
     rw[if_pos hr]at h
     exact wpAny_pure (by simpa[Nat.add_assoc] using h)
    ·rw[if_neg hr]
     rw[if_neg hr]at h
     exact wpAny_bind (wpAny_rule (wpAny_pure (by simpa[Nat.add_assoc] using h)))
theorem Ad4:∀(m:Nat) (d:PyData),d.depth<=m->keyB d=true->∀(A:Around) (E:Value->Shared->Prop) (s:Shared) (v:Value) (j:List Addr) (Q:Bool->Shared->Prop),Reads s.heap v d j->Q true s->wpAny (model prog w) A (eqIsQuiet (m+1) v) Q E s:=by
 intro m
 induction m with
 | zero =>
  intro d q f A E s v j Q r h
  cases r with
  | none=>rw[eqIsQuiet_byValue _ rfl];exact wpAny_pure h
  | int i t=>rw[eqIsQuiet_byValue _ rfl];exact wpAny_pure h
  | str x t=>rw[eqIsQuiet_byValue _ rfl];exact wpAny_pure h
  | tuple=>exact absurd q (by simp[PyData.depth])
  | bool b=>cases f
  | list=>cases f
  | dict=>cases f
 | succ n O =>
  intro d q f A E s v j Q r h
  cases r with
  | none=>rw[eqIsQuiet_byValue _ rfl];exact wpAny_pure h
  | int i t=>rw[eqIsQuiet_byValue _ rfl];exact wpAny_pure h
  | str x t=>rw[eqIsQuiet_byValue _ rfl];exact wpAny_pure h
  | bool b=>cases f
  | list=>cases f
  | dict=>cases f
  | @tuple a o y n' M j G L l U =>
   have D:s.TypeIs (.ref a) _:=⟨o,G,L⟩
   have p := Nat.le_of_succ_le_succ (show PyData.depthAll _+1<=n+1 from q)
   unfold eqIsQuiet
   refine wpAny_bind (wpAny_specialOf D F.slot_tuple_eq.lookup ?_)
   refine wpAny_bind (wpAny_isInstance D isSubtype_tuple_tuple ?_)
   refine wpAny_bind (wpAny_seqItems G l ?_)
   refine wpAny_bind ?_
   rw[<- Array.forIn_toList]
   refine wpAny_forIn_list _ (λe r u=>r.1=none/\u=s/\∃c H,ReadsAll _ e c H/\Ge c=true/\PyData.depthAll c<=n) _ ?_ ?_ _ _ ⟨rfl,rfl,M,_,U,f,p⟩
   ·rintro v e r u ⟨C,rfl,c,H,J,k,z⟩
    cases J with
    | @cons _ _ N g P R K B =>
     obtain⟨S,T⟩:=Bool.and_eq_true_iff.mp (show (keyB _&&Ge _)=true from k)
     have I:N.depth<=n/\PyData.depthAll g<=n:=by
      have:max _ _<=n:=z;omega
     refine wpAny_bind (O _ I.1 S _ _ _ _ _ _ K ?_)
     exact wpAny_pure ⟨rfl,rfl,g,_,B,T,I.2⟩
   ·rintro⟨r1,r2⟩ u ⟨C,rfl,_⟩
    subst C;exact wpAny_pure h
def Bb6 (h:Heap)(k:PyData)(a:Addr):Prop:=(keyB k=true/\k.canLay0=true/\k.depth<=7)/\∃as,Reads h (.ref a) k as
def El (prog:Program)(w:World):HeapKind prog w PyData where
 is:=Bb6
 hash:=Zv w
 draws:=Rw
 room:=λA=>A.units+8<cLine
 inj:=λhx hy=>let ⟨⟨_,l,_⟩,_,r⟩:=hx;let ⟨_,_,r'⟩:=hy; SeqAt.Reads.unique _ _ _ _ _ l r r'
 keeps:=λx ho hd hs=>let ⟨c,_,r⟩:=x; ⟨c,_,T3 ho hd hs _ c.1 _ _ r⟩
 pyHash:=λhu hk h=>let ⟨c,_,r⟩:=hk; As9 7 _ c.2.2 c.1 _ _ _ _ _ _ (Nat.lt_of_le_of_lt (Nat.add_le_add_left (by decide) _) hu) r h
 eqBool:=λ{A E s x y a b Q} hu hx hy h=>by
  obtain⟨c,_,r⟩:=hx;obtain⟨d,_,r'⟩:=hy
  refine SeqAt.eqAt_reads x y A s _ _ _ _ r r' c.2.1 d.2.1 (Nat.lt_of_le_of_lt (Nat.add_le_add_left (Nat.le_trans (Nat.min_le_left _ _) (Nat.le_trans c.2.2 (by decide))) _) hu) prog w E Q ?_
  have e:PyData.eqv x y=decide (x=y):=by
   have:=O7 x y c.1 d.1
   by_cases z:x=y
   ·rw[decide_eq_true z];exact this.mpr z
   ·rw[decide_eq_false z]
    cases q:PyData.eqv x y with
    | false=>rfl
    | true=>exact absurd (this.mp q) z
  rw[e];exact h
 quiet:=λhk h=>let ⟨c,_,r⟩:=hk; Ad4 7 _ c.2.2 c.1 _ _ _ _ _ _ r h
end
inductive V where
 | non | bl (b:Bool) | int (i:Int) | str (x:Str) | byt (b:Array UInt8) | flt (b:UInt64) | ref (a:Addr) | ty (n:String)
 deriving DecidableEq
@[simp] theorem V.bl.injEq (a b:Bool):(V.bl a=V.bl b)=(a=b):=propext ⟨λh=>by cases h;rfl,λh=>by rw[h]⟩
@[simp] theorem V.int.injEq (a b:Int):(V.int a=V.int b)=(a=b):=propext ⟨λh=>by cases h;rfl,λh=>by rw[h]⟩
@[simp] theorem V.str.injEq (a b:Str):(V.str a=V.str b)=(a=b):=propext ⟨λh=>by cases h;rfl,λh=>by rw[h]⟩
@[simp] theorem V.byt.injEq (a b:Array UInt8):(V.byt a=V.byt b)=(a=b):=propext ⟨λh=>by cases h;rfl,λh=>by rw[h]⟩
@[simp] theorem V.ref.injEq (a b:Addr):(V.ref a=V.ref b)=(a=b):=propext ⟨λh=>by cases h;rfl,λh=>by rw[h]⟩
def RelV:V->Value->Prop
 | .non,u=>u=Value.none
 | .bl b,u=>u=Value.bool b
 | .int i,u=>∃t,u=Value.int i t
 | .str x,u=>∃t,u=Value.str x t
 | .byt b,u=>∃t,u=Value.bytes b t
 | .flt b,u=>∃t,u=Value.float b t
 | .ref a,u=>u=Value.ref a
 | .ty n,u=>u=Value.type n
abbrev Vals:List V->List Value->Prop:=Paired RelV
theorem Vals.length (r:Vals xs us):xs.length=us.length:=Paired.length r
theorem Vals.get:∀{xs:List V}{us:List Value}{i:Nat}{x:V},Vals xs us->xs[i]?=some x->∃u,us[i]?=some u/\RelV x u
 | _,_,_,_,.nil,e=>by simp at e
 | _,_,0,_,.cons r _,e=>by simp at e;subst e;exact⟨_,rfl,r⟩
 | _,_,i+1,x,.cons _ t,e=>by
  obtain⟨u,h1,h2⟩:=Vals.get (i:=i) (x:=x) t (by simpa using e)
  exact⟨u,by simpa using h1,h2⟩
theorem Vals.set {x:V}{u:Value}(r:RelV x u):∀{xs:List V}{us:List Value}(i:Nat),Vals xs us->Vals (xs.set i x) (us.set i u)
 | _,_,_,.nil=>.nil
 | _,_,0,.cons _ t=>.cons r t
 | _,_,i+1,.cons q t=>.cons q (Vals.set r i t)
theorem Vals.append:∀{xs ys:List V}{us ws:List Value},Vals xs us->Vals ys ws->Vals (xs++ys) (us++ws)
 | _,_,_,_,.nil,s=>s
 | _,_,_,_,.cons r t,s=>.cons r (Vals.append t s)
theorem Vals.take:∀{xs:List V}{us:List Value}(n:Nat),Vals xs us->Vals (xs.take n) (us.take n)
 | _,_,0,_=>.nil
 | _,_,_+1,.nil=>.nil
 | _,_,n+1,.cons r t=>.cons r (Vals.take n t)
theorem Vals.drop:∀{xs:List V}{us:List Value}(n:Nat),Vals xs us->Vals (xs.drop n) (us.drop n)
 | _,_,0,r=>r
 | _,_,_+1,.nil=>.nil
 | _,_,n+1,.cons _ t=>Vals.drop n t
def A8h:Option V->Option Value->Prop
 | some v,some u=>RelV v u
 | none,none=>True
 | _,_=>False
def KV {κ:Type}:List (κ×V)->List (κ×Value)->Prop:=Paired λ(p:κ×V) (q:κ×Value)=>p.1=q.1/\RelV p.2 q.2
noncomputable def kV:Key->V
 | .inl i=>.int i
 | .inr x=>.str x
inductive HO where
 | lst (xs:List V)
 | tup (xs:List V)
 | dK (kvs:List (Key×V)) | dT (kvs:List (PyData×V))
 | set (S:Int->Bool) (n:Nat)
 | ins (C dx:Addr) (fs:List (Str×V))
 | own (x:Addr)
 | xd (fs:List (Str×V))
 | met (f x:Addr)
 | rng (lo hi:Int)
 | frz (o:Obj) (u:HO)
 | tbl (q:Str)
 | ext (φ:Heap->Prop)
abbrev Hp:=Addr->Option HO
noncomputable def upd (H:Hp) (a:Addr) (o:HO):Hp:=λb=>if b=a then some o else H b
theorem Av : upd H a o a=some o:=by unfold upd;simp_all
theorem Ah (h:b≠a):upd H a o b=H b:=by unfold upd;simp_all
theorem A7s {H:Hp} (h:H a=some o) (h':H b=some u) (d:o≠u):a≠b:=by
 grind
theorem Bk {H:Hp} (h:H a=some o) (h':H b=none):a≠b:=by
 grind
mutual
def KTr (H:Hp):PyData->V->Prop
 | .none,v=>v=.non
 | .int i,v=>v=.int i
 | .str x,v=>v=.str x
 | .tuple ds,v=>∃a vs,v=.ref a/\H a=some (.tup vs)/\KTrL H ds vs
 | _,_=>False
def KTrL (H:Hp):List PyData->List V->Prop
 | [],vs=>vs=[]
 | d::ds,vs=>∃v r,vs=v::r/\KTr H d v/\KTrL H ds r
end
mutual
theorem KTr.stay {H H':Hp}(ht:∀b xs,H b=some (.tup xs)->H' b=some (.tup xs)):∀{d:PyData}{v:V},KTr H d v->KTr H' d v
 | .none,_,h=>h
 | .int _,_,h=>h
 | .str _,_,h=>h
 | .tuple _,_,⟨a,vs,e,ha,t⟩=>⟨a,vs,e,ht _ _ ha,KTrL.stay ht t⟩
theorem KTrL.stay {H H':Hp}(ht:∀b xs,H b=some (.tup xs)->H' b=some (.tup xs)):∀{ds:List PyData}{vs:List V},KTrL H ds vs->KTrL H' ds vs
 | [],_,h=>h
 | _::_,_,⟨v,r,e,h,t⟩=>⟨v,r,e,KTr.stay ht h,KTrL.stay ht t⟩
end
def A7w (k:PyData):Prop:=keyB k=true/\k.canLay0=true/\k.depth<=7
def KAt (H:Hp)(k:PyData)(a:Addr):Prop:=A7w k/\KTr H k (.ref a)
theorem KAt.stay (ht:∀b xs,H b=some (.tup xs)->H' b=some (.tup xs)) (h:KAt H k a):KAt H' k a:=⟨h.1,KTr.stay ht h.2⟩
def zQ (h:Heap)(a:Addr)(items:Array Value):Prop:=∃o,h.get? a=some o/\o.cls=.type "tuple" /\ (∃n,o.data=.seq items n)/\o.dict=none
theorem zQ.tup (x:zQ h a items):IsTup h a items:=let ⟨o,h1,h2,h3,_⟩:=x; ⟨o,h1,h2,h3⟩
theorem zQ.lt (x:zQ h a items):a<h.objs.size:=x.tup.lt
theorem zQ.new (h:Heap)(items:Array Value):zQ (h.push { cls:=.type "tuple",data:=.seq items }) h.objs.size items:=⟨_,Heap.get?_push_size _ rfl,rfl,⟨_,rfl⟩,rfl⟩
section
variable (P:Program)(w:World)
def zA (H:Hp)(h:Heap)(a:Addr):HO->Prop
 | .lst xs=>xs.length<=sizeLine/\∃(its:List Value) (n:Nat),Vals xs its/\h.get? a=some { cls:=.type "list",data:=.seq its.toArray n }
 | .tup xs=>xs.length<=sizeLine/\∃its:List Value,Vals xs its/\zQ h a its.toArray
 | .dK kvs=>kvs.length<=sizeLine/\(a==sysModules)=false/\∃vs,KV kvs vs/\h.DictOf (Er P w) a vs
 | .dT kvs=>kvs.length<=sizeLine/\(a==sysModules)=false/\∃xs:List (PyData×Addr×Value),
  Paired (λ(p:PyData×V) (q:PyData×Addr×Value)=>p.1=q.1/\KAt H p.1 q.2.1/\RelV p.2 q.2.2) kvs xs /\
  ∃o es ep,h.get? a=some o/\o.ExactDict/\o.data=.dict es ep/\es.toList=xs.map (entryOfKey (El P w))/\(xs.map (·.1)).Nodup
 | .set S n=>h.SetOf (intKind P w) a S n
 | .ins C dx fs=>H dx=some (.own a)/\fs.length<=1000/\dx≠a/\h.get? a=some (PySem.W.instObj C dx) /\
  ∃mA,h.Ns1 dx mA/\(∀f,A8h (fs.lookup f) (mA f))/\PySem.Within mA (fs.map (·.1))
 | .own _=>∃o,h.get? a=some o
 | .xd fs=>∃mA,h.Ns1 a mA/\∀f,A8h (fs.lookup f) (mA f)
 | .rng lo hi=>∃t u v,h.get? a=some { cls:=.type "range",data:=.fields #[.int lo t,.int hi u,.int 1 v] }
 | .frz o u=>h.get? a=some o/\zA H h a u
 | .tbl q=>∃ps:Array Value,h.get? a=some { cls:=.none,data:=.fields ps }/\TriplesOk ps.toList/\∀pos cv,codeAmong pos ps.toList=some cv->∃c o vs t,cv=.ref c/\H c=some (.frz o (.own 0))/\o.data=.fields vs/\vs[1]?=some (.str q t)
 | .met f x=>h.get? a=some (PySem.W.methodObj (.ref f) (.ref x))
 | .ext φ=>φ h/\(∃o,h.get? a=some o)/\∀h1 h2:Heap,φ h1->(∀o,h1.get? a=some o->h2.get? a=some o)->φ h2
def HOk (H:Hp)(h:Heap):Prop:=∀a o,H a=some o->zA P w H h a o
end
section
variable {P:Program}{w:World}{H H':Hp}{h h':Heap}{a:Addr}{o:HO}
theorem zA.lt (x:zA P w H h a o):a<h.objs.size:=by
 cases o with
 | lst d=>obtain⟨_,_,_,_,e⟩:=x;exact Heap.lt_size e
 | tup d=>obtain⟨_,_,_,p⟩:=x;exact p.lt
 | dK b=>obtain⟨_,_,_,_,o,_,_,e,_⟩:=x;exact Heap.lt_size e
 | dT b=>obtain⟨_,_,_,_,o,_,_,e,_⟩:=x;exact Heap.lt_size e
 | set S n=>obtain⟨o,_,_,_,e,_⟩:=x;exact Heap.lt_size e
 | ins C g c=>obtain⟨_,_,_,e,_⟩:=x;exact Heap.lt_size e
 | own y=>obtain⟨_,e⟩:=x;exact Heap.lt_size e
 | xd c=>obtain⟨_,⟨_,_,_,e,_⟩,_⟩:=x;exact Heap.lt_size e
 | rng j k=>obtain⟨_,_,_,e⟩:=x;exact Heap.lt_size e
 | frz l u=>obtain⟨e,_⟩:=x;exact Heap.lt_size e
 | tbl q=>obtain⟨_,e,_⟩:=x;exact Heap.lt_size e
 | met f y=>exact Heap.lt_size (x)
 | ext i=>obtain⟨_,⟨_,e⟩,_⟩:=x;exact Heap.lt_size e
theorem Paired.mapP {α β:Type}{F G:α->β->Prop}:∀{l₁:List α}{l₂:List β},Paired F l₁ l₂->(∀a b,F a b->G a b)->Paired G l₁ l₂
 | _,_,.nil,_=>.nil
 | _,_,.cons r t,f=>.cons (f _ _ r) (Paired.mapP t f)
theorem zA.stay (x:zA P w H h a o)(k:∀b u,(b=a\/H b=some (.own a))->h.get? b=some u->h'.get? b=some u)
 (ho:∀b,H b=some (.own a)->H' b=some (.own a)) (ht:∀b m,H b=some (.tup m)->H' b=some (.tup m)) (hz:∀b o u,H b=some (.frz o u)->H' b=some (.frz o u):=by exact λ_ _ _ q=>q):zA P w H' h' a o:=by
 induction o with
 | lst m=>obtain⟨z,l,n,r,e⟩:=x;exact⟨z,l,n,r,k _ _ (.inl rfl) e⟩
 | tup m=>obtain⟨z,l,r,g,e,c⟩:=x;exact⟨z,l,r,g,k _ _ (.inl rfl) e,c⟩
 | dK A=>obtain⟨z,y,D,r,g,i,j,e,c⟩:=x;exact⟨z,y,D,r,g,i,j,k _ _ (.inl rfl) e,c⟩
 | dT A =>
  obtain⟨z,y,m,r,g,i,j,e,c⟩:=x
  exact⟨z,y,m,Paired.mapP r λp q z=>⟨z.1,z.2.1.stay ht,z.2.2⟩,g,i,j,k _ _ (.inl rfl) e,c⟩
 | set S n=>obtain⟨g,i,j,t,e,c⟩:=x;exact⟨g,i,j,t,k _ _ (.inl rfl) e,c⟩
 | ins C M J =>
  obtain⟨d,z,G,e,s,⟨B,i,j,E,c⟩,r⟩:=x;exact⟨ho _ d,z,G,k _ _ (.inl rfl) e,s,⟨B,i,j,k _ _ (.inr d) E,c⟩,r⟩
 | own y=>obtain⟨g,e⟩:=x;exact⟨g,k _ _ (.inl rfl) e⟩
 | xd J=>obtain⟨s,⟨B,i,j,e,c⟩,r⟩:=x;exact⟨s,⟨B,i,j,k _ _ (.inl rfl) e,c⟩,r⟩
 | rng O N=>obtain⟨t,u,v,e⟩:=x;exact⟨t,u,v,k _ _ (.inl rfl) e⟩
 | frz g u K=>obtain⟨e,q⟩:=x;exact⟨k _ _ (.inl rfl) e,K q⟩
 | tbl q =>
  obtain⟨I,e,t,f⟩:=x
  exact⟨I,k a _ (.inl rfl) e,t,λL Q z=>let ⟨c,g,D,tk,e1,E,e3⟩:=f _ _ z; ⟨c,g,D,tk,e1,hz _ _ _ E,e3⟩⟩
 | met f y =>
  have e:h.get? a=some _:=x
  show h'.get? a=some _
  grind
 | ext R=>obtain⟨p,⟨o,e⟩,F⟩:=x;exact⟨F _ _ p λo q=>k _ _ (.inl rfl) q,⟨o,k _ _ (.inl rfl) e⟩,F⟩
theorem HOk.lt (x:HOk P w H h)(e:H a=some o):a<h.objs.size:=(x a o e).lt
theorem HOk.fresh (x:HOk P w H h)(e:h.objs.size<=a):H a=none:=by
 cases q:H a with
 | none=>rfl
 | some u=>exact absurd (Nat.lt_of_lt_of_le (x.lt q) e) (Nat.lt_irrefl _)
theorem HOk.kept (x:HOk P w H h)(k:∀b u,h.get? b=some u->h'.get? b=some u):HOk P w H h':=λa o e =>
 (x a o e).stay (λb u _ q=>k b u q) (λ_ q=>q) λ_ _ q=>q
theorem HOk.laid (x:HOk P w H h)(k:∀b u,h.get? b=some u->h'.get? b=some u)(hp:h.objs.size<=a)(f:zA P w (upd H a o) h' a o):HOk P w (upd H a o) h':=λb u e=>by
 have d:=x.fresh hp
 by_cases hb:b=a
 ·subst hb;rw[Av]at e;simp_all
 ·rw[Ah hb]at e
  exact(x b u e).stay (λc v _ q=>k c v q) λc q=>by rw[Ah (Bk q d)];grind λc g q=>by rw[Ah (Bk q d)];grind λc i g q=>by rw[Ah (Bk q d)];grind
end
def Rd (H:Hp)(a:Addr)(u:HO):Prop:=H a=some u\/∃o,H a=some (.frz o u)
theorem Rd.ok (r:Rd H a u) (x:HOk P w H h):zA P w H h a u:=by
 rcases r with r | ⟨o,r⟩
 ·exact x a u r
 ·obtain⟨_,q⟩:=x a _ r
  omega
def Mut:Option HO->Prop
 | some (.lst _)=>True
 | some (.dK _)=>True
 | some (.dT _)=>True
 | some (.set _ _)=>True
 | some (.ins _ _ _)=>True
 | some (.ext _)=>True
 | _=>False
section
variable {P:Program}{w:World}{H:Hp}{h h':Heap}{x e:Addr}{o':HO}
theorem HOk.write (s:HOk P w H h)(f:Mut (H x))(he:e=x\/H e=some (.own x))(k:∀b u,b≠e->h.get? b=some u->h'.get? b=some u)(m:∃u,h'.get? e=some u)
 (l:zA P w (upd H x o') h' x o'):HOk P w (upd H x o') h':=λb u q=>by
 have a:∀c y,H c=some (.own y)->c≠x:=λc y r z=>by subst z;rw[r]at f;exact f
 have i:∀c d,H c=some (.tup d)->c≠x:=λc d r z=>by subst z;rw[r]at f;exact f
 have g:∀c n d,H c=some (.frz n d)->c≠x:=λc n d r z=>by subst z;rw[r]at f;exact f
 by_cases hb:b=x
 ·subst hb;rw[Av]at q;cases q;exact l
 ·rw[Ah hb]at q
  by_cases hbe:b=e
  ·have o:H b=some (.own x):=by
    simp_all
   rw[q]at o;cases o;obtain⟨v,p⟩:=m
   exact⟨v,by rw[hbe];exact p⟩
  ·refine (s b u q).stay (λc v j r=>k c v ?_ r) (λc r=>by rw[Ah (a c b r)];exact r) (λc d r=>by rw[Ah (i c _ r)];exact r) λc n d r=>by rw[Ah (g c _ _ r)];exact r
   rcases j with rfl | j
   ·exact hbe
   ·rintro rfl
    rcases he with z | z
    ·exact a c b j z
    ·rw[j]at z;cases z;exact hb rfl
end
structure Un (fs ex:List Addr) (H H':Hp) (h h':Heap):Prop where
 keep:∀b o,h.get? b=some o->H b=none->b∉fs->b∉ex->h'.get? b=some o
 slot:∀b o,h.get? b=some o->H b=none->b∈fs->b∉ex->∃sl,h'.get? b=some { o with slots:=sl }
 free:∀b o,h.get? b=some o->H b=none->b∉ex->H' b=none
 there:∀b o,h.get? b=some o->b∉ex->∃o',h'.get? b=some o'
 tups:∀b xs,H b=some (.tup xs)->H' b=some (.tup xs)
 frzs:∀b o u,H b=some (.frz o u)->H' b=some (.frz o u)
 tbls:∀b q,H b=some (.tbl q)->H' b=some (.tbl q)
section
variable {fs ex:List Addr}{H H1:Hp}{h h1 h':Heap}{a x e:Addr}{o:HO}
theorem Un.any (u:Un fs ex H H1 h h1) (q:h.get? b=some ob) (n:H b=none) (hx:b∉ex):∃sl,h1.get? b=some { ob with slots:=sl }:=by
 by_cases hb:b∈fs
 ·exact u.slot b _ q n hb hx
 ·exact⟨ob.slots,u.keep b _ q n hb hx⟩
theorem Un.kept (k:∀b u,h.get? b=some u->h'.get? b=some u):Un fs ex H H h h' :=
 ⟨λb a q _ _ _=>k b _ q,λb a q _ _ _=>⟨a.slots,k b a q⟩,λ_ _ _ n _=>n,λb a q _=>⟨a,k b _ q⟩,λ_ _ q=>q,λ_ _ _ q=>q,λ_ _ q=>q⟩
theorem Un.refl:Un fs ex H H h h:=Un.kept λ_ _ q=>q
theorem Un.laid (k:∀b u,h.get? b=some u->h'.get? b=some u)(hp:h.objs.size<=a)(hn:H a=none):Un fs ex H (upd H a o) h h' where
 keep:=λb u q _ _ _=>k b u q
 slot:=λb u q _ _ _=>⟨u.slots,k b u q⟩
 free:=λb u q n _=>by rw[Ah (Nat.ne_of_lt (Nat.lt_of_lt_of_le (Heap.lt_size q) hp))];exact n
 there:=λb u q _=>⟨u,k b u q⟩
 tups:=λb xs q=>by rw[Ah (Bk q hn)];exact q
 frzs:=λb u xs q=>by rw[Ah (Bk q hn)];exact q
 tbls:=λb ps q=>by rw[Ah (Bk q hn)];exact q
theorem Un.write (d:Mut (H x))(he:e=x\/H e=some (.own x))(k:∀b u,b≠e->h.get? b=some u->h'.get? b=some u)(f:∃u,h'.get? e=some u):Un fs ex H (upd H x o) h h':=by
 have i:∀b,H b=none->b≠x:=λb n z=>by subst z;rw[n]at d;exact d
 have c:∀b,H b=none->b≠e:=λb n z=>by
  grind
 have a:∀b u,H b=some u->¬ Mut (some u)->b≠x:=λb u q l z=>by simp_all
 refine⟨λb u q n _ _=>k b u (c b n) q,λb u q n _ _=>⟨u.slots,k b u (c b n) q⟩,λb u q n _=>by rw[Ah (i b n)];grind,λb u q _=>?_,
  λb g q=>by rw[Ah (a b _ q λz=>z)];grind,λb u g q=>by rw[Ah (a b _ q λz=>z)];grind,λb j q=>by rw[Ah (a b _ q λz=>z)];grind⟩
 grind
end
noncomputable def trk (h:Heap) (H:Hp):List Addr:=(List.range h.objs.size).filter λa=>(H a).isSome
def Uw (h:Heap)(H:Hp):Heap:=PySem.W.hideAll h (trk h H)
theorem As7 (h:Heap)(H:Hp):(Uw h H).objs.size=h.objs.size:=PySem.W.hideAll_size _ _
theorem A1u (e:h.get? b=some o) (n:H b=none):(Uw h H).get? b=some o :=
 PySem.W.hideAll_get _ e λa=>by
  have q := (List.mem_filter.mp a).2
  grind
theorem A4u (e:(Uw h H).get? b=some o):h.get? b=some o/\H b=none:=by
 have a := PySem.W.of_hideAll _ e
 refine⟨a,?_⟩
 cases q:H b with
 | none=>rfl
 | some x =>
  have c:b∈trk h H:=List.mem_filter.mpr ⟨List.mem_range.mpr (Heap.lt_size a),by grind⟩
  have z:(Uw h H).get? b=none:=PySem.W.hideAll_none _ c
  simp_all
noncomputable def A3r (g h:Heap) (L:Addr):List (Addr×Obj):=(List.range h.objs.size).filterMap λa=>if a=L\/(g.get? a).isSome=true then none else (h.get? a).map λo=>(a,o)
def rest (g h:Heap)(L d:Addr):List (Addr×Obj):=(A3r g h L).filter λp=>decide (p.1≠d)
noncomputable def Ai0 (T:Addr) (q:Str):Obj:={ cls:=.str q 0,data:=.cell (some (.ref T)) }
noncomputable def R9 (o:Obj):Option (Addr×Str):=match o.data with
 | .cell (some (.ref T))=>(match o.cls with
  | .str q _=>some (T,q)
  | _=>none)
 | _=>none
def Et (K:PySem.W.Frag):List (Addr×Str):=K.filterMap λp=>R9 p.2
structure Mod (K:PySem.W.Frag) (mg:Str->Option Value) (base:Heap):Prop where
 kin:K.In base
 glob:base.Ns mainGlobals mg
 blt:∃mb,base.Ns builtinsNs mb/\∀x:Str,x ≠ "__name__" -> mb x=bootBuiltins x
 nolimit:base.NoLimit
 bmod:∃bm o,mg "__builtins__" = some (.ref bm)/\bm≠builtinsNs/\bm≠mainGlobals/\base.get? bm=some o/\o.cls=.type "module" /\ o.dict=some builtinsNs/\o.data=.plain
structure Cx where
 prog:Program
 w:World
 K:PySem.W.Frag
 mg:Str->Option Value
 base:Heap
 A:Around
 N:List Str
 s₀:Shared
 H₀:Hp
 env:Env
 outer:List Env
 stack:List Env
 ex:List Addr
 fn:Str->Bool
 calm:Bool
 pn:List (Addr×Obj)
 xe:Value->Shared->Prop
noncomputable def frs (l:List Env):List Addr:=l.filterMap (·.frame)
abbrev Cx.fs (X:Cx):List Addr:=frs X.outer
def Vis (sc:Scope)(x:Str):Prop:=sc.names.lookup x=some .local\/sc.names.lookup x=some .cell\/sc.names.lookup x=some .free
def Loc (sc:Scope)(x:Str):Prop:=sc.names.lookup x=some .local\/sc.names.lookup x=some .cell
def Look (env:Env)(h:Heap)(m:Str->Option Value)(x:Str)(u:Value):Prop :=
 (env.kindOf x=some .local/\m x=some u)\/((env.kindOf x=some .cell\/env.kindOf x=some .free)/\∃c,env.cells.lookup x=some c/\h.IsCell c (some u))
structure Cx.Ok (X:Cx):Prop where
 mod:Mod X.K X.mg X.base
 kind:X.env.scope.kind=.function
 glob:X.env.globals=mainGlobals
 blt:X.env.builtins=builtinsNs
 above:X.s₀.heap.objs.size<=X.env.locals
 inj:∀x y c,X.env.cells.lookup x=some c->X.env.cells.lookup y=some c->x=y
 has:∀x,(X.env.kindOf x=some .cell\/X.env.kindOf x=some .free)->∃c,X.env.cells.lookup x=some c
 cab:∀x c,X.fn x=true->X.env.cells.lookup x=some c->X.s₀.heap.objs.size<=c
 hd:X.calm=true->X.A.handled=none
 frames:X.A.frames=some X.stack
 stk:X.stack=X.outer\/(X.stack=X.env::X.outer/\X.env.frame=some X.env.locals)
 exf:∀b∈X.ex,b≠X.env.locals/\∀x c,X.env.cells.lookup x=some c->c≠b
 bs:∀b o,X.base.get? b=some o->X.s₀.heap.get? b=some o/\X.H₀ b=none
 bsz:X.base.objs.size<=X.s₀.heap.objs.size
 noex:∀b o,X.base.get? b=some o->b∉X.ex
 exfs:∀b∈X.ex,b∉X.fs
 funs:X.s₀.heap.FunFrames X.base X.outer
 frf:∀b∈X.fs,X.H₀ b=none
 tab:∀p∈Et X.K,X.H₀ p.1=some (.tbl p.2)
structure Inv (X:Cx) (pins:List (Addr×Obj)) (σ:List (Option V)) (H:Hp) (s:Shared):Prop where
 ok:X.Ok
 os:s.os=X.s₀.os
 bare:AllBare s.gens
 base:Un X.fs X.ex X.H₀ H X.s₀.heap s.heap
 loc:∃m,s.heap.Ns X.env.locals m/\∀(i:Nat) (x:Str) (v:V),X.N[i]?=some x->σ[i]?=some (some v)->Vis X.env.scope x->∃u,RelV v u/\Look X.env s.heap m x u
 cell:∀x c,X.env.cells.lookup x=some c->∃v,s.heap.IsCell c v
 free:H X.env.locals=none
 freeC:∀x c,X.env.cells.lookup x=some c->H c=none
 pin:∀p∈X.pn++pins,s.heap.get? p.1=some p.2/\H p.1=none/\p.1≠X.env.locals/\p.1∉X.fs/\∀v,p.2.data≠.cell v
 hok:HOk X.prog X.w H s.heap
 len:σ.length=X.N.length
section
variable {X:Cx}{pins:List (Addr×Obj)}{σ:List (Option V)}{H H':Hp}{s:Shared}{h':Heap}
theorem Cx.Ok.nofr (c:X.Ok) (e:X.base.get? b=some o):b∉X.fs:=λa=>by
 have:=(c.funs.mem a).1
 simp_all
theorem Inv.bs (I:Inv X pins σ H s):∀b o,X.base.get? b=some o->s.heap.get? b=some o/\H b=none:=λb o e =>
 ⟨I.base.keep b o (I.ok.bs b o e).1 (I.ok.bs b o e).2 (I.ok.nofr e) (I.ok.noex b o e),I.base.free b o (I.ok.bs b o e).1 (I.ok.bs b o e).2 (I.ok.noex b o e)⟩
theorem Inv.bk (I:Inv X pins σ H s):∀b o,X.base.get? b=some o->s.heap.get? b=some o:=λb o e=>(I.bs b o e).1
theorem Inv.mod (I:Inv X pins σ H s):Mod X.K X.mg X.base:=I.ok.mod
theorem Inv.kIn (I:Inv X pins σ H s):X.K.In s.heap:=I.ok.mod.kin.keeps I.bk
theorem Inv.fr (I:Inv X pins σ H s):∃m,Fr X.base X.env.locals s.heap m :=
 let ⟨m,hn,_⟩:=I.loc
 ⟨m,hn,I.bk,Nat.le_trans I.ok.bsz I.ok.above⟩
theorem Inv.lt (I:Inv X pins σ H s):X.env.locals<s.heap.objs.size:=let ⟨_,hn,_⟩:=I.loc;hn.lt
theorem Inv.sz (I:Inv X pins σ H s):X.s₀.heap.objs.size<=s.heap.objs.size:=Nat.le_trans I.ok.above (Nat.le_of_lt I.lt)
theorem Inv.nofs (I:Inv X pins σ H s) (h:s.heap.objs.size<=a):a∉X.fs:=λc=>by
 obtain⟨_,o,b,_⟩:=I.ok.funs.mem c;exact absurd (Nat.lt_of_lt_of_le (Heap.lt_size b) (Nat.le_trans I.sz h)) (Nat.lt_irrefl _)
theorem Inv.cne (I:Inv X pins σ H s):∀x c,X.env.cells.lookup x=some c->c≠X.env.locals:=λx c e z=>by
 obtain⟨v,o,d,i⟩:=I.cell x c e;obtain⟨m,⟨f,g,h,a,b,_⟩,_⟩:=I.loc
 simp_all
theorem Inv.funs (I:Inv X pins σ H s):s.heap.FunFrames X.base X.outer:=by
 have d:∀(l:List _),(∀b∈frs l,b∈X.fs)->X.s₀.heap.FunFrames X.base l->s.heap.FunFrames X.base l:=by
  intro l
  induction l with
  | nil=>intro _ _;trivial
  | cons h r j =>
   intro g q;obtain⟨i,⟨L,o,f,k,m,n⟩,p⟩:=q
   have c := g L (by unfold frs;simp_all)
   obtain⟨t,e⟩:=I.base.slot L o m (I.ok.frf L c) c λz=>I.ok.exfs L z c
   exact⟨i,⟨L,_,f,k,e,n⟩,j (λb a=>g b (by unfold frs;rw[List.filterMap_cons,f];exact List.mem_cons_of_mem _ a)) p⟩
 exact d _ (λ_ a=>a) I.ok.funs
theorem Inv.stack (I:Inv X pins σ H s):s.heap.FunFrames X.base X.stack:=by
 rcases I.ok.stk with e | ⟨e,b⟩
 ·rw[e];exact I.funs
 ·rw[e]
  obtain⟨m,a,_⟩:=I.loc
  refine .cons (by rw[I.ok.kind];decide) b a ?_ I.funs
  exact Heap.get?_none_of_le (Nat.le_trans I.ok.bsz I.ok.above)
theorem Inv.stkSub (I:Inv X pins σ H s):∀b∈frs X.stack,b∈X.env.locals::X.fs:=λb a=>by
 rcases I.ok.stk with e | ⟨e,c⟩
 ·simp_all
 ·rw[e]at a
  unfold frs at a;rw[List.filterMap_cons,c]at a;exact a
theorem Inv.stkFree (I:Inv X pins σ H s):∀b∈frs X.stack,H b=none:=λb a=>by
 rcases List.mem_cons.mp (I.stkSub b a) with e | a
 ·rw[e];exact I.free
 ·obtain⟨_,o,c,_⟩:=I.ok.funs.mem a
  exact I.base.free b o c (I.ok.frf b a) λz=>I.ok.exfs b z a
theorem Inv.step {ch:List Addr}(I:Inv X pins σ H s)
 (j:∀b∈ch,(b∈X.ex\/X.s₀.heap.objs.size<=b)/\b≠X.env.locals/\(∀x c,X.env.cells.lookup x=some c->c≠b)/\∀p∈X.pn++pins,p.1≠b)
 (t:∀b o,b≠X.env.locals->b∉X.fs->b∉ch->s.heap.get? b=some o->H b=none->h'.get? b=some o)
 (slot:∀b o,b≠X.env.locals->b∈X.fs->b∉ch->s.heap.get? b=some o->H b=none->∃L,h'.get? b=some { o with slots:=L }) (f:∀b o,b∉ch->s.heap.get? b=some o->H b=none->H' b=none)
 (w:∀b o,b∉ch->s.heap.get? b=some o->∃O,h'.get? b=some O)
 (D:∀b J,H b=some (.tup J)->H' b=some (.tup J)) (F:∀b o u,H b=some (.frz o u)->H' b=some (.frz o u)) (C:∀b q,H b=some (.tbl q)->H' b=some (.tbl q))
 (ns:∀m,s.heap.Ns X.env.locals m->h'.Ns X.env.locals m) (N:HOk X.prog X.w H' h') (hg:AllBare g') :
 Inv X pins σ H' { s with heap:=h',gens:=g',drawn:=d',toks:=t' }:=by
 have G:∀b o,X.s₀.heap.get? b=some o->b≠X.env.locals:=λb o e=>Nat.ne_of_lt (Nat.lt_of_lt_of_le (Heap.lt_size e) I.ok.above)
 have h:∀b o,X.s₀.heap.get? b=some o->b∉X.ex->b∉ch:=λb o e a A=>by
  rcases (j b A).1 with z | z
  ·exact a z
  ·exact absurd (Nat.lt_of_lt_of_le (Heap.lt_size e) z) (Nat.lt_irrefl _)
 have g:∀x c,X.env.cells.lookup x=some c->∀v,s.heap.IsCell c v->h'.IsCell c v:=λx c e v ⟨o,B,K⟩=>by
  have E:c∉ch:=λz=>(j c z).2.2.1 x c e rfl
  by_cases hc:c∈X.fs
  ·obtain⟨L,q⟩:=slot c o (I.cne x c e) hc E B (I.freeC x c e)
   exact⟨_,q,K⟩
  ·exact⟨o,t c o (I.cne x c e) hc E B (I.freeC x c e),K⟩
 refine⟨I.ok,I.os,hg,⟨λb o e n A a=>?_,λb o e n A a=>?_,λb o e n a=>?_,λb o e a=>?_,λb J e=>D b _ (I.base.tups b _ e),λb o J e=>F b o _ (I.base.frzs b o _ e),λb V e=>?_⟩,?_,λx c e=>?_,?_,λx c e=>?_,λp Q=>?_,N,I.len⟩
 ·exact t b o (G b o e) A (h b o e a) (I.base.keep b o e n A a) (I.base.free b o e n a)
 ·obtain⟨L,y⟩:=I.base.slot b o e n A a
  obtain⟨P,M⟩:=slot b _ (G b o e) A (h b o e a) y (I.base.free b o e n a);exact⟨P,M⟩
 ·obtain⟨O,y⟩:=I.base.there b o e a
  exact f b _ (h b o e a) y (I.base.free b o e n a)
 ·obtain⟨O,y⟩:=I.base.there b o e a
  exact w b _ (h b o e a) y
 ·exact C b _ (I.base.tbls b _ e)
 ·obtain⟨m,R,S⟩:=I.loc
  refine⟨m,ns m R,λi x v y M T=>?_⟩
  obtain⟨u,r,l⟩:=S i x v y M T
  refine⟨u,r,?_⟩
  rcases l with l | ⟨k,c,e,z⟩
  ·exact .inl l
  ·exact .inr ⟨k,c,e,g x c e _ z⟩
 ·obtain⟨v,z⟩:=I.cell x c e
  exact⟨v,g x c e v z⟩
 ·obtain⟨m,⟨o,_,_,B,_⟩,_⟩:=I.loc
  exact f _ o (λz=>(j _ z).2.1 rfl) B I.free
 ·obtain⟨v,o,B,K⟩:=I.cell x c e
  exact f c o (λz=>(j c z).2.2.1 x c e rfl) B (I.freeC x c e)
 ·obtain⟨e,n,W,U,d⟩:=I.pin p Q
  grind
theorem Inv.un (I:Inv X pins σ H s) (u:Un X.fs [] H H' s.heap h') (g:HOk X.prog X.w H' h'):Inv X pins σ H' { s with heap:=h',toks:=t' }:=by
 obtain⟨m,⟨o,l,v,h,r⟩,_⟩:=id I.loc
 obtain⟨q,j⟩:=u.any h I.free (by simp)
 exact I.step (ch:=[]) (λ_ z=>nomatch z) (λb o _ c _ e n=>u.keep b o e n c (by simp)) (λb o _ c _ e n=>u.slot b o e n c (by simp)) (λb o _ e n=>u.free b o e n (by simp)) (λb o _ e=>u.there b o e (by simp)) u.tups u.frzs u.tbls (λt i=>by
  obtain⟨p,d,f,a,k⟩:=i;rw[h]at a;cases a
  exact⟨_,d,f,j,k⟩) g I.bare
theorem Inv.call (I:Inv X pins σ H s) (u:Un (frs X.stack) ch H H' s.heap h') (g:HOk X.prog X.w H' h') (hg:AllBare g')
 (d:∀b∈ch,(b∈X.ex\/X.s₀.heap.objs.size<=b)/\b≠X.env.locals/\(∀x c,X.env.cells.lookup x=some c->c≠b)/\∀p∈X.pn++pins,p.1≠b) :
 Inv X pins σ H' { s with heap:=h',gens:=g',drawn:=d',toks:=t' }:=by
 obtain⟨m,⟨o,v,A,k,r⟩,_⟩:=id I.loc
 obtain⟨y,h⟩:=u.any k I.free λz=>(d _ z).2.1 rfl
 exact I.step d (λb o h q a e n=>u.keep b o e n (λz=>(List.mem_cons.mp (I.stkSub b z)).elim h q) a) (λb o _ _ a e n=>u.any e n a) (λb o a e n=>u.free b o e n a) (λb o a e=>u.there b o e a) u.tups u.frzs u.tbls (λB t=>by
  obtain⟨w,j,i,f,l⟩:=t;rw[k]at f;cases f
  exact⟨_,j,i,h,l⟩) g hg
theorem Inv.turned (I:Inv X pins σ H s) (k:∀b o,b≠it->s.heap.get? b=some o->h'.get? b=some o) (hn:H it=none) (h:it≠X.env.locals)
 (h1:it∈X.ex\/X.s₀.heap.objs.size<=it) (h2:∀x c,X.env.cells.lookup x=some c->c≠it) (j:∀p∈X.pn++pins,p.1≠it):Inv X pins σ H { s with heap:=h',toks:=t' }:=by
 refine I.step (ch:=[it]) (λb t=>?_) (λb o _ _ a e _=>k b o (λz=>a (by grind)) e) (λb o _ _ a e _=>⟨o.slots,k b o (λz=>a (by grind)) e⟩) (λ_ _ _ _ n=>n)
  (λb o a e=>⟨o,k b o (λz=>a (by grind)) e⟩) (λ_ _ e=>e) (λ_ _ _ e=>e) (λb l e=>e) (λm g=>?_) (λb u e=>?_) I.bare
 ·grind
 ·obtain⟨o,f,i,d,r⟩:=g
  exact⟨o,f,i,k _ o (Ne.symm h) d,r⟩
 ·refine (I.hok b u e).stay (λc v a q=>k c v ?_ q) (λ_ q=>q) λ_ _ q=>q
  grind
theorem Inv.tok (I:Inv X pins σ H s)(t:Nat):Inv X pins σ H { s with toks:=t }:=I.un Un.refl I.hok
theorem Inv.kept (I:Inv X pins σ H s) (k:∀b u,s.heap.get? b=some u->h'.get? b=some u):Inv X pins σ H { s with heap:=h',toks:=t' }:=I.un (Un.kept k) (I.hok.kept k)
theorem Inv.laid (I:Inv X pins σ H s) (k:∀b u,s.heap.get? b=some u->h'.get? b=some u) (hp:s.heap.objs.size<=a) (c:zA X.prog X.w (upd H a o) h' a o) :
 Inv X pins σ (upd H a o) { s with heap:=h',toks:=t' }:=I.un (Un.laid k hp (I.hok.fresh hp)) (I.hok.laid k hp c)
theorem Inv.write (I:Inv X pins σ H s) (d:Mut (H x)) (he:e=x\/H e=some (.own x)) (k:∀b u,b≠e->s.heap.get? b=some u->h'.get? b=some u) (a:∃u,h'.get? e=some u)
 (c:zA X.prog X.w (upd H x o) h' x o):Inv X pins σ (upd H x o) { s with heap:=h',toks:=t' }:=I.un (Un.write d he k a) (I.hok.write d he k a c)
theorem Inv.pins_of (I:Inv X pins σ H s) (h:∀p∈a,s.heap.get? p.1=some p.2/\H p.1=none/\p.1≠X.env.locals/\p.1∉X.fs/\∀v,p.2.data≠.cell v):Inv X a σ H s :=
 ⟨I.ok,I.os,I.bare,I.base,I.loc,I.cell,I.free,I.freeC,λp b=>(List.mem_append.mp b).elim (λz=>I.pin p (List.mem_append_left _ z)) (h p),I.hok,I.len⟩
theorem Yl {N:List Str}(hN:N.Nodup){i j:Nat} (a:N[i]?=some x) (b:N[j]?=some x):i=j:=by
 obtain⟨e,d⟩:=List.getElem?_eq_some_iff.mp a;obtain⟨f,c⟩:=List.getElem?_eq_some_iff.mp b;exact(List.getElem_inj hN).mp (d.trans c.symm)
theorem Vh (I:Inv X pins σ H s) (hN:X.N.Nodup) (hi:X.N[i]?=some x) (hx:Loc X.env.scope x) (r:RelV v u)
 (h:∀s',Inv X pins (σ.set i (some v)) H s'->(∃a,Heap.SameBut a s.heap s'.heap/\(a=X.env.locals\/X.env.cells.lookup x=some a))->Q () s') (hf:X.fn x=true\/X.env.scope.names.lookup x=some .local:=by first | exact .inl rfl | exact .inr rfl | assumption):wpAny M A (storeName X.env x u) Q E s:=by
 obtain⟨m,S,hl⟩:=id I.loc
 have K:(X.env.scope.kind==.class||(X.env.scope.kind==.module&&X.env.locals != X.env.globals))=false:=by rw[I.ok.kind];rfl
 have C:i<σ.length:=by rw[I.len];exact(List.getElem?_eq_some_iff.mp hi).1
 have J:=I.cne
 have g:∀{a:Addr} {L:Heap},(∃o,s.heap.get? a=some o/\H a=none)->Heap.SameBut a s.heap L->HOk X.prog X.w H L:=λ{a L} ha f b ob e=>by
  obtain⟨_,_,w⟩:=ha
  refine (I.hok b ob e).stay (λc w' t q=>(f.2 c ?_).trans q) (λ_ q=>q) λ_ _ q=>q
  rintro rfl
  rcases t with rfl | t
  ·rw[w]at e;cases e
  ·rw[w]at t;cases t
 rcases hx with D | D
 ·refine wpAny_storeName_local D S (λL hn' f=>?_) K
  obtain⟨oL,_,_,hoL,_⟩:=id S
  refine h _ ⟨I.ok,I.os,I.bare,⟨λb o e n F hx=>?_,λb o e n F hx=>?_,I.base.free,λb o e hx=>?_,I.base.tups,I.base.frzs,I.base.tbls⟩,⟨_,hn',λj y v' l B T=>?_⟩,λy c e=>?_,I.free,I.freeC,λp U=>?_,g ⟨oL,hoL,I.free⟩ f,by simpa using I.len⟩ ⟨_,f,.inl rfl⟩
  ·exact(f.2 b (Nat.ne_of_lt (Nat.lt_of_lt_of_le (Heap.lt_size e) I.ok.above))).trans (I.base.keep b o e n F hx)
  ·obtain⟨W,l⟩:=I.base.slot b o e n F hx
   exact⟨W,(f.2 b (Nat.ne_of_lt (Nat.lt_of_lt_of_le (Heap.lt_size e) I.ok.above))).trans l⟩
  ·obtain⟨Y,l⟩:=I.base.there b o e hx
   exact⟨Y,(f.2 b (Nat.ne_of_lt (Nat.lt_of_lt_of_le (Heap.lt_size e) I.ok.above))).trans l⟩
  ·by_cases hj:j=i
   ·subst hj
    rw[hi]at l;cases l;rw[List.getElem?_set_self C]at B
    cases B
    exact⟨u,r,.inl ⟨D,by simp⟩⟩
   ·rw[List.getElem?_set_ne (Ne.symm hj)]at B
    obtain⟨Z,r',q⟩:=hl j y _ l B T
    refine⟨Z,r',?_⟩
    rcases q with ⟨k,e⟩ | ⟨k,c,e,z⟩
    ·refine .inl ⟨k,?_⟩
     have:y≠x:=λe=>hj (Yl hN l (e▸hi))
     simp[this,e]
    ·exact .inr ⟨k,c,e,z.sameBut f (J y c e)⟩
  ·obtain⟨w',z⟩:=I.cell y c e
   exact⟨w',z.sameBut f (J y c e)⟩
  ·obtain⟨e,n,R,nf,d⟩:=I.pin p U
   exact⟨(f.2 _ R).trans e,n,R,nf,d⟩
 ·have G:X.fn x=true:=by
   rcases hf with z | z
   ·exact z
   ·rw[z]at D;cases D
  obtain⟨c,t⟩:=I.ok.has x (.inl D);obtain⟨w',z⟩:=I.cell x c t
  refine wpAny_storeName_cell I.ok.kind D t z λL N f=>?_
  obtain⟨oc,P,O⟩:=id z
  refine h _ ⟨I.ok,I.os,I.bare,⟨λb o e n F hx=>?_,λb o e n F hx=>?_,I.base.free,λb o e hx=>?_,I.base.tups,I.base.frzs,I.base.tbls⟩,⟨m,S.sameBut f (Ne.symm (J x c t)),λj y v' l B T=>?_⟩,λy c' e=>?_,I.free,I.freeC,λp U=>?_,g ⟨oc,P,I.freeC x c t⟩ f,by simpa using I.len⟩ ⟨c,f,.inr t⟩
  ·exact(f.2 b (Nat.ne_of_lt (Nat.lt_of_lt_of_le (Heap.lt_size e) (I.ok.cab x c G t)))).trans (I.base.keep b o e n F hx)
  ·obtain⟨W,l⟩:=I.base.slot b o e n F hx
   exact⟨W,(f.2 b (Nat.ne_of_lt (Nat.lt_of_lt_of_le (Heap.lt_size e) (I.ok.cab x c G t)))).trans l⟩
  ·obtain⟨Y,l⟩:=I.base.there b o e hx
   exact⟨Y,(f.2 b (Nat.ne_of_lt (Nat.lt_of_lt_of_le (Heap.lt_size e) (I.ok.cab x c G t)))).trans l⟩
  ·by_cases hj:j=i
   ·subst hj
    rw[hi]at l;cases l;rw[List.getElem?_set_self C]at B
    cases B
    exact⟨u,r,.inr ⟨.inl D,c,t,N⟩⟩
   ·rw[List.getElem?_set_ne (Ne.symm hj)]at B
    obtain⟨Z,r',q⟩:=hl j y _ l B T
    refine⟨Z,r',?_⟩
    rcases q with q | ⟨k,c',e,z'⟩
    ·exact .inl q
    ·refine .inr ⟨k,c',e,z'.sameBut f ?_⟩
     rintro rfl
     exact hj (Yl hN l (I.ok.inj _ _ _ e t▸hi))
  ·by_cases hcc:c'=c
   ·subst hcc;exact⟨_,N⟩
   ·obtain⟨w2,z2⟩:=I.cell y _ e
    exact⟨w2,z2.sameBut f hcc⟩
  ·obtain⟨e,n,R,nf,d⟩:=I.pin p U
   refine⟨(f.2 _ ?_).trans e,n,R,nf,d⟩
   intro q;rw[q,P]at e
   exact d _ (by rw[<- (Option.some.inj e)];exact O)
theorem Zg (I:Inv X pins σ H s) (hN:X.N.Nodup) (hi:X.N[i]?=some x) (hx:Loc X.env.scope x) (r:RelV v u)
 (h:∀a,Inv X pins (σ.set i (some v)) H a->Q () a) (hf:X.fn x=true\/X.env.scope.names.lookup x=some .local:=by first | exact .inl rfl | exact .inr rfl | assumption):wpAny M A (storeName X.env x u) Q E s :=
 Vh I hN hi hx r (λa b _=>h _ b) hf
theorem Inv.call' (I:Inv X pins σ H s) (ho:s'.os=s.os) (u:Un (frs X.stack) ch H H' s.heap s'.heap) (d:HOk X.prog X.w H' s'.heap) (hg:AllBare s'.gens)
 (a:∀b∈ch,(b∈X.ex\/X.s₀.heap.objs.size<=b)/\b≠X.env.locals/\(∀x c,X.env.cells.lookup x=some c->c≠b)/\∀p∈X.pn++pins,p.1≠b):Inv X pins σ H' s':=by
 obtain⟨f,g,h,i,e⟩:=s';subst ho;exact I.call u d hg a
end
abbrev XK:=Value->Option Addr->Hp->Prop
abbrev St:=List (Option V)
abbrev VK:=V->Hp->Prop
abbrev TE:=St->Hp->VK->Prop
abbrev TT:=St->Hp->(Bool->Hp->Prop)->Prop
abbrev TA:=St->Hp->(List V->Hp->Prop)->Prop
structure Ends where
 nx:St->Hp->Prop
 rt:VK
 bk:St->Hp->Prop:=λ_ _=>False
 ct:St->Hp->Prop:=λ_ _=>False
abbrev TS:=Ends->St->Hp->Prop
def EP (X:Cx)(pins:List (Addr×Obj))(σ:St)(Q:VK)(u:Value)(s':Shared):Prop:=∃v H',Inv X pins σ H' s'/\RelV v u/\Q v H'
def TP (X:Cx)(pins:List (Addr×Obj))(σ:St)(Q:Bool->Hp->Prop)(b:Bool)(s':Shared):Prop:=∃H',Inv X pins σ H' s'/\Q b H'
def AP (X:Cx)(pins:List (Addr×Obj))(σ:St)(Q:List V->Hp->Prop)(us:List Value)(s':Shared):Prop:=∃vs H',Inv X pins σ H' s'/\Vals vs us/\Q vs H'
def SP (X:Cx)(pins:List (Addr×Obj))(D:Ends)(f:Flow)(s':Shared):Prop :=
 match f with
 | .next=>∃σ' H',Inv X pins σ' H' s'/\D.nx σ' H'
 | .brk=>∃σ' H',Inv X pins σ' H' s'/\D.bk σ' H'
 | .cont=>∃σ' H',Inv X pins σ' H' s'/\D.ct σ' H'
 | .ret u=>∃v σ' H',Inv X pins σ' H' s'/\RelV v u/\D.rt v H'
def PE (X:Cx)(e:Expr)(t:TE):Prop :=
 ∀(pins:List (Addr×Obj)) (s:Shared) (σ:St) (H:Hp) (Q:VK),Inv X pins σ H s->t σ H Q->wpAny (model X.prog X.w) X.A (eval e X.env) (EP X pins σ Q) X.xe s
structure QE (X:Cx) (e:Expr) (t:TE):Prop where
 get:PE X e t
def PT (X:Cx)(e:Expr)(t:TT):Prop :=
 ∀(pins:List (Addr×Obj)) (s:Shared) (σ:St) (H:Hp) (Q:Bool->Hp->Prop),Inv X pins σ H s->t σ H Q->wpAny (model X.prog X.w) X.A (isTrue e X.env (eval e X.env)) (TP X pins σ Q) X.xe s
structure QT (X:Cx) (e:Expr) (t:TT):Prop where
 get:PT X e t
def PW (X:Cx)(e:Expr)(t:TT):Prop :=
 ∀(whole:Sem Value) (pins:List (Addr×Obj)) (s:Shared) (σ:St) (H:Hp) (Q:Bool->Hp->Prop),Inv X pins σ H s->t σ H Q->wpAny (model X.prog X.w) X.A (isTrue e X.env whole) (TP X pins σ Q) X.xe s
structure QW (X:Cx) (e:Expr) (t:TT):Prop where
 get:PW X e t
theorem PW.pt (h:PW X e t):PT X e t:=h _
def PA (X:Cx)(es:List Expr)(t:TA):Prop :=
 ∀(pos:Pos) (pins:List (Addr×Obj)) (s:Shared) (σ:St) (H:Hp) (Q:List V->Hp->Prop),Inv X pins σ H s->t σ H Q->wpAny (model X.prog X.w) X.A (spliced (backTo pos (starEach es X.env))) (AP X pins σ Q) X.xe s
structure QA (X:Cx) (e:(List Expr)) (t:TA):Prop where
 get:PA X e t
def PS (X:Cx)(st:Stmt)(t:TS):Prop :=
 ∀(pins:List (Addr×Obj)) (s:Shared) (σ:St) (H:Hp) (D:Ends),Inv X pins σ H s->t D σ H->wpAny (model X.prog X.w) X.A (exec st X.env) (SP X pins D) X.xe s
structure QS (X:Cx) (st:Stmt) (t:TS):Prop where
 get:PS X st t
def PSs (X:Cx)(st:List Stmt)(t:TS):Prop :=
 ∀(pins:List (Addr×Obj)) (s:Shared) (σ:St) (H:Hp) (D:Ends),Inv X pins σ H s->t D σ H->wpAny (model X.prog X.w) X.A (execs st X.env) (SP X pins D) X.xe s
structure QSs (X:Cx) (st:(List Stmt)) (t:TS):Prop where
 get:PSs X st t
theorem thn {t:Sem c}{Q b:c->Shared->Prop} (h:wpAny M A t Q E s) (d:∀a s,Q a s->b a s):wpAny M A t b E s:=wpAny_mono h d λ_ _ x=>x
section
variable {X:Cx}
def Gg (i:Nat):TE:=λσ H Q=>∃v,σ[i]?=some (some v)/\Q v H
def tC (v:V):TE:=λ_ H Q=>Q v H
theorem A1o {f:Pos}(hN:X.N[i]?=some x) (hv:Vis X.env.scope x) (hd:(x==("__debug__" : Str))=false:=by decide) (hcd:(x==("__classdict__" : Str))=false:=by decide):PE X (.Name x f) (Gg i):=by
 intro j s p H Q I h;obtain⟨v,e,h⟩:=h;obtain⟨m,k,n⟩:=I.loc;obtain⟨u,r,l⟩:=n i x v hN e hv;have b:EP X _ _ Q u s:=⟨v,H,I,r,h⟩
 rcases l with ⟨d,o⟩ | ⟨d,c,g,a⟩
 ·exact wpAny_Name (wpAny_loadName_local I.ok.kind d k o b) hd
 ·rcases d with d | d
  ·exact wpAny_Name (wpAny_loadName_cell I.ok.kind d g a b) hd
  ·exact wpAny_Name (wpAny_loadName_free I.ok.kind d g a b hcd) hd
theorem Ax8 : PE X (.Constant (.int i) j a) (tC (.int i)):=λ_ _ _ H _ I h=>wpAny_Constant_int ⟨.int i,H,I.tok _,⟨_,rfl⟩,h⟩
theorem A7f : PE X (.Constant (.bool b) j a) (tC (.bl b)):=λ_ _ _ H _ I h=>Constant_bool ⟨.bl b,H,I,rfl,h⟩
theorem A2y : PE X (.Constant .none j a) (tC .non):=λ_ _ _ H _ I h=>Constant_none ⟨.non,H,I,rfl,h⟩
theorem Az0 : PE X (.Constant (.str x) j a) (tC (.str x)):=λ_ _ _ H _ I h=>Calls.Constant_str ⟨.str x,H,I.tok _,⟨_,rfl⟩,h⟩
def Gl (X:Cx)(x:Str):Prop:=X.env.kindOf x=some .globalImplicit
theorem Am0 (I:Inv X pins b H s) (hg:Gl X x) (hm:X.mg x=some u) (h:Q u s)
 (hd:(x==("__debug__" : Str))=false:=by decide):wpAny (model X.prog X.w) X.A (eval (.Name x a) X.env) Q E s :=
 Calls.Name_function_global I.ok.kind hg (Calls.loadGlobal_global (by rw[I.ok.glob];exact I.mod.glob.keeps I.bk) hm h) hd
theorem Nf {E:Value->Shared->Prop} {a:Pos} (I:Inv X pins c H s) (hg:Gl X x) (hm:X.mg x=none) (hv:bootBuiltins x=some u) (h:Q u s)
 (hn:x ≠ "__name__" := by decide) (hd:(x==("__debug__" : Str))=false:=by decide):wpAny (model X.prog X.w) X.A (eval (.Name x a) X.env) Q E s:=by
 obtain⟨e,d,b⟩:=I.mod.blt
 exact Calls.Name_function_global I.ok.kind hg (Calls.loadGlobal_builtin (by rw[I.ok.glob];exact I.mod.glob.keeps I.bk) hm (by rw[I.ok.blt];exact d.keeps I.bk) ((b x hn).trans hv) h) hd
theorem A5g (hg:Gl X x) (hm:X.mg x=some u) (r:RelV v u) (hd:(x==("__debug__" : Str))=false:=by decide):PE X (.Name x a) (tC v) :=
 λ_ _ _ H _ I h=>Am0 I hg hm ⟨v,H,I,r,h⟩ hd
theorem A5s {a:Pos}(hg:Gl X x) (hm:X.mg x=none) (hv:bootBuiltins x=some u) (r:RelV v u) (hn:x ≠ "__name__" := by decide) (hd:(x==("__debug__" : Str))=false:=by decide):PE X (.Name x a) (tC v) :=
 λ_ _ _ H _ I h=>Nf I hg hm hv ⟨v,H,I,r,h⟩ hn hd
variable {a b:Expr}{ta tb:TE}{pos:Pos}
def tB (t:TE):TT:=λσ H Q=>t σ H λx H1=>∃c,x=.bl c/\Q c H1
theorem En (h:QE X e t) (he:∀whole,isTrue e X.env whole=(do let v <- whole;standAt e.pos;holding [v] (truthy v)):=by intro _;rfl):QT X e (tB t):=by
 refine⟨?_⟩
 intro a s σ H Q I f
 refine isTrue_plain (thn (h.1 _ s _ H _ I f) λv s1 ⟨x,g,b,c,i⟩=>?_) (he _)
 obtain⟨d,rfl,q⟩:=i
 cases c
 exact wpAny_truthy_bool ⟨g,b,q⟩
variable {tA tB':TT}{rest:List Expr}
def Bm0 (t u:TT):TT:=λσ H Q=>t σ H λc H1=>if c=true then u σ H1 Q else Q false H1
def tOr (t u:TT):TT:=λσ H Q=>t σ H λc H1=>if c=true then Q true H1 else u σ H1 Q
def Bh6 (t:TT):TT:=λσ H Q=>t σ H λc H1=>Q (!c) H1
theorem Am3 (ha:QT X a tA):QW X (.BoolOp .And [a] pos) tA:=by
 refine⟨?_⟩
 intro f b s g H Q I h
 refine isTrue_and (thn (ha.1 _ s _ H Q I h) λc d e=>?_)
 cases c with
 | true=>exact isTrue_and_nil e
 | false=>exact e
theorem Jh (ha:QT X a tA):QW X (.BoolOp .Or [a] pos) tA:=by
 refine⟨?_⟩
 intro f b s g H Q I h
 refine isTrue_or (thn (ha.1 _ s _ H Q I h) λc d e=>?_)
 cases c with
 | false=>exact isTrue_or_nil e
 | true=>exact e
theorem A0q (ha:QT X a tA)(hb:QW X (.BoolOp .And (b::rest) pos) tB'):QW X (.BoolOp .And (a::b::rest) pos) (Bm0 tA tB'):=by
 obtain⟨hb⟩:=hb
 refine⟨?_⟩
 intro g d s k H Q I h
 refine isTrue_and (thn (ha.1 _ s _ H _ I h) λc i ⟨j,f,e⟩=>?_)
 cases c with
 | true=>exact hb _ _ _ _ _ Q f e
 | false=>trivial
theorem Ks (ha:QT X a tA)(hb:QW X (.BoolOp .Or (b::rest) pos) tB'):QW X (.BoolOp .Or (a::b::rest) pos) (tOr tA tB'):=by
 obtain⟨hb⟩:=hb
 refine⟨?_⟩
 intro g d s k H Q I h
 refine isTrue_or (thn (ha.1 _ s _ H _ I h) λc i ⟨j,f,e⟩=>?_)
 cases c with
 | true=>assumption
 | false=>exact hb _ _ _ _ _ Q f e
theorem Gv (ha:QT X a tA):QT X (.UnaryOp .Not a pos) (Bh6 tA):=by
 refine⟨?_⟩
 intro b s c H Q I h;exact isTrue_not (ha.1 _ s _ H _ I h)
def A7r (ta tb:TE):TE:=λσ H Q=>ta σ H λx H1=>∃c,x=.bl c/\if c=true then tb σ H1 Q else Q (.bl false) H1
def Bl7 (ta tb:TE):TE:=λσ H Q=>ta σ H λx H1=>∃c,x=.bl c/\if c=true then Q (.bl true) H1 else tb σ H1 Q
def A7o (ta:TE):TE:=λσ H Q=>ta σ H λx H1=>∃c,x=.bl c/\Q (.bl (!c)) H1
theorem Bf8 (h:PE X a t):PE X (.BoolOp op [a] pos) t:=λb s d H Q I c=>BoolOp_one (h _ s _ H Q I c)
theorem Qo (ha:QE X a ta)(hb:QE X (.BoolOp .And (b::rest) pos) tb):QE X (.BoolOp .And (a::b::rest) pos) (A7r ta tb):=by
 obtain⟨hb⟩:=hb
 refine⟨?_⟩
 intro e s σ H Q I h
 refine BoolOp_and (thn (ha.1 _ s _ H _ I h) λv s1 ⟨x,i,f,g,d⟩=>?_)
 obtain⟨c,rfl,d⟩:=d
 cases g
 refine wpAny_truthy_bool ?_
 cases c with
 | true=>exact hb _ _ _ _ Q f d
 | false=>exact⟨.bl _,i,f,rfl,d⟩
theorem Bh3 (ha:QE X a ta)(hb:QE X (.BoolOp .Or (b::rest) pos) tb):QE X (.BoolOp .Or (a::b::rest) pos) (Bl7 ta tb):=by
 obtain⟨hb⟩:=hb
 refine⟨?_⟩
 intro e s σ H Q I h
 refine BoolOp_or (thn (ha.1 _ s _ H _ I h) λv s1 ⟨x,i,f,g,d⟩=>?_)
 obtain⟨c,rfl,d⟩:=d
 cases g
 refine wpAny_truthy_bool ?_
 cases c with
 | false=>exact hb _ _ _ _ Q f d
 | true=>exact⟨.bl _,i,f,rfl,d⟩
theorem A8m (ha:QE X a ta):QE X (.UnaryOp .Not a pos) (A7o ta):=by
 refine⟨?_⟩
 intro d s σ H Q I h
 refine UnaryOp_ (thn (ha.1 _ s _ H _ I h) λv s1 ⟨x,f,g,e,b⟩=>?_)
 obtain⟨c,rfl,b⟩:=b
 cases e
 exact not_of (wpAny_truthy_bool ⟨.bl _,f,g,rfl,b⟩)
end
def SqL (K:PySem.W.Frag)(H:Hp)(a:Addr)(xs:List V):Prop :=
 Rd H a (.lst xs) \/
  ∃(o:Obj) (its:Array Value) (n:Nat),K.lookup a=some o/\o.cls=.type "list" /\ o.dict=none/\o.data=.seq its n/\its.size<=sizeLine/\Vals xs its.toList
def SqT (K:PySem.W.Frag)(H:Hp)(a:Addr)(xs:List V):Prop :=
 Rd H a (.tup xs) \/
  ∃(o:Obj) (its:Array Value) (n:Nat),K.lookup a=some o/\o.cls=.type "tuple" /\ o.data=.seq its n/\its.size<=sizeLine/\Vals xs its.toList
noncomputable def Bn9:Value->Option V
 | .none=>some .non
 | .bool b=>some (.bl b)
 | .int i _=>some (.int i)
 | .str x _=>some (.str x)
 | .bytes b _=>some (.byt b)
 | .float b _=>some (.flt b)
 | .ref a=>some (.ref a)
 | .type n=>some (.ty n)
 | _=>none
theorem RelV.abs (r:RelV x u):Bn9 u=some x:=by
 cases x with
 | non=>cases r;rfl
 | bl _=>cases r;rfl
 | int _=>obtain⟨t,rfl⟩:=r;rfl
 | str _=>obtain⟨t,rfl⟩:=r;rfl
 | byt _=>obtain⟨t,rfl⟩:=r;rfl
 | flt _=>obtain⟨t,rfl⟩:=r;rfl
 | ref _=>cases r;rfl
 | ty _=>cases r;rfl
theorem RelV.inj (r:RelV x u) (q:RelV y u):x=y:=Option.some.inj (r.abs.symm.trans q.abs)
theorem Vals.inj:∀{xs ys:List V}{us:List Value},Vals xs us->Vals ys us->xs=ys
 | _,_,_,.nil,.nil=>rfl
 | _,_,_,.cons r t,.cons r' t'=>by rw[r.inj r',Vals.inj t t']
section
variable {X:Cx}{pins:List (Addr×Obj)}{σ:St}{H:Hp}{s:Shared}{a:Addr}{xs ys:List V}
theorem SqL.of {K:PySem.W.Frag}(h:H a=some (.lst xs)):SqL K H a xs:=.inl (.inl h)
theorem SqT.of {K:PySem.W.Frag}(h:H a=some (.tup xs)):SqT K H a xs:=.inl (.inl h)
theorem Inv.list (I:Inv X pins σ H s)(h:SqL X.K H a xs):∃b:List Value,Vals xs b/\PlainL s.heap a b.toArray/\xs.length<=sizeLine:=by
 rcases h with h | ⟨o,b,n,d,c,f,i,g,r⟩
 ·obtain⟨z,b,n,r,e⟩:=h.ok I.hok
  exact⟨b,r,⟨_,n,e,rfl,rfl,rfl⟩,z⟩
 ·refine⟨b.toList,r,⟨o,n,I.kIn a o d,c,f,by trivial⟩,?_⟩
  have e:=r.length
  simp_all
theorem Inv.tuple (I:Inv X pins σ H s)(h:SqT X.K H a xs):∃b:List Value,Vals xs b/\IsTup s.heap a b.toArray/\xs.length<=sizeLine:=by
 rcases h with h | ⟨o,b,n,d,c,g,f,r⟩
 ·obtain⟨z,b,r,p⟩:=h.ok I.hok
  exact⟨b,r,p.tup,z⟩
 ·refine⟨b.toList,r,⟨o,I.kIn a o d,c,n,by trivial⟩,?_⟩
  have e:=r.length
  simp_all
theorem Inv.list_inj (I:Inv X pins σ H s)(h:SqL X.K H a xs)(h':SqL X.K H a ys):xs=ys:=by
 obtain⟨c,r,⟨o,n,e,_,_,d⟩,_⟩:=I.list h;obtain⟨b,f,⟨i,j,k,_,_,g⟩,_⟩:=I.list h'
 have:c=b:=by simp_all
 subst this;exact r.inj f
theorem Inv.tuple_inj (I:Inv X pins σ H s)(h:SqT X.K H a xs)(h':SqT X.K H a ys):xs=ys:=by
 obtain⟨c,r,⟨o,e,_,n,d⟩,_⟩:=I.tuple h;obtain⟨b,f,⟨i,j,_,k,g⟩,_⟩:=I.tuple h'
 have:c=b:=by simp_all
 subst this;exact r.inj f
end
noncomputable abbrev Cx.wish (X:Cx) (E:Value->Shared->Prop):Cx:={ X with xe:=E }
abbrev Cx.nox (X:Cx):Cx:=X.wish λ_ _=>False
theorem Cx.Ok.wish {X:Cx}(a:X.Ok)(E:Value->Shared->Prop):(X.wish E).Ok :=
 ⟨a.mod,a.kind,a.glob,a.blt,a.above,a.inj,a.has,a.cab,a.hd,a.frames,a.stk,a.exf,a.bs,a.bsz,a.noex,a.exfs,a.funs,a.frf,a.tab⟩
theorem Cx.Ok.unwish {X:Cx} (a:(X.wish E).Ok):X.Ok :=
 ⟨a.mod,a.kind,a.glob,a.blt,a.above,a.inj,a.has,a.cab,a.hd,a.frames,a.stk,a.exf,a.bs,a.bsz,a.noex,a.exfs,a.funs,a.frf,a.tab⟩
section
variable {X:Cx}{pins:List (Addr×Obj)}{σ:St}{H:Hp}{s:Shared}{E:Value->Shared->Prop}
theorem Inv.wish (I:Inv X pins σ H s)(E:Value->Shared->Prop):Inv (X.wish E) pins σ H s:=⟨I.ok.wish E,I.os,I.bare,I.base,I.loc,I.cell,I.free,I.freeC,I.pin,I.hok,I.len⟩
theorem Inv.unwish (I:Inv (X.wish E) pins σ H s):Inv X pins σ H s:=⟨I.ok.unwish,I.os,I.bare,I.base,I.loc,I.cell,I.free,I.freeC,I.pin,I.hok,I.len⟩
theorem SP.unwish (h:SP (X.wish E) pins D f s'):SP X pins D f s':=by
 cases f with
 | next=>obtain⟨a,b,I,q⟩:=h;exact⟨a,b,I.unwish,q⟩
 | brk=>obtain⟨a,b,I,q⟩:=h;exact⟨a,b,I.unwish,q⟩
 | cont=>obtain⟨a,b,I,q⟩:=h;exact⟨a,b,I.unwish,q⟩
 | ret u=>obtain⟨v,a,b,I,r,q⟩:=h;exact⟨v,a,b,I.unwish,r,q⟩
theorem PSs.nox {st:List Stmt} (h:PSs X.nox st t):PSs X st t:=λa s c H D I b =>
 wpAny_mono (h _ s _ H D (I.wish _) b) (λ_ _ q=>q.unwish) λ_ _ z=>False.elim z
end
section
variable {X:Cx}{st:Stmt}{rest:List Stmt}{t u:TS}{e:Expr}{te:TE}{pos:Pos}
def An3:TS:=λD σ H=>D.nx σ H
def Us (t u:TS):TS:=λD σ H=>t { D with nx:=u D } σ H
theorem A6d:PSs X [] An3:=λ_ _ a H _ I h=>wpAny_execs_nil ⟨a,H,I,h⟩
theorem Ai (h1:QS X st t)(h2:QSs X rest u):QSs X (st::rest) (Us t u):=by
 obtain⟨h2⟩:=h2
 refine⟨?_⟩
 intro a s d H D I h
 refine wpAny_execs_cons (thn (h1.1 _ s _ H _ I h) λf e q=>?_)
 cases f with
 | next =>
  obtain⟨c,g,b,q⟩:=q;exact h2 _ _ _ _ D b q
 | ret v=>exact q
 | brk=>exact q
 | cont=>exact q
theorem Am (h1:QS X st t):QSs X [st] t:=by
 refine⟨?_⟩
 intro a s c H D I h
 refine wpAny_execs_cons (thn (h1.1 _ s _ H D I h) λf b q=>?_)
 cases f with
 | next=>exact wpAny_execs_nil q
 | ret v=>grind
 | brk=>grind
 | cont=>grind
theorem Inv.quiet (I:Inv X pins a H s):interactive X.env=false:=by simp[interactive,I.ok.kind]
def Ld (te:TE):TS:=λD σ H=>te σ H λ_ H1=>D.nx σ H1
theorem J6 (he:QE X e te)(hs:swapsWith e none pos.line X.env=pure false:=by rfl):QS X (.Expr e pos) (Ld te):=by
 refine⟨?_⟩
 intro a s c H D I h
 exact wpAny_Expr_any (thn (he.1 _ s _ H _ I h) λv g ⟨x,f,d,i,b⟩=>⟨c,f,d,b⟩) I.quiet hs
def Bd7 (te:TE):TS:=λD σ H=>te σ H D.rt
theorem Bd (he:QE X e te):QS X (.Return (some e) pos) (Bd7 te):=by
 refine⟨?_⟩
 intro a s c H D I h
 exact wpAny_Return_some (thn (he.1 _ s _ H _ I h) λv i ⟨x,f,d,g,b⟩=>⟨x,c,f,d,g,b⟩)
def Ae7 (c:TT)(t u:TS):TS:=λD σ H=>c σ H λb H1=>if b=true then t D σ H1 else u D σ H1
theorem Dv (hc:QT X c f) (ha:QSs X a t) (hb:QSs X b u):QS X (.If c a b pos) (Ae7 f t u):=by
 obtain⟨ha⟩:=ha;obtain⟨hb⟩:=hb
 refine⟨?_⟩
 intro i s j H D I h
 refine wpAny_If (thn (hc.1 _ s _ H _ I h) λd l ⟨k,g,e⟩=>?_)
 cases d with
 | true=>exact ha _ _ _ _ D g e
 | false=>exact hb _ _ _ _ D g e
def Ae8:TS:=λ_ _ _=>False
theorem A0c:PS X st Ae8:=λ_ _ _ _ _ _ h=>h.elim
end
abbrev TG:=V->St->Hp->(St->Hp->Prop)->Prop
abbrev TGs:=List V->St->Hp->(St->Hp->Prop)->Prop
def PG (X:Cx)(target:Expr)(t:TG):Prop :=
 ∀
  (pins:List (Addr×Obj)) (s:Shared) (σ:St) (H:Hp) (v:V) (u:Value) (Q:St->Hp->Prop),Inv X pins σ H s->RelV v u->t v σ H Q ->
  wpAny (model X.prog X.w) X.A (assign target X.env u) (λ_ s'=>∃σ' H',Inv X pins σ' H' s'/\Q σ' H') X.xe s
structure QG (X:Cx) (e:Expr) (t:TG):Prop where
 get:PG X e t
def PGs (X:Cx)(ts:List Expr)(t:TGs):Prop :=
 ∀
  (pins:List (Addr×Obj)) (s:Shared) (σ:St) (H:Hp) (vs:List V) (us:List Value) (Q:St->Hp->Prop),Inv X pins σ H s->Vals vs us->t vs σ H Q ->
  wpAny (model X.prog X.w) X.A (assignInOrder ((assignEach ts X.env).map (·.2)) us) (λ_ s'=>∃σ' H',Inv X pins σ' H' s'/\Q σ' H') X.xe s
structure QGs (X:Cx) (e:(List Expr)) (t:TGs):Prop where
 get:PGs X e t
abbrev Bg2:=V->V->V->Hp->(Hp->Prop)->Prop
def Bl1 (X:Cx)(t:Bg2):Prop :=
 ∀
  (pins:List (Addr×Obj)) (s:Shared) (σ:St) (H:Hp) (o i v:V) (ov iv u:Value) (Q:Hp->Prop),Inv X pins σ H s->RelV o ov->RelV i iv->RelV v u->t o i v H Q ->
  wpAny (model X.prog X.w) X.A (setItem ov iv u) (λ_ s'=>∃H',Inv X pins σ H' s'/\Q H') X.xe s
section
variable {X:Cx}{pos:Pos}
def Ey (i:Nat):TG:=λv σ H Q=>Q (σ.set i (some v)) H
theorem Br (hN:X.N.Nodup) (hi:X.N[i]?=some x:=by exact rfl) (hx:Loc X.env.scope x:=by first | exact Or.inl rfl | exact Or.inr rfl) (hf:X.fn x=true\/X.env.scope.names.lookup x=some .local:=by first | exact .inl rfl | exact .inr rfl | assumption):QG X (.Name x pos) (Ey i):=by
 refine⟨?_⟩
 intro a s c H v u Q I r h
 exact wpAny_assign_Name (Zg I hN hi hx r (λd b=>⟨_,H,b,h⟩) hf)
noncomputable def Af2:TGs:=λvs σ H Q=>vs=[]/\Q σ H
noncomputable def Mi (t:TG) (u:TGs):TGs:=λvs σ H Q=>∃v r,vs=v::r/\t v σ H λσ' H'=>u r σ' H' Q
theorem Wz:QGs X [] Af2:=by
 refine⟨?_⟩
 intro a s b H d c Q I r h;obtain⟨e,h⟩:=h;exact assignInOrder_nil ⟨b,H,I,h⟩
theorem Jt (h1:QG X e t) (h2:QGs X es u)
 (hs:(assignEach (e::es) X.env).map (·.2)=assign e X.env::(assignEach es X.env).map (·.2):=by rfl):QGs X (e::es) (Mi t u):=by
 obtain⟨h2⟩:=h2
 refine⟨?_⟩
 intro a s i H j n Q I r h;obtain⟨v,l,f,h⟩:=h;subst f
 cases r with
 | cons r d =>
  rw[hs]
  refine assignInOrder_cons (thn (h1.1 _ s _ H _ _ _ I r h) λ_ k ⟨c,m,g,b⟩=>?_)
  exact h2 _ _ _ _ _ _ Q g d b
def Ab3 (K:PySem.W.Frag)(n:Nat)(t:TGs):TG:=λv σ H Q=>∃a xs,v=.ref a/\SqT K H a xs/\xs.length=n/\t xs σ H Q
theorem A8p {k:Nat} (hc:X.calm=true) (h:PGs X es t)
 (hn:(assignEach es X.env).length=n:=by rfl) (hst:(assignEach es X.env).findIdx? (·.1)=none:=by rfl):PG X (.Tuple es k pos) (Ab3 X.K n t):=by
 intro d s x H v u Q I r c;obtain⟨a,y,j,l,m,c⟩:=c;subst j
 cases r
 obtain⟨g,i,q,z⟩:=I.tuple l
 refine assign_Tuple_tuple (I.ok.hd hc) q (by simp[hn,<- m,i.length]) hst λp w=>?_
 have f:Inv X _ _ H { s with heap:=p }:=I.kept λb o e=>w b o (Nat.ne_of_lt (Heap.lt_size e)) e
 exact h _ _ _ H _ _ Q f (by trivial) c
def Bk8 (to ti:TE)(t:Bg2):TG:=λv σ H Q=>to σ H λo H1=>ti σ H1 λi H2=>t o i v H2 λH3=>Q σ H3
theorem A0w (ho:QE X o e) (hi:QE X i d) (hs:Bl1 X t)
 (ha:∀v,assign (.Subscript o i pos) X.env v=(do
  let a <- holding [v] (eval o X.env)
  let b <- holding [v,a] (eval i X.env)
  standAt pos
  holding [v,a,b] (setItem a b v)
  release [v,a,b] []):=by intro _;rfl):QG X (.Subscript o i pos) (Bk8 e d t):=by
 refine⟨?_⟩
 intro c s m H v u Q I r h;rw[ha]
 refine wpAny_bind (wpAny_holding (thn (ho.1 _ s _ H _ I h) λa z ⟨x,C,j,k,l⟩=>?_))
 refine wpAny_bind (wpAny_holding (thn (hi.1 _ _ _ _ _ j l) λb D ⟨y,A,g,p,n⟩=>?_))
 refine wpAny_bind (wpAny_standAt (wpAny_bind (wpAny_holding (thn (hs _ _ _ _ x y v _ _ u _ g k p r n) λ_ B ⟨q,w,f⟩=>?_))))
 exact wpAny_release ⟨m,q,w,f⟩
def Uy (te:TE)(g:TG):TS:=λD σ H=>te σ H λx H1=>g x σ H1 D.nx
theorem Ax1 (he:QE X e b) (hg:QG X a g) (hs:swapsWithSole [a] e pos.line X.env=pure false:=by rfl) (hw:swappedStores [a] e X.env=pure none:=by rfl)
 (h1:(assignEach [a] X.env).map (·.2)=[assign a X.env]:=by rfl):QS X (.Assign [a] e pos) (Uy b g):=by
 refine⟨?_⟩
 intro c s k H D I h
 refine wpAny_Assign_stores (thn (he.1 _ s _ H _ I h) λv l ⟨x,m,d,i,f⟩=>?_) hs hw
 rw[h1]
 exact thn (hg.1 _ _ _ _ x v _ d i f) λ_ j q=>q
theorem Cv (hN:X.N.Nodup) (he:QE X e b) (hi:X.N[i]?=some x:=by exact rfl) (hx:Loc X.env.scope x:=by first | exact Or.inl rfl | exact Or.inr rfl) (hs:swapsWith e (some (.Name x a)) pos.line X.env=pure false:=by rfl) (hf:X.fn x=true\/X.env.scope.names.lookup x=some .local:=by first | exact .inl rfl | exact .inr rfl | assumption) :
 QS X (.Assign [.Name x a] e pos) (Uy b (Ey i)):=by
 refine⟨?_⟩
 intro c s l H D I h
 refine wpAny_Assign_Name (thn (he.1 _ s _ H _ I h) λv m ⟨y,j,f,g,k⟩=>?_) hs
 exact Zg f hN hi hx g (λn d=>⟨_,j,d,k⟩) hf
end
structure It where
 go:Nat->Hp->Prop
 yld:Nat->Hp->V->Hp->Prop
 stop:Nat->Hp->Prop
def Rc (X:Cx)(pins:List (Addr×Obj))(H:Hp)(b:Addr):Prop :=
 H b=none/\b≠X.env.locals/\b∉X.fs/\(b∈X.ex\/X.s₀.heap.objs.size<=b)/\(∀x c,X.env.cells.lookup x=some c->c≠b)/\∀p∈X.pn++pins,p.1≠b
theorem Inv.fpOk (I:Inv X pins d H s) (hb:s.heap.objs.size<=b) (hn:H' b=none):Rc X pins H' b:=by
 refine⟨hn,Nat.ne_of_gt (Nat.lt_of_lt_of_le I.lt hb),I.nofs hb,.inr (Nat.le_trans I.sz hb),λx c e z=>?_,λp a z=>?_⟩
 ·obtain⟨v,q⟩:=I.cell x c e
  exact absurd (Nat.lt_of_lt_of_le q.lt (by simp_all)) (Nat.lt_irrefl _)
 ·exact absurd (Nat.lt_of_lt_of_le (Heap.lt_size (I.pin p a).1) (by simp_all)) (Nat.lt_irrefl _)
structure Turn (P:Program) (w:World) (K:PySem.W.Frag) (tg:Expr) (J:It) (fp:List Addr) (it:Addr) (tn:Nat->Heap->Prop):Prop where
 mem:it∈fp
 obj:∀i h,tn i h->∀b∈fp,∃o,h.get? b=some o/\∀v,o.data≠.cell v
 keep:∀i h h',tn i h->(∀b∈fp,∀o,h.get? b=some o->h'.get? b=some o)->tn i h'
 item:∀(X:Cx),X.prog=P->X.w=w->X.K=K->X.calm=true->∀(i:Nat) (pins:List (Addr×Obj)) (s:Shared) (σ:St) (H:Hp) (E:Value->Shared->Prop),Inv X pins σ H s->(∀b∈fp,Rc X pins H b)->tn i s.heap->J.go i H ->
  wpAny (model P w) X.A (pyNext (.ref it)) (λr s1=>∃u,r=some u /\
   wpAny (model P w) X.A (letOwnedTupleGo tg (.ref it) u) (λ_ s2=>∃x H',Inv X pins σ H' s2/\RelV x u/\J.yld i H x H'/\tn (i+1) s2.heap/\∀b∈fp,H' b=none) E s1) E s
 done:∀(X:Cx),X.prog=P->X.w=w->X.K=K->X.calm=true->∀(i:Nat) (pins:List (Addr×Obj)) (s:Shared) (σ:St) (H:Hp) (E:Value->Shared->Prop),Inv X pins σ H s->(∀b∈fp,Rc X pins H b)->tn i s.heap->J.stop i H ->
  wpAny (model P w) X.A (pyNext (.ref it)) (λr s1=>r=none/\Inv X pins σ H s1) E s
 self:∀(A:Around) (i:Nat) (s:Shared) (Q:Value->Shared->Prop) (E:Value->Shared->Prop),tn i s.heap->Q (.ref it) s->wpAny (model P w) A (pyIter (.ref it)) Q E s
abbrev TI:=St->Hp->(It->Hp->Prop)->Prop
def PIE (X:Cx)(pins:List (Addr×Obj))(σ:St)(tg:Expr)(R:It->Hp->Prop)(itv:Value)(s2:Shared):Prop :=
 ∃(it:Addr) (fp:List Addr) (tn:Nat->Heap->Prop) (J:It) (H':Hp),itv=.ref it/\Inv X pins σ H' s2/\Turn X.prog X.w X.K tg J fp it tn/\tn 0 s2.heap/\(∀b∈fp,Rc X pins H' b)/\R J H'
def PI (X:Cx)(tg iter:Expr)(wi:TI):Prop :=
 ∀
  (pins:List (Addr×Obj)) (s:Shared) (σ:St) (H:Hp) (R:It->Hp->Prop),Inv X pins σ H s->wi σ H R ->
  wpAny (model X.prog X.w) X.A (eval iter X.env) (λv s1=>wpAny (model X.prog X.w) X.A (pyIter v) (PIE X pins σ tg R) X.xe s1) X.xe s
structure QI (X:Cx) (tg iter:Expr) (wi:TI):Prop where
 get:PI X tg iter wi
theorem Al8 (ho:s.heap.get? it=some o) (hc:o.cls=.type n) (hd:o.data=.fields vs)
 (hn:["enumerate", "zip", "dict_itemiterator", "dict_reverseitemiterator", "odict_iterator", "itertools.zip_longest", "itertools.pairwise"].contains n=false) (a:Q () s):wpAny M A (letOwnedTupleGo b (.ref it) u) Q E s:=by
 cases b <;> first
  | exact wpAny_pure a
  | (cases u <;> first
   | exact wpAny_pure a
   | (
    refine wpAny_bind (wpAny_load ho ?_)
    rw[hc,hd]
    show wpAny M A (if (["enumerate", "zip", "dict_itemiterator", "dict_reverseitemiterator", "odict_iterator", "itertools.zip_longest", "itertools.pairwise"].contains n&&vs[0]?==some _)=true then _ else _) Q E s
    rw[if_neg (by intro h;rw[hn]at h;cases h)]
    exact wpAny_pure a))
noncomputable def Itl (K:PySem.W.Frag) (a:Addr):It :=
 ⟨λi H=>∃xs x,SqL K H a xs/\xs[i]?=some x,λi H x H'=>H'=H/\∀xs,SqL K H a xs->xs[i]?=some x,λi H=>∃xs,SqL K H a xs/\xs.length<=i⟩
noncomputable def Itt (K:PySem.W.Frag) (a:Addr):It :=
 ⟨λi H=>∃xs x,SqT K H a xs/\xs[i]?=some x,λi H x H'=>H'=H/\∀xs,SqT K H a xs->xs[i]?=some x,λi H=>∃xs,SqT K H a xs/\xs.length<=i⟩
noncomputable def Itr (lo:Int) (n:Nat):It:=⟨λi _=>i<n,λi H x H'=>H'=H/\x=.int (lo+i),λi _=>n<=i⟩
theorem Ap0 {P:Program}{w:World}{K:PySem.W.Frag}{tg:Expr}(a it:Addr):Turn P w K tg (Itl K a) [it] it (λi h=>h.IsListIter it a i) where
 mem:=by simp
 obj:=λi h st b hb=>by
  have e:b=it:=by simpa using hb
  subst e;obtain⟨o,e,c,d⟩:=st
  exact⟨o,e,λv z=>by rw[d]at z;cases z⟩
 keep:=λi h h' st k=>st.at λo e=>k it (by simp) o e
 item:=by
  intro X hP hw hK hc i pins s σ H E I hf st hg;subst hP hw hK;obtain⟨xs,x,hq,hx⟩:=hg;obtain⟨its,rv,p,hz⟩:=I.list hq;obtain⟨u,hu,ru⟩:=rv.get hx
  obtain⟨f0,f1,f2,f3,f4,f5⟩:=hf it (by simp)
  refine wpAny_pyNext_list_item st p.isList (x:=u) (by simpa using hu) λh' st' sb=>?_
  have I1:Inv X pins σ H { s with heap:=h' }:=I.turned (t':=s.toks) (λb o hb e=>(sb.2 b hb).trans e) f0 f1 f3 f4 f5
  obtain⟨o,e,c,d⟩:=id st'
  exact⟨u,rfl,Al8 (s:={ s with heap:=h' }) e c d (by decide) ⟨x,H,I1,ru,⟨rfl,λys hy=>by rw[I.list_inj hy hq];exact hx⟩,st',λb hb=>(hf b hb).1⟩⟩
 done:=by
  intro X hP hw hK hc i pins s σ H E I hf st hg;subst hP hw hK;obtain⟨xs,hq,hx⟩:=hg;obtain⟨its,rv,p,hz⟩:=I.list hq
  obtain⟨f0,f1,f2,f3,f4,f5⟩:=hf it (by simp)
  have hl:=rv.length
  exact wpAny_pyNext_list_end (I.ok.hd hc) st p.isList (by simp;omega) λh' eb=>⟨rfl,I.turned (t':=s.toks) (λb o hb e=>eb b o hb e) f0 f1 f3 f4 f5⟩
 self:=λ_ _ _ _ _ st h=>wpAny_pyIter_listiter st h
theorem Af7 {P:Program}{w:World}{K:PySem.W.Frag}{tg:Expr}(a it:Addr):Turn P w K tg (Itt K a) [it] it (λi h=>h.IsTupleIter it a i) where
 mem:=by simp
 obj:=λi h st b hb=>by
  have e:b=it:=by simpa using hb
  subst e;obtain⟨o,e,c,d⟩:=st
  exact⟨o,e,λv z=>by rw[d]at z;cases z⟩
 keep:=λi h h' st k=>st.at λo e=>k it (by simp) o e
 item:=by
  intro X hP hw hK hc i pins s σ H E I hf st hg;subst hP hw hK;obtain⟨xs,x,hq,hx⟩:=hg;obtain⟨its,rv,p,hz⟩:=I.tuple hq;obtain⟨u,hu,ru⟩:=rv.get hx
  obtain⟨f0,f1,f2,f3,f4,f5⟩:=hf it (by simp)
  refine wpAny_pyNext_tuple_item st (show s.heap.IsTuple a its.toArray from p) (x:=u) (by simpa using hu) λh' st' sb=>?_
  have I1:Inv X pins σ H { s with heap:=h' }:=I.turned (t':=s.toks) (λb o hb e=>(sb.2 b hb).trans e) f0 f1 f3 f4 f5
  obtain⟨o,e,c,d⟩:=id st'
  exact⟨u,rfl,Al8 (s:={ s with heap:=h' }) e c d (by decide) ⟨x,H,I1,ru,⟨rfl,λys hy=>by rw[I.tuple_inj hy hq];exact hx⟩,st',λb hb=>(hf b hb).1⟩⟩
 done:=by
  intro X hP hw hK hc i pins s σ H E I hf st hg;subst hP hw hK;obtain⟨xs,hq,hx⟩:=hg;obtain⟨its,rv,p,hz⟩:=I.tuple hq
  obtain⟨f0,f1,f2,f3,f4,f5⟩:=hf it (by simp)
  have hl:=rv.length
  exact wpAny_pyNext_tuple_end (I.ok.hd hc) st (show s.heap.IsTuple a its.toArray from p) (by simp;omega) λh' eb=>⟨rfl,I.turned (t':=s.toks) (λb o hb e=>eb b o hb e) f0 f1 f3 f4 f5⟩
 self:=λ_ _ _ _ _ st h=>wpAny_pyIter_tupleiter st h
theorem Ad6 {P:Program}{w:World}{K:PySem.W.Frag}{tg:Expr}(it:Addr)(lo:Int)(n:Nat):Turn P w K tg (Itr lo n) [it] it (λi h=>IsRangeIter h it (lo+(i:Nat)*1) ((n:Int)-(i:Nat)) 1) where
 mem:=by simp
 obj:=λi h st b hb=>by
  have e:b=it:=by simpa using hb
  subst e
  exact⟨_,st,λv z=>by
   have z':Data.fields _=Data.cell v:=z
   cases z'⟩
 keep:=λi h h' st k=>k it (by simp) _ st
 item:=by
  intro X hP hw hK hc i pins s σ H E I hf st hg;subst hP hw hK
  obtain⟨f0,f1,f2,f3,f4,f5⟩:=hf it (by simp)
  have W:=Walks.range (prog:=X.prog) (w:=X.w) (I.ok.hd hc) it lo 1 n
  refine W.item i s _ _ hg st λv h' tk hv st' kk=>?_
  obtain⟨t,rfl⟩:=hv
  have I1:Inv X pins σ H { s with heap:=h',toks:=tk }:=I.turned (λb o hb e=>kk b o (by simpa using hb) e) f0 f1 f3 f4 f5
  refine⟨_,rfl,Al8 (s:={ s with heap:=h',toks:=tk }) (n := "range_iterator") st' rfl rfl (by decide) ⟨.int (lo+i),H,I1,⟨t,?_⟩,⟨rfl,rfl⟩,st',λb hb=>(hf b hb).1⟩⟩
  rw[Int.mul_one]
 done:=by
  intro X hP hw hK hc i pins s σ H E I hf st hg;subst hP hw hK
  obtain⟨f0,f1,f2,f3,f4,f5⟩:=hf it (by simp)
  exact wpAny_pyNext_range_end (I.ok.hd hc) st (by have:n<=i:=hg;omega) λh' eb=>⟨rfl,I.turned (t':=s.toks) (λb o hb e=>eb b o hb e) f0 f1 f3 f4 f5⟩
 self:=λ_ _ _ _ _ st h=>wpAny_pyIter_rangeiter st h
section
variable {X:Cx}{tg:Expr}
theorem A1x {lo hi:Int} (I:Inv X pins c H s) (h1:-(2 ^ 62)<=lo) (h2:lo<2 ^ 62) (d:-(2 ^ 62)<=hi) (f:hi<2 ^ 62)
 (q:R (Itr lo (hi-lo).toNat) H):wpAny (model X.prog X.w) X.A (pyIter (.ref s.heap.objs.size)) (PIE X pins c tg R) E { s with heap:=s.heap.push { cls:=.type "range",data:=.fields #[.int lo t,.int hi u,.int 1 v] },toks:=tk }:=by
 refine wpAny_pyIter_range (IsRange.new ..) (small_one h1 h2 d f) ?_
 have a:Inv X _ _ H { s with heap:=s.heap.push { cls:=.type "range",data:=.fields #[.int lo t,.int hi u,.int 1 v] },toks:=tk }:=I.kept λb o e=>Heap.get?_push_of_some _ e
 refine⟨(s.heap.push _).objs.size,[(s.heap.push _).objs.size],_,_,H,rfl,
  a.kept λb o e=>Heap.get?_push_of_some _ e,Ad6 _ _ _,?_,λb i=>?_,q⟩
 ·have h:lo+((0:Nat))*1=lo:=by simp
  have g:(((hi-lo).toNat):Int)-((0:Nat))=Builtin.Range.rangeSize lo hi 1:=by rw[rangeSize_one];grind
  rw[h,g];exact Heap.get?_push_size _ rfl
 ·have e:b=(s.heap.push { cls:=.type "range",data:=.fields #[.int lo t,.int hi u,.int 1 v] }).objs.size:=by grind
  subst e;exact a.fpOk (Nat.le_refl _) (a.hok.fresh (Nat.le_refl _))
def A7t (ta:TA):TI:=λσ H R=>ta σ H λvs H1=>∃j:Int,vs=[.int j]/\-(2 ^ 62)<=j/\j<2 ^ 62/\R (Itr 0 j.toNat) H1
theorem Hw (hg:Gl X "range") (hm:X.mg "range" = none) (ha:QA X [a] d) (hs:starEach [a] X.env=[(false,eval a X.env)]:=by rfl):QI X tg (.Call (.Name "range" p) [a] [] b) (A7t d):=by
 refine⟨?_⟩
 intro f s σ H R I h
 refine Call_ (Nf I hg hm boot_range (PyProof.Rows.callWith_type1 (thn (ha.1 _ _ s _ H _ I h) λus s1 ⟨vs,H1,g,i,c⟩=>?_) hs rfl))
 obtain⟨j,e,c,k,q⟩:=c;subst e
 cases i with
 | cons r l =>
  cases l
  obtain⟨t,rfl⟩:=r
  exact call_range_1 (A1x g (by omega) (by omega) c k (by grind))
def A1n (wi:TI)(g:TG)(tb:TS):TS:=λD σ H=>wi σ H λJ H1=>∃W:Nat->Nat->St->Hp->Prop,(∃m,W 0 m σ H1)/\∀i m σ H,W i m σ H ->
 (J.stop i H/\D.nx σ H)\/(J.go i H/\∃N:St->Hp->Prop,(∀σ' H',N σ' H'->∃m',m'<m/\W (i+1) m' σ' H')/\∀x H',J.yld i H x H'->g x σ H' λσ2 H2=>tb { D with nx:=N,ct:=N,bk:=D.nx } σ2 H2)
noncomputable def Su (fp:List Addr) (h:Heap):List (Addr×Obj):=fp.filterMap λb=>(h.get? b).map λo=>(b,o)
theorem J7 (hb:b∈fp) (e:h.get? b=some o):(b,o)∈Su fp h:=List.mem_filterMap.mpr ⟨b,hb,by grind⟩
theorem Ao5 (hp:p∈Su fp h):p.1∈fp/\h.get? p.1=some p.2:=by
 obtain⟨b,a,e⟩:=List.mem_filterMap.mp hp
 cases q:h.get? b with
 | none=>simp_all
 | some o =>
  grind
theorem Inv.pinned (I:Inv X pins a H s) (hf:∀b∈fp,Rc X pins H b) (ho:∀b∈fp,∃o,s.heap.get? b=some o/\∀v,o.data≠.cell v):Inv X (pins++Su fp s.heap) a H s :=
 I.pins_of λp d=>(List.mem_append.mp d).elim (λz=>I.pin p (List.mem_append_right _ z)) λz=>by
  obtain⟨c,e⟩:=Ao5 z;obtain⟨g,h,f,_⟩:=hf _ c
  grind
theorem Inv.unpinned (I:Inv X (pins++pl) a H s):Inv X pins a H s:=I.pins_of λp b=>I.pin p (List.mem_append_right _ (List.mem_append_left _ b))
theorem Jd (hp:PassesOwn (model X.prog X.w) X.A X.env X.xe) (hc:X.calm=true) (hi:QI X tg p Z) (hg:QG X tg g) (hb:QSs X body tb)
 (hs:∀x,foldedSetIterable p X.env x=pure x:=by intro _;rfl):QS X (.For tg p body [] P) (A1n Z g tb):=by
 obtain⟨hb⟩:=hb
 refine⟨?_⟩
 intro a s σ H D I h
 refine wpAny_For (thn (hi.1 a s σ H _ I h) λv s1 h1=>thn h1 λitv s2 h2=>?_) hs
 obtain⟨it,C,tn,J,H2,e,I2,T,Q,Y,W,⟨m0,w0⟩,E⟩:=h2;subst e
 have k:∀{t:Hp},(∀b∈C,t b=none)->∀b∈C,Rc X a t b:=λhn b hb=>⟨hn b hb,(Y b hb).2⟩
 refine codeAny_forLoop_any (λn U=>∃i σ' t,Inv X a σ' t U/\tn i U.heap/\(∀b∈C,t b=none)/\W i n σ' t) ?_ m0 ⟨0,σ,H2,I2,Q,λb hb=>(Y b hb).1,w0⟩
 rintro n V ⟨i,j,L,I3,B,F,w3⟩
 rcases E i n j L w3 with ⟨A,qn⟩ | ⟨go,N,hN,K⟩
 ·refine wpAny_passesOwn hp (thn (T.done X rfl rfl rfl hc i a V j L X.xe I3 (k F) B A) λr s4 ⟨M,I4⟩=>?_)
  subst M;exact wpAny_execs_nil ⟨j,L,I4,qn⟩
 ·refine wpAny_passesOwn hp (thn (T.item X rfl rfl rfl hc i a V j L X.xe I3 (k F) B go) λr s4 ⟨u,M,h4⟩=>?_)
  subst M
  refine wpAny_passesOwn hp (thn h4 λ_ s5 ⟨x,S,I5,r5,y5,z,O⟩=>?_)
  refine wpAny_passesOwn hp (thn (hg.1 _ s5 j S x u _ (I5.pinned (k O) (T.obj _ _ z)) r5 (K x S y5)) λ_ s6 ⟨R,H6,I6,q6⟩=>?_)
  refine wpAny_passesOwn hp (thn (hb _ s6 R H6 _ I6 q6) λf s7 y=>?_)
  have l:∀{c:St} {w:Hp},Inv X (a++Su C s5.heap) c w s7->N c w->∃m,m<n/\∃i σ' t,Inv X a σ' t _/\tn i _/\(∀b∈C,t b=none)/\W i m σ' t:=λ{c w} q G=>by
   obtain⟨m',hm,w7⟩:=hN _ _ G
   refine⟨m',hm,i+1,c,w,q.unpinned,T.keep _ _ _ z λb hb o e=>(q.pin _ (List.mem_append_right _ (List.mem_append_right _ (J7 hb e)))).1,λb hb=>?_,w7⟩
   obtain⟨o,e,d⟩:=T.obj _ _ z b hb;exact(q.pin _ (List.mem_append_right _ (List.mem_append_right _ (J7 hb e)))).2.1
  cases f with
  | next=>obtain⟨c,w,q,G⟩:=y;exact l q G
  | cont=>obtain⟨c,w,q,G⟩:=y;exact l q G
  | brk=>obtain⟨c,w,q,y⟩:=y;exact⟨c,w,q.unpinned,y⟩
  | ret v=>obtain⟨x7,c,w,q,r7,y⟩:=y;exact⟨x7,c,w,q.unpinned,r7,y⟩
end
theorem A0s {K:PySem.W.Frag}{a:Addr}{xs:List V}{g:TG}{tb:TS}{D:Ends}{σ:St}{H:Hp}(Pv:Nat->St->Hp->Prop)(h0:Pv 0 σ H)(hl:∀i σ H,i<=xs.length->Pv i σ H->SqL K H a xs)
 (hs:∀i x σ H,xs[i]?=some x->Pv i σ H->g x σ H λσ2 H2=>tb { D with nx:=Pv (i+1),ct:=Pv (i+1),bk:=D.nx } σ2 H2) (hd:∀σ H,Pv xs.length σ H->D.nx σ H) :
 ∃
  W:Nat->Nat->St->Hp->Prop,(∃m,W 0 m σ H)/\∀i m σ H,W i m σ H ->
  ((Itl K a).stop i H/\D.nx σ H)\/((Itl K a).go i H/\∃N:St->Hp->Prop,(∀σ' H',N σ' H'->∃m',m'<m/\W (i+1) m' σ' H')/\∀x H',(Itl K a).yld i H x H'->g x σ H' λσ2 H2=>tb { D with nx:=N,ct:=N,bk:=D.nx } σ2 H2):=by
 refine⟨λi m σ H=>m=xs.length-i/\i<=xs.length/\Pv i σ H,⟨xs.length,by simp,Nat.zero_le _,h0⟩,?_⟩
 rintro i m σ H ⟨rfl,hi,p⟩
 have q:=hl i σ H hi p
 by_cases hlt:i<xs.length
 ·refine .inr ⟨⟨xs,xs[i],q,by simp[hlt]⟩,Pv (i+1),λσ' H' p'=>⟨xs.length-(i+1),by omega,rfl,hlt,p'⟩,λx H' y=>?_⟩
  obtain⟨e,y⟩:=y;subst e;exact hs i x σ _ (y xs q) p
 ·have e:i=xs.length:=by omega
  subst e;exact .inl ⟨⟨xs,q,Nat.le_refl _⟩,hd σ H p⟩
abbrev R2:=V->V->Hp->VK->Prop
def OpR (X:Cx)(f:Value->Value->Sem Value)(r:R2):Prop :=
 ∀
  (pins:List (Addr×Obj)) (s:Shared) (σ:St) (H:Hp) (x y:V) (v u:Value) (Q:VK),Inv X pins σ H s->RelV x v->RelV y u->r x y H Q ->
  wpAny (model X.prog X.w) X.A (f v u) (EP X pins σ Q) X.xe s
def UnR (X:Cx)(f:Value->Sem Value)(r:V->Hp->VK->Prop):Prop :=
 ∀
  (pins:List (Addr×Obj)) (s:Shared) (σ:St) (H:Hp) (x:V) (v:Value) (Q:VK),Inv X pins σ H s->RelV x v->r x H Q ->
  wpAny (model X.prog X.w) X.A (f v) (EP X pins σ Q) X.xe s
def zE (X:Cx)(f:Value)(r:List V->Hp->VK->Prop):Prop :=
 ∀
  (pins:List (Addr×Obj)) (s:Shared) (σ:St) (H:Hp) (xs:List V) (us:List Value) (Q:VK),Inv X pins σ H s->Vals xs us->r xs H Q ->
  wpAny (model X.prog X.w) X.A (call f us) (EP X pins σ Q) X.xe s
def tOp (r:R2)(ta tb:TE):TE:=λσ H Q=>ta σ H λx H1=>tb σ H1 λy H2=>r x y H2 Q
def tUn (r:V->Hp->VK->Prop)(ta:TE):TE:=λσ H Q=>ta σ H λx H1=>r x H1 Q
def rI (C:Int->Int->Prop)(g:Int->Int->V):R2:=λx y H Q=>∃i j,x=.int i/\y=.int j/\C i j/\Q (g i j) H
def rI0 (g:Int->Int->V):R2:=λx y H Q=>∃i j,x=.int i/\y=.int j/\Q (g i j) H
def rU (g:Int->V):V->Hp->VK->Prop:=λx H Q=>∃i,x=.int i/\Q (g i) H
section
variable {X:Cx}{a b c:Expr}{ta tb:TE}{pos:Pos}
theorem Ba4 (ha:PE X a ta)(hb:PE X b tb) {R:V->V->Hp->Prop}(I:Inv X pins g H s)
 (h:ta g H λx j=>tb g j λy c=>R x y c) {f:Value->Value->Sem Value}
 (hf:∀v u i x y c,Inv X pins g c i->RelV x v->RelV y u->R x y c->wpAny (model X.prog X.w) X.A (f v u) Q X.xe i) :
 wpAny (model X.prog X.w) X.A (eval a X.env) (λv d=>wpAny (model X.prog X.w) X.A (eval b X.env) (λu e=>wpAny (model X.prog X.w) X.A (f v u) Q X.xe e) X.xe d) X.xe s:=by
 refine thn (ha _ s _ H _ I h) λv o ⟨x,j,k,n,l⟩=>?_
 refine thn (hb _ _ _ _ _ k l) λu i ⟨y,c,p,q,m⟩=>?_
 grind
theorem Tw (ho:OpR X (binaryOp op) r) (ha:PE X a ta) (hb:PE X b tb):PE X (.BinOp a op b pos) (tOp r ta tb):=by
 intro c s g H Q I h
 exact wpAny_BinOp (Ba4 ha hb I h λv u i x y j f e d q=>ho _ _ _ _ x y v u Q f e d q)
theorem Bg1 (ho:UnR X (unaryOp op) r) (ha:PE X a ta):PE X (.UnaryOp op a pos) (tUn r ta):=by
 intro b s f H Q I h
 exact UnaryOp_ (thn (ha _ s _ H _ I h) λv g ⟨x,i,e,d,c⟩=>ho _ _ _ _ x v Q e d c)
theorem opI {g:Int->Int->Int}
 (a:∀(i j:Int) (t u:Tok) (s:Shared) (Q:Value->Shared->Prop) (E:Value->Shared->Prop),C i j->Q (.int (g i j) s.toks) { s with toks:=s.toks+1 }->wpAny (model X.prog X.w) X.A (f (.int i t) (.int j u)) Q E s) :
 OpR X f (rI C λi j=>.int (g i j)):=by
 intro b s σ H x y v u Q I c e h;obtain⟨i,j,rfl,rfl,d,q⟩:=h;obtain⟨t,rfl⟩:=c;obtain⟨t',rfl⟩:=e;exact a i j t _ s _ _ d ⟨.int _,H,I.tok _,⟨_,rfl⟩,q⟩
theorem U0 {g:Int->Int->Int}
 (a:∀(i j:Int) (t u:Tok) (s:Shared) (Q:Value->Shared->Prop) (E:Value->Shared->Prop),Q (.int (g i j) s.toks) { s with toks:=s.toks+1 }->wpAny (model X.prog X.w) X.A (f (.int i t) (.int j u)) Q E s) :
 OpR X f (rI0 λi j=>.int (g i j)):=by
 intro b s σ H x y v u Q I c d h;obtain⟨i,j,rfl,rfl,q⟩:=h;obtain⟨t,rfl⟩:=c;obtain⟨t',rfl⟩:=d;exact a i j t _ s _ _ ⟨.int _,H,I.tok _,⟨_,rfl⟩,q⟩
theorem A4a {g:Int->Int->Bool}
 (a:∀(i j:Int) (t u:Tok) (s:Shared) (Q:Value->Shared->Prop) (E:Value->Shared->Prop),Q (.bool (g i j)) s->wpAny (model X.prog X.w) X.A (f (.int i t) (.int j u)) Q E s) :
 OpR X f (rI0 λi j=>.bl (g i j)):=by
 intro b s σ H x y v u Q I c d h;obtain⟨i,j,rfl,rfl,q⟩:=h;obtain⟨t,rfl⟩:=c;obtain⟨t',rfl⟩:=d;exact a i j t _ s _ _ ⟨.bl _,H,I,rfl,q⟩
def A6w (i j:Int):Prop:=0<j/\j<1073741824
def A4q (i j:Int):Prop:=0<=j/\j<=1000000/\i.natAbs<2 ^ 64
def CMul (i j:Int):Prop:=(-(2 ^ 64)<i/\i<2 ^ 64)\/(-(2 ^ 64)<j/\j<2 ^ 64)
theorem CMul.ok (h:CMul i j):IntMulOk i j:=by
 rcases h with ⟨b,a⟩ | ⟨b,a⟩
 ·exact .of_left (intBits_le_64 b a)
 ·exact .of_right (intBits_le_64 b a)
theorem A9t:OpR X (binaryOp .Add) (rI0 λi j=>.int (i+j)):=U0 λ_ _ _ _ _ _ _ q=>add_int q
theorem Bf2:OpR X (binaryOp .Sub) (rI0 λi j=>.int (i-j)):=U0 λ_ _ _ _ _ _ _ q=>sub_int q
theorem Ba8:OpR X (binaryOp .Mult) (rI CMul λi j=>.int (i*j)):=opI λ_ _ _ _ _ _ _ a q=>mul_int q a.ok
theorem A3v:OpR X (binaryOp .FloorDiv) (rI A6w λi j=>.int (i / j)):=opI λi j _ _ _ _ _ a q=>by
 have c:(0:Int)<j:=a.1;have b:j<1073741824:=a.2
 exact floordiv_int (by omega) (by rw[Int.fdiv_eq_ediv_of_nonneg i (by omega)];exact q) (.inl (PyProof.noPylong_small (by omega)))
theorem Ba9:OpR X (binaryOp .Mod) (rI (λ_ j=>0<j) λi j=>.int (i % j)):=opI λi j _ _ _ _ _ a q=>by
 have b:(0:Int)<j:=a
 exact mod_int' (by omega) (by rw[Int.fmod_eq_emod_of_nonneg i (by omega)];exact q)
theorem Bc2:OpR X (binaryOp .Pow) (rI A4q λi j=>.int (i ^ j.toNat)):=opI λ_ _ _ _ _ _ _ a q=>pow_int_small a.1 a.2.1 a.2.2 q
theorem unI {g:Int->Int}
 (a:∀(i:Int) (t:Tok) (s:Shared) (Q:Value->Shared->Prop) (E:Value->Shared->Prop),Q (.int (g i) s.toks) { s with toks:=s.toks+1 }->wpAny (model X.prog X.w) X.A (f (.int i t)) Q E s) :
 UnR X f (rU λi=>.int (g i)):=by
 intro b s σ H x v Q I c h;obtain⟨i,rfl,q⟩:=h;obtain⟨t,rfl⟩:=c;exact a i t s _ _ ⟨.int _,H,I.tok _,⟨_,rfl⟩,q⟩
theorem Ba0:UnR X (unaryOp .USub) (rU λi=>.int (-i)):=unI λ_ _ _ _ _ q=>neg_int q
end
noncomputable def Bi3:V->V->Bool
 | .non,.non=>true | .non,.int _=>true | .int _,.non=>true | .non,.bl _=>true | .bl _,.non=>true | .non,.str _=>true | .str _,.non=>true
 | .int _,.int _=>true | .bl _,.bl _=>true | .str _,.str _=>true | .byt _,.byt _=>true
 | .int _,.str _=>true | .str _,.int _=>true | .bl _,.str _=>true | .str _,.bl _=>true
 | _,_=>false
def rEq:R2:=λx y H Q=>Bi3 x y=true/\Q (.bl (decide (x=y))) H
def rNe:R2:=λx y H Q=>Bi3 x y=true/\Q (.bl (!decide (x=y))) H
theorem Aj4 : decide (V.int i=V.int j)=(i==j):=by
 grind
theorem A0h : decide (V.bl i=V.bl j)=(i==j):=by
 grind
theorem Ah5 : decide (V.str i=V.str j)=(i==j):=by
 grind
theorem Ak5 : decide (V.byt i=V.byt j)=(i.toList==j.toList):=by
 rw[Bool.eq_iff_iff]
 simp_all
section
variable {X:Cx}{a b c:Expr}{ta tb:TE}{pos:Pos}
theorem Ce {b:St} {k a:Bool}(I:Inv X pins b H s) (q:Q (.bl k) H) (e:k=a):EP X pins b Q (.bool a) s:=by
 subst e;exact⟨.bl k,H,I,rfl,q⟩
theorem Bl5:OpR X (compareOp .Eq) rEq:=by
 intro e s σ H x y v u Q I d a h;obtain⟨c,q⟩:=h
 cases x with
 | non =>
  cases d
  cases y with
  | non=>cases a;exact PySem.EqNone.eq_none_none (Ce I q (by simp))
  | bl j=>cases a;exact PySem.EqNone.eq_none_bool (Ce I q (by simp))
  | int j=>obtain⟨b,rfl⟩:=a;exact PySem.EqNone.eq_none_int (Ce I q (by simp))
  | str j=>obtain⟨b,rfl⟩:=a;exact PySem.EqNone.eq_none_str (Ce I q (by simp))
  | _=>exact absurd (show false=true from c) Bool.false_ne_true
 | bl i =>
  cases d
  cases y with
  | non=>cases a;exact PySem.EqNone.eq_bool_none (Ce I q (by simp))
  | bl j=>cases a;exact eq_bool (Ce I q A0h)
  | str j=>obtain⟨b,rfl⟩:=a;exact PySem.EqMixed.eq_bool_str (Ce I q (by simp))
  | _=>exact absurd (show false=true from c) Bool.false_ne_true
 | int i =>
  obtain⟨t,rfl⟩:=d
  cases y with
  | non=>cases a;exact PySem.EqNone.eq_int_none (Ce I q (by simp))
  | int j=>obtain⟨b,rfl⟩:=a;exact eq_int (Ce I q Aj4)
  | str j=>obtain⟨b,rfl⟩:=a;exact PySem.EqMixed.eq_int_str (Ce I q (by simp))
  | _=>exact absurd (show false=true from c) Bool.false_ne_true
 | str i =>
  obtain⟨t,rfl⟩:=d
  cases y with
  | non=>cases a;exact PySem.EqNone.eq_str_none (Ce I q (by simp))
  | bl j=>cases a;exact PySem.EqMixed.eq_str_bool (Ce I q (by simp))
  | int j=>obtain⟨b,rfl⟩:=a;exact PySem.EqMixed.eq_str_int (Ce I q (by simp))
  | str j=>obtain⟨b,rfl⟩:=a;exact eq_str (Ce I q Ah5)
  | _=>exact absurd (show false=true from c) Bool.false_ne_true
 | byt i =>
  obtain⟨t,rfl⟩:=d
  cases y with
  | byt j=>obtain⟨b,rfl⟩:=a;exact PySem.W.eq_bytes (Ce I q Ak5)
  | _=>exact absurd (c) Bool.false_ne_true
 | _=>cases y <;> exact absurd (show false=true from c) Bool.false_ne_true
theorem Bm5:OpR X (compareOp .NotEq) rNe:=by
 intro e s σ H x y v u Q I d a h;obtain⟨c,q⟩:=h
 cases x with
 | non =>
  cases d
  cases y with
  | non=>cases a;exact PySem.EqNone.ne_none_none (Ce I q (by simp))
  | bl j=>cases a;exact PySem.EqNone.ne_none_bool (Ce I q (by simp))
  | int j=>obtain⟨b,rfl⟩:=a;exact PySem.EqNone.ne_none_int (Ce I q (by simp))
  | str j=>obtain⟨b,rfl⟩:=a;exact PySem.EqNone.ne_none_str (Ce I q (by simp))
  | _=>exact absurd (show false=true from c) Bool.false_ne_true
 | bl i =>
  cases d
  cases y with
  | non=>cases a;exact PySem.EqNone.ne_bool_none (Ce I q (by simp))
  | bl j=>cases a;exact ne_bool (Ce I q (congrArg not A0h))
  | str j=>obtain⟨b,rfl⟩:=a;exact PySem.EqMixed.ne_bool_str (Ce I q (by simp))
  | _=>exact absurd (show false=true from c) Bool.false_ne_true
 | int i =>
  obtain⟨t,rfl⟩:=d
  cases y with
  | non=>cases a;exact PySem.EqNone.ne_int_none (Ce I q (by simp))
  | int j=>obtain⟨b,rfl⟩:=a;exact ne_int (Ce I q (congrArg not Aj4))
  | str j=>obtain⟨b,rfl⟩:=a;exact PySem.EqMixed.ne_int_str (Ce I q (by simp))
  | _=>exact absurd (show false=true from c) Bool.false_ne_true
 | str i =>
  obtain⟨t,rfl⟩:=d
  cases y with
  | non=>cases a;exact PySem.EqNone.ne_str_none (Ce I q (by simp))
  | bl j=>cases a;exact PySem.EqMixed.ne_str_bool (Ce I q (by simp))
  | int j=>obtain⟨b,rfl⟩:=a;exact PySem.EqMixed.ne_str_int (Ce I q (by simp))
  | str j=>obtain⟨b,rfl⟩:=a;exact ne_str (Ce I q (congrArg not Ah5))
  | _=>exact absurd (show false=true from c) Bool.false_ne_true
 | byt i =>
  obtain⟨t,rfl⟩:=d
  cases y with
  | byt j=>obtain⟨b,rfl⟩:=a;exact PySem.W.ne_bytes (Ce I q (congrArg not Ak5))
  | _=>exact absurd (c) Bool.false_ne_true
 | _=>cases y <;> exact absurd (show false=true from c) Bool.false_ne_true
theorem Bi8:OpR X (compareOp .Lt) (rI0 λi j=>.bl (decide (i<j))):=A4a λ_ _ _ _ _ _ _ q=>lt_int q
theorem Bh1:OpR X (compareOp .LtE) (rI0 λi j=>.bl (decide (i<=j))):=A4a λ_ _ _ _ _ _ _ q=>le_int q
theorem Bi7:OpR X (compareOp .Gt) (rI0 λi j=>.bl (decide (j<i))):=A4a λ_ _ _ _ _ _ _ q=>gt_int q
theorem Bh8:OpR X (compareOp .GtE) (rI0 λi j=>.bl (decide (j<=i))):=A4a λ_ _ _ _ _ _ _ q=>ge_int q
theorem Au2:OpR X (compareOp .In) (λx y H Q=>∃i j,x=.str i/\y=.str j/\Q (.bl (!(Builtin.Str.occurrences j i 0 j.length 1).isEmpty)) H):=by
 intro a s σ H x y v u Q I b c h;obtain⟨i,j,rfl,rfl,q⟩:=h;obtain⟨t,rfl⟩:=b;obtain⟨t',rfl⟩:=c;exact in_str (Ce I q rfl)
theorem A2q:OpR X (compareOp .Is) (λx y H Q=>y=.non/\Q (.bl (decide (x=.non))) H):=by
 intro a s σ H x y v u Q I c b h;obtain⟨rfl,q⟩:=h
 cases b
 refine is_none_gen (Ce I q ?_)
 cases x <;> first
  | omega
  | (obtain⟨t,rfl⟩:=c;rfl)
theorem OpR.or {r b:R2}(h:OpR X f r) (h':OpR X f b):OpR X f (λx y H Q=>r x y H Q\/b x y H Q):=by
 intro c s e H x y v u Q I d a q
 rcases q with q | q
 ·exact h _ s _ H x y v u Q I d a q
 ·exact h' _ s _ H x y v u Q I d a q
theorem Ji (b:Expr) (h:op≠.In:=by decide) (h2:op≠.NotIn:=by decide):behindInMarks op b=false:=by
 have c:(op==CmpOp.In)=false:=by grind
 have a:(op==CmpOp.NotIn)=false:=by grind
 cases b <;> simp[behindInMarks,c,a]
theorem Ln (ho:OpR X (compareOp op) r) (ha:PE X a ta) (hb:PE X b tb) (hm:behindInMarks op b=false):PE X (.Compare a [op] [b] pos) (tOp r ta tb):=by
 intro c s g H Q I h
 exact wpAny_Compare1 (Ba4 ha hb I h λv u i x y j f e d q=>ho _ _ _ _ x y v u Q f e d q) hm
def Np (t:TE):TT:=λσ H Q=>t σ H λx H'=>∃k,x=.bl k/\Q k H'
theorem Kg (ho:OpR X (compareOp op) r) (ha:PE X a ta) (hb:PE X b tb) (hm:behindInMarks op b=false):PT X (.Compare a [op] [b] pos) (Np (tOp r ta tb)):=by
 intro d s t H Q I h
 refine wpAny_isTrue_Compare1 (thn (ha _ s _ H _ I h) λv C ⟨x,D,j,l,m⟩=>thn (hb _ _ _ _ _ j m) λu w ⟨y,B,i,g,o⟩ =>
  thn (ho _ _ _ _ x y v u _ i l g o) λc A ⟨z,n,p,q,k,e,f⟩=>?_) hm
 subst e
 cases q
 exact wpAny_truthy_bool ⟨n,p,f⟩
theorem T9:(sizeLine:Nat)<2 ^ 63:=by decide
theorem Ac1:OpR X (binaryOp .Add) (λx y H Q=>∃i j,x=.str i/\y=.str j/\i.length+j.length<=sizeLine/\Q (.str (i++j)) H):=by
 intro a s σ H x y v u Q I c b h;obtain⟨i,j,rfl,rfl,e,q⟩:=h;obtain⟨t,rfl⟩:=c;obtain⟨d,rfl⟩:=b
 exact add_str (λd tk=>⟨.str _,H,I.tok _,⟨_,rfl⟩,q⟩) e
theorem vals1 (r:Vals [x] us):∃u,us=[u]/\RelV x u:=by
 cases r with
 | cons b a=>cases a;grind
theorem vals2 (r:Vals [x,y] us):∃u w',us=[u,w']/\RelV x u/\RelV y w':=by
 cases r with
 | cons c b =>
  cases b with
  | cons d a=>cases a;grind
theorem Ay3:zE X (.builtin "abs") (λxs H Q=>∃i,xs=[.int i]/\Q (.int (if i<0 then -i else i)) H):=by
 intro a s σ H xs us Q I r h;obtain⟨i,rfl,q⟩:=h;obtain⟨u,rfl,t,rfl⟩:=vals1 r
 exact call_abs_int λu tk=>⟨.int _,H,I.tok _,⟨_,rfl⟩,q⟩
theorem At4 (hc:X.calm=true):zE X (.builtin "min") (λxs H Q=>∃i j,xs=[.int i,.int j]/\Q (.int (if j<i then j else i)) H):=by
 intro a s σ H xs us Q I r h;obtain⟨i,j,rfl,q⟩:=h;obtain⟨u,w',rfl,⟨t,rfl⟩,⟨t',rfl⟩⟩:=vals2 r
 refine min_two_ints (I.ok.hd hc) λh' tk k=>⟨_,H,I.kept k,?_,q⟩
 by_cases hj:j<i
 ·rw[if_pos hj,if_pos hj];exact⟨_,rfl⟩
 ·rw[if_neg hj,if_neg hj];exact⟨_,rfl⟩
theorem Ap5:zE X (.type "int") (λxs H Q=>(∃i,xs=[.int i]/\Q (.int i) H)\/∃k,xs=[.bl k]/\Q (.int (if k then 1 else 0)) H):=by
 intro a s σ H xs us Q I r h
 rcases h with ⟨i,rfl,q⟩ | ⟨k,rfl,q⟩
 ·obtain⟨u,rfl,t,rfl⟩:=vals1 r
  exact call_int_int ⟨.int i,H,I,⟨_,rfl⟩,q⟩
 ·obtain⟨u,rfl,b⟩:=vals1 r
  cases b
  exact call_int_bool ⟨.int _,H,I.tok _,⟨_,rfl⟩,q⟩
def Bl8 (K:PySem.W.Frag)(x:V)(H:Hp)(n:Nat):Prop :=
 match x with
 | .str y=>y.length<=sizeLine/\n=y.length
 | .byt y=>y.size<=sizeLine/\n=y.size
 | .ref p=>(∃xs,SqL K H p xs/\n=xs.length)\/∃xs,SqT K H p xs/\n=xs.length
 | _=>False
theorem Z9:zE X (.builtin "len") (λxs H Q=>∃x n,xs=[x]/\Bl8 X.K x H n/\Q (.int n) H):=by
 intro j s σ H xs us Q I r h;obtain⟨x,n,rfl,e,q⟩:=h;obtain⟨u,rfl,d⟩:=vals1 r;have hl:=T9;have hs:sizeLine=16777216:=sizeLine_eq
 cases x with
 | str y =>
  obtain⟨t,rfl⟩:=d;obtain⟨l,b⟩:y.length<=sizeLine/\n=y.length:=e;subst b
  exact len_str (by omega) ⟨.int _,H,I.tok _,⟨_,rfl⟩,q⟩
 | byt y =>
  obtain⟨t,rfl⟩:=d;obtain⟨l,b⟩:y.size<=sizeLine/\n=y.size:=e;subst b
  exact PySem.W.len_bytes (by omega) ⟨.int _,H,I.tok _,⟨_,rfl⟩,q⟩
 | ref p =>
  cases d
  have b := e
  rcases b with ⟨xs,c,b⟩ | ⟨xs,c,b⟩
  ·subst b
   obtain⟨g,f,i,k⟩:=I.list c;have a:=f.length
   exact Calls.call_len_list i.isList (by grind) ⟨.int _,H,I.tok _,⟨_,by simp only[List.size_toArray];rw[a]⟩,q⟩
  ·subst b
   obtain⟨g,f,i,k⟩:=I.tuple c;have a:=f.length
   exact len_tuple i (by grind) ⟨.int _,H,I.tok _,⟨_,by simp only[List.size_toArray];rw[a]⟩,q⟩
 | _=>trivial
end
structure ObjM (h:Heap) (x dx C:Addr) (mA:Str->Option Value):Prop where
 obj:h.get? x=some (PySem.W.instObj C dx)
 ns:h.Ns1 dx mA
 ne:dx≠x
theorem Au5 {h:Heap} (n:h.Ns1 d f):∃od,h.get? d=some od/\∀b,PySem.W.lookIn b od=some (f b):=by
 obtain⟨o,g,p,i,j,k,_,l⟩:=n
 refine⟨o,i,λb=>?_⟩
 have e:=l b;unfold nsFind findBy at e;unfold PySem.W.lookIn;rw[j]
 dsimp only
 split
 ·grind
 ·have a:g.toList.any (·.refKey)=false:=by
   rw[List.any_eq_false];intro y m;obtain⟨z,t,c⟩:=k y (Array.mem_toList_iff.mp m)
   simp[DictEntry.refKey,c]
  grind
theorem ObjM.look (I:ObjM h x b C a):∃od,PySem.W.InstAt h x (PySem.W.instObj C b) C (some od)/\∀name,PySem.W.lookIn name od=some (a name) :=
 let ⟨od,ho,hl⟩:=Au5 I.ns
 ⟨od,⟨I.obj,rfl,rfl,ho⟩,hl⟩
section
variable {prog:Program}{w:World}{A:Around}{E:Value->Shared->Prop}{s:Shared}{K:PySem.W.Frag}{x dx C f:Addr}{mA:Str->Option Value}{name:Str}{v:Value}
theorem V9 (X:K.In s.heap) (I:ObjM s.heap x dx C mA)
 (hs:PySem.W.findIn K (.ref C) "__setattr__" = some (some (.builtin "object.__setattr__"))) (hp:PySem.W.plainOver K C=true) (ht:PySem.W.takerIn K C name=some none) (k:PySem.W.hasDictIn K C=true)
 (hw:PySem.Within mA ns) (hsz:ns.length<=sizeLine)
 (h:∀d,ObjM d x dx C (λy=>if y=name then some v else mA y)->Heap.SameBut dx s.heap d->Q () { s with heap:=d,toks:=s.toks+2 }) :
 wpAny (model prog w) A (setAttr (.ref x) name v) Q E s:=by
 obtain⟨r,J,p⟩:=I.look
 refine PySem.W.set_plain X J hs (PySem.W.osa_open X J hp ht λb=>?_)
 obtain⟨o,l,g⟩:=PySem.W.any_some k;have n := I.obj
 refine wpAny_bind (wpAny_pure (wpAny_bind (wpAny_bind (wpAny_loadPart n (wpAny_bind (PySem.W.Looks.here (PySem.W.looks_clsIn X l) ?_))))))
 rw[g]
 refine wpAny_pure (wpAny_bind (wpAny_pure (wpAny_bind ?_)))
 refine wpAny_nsSet1 I.ns λd c a=>?_
 obtain⟨q,j,m,f,i,e⟩:=c.count (PySem.Within.cons _ v hw)
 refine wpAny_bind (wpAny_lookBehind f (by rw[i];exact pastItsLine_dict (Nat.le_trans e (by simp_all))) ?_)
 exact wpAny_pure (h _ ⟨(a.2 _ (Ne.symm I.ne)).trans I.obj,c,I.ne⟩ a)
end
structure Room (k:Nat) (A:Around):Prop where
 hd:A.handled=none
 dp:A.depth+3*k+5<recursionLimit
 un:A.units+16*k+200<cLine
 gd:A.guards=some []
theorem Room.mono (r:Room k A) (h:j<=k):Room j A:=⟨r.hd,by have:=r.dp;omega,by have:=r.un;omega,r.gd⟩
theorem Room.deeper (r:Room (k+1) A) (env:Env):Room k (A.deeper env) :=
 ⟨r.hd,by have:=r.dp;show A.depth+1+3*k+5<_;omega,by have:=r.un;show A.units+3+16*k+200<_;omega,r.gd⟩
theorem Room.depth (r:Room k A):A.depth<recursionLimit:=by have:=r.dp;omega
theorem Room.units (r:Room k A):A.units+64<cLine:=by have:=r.un;omega
def Dy:TA:=λ_ H Q=>Q [] H
def Cd (ta:TE)(tr:TA):TA:=λσ H Q=>ta σ H λx H1=>tr σ H1 λxs H2=>Q (x::xs) H2
section
variable {X:Cx}{e:Expr}{es:List Expr}{te:TE}{t:TA}{pos:Pos}
theorem Nh:PA X [] Dy:=λ_ _ _ _ H Q I h=>Calls.spliced_nil ⟨[],H,I,.nil,h⟩
theorem Aj9 (ha:PE X e te)(hr:PA X es t)(hs:starEach (e::es) X.env=(false,eval e X.env)::starEach es X.env:=by rfl):PA X (e::es) (Cd te t):=by
 intro d a s m H Q I h;rw[hs]
 refine Calls.spliced_cons (thn (ha _ s _ H _ I h) λu o ⟨x,n,f,g,i⟩=>?_)
 exact thn (hr _ _ _ _ _ _ f i) λp q ⟨c,k,j,l,b⟩=>⟨x::c,k,j,.cons g l,b⟩
def Bf7 (t:TA):TE:=λσ H Q=>t σ H λxs H1=>xs.length<=sizeLine/\∀p,H1 p=none->Q (.ref p) (upd H1 p (.tup xs))
def Zf (t:TA):TE:=λσ H Q=>t σ H λxs H1=>xs.length<=sizeLine/\∀p,H1 p=none->Q (.ref p) (upd H1 p (.lst xs))
theorem M9 (h:QA X es t):QE X (.Tuple es d pos) (Bf7 t):=by
 refine⟨?_⟩
 intro a s i H Q I g
 refine wpAny_Tuple_spliced (thn (h.1 _ _ s _ H _ I g) λf j ⟨k,l,c,r,z,q⟩=>⟨by rw[<- r.length];grind,?_⟩)
 refine⟨.ref _,upd _ _ _,c.laid (λb u e=>Heap.get?_push_of_some _ e) (Nat.le_refl _) ?_,rfl,q _ (c.hok.fresh (Nat.le_refl _))⟩
 exact⟨z,f,r,⟨_,Heap.get?_push_size _ rfl,rfl,⟨_,rfl⟩,rfl⟩⟩
theorem Fe (h:QA X es t):QE X (.List es pos) (Zf t):=by
 refine⟨?_⟩
 intro c s g H Q I d
 refine wpAny_List_spliced (thn (h.1 _ _ s _ H _ I d) λf i ⟨j,k,a,r,z,q⟩=>⟨by rw[<- r.length];grind,?_⟩)
 refine⟨.ref _,upd _ _ _,a.laid (λb u e=>Heap.get?_push_of_some _ e) (Nat.le_refl _) ?_,rfl,q _ (a.hok.fresh (Nat.le_refl _))⟩
 exact⟨z,f,0,r,Heap.get?_push_size _ rfl⟩
end
abbrev Sp:=List V->Hp->VK->XK->Prop
abbrev CXT:=List Env->Hp->Shared->XK->Value->Shared->Prop
structure A4g (P:Program) (w:World) (K:PySem.W.Frag) (mg:Str->Option Value) (base:Heap) (A:Around) (outer:List Env) (s:Shared) (H:Hp):Prop where
 frames:A.frames=some outer
 mod:Mod K mg base
 bs:∀b o,base.get? b=some o->s.heap.get? b=some o/\H b=none
 bsz:base.objs.size<=s.heap.objs.size
 funs:s.heap.FunFrames base outer
 frf:∀b∈frs outer,H b=none
 tab:∀p∈Et K,H p.1=some (.tbl p.2)
 hok:HOk P w H s.heap
 bare:AllBare s.gens
def CE (outer:List Env)(P:Program)(w:World)(H:Hp)(s:Shared)(Q:VK)(u:Value)(s':Shared):Prop :=
 ∃v H',s'.os=s.os/\AllBare s'.gens/\Un (frs outer) [] H H' s.heap s'.heap/\HOk P w H' s'.heap/\RelV v u/\Q v H'
def CR (CX:CXT)(outer:List Env)(P:Program)(w:World)(H:Hp)(s:Shared)(Q:VK)(E:XK)(r:Result)(s':Shared):Prop :=
 match r with
 | .ok (.ret u)=>CE outer P w H s Q u s'
 | .ok _=>False
 | .error e=>CX outer H s E e s'
structure FnOk (P:Program) (w:World) (K:PySem.W.Frag) (mg:Str->Option Value) (base:Heap) (CX:CXT) (k:Nat) (f:Addr) (fd:FuncData) (ps:List Str) (sp:Sp):Prop where
 len:∀vs H Q E,sp vs H Q E->vs.length=ps.length
 run:∀(A:Around) (outer:List Env) (s:Shared) (H:Hp) (args:Args) (us:List Value) (vs:List V) (Q:VK) (E:XK),Room k A->A4g P w K mg base A outer s H->BindsTo s fd args (ps.zip us)->Vals vs us->sp vs H Q E ->
  codeAny (model P w) A (.call (.ref f) args) (CR CX outer P w H s Q E) s
theorem FnOk.imp {K:PySem.W.Frag} (F:FnOk P w K mg base CX k f d ps sp)
 (h:∀b H Q E,a b H Q E->sp b H Q E):FnOk P w K mg base CX k f d ps a :=
 ⟨λb H Q E q=>F.len _ H Q E (h _ _ _ _ q),λA c s H e n b Q E j l i m g=>F.run A _ s H _ _ _ Q E j l i m (h _ _ _ _ g)⟩
section
variable {X:Cx}{pins:List (Addr×Obj)}{σ:St}{H:Hp}{s s':Shared}
theorem Inv.env0 (I:Inv X pins σ H s):A4g X.prog X.w X.K X.mg X.base X.A X.stack s H :=
 ⟨I.ok.frames,I.ok.mod,I.bs,Nat.le_trans I.ok.bsz I.sz,I.stack,I.stkFree,λp a=>I.base.tbls _ _ (I.ok.tab p a),I.hok,I.bare⟩
theorem Inv.after (I:Inv X pins σ H s) (h:CE X.stack X.prog X.w H s Q u s'):EP X pins σ Q u s':=by
 obtain⟨v,j,i,a,f,c,r,q⟩:=h;obtain⟨hh,g,d,t,e⟩:=s';obtain rfl:e=s.os:=i
 exact⟨v,j,I.call f c a λb z=>absurd z (by simp),r,q⟩
end
def Z6 (sp:Sp)(dvs:List V)(E:XK)(t:TA):TE:=λσ H Q=>t σ H λvs H1=>sp (vs++dvs) H1 Q E
def Binds (K:PySem.W.Frag)(fd:FuncData)(ps:List Str)(ds:List Value):Prop :=
 ∀(s:Shared) (us:List Value),K.In s.heap->(us++ds).length=ps.length->BindsTo s fd ⟨us,[]⟩ (ps.zip (us++ds))
theorem Binds.all {K:PySem.W.Frag} (h:∀a:List Value,a.length=ps.length->bindArgs c ⟨a,[]⟩=pure (ps.zip a)):Binds K c ps []:=λs a _ b=>by
 rw[List.append_nil]at b ⊢;exact .of_eq (h _ b)
def Ul (CX:CXT)(X:Cx)(E:XK):Prop:=∀(pins:List (Addr×Obj)) (σ:St) (H:Hp) (s:Shared) (e:Value) (s':Shared),Inv X pins σ H s->CX X.stack H s E e s'->X.xe e s'
section
variable {X:Cx}{CX:CXT}{k:Nat}{f:Addr}{fd:FuncData}{ps:List Str}{sp:Sp}{dvs:List V}{ds:List Value}{E:XK}{x:Str}{p pos:Pos}{e:Expr}{es:List Expr}{t:TA}
theorem Ba2 (F:FnOk X.prog X.w X.K X.mg X.base CX k f fd ps sp) (hr:Room k X.A) (hb:Binds X.K fd ps ds) (hd:Vals dvs ds) (hx:Ul CX X E)
 (I:Inv X pins b H s) (r:Vals vs us) (h:sp (vs++dvs) H Q E):wpAny (model X.prog X.w) X.A (call (.ref f) us) (EP X pins b Q) X.xe s:=by
 have a := r.append hd
 have g:(us++ds).length=ps.length:=by rw[<- a.length];exact F.len _ _ _ _ h
 refine wpAny_call (codeAny_mono (F.run _ _ s H _ _ _ Q E hr I.env0 (hb s _ I.kIn g) a h) λr i c=>?_)
 cases r with
 | error e=>exact hx _ _ H s e _ I c
 | ok d =>
  cases d with
  | ret u=>exact I.after c
  | next=>assumption
  | brk=>assumption
  | cont=>trivial
theorem A4d (F:FnOk X.prog X.w X.K X.mg X.base CX k f fd ps sp)(hr:Room k X.A)(hg:Gl X x)(hm:X.mg x=some (.ref f))(hk:PySem.W.keepIn X.K (.ref f)=true)(hb:Binds X.K fd ps ds)(hd:Vals dvs ds)(hx:Ul CX X E)
 (ha:PA X (e::es) t) (hdb:(x==("__debug__" : Str))=false:=by decide) (he:starEach (e::es) X.env=(false,eval e X.env)::starEach es X.env:=by rfl) (hpl:(backTo pos (starEach es X.env)).any (·.1)=false:=by rfl) :
 PE X (.Call (.Name x p) (e::es) [] pos) (Z6 sp dvs E t):=by
 intro b s c H Q I h
 refine wpAny_Call_Name_kw (Am0 I hg hm ?_ hdb)
 refine PySem.W.callWith_K I.ok.mod.kin hk (thn (ha _ _ s _ H _ I h) λd g ⟨i,j,a,r,q⟩=>⟨a.kIn,?_⟩) he hpl
 exact Ba2 F hr hb hd hx a r q
end
structure Bu (N P:List Str) (sc:Scope):Prop where
 kind:sc.kind=.function:=by rfl
 co:sc.isCoroutine=false:=by rfl
 gen:sc.isGenerator=false:=by rfl
 nd:N.Nodup:=by decide +kernel
 pre:N.take P.length=P:=by rfl
 par:∀x∈P,sc.names.lookup x=some .local\/sc.names.lookup x=some .cell:=by decide +kernel
 nofree:∀y∈sc.names,y.2≠.free:=by decide +kernel
theorem Vt {kindOf:Str->Option NameKind}{x:Str}:∀{binds:List (Str×Value)}{m:Str->Option Value},(∀v,(x,v)∉binds)->bindL kindOf binds m x=m x
 | [],_,_=>rfl
 | (n,v)::r,m,h=>by
  unfold bindL
  rw[Vt λw hw=>h w (List.mem_cons_of_mem _ hw)]
  split
  ·have:x≠n:=by rintro rfl;exact h v List.mem_cons_self
   simp[this]
  ·rfl
theorem U7 {kindOf:Str->Option NameKind}{x:Str}:∀{binds:List (Str×Value)}{m:Str->Option Value},(∀v,(x,v)∉binds)->bindC kindOf binds m x=m x
 | [],_,_=>rfl
 | (n,v)::r,m,h=>by
  unfold bindC
  rw[U7 λw hw=>h w (List.mem_cons_of_mem _ hw)]
  split
  ·rfl
  ·have:x≠n:=by rintro rfl;exact h v List.mem_cons_self
   simp[this]
theorem Vb {kindOf:Str->Option NameKind}{x:Str}{v:Value}:∀{P:List Str}{vs:List Value}{i:Nat}{m:Str->Option Value},P.Nodup->P[i]?=some x->vs[i]?=some v->kindOf x=some .local ->
 bindL kindOf (P.zip vs) m x=some v
 | [],_,_,_,_,h,_,_=>by simp at h
 | _::_,[],_,_,_,_,h,_=>by simp at h
 | p::P,w::vs,0,m,nd,h1,h2,hk=>by
  simp at h1 h2;subst h1;subst h2
  show bindL kindOf ((p,w)::P.zip vs) m p=_
  unfold bindL
  rw[Vt λv hv=>(List.nodup_cons.mp nd).1 (List.of_mem_zip hv).1,if_pos hk]
  simp
 | p::P,w::vs,i+1,m,nd,h1,h2,hk=>by
  show bindL kindOf ((p,w)::P.zip vs) m x=_
  unfold bindL
  exact Vb (i:=i) (List.nodup_cons.mp nd).2 (by simpa using h1) (by simpa using h2) hk
theorem Vu {kindOf:Str->Option NameKind}{x:Str}{v:Value}:∀{P:List Str}{vs:List Value}{i:Nat}{m:Str->Option Value},P.Nodup->P[i]?=some x->vs[i]?=some v->kindOf x≠some .local ->
 bindC kindOf (P.zip vs) m x=some v
 | [],_,_,_,_,h,_,_=>by simp at h
 | _::_,[],_,_,_,_,h,_=>by simp at h
 | p::P,w::vs,0,m,nd,h1,h2,hk=>by
  simp at h1 h2;subst h1;subst h2
  show bindC kindOf ((p,w)::P.zip vs) m p=_
  unfold bindC
  rw[U7 λv hv=>(List.nodup_cons.mp nd).1 (List.of_mem_zip hv).1,if_neg hk]
  simp
 | p::P,w::vs,i+1,m,nd,h1,h2,hk=>by
  show bindC kindOf ((p,w)::P.zip vs) m x=_
  unfold bindC
  exact Vu (i:=i) (List.nodup_cons.mp nd).2 (by simpa using h1) (by simpa using h2) hk
noncomputable def start (N:List Str) (vs:List V):St:=vs.map some++List.replicate (N.length-vs.length) none
noncomputable def At1 (CX:CXT) (P:Program) (w:World) (K:PySem.W.Frag) (mg:Str->Option Value) (base:Heap) (N:List Str) (qual:Str) (scope:Scope) (f:Addr) (cd:Value) (A:Around) (outer:List Env) (s:Shared) (H:Hp) (E:XK):Cx where
 prog:=P
 w:=w
 K:=K
 mg:=mg
 base:=base
 A:=A.deeper (envOfC qual scope s.heap.objs.size f cd)
 N:=N
 s₀:=s
 H₀:=H
 env:=envOfC qual scope s.heap.objs.size f cd
 outer:=outer
 stack:=envOfC qual scope s.heap.objs.size f cd::outer
 ex:=[]
 calm:=true
 fn:=λ_=>true
 pn:=[]
 xe:=λe s'=>wpAny (model P w) (A.deeper (envOfC qual scope s.heap.objs.size f cd)) (leaving (envOfC qual scope s.heap.objs.size f cd) e) (λ_ s''=>CX outer H s E e s'') (λe' s''=>CX outer H s E e' s'') s'
theorem Z0 {a:Scope} (h:a.names.lookup x=some .cell):∃c,(cellsFrom n a.names []).lookup x=some c:=by
 exact Option.isSome_iff_exists.mp (PySem.W.cellsFrom_some _ n [] (.inl h))
theorem Ap1 {K:PySem.W.Frag}
 (S:Bu N ps scope) (hd:A.handled=none) (d:A4g P w K mg base A a s H) (hl:vs.length=ps.length) (r:Vals vs us)
 (x:InCallC s s.heap.objs.size (bindL (envOfC qual scope s.heap.objs.size f t).kindOf (ps.zip us) λ_=>none) (cellsFrom (s.heap.objs.size+1) scope.names []) (bindC (envOfC qual scope s.heap.objs.size f t).kindOf (ps.zip us) λ_=>none) s1) :
 Inv (At1 CX P w K mg base N qual scope f t A a s H E) [] (start N vs) H s1:=by
 have D:ps.length<=N.length:=by have:=congrArg List.length S.pre;rw[List.length_take]at this;omega
 obtain⟨o,tk,rfl,B⟩:=x.done
 have g:∀b:Addr,b∉(At1 CX P w K mg base N qual scope f t A a s H E).ex:=λb z=>absurd (show b∈([]:List Addr) from z) (by simp)
 refine⟨⟨d.mod,S.kind,rfl,rfl,Nat.le_refl _,λy z c o n=>?_,λy j=>?_,λy c _ h=>?_,λ_=>hd,Around.frames_deeper d.frames,.inr ⟨rfl,rfl⟩,λb z=>absurd z (g b),d.bs,d.bsz,λb _ _=>g b,λb z=>absurd z (g b),d.funs,d.frf,d.tab⟩,
  rfl,d.bare,Un.kept B,⟨_,x.toInCall.ns,λi y v o n h3=>?_⟩,λy c h=>⟨_,x.cell y c h⟩,d.hok.fresh (Nat.le_refl _),λy c h=>?_,λp m=>absurd (show p∈([]:List (Addr×Obj)) from m) (by simp),d.hok.kept B,?_⟩
 ·exact name_of_addr x.apart (PySem.mem_of_lookup o) (PySem.mem_of_lookup n)
 ·have j:scope.names.lookup y=some .cell\/scope.names.lookup y=some .free:=j
  rcases j with j | j
  ·exact Z0 j
  ·exact absurd rfl (S.nofree _ (PySem.mem_of_lookup j))
 ·exact Nat.le_of_lt (x.above y c (PySem.mem_of_lookup h))
 ·have hi:i<vs.length:=by
   unfold start at n
   grind
  have F:vs[i]?=some v:=by
   unfold start at n
   grind
  obtain⟨u,C,G⟩:=r.get F
  have m:ps[i]?=some y:=by
   rw[<- S.pre,List.getElem?_take_of_lt (by omega)];exact o
  have l:ps.Nodup:=by rw[<- S.pre];exact S.nd.sublist (List.take_sublist _ _)
  refine⟨u,G,?_⟩
  rcases S.par y (List.mem_of_getElem? m) with k | k
  ·exact .inl ⟨k,Vb l m C k⟩
  ·obtain⟨c,e⟩:=Z0 k
   refine .inr ⟨.inl k,c,e,?_⟩
   have q:=x.cell y c e
   rw[Vu l m C (by show scope.names.lookup y≠_;rw[k];decide)]at q
   exact q
 ·exact d.hok.fresh (Nat.le_of_lt (x.above y c (PySem.mem_of_lookup h)))
 ·unfold start
  show _=N.length
  simp_all
theorem Bk1 {K:PySem.W.Frag}
 (lk:K.lookup f=some ⟨oc,od,.func (PySem.W.fnOf name qual d body scope U O z R M a W),F⟩) (hcd:PySem.W.codeIn K a qual=true) (S:Bu N ps scope)
 (p:∀vs H Q E,sp vs H Q E->vs.length=ps.length)
 (i:∀(A:Around) (c:List Env) (s:Shared) (H:Hp) (vs:List V) (Q:VK) (E:XK),Room k (A.deeper (envOfC qual scope s.heap.objs.size f a))->sp vs H Q E ->
  ∃t,PSs (At1 CX P w K mg base N qual scope f a A c s H E) body t/\t { nx:=λ_ H'=>Q .non H',rt:=Q } (start N vs) H) :
 FnOk P w K mg base CX (k+1) f (PySem.W.fnOf name qual d body scope U O z R M a W) ps sp:=by
 refine⟨p,λA c s H T X vs Q E C l hb r m=>?_⟩
 have hl:=p _ _ _ _ m
 have G := l.mod.kin.keeps λb o e=>(l.bs b o e).1
 have h:∀y∈ps.zip X,scope.names.lookup y.1=some .local\/(scope.names.lookup y.1=some _/\((cellsFrom (s.heap.objs.size+1) _ []).lookup y.1).isSome=true):=λ⟨n,v⟩ Y=>by
  rcases S.par n (List.of_mem_zip Y).1 with q | q
  ·grind
  ·exact .inr ⟨q,PySem.W.cellsFrom_some _ _ _ (.inl q)⟩
 refine codeAny_call_function C.depth (G _ _ lk) rfl S.co S.gen rfl (PySem.W.codeRec_of G hcd) (hb _ _ _ _ ?_)
 refine wpAny_newFunctionEnv_cells S.kind h λZ he s1 x=>?_
 subst he
 refine⟨(l.mod.nolimit.keeps λb o e=>(l.bs b o e).1).keeps x.toInCall.keep,codeAny_func ?_⟩
 obtain⟨t,ht,hq⟩:=i A _ s H _ Q E (C.deeper _) m;have I:Inv (At1 CX P w K _ _ N qual _ f a A _ s H E) _ _ H _:=Ap1 S C.hd l hl r x
 refine wpAny_mono (ht _ _ _ H _ I hq) (λfl L j=>?_) λe L j=>j
 have B:∀{g:St} {H':Hp} {v:V} {u:Value},Inv (At1 CX P w K mg base N qual scope f a A c s H E) [] g _ L->RelV v u->Q v _->CE _ P w H s Q u _ :=
  λ{g H' v u} J D q=>⟨v,H',J.os,J.bare,J.base,J.hok,D,q⟩
 cases fl with
 | ret u =>
  obtain⟨v,g,H',J,D,q⟩:=j;exact B J D q
 | next =>
  obtain⟨g,H',J,q⟩:=j;exact B (v:=V.non) J rfl q
 | brk =>
  obtain⟨_,_,_,q⟩:=j
  trivial
 | cont =>
  obtain⟨_,_,_,q⟩:=j
  trivial
section
variable {X:Cx}{x:Str}{p pos:Pos}{e:Expr}{es:List Expr}{t:TA}{id T:String}{r:List V->Hp->VK->Prop}
def tCB (r:List V->Hp->VK->Prop)(t:TA):TE:=λσ H Q=>t σ H λvs H1=>r vs H1 Q
theorem A1p (hc:zE X (.builtin id) r)(hg:Gl X x)(hm:X.mg x=none)(hv:bootBuiltins x=some (.builtin id))(ha:PA X (e::es) t)(hn:x ≠ "__name__" := by decide) (hdb:(x==("__debug__" : Str))=false:=by decide)
 (he:starEach (e::es) X.env=(false,eval e X.env)::starEach es X.env:=by rfl) (hpl:(backTo pos (starEach es X.env)).any (·.1)=false:=by rfl):PE X (.Call (.Name x p) (e::es) [] pos) (tCB r t):=by
 intro a s f H Q I h
 refine wpAny_Call_Name_kw (Nf I hg hm hv ?_ hn hdb)
 exact PyProof.Rows.callWith_builtin1 (thn (ha _ _ s _ H _ I h) λj k ⟨g,i,d,c,b⟩=>hc _ _ _ _ _ _ Q d c b) he hpl
theorem Aq1 (hc:zE X (.type T) r)(hg:Gl X x)(hm:X.mg x=none)(hv:bootBuiltins x=some (.type T))(ha:PA X (e::es) t)(hn:x ≠ "__name__" := by decide) (hdb:(x==("__debug__" : Str))=false:=by decide)
 (he:starEach (e::es) X.env=(false,eval e X.env)::starEach es X.env:=by rfl) (hpl:(backTo pos (starEach es X.env)).any (·.1)=false:=by rfl):PE X (.Call (.Name x p) (e::es) [] pos) (tCB r t):=by
 intro a s f H Q I h
 refine wpAny_Call_Name_kw (Nf I hg hm hv ?_ hn hdb)
 exact PyProof.Rows.callWith_type1 (thn (ha _ _ s _ H _ I h) λj k ⟨g,i,d,c,b⟩=>hc _ _ _ _ _ _ Q d c b) he hpl
end
end L2
namespace HT
open PySem PyProof.Rows
section
variable {prog:Program}{w:World}{A:Around}{E:Value->Shared->Prop}{s:Shared}
theorem A7a (ht:IsTup s.heap t vs.toArray) (hb:IsTup s.heap b c.toArray) (hv:vs≠[])
 (h1:c=[]->Q (.ref t) s) (h2:c≠[]->Q (.ref s.heap.objs.size) { s with heap:=s.heap.push { cls:=.type "tuple",data:=.seq (vs++c).toArray } })
 (hsz:vs.length+c.length<=sizeLine):wpAny (model prog w) A (binaryOp .Add (.ref t) (.ref b)) Q E s:=by
 obtain⟨⟨g,q,d,p⟩,e,o,n,l⟩:=id ht;obtain⟨⟨j,k,i,m⟩,a,h,r,f⟩:=id hb;subst o l h f
 by_cases hw:c=[]
 ·exact concat_meets ⟨_,e,rfl⟩ ⟨_,a,rfl⟩ noFill_tuple_add seq_tuple_add PySem.F.slot_tuple_add PySem.F.entry_tuple_add (PySem.F.args_tuple_add_2 _ _)
   (tuple_addW1 t b _ _ n _ _ _ _ _ (by simp_all) (by grind)) ⟨e,a,h1 hw⟩
 ·refine concat_meets ⟨_,e,rfl⟩ ⟨_,a,rfl⟩ noFill_tuple_add seq_tuple_add PySem.F.slot_tuple_add PySem.F.entry_tuple_add (PySem.F.args_tuple_add_2 _ _)
   (tuple_addW2 t b _ _ n _ _ _ _ _ (by grind) (by simp_all) (by simp_all)) ⟨e,a,?_⟩
  grind
noncomputable def sIx (n d:Nat):Option Int->Nat
 | none=>d
 | some v=>if v<0 then (v+(n:Int)).toNat else min v.toNat n
theorem Bc4 (n d:Nat)(hd:d<=n)(o:Option Int):sIx n d o<=n:=by
 cases o with
 | none=>exact hd
 | some v =>
  show (if v<0 then (v+n).toNat else min _ n)<=n
  grind
theorem Ai8 (v:Int)(n d:Nat):(if v<0 then max (v+(n:Int)) 0 else min v (n:Int))=((sIx n d (some v):Nat):Int):=by
 show (if v<0 then max _ 0 else min v _)=(((if v<0 then (v+n).toNat else min _ n):Nat):Int)
 grind
theorem Aa8 (lo hi:Option Int)(n:Nat):Builtin.Slice.sliceAdjust lo hi 1 (n:Int)=(((sIx n 0 lo:Nat):Int),((sIx n n hi:Nat):Int)):=by
 refine Prod.ext ?_ ?_
 ·cases lo with
  | none=>rfl
  | some v=>exact Ai8 v n 0
 ·cases hi with
  | none=>rfl
  | some v=>exact Ai8 v n n
theorem Af5 (i j:Nat):Builtin.Slice.slicePlaces (i:Int) (j:Int) 1=j-i:=by
 unfold Builtin.Slice.slicePlaces
 have h1:(1:Int)>0:=by omega
 simp only[h1,if_true,Int.ediv_one]
 split <;> omega
theorem Mz (p:IsPart v o) (h:Q o s):wpAny (model prog w) A (Builtin.Slice.slicePartIndex v) Q E s:=by
 cases p with
 | none=>exact slicePart_none h
 | int i t=>exact slicePart_int h
theorem Jl {lo hi:Option Int}{n:Nat} (hs:s.heap.IsSliceOf e d c .none) (pl:IsPart d lo) (g:IsPart c hi)
 (h:Q (((sIx n 0 lo:Nat):Int),1,sIx n n hi-sIx n 0 lo) s):wpAny (model prog w) A (Builtin.Slice.sliceApplied (.ref e) (pure (n:Int))) Q E s:=by
 obtain⟨i,a,f,b⟩:=id hs
 refine wpAny_bind (wpAny_bind (wpAny_field a b (x:=d) rfl (wpAny_bind (wpAny_field a b (x:=c) rfl (wpAny_bind (wpAny_field a b rfl (wpAny_pure ?_)))))))
 refine wpAny_bind (slicePart_none ?_)
 refine wpAny_bind (Mz pl (wpAny_bind (Mz g (wpAny_bind (wpAny_pure ?_)))))
 show wpAny _ _ (match Builtin.Slice.sliceAdjust _ _ 1 _ with | (lo,hi)=>pure (lo,(1:Int),Builtin.Slice.slicePlaces lo hi 1)) _ _ s
 rw[Aa8 _ _ n]
 show wpAny _ _ (pure _) _ _ s
 rw[Af5];exact wpAny_pure h
theorem A2p (xs:Array Value)(i k:Nat):((List.range k).filterMap λ(m:Nat)=>xs[((i:Int)+(m:Int)*1).toNat]?).toArray=((xs.toList.drop i).take k).toArray:=by
 have e:(λ(m:Nat)=>xs[((i:Int)+m*1).toNat]?)=λm=>xs[i+m]?:=by
  funext m
  have:((i:Int)+m*1).toNat=i+m:=by omega
  rw[this]
 rw[e];have:=pick_run xs i k;rw[List.filterMap_map]at this
 have a:((λx=>xs[x]?) ∘ λx=>i+x)=λm=>xs[i+m]?:=rfl
 rw[a]at this;rw[this]
theorem Ou {lo hi:Option Int} (ht:IsTup s.heap t items) (hs:s.heap.IsSliceOf sl vl vu .none) (pl:IsPart vl lo) (pu:IsPart vu hi)
 (hw:¬ (sIx items.size 0 lo=0/\sIx items.size items.size hi=items.size))
 (h:Q (.ref s.heap.objs.size) { s with heap:=s.heap.push { cls:=.type "tuple",data:=.seq ((items.toList.drop (sIx items.size 0 lo)).take (sIx items.size items.size hi-sIx items.size 0 lo)).toArray } })
 (hsz:items.size<=sizeLine):wpAny (model prog w) A (getItem (.ref t) (.ref sl)) Q E s:=by
 have htake:sizeOk (.seq ((items.toList.drop (sIx items.size 0 lo)).take (sIx items.size items.size hi-sIx items.size 0 lo)).toArray):=by
  show ((items.toList.drop (sIx items.size 0 lo)).take (sIx items.size items.size hi-sIx items.size 0 lo)).toArray.size<=sizeLine
  rw[List.size_toArray,List.length_take,List.length_drop,Array.length_toList];omega
 have hj:sIx items.size items.size hi<=items.size:=Bc4 _ _ (Nat.le_refl _) hi;obtain⟨os,hos,hcs,hds⟩:=id hs;have hTs:s.TypeIs (.ref sl) "slice" := ⟨os,hos,hcs⟩;unfold getItem
 try with_reducible refine wpAny_holding ?_
 first | refine wpAny_bind (wpAny_pure ?_) | skip
 refine wpAny_bind (wpAny_sequenceKey ht.typeIs (by decide) ?_)
 refine wpAny_bind (wpAny_callSpecial?_slot (name:="__getitem__") ht.typeIs PyProof.Rows.slot_tuple_getitem
  (wpAny_call_entry PyProof.Rows.slot_tuple_getitem ht.typeIs entry_tuple_getitem ?_ (args_tuple_getitem _ _)))
 show wpAny _ _ (Builtin.Tuple.tupleItemsOf (.ref t) >>= _) _ _ s
 refine wpAny_bind (tupleItemsOf_ ht ?_)
 refine wpAny_bind (wpAny_typeOf hTs ?_)
 rw[if_pos (by decide)]
 refine wpAny_bind (Jl hs pl pu ?_)
 have hno:¬ ((((sIx items.size 0 lo:Nat):Int)==0&&(1:Int)==1&&(sIx items.size items.size hi-sIx items.size 0 lo)==items.size)=true):=by
  intro q;rw[Bool.and_eq_true,Bool.and_eq_true]at q;have q1:((sIx items.size 0 lo:Nat):Int)=0:=eq_of_beq q.1.1;have q2:sIx items.size items.size hi-sIx items.size 0 lo=items.size:=eq_of_beq q.2
  exact hw ⟨by omega,by omega⟩
 show wpAny _ _ (if (((sIx items.size 0 lo:Nat):Int)==0&&(1:Int)==1&&(sIx items.size items.size hi-sIx items.size 0 lo)==items.size)=true then _ else _) _ _ s
 rw[if_neg hno,A2p]
 first
  | exact wpAny_bind (m:=Builtin.Tuple.tupleExact _) (wpAny_newObj_type (wpAny_pure ⟨_,rfl,wpAny_pure h⟩) htake)
  | exact wpAny_bind (m:=Builtin.Tuple.tupleExact _) (wpAny_newObj_type (wpAny_bind (wpAny_pure (wpAny_pure ⟨_,rfl,wpAny_pure h⟩))) htake)
  | exact wpAny_bind (wpAny_bind (m:=Builtin.Tuple.tupleExact _) (wpAny_newObj_type (wpAny_pure (wpAny_pure ⟨_,rfl,wpAny_pure h⟩)) htake))
  | exact wpAny_bind (wpAny_bind (m:=Builtin.Tuple.tupleExact _) (wpAny_newObj_type (wpAny_pure ⟨_,rfl,wpAny_pure h⟩) htake))
end
end HT
namespace L2
open PySem PySem.Spec PyProof.Rows
abbrev TO:=St->Hp->(Option Int->Hp->Prop)->Prop
def PO (X:Cx)(e:Option Expr)(t:TO):Prop :=
 ∀
  (pins:List (Addr×Obj)) (s:Shared) (σ:St) (H:Hp) (Q:Option Int->Hp->Prop),Inv X pins σ H s->t σ H Q ->
  wpAny (model X.prog X.w) X.A (evalPart e X.env) (λu s'=>∃o H',Inv X pins σ H' s'/\IsPart u o/\Q o H') X.xe s
structure QO (X:Cx) (e:(Option Expr)) (t:TO):Prop where
 get:PO X e t
noncomputable def An4:TO:=λ_ H Q=>Q none H
noncomputable def A7j (t:TE):TO:=λσ H Q=>t σ H λx H1=>∃i,x=.int i/\Q (some i) H1
section
variable {X:Cx}{e:Expr}{te:TE}{lo hi:Option Expr}{tl th:TO}{pos p2:Pos}
theorem Xa:QO X none An4:=by
 refine⟨?_⟩
 intro a s b H Q I h;exact wpAny_pure ⟨none,H,I,.none,h⟩
theorem Rp (h:QE X e te):QO X (some e) (A7j te):=by
 refine⟨?_⟩
 intro a s σ H Q I d
 refine thn (h.1 _ s _ H _ I d) λu s1 ⟨x,f,b,c,g⟩=>?_
 obtain⟨i,rfl,q⟩:=g;obtain⟨t,rfl⟩:=c;exact⟨some i,f,b,.int i t,q⟩
def SlR (X:Cx)(r:V->Option Int->Option Int->Hp->VK->Prop):Prop :=
 ∀
  (pins:List (Addr×Obj)) (s:Shared) (σ:St) (H:Hp) (x:V) (v vl vu:Value) (lo hi:Option Int) (sl:Addr) (Q:VK),Inv X pins σ H s->RelV x v->s.heap.IsSliceOf sl vl vu .none->IsPart vl lo->IsPart vu hi->r x lo hi H Q ->
  ∃T id,typeLookup (.type T) "__getitem__" = pure (some (.builtin id))/\s.TypeIs v T/\wpAny (model X.prog X.w) X.A (getItem v (.ref sl)) (EP X pins σ Q) X.xe s
theorem SlR.or (h:SlR X r) (h':SlR X b):SlR X (λx lo hi H Q=>r x lo hi H Q\/b x lo hi H Q):=by
 intro d s g H x v i j lo hi k Q I e c f a q
 rcases q with q | q
 ·exact h _ s _ H x v _ _ _ _ _ Q I e c f a q
 ·exact h' _ s _ H x v _ _ _ _ _ Q I e c f a q
def tSl (r:V->Option Int->Option Int->Hp->VK->Prop)(te:TE)(tl th:TO):TE:=λσ H Q=>te σ H λx H1=>tl σ H1 λl H2=>th σ H2 λu H3=>r x l u H3 Q
theorem A0p (hr:SlR X r) (he:QE X e te) (hl:QO X lo tl) (hu:QO X hi th):QE X (.Subscript e (.Slice lo hi none p2) pos) (tSl r te tl th):=by
 refine⟨?_⟩
 intro c s E H Q I h
 refine Subscript_ (thn (he.1 _ s _ H _ I h) λv B ⟨x,D,i,j,k⟩=>?_)
 refine wpAny_Slice (thn (hl.1 _ _ _ _ _ i k) λm C ⟨l,K,n,o,f⟩=>thn (hu.1 _ _ _ _ _ n f) λg a ⟨u,J,t,w,p⟩=>?_)
 refine wpAny_pure ?_
 have z:Inv X _ _ _ { a with heap:=a.heap.push { cls:=.type "slice",data:=.fields #[m,g,.none] } }:=t.kept λb F q=>Heap.get?_push_of_some _ q
 obtain⟨T,G,y,A,d⟩:=hr _ _ _ _ x v _ _ l u _ Q z j (Heap.IsSliceOf.new ..) o w p
 exact tail_any A y d (by trivial)
def Ar2 (xs:List V)(lo hi:Option Int):List V:=(xs.drop (HT.sIx xs.length 0 lo)).take (HT.sIx xs.length xs.length hi-HT.sIx xs.length 0 lo)
theorem Q4 (xs:List V)(lo hi:Option Int):(Ar2 xs lo hi).length<=xs.length:=by
 unfold Ar2;rw[List.length_take,List.length_drop];omega
def Bj6 (K:PySem.W.Frag):V->Option Int->Option Int->Hp->VK->Prop:=λx lo hi H Q=>∃a xs,x=.ref a/\SqT K H a xs /\
 ¬ (HT.sIx xs.length 0 lo=0/\HT.sIx xs.length xs.length hi=xs.length)/\∀p,H p=none->Q (.ref p) (upd H p (.tup (Ar2 xs lo hi)))
theorem Ba6:SlR X (Bj6 X.K):=by
 intro e s σ H x v vl vu lo hi sl Q I j k g l h;obtain⟨a,i,rfl,m,hw,q⟩:=h
 cases j
 obtain⟨d,r,f,n⟩:=I.tuple m
 have c:d.toArray.size=i.length:=by exact r.length.symm
 refine⟨"tuple",_,PyProof.Rows.slot_tuple_getitem.lookup,f.typeIs,?_⟩
 refine HT.Ou f k g l (by grind) ?_ (by simp_all)
 rw[c]
 refine⟨.ref _,_,I.laid (λb ob q=>Heap.get?_push_of_some _ q) (Nat.le_refl _) ?_,rfl,q _ (I.hok.fresh (Nat.le_refl _))⟩
 exact⟨Nat.le_trans (Q4 _ _ _) n,_,(r.drop _).take _,zQ.new _ _⟩
def Bg6 (K:PySem.W.Frag):R2:=λx y H Q=>∃a b xs ys,x=.ref a/\y=.ref b/\SqT K H a xs/\SqT K H b ys/\xs≠[]/\xs.length+ys.length<=sizeLine /\
 (ys=[]->Q (.ref a) H)/\(ys≠[]->∀p,H p=none->Q (.ref p) (upd H p (.tup (xs++ys))))
theorem Vals.nil_iff (r:Vals xs us):us=[]↔xs=[]:=by
 cases r with
 | nil=>simp
 | cons _ _=>simp
theorem A6g:OpR X (binaryOp .Add) (Bg6 X.K):=by
 intro e s σ H x y v u Q I o p h;obtain⟨a,b,xs,ys,rfl,rfl,k,l,g,hz,m,j⟩:=h
 cases o
 cases p
 obtain⟨i,d,n,_⟩:=I.tuple k;obtain⟨f,c,r,_⟩:=I.tuple l
 refine HT.A7a n r (λz=>g (d.nil_iff.mp z)) (λz=>⟨.ref a,H,I,rfl,m (c.nil_iff.mp z)⟩) (λz=>?_) (by rw[<- d.length,<- c.length];grind)
 refine⟨.ref _,_,I.laid (λb ob q=>Heap.get?_push_of_some _ q) (Nat.le_refl _) ?_,rfl,j (λw=>z (c.nil_iff.mpr w)) _ (I.hok.fresh (Nat.le_refl _))⟩
 exact⟨by simp_all,_,d.append c,zQ.new _ _⟩
end
noncomputable def ixN (n:Nat) (i:Int):Option Nat:=if 0<=i then (if i<n then some i.toNat else none) else if -(n:Int)<=i then some (i+n).toNat else none
def atI {α:Type}(xs:List α)(i:Int):Option α:=(ixN xs.length i).bind λj=>xs[j]?
theorem Xx (h:ixN n i=some j):seqIndex? i n=some j/\j<n/\-(n:Int)<=i/\i<n:=by
 unfold ixN at h
 by_cases h0:0<=i
 ·rw[if_pos h0]at h
  by_cases h1:i<n
  ·rw[if_pos h1]at h
   have e := Option.some.inj h
   exact⟨by rw[seqIndex_of h0 h1,e],by omega,by omega,h1⟩
  simp_all
 ·rw[if_neg h0]at h
  by_cases h1:-n<=i
  ·rw[if_pos h1]at h
   have e := Option.some.inj h
   exact⟨by rw[seqIndex_neg (by omega) h1,e],by omega,h1,by omega⟩
  simp_all
theorem Xf {xs:List a} {v:a}(h:atI xs i=some v):∃j,seqIndex? i xs.length=some j/\xs[j]?=some v/\j<xs.length/\-(xs.length:Int)<=i/\i<xs.length:=by
 unfold atI at h
 cases e:ixN xs.length i with
 | none=>simp_all
 | some j =>
  obtain⟨c,d,f,b⟩:=Xx e
  grind
theorem Fx {xs:List a}{j:Nat}{v:a}(h:xs[j]?=some v):atI xs (j:Int)=some v:=by
 have b := (List.getElem?_eq_some_iff.mp h).1
 have e:ixN xs.length j=some j:=by
  unfold ixN
  simp_all
 unfold atI;grind
theorem Yq {α:Type}(xs:List α)(v:α):atI (xs++[v]) (-1)=some v:=by
 have hl:(xs++[v]).length=xs.length+1:=by simp
 have e:ixN (xs++[v]).length (-1)=some xs.length:=by
  unfold ixN
  rw[hl,if_neg (by decide),if_pos (by omega)]
  congr 1
  omega
 unfold atI;rw[e]
 show (xs++[v])[xs.length]?=some v
 simp
def J8 (b:Expr):Prop:=∀o i,subscripted b false o i=operate [o,i] (getItem o i)
def IxR (X:Cx)(r:R2):Prop :=
 ∀
  (value slice:Expr) (pins:List (Addr×Obj)) (s:Shared) (σ:St) (H:Hp) (x y:V) (v u:Value) (Q:VK),Inv X pins σ H s->RelV x v->RelV y u->r x y H Q ->
  subscripted slice false v u=operate [v,u] (getItem v u)->wpAny (model X.prog X.w) X.A (subscriptTail value slice v u) (EP X pins σ Q) X.xe s
def MtR (X:Cx)(id:String)(r:V->List V->Hp->VK->Prop):Prop :=
 ∀
  (pins:List (Addr×Obj)) (s:Shared) (σ:St) (H:Hp) (x:V) (xs:List V) (v:Value) (us:List Value) (Q:VK),Inv X pins σ H s->RelV x v->Vals xs us->r x xs H Q ->
  wpAny (model X.prog X.w) X.A (call (.builtin id) (v::us)) (EP X pins σ Q) X.xe s
section
variable {X:Cx}{a b:Expr}{ta tb:TE}{pos:Pos}
theorem IxR.or (h:IxR X r) (h':IxR X d):IxR X (λx y H Q=>r x y H Q\/d x y H Q):=by
 intro b a e s i H x y v u Q I f g q c
 rcases q with q | q
 ·exact h _ _ _ s _ H x y v u Q I f g q c
 ·exact h' _ _ _ s _ H x y v u Q I f g q c
theorem A7u (hr:IxR X r) (ha:QE X a ta) (hb:QE X b tb) (hs:J8 b):QE X (.Subscript a b pos) (tOp r ta tb):=by
 obtain⟨ha⟩:=ha;obtain⟨hb⟩:=hb
 refine⟨?_⟩
 intro c s g H Q I h
 exact Subscript_ (Ba4 ha hb I h λv u i x y j f e d q=>hr a b _ _ _ _ x y v u Q f e d q (hs _ _))
def A9k (K:PySem.W.Frag):R2:=λx y H Q=>∃p xs i v,x=.ref p/\y=.int i/\SqL K H p xs/\atI xs i=some v/\Q v H
def Bf0 (K:PySem.W.Frag):R2:=λx y H Q=>∃p xs i v,x=.ref p/\y=.int i/\SqT K H p xs/\atI xs i=some v/\Q v H
def Bl4:R2:=λx y H Q=>∃z i c,x=.str z/\y=.int i/\z.length<=sizeLine/\atI z.cps.toList i=some c/\Q (.str ⟨#[c]⟩) H
theorem ix_list:IxR X (A9k X.K):=by
 intro g f a s m H x y v u Q I C F h l;obtain⟨p,xs,i,z,rfl,rfl,E,n,q⟩:=h
 cases C
 obtain⟨t,rfl⟩:=F;obtain⟨e,r,c,hz⟩:=I.list E;obtain⟨j,k,D,h3,o,B⟩:=Xf n;obtain⟨w,ew,d⟩:=r.get D;have hl:=r.length;have hn:=T9;have b:EP X a m Q w s:=⟨z,H,I,d,q⟩
 by_cases h0:0<=i
 ·have A:i.toNat=j:=by
   rw[seqIndex_of h0 B]at k
   simp_all
  exact item_listR c.isList h0 (by omega) (by grind) b l
 ·have A:(i+e.toArray.size).toNat=j:=by
   rw[seqIndex_neg (by omega) o]at k
   simp_all
  exact subscriptTail_builtinR c.isList.typeIs slot_list_getitem.lookup
   (wpAny_getItem_list_neg c.isList (by omega) (by simp_all) (by omega) (by grind) ⟨rfl,b⟩) l
theorem ix_tup:IxR X (Bf0 X.K):=by
 intro b c e s σ H x y v u Q I A g h o;obtain⟨p,xs,i,z,rfl,rfl,m,n,q⟩:=h
 cases A
 obtain⟨t,rfl⟩:=g;obtain⟨k,r,f,hz⟩:=I.tuple m;obtain⟨j,h1,l,h3,h4,h5⟩:=Xf n;obtain⟨w,ew,d⟩:=r.get l;have hl:=r.length;have hn:=T9;have a:EP X _ _ Q w s:=⟨z,H,I,d,q⟩
 exact subscriptTail_builtinR f.typeIs slot_tuple_getitem.lookup
  (getItem_tuple (j:=j) f (by omega) (by omega) (by simp_all) (by grind) ⟨rfl,a⟩) o
theorem A8t:IxR X Bl4:=by
 intro a b d s σ H x y v u Q I f m h g;obtain⟨z,i,c,rfl,rfl,hz,l,q⟩:=h;obtain⟨t,rfl⟩:=f;obtain⟨t',rfl⟩:=m;obtain⟨j,e,k,h3,o,n⟩:=Xf l
 have p:z.cps.toList.length=z.length:=by simp[Str.length]
 rw[p]at e o n;have hn:=T9
 exact tail_any (typeIs_str s z t) slot_str_getitem.lookup (getItem_str (by
  grind) (by rw[e];simpa using k) ⟨.str _,H,I.tok _,⟨_,rfl⟩,q⟩) g
def rIx (K:PySem.W.Frag):R2:=λx y H Q=>A9k K x y H Q\/Bf0 K x y H Q\/Bl4 x y H Q
theorem A9j:IxR X (rIx X.K):=ix_list.or (ix_tup.or A8t)
theorem Af4 (a:List Value)(n j:Nat)(u:Value):Obj.mapSeq (·.setIfInBounds j u) { cls:=.type "list",data:=.seq a.toArray n }={ cls:=.type "list",data:=.seq (a.set j u).toArray n }:=by
 simp[Obj.mapSeq]
theorem Inv.lst {b:St} (I:Inv X pins b H s) (h:H p=some (.lst xs)) :
 ∃(a:List Value) (n:Nat),Vals xs a/\s.heap.get? p=some { cls:=.type "list",data:=.seq a.toArray n }/\xs.length<=sizeLine:=by
 obtain⟨z,a,n,r,e⟩:=I.hok p _ h
 grind
theorem Inv.lstUpd {a its':List Value} (I:Inv X pins c H s) (h:H p=some (.lst xs))
 (ho:s.heap.get? p=some { cls:=.type "list",data:=.seq a.toArray n }) (hf:f { cls:=.type "list",data:=.seq a.toArray n }={ cls:=.type "list",data:=.seq its'.toArray n' }) (r:Vals ys its') (hz:ys.length<=sizeLine) (t:Nat) :
 Inv X pins c (upd H p (.lst ys)) { s with heap:=s.heap.update p f,toks:=t }:=by
 have e:(s.heap.update p f).get? p=some { cls:=.type "list",data:=.seq its'.toArray n' }:=by
  rw[Heap.get?_update_self f ho (by rw[hf] <;> rfl),hf]
 refine I.write (by rw[h];trivial) (.inl rfl) (λb u d q=>(Heap.get?_update_other _ _ (Ne.symm d)).trans q) ⟨_,e⟩ ?_
 exact⟨hz,its',n',r,e⟩
def A8b:V->V->V->Hp->(Hp->Prop)->Prop:=λo i v H Q=>∃p xs k j,o=.ref p/\i=.int k/\H p=some (.lst xs)/\ixN xs.length k=some j/\Q (upd H p (.lst (xs.set j v)))
theorem set_list:Bl1 X A8b:=by
 intro a s w H o i v ov iv u Q I y m g h;obtain⟨p,l,k,j,rfl,rfl,d,x,q⟩:=h
 cases y
 obtain⟨t,rfl⟩:=m;obtain⟨b,n,r,c,hz⟩:=I.lst d;obtain⟨e,h2,z,A⟩:=Xx x;have hl:=r.length;have hn:=T9
 have I':Inv X a w (upd H p (.lst (l.set j v))) { s with heap:=s.heap.update p (Obj.mapSeq (·.setIfInBounds j u)) } :=
  I.lstUpd d c (Af4 _ n j u) (r.set g j) (by grind) _
 by_cases h0:0<=k
 ·have f:k.toNat=j:=by
   rw[seqIndex_of h0 A]at e
   grind
  exact PySem.W.ki_setAt c h0 (by omega) (by grind) (by grind)
 ·have f:(k+b.toArray.size).toNat=j:=by
   rw[seqIndex_neg (by omega) z]at e
   simp_all
  exact PySem.W.ki_setBack c (by omega) (by simp_all) (by omega) (by grind)
theorem Xm (lo hi:Option Int)(n:Nat):(sliceBounds lo hi none n).1=((HT.sIx n 0 lo:Nat):Int)/\(sliceBounds lo hi none n).2.1=((HT.sIx n n hi:Nat):Int)/\(sliceBounds lo hi none n).2.2=1:=by
 refine⟨?_,?_,rfl⟩
 ·cases lo with
  | none=>simp[sliceBounds,HT.sIx]
  | some i =>
   simp only[sliceBounds,HT.sIx,Option.getD_none,show (1:Int)>0 by decide,if_true]
   by_cases h:i<0
   ·simp only[h,if_true] <;> omega
   ·simp only[h,if_false] <;> omega
 ·cases hi with
  | none=>simp[sliceBounds,HT.sIx]
  | some i =>
   simp only[sliceBounds,HT.sIx,Option.getD_none,show (1:Int)>0 by decide,if_true]
   by_cases h:i<0
   ·simp only[h,if_true] <;> omega
   ·simp only[h,if_false] <;> omega
theorem Uo (a:List Value)(lo hi:Option Int):slicePick a.toArray lo hi none=((a.drop (HT.sIx a.length 0 lo)).take (HT.sIx a.length a.length hi-HT.sIx a.length 0 lo)).toArray:=by
 obtain⟨c,d,b⟩:=Xm _ _ _;unfold slicePick;rw[c,d,b]
 simp only[sliceRange_one,pick_run] <;> rfl
def Bg3 (K:PySem.W.Frag):V->Option Int->Option Int->Hp->VK->Prop:=λx lo hi H Q=>∃a xs,x=.ref a/\SqL K H a xs/\∀p,H p=none->Q (.ref p) (upd H p (.lst (Ar2 xs lo hi)))
theorem A6r:SlR X (Bg3 X.K):=by
 intro e s σ H x v vl vu lo hi sl Q I i j f k h;obtain⟨a,xs,rfl,g,q⟩:=h
 cases i
 obtain⟨l,r,d,m⟩:=I.list g;have c:=r.length
 refine⟨"list",_,slot_list_getitem.lookup,d.isList.typeIs,?_⟩
 refine wpAny_getItem_list_slice d.isList j f k .none (by simp) ?_ (by simp_all)
 rw[Uo,<- c]
 refine⟨.ref _,_,I.laid (λb ob q=>Heap.get?_push_of_some _ q) (Nat.le_refl _) ?_,rfl,q _ (I.hok.fresh (Nat.le_refl _))⟩
 exact⟨Nat.le_trans (Q4 _ _ _) m,_,0,(r.drop _).take _,Heap.get?_push_size _ rfl⟩
theorem zE.or {r b:List V->Hp->VK->Prop}(h:zE X f r) (h':zE X f b):zE X f (λxs H Q=>r xs H Q\/b xs H Q):=by
 intro c s d H xs e Q I a q
 rcases q with q | q
 ·exact h _ s _ H _ _ Q I a q
 ·exact h' _ s _ H _ _ Q I a q
theorem Wq:zE X (.type "list") (λxs H Q=>∃p k,xs=[.ref p]/\(SqL X.K H p k\/SqT X.K H p k)/\∀l,H l=none->Q (.ref l) (upd H l (.lst k))):=by
 intro z s σ H xs us Q I r h;obtain⟨p,k,rfl,f,q⟩:=h;obtain⟨u,rfl,A⟩:=vals1 r
 cases A
 have g:∀(a:List _),Vals _ _->k.length<=sizeLine->∀(d:Heap) (t:Nat),(∀b o',s.heap.get? b=some _->d.get? b=some _) ->
  d.get? _=some _->EP X _ _ Q _ { s with heap:=d }:=λa c j d t i e =>
  ⟨.ref _,_,I.laid i (Nat.le_refl _) (show zA _ _ _ _ _ (.lst _) from ⟨j,a,t,c,e⟩),rfl,q _ (I.hok.fresh (Nat.le_refl _))⟩
 rcases f with f | f
 ·obtain⟨a,c,y,j⟩:=I.list f
  have m:=c.length;obtain⟨o,w,x,n,v⟩:=y.isList
  exact call_list_seq p (.inl rfl) w x v (λd t i e=>g _ c j _ _ i e) (by simp_all)
 ·obtain⟨a,c,y,j⟩:=I.tuple f
  have m:=c.length;obtain⟨o,w,x,n,v⟩:=y
  exact call_list_seq p (.inr rfl) w x v (λd t i e=>g _ c j _ _ i e) (by simp_all)
theorem Ut:zE X (.type "tuple") (λxs H Q=>∃p c,xs=[.ref p]/\((SqL X.K H p c/\∀l,H l=none->Q (.ref l) (upd H l (.tup c)))\/(SqT X.K H p c/\Q (.ref p) H))):=by
 intro i s σ H xs us Q I r h;obtain⟨p,c,rfl,h⟩:=h;obtain⟨u,rfl,w⟩:=vals1 r
 cases w
 rcases h with ⟨d,q⟩ | ⟨d,q⟩
 ·obtain⟨a,g,f,m⟩:=I.list d
  have k:=g.length
  refine call_tuple_list f.isList (λj v=>?_) (by simp_all)
  have n:Inv X _ _ H { s with heap:=j }:=I.kept v
  have t:Inv X _ _ (upd H _ (.tup _)) { s with heap:=j.push _ } :=
   n.laid (λb o e=>Heap.get?_push_of_some _ e) (Nat.le_refl _) (show zA _ _ _ _ _ _ from ⟨m,a,g,zQ.new _ _⟩)
  exact⟨.ref _,_,t,rfl,q _ (n.hok.fresh (Nat.le_refl _))⟩
 ·obtain⟨a,g,f,m⟩:=I.tuple d
  exact call_tuple_same f ⟨.ref p,H,I,rfl,q⟩
def tyV (K:PySem.W.Frag)(T:String)(x:V)(H:Hp):Prop:=match x with
 | .str _=>T = "str"
 | .int _=>T = "int"
 | .ref p=>(T = "list" /\ ∃xs,SqL K H p xs)\/(T = "tuple" /\ ∃o,K.lookup p=some o/\o.cls=.type "tuple" /\ o.dict=none) \/
  (T = "dict" /\ ((∃kvs,H p=some (.dK kvs))\/∃kvs,H p=some (.dT kvs)))\/(T = "set" /\ ∃S n,H p=some (.set S n))\/(T = "tuple" /\ ∃xs,H p=some (.tup xs))
 | _=>False
theorem A9i (I:Inv X pins l H s) (r:RelV x v) (ty:tyV X.K T x H) :
 s.TypeIs v T/\∀a,v=.ref a->∃ob,s.heap.get? a=some ob/\ob.dict=none:=by
 cases x with
 | str z =>
  obtain⟨t,rfl⟩:=r
  cases (ty)
  exact⟨typeIs_str s z t,λ_ e=>nomatch e⟩
 | int i =>
  obtain⟨t,rfl⟩:=r
  cases (ty)
  exact⟨typeIs_int s i t,λ_ e=>nomatch e⟩
 | ref p =>
  cases r
  rcases ty with ⟨rfl,m,u⟩ | ⟨rfl,o,b,q,k⟩ | ⟨rfl,b⟩ | ⟨rfl,S,n,b⟩ | ⟨rfl,m,b⟩
  ·obtain⟨h,_,j,_⟩:=I.list u
   refine⟨j.isList.typeIs,λa e=>?_⟩
   obtain⟨o,n,e,c,k,_⟩:=j
   grind
  ·refine⟨⟨o,I.kIn p o b,q⟩,λa e=>?_⟩
   cases e
   exact⟨o,I.kIn _ o b,k⟩
  ·have z:∃o,s.heap.get? p=some o/\o.ExactDict:=by
    rcases b with ⟨g,b⟩ | ⟨g,b⟩
    ·obtain⟨_,_,_,_,o,_,_,e,d,_⟩:=I.hok p _ b
     grind
    ·obtain⟨_,_,_,_,o,_,_,e,d,_⟩:=I.hok p _ b
     grind
   obtain⟨o,e,d⟩:=z
   refine⟨⟨o,e,d.1⟩,λa f=>?_⟩
   cases f
   exact⟨o,e,d.2.1⟩
  ·obtain⟨o,_,_,_,e,d,_⟩:=I.hok p _ b
   refine⟨⟨o,e,d.1⟩,λa f=>?_⟩
   cases f
   exact⟨o,e,d.2.1⟩
  ·obtain⟨_,h,_,o,e,c,_,dn⟩:=I.hok p _ b
   refine⟨⟨o,e,c⟩,λa f=>?_⟩
   grind
 | _=>exact False.elim ty
def tBM (K:PySem.W.Frag)(T:String)(r:V->List V->Hp->VK->Prop)(to:TE)(t:TA):TE:=λσ H Q=>to σ H λx H1=>tyV K T x H1/\t σ H1 λxs H2=>r x xs H2 Q
variable {o e:Expr}{es:List Expr}{to:TE}{t:TA}{name:Str}{apos cpos:Pos}{T id:String}{r:V->List V->Hp->VK->Prop}
theorem A8d (pa:PlainAttrs T)(slot:Slot T name id)(hty:typeOf (.builtin id)=pure (.type "method_descriptor")) (hm:MtR X id r) (ho:PE X o to) (ha:PA X (e::es) t)
 (hbase:attributeBase o name X.env (eval o X.env)=eval o X.env:=by rfl)
 (hfew:((backTo cpos (starEach (e::es) X.env)).all (λx=>!x.1)&&(backToKw cpos (keywordEach [] X.env)).all (λx=>x.1.isSome)
  && decide ((e::es).length+([]:List Keyword).length+(if ([]:List Keyword).isEmpty then 0 else 1)<30))=true:=by rfl)
 (hline:(apos.endLine==cpos.line)=true:=by rfl) (hs:starEach (e::es) X.env=(false,eval e X.env)::starEach es X.env:=by rfl) (hplain:(backTo cpos (starEach es X.env)).any (·.1)=false:=by rfl) :
 PE X (.Call (.Attribute o name apos) (e::es) [] cpos) (tBM X.K T r to t):=by
 intro b s p H Q I h
 refine wpAny_Call_method_late hbase hfew hline rfl (thn (ho _ s _ H _ I h) λv z ⟨x,y,c,a,j,k⟩=>?_)
 obtain⟨g,m⟩:=A9i c a j
 refine⟨T,id,pa,slot,hty,g,m,?_⟩
 have d:=ha cpos _ _ _ _ _ c k;rw[hs]at d ⊢
 refine Calls.callWith_builtin (by grind) (Calls.evalArgs_plain ?_)
 exact thn d λi q ⟨u,w,l,n,f⟩=>hm _ _ _ _ x _ v i Q l a n f
end
def MtM (X:Cx)(id:String)(r:V->List V->Hp->VK->Prop):Prop :=
 ∀
  (pins:List (Addr×Obj)) (s:Shared) (σ:St) (H:Hp) (x:V) (xs:List V) (v:Value) (us:List Value) (Q:VK),Inv X pins σ H s->RelV x v->Vals xs us->r x xs H Q ->
  wpAny (model X.prog X.w) X.A (call (.builtin id) (v::us)) (EP X pins σ Q) X.xe s
theorem Vals.one:∀{x:V}{us:List Value},Vals [x] us->∃u,us=[u]/\RelV x u
 | _,_,h=>by
  cases h with
  | cons r t=>cases t;exact⟨_,rfl,r⟩
theorem Vals.two:∀{x y:V}{us:List Value},Vals [x,y] us->∃u v,us=[u,v]/\RelV x u/\RelV y v
 | _,_,_,h=>by
  cases h with
  | cons r t =>
   cases t with
   | cons q t=>cases t;exact⟨_,_,rfl,r,q⟩
theorem Vals.eraseIdx:∀{xs:List V}{us:List Value}(i:Nat),Vals xs us->Vals (xs.eraseIdx i) (us.eraseIdx i)
 | _,_,_,.nil=>.nil
 | _,_,0,.cons _ t=>t
 | _,_,i+1,.cons r t=>.cons r (Vals.eraseIdx i t)
theorem Vals.reverse {xs:List V}{us:List Value}(h:Vals xs us):Vals xs.reverse us.reverse:=by
 induction h with
 | nil=>exact .nil
 | cons r t a=>rw[List.reverse_cons,List.reverse_cons];exact Vals.append a (.cons r .nil)
theorem Vals.rep {xs:List V}{us:List Value}(h:Vals xs us):∀k:Nat,Vals (List.replicate k xs).flatten (List.replicate k us).flatten
 | 0=>.nil
 | k+1=>by
  rw[List.replicate_succ,List.replicate_succ,List.flatten_cons,List.flatten_cons];exact Vals.append h (Vals.rep h k)
theorem As5 {α:Type}:∀(l:List α) (i:Nat),(l.eraseIdx i).length<=l.length
 | [],_=>Nat.le_refl _
 | _::_,0=>Nat.le_succ _
 | _::r,i+1=>Nat.succ_le_succ (As5 r i)
theorem foldl_rep (its:List Value):∀(k:Nat) (acc:List Value),
 List.foldl (λx1 x2=>x1++x2) acc.toArray (List.replicate k its.toArray)=(acc++(List.replicate k its).flatten).toArray
 | 0,acc=>by simp
 | k+1,acc=>by
  have e:acc.toArray++its.toArray=(acc++its).toArray:=by simp
  have e2:(acc++its)++(List.replicate k its).flatten=acc++(List.replicate (k+1) its).flatten:=by
   rw[List.replicate_succ,List.flatten_cons,List.append_assoc]
  rw[<- e2,<- foldl_rep its k (acc++its),<- e,List.replicate_succ,List.foldl_cons]
section
variable {X:Cx}{pins:List (Addr×Obj)}{σ:St}{H:Hp}{s:Shared}{l b:Addr}{xs ys:List V}
theorem Inv.lset {a its':List Value} (I:Inv X pins σ H s) (c:H l=some (.lst xs))
 (e:s.heap.get? l=some { cls:=.type "list",data:=.seq a.toArray n }) (hf:f a.toArray=its'.toArray) (hv:Vals ys its') (hz:ys.length<=sizeLine) :
 Inv X pins σ (upd H l (.lst ys)) { s with heap:=s.heap.update l (Obj.mapSeq f),toks:=t' }:=by
 have q:=PySem.IsL.update e f;rw[hf]at q
 refine I.write (by rw[c];trivial) (.inl rfl) (λg u d b=>(Heap.get?_update_other _ _ (Ne.symm d)).trans b) ⟨_,q⟩ ?_
 exact⟨hz,its',_,hv,q⟩
theorem Inv.lnew (I:Inv X pins σ H s) (hv:Vals ys a) (hz:ys.length<=sizeLine) :
 Inv X pins σ (upd H s.heap.objs.size (.lst ys)) { s with heap:=s.heap.push { cls:=.type "list",data:=.seq a.toArray },toks:=t' } :=
 I.laid (λ_ _ q=>Heap.get?_push_of_some _ q) (Nat.le_refl _) ⟨hz,a,0,hv,Heap.get?_push_size _ rfl⟩
theorem Inv.fresh (I:Inv X pins σ H s):H s.heap.objs.size=none:=I.hok.fresh (Nat.le_refl _)
theorem Inv.lstM (I:Inv X pins σ H s)(b:H l=some (.lst xs)):xs.length<=sizeLine/\∃(a:List Value) (n:Nat),Vals xs a/\xs.length=a.length/\s.heap.get? l=some { cls:=.type "list",data:=.seq a.toArray n }:=by
 obtain⟨z,a,n,r,e⟩:=I.hok l _ b;exact⟨z,a,n,r,r.length,e⟩
theorem A0a (h:n<=sizeLine):Builtin.List.listTooLong n=false:=by
 unfold Builtin.List.listTooLong
 grind
end
section
variable {X:Cx}
def rAppend:V->List V->Hp->VK->Prop:=λx vs H Q=>∃l xs y,x=.ref l/\vs=[y]/\H l=some (.lst xs)/\xs.length<sizeLine/\Q .non (upd H l (.lst (xs++[y])))
theorem Au9:MtM X "list.append" rAppend:=by
 intro a s σ H x vs v us Q I c f h;obtain⟨l,xs,y,rfl,rfl,b,hz,q⟩:=h
 cases c
 obtain⟨u,rfl,d⟩:=f.one;obtain⟨z,g,n,r,hl,e⟩:=I.lstM b
 refine call_meets F.slot_list_append ⟨_,e,rfl⟩ F.entry_list_append (F.args_list_append_2 _ _) (PySem.list_append l _ n u (by simp_all)) ⟨e,?_⟩
 refine⟨.non,_,I.lset b e (by simp) (r.append (.cons d .nil)) ?_,rfl,q⟩
 grind
def rPopAt:V->List V->Hp->VK->Prop:=λx vs H Q=>∃l xs i k y,x=.ref l/\vs=[.int i]/\H l=some (.lst xs)/\-(2 ^ 63)<=i/\i<2 ^ 63/\seqIndex? i xs.length=some k/\xs[k]?=some y/\Q y (upd H l (.lst (xs.eraseIdx k)))
theorem Zi:MtM X "list.pop" rPopAt:=by
 intro b s σ H x vs v us Q I f g h;obtain⟨l,xs,i,k,y,rfl,rfl,c,d,j,hk,o,q⟩:=h
 cases f
 obtain⟨u,rfl,m⟩:=g.one;obtain⟨t,rfl⟩:=m;obtain⟨z,p,n,r,hl,e⟩:=I.lstM c;obtain⟨w,hw,a⟩:=r.get o
 refine call_meets F.slot_list_pop ⟨_,e,rfl⟩ F.entry_list_pop (F.args_list_pop_2 _ _)
  (MeetsSeq.list_pop_at l _ n i t k w (fitsIndex_both d j) (by simp_all) (by simp_all) (by simp_all)) ⟨e,?_⟩
 refine⟨y,_,I.lset c e ?_ (r.eraseIdx k) ?_,a,q⟩
 ·simp_all
 grind
def Bm6:R2:=λx y H Q=>∃l b xs zs,x=.ref l/\y=.ref b/\H l=some (.lst xs)/\H b=some (.lst zs)/\xs.length+zs.length<=sizeLine/\∀p,H p=none->Q (.ref p) (upd H p (.lst (xs++zs)))
theorem A9u:OpR X (binaryOp .Add) Bm6:=by
 intro d s σ H x y v u Q I k g h;obtain⟨l,b,xs,zs,rfl,rfl,i,j,hz,q⟩:=h
 cases k
 cases g
 obtain⟨z,c,n,r,hl,e⟩:=I.lstM i;obtain⟨z2,a,n2,o,m,p⟩:=I.lstM j
 refine PySem.P.add_list e p ?_ (by grind)
 have f:c.toArray++a.toArray=(c++a).toArray:=by simp
 rw[f]
 exact⟨.ref _,_,I.lnew (r.append o) (by simp_all),rfl,q _ I.fresh⟩
def Bb7:R2:=λx y H Q=>∃l k xs,x=.ref l/\y=.int k/\H l=some (.lst xs)/\-(2 ^ 63)<=k/\k<2 ^ 63/\xs.length*k.toNat<=sizeLine /\
 ∀p,H p=none->Q (.ref p) (upd H p (.lst (List.replicate k.toNat xs).flatten))
theorem len_rep {a:Type}(xs:List a)(k:Nat):(List.replicate k xs).flatten.length=k*xs.length:=by
 simp_all
theorem Bb9:OpR X (binaryOp .Mult) Bb7:=by
 intro p s σ H x y v u Q I A B h;obtain⟨l,k,xs,rfl,rfl,C,w,D,hz,q⟩:=h
 cases A
 obtain⟨t,rfl⟩:=B;obtain⟨z,b,n,r,hl,e⟩:=I.lstM C
 have i:b.toArray.size*k.toNat<=sizeLine:=by simp_all
 have f:¬ b.toArray.size*k.toNat>(2 ^ 63-1) / 8:=by
  have:(sizeLine:Nat)<=(2 ^ 63-1) / 8:=by decide
  omega
 have d:¬ (!Builtin.List.listFitsIndex k)=true:=by
  rw[fitsIndex_both w D]
  grind
 have c:¬ Builtin.List.listTooLong (b.toArray.size*k.toNat)=true:=by
  rw[A0a i]
  trivial
 have g:List.foldl (λj o=>j++o) #[] (List.replicate (if b.toArray.isEmpty=true then 0 else k.toNat) b.toArray)=(List.replicate k.toNat b).flatten.toArray:=by
  have E:∀m:Nat,List.foldl (λj o=>j++o) #[] (List.replicate m b.toArray)=(List.replicate m b).flatten.toArray:=λm=>by
   have:=foldl_rep b m []
   simp_all
  rw[E]
  cases b with
  | nil=>simp
  | cons a r'=>rfl
 refine wpAny_binaryOp_repeat_ref (by rfl) ⟨_,e,rfl⟩ (λs'=>typeIs_int _ k t) noFill_list_mul F.fills_int_mul F.slot_int_rmul repeat_list F.slot_int_index.lookup
  (call_meets F.slot_int_rmul (typeIs_int s k t) F.entry_int_rmul (F.args_int_rmul_2 _ _) (int___rmul___int_list k t l _ n)
   ⟨e,rfl,⟨_,e,rfl⟩,call_meets F.slot_list_mul ⟨_,e,rfl⟩ F.entry_list_mul (F.args_list_mul_2 _ _) (AutoListH.list___mul___list_int_3 l _ n k t d f c) ⟨e,?_⟩⟩)
 rw[g]
 exact⟨.ref _,_,I.lnew (r.rep _) (by rw[len_rep];grind),rfl,q _ I.fresh⟩
end
section
variable {κ:Type}[DecidableEq κ]
noncomputable def Oc (kvs:List (κ×V)) (k:κ):Option V:=(kvs.find? λkv=>decide (kv.1=k)).map (·.2)
noncomputable def putK (kvs:List (κ×V)) (k:κ) (v:V):List (κ×V) :=
 if (kvs.any λkv=>decide (kv.1=k))=true then kvs.map (λkv=>if kv.1=k then (kv.1,v) else kv) else kvs++[(k,v)]
theorem Ys {p:κ×V} (e:p.1=k):Oc (p::r) k=some p.2:=by simp[Oc,e]
theorem S7 {p:κ×V} (e:¬ p.1=k):Oc (p::r) k=Oc r k:=by simp[Oc,e]
theorem KV.any (r:KV a vs) (k:κ):(a.any λb=>decide (b.1=k))=vs.any λb=>decide (b.1=k):=by
 induction r with
 | nil=>rfl
 | cons h t c=>simp_all
theorem KV.repl (r:KV b vs) (k:κ) (d:RelV y u) :
 KV (b.map λa=>if a.1=k then (a.1,y) else a) (vs.map λa=>if a.1=k then (a.1,u) else a):=by
 induction r with
 | nil=>exact .nil
 | @cons p q e f h t c =>
  refine .cons ?_ c
  grind
theorem KV.put (r:KV a vs) (k:κ) (b:RelV y u):KV (putK a k y) (stored vs k u):=by
 unfold putK stored;rw[r.any k]
 by_cases e:(vs.any λc=>decide (c.1=k))=true
 ·rw[if_pos e,if_pos e];exact r.repl k b
 ·rw[if_neg e,if_neg e];exact Paired.snoc r ⟨rfl,b⟩
end
theorem Bk4 {A:Around}(hu:A.units+9<cLine):A.in1.units+8<cLine:=Nat.lt_of_le_of_lt (Nat.le_of_eq (rfl)) hu
abbrev KT (H:Hp):List (PyData×V)->List (PyData×Addr×Value)->Prop:=Paired λp q=>p.1=q.1/\KAt H p.1 q.2.1/\RelV p.2 q.2.2
theorem KT.val (r:KT H a xs) (k:PyData):A8h (Oc a k) ((atKey xs k).map (·.2)):=by
 induction r with
 | nil=>trivial
 | @cons p q j c h t i =>
  obtain⟨d,_,g⟩:=h
  by_cases e:p.1=k
  ·have b:atKey (q::c) k=some q.2:=by simp[atKey,(d.symm.trans e)]
   rw[Ys e,b];exact g
  ·have f:¬ q.1=k:=λz=>e (d.trans z)
   have b:atKey (q::c) k=atKey c k:=by simp[atKey,f]
   rw[S7 e];grind
theorem KT.keeps (r:KT H a xs) (ht:∀b ys,H b=some (.tup ys)->H' b=some (.tup ys)):KT H' a xs :=
 Paired.mapP r λ_ _ z=>⟨z.1,z.2.1.stay ht,z.2.2⟩
section
variable {P:Program}{w:World}{H:Hp}{h:Heap}{a:Addr}
theorem Gp (b:HOk P w H h) (e:Rd H a u):zA P w H h a u:=e.ok b
theorem Bi6 (c:HOk P w H h) (e:Rd H a (.dK b)):b.length<=sizeLine/\(a==sysModules)=false/\∃vs,KV b vs/\h.DictOf (Er P w) a vs :=
 show zA P w H h a _ from Gp c e
mutual
theorem Vv (ok:HOk P w H h):∀{d:PyData}{v:V}{u:Value},KTr H d v->RelV v u->∃as,Reads h u d as
 | .none,_,u=>λe r=>by
  cases (show _=V.non from e)
  cases (show u=Value.none from r)
  exact⟨_,.none⟩
 | .int i,_,u=>λe r=>by
  cases (show _=V.int i from e)
  obtain⟨t,rfl⟩:=r;exact⟨_,.int i t⟩
 | .str x,_,u=>λe r=>by
  cases (show _=V.str x from e)
  obtain⟨t,rfl⟩:=r;exact⟨_,.str x t⟩
 | .tuple ds,_,u=>λe r=>by
  obtain⟨a,vs,rfl,ha,t⟩:=e
  cases (show u=Value.ref a from r)
  obtain⟨z,its,rv,o,e,c,⟨n,dt⟩,_⟩:=ok a _ ha;obtain⟨as,q⟩:=R8 ok t rv
  exact⟨_,.tuple e c dt (by simpa using q)⟩
 | .bool _,_,_=>λe _=>False.elim e
 | .list _,_,_=>λe _=>False.elim e
 | .dict _,_,_=>λe _=>False.elim e
theorem R8 (ok:HOk P w H h):∀{ds:List PyData}{vs:List V}{us:List Value},KTrL H ds vs->Vals vs us->∃as,ReadsAll h us ds as
 | [],_,us=>λe r=>by
  cases (show _=[] from e)
  cases r
  exact⟨_,.nil⟩
 | d::ds,_,us=>λe r=>by
  obtain⟨v,vs,rfl,hv,t⟩:=e
  cases r with
  | cons r1 r2 =>
   obtain⟨as,q⟩:=Vv ok hv r1;obtain⟨bs,p⟩:=R8 ok t r2;exact⟨_,.cons q p⟩
end
theorem A0d (b:HOk P w H h) (e:KAt H k a):(El P w).is h k a:=⟨e.1,Vv b e.2 (show RelV _ _ from rfl)⟩
theorem A7d (f:HOk P w H h) (e:Rd H a (.dT b)):b.length<=sizeLine/\(a==sysModules)=false /\
 ∃c,KT H b c/\h.DictOfH (El P w) a c:=by
 obtain⟨z,y,c,r,o,v,i,j,k,g,s,u⟩:=(show zA P w H h a _ from Gp f e)
 refine⟨z,y,c,r,o,v,i,j,k,g,s,λx d=>?_,u⟩
 have n:∀{l:List _} {m:List _},KT H l m->∀x∈m,(El P w).is h x.1 x.2.1:=by
  intro l m q
  induction q with
  | nil=>simp_all
  | @cons p q B C D t A =>
   intro x d
   rcases List.mem_cons.mp d with e | d
   ·exact A0d f (by grind)
   grind
 grind
theorem Bm1 (c:HOk P w H h) (e:H a=some (.dT b)):b.length<=sizeLine/\(a==sysModules)=false /\
 ∃xs,KT H b xs/\h.DictOfH (El P w) a xs:=A7d c (.inl e)
end
section
variable {X:Cx}{pins:List (Addr×Obj)}{σ:St}{H:Hp}{s:Shared}{a:Addr}
theorem Inv.big (I:Inv X pins σ H s):sysModules<s.heap.objs.size:=by
 exact Nat.lt_trans (by decide) ((I.mod.glob.keeps I.bk).lt)
theorem Am7 (I:Inv X pins σ H s) (e:Mut (H a)) (hs:Heap.SameBut a s.heap h') (he:∃q,h'.get? a=some q) (c:zA X.prog X.w (upd H a ob) h' a ob) :
 Inv X pins σ (upd H a ob) { s with heap:=h',toks:=t' } :=
 I.write e (.inl rfl) (λb q d z=>(hs.2 b d).trans z) he c
end
theorem A2g (h:Heap) (hb:sysModules<h.objs.size):zA P w H (h.push { cls:=.type "dict",data:=.dict #[] }) h.objs.size (.dT []) :=
 ⟨Nat.zero_le _,beq_eq_false_iff_ne.mpr (Ne.symm (Nat.ne_of_lt hb)),[],.nil,_,#[],0,Heap.get?_push_size _ rfl,⟨rfl,rfl,rfl⟩,rfl,rfl,List.nodup_nil⟩
def Ag8:TE:=λ_ H Q=>∀p,H p=none->Q (.ref p) (upd H p (.dT []))
section
variable {X:Cx}{pos:Pos}
theorem Aw4:PE X (.Dict [] [] pos) Ag8:=λa s b H Q I h =>
 wpAny_Dict_empty ⟨.ref _,_,I.laid (λ_ _ q=>Heap.get?_push_of_some _ q) (Nat.le_refl _) (A2g _ I.big),rfl,h _ (I.hok.fresh (Nat.le_refl _))⟩
end
structure M2 (X:Cx) (o:Expr) (m:Str) (apos:Pos) (e f:Expr) (cpos:Pos):Prop where
 base:attributeBase o m X.env (eval o X.env)=eval o X.env
 few:((backTo cpos (starEach [e,f] X.env)).all (λx=>!x.1)&&(backToKw cpos (keywordEach [] X.env)).all (λx=>x.1.isSome)
  && decide (([e,f]:List Expr).length+([]:List Keyword).length+(if ([]:List Keyword).isEmpty then 0 else 1)<30))=true
 line:(apos.endLine==cpos.line)=true
 trees:backTo cpos (starEach [e,f] X.env)=[(false,eval e X.env),(false,eval f X.env)]
def IsD (H:Hp)(a:Addr):Prop:=(∃kvs,Rd H a (.dK kvs))\/∃kvs,Rd H a (.dT kvs)
theorem A1z (I:Inv X pins k H s) (d:IsD H a) :
 s.TypeIs (.ref a) "dict" /\ (∀b,Value.ref a=.ref b->∃c,s.heap.get? b=some c/\c.dict=none)/\(a==sysModules)=false:=by
 rcases d with ⟨g,e⟩ | ⟨g,e⟩
 ·obtain⟨_,h,m,_,f⟩:=Bi6 I.hok e
  refine⟨f.typeIs,λb q=>?_,h⟩
  cases q
  obtain⟨c,_,_,i,j,_⟩:=f;exact⟨c,i,j.2.1⟩
 ·obtain⟨_,h,l,_,f⟩:=A7d I.hok e
  refine⟨f.typeIs,λb q=>?_,h⟩
  cases q
  obtain⟨c,_,_,i,j,_⟩:=f;exact⟨c,i,j.2.1⟩
end L2
namespace Att
open PySem PySem.W PySem.Calls PyProof.Rows
theorem Ra : ∀(ns:List Int) (vs:List Value),WellAll P h vs (ns.map WData.int)->IntsAre vs ns:=by
 intro ns
 induction ns with
 | nil =>
  intro vs w
  cases w
  exact .nil
 | cons n ns c =>
  intro vs w
  cases w with
  | cons a b =>
   cases a
   exact .cons _ _ (c _ b)
theorem Aq2 {l:OpenLaw} (hn:l.most=some n)
 (hpre:l.row.toRowW.claim.pre args=true) (hwl:WellAll P h vals args) :
 ∃a vs ns,vals=[Value.ref a]/\args=[WData.list (ns.map WData.int)]/\h.get? a=some { cls:=.type "list",data:=.seq vs.toArray }/\IntsAre vs ns/\ns.length<=n:=by
 have hsh:WShape.hasAll [] args [.list .int]=true:=(pre_splitW hpre).1;have hc:l.pre.holds [] { args:=args }=true:=(pre_splitW hpre).2;obtain⟨d,r,rfl,h1,h2⟩:=hasAllW_cons hsh;obtain rfl:=hasAllW_nil h2;obtain⟨xs,rfl,h3⟩:=hasW_list h1;obtain⟨ns,rfl⟩:=items_int h3
 have hlen:ns.length<=n:=by
  unfold OpenLaw.pre at hc
  have h4:(WTm.not (.lt (.lit (.int (n:Int))) (.len (.arg 0)))).holds [] { args:=[.list (ns.map .int)] }=true:=by
   have h4:=(holds_andW hc).1;rw[hn]at h4;exact h4
  have h5:=condW_of h4 (w_not (w_lt w_lit (w_len_list (w_arg rfl))));rw[List.length_map]at h5
  refine Nat.le_of_not_lt λq=>?_
  have q':(n:Int)<((ns.length:Nat):Int):=by omega
  first
   | (rw[decide_eq_true q']at h5;exact absurd h5 (by decide))
   | (simp at h5;omega)
 cases hwl with
 | cons w1 w2 =>
  cases w2
  cases w1 with
  | list ho hall=>exact⟨_,_,ns,rfl,rfl,ho,Ra ns _ hall,hlen⟩
theorem At2 (l:OpenLaw)(args:List WData):l.row.toRowW.claim.post args (.bool true) args=true :=
 postW_of
  (show WShape.has _ _ _=true by rfl)
  (show (WTm.eq _ _).value _ _=some _ from w_eq_bool (w_res rfl) w_lit) rfl
theorem Yy {l:OpenLaw}
 (hn:l.most=some n) (t:d.params.defaults=[])
 (i:∀(w:World) (c b:Shared) (mg B:Str->Option Value) (fa:Addr) (o:Obj) (z v h:Value) (a:Addr) (vs:List Value) (ns:List Int),
  Ground q loose [] XP w c mg B b.heap->YP w b.heap ->
  b.heap.get? fa=some o->o.data=.func (docDef d.name d.params d.body d.scope z v h)->b.heap.CodeRec v d.name->mg d.name=some (.ref fa) ->
  b.heap.get? a=some { cls:=.type "list",data:=.seq vs.toArray }->IntsAre vs ns->ns.length<=n->b.gens=#[] ->
  codeAny (model l.prog w) callerA (.call (.ref fa) ⟨[.ref a],[]⟩) (λr s'=>r=.ok (.ret (.bool true))/\OldK b.heap s'.heap/\s'.os=b.os/\AllBare s'.gens) b) :
 WalkO q loose XP YP l.row.toRowW d [] (λf vs=>PySem.call f vs):=by
 intro w c b mg B G Y fa o z v h M H J K u C m D x A as g y F p I;obtain rfl:M=.none:=Dflts.none C t;obtain rfl:H=.none:=Dflts.noKw C;obtain⟨a,vs,ns,rfl,rfl,j,e,k⟩:=Aq2 hn g p
 refine enter_call (codeAny_mono (i w _ _ _ _ _ o _ _ _ a _ _ G Y J (fd_plain K) u m j e k D) λr s' N=>?_)
 obtain⟨rfl,L,O,P⟩:=N
 exact⟨.inl ⟨.bool _,.bool _,[],rfl,λ_=>rfl,.bool _,At2 l _,λ_=>⟨List.Pairwise.nil,λ_ E=>nomatch E⟩⟩,L,O,P⟩
end Att
namespace L2
open PySem PySem.Spec PyProof.Rows
theorem Vd:∀{vs:List Value}{ns:List Int},IntsAre vs ns->Vals (ns.map V.int) vs
 | _,_,.nil=>.nil
 | _,_,.cons n t h=>.cons ⟨t,rfl⟩ (Vd h)
noncomputable def Iw (s:Stmt):Arguments:=match s with
 | .FunctionDef _ a _ _ _ _ _ _ _ _=>a
 | _=>{ posonlyargs:=[],args:=[],vararg:=none,kwonlyargs:=[],kw_defaults:=[],kwarg:=none,defaults:=[] }
noncomputable def Hu (s:Stmt):List Stmt:=match s with
 | .FunctionDef _ _ b _ _ _ _ _ _ _=>b
 | _=>[]
noncomputable def Az (s:Stmt):Scope:=match s with
 | .FunctionDef _ _ _ _ _ _ sc _ _ _=>sc
 | _=>{ kind:=.function,names:=[],isGenerator:=false,isCoroutine:=false }
noncomputable abbrev CX0:CXT:=λ_ _ _ _ _ _=>False
abbrev E0:XK:=λ_ _ _=>False
theorem Bj0 : Ul CX0 X E0:=λ_ _ _ _ _ _ _ h=>h.elim
structure Fun (K:PySem.W.Frag) (x qual:Str) (st:Stmt) (f:Addr) (fd:FuncData):Prop where
 ex:∃(oc:Value) (od:Option Addr) (kV doc pm:Value) (an:Option Addr) (cdv ct:Value) (osl:Array (Option Value)),
  fd=PySem.W.fnOf x qual (Iw st) (Hu st) (Az st) .none kV doc pm an cdv ct/\K.lookup f=some ⟨oc,od,.func fd,osl⟩/\PySem.W.codeIn K cdv qual=true
 kp:PySem.W.keepIn K (.ref f)=true
section
variable {P:Program}{w:World}{K:PySem.W.Frag}{mg:Str->Option Value}{base:Heap}
theorem Fun.ok {st:Stmt} (F:Fun K x qual st f i) (S:Bu N ps (Az st)) (g:∀vs H Q E,sp vs H Q E->vs.length=ps.length)
 (b:∀(c:Value) (A:Around) (a:List Env) (s:Shared) (H:Hp) (vs:List V) (Q:VK) (E:XK),Room k (A.deeper (envOfC qual (Az st) s.heap.objs.size f c))->sp vs H Q E ->
  ∃t,PSs (At1 CX0 P w K mg base N qual (Az st) f c A a s H E).nox (Hu st) t/\t { nx:=λ_ H'=>Q .non H',rt:=Q } (start N vs) H):FnOk P w K mg base CX0 (k+1) f i ps sp:=by
 obtain⟨oc,od,kV,l,pm,an,c,ct,j,rfl,m,e⟩:=F.ex
 refine Bk1 m e S g λA a s H vs Q E n d=>?_
 obtain⟨t,h,q⟩:=b _ A _ s H _ Q E n d;exact⟨t,h.nox,q⟩
theorem Fun.binds {st:Stmt} (F:Fun K x qual st f d)
 (h:∀(i b e:Value) (g:Option Addr) (a c:Value) (us:List Value),us.length=ps.length->bindArgs (PySem.W.fnOf x qual (Iw st) (Hu st) (Az st) .none i b e g a c) ⟨us,[]⟩=pure (ps.zip us)):Binds K d ps []:=by
 obtain⟨oc,od,i,b,e,g,a,c,k,rfl,lk,j⟩:=F.ex;exact .all (h _ _ _ _ _ _)
end
section
variable {X:Cx}
theorem pv (i:Nat) {a:Pos}(hN:X.N[i]?=some x:=by rfl) (hv:Vis X.env.scope x:=by first | exact Or.inl rfl | exact Or.inr (Or.inl rfl) | exact Or.inr (Or.inr rfl)) (hd:(x==("__debug__" : Str))=false:=by decide)
 (hcd:(x==("__classdict__" : Str))=false:=by decide):PE X (.Name x a) (Gg i):=A1o hN hv hd hcd
end
def Same (H H':Hp):Prop:=∀b o,H b=some o->H' b=some o
theorem Same.refl (H:Hp):Same H H:=λ_ _ h=>h
theorem Same.trans (a:Same H e) (b:Same e d):Same H d:=λc o h=>b c o (a c o h)
theorem Same.free (e:Same H H') (h:H' l=Option.none):H l=Option.none:=by
 cases q:H l with
 | none=>rfl
 | some o =>
  rw[e l o q]at h
  grind
theorem Same.seq {K:PySem.W.Frag} (e:Same H H') (h:SqL K H a xs):SqL K H' a xs:=by
 rcases h with (h | ⟨o,h⟩) | h
 ·exact .inl (.inl (e _ _ h))
 ·exact .inl (.inr ⟨o,e _ _ h⟩)
 ·exact .inr h
end L2
set_option maxHeartbeats 4000000
namespace L2
open PySem PySem.Spec PyProof.Rows
noncomputable abbrev Ef (X:Cx) (N':List Str) (scope:Scope) (cl:List (Str×Addr)) (C:Addr) (s₀:Shared) (H₀:Hp) (ex:List Addr):Cx :=
 { X with N:=N',env:=compEnvC scope cl C X.env,s₀:=s₀,H₀:=H₀,outer:=X.stack,stack:=X.stack,ex:=ex,fn:=λx=>decide (scope.names.lookup x=some .local\/scope.names.lookup x=some .cell),pn:=[],xe:=λ_ _=>False }
noncomputable def cst (idx:List (Option Nat)) (σ:St):St:=idx.map λo=>o.bind λi=>(σ[i]?).join
structure Ip (X:Cx) (N':List Str) (idx:List (Option Nat)) (scope:Scope):Prop where
 kind:scope.kind=.function
 nod:(scope.names.map (·.1)).Nodup
 free:∀y∈scope.names,y.2=.free->X.env.kindOf y.1=some .cell\/X.env.kindOf y.1=some .free
 len:idx.length=N'.length
 at':∀(j i:Nat) (x:Str),N'[j]?=some x->idx[j]?=some (some i)->X.N[i]?=some x/\scope.names.lookup x=some .free
theorem Jg (env:Env):∀(names:List (Str×NameKind)) (acc:List (Str×Addr)),(∀y∈names,y.2=.free->∃c,env.cells.lookup y.1=some c) ->
 ∃
  cl,(forIn names acc λ(p:Str×NameKind) (r:List (Str×Addr))=>(if (p.2==NameKind.free)=true then (do let c <- cellOf env p.1;pure (ForInStep.yield ((p.1,c)::r))) else pure (ForInStep.yield r):Sem (ForInStep (List (Str×Addr)))))=(pure cl:Sem (List (Str×Addr))) /\
  (∀x c,cl.lookup x=some c->acc.lookup x=some c\/(env.cells.lookup x=some c/\(x,NameKind.free)∈names))/\(∀x,((∃c,acc.lookup x=some c)\/(x,NameKind.free)∈names)->∃c,cl.lookup x=some c)
 | [],acc,_=>⟨acc,rfl,λx c e=>.inl e,λx h=>by
  rcases h with h | h
  ·exact h
  ·simp at h⟩
 | (n,k)::r,acc,h=>by
  by_cases hk:k=NameKind.free
  ·subst hk
   obtain⟨c,hc⟩:=h (n,.free) (by simp) rfl
   obtain⟨cl,e,a,b⟩:=Jg env r ((n,c)::acc) λy hy=>h y (List.mem_cons_of_mem _ hy)
   refine⟨cl,?_,λx c' e'=>?_,λx hx=>?_⟩
   ·rw[List.forIn_cons]
    simp only[cellOf,hc];exact e
   ·rcases a x c' e' with z | ⟨z1,z2⟩
    ·rw[List.lookup_cons]at z
     split at z
     ·rename_i hxe
      have:x=n:=by simpa using hxe
      subst this
      cases z
      exact .inr ⟨hc,by simp⟩
     ·exact .inl z
    ·exact .inr ⟨z1,List.mem_cons_of_mem _ z2⟩
   ·refine b x ?_
    rcases hx with ⟨c',z⟩ | z
    ·left
     rw[List.lookup_cons]
     split
     ·exact⟨_,rfl⟩
     ·exact⟨_,z⟩
    ·rcases List.mem_cons.mp z with z | z
     ·left
      cases z
      exact⟨c,by simp⟩
     ·exact .inr z
  ·obtain⟨cl,e,a,b⟩:=Jg env r acc λy hy=>h y (List.mem_cons_of_mem _ hy)
   refine⟨cl,?_,λx c' e'=>?_,λx hx=>?_⟩
   ·rw[List.forIn_cons]
    have:(k==NameKind.free)=false:=by cases k <;> first | rfl | exact absurd rfl hk
    simp only[this];exact e
   ·rcases a x c' e' with z | ⟨z1,z2⟩
    ·exact .inl z
    ·exact .inr ⟨z1,List.mem_cons_of_mem _ z2⟩
   ·refine b x ?_
    rcases hx with z | z
    ·exact .inl z
    ·rcases List.mem_cons.mp z with z | z
     ·cases z;exact absurd rfl hk
     ·exact .inr z
theorem Ui (h:∀y∈scope.names,y.2=.free->∃c,env.cells.lookup y.1=some c) :
 ∃d,closureFor scope env=pure d/\(∀x c,d.lookup x=some c->env.cells.lookup x=some c/\(x,NameKind.free)∈scope.names)/\(∀x,(x,NameKind.free)∈scope.names->∃c,d.lookup x=some c):=by
 obtain⟨d,e,a,b⟩:=Jg _ _ [] h
 refine⟨d,?_,λx c g=>?_,λx f=>b x (.inr f)⟩
 ·unfold closureFor
  grind
 simp_all
noncomputable abbrev A5q (ifs:List Expr) (env:Env):Sem Bool:=forIn ifs true λc r=>if r=true then do let ok <- isTrue c env (eval c env);pure (ForInStep.yield ok) else pure (ForInStep.yield r)
def A8o (M:Model)(A:Around)(E:Value->Shared->Prop)(tg elt:Expr)(ifs:List Expr)(env:Env)(it acc v:Value)(Z:Shared->Prop)(s:Shared):Prop :=
 wpAny M A (letOwnedTupleGo tg it v) (λ_ a=>wpAny M A (assign tg env v) (λ_ b=>wpAny M A (A5q ifs env) (λok c=>match ok with
  | true=>wpAny M A (eval elt env) (λx d=>wpAny M A (call (.builtin "list.append") [acc,x]) (λ_ z=>Z z) E d) E c
  | false=>Z c) E b) E a) E s
theorem A5b (C:E=notedBy (model P w) A env λx z=>R (.error x) z) (Wd:Nat->Shared->Prop)
 (step:∀n z,Wd n z->wpAny (model P w) A (pyNext it) (λr a=>match r with
  | none=>R (.ok .next) a
  | some v=>A8o (model P w) A E o i j env it acc v (λy=>∃m,m<n/\Wd m y) a) E z) (n:Nat) (h:Wd n s) :
 codeAny (model P w) A (.compLoop (.ListComp i [⟨o,f,j,0⟩] p l) 0 it acc env) R s:=by
 subst C
 refine codeAny_loop (I:=Wd) rfl (turn:=?_) n h
 intro k z G
 show wpAny (model P w) A (Sem.onRaise (compTurn (.ListComp i [⟨o,f,j,0⟩] p l) 0 it acc env) λx=>do noteFrame x env;theTreesLotGoes x) _ _ z
 apply wpAny_noted;rw[compTurn_list];apply wpAny_bind;apply wpAny_standAt;apply wpAny_bind
 refine wpAny_mono (step k z G) ?_ λ_ _ q=>q
 rintro (_ | v) a u
 ·exact wpAny_pure u
 apply wpAny_bind
 refine wpAny_mono u ?_ λ_ _ q=>q
 intro _ b D;apply wpAny_bind
 refine wpAny_mono D ?_ λ_ _ q=>q
 intro _ c F;apply wpAny_bind
 refine wpAny_mono F ?_ λ_ _ q=>q
 rintro (_ | _) d t
 ·exact wpAny_pure (And.intro rfl t)
 apply wpAny_bind;apply wpAny_bind
 refine wpAny_mono t ?_ λ_ _ q=>q
 intro y e H;apply wpAny_bind
 refine wpAny_mono H ?_ λ_ _ q=>q
 intro _ g B;exact wpAny_pure (wpAny_pure (And.intro rfl B))
def PTs (X:Cx)(ifs:List Expr)(t:TT):Prop :=
 ∀
  (pins:List (Addr×Obj)) (s:Shared) (σ:St) (H:Hp) (Q:Bool->Hp->Prop),Inv X pins σ H s->t σ H Q ->
  wpAny (model X.prog X.w) X.A (forIn ifs true λc r=>if r=true then do let ok <- isTrue c X.env (eval c X.env);pure (ForInStep.yield ok) else pure (ForInStep.yield r)) (TP X pins σ Q) X.xe s
structure QTs (X:Cx) (e:(List Expr)) (t:TT):Prop where
 get:PTs X e t
def A6b:TT:=λ_ H Q=>Q true H
theorem A4m : PTs X [] A6b:=λ_ _ _ H _ I h=>wpAny_tests_nil ⟨H,I,h⟩
theorem A6c (h:PT X c t):PTs X [c] t:=λa s b H Q I q=>wpAny_tests_one (h _ s _ H Q I q)
def tLC (idx:List (Option Nat))(wi:TI)(g:TG)(tc:TT)(te:TE):TE:=λσ H Q=>wi σ H λJ H1 =>
 ∃
  W:Nat->Nat->St->List V->Hp->Prop,(∃m,W 0 m (cst idx σ) [] H1)/\∀i m σ' acc H,W i m σ' acc H ->
  (J.stop i H/\∀p,H p=none->Q (.ref p) (upd H p (.lst acc))) \/
  (J.go i H/\acc.length<sizeLine/\∃N:St->List V->Hp->Prop,(∀σ' acc' H',N σ' acc' H'->∃m',m'<m/\W (i+1) m' σ' acc' H')/\∀x H',J.yld i H x H'->g x σ' H' λσ2 H2=>tc σ2 H2 λb H3 =>
   if b=true then te σ2 H3 λy H4=>N σ2 (acc++[y]) H4 else N σ2 acc H3)
theorem HOk.track (x:HOk P w H h) (hn:H a=none) (f:zA P w (upd H a o) h a o):HOk P w (upd H a o) h:=λb u e=>by
 by_cases hb:b=a
 ·subst hb;rw[Av]at e;simp_all
 ·rw[Ah hb]at e
  exact(x b u e).stay (λc v _ q=>q) λc q=>by rw[Ah (Bk q hn)];grind λc d q=>by rw[Ah (Bk q hn)];grind λc g d q=>by rw[Ah (Bk q hn)];grind
theorem Hq {env:Env}:∀{names:List (Str×NameKind)}{x:Str},names.lookup x=some .free ->
 (names.map λ(n,k)=>if (k==NameKind.free&&env.scope.kind==.function&&env.kindOf n==some .cell) then (n,NameKind.cell) else (n,k)).lookup x=some .free \/
 (names.map λ(n,k)=>if (k==NameKind.free&&env.scope.kind==.function&&env.kindOf n==some .cell) then (n,NameKind.cell) else (n,k)).lookup x=some .cell
 | [],_,h=>by simp at h
 | (n,k)::r,x,h=>by
  have ih:=@Hq env r x;simp only[List.map_cons]
  cases hx:x==n with
  | true =>
   simp only[List.lookup_cons,hx]at h
   cases h
   split
   ·right;simp[List.lookup_cons,hx]
   ·left;simp[List.lookup_cons,hx]
  | false =>
   simp only[List.lookup_cons,hx]at h
   split
   ·simp only[List.lookup_cons,hx];exact ih h
   ·simp only[List.lookup_cons,hx];exact ih h
theorem J3 {env:Env}:∀{names:List (Str×NameKind)}{x:Str}{k:NameKind},
 (names.map λ(n,k)=>if (k==NameKind.free&&env.scope.kind==.function&&env.kindOf n==some .cell) then (n,NameKind.cell) else (n,k)).lookup x=some k ->
 names.lookup x=some k\/(k=.cell/\names.lookup x=some .free)
 | [],_,_,h=>by simp at h
 | (n,k')::r,x,k,h=>by
  have ih:=@J3 env r x k;simp only[List.map_cons]at h
  cases hx:x==n with
  | true =>
   by_cases hc:(k'==NameKind.free&&env.scope.kind==.function&&env.kindOf n==some .cell)=true
   ·rw[if_pos hc]at h
    simp only[List.lookup_cons,hx]at h
    cases h
    right
    refine⟨rfl,?_⟩
    simp only[List.lookup_cons,hx]
    have:k'=.free:=by
     simp only[Bool.and_eq_true]at hc;exact eq_of_beq hc.1.1
    rw[this]
   ·rw[if_neg hc]at h
    simp only[List.lookup_cons,hx]at h ⊢;exact .inl h
  | false =>
   simp only[List.lookup_cons,hx]
   refine ih ?_
   by_cases hc:(k'==NameKind.free&&env.scope.kind==.function&&env.kindOf n==some .cell)=true
   ·rw[if_pos hc]at h;simpa only[List.lookup_cons,hx] using h
   ·rw[if_neg hc]at h;simpa only[List.lookup_cons,hx] using h
theorem lookup_mem {α:Type}:∀{l:List (Str×α)}{x:Str}{k:α},l.lookup x=some k->(x,k)∈l
 | [],_,_,h=>by simp at h
 | (n,k')::r,x,k,h=>by
  rw[List.lookup_cons]at h
  split at h
  ·rename_i e
   have:x=n:=by simpa using e
   subst this
   cases h
   simp
  ·exact List.mem_cons_of_mem _ (lookup_mem h)
theorem mem_lookup {α:Type}:∀{l:List (Str×α)}{x:Str}{k:α},(l.map (·.1)).Nodup->(x,k)∈l->l.lookup x=some k
 | [],_,_,_,h=>by simp at h
 | (n,k')::r,x,k,hn,h=>by
  have hn:(n::r.map (·.1)).Nodup:=hn
  obtain⟨h1,h2⟩:=List.nodup_cons.mp hn
  rcases List.mem_cons.mp h with h | hr
  ·cases h;simp
  ·rw[List.lookup_cons]
   split
   ·rename_i e
    have:x=n:=by simpa using e
    subst this
    exact absurd (show x∈r.map (·.1) from List.mem_map.mpr ⟨(x,k),hr,rfl⟩) h1
   ·exact mem_lookup h2 hr
section
variable {X:Cx}{N':List Str}{idx:List (Option Nat)}{scope:Scope}
theorem A5m {pins:List (Addr×Obj)}{σ:St}{H:Hp}{s:Shared}{fp:List Addr}{cl:List (Str×Addr)}{C:Addr}(L:Ip X N' idx scope)(I:Inv X pins σ H s)(hf:∀b∈fp,Rc X pins H b)(hfs:∀b∈fp,b<s.heap.objs.size)
 (hC:s.heap.objs.size<=C) (c1:∀x c,cl.lookup x=some c->(X.env.cells.lookup x=some c/\(x,NameKind.free)∈scope.names)\/(s.heap.objs.size<=c/\(x,NameKind.cell)∈scope.names)) (c2:∀x,((x,NameKind.free)∈scope.names\/(x,NameKind.cell)∈scope.names)->∃c,cl.lookup x=some c) (c3:∀x y c,cl.lookup x=some c->cl.lookup y=some c->x=y) :
 (Ef X N' scope cl C s H fp).Ok where
 mod:=I.ok.mod
 kind:=L.kind
 glob:=I.ok.glob
 blt:=I.ok.blt
 above:=hC
 inj:=c3
 has:=λx h=>by
  refine c2 x ?_
  have h':(relabel scope X.env).names.lookup x=some .cell\/(relabel scope X.env).names.lookup x=some .free:=h
  rcases h' with h | h
  ·rcases J3 h with z | ⟨_,z⟩
   ·exact .inr (lookup_mem z)
   ·exact .inl (lookup_mem z)
  ·rcases J3 h with z | ⟨z,_⟩
   ·exact .inl (lookup_mem z)
   ·cases z
 cab:=λx c hx hc=>by
  have hx':scope.names.lookup x=some .local\/scope.names.lookup x=some .cell:=of_decide_eq_true hx
  rcases c1 x c hc with ⟨_,z⟩ | ⟨z,_⟩
  ·have z:=mem_lookup L.nod z
   rw[z]at hx'
   rcases hx' with hx' | hx' <;> cases hx'
  ·exact z
 hd:=I.ok.hd
 frames:=I.ok.frames
 stk:=.inl rfl
 exf
  := λb hb=>⟨Nat.ne_of_lt (Nat.lt_of_lt_of_le (hfs b hb) hC),λx c e=>by
  rcases c1 x c e with ⟨z,_⟩ | ⟨z,_⟩
  ·exact(hf b hb).2.2.2.2.1 x c z
  ·exact Nat.ne_of_gt (Nat.lt_of_lt_of_le (hfs b hb) z)⟩
 bs:=I.bs
 bsz:=Nat.le_trans I.ok.bsz I.sz
 noex:=λb o e hb=>by
  rcases (hf b hb).2.2.2.1 with z | z
  ·exact I.ok.noex b o e z
  ·exact absurd (Nat.lt_of_lt_of_le (Heap.lt_size e) (Nat.le_trans I.ok.bsz z)) (Nat.lt_irrefl _)
 exfs:=λb hb z=>by
  rcases List.mem_cons.mp (I.stkSub b z) with q | q
  ·exact(hf b hb).2.1 q
  ·exact(hf b hb).2.2.1 q
 funs:=I.stack
 frf:=I.stkFree
 tab:=λp hp=>I.base.tbls p.1 p.2 (I.ok.tab p hp)
theorem A2b {pins:List (Addr×Obj)}{σ:St}{H:Hp}{s s':Shared}{fp:List Addr}{cl:List (Str×Addr)}{C:Addr}{m:Str->Option Value}(L:Ip X N' idx scope)(I:Inv X pins σ H s)(hf:∀b∈fp,Rc X pins H b)(hfs:∀b∈fp,b<s.heap.objs.size)
 (hC:s.heap.objs.size<=C) (c1:∀x c,cl.lookup x=some c->(X.env.cells.lookup x=some c/\(x,NameKind.free)∈scope.names)\/(s.heap.objs.size<=c/\(x,NameKind.cell)∈scope.names)) (c2:∀x,((x,NameKind.free)∈scope.names\/(x,NameKind.cell)∈scope.names)->∃c,cl.lookup x=some c) (c3:∀x y c,cl.lookup x=some c->cl.lookup y=some c->x=y) (c4:∀x c,cl.lookup x=some c->(x,NameKind.cell)∈scope.names->s'.heap.IsCell c none)
 (ho:s'.os=s.os) (hg:s'.gens=s.gens) (k:∀b o,s.heap.get? b=some o->s'.heap.get? b=some o) (hn:s'.heap.Ns C m):Inv (Ef X N' scope cl C s H fp) [] (cst idx σ) H s' where
 ok:=A5m L I hf hfs hC c1 c2 c3
 os:=ho
 bare:=by rw[hg];exact I.bare
 base:=Un.kept k
 loc:=by
  refine⟨m,hn,λj x v e1 e2 e3=>?_⟩
  obtain⟨m0,hn0,hl⟩:=I.loc
  have e2':(idx.map λo=>o.bind λi=>(σ[i]?).join)[j]?=some (some v):=e2
  rw[List.getElem?_map]at e2'
  cases ei:idx[j]? with
  | none=>rw[ei]at e2';cases e2'
  | some o =>
   rw[ei]at e2';simp only[Option.map_some,Option.some.injEq]at e2'
   cases o with
   | none=>cases e2'
   | some i =>
    have e2'':(σ[i]?).join=some v:=e2';obtain⟨hNi,hfr⟩:=L.at' j i x e1 ei
    have hσ:σ[i]?=some (some v):=by
     cases q:σ[i]? with
     | none=>rw[q]at e2'';cases e2''
     | some z=>rw[q]at e2'';rw[show z=some v from e2'']
    have hk:=L.free _ (lookup_mem hfr) rfl
    have hvis:Vis X.env.scope x:=by
     rcases hk with z | z
     ·exact .inr (.inl z)
     ·exact .inr (.inr z)
    obtain⟨u,r,lk⟩:=hl i x v hNi hσ hvis
    refine⟨u,r,.inr ?_⟩
    rcases lk with ⟨z,_⟩ | ⟨_,c,hc,hcl⟩
    ·exfalso
     have z':X.env.kindOf x=some .local:=z
     rcases hk with q | q
     ·rw[show X.env.kindOf x=_ from q]at z';cases z'
     ·rw[show X.env.kindOf x=_ from q]at z';cases z'
    ·obtain⟨c',hc'⟩:=c2 x (.inl (lookup_mem hfr))
     have:c'=c:=by
      rcases c1 x c' hc' with ⟨q,_⟩ | ⟨_,q⟩
      ·rw[hc]at q;exact(Option.some.inj q).symm
      ·rw[mem_lookup L.nod q]at hfr;cases hfr
     subst this
     refine⟨?_,c',hc',let ⟨o,e,d⟩:=hcl; ⟨o,k _ o e,d⟩⟩
     rcases Hq (env:=X.env) hfr with q | q
     ·exact .inr q
     ·exact .inl q
 cell:=λx c e=>by
  rcases c1 x c e with ⟨q,_⟩ | ⟨_,q⟩
  ·obtain⟨v,z⟩:=I.cell x c q
   exact⟨v,let ⟨o,e,d⟩:=z; ⟨o,k _ o e,d⟩⟩
  ·exact⟨none,c4 x c e q⟩
 free:=I.hok.fresh hC
 freeC:=λx c e=>by
  rcases c1 x c e with ⟨q,_⟩ | ⟨q,_⟩
  ·exact I.freeC x c q
  ·exact I.hok.fresh q
 pin:=λp hp=>by simp at hp
 hok:=I.hok.kept k
 len:=by
  show (idx.map _).length=N'.length
  rw[List.length_map];exact L.len
end
section
variable {X:Cx}{N':List Str}{idx:List (Option Nat)}{scope:Scope}{elt tg iter:Expr}{ifs:List Expr}{pos:Pos}{wi:TI}{g:TG}{tc:TT}{te:TE}
theorem Mw:∀(names:List (Str×NameKind)) (h:Heap) (acc:List (Str×Addr)),(∀x y c,acc.lookup x=some c->acc.lookup y=some c->x=y)->(∀x c,acc.lookup x=some c->c<h.objs.size) ->
 (∀x c,(cellsFrom h.objs.size names acc).lookup x=some c->acc.lookup x=some c\/(h.objs.size<=c/\(x,NameKind.cell)∈names/\(pushCells h names).IsCell c none)) /\
 (∀x,((∃c,acc.lookup x=some c)\/(x,NameKind.cell)∈names)->∃c,(cellsFrom h.objs.size names acc).lookup x=some c) /\
 (∀x y c,(cellsFrom h.objs.size names acc).lookup x=some c->(cellsFrom h.objs.size names acc).lookup y=some c->x=y)
 | [],h,acc,hi,hl=>by
  refine⟨λx c e=>.inl e,λx z=>?_,hi⟩
  rcases z with z | z
  ·exact z
  ·exact nomatch z
 | (n,k)::r,h,acc,hi,hl=>by
  unfold cellsFrom pushCells
  by_cases hk:(k==NameKind.cell)=true
  ·rw[if_pos hk,if_pos hk]
   have hk':k=.cell:=eq_of_beq hk;subst hk';have sz:(h.push { cls:=.type "cell",data:=.cell none }).objs.size=h.objs.size+1:=Heap.size_push ..
   have ih:=Mw r (h.push { cls:=.type "cell",data:=.cell none }) ((n,h.objs.size)::acc) (λx y c e1 e2=>?_) (λx c e=>?_)
   ·rw[sz]at ih
    obtain⟨i1,i2,i3⟩:=ih
    refine⟨λx c e=>?_,λx z=>?_,i3⟩
    ·rcases i1 x c e with q | ⟨q1,q2,q3⟩
     ·rw[List.lookup_cons]at q
      split at q
      ·rename_i hb
       cases q
       have:x=n:=eq_of_beq hb;subst this;exact .inr ⟨Nat.le_refl _,List.mem_cons_self,_,pushCells_keeps _ _ _ _ (Heap.get?_push_size _ rfl),rfl⟩
      ·exact .inl q
     ·exact .inr ⟨Nat.le_of_succ_le q1,List.mem_cons_of_mem _ q2,q3⟩
    ·refine i2 x ?_
     by_cases hx:x=n
     ·subst hx;exact .inl ⟨h.objs.size,by simp⟩
     ·rcases z with ⟨c,z⟩ | z
      ·exact .inl ⟨c,by rw[List.lookup_cons,beq_false_of_ne hx];exact z⟩
      ·rcases List.mem_cons.mp z with z | z
       ·cases z;exact absurd rfl hx
       ·exact .inr z
   ·rw[List.lookup_cons]at e1 e2
    split at e1
    ·rename_i hb1
     cases e1
     split at e2
     ·rename_i hb2
      exact(eq_of_beq hb1).trans (eq_of_beq hb2).symm
     ·exact absurd (hl _ _ e2) (Nat.lt_irrefl _)
    ·split at e2
     ·cases e2
      exact absurd (hl _ _ e1) (Nat.lt_irrefl _)
     ·exact hi x y c e1 e2
   ·rw[sz]
    rw[List.lookup_cons]at e
    split at e
    ·cases e;exact Nat.lt_succ_self _
    ·exact Nat.lt_succ_of_lt (hl x c e)
  ·rw[if_neg hk,if_neg hk]
   have ih:=Mw r h acc hi hl;obtain⟨i1,i2,i3⟩:=ih
   refine⟨λx c e=>?_,λx z=>i2 x ?_,i3⟩
   ·rcases i1 x c e with q | ⟨q1,q2,q3⟩
    ·exact .inl q
    ·exact .inr ⟨q1,List.mem_cons_of_mem _ q2,q3⟩
   ·rcases z with z | z
    ·exact .inl z
    ·rcases List.mem_cons.mp z with z | z
     ·cases z;exact absurd rfl hk
     ·exact .inr z
theorem A3p
 (h:Q (newEnv scope s.heap.objs.size a (cellsFrom (s.heap.objs.size+1) scope.names d) qual none .none (some b) builtinsNs) { s with heap:=pushCells (s.heap.push { cls:=.type "dict",data:=.dict #[] }) scope.names }) :
 wpAny M A (newFunctionEnv scope a d [] qual none .none (some b)) Q E s:=by
 refine wpAny_bind (wpAny_alloc ?_)
 refine wpAny_bind (wpAny_layCells _ λe f c=>by trivial _ _ _ _ ?_)
 rw[show ({ s with heap:=s.heap.push _ }:Shared).heap.objs.size=s.heap.objs.size+1 from Heap.size_push ..]
 exact wpAny_bind (wpAny_pure (wpAny_pure h))
theorem Yb {K:List (Str×Addr)} {RR:Value->Addr->Result->Shared->Prop}{F:List V->Hp->Prop}
 (L:Ip X N' idx scope) (hc:X.calm=true)
 (hg:∀K C s₀ H₀ ex,PG (Ef X N' scope K C s₀ H₀ ex) tg g) (ht:∀K C s₀ H₀ ex,PTs (Ef X N' scope K C s₀ H₀ ex) ifs tc) (he:∀K C s₀ H₀ ex,PE (Ef X N' scope K C s₀ H₀ ex) elt te)
 (c1:∀x c,K.lookup x=some c->X.env.cells.lookup x=some c/\(x,NameKind.free)∈scope.names) (c2:∀x,(x,NameKind.free)∈scope.names->∃c,K.lookup x=some c)
 (I2:Inv X pins σ R s2) (T:Turn X.prog X.w X.K tg J fp it tn) (st2:tn 0 s2.heap) (f2:∀b∈fp,Rc X pins R b) (W:Nat->Nat->St->List V->Hp->Prop) (w0:∃m,W 0 m (cst idx σ) [] R)
 (turn:∀i m t acc H,W i m t acc H->(J.stop i H/\F acc H) \/
  (J.go i H/\acc.length<sizeLine/\∃N:St->List V->Hp->Prop,(∀t acc' H',N t acc' H'->∃m',m'<m/\W (i+1) m' t acc' H')/\∀x H',J.yld i H x H'->g x t H' λZ R=>tc Z R λb H3 =>
   if b=true then te Z H3 λy H4=>N Z (acc++[y]) H4 else N Z acc H3))
 (hR:∀(D C:Addr) (s':Shared) (acc:List V) (a:List Value) (n:Nat) (H':Hp) (m:Str->Option Value),s2.heap.objs.size<=D->s2.heap.objs.size<=C->D≠C->s'.heap.Ns C m->s'.heap.get? D=some { cls:=.type "list",data:=.seq a.toArray n }->Vals acc a->acc.length<=sizeLine ->
  H' D=none->H' C=none->s'.os=s2.os->AllBare s'.gens->Un (frs X.stack) fp R H' s2.heap s'.heap->HOk X.prog X.w H' s'.heap->F acc H'->RR (.ref D) C (.ok .next) s') :
 wpAny (model X.prog X.w) X.A (newList []) (λacc B=>wpAny (model X.prog X.w) X.A (newFunctionEnv scope X.env.globals K [] X.env.qual none .none (some X.env)) (λcenv s₄ =>
  codeAny (model X.prog X.w) X.A (.compStart (.ListComp elt [⟨tg,iter,ifs,0⟩] scope pos) 0 (.ref it) acc { cenv with scope:=relabel scope X.env }) (RR acc cenv.locals) s₄) E B) E s2:=by
 have U:∀b∈fp,b<s2.heap.objs.size:=λb w=>let ⟨o,e,_⟩:=T.obj _ _ st2 b w; Heap.lt_size e
 refine wpAny_newObj_type (A3p ?_)
 dsimp only
 generalize hH2:s2.heap.push { cls:=.type "list",dict:=none,data:=.seq ([]:List Value).toArray }=G
 have hC:G.objs.size=s2.heap.objs.size+1:=by rw[<- hH2,Heap.size_push]
 have hDC:s2.heap.objs.size≠G.objs.size:=by rw[hC];exact Nat.ne_of_lt (Nat.lt_succ_self _)
 have A:s2.heap.objs.size<=G.objs.size:=by rw[hC];exact Nat.le_succ _
 obtain⟨j,l⟩:∃j,j=pushCells (G.push { cls:=.type "dict",data:=.dict #[] }) scope.names:=⟨_,rfl⟩;rw[<- l]
 have S:j.Ns G.objs.size (λ_=>none):=by rw[l];exact(Heap.Ns.new G (.type "dict")).keeps (pushCells_keeps _ _)
 have old:∀b o,s2.heap.get? b=some o->j.get? b=some o:=λb o e=>by rw[l];exact pushCells_keeps _ _ b o (Heap.get?_push_of_some _ (hH2▸Heap.get?_push_of_some _ e))
 have hacc:j.get? s2.heap.objs.size=some { cls:=.type "list",dict:=none,data:=.seq ([]:List Value).toArray }:=by rw[l];exact pushCells_keeps _ _ _ _ (Heap.get?_push_of_some _ (hH2▸Heap.get?_push_size _ rfl))
 have szD:(G.push { cls:=.type "dict",data:=.dict #[] }).objs.size=G.objs.size+1:=Heap.size_push ..
 obtain⟨k1,k2,k3⟩:=Mw scope.names (G.push { cls:=.type "dict",data:=.dict #[] }) K (λx y c e1 e2=>I2.ok.inj x y c (c1 x c e1).1 (c1 y c e2).1) (λx c e=>by
  obtain⟨v,o,ho,_⟩:=I2.cell x c (c1 x c e).1
  rw[szD];exact Nat.lt_succ_of_lt (Nat.lt_of_lt_of_le (Heap.lt_size ho) A))
 rw[szD,<- l]at k1;rw[szD]at k2 k3;obtain⟨cl0,hcl0⟩:∃cl0,cl0=K:=⟨_,rfl⟩;have c1o:=c1;have c2o:=c2;rw[<- hcl0]at k1 k2 k3 c1o c2o;rw[<- hcl0]
 clear c1 c2
 generalize cellsFrom (G.objs.size+1) scope.names cl0=K at k1 k2 k3 ⊢
 have c1:∀x c,K.lookup x=some c->(X.env.cells.lookup x=some c/\(x,NameKind.free)∈scope.names)\/(s2.heap.objs.size<=c/\(x,NameKind.cell)∈scope.names):=λx c e=>by
  rcases k1 x c e with q | ⟨q1,q2,_⟩
  ·exact .inl (c1o x c q)
  ·exact .inr ⟨Nat.le_trans A (Nat.le_of_succ_le q1),q2⟩
 have c2:∀x,((x,NameKind.free)∈scope.names\/(x,NameKind.cell)∈scope.names)->∃c,K.lookup x=some c:=λx z=>k2 x (z.imp (λz=>c2o x z) id)
 have c4:∀x c,K.lookup x=some c->(x,NameKind.cell)∈scope.names->j.IsCell c none:=λx c e z=>by
  rcases k1 x c e with q | ⟨_,_,q⟩
  ·have:=mem_lookup L.nod (c1o x c q).2
   rw[mem_lookup L.nod z]at this;cases this
  ·exact q
 let X':Cx:=Ef X N' scope K G.objs.size s2 R fp
 have I1:Inv X' [] (cst idx σ) R { s2 with heap:=j }:=A2b L I2 f2 U A c1 c2 k3 c4 rfl rfl old S
 have hD2:R s2.heap.objs.size=none:=I2.hok.fresh (Nat.le_refl _)
 have hDfs:s2.heap.objs.size∉X'.fs:=λz=>by
  obtain⟨_,o,ho,_⟩:=I2.stack.mem z;exact absurd (Heap.lt_size ho) (Nat.lt_irrefl _)
 have hDfp:s2.heap.objs.size∉fp:=λz=>absurd (U _ z) (Nat.lt_irrefl _)
 have P:∀{H':Hp} {pl:List (Addr×Obj)},(∀b∈fp,H' b=none)->(∀p∈pl,p.1∉fp)->∀b∈fp,Rc X' pl H' b:=λ{H' pl} hn M b w =>
  ⟨hn b w,Nat.ne_of_lt (Nat.lt_of_lt_of_le (U b w) A),λz=>by
   rcases List.mem_cons.mp (I2.stkSub b z) with q | q
   ·exact(f2 b w).2.1 q
   ·exact(f2 b w).2.2.1 q,.inl w,λx c e=>by
    rcases c1 x c e with ⟨z,_⟩ | ⟨z,_⟩
    ·exact(f2 b w).2.2.2.2.1 x c z
    ·exact Nat.ne_of_gt (Nat.lt_of_lt_of_le (U b w) z),λp Q z=>M p (by have hp':p∈[]++pl:=Q;simpa using hp') (z▸w)⟩
 have loop:∀B:Shared,B={ s2 with heap:=j } ->
  codeAny (model X.prog X.w) X.A (.compLoop (.ListComp elt [⟨tg,iter,ifs,0⟩] scope pos) 0 (.ref it) (.ref s2.heap.objs.size) (compEnvC scope K G.objs.size X.env)) (RR (.ref s2.heap.objs.size) G.objs.size) B:=by
  rintro B rfl
  obtain⟨m0,w0⟩:=w0
  refine A5b rfl (Wd:=λn s'=>∃i t acc a k H',Inv X' [(s2.heap.objs.size,{ cls:=.type "list",data:=.seq a.toArray k })] t H' s'/\Vals acc a/\acc.length<=sizeLine/\tn i s'.heap/\(∀b∈fp,H' b=none)/\W i n t acc H') (step:=?_) m0
   ⟨0,cst idx σ,[],[],0,R,I1.pins_of (λp Q=>?_),.nil,Nat.zero_le _,T.keep _ _ _ st2 λb _ o e=>old b o e,λb w=>(f2 b w).1,w0⟩
  ·rintro n s3 ⟨i,Y,acc,a,k,H3,I3,rv,hz,st3,fr3,w3⟩
   have M:∀p∈[((s2.heap.objs.size,{ cls:=.type "list",data:=.seq a.toArray k }):Addr×Obj)],p.1∉fp:=λp Q=>by
    rcases List.mem_singleton.mp Q with rfl;exact hDfp
   rcases turn i n Y acc H3 w3 with ⟨stop,q⟩ | ⟨go,hlt,N,hN,step⟩
   ·refine wpAny_mono (T.done X' rfl rfl rfl hc i _ s3 Y H3 (λ_ _=>False) I3 (P fr3 M) st3 stop) (λr s4 ⟨hr,I4⟩=>?_) λ_ _ f=>f.elim
    subst hr;obtain⟨p1,p2,p3,p4,p5⟩:=I4.pin (s2.heap.objs.size,{ cls:=.type "list",data:=.seq a.toArray k }) (List.mem_append_right _ List.mem_cons_self);obtain⟨m4,hn4,_⟩:=I4.loc;exact hR _ _ s4 acc a k H3 m4 (Nat.le_refl _) A hDC hn4 p1 rv hz p2 I4.free I4.os I4.bare I4.base I4.hok q
   ·refine wpAny_mono (T.item X' rfl rfl rfl hc i _ s3 Y H3 (λ_ _=>False) I3 (P fr3 M) st3 go) (λr s4 ⟨u,hr,h4⟩=>?_) λ_ _ f=>f.elim
    subst hr
    refine wpAny_mono h4 (λ_ s5 ⟨x,H5,I5,r5,y5,st5,fr5⟩=>?_) λ_ _ f=>f.elim
    refine wpAny_mono (hg _ _ _ _ _ _ s5 Y H5 x u _ (I5.pinned (P fr5 M) (T.obj _ _ st5)) r5 (step x H5 y5)) (λ_ s6 ⟨O,H6,I6,q6⟩=>?_) λ_ _ f=>f.elim
    refine wpAny_mono (ht _ _ _ _ _ _ s6 O H6 _ I6 q6) (λok s7 ⟨H7,I7,q7⟩=>?_) λ_ _ f=>f.elim
    have tnk:∀{t:St} {H':Hp} {s':Shared},Inv X' ([(s2.heap.objs.size,{ cls:=.type "list",data:=.seq a.toArray k })]++Su fp s5.heap) t H' s'->tn (i+1) s'.heap/\∀b∈fp,H' b=none:=λ{t H' s'} I=>by
     refine⟨T.keep _ _ _ st5 λb w o e=>(I.pin (b,o) (List.mem_append_right _ (List.mem_append_right _ (J7 w e)))).1,λb w=>?_⟩
     obtain⟨o,e,d⟩:=T.obj _ _ st5 b w;exact(I.pin (b,o) (List.mem_append_right _ (List.mem_append_right _ (J7 w e)))).2.1
    cases ok with
    | false =>
     rw[if_neg (by decide)]at q7
     obtain⟨m',hm,w7⟩:=hN _ _ _ q7;exact⟨m',hm,i+1,O,acc,a,k,H7,I7.unpinned,rv,hz,(tnk I7).1,(tnk I7).2,w7⟩
    | true =>
     rw[if_pos rfl]at q7
     refine wpAny_mono (he _ _ _ _ _ _ s7 O H7 _ I7 q7) (λy s8 ⟨yv,H8,I8,r8,q8⟩=>?_) λ_ _ f=>f.elim
     obtain⟨m',hm,w8⟩:=hN _ _ _ q8;obtain⟨p1,p2,p3,p4,p5⟩:=I8.pin (s2.heap.objs.size,{ cls:=.type "list",data:=.seq a.toArray k }) (List.mem_append_right _ List.mem_cons_self)
     refine call_meets PySem.F.slot_list_append ⟨_,p1,rfl⟩ PySem.F.entry_list_append (PySem.F.args_list_append_2 _ _) (PySem.list_append s2.heap.objs.size a.toArray k y (by have:=rv.length;rw[List.size_toArray];omega)) ⟨p1,?_⟩
     have hz':=rv.length;obtain⟨t8,f8⟩:=tnk I8
     have I8':Inv X' [] O H8 s8:=I8.pins_of λp Q=>nomatch Q
     have q:=PySem.IsL.update p1 (·.push y)
     have e':(a.toArray.push y)=(a++[y]).toArray:=by simp
     rw[e']at q
     obtain⟨k9,q⟩:∃k9,(s8.heap.update s2.heap.objs.size (Obj.mapSeq (·.push y))).get? _=some { cls:=.type _,data:=.seq _ k9 }:=⟨_,q⟩
     have I9:Inv _ _ _ _ { s8 with heap:=s8.heap.update _ (Obj.mapSeq (·.push y)) } :=
      I8'.turned (λb o w e=>(Heap.get?_update_other _ _ (Ne.symm w)).trans e) p2 p3 (.inr (Nat.le_refl _)) (λx c e z=>by
       obtain⟨v,o,ho,hd⟩:=I8'.cell x c e
       rw[z,p1]at ho;cases ho;cases hd) (λp Q=>by have hp':p∈([]:List _)++[]:=Q;simp at hp')
     refine⟨m',hm,i+1,O,acc++[yv],a++[y],k9,H8,I9.pins_of λp Q=>?_,rv.append (.cons r8 .nil),by rw[List.length_append,List.length_singleton];omega,T.keep _ _ _ t8 λb w o e=>(Heap.get?_update_other _ _ (λz=>hDfp (by rw[z];exact w))).trans e,f8,w8⟩
     rcases List.mem_singleton.mp Q with rfl
     exact⟨q,p2,p3,p4,λv z=>by cases z⟩
  ·rcases List.mem_singleton.mp Q with rfl
   exact⟨hacc,hD2,hDC,hDfs,λv z=>by cases z⟩
 exact codeAny_compStart_list (loop _ rfl) (T.self _ 0 _ _ _ (T.keep _ _ _ st2 λb _ o e=>old b o e) (loop _ rfl))
theorem Bm3 (L:Ip X N' idx scope)(hc:X.calm=true)(hi:PI X tg iter wi)
 (hg:∀t C s₀ H₀ ex,PG (Ef X N' scope t C s₀ H₀ ex) tg g) (ht:∀t C s₀ H₀ ex,PTs (Ef X N' scope t C s₀ H₀ ex) ifs tc) (he:∀t C s₀ H₀ ex,PE (Ef X N' scope t C s₀ H₀ ex) elt te)
 (hs:∀x,foldedSetIterable iter X.env x=pure x:=by intro _;rfl) :
 PE X (.ListComp elt [⟨tg,iter,ifs,0⟩] scope pos) (tLC idx wi g tc te):=by
 intro j s Z H Q I h
 obtain⟨t,l,c1,c2⟩:=Ui (env:=X.env) (scope:=scope) λy hy hf=>I.ok.has y.1 (L.free y hy hf)
 rw[eval_ListComp]
 refine wpAny_comprehension_free (use:=none) rfl hs l L.kind (λy hy hl=>mem_lookup L.nod (by grind)) (wpAny_mono (hi j s Z H _ I h) (λv s1 h1=>wpAny_mono h1 (λitv V h2=>?_) λ_ _ e=>e) λ_ _ e=>e)
 obtain⟨it,fp,tn,J,H2,rfl,I2,T,M,z,W,w0,A⟩:=h2
 refine Yb (F:=λa H=>∀p,H p=none->Q (.ref p) (upd H p (.lst a))) (RR:=λa C=>compPost (model X.prog X.w) X.A X.xe none (EP X j Z Q) a C) L hc hg ht he c1 c2 I2 T M z W w0 A ?_
 intro D C s' a w n N m hD hC O hn P rv hz d hC' ho K i hk q
 refine⟨m,hn,λG f=>?_⟩
 have eD:G.get? D=some { cls:=.type "list",data:=.seq w.toArray n }:=f.extBut _ _ O P
 have S:HOk X.prog X.w N G:=λb u e=>by
  refine (hk b u e).stay (λc v hc q=>f.extBut c v ?_ q) (λ_ q=>q) λ_ _ q=>q
  grind
 have U:HOk X.prog X.w (upd N D (.lst a)) G:=S.track d ⟨hz,w,n,rv,eD⟩
 have k:∀b o,V.heap.get? b=some o->b≠C:=λb o e=>Nat.ne_of_lt (Nat.lt_of_lt_of_le (Heap.lt_size e) hC)
 have R:∀b o,V.heap.get? b=some o->b≠D:=λb o e=>Nat.ne_of_lt (Nat.lt_of_lt_of_le (Heap.lt_size e) hD)
 have u2:Un (frs X.stack) fp H2 (upd N D (.lst a)) V.heap G :=
  ⟨
   λb o e r B Y=>f.extBut b o (k b o e) (i.keep b o e r B Y),λb o e r B Y=>let ⟨sl,q⟩:=i.slot b o e r B Y; ⟨sl,f.extBut b _ (k b o e) q⟩,
   λb o e r B=>by rw[Ah (R b o e)];exact i.free b o e r B,λb o e r=>let ⟨o',q⟩:=i.there b o e r; ⟨o',f.extBut b _ (k b o e) q⟩,
   λb xs e=>by rw[Ah (Bk (i.tups b _ e) d)];exact i.tups b _ e,λb o u e=>by rw[Ah (Bk (i.frzs b o u e) d)];exact i.frzs b o u e,
   λb ps e=>by rw[Ah (Bk (i.tbls b _ e) d)];exact i.tbls b _ e⟩
 refine⟨.ref D,upd _ D _,I2.call' ho u2 U K λb E=>⟨(z b E).2.2.2.1,(z b E).2.1,(z b E).2.2.2.2.1,(z b E).2.2.2.2.2⟩,rfl,q D d⟩
end
section
variable {X:Cx}{N':List Str}{idx:List (Option Nat)}{scope:Scope}{elt tg iter:Expr}{ifs:List Expr}{pos:Pos}{wi:TI}{g:TG}{tc:TT}{te:TE}
theorem A0b {K t:Pos}(hN:X.N.Nodup) (hi':X.N[i]?=some y) (hy:Loc X.env.scope y) (L:Ip X N' idx scope) (hc:X.calm=true) (hi:PI X tg iter wi)
 (hg:∀B C s₀ H₀ ex,PG (Ef X N' scope B C s₀ H₀ ex) tg g) (ht:∀B C s₀ H₀ ex,PTs (Ef X N' scope B C s₀ H₀ ex) ifs tc) (he:∀B C s₀ H₀ ex,PE (Ef X N' scope B C s₀ H₀ ex) elt te)
 (hsw:swapsWith (.ListComp elt [⟨tg,iter,ifs,0⟩] scope pos) (some (.Name y K)) t.line X.env=pure true:=by rfl)
 (hf:X.fn y=true\/X.env.scope.names.lookup y=some .local:=by first | exact .inl rfl | exact .inr rfl | assumption)
 (hs:∀x,foldedSetIterable iter X.env x=pure x:=by intro _;rfl) :
 PS X (.Assign [.Name y K] (.ListComp elt [⟨tg,iter,ifs,0⟩] scope pos) t) (Uy (tLC idx wi g tc te) (Ey i)):=by
 intro d s M H j I h
 have h:tLC idx wi g tc te M H λx H1=>j.nx (M.set i (some x)) H1:=h
 obtain⟨B,A,c1,c2⟩:=Ui (env:=X.env) (scope:=scope) λy hy hf=>I.ok.has y.1 (L.free y hy hf)
 rw[exec_Assign_Name_used _ _ _ _ hsw]
 refine wpAny_bind (wpAny_standAt (wpAny_bind ?_))
 show wpAny _ X.A (do let _ <- comprehension (.ListComp elt [⟨tg,iter,ifs,0⟩] scope pos) scope X.env _ (newList []) false (eval iter X.env) (some (assign (.Name y K) X.env))) _ _ s
 refine wpAny_bind (wpAny_mono (wpAny_comprehension_free (use:=some (assign (.Name y K) X.env)) (Q:=λ_ r=>SP X d j .next r) rfl hs A L.kind (λy hy hl=>mem_lookup L.nod (by rw[<- hl];exact hy))
  (wpAny_mono (hi d s M H _ I h) (λv s1 h1=>wpAny_mono h1 (λitv s2 h2=>?_) λ_ _ e=>e) λ_ _ e=>e)) (λ_ r hq=>wpAny_pure (wpAny_pure hq)) λ_ _ e=>e)
 obtain⟨it,fp,tn,J,H2,rfl,G,T,U,N,W,w0,O⟩:=h2
 refine Yb (F:=λf H=>∀p,H p=none->j.nx (M.set i (some (.ref p))) (upd H p (.lst f))) (RR:=λf C=>compPost (model X.prog X.w) X.A X.xe (some (assign (.Name y K) X.env)) (λ_ r=>SP X d j .next r) f C) L hc hg ht he c1 c2 G T U N W w0 O ?_
 intro D C r f V n Y m hD P Z hn hDo rv hz k hC' ho hg' l hk q;have S:HOk X.prog X.w (upd Y D (.lst f)) r.heap:=hk.track k ⟨hz,V,n,rv,hDo⟩
 have neD:∀b o,s2.heap.get? b=some o->b≠D:=λb o e=>Nat.ne_of_lt (Nat.lt_of_lt_of_le (Heap.lt_size e) hD)
 have u2:Un (frs X.stack) fp H2 (upd Y D (.lst f)) s2.heap r.heap :=
  ⟨
   l.keep,l.slot,λb o e n1 n2=>by rw[Ah (neD b o e)];exact l.free b o e n1 n2,l.there,
   λb xs e=>by rw[Ah (Bk (l.tups b xs e) k)];exact l.tups b xs e,λb o u e=>by rw[Ah (Bk (l.frzs b o u e) k)];exact l.frzs b o u e,
   λb ps e=>by rw[Ah (Bk (l.tbls b ps e) k)];exact l.tbls b ps e⟩
 have I3:Inv X d M (upd Y D (.lst f)) r:=G.call' ho u2 S hg' (λb E=>⟨(N b E).2.2.2.1,(N b E).2.1,(N b E).2.2.2.2.1,(N b E).2.2.2.2.2⟩)
 have hCL:C≠X.env.locals:=Nat.ne_of_gt (Nat.lt_of_lt_of_le G.lt P)
 have hCc:∀x c,X.env.cells.lookup x=some c->c≠C:=λx c e z=>by
  obtain⟨v,w⟩:=G.cell x c e
  exact absurd (Nat.lt_of_lt_of_le w.lt (by rw[z];exact P)) (Nat.lt_irrefl _)
 have hCp:∀p∈X.pn++d,p.1≠C:=λp hp z=>absurd (Nat.lt_of_lt_of_le (Heap.lt_size (G.pin p hp).1) (by rw[z];exact P)) (Nat.lt_irrefl _)
 refine wpAny_assign_Name (Vh (v:=.ref D) I3 hN hi' hy rfl (λs4 I4 ⟨a,sb,ha⟩=>?_) hf)
 have hCa:C≠a:=by
  grind
 refine⟨m,hn.sameBut sb hCa,λh' R=>?_⟩
 refine⟨_,_,I4.turned (λb o E e=>R.extBut b o E e) ?_ hCL (.inr (Nat.le_trans G.sz P)) hCc hCp,q D k⟩
 rw[Ah (Ne.symm Z)];exact hC'
end
def LcW (J:It)(g:TG)(tc:TT)(te:TE)(Q:VK)(σ0:St)(H:Hp):Prop :=
 ∃
  W:Nat->Nat->St->List V->Hp->Prop,(∃m,W 0 m σ0 [] H)/\∀i m σ' acc H,W i m σ' acc H ->
  (J.stop i H/\∀p,H p=none->Q (.ref p) (upd H p (.lst acc))) \/
  (J.go i H/\acc.length<sizeLine/\∃N:St->List V->Hp->Prop,(∀σ' acc' H',N σ' acc' H'->∃m',m'<m/\W (i+1) m' σ' acc' H')/\∀x H',J.yld i H x H'->g x σ' H' λσ2 H2=>tc σ2 H2 λb H3 =>
   if b=true then te σ2 H3 λy H4=>N σ2 (acc++[y]) H4 else N σ2 acc H3)
theorem A5r {K:PySem.W.Frag}{a:Addr}{xs:List V}{g:TG}{tc:TT}{te:TE}{σ0:St}{H:Hp}{Q:VK}(Pv:Nat->St->List V->Hp->Prop)(h0:Pv 0 σ0 [] H)(hl:∀i σ acc H,i<=xs.length->Pv i σ acc H->SqL K H a xs/\acc.length<=i)(hz:xs.length<=sizeLine)
 (hs:∀i x σ acc H,xs[i]?=some x->Pv i σ acc H->g x σ H λσ2 H2=>tc σ2 H2 λb H3=>if b=true then te σ2 H3 λy H4=>Pv (i+1) σ2 (acc++[y]) H4 else Pv (i+1) σ2 acc H3)
 (hd:∀σ acc H,Pv xs.length σ acc H->∀p,H p=none->Q (.ref p) (upd H p (.lst acc))):LcW (Itl K a) g tc te Q σ0 H:=by
 refine⟨λi m σ acc H=>m=xs.length-i/\i<=xs.length/\Pv i σ acc H,⟨xs.length,by simp,Nat.zero_le _,h0⟩,?_⟩
 rintro i m σ acc H ⟨rfl,hi,p⟩
 obtain⟨q,ql⟩:=hl i σ acc H hi p
 by_cases hlt:i<xs.length
 ·refine .inr ⟨⟨xs,xs[i],q,by simp[hlt]⟩,by omega,Pv (i+1),λσ acc H w=>⟨xs.length-(i+1),by omega,rfl,hlt,w⟩,λx H' y=>?_⟩
  obtain⟨e,y⟩:=y;subst e;exact hs i x σ acc _ (y xs q) p
 ·have e:i=xs.length:=by omega
  subst e;exact .inl ⟨⟨xs,q,Nat.le_refl _⟩,hd σ acc H p⟩
section
variable {X:Cx}
noncomputable def Mj (H:Hp):V->Option String
 | .non=>some "NoneType" | .bl _=>some "bool" | .int _=>some "int" | .str _=>some "str"
 | .ref a=>match H a with
  | some (.lst _)=>some "list"
  | some (.tup _)=>some "tuple"
  | some (.dK _)=>some "dict"
  | some (.dT _)=>some "dict"
  | _=>none
 | _=>none
section
variable {X:Cx}{pins:List (Addr×Obj)}{σ:St}{H:Hp}{s:Shared}
theorem A0r (I:Inv X pins σ H s) (f:RelV x u) (h:Mj H x=some t):∃hp:Heap->Prop,PySem.W.KitX X.K u (.type t) hp/\hp s.heap/\u≠.builtin "__main__.__loader__#opaque" := by
 cases x with
 | non=>cases h;cases (f);exact⟨_,PySem.W.kitx_none,True.intro,λz=>nomatch z⟩
 | bl b=>cases h;cases (f);exact⟨_,PySem.W.kitx_bool,True.intro,λz=>nomatch z⟩
 | int i=>cases h;obtain⟨t,rfl⟩:=f;exact⟨_,PySem.W.kitx_int,True.intro,λz=>nomatch z⟩
 | str y=>cases h;obtain⟨t,rfl⟩:=f;exact⟨_,PySem.W.kitx_str,True.intro,λz=>nomatch z⟩
 | ref a =>
  cases (f)
  have c:∀T,PySem.W.KitX X.K (.ref a) (.type T) (PySem.W.KitAt a T)->PySem.W.KitAt a T s.heap->some T=some t->∃hp:Heap->Prop,PySem.W.KitX X.K (.ref a) (.type t) hp/\hp s.heap/\Value.ref a≠.builtin "__main__.__loader__#opaque" := λT k p q=>by grind
  have h:(match H a with | some (.lst _)=>some _ | some (.tup _)=>some _ | some (.dK _)=>some _ | some (.dT _)=>some _ | _=>none)=some t:=h
  split at h
  ·rename_i l e
   obtain⟨_,_,n,_,d⟩:=(show zA _ _ H _ a _ from I.hok a _ e)
   exact c _ PySem.W.kitx_list ⟨_,d,rfl⟩ h
  ·rename_i l e
   obtain⟨_,_,_,o,d,g,_⟩:=(show zA _ _ H _ a _ from I.hok a _ e)
   exact c _ PySem.W.kitx_tuple ⟨o,d,g⟩ h
  ·rename_i j e
   obtain⟨_,_,vs,_,o,r,m,d,g,_⟩:=(show zA _ _ H _ a _ from I.hok a _ e)
   exact c _ PySem.W.kitx_dict ⟨o,d,g.1⟩ h
  ·rename_i j e
   obtain⟨_,_,l,_,o,r,m,d,g,_⟩:=(show zA _ _ H _ a _ from I.hok a _ e)
   exact c _ PySem.W.kitx_dict ⟨o,d,g.1⟩ h
  grind
 | byt b=>cases h
 | flt b=>cases h
 | ty n=>cases h
end
noncomputable def Dz (t T:String):Option Bool:=if ["NoneType", "bool", "int", "str", "list", "tuple", "dict"].contains t&&["int", "str", "bool", "list", "tuple"].contains T then some (t==T||(t == "bool" && T == "int")) else none
theorem Ze {K:PySem.W.Frag} (h:Dz t T=some b):PySem.W.kitOne K (.type t) (.type T)=some b:=by
 unfold Dz at h
 split at h
 ·rename_i a
  cases h
  simp only[Bool.and_eq_true,List.contains_iff_mem,List.mem_cons,List.not_mem_nil,or_false]at a;obtain⟨c,d⟩:=a
  rcases c with rfl | rfl | rfl | rfl | rfl | rfl | rfl <;> rcases d with rfl | rfl | rfl | rfl | rfl <;> with_unfolding_all rfl
 ·cases h
theorem A2n:zE X (.builtin "isinstance") (λxs H Q=>∃x T t b,xs=[x,.ty T]/\Mj H x=some t/\Dz t T=some b/\Q (.bl b) H):=by
 intro a s σ H xs us Q I r h;obtain⟨x,T,t,b,rfl,f,c,q⟩:=h;obtain⟨u,v,rfl,e,d⟩:=Vals.two r
 cases (d)
 obtain⟨hp,z,p,g⟩:=A0r I e f
 exact PySem.W.kia_one z I.kIn p (Ze c) g λtk=>⟨.bl b,H,I.tok _,rfl,q⟩
theorem walk_seq (m:A.handled=none) (I:Inv X pins d H s) (h:SqL X.K H a xs)
 (k:∀(c:List Value) (J:Addr) (s2:Shared),Vals xs c->Walks X.prog X.w A J [J,a] [J] c.length (λi v=>c[i]?=some v) (λi h=>h.IsListIter J a i/\h.IsList a c.toArray)->s2.heap.IsListIter J a 0/\s2.heap.IsList a c.toArray->(∀b∈[J,a],b<s2.heap.objs.size) ->
  Inv X pins d H s2->(∀f l,(∀b o,b∉[J]->s2.heap.get? b=some o->f.get? b=some o)->Inv X pins d H { s2 with heap:=f,toks:=l })->R (.ref J) s2) :
 wpAny (model X.prog X.w) A (pyIter (.ref a)) R E s:=by
 obtain⟨c,n,p,D⟩:=I.list h
 refine wpAny_pyIter_list p.isList ?_
 have u:a<s.heap.objs.size:=let ⟨_,e,_⟩:=p.isList; Heap.lt_size e
 have g:a≠s.heap.objs.size:=Nat.ne_of_lt u;have W:=Walks.list (prog:=X.prog) (w:=X.w) (A:=A) m s.heap.objs.size a g c.toArray;rw[List.size_toArray]at W
 have j:Inv X pins d H { s with heap:=s.heap.push { cls:=.type "list_iterator",data:=.fields #[.ref a,.int 0 0] } }:=I.kept (t':=s.toks) λb o e=>Heap.get?_push_of_some _ e
 refine k c s.heap.objs.size _ n (by simp_all) ⟨⟨_,Heap.get?_push_size _ rfl,rfl,rfl⟩,let ⟨o,e,r⟩:=p.isList; ⟨o,Heap.get?_push_of_some _ e,r⟩⟩ ?_ j λf l x=>?_
 ·intro b z
  have e:=Heap.size_push s.heap { cls:=.type "list_iterator",data:=.fields #[.ref a,.int 0 0] }
  grind
 ·obtain⟨q,B,F,y,C,t⟩:=(I.fpOk (b:=s.heap.objs.size) (Nat.le_refl _) (I.hok.fresh (Nat.le_refl _)))
  exact j.turned (λb o z e=>x b o (by simp_all) e) q B y C t
theorem Z5 {bs:List Bool}(r:Vals (bs.map V.bl) a):TruthOf X.prog X.w A (λi v=>a[i]?=some v) (λi=>bs.getD i false):=by
 intro i v s Q E c b;have h := (List.getElem?_eq_some_iff.mp c).1
 have g:i<bs.length:=by have:=r.length;simp_all
 obtain⟨u,d,f⟩:=r.get (i:=i) (x:=V.bl bs[i]) (by simp_all)
 rw[c]at d
 cases d
 cases (show v=Value.bool _ from f)
 have e:bs.getD i false=bs[i]:=by simp_all
 have b:Q (bs.getD i _) s:=b;rw[e]at b;exact wpAny_truthy_bool b
theorem range_all (bs:List Bool):(List.range bs.length).all (λi=>bs.getD i false)=bs.all id:=by
 rw[Bool.eq_iff_iff];simp only[List.all_eq_true,List.mem_range]
 constructor
 ·intro h b d
  obtain⟨i,a,c⟩:=List.getElem_of_mem d
  simp_all
 ·intro h i a
  simpa[a] using h _ (List.getElem_mem _)
theorem As8 (hc:X.calm=true):zE X (.builtin "all") (λxs H Q=>∃(a:Addr) (b:List Bool),xs=[.ref a]/\SqL X.K H a (b.map V.bl)/\Q (.bl (b.all id)) H):=by
 intro d s σ H xs us Q I r h;obtain⟨a,b,rfl,i,q⟩:=h;obtain⟨u,rfl,g⟩:=vals1 r
 cases (g)
 refine call_all_walk (walk_seq (I.ok.hd hc) I i λc J s2 f W l hb I2 k=>⟨J,_,_,_,_,_,_,rfl,W,l,Z5 f,λh' tk j=>?_⟩)
 have e:c.length=b.length:=by rw[<- f.length,List.length_map]
 rw[e,range_all];exact⟨.bl _,H,k _ _ j,rfl,q⟩
end
mutual
def Tr (H:Hp):PyData->V->Prop
 | .none,v=>v=.non
 | .bool b,v=>v=.bl b
 | .int i,v=>v=.int i
 | .str x,v=>v=.str x
 | .list ds,v=>∃a vs,v=.ref a/\H a=some (.lst vs)/\TrL H ds vs
 | .tuple ds,v=>∃a vs,v=.ref a/\H a=some (.tup vs)/\TrL H ds vs
 | .dict _,_=>False
def TrL (H:Hp):List PyData->List V->Prop
 | [],vs=>vs=[]
 | d::ds,vs=>∃v r,vs=v::r/\Tr H d v/\TrL H ds r
end
theorem TrL.length {H:Hp}:∀{ds:List PyData}{vs:List V},TrL H ds vs->ds.length=vs.length
 | [],_,h=>by cases (show _=[] from h);rfl
 | d::ds,_,h=>by
  obtain⟨v,r,rfl,_,t⟩:=h;rw[List.length_cons,List.length_cons,TrL.length t]
mutual
theorem Tr.same {H H':Hp}(S:Same H H'):∀{d:PyData}{v:V},Tr H d v->Tr H' d v
 | .none,_,h=>h
 | .bool _,_,h=>h
 | .int _,_,h=>h
 | .str _,_,h=>h
 | .list ds,_,⟨a,vs,e,ha,t⟩=>⟨a,vs,e,S _ _ ha,TrL.same S t⟩
 | .tuple ds,_,⟨a,vs,e,ha,t⟩=>⟨a,vs,e,S _ _ ha,TrL.same S t⟩
theorem TrL.same {H H':Hp}(S:Same H H'):∀{ds:List PyData}{vs:List V},TrL H ds vs->TrL H' ds vs
 | [],_,h=>h
 | d::ds,_,⟨v,r,e,h,t⟩=>⟨v,r,e,Tr.same S h,TrL.same S t⟩
end
def A3l (H H':Hp):Prop:=∀b xs,H b=some (.tup xs)->H' b=some (.tup xs)
section
variable {X:Cx}{pins:List (Addr×Obj)}{σ:St}{H:Hp}{s:Shared}
mutual
theorem Tr.reads (I:Inv X pins σ H s):∀{d:PyData}{v:V}{u:Value},Tr H d v->RelV v u->∃as,Reads s.heap u d as
 | .none,_,u=>λh r=>by
  cases (show _=V.non from h)
  cases (show u=Value.none from r)
  exact⟨_,.none⟩
 | .bool b,_,u=>λh r=>by
  cases (show _=V.bl b from h)
  cases (show u=Value.bool b from r)
  exact⟨_,.bool b⟩
 | .int i,_,u=>λh r=>by
  cases (show _=V.int i from h)
  obtain⟨t,rfl⟩:=r;exact⟨_,.int i t⟩
 | .str x,_,u=>λh r=>by
  cases (show _=V.str x from h)
  obtain⟨t,rfl⟩:=r;exact⟨_,.str x t⟩
 | .list ds,_,u=>λh r=>by
  obtain⟨a,vs,rfl,ha,t⟩:=h
  cases (show u=Value.ref a from r)
  obtain⟨z,its,n,rv,e⟩:=I.hok a _ ha;obtain⟨as,q⟩:=TrL.reads I t rv
  exact⟨_,.list e rfl rfl (by simpa using q)⟩
 | .tuple ds,_,u=>λh r=>by
  obtain⟨a,vs,rfl,ha,t⟩:=h
  cases (show u=Value.ref a from r)
  obtain⟨z,its,rv,o,e,c,⟨n,dt⟩,_⟩:=I.hok a _ ha;obtain⟨as,q⟩:=TrL.reads I t rv
  exact⟨_,.tuple e c dt (by simpa using q)⟩
 | .dict k,_,u=>λh r=>False.elim h
theorem TrL.reads (I:Inv X pins σ H s):∀{ds:List PyData}{vs:List V}{us:List Value},TrL H ds vs->Vals vs us->∃as,ReadsAll s.heap us ds as
 | [],_,us=>λh r=>by
  cases (show _=[] from h)
  cases r
  exact⟨_,.nil⟩
 | d::ds,_,us=>λh r=>by
  obtain⟨v,vs,rfl,hv,t⟩:=h
  cases r with
  | cons r1 r2 =>
   obtain⟨as,q⟩:=Tr.reads I hv r1;obtain⟨bs,p⟩:=TrL.reads I t r2;exact⟨_,.cons q p⟩
end
end
def Flat (d:PyData):Prop:=d.canLay0=true/\d.depth<=40
section
variable {X:Cx}
theorem A7h (hu:u+64<c) (hb:b<=40):u+min a b<c:=Nat.lt_of_le_of_lt (Nat.add_le_add_left (Nat.le_trans (Nat.min_le_right a b) (Nat.le_trans hb (by decide))) u) hu
theorem V0 (hu:u+64<c) (hb:b<=40):u+1+min a b<c:=Nat.lt_of_le_of_lt (Nat.le_trans (Nat.add_le_add_left (Nat.le_trans (Nat.min_le_right a b) hb) _) (Nat.add_le_add_left (show 1+40<=64 by decide) u)) hu
theorem Ba1 (hu:X.A.units+64<cLine):OpR X (compareOp .Eq) (λx y H Q=>∃a b,Tr H a x/\Tr H b y/\Flat a/\Flat b/\Q (.bl (PyData.eqv a b)) H):=by
 intro c s n H x y v u Q I g f h;obtain⟨a,b,i,j,k,d,q⟩:=h;obtain⟨m,l⟩:=i.reads I g;obtain⟨o,e⟩:=j.reads I f;exact SeqAt.compareEq_reads l e k.1 d.1 (A7h hu d.2) ⟨.bl _,H,I,rfl,q⟩
theorem A8u (hu:X.A.units+64<cLine):OpR X (compareOp .NotEq) (λx y H Q=>∃a b,Tr H a x/\Tr H b y/\Flat a/\Flat b/\Q (.bl (!PyData.eqv a b)) H):=by
 intro c s n H x y v u Q I g f h;obtain⟨a,b,i,j,k,d,q⟩:=h;obtain⟨m,l⟩:=i.reads I g;obtain⟨o,e⟩:=j.reads I f;exact SeqAt.compareNe_reads l e k.1 d.1 (A7h hu d.2) ⟨.bl _,H,I,rfl,q⟩
theorem Ba5 (hu:X.A.units+64<cLine):OpR X (compareOp .In) (λx y H Q=>∃d a,Tr H d x/\(Tr H (.list a) y\/Tr H (.tuple a) y)/\Flat d/\PyData.canLayAll0 a=true/\Q (.bl (a.any λe=>PyData.eqv e d)) H):=by
 intro i s o H x y v u Q I n g h;obtain⟨d,a,l,b,c,j,q⟩:=h;obtain⟨p,k⟩:=l.reads I n
 rcases b with b | b
 ·obtain⟨m,f⟩:=b.reads I g
  exact SeqAt.in_list_reads f k j c.1 (V0 hu c.2) ⟨.bl _,H,I,rfl,q⟩
 ·obtain⟨m,f⟩:=b.reads I g
  exact SeqAt.in_tuple_reads f k j c.1 (V0 hu c.2) ⟨.bl _,H,I,rfl,q⟩
theorem As0 (hu:X.A.units+64<cLine):OpR X (compareOp .NotIn) (λx y H Q=>∃d ds,Tr H d x/\(Tr H (.list ds) y\/Tr H (.tuple ds) y)/\Flat d/\PyData.canLayAll0 ds=true/\Q (.bl (!ds.any λe=>PyData.eqv e d)) H):=by
 intro g s σ H x y v u Q I m f h;obtain⟨d,ds,k,a,b,i,q⟩:=h;obtain⟨as,j⟩:=k.reads I m
 rcases a with a | a
 ·obtain⟨l,c⟩:=a.reads I f
  exact SeqAt.notIn_list_reads c j i b.1 (V0 hu b.2) ⟨.bl _,H,I,rfl,q⟩
 ·obtain⟨l,c⟩:=a.reads I f
  exact SeqAt.notIn_tuple_reads c j i b.1 (V0 hu b.2) ⟨.bl _,H,I,rfl,q⟩
end
mutual
noncomputable def Ae1 (gt:Bool):PyData->PyData->Option Bool
 | .int i,.int j=>some (if gt then decide (j<i) else decide (i<j))
 | .str i,.str j=>some (if gt then decide (j.cps.toList<i.cps.toList) else decide (i.cps.toList<j.cps.toList))
 | .tuple xs,.tuple ys=>Bg7 gt xs ys
 | _,_=>none
noncomputable def Bg7 (gt:Bool):List PyData->List PyData->Option Bool
 | [],[]=>some false
 | [],_::_=>some (!gt)
 | _::_,[]=>some gt
 | x::xs,y::ys=>if PyData.eqv x y=true then Bg7 gt xs ys else Ae1 gt x y
end
noncomputable def As6 (H:Hp):V->Option Nat
 | .ref p=>match H p with
  | some (.lst xs)=>some xs.length
  | some (.tup xs)=>some xs.length
  | _=>none
 | .str z=>if z.length<=sizeLine then some z.length else none
 | _=>none
def rAppF:V->List V->Hp->VK->Prop:=λx vs H Q=>∃l y xs,x=.ref l/\vs=[y]/\H l=some (.lst xs)/\xs.length<sizeLine/\Q .non (upd H l (.lst (xs++[y])))
def W7 (K:PySem.W.Frag)(tl:TE):TI:=λσ H R=>tl σ H λx H1=>∃a,x=.ref a/\((∃xs,H1 a=some (.lst xs)/\R (Itl K a) H1)\/(∃xs,H1 a=some (.tup xs)/\R (Itt K a) H1))
section
variable {X:Cx}
theorem Ap2:zE X (.builtin "len") (λxs H Q=>∃x n,xs=[x]/\As6 H x=some n/\Q (.int (n:Nat)) H):=by
 intro a s σ H xs us Q I r h;obtain⟨x,n,rfl,e,q⟩:=h
 refine Z9 _ s _ H _ _ Q I r ⟨x,n,rfl,?_,q⟩
 cases x with
 | ref p =>
  have e:(match H p with | some (.lst _)=>some _ | some (.tup _)=>some _ | _=>none)=some n:=e
  cases hp:H p with
  | none=>simp_all
  | some o =>
   rw[hp]at e
   cases o with
   | lst xs=>cases e;exact .inl ⟨xs,SqL.of hp,rfl⟩
   | tup xs=>cases e;exact .inr ⟨xs,SqT.of hp,rfl⟩
   | _=>grind
 | str z =>
  have e:(if z.length<=sizeLine then some _ else none)=some n:=e
  split at e
  ·cases e;trivial
  trivial
 | _=>cases e
theorem A5i:MtM X "list.append" rAppF:=by
 intro a s j H x k v m Q I e f h;obtain⟨l,y,d,c,g,i,b,q⟩:=h;exact Au9 _ s _ H x _ v _ Q I e f ⟨l,d,y,c,g,i,b,q⟩
theorem Bd8 (hl:PE X l j):PI X u l (W7 X.K j):=by
 intro k s z H R I h
 refine thn (hl _ s _ H _ I h) λv d ⟨x,m,c,r,f⟩=>?_
 obtain⟨a,e,f⟩:=f;subst e
 cases r
 rcases f with ⟨t,i,q⟩ | ⟨t,i,q⟩
 ·obtain⟨g,w,p,y⟩:=c.list (SqL.of i)
  refine wpAny_pyIter_list p.isList ?_
  refine⟨d.heap.objs.size,[d.heap.objs.size],_,_,m,rfl,c.kept λb o e=>Heap.get?_push_of_some _ e,Ap0 a _,⟨_,Heap.get?_push_size _ rfl,rfl,rfl⟩,λb n=>?_,q⟩
  have e:b=d.heap.objs.size:=by grind
  subst e;exact c.fpOk (Nat.le_refl _) (c.hok.fresh (Nat.le_refl _))
 ·obtain⟨g,w,p,y⟩:=c.tuple (SqT.of i)
  refine wpAny_pyIter_tuple (show d.heap.IsTuple a _ from p) ?_
  refine⟨d.heap.objs.size,[d.heap.objs.size],_,_,m,rfl,c.kept λb o e=>Heap.get?_push_of_some _ e,Af7 a _,⟨_,Heap.get?_push_size _ rfl,rfl,rfl⟩,λb n=>?_,q⟩
  have e:b=d.heap.objs.size:=by grind
  subst e;exact c.fpOk (Nat.le_refl _) (c.hok.fresh (Nat.le_refl _))
def Ka (t:String):List String->Option Bool
 | []=>some false
 | T::r=>match Dz t T with
  | some true=>some true
  | some false=>Ka t r
  | none=>none
theorem Sw {K:PySem.W.Frag}{t:String}:∀{Ts:List String}{b:Bool},Ka t Ts=some b->PySem.W.kitAny K (.type t) (Ts.map Value.type)=some b
 | [],b,h=>h
 | T::r,b,h=>by
  have h:(match Dz t T with | some true=>some true | some false=>Ka t r | none=>none)=some b:=h
  show (match PySem.W.kitOne K (.type t) (.type T) with | some true=>some true | some false=>PySem.W.kitAny K (.type t) (r.map Value.type) | none=>none)=some b
  cases e:Dz t T with
  | none=>rw[e]at h;cases h
  | some k =>
   rw[e]at h;rw[Ze e]
   cases k with
   | true=>exact h
   | false=>exact Sw h
theorem Yc:∀{Ts:List String}{us:List Value},Vals (Ts.map V.ty) us->us=Ts.map Value.type
 | [],_,.nil=>rfl
 | T::r,_,.cons h t=>by
  cases (show _=Value.type T from h)
  rw[Yc t]
  rfl
theorem As2:zE X (.builtin "isinstance") (λxs H Q=>∃x p a t b,xs=[x,.ref p]/\H p=some (.tup (a.map V.ty))/\Mj H x=some t/\Ka t a=some b/\Q (.bl b) H):=by
 intro e s σ H xs us Q I r h;obtain⟨x,p,a,t,b,rfl,d,E,j,q⟩:=h;obtain⟨u,v,rfl,k,l⟩:=Vals.two r
 cases (l)
 obtain⟨z,m,w,o,y,A,⟨n,B⟩,C⟩:=I.hok p _ d;have D:=Yc w;subst D;obtain⟨F,dd,f,sl⟩:=o;subst A B
 have c:∀g,EP X _ _ Q _ { s with toks:=g }:=λg=>⟨.bl b,H,I.tok _,rfl,q⟩
 obtain⟨d,z,p,i⟩:=A0r I k E;exact PySem.W.kia_tup z I.kIn p y (Sw j) i c
theorem Av4:OpR X (compareOp .LtE) (λx y H Q=>∃i j,x=.str i/\y=.str j/\Q (.bl (!decide (j.cps.toList<i.cps.toList))) H):=by
 intro a s σ H x y v u Q I b c h;obtain⟨i,j,rfl,rfl,q⟩:=h;obtain⟨t,rfl⟩:=b;obtain⟨t',rfl⟩:=c
 exact PySem.P.le_str (Ce I q (by simp))
end
theorem A1w:bootBuiltins "len" = some (.builtin "len"):=by decide +kernel
theorem A8z:bootBuiltins "abs" = some (.builtin "abs"):=by decide +kernel
theorem Mh:bootBuiltins "isinstance" = some (.builtin "isinstance"):=by decide +kernel
theorem A9l:bootBuiltins "all" = some (.builtin "all"):=by decide +kernel
theorem Bc9:bootBuiltins "min" = some (.builtin "min"):=by decide +kernel
theorem Ad0:bootBuiltins "int" = some (.type "int"):=by decide +kernel
theorem S5:bootBuiltins "str" = some (.type "str"):=by decide +kernel
theorem Rg:bootBuiltins "bool" = some (.type "bool"):=by decide +kernel
theorem Kf:bootBuiltins "list" = some (.type "list"):=by decide +kernel
theorem Gs:bootBuiltins "tuple" = some (.type "tuple"):=by decide +kernel
theorem Bb2:bootBuiltins "set" = some (.type "set"):=by decide +kernel
theorem A3a:bootBuiltins "range" = some (.type "range"):=by decide +kernel
theorem Eu {X:Cx}{N':List Str}{idx:List (Option Nat)}{scope:Scope}(h1:scope.kind=.function:=by exact rfl)(h3:(scope.names.map (·.1)).Nodup:=by decide +kernel)
 (h4:(scope.names.all λy=>decide (y.2≠.free)||decide (X.env.kindOf y.1=some .cell)||decide (X.env.kindOf y.1=some .free))=true:=by exact rfl) (h5:idx.length=N'.length:=by exact rfl)
 (h6:((idx.zip N').all λp=>match p.1 with | none=>true | some i=>decide (X.N[i]?=some p.2)&&decide (scope.names.lookup p.2=some .free))=true:=by exact rfl):Ip X N' idx scope where
 kind:=h1
 nod:=h3
 free:=λy hy hf=>by
  have h:=List.all_eq_true.mp h4 y hy;simp only[Bool.or_eq_true,decide_eq_true_eq]at h
  rcases h with (h | h) | h
  ·exact absurd hf h
  ·exact .inl h
  ·exact .inr h
 len:=h5
 at':=λj i x e1 e2=>by
  have hz:(some i,x)∈idx.zip N':=by
   have:(idx.zip N')[j]?=some (some i,x):=by simp[List.getElem?_zip_eq_some,e1,e2]
   exact List.mem_of_getElem? this
  have h:=List.all_eq_true.mp h6 _ hz;simp only[Bool.and_eq_true,decide_eq_true_eq]at h;exact h
noncomputable def Tz:Expr->Option V
 | .Constant (.int i) _ _=>some (.int i)
 | .Constant (.str x) _ _=>some (.str x)
 | .Constant (.bool b) _ _=>some (.bl b)
 | .Constant .none _ _=>some .non
 | _=>none
def Nq:List Expr->Option (List V)
 | []=>some []
 | e::es=>match Tz e,Nq es with
  | some v,some vs=>some (v::vs)
  | _,_=>none
def tK (vs:List V):TA:=λ_ H Q=>Q vs H
theorem A2h (h:Tz e=some v):PE X e (tC v)/\∀es,starEach (e::es) X.env=(false,eval e X.env)::starEach es X.env:=by
 unfold Tz at h
 split at h <;> first
  | (cases h;exact⟨Ax8,λ_=>rfl⟩)
  | (cases h;exact⟨Az0,λ_=>rfl⟩)
  | (cases h;exact⟨A7f,λ_=>rfl⟩)
  | (cases h;exact⟨A2y,λ_=>rfl⟩)
  | cases h
theorem Va {X:Cx}:∀{es:List Expr}{vs:List V},Nq es=some vs->PA X es (tK vs)
 | [],vs,h=>by cases h;exact Nh
 | e::es,vs,h=>by
  have h:(match Tz e,Nq es with | some v,some vs=>some (v::vs) | _,_=>none)=some vs:=h
  cases e1:Tz e with
  | none=>rw[e1]at h;cases h
  | some v =>
   cases e2:Nq es with
   | none=>rw[e1,e2]at h;cases h
   | some r =>
    rw[e1,e2]at h
    cases h
    obtain⟨p1,p2⟩:=A2h (X:=X) e1;exact Aj9 p1 (Va e2) (p2 es)
noncomputable def isStar:Expr->Bool
 | .Starred ..=>true
 | _=>false
def noStar:List Expr->Bool
 | []=>true
 | e::es=>!isStar e&&noStar es
theorem G9 (h:isStar e=false):starEach (e::es) env=(false,eval e env)::starEach es env:=by
 cases e <;> first | rfl | cases h
theorem Kc {pos:Pos}{env:Env}:∀{es:List Expr},noStar es=true->(backTo pos (starEach es env)).any (·.1)=false
 | [],_=>rfl
 | e::es,h=>by
  obtain⟨h1,h2⟩:=Bool.and_eq_true_iff.mp h
  rw[G9 (by simpa using h1)]
  show (false||(backTo pos (starEach es env)).any (·.1))=false
  rw[Kc h2]
  rfl
theorem Ga (h:noStar (e::es)=true):isStar e=false/\noStar es=true:=by
 obtain⟨b,a⟩:=Bool.and_eq_true_iff.mp h
 simp_all
section
variable {X:Cx}{CX:CXT}{k:Nat}{f:Addr}{fd:FuncData}{ps:List Str}{sp:Sp}{dvs:List V}{ds:List Value}{E:XK}{x:Str}{p pos:Pos}{e:Expr}{es:List Expr}{te:TE}{t:TA}{id T:String}{r:List V->Hp->VK->Prop}
theorem Ao8 (ha:PE X e te)(hr:PA X es t)(hs:isStar e=false:=by rfl):PA X (e::es) (Cd te t):=Aj9 ha hr (G9 hs)
theorem A0l (F:FnOk X.prog X.w X.K X.mg X.base CX k f fd ps sp)(hr:Room k X.A)(hg:Gl X x)(hm:X.mg x=some (.ref f))(hk:PySem.W.keepIn X.K (.ref f)=true)(hb:Binds X.K fd ps ds)(hd:Vals dvs ds)(hx:Ul CX X E)
 (ha:PA X (e::es) t) (hdb:(x==("__debug__" : Str))=false:=by decide) (hn:noStar (e::es)=true:=by rfl):PE X (.Call (.Name x p) (e::es) [] pos) (Z6 sp dvs E t) :=
 A4d F hr hg hm hk hb hd hx ha hdb (G9 (Ga hn).1) (Kc (Ga hn).2)
theorem Gy (hc:zE X (.builtin id) r)(hg:Gl X x)(hm:X.mg x=none)(hv:bootBuiltins x=some (.builtin id))(ha:PA X (e::es) t)(hn:x ≠ "__name__" := by decide) (hdb:(x==("__debug__" : Str))=false:=by decide)
 (hns:noStar (e::es)=true:=by rfl):PE X (.Call (.Name x p) (e::es) [] pos) (tCB r t):=A1p hc hg hm hv ha hn hdb (G9 (Ga hns).1) (Kc (Ga hns).2)
theorem Gz (hc:zE X (.type T) r)(hg:Gl X x)(hm:X.mg x=none)(hv:bootBuiltins x=some (.type T))(ha:PA X (e::es) t)(hn:x ≠ "__name__" := by decide) (hdb:(x==("__debug__" : Str))=false:=by decide)
 (hns:noStar (e::es)=true:=by rfl):PE X (.Call (.Name x p) (e::es) [] pos) (tCB r t):=Aq1 hc hg hm hv ha hn hdb (G9 (Ga hns).1) (Kc (Ga hns).2)
end
section
variable {X:Cx}{a b e:Expr}{es:List Expr}{ta tb te:TE}{t:TA}{p pos apos cpos:Pos}
theorem Fb {b:List Keyword}{a:Pos}:J8 (.Call f args b a):=λ_ _=>rfl
theorem Rz {a:Pos}:J8 (.Name x a):=λ_ _=>rfl
theorem Bc {a:Pos}:J8 (.Constant (.int i) j a):=λ_ _=>rfl
theorem Aq4 : J8 (.Subscript a b c):=λ_ _=>rfl
theorem A2v {b:Pos}:J8 (.UnaryOp op a b):=λ_ _=>rfl
theorem Jq (ha:QE X a ta)(hb:QE X b tb):QE X (.BinOp a .Sub b pos) (tOp (rI0 λi j=>.int (i-j)) ta tb):=⟨Tw Bf2 ha.1 hb.1⟩
theorem Hv (ha:QE X a ta)(hb:QE X b tb):QE X (.BinOp a .Mult b pos) (tOp (rI CMul λi j=>.int (i*j)) ta tb):=⟨Tw Ba8 ha.1 hb.1⟩
theorem Uc (ha:QE X a ta)(hb:QE X b tb):QE X (.BinOp a .FloorDiv b pos) (tOp (rI A6w λi j=>.int (i / j)) ta tb):=⟨Tw A3v ha.1 hb.1⟩
theorem G4 (ha:QE X a ta)(hb:QE X b tb):QE X (.BinOp a .Mod b pos) (tOp (rI (λ_ j=>0<j) λi j=>.int (i % j)) ta tb):=⟨Tw Ba9 ha.1 hb.1⟩
theorem Qq (ha:QE X a ta)(hb:QE X b tb):QE X (.BinOp a .Pow b pos) (tOp (rI A4q λi j=>.int (i ^ j.toNat)) ta tb):=⟨Tw Bc2 ha.1 hb.1⟩
theorem Av1 (ha:QE X a ta)(hb:QE X b tb):QE X (.BinOp a .Mult b pos) (tOp (Bb7) ta tb):=⟨Tw Bb9 ha.1 hb.1⟩
def Bn2:R2:=λx y H Q=>∃da db,Tr H da x/\Tr H db y/\Flat da/\Flat db/\Q (.bl (PyData.eqv da db)) H
def Bn1:R2:=λx y H Q=>∃da db,Tr H da x/\Tr H db y/\Flat da/\Flat db/\Q (.bl (!PyData.eqv da db)) H
theorem Aa0 (ha:QE X a ta)(hb:QE X b tb):QT X (.Compare a [.Lt] [b] pos) (Np (tOp (rI0 λi j=>.bl (decide (i<j))) ta tb)):=⟨Kg Bi8 ha.1 hb.1 (Ji _)⟩
theorem Zn (ha:QE X a ta)(hb:QE X b tb):QT X (.Compare a [.Gt] [b] pos) (Np (tOp (rI0 λi j=>.bl (decide (j<i))) ta tb)):=⟨Kg Bi7 ha.1 hb.1 (Ji _)⟩
theorem Aw7 (ha:QE X a ta)(hb:QE X b tb):QE X (.Compare a [.GtE] [b] pos) (tOp (rI0 λi j=>.bl (decide (j<=i))) ta tb):=⟨Ln Bh8 ha.1 hb.1 (Ji _)⟩
theorem Ap9 (ha:QE X a ta)(hb:QE X b tb):QE X (.Compare a [.Is] [b] pos) (tOp (λx y H Q=>y=.non/\Q (.bl (decide (x=.non))) H) ta tb):=⟨Ln A2q ha.1 hb.1 (Ji _)⟩
theorem Av2 (ha:QE X a ta)(hb:QE X b tb):QT X (.Compare a [.Is] [b] pos) (Np (tOp (λx y H Q=>y=.non/\Q (.bl (decide (x=.non))) H) ta tb)):=⟨Kg A2q ha.1 hb.1 (Ji _)⟩
theorem A2f (ha:QE X a ta):QE X (.UnaryOp .USub a pos) (tUn (rU λi=>.int (-i)) ta):=⟨Bg1 Ba0 ha.1⟩
def Q3 (K:PySem.W.Frag):List V->Hp->VK->Prop:=λxs H Q=>∃x n,xs=[x]/\As6 H x=some n/\Q (.int (n:Nat)) H
def Ab2 (K:PySem.W.Frag):List V->Hp->VK->Prop:=λxs H Q=>∃x n,xs=[x]/\Bl8 K x H n/\Q (.int n) H
def Ng (K:PySem.W.Frag):List V->Hp->VK->Prop:=λxs H Q=>∃i,xs=[.int i]/\Q (.int (if i<0 then -i else i)) H
theorem Zm (hgl:Gl X "abs") (hm:X.mg "abs" = none) (ha:PA X (e::es) t) (hns:noStar (e::es)=true:=by rfl):PE X (.Call (.Name "abs" p) (e::es) [] pos) (tCB (Ng X.K) t):=Gy Ay3 hgl hm A8z ha (by decide) (by rfl) hns
def Mm (K:PySem.W.Frag):List V->Hp->VK->Prop:=λxs H Q=>∃x T t b,xs=[x,.ty T]/\Mj H x=some t/\Dz t T=some b/\Q (.bl b) H
theorem Z4 (hgl:Gl X "isinstance") (hm:X.mg "isinstance" = none) (ha:PA X (e::es) t) (hns:noStar (e::es)=true:=by rfl):PE X (.Call (.Name "isinstance" p) (e::es) [] pos) (tCB (Mm X.K) t):=Gy A2n hgl hm Mh ha (by decide) (by rfl) hns
def Jc (K:PySem.W.Frag):List V->Hp->VK->Prop:=λxs H Q=>∃x p Ts t b,xs=[x,.ref p]/\H p=some (.tup (Ts.map V.ty))/\Mj H x=some t/\Ka t Ts=some b/\Q (.bl b) H
theorem Wu (hgl:Gl X "isinstance") (hm:X.mg "isinstance" = none) (ha:PA X (e::es) t) (hns:noStar (e::es)=true:=by rfl):PE X (.Call (.Name "isinstance" p) (e::es) [] pos) (tCB (Jc X.K) t):=Gy As2 hgl hm Mh ha (by decide) (by rfl) hns
def Ky (K:PySem.W.Frag):List V->Hp->VK->Prop:=λxs H Q=>∃(a:Addr) (bs:List Bool),xs=[.ref a]/\SqL K H a (bs.map V.bl)/\Q (.bl (bs.all id)) H
theorem X8 (hc:X.calm=true)(hgl:Gl X "all") (hm:X.mg "all" = none) (ha:PA X (e::es) t) (hns:noStar (e::es)=true:=by rfl):PE X (.Call (.Name "all" p) (e::es) [] pos) (tCB (Ky X.K) t):=Gy (As8 hc) hgl hm A9l ha (by decide) (by rfl) hns
def K9 (K:PySem.W.Frag):List V->Hp->VK->Prop:=λxs H Q=>(∃i,xs=[.int i]/\Q (.int i) H)\/∃k,xs=[.bl k]/\Q (.int (if k then 1 else 0)) H
theorem Xv (hgl:Gl X "int") (hm:X.mg "int" = none) (ha:PA X (e::es) t) (hns:noStar (e::es)=true:=by rfl):PE X (.Call (.Name "int" p) (e::es) [] pos) (tCB (K9 X.K) t):=Gz Ap5 hgl hm Ad0 ha (by decide) (by rfl) hns
def Hk (K:PySem.W.Frag):List V->Hp->VK->Prop:=λxs H Q=>∃p ys,xs=[.ref p]/\((SqL K H p ys/\∀l,H l=none->Q (.ref l) (upd H l (.tup ys)))\/(SqT K H p ys/\Q (.ref p) H))
theorem Qk (hgl:Gl X "tuple") (hm:X.mg "tuple" = none) (ha:PA X (e::es) t) (hns:noStar (e::es)=true:=by rfl):PE X (.Call (.Name "tuple" p) (e::es) [] pos) (tCB (Hk X.K) t):=Gz Ut hgl hm Gs ha (by decide) (by rfl) hns
def Ia (K:PySem.W.Frag):List V->Hp->VK->Prop:=λxs H Q=>∃p ys,xs=[.ref p]/\(SqL K H p ys\/SqT K H p ys)/\∀l,H l=none->Q (.ref l) (upd H l (.lst ys))
theorem Rf (hgl:Gl X "list") (hm:X.mg "list" = none) (ha:PA X (e::es) t) (hns:noStar (e::es)=true:=by rfl):PE X (.Call (.Name "list" p) (e::es) [] pos) (tCB (Ia X.K) t):=Gz Wq hgl hm Kf ha (by decide) (by rfl) hns
def K5 (K:PySem.W.Frag):List V->Hp->VK->Prop:=λxs H Q=>∃i j,xs=[.int i,.int j]/\Q (.int (if j<i then j else i)) H
theorem Xc (hc:X.calm=true)(hgl:Gl X "min") (hm:X.mg "min" = none) (ha:PA X (e::es) t) (hns:noStar (e::es)=true:=by rfl):PE X (.Call (.Name "min" p) (e::es) [] pos) (tCB (K5 X.K) t):=Gy (At4 hc) hgl hm Bc9 ha (by decide) (by rfl) hns
theorem Au0 (ho:PE X a ta)(hv:PE X e te)(hbase:attributeBase a "append" X.env (eval a X.env)=eval a X.env:=by rfl)
 (hfew:((backTo cpos (starEach [e] X.env)).all (λx=>!x.1)&&(backToKw cpos (keywordEach [] X.env)).all (λx=>x.1.isSome)
  && decide ([e].length+([]:List Keyword).length+(if ([]:List Keyword).isEmpty then 0 else 1)<30))=true:=by rfl)
 (hline:(apos.endLine==cpos.line)=true:=by rfl) (hns:isStar e=false:=by rfl) :
 PE X (.Call (.Attribute a "append" apos) [e] [] cpos) (tBM X.K "list" rAppF ta (Cd te Dy)) :=
 A8d PySem.F.plainAttrs_list PySem.F.slot_list_append PySem.F.type_list_append A5i ho (Ao8 hv Nh hns) hbase hfew hline (G9 hns) rfl
theorem Oj {K:PySem.W.Frag}{H:Hp}{l:Addr}{xs:List V}(h:H l=some (.lst xs)):tyV K "list" (.ref l) H:=.inl ⟨rfl,_,SqL.of h⟩
end
noncomputable def Lz {α:Type} [DecidableEq α] (ks:List α) (k:α):Bool:=ks.any λx=>decide (x=k)
theorem memB_iff [DecidableEq a] {ks:List a}{k:a}:Lz ks k=true↔k∈ks:=by simp[Lz]
theorem memB_snoc [DecidableEq b] {ks:List b}{k a:b}:Lz (ks++[k]) a=(Lz ks a||decide (a=k)):=by
 unfold Lz
 grind
def Tn {α:Type}[DecidableEq α](acc:List α)(x:α):List α:=if Lz acc x=true then acc else acc++[x]
def dst {α:Type}[DecidableEq α](xs:List α):List α:=xs.foldl Tn []
theorem Og [DecidableEq a] (xs:List a) (x:a):dst (xs++[x])=Tn (dst xs) x:=by
 unfold dst;grind
theorem Rm {α:Type}[DecidableEq α]:∀(n:Nat) (xs:List α),xs.length=n->(dst xs).length<=n
 | 0,xs,h=>by cases xs with | nil=>exact Nat.le_refl _ | cons a r=>cases h
 | n+1,xs,h=>by
  rcases List.eq_nil_or_concat xs with rfl | ⟨ys,y,rfl⟩
  ·cases h
  ·rw[List.concat_eq_append]at h ⊢
   have hy:ys.length=n:=by simpa using h
   have ih:=Rm n ys hy;rw[Og];unfold Tn;split
   ·omega
   ·simp;omega
noncomputable def keyV:V->Option Key
 | .int i=>some (.inl i)
 | .str x=>some (.inr x)
 | _=>none
theorem A6j (h:keyV v=some k) (r:RelV v u):Oa k u=true/\u.scannable=true:=by
 cases v with
 | int i=>cases h;obtain⟨t,rfl⟩:=r;exact⟨Vq i t,rfl⟩
 | str x=>cases h;obtain⟨t,rfl⟩:=r;exact⟨Vi x t,rfl⟩
 | _=>cases h
def Uz (P:Program)(w:World)(a:Addr)(ks:List Key)(h:Heap):Prop:=h.SetOf (Er P w) a (Lz ks) ks.length
noncomputable def A5z (P:Program) (w:World) (a:Addr) (ks:List Key):HO:=.ext (Uz P w a ks)
theorem Ph (hs:Uz P w a ks h) (k:∀o,h.get? a=some o->h'.get? a=some o):Uz P w a ks h':=by
 obtain⟨o,c,d,t,e,b⟩:=hs;exact⟨o,c,d,t,k o e,b⟩
theorem Au1
 (x:h.SetOf (Er P w) a (λb=>Lz ks b||decide (b=k)) (if Lz ks k then ks.length else ks.length+1)):Uz P w a (Tn ks k) h:=by
 unfold Uz Tn
 by_cases hk:Lz ks k=true
 ·have e:(λb=>Lz ks b||decide (b=k))=Lz ks:=by
   grind
  simp_all
 ·have e:(λb=>Lz ks b||decide (b=k))=Lz (ks++[k]):=by
   funext b
   exact memB_snoc.symm
  simp_all
section
variable {P:Program}{w:World}{A:Around}
theorem fill (W:WalksS P w A.in1 J fp h j n Pv E) (p:S∉fp)
 (ks:List Key) (g:ks.length=n) (is:∀i v,Pv i v->∃k,ks[i]?=some k/\Oa k v=true/\v.scannable=true) (Q:n+1<scanBound) (z:Shared)
 (G:∀s,Moved (S::h) j z s->Uz P w S (dst ks) s.heap->R (.ok (.ret .none)) s) :
 ∀(m i:Nat) (s:Shared),i+m=n->E i s->Moved (S::h) j z s->Uz P w S (dst (ks.take i)) s.heap->codeAny (model P w) A (.builtin "set.update.loop" ⟨[.ref S,.ref J],[]⟩) R s:=by
 have c:S∉h:=λq=>p (W.sub S q)
 have f:∀b,b∈h->b∈S::h:=λb q=>.tail _ q
 intro m
 induction m with
 | zero =>
  intro i s e K D r;have e:i=n:=e;subst e;apply codeAny_builtin PyProof.Rows.F.entry_set_update_loop;rw[Around.under_plainId PyProof.Rows.F.plain_set_update_loop _];apply wpAny_bind (m:=pyNext (.ref J));apply W.done s _ _ K;intro d a;apply wpAny_pure
  refine G d (Moved.trans W.gtrans D (a.mono f)) ?_
  have t:ks.take i=ks:=by rw[<- g];exact List.take_length
  rw[t]at r
  exact Ph r λo q=>a.heap S o c q
 | succ m ih =>
  intro i s e K D r
  have V:i<n:=by omega
  apply codeAny_builtin PyProof.Rows.F.entry_set_update_loop;rw[Around.under_plainId PyProof.Rows.F.plain_set_update_loop _];apply wpAny_bind (m:=pyNext (.ref J));apply W.item i s _ _ V K;intro v d Z F a;obtain⟨k,U,O,X⟩:=is i v Z;have H:Moved (S::h) j z d:=Moved.trans W.gtrans D (a.mono f)
  show wpAny _ A.in1 (holding [v] (setAdd S v) >>= _) _ _ d
  apply wpAny_bind;apply wpAny_holding;unfold setAdd;apply wpAny_holding;apply wpAny_bind
  refine (Er P w).pyHash (k:=k) O ?_
  have l:(dst (ks.take i)).length+1<scanBound:=by
   have:=Rm _ (ks.take i) rfl
   have:(ks.take i).length<=n:=by rw[<- g];exact List.length_take_le' _ _
   omega
  have tk:ks.take (i+1)=ks.take i++[k]:=by rw[List.take_add_one,U];rfl
  have T:∀(B:Nat),d.toks<=B->wpAny (model P w) A.in1 (setAddHashed S v ((Er P w).hash k)) (λ_ u=>Moved (S::h) j z u/\Uz P w S (dst (ks.take (i+1))) u.heap/\E (i+1) u) (λ_ _=>False) { d with toks:=B }:=by
   intro B N
   refine wpAny_setAddHashed_of (knd:=Er P w) (s:={ d with toks:=B }) O X (Ph r λo q=>a.heap S o c q) l λY M so=>?_
   refine⟨Moved.then_heap H N λb o q x=>?_,?_,W.frame (i+1) d Y _ F N λb q o x=>?_⟩
   ·rw[M.2 b λy=>q (y▸.head _)];exact x
   ·rw[tk,Og];exact Au1 so
   ·rw[M.2 b λy=>p (y▸q)];exact x
  refine wpAny_mono (T _ (Nat.le_succ _)) (λb u y=>?_) λ_ _ q=>q.elim
  obtain⟨I,L,C⟩:=y
  exact wpAny_pure ⟨plainId_quiet PyProof.Rows.F.plain_set_update_loop _,ih _ _ (by omega) C I L⟩
noncomputable abbrev bare (led:Bool):Obj:={ cls:=.type "set",dict:=none,data:=.set #[] 0 (.fresh 0 0 led) }
abbrev Ht (s:Shared)(led:Bool):Shared:={ s with heap:=s.heap.push (bare led) }
theorem Tt (s:Shared)(led:Bool):(Ht s led).heap.get? s.heap.objs.size=some (bare led):=Heap.get?_push_size _ rfl
abbrev Ax0 (P:Program)(w:World)(A:Around)(R:Result->Shared->Prop)(f:Fin)(z:Shared):Prop:=match f with
 | .done f=>R (.ok f) z
 | .again c=>c.quiet=true/\codeAny (model P w) A c R z
theorem A1y (Z:Shared->Prop) (hZ:∀z,Z z->Q (.ref s.heap.objs.size) z)
 (body:∀b:Bool,wpAny (model P w) A.in1.in1 (Builtin.«set.__init__» ⟨[.ref s.heap.objs.size,a],[]⟩) (Ax0 P w A.in1 (wants (λr z=>r=.none/\Z z) E)) (λe z=>wants (λr z=>r=.none/\Z z) E (.error e) z) (Ht s b)) :
 wpAny (model P w) A (call (.type "set") [a]) Q E s:=by
 have tc:=F.called_set;obtain⟨c0,cs,mro⟩:=tc.mro;have f1:=tc.made;have f2:=tc.sub;have f3:=tc.notType;have f4:=tc.canCreate;have f5:=F.typeCall_set_1 a;apply wpAny_call;apply codeAny_of_tree
 show wpAny _ _ (callAny (.type "set") ⟨[a],[]⟩) _ _ _
 refine wpAny_pure (And.intro (Code.quiet_builtin _ (by decide +kernel)) (codeAny_builtin F.entry_type_call ?_))
 rw[Around.under_plain (weight_type_call_type "set" [a] []) rfl]
 repeat any_goals first | wp_step | assumption
 have made:=code_set_new_1 (prog:=P) (w:=w) (A:=A.in1) (E:=E) (s:=s) a (Q₁:=λo z=>∃b,o=.ref s.heap.objs.size/\z=Ht s b) λb=>⟨b,rfl,rfl⟩
 refine codeAny_mono made λr z hz=>?_
 rcases r with (_ | f)
 ·exact hz
 cases f with
 | ret o =>
  obtain⟨b,rfl,rfl⟩:=hz;have ty:Shared.TypeIs (Ht s b) (.ref s.heap.objs.size) "set" := ⟨_,Tt s b,rfl⟩;have f6:=tc.init.lookup;have f7:=tc.init.bind (.ref s.heap.objs.size)
  repeat any_goals first | wp_step | assumption
  refine codeAny_mono (codeAny_call_builtin (R:=wants (λr z=>r=.none/\Z z) E) tc.init.plain F.entry_set_init (check_set_init_1 (a:=a) ty (body b))) λr z hz=>?_
  rcases r with (_ | f)
  ·exact hz
  cases f with
  | ret o =>
   obtain⟨rfl,hz⟩:=hz
   repeat any_goals first | wp_step | assumption
   exact hZ _ hz
  | _=>exact hz.elim
 | _=>exact hz.elim
end
section
variable {X:Cx}
def Oh (P:Program)(w:World):List V->Hp->VK->Prop:=λxs H Q=>∃(p:Addr) (ks:List Key),xs=[.ref p]/\H p=some (A5z P w p ks)/\ks.length<1000/\Q (.int (ks.length:Nat)) H
theorem Yp:zE X (.builtin "len") (Oh X.prog X.w):=by
 intro a s σ H xs us Q I r h;obtain⟨p,ks,rfl,d,hn,q⟩:=h;obtain⟨u,rfl,f⟩:=vals1 r
 cases (f)
 obtain⟨⟨o,es,ep,t,e,c,g,x3,x4,x5,i,b⟩,_⟩:=I.hok p _ d
 refine call_len_set e c g i (by omega) ?_
 rw[b];exact⟨.int _,H,I.tok _ |>.tok _,⟨_,rfl⟩,q⟩
end
section
variable {P:Program}{w:World}{A:Around}{E:Value->Shared->Prop}{s:Shared}
theorem Qv (a:s.heap.IsTupleIter j u k)
 (body:wpAny (model P w) A.in1 (Builtin.«tuple_iterator.__next__» ⟨[.ref j],[]⟩) (λf z=>∃v,f=.done (.ret v)/\Q v z) E s) :
 wpAny (model P w) A (Builtin.SmallTypes.nextOf (.ref j)) Q E s:=by
 apply wpAny_bind
 refine wpAny_callSpecial?_slot a.typeIs F.slot_tuple_iterator_next ?_
 refine wpAny_call_entry F.slot_tuple_iterator_next a.typeIs F.entry_tuple_iterator_next ?_ (F.args_tuple_iterator_next_1 _)
 refine wpAny_mono body (λf z c=>?_) λ_ _ q=>q
 obtain⟨v,b,q⟩:=c;exact⟨v,b,wpAny_pure q⟩
theorem Ae3 (c:s.heap.IsTupleIter j u k) (g:s.heap.IsTuple u vs) (hx:vs[k]?=some x)
 (q:∀h',h'.IsTupleIter j u (k+1)->Heap.SameBut j s.heap h'->Q x { s with heap:=h' }):wpAny (model P w) A (Builtin.SmallTypes.nextOf (.ref j)) Q E s:=by
 refine Qv c ?_
 obtain⟨o,d,f,b⟩:=c;obtain⟨i,h,_,n,e⟩:=g;apply wpAny_bind (m:=field _ 0);apply wpAny_field d b rfl;apply wpAny_bind ;apply wpAny_field d b rfl;apply wpAny_bind ;apply wpAny_seqItems h e;simp only[hx,Int.toNat_natCast];apply wpAny_bind
 apply wpAny_setField d b (by simp)
 apply wpAny_pure
 refine⟨x,rfl,q _ ⟨_,(Heap.get?_update_self (Obj.mapFields λa=>a.setIfInBounds 1 (rawInt (k+1))) d (Obj.isFreed_of_fields (Obj.data_mapFields b _))),(Obj.cls_mapFields ..).trans f,?_⟩ (Heap.SameBut.update ..)⟩
 rw[Obj.data_mapFields b]
 trivial
theorem Ar7 (c:A.handled=none) (d:s.heap.IsTupleIter j u k) (h:s.heap.IsTuple u vs) (hx:vs[k]?=none)
 (q:∀h' e,Heap.ExtBut j s.heap h'->(∃o,h'.get? e=some o/\o.cls=.type "StopIteration")->E (.ref e) { s with heap:=h' }):wpAny (model P w) A (Builtin.SmallTypes.nextOf (.ref j)) Q E s:=by
 refine Qv d ?_
 obtain⟨o,f,r,g⟩:=d;obtain⟨t,i,_,n,l⟩:=h;apply wpAny_bind (m:=field (.ref j) 0);apply wpAny_field f g (x:=.ref u) rfl;have p:¬ ((Value.ref u==Value.none)=true):=Bool.false_ne_true
 show wpAny _ _ (if (Value.ref u==.none)=true then _ else _) _ _ _
 rw[if_neg p];apply wpAny_bind (m:=field (.ref j) 1);apply wpAny_field f g (x:=.int k 0) rfl;apply wpAny_bind (m:=seqItems? (.ref u));apply wpAny_seqItems i l;simp only[hx,Int.toNat_natCast];apply wpAny_bind;apply wpAny_rule;apply wpAny_bind
 apply wpAny_setField f g (by simp)
 apply wpAny_bind (m:=newExc (.type "StopIteration") []);unfold newExc newTuple;apply wpAny_bind
 refine wpAny_newObj_type ?_ (by size_fits )
 apply wpAny_bind (m:=firstArgMember _ _)
 refine wpAny_of_eq (a:=Value.none) (by simp only[firstArgMember];rfl) ?_
 refine wpAny_newObj_type ?_ (by size_fits )
 unfold raiseNew;apply wpAny_bind;apply wpAny_handled;have b:A.in1.handled=none:=c;rw[b]
 refine wpAny_bind (wpAny_pure ?_)
 apply wpAny_throw;exact q _ _ (((Heap.SameBut.update ..).extBut.push _).push _) ⟨_,Heap.get?_push_size _ rfl,rfl⟩
def ItAt (t:Bool)(h:Heap)(j u:Addr)(k:Nat):Prop:=match t with
 | true=>h.IsTupleIter j u k
 | false=>h.IsListIter j u k
def SqA (t:Bool)(h:Heap)(u:Addr)(vs:Array Value):Prop:=match t with
 | true=>h.IsTuple u vs
 | false=>h.IsList u vs
theorem ItAt.stay (x:ItAt t h j u k) (q:∀o,h.get? j=some o->h'.get? j=some o):ItAt t h' j u k:=by
 cases t <;> (obtain⟨o,e,r⟩:=x;exact⟨o,q o e,r⟩)
theorem ItAt.obj (x:ItAt t h j u k):∃o,h.get? j=some o/\o.data=.fields #[.ref u,.int k 0]:=by
 cases t <;> (obtain⟨o,e,_,r⟩:=x;grind)
theorem SqA.stay (x:SqA t h u vs) (q:∀o,h.get? u=some o->h'.get? u=some o):SqA t h' u vs:=by
 cases t <;> (obtain⟨o,e,r⟩:=x;exact⟨o,q o e,r⟩)
theorem next_item (a:ItAt t s.heap j u k) (b:SqA t s.heap u vs) (hx:vs[k]?=some x)
 (q:∀h',ItAt t h' j u (k+1)->Heap.SameBut j s.heap h'->Q x { s with heap:=h' }):wpAny (model P w) A (Builtin.SmallTypes.nextOf (.ref j)) Q E s:=by
 cases t
 ·exact wpAny_nextOf_list_item a b hx q
 ·exact Ae3 a b hx q
theorem next_end (c:A.handled=none) (a:ItAt t s.heap j u k) (b:SqA t s.heap u vs) (hx:vs[k]?=none)
 (q:∀h' e,Heap.ExtBut j s.heap h'->(∃o,h'.get? e=some o/\o.cls=.type "StopIteration")->E (.ref e) { s with heap:=h' }):wpAny (model P w) A (Builtin.SmallTypes.nextOf (.ref j)) Q E s:=by
 cases t
 ·exact wpAny_nextOf_list_end c a b hx q
 ·exact Ar7 c a b hx q
structure Aa2 (h:Heap) (t1 t2:Bool) (z ti to i1 i2 a b:Addr) (f0:Value) (k:Nat):Prop where
 zip:IsZip h z ti to f0
 ins:IsPair h ti (.ref i1) (.ref i2)
 outs:∃u v,IsPair h to u v
 one:ItAt t1 h i1 a k
 two:ItAt t2 h i2 b k
structure zB (z ti to i1 i2 a b:Addr):Prop where
 nd:[z,ti,to,i1,i2].Nodup
 na:a∉[z,ti,to,i1,i2]
 nb:b∉[z,ti,to,i1,i2]
theorem zB.z_ti (x:zB z ti to i1 i2 a b):ti≠z:=by have:=x.nd;grind
theorem zB.z_to (x:zB z ti to i1 i2 a b):to≠z:=by have:=x.nd;grind
theorem zB.z_i1 (x:zB z ti to i1 i2 a b):i1≠z:=by have:=x.nd;grind
theorem zB.z_i2 (x:zB z ti to i1 i2 a b):i2≠z:=by have:=x.nd;grind
theorem zB.to_i1 (x:zB z ti to i1 i2 a b):to≠i1:=by have:=x.nd;simp_all
theorem zB.to_i2 (x:zB z ti to i1 i2 a b):to≠i2:=by have:=x.nd;simp_all
theorem zB.i1_i2 (x:zB z ti to i1 i2 a b):i1≠i2:=by have:=x.nd;simp_all
theorem zB.ti_to (x:zB z ti to i1 i2 a b):ti≠to:=by have:=x.nd;simp_all
theorem zB.ti_i1 (x:zB z ti to i1 i2 a b):ti≠i1:=by have:=x.nd;simp_all
theorem zB.ti_i2 (x:zB z ti to i1 i2 a b):ti≠i2:=by have:=x.nd;simp_all
theorem Az5 {Q:Value->Shared->Prop}(d:zB z j h r t a b) (y:Aa2 s.heap t1 t2 z j h r t a b .none k)
 (ha:SqA t1 s.heap a xs) (hb:SqA t2 s.heap b ys) (hx:xs[k]?=some x) (O:ys[k]?=some x')
 (q:∀h',Aa2 h' t1 t2 z j h r t a b (rawInt s.heap.objs.size) (k+1)->IsPair h' s.heap.objs.size x x'->(∀c o,c∉[z,j,h,r,t]->s.heap.get? c=some o->h'.get? c=some o)->Q (.ref s.heap.objs.size) { s with heap:=h' }) :
 wpAny (model P w) A (Builtin.«zip.__next__» ⟨[.ref z],[]⟩) (λf z=>∃v,f=.done (.ret v)/\Q v z) E s:=by
 obtain⟨u0,N,o0⟩:=y.outs;have S:=d.na;have I:=d.nb;simp only[List.mem_cons,List.not_mem_nil,or_false,not_or]at S I;apply wpAny_bind (m:=field (.ref z) 2);apply wpAny_field y.zip rfl (x:=.bool false) rfl;apply wpAny_bind (m:=field (.ref z) 3);apply wpAny_field y.zip rfl (x:=.ref j) rfl;apply wpAny_bind;apply wpAny_seqItems y.ins rfl;apply wpAny_bind (m:=Builtin.SmallTypes.ownedTupleIsFree (.ref z));unfold Builtin.SmallTypes.ownedTupleIsFree;apply wpAny_bind;apply wpAny_field y.zip rfl (x:=.none) rfl;apply wpAny_pure;simp only[if_true];apply wpAny_bind;apply wpAny_rule;apply wpAny_bind;apply wpAny_field y.zip rfl (x:=.ref h) rfl;apply wpAny_bind
 apply wpAny_setField_rec y.zip (by simp)
 intro g1 L n;have L:IsZip g1 z j h .ellipsis:=L;apply wpAny_bind;simp only[List.zipIdx_cons,List.zipIdx_nil,List.forIn_cons,List.forIn_nil];apply wpAny_bind;apply wpAny_bind;apply wpAny_onRaise;apply wpAny_bind (m:=Builtin.SmallTypes.nextOf (.ref r))
 refine next_item (y.one.stay λo e=>n.extBut _ _ d.z_i1 e) (ha.stay λo e=>n.extBut _ _ S.1 e) hx λg2 n1 u=>?_
 apply wpAny_pure;have V:IsPair g2 h u0 N:=u.extBut _ _ d.to_i1 (n.extBut _ _ d.z_to o0);apply wpAny_bind;apply wpAny_seqItems V rfl;apply wpAny_bind;apply wpAny_updateSeq_pair V;intro g3 R B;have R:IsPair g3 h x N:=R;apply wpAny_bind;apply wpAny_letGo;apply wpAny_pure;apply wpAny_bind;apply wpAny_bind;apply wpAny_onRaise;apply wpAny_bind (m:=Builtin.SmallTypes.nextOf (.ref t))
 refine next_item (y.two.stay λo e=>B.extBut _ _ d.to_i2.symm (u.extBut _ _ d.i1_i2.symm (n.extBut _ _ d.z_i2 e))) (hb.stay λo e=>B.extBut _ _ I.2.2.1 (u.extBut _ _ I.2.2.2.1 (n.extBut _ _ I.1 e))) O λg4 n2 D=>?_
 apply wpAny_pure;have U:IsPair g4 h x N:=D.extBut _ _ d.to_i2 R;apply wpAny_bind;apply wpAny_seqItems U rfl;apply wpAny_bind;apply wpAny_updateSeq_pair U;intro i K F;have K:IsPair i h x x':=K;apply wpAny_bind;apply wpAny_letGo;apply wpAny_pure;apply wpAny_pure;apply wpAny_bind;apply wpAny_seqItems K rfl;apply wpAny_bind
 refine wpAny_newTuple ?_
 have W:i.objs.size=s.heap.objs.size:=by rw[F.1,D.1,B.1,u.1,n.1]
 have l:∀c o,c≠z->c≠h->c≠r->c≠t->s.heap.get? c=some o->i.get? c=some o:=λc o p1 T p3 p4 e=>F.extBut _ _ T (D.extBut _ _ p4 (B.extBut _ _ T (u.extBut _ _ p3 (n.extBut _ _ p1 e))))
 have Y:IsZip i z j h .ellipsis:=F.extBut _ _ d.z_to.symm (D.extBut _ _ d.z_i2.symm (B.extBut _ _ d.z_to.symm (u.extBut _ _ d.z_i1.symm L)))
 have m1:ItAt t1 i r a (k+1):=n1.stay λo e=>F.extBut _ _ d.to_i1.symm (D.extBut _ _ d.i1_i2 (B.extBut _ _ d.to_i1.symm e))
 have m2:ItAt t2 i t b (k+1):=n2.stay λo e=>F.extBut _ _ d.to_i2.symm e
 apply wpAny_bind (m:=Builtin.SmallTypes.ownedTupleHandOut (.ref z) (.ref i.objs.size));unfold Builtin.SmallTypes.ownedTupleHandOut;have z6:IsZip (i.push { cls:=.type "tuple",data:=.seq #[x,x'] }) z j h .ellipsis:=Heap.get?_push_of_some _ Y;apply wpAny_bind
 apply wpAny_setField_rec z6 (by simp)
 intro g7 M X;have M:IsZip g7 z j h (rawInt i.objs.size):=M
 apply wpAny_setField_rec M (by simp)
 intro H J Z;have J:IsZip H z j h (rawInt i.objs.size):=J
 have g:∀c o,c≠z->i.get? c=some o->H.get? c=some o:=λc o p e=>Z.extBut _ _ p (X.extBut _ _ p (Heap.get?_push_of_some _ e))
 have G:z<i.objs.size:=Heap.lt_size Y;have C:IsPair H i.objs.size x x':=Z.extBut _ _ (Nat.ne_of_gt G) (X.extBut _ _ (Nat.ne_of_gt G) (Heap.get?_push_size _ rfl));rw[W]at J C;apply wpAny_pure
 refine⟨_,rfl,?_⟩
 show Q (.ref i.objs.size) _
 rw[W]
 refine q H ⟨J,g _ _ d.z_ti (l _ _ d.z_ti d.ti_to d.ti_i1 d.ti_i2 y.ins),⟨x,x',g _ _ d.z_to K⟩,m1.stay λo e=>g _ _ d.z_i1 e,m2.stay λo e=>g _ _ d.z_i2 e⟩ C λc o p e=>?_
 simp at p
 exact g c o p.1 (l c o p.1 p.2.2.1 p.2.2.2.1 p.2.2.2.2 e)
theorem A2z (f:A.handled=none) (d:zB z l j v C a b) (y:Aa2 s.heap t1 t2 z l j v C a b .none k)
 (ha:SqA t1 s.heap a xs) (hb:SqA t2 s.heap b ys) (hx:xs[k]?=none\/ys[k]?=none)
 (q:∀h' e,(∀c o,c∉[z,l,j,v,C]->s.heap.get? c=some o->h'.get? c=some o)->(∃o,h'.get? e=some o/\o.cls=.type "StopIteration")->E (.ref e) { s with heap:=h' }) :
 wpAny (model P w) A (Builtin.«zip.__next__» ⟨[.ref z],[]⟩) F E s:=by
 obtain⟨T,V,S⟩:=y.outs;have I:=d.na;have B:=d.nb;simp only[List.mem_cons,List.not_mem_nil,or_false,not_or]at I B;apply wpAny_bind (m:=field (.ref z) 2);apply wpAny_field y.zip rfl (x:=.bool false) rfl;apply wpAny_bind (m:=field (.ref z) 3);apply wpAny_field y.zip rfl (x:=.ref l) rfl;apply wpAny_bind;apply wpAny_seqItems y.ins rfl;apply wpAny_bind (m:=Builtin.SmallTypes.ownedTupleIsFree (.ref z));unfold Builtin.SmallTypes.ownedTupleIsFree;apply wpAny_bind;apply wpAny_field y.zip rfl (x:=.none) rfl;apply wpAny_pure;simp only[if_true];apply wpAny_bind;apply wpAny_rule;apply wpAny_bind;apply wpAny_field y.zip rfl (x:=.ref j) rfl;apply wpAny_bind
 apply wpAny_setField_rec y.zip (by simp)
 intro U u g;have u:IsZip U z l j .ellipsis:=u;apply wpAny_bind;simp only[List.zipIdx_cons,List.zipIdx_nil,List.forIn_cons,List.forIn_nil];apply wpAny_bind;apply wpAny_bind;apply wpAny_onRaise;apply wpAny_bind (m:=Builtin.SmallTypes.nextOf (.ref v))
 cases e1:xs[k]? with
 | none =>
  refine next_end f (y.one.stay λo e=>g.extBut _ _ d.z_i1 e) (ha.stay λo e=>g.extBut _ _ I.1 e) e1 λH x i K=>?_
  obtain⟨D,r,t⟩:=K;have Q:IsZip H z l j .ellipsis:=i _ _ d.z_i1.symm u
  have G:x≠z:=λe=>by subst e;rw[Q]at r;cases r;simp at t
  apply wpAny_setField_rec Q (by simp)
  intro N _ n
  refine q N x (λc o p e=>?_) ⟨D,n.extBut _ _ G r,t⟩
  simp only[List.mem_cons,List.not_mem_nil,or_false,not_or]at p;exact n.extBut _ _ p.1 (i _ _ p.2.2.2.1 (g.extBut _ _ p.1 e))
 | some x =>
  have Y:ys[k]?=none:=by
   rcases hx with h | h
   ·rw[e1]at h;cases h
   ·exact h
  refine next_item (y.one.stay λo e=>g.extBut _ _ d.z_i1 e) (ha.stay λo e=>g.extBut _ _ I.1 e) e1 λH n1 i=>?_
  apply wpAny_pure;have O:IsPair H j T V:=i.extBut _ _ d.to_i1 (g.extBut _ _ d.z_to S);apply wpAny_bind;apply wpAny_seqItems O rfl;apply wpAny_bind;apply wpAny_updateSeq_pair O;intro N Z n;apply wpAny_bind;apply wpAny_letGo;apply wpAny_pure;apply wpAny_bind;apply wpAny_bind;apply wpAny_onRaise;apply wpAny_bind (m:=Builtin.SmallTypes.nextOf (.ref C))
  refine next_end f (y.two.stay λo e=>n.extBut _ _ d.to_i2.symm (i.extBut _ _ d.i1_i2.symm (g.extBut _ _ d.z_i2 e))) (hb.stay λo e=>n.extBut _ _ B.2.2.1 (i.extBut _ _ B.2.2.2.1 (g.extBut _ _ B.1 e))) Y λW x M J=>?_
  obtain⟨D,r,t⟩:=J;have R:IsZip W z l j .ellipsis:=M _ _ d.z_i2.symm (n.extBut _ _ d.z_to.symm (i.extBut _ _ d.z_i1.symm u))
  have G:x≠z:=λe=>by subst e;rw[R]at r;cases r;simp at t
  apply wpAny_setField_rec R (by simp)
  intro X _ L
  refine q X x (λc o p e=>?_) ⟨D,L.extBut _ _ G r,t⟩
  simp only[List.mem_cons,List.not_mem_nil,or_false,not_or]at p;exact L.extBut _ _ p.1 (M _ _ p.2.2.2.2 (n.extBut _ _ p.2.2.1 (i.extBut _ _ p.2.2.2.1 (g.extBut _ _ p.1 e))))
end
section
variable {X:Cx}{pins:List (Addr×Obj)}{σ:St}{H:Hp}{s:Shared}{h':Heap}
theorem Inv.turnLay {ch:List Addr}{p:Addr}{o:HO}{t':Nat}(I:Inv X pins σ H s)(hf:∀b∈ch,Rc X pins H b)(k:∀b u,b∉ch->s.heap.get? b=some u->h'.get? b=some u)(hp:s.heap.objs.size<=p)(w:zA X.prog X.w (upd H p o) h' p o) :
 Inv X pins σ (upd H p o) { s with heap:=h',toks:=t' }:=by
 have g:H p=none:=I.hok.fresh hp
 have t:∀b u,H b=some u->b∉ch:=λb u e z=>by rw[(hf b z).1]at e;grind
 have d:∀b u,H b=some u->b≠p:=λb u e=>Bk e g
 have h:∀b u,s.heap.get? b=some u->b≠p:=λb u e z=>absurd (Heap.lt_size e) (by simp_all)
 refine I.step (g':=s.gens) (d':=s.drawn) (ch:=ch) (λb f=>?_) (λb u _ _ a e _=>k b u a e) (λb u _ _ a e _=>⟨u.slots,k b u a e⟩) (λb u _ e n=>?_) (λb u a e=>⟨u,k b u a e⟩)
  (λb i e=>?_) (λb o u e=>?_) (λb B e=>?_) (λm x=>?_) (λb u e=>?_) I.bare
 ·obtain⟨F,G,J,C,D,E⟩:=hf b f
  grind
 ·rw[Ah (h b u e)];grind
 ·rw[Ah (d b _ e)];grind
 ·rw[Ah (d b _ e)];omega
 ·rw[Ah (d b _ e)];grind
 ·obtain⟨j,y,A,l,r⟩:=x
  exact⟨j,y,A,k _ _ (λz=>(hf _ z).2.1 rfl) l,r⟩
 ·by_cases f:b=p
  ·subst f;rw[Av]at e;grind
  ·rw[Ah f]at e
   refine (I.hok b u e).stay (λc v a q=>k c v ?_ q) λc q=>by rw[Ah (d c _ q)];grind λc i q=>by rw[Ah (d c _ q)];grind λc j i q=>by rw[Ah (d c _ q)];grind
   grind
theorem Inv.turnL {ch:List Addr}{t':Nat}(I:Inv X pins σ H s)(hf:∀b∈ch,Rc X pins H b)(k:∀b u,b∉ch->s.heap.get? b=some u->h'.get? b=some u):Inv X pins σ H { s with heap:=h',toks:=t' }:=by
 have g:∀b u,H b=some u->b∉ch:=λb u e z=>by rw[(hf b z).1]at e;grind
 refine I.step (λb f=>?_) (λb u _ _ a e _=>k b u a e) (λb u _ _ a e _=>⟨u.slots,k b u a e⟩) (λb u _ e n=>n) (λb u a e=>⟨u,k b u a e⟩)
  (λb i e=>e) (λb o u e=>e) (λb t e=>e) (λm j=>?_) (λb u e=>?_) I.bare
 ·obtain⟨A,B,C,w,x,y⟩:=hf b f
  grind
 ·obtain⟨h,l,p,d,r⟩:=j
  exact⟨h,l,p,k _ _ (λz=>(hf _ z).2.1 rfl) d,r⟩
 ·refine (I.hok b u e).stay (λc v a q=>k c v ?_ q) (λc q=>q) λc i q=>q
  grind
end
def SqK (t:Bool)(H:Hp)(a:Addr)(xs:List V):Prop:=match t with
 | true=>H a=some (.tup xs)
 | false=>H a=some (.lst xs)
theorem SqK.one (x:SqK t H a xs) (y:SqK t H a ys):xs=ys:=by
 cases t
 ·have y:H a=some _:=y
  rw[x]at y;cases y;rfl
 ·have y:H a=some _:=y
  rw[x]at y;cases y;rfl
theorem SqK.some (x:SqK t H a xs):∃o,H a=some o:=by
 cases t
 ·exact⟨_,x⟩
 ·exact⟨_,x⟩
theorem SqK.its (I:Inv X pins d H s) (x:SqK t H a xs):∃b:List Value,Vals xs b/\SqA t s.heap a b.toArray:=by
 cases t
 ·obtain⟨b,c,p,_⟩:=I.list (SqL.of x)
  exact⟨b,c,p.isList⟩
 ·obtain⟨b,c,p,_⟩:=I.tuple (SqT.of x)
  exact⟨b,c,(show s.heap.IsTuple a _ from p)⟩
def Itz (t1 t2:Bool)(a b:Addr):It :=
 ⟨
  λi H=>∃xs ys x y,SqK t1 H a xs/\SqK t2 H b ys/\xs[i]?=some x/\ys[i]?=some y,
  λi H v H'=>∃p x y,v=.ref p/\H p=none/\H'=upd H p (.tup [x,y])/\(∀xs,SqK t1 H a xs->xs[i]?=some x)/\∀ys,SqK t2 H b ys->ys[i]?=some y,
  λi H=>∃xs ys,SqK t1 H a xs/\SqK t2 H b ys/\(xs.length<=i\/ys.length<=i)⟩
theorem A1i {P:Program}{w:World}{K:PySem.W.Frag}{t1 t2:Bool}{elts:List Expr}{kk:Nat}{pos:Pos}{z ti to i1 i2 a b:Addr}(nd:[z,ti,to,i1,i2].Nodup) :
 Turn P w K (.Tuple elts kk pos) (Itz t1 t2 a b) [z,ti,to,i1,i2] z (λi h=>Aa2 h t1 t2 z ti to i1 i2 a b .none i) where
 mem:=by simp
 obj:=λi h st c hc=>by
  simp only[List.mem_cons,List.not_mem_nil,or_false]at hc
  rcases hc with rfl | rfl | rfl | rfl | rfl
  ·exact⟨_,st.zip,λv e=>by cases e⟩
  ·exact⟨_,st.ins,λv e=>by cases e⟩
  ·obtain⟨u,v,e⟩:=st.outs;exact⟨_,e,λv e=>by cases e⟩
  ·obtain⟨o,e,q⟩:=st.one.obj;exact⟨o,e,λv e=>by rw[q]at e;cases e⟩
  ·obtain⟨o,e,q⟩:=st.two.obj;exact⟨o,e,λv e=>by rw[q]at e;cases e⟩
 keep:=λi h h' st k=>by
  obtain⟨u,v,e⟩:=st.outs
  exact⟨k z (by simp) _ st.zip,k ti (by simp) _ st.ins,⟨u,v,k to (by simp) _ e⟩,st.one.stay λo e=>k i1 (by simp) o e,st.two.stay λo e=>k i2 (by simp) o e⟩
 item:=by
  intro X hP hw hK hc i pins s σ H E I hf st hg;subst hP hw hK;obtain⟨xs,ys,x,y,ha,hb,hx,hy⟩:=hg;obtain⟨its,rv,pa⟩:=ha.its I;obtain⟨jts,rw',pb⟩:=hb.its I;obtain⟨u,hu,ru⟩:=rv.get hx;obtain⟨v,hv,rv'⟩:=rw'.get hy
  have off:zB z ti to i1 i2 a b:=⟨nd,λm=>by (obtain⟨o,e⟩:=ha.some;rw[(hf a m).1]at e;cases e),λm=>by (obtain⟨o,e⟩:=hb.some;rw[(hf b m).1]at e;cases e)⟩
  have ty:s.TypeIs (.ref z) "zip" := ⟨_,st.zip,rfl⟩;unfold pyNext;apply wpAny_bind;apply wpAny_attempt
  refine wpAny_callSpecial?_slot (name:="__next__") ty F.slot_zip_next ?_
  refine wpAny_call_entry F.slot_zip_next ty F.entry_zip_next ?_ (F.args_zip_next_1 _)
  refine Az5 off st pa pb (x:=u) (x':=v) (by simpa using hu) (by simpa using hv) λh1 z1 new kp=>?_
  refine wpAny_pure ⟨_,rfl,?_⟩
  apply wpAny_letOwnedTupleGo_zip z1.zip;intro h2 z2 sb;have nz:s.heap.objs.size≠z:=Nat.ne_of_gt (Heap.lt_size st.zip);have new2:IsPair h2 s.heap.objs.size u v:=sb.extBut _ _ nz new
  have ok:zA X.prog X.w (upd H s.heap.objs.size (.tup [x,y])) h2 s.heap.objs.size (.tup [x,y]):=⟨(show 2<=sizeLine by decide),[u,v],.cons ru (.cons rv' .nil),⟨_,new2,rfl,⟨_,rfl⟩,rfl⟩⟩
  have I2:=I.turnLay (t':=s.toks) hf (h':=h2) (λc o m e=>sb.extBut _ _ (λe=>m (by simp[e])) (kp c o m e)) (Nat.le_refl _) ok
  obtain⟨u1,v1,e1⟩:=z1.outs;have zf:H s.heap.objs.size=none:=I.hok.fresh (Nat.le_refl _)
  refine⟨.ref s.heap.objs.size,_,I2,rfl,⟨_,x,y,rfl,zf,rfl,λxs' h=>?_,λys' h=>?_⟩,?_,λc hc=>?_⟩
  ·rw[h.one ha];exact hx
  ·rw[h.one hb];exact hy
  ·exact⟨z2,sb.extBut _ _ off.z_ti z1.ins,⟨u1,v1,sb.extBut _ _ off.z_to e1⟩,z1.one.stay λo e=>sb.extBut _ _ off.z_i1 e,z1.two.stay λo e=>sb.extBut _ _ off.z_i2 e⟩
  ·have lt:c<s.heap.objs.size:=by
    simp only[List.mem_cons,List.not_mem_nil,or_false]at hc
    rcases hc with rfl | rfl | rfl | rfl | rfl
    ·exact Heap.lt_size st.zip
    ·exact Heap.lt_size st.ins
    ·obtain⟨_,_,e⟩:=st.outs;exact Heap.lt_size e
    ·obtain⟨o,e,q⟩:=st.one.obj;exact Heap.lt_size e
    ·obtain⟨o,e,q⟩:=st.two.obj;exact Heap.lt_size e
   rw[Ah (Nat.ne_of_lt lt)];exact(hf c hc).1
 done:=by
  intro X hP hw hK hc i pins s σ H E I hf st hg;subst hP hw hK;obtain⟨xs,ys,ha,hb,hl⟩:=hg;obtain⟨its,rv,pa⟩:=ha.its I;obtain⟨jts,rw',pb⟩:=hb.its I
  have off:zB z ti to i1 i2 a b:=⟨nd,λm=>by (obtain⟨o,e⟩:=ha.some;rw[(hf a m).1]at e;cases e),λm=>by (obtain⟨o,e⟩:=hb.some;rw[(hf b m).1]at e;cases e)⟩
  have ty:s.TypeIs (.ref z) "zip" := ⟨_,st.zip,rfl⟩;have l1:=rv.length;have l2:=rw'.length;unfold pyNext;apply wpAny_bind;apply wpAny_attempt
  refine wpAny_callSpecial?_slot (name:="__next__") ty F.slot_zip_next ?_
  refine wpAny_call_entry F.slot_zip_next ty F.entry_zip_next ?_ (F.args_zip_next_1 _)
  refine A2z (I.ok.hd hc) off st pa pb (by simp;omega) λh1 e kp he=>?_
  obtain⟨o,e1,e2⟩:=he;apply wpAny_bind
  refine wpAny_isInstance (T := "StopIteration") (b:=true) ⟨o,e1,e2⟩ isSubtype_stop ?_
  exact wpAny_pure ⟨rfl,I.turnL (t':=s.toks) hf λc o m e=>kp c o m e⟩
 self:=λ_ _ _ _ _ st h=>wpAny_pyIter_zip st.zip h
section
variable {P:Program}{w:World}{A:Around}{E:Value->Shared->Prop}{s:Shared}
noncomputable abbrev itO (t:Bool) (u:Addr):Obj:={ cls:=.type (if t then "tuple_iterator" else "list_iterator"),data:=.fields #[.ref u,.int 0 0] }
abbrev zh1 (h:Heap)(t1:Bool)(a:Addr):Heap:=h.push (itO t1 a)
abbrev zh2 (h:Heap)(t1 t2:Bool)(a b:Addr):Heap:=(zh1 h t1 a).push (itO t2 b)
abbrev zh3 (h:Heap)(t1 t2:Bool)(a b:Addr):Heap:=(zh2 h t1 t2 a b).push { cls:=.type "tuple",data:=.seq #[.ref h.objs.size,.ref (zh1 h t1 a).objs.size] }
abbrev zh4 (h:Heap)(t1 t2:Bool)(a b:Addr):Heap:=(zh3 h t1 t2 a b).push { cls:=.type "tuple",data:=.seq #[.none,.none] }
abbrev zh5 (h:Heap)(t1 t2:Bool)(a b:Addr):Heap:=(zh4 h t1 t2 a b).push { cls:=.type "zip",data:=.fields #[.none,.bool false,.bool false,.ref (zh2 h t1 t2 a b).objs.size,.ref (zh3 h t1 t2 a b).objs.size] }
theorem A3b (t1 t2:Bool)(a b:Addr)(xs ys:Array Value) :
 Meets (Builtin.«zip.__new__» ⟨[.type "zip",.ref a,.ref b],[]⟩) (λ_ R s=>SqA t1 s.heap a xs/\SqA t2 s.heap b ys/\R (.ok (.ret (.ref (zh4 s.heap t1 t2 a b).objs.size))) { s with heap:=zh5 s.heap t1 t2 a b }) :=
 .of_wp λP w A R s h=>by
  obtain⟨e,g,d,c,f⟩:=s;obtain⟨k,l,h⟩:=h;have m:=sub_zip
  cases t1 <;> cases t2
  ·have j:Heap.IsList (Shared.heap ⟨e,g,d,c,f⟩) a xs:=k
   have i:Heap.IsList (Shared.heap ⟨e.push { cls:=.type "list_iterator",data:=.fields #[.ref a,.int 0 0] },g,d,c,f⟩) b ys:=Heap.IsList.push l _
   wp_walk using wpAny_pyIter_list j,wpAny_pyIter_list i
   exact⟨_,rfl,h⟩
  ·have j:Heap.IsList (Shared.heap ⟨e,g,d,c,f⟩) a xs:=k
   have i:Heap.IsTuple (Shared.heap ⟨e.push { cls:=.type "list_iterator",data:=.fields #[.ref a,.int 0 0] },g,d,c,f⟩) b ys:=Heap.IsTuple.push l _
   wp_walk using wpAny_pyIter_list j,wpAny_pyIter_tuple i
   exact⟨_,rfl,h⟩
  ·have j:Heap.IsTuple (Shared.heap ⟨e,g,d,c,f⟩) a xs:=k
   have i:Heap.IsList (Shared.heap ⟨e.push { cls:=.type "tuple_iterator",data:=.fields #[.ref a,.int 0 0] },g,d,c,f⟩) b ys:=Heap.IsList.push l _
   wp_walk using wpAny_pyIter_tuple j,wpAny_pyIter_list i
   exact⟨_,rfl,h⟩
  ·have j:Heap.IsTuple (Shared.heap ⟨e,g,d,c,f⟩) a xs:=k
   have i:Heap.IsTuple (Shared.heap ⟨e.push { cls:=.type "tuple_iterator",data:=.fields #[.ref a,.int 0 0] },g,d,c,f⟩) b ys:=Heap.IsTuple.push l _
   wp_walk using wpAny_pyIter_tuple j,wpAny_pyIter_tuple i
   exact⟨_,rfl,h⟩
theorem Ac9 (e:h.get? j=some (itO t u)):ItAt t h j u 0:=by
 cases t
 ·exact⟨_,e,rfl,rfl⟩
 ·exact⟨_,e,rfl,rfl⟩
theorem Ad8 (t:SqA t1 s.heap a xs) (u:SqA t2 s.heap b ys)
 (q:∀h',Aa2 h' t1 t2 (s.heap.objs.size+4) (s.heap.objs.size+2) (s.heap.objs.size+3) s.heap.objs.size (s.heap.objs.size+1) a b .none 0->(∀c o,s.heap.get? c=some o->h'.get? c=some o)->Q (.ref (s.heap.objs.size+4)) { s with heap:=h' }) :
 wpAny (model P w) A (call (.type "zip") [.ref a,.ref b]) Q E s:=by
 apply callType_new F.called_zip (by decide) (F.typeCall_zip_2 _ _) (F.newCall_zip_2 _ _) (λo=>F.args_object_init_3 o _ _) F.entry_zip_new (A3b t1 t2 a b xs ys)
 refine⟨t,u,?_⟩
 have i:(zh1 s.heap t1 a).objs.size=s.heap.objs.size+1:=Heap.size_push ..
 have g:(zh2 s.heap t1 t2 a b).objs.size=s.heap.objs.size+2:=by rw[Heap.size_push,i]
 have f:(zh3 s.heap t1 t2 a b).objs.size=s.heap.objs.size+3:=by rw[Heap.size_push,g]
 have k:(zh4 s.heap t1 t2 a b).objs.size=s.heap.objs.size+4:=by rw[Heap.size_push,f]
 have d:=λ{h:Heap} {c:Addr} {o:Obj} (n:Obj) (e:h.get? c=some o)=>Heap.get?_push_of_some n e
 have j:(zh5 s.heap t1 t2 a b).get? (zh4 s.heap t1 t2 a b).objs.size=some _:=Heap.get?_push_size _ rfl;have m:(zh5 s.heap t1 t2 a b).get? (zh3 s.heap t1 t2 a b).objs.size=some _:=d _ (Heap.get?_push_size _ rfl);have l:(zh5 s.heap t1 t2 a b).get? (zh2 s.heap t1 t2 a b).objs.size=some _:=d _ (d _ (Heap.get?_push_size _ rfl));have p:(zh5 s.heap t1 t2 a b).get? (zh1 s.heap t1 a).objs.size=some _:=d _ (d _ (d _ (Heap.get?_push_size _ rfl)));have r:(zh5 s.heap t1 t2 a b).get? s.heap.objs.size=some _:=d _ (d _ (d _ (d _ (Heap.get?_push_size _ rfl))));rw[g,f,k]at j;rw[i,g]at l;rw[f]at m;rw[i]at p;rw[k]
 exact⟨⟨_,j,rfl⟩,q _ ⟨j,l,⟨_,_,m⟩,Ac9 r,Ac9 p⟩ λc o e=>d _ (d _ (d _ (d _ (d _ e))))⟩
end
theorem As1:bootBuiltins "zip" = some (.type "zip"):=by decide +kernel
section
variable {X:Cx}
def Bi2 (ta:TA):TI:=λσ H R=>ta σ H λvs H1=>∃a b,vs=[.ref a,.ref b]/\∃t1 t2 xs ys,SqK t1 H1 a xs/\SqK t2 H1 b ys/\R (Itz t1 t2 a b) H1
theorem A8j {p j e:Pos}{f:List Expr}{t:Nat}(hg:Gl X "zip") (hm:X.mg "zip" = none) (ha:QA X [a,b] m) (hs1:isStar a=false:=by rfl) (hs2:isStar b=false:=by rfl) :
 QI X (.Tuple f t e) (.Call (.Name "zip" p) [a,b] [] j) (Bi2 m):=by
 refine⟨?_⟩
 intro l s σ H R I h;have i:=G9 (es:=[b]) (env:=X.env) hs1
 refine Call_ (Nf I hg hm As1 (PyProof.Rows.callWith_type1 (thn (ha.1 _ _ s _ H _ I h) λus d ⟨vs,r,g,u,v⟩=>?_) i (by rw[(G9 (es:=[]) (env:=X.env) hs2)];rfl)))
 obtain⟨a',b',rfl,t1,t2,xs,ys,y,o,q⟩:=v;obtain⟨z,A,rfl,B,x⟩:=Vals.two u
 cases (show z=Value.ref _ from B)
 cases (show A=Value.ref _ from x)
 obtain⟨C,rv,w⟩:=y.its g;obtain⟨E,F,D⟩:=o.its g
 refine Ad8 w D λh' n G=>?_
 apply wpAny_pyIter_zip n.zip
 have J:[d.heap.objs.size+4,d.heap.objs.size+2,d.heap.objs.size+3,d.heap.objs.size,d.heap.objs.size+1].Nodup:=by simp
 refine⟨_,_,_,_,r,rfl,g.kept G,A1i J,n,λc hc=>?_,q⟩
 have k:d.heap.objs.size<=c:=by
  grind
 exact g.fpOk k (g.hok.fresh k)
end
def A8a:R2:=λx y H Q=>∃a b xs ys,x=.ref a/\y=.ref b/\H a=some (.tup xs)/\H b=some (.tup ys)/\xs.length+ys.length<=sizeLine/\∀p H',Same H H'->H' p=some (.tup (xs++ys))->Q (.ref p) H'
section
variable {X:Cx}
theorem Bt (h:H p=none) (o:HO):Same H (upd H p o):=λb u e=>by rw[Ah (Bk e h)];grind
theorem A4f:OpR X (binaryOp .Add) A8a:=by
 intro d s σ H x y v u Q I i f h;obtain⟨a,b,g,E,rfl,rfl,j,c,n,q⟩:=h
 by_cases e:g=[]
 ·cases i
  cases f
  subst e;obtain⟨o,r,t,_⟩:=I.tuple (SqT.of j);obtain⟨w,r2,A,_⟩:=I.tuple (SqT.of c);have C := r.nil_iff.mpr rfl;subst C;obtain⟨⟨c1,d1,D,s1⟩,k,F,n1,z⟩:=id t;obtain⟨⟨c2,d2,B,s2⟩,l,J,n2,G⟩:=id A;subst F z J G
  exact concat_meets ⟨_,k,rfl⟩ ⟨_,l,rfl⟩ noFill_tuple_add seq_tuple_add PySem.F.slot_tuple_add PySem.F.entry_tuple_add (PySem.F.args_tuple_add_2 _ _)
   (tuple_addW0 a b _ _ _ _ _ _ _ _ (by simp)) ⟨k,l,⟨.ref b,H,I,rfl,q b H (λ_ _ e=>e) c⟩⟩
 ·refine A6g _ s _ H _ _ v u Q I i f ⟨a,b,g,E,rfl,rfl,SqT.of j,SqT.of c,e,n,λK=>?_,λK p m=>?_⟩
  ·exact q a H (λ_ _ e=>e) (by simp_all)
  ·exact q p _ (Bt m _) Av
end
section
variable {P:Program}{w:World}{A:Around}{E:Value->Shared->Prop}{s:Shared}
theorem A8e (quiet:A.handled=none)(t:Bool)(j u:Addr)(ne:u≠j)(vs:Array Value):Draws P w A j [j,u] vs.size (λi v=>vs[i]?=some v) (λi h=>ItAt t h j u i/\SqA t h u vs) where
 live:=λi h x=>let ⟨o,e,_⟩:=x.1.obj; ⟨o,e⟩
 frame:=λi h h' x k=>⟨x.1.stay λo e=>k j (by simp) o e,x.2.stay λo e=>k u (by simp) o e⟩
 item:=λi s Q E hi x q=>next_item x.1 x.2 (x:=vs[i]) (by simp[hi]) λh' a b=>q _ h' s.toks (by simp[hi]) ⟨a,x.2.stay λo e=>b.extBut _ _ ne e⟩ b
 done:=λs Q E x q=>next_end quiet x.1 x.2 (by simp) q
theorem Af1 (u:Addr)(vs:Array Value)(n:Nat)(b:Option Addr)(l:Array (Option Value)) :
 Meets (Builtin.«enumerate.__new__» ⟨[.type "enumerate",.ref u],[]⟩) (λ_ R s=>s.heap.get? u=some { cls:=.type "tuple",dict:=b,data:=.seq vs n,slots:=l } /\
  R (.ok (.ret (.ref (s.heap.push (itO true u)).objs.size))) { s with heap:=(s.heap.push (itO true u)).push { cls:=.type "enumerate",data:=.fields #[.none,.bool false,.ref s.heap.objs.size,rawInt 0,.none,.none] } }) :=
 .of_wp λP w A R s h=>by
  obtain⟨i,g,d,f,k⟩:=s;obtain⟨e,h⟩:=h;have j:=sub_enumerate;have a:Heap.IsTuple (Shared.heap ⟨i,g,d,f,k⟩) u vs:=⟨_,e,rfl,n,rfl⟩
  wp_walk using AutoSeq1.wpAny_loadPart' e
  refine wpAny_stack_any λm=>wpAny_pure ?_
  split
  ·rename_i c _ _ _ _ _
   cases (c==Value.type "enumerate")
   ·wp_walk using AutoSeq1.wpAny_loadPart' e,wpAny_pyIter_tuple a
    exact⟨_,rfl,h⟩
   ·wp_walk using AutoSeq1.wpAny_loadPart' e,wpAny_pyIter_tuple a
    exact⟨_,rfl,h⟩
  ·wp_walk using AutoSeq1.wpAny_loadPart' e,wpAny_pyIter_tuple a
   exact⟨_,rfl,h⟩
theorem Yh (p:SqA t s.heap u vs)
 (q:∀f,IsEnum f (s.heap.objs.size+1) s.heap.objs.size 0 .none->ItAt t f s.heap.objs.size u 0->(∀c o,s.heap.get? c=some o->f.get? c=some o)->Q (.ref (s.heap.objs.size+1)) { s with heap:=f }) :
 wpAny (model P w) A (call (.type "enumerate") [.ref u]) Q E s:=by
 cases t
 ·exact call_enumerate_list p λf a b c d=>q f a b d
 ·obtain⟨⟨c,i,m,l⟩,e,k,n,g⟩:=p
  simp only at k g;subst k g
  apply callType_new F.called_enumerate (by decide) (F.typeCall_enumerate_1 _) (F.newCall_enumerate_1 _) (λo=>F.args_object_init_2 o _) F.entry_enumerate_new (Af1 u vs n i l)
  refine⟨e,?_⟩
  have j:(s.heap.push (itO true u)).objs.size=s.heap.objs.size+1:=Heap.size_push ..;have h:IsEnum ((s.heap.push (itO true u)).push { cls:=.type "enumerate",data:=.fields #[.none,.bool false,.ref s.heap.objs.size,rawInt 0,.none,.none] }) (s.heap.push (itO _ u)).objs.size _ 0 _:=Heap.get?_push_size _ rfl;rw[j]at h;rw[j]
  exact⟨⟨_,h,rfl⟩,q _ h (Ac9 (Heap.get?_push_of_some _ (Heap.get?_push_size _ rfl))) λc o x=>Heap.get?_push_of_some _ (Heap.get?_push_of_some _ x)⟩
end
def Ite (t:Bool)(a:Addr):It :=
 ⟨
  λi H=>∃xs x,SqK t H a xs/\xs[i]?=some x,
  λi H v H'=>∃p x,v=.ref p/\H p=none/\H'=upd H p (.tup [.int i,x])/\∀xs,SqK t H a xs->xs[i]?=some x,
  λi H=>∃xs,SqK t H a xs/\xs.length<=i⟩
theorem Aq8 {P:Program}{w:World}{K:PySem.W.Frag}{t:Bool}{elts:List Expr}{kk:Nat}{pos:Pos}{e j a:Addr}(ne:e≠j) :
 Turn P w K (.Tuple elts kk pos) (Ite t a) [e,j] e (λi h=>(∃old,IsEnum h e j i old)/\ItAt t h j a i) where
 mem:=by simp
 obj:=λi h st c hc=>by
  simp only[List.mem_cons,List.not_mem_nil,or_false]at hc
  rcases hc with rfl | rfl
  ·obtain⟨old,q⟩:=st.1;exact⟨_,q,λv e=>by cases e⟩
  ·obtain⟨o,e,q⟩:=st.2.obj;exact⟨o,e,λv e=>by rw[q]at e;cases e⟩
 keep:=λi h h' st k=>by
  obtain⟨⟨old,q⟩,r⟩:=st
  exact⟨⟨old,k e (by simp) _ q⟩,r.stay λo e=>k j (by simp) o e⟩
 item:=by
  intro X hP hw hK hc i pins s σ H E I hf st hg;subst hP hw hK;obtain⟨xs,x,ha,hx⟩:=hg;obtain⟨⟨old,en⟩,it⟩:=st;obtain⟨its,rv,pa⟩:=ha.its I;obtain⟨u,hu,ru⟩:=rv.get hx
  have off:∀c∈[e,j],a≠c:=λc m z=>by obtain⟨o,q⟩:=ha.some;rw[z,(hf c m).1]at q;cases q
  have dr:=A8e (P:=X.prog) (w:=X.w) (A:=X.A.in1) (I.ok.hd hc) t j a (off j (by simp)) its.toArray
  have li:i<its.toArray.size:=by simpa using (List.getElem?_eq_some_iff.mp hu).1
  refine wpAny_pyNext_enum_itemD dr en ⟨it,pa⟩ li ne (by simp;exact⟨ne,λz=>off e (by simp) z.symm⟩) λu' h1 tk pu ou st1 new _ kp=>?_
  have eu:u'=u:=by
   have pu:its.toArray[i]?=some u':=pu;rw[List.getElem?_toArray,hu]at pu;cases pu;rfl
  subst eu
  refine⟨_,rfl,?_⟩
  apply wpAny_letOwnedTupleGo_enum ou;intro h2 en2 sb
  have lt:∀c∈[e,j],c<s.heap.objs.size:=λc m=>by
   simp only[List.mem_cons,List.not_mem_nil,or_false]at m
   rcases m with rfl | rfl
   ·exact Heap.lt_size en
   ·obtain⟨o,e,_⟩:=it.obj;exact Heap.lt_size e
  have new2:h2.get? s.heap.objs.size=some { cls:=.type "tuple",data:=.seq #[.int i tk,u'] }:=sb.extBut _ _ (Nat.ne_of_gt (lt e (by simp))) new
  have ok:zA X.prog X.w (upd H s.heap.objs.size (.tup [.int i,x])) h2 s.heap.objs.size (.tup [.int i,x]):=⟨(show 2<=sizeLine by decide),[.int i tk,u'],.cons ⟨tk,rfl⟩ (.cons ru .nil),⟨_,new2,rfl,⟨_,rfl⟩,rfl⟩⟩
  have I2:=I.turnLay (t':=tk+1) hf (h':=h2) (λc o m q=>sb.extBut _ _ (λz=>m (by simp[z])) (kp c o (λz=>m (by simp[z])) (λz=>m (by simp[z])) q)) (Nat.le_refl _) ok
  refine⟨.ref s.heap.objs.size,_,I2,rfl,⟨_,x,rfl,I.hok.fresh (Nat.le_refl _),rfl,λxs' h=>?_⟩,⟨⟨u',?_⟩,?_⟩,λc m=>?_⟩
  ·rw[h.one ha];exact hx
  ·have:IsEnum h2 e j ((i:Int)+1) u':=en2
   simpa using this
  ·exact st1.1.stay λo q=>sb.extBut _ _ (Ne.symm ne) q
  ·rw[Ah (Nat.ne_of_lt (lt c m))]
   exact(hf c m).1
 done:=by
  intro X hP hw hK hc i pins s σ H E I hf st hg;subst hP hw hK;obtain⟨xs,ha,hl⟩:=hg;obtain⟨⟨old,en⟩,it⟩:=st;obtain⟨its,rv,pa⟩:=ha.its I
  have off:∀c∈[e,j],a≠c:=λc m z=>by obtain⟨o,q⟩:=ha.some;rw[z,(hf c m).1]at q;cases q
  have ty:s.TypeIs (.ref e) "enumerate" := ⟨_,en,rfl⟩;have ln:=rv.length;unfold pyNext;apply wpAny_bind;apply wpAny_attempt
  refine wpAny_callSpecial?_slot (name:="__next__") ty F.slot_enumerate_next ?_
  refine wpAny_call_entry F.slot_enumerate_next ty F.entry_enumerate_next ?_ (F.args_enumerate_next_1 _)
  apply wpAny_bind (m:=field (.ref e) 2);apply wpAny_field en rfl (x:=.ref j) rfl;apply wpAny_bind
  refine next_end (I.ok.hd hc) it pa (by simp;omega) λh1 x kp hx=>?_
  obtain⟨o,e1,e2⟩:=hx;apply wpAny_bind
  refine wpAny_isInstance (T := "StopIteration") (b:=true) ⟨o,e1,e2⟩ isSubtype_stop ?_
  exact wpAny_pure ⟨rfl,I.turnL (t':=s.toks) hf λc o m q=>kp c o (λz=>m (by simp[z])) q⟩
 self:=λ_ _ _ _ _ st h=>let ⟨_,q⟩:=st.1;wpAny_pyIter_enum q h
theorem Ab1:bootBuiltins "enumerate" = some (.type "enumerate"):=by decide +kernel
section
variable {X:Cx}
def A7x (ta:TA):TI:=λσ H R=>ta σ H λvs H1=>∃a,vs=[.ref a]/\∃t xs,SqK t H1 a xs/\R (Ite t a) H1
theorem Ai3 (hg:Gl X "enumerate") (hm:X.mg "enumerate" = none) (ha:QA X [a] i) (hs1:isStar a=false:=by rfl) :
 QI X (.Tuple d v b) (.Call (.Name "enumerate" p) [a] [] f) (A7x i):=by
 refine⟨?_⟩
 intro j s σ H R I h
 refine Call_ (Nf I hg hm Ab1 (PyProof.Rows.callWith_type1 (thn (ha.1 _ _ s _ H _ I h) λus x ⟨vs,o,e,r,u⟩=>?_) (G9 (es:=[]) (env:=X.env) hs1) rfl))
 obtain⟨a',rfl,t,xs,l,q⟩:=u;obtain⟨w,rfl,m⟩:=vals1 r
 cases (show w=Value.ref _ from m)
 obtain⟨n,rv,y⟩:=l.its e
 refine Yh y λh' k z A=>?_
 apply wpAny_pyIter_enum k
 refine⟨_,_,_,_,o,rfl,e.kept A,Aq8 (Nat.ne_of_gt (Nat.lt_succ_self _)),⟨⟨_,k⟩,z⟩,λc hc=>?_,q⟩
 have g:x.heap.objs.size<=c:=by
  grind
 exact e.fpOk g (e.hok.fresh g)
end
section
variable {X:Cx}{a b:Expr}{ta tb:TE}{pos:Pos}
def A8i (neg:Bool):R2:=λx y H Q=>∃d ds,Tr H d x/\(Tr H (.list ds) y\/Tr H (.tuple ds) y)/\Flat d/\PyData.canLayAll0 ds=true/\Q (.bl (if neg then !ds.any (λe=>PyData.eqv e d) else ds.any λe=>PyData.eqv e d)) H
theorem Ke (hu:X.A.units+64<cLine)(ha:QE X a ta)(hb:QE X b tb)(hm:behindInMarks .NotIn b=false):QT X (.Compare a [.NotIn] [b] pos) (Np (tOp (A8i true) ta tb)):=⟨Kg (As0 hu) ha.1 hb.1 hm⟩
end
end L2
set_option autoImplicit true
namespace L2
open PySem PySem.Spec PyProof.Rows
theorem Ag : QE X (.Constant (.int i) j a) (tC (.int i)) :=
 ⟨Ax8 ⟩
theorem Hz : QE X (.Constant (.bool b) j a) (tC (.bl b)) :=
 ⟨A7f ⟩
theorem Ag5 : QE X (.Constant .none j a) (tC .non) :=
 ⟨A2y ⟩
theorem Af3 : QE X (.Constant (.str x) j a) (tC (.str x)) :=
 ⟨Az0 ⟩
theorem An9 (hg:Gl X x) (hm:X.mg x=some u) (r:RelV v u) (hd:(x==("__debug__" : Str))=false:=by decide):QE X (.Name x a) (tC v) :=
 ⟨A5g (hg:=hg) (hm:=hm) (r:=r) (hd:=hd)⟩
theorem Cm {a:Pos}(hg:Gl X x) (hm:X.mg x=none) (hv:bootBuiltins x=some u) (r:RelV v u) (hn:x ≠ "__name__" := by decide) (hd:(x==("__debug__" : Str))=false:=by decide):QE X (.Name x a) (tC v) :=
 ⟨A5s (hg:=hg) (hm:=hm) (hv:=hv) (r:=r) (hn:=hn) (hd:=hd)⟩
theorem Qd (h:QE X a t):QE X (.BoolOp op [a] pos) t :=
 ⟨Bf8 (h:=h.get)⟩
theorem By : QSs X [] An3 :=
 ⟨A6d ⟩
theorem A1s : QS X stm Ae8 :=
 ⟨A0c ⟩
theorem Ab9 (a:X.K=Kq) {k:Nat} (hc:X.calm=true) (h:QGs X es t) (hn:(assignEach es X.env).length=n:=by rfl) (hst:(assignEach es X.env).findIdx? (·.1)=none:=by rfl):QG X (.Tuple es k pos) (Ab3 Kq n t):=by
 subst a;exact⟨A8p (hc:=hc) (h:=h.get) (hn:=hn) (hst:=hst)⟩
theorem Fq (a:X.K=Kq) (hl:QE X l b):QI X c l (W7 Kq b):=by
 subst a;exact⟨Bd8 (hl:=hl.get)⟩
theorem Ad : QA X [] Dy :=
 ⟨Nh ⟩
theorem Af (ha:QE X e te)(hr:QA X es t)(hs:isStar e=false:=by rfl):QA X (e::es) (Cd te t) :=
 ⟨Ao8 (ha:=ha.get) (hr:=hr.get) (hs:=hs)⟩
theorem Aw5 (F:FnOk X.prog X.w X.K X.mg X.base CX k f fd ps sp)(hr:Room k X.A)(hg:Gl X x)(hm:X.mg x=some (.ref f))(hk:PySem.W.keepIn X.K (.ref f)=true)(hb:Binds X.K fd ps ds)(hd:Vals dvs ds)(hx:Ul CX X E)(ha:QA X (e::es) t)(hdb:(x==("__debug__" : Str))=false:=by decide) (hn:noStar (e::es)=true:=by rfl):QE X (.Call (.Name x p) (e::es) [] pos) (Z6 sp dvs E t) :=
 ⟨A0l (F:=F) (hr:=hr) (hg:=hg) (hm:=hm) (hk:=hk) (hb:=hb) (hd:=hd) (hx:=hx) (ha:=ha.get) (hdb:=hdb) (hn:=hn)⟩
theorem Ak7 (a:X.K=Kq) (pa:PlainAttrs T) (slot:Slot T name idn) (hty:typeOf (.builtin idn)=pure (.type "method_descriptor")) (hm:MtR X idn r) (ho:QE X o to) (ha:QA X (e::es) t) (hbase:attributeBase o name X.env (eval o X.env)=eval o X.env:=by rfl) (hfew:((backTo cpos (starEach (e::es) X.env)).all (λx=>!x.1)&&(backToKw cpos (keywordEach [] X.env)).all (λx=>x.1.isSome)
 && decide ((e::es).length+([]:List Keyword).length+(if ([]:List Keyword).isEmpty then 0 else 1)<30))=true:=by rfl) (hline:(apos.endLine==cpos.line)=true:=by rfl) (hs:starEach (e::es) X.env=(false,eval e X.env)::starEach es X.env:=by rfl) (hplain:(backTo cpos (starEach es X.env)).any (·.1)=false:=by rfl):QE X (.Call (.Attribute o name apos) (e::es) [] cpos) (tBM Kq T r to t):=by
 subst a;exact⟨A8d (pa:=pa) (slot:=slot) (hty:=hty) (hm:=hm) (ho:=ho.get) (ha:=ha.get) (hbase:=hbase) (hfew:=hfew) (hline:=hline) (hs:=hs) (hplain:=hplain)⟩
theorem G7 (b:X.K=Kq) (ho:QE X a ta) (hv:QE X e te) (hbase:attributeBase a "append" X.env (eval a X.env)=eval a X.env:=by rfl) (hfew:((backTo cpos (starEach [e] X.env)).all (λx=>!x.1)&&(backToKw cpos (keywordEach [] X.env)).all (λx=>x.1.isSome)
 && decide ([e].length+([]:List Keyword).length+(if ([]:List Keyword).isEmpty then 0 else 1)<30))=true:=by rfl) (hline:(apos.endLine==cpos.line)=true:=by rfl) (hns:isStar e=false:=by rfl):QE X (.Call (.Attribute a "append" apos) [e] [] cpos) (tBM Kq "list" rAppF ta (Cd te Dy)):=by
 subst b;exact⟨Au0 (ho:=ho.get) (hv:=hv.get) (hbase:=hbase) (hfew:=hfew) (hline:=hline) (hns:=hns)⟩
theorem A5d : QTs X [] A6b :=
 ⟨A4m ⟩
theorem qtN:∀a b c d e,QTs (Ef X N' scope a b c d e) [] A6b:=λ_ _ _ _ _=>A5d
theorem Xi (h:QT X c t):QTs X [c] t :=
 ⟨A6c (h:=h.get)⟩
theorem Iu (L:Ip X N' idx scope)(hc:X.calm=true)(hi:QI X tg iter wi)(hg:∀d C b a c,QG (Ef X N' scope d C b a c) tg g)(ht:∀d C b a c,QTs (Ef X N' scope d C b a c) ifs tc)(he:∀d C b a c,QE (Ef X N' scope d C b a c) elt te)(hs:∀x,foldedSetIterable iter X.env x=pure x:=by intro _;rfl):QE X (.ListComp elt [⟨tg,iter,ifs,0⟩] scope pos) (tLC idx wi g tc te) :=
 ⟨Bm3 (L:=L) (hc:=hc) (hi:=hi.get) (hg:=λd C b a c=>(hg _ C _ _ _).get) (ht:=λd C b a c=>(ht _ C _ _ _).get) (he:=λd C b a c=>(he _ C _ _ _).get) (hs:=hs)⟩
theorem Uh {f d:Pos}(hN:X.N.Nodup) (hi':X.N[i]?=some y) (hy:Loc X.env.scope y) (L:Ip X N' idx scope) (hc:X.calm=true) (hi:QI X tg iter wi) (hg:∀e C b a c,QG (Ef X N' scope e C b a c) tg g) (ht:∀e C b a c,QTs (Ef X N' scope e C b a c) ifs tc) (he:∀e C b a c,QE (Ef X N' scope e C b a c) elt te) (hsw:swapsWith (.ListComp elt [⟨tg,iter,ifs,0⟩] scope pos) (some (.Name y f)) d.line X.env=pure true:=by rfl) (hf:X.fn y=true\/X.env.scope.names.lookup y=some .local:=by first | exact .inl rfl | exact .inr rfl | assumption) (hs:∀x,foldedSetIterable iter X.env x=pure x:=by intro _;rfl):QS X (.Assign [.Name y f] (.ListComp elt [⟨tg,iter,ifs,0⟩] scope pos) d) (Uy (tLC idx wi g tc te) (Ey i)) :=
 ⟨A0b (hN:=hN) (hi':=hi') (hy:=hy) (L:=L) (hc:=hc) (hi:=hi.get) (hg:=λe C b a c=>(hg _ C _ _ _).get) (ht:=λe C b a c=>(ht _ C _ _ _).get) (he:=λe C b a c=>(he _ C _ _ _).get) (hsw:=hsw) (hs:=hs)⟩
theorem Qt (a:X.K=Kq) (hgl:Gl X "abs") (hm:X.mg "abs" = none) (ha:QA X (e::es) t) (hns:noStar (e::es)=true:=by rfl):QE X (.Call (.Name "abs" p) (e::es) [] pos) (tCB (Ng Kq) t):=by
 exact⟨Zm (hgl:=hgl) (hm:=hm) (ha:=ha.get) (hns:=hns)⟩
theorem Bh (a:X.K=Kq) (hgl:Gl X "isinstance") (hm:X.mg "isinstance" = none) (ha:QA X (e::es) t) (hns:noStar (e::es)=true:=by rfl):QE X (.Call (.Name "isinstance" p) (e::es) [] pos) (tCB (Mm Kq) t):=by
 exact⟨Z4 (hgl:=hgl) (hm:=hm) (ha:=ha.get) (hns:=hns)⟩
theorem O5 (a:X.K=Kq) (hgl:Gl X "isinstance") (hm:X.mg "isinstance" = none) (ha:QA X (e::es) t) (hns:noStar (e::es)=true:=by rfl):QE X (.Call (.Name "isinstance" p) (e::es) [] pos) (tCB (Jc Kq) t):=by
 exact⟨Wu (hgl:=hgl) (hm:=hm) (ha:=ha.get) (hns:=hns)⟩
theorem Eh (a:X.K=Kq) (hc:X.calm=true) (hgl:Gl X "all") (hm:X.mg "all" = none) (ha:QA X (e::es) t) (hns:noStar (e::es)=true:=by rfl):QE X (.Call (.Name "all" p) (e::es) [] pos) (tCB (Ky Kq) t):=by
 subst a;exact⟨X8 (hc:=hc) (hgl:=hgl) (hm:=hm) (ha:=ha.get) (hns:=hns)⟩
theorem O3 (a:X.K=Kq) (hgl:Gl X "int") (hm:X.mg "int" = none) (ha:QA X (e::es) t) (hns:noStar (e::es)=true:=by rfl):QE X (.Call (.Name "int" p) (e::es) [] pos) (tCB (K9 Kq) t):=by
 exact⟨Xv (hgl:=hgl) (hm:=hm) (ha:=ha.get) (hns:=hns)⟩
theorem Dk (a:X.K=Kq) (hgl:Gl X "tuple") (hm:X.mg "tuple" = none) (ha:QA X (e::es) t) (hns:noStar (e::es)=true:=by rfl):QE X (.Call (.Name "tuple" p) (e::es) [] pos) (tCB (Hk Kq) t):=by
 subst a;exact⟨Qk (hgl:=hgl) (hm:=hm) (ha:=ha.get) (hns:=hns)⟩
theorem Hh (a:X.K=Kq) (hgl:Gl X "list") (hm:X.mg "list" = none) (ha:QA X (e::es) t) (hns:noStar (e::es)=true:=by rfl):QE X (.Call (.Name "list" p) (e::es) [] pos) (tCB (Ia Kq) t):=by
 subst a;exact⟨Rf (hgl:=hgl) (hm:=hm) (ha:=ha.get) (hns:=hns)⟩
theorem Xb (a:X.K=Kq) (hc:X.calm=true) (hgl:Gl X "min") (hm:X.mg "min" = none) (ha:QA X (e::es) t) (hns:noStar (e::es)=true:=by rfl):QE X (.Call (.Name "min" p) (e::es) [] pos) (tCB (K5 Kq) t):=by
 exact⟨Xc (hc:=hc) (hgl:=hgl) (hm:=hm) (ha:=ha.get) (hns:=hns)⟩
theorem Pj (h:Nq es=some vs):QA X es (tK vs):=⟨Va h⟩
theorem QW.qt (h:QW X e t):QT X e t:=⟨h.get.pt⟩
theorem qv (i:Nat) {a:Pos}(hN:X.N[i]?=some x:=by rfl) (hv:Vis X.env.scope x:=by first | exact Or.inl rfl | exact Or.inr (Or.inl rfl) | exact Or.inr (Or.inr rfl)) (hd:(x==("__debug__" : Str))=false:=by decide) (hcd:(x==("__classdict__" : Str))=false:=by decide):QE X (.Name x a) (Gg i):=⟨A1o hN hv hd hcd⟩
end L2
namespace L2
open PySem
theorem Hc (h:QSs X st t) (k:t D a H):∃t,PSs X st t/\t D a H:=⟨t,h.get,k⟩
theorem Q9:Dz "NoneType" "int" = some false:=by trivial
theorem Q8:Dz "NoneType" "str" = some false:=by trivial
theorem Pq:Dz "NoneType" "bool" = some false:=by trivial
theorem Qa:Dz "NoneType" "list" = some false:=by trivial
theorem O2:Dz "NoneType" "tuple" = some false:=by trivial
theorem Yn:Dz "bool" "int" = some true:=by trivial
theorem Yv:Dz "bool" "str" = some false:=by trivial
theorem X5:Dz "bool" "bool" = some true:=by trivial
theorem V7:Dz "bool" "list" = some false:=by trivial
theorem Uv:Dz "bool" "tuple" = some false:=by trivial
theorem Ag3:Dz "int" "int" = some true:=by trivial
theorem Af0:Dz "int" "str" = some false:=by trivial
theorem Yz:Dz "int" "bool" = some false:=by trivial
theorem Yk:Dz "int" "list" = some false:=by trivial
theorem Wm:Dz "int" "tuple" = some false:=by trivial
theorem Ag0:Dz "str" "int" = some false:=by trivial
theorem Ae2:Dz "str" "str" = some true:=by trivial
theorem Yi:Dz "str" "bool" = some false:=by trivial
theorem Aa4:Dz "str" "list" = some false:=by trivial
theorem Wn:Dz "str" "tuple" = some false:=by trivial
theorem Aa3:Dz "list" "int" = some false:=by trivial
theorem Ye:Dz "list" "str" = some false:=by trivial
theorem Xw:Dz "list" "bool" = some false:=by trivial
theorem Xp:Dz "list" "list" = some true:=by trivial
theorem Uu:Dz "list" "tuple" = some false:=by trivial
theorem Wj:Dz "tuple" "int" = some false:=by trivial
theorem Xu:Dz "tuple" "str" = some false:=by trivial
theorem Ux:Dz "tuple" "bool" = some false:=by trivial
theorem Um:Dz "tuple" "list" = some false:=by trivial
theorem Sy:Dz "tuple" "tuple" = some true:=by trivial
section
variable {H:Hp}{a:Addr}
theorem Bf1 (h:H a=some (.lst xs)):Mj H (.ref a)=some "list" := by simp only[Mj,h]
theorem Be6 (h:H a=some (.tup xs)):Mj H (.ref a)=some "tuple" := by simp only[Mj,h]
theorem A6u (h:H a=some (.lst xs)):As6 H (.ref a)=some xs.length:=by simp only[As6,h]
theorem A3x (h:H a=some (.tup xs)):As6 H (.ref a)=some xs.length:=by simp only[As6,h]
end
def Bn5 (J:It)(g:TG)(tb:TS)(D:Ends)(σ:St)(H:Hp):Prop:=∃W:Nat->Nat->St->Hp->Prop,(∃m,W 0 m σ H)/\∀i m σ H,W i m σ H ->
 (J.stop i H/\D.nx σ H)\/(J.go i H/\∃N:St->Hp->Prop,(∀σ' H',N σ' H'->∃m',m'<m/\W (i+1) m' σ' H')/\∀x H',J.yld i H x H'->g x σ H' λσ2 H2=>tb { D with nx:=N,ct:=N,bk:=D.nx } σ2 H2)
section
variable {K:PySem.W.Frag}{idx:List (Option Nat)}{tl:TE}{g:TG}{tc:TT}{te:TE}{tb:TS}{D:Ends}{σ σ0:St}{H:Hp}{Q:VK}{a:Addr}{xs:List V}
theorem lw_seq:tLC idx (W7 K tl) g tc te σ H Q↔(tl σ H λx H1=>∃a,x=.ref a/\((∃xs,H1 a=some (.lst xs)/\LcW (Itl K a) g tc te Q (cst idx σ) H1)\/(∃xs,H1 a=some (.tup xs)/\LcW (Itt K a) g tc te Q (cst idx σ) H1))):=Iff.rfl
theorem A0x (Pv:Nat->St->Hp->Prop)(h0:Pv 0 σ H)(hl:∀i σ H,i<=xs.length->Pv i σ H->H a=some (.lst xs))
 (hs:∀i x σ H,xs[i]?=some x->Pv i σ H->g x σ H λσ2 H2=>tb { D with nx:=Pv (i+1),ct:=Pv (i+1),bk:=D.nx } σ2 H2) (hd:∀σ H,Pv xs.length σ H->D.nx σ H):Bn5 (Itl K a) g tb D σ H :=
 A0s Pv h0 (λi σ H hi p=>SqL.of (hl i σ H hi p)) hs hd
theorem A6f (Pv:Nat->St->List V->Hp->Prop)(h0:Pv 0 σ0 [] H)(hl:∀i σ acc H,i<=xs.length->Pv i σ acc H->H a=some (.lst xs)/\acc.length<=i)(hz:xs.length<=sizeLine)
 (hs:∀i x σ acc H,xs[i]?=some x->Pv i σ acc H->g x σ H λσ2 H2=>tc σ2 H2 λb H3=>if b=true then te σ2 H3 λy H4=>Pv (i+1) σ2 (acc++[y]) H4 else Pv (i+1) σ2 acc H3)
 (hd:∀σ acc H,Pv xs.length σ acc H->∀p,H p=none->Q (.ref p) (upd H p (.lst acc))):LcW (Itl K a) g tc te Q σ0 H :=
 A5r Pv h0 (λi σ acc H hi p=>⟨SqL.of (hl i σ acc H hi p).1,(hl i σ acc H hi p).2⟩) hz hs hd
end
abbrev g2 (K:PySem.W.Frag)(i j:Nat):TG:=Ab3 K 2 (Mi (Ey i) (Mi (Ey j) Af2))
mutual
noncomputable def noL:PyData->Bool
 | .none=>true
 | .bool _=>true
 | .int _=>true
 | .str _=>true
 | .tuple ds=>N6 ds
 | .list _=>false
 | .dict _=>false
noncomputable def N6:List PyData->Bool
 | []=>true
 | d::r=>noL d&&N6 r
end
mutual
theorem Tr.sameT {H H':Hp}(S:A3l H H'):∀{d:PyData}{v:V},noL d=true->Tr H d v->Tr H' d v
 | .none,_,_,h=>h
 | .bool _,_,_,h=>h
 | .int _,_,_,h=>h
 | .str _,_,_,h=>h
 | .tuple ds,_,n,⟨a,vs,e,q,r⟩=>⟨a,vs,e,S a vs q,TrL.sameT S n r⟩
 | .list _,_,n,_=>nomatch n
 | .dict _,_,n,_=>nomatch n
theorem TrL.sameT {H H':Hp}(S:A3l H H'):∀{ds:List PyData}{vs:List V},N6 ds=true->TrL H ds vs->TrL H' ds vs
 | [],_,_,h=>h
 | d::r,_,n,⟨v,vr,e,q1,q2⟩=>by
  obtain⟨n1,n2⟩:=Bool.and_eq_true_iff.mp (show (noL d&&N6 r)=true from n)
  exact⟨v,vr,e,Tr.sameT S n1 q1,TrL.sameT S n2 q2⟩
end
theorem TrL.got {H:Hp}:∀{ds:List PyData}{vs:List V}{k:Nat}{d:PyData},TrL H ds vs->ds[k]?=some d->∃v,vs[k]?=some v/\Tr H d v
 | [],_,k,d,h,e=>by simp at e
 | d::r,_,0,_,⟨v,_,rfl,q,_⟩,e=>by simp at e;subst e;exact⟨v,rfl,q⟩
 | d::r,_,k+1,_,⟨_,_,rfl,_,q⟩,e=>by simp at e;simpa using TrL.got q e
theorem TrL.app {H:Hp}:∀{ds es:List PyData}{vs us:List V},TrL H ds vs->TrL H es us->TrL H (ds++es) (vs++us)
 | [],es,_,us,h,q=>by cases (show _=[] from h);exact q
 | d::r,es,_,us,⟨v,vr,rfl,q1,q2⟩,q=>⟨v,vr++us,rfl,q1,TrL.app q2 q⟩
theorem TrL.one (h:Tr H d v):TrL H [d] [v]:=⟨v,[],rfl,h,rfl⟩
theorem Ak1 (h:∀d∈ds,noL d=true):N6 ds=true:=by
 induction ds with
 | nil=>rfl
 | cons a r b=>show (noL a&&N6 r)=true;grind
end L2
namespace L2
open PySem PySem.Spec PyProof.Rows
noncomputable def sgn (c:Nat):V:=.str ⟨#[c]⟩
def Its (x:Str):It:=⟨λi _=>i<x.cps.size,λi H v H'=>H'=H/\∃c,x.cps[i]?=some c/\v=sgn c,λi _=>i=x.cps.size⟩
def Bd0 (it:Addr)(ty:String)(x:Str)(t:Tok)(i:Nat)(h:Heap):Prop:=h.IsStrIter it ty x t i
theorem Z3 {P:Program}{w:World}{K:PySem.W.Frag}{tg:Expr}{it:Addr}{ty:String}{x:Str}{t:Tok}
 (W:∀A':Around,A'.handled=none->Walks P w A' it [it] [it] x.cps.size (SignAt x) (Bd0 it ty x t))
 (hs:∀(A:Around) (i:Nat) (s:Shared) (Q:Value->Shared->Prop) (E:Value->Shared->Prop),Bd0 it ty x t i s.heap->Q (.ref it) s->wpAny (model P w) A (pyIter (.ref it)) Q E s)
 (hn:["enumerate", "zip", "dict_itemiterator", "dict_reverseitemiterator", "odict_iterator", "itertools.zip_longest", "itertools.pairwise"].contains ty=false):Turn P w K tg (Its x) [it] it (Bd0 it ty x t) where
 mem:=by simp
 obj:=λi h st b hb=>by
  have e:b=it:=by simpa using hb
  subst e;obtain⟨o,e,c,d⟩:=st
  exact⟨o,e,λv z=>by rw[d]at z;cases z⟩
 keep:=λi h h' st k=>by
  obtain⟨o,e,r⟩:=st
  exact⟨o,k it (by simp) o e,r⟩
 item:=by
  intro X hP hw hK hc i pins s σ H E I hf st hg;subst hP hw hK
  obtain⟨f0,f1,f2,f3,f4,f5⟩:=hf it (by simp)
  refine (W X.A (I.ok.hd hc)).item i s _ _ hg st λv h' tk hv st' kk=>?_
  obtain⟨c,u,hx,rfl⟩:=hv
  have I1:Inv X pins σ H { s with heap:=h',toks:=tk }:=I.turned (λb o hb e=>kk b o (by simpa using hb) e) f0 f1 f3 f4 f5
  obtain⟨o,e,c',d⟩:=id st'
  exact⟨_,rfl,Al8 (s:={ s with heap:=h',toks:=tk }) e c' d hn ⟨sgn c,H,I1,⟨u,rfl⟩,⟨rfl,c,hx,rfl⟩,st',λb hb=>(hf b hb).1⟩⟩
 done:=by
  intro X hP hw hK hc i pins s σ H E I hf st hg;subst hP hw hK
  obtain⟨f0,f1,f2,f3,f4,f5⟩:=hf it (by simp)
  have e:i=x.cps.size:=hg;subst e
  exact(W X.A (I.ok.hd hc)).done s _ _ st λh' tk kk=>⟨rfl,I.turned (λb o hb e=>kk b o (by simpa using hb) e) f0 f1 f3 f4 f5⟩
 self:=hs
section
variable {X:Cx}{tg:Expr}
def Bk5 (tl:TE):TI:=λσ H R=>tl σ H λx H1=>∃y,x=.str y/\R (Its y) H1
theorem A0m {l:Expr}{k:TE}(hl:QE X l k):QI X tg l (Bk5 k):=by
 refine⟨?_⟩
 intro d s r H R I h
 refine thn (hl.1 d s r H _ I h) λv a ⟨x,m,c,u,n⟩=>?_
 obtain⟨y,e,q⟩:=n;subst e;obtain⟨t,rfl⟩:=u
 cases ha:y.cps.all (·<128)
 ·refine wpAny_pyIter_wide ha ?_
  refine⟨a.heap.objs.size,[a.heap.objs.size],_,_,m,rfl,c.kept (t':=a.toks) λb o e=>Heap.get?_push_of_some _ e,Z3 (ty := "str_iterator") (λp j=>Walks.strWide j _ y t) (λA i s Q E g h=>wpAny_pyIter_striter_wide g h) (by decide),⟨_,Heap.get?_push_size _ rfl,rfl,rfl⟩,λb f=>?_,q⟩
  have e:b=a.heap.objs.size:=by simpa using f
  subst e;exact c.fpOk (Nat.le_refl _) (c.hok.fresh (Nat.le_refl _))
 ·refine wpAny_pyIter_ascii ha ?_
  refine⟨a.heap.objs.size,[a.heap.objs.size],_,_,m,rfl,c.kept (t':=a.toks) λb o e=>Heap.get?_push_of_some _ e,Z3 (ty := "str_ascii_iterator") (λp j=>Walks.strAscii j _ y t) (λA i s Q E g h=>wpAny_pyIter_striter_ascii g h) (by decide),⟨_,Heap.get?_push_size _ rfl,rfl,rfl⟩,λb f=>?_,q⟩
  have e := by simpa using f
  subst e;exact c.fpOk (Nat.le_refl _) (c.hok.fresh (Nat.le_refl _))
end
end L2
namespace L2
open PySem
mutual
noncomputable def wt:PyData->Nat
 | .none=>4
 | .bool _=>5
 | .int _=>1921
 | .str x=>10*x.length+2
 | .list xs=>Jw xs+4
 | .tuple xs=>Jw xs+4
 | .dict _=>0
noncomputable def Jw:List PyData->Nat
 | []=>0
 | x::xs=>wt x+2+Jw xs
end
end L2
namespace L2
open PySem PySem.Spec PyProof.Rows
section
variable {P:Program}{w:World}{A:Around}
theorem Zx {s:Shared}{l:Addr}{c:List Value}{ks:List Key}{Q:Value->Shared->Prop}{E:Value->Shared->Prop}(g:A.handled=none)(hl:s.heap.IsTuple l c.toArray)
 (is:∀(i:Nat) (v:Value),c[i]?=some v->∃k,ks[i]?=some k/\Oa k v=true/\v.scannable=true) (hlen:ks.length=c.length) (few:c.length+1<scanBound)
 (fin:∀d tk,Uz P w s.heap.objs.size (dst ks) d->(∀b o,s.heap.get? b=some o->d.get? b=some o)->Q (.ref s.heap.objs.size) { s with heap:=d,toks:=tk }) :
 wpAny (model P w) A (call (.type "set") [.ref l]) Q E s:=by
 refine A1y (λz=>∃d tk,z={ s with heap:=d,toks:=tk }/\Uz P w s.heap.objs.size (dst ks) d/\∀b o,s.heap.get? b=some o->d.get? b=some o) ?_ λa=>?_
 ·rintro z ⟨d,tk,rfl,q1,q2⟩
  exact fin d tk q1 q2
 have hl2:(Ht s a).heap.IsTuple l c.toArray:=hl.push _;obtain⟨ob,g1,g2,n,g3⟩:=hl2;obtain⟨_,dct,_,sls⟩:=ob
 dsimp only at g2 g3
 subst g2 g3;have w1:=F.sub_tuple_set;have w2:=F.sub_tuple_frozenset
 have w3:(Value.type "tuple" == Value.type "dict")=false:=by decide
 have hl3:(Ht s a).heap.IsTuple l c.toArray:=⟨_,g1,rfl,n,rfl⟩;unfold Builtin.«set.__init__» Builtin.Frozenset.updateFrom noKeywords;generalize walk:pyIter=itr
 wp_walk
 subst walk;apply wpAny_pyIter_tuple hl3;apply wpAny_bind;apply wpAny_runValue
 have lt:l<s.heap.objs.size:=by obtain⟨o,e,_⟩:=hl;exact Heap.lt_size e
 have sz:(Ht s a).heap.objs.size=s.heap.objs.size+1:=Heap.size_push _ _
 have f:A.in1.in1.in1.handled=none:=by simp[g]
 have h:l≠(Ht s a).heap.objs.size:=by rw[sz];exact Nat.ne_of_lt (Nat.lt_succ_of_lt lt)
 have wk:=(Walks.tuple (prog:=P) (w:=w) f _ l h c.toArray).toS
 refine fill wk (S:=s.heap.objs.size) ?_ ks (by simpa using hlen) (λi v p=>is i v (by simpa using p)) (by simpa using few) _ ?_ c.length 0 _ (by simp) ⟨⟨_,Heap.get?_push_size _ rfl,rfl,rfl⟩,hl3.push _⟩ (Moved.refl wk.grefl) ?_
 ·rw[sz]
  intro q
  rcases List.mem_cons.mp q with q | q
  ·exact Nat.ne_of_lt (Nat.lt_succ_self _) q
  ·exact Nat.ne_of_gt lt (List.mem_singleton.mp q)
 ·intro z mv sh
  obtain⟨d,g',d',t',o'⟩:=z;have e1:g'=s.gens:=mv.gens;have e2:d'=s.drawn:=mv.drawn;have e3:o'=s.os:=mv.os;subst e1 e2 e3;apply wpAny_pure
  show wpAny _ _ (ret Value.none) _ _ _
  refine wpAny_pure ⟨rfl,d,t',rfl,sh,λb o q=>mv.heap b o ?_ (Heap.get?_push_of_some _ (Heap.get?_push_of_some _ q))⟩
  have bl:=Heap.lt_size q;intro m
  rcases List.mem_cons.mp m with m | m
  ·exact Nat.ne_of_lt bl m
  ·have m:=List.mem_singleton.mp m
   rw[sz]at m;exact Nat.ne_of_lt (Nat.lt_succ_of_lt bl) m
 ·have new:((Ht s a).heap.push { cls:=.type "tuple_iterator",data:=.fields #[.ref l,.int 0 0] }).get? s.heap.objs.size=some (bare a):=Heap.get?_push_of_some _ (Tt s a)
  have e:Lz ([]:List Key)=λ_=>false:=rfl
  show Heap.SetOf (Er P w) _ _ (Lz []) 0
  rw[e]
  exact⟨_,_,_,_,new,⟨rfl,rfl,rfl⟩,rfl,λx m=>by simp at m,λk=>by simp,by decide,by cases a <;> rfl,rfl⟩
end
section
variable {X:Cx}
def Vs (P:Program)(w:World)(K:PySem.W.Frag):List V->Hp->VK->Prop:=λxs H Q=>∃(a:Addr) (vs:List V) (ks:List Key),xs=[.ref a]/\SqT K H a vs/\vs.map keyV=ks.map some/\vs.length<1000/\∀p,H p=none->Q (.ref p) (upd H p (A5z P w p (dst ks)))
theorem Au6 (hc:X.calm=true):zE X (.type "set") (Vs X.prog X.w X.K):=by
 intro l s σ H xs us Q I r h;obtain⟨a,c,b,rfl,w,p,hv,q⟩:=h;obtain⟨u,rfl,f⟩:=vals1 r
 cases (show u=Value.ref a from f)
 obtain⟨j,d,t,hz⟩:=I.tuple w
 have g:b.length=c.length:=by have:=congrArg List.length p;grind
 refine Zx (ks:=b) (I.ok.hd hc) (show s.heap.IsTuple a j.toArray from t) (λi v e=>?_) (by rw[g,d.length]) (by rw[<- d.length];unfold scanBound;omega) λh' tk n A=>?_
 ·have C:i<c.length:=by have:=(List.getElem?_eq_some_iff.mp e).1;rw[d.length];exact this
  have B:i<b.length:=by omega
  obtain⟨u,m,f⟩:=d.get (i:=i) (x:=c[i]) (by simp[C])
  rw[e]at m
  cases m
  have D:keyV c[i]=some b[i]:=by
   have:=congrArg (λz=>z[i]?) p
   grind
  exact⟨b[i],by simp ,A6j D f⟩
 ·have k:zA X.prog X.w (upd H s.heap.objs.size (A5z X.prog X.w s.heap.objs.size (dst b))) _ _ (A5z _ _ _ _) :=
   ⟨n,let ⟨o,_,_,_,e,_⟩:=n; ⟨o,e⟩,λh1 h2 x y=>Ph x y⟩
  exact⟨.ref _,_,I.laid A (Nat.le_refl _) k,rfl,q _ (I.hok.fresh (Nat.le_refl _))⟩
theorem Ab5 {e:Expr}{c:TE}{p d b a:Pos}(hc:X.calm=true)(hgs:Gl X "set") (hms:X.mg "set" = none) (hgl:Gl X "len") (hml:X.mg "len" = none) (he:PE X e c) (hns:isStar e=false:=by rfl) :
 PE X (.Call (.Name "len" p) [.Call (.Name "set" d) [e] [] a] [] b) (tCB (Oh X.prog X.w) (Cd (tCB (Vs X.prog X.w X.K) (Cd c Dy)) Dy)) :=
 Gy Yp hgl hml A1w (Ao8 (Gz (Au6 hc) hgs hms Bb2 (Ao8 he Nh hns) (by decide) (by rfl) (by show !isStar e&&true=true;grind)) Nh rfl) (by decide) (by rfl) rfl
theorem Ad5 {Kq:PySem.W.Frag}(b:X.K=Kq){e:Expr}{d:TE}{p f c a:Pos}(hc:X.calm=true)(hgs:Gl X "set") (hms:X.mg "set" = none) (hgl:Gl X "len") (hml:X.mg "len" = none) (he:QE X e d) (hns:isStar e=false:=by rfl):QE X (.Call (.Name "len" p) [.Call (.Name "set" f) [e] [] a] [] c) (tCB (Oh X.prog X.w) (Cd (tCB (Vs X.prog X.w Kq) (Cd d Dy)) Dy)):=by
 subst b;exact⟨Ab5 (hc:=hc) (hgs:=hgs) (hms:=hms) (hgl:=hgl) (hml:=hml) (he:=he.get) (hns:=hns)⟩
end
end L2
namespace HT
open PySem PySem.Spec PyProof.Rows
section
variable {prog:Program}{w:World}{A:Around}{E:Value->Shared->Prop}{s:Shared}
theorem Pk {sl:Addr}{vst:Value}{n:Nat}{Q:Int×Int×Nat->Shared->Prop}(hs:s.heap.IsSliceOf sl .none .none vst)(ps:IsPart vst (some (-1)))
 (h:Q ((n:Int)-1,-1,n) s):wpAny (model prog w) A (Builtin.Slice.sliceApplied (.ref sl) (pure (n:Int))) Q E s:=by
 obtain⟨os,hos,hcs,hds⟩:=id hs;unfold Builtin.Slice.sliceApplied Builtin.Slice.sliceFields
 refine wpAny_bind (wpAny_bind (wpAny_field hos hds (x:=.none) rfl (wpAny_bind (wpAny_field hos hds (x:=.none) rfl (wpAny_bind (wpAny_field hos hds (x:=vst) rfl (wpAny_pure ?_)))))))
 refine wpAny_bind (Mz ps ?_)
 show wpAny _ _ (if (((-1):Int)==0)=true then _ else _) _ _ s
 rw[if_neg (by decide)]
 refine wpAny_bind (slicePart_none (wpAny_bind (slicePart_none (wpAny_bind (wpAny_pure ?_)))))
 show wpAny _ _ (match Builtin.Slice.sliceAdjust none none (-1) (n:Int) with | (lo,hi)=>pure (lo,(-1:Int),Builtin.Slice.slicePlaces lo hi (-1))) _ _ s
 have e1:Builtin.Slice.sliceAdjust none none (-1) (n:Int)=((n:Int)-1,-1):=rfl;rw[e1]
 show wpAny _ _ (pure ((n:Int)-1,(-1:Int),Builtin.Slice.slicePlaces ((n:Int)-1) (-1) (-1))) _ _ s
 have e2:Builtin.Slice.slicePlaces ((n:Int)-1) (-1) (-1)=n:=by
  unfold Builtin.Slice.slicePlaces
  rw[if_neg (by decide)]
  by_cases h0:n=0
  ·subst h0;rfl
  ·rw[if_pos (by omega)]
   have:((n:Int)-1 - -1-1) / (- -1)=(n:Int)-1:=by
    have:(- -1:Int)=1:=by decide
    rw[this,Int.ediv_one];omega
   rw[this];omega
 rw[e2];exact wpAny_pure h
theorem A0t (xs:Array Value):((List.range xs.size).filterMap λ(m:Nat)=>xs[((xs.size:Int)-1+(m:Int)*(-1)).toNat]?).toArray=xs.toList.reverse.toArray:=by
 congr 1
 apply List.ext_getElem?;intro i
 have:((List.range xs.size).filterMap λ(m:Nat)=>xs[((xs.size:Int)-1+(m:Int)*(-1)).toNat]?)=(List.range xs.size).map λm=>xs.toList.reverse.getD m .none:=by
  have d:∀l:List Nat,(∀m∈l,m<xs.size)->(l.filterMap λ(m:Nat)=>xs[((xs.size:Int)-1+(m:Int)*(-1)).toNat]?)=l.map λm=>xs.toList.reverse.getD m .none:=by
   intro l
   induction l with
   | nil=>intro _;rfl
   | cons m r j =>
    intro a;have b:=a m (.head _)
    have e:((xs.size:Int)-1+(m:Int)*(-1)).toNat=xs.size-1-m:=by omega
    have c:m<xs.toList.reverse.length:=by simpa using b
    have n:xs.toList.reverse.getD m .none=xs[xs.size-1-m]:=by
     rw[List.getD_eq_getElem?_getD,List.getElem?_eq_getElem c]
     simp
    have o:xs[((xs.size:Int)-1+(m:Int)*(-1)).toNat]?=some (xs.toList.reverse.getD m .none):=by
     rw[n,e,Array.getElem?_eq_getElem]
    rw[List.filterMap_cons_some (f:=λ(m:Nat)=>xs[((xs.size:Int)-1+m*-1).toNat]?) o,List.map_cons,j λk g=>a k (.tail _ g)]
  exact d _ λm b=>List.mem_range.mp b
 rw[this]
 by_cases h:i<xs.size
 ·have c:i<xs.toList.reverse.length:=by simpa using h
  rw[List.getElem?_map,List.getElem?_range h,List.getElem?_eq_getElem c]
  show some (xs.toList.reverse.getD i _)=_
  rw[List.getD_eq_getElem?_getD,List.getElem?_eq_getElem _];rfl
 ·rw[List.getElem?_eq_none (by simpa using h),List.getElem?_eq_none (by simpa using h)]
theorem Pa {t sl:Addr}{items:Array Value}{vst:Value}{Q:Value->Shared->Prop}(ht:IsTup s.heap t items)(hs:s.heap.IsSliceOf sl .none .none vst)(ps:IsPart vst (some (-1)))
 (h:Q (.ref s.heap.objs.size) { s with heap:=s.heap.push { cls:=.type "tuple",data:=.seq items.toList.reverse.toArray } })
 (hsz:items.size<=sizeLine):wpAny (model prog w) A (getItem (.ref t) (.ref sl)) Q E s:=by
 have htake:sizeOk (.seq items.toList.reverse.toArray):=by
  show items.toList.reverse.toArray.size<=sizeLine
  rw[List.size_toArray,List.length_reverse,Array.length_toList];exact hsz
 obtain⟨os,hos,hcs,hds⟩:=id hs;have hTs:s.TypeIs (.ref sl) "slice" := ⟨os,hos,hcs⟩;unfold getItem
 try with_reducible refine wpAny_holding ?_
 first | refine wpAny_bind (wpAny_pure ?_) | skip
 refine wpAny_bind (wpAny_sequenceKey ht.typeIs (by decide) ?_)
 refine wpAny_bind (wpAny_callSpecial?_slot (name:="__getitem__") ht.typeIs PyProof.Rows.slot_tuple_getitem
  (wpAny_call_entry PyProof.Rows.slot_tuple_getitem ht.typeIs entry_tuple_getitem ?_ (args_tuple_getitem _ _)))
 show wpAny _ _ (Builtin.Tuple.tupleItemsOf (.ref t) >>= _) _ _ s
 refine wpAny_bind (tupleItemsOf_ ht ?_)
 refine wpAny_bind (wpAny_typeOf hTs ?_)
 rw[if_pos (by decide)]
 refine wpAny_bind (Pk hs ps ?_)
 have hno:¬ (((((items.size:Int)-1)==0&&((-1):Int)==1)&&items.size==items.size)=true):=by
  intro q;rw[Bool.and_eq_true,Bool.and_eq_true]at q
  exact absurd q.1.2 (by decide)
 show wpAny _ _ (if ((((items.size:Int)-1)==0&&((-1):Int)==1)&&items.size==items.size)=true then _ else _) _ _ s
 rw[if_neg hno,A0t]
 first
  | exact wpAny_bind (m:=Builtin.Tuple.tupleExact _) (wpAny_newObj_type (wpAny_pure ⟨_,rfl,wpAny_pure h⟩) htake)
  | exact wpAny_bind (m:=Builtin.Tuple.tupleExact _) (wpAny_newObj_type (wpAny_bind (wpAny_pure (wpAny_pure ⟨_,rfl,wpAny_pure h⟩))) htake)
  | exact wpAny_bind (wpAny_bind (m:=Builtin.Tuple.tupleExact _) (wpAny_newObj_type (wpAny_pure (wpAny_pure ⟨_,rfl,wpAny_pure h⟩)) htake))
  | exact wpAny_bind (wpAny_bind (m:=Builtin.Tuple.tupleExact _) (wpAny_newObj_type (wpAny_pure ⟨_,rfl,wpAny_pure h⟩) htake))
end
end HT
namespace L2
open PySem PySem.Spec PyProof.Rows
section
variable {X:Cx}{a b e:Expr}{te:TE}{pos p2:Pos}{st:Expr}{tst:TO}
def A9o (K:PySem.W.Frag)(te:TE)(ts:TO):TE:=λσ H Q=>te σ H λx H1=>ts σ H1 λo H2=>o=some (-1)/\∃a xs,x=.ref a/\SqT K H2 a xs/\∀p,H2 p=none->Q (.ref p) (upd H2 p (.tup xs.reverse))
theorem Bf9 (he:PE X e te)(hst:PO X (some st) tst):PE X (.Subscript e (.Slice none none (some st) p2) pos) (A9o X.K te tst):=by
 intro c s g H Q I h
 refine Subscript_ (thn (he c s g H _ I h) λv B ⟨x,m,w,A,l⟩=>?_)
 refine wpAny_Slice ?_
 rw[evalPart_none]
 refine wpAny_pure ?_
 refine wpAny_pure ?_
 refine thn (hst c B g m _ w l) λf d ⟨o,n,p,t,u⟩=>?_
 obtain⟨rfl,a,xs,rfl,z,q⟩:=u
 cases A
 have i:Inv X c g n { d with heap:=d.heap.push { cls:=.type "slice",data:=.fields #[.none,.none,f] } }:=p.kept (t':=d.toks) λb y q=>Heap.get?_push_of_some _ q
 show wpAny (model X.prog X.w) X.A (subscriptTail e (.Slice none none (some st) p2) (.ref a) _) _ _ _
 obtain⟨C,r,k,hz⟩:=i.tuple z
 refine tail_any k.typeIs PyProof.Rows.slot_tuple_getitem.lookup ?_ (by trivial)
 have j := by exact r.length.symm
 refine HT.Pa k (Heap.IsSliceOf.new ..) t ?_ (by simp_all)
 refine⟨.ref _,_,i.laid (λb y q=>Heap.get?_push_of_some _ q) (Nat.le_refl _) ?_,rfl,q _ (i.hok.fresh (Nat.le_refl _))⟩
 exact⟨by simp_all,_,r.reverse,zQ.new _ _⟩
def Bn4:R2:=λx y H Q=>∃i j,x=.str i/\y=.str j/\Q (.bl (!(Builtin.Str.occurrences j i 0 j.length 1).isEmpty)) H
theorem A8y {Kq:PySem.W.Frag}(a:X.K=Kq)(he:QE X e te)(hst:QO X (some st) tst):QE X (.Subscript e (.Slice none none (some st) p2) pos) (A9o Kq te tst):=by
 subst a;exact⟨Bf9 he.get hst.get⟩
end
section
noncomputable def A7m (y:Str):Value->Bool
 | .str z _=>z==y
 | _=>false
theorem Ao0:∀{ss:List Str}{us:List Value},Vals (ss.map V.str) us->∀u∈us,∃z t,u=.str z t
 | [],_,r,u,hu=>by cases r;cases hu
 | s::ss,_,r,u,hu=>by
  cases r with
  | cons r1 r2 =>
   rcases List.mem_cons.mp hu with rfl | hu
   ·obtain⟨t,rfl⟩:=r1;exact⟨s,t,rfl⟩
   ·exact Ao0 r2 u hu
end
end L2
namespace HT
open PySem PySem.Spec PyProof.Rows
section
variable {prog:Program}{w:World}{A:Around}{E:Value->Shared->Prop}{s:Shared}
theorem Ma {lo hi:Option Int} (ht:IsTup s.heap t items) (hs:s.heap.IsSliceOf b g f .none) (pl:IsPart g lo) (i:IsPart f hi)
 (hw:sIx items.size 0 lo=0/\sIx items.size items.size hi=items.size) (h:Q (.ref t) s):wpAny (model prog w) A (getItem (.ref t) (.ref b)) Q E s:=by
 obtain⟨k,d,c,j⟩:=id hs;have e:s.TypeIs (.ref b) "slice" := ⟨k,d,c⟩;unfold getItem
 try with_reducible refine wpAny_holding ?_
 first | refine wpAny_bind (wpAny_pure ?_) | skip
 refine wpAny_bind (wpAny_sequenceKey ht.typeIs (by decide) ?_)
 refine wpAny_bind (wpAny_callSpecial?_slot (name:="__getitem__") ht.typeIs PyProof.Rows.slot_tuple_getitem
  (wpAny_call_entry PyProof.Rows.slot_tuple_getitem ht.typeIs entry_tuple_getitem ?_ (args_tuple_getitem _ _)))
 show wpAny _ _ (Builtin.Tuple.tupleItemsOf (.ref t) >>= _) _ _ s
 refine wpAny_bind (tupleItemsOf_ ht ?_)
 refine wpAny_bind (wpAny_typeOf e ?_)
 rw[if_pos (by decide)]
 refine wpAny_bind (Jl hs pl i ?_)
 show wpAny _ _ (if (((sIx items.size 0 lo:Nat):Int)==0&&(1:Int)==1&&(sIx _ _ _-sIx _ 0 _)==items.size)=true then _ else _) _ _ s
 have a:(((sIx items.size 0 lo):Int)==0&&(1:Int)==1&&sIx items.size items.size hi-sIx items.size 0 lo==items.size)=true:=by
  rw[hw.1,hw.2];simp
 rw[if_pos a]
 refine wpAny_bind (wpAny_bind (wpAny_typeOf ht.typeIs (wpAny_pure ?_)))
 refine wpAny_bind (wpAny_rule ?_)
 first
  | exact wpAny_pure ⟨_,rfl,wpAny_pure h⟩
  | exact wpAny_bind _
  | exact wpAny_bind _
  | trace_state
end
end HT
namespace L2
open PySem PySem.Spec PyProof.Rows
section
variable {X:Cx}
def A7i (K:PySem.W.Frag):V->Option Int->Option Int->Hp->VK->Prop:=λx lo hi H Q=>∃a xs,x=.ref a/\SqT K H a xs /\
 (HT.sIx xs.length 0 lo=0/\HT.sIx xs.length xs.length hi=xs.length)/\Q (.ref a) H
theorem A6o:SlR X (A7i X.K):=by
 intro d s σ H x v vl vu lo hi sl Q I k f g e h;obtain⟨a,xs,rfl,j,hw,q⟩:=h
 cases k
 obtain⟨i,r,c,hz⟩:=I.tuple j
 have b := by exact r.length.symm
 refine⟨"tuple",_,PyProof.Rows.slot_tuple_getitem.lookup,c.typeIs,?_⟩
 exact HT.Ma c f g e (by grind) ⟨.ref a,H,I,rfl,q⟩
end
theorem Up (l:Addr)(items:Array Value)(n:Nat)(dd:Option Addr)(sl:Array (Option Value))(x:Value)(e:Value->Bool)(j:Nat)(hj:j<items.size)
 (p:e items[j]=true) (hno:∀m (hm:m<items.size),m<j->e items[m]=false) :
 Meets (Builtin.«tuple.index» ⟨[.ref l,x],[]⟩)
  (λA R s=>s.heap.get? l=some { cls:=.type "tuple",dict:=dd,data:=.seq items n,slots:=sl }/\(∀y,y∈items->SeqAt.EqAt A.in1 s y x (e y))/\R (.ok (.ret (.int j s.toks))) { s with toks:=s.toks+1 }) :=
 .of_wp λf w A R s h=>by
  obtain⟨hp,g,d,tk,os⟩:=s;obtain⟨hl,he,h⟩:=h
  wp_walk using wpAny_loadPart' hl
  change wpAny _ _ (forIn (m:=Sem) [:min items.size items.size] ((none,()):Option Fin×Unit) _) _ _ _
  rw[Std.Legacy.Range.forIn_eq_forIn_range'];simp only[Std.Legacy.Range.size,Nat.sub_zero,Nat.add_sub_cancel,Nat.div_one,Nat.min_self]
  refine wpAny_forIn_list _ (λa b s'=>b.1=none/\s'=⟨hp,g,d,tk,os⟩/\∃i,i<=j/\a=List.range' i (items.size-i)) _ ?_ ?_ _ _ ⟨rfl,rfl,0,Nat.zero_le _,rfl⟩
  ·rintro y a b s' ⟨hb,rfl,i,c,k⟩
   have o:i<items.size:=Nat.lt_of_le_of_lt c hj;have hd:items.size-i=(items.size-(i+1))+1:=(Nat.succ_pred_eq_of_pos (Nat.sub_pos_of_lt o)).symm;rw[hd,List.range'_succ]at k
   cases k
   have hg:items[y]?=some items[y]:=by simp[o]
   simp only[hg]
   refine wpAny_bind (he _ (Array.getElem_mem o) f w _ _ ?_)
   rcases Nat.lt_or_eq_of_le c with lt | rfl
   ·rw[hno y o lt]
    wp_walk
    exact⟨rfl,rfl,y+1,lt,rfl⟩
   ·rw[p]
    wp_walk
    exact⟨_,rfl,h⟩
  ·rintro⟨b1,b2⟩ s' ⟨hb,rfl,i,c,k⟩
   have hz:=congrArg List.length k
   simp at hz
   omega
section
variable {X:Cx}
theorem A2u (y:Str){ss:List Str} (r:Vals (ss.map V.str) us) (hm:m<us.length) (h2:m<ss.length):A7m y us[m]=(ss[m]==y):=by
 obtain⟨u,a,b⟩:=r.get (i:=m) (x:=V.str ss[m]) (by grind)
 obtain⟨t,rfl⟩:=b;rw[List.getElem?_eq_getElem hm]at a
 injection a with a
 rw[a];rfl
def V3 (K:PySem.W.Frag):V->List V->Hp->VK->Prop:=λx vs H Q=>∃(a:Addr) (ss:List Str) (y:Str) (j:Nat),x=.ref a/\vs=[.str y]/\SqT K H a (ss.map V.str)/\ss[j]?=some y/\(∀m<j,ss[m]?≠some y)/\Q (.int (j:Nat)) H
theorem Au7:MtM X "tuple.index" (V3 X.K):=by
 intro i s σ H x vs v us Q I D A h;obtain⟨a,C,y,j,rfl,rfl,G,B,M,q⟩:=h
 cases D
 obtain⟨u,rfl,p⟩:=A.one;obtain⟨t,rfl⟩:=p;obtain⟨b,r,l,hz⟩:=I.tuple G
 obtain⟨o,e,k,n,f⟩:=(show s.heap.IsTuple a b.toArray from l)
 obtain⟨c0,dd,E,sl⟩:=o
 dsimp only at k f
 subst k f
 have c := by have:=r.length;simpa using this.symm
 obtain⟨g,ej⟩:=List.getElem?_eq_some_iff.mp B
 refine call_meets F.slot_tuple_index ⟨_,e,rfl⟩ F.entry_tuple_index (F.args_tuple_index_2 _ _) (Up a _ n _ _ _ (A7m y) j (by simpa[c] using g) ?_ ?_) ⟨e,λw K=>?_,?_⟩
 ·have:=A2u y r (by omega) g
  simp_all
 ·intro m J L
  have:=A2u y r (by simpa using J) (by omega)
  grind
 ·obtain⟨z,t',rfl⟩:=Ao0 r w (by simpa using K)
  exact SeqAt.EqAt.str_str z _ y t
 ·exact⟨.int _,H,I.tok _,⟨_,rfl⟩,q⟩
theorem Tj (a:X.K=Kq):MtM X "tuple.index" (V3 Kq):=by
 subst a;exact Au7
end
section
def Bm8 (ks:List Str)(xs:List V):List (Key×V):=(ks.zip xs).map λp=>((Sum.inr p.1:Key),p.2)
end
section
variable {X:Cx}
def Bj9:V->Option Int->Option Int->Hp->VK->Prop:=λx lo hi H Q=>∃z:Str,x=.str z/\z.length<=sizeLine/\Q (.str (Txt.slice z lo hi)) H
theorem part_of (h:IsPart v o):∃p:Option (Int×Tok),v=partValue p/\p.map (·.1)=o:=by
 cases h with
 | none=>exact⟨none,rfl,rfl⟩
 | int i t=>exact⟨some (i,t),rfl,rfl⟩
theorem Bf3:SlR X Bj9:=by
 intro a s σ H x v vl vu lo hi sl Q I d c b e h;obtain⟨z,rfl,f,q⟩:=h;obtain⟨t,rfl⟩:=d;obtain⟨l,rfl,rfl⟩:=part_of b;obtain⟨u,rfl,rfl⟩:=part_of e
 refine⟨"str",_,F.slot_str_getitem.lookup,typeIs_str _ _ _,wpAny_getItem_str_slice (l:=l) (u:=u) (st:=none) c rfl ?_⟩
 exact post_val_or_str ⟨Nat.le_trans (Txt.slice_le z _ _) f,λt' k=>⟨.str _,H,I.tok _,⟨_,rfl⟩,q⟩⟩
end
end L2
namespace L2
open PySem PySem.Spec PyProof.Rows PySem.W
section
noncomputable def Bm9 (a C:Addr) (d:Option Addr):HO:=.ext λh=>∃o,h.get? a=some o/\o.cls=.ref C/\o.dict=d/\∃vs,o.data=.fields vs
end
section
noncomputable def Bk6 (n:Nat):PyData->Bool
 | .none=>true
 | .bool _=>true
 | .int i=>decide (i.natAbs.log2<1920)
 | .str x=>decide ((reprText x).length+n<=16000000)
 | d=>d.showable&&!d.hasDict&&decide (d.depth<=40)&&decide (d.shown.length+n<=16000000)
end
end L2
namespace L2
open PySem PySem.Spec PyProof.Rows
def TabAt (K:PySem.W.Frag)(h:Heap):Prop:=(∀p∈Et K,h.get? p.1=some { cls:=.none,data:=.fields #[] }/\isCodeTable h p.1/\K.lookup p.1=none)/\∀p∈Et K,(Et K).lookup p.1=some p.2
theorem Jb {l:List (Addr×Str)} (h:l.lookup b=some q):(b,q)∈l:=by
 induction l with
 | nil=>grind
 | cons p r a =>
  grind
theorem Ao9 {K:PySem.W.Frag}
 (KX:K.In c.heap) (hns:c.heap.Ns mainGlobals mg) (hb:c.heap.Ns builtinsNs U) (X:∀x:Str,x ≠ "__name__" -> U x=bootBuiltins x) (L:c.heap.NoLimit) (hg:c.gens=#[])
 (T:∃j o,mg "__builtins__" = some (.ref j)/\j≠builtinsNs/\c.heap.get? j=some o/\o.cls=.type "module" /\ o.dict=some builtinsNs/\o.data=.plain) (D:TabAt K c.heap)
 (ha:c.heap.get? a=some { cls:=.type "list",data:=.seq vs.toArray }) (hi:IntsAre vs ns) (hl:ns.length<=sizeLine) (hr:Room k callerA)
 (F:∀base:Heap,K.In base->base.Ns mainGlobals mg->FnOk P w K mg base CX k fa fd [x] sp) (C:∀(s:Shared) (u:Value),BindsTo s fd ⟨[u],[]⟩ [(x,u)])
 (hsp:∀H:Hp,SqL K H a (ns.map V.int)->sp [.ref a] H (λv _=>v=.bl true) λ_ _ _=>False)
 (W:∀H e s',CX [] H c (λ_ _ _=>False) e s'->False) :
 codeAny (model P w) callerA (.call (.ref fa) ⟨[.ref a],[]⟩) (λr s'=>r=.ok (.ret (.bool true))/\OldK c.heap s'.heap/\s'.os=c.os/\AllBare s'.gens) c:=by
 have rv:=Vd hi;have E:=hi.length
 have Y:∀p∈Et K,p.1≠a:=λp B z=>by
  have e:=(D.1 p B).1;rw[z,ha]at e;cases e
 have t:∀H:Hp,SqL K H a (ns.map V.int)->HOk P w H c.heap->(∀b u,H b=some u->(b=a/\K.lookup a=none/\∃o xs,u=.frz o (.lst xs))\/∃q,(b,q)∈Et K/\u=.tbl q)->(∀p∈Et K,H p.1=some (.tbl p.2)) ->
  codeAny (model P w) callerA (.call (.ref fa) ⟨[.ref a],[]⟩) (λr s'=>r=.ok (.ret (.bool true))/\OldK c.heap s'.heap/\s'.os=c.os/\AllBare s'.gens) c:=by
  intro H hS G hA hH
  have f:∀{b:Addr} {o:Obj},c.heap.get? b=some o->H b=none->(Uw c.heap H).get? b=some o:=λe n=>A1u e n
  have N:∀{b:Addr} {o:Obj},c.heap.get? b=some o->(∀x n,o.data≠.seq x n)->(∀x,o.data≠.fields x)->H b=none:=λ{b o} e d1 d2=>by
   cases q:H b with
   | none=>rfl
   | some u =>
    rcases hA b u q with ⟨z,_⟩ | ⟨y,O,_⟩
    ·rw[z,ha]at e;cases e;exact absurd rfl (d1 _ _)
    ·have g:=(D.1 _ O).1
     rw[e]at g;cases g;exact absurd rfl (d2 _)
  have l:∀{b:Addr} {m:Str->Option Value},c.heap.Ns b m->(Uw c.heap H).Ns b m:=λ{b m} ⟨o,es,ep,e,d,r⟩=>⟨o,es,ep,f e (N e (λx n z=>by rw[d]at z;cases z) λx z=>by rw[d]at z;cases z),d,r⟩
  have I:K.In (Uw c.heap H):=λb o e=>f (KX b o e) (by
   cases q:H b with
   | none=>rfl
   | some u =>
    rcases hA b u q with ⟨z,z2,_⟩ | ⟨y,O,_⟩
    ·rw[z,z2]at e;cases e
    ·rw[(D.1 _ O).2.2]at e;cases e)
  have Z:∃j o,mg "__builtins__" = some (.ref j)/\j≠builtinsNs/\j≠mainGlobals/\(Uw c.heap H).get? j=some o/\o.cls=.type "module" /\ o.dict=some builtinsNs/\o.data=.plain:=by
   obtain⟨j,o,b1,b2,Q,b4,b5,M⟩:=T
   refine⟨j,o,b1,b2,λz=>?_,f Q (N Q (λx n z=>by rw[M]at z;cases z) λx z=>by rw[M]at z;cases z),b4,b5,M⟩
   obtain⟨og,es,ep,e,d,_⟩:=hns;rw[z,e]at Q;cases Q;rw[d]at M;cases M
  have hM:Mod K mg (Uw c.heap H):=⟨I,l hns,⟨U,l hb,X⟩,(let ⟨mc,h1,h2⟩:=L; ⟨mc,l h1,h2⟩),Z⟩
  have e0:A4g P w K mg (Uw c.heap H) callerA [] c H:=⟨rfl,hM,λb o e=>A4u e,Nat.le_of_eq (As7 _ _),trivial,λb hb=>absurd (show b∈([]:List Addr) from hb) (by simp),hH,G,.of_eq hg⟩
  refine codeAny_mono ((F _ I (l hns)).run callerA [] c H ⟨[.ref a],[]⟩ [.ref a] [.ref a] _ _ hr e0 (C c (.ref a)) (.cons rfl .nil) (hsp H hS)) λr s' h=>?_
  cases r with
  | error e=>exact(W H e s' h).elim
  | ok fl =>
   cases fl with
   | next=>exact False.elim h
   | brk=>exact False.elim h
   | cont=>exact False.elim h
   | ret u =>
    obtain⟨v,H',os,J,R,A,r',q⟩:=h;have q':v=.bl true:=q;subst q';obtain rfl:u=Value.bool true:=r'
    refine⟨rfl,⟨λb o e=>?_,λb o e=>R.there b o e (by simp)⟩,os,J⟩
    cases q:H b with
    | none=>exact .inl (R.keep b o e q (by intro z;exact absurd (show b∈([]:List Addr) from z) (by simp)) (by simp))
    | some u =>
     rcases hA b u q with ⟨_,_,ob,xs,rfl⟩ | ⟨y,O,rfl⟩
     ·obtain⟨g,_⟩:=G b _ q
      obtain⟨e2,_⟩:=A b _ (R.frzs b ob _ q);rw[e]at g;cases g;exact .inl e2
     ·obtain⟨ps,e2,_⟩:=A b _ (R.tbls b y q)
      obtain⟨t1,t2,_⟩:=D.1 _ O;rw[e]at t1;cases t1
      exact .inr (.inl ⟨t2,rfl,#[],ps,rfl,by rw[e2];simp⟩)
 have i:∀(H:Hp) (p:Addr×Str),p∈Et K->zA P w H _ _ (.tbl p.2):=λH p B=>⟨#[],(D.1 p B).1,trivial,λpos cv z=>by cases z⟩
 cases hk:K.lookup a with
 | some o =>
  have e:=KX a o hk;rw[ha]at e
  cases e
  refine t (λb=>((Et K).lookup b).map .tbl) (.inr ⟨_,vs.toArray,_,hk,rfl,rfl,rfl,by rw[List.size_toArray,E];exact hl,by simpa using rv⟩) (λb u z=>?_) (λb u z=>?_) λp B=>?_
  ·obtain⟨q,g,rfl⟩:=Option.map_eq_some_iff.mp z
   exact i _ _ (Jb g)
  ·obtain⟨q,g,rfl⟩:=Option.map_eq_some_iff.mp z
   exact .inr ⟨q,Jb g,rfl⟩
  ·rw[D.2 p B];rfl
 | none =>
  refine t (λb=>if b=a then some (.frz { cls:=.type "list",data:=.seq vs.toArray } _) else ((Et K).lookup b).map .tbl) (.inl (.inr ⟨{ cls:=.type _,data:=.seq _ },if_pos rfl⟩)) (λb u z=>?_) (λb u z=>?_) λp B=>?_
  ·by_cases hb:b=a
   ·have S:=(if_pos hb).symm.trans z
    cases S
    subst hb
    exact⟨ha,by rw[List.length_map];exact hl,vs,_,rv,ha⟩
   ·obtain⟨q,g,rfl⟩:=Option.map_eq_some_iff.mp ((if_neg hb).symm.trans z)
    exact i _ _ (Jb g)
  ·by_cases hb:b=a
   ·have S:=(if_pos hb).symm.trans z
    cases S
    exact .inl ⟨hb,hk,_,_,rfl⟩
   ·obtain⟨q,g,rfl⟩:=Option.map_eq_some_iff.mp ((if_neg hb).symm.trans z)
    exact .inr ⟨q,Jb g,rfl⟩
  ·rw[if_neg (Y p B),D.2 p B];rfl
end L2
namespace L2
open PySem PySem.Spec PyProof.Rows PySem.W
noncomputable def Hm (o:Obj):Bool:=match o.data with
 | .cell _=>false
 | _=>true
def sel (h:Heap)(tabs:List (Addr×Addr×Str))(a:Addr):Option Obj:=(h.get? a).bind λo=>if (Hm o&&!(tabs.any λt=>t.2.1==a))=true then some o else none
def Nr (h:Heap)(tabs:List (Addr×Addr×Str)):Frag:=((List.range h.objs.size).filterMap λa=>(sel h tabs a).map λo=>(a,o))++tabs.map λt=>(t.1,Ai0 t.2.1 t.2.2)
theorem Oq {f:Nat->Option Obj}{b:Nat}:∀{l:List Nat},(l.filterMap λa=>(f a).map λo=>(a,o)).lookup b=if b∈l then f b else none
 | []=>by simp
 | a::l=>by
  rw[List.filterMap_cons]
  by_cases e:b=a
  ·subst e
   rw[if_pos List.mem_cons_self]
   cases q:f b with
   | none =>
    simp only[Option.map_none];rw[Oq]
    split
    ·exact q
    ·rfl
   | some o=>simp
  ·have h1:(b∈a::l)=(b∈l):=by simp[e]
   simp only[h1]
   cases q:f a with
   | none=>simp only[Option.map_none];exact Oq
   | some o =>
    simp only[Option.map_some];rw[List.lookup_cons]
    have:(b==a)=false:=by simp[e]
    rw[this];exact Oq
section
variable {h:Heap}{tabs:List (Addr×Addr×Str)}
theorem Nt (e:sel h tabs a=some o):h.get? a=some o/\Hm o=true/\∀t∈tabs,t.2.1≠a:=by
 obtain⟨c,d,b⟩:=Option.bind_eq_some_iff.mp e
 grind
theorem A9f (e:h.get? a=some o) (hp:Hm o=true) (hn:∀t∈tabs,t.2.1≠a):sel h tabs a=some o:=by
 unfold sel
 grind
theorem My (e:sel h tabs a=some o):(Nr h tabs).lookup a=some o:=by
 unfold Nr;rw[List.lookup_append,Oq,if_pos (List.mem_range.mpr (Heap.lt_size (Nt e).1)),e];rfl
theorem Tc {a:Addr}{o:Obj}:∀{tabs:List (Addr×Addr×Str)},(tabs.map λt=>(t.1,Ai0 t.2.1 t.2.2)).lookup a=some o->∃t∈tabs,t.1=a
 | [],e=>by cases e
 | t::r,e=>by
  rw[List.map_cons,List.lookup_cons]at e
  split at e
  ·rename_i z
   exact⟨t,List.mem_cons_self,by simpa using (eq_comm.mp (by simpa using z))⟩
  ·obtain⟨t',h1,h2⟩:=Tc e
   exact⟨t',List.mem_cons_of_mem _ h1,h2⟩
theorem Bh0 (ht:∀t∈tabs,CodeHd h t.1 t.2.1/\h.get? t.2.1=some { cls:=.none,data:=.fields #[] })(D:∀t∈tabs,(tabs.map λt=>(t.2.1,t.2.2)).lookup t.2.1=some t.2.2) :
 (Nr h tabs).In h/\TabAt (Nr h tabs) h/\(∀t∈tabs,codeHdIn (Nr h tabs) t.1 t.2.1=true/\(t.2.1,t.2.2)∈Et (Nr h tabs))/\∀a o,h.get? a=some o->Hm o=true->o.data≠.fields #[]->(Nr h tabs).lookup a=some o:=by
 have g:∀a o,h.get? a=some o->Hm o=true->o.data≠.fields #[]->sel h tabs a=some o:=λa o e d j=>A9f e d λt m z=>by
  have:=(ht t m).2;rw[z,e]at this;cases this;exact j rfl
 have code:∀t∈tabs,∃o i,h.get? t.1=some o/\o.cls=.type "code" /\ o.data=.fields i/\i[11]?=some (.ref t.2.1)/\sel h tabs t.1=some o:=λt m=>by
  obtain⟨o,i,_,_,_,_,_,_,_,w,v,l,u,_⟩:=(ht t m).1
  refine⟨o,i,w,v,l,u,g t.1 o w (by unfold Hm;rw[l]) λz=>?_⟩
  rw[l]at z
  injection z with z
  rw[z]at u;simp at u
 have c:∀{a:Addr} {o:Obj},(Nr h tabs).lookup a=some o->sel h tabs a=some o:=λ{a o} e=>by
  cases q:sel h tabs a with
  | some y=>rw[My q]at e;exact e
  | none =>
   unfold Nr at e;rw[List.lookup_append,Oq]at e
   have F:(if a∈List.range h.objs.size then sel h tabs a else none)=none:=by
    split
    ·exact q
    ·rfl
   rw[F]at e
   obtain⟨t,m,z⟩:=Tc (show (tabs.map λt=>(t.1,Ai0 t.2.1 t.2.2)).lookup a=some o from e)
   obtain⟨_,_,_,_,_,_,s⟩:=code t m;rw[z,q]at s;cases s
 have k:Et (Nr h tabs)=tabs.map λt=>(t.2.1,t.2.2):=by
  unfold Et Nr;rw[List.filterMap_append]
  have x:((List.range h.objs.size).filterMap λa=>(sel h tabs a).map λo=>(a,o)).filterMap (λp=>R9 p.2)=[]:=by
   rw[List.filterMap_eq_nil_iff];intro p d;obtain⟨a,_,e⟩:=List.mem_filterMap.mp d;obtain⟨o,x,rfl⟩:=Option.map_eq_some_iff.mp e;have j:=(Nt x).2.1
   show R9 o=none
   unfold R9;unfold Hm at j
   split
   ·rename_i z;rw[z]at j;cases j
   ·rfl
  have Q:(tabs.map λt=>(t.1,Ai0 t.2.1 t.2.2)).filterMap (λp=>R9 p.2)=tabs.map λt=>(t.2.1,t.2.2):=by
   clear g c code D ht x
   induction tabs with
   | nil=>rfl
   | cons t r S =>
    rw[List.map_cons,List.filterMap_cons]
    show (t.2.1,t.2.2)::_=_
    rw[S];rfl
  rw[x,Q,List.nil_append]
 have B:(Nr h tabs).In h:=λa o e=>(Nt (c e)).1
 refine⟨B,⟨λp d=>?_,λp d=>?_⟩,λt m=>⟨?_,?_⟩,λa o e d j=>My (g a o e d j)⟩
 ·rw[k]at d
  obtain⟨t,m,rfl⟩:=List.mem_map.mp d;obtain⟨o,i,w,v,l,u,_⟩:=code t m
  refine⟨(ht t m).2,⟨t.1,o,i,w,v,l,u⟩,?_⟩
  cases q:(Nr h _).lookup _ with
  | none=>rfl
  | some y=>exact absurd rfl ((Nt (c q)).2.2 t m)
 ·rw[k]at d ⊢
  obtain⟨t,m,rfl⟩:=List.mem_map.mp d;exact D t m
 ·obtain⟨o,i,_,v,l,_,s⟩:=code t m
  obtain⟨y,G,f,tf,fl,tg,b,n,tt,J,K,L,M,g5,I,N,H,P,A⟩:=(ht t m).1;have O := Option.some.inj (J.symm.trans (Nt s).1);subst O;obtain⟨R,od,C,E⟩:=y
  cases (show R=Value.type _ from K)
  cases (show C=Data.fields _ from L)
  unfold codeHdIn;rw[(My s)];simp only[M,I,N,H,P]
  simp[A]
 ·rw[k];exact List.mem_map.mpr ⟨t,m,rfl⟩
end
section
variable {q:Program}{loose:List Str}{mean:ExcName->Option Value}{mg mb:Str->Option Value}{h:Heap}{K:Frag}
theorem Ar9 (j:∀a o,h.get? a=some o->Hm o=true->o.data≠.fields #[]->K.lookup a=some o) (c:h.CodeRec f x):codeIn K f x=true:=by
 obtain⟨a,o,b,t,rfl,g,d,e⟩:=c
 have k:=j a o g (by unfold Hm;rw[d]) λz=>by grind
 obtain⟨oc,od,m,i⟩:=o
 show (match K.lookup a with
  | some ⟨_,_,.fields b,_⟩=>match b.toList with | _::.str n _::_=>n==x | _=>false
  | _=>false)=true
 obtain⟨l⟩:=b
 match l,e with
 | _::.str n u::_,e =>
  simp_all
theorem A5v (T:Top q loose mean mg mb h)(i:∀a o,h.get? a=some o->Hm o=true->o.data≠.fields #[]->K.lookup a=some o) {st:Stmt}(hd:d∈recsOf q) (w:d.params=Iw st) (l:d.body=Hu st) (m:d.scope=Az st) :
 ∃f fd,Fun K d.name d.name st f fd/\mg d.name=some (.ref f):=by
 obtain⟨a,o,e,b,c,n,p,r,s⟩:=T.fn d hd
 have k:=i a o p (by unfold Hm;grind) λz=>by simp_all
 obtain⟨t,u,v,g⟩:=o
 cases (r)
 have j:PySem.Calls.docDef d.name d.params d.body d.scope e b c=fnOf d.name d.name (Iw st) (Hu st) (Az st) .none .none c e none b .none:=by rw[w,l,m];rfl
 refine⟨a,_,⟨⟨t,u,.none,c,e,none,b,.none,g,j,k,Ar9 i s⟩,?_⟩,n⟩
 unfold keepIn
 grind
noncomputable def Aw2 (q:Program) (loose:List Str) (RN:List Str) (x:Str):Bool:=!startupNames.contains x&&!loose.contains x&&!RN.contains x&&!((litsOf q).map (·.1)).contains x&&!((clssOf q loose).map (·.name)).contains x
theorem Ds (T:Top q loose mean mg mb h){a bs:List Str}(f:(recsOf q).map (·.name)=a)(hb:bs.all (Aw2 q loose a)=true) (hx:x∈bs):mg x=none:=by
 have:=List.all_eq_true.mp hb x hx;unfold Aw2 at this;simp only[Bool.and_eq_true,Bool.not_eq_true',List.contains_eq_mem,decide_eq_false_iff_not]at this;obtain⟨⟨⟨⟨d,c⟩,g⟩,e⟩,b⟩:=this
 exact T.free x d c (by grind) e b
end
theorem walk_ofH {l:OpenLaw}{n k:Nat}{q:Program}{loose:List Str}{XP:(Str->Option Value)->Heap->Prop}{YP:World->Heap->Prop}{d:DefRec}{sp:Frag->Sp}{x:Str}
 (hn:l.most=some n) (r:n<=sizeLine) (t:d.params.defaults=[]) (hr:Room k callerA)
 (F:∀(w:World) (g:ExcName->Option Value) (mg C:Str->Option Value) (fa:Addr) (h:Heap),Top q (looseW q loose) g mg C h->mg d.name=some (.ref fa) ->
  ∃(K:Frag) (p:FuncData),K.In h/\TabAt K h/\(∀(s:Shared) (u:Value),BindsTo s p ⟨[u],[]⟩ [(x,u)])/\∀base:Heap,K.In base->base.Ns mainGlobals mg->FnOk l.prog w K mg base CX0 k fa p [x] (sp K))
 (m:∀(K:Frag) (H:Hp) (a:Addr) (ns:List Int),ns.length<=n->SqL K H a (ns.map V.int)->sp K [.ref a] H (λv _=>v=.bl true) λ_ _ _=>False) :
 WalkO q loose XP YP l.row.toRowW d [] (λf vs=>PySem.call f vs):=by
 refine Att.Yy hn t λw D B mg C fa o P O J a vs ns G Y Q R E j i c b L=>?_
 obtain⟨K,p,y,A,I,M⟩:=F w _ _ _ _ _ G.T j
 exact Ao9 y G.T.g G.T.b G.T.builtins G.T.nolimit L G.T.bmain A i c (Nat.le_trans b r) hr M I (λH N=>m K H a _ b N) λH e S z=>z
theorem A0i (a:(recsOf q).map (λd=>(d.name,d.params,d.body,d.scope))=L) {i:Nat} (e:L[i]?=some x) :
 ∃d,d∈recsOf q/\d.name=x.1/\d.params=x.2.1/\d.body=x.2.2.1/\d.scope=x.2.2.2:=by
 grind
theorem Cz (a:(recsOf q).map (λd=>(d.name,d.params,d.body,d.scope))=L):(recsOf q).map (·.name)=L.map (·.1):=by
 rw[<- a,List.map_map];rfl
theorem A2l {K:Frag} {st:Stmt} (F:Fun K x qual st f c) (h:∀(d a e:Value) (i:Option Addr) (b g:Value) (s:Shared) (u:Value),BindsTo s (fnOf x qual (Iw st) (Hu st) (Az st) .none d a e i b g) ⟨[u],[]⟩ [(y,u)]):∀(s:Shared) (u:Value),BindsTo s c ⟨[u],[]⟩ [(y,u)]:=by
 obtain⟨m,n,d,a,e,i,b,g,j,k,l,_⟩:=F.ex
 simp_all
theorem const_int {q:Program}{loose:List Str}{a:ExcName->Option Value}{mg c:Str->Option Value}{h:Heap}(T:Top q loose a mg c h){x:Str}{i:Int}(e:valOf q x=some (.int i)):∃t,mg x=some (.int i t):=by
 obtain⟨v,d,b⟩:=T.const x _ e
 cases b h with
 | int i t=>grind
theorem Aq5 {q:Program}{loose:List Str}{a:ExcName->Option Value}{mg c:Str->Option Value}{h:Heap}(T:Top q loose a mg c h){x y:Str}(e:valOf q x=some (.str y)):∃t,mg x=some (.str y t):=by
 obtain⟨v,d,b⟩:=T.const x _ e
 cases b h with
 | str y t=>grind
section
variable {X:Cx}{p p2 pos pos2:Pos}{e:Expr}{t:TA}{te:TE}
def A6s:List V->Hp->VK->Prop:=λxs H Q=>∃j:Int,xs=[.int j]/\∀p,H p=none->Q (.ref p) (upd H p (.rng 0 j))
theorem Yx:zE X (.type "range") A6s:=by
 intro pins s σ H xs us Q I r h;obtain⟨j,rfl,q⟩:=h;obtain⟨u,rfl,t,rfl⟩:=vals1 r
 refine call_range_1 ?_
 exact⟨.ref s.heap.objs.size,_,I.laid (λb o e=>Heap.get?_push_of_some _ e) (Nat.le_refl _) (show zA X.prog X.w _ _ _ (.rng 0 j) from ⟨_,_,_,Heap.get?_push_size _ rfl⟩),rfl,q _ (I.hok.fresh (Nat.le_refl _))⟩
def An0:List V->Hp->VK->Prop:=λxs H Q=>∃(p:Addr) (n:Nat),xs=[.ref p]/\H p=some (.rng 0 (n:Nat))/\n<=2 ^ 24/\∀l,H l=none->Q (.ref l) (upd H l (.lst ((List.range n).map λi=>.int (i:Nat))))
theorem Ae0 {f:Nat->V}{R:Nat->Value->Prop}(hR:∀i v,R i v->RelV (f i) v){acc:Array Value}{n:Nat}(h:ItemsOf R acc n):Vals ((List.range n).map f) acc.toList:=by
 obtain⟨hs,hi⟩:=h;obtain⟨l⟩:=acc;have hs:l.length=n:=hs
 have hi:∀j v,l[j]?=some v->R j v:=λj v e=>hi j v (by simpa using e)
 show Vals ((List.range n).map f) l
 subst hs
 have key:∀(l:List Value) (k:Nat),(∀j v,l[j]?=some v->RelV (f (k+j)) v)->Vals ((List.range' k l.length).map f) l:=by
  intro l
  induction l with
  | nil=>intro k _;exact .nil
  | cons v l ih =>
   intro k h;rw[List.length_cons,List.range'_succ,List.map_cons]
   refine .cons (by simpa using h 0 v rfl) (ih (k+1) λj w e=>?_)
   have:=h (j+1) w (by simpa using e)
   rw[Nat.add_assoc,Nat.add_comm 1 j];exact this
 rw[List.range_eq_range']
 exact key l 0 λj v e=>by rw[Nat.zero_add];exact hR _ _ (hi j v e)
theorem Uq (hc:X.calm=true):zE X (.type "list") An0:=by
 intro pins s σ H xs us Q I r h;obtain⟨p,n,rfl,hp,hn,q⟩:=h;obtain⟨u,rfl,ru⟩:=vals1 r
 cases (show u=Value.ref p from ru)
 obtain⟨t,u,v,hr⟩:=I.hok p _ hp
 refine call_list_range (n:=n) (I.ok.hd hc) hr (small_one (by omega) (by omega) (by omega) (by omega)) (by rw[rangeSize_one];split <;> omega) hn λh' tk acc c kp e it=>?_
 refine⟨.ref s.heap.objs.size,_,I.laid kp (Nat.le_refl _) (show zA X.prog X.w _ h' _ (.lst _) from ⟨?_,acc.toList,c,Ae0 (λi v ⟨t,e⟩=>?_) it,e⟩),rfl,q _ (I.hok.fresh (Nat.le_refl _))⟩
 ·rw[List.length_map,List.length_range,sizeLine_eq];omega
 ·exact⟨t,by rw[e];simp⟩
theorem Ad1 (hc:X.calm=true)(hgl:Gl X "list") (hml:X.mg "list" = none) (hgr:Gl X "range") (hmr:X.mg "range" = none) (he:QE X e te) (hns:isStar e=false:=by rfl):QE X (.Call (.Name "list" p) [.Call (.Name "range" p2) [e] [] pos2] [] pos) (tCB An0 (Cd (tCB A6s (Cd te Dy)) Dy)) :=
 ⟨Gz (Uq hc) hgl hml Kf (Ao8 (Gz Yx hgr hmr A3a (Ao8 he.get Nh hns) (by decide) (by decide) (by show (!isStar e&&true)=true;rw[hns];rfl)) Nh rfl) (by decide) (by decide) rfl⟩
end
end L2
namespace L2
open PySem PySem.Spec PyProof.Rows
section
variable {prog:Program}{w:World}{K:Type}[DecidableEq K]{knd:HeapKind prog w K}{A:Around}{E:Value->Shared->Prop}{s:Shared}
theorem Aq6 (hu:knd.room A) (hk:knd.is s.heap k a) (hm:s.heap.DictOfH knd d xs) (hsz:xs.length<=sizeLine)
 (l:∀p,atKey xs k=some p->Q p.2 { s with toks:=s.toks+knd.draws k })
 (m:atKey xs k=none->∀h',h'.DictOfH knd d (xs++[(k,a,v)])->Heap.SameBut d s.heap h'->Q v { s with heap:=h',toks:=s.toks+knd.draws k }) :
 wpAny (model prog w) A (dictSetDefault d (.ref a) v) Q E s:=by
 obtain⟨o,r,t,f,u,c,i,g,n⟩:=hm;unfold dictSetDefault
 refine wpAny_holding ?_
 refine wpAny_bind (knd.pyHash hu hk ?_)
 refine wpAny_bind (wpAny_dictFind_heap (s:={ s with toks:=s.toks+knd.draws k }) hu hk f c i g n ?_ ?_)
 ·intro h
  refine wpAny_bind (wpAny_rule (wpAny_bind (wpAny_updateDictKeys (hz:=by have e:=size_of_entries i;omega) (s:={ s with toks:=s.toks+knd.draws k }) f c (wpAny_pure (m (atKey_none_of_get h) _
   ⟨_,_,t+1,Heap.get?_update_self _ f (Obj.isFreed_of_dict (Obj.data_mapDictKeys c _)),u.mapDictKeys _,Obj.data_mapDictKeys c _,?_,?_,?_⟩ (Heap.SameBut.update ..))))))
  ·simp[i,entryOfKey]
  ·intro x b
   rcases List.mem_append.mp b with b | b
   ·exact knd.keeps (g x b) f c (Heap.SameBut.update ..)
   ·cases List.mem_singleton.mp b
    exact knd.keeps hk f c (Heap.SameBut.update ..)
  ·rw[List.map_append,List.nodup_append]
   refine⟨n,by simp,λx b y z e=>?_⟩
   cases List.mem_singleton.mp z
   have B:x=k:=e;exact not_mem_keys_of_get h (B▸b)
 ·intro j p q
  refine wpAny_bind (wpAny_dictEntries f c ?_)
  have C:r[j]?=some (entryOfKey knd (k,p)):=by
   rw[<- Array.getElem?_toList,i,List.getElem?_map,q];rfl
  rw[C];exact wpAny_bind (wpAny_rule (wpAny_pure (l p (atKey_of_get n q))))
end
section
variable {X:Cx}{pins:List (Addr×Obj)}{σ:St}{H:Hp}{s:Shared}{a b:Addr}{E:Value->Shared->Prop}{A:Around}
theorem Aa6 (hd:(a==sysModules)=false) (hz:xs.length<=sizeLine) :
 MeetsIn P w (Builtin.«dict.setdefault» ⟨[.ref a,.ref b,r],[]⟩) (λA R s=>A.units+9<cLine/\s.heap.DictOfH (El P w) a xs/\(El P w).is s.heap k b/\(∀p,atKey xs k=some p->R (.ok (.ret p.2)) { s with toks:=s.toks+Rw k }) /\
  (atKey xs k=none->∀c,c.DictOfH (El P w) a (xs++[(k,b,r)])->Heap.SameBut a s.heap c->R (.ok (.ret r)) { s with heap:=c,toks:=s.toks+Rw k })) :=
 .of_wp λA R s ⟨l,e,m,g,h⟩=>by
  refine wpAny_bind ?_
  refine wpAny_bind (wpAny_notOrdered_dict e.typeIs ?_)
  refine wpAny_pure ?_
  show wpAny _ _ (if (a==sysModules)=true then _ else dictSetDefault a _ r >>= _) _ _ s
  rw[if_neg (by grind)]
  exact wpAny_bind (Aq6 (Bk4 l) m e hz (λp i=>wpAny_pure ⟨_,rfl,g p i⟩) λj c d f=>wpAny_pure ⟨_,rfl,h j _ d f⟩)
theorem A8w (hu:A.units+9<cLine) (I:Inv X pins σ H s) (e:H a=some (.dT d)) (n:KAt H k b) (hl:d.length<sizeLine) (B:RelV z r)
 (i:∀v w' s',Oc d k=some v->Inv X pins σ H s'->RelV v w'->Q w' s') (g:∀s',Oc d k=none->Inv X pins σ (upd H a (.dT (d++[(k,z)]))) s'->Q r s') :
 wpAny (model X.prog X.w) A (call (.builtin "dict.setdefault") [.ref a,.ref b,r]) Q E s:=by
 obtain⟨u,m,D,f,l⟩:=Bm1 I.hok e
 have y:D.length<=sizeLine:=by rw[<- Paired.length f];exact u
 refine call_meetsIn PySem.F.slot_dict_setdefault l.typeIs PySem.F.entry_dict_setdefault (PySem.F.args_dict_setdefault_3 _ _ _) (Aa6 m y) ⟨hu,l,A0d I.hok n,λp w=>?_,λx N h C=>?_⟩
 ·have q:=f.val k
  rw[w]at q
  cases ev:Oc _ k with
  | none=>rw[ev]at q;exact False.elim q
  | some v=>rw[ev]at q;exact i v _ _ ev (I.tok _) q
 ·have q:=f.val k
  rw[x]at q
  cases ev:Oc _ k with
  | some v=>rw[ev]at q;exact False.elim q
  | none =>
   refine g _ ev ?_
   obtain⟨o,F,G,t,K,L,J,_,M⟩:=h
   refine Am7 I (by rw[e];exact True.intro) C ⟨o,t⟩ ⟨by grind,m,_,KT.keeps (Paired.snoc f ⟨rfl,n,B⟩) λc O j=>?_,o,F,G,t,K,L,J,M⟩
   rw[Ah (A7s j e λz=>nomatch z)]
   exact j
end
def A7z (td ty tx:TE):TE:=λσ H Q=>td σ H λx H1=>∃a,x=.ref a/\IsD H1 a/\ty σ H1 λy H2=>tx σ H2 λz H3=>∃kvs k b,y=.ref b/\H3 a=some (.dT kvs)/\KAt H3 k b/\kvs.length<sizeLine /\
 (∀v,Oc kvs k=some v->Q v H3)/\(Oc kvs k=none->Q z (upd H3 a (.dT (kvs++[(k,z)]))))
section
variable {X:Cx}{o e f:Expr}{td ty tx:TE}{apos cpos:Pos}
theorem A6i (hu:X.A.units+64<cLine)(ho:QE X o td)(he:QE X e ty)(hf:QE X f tx)(m:M2 X o "setdefault" apos e f cpos):QE X (.Call (.Attribute o "setdefault" apos) [e,f] [] cpos) (A7z td ty tx):=by
 refine⟨?_⟩
 intro c s σ H Q I h
 refine wpAny_Call_method m.base m.few m.line PySem.F.plainAttrs_dict PySem.F.slot_dict_setdefault PySem.F.type_dict_setdefault (thn (ho.1 c s _ H _ I h) λu s1 ⟨x,H1,n,O,a,D,d,N⟩=>?_)
 subst D;obtain rfl:u=Value.ref a:=O;obtain⟨q,r,_⟩:=A1z n d
 refine⟨q,r,?_⟩
 rw[m.trees]
 refine Calls.callWith_builtin rfl (Calls.evalArgs_plain (Calls.spliced_cons (thn (he.1 _ _ _ _ _ n N) λiv s2 ⟨y,H2,t,w,A⟩ =>
  Calls.spliced_cons (thn (hf.1 _ _ _ _ _ t A) λfv s3 ⟨z,B,p,l,E,k,b,F,G,J,C,L,M⟩=>Calls.spliced_nil ?_))))
 subst F
 cases w
 exact A8w (Nat.lt_of_le_of_lt (Nat.add_le_add_left (by decide) _) hu) p G J C l (λv w' K i j g=>⟨v,B,j,g,L v i⟩) λK i j=>⟨z,_,j,l,M i⟩
theorem A0f : QE X (.Dict [] [] a) Ag8:=⟨Aw4⟩
end
section
variable {X:Cx}{pins:List (Addr×Obj)}{σ:St}{H:Hp}{s:Shared}{a:Addr}{kvs:List (PyData×V)}
theorem Inv.still (I:Inv X pins σ H s)(e:H a=some (.dT kvs)):∃o,Inv X pins σ (upd H a (.frz o (.dT kvs))) s:=by
 obtain⟨z,y,h,r,o,f,g,b,c⟩:=I.hok a _ e
 refine⟨o,Am7 I (by rw[e];trivial) (Heap.SameBut.refl _ _) ⟨o,b⟩ ⟨b,z,y,h,KT.keeps r λc i d=>?_,o,f,g,b,c⟩⟩
 rw[Ah (A7s d e λz=>nomatch z)];grind
theorem Inv.seen (I:Inv X pins σ H s) (e:H a=some (.frz o (.dT kvs))):∃c b d,s.heap.get? a=some o/\(a==sysModules)=false/\o.ExactDict/\o.data=.dict b d/\b.toList=c.map (entryOfKey (El X.prog X.w))/\KT H kvs c/\kvs.length<=sizeLine:=by
 obtain⟨h,z,y,c,r,g,b,d,i,j,k,l,f⟩:=I.hok a _ e
 grind
theorem U6 {es:Array DictEntry} (h:es.toList=xs.map (entryOfKey (El P w))) (r:KT H kvs xs):es.size=kvs.length:=by
 rw[<- Array.length_toList,h,List.length_map,Paired.length r]
end
section
variable {X:Cx}
def tFz (d:Nat)(t u:TS):TS:=λD σ H=>t { D with nx:=λσ' H'=>∃a kvs,σ'[d]?=some (some (.ref a))/\H' a=some (.dT kvs)/\∀o,u D σ' (upd H' a (.frz o (.dT kvs))) } σ H
theorem Bd6 {st:Stmt}{rest:List Stmt} (h1:QS X st t) (h2:QSs X rest u):QSs X (st::rest) (tFz d t u):=by
 obtain⟨h2⟩:=h2
 refine⟨?_⟩
 intro b s k H D I h
 refine wpAny_execs_cons (thn (h1.1 _ s _ H _ I h) λf n q=>?_)
 cases f with
 | next =>
  obtain⟨i,l,g,a,e,m,j,q⟩:=q;obtain⟨o,c⟩:=g.still j;exact h2 _ _ _ _ D c (q o)
 | ret v=>exact q
 | brk=>exact q
 | cont=>exact q
end
section
end
section
variable {P:Program}{w:World}{A:Around}{E:Value->Shared->Prop}{s:Shared}
theorem Ag9:((Manifest.find? "dict_valueiterator").elim "dict_valueiterator" λx=>x.tpName) = "dict_valueiterator" := by rw[find?_eq_fast];kernel_rfl
theorem Ax4 {it dd:Addr}{i ep:Nat}{es:Array DictEntry}{od:Obj}{Q:Option Value->Shared->Prop}(hit:s.heap.IsValIter it dd i es.size ep)(hod:s.heap.get? dd=some od)(hdd:od.data=.dict es ep)(hi:i<es.size)
 (hQ:∀h',h'.IsValIter it dd (i+1) es.size ep->Heap.SameBut it s.heap h'->Q (some es[i].val) { s with heap:=h' }):wpAny (model P w) A (pyNext (.ref it)) Q E s:=by
 obtain⟨hp,g,d,tk,os⟩:=s;obtain⟨⟨c,dct,dat,sl⟩,ho,hc,hd⟩:=hit;obtain⟨c2,dct2,dat2,sl2⟩:=od;simp only at hc hd hdd;subst hc hd hdd;have ty:(⟨hp,g,d,tk,os⟩:Shared).TypeIs (.ref it) "dict_valueiterator" := ⟨_,ho,rfl⟩;have f1:=mroOf_valiter
 have f2:Builtin.Dict_items.ownsTuple "dict_valueiterator" = false:=by decide
 have f3:es[(i:Int).toNat]?=some es[i]:=by simp[hi]
 unfold pyNext
 refine wpAny_bind (wpAny_attempt (wpAny_callSpecial?_slot (name:="__next__") ty F.slot_dict_valueiterator_next (wpAny_call_entry F.slot_dict_valueiterator_next ty F.entry_dict_valueiterator_next ?_ (F.args_dict_valueiterator_next_1 _))))
 repeat any_goals first | assumption | wp_step
 simp only[Ag9,f2,Bool.false_eq_true,if_false,List.drop_zero,List.take]
 have f4:¬ ((i:Int)<0):=by omega
 simp only[f4,if_false,f3]
 repeat any_goals first | assumption | wp_step
 simp only[Ag9,f2,Bool.false_eq_true,if_false]
 have hit':(hp.update it (Obj.mapFields (·.setIfInBounds 1 (rawInt ((i:Int)+1))))).IsValIter it dd (i+1) es.size ep :=
  ⟨_,Heap.get?_update_self _ ho (Obj.isFreed_of_fields (Obj.data_mapFields rfl _)),Obj.cls_mapFields ..,by rw[Obj.data_mapFields rfl];simp[rawInt]⟩
 exact⟨_,rfl,wpAny_pure (hQ _ hit' (Heap.SameBut.update ..))⟩
theorem A3w {it dd:Addr}{i ep:Nat}{es:Array DictEntry}{od:Obj}{Q:Option Value->Shared->Prop}(quiet:A.handled=none)(hit:s.heap.IsValIter it dd i es.size ep)(hod:s.heap.get? dd=some od)(hdd:od.data=.dict es ep)(hi:es.size<=i)
 (hQ:∀h',Heap.ExtBut it s.heap h'->Q none { s with heap:=h' }):wpAny (model P w) A (pyNext (.ref it)) Q E s:=by
 obtain⟨hp,g,d,tk,os⟩:=s;obtain⟨⟨c,dct,dat,sl⟩,ho,hc,hd⟩:=hit;obtain⟨c2,dct2,dat2,sl2⟩:=od;simp only at hc hd hdd;subst hc hd hdd;have ty:(⟨hp,g,d,tk,os⟩:Shared).TypeIs (.ref it) "dict_valueiterator" := ⟨_,ho,rfl⟩;have f1:=mroOf_valiter
 have f2:Builtin.Dict_items.ownsTuple "dict_valueiterator" = false:=by decide
 have f3:es[(i:Int).toNat]?=none:=by simp[hi]
 unfold pyNext
 refine wpAny_bind (wpAny_attempt (wpAny_callSpecial?_slot (name:="__next__") ty F.slot_dict_valueiterator_next (wpAny_call_entry F.slot_dict_valueiterator_next ty F.entry_dict_valueiterator_next ?_ (F.args_dict_valueiterator_next_1 _))))
 repeat any_goals first | assumption | wp_step
 simp only[Ag9,f2,Bool.false_eq_true,if_false,List.drop_zero,List.take]
 have f4:¬ ((i:Int)<0):=by omega
 simp only[f4,if_false,f3]
 repeat any_goals first | assumption | wp_step
 refine wpAny_raiseNew_none (show A.in1.handled=none from quiet) ?_
 refine wpAny_bind (wpAny_isInstance (T := "StopIteration") (b:=true) ⟨_,Heap.get?_push_size _ rfl,rfl⟩ isSubtype_stop ?_)
 exact wpAny_pure (hQ _ (((Heap.SameBut.update ..).extBut.push _).push _))
theorem Av5 {dd:Addr}(nd:(dd==sysModules)=false):MeetsIn P w (Builtin.«dict.values» ⟨[.ref dd],[]⟩) (λ_ R s=>s.TypeIs (.ref dd) "dict" /\ R (.ok (.ret (.ref s.heap.objs.size))) { s with heap:=s.heap.push { cls:=.type "dict_values",data:=.fields #[.ref dd] } }) :=
 .of_wp λA R s ⟨t,h⟩=>by
  refine wpAny_bind ?_
  unfold Builtin.Dict.noArgs
  refine wpAny_bind (wpAny_notOrdered_dict t (wpAny_pure ?_))
  have e0:Builtin.Dict.showsAll dd=pure ():=by unfold Builtin.Dict.showsAll;rw[if_neg (by rw[nd];exact Bool.false_ne_true)]
  show wpAny _ _ (Builtin.Dict.showsAll dd >>= _) _ _ _
  rw[e0]
  refine wpAny_bind (wpAny_pure (wpAny_bind (wpAny_newObj_type (wpAny_pure ⟨_,rfl,h⟩))))
theorem Ax2 {dd:Addr}{Q:Value->Shared->Prop}(nd:(dd==sysModules)=false)(ty:s.TypeIs (.ref dd) "dict")
 (hQ:Q (.ref s.heap.objs.size) { s with heap:=s.heap.push { cls:=.type "dict_values",data:=.fields #[.ref dd] } }):wpAny (model P w) A (call (.builtin "dict.values") [.ref dd]) Q E s :=
 call_meetsIn PySem.F.slot_dict_values ty PySem.F.entry_dict_values (PySem.F.args_dict_values_1 _) (Av5 nd) ⟨ty,hQ⟩
theorem A0k {v dd:Addr}{es:Array DictEntry}{ep:Nat}{od:Obj}{Q:Value->Shared->Prop}(hv:s.heap.get? v=some { cls:=.type "dict_values",data:=.fields #[.ref dd] }) (hod:s.heap.get? dd=some od) (hdd:od.data=.dict es ep)
 (hQ:Q (.ref s.heap.objs.size) { s with heap:=s.heap.push { cls:=.type "dict_valueiterator",data:=.fields #[.ref dd,.int 0 0,.int es.size 0,.int ep 0] } }):wpAny (model P w) A (pyIter (.ref v)) Q E s:=by
 obtain⟨hp,g,d,tk,os⟩:=s;obtain⟨c2,dct2,dat2,sl2⟩:=od;simp only at hdd;subst hdd;have ty:(⟨hp,g,d,tk,os⟩:Shared).TypeIs (.ref v) "dict_values" := ⟨_,hv,rfl⟩
 have f2:Builtin.Dict_items.ownsTuple "dict_valueiterator" = false:=by decide
 refine wpAny_pyIter_slot ty F.slot_dict_values_iter (wpAny_call_entry F.slot_dict_values_iter ty F.entry_dict_values_iter ?_ (F.args_dict_values_iter_1 _))
 repeat any_goals first | assumption | wp_step
 simp only[f2,Bool.false_eq_true,if_false];exact⟨_,rfl, "dict_valueiterator",_,⟨_,Heap.get?_push_size _ rfl,rfl⟩,F.slot_dict_valueiterator_next.lookup,hQ⟩
end
theorem A3n:typeLookup (.type "dict_values") "__len__" = pure (some (.builtin "dict_values.__len__")):=by rw[typeLookup_type,builtinLookup_eq_fast];kernel_rfl
theorem Ay8:isSubtype (.type "dict_values") (.type "dict_values")=pure true:=by rw[isSubtype_type];kernel_rfl
section
variable {P:Program}{w:World}{A:Around}{E:Value->Shared->Prop}{s:Shared}
theorem Ap6 (quiet:A.handled=none){it dd:Addr}(ne:dd≠it){es:Array DictEntry}{ep:Nat}{o:Obj}(hd:o.data=.dict es ep) :
 Walks P w A it [it,dd] [it] es.size (λi v=>∃h:i<es.size,v=es[i].val) (λi h=>h.IsValIter it dd i es.size ep/\h.get? dd=some o) where
 sub:=λb hb=>by simp at hb;simp[hb]
 frame:=λ_ _ _ st hk=>⟨let ⟨o,e,r⟩:=st.1; ⟨o,hk it (by simp) o e,r⟩,hk dd (by simp) _ st.2⟩
 item:=λi s Q E hi st hQ=>Ax4 st.1 st.2 hd hi λh' it' sb=>hQ _ h' s.toks ⟨hi,rfl⟩ ⟨it',(sb.2 _ ne).trans st.2⟩ λb o hb e=>(sb.2 b (λh=>hb (by simp[h]))).trans e
 done:=λs Q E st hQ=>A3w quiet st.1 st.2 hd (Nat.le_refl _) λh' he=>hQ h' s.toks λb o hb e=>he b o (λh=>hb (by simp[h])) e
 self:=λ_ _ _ _ st hQ=>wpAny_pyIter_valiter st.1 hQ
theorem Az6 {v dd S:Addr}{es:Array DictEntry}{ep c₀:Nat}{o:Obj}{res:Value}{R:Result->Shared->Prop}(quiet:A.handled=none)(nv:S≠v)(nd:S≠dd)(hv:s.heap.get? v=some { cls:=.type "dict_values",data:=.fields #[.ref dd] })
 (g1:s.heap.get? dd=some o) (hd:o.data=.dict es ep) (hn:es.size<=sizeLine) (hS:s.heap.get? S=some { cls:=.type "list",data:=.seq #[] c₀ })
 (hQ:∀h' tk acc c,(∀b o,b≠S->s.heap.get? b=some o->h'.get? b=some o)->h'.get? S=some { cls:=.type "list",dict:=none,data:=.seq acc c,slots:=#[] }->ItemsOf (λi v=>∃h:i<es.size,v=es[i].val) acc es.size->R (.ok (.ret res)) { s with heap:=h',toks:=tk }) :
 wpAny (model P w) A.in1 (Builtin.List.listExtendWith (.ref S) (.ref v) res)
  (λfin s'=>match fin with | .done f=>R (.ok f) s' | .again c'=>c'.quiet=true/\codeAny (model P w) A c' R s') (λe s'=>R (.error e) s') s:=by
 unfold Builtin.List.listExtendWith;have ty:s.TypeIs (.ref v) "dict_values" := ⟨_,hv,rfl⟩
 refine wpAny_bind (wpAny_typeOf ty ?_)
 have e1:Builtin.List.listSameRef (.ref S) (.ref v)=false:=by simp[Builtin.List.listSameRef,nv]
 have e2:(Value.type "dict_values" == Value.type "list")=false:=by decide
 have e3:(Value.type "dict_values" == Value.type "tuple")=false:=by decide
 simp only[e1,e2,e3,Bool.or_false,Bool.false_eq_true,if_false]
 refine wpAny_bind (A0k hv g1 hd ?_)
 have hit:(s.heap.push { cls:=.type "dict_valueiterator",data:=.fields #[.ref dd,.int 0 0,.int es.size 0,.int ep 0] }).IsValIter s.heap.objs.size dd 0 es.size ep:=⟨_,Heap.get?_push_size _ rfl,rfl,rfl⟩
 have up:∀c o,s.heap.get? c=some o->(s.heap.push { cls:=.type "dict_valueiterator",data:=.fields #[.ref dd,.int 0 0,.int es.size 0,.int ep 0] }).get? c=some o:=λc o e=>Heap.get?_push_of_some _ e
 have nI:s.heap.objs.size≠S:=Nat.ne_of_gt (Heap.lt_size hS);have ndI:dd≠s.heap.objs.size:=Nat.ne_of_lt (Heap.lt_size g1)
 show wpAny _ A.in1 _ _ _ { s with heap:=s.heap.push { cls:=.type "dict_valueiterator",data:=.fields #[.ref dd,.int 0 0,.int es.size 0,.int ep 0] } }
 generalize (s.heap.push { cls:=.type "dict_valueiterator",data:=.fields #[.ref dd,.int 0 0,.int es.size 0,.int ep 0] })=h1 at *
 have ty1:({ s with heap:=h1 }:Shared).TypeIs (.ref v) "dict_values" := ⟨_,up _ _ hv,rfl⟩
 refine wpAny_bind (wpAny_holding ?_)
 unfold Builtin.List.listLengthHint
 refine wpAny_bind (wpAny_specialOf ty1 A3n ?_)
 wp_delta
 refine wpAny_bind (wpAny_isInstance (b:=true) ty1 Ay8 ?_)
 show wpAny _ A.in1 (typeOf (Value.ref v) >>= _) _ _ _
 refine wpAny_bind (wpAny_typeOf ty1 ?_)
 refine wpAny_pure ?_
 rw[if_pos (by decide)]
 refine wpAny_bind (wpAny_rule ?_)
 refine wpAny_bind (m:=Builtin.List.listTouch _) ?_
 unfold Builtin.List.listTouch;have hS1:=up _ _ hS
 refine wpAny_bind (wpAny_updateSeq hS1 rfl ?_)
 have q2:=Heap.get?_update_self (Obj.mapSeq (·.push Value.none)) hS1 rfl
 refine wpAny_updateSeq q2 rfl ?_
 have q3:=Heap.get?_update_self (Obj.mapSeq (·.pop)) q2 rfl
 have oth:∀b o,b≠S->h1.get? b=some o->((h1.update S (Obj.mapSeq (·.push Value.none))).update S (Obj.mapSeq (·.pop))).get? b=some o:=λb o n e=>(Heap.get?_update_other _ _ (Ne.symm n)).trans ((Heap.get?_update_other _ _ (Ne.symm n)).trans e)
 have W:=Ap6 (P:=P) (w:=w) (A:=A.in1) (show A.in1.handled=none from quiet) ndI hd
 refine wpAny_pure ⟨plainId_quiet F.plain_extend_loop _,codeAny_extend_loopS W.toS hn S (λm=>?_) _ es.size 0 _ _ _ rfl (Nat.zero_le _) ⟨?_,oth _ _ (Ne.symm nd) (up _ _ g1)⟩ q3 (ItemsOf.nil _) λs' acc' c' hm hS' hacc=>?_⟩
 ·simp only[List.mem_cons,List.not_mem_nil,or_false]at m
  rcases m with m | m
  ·exact nI m.symm
  ·exact nd m
 ·obtain⟨ob,e1,e2⟩:=hit
  exact⟨ob,oth _ _ nI e1,e2⟩
 ·obtain⟨h',g',d',tk',os'⟩:=s'
  cases (show g'=s.gens from hm.gens)
  cases (show d'=s.drawn from hm.drawn)
  cases (show os'=s.os from hm.os)
  refine hQ h' tk' acc' c' (λb o nb e=>hm.heap b o (λhb=>?_) (oth b o nb (up b o e))) hS' hacc
  simp only[List.mem_cons,List.not_mem_nil,or_false]at hb
  rcases hb with h | h
  ·exact nb h
  ·exact Nat.ne_of_lt (Heap.lt_size e) h
theorem T6 {v dd:Addr}{es:Array DictEntry}{ep:Nat}{o:Obj}{Q:Value->Shared->Prop}(quiet:A.handled=none)(hv:s.heap.get? v=some { cls:=.type "dict_values",data:=.fields #[.ref dd] })
 (g1:s.heap.get? dd=some o) (hd:o.data=.dict es ep) (hn:es.size<=sizeLine)
 (hQ:∀h' tk acc c,(∀b o,s.heap.get? b=some o->h'.get? b=some o)->h'.get? s.heap.objs.size=some { cls:=.type "list",dict:=none,data:=.seq acc c,slots:=#[] }->ItemsOf (λi v=>∃h:i<es.size,v=es[i].val) acc es.size->Q (.ref s.heap.objs.size) { s with heap:=h',toks:=tk }) :
 wpAny (model P w) A (call (.type "list") [.ref v]) Q E s:=by
 refine callType_codes (Q₁:=λobj s₁=>obj=.ref s.heap.objs.size/\s₁={ s with heap:=s.heap.push { cls:=.type "list",data:=.seq #[] } }) F.called_list (F.typeCall_list_1 _) F.entry_list_init (code_list_new _ ⟨rfl,rfl⟩) λobj s₁ h₁=>?_
 obtain⟨rfl,rfl⟩:=h₁;have hS:(s.heap.push { cls:=.type "list",data:=.seq #[] }).get? s.heap.objs.size=some { cls:=.type "list",data:=.seq #[] }:=Heap.get?_push_size _ rfl
 refine⟨⟨_,hS,rfl⟩,F.args_list_init_2 _ _,?_⟩
 show wpAny _ A.in1.in1 (do let old <- Builtin.List.listItems (.ref s.heap.objs.size); Builtin.List.listUpdate (.ref s.heap.objs.size) (λ_=>#[]);letGo old.toList.reverse; Builtin.List.listExtendWith (.ref s.heap.objs.size) (.ref v) .none) _ _ _
 refine wpAny_bind ?_
 unfold Builtin.List.listItems
 refine wpAny_bind (wpAny_seqItems hS rfl (wpAny_pure ?_))
 show wpAny _ A.in1.in1 (updateSeq s.heap.objs.size (λ_=>#[]) >>= λ_=>letGo (#[]:Array Value).toList.reverse >>= λ_=>Builtin.List.listExtendWith (.ref s.heap.objs.size) (.ref v) .none) _ _ _
 refine wpAny_bind (wpAny_updateSeq hS rfl ?_)
 have hS₂:=Heap.get?_update_self (Obj.mapSeq (λ_=>(#[]:Array Value))) hS rfl
 have oth:∀b o,s.heap.get? b=some o->((s.heap.push { cls:=.type "list",data:=.seq #[] }).update s.heap.objs.size (Obj.mapSeq (λ_=>(#[]:Array Value)))).get? b=some o :=
  λb o e=>(Heap.get?_update_other _ _ (Nat.ne_of_gt (Heap.lt_size e))).trans (Heap.get?_push_of_some _ e)
 refine wpAny_bind (wpAny_letGo ?_)
 refine Az6 (A:=A.in1) (show A.in1.handled=none from quiet) (Nat.ne_of_gt (Heap.lt_size hv)) (Nat.ne_of_gt (Heap.lt_size g1)) (oth _ _ hv) (oth _ _ g1) hd hn hS₂ λh' tk acc c kp e it=>?_
 exact⟨rfl,hQ h' tk acc c (λb o e=>kp b o (Nat.ne_of_lt (Heap.lt_size e)) (oth b o e)) e it⟩
end
def A1k (td:TE):TE:=λσ H Q=>td σ H λx H1=>∃a o kvs,x=.ref a/\H1 a=some (.frz o (.dT kvs))/\∀l,H1 l=none->Q (.ref l) (upd H1 l (.lst (kvs.map (·.2))))
section
variable {X:Cx}
theorem A5o {P:Program}{w:World}{H:Hp}{kvs:List (PyData×V)}{xs:List (PyData×Addr×Value)}{es:Array DictEntry}{acc:Array Value}(g5:es.toList=xs.map (entryOfKey (El P w)))(g6:KT H kvs xs)(it:ItemsOf (λi v=>∃h:i<es.size,v=es[i].val) acc es.size):Vals (kvs.map (·.2)) acc.toList:=by
 have sz:=U6 g5 g6
 have ea:acc.toList=xs.map λx=>x.2.2:=by
  have la:acc.size=xs.length:=it.1.trans (sz.trans (Paired.length g6));apply List.ext_getElem
  ·rw[Array.length_toList,List.length_map];exact la
  ·intro i h1 h2
   have hi:i<acc.size:=by simpa using h1
   have hx:i<xs.length:=by simpa using h2
   obtain⟨hs,e1⟩:=it.2 i acc[i] (Array.getElem?_eq_getElem hi)
   have e2:es.toList[i]?=some (entryOfKey (El P w) xs[i]):=by rw[g5,List.getElem?_map,List.getElem?_eq_getElem hx];rfl
   rw[Array.getElem?_toList,Array.getElem?_eq_getElem hs]at e2;rw[Array.getElem_toList,e1,Option.some.inj e2,List.getElem_map];rfl
 rw[ea]
 clear it g5 sz ea
 induction g6 with
 | nil=>exact .nil
 | cons h t ih=>exact .cons h.2.2 ih
theorem A3j {l:Expr}{tl:TE}{p pos apos cpos:Pos}(hc:X.calm=true)(hg:Gl X "list") (hm:X.mg "list" = none) (hl:QE X l tl) (hbase:attributeBase l "values" X.env (eval l X.env)=eval l X.env:=by rfl) (hline:(apos.endLine==cpos.line)=true:=by rfl) :
 QE X (.Call (.Name "list" p) [.Call (.Attribute l "values" apos) [] [] cpos] [] pos) (A1k tl):=by
 refine⟨?_⟩
 intro pins s σ H Q I h;have st1:starEach [.Call (.Attribute l "values" apos) [] [] cpos] X.env=(false,eval (.Call (.Attribute l "values" apos) [] [] cpos) X.env)::starEach [] X.env:=G9 rfl
 refine Call_ (Nf I hg hm Kf (PyProof.Rows.callWith_type1 ?_ st1 rfl))
 rw[st1]
 show wpAny _ _ (spliced ((false,eval (.Call (.Attribute l "values" apos) [] [] cpos) X.env)::backTo pos (starEach [] X.env))) _ _ s
 refine Calls.spliced_cons ?_
 refine wpAny_Call_method0_late hbase hline (thn (hl.1 pins s σ H _ I h) λu s1 ⟨x,H1,I1,r1,q1⟩=>?_)
 obtain⟨a,o,kvs,rfl,hq,q⟩:=q1
 cases (show u=Value.ref a from r1)
 obtain⟨t1,t2,_⟩:=A1z I1 (.inr ⟨kvs,.inr ⟨o,hq⟩⟩);obtain⟨xs,es,ep,g1,g2,g3,g4,g5,g6,g7⟩:=I1.seen hq
 refine⟨"dict", "dict.values",PySem.F.plainAttrs_dict,PySem.F.slot_dict_values,PySem.F.type_dict_values,t1,t2,Calls.callWith_builtin rfl (PySem.evalArgs_none (Ax2 g2 t1 ?_))⟩
 refine Calls.spliced_nil ?_
 have I2:Inv X pins σ H1 { s1 with heap:=s1.heap.push { cls:=.type "dict_values",data:=.fields #[.ref a] } }:=I1.kept (t':=s1.toks) λb o e=>Heap.get?_push_of_some _ e
 have hv:(s1.heap.push { cls:=.type "dict_values",data:=.fields #[.ref a] }).get? s1.heap.objs.size=some { cls:=.type "dict_values",data:=.fields #[.ref a] }:=Heap.get?_push_size _ rfl
 refine T6 (show _=none from I.ok.hd hc) hv (Heap.get?_push_of_some _ g1) g4 (by rw[U6 g5 g6];exact g7) λh' tk acc c kp e it=>?_
 have hf:=I2.hok.fresh (Nat.le_refl _)
 refine⟨.ref _,_,I2.laid (t':=tk) kp (Nat.le_refl _) (show zA X.prog X.w _ h' _ (.lst _) from ⟨?_,acc.toList,c,A5o g5 g6 it,e⟩),rfl,q _ hf⟩
 rw[List.length_map];exact g7
end
end L2
namespace U
open PySem L2
structure Xn where
 n:Str
 p:Option (Str×PyData)
inductive Th where
 | nm (T:String)
 | dc (ks:List Str) (ds:List PyData)
 | dt (ks ds:List PyData)
 | ds (ks ds:List PyData)
 | td (xs ks ds:List PyData)
 | xc (nm:Xn)
 | tc (ss:List Str)
inductive O where
 | im (d:PyData)
 | ls (b:Bool) (ds:List PyData)
 | sc (ns:List Int)
 | ty (T:Th)
abbrev Ev:=List (Option O)
inductive PV where
 | o (o:O)
 | sl (i:Nat)
inductive R (α:Type) where
 | ok (a:α) (c:Ev)
 | bad
noncomputable def R.bind {α β:Type} (r:R α) (k:α->Ev->R β):R β:=match r with
 | .ok a c=>k a c
 | .bad=>.bad
def R.sat {α:Type}(r:R α)(φ:α->Ev->Prop):Prop:=match r with
 | .ok a c=>φ a c
 | .bad=>False
theorem R.sat_bind {r:R d}{k:d->Ev->R e}{b:e->Ev->Prop}:(r.bind k).sat b↔r.sat λa c=>(k a c).sat b:=by cases r <;> exact Iff.rfl
theorem R.sat.mono {r:R d}{e b:d->Ev->Prop}(h:r.sat e) (f:∀a c,e a c->b a c):r.sat b:=by
 cases r with
 | ok a c=>exact f a c h
 | bad=>exact h
theorem R.sat.bnd {r:R d}{k:d->Ev->R e}{b:e->Ev->Prop}(h:(r.bind k).sat b):r.sat λa c=>(k a c).sat b:=R.sat_bind.mp h
noncomputable def O.bor:O->Bool
 | .ls b _=>b
 | _=>false
noncomputable def O.own:O->Bool
 | .ls _ _=>true
 | _=>false
noncomputable def O.dat:O->Option PyData
 | .im d=>some d
 | .ls _ ds=>some (.list ds)
 | _=>none
noncomputable def O.flag (b:Bool):O->O
 | .ls _ ds=>.ls b ds
 | o=>o
noncomputable def nrm:PV->PV
 | .o (.ls _ ds)=>.o (.im (.list ds))
 | p=>p
noncomputable def rdP (c:Ev):PV->Option O
 | .o o=>some o
 | .sl i=>(c[i]?).join
def Ep (c:Ev)(p:PV):Option PyData:=(rdP c p).bind O.dat
structure Wo where
 Hf:Hp
 H:Hp
 fps:Nat->List Addr
def Wo.S (W:Wo):Addr->Prop:=λa=>∃i,a∈W.fps i
def Bj7 (Hf:Hp):Option (Str×PyData)->Option Addr->Prop
 | none,d=>d=none
 | some q,d=>∃a v,d=some a/\Hf a=some (.xd [(q.1,v)])/\Tr Hf q.2 v
structure XAt (K:PySem.W.Frag) (Hf:Hp) (nm:Xn) (C:Addr) (d:Option Addr):Prop where
 ns:PySem.W.nsIn K mainGlobals nm.n=some (some (.ref C))
 pay:Bj7 Hf nm.p d
theorem XAt.same {K:PySem.W.Frag}{Hf Hf':Hp}{nm:Xn}{C:Addr}{d:Option Addr}(S:Same Hf Hf')(x:XAt K Hf nm C d):XAt K Hf' nm C d:=by
 refine⟨x.ns,?_⟩
 have q:=x.pay
 cases e:nm.p with
 | none=>rw[e]at q;exact q
 | some y=>rw[e]at q;obtain⟨a,v,h1,h2,h3⟩:=q;exact⟨a,v,h1,S _ _ h2,Tr.same S h3⟩
def RepT (K:PySem.W.Frag)(Hf:Hp):Th->V->Prop
 | .nm T,v=>v=.ty T
 | .dc ks ds,v=>∃a xs,v=.ref a/\Hf a=some (.dK (Bm8 ks xs))/\TrL Hf ds xs
 | .dt ks ds,v=>∃a xs,v=.ref a/\Rd Hf a (.dT (ks.zip xs))/\TrL Hf ds xs/\ks.length=xs.length
 | .ds ks ds,v=>∃a o xs,v=.ref a/\Hf a=some (.frz o (.dT (ks.zip xs)))/\TrL Hf ds xs/\ks.length=xs.length
 | .td es ks ds,v=>∃a us b o xs,v=.ref a/\Hf a=some (.tup (us++[.ref b]))/\TrL Hf es us/\Hf b=some (.frz o (.dT (ks.zip xs)))/\TrL Hf ds xs/\ks.length=xs.length
 | .xc nm,v=>∃a C d,v=.ref a/\XAt K Hf nm C d/\Hf a=some (Bm9 a C d)
 | .tc ss,v=>∃p,v=.ref p/\∀H,SqT K H p (ss.map V.str)
theorem A3t (S:Same Hf b) (h:Rd Hf a u):Rd b a u:=h.imp (λh=>S _ _ h) λ⟨o,h⟩=>⟨o,S _ _ h⟩
theorem RepT.same {K:PySem.W.Frag}{Hf Hf':Hp}(S:Same Hf Hf'):∀{t:Th}{v:V},RepT K Hf t v->RepT K Hf' t v
 | .nm T,_,h=>h
 | .dc ks ds,_,⟨a,xs,e,h,t⟩=>⟨a,xs,e,S _ _ h,TrL.same S t⟩
 | .dt ks ds,_,⟨a,xs,e,h,t,l⟩=>⟨a,xs,e,A3t S h,TrL.same S t,l⟩
 | .ds ks ds,_,⟨a,o,xs,e,h,t,l⟩=>⟨a,o,xs,e,S _ _ h,TrL.same S t,l⟩
 | .td es ks ds,_,⟨a,us,b,o,xs,e,h,t,h2,t2,l⟩=>⟨a,us,b,o,xs,e,S _ _ h,TrL.same S t,S _ _ h2,TrL.same S t2,l⟩
 | .xc nm,_,⟨a,C,d,e,n,h⟩=>⟨a,C,d,e,n.same S,S _ _ h⟩
 | .tc ss,_,h=>h
def RepN (K:PySem.W.Frag)(Hf:Hp):O->V->Prop
 | .im d,v=>Tr Hf d v
 | .sc ns,v=>∃a,v=.ref a/\SqL K Hf a (ns.map V.int)
 | .ty T,v=>RepT K Hf T v
 | .ls _ _,_=>False
def RepO (K:PySem.W.Frag)(Hf H:Hp)(o:O)(v:V)(fp:List Addr):Prop:=match o with
 | .ls _ ds=>∃a vs,v=.ref a/\fp=[a]/\Hf a=none/\H a=some (.lst vs)/\TrL Hf ds vs
 | o=>fp=[]/\RepN K Hf o v
structure Stp (S:Addr->Prop) (Hf H:Hp) (S':Addr->Prop) (Hf' H':Hp):Prop where
 fz:Same Hf Hf'
 kp:∀a o,H a=some o->¬ S a->H' a=some o
 nf:∀a o,H a=some o->Mut (some o)->¬ S a->Hf a=none->Hf' a=none
 fr:∀a,S' a->S a\/H a=none
structure Rep (K:PySem.W.Frag) (β:Nat->V) (W:Wo) (c:Ev) (σ:St):Prop where
 sub:Same W.Hf W.H
 len:c.length=σ.length
 get:∀i o,c[i]?=some (some o)->∃v,σ[i]?=some (some v)/\RepO K W.Hf W.H o v (W.fps i)/\(o.bor=true->v=β i)
 dis:∀i j a,a∈W.fps i->a∈W.fps j->i=j
 own:∀i a,a∈W.fps i->W.Hf a=none/\∃o,W.H a=some o/\Mut (some o)
def Fo (K:PySem.W.Frag)(W:Wo)(σ:St):PV->V->List Addr->Prop
 | .o o,v,fp=>RepO K W.Hf W.H o v fp/\∀a∈fp,¬ W.S a
 | .sl i,v,fp=>fp=[]/\σ[i]?=some (some v)
def RepA (K:PySem.W.Frag)(Hf:Hp)(σ:St):PV->V->Prop
 | .o o,v=>RepN K Hf o v
 | .sl i,v=>σ[i]?=some (some v)
def zR (K:PySem.W.Frag)(Hf:Hp)(σ:St):List PV->List V->Prop
 | [],vs=>vs=[]
 | p::ps,vs=>∃v r,vs=v::r/\RepA K Hf σ p v/\zR K Hf σ ps r
abbrev orS (S:Addr->Prop)(fp:List Addr):Addr->Prop:=λa=>S a\/a∈fp
section
variable {K:PySem.W.Frag}{β:Nat->V}{W W':Wo}{c c':Ev}{σ:St}{Hf Hf' Hf2 H H' H2:Hp}{o:O}{v:V}{fp:List Addr}{S S' S2:Addr->Prop}{p:PV}{a:Addr}
theorem Stp.refl:Stp S Hf H S Hf H:=⟨λ_ _ h=>h,λ_ _ h _=>h,λ_ _ _ _ _ h=>h,λ_ h=>.inl h⟩
theorem Stp.trans (x:Stp S Hf H S' Hf' H')(y:Stp S' Hf' H' S2 Hf2 H2):Stp S Hf H S2 Hf2 H2:=by
 have b:∀a o,H a=some o->¬ S a->¬ S' a:=λa o h n z=>by
  rcases x.fr a z with q | q
  ·trivial
  simp_all
 refine⟨x.fz.trans y.fz,λa o h n=>y.kp a o (x.kp a o h n) (b a o h n),λa o h c n q=>y.nf a o (x.kp a o h n) c (b a o h n) (x.nf a o h c n q),λa h=>?_⟩
 rcases y.fr a h with q | q
 ·exact x.fr a q
 ·cases e:H a with
  | none=>simp_all
  | some o =>
   by_cases n:S a
   ·grind
   ·rw[x.kp a o e n]at q;grind
theorem Stp.less (x:Stp S Hf H S' Hf' H')(h:∀a,S2 a->S' a):Stp S Hf H S2 Hf' H':=⟨x.fz,x.kp,x.nf,λa q=>x.fr a (h a q)⟩
theorem Stp.more {F:Addr->Prop}(x:Stp S Hf H S' Hf' H'):Stp (λa=>S a\/F a) Hf H (λa=>S' a\/F a) Hf' H' :=
 ⟨x.fz,λa o h n=>x.kp a o h λz=>n (.inl z),λa o h b n q=>x.nf a o h b (λz=>n (.inl z)) q,λa q=>by
  rcases q with q | q
  ·rcases x.fr a q with z | z
   ·simp_all
   grind
  simp_all⟩
theorem Stp.up (x:Stp S Hf H S' Hf' H')(h:∀a,S a->S2 a):Stp S2 Hf H S' Hf' H' :=
 ⟨x.fz,λa o e n=>x.kp a o e λz=>n (h a z),λa o e b n q=>x.nf a o e b (λz=>n (h a z)) q,λa q=>(x.fr a q).imp (h a) id⟩
theorem RepN.same (S:Same Hf Hf'):∀{o:O}{v:V},RepN K Hf o v->RepN K Hf' o v
 | .im d,_,h=>Tr.same S h
 | .sc ns,_,⟨a,e,h⟩=>⟨a,e,Same.seq S h⟩
 | .ty T,_,h=>RepT.same S h
 | .ls _ _,_,h=>h
theorem RepA.same (S:Same Hf Hf'):∀{p:PV}{v:V},RepA K Hf σ p v->RepA K Hf' σ p v
 | .o _,_,h=>RepN.same S h
 | .sl _,_,h=>h
theorem zR.same (S:Same Hf Hf'):∀{ps:List PV}{vs:List V},zR K Hf σ ps vs->zR K Hf' σ ps vs
 | [],_,h=>h
 | p::ps,_,⟨v,r,e,h,t⟩=>⟨v,r,e,RepA.same S h,zR.same S t⟩
theorem RepO.mono (h:RepO K Hf H o v fp)(S:Same Hf Hf')(h1:∀a∈fp,Hf' a=none/\H' a=H a):RepO K Hf' H' o v fp:=by
 cases o with
 | ls b ds =>
  obtain⟨a,f,rfl,rfl,q,e,t⟩:=h;obtain⟨c,g⟩:=h1 a (.head _);exact⟨a,f,rfl,rfl,c,g.trans e,TrL.same S t⟩
 | im d=>exact⟨h.1,RepN.same S h.2⟩
 | sc ns=>exact⟨h.1,RepN.same S h.2⟩
 | ty T=>exact⟨h.1,RepN.same S h.2⟩
theorem Rep.frame (R:Rep K β W c σ)(S:Same W.Hf Hf')(sub:Same Hf' H')(h:∀a,W.S a->Hf' a=none/\H' a=W.H a):Rep K β ⟨Hf',H',W.fps⟩ c σ :=
 ⟨sub,R.len,λi o e=>by
  obtain⟨v,f,r,b⟩:=R.get i o e
  exact⟨v,f,r.mono S λa d=>h a ⟨i,d⟩,b⟩,R.dis,λi a d=>by
  obtain⟨_,o,q,j⟩:=R.own i a d;obtain⟨k,g⟩:=h a ⟨i,d⟩
  grind⟩
theorem Rep.notS (R:Rep K β W c σ)(h:W.H a=none):¬ W.S a:=λ⟨i,q⟩=>by
 obtain⟨_,o,e,_⟩:=R.own i a q
 grind
theorem Rep.notF (R:Rep K β W c σ)(h:W.H a=none):W.Hf a=none:=Same.free R.sub h
theorem Stp.rep (R:Rep K β W c σ)(x:Stp (λ_=>False) W.Hf W.H S' Hf' H')(sub:Same Hf' H'):Rep K β ⟨Hf',H',W.fps⟩ c σ :=
 R.frame x.fz sub λa d=>by
  obtain⟨i,f⟩:=d;obtain⟨z,o,e,b⟩:=R.own i a f
  exact⟨x.nf a o e b (λz=>z) z,(x.kp a o e λz=>z).trans e.symm⟩
theorem Bt {p:Addr}{o:HO}(h:H p=none):Same H (upd H p o):=λb u e=>by
 rw[Ah];exact e
 grind
theorem Wi {o:HO}(s:Same Hf H):Same (upd Hf a o) (upd H a o):=λb u e=>by
 unfold upd at e ⊢
 split
 ·grind
 ·rename_i z;rw[if_neg z]at e;exact s b u e
theorem Stp.newF {o:HO}(s:Same Hf H)(h:H a=none):Stp (λ_=>False) Hf H (λ_=>False) (upd Hf a o) (upd H a o) :=
 ⟨Bt (Same.free s h),λb u e _=>Bt h b u e,λb u e _ _ q=>by rw[Ah (Bk e h)];grind,λ_ z=>z.elim⟩
theorem Stp.newL {o:HO}(s:Same Hf H)(h:H a=none):Stp (λ_=>False) Hf H (λb=>b∈[a]) Hf (upd H a o) :=
 ⟨Same.refl _,λb u e _=>Bt h b u e,λb u e _ _ q=>q,λb z=>by
  grind⟩
theorem O6 {o:HO}(s:Same Hf H)(h:H a=none):Same Hf (upd H a o):=s.trans (Bt h)
def ME (K:PySem.W.Frag)(T:TE)(f:Ev->R PV):Prop:=∀(β:Nat->V) (W:Wo) (c:Ev) (σ:St) (Q:VK),Rep K β W c σ ->
 (f c).sat (λp c'=>∀v W' fp,Stp W.S W.Hf W.H (orS W'.S fp) W'.Hf W'.H->Rep K β W' c' σ->Fo K W' σ p v fp->Q v W'.H)->T σ W.H Q
def MV (K:PySem.W.Frag)(T:TE)(f:Ev->R PV):Prop:=∀(β:Nat->V) (W:Wo) (c:Ev) (σ:St) (Q:VK),Rep K β W c σ ->
 (f c).sat (λp c'=>∀v W',Stp W.S W.Hf W.H W'.S W'.Hf W'.H->Rep K β W' c' σ->RepA K W'.Hf σ (nrm p) v->Q v W'.H)->T σ W.H Q
def MA (K:PySem.W.Frag)(T:TA)(f:Ev->R (List PV)):Prop:=∀(β:Nat->V) (W:Wo) (c:Ev) (σ:St) (Q:List V->Hp->Prop),Rep K β W c σ ->
 (f c).sat (λps c'=>∀vs W',Stp W.S W.Hf W.H W'.S W'.Hf W'.H->Rep K β W' c' σ->zR K W'.Hf σ ps vs->Q vs W'.H)->T σ W.H Q
def MT (K:PySem.W.Frag)(T:TT)(f:Ev->R Bool):Prop:=∀(β:Nat->V) (W:Wo) (c:Ev) (σ:St) (Q:Bool->Hp->Prop),Rep K β W c σ ->
 (f c).sat (λb c'=>∀W',Stp W.S W.Hf W.H W'.S W'.Hf W'.H->Rep K β W' c' σ->Q b W'.H)->T σ W.H Q
theorem X6 (R:Rep K β W c σ) (hf:W.Hf a=none) (h:W.H a=some (.lst vs)) (hn:¬ W.S a):Rep K β ⟨upd W.Hf a (.lst vs),W.H,W.fps⟩ c σ :=
 R.frame (Bt hf) (λb u e=>by
  unfold upd at e
  split at e
  ·grind
  ·exact R.sub b u e) λb f=>by
   obtain⟨i,g⟩:=f
   have d:b≠a:=λz=>hn ⟨i,by simp_all⟩
   exact⟨by rw[Ah d];exact(R.own i b g).1,rfl⟩
theorem Bi1 {Q:VK} (k:∀v c,Stp W.S W.Hf W.H c.S c.Hf c.H->Rep K β c c' σ->RepA K c.Hf σ (nrm p) v->Q v c.H) (v:V) (c:Wo) (fp:List Addr) (st:Stp W.S W.Hf W.H (orS c.S fp) c.Hf c.H) (g:Rep K β c c' σ) (f:Fo K c σ p v fp):Q v c.H:=by
 cases p with
 | sl i =>
  obtain⟨rfl,e⟩:=f
  exact k v _ (st.less λa z=>.inl z) g e
 | o o =>
  cases o with
  | im d =>
   obtain⟨⟨rfl,e⟩,_⟩:=f
   exact k v _ (st.less λa z=>.inl z) g e
  | sc d =>
   obtain⟨⟨rfl,e⟩,_⟩:=f
   exact k v _ (st.less λa z=>.inl z) g e
  | ty d =>
   obtain⟨⟨rfl,e⟩,_⟩:=f
   exact k v _ (st.less λa z=>.inl z) g e
  | ls b ds =>
   obtain⟨⟨a,l,rfl,rfl,h,r,t⟩,m⟩:=f
   refine k _ ⟨upd _ a _,c.H,c.fps⟩ ⟨st.fz.trans (Bt h),st.kp,λb o e s n q=>?_,λb z=>st.fr b (.inl z)⟩ (X6 g h r (m a (.head _))) ?_
   ·have j:b≠a:=λz=>by
     rcases st.fr a (.inr (.head _)) with y | y
     ·grind
     simp_all
    show upd _ a _ b=none
    rw[Ah j];exact st.nf b o e s n q
   ·exact⟨a,l,rfl,Av,TrL.same (Bt h) t⟩
theorem ME.toV (h:ME K T f):MV K T f:=λe W c j Q R s=>h _ W c _ Q R (s.mono λp l k v g i a d b=>Bi1 k v _ _ a d b)
end
def RdV (Hf H:Hp):PyData->V->Prop
 | .list ds,v=>∃a vs,v=.ref a/\H a=some (.lst vs)/\TrL Hf ds vs
 | d,v=>Tr Hf d v
section
variable {K:PySem.W.Frag}{β:Nat->V}{W W':Wo}{c c':Ev}{σ:St}{Hf Hf' H H':Hp}{o:O}{v:V}{fp:List Addr}{S:Addr->Prop}{p:PV}{a:Addr}{d:PyData}
theorem RdV.of (s:Same Hf H)(h:Tr Hf d v):RdV Hf H d v:=by
 cases d with
 | list f=>obtain⟨a,c,e,q,t⟩:=h;exact⟨a,c,e,s _ _ q,t⟩
 | none=>exact h
 | bool b=>exact h
 | int i=>exact h
 | str x=>exact h
 | tuple f=>exact h
 | dict k=>exact h
theorem RdV.tr (s:Same Hf H)(h:RdV Hf H d v):Tr H d v:=by
 cases d with
 | list f=>obtain⟨a,c,e,q,t⟩:=h;exact⟨a,c,e,q,TrL.same s t⟩
 | none=>exact h
 | bool b=>exact h
 | int i=>exact h
 | str x=>exact h
 | tuple f=>exact Tr.same s h
 | dict k=>trivial
theorem Gp (R:Rep K β W c σ)(h:RepA K W.Hf σ p v)(e:Ep c p=some d):RdV W.Hf W.H d v:=by
 cases p with
 | o o =>
  cases o with
  | im m=>cases e;exact .of R.sub h
  | ls b n=>trivial
  | sc k=>trivial
  | ty T=>trivial
 | sl i =>
  have l:c[i]?.join.bind _=some d:=e;obtain⟨o,g,f⟩:=Option.bind_eq_some_iff.mp l
  have g:c[i]?=some (some o):=by
   grind
  obtain⟨u,s,r,_⟩:=R.get i o g
  cases s.symm.trans h
  cases o with
  | im m=>cases f;exact .of R.sub r.2
  | ls b n =>
   cases f
   obtain⟨a,j,e,_,_,q,t⟩:=r;exact⟨a,j,e,q,t⟩
  | sc k=>trivial
  | ty T=>trivial
def A8x (Hf H:Hp):List PyData->List V->Prop
 | [],vs=>vs=[]
 | d::ds,vs=>∃v r,vs=v::r/\RdV Hf H d v/\A8x Hf H ds r
abbrev New (K:PySem.W.Frag)(Hf H:Hp)(o:O)(Q:VK):Prop:=∀v Hf' H' fp,Stp (λ_=>False) Hf H (λa=>a∈fp) Hf' H'->Same Hf' H'->RepO K Hf' H' o v fp->Q v H'
def OpS (K:PySem.W.Frag)(r:R2)(op:PyData->PyData->Option O):Prop:=∀(Hf H:Hp) (x y:V) (dx dy:PyData) (o:O) (Q:VK),Same Hf H->RdV Hf H dx x->RdV Hf H dy y->op dx dy=some o->New K Hf H o Q->r x y H Q
def Bl3 (K:PySem.W.Frag)(r:List V->Hp->VK->Prop)(op:List PyData->Option O):Prop:=∀(Hf H:Hp) (xs:List V) (ds:List PyData) (o:O) (Q:VK),Same Hf H->A8x Hf H ds xs->op ds=some o->New K Hf H o Q->r xs H Q
theorem New.same (h:New K Hf H (.im d) Q) (s:Same Hf H) (t:Tr Hf d v):Q v H:=h v _ H [] (Stp.refl.less λa z=>nomatch z) s ⟨rfl,t⟩
theorem New.tup (h:New K Hf H (.im (.tuple ds)) Q) (s:Same Hf H) (t:TrL Hf ds vs) {p:Addr}(hp:H p=none):Q (.ref p) (upd H p (.tup vs)) :=
 h _ _ _ [] ((Stp.newF s hp).less λa z=>nomatch z) (Wi s) ⟨rfl,p,vs,rfl,Av,TrL.same (Bt (Same.free s hp)) t⟩
theorem New.lst (h:New K Hf H (.ls false ds) Q) (s:Same Hf H) (t:TrL Hf ds vs) {p:Addr}(hp:H p=none):Q (.ref p) (upd H p (.lst vs)) :=
 h _ _ _ _ (Stp.newL s hp) (O6 s hp) ⟨p,vs,rfl,rfl,Same.free s hp,Av,t⟩
theorem New.of (R:Rep K β W c σ) (k:∀v W' d,Stp W.S W.Hf W.H (orS W'.S d) W'.Hf W'.H->Rep K β W' c σ->Fo K W' σ (.o o) v d->Q v W'.H):New K W.Hf W.H o Q:=by
 intro v h j d b f r
 refine k v _ _ ⟨b.fz,λa o e _=>b.kp a o e λz=>z,λa o e i _ q=>b.nf a o e i (λz=>z) q,λa z=>?_⟩ (b.rep R f) ⟨r,λa g z=>?_⟩
 ·rcases z with z | z
  ·exact .inl z
  ·rcases b.fr a z with y | y
   ·trivial
   grind
 ·rcases b.fr a g with y | y
  ·omega
  ·exact R.notS y z
def cOp (op:PyData->PyData->Option O)(fa fb:Ev->R PV):Ev->R PV:=λc=>(fa c).bind λp c=>(fb c).bind λq c =>
 match Ep c (nrm p),Ep c (nrm q) with
 | some x,some y=>match op x y with
  | some o=>.ok (.o o) c
  | none=>.bad
 | _,_=>.bad
theorem Aj (ha:ME K g fa) (hb:ME K f fb) (hr:OpS K r op):ME K (tOp r g f) (cOp op fa fb):=by
 intro β W c σ Q R s
 refine ha.toV _ W c _ _ R (s.bnd.mono λp c1 l v1 W1 d i j=>?_)
 refine hb.toV _ _ _ _ _ i (l.bnd.mono λq e a v2 W2 b R2 k=>?_)
 cases ex:Ep e (nrm p) with
 | none=>simp only[ex]at a;trivial
 | some x =>
  cases ey:Ep e (nrm q) with
  | none=>simp only[ex,ey]at a;trivial
  | some y =>
   simp only[ex,ey]at a
   cases eo:op x y with
   | none=>simp only[eo]at a;trivial
   | some o =>
    simp only[eo]at a
    exact hr _ _ _ _ x y o Q R2.sub (Gp R2 (RepA.same b.fz j) ex) (Gp R2 k ey) eo (New.of R2 λv W' fp m n h=>a v _ _ (d.trans (b.trans m)) n h)
noncomputable def Ba:Ev->R (List PV):=λc=>.ok [] c
def Ae (f:Ev->R PV)(fr:Ev->R (List PV)):Ev->R (List PV):=λc=>(f c).bind λp c=>(fr c).bind λps c=>.ok (nrm p::ps) c
noncomputable def cK (ds:List PyData):Ev->R (List PV):=λc=>.ok (ds.map λd=>.o (.im d)) c
theorem Ao:MA K Dy Ba:=λb W c a Q R s=>s _ W Stp.refl R rfl
theorem Ac {d:TE} (ha:ME K d fa) (hr:MA K e f):MA K (Cd d e) (Ae fa f):=by
 intro t W c v Q R s
 refine ha.toV _ W c _ _ R (s.bnd.mono λp o i j r b h g=>?_)
 refine hr _ _ _ _ _ h (i.bnd.mono λw q m l u a n k=>?_)
 exact m _ _ (b.trans a) n ⟨j,l,rfl,RepA.same a.fz g,k⟩
noncomputable def Ab (i:Nat):Ev->R PV:=λc=>match c[i]? with
 | some (some (.ls _ _))=>.ok (.sl i) c
 | some (some o)=>.ok (.o o) c
 | _=>.bad
theorem Rep.here (R:Rep K β W c σ) (h:RepN K W.Hf o v) (n:o.own=false) {Q:VK}(s:∀v W' fp,Stp W.S W.Hf W.H (orS W'.S fp) W'.Hf W'.H->Rep K β W' c σ->Fo K W' σ (.o o) v fp->Q v W'.H):Q v W.H :=
 s
  v W [] (Stp.refl.less λa z=>by
  grind) R ⟨by
   cases o with
   | ls b e=>trivial
   | im d=>trivial
   | sc d=>trivial
   | ty d=>trivial,λa z=>nomatch z⟩
theorem Aa : ME K (Gg i) (Ab i):=by
 intro j W c h Q R s;unfold Ab at s
 cases e:c[i]? with
 | none=>simp only[e]at s;trivial
 | some x =>
  cases x with
  | none=>simp only[e]at s;trivial
  | some o =>
   obtain⟨v,f,r,_⟩:=R.get i o e
   refine⟨v,f,?_⟩
   simp only[e]at s
   cases o with
   | ls b g=>
    exact s v W _ (Stp.refl.less λa z=>by
     rcases z with z | z
     ·omega
     simp_all) R ⟨rfl,f⟩
   | im d=>exact R.here r.2 rfl s
   | sc d=>exact R.here r.2 rfl s
   | ty d=>exact R.here r.2 rfl s
noncomputable def cC (d:PyData):Ev->R PV:=λc=>.ok (.o (.im d)) c
noncomputable def vD:V->Option PyData
 | .non=>some .none
 | .bl b=>some (.bool b)
 | .int i=>some (.int i)
 | .str x=>some (.str x)
 | _=>none
theorem A7v:∀{v:V}{d:PyData},vD v=some d->Tr H d v
 | .non,_,e=>by cases e;rfl
 | .bl b,_,e=>by cases e;rfl
 | .int i,_,e=>by cases e;rfl
 | .str x,_,e=>by cases e;rfl
 | .byt _,_,e=>nomatch e
 | .flt _,_,e=>nomatch e
 | .ref _,_,e=>nomatch e
 | .ty _,_,e=>nomatch e
theorem Aw (h:vD v=some d):ME K (tC v) (cC d):=λb W c a Q R s=>R.here (o:=.im d) (A7v h) rfl s
noncomputable def frz (p:PV) (c:Ev):R PyData:=match p with
 | .o (.im d)=>.ok d c
 | .o _=>.bad
 | .sl i=>match c[i]? with
  | some (some (.im d))=>.ok d c
  | some (some (.ls false ds))=>.ok (.list ds) (c.set i (some (.im (.list ds))))
  | _=>.bad
noncomputable def clr (fps:Nat->List Addr) (i:Nat):Nat->List Addr:=λj=>if j=i then [] else fps j
theorem Ec (h:a∈clr b i j):a∈b j/\j≠i:=by
 unfold clr at h
 grind
theorem Rep.setN (R:Rep K β W c σ) (h:RepN K W.Hf o v) (n:o.own=false):Rep K β ⟨W.Hf,W.H,clr W.fps i⟩ (c.set i (some o)) (σ.set i (some v)):=by
 refine⟨R.sub,by rw[List.length_set,List.length_set];exact R.len,λj s e=>?_,λj k a m g=>R.dis j k a (Ec m).1 (Ec g).1,λj a h=>R.own j a (Ec h).1⟩
 by_cases z:j=i
 ·subst z
  by_cases l:j<c.length
  ·rw[List.getElem?_set_self l]at e
   cases e
   refine⟨v,by rw[List.getElem?_set_self (by rw[<- R.len];exact l)],?_,λb=>?_⟩
   ·show RepO K W.Hf W.H o v (clr _ j j)
    unfold clr;rw[if_pos rfl]
    cases o with
    | ls b f=>exact nomatch n
    | im d=>exact⟨rfl,h⟩
    | sc d=>trivial
    | ty d=>exact⟨rfl,h⟩
   ·cases o with
    | ls b f=>exact nomatch n
    | im d=>exact nomatch b
    | sc d=>exact nomatch b
    | ty d=>exact nomatch b
  grind
 ·rw[List.getElem?_set_ne λy=>z y.symm]at e
  obtain⟨p,q,r,b⟩:=R.get j _ e
  refine⟨p,by grind,?_,b⟩
  unfold clr
  simp_all
theorem Rep.setO (R:Rep K β W c σ) (h:RepO K W.Hf W.H o v fp) (hn:∀a∈fp,¬ W.S a) (hb:o.bor=false):Rep K β ⟨W.Hf,W.H,λj=>if j=i then fp else W.fps j⟩ (c.set i (some o)) (σ.set i (some v)):=by
 refine⟨R.sub,by rw[List.length_set,List.length_set];exact R.len,λj o' e=>?_,λj k a f g=>?_,λj a f=>?_⟩
 ·by_cases z:j=i
  ·subst z
   by_cases l:j<c.length
   ·rw[List.getElem?_set_self l]at e
    cases e
    refine⟨v,by rw[List.getElem?_set_self (by rw[<- R.len];exact l)],?_,λb=>by rw[hb]at b;cases b⟩
    simp_all
   simp_all
  ·rw[List.getElem?_set_ne λy=>z y.symm]at e
   obtain⟨v',e1,r,b⟩:=R.get j _ e
   grind
 ·have f:a∈if j=i then fp else W.fps j:=f
  have g:a∈if k=i then fp else W.fps k:=g
  split at f
  ·split at g
   ·omega
   ·exact absurd ⟨k,g⟩ (hn a f)
  ·split at g
   ·exact absurd ⟨j,f⟩ (hn a g)
   ·exact R.dis j k a f g
 ·have f:a∈if j=i then fp else W.fps j:=f
  split at f
  ·cases o with
   | ls b ds =>
    obtain⟨a',vs,_,rfl,n,m,_⟩:=h
    cases List.mem_singleton.mp f
    exact⟨n,_,m,trivial⟩
   | im d=>rw[h.1]at f;cases f
   | sc d=>rw[h.1]at f;cases f
   | ty d=>rw[h.1]at f;cases f
  ·exact R.own j a f
theorem set_same {a:Type}{l:List a} {x:a}(h:l[i]?=some x):l.set i x=l:=by
 apply List.ext_getElem?
 grind
theorem Rep.drop (R:Rep K β W c σ)(i:Nat):Rep K β ⟨W.Hf,W.H,clr W.fps i⟩ (c.set i none) σ:=by
 refine⟨R.sub,by rw[List.length_set];exact R.len,λj m e=>?_,λj k a g f=>R.dis j k a (Ec g).1 (Ec f).1,λj a h=>R.own j a (Ec h).1⟩
 by_cases z:j=i
 ·grind
 ·rw[List.getElem?_set_ne λy=>z y.symm]at e
  obtain⟨l,d,r,b⟩:=R.get j _ e
  refine⟨l,d,?_,b⟩
  unfold clr
  simp_all
theorem Il (R:Rep K β W c σ)(h:RepA K W.Hf σ p v) (s:(frz p c).sat k) :
 ∃d c' W',frz p c=.ok d c'/\k d c'/\W'.H=W.H/\Stp W.S W.Hf W.H W'.S W'.Hf W'.H/\Rep K β W' c' σ/\Tr W'.Hf d v:=by
 cases p with
 | o o =>
  cases o with
  | im d=>exact⟨d,c,W,rfl,s,rfl,Stp.refl,R,h⟩
  | ls b w=>exact s.elim
  | sc d=>exact s.elim
  | ty d=>exact s.elim
 | sl i =>
  unfold frz at s ⊢
  cases e:c[i]? with
  | none=>simp only[e]at s;exact s.elim
  | some x =>
   cases x with
   | none=>simp only[e]at s;exact s.elim
   | some o =>
    obtain⟨v',u,r,_⟩:=R.get i o e
    cases (show some _=some _ from u.symm.trans h)
    cases o with
    | im d=>simp only[e]at s;exact⟨d,c,W,by simp only[e],s,rfl,Stp.refl,R,r.2⟩
    | sc d=>simp only[e]at s;exact s.elim
    | ty d=>simp only[e]at s;exact s.elim
    | ls b w =>
     cases b with
     | true=>simp only[e]at s;exact s.elim
     | false =>
      simp only[e]at s;obtain⟨a,m,rfl,l,f,A,t⟩:=r
      refine⟨.list _,c.set i _,⟨upd _ a _,W.H,clr W.fps i⟩,by simp only[e],s,rfl,⟨Bt f,λb o e _=>e,λb o e mu n q=>?_,λb z=>?_⟩,?_,⟨a,m,rfl,Av,TrL.same (Bt f) t⟩⟩
      ·have C:b≠a:=λz=>n ⟨i,by rw[z,l];exact .head _⟩
       show upd _ a _ b=none
       rw[Ah C];exact q
      ·obtain⟨j,g⟩:=z
       exact .inl ⟨j,(Ec g).1⟩
      ·have B:¬ Wo.S ⟨W.Hf,W.H,clr W.fps i⟩ a:=λ⟨j,g⟩=>by
        obtain⟨E,D⟩:=Ec g
        exact D (R.dis j i a E (by rw[l];exact .head _))
       have y:=(X6 (R.drop i) f A B).setN (i:=i) (o:=.im (.list _)) ⟨a,m,rfl,Av,TrL.same (Bt f) t⟩ rfl;rw[set_same h]at y
       have z:clr (clr W.fps i) i=clr W.fps i:=by funext j;unfold clr;split <;> rfl
       simp_all
def vDs:List V->Option (List PyData)
 | []=>some []
 | v::vs=>(vD v).bind λd=>(vDs vs).map (d::·)
theorem Al3:∀{vs:List V}{ds:List PyData},vDs vs=some ds->zR K Hf σ (ds.map λd=>.o (.im d)) vs
 | [],_,e=>by cases (show some []=some _ from e);exact rfl
 | v::vs,ds,e=>by
  obtain⟨d,e1,e2⟩:=Option.bind_eq_some_iff.mp (show ((vD v).bind λd=>(vDs vs).map (d::·))=some ds from e)
  obtain⟨ds',e3,rfl⟩:=Option.map_eq_some_iff.mp e2;exact⟨v,vs,rfl,A7v e1,Al3 e3⟩
theorem A8l (h:vDs vs=some ds):MA K (tK vs) (cK ds):=λb W c a Q R s=>s _ W Stp.refl R (Al3 h)
def frzs:List PV->Ev->R (List PyData)
 | [],c=>.ok [] c
 | p::ps,c=>(frz p c).bind λd c=>(frzs ps c).bind λds c=>.ok (d::ds) c
theorem Wg:∀{ps:List PV}{vs:List V}{W:Wo}{c:Ev}{φ:List PyData->Ev->Prop},Rep K β W c σ->zR K W.Hf σ ps vs->(frzs ps c).sat φ ->
 ∃ds c' W',φ ds c'/\W'.H=W.H/\Stp W.S W.Hf W.H W'.S W'.Hf W'.H/\Rep K β W' c' σ/\TrL W'.Hf ds vs
 | [],vs,W,c,φ,R,h,s=>⟨[],c,W,s,rfl,Stp.refl,R,h⟩
 | p::ps,_,W,c,φ,R,⟨v,r,rfl,h,t⟩,s=>by
  obtain⟨d,c1,W1,_,s1,e1,st1,R1,t1⟩:=Il R h s.bnd;obtain⟨ds,c2,W2,s2,e2,st2,R2,t2⟩:=Wg R1 (zR.same st1.fz t) s1.bnd;exact⟨d::ds,c2,W2,s2,e2.trans e1,st1.trans st2,R2,v,r,rfl,Tr.same st2.fz t1,t2⟩
def Zc (f:Ev->R (List PV)):Ev->R PV:=λc=>(f c).bind λps c=>(frzs ps c).bind λds c=>if ds.length<=1000 then .ok (.o (.im (.tuple ds))) c else .bad
def Im (f:Ev->R (List PV)):Ev->R PV:=λc=>(f c).bind λps c=>(frzs ps c).bind λds c=>if ds.length<=1000 then .ok (.o (.ls false ds)) c else .bad
theorem Ah8 (h:n<=1000):n<=sizeLine:=Nat.le_trans h (by decide)
theorem Ry (h:MA K t f):ME K (Bf7 t) (Zc f):=by
 intro w W c z Q R s
 refine h _ W c _ _ R (s.bnd.mono λx y k A F b o m=>?_)
 obtain⟨r,B,E,a,j,d,e,i⟩:=Wg o m k.bnd
 by_cases l:r.length<=1000
 ·rw[if_pos l]at a
  refine⟨by rw[<- i.length];exact Ah8 l,λp g=>?_⟩
  rw[<- j]at g ⊢
  exact New.tup (New.of e λv C D q u n=>a v _ _ (b.trans (d.trans q)) u n) e.sub i g
 ·rw[if_neg l]at a;trivial
theorem G5 (h:MA K t f):ME K (Zf t) (Im f):=by
 intro w W c z Q R s
 refine h _ W c _ _ R (s.bnd.mono λx y k A F b o m=>?_)
 obtain⟨r,B,E,a,j,d,e,i⟩:=Wg o m k.bnd
 by_cases l:r.length<=1000
 ·rw[if_pos l]at a
  refine⟨by rw[<- i.length];exact Ah8 l,λp g=>?_⟩
  rw[<- j]at g ⊢
  exact New.lst (New.of e λv C D q u n=>a v _ _ (b.trans (d.trans q)) u n) e.sub i g
 ·rw[if_neg l]at a;trivial
end
noncomputable def Gr (cI:Ev):List (Nat×Nat)->Ev->Option Ev
 | [],c=>some c
 | (k,i)::m,c=>match c[i]? with
  | some (some (.ls b _))=>match cI[k]? with
   | some (some (.ls true ds))=>Gr cI m (c.set i (some (.ls b ds)))
   | _=>none
  | _=>Gr cI m c
noncomputable def inn (m:List (Nat×Nat)) (i:Nat):Option Nat:=(m.find? λp=>p.2==i).map (·.1)
noncomputable def Ag2 (m:List (Nat×Nat)) (k:Nat):Option Nat:=(m.find? λp=>p.1==k).map (·.2)
theorem Ie : inn ((k,j)::m) i=if j=i then some k else inn m i:=by
 unfold inn
 grind
theorem Rj (h:inn m i=some k):(k,i)∈m:=by
 induction m with
 | nil=>cases h
 | cons p m a =>
  rw[Ie]at h
  grind
theorem Ri (b:(m.map (·.2)).Nodup) (h:(k,i)∈m):inn m i=some k:=by
 induction m with
 | nil=>grind
 | cons p m a =>
  rw[Ie]
  grind
theorem Am8 {m:List (Nat×Nat)} (b:(m.map (·.1)).Nodup) (h:(k,i)∈m) (h':(k,j)∈m):i=j:=by
 induction m with
 | nil=>grind
 | cons p m a =>
  grind
theorem Qi {cI:Ev}:∀{m:List (Nat×Nat)}{c cO:Ev},(m.map (·.2)).Nodup->Gr cI m c=some cO->cO.length=c.length/\∀i,
 (∃b ds0 k ds,c[i]?=some (some (.ls b ds0))/\inn m i=some k/\cI[k]?=some (some (.ls true ds))/\cO[i]?=some (some (.ls b ds))) \/
 (cO[i]?=c[i]?/\∀b ds,c[i]?=some (some (.ls b ds))->inn m i=none)
 | [],c,cO,nd,e=>by cases (show some c=some cO from e);exact⟨rfl,λi=>.inr ⟨rfl,λ_ _ _=>rfl⟩⟩
 | (k,j)::m,c,cO,nd,e=>by
  rw[List.map_cons,List.nodup_cons]at nd
  have nj:inn m j=none:=by
   cases q:inn m j with
   | none=>rfl
   | some k'=>exact absurd (List.mem_map.mpr ⟨(k',j),Rj q,rfl⟩) nd.1
  unfold Gr at e
  have other:Gr cI m c=some cO->(∀b ds,c[j]?≠some (some (.ls b ds)))->cO.length=c.length/\∀i,
   (∃b ds0 k' ds,c[i]?=some (some (.ls b ds0))/\inn ((k,j)::m) i=some k'/\cI[k']?=some (some (.ls true ds))/\cO[i]?=some (some (.ls b ds))) \/
   (cO[i]?=c[i]?/\∀b ds,c[i]?=some (some (.ls b ds))->inn ((k,j)::m) i=none):=λe hn=>by
   obtain⟨hl,hg⟩:=Qi nd.2 e
   refine⟨hl,λi=>?_⟩
   rcases hg i with ⟨b,ds0,k',ds,q1,q2,q3,q4⟩ | ⟨q1,q2⟩
   ·refine .inl ⟨b,ds0,k',ds,q1,?_,q3,q4⟩
    rw[Ie,if_neg (λz=>hn b ds0 (by rw[z];exact q1))];exact q2
   ·refine .inr ⟨q1,λb ds q=>?_⟩
    rw[Ie,if_neg (λz=>hn b ds (by rw[z];exact q))];exact q2 b ds q
  cases ec:c[j]? with
  | none=>simp only[ec]at e;exact other e λb ds z=>by rw[ec]at z;cases z
  | some x =>
   cases x with
   | none=>simp only[ec]at e;exact other e λb ds z=>by rw[ec]at z;cases z
   | some o =>
    cases o with
    | im d=>simp only[ec]at e;exact other e λb ds z=>by rw[ec]at z;cases z
    | sc d=>simp only[ec]at e;exact other e λb ds z=>by rw[ec]at z;cases z
    | ty d=>simp only[ec]at e;exact other e λb ds z=>by rw[ec]at z;cases z
    | ls b0 ds0 =>
     simp only[ec]at e
     cases ei:cI[k]? with
     | none=>simp only[ei]at e;cases e
     | some x =>
      cases x with
      | none=>simp only[ei]at e;cases e
      | some o =>
       cases o with
       | im d=>simp only[ei]at e;cases e
       | sc d=>simp only[ei]at e;cases e
       | ty d=>simp only[ei]at e;cases e
       | ls b1 ds1 =>
        cases b1 with
        | false=>simp only[ei]at e;cases e
        | true =>
         simp only[ei]at e
         have lj:j<c.length:=by
          rcases Nat.lt_or_ge j c.length with q | q
          ·exact q
          ·rw[List.getElem?_eq_none q]at ec;cases ec
         obtain⟨hl,hg⟩:=Qi nd.2 e;rw[List.length_set]at hl
         refine⟨hl,λi=>?_⟩
         by_cases z:j=i
         ·subst z
          rcases hg j with ⟨b,ds0',k',ds,q1,q2,q3,q4⟩ | ⟨q1,q2⟩
          ·rw[nj]at q2;cases q2
          ·rw[List.getElem?_set_self lj]at q1
           exact .inl ⟨b0,ds0,k,ds1,ec,by rw[Ie,if_pos rfl],ei,q1⟩
         ·have gs:(c.set j (some (.ls b0 ds1)))[i]?=c[i]?:=List.getElem?_set_ne z
          rcases hg i with ⟨b,ds0',k',ds,q1,q2,q3,q4⟩ | ⟨q1,q2⟩
          ·rw[gs]at q1
           exact .inl ⟨b,ds0',k',ds,q1,by rw[Ie,if_neg z];exact q2,q3,q4⟩
          ·rw[gs]at q1 q2
           exact .inr ⟨q1,λb ds q=>by rw[Ie,if_neg z];exact q2 b ds q⟩
noncomputable def Hd:Option (Option O)->Bool
 | some (some (.ls _ _))=>true
 | _=>false
def Rb (m:List (Nat×Nat))(c:Ev)(fps:Nat->List Addr):Nat->List Addr:=λk=>match Ag2 m k with
 | some i=>if Hd c[i]? then fps i else []
 | none=>[]
theorem T7 (h:Ag2 m k=some i):(k,i)∈m:=by
 obtain⟨p,b,a⟩:=Option.map_eq_some_iff.mp h
 grind
theorem Gn (h:a∈Rb m c b k):∃i,(k,i)∈m/\Hd c[i]?=true/\a∈b i:=by
 unfold Rb at h
 cases e:Ag2 m k with
 | none=>grind
 | some i =>
  rw[e]at h
  have h:a∈if Hd _ then b i else []:=h
  by_cases q:Hd c[i]?=true
  ·rw[if_pos q]at h;exact⟨i,T7 e,q,h⟩
  grind
theorem A6x (a:(m.map (·.1)).Nodup) (h:(k,i)∈m):Ag2 m k=some i:=by
 cases e:Ag2 m k with
 | none =>
  unfold Ag2 at e;rw[Option.map_eq_none_iff]at e
  grind
 | some j=>rw[Am8 a h (T7 e)]
def Ab6 (m:List (Nat×Nat))(c:Ev)(fps fpsJ:Nat->List Addr):Nat->List Addr:=λi=>if Hd c[i]? then (match inn m i with
 | some k=>fpsJ k
 | none=>fps i) else fps i
section
variable {K:PySem.W.Frag}{β β':Nat->V}{W W':Wo}{c cI cI' cO:Ev}{σ σI σI':St}{m:List (Nat×Nat)}{fp:List Addr}
structure Lent (K:PySem.W.Frag) (Hf:Hp) (m:List (Nat×Nat)) (c:Ev) (σ:St) (β':Nat->V) (cI:Ev) (σI:St):Prop where
 n1:(m.map (·.1)).Nodup
 n2:(m.map (·.2)).Nodup
 len:cI.length=σI.length
 at_:∀k o,cI[k]?=some (some o)->(o.own=false/\(∀i,(k,i)∈m->Hd c[i]?=false)/\(∃v,σI[k]?=some (some v)/\RepN K Hf o v))\/∃i b ds v,(k,i)∈m/\c[i]?=some (some (.ls b ds))/\o=.ls true ds/\σ[i]?=some (some v)/\σI[k]?=some (some v)/\β' k=v
theorem Lent.rep (L:Lent K W.Hf m c σ β' cI σI)(R:Rep K β W c σ):Rep K β' ⟨W.Hf,W.H,Rb m c W.fps⟩ cI σI:=by
 refine⟨R.sub,L.len,λk o e=>?_,λk l a B C=>?_,λk a h=>?_⟩
 ·rcases L.at_ k o e with ⟨n,s,v,p,r⟩ | ⟨i,b,x,v,E,w,rfl,J,p,A⟩
  ·refine⟨v,p,?_,λq=>?_⟩
   ·have g:∀t ,t=[]->RepO K _ W.H o v t:=λt z=>by
     cases o with
     | ls b x=>exact nomatch n
     | im d=>exact⟨z,r⟩
     | sc d=>exact⟨z,r⟩
     | ty d=>exact⟨z,r⟩
    refine g _ ?_
    show Rb m c _ k=[]
    unfold Rb
    cases q:Ag2 m k with
    | none=>rfl
    | some i =>
     show (if Hd _ then W.fps i else [])=[]
     rw[s i (T7 q)]
     rfl
   ·cases o with
    | ls b x=>exact nomatch n
    | im d=>exact nomatch q
    | sc d=>exact nomatch q
    | ty d=>exact nomatch q
  ·obtain⟨v',f,r,_⟩:=R.get i _ w
   cases (show some _=some _ from f.symm.trans J)
   refine⟨v,p,?_,λ_=>A.symm⟩
   obtain⟨a,F,G,D,I⟩:=r
   refine⟨a,F,G,?_,I⟩
   show Rb m c _ k=[a]
   unfold Rb;rw[A6x L.n1 E]
   show (if Hd _ then W.fps i else [])=[a]
   rw[w];exact D
 ·obtain⟨i,H,_,u⟩:=Gn B
  obtain⟨j,M,_,y⟩:=Gn C
  cases R.dis i j a u y
  have f:=Ri L.n2 M;rw[(Ri L.n2 H)]at f;exact Option.some.inj f
 ·obtain⟨i,_,_,u⟩:=Gn h
  exact R.own i a u
theorem A5l (h:Hd x=true):∃b ds,x=some (some (.ls b ds)):=by
 match x,h with
 | some (some (.ls b _)),_=>grind
theorem Lent.back (L:Lent K W.Hf m c σ β' cI σI)(R:Rep K β W c σ)(I:Rep K β' W' cI' σI')(st:Stp (Wo.S ⟨W.Hf,W.H,Rb m c W.fps⟩) W.Hf W.H (orS W'.S fp) W'.Hf W'.H)(hb:Gr cI' m c=some cO)
 (H:∀k i b J v,(k,i)∈m->c[i]?=some (some (.ls b J))->σ[i]?=some (some v)->β' k=v) (Q:∀a∈fp,¬ W'.S a) :
 ∃W2:Wo,W2.Hf=W'.Hf/\W2.H=W'.H/\Rep K β W2 cO σ/\Stp W.S W.Hf W.H (orS W2.S fp) W'.Hf W'.H/\∀a∈fp,¬ W2.S a:=by
 obtain⟨hl,hg⟩:=Qi L.n2 hb
 have t:∀k a,a∈W'.fps k->(∃i,(∃l,(l,i)∈m)/\Hd c[i]?=true/\a∈W.fps i)\/W.H a=none:=λk a h=>by
  rcases st.fr a (.inl ⟨k,h⟩) with ⟨l,q⟩ | q
  ·obtain⟨i,s,x,g⟩:=Gn q
   exact .inl ⟨i,⟨l,s⟩,x,g⟩
  ·exact .inr q
 have d:∀i a,a∈W.fps i->(Hd c[i]?=true->inn m i=none)->¬ Wo.S ⟨W.Hf,W.H,Rb m c W.fps⟩ a:=λi a h n ⟨k,q⟩=>by
  obtain⟨j,s,x,g⟩:=Gn q
  cases (R.dis i j a h g)
  have:=n x;rw[Ri L.n2 s]at this;cases this
 have D:∀i a,a∈Ab6 m c W.fps W'.fps i->(∃k,inn m i=some k/\Hd c[i]?=true/\a∈W'.fps k)\/(a∈W.fps i/\(Hd c[i]?=true->inn m i=none)):=λi a h=>by
  have h:a∈if Hd c[i]? then (match inn m i with | some k=>W'.fps k | none=>W.fps i) else W.fps i:=h
  by_cases q:Hd c[i]?=true
  ·rw[if_pos q]at h
   cases e:inn m i with
   | none=>rw[e]at h;exact .inr ⟨h,λ_=>rfl⟩
   | some k=>rw[e]at h;exact .inl ⟨k,rfl,q,h⟩
  ·rw[if_neg q]at h;exact .inr ⟨h,λz=>absurd z q⟩
 have p:∀i k a,a∈W.fps i->(Hd c[i]?=true->inn m i=none)->a∈W'.fps k->False:=λi k a h n V=>by
  rcases t k a V with ⟨j,⟨l,s⟩,x,g⟩ | q
  ·cases (R.dis i j a h g)
   have:=n x;rw[Ri L.n2 s]at this;cases this
  ·obtain⟨_,o,e,_⟩:=R.own i a h
   rw[q]at e;cases e
 refine⟨⟨W'.Hf,W'.H,Ab6 m c W.fps W'.fps⟩,rfl,rfl,⟨I.sub,hl.trans R.len,λi o e=>?_,λi j a Z T=>?_,λi a h=>?_⟩,⟨st.fz,λa o e n=>st.kp a o e λ⟨k,q⟩=>?_,λa o e F n q=>st.nf a o e F (λzz=>?_) q,λa h=>?_⟩,λa C ⟨i,h⟩=>?_⟩
 ·rcases hg i with ⟨b,N,k,J,s,x,g,U⟩ | ⟨s,x⟩
  ·rw[U]at e;cases e
   obtain⟨v,M,r,P⟩:=R.get i _ s;obtain⟨X,e1',r',O⟩:=I.get k _ g;have S:=O rfl;rw[H k i b N v (Rj x) s M]at S;subst S
   refine⟨X,M,?_,P⟩
   obtain⟨a,Y,A,E,G⟩:=r'
   refine⟨a,Y,A,?_,G⟩
   show Ab6 m c W.fps W'.fps i=[a]
   unfold Ab6;rw[s,x];exact E
  ·rw[s]at e
   obtain⟨v,M,r,P⟩:=R.get i _ e
   refine⟨v,M,?_,P⟩
   have n:Hd c[i]?=true->inn m i=none:=λz=>by
    obtain⟨b,J,z⟩:=A5l z;exact x b J z
   have ef:Ab6 m c W.fps W'.fps i=W.fps i:=by
    unfold Ab6
    by_cases q:Hd c[i]?=true
    ·rw[if_pos q,n q]
    ·rw[if_neg q]
   show RepO K W'.Hf W'.H o v (Ab6 m c W.fps W'.fps i)
   rw[ef]
   refine r.mono st.fz λa C=>?_
   obtain⟨z,u,y,F⟩:=R.own i a C;exact⟨st.nf a u y F (d i a C n) z,(st.kp a u y (d i a C n)).trans y.symm⟩
 ·rcases D i a Z with ⟨k,f,w,B⟩ | ⟨f,w⟩
  ·rcases D j a T with ⟨l,A,E,G⟩ | ⟨A,E⟩
   ·cases I.dis k l a B G
    exact Am8 L.n1 (Rj f) (Rj A)
   ·exact(p j k a A E B).elim
  ·rcases D j a T with ⟨l,A,E,G⟩ | ⟨A,E⟩
   ·exact(p i l a f w G).elim
   ·exact R.dis i j a f A
 ·rcases D i a h with ⟨k,f,w,B⟩ | ⟨f,w⟩
  ·exact I.own k a B
  ·obtain⟨z,u,y,F⟩:=R.own i a f
   exact⟨st.nf a u y F (d i a f w) z,u,st.kp a u y (d i a f w),F⟩
 ·obtain⟨i,_,_,g⟩:=Gn q
  exact n ⟨i,g⟩
 ·obtain⟨k,q'⟩:=zz
  obtain⟨i,_,_,g⟩:=Gn q';exact n ⟨i,g⟩
 ·rcases h with ⟨i,h⟩ | h
  ·rcases D i a h with ⟨k,f,w,B⟩ | ⟨f,w⟩
   ·rcases t k a B with ⟨j,_,_,q⟩ | q
    ·exact .inl ⟨j,q⟩
    ·exact .inr q
   ·exact .inl ⟨i,f⟩
  ·rcases st.fr a (.inr h) with ⟨k,q⟩ | q
   ·obtain⟨i,_,_,g⟩:=Gn q
    exact .inl ⟨i,g⟩
   ·exact .inr q
 ·rcases D i a h with ⟨k,f,w,B⟩ | ⟨f,w⟩
  ·exact Q a C ⟨k,B⟩
  ·rcases st.fr a (.inr C) with q | q
   ·exact d i a f w q
   ·obtain⟨_,u,y,_⟩:=R.own i a f
    rw[q]at y;cases y
end
inductive SR where
 | nx (c:Ev)
 | rt (p:PV) (c:Ev)
 | bk (c:Ev)
 | ct (c:Ev)
 | bad
def zM (K:PySem.W.Frag)(β:Nat->V)(W:Wo)(D:Ends):SR->Prop
 | .nx c'=>∀σ' W',Stp W.S W.Hf W.H W'.S W'.Hf W'.H->Rep K β W' c' σ'->D.nx σ' W'.H
 | .bk c'=>∀σ' W',Stp W.S W.Hf W.H W'.S W'.Hf W'.H->Rep K β W' c' σ'->D.bk σ' W'.H
 | .ct c'=>∀σ' W',Stp W.S W.Hf W.H W'.S W'.Hf W'.H->Rep K β W' c' σ'->D.ct σ' W'.H
 | .rt p c'=>∀σ' v W' fp,Stp W.S W.Hf W.H (orS W'.S fp) W'.Hf W'.H->Rep K β W' c' σ'->Fo K W' σ' p v fp->D.rt v W'.H
 | .bad=>False
def MS (K:PySem.W.Frag)(T:TS)(f:Ev->SR):Prop:=∀(β:Nat->V) (W:Wo) (c:Ev) (σ:St) (D:Ends),Rep K β W c σ->zM K β W D (f c)->T D σ W.H
def MG (K:PySem.W.Frag)(g:TG)(cg:PV->Ev->R Unit):Prop:=∀(β:Nat->V) (W:Wo) (c:Ev) (σ:St) (p:PV) (v:V) (fp:List Addr) (k:St->Hp->Prop),Rep K β W c σ->Fo K W σ p v fp ->
 (cg p c).sat (λ_ c'=>∀σ' W',Stp (orS W.S fp) W.Hf W.H W'.S W'.Hf W'.H->Rep K β W' c' σ'->k σ' W'.H)->g v σ W.H k
def MGs (K:PySem.W.Frag)(g:TGs)(cg:List PyData->Ev->R Unit):Prop:=∀(β:Nat->V) (W:Wo) (c:Ev) (σ:St) (ds:List PyData) (vs:List V) (k:St->Hp->Prop),Rep K β W c σ->TrL W.Hf ds vs ->
 (cg ds c).sat (λ_ c'=>∀σ' W',Stp W.S W.Hf W.H W'.S W'.Hf W'.H->Rep K β W' c' σ'->k σ' W'.H)->g vs σ W.H k
noncomputable def R.toS {α:Type} (r:R α) (k:α->Ev->SR):SR:=match r with
 | .ok a c=>k a c
 | .bad=>.bad
section
variable {K:PySem.W.Frag}{β:Nat->V}{W W':Wo}{c c' cI cO:Ev}{σ σ':St}{D:Ends}{Hf H:Hp}{o:O}{v:V}{fp:List Addr}
theorem Ik {r:R b}{k:b->Ev->SR}(h:zM K β W D (r.toS k)):r.sat λa c=>zM K β W D (k a c):=by
 cases r with
 | ok a c=>exact h
 | bad=>exact h
theorem zM.step (h:zM K β W D r) (st:Stp W.S W.Hf W.H W'.S W'.Hf W'.H):zM K β W' D r:=by
 cases r with
 | nx c=>exact λb d a R=>h _ _ (st.trans a) R
 | bk c=>exact λb d a R=>h _ _ (st.trans a) R
 | ct c=>exact λb d a R=>h _ _ (st.trans a) R
 | rt p c=>exact λb v d e a R r=>h _ v _ _ (st.trans a) R r
 | bad=>exact h
noncomputable def Ci (f g:Ev->SR):Ev->SR:=λc=>match f c with
 | .nx c=>g c
 | r=>r
theorem Ay (h1:MS K t f) (h2:MS K u g):MS K (Us t u) (Ci f g):=by
 intro k W c i D R l
 refine h1 _ W c _ _ R ?_
 unfold Ci at l
 cases e:f c with
 | nx a=>rw[e]at l;exact λh j d b=>h2 _ _ _ _ D b (zM.step l d)
 | rt p a=>rw[e]at l;exact l
 | bk a=>rw[e]at l;exact l
 | ct a=>rw[e]at l;exact l
 | bad=>rw[e]at l;exact l
noncomputable def Dm:Ev->SR:=λc=>.nx c
theorem Cg:MS K An3 Dm:=λb W c a D R l=>l _ W Stp.refl R
noncomputable def Ac8:Ev->SR:=λ_=>.bad
theorem Az1:MS K Ae8 Ac8:=λb W c a D R l=>l.elim
def Vc (f:Ev->R PV):Ev->SR:=λc=>(f c).toS λ_ c=>.nx c
theorem Aj3 (h:ME K a f):MS K (Ld a) (Vc f):=λg W c i D R l =>
 h.toV _ W c _ _ R ((Ik l).mono λp k e v j d b _=>e _ _ d b)
def Df (f:Ev->R PV):Ev->SR:=λc=>(f c).toS λp c=>.rt p c
theorem Bf (h:ME K a f):MS K (Bd7 a) (Df f):=λi W c n D R l =>
 h _ W c _ _ R ((Ik l).mono λp m e v j k d g b=>e _ v _ _ d g b)
def cIf (t:Ev->R Bool)(f g:Ev->SR):Ev->SR:=λc=>(t c).toS λb c=>if b=true then f c else g c
theorem Eb (h:MT K d ft) (h1:MS K t f) (h2:MS K u g):MS K (Ae7 d t u) (cIf ft f g):=λk W c j D R l =>
 h
  _ W c _ _ R ((Ik l).mono λb n i m e a=>by
  cases b with
  | true=>exact h1 _ _ _ _ D a (zM.step i e)
  | false=>exact h2 _ _ _ _ D a (zM.step i e))
def cgN (i:Nat):PV->Ev->R Unit:=λp c=>match p with
 | .o (.ls _ ds)=>.ok () (c.set i (some (.ls false ds)))
 | .o o=>.ok () (c.set i (some o))
 | .sl j=>(frz (.sl j) c).bind λd c=>.ok () (c.set i (some (.im d)))
theorem Bm2 (h:Wo.S ⟨Hf,H,clr W.fps i⟩ a):W.S a:=by
 obtain⟨j,h⟩:=h;exact⟨j,(Ec h).1⟩
theorem Aq : MG K (Ey i) (cgN i):=by
 intro w W c x p v u k R r s
 have f:∀{o:O} {g:Wo} {m:Ev},Rep K w g m x->o.own=false->RepN K g.Hf o v->Stp (orS W.S u) W.Hf W.H g.S _ g.H->g.H=W.H->(∀σ' W',Stp _ _ _ W'.S W'.Hf W'.H->Rep K _ W' _ σ'->k σ' W'.H)->k _ W.H:=λ{o g m} h n r l e s=>by
  rw[<- e]
  exact s _ ⟨g.Hf,g.H,clr _ i⟩ (l.less λa z=>Bm2 z) (h.setN r n)
 cases p with
 | sl j =>
  obtain⟨rfl,e⟩:=r
  obtain⟨d,m,g,e1,A,y,l,h,t⟩:=Il R (show RepA K _ _ (.sl j) v from e) s.bnd
  exact f h (o:=.im d) rfl t (l.up λa z=>.inl z) y A
 | o o =>
  cases o with
  | im d=>exact f R rfl r.1.2 (Stp.refl.up λa z=>.inl z) rfl s
  | sc d=>exact f R rfl r.1.2 (Stp.refl.up λa z=>.inl z) rfl s
  | ty d=>exact f R rfl r.1.2 (Stp.refl.up λa z=>.inl z) rfl s
  | ls b ds =>
   refine s _ ⟨W.Hf,W.H,λj=>if j=i then u else W.fps j⟩ ⟨Same.refl _,λa o e _=>e,λa o e _ _ q=>q,λa z=>?_⟩ (R.setO r.1 r.2 rfl)
   obtain⟨j,z⟩:=z
   have z:a∈if j=i then u else W.fps j:=z
   split at z
   ·grind
   ·exact .inl (.inl ⟨j,z⟩)
noncomputable def Oo:List PyData->Ev->R Unit:=λds c=>match ds with
 | []=>.ok () c
 | _=>.bad
def Ft (g:PV->Ev->R Unit)(gs:List PyData->Ev->R Unit):List PyData->Ev->R Unit:=λds c=>match ds with
 | d::ds=>(g (.o (.im d)) c).bind λ_ c=>gs ds c
 | []=>.bad
theorem Aj8:MGs K Af2 Oo:=λf W c e a b k R t s=>by
 cases a with
 | nil=>cases (t);exact⟨rfl,s _ W Stp.refl R⟩
 | cons d r=>trivial
theorem Ov (h1:MG K t g) (h2:MGs K u f):MGs K (Mi t u) (Ft g f):=λβ W c σ x vs k R j s=>by
 cases x with
 | nil=>trivial
 | cons d r =>
  obtain⟨v,l,rfl,m,n⟩:=j
  refine⟨v,l,rfl,h1 _ W c _ (.o (.im d)) v _ _ R ⟨⟨rfl,m⟩,λa z=>nomatch z⟩ (s.bnd.mono λ_ c1 o i W1 b q=>?_)⟩
  have b:=b.up (S2:=W.S) λa z=>by
   grind
  exact h2 _ _ _ _ r _ k q (TrL.same b.fz n) (o.mono λ_ c2 p w W2 e h=>p _ _ (b.trans e) h)
noncomputable def cgT (n:Nat) (gs:List PyData->Ev->R Unit):PV->Ev->R Unit:=λp c=>match p with
 | .o (.im (.tuple ds))=>if ds.length=n then gs ds c else .bad
 | _=>.bad
theorem Ax6 (h:MGs K t d):MG K (Ab3 K n t) (cgT n d):=by
 intro u W c w p v q k R r s
 match p,r,s with
 | .o (.im (.tuple ds)),r,s =>
  obtain⟨⟨b,a,j,b,l,f⟩,_⟩:=r
  have s:(if ds.length=n then d _ c else .bad:U.R _).sat _:=s
  by_cases e:ds.length=n
  ·rw[if_pos e]at s
   refine⟨a,j,b,SqT.of (R.sub _ _ l),by rw[<- f.length];exact e,h _ W c _ _ _ k R f (s.mono λ_ y i m x o g=>i _ _ (o.up λa z=>.inl z) g)⟩
  ·rw[if_neg e]at s;trivial
 | .o (.im .none),r,s=>trivial
 | .o (.im (.bool _)),r,s=>trivial
 | .o (.im (.int _)),r,s=>trivial
 | .o (.im (.str _)),r,s=>trivial
 | .o (.im (.list _)),r,s=>trivial
 | .o (.im (.dict _)),r,s=>trivial
 | .o (.ls _ _),r,s=>exact s.elim
 | .o (.sc _),r,s=>exact s.elim
 | .o (.ty _),r,s=>exact s.elim
 | .sl _,r,s=>trivial
def Fi (f:Ev->R PV)(g:PV->Ev->R Unit):Ev->SR:=λc=>(f c).toS λp c=>(g p c).toS λ_ c=>.nx c
theorem Cq (h:ME K b f) (hg:MG K t g):MS K (Uy b t) (Fi f g):=λx W c o D R l =>
 h _ W c _ _ R ((Ik l).mono λp q j v s u k e i=>hg _ _ _ _ p v _ _ e i ((Ik j).mono λ_ r m n w a d=>m _ _ (k.trans a) d))
def Ah2 (J:It)(Hf:Hp)(ds:List PyData):Prop:=∀(i:Nat) (Hf' H:Hp),Same Hf Hf'->Same Hf' H->(i=ds.length->J.stop i H) /\
 ∀d,ds[i]?=some d->J.go i H/\∀x H',J.yld i H x H'->∃Hf2,Stp (λ_=>False) Hf' H (λ_=>False) Hf2 H'/\Same Hf2 H'/\Tr Hf2 d x
def MI (K:PySem.W.Frag)(wi:TI)(fi:Ev->R (List PyData)):Prop:=∀(β:Nat->V) (W:Wo) (c:Ev) (σ:St) (k:It->Hp->Prop),Rep K β W c σ ->
 (fi c).sat (λds c'=>∀J W',Stp W.S W.Hf W.H W'.S W'.Hf W'.H->Rep K β W' c' σ->Ah2 J W'.Hf ds->k J W'.H)->wi σ W.H k
noncomputable def forL (g:PV->Ev->R Unit) (body:Ev->SR):List PyData->Ev->SR
 | [],c=>.nx c
 | d::ds,c=>match g (.o (.im d)) c with
  | .bad=>.bad
  | .ok _ c=>match body c with
   | .nx c=>forL g body ds c
   | .ct c=>forL g body ds c
   | .bk c=>.nx c
   | .rt p c=>.rt p c
   | .bad=>.bad
def Rt (fi:Ev->R (List PyData))(g:PV->Ev->R Unit)(body:Ev->SR):Ev->SR:=λc=>(fi c).toS λds c=>forL g body ds c
theorem Lr {a:Type}{l:List a} (h:i<l.length):l.drop i=l[i]::l.drop (i+1):=List.drop_eq_getElem_cons h
theorem M4 {V:TS} (hi:MI K X fi) (hg:MG K t g) (hb:MS K V body):MS K (A1n X t V) (Rt fi g body):=by
 intro C W c I D R l
 refine hi C W c I _ R ((Ik l).mono λk c1 l1 J T N R1 it=>?_)
 refine⟨λi m I H=>∃d y,d.H=H/\Rep K C d y I/\m=k.length-i/\i<=k.length/\Same T.Hf d.Hf/\zM K C d D (forL g body (k.drop i) y),⟨_,T,c1,rfl,R1,rfl,Nat.zero_le _,Same.refl _,zM.step l1 N⟩,?_⟩
 rintro i m I H ⟨d,y,rfl,O,rfl,hle,Y,h⟩
 obtain⟨A,Q⟩:=it i d.Hf d.H Y O.sub
 by_cases lt:i<k.length
 ·obtain⟨q1,q2⟩:=Q k[i] (List.getElem?_eq_getElem lt)
  refine .inr ⟨q1,λM s=>∃d y,d.H=s/\Rep K C d y M/\Same T.Hf d.Hf/\zM K C d D (forL g body (k.drop (i+1)) y),λM s ⟨U,Z,e3,R3,s3,l3⟩=>⟨k.length-(i+1),by omega,U,Z,e3,R3,rfl,by omega,s3,l3⟩,λx s hy=>?_⟩
  obtain⟨n,j,G,tx⟩:=q2 x s hy
  have P:Stp d.S d.Hf d.H (Wo.S ⟨n,s,d.fps⟩) n s:=⟨j.fz,λa o e _=>j.kp a o e λz=>z,λa o e mu _ q=>j.nf a o e mu (λz=>z) q,λa z=>.inl z⟩
  rw[Lr lt]at h;unfold forL at h
  refine hg C ⟨n,s,d.fps⟩ y I (.o (.im _)) x _ _ (j.rep O G) ⟨⟨rfl,tx⟩,λa z=>nomatch z⟩ ?_
  cases eg:g _ _ with
  | bad=>rw[eg]at h;exact h.elim
  | ok u Z =>
   rw[eg]at h;intro σ3 U w S
   have w:=w.up λa z=>by
    rcases z with z | z
    ·exact z
    ·cases z
   have f:=P.trans w;have F := Y.trans f.fz
   refine hb _ _ _ _ _ S ?_
   cases ebd:body _ with
   | nx E=>simp only[ebd]at h;exact λr L b B=>⟨L,E,rfl,B,F.trans b.fz,zM.step h (f.trans b)⟩
   | ct E=>simp only[ebd]at h;exact λr L b B=>⟨L,E,rfl,B,F.trans b.fz,zM.step h (f.trans b)⟩
   | bk E=>simp only[ebd]at h;exact λr L b B=>h _ _ (f.trans b) B
   | rt p E=>simp only[ebd]at h;exact λr v L fp b B r4=>h _ v _ _ (f.trans b) B r4
   | bad=>simp only[ebd]at h;exact h.elim
 ·have e:i=k.length:=by omega
  subst e;rw[List.drop_length]at h;exact .inl ⟨A rfl,h _ _ Stp.refl O⟩
def Dt (g:PV->Ev->R Unit)(ft:Ev->R Bool)(fe:Ev->R PV):List PyData->List PyData->Ev->R (List PyData)
 | [],acc,c=>.ok acc c
 | d::ds,acc,c=>(g (.o (.im d)) c).bind λ_ c=>(ft c).bind λb c=>if b=true then (fe c).bind λp c=>(frz (nrm p) c).bind λy c=>Dt g ft fe ds (acc++[y]) c else Dt g ft fe ds acc c
def cIn (idx:List (Option Nat))(c:Ev):Ev:=idx.map λo=>o.bind λi=>((c[i]?).join).map (O.flag true)
noncomputable def pairsOf:Nat->List (Option Nat)->List (Nat×Nat)
 | _,[]=>[]
 | k,none::r=>pairsOf (k+1) r
 | k,some i::r=>(k,i)::pairsOf (k+1) r
def cLC (idx:List (Option Nat))(fi:Ev->R (List PyData))(g:PV->Ev->R Unit)(ft:Ev->R Bool)(fe:Ev->R PV):Ev->R PV:=λc=>(fi c).bind λds c =>
 if ds.length<=16000000 then match Dt g ft fe ds [] (cIn idx c) with
 | .bad=>.bad
 | .ok acc cI=>match Gr cI (pairsOf 0 idx) c with
  | none=>.bad
  | some c=>.ok (.o (.ls false acc)) c
 else .bad
theorem A3i (h:l+1<=k):k-(l+1)+1=k-l:=by omega
theorem Fg {k i:Nat}:∀{l:Nat}{idx:List (Option Nat)},(k,i)∈pairsOf l idx->l<=k/\idx[k-l]?=some (some i)
 | l,[],h=>by cases h
 | l,none::r,h=>by
  obtain⟨q1,q2⟩:=Fg (l:=l+1) (idx:=r) h
  refine⟨Nat.le_of_succ_le q1,?_⟩
  rw[show k-l=(k-(l+1))+1 from (A3i q1).symm,List.getElem?_cons_succ];exact q2
 | l,some j::r,h=>by
  rcases List.mem_cons.mp (show (k,i)∈(l,j)::pairsOf (l+1) r from h) with e | e
  ·cases e;exact⟨Nat.le_refl _,by rw[Nat.sub_self];rfl⟩
  ·obtain⟨q1,q2⟩:=Fg (l:=l+1) (idx:=r) e
   refine⟨Nat.le_of_succ_le q1,?_⟩
   rw[show k-l=(k-(l+1))+1 from (A3i q1).symm,List.getElem?_cons_succ];exact q2
theorem Lw {k i:Nat}:∀{l:Nat}{idx:List (Option Nat)},idx[k]?=some (some i)->(k+l,i)∈pairsOf l idx
 | l,[],h=>by simp at h
 | l,none::r,h=>by
  cases k with
  | zero=>simp at h
  | succ k =>
   rw[List.getElem?_cons_succ]at h;have:=Lw (l:=l+1) (idx:=r) h
   rw[show k+1+l=k+(l+1) by omega];exact this
 | l,some j::r,h=>by
  cases k with
  | zero=>simp at h;subst h;rw[Nat.zero_add];exact .head _
  | succ k =>
   rw[List.getElem?_cons_succ]at h;have:=Lw (l:=l+1) (idx:=r) h
   rw[show k+1+l=k+(l+1) by omega];exact .tail _ this
theorem Ny:∀{l:Nat}{idx:List (Option Nat)},((pairsOf l idx).map (·.1)).Nodup
 | l,[]=>List.nodup_nil
 | l,none::r=>Ny (l:=l+1) (idx:=r)
 | l,some j::r=>by
  show (l::(pairsOf (l+1) r).map (·.1)).Nodup
  rw[List.nodup_cons]
  refine⟨λh=>?_,Ny⟩
  obtain⟨⟨k,i⟩,h1,h2⟩:=List.mem_map.mp h;have:=(Fg h1).1;have h2:k=l:=h2;omega
theorem Bj3 (h:x.join=some o):x=some (some o):=by
 cases x with
 | none=>grind
 | some y=>simp_all
theorem A3s {k:Nat} (h:(cIn idx c)[k]?=some (some o)):∃i a,idx[k]?=some (some i)/\c[i]?=some (some a)/\o=a.flag true:=by
 unfold cIn at h;rw[List.getElem?_map]at h;obtain⟨x,e,b⟩:=Option.map_eq_some_iff.mp h
 cases x with
 | none=>grind
 | some i =>
  obtain⟨a,f,d⟩:=Option.map_eq_some_iff.mp b
  grind
theorem An1 {k i:Nat} (h1:idx[k]?=some (some i)) (h2:a[i]?=some (some v)):(cst idx a)[k]?=some (some v):=by
 unfold cst
 grind
theorem A5c {idx:List (Option Nat)}(R:Rep K β W c σ)(hnd:((pairsOf 0 idx).map (·.2)).Nodup):Lent K W.Hf (pairsOf 0 idx) c σ (λk=>(((cst idx σ)[k]?).join).getD .non) (cIn idx c) (cst idx σ) where
 n1:=Ny
 n2:=hnd
 len:=by unfold cIn cst;rw[List.length_map,List.length_map]
 at_:=λk o h=>by
  obtain⟨i,o',h1,h2,rfl⟩:=A3s h;obtain⟨v,e,r,_⟩:=R.get i o' h2;have hs:=An1 h1 e
  have one:∀j,(k,j)∈pairsOf 0 idx->j=i:=λj hj=>by
   have:=(Fg hj).2;rw[Nat.sub_zero,h1]at this;cases this;rfl
  have nol:Hd c[i]?=false->∀j,(k,j)∈pairsOf 0 idx->Hd c[j]?=false:=λq j hj=>by rw[one j hj];exact q
  cases o' with
  | im d=>exact .inl ⟨rfl,nol (by rw[h2];rfl),v,hs,r.2⟩
  | sc d=>exact .inl ⟨rfl,nol (by rw[h2];rfl),v,hs,r.2⟩
  | ty d=>exact .inl ⟨rfl,nol (by rw[h2];rfl),v,hs,r.2⟩
  | ls b ds=>exact .inr ⟨i,b,ds,v,Lw (l:=0) h1,h2,rfl,e,hs,by rw[hs];rfl⟩
theorem A5p (hnd:((pairsOf 0 idx).map (·.2)).Nodup) (hg:MG K t g) (ht:MT K tc ft) (he:ME K te fe)
 (st1:Stp W.S W.Hf W.H W1.S W1.Hf W1.H) (R1:Rep K β W1 c1 σ)
 (it:∀(i:Nat) (h:Wo),Stp (Wo.S ⟨W1.Hf,W1.H,Rb (pairsOf 0 idx) c1 W1.fps⟩) W1.Hf W1.H h.S h.Hf h.H->Same h.Hf h.H->(i=ds.length->J.stop i h.H) /\
  ∀d,ds[i]?=some d->J.go i h.H/\∀x E,J.yld i h.H x E->∃s,Stp (λ_=>False) h.Hf h.H (λ_=>False) s E/\Same s E/\Tr s d x)
 (s1:(if ds.length<=16000000 then match Dt g ft fe ds [] (cIn idx c1) with
  | .bad=>.bad
  | .ok f I=>match Gr I (pairsOf 0 idx) c1 with
   | none=>.bad
   | some c=>.ok (.o (.ls false f)) c
  else .bad:R PV).sat λp c'=>∀v j w,Stp W.S W.Hf W.H (orS j.S w) j.Hf j.H->Rep K β j c' σ->Fo K j σ p v w->Q v j.H):tLC idx (λ_ H k=>k J H) t tc te σ W1.H Q:=by
 unfold tLC
 dsimp only
 by_cases hl:ds.length<=16000000
 ·rw[if_pos hl]at s1
  have L:=A5c (idx:=idx) R1 hnd
  let C:Nat->V:=λk=>(((cst idx σ)[k]?).join).getD .non
  let F:Wo:=⟨W1.Hf,W1.H,Rb (pairsOf 0 idx) c1 W1.fps⟩
  let B:U.R (List PyData)->Prop:=λr=>match r with
   | .bad=>False
   | .ok f I=>match Gr I (pairsOf 0 idx) c1 with
    | none=>False
    | some c=>∀v j w,Stp W.S W.Hf W.H (orS j.S w) j.Hf j.H->Rep K β j c σ->Fo K j σ (.o (.ls false f)) v w->Q v j.H
  have s2:B (Dt g ft fe ds [] (cIn idx c1)):=by
   show match Dt g ft fe ds [] (cIn idx c1) with
    | .bad=>False
    | .ok f I=>match Gr I (pairsOf 0 idx) c1 with
     | none=>False
     | some c=>∀v j w,Stp W.S W.Hf W.H (orS j.S w) j.Hf j.H->Rep K β j c σ->Fo K j σ (.o (.ls false f)) v w->Q v j.H
   cases e1:Dt g ft fe ds [] (cIn idx c1) with
   | bad=>rw[e1]at s1;exact s1.elim
   | ok f I =>
    simp only[e1]at s1
    show match Gr I (pairsOf 0 idx) c1 with
     | none=>False
     | some c=>∀v j w,Stp W.S W.Hf W.H (orS j.S w) j.Hf j.H->Rep K β j c σ->Fo K j σ (.o (.ls false f)) v w->Q v j.H
    cases e2:Gr I (pairsOf 0 idx) c1 with
    | none=>simp only[e2]at s1;exact s1.elim
    | some D=>simp only[e2]at s1;exact s1
  refine⟨λi m A S H=>∃h D f,h.H=H/\Rep K C h D A/\m=ds.length-i/\i<=ds.length/\S.length<=i/\Stp F.S F.Hf F.H h.S h.Hf h.H/\TrL h.Hf f S/\B (Dt g ft fe (ds.drop i) f D),
   ⟨_,F,cIn idx c1,[],rfl,(L.rep R1),rfl,Nat.zero_le _,Nat.le_refl _,Stp.refl,rfl,s2⟩,?_⟩
  rintro i m A S H ⟨h,D,f,rfl,R2,rfl,hle,hvs,N,ta,l⟩
  obtain⟨P,hgo⟩:=it i h N R2.sub
  by_cases lt:i<ds.length
  ·obtain⟨q1,q2⟩:=hgo ds[i] (List.getElem?_eq_getElem lt)
   refine .inr ⟨q1,Nat.lt_of_lt_of_le (Nat.lt_of_le_of_lt hvs (Nat.lt_of_lt_of_le lt hl)) (by decide),λA S E=>∃h D f,h.H=E/\Rep K C h D A/\S.length<=i+1/\Stp F.S F.Hf F.H h.S h.Hf h.H/\TrL h.Hf f S/\B (Dt g ft fe (ds.drop (i+1)) f D),
    λA acc' E ⟨O,X,Y,e3,R3,h3,n,t3,f3⟩=>⟨ds.length-(i+1),by omega,O,X,Y,e3,R3,rfl,by omega,h3,n,t3,f3⟩,λx E hy=>?_⟩
   obtain⟨s,n,sub3,tx⟩:=q2 x E hy
   have stx:Stp h.S h.Hf h.H (Wo.S ⟨s,E,h.fps⟩) s E:=⟨n.fz,λa o e _=>n.kp a o e λz=>z,λa o e mu _ q=>n.nf a o e mu (λz=>z) q,λa z=>.inl z⟩
   rw[Lr lt]at l;unfold Dt at l
   refine hg C ⟨s,E,h.fps⟩ D A (.o (.im ds[i])) x [] _ (n.rep R2 sub3) ⟨⟨rfl,tx⟩,λa z=>nomatch z⟩ ?_
   cases eg:g (.o (.im ds[i])) D with
   | bad=>rw[eg]at l;exact l.elim
   | ok u X =>
    rw[eg]at l
    have l:B ((ft X).bind λb c=>if b=true then (fe c).bind λp c=>(frz (nrm p) c).bind λy c=>Dt g ft fe (ds.drop (i+1)) (f++[y]) c else Dt g ft fe (ds.drop (i+1)) f c):=l
    intro σ3 O G R4
    have G:=G.up (S2:=h.S) λa z=>by
     rcases z with z | z
     ·exact z
     ·cases z
    refine ht C O X σ3 _ R4 ?_
    cases et:ft X with
    | bad=>rw[et]at l;exact l.elim
    | ok b c4 =>
     rw[et]at l;intro T st5 R5;have M:Stp F.S F.Hf F.H T.S T.Hf T.H:=N.trans (stx.trans (G.trans st5));have Z:TrL T.Hf f S:=TrL.same (stx.trans (G.trans st5)).fz ta
     cases b with
     | false=>rw[if_neg (by decide)];exact⟨T,c4,f,rfl,R5,by omega,M,Z,l⟩
     | true =>
      rw[if_pos rfl]
      have l:B ((fe c4).bind λp c=>(frz (nrm p) c).bind λy c=>Dt g ft fe (ds.drop (i+1)) (f++[y]) c):=l
      refine he.toV C T c4 σ3 _ R5 ?_
      cases ee:fe c4 with
      | bad=>rw[ee]at l;exact l.elim
      | ok p c5 =>
       rw[ee]at l
       have l:B ((frz (nrm p) c5).bind λy c=>Dt g ft fe (ds.drop (i+1)) (f++[y]) c):=l
       intro y W5 st6 R6 r6
       have fz:(frz (nrm p) c5).sat λ_ _=>True:=by
        cases ef:frz (nrm p) c5 with
        | bad=>rw[ef]at l;exact l.elim
        | ok d c=>trivial
       obtain⟨d,c6,W6,e6,_,eH,st7,R7,t7⟩:=Il R6 r6 fz;rw[e6]at l
       refine⟨W6,c6,f++[d],eH,R7,by rw[List.length_append,List.length_singleton];omega,M.trans (st6.trans st7),(TrL.same (st6.trans st7).fz Z).app (TrL.one t7),l⟩
  ·have e:i=ds.length:=by omega
   subst e;rw[List.drop_length]at l
   refine .inl ⟨P rfl,λp hp=>?_⟩
   have l:match Gr D (pairsOf 0 idx) c1 with
    | none=>False
    | some c=>∀v j w,Stp W.S W.Hf W.H (orS _ _) _ _->Rep K _ j c _->Fo K _ _ _ v _->Q v _:=l
   cases eb:Gr D (pairsOf 0 idx) c1 with
   | none=>simp only[eb]at l
   | some cO =>
    simp only[eb]at l
    obtain⟨O,e1,e2,R3,n,_⟩:=L.back (fp:=[]) R1 R2 (N.less λa z=>by
     rcases z with z | z
     ·exact z
     ·cases z) eb (λk i b ds v hm _ hv=>by
      have:=(Fg hm).2;rw[Nat.sub_zero]at this
      rw[An1 this hv];rfl) λa z=>nomatch z
    have n:Stp W1.S W1.Hf W1.H O.S O.Hf O.H:=by
     rw[e1,e2];exact n.less λa z=>.inl z
    rw[<- e2]at hp ⊢
    exact New.lst (New.of R3 λv j w st R' rp=>l v _ _ (st1.trans (n.trans st)) R' rp) R3.sub (by rw[e1];exact ta) hp
 ·rw[if_neg hl]at s1;exact s1.elim
theorem Hr (d:((pairsOf 0 idx).map (·.2)).Nodup) (hi:MI K f fi) (hg:MG K t g) (ht:MT K h ft) (he:ME K j fe) :
 ME K (tLC idx f t h j) (cLC idx fi g ft fe):=by
 intro n W c o Q R s
 refine hi _ W c _ _ R (s.bnd.mono λq p l J u a k m=>?_)
 exact A5p d hg ht he a k (λi r e b=>m i _ _ e.fz b) l
end
inductive FR where
 | ret (o:O) (as:List O)
 | bad
noncomputable def resolve (p:PV) (c:Ev):Option (O×Ev):=match p with
 | .o (.ls _ ds)=>some (.ls false ds,c)
 | .o o=>some (o,c)
 | .sl i=>match c[i]? with
  | some (some (.ls false ds))=>some (.ls false ds,c.set i none)
  | some (some (.im d))=>some (.im d,c)
  | _=>none
noncomputable def Ha:List O->Ev->Option (List O)
 | [],_=>some []
 | .ls true _::r,some (.ls true ds)::c=>(Ha r c).map (.ls true ds::·)
 | .ls _ _::_,_=>none
 | o::r,_::c=>(Ha r c).map (o::·)
 | _::_,[]=>none
def At3 (as:List O)(p:PV)(c:Ev):FR:=match resolve p c with
 | none=>.bad
 | some (o,c)=>match Ha as c with
  | none=>.bad
  | some as'=>.ret o as'
def Fv (n N:Nat)(body:Ev->SR):List O->FR:=λas=>if as.length=n then match body (as.map some++List.replicate (N-n) none) with
 | .nx c=>At3 as (.o (.im .none)) c
 | .rt p c=>At3 as p c
 | _=>.bad
 else .bad
def spP (K:PySem.W.Frag)(F:List O->FR):Sp:=λvs H Q _=>∃(β:Nat->V) (W:Wo) (as:List O),W.H=H/\as.length=vs.length/\Rep K β W (as.map some) (vs.map some)/\match F as with
 | .bad=>False
 | .ret o as'=>∀v W' fp,Stp W.S W.Hf W.H (orS W'.S fp) W'.Hf W'.H->Rep K β W' (as'.map some) (vs.map some)->RepO K W'.Hf W'.H o v fp->(∀a∈fp,¬ W'.S a)->Q v W'.H
section
variable {K:PySem.W.Frag}{β:Nat->V}{W W':Wo}{c c' cO:Ev}{σ:St}{D:Ends}{Hf H:Hp}{o:O}{v:V}{fp:List Addr}
theorem Od:∀{as:List O}{c:Ev}{as':List O},Ha as c=some as'->as'.length=as.length/\∀(i:Nat) (o':O),as'[i]?=some o'->(o'.own=false/\as[i]?=some o')\/(∃ds ds',o'=.ls true ds'/\as[i]?=some (.ls true ds)/\c[i]?=some (some (.ls true ds')))
 | [],c,as',e=>by cases (show some []=some as' from e);exact⟨rfl,λi o' h=>by simp at h⟩
 | o::r,[],as',e=>by
  cases o with
  | ls b ds=>cases b <;> cases e
  | im d=>cases e
  | sc d=>cases e
  | ty d=>cases e
 | o::r,x::c,as',e=>by
  have go:∀o1:O,(Ha r c).map (o1::·)=some as'->((o1.own=false/\o1=o)\/(∃ds ds',o1=.ls true ds'/\o=.ls true ds/\x=some (.ls true ds'))) ->
   as'.length=(o::r).length/\∀(i:Nat) (o':O),as'[i]?=some o'->(o'.own=false/\(o::r)[i]?=some o')\/(∃ds ds',o'=.ls true ds'/\(o::r)[i]?=some (.ls true ds)/\(x::c)[i]?=some (some (.ls true ds'))):=λo1 e1 h1=>by
   obtain⟨t,e2,rfl⟩:=Option.map_eq_some_iff.mp e1;obtain⟨l,g⟩:=Od e2
   refine⟨by rw[List.length_cons,List.length_cons,l],λi o' h=>?_⟩
   cases i with
   | zero =>
    cases (show some o1=some o' from h)
    rcases h1 with ⟨z1,z2⟩ | ⟨ds,ds',z1,z2,z3⟩
    ·exact .inl ⟨z1,by rw[z2];rfl⟩
    ·exact .inr ⟨ds,ds',z1,by rw[z2];rfl,by rw[z3];rfl⟩
   | succ i=>exact g i o' (by simpa using h)
  cases o with
  | ls b ds =>
   cases b with
   | false=>cases e
   | true =>
    match x,e with
    | some (.ls true ds'),e=>exact go (.ls true ds') e (.inr ⟨ds,ds',rfl,rfl,rfl⟩)
    | some (.ls false ds'),e=>cases e
    | some (.im _),e=>cases e
    | some (.sc _),e=>cases e
    | some (.ty _),e=>cases e
    | none,e=>cases e
  | im d=>exact go (.im d) e (.inl ⟨rfl,rfl⟩)
  | sc d=>exact go (.sc d) e (.inl ⟨rfl,rfl⟩)
  | ty d=>exact go (.ty d) e (.inl ⟨rfl,rfl⟩)
theorem Ac7 (R:Rep K β W c σ) (r:Fo K W σ p v fp) (e:resolve p c=some (o,c')) :
 ∃W2 fp2,W2.Hf=W.Hf/\W2.H=W.H/\Rep K β W2 c' σ/\RepO K W2.Hf W2.H o v fp2/\(∀a∈fp2,¬ W2.S a)/\∀a,orS W2.S fp2 a->orS W.S fp a:=by
 cases p with
 | o f =>
  have g:o=f.flag false/\c'=c:=by
   cases f with
   | ls b h=>cases e;exact⟨rfl,rfl⟩
   | im d=>cases e;exact⟨rfl,rfl⟩
   | sc d=>cases e;exact⟨rfl,rfl⟩
   | ty d=>cases e;exact⟨rfl,rfl⟩
  obtain⟨rfl,rfl⟩:=g
  refine⟨W,fp,rfl,rfl,R,?_,r.2,λa z=>z⟩
  cases f with
  | ls b h=>exact r.1
  | im d=>exact r.1
  | sc d=>exact r.1
  | ty d=>exact r.1
 | sl i =>
  obtain⟨rfl,n⟩:=r;unfold resolve at e
  cases ec:c[i]? with
  | none=>simp_all
  | some x =>
   cases x with
   | none=>grind
   | some f =>
    obtain⟨v',g,k,_⟩:=R.get i _ ec
    cases (show some _=some _ from g.symm.trans n)
    cases f with
    | sc d=>simp_all
    | ty d=>simp_all
    | im d =>
     simp only[ec]at e
     cases e
     exact⟨W,[],rfl,rfl,R,⟨rfl,k.2⟩,(λa z=>by cases z),λa z=>z⟩
    | ls b h =>
     cases b with
     | true=>simp_all
     | false =>
      simp only[ec]at e
      cases e
      refine⟨⟨W.Hf,W.H,clr _ i⟩,W.fps i,rfl,rfl,R.drop i,k,λa q ⟨j,m⟩=>?_,λa z=>?_⟩
      ·obtain⟨s,l⟩:=Ec m
       exact l (R.dis j i a s q)
      ·rcases z with z | z
       ·exact .inl (Bm2 z)
       ·exact .inl ⟨i,z⟩
theorem K4 {b a:Type}{l:List b}{f:b->a}{i:Nat}{y:a}(h:(l.map f)[i]?=some y):∃x,l[i]?=some x/\f x=y:=by
 grind
theorem A1c {vs:List V} (t:Rep K β z (p.map some) (vs.map some)) (R:Rep K β W c σ) (S:Same z.Hf W.Hf) (e:Ha p c=some k) :
 ∃W2:Wo,W2.Hf=W.Hf/\W2.H=W.H/\Rep K β W2 (k.map some) (vs.map some)/\∀a,W2.S a->W.S a:=by
 obtain⟨E,G⟩:=Od e
 let f:Nat->List Addr:=λi=>if Hd ((k.map some)[i]?) then W.fps i else []
 have g:∀i a,a∈f i->a∈W.fps i:=λi a h=>by
  grind
 have m:p.length=vs.length:=by have:=t.len;rwa [List.length_map,List.length_map]at this
 refine⟨⟨W.Hf,W.H,f⟩,rfl,rfl,⟨R.sub,by rw[List.length_map,List.length_map,E,m],λi o h=>?_,λi j a u w=>R.dis i j a (g i a u) (g j a w),λi a h=>R.own i a (g i a h)⟩,λa ⟨i,h⟩=>⟨i,g i a h⟩⟩
 obtain⟨o',u,w⟩:=K4 h
 cases w
 rcases G i o u with ⟨n,q⟩ | ⟨A,C,rfl,J,D⟩
 ·obtain⟨v,s,r,_⟩:=t.get i o (by rw[List.getElem?_map,q];rfl)
  have x:f i=[]:=by
   show (if Hd _ then W.fps i else [])=[]
   rw[h]
   cases o with
   | ls b A=>exact nomatch n
   | im d=>rfl
   | sc d=>rfl
   | ty d=>rfl
  refine⟨v,s,?_,?_⟩
  ·show RepO K W.Hf W.H o v (f i)
   rw[x]
   cases o with
   | ls b A=>exact nomatch n
   | im d=>exact⟨rfl,RepN.same S r.2⟩
   | sc d=>exact⟨rfl,RepN.same S r.2⟩
   | ty d=>exact⟨rfl,RepN.same S r.2⟩
  grind
 ·obtain⟨v,s,r,B⟩:=t.get i _ (by rw[List.getElem?_map,J];rfl)
  obtain⟨H,F,I,y⟩:=R.get i _ D;have l:=y rfl;rw[<- (B rfl)]at l;subst l
  refine⟨H,s,?_,B⟩
  have x:f i=W.fps i:=by
   show (if Hd _ then W.fps i else [])=_
   rw[h];rfl
  show RepO K _ _ _ _ (f i)
  rw[x];exact I
theorem De (h:MS K T body) (hs:spP K (Fv n N.length body) vs H Q E):T { nx:=λ_ H'=>Q .non H',rt:=Q } (start N vs) H:=by
 obtain⟨u,W,j,rfl,B,m,b⟩:=hs;unfold Fv at b
 by_cases hn:j.length=n
 ·rw[if_pos hn]at b
  let D:Ev:=j.map some++List.replicate (N.length-n) none
  have R:Rep K u W D (start N vs):=by
   refine⟨m.sub,?_,λi o e=>?_,m.dis,m.own⟩
   ·show (j.map some++List.replicate (N.length-n) none).length=(vs.map some++List.replicate (N.length-vs.length) none).length
    rw[List.length_append,List.length_append,List.length_map,List.length_map,List.length_replicate,List.length_replicate,<- B,hn]
   ·have e:(j.map some++List.replicate (N.length-n) none)[i]?=some (some o):=e
    by_cases li:i<j.length
    ·rw[List.getElem?_append_left (by rw[List.length_map];exact li)]at e
     obtain⟨v,w,r⟩:=m.get i o e
     refine⟨v,?_,r⟩
     show (vs.map some++List.replicate (N.length-vs.length) none)[i]?=_
     rw[List.getElem?_append_left (by rw[List.length_map,<- B];exact li)];exact w
    ·rw[List.getElem?_append_right (by rw[List.length_map];exact Nat.le_of_not_lt li),List.getElem?_replicate]at e
     split at e <;> cases e
  refine h u W D (start N vs) _ R ?_
  have l:∀p f c v d g,(match At3 j p f with
   | .bad=>False
   | .ret o t=>∀v W' g,Stp W.S W.Hf W.H (orS W'.S g) W'.Hf W'.H->Rep K u W' (t.map some) (vs.map some)->RepO K W'.Hf W'.H o v g->(∀a∈g,¬ W'.S a)->Q v W'.H) ->
   Stp W.S W.Hf W.H (orS d.S g) d.Hf d.H->Rep K u d f c->Fo K d c p v g->Q v d.H:=λp f c v d g b k s x=>by
   unfold At3 at b
   cases er:resolve p f with
   | none=>simp only[er]at b
   | some q =>
    obtain⟨o,U⟩:=q;simp only[er]at b
    cases ea:Ha j U with
    | none=>simp only[ea]at b
    | some t =>
     simp only[ea]at b;obtain⟨W2,S,w,C,I,J,L,M⟩:=Ac7 s x er
     obtain⟨O,A,y,P,F⟩:=A1c m I (by rw[w];exact k.fz) ea
     rw[show d.H=O.H by rw[y,C]]
     refine b v _ _ ?_ P (by rw[A,y];exact J) λa G z=>L a G (F a z)
     rw[A,y,w,C]
     exact k.less λa z=>M a (by
      rcases z with z | z
      ·exact .inl (F a z)
      ·exact .inr z)
  cases eb:body _ with
  | nx f =>
   rw[show body _=.nx _ from eb]at b
   exact λc d k s=>l _ _ _ _ _ _ b (k.less λa z=>by
    rcases z with z | z
    ·exact z
    ·cases z) s ⟨⟨rfl,rfl⟩,λa z=>nomatch z⟩
  | rt p f =>
   rw[show body _=.rt p _ from eb]at b
   exact λc v d g k s x=>l p _ _ v _ _ b k s x
  | bk f=>rw[show body _=.bk _ from eb]at b;exact b.elim
  | ct f=>rw[show body _=.ct _ from eb]at b;exact b.elim
  | bad=>rw[show body _=.bad from eb]at b;exact b.elim
 ·rw[if_neg hn]at b;exact b.elim
theorem Dc (hs:spP K (Fv n N body) vs H Q E):vs.length=n:=by
 obtain⟨d,W,c,b,e,f,a⟩:=hs;unfold Fv at a
 grind
def Yo (c:Ev):List PV->Option (List O)
 | []=>some []
 | .o o::r=>(Yo c r).map (o::·)
 | .sl i::r=>match c[i]? with
  | some (some o)=>(Yo c r).map (o.flag true::·)
  | _=>none
noncomputable def slots:List PV->List (Option Nat)
 | []=>[]
 | .o _::r=>none::slots r
 | .sl i::r=>some i::slots r
noncomputable def ndB:List Nat->Bool
 | []=>true
 | x::r=>!r.contains x&&ndB r
theorem A1a:∀{l:List Nat},ndB l=true->l.Nodup
 | [],_=>List.nodup_nil
 | x::r,h=>by
  obtain⟨h1,h2⟩:=Bool.and_eq_true_iff.mp (show (!r.contains x&&ndB r)=true from h)
  rw[List.nodup_cons]
  exact⟨λz=>by simp[z]at h1,A1a h2⟩
def Yd (F:List O->FR)(ps:List PV)(c:Ev):R PV:=match Yo c ps with
 | none=>.bad
 | some as=>if ndB ((pairsOf 0 (slots ps)).map (·.2))=true then match F as with
  | .bad=>.bad
  | .ret o as'=>match Gr (as'.map some) (pairsOf 0 (slots ps)) c with
   | none=>.bad
   | some c=>.ok (.o o) c
  else .bad
def cF (F:List O->FR)(fa:Ev->R (List PV)):Ev->R PV:=λc=>(fa c).bind λps c=>Yd F ps c
theorem Ue {Hf:Hp}:∀{ps:List PV}{vs:List V}{as:List O},Yo c ps=some as->zR K Hf σ ps vs->as.length=vs.length/\∀(k:Nat) (o:O),as[k]?=some o->∃v,vs[k]?=some v /\
 ((RepN K Hf o v/\(slots ps)[k]?=some none)\/∃i o',(slots ps)[k]?=some (some i)/\c[i]?=some (some o')/\o=o'.flag true/\σ[i]?=some (some v))
 | [],vs,as,e,h=>by cases (show some []=some as from e);cases (show vs=[] from h);exact⟨rfl,λk o h=>by simp at h⟩
 | .o o1::r,_,as,e,⟨v,vr,rfl,h,t⟩=>by
  obtain⟨l,e2,rfl⟩:=Option.map_eq_some_iff.mp (show (Yo c r).map (o1::·)=some as from e)
  obtain⟨hl,hg⟩:=Ue e2 t
  refine⟨by rw[List.length_cons,List.length_cons,hl],λk o hk=>?_⟩
  cases k with
  | zero=>cases (show some o1=some o from hk);exact⟨v,rfl,.inl ⟨h,rfl⟩⟩
  | succ k=>exact hg k o (by simpa using hk)
 | .sl i::r,_,as,e,⟨v,vr,rfl,h,t⟩=>by
  unfold Yo at e
  cases ec:c[i]? with
  | none=>simp only[ec]at e;cases e
  | some x =>
   cases x with
   | none=>simp only[ec]at e;cases e
   | some o1 =>
    simp only[ec]at e;obtain⟨l,e2,rfl⟩:=Option.map_eq_some_iff.mp e;obtain⟨hl,hg⟩:=Ue e2 t
    refine⟨by rw[List.length_cons,List.length_cons,hl],λk o hk=>?_⟩
    cases k with
    | zero=>cases (show some (o1.flag true)=some o from hk);exact⟨v,rfl,.inr ⟨i,o1,rfl,ec,rfl,h⟩⟩
    | succ k=>exact hg k o (by simpa using hk)
theorem Py {Hf:Hp}:∀{ps:List PV}{vs:List V}{k i:Nat}{v:V},zR K Hf σ ps vs->(slots ps)[k]?=some (some i)->σ[i]?=some (some v)->vs[k]?=some v
 | [],vs,k,i,v,h,e,q=>by simp[slots]at e
 | .o _::r,_,k,i,v,⟨v1,vr,rfl,h,t⟩,e,q=>by
  cases k with
  | zero=>simp[slots]at e
  | succ k=>have:=Py (k:=k) t (by simpa[slots] using e) q;simpa using this
 | .sl j::r,_,k,i,v,⟨v1,vr,rfl,h,t⟩,e,q=>by
  cases k with
  | zero =>
   have:j=i:=by simpa[slots] using e
   subst this
   cases (show some (some v1)=some (some v) from (show σ[j]?=some (some v1) from h).symm.trans q)
   rfl
  | succ k=>have:=Py (k:=k) t (by simpa[slots] using e) q;simpa using this
theorem Ac4 (g:Rep K β W1 c1 σ) (R:zR K W1.Hf σ ps vs)
 (s1:(Yd F ps c1).sat λp c'=>∀v e y,Stp W1.S W1.Hf W1.H (orS e.S y) e.Hf e.H->Rep K β e c' σ->Fo K e σ p v y->(∀j a,a∈W1.fps j->some j∉slots ps->e.H a=W1.H a)->Q v e.H):spP K F (vs++[]) W1.H Q E:=by
 unfold Yd at s1
 cases ea:Yo c1 ps with
 | none=>simp only[ea]at s1;exact s1.elim
 | some M =>
  simp only[ea]at s1
  by_cases nd:ndB ((pairsOf 0 (slots ps)).map (·.2))=true
  ·rw[if_pos nd]at s1
   obtain⟨P,hg⟩:=Ue ea R
   let m:=pairsOf 0 (slots ps)
   let l:Nat->V:=λk=>(vs[k]?).getD .non
   have L:Lent K W1.Hf m c1 σ l (M.map some) (vs.map some):=by
    refine⟨Ny,A1a nd,by rw[List.length_map,List.length_map];exact P,λk o B=>?_⟩
    obtain⟨o1,T,h2⟩:=K4 B
    cases h2
    obtain⟨v,u,q⟩:=hg k o T
    have c:(vs.map some)[k]?=some (some v):=by rw[List.getElem?_map,u];rfl
    rcases q with ⟨I,t⟩ | ⟨i,H,t,n,rfl,G⟩
    ·refine .inl ⟨?_,λi Z=>?_,v,c,I⟩
     ·cases o with
      | ls b D=>exact I.elim
      | im d=>rfl
      | sc d=>rfl
      | ty d=>rfl
     ·have:=(Fg Z).2
      rw[Nat.sub_zero,t]at this;cases this
    ·have f:Hd c1[i]?=false->∀j,(k,j)∈m->Hd c1[j]?=false:=λq j z=>by
      have:=(Fg z).2;rw[Nat.sub_zero,t]at this;cases this;exact q
     obtain⟨v',w,r,_⟩:=g.get i H n
     cases (show some _=some _ from w.symm.trans G)
     cases H with
     | im d=>exact .inl ⟨rfl,f (by rw[n];rfl),v,c,r.2⟩
     | sc d=>exact .inl ⟨rfl,f (by rw[n];rfl),v,c,r.2⟩
     | ty d=>exact .inl ⟨rfl,f (by rw[n];rfl),v,c,r.2⟩
     | ls b D=>exact .inr ⟨i,b,D,v,Lw t,n,rfl,G,c,by show vs[k]?.getD _=v;rw[u];rfl⟩
   refine⟨l,⟨W1.Hf,W1.H,Rb m _ _⟩,M,rfl,by rw[List.append_nil];exact P,by rw[List.append_nil];exact(L.rep g),?_⟩
   cases ef:F _ with
   | bad=>simp only[ef]at s1;exact s1.elim
   | ret o A =>
    simp only[ef]at s1;intro v e y J U W X
    cases eb:Gr (A.map some) m c1 with
    | none=>simp only[m]at eb;simp only[eb]at s1;exact s1.elim
    | some cO =>
     have h:=eb;simp only[m]at h;simp only[h]at s1
     obtain⟨W2,w,x,R2,C,Y⟩:=L.back g U J eb (λk i b D v hm hc u=>by
      have:=(Fg hm).2;rw[Nat.sub_zero]at this
      show vs[k]?.getD _=v
      rw[Py R this u];rfl) X
     rw[<- x]
     refine s1 v _ _ (by rw[w,x];exact C) R2 ⟨by rw[w,x];exact W,Y⟩ λj a N z=>?_
     obtain⟨_,ob,s,_⟩:=g.own j a N;rw[x,s]
     refine J.kp a _ s λ⟨k,B⟩=>z ?_
     obtain⟨i,q1,_,S⟩:=Gn B
     cases g.dis i j a S N
     have:=(Fg q1).2;exact List.mem_of_getElem? this
  ·rw[if_neg nd]at s1;exact s1.elim
theorem At6 (d:Rep K β W1 c1 σ) (e:zR K W1.Hf σ ps vs)
 (s1:(Yd F ps c1).sat λp c'=>∀v a b,Stp W1.S W1.Hf W1.H (orS a.S b) a.Hf a.H->Rep K β a c' σ->Fo K a σ p v b->Q v a.H):spP K F (vs++[]) W1.H Q E :=
 Ac4 d e (s1.mono λp c' k v a b c R r _=>k v _ _ c R r)
theorem Ar (ha:MA K t fa):ME K (Z6 (spP K F) [] E t) (cF F fa):=by
 intro j W c h Q R s
 refine ha _ W c _ _ R (s.bnd.mono λl m f u i a e d=>?_)
 exact At6 e d (f.mono λp n k v o q g b r=>k v _ _ (a.trans g) b r)
end
noncomputable def Bm7 (is:List Nat) (c:Ev):Ev:=is.foldl (λc i=>c.set i none) c
section
variable {K:PySem.W.Frag}{X:Cx}{Hf H:Hp}{Q:VK}
theorem OpR.or (h:OpR X f r) (h':OpR X f b):OpR X f (λx y H Q=>r x y H Q\/b x y H Q):=by
 intro c s e H x y v u Q I d a q
 rcases q with q | q
 ·exact h _ s _ H x y v u Q I d a q
 ·exact h' _ s _ H x y v u Q I d a q
theorem zE.or (h:zE X f r) (h':zE X f b):zE X f (λxs H Q=>r xs H Q\/b xs H Q):=by
 intro c s d H xs e Q I a q
 rcases q with q | q
 ·exact h _ s _ H _ _ Q I a q
 ·exact h' _ s _ H _ _ Q I a q
theorem Di (h:RdV Hf H (.int i) v):v=.int i:=h
theorem Fz (h:RdV Hf H (.str x) v):v=.str x:=h
theorem Rq (h:RdV Hf H (.bool b) v):v=.bl b:=h
theorem Xj (h:RdV Hf H .none v):v=.non:=h
theorem Hj (s:Same Hf H) (h:RdV Hf H (.tuple ds) v):∃a b,v=.ref a/\H a=some (.tup b)/\TrL Hf ds b:=by
 obtain⟨a,b,e,q,t⟩:=(show Tr _ _ v from h)
 exact⟨a,b,e,s _ _ q,t⟩
theorem Ig (h:RdV Hf H (.list ds) v):∃a vs,v=.ref a/\H a=some (.lst vs)/\TrL Hf ds vs:=h
theorem New.int (h:New K Hf H (.im (.int i)) Q) (s:Same Hf H):Q (.int i) H:=h.same s rfl
theorem New.bl (h:New K Hf H (.im (.bool b)) Q) (s:Same Hf H):Q (.bl b) H:=h.same s rfl
theorem New.str (h:New K Hf H (.im (.str x)) Q) (s:Same Hf H):Q (.str x) H:=h.same s rfl
theorem New.tupS (h:New K Hf H (.im (.tuple ds)) Q) (s:Same Hf H) (t:TrL Hf ds vs) (S:Same H H') (hp:H' p=some (.tup vs)):Q (.ref p) H':=by
 have c:Same _ (upd Hf p (.tup vs)):=λb u e=>by
  unfold upd
  split
  ·have:=S b u (s b u e)
   simp_all
  grind
 refine h _ _ _ [] ⟨c,λa o e _=>S a o e,λa o e d _ q=>?_,λa z=>nomatch z⟩ (λb u e=>?_) ⟨rfl,p,vs,rfl,Av,TrL.same c t⟩
 ·unfold upd
  split
  ·rename_i z
   have:=S a o e;rw[z,hp]at this
   cases this
   trivial
  omega
 ·unfold upd at e
  split at e
  ·simp_all
  ·exact S b u (s b u e)
def Be2:R2:=λx y H Q=>(rI0 (λi j=>.int (i+j)) x y H Q\/(∃i j,x=.str i/\y=.str j/\i.length+j.length<=sizeLine/\Q (.str (i++j)) H))\/(Bm6 x y H Q\/A8a x y H Q)
theorem Ba7:OpR X (binaryOp .Add) Be2:=OpR.or (OpR.or A9t Ac1) (OpR.or A9u A4f)
noncomputable def Ek:PyData->PyData->Option O
 | .int i,.int j=>some (.im (.int (i+j)))
 | .str a,.str b=>if a.length+b.length<=16000000 then some (.im (.str (a++b))) else none
 | .list a,.list b=>if a.length+b.length<=16000000 then some (.ls false (a++b)) else none
 | .tuple a,.tuple b=>if a.length+b.length<=16000000 then some (.im (.tuple (a++b))) else none
 | _,_=>none
theorem lim (h:n<=16000000):n<=sizeLine:=Nat.le_trans h (by decide)
theorem Es:OpS K Be2 Ek:=by
 intro C H x y A B o Q s g f e n;unfold Ek at e
 split at e
 ·rename_i i j
  cases e
  exact .inl (.inl ⟨i,j,Di g,Di f,n.int s⟩)
 ·rename_i a b
  split at e
  ·rename_i l
   cases e
   exact .inl (.inr ⟨a,b,Fz g,Fz f,lim l,n.str s⟩)
  ·cases e
 ·have e := e
  split at e
  ·rename_i l
   cases e
   obtain⟨p,v,k,h,d⟩:=Ig g;obtain⟨q,t,u,m,c⟩:=Ig f
   exact .inr (.inl ⟨p,q,v,t,k,u,h,m,by rw[<- d.length,<- c.length];exact lim l,λr w=>n.lst s (d.app c) w⟩)
  ·cases e
 ·have e := e
  split at e
  ·rename_i l
   cases e
   obtain⟨p,v,k,h,d⟩:=Hj s g;obtain⟨q,t,u,m,c⟩:=Hj s f
   exact .inr (.inr ⟨p,q,v,t,k,u,h,m,by rw[<- d.length,<- c.length];exact lim l,λr z S w=>n.tupS s (d.app c) S w⟩)
  ·cases e
 ·cases e
noncomputable def opI (C:Int->Int->Bool) (g:Int->Int->Int):PyData->PyData->Option O
 | .int i,.int j=>if C i j then some (.im (.int (g i j))) else none
 | _,_=>none
theorem Ak9 (hc:∀i j,C i j=true->a i j):OpS K (rI a λi j=>.int (g i j)) (opI C g):=by
 intro d H x y h f o Q s c b e n;unfold opI at e
 split at e
 ·rename_i i j
  split at e
  ·rename_i l
   cases e
   exact⟨i,j,Di c,Di b,hc i j l,n.int s⟩
  trivial
 grind
noncomputable def U0 (g:Int->Int->PyData):PyData->PyData->Option O
 | .int i,.int j=>some (.im (g i j))
 | _,_=>none
theorem V8 (hg:∀i j H,Tr H (g i j) (g' i j)):OpS K (rI0 g') (U0 g):=by
 intro c H x y f d o Q s a b e n;unfold U0 at e
 split at e
 ·rename_i i j
  cases e
  exact⟨i,j,Di a,Di b,n.same s (hg i j _)⟩
 trivial
noncomputable def Ua (i j:Int):Bool:=(decide (-(2 ^ 64)<i)&&decide (i<2 ^ 64))||(decide (-(2 ^ 64)<j)&&decide (j<2 ^ 64))
noncomputable def Bj5 (ds:List PyData) (n:Nat):List PyData:=(List.replicate n ds).flatten
theorem Al6 {a:List PyData}{vs:List V}(t:TrL Hf a vs):∀n:Nat,TrL Hf (Bj5 a n) (List.replicate n vs).flatten
 | 0=>rfl
 | n+1=>by
  show TrL Hf (List.replicate (n+1) a).flatten (List.replicate (n+1) vs).flatten
  rw[List.replicate_succ,List.replicate_succ,List.flatten_cons,List.flatten_cons];exact t.app (Al6 t n)
noncomputable def Dl (d:PyData):Bool:=d.canLay0&&decide (d.depth<=40)
theorem Ja (h:Dl d=true):Flat d:=by
 obtain⟨b,a⟩:=Bool.and_eq_true_iff.mp h;exact⟨b,of_decide_eq_true a⟩
noncomputable def Rk:PyData->PyData->Bool
 | .str _,.str _=>true
 | _,_=>false
def Ca (neg:Bool)(a b:PyData):Option O:=if (Dl a&&Dl b)||Rk a b then some (.im (.bool (if neg then !PyData.eqv a b else PyData.eqv a b))) else none
def rEQ:R2:=λx y H Q=>Bn2 x y H Q\/rEq x y H Q
def rNE:R2:=λx y H Q=>Bn1 x y H Q\/rNe x y H Q
theorem A7c (hu:X.A.units+64<cLine):OpR X (compareOp .Eq) rEQ:=OpR.or (Ba1 hu) Bl5
theorem A8c (hu:X.A.units+64<cLine):OpR X (compareOp .NotEq) rNE:=OpR.or (A8u hu) Bm5
theorem Rx (x y:Str):PyData.eqv (.str x) (.str y)=decide (V.str x=V.str y):=by
 show (x==y)=_
 grind
theorem Ew:OpS K rEQ (Ca false):=by
 intro h H x y f d o Q s b a e n;unfold Ca at e
 split at e
 ·rename_i l
  cases e
  rcases Bool.or_eq_true_iff.mp l with l | l
  ·obtain⟨g,c⟩:=Bool.and_eq_true_iff.mp l
   exact .inl ⟨f,d,b.tr s,a.tr s,Ja g,Ja c,n.bl s⟩
  ·unfold Rk at l
   split at l
   ·cases Fz b
    cases Fz a
    refine .inr ⟨rfl,?_⟩
    rw[<- Rx];exact n.bl s
   grind
 grind
theorem J1:OpS K rNE (Ca true):=by
 intro h H x y f d o Q s b a e n;unfold Ca at e
 split at e
 ·rename_i l
  cases e
  rcases Bool.or_eq_true_iff.mp l with l | l
  ·obtain⟨g,c⟩:=Bool.and_eq_true_iff.mp l
   exact .inl ⟨f,d,b.tr s,a.tr s,Ja g,Ja c,n.bl s⟩
  ·unfold Rk at l
   split at l
   ·cases Fz b
    cases Fz a
    refine .inr ⟨rfl,?_⟩
    rw[<- Rx];exact n.bl s
   grind
 grind
def rLE:R2:=λx y H Q=>rI0 (λi j=>.bl (decide (i<=j))) x y H Q\/∃i j,x=.str i/\y=.str j/\Q (.bl (!decide (j.cps.toList<i.cps.toList))) H
theorem Bh7:OpR X (compareOp .LtE) rLE:=OpR.or Bh1 Av4
noncomputable def Z7:PyData->PyData->Option O
 | .int i,.int j=>some (.im (.bool (decide (i<=j))))
 | .str i,.str j=>some (.im (.bool (!decide (j.cps.toList<i.cps.toList))))
 | _,_=>none
theorem A0u:OpS K rLE Z7:=by
 intro c H x y f d o Q s a b e n;unfold Z7 at e
 split at e
 ·rename_i i j
  cases e
  exact .inl ⟨i,j,Di a,Di b,n.bl s⟩
 ·rename_i i j
  cases e
  exact .inr ⟨i,j,Fz a,Fz b,n.bl s⟩
 trivial
noncomputable def Jr (neg:Bool) (a b:PyData):Option O:=match b with
 | .none=>some (.im (.bool (match a with
  | .none=>!neg
  | _=>neg)))
 | _=>none
theorem A5e (h:RdV Hf H d v):decide (v=.non)=(match d with | .none=>true | _=>false):=by
 cases d with
 | none=>cases Xj h;rfl
 | bool b=>cases Rq h;rfl
 | int i=>cases Di h;rfl
 | str x=>cases Fz h;rfl
 | list c=>obtain⟨a,e,rfl,_⟩:=Ig h;rfl
 | tuple c=>obtain⟨a,e,rfl,_⟩:=(show Tr _ _ v from h);rfl
 | dict k=>trivial
theorem Al0:OpS K (λx y H Q=>y=.non/\Q (.bl (decide (x=.non))) H) (Jr false):=by
 intro f H x y c b o Q s d a e n
 match b,a,e with
 | .none,a,e =>
  refine⟨Xj a,?_⟩
  rw[A5e d]
  cases e
  cases c <;> exact n.bl s
def rIN:R2:=λx y H Q=>A8i false x y H Q\/Bn4 x y H Q
theorem A7p (hu:X.A.units+64<cLine):OpR X (compareOp .In) rIN:=OpR.or (Ba5 hu) Au2
def Gf (neg:Bool):PyData->PyData->Option O
 | d,.list ds=>if Dl d&&PyData.canLayAll0 ds then some (.im (.bool (if neg then !(ds.any λe=>PyData.eqv e d) else ds.any λe=>PyData.eqv e d))) else none
 | d,.tuple ds=>if Dl d&&PyData.canLayAll0 ds then some (.im (.bool (if neg then !(ds.any λe=>PyData.eqv e d) else ds.any λe=>PyData.eqv e d))) else none
 | .str i,.str j=>if neg then none else some (.im (.bool (!(Builtin.Str.occurrences j i 0 j.length 1).isEmpty)))
 | _,_=>none
theorem Ad7:OpS K rIN (Gf false):=by
 intro h H x y g k o Q s b d e n;unfold Gf at e
 split at e
 ·rename_i c
  have e := e
  split at e
  ·rename_i l
   obtain⟨f,a⟩:=Bool.and_eq_true_iff.mp l
   cases e
   exact .inl ⟨g,c,b.tr s,.inl (d.tr s),Ja f,a,n.bl s⟩
  grind
 ·rename_i c
  have e := e
  split at e
  ·rename_i l
   obtain⟨f,a⟩:=Bool.and_eq_true_iff.mp l
   cases e
   exact .inl ⟨g,c,b.tr s,.inr (d.tr s),Ja f,a,n.bl s⟩
  simp_all
 ·rename_i i j
  cases e
  exact .inr ⟨i,j,Fz b,Fz d,n.bl s⟩
 trivial
theorem Pz:OpS K (A8i true) (Gf true):=by
 intro h H x y f i o Q s d g e n;unfold Gf at e
 split at e
 ·rename_i a
  have e := e
  split at e
  ·rename_i l
   obtain⟨c,b⟩:=Bool.and_eq_true_iff.mp l
   cases e
   exact⟨f,a,d.tr s,.inl (g.tr s),Ja c,b,n.bl s⟩
  simp_all
 ·rename_i a
  have e := e
  split at e
  ·rename_i l
   obtain⟨c,b⟩:=Bool.and_eq_true_iff.mp l
   cases e
   exact⟨f,a,d.tr s,.inr (g.tr s),Ja c,b,n.bl s⟩
  grind
 ·simp_all
 grind
theorem Ax7 (t:TrL Hf ds vs) (h:atI ds i=some d):∃v,atI vs i=some v/\Tr Hf d v:=by
 unfold atI at h ⊢;rw[<- t.length];obtain⟨j,c,a⟩:=Option.bind_eq_some_iff.mp h;obtain⟨v,e,b⟩:=t.got a
 grind
def cutD (ds:List PyData)(lo hi:Option Int):List PyData:=(ds.drop (HT.sIx ds.length 0 lo)).take (HT.sIx ds.length ds.length hi-HT.sIx ds.length 0 lo)
theorem TrL.drop':∀{ds:List PyData}{vs:List V}(n:Nat),TrL Hf ds vs->TrL Hf (ds.drop n) (vs.drop n)
 | ds,vs,0,h=>h
 | [],_,n+1,h=>by cases (show _=[] from h);exact rfl
 | d::ds,_,n+1,⟨v,r,rfl,_,t⟩=>TrL.drop' n t
theorem TrL.take':∀{ds:List PyData}{vs:List V}(n:Nat),TrL Hf ds vs->TrL Hf (ds.take n) (vs.take n)
 | ds,vs,0,h=>by rw[List.take_zero,List.take_zero];exact rfl
 | [],_,n+1,h=>by cases (show _=[] from h);exact rfl
 | d::ds,_,n+1,⟨v,r,rfl,q,t⟩=>⟨v,r.take n,rfl,q,TrL.take' n t⟩
theorem TrL.cut (t:TrL Hf ds vs):TrL Hf (cutD ds lo hi) (Ar2 vs lo hi):=by
 unfold cutD Ar2;rw[<- t.length];exact TrL.take' _ (TrL.drop' _ t)
theorem TrL.rev:∀{ds:List PyData}{vs:List V},TrL Hf ds vs->TrL Hf ds.reverse vs.reverse
 | [],_,h=>by cases (show _=[] from h);exact rfl
 | d::ds,_,⟨v,r,rfl,q,t⟩=>by
  rw[List.reverse_cons,List.reverse_cons];exact(TrL.rev t).app (TrL.one q)
end
section
variable {K:PySem.W.Frag}{X:Cx}{Hf H:Hp}{Q:VK}{β:Nat->V}{W W':Wo}{c c':Ev}{σ:St}{v:V}
theorem A9x (h:A8x Hf H [d] xs):∃x,xs=[x]/\RdV Hf H d x:=by
 obtain⟨v,r,b,c,a⟩:=h
 cases (a)
 grind
noncomputable def Cw:List PyData->Option O
 | [.list ds]=>some (.im (.int ds.length))
 | [.tuple ds]=>some (.im (.int ds.length))
 | [.str z]=>if z.length<=16000000 then some (.im (.int z.length)) else none
 | _=>none
theorem Ap7:Bl3 K (Q3 K) Cw:=by
 intro Hf H xs ds o Q s d e n;unfold Cw at e
 split at e
 ·obtain⟨x,rfl,r⟩:=A9x d
  obtain⟨a,c,rfl,b,t⟩:=Ig r
  cases e
  refine⟨.ref a,c.length,rfl,A6u b,?_⟩
  rw[<- t.length];exact n.int s
 ·obtain⟨x,rfl,r⟩:=A9x d
  obtain⟨a,c,rfl,b,t⟩:=Hj s r
  cases e
  refine⟨.ref a,c.length,rfl,A3x b,?_⟩
  rw[<- t.length];exact n.int s
 ·rename_i z
  obtain⟨x,rfl,r⟩:=A9x d
  cases Fz r
  split at e
  ·rename_i l
   cases e
   refine⟨.str z,z.length,rfl,?_,n.int s⟩
   show (if z.length<=sizeLine then some _ else none)=_
   rw[if_pos (lim l)]
  trivial
 simp_all
def A5k (K:PySem.W.Frag):List V->Hp->VK->Prop:=λxs H Q=>Q3 K xs H Q\/Ab2 K xs H Q
theorem Az8:zE X (.builtin "len") (A5k X.K):=zE.or Ap2 Z9
def Ed (f:Ev->R PV):Ev->R PV:=λc=>(f c).bind λp c=>match nrm p with
 | .o (.sc ns)=>.ok (.o (.im (.int ns.length))) c
 | p=>match Ep c p with
  | some d=>match Cw [d] with
   | some o=>.ok (.o o) c
   | none=>.bad
  | none=>.bad
theorem Dp (h:ME K t f):ME K (tCB (A5k K) (Cd t Dy)) (Ed f):=by
 intro A W c u Q R s
 refine h.toV A W c u _ R (s.bnd.mono λp w e v r n k g=>?_)
 have m:∀q:PV,RepA K r.Hf u q v->((match Ep w q with
  | some d=>(match Cw [d] with
   | some o=>.ok (.o o) w
   | none=>.bad)
  | none=>.bad:U.R PV)).sat (λp C=>∀v j l,Stp W.S W.Hf W.H (orS j.S l) j.Hf j.H->Rep K A j C u->Fo K j u p v l->Q v j.H)->A5k K [v] r.H Q:=λq g e=>by
  cases ex:Ep w q with
  | none=>simp only[ex]at e;exact e.elim
  | some d =>
   simp only[ex]at e
   cases eo:Cw [d] with
   | none=>simp only[eo]at e;exact e.elim
   | some o =>
    simp only[eo]at e
    exact .inl (Ap7 r.Hf r.H [v] [d] o Q k.sub ⟨v,[],rfl,Gp k g ex,rfl⟩ eo (New.of k λv j l z y x=>e v j l (n.trans z) y x))
 generalize nrm p=q at e g
 match q,g,e with
 | .o (.sc ns),g,e =>
  obtain⟨a,rfl,B⟩:=g;have e:∀v j l,Stp _ _ _ _ _ _->Rep K _ j _ _->Fo K _ _ _ v _->Q v _:=e
  refine .inr ⟨.ref a,ns.length,rfl,?_,(New.of k λv j l z y x=>e v _ _ (n.trans z) y x).int k.sub⟩
  exact .inl ⟨ns.map _,Same.seq k.sub B,by simp_all⟩
 | .o (.im d),g,e=>exact m _ g e
 | .o (.ls b d),g,e=>trivial
 | .o (.ty T),g,e=>trivial
 | .sl i,g,e=>exact m _ g e
inductive Ty5 where
 | int | str | bool | list | tuple
noncomputable def Ty5.nm:Ty5->String
 | .int => "int"
 | .str => "str"
 | .bool => "bool"
 | .list => "list"
 | .tuple => "tuple"
noncomputable def Ck:Ty5->PyData->Bool
 | .int,.int _=>true
 | .int,.bool _=>true
 | .str,.str _=>true
 | .bool,.bool _=>true
 | .list,.list _=>true
 | .tuple,.tuple _=>true
 | _,_=>false
noncomputable def An7:PyData->String
 | .none => "NoneType"
 | .bool _ => "bool"
 | .int _ => "int"
 | .str _ => "str"
 | .list _ => "list"
 | .tuple _ => "tuple"
 | .dict _ => "dict"
theorem Am4 (s:Same Hf H) (h:RdV Hf H d v):Mj H v=some (An7 d):=by
 cases d with
 | none=>cases Xj h;rfl
 | bool b=>cases Rq h;rfl
 | int i=>cases Di h;rfl
 | str x=>cases Fz h;rfl
 | list c=>obtain⟨a,f,rfl,e,_⟩:=Ig h;exact Bf1 e
 | tuple c=>obtain⟨a,f,rfl,e,_⟩:=Hj s h;exact Be6 e
 | dict k=>trivial
theorem Ac5 (h:RdV Hf H d v) (T:Ty5):Dz (An7 d) T.nm=some (Ck T d):=by
 cases d with
 | none=>cases T <;> first | exact Q9 | exact Q8 | exact Pq | exact Qa | exact O2
 | bool b=>cases T <;> first | exact Yn | exact Yv | exact X5 | exact V7 | exact Uv
 | int i=>cases T <;> first | exact Ag3 | exact Af0 | exact Yz | exact Yk | exact Wm
 | str x=>cases T <;> first | exact Ag0 | exact Ae2 | exact Yi | exact Aa4 | exact Wn
 | list a=>cases T <;> first | exact Aa3 | exact Ye | exact Xw | exact Xp | exact Uu
 | tuple a=>cases T <;> first | exact Wj | exact Xu | exact Ux | exact Um | exact Sy
 | dict k=>exact(h).elim
def cUn (op:PyData->Option O)(f:Ev->R PV):Ev->R PV:=λc=>(f c).bind λp c=>match Ep c (nrm p) with
 | some d=>match op d with
  | some o=>.ok (.o o) c
  | none=>.bad
 | none=>.bad
def UnS (K:PySem.W.Frag)(r:V->Hp->VK->Prop)(op:PyData->Option O):Prop:=∀(Hf H:Hp) (x:V) (d:PyData) (o:O) (Q:VK),Same Hf H->RdV Hf H d x->op d=some o->New K Hf H o Q->r x H Q
theorem Rr (h:ME K t f) (hr:UnS K r op):ME K (tUn r t) (cUn op f):=by
 intro u W c m Q R s
 refine h.toV _ W c _ _ R (s.bnd.mono λp j a v w e b k=>?_)
 cases ex:Ep j (nrm p) with
 | none=>simp only[ex]at a;trivial
 | some d =>
  simp only[ex]at a
  cases eo:op d with
  | none=>simp only[eo]at a;trivial
  | some o =>
   simp only[eo]at a
   exact hr _ _ v d o Q b.sub (Gp b k ex) eo (New.of b λv n q i l g=>a v _ _ (e.trans i) l g)
theorem Cj (h:ME K t f) (hr:UnS K (λx H Q=>r [x] H Q) op):ME K (tCB r (Cd t Dy)) (cUn op f):=Rr h hr
def Ax (T:Ty5)(d:PyData):Option O:=some (.im (.bool (Ck T d)))
def Jf (T1 T2:Ty5)(d:PyData):Option O:=some (.im (.bool (Ck T1 d||Ck T2 d)))
theorem Eg (T:Ty5) (h:ME K t f):ME K (tCB (Mm K) (Cd t (Cd (tC (.ty T.nm)) Dy))) (cUn (Ax T) f) :=
 Rr h λa H x d o Q s r e n=>by
  cases e
  exact⟨x,T.nm,An7 d,Ck T d,rfl,Am4 s r,Ac5 r T,n.bl s⟩
theorem A5w (h1:Dz t A=some a) (h2:Dz t B=some b):Ka t [A,B]=some (a||b):=by
 unfold Ka;unfold Ka;unfold Ka
 grind
theorem Ao3 (g j:Ty5) (h:ME K t f):ME K (tCB (Jc K) (Cd t (Cd (Bf7 (Cd (tC (.ty g.nm)) (Cd (tC (.ty j.nm)) Dy))) Dy))) (cUn (Jf g j) f) :=
 Rr (r:=λx H Q=>2<=sizeLine/\∀p,H p=none->Jc K _ _ Q) h λv H x d o Q s r e n=>by
  cases e
  refine⟨by decide,λp c=>⟨x,p,[g.nm,j.nm],An7 d,Ck _ d||Ck _ d,rfl,Av,?_,A5w (Ac5 r _) (Ac5 r _),?_⟩⟩
  ·have l:Same _ (upd H p (.tup [.ty g.nm,.ty j.nm])):=O6 s c
   refine Am4 l ?_
   cases d with
   | list u=>obtain⟨a,m,e,q,t⟩:=r;exact⟨a,m,e,Bt c _ _ q,t⟩
   | none=>exact r
   | bool b=>exact r
   | int i=>exact r
   | str z=>exact r
   | tuple u=>exact r
   | dict k=>exact r
  ·exact n _ _ _ [] ((Stp.newL s c).less λa z=>nomatch z) (O6 s c) ⟨rfl,rfl⟩
noncomputable def boolsOf:List PyData->Option (List Bool)
 | []=>some []
 | .bool b::r=>(boolsOf r).map (b::·)
 | _=>none
theorem Al5:∀{ds:List PyData}{bs:List Bool}{vs:List V},boolsOf ds=some bs->TrL Hf ds vs->vs=bs.map V.bl
 | [],bs,vs,e,t=>by cases (show some []=some bs from e);exact t
 | .bool b::r,bs,_,e,⟨v,vr,rfl,h,t⟩=>by
  obtain⟨l,e1,rfl⟩:=Option.map_eq_some_iff.mp (show (boolsOf r).map (b::·)=some bs from e)
  cases (show v=.bl b from h)
  rw[Al5 e1 t];rfl
 | .none::r,bs,_,e,_=>nomatch e
 | .int _::r,bs,_,e,_=>nomatch e
 | .str _::r,bs,_,e,_=>nomatch e
 | .list _::r,bs,_,e,_=>nomatch e
 | .tuple _::r,bs,_,e,_=>nomatch e
 | .dict _::r,bs,_,e,_=>nomatch e
def Iv:PyData->Option O
 | .list ds=>(boolsOf ds).map λbs=>.im (.bool (bs.all id))
 | _=>none
theorem Kd:UnS K (λx H Q=>Ky K [x] H Q) Iv:=by
 intro Hf H x d o Q s r e n
 match d,r,e with
 | .list _,r,e =>
  obtain⟨c,f,rfl⟩:=Option.map_eq_some_iff.mp (show (boolsOf _).map _=some o from e)
  obtain⟨a,vs,rfl,b,t⟩:=Ig r
  exact⟨a,c,rfl,by rw[<- Al5 f t];exact SqL.of b,n.bl s⟩
noncomputable def Vy:PyData->Option O
 | .int i=>some (.im (.int i))
 | .bool b=>some (.im (.int (if b then 1 else 0)))
 | _=>none
theorem Ak3:UnS K (λx H Q=>K9 K [x] H Q) Vy:=by
 intro a H x d o Q s r e n
 match d,r,e with
 | .int i,r,e=>cases e;cases Di r;exact .inl ⟨i,rfl,n.int s⟩
 | .bool b,r,e=>cases e;cases Rq r;exact .inr ⟨b,rfl,n.int s⟩
noncomputable def Ah7:PyData->Option O
 | .int i=>some (.im (.int (if i<0 then -i else i)))
 | _=>none
theorem Ao1:UnS K (λx H Q=>Ng K [x] H Q) Ah7:=by
 intro a H x d o Q s r e n
 match d,r,e with
 | .int i,r,e=>cases e;cases Di r;exact⟨i,rfl,n.int s⟩
noncomputable def U3:PyData->Option O
 | .int i=>some (.im (.int (-i)))
 | _=>none
theorem A4y:UnS K (rU λi=>.int (-i)) U3:=by
 intro a H x d o Q s r e n
 match d,r,e with
 | .int i,r,e=>cases e;cases Di r;exact⟨i,rfl,n.int s⟩
noncomputable def Ml:PyData->Option O
 | .list ds=>some (.ls false ds)
 | .tuple ds=>some (.ls false ds)
 | _=>none
theorem Sx:UnS K (λx H Q=>Ia K [x] H Q) Ml:=by
 intro Hf H x d o Q s r e n
 match d,r,e with
 | .list _,r,e =>
  cases e
  obtain⟨a,c,rfl,f,t⟩:=Ig r
  exact⟨a,c,rfl,.inl (SqL.of f),λl b=>n.lst s t b⟩
 | .tuple _,r,e =>
  cases e
  obtain⟨a,c,rfl,f,t⟩:=Hj s r
  exact⟨a,c,rfl,.inr (SqT.of f),λl b=>n.lst s t b⟩
noncomputable def Ag7:PyData->PyData->Option O
 | .int i,.int j=>some (.im (.int (if j<i then j else i)))
 | _,_=>none
theorem A6v {c d:TE} (ha:ME K c fa) (hb:ME K d fb):ME K (tCB (K5 K) (Cd c (Cd d Dy))) (cOp Ag7 fa fb) :=
 Aj ha hb λh H x y g f o Q s a b e n=>by
  match g,f,a,b,e with
  | .int i,.int j,a,b,e=>cases e;cases Di a;cases Di b;exact⟨i,j,rfl,n.int s⟩
def MO (K:PySem.W.Frag)(T:TO)(f:Ev->R (Option Int)):Prop:=∀(β:Nat->V) (W:Wo) (c:Ev) (σ:St) (Q:Option Int->Hp->Prop),Rep K β W c σ ->
 (f c).sat (λb c'=>∀W',Stp W.S W.Hf W.H W'.S W'.Hf W'.H->Rep K β W' c' σ->Q b W'.H)->T σ W.H Q
noncomputable def cON:Ev->R (Option Int):=λc=>.ok none c
theorem Wt:MO K An4 cON:=λb W c a Q R s=>s W Stp.refl R
def cOS (f:Ev->R PV):Ev->R (Option Int):=λc=>(f c).bind λp c=>match Ep c (nrm p) with
 | some (.int i)=>.ok (some i) c
 | _=>.bad
theorem Xk (h:ME K t f):MO K (A7j t) (cOS f):=by
 intro g W c k Q R s
 refine h.toV _ W c _ _ R (s.bnd.mono λp l a v j b d e=>?_)
 match ex:Ep _ _,a with
 | some (.int i),a=>exact⟨i,Di (Gp d e ex),a _ b d⟩
 | some .none,a=>exact a.elim
 | some (.bool _),a=>exact a.elim
 | some (.str _),a=>exact a.elim
 | some (.list _),a=>exact a.elim
 | some (.tuple _),a=>exact a.elim
 | some (.dict _),a=>exact a.elim
 | none,a=>exact a.elim
def SlS (K:PySem.W.Frag)(r:V->Option Int->Option Int->Hp->VK->Prop)(op:PyData->Option Int->Option Int->Option O):Prop:=∀(Hf H:Hp) (x:V) (lo hi:Option Int) (d:PyData) (o:O) (Q:VK),Same Hf H->RdV Hf H d x->op d lo hi=some o->New K Hf H o Q->r x lo hi H Q
def cSl (op:PyData->Option Int->Option Int->Option O)(f:Ev->R PV)(fl fh:Ev->R (Option Int)):Ev->R PV:=λc=>(f c).bind λp c=>(fl c).bind λlo c=>(fh c).bind λhi c=>match Ep c (nrm p) with
 | some d=>match op d lo hi with
  | some o=>.ok (.o o) c
  | none=>.bad
 | none=>.bad
theorem A2j (h:ME K j f) (hl:MO K l k) (u:MO K m n) (hr:SlS K r op):ME K (tSl r j l m) (cSl op f k n):=by
 intro P W c G Q R s
 refine h.toV _ W c _ _ R (s.bnd.mono λp I D v N g w x=>?_)
 refine hl _ _ _ _ _ w (D.bnd.mono λz F A J a B=>?_)
 refine u _ _ _ _ _ B (A.bnd.mono λt y b H e i=>?_)
 cases ex:Ep y (nrm p) with
 | none=>simp only[ex]at b;trivial
 | some d =>
  simp only[ex]at b
  cases eo:op d z t with
  | none=>simp only[eo]at b;trivial
  | some o =>
   simp only[eo]at b
   exact hr _ _ v _ _ d o Q i.sub (Gp i (RepA.same (a.trans e).fz x) ex) eo (New.of i λv L M C E q=>b v _ _ (g.trans (a.trans (e.trans C))) E q)
end
section
variable {K:PySem.W.Frag}{X:Cx}{Hf H:Hp}{Q:VK}{β:Nat->V}{W:Wo}{c c':Ev}{σ:St}{v:V}
def rSL (K:PySem.W.Frag):V->Option Int->Option Int->Hp->VK->Prop:=λx lo hi H Q=>(Bg3 K x lo hi H Q\/(Bj6 K x lo hi H Q\/A7i K x lo hi H Q))\/Bj9 x lo hi H Q
theorem Bb1:SlR X (rSL X.K):=SlR.or (SlR.or A6r (SlR.or Ba6 A6o)) Bf3
def Qg:PyData->Option Int->Option Int->Option O
 | .list ds,lo,hi=>some (.ls false (cutD ds lo hi))
 | .tuple ds,lo,hi=>some (.im (.tuple (cutD ds lo hi)))
 | .str z,lo,hi=>if z.length<=16000000 then some (.im (.str (Txt.slice z lo hi))) else none
 | _,_,_=>none
theorem Xg:SlS K (rSL K) Qg:=by
 intro Hf H x f c d o Q s r e n
 match d,r,e with
 | .list ds,r,e =>
  cases e
  obtain⟨a,b,rfl,g,t⟩:=Ig r
  exact .inl (.inl ⟨a,b,rfl,SqL.of g,λp h=>n.lst s (TrL.cut t) h⟩)
 | .str z,r,e =>
  by_cases hz:z.length<=16000000
  ·rw[show Qg (.str z) f c=some (.im (.str (Txt.slice z f c))) by simp only[Qg];rw[if_pos hz]]at e
   cases e
   exact .inr ⟨z,r,Nat.le_trans hz (by decide),n.same s rfl⟩
  ·rw[show Qg (.str z) f c=none by simp only[Qg];rw[if_neg hz]]at e;cases e
 | .tuple ds,r,e =>
  cases e
  obtain⟨a,b,rfl,g,t⟩:=Hj s r
  by_cases w:HT.sIx b.length 0 f=0/\HT.sIx b.length b.length c=b.length
  ·refine .inl (.inr (.inr ⟨a,b,rfl,SqT.of g,w,?_⟩))
   have e:cutD ds f c=ds:=by
    unfold cutD;rw[t.length,w.1,w.2,List.drop_zero,Nat.sub_zero,<- t.length,List.take_length]
   rw[e]at n;exact n.same s r
  ·exact .inl (.inr (.inl ⟨a,b,rfl,SqT.of g,w,λp h=>n.tup s (TrL.cut t) h⟩))
noncomputable def Az3:PyData->Option O
 | .tuple ds=>some (.im (.tuple ds.reverse))
 | _=>none
theorem A9y {t:TE}{ts:TO}{f:Ev->R PV}(h:ME K t f)(hs:∀g H Q,Q (some (-1)) H->ts g H Q):ME K (A9o K t ts) (cUn Az3 f):=by
 intro β W c g Q R s
 refine (Rr (r:=λx H Q=>ts _ H λo b=>o=some _/\∃a xs,x=.ref a/\SqT K b a xs/\∀p,b p=none->Q (.ref p) (upd b p (.tup xs.reverse))) h λHf H x d o Q s r e n=>hs _ _ _ ⟨rfl,?_⟩) _ W c _ Q R s
 match d,r,e with
 | .tuple _,r,e =>
  cases e
  obtain⟨a,i,rfl,j,t⟩:=Hj s r
  exact⟨a,i,rfl,SqT.of j,λp k=>n.tup s (TrL.rev t) k⟩
def Bb (f:Ev->R PV):Ev->R Bool:=λc=>(f c).bind λp c=>match Ep c (nrm p) with
 | some (.bool b)=>.ok b c
 | _=>.bad
theorem Bq (h:ME K t f):MT K (Np t) (Bb f):=by
 intro g W c k Q R s
 refine h.toV _ W c _ _ R (s.bnd.mono λp l a v j b d e=>?_)
 match ex:Ep _ _,a with
 | some (.bool i),a=>exact⟨i,Rq (Gp d e ex),a _ b d⟩
 | some .none,a=>exact a.elim
 | some (.int _),a=>exact a.elim
 | some (.str _),a=>exact a.elim
 | some (.list _),a=>exact a.elim
 | some (.tuple _),a=>exact a.elim
 | some (.dict _),a=>exact a.elim
 | none,a=>exact a.elim
theorem Km (h:ME K t f):MT K (tB t) (Bb f):=Bq h
noncomputable def Bp:Ev->R Bool:=λc=>.ok true c
theorem Gk:MT K A6b Bp:=λb W c a Q R s=>s W Stp.refl R
def Y9 (f g:Ev->R Bool):Ev->R Bool:=λc=>(f c).bind λb c=>if b=true then g c else .ok false c
def cOr (f g:Ev->R Bool):Ev->R Bool:=λc=>(f c).bind λb c=>if b=true then .ok true c else g c
def Le (f:Ev->R Bool):Ev->R Bool:=λc=>(f c).bind λb c=>.ok (!b) c
theorem Ay6 (h1:MT K t f) (h2:MT K u g):MT K (Bm0 t u) (Y9 f g):=λn W c p Q R s =>
 h1 _ W c _ _ R (s.bnd.mono λb l h k a e=>by
  cases b with
  | true=>exact h2 _ _ _ _ _ e (h.mono λb m j o d i=>j _ (a.trans d) i)
  | false=>exact h _ a e)
theorem La (h1:MT K t f) (h2:MT K u g):MT K (tOr t u) (cOr f g):=λn W c p Q R s =>
 h1 _ W c _ _ R (s.bnd.mono λb l h k a e=>by
  cases b with
  | false=>exact h2 _ _ _ _ _ e (h.mono λb m j o d i=>j _ (a.trans d) i)
  | true=>exact h _ a e)
theorem G8 (h1:MT K t f):MT K (Bh6 t) (Le f):=λh W c g Q R s =>
 h1 _ W c _ _ R (s.bnd.mono λb j e i a d=>e _ a d)
theorem Wc {d:Wo}(R:Rep K β W c σ) (st:Stp d.S d.Hf d.H W.S W.Hf W.H) (s:∀v a e,Stp d.S d.Hf d.H (orS a.S e) a.Hf a.H->Rep K β a c σ->Fo K a σ (.o (.im (.bool b))) v e->Q v a.H):Q (.bl b) W.H :=
 R.here (o:=.im (.bool b)) rfl rfl λv a e f g r=>s v _ _ (st.trans f) g r
def N8 (f g:Ev->R PV):Ev->R PV:=λc=>(Bb f c).bind λb c=>if b=true then g c else .ok (.o (.im (.bool false))) c
def A9m (f g:Ev->R PV):Ev->R PV:=λc=>(Bb f c).bind λb c=>if b=true then .ok (.o (.im (.bool true))) c else g c
def A2e (f:Ev->R PV):Ev->R PV:=λc=>(Bb f c).bind λb c=>.ok (.o (.im (.bool (!b)))) c
theorem Yr {r:U.R PV}{b:Wo}(s:r.sat λp c'=>∀v a d,Stp b.S b.Hf b.H (orS a.S d) a.Hf a.H->Rep K β a c' σ->Fo K a σ p v d->Q v a.H)(st:Stp b.S b.Hf b.H W.S W.Hf W.H) :
 r.sat λp c'=>∀v a d,Stp W.S W.Hf W.H (orS a.S d) a.Hf a.H->Rep K β a c' σ->Fo K a σ p v d->Q v a.H:=s.mono λp c k v a d e R r=>k v _ _ (st.trans e) R r
theorem Lk (h1:ME K h f) (h2:ME K e g):ME K (A7r h e) (N8 f g):=by
 intro k W c j Q R s
 refine Bq h1 _ W c _ _ R (s.bnd.mono λb m i l a d=>?_)
 cases b with
 | true=>exact h2 _ _ _ _ _ d (Yr i a)
 | false=>exact Wc d a i
theorem Be0 {h e:TE}{f g:Ev->R PV}(h1:ME K h f)(h2:ME K e g):ME K (Bl7 h e) (A9m f g):=by
 intro k W c j Q R s
 refine Bq h1 _ W c _ _ R (s.bnd.mono λb m i l a d=>?_)
 cases b with
 | false=>exact h2 _ _ _ _ _ d (Yr i a)
 | true=>exact Wc d a i
theorem A6a (h1:ME K d f):ME K (A7o d) (A2e f):=by
 intro k W c h Q R s
 exact Bq h1 _ W c _ _ R (s.bnd.mono λb i g j a e=>Wc e a g)
def Bw (f:Ev->R PV):Ev->R (List PyData):=λc=>(f c).bind λp c=>(frz (nrm p) c).bind λd c=>match d with
 | .list ds=>.ok ds c
 | .tuple ds=>.ok ds c
 | _=>.bad
theorem A4c (ha:Hf a=some (.lst vs)) (t:TrL Hf ds vs):Ah2 (Itl K a) Hf ds:=by
 intro i c H f g;have b:=g _ _ (f _ _ ha)
 refine⟨λe=>⟨vs,SqL.of b,by rw[<- t.length];omega⟩,λd j=>?_⟩
 obtain⟨v,h,k⟩:=t.got j
 refine⟨⟨vs,v,SqL.of b,h⟩,λx l ⟨e,q⟩=>?_⟩
 subst e;have:=q _ (SqL.of b);rw[h]at this
 cases this
 exact⟨c,Stp.refl,g,Tr.same f k⟩
theorem Be1 (ha:Hf a=some (.tup vs)) (t:TrL Hf ds vs):Ah2 (Itt K a) Hf ds:=by
 intro i c H f g;have b:=g _ _ (f _ _ ha)
 refine⟨λe=>⟨vs,SqT.of b,by rw[<- t.length];omega⟩,λd j=>?_⟩
 obtain⟨v,h,k⟩:=t.got j
 refine⟨⟨vs,v,SqT.of b,h⟩,λx l ⟨e,q⟩=>?_⟩
 subst e;have:=q _ (SqT.of b);rw[h]at this
 cases this
 exact⟨c,Stp.refl,g,Tr.same f k⟩
theorem Gq (h:ME K t f):MI K (W7 K t) (Bw f):=by
 intro w W c B k R s
 refine h.toV _ W c _ _ R (s.bnd.mono λp A r v x l u q=>?_)
 obtain⟨d,y,z,_,b,o,i,m,e⟩:=Il u q r.bnd;rw[<- o]
 match d,e,b with
 | .list _,e,b =>
  obtain⟨a,n,g,j,t⟩:=e;exact⟨a,g,.inl ⟨n,m.sub _ _ j,b _ _ (l.trans i) m (A4c j t)⟩⟩
 | .tuple _,e,b =>
  obtain⟨a,n,g,j,t⟩:=e;exact⟨a,g,.inr ⟨n,m.sub _ _ j,b _ _ (l.trans i) m (Be1 j t)⟩⟩
 | .none,e,b=>exact b.elim
 | .bool _,e,b=>exact b.elim
 | .int _,e,b=>exact b.elim
 | .str _,e,b=>exact b.elim
 | .dict _,e,b=>trivial
noncomputable def Ju (lo:Int) (n:Nat):List PyData:=(List.range n).map λk=>.int (lo+(k:Nat))
theorem Bc8 : Ah2 (Itr lo n) Hf (Ju lo n):=by
 intro i b H g f
 have l:(Ju lo n).length=n:=by unfold Ju;simp_all
 refine⟨λe=>by show n<=i;omega,λd a=>?_⟩
 have c:i<n:=by
  grind
 refine⟨c,λx h ⟨e,q⟩=>?_⟩
 subst e;unfold Ju at a;rw[List.getElem?_map,List.getElem?_range c]at a
 cases a
 exact⟨b,Stp.refl,f,q⟩
def Mg (f:Ev->R PV):Ev->R (List PyData):=λc=>(f c).bind λp c=>match Ep c (nrm p) with
 | some (.int j)=>if j<=16000000/\-16000000<=j then .ok (Ju 0 j.toNat) c else .bad
 | _=>.bad
theorem Lx (h:ME K t f):MI K (A7t (Cd t Dy)) (Mg f):=by
 intro g W c m k R s
 refine h.toV _ W c _ _ R (s.bnd.mono λp n a v i b d e=>?_)
 match ex:Ep _ _,a with
 | some (.int j),a =>
  cases Di (Gp d e ex)
  by_cases l:j<=16000000/\-16000000<=j
  ·have a:(if j<=16000000/\-16000000<=j then U.R.ok _ _ else .bad).sat _:=a
   rw[if_pos l]at a
   exact⟨j,rfl,by omega,by omega,a _ _ b d Bc8⟩
  ·have a:(if j<=16000000/\-16000000<=j then U.R.ok _ _ else .bad).sat _:=a
   rw[if_neg l]at a;trivial
 | some .none,a=>exact a.elim
 | some (.bool _),a=>exact a.elim
 | some (.str _),a=>exact a.elim
 | some (.list _),a=>exact a.elim
 | some (.tuple _),a=>exact a.elim
 | some (.dict _),a=>exact a.elim
 | none,a=>exact a.elim
noncomputable def Ww (d:Option PyData):Option Int:=match d with
 | some (.int i)=>some i
 | _=>none
theorem Wk (h:Ww d=some i):d=some (.int i):=by
 unfold Ww at h
 grind
noncomputable def Mf:PyData->Option (List PyData)
 | .list ds=>some ds
 | .tuple ds=>some ds
 | _=>none
theorem Ab7 (h:Mf d=some ds) (t:Tr Hf d v):∃b a c,v=.ref a/\SqK b Hf a c/\TrL Hf ds c:=by
 cases d with
 | list l=>cases h;obtain⟨a,c,e,f,t⟩:=t;exact⟨false,a,c,e,f,t⟩
 | tuple l=>cases h;obtain⟨a,c,e,f,t⟩:=t;exact⟨true,a,c,e,f,t⟩
 | none=>cases h
 | bool _=>cases h
 | int _=>cases h
 | str _=>cases h
 | dict _=>cases h
theorem Ib {c:Hp}(S:Same Hf c) (h:SqK b Hf a vs):SqK b c a vs:=by
 cases b
 ·exact S _ _ h
 ·exact S _ _ h
noncomputable def Nk (xs ys:List PyData):List PyData:=(xs.zip ys).map λp=>.tuple [p.1,p.2]
theorem Bb5 (ha:SqK t1 Hf a vs) (hb:SqK t2 Hf b us) (t:TrL Hf xs vs) (u:TrL Hf ys us):Ah2 (Itz t1 t2 a b) Hf (Nk xs ys):=by
 intro i B H j f;have m:=Ib (j.trans f) ha;have k:=Ib (j.trans f) hb
 have l:(Nk xs ys).length=min xs.length ys.length:=by unfold Nk;simp_all
 refine⟨λe=>⟨vs,us,m,k,by rw[<- t.length,<- u.length,e];omega⟩,λd x=>?_⟩
 obtain⟨p,n,e⟩:=K4 x;rw[List.getElem?_zip_eq_some]at n;obtain⟨h,r,v⟩:=t.got n.1;obtain⟨c,s,w⟩:=u.got n.2
 refine⟨⟨vs,us,h,c,m,k,r,s⟩,λz H' y=>?_⟩
 obtain⟨p,x',y',rfl,g,rfl,A,C⟩:=y;have:=A _ m;rw[r]at this;cases this;have:=C _ k;rw[s]at this;cases this;subst e;have q:=Bt (o:=.tup [h,c]) (Same.free f g);exact⟨upd _ p _,Stp.newF f g,Wi f,p,[h,c],rfl,Av,h,[c],rfl,Tr.same q (Tr.same j v),c,[],rfl,Tr.same q (Tr.same j w),rfl⟩
def Aq3 (f g:Ev->R PV):Ev->R (List PyData):=λc=>(f c).bind λp c=>(g c).bind λq c=>(frz (nrm p) c).bind λx c=>(frz (nrm q) c).bind λy c=>match Mf x,Mf y with
 | some xs,some ys=>.ok (Nk xs ys) c
 | _,_=>.bad
theorem A9z (h:ME K t f) (h':ME K u g):MI K (Bi2 (Cd t (Cd u Dy))) (Aq3 f g):=by
 intro β W c σ k R s
 refine h.toV _ W c _ _ R (s.bnd.mono λp c1 G v1 W1 l P v=>?_)
 refine h'.toV _ _ _ _ _ P (G.bnd.mono λq c2 w v2 W2 i A B=>?_)
 obtain⟨x,c3,W3,_,C,D,e,E,F⟩:=Il A (RepA.same i.fz v) w.bnd;obtain⟨y,c4,W4,_,j,r,d,m,I⟩:=Il E (RepA.same e.fz B) C.bnd
 cases ex:Mf x with
 | none=>simp only[ex]at j;trivial
 | some xs =>
  cases ey:Mf y with
  | none=>simp only[ex,ey]at j;trivial
  | some ys =>
   simp only[ex,ey]at j;obtain⟨J,a,L,rfl,H,N⟩:=Ab7 ex F;obtain⟨M,b,O,rfl,n,o⟩:=Ab7 ey I;rw[<- D,<- r];have z:=Ib d.fz H;exact⟨a,b,rfl,J,M,L,O,Ib m.sub z,Ib m.sub n,j _ _ (l.trans (i.trans (e.trans d))) m (Bb5 z n (TrL.same d.fz N) o)⟩
noncomputable def Fw (xs:List PyData):List PyData:=(List.range xs.length).map λk=>.tuple [.int (k:Nat),xs.getD k .none]
theorem A5u (ha:SqK t Hf a vs) (u:TrL Hf xs vs):Ah2 (Ite t a) Hf (Fw xs):=by
 intro i v H j f;have h:=Ib (j.trans f) ha
 have l:(Fw xs).length=xs.length:=by unfold Fw;simp_all
 refine⟨λe=>⟨vs,h,by rw[<- u.length];omega⟩,λd g=>?_⟩
 have n:i<xs.length:=by
  grind
 unfold Fw at g;rw[List.getElem?_map,List.getElem?_range n]at g
 cases g
 have q:xs[i]?=some (xs.getD i .none):=by grind
 obtain⟨b,k,r⟩:=u.got q
 refine⟨⟨vs,b,h,k⟩,λz H' s=>?_⟩
 obtain⟨p,x',rfl,c,rfl,m⟩:=s;have:=m _ h;rw[k]at this;cases this;exact⟨upd _ p _,Stp.newF f c,Wi f,p,[.int i,b],rfl,Av,.int i,[b],rfl,rfl,b,[],rfl,Tr.same (Bt (o:=.tup [.int i,b]) (Same.free f c)) (Tr.same j r),rfl⟩
def Oi (f:Ev->R PV):Ev->R (List PyData):=λc=>(f c).bind λp c=>(frz (nrm p) c).bind λx c=>match Mf x with
 | some xs=>.ok (Fw xs) c
 | _=>.bad
theorem Am1 (h:ME K t f):MI K (A7x (Cd t Dy)) (Oi f):=by
 intro β W c σ k R s
 refine h.toV _ W c _ _ R (s.bnd.mono λp c1 u v1 W1 e n q=>?_)
 obtain⟨x,c3,W3,_,b,l,d,g,o⟩:=Il n q u.bnd
 cases ex:Mf x with
 | none=>simp only[ex]at b;trivial
 | some xs =>
  simp only[ex]at b;obtain⟨m,a,r,rfl,i,j⟩:=Ab7 ex o;rw[<- l];exact⟨a,rfl,m,r,Ib g.sub i,b _ _ (e.trans d) g (A5u i j)⟩
noncomputable def Au8 (x:Str):List PyData:=x.cps.toList.map λc=>.str ⟨#[c]⟩
def Ym (f:Ev->R PV):Ev->R (List PyData):=λc=>(f c).bind λp c=>match Ep c (nrm p) with
 | some (.str x)=>.ok (Au8 x) c
 | _=>.bad
theorem Bc1 {x:Str}:Ah2 (Its x) Hf (Au8 x):=by
 intro i b H s1 g
 have l:(Au8 x).length=x.cps.size:=by unfold Au8;simp_all
 refine⟨λe=>by show i=x.cps.size;omega,λd h=>?_⟩
 obtain⟨c,f,e⟩:=K4 h;rw[Array.getElem?_toList]at f
 have k:i<x.cps.size:=by
  grind
 refine⟨k,λz H' j=>?_⟩
 obtain⟨rfl,c',a,rfl⟩:=j;rw[f]at a;cases a;subst e;exact⟨b,Stp.refl,g,rfl⟩
theorem A3c {t:TE}{f:Ev->R PV}(h:ME K t f):MI K (Bk5 t) (Ym f):=by
 intro g W c j k R s
 refine h.toV _ W c _ _ R (s.bnd.mono λp l a v i b d e=>?_)
 match ex:Ep _ _,a with
 | some (.str x),a=>exact⟨x,Fz (Gp d e ex),a _ _ b d Bc1⟩
 | some (.int _),a=>exact a.elim
 | some .none,a=>exact a.elim
 | some (.bool _),a=>exact a.elim
 | some (.list _),a=>exact a.elim
 | some (.tuple _),a=>exact a.elim
 | some (.dict _),a=>exact a.elim
 | none,a=>exact a.elim
end
section
variable {K:PySem.W.Frag}{X:Cx}{Hf H:Hp}{Q:VK}{β:Nat->V}{W W':Wo}{c:Ev}{σ:St}{v:V}{p:PV}{fp:List Addr}{i:Nat}{b:Bool}{ds:List PyData}
theorem A9r (R:Rep K β W c σ)(r:Fo K W σ p v fp):∃W',W'.H=W.H/\Stp (orS W.S fp) W.Hf W.H W'.S W'.Hf W'.H/\Rep K β W' c σ/\RepA K W'.Hf σ (nrm p) v:=by
 have f:Stp (orS W.S fp) W.Hf W.H _ _ _:=Stp.refl.up λa z=>.inl z
 cases p with
 | sl i=>exact⟨W,rfl,f,R,r.2⟩
 | o o =>
  cases o with
  | im d=>exact⟨W,rfl,f,R,r.1.2⟩
  | sc d=>exact⟨W,rfl,f,R,r.1.2⟩
  | ty d=>exact⟨W,rfl,f,R,r.1.2⟩
  | ls b ds =>
   obtain⟨⟨a,h,rfl,rfl,g,j,t⟩,l⟩:=r
   refine⟨⟨upd _ a _,W.H,W.fps⟩,rfl,⟨Bt g,λb o e _=>e,λb o e mu n q=>?_,λb z=>.inl (.inl z)⟩,X6 R g j (l a (.head _)),a,h,rfl,Av,TrL.same (Bt g) t⟩
   have k:b≠a:=λz=>n (.inr (by grind))
   show upd _ a _ b=none
   rw[Ah k];grind
theorem Rep.mut (R:Rep K β W c σ)(hc:c[i]?=some (some (.ls b ds)))(hv:σ[i]?=some (some v)):∃a h,v=.ref a/\W.H a=some (.lst h)/\TrL W.Hf ds h /\
 ∀f d,TrL W.Hf f d->Rep K β ⟨W.Hf,upd W.H a (.lst d),W.fps⟩ (c.set i (some (.ls b f))) σ/\Stp W.S W.Hf W.H W.S W.Hf (upd W.H a (.lst d)):=by
 obtain⟨m,p,⟨a,h,rfl,w,A,H,t⟩,B⟩:=R.get i _ hc
 cases (show some _=some _ from p.symm.trans hv)
 have D:i<c.length:=by
  grind
 have s:a∈W.fps i:=by rw[w];exact .head _
 refine⟨a,h,rfl,H,t,λf d F=>⟨⟨λb u e=>?_,by rw[List.length_set];exact R.len,λj o e=>?_,R.dis,λj x g=>?_⟩,⟨Same.refl _,λx o e n=>?_,λx o e r n q=>q,λx z=>.inl z⟩⟩⟩
 ·have E:b≠a:=λz=>by rw[z,A]at e;cases e
  show upd _ a _ b=_
  rw[Ah E];exact R.sub b u e
 ·by_cases z:j=i
  ·subst z
   rw[List.getElem?_set_self D]at e
   cases e
   exact⟨.ref a,p,⟨a,d,rfl,w,A,Av,F⟩,B⟩
  ·rw[List.getElem?_set_ne λy=>z y.symm]at e
   obtain⟨m,k,G,l⟩:=R.get j o e
   refine⟨m,k,G.mono (Same.refl _) λx g=>⟨(R.own j x g).1,?_⟩,l⟩
   show upd _ a _ x=_
   rw[Ah];intro q;rw[q]at g;exact z (R.dis j i a g s)
 ·obtain⟨I,o,C,r⟩:=R.own j x g
  refine⟨I,?_⟩
  by_cases z:x=a
  ·exact⟨.lst _,by rw[z];exact Av,trivial⟩
  ·exact⟨o,by show upd _ a _ x=_;rw[Ah z];exact C,r⟩
 ·rw[Ah]
  ·exact e
  ·intro z;exact n ⟨i,by rw[z];exact s⟩
noncomputable def slL (c:Ev) (p:PV):Option (Nat×Bool×List PyData):=match p with
 | .sl i=>match c[i]? with
  | some (some (.ls b ds))=>some (i,b,ds)
  | _=>none
 | _=>none
theorem Wx (h:slL c p=some x):p=.sl x.1/\c[x.1]?=some (some (.ls x.2.1 x.2.2)):=by
 unfold slL at h
 grind
def Au3 (fo fe:Ev->R PV):Ev->R PV:=λc=>(fo c).bind λp c=>if (slL c (nrm p)).isSome=true then (fe c).bind λq c=>(frz (nrm q) c).bind λd c=>match slL c (nrm p) with
 | some (i,b,ds)=>if ds.length<16000000 then .ok (.o (.im .none)) (c.set i (some (.ls b (ds++[d])))) else .bad
 | none=>.bad
 else .bad
theorem A2s {b:Wo}(R:Rep K β W c σ)(st:Stp b.S b.Hf b.H W.S W.Hf W.H)(s:∀v a d,Stp b.S b.Hf b.H (orS a.S d) a.Hf a.H->Rep K β a c σ->Fo K a σ (.o (.im .none)) v d->Q v a.H):Q .non W.H :=
 R.here (o:=.im .none) rfl rfl λv a d e f r=>s v _ _ (st.trans e) f r
theorem ty_list (R:Rep K β W c σ)(h:(slL c p).isSome=true)(r:RepA K W.Hf σ p v):tyV K "list" v W.H:=by
 obtain⟨x,d⟩:=Option.isSome_iff_exists.mp h;obtain⟨rfl,e⟩:=Wx d;obtain⟨a,f,rfl,b,_⟩:=R.mut e r;exact .inl ⟨rfl,f,SqL.of b⟩
theorem A0z {v fe:Ev->R PV}(ho:ME K u v) (he:ME K o fe):ME K (tBM K "list" rAppF u (Cd o Dy)) (Au3 v fe):=by
 intro β W c σ Q R s
 refine ho.toV _ W c _ _ R (s.bnd.mono λp y f v1 W1 h r j=>?_)
 by_cases hs:(slL y (nrm p)).isSome=true
 ·rw[if_pos hs]at f
  refine⟨ty_list r hs j,he.toV _ _ _ _ _ r (f.bnd.mono λq c2 D H W2 m z w=>?_)⟩
  obtain⟨d,A,W3,_,e,C,n,E,F⟩:=Il z w D.bnd
  cases ex:slL A (nrm p) with
  | none=>simp only[ex]at e;exact e.elim
  | some x =>
   simp only[ex]at e;obtain⟨i,b,G⟩:=x;obtain⟨B,I⟩:=Wx ex;rw[B]at j;obtain⟨a,J,rfl,L,t,k⟩:=E.mut I j
   by_cases l:G.length<16000000
   ·rw[if_pos l]at e
    obtain⟨M,g⟩:=k _ _ (t.app (TrL.one F));rw[<- C]
    refine⟨a,H,J,rfl,rfl,L,by rw[<- t.length];exact Nat.lt_trans l (by decide),?_⟩
    exact A2s M (h.trans (m.trans (n.trans g))) e
   ·rw[if_neg l]at e;exact e.elim
 ·rw[if_neg hs]at f;exact f.elim
def Mq (fo fe:Ev->R PV):Ev->R PV:=λc=>(fo c).bind λp c=>if (slL c (nrm p)).isSome=true then (fe c).bind λq c=>match slL c (nrm p),Ww (Ep c (nrm q)) with
 | some (i,b,ds),some k=>if ds.length<=16000000 then match ixN ds.length k with
  | some j=>match ds[j]? with
   | some d=>.ok (.o (.im d)) (c.set i (some (.ls b (ds.eraseIdx j))))
   | none=>.bad
  | none=>.bad
  else .bad
 | _,_=>.bad
 else .bad
theorem TrL.erase:∀{ds:List PyData}{vs:List V}(n:Nat),TrL Hf ds vs->TrL Hf (ds.eraseIdx n) (vs.eraseIdx n)
 | [],_,n,h=>by cases (show _=[] from h);exact rfl
 | d::ds,_,0,⟨v,r,rfl,_,t⟩=>t
 | d::ds,_,n+1,⟨v,r,rfl,q,t⟩=>⟨v,r.eraseIdx n,rfl,q,TrL.erase n t⟩
theorem TrL.setAt:∀{ds:List PyData}{vs:List V}(n:Nat) {d:PyData}{v:V},TrL Hf ds vs->Tr Hf d v->TrL Hf (ds.set n d) (vs.set n v)
 | [],_,n,d,v,h,_=>by cases (show _=[] from h);exact rfl
 | e::ds,_,0,d,v,⟨u,r,rfl,_,t⟩,q=>⟨v,r,rfl,q,t⟩
 | e::ds,_,n+1,d,v,⟨u,r,rfl,h,t⟩,q=>⟨u,r.set n v,rfl,h,TrL.setAt n t q⟩
theorem Zd (ho:ME K z G) (he:ME K F fe):ME K (tBM K "list" rPopAt z (Cd F Dy)) (Mq G fe):=by
 intro B W c H Q R s
 refine ho.toV B W c H _ R (s.bnd.mono λp O g v1 W1 n A w=>?_)
 by_cases hs:(slL O (nrm p)).isSome=true
 ·rw[if_pos hs]at g
  refine⟨ty_list A hs w,he.toV B _ _ _ _ A (g.bnd.mono λq D e v2 W2 h E I=>?_)⟩
  cases ex:slL D (nrm p) with
  | none=>simp only[ex]at e;exact e.elim
  | some x =>
   obtain⟨i,b,l⟩:=x
   cases ey:Ww (Ep D (nrm q)) with
   | none=>simp only[ex,ey]at e;exact e.elim
   | some k =>
    simp only[ex,ey]at e
    by_cases hl:l.length<=16000000
    case neg=>rw[if_neg hl]at e;exact e.elim
    rw[if_pos hl]at e
    cases ej:ixN l.length k with
    | none=>simp only[ej]at e;exact e.elim
    | some j =>
     simp only[ej]at e
     cases ed:l[j]? with
     | none=>simp only[ed]at e;exact e.elim
     | some d =>
      simp only[ed]at e;obtain⟨L,N⟩:=Wx ex;rw[L]at w
      cases Di (Gp E I (Wk ey))
      obtain⟨a,C,rfl,P,t,S⟩:=E.mut N w;obtain⟨y,M,U⟩:=t.got ed;obtain⟨T,q2,q3,q4⟩:=Xx ej;obtain⟨V,m⟩:=S _ _ (TrL.erase j t)
      have u:seqIndex? k C.length=some j:=by rw[<- t.length];exact T
      have f:-2 ^ 63<=k/\k<2 ^ 63:=by omega
      refine⟨a,C,k,j,y,rfl,rfl,P,f.1,f.2,u,M,?_⟩
      exact V.here (o:=.im d) U rfl λv W' fp X J r=>e v _ _ (n.trans (h.trans (m.trans X))) J r
 ·rw[if_neg hs]at g;exact g.elim
def Ak6 (fo fi:Ev->R PV):PV->Ev->R Unit:=λp c=>(frz (nrm p) c).bind λd c=>(fo c).bind λo c=>(fi c).bind λq c=>match slL c (nrm o),Ww (Ep c (nrm q)) with
 | some (i,b,ds),some k=>match ixN ds.length k with
  | some j=>.ok () (c.set i (some (.ls b (ds.set j d))))
  | none=>.bad
 | _,_=>.bad
theorem A1r (ho:ME K u A) (hi:ME K z fi):MG K (Bk8 u z A8b) (Ak6 A fi):=by
 intro β W c σ p v fp k R r s;obtain⟨W0,M,l,C,F⟩:=A9r R r;obtain⟨d,c1,W1,_,D,E,n,G,I⟩:=Il C F s.bnd;rw[<- M,<- E]
 refine ho.toV _ _ _ _ _ G (D.bnd.mono λo c2 J v2 W2 g L w=>?_)
 refine hi.toV _ _ _ _ _ L (J.bnd.mono λq y e v3 W3 f B N=>?_)
 cases ex:slL y (nrm o) with
 | none=>simp only[ex]at e;exact e.elim
 | some x =>
  obtain⟨i,b,O⟩:=x
  cases ey:Ww (Ep y (nrm q)) with
  | none=>simp only[ex,ey]at e;exact e.elim
  | some m =>
   simp only[ex,ey]at e
   cases ej:ixN O.length m with
   | none=>simp only[ej]at e;exact e.elim
   | some j =>
    simp only[ej]at e;obtain⟨H,Q⟩:=Wx ex;rw[H]at w
    cases Di (Gp B N (Wk ey))
    obtain⟨a,S,rfl,P,t,T⟩:=B.mut Q w;obtain⟨U,h⟩:=T _ _ (TrL.setAt j t (Tr.same (g.trans f).fz I))
    refine⟨a,S,m,j,rfl,rfl,P,by rw[<- t.length];exact ej,?_⟩
    exact e _ _ (l.trans (n.trans (g.trans (f.trans h)))) U
end
end U
set_option autoImplicit true
namespace L2
open PySem U
theorem Gm (ha:QE X a ta)(hb:QE X b tb):QE X (.BinOp a .Add b pos) (tOp Be2 ta tb):=⟨Tw Ba7 ha.get hb.get⟩
theorem Nm (hu:X.A.units+64<cLine)(ha:QE X a ta)(hb:QE X b tb):QE X (.Compare a [.Eq] [b] pos) (tOp rEQ ta tb):=⟨Ln (A7c hu) ha.get hb.get (Ji _)⟩
theorem Qz (hu:X.A.units+64<cLine)(ha:QE X a ta)(hb:QE X b tb):QT X (.Compare a [.Eq] [b] pos) (Np (tOp rEQ ta tb)):=⟨Kg (A7c hu) ha.get hb.get (Ji _)⟩
theorem Bi5 (hu:X.A.units+64<cLine)(ha:QE X a ta)(hb:QE X b tb):QE X (.Compare a [.NotEq] [b] pos) (tOp rNE ta tb):=⟨Ln (A8c hu) ha.get hb.get (Ji _)⟩
theorem Qy (hu:X.A.units+64<cLine)(ha:QE X a ta)(hb:QE X b tb):QT X (.Compare a [.NotEq] [b] pos) (Np (tOp rNE ta tb)):=⟨Kg (A8c hu) ha.get hb.get (Ji _)⟩
theorem A7e (ha:QE X a ta)(hb:QE X b tb):QE X (.Compare a [.LtE] [b] pos) (tOp rLE ta tb):=⟨Ln Bh7 ha.get hb.get (Ji _)⟩
theorem Bg5 (hu:X.A.units+64<cLine)(ha:QE X a ta)(hb:QE X b tb)(hm:behindInMarks .In b=false):QE X (.Compare a [.In] [b] pos) (tOp rIN ta tb):=⟨Ln (A7p hu) ha.get hb.get hm⟩
theorem A7l (hu:X.A.units+64<cLine)(ha:QE X a ta)(hb:QE X b tb)(hm:behindInMarks .In b=false):QT X (.Compare a [.In] [b] pos) (Np (tOp rIN ta tb)):=⟨Kg (A7p hu) ha.get hb.get hm⟩
theorem Do (a:X.K=Kq) (hgl:Gl X "len") (hm:X.mg "len" = none) (ha:QA X (e::es) t) (hns:noStar (e::es)=true:=by rfl):QE X (.Call (.Name "len" p) (e::es) [] pos) (tCB (A5k Kq) t):=by
 subst a
 exact⟨Gy Az8 hgl hm A1w ha.get (by decide) (by rfl) hns⟩
theorem Ax9 (a:X.K=Kq) (he:QE X e te) (hl:QO X low tl) (hu:QO X hi th):QE X (.Subscript e (.Slice low hi none p2) pos) (tSl (rSL Kq) te tl th):=by
 subst a;exact A0p Bb1 he hl hu
end L2
namespace U
open PySem L2
def Def (P:Program)(w:World)(K:PySem.W.Frag)(mg:Str->Option Value)(base:Heap)(x:Str)(k:Nat)(ps:List Str)(sp:Sp):Prop :=
 ∃(f:Addr) (fd:FuncData),FnOk P w K mg base CX0 k f fd ps sp/\Binds K fd ps []/\PySem.W.keepIn K (.ref f)=true/\mg x=some (.ref f)
def Ak2 (K:PySem.W.Frag):Sp:=λvs H Q _=>∃(a:Addr) (ns:List Int),vs=[.ref a]/\SqL K H a (ns.map V.int)/\ns.length<=63/\∀H',Q (.bl true) H'
theorem A8k (f:∀b:List Int,b.length<=63->F [.sc b]=.ret (.im (.bool true)) [.sc b]) (h:Ak2 K vs H Q E):spP K F vs H Q E:=by
 obtain⟨a,b,rfl,c,d,q⟩:=h
 refine⟨λ_=>.non,⟨H,H,λ_=>[]⟩,[.sc b],rfl,rfl,⟨Same.refl _,rfl,λi o e=>?_,λi j a h=>by grind,λi a h=>by grind⟩,?_⟩
 ·cases i with
  | zero =>
   cases (show some _=some _ from e)
   exact⟨.ref a,rfl,⟨rfl,a,rfl,c⟩,λz=>nomatch z⟩
  | succ i=>grind
 ·rw[f _ d]
  intro v W' fp st R r n
  cases (show v=.bl _ from r.2)
  grind
theorem Bb3 : FnOk P w K mg base CX0 n f c ps (spP K λ_=>.bad) :=
 ⟨λd H Q E h=>by obtain⟨_,_,_,_,_,_,h⟩:=h;simp_all,λA a s H b e d Q E _ _ _ _ h=>by obtain⟨_,_,_,_,_,_,h⟩:=h;simp_all⟩
noncomputable def Al2 (i j:Int):Bool:=decide (0<j)&&decide (j<1073741824)
theorem Ay7 (i j:Int)(h:Al2 i j=true):A6w i j:=by
 obtain⟨b,a⟩:=Bool.and_eq_true_iff.mp h;exact⟨of_decide_eq_true b,of_decide_eq_true a⟩
noncomputable def Ay1 (i j:Int):Bool:=decide (0<j)
theorem A2x (i j:Int)(h:Ay1 i j=true):0<j:=of_decide_eq_true h
noncomputable def Aa5 (i j:Int):Bool:=decide (0<=j)&&(decide (j<=1000000)&&decide (i.natAbs<2 ^ 64))
theorem A0v (i j:Int)(h:Aa5 i j=true):A4q i j:=by
 obtain⟨c,a⟩:=Bool.and_eq_true_iff.mp h;obtain⟨a,b⟩:=Bool.and_eq_true_iff.mp a;exact⟨of_decide_eq_true c,of_decide_eq_true a,of_decide_eq_true b⟩
section
variable {K:PySem.W.Frag}
abbrev Sh:PyData->PyData->Option O:=U0 λi j=>.int (i-j)
abbrev A5a:PyData->PyData->Option O:=U0 λi j=>.bool (decide (j<i))
abbrev Be3:PyData->PyData->Option O:=U0 λi j=>.bool (decide (j<=i))
theorem O9:OpS K (rI0 λi j=>.int (i-j)) Sh:=V8 λ_ _ _=>rfl
theorem A2i:OpS K (rI0 λi j=>.bl (decide (j<i))) A5a:=V8 λ_ _ _=>rfl
theorem A9v:OpS K (rI0 λi j=>.bl (decide (j<=i))) Be3:=V8 λ_ _ _=>rfl
abbrev W9:PyData->PyData->Option O:=opI Al2 λi j=>i / j
abbrev Ol:PyData->PyData->Option O:=opI Ay1 λi j=>i % j
abbrev Zy:PyData->PyData->Option O:=opI Aa5 λi j=>i ^ j.toNat
theorem Zt:OpS K (rI A6w λi j=>.int (i / j)) W9:=Ak9 Ay7
theorem Jx:OpS K (rI (λ_ j=>0<j) λi j=>.int (i % j)) Ol:=Ak9 A2x
theorem Xo:OpS K (rI A4q λi j=>.int (i ^ j.toNat)) Zy:=Ak9 A0v
def Bb0 (fa fb:Ev->R PV):Ev->R PV:=λc=>(fa c).bind λp c=>(fb c).bind λq c=>match nrm p,Ww (Ep c (nrm q)) with
 | .o (.sc ns),some k=>match atI ns k with
  | some i=>.ok (.o (.im (.int i))) c
  | none=>.bad
 | _,_=>.bad
theorem A4x (h:atI ns k=some i):atI (ns.map V.int) k=some (V.int i):=by
 unfold atI at h ⊢;obtain⟨j,b,a⟩:=Option.bind_eq_some_iff.mp h
 simp_all
theorem Bd4 (ha:ME K h fa) (hb:ME K j fb):ME K (tOp (rIx K) h j) (Bb0 fa fb):=by
 intro β W c σ Q R s
 refine ha.toV _ W c _ _ R (s.bnd.mono λp c1 u v1 W1 f n d=>?_)
 refine hb.toV _ _ _ _ _ n (u.bnd.mono λq t b v2 W2 e g m=>?_)
 have d:=RepA.same e.fz d
 cases ey:Ww (Ep t (nrm q)) with
 | none =>
  simp only[ey]at b;generalize nrm p=np at b
  cases np with
  | sl i=>trivial
  | o o=>cases o <;> exact b.elim
 | some k =>
  simp only[ey]at b;generalize nrm p=np at b d
  match np,d,b with
  | .o (.sc ns),d,b =>
   have b:(match atI ns k with
    | some i=>U.R.ok _ _
    | none=>.bad).sat _:=b
   cases ei:atI _ k with
   | none=>rw[ei]at b;trivial
   | some i =>
    rw[ei]at b;obtain⟨a,rfl,w⟩:=d
    cases Di (Gp g m (Wk ey))
    exact .inl ⟨a,_,k,.int i,rfl,rfl,Same.seq g.sub w,A4x ei,g.here (o:=.im (.int i)) rfl rfl λv W' fp x l r=>b v _ _ (f.trans (e.trans x)) l r⟩
  | .o (.im _),d,b=>exact b.elim
  | .o (.ls _ _),d,b=>exact b.elim
  | .o (.ty _),d,b=>exact b.elim
  | .sl _,d,b=>trivial
end
section
variable {P:Program}{w:World}{K:PySem.W.Frag}{Hf H:Hp}{Q:VK}{W:Wo}{c:Ev}{v:V}
def cMt (isT:PyData->Bool)(op:PyData->PyData->Option O)(fa fb:Ev->R PV):Ev->R PV:=λc=>(fa c).bind λp c=>match Ep c (nrm p) with
 | some d=>if isT d=true then (fb c).bind λq c=>match Ep c (nrm p),Ep c (nrm q) with
  | some x,some y=>match op x y with
   | some o=>.ok (.o o) c
   | none=>.bad
  | _,_=>.bad
  else .bad
 | none=>.bad
theorem A7n (ha:ME K l fa) (hb:ME K m fb)
 (n:∀(Hf H:Hp) (d:PyData) (v:V),a d=true->Same Hf H->RdV Hf H d v->tyV K T v H) (hr:OpS K (λx y H Q=>r x [y] H Q) op):ME K (tBM K T r l (Cd m Dy)) (cMt a op fa fb):=by
 intro E W c C Q R s
 refine ha.toV _ W c _ _ R (s.bnd.mono λp w e B D i h j=>?_)
 cases ed:Ep w (nrm p) with
 | none=>simp only[ed]at e;trivial
 | some d =>
  simp only[ed]at e
  by_cases it:a d=true
  case neg=>rw[if_neg it]at e;trivial
  rw[if_pos it]at e
  refine⟨n _ _ d _ it h.sub (Gp h j ed),?_⟩
  refine hb.toV _ _ _ _ _ h (e.bnd.mono λq k b I J f g u=>?_)
  cases ex:Ep k (nrm p) with
  | none=>simp only[ex]at b;trivial
  | some x =>
   cases ey:Ep k (nrm q) with
   | none=>simp only[ex,ey]at b;trivial
   | some y =>
    simp only[ex,ey]at b
    cases eo:op x y with
    | none=>simp only[eo]at b;trivial
    | some o =>
     simp only[eo]at b
     exact hr _ _ _ _ x y o Q g.sub (Gp g (RepA.same f.fz j) ex) (Gp g u ey) eo (New.of g λv F G z A t=>b v _ _ (i.trans (f.trans z)) A t)
noncomputable def Kv:PyData->Bool
 | .tuple _=>true
 | _=>false
theorem A0y (Hf H:Hp)(d:PyData)(v:V)(h:Kv d=true)(s:Same Hf H)(r:RdV Hf H d v):tyV K "tuple" v H:=by
 cases d with
 | tuple ds =>
  obtain⟨a,c,rfl,b,t⟩:=Hj s r;exact .inr (.inr (.inr (.inr ⟨rfl,c,b⟩)))
 | _=>cases h
noncomputable def strsOf:List PyData->Option (List Str)
 | []=>some []
 | .str z::ds=>(strsOf ds).map (z::·)
 | _=>none
theorem Ad2:∀{ds:List PyData}{ss:List Str}{vs:List V},strsOf ds=some ss->TrL Hf ds vs->vs=ss.map V.str
 | [],ss,vs,h,t=>by cases h;exact t
 | d::ds,ss,_,h,⟨v,r,rfl,h1,h2⟩=>by
  cases d with
  | str z =>
   have h:(strsOf ds).map (z::·)=some ss:=h
   cases e:strsOf ds with
   | none=>rw[e]at h;cases h
   | some ts =>
    rw[e]at h;cases h
    rw[Ad2 e h2,show v=V.str z from h1];rfl
  | _=>cases h
noncomputable def Uj (y:Str):List Str->Option Nat
 | []=>none
 | x::xs=>if x==y then some 0 else (Uj y xs).map (·+1)
theorem Ai2 {y:Str}:∀{xs:List Str}{j:Nat},Uj y xs=some j->xs[j]?=some y/\∀m<j,xs[m]?≠some y
 | [],j,h=>by cases h
 | x::xs,j,h=>by
  unfold Uj at h
  by_cases q:(x==y)=true
  ·rw[if_pos q]at h;cases h
   exact⟨by simpa using q,λm hm=>absurd hm (Nat.not_lt_zero _)⟩
  ·rw[if_neg q]at h
   cases e:Uj y xs with
   | none=>rw[e]at h;cases h
   | some k =>
    rw[e]at h;cases h;obtain⟨h1,h2⟩:=Ai2 e
    refine⟨by simpa using h1,λm hm=>?_⟩
    cases m with
    | zero=>simpa using q
    | succ m=>simpa using h2 m (Nat.lt_of_succ_lt_succ hm)
def Jz:PyData->PyData->Option O
 | .tuple ds,.str y=>(strsOf ds).bind λss=>(Uj y ss).map λj=>.im (.int (j:Nat))
 | _,_=>none
theorem Vr:OpS K (λx y H Q=>V3 K x [y] H Q) Jz:=by
 intro Hf H x y dx dy o Q s f g e n;unfold Jz at e
 split at e
 ·rename_i d z
  obtain⟨a,vs,rfl,i,t⟩:=Hj s f
  cases es:strsOf d with
  | none=>grind
  | some b =>
   rw[es]at e;have e:(Uj z _).map _=some o:=e
   cases ei:Uj z b with
   | none=>grind
   | some j =>
    rw[ei]at e;cases e
    cases Fz g
    cases Ad2 es t
    obtain⟨h,c⟩:=Ai2 ei;exact⟨a,b,z,j,rfl,rfl,SqT.of i,h,c,n.int s⟩
 grind
def N7:PyData->Option O
 | .tuple ds=>(strsOf ds).bind λss=>if ss.length<1000 then some (.im (.int ((dst (ss.map λx=>(Sum.inr x:Key))).length:Nat))) else none
 | _=>none
theorem Ah3:UnS K (λx H Q=>Vs P w K [x] H λy H=>Oh P w [y] H Q) N7:=by
 intro Hf H x d o Q s c e n
 match d,c,e with
 | .tuple ds,c,e =>
  have e:((strsOf _).bind _)=some o:=e;obtain⟨a,vs,rfl,i,t⟩:=Hj s c
  cases es:strsOf ds with
  | none=>simp_all
  | some g =>
   rw[es]at e
   have e:(if g.length<1000 then some _ else none)=some o:=e
   split at e
   ·cases e
    cases Ad2 es t
    refine⟨a,_,g.map λx=>(Sum.inr x),rfl,SqT.of i,?_,by simp_all,λp f=>⟨p,_,rfl,Av,?_,?_⟩⟩
    ·rw[List.map_map,List.map_map];rfl
    ·exact Nat.lt_of_le_of_lt (Rm _ _ rfl) (by simp_all)
    ·refine n _ _ _ [] ⟨λ_ _ h=>h,λb u e _=>?_,λ_ _ _ _ _ h=>h,λ_ h=>nomatch h⟩ (λb u e=>?_) ⟨rfl,rfl⟩
     ·exact Bt f b u e
     ·exact Bt f b u (s b u e)
   grind
theorem Ar3 {t:TE}{f:Ev->R PV}(h:ME K t f):ME K (tCB (Oh P w) (Cd (tCB (Vs P w K) (Cd t Dy)) Dy)) (cUn N7 f):=Rr (r:=λx H Q=>Vs P w K _ H _) h Ah3
end
end U
namespace U
open PySem L2 PySem.W
end U
namespace U
open PySem L2
section
noncomputable def Be7:PyData->Bool
 | .list _=>true
 | _=>false
end
end U
set_option autoImplicit true
namespace U
open PySem L2
end U
set_option autoImplicit true
namespace U
open PySem L2
end U
set_option autoImplicit true
namespace U
open PySem L2
def Nj:PyData->PyData->Option O:=U0 λi j=>.bool (decide (i<j))
theorem Al9 : OpS K (rI0 λi j=>.bl (decide (i<j))) Nj:=V8 λ_ _ _=>rfl
theorem Bl2 (l:Ua i j=true):CMul i j:=by
 unfold Ua at l;rw[Bool.or_eq_true_iff,Bool.and_eq_true_iff,Bool.and_eq_true_iff]at l
 rcases l with ⟨b,a⟩ | ⟨b,a⟩
 ·exact .inl ⟨of_decide_eq_true b,of_decide_eq_true a⟩
 ·exact .inr ⟨of_decide_eq_true b,of_decide_eq_true a⟩
def Jy:PyData->PyData->Option O:=opI Ua λi j=>i*j
theorem Jv : OpS K (rI CMul λi j=>.int (i*j)) Jy:=Ak9 λ_ _=>Bl2
noncomputable def Fp:PyData->Option O
 | .list ds=>some (.im (.tuple ds))
 | .tuple ds=>some (.im (.tuple ds))
 | _=>none
theorem Js : UnS K (λx H Q=>Hk K [x] H Q) Fp:=by
 intro Hf H x d o Q s r e n;unfold Fp at e
 split at e
 ·cases e
  obtain⟨a,b,rfl,c,t⟩:=Ig r
  exact⟨a,b,rfl,.inl ⟨SqL.of c,λl f=>n.tup s t f⟩⟩
 ·cases e
  obtain⟨a,b,rfl,c,t⟩:=Hj s r;exact⟨a,b,rfl,.inr ⟨SqT.of c,n.same s r⟩⟩
 grind
def A3m (K:PySem.W.Frag):R2:=λx y H Q=>A9k K x y H Q\/Bf0 K x y H Q
def Al:PyData->PyData->Option O
 | .list ds,.int i=>(atI ds i).map O.im
 | .tuple ds,.int i=>(atI ds i).map O.im
 | _,_=>none
theorem Be : OpS K (A3m K) Al:=by
 intro Hf H x y dx dy o Q s i j e n;unfold Al at e
 split at e
 ·obtain⟨d,g,rfl⟩:=Option.map_eq_some_iff.mp e
  obtain⟨a,c,rfl,f,t⟩:=Ig i;obtain⟨v,h,b⟩:=Ax7 t g;exact .inl ⟨a,c,_,v,rfl,Di j,SqL.of f,h,n.same s b⟩
 ·obtain⟨d,g,rfl⟩:=Option.map_eq_some_iff.mp e
  obtain⟨a,c,rfl,f,t⟩:=Hj s i;obtain⟨v,h,b⟩:=Ax7 t g;exact .inr ⟨a,c,_,v,rfl,Di j,SqT.of f,h,n.same s b⟩
 grind
end U
namespace L2
open PySem
section
variable {X:Cx}{a b:Expr}{ta tb:TE}{pos:Pos}
theorem Bl (c:X.K=Kq) (ha:QE X a ta) (hb:QE X b tb) (hs:J8 b):QE X (.Subscript a b pos) (tOp (U.A3m Kq) ta tb):=by
 subst c;exact A7u (IxR.or ix_list ix_tup) ha hb hs
end
end L2
namespace U
open PySem L2 PySem.W
section
variable {K:PySem.W.Frag}{W:Wo}{c:Ev}{Hf H:Hp}
noncomputable def Xe:PyData->Option O
 | .int i=>if 0<=i/\i<=2 ^ 24 then some (.ls false ((List.range i.toNat).map λk=>.int (k:Nat))) else none
 | _=>none
theorem Al7:∀l:List Nat,TrL Hf (l.map λk=>PyData.int (k:Nat)) (l.map λk=>V.int (k:Nat))
 | []=>rfl
 | k::l=>⟨_,_,rfl,rfl,Al7 l⟩
theorem New.junk {o:O}{Q:VK}{p:Addr}{u:HO}(n:New K Hf H o Q)(hp:H p=none):New K Hf (upd H p u) o Q:=by
 intro v Hf' H' fp st sm rp
 have ne:∀b w,H b=some w->b≠p:=λb w e z=>by rw[z,hp]at e;cases e
 refine n v Hf' H' fp ⟨st.fz,λb w e hb=>st.kp b w (by rw[Ah (ne b w e)];exact e) hb,λa w e m ha hf=>st.nf a w (by rw[Ah (ne a w e)];exact e) m ha hf,λa ha=>?_⟩ sm rp
 rcases st.fr a ha with z | z
 ·exact .inl z
 ·by_cases h:a=p
  ·exact .inr (by rw[h];exact hp)
  ·rw[Ah h]at z;exact .inr z
theorem Av6:UnS K (λx H Q=>A6s [x] H λy H=>An0 [y] H Q) Xe:=by
 intro Hf H x d o Q s r e n
 match d,r,e with
 | .int i,r,e =>
  have e:(if 0<=i/\i<=2 ^ 24 then some (O.ls false ((List.range i.toNat).map λk=>.int (k:Nat))) else none)=some o:=e
  split at e
  ·rename_i hi
   cases e
   cases Di r
   refine⟨i,rfl,λp hp=>⟨p,i.toNat,rfl,?_,by omega,λl hl=>?_⟩⟩
   ·rw[Av,Int.toNat_of_nonneg hi.1]
   ·exact(n.junk hp).lst (λb u e=>Bt hp b u (s b u e)) (Al7 _) hl
  ·cases e
def cFz (f:Ev->R PV):Ev->R PV:=λc=>(f c).bind λp c=>(frz (nrm p) c).bind λd c=>.ok (.o (.im d)) c
theorem Vn (h:ME K t f):ME K t (cFz f):=by
 intro y W c x Q R s
 refine h.toV _ W c _ Q R (s.bnd.mono λp n j v u e i k=>?_)
 obtain⟨d,o,r,_,l,w,b,m,g⟩:=Il i k j.bnd
 have q:=l v _ [] ((e.trans b).less λa z=>z.elim id λz=>nomatch z) m ⟨⟨rfl,g⟩,λa z=>nomatch z⟩
 grind
end
def Te:PyData->Bool
 | .tuple ds=>Ge ds&&PyData.canLayAll0 ds&&decide (PyData.depthAll ds<=6)
 | _=>false
theorem Lp (h:Te k=true):A7w k/\∃a,k=.tuple a:=by
 cases k with
 | tuple a =>
  obtain⟨c,d⟩:=Bool.and_eq_true_iff.mp (show (Ge _&&PyData.canLayAll0 _&&decide _)=true from h)
  obtain⟨e,b⟩:=Bool.and_eq_true_iff.mp c;exact⟨⟨e,b,Nat.succ_le_succ (of_decide_eq_true d)⟩,a,rfl⟩
 | _=>cases h
mutual
theorem Az2 {H:Hp}:∀{d:PyData}{v:V},keyB d=true->Tr H d v->KTr H d v
 | .none,_,_,h=>h
 | .int _,_,_,h=>h
 | .str _,_,_,h=>h
 | .tuple ds,_,k,⟨a,vs,e,ha,t⟩=>⟨a,vs,e,ha,Ak0 k t⟩
theorem Ak0 {H:Hp}:∀{ds:List PyData}{vs:List V},Ge ds=true->TrL H ds vs->KTrL H ds vs
 | [],_,_,h=>h
 | d::ds,_,k,⟨v,r,e,h,t⟩=>by
  obtain⟨k1,k2⟩:=Bool.and_eq_true_iff.mp (show (keyB d&&Ge ds)=true from k)
  exact⟨v,r,e,Az2 k1 h,Ak0 k2 t⟩
end
theorem A8f (h:Te k=true) (t:Tr H k v):∃b,v=.ref b/\KAt H k b:=by
 obtain⟨c,ds,rfl⟩:=Lp h;obtain⟨a,d,rfl,f,e⟩:=t;exact⟨a,rfl,c,Az2 c.1 ⟨a,d,rfl,f,e⟩⟩
inductive DE where
 | d (x:PyData)
 | l (xs:List PyData)
noncomputable def DE.dat:DE->PyData
 | .d x=>x
 | .l xs=>.list xs
inductive BR where
 | nx (c:Ev) (ks:List PyData) (es:List DE)
 | bad
abbrev BF:=Ev->List PyData->List DE->BR
noncomputable def Ob (k:PyData):List PyData->Option Nat
 | []=>none
 | x::r=>if PyData.eqv x k=true then some 0 else (Ob k r).map (·+1)
noncomputable def Em (d:Nat) (c:Ev):Bool:=match c[d]? with
 | some none=>true
 | _=>false
theorem Li (h:Em d c=true):c[d]?=some none:=by
 unfold Em at h
 grind
noncomputable def R.toB {α:Type} (r:R α) (k:α->Ev->BR):BR:=match r with
 | .ok a c=>k a c
 | .bad=>.bad
def DE1 (Hf H:Hp):DE->V->List Addr->Prop
 | .d x,v,fp=>fp=[]/\Tr Hf x v
 | .l xs,v,fp=>∃b us,v=.ref b/\fp=[b]/\H b=some (.lst us)/\TrL Hf xs us
def DX (a:Addr)(X:Nat->List Addr)(b:Addr):Prop:=b=a\/∃j,b∈X j
structure DB (W:Wo) (a:Addr) (ks:List PyData) (es:List DE) (X:Nat->List Addr):Prop where
 at_:∃vs,W.H a=some (.dT (ks.zip vs))/\ks.length=vs.length/\es.length=vs.length/\∀j e,es[j]?=some e->∃v,vs[j]?=some v/\DE1 W.Hf W.H e v (X j)
 fr:∀b,DX a X b->W.Hf b=none/\¬ W.S b
 dis:∀i j b,b∈X i->b∈X j->i=j
 na:∀j,a∉X j
 mu:∀b,DX a X b->∃o,W.H b=some o/\Mut (some o)
 out:∀j,es.length<=j->X j=[]
 ky:∀k∈ks,Te k=true
 nd:ks.Nodup
abbrev orX (S:Addr->Prop)(a:Addr)(X:Nat->List Addr):Addr->Prop:=λb=>S b\/DX a X b
def zO (K:PySem.W.Frag)(β:Nat->V)(W:Wo)(D:Ends)(d:Nat)(a:Addr)(X:Nat->List Addr):BR->Prop
 | .nx c' ks' es'=>∀σ' W' X',Stp (orX W.S a X) W.Hf W.H (orX W'.S a X') W'.Hf W'.H->Rep K β W' c' σ'->c'[d]?=some none->σ'[d]?=some (some (.ref a))->DB W' a ks' es' X'->D.nx σ' W'.H
 | .bad=>False
def MB (K:PySem.W.Frag)(d:Nat)(T:TS)(F:BF):Prop:=∀(β:Nat->V) (W:Wo) (c:Ev) (σ:St) (D:Ends) (a:Addr) (ks:List PyData) (es:List DE) (X:Nat->List Addr),Rep K β W c σ->c[d]?=some none->σ[d]?=some (some (.ref a))->DB W a ks es X ->
 zO K β W D d a X (F c ks es)->T D σ W.H
section
variable {K:PySem.W.Frag}{β:Nat->V}{W W1:Wo}{c:Ev}{σ σ':St}{Hf H:Hp}{a:Addr}{ks:List PyData}{es:List DE}{X X':Nat->List Addr}{d:Nat}{D:Ends}{fp:List Addr}
theorem DE1.step {a H':Hp}(h:DE1 Hf H e v fp) (s:Same Hf a) (k:∀b∈fp,H' b=H b):DE1 a H' e v fp:=by
 cases e with
 | d x=>exact⟨h.1,Tr.same s h.2⟩
 | l i =>
  obtain⟨b,c,g,f,j,t⟩:=h
  exact⟨b,c,g,f,by grind,TrL.same s t⟩
theorem DB.step (h:DB W a ks es X) (st:Stp W.S W.Hf W.H S2 W1.Hf W1.H) (g:∀b,W1.S b->S2 b):DB W1 a ks es X:=by
 have d:∀b,DX a X b->W1.H b=W.H b:=λb c=>by
  obtain⟨o,e,_⟩:=h.mu b c;rw[e];exact st.kp b o e (h.fr b c).2
 obtain⟨i,s,l,m,k⟩:=h.at_
 refine⟨⟨i,by rw[d a (.inl rfl)];omega,l,m,λj e p=>?_⟩,λb c=>⟨?_,λz=>?_⟩,h.dis,h.na,λb c=>?_,h.out,h.ky,h.nd⟩
 ·obtain⟨v,n,r⟩:=k j e p
  exact⟨v,n,r.step st.fz λb c=>d b (.inr ⟨j,c⟩)⟩
 ·obtain⟨o,e,f⟩:=h.mu b c
  exact st.nf b o e f (h.fr b c).2 (h.fr b c).1
 ·obtain⟨o,e,_⟩:=h.mu b c
  rcases st.fr b (g b z) with q | q
  ·exact(h.fr b c).2 q
  simp_all
 ·obtain⟨o,e,f⟩:=h.mu b c
  simp_all
theorem Stp.moreX (x:Stp S Hf H S' b H'):Stp (orX S a X) Hf H (orX S' a X) b H':=Stp.more x
theorem zO.step (h:zO K β W D d a X r) (st:Stp (orX W.S a X) W.Hf W.H (orX W1.S a X') W1.Hf W1.H):zO K β W1 D d a X' r:=by
 cases r with
 | nx c j k=>exact λf l m b R g i e=>h _ _ _ (st.trans b) R g i e
 | bad=>exact h
theorem K3 {r:R b}{k:b->Ev->BR}(h:zO K β W D d a X (r.toB k)):r.sat λx c=>zO K β W D d a X (k x c):=by
 cases r with
 | ok x c=>exact h
 | bad=>exact h
def GFr (d:Nat)(g:TG):Prop:=∀v σ H k,g v σ H (λσ' H'=>σ'[d]?=σ[d]?->k σ' H')->g v σ H k
def A6m (d:Nat)(g:TGs):Prop:=∀vs σ H k,g vs σ H (λσ' H'=>σ'[d]?=σ[d]?->k σ' H')->g vs σ H k
theorem Y8 (h:i≠d):GFr d (Ey i):=λv a H k q=>q (List.getElem?_set_ne h)
theorem A4n:A6m d Af2:=λb a H k q=>⟨q.1,q.2 rfl⟩
def A3f (g:TG):Prop:=∀v σ H k k',g v σ H k->(∀σ' H',k σ' H'->k' σ' H')->g v σ H k'
def Vz (g:TGs):Prop:=∀vs σ H k k',g vs σ H k->(∀σ' H',k σ' H'->k' σ' H')->g vs σ H k'
theorem M6 : A3f (Ey i):=λv b H k a h f=>f _ _ h
theorem U5:Vz Af2:=λb c H k a h f=>⟨h.1,f _ _ h.2⟩
theorem Ac6 (h1:A3f t) (h2:Vz u):Vz (Mi t u):=λg c H k d ⟨v,r,e,q⟩ f=>⟨v,r,e,h1 _ _ _ _ _ q λa b q=>h2 _ _ _ _ _ q f⟩
theorem Y0 (h1:GFr d t) (b:A3f t) (h2:A6m d u) (f:Vz u):A6m d (Mi t u):=λi j H k ⟨v,r,e,q⟩ =>
 ⟨v,r,e,h1 v _ H _ (b _ _ _ _ _ q λg l q c=>h2 r _ _ k (f _ _ _ _ _ q λh m q a=>q (a.trans c)))⟩
theorem A4p (h:A6m d u):GFr d (Ab3 K n u):=λv b H k ⟨p,a,e,s,l,q⟩=>⟨p,a,e,s,l,h _ _ H k q⟩
def S9 (g:PV->Ev->R Unit)(F:BF):List PyData->BF
 | [],c,ks,es=>.nx c ks es
 | x::xs,c,ks,es=>(g (.o (.im x)) c).toB λ_ c=>if Em d c=true then match F c ks es with
  | .nx c ks es=>S9 g F xs c ks es
  | .bad=>.bad
  else .bad
def A4i (fi:Ev->R (List PyData))(g:PV->Ev->R Unit)(F:BF):BF:=λc ks es=>(fi c).toB λds c=>if Em d c=true then S9 (d:=d) g F ds c ks es else .bad
theorem Ba3 (hi:MI K wi fi) (hg:MG K t g) (hf:GFr d t) (hb:MB K d tb F):MB K d (A1n wi t tb) (A4i (d:=d) fi g F):=by
 intro A W c C D a ks V X R hc hs hd l
 refine hi A W c C _ R ((K3 l).mono λf c1 O J U L R1 it=>?_)
 by_cases z1:Em d c1=true
 ·rw[if_pos z1]at O
  have Z:=hd.step L λ_ z=>z
  refine⟨λi m C H=>∃b j B r u,b.H=H/\Rep K A b j C/\m=f.length-i/\i<=f.length/\Same U.Hf b.Hf/\j[d]?=some none/\C[d]?=some (some (.ref a))/\DB b a B r u/\zO K A b D d a u (S9 (d:=d) g F (f.drop i) j B r),
   ⟨_,U,c1,ks,V,X,rfl,R1,rfl,Nat.zero_le _,Same.refl _,Li z1,hs,Z,zO.step O L.moreX⟩,?_⟩
  rintro i m C H ⟨b,j,B,r,u,rfl,R2,rfl,hle,sm,T,G,I,E⟩
  obtain⟨v,Y⟩:=it i b.Hf b.H sm R2.sub
  by_cases lt:i<f.length
  ·obtain⟨q1,q2⟩:=Y f[i] (List.getElem?_eq_getElem lt)
   refine .inr ⟨q1,λw p=>∃b j B r u,b.H=p/\Rep K A b j w/\Same U.Hf b.Hf/\j[d]?=some none/\w[d]?=some (some (.ref a))/\DB b a B r u/\zO K A b D d a u (S9 (d:=d) g F (f.drop (i+1)) j B r),
    λw p ⟨W3,c3,k3,e3,X3,y1,S,s3,y2,y3,y4,k⟩=>⟨f.length-(i+1),by omega,W3,c3,k3,e3,X3,y1,S,rfl,by omega,s3,y2,y3,y4,k⟩,λx p hy=>?_⟩
   obtain⟨s,n,M,tx⟩:=q2 x p hy;have S:=n.rep R2 M
   have Q:Stp b.S b.Hf b.H (Wo.S ⟨s,p,b.fps⟩) s p:=⟨n.fz,λa o e _=>n.kp a o e λz=>z,λa o e mu _ q=>n.nf a o e mu (λz=>z) q,λa z=>.inl z⟩
   rw[Lr lt]at E
   have E:zO K A b D d a u ((g (.o (.im f[i])) j).toB λ_ c=>if Em d c=true then match F c B r with
    | .nx c ks V=>S9 (d:=d) g F (f.drop (i+1)) c ks V
    | .bad=>.bad
    else .bad):=E
   refine hf _ _ _ _ (hg A ⟨s,p,b.fps⟩ j C (.o (.im f[i])) x [] _ S ⟨⟨rfl,tx⟩,λa z=>nomatch z⟩ ((K3 E).mono λ_ c3 k σ3 W3 y R3' es3=>?_))
   have y:=y.up λa z=>by
    rcases z with z | z
    ·exact z
    ·cases z
   have h:=Q.trans y
   by_cases z3:Em d c3=true
   ·rw[if_pos z3]at k
    refine hb _ _ _ _ _ a _ _ _ R3' (Li z3) (es3.trans G) (I.step h λ_ z=>z) ?_
    cases eb:F _ _ _ with
    | bad=>rw[eb]at k;exact k.elim
    | nx c4 k4 e4 =>
     rw[eb]at k
     exact λσ4 W4 X4 N R4 hc4 hs4 P=>⟨W4,c4,k4,e4,X4,rfl,R4,sm.trans (h.fz.trans N.fz),hc4,hs4,P,zO.step k (h.moreX.trans N)⟩
   ·rw[if_neg z3]at k;exact k.elim
  ·have e:i=f.length:=by omega
   subst e;rw[List.drop_length]at E;exact .inl ⟨v rfl,E _ _ _ Stp.refl R2 T G I⟩
 ·rw[if_neg z1]at O;exact O.elim
end
theorem Qs {k:PyData}(hk:Te k=true):∀{ks:List PyData}{vs:List V}{j:Nat},(∀x∈ks,Te x=true)->ks.length=vs.length->Ob k ks=some j->ks[j]?=some k/\Oc (ks.zip vs) k=vs[j]?
 | [],_,_,_,_,e=>nomatch e
 | x::ks,[],_,_,l,_=>nomatch l
 | x::ks,v::vs,j,hx,l,e=>by
  have b:=(Lp (hx x List.mem_cons_self)).1.1;have b2:=(Lp hk).1.1
  have e:(if PyData.eqv x k=true then some 0 else (Ob k ks).map (·+1))=some j:=e
  by_cases h:PyData.eqv x k=true
  ·rw[if_pos h]at e;cases e
   have:=(O7 x k b b2).mp h;subst this;exact⟨rfl,Ys rfl⟩
  ·rw[if_neg h]at e
   obtain⟨i,e1,rfl⟩:=Option.map_eq_some_iff.mp e
   obtain⟨q1,q2⟩:=Qs hk (vs:=vs) (λy hy=>hx y (List.mem_cons_of_mem _ hy)) (Nat.succ.inj l) e1
   refine⟨by simpa using q1,?_⟩
   rw[List.zip_cons_cons,S7 (λq=>h ((O7 x k b b2).mpr q)),q2];rfl
theorem Lj {k:PyData}(hk:Te k=true):∀{ks:List PyData}{vs:List V},(∀x∈ks,Te x=true)->Ob k ks=none->k∉ks/\Oc (ks.zip vs) k=none
 | [],vs,_,_=>⟨(λh=>nomatch h),rfl⟩
 | x::ks,vs,hx,e=>by
  have b:=(Lp (hx x List.mem_cons_self)).1.1;have b2:=(Lp hk).1.1
  have e:(if PyData.eqv x k=true then some 0 else (Ob k ks).map (·+1))=none:=e
  by_cases h:PyData.eqv x k=true
  ·rw[if_pos h]at e;cases e
  ·rw[if_neg h]at e
   have e1:Ob k ks=none:=by
    cases q:Ob k ks with
    | none=>rfl
    | some i=>rw[q]at e;cases e
   have ne:x≠k:=λq=>h ((O7 x k b b2).mpr q)
   refine⟨λm=>?_,?_⟩
   ·rcases List.mem_cons.mp m with m | m
    ·exact ne m.symm
    ·exact(Lj (vs:=[]) hk (λy hy=>hx y (List.mem_cons_of_mem _ hy)) e1).1 m
   ·cases vs with
    | nil=>rfl
    | cons v vs =>
     rw[List.zip_cons_cons,S7 ne]
     exact(Lj hk (λy hy=>hx y (List.mem_cons_of_mem _ hy)) e1).2
section
variable {K:PySem.W.Frag}{β:Nat->V}{W:Wo}{c:Ev}{σ:St}{Hf H:Hp}{a:Addr}{ks:List PyData}{es:List DE}{X X':Nat->List Addr}{d:Nat}
theorem Ae6 (R:Rep K β W c σ)(hd:DB W a ks es X) (f:∀b,H' b=W.H b\/DX a X b\/W.H b=none) (h:∀b,DX a X' b->DX a X b\/W.H b=none) :
 Rep K β ⟨W.Hf,H',W.fps⟩ c σ/\Stp (orX W.S a X) W.Hf W.H (orX (Wo.S ⟨W.Hf,H',W.fps⟩) a X') W.Hf H':=by
 refine⟨R.frame (Same.refl _) (λb u e=>?_) λb g=>?_,⟨Same.refl _,λb o e n=>?_,λb o _ _ _ q=>q,λb z=>?_⟩⟩
 ·rcases f b with q | q | q
  ·rw[q];exact R.sub b u e
  ·rw[(hd.fr b q).1]at e;grind
  ·rw[R.notF q]at e;grind
 ·obtain⟨i,d⟩:=g
  obtain⟨z,o,e,_⟩:=R.own i b d
  refine⟨z,?_⟩
  rcases f b with q | q | q
  ·omega
  ·exact absurd ⟨i,d⟩ (hd.fr b q).2
  grind
 ·grind
 ·rcases z with z | z
  ·exact .inl (.inl z)
  grind
end
section
variable {K:PySem.W.Frag}{β:Nat->V}{W W1:Wo}{c:Ev}{σ:St}{Hf H:Hp}{a:Addr}{ks:List PyData}{es:List DE}{X X':Nat->List Addr}{d:Nat}{D:Ends}
noncomputable def Bi0:Option DE->Option (List PyData)
 | some (.l xs)=>some xs
 | _=>none
def Qe (ks:List PyData)(es:List DE)(k:PyData):List PyData×List DE×Nat:=match Ob k ks with
 | some j=>(ks,es,j)
 | none=>(ks++[k],es++[.l []],ks.length)
def A4b (fk fv:Ev->R PV):BF:=λc ks es=>(fk c).toB λp c=>match Ep c (nrm p) with
 | some k=>if (Te k&&decide (ks.length<16000000))=true then match Bi0 ((Qe ks es k).2.1[(Qe ks es k).2.2]?) with
  | some xs=>(fv c).toB λq c=>(frz (nrm q) c).toB λx c=>if (decide (xs.length<16000000)&&Em d c)=true then .nx c (Qe ks es k).1 ((Qe ks es k).2.1.set (Qe ks es k).2.2 (.l (xs++[x]))) else .bad
  | none=>.bad
  else .bad
 | none=>.bad
theorem Y5 (he:ME K P fe) (R:Rep K β W c σ) (hs:σ[d]?=some (some (.ref a))) (hd:DB W a ks es X) (H:es[j]?=some (.l xs)) (hl:X j=[l])
 (L:zO K β W D d a X ((fe c).toB λq c=>(frz (nrm q) c).toB λx c=>if (decide (xs.length<16000000)&&Em d c)=true then .nx c ks (es.set j (.l (xs++[x]))) else .bad)) :
 tyV K "list" (.ref l) W.H/\Cd P Dy σ W.H λxs H2=>rAppF (.ref l) xs H2 λ_ C=>D.nx σ C:=by
 have g:∀{W:Wo},DB W a ks es X->∃h,W.H l=some (.lst h)/\TrL W.Hf xs h:=λ{W} hd=>by
  obtain⟨Q,O,T,J,s⟩:=hd.at_;obtain⟨v,y,b,h,rfl,k,N,I⟩:=s j _ H;rw[hl]at k
  cases k
  exact⟨h,N,I⟩
 obtain⟨E,h0,_⟩:=g hd
 refine⟨.inl ⟨rfl,E,SqL.of h0⟩,?_⟩
 refine he.toV β W c σ _ R ((K3 L).mono λq c1 V v W1 A R1 r1=>?_)
 obtain⟨x,c2,G,_,r,e2,B,Y,Z⟩:=Il R1 r1 (K3 V);have M:=A.trans B
 have f:=hd.step M λ_ z=>z
 obtain⟨h,h2,t⟩:=g f
 by_cases p:(decide (xs.length<16000000)&&Em d c2)=true
 ·rw[if_pos p]at r
  obtain⟨m,F⟩:=Bool.and_eq_true_iff.mp p;have m:=of_decide_eq_true m
  show rAppF (.ref l) [v] W1.H λ_ C=>D.nx σ C
  rw[<- e2]
  refine⟨l,v,h,rfl,rfl,h2,by rw[<- t.length];exact Nat.lt_of_lt_of_le m (by decide),?_⟩
  have lX:DX a X l:=.inr ⟨j,by rw[hl];exact .head _⟩
  have la:l≠a:=λz=>f.na j (by rw[hl,<- z];exact .head _)
  have n:=Ae6 (X':=X) Y f (H':=upd G.H l (.lst (h++[v]))) (λb=>by
   by_cases z:b=l
   ·rw[z];exact .inr (.inl lX)
   ·exact .inl (Ah z)) (λb z=>.inl z)
  obtain⟨Q,O,T,J,s⟩:=f.at_;have hj:j<es.length:=(List.getElem?_eq_some_iff.mp H).1
  refine r σ ⟨G.Hf,_,G.fps⟩ X (M.moreX.trans n.2) n.1 (Li F) hs ⟨⟨Q,by show upd _ l _ a=_;rw[Ah (Ne.symm la)];exact O,T,by rw[List.length_set];exact J,λi e w=>?_⟩,f.fr,f.dis,f.na,λb z=>?_,λi S=>f.out i (by rw[List.length_set]at S;exact S),f.ky,f.nd⟩
  ·by_cases z:i=j
   ·subst z
    rw[List.getElem?_set_self hj]at w
    cases w
    obtain⟨v0,y,b,us1,rfl,k,N,I⟩:=s i _ H;rw[hl]at k
    cases k
    exact⟨_,y,l,h++[v],rfl,hl,Av,t.app (TrL.one Z)⟩
   ·rw[List.getElem?_set_ne (Ne.symm z)]at w
    obtain⟨u,y,k⟩:=s i e w
    exact⟨u,y,k.step (Same.refl _) λb p=>Ah λq=>z (f.dis i j b p (by rw[hl,q];exact .head _))⟩
  ·by_cases q:b=l
   ·rw[q];exact⟨_,Av,trivial⟩
   ·obtain⟨o,e,U⟩:=f.mu b z
    exact⟨o,by show upd _ l _ b=_;rw[Ah q];exact e,U⟩
 ·rw[if_neg p]at r;exact r.elim
theorem A9c (hk:ME K ty fk) (he:ME K te fe):MB K d (Ld (tBM K "list" rAppF (A7z (Gg d) ty (Zf Dy)) (Cd te Dy))) (A4b (d:=d) fk fe):=by
 intro β W c σ D a m F X R hc hs hd l
 refine⟨_,hs,a,rfl,.inr (let ⟨C,q,_⟩:=hd.at_; ⟨_,.inl q⟩),?_⟩
 refine hk.toV β W c σ _ R ((K3 l).mono λp c1 r y s J P r1=>?_)
 refine⟨show 0<=sizeLine from Nat.zero_le _,λg n=>?_⟩
 have f:=hd.step J λ_ z=>z
 cases ek:Ep c1 (nrm p) with
 | none=>simp only[ek]at r;exact r.elim
 | some k =>
  simp only[ek]at r
  by_cases I:(Te k&&decide (m.length<16000000))=true
  ·rw[if_pos I]at r
   obtain⟨t,N⟩:=Bool.and_eq_true_iff.mp I;have N:=of_decide_eq_true N;obtain⟨_,kd,ekd⟩:=Lp t
   have tk:Tr s.Hf k y:=by rw[ekd]at ek ⊢;exact Gp P r1 ek
   obtain⟨b,rfl,kb⟩:=A8f t tk;obtain⟨C,q1,B,q3,q4⟩:=f.at_
   have zl:(m.zip C).length<sizeLine:=by rw[List.length_zip,<- B,Nat.min_self];exact Nat.lt_of_lt_of_le N (by decide)
   have S:a≠g:=λz=>by rw[<- z,q1]at n;cases n
   have A:∀b,DX a X b->b≠g:=λb z q=>by
    obtain⟨o,e,_⟩:=f.mu b z;rw[q,n]at e;cases e
   have G:=Ae6 (X':=X) P f (H':=upd s.H g (.lst [])) (λb=>by
    by_cases z:b=g
    ·rw[z];exact .inr (.inr n)
    ·exact .inl (Ah z)) (λb z=>.inl z)
   have hd2:DB ⟨s.Hf,upd s.H g (.lst []),s.fps⟩ a m F X :=
    ⟨⟨
     C,by show upd s.H g _ a=_;rw[Ah S];exact q1,B,q3,λi e E=>by
     obtain⟨u,V,U⟩:=q4 i e E
     exact⟨u,V,U.step (Same.refl _) λb I=>Ah (A b (.inr ⟨i,I⟩))⟩⟩,f.fr,f.dis,f.na,λb z=>by
     obtain⟨o,e,mu⟩:=f.mu b z
     exact⟨o,by show upd s.H g _ b=_;rw[Ah (A b z)];exact e,mu⟩,f.out,f.ky,f.nd⟩
   have kb':KAt (upd s.H g (.lst [])) k b:=kb.stay λb xs q=>by
    have:=P.sub _ _ q;rw[Ah];exact this;intro z;rw[z,n]at this;cases this
   refine⟨m.zip C,k,b,rfl,by rw[Ah S];exact q1,kb',zl,λv L=>?_,λL=>?_⟩
   ·-- there
    cases E:Ob k m with
    | none=>rw[(Lj (vs:=C) t f.ky E).2]at L;cases L
    | some j =>
     unfold Qe at r;simp only[E]at r;obtain⟨Y,i2⟩:=Qs t f.ky B E
     cases eE:F[j]? with
     | none=>rw[eE]at r;exact r.elim
     | some en =>
      rw[eE]at r
      cases en with
      | d x=>exact r.elim
      | l xs =>
       obtain⟨u,V,lb,us,rfl,U,f3,f4⟩:=q4 j _ eE;rw[i2,V]at L
       cases L
       exact Y5 he G.1 hs hd2 eE U (zO.step r (J.moreX.trans G.2))
   ·-- not there
    cases E:Ob k m with
    | some j =>
     obtain⟨Y,i2⟩:=Qs t f.ky B E;have hj:j<m.length:=(List.getElem?_eq_some_iff.mp Y).1
     rw[i2,List.getElem?_eq_getElem (by omega)]at L;cases L
    | none =>
     unfold Qe at r;simp only[E]at r;obtain⟨Y,i2⟩:=Lj (vs:=C) t f.ky E;have T:m.length=F.length:=B.trans q3.symm
     have ej:(F++[DE.l []])[m.length]?=some (.l []):=by rw[T,List.getElem?_append_right (Nat.le_refl _),Nat.sub_self];rfl
     rw[ej]at r
     have M:∀i b,b∈(λi=>if i=m.length then [g] else X i) i->(i=m.length/\b=g)\/(i≠m.length/\b∈X i):=λi b h=>by
      have h:b∈if i=m.length then [g] else X i:=h
      split at h
      ·rename_i q;exact .inl ⟨q,List.mem_singleton.mp h⟩
      ·rename_i q;exact .inr ⟨q,h⟩
     have H:=Ae6 (X':=λi=>if i=m.length then [g] else X i) P f (H':=upd (upd s.H g (.lst [])) a (.dT (m.zip C++[(k,.ref g)]))) (λb=>by
      by_cases z:b=a
      ·exact .inr (.inl (.inl z))
      ·by_cases z2:b=g
       ·rw[z2];exact .inr (.inr n)
       ·exact .inl (by rw[Ah z,Ah z2])) (λb z=>by
      rcases z with z | ⟨i,z⟩
      ·exact .inl (.inl z)
      ·rcases M i b z with ⟨_,q⟩ | ⟨_,q⟩
       ·rw[q];exact .inr n
       ·exact .inl (.inr ⟨i,q⟩))
     have hd3:DB ⟨s.Hf,upd (upd s.H g (.lst [])) a (.dT (m.zip C++[(k,.ref g)])),s.fps⟩ a (m++[k]) (F++[.l []]) (λi=>if i=m.length then [g] else X i):=by
      refine⟨⟨C++[.ref g],?_,by rw[List.length_append,List.length_append,B];rfl,by rw[List.length_append,List.length_append,q3];rfl,λi e w=>?_⟩,λb z=>?_,λi i' b z z'=>?_,λi z=>?_,λb z=>?_,λi Z=>?_,λx O=>?_,?_⟩
      ·show upd _ a _ a=_
       rw[Av,List.zip_append B];rfl
      ·by_cases z:i<F.length
       ·rw[List.getElem?_append_left z]at w
        obtain⟨u,V,U⟩:=q4 i e w
        refine⟨u,by rw[List.getElem?_append_left (by omega)];exact V,?_⟩
        rw[if_neg (by omega)]
        exact U.step (Same.refl _) λb I=>by
         show upd (upd s.H g _) a _ b=_
         have na:b≠a:=λq=>f.na i (q▸I)
         rw[Ah na,Ah (A b (.inr ⟨i,I⟩))]
       ·rw[List.getElem?_append_right (by omega)]at w
        have Z:i=F.length:=by
         rcases Nat.lt_or_ge (i-F.length) 1 with q | q
         ·omega
         ·rw[List.getElem?_eq_none (by simpa using q)]at w;cases w
        subst Z;rw[Nat.sub_self]at w
        cases w
        refine⟨.ref g,by rw[q3,List.getElem?_append_right (Nat.le_refl _),Nat.sub_self];rfl,g,[],rfl,by rw[if_pos T.symm],?_,rfl⟩
        show upd (upd s.H g _) a _ g=_
        rw[Ah (Ne.symm S),Av]
      ·rcases z with z | ⟨i,z⟩
       ·exact f.fr b (.inl z)
       ·rcases M i b z with ⟨_,q⟩ | ⟨_,q⟩
        ·rw[q];exact⟨P.notF n,P.notS n⟩
        ·exact f.fr b (.inr ⟨i,q⟩)
      ·rcases M i b z with ⟨q,p1⟩ | ⟨q,p1⟩
       ·rcases M i' b z' with ⟨q',Q⟩ | ⟨q',Q⟩
        ·rw[q,q']
        ·exact absurd p1 (A b (.inr ⟨i',Q⟩))
       ·rcases M i' b z' with ⟨q',Q⟩ | ⟨q',Q⟩
        ·exact absurd Q (A b (.inr ⟨i,p1⟩))
        ·exact f.dis i i' b p1 Q
      ·rcases M i a z with ⟨_,q⟩ | ⟨_,q⟩
       ·exact S q
       ·exact f.na i q
      ·by_cases q:b=a
       ·rw[q];exact⟨_,Av,trivial⟩
       ·by_cases B:b=g
        ·rw[B];exact⟨.lst [],by show upd (upd s.H g _) a _ g=_;rw[Ah (Ne.symm S),Av],trivial⟩
        ·have zX:DX a X b:=by
          rcases z with z | ⟨i,z⟩
          ·exact .inl z
          ·rcases M i b z with ⟨_,q⟩ | ⟨_,q⟩
           ·exact absurd q B
           ·exact .inr ⟨i,q⟩
         obtain⟨o,e,mu⟩:=f.mu b zX
         exact⟨o,by show upd (upd s.H g _) a _ b=_;rw[Ah q,Ah B];exact e,mu⟩
      ·rw[List.length_append]at Z
       show (if i=m.length then [g] else X i)=[]
       have:F.length+1<=i:=Z
       rw[if_neg (by omega)]
       exact f.out i (by omega)
      ·rcases List.mem_append.mp O with O | O
       ·exact f.ky x O
       ·rw[List.mem_singleton.mp O];exact t
      ·rw[List.nodup_append]
       refine⟨f.nd,by simp,λx O y hy e=>?_⟩
       rw[List.mem_singleton.mp hy]at e;exact Y (e▸O)
     exact Y5 he H.1 hs hd3 ej (by rw[if_pos rfl]) (zO.step r (J.moreX.trans H.2))
  ·rw[if_neg I]at r;exact r.elim
end
theorem Aj0 {H:Hp}:∀{ds:List PyData}{vs:List V},ds.length=vs.length->(∀(j:Nat) (x:PyData) (v:V),ds[j]?=some x->vs[j]?=some v->Tr H x v)->TrL H ds vs
 | [],[],_,_=>rfl
 | [],_::_,l,_=>nomatch l
 | _::_,[],l,_=>nomatch l
 | x::ds,v::vs,l,h=>⟨v,vs,rfl,h 0 x v rfl rfl,Aj0 (Nat.succ.inj l) λj y u e1 e2=>h (j+1) y u (by simpa using e1) (by simpa using e2)⟩
section
variable {K:PySem.W.Frag}{β:Nat->V}{W:Wo}{c:Ev}{σ:St}{Hf H:Hp}{a:Addr}{ks:List PyData}{es:List DE}{X:Nat->List Addr}{d:Nat}{D:Ends}
open Classical in
noncomputable def Q7 (W:Wo) (a:Addr) (u:HO) (X:Nat->List Addr):Hp:=λb=>if b=a then some u else if ∃j,b∈X j then W.H b else W.Hf b
theorem Ax3 : Q7 W a u X a=some u:=by unfold Q7;grind
theorem Ak4 (n:b≠a) (h:b∈X j):Q7 W a u X b=W.H b:=by unfold Q7;rw[if_neg n,if_pos ⟨j,h⟩]
theorem O8 (h:¬ DX a X b):Q7 W a u X b=W.Hf b:=by unfold Q7;rw[if_neg λz=>h (.inl z),if_neg λz=>h (.inr z)]
theorem DB.same (hd:DB W a ks es X):Same W.Hf (Q7 W a u X):=λb u e=>by
 rw[O8];exact e;intro z;rw[(hd.fr b z).1]at e;grind
theorem DB.sub (hd:DB W a ks es X) (R:Rep K β W c σ):Same (Q7 W a u X) (upd W.H a u):=λb v e=>by
 by_cases z0:b=a
 ·subst z0;rw[Ax3]at e;rw[Av];omega
 ·rw[Ah z0]
  by_cases z:DX a X b
  ·rcases z with z | ⟨j,z⟩
   ·grind
   ·rw[Ak4 z0 z]at e;grind
  ·rw[O8 z]at e;exact R.sub b v e
theorem DB.done (hd:DB W a ks es X) (hv:W.H a=some (.dT (ks.zip vs))) (hl:ks.length=vs.length):RepT K (Q7 W a (.frz o (.dT (ks.zip vs))) X) (.ds ks (es.map DE.dat)) (.ref a):=by
 obtain⟨c,f,g,q3,s⟩:=hd.at_
 have n:c=vs:=by
  rw[hv]at f
  have e:=congrArg (λx => x.map (·.2)) (show ks.zip _=ks.zip _ from by injection Option.some.inj f)
  simp only[List.map_snd_zip (Nat.le_of_eq hl.symm),List.map_snd_zip (Nat.le_of_eq g.symm)]at e
  simp_all
 subst n
 refine⟨a,o,c,rfl,Ax3,Aj0 (by grind) λj x v i w=>?_,g⟩
 rw[List.getElem?_map]at i;obtain⟨e,p,rfl⟩:=Option.map_eq_some_iff.mp i;obtain⟨u,h,k⟩:=s j e p;rw[w]at h
 cases h
 cases e with
 | d x=>exact Tr.same hd.same k.2
 | l xs =>
  obtain⟨b,q,rfl,g1,g2,t⟩:=k
  have m:b∈X j:=by simp_all
  have r:b≠a:=λz=>hd.na j (z▸m)
  exact⟨b,q,rfl,by rw[Ak4 r m];grind,TrL.same hd.same t⟩
theorem Rep.hide (R:Rep K β W c σ) (hp:W.H p=none):Rep K β ⟨W.Hf,upd W.H p o,clr W.fps d⟩ (c.set d none) (σ.set d (some v)):=by
 refine⟨O6 R.sub hp,by rw[List.length_set,List.length_set];exact R.len,λj f e=>?_,λj k a m n=>R.dis j k a (Ec m).1 (Ec n).1,λj a h=>?_⟩
 ·have z:j≠d:=λz=>by
   grind
  rw[List.getElem?_set_ne (λy=>z y.symm)]at e
  obtain⟨g,w,r,b⟩:=R.get j f e
  refine⟨g,by grind,?_,b⟩
  show RepO K W.Hf (upd W.H p o) f g (clr W.fps d j)
  have s:clr W.fps d j=W.fps j:=by unfold clr;rw[if_neg z]
  rw[s]
  exact r.mono (Same.refl _) λa i=>⟨(R.own j a i).1,Ah λq=>by obtain⟨_,o,e,_⟩:=R.own j a i;rw[q,hp]at e;cases e⟩
 ·obtain⟨t,f,u,l⟩:=R.own j a (Ec h).1
  exact⟨t,f,by show upd _ p o a=_;rw[Ah λq=>by simp_all];exact u,l⟩
def Tg (d:Nat)(F:BF)(g:Ev->SR):Ev->SR:=λc=>if Em d (c.set d none)=true then match F (c.set d none) [] [] with
 | .nx c ks es=>g (c.set d (some (.ty (.ds ks (es.map DE.dat)))))
 | .bad=>.bad
 else .bad
theorem Aw1 (h1:MB K d T F) (h2:MS K u g):MS K (Us (Uy Ag8 (Ey d)) (tFz d T u)) (Tg d F g):=by
 intro C W c J D R l
 show ∀p,W.H p=none->T { D with nx:=λw M=>∃a kvs,w[d]?=some (some (.ref a))/\M a=some (.dT kvs)/\∀o,u D w (upd M a (.frz o (.dT kvs))) } (J.set d (some (.ref p))) (upd W.H p (.dT []))
 intro p A;unfold Tg at l
 by_cases z:Em d (c.set d none)=true
 ·rw[if_pos z]at l
  have hc:=Li z
  have H:d<c.length:=by
   grind
  have Z:(J.set d (some (.ref p)))[d]?=some (some (V.ref p)):=List.getElem?_set_self (by rw[<- R.len];exact H)
  have R1:Rep K C ⟨W.Hf,upd W.H p (.dT []),clr W.fps d⟩ (c.set d none) (J.set d (some (.ref p))):=R.hide A
  have x:∀b,DX p (λ_=>[]) b->b=p:=λb z=>by
   rcases z with z | ⟨_,z⟩
   ·exact z
   ·cases z
  have U:∀b,Wo.S ⟨W.Hf,upd W.H p (.dT []),clr W.fps d⟩ b->W.S b:=λb ⟨j,h⟩=>⟨j,(Ec h).1⟩
  have S:DB ⟨W.Hf,upd W.H p (.dT []),clr W.fps d⟩ p [] [] (λ_=>[]) :=
   ⟨⟨[],Av,rfl,rfl,λj e ej=>by simp at ej⟩,λb z=>by rw[x b z];exact⟨R.notF A,λq=>R.notS A (U p q)⟩,λi j b z=>(by cases z),λj z=>(by cases z),λb z=>by rw[x b z];exact⟨_,Av,trivial⟩,λ_ _=>rfl,λk Y=>(by cases Y),List.nodup_nil⟩
  have I:Stp W.S W.Hf W.H (orX (Wo.S ⟨W.Hf,upd W.H p (.dT []),clr W.fps d⟩) p (λ_=>[])) W.Hf (upd W.H p (.dT [])) :=
   ⟨Same.refl _,λb o e _=>by rw[Ah (λq=>by rw[q,A]at e;cases e)];exact e,λ_ _ _ _ _ q=>q,λb z=>by
    grind⟩
  refine h1 C _ _ _ _ p [] [] _ R1 hc Z S ?_
  cases eF:F (c.set d none) [] [] with
  | bad=>rw[eF]at l;exact l.elim
  | nx c2 r es =>
   rw[eF]at l;intro s m y st G X E f;obtain⟨t,N,q2,_,_⟩:=f.at_
   refine⟨p,r.zip t,E,N,λo=>?_⟩
   have R3:Rep K C ⟨Q7 m p (.frz o (.dT (r.zip t))) y,upd m.H p (.frz o (.dT (r.zip t))),m.fps⟩ c2 s:=G.frame f.same (f.sub G) λb O=>by
    have P:¬ DX p y b:=λz=>(f.fr b z).2 O
    obtain⟨i,hi⟩:=O
    exact⟨by rw[O8 P];exact(G.own i b hi).1,Ah (λz=>P (.inl z))⟩
   have Q:=R3.setN (i:=d) (o:=.ty (.ds r (es.map DE.dat))) (v:=.ref p) (f.done (K:=K) N q2) rfl
   have L:s.set d (some (.ref p))=s:=by
    apply List.ext_getElem?
    grind
   rw[L]at Q
   have B:Stp (orX m.S p y) m.Hf m.H (Wo.S ⟨Q7 m p (.frz o (.dT (r.zip t))) y,upd m.H p (.frz o (.dT (r.zip t))),clr m.fps d⟩) (Q7 m p (.frz o (.dT (r.zip t))) y) (upd m.H p (.frz o (.dT (r.zip t)))) :=
    ⟨f.same,λb o e n=>by rw[Ah λz=>n (.inr (.inl z))];exact e,λb o _ _ n q=>by rw[O8 λz=>n (.inr z)];exact q,λb ⟨j,h⟩=>.inl (.inl ⟨j,(Ec h).1⟩)⟩
   exact h2 _ _ _ _ D Q (zM.step l (I.trans (st.trans B)))
 ·rw[if_neg z]at l;exact l.elim
end
variable {K:PySem.W.Frag}
def Tq:PyData->PyData->Option O
 | .list a,.int k=>if a.length*k.toNat<=16000000&&(decide (-16000000<=k)&&decide (k<=16000000)) then some (.ls false (Bj5 a k.toNat)) else none
 | _,_=>none
theorem A2o:OpS K Bb7 Tq:=by
 intro k H x y i j o Q s f h e n;unfold Tq at e
 split at e
 ·split at e
  ·rename_i l
   cases e
   simp at l
   obtain⟨p,d,c,g,a⟩:=Ig f
   exact⟨p,_,d,c,Di h,g,by omega,by omega,by rw[<- a.length];exact lim l.1,λr b=>n.lst s (Al6 a _) b⟩
  ·cases e
 grind
theorem Bo {p a:Pos}(D:Def X.prog X.w X.K X.mg X.base x k ps sp) (hr:Room c X.A) (ha:QA X (e::es) t) (h:k<=c:=by omega) (hg:Gl X x:=by rfl)
 (hdb:(x==("__debug__" : Str))=false:=by decide) (hn:noStar (e::es)=true:=by rfl):QE X (.Call (.Name x p) (e::es) [] a) (Z6 sp [] E0 t):=by
 obtain⟨f,g,G,b,d,m⟩:=D;exact Aw5 G (hr.mono h) hg m d b .nil Bj0 ha hdb hn
end U
namespace L2
open PySem PySem.Spec PyProof.Rows
open PySem.AutoSeq1 (wpAny_loadPart')
end L2
namespace L2
open PySem PySem.Spec PyProof.Rows PySem.Calls
open PySem.AutoSeq1 (wpAny_loadPart')
end L2
namespace U
open PySem L2
end U
namespace U
open PySem L2 PySem.W
variable {K:PySem.W.Frag}{β:Nat->V}{W W':Wo}{c:Ev}{σ:St}{Hf H:Hp}
def Ug (fa:Ev->R PV):Ev->R PV:=λc=>(fa c).bind λp c=>match p with
 | .o (.ty (.ds ks ds))=>if ks.length=ds.length then .ok (.o (.ls false ds)) c else .bad
 | _=>.bad
theorem A1h {td:TE}{fa:Ev->R PV}(ha:ME K td fa):ME K (A1k td) (Ug fa):=by
 intro β W c σ Q R s
 refine ha β W c σ _ R ((s.bnd).mono λp c1 s1 v1 W1 fp1 st1 R1 r1=>?_)
 match p,r1,s1 with
 | .o (.ty (.ds ks ds)),r1,s1 =>
  obtain⟨⟨rfl,a,o,xs,rfl,h1,t1,l1⟩,_⟩:=r1
  have st1:Stp W.S W.Hf W.H W1.S W1.Hf W1.H:=st1.less λa z=>.inl z
  have s1:=(show U.R.sat (if ks.length=ds.length then U.R.ok (PV.o (.ls false ds)) c1 else .bad) _ from s1)
  by_cases hl:ks.length=ds.length
  ·rw[if_pos hl]at s1
   refine⟨a,o,ks.zip xs,rfl,R1.sub _ _ h1,λl hp=>?_⟩
   rw[List.map_snd_zip (Nat.le_of_eq l1.symm)]
   have n:=New.of (o:=.ls false ds) R1 (λv W' fp st R' rp=>s1 v W' fp (st1.trans st) R' rp)
   exact n.lst (λb u e=>R1.sub b u e) t1 hp
  ·rw[if_neg hl]at s1;exact s1.elim
 | .o (.ty (.nm _)),r1,s1=>exact s1.elim
 | .o (.ty (.tc _)),r1,s1=>exact s1.elim
 | .o (.ty (.xc _)),r1,s1=>exact s1.elim
 | .o (.ty (.dc _ _)),r1,s1=>exact s1.elim
 | .o (.ty (.dt _ _)),r1,s1=>exact s1.elim
 | .o (.ty (.td _ _ _)),r1,s1=>exact s1.elim
 | .o (.im _),r1,s1=>exact s1.elim
 | .o (.ls _ _),r1,s1=>exact s1.elim
 | .o (.sc _),r1,s1=>exact s1.elim
 | .sl _,r1,s1=>exact s1.elim
end U
namespace U
open PySem L2
section
variable {K:PySem.W.Frag}{β:Nat->V}{W W1:Wo}{c:Ev}{σ:St}{e:Nat}{a b:Addr}
theorem Rep.gone (R:Rep K β W c σ){v:V}:Rep K β W (c.set e none) (σ.set e (some v)):=by
 refine⟨R.sub,by rw[List.length_set,List.length_set];exact R.len,λj o' q=>?_,R.dis,R.own⟩
 have z:e≠j:=λz=>by
  subst z
  by_cases l:e<c.length
  ·rw[List.getElem?_set_self l]at q;cases q
  ·rw[List.getElem?_eq_none (by rw[List.length_set];omega)]at q;cases q
 rw[List.getElem?_set_ne z]at q ⊢;exact R.get j o' q
structure Ow (W:Wo) (a:Addr) (o:HO):Prop where
 at_:W.H a=some o
 fr:W.Hf a=none
 ns:¬ W.S a
theorem Ow.step {o:HO}(h:Ow W a o)(m:Mut (some o))(st:Stp W.S W.Hf W.H W1.S W1.Hf W1.H):Ow W1 a o :=
 ⟨st.kp a _ h.at_ h.ns,st.nf a _ h.at_ m h.ns h.fr,λz=>by
  rcases st.fr a z with q | q
  ·exact h.ns q
  ·rw[h.at_]at q;cases q⟩
theorem Ow.mk_new {o:HO}(R:Rep K β W c σ)(hp:W.H a=none):Rep K β ⟨W.Hf,upd W.H a o,W.fps⟩ c σ/\Ow ⟨W.Hf,upd W.H a o,W.fps⟩ a o :=
 ⟨R.frame (Same.refl _) (O6 R.sub hp) λb ⟨i,hb⟩=>by
  obtain⟨z,u,q,_⟩:=R.own i b hb
  exact⟨z,Ah (Bk q hp)⟩,Av,R.notF hp,R.notS hp⟩
theorem A3y {F:List Addr}{Hf H H':Hp}{S S':Addr->Prop}{Hf':Hp}{o:HO}(st:Stp S Hf H (orS S' F) Hf' H')(hp:H' a=none):Stp S Hf H (orS S' (a::F)) Hf' (upd H' a o) :=
 st.trans ⟨Same.refl _,λb u q _=>(Ah (Bk q hp)).trans q,λ_ _ _ _ _ q=>q,λb z=>by
  rcases z with z | z
  ·exact .inl (.inl z)
  ·rcases List.mem_cons.mp z with rfl | z
   ·exact .inr hp
   ·exact .inl (.inr z)⟩
theorem A3g {F:List Addr}{W2:Wo}(st:Stp W.S W.Hf W.H (orS W1.S F) W1.Hf W1.H)(x:Stp W1.S W1.Hf W1.H W2.S W2.Hf W2.H):Stp W.S W.Hf W.H (orS W2.S F) W2.Hf W2.H:=st.trans (Stp.more (F:=λb=>b∈F) x)
theorem Yq {α:Type}{xs:List α}{x:α}:atI (xs++[x]) (-1)=some x:=by
 unfold atI ixN
 rw[List.length_append,if_neg (by decide),if_pos (by simp;omega),Option.bind_some,show (-1+((xs.length+[x].length:Nat):Int)).toNat=xs.length by simp;omega,List.getElem?_append_right (Nat.le_refl _),Nat.sub_self]
 rfl
end
noncomputable def imK:Option O->Bool
 | none=>true
 | some (.im _)=>true
 | _=>false
def V4 (idx:List (Option Nat))(c:Ev):Ev:=idx.map λo=>o.bind λi=>(c[i]?).join
noncomputable def lsI (g:List Int):PyData:=.list (g.map .int)
def W8 (ft:Ev->R Bool)(ce:Ev):List (List Int)->Option (List Bool)
 | []=>some []
 | g::gs=>match ft (ce.set 0 (some (.im (lsI g)))) with
  | .ok b _=>(W8 ft ce gs).map (b::·)
  | .bad=>none
noncomputable def Ei {α:Type}:List Bool->List α->List α
 | b::bs,x::xs=>if b=true then x::Ei bs xs else Ei bs xs
 | _,_=>[]
noncomputable def Ar0:List Bool->Option Nat
 | []=>none
 | b::bs=>if b=true then some 0 else (Ar0 bs).map (·+1)
def Wb (n r t:Nat)(idx:List (Option Nat))(ft fq:Ev->R Bool)(cB:Ev)(gs:List (List Int))(d:PyData):Option (List (List Int)):=match d with
 | .tuple [.int k,row]=>(W8 ft (V4 idx ((cB.set n (some (.im (.int k)))).set r (some (.im row)))) gs).bind λbs =>
  match fq (((cB.set n (some (.im (.int k)))).set r (some (.im row))).set t (some (.im (.list ((Ei bs gs).map lsI))))) with
  | .ok true _=>some (gs++[[k]])
  | .ok false _=>(Ar0 bs).map λj=>gs.modify j (·++[k])
  | .bad=>none
 | _=>none
def Ab0 (n r t:Nat)(idx:List (Option Nat))(ft fq:Ev->R Bool)(cB:Ev):List PyData->List (List Int)->Option (List (List Int))
 | [],gs=>some gs
 | d::ds,gs=>(Wb n r t idx ft fq cB gs d).bind (Ab0 n r t idx ft fq cB ds)
noncomputable def N5 (f n r t:Nat) (c:Ev):Ev:=(((c.set f none).set t none).set n none).set r none
def A3o (f n r t:Nat)(idx:List (Option Nat))(fi:Ev->R (List PyData))(ft fq:Ev->R Bool):Ev->SR:=λc =>
 if (f<c.length/\n<c.length/\r<c.length/\t<c.length)/\f≠n/\f≠r/\f≠t/\n≠r/\t≠n/\t≠r then (fi (c.set f none)).toS λds c1 =>
  if c1.all imK=true/\ds.length<16000000/\c1.length=c.length then match Ab0 n r t idx ft fq (N5 f n r t c1) ds [] with
   | some gs=>.rt (.o (.ls false (gs.map lsI))) (N5 f n r t c1)
   | none=>.bad
  else .bad
 else .bad
def Bn6 (K:PySem.W.Frag)(f n r t:Nat)(wi:TI)(idx:List (Option Nat))(tc tq:TT):TS :=
 Us (Uy (Zf Dy) (Ey f))
  (Us (A1n wi (Ab3 K 2 (Mi (Ey n) (Mi (Ey r) Af2)))
   (Us (Uy (tLC idx (W7 K (Gg f)) (Ey 0) tc (Gg 0)) (Ey t))
    (Ae7 tq (Ld (tBM K "list" rAppF (Gg f) (Cd (Zf (Cd (Gg n) Dy)) Dy)))
     (Ld (tBM K "list" rAppF (tOp (A3m K) (Gg t) (tC (.int 0))) (Cd (Gg n) Dy))))))
   (Bd7 (Gg f)))
structure LI (Hf H:Hp) (c:Ev) (σ:St):Prop where
 sub:Same Hf H
 len:c.length=σ.length
 get:∀(i:Nat) (d:PyData),c[i]?=some (some (O.im d))->∃v,σ[i]?=some (some v)/\Tr Hf d v
section
variable {K:PySem.W.Frag}{β:Nat->V}{W W0 W1:Wo}{c c':Ev}{σ σ':St}{Hf Hf' H H':Hp}{d:PyData}{v:V}{i f n r t:Nat}{p:Addr}{bs:List Addr}{gs:List (List Int)}
theorem Rep.li (R:Rep K β W c σ):LI W.Hf W.H c σ:=⟨R.sub,R.len,λi d q=>by
 obtain⟨v,g1,g2,_⟩:=R.get i _ q
 exact⟨v,g1,g2.2⟩⟩
theorem LI.rep (L:LI Hf H c σ)(h:c.all imK=true):Rep K β ⟨Hf,H,λ_=>[]⟩ c σ:=by
 refine⟨L.sub,L.len,λi o q=>?_,λi j a z=>(nomatch z),λi a z=>(nomatch z)⟩
 have pl:=List.all_eq_true.mp h (some o) (List.mem_of_getElem? q)
 cases o with
 | im d=>obtain⟨v,g1,g2⟩:=L.get i d q;exact⟨v,g1,⟨rfl,g2⟩,λz=>nomatch z⟩
 | ls b d=>cases pl
 | sc d=>cases pl
 | ty d=>cases pl
theorem LI.mono (L:LI Hf H c σ)(s:Same Hf Hf')(s':Same Hf' H'):LI Hf' H' c σ:=⟨s',L.len,λi d q=>by
 obtain⟨v,g1,g2⟩:=L.get i d q
 exact⟨v,g1,Tr.same s g2⟩⟩
theorem LI.put (L:LI Hf H c σ)(h:Tr Hf d v):LI Hf H (c.set i (some (.im d))) (σ.set i (some v)):=by
 refine⟨L.sub,by rw[List.length_set,List.length_set];exact L.len,λj e q=>?_⟩
 by_cases z:i=j
 ·subst z
  have l:i<c.length:=by
   rcases Nat.lt_or_ge i c.length with l | l
   ·exact l
   ·rw[List.getElem?_eq_none (by rw[List.length_set];exact l)]at q;cases q
  rw[List.getElem?_set_self l]at q;cases q
  exact⟨v,List.getElem?_set_self (by rw[<- L.len];exact l),h⟩
 ·rw[List.getElem?_set_ne z]at q ⊢
  exact L.get j e q
theorem LI.none (L:LI Hf H c σ){x:Option V}:LI Hf H (c.set i none) (σ.set i x):=by
 refine⟨L.sub,by rw[List.length_set,List.length_set];exact L.len,λj e q=>?_⟩
 by_cases z:i=j
 ·subst z
  by_cases l:i<c.length
  ·rw[List.getElem?_set_self l]at q;cases q
  ·rw[List.getElem?_eq_none (by rw[List.length_set];omega)]at q;cases q
 ·rw[List.getElem?_set_ne z]at q ⊢
  exact L.get j e q
theorem LI.noneC (L:LI Hf H c σ):LI Hf H (c.set i Option.none) σ:=by
 refine⟨L.sub,by rw[List.length_set];exact L.len,λj e q=>?_⟩
 by_cases z:i=j
 ·subst z
  by_cases l:i<c.length
  ·rw[List.getElem?_set_self l]at q;cases q
  ·rw[List.getElem?_eq_none (by rw[List.length_set];omega)]at q;cases q
 ·rw[List.getElem?_set_ne z]at q
  exact L.get j e q
theorem LI.inn (L:LI Hf H c σ)(idx:List (Option Nat)):LI Hf H (V4 idx c) (cst idx σ):=by
 refine⟨L.sub,by unfold V4 cst;rw[List.length_map,List.length_map],λj e q=>?_⟩
 unfold V4 at q;unfold cst;rw[List.getElem?_map]at q ⊢
 cases h:idx[j]? with
 | none=>rw[h]at q;cases q
 | some o =>
  rw[h]at q
  cases o with
  | none=>cases q
  | some k =>
   have q:(c[k]?).join=some (.im e):=Option.some.inj q;obtain⟨v,g1,g2⟩:=L.get k e (Option.join_eq_some_iff.mp q)
   refine⟨v,?_,g2⟩
   show some ((σ[k]?).join)=_
   rw[g1];rfl
theorem Io {x:Option O}(h:c.all imK=true)(hx:imK x=true):(c.set i x).all imK=true:=List.all_eq_true.mpr λy hy=>by
 rcases List.mem_or_eq_of_mem_set hy with z | z
 ·exact List.all_eq_true.mp h y z
 ·rw[z];exact hx
theorem A5x (h:c.all imK=true)(idx:List (Option Nat)):(V4 idx c).all imK=true:=List.all_eq_true.mpr λy hy=>by
 obtain⟨o,ho,rfl⟩:=List.mem_map.mp hy
 cases o with
 | none=>rfl
 | some k =>
  show imK ((c[k]?).join)=true
  cases e:c[k]? with
  | none=>rfl
  | some x=>exact List.all_eq_true.mp h x (List.mem_of_getElem? e)
theorem Av7 (h:c.all imK=true):(N5 f n r t c).all imK=true:=Io (Io (Io (Io h rfl) rfl) rfl) rfl
noncomputable def Gu (Hf H:Hp) (bs:List Addr):Hp:=λa=>if a∈bs then H a else Hf a
theorem Tf (s:Same Hf H):Same (Gu Hf H bs) H:=λa o e=>by
 unfold Gu at e
 split at e
 ·exact e
 ·exact s a o e
theorem Qh (h:∀b∈bs,Hf b=none):Same Hf (Gu Hf H bs):=λa o e=>by
 unfold Gu
 rw[if_neg λz=>by rw[h a z]at e;cases e];exact e
theorem Wv {b:Addr}(h:b∈bs):Gu Hf H bs b=H b:=if_pos h
theorem Td {g:List Int}:TrL Hf (g.map PyData.int) (g.map V.int):=by
 induction g with
 | nil=>rfl
 | cons x r ih=>exact⟨V.int x,r.map V.int,rfl,rfl,ih⟩
structure AlI (W0:Wo) (Hf H:Hp) (cB:Ev) (σ:St) (f:Nat) (p:Addr) (bs:List Addr) (gs:List (List Int)):Prop where
 L:LI Hf H cB σ
 sp:σ[f]?=some (some (.ref p))
 ap:H p=some (.lst (bs.map V.ref))
 fp:Hf p=none
 p0:W0.S p\/W0.H p=none
 ab:∀(j:Nat) b,bs[j]?=some b->∃g,gs[j]?=some g/\H b=some (.lst (g.map V.int))
 fb:∀b∈bs,Hf b=none
 b0:∀b∈bs,W0.S b\/W0.H b=none
 ln:bs.length=gs.length
 nd:bs.Nodup
 np:p∉bs
 st:Stp W0.S W0.Hf W0.H (λa=>a=p) Hf H
theorem Zq {S S':Addr->Prop}{Hf0 H0:Hp}(st:Stp S Hf0 H0 S' Hf H)(s:Same H H'):Stp S Hf0 H0 S' Hf H':=⟨st.fz,λa o e n=>s a o (st.kp a o e n),st.nf,st.fr⟩
theorem Ai4 {S S':Addr->Prop}{Hf0 H0:Hp}{o:HO}(st:Stp S Hf0 H0 S' Hf H)(h:S p\/H0 p=none):Stp S Hf0 H0 S' Hf (upd H p o):=⟨st.fz,λa u e n=>(Ah (λz:a=p=>h.elim (λy=>n (by rw[z];exact y)) λy=>by rw[z,y]at e;cases e)).trans (st.kp a u e n),st.nf,st.fr⟩
theorem AlI.grow (h:AlI W0 Hf H c σ f p bs gs)(s:Same H H'):AlI W0 Hf H' c σ f p bs gs :=
 ⟨h.L.mono (Same.refl _) (h.L.sub.trans s),h.sp,s _ _ h.ap,h.fp,h.p0,λj b e=>(h.ab j b e).imp λg q=>⟨q.1,s _ _ q.2⟩,h.fb,h.b0,h.ln,h.nd,h.np,Zq h.st s⟩
theorem AlI.names (h:AlI W0 Hf H c σ f p bs gs)(L:LI Hf H c' σ')(sp:σ'[f]?=some (some (.ref p))):AlI W0 Hf H c' σ' f p bs gs:=⟨L,sp,h.ap,h.fp,h.p0,h.ab,h.fb,h.b0,h.ln,h.nd,h.np,h.st⟩
theorem Wy {α:Type}{l:List α}{x:α}(h:x∈l):∃j:Nat,l[j]?=some x:=List.getElem?_of_mem h
theorem AlI.more (h:AlI W0 Hf H c σ f p bs gs){q:Addr}{k:Int}(hq:H q=none):AlI W0 Hf (upd (upd H q (.lst [V.int k])) p (.lst (bs.map V.ref++[V.ref q]))) c σ f p (bs++[q]) (gs++[[k]]):=by
 have s1:Same H (upd H q (.lst [V.int k])):=Bt hq
 have npq:p≠q:=λz=>by rw[<- z,h.ap]at hq;cases hq
 have fq:Hf q=none:=Same.free h.L.sub hq
 have q0:W0.S q\/W0.H q=none:=by
  by_cases z:W0.S q
  ·exact .inl z
  ·refine .inr ?_
   cases e:W0.H q with
   | none=>rfl
   | some o=>have:=h.st.kp q o e z;rw[hq]at this;cases this
 have nb:∀b∈bs,b≠q:=λb hb z=>by
  obtain⟨j,e⟩:=Wy hb;obtain⟨g,_,w⟩:=h.ab j b e;rw[z,hq]at w;cases w
 refine⟨h.L.mono (Same.refl _) λa o e=>(Ah λz=>by rw[z,h.fp]at e;cases e).trans (s1 _ _ (h.L.sub a o e)),h.sp,by rw[List.map_append];exact Av,h.fp,h.p0,λj b e=>?_,λb hb=>?_,λb hb=>?_,by rw[List.length_append,List.length_append,h.ln];rfl,?_,?_,Ai4 (Zq h.st s1) h.p0⟩
 ·by_cases l:j<bs.length
  ·rw[List.getElem?_append_left l]at e
   obtain⟨g,w1,w2⟩:=h.ab j b e
   exact⟨g,by rw[List.getElem?_append_left (by rw[<- h.ln];exact l)];exact w1,(Ah (λz:b=p=>h.np (by rw[<- z];exact List.mem_of_getElem? e))).trans (s1 _ _ w2)⟩
  ·rw[List.getElem?_append_right (by omega)]at e
   have:j-bs.length=0:=by
    rcases Nat.eq_zero_or_pos (j-bs.length) with z | z
    ·exact z
    ·rw[List.getElem?_eq_none (by show 1<=_;omega)]at e;cases e
   rw[this]at e
   cases e
   exact⟨[k],by have hl:=h.ln;rw[List.getElem?_append_right (by omega),show j-gs.length=0 by omega];rfl,(Ah (Ne.symm npq)).trans Av⟩
 ·rcases List.mem_append.mp hb with z | z
  ·exact h.fb b z
  ·rw[List.mem_singleton.mp z];exact fq
 ·rcases List.mem_append.mp hb with z | z
  ·exact h.b0 b z
  ·rw[List.mem_singleton.mp z];exact q0
 ·exact List.nodup_append.mpr ⟨h.nd,by simp,λa ha b hb=>by rw[List.mem_singleton.mp hb];exact nb a ha⟩
 ·intro z
  rcases List.mem_append.mp z with z | z
  ·exact h.np z
  ·exact npq (List.mem_singleton.mp z)
theorem AlI.push (h:AlI W0 Hf H c σ f p bs gs){j:Nat}{b:Addr}{g:List Int}{k:Int}(hb:bs[j]?=some b)(hg:gs[j]?=some g):AlI W0 Hf (upd H b (.lst (g.map V.int++[V.int k]))) c σ f p bs (gs.modify j (·++[k])):=by
 have mb:=List.mem_of_getElem? hb
 have npb:p≠b:=λz=>h.np (z▸mb)
 refine⟨h.L.mono (Same.refl _) λa o e=>(Ah λz=>by rw[z,h.fb b mb]at e;cases e).trans (h.L.sub a o e),h.sp,(Ah npb).trans h.ap,h.fp,h.p0,λi b' e=>?_,h.fb,h.b0,by rw[List.length_modify];exact h.ln,h.nd,h.np,Ai4 h.st (h.b0 b mb)⟩
 obtain⟨g',w1,w2⟩:=h.ab i b' e
 by_cases z:j=i
 ·subst z
  rw[hb]at e;cases e;rw[hg]at w1;cases w1
  exact⟨g++[k],by rw[List.getElem?_modify,hg];simp,by rw[Av,List.map_append];rfl⟩
 ·refine⟨g',by rw[List.getElem?_modify,w1];simp[z],(Ah λy=>?_).trans w2⟩
  subst y;have l1:i<bs.length:=(List.getElem?_eq_some_iff.mp e).1;have l2:j<bs.length:=(List.getElem?_eq_some_iff.mp hb).1;have:=(List.getElem?_inj l2 h.nd).mp (hb.trans e.symm);exact z this
theorem LI.dead (L:LI Hf H c σ){x:Option V}(h:∀d,c[i]?≠some (some (O.im d))):LI Hf H c (σ.set i x):=by
 refine⟨L.sub,by rw[List.length_set];exact L.len,λj e q=>?_⟩
 by_cases z:i=j
 ·subst z;exact absurd q (h e)
 ·rw[List.getElem?_set_ne z];exact L.get j e q
theorem Uk {ft:Ev->R Bool}{ce:Ev}:∀{gs:List (List Int)}{bb:List Bool},W8 ft ce gs=some bb->bb.length=gs.length/\∀(i:Nat) g,gs[i]?=some g->∃b c',ft (ce.set 0 (some (.im (lsI g))))=.ok b c'/\bb[i]?=some b
 | [],bb,h=>by cases h;exact⟨rfl,λi g q=>nomatch q⟩
 | g::gs,bb,h=>by
  unfold W8 at h
  cases e:ft (ce.set 0 (some (.im (lsI g)))) with
  | bad=>rw[e]at h;cases h
  | ok b c' =>
   rw[e]at h;obtain⟨b2,h2,rfl⟩:=Option.map_eq_some_iff.mp h;obtain⟨q1,q2⟩:=Uk h2
   refine⟨by rw[List.length_cons,List.length_cons,q1],λi g' q=>?_⟩
   cases i with
   | zero=>cases q;exact⟨b,c',e,rfl⟩
   | succ i=>exact q2 i g' q
theorem Vo {α:Type}:∀{i:Nat}{bb:List Bool}{xs:List α}{b:Bool}{x:α},bb[i]?=some b->xs[i]?=some x->Ei (bb.take (i+1)) (xs.take (i+1))=Ei (bb.take i) (xs.take i)++(if b=true then [x] else [])
 | 0,b0::bb,x0::xs,b,x,h1,h2=>by cases h1;cases h2;cases b0 <;> rfl
 | i+1,b0::bb,x0::xs,b,x,h1,h2=>by
  have ih:=Vo (i:=i) (bb:=bb) (xs:=xs) (b:=b) (x:=x) h1 h2
  show Ei (b0::bb.take (i+1)) (x0::xs.take (i+1))=Ei (b0::bb.take i) (x0::xs.take i)++_
  unfold Ei;rw[ih]
  cases b0 <;> rfl
 | _,[],_,_,_,h1,_=>nomatch h1
 | _,_,[],_,_,_,h2=>nomatch h2
theorem Zr {α:Type}:∀{bb:List Bool}{xs:List α},(Ei bb xs).length<=bb.length
 | [],_=>Nat.zero_le _
 | _::_,[]=>Nat.zero_le _
 | b::bb,x::xs=>by
  unfold Ei;have:=Zr (bb:=bb) (xs:=xs)
  split
  ·rw[List.length_cons,List.length_cons];omega
  ·rw[List.length_cons];omega
theorem Qu {H:Hp}{a:Addr}:¬ Wo.S ⟨Hf,H,λ_=>[]⟩ a:=λ⟨_,z⟩=>nomatch z
theorem Av9 {tc:TT}{ft:Ev->R Bool}{idx:List (Option Nat)}{Q:VK}{bb:List Bool}(hT:MT K tc ft)(h:AlI W0 Hf H c σ f p bs gs)(hc:c.all imK=true)(h0:0<idx.length)
 (e:W8 ft (V4 idx c) gs=some bb) (hz:bs.length<=sizeLine)
 (k:∀q H1,Same H H1->H1 q=none->Q (.ref q) (upd H1 q (.lst (Ei bb (bs.map V.ref))))):tLC idx (W7 K (Gg f)) (Ey 0) tc (Gg 0) σ H Q:=by
 obtain⟨lb,gt⟩:=Uk e;have lx:(bs.map V.ref).length=bs.length:=List.length_map ..
 refine lw_seq.mpr ⟨_,h.sp,p,rfl,.inl ⟨_,h.ap,A6f (λi σc acc H1=>∃Hg,Same (Gu Hf H bs) Hg/\Same H H1/\LI Hg H1 ((V4 idx c).set 0 none) σc/\acc=Ei (bb.take i) ((bs.map V.ref).take i))
  ⟨Gu Hf H bs,Same.refl _,Same.refl _,LI.noneC ((h.L.mono (Qh h.fb) (Tf h.L.sub)).inn idx),rfl⟩ (λi σc acc H1 hi ⟨Hg,s1,s2,L,ea⟩=>⟨s2 _ _ h.ap,?_⟩) (by rw[lx];exact hz) (λi x σc acc H1 hx ⟨Hg,s1,s2,L,ea⟩=>?_) (λσc acc H1 ⟨Hg,s1,s2,L,ea⟩ q hq=>?_)⟩⟩
 ·rw[ea];exact Nat.le_trans Zr (by rw[List.length_take];omega)
 ·rw[List.getElem?_map]at hx
  obtain⟨b,hb,rfl⟩:=Option.map_eq_some_iff.mp hx;obtain⟨g,hg,hH⟩:=h.ab i b hb;obtain⟨tb,c',eb,ebb⟩:=gt i g hg;have tr:Tr Hg (lsI g) (.ref b):=⟨b,_,rfl,s1 _ _ ((Wv (List.mem_of_getElem? hb)).trans hH),Td⟩;have L2:=L.put (i:=0) tr;rw[List.set_set]at L2
  have hl:0<σc.length:=by have:=L.len;rw[List.length_set]at this;rw[<- this];unfold V4;rw[List.length_map];exact h0
  show tc (σc.set 0 (some (.ref b))) H1 _
  refine hT (λ_=>.non) _ _ _ _ (L2.rep (Io (A5x hc idx) rfl)) ?_
  rw[eb];intro W2 st2 R2
  have sH:Same H1 W2.H:=λa o e=>st2.kp a o e Qu
  have Pn:∃Hg,Same (Gu Hf H bs) Hg/\Same H W2.H/\LI Hg W2.H ((V4 idx c).set 0 none) (σc.set 0 (some (.ref b))) :=
   ⟨W2.Hf,s1.trans st2.fz,s2.trans sH,by
    have:=(L.none (i:=0) (x:=some (.ref b))).mono st2.fz R2.sub
    rw[List.set_set]at this;exact this⟩
  obtain⟨Hg2,p1,p2,p3⟩:=Pn
  have hs:=Vo ebb (xs:=bs.map V.ref) (x:=V.ref b) (by rw[List.getElem?_map,hb];rfl)
  cases tb with
  | true =>
   show (if true=true then _ else _)
   rw[if_pos rfl]
   exact⟨_,List.getElem?_set_self hl,Hg2,p1,p2,p3,by rw[hs,ea];rfl⟩
  | false =>
   rw[if_neg Bool.false_ne_true]
   exact⟨Hg2,p1,p2,p3,by rw[hs,ea];exact(List.append_nil _).symm⟩
 ·rw[ea,List.take_of_length_le (by rw[lx,lb,h.ln];exact Nat.le_refl _),List.take_of_length_le (Nat.le_refl _)]
  exact k q H1 s2 hq
theorem Ah6 {Hg:Hp}:∀{bb:List Bool}{bs:List Addr}{gs:List (List Int)},(∀(j:Nat) b,bs[j]?=some b->∃g,gs[j]?=some g/\Hg b=some (.lst (g.map V.int)))->bs.length=gs.length->TrL Hg ((Ei bb gs).map lsI) (Ei bb (bs.map V.ref))
 | [],_,_,_,_=>rfl
 | _::_,[],[],_,_=>rfl
 | b::bb,a::bs,g::gs,h,l=>by
  have ih:=Ah6 (bb:=bb) (bs:=bs) (gs:=gs) (λj b e=>h (j+1) b e) (Nat.succ.inj l)
  unfold Ei
  cases b with
  | true =>
   obtain⟨g',e,w⟩:=h 0 a rfl
   cases e
   exact⟨.ref a,_,rfl,⟨a,_,rfl,w,Td⟩,ih⟩
  | false=>exact ih
theorem A3h {Hg:Hp}:∀{bs:List Addr}{gs:List (List Int)},(∀(j:Nat) b,bs[j]?=some b->∃g,gs[j]?=some g/\Hg b=some (.lst (g.map V.int)))->bs.length=gs.length->TrL Hg (gs.map lsI) (bs.map V.ref)
 | [],[],_,_=>rfl
 | a::bs,g::gs,h,l=>by
  obtain⟨g',e,w⟩:=h 0 a rfl
  cases e
  exact⟨.ref a,_,rfl,⟨a,_,rfl,w,Td⟩,A3h (λj b e=>h (j+1) b e) (Nat.succ.inj l)⟩
theorem Ai5 {α β:Type}{fn:α->β}:∀{bb:List Bool}{xs:List α}{j:Nat},Ar0 bb=some j->bb.length=xs.length->∃x,xs[j]?=some x/\(Ei bb (xs.map fn))[0]?=some (fn x)
 | b::bb,x::xs,j,e,l=>by
  unfold Ar0 at e
  cases b with
  | true=>cases e;exact⟨x,rfl,rfl⟩
  | false =>
   obtain⟨i,hi,rfl⟩:=Option.map_eq_some_iff.mp e;obtain⟨y,h1,h2⟩:=Ai5 hi (Nat.succ.inj l) (fn:=fn);exact⟨y,h1,h2⟩
theorem A4h {S S':Addr->Prop}{Hf0 H0:Hp}(st:Stp S Hf0 H0 S' Hf H)(x:Stp (λ_=>False) Hf H (λ_=>False) Hf' H'):Stp S Hf0 H0 S' Hf' H' :=
 ⟨st.fz.trans x.fz,λa o e n=>x.kp a o (st.kp a o e n) λz=>z,λa o e m n q=>x.nf a o (st.kp a o e n) m (λz=>z) (st.nf a o e m n q),st.fr⟩
theorem AlI.step (h:AlI W0 Hf H c σ f p bs gs)(x:Stp (λ_=>False) Hf H (λ_=>False) Hf' H')(s:Same Hf' H'):AlI W0 Hf' H' c σ f p bs gs:=by
 have sH:Same H H':=λa o e=>x.kp a o e λz=>z
 refine⟨h.L.mono x.fz s,h.sp,sH _ _ h.ap,x.nf p _ h.ap trivial (λz=>z) h.fp,h.p0,λj b e=>(h.ab j b e).imp λg q=>⟨q.1,sH _ _ q.2⟩,λb hb=>?_,h.b0,h.ln,h.nd,h.np,A4h h.st x⟩
 obtain⟨j,e⟩:=Wy hb;obtain⟨g,_,w⟩:=h.ab j b e
 exact x.nf b _ w trivial (λz=>z) (h.fb b hb)
theorem A0j {tc tq:TT}{ft fq:Ev->R Bool}{idx:List (Option Nat)}{D:Ends}{x:V}{gs':List (List Int)}(hT:MT K tc ft)(hq:MT K tq fq)(h:AlI W0 Hf H c σ f p bs gs)(hc:c.all imK=true)(h0:0<idx.length)
 (hne:f≠n/\f≠r/\f≠t/\n≠r/\t≠n/\t≠r) (hl:f<c.length/\n<c.length/\r<c.length/\t<c.length)
 (dn:∀d,c[n]?≠some (some (O.im d))) (dr:∀d,c[r]?≠some (some (O.im d))) (dt:∀d,c[t]?≠some (some (O.im d)))
 (tx:Tr Hf d x) (e:Wb n r t idx ft fq c gs d=some gs') (hz:gs.length<16000000) (hg:∀g∈gs,g.length<16000000)
 (k:∀σ' H' bs',AlI W0 Hf H' c σ' f p bs' gs'->D.nx σ' H') :
 Ab3
  K 2 (Mi (Ey n) (Mi (Ey r) Af2)) x σ H λσ2 H2=>(Us (Uy (tLC idx (W7 K (Gg f)) (Ey 0) tc (Gg 0)) (Ey t))
  (Ae7 tq (Ld (tBM K "list" rAppF (Gg f) (Cd (Zf (Cd (Gg n) Dy)) Dy)))
   (Ld (tBM K "list" rAppF (tOp (A3m K) (Gg t) (tC (.int 0))) (Cd (Gg n) Dy))))) D σ2 H2:=by
 obtain⟨n1,n2,n3,n4,n5,n6⟩:=hne;obtain⟨l1,l2,l3,l4⟩:=hl;have ll:=h.L.len
 match d,e,tx with
 | .tuple [.int kk,row],e,tx =>
  obtain⟨a,xs,rfl,ha,v0,r0,rfl,t0,v1,r1,rfl,t1,t2⟩:=tx
  cases (show r1=[] from t2)
  cases (show v0=V.int kk from t0)
  unfold Wb at e;obtain⟨bb,e1,e2⟩:=Option.bind_eq_some_iff.mp e
  refine⟨a,_,rfl,SqT.of (h.L.sub _ _ ha),rfl,.int kk,[v1],rfl,v1,[],rfl,rfl,?_⟩
  have LT:LI Hf H ((c.set n (some (.im (.int kk)))).set r (some (.im row))) ((σ.set n (some (.int kk))).set r (some v1)):=(h.L.put (d:=.int kk) (v:=.int kk) rfl).put t1;have L0:LI Hf H c ((σ.set n (some (.int kk))).set r (some v1)):=(h.L.dead dn).dead dr
  have sp:((σ.set n (some (.int kk))).set r (some v1))[f]?=some (some (V.ref p)):=by rw[List.getElem?_set_ne (Ne.symm n2),List.getElem?_set_ne (Ne.symm n1)];exact h.sp
  have A0:=h.names L0 sp;have AT:=h.names LT sp;have cT:((c.set n (some (.im (.int kk)))).set r (some (.im row))).all imK=true:=Io (Io hc rfl) rfl
  show tLC idx (W7 K (Gg f)) (Ey 0) tc (Gg 0) ((σ.set n (some (.int kk))).set r (some v1)) H (λy H1=>Ae7 tq (Ld (tBM K "list" rAppF (Gg f) (Cd (Zf (Cd (Gg n) Dy)) Dy)))
   (Ld (tBM K "list" rAppF (tOp (A3m K) (Gg t) (tC (.int 0))) (Cd (Gg n) Dy))) D (((σ.set n (some (.int kk))).set r (some v1)).set t (some y)) H1)
  have zs:(16000000:Nat)<=sizeLine:=by decide
  refine Av9 hT AT cT h0 e1 (by rw[h.ln];omega) λq H1 s1 hq1=>?_
  show Ae7 tq _ _ D (((σ.set n (some (.int kk))).set r (some v1)).set t (some (.ref q))) (upd H1 q (.lst (Ei bb (bs.map V.ref))))
  have s2:Same H (upd H1 q (.lst (Ei bb (bs.map V.ref)))):=s1.trans (Bt hq1);generalize hσ:((σ.set n (some (.int kk))).set r (some v1)).set t (some (.ref q))=σ3
  have A1:AlI W0 Hf (upd H1 q (.lst (Ei bb (bs.map V.ref)))) c σ3 f p bs gs:=(A0.grow s2).names (by rw[<- hσ];exact((A0.grow s2).L).dead dt) (by rw[<- hσ,List.getElem?_set_ne (Ne.symm n3)];exact sp)
  have sn:σ3[n]?=some (some (V.int kk)):=by
   rw[<- hσ,List.getElem?_set_ne n5,List.getElem?_set_ne (Ne.symm n4)]
   exact List.getElem?_set_self (by omega)
  have stt:σ3[t]?=some (some (V.ref q)):=by
   rw[<- hσ]
   exact List.getElem?_set_self (by rw[List.length_set,List.length_set];omega)
  have fq1:Hf q=none:=Same.free (h.L.sub.trans s1) hq1
  have nqb:q∉bs:=λz=>by
   obtain⟨j,e⟩:=Wy z;obtain⟨g,_,w⟩:=h.ab j q e;rw[s1 _ _ w]at hq1;cases hq1
  have bq:Gu Hf (upd H1 q (.lst (Ei bb (bs.map V.ref)))) bs q=none:=by unfold Gu;rw[if_neg nqb];exact fq1
  have sb:Same (Gu Hf (upd H1 q (.lst (Ei bb (bs.map V.ref)))) bs) (upd H1 q (.lst (Ei bb (bs.map V.ref)))):=Tf A1.L.sub;have sb2:Same (Gu Hf (upd H1 q (.lst (Ei bb (bs.map V.ref)))) bs) (upd (Gu Hf (upd H1 q (.lst (Ei bb (bs.map V.ref)))) bs) q (.lst (Ei bb (bs.map V.ref)))):=Bt bq
  have sb3:Same (upd (Gu Hf (upd H1 q (.lst (Ei bb (bs.map V.ref)))) bs) q (.lst (Ei bb (bs.map V.ref)))) (upd H1 q (.lst (Ei bb (bs.map V.ref)))):=λb o e=>by
   by_cases z:b=q
   ·subst z;rw[Av]at e ⊢;exact e
   ·rw[Ah z]at e;exact sb b o e
  have tr:Tr (upd (Gu Hf (upd H1 q (.lst (Ei bb (bs.map V.ref)))) bs) q (.lst (Ei bb (bs.map V.ref)))) (.list ((Ei bb gs).map lsI)) (.ref q) :=
   ⟨q,_,rfl,Av,TrL.same sb2 (Ah6 (λj b e=>(A1.ab j b e).imp λg w=>⟨w.1,(Wv (List.mem_of_getElem? e)).trans w.2⟩) h.ln)⟩
  have LQ:LI (upd (Gu Hf (upd H1 q (.lst (Ei bb (bs.map V.ref)))) bs) q (.lst (Ei bb (bs.map V.ref)))) (upd H1 q (.lst (Ei bb (bs.map V.ref)))) (((c.set n (some (.im (.int kk)))).set r (some (.im row))).set t (some (.im (.list ((Ei bb gs).map lsI))))) σ3:=by
   rw[<- hσ];exact((LT.mono ((Qh h.fb).trans sb2) sb3)).put tr
  refine hq (λ_=>.non) _ _ _ _ (LQ.rep (Io cT rfl)) ?_
  cases e3:fq (((c.set n (some (.im (.int kk)))).set r (some (.im row))).set t (some (.im (.list ((Ei bb gs).map lsI))))) with
  | bad=>rw[e3]at e2;cases e2
  | ok b c' =>
   rw[e3]at e2;intro W2 st2 R2
   have sH:Same (upd H1 q (.lst (Ei bb (bs.map V.ref)))) W2.H:=λa o e=>st2.kp a o e Qu
   have A2:=A1.grow sH
   cases b with
   | true =>
    cases e2
    rw[if_pos rfl]
    refine⟨_,A2.sp,Oj A2.ap,_,sn,(by decide:1<=sizeLine),λq3 hq3=>?_⟩
    have npq:p≠q3:=λz=>by rw[<- z,A2.ap]at hq3;cases hq3
    refine⟨p,.ref q3,_,rfl,rfl,(Ah npq).trans A2.ap,?_,k _ _ _ (A2.more hq3)⟩
    rw[List.length_map,h.ln];omega
   | false =>
    obtain⟨j,hj,rfl⟩:=Option.map_eq_some_iff.mp e2;rw[if_neg Bool.false_ne_true];have lb:=(Uk e1).1;obtain⟨b,hb,hs⟩:=Ai5 (fn:=V.ref) hj (lb.trans h.ln.symm);obtain⟨g,hgj,hH⟩:=A2.ab j b hb
    refine⟨_,stt,.inl ⟨q,_,0,.ref b,rfl,rfl,SqL.of (sH _ _ Av),Fx (j:=0) hs,Oj hH,_,sn,b,.int kk,_,rfl,rfl,hH,?_,k _ _ _ (A2.push hb hgj)⟩⟩
    rw[List.length_map];have:=hg g (List.mem_of_getElem? hgj);omega
theorem Ac0 {gs:List (List Int)}{j m:Nat}{k:Int}(h:∀g∈gs,g.length<=m):∀g∈gs.modify j (·++[k]),g.length<=m+1:=λg hg=>by
 obtain⟨i,e⟩:=Wy hg;rw[List.getElem?_modify]at e;obtain⟨g',e',rfl⟩:=Option.map_eq_some_iff.mp e;have:=h g' (List.mem_of_getElem? e')
 split
 ·simp;omega
 ·omega
theorem Az4 {ft fq:Ev->R Bool}{idx:List (Option Nat)}{gs':List (List Int)}{m:Nat}(e:Wb n r t idx ft fq c gs d=some gs')(h1:gs.length<=m)(h2:∀g∈gs,g.length<=m):gs'.length<=m+1/\∀g∈gs',g.length<=m+1:=by
 unfold Wb at e
 split at e
 ·obtain⟨bb,_,e2⟩:=Option.bind_eq_some_iff.mp e
  split at e2
  ·cases e2
   refine⟨by simp;omega,λg hg=>?_⟩
   rcases List.mem_append.mp hg with z | z
   ·have:=h2 g z;omega
   ·rw[List.mem_singleton.mp z];simp
  ·obtain⟨j,_,rfl⟩:=Option.map_eq_some_iff.mp e2
   exact⟨by rw[List.length_modify];omega,Ac0 h2⟩
  ·cases e2
 ·cases e
theorem Qn (h:i=f\/i=n\/i=r\/i=t):∀d,(N5 f n r t c)[i]?≠some (some (O.im d)):=by
 intro d q;unfold N5 at q
 by_cases z1:r=i
 ·subst z1
  by_cases l:r<(((c.set f none).set t none).set n none).length
  ·rw[List.getElem?_set_self l]at q;cases q
  ·rw[List.getElem?_eq_none (by rw[List.length_set];omega)]at q;cases q
 rw[List.getElem?_set_ne z1]at q
 by_cases z2:n=i
 ·subst z2
  by_cases l:n<((c.set f none).set t none).length
  ·rw[List.getElem?_set_self l]at q;cases q
  ·rw[List.getElem?_eq_none (by rw[List.length_set];omega)]at q;cases q
 rw[List.getElem?_set_ne z2]at q
 by_cases z3:t=i
 ·subst z3
  by_cases l:t<(c.set f none).length
  ·rw[List.getElem?_set_self l]at q;cases q
  ·rw[List.getElem?_eq_none (by rw[List.length_set];omega)]at q;cases q
 rw[List.getElem?_set_ne z3]at q
 by_cases z4:f=i
 ·subst z4
  by_cases l:f<c.length
  ·rw[List.getElem?_set_self l]at q;cases q
  ·rw[List.getElem?_eq_none (by rw[List.length_set];omega)]at q;cases q
 rcases h with z | z | z | z
 ·exact z4 z.symm
 ·exact z2 z.symm
 ·exact z1 z.symm
 ·exact z3 z.symm
theorem A9a {wi:TI}{tc tq:TT}{fi:Ev->R (List PyData)}{ft fq:Ev->R Bool}{idx:List (Option Nat)}(h0:0<idx.length)(hi:MI K wi fi)(hT:MT K tc ft)(hq:MT K tq fq):MS K (Bn6 K f n r t wi idx tc tq) (A3o f n r t idx fi ft fq):=by
 intro β W c σ D R l;unfold A3o at l
 split at l
 ·rename_i hc
  obtain⟨hl,hne⟩:=hc
  show ([]:List V).length<=sizeLine/\∀p,W.H p=none->wi (σ.set f (some (.ref p))) (upd W.H p (.lst [])) _
  refine⟨Nat.zero_le _,λp hp=>?_⟩
  obtain⟨R1,o1⟩:=Ow.mk_new (a:=p) (o:=.lst []) R hp
  have hs:(σ.set f (some (.ref p)))[f]?=some (some (V.ref p)):=List.getElem?_set_self (by rw[<- R.len];exact hl.1)
  have st0:Stp W.S W.Hf W.H (orS W.S []) W.Hf W.H:=Stp.refl.less λ_ z=>z.elim id λz=>nomatch z
  have R0:=R1.gone (e:=f) (v:=.ref p)
  refine hi β _ _ _ _ R0 ((Ik l).mono λds c1 l1 J W1 st1 R2 it=>?_)
  split at l1
  ·rename_i hb
   obtain⟨him,hn,hlen⟩:=hb
   split at l1
   ·rename_i gsE egs
    have stW:=A3g (A3y st0 hp) st1;have o2:=o1.step (o:=.lst []) trivial st1;have cB:=Av7 (f:=f) (n:=n) (r:=r) (t:=t) him;have LB:LI W1.Hf W1.H (N5 f n r t c1) (σ.set f (some (.ref p))):=R2.li.noneC.noneC.noneC.noneC
    have I0:AlI W W1.Hf W1.H (N5 f n r t c1) (σ.set f (some (.ref p))) f p [] []:=⟨LB,hs,o2.at_,o2.fr,.inr hp,λj b q=>(nomatch q),λb q=>(nomatch q),λb q=>(nomatch q),rfl,List.nodup_nil,λq=>(nomatch q),stW.less λa z=>.inr (by show a∈[p];rw[show a=p from z];exact .head _)⟩
    have lenB:(N5 f n r t c1).length=c.length:=by unfold N5;rw[List.length_set,List.length_set,List.length_set,List.length_set];exact hlen
    refine⟨λi m σ H=>∃Hf bs gs,AlI W Hf H (N5 f n r t c1) σ f p bs gs/\m=ds.length-i/\i<=ds.length/\Same W1.Hf Hf/\gs.length<=i/\(∀g∈gs,g.length<=i)/\Ab0 n r t idx ft fq (N5 f n r t c1) (ds.drop i) gs=some gsE,
     ⟨_,W1.Hf,[],[],I0,rfl,Nat.zero_le _,Same.refl _,Nat.zero_le _,λg q=>(nomatch q),egs⟩,?_⟩
    rintro i m σ H ⟨Hf,bs,gs,I2,rfl,hle,sm,g1,g2,ek⟩
    obtain⟨hstop,hgo⟩:=it i Hf H sm I2.L.sub
    by_cases lt:i<ds.length
    ·obtain⟨q1,q2⟩:=hgo ds[i] (List.getElem?_eq_getElem lt)
     refine .inr ⟨q1,λσ' H'=>∃Hf bs gs,AlI W Hf H' (N5 f n r t c1) σ' f p bs gs/\Same W1.Hf Hf/\gs.length<=i+1/\(∀g∈gs,g.length<=i+1)/\Ab0 n r t idx ft fq (N5 f n r t c1) (ds.drop (i+1)) gs=some gsE,
      λσ' H' ⟨Hf3,b3,g3,y1,y2,y3,y4,y5⟩=>⟨ds.length-(i+1),by omega,Hf3,b3,g3,y1,rfl,by omega,y2,y3,y4,y5⟩,λx H' hy=>?_⟩
     obtain⟨Hf2,stx,sub2,tx⟩:=q2 x H' hy;rw[Lr lt]at ek
     obtain⟨gs',e1,e2⟩:=Option.bind_eq_some_iff.mp (show (Wb n r t idx ft fq (N5 f n r t c1) gs ds[i]).bind _=some gsE from ek)
     obtain⟨w1,w2⟩:=Az4 e1 g1 g2
     exact A0j (D:=_) hT hq (I2.step stx sub2) cB h0 hne (by rw[lenB];exact hl) (Qn (.inr (.inl rfl))) (Qn (.inr (.inr (.inl rfl)))) (Qn (.inr (.inr (.inr rfl)))) tx e1 (by omega) (λg hg=>by have:=g2 g hg;omega)
      λσ' H' bs' I3=>⟨Hf2,bs',gs',I3,sm.trans stx.fz,w1,w2,e2⟩
    ·have e1:i=ds.length:=by omega
     subst e1;rw[List.drop_length]at ek
     cases ek
     refine .inl ⟨hstop rfl,_,I2.sp,?_⟩
     have s1:=Qh (H:=H) I2.fb;have s2:=Tf (bs:=bs) I2.L.sub
     have tr:=A3h (Hg:=Gu Hf H bs) (λj b e=>(I2.ab j b e).imp λg w=>⟨w.1,(Wv (List.mem_of_getElem? e)).trans w.2⟩) I2.ln
     refine l1 σ (.ref p) ⟨Gu Hf H bs,H,λ_=>[]⟩ [p] ?_ ((I2.L.mono s1 s2).rep cB) ⟨⟨p,_,rfl,rfl,?_,I2.ap,tr⟩,λa ha=>Qu⟩
     ·refine⟨I2.st.fz.trans s1,I2.st.kp,λa o e mu n q=>?_,λa z=>I2.st.fr a ?_⟩
      ·exact(if_neg (λz=>by
        rcases I2.b0 a z with y | y
        ·exact n y
        ·rw[y]at e;cases e)).trans (I2.st.nf a o e mu n q)
      ·rcases z with z | z
       ·exact(Qu z).elim
       ·exact List.mem_singleton.mp z
     ·exact(if_neg I2.np).trans I2.fp
   ·exact l1.elim
  ·exact l1.elim
 ·exact l.elim
end
noncomputable def Ni:PyData->Bool
 | .int _=>true
 | _=>false
noncomputable def Ai7:PyData->Bool
 | .str _=>true
 | _=>false
def isG:PyData->Bool
 | .list (x::xs)=>Ni x&&xs.all Ni&&decide (xs.length<7000000)
 | _=>false
def okH:PyData->Bool
 | .list ss=>ss.all Ai7
 | d=>noL d
noncomputable def Kr (a b:Nat) (c:Ev):Ev:=c.mapIdx λi o=>if i=a\/i=b then o else none
noncomputable def imF (c:Ev):Ev:=c.map λo=>match o with
 | some (.im d)=>some (.im d)
 | _=>none
def A2k (f s:Nat)(ft:Ev->R Bool)(c:Ev)(ds:List PyData):SR:=if ds.all isG=true/\ds.length<8000000 then match ft (imF (c.set f (some (.im (.list ds))))) with
 | .ok false _=>.nx ((c.set f none).set s none)
 | _=>.bad
 else .bad
def A6l (f s a b:Nat)(fe:Ev->R PV)(ft:Ev->R Bool):Ev->SR:=λc=>if (f<c.length/\s<c.length)/\f≠s then match c[a]?,c[b]? with
 | some (some (.im da)),some (some (.im db))=>if noL da=true/\okH db=true then match fe (Kr a b c) with
  | .ok (.o (.ls false ds)) _=>A2k f s ft c ds
  | _=>.bad
  else .bad
 | _,_=>.bad
 else .bad
def Bn7 (K:PySem.W.Frag)(f s:Nat)(te:TE)(tt:TT)(tr:TS):TS :=
 Us (Uy te (Ey f)) (Us (Ae7 tt tr An3)
  (Us (A1n (W7 K (Gg f)) (Ey s) (Ld (tBM K "list" rAppF (Gg s) (Cd (tC (.int 99)) Dy))))
   (Ld (tBM K "list" rAppF (Gg f) (Cd (Zf (Cd (tC (.int 0)) Dy)) Dy)))))
section
variable {K:PySem.W.Frag}{β:Nat->V}{W:Wo}{c:Ev}{σ σ':St}{Hf Hf' H H':Hp}{d:PyData}{v:V}{i f s a b:Nat}
theorem LI.imF (L:LI Hf H c σ):LI Hf H (imF c) σ:=by
 refine⟨L.sub,by unfold U.imF;rw[List.length_map];exact L.len,λj e q=>?_⟩
 unfold U.imF at q;rw[List.getElem?_map]at q;obtain⟨o,ho,q⟩:=Option.map_eq_some_iff.mp q
 split at q
 ·cases q;exact L.get j e ho
 ·cases q
theorem A7b:(imF c).all imK=true:=List.all_eq_true.mpr λy hy=>by
 obtain⟨o,_,rfl⟩:=List.mem_map.mp hy
 split <;> rfl
noncomputable def Hs (Hf:Hp) (keep:Addr->Prop) [DecidablePred keep]:Hp:=λx=>match Hf x with
 | some (.lst vs)=>if keep x then some (.lst vs) else none
 | some (.tup vs)=>some (.tup vs)
 | _=>none
theorem A8n {keep:Addr->Prop}[DecidablePred keep]:Same (Hs Hf keep) Hf:=λx o e=>by
 unfold Hs at e
 split at e
 ·rename_i h
  split at e
  ·rw[h];exact e
  ·cases e
 ·rename_i h;rw[h];exact e
 ·cases e
theorem Af9 {keep:Addr->Prop}[DecidablePred keep]:A3l Hf (Hs Hf keep):=λx vs e=>by unfold Hs;rw[e]
theorem A9e {keep:Addr->Prop}[DecidablePred keep]{x:Addr}{vs:List V}(e:Hf x=some (.lst vs))(h:keep x):Hs Hf keep x=some (.lst vs):=by unfold Hs;rw[e];exact if_pos h
theorem A4r {keep:Addr->Prop}[DecidablePred keep]{x:Addr}{vs:List V}(e:H x=some (.lst vs))(s:Same Hf H)(h:¬ keep x):Hs Hf keep x=none:=by
 unfold Hs
 split
 ·exact if_neg h
 ·rename_i e2;rw[s _ _ e2]at e;cases e
 ·rfl
theorem Ay2:∀{ds:List PyData}{vs:List V},ds.all Ai7=true->TrL Hf ds vs->TrL Hf' ds vs/\∀v∈vs,∃y,v=V.str y
 | [],vs,_,h=>by cases (show vs=[] from h);exact⟨rfl,λv q=>nomatch q⟩
 | d::ds,vs,h,⟨v,r,e,t1,t2⟩=>by
  obtain⟨h1,h2⟩:=Bool.and_eq_true_iff.mp (show (Ai7 d&&ds.all Ai7)=true from h)
  obtain⟨q1,q2⟩:=Ay2 h2 t2
  match d,h1,t1 with
  | .str y,_,t1 =>
   cases (show v=V.str y from t1)
   refine⟨⟨_,r,e,rfl,q1⟩,λu hu=>?_⟩
   subst e
   rcases List.mem_cons.mp hu with rfl | z
   ·exact⟨y,rfl⟩
   ·exact q2 u z
theorem Aw6:∀{ds:List PyData}{vs:List V},ds.all Ni=true->TrL Hf ds vs->TrL Hf' ds vs
 | [],vs,_,h=>h
 | d::ds,vs,h,⟨v,r,e,t1,t2⟩=>by
  obtain⟨h1,h2⟩:=Bool.and_eq_true_iff.mp (show (Ni d&&ds.all Ni)=true from h)
  match d,h1,t1 with
  | .int y,_,t1=>exact⟨v,r,e,t1,Aw6 h2 t2⟩
theorem A9g (h:isG d=true)(t:Tr Hf d v):∃(x:Addr) (y:Int) (r:List V),v=.ref x/\Hf x=some (.lst (V.int y::r))/\r.length<7000000/\∀Hf',Hf' x=Hf x->Tr Hf' d v:=by
 match d,h,t with
 | .list (d0::xs),h,⟨x,vs,e1,e2,v0,r,e3,t1,t2⟩ =>
  obtain⟨h1,h3⟩:=Bool.and_eq_true_iff.mp h;obtain⟨h1,h2⟩:=Bool.and_eq_true_iff.mp h1
  match d0,h1,t1 with
  | .int y,h1,t1 =>
   cases (show v0=V.int y from t1)
   subst e3
   refine⟨x,y,r,e1,e2,by rw[<- t2.length];exact of_decide_eq_true h3,λHf' eq=>⟨x,_,e1,eq.trans e2,_,r,rfl,rfl,Aw6 h2 t2⟩⟩
theorem trG:∀{ds:List PyData}{vs:List V},ds.all isG=true->TrL Hf ds vs->(∀x,(∃y r,Hf x=some (.lst (V.int y::r)))->Hf' x=Hf x)->TrL Hf' ds vs/\∀v∈vs,∃(x:Addr) (y:Int) (r:List V),v=.ref x/\Hf x=some (.lst (V.int y::r))/\r.length<7000000
 | [],vs,_,h,_=>by cases (show vs=[] from h);exact⟨rfl,λv q=>nomatch q⟩
 | d::ds,vs,h,⟨v,r,e,t1,t2⟩,k=>by
  obtain⟨h1,h2⟩:=Bool.and_eq_true_iff.mp (show (isG d&&ds.all isG)=true from h)
  obtain⟨q1,q2⟩:=trG h2 t2 k;obtain⟨x,y,r',w1,w2,w3,w4⟩:=A9g h1 t1
  refine⟨⟨v,r,e,w4 Hf' (k x ⟨y,r',w2⟩),q1⟩,λu hu=>?_⟩
  subst e
  rcases List.mem_cons.mp hu with rfl | z
  ·exact⟨x,y,r',w1,w2,w3⟩
  ·exact q2 u z
def Bi4 (bs:List Addr)(M:Nat)(H:Hp):Prop:=∀b∈bs,∃us,H b=some (.lst us)/\us.length<=M
theorem Aj5 {Hf:Hp}:∀{vs:List V},(∀v∈vs,∃(x:Addr) (y:Int) (r:List V),v=.ref x/\Hf x=some (.lst (V.int y::r))/\r.length<7000000)->∃bs:List Addr,vs=bs.map V.ref/\∀b∈bs,∃(y:Int) (r:List V),Hf b=some (.lst (V.int y::r))/\r.length<7000000
 | [],_=>⟨[],rfl,λb q=>nomatch q⟩
 | v::vs,h=>by
  obtain⟨x,y,r,rfl,w1,w2⟩:=h v (.head _)
  obtain⟨bs,rfl,k⟩:=Aj5 (vs:=vs) λu hu=>h u (List.mem_cons_of_mem _ hu)
  refine⟨x::bs,rfl,λb hb=>?_⟩
  rcases List.mem_cons.mp hb with rfl | z
  ·exact⟨y,r,w1,w2⟩
  ·exact k b z
theorem A3q (R:Rep K β W c σ){da db:PyData}(ea:c[a]?=some (some (.im da)))(eb:c[b]?=some (some (.im db)))(ha:noL da=true)(hb:okH db=true) :
 ∃(keep:Addr->Prop) (_:DecidablePred keep),LI (Hs W.Hf keep) W.H (Kr a b c) σ/\∀x y r,keep x->W.H x=some (.lst (V.int y::r))->False:=by
 have mk:∀(keep:Addr->Prop) (_:DecidablePred keep) (vb:V),σ[b]?=some (some vb)->Tr (Hs W.Hf keep) db vb->LI (Hs W.Hf keep) W.H (Kr a b c) σ:=λkeep _ vb sb tb=>by
  refine⟨λx o e=>R.sub x o (A8n x o e),by unfold Kr;rw[List.length_mapIdx];exact R.len,λj e q=>?_⟩
  unfold Kr at q;rw[List.getElem?_mapIdx]at q;obtain⟨o,ho,q⟩:=Option.map_eq_some_iff.mp q
  split at q
  ·rename_i z
   subst q
   rcases z with rfl | rfl
   ·rw[ea]at ho;cases ho
    obtain⟨v,g1,g2⟩:=R.li.get _ _ ea;exact⟨v,g1,Tr.sameT Af9 ha g2⟩
   ·rw[eb]at ho;cases ho
    exact⟨vb,sb,tb⟩
  ·cases q
 obtain⟨vb,sb,tb⟩:=R.li.get _ _ eb
 cases db with
 | list ss =>
  obtain⟨x,us,rfl,e,t⟩:=tb
  obtain⟨t1,t2⟩:=Ay2 (Hf':=Hs W.Hf (·=x)) hb t
  refine⟨(·=x),inferInstance,mk _ _ _ sb ⟨x,us,rfl,A9e e rfl,t1⟩,λz y r hz e2=>?_⟩
  subst hz;rw[R.sub _ _ e]at e2;cases e2;obtain⟨w,hw⟩:=t2 _ (.head _)
  cases hw
 | none=>exact⟨λ_=>False,λ_=>inferInstance,mk _ _ _ sb (Tr.sameT Af9 hb tb),λ_ _ _ q=>q.elim⟩
 | bool _=>exact⟨λ_=>False,λ_=>inferInstance,mk _ _ _ sb (Tr.sameT Af9 hb tb),λ_ _ _ q=>q.elim⟩
 | int _=>exact⟨λ_=>False,λ_=>inferInstance,mk _ _ _ sb (Tr.sameT Af9 hb tb),λ_ _ _ q=>q.elim⟩
 | str _=>exact⟨λ_=>False,λ_=>inferInstance,mk _ _ _ sb (Tr.sameT Af9 hb tb),λ_ _ _ q=>q.elim⟩
 | tuple _=>exact⟨λ_=>False,λ_=>inferInstance,mk _ _ _ sb (Tr.sameT Af9 hb tb),λ_ _ _ q=>q.elim⟩
 | dict _=>exact⟨λ_=>False,λ_=>inferInstance,mk _ _ _ sb (Tr.sameT Af9 hb tb),λ_ _ _ q=>q.elim⟩
theorem Av8 {da db:PyData}(ea:c[a]?=some (some (.im da)))(eb:c[b]?=some (some (.im db))):(Kr a b c).all imK=true:=List.all_eq_true.mpr λy hy=>by
 obtain⟨j,q⟩:=List.getElem?_of_mem hy;unfold Kr at q;rw[List.getElem?_mapIdx]at q;obtain⟨o,ho,q⟩:=Option.map_eq_some_iff.mp q
 split at q
 ·rename_i z
  subst q
  rcases z with rfl | rfl
  ·rw[ea]at ho;cases ho;rfl
  ·rw[eb]at ho;cases ho;rfl
 ·cases q;rfl
noncomputable def Nz (W:Wo) (Hn:Hp):Hp:=λx=>match W.H x with
 | some _=>W.Hf x
 | none=>Hn x
theorem A2a {Hn:Hp}(s:Same W.Hf W.H):Same W.Hf (Nz W Hn):=λx o e=>by unfold Nz;rw[s _ _ e];exact e
theorem Zh {Hn:Hp}{x:Addr}(e:W.H x=none):Nz W Hn x=Hn x:=by unfold Nz;rw[e]
theorem A2t {Hn:Hp}(s:Same W.Hf W.H)(sH:Same W.H H)(sn:Same Hn H):Same (Nz W Hn) H:=λx o e=>by
 unfold Nz at e
 split at e
 ·exact sH _ _ (s _ _ e)
 ·exact sn _ _ e
theorem Rep.goneS (R:Rep K β W c σ){x:Option V}:Rep K β W (c.set i none) (σ.set i x):=by
 refine⟨R.sub,by rw[List.length_set,List.length_set];exact R.len,λj o' q=>?_,R.dis,R.own⟩
 have z:i≠j:=λz=>by
  subst z
  by_cases l:i<c.length
  ·rw[List.getElem?_set_self l]at q;cases q
  ·rw[List.getElem?_eq_none (by rw[List.length_set];omega)]at q;cases q
 rw[List.getElem?_set_ne z]at q ⊢;exact R.get j o' q
theorem Bc3 {te:TE}{tt:TT}{tr:TS}{fe:Ev->R PV}{ft:Ev->R Bool}(he:ME K te fe)(ht:MT K tt ft):MS K (Bn7 K f s te tt tr) (A6l f s a b fe ft):=by
 intro β W c σ D R l;unfold A6l at l
 split at l
 ·rename_i hc
  obtain⟨⟨hfl,hsl⟩,nfs⟩:=hc
  split at l
  ·rename_i da db ea eb
   split at l
   ·rename_i hab
    split at l
    ·rename_i ds c1 e1
     unfold A2k at l
     split at l
     ·rename_i hG
      obtain⟨hG,hn⟩:=hG
      split at l
      ·rename_i c2 e2
       obtain⟨keep,dk,L0,kk⟩:=A3q R ea eb hab.1 hab.2;have len:=R.len
       show te σ W.H _
       refine he (λ_=>.non) ⟨Hs W.Hf keep,W.H,λ_=>[]⟩ (Kr a b c) σ _ (L0.rep (Av8 ea eb)) ?_
       rw[e1];intro v W' fp st R' rp;obtain⟨⟨q,vs,rfl,rfl,hq1,hq2,tv⟩,_⟩:=rp
       have sH:Same W.H W'.H:=λx o e=>st.kp x o e Qu
       have q0:W.H q=none:=by
        rcases st.fr q (.inr (.head _)) with z | z
        ·exact(Qu z).elim
        ·exact z
       have fresh:∀x y r,W'.Hf x=some (.lst (V.int y::r))->W.H x=none:=λx y r e=>by
        cases ex:W.H x with
        | none=>rfl
        | some o =>
         exfalso
         have z1:=R'.sub _ _ e;rw[sH _ _ ex]at z1
         cases z1
         by_cases hk:keep x
         ·exact kk x y r hk ex
         ·have:=st.nf x _ ex trivial Qu (A4r ex R.sub hk)
          rw[this]at e;cases e
       have snew:Same (upd W'.Hf q (.lst vs)) W'.H:=λx o e=>by
        by_cases z:x=q
        ·subst z;rw[Av]at e;rw[hq2];exact e
        ·rw[Ah z]at e;exact R'.sub x o e
       obtain⟨tj,rf⟩:=trG (Hf':=Nz W (upd W'.Hf q (.lst vs))) hG tv λx ⟨y,r,e⟩=>by
        rw[Zh (fresh x y r e),Ah λz=>by rw[z,hq1]at e;cases e]
       have LJ:LI (Nz W (upd W'.Hf q (.lst vs))) W'.H (c.set f (some (.im (.list ds)))) (σ.set f (some (.ref q))) :=
        (R.li.mono (A2a R.sub) (A2t R.sub sH snew)).put ⟨q,vs,rfl,(Zh q0).trans Av,tj⟩
       show tt (σ.set f (some (.ref q))) W'.H _
       refine ht (λ_=>.non) ⟨Nz W (upd W'.Hf q (.lst vs)),W'.H,λ_=>[]⟩ _ _ _ (LJ.imF.rep A7b) ?_
       rw[e2];intro W2 st2 R2;rw[if_neg Bool.false_ne_true]
       have sH2:Same W'.H W2.H:=λx o e=>st2.kp x o e Qu
       obtain⟨bs,rfl,hb⟩:=Aj5 rf
       have lb:bs.length<8000000:=by have:=tv.length;rw[List.length_map]at this;omega
       have hq3:W2.H q=some (.lst (bs.map V.ref)):=sH2 _ _ hq2
       have nqb:∀b∈bs,b≠q:=λb h z=>by
        obtain⟨y,r,e,_⟩:=hb b h;rw[z,hq1]at e;cases e
       have b0:∀b∈bs,W.H b=none:=λb h=>by
        obtain⟨y,r,e,_⟩:=hb b h;exact fresh b y r e
       have g0:Bi4 bs 7000000 W2.H:=λb h=>by
        obtain⟨y,r,e,w⟩:=hb b h
        exact⟨_,sH2 _ _ (R'.sub _ _ e),by rw[List.length_cons];omega⟩
       have zs:(16000000:Nat)<=sizeLine:=by decide
       have hlf:f<σ.length:=by omega
       have hls:s<(σ.set f (some (V.ref q))).length:=by rw[List.length_set];omega
       refine⟨_,List.getElem?_set_self hlf,?_⟩
       refine⟨q,rfl,.inl ⟨_,hq3,A0x (λi σ' H'=>(∃y,σ'=(σ.set f (some (.ref q))).set s y)/\Same W.H H'/\H' q=some (.lst (bs.map V.ref))/\Bi4 bs (7000000+i) H') ⟨⟨_,(List.set_getElem_self hls).symm⟩,sH.trans sH2,hq3,g0⟩ (λi σ' H' _ h=>h.2.2.1) (λi x σ' H' hx h=>?_) (λσ' H' h=>?_)⟩⟩
       ·obtain⟨⟨y,rfl⟩,s1,s2,s3⟩:=h
        have hi:i<bs.length:=by have:=(List.getElem?_eq_some_iff.mp hx).1;rwa [List.length_map]at this
        rw[List.getElem?_map]at hx;obtain⟨b,hb1,rfl⟩:=Option.map_eq_some_iff.mp hx;have mb:=List.mem_of_getElem? hb1;obtain⟨us,hu,lu⟩:=s3 b mb
        show ∃v,((((σ.set f (some (V.ref q))).set s y).set s (some (V.ref b)))[s]?=some (some v))/\_
        rw[List.set_set]
        refine⟨_,List.getElem?_set_self hls,Oj hu,b,.int 99,us,rfl,rfl,hu,by omega,⟨⟨_,rfl⟩,λx o e=>?_,?_,λb' hb'=>?_⟩⟩
        ·exact(Ah λz=>by rw[z,b0 b mb]at e;cases e).trans (s1 x o e)
        ·exact(Ah λz=>nqb b mb z.symm).trans s2
        ·by_cases z:b'=b
         ·subst z;exact⟨_,Av,by simp;omega⟩
         ·obtain⟨us',w1,w2⟩:=s3 b' hb'
          exact⟨us',(Ah z).trans w1,by omega⟩
       ·obtain⟨⟨y,rfl⟩,s1,s2,s3⟩:=h
        have sf:((σ.set f (some (V.ref q))).set s y)[f]?=some (some (.ref q)):=by rw[List.getElem?_set_ne (Ne.symm nfs)];exact List.getElem?_set_self hlf
        refine⟨_,sf,Oj s2,(by decide:1<=sizeLine),λq3 hq4=>?_⟩
        have nq:q≠q3:=λz=>by rw[<- z,s2]at hq4;cases hq4
        refine⟨q,.ref q3,_,rfl,rfl,(Ah nq).trans s2,by rw[List.length_map];omega,?_⟩
        have sF:Same W.H (upd (upd H' q3 (.lst [V.int 0])) q (.lst (bs.map V.ref++[V.ref q3]))):=λx o e=>(Ah λz=>by rw[z,q0]at e;cases e).trans ((Ah λz=>by rw[<- z,s1 x o e]at hq4;cases hq4).trans (s1 x o e))
        have RF:Rep K β ⟨W.Hf,upd (upd H' q3 (.lst [V.int 0])) q (.lst (bs.map V.ref++[V.ref q3])),W.fps⟩ c σ:=R.frame (Same.refl _) (λx o e=>sF x o (R.sub x o e)) λx ⟨j,hj⟩=>by
         obtain⟨w1,o,w2,_⟩:=R.own j x hj;exact⟨w1,(sF x o w2).trans w2.symm⟩
        refine l _ ⟨W.Hf,_,W.fps⟩ ⟨Same.refl _,λx o e _=>sF x o e,λx o e m _ q=>q,λx z=>.inl z⟩ ?_
        exact(RF.goneS (i:=f)).goneS
      ·exact l.elim
     ·exact l.elim
    ·exact l.elim
   ·exact l.elim
  ·exact l.elim
 ·exact l.elim
end
end U
namespace PS
open PySem PySem.W PyProof.Rows L2
end PS
namespace U
open PySem L2
theorem R.bind_ok {a:b} {k:b->Ev->R d}:(R.ok a c).bind k=k a c:=rfl
theorem R.toS_ok {a:b} {k:b->Ev->SR}:(R.ok a c).toS k=k a c:=rfl
theorem Ar5 {a:Type}{x:Option a}:(some x).join=x:=rfl
theorem Bi9 (x:a) (r:List a):atI (x::r) 0=some x:=Fx rfl
theorem Bl6 (x y:a) (r:List a):atI (x::y::r) 1=some y:=Fx rfl
theorem Bj8 (x y z:a) (r:List a):atI (x::y::z::r) 2=some z:=Fx rfl
theorem Bk9 (x y z u:a) (r:List a):atI (x::y::z::u::r) 3=some u:=Fx rfl
theorem Bk2 (x y z u w:a) (r:List a):atI (x::y::z::u::w::r) 4=some w:=Fx rfl
theorem Be5:ixN 3 0=some 0:=rfl
theorem Bd1:ixN 3 1=some 1:=rfl
theorem A9s:ixN 3 2=some 2:=rfl
def Kh (g:PV->Ev->R Unit)(body:Ev->SR)(d:PyData)(c:Ev):SR:=(g (.o (.im d)) c).toS λ_ c=>body c
theorem Aq0 (h:Kh g body d c=.nx c'\/Kh g body d c=.ct c'):forL g body (d::ds) c=forL g body ds c':=by
 unfold Kh at h;rw[forL]
 cases e:g _ c with
 | bad=>rw[e]at h;rcases h with h | h <;> cases h
 | ok u a =>
  rw[e]at h;have h:body _=.nx _\/body _=.ct _:=h
  grind
theorem Hb {g:PV->Ev->R Unit}{body:Ev->SR}{P:Nat->Ev->Prop}:∀{items:List PyData}{n:Nat}{c:Ev},P n c ->
 (∀k d c,items[k]?=some d->P (n+k) c->∃c',(Kh g body d c=.nx c'\/Kh g body d c=.ct c')/\P (n+k+1) c')->∃c',forL g body items c=.nx c'/\P (n+items.length) c'
 | [],n,c,h0,_=>⟨c,rfl,h0⟩
 | d::ds,n,c,h0,hs=>by
  obtain⟨c1,e,h1⟩:=hs 0 d c rfl h0;rw[Aq0 e]
  obtain⟨c2,e2,h2⟩:=Hb (P:=P) (items:=ds) (n:=n+1) (c:=c1) h1 (λk d c hk hp=>by
   have:=hs (k+1) d c (by simpa using hk) (by rw[show n+(k+1)=n+1+k by omega];exact hp)
   rw[show n+(k+1)+1=n+1+k+1 by omega]at this
   exact this)
  exact⟨c2,e2,by rw[List.length_cons,show n+(ds.length+1)=n+1+ds.length by omega];exact h2⟩
def Ku (g:PV->Ev->R Unit)(ft:Ev->R Bool)(fe:Ev->R PV)(d:PyData)(c:Ev):R (Option PyData) :=
 (g (.o (.im d)) c).bind λ_ c=>(ft c).bind λb c=>if b=true then (fe c).bind λp c=>(frz (nrm p) c).bind λy c=>.ok (some y) c else .ok none c
theorem M5 : Dt g ft fe (d::ds) acc c=(Ku g ft fe d c).bind λo c=>Dt g ft fe ds (acc++o.toList) c:=by
 unfold Ku;rw[Dt]
 cases e:g _ c with
 | bad=>rfl
 | ok u f =>
  simp only[R.bind_ok]
  cases e2:ft _ with
  | bad=>rfl
  | ok b h =>
   simp only[R.bind_ok]
   cases b with
   | false=>simp[R.bind_ok]
   | true =>
    cases e3:fe _ with
    | bad=>rfl
    | ok p i =>
     simp only[R.bind_ok]
     cases e4:frz _ _ with
     | bad=>rfl
     | ok y a=>rfl
theorem Jm {g:PV->Ev->R Unit}{ft:Ev->R Bool}{fe:Ev->R PV}{P:Nat->List PyData->Ev->Prop}:∀{items acc:List PyData}{n:Nat}{c:Ev},P n acc c ->
 (∀k d acc c,items[k]?=some d->P (n+k) acc c->∃o c',Ku g ft fe d c=.ok o c'/\P (n+k+1) (acc++o.toList) c')->∃acc' c',Dt g ft fe items acc c=.ok acc' c'/\P (n+items.length) acc' c'
 | [],acc,n,c,h0,_=>⟨acc,c,rfl,h0⟩
 | d::ds,acc,n,c,h0,hs=>by
  obtain⟨o,c1,e,h1⟩:=hs 0 d acc c rfl h0;rw[M5,e,R.bind_ok]
  obtain⟨acc2,c2,e2,h2⟩:=Jm (P:=P) (items:=ds) (n:=n+1) (c:=c1) h1 (λk d acc c hk hp=>by
   have:=hs (k+1) d acc c (by simpa using hk) (by rw[show n+(k+1)=n+1+k by omega];exact hp)
   rw[show n+(k+1)+1=n+1+k+1 by omega]at this
   exact this)
  exact⟨acc2,c2,e2,by rw[List.length_cons,show n+(ds.length+1)=n+1+ds.length by omega];exact h2⟩
theorem Zu {g:PV->Ev->R Unit}{ft:Ev->R Bool}{fe:Ev->R PV}{I:Ev->Prop}{F:PyData->Option PyData}:∀{items acc:List PyData}{c:Ev},I c ->
 (∀d c,d∈items->I c->∃c',Ku g ft fe d c=.ok (F d) c'/\I c')->∃c',Dt g ft fe items acc c=.ok (acc++items.filterMap F) c'/\I c'
 | [],acc,c,h0,_=>⟨c,by simp[Dt],h0⟩
 | d::ds,acc,c,h0,hs=>by
  obtain⟨c1,e,h1⟩:=hs d c (.head _) h0;rw[M5,e,R.bind_ok]
  obtain⟨c2,e2,h2⟩:=Zu (I:=I) (F:=F) (items:=ds) (acc:=acc++(F d).toList) h1 (λd c hd hi=>hs d c (.tail _ hd) hi)
  refine⟨c2,?_,h2⟩
  rw[e2,List.append_assoc];rw[List.filterMap_cons]
  cases F d <;> rfl
theorem Qj {I:Ev->Prop} (b:I c)
 (hs:∀d c,d∈items->I c->∃a,Ku g ft fe d c=.ok (some (F d)) a/\I a):∃a,Dt g ft fe items acc c=.ok (acc++items.map F) a/\I a:=by
 obtain⟨a,e,h⟩:=Zu (acc:=acc) b hs
 refine⟨a,?_,h⟩
 simp_all
theorem Lq {α:Type}{g:PV->Ev->R Unit}{ft:Ev->R Bool}{fe:Ev->R PV}{I:Ev->Prop}{f:α->PyData}{G:α->Option PyData}:∀{xs:List α}{acc:List PyData}{c:Ev},I c ->
 (∀x c,x∈xs->I c->∃c',Ku g ft fe (f x) c=.ok (G x) c'/\I c')->∃c',Dt g ft fe (xs.map f) acc c=.ok (acc++xs.filterMap G) c'/\I c'
 | [],acc,c,h0,_=>⟨c,by simp[Dt],h0⟩
 | x::xs,acc,c,h0,hs=>by
  obtain⟨c1,e,h1⟩:=hs x c (.head _) h0;rw[List.map_cons,M5,e,R.bind_ok]
  obtain⟨c2,e2,h2⟩:=Lq (I:=I) (f:=f) (G:=G) (xs:=xs) (acc:=acc++(G x).toList) h1 (λd c hd hi=>hs d c (.tail _ hd) hi)
  refine⟨c2,?_,h2⟩
  rw[e2,List.append_assoc];rw[List.filterMap_cons]
  cases G x <;> rfl
theorem Ii {b:Type} {I:Ev->Prop}{f:b->PyData}{G:b->PyData}{xs:List b} (d:I c)
 (hs:∀x c,x∈xs->I c->∃a,Ku g ft fe (f x) c=.ok (some (G x)) a/\I a):∃a,Dt g ft fe (xs.map f) acc c=.ok (acc++xs.map G) a/\I a:=by
 obtain⟨a,e,h⟩:=Lq (acc:=acc) d hs
 refine⟨a,?_,h⟩
 simp_all
theorem Fy (h1:fi c=.ok ds c1) (hl:ds.length<=16000000) (h2:Dt g ft fe ds [] (cIn idx c1)=.ok acc cI) (a:Gr cI (pairsOf 0 idx) c1=some c2) :
 cLC idx fi g ft fe c=.ok (.o (.ls false acc)) c2:=by
 unfold cLC;rw[h1,R.bind_ok]
 simp_all
theorem Ly (h1:fi c=.ok ds c1):Rt fi g body c=forL g body ds c1:=by
 unfold Rt;rw[h1];rfl
theorem Dq (h:f c=.nx c'):Ci f g c=g c':=by unfold Ci;rw[h]
theorem Rn (h:body (a.map some++List.replicate (N-n) none)=.rt p c) (hl:a.length=n) (hf:At3 a p c=r):Fv n N body a=r:=by
 unfold Fv;grind
end U
namespace K
open PySem L2 U
structure Good (d:PyData) (n w:Nat):Prop where
 lay:d.canLay0=true
 shw:d.showable=true
 dct:d.hasDict=false
 dep:d.depth<=n
 wgt:wt d<=w
structure Goods (ds:List PyData) (n w:Nat):Prop where
 lay:PyData.canLayAll0 ds=true
 shw:PyData.showableAll ds=true
 dct:PyData.hasDictAll ds=false
 dep:PyData.depthAll ds<=n
 wgt:Jw ds<=w*ds.length
theorem Goods.of {n w:Nat}:∀{ds:List PyData},(∀d∈ds,Good d n w)->Goods ds n (w+2)
 | [],_=>⟨rfl,rfl,rfl,Nat.zero_le _,Nat.zero_le _⟩
 | d::r,h=>by
  have a:=h d (.head _)
  have b:=Goods.of λe he=>h e (.tail _ he)
  refine⟨?_,?_,?_,?_,?_⟩
  ·show (d.canLay0&&PyData.canLayAll0 r)=true;rw[a.lay,b.lay];rfl
  ·show (d.showable&&PyData.showableAll r)=true;rw[a.shw,b.shw];rfl
  ·show (d.hasDict||PyData.hasDictAll r)=false;rw[a.dct,b.dct];rfl
  ·show max d.depth (PyData.depthAll r)<=n;have:=a.dep;have:=b.dep;omega
  ·show wt d+2+Jw r<=(w+2)*(r.length+1)
   have:=a.wgt;have:=b.wgt;rw[Nat.mul_succ];omega
theorem Good.tup (h:∀d∈ds,Good d n w) (hk:ds.length<=k):Good (.tuple ds) (n+1) ((w+2)*k+4):=by
 have g:=Goods.of h;have m:(w+2)*ds.length<=(w+2)*k:=Nat.mul_le_mul_left _ hk
 refine⟨g.lay,g.shw,g.dct,?_,?_⟩
 ·show PyData.depthAll _+1<=n+1;have:=g.dep;omega
 ·show Jw _+4<=(w+2)*k+4;have:=g.wgt;omega
theorem Good.lst (h:∀d∈ds,Good d n w) (hk:ds.length<=k):Good (.list ds) (n+1) ((w+2)*k+4):=by
 have g:=Goods.of h;have m:(w+2)*ds.length<=(w+2)*k:=Nat.mul_le_mul_left _ hk
 refine⟨g.lay,g.shw,g.dct,?_,?_⟩
 ·show PyData.depthAll _+1<=n+1;have:=g.dep;omega
 ·show Jw _+4<=(w+2)*k+4;have:=g.wgt;omega
theorem Good.mono (h:Good d n w) (a:n<=n') (b:w<=w'):Good d n' w':=⟨h.lay,h.shw,h.dct,Nat.le_trans h.dep a,Nat.le_trans h.wgt b⟩
theorem Good.flatB (h:Good d n w) (hn:n<=40):Dl d=true:=by
 unfold U.Dl;rw[h.lay,decide_eq_true (Nat.le_trans h.dep hn)];rfl
theorem Av3 (ha:Good a n w) (hb:Good b n' w') (hn:n<=40) (c:n'<=40):Ca neg a b=some (.im (.bool (if neg then !PyData.eqv a b else PyData.eqv a b))):=by
 unfold Ca;rw[ha.flatB hn,hb.flatB c];rfl
theorem Rh (h:∀d∈ds,d.canLay0=true):PyData.canLayAll0 ds=true:=by
 induction ds with
 | nil=>rfl
 | cons d r a=>show (d.canLay0&&PyData.canLayAll0 r)=true;grind
theorem S8 : Ca neg (.str a) (.str b)=some (.im (.bool (if neg then !decide (a=b) else decide (a=b)))):=by
 unfold Ca
 rw[show Rk _ _=true from rfl]
 rw[Rx]
 simp
inductive Vl where
 | non
 | int (i:Int)
 | str (x:Str)
 deriving DecidableEq
@[simp] theorem Vl.int.injEq (a b:Int):(Vl.int a=Vl.int b)=(a=b):=propext ⟨λh=>by cases h;rfl,λh=>by rw[h]⟩
@[simp] theorem Vl.str.injEq (a b:Str):(Vl.str a=Vl.str b)=(a=b):=propext ⟨λh=>by cases h;rfl,λh=>by rw[h]⟩
noncomputable def Vl.d:Vl->PyData
 | .non=>.none
 | .int i=>.int i
 | .str x=>.str x
noncomputable def vb:Vl->Bool
 | .non=>true
 | .int i=>decide (-1000000000000<=i)&&decide (i<=1000000000000)
 | .str x=>decide (x.length<=40)&&x.cps.toList.all λc=>decide (32<=c)&&decide (c<=126)
abbrev VB (v:Vl):Prop:=vb v=true
abbrev VBs (vs:List Vl):Prop:=∀v∈vs,VB v
def tD (vs:List Vl):PyData:=.tuple (vs.map Vl.d)
theorem Ak8 (x y:Str):PyData.eqv (.str x) (.str y)=decide (x=y):=by
 show (x==y)=_
 grind
theorem A7g (a b:Vl):PyData.eqv a.d b.d=decide (a=b):=by
 cases a with
 | non=>cases b <;> simp[Vl.d,PyData.eqv]
 | int i=>
  cases b with
   | int j =>
    show (i==j)=_
    grind
   | non=>rfl
   | str y=>trivial
 | str x=>
  cases b with
   | str y=>rw[show PyData.eqv (Vl.d (.str x)) (Vl.d (.str y))=_ from Ak8 x y];simp_all
   | non=>trivial
   | int y=>trivial
theorem Y4:∀as bs:List Vl,PyData.eqvAll (as.map Vl.d) (bs.map Vl.d)=decide (as=bs)
 | [],[]=>by simp[PyData.eqvAll]
 | [],b::bs=>by simp[PyData.eqvAll]
 | a::as,[]=>by simp[PyData.eqvAll]
 | a::as,b::bs=>by
  show (PyData.eqv a.d b.d&&PyData.eqvAll (as.map Vl.d) (bs.map Vl.d))=_
  rw[A7g,Y4 as bs]
  simp
theorem A7q (a bs:List Vl):PyData.eqv (tD a) (tD bs)=decide (a=bs):=by
 exact Y4 _ _
theorem Iz (h:VB v):Good v.d 0 1921:=by
 cases v with
 | non=>exact⟨rfl,rfl,rfl,Nat.le_refl _,by decide⟩
 | int i =>
  obtain⟨a,b⟩:=Bool.and_eq_true_iff.mp (show (decide _&&decide _)=true from h)
  have a:=of_decide_eq_true a;have b:=of_decide_eq_true b
  refine⟨rfl,?_,rfl,Nat.le_refl _,Nat.le_refl _⟩
  have c:i.natAbs<2 ^ 41:=by omega
  have:i.natAbs.log2<1920:=by
   by_cases hz:i.natAbs=0
   ·rw[hz];decide
   ·exact Nat.lt_of_lt_of_le ((Nat.log2_lt hz).mpr c) (by decide)
  simpa[Vl.d,PyData.showable] using this
 | str x =>
  obtain⟨a,b⟩:=Bool.and_eq_true_iff.mp (show (decide _&&x.cps.toList.all _)=true from h)
  have a:=of_decide_eq_true a
  refine⟨?_,rfl,rfl,Nat.le_refl _,?_⟩
  ·show x.cps.all _=true
   grind
  ·show 10*x.length+2<=1921
   omega
theorem Ro (h:VBs vs) (hk:vs.length<=k):Good (tD vs) 1 (1923*k+4) :=
 Good.tup (λd a=>by obtain⟨v,b,rfl⟩:=List.mem_map.mp a;exact Iz (h v b)) (by simp_all)
theorem VBs.app (h:VBs a) (k:VBs b):VBs (a++b):=λv c=>by
 grind
theorem Bg8 (v:Vl)(vs:List Vl):((vs.map Vl.d).any λe=>PyData.eqv e v.d)=decide (v∈vs):=by
 induction vs with
 | nil=>simp
 | cons a r b =>
  rw[List.map_cons,List.any_cons,A7g]
  grind
theorem A1t (h:VB v) (hs:VBs vs):Gf neg v.d (.list (vs.map Vl.d))=some (.im (.bool (if neg then !decide (v∈vs) else decide (v∈vs)))):=by
 have e:Gf neg v.d (.list (vs.map Vl.d))=if Dl v.d&&PyData.canLayAll0 (vs.map Vl.d) then some (.im (.bool (if neg then !(vs.map Vl.d).any λe=>PyData.eqv e v.d else (vs.map Vl.d).any λe=>PyData.eqv e v.d))) else none:=by rfl
 rw[e,(Iz h).flatB (by decide),Rh λd a=>by obtain⟨u,b,rfl⟩:=List.mem_map.mp a;exact(Iz (hs u b)).lay,Bg8];rfl
theorem Ql {l:List a}{r:Int}(b:0<=r) (h1:r<l.length):∃d,atI l r=some d/\d∈l/\l[r.toNat]?=some d:=by
 obtain⟨k,rfl⟩:=Int.eq_ofNat_of_zero_le b
 exact⟨l[k],Fx (List.getElem?_eq_getElem _),List.getElem_mem _,by grind⟩
def Hx:Ev->SR :=
 (Df (cUn Iv (cLC [none] (Ym (Ab 0)) (cgN 0) Bp (N8 (cOp Z7 (cC (.str " ")) (Ab 0)) (cOp Z7 (Ab 0) (cC (.str "~")))))))
def Dn:List O->FR:=Fv 1 1 Hx
def Ea:Ev->SR :=
 (Ci
  (cIf (Bb (cUn (Ax .bool) (Ab 0))) (Df (cC (.bool false))) Dm)
  (Ci (cIf (Bb (cUn (Ax .str) (Ab 0))) (Df (cF Dn (Ae (Ab 0) Ba))) Dm)
  (Df (A9m (cOp (Jr false) (Ab 0) (cC (.none))) (cUn (Ax .int) (Ab 0))))))
def Cu:List O->FR:=Fv 1 1 Ea
def Du:Ev->SR :=
 (Ci
  (cIf (cOr (Le (Bb (cUn (Ax .str) (Ab 0)))) (cOr (Bb (cOp (Ca false) (Ab 0) (cC (.str "")))) (Bb (cOp A5a (Ed (Ab 0)) (cC (.int 8)))))) (Df (cC (.bool false))) Dm)
  (Df (cUn Iv (cLC [none] (Ym (Ab 0)) (cgN 0) Bp (cOp (Gf false) (Ab 0) (cC (.str "abcdefghijklmnopqrstuvwxyz")))))))
def Cp:List O->FR:=Fv 1 1 Du
def Bv:Ev->SR :=
 (Ci
  (cIf (cOr (Le (Bb (cUn (Ax .tuple) (Ab 0)))) (Bb (cOp (Ca false) (Ed (Ab 0)) (cC (.int 0))))) (Df (cC (.bool false))) Dm)
  (Ci (cIf (Le (Bb (cUn Iv (cLC [none] (Bw (Ab 0)) (cgN 0) Bp (cF Cp (Ae (Ab 0) Ba)))))) (Df (cC (.bool false))) Dm)
  (Df (cOp (Ca false) (cUn N7 (Ab 0)) (Ed (Ab 0))))))
def Bj:List O->FR:=Fv 1 1 Bv
def Ff:Ev->SR :=
 (Ci
  (cIf (cOr (Le (Bb (cUn (Ax .tuple) (Ab 0)))) (Bb (cOp (Ca true) (Ed (Ab 0)) (Ab 1)))) (Df (cC (.bool false))) Dm)
  (Df (cUn Iv (cLC [none] (Bw (Ab 0)) (cgN 0) Bp (cF Cu (Ae (Ab 0) Ba))))))
def Dj:List O->FR:=Fv 2 2 Ff
def Bs:Ev->SR :=
 (Ci
  (cIf (cOr (Le (Bb (cUn (Ax .tuple) (Ab 0)))) (Bb (cOp (Ca true) (Ed (Ab 0)) (cC (.int 2))))) (Df (cC (.bool false))) Dm)
  (Ci (Fi (cOp Al (Ab 0) (cC (.int 0))) (cgN 1))
  (Ci (Fi (cOp Al (Ab 0) (cC (.int 1))) (cgN 2))
  (Ci (cIf (cOr (Le (Bb (cF Bj (Ae (Ab 1) Ba)))) (Le (Bb (cUn (Ax .tuple) (Ab 2))))) (Df (cC (.bool false))) Dm)
  (Df (cUn Iv (cLC [none,some 1] (Bw (Ab 2)) (cgN 0) Bp (cF Dj (Ae (Ab 0) (Ae (Ed (Ab 1)) Ba))))))))))
def Bg:List O->FR:=Fv 1 3 Bs
def Qx:Ev->SR :=
 (Ci
  (Fi (cOp Al (Ab 0) (cC (.int 0))) (cgN 2))
  (Ci (cIf (Bb (cOp (Gf true) (Ab 1) (Ab 2))) Ac8 Dm)
  (Df (cMt Kv Jz (Ab 2) (Ab 1)))))
def Ez:List O->FR:=Fv 2 3 Qx
def O1:Ev->SR :=
 (Df (cLC [none,some 0] (Bw (Ab 1)) (cgN 0) Bp (cF Ez (Ae (Ab 1) (Ae (Ab 0) Ba)))))
def Gj:List O->FR:=Fv 2 2 O1
def Nu:Ev->SR :=
 (Df (cUn Fp (cLC [none,some 0] (Bw (Ab 1)) (cgN 0) Bp (cOp Al (Ab 1) (Ab 0)))))
def Fj:List O->FR:=Fv 2 2 Nu
def M8:BF :=
 (A4b (d:=3) (cF Fj (Ae (Ab 5) (Ae (Ab 2) Ba))) (Ab 4))
def Zo:Ev->SR :=
 (Ci
  (Fi (cFz (cF Gj (Ae (Ab 0) (Ae (Ab 1) Ba)))) (cgN 2))
  (Tg 3 (A4i (d:=3) (Oi (cOp Al (Ab 0) (cC (.int 1)))) (cgT 2 (Ft (cgN 4) (Ft (cgN 5) Oo))) M8)
  (Df (Ug (Ab 3)))))
def Dg:List O->FR:=Fv 2 6 Zo
def Vm:Ev->SR :=
 (Ci
  (cIf (cOr (Le (Bb (cF Bg (Ae (Ab 0) Ba)))) (Le (Bb (cUn (Jf .list .tuple) (Ab 1))))) (Df (cC (.bool false))) Dm)
  (Df (cOp (Ca false) (Ed (cF Dg (Ae (Ab 0) (Ae (Ab 1) Ba)))) (Ed (cOp Al (Ab 0) (cC (.int 1)))))))
def Gw:List O->FR:=Fv 2 2 Vm
def J2:Ev->SR :=
 (Ci
  (cIf (Bb (cOp Nj (Ab 1) (Ed (Ab 0)))) (Df (Bb0 (Ab 0) (Ab 1))) Dm)
  (Df (cC (.int 0))))
def Fl:List O->FR:=Fv 2 2 J2
def Y6:Ev->SR :=
 (Ci
  (Fi (cF Fl (Ae (Ab 0) (Ae (Ab 1) Ba))) (cgN 2))
  (Df (Im (Ae (cOp Jy (cUn Ah7 (Ab 2)) (cUn Vy (cOp Be3 (cUn Ah7 (Ab 2)) (cOp Zy (cC (.int 10)) (cC (.int 18)))))) (Ae (cOp Ek (cOp Ek (cOp Ol (Ab 2) (cC (.int 2305843009213693951))) (cOp Jy (cC (.int 39373)) (Ab 1))) (cC (.int 17))) (Ae (cC (.int 0)) Ba))))))
def Kz:List O->FR:=Fv 2 3 Y6
def Pr:Ev->SR :=
 (Ci
  (cIf (Bb (cOp A5a (cOp Al (Ab 0) (cC (.int 0))) (cC (.int 0)))) (Ci (Fi (cOp Ol (cOp Al (Ab 0) (cC (.int 0))) (Ab 1)) (cgN 2))
  (Ci (Fi (cOp W9 (cOp Al (Ab 0) (cC (.int 0))) (Ab 1)) (Ak6 (Ab 0) (cC (.int 0))))
  (Df (Ab 2)))) Dm)
  (Ci (Fi (cOp Ek (cOp Al (Ab 0) (cC (.int 2))) (cC (.int 1))) (Ak6 (Ab 0) (cC (.int 2))))
  (Ci (Fi (cOp Ol (cOp Jy (cOp Ek (cOp Al (Ab 0) (cC (.int 1))) (cOp Jy (cC (.int 48271)) (cOp Al (Ab 0) (cC (.int 2))))) (cOp Ek (cC (.int 39373)) (cOp Al (Ab 0) (cC (.int 2))))) (cC (.int 2147483647))) (cgN 3))
  (Ci (Fi (cOp Ol (cOp Jy (cOp Ek (Ab 3) (cOp Al (Ab 0) (cC (.int 2)))) (cOp Ek (cOp Ol (Ab 3) (cC (.int 40009))) (cC (.int 7)))) (cC (.int 2147483629))) (cgN 4))
  (Df (cOp Ol (cOp W9 (cOp Ol (cOp Ek (cOp Jy (Ab 4) (cC (.int 48271))) (Ab 3)) (cC (.int 2147483587))) (cC (.int 64))) (Ab 1)))))))
def An:List O->FR:=Fv 2 5 Pr
def Qp:Ev->SR :=
 (Ci
  (cIf (Bb (cOp (Ca false) (cF An (Ae (Ab 0) (Ae (cC (.int 8)) Ba))) (cC (.int 0)))) (Df (cOp Ek (cC (.int 7)) (cF An (Ae (Ab 0) (Ae (cOp Sh (Ab 3) (cC (.int 6))) Ba))))) Dm)
  (Df (cOp Ek (Ab 1) (cF An (Ae (Ab 0) (Ae (cOp Ek (cOp Sh (Ab 2) (Ab 1)) (cC (.int 1))) Ba))))))
def G6:List O->FR:=Fv 4 4 Qp
def S6:Ev->SR :=
 (Ci
  (Fi (Im (cK [.str "b",.str "a",.str "year",.str "z",.str "ab",.str "month",.str "aa",.str "quantity",.str "c",.str "town",.str "zz",.str "ba"])) (cgN 2))
  (Df (cLC [none,some 2,some 0] (Mg (Ab 1)) (cgN 0) Bp (Mq (Ab 1) (cF An (Ae (Ab 2) (Ae (Ed (Ab 1)) Ba)))))))
def Hy:List O->FR:=Fv 2 3 S6
def Ih:Ev->SR :=
 (Ci
  (Fi (cF An (Ae (Ab 0) (Ae (cC (.int 9)) Ba))) (cgN 1))
  (Ci (cIf (Bb (cOp Nj (Ab 1) (cC (.int 4)))) (Df (cOp Sh (cF An (Ae (Ab 0) (Ae (cC (.int 13)) Ba))) (cC (.int 3)))) Dm)
  (Ci (cIf (Bb (cOp (Ca false) (Ab 1) (cC (.int 4)))) (Df (cOp Al (Im (Ae (cOp Sh (cOp Zy (cC (.int 10)) (cC (.int 12))) (cC (.int 1))) (Ae (cOp Sh (cC (.int 0)) (cOp Zy (cC (.int 10)) (cC (.int 11)))) (Ae (cC (.int 100)) (Ae (cC (.int 10)) Ba))))) (cF An (Ae (Ab 0) (Ae (cC (.int 4)) Ba))))) Dm)
  (Ci (cIf (Bb (cOp (Ca false) (Ab 1) (cC (.int 5)))) (Df (cC (.none))) Dm)
  (Df (cOp Al (Im (cK [.str "",.str "a",.str "b",.str "B",.str "10",.str "9",.str "-",.str "a b",.str "it's",.str "\\",.str "/",.str "_",.str ":",.str "None",.str "ab"])) (cF An (Ae (Ab 0) (Ae (cC (.int 15)) Ba)))))))))
def Ej:List O->FR:=Fv 1 2 Ih
def Vg:Ev->SR :=
 (Ci
  (Fi (Im Ba) (cgN 2))
  (Ci (Rt (Mg (Ab 1)) (cgN 3) (Ci (Fi (cF Ej (Ae (Ab 0) Ba)) (cgN 4))
  (cIf (Bb (cOp (Gf true) (Ab 4) (Ab 2))) (Vc (Au3 (Ab 2) (Ab 4))) Dm)))
  (Df (Ab 2))))
def Gb:List O->FR:=Fv 2 5 Vg
def Mp:Ev->SR :=
 (Ci
  (Fi (cF Hy (Ae (Ab 0) (Ae (Ab 1) Ba))) (cgN 3))
  (Ci (Fi (cLC [none,some 0] (Bw (Ab 3)) (cgN 0) Bp (cF Gb (Ae (Ab 1) (Ae (cOp Al (Im (cK [.int 2,.int 3,.int 3,.int 5,.int 12])) (cF An (Ae (Ab 1) (Ae (cC (.int 5)) Ba)))) Ba)))) (cgN 4))
  (Ci (Fi (Im Ba) (cgN 5))
  (Ci (Rt (Mg (Ab 2)) (cgN 6) (Ci (Fi (cUn Fp (cLC [none,some 0] (Bw (Ab 4)) (cgN 0) Bp (cOp Al (Ab 0) (cF An (Ae (Ab 1) (Ae (Ed (Ab 0)) Ba)))))) (cgN 7))
  (Ci (cIf (Y9 (Bb (cOp (Ca true) (Ab 5) (Im Ba))) (Bb (cOp (Ca false) (cF An (Ae (Ab 0) (Ae (cC (.int 9)) Ba))) (cC (.int 0))))) (Fi (cOp Al (Ab 5) (cF An (Ae (Ab 0) (Ae (Ed (Ab 5)) Ba)))) (cgN 7)) Dm)
  (Vc (Au3 (Ab 5) (Ab 7))))))
  (Df (Zc (Ae (cUn Fp (Ab 3)) (Ae (cUn Fp (Ab 5)) Ba))))))))
def J9:List O->FR:=Fv 3 8 Mp
def K1:Ev->SR :=
 (Df (cF J9 (Ae (Ab 0) (Ae (cF G6 (Ae (Ab 0) (Ae (cC (.int 2)) (Ae (cC (.int 5)) (Ae (cC (.int 12)) Ba))))) (Ae (cF G6 (Ae (Ab 0) (Ae (cC (.int 0)) (Ae (cC (.int 8)) (Ae (cC (.int 24)) Ba))))) Ba)))))
def Fd:List O->FR:=Fv 1 1 K1
def Gi:Ev->SR :=
 (Ci
  (Fi (cUn Ml (Ab 1)) (cgN 2))
  (Ci (Fi (cLC [none,some 2,some 0] (Bw (Ab 1)) (cgN 0) Bp (Mq (Ab 1) (cF An (Ae (Ab 2) (Ae (Ed (Ab 1)) Ba))))) (cgN 3))
  (Df (cSl Qg (Ab 3) cON (cOS (cOp Al (Im (Ae (cF An (Ae (Ab 0) (Ae (cOp Ek (Ed (Ab 3)) (cC (.int 1))) Ba))) (Ae (cC (.int 1)) (Ae (cC (.int 2)) (Ae (Ed (Ab 3)) Ba))))) (cF An (Ae (Ab 0) (Ae (cC (.int 4)) Ba)))))))))
def Cr:List O->FR:=Fv 2 4 Gi
def Ai1:Ev->SR :=
 (Df (cUn Fp (cLC [none,some 1,some 0] (Bw (Ab 2)) (cgN 0) Bp (cOp Al (Ab 1) (cMt Kv Jz (cOp Al (Ab 2) (cC (.int 0))) (Ab 0))))))
def Ir:List O->FR:=Fv 3 3 Ai1
def Gd (pr:List O->FR):Ev->SR :=
 (Ci
  (cIf (Bb (cUn (Jf .list .tuple) (Ab 1))) (Ci (cIf (cOr (Bb (cOp (Ca true) (cUn (Ax .list) (Ab 0)) (cUn (Ax .list) (Ab 1)))) (Bb (cOp (Ca true) (cUn (Ax .tuple) (Ab 0)) (cUn (Ax .tuple) (Ab 1))))) (Df (cC (.bool false))) Dm)
  (Df (N8 (cOp (Ca false) (Ed (Ab 0)) (Ed (Ab 1))) (cUn Iv (cLC [none,none] (Aq3 (Ab 0) (Ab 1)) (cgT 2 (Ft (cgN 0) (Ft (cgN 1) Oo))) Bp (cF pr (Ae (Ab 0) (Ae (Ab 1) Ba)))))))) Dm)
  (Ci (cIf (cOr (Bb (cOp (Jr false) (Ab 1) (cC (.none)))) (Bb (cUn (Ax .str) (Ab 1)))) (Df (N8 (cOp (Ca false) (Ab 0) (Ab 1)) (cOp (Ca false) (cUn (Ax .str) (Ab 0)) (cUn (Ax .str) (Ab 1))))) Dm)
  (Ci (cIf (Bb (cUn (Ax .bool) (Ab 1))) (Df (N8 (cUn (Ax .bool) (Ab 0)) (cOp (Ca false) (Ab 0) (Ab 1)))) Dm)
  (Df (N8 (cUn (Ax .int) (Ab 0)) (N8 (A2e (cUn (Ax .bool) (Ab 0))) (cOp (Ca false) (Ab 0) (Ab 1))))))))
def Bm:Nat->List O->FR
 | 0=>λ_=>.bad
 | k+1=>Fv 2 2 (Gd (Bm k))
def Mv:Ev->SR :=
 (A3o 2 3 4 5 [none,some 0,some 1,some 4] (Oi (cOp Al (Ab 0) (cC (.int 1)))) (Bb (cOp (Ca false) (cF Ir (Ae (Ab 1) (Ae (cOp Al (cOp Al (Ab 1) (cC (.int 1))) (cOp Al (Ab 0) (cC (.int 0)))) (Ae (Ab 2) Ba)))) (cF Ir (Ae (Ab 1) (Ae (Ab 3) (Ae (Ab 2) Ba)))))) (Bb (cOp (Ca false) (Ab 5) (Im Ba))))
def Ij:List O->FR:=Fv 2 6 Mv
def Jp:Ev->SR :=
 (A6l 9 10 3 7 (cF Dg (Ae (Ab 3) (Ae (Ab 7) Ba))) (cOr (Le (Bb (cF (Bm 5) (Ae (Ab 9) (Ae (Ab 6) Ba))))) (Bb (cOp (Ca true) (cUn Ml (Ab 7)) (Ab 5)))))
def Jo:Ev->SR :=
 (cIf (Bb (cOp (Ca true) (Ed (cLC [none,some 10] (Bw (Ab 6)) (cgN 0) (Y9 (Bb (cOp (Gf false) (cOp Al (Ab 1) (cC (.int 0))) (Ab 0))) (Bb (cOp (Gf false) (cOp Al (Ab 1) (cUn U3 (cC (.int 1)))) (Ab 0)))) (Ab 0))) (cC (.int 1)))) (Df (cC (.bool false))) Dm)
def Kw:Ev->SR :=
 (Ci
  (Fi (cFz (cF Cr (Ae (Ab 2) (Ae (cOp Al (Ab 3) (cC (.int 0))) Ba)))) (cgN 5))
  (Ci (Fi (cFz (cF Ij (Ae (Ab 3) (Ae (Ab 5) Ba)))) (cgN 6))
  (Ci (Fi (cOp Al (Im (Ae (cUn Ml (Ab 5)) (Ae (cUn Fp (Ab 5)) Ba))) (cF An (Ae (Ab 2) (Ae (cC (.int 2)) Ba)))) (cgN 7))
  (Ci (Rt (Mg (cC (.int 2))) (cgN 8) Jp)
  (Ci (cIf (Le (Bb (cF (Bm 5) (Ae (cF Gw (Ae (Ab 3) (Ae (Ab 7) Ba))) (Ae (cUn Iv (cLC [none] (Bw (Ab 6)) (cgN 0) Bp (cOp (Ca false) (Ed (Ab 0)) (cC (.int 1))))) Ba))))) (Df (cC (.bool false))) Dm)
  (Ci (Fi (cFz (cOp Ek (Ab 5) (cSl Qg (cLC [none,some 5] (Bw (cOp Al (Ab 3) (cC (.int 0)))) (cgN 0) (Bb (cOp (Gf true) (Ab 0) (Ab 1))) (Ab 0)) cON (cOS (cC (.int 1)))))) (cgN 11))
  (Rt (Bw (cF Dg (Ae (Ab 3) (Ae (Ab 11) Ba)))) (cgN 10) Jo)))))))
def Lf:Ev->SR :=
 (Ci
  (Fi (cFz (cF Ij (Ae (Ab 10) (Ae (Ab 5) Ba)))) (cgN 6))
  (cIf (cOr (Le (Bb (cF (Bm 5) (Ae (cF Dg (Ae (Ab 10) (Ae (Ab 5) Ba))) (Ae (Ab 6) Ba))))) (Bb (cOp (Ca true) (cF Gw (Ae (Ab 10) (Ae (Ab 5) Ba))) (cOp (Ca false) (Ed (Ab 6)) (Ed (cOp Al (Ab 10) (cC (.int 1)))))))) (Df (cC (.bool false))) Dm))
def Lh:Ev->SR :=
 (Ci
  (Fi (cF Kz (Ae (Ab 0) (Ae (Ab 1) Ba))) (cgN 2))
  (Ci (Fi (cF Fd (Ae (Ab 2) Ba)) (cgN 3))
  (Ci (Rt (Mg (cC (.int 3))) (cgN 4) Kw)
  (Ci (Fi (cFz (cF Cr (Ae (Ab 2) (Ae (cOp Al (Ab 3) (cC (.int 0))) Ba)))) (cgN 5))
  (Ci (Rt (Bw (Zc (Ae (Ab 3) (Ae (Zc (Ae (cOp Al (Ab 3) (cC (.int 0))) (Ae (cSl Qg (cOp Al (Ab 3) (cC (.int 1))) (cOS (cC (.int 1))) cON) Ba))) (Ae (Zc (Ae (cOp Al (Ab 3) (cC (.int 0))) (Ae (cUn Az3 (cOp Al (Ab 3) (cC (.int 1)))) Ba))) (Ae (Ab 3) Ba)))))) (cgN 10) Lf)
  (cIf (Le (Bb (cF (Bm 5) (Ae (cF Dg (Ae (Ab 3) (Ae (Im Ba) Ba))) (Ae (cOp Tq (Im (Ae (cUn Xe (Ed (cOp Al (Ab 3) (cC (.int 1))))) Ba)) (cUn Vy (cOp (Ca true) (cOp Al (Ab 3) (cC (.int 1))) (Zc Ba)))) Ba))))) (Df (cC (.bool false))) Dm))))))
def Ac2:Ev->SR :=
 (Ci
  (Rt (Mg (cOp Ek (cC (.int 1)) (cOp Ag7 (cC (.int 12)) (Ed (Ab 0))))) (cgN 1) Lh)
  (Df (cC (.bool true))))
def Ag4:List O->FR:=Fv 1 12 Ac2
abbrev sI (x:PyData):Option O:=some (.im x)
abbrev sT (x:List PyData):Option O:=some (.ls true x)
abbrev sFa (x:List PyData):Option O:=some (.ls false x)
local macro_rules | `(tactic| wp_walk using $ts,*)=>`(tactic| simp only [sI,sT,sFa,Ci,Fi,cgN,cgT,Ft,Oo,Ab,cC,cOp,cUn,Ed,cF,cFz,List.contains_cons,Yd,Yo,slots,pairsOf,ndB,Gr,Ba,Ae,cK,nrm,Ep,rdP,O.dat,O.flag,O.bor,frz,frzs,Zc,Im,cIf,Bb,Bp,Y9,cOr,Le,N8,A9m,A2e,Df,Vc,Dm,Ac8,Au3,slL,Mq,Ak6,cSl,cON,cOS,Mg,cIn,R.bind_ok,R.toS_ok,Fv,At3,resolve,Ha,Ww,U.opI,U.U0,A5a,Be3,Sh,W9,Ol,Zy,Kh,Ku,Bb0,List.getElem?_cons_zero,List.getElem?_cons_succ,List.set_cons_zero,List.set_cons_succ,List.map_cons,List.map_nil,List.length_cons,List.length_nil,List.replicate,List.cons_append,List.nil_append,List.append_nil,List.contains_nil,Option.map_some,Option.map_none,Option.bind_some,Option.join_some,Option.isSome_some,if_true,if_false,Bool.not_true,Bool.not_false,Bool.and_true,Bool.true_and,Bool.and_false,Bool.false_and,Bool.or_true,Bool.or_false,Bool.true_or,Bool.false_or,Nat.sub_self,List.dropLast,List.any_nil,List.flatMap_nil,ite_true,ite_false,decide_true,decide_false,reduceCtorEq,Bi9,Bl6,Bj8,Bk9,Bk2,Be5,Bd1,A9s,U.Ar5,Nat.zero_add,Nat.reduceAdd,Nat.reduceSub,Nat.reduceLeDiff,Nat.reduceLT,Nat.reduceEqDiff,Int.reduceAdd,Int.reduceSub,Int.reduceNeg,Int.reduceLT,Int.reduceLE,Int.reducePow,Int.reduceToNat,Int.reduceMul,and_self,and_true,true_and,Bool.false_eq_true,Option.some.injEq,cMt,Kv,Be7,$[$ts:term],*])
def Bx (n:Nat)(ds:List PyData):Prop:=∃x y z:Int,ds=[.int x,.int y,.int z]/\0<=x/\0<=y/\y<2 ^ 62/\0<=z/\z<=n
abbrev lH:Str:="_law_box_here"
abbrev lJ:Str:="_law_many_here"
abbrev lK:Str:="_law_names_here"
abbrev lL:Str:="_law_table_here"
abbrev lM:Str:="_law_script"
abbrev lN:Str:="_law_found"
abbrev lP:Str:="_law_some"
abbrev lQ:Str:="_law_row"
abbrev lR:Str:="_law_same"
theorem Bx.mono (h:Bx n ds) (l:n<=m):Bx m ds:=by
 obtain⟨x,y,z,e,b,c,a,d,f⟩:=h
 exact⟨x,y,z,e,b,c,a,d,by omega⟩
theorem mod_lt {x m:Int}(h:0<m):0<=x % m/\x % m<m:=⟨Int.emod_nonneg _ (by omega),Int.emod_lt_of_pos _ h⟩
theorem Aw3 (h:-(2 ^ 64)<i/\i<2 ^ 64):Ua i j=true:=by
 unfold Ua;grind
theorem Wa (h:-(2 ^ 64)<j/\j<2 ^ 64):Ua i j=true:=by
 unfold Ua;grind
theorem Af6 (h:0<j):Ay1 i j=true:=decide_eq_true h
theorem Bh2 (h:0<j/\j<1073741824):Al2 i j=true:=by
 unfold Al2;grind
theorem Bj2:Aa5 10 18=true:=by rfl
theorem Bl9:Aa5 10 12=true:=by rfl
theorem Bl0:Aa5 10 11=true:=by rfl
theorem Dw (hb:Bx n ds) (hn:n<2 ^ 40) (a:0<m) (h1:m<16000000) :
 ∃r ds',Bx (n+1) ds'/\0<=r/\r<m/\An [.ls true ds,.im (.int m)]=.ret (.im (.int r)) [.ls true ds',.im (.int m)]:=by
 obtain⟨x,y,z,rfl,d,e,b,g,z1⟩:=hb
 by_cases c:0<x
 ·refine⟨x % m,[.int (x / m),.int y,.int z],⟨_,_,_,rfl,Int.ediv_nonneg d (by omega),e,b,g,by omega⟩,(mod_lt a).1,(mod_lt a).2,?_⟩
  wp_walk using An,Pr,Al,decide_eq_true c,Af6 a,Bh2 ⟨a,(by omega:m<1073741824)⟩
 ·have h:=mod_lt (x:=(y+48271*(z+1))*(39373+(z+1))) (m:=2147483647) (by decide)
  generalize e1:(y+48271*(z+1))*(39373+(z+1)) % 2147483647=once at h
  have g2:=mod_lt (x:=once) (m:=40009) (by decide)
  have f:=mod_lt (x:=(once+(z+1))*(once % 40009+7)) (m:=2147483629) (by decide)
  generalize e2:(once+(z+1))*(once % 40009+7) % 2147483629=twice at f
  refine⟨(twice*48271+once) % 2147483587 / 64 % m,[.int x,.int y,.int (z+1)],⟨_,_,_,rfl,d,e,b,by omega,by omega⟩,(mod_lt a).1,(mod_lt a).2,?_⟩
  wp_walk using An,Pr,Al,Jy,Ek,decide_eq_false c,Af6 a,Bh2 (i:=(twice*48271+once) % 2147483587) (j:=64) ⟨by decide,by decide⟩,Aw3 (i:=48271) (j:=z+1) ⟨by decide,by decide⟩,Wa (i:=y+48271*(z+1)) (j:=39373+(z+1)) ⟨by omega,by omega⟩,Af6 (i:=(y+48271*(z+1))*(39373+(z+1))) (j:=2147483647) (by decide),e1,Af6 (i:=once) (j:=40009) (by decide),Wa (i:=once+(z+1)) (j:=once % 40009+7) ⟨by omega,by omega⟩,Af6 (i:=(once+(z+1))*(once % 40009+7)) (j:=2147483629) (by decide),e2,Wa _,Af6 (j:=2147483587) (by decide)
theorem Ae9 {k:Nat}:∃i:Int,Fl [.sc ns,.im (.int k)]=.ret (.im (.int i)) [.sc ns,.im (.int k)]:=by
 by_cases c:k<ns.length
 ·refine⟨ns[k],?_⟩
  have e:atI ns (k:Int)=some ns[k]:=Fx (List.getElem?_eq_getElem c)
  wp_walk using Fl,J2,Nj,Dl,PyData.canLay0,PyData.depth,Ae1,decide_eq_true (show (k:Int)<ns.length by omega),e,Nat.zero_le
 ·refine⟨0,?_⟩
  wp_walk using Fl,J2,Nj,Dl,PyData.canLay0,PyData.depth,Ae1,decide_eq_false (show ¬ (k:Int)<ns.length by omega),Nat.zero_le
theorem Bd2 {k:Nat}(hk:k<=63):∃ds,Bx 0 ds/\Kz [.sc ns,.im (.int k)]=.ret (.ls false ds) [.sc ns,.im (.int k)]:=by
 obtain⟨i,e⟩:=Ae9 (ns:=ns) (k:=k)
 have a:(0:Int)<=(if i<0 then -i else i):=by grind
 have c:=mod_lt (x:=i) (m:=2305843009213693951) (by decide)
 generalize ea:(if i<0 then -i else i)=ab at a
 have b:(0:Int)<=(if decide ((1000000000000000000:Int)<=ab)=true then 1 else 0)/\(if decide ((1000000000000000000:Int)<=ab)=true then (1:Int) else 0)<=1:=by omega
 generalize eo:(if decide ((1000000000000000000:Int)<=ab)=true then (1:Int) else 0)=on at b
 refine⟨[.int _,.int (i % 2305843009213693951+39373*k+17),.int 0],⟨_,_,_,rfl,Int.mul_nonneg a b.1,by omega,by omega,by omega,by omega⟩,?_⟩
 wp_walk using Kz,Y6,e,Ah7,ea,Vy,Jy,Ek,eo,Bj2,Af6 (j:=2305843009213693951) (by decide),Wa (j:=on) ⟨by omega,by omega⟩,Aw3 _
theorem Am6 (hb:Bx n ds) (hn:n<2 ^ 39) (j:0<=l) (h1:l<=7) (h2:l<=f) (t:f<=m) (o:7<=m) (p:m<1000) :
 ∃r ds',Bx (n+2) ds'/\l<=r/\r<=m/\G6 [.ls true ds,.im (.int l),.im (.int f),.im (.int m)]=.ret (.im (.int r)) [.ls true ds',.im (.int l),.im (.int f),.im (.int m)]:=by
 obtain⟨r,s,g,u,k,e⟩:=Dw (m:=8) hb (by omega) (by decide) (by decide)
 by_cases c:r=0
 ·subst c
  obtain⟨q,a,d,h,i,b⟩:=Dw (m:=m-6) g (by omega) (by omega) (by omega)
  refine⟨7+q,a,d,by omega,by omega,?_⟩
  wp_walk using G6,Qp,e,b,Ca,Dl,PyData.canLay0,PyData.depth,PyData.eqv,Ek,Nat.zero_le,beq_self_eq_true
 ·obtain⟨q,a,d,h,i,b⟩:=Dw (m:=f-l+1) g (by omega) (by omega) (by omega)
  refine⟨l+q,a,d,by omega,by omega,?_⟩
  wp_walk using G6,Qp,e,b,Ca,Dl,PyData.canLay0,PyData.depth,PyData.eqv,Ek,Nat.zero_le,beq_eq_false_iff_ne.mpr c
theorem A0n (hb:Bx n ds) (hn:n<2 ^ 39):∃(v:Vl) (ds':List PyData),Bx (n+2) ds'/\VB v/\Ej [.ls true ds]=.ret (.im v.d) [.ls true ds']:=by
 obtain⟨r,t,k,r0,r1,j⟩:=Dw (m:=9) hb (by omega) (by decide) (by decide)
 by_cases c4:r<4
 ·obtain⟨q,e,g,h,i,c⟩:=Dw (m:=13) k (by omega) (by decide) (by decide)
  refine⟨.int (q-3),e,g,?_,?_⟩
  ·show (decide (-1000000000000<=q-3)&&decide (q-3<=1000000000000))=true
   rw[decide_eq_true (by omega),decide_eq_true (by omega)];rfl
  wp_walk using Ej,Ih,j,c,Nj,Ae1,Dl,PyData.canLay0,PyData.depth,Nat.zero_le,decide_eq_true c4,Vl.d
 by_cases c5:r=4
 ·subst c5
  obtain⟨q,e,g,h,i,c⟩:=Dw (m:=4) k (by omega) (by decide) (by decide)
  obtain⟨d,s,f,_⟩:=Ql (l:=[PyData.int 999999999999,.int (-100000000000),.int 100,.int 10]) (r:=q) h i
  have p:∃v:Vl,d=v.d/\VB v:=by
   simp only[List.mem_cons,List.not_mem_nil,or_false]at f
   rcases f with rfl | rfl | rfl | rfl <;> exact⟨.int _,rfl,by decide⟩
  obtain⟨v,rfl,o⟩:=p
  refine⟨v,e,g,o,?_⟩
  wp_walk using Ej,Ih,j,c,Nj,Ae1,Ca,Dl,PyData.canLay0,PyData.depth,PyData.eqv,Nat.zero_le,decide_eq_false c4,beq_self_eq_true,Bl9,Bl0,Al,s
 by_cases c6:r=5
 ·subst c6
  refine⟨.non,t,k.mono (by omega),rfl,?_⟩
  wp_walk using Ej,Ih,j,Nj,Ae1,Ca,Dl,PyData.canLay0,PyData.depth,PyData.eqv,Nat.zero_le,decide_eq_false c4,beq_self_eq_true,beq_eq_false_iff_ne.mpr c5,Vl.d
 ·obtain⟨q,e,g,h,i,c⟩:=Dw (m:=15) k (by omega) (by decide) (by decide)
  obtain⟨d,s,f,_⟩:=Ql (l:=[PyData.str "",.str "a",.str "b",.str "B",.str "10",.str "9",.str "-",.str "a b",.str "it's",.str "\\",.str "/",.str "_",.str ":",.str "None",.str "ab"]) (r:=q) h i
  have p:∃v:Vl,d=v.d/\VB v:=by
   simp only[List.mem_cons,List.not_mem_nil,or_false]at f
   rcases f with rfl | rfl | rfl | rfl | rfl | rfl | rfl | rfl | rfl | rfl | rfl | rfl | rfl | rfl | rfl <;> exact⟨.str _,rfl,by decide⟩
  obtain⟨v,rfl,o⟩:=p
  refine⟨v,e,g,o,?_⟩
  wp_walk using Ej,Ih,j,c,Nj,Ae1,Ca,Dl,PyData.canLay0,PyData.depth,PyData.eqv,Nat.zero_le,decide_eq_false c4,beq_eq_false_iff_ne.mpr c5,beq_eq_false_iff_ne.mpr c6,Al,s
noncomputable def names12:List Str:=[Str.ofString "b",Str.ofString "a",Str.ofString "year",Str.ofString "z",Str.ofString "ab",Str.ofString "month",Str.ofString "aa",Str.ofString "quantity",Str.ofString "c",Str.ofString "town",Str.ofString "zz",Str.ofString "ba"]
theorem Bh9 {m:Nat}(h:m<=1000):(m:Int)<=16000000/\-16000000<=(m:Int):=by omega
theorem upN {n k a b c:Nat}(hn:n<a)(hk:k<=b)(h:a+b<=c):n+k<c:=Nat.lt_of_lt_of_le (Nat.add_lt_add_of_lt_of_le hn hk) h
theorem Aj7 {n:Nat}{r:Int}(a:0<=r)(h1:r<n):ixN n r=some r.toNat:=by
 unfold ixN;grind
theorem Oe : (Ju lo n).length=n:=by unfold Ju;grind
theorem O4 (h:(Ju lo n)[k]?=some d):d=.int (lo+k)/\k<n:=by
 unfold Ju at h
 grind
theorem Pb {α β:Type}(f:α->β):∀(l:List α) (j:Nat),(l.map f).eraseIdx j=(l.eraseIdx j).map f
 | [],j=>rfl
 | a::l,0=>rfl
 | a::l,j+1=>by rw[List.map_cons,List.eraseIdx_cons_succ,List.eraseIdx_cons_succ,List.map_cons,Pb f l j]
theorem Mu {α:Type}:∀(l:List α) {j:Nat}(h:j<l.length),(l[j]::l.eraseIdx j).Perm l
 | a::l,0,h=>List.Perm.refl _
 | a::l,j+1,h=>by
  rw[List.eraseIdx_cons_succ,List.getElem_cons_succ]
  exact(List.Perm.swap a _ _).trans (List.Perm.cons a (Mu l (by simpa using h)))
structure Names (ns:List Str):Prop where
 nd:ns.Nodup
 sub:∀x∈ns,x∈names12
theorem A1e (hb:Bx n ds) (hn:n<2 ^ 38) (hm:m<=12) :
 ∃b ds',b.length=m/\Names b/\Bx (n+m) ds'/\Hy [.ls true ds,.im (.int m)]=.ret (.ls false (b.map PyData.str)) [.ls true ds',.im (.int m)]:=by
 have i:=Jm (g:=cgN 0) (ft:=Bp) (fe:=Mq (Ab 1) (cF An (Ae (Ab 2) (Ae (Ed (Ab 1)) Ba)))) (items:=Ju 0 m) (acc:=[]) (n:=0) (c:=[none,sT (names12.map PyData.str),sT ds])
  (P:=λk f c=>∃a h t b,c=[t,sT (a.map PyData.str),sT h]/\Bx (n+k) h/\f=b.map PyData.str/\(b++a).Perm names12/\b.length=k)
  ⟨names12,ds,none,[],rfl,hb,rfl,List.Perm.refl _,rfl⟩ (λk d f c C w=>by
   rw[Nat.zero_add]at w ⊢;obtain⟨a,h,t,b,rfl,o,rfl,j,l⟩:=w;obtain⟨rfl,hk⟩:=O4 C
   have ll:a.length+k=12:=by have:=j.length_eq;rw[List.length_append,l]at this;have e:names12.length=12:=rfl;omega
   obtain⟨r,v,A,z,y,B⟩:=Dw (m:=(a.length:Int)) o (by omega) (by omega) (by omega)
   have u:r.toNat<a.length:=by omega
   have q:(a.map PyData.str)[r.toNat]?=some (.str a[r.toNat]):=by simp[u]
   have p:ixN a.length r=some r.toNat:=Aj7 z y
   refine⟨some (.str a[r.toNat]),[sI (.int (0+(k:Int))),sT ((a.eraseIdx r.toNat).map PyData.str),sT v],?_,a.eraseIdx r.toNat,v,_,b++[a[r.toNat]],rfl,A.mono (by omega),by simp,?_,by simp[l]⟩
   ·wp_walk using Cw,List.length_map,B,p,q,Pb,show a.length<=16000000 by omega
   ·rw[List.append_assoc]
    exact(List.Perm.append_left b (Mu a u)).trans j)
 obtain⟨f,cI,e,a,h,t,b,rfl,o,rfl,j,l⟩:=i;rw[Nat.zero_add,Oe]at o l
 have D:(b++a).Nodup:=j.nodup_iff.mpr (by decide)
 refine⟨b,h,l,⟨(List.nodup_append.mp D).1,λx q=>j.mem_iff.mp (List.mem_append_left _ q)⟩,o,?_⟩
 have s:cLC [none,some 2,some 0] (Mg (Ab 1)) (cgN 0) Bp (Mq (Ab 1) (cF An (Ae (Ab 2) (Ae (Ed (Ab 1)) Ba)))) [sT ds,sI (.int m),sFa (names12.map PyData.str)]=.ok (.o (.ls false (b.map PyData.str))) [sT h,sI (.int m),sFa (a.map PyData.str)] :=
  Fy (ds:=Ju 0 m) (c1:=[sT ds,sI (.int m),sFa _]) (by wp_walk using Bh9 (Nat.le_trans hm (by decide)),Int.toNat_natCast) (by rw[Oe];exact Nat.le_trans hm (by decide)) e (by wp_walk using true_and)
 unfold Hy S6;simp only[names12,List.map_cons,List.map_nil]at s
 wp_walk using s
theorem Ap3 {k:Nat}{vs:List Vl} (h:v∉vs) (a:vs.Nodup):(vs++[v]).Nodup:=by
 grind
theorem A4w (hb:Bx n ds) (hn:n<2 ^ 38) (hm:m<=1000) :
 ∃a ds',VBs a/\a.Nodup/\a.length<=m/\(0<m->a≠[])/\Bx (n+2*m) ds'/\Gb [.ls true ds,.im (.int m)]=.ret (.ls false (a.map Vl.d)) [.ls true ds',.im (.int m)]:=by
 have i:=Hb (g:=cgN 3) (body:=Ci (Fi (cF Ej (Ae (Ab 0) Ba)) (cgN 4)) (cIf (Bb (cOp (Gf true) (Ab 4) (Ab 2))) (Vc (Au3 (Ab 2) (Ab 4))) Dm)) (items:=Ju 0 m) (n:=0) (c:=[sT ds,sI (.int m),sFa [],none,none])
  (P:=λk c=>∃j a x y,c=[sT j,sI (.int m),sFa (a.map Vl.d),x,y]/\Bx (n+2*k) j/\VBs a/\a.Nodup/\a.length<=k/\(0<k->a≠[]))
  ⟨ds,[],none,none,rfl,hb,(λv b=>by cases b),List.nodup_nil,Nat.le_refl _,λh=>absurd h (by decide)⟩ (λk d c B s=>by
   rw[Nat.zero_add]at s ⊢;obtain⟨j,a,x,y,rfl,p,b,o,l,f⟩:=s;obtain⟨rfl,w⟩:=O4 B
   obtain⟨v,q,t,r,A⟩:=A0n p (upN hn (Nat.mul_le_mul_left 2 (Nat.le_trans (Nat.le_of_lt w) hm)) (by decide))
   by_cases c:v∈a
   ·refine⟨[sT q,sI (.int m),sFa (a.map Vl.d),sI (.int (0+(k:Int))),sI v.d],.inl ?_,q,a,_,_,rfl,t,b,o,Nat.le_succ_of_le l,λ_ z=>by rw[z]at c;cases c⟩
    wp_walk using A,A1t r b,decide_eq_true c
   ·refine⟨[sT q,sI (.int m),sFa ((a++[v]).map Vl.d),sI (.int (0+(k:Int))),sI v.d],.inl ?_,q,a++[v],_,_,rfl,t,VBs.app b (λu C=>by rw[List.mem_singleton.mp C];exact r),Ap3 (k:=k) c o,by rw[List.length_append,List.length_singleton];omega,λ_=>by simp⟩
    wp_walk using A,A1t r b,decide_eq_false c,List.length_map,show a.length<16000000 from Nat.lt_of_le_of_lt l (Nat.lt_of_lt_of_le w (Nat.le_trans hm (by decide))),List.map_append)
 obtain⟨c',e,j,a,x,y,rfl,p,b,o,l,f⟩:=i;rw[Nat.zero_add,Oe]at p l f
 refine⟨a,j,b,o,l,f,p,?_⟩
 unfold Gb Vg
 wp_walk using Rt,Bh9 hm,Int.toNat_natCast,e
structure Tb where
 cols:List Str
 rows:List (List Vl)
def Tb.d (t:Tb):PyData:=.tuple [.tuple (t.cols.map PyData.str),.tuple (t.rows.map tD)]
structure Tb.Ok (t:Tb):Prop where
 nms:Names t.cols
 cpos:2<=t.cols.length
 clen:t.cols.length<=12
 rows:∀r∈t.rows,r.length=t.cols.length/\VBs r
 rlen:t.rows.length<=24
def plD (vs:List Vl):PyData:=.list (vs.map Vl.d)
structure Aj2 (n:Nat) (ps:List (List Vl)):Prop where
 len:ps.length=n
 each:∀p∈ps,VBs p/\p≠[]/\p.length<=12
theorem A2w (hb:Bx n ds) (hn:n<2 ^ 37) (hl:items.length<=100) :
 ∃
  b f t,Aj2 items.length b/\Bx (n+25*items.length) f /\
  Dt (cgN 0) Bp (cF Gb (Ae (Ab 1) (Ae (cOp Al (Im (cK [.int 2,.int 3,.int 3,.int 5,.int 12])) (cF An (Ae (Ab 1) (Ae (cC (.int 5)) Ba)))) Ba))) items [] [none,sT ds]=.ok (b.map plD) [t,sT f]:=by
 have j:=Jm (g:=cgN 0) (ft:=Bp) (fe:=cF Gb (Ae (Ab 1) (Ae (cOp Al (Im (cK [.int 2,.int 3,.int 3,.int 5,.int 12])) (cF An (Ae (Ab 1) (Ae (cC (.int 5)) Ba)))) Ba))) (items:=items) (acc:=[]) (n:=0) (c:=[none,sT ds])
  (P:=λk a c=>∃f t b,c=[t,sT f]/\k<=items.length/\Bx (n+25*k) f/\a=b.map plD/\Aj2 k b)
  ⟨ds,none,[],rfl,Nat.zero_le _,hb,rfl,rfl,λp i=>nomatch i⟩ (λk d a c E v=>by
   rw[Nat.zero_add]at v ⊢;obtain⟨f,t,b,rfl,F,o,rfl,i⟩:=v;have s:k<items.length:=(List.getElem?_eq_some_iff.mp E).1
   obtain⟨r,d2,G,B,z,C⟩:=Dw (m:=5) o (by omega) (by decide) (by decide)
   obtain⟨x,D,w,_⟩:=Ql (l:=[PyData.int 2,.int 3,.int 3,.int 5,.int 12]) (r:=r) B z
   have q:∃m:Nat,x=.int m/\0<m/\m<=12:=by
    simp only[List.mem_cons,List.not_mem_nil,or_false]at w
    rcases w with rfl | rfl | rfl | rfl | rfl
    ·exact⟨2,rfl,by decide,by decide⟩
    ·exact⟨3,rfl,by decide,by decide⟩
    ·exact⟨3,rfl,by decide,by decide⟩
    ·exact⟨5,rfl,by decide,by decide⟩
    ·exact⟨12,rfl,by decide,by decide⟩
   obtain⟨m,rfl,A,m1⟩:=q
   obtain⟨y,H,q,nd,I,u,J,K⟩:=A4w (m:=m) G (by omega) (by omega)
   refine⟨some (plD y),[sI d,some _],?_,H,_,b++[y],rfl,s,J.mono (by omega),by simp,by simp[i.len],λp h=>by
    rcases List.mem_append.mp h with h | h
    ·exact i.each p h
    ·rw[List.mem_singleton.mp h];exact⟨q,u A,by omega⟩⟩
   wp_walk using C,Al,D,K,plD)
 obtain⟨a,cI,e,f,t,b,rfl,_,o,rfl,i⟩:=j;rw[Nat.zero_add]at o i;exact⟨b,f,t,i,o,e⟩
theorem At8 (hb:Bx n ds) (hn:n<2 ^ 37) (hp:Aj2 w ps) (hw:w<=100) :
 ∃
  a f t,a.length=w/\VBs a/\Bx (n+w) f /\
  Dt (cgN 0) Bp (cOp Al (Ab 0) (cF An (Ae (Ab 1) (Ae (Ed (Ab 0)) Ba)))) (ps.map plD) [] [none,sT ds]=.ok (a.map Vl.d) [t,sT f]:=by
 have o:=Jm (g:=cgN 0) (ft:=Bp) (fe:=cOp Al (Ab 0) (cF An (Ae (Ab 1) (Ae (Ed (Ab 0)) Ba)))) (items:=ps.map plD) (acc:=[]) (n:=0) (c:=[none,sT ds])
  (P:=λk b c=>∃f t a,c=[t,sT f]/\k<=w/\Bx (n+k) f/\b=a.map Vl.d/\a.length=k/\VBs a)
  ⟨ds,none,[],rfl,Nat.zero_le _,hb,rfl,rfl,λv C=>by cases C⟩ (λk d b c F B=>by
   rw[Nat.zero_add]at B ⊢;obtain⟨f,t,a,rfl,M,s,rfl,q,A⟩:=B;obtain⟨p,j,e⟩:=K4 F;subst e;have i:k<ps.length:=(List.getElem?_eq_some_iff.mp j).1;rw[hp.len]at i;obtain⟨E,y,pl⟩:=hp.each p (List.mem_of_getElem? j);have lp:0<p.length:=List.length_pos_iff.mpr y
   obtain⟨r,I,J,D,H,G⟩:=Dw (m:=(p.length:Int)) s (by omega) (by omega) (by omega)
   obtain⟨x,L,K,_⟩:=Ql (l:=p.map Vl.d) (r:=r) D (by rw[List.length_map];exact H)
   obtain⟨v,z,rfl⟩:=List.mem_map.mp K
   refine⟨some v.d,[sI (plD p),some _],?_,I,_,a++[v],rfl,i,J.mono (by omega),by simp,by simp[q],VBs.app A λu h=>by rw[List.mem_singleton.mp h];exact E v z⟩
   wp_walk using plD,Cw,List.length_map,G,Al,L)
 obtain⟨b,cI,e,f,t,a,rfl,_,s,rfl,q,A⟩:=o;rw[Nat.zero_add,List.length_map,hp.len]at s q;exact⟨a,f,t,q,A,s,e⟩
abbrev Nv:Ev->SR:=Ci (Fi (cUn Fp (cLC [none,some 0] (Bw (Ab 4)) (cgN 0) Bp (cOp Al (Ab 0) (cF An (Ae (Ab 1) (Ae (Ed (Ab 0)) Ba)))))) (cgN 7))
 (Ci (cIf (Y9 (Bb (cOp (Ca true) (Ab 5) (Im Ba))) (Bb (cOp (Ca false) (cF An (Ae (Ab 0) (Ae (cC (.int 9)) Ba))) (cC (.int 0))))) (Fi (cOp Al (Ab 5) (cF An (Ae (Ab 0) (Ae (Ed (Ab 5)) Ba)))) (cgN 7)) Dm)
 (Vc (Au3 (Ab 5) (Ab 7))))
theorem Aq9 {rows:List (List Vl)} (h:∀r∈rows,r.length=w/\VBs r) (hw:w<=12) (hl:rows.length<=100):Good (.list (rows.map tD)) 2 2400000:=by
 refine (Good.lst (n:=1) (w:=1923*12+4) (k:=100) (λd a=>?_) (by grind)).mono (by decide) (by decide)
 obtain⟨r,b,rfl⟩:=List.mem_map.mp a
 exact Ro (h r b).2 (by grind)
theorem A1j (h:∀r∈rows,r.length=w/\VBs r) (hw:w<=12) (hl:rows.length<=100):Ca true (.list (rows.map tD)) (.list [])=sI (.bool (decide (rows≠[]))):=by
 rw[Av3 (Aq9 h hw hl) (n':=1) (w':=4) ⟨rfl,rfl,rfl,by decide,by decide⟩ (by decide) (by decide)]
 cases rows with
 | nil=>rfl
 | cons a r=>rfl
def Bf4 (o:O)(ds:List PyData):Prop:=o=.ls false ds\/o=.im (.list ds)
theorem Ab4 (hb:Bx n ds) (hn:n<2 ^ 36) (hp:Aj2 w ps) (hw:w<=12) (p:Bf4 d (ps.map plD)) (hr:∀r∈rows,r.length=w/\VBs r) (hl:rows.length<=50) :
 ∃a h,a.length=w/\VBs a/\Bx (n+14) h/\Kh (cgN 6) Nv i [sT ds,s1,s2,s3,some d,sFa (rows.map tD),s6,s7]=.nx [sT h,s1,s2,s3,sI (.list (ps.map plD)),sFa ((rows++[a]).map tD),sI i,sI (tD a)]:=by
 obtain⟨g,h,t,q,v,y,C⟩:=At8 hb (by omega) hp (by omega)
 have f:∀d,Bf4 d (ps.map plD)->cLC [none,some 0] (Bw (Ab 4)) (cgN 0) Bp (cOp Al (Ab 0) (cF An (Ae (Ab 1) (Ae (Ed (Ab 0)) Ba)))) [sT ds,s1,s2,s3,some d,sFa (rows.map tD),sI i,s7]=.ok (.o (.ls false (g.map Vl.d))) [sT h,s1,s2,s3,sI (.list (ps.map plD)),sFa (rows.map tD),sI i,s7]:=λd p=>by
  refine Fy (ds:=ps.map plD) (c1:=[sT ds,s1,s2,s3,sI (.list (ps.map plD)),sFa (rows.map tD),sI i,s7]) ?_ (by rw[List.length_map,hp.len];omega) C (by wp_walk using true_and)
  rcases p with rfl | rfl <;> wp_walk using Bw
 have f:=f d p;have o:PyData.tuple (g.map Vl.d)=tD g:=rfl
 have s:(rows.map tD).length<16000000:=by rw[List.length_map];omega
 have e:=A1j hr hw (by omega)
 by_cases hne:rows=[]
 ·subst hne
  refine⟨g,h,q,v,y.mono (by omega),?_⟩
  simp only[List.map_nil]at f e s
  wp_walk using Nv,f,Fp,o,e,ne_eq,not_true_eq_false
 ·obtain⟨r,B,z,r0,r1,u⟩:=Dw (m:=9) y (by omega) (by decide) (by decide)
  have e:Ca true (.list (rows.map tD)) (.list [])=sI (.bool true):=by rw[e,decide_eq_true hne]
  by_cases c:r=0
  ·subst c
   have lp:0<rows.length:=List.length_pos_iff.mpr hne
   obtain⟨k,G,D,F,E,H⟩:=Dw (m:=(rows.length:Int)) z (by omega) (by omega) (by omega)
   obtain⟨x,hx,A,_⟩:=Ql (l:=rows.map tD) (r:=k) F (by rw[List.length_map];exact E)
   obtain⟨a,b,rfl⟩:=List.mem_map.mp A
   refine⟨a,G,(hr a b).1,(hr a b).2,D.mono (by omega),?_⟩
   have j:Ca false (.int 0) (.int 0)=sI (.bool true):=rfl
   wp_walk using Nv,f,Fp,o,e,u,j,Cw,List.length_map,H,Al,hx,s,List.map_append,show rows.length<16000000 by omega
  ·refine⟨g,B,q,v,z.mono (by omega),?_⟩
   have j:Ca false (.int r) (.int 0)=sI (.bool false):=by
    wp_walk using Ca,Dl,PyData.canLay0,PyData.depth,PyData.eqv,Nat.zero_le,beq_eq_false_iff_ne.mpr c
   wp_walk using Nv,f,Fp,o,e,u,j,List.length_map,List.map_append,show rows.length<16000000 by omega
theorem A3e (hb:Bx n ds) (hn:n<2 ^ 35) (h2:2<=m) (hm:m<=12) (hk:k<=24) :
 ∃t l,Tb.Ok t/\t.cols.length=m/\t.rows.length=k/\Bx (n+1000) l/\J9 [.ls true ds,.im (.int m),.im (.int k)]=.ret (.im t.d) [.ls true l,.im (.int m),.im (.int k)]:=by
 obtain⟨b,l,B,z,U,K⟩:=A1e (m:=m) hb (by omega) hm
 obtain⟨o,q,t,E,F,J⟩:=A2w (items:=b.map PyData.str) U (by omega) (by rw[List.length_map];omega)
 rw[List.length_map,B]at E F
 have L:cLC [none,some 0] (Bw (Ab 3)) (cgN 0) Bp (cF Gb (Ae (Ab 1) (Ae (cOp Al (Im (cK [.int 2,.int 3,.int 3,.int 5,.int 12])) (cF An (Ae (Ab 1) (Ae (cC (.int 5)) Ba)))) Ba))) [sT l,sI (.int m),sI (.int k),sFa (b.map PyData.str),none,none,none,none]=.ok (.o (.ls false (o.map plD))) [sT q,sI (.int m),sI (.int k),sI (.list (b.map PyData.str)),none,none,none,none] :=
  Fy (ds:=b.map PyData.str) (c1:=[sT l,sI (.int m),sI (.int k),sI (.list (b.map PyData.str)),none,none,none,none]) (by wp_walk using Bw) (by rw[List.length_map];omega) J (by wp_walk using true_and)
 have u:=Hb (g:=cgN 6) (body:=Nv) (items:=Ju 0 k) (n:=0) (c:=[sT q,sI (.int m),sI (.int k),sI (.list (b.map PyData.str)),sFa (o.map plD),sFa [],none,none])
  (P:=λj c=>∃e s a x y,c=[sT e,sI (.int m),sI (.int k),sI (.list (b.map PyData.str)),some s,sFa (a.map tD),x,y]/\j<=k/\Bx (n+m+25*m+14*j) e/\Bf4 s (o.map plD)/\(∀r∈a,r.length=m/\VBs r)/\a.length=j)
  ⟨q,_,[],none,none,rfl,Nat.zero_le _,F,.inl rfl,(λr f=>nomatch f),rfl⟩ (λj d c N G=>by
   rw[Nat.zero_add]at G ⊢;obtain⟨e,s,a,x,y,rfl,I,v,D,f,w⟩:=G;obtain⟨rfl,M⟩:=O4 N
   obtain⟨A,O,Q,R,S,T⟩:=Ab4 (s1:=sI (.int m)) (s2:=sI (.int k)) (s3:=sI (.list (b.map PyData.str))) (s6:=x) (s7:=y) (i:=.int (0+(j:Int))) v (by omega) E hm D f (by omega)
   exact⟨_,.inl T,O,_,a++[A],_,_,rfl,M,S.mono (by omega),.inr rfl,λr h=>by
    rcases List.mem_append.mp h with h | h
    ·exact f r h
    ·rw[List.mem_singleton.mp h];exact⟨Q,R⟩,by simp[w]⟩)
 obtain⟨C,H,e,s,a,x,y,rfl,_,v,D,f,w⟩:=u;rw[Nat.zero_add,Oe]at v w
 refine⟨⟨b,a⟩,e,⟨z,by show 2<=b.length;omega,by show b.length<=12;omega,λr h=>by show r.length=b.length/\_;rw[B];exact f r h,by show a.length<=24;omega⟩,B,w,v.mono (by omega),?_⟩
 refine Rn (p:=.o (.im (Tb.d ⟨b,a⟩))) (c:=[sT e,sI (.int m),sI (.int k),sI (.list (b.map PyData.str)),some s,sFa (a.map tD),x,y]) ?_ rfl (by wp_walk using true_and)
 show Mp [sT ds,sI (.int m),sI (.int k),none,none,none,none,none]=_
 unfold Mp
 refine (Dq (c':=[sT l,sI (.int m),sI (.int k),sFa (b.map PyData.str),none,none,none,none]) (by wp_walk using K)).trans ?_
 refine (Dq (c':=[sT q,sI (.int m),sI (.int k),sI (.list (b.map PyData.str)),sFa (o.map plD),none,none,none]) (by wp_walk using L)).trans ?_
 refine (Dq (c':=[sT q,sI (.int m),sI (.int k),sI (.list (b.map PyData.str)),sFa (o.map plD),sFa [],none,none]) (by wp_walk using true_and)).trans ?_
 refine (Dq ((Ly (by wp_walk using show (k:Int)<=16000000/\-16000000<=(k:Int) by omega,Int.toNat_natCast)).trans H)).trans ?_
 wp_walk using Fp,Tb.d
theorem Ws (hb:Bx n ds) (hn:n<2 ^ 34) :
 ∃t c,Tb.Ok t/\Bx (n+1004) c/\Fd [.ls true ds]=.ret (.im t.d) [.ls true c]:=by
 obtain⟨a,c,e,a0,a1,h⟩:=Am6 (l:=2) (f:=5) (m:=12) hb (by omega) (by decide) (by decide) (by decide) (by decide) (by decide) (by decide)
 obtain⟨b,d2,i,j,c1,g⟩:=Am6 (l:=0) (f:=8) (m:=24) e (by omega) (by decide) (by decide) (by decide) (by decide) (by decide) (by decide)
 obtain⟨o,rfl⟩:=Int.eq_ofNat_of_zero_le (show 0<=a by omega)
 obtain⟨q,rfl⟩:=Int.eq_ofNat_of_zero_le j
 obtain⟨t,p,r,_,_,s,d⟩:=A3e (m:=o) (k:=q) i (by omega) (by omega) (by omega) (by omega)
 refine⟨t,p,r,s.mono (by omega),?_⟩
 wp_walk using Fd,K1,h,g,d
mutual
theorem Ah9:∀d:PyData,d.canLay0=true->PyData.eqv d d=true
 | .none,_=>rfl
 | .bool b,_=>by show (b==b)=true;simp
 | .int i,_=>by show (i==i)=true;simp
 | .str x,_=>by show (x==x)=true;simp
 | .tuple ds,h=>Tu ds h
 | .list ds,h=>Tu ds h
 | .dict kv,h=>nomatch h
theorem Tu:∀ds:List PyData,PyData.canLayAll0 ds=true->PyData.eqvAll ds ds=true
 | [],_=>rfl
 | d::r,h=>by
  obtain⟨n1,n2⟩:=Bool.and_eq_true_iff.mp (show (d.canLay0&&PyData.canLayAll0 r)=true from h)
  show (PyData.eqv d d&&PyData.eqvAll r r)=true
  rw[Ah9 d n1,Tu r n2]
  rfl
end
theorem Yw : (List.replicate n true).all id=true:=by simp
theorem K7:∀n:Nat,boolsOf (List.replicate n (PyData.bool true))=some (List.replicate n true)
 | 0=>rfl
 | n+1=>by rw[List.replicate_succ,List.replicate_succ];show (boolsOf (List.replicate n (PyData.bool true))).map (true::·)=_;rw[K7 n];rfl
theorem Ho (ha:Dl a=true) (hb:Dl b=true):Ca neg a b=sI (.bool (if neg then !PyData.eqv a b else PyData.eqv a b)):=by unfold Ca;grind
theorem A4v (h:x∈Nk ds ds):∃d∈ds,x=.tuple [d,d]:=by
 obtain⟨⟨a,b⟩,f,c⟩:=List.mem_map.mp h;obtain⟨i,g,e⟩:=List.getElem_of_mem f
 grind
theorem Xz {d:PyData}:∀{ds:List PyData},d∈ds->d.depth<=PyData.depthAll ds
 | a::r,h=>by
  show d.depth<=max a.depth (PyData.depthAll r)
  rcases List.mem_cons.mp h with rfl | h
  ·exact Nat.le_max_left _ _
  ·exact Nat.le_trans (Xz h) (Nat.le_max_right _ _)
theorem Wf {d:PyData}:∀{ds:List PyData},d∈ds->PyData.canLayAll0 ds=true->d.canLay0=true
 | a::r,h,l=>by
  obtain⟨l1,l2⟩:=Bool.and_eq_true_iff.mp (show (a.canLay0&&PyData.canLayAll0 r)=true from l)
  rcases List.mem_cons.mp h with rfl | h
  ·exact l1
  ·exact Wf h l2
def Short:Nat->PyData->Prop
 | 0,_=>True
 | n+1,.list ds=>ds.length<=16000000/\∀d∈ds,Short n d
 | n+1,.tuple ds=>ds.length<=16000000/\∀d∈ds,Short n d
 | _+1,_=>True
theorem Aa9:∀ds:List PyData,2*ds.length<=Jw ds
 | []=>Nat.le_refl _
 | d::r=>by have:=Aa9 r;show 2*(r.length+1)<=wt d+2+Jw r;omega
theorem Ac3 {d:PyData}:∀{ds:List PyData},d∈ds->wt d<=Jw ds
 | a::r,h=>by
  show wt d<=wt a+2+Jw r
  rcases List.mem_cons.mp h with rfl | h
  ·exact Nat.le_trans (Nat.le_add_right _ 2) (Nat.le_add_right _ _)
  ·exact Nat.le_trans (Ac3 h) (Nat.le_add_left _ _)
theorem Ru:∀(n:Nat) (d:PyData),wt d<=16000000->Short n d
 | 0,d,h=>trivial
 | n+1,.list ds,h=>by
  have h:Jw ds<=16000000:=Nat.le_trans (Nat.le_add_right _ 4) h
  exact⟨Nat.le_trans (Nat.le_trans (Nat.le_mul_of_pos_left _ (by decide)) (Aa9 ds)) h,λd hd=>Ru n d (Nat.le_trans (Ac3 hd) h)⟩
 | n+1,.tuple ds,h=>by
  have h:Jw ds<=16000000:=Nat.le_trans (Nat.le_add_right _ 4) h
  exact⟨Nat.le_trans (Nat.le_trans (Nat.le_mul_of_pos_left _ (by decide)) (Aa9 ds)) h,λd hd=>Ru n d (Nat.le_trans (Ac3 hd) h)⟩
 | n+1,.none,h=>trivial
 | n+1,.bool _,h=>trivial
 | n+1,.int _,h=>trivial
 | n+1,.str _,h=>trivial
 | n+1,.dict _,h=>trivial
theorem Xl:∀(n:Nat) (d:PyData),d.depth<n->n<=40->d.canLay0=true->Short n d->Bm n [.im d,.im d]=.ret (.im (.bool true)) [.im d,.im d]
 | 0,d,h,_,_,_=>absurd h (Nat.not_lt_zero _)
 | n+1,d,h,hn,hl,hs=>by
  have fb:∀b:Bool,Dl (.bool b)=true:=λb=>rfl
  have fl:Dl d=true:=by unfold Dl;rw[hl,decide_eq_true (show d.depth<=40 from Nat.le_trans (Nat.le_of_lt_succ h) (Nat.le_of_succ_le hn))];rfl
  have fi:∀k:Nat,Dl (.int (k:Int))=true:=λk=>rfl
  have loop:∀ds:List PyData,(∀e∈ds,Bm n [.im e,.im e]=.ret (.im (.bool true)) [.im e,.im e])->∃c',Dt (cgT 2 (Ft (cgN 0) (Ft (cgN 1) Oo))) Bp (cF (Bm n) (Ae (Ab 0) (Ae (Ab 1) Ba))) (Nk ds ds) [] [none,none]=.ok ((Nk ds ds).map λ_=>.bool true) c'/\∃a b,c'=[a,b]:=λds hds=>by
   have:=Qj (g:=cgT 2 (Ft (cgN 0) (Ft (cgN 1) Oo))) (ft:=Bp) (fe:=cF (Bm n) (Ae (Ab 0) (Ae (Ab 1) Ba))) (I:=λc=>∃a b,c=[a,b]) (F:=λ_=>.bool true) (items:=Nk ds ds) (acc:=[]) (c:=[none,none]) ⟨none,none,rfl⟩ (λx c hx ⟨a,b,hc⟩=>by
    subst hc;obtain⟨e,he,rfl⟩:=A4v hx
    refine⟨[sI e,sI e],?_,_,_,rfl⟩
    wp_walk using hds e he)
   simpa using this
  have fin:∀ds:List PyData,(Nk ds ds).map (λ_=>PyData.bool true)=List.replicate ds.length (.bool true):=λds=>by
   rw[List.map_const'];unfold Nk;rw[List.length_map,List.length_zip,Nat.min_self]
  show Fv 2 2 (Gd (Bm n)) _=_
  cases d with
  | none=>wp_walk using Gd,Jf,Ax,Ck,Jr,Ho fl fl,Ho (fb _) (fb _),PyData.eqv,beq_self_eq_true
  | bool b=>wp_walk using Gd,Jf,Ax,Ck,Jr,Ho fl fl,Ho (fb _) (fb _),PyData.eqv,beq_self_eq_true
  | int i=>wp_walk using Gd,Jf,Ax,Ck,Jr,Ho fl fl,Ho (fb _) (fb _),PyData.eqv,beq_self_eq_true
  | str x=>wp_walk using Gd,Jf,Ax,Ck,Jr,Ho fl fl,Ho (fb _) (fb _),PyData.eqv,beq_self_eq_true
  | dict k=>cases hl
  | list ds =>
   have hd:∀e∈ds,Bm n [.im e,.im e]=.ret (.im (.bool true)) [.im e,.im e]:=λe he=>Xl n e (Nat.lt_of_le_of_lt (Xz he) (Nat.lt_of_succ_lt_succ h)) (Nat.le_of_succ_le hn) (Wf he hl) (hs.2 e he)
   obtain⟨c',e1,a,b,rfl⟩:=loop ds hd;rw[fin]at e1
   have e2:cLC [none,none] (Aq3 (Ab 0) (Ab 1)) (cgT 2 (Ft (cgN 0) (Ft (cgN 1) Oo))) Bp (cF (Bm n) (Ae (Ab 0) (Ae (Ab 1) Ba))) [sI (.list ds),sI (.list ds)]=.ok (.o (.ls false (List.replicate ds.length (.bool true)))) [sI (.list ds),sI (.list ds)] :=
    Fy (ds:=Nk ds ds) (c1:=[sI (.list ds),sI (.list ds)]) (by wp_walk using Aq3,Mf) (by unfold Nk;rw[List.length_map,List.length_zip,Nat.min_self];exact hs.1) e1 rfl
   wp_walk using Gd,Jf,Ax,Ck,Ho (fb _) (fb _),Cw,Ho (fi _) (fi _),PyData.eqv,beq_self_eq_true,e2,Iv,K7,Yw
  | tuple ds =>
   have hd:∀e∈ds,Bm n [.im e,.im e]=.ret (.im (.bool true)) [.im e,.im e]:=λe he=>Xl n e (Nat.lt_of_le_of_lt (Xz he) (Nat.lt_of_succ_lt_succ h)) (Nat.le_of_succ_le hn) (Wf he hl) (hs.2 e he)
   obtain⟨c',e1,a,b,rfl⟩:=loop ds hd;rw[fin]at e1
   have e2:cLC [none,none] (Aq3 (Ab 0) (Ab 1)) (cgT 2 (Ft (cgN 0) (Ft (cgN 1) Oo))) Bp (cF (Bm n) (Ae (Ab 0) (Ae (Ab 1) Ba))) [sI (.tuple ds),sI (.tuple ds)]=.ok (.o (.ls false (List.replicate ds.length (.bool true)))) [sI (.tuple ds),sI (.tuple ds)] :=
    Fy (ds:=Nk ds ds) (c1:=[sI (.tuple ds),sI (.tuple ds)]) (by wp_walk using Aq3,Mf) (by unfold Nk;rw[List.length_map,List.length_zip,Nat.min_self];exact hs.1) e1 rfl
   wp_walk using Gd,Jf,Ax,Ck,Ho (fb _) (fb _),Cw,Ho (fi _) (fi _),PyData.eqv,beq_self_eq_true,e2,Iv,K7,Yw
theorem Ls {n:Nat}{d:PyData}{k w:Nat}(h:Good d k w)(hk:k<n)(hn:n<=40)(hw:w<=16000000):Bm n [.im d,.im d]=.ret (.im (.bool true)) [.im d,.im d] :=
 Xl n d (Nat.lt_of_le_of_lt h.dep hk) hn h.lay (Ru n d (Nat.le_trans h.wgt hw))
mutual
noncomputable def sm:PyData->Bool
 | .str x=>decide (x.length<=100)&&x.cps.toList.all (λc=>decide (c<128))
 | .list ds=>decide (ds.length<=900)&&U8 ds
 | .tuple ds=>decide (ds.length<=900)&&U8 ds
 | _=>true
noncomputable def U8:List PyData->Bool
 | []=>true
 | d::r=>sm d&&U8 r
end
theorem U9:∀{ds:List PyData},U8 ds=true↔∀d∈ds,sm d=true
 | []=>⟨λ_ d h=>(nomatch h),λ_=>rfl⟩
 | d::r=>by
  show (sm d&&U8 r)=true↔_
  rw[Bool.and_eq_true_iff,U9]
  exact⟨λh e he=>by rcases List.mem_cons.mp he with rfl | he;exact h.1;exact h.2 e he,λh=>⟨h d (.head _),λe he=>h e (.tail _ he)⟩⟩
theorem sm_tup {ds:List PyData}:sm (.tuple ds)=true↔ds.length<=900/\∀d∈ds,sm d=true:=by
 show (decide (ds.length<=900)&&U8 ds)=true↔_
 rw[Bool.and_eq_true_iff,U9,decide_eq_true_eq]
theorem A2d {x:Str}(h:sm (.str x)=true):x.length<=100/\∀c∈x.cps.toList,c<128:=by
 obtain⟨h1,h2⟩:=Bool.and_eq_true_iff.mp (show (decide (x.length<=100)&&x.cps.toList.all (λc=>decide (c<128)))=true from h)
 exact⟨of_decide_eq_true h1,λc hc=>of_decide_eq_true (List.all_eq_true.mp h2 c hc)⟩
theorem Q0 {α:Type}(F:α->Bool):∀xs:List α,boolsOf (xs.map λx=>PyData.bool (F x))=some (xs.map F)
 | []=>rfl
 | x::xs=>by show (boolsOf (xs.map λx=>PyData.bool (F x))).map (F x::·)=_;rw[Q0 F xs];rfl
theorem Bd9 {a:Type}(f:a->Bool)(xs:List a):(xs.map f).all id=xs.all f:=by simp_all
theorem G3 {a:Type}(F:a->Bool)(xs:List a):Iv (.list (xs.map λx=>PyData.bool (F x)))=sI (.bool (xs.all F)):=by
 show (boolsOf _).map _=_
 rw[Q0 F,Option.map_some,Bd9]
theorem Zb {fe:Ev->R PV}{x:Str}{F:Nat->Bool}{c:Ev}{i:Nat}(hx:c[i]?=some (sI (.str x)))(hl:x.length<=100)
 (hs:∀n∈x.cps.toList,∀t:Option O,Ku (cgN 0) Bp fe (.str ⟨#[n]⟩) [t]=.ok (some (.bool (F n))) [sI (.str ⟨#[n]⟩)]) :
 cLC [none] (Ym (Ab i)) (cgN 0) Bp fe c=.ok (.o (.ls false (x.cps.toList.map λn=>PyData.bool (F n)))) c:=by
 obtain⟨b,e,d⟩:=Ii (g:=cgN 0) (ft:=Bp) (fe:=fe) (I:=λc=>∃t,c=[t]) (f:=λn=>PyData.str ⟨#[n]⟩) (G:=λn=>PyData.bool (F n)) (xs:=x.cps.toList) ⟨none,rfl⟩
  λn c h a=>by grind
 refine Fy (ds:=Au8 x) (c1:=c) ?_ ?_ (by assumption) ?_
 ·unfold Ym Ab
  simp only[hx,R.bind_ok,nrm,Ep,rdP,Option.bind_some,O.dat]
 ·unfold Au8;rw[List.length_map];exact Nat.le_trans hl (by decide)
 rfl
theorem A0o {fe:Ev->R PV}{ds:List PyData}{F:PyData->Bool}{c:Ev}{i:Nat}(hx:c[i]?=some (sI (.tuple ds)))(hl:ds.length<=16000000)
 (hs:∀d∈ds,∀t:Option O,Ku (cgN 0) Bp fe d [t]=.ok (some (.bool (F d))) [sI d]) :
 cLC [none] (Bw (Ab i)) (cgN 0) Bp fe c=.ok (.o (.ls false (ds.map λd=>PyData.bool (F d)))) c:=by
 obtain⟨cI,e,hI⟩:=Qj (g:=cgN 0) (ft:=Bp) (fe:=fe) (I:=λc=>∃t,c=[t]) (F:=λd=>PyData.bool (F d)) (items:=ds) (acc:=[]) (c:=[none]) ⟨none,rfl⟩
  (λn c hn hc=>by obtain⟨t,rfl⟩:=hc;exact⟨_,hs n hn t,_,rfl⟩)
 obtain⟨t,rfl⟩:=hI
 refine Fy (ds:=ds) (c1:=c) ?_ hl (by simpa[cIn] using e) ?_
 ·unfold Bw Ab
  simp only[hx,R.bind_ok,nrm,frz]
 ·rfl
theorem A6q {fe:Ev->R PV}{ds:List PyData}{F:PyData->Bool}{c:Ev}{i k:Nat}{y:PyData}(hx:c[i]?=some (sI (.tuple ds)))(hy:c[k]?=some (sI y))(hl:ds.length<=16000000)
 (hs:∀d∈ds,∀t:Option O,Ku (cgN 0) Bp fe d [t,sI y]=.ok (some (.bool (F d))) [sI d,sI y]) :
 cLC [none,some k] (Bw (Ab i)) (cgN 0) Bp fe c=.ok (.o (.ls false (ds.map λd=>PyData.bool (F d)))) c:=by
 obtain⟨cI,e,hI⟩:=Qj (g:=cgN 0) (ft:=Bp) (fe:=fe) (I:=λc=>∃t,c=[t,sI y]) (F:=λd=>PyData.bool (F d)) (items:=ds) (acc:=[]) (c:=[none,sI y]) ⟨none,rfl⟩
  (λn c hn hc=>by obtain⟨t,rfl⟩:=hc;exact⟨_,hs n hn t,_,rfl⟩)
 obtain⟨t,rfl⟩:=hI
 refine Fy (ds:=ds) (c1:=c) ?_ hl (by simpa[cIn,hy,O.flag] using e) ?_
 ·unfold Bw Ab
  simp only[hx,R.bind_ok,nrm,frz]
 ·unfold pairsOf pairsOf pairsOf Gr
  simp only[hy]
  rfl
noncomputable def A5y (c:Nat):Bool:=decide (97<=c)&&decide (c<=122)
noncomputable def okC (c:Nat):Bool:=decide (32<=c)&&decide (c<=126)
noncomputable def lettersS:Str:=Str.ofString "abcdefghijklmnopqrstuvwxyz"
theorem A6p:∀c,c<128->(!(Builtin.Str.occurrences lettersS ⟨#[c]⟩ 0 lettersS.length 1).isEmpty)=A5y c:=by decide +kernel
theorem Bg4 (c:Nat):(!decide ([c]<(Str.ofString " ").cps.toList))=decide (32<=c):=by
 have:[c]<(Str.ofString " ").cps.toList↔c<32:=by
  have e:(Str.ofString " ").cps.toList=[32]:=by trivial
  rw[e]
  constructor
  ·intro h
   cases h with
   | rel h=>omega
   | cons h=>cases h
  ·intro h;exact .rel h
 grind
theorem Be4 (c:Nat):(!decide ((Str.ofString "~").cps.toList<[c]))=decide (c<=126):=by
 have:(Str.ofString "~").cps.toList<[c]↔126<c:=by
  have e:(Str.ofString "~").cps.toList=[126]:=by trivial
  rw[e]
  constructor
  ·intro h
   cases h with
   | rel h=>omega
   | cons h=>cases h
  ·intro h;exact .rel h
 grind
theorem Ao2 (c:Nat):Z7 (.str " ") (.str ⟨#[c]⟩)=sI (.bool (decide (32<=c))):=by
 show some _=_
 rw[Bg4]
theorem Z2 (c:Nat):Z7 (.str ⟨#[c]⟩) (.str "~")=sI (.bool (decide (c<=126))):=by
 show some _=_
 rw[Be4]
theorem Aw0 {c:Nat}(h:c<128):Gf false (.str ⟨#[c]⟩) (.str "abcdefghijklmnopqrstuvwxyz")=sI (.bool (A5y c)):=by
 show some (O.im (.bool (!(Builtin.Str.occurrences lettersS _ 0 lettersS.length 1).isEmpty)))=_
 rw[A6p c h]
theorem Aw9 {x:Str}(hs:sm (.str x)=true):Dn [.im (.str x)]=.ret (.im (.bool (x.cps.toList.all okC))) [.im (.str x)]:=by
 obtain⟨hl,hc⟩:=A2d hs
 have e:=Zb (fe:=N8 (cOp Z7 (cC (.str " ")) (Ab 0)) (cOp Z7 (Ab 0) (cC (.str "~")))) (x:=x) (F:=okC) (c:=[sI (.str x)]) (i:=0) rfl hl (λn hn t=>by
  by_cases h:32<=n
  ·wp_walk using Ao2,Z2,decide_eq_true h,okC
  ·wp_walk using Ao2,Z2,decide_eq_false h,okC)
 wp_walk using Dn,Hx,e,G3
def Hi:PyData->Bool
 | .str x=>x.cps.toList.all okC
 | .none=>true
 | .int _=>true
 | _=>false
theorem A3k {d:PyData}(hs:sm d=true):Cu [.im d]=.ret (.im (.bool (Hi d))) [.im d]:=by
 cases d with
 | str x=>wp_walk using Cu,Ea,Ax,Ck,Aw9 hs,Hi
 | none=>wp_walk using Cu,Ea,Ax,Ck,Jr,Hi
 | int i=>wp_walk using Cu,Ea,Ax,Ck,Jr,Hi
 | bool b=>wp_walk using Cu,Ea,Ax,Ck,Jr,Hi
 | tuple ds=>wp_walk using Cu,Ea,Ax,Ck,Jr,Hi
 | list ds=>wp_walk using Cu,Ea,Ax,Ck,Jr,Hi
 | dict kv=>wp_walk using Cu,Ea,Ax,Ck,Jr,Hi
def Dh:PyData->Bool
 | .str x=>decide (0<x.length)&&(decide (x.length<9)&&x.cps.toList.all A5y)
 | _=>false
theorem A6t {d:PyData}(hs:sm d=true):Cp [.im d]=.ret (.im (.bool (Dh d))) [.im d]:=by
 cases d with
 | str x =>
  obtain⟨hl,hc⟩:=A2d hs
  have e:=Zb (fe:=cOp (Gf false) (Ab 0) (cC (.str "abcdefghijklmnopqrstuvwxyz"))) (x:=x) (F:=A5y) (c:=[sI (.str x)]) (i:=0) rfl hl (λn hn t=>by
   wp_walk using Aw0 (hc n hn))
  by_cases h0:x=Str.ofString ""
  ·subst h0
   wp_walk using Cp,Du,Ax,Ck,S8,Dh
   rfl
  ·have hp:0<x.length:=by
    rcases Nat.eq_zero_or_pos x.length with h | h
    ·exfalso;apply h0
     obtain⟨cps⟩:=x;have:cps=#[]:=Array.eq_empty_of_size_eq_zero h;subst this;rfl
    ·exact h
   by_cases h8:x.length<9
   ·wp_walk using Cp,Du,Ax,Ck,S8,Dh,decide_eq_false h0,Cw,show x.length<=16000000 by omega,decide_eq_false (show ¬ (8:Int)<(x.length:Int) by omega),e,G3,decide_eq_true hp,decide_eq_true h8
   ·wp_walk using Cp,Du,Ax,Ck,S8,Dh,decide_eq_false h0,Cw,show x.length<=16000000 by omega,decide_eq_true (show (8:Int)<(x.length:Int) by omega),decide_eq_true hp,decide_eq_false h8
 | none=>wp_walk using Cp,Du,Ax,Ck,Dh
 | int i=>wp_walk using Cp,Du,Ax,Ck,Dh
 | bool b=>wp_walk using Cp,Du,Ax,Ck,Dh
 | tuple ds=>wp_walk using Cp,Du,Ax,Ck,Dh
 | list ds=>wp_walk using Cp,Du,Ax,Ck,Dh
 | dict kv=>wp_walk using Cp,Du,Ax,Ck,Dh
theorem Cy : Ca neg (.int a) (.int b)=sI (.bool (if neg then !decide (a=b) else decide (a=b))):=by
 have e:PyData.eqv (.int a) (.int b)=decide (a=b):=by
  rfl
 unfold Ca
 rw[show Dl _=true from rfl,show Dl _=true from rfl,e]
 simp
def Hl (n:Nat):PyData->Bool
 | .tuple ds=>decide (ds.length=n)&&ds.all Hi
 | _=>false
theorem Bc0 {d:PyData}{n:Nat}(hs:sm d=true):Dj [.im d,.im (.int n)]=.ret (.im (.bool (Hl n d))) [.im d,.im (.int n)]:=by
 cases d with
 | tuple ds =>
  obtain⟨hl,hd⟩:=sm_tup.mp hs
  have e:=A0o (fe:=cF Cu (Ae (Ab 0) Ba)) (ds:=ds) (F:=Hi) (c:=[sI (.tuple ds),sI (.int n)]) (i:=0) rfl (Nat.le_trans hl (by decide)) (λd h t=>by
   wp_walk using A3k (hd d h))
  by_cases h:ds.length=n
  ·wp_walk using Dj,Ff,Ax,Ck,Cw,Cy,decide_eq_true (show (ds.length:Int)=(n:Int) by omega),e,G3,Hl,decide_eq_true h
  ·wp_walk using Dj,Ff,Ax,Ck,Cw,Cy,decide_eq_false (show ¬ (ds.length:Int)=(n:Int) by omega),Hl,decide_eq_false h
 | none=>wp_walk using Dj,Ff,Ax,Ck,Hl
 | int i=>wp_walk using Dj,Ff,Ax,Ck,Hl
 | bool b=>wp_walk using Dj,Ff,Ax,Ck,Hl
 | str x=>wp_walk using Dj,Ff,Ax,Ck,Hl
 | list ds=>wp_walk using Dj,Ff,Ax,Ck,Hl
 | dict kv=>wp_walk using Dj,Ff,Ax,Ck,Hl
theorem Xy {α:Type}[DecidableEq α](x:α):∀(n:Nat) (xs:List α),xs.length=n->(x∈dst xs↔x∈xs)
 | 0,xs,h=>by cases xs with | nil=>exact Iff.rfl | cons a r=>cases h
 | n+1,xs,h=>by
  rcases List.eq_nil_or_concat xs with rfl | ⟨ys,y,rfl⟩
  ·cases h
  ·rw[List.concat_eq_append]at h ⊢
   have hy:ys.length=n:=by simpa using h
   have ih:=Xy x n ys hy;rw[Og];unfold Tn
   split
   ·rename_i hm
    rw[ih,List.mem_append,List.mem_singleton]
    refine⟨.inl,λq=>?_⟩
    rcases q with q | rfl
    ·exact q
    ·exact ih.mp (memB_iff.mp hm)
   ·rw[List.mem_append,List.mem_append,ih]
theorem Ve {α:Type}[DecidableEq α]:∀(n:Nat) (xs:List α),xs.length=n->((dst xs).length=xs.length↔xs.Nodup)
 | 0,xs,h=>by cases xs with | nil=>exact⟨λ_=>List.nodup_nil,λ_=>rfl⟩ | cons a r=>cases h
 | n+1,xs,h=>by
  rcases List.eq_nil_or_concat xs with rfl | ⟨ys,y,rfl⟩
  ·cases h
  ·rw[List.concat_eq_append]at h ⊢
   have hy:ys.length=n:=by simpa using h
   have ih:=Ve n ys hy;have le:=Rm n ys hy
   have hnd:(ys++[y]).Nodup↔ys.Nodup/\y∉ys:=by
    rw[List.nodup_append]
    constructor
    ·intro ⟨a,_,c⟩;exact⟨a,λq=>c y q y (List.mem_singleton.mpr rfl) rfl⟩
    ·intro ⟨a,b⟩;exact⟨a,by simp,λu hu v hv e=>by rw[List.mem_singleton.mp hv]at e;exact b (e▸hu)⟩
   rw[Og,hnd];unfold Tn
   split
   ·rename_i hm
    have:y∈ys:=(Xy y n ys hy).mp (memB_iff.mp hm);rw[List.length_append,List.length_singleton]
    constructor
    ·intro q;omega
    ·intro q;exact absurd this q.2
   ·rename_i hm
    have:y∉ys:=λq=>hm (memB_iff.mpr ((Xy y n ys hy).mpr q))
    rw[List.length_append,List.length_append,List.length_singleton]
    constructor
    ·intro q;exact⟨ih.mp (by omega),this⟩
    ·intro q;have:=ih.mpr q.1;omega
theorem dst_inr {ss:List Str}:(dst (ss.map λx=>(Sum.inr x:Key))).length=ss.length↔ss.Nodup:=by
 have h:=Ve _ (ss.map λx=>(Sum.inr x:Key)) rfl
 grind
theorem Yu:∀{ds:List PyData},ds.all Dh=true->∃ss,ds=ss.map PyData.str/\strsOf ds=some ss
 | [],_=>⟨[],rfl,rfl⟩
 | d::ds,h=>by
  obtain⟨h1,h2⟩:=Bool.and_eq_true_iff.mp (show (Dh d&&ds.all Dh)=true from h)
  obtain⟨ss,e1,e2⟩:=Yu h2
  cases d with
  | str x=>exact⟨x::ss,by rw[e1];rfl,by show (strsOf ds).map (x::·)=_;rw[e2];rfl⟩
  | _=>cases h1
theorem Mr:∀ss:List Str,strsOf (ss.map PyData.str)=some ss
 | []=>rfl
 | x::ss=>by show (strsOf (ss.map PyData.str)).map (x::·)=_;rw[Mr ss];rfl
def H9:PyData->Bool
 | .tuple ds=>decide (0<ds.length)&&(ds.all Dh&&(match strsOf ds with | some ss=>decide ss.Nodup | none=>false))
 | _=>false
theorem Ex {d:PyData}(hs:sm d=true):Bj [.im d]=.ret (.im (.bool (H9 d))) [.im d]:=by
 cases d with
 | tuple ds =>
  obtain⟨hl,hd⟩:=sm_tup.mp hs
  have e:=A0o (fe:=cF Cp (Ae (Ab 0) Ba)) (ds:=ds) (F:=Dh) (c:=[sI (.tuple ds)]) (i:=0) rfl (Nat.le_trans hl (by decide)) (λd h t=>by
   wp_walk using A6t (hd d h))
  by_cases h:0<ds.length
  ·have e0:=decide_eq_false (show ¬ (ds.length:Int)=0 by omega)
   cases ha:ds.all Dh with
   | false=>wp_walk using Bj,Bv,Ax,Ck,Cw,Cy,e0,e,G3,ha,H9,decide_eq_true h
   | true =>
    obtain⟨ss,e1,e2⟩:=Yu ha
    have l1:ds.length=ss.length:=by rw[e1,List.length_map]
    have eS:N7 (.tuple ds)=sI (.int ((dst (ss.map λx=>(Sum.inr x:Key))).length:Nat)):=by
     show ((strsOf ds).bind _)=_
     rw[e2,Option.bind_some,if_pos (by omega)]
    by_cases nd:ss.Nodup
    ·have ed:=decide_eq_true (show (((dst (ss.map λx=>(Sum.inr x:Key))).length:Nat):Int)=(ds.length:Int) by rw[dst_inr.mpr nd,l1])
     wp_walk using Bj,Bv,Ax,Ck,Cw,Cy,e0,e,G3,ha,H9,decide_eq_true h,eS,ed,e2,decide_eq_true nd
    ·have ed:=decide_eq_false (show ¬ (((dst (ss.map λx=>(Sum.inr x:Key))).length:Nat):Int)=(ds.length:Int) by rw[l1];exact λq=>nd (dst_inr.mp (by omega)))
     wp_walk using Bj,Bv,Ax,Ck,Cw,Cy,e0,e,G3,ha,H9,decide_eq_true h,eS,ed,e2,decide_eq_false nd
  ·have e0:=decide_eq_true (show (ds.length:Int)=0 by omega)
   wp_walk using Bj,Bv,Ax,Ck,Cw,Cy,e0,H9,decide_eq_false h
 | none=>wp_walk using Bj,Bv,Ax,Ck,H9
 | int i=>wp_walk using Bj,Bv,Ax,Ck,H9
 | bool b=>wp_walk using Bj,Bv,Ax,Ck,H9
 | str x=>wp_walk using Bj,Bv,Ax,Ck,H9
 | list ds=>wp_walk using Bj,Bv,Ax,Ck,H9
 | dict kv=>wp_walk using Bj,Bv,Ax,Ck,H9
noncomputable def Bj4:PyData->Nat
 | .tuple ds=>ds.length
 | _=>0
def Eo:PyData->Bool
 | .tuple [c,.tuple rows]=>H9 c&&rows.all (Hl (Bj4 c))
 | _=>false
theorem Bn3 {α:Type}{l:List α}(h:l.length=2):∃a b,l=[a,b]:=by
 match l,h with
 | [a,b],_=>exact⟨a,b,rfl⟩
theorem Aq7 {ds:List PyData}(h:¬ ds.length=2):Eo (.tuple ds)=false:=by
 match ds,h with
 | [],_=>rfl
 | [a],_=>rfl
 | [a,b],h=>exact absurd rfl h
 | a::b::c::r,_=>cases b <;> rfl
theorem A0g {d:PyData}(h:H9 d=true):∃ds,d=.tuple ds:=by
 cases d with
 | tuple ds=>exact⟨ds,rfl⟩
 | _=>cases h
theorem e22:decide (((2:Nat):Int)=2)=true:=rfl
theorem Ay4 {d:PyData}(hs:sm d=true):Bg [.im d]=.ret (.im (.bool (Eo d))) [.im d]:=by
 cases d with
 | tuple ds =>
  by_cases h2:ds.length=2
  ·obtain⟨c,r,rfl⟩:=Bn3 h2
   obtain⟨_,hd⟩:=sm_tup.mp hs
   have sc:=hd c (by simp)
   have sr:=hd r (by simp)
   cases hc:H9 c with
   | false =>
    have ef:Eo (.tuple [c,r])=false:=by cases r <;> simp[Eo,hc]
    wp_walk using Bg,Bs,Ax,Ck,Cw,Cy,e22,Al,Ex sc,hc,ef
   | true =>
    obtain⟨cs,rfl⟩:=A0g hc
    cases r with
    | tuple rows =>
     obtain⟨hl,hr⟩:=sm_tup.mp sr
     have e:=A6q (fe:=cF Dj (Ae (Ab 0) (Ae (Ed (Ab 1)) Ba))) (ds:=rows) (F:=Hl cs.length) (c:=[sI (.tuple [.tuple cs,.tuple rows]),sI (.tuple cs),sI (.tuple rows)]) (i:=2) (k:=1) rfl rfl (Nat.le_trans hl (by decide)) (λd h t=>by
      wp_walk using Cw,Bc0 (n:=cs.length) (hr d h))
     wp_walk using Bg,Bs,Ax,Ck,Cw,Cy,e22,Al,Ex sc,hc,e,G3,Eo,Bj4
    | none=>wp_walk using Bg,Bs,Ax,Ck,Cw,Cy,e22,Al,Ex sc,hc,Eo
    | int i=>wp_walk using Bg,Bs,Ax,Ck,Cw,Cy,e22,Al,Ex sc,hc,Eo
    | bool b=>wp_walk using Bg,Bs,Ax,Ck,Cw,Cy,e22,Al,Ex sc,hc,Eo
    | str x=>wp_walk using Bg,Bs,Ax,Ck,Cw,Cy,e22,Al,Ex sc,hc,Eo
    | list ds=>wp_walk using Bg,Bs,Ax,Ck,Cw,Cy,e22,Al,Ex sc,hc,Eo
    | dict kv=>wp_walk using Bg,Bs,Ax,Ck,Cw,Cy,e22,Al,Ex sc,hc,Eo
  ·wp_walk using Bg,Bs,Ax,Ck,Cw,Cy,decide_eq_false (show ¬ (ds.length:Int)=2 by omega),Aq7 h2
 | none=>wp_walk using Bg,Bs,Ax,Ck,Eo
 | int i=>wp_walk using Bg,Bs,Ax,Ck,Eo
 | bool b=>wp_walk using Bg,Bs,Ax,Ck,Eo
 | str x=>wp_walk using Bg,Bs,Ax,Ck,Eo
 | list ds=>wp_walk using Bg,Bs,Ax,Ck,Eo
 | dict kv=>wp_walk using Bg,Bs,Ax,Ck,Eo
section
variable {α:Type}[DecidableEq α]
noncomputable def fnd (x:α):List α->Nat
 | []=>0
 | y::l=>if y=x then 0 else fnd x l+1
theorem Om {x:α}:∀{l:List α},x∈l->l[fnd x l]?=some x
 | y::l,h=>by
  unfold fnd
  by_cases e:y=x
  ·rw[if_pos e,e];rfl
  ·rw[if_neg e]
   rcases List.mem_cons.mp h with h | h
   ·exact absurd h.symm e
   ·rw[List.getElem?_cons_succ];exact Om h
theorem Bc6 {x:α} (h:x∈l):fnd x l<l.length:=(List.getElem?_eq_some_iff.mp (Om h)).1
end
theorem Am9:∀{cols:List Str}{i:Nat}{x:Str},cols.Nodup->cols[i]?=some x->Uj x cols=some i
 | [],i,x,_,h=>by simp at h
 | y::r,0,x,_,h=>by
  have e:y=x:=by simpa using h
  unfold Uj;rw[if_pos (by simpa using e)]
 | y::r,i+1,x,nd,h=>by
  have h':r[i]?=some x:=by simpa using h
  obtain⟨n1,n2⟩:=List.nodup_cons.mp nd
  have ne:¬ y=x:=λe=>n1 (by rw[e];exact List.mem_of_getElem? h')
  unfold Uj;rw[if_neg (by simpa using ne),Am9 n2 h'];rfl
theorem T8 {x:Str}{cols:List Str}{i:Nat}(nd:cols.Nodup)(h:cols[i]?=some x):Jz (.tuple (cols.map PyData.str)) (.str x)=sI (.int i):=by
 show ((strsOf (cols.map PyData.str)).bind λss=>(Uj x ss).map λj=>O.im (.int (j:Nat)))=_
 rw[Mr,Option.bind_some,Am9 nd h];rfl
theorem Yg (x:Str):∀cols:List Str,((cols.map PyData.str).any λe=>PyData.eqv e (.str x))=decide (x∈cols)
 | []=>rfl
 | y::r=>by
  rw[List.map_cons,List.any_cons,Yg x r,Ak8]
  by_cases e:y=x
  ·subst e;simp
  ·simp[e,Ne.symm e]
noncomputable def sqD (b:Bool) (l:List PyData):PyData:=if b then .tuple l else .list l
theorem Ai6 (h:c[i]?=some (sI (sqD b l))):Bw (Ab i) c=.ok l c:=by
 unfold Bw Ab;simp only[h]
 cases b <;> rfl
def allNm:List Str:=names12++[Str.ofString "q",Str.ofString "ax",Str.ofString "yea",Str.ofString "years",Str.ofString "",Str.ofString "abcdefghi",Str.ofString "a b"]
theorem nmA:(allNm.all λx=>Dl (.str x)&&(Bk6 (Str.ofString "no column ").length (.str x)&&vb (.str x)))=true:=by decide +kernel
theorem Ah0 {x:Str}(h:x∈allNm):Dl (.str x)=true/\Bk6 (Str.ofString "no column ").length (.str x)=true/\VB (.str x):=by
 have:=List.all_eq_true.mp nmA x h
 grind
theorem An2 {x:Str}(h:x∈names12):x∈allNm:=List.mem_append_left _ h
theorem Bf6 {x:Str}(h:x∈names12):(PyData.str x).canLay0=true:=(Iz (Ah0 (An2 h)).2.2).lay
theorem An5 {x:Str}{cols:List Str}(hx:x∈allNm)(hs:∀y∈cols,y∈names12):Gf true (.str x) (.tuple (cols.map PyData.str))=sI (.bool (!decide (x∈cols))):=by
 show (if Dl _&&PyData.canLayAll0 _ then some _ else none)=_
 rw[(Ah0 hx).1,Rh λd a=>by obtain⟨u,b,rfl⟩:=List.mem_map.mp a;exact Bf6 (hs u b),Yg]
 rfl
def vAt (cols:List Str)(r:List Vl)(x:Str):Vl:=r.getD (fnd x cols) .non
def pick (cols:List Str)(r:List Vl)(ns:List Str):List Vl:=ns.map (vAt cols r)
theorem Xd (h:VBs r):VBs (pick cols r ns):=λv a=>by
 obtain⟨x,_,rfl⟩:=List.mem_map.mp a;unfold vAt;rw[List.getD_eq_getElem?_getD]
 cases e:r[fnd x _]? with
 | none=>rfl
 | some v=>grind
theorem A2r (hx:x∈cols) (hr:r.length=cols.length):Al (tD r) (.int (fnd x cols:Nat))=sI (vAt cols r x).d:=by
 have l:=Bc6 hx
 have e:(r.map Vl.d)[fnd x cols]?=some (vAt cols r x).d:=by
  unfold vAt
  grind
 show (atI _ _).map _=_
 rw[Fx e];rfl
theorem Ar4 {cols:List Str}{r:List Vl}{ns:List Str}(hn:∀x∈ns,x∈cols)(hr:r.length=cols.length)(hl:ns.length<=30):Fj [.im (tD r),.im (.list (ns.map λx=>PyData.int (fnd x cols:Nat)))]=.ret (.im (tD (pick cols r ns))) [.im (tD r),.im (.list (ns.map λx=>PyData.int (fnd x cols:Nat)))]:=by
 obtain⟨cI,e,u,rfl⟩:=Ii (g:=cgN 0) (ft:=Bp) (fe:=cOp Al (Ab 1) (Ab 0)) (I:=λc=>∃u,c=[u,sI (tD r)]) (f:=λx=>PyData.int (fnd x cols:Nat)) (G:=λx=>(vAt cols r x).d) (xs:=ns) (acc:=[]) (c:=[none,sI (tD r)]) ⟨none,rfl⟩
  (λx c hx hI=>by
   obtain⟨u,rfl⟩:=hI
   refine⟨[sI (.int (fnd x cols:Nat)),sI (tD r)],?_,_,rfl⟩
   wp_walk using A2r (hn x hx) hr)
 have e2:cLC [none,some 0] (Bw (Ab 1)) (cgN 0) Bp (cOp Al (Ab 1) (Ab 0)) [sI (tD r),sI (.list (ns.map λx=>PyData.int (fnd x cols:Nat)))]=.ok (.o (.ls false (ns.map λx=>(vAt cols r x).d))) [sI (tD r),sI (.list (ns.map λx=>PyData.int (fnd x cols:Nat)))] :=
  Fy (ds:=ns.map λx=>PyData.int (fnd x cols:Nat)) (c1:=[sI (tD r),sI (.list (ns.map λx=>PyData.int (fnd x cols:Nat)))]) (by wp_walk using Bw,Mf) (by rw[List.length_map];omega) (by simpa[cIn,O.flag] using e) rfl
 have e3:PyData.tuple (ns.map λx=>(vAt cols r x).d)=tD (pick cols r ns):=by unfold tD pick;rw[List.map_map];rfl
 wp_walk using Fj,Nu,e2,Fp,e3
theorem A2m {t:Tb}{x:Str}(ht:Tb.Ok t)(hx:x∈t.cols):Ez [.im t.d,.im (.str x)]=.ret (.im (.int (fnd x t.cols:Nat))) [.im t.d,.im (.str x)]:=by
 have h1:=An5 (An2 (ht.nms.sub x hx)) ht.nms.sub;have h2:=T8 ht.nms.nd (Om hx);rw[decide_eq_true hx]at h1;have h1:Gf true (.str x) (.tuple (t.cols.map PyData.str))=sI (.bool false):=h1;have i0:Al t.d (.int 0)=sI (.tuple (t.cols.map PyData.str)):=rfl
 generalize t.d=D at *
 wp_walk using Ez,Qx,i0,h1,cMt,Kv,h2
abbrev Ur (cols ns:List Str):List PyData:=ns.map λx=>PyData.int (fnd x cols:Nat)
theorem Ap8 {t:Tb}{b:Bool}{ns:List Str}(ht:Tb.Ok t)(hn:∀x∈ns,x∈t.cols)(hl:ns.length<=30) :
 Gj [.im t.d,.im (sqD b (ns.map PyData.str))]=.ret (.ls false (Ur t.cols ns)) [.im t.d,.im (sqD b (ns.map PyData.str))]:=by
 obtain⟨cI,e,u,rfl⟩:=Ii (g:=cgN 0) (ft:=Bp) (fe:=cF Ez (Ae (Ab 1) (Ae (Ab 0) Ba))) (I:=λc=>∃u,c=[u,sI t.d]) (f:=PyData.str) (G:=λx=>PyData.int (fnd x t.cols:Nat)) (xs:=ns) (acc:=[]) (c:=[none,sI t.d]) ⟨none,rfl⟩
  (λx c hx hI=>by
   obtain⟨u,rfl⟩:=hI
   refine⟨[sI (.str x),sI t.d],?_,_,rfl⟩
   have:=A2m ht (hn x hx)
   generalize t.d=D at *
   wp_walk using this)
 have e2:cLC [none,some 0] (Bw (Ab 1)) (cgN 0) Bp (cF Ez (Ae (Ab 1) (Ae (Ab 0) Ba))) [sI t.d,sI (sqD b (ns.map PyData.str))]=.ok (.o (.ls false (Ur t.cols ns))) [sI t.d,sI (sqD b (ns.map PyData.str))] :=
  Fy (ds:=ns.map PyData.str) (c1:=[sI t.d,sI (sqD b (ns.map PyData.str))]) (Ai6 rfl) (by rw[List.length_map];omega) (by simpa[cIn,O.flag] using e) rfl
 generalize t.d=D at *
 generalize sqD b (ns.map PyData.str)=S at *
 wp_walk using Gj,O1,e2
def Ak (t:Tb)(ns:List Str):List (List Vl):=t.rows.map λr=>pick t.cols r ns
def Jj {α:Type}(l:List α)(lo hi:Option Int):List α:=(l.drop (HT.sIx l.length 0 lo)).take (HT.sIx l.length l.length hi-HT.sIx l.length 0 lo)
theorem Wh {α:Type}(f:α->PyData)(l:List α)(lo hi:Option Int):cutD (l.map f) lo hi=(Jj l lo hi).map f:=by
 unfold cutD Jj;rw[List.length_map,List.map_take,List.map_drop]
theorem X7 {α:Type}{l:List α}{lo hi:Option Int}{x:α}(h:x∈Jj l lo hi):x∈l:=List.mem_of_mem_drop (List.mem_of_mem_take h)
theorem V6 {α:Type}(l:List α)(lo hi:Option Int):(Jj l lo hi).length<=l.length:=by
 unfold Jj;rw[List.length_take,List.length_drop];omega
theorem Bb4 {α:Type}{l:List α}{lo hi:Option Int}(h:l.Nodup):(Jj l lo hi).Nodup:=((List.take_sublist _ _).trans (List.drop_sublist _ _)).nodup h
abbrev Bc5:Ev->R PV:=Mq (Ab 1) (cF An (Ae (Ab 2) (Ae (Ed (Ab 1)) Ba)))
theorem A1q {n:Nat}{ds:List PyData}{cols:List Str}(hb:Bx n ds)(hn:n<2 ^ 38)(hl:cols.length<=12) :
 ∃(mx left:List Str) (d1:List PyData) (t:Option O),(mx++left).Perm cols/\mx.length=cols.length/\Bx (n+12) d1/\Dt (cgN 0) Bp Bc5 (cols.map PyData.str) [] [none,sT (cols.map PyData.str),sT ds]=.ok (mx.map PyData.str) [t,sT (left.map PyData.str),sT d1]:=by
 obtain⟨acc,cI,e,left,d1,t,mx,rfl,b1,rfl,pm,hk⟩:=Jm (g:=cgN 0) (ft:=Bp) (fe:=Bc5) (items:=cols.map PyData.str) (acc:=[]) (n:=0) (c:=[none,sT (cols.map PyData.str),sT ds])
  (P:=λk acc c=>∃(left:List Str) (d1:List PyData) (t:Option O) (mx:List Str),c=[t,sT (left.map PyData.str),sT d1]/\Bx (n+k) d1/\acc=mx.map PyData.str/\(mx++left).Perm cols/\mx.length=k)
  ⟨cols,ds,none,[],rfl,hb,rfl,List.Perm.refl _,rfl⟩ (λk d acc c hd hP=>by
   rw[Nat.zero_add]at hP ⊢;obtain⟨left,d1,t,mx,rfl,b1,rfl,pm,hl'⟩:=hP
   have hk:k<cols.length:=by have:=(List.getElem?_eq_some_iff.mp hd).1;rw[List.length_map]at this;exact this
   have ll:left.length+k=cols.length:=by have:=pm.length_eq;rw[List.length_append,hl']at this;omega
   obtain⟨r,d2,b2,r0,r1,e1⟩:=Dw (m:=(left.length:Int)) b1 (by omega) (by omega) (by omega)
   have hr:r.toNat<left.length:=by omega
   have hx:(left.map PyData.str)[r.toNat]?=some (.str left[r.toNat]):=by simp[hr]
   have hix:ixN left.length r=some r.toNat:=Aj7 r0 r1
   refine⟨some (.str left[r.toNat]),[sI d,sT ((left.eraseIdx r.toNat).map PyData.str),sT d2],?_,left.eraseIdx r.toNat,d2,_,mx++[left[r.toNat]],rfl,b2.mono (by omega),by simp,?_,by simp[hl']⟩
   ·wp_walk using Cw,List.length_map,e1,hix,hx,Pb,show left.length<=16000000 by omega
   ·rw[List.append_assoc]
    exact(List.Perm.append_left mx (Mu left hr)).trans pm)
 rw[Nat.zero_add,List.length_map]at b1 hk
 exact⟨mx,left,d1,t,pm,hk,b1.mono (by omega),e⟩
theorem A1f (b:Bool)(l:List PyData):Ml (sqD b l)=sFa l:=by cases b <;> rfl
theorem Kl {n:Nat}{ds:List PyData}{b:Bool}{cols:List Str}(hb:Bx n ds)(hn:n<2 ^ 36)(hl:cols.length<=12)(nd:cols.Nodup) :
 ∃(ns:List Str) (d1:List PyData),ns.Nodup/\(∀x∈ns,x∈cols)/\ns.length<=12/\Bx (n+14) d1/\Cr [.ls true ds,.im (sqD b (cols.map PyData.str))]=.ret (.ls false (ns.map PyData.str)) [.ls true d1,.im (sqD b (cols.map PyData.str))]:=by
 obtain⟨mx,left,d1,u,pm,ml,b1,eL⟩:=A1q hb (by omega) hl
 obtain⟨q,d2,b2,q0,q1,e2⟩:=Dw (m:=((mx.length:Int)+1)) b1 (by omega) (by omega) (by omega)
 obtain⟨r,d3,b3,r0,r1,e3⟩:=Dw (m:=4) b2 (by omega) (by decide) (by decide)
 obtain⟨x,hx,xm,_⟩:=Ql (l:=[PyData.int q,.int 1,.int 2,.int (mx.length:Int)]) (r:=r) r0 r1
 obtain⟨i,rfl⟩:∃i:Int,x=.int i:=by
  simp only[List.mem_cons,List.not_mem_nil,or_false]at xm
  rcases xm with rfl | rfl | rfl | rfl <;> exact⟨_,rfl⟩
 have nm:mx.Nodup:=(List.nodup_append.mp (pm.nodup_iff.mpr nd)).1;have cl:=V6 mx none (some i)
 have e4:cLC [none,some 2,some 0] (Bw (Ab 1)) (cgN 0) Bp Bc5 [sT ds,sI (sqD b (cols.map PyData.str)),sFa (cols.map PyData.str),none]=.ok (.o (.ls false (mx.map PyData.str))) [sT d1,sI (sqD b (cols.map PyData.str)),sFa (left.map PyData.str),none] :=
  Fy (ds:=cols.map PyData.str) (c1:=[sT ds,sI (sqD b (cols.map PyData.str)),sFa (cols.map PyData.str),none]) (cI:=[u,sT (left.map PyData.str),sT d1]) (Ai6 rfl) (by rw[List.length_map];omega) (by simpa[cIn,O.flag] using eL) (by wp_walk using true_and)
 refine⟨Jj mx none (some i),d3,Bb4 nm,λy hy=>pm.mem_iff.mp (List.mem_append_left _ (X7 hy)),by omega,b3.mono (by omega),?_⟩
 have ai:∀i j:Int,Ek (.int i) (.int j)=sI (.int (i+j)):=λi j=>rfl
 have lr:Cw [.list (mx.map PyData.str)]=sI (.int mx.length):=by show some (O.im (.int ((mx.map PyData.str).length:Nat)))=_;rw[List.length_map]
 refine Rn (p:=.o (.ls false ((Jj mx none (some i)).map PyData.str))) (c:=[sT d3,sI (sqD b (cols.map PyData.str)),sFa (left.map PyData.str),sFa (mx.map PyData.str)]) ?_ rfl (by wp_walk using true_and)
 show Gi [sT ds,sI (sqD b (cols.map PyData.str)),none,none]=_
 unfold Gi
 refine (Dq (c':=[sT ds,sI (sqD b (cols.map PyData.str)),sFa (cols.map PyData.str),none]) (by wp_walk using A1f)).trans ?_
 refine (Dq (c':=[sT d1,sI (sqD b (cols.map PyData.str)),sFa (left.map PyData.str),sFa (mx.map PyData.str)]) (by wp_walk using e4)).trans ?_
 wp_walk using lr,ai,e2,e3,Al,hx,Qg,Wh
section
variable {α β:Type}[DecidableEq α]
noncomputable def ins (qs:List α) (q:α):List α:=if q∈qs then qs else qs++[q]
def fs (l:List α):List α:=l.foldl ins []
noncomputable def upF (g:α->β) (q:α) (v:β):α->β:=λx=>if x=q then v else g x
theorem Lb {qs:List α} (h:q∈qs):ins qs q=qs:=if_pos h
theorem J4 {qs:List α} (h:q∉qs):ins qs q=qs++[q]:=if_neg h
theorem A6n {qs:List α} : x∈ins qs q↔x∈qs\/x=q:=by
 by_cases h:q∈qs
 ·rw[Lb h]
  grind
 ·rw[J4 h,List.mem_append,List.mem_singleton]
theorem P0 {l:List α} : fs (l++[x])=ins (fs l) x:=by unfold fs;grind
theorem Nx {P:List α->Prop}(b:P [])(h1:∀l x,P l->P (l++[x]))(l:List α):P l:=by
 rw[<- l.reverse_reverse];generalize l.reverse=m
 induction m with
 | nil=>grind
 | cons x m a=>grind
theorem zZ {l:List α} : x∈fs l↔x∈l:=by
 refine Nx (P:=λl=>∀{x},x∈fs l↔x∈l) Iff.rfl (λl y a x=>?_) l
 rw[P0,A6n,a,List.mem_append,List.mem_singleton]
theorem A2c (l:List α):(fs l).Nodup:=by
 refine Nx (P:=λl=>(fs l).Nodup) List.nodup_nil (λl y a=>?_) l
 rw[P0]
 by_cases h:y∈fs l
 ·rw[Lb h];grind
 ·rw[J4 h]
  grind
theorem Qm (l:List α):(fs l).length<=l.length:=by
 refine Nx (P:=λl=>(fs l).length<=l.length) (Nat.le_refl _) (λl y a=>?_) l
 rw[P0]
 by_cases h:y∈fs l
 ·rw[Lb h,List.length_append];omega
 ·rw[J4 h];grind
theorem An6 {l:List α} (h:l[k]?=some x):fs (l.take (k+1))=ins (fs (l.take k)) x:=by
 rw[List.take_succ,h];exact P0
theorem U4 {g:α->β} : upF g q v q=v:=if_pos rfl
theorem Ti {g:α->β} (h:x≠q):upF g q v x=g x:=if_neg h
theorem J0 {g:α->β} {qs:List α}(h:q∉qs):qs.map (upF g q v)=qs.map g:=List.map_congr_left λx a=>Ti λe=>h (e▸a)
theorem V9 {g:α->β}{q:α}{v:β}:∀{qs:List α},qs.Nodup->q∈qs->(qs.map g).set (fnd q qs) v=qs.map (upF g q v)
 | x::qs,nd,h=>by
  obtain⟨n1,n2⟩:=List.nodup_cons.mp nd;unfold fnd
  by_cases e:x=q
  ·rw[if_pos e,List.map_cons,List.set_cons_zero,List.map_cons,J0 (e▸n1),e,U4]
  ·rw[if_neg e,List.map_cons,List.set_cons_succ,List.map_cons,Ti e,V9 n2 ((List.mem_cons.mp h).resolve_left λz=>e z.symm)]
variable {key:α->PyData}(he:∀a b,PyData.eqv (key a) (key b)=decide (a=b))
include he
theorem A0e {q:α}:∀{qs:List α},q∈qs->Ob (key q) (qs.map key)=some (fnd q qs)
 | x::qs,h=>by
  rw[List.map_cons];unfold Ob fnd;rw[he]
  by_cases e:x=q
  ·rw[decide_eq_true e,if_pos rfl,if_pos e]
  ·rw[decide_eq_false e,if_neg (by decide),if_neg e,A0e ((List.mem_cons.mp h).resolve_left λz=>e z.symm)];rfl
theorem Am5 {q:α}:∀{qs:List α},q∉qs->Ob (key q) (qs.map key)=none
 | [],_=>rfl
 | x::qs,h=>by
  have e:x≠q:=λz=>h (z▸List.mem_cons_self)
  rw[List.map_cons];unfold Ob
  rw[he,decide_eq_false e,if_neg (by decide),Am5 λz=>h (List.mem_cons_of_mem _ z)];rfl
theorem A3z (c:qs.Nodup) (d:q∉qs->g q=[]) :
 Bi0 ((Qe (qs.map key) (qs.map λa=>DE.l (g a)) (key q)).2.1[(Qe (qs.map key) (qs.map λa=>DE.l (g a)) (key q)).2.2]?)=some (g q) /\
 (Qe (qs.map key) (qs.map λa=>DE.l (g a)) (key q)).1=(ins qs q).map key /\
 (Qe (qs.map key) (qs.map λa=>DE.l (g a)) (key q)).2.1.set (Qe (qs.map key) (qs.map λa=>DE.l (g a)) (key q)).2.2 (.l (g q++[x]))=(ins qs q).map λa=>DE.l (upF g q (g q++[x]) a):=by
 have b:(λa=>DE.l (upF g q (g q++[x]) a))=upF _ q _:=funext λa=>by unfold upF;split <;> rfl
 unfold Qe
 by_cases h:q∈qs
 ·simp only[A0e he h]
  refine⟨?_,by rw[Lb h],by rw[Lb h,b,V9 c h]⟩
  rw[List.getElem?_map,Om h];rfl
 ·simp only[Am5 he h]
  refine⟨?_,by rw[J4 h,List.map_append];rfl,?_⟩
  ·rw[List.getElem?_append_right (by simp),List.length_map,List.length_map,Nat.sub_self,d h];rfl
  ·rw[J4 h,b,List.map_append,J0 h,List.map_cons,U4,List.set_append_right _ _ (by simp),List.length_map,List.length_map,Nat.sub_self];rfl
omit he
noncomputable def nmK (l:List α) (k:Nat) (q:α):List PyData:=((List.range k).filter λi=>decide (l[i]?=some q)).map λi=>PyData.int (i:Nat)
theorem Ax5 {l:List α} (h:l[k]?=some x):nmK l (k+1)=upF (nmK l k) x (nmK l k x++[.int (k:Nat)]):=funext λq=>by
 have e:nmK l (k+1) q=nmK l k q++if l[k]?=some q then [.int (k:Nat)] else []:=by
  unfold nmK;rw[List.range_succ,List.filter_append,List.map_append]
  congr 1
  by_cases z:l[k]?=some q
  ·rw[if_pos z];simp[z]
  ·rw[if_neg z];simp[z]
 rw[e]
 by_cases z:q=x
 ·subst z;rw[if_pos h,U4]
 ·rw[if_neg (λy=>z (Option.some.inj (y.symm.trans h))),List.append_nil,Ti z]
theorem A5t {l:List α} (h:q∉l.take k):nmK l k q=[]:=by
 unfold nmK;rw[List.filter_eq_nil_iff.mpr,List.map_nil];intro i a e
 exact h (List.mem_of_getElem? (i:=i) (by grind))
theorem A4t (l:List α)(k:Nat)(q:α):(nmK l k q).length<=k:=by
 unfold nmK
 grind
end
theorem Vp {d:Nat}{g:PV->Ev->R Unit}{F:BF}{P:Nat->Ev->List PyData->List DE->Prop}:∀{items:List PyData}{n:Nat}{c:Ev}{ks:List PyData}{es:List DE},P n c ks es ->
 (∀k x c ks es,items[k]?=some x->P (n+k) c ks es->∃c1 c' ks' es',g (.o (.im x)) c=.ok () c1/\Em d c1=true/\F c1 ks es=.nx c' ks' es'/\P (n+k+1) c' ks' es')->∃c' ks' es',S9 (d:=d) g F items c ks es=.nx c' ks' es'/\P (n+items.length) c' ks' es'
 | [],n,c,ks,es,h0,_=>⟨c,ks,es,rfl,h0⟩
 | x::xs,n,c,ks,es,h0,hs=>by
  obtain⟨c1,c2,ks2,es2,e1,e2,e3,h1⟩:=hs 0 x c ks es rfl h0
  obtain⟨c3,ks3,es3,e4,h2⟩:=Vp (d:=d) (g:=g) (F:=F) (P:=P) (items:=xs) (n:=n+1) h1 (λk d c ks es hk hp=>by
   have:=hs (k+1) d c ks es (by simpa using hk) (by rw[show n+(k+1)=n+1+k by omega];exact hp)
   rw[show n+(k+1)+1=n+1+k+1 by omega]at this
   exact this)
  refine⟨c3,ks3,es3,?_,by rw[List.length_cons,show n+(xs.length+1)=n+1+xs.length by omega];exact h2⟩
  show (g (.o (.im x)) c).toB _=_
  rw[e1]
  show (if Em d c1=true then _ else _)=_
  rw[if_pos e2,e3];exact e4
theorem A5f (h1:fi c=.ok ds c1) (h2:Em d c1=true):A4i (d:=d) fi g F c ks es=S9 (d:=d) g F ds c1 ks es:=by
 unfold A4i;rw[h1]
 show (if Em d _=true then _ else _)=_
 grind
theorem At5 (h1:Em d (c.set d none)=true) (h2:F (c.set d none) [] []=.nx c' ks es):Tg d F g c=g (c'.set d (some (.ty (.ds ks (es.map DE.dat))))):=by
 unfold Tg
 grind
theorem Aj6:∀vs:List Vl,Ge (vs.map Vl.d)=true
 | []=>rfl
 | v::vs=>by
  rw[List.map_cons,Ge,Aj6 vs]
  cases v <;> rfl
theorem Az9:∀vs:List Vl,PyData.depthAll (vs.map Vl.d)=0
 | []=>rfl
 | v::vs=>by
  show max v.d.depth (PyData.depthAll (vs.map Vl.d))=0
  rw[Az9 vs]
  cases v <;> rfl
theorem A8g (h:VBs vs):PyData.canLayAll0 (vs.map Vl.d)=true:=Rh λd a=>by
 obtain⟨v,b,rfl⟩:=List.mem_map.mp a;exact(Iz (h v b)).lay
theorem A9n (h:VBs vs):Te (tD vs)=true:=by
 show (Ge _&&PyData.canLayAll0 _&&decide _)=true
 rw[Aj6,A8g h,Az9];rfl
theorem R.toB_ok {a:b} {k:b->Ev->BR}:(U.R.ok a c).toB k=k a c:=rfl
section
variable {α:Type}[DecidableEq α]{key:α->PyData}(he:∀a b,PyData.eqv (key a) (key b)=decide (a=b)){d:Nat}{c:Ev}{qs:List α}{q:α}
include he
theorem A1b (h1:fk c=.ok (.o (.im (key q))) c) (h2:fv c=.ok (.o (.im x)) c) (e:qs.Nodup) (hk:Te (key q)=true) (hl:qs.length<=1000) (hg:(g q).length<=1000) (b:q∉qs->g q=[]) (hn:Em d c=true) :
 A4b (d:=d) fk fv c (qs.map key) (qs.map λa=>.l (g a))=.nx c ((ins qs q).map key) ((ins qs q).map λa=>.l (upF g q (g q++[x]) a)):=by
 obtain⟨h,i,f⟩:=A3z (x:=x) he e b;unfold A4b;simp only[h1,R.toB_ok,nrm,Ep,rdP,Option.bind_some,O.dat];simp only[h2,R.toB_ok,frz]
 grind
end
theorem Zj {b:Type}{f:b->PyData}{xs:List b}{k:Nat} (h:(Fw (xs.map f))[k]?=some x):∃a,xs[k]?=some a/\x=.tuple [.int (k:Nat),f a]:=by
 unfold Fw at h
 grind
theorem A4s:∀x∈names12,Dh (.str x)=true:=λx hx=>List.all_eq_true.mp (show names12.all (λx=>Dh (.str x))=true by decide +kernel) x hx
theorem Bk0 {v:Vl}(h:VB v):Hi v.d=true:=by
 cases v with
 | non=>rfl
 | int i=>rfl
 | str x =>
  obtain⟨_,h1⟩:=Bool.and_eq_true_iff.mp (show (decide (x.length<=40)&&x.cps.toList.all λc=>decide (32<=c)&&decide (c<=126))=true from h)
  exact h1
theorem Bg9 {t:Tb}(ht:Tb.Ok t):Eo t.d=true:=by
 show (H9 (.tuple (t.cols.map PyData.str))&&(t.rows.map tD).all (Hl (t.cols.map PyData.str).length))=true
 have hp:=ht.cpos;rw[Bool.and_eq_true_iff]
 constructor
 ·show (decide (0<(t.cols.map PyData.str).length)&&((t.cols.map PyData.str).all Dh&&(match strsOf (t.cols.map PyData.str) with | some ss=>decide ss.Nodup | none=>false)))=true
  rw[Mr,decide_eq_true (by rw[List.length_map];omega),List.all_eq_true.mpr λd hd=>?_]
  ·show (true&&(true&&decide t.cols.Nodup))=true
   rw[decide_eq_true ht.nms.nd];rfl
  ·obtain⟨x,hx,rfl⟩:=List.mem_map.mp hd
   exact A4s x (ht.nms.sub x hx)
 ·rw[List.all_eq_true]
  intro d hd;obtain⟨r,hr,rfl⟩:=List.mem_map.mp hd;have h:=ht.rows r hr
  show (decide ((r.map Vl.d).length=(t.cols.map PyData.str).length)&&(r.map Vl.d).all Hi)=true
  rw[decide_eq_true (by rw[List.length_map,List.length_map];exact h.1),List.all_eq_true.mpr λd hd=>?_]
  ·rfl
  ·obtain⟨v,hv,rfl⟩:=List.mem_map.mp hd
   exact Bk0 (h.2 v hv)
theorem A6k:∀x∈names12,sm (.str x)=true:=λx hx=>List.all_eq_true.mp (show names12.all (λx=>sm (.str x))=true by decide +kernel) x hx
theorem Bm4 {v:Vl}(h:VB v):sm v.d=true:=by
 cases v with
 | non=>rfl
 | int i=>rfl
 | str x =>
  obtain⟨h0,h1⟩:=Bool.and_eq_true_iff.mp (show (decide (x.length<=40)&&x.cps.toList.all λc=>decide (32<=c)&&decide (c<=126))=true from h)
  show (decide (x.length<=100)&&x.cps.toList.all (λc=>decide (c<128)))=true
  have h0:=of_decide_eq_true h0
  rw[decide_eq_true (show x.length<=100 by omega),List.all_eq_true.mpr λc hc=>?_]
  ·rfl
  ·obtain⟨_,q⟩:=Bool.and_eq_true_iff.mp (List.all_eq_true.mp h1 c hc)
   have q:=of_decide_eq_true q
   exact decide_eq_true (by omega)
theorem Bk3 {t:Tb}(ht:Tb.Ok t):sm t.d=true:=by
 have h12:=ht.clen;have h24:=ht.rlen
 refine sm_tup.mpr ⟨by simp,λd hd=>?_⟩
 simp only[List.mem_cons,List.not_mem_nil,or_false]at hd
 rcases hd with rfl | rfl
 ·refine sm_tup.mpr ⟨by rw[List.length_map];omega,λd hd=>?_⟩
  obtain⟨x,hx,rfl⟩:=List.mem_map.mp hd;exact A6k x (ht.nms.sub x hx)
 ·refine sm_tup.mpr ⟨by rw[List.length_map];omega,λd hd=>?_⟩
  obtain⟨r,hr,rfl⟩:=List.mem_map.mp hd;have h:=ht.rows r hr;have hl:=h.1
  refine sm_tup.mpr ⟨by rw[List.length_map];omega,λd hd=>?_⟩
  obtain⟨v,hv,rfl⟩:=List.mem_map.mp hd;exact Bm4 (h.2 v hv)
theorem Z1 {t:Tb}(ht:Tb.Ok t):Bg [.im t.d]=.ret (.im (.bool true)) [.im t.d]:=by
 have h:=Ay4 (Bk3 ht);rw[Bg9 ht]at h;exact h
abbrev nmL (l:List (List Vl)):List PyData:=(fs l).map λq=>PyData.list (nmK l l.length q)
abbrev aev (t:Tb)(x:PyData)(rest:List (Option O)):Ev:=sI t.d::some (.im x)::rest
theorem Kp {t:Tb}{b:Bool}{ns:List Str}(ht:Tb.Ok t)(hn:∀x∈ns,x∈t.cols)(hl:ns.length<=30):Dg [.im t.d,.im (sqD b (ns.map PyData.str))]=.ret (.ls false (nmL (Ak t ns))) [.im t.d,.im (sqD b (ns.map PyData.str))]:=by
 have e1:=Ap8 (b:=b) ht hn hl;have h24:=ht.rlen
 have hz2:(Ak t ns).length=t.rows.length:=by unfold Ak;rw[List.length_map]
 have hp:∀{k:Nat} {r:List Vl},t.rows[k]?=some r->(Ak t ns)[k]?=some (pick t.cols r ns):=λ{k r} hr=>by unfold Ak;rw[List.getElem?_map,hr];rfl
 generalize sqD b (ns.map PyData.str)=x at *
 generalize Ak t ns=l at *
 obtain⟨c',ks',es',e3,u4,u5,rfl,rfl,rfl⟩:=Vp (d:=3) (g:=cgT 2 (Ft (cgN 4) (Ft (cgN 5) Oo))) (F:=M8) (items:=Fw (t.rows.map tD)) (n:=0) (ks:=[]) (es:=[])
  (c:=aev t x [sI (.list (Ur t.cols ns)),none,none,none])
  (P:=λk c K' E'=>∃u4 u5,c=aev t x [sI (.list (Ur t.cols ns)),none,u4,u5]/\K'=(fs (l.take k)).map tD/\E'=(fs (l.take k)).map λq=>DE.l (nmK l k q)) ⟨none,none,rfl,rfl,rfl⟩
  (λk z c K' E' hx hP=>by
   rw[Nat.zero_add]at hP ⊢;obtain⟨u4,u5,rfl,rfl,rfl⟩:=hP;obtain⟨r,hr,rfl⟩:=Zj hx;have mr:=ht.rows r (List.mem_of_getElem? hr);have hp:=hp hr;have v1:=Ar4 (r:=r) hn mr.1 hl;have w1:VBs (pick t.cols r ns):=Xd mr.2
   generalize pick t.cols r ns=p at *
   have v1:Fj [.im (tD r),.im (.list (Ur t.cols ns))]=.ret (.im (tD p)) [.im (tD r),.im (.list (Ur t.cols ns))]:=v1
   generalize Ur t.cols ns=L at *
   refine⟨aev t x [sI (.list L),none,sI (.int (k:Nat)),sI (tD r)],aev t x [sI (.list L),none,sI (.int (k:Nat)),sI (tD r)],_,_,(by wp_walk using aev),rfl,?_,_,_,rfl,rfl,rfl⟩
   unfold M8
   rw[A1b (x:=.int (k:Nat)) (q:=p) A7q (by wp_walk using v1) (by wp_walk using true_and) (A2c _) (A9n w1) (Nat.le_trans (Qm _) (Nat.le_trans (by rw[List.length_take];exact Nat.min_le_right _ _) (by omega))) (Nat.le_trans (A4t _ _ _) (by have:=(List.getElem?_eq_some_iff.mp hp).1;omega)) (λz=>A5t λy=>z (zZ.mpr y)) rfl]
   rw[<- An6 hp,<- Ax5 hp])
 have hz:(Fw (t.rows.map tD)).length=t.rows.length:=by unfold Fw;rw[List.length_map,List.length_range,List.length_map]
 rw[hz,Nat.zero_add,<- hz2,List.take_length]at e3
 have e5:=At5 (d:=3) (g:=Df (Ug (Ab 3))) (c:=aev t x [sI (.list (Ur t.cols ns)),none,none,none]) rfl ((A5f (fi:=Oi (cOp Al (Ab 0) (cC (.int 1)))) (c1:=aev t x [sI (.list (Ur t.cols ns)),none,none,none]) (by wp_walk using aev,Oi,Al,Tb.d,Mf) rfl).trans e3)
 rw[List.map_map]at e5
 have e6:(DE.dat ∘ λq=>DE.l (nmK l l.length q))=λq=>PyData.list (nmK l l.length q):=rfl
 rw[e6]at e5
 have e7:∀c1:Ev,c1[3]?=some (some (.ty (.ds ((fs l).map tD) ((fs l).map λq=>PyData.list (nmK l l.length q)))))->Ug (Ab 3) c1=.ok (.o (.ls false (nmL l))) c1:=λc1 h=>by
  unfold Ug Ab;simp only[h,R.bind_ok,nrm]
  rw[if_pos (by rw[List.length_map,List.length_map])]
 have e8:=λu=>e7 (aev t x [sI (.list (Ur t.cols ns)),some (.ty (.ds ((fs l).map tD) ((fs l).map λq=>PyData.list (nmK l l.length q)))),u4,u]) rfl
 wp_walk using Dg,Zo,e1,e5,e8
theorem A9b (b:Bool)(l:List PyData):Jf .list .tuple (sqD b l)=sI (.bool true):=by cases b <;> rfl
theorem Vj {t:Tb}{b:Bool}{ns:List Str}(ht:Tb.Ok t)(hn:∀x∈ns,x∈t.cols)(hl:ns.length<=12):Gw [.im t.d,.im (sqD b (ns.map PyData.str))]=.ret (.im (.bool (decide ((fs (Ak t ns)).length=t.rows.length)))) [.im t.d,.im (sqD b (ns.map PyData.str))]:=by
 have e1:=Z1 ht;have e2:=A9b b (ns.map PyData.str)
 have e3:=Kp (b:=b) ht hn (show ns.length<=30 by omega)
 have i1:Al t.d (.int 1)=sI (.tuple (t.rows.map tD)):=rfl
 have hz:(nmL (Ak t ns)).length=(fs (Ak t ns)).length:=by unfold nmL;rw[List.length_map]
 rw[<- hz]
 generalize nmL (Ak t ns)=N at *
 generalize sqD b (ns.map PyData.str)=y at *
 have l1:Cw [.list N]=sI (.int N.length):=rfl
 have l2:Cw [.tuple (t.rows.map tD)]=sI (.int t.rows.length):=by show some (O.im (.int ((t.rows.map tD).length:Nat)))=_;rw[List.length_map]
 have e4:Ca false (.int (N.length:Nat)) (.int (t.rows.length:Nat))=sI (.bool (decide (N.length=t.rows.length))):=by rw[Cy];exact congrArg (λb:Bool=>some (O.im (PyData.bool b))) (decide_eq_decide.mpr ⟨λh=>by omega,λh=>by omega⟩)
 generalize t.d=D at *
 wp_walk using Gw,Vm,e1,e2,e3,i1,l1,l2,e4
theorem A7y {t:Tb}{ns:List Str}{r:List Vl}(ht:Tb.Ok t)(hn:∀x∈ns,x∈t.cols)(hr:r.length=t.cols.length)(hl:ns.length<=12) :
 Ir [.im t.d,.im (tD r),.im (.list (ns.map PyData.str))]=.ret (.im (tD (pick t.cols r ns))) [.im t.d,.im (tD r),.im (.list (ns.map PyData.str))]:=by
 have i0:Al t.d (.int 0)=sI (.tuple (t.cols.map PyData.str)):=rfl
 obtain⟨cI,e,u,rfl⟩:=Ii (g:=cgN 0) (ft:=Bp) (fe:=cOp Al (Ab 1) (cMt Kv Jz (cOp Al (Ab 2) (cC (.int 0))) (Ab 0))) (I:=λc=>∃u,c=[u,sI (tD r),sI t.d]) (f:=PyData.str) (G:=λx=>(vAt t.cols r x).d) (xs:=ns) (acc:=[]) (c:=[none,sI (tD r),sI t.d]) ⟨none,rfl⟩
  (λx c hx hI=>by
   obtain⟨u,rfl⟩:=hI
   refine⟨[sI (.str x),sI (tD r),sI t.d],?_,_,rfl⟩
   have a1:=T8 ht.nms.nd (Om (hn x hx));have a2:=A2r (r:=r) (hn x hx) hr
   generalize t.d=D at *
   generalize tD r=Z at *
   wp_walk using i0,cMt,Kv,a1,a2)
 have e2:cLC [none,some 1,some 0] (Bw (Ab 2)) (cgN 0) Bp (cOp Al (Ab 1) (cMt Kv Jz (cOp Al (Ab 2) (cC (.int 0))) (Ab 0))) [sI t.d,sI (tD r),sI (.list (ns.map PyData.str))]=.ok (.o (.ls false (ns.map λx=>(vAt t.cols r x).d))) [sI t.d,sI (tD r),sI (.list (ns.map PyData.str))] :=
  Fy (ds:=ns.map PyData.str) (c1:=[sI t.d,sI (tD r),sI (.list (ns.map PyData.str))]) (by wp_walk using Bw) (by rw[List.length_map];omega) (by simpa[cIn,O.flag] using e) rfl
 have e3:PyData.tuple (ns.map λx=>(vAt t.cols r x).d)=tD (pick t.cols r ns):=by unfold tD pick;rw[List.map_map];rfl
 generalize t.d=D at *
 wp_walk using Ir,Ai1,e2,Fp,e3
section
variable {α:Type}[DecidableEq α]
noncomputable def idI (l:List α) (k:Nat) (q:α):List Int:=((List.range k).filter λi=>decide (l[i]?=some q)).map λi=>((i:Nat):Int)
theorem Mt (l:List α)(k:Nat)(q:α):nmK l k q=(idI l k q).map PyData.int:=by unfold nmK idI;rw[List.map_map];rfl
theorem idI_mem {l:List α}{k:Nat}{q:α}{i:Int}:i∈idI l k q↔∃j:Nat,j<k/\l[j]?=some q/\i=(j:Nat):=by
 unfold idI;rw[List.mem_map]
 constructor
 ·rintro⟨j,hj,rfl⟩
  obtain⟨h1,h2⟩:=List.mem_filter.mp hj;exact⟨j,List.mem_range.mp h1,of_decide_eq_true h2,rfl⟩
 ·rintro⟨j,h1,h2,rfl⟩
  exact⟨j,List.mem_filter.mpr ⟨List.mem_range.mpr h1,decide_eq_true h2⟩,rfl⟩
theorem Zw (l:List α)(k:Nat)(q:α):idI l (k+1) q=idI l k q++if l[k]?=some q then [((k:Nat):Int)] else []:=by
 unfold idI;rw[List.range_succ,List.filter_append,List.map_append]
 congr 1
 by_cases z:l[k]?=some q
 ·rw[if_pos z];simp[z]
 ·rw[if_neg z];simp[z]
theorem A3d {l:List α}{k:Nat}{x:α}(h:l[k]?=some x):idI l (k+1)=upF (idI l k) x (idI l k x++[((k:Nat):Int)]):=funext λq=>by
 rw[Zw]
 by_cases z:q=x
 ·subst z;rw[if_pos h,U4]
 ·rw[if_neg (λy=>z (Option.some.inj (y.symm.trans h))),List.append_nil,Ti z]
theorem A6e {l:List α}{k:Nat}{q:α}(h:q∉l.take k):idI l k q=[]:=by
 unfold idI;rw[List.filter_eq_nil_iff.mpr,List.map_nil];intro i hi e;have hi:=List.mem_range.mp hi;have e:=of_decide_eq_true e
 exact h (List.mem_of_getElem? (i:=i) (by rw[List.getElem?_take,if_pos hi];exact e))
theorem Xh (l:List α)(k:Nat)(q:α):(idI l k q).length<=k:=by
 unfold idI;rw[List.length_map]
 exact Nat.le_trans (List.length_filter_le _ _) (by simp)
theorem A5n {l:List α}{x q:α}:idI (l++[x]) l.length q=idI l l.length q:=by
 unfold idI
 congr 1
 refine List.filter_congr λi hi=>?_
 rw[List.getElem?_append_left (List.mem_range.mp hi)]
theorem A4z (l:List α)(q:α):(idI l l.length q).length=l.count q:=by
 refine Nx (P:=λl=>(idI l l.length q).length=l.count q) rfl (λl x ih=>?_) l
 rw[List.length_append,List.length_singleton,Zw,A5n,List.length_append,ih,List.count_append,List.getElem?_append_right (Nat.le_refl _),Nat.sub_self]
 by_cases z:x=q
 ·subst z;simp
 ·simp[z]
theorem Al4 {g:α->List Int}{q:α}{f:List Int->List Int}:∀{qs:List α},qs.Nodup->q∈qs->(qs.map g).modify (fnd q qs) f=qs.map (upF g q (f (g q)))
 | x::qs,nd,h=>by
  obtain⟨n1,n2⟩:=List.nodup_cons.mp nd;unfold fnd
  by_cases e:x=q
  ·rw[if_pos e,List.map_cons,List.map_cons,J0 (e▸n1),e,U4];rfl
  ·rw[if_neg e,List.map_cons,List.map_cons,Ti e,List.modify_succ_cons,Al4 n2 ((List.mem_cons.mp h).resolve_left λz=>e z.symm)]
theorem Al1 {q:α}:∀{qs:List α},q∈qs->Ar0 (qs.map λa=>decide (a=q))=some (fnd q qs)
 | x::qs,h=>by
  rw[List.map_cons];unfold Ar0 fnd
  by_cases e:x=q
  ·rw[decide_eq_true e,if_pos rfl,if_pos e]
  ·rw[decide_eq_false e,if_neg (by decide),if_neg e,Al1 ((List.mem_cons.mp h).resolve_left λz=>e z.symm)];rfl
theorem Ah4 {q:α}{g:α->List Int}:∀qs:List α,Ei (qs.map λa=>decide (a=q)) (qs.map g)=(qs.filter λa=>decide (a=q)).map g
 | []=>rfl
 | x::qs=>by
  rw[List.map_cons,List.map_cons];unfold Ei;rw[Ah4 qs,List.filter_cons]
  split <;> rfl
theorem Ao6 (l:List α):(fs l).length=l.length↔∀q∈fs l,l.count q=1:=by
 refine Nx (P:=λl=>(fs l).length=l.length↔∀q∈fs l,l.count q=1) ⟨λ_ q h=>(nomatch h),λ_=>rfl⟩ (λl x ih=>?_) l
 rw[P0];have hle:=Qm l
 by_cases h:x∈fs l
 ·rw[Lb h]
  constructor
  ·intro e;rw[List.length_append,List.length_singleton]at e;omega
  ·intro e
   have:=e x h;rw[List.count_append]at this;have c:0<l.count x:=List.count_pos_iff.mpr (zZ.mp h)
   simp at this
   omega
 ·rw[J4 h,List.length_append,List.length_append,List.length_singleton]
  have h0:x∉l:=λz=>h (zZ.mpr z)
  have c0:l.count x=0:=List.count_eq_zero.mpr h0
  constructor
  ·intro e q hq
   have ih:=ih.mp (by omega)
   rcases List.mem_append.mp hq with z | z
   ·rw[List.count_append,ih q z]
    have:x≠q:=λy=>h (y▸z)
    simp[this]
   ·rw[List.mem_singleton.mp z,List.count_append,c0];simp
  ·intro e
   have:=ih.mpr λq hq=>by
    have w:=e q (List.mem_append_left _ hq);rw[List.count_append]at w
    have:x≠q:=λy=>h (y▸hq)
    simp[this]at w
    exact w
   omega
theorem At7 (l:List α):(fs l).length=l.length↔∀q∈fs l,(idI l l.length q).length=1:=by
 simp only[A4z];exact Ao6 l
end
abbrev gsI (l:List (List Vl))(k:Nat):List (List Int):=(fs (l.take k)).map (idI l k)
theorem A9q (l:List (List Vl)):(gsI l l.length).map lsI=nmL l:=by
 unfold nmL
 show (((fs (l.take l.length)).map (idI l l.length)).map lsI)=_
 rw[List.take_length,List.map_map]
 refine List.map_congr_left λq _=>?_
 show lsI _=_
 unfold lsI;rw[Mt]
theorem Yj {g:List Int}(h:g.length<=24)(hb:∀i∈g,0<=i/\i<100):Good (lsI g) 1 60000:=by
 unfold lsI
 refine (Good.lst (n:=0) (w:=1921) (k:=24) (λd hd=>?_) (by rw[List.length_map];omega)).mono (by decide) (by decide)
 obtain⟨i,hi,rfl⟩:=List.mem_map.mp hd;have:=hb i hi
 refine Iz (v:=.int i) ?_
 show (decide (-1000000000000<=(i:Int))&&decide ((i:Int)<=1000000000000))=true
 rw[decide_eq_true (by omega),decide_eq_true (by omega)];rfl
theorem A7k {l:List (List Vl)}{k:Nat}{q:List Vl}(hk:k<=24):∀i∈idI l k q,0<=i/\i<100:=λi hi=>by
 obtain⟨j,h1,_,rfl⟩:=idI_mem.mp hi;omega
abbrev lft:Ev->R Bool:=Bb (cOp (Ca false) (cF Ir (Ae (Ab 1) (Ae (cOp Al (cOp Al (Ab 1) (cC (.int 1))) (cOp Al (Ab 0) (cC (.int 0)))) (Ae (Ab 2) Ba)))) (cF Ir (Ae (Ab 1) (Ae (Ab 3) (Ae (Ab 2) Ba)))))
abbrev lfq:Ev->R Bool:=Bb (cOp (Ca false) (Ab 5) (Im Ba))
theorem A6h {t:Tb}{ns:List Str}{k:Nat}{r:List Vl}{q:List Vl}(ht:Tb.Ok t)(hn:∀x∈ns,x∈t.cols)(hl:ns.length<=12)(hr:r∈t.rows)(hq:q∈fs ((Ak t ns).take k)){u:Option O} :
 lft ([u,sI t.d,sI (.list (ns.map PyData.str)),sI (tD r)].set 0 (sI (lsI (idI (Ak t ns) k q))))=.ok (decide (q=pick t.cols r ns)) [sI (lsI (idI (Ak t ns) k q)),sI t.d,sI (.list (ns.map PyData.str)),sI (tD r)]:=by
 obtain⟨j,hj⟩:=List.getElem?_of_mem (zZ.mp hq);rw[List.getElem?_take]at hj
 split at hj
 ·rename_i hjk
  have hne:((j:Nat):Int)∈idI (Ak t ns) k q:=idI_mem.mpr ⟨j,hjk,hj,rfl⟩
  cases hg:idI (Ak t ns) k q with
  | nil=>rw[hg]at hne;cases hne
  | cons h0 rest =>
   obtain⟨j0,h1,h2,rfl⟩:=idI_mem.mp (show h0∈idI (Ak t ns) k q by rw[hg];exact .head _)
   unfold Ak at h2;rw[List.getElem?_map]at h2;obtain⟨r0,hr0,rfl⟩:=Option.map_eq_some_iff.mp h2;have m0:=List.mem_of_getElem? hr0;have a0:=A7y ht hn (ht.rows r0 m0).1 hl;have a1:=A7y ht hn (ht.rows r hr).1 hl
   have i0:Al (lsI (((j0:Nat):Int)::rest)) (.int 0)=sI (.int (j0:Nat)):=by
    show (atI (PyData.int ((j0:Nat):Int)::rest.map PyData.int) ((0:Nat):Int)).map O.im=_
    rw[Fx (j:=0) rfl];rfl
   have i1:Al t.d (.int 1)=sI (.tuple (t.rows.map tD)):=rfl
   have i2:Al (.tuple (t.rows.map tD)) (.int (j0:Nat))=sI (tD r0):=by
    show (atI (t.rows.map tD) ((j0:Nat):Int)).map O.im=_
    rw[Fx (by rw[List.getElem?_map,hr0];rfl)];rfl
   have v0:VBs (pick t.cols r0 ns):=Xd (ht.rows r0 m0).2;have v1:VBs (pick t.cols r ns):=Xd (ht.rows r hr).2
   have lp:∀r,(pick t.cols r ns).length=ns.length:=λr=>List.length_map ..
   have e:Ca false (tD (pick t.cols r0 ns)) (tD (pick t.cols r ns))=sI (.bool (decide (pick t.cols r0 ns=pick t.cols r ns))):=by
    rw[Ho ((Ro (k:=12) v0 (by rw[lp];exact hl)).flatB (by decide)) ((Ro (k:=12) v1 (by rw[lp];exact hl)).flatB (by decide)),A7q];rfl
   generalize pick t.cols r0 ns=p0 at *
   generalize pick t.cols r ns=p1 at *
   generalize lsI (((j0:Nat):Int)::rest)=G at *
   generalize PyData.tuple (t.rows.map tD)=RS at *
   generalize t.d=D at *
   show lft [sI G,sI D,sI (.list (ns.map PyData.str)),sI (tD r)]=_
   wp_walk using lft,i0,i1,i2,a0,a1,e
 ·cases hj
theorem Aj1 {t:Tb}{ns:List Str}{k:Nat}{r:List Vl}(ht:Tb.Ok t)(hn:∀x∈ns,x∈t.cols)(hl:ns.length<=12)(hr:r∈t.rows){u:Option O}:∀qs:List (List Vl),(∀q∈qs,q∈fs ((Ak t ns).take k)) ->
 W8 lft [u,sI t.d,sI (.list (ns.map PyData.str)),sI (tD r)] (qs.map (idI (Ak t ns) k))=some (qs.map λq=>decide (q=pick t.cols r ns))
 | [],_=>rfl
 | q::qs,h=>by
  rw[List.map_cons];unfold W8;rw[A6h ht hn hl hr (h q (.head _))]
  show Option.map _ (W8 lft _ (qs.map (idI (Ak t ns) k)))=_
  rw[Aj1 ht hn hl hr qs λq hq=>h q (.tail _ hq)];rfl
theorem An8 (ds:List PyData)(h:Dl (.list ds)=true):Ca false (.list ds) (.list [])=sI (.bool ds.isEmpty):=by
 rw[Ho h rfl]
 cases ds <;> rfl
theorem Ai9 {α:Type}[DecidableEq α]{qs:List α}{q:α}(nd:qs.Nodup)(h:q∈qs):(qs.filter λa=>decide (a=q))=[q]:=by
 induction qs with
 | nil=>cases h
 | cons x xs ih =>
  obtain⟨n1,n2⟩:=List.nodup_cons.mp nd
  by_cases e:x=q
  ·subst e
   rw[List.filter_cons,if_pos (decide_eq_true rfl),List.filter_eq_nil_iff.mpr λa ha z=>n1 (by rw[<- of_decide_eq_true z];exact ha)]
  ·rw[List.filter_cons,if_neg (λz=>e (of_decide_eq_true z)),ih n2 ((List.mem_cons.mp h).resolve_left λz=>e z.symm)]
theorem A6y {α:Type}[DecidableEq α]{qs:List α}{q:α}(h:q∉qs):(qs.filter λa=>decide (a=q))=[]:=List.filter_eq_nil_iff.mpr λa ha z=>h (by rw[<- of_decide_eq_true z];exact ha)
abbrev cB0 (t:Tb)(ns:List Str):Ev:=[sI t.d,sI (.list (ns.map PyData.str)),none,none,none,none]
theorem A5j {t:Tb}{ns:List Str}{k:Nat}{r:List Vl}(ht:Tb.Ok t)(hn:∀x∈ns,x∈t.cols)(hl:ns.length<=12)(hr:t.rows[k]?=some r) :
 Wb 3 4 5 [none,some 0,some 1,some 4] lft lfq (cB0 t ns) (gsI (Ak t ns) k) (.tuple [.int (k:Nat),tD r])=some (gsI (Ak t ns) (k+1)):=by
 have mr:=List.mem_of_getElem? hr;have hk:k<t.rows.length:=(List.getElem?_eq_some_iff.mp hr).1;have h24:=ht.rlen
 have hp:(Ak t ns)[k]?=some (pick t.cols r ns):=by unfold Ak;rw[List.getElem?_map,hr];rfl
 have e1:=Aj1 (k:=k) (u:=none) ht hn hl mr (fs ((Ak t ns).take k)) λq h=>h
 unfold Wb gsI
 show Option.bind (W8 lft [none,sI t.d,sI (.list (ns.map PyData.str)),sI (tD r)] ((fs ((Ak t ns).take k)).map (idI (Ak t ns) k))) _=_
 rw[e1,Option.bind_some,Ah4];have nd:=A2c ((Ak t ns).take k)
 have hout:pick t.cols r ns∉fs ((Ak t ns).take k)->idI (Ak t ns) k (pick t.cols r ns)=[]:=λz=>A6e λy=>z (zZ.mpr y)
 rw[An6 hp,A3d hp]
 have hgood:=Yj (g:=idI (Ak t ns) k (pick t.cols r ns)) (Nat.le_trans (Xh _ _ _) (by omega)) (A7k (by omega))
 generalize pick t.cols r ns=p at *
 generalize fs ((Ak t ns).take k)=F at *
 generalize idI (Ak t ns) k=g at *
 by_cases z:p∈F
 ·rw[Ai9 nd z,Al1 z,Lb z]
  have e2:Ca false (.list ([lsI (g p)])) (.list [])=sI (.bool false):=An8 _ ((Good.lst (ds:=[lsI (g p)]) (n:=1) (w:=60000) (k:=24) (λd hd=>by rw[List.mem_singleton.mp hd];exact hgood) (show (1:Nat)<=24 by decide)).flatB (by decide))
  have e3:lfq ((((cB0 t ns).set 3 (sI (.int (k:Nat)))).set 4 (sI (tD r))).set 5 (sI (.list (([p].map g).map lsI))))=.ok false [sI t.d,sI (.list (ns.map PyData.str)),none,sI (.int (k:Nat)),sI (tD r),sI (.list [lsI (g p)])]:=by
   show lfq [sI t.d,sI (.list (ns.map PyData.str)),none,sI (.int (k:Nat)),sI (tD r),sI (.list [lsI (g p)])]=_
   generalize lsI (g p)=G at *
   wp_walk using lfq,e2
  rw[e3]
  show some ((F.map g).modify (fnd p F) λx=>x++[((k:Nat):Int)])=_
  rw[Al4 nd z]
 ·rw[A6y z,J4 z]
  have e3:lfq ((((cB0 t ns).set 3 (sI (.int (k:Nat)))).set 4 (sI (tD r))).set 5 (sI (.list ((([]:List (List Vl)).map g).map lsI))))=.ok true [sI t.d,sI (.list (ns.map PyData.str)),none,sI (.int (k:Nat)),sI (tD r),sI (.list [])]:=by
   have e2:Ca false (.list []) (.list [])=sI (.bool true):=An8 [] rfl
   show lfq [sI t.d,sI (.list (ns.map PyData.str)),none,sI (.int (k:Nat)),sI (tD r),sI (.list [])]=_
   wp_walk using lfq,e2
  rw[e3]
  show some (F.map g++[[((k:Nat):Int)]])=_
  rw[List.map_append,J0 z,List.map_cons,List.map_nil,U4,hout z];rfl
theorem Zk {t:Tb}{ns:List Str}(ht:Tb.Ok t)(hn:∀x∈ns,x∈t.cols)(hl:ns.length<=12):∀(m k:Nat),k+m=t.rows.length ->
 Ab0 3 4 5 [none,some 0,some 1,some 4] lft lfq (cB0 t ns) ((Fw (t.rows.map tD)).drop k) (gsI (Ak t ns) k)=some (gsI (Ak t ns) t.rows.length)
 | 0,k,h=>by
  have:(Fw (t.rows.map tD)).drop k=[]:=List.drop_of_length_le (by unfold Fw;rw[List.length_map,List.length_range,List.length_map];omega)
  rw[this,show k=t.rows.length by omega];rfl
 | m+1,k,h=>by
  have hk:k<(Fw (t.rows.map tD)).length:=by unfold Fw;rw[List.length_map,List.length_range,List.length_map];omega
  obtain⟨r,hr,e⟩:=Zj (List.getElem?_eq_getElem hk);rw[List.drop_eq_getElem_cons hk,e]
  show Option.bind (Wb 3 4 5 [none,some 0,some 1,some 4] lft lfq (cB0 t ns) (gsI (Ak t ns) k) (.tuple [.int (k:Nat),tD r])) _=_
  rw[A5j ht hn hl hr,Option.bind_some]
  exact Zk ht hn hl m (k+1) (by omega)
theorem Ox {t:Tb}{ns:List Str}(ht:Tb.Ok t)(hn:∀x∈ns,x∈t.cols)(hl:ns.length<=12):Ij [.im t.d,.im (.list (ns.map PyData.str))]=.ret (.ls false (nmL (Ak t ns))) [.im t.d,.im (.list (ns.map PyData.str))]:=by
 have h24:=ht.rlen
 have hz2:(Ak t ns).length=t.rows.length:=by unfold Ak;rw[List.length_map]
 have e:=Zk ht hn hl t.rows.length 0 (Nat.zero_add _)
 have hL:(Fw (t.rows.map tD)).length=t.rows.length:=by unfold Fw;rw[List.length_map,List.length_range,List.length_map]
 have e0:Oi (cOp Al (Ab 0) (cC (.int 1))) (cB0 t ns)=.ok (Fw (t.rows.map tD)) (cB0 t ns):=by
  have i1:Al t.d (.int 1)=sI (.tuple (t.rows.map tD)):=rfl
  show Oi (cOp Al (Ab 0) (cC (.int 1))) [sI t.d,sI (.list (ns.map PyData.str)),none,none,none,none]=.ok _ [sI t.d,sI (.list (ns.map PyData.str)),none,none,none,none]
  generalize t.d=D at *
  wp_walk using Oi,i1,Mf
 refine Rn (p:=.o (.ls false (nmL (Ak t ns)))) (c:=cB0 t ns) ?_ rfl (by wp_walk using true_and)
 show Mv (cB0 t ns)=_
 unfold Mv A3o
 refine (if_pos (show (2<6/\3<6/\4<6/\5<6)/\2≠3/\2≠4/\2≠5/\3≠4/\5≠3/\5≠4 by decide)).trans ?_
 show (R.toS (Oi (cOp Al (Ab 0) (cC (.int 1))) (cB0 t ns)) _)=_
 rw[e0]
 show (if ((cB0 t ns).all imK=true/\(Fw (t.rows.map tD)).length<16000000/\(cB0 t ns).length=6) then (match Ab0 3 4 5 [none,some 0,some 1,some 4] lft lfq (cB0 t ns) (Fw (t.rows.map tD)) [] with
  | some gs=>SR.rt (.o (.ls false (gs.map lsI))) (cB0 t ns)
  | none=>.bad) else .bad)=_
 rw[if_pos ⟨rfl,by rw[hL];omega,rfl⟩]
 have e:Ab0 3 4 5 [none,some 0,some 1,some 4] lft lfq (cB0 t ns) (Fw (t.rows.map tD)) []=some (gsI (Ak t ns) t.rows.length):=e;rw[e,<- hz2]
 show SR.rt (.o (.ls false ((gsI (Ak t ns) (Ak t ns).length).map lsI))) _=_
 rw[A9q]
theorem A1m:∀vs:List Vl,N6 (vs.map Vl.d)=true
 | []=>rfl
 | v::vs=>by
  show (noL v.d&&N6 (vs.map Vl.d))=true
  rw[A1m vs]
  cases v <;> rfl
theorem Bd5 (vs:List Vl):noL (tD vs)=true:=A1m vs
theorem Rv:∀a:List Str,N6 (a.map PyData.str)=true
 | []=>rfl
 | x::a=>by show (true&&N6 (a.map PyData.str))=true;rw[Rv a];rfl
theorem Ak1 (h:∀d∈ds,noL d=true):N6 ds=true:=by
 induction ds with
 | nil=>rfl
 | cons d r a=>show (noL d&&N6 r)=true;grind
theorem Bd3 (t:Tb):noL t.d=true:=by
 show (N6 (t.cols.map PyData.str)&&(N6 (t.rows.map tD)&&true))=true
 rw[Rv,Ak1 λd hd=>by obtain⟨r,_,rfl⟩:=List.mem_map.mp hd;exact Bd5 r];rfl
theorem Vf {b c:Type}(p:b->Bool)(f:b->c)(l:List b):(l.filterMap λk=>if p k then some (f k) else none)=(l.filter p).map f:=by
 induction l with
 | nil=>rfl
 | cons a r d =>
  grind
theorem T5 {l:List (List Vl)}(h:l.length<=24):Good (.list (nmL l)) 2 2000000:=by
 refine (Good.lst (n:=1) (w:=60000) (k:=24) (λd hd=>?_) (by unfold nmL;rw[List.length_map];exact Nat.le_trans (Qm _) h)).mono (by decide) (by decide)
 obtain⟨q,_,rfl⟩:=List.mem_map.mp hd;have:=Yj (g:=idI l l.length q) (Nat.le_trans (Xh _ _ _) h) (A7k h);unfold lsI at this;rw[Mt];exact this
theorem Ay9 {l:List (List Vl)}{q:List Vl}(h:q∈fs l):∃i r,idI l l.length q=i::r:=by
 obtain⟨j,hj⟩:=List.getElem?_of_mem (zZ.mp h);have hm:((j:Nat):Int)∈idI l l.length q:=idI_mem.mpr ⟨j,(List.getElem?_eq_some_iff.mp hj).1,hj,rfl⟩
 cases e:idI l l.length q with
 | nil=>rw[e]at hm;cases hm
 | cons i r=>exact⟨i,r,rfl⟩
theorem A8s {l:List (List Vl)}(h:l.length<=24):(nmL l).all isG=true:=List.all_eq_true.mpr λd hd=>by
 obtain⟨q,hq,rfl⟩:=List.mem_map.mp hd;obtain⟨i,r,e⟩:=Ay9 hq;have hl:=Xh l l.length q;rw[Mt,e];rw[e,List.length_cons]at hl
 show (Ni (.int i)&&(r.map PyData.int).all Ni&&decide ((r.map PyData.int).length<7000000))=true
 rw[List.length_map,decide_eq_true (show r.length<7000000 by omega),List.all_eq_true.mpr λd hd=>by obtain⟨x,_,rfl⟩:=List.mem_map.mp hd;rfl]
 rfl
theorem Bc7 (b:Bool)(ns:List Str):okH (sqD b (ns.map PyData.str))=true:=by
 cases b with
 | false=>exact List.all_eq_true.mpr λd hd=>by obtain⟨x,_,rfl⟩:=List.mem_map.mp hd;rfl
 | true=>exact Rv ns
theorem Af8 {t:Tb}{ns:List Str}(ht:Tb.Ok t)(hn:∀x∈ns,x∈t.cols)(hl:ns.length<=30):Good (.list (ns.map PyData.str)) 1 60000:=by
 refine (Good.lst (n:=0) (w:=1921) (k:=30) (λd hd=>?_) (by rw[List.length_map];exact hl)).mono (by decide) (by decide)
 obtain⟨x,hx,rfl⟩:=List.mem_map.mp hd;exact Iz (Ah0 (An2 (ht.nms.sub x (hn x hx)))).2.2
theorem eq_self {d:PyData}{n w:Nat}(h:Good d n w)(hn:n<=40):Ca true d d=sI (.bool false):=by
 rw[Ho (h.flatB hn) (h.flatB hn),Ah9 d h.lay];rfl
abbrev agT:Ev->R Bool:=cOr (Le (Bb (cF (Bm 5) (Ae (Ab 9) (Ae (Ab 6) Ba))))) (Bb (cOp (Ca true) (cUn Ml (Ab 7)) (Ab 5)))
abbrev lw (s0 s1 s2:Option O)(t:Tb)(s4:Option O)(ns:List Str)(N:List PyData)(b:Bool)(s8 s9 s10 s11:Option O):Ev:=[s0,s1,s2,sI t.d,s4,sI (.list (ns.map PyData.str)),sI (.list N),sI (sqD b (ns.map PyData.str)),s8,s9,s10,s11]
theorem A8v {t:Tb}{ns:List Str}{b:Bool}(ht:Tb.Ok t)(hn:∀x∈ns,x∈t.cols)(hl:ns.length<=12){s0 s1 s2 s4 s8 s9 s10 s11:Option O} :
 Jp (lw s0 s1 s2 t s4 ns (nmL (Ak t ns)) b s8 s9 s10 s11)=.nx (lw s0 s1 s2 t s4 ns (nmL (Ak t ns)) b s8 none none s11):=by
 have hz2:(Ak t ns).length<=24:=by unfold Ak;rw[List.length_map];exact ht.rlen
 have a1:=Kp (b:=b) ht hn (show ns.length<=30 by omega)
 have n1:=Bd3 t;have n2:=Bc7 b ns;have g1:=A8s hz2
 have g2:(nmL (Ak t ns)).length<8000000:=by unfold nmL;rw[List.length_map];have:=Qm (Ak t ns);omega
 have e2:=Ls (n:=5) (T5 hz2) (by decide) (by decide) (by decide)
 have e3:=A1f b (ns.map PyData.str)
 have e4:=eq_self (Af8 ht hn (show ns.length<=30 by omega)) (by decide)
 generalize nmL (Ak t ns)=N at *
 unfold lw
 generalize sqD b (ns.map PyData.str)=S at *
 generalize ns.map PyData.str=L at *
 generalize t.d=D at *
 unfold Jp A6l
 refine (if_pos (show (9<12/\10<12)/\9≠10 by decide)).trans ?_
 show (if noL D=true/\okH S=true then (match cF Dg (Ae (Ab 3) (Ae (Ab 7) Ba)) [none,none,none,sI D,none,none,none,sI S,none,none,none,none] with
  | .ok (.o (.ls false ds)) _=>A2k 9 10 agT [s0,s1,s2,sI D,s4,sI (.list L),sI (.list N),sI S,s8,s9,s10,s11] ds
  | _=>.bad) else .bad)=_
 rw[if_pos ⟨n1,n2⟩]
 have q1:cF Dg (Ae (Ab 3) (Ae (Ab 7) Ba)) [none,none,none,sI D,none,none,none,sI S,none,none,none,none]=.ok (.o (.ls false N)) [none,none,none,sI D,none,none,none,sI S,none,none,none,none]:=by
  wp_walk using a1
 rw[q1]
 show A2k 9 10 agT [s0,s1,s2,sI D,s4,sI (.list L),sI (.list N),sI S,s8,s9,s10,s11] N=_
 unfold A2k;rw[if_pos ⟨g1,g2⟩];obtain⟨u0,u1,u2,u4,u8,u10,u11,hu⟩:∃u0 u1 u2 u4 u8 u10 u11,imF ([s0,s1,s2,sI D,s4,sI (.list L),sI (.list N),sI S,s8,s9,s10,s11].set 9 (sI (.list N)))=[u0,u1,u2,sI D,u4,sI (.list L),sI (.list N),sI S,u8,sI (.list N),u10,u11]:=⟨_,_,_,_,_,_,_,rfl⟩;rw[hu]
 have q2:agT [u0,u1,u2,sI D,u4,sI (.list L),sI (.list N),sI S,u8,sI (.list N),u10,u11]=.ok false [u0,u1,u2,sI D,u4,sI (.list L),sI (.list N),sI S,u8,sI (.list N),u10,u11]:=by
  wp_walk using agT,e2,e3,e4
 rw[q2]
 rfl
theorem Vx {α:Type}(p:α->Bool):∀l:List α,boolsOf (l.map λa=>PyData.bool (p a))=some (l.map p)
 | []=>rfl
 | x::l=>by
  show (boolsOf (l.map λa=>PyData.bool (p a))).map (p x::·)=_
  rw[Vx p l];rfl
theorem A6z (l:List (List Vl)):(((fs l).map λq=>decide ((nmK l l.length q).length=1)).all id)=decide ((fs l).length=l.length):=by
 have h:=At7 l
 have e:∀q,(nmK l l.length q).length=(idI l l.length q).length:=λq=>by rw[Mt,List.length_map]
 by_cases z:(fs l).length=l.length
 ·rw[decide_eq_true z,List.all_eq_true]
  intro x hx;obtain⟨q,hq,rfl⟩:=List.mem_map.mp hx;rw[e q];exact decide_eq_true (h.mp z q hq)
 ·rw[decide_eq_false z]
  cases ea:(((fs l).map λq=>decide ((nmK l l.length q).length=1)).all id) with
  | false=>rfl
  | true =>
   refine absurd (h.mpr λq hq=>?_) z
   have:=List.all_eq_true.mp ea _ (List.mem_map.mpr ⟨q,hq,rfl⟩);have this:decide ((nmK l l.length q).length=1)=true:=this;rw[e q]at this;exact of_decide_eq_true this
theorem A4e {l:List (List Vl)}(h24:l.length<=24){c:Ev}(hc:c[6]?=some (sI (.list (nmL l)))) :
 cUn Iv (cLC [none] (Bw (Ab 6)) (cgN 0) Bp (cOp (Ca false) (Ed (Ab 0)) (cC (.int 1)))) c=.ok (.o (.im (.bool (decide ((fs l).length=l.length))))) c:=by
 obtain⟨cI,e,u,rfl⟩:=Ii (g:=cgN 0) (ft:=Bp) (fe:=cOp (Ca false) (Ed (Ab 0)) (cC (.int 1))) (I:=λc=>∃u,c=[u]) (f:=λq=>PyData.list (nmK l l.length q)) (G:=λq=>PyData.bool (decide ((nmK l l.length q).length=1))) (xs:=fs l) (acc:=[]) (c:=[none]) ⟨none,rfl⟩
  (λq c hx hI=>by
   obtain⟨u,rfl⟩:=hI
   refine⟨[sI (.list (nmK l l.length q))],?_,_,rfl⟩
   generalize nmK l l.length q=g;have l1:Cw [.list g]=sI (.int g.length):=rfl
   have e4:Ca false (.int (g.length:Nat)) (.int 1)=sI (.bool (decide (g.length=1))):=by rw[Cy];exact congrArg (λb:Bool=>some (O.im (PyData.bool b))) (decide_eq_decide.mpr ⟨λh=>by omega,λh=>by omega⟩)
   wp_walk using l1,e4)
 have hS:Bw (Ab 6) c=.ok (nmL l) c:=by
  unfold Bw Ab;simp only[hc,R.bind_ok,nrm];rfl
 have e2:cLC [none] (Bw (Ab 6)) (cgN 0) Bp (cOp (Ca false) (Ed (Ab 0)) (cC (.int 1))) c=.ok (.o (.ls false ((fs l).map λq=>PyData.bool (decide ((nmK l l.length q).length=1))))) c :=
  Fy (ds:=nmL l) (c1:=c) hS (by unfold nmL;rw[List.length_map];have:=Qm l;omega) (by simpa[cIn,O.flag] using e) rfl
 have e3:Iv (.list ((fs l).map λq=>PyData.bool (decide ((nmK l l.length q).length=1))))=sI (.bool (decide ((fs l).length=l.length))):=by
  show (boolsOf _).map _=_
  rw[Vx,Option.map_some,A6z]
 unfold cUn;rw[e2]
 wp_walk using e3
theorem Bf5 {i:Int}(h:0<=i/\i<100):Dl (.int i)=true:=by
 refine (Iz (v:=.int i) ?_).flatB (by decide)
 show (decide (-1000000000000<=(i:Int))&&decide ((i:Int)<=1000000000000))=true
 rw[decide_eq_true (by omega),decide_eq_true (by omega)];rfl
theorem Am2 {i:Int}{g:List Int}(h:0<=i/\i<100):Gf false (.int i) (.list (g.map PyData.int))=sI (.bool (decide (i∈g))):=by
 show (if Dl (.int i)&&PyData.canLayAll0 (g.map PyData.int) then some (O.im (.bool ((g.map PyData.int).any λe=>PyData.eqv e (.int i)))) else none)=_
 rw[Bf5 h,Rh (λd hd=>by obtain⟨u,hu,rfl⟩:=List.mem_map.mp hd;rfl)]
 have:((g.map PyData.int).any λe=>PyData.eqv e (.int i))=decide (i∈g):=by
  rw[List.any_map]
  by_cases z:i∈g
  ·rw[decide_eq_true z];exact List.any_eq_true.mpr ⟨i,z,by show (i==i)=true;simp⟩
  ·rw[decide_eq_false z]
   refine List.any_eq_false.mpr λx hx e=>z ?_
   have e:(x==i)=true:=e;rw[<- (beq_iff_eq.mp e)];exact hx
 rw[this];rfl
theorem Aa7 {t:Tb}{ns ex:List Str}{i:Nat}{q:List Vl}(h:(Ak t (ns++ex))[i]?=some q):(Ak t ns)[i]?=some (q.take ns.length):=by
 unfold Ak at h ⊢;rw[List.getElem?_map]at h ⊢;obtain⟨r,hr,rfl⟩:=Option.map_eq_some_iff.mp h;rw[hr]
 show some _=some _
 congr 1
 unfold pick
 rw[List.map_append,List.take_left' (by rw[List.length_map])]
theorem A8q {l:List (List Vl)}(h24:l.length<=24){h z:Nat}{q:List Vl}(hh:l[h]?=some q)(hz:l[z]?=some q){g:List Int}(e0:g[0]?=some ((h:Nat):Int))(e1:Al (.list (g.map PyData.int)) (.int (-1))=sI (.int (z:Nat))){s0 s1 s2 s3 s4 s5 s7 s8 s9 s11:Option O} :
 Jo [s0,s1,s2,s3,s4,s5,sI (.list (nmL l)),s7,s8,s9,sI (.list (g.map PyData.int)),s11]=.nx [s0,s1,s2,s3,s4,s5,sI (.list (nmL l)),s7,s8,s9,sI (.list (g.map PyData.int)),s11]:=by
 have hlt:=(List.getElem?_eq_some_iff.mp hh).1;have zlt:=(List.getElem?_eq_some_iff.mp hz).1
 have i0:Al (.list (g.map PyData.int)) (.int 0)=sI (.int (h:Nat)):=by
  show (atI (g.map PyData.int) ((0:Nat):Int)).map O.im=_
  rw[Fx (j:=0) (by rw[List.getElem?_map,e0];rfl)];rfl
 have neg1:U3 (.int 1)=sI (.int (-1)):=rfl
 have mq:∀(j:Nat),j<l.length->l[j]?=some q->∀q',decide (((j:Nat):Int)∈idI l l.length q')=decide (q'=q):=λj hj e q'=>by
  by_cases y:q'=q
  ·subst y;rw[decide_eq_true rfl,decide_eq_true (idI_mem.mpr ⟨j,hj,e,rfl⟩)]
  ·rw[decide_eq_false y,decide_eq_false λw=>by
    obtain⟨j',_,w2,w3⟩:=idI_mem.mp w
    have:j=j':=by omega
    subst this
    rw[e]at w2;cases w2;exact y rfl]
 obtain⟨cI,e,u,rfl⟩:=Lq (g:=cgN 0) (ft:=Y9 (Bb (cOp (Gf false) (cOp Al (Ab 1) (cC (.int 0))) (Ab 0))) (Bb (cOp (Gf false) (cOp Al (Ab 1) (cUn U3 (cC (.int 1)))) (Ab 0)))) (fe:=Ab 0) (I:=λc=>∃u,c=[u,sI (.list (g.map PyData.int))]) (f:=λq'=>PyData.list (nmK l l.length q')) (G:=λq'=>if decide (q'=q)=true then some (.list (nmK l l.length q')) else none) (xs:=fs l) (acc:=[]) (c:=[none,sI (.list (g.map PyData.int))]) ⟨none,rfl⟩
  (λq' c hx hI=>by
   obtain⟨u,rfl⟩:=hI
   refine⟨[sI (.list (nmK l l.length q')),sI (.list (g.map PyData.int))],?_,_,rfl⟩
   have a1:=Am2 (i:=(h:Nat)) (g:=idI l l.length q') (by omega)
   have a2:=Am2 (i:=(z:Nat)) (g:=idI l l.length q') (by omega)
   rw[mq h hlt hh,<- Mt]at a1;rw[mq z zlt hz,<- Mt]at a2
   generalize nmK l l.length q'=K' at *
   generalize g.map PyData.int=G at *
   by_cases y:q'=q
   ·rw[decide_eq_true y]at a1 a2 ⊢
    wp_walk using i0,e1,neg1,a1,a2
   ·rw[decide_eq_false y]at a1 a2 ⊢
    wp_walk using i0,e1,neg1,a1,a2)
 rw[Vf,Ai9 (A2c l) (zZ.mpr (List.mem_of_getElem? hh))]at e
 have e2:cLC [none,some 10] (Bw (Ab 6)) (cgN 0) (Y9 (Bb (cOp (Gf false) (cOp Al (Ab 1) (cC (.int 0))) (Ab 0))) (Bb (cOp (Gf false) (cOp Al (Ab 1) (cUn U3 (cC (.int 1)))) (Ab 0)))) (Ab 0) [s0,s1,s2,s3,s4,s5,sI (.list (nmL l)),s7,s8,s9,sI (.list (g.map PyData.int)),s11]=.ok (.o (.ls false [.list (nmK l l.length q)])) [s0,s1,s2,s3,s4,s5,sI (.list (nmL l)),s7,s8,s9,sI (.list (g.map PyData.int)),s11] :=
  Fy (ds:=nmL l) (c1:=[s0,s1,s2,s3,s4,s5,sI (.list (nmL l)),s7,s8,s9,sI (.list (g.map PyData.int)),s11]) (by wp_walk using Bw,U.Mf) (by unfold nmL;rw[List.length_map];have:=Qm l;omega) e rfl
 have l1:Cw [.list [.list (nmK l l.length q)]]=sI (.int 1):=rfl
 have q4:Ca true (.int 1) (.int 1)=sI (.bool false):=by rfl
 unfold Jo
 generalize cLC [none,some 10] (Bw (Ab 6)) (cgN 0) (Y9 (Bb (cOp (Gf false) (cOp Al (Ab 1) (cC (.int 0))) (Ab 0))) (Bb (cOp (Gf false) (cOp Al (Ab 1) (cUn U3 (cC (.int 1)))) (Ab 0)))) (Ab 0)=TC at *
 generalize nmK l l.length q=K' at *
 generalize nmL l=N at *
 wp_walk using e2,l1,q4
theorem A1g {g:List Int}{h:Int}{r:List Int}(e:g=h::r):∃z,z∈g/\Al (.list (g.map PyData.int)) (.int (-1))=sI (.int z):=by
 have hn:g≠[]:=by rw[e];simp
 obtain⟨xs,x,ex⟩:∃xs x,g=xs++[x]:=⟨g.dropLast,g.getLast hn,(List.dropLast_concat_getLast hn).symm⟩;subst ex
 refine⟨x,by simp,?_⟩
 rw[List.map_append]
 show (atI (xs.map PyData.int++[PyData.int x]) (-1)).map O.im=_
 rw[U.Yq];rfl
theorem Ap4 {t:Tb}{ns ex:List Str}(ht:Tb.Ok t){s0 s1 s2 s3 s4 s5 s7 s8 s9 s10 s11:Option O}:∃u,forL (cgN 10) Jo (nmL (Ak t (ns++ex))) [s0,s1,s2,s3,s4,s5,sI (.list (nmL (Ak t ns))),s7,s8,s9,s10,s11]=.nx [s0,s1,s2,s3,s4,s5,sI (.list (nmL (Ak t ns))),s7,s8,s9,u,s11]:=by
 have h24:(Ak t ns).length<=24:=by unfold Ak;rw[List.length_map];exact ht.rlen
 obtain⟨c',e,u,rfl⟩:=Hb (g:=cgN 10) (body:=Jo) (items:=nmL (Ak t (ns++ex))) (n:=0) (c:=[s0,s1,s2,s3,s4,s5,sI (.list (nmL (Ak t ns))),s7,s8,s9,s10,s11])
  (P:=λ_ c=>∃u,c=[s0,s1,s2,s3,s4,s5,sI (.list (nmL (Ak t ns))),s7,s8,s9,u,s11]) ⟨s10,rfl⟩ (λk d c hd hP=>by
   obtain⟨u,rfl⟩:=hP;obtain⟨q,hq,rfl⟩:=List.mem_map.mp (List.mem_of_getElem? hd);obtain⟨i,r,ei⟩:=Ay9 hq;obtain⟨z,hz,ez⟩:=A1g ei
   obtain⟨jh,_,hh,rfl⟩:=idI_mem.mp (show i∈idI _ _ q by rw[ei];exact .head _)
   obtain⟨jz,_,hzz,rfl⟩:=idI_mem.mp hz
   have one:=A8q h24 (Aa7 hh) (Aa7 hzz) (g:=idI (Ak t (ns++ex)) (Ak t (ns++ex)).length q) (by rw[ei];rfl) ez (s0:=s0) (s1:=s1) (s2:=s2) (s3:=s3) (s4:=s4) (s5:=s5) (s7:=s7) (s8:=s8) (s9:=s9) (s11:=s11)
   rw[<- Mt]at one
   refine⟨_,.inl (?_:Kh _ _ _ _=.nx [s0,s1,s2,s3,s4,s5,sI (.list (nmL (Ak t ns))),s7,s8,s9,sI (.list (nmK (Ak t (ns++ex)) (Ak t (ns++ex)).length q)),s11]),_,rfl⟩
   generalize nmK (Ak t (ns++ex)) (Ak t (ns++ex)).length q=K' at *
   generalize nmL (Ak t ns)=N at *
   generalize Jo=G at *
   wp_walk using one)
 exact⟨u,e⟩
theorem Aw8 {t:Tb}{x:Str}{ns:List Str}(ht:Tb.Ok t)(hx:x∈t.cols)(hn:∀x∈ns,x∈t.cols):Gf true (.str x) (.list (ns.map PyData.str))=sI (.bool (!decide (x∈ns))):=by
 have hs:∀y∈ns,y∈names12:=λy hy=>ht.nms.sub y (hn y hy)
 have h:=An5 (x:=x) (cols:=ns) (An2 (ht.nms.sub x hx)) hs;exact h
theorem A3u {t:Tb}{ns:List Str}(ht:Tb.Ok t)(hn:∀x∈ns,x∈t.cols)(hl:ns.length<=12){s0 s1 s2 s4 s6 s7 s8 s9 s10 s11:Option O}:∃ex:List Str,(∀x∈ex,x∈t.cols)/\ex.length<=12 /\
 cOp Ek (Ab 5) (cSl Qg (cLC [none,some 5] (Bw (cOp Al (Ab 3) (cC (.int 0)))) (cgN 0) (Bb (cOp (Gf true) (Ab 0) (Ab 1))) (Ab 0)) cON (cOS (cC (.int 1)))) [s0,s1,s2,sI t.d,s4,sI (.list (ns.map PyData.str)),s6,s7,s8,s9,s10,s11] =
  .ok (.o (.ls false ((ns++ex).map PyData.str))) [s0,s1,s2,sI t.d,s4,sI (.list (ns.map PyData.str)),s6,s7,s8,s9,s10,s11]:=by
 have hc:=ht.clen;have i0:Al t.d (.int 0)=sI (.tuple (t.cols.map PyData.str)):=rfl
 obtain⟨cI,e,u,rfl⟩:=Lq (g:=cgN 0) (ft:=Bb (cOp (Gf true) (Ab 0) (Ab 1))) (fe:=Ab 0) (I:=λc=>∃u,c=[u,sI (.list (ns.map PyData.str))]) (f:=PyData.str) (G:=λx=>if (!decide (x∈ns))=true then some (.str x) else none) (xs:=t.cols) (acc:=[]) (c:=[none,sI (.list (ns.map PyData.str))]) ⟨none,rfl⟩
  (λx c hx hI=>by
   obtain⟨u,rfl⟩:=hI
   refine⟨[sI (.str x),sI (.list (ns.map PyData.str))],?_,_,rfl⟩
   have a1:=Aw8 ht hx hn
   generalize PyData.list (ns.map PyData.str)=G at *
   by_cases y:x∈ns
   ·rw[decide_eq_true y]at a1 ⊢
    wp_walk using a1
   ·rw[decide_eq_false y]at a1 ⊢
    wp_walk using a1)
 rw[Vf]at e
 have hF:(t.cols.filter λx=>!decide (x∈ns)).length<=12:=Nat.le_trans (List.length_filter_le _ _) hc
 have hm:∀x∈t.cols.filter λx=>!decide (x∈ns),x∈t.cols:=λx hx=>(List.mem_filter.mp hx).1
 generalize (t.cols.filter λx=>!decide (x∈ns))=F at *
 have e2:cLC [none,some 5] (Bw (cOp Al (Ab 3) (cC (.int 0)))) (cgN 0) (Bb (cOp (Gf true) (Ab 0) (Ab 1))) (Ab 0) [s0,s1,s2,sI t.d,s4,sI (.list (ns.map PyData.str)),s6,s7,s8,s9,s10,s11]=.ok (.o (.ls false (F.map PyData.str))) [s0,s1,s2,sI t.d,s4,sI (.list (ns.map PyData.str)),s6,s7,s8,s9,s10,s11]:=by
  refine Fy (ds:=t.cols.map PyData.str) (c1:=[s0,s1,s2,sI t.d,s4,sI (.list (ns.map PyData.str)),s6,s7,s8,s9,s10,s11]) ?_ (by rw[List.length_map];omega) e rfl
  generalize t.d=D at *
  wp_walk using Bw,i0,U.Mf
 have cl:=V6 F none (some 1)
 have s1':Qg (.list (F.map PyData.str)) none (some 1)=sFa ((Jj F none (some 1)).map PyData.str):=by
  show some (O.ls false (cutD (F.map PyData.str) none (some 1)))=_
  rw[Wh]
 have a1:Ek (.list (ns.map PyData.str)) (.list ((Jj F none (some 1)).map PyData.str))=sFa ((ns++Jj F none (some 1)).map PyData.str):=by
  show (if (ns.map PyData.str).length+((Jj F none (some 1)).map PyData.str).length<=16000000 then some (O.ls false (ns.map PyData.str++(Jj F none (some 1)).map PyData.str)) else none)=_
  rw[if_pos (by rw[List.length_map,List.length_map];omega),List.map_append]
 refine⟨Jj F none (some 1),λx hx=>hm x (X7 hx),by omega,?_⟩
 generalize Jj F none (some 1)=C at *
 generalize cLC [none,some 5] (Bw (cOp Al (Ab 3) (cC (.int 0)))) (cgN 0) (Bb (cOp (Gf true) (Ab 0) (Ab 1))) (Ab 0)=TC at *
 generalize t.d=D at *
 generalize (ns++C).map PyData.str=A at *
 generalize ns.map PyData.str=B at *
 generalize C.map PyData.str=E at *
 wp_walk using e2,s1',a1
theorem Vw (b:Bool):Good (.bool b) 0 1921:=by cases b <;> exact⟨rfl,rfl,rfl,Nat.le_refl _,by decide⟩
theorem Au4 (ns:List Str){r:Int}(h0:0<=r)(h1:r<2):∃b,Al (.list [.list (ns.map PyData.str),.tuple (ns.map PyData.str)]) (.int r)=sI (sqD b (ns.map PyData.str)):=by
 obtain rfl | rfl:r=0\/r=1:=by omega
 ·exact⟨false,rfl⟩
 ·exact⟨true,rfl⟩
theorem Ae4 {t:Tb}{ns:List Str}{b:Bool}(ht:Tb.Ok t)(hn:∀x∈ns,x∈t.cols)(hl:ns.length<=12){s0 s1 s2 s4 s8 s9 s10 s11:Option O} :
 ∃u8 u9 u10,forL (cgN 8) Jp (Ju 0 2) (lw s0 s1 s2 t s4 ns (nmL (Ak t ns)) b s8 s9 s10 s11)=.nx (lw s0 s1 s2 t s4 ns (nmL (Ak t ns)) b u8 u9 u10 s11):=by
 obtain⟨c',e,u8,u9,u10,rfl⟩:=Hb (g:=cgN 8) (body:=Jp) (items:=Ju 0 2) (n:=0) (c:=lw s0 s1 s2 t s4 ns (nmL (Ak t ns)) b s8 s9 s10 s11)
  (P:=λ_ c=>∃u8 u9 u10,c=lw s0 s1 s2 t s4 ns (nmL (Ak t ns)) b u8 u9 u10 s11) ⟨s8,s9,s10,rfl⟩ (λk d c hd hP=>by
   obtain⟨u8,u9,u10,rfl⟩:=hP;have e:=A8v (b:=b) ht hn hl (s0:=s0) (s1:=s1) (s2:=s2) (s4:=s4) (s8:=sI d) (s9:=u9) (s10:=u10) (s11:=s11)
   refine⟨_,.inl (?_:Kh _ _ _ _=.nx (lw s0 s1 s2 t s4 ns (nmL (Ak t ns)) b (sI d) none none s11)),_,_,_,rfl⟩
   unfold lw at e ⊢
   generalize nmL (Ak t ns)=N at *
   generalize sqD b (ns.map PyData.str)=S at *
   generalize ns.map PyData.str=L at *
   generalize t.d=D at *
   generalize Jp=G at *
   wp_walk using e)
 exact⟨u8,u9,u10,e⟩
theorem A4o {t:Tb}{n:Nat}{ds:List PyData}(ht:Tb.Ok t)(hb:Bx n ds)(hn:n<2 ^ 35){s0 s1 s4 s5 s6 s7 s8 s9 s10 s11:Option O} :
 ∃d1 u5 u6 u7 u8 u9 u10 u11,Bx (n+15) d1/\Kw [s0,s1,sFa ds,sI t.d,s4,s5,s6,s7,s8,s9,s10,s11]=.nx [s0,s1,sFa d1,sI t.d,s4,u5,u6,u7,u8,u9,u10,u11]:=by
 obtain⟨ns,d1,nd,hs,hl,b1,e1⟩:=Kl (b:=true) hb (by omega) ht.clen ht.nms.nd
 obtain⟨r,d2,b2,r0,r1,e2⟩:=Dw (m:=2) b1 (by omega) (by decide) (by decide)
 obtain⟨b,e3⟩:=Au4 ns r0 r1
 have hz:(Ak t ns).length=t.rows.length:=by unfold Ak;rw[List.length_map]
 have h24:=ht.rlen;have i0:Al t.d (.int 0)=sI (.tuple (t.cols.map PyData.str)):=rfl;have e4:=Ox ht hs hl;obtain⟨u8,u9,u10,e5⟩:=Ae4 (b:=b) ht hs hl (s0:=s0) (s1:=s1) (s2:=sFa d2) (s4:=s4) (s8:=s8) (s9:=s9) (s10:=s10) (s11:=s11);have e6:=Vj (b:=b) ht hs hl;rw[<- hz]at e6
 have e7:=A4e (l:=Ak t ns) (by omega) (c:=lw s0 s1 (sFa d2) t s4 ns (nmL (Ak t ns)) b u8 u9 u10 s11) rfl
 have e8:=Ls (n:=5) (Vw (decide ((fs (Ak t ns)).length=(Ak t ns).length))) (by decide) (by decide) (by decide)
 obtain⟨ex,hx,lx,e9⟩:=A3u ht hs hl (s0:=s0) (s1:=s1) (s2:=sFa d2) (s4:=s4) (s6:=sI (.list (nmL (Ak t ns)))) (s7:=sI (sqD b (ns.map PyData.str))) (s8:=u8) (s9:=u9) (s10:=u10) (s11:=s11)
 have e10:=Kp (b:=false) (ns:=ns++ex) ht (λx h=>by rcases List.mem_append.mp h with z | z;exact hs x z;exact hx x z) (by rw[List.length_append];omega)
 obtain⟨v10,e11⟩:=Ap4 (ns:=ns) (ex:=ex) ht (s0:=s0) (s1:=s1) (s2:=sFa d2) (s3:=sI t.d) (s4:=s4) (s5:=sI (.list (ns.map PyData.str))) (s7:=sI (sqD b (ns.map PyData.str))) (s8:=u8) (s9:=u9) (s10:=u10) (s11:=sI (.list ((ns++ex).map PyData.str)));have e10:Dg [.im t.d,.im (.list ((ns++ex).map PyData.str))]=.ret (.ls false (nmL (Ak t (ns++ex)))) [.im t.d,.im (.list ((ns++ex).map PyData.str))]:=e10;have e1:Cr [.ls true ds,.im (.tuple (t.cols.map PyData.str))]=.ret (.ls false (ns.map PyData.str)) [.ls true d1,.im (.tuple (t.cols.map PyData.str))]:=e1
 generalize decide ((fs (Ak t ns)).length=(Ak t ns).length)=Q at *
 have hT:∃TO,TO=cUn Iv (cLC [none] (Bw (Ab 6)) (cgN 0) Bp (cOp (Ca false) (Ed (Ab 0)) (cC (.int 1)))):=⟨_,rfl⟩;obtain⟨TO,hT⟩:=hT;have hM:∃TM,TM=cOp Ek (Ab 5) (cSl Qg (cLC [none,some 5] (Bw (cOp Al (Ab 3) (cC (.int 0)))) (cgN 0) (Bb (cOp (Gf true) (Ab 0) (Ab 1))) (Ab 0)) cON (cOS (cC (.int 1)))):=⟨_,rfl⟩;obtain⟨TM,hM⟩:=hM;unfold lw at e5 e7;unfold Kw;rw[<- hT]at e7 ⊢;rw[<- hM]at e9 ⊢
 refine⟨d2,sI (.list (ns.map PyData.str)),sI (.list (nmL (Ak t ns))),sI (sqD b (ns.map PyData.str)),u8,u9,v10,sI (.list ((ns++ex).map PyData.str)),b2.mono (by omega),?_⟩
 generalize nmL (Ak t (ns++ex))=N2 at *
 generalize nmL (Ak t ns)=N at *
 generalize sqD b (ns.map PyData.str)=S at *
 generalize (ns++ex).map PyData.str=A at *
 generalize ns.map PyData.str=L at *
 generalize t.cols.map PyData.str=C at *
 generalize t.d=D at *
 refine (Dq (c':=[s0,s1,sFa d1,sI D,s4,sI (.list L),s6,s7,s8,s9,s10,s11]) (by wp_walk using i0,e1)).trans ?_
 refine (Dq (c':=[s0,s1,sFa d1,sI D,s4,sI (.list L),sI (.list N),s7,s8,s9,s10,s11]) (by wp_walk using e4)).trans ?_
 refine (Dq (c':=[s0,s1,sFa d2,sI D,s4,sI (.list L),sI (.list N),sI S,s8,s9,s10,s11]) (by wp_walk using e2,e3,Ml,Fp)).trans ?_
 refine (Dq ((Ly (ds:=Ju 0 2) (c1:=[s0,s1,sFa d2,sI D,s4,sI (.list L),sI (.list N),sI S,s8,s9,s10,s11]) rfl).trans e5)).trans ?_
 refine (Dq (c':=[s0,s1,sFa d2,sI D,s4,sI (.list L),sI (.list N),sI S,u8,u9,u10,s11]) (by wp_walk using e6,e7,e8)).trans ?_
 refine (Dq (c':=[s0,s1,sFa d2,sI D,s4,sI (.list L),sI (.list N),sI S,u8,u9,u10,sI (.list A)]) (by wp_walk using e9)).trans ?_
 refine (Ly (ds:=N2) (c1:=[s0,s1,sFa d2,sI D,s4,sI (.list L),sI (.list N),sI S,u8,u9,u10,sI (.list A)]) ?_).trans e11
 wp_walk using Bw,e10,U.Mf
theorem Tb.Ok.other {t:Tb}{rows:List (List Vl)}(ht:Tb.Ok t)(h:∀r∈rows,r∈t.rows)(hl:rows.length<=24):Tb.Ok ⟨t.cols,rows⟩:=⟨ht.nms,ht.cpos,ht.clen,λr hr=>ht.rows r (h r hr),hl⟩
theorem A1d {t:Tb}{ns:List Str}(ht:Tb.Ok t)(hs:∀x∈ns,x∈t.cols)(hl:ns.length<=12){s0 s1 s2 s3 s4 s6 s7 s8 s9 s11:Option O} :
 Lf [s0,s1,s2,s3,s4,sI (.list (ns.map PyData.str)),s6,s7,s8,s9,sI t.d,s11]=.nx [s0,s1,s2,s3,s4,sI (.list (ns.map PyData.str)),sI (.list (nmL (Ak t ns))),s7,s8,s9,sI t.d,s11]:=by
 have h24:=ht.rlen
 have hz:(Ak t ns).length=t.rows.length:=by unfold Ak;rw[List.length_map]
 have e1:=Ox ht hs hl
 have e2:=Kp (b:=false) ht hs (show ns.length<=30 by omega)
 have e3:=Vj (b:=false) ht hs hl;have e2:Dg [.im t.d,.im (.list (ns.map PyData.str))]=.ret (.ls false (nmL (Ak t ns))) [.im t.d,.im (.list (ns.map PyData.str))]:=e2;have e3:Gw [.im t.d,.im (.list (ns.map PyData.str))]=.ret (.im (.bool (decide ((fs (Ak t ns)).length=t.rows.length)))) [.im t.d,.im (.list (ns.map PyData.str))]:=e3
 have e4:=Ls (n:=5) (T5 (l:=Ak t ns) (by omega)) (by decide) (by decide) (by decide)
 have e5:=eq_self (Vw (decide ((fs (Ak t ns)).length=t.rows.length))) (by decide)
 have i1:Al t.d (.int 1)=sI (.tuple (t.rows.map tD)):=rfl
 have l1:Cw [.list (nmL (Ak t ns))]=sI (.int (fs (Ak t ns)).length):=by show some (O.im (.int ((nmL (Ak t ns)).length:Nat)))=_;unfold nmL;rw[List.length_map]
 have l2:Cw [.tuple (t.rows.map tD)]=sI (.int t.rows.length):=by show some (O.im (.int ((t.rows.map tD).length:Nat)))=_;rw[List.length_map]
 have e6:Ca false (.int ((fs (Ak t ns)).length:Nat)) (.int (t.rows.length:Nat))=sI (.bool (decide ((fs (Ak t ns)).length=t.rows.length))):=by rw[Cy];exact congrArg (λb:Bool=>some (O.im (PyData.bool b))) (decide_eq_decide.mpr ⟨λh=>by omega,λh=>by omega⟩)
 unfold Lf
 generalize decide ((fs (Ak t ns)).length=t.rows.length)=Q at *
 generalize (fs (Ak t ns)).length=m at *
 generalize nmL (Ak t ns)=N at *
 generalize PyData.tuple (t.rows.map tD)=RS at *
 generalize ns.map PyData.str=L at *
 generalize t.rows.length=m2 at *
 generalize t.d=D at *
 wp_walk using e1,e2,e3,e4,e5,e6,i1,l1,l2
theorem Ay0 {α:Type}[DecidableEq α](a:α):∀n:Nat,fs (List.replicate (n+1) a)=[a]
 | 0=>rfl
 | n+1=>by
  rw[List.replicate_succ',P0,Ay0 a n];exact Lb (.head _)
theorem A9w {α:Type}[DecidableEq α](a:α)(n:Nat):nmK (List.replicate n a) n a=(List.range n).map λk=>PyData.int ((k:Nat):Int):=by
 unfold nmK
 rw[List.filter_eq_self.mpr λi hi=>decide_eq_true (by rw[List.getElem?_replicate,if_pos (List.mem_range.mp hi)])]
theorem Z8 (t:Tb):Ak t []=List.replicate t.rows.length []:=by
 unfold Ak;rw[List.eq_replicate_iff]
 exact⟨List.length_map ..,λb hb=>by obtain⟨r,_,rfl⟩:=List.mem_map.mp hb;rfl⟩
theorem A4l {t:Tb}(ht:Tb.Ok t){s0 s1 s2 s4 s5 s6 s7 s8 s9 s10 s11:Option O} :
 cIf (Le (Bb (cF (Bm 5) (Ae (cF Dg (Ae (Ab 3) (Ae (Im Ba) Ba))) (Ae (cOp Tq (Im (Ae (cUn Xe (Ed (cOp Al (Ab 3) (cC (.int 1))))) Ba)) (cUn Vy (cOp (Ca true) (cOp Al (Ab 3) (cC (.int 1))) (Zc Ba)))) Ba))))) (Df (cC (.bool false))) Dm [s0,s1,s2,sI t.d,s4,s5,s6,s7,s8,s9,s10,s11] =
  .nx [s0,s1,s2,sI t.d,s4,s5,s6,s7,s8,s9,s10,s11]:=by
 have h24:=ht.rlen
 have e1:=Kp (b:=false) (ns:=[]) ht (λx h=>nomatch h) (Nat.zero_le _)
 have e1:Dg [.im t.d,.im (.list [])]=.ret (.ls false (nmL (Ak t []))) [.im t.d,.im (.list [])]:=e1
 have e2:=Ls (n:=5) (T5 (l:=Ak t []) (by rw[Z8,List.length_replicate];omega)) (by decide) (by decide) (by decide)
 have i1:Al t.d (.int 1)=sI (.tuple (t.rows.map tD)):=rfl
 have l1:Cw [.tuple (t.rows.map tD)]=sI (.int t.rows.length):=by show some (O.im (.int ((t.rows.map tD).length:Nat)))=_;rw[List.length_map]
 have g:Good (.tuple (t.rows.map tD)) 2 600000:=by
  refine (Good.tup (n:=1) (w:=1923*12+4) (k:=24) (λd hd=>?_) (by rw[List.length_map];exact h24)).mono (by decide) (by decide)
  obtain⟨r,hr,rfl⟩:=List.mem_map.mp hd
  exact Ro (ht.rows r hr).2 (by rw[(ht.rows r hr).1];exact ht.clen)
 have e3:Ca true (.tuple (t.rows.map tD)) (.tuple [])=sI (.bool (decide (t.rows.length≠0))):=by
  rw[Ho (g.flatB (by decide)) rfl]
  cases t.rows <;> rfl
 have e4:Xe (.int (t.rows.length:Nat))=sFa ((List.range t.rows.length).map λk=>.int ((k:Nat):Int)):=by
  show (if (0:Int)<=(t.rows.length:Int)/\(t.rows.length:Int)<=2 ^ 24 then some (O.ls false ((List.range ((t.rows.length:Int)).toNat).map λk=>.int ((k:Nat):Int))) else none)=_
  rw[if_pos (by omega),Int.toNat_natCast]
 have e5:∃k:Int,Vy (.bool (decide (t.rows.length≠0)))=sI (.int k)/\Tq (.list [.list ((List.range t.rows.length).map λk=>.int ((k:Nat):Int))]) (.int k)=sFa (nmL (Ak t [])):=by
  rw[Z8]
  cases hr:t.rows.length with
  | zero=>exact⟨0,rfl,rfl⟩
  | succ m =>
   refine⟨1,rfl,?_⟩
   unfold nmL;rw[Ay0,List.length_replicate,List.map_cons,List.map_nil,A9w];rfl
 obtain⟨k,e5,e6⟩:=e5
 generalize nmL (Ak t [])=N at *
 generalize PyData.tuple (t.rows.map tD)=RS at *
 generalize decide (t.rows.length≠0)=Q at *
 generalize ((List.range t.rows.length).map λk=>PyData.int ((k:Nat):Int))=I at *
 generalize t.rows.length=m at *
 generalize t.d=D at *
 wp_walk using e1,e2,e3,e4,e5,e6,i1,l1
theorem A5h {ns:List Int}{k:Nat}{s1 s2 s3 s4 s5 s6 s7 s8 s9 s10 s11:Option O}(hk:k<=63):∃u2 u3 u4 u5 u6 u7 u8 u9 u10 u11,Kh (cgN 1) Lh (.int (0+(k:Int))) [some (.sc ns),s1,s2,s3,s4,s5,s6,s7,s8,s9,s10,s11]=.nx [some (.sc ns),sI (.int (0+(k:Int))),u2,u3,u4,u5,u6,u7,u8,u9,u10,u11]:=by
 obtain⟨ds,b0,e0⟩:=Bd2 (ns:=ns) hk
 obtain⟨t,d1,ht,b1,e1⟩:=Ws b0 (by decide)
 have h24:=ht.rlen
 obtain⟨c',e2,d2,u4,u5,u6,u7,u8,u9,u10,u11,b2,rfl⟩:=Hb (g:=cgN 4) (body:=Kw) (items:=Ju 0 3) (n:=0) (c:=[some (.sc ns),sI (.int (0+(k:Int))),sFa d1,sI t.d,s4,s5,s6,s7,s8,s9,s10,s11])
  (P:=λj c=>∃d u4 u5 u6 u7 u8 u9 u10 u11,Bx (0+1004+15*j) d/\c=[some (.sc ns),sI (.int (0+(k:Int))),sFa d,sI t.d,u4,u5,u6,u7,u8,u9,u10,u11]) ⟨d1,s4,s5,s6,s7,s8,s9,s10,s11,b1,rfl⟩ (λj d c hd hP=>by
   rw[Nat.zero_add]at hP ⊢;obtain⟨d,u4,u5,u6,u7,u8,u9,u10,u11,b,rfl⟩:=hP;obtain⟨rfl,hj⟩:=O4 hd
   obtain⟨d2,v5,v6,v7,v8,v9,v10,v11,b',e⟩:=A4o (s0:=some (.sc ns)) (s1:=sI (.int (0+(k:Int)))) (s4:=sI (.int (0+(j:Nat)))) (s5:=u5) (s6:=u6) (s7:=u7) (s8:=u8) (s9:=u9) (s10:=u10) (s11:=u11) ht b (by omega)
   refine⟨_,.inl (?_:Kh _ _ _ _=.nx [some (.sc ns),sI (.int (0+(k:Int))),sFa d2,sI t.d,sI (.int (0+(j:Nat))),v5,v6,v7,v8,v9,v10,v11]),d2,_,v5,v6,v7,v8,v9,v10,v11,b'.mono (by omega),rfl⟩
   generalize Kw=G at *
   generalize t.d=D at *
   wp_walk using e)
 obtain⟨nm,d3,nd,hs,hl,b3,e3⟩:=Kl (b:=true) b2 (by rw[Oe];decide) ht.clen ht.nms.nd
 have e3:Cr [.ls true d2,.im (.tuple (t.cols.map PyData.str))]=.ret (.ls false (nm.map PyData.str)) [.ls true d3,.im (.tuple (t.cols.map PyData.str))]:=e3;have i0:Al t.d (.int 0)=sI (.tuple (t.cols.map PyData.str)):=rfl;have i1:Al t.d (.int 1)=sI (.tuple (t.rows.map tD)):=rfl
 have o2:Tb.Ok ⟨t.cols,Jj t.rows (some 1) none⟩:=ht.other (λr hr=>X7 hr) (by have:=V6 t.rows (some 1) none;omega)
 have o3:Tb.Ok ⟨t.cols,t.rows.reverse⟩:=ht.other (λr hr=>List.mem_reverse.mp hr) (by rw[List.length_reverse];exact h24)
 have c1:Qg (.tuple (t.rows.map tD)) (some 1) none=sI (.tuple ((Jj t.rows (some 1) none).map tD)):=by
  show some (O.im (.tuple (cutD (t.rows.map tD) (some 1) none)))=_
  rw[Wh]
 have c2:Az3 (.tuple (t.rows.map tD))=sI (.tuple (t.rows.reverse.map tD)):=by
  show some (O.im (.tuple (t.rows.map tD).reverse))=_
  rw[List.map_reverse]
 obtain⟨c',e4,v6,v10,rfl⟩:=Hb (g:=cgN 10) (body:=Lf) (items:=[t.d,Tb.d ⟨t.cols,Jj t.rows (some 1) none⟩,Tb.d ⟨t.cols,t.rows.reverse⟩,t.d]) (n:=0) (c:=[some (.sc ns),sI (.int (0+(k:Int))),sFa d3,sI t.d,u4,sI (.list (nm.map PyData.str)),u6,u7,u8,u9,u10,u11])
  (P:=λj c=>∃u6 u10,c=[some (.sc ns),sI (.int (0+(k:Int))),sFa d3,sI t.d,u4,sI (.list (nm.map PyData.str)),u6,u7,u8,u9,u10,u11]) ⟨u6,u10,rfl⟩ (λj d c hd hP=>by
   obtain⟨u6,u10,rfl⟩:=hP
   obtain⟨t',ht',hc,rfl⟩:∃t',Tb.Ok t'/\t'.cols=t.cols/\d=t'.d:=by
    have:=List.mem_of_getElem? hd;simp only[List.mem_cons,List.not_mem_nil,or_false]at this
    rcases this with rfl | rfl | rfl | rfl
    ·exact⟨t,ht,rfl,rfl⟩
    ·exact⟨_,o2,rfl,rfl⟩
    ·exact⟨_,o3,rfl,rfl⟩
    ·exact⟨t,ht,rfl,rfl⟩
   have e:=A1d ht' (ns:=nm) (by rw[hc];exact hs) hl (s0:=some (.sc ns)) (s1:=sI (.int (0+(k:Int)))) (s2:=sFa d3) (s3:=sI t.d) (s4:=u4) (s6:=u6) (s7:=u7) (s8:=u8) (s9:=u9) (s11:=u11)
   refine⟨_,.inl (?_:Kh _ _ _ _=.nx [some (.sc ns),sI (.int (0+(k:Int))),sFa d3,sI t.d,u4,sI (.list (nm.map PyData.str)),sI (.list (nmL (Ak t' nm))),u7,u8,u9,sI t'.d,u11]),_,_,rfl⟩
   generalize nmL (Ak t' nm)=N at *
   generalize Lf=G at *
   generalize t.d=D at *
   generalize t'.d=D' at *
   wp_walk using e)
 have e5:=A4l ht (s0:=some (.sc ns)) (s1:=sI (.int (0+(k:Int)))) (s2:=sFa d3) (s4:=u4) (s5:=sI (.list (nm.map PyData.str))) (s6:=v6) (s7:=u7) (s8:=u8) (s9:=u9) (s10:=v10) (s11:=u11)
 refine⟨some (.ls false d3),sI t.d,u4,sI (.list (nm.map PyData.str)),v6,u7,u8,u9,v10,u11,?_⟩
 show Lh [some (.sc ns),sI (.int (0+(k:Int))),s2,s3,s4,s5,s6,s7,s8,s9,s10,s11]=_
 unfold Lh
 refine (Dq (c':=[some (.sc ns),sI (.int (0+(k:Int))),sFa ds,s3,s4,s5,s6,s7,s8,s9,s10,s11]) (by wp_walk using show (0:Int)+(k:Int)=(k:Int) by omega,e0)).trans ?_
 refine (Dq (c':=[some (.sc ns),sI (.int (0+(k:Int))),sFa d1,sI t.d,s4,s5,s6,s7,s8,s9,s10,s11]) (by wp_walk using e1)).trans ?_
 refine (Dq ((Ly (fi:=Mg (cC (.int 3))) (ds:=Ju 0 3) (c1:=[some (.sc ns),sI (.int (0+(k:Int))),sFa d1,sI t.d,s4,s5,s6,s7,s8,s9,s10,s11]) rfl).trans e2)).trans ?_
 refine (Dq (c':=[some (.sc ns),sI (.int (0+(k:Int))),sFa d3,sI t.d,u4,sI (.list (nm.map PyData.str)),u6,u7,u8,u9,u10,u11]) ?_).trans ?_
 ·generalize t.d=D at *
  generalize nm.map PyData.str=L at *
  wp_walk using i0,e3
 refine (Dq ((Ly (ds:=[t.d,Tb.d ⟨t.cols,Jj t.rows (some 1) none⟩,Tb.d ⟨t.cols,t.rows.reverse⟩,t.d]) (c1:=[some (.sc ns),sI (.int (0+(k:Int))),sFa d3,sI t.d,u4,sI (.list (nm.map PyData.str)),u6,u7,u8,u9,u10,u11]) ?_).trans e4)).trans e5
 show _=R.ok [t.d,.tuple [.tuple (t.cols.map PyData.str),.tuple ((Jj t.rows (some 1) none).map tD)],.tuple [.tuple (t.cols.map PyData.str),.tuple (t.rows.reverse.map tD)],t.d] _
 generalize PyData.tuple (t.rows.reverse.map tD)=R3 at *
 generalize PyData.tuple ((Jj t.rows (some 1) none).map tD)=R2 at *
 generalize PyData.tuple (t.rows.map tD)=R1 at *
 generalize PyData.tuple (t.cols.map PyData.str)=C at *
 generalize t.d=D at *
 wp_walk using Bw,i0,i1,c1,c2,U.Mf
theorem Ay5 (ns:List Int)(_:ns.length<=63):Ag4 [.sc ns]=.ret (.im (.bool true)) [.sc ns]:=by
 obtain⟨m,hm,em⟩:∃m:Nat,m<=13/\(1:Int)+(if (ns.length:Int)<12 then (ns.length:Int) else 12)=(m:Int):=by
  split
  ·exact⟨1+ns.length,by omega,by omega⟩
  ·exact⟨13,by omega,by omega⟩
 have loop:=Hb (g:=cgN 1) (body:=Lh) (items:=Ju 0 m) (n:=0) (c:=[some (.sc ns),none,none,none,none,none,none,none,none,none,none,none])
  (P:=λ_ c=>∃a b d e f g h i j l x,c=[some (.sc ns),a,b,d,e,f,g,h,i,j,l,x]) ⟨_,_,_,_,_,_,_,_,_,_,_,rfl⟩ (λk d c hd hP=>by
   obtain⟨x1,x2,x3,x4,x5,x6,x7,x8,x9,x10,x11,rfl⟩:=hP;obtain⟨rfl,hk⟩:=O4 hd
   obtain⟨u2,u3,u4,u5,u6,u7,u8,u9,u10,u11,e⟩:=A5h (ns:=ns) (k:=k) (s1:=x1) (s2:=x2) (s3:=x3) (s4:=x4) (s5:=x5) (s6:=x6) (s7:=x7) (s8:=x8) (s9:=x9) (s10:=x10) (s11:=x11) (by omega)
   exact⟨_,.inl e,_,_,_,_,_,_,_,_,_,_,_,rfl⟩)
 obtain⟨c',e,x1,x2,x3,x4,x5,x6,x7,x8,x9,x10,x11,rfl⟩:=loop
 refine Rn (p:=.o (.im (.bool true))) (c:=[some (.sc ns),x1,x2,x3,x4,x5,x6,x7,x8,x9,x10,x11]) ?_ rfl (by wp_walk using true_and)
 show Ac2 [some (.sc ns),none,none,none,none,none,none,none,none,none,none,none]=_
 unfold Ac2
 refine (Dq ((Ly (ds:=Ju 0 m) (c1:=[some (.sc ns),none,none,none,none,none,none,none,none,none,none,none]) ?_).trans e)).trans ?_
 ·wp_walk using Ag7,Ek,em,show (m:Int)<=16000000/\-16000000<=(m:Int) by omega,Int.toNat_natCast
 ·wp_walk using true_and
noncomputable def top (i:Nat):Stmt:=PySem.Challenge.pw_pivotfold_k05_rows_that_agree.main.body.getD i (.Pass ⟨0,0,0,0⟩)
abbrev Gh:Stmt:=top 4
theorem Mx:Bu ["text"] ["text"] (Az Gh):={}
abbrev M7:Stmt:=top 5
theorem Y7:Bu ["thing"] ["thing"] (Az M7):={}
abbrev Qc:Stmt:=top 9
theorem Ah1:Bu ["thing"] ["thing"] (Az Qc):={}
abbrev Je:Stmt:=top 10
theorem Sd:Bu ["thing"] ["thing"] (Az Je):={}
abbrev Ub:Stmt:=top 11
theorem Ao7:Bu ["thing", "width"] ["thing", "width"] (Az Ub):={}
abbrev Nb:Stmt:=top 12
theorem yE:Bu ["thing", "columns", "rows"] ["thing"] (Az Nb):={}
abbrev Ms:Stmt:=top 13
theorem yH:Bu ["table", "name", "columns"] ["table", "name"] (Az Ms):={}
abbrev K6:Stmt:=top 14
theorem Xr:Bu ["table", "names"] ["table", "names"] (Az K6):={}
abbrev K8:Stmt:=top 15
theorem Xq:Bu ["row", "places"] ["row", "places"] (Az K8):={}
abbrev Wl:Stmt:=top 16
theorem zY:Bu ["table", "names", "places", "groups", "number", "row"] ["table", "names"] (Az Wl):={}
abbrev Tp:Stmt:=top 17
theorem As4:Bu ["table", "names"] ["table", "names"] (Az Tp):={}
abbrev Ko:Stmt:=top 19
theorem V1:Bu [lM, "_law_k"] [lM, "_law_k"] (Az Ko):={}
abbrev We:Stmt:=top 20
theorem yL:Bu [lM, "_law_k", "_law_number"] [lM, "_law_k"] (Az We):={}
abbrev Sq:Stmt:=top 21
theorem yC:Bu [lH, lJ, lN, "_law_once", "_law_twice"] [lH, lJ] (Az Sq):={}
abbrev Ss:Stmt:=top 22
theorem Ar6:Bu [lH, "_law_least", "_law_few", "_law_most"] [lH, "_law_least", "_law_few", "_law_most"] (Az Ss):={}
abbrev Pg:Stmt:=top 23
theorem yI:Bu [lH, lJ, lP] [lH, lJ] (Az Pg):={}
abbrev Pu:Stmt:=top 24
theorem yJ:Bu [lH, "_law_way"] [lH] (Az Pu):={}
abbrev Sg:Stmt:=top 25
theorem yD:Bu [lH, lJ, lN, "_law_turn", "_law_value_here"] [lH, lJ] (Az Sg):={}
abbrev Qf:Stmt:=top 26
theorem zK:Bu [lH, lJ, "_law_rows", lK, "_law_pools", lN, "_law_turn", lQ] [lH, lJ, "_law_rows"] (Az Qf):={}
abbrev Jk:Stmt:=top 27
theorem Tv:Bu [lH] [lH] (Az Jk):={}
abbrev Gx:Stmt:=top 28
theorem zT:Bu [lH, "_law_columns", "_law_left", "_law_order"] [lH, "_law_columns"] (Az Gx):={}
abbrev Ag1:Stmt:=top 29
theorem A4j:Bu [lL, lQ, lK] [lL, lQ, lK] (Az Ag1):={}
abbrev Ot:Stmt:=top 30
theorem At0:Bu [lN, "_law_due"] [lN, "_law_due"] (Az Ot):={}
abbrev Px:Stmt:=top 31
theorem zV:Bu [lL, lK, lN, "_law_number", lQ, "_law_there"] [lL, lK] (Az Px):={}
abbrev A1v:Stmt:=top 32
theorem zJ:Bu [lM, "_law_k", lH, lL, "_law_turn", lK, "_law_due", "_law_handed", "_law_again", lN, lP, "_law_more"] [lM] (Az A1v):={}
section
variable {P:Program}{w:World}{K:PySem.W.Frag}{mg:Str->Option Value}{base:Heap}
theorem M3 {f:Addr}{c:FuncData}(F:Fun K "has_plain_signs" "has_plain_signs" Gh f c) (a:mg "all" = none):FnOk P w K mg base CX0 1 f c ["text"] (spP K Dn):=by
 refine F.ok Mx (λ_ _ _ _=>Dc) (λj A b s H g Q E d h=>?_)
 have k:=d.units;have e:=d.gd
 refine Hc (Am (Bd (Eh (Kq:=K) rfl rfl rfl a (Af (by exact(Iu (N':=["sign"]) (idx:=[none]) Eu rfl (A0m (qv 0)) (λ_ _ _ _ _=>by exact(Br (i:=0) (by grind) rfl (Or.inl rfl))) qtN (λ_ _ _ _ _=>by exact(Qo (A7e Af3 (qv 0)) (Qd (A7e (qv 0) Af3)))))) Ad)))) ?_
 exact De (Bf (Cj (Hr (by decide) (A3c Aa) Aq Gk (Lk (Aj (Aw rfl) Aa A0u) (Aj Aa (Aw rfl) A0u))) Kd)) h
theorem Zz (F:Fun K "is_value" "is_value" M7 f fd) (d0:Def P w K mg base "has_plain_signs" 1 ["text"] (spP K Dn)) (zP:mg "bool" = none) (zL:mg "int" = none) (z7:mg "isinstance" = none) (zU:mg "str" = none):FnOk P w K mg base CX0 2 f fd ["thing"] (spP K Cu):=by
 refine F.ok Y7 (λ_ _ _ _=>Dc) (λcdv A outer s H vs Q E hr h=>?_)
 have hu:=hr.units;have hgd:=hr.gd
 refine Hc (Ai (Dv (En (Bh (Kq:=K) rfl rfl z7 (Af (qv 0) (Af (Cm (v:=.ty "bool") rfl zP Rg rfl) Ad)))) (Am (Bd Hz)) By)
  (Ai (Dv (En (Bh (Kq:=K) rfl rfl z7 (Af (qv 0) (Af (Cm (v:=.ty "str") rfl zU S5 rfl) Ad)))) (Am (Bd (Bo d0 hr (Af (qv 0) Ad)))) By)
  (Am (Bd (Bh3 (Ap9 (qv 0) Ag5) (Qd (Bh (Kq:=K) rfl rfl z7 (Af (qv 0) (Af (Cm (v:=.ty "int") rfl zL Ad0 rfl) Ad))))))))) ?_
 exact De (Ay (Eb (Km (Eg .bool Aa)) (Bf (Aw rfl)) Cg)
  (Ay (Eb (Km (Eg .str Aa)) (Bf (Ar (Ac Aa Ao))) Cg)
  (Bf (Be0 (Aj Aa (Aw rfl) Al0) (Eg .int Aa))))) h
theorem Ag6 {f:Addr}{o:FuncData}(F:Fun K "is_name" "is_name" Qc f o) (l:mg "all" = none) (d:mg "isinstance" = none) (m:mg "len" = none) (k:mg "str" = none) (e:∃t,mg "LETTERS" = some (Value.str "abcdefghijklmnopqrstuvwxyz" t)) (a:∃t,mg "LONGEST_NAME" = some (Value.int 8 t)):FnOk P w K mg base CX0 1 f o ["thing"] (spP K Cp):=by
 obtain⟨g,j⟩:=e;obtain⟨b,c⟩:=a
 refine F.ok Ah1 (λ_ _ _ _=>Dc) (λu A n s H r Q E q h=>?_)
 have p:=q.units;have x:=q.gd
 refine Hc (Ai (Dv (QW.qt (Ks (Gv (En (Bh (Kq:=K) rfl rfl d (Af (qv 0) (Af (Cm (v:=.ty "str") rfl k S5 rfl) Ad))))) (Ks (Qz p (qv 0) Af3) (Jh (Zn (Do (Kq:=K) rfl rfl m (Af (qv 0) Ad)) (An9 (v:=.int 8) rfl c ⟨b,rfl⟩)))))) (Am (Bd Hz)) By)
  (Am (Bd (Eh (Kq:=K) rfl rfl rfl l (Af (by exact(Iu (N':=["sign"]) (idx:=[none]) Eu rfl (A0m (qv 0)) (λ_ _ _ _ _=>by exact(Br (i:=0) (by grind) rfl (Or.inl rfl))) qtN (λ_ _ _ _ _=>by exact(Bg5 p (qv 0) (An9 (v:=.str "abcdefghijklmnopqrstuvwxyz") rfl j ⟨g,rfl⟩) (by rfl))))) Ad))))) ?_
 exact De (Ay (Eb (La (G8 (Km (Eg .str Aa))) (La (Bq (Aj Aa (Aw rfl) Ew)) (Bq (Aj (Dp Aa) (Aw rfl) A2i)))) (Bf (Aw rfl)) Cg)
  (Bf (Cj (Hr (by decide) (A3c Aa) Aq Gk (Aj Aa (Aw rfl) Ad7)) Kd))) h
theorem Ud (F:Fun K "are_columns" "are_columns" Je f fd) (d2:Def P w K mg base "is_name" 1 ["thing"] (spP K Cp)) (zH:mg "all" = none) (z7:mg "isinstance" = none) (z8:mg "len" = none) (yM:mg "set" = none) (z9:mg "tuple" = none):FnOk P w K mg base CX0 2 f fd ["thing"] (spP K Bj):=by
 refine F.ok Sd (λ_ _ _ _=>Dc) (λcdv A outer s H vs Q E hr h=>?_)
 have hu:=hr.units;have hgd:=hr.gd
 refine Hc (Ai (Dv (QW.qt (Ks (Gv (En (Bh (Kq:=K) rfl rfl z7 (Af (qv 0) (Af (Cm (v:=.ty "tuple") rfl z9 Gs rfl) Ad))))) (Jh (Qz hu (Do (Kq:=K) rfl rfl z8 (Af (qv 0) Ad)) Ag)))) (Am (Bd Hz)) By)
  (Ai (Dv (Gv (En (Eh (Kq:=K) rfl rfl rfl zH (Af (by exact(Iu (N':=["name"]) (idx:=[none]) Eu rfl (Fq (Kq:=K) rfl (qv 0)) (λ_ _ _ _ _=>by exact(Br (i:=0) (by show (["name"]:List Str).Nodup;decide +kernel))) qtN (λ_ _ _ _ _=>by exact(Bo d2 hr (Af (qv 0) Ad))))) Ad)))) (Am (Bd Hz)) By)
  (Am (Bd (Nm hu (Ad5 (Kq:=K) rfl rfl rfl yM rfl z8 (qv 0)) (Do (Kq:=K) rfl rfl z8 (Af (qv 0) Ad))))))) ?_
 exact De (Ay (Eb (La (G8 (Km (Eg .tuple Aa))) (Bq (Aj (Dp Aa) (Aw rfl) Ew))) (Bf (Aw rfl)) Cg)
  (Ay (Eb (G8 (Km (Cj (Hr (by decide) (Gq Aa) Aq Gk (Ar (Ac Aa Ao))) Kd))) (Bf (Aw rfl)) Cg)
  (Bf (Aj (Ar3 Aa) (Dp Aa) Ew)))) h
theorem Ar8 (F:Fun K "is_row" "is_row" Ub f fd) (d1:Def P w K mg base "is_value" 2 ["thing"] (spP K Cu)) (zH:mg "all" = none) (z7:mg "isinstance" = none) (z8:mg "len" = none) (z9:mg "tuple" = none):FnOk P w K mg base CX0 3 f fd ["thing", "width"] (spP K Dj):=by
 refine F.ok Ao7 (λ_ _ _ _=>Dc) (λcdv A outer s H vs Q E hr h=>?_)
 have hu:=hr.units;have hgd:=hr.gd
 refine Hc (Ai (Dv (QW.qt (Ks (Gv (En (Bh (Kq:=K) rfl rfl z7 (Af (qv 0) (Af (Cm (v:=.ty "tuple") rfl z9 Gs rfl) Ad))))) (Jh (Qy hu (Do (Kq:=K) rfl rfl z8 (Af (qv 0) Ad)) (qv 1))))) (Am (Bd Hz)) By)
  (Am (Bd (Eh (Kq:=K) rfl rfl rfl zH (Af (by exact(Iu (N':=["value"]) (idx:=[none]) Eu rfl (Fq (Kq:=K) rfl (qv 0)) (λ_ _ _ _ _=>by exact(Br (i:=0) (by show (["value"]:List Str).Nodup;decide +kernel))) qtN (λ_ _ _ _ _=>by exact(Bo d1 hr (Af (qv 0) Ad))))) Ad))))) ?_
 exact De (Ay (Eb (La (G8 (Km (Eg .tuple Aa))) (Bq (Aj (Dp Aa) Aa J1))) (Bf (Aw rfl)) Cg)
  (Bf (Cj (Hr (by decide) (Gq Aa) Aq Gk (Ar (Ac Aa Ao))) Kd))) h
theorem Za (F:Fun K "is_table" "is_table" Nb f fd) (d3:Def P w K mg base "are_columns" 2 ["thing"] (spP K Bj)) (d4:Def P w K mg base "is_row" 3 ["thing", "width"] (spP K Dj)) (zH:mg "all" = none) (z7:mg "isinstance" = none) (z8:mg "len" = none) (z9:mg "tuple" = none):FnOk P w K mg base CX0 4 f fd ["thing"] (spP K Bg):=by
 refine F.ok yE (λ_ _ _ _=>Dc) (λcdv A outer s H vs Q E hr h=>?_)
 have hu:=hr.units;have hgd:=hr.gd
 refine Hc (Ai (Dv (QW.qt (Ks (Gv (En (Bh (Kq:=K) rfl rfl z7 (Af (qv 0) (Af (Cm (v:=.ty "tuple") rfl z9 Gs rfl) Ad))))) (Jh (Qy hu (Do (Kq:=K) rfl rfl z8 (Af (qv 0) Ad)) Ag)))) (Am (Bd Hz)) By)
  (Ai (Cv (i:=1) yE.nd (Bl (Kq:=K) rfl (qv 0) Ag Bc))
  (Ai (Cv (i:=2) yE.nd (Bl (Kq:=K) rfl (qv 0) Ag Bc))
  (Ai (Dv (QW.qt (Ks (Gv (En (Bo d3 hr (Af (qv 1) Ad)))) (Jh (Gv (En (Bh (Kq:=K) rfl rfl z7 (Af (qv 2) (Af (Cm (v:=.ty "tuple") rfl z9 Gs rfl) Ad)))))))) (Am (Bd Hz)) By)
  (Am (Bd (Eh (Kq:=K) rfl rfl rfl zH (Af (by exact(Iu (N':=["row", "columns"]) (idx:=[none,some 1]) Eu rfl (Fq (Kq:=K) rfl (qv 2)) (λ_ _ _ _ _=>by exact(Br (i:=0) (by show (["row", "columns"]:List Str).Nodup;decide +kernel))) qtN (λ_ _ _ _ _=>by exact(Bo d4 hr (Af (qv 0) (Af (Do (Kq:=K) rfl rfl z8 (Af (qv 1) Ad)) Ad)))))) Ad)))))))) ?_
 exact De (Ay (Eb (La (G8 (Km (Eg .tuple Aa))) (Bq (Aj (Dp Aa) (Aw rfl) J1))) (Bf (Aw rfl)) Cg)
  (Ay (Cq (Aj Aa (Aw rfl) Be) Aq)
  (Ay (Cq (Aj Aa (Aw rfl) Be) Aq)
  (Ay (Eb (La (G8 (Km (Ar (Ac Aa Ao)))) (G8 (Km (Eg .tuple Aa)))) (Bf (Aw rfl)) Cg)
  (Bf (Cj (Hr (by decide) (Gq Aa) Aq Gk (Ar (Ac Aa (Ac (Dp Aa) Ao)))) Kd)))))) h
theorem Aa1 (F:Fun K "place_of" "place_of" Ms f fd):FnOk P w K mg base CX0 3 f fd ["table", "name"] (spP K Ez):=by
 refine F.ok yH (λ_ _ _ _=>Dc) (λcdv A outer s H vs Q E hr h=>?_)
 have hu:=hr.units;have hgd:=hr.gd
 refine Hc (Ai (Cv (i:=2) yH.nd (Bl (Kq:=K) rfl (qv 0) Ag Bc))
  (Ai (Dv (Ke hu (qv 1) (qv 2) (by with_unfolding_all rfl)) (Am A1s) By)
  (Am (Bd (Ak7 (Kq:=K) rfl PySem.F.plainAttrs_tuple PySem.F.slot_tuple_index PySem.F.type_tuple_index (Tj rfl) (qv 2) (Af (qv 1) Ad)))))) ?_
 exact De (Ay (Cq (Aj Aa (Aw rfl) Be) Aq)
  (Ay (Eb (Bq (Aj Aa Aa Pz)) Az1 Cg)
  (Bf (A7n Aa Aa A0y Vr)))) h
theorem Wr (F:Fun K "places_of" "places_of" K6 f fd) (d6:Def P w K mg base "place_of" 3 ["table", "name"] (spP K Ez)):FnOk P w K mg base CX0 4 f fd ["table", "names"] (spP K Gj):=by
 refine F.ok Xr (λ_ _ _ _=>Dc) (λcdv A outer s H vs Q E hr h=>?_)
 have hu:=hr.units;have hgd:=hr.gd
 refine Hc (Am (Bd (by exact(Iu (N':=["name", "table"]) (idx:=[none,some 0]) Eu rfl (Fq (Kq:=K) rfl (qv 1)) (λ_ _ _ _ _=>by exact(Br (i:=0) (by show (["name", "table"]:List Str).Nodup;decide +kernel))) qtN (λ_ _ _ _ _=>by exact(Bo d6 hr (Af (qv 1) (Af (qv 0) Ad)))))))) ?_
 exact De (Bf (Hr (by decide) (Gq Aa) Aq Gk (Ar (Ac Aa (Ac Aa Ao))))) h
theorem V2 (F:Fun K "values_at" "values_at" K8 f c) (a:mg "tuple" = none):FnOk P w K mg base CX0 1 f c ["row", "places"] (spP K Fj):=by
 refine F.ok Xq (λ_ _ _ _=>Dc) (λj A b s H g Q E d h=>?_)
 have k:=d.units;have e:=d.gd
 refine Hc (Am (Bd (Dk (Kq:=K) rfl rfl a (Af (by exact(Iu (N':=["place", "row"]) (idx:=[none,some 0]) Eu rfl (Fq (Kq:=K) rfl (qv 1)) (λ_ _ _ _ _=>by exact(Br (i:=0) (by show (["place", "row"]:List Str).Nodup;decide +kernel))) qtN (λ_ _ _ _ _=>by exact(Bl (Kq:=K) rfl (qv 1) (qv 0) Rz)))) Ad)))) ?_
 exact De (Bf (Cj (Hr (by decide) (Gq Aa) Aq Gk (Aj Aa Aa Be)) Js)) h
theorem A1l (F:Fun K "alike" "alike" Wl f fd) (d7:Def P w K mg base "places_of" 4 ["table", "names"] (spP K Gj)) (d8:Def P w K mg base "values_at" 1 ["row", "places"] (spP K Fj)) (zN:mg "enumerate" = none) (zF:mg "list" = none):FnOk P w K mg base CX0 5 f fd ["table", "names"] (spP K Dg):=by
 refine F.ok zY (λ_ _ _ _=>Dc) (λcdv A outer s H vs Q E hr h=>?_)
 have hu:=hr.units;have hgd:=hr.gd
 refine Hc (Ai (Cv (i:=2) zY.nd (Bo d7 hr (Af (qv 0) (Af (qv 1) Ad))))
  (Ai (Cv (i:=3) zY.nd A0f) (Bd6 (d:=3) (Jd PassesOwn.never rfl (Ai3 rfl zN (Af (Bl (Kq:=K) rfl (qv 0) Ag Bc) Ad)) (Ab9 (Kq:=K) rfl (n:=2) rfl (Jt (Br (i:=4) zY.nd) (Jt (Br (i:=5) zY.nd) Wz))) (Am (J6 (G7 (Kq:=K) rfl (A6i hu (qv 3) (Bo d8 hr (Af (qv 5) (Af (qv 2) Ad))) (Fe Ad) ⟨rfl,rfl,rfl,rfl⟩) (qv 4)))))
  (Am (Bd (A3j rfl rfl zF (qv 3))))))) ?_
 exact De (Ay (Cq (Vn (Ar (Ac Aa (Ac Aa Ao)))) Aq)
  (Aw1 (Ba3 (Am1 (Aj Aa (Aw rfl) Be)) (Ax6 (Ov Aq (Ov Aq Aj8))) (A4p (Y0 (Y8 (by decide)) M6 (Y0 (Y8 (by decide)) M6 A4n U5) (Ac6 M6 U5))) (A9c (Ar (Ac Aa (Ac Aa Ao))) Aa))
  (Bf (A1h Aa)))) h
abbrev yT1 (P w K mg base):=Def P w K mg base "alike" 5 ["table", "names"] (spP K Dg)
theorem Ar1 (F:Fun K "is_key" "is_key" Tp f fd) (d5:Def P w K mg base "is_table" 4 ["thing"] (spP K Bg)) (d9:yT1 P w K mg base) (z7:mg "isinstance" = none) (z8:mg "len" = none) (zF:mg "list" = none) (z9:mg "tuple" = none):FnOk P w K mg base CX0 6 f fd ["table", "names"] (spP K Gw):=by
 refine F.ok As4 (λ_ _ _ _=>Dc) (λcdv A outer s H vs Q E hr h=>?_)
 have hu:=hr.units;have hgd:=hr.gd
 refine Hc (Ai (Dv (QW.qt (Ks (Gv (En (Bo d5 hr (Af (qv 0) Ad)))) (Jh (Gv (En (O5 (Kq:=K) rfl rfl z7 (Af (qv 1) (Af (M9 (Af (Cm (v:=.ty "list") rfl zF Kf rfl) (Af (Cm (v:=.ty "tuple") rfl z9 Gs rfl) Ad))) Ad)))))))) (Am (Bd Hz)) By)
  (Am (Bd (Nm hu (Do (Kq:=K) rfl rfl z8 (Af (Bo d9 hr (Af (qv 0) (Af (qv 1) Ad))) Ad)) (Do (Kq:=K) rfl rfl z8 (Af (Bl (Kq:=K) rfl (qv 0) Ag Bc) Ad)))))) ?_
 exact De (Ay (Eb (La (G8 (Km (Ar (Ac Aa Ao)))) (G8 (Km (Ao3 .list .tuple Aa)))) (Bf (Aw rfl)) Cg)
  (Bf (Aj (Dp (Ar (Ac Aa (Ac Aa Ao)))) (Dp (Aj Aa (Aw rfl) Be)) Ew))) h
theorem V5 (F:Fun K "_law_cell_at" "_law_cell_at" Ko f c) (a:mg "len" = none):FnOk P w K mg base CX0 1 f c [lM, "_law_k"] (spP K Fl):=by
 refine F.ok V1 (λ_ _ _ _=>Dc) (λi A b s H g Q E d h=>?_)
 have j:=d.units;have e:=d.gd
 refine Hc (Ai (Dv (Aa0 (qv 1) (Do rfl rfl a (Af (qv 0) Ad))) (Am (Bd (A7u (show IxR _ _ from A9j) (qv 0) (qv 1) Rz))) By)
  (Am (Bd Ag))) ?_
 exact De (Ay (Eb (Bq (Aj Aa (Dp Aa) Al9)) (Bf (Bd4 Aa Aa)) Cg)
  (Bf (Aw rfl))) h
theorem Az7 (F:Fun K "_law_box" "_law_box" We f fd) (d11:Def P w K mg base "_law_cell_at" 1 [lM, "_law_k"] (spP K Fl)) (yK:mg "abs" = none) (zL:mg "int" = none):FnOk P w K mg base CX0 2 f fd [lM, "_law_k"] (spP K Kz):=by
 refine F.ok yL (λ_ _ _ _=>Dc) (λcdv A outer s H vs Q E hr h=>?_)
 have hu:=hr.units;have hgd:=hr.gd
 refine Hc (Ai (Cv (i:=2) yL.nd (Bo d11 hr (Af (qv 0) (Af (qv 1) Ad))))
  (Am (Bd (Fe (Af (Hv (Qt (Kq:=K) rfl rfl yK (Af (qv 2) Ad)) (O3 (Kq:=K) rfl rfl zL (Af (Aw7 (Qt (Kq:=K) rfl rfl yK (Af (qv 2) Ad)) (Qq Ag Ag)) Ad))) (Af (Gm (Gm (G4 (qv 2) Ag) (Hv Ag (qv 1))) Ag) (Af Ag Ad))))))) ?_
 exact De (Ay (Cq (Ar (Ac Aa (Ac Aa Ao))) Aq)
  (Bf (G5 (Ac (Aj (Cj Aa Ao1) (Cj (Aj (Cj Aa Ao1) (Aj (Aw rfl) (Aw rfl) Xo) A9v) Ak3) Jv) (Ac (Aj (Aj (Aj Aa (Aw rfl) Jx) (Aj (Aw rfl) Aa Jv) Es) (Aw rfl) Es) (Ac (Aw rfl) Ao)))))) h
theorem Ao4 (F:Fun K "_law_take" "_law_take" Sq f b):FnOk P w K mg base CX0 1 f b [lH, lJ] (spP K An):=by
 refine F.ok yC (λ_ _ _ _=>Dc) (λg A a s H d Q E c h=>?_)
 have j:=c.units;have e:=c.gd
 refine Hc (Ai (Dv (Zn (Bl (Kq:=K) rfl (qv 0) Ag Bc) Ag) (Ai (Cv (i:=2) yC.nd (G4 (Bl (Kq:=K) rfl (qv 0) Ag Bc) (qv 1)))
  (Ai (Ax1 (Uc (Bl (Kq:=K) rfl (qv 0) Ag Bc) (qv 1)) (A0w (qv 0) Ag set_list))
  (Am (Bd (qv 2))))) By)
  (Ai (Ax1 (Gm (Bl (Kq:=K) rfl (qv 0) Ag Bc) Ag) (A0w (qv 0) Ag set_list))
  (Ai (Cv (i:=3) yC.nd (G4 (Hv (Gm (Bl (Kq:=K) rfl (qv 0) Ag Bc) (Hv Ag (Bl (Kq:=K) rfl (qv 0) Ag Bc))) (Gm Ag (Bl (Kq:=K) rfl (qv 0) Ag Bc))) Ag))
  (Ai (Cv (i:=4) yC.nd (G4 (Hv (Gm (qv 3) (Bl (Kq:=K) rfl (qv 0) Ag Bc)) (Gm (G4 (qv 3) Ag) Ag)) Ag))
  (Am (Bd (G4 (Uc (G4 (Gm (Hv (qv 4) Ag) (qv 3)) Ag) Ag) (qv 1)))))))) ?_
 exact De (Ay (Eb (Bq (Aj (Aj Aa (Aw rfl) Be) (Aw rfl) A2i)) (Ay (Cq (Aj (Aj Aa (Aw rfl) Be) Aa Jx) Aq)
  (Ay (Cq (Aj (Aj Aa (Aw rfl) Be) Aa Zt) (A1r Aa (Aw rfl)))
  (Bf Aa))) Cg)
  (Ay (Cq (Aj (Aj Aa (Aw rfl) Be) (Aw rfl) Es) (A1r Aa (Aw rfl)))
  (Ay (Cq (Aj (Aj (Aj (Aj Aa (Aw rfl) Be) (Aj (Aw rfl) (Aj Aa (Aw rfl) Be) Jv) Es) (Aj (Aw rfl) (Aj Aa (Aw rfl) Be) Es) Jv) (Aw rfl) Jx) Aq)
  (Ay (Cq (Aj (Aj (Aj Aa (Aj Aa (Aw rfl) Be) Es) (Aj (Aj Aa (Aw rfl) Jx) (Aw rfl) Es) Jv) (Aw rfl) Jx) Aq)
  (Bf (Aj (Aj (Aj (Aj (Aj Aa (Aw rfl) Jv) Aa Es) (Aw rfl) Jx) (Aw rfl) Zt) Aa Jx)))))) h
abbrev yT0 (P w K mg base):=Def P w K mg base "_law_take" 1 [lH, lJ] (spP K An)
theorem As3 (F:Fun K "_law_many" "_law_many" Ss f fd) (d13:yT0 P w K mg base):FnOk P w K mg base CX0 2 f fd [lH, "_law_least", "_law_few", "_law_most"] (spP K G6):=by
 refine F.ok Ar6 (λ_ _ _ _=>Dc) (λcdv A outer s H vs Q E hr h=>?_)
 have hu:=hr.units;have hgd:=hr.gd
 refine Hc (Ai (Dv (Qz hu (Bo d13 hr (Af (qv 0) (Af Ag Ad))) Ag) (Am (Bd (Gm Ag (Bo d13 hr (Af (qv 0) (Af (Jq (qv 3) Ag) Ad)))))) By)
  (Am (Bd (Gm (qv 1) (Bo d13 hr (Af (qv 0) (Af (Gm (Jq (qv 2) (qv 1)) Ag) Ad))))))) ?_
 exact De (Ay (Eb (Bq (Aj (Ar (Ac Aa (Ac (Aw rfl) Ao))) (Aw rfl) Ew)) (Bf (Aj (Aw rfl) (Ar (Ac Aa (Ac (Aj Aa (Aw rfl) O9) Ao))) Es)) Cg)
  (Bf (Aj Aa (Ar (Ac Aa (Ac (Aj (Aj Aa Aa O9) (Aw rfl) Es) Ao))) Es))) h
theorem Ab8 (F:Fun K "_law_names" "_law_names" Pg f fd) (d13:yT0 P w K mg base) (z8:mg "len" = none) (zG:mg "range" = none):FnOk P w K mg base CX0 2 f fd [lH, lJ] (spP K Hy):=by
 refine F.ok yI (λ_ _ _ _=>Dc) (λcdv A outer s H vs Q E hr h=>?_)
 have hu:=hr.units;have hgd:=hr.gd
 refine Hc (Ai (Cv (i:=2) yI.nd (Fe (Pj (vs:=[.str "b",.str "a",.str "year",.str "z",.str "ab",.str "month",.str "aa",.str "quantity",.str "c",.str "town",.str "zz",.str "ba"]) rfl)))
  (Am (Bd (by exact(Iu (N':=["_law_turn", lP, lH]) (idx:=[none,some 2,some 0]) Eu rfl (Hw rfl zG (Af (qv 1) Ad)) (λ_ _ _ _ _=>by exact(Br (i:=0) (by show (["_law_turn", lP, lH]:List Str).Nodup;decide +kernel))) qtN (λ_ _ _ _ _=>by exact(Ak7 (Kq:=K) rfl PySem.F.plainAttrs_list PySem.F.slot_list_pop PySem.F.type_list_pop Zi (qv 1) (Af (Bo d13 hr (Af (qv 2) (Af (Do (Kq:=K) rfl rfl z8 (Af (qv 1) Ad)) Ad))) Ad)))))))) ?_
 exact De (Ay (Cq (G5 (A8l rfl)) Aq)
  (Bf (Hr (by decide) (Lx Aa) Aq Gk (Zd Aa (Ar (Ac Aa (Ac (Dp Aa) Ao))))))) h
theorem Ad3 (F:Fun K "_law_value" "_law_value" Pu f fd) (d13:yT0 P w K mg base):FnOk P w K mg base CX0 2 f fd [lH] (spP K Ej):=by
 refine F.ok yJ (λ_ _ _ _=>Dc) (λcdv A outer s H vs Q E hr h=>?_)
 have hu:=hr.units;have hgd:=hr.gd
 refine Hc (Ai (Cv (i:=1) yJ.nd (Bo d13 hr (Af (qv 0) (Af Ag Ad))))
  (Ai (Dv (Aa0 (qv 1) Ag) (Am (Bd (Jq (Bo d13 hr (Af (qv 0) (Af Ag Ad))) Ag))) By)
  (Ai (Dv (Qz hu (qv 1) Ag) (Am (Bd (Bl (Kq:=K) rfl (Fe (Af (Jq (Qq Ag Ag) Ag) (Af (Jq Ag (Qq Ag Ag)) (Af Ag (Af Ag Ad))))) (Bo d13 hr (Af (qv 0) (Af Ag Ad))) Fb))) By)
  (Ai (Dv (Qz hu (qv 1) Ag) (Am (Bd Ag5)) By)
  (Am (Bd (Bl (Kq:=K) rfl (Fe (Pj (vs:=[.str "",.str "a",.str "b",.str "B",.str "10",.str "9",.str "-",.str "a b",.str "it's",.str "\\",.str "/",.str "_",.str ":",.str "None",.str "ab"]) rfl)) (Bo d13 hr (Af (qv 0) (Af Ag Ad))) Fb))))))) ?_
 exact De (Ay (Cq (Ar (Ac Aa (Ac (Aw rfl) Ao))) Aq)
  (Ay (Eb (Bq (Aj Aa (Aw rfl) Al9)) (Bf (Aj (Ar (Ac Aa (Ac (Aw rfl) Ao))) (Aw rfl) O9)) Cg)
  (Ay (Eb (Bq (Aj Aa (Aw rfl) Ew)) (Bf (Aj (G5 (Ac (Aj (Aj (Aw rfl) (Aw rfl) Xo) (Aw rfl) O9) (Ac (Aj (Aw rfl) (Aj (Aw rfl) (Aw rfl) Xo) O9) (Ac (Aw rfl) (Ac (Aw rfl) Ao))))) (Ar (Ac Aa (Ac (Aw rfl) Ao))) Be)) Cg)
  (Ay (Eb (Bq (Aj Aa (Aw rfl) Ew)) (Bf (Aw rfl)) Cg)
  (Bf (Aj (G5 (A8l rfl)) (Ar (Ac Aa (Ac (Aw rfl) Ao))) Be)))))) h
theorem At9 (F:Fun K "_law_pool" "_law_pool" Sg f fd) (d16:Def P w K mg base "_law_value" 2 [lH] (spP K Ej)) (zG:mg "range" = none):FnOk P w K mg base CX0 3 f fd [lH, lJ] (spP K Gb):=by
 refine F.ok yD (λ_ _ _ _=>Dc) (λcdv A outer s H vs Q E hr h=>?_)
 have hu:=hr.units;have hgd:=hr.gd
 refine Hc (Ai (Cv (i:=2) yD.nd (Fe Ad))
  (Ai (Jd PassesOwn.never rfl (Hw rfl zG (Af (qv 1) Ad)) (Br (i:=3) yD.nd) (Ai (Cv (i:=4) yD.nd (Bo d16 hr (Af (qv 0) Ad)))
  (Am (Dv (Ke hu (qv 4) (qv 2) (by with_unfolding_all rfl)) (Am (J6 (G7 (Kq:=K) rfl (qv 2) (qv 4)))) By))))
  (Am (Bd (qv 2))))) ?_
 exact De (Ay (Cq (G5 Ao) Aq)
  (Ay (M4 (Lx Aa) Aq (Ay (Cq (Ar (Ac Aa Ao)) Aq)
  (Eb (Bq (Aj Aa Aa Pz)) (Aj3 (A0z Aa Aa)) Cg)))
  (Bf Aa))) h
theorem Ad9 (F:Fun K "_law_table" "_law_table" Qf f fd) (d13:yT0 P w K mg base) (d15:Def P w K mg base "_law_names" 2 [lH, lJ] (spP K Hy)) (d17:Def P w K mg base "_law_pool" 3 [lH, lJ] (spP K Gb)) (z8:mg "len" = none) (zG:mg "range" = none) (z9:mg "tuple" = none):FnOk P w K mg base CX0 4 f fd [lH, lJ, "_law_rows"] (spP K J9):=by
 refine F.ok zK (λ_ _ _ _=>Dc) (λcdv A outer s H vs Q E hr h=>?_)
 have hu:=hr.units;have hgd:=hr.gd
 refine Hc (Ai (Cv (i:=3) zK.nd (Bo d15 hr (Af (qv 0) (Af (qv 1) Ad))))
  (Ai (by exact(Uh (i:=4) zK.nd rfl (Or.inl rfl) (N':=["_law_name", lH]) (idx:=[none,some 0]) Eu rfl (Fq (Kq:=K) rfl (qv 3)) (λ_ _ _ _ _=>by exact(Br (i:=0) (by show (["_law_name", lH]:List Str).Nodup;decide +kernel))) qtN (λ_ _ _ _ _=>by exact(Bo d17 hr (Af (qv 1) (Af (Bl (Kq:=K) rfl (Fe (Pj (vs:=[.int 2,.int 3,.int 3,.int 5,.int 12]) rfl)) (Bo d13 hr (Af (qv 1) (Af Ag Ad))) Fb) Ad))))))
  (Ai (Cv (i:=5) zK.nd (Fe Ad))
  (Ai (Jd PassesOwn.never rfl (Hw rfl zG (Af (qv 2) Ad)) (Br (i:=6) zK.nd) (Ai (Cv (i:=7) zK.nd (Dk (Kq:=K) rfl rfl z9 (Af (by exact(Iu (N':=["_law_pool_here", lH]) (idx:=[none,some 0]) Eu rfl (Fq (Kq:=K) rfl (qv 4)) (λ_ _ _ _ _=>by exact(Br (i:=0) (by show (["_law_pool_here", lH]:List Str).Nodup;decide +kernel))) qtN (λ_ _ _ _ _=>by exact(Bl (Kq:=K) rfl (qv 0) (Bo d13 hr (Af (qv 1) (Af (Do (Kq:=K) rfl rfl z8 (Af (qv 0) Ad)) Ad))) Fb)))) Ad)))
  (Ai (Dv (QW.qt (A0q (Qy hu (qv 5) (Fe Ad)) (Am3 (Qz hu (Bo d13 hr (Af (qv 0) (Af Ag Ad))) Ag)))) (Am (Cv (i:=7) zK.nd (Bl (Kq:=K) rfl (qv 5) (Bo d13 hr (Af (qv 0) (Af (Do (Kq:=K) rfl rfl z8 (Af (qv 5) Ad)) Ad))) Fb))) By)
  (Am (J6 (G7 (Kq:=K) rfl (qv 5) (qv 7)))))))
  (Am (Bd (M9 (Af (Dk (Kq:=K) rfl rfl z9 (Af (qv 3) Ad)) (Af (Dk (Kq:=K) rfl rfl z9 (Af (qv 5) Ad)) Ad))))))))) ?_
 exact De (Ay (Cq (Ar (Ac Aa (Ac Aa Ao))) Aq)
  (Ay (Cq (Hr (by decide) (Gq Aa) Aq Gk (Ar (Ac Aa (Ac (Aj (G5 (A8l rfl)) (Ar (Ac Aa (Ac (Aw rfl) Ao))) Be) Ao)))) Aq)
  (Ay (Cq (G5 Ao) Aq)
  (Ay (M4 (Lx Aa) Aq (Ay (Cq (Cj (Hr (by decide) (Gq Aa) Aq Gk (Aj Aa (Ar (Ac Aa (Ac (Dp Aa) Ao))) Be)) Js) Aq)
  (Ay (Eb (Ay6 (Bq (Aj Aa (G5 Ao) J1)) (Bq (Aj (Ar (Ac Aa (Ac (Aw rfl) Ao))) (Aw rfl) Ew))) (Cq (Aj Aa (Ar (Ac Aa (Ac (Dp Aa) Ao))) Be) Aq) Cg)
  (Aj3 (A0z Aa Aa)))))
  (Bf (Ry (Ac (Cj Aa Js) (Ac (Cj Aa Js) Ao)))))))) h
theorem Sv (F:Fun K "_law_any_table" "_law_any_table" Jk f fd) (d14:Def P w K mg base "_law_many" 2 [lH, "_law_least", "_law_few", "_law_most"] (spP K G6)) (d18:Def P w K mg base "_law_table" 4 [lH, lJ, "_law_rows"] (spP K J9)):FnOk P w K mg base CX0 5 f fd [lH] (spP K Fd):=by
 refine F.ok Tv (λ_ _ _ _=>Dc) (λcdv A outer s H vs Q E hr h=>?_)
 have hu:=hr.units;have hgd:=hr.gd
 refine Hc (Am (Bd (Bo d18 hr (Af (qv 0) (Af (Bo d14 hr (Af (qv 0) (Af Ag (Af Ag (Af Ag Ad))))) (Af (Bo d14 hr (Af (qv 0) (Af Ag (Af Ag (Af Ag Ad))))) Ad)))))) ?_
 exact De (Bf (Ar (Ac Aa (Ac (Ar (Ac Aa (Ac (Aw rfl) (Ac (Aw rfl) (Ac (Aw rfl) Ao))))) (Ac (Ar (Ac Aa (Ac (Aw rfl) (Ac (Aw rfl) (Ac (Aw rfl) Ao))))) Ao))))) h
theorem Oz (F:Fun K "_law_some_columns" "_law_some_columns" Gx f fd) (d13:yT0 P w K mg base) (z8:mg "len" = none) (zF:mg "list" = none):FnOk P w K mg base CX0 2 f fd [lH, "_law_columns"] (spP K Cr):=by
 refine F.ok zT (λ_ _ _ _=>Dc) (λcdv A outer s H vs Q E hr h=>?_)
 have hu:=hr.units;have hgd:=hr.gd
 refine Hc (Ai (Cv (i:=2) zT.nd (Hh (Kq:=K) rfl rfl zF (Af (qv 1) Ad)))
  (Ai (by exact(Uh (i:=3) zT.nd rfl (Or.inl rfl) (N':=["_law_name", "_law_left", lH]) (idx:=[none,some 2,some 0]) Eu rfl (Fq (Kq:=K) rfl (qv 1)) (λ_ _ _ _ _=>by exact(Br (i:=0) (by show (["_law_name", "_law_left", lH]:List Str).Nodup;decide +kernel))) qtN (λ_ _ _ _ _=>by exact(Ak7 (Kq:=K) rfl PySem.F.plainAttrs_list PySem.F.slot_list_pop PySem.F.type_list_pop Zi (qv 1) (Af (Bo d13 hr (Af (qv 2) (Af (Do (Kq:=K) rfl rfl z8 (Af (qv 1) Ad)) Ad))) Ad)))))
  (Am (Bd (Ax9 (Kq:=K) rfl (qv 3) Xa (Rp (Bl (Kq:=K) rfl (Fe (Af (Bo d13 hr (Af (qv 0) (Af (Gm (Do (Kq:=K) rfl rfl z8 (Af (qv 3) Ad)) Ag) Ad))) (Af Ag (Af Ag (Af (Do (Kq:=K) rfl rfl z8 (Af (qv 3) Ad)) Ad))))) (Bo d13 hr (Af (qv 0) (Af Ag Ad))) Fb))))))) ?_
 exact De (Ay (Cq (Cj Aa Sx) Aq)
  (Ay (Cq (Hr (by decide) (Gq Aa) Aq Gk (Zd Aa (Ar (Ac Aa (Ac (Dp Aa) Ao))))) Aq)
  (Bf (A2j Aa Wt (Xk (Aj (G5 (Ac (Ar (Ac Aa (Ac (Aj (Dp Aa) (Aw rfl) Es) Ao))) (Ac (Aw rfl) (Ac (Aw rfl) (Ac (Dp Aa) Ao))))) (Ar (Ac Aa (Ac (Aw rfl) Ao))) Be)) Xg)))) h
theorem A4k (F:Fun K "_law_in" "_law_in" Ag1 f c) (a:mg "tuple" = none):FnOk P w K mg base CX0 1 f c [lL, lQ, lK] (spP K Ir):=by
 refine F.ok A4j (λ_ _ _ _=>Dc) (λj A b s H g Q E d h=>?_)
 have k:=d.units;have e:=d.gd
 refine Hc (Am (Bd (Dk (Kq:=K) rfl rfl a (Af (by exact(Iu (N':=["_law_name", lQ, lL]) (idx:=[none,some 1,some 0]) Eu rfl (Fq (Kq:=K) rfl (qv 2)) (λ_ _ _ _ _=>by exact(Br (i:=0) (by show (["_law_name", lQ, lL]:List Str).Nodup;decide +kernel))) qtN (λ_ _ _ _ _=>by exact(Bl (Kq:=K) rfl (qv 1) (Ak7 (Kq:=K) rfl PySem.F.plainAttrs_tuple PySem.F.slot_tuple_index PySem.F.type_tuple_index (Tj rfl) (Bl (Kq:=K) rfl (qv 2) Ag Bc) (Af (qv 0) Ad)) Fb)))) Ad)))) ?_
 exact De (Bf (Cj (Hr (by decide) (Gq Aa) Aq Gk (Aj Aa (A7n (Aj Aa (Aw rfl) Be) Aa A0y Vr) Be)) Js)) h
theorem Av0 {n:Nat}(F:Fun K "_law_same" "_law_same" Ot f fd) (d22:Def P w K mg base "_law_same" (n) [lN, "_law_due"] (spP K (Bm n))) (zH:mg "all" = none) (zP:mg "bool" = none) (zL:mg "int" = none) (z7:mg "isinstance" = none) (z8:mg "len" = none) (zF:mg "list" = none) (zU:mg "str" = none) (z9:mg "tuple" = none) (yG:mg "zip" = none):FnOk P w K mg base CX0 (n+1) f fd [lN, "_law_due"] (spP K (Bm (n+1))):=by
 refine F.ok At0 (λ_ _ _ _=>Dc) (λcdv A outer s H vs Q E hr h=>?_)
 have hu:=hr.units;have hgd:=hr.gd
 refine Hc (Ai (Dv (En (O5 (Kq:=K) rfl rfl z7 (Af (qv 1) (Af (M9 (Af (Cm (v:=.ty "list") rfl zF Kf rfl) (Af (Cm (v:=.ty "tuple") rfl z9 Gs rfl) Ad))) Ad)))) (Ai (Dv (QW.qt (Ks (Qy hu (Bh (Kq:=K) rfl rfl z7 (Af (qv 0) (Af (Cm (v:=.ty "list") rfl zF Kf rfl) Ad))) (Bh (Kq:=K) rfl rfl z7 (Af (qv 1) (Af (Cm (v:=.ty "list") rfl zF Kf rfl) Ad)))) (Jh (Qy hu (Bh (Kq:=K) rfl rfl z7 (Af (qv 0) (Af (Cm (v:=.ty "tuple") rfl z9 Gs rfl) Ad))) (Bh (Kq:=K) rfl rfl z7 (Af (qv 1) (Af (Cm (v:=.ty "tuple") rfl z9 Gs rfl) Ad))))))) (Am (Bd Hz)) By)
  (Am (Bd (Qo (Nm hu (Do (Kq:=K) rfl rfl z8 (Af (qv 0) Ad)) (Do (Kq:=K) rfl rfl z8 (Af (qv 1) Ad))) (Qd (Eh (Kq:=K) rfl rfl rfl zH (Af (by exact(Iu (N':=["_law_one", "_law_other"]) (idx:=[none,none]) Eu rfl (A8j rfl yG (Af (qv 0) (Af (qv 1) Ad))) (λ_ _ _ _ _=>by exact(Ab9 (Kq:=K) rfl (n:=2) rfl (Jt (Br (i:=0) (by show (["_law_one", "_law_other"]:List Str).Nodup;decide +kernel)) (Jt (Br (i:=1) (by show (["_law_one", "_law_other"]:List Str).Nodup;decide +kernel)) Wz)))) qtN (λ_ _ _ _ _=>by exact(Bo d22 hr (Af (qv 0) (Af (qv 1) Ad)))))) Ad))))))) By)
  (Ai (Dv (QW.qt (Ks (Av2 (qv 1) Ag5) (Jh (En (Bh (Kq:=K) rfl rfl z7 (Af (qv 1) (Af (Cm (v:=.ty "str") rfl zU S5 rfl) Ad))))))) (Am (Bd (Qo (Nm hu (qv 0) (qv 1)) (Qd (Nm hu (Bh (Kq:=K) rfl rfl z7 (Af (qv 0) (Af (Cm (v:=.ty "str") rfl zU S5 rfl) Ad))) (Bh (Kq:=K) rfl rfl z7 (Af (qv 1) (Af (Cm (v:=.ty "str") rfl zU S5 rfl) Ad)))))))) By)
  (Ai (Dv (En (Bh (Kq:=K) rfl rfl z7 (Af (qv 1) (Af (Cm (v:=.ty "bool") rfl zP Rg rfl) Ad)))) (Am (Bd (Qo (Bh (Kq:=K) rfl rfl z7 (Af (qv 0) (Af (Cm (v:=.ty "bool") rfl zP Rg rfl) Ad))) (Qd (Nm hu (qv 0) (qv 1)))))) By)
  (Am (Bd (Qo (Bh (Kq:=K) rfl rfl z7 (Af (qv 0) (Af (Cm (v:=.ty "int") rfl zL Ad0 rfl) Ad))) (Qo (A8m (Bh (Kq:=K) rfl rfl z7 (Af (qv 0) (Af (Cm (v:=.ty "bool") rfl zP Rg rfl) Ad)))) (Qd (Nm hu (qv 0) (qv 1)))))))))) ?_
 exact De (Ay (Eb (Km (Ao3 .list .tuple Aa)) (Ay (Eb (La (Bq (Aj (Eg .list Aa) (Eg .list Aa) J1)) (Bq (Aj (Eg .tuple Aa) (Eg .tuple Aa) J1))) (Bf (Aw rfl)) Cg)
  (Bf (Lk (Aj (Dp Aa) (Dp Aa) Ew) (Cj (Hr (by decide) (A9z Aa Aa) (Ax6 (Ov Aq (Ov Aq Aj8))) Gk (Ar (Ac Aa (Ac Aa Ao)))) Kd)))) Cg)
  (Ay (Eb (La (Bq (Aj Aa (Aw rfl) Al0)) (Km (Eg .str Aa))) (Bf (Lk (Aj Aa Aa Ew) (Aj (Eg .str Aa) (Eg .str Aa) Ew))) Cg)
  (Ay (Eb (Km (Eg .bool Aa)) (Bf (Lk (Eg .bool Aa) (Aj Aa Aa Ew))) Cg)
  (Bf (Lk (Eg .int Aa) (Lk (A6a (Eg .bool Aa)) (Aj Aa Aa Ew))))))) h
theorem T4 (F:Fun K "_law_same" "_law_same" Ot f fd) (bF:Binds K fd [lN, "_law_due"] []) (mF:mg "_law_same" = some (.ref f)) (zH:mg "all" = none) (zP:mg "bool" = none) (zL:mg "int" = none) (z7:mg "isinstance" = none) (z8:mg "len" = none) (zF:mg "list" = none) (zU:mg "str" = none) (z9:mg "tuple" = none) (yG:mg "zip" = none):∀n:Nat,FnOk P w K mg base CX0 (n) f fd [lN, "_law_due"] (spP K (Bm n))
 | 0=>Bb3
 | n+1=>Av0 F ⟨f,fd,T4 F bF mF zH zP zL z7 z8 zF zU z9 yG n,bF,F.kp,mF⟩ zH zP zL z7 z8 zF zU z9 yG
theorem Ae5 (F:Fun K "_law_alike" "_law_alike" Px f fd) (d21:Def P w K mg base "_law_in" 1 [lL, lQ, lK] (spP K Ir)) (zN:mg "enumerate" = none):FnOk P w K mg base CX0 2 f fd [lL, lK] (spP K Ij):=by
 refine F.ok zV (λ_ _ _ _=>Dc) (λcdv A outer s H vs Q E hr h=>?_)
 have hu:=hr.units;have hgd:=hr.gd
 refine Hc (Ai (Cv (i:=2) zV.nd (Fe Ad))
  (Ai (Jd PassesOwn.never rfl (Ai3 rfl zN (Af (Bl (Kq:=K) rfl (qv 0) Ag Bc) Ad)) (Ab9 (Kq:=K) rfl (n:=2) rfl (Jt (Br (i:=3) zV.nd) (Jt (Br (i:=4) zV.nd) Wz))) (Ai (by exact(Uh (i:=5) zV.nd rfl (Or.inl rfl) (N':=[lP, lL, lK, lQ]) (idx:=[none,some 0,some 1,some 4]) Eu rfl (Fq (Kq:=K) rfl (qv 2)) (λ_ _ _ _ _=>by exact(Br (i:=0) (by show ([lP, lL, lK, lQ]:List Str).Nodup;decide +kernel))) (λ_ _ _ _ _=>by exact(Xi (Qz hu (Bo d21 hr (Af (qv 1) (Af (Bl (Kq:=K) rfl (Bl (Kq:=K) rfl (qv 1) Ag Bc) (Bl (Kq:=K) rfl (qv 0) Ag Bc) Aq4) (Af (qv 2) Ad)))) (Bo d21 hr (Af (qv 1) (Af (qv 3) (Af (qv 2) Ad))))))) (λ_ _ _ _ _=>by exact(qv 0))))
  (Am (Dv (Qz hu (qv 5) (Fe Ad)) (Am (J6 (G7 (Kq:=K) rfl (qv 2) (Fe (Af (qv 3) Ad))))) (Am (J6 (G7 (Kq:=K) rfl (Bl (Kq:=K) rfl (qv 5) Ag Bc) (qv 3))))))))
  (Am (Bd (qv 2))))) ?_
 exact De (A9a (idx:=[none,some 0,some 1,some 4]) (by decide) (Am1 (Aj Aa (Aw rfl) Be)) (Bq (Aj (Ar (Ac Aa (Ac (Aj (Aj Aa (Aw rfl) Be) (Aj Aa (Aw rfl) Be) Be) (Ac Aa Ao)))) (Ar (Ac Aa (Ac Aa (Ac Aa Ao)))) Ew)) (Bq (Aj Aa (G5 Ao) Ew))) h
theorem A9d (F:Fun K "law" "law" A1v f fd) (d9:yT1 P w K mg base) (d10:Def P w K mg base "is_key" 6 ["table", "names"] (spP K Gw)) (d12:Def P w K mg base "_law_box" 2 [lM, "_law_k"] (spP K Kz)) (d13:yT0 P w K mg base) (d19:Def P w K mg base "_law_any_table" 5 [lH] (spP K Fd)) (d20:Def P w K mg base "_law_some_columns" 2 [lH, "_law_columns"] (spP K Cr)) (d22:Def P w K mg base "_law_same" 5 [lN, "_law_due"] (spP K (Bm 5))) (d23:Def P w K mg base "_law_alike" 2 [lL, lK] (spP K Ij)) (zH:mg "all" = none) (zL:mg "int" = none) (z8:mg "len" = none) (zF:mg "list" = none) (yN:mg "min" = none) (zG:mg "range" = none) (z9:mg "tuple" = none):FnOk P w K mg base CX0 7 f fd [lM] (spP K Ag4):=by
 refine F.ok zJ (λ_ _ _ _=>Dc) (λcdv A outer s H vs Q E hr h=>?_)
 have hu:=hr.units;have hgd:=hr.gd
 refine Hc (Ai (Jd PassesOwn.never rfl (Hw rfl zG (Af (Gm Ag (Xb (Kq:=K) rfl rfl rfl yN (Af Ag (Af (Do (Kq:=K) rfl rfl z8 (Af (qv 0) Ad)) Ad)))) Ad)) (Br (i:=1) zJ.nd) (Ai (Cv (i:=2) zJ.nd (Bo d12 hr (Af (qv 0) (Af (qv 1) Ad))))
  (Ai (Cv (i:=3) zJ.nd (Bo d19 hr (Af (qv 2) Ad)))
  (Ai (Jd PassesOwn.never rfl (Hw rfl zG (Af Ag Ad)) (Br (i:=4) zJ.nd) (Ai (Cv (i:=5) zJ.nd (Bo d20 hr (Af (qv 2) (Af (Bl (Kq:=K) rfl (qv 3) Ag Bc) Ad))))
  (Ai (Cv (i:=6) zJ.nd (Bo d23 hr (Af (qv 3) (Af (qv 5) Ad))))
  (Ai (Cv (i:=7) zJ.nd (Bl (Kq:=K) rfl (Fe (Af (Hh (Kq:=K) rfl rfl zF (Af (qv 5) Ad)) (Af (Dk (Kq:=K) rfl rfl z9 (Af (qv 5) Ad)) Ad))) (Bo d13 hr (Af (qv 2) (Af Ag Ad))) Fb))
  (Ai (Jd PassesOwn.never rfl (Hw rfl zG (Af Ag Ad)) (Br (i:=8) zJ.nd) (Ai (Cv (i:=9) zJ.nd (Bo d9 hr (Af (qv 3) (Af (qv 7) Ad))))
  (Ai (Dv (QW.qt (Ks (Gv (En (Bo d22 hr (Af (qv 9) (Af (qv 6) Ad))))) (Jh (Qy hu (Hh (Kq:=K) rfl rfl zF (Af (qv 7) Ad)) (qv 5))))) (Am (Bd Hz)) By)
  (Ai (Jd PassesOwn.never rfl (Fq (Kq:=K) rfl (qv 9)) (Br (i:=10) zJ.nd) (Am (J6 (G7 (Kq:=K) rfl (qv 10) Ag))))
  (Am (J6 (G7 (Kq:=K) rfl (qv 9) (Fe (Af Ag Ad)))))))))
  (Ai (Dv (Gv (En (Bo d22 hr (Af (Bo d10 hr (Af (qv 3) (Af (qv 7) Ad))) (Af (Eh (Kq:=K) rfl rfl rfl zH (Af (by exact(Iu (N':=[lP]) (idx:=[none]) Eu rfl (Fq (Kq:=K) rfl (qv 6)) (λ_ _ _ _ _=>by exact(Br (i:=0) (by show ([lP]:List Str).Nodup;decide +kernel))) qtN (λ_ _ _ _ _=>by exact(Nm hu (Do (Kq:=K) rfl rfl z8 (Af (qv 0) Ad)) Ag)))) Ad)) Ad))))) (Am (Bd Hz)) By)
  (Ai (Cv (i:=11) zJ.nd (Gm (qv 5) (Ax9 (Kq:=K) rfl (by exact(Iu (N':=["_law_name", lK]) (idx:=[none,some 5]) Eu rfl (Fq (Kq:=K) rfl (Bl (Kq:=K) rfl (qv 3) Ag Bc)) (λ_ _ _ _ _=>by exact(Br (i:=0) (by show (["_law_name", lK]:List Str).Nodup;decide +kernel))) (λ_ _ _ _ _=>by exact(Xi (Ke hu (qv 0) (qv 1) (by with_unfolding_all rfl)))) (λ_ _ _ _ _=>by exact(qv 0)))) Xa (Rp Ag))))
  (Am (Jd PassesOwn.never rfl (Fq (Kq:=K) rfl (Bo d9 hr (Af (qv 3) (Af (qv 11) Ad)))) (Br (i:=10) zJ.nd) (Am (Dv (Qy hu (Do (Kq:=K) rfl rfl z8 (Af (by exact(Iu (N':=["_law_one", lP]) (idx:=[none,some 10]) Eu rfl (Fq (Kq:=K) rfl (qv 6)) (λ_ _ _ _ _=>by exact(Br (i:=0) (by show (["_law_one", lP]:List Str).Nodup;decide +kernel))) (λ_ _ _ _ _=>by exact(Xi (QW.qt (A0q (A7l hu (Bl (Kq:=K) rfl (qv 1) Ag Bc) (qv 0) (by with_unfolding_all rfl)) (Am3 (A7l hu (Bl (Kq:=K) rfl (qv 1) (A2f Ag) A2v) (qv 0) (by with_unfolding_all rfl))))))) (λ_ _ _ _ _=>by exact(qv 0)))) Ad)) Ag) (Am (Bd Hz)) By)))))))))))
  (Ai (Cv (i:=5) zJ.nd (Bo d20 hr (Af (qv 2) (Af (Bl (Kq:=K) rfl (qv 3) Ag Bc) Ad))))
  (Ai (Jd PassesOwn.never rfl (Fq (Kq:=K) rfl (M9 (Af (qv 3) (Af (M9 (Af (Bl (Kq:=K) rfl (qv 3) Ag Bc) (Af (Ax9 (Kq:=K) rfl (Bl (Kq:=K) rfl (qv 3) Ag Bc) (Rp Ag) Xa) Ad))) (Af (M9 (Af (Bl (Kq:=K) rfl (qv 3) Ag Bc) (Af (A8y (Kq:=K) rfl (Bl (Kq:=K) rfl (qv 3) Ag Bc) (Rp (A2f Ag))) Ad))) (Af (qv 3) Ad)))))) (Br (i:=10) zJ.nd) (Ai (Cv (i:=6) zJ.nd (Bo d23 hr (Af (qv 10) (Af (qv 5) Ad))))
  (Am (Dv (QW.qt (Ks (Gv (En (Bo d22 hr (Af (Bo d9 hr (Af (qv 10) (Af (qv 5) Ad))) (Af (qv 6) Ad))))) (Jh (Qy hu (Bo d10 hr (Af (qv 10) (Af (qv 5) Ad))) (Nm hu (Do (Kq:=K) rfl rfl z8 (Af (qv 6) Ad)) (Do (Kq:=K) rfl rfl z8 (Af (Bl (Kq:=K) rfl (qv 10) Ag Bc) Ad))))))) (Am (Bd Hz)) By))))
  (Am (Dv (Gv (En (Bo d22 hr (Af (Bo d9 hr (Af (qv 3) (Af (Fe Ad) Ad))) (Af (Av1 (Fe (Af (Ad1 rfl rfl zF rfl zG (Do (Kq:=K) rfl rfl z8 (Af (Bl (Kq:=K) rfl (qv 3) Ag Bc) Ad))) Ad)) (O3 (Kq:=K) rfl rfl zL (Af (Bi5 hu (Bl (Kq:=K) rfl (qv 3) Ag Bc) (M9 Ad)) Ad))) Ad))))) (Am (Bd Hz)) By))))))))
  (Am (Bd Hz))) ?_
 exact De (Ay (M4 (Lx (Aj (Aw rfl) (A6v (Aw rfl) (Dp Aa)) Es)) Aq (Ay (Cq (Ar (Ac Aa (Ac Aa Ao))) Aq)
  (Ay (Cq (Ar (Ac Aa Ao)) Aq)
  (Ay (M4 (Lx (Aw rfl)) Aq (Ay (Cq (Vn (Ar (Ac Aa (Ac (Aj Aa (Aw rfl) Be) Ao)))) Aq)
  (Ay (Cq (Vn (Ar (Ac Aa (Ac Aa Ao)))) Aq)
  (Ay (Cq (Aj (G5 (Ac (Cj Aa Sx) (Ac (Cj Aa Js) Ao))) (Ar (Ac Aa (Ac (Aw rfl) Ao))) Be) Aq)
  (Ay (M4 (Lx (Aw rfl)) Aq (Bc3 (Ar (Ac Aa (Ac Aa Ao))) (La (G8 (Km (Ar (Ac Aa (Ac Aa Ao))))) (Bq (Aj (Cj Aa Sx) Aa J1)))))
  (Ay (Eb (G8 (Km (Ar (Ac (Ar (Ac Aa (Ac Aa Ao))) (Ac (Cj (Hr (by decide) (Gq Aa) Aq Gk (Aj (Dp Aa) (Aw rfl) Ew)) Kd) Ao))))) (Bf (Aw rfl)) Cg)
  (Ay (Cq (Vn (Aj Aa (A2j (Hr (by decide) (Gq (Aj Aa (Aw rfl) Be)) Aq (Bq (Aj Aa Aa Pz)) Aa) Wt (Xk (Aw rfl)) Xg) Es)) Aq)
  (M4 (Gq (Ar (Ac Aa (Ac Aa Ao)))) Aq (Eb (Bq (Aj (Dp (Hr (by decide) (Gq Aa) Aq (Ay6 (Bq (Aj (Aj Aa (Aw rfl) Be) Aa Ad7)) (Bq (Aj (Aj Aa (Rr (Aw rfl) A4y) Be) Aa Ad7))) Aa)) (Aw rfl) J1)) (Bf (Aw rfl)) Cg)))))))))
  (Ay (Cq (Vn (Ar (Ac Aa (Ac (Aj Aa (Aw rfl) Be) Ao)))) Aq)
  (Ay (M4 (Gq (Ry (Ac Aa (Ac (Ry (Ac (Aj Aa (Aw rfl) Be) (Ac (A2j (Aj Aa (Aw rfl) Be) (Xk (Aw rfl)) Wt Xg) Ao))) (Ac (Ry (Ac (Aj Aa (Aw rfl) Be) (Ac (A9y (Aj Aa (Aw rfl) Be) λ_ _ _ h=>⟨1,rfl,-1,rfl,h⟩) Ao))) (Ac Aa Ao)))))) Aq (Ay (Cq (Vn (Ar (Ac Aa (Ac Aa Ao)))) Aq)
  (Eb (La (G8 (Km (Ar (Ac (Ar (Ac Aa (Ac Aa Ao))) (Ac Aa Ao))))) (Bq (Aj (Ar (Ac Aa (Ac Aa Ao))) (Aj (Dp Aa) (Dp (Aj Aa (Aw rfl) Be)) Ew) J1))) (Bf (Aw rfl)) Cg)))
  (Eb (G8 (Km (Ar (Ac (Ar (Ac Aa (Ac (G5 Ao) Ao))) (Ac (Aj (G5 (Ac (Rr (r:=λx H Q=>A6s [x] H λy H=>An0 [y] H Q) (Dp (Aj Aa (Aw rfl) Be)) Av6) Ao)) (Cj (Aj (Aj Aa (Aw rfl) Be) (Ry Ao) J1) Ak3) A2o) Ao))))) (Bf (Aw rfl)) Cg)))))))
  (Bf (Aw rfl))) h
end
theorem lnS {us:List Value}(h:us.length=n+1):∃x r,us=x::r/\r.length=n:=by
 cases us with
 | nil=>grind
 | cons x r=>grind
theorem ln1 {us:List Value}(h:us.length=1):∃x0,us=[x0]:=by
 obtain⟨x,r,a,b⟩:=lnS h
 simp_all
theorem ln2 {us:List Value}(h:us.length=2):∃c b,us=[c,b]:=by
 obtain⟨c,r,a,d⟩:=lnS h;obtain⟨b,a⟩:=ln1 d
 grind
theorem ln3 {us:List Value}(h:us.length=3):∃c d b,us=[c,d,b]:=by
 obtain⟨c,r,a,e⟩:=lnS h;obtain⟨d,b,a⟩:=ln2 e
 grind
theorem ln4 {us:List Value}(h:us.length=4):∃c d e b,us=[c,d,e,b]:=by
 obtain⟨c,r,a,f⟩:=lnS h;obtain⟨d,e,b,a⟩:=ln3 f
 grind
theorem _root_.bi {st:Stmt}(F:L2.Fun K x qual st f d)(ps:List Str)(h:∀(i b e:Value) (g:Option Addr) (a c:Value) (us:List Value),us.length=ps.length->bindArgs (PySem.W.fnOf x qual (Iw st) (Hu st) (Az st) .none i b e g a c) ⟨us,[]⟩=pure (ps.zip us):=by intro _ _ _ _ _ _ us hl;first | (obtain⟨_,rfl⟩:=ln1 hl;rfl) | (obtain⟨_,_,rfl⟩:=ln2 hl;rfl) | (obtain⟨_,_,_,rfl⟩:=ln3 hl;rfl) | (obtain⟨_,_,_,_,rfl⟩:=ln4 hl;rfl)):L2.Binds K d ps []:=F.binds h
theorem mkD (a:FnOk P w K mg base CX0 k f d ps sp) (b:Binds K d ps []) (c:PySem.W.keepIn K (.ref f)=true) (g:mg x=some (.ref f)):Def P w K mg base x k ps sp:=⟨f,d,a,b,c,g⟩
theorem Dd (T:PyProof.Rows.Top q loose g mg j h) (k:∀a o,h.get? a=some o->Hm o=true->o.data≠.fields #[]->K.lookup a=some o) (l:(PyProof.Rows.recsOf q).map (λd=>(d.name,d.params,d.body,d.scope))=L) {i:Nat} (e:L[i]?=some (x,Iw st,Hu st,Az st)):∃f fd,Fun K x x st f fd/\mg x=some (.ref f):=by
 obtain⟨d,m,rfl,a,b,c⟩:=A0i l e;exact A5v T k m a b c
abbrev rr (x:Str)(i:Nat):Str×Arguments×List Stmt×Scope:=(x,Iw (top i),Hu (top i),Az (top i))
theorem A8r {l:PySem.W.OpenLaw}{w:World}{q:Program}{loose:List Str}{mean:ExcName->Option Value}{mg mb:Str->Option Value}{h:Heap}{fa:Addr}(T:PyProof.Rows.Top q loose mean mg mb h)(hfa:mg "law" = some (.ref fa))
 (hlaw:∀ns:List Int,ns.length<=63->Ag4 [.sc ns]=.ret (.im (.bool true)) [.sc ns])
 (hR:(PyProof.Rows.recsOf q).map (λd=>(d.name,d.params,d.body,d.scope))=[rr "has_plain_signs" 4,rr "is_value" 5,rr "is_name" 9,rr "are_columns" 10,rr "is_row" 11,rr "is_table" 12,rr "place_of" 13,rr "places_of" 14,rr "values_at" 15,rr "alike" 16,rr "is_key" 17,rr "_law_cell_at" 19,rr "_law_box" 20,rr "_law_take" 21,rr "_law_many" 22,rr "_law_names" 23,rr "_law_value" 24,rr "_law_pool" 25,rr "_law_table" 26,rr "_law_any_table" 27,rr "_law_some_columns" 28,rr "_law_in" 29,rr "_law_same" 30,rr "_law_alike" 31,rr "law" 32])
 (hB:(["abs", "all", "bool", "enumerate", "int", "isinstance", "len", "list", "min", "range", "set", "str", "tuple", "zip"]:List Str).all (Aw2 q loose ["has_plain_signs", "is_value", "is_name", "are_columns", "is_row", "is_table", "place_of", "places_of", "values_at", "alike", "is_key", "_law_cell_at", "_law_box", "_law_take", "_law_many", "_law_names", "_law_value", "_law_pool", "_law_table", "_law_any_table", "_law_some_columns", "_law_in", lR, "_law_alike", "law"])=true)
 (hc_LETTERS:PyProof.Rows.valOf q "LETTERS" = some (PyData.str "abcdefghijklmnopqrstuvwxyz"))
 (hc_LONGEST_NAME:PyProof.Rows.valOf q "LONGEST_NAME" = some (PyData.int 8)) :
 ∃(K:PySem.W.Frag) (fd:FuncData),K.In h/\TabAt K h/\(∀(s:Shared) (v:Value),BindsTo s fd ⟨[v],[]⟩ [("_law_script",v)])/\∀base:Heap,K.In base->base.Ns mainGlobals mg->FnOk l.prog w K mg base CX0 7 fa fd [lM] (Ak2 K):=by
 obtain⟨kin,tab,_,hK⟩:=Bh0 (h:=h) (tabs:=[]) (λt m=>nomatch m) (λt m=>nomatch m)
 generalize Nr h []=K at *
 obtain⟨f1,fd1,F1,g1⟩:=Dd T hK hR (st:=Gh) (i:=0) rfl;have b1:=bi F1 ["text"];obtain⟨f2,fd2,F2,g2⟩:=Dd T hK hR (st:=M7) (i:=1) rfl;have b2:=bi F2 ["thing"];obtain⟨f3,fd3,F3,g3⟩:=Dd T hK hR (st:=Qc) (i:=2) rfl;have b3:=bi F3 ["thing"];obtain⟨f4,fd4,F4,g4⟩:=Dd T hK hR (st:=Je) (i:=3) rfl;have b4:=bi F4 ["thing"];obtain⟨f5,fd5,F5,g5⟩:=Dd T hK hR (st:=Ub) (i:=4) rfl;have b5:=bi F5 ["thing", "width"];obtain⟨f6,fd6,F6,g6⟩:=Dd T hK hR (st:=Nb) (i:=5) rfl;have b6:=bi F6 ["thing"];obtain⟨f7,fd7,F7,g7⟩:=Dd T hK hR (st:=Ms) (i:=6) rfl;have b7:=bi F7 ["table", "name"];obtain⟨f8,fd8,F8,g8⟩:=Dd T hK hR (st:=K6) (i:=7) rfl;have b8:=bi F8 ["table", "names"];obtain⟨f9,fd9,F9,g9⟩:=Dd T hK hR (st:=K8) (i:=8) rfl;have b9:=bi F9 ["row", "places"];obtain⟨f10,fd10,F10,g10⟩:=Dd T hK hR (st:=Wl) (i:=9) rfl;have b10:=bi F10 ["table", "names"];obtain⟨f11,fd11,F11,g11⟩:=Dd T hK hR (st:=Tp) (i:=10) rfl;have b11:=bi F11 ["table", "names"];obtain⟨f12,fd12,F12,g12⟩:=Dd T hK hR (st:=Ko) (i:=11) rfl;have b12:=bi F12 [lM, "_law_k"];obtain⟨f13,fd13,F13,g13⟩:=Dd T hK hR (st:=We) (i:=12) rfl;have b13:=bi F13 [lM, "_law_k"];obtain⟨f14,fd14,F14,g14⟩:=Dd T hK hR (st:=Sq) (i:=13) rfl;have b14:=bi F14 [lH, lJ];obtain⟨f15,fd15,F15,g15⟩:=Dd T hK hR (st:=Ss) (i:=14) rfl;have b15:=bi F15 [lH, "_law_least", "_law_few", "_law_most"];obtain⟨f16,fd16,F16,g16⟩:=Dd T hK hR (st:=Pg) (i:=15) rfl;have b16:=bi F16 [lH, lJ];obtain⟨f17,fd17,F17,g17⟩:=Dd T hK hR (st:=Pu) (i:=16) rfl;have b17:=bi F17 [lH];obtain⟨f18,fd18,F18,g18⟩:=Dd T hK hR (st:=Sg) (i:=17) rfl;have b18:=bi F18 [lH, lJ];obtain⟨f19,fd19,F19,g19⟩:=Dd T hK hR (st:=Qf) (i:=18) rfl;have b19:=bi F19 [lH, lJ, "_law_rows"];obtain⟨f20,fd20,F20,g20⟩:=Dd T hK hR (st:=Jk) (i:=19) rfl;have b20:=bi F20 [lH];obtain⟨f21,fd21,F21,g21⟩:=Dd T hK hR (st:=Gx) (i:=20) rfl;have b21:=bi F21 [lH, "_law_columns"];obtain⟨f22,fd22,F22,g22⟩:=Dd T hK hR (st:=Ag1) (i:=21) rfl;have b22:=bi F22 [lL, lQ, lK];obtain⟨f23,fd23,F23,g23⟩:=Dd T hK hR (st:=Ot) (i:=22) rfl;have b23:=bi F23 [lN, "_law_due"];obtain⟨f24,fd24,F24,g24⟩:=Dd T hK hR (st:=Px) (i:=23) rfl;have b24:=bi F24 [lL, lK];obtain⟨f25,fd25,F25,g25⟩:=Dd T hK hR (st:=A1v) (i:=24) rfl;have b25:=bi F25 [lM]
 have yK:=Ds (x := "abs") T (Cz hR) hB (by simp)
 have zH:=Ds (x := "all") T (Cz hR) hB (by simp)
 have zP:=Ds (x := "bool") T (Cz hR) hB (by simp)
 have zN:=Ds (x := "enumerate") T (Cz hR) hB (by simp)
 have zL:=Ds (x := "int") T (Cz hR) hB (by simp)
 have z7:=Ds (x := "isinstance") T (Cz hR) hB (by simp)
 have z8:=Ds (x := "len") T (Cz hR) hB (by simp)
 have zF:=Ds (x := "list") T (Cz hR) hB (by simp)
 have yN:=Ds (x := "min") T (Cz hR) hB (by simp)
 have zG:=Ds (x := "range") T (Cz hR) hB (by simp)
 have yM:=Ds (x := "set") T (Cz hR) hB (by simp)
 have zU:=Ds (x := "str") T (Cz hR) hB (by simp)
 have z9:=Ds (x := "tuple") T (Cz hR) hB (by simp)
 have yG:=Ds (x := "zip") T (Cz hR) hB (by simp)
 have yF:∃t,mg "LETTERS" = some (Value.str "abcdefghijklmnopqrstuvwxyz" t):=Aq5 T hc_LETTERS;have zW:∃t,mg "LONGEST_NAME" = some (Value.int 8 t):=const_int T hc_LONGEST_NAME;have e:=hfa.symm.trans g25
 cases e
 refine⟨K,fd25,kin,tab,A2l F25 (λkV dc pm an cd ct s v=>.of_eq rfl),λbase _ _=>?_⟩
 have M:∀{k f fd x ps sp},FnOk l.prog w K mg base CX0 k f fd ps sp->Binds K fd ps []->PySem.W.keepIn K (.ref f)=true->mg x=some (.ref f)->Def l.prog w K mg base x k ps sp:=mkD;have d0:=M (M3 F1 zH) b1 F1.kp g1;have d1:=M (Zz F2 d0 zP zL z7 zU) b2 F2.kp g2;have d2:=M (Ag6 F3 zH z7 z8 zU yF zW) b3 F3.kp g3;have d3:=M (Ud F4 d2 zH z7 z8 yM z9) b4 F4.kp g4;have d4:=M (Ar8 F5 d1 zH z7 z8 z9) b5 F5.kp g5;have d5:=M (Za F6 d3 d4 zH z7 z8 z9) b6 F6.kp g6;have d6:=M (Aa1 F7 ) b7 F7.kp g7;have d7:=M (Wr F8 d6) b8 F8.kp g8;have d8:=M (V2 F9 z9) b9 F9.kp g9;have d9:=M (A1l F10 d7 d8 zN zF) b10 F10.kp g10;have d10:=M (Ar1 F11 d5 d9 z7 z8 zF z9) b11 F11.kp g11;have d11:=M (V5 F12 z8) b12 F12.kp g12;have d12:=M (Az7 F13 d11 yK zL) b13 F13.kp g13;have d13:=M (Ao4 F14 ) b14 F14.kp g14;have d14:=M (As3 F15 d13) b15 F15.kp g15;have d15:=M (Ab8 F16 d13 z8 zG) b16 F16.kp g16;have d16:=M (Ad3 F17 d13) b17 F17.kp g17;have d17:=M (At9 F18 d16 zG) b18 F18.kp g18;have d18:=M (Ad9 F19 d13 d15 d17 z8 zG z9) b19 F19.kp g19;have d19:=M (Sv F20 d14 d18) b20 F20.kp g20;have d20:=M (Oz F21 d13 z8 zF) b21 F21.kp g21;have d21:=M (A4k F22 z9) b22 F22.kp g22;have d22:Def l.prog w K mg base "_law_same" 5 [lN, "_law_due"] (spP K (Bm 5)):=mkD (T4 F23 b23 g23 zH zP zL z7 z8 zF zU z9 yG 5) b23 F23.kp g23;have d23:=M (Ae5 F24 d21 zN) b24 F24.kp g24
 exact(A9d F25 d9 d10 d12 d13 d19 d20 d22 d23 zH zL z8 zF yN zG z9).imp λvs H Q E h=>A8k hlaw h
theorem walk {l:PySem.W.OpenLaw}{q:Program}{loose:List Str}{XP:(Str->Option Value)->Heap->Prop}{YP:World->Heap->Prop}{d:DefRec}(hn:l.most=some 63)(hdf:d.params.defaults=[])
 (F:∀(w:World) (mean:ExcName->Option Value) (mg mb:Str->Option Value) (fa:Addr) (h:Heap),PyProof.Rows.Top q (PySem.W.looseW q loose) mean mg mb h->mg d.name=some (.ref fa) ->
  ∃(K:PySem.W.Frag) (fd:FuncData),K.In h/\TabAt K h/\(∀(s:Shared) (u:Value),BindsTo s fd ⟨[u],[]⟩ [("_law_script",u)])/\∀base:Heap,K.In base->base.Ns mainGlobals mg->FnOk l.prog w K mg base CX0 7 fa fd [lM] (Ak2 K)) :
 PySem.W.WalkO q loose XP YP l.row.toRowW d [] (λf vs=>PySem.call f vs) :=
 L2.walk_ofH (n:=63) (k:=7) (x := "_law_script") (sp:=Ak2) hn (by decide) hdf ⟨rfl,by decide,by decide,rfl⟩ F λ_ _ a ns hl hS=>⟨a,ns,rfl,hS,hl,λ_=>rfl⟩
end K
open PySem PySem.W PyProof.Rows
set_option maxHeartbeats 0
namespace K
noncomputable def dOf:Stmt->DefRec
 | .FunctionDef _ a b _ _ _ s _ _ p=>⟨"law",a,b,s,p⟩
 | _=>⟨"law",⟨[],[],none,[],[],none,[]⟩,[],default,default⟩
def dL:DefRec:=⟨"law",(dOf (top 32)).params,(dOf (top 32)).body,(dOf (top 32)).scope,(dOf (top 32)).pos⟩
theorem Bh4:rwT.wellSaid=true:=by kernel_rfl
theorem Bn8:defOf qT rwT.row.name=some (dL,[]):=by kernel_rfl
theorem Bn0:rwT.row.prog.theDef rwT.row.name=some (dL.params,dL.body,dL.scope):=by trivial
theorem kwT:kwWritten? dL.params.kwonlyargs dL.params.kw_defaults=some []:=by trivial
theorem okT:(chainsOk qT&&opensWell rwT.row.prog&&(frees rwT.row.toRowW&&rwT.row.within.isEmpty))=true:=by trivial
theorem dfT:dL.params.defaults=[]:=by rfl
theorem Bg0:rwT.row.prog.bare:=⟨rfl,rfl,rfl,rfl,rfl,by decide +kernel⟩
theorem Bh5:rwT.row.toRowW.promised:=by w_witness2
end K
theorem PySem.Challenge.cw_pivotfold_k05_rows_that_agree_holds : PySem.Challenge.rw_pivotfold_k05_rows_that_agree.Holds := by
 refine holds_law K.Bh4 λsaid=>?_
 refine holds_open (q:=K.qT) (loose:=[]) (Xt:=K.xtT) (XP:=XL K.qT []) (Yf:=Hook.none.obs) (Ya:=Hook.none.val) (YP:=Hook.none.says) (N:=20000) K.Bj1 Hook.none.of Hook.none.keeps (λs e=>xl_of s (Bool.and_eq_true_iff.mp e).1) XL.keeps K.Bn8 K.Bn0 K.kwT (λs e=>recFacts_of (Bool.and_eq_true_iff.mp e).2) rfl said K.okT K.Bg0 K.Bh5 ?_
 refine K.walk (l:=PySem.Challenge.rw_pivotfold_k05_rows_that_agree) rfl K.dfT ?F
 case F =>
  intro w mean mg mb fa h T hmg
  refine K.A8r T hmg K.Ay5 ?R ?B ?yF ?zW
  (case R=>kernel_rfl); (case B=>kernel_rfl); (case yF=>kernel_rfl); (case zW=>kernel_rfl)
end
