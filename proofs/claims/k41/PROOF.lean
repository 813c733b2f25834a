import PyProof.Rows.All
import PyProof.FactsAll.NoneType_1
import Wide.All
import OpenK.AllK
import Wide.FinOn
import Lean
import PyProof.EqAt
import PyProof.EqKinds
import PyProof.TupleCall
import PyProof.StrWalks
import PyProof.StrLawsRepr
import PyProof.ListMulRoad
import PyProof.StrOps2
import PyProof.CallStr
import PyProof.CollectStr
import PyProof.TupleOfSeq
import PyProof.DictTable
import KE.KSortTup
import PyProof.MeetsStr
import PyProof.FactsAll.str_5
import PyProof.StrBlockG
import PyProof.AttrMiss
import PyProof.FactsAll.zip_1
import KE.KDictOf
import PyProof.AttrMissHeap
import KE.KTryMore
import KE.KRevIter
import PyProof.ListRange
import PyProof.FactsAll.dict_3
import PyProof.MeetsDict
import PyProof.FactsAll.dict_keyiterator
import PyProof.DictItems
import PyProof.DictValues
import KE.KPairComp
import PyProof.TupleOfStr
import PyProof.TupleOfGen
import PyProof.DictWalks
import PySem.Challenge.RW_pivotfold_k41_unnested
set_option genInjectivity false
set_option genSizeOf false
set_option Elab.async false
set_option linter.all false
set_option maxRecDepth 100000
noncomputable section
namespace L2
open PySem PySem.Spec PyProof.Rows PySem.W
abbrev bmV:List Value:=[.type "ValueError",.type "Exception",.type "BaseException",.type "object"]
def xcB (K:Frag)(C:Addr):Bool:=excIn K C bmV "ValueError.__new__" && (findIn K (.ref C) "__getattribute__" == some (some (.builtin "BaseException.__getattribute__"))&&(findIn K (.ref C) "__getattr__" == some none&&findIn K (.ref C) "__class__" == some (some (.builtin "object.__class__"))))
def clB (K:Frag)(x:Str)(p:Addr->Bool):Bool:=match nsIn K mainGlobals x with
 | some (some (.ref C))=>p C
 | _=>false
def tbB (K:Frag)(z:Value)(tbl:List (Str×Bool)):Bool:=tbl.all fun p=>clB K p.1 fun C=>xcB K C&&kitOne K (.ref C) z==some p.2
def exB (K:Frag)(F:Addr)(NS:List Str):Bool:=NS.all fun x=>clB K x fun C=>exmOne K (.ref C) (.ref F)==some true
def Bc3 (o:Obj):Bool:=match o.data with
 | .cls _=>true
 | .dict _ _=>true
 | _=>false
def A6r (l:List Nat)(h:Heap):Frag:=l.filterMap fun a=>((h.get? a).bind fun o=>if Bc3 o=true then some o else none).map fun o=>(a,o)
def cfB (R:List Str)(T:List (Str×List (Str×Bool)))(V:List (Str×Bool))(F:List Str)(K:Frag):Bool :=
 (R.all fun x=>clB K x fun C=>excIn K C bmV "ValueError.__new__")&&((T.all fun q=>clB K q.1 fun C=>tbB K (.ref C) q.2)&&(tbB K (.type "ValueError") V&&F.all fun x=>clB K x fun C=>exB K C R))
end L2
namespace K
open PySem PySem.W PyProof.Rows
def xcR:List Str:=["BadColumns"]
def xcT:List (Str×List (Str×Bool)):=[("BadColumns",[("BadColumns",true)]),("BadOrder",[("BadColumns",false)]),("BadRow",[("BadColumns",false)]),("BadWay",[("BadColumns",false)]),("Double",[("BadColumns",false)]),("NoColumn",[("BadColumns",false)]),("NoHead",[("BadColumns",false)]),("NoNumber",[("BadColumns",false)]),("NoPart",[("BadColumns",false)]),("NoRow",[("BadColumns",false)])]
def xcV:List (Str×Bool):=[("BadColumns",true)]
def xcF:List Str:=["FoldError"]
abbrev pwT:=PySem.Challenge.pw_pivotfold_k41_unnested
abbrev rwT:=PySem.Challenge.rw_pivotfold_k41_unnested
def Bn4:Stmt->Bool
 | .Assign [.Name n _] _ _=>!(["__name__"]:List Str).contains n
 | _=>true
def qT:Program:={ pwT with main:={ pwT.main with body:=pwT.main.body.filter Bn4 } }
abbrev xtT:Shared->Bool:=fun s=>xlAt qT [] s&&recOk (RowW.records rwT.row.toRowW) s&&L2.cfB xcR xcT xcV xcF (L2.A6r [3,37,36,24,23,49,166,61,147,128,97,73,85,109] s.heap)
set_option maxHeartbeats 0 in
theorem Br5:LeftO rwT.row.prog qT [] xtT Hook.none.obs Hook.none.val 20000:=fun w=>by kernel_rfl
end K
namespace L2
open PySem PySem.Spec PyProof.Rows
abbrev Key:=Sum Int Str
def M5:Key->Value->Bool
 | .inl k,v=>Value.isInt k v
 | .inr x,v=>Value.isStrOf x v
def Be7 (w:World):Key->Int
 | .inl k=>hashInt k
 | .inr x=>hashStr w x
theorem Dy:∀{k:Key}{v:Value},M5 k v=true->(∃i t,k=Sum.inl i/\v=Value.int i t)\/(∃x t,k=Sum.inr x/\v=Value.str x t)
 | .inl i,v,h=>by
  obtain⟨t,e⟩:=Value.isInt_shape (k:=i) (v:=v) h;exact .inl ⟨i,t,rfl,e⟩
 | .inr x,v,h=>by
  obtain⟨t,e⟩:=Value.isStrOf_shape (x:=x) (v:=v) h;exact .inr ⟨x,t,rfl,e⟩
theorem Wb (i:Int)(t:Tok):M5 (.inl i) (.int i t)=true:=by simp[M5,Value.isInt]
theorem We (x:Str)(t:Tok):M5 (.inr x) (.str x t)=true:=by simp[M5,Value.isStrOf]
theorem Bm8 (a b:Int):decide ((Sum.inl a:Key)=Sum.inl b)=(a==b):=by
 grind
theorem Bb9 (a b:Str):decide ((Sum.inr a:Key)=Sum.inr b)=decide (a=b):=by
 grind
theorem Bh7 (a:Int)(b:Str):decide ((Sum.inl a:Key)=Sum.inr b)=false:=decide_eq_false fun q=>nomatch q
theorem Be8 (a:Str)(b:Int):decide ((Sum.inr a:Key)=Sum.inl b)=false:=decide_eq_false fun q=>nomatch q
def En (prog:Program)(w:World):PySem.KeyKind prog w Key where
 is:=M5
 hash:=Be7 w
 inj:=fun v a b ha hb=>by
  rcases Dy ha with ⟨i,t,rfl,rfl⟩ | ⟨x,t,rfl,rfl⟩
  ·rcases Dy hb with ⟨j,u,rfl,e⟩ | ⟨y,u,rfl,e⟩
   ·injection e with e1 _;rw[e1]
   ·exact nomatch e
  ·rcases Dy hb with ⟨j,u,rfl,e⟩ | ⟨y,u,rfl,e⟩
   ·exact nomatch e
   ·injection e with e1 _;rw[e1]
 byValue:=fun k v h=>by
  rcases Dy h with ⟨i,t,rfl,rfl⟩ | ⟨x,t,rfl,rfl⟩ <;> rfl
 pyHash:=fun hv h=>by
  rcases Dy hv with ⟨i,t,rfl,rfl⟩ | ⟨x,t,rfl,rfl⟩
  ·exact wpAny_pyHash_int h
  ·exact wpAny_pyHash_str h
 eqBool:=fun hu hv h=>by
  rcases Dy hu with ⟨i,t,rfl,rfl⟩ | ⟨x,t,rfl,rfl⟩
  ·rcases Dy hv with ⟨j,u,rfl,rfl⟩ | ⟨y,u,rfl,rfl⟩
   ·rw[Bm8]at h;exact wpAny_eqBool_int h
   ·rw[Bh7]at h;exact SeqAt.EqAt.int_str i t y u _ _ _ _ h
  ·rcases Dy hv with ⟨j,u,rfl,rfl⟩ | ⟨y,u,rfl,rfl⟩
   ·rw[Be8]at h;exact SeqAt.EqAt.str_int x t j u _ _ _ _ h
   ·rw[Bb9]at h;exact wpAny_eqBool_str h
 «strs»:=fun k x t v h=>by
  rcases Dy h with ⟨i,u,rfl,e⟩ | ⟨y,u,rfl,e⟩
  ·exact nomatch e
  ·injection e with e1 _
   subst e1
   cases v <;> rfl
theorem Q9 (prog:Program)(w:World)(i:Int)(t:Tok):(En prog w).is (.inl i) (.int i t)=true:=Wb i t
theorem Rf (prog:Program)(w:World)(x:Str)(t:Tok):(En prog w).is (.inr x) (.str x t)=true:=We x t
noncomputable instance Bu6:DecidableEq PyData:=fun a b=>Classical.propDecidable (a=b)
mutual
def keyB:PyData->Bool
 | .none=>true
 | .int _=>true
 | .str _=>true
 | .tuple ds=>Gj ds
 | _=>false
def Gj:List PyData->Bool
 | []=>true
 | d::ds=>keyB d&&Gj ds
end
mutual
theorem Pr:∀(x y:PyData),keyB x=true->keyB y=true->(PyData.eqv x y=true↔x=y)
 | .none,y,_,hy=>by cases y <;> simp_all [PyData.eqv,keyB]
 | .int _,y,_,hy=>by cases y <;> simp_all [PyData.eqv,keyB]
 | .str _,y,_,hy=>by cases y <;> simp_all [PyData.eqv,keyB]
 | .tuple xs,.tuple ys,hx,hy=>by
  have:=Ac4 xs ys hx hy
  show PyData.eqvAll xs ys=true↔_
  rw[this]
  exact⟨fun e=>by rw[e],fun e=>by cases e;rfl⟩
 | .tuple xs,.none,hx,hy=>⟨(fun e=>nomatch e),fun e=>nomatch e⟩
 | .tuple xs,.int _,hx,hy=>⟨(fun e=>nomatch e),fun e=>nomatch e⟩
 | .tuple xs,.str _,hx,hy=>⟨(fun e=>nomatch e),fun e=>nomatch e⟩
theorem Ac4:∀(xs ys:List PyData),Gj xs=true->Gj ys=true->(PyData.eqvAll xs ys=true↔xs=ys)
 | [],[],_,_=>⟨fun _=>rfl,fun _=>rfl⟩
 | [],_::_,_,_=>⟨(fun e=>nomatch e),fun e=>nomatch e⟩
 | _::_,[],_,_=>⟨(fun e=>nomatch e),fun e=>nomatch e⟩
 | x::xs,y::ys,hx,hy=>by
  obtain⟨a,b⟩:=Bool.and_eq_true_iff.mp (show (keyB x&&Gj xs)=true from hx)
  obtain⟨c,d⟩:=Bool.and_eq_true_iff.mp (show (keyB y&&Gj ys)=true from hy)
  show (PyData.eqv x y&&PyData.eqvAll xs ys)=true↔_
  rw[Bool.and_eq_true_iff,Pr x y a c,Ac4 xs ys b d,List.cons.injEq]
end
mutual
theorem Ui {h h':Heap}{d:Addr}{o:Obj}{es:Array DictEntry}{ep:Nat}(ho:h.get? d=some o)(hd:o.data=.dict es ep)(hs:Heap.SameBut d h h'):∀(k:PyData),keyB k=true->∀(v:Value) (as:List Addr),Reads h v k as->Reads h' v k as
 | .none,_,_,_,r=>by cases r;exact .none
 | .int i,_,_,_,r=>by cases r;exact .int _ _
 | .str x,_,_,_,r=>by cases r;exact .str _ _
 | .tuple ds,hk,_,_,r=>by
  cases r with
  | @tuple a o' vs n xs as h1 h2 h3 h4 =>
   refine .tuple ((hs.2 a ?_).trans h1) h2 h3 (Qx ho hd hs ds hk _ _ h4)
   intro e;rw[e,ho]at h1;cases h1;rw[hd]at h3;cases h3
theorem Qx {h h':Heap}{d:Addr}{o:Obj}{es:Array DictEntry}{ep:Nat}(ho:h.get? d=some o)(hd:o.data=.dict es ep)(hs:Heap.SameBut d h h'):∀(ks:List PyData),Gj ks=true->∀(vs:List Value) (as:List Addr),ReadsAll h vs ks as->ReadsAll h' vs ks as
 | [],_,_,_,r=>by cases r;exact .nil
 | k::ks,hk,_,_,r=>by
  obtain⟨a,b⟩:=Bool.and_eq_true_iff.mp (show (keyB k&&Gj ks)=true from hk)
  cases r with
  | cons r1 r2=>exact .cons (Ui ho hd hs k a _ _ r1) (Qx ho hd hs ks b _ _ r2)
end
mutual
def Zi (w:World):PyData->Int
 | .none=>hashInt 0xFCA86420
 | .int i=>Be7 w (.inl i)
 | .str x=>Be7 w (.inr x)
 | .tuple ds=>reduceHash (Builtin.Tuple.tupleHashOf (J8 w ds))
 | _=>0
def J8 (w:World):List PyData->List Int
 | []=>[]
 | d::ds=>Zi w d::J8 w ds
end
mutual
def Tt:PyData->Nat
 | .tuple ds=>K7 ds+1
 | _=>1
def K7:List PyData->Nat
 | []=>0
 | d::ds=>Tt d+K7 ds
end
section
variable {prog:Program}{w:World}
theorem Wh     (h:Q (hashInt 0xFCA86420) { s with toks:=s.toks+1 }):wpAny (model prog w) A (pyHash .none) Q E s:=by
 have a:s.TypeIs Value.none "NoneType" := rfl;unfold pyHash
 first | unfold pyHashByItsType | skip
 have b:[Value.none].any Value.onHeap=false:=rfl
 refine wpAny_bind ?_
 rw[cRoomFor,if_neg (by rw[b];exact Bool.false_ne_true)];refine wpAny_pure ?_
 refine wpAny_bind (wpAny_specialOf a F.slot_NoneType_hash.lookup ?_)
 show wpAny _ _ (if (some (Value.builtin "NoneType.__hash__")==some Value.none)=true then _ else _) Q E s
 rw[if_neg (by rw[beq_builtin_none];exact Bool.false_ne_true)]
 refine wpAny_bind (wpAny_specialOf a F.slot_NoneType_hash.lookup ?_)
 show wpAny _ _ (callSpecialIfBoundUnlessNone? .none "__hash__" _ >>= _) Q E s
 refine wpAny_bind (wpAny_callSpecialIfBoundUnlessNone?_slot a F.slot_NoneType_hash
  (wpAny_call_entry F.slot_NoneType_hash a F.entry_NoneType_hash
   (show wpAny _ _ (do ret (<- mkInt _)) _ _ s from wpAny_ret_mkInt ?_) (F.args_NoneType_hash_1 _)))
 exact wpAny_pure h
theorem At1:∀(n:Nat) (d:PyData),d.depth<=n->keyB d=true->∀(A:Around) (E:Value->Shared->Prop) (s:Shared) (v:Value) (y:List Addr) (Q:Int->Shared->Prop),A.units+n<cLine->Reads s.heap v d y ->
 Q (Zi w d) { s with toks:=s.toks+Tt d }->wpAny (model prog w) A (pyHash v) Q E s:=by
 intro n
 induction n with
 | zero =>
  intro d M j A E s v y Q C r h
  cases r with
  | none=>exact Wh h
  | int i t=>exact(En prog w).pyHash (k:=.inl i) (v:=.int i t) (Q9 prog w i t) h
  | str x t=>exact(En prog w).pyHash (k:=.inr x) (v:=.str x t) (Rf prog w x t) h
  | tuple=>exact absurd M (by simp[PyData.depth])
  | bool b=>cases j
  | list=>cases j
  | dict=>cases j
 | succ n Y =>
  intro d M j A E s v y Q C r h
  cases r with
  | none=>exact Wh h
  | int i t=>exact(En prog w).pyHash (k:=.inl i) (v:=.int i t) (Q9 prog w i t) h
  | str x t=>exact(En prog w).pyHash (k:=.inr x) (v:=.str x t) (Rf prog w x t) h
  | bool b=>cases j
  | list=>cases j
  | dict=>cases j
  | @tuple a o N n' g y R hc J U =>
   have G:s.TypeIs (.ref a) "tuple" := ⟨o,R,hc⟩
   have H:PyData.depthAll g<=n:=Nat.le_of_succ_le_succ (show PyData.depthAll g+1<=n+1 from M)
   have I:Gj g=true:=j;unfold pyHash
   first | unfold pyHashByItsType | skip
   first | refine wpAny_bind (wpAny_cRoomFor_or (.inr (Nat.lt_of_le_of_lt (Nat.le_add_right _ _) C)) ?_) | skip
   refine wpAny_bind (wpAny_specialOf G F.slot_tuple_hash.lookup ?_)
   show wpAny _ _ (if (some (Value.builtin "tuple.__hash__")==some Value.none)=true then _ else _) Q E s
   rw[if_neg (by rw[beq_builtin_none];exact Bool.false_ne_true)]
   refine wpAny_bind (wpAny_specialOf G F.slot_tuple_hash.lookup ?_)
   show wpAny _ _ (callSpecialIfBoundUnlessNone? (.ref a) "__hash__" _ >>= _) Q E s
   refine wpAny_bind (wpAny_callSpecialIfBoundUnlessNone?_slot G F.slot_tuple_hash (wpAny_call_entry F.slot_tuple_hash G F.entry_tuple_hash ?_ (F.args_tuple_hash_1 _)))
   show wpAny _ _ (Builtin.Tuple.tupleItemsOf (.ref a) >>= _) _ _ s
   refine wpAny_bind (wpAny_tupleItemsOf R J ?_)
   refine wpAny_bind ?_
   rw[<- Array.forIn_toList]
   refine wpAny_forIn_list _
    (fun m (b:Array Int) O=>∃c e K,J8 w g=c++J8 w e/\ReadsAll s.heap m e K/\Gj e=true/\PyData.depthAll e<=n/\b.toList=c/\∃k,k+K7 e=K7 g/\O={ s with toks:=s.toks+k })
    _ ?_ ?_ _ _ ⟨[],g,_,rfl,U,I,H,rfl,0,Nat.zero_add _,rfl⟩
   ·rintro x m b O ⟨c,e,K,z,L,q,p,B,k,D,rfl⟩
    cases L with
    | @cons _ _ l f V W X u =>
     obtain⟨Z,S⟩:=Bool.and_eq_true_iff.mp (show (keyB l&&Gj f)=true from q)
     have P:l.depth<=n/\PyData.depthAll f<=n:=by
      have:max l.depth (PyData.depthAll f)<=n:=p;omega
     refine wpAny_bind (Y l P.1 Z _ _ _ _ _ _ (by first | exact Nat.lt_of_le_of_lt (by simp;omega) C | (have:=C;simp at *;omega)) X ?_)
     first
      | exact wpAny_pure ⟨c++[Zi w l],f,_,by rw[z];simp[J8],u,S,P.2,by simp[B],k+Tt l,by rw[<- D];simp[K7,Nat.add_assoc],by simp[Nat.add_assoc]⟩
      | exact wpAny_bind (wpAny_pure (wpAny_pure ⟨c++[Zi w l],f,_,by rw[z];simp[J8],u,S,P.2,by simp[B],k+Tt l,by rw[<- D];simp[K7,Nat.add_assoc],by simp[Nat.add_assoc]⟩))
   ·rintro b O ⟨c,e,K,z,L,q,p,B,k,D,rfl⟩
    cases L
    have e2:J8 w g=c:=by rw[z];simp[J8]
    have T:k=K7 g:=D
    have h:Q (reduceHash (Builtin.Tuple.tupleHashOf (J8 w g))) { s with toks:=s.toks+(K7 g+1) }:=h
    rw[e2]at h;subst T
    show wpAny _ _ (retInt (Builtin.Tuple.tupleHashOf b.toList)) _ _ _
    rw[B]
    refine wpAny_ret_mkInt ?_
    show wpAny _ _ (if (decide (-(2:Int) ^ 63<=Builtin.Tuple.tupleHashOf c)&&decide (Builtin.Tuple.tupleHashOf c<2 ^ 63))=true then _ else _) Q E _
    unfold reduceHash at h
    by_cases hr:(decide (-(2:Int) ^ 63<=Builtin.Tuple.tupleHashOf c)&&decide (Builtin.Tuple.tupleHashOf c<2 ^ 63))=true
    ·rw[if_pos hr]
     rw[if_pos hr]at h
     exact wpAny_pure (by simpa[Nat.add_assoc] using h)
    ·rw[if_neg hr]
     rw[if_neg hr]at h
     exact wpAny_bind (wpAny_rule (wpAny_pure (by simpa[Nat.add_assoc] using h)))
theorem Ag4:∀(m:Nat) (d:PyData),d.depth<=m->keyB d=true->∀(A:Around) (E:Value->Shared->Prop) (s:Shared) (v:Value) (j:List Addr) (Q:Bool->Shared->Prop),Reads s.heap v d j->Q true s->wpAny (model prog w) A (eqIsQuiet (m+1) v) Q E s:=by
 intro m
 induction m with
 | zero =>
  intro d q f A E s v j Q r h
  cases r with
  | none=>rw[eqIsQuiet_byValue _ rfl];exact wpAny_pure h
  | int i t=>rw[eqIsQuiet_byValue _ rfl];exact wpAny_pure h
  | str x t=>rw[eqIsQuiet_byValue _ rfl];exact wpAny_pure h
  | tuple=>exact absurd q (by simp[PyData.depth])
  | bool b=>cases f
  | list=>cases f
  | dict=>cases f
 | succ n O =>
  intro d q f A E s v j Q r h
  cases r with
  | none=>rw[eqIsQuiet_byValue _ rfl];exact wpAny_pure h
  | int i t=>rw[eqIsQuiet_byValue _ rfl];exact wpAny_pure h
  | str x t=>rw[eqIsQuiet_byValue _ rfl];exact wpAny_pure h
  | bool b=>cases f
  | list=>cases f
  | dict=>cases f
  | @tuple a o y n' M j G L l U =>
   have D:s.TypeIs (.ref a) _:=⟨o,G,L⟩
   have p  := Nat.le_of_succ_le_succ (show PyData.depthAll _+1<=n+1 from q)
   unfold eqIsQuiet
   refine wpAny_bind (wpAny_specialOf D F.slot_tuple_eq.lookup ?_)
   refine wpAny_bind (wpAny_isInstance D isSubtype_tuple_tuple ?_)
   refine wpAny_bind (wpAny_seqItems G l ?_)
   refine wpAny_bind ?_
   rw[<- Array.forIn_toList]
   refine wpAny_forIn_list _ (fun e r u=>r.1=none/\u=s/\∃c H,ReadsAll _ e c H/\Gj c=true/\PyData.depthAll c<=n) _ ?_ ?_ _ _ ⟨rfl,rfl,M,_,U,f,p⟩
   ·rintro v e r u ⟨C,rfl,c,H,J,k,z⟩
    cases J with
    | @cons _ _ N g P R K B =>
     obtain⟨S,T⟩:=Bool.and_eq_true_iff.mp (show (keyB _&&Gj _)=true from k)
     have I:N.depth<=n/\PyData.depthAll g<=n:=by
      have:max _ _<=n:=z;omega
     refine wpAny_bind (O _ I.1 S _ _ _ _ _ _ K ?_)
     exact wpAny_pure ⟨rfl,rfl,g,_,B,T,I.2⟩
   ·rintro⟨r1,r2⟩ u ⟨C,rfl,_⟩
    subst C;exact wpAny_pure h
def Bm3 (h:Heap)(k:PyData)(a:Addr):Prop:=(keyB k=true/\k.canLay0=true/\k.depth<=7)/\∃as,Reads h (.ref a) k as
def Ey (prog:Program)(w:World):HeapKind prog w PyData where
 is:=Bm3
 hash:=Zi w
 draws:=Tt
 room:=fun A=>A.units+8<cLine
 inj:=fun hx hy=>let ⟨⟨_,l,_⟩,_,r⟩:=hx;let ⟨_,_,r'⟩:=hy; SeqAt.Reads.unique _ _ _ _ _ l r r'
 keeps:=fun x ho hd hs=>let ⟨c,_,r⟩:=x; ⟨c,_,Ui ho hd hs _ c.1 _ _ r⟩
 pyHash:=fun hu hk h=>let ⟨c,_,r⟩:=hk; At1 7 _ c.2.2 c.1 _ _ _ _ _ _ (Nat.lt_of_le_of_lt (Nat.add_le_add_left (by decide) _) hu) r h
 eqBool:=fun {A E s x y a b Q} hu hx hy h=>by
  obtain⟨c,_,r⟩:=hx;obtain⟨d,_,r'⟩:=hy
  refine SeqAt.eqAt_reads x y A s _ _ _ _ r r' c.2.1 d.2.1 (Nat.lt_of_le_of_lt (Nat.add_le_add_left (Nat.le_trans (Nat.min_le_left _ _) (Nat.le_trans c.2.2 (by decide))) _) hu) prog w E Q ?_
  have e:PyData.eqv x y=decide (x=y):=by
   have:=Pr x y c.1 d.1
   by_cases z:x=y
   ·rw[decide_eq_true z];exact this.mpr z
   ·rw[decide_eq_false z]
    cases q:PyData.eqv x y with
    | false=>rfl
    | true=>exact absurd (this.mp q) z
  rw[e];exact h
 quiet:=fun hk h=>let ⟨c,_,r⟩:=hk; Ag4 7 _ c.2.2 c.1 _ _ _ _ _ _ r h
end
inductive V where
 | non | bl (b:Bool) | int (i:Int) | str (x:Str) | byt (b:Array UInt8) | flt (b:UInt64) | ref (a:Addr) | ty (n:String)
 deriving DecidableEq
@[simp] theorem V.bl.injEq (a b:Bool):(V.bl a=V.bl b)=(a=b):=propext ⟨fun h=>by cases h;rfl,fun h=>by rw[h]⟩
@[simp] theorem V.int.injEq (a b:Int):(V.int a=V.int b)=(a=b):=propext ⟨fun h=>by cases h;rfl,fun h=>by rw[h]⟩
@[simp] theorem V.str.injEq (a b:Str):(V.str a=V.str b)=(a=b):=propext ⟨fun h=>by cases h;rfl,fun h=>by rw[h]⟩
@[simp] theorem V.byt.injEq (a b:Array UInt8):(V.byt a=V.byt b)=(a=b):=propext ⟨fun h=>by cases h;rfl,fun h=>by rw[h]⟩
@[simp] theorem V.ref.injEq (a b:Addr):(V.ref a=V.ref b)=(a=b):=propext ⟨fun h=>by cases h;rfl,fun h=>by rw[h]⟩
def RelV:V->Value->Prop
 | .non,u=>u=Value.none
 | .bl b,u=>u=Value.bool b
 | .int i,u=>∃t,u=Value.int i t
 | .str x,u=>∃t,u=Value.str x t
 | .byt b,u=>∃t,u=Value.bytes b t
 | .flt b,u=>∃t,u=Value.float b t
 | .ref a,u=>u=Value.ref a
 | .ty n,u=>u=Value.type n
abbrev Vals:List V->List Value->Prop:=Paired RelV
theorem Vals.length   (r:Vals xs us):xs.length=us.length:=Paired.length r
theorem Vals.get:∀{xs:List V}{us:List Value}{i:Nat}{x:V},Vals xs us->xs[i]?=some x->∃u,us[i]?=some u/\RelV x u
 | _,_,_,_,.nil,e=>by simp at e
 | _,_,0,_,.cons r _,e=>by simp at e;subst e;exact⟨_,rfl,r⟩
 | _,_,i+1,x,.cons _ t,e=>by
  obtain⟨u,h1,h2⟩:=Vals.get (i:=i) (x:=x) t (by simpa using e)
  exact⟨u,by simpa using h1,h2⟩
theorem Vals.set {x:V}{u:Value}(r:RelV x u):∀{xs:List V}{us:List Value}(i:Nat),Vals xs us->Vals (xs.set i x) (us.set i u)
 | _,_,_,.nil=>.nil
 | _,_,0,.cons _ t=>.cons r t
 | _,_,i+1,.cons q t=>.cons q (Vals.set r i t)
theorem Vals.append:∀{xs ys:List V}{us ws:List Value},Vals xs us->Vals ys ws->Vals (xs++ys) (us++ws)
 | _,_,_,_,.nil,s=>s
 | _,_,_,_,.cons r t,s=>.cons r (Vals.append t s)
theorem Vals.take:∀{xs:List V}{us:List Value}(n:Nat),Vals xs us->Vals (xs.take n) (us.take n)
 | _,_,0,_=>.nil
 | _,_,_+1,.nil=>.nil
 | _,_,n+1,.cons r t=>.cons r (Vals.take n t)
theorem Vals.drop:∀{xs:List V}{us:List Value}(n:Nat),Vals xs us->Vals (xs.drop n) (us.drop n)
 | _,_,0,r=>r
 | _,_,_+1,.nil=>.nil
 | _,_,n+1,.cons _ t=>Vals.drop n t
def Ba8:Option V->Option Value->Prop
 | some v,some u=>RelV v u
 | none,none=>True
 | _,_=>False
def KV {κ:Type}:List (κ×V)->List (κ×Value)->Prop:=Paired fun (p:κ×V) (q:κ×Value)=>p.1=q.1/\RelV p.2 q.2
def kV:Key->V
 | .inl i=>.int i
 | .inr x=>.str x
inductive HO where
 | lst (xs:List V)
 | tup (xs:List V)
 | dK (kvs:List (Key×V)) | dT (kvs:List (PyData×V))
 | set (S:Int->Bool) (n:Nat)
 | ins (C dx:Addr) (fs:List (Str×V))
 | own (x:Addr)
 | xd (fs:List (Str×V))
 | met (f x:Addr)
 | rng (lo hi:Int)
 | frz (o:Obj) (u:HO)
 | tbl (q:Str)
 | ext (φ:Heap->Prop)
abbrev Hp:=Addr->Option HO
def upd (H:Hp)(a:Addr)(o:HO):Hp:=fun b=>if b=a then some o else H b
theorem Be    : upd H a o a=some o:=by unfold upd;simp_all
theorem Ak    (h:b≠a):upd H a o b=H b:=by unfold upd;simp_all
theorem A9d {H:Hp}   (h:H a=some o) (h':H b=some u) (d:o≠u):a≠b:=by
 grind
theorem Bv {H:Hp}   (h:H a=some o) (h':H b=none):a≠b:=by
 grind
mutual
def KTr (H:Hp):PyData->V->Prop
 | .none,v=>v=.non
 | .int i,v=>v=.int i
 | .str x,v=>v=.str x
 | .tuple ds,v=>∃a vs,v=.ref a/\H a=some (.tup vs)/\KTrL H ds vs
 | _,_=>False
def KTrL (H:Hp):List PyData->List V->Prop
 | [],vs=>vs=[]
 | d::ds,vs=>∃v r,vs=v::r/\KTr H d v/\KTrL H ds r
end
mutual
theorem KTr.stay {H H':Hp}(ht:∀b xs,H b=some (.tup xs)->H' b=some (.tup xs)):∀{d:PyData}{v:V},KTr H d v->KTr H' d v
 | .none,_,h=>h
 | .int _,_,h=>h
 | .str _,_,h=>h
 | .tuple _,_,⟨a,vs,e,ha,t⟩=>⟨a,vs,e,ht _ _ ha,KTrL.stay ht t⟩
theorem KTrL.stay {H H':Hp}(ht:∀b xs,H b=some (.tup xs)->H' b=some (.tup xs)):∀{ds:List PyData}{vs:List V},KTrL H ds vs->KTrL H' ds vs
 | [],_,h=>h
 | _::_,_,⟨v,r,e,h,t⟩=>⟨v,r,e,KTr.stay ht h,KTrL.stay ht t⟩
end
def A8w (k:PyData):Prop:=keyB k=true/\k.canLay0=true/\k.depth<=7
def KAt (H:Hp)(k:PyData)(a:Addr):Prop:=A8w k/\KTr H k (.ref a)
theorem KAt.stay    (ht:∀b xs,H b=some (.tup xs)->H' b=some (.tup xs)) (h:KAt H k a):KAt H' k a:=⟨h.1,KTr.stay ht h.2⟩
def zN (h:Heap)(a:Addr)(items:Array Value):Prop:=∃o,h.get? a=some o/\o.cls=.type "tuple" /\ (∃n,o.data=.seq items n)/\o.dict=none
theorem zN.tup    (x:zN h a items):IsTup h a items:=let ⟨o,h1,h2,h3,_⟩:=x; ⟨o,h1,h2,h3⟩
theorem zN.lt    (x:zN h a items):a<h.objs.size:=x.tup.lt
theorem zN.new (h:Heap)(items:Array Value):zN (h.push { cls:=.type "tuple",data:=.seq items }) h.objs.size items:=⟨_,Heap.get?_push_size _ rfl,rfl,⟨_,rfl⟩,rfl⟩
section
variable (P:Program)(w:World)
def z9 (H:Hp)(h:Heap)(a:Addr):HO->Prop
 | .lst xs=>xs.length<=sizeLine/\∃(its:List Value) (n:Nat),Vals xs its/\h.get? a=some { cls:=.type "list",data:=.seq its.toArray n }
 | .tup xs=>xs.length<=sizeLine/\∃its:List Value,Vals xs its/\zN h a its.toArray
 | .dK kvs=>kvs.length<=sizeLine/\(a==sysModules)=false/\∃vs,KV kvs vs/\h.DictOf (En P w) a vs
 | .dT kvs=>kvs.length<=sizeLine/\(a==sysModules)=false/\∃xs:List (PyData×Addr×Value),
  Paired (fun (p:PyData×V) (q:PyData×Addr×Value)=>p.1=q.1/\KAt H p.1 q.2.1/\RelV p.2 q.2.2) kvs xs /\
  ∃o es ep,h.get? a=some o/\o.ExactDict/\o.data=.dict es ep/\es.toList=xs.map (entryOfKey (Ey P w))/\(xs.map (·.1)).Nodup
 | .set S n=>h.SetOf (intKind P w) a S n
 | .ins C dx fs=>H dx=some (.own a)/\fs.length<=1000/\dx≠a/\h.get? a=some (PySem.W.instObj C dx) /\
  ∃mA,h.Ns1 dx mA/\(∀f,Ba8 (fs.lookup f) (mA f))/\PySem.Within mA (fs.map (·.1))
 | .own _=>∃o,h.get? a=some o
 | .xd fs=>∃mA,h.Ns1 a mA/\∀f,Ba8 (fs.lookup f) (mA f)
 | .rng lo hi=>∃t u v,h.get? a=some { cls:=.type "range",data:=.fields #[.int lo t,.int hi u,.int 1 v] }
 | .frz o u=>h.get? a=some o/\z9 H h a u
 | .tbl q=>∃ps:Array Value,h.get? a=some { cls:=.none,data:=.fields ps }/\TriplesOk ps.toList/\∀pos cv,codeAmong pos ps.toList=some cv->∃c o vs t,cv=.ref c/\H c=some (.frz o (.own 0))/\o.data=.fields vs/\vs[1]?=some (.str q t)
 | .met f x=>h.get? a=some (PySem.W.methodObj (.ref f) (.ref x))
 | .ext φ=>φ h/\(∃o,h.get? a=some o)/\∀h1 h2:Heap,φ h1->(∀o,h1.get? a=some o->h2.get? a=some o)->φ h2
def HOk (H:Hp)(h:Heap):Prop:=∀a o,H a=some o->z9 P w H h a o
end
section
variable {P:Program}{w:World}{H H':Hp}{h h':Heap}{a:Addr}{o:HO}
theorem z9.lt (x:z9 P w H h a o):a<h.objs.size:=by
 cases o with
 | lst d=>obtain⟨_,_,_,_,e⟩:=x;exact Heap.lt_size e
 | tup d=>obtain⟨_,_,_,p⟩:=x;exact p.lt
 | dK b=>obtain⟨_,_,_,_,o,_,_,e,_⟩:=x;exact Heap.lt_size e
 | dT b=>obtain⟨_,_,_,_,o,_,_,e,_⟩:=x;exact Heap.lt_size e
 | set S n=>obtain⟨o,_,_,_,e,_⟩:=x;exact Heap.lt_size e
 | ins C g c=>obtain⟨_,_,_,e,_⟩:=x;exact Heap.lt_size e
 | own y=>obtain⟨_,e⟩:=x;exact Heap.lt_size e
 | xd c=>obtain⟨_,⟨_,_,_,e,_⟩,_⟩:=x;exact Heap.lt_size e
 | rng j k=>obtain⟨_,_,_,e⟩:=x;exact Heap.lt_size e
 | frz l u=>obtain⟨e,_⟩:=x;exact Heap.lt_size e
 | tbl q=>obtain⟨_,e,_⟩:=x;exact Heap.lt_size e
 | met f y=>exact Heap.lt_size (x)
 | ext i=>obtain⟨_,⟨_,e⟩,_⟩:=x;exact Heap.lt_size e
theorem Paired.mapP {α β:Type}{F G:α->β->Prop}:∀{l₁:List α}{l₂:List β},Paired F l₁ l₂->(∀a b,F a b->G a b)->Paired G l₁ l₂
 | _,_,.nil,_=>.nil
 | _,_,.cons r t,f=>.cons (f _ _ r) (Paired.mapP t f)
theorem z9.stay (x:z9 P w H h a o)(k:∀b u,(b=a\/H b=some (.own a))->h.get? b=some u->h'.get? b=some u)
 (ho:∀b,H b=some (.own a)->H' b=some (.own a)) (ht:∀b m,H b=some (.tup m)->H' b=some (.tup m)) (hz:∀b o u,H b=some (.frz o u)->H' b=some (.frz o u):=by exact fun _ _ _ q=>q):z9 P w H' h' a o:=by
 induction o with
 | lst m=>obtain⟨z,l,n,r,e⟩:=x;exact⟨z,l,n,r,k _ _ (.inl rfl) e⟩
 | tup m=>obtain⟨z,l,r,g,e,c⟩:=x;exact⟨z,l,r,g,k _ _ (.inl rfl) e,c⟩
 | dK A=>obtain⟨z,y,D,r,g,i,j,e,c⟩:=x;exact⟨z,y,D,r,g,i,j,k _ _ (.inl rfl) e,c⟩
 | dT A =>
  obtain⟨z,y,m,r,g,i,j,e,c⟩:=x
  exact⟨z,y,m,Paired.mapP r fun p q z=>⟨z.1,z.2.1.stay ht,z.2.2⟩,g,i,j,k _ _ (.inl rfl) e,c⟩
 | set S n=>obtain⟨g,i,j,t,e,c⟩:=x;exact⟨g,i,j,t,k _ _ (.inl rfl) e,c⟩
 | ins C M J =>
  obtain⟨d,z,G,e,s,⟨B,i,j,E,c⟩,r⟩:=x;exact⟨ho _ d,z,G,k _ _ (.inl rfl) e,s,⟨B,i,j,k _ _ (.inr d) E,c⟩,r⟩
 | own y=>obtain⟨g,e⟩:=x;exact⟨g,k _ _ (.inl rfl) e⟩
 | xd J=>obtain⟨s,⟨B,i,j,e,c⟩,r⟩:=x;exact⟨s,⟨B,i,j,k _ _ (.inl rfl) e,c⟩,r⟩
 | rng O N=>obtain⟨t,u,v,e⟩:=x;exact⟨t,u,v,k _ _ (.inl rfl) e⟩
 | frz g u K=>obtain⟨e,q⟩:=x;exact⟨k _ _ (.inl rfl) e,K q⟩
 | tbl q =>
  obtain⟨I,e,t,f⟩:=x
  exact⟨I,k a _ (.inl rfl) e,t,fun L Q z=>let ⟨c,g,D,tk,e1,E,e3⟩:=f _ _ z; ⟨c,g,D,tk,e1,hz _ _ _ E,e3⟩⟩
 | met f y =>
  have e:h.get? a=some _:=x
  show h'.get? a=some _
  grind
 | ext R=>obtain⟨p,⟨o,e⟩,F⟩:=x;exact⟨F _ _ p fun o q=>k _ _ (.inl rfl) q,⟨o,k _ _ (.inl rfl) e⟩,F⟩
theorem HOk.lt (x:HOk P w H h)(e:H a=some o):a<h.objs.size:=(x a o e).lt
theorem HOk.fresh (x:HOk P w H h)(e:h.objs.size<=a):H a=none:=by
 cases q:H a with
 | none=>rfl
 | some u=>exact absurd (Nat.lt_of_lt_of_le (x.lt q) e) (Nat.lt_irrefl _)
theorem HOk.kept (x:HOk P w H h)(k:∀b u,h.get? b=some u->h'.get? b=some u):HOk P w H h':=fun a o e =>
 (x a o e).stay (fun b u _ q=>k b u q) (fun _ q=>q) fun _ _ q=>q
theorem HOk.laid (x:HOk P w H h)(k:∀b u,h.get? b=some u->h'.get? b=some u)(hp:h.objs.size<=a)(f:z9 P w (upd H a o) h' a o):HOk P w (upd H a o) h':=fun b u e=>by
 have d:=x.fresh hp
 by_cases hb:b=a
 ·subst hb;rw[Be]at e;simp_all
 ·rw[Ak hb]at e
  exact(x b u e).stay (fun c v _ q=>k c v q) fun c q=>by rw[Ak (Bv q d)];grind fun c g q=>by rw[Ak (Bv q d)];grind fun c i g q=>by rw[Ak (Bv q d)];grind
end
def Rd (H:Hp)(a:Addr)(u:HO):Prop:=H a=some u\/∃o,H a=some (.frz o u)
theorem Rd.ok       (r:Rd H a u) (x:HOk P w H h):z9 P w H h a u:=by
 rcases r with r | ⟨o,r⟩
 ·exact x a u r
 ·obtain⟨_,q⟩:=x a _ r
  omega
def Mut:Option HO->Prop
 | some (.lst _)=>True
 | some (.dK _)=>True
 | some (.dT _)=>True
 | some (.set _ _)=>True
 | some (.ins _ _ _)=>True
 | some (.ext _)=>True
 | _=>False
section
variable {P:Program}{w:World}{H:Hp}{h h':Heap}{x e:Addr}{o':HO}
theorem HOk.write (s:HOk P w H h)(f:Mut (H x))(he:e=x\/H e=some (.own x))(k:∀b u,b≠e->h.get? b=some u->h'.get? b=some u)(m:∃u,h'.get? e=some u)
 (l:z9 P w (upd H x o') h' x o'):HOk P w (upd H x o') h':=fun b u q=>by
 have a:∀c y,H c=some (.own y)->c≠x:=fun c y r z=>by subst z;rw[r]at f;exact f
 have i:∀c d,H c=some (.tup d)->c≠x:=fun c d r z=>by subst z;rw[r]at f;exact f
 have g:∀c n d,H c=some (.frz n d)->c≠x:=fun c n d r z=>by subst z;rw[r]at f;exact f
 by_cases hb:b=x
 ·subst hb;rw[Be]at q;cases q;exact l
 ·rw[Ak hb]at q
  by_cases hbe:b=e
  ·have o:H b=some (.own x):=by
    simp_all
   rw[q]at o;cases o;obtain⟨v,p⟩:=m
   exact⟨v,by rw[hbe];exact p⟩
  ·refine (s b u q).stay (fun c v j r=>k c v ?_ r) (fun c r=>by rw[Ak (a c b r)];exact r) (fun c d r=>by rw[Ak (i c _ r)];exact r) fun c n d r=>by rw[Ak (g c _ _ r)];exact r
   rcases j with rfl | j
   ·exact hbe
   ·rintro rfl
    rcases he with z | z
    ·exact a c b j z
    ·rw[j]at z;cases z;exact hb rfl
end
structure Un (fs ex:List Addr) (H H':Hp) (h h':Heap):Prop where
 keep:∀b o,h.get? b=some o->H b=none->b∉fs->b∉ex->h'.get? b=some o
 slot:∀b o,h.get? b=some o->H b=none->b∈fs->b∉ex->∃sl,h'.get? b=some { o with slots:=sl }
 free:∀b o,h.get? b=some o->H b=none->b∉ex->H' b=none
 there:∀b o,h.get? b=some o->b∉ex->∃o',h'.get? b=some o'
 tups:∀b xs,H b=some (.tup xs)->H' b=some (.tup xs)
 frzs:∀b o u,H b=some (.frz o u)->H' b=some (.frz o u)
 tbls:∀b q,H b=some (.tbl q)->H' b=some (.tbl q)
section
variable {fs fs' ex ex':List Addr}{H H1 H2:Hp}{h h1 h2 h':Heap}{a x e:Addr}{o:HO}
theorem Un.any (u:Un fs ex H H1 h h1)   (q:h.get? b=some ob) (n:H b=none) (hx:b∉ex):∃sl,h1.get? b=some { ob with slots:=sl }:=by
 by_cases hb:b∈fs
 ·exact u.slot b _ q n hb hx
 ·exact⟨ob.slots,u.keep b _ q n hb hx⟩
theorem Un.kept (k:∀b u,h.get? b=some u->h'.get? b=some u):Un fs ex H H h h' :=
 ⟨fun b a q _ _ _=>k b _ q,fun b a q _ _ _=>⟨a.slots,k b a q⟩,fun _ _ _ n _=>n,fun b a q _=>⟨a,k b _ q⟩,fun _ _ q=>q,fun _ _ _ q=>q,fun _ _ q=>q⟩
theorem Un.refl:Un fs ex H H h h:=Un.kept fun _ _ q=>q
theorem Un.laid (k:∀b u,h.get? b=some u->h'.get? b=some u)(hp:h.objs.size<=a)(hn:H a=none):Un fs ex H (upd H a o) h h' where
 keep:=fun b u q _ _ _=>k b u q
 slot:=fun b u q _ _ _=>⟨u.slots,k b u q⟩
 free:=fun b u q n _=>by rw[Ak (Nat.ne_of_lt (Nat.lt_of_lt_of_le (Heap.lt_size q) hp))];exact n
 there:=fun b u q _=>⟨u,k b u q⟩
 tups:=fun b xs q=>by rw[Ak (Bv q hn)];exact q
 frzs:=fun b u xs q=>by rw[Ak (Bv q hn)];exact q
 tbls:=fun b ps q=>by rw[Ak (Bv q hn)];exact q
theorem Un.write (d:Mut (H x))(he:e=x\/H e=some (.own x))(k:∀b u,b≠e->h.get? b=some u->h'.get? b=some u)(f:∃u,h'.get? e=some u):Un fs ex H (upd H x o) h h':=by
 have i:∀b,H b=none->b≠x:=fun b n z=>by subst z;rw[n]at d;exact d
 have c:∀b,H b=none->b≠e:=fun b n z=>by
  grind
 have a:∀b u,H b=some u->¬ Mut (some u)->b≠x:=fun b u q l z=>by simp_all
 refine⟨fun b u q n _ _=>k b u (c b n) q,fun b u q n _ _=>⟨u.slots,k b u (c b n) q⟩,fun b u q n _=>by rw[Ak (i b n)];grind,fun b u q _=>?_,
  fun b g q=>by rw[Ak (a b _ q fun z=>z)];grind,fun b u g q=>by rw[Ak (a b _ q fun z=>z)];grind,fun b j q=>by rw[Ak (a b _ q fun z=>z)];grind⟩
 grind
end
def trk (h:Heap)(H:Hp):List Addr:=(List.range h.objs.size).filter fun a=>(H a).isSome
def Vg (h:Heap)(H:Hp):Heap:=PySem.W.hideAll h (trk h H)
theorem Ax7 (h:Heap)(H:Hp):(Vg h H).objs.size=h.objs.size:=PySem.W.hideAll_size _ _
theorem A4r     (e:h.get? b=some o) (n:H b=none):(Vg h H).get? b=some o :=
 PySem.W.hideAll_get _ e fun a=>by
  have q  := (List.mem_filter.mp a).2
  grind
theorem A6a     (e:(Vg h H).get? b=some o):h.get? b=some o/\H b=none:=by
 have a  := PySem.W.of_hideAll _ e
 refine⟨a,?_⟩
 cases q:H b with
 | none=>rfl
 | some x =>
  have c:b∈trk h H:=List.mem_filter.mpr ⟨List.mem_range.mpr (Heap.lt_size a),by grind⟩
  have z:(Vg h H).get? b=none:=PySem.W.hideAll_none _ c
  simp_all
def A6l (g h:Heap)(L:Addr):List (Addr×Obj):=(List.range h.objs.size).filterMap fun a=>if a=L\/(g.get? a).isSome=true then none else (h.get? a).map fun o=>(a,o)
def rest (g h:Heap)(L d:Addr):List (Addr×Obj):=(A6l g h L).filter fun p=>decide (p.1≠d)
def Am1 (T:Addr)(q:Str):Obj:={ cls:=.str q 0,data:=.cell (some (.ref T)) }
def Tv (o:Obj):Option (Addr×Str):=match o.data with
 | .cell (some (.ref T))=>(match o.cls with
  | .str q _=>some (T,q)
  | _=>none)
 | _=>none
def Dw (K:PySem.W.Frag):List (Addr×Str):=K.filterMap fun p=>Tv p.2
structure Mod (K:PySem.W.Frag) (mg:Str->Option Value) (base:Heap):Prop where
 kin:K.In base
 glob:base.Ns mainGlobals mg
 blt:∃mb,base.Ns builtinsNs mb/\∀x:Str,x ≠ "__name__" -> mb x=bootBuiltins x
 nolimit:base.NoLimit
 bmod:∃bm o,mg "__builtins__" = some (.ref bm)/\bm≠builtinsNs/\bm≠mainGlobals/\base.get? bm=some o/\o.cls=.type "module" /\ o.dict=some builtinsNs/\o.data=.plain
structure Cx where
 prog:Program
 w:World
 K:PySem.W.Frag
 mg:Str->Option Value
 base:Heap
 A:Around
 N:List Str
 s₀:Shared
 H₀:Hp
 env:Env
 outer:List Env
 stack:List Env
 ex:List Addr
 fn:Str->Bool
 calm:Bool
 pn:List (Addr×Obj)
 xe:Value->Shared->Prop
def frs (l:List Env):List Addr:=l.filterMap (·.frame)
abbrev Cx.fs (X:Cx):List Addr:=frs X.outer
def Vis (sc:Scope)(x:Str):Prop:=sc.names.lookup x=some .local\/sc.names.lookup x=some .cell\/sc.names.lookup x=some .free
def Loc (sc:Scope)(x:Str):Prop:=sc.names.lookup x=some .local\/sc.names.lookup x=some .cell
def Look (env:Env)(h:Heap)(m:Str->Option Value)(x:Str)(u:Value):Prop :=
 (env.kindOf x=some .local/\m x=some u)\/((env.kindOf x=some .cell\/env.kindOf x=some .free)/\∃c,env.cells.lookup x=some c/\h.IsCell c (some u))
structure Cx.Ok (X:Cx):Prop where
 mod:Mod X.K X.mg X.base
 kind:X.env.scope.kind=.function
 glob:X.env.globals=mainGlobals
 blt:X.env.builtins=builtinsNs
 above:X.s₀.heap.objs.size<=X.env.locals
 inj:∀x y c,X.env.cells.lookup x=some c->X.env.cells.lookup y=some c->x=y
 has:∀x,(X.env.kindOf x=some .cell\/X.env.kindOf x=some .free)->∃c,X.env.cells.lookup x=some c
 cab:∀x c,X.fn x=true->X.env.cells.lookup x=some c->X.s₀.heap.objs.size<=c
 hd:X.calm=true->X.A.handled=none
 frames:X.A.frames=some X.stack
 stk:X.stack=X.outer\/(X.stack=X.env::X.outer/\X.env.frame=some X.env.locals)
 exf:∀b∈X.ex,b≠X.env.locals/\∀x c,X.env.cells.lookup x=some c->c≠b
 bs:∀b o,X.base.get? b=some o->X.s₀.heap.get? b=some o/\X.H₀ b=none
 bsz:X.base.objs.size<=X.s₀.heap.objs.size
 noex:∀b o,X.base.get? b=some o->b∉X.ex
 exfs:∀b∈X.ex,b∉X.fs
 funs:X.s₀.heap.FunFrames X.base X.outer
 frf:∀b∈X.fs,X.H₀ b=none
 tab:∀p∈Dw X.K,X.H₀ p.1=some (.tbl p.2)
structure Inv (X:Cx) (pins:List (Addr×Obj)) (σ:List (Option V)) (H:Hp) (s:Shared):Prop where
 ok:X.Ok
 os:s.os=X.s₀.os
 bare:AllBare s.gens
 base:Un X.fs X.ex X.H₀ H X.s₀.heap s.heap
 loc:∃m,s.heap.Ns X.env.locals m/\∀(i:Nat) (x:Str) (v:V),X.N[i]?=some x->σ[i]?=some (some v)->Vis X.env.scope x->∃u,RelV v u/\Look X.env s.heap m x u
 cell:∀x c,X.env.cells.lookup x=some c->∃v,s.heap.IsCell c v
 free:H X.env.locals=none
 freeC:∀x c,X.env.cells.lookup x=some c->H c=none
 pin:∀p∈X.pn++pins,s.heap.get? p.1=some p.2/\H p.1=none/\p.1≠X.env.locals/\p.1∉X.fs/\∀v,p.2.data≠.cell v
 hok:HOk X.prog X.w H s.heap
 len:σ.length=X.N.length
section
variable {X:Cx}{pins:List (Addr×Obj)}{σ:List (Option V)}{H H':Hp}{s:Shared}{h':Heap}
theorem Cx.Ok.nofr (c:X.Ok)   (e:X.base.get? b=some o):b∉X.fs:=fun a=>by
 have:=(c.funs.mem a).1
 simp_all
theorem Inv.bs (I:Inv X pins σ H s):∀b o,X.base.get? b=some o->s.heap.get? b=some o/\H b=none:=fun b o e =>
 ⟨I.base.keep b o (I.ok.bs b o e).1 (I.ok.bs b o e).2 (I.ok.nofr e) (I.ok.noex b o e),I.base.free b o (I.ok.bs b o e).1 (I.ok.bs b o e).2 (I.ok.noex b o e)⟩
theorem Inv.bk (I:Inv X pins σ H s):∀b o,X.base.get? b=some o->s.heap.get? b=some o:=fun b o e=>(I.bs b o e).1
theorem Inv.mod (I:Inv X pins σ H s):Mod X.K X.mg X.base:=I.ok.mod
theorem Inv.kIn (I:Inv X pins σ H s):X.K.In s.heap:=I.ok.mod.kin.keeps I.bk
theorem Inv.fr (I:Inv X pins σ H s):∃m,Fr X.base X.env.locals s.heap m :=
 let ⟨m,hn,_⟩:=I.loc
 ⟨m,hn,I.bk,Nat.le_trans I.ok.bsz I.ok.above⟩
theorem Inv.lt (I:Inv X pins σ H s):X.env.locals<s.heap.objs.size:=let ⟨_,hn,_⟩:=I.loc;hn.lt
theorem Inv.sz (I:Inv X pins σ H s):X.s₀.heap.objs.size<=s.heap.objs.size:=Nat.le_trans I.ok.above (Nat.le_of_lt I.lt)
theorem Inv.nofs (I:Inv X pins σ H s)  (h:s.heap.objs.size<=a):a∉X.fs:=fun c=>by
 obtain⟨_,o,b,_⟩:=I.ok.funs.mem c;exact absurd (Nat.lt_of_lt_of_le (Heap.lt_size b) (Nat.le_trans I.sz h)) (Nat.lt_irrefl _)
theorem Inv.cne (I:Inv X pins σ H s):∀x c,X.env.cells.lookup x=some c->c≠X.env.locals:=fun x c e z=>by
 obtain⟨v,o,d,i⟩:=I.cell x c e;obtain⟨m,⟨f,g,h,a,b,_⟩,_⟩:=I.loc
 simp_all
theorem Inv.funs (I:Inv X pins σ H s):s.heap.FunFrames X.base X.outer:=by
 have d:∀(l:List _),(∀b∈frs l,b∈X.fs)->X.s₀.heap.FunFrames X.base l->s.heap.FunFrames X.base l:=by
  intro l
  induction l with
  | nil=>intro _ _;trivial
  | cons h r j =>
   intro g q;obtain⟨i,⟨L,o,f,k,m,n⟩,p⟩:=q
   have c  := g L (by unfold frs;simp_all)
   obtain⟨t,e⟩:=I.base.slot L o m (I.ok.frf L c) c fun z=>I.ok.exfs L z c
   exact⟨i,⟨L,_,f,k,e,n⟩,j (fun b a=>g b (by unfold frs;rw[List.filterMap_cons,f];exact List.mem_cons_of_mem _ a)) p⟩
 exact d _ (fun _ a=>a) I.ok.funs
theorem Inv.stack (I:Inv X pins σ H s):s.heap.FunFrames X.base X.stack:=by
 rcases I.ok.stk with e | ⟨e,b⟩
 ·rw[e];exact I.funs
 ·rw[e]
  obtain⟨m,a,_⟩:=I.loc
  refine .cons (by rw[I.ok.kind];decide) b a ?_ I.funs
  exact Heap.get?_none_of_le (Nat.le_trans I.ok.bsz I.ok.above)
theorem Inv.stkSub (I:Inv X pins σ H s):∀b∈frs X.stack,b∈X.env.locals::X.fs:=fun b a=>by
 rcases I.ok.stk with e | ⟨e,c⟩
 ·simp_all
 ·rw[e]at a
  unfold frs at a;rw[List.filterMap_cons,c]at a;exact a
theorem Inv.stkFree (I:Inv X pins σ H s):∀b∈frs X.stack,H b=none:=fun b a=>by
 rcases List.mem_cons.mp (I.stkSub b a) with e | a
 ·rw[e];exact I.free
 ·obtain⟨_,o,c,_⟩:=I.ok.funs.mem a
  exact I.base.free b o c (I.ok.frf b a) fun z=>I.ok.exfs b z a
theorem Inv.step    {ch:List Addr}(I:Inv X pins σ H s)
 (j:∀b∈ch,(b∈X.ex\/X.s₀.heap.objs.size<=b)/\b≠X.env.locals/\(∀x c,X.env.cells.lookup x=some c->c≠b)/\∀p∈X.pn++pins,p.1≠b)
 (t:∀b o,b≠X.env.locals->b∉X.fs->b∉ch->s.heap.get? b=some o->H b=none->h'.get? b=some o)
 (slot:∀b o,b≠X.env.locals->b∈X.fs->b∉ch->s.heap.get? b=some o->H b=none->∃L,h'.get? b=some { o with slots:=L }) (f:∀b o,b∉ch->s.heap.get? b=some o->H b=none->H' b=none)
 (w:∀b o,b∉ch->s.heap.get? b=some o->∃O,h'.get? b=some O)
 (D:∀b J,H b=some (.tup J)->H' b=some (.tup J)) (F:∀b o u,H b=some (.frz o u)->H' b=some (.frz o u)) (C:∀b q,H b=some (.tbl q)->H' b=some (.tbl q))
 (ns:∀m,s.heap.Ns X.env.locals m->h'.Ns X.env.locals m) (N:HOk X.prog X.w H' h') (hg:AllBare g') :
 Inv X pins σ H' { s with heap:=h',gens:=g',drawn:=d',toks:=t' }:=by
 have G:∀b o,X.s₀.heap.get? b=some o->b≠X.env.locals:=fun b o e=>Nat.ne_of_lt (Nat.lt_of_lt_of_le (Heap.lt_size e) I.ok.above)
 have h:∀b o,X.s₀.heap.get? b=some o->b∉X.ex->b∉ch:=fun b o e a A=>by
  rcases (j b A).1 with z | z
  ·exact a z
  ·exact absurd (Nat.lt_of_lt_of_le (Heap.lt_size e) z) (Nat.lt_irrefl _)
 have g:∀x c,X.env.cells.lookup x=some c->∀v,s.heap.IsCell c v->h'.IsCell c v:=fun x c e v ⟨o,B,K⟩=>by
  have E:c∉ch:=fun z=>(j c z).2.2.1 x c e rfl
  by_cases hc:c∈X.fs
  ·obtain⟨L,q⟩:=slot c o (I.cne x c e) hc E B (I.freeC x c e)
   exact⟨_,q,K⟩
  ·exact⟨o,t c o (I.cne x c e) hc E B (I.freeC x c e),K⟩
 refine⟨I.ok,I.os,hg,⟨fun b o e n A a=>?_,fun b o e n A a=>?_,fun b o e n a=>?_,fun b o e a=>?_,fun b J e=>D b _ (I.base.tups b _ e),fun b o J e=>F b o _ (I.base.frzs b o _ e),fun b V e=>?_⟩,?_,fun x c e=>?_,?_,fun x c e=>?_,fun p Q=>?_,N,I.len⟩
 ·exact t b o (G b o e) A (h b o e a) (I.base.keep b o e n A a) (I.base.free b o e n a)
 ·obtain⟨L,y⟩:=I.base.slot b o e n A a
  obtain⟨P,M⟩:=slot b _ (G b o e) A (h b o e a) y (I.base.free b o e n a);exact⟨P,M⟩
 ·obtain⟨O,y⟩:=I.base.there b o e a
  exact f b _ (h b o e a) y (I.base.free b o e n a)
 ·obtain⟨O,y⟩:=I.base.there b o e a
  exact w b _ (h b o e a) y
 ·exact C b _ (I.base.tbls b _ e)
 ·obtain⟨m,R,S⟩:=I.loc
  refine⟨m,ns m R,fun i x v y M T=>?_⟩
  obtain⟨u,r,l⟩:=S i x v y M T
  refine⟨u,r,?_⟩
  rcases l with l | ⟨k,c,e,z⟩
  ·exact .inl l
  ·exact .inr ⟨k,c,e,g x c e _ z⟩
 ·obtain⟨v,z⟩:=I.cell x c e
  exact⟨v,g x c e v z⟩
 ·obtain⟨m,⟨o,_,_,B,_⟩,_⟩:=I.loc
  exact f _ o (fun z=>(j _ z).2.1 rfl) B I.free
 ·obtain⟨v,o,B,K⟩:=I.cell x c e
  exact f c o (fun z=>(j c z).2.2.1 x c e rfl) B (I.freeC x c e)
 ·obtain⟨e,n,W,U,d⟩:=I.pin p Q
  grind
theorem Inv.un  (I:Inv X pins σ H s) (u:Un X.fs [] H H' s.heap h') (g:HOk X.prog X.w H' h'):Inv X pins σ H' { s with heap:=h',toks:=t' }:=by
 obtain⟨m,⟨o,l,v,h,r⟩,_⟩:=id I.loc
 obtain⟨q,j⟩:=u.any h I.free (by simp)
 exact I.step   (ch:=[]) (fun _ z=>nomatch z) (fun b o _ c _ e n=>u.keep b o e n c (by simp)) (fun b o _ c _ e n=>u.slot b o e n c (by simp)) (fun b o _ e n=>u.free b o e n (by simp)) (fun b o _ e=>u.there b o e (by simp)) u.tups u.frzs u.tbls (fun t i=>by
  obtain⟨p,d,f,a,k⟩:=i;rw[h]at a;cases a
  exact⟨_,d,f,j,k⟩) g I.bare
theorem Inv.call     (I:Inv X pins σ H s) (u:Un (frs X.stack) ch H H' s.heap h') (g:HOk X.prog X.w H' h') (hg:AllBare g')
 (d:∀b∈ch,(b∈X.ex\/X.s₀.heap.objs.size<=b)/\b≠X.env.locals/\(∀x c,X.env.cells.lookup x=some c->c≠b)/\∀p∈X.pn++pins,p.1≠b) :
 Inv X pins σ H' { s with heap:=h',gens:=g',drawn:=d',toks:=t' }:=by
 obtain⟨m,⟨o,v,A,k,r⟩,_⟩:=id I.loc
 obtain⟨y,h⟩:=u.any k I.free fun z=>(d _ z).2.1 rfl
 exact I.step  d (fun b o h q a e n=>u.keep b o e n (fun z=>(List.mem_cons.mp (I.stkSub b z)).elim h q) a) (fun b o _ _ a e n=>u.any e n a) (fun b o a e n=>u.free b o e n a) (fun b o a e=>u.there b o e a) u.tups u.frzs u.tbls (fun B t=>by
  obtain⟨w,j,i,f,l⟩:=t;rw[k]at f;cases f
  exact⟨_,j,i,h,l⟩) g hg
theorem Inv.turned   (I:Inv X pins σ H s) (k:∀b o,b≠it->s.heap.get? b=some o->h'.get? b=some o) (hn:H it=none) (h:it≠X.env.locals)
 (h1:it∈X.ex\/X.s₀.heap.objs.size<=it) (h2:∀x c,X.env.cells.lookup x=some c->c≠it) (j:∀p∈X.pn++pins,p.1≠it):Inv X pins σ H { s with heap:=h',toks:=t' }:=by
 refine I.step   (ch:=[it]) (fun b t=>?_) (fun b o _ _ a e _=>k b o (fun z=>a (by grind)) e) (fun b o _ _ a e _=>⟨o.slots,k b o (fun z=>a (by grind)) e⟩) (fun _ _ _ _ n=>n)
  (fun b o a e=>⟨o,k b o (fun z=>a (by grind)) e⟩) (fun _ _ e=>e) (fun _ _ _ e=>e) (fun b l e=>e) (fun m g=>?_) (fun b u e=>?_) I.bare
 ·grind
 ·obtain⟨o,f,i,d,r⟩:=g
  exact⟨o,f,i,k _ o (Ne.symm h) d,r⟩
 ·refine (I.hok b u e).stay (fun c v a q=>k c v ?_ q) (fun _ q=>q) fun _ _ q=>q
  grind
theorem Inv.tok (I:Inv X pins σ H s)(t:Nat):Inv X pins σ H { s with toks:=t }:=I.un   Un.refl I.hok
theorem Inv.kept  (I:Inv X pins σ H s) (k:∀b u,s.heap.get? b=some u->h'.get? b=some u):Inv X pins σ H { s with heap:=h',toks:=t' }:=I.un (Un.kept k) (I.hok.kept k)
theorem Inv.laid    (I:Inv X pins σ H s) (k:∀b u,s.heap.get? b=some u->h'.get? b=some u) (hp:s.heap.objs.size<=a) (c:z9 X.prog X.w (upd H a o) h' a o) :
 Inv X pins σ (upd H a o) { s with heap:=h',toks:=t' }:=I.un (Un.laid k hp (I.hok.fresh hp)) (I.hok.laid k hp c)
theorem Inv.write    (I:Inv X pins σ H s) (d:Mut (H x)) (he:e=x\/H e=some (.own x)) (k:∀b u,b≠e->s.heap.get? b=some u->h'.get? b=some u) (a:∃u,h'.get? e=some u)
 (c:z9 X.prog X.w (upd H x o) h' x o):Inv X pins σ (upd H x o) { s with heap:=h',toks:=t' }:=I.un (Un.write d he k a) (I.hok.write d he k a c)
theorem Inv.pins_of  (I:Inv X pins σ H s) (h:∀p∈a,s.heap.get? p.1=some p.2/\H p.1=none/\p.1≠X.env.locals/\p.1∉X.fs/\∀v,p.2.data≠.cell v):Inv X a σ H s :=
 ⟨I.ok,I.os,I.bare,I.base,I.loc,I.cell,I.free,I.freeC,fun p b=>(List.mem_append.mp b).elim (fun z=>I.pin p (List.mem_append_left _ z)) (h p),I.hok,I.len⟩
theorem Aa9 {N:List Str}(hN:N.Nodup){i j:Nat}  (a:N[i]?=some x) (b:N[j]?=some x):i=j:=by
 obtain⟨e,d⟩:=List.getElem?_eq_some_iff.mp a;obtain⟨f,c⟩:=List.getElem?_eq_some_iff.mp b;exact(List.getElem_inj hN).mp (d.trans c.symm)
theorem Aq9         (I:Inv X pins σ H s) (hN:X.N.Nodup) (hi:X.N[i]?=some x) (hx:Loc X.env.scope x) (r:RelV v u)
 (h:∀s',Inv X pins (σ.set i (some v)) H s'->(∃a,Heap.SameBut a s.heap s'.heap/\(a=X.env.locals\/X.env.cells.lookup x=some a))->Q () s') (hf:X.fn x=true\/X.env.scope.names.lookup x=some .local:=by first | exact .inl rfl | exact .inr rfl | assumption):wpAny M A (storeName X.env x u) Q E s:=by
 obtain⟨m,S,hl⟩:=id I.loc
 have K:(X.env.scope.kind==.class||(X.env.scope.kind==.module&&X.env.locals != X.env.globals))=false:=by rw[I.ok.kind];rfl
 have C:i<σ.length:=by rw[I.len];exact(List.getElem?_eq_some_iff.mp hi).1
 have J:=I.cne
 have g:∀{a:Addr} {L:Heap},(∃o,s.heap.get? a=some o/\H a=none)->Heap.SameBut a s.heap L->HOk X.prog X.w H L:=fun {a L} ha f b ob e=>by
  obtain⟨_,_,w⟩:=ha
  refine (I.hok b ob e).stay (fun c w' t q=>(f.2 c ?_).trans q) (fun _ q=>q) fun _ _ q=>q
  rintro rfl
  rcases t with rfl | t
  ·rw[w]at e;cases e
  ·rw[w]at t;cases t
 rcases hx with D | D
 ·refine wpAny_storeName_local D S (fun L hn' f=>?_) K
  obtain⟨oL,_,_,hoL,_⟩:=id S
  refine h _ ⟨I.ok,I.os,I.bare,⟨fun b o e n F hx=>?_,fun b o e n F hx=>?_,I.base.free,fun b o e hx=>?_,I.base.tups,I.base.frzs,I.base.tbls⟩,⟨_,hn',fun j y v' l B T=>?_⟩,fun y c e=>?_,I.free,I.freeC,fun p U=>?_,g ⟨oL,hoL,I.free⟩ f,by simpa using I.len⟩ ⟨_,f,.inl rfl⟩
  ·exact(f.2 b (Nat.ne_of_lt (Nat.lt_of_lt_of_le (Heap.lt_size e) I.ok.above))).trans (I.base.keep b o e n F hx)
  ·obtain⟨W,l⟩:=I.base.slot b o e n F hx
   exact⟨W,(f.2 b (Nat.ne_of_lt (Nat.lt_of_lt_of_le (Heap.lt_size e) I.ok.above))).trans l⟩
  ·obtain⟨Y,l⟩:=I.base.there b o e hx
   exact⟨Y,(f.2 b (Nat.ne_of_lt (Nat.lt_of_lt_of_le (Heap.lt_size e) I.ok.above))).trans l⟩
  ·by_cases hj:j=i
   ·subst hj
    rw[hi]at l;cases l;rw[List.getElem?_set_self C]at B
    cases B
    exact⟨u,r,.inl ⟨D,by simp⟩⟩
   ·rw[List.getElem?_set_ne (Ne.symm hj)]at B
    obtain⟨Z,r',q⟩:=hl j y _ l B T
    refine⟨Z,r',?_⟩
    rcases q with ⟨k,e⟩ | ⟨k,c,e,z⟩
    ·refine .inl ⟨k,?_⟩
     have:y≠x:=fun e=>hj (Aa9 hN l (e▸hi))
     simp[this,e]
    ·exact .inr ⟨k,c,e,z.sameBut f (J y c e)⟩
  ·obtain⟨w',z⟩:=I.cell y c e
   exact⟨w',z.sameBut f (J y c e)⟩
  ·obtain⟨e,n,R,nf,d⟩:=I.pin p U
   exact⟨(f.2 _ R).trans e,n,R,nf,d⟩
 ·have G:X.fn x=true:=by
   rcases hf with z | z
   ·exact z
   ·rw[z]at D;cases D
  obtain⟨c,t⟩:=I.ok.has x (.inl D);obtain⟨w',z⟩:=I.cell x c t
  refine wpAny_storeName_cell I.ok.kind D t z fun L N f=>?_
  obtain⟨oc,P,O⟩:=id z
  refine h _ ⟨I.ok,I.os,I.bare,⟨fun b o e n F hx=>?_,fun b o e n F hx=>?_,I.base.free,fun b o e hx=>?_,I.base.tups,I.base.frzs,I.base.tbls⟩,⟨m,S.sameBut f (Ne.symm (J x c t)),fun j y v' l B T=>?_⟩,fun y c' e=>?_,I.free,I.freeC,fun p U=>?_,g ⟨oc,P,I.freeC x c t⟩ f,by simpa using I.len⟩ ⟨c,f,.inr t⟩
  ·exact(f.2 b (Nat.ne_of_lt (Nat.lt_of_lt_of_le (Heap.lt_size e) (I.ok.cab x c G t)))).trans (I.base.keep b o e n F hx)
  ·obtain⟨W,l⟩:=I.base.slot b o e n F hx
   exact⟨W,(f.2 b (Nat.ne_of_lt (Nat.lt_of_lt_of_le (Heap.lt_size e) (I.ok.cab x c G t)))).trans l⟩
  ·obtain⟨Y,l⟩:=I.base.there b o e hx
   exact⟨Y,(f.2 b (Nat.ne_of_lt (Nat.lt_of_lt_of_le (Heap.lt_size e) (I.ok.cab x c G t)))).trans l⟩
  ·by_cases hj:j=i
   ·subst hj
    rw[hi]at l;cases l;rw[List.getElem?_set_self C]at B
    cases B
    exact⟨u,r,.inr ⟨.inl D,c,t,N⟩⟩
   ·rw[List.getElem?_set_ne (Ne.symm hj)]at B
    obtain⟨Z,r',q⟩:=hl j y _ l B T
    refine⟨Z,r',?_⟩
    rcases q with q | ⟨k,c',e,z'⟩
    ·exact .inl q
    ·refine .inr ⟨k,c',e,z'.sameBut f ?_⟩
     rintro rfl
     exact hj (Aa9 hN l (I.ok.inj _ _ _ e t▸hi))
  ·by_cases hcc:c'=c
   ·subst hcc;exact⟨_,N⟩
   ·obtain⟨w2,z2⟩:=I.cell y _ e
    exact⟨w2,z2.sameBut f hcc⟩
  ·obtain⟨e,n,R,nf,d⟩:=I.pin p U
   refine⟨(f.2 _ ?_).trans e,n,R,nf,d⟩
   intro q;rw[q,P]at e
   exact d _ (by rw[<- (Option.some.inj e)];exact O)
theorem Gr         (I:Inv X pins σ H s) (hN:X.N.Nodup) (hi:X.N[i]?=some x) (hx:Loc X.env.scope x) (r:RelV v u)
 (h:∀a,Inv X pins (σ.set i (some v)) H a->Q () a) (hf:X.fn x=true\/X.env.scope.names.lookup x=some .local:=by first | exact .inl rfl | exact .inr rfl | assumption):wpAny M A (storeName X.env x u) Q E s :=
 Aq9 I hN hi hx r (fun a b _=>h _ b) hf
theorem Inv.call'   (I:Inv X pins σ H s) (ho:s'.os=s.os) (u:Un (frs X.stack) ch H H' s.heap s'.heap) (d:HOk X.prog X.w H' s'.heap) (hg:AllBare s'.gens)
 (a:∀b∈ch,(b∈X.ex\/X.s₀.heap.objs.size<=b)/\b≠X.env.locals/\(∀x c,X.env.cells.lookup x=some c->c≠b)/\∀p∈X.pn++pins,p.1≠b):Inv X pins σ H' s':=by
 obtain⟨f,g,h,i,e⟩:=s';subst ho;exact I.call    u d hg a
end
abbrev XK:=Value->Option Addr->Hp->Prop
abbrev St:=List (Option V)
abbrev VK:=V->Hp->Prop
abbrev TE:=St->Hp->VK->Prop
abbrev TT:=St->Hp->(Bool->Hp->Prop)->Prop
abbrev TA:=St->Hp->(List V->Hp->Prop)->Prop
structure Ends where
 nx:St->Hp->Prop
 rt:VK
 bk:St->Hp->Prop:=fun _ _=>False
 ct:St->Hp->Prop:=fun _ _=>False
abbrev TS:=Ends->St->Hp->Prop
def EP (X:Cx)(pins:List (Addr×Obj))(σ:St)(Q:VK)(u:Value)(s':Shared):Prop:=∃v H',Inv X pins σ H' s'/\RelV v u/\Q v H'
def TP (X:Cx)(pins:List (Addr×Obj))(σ:St)(Q:Bool->Hp->Prop)(b:Bool)(s':Shared):Prop:=∃H',Inv X pins σ H' s'/\Q b H'
def AP (X:Cx)(pins:List (Addr×Obj))(σ:St)(Q:List V->Hp->Prop)(us:List Value)(s':Shared):Prop:=∃vs H',Inv X pins σ H' s'/\Vals vs us/\Q vs H'
def SP (X:Cx)(pins:List (Addr×Obj))(D:Ends)(f:Flow)(s':Shared):Prop :=
 match f with
 | .next=>∃σ' H',Inv X pins σ' H' s'/\D.nx σ' H'
 | .brk=>∃σ' H',Inv X pins σ' H' s'/\D.bk σ' H'
 | .cont=>∃σ' H',Inv X pins σ' H' s'/\D.ct σ' H'
 | .ret u=>∃v σ' H',Inv X pins σ' H' s'/\RelV v u/\D.rt v H'
def PE (X:Cx)(e:Expr)(t:TE):Prop :=
 ∀(pins:List (Addr×Obj)) (s:Shared) (σ:St) (H:Hp) (Q:VK),Inv X pins σ H s->t σ H Q->wpAny (model X.prog X.w) X.A (eval e X.env) (EP X pins σ Q) X.xe s
def PT (X:Cx)(e:Expr)(t:TT):Prop :=
 ∀(pins:List (Addr×Obj)) (s:Shared) (σ:St) (H:Hp) (Q:Bool->Hp->Prop),Inv X pins σ H s->t σ H Q->wpAny (model X.prog X.w) X.A (isTrue e X.env (eval e X.env)) (TP X pins σ Q) X.xe s
def PW (X:Cx)(e:Expr)(t:TT):Prop :=
 ∀(whole:Sem Value) (pins:List (Addr×Obj)) (s:Shared) (σ:St) (H:Hp) (Q:Bool->Hp->Prop),Inv X pins σ H s->t σ H Q->wpAny (model X.prog X.w) X.A (isTrue e X.env whole) (TP X pins σ Q) X.xe s
theorem PW.pt    (h:PW X e t):PT X e t:=h _
def PA (X:Cx)(es:List Expr)(t:TA):Prop :=
 ∀(pos:Pos) (pins:List (Addr×Obj)) (s:Shared) (σ:St) (H:Hp) (Q:List V->Hp->Prop),Inv X pins σ H s->t σ H Q->wpAny (model X.prog X.w) X.A (spliced (backTo pos (starEach es X.env))) (AP X pins σ Q) X.xe s
def PS (X:Cx)(st:Stmt)(t:TS):Prop :=
 ∀(pins:List (Addr×Obj)) (s:Shared) (σ:St) (H:Hp) (D:Ends),Inv X pins σ H s->t D σ H->wpAny (model X.prog X.w) X.A (exec st X.env) (SP X pins D) X.xe s
def PSs (X:Cx)(st:List Stmt)(t:TS):Prop :=
 ∀(pins:List (Addr×Obj)) (s:Shared) (σ:St) (H:Hp) (D:Ends),Inv X pins σ H s->t D σ H->wpAny (model X.prog X.w) X.A (execs st X.env) (SP X pins D) X.xe s
theorem thn  {t:Sem c}{Q b:c->Shared->Prop}     (h:wpAny M A t Q E s) (d:∀a s,Q a s->b a s):wpAny M A t b E s:=wpAny_mono h d fun _ _ x=>x
section
variable {X:Cx}
def Aj5 (i:Nat):TE:=fun σ H Q=>∃v,σ[i]?=some (some v)/\Q v H
def tC (v:V):TE:=fun _ H Q=>Q v H
theorem Yt   {f:Pos}(hN:X.N[i]?=some x) (hv:Vis X.env.scope x) (hd:(x==("__debug__" : Str))=false:=by decide) (hcd:(x==("__classdict__" : Str))=false:=by decide):PE X (.Name x f) (Aj5 i):=by
 intro j s p H Q I h;obtain⟨v,e,h⟩:=h;obtain⟨m,k,n⟩:=I.loc;obtain⟨u,r,l⟩:=n i x v hN e hv;have b:EP X _ _ Q u s:=⟨v,H,I,r,h⟩
 rcases l with ⟨d,o⟩ | ⟨d,c,g,a⟩
 ·exact wpAny_Name (wpAny_loadName_local I.ok.kind d k o b) hd
 ·rcases d with d | d
  ·exact wpAny_Name (wpAny_loadName_cell I.ok.kind d g a b) hd
  ·exact wpAny_Name (wpAny_loadName_free I.ok.kind d g a b hcd) hd
theorem A3l  : PE X (.Constant (.int i) j a) (tC (.int i)):=fun _ _ _ H _ I h=>wpAny_Constant_int ⟨.int i,H,I.tok _,⟨_,rfl⟩,h⟩
theorem A8v  : PE X (.Constant (.bool b) j a) (tC (.bl b)):=fun _ _ _ H _ I h=>Constant_bool ⟨.bl b,H,I,rfl,h⟩
theorem A3p  : PE X (.Constant .none j a) (tC .non):=fun _ _ _ H _ I h=>Constant_none ⟨.non,H,I,rfl,h⟩
theorem A2q  : PE X (.Constant (.str x) j a) (tC (.str x)):=fun _ _ _ H _ I h=>Calls.Constant_str ⟨.str x,H,I.tok _,⟨_,rfl⟩,h⟩
def Gl (X:Cx)(x:Str):Prop:=X.env.kindOf x=some .globalImplicit
theorem Mf          (I:Inv X pins b H s) (hg:Gl X x) (hm:X.mg x=some u) (h:Q u s)
 (hd:(x==("__debug__" : Str))=false:=by decide):wpAny (model X.prog X.w) X.A (eval (.Name x a) X.env) Q E s :=
 Calls.Name_function_global I.ok.kind hg (Calls.loadGlobal_global (by rw[I.ok.glob];exact I.mod.glob.keeps I.bk) hm h) hd
theorem Tn {E:Value->Shared->Prop}       {a:Pos}  (I:Inv X pins c H s) (hg:Gl X x) (hm:X.mg x=none) (hv:bootBuiltins x=some u) (h:Q u s)
 (hn:x ≠ "__name__" := by decide) (hd:(x==("__debug__" : Str))=false:=by decide):wpAny (model X.prog X.w) X.A (eval (.Name x a) X.env) Q E s:=by
 obtain⟨e,d,b⟩:=I.mod.blt
 exact Calls.Name_function_global I.ok.kind hg (Calls.loadGlobal_builtin (by rw[I.ok.glob];exact I.mod.glob.keeps I.bk) hm (by rw[I.ok.blt];exact d.keeps I.bk) ((b x hn).trans hv) h) hd
theorem A5x     (hg:Gl X x) (hm:X.mg x=some u) (r:RelV v u) (hd:(x==("__debug__" : Str))=false:=by decide):PE X (.Name x a) (tC v) :=
 fun _ _ _ H _ I h=>Mf I hg hm ⟨v,H,I,r,h⟩ hd
theorem A7n    {a:Pos}(hg:Gl X x) (hm:X.mg x=none) (hv:bootBuiltins x=some u) (r:RelV v u) (hn:x ≠ "__name__" := by decide) (hd:(x==("__debug__" : Str))=false:=by decide):PE X (.Name x a) (tC v) :=
 fun _ _ _ H _ I h=>Tn I hg hm hv ⟨v,H,I,r,h⟩ hn hd
variable {a b:Expr}{ta tb:TE}{pos:Pos}
def tB (t:TE):TT:=fun σ H Q=>t σ H fun x H1=>∃c,x=.bl c/\Q c H1
theorem Bj7   (h:PE X e t) (he:∀whole,isTrue e X.env whole=(do let v <- whole;standAt e.pos;holding [v] (truthy v)):=by intro _;rfl):PT X e (tB t):=by
 intro a s σ H Q I f
 refine isTrue_plain (thn (h _ s _ H _ I f) fun v s1 ⟨x,g,b,c,i⟩=>?_) (he _)
 obtain⟨d,rfl,q⟩:=i
 cases c
 exact wpAny_truthy_bool ⟨g,b,q⟩
variable {tA tB':TT}{rest:List Expr}
def tOr (t u:TT):TT:=fun σ H Q=>t σ H fun c H1=>if c=true then Q true H1 else u σ H1 Q
def Bf9 (t:TT):TT:=fun σ H Q=>t σ H fun c H1=>Q (!c) H1
theorem Bc5 (ha:PT X a tA):PW X (.BoolOp .Or [a] pos) tA:=by
 intro f b s g H Q I h
 refine isTrue_or (thn (ha _ s _ H Q I h) fun c d e=>?_)
 cases c with
 | false=>exact isTrue_or_nil e
 | true=>exact e
theorem Bn2 (ha:PT X a tA)(hb:PW X (.BoolOp .Or (b::rest) pos) tB'):PW X (.BoolOp .Or (a::b::rest) pos) (tOr tA tB'):=by
 intro g d s k H Q I h
 refine isTrue_or (thn (ha _ s _ H _ I h) fun c i ⟨j,f,e⟩=>?_)
 cases c with
 | true=>assumption
 | false=>exact hb _ _ _ _ _ Q f e
theorem Bb1 (ha:PT X a tA):PT X (.UnaryOp .Not a pos) (Bf9 tA):=by
 intro b s c H Q I h;exact isTrue_not (ha _ s _ H _ I h)
def A2d (ta tb:TE):TE:=fun σ H Q=>ta σ H fun x H1=>∃c,x=.bl c/\if c=true then tb σ H1 Q else Q (.bl false) H1
def A0y (ta:TE):TE:=fun σ H Q=>ta σ H fun x H1=>∃c,x=.bl c/\Q (.bl (!c)) H1
theorem Be6   (h:PE X a t):PE X (.BoolOp op [a] pos) t:=fun b s d H Q I c=>BoolOp_one (h _ s _ H Q I c)
theorem Be1 (ha:PE X a ta)(hb:PE X (.BoolOp .And (b::rest) pos) tb):PE X (.BoolOp .And (a::b::rest) pos) (A2d ta tb):=by
 intro e s σ H Q I h
 refine BoolOp_and (thn (ha _ s _ H _ I h) fun v s1 ⟨x,i,f,g,d⟩=>?_)
 obtain⟨c,rfl,d⟩:=d
 cases g
 refine wpAny_truthy_bool ?_
 cases c with
 | true=>exact hb _ _ _ _ Q f d
 | false=>exact⟨.bl _,i,f,rfl,d⟩
theorem Bj8 (ha:PE X a ta):PE X (.UnaryOp .Not a pos) (A0y ta):=by
 intro d s σ H Q I h
 refine UnaryOp_ (thn (ha _ s _ H _ I h) fun v s1 ⟨x,f,g,e,b⟩=>?_)
 obtain⟨c,rfl,b⟩:=b
 cases e
 exact not_of (wpAny_truthy_bool ⟨.bl _,f,g,rfl,b⟩)
def tIf (t:TT)(ta tb:TE):TE:=fun σ H Q=>t σ H fun c H1=>if c=true then ta σ H1 Q else tb σ H1 Q
theorem A2a  (hc:PT X c tA) (ha:PE X a ta) (hb:PE X b tb):PE X (.IfExp c a b pos) (tIf tA ta tb):=by
 intro g s i H Q I h
 refine wpAny_IfExp (thn (hc _ s _ H _ I h) fun d k ⟨j,f,e⟩=>?_)
 cases d with
 | true=>exact ha _ _ _ _ Q f e
 | false=>exact hb _ _ _ _ Q f e
end
def SqL (K:PySem.W.Frag)(H:Hp)(a:Addr)(xs:List V):Prop :=
 Rd H a (.lst xs) \/
  ∃(o:Obj) (its:Array Value) (n:Nat),K.lookup a=some o/\o.cls=.type "list" /\ o.dict=none/\o.data=.seq its n/\its.size<=sizeLine/\Vals xs its.toList
def SqT (K:PySem.W.Frag)(H:Hp)(a:Addr)(xs:List V):Prop :=
 Rd H a (.tup xs) \/
  ∃(o:Obj) (its:Array Value) (n:Nat),K.lookup a=some o/\o.cls=.type "tuple" /\ o.data=.seq its n/\its.size<=sizeLine/\Vals xs its.toList
def Bt5:Value->Option V
 | .none=>some .non
 | .bool b=>some (.bl b)
 | .int i _=>some (.int i)
 | .str x _=>some (.str x)
 | .bytes b _=>some (.byt b)
 | .float b _=>some (.flt b)
 | .ref a=>some (.ref a)
 | .type n=>some (.ty n)
 | _=>none
theorem RelV.abs   (r:RelV x u):Bt5 u=some x:=by
 cases x with
 | non=>cases r;rfl
 | bl _=>cases r;rfl
 | int _=>obtain⟨t,rfl⟩:=r;rfl
 | str _=>obtain⟨t,rfl⟩:=r;rfl
 | byt _=>obtain⟨t,rfl⟩:=r;rfl
 | flt _=>obtain⟨t,rfl⟩:=r;rfl
 | ref _=>cases r;rfl
 | ty _=>cases r;rfl
theorem RelV.inj   (r:RelV x u) (q:RelV y u):x=y:=Option.some.inj (r.abs.symm.trans q.abs)
theorem Vals.inj:∀{xs ys:List V}{us:List Value},Vals xs us->Vals ys us->xs=ys
 | _,_,_,.nil,.nil=>rfl
 | _,_,_,.cons r t,.cons r' t'=>by rw[r.inj r',Vals.inj t t']
section
variable {X:Cx}{pins:List (Addr×Obj)}{σ:St}{H:Hp}{s:Shared}{a:Addr}{xs ys:List V}
theorem SqL.of {K:PySem.W.Frag}(h:H a=some (.lst xs)):SqL K H a xs:=.inl (.inl h)
theorem SqT.of {K:PySem.W.Frag}(h:H a=some (.tup xs)):SqT K H a xs:=.inl (.inl h)
theorem Inv.list (I:Inv X pins σ H s)(h:SqL X.K H a xs):∃b:List Value,Vals xs b/\PlainL s.heap a b.toArray/\xs.length<=sizeLine:=by
 rcases h with h | ⟨o,b,n,d,c,f,i,g,r⟩
 ·obtain⟨z,b,n,r,e⟩:=h.ok I.hok
  exact⟨b,r,⟨_,n,e,rfl,rfl,rfl⟩,z⟩
 ·refine⟨b.toList,r,⟨o,n,I.kIn a o d,c,f,by trivial⟩,?_⟩
  have e:=r.length
  simp_all
theorem Inv.tuple (I:Inv X pins σ H s)(h:SqT X.K H a xs):∃b:List Value,Vals xs b/\IsTup s.heap a b.toArray/\xs.length<=sizeLine:=by
 rcases h with h | ⟨o,b,n,d,c,g,f,r⟩
 ·obtain⟨z,b,r,p⟩:=h.ok I.hok
  exact⟨b,r,p.tup,z⟩
 ·refine⟨b.toList,r,⟨o,I.kIn a o d,c,n,by trivial⟩,?_⟩
  have e:=r.length
  simp_all
theorem Inv.list_inj (I:Inv X pins σ H s)(h:SqL X.K H a xs)(h':SqL X.K H a ys):xs=ys:=by
 obtain⟨c,r,⟨o,n,e,_,_,d⟩,_⟩:=I.list h;obtain⟨b,f,⟨i,j,k,_,_,g⟩,_⟩:=I.list h'
 have:c=b:=by simp_all
 subst this;exact r.inj f
theorem Inv.tuple_inj (I:Inv X pins σ H s)(h:SqT X.K H a xs)(h':SqT X.K H a ys):xs=ys:=by
 obtain⟨c,r,⟨o,e,_,n,d⟩,_⟩:=I.tuple h;obtain⟨b,f,⟨i,j,_,k,g⟩,_⟩:=I.tuple h'
 have:c=b:=by simp_all
 subst this;exact r.inj f
end
abbrev Cx.wish (X:Cx)(E:Value->Shared->Prop):Cx:={ X with xe:=E }
abbrev Cx.nox (X:Cx):Cx:=X.wish fun _ _=>False
theorem Cx.Ok.wish {X:Cx}(a:X.Ok)(E:Value->Shared->Prop):(X.wish E).Ok :=
 ⟨a.mod,a.kind,a.glob,a.blt,a.above,a.inj,a.has,a.cab,a.hd,a.frames,a.stk,a.exf,a.bs,a.bsz,a.noex,a.exfs,a.funs,a.frf,a.tab⟩
theorem Cx.Ok.unwish {X:Cx}  (a:(X.wish E).Ok):X.Ok :=
 ⟨a.mod,a.kind,a.glob,a.blt,a.above,a.inj,a.has,a.cab,a.hd,a.frames,a.stk,a.exf,a.bs,a.bsz,a.noex,a.exfs,a.funs,a.frf,a.tab⟩
section
variable {X:Cx}{pins:List (Addr×Obj)}{σ:St}{H:Hp}{s:Shared}{E:Value->Shared->Prop}
theorem Inv.wish (I:Inv X pins σ H s)(E:Value->Shared->Prop):Inv (X.wish E) pins σ H s:=⟨I.ok.wish E,I.os,I.bare,I.base,I.loc,I.cell,I.free,I.freeC,I.pin,I.hok,I.len⟩
theorem Inv.unwish (I:Inv (X.wish E) pins σ H s):Inv X pins σ H s:=⟨I.ok.unwish,I.os,I.bare,I.base,I.loc,I.cell,I.free,I.freeC,I.pin,I.hok,I.len⟩
theorem SP.unwish    (h:SP (X.wish E) pins D f s'):SP X pins D f s':=by
 cases f with
 | next=>obtain⟨a,b,I,q⟩:=h;exact⟨a,b,I.unwish,q⟩
 | brk=>obtain⟨a,b,I,q⟩:=h;exact⟨a,b,I.unwish,q⟩
 | cont=>obtain⟨a,b,I,q⟩:=h;exact⟨a,b,I.unwish,q⟩
 | ret u=>obtain⟨v,a,b,I,r,q⟩:=h;exact⟨v,a,b,I.unwish,r,q⟩
theorem PSs.nox {st:List Stmt}  (h:PSs X.nox st t):PSs X st t:=fun a s c H D I b =>
 wpAny_mono (h _ s _ H D (I.wish _) b) (fun _ _ q=>q.unwish) fun _ _ z=>False.elim z
end
section
variable {X:Cx}{st:Stmt}{rest:List Stmt}{t u:TS}{e:Expr}{te:TE}{pos:Pos}
def A2c:TS:=fun D σ H=>D.nx σ H
def Ay7 (t u:TS):TS:=fun D σ H=>t { D with nx:=u D } σ H
theorem A6s:PSs X [] A2c:=fun _ _ a H _ I h=>wpAny_execs_nil ⟨a,H,I,h⟩
theorem A3a (h1:PS X st t)(h2:PSs X rest u):PSs X (st::rest) (Ay7 t u):=by
 intro a s d H D I h
 refine wpAny_execs_cons (thn (h1 _ s _ H _ I h) fun f e q=>?_)
 cases f with
 | next =>
  obtain⟨c,g,b,q⟩:=q;exact h2 _ _ _ _ D b q
 | ret v=>exact q
 | brk=>exact q
 | cont=>exact q
theorem An4 (h1:PS X st t):PSs X [st] t:=by
 intro a s c H D I h
 refine wpAny_execs_cons (thn (h1 _ s _ H D I h) fun f b q=>?_)
 cases f with
 | next=>exact wpAny_execs_nil q
 | ret v=>grind
 | brk=>grind
 | cont=>grind
theorem Inv.quiet     (I:Inv X pins a H s):interactive X.env=false:=by simp[interactive,I.ok.kind]
def Zz (te:TE):TS:=fun D σ H=>te σ H fun _ H1=>D.nx σ H1
theorem A6d (he:PE X e te)(hs:swapsWith e none pos.line X.env=pure false:=by rfl):PS X (.Expr e pos) (Zz te):=by
 intro a s c H D I h
 exact wpAny_Expr_any (thn (he _ s _ H _ I h) fun v g ⟨x,f,d,i,b⟩=>⟨c,f,d,b⟩) I.quiet hs
def Bi7 (te:TE):TS:=fun D σ H=>te σ H D.rt
theorem Bn0 (he:PE X e te):PS X (.Return (some e) pos) (Bi7 te):=by
 intro a s c H D I h
 exact wpAny_Return_some (thn (he _ s _ H _ I h) fun v i ⟨x,f,d,g,b⟩=>⟨x,c,f,d,g,b⟩)
def A5e (c:TT)(t u:TS):TS:=fun D σ H=>c σ H fun b H1=>if b=true then t D σ H1 else u D σ H1
theorem Bo6    (hc:PT X c f) (ha:PSs X a t) (hb:PSs X b u):PS X (.If c a b pos) (A5e f t u):=by
 intro i s j H D I h
 refine wpAny_If (thn (hc _ s _ H _ I h) fun d l ⟨k,g,e⟩=>?_)
 cases d with
 | true=>exact ha _ _ _ _ D g e
 | false=>exact hb _ _ _ _ D g e
end
abbrev TG:=V->St->Hp->(St->Hp->Prop)->Prop
abbrev TGs:=List V->St->Hp->(St->Hp->Prop)->Prop
def PG (X:Cx)(target:Expr)(t:TG):Prop :=
 ∀
  (pins:List (Addr×Obj)) (s:Shared) (σ:St) (H:Hp) (v:V) (u:Value) (Q:St->Hp->Prop),Inv X pins σ H s->RelV v u->t v σ H Q ->
  wpAny (model X.prog X.w) X.A (assign target X.env u) (fun _ s'=>∃σ' H',Inv X pins σ' H' s'/\Q σ' H') X.xe s
def PGs (X:Cx)(ts:List Expr)(t:TGs):Prop :=
 ∀
  (pins:List (Addr×Obj)) (s:Shared) (σ:St) (H:Hp) (vs:List V) (us:List Value) (Q:St->Hp->Prop),Inv X pins σ H s->Vals vs us->t vs σ H Q ->
  wpAny (model X.prog X.w) X.A (assignInOrder ((assignEach ts X.env).map (·.2)) us) (fun _ s'=>∃σ' H',Inv X pins σ' H' s'/\Q σ' H') X.xe s
abbrev Bs3:=V->V->V->Hp->(Hp->Prop)->Prop
def Bj4 (X:Cx)(t:Bs3):Prop :=
 ∀
  (pins:List (Addr×Obj)) (s:Shared) (σ:St) (H:Hp) (o i v:V) (ov iv u:Value) (Q:Hp->Prop),Inv X pins σ H s->RelV o ov->RelV i iv->RelV v u->t o i v H Q ->
  wpAny (model X.prog X.w) X.A (setItem ov iv u) (fun _ s'=>∃H',Inv X pins σ H' s'/\Q H') X.xe s
section
variable {X:Cx}{pos:Pos}
def Js (i:Nat):TG:=fun v σ H Q=>Q (σ.set i (some v)) H
theorem A8d   (hN:X.N.Nodup) (hi:X.N[i]?=some x) (hx:Loc X.env.scope x) (hf:X.fn x=true\/X.env.scope.names.lookup x=some .local:=by first | exact .inl rfl | exact .inr rfl | assumption):PG X (.Name x pos) (Js i):=by
 intro a s c H v u Q I r h
 exact wpAny_assign_Name (Gr I hN hi hx r (fun d b=>⟨_,H,b,h⟩) hf)
def Aj8:TGs:=fun vs σ H Q=>vs=[]/\Q σ H
def Pu (t:TG)(u:TGs):TGs:=fun vs σ H Q=>∃v r,vs=v::r/\t v σ H fun σ' H'=>u r σ' H' Q
theorem A8q:PGs X [] Aj8:=by
 intro a s b H d c Q I r h;obtain⟨e,h⟩:=h;exact assignInOrder_nil ⟨b,H,I,h⟩
theorem A0m     (h1:PG X e t) (h2:PGs X es u)
 (hs:(assignEach (e::es) X.env).map (·.2)=assign e X.env::(assignEach es X.env).map (·.2):=by rfl):PGs X (e::es) (Pu t u):=by
 intro a s i H j n Q I r h;obtain⟨v,l,f,h⟩:=h;subst f
 cases r with
 | cons r d =>
  rw[hs]
  refine assignInOrder_cons (thn (h1 _ s _ H _ _ _ I r h) fun _ k ⟨c,m,g,b⟩=>?_)
  exact h2 _ _ _ _ _ _ Q g d b
def Aq5 (K:PySem.W.Frag)(n:Nat)(t:TGs):TG:=fun v σ H Q=>∃a xs,v=.ref a/\SqT K H a xs/\xs.length=n/\t xs σ H Q
theorem Bc8  {k:Nat}   (hc:X.calm=true) (h:PGs X es t)
 (hn:(assignEach es X.env).length=n:=by rfl) (hst:(assignEach es X.env).findIdx? (·.1)=none:=by rfl):PG X (.Tuple es k pos) (Aq5 X.K n t):=by
 intro d s x H v u Q I r c;obtain⟨a,y,j,l,m,c⟩:=c;subst j
 cases r
 obtain⟨g,i,q,z⟩:=I.tuple l
 refine assign_Tuple_tuple (I.ok.hd hc) q (by simp[hn,<- m,i.length]) hst fun p w=>?_
 have f:Inv X _ _ H { s with heap:=p }:=I.kept  fun b o e=>w b o (Nat.ne_of_lt (Heap.lt_size e)) e
 exact h _ _ _ H _ _ Q f (by trivial) c
def Bb4 (to ti:TE)(t:Bs3):TG:=fun v σ H Q=>to σ H fun o H1=>ti σ H1 fun i H2=>t o i v H2 fun H3=>Q σ H3
theorem Ba6    (ho:PE X o e) (hi:PE X i d) (hs:Bj4 X t)
 (ha:∀v,assign (.Subscript o i pos) X.env v=(do
  let a <- holding [v] (eval o X.env)
  let b <- holding [v,a] (eval i X.env)
  standAt pos
  holding [v,a,b] (setItem a b v)
  release [v,a,b] []):=by intro _;rfl):PG X (.Subscript o i pos) (Bb4 e d t):=by
 intro c s m H v u Q I r h;rw[ha]
 refine wpAny_bind (wpAny_holding (thn (ho _ s _ H _ I h) fun a z ⟨x,C,j,k,l⟩=>?_))
 refine wpAny_bind (wpAny_holding (thn (hi _ _ _ _ _ j l) fun b D ⟨y,A,g,p,n⟩=>?_))
 refine wpAny_bind (wpAny_standAt (wpAny_bind (wpAny_holding (thn (hs _ _ _ _ x y v _ _ u _ g k p r n) fun _ B ⟨q,w,f⟩=>?_))))
 exact wpAny_release ⟨m,q,w,f⟩
def Y7 (te:TE)(g:TG):TS:=fun D σ H=>te σ H fun x H1=>g x σ H1 D.nx
theorem A9w    (he:PE X e b) (hg:PG X a g) (hs:swapsWithSole [a] e pos.line X.env=pure false:=by rfl) (hw:swappedStores [a] e X.env=pure none:=by rfl)
 (h1:(assignEach [a] X.env).map (·.2)=[assign a X.env]:=by rfl):PS X (.Assign [a] e pos) (Y7 b g):=by
 intro c s k H D I h
 refine wpAny_Assign_stores (thn (he _ s _ H _ I h) fun v l ⟨x,m,d,i,f⟩=>?_) hs hw
 rw[h1]
 exact thn (hg _ _ _ _ x v _ d i f) fun _ j q=>q
theorem A1p      (hN:X.N.Nodup) (hi:X.N[i]?=some x) (hx:Loc X.env.scope x) (he:PE X e b) (hs:swapsWith e (some (.Name x a)) pos.line X.env=pure false:=by rfl) (hf:X.fn x=true\/X.env.scope.names.lookup x=some .local:=by first | exact .inl rfl | exact .inr rfl | assumption) :
 PS X (.Assign [.Name x a] e pos) (Y7 b (Js i)):=by
 intro c s l H D I h
 refine wpAny_Assign_Name (thn (he _ s _ H _ I h) fun v m ⟨y,j,f,g,k⟩=>?_) hs
 exact Gr f hN hi hx g (fun n d=>⟨_,j,d,k⟩) hf
def Bl0 (i j:Nat)(ta:TA):TS:=fun D σ H=>ta σ H fun vs H1=>∃v w,vs=[v,w]/\D.nx ((σ.set i (some v)).set j (some w)) H1
theorem Bi4       (hc:X.calm=true) (hN:X.N.Nodup) (hi:X.N[i]?=some x) (hj:X.N[j]?=some y) (hij:i≠j)
 (hx:X.env.scope.names.lookup x=some .local) (hy:X.env.scope.names.lookup y=some .local) (ha:PA X [a,b] C)
 (hw:swappedStores [.Tuple [.Name x m,.Name y r] n t] (.Tuple [a,b] k2 d) X.env=pure (some [x,y]))
 (hs:swapsWithSole [.Tuple [.Name x m,.Name y r] n t] (.Tuple [a,b] k2 d) pos.line X.env=pure false:=by rfl) :
 PS X (.Assign [.Tuple [.Name x m,.Name y r] n t] (.Tuple [a,b] k2 d) pos) (Bl0 i j C):=by
 intro c s B H D I h;rw[exec_Assign_arm]
 refine wpAny_bind (wpAny_standAt ?_)
 rw[hs]
 refine wpAny_bind (wpAny_pure ?_)
 rw[if_neg (by decide)]
 refine wpAny_bind (Tuple_ (thn (ha _ c s B H _ I h) fun L f ⟨vs,E,M,F,l⟩=>?_))
 obtain⟨v,w,G,l⟩:=l;subst G
 obtain⟨k,g,rfl,K,u⟩:∃k g,L=[k,g]/\RelV v k/\RelV w g:=by
  cases F with
  | cons p q =>
   cases q with
   | cons p' O =>
    cases O
    grind
 refine wpAny_newObj_type ?_ (by show 2<=sizeLine;decide)
 have J:Inv X c B E { f with heap:=f.heap.push { cls:=.type "tuple",data:=.seq [k,g].toArray } }:=M.kept (t':=f.toks) fun b o e=>Heap.get?_push_of_some _ e
 rw[hw]
 refine wpAny_bind (wpAny_pure ?_)
 show wpAny (model X.prog X.w) X.A (do rule "assign.swapped-stores";let items <- unpackItems (.ref f.heap.objs.size) 2 none;assignInOrder [fun v=>bindName X.env y v,fun v=>bindName X.env x v] items.reverse;pure Flow.next) _ _ _
 refine wpAny_bind (wpAny_rule (wpAny_bind (unpackItems_tuple (items:=#[k,g]) (I.ok.hd hc) (IsTup.new _ _) fun h' z=>?_)))
 refine wpAny_bind (assignInOrder_cons (wpAny_bindName (Gr (J.kept  (t':=f.toks) fun b o e=>z b o (Nat.ne_of_lt (Heap.lt_size e)) e) hN hj (.inl hy) u (fun s2 N=>?_) (.inr hy))))
 refine assignInOrder_cons (wpAny_bindName (Gr N hN hi (.inl hx) K (fun s3 A=>assignInOrder_nil (wpAny_pure ?_)) (.inr hx)))
 rw[List.set_comm _ _ (Ne.symm hij)]at A;exact⟨_,E,A,l⟩
end
structure It where
 go:Nat->Hp->Prop
 yld:Nat->Hp->V->Hp->Prop
 stop:Nat->Hp->Prop
def Rj (X:Cx)(pins:List (Addr×Obj))(H:Hp)(b:Addr):Prop :=
 H b=none/\b≠X.env.locals/\b∉X.fs/\(b∈X.ex\/X.s₀.heap.objs.size<=b)/\(∀x c,X.env.cells.lookup x=some c->c≠b)/\∀p∈X.pn++pins,p.1≠b
theorem Inv.fpOk       (I:Inv X pins d H s) (hb:s.heap.objs.size<=b) (hn:H' b=none):Rj X pins H' b:=by
 refine⟨hn,Nat.ne_of_gt (Nat.lt_of_lt_of_le I.lt hb),I.nofs hb,.inr (Nat.le_trans I.sz hb),fun x c e z=>?_,fun p a z=>?_⟩
 ·obtain⟨v,q⟩:=I.cell x c e
  exact absurd (Nat.lt_of_lt_of_le q.lt (by simp_all)) (Nat.lt_irrefl _)
 ·exact absurd (Nat.lt_of_lt_of_le (Heap.lt_size (I.pin p a).1) (by simp_all)) (Nat.lt_irrefl _)
structure Turn (P:Program) (w:World) (K:PySem.W.Frag) (tg:Expr) (J:It) (fp:List Addr) (it:Addr) (tn:Nat->Heap->Prop):Prop where
 mem:it∈fp
 obj:∀i h,tn i h->∀b∈fp,∃o,h.get? b=some o/\∀v,o.data≠.cell v
 keep:∀i h h',tn i h->(∀b∈fp,∀o,h.get? b=some o->h'.get? b=some o)->tn i h'
 item:∀(X:Cx),X.prog=P->X.w=w->X.K=K->X.calm=true->∀(i:Nat) (pins:List (Addr×Obj)) (s:Shared) (σ:St) (H:Hp) (E:Value->Shared->Prop),Inv X pins σ H s->(∀b∈fp,Rj X pins H b)->tn i s.heap->J.go i H ->
  wpAny (model P w) X.A (pyNext (.ref it)) (fun r s1=>∃u,r=some u /\
   wpAny (model P w) X.A (letOwnedTupleGo tg (.ref it) u) (fun _ s2=>∃x H',Inv X pins σ H' s2/\RelV x u/\J.yld i H x H'/\tn (i+1) s2.heap/\∀b∈fp,H' b=none) E s1) E s
 done:∀(X:Cx),X.prog=P->X.w=w->X.K=K->X.calm=true->∀(i:Nat) (pins:List (Addr×Obj)) (s:Shared) (σ:St) (H:Hp) (E:Value->Shared->Prop),Inv X pins σ H s->(∀b∈fp,Rj X pins H b)->tn i s.heap->J.stop i H ->
  wpAny (model P w) X.A (pyNext (.ref it)) (fun r s1=>r=none/\Inv X pins σ H s1) E s
 self:∀(A:Around) (i:Nat) (s:Shared) (Q:Value->Shared->Prop) (E:Value->Shared->Prop),tn i s.heap->Q (.ref it) s->wpAny (model P w) A (pyIter (.ref it)) Q E s
abbrev TI:=St->Hp->(It->Hp->Prop)->Prop
def PIE (X:Cx)(pins:List (Addr×Obj))(σ:St)(tg:Expr)(R:It->Hp->Prop)(itv:Value)(s2:Shared):Prop :=
 ∃(it:Addr) (fp:List Addr) (tn:Nat->Heap->Prop) (J:It) (H':Hp),itv=.ref it/\Inv X pins σ H' s2/\Turn X.prog X.w X.K tg J fp it tn/\tn 0 s2.heap/\(∀b∈fp,Rj X pins H' b)/\R J H'
def PI (X:Cx)(tg iter:Expr)(wi:TI):Prop :=
 ∀
  (pins:List (Addr×Obj)) (s:Shared) (σ:St) (H:Hp) (R:It->Hp->Prop),Inv X pins σ H s->wi σ H R ->
  wpAny (model X.prog X.w) X.A (eval iter X.env) (fun v s1=>wpAny (model X.prog X.w) X.A (pyIter v) (PIE X pins σ tg R) X.xe s1) X.xe s
theorem Am3            (ho:s.heap.get? it=some o) (hc:o.cls=.type n) (hd:o.data=.fields vs)
 (hn:["enumerate", "zip", "dict_itemiterator", "dict_reverseitemiterator", "odict_iterator", "itertools.zip_longest", "itertools.pairwise"].contains n=false) (a:Q () s):wpAny M A (letOwnedTupleGo b (.ref it) u) Q E s:=by
 cases b <;> first
  | exact wpAny_pure a
  | (cases u <;> first
   | exact wpAny_pure a
   | (
    refine wpAny_bind (wpAny_load ho ?_)
    rw[hc,hd]
    show wpAny M A (if (["enumerate", "zip", "dict_itemiterator", "dict_reverseitemiterator", "odict_iterator", "itertools.zip_longest", "itertools.pairwise"].contains n&&vs[0]?==some _)=true then _ else _) Q E s
    rw[if_neg (by intro h;rw[hn]at h;cases h)]
    exact wpAny_pure a))
def Itl (K:PySem.W.Frag)(a:Addr):It :=
 ⟨fun i H=>∃xs x,SqL K H a xs/\xs[i]?=some x,fun i H x H'=>H'=H/\∀xs,SqL K H a xs->xs[i]?=some x,fun i H=>∃xs,SqL K H a xs/\xs.length<=i⟩
def Itt (K:PySem.W.Frag)(a:Addr):It :=
 ⟨fun i H=>∃xs x,SqT K H a xs/\xs[i]?=some x,fun i H x H'=>H'=H/\∀xs,SqT K H a xs->xs[i]?=some x,fun i H=>∃xs,SqT K H a xs/\xs.length<=i⟩
def Itr (lo:Int)(n:Nat):It:=⟨fun i _=>i<n,fun i H x H'=>H'=H/\x=.int (lo+i),fun i _=>n<=i⟩
theorem Au9 {P:Program}{w:World}{K:PySem.W.Frag}{tg:Expr}(a it:Addr):Turn P w K tg (Itl K a) [it] it (fun i h=>h.IsListIter it a i) where
 mem:=by simp
 obj:=fun i h st b hb=>by
  have e:b=it:=by simpa using hb
  subst e;obtain⟨o,e,c,d⟩:=st
  exact⟨o,e,fun v z=>by rw[d]at z;cases z⟩
 keep:=fun i h h' st k=>st.at fun o e=>k it (by simp) o e
 item:=by
  intro X hP hw hK hc i pins s σ H E I hf st hg;subst hP hw hK;obtain⟨xs,x,hq,hx⟩:=hg;obtain⟨its,rv,p,hz⟩:=I.list hq;obtain⟨u,hu,ru⟩:=rv.get hx
  obtain⟨f0,f1,f2,f3,f4,f5⟩:=hf it (by simp)
  refine wpAny_pyNext_list_item st p.isList (x:=u) (by simpa using hu) fun h' st' sb=>?_
  have I1:Inv X pins σ H { s with heap:=h' }:=I.turned (t':=s.toks) (fun b o hb e=>(sb.2 b hb).trans e) f0 f1 f3 f4 f5
  obtain⟨o,e,c,d⟩:=id st'
  exact⟨u,rfl,Am3 (s:={ s with heap:=h' }) e c d (by decide) ⟨x,H,I1,ru,⟨rfl,fun ys hy=>by rw[I.list_inj hy hq];exact hx⟩,st',fun b hb=>(hf b hb).1⟩⟩
 done:=by
  intro X hP hw hK hc i pins s σ H E I hf st hg;subst hP hw hK;obtain⟨xs,hq,hx⟩:=hg;obtain⟨its,rv,p,hz⟩:=I.list hq
  obtain⟨f0,f1,f2,f3,f4,f5⟩:=hf it (by simp)
  have hl:=rv.length
  exact wpAny_pyNext_list_end (I.ok.hd hc) st p.isList (by simp;omega) fun h' eb=>⟨rfl,I.turned (t':=s.toks) (fun b o hb e=>eb b o hb e) f0 f1 f3 f4 f5⟩
 self:=fun _ _ _ _ _ st h=>wpAny_pyIter_listiter st h
theorem Aj1 {P:Program}{w:World}{K:PySem.W.Frag}{tg:Expr}(a it:Addr):Turn P w K tg (Itt K a) [it] it (fun i h=>h.IsTupleIter it a i) where
 mem:=by simp
 obj:=fun i h st b hb=>by
  have e:b=it:=by simpa using hb
  subst e;obtain⟨o,e,c,d⟩:=st
  exact⟨o,e,fun v z=>by rw[d]at z;cases z⟩
 keep:=fun i h h' st k=>st.at fun o e=>k it (by simp) o e
 item:=by
  intro X hP hw hK hc i pins s σ H E I hf st hg;subst hP hw hK;obtain⟨xs,x,hq,hx⟩:=hg;obtain⟨its,rv,p,hz⟩:=I.tuple hq;obtain⟨u,hu,ru⟩:=rv.get hx
  obtain⟨f0,f1,f2,f3,f4,f5⟩:=hf it (by simp)
  refine wpAny_pyNext_tuple_item st (show s.heap.IsTuple a its.toArray from p) (x:=u) (by simpa using hu) fun h' st' sb=>?_
  have I1:Inv X pins σ H { s with heap:=h' }:=I.turned (t':=s.toks) (fun b o hb e=>(sb.2 b hb).trans e) f0 f1 f3 f4 f5
  obtain⟨o,e,c,d⟩:=id st'
  exact⟨u,rfl,Am3 (s:={ s with heap:=h' }) e c d (by decide) ⟨x,H,I1,ru,⟨rfl,fun ys hy=>by rw[I.tuple_inj hy hq];exact hx⟩,st',fun b hb=>(hf b hb).1⟩⟩
 done:=by
  intro X hP hw hK hc i pins s σ H E I hf st hg;subst hP hw hK;obtain⟨xs,hq,hx⟩:=hg;obtain⟨its,rv,p,hz⟩:=I.tuple hq
  obtain⟨f0,f1,f2,f3,f4,f5⟩:=hf it (by simp)
  have hl:=rv.length
  exact wpAny_pyNext_tuple_end (I.ok.hd hc) st (show s.heap.IsTuple a its.toArray from p) (by simp;omega) fun h' eb=>⟨rfl,I.turned (t':=s.toks) (fun b o hb e=>eb b o hb e) f0 f1 f3 f4 f5⟩
 self:=fun _ _ _ _ _ st h=>wpAny_pyIter_tupleiter st h
theorem Ah5 {P:Program}{w:World}{K:PySem.W.Frag}{tg:Expr}(it:Addr)(lo:Int)(n:Nat):Turn P w K tg (Itr lo n) [it] it (fun i h=>IsRangeIter h it (lo+(i:Nat)*1) ((n:Int)-(i:Nat)) 1) where
 mem:=by simp
 obj:=fun i h st b hb=>by
  have e:b=it:=by simpa using hb
  subst e
  exact⟨_,st,fun v z=>by
   have z':Data.fields _=Data.cell v:=z
   cases z'⟩
 keep:=fun i h h' st k=>k it (by simp) _ st
 item:=by
  intro X hP hw hK hc i pins s σ H E I hf st hg;subst hP hw hK
  obtain⟨f0,f1,f2,f3,f4,f5⟩:=hf it (by simp)
  have W:=Walks.range (prog:=X.prog) (w:=X.w) (I.ok.hd hc) it lo 1 n
  refine W.item i s _ _ hg st fun v h' tk hv st' kk=>?_
  obtain⟨t,rfl⟩:=hv
  have I1:Inv X pins σ H { s with heap:=h',toks:=tk }:=I.turned (fun b o hb e=>kk b o (by simpa using hb) e) f0 f1 f3 f4 f5
  refine⟨_,rfl,Am3 (s:={ s with heap:=h',toks:=tk }) (n := "range_iterator") st' rfl rfl (by decide) ⟨.int (lo+i),H,I1,⟨t,?_⟩,⟨rfl,rfl⟩,st',fun b hb=>(hf b hb).1⟩⟩
  rw[Int.mul_one]
 done:=by
  intro X hP hw hK hc i pins s σ H E I hf st hg;subst hP hw hK
  obtain⟨f0,f1,f2,f3,f4,f5⟩:=hf it (by simp)
  exact wpAny_pyNext_range_end (I.ok.hd hc) st (by have:n<=i:=hg;omega) fun h' eb=>⟨rfl,I.turned (t':=s.toks) (fun b o hb e=>eb b o hb e) f0 f1 f3 f4 f5⟩
 self:=fun _ _ _ _ _ st h=>wpAny_pyIter_rangeiter st h
section
variable {X:Cx}{tg:Expr}
theorem Az3       {lo hi:Int}   (I:Inv X pins c H s) (h1:-(2 ^ 62)<=lo) (h2:lo<2 ^ 62) (d:-(2 ^ 62)<=hi) (f:hi<2 ^ 62)
 (q:R (Itr lo (hi-lo).toNat) H):wpAny (model X.prog X.w) X.A (pyIter (.ref s.heap.objs.size)) (PIE X pins c tg R) E { s with heap:=s.heap.push { cls:=.type "range",data:=.fields #[.int lo t,.int hi u,.int 1 v] },toks:=tk }:=by
 refine wpAny_pyIter_range (IsRange.new ..) (small_one h1 h2 d f) ?_
 have a:Inv X _ _ H { s with heap:=s.heap.push { cls:=.type "range",data:=.fields #[.int lo t,.int hi u,.int 1 v] },toks:=tk }:=I.kept fun b o e=>Heap.get?_push_of_some _ e
 refine⟨(s.heap.push _).objs.size,[(s.heap.push _).objs.size],_,_,H,rfl,
  a.kept  fun b o e=>Heap.get?_push_of_some _ e,Ah5 _ _ _,?_,fun b i=>?_,q⟩
 ·have h:lo+((0:Nat))*1=lo:=by simp
  have g:(((hi-lo).toNat):Int)-((0:Nat))=Builtin.Range.rangeSize lo hi 1:=by rw[rangeSize_one];grind
  rw[h,g];exact Heap.get?_push_size _ rfl
 ·have e:b=(s.heap.push { cls:=.type "range",data:=.fields #[.int lo t,.int hi u,.int 1 v] }).objs.size:=by grind
  subst e;exact a.fpOk (Nat.le_refl _) (a.hok.fresh (Nat.le_refl _))
def A2o (ta:TA):TI:=fun σ H R=>ta σ H fun vs H1=>∃j:Int,vs=[.int j]/\-(2 ^ 62)<=j/\j<2 ^ 62/\R (Itr 0 j.toNat) H1
theorem Ar5    (hg:Gl X "range") (hm:X.mg "range" = none) (ha:PA X [a] d) (hs:starEach [a] X.env=[(false,eval a X.env)]:=by rfl):PI X tg (.Call (.Name "range" p) [a] [] b) (A2o d):=by
 intro f s σ H R I h
 refine Call_ (Tn I hg hm boot_range (PyProof.Rows.callWith_type1 (thn (ha _ _ s _ H _ I h) fun us s1 ⟨vs,H1,g,i,c⟩=>?_) hs rfl))
 obtain⟨j,e,c,k,q⟩:=c;subst e
 cases i with
 | cons r l =>
  cases l
  obtain⟨t,rfl⟩:=r
  exact call_range_1 (Az3 g (by omega) (by omega) c k (by grind))
def A6u (wi:TI)(g:TG)(tb:TS):TS:=fun D σ H=>wi σ H fun J H1=>∃W:Nat->Nat->St->Hp->Prop,(∃m,W 0 m σ H1)/\∀i m σ H,W i m σ H ->
 (J.stop i H/\D.nx σ H)\/(J.go i H/\∃N:St->Hp->Prop,(∀σ' H',N σ' H'->∃m',m'<m/\W (i+1) m' σ' H')/\∀x H',J.yld i H x H'->g x σ H' fun σ2 H2=>tb { D with nx:=N,ct:=N,bk:=D.nx } σ2 H2)
def Um (fp:List Addr)(h:Heap):List (Addr×Obj):=fp.filterMap fun b=>(h.get? b).map fun o=>(b,o)
theorem Kf     (hb:b∈fp) (e:h.get? b=some o):(b,o)∈Um fp h:=List.mem_filterMap.mpr ⟨b,hb,by grind⟩
theorem As5    (hp:p∈Um fp h):p.1∈fp/\h.get? p.1=some p.2:=by
 obtain⟨b,a,e⟩:=List.mem_filterMap.mp hp
 cases q:h.get? b with
 | none=>simp_all
 | some o =>
  grind
theorem Inv.pinned      (I:Inv X pins a H s) (hf:∀b∈fp,Rj X pins H b) (ho:∀b∈fp,∃o,s.heap.get? b=some o/\∀v,o.data≠.cell v):Inv X (pins++Um fp s.heap) a H s :=
 I.pins_of fun p d=>(List.mem_append.mp d).elim (fun z=>I.pin p (List.mem_append_right _ z)) fun z=>by
  obtain⟨c,e⟩:=As5 z;obtain⟨g,h,f,_⟩:=hf _ c
  grind
theorem Inv.unpinned     (I:Inv X (pins++pl) a H s):Inv X pins a H s:=I.pins_of fun p b=>I.pin p (List.mem_append_right _ (List.mem_append_left _ b))
theorem Bm9       (hp:PassesOwn (model X.prog X.w) X.A X.env X.xe) (hc:X.calm=true) (hi:PI X tg p Z) (hg:PG X tg g) (hb:PSs X body tb)
 (hs:∀x,foldedSetIterable p X.env x=pure x:=by intro _;rfl):PS X (.For tg p body [] P) (A6u Z g tb):=by
 intro a s σ H D I h
 refine wpAny_For (thn (hi a s σ H _ I h) fun v s1 h1=>thn h1 fun itv s2 h2=>?_) hs
 obtain⟨it,C,tn,J,H2,e,I2,T,Q,Y,W,⟨m0,w0⟩,E⟩:=h2;subst e
 have k:∀{t:Hp},(∀b∈C,t b=none)->∀b∈C,Rj X a t b:=fun hn b hb=>⟨hn b hb,(Y b hb).2⟩
 refine codeAny_forLoop_any (fun n U=>∃i σ' t,Inv X a σ' t U/\tn i U.heap/\(∀b∈C,t b=none)/\W i n σ' t) ?_ m0 ⟨0,σ,H2,I2,Q,fun b hb=>(Y b hb).1,w0⟩
 rintro n V ⟨i,j,L,I3,B,F,w3⟩
 rcases E i n j L w3 with ⟨A,qn⟩ | ⟨go,N,hN,K⟩
 ·refine wpAny_passesOwn hp (thn (T.done X rfl rfl rfl hc i a V j L X.xe I3 (k F) B A) fun r s4 ⟨M,I4⟩=>?_)
  subst M;exact wpAny_execs_nil ⟨j,L,I4,qn⟩
 ·refine wpAny_passesOwn hp (thn (T.item X rfl rfl rfl hc i a V j L X.xe I3 (k F) B go) fun r s4 ⟨u,M,h4⟩=>?_)
  subst M
  refine wpAny_passesOwn hp (thn h4 fun _ s5 ⟨x,S,I5,r5,y5,z,O⟩=>?_)
  refine wpAny_passesOwn hp (thn (hg _ s5 j S x u _ (I5.pinned (k O) (T.obj _ _ z)) r5 (K x S y5)) fun _ s6 ⟨R,H6,I6,q6⟩=>?_)
  refine wpAny_passesOwn hp (thn (hb _ s6 R H6 _ I6 q6) fun f s7 y=>?_)
  have l:∀{c:St} {w:Hp},Inv X (a++Um C s5.heap) c w s7->N c w->∃m,m<n/\∃i σ' t,Inv X a σ' t _/\tn i _/\(∀b∈C,t b=none)/\W i m σ' t:=fun {c w} q G=>by
   obtain⟨m',hm,w7⟩:=hN _ _ G
   refine⟨m',hm,i+1,c,w,q.unpinned,T.keep _ _ _ z fun b hb o e=>(q.pin _ (List.mem_append_right _ (List.mem_append_right _ (Kf hb e)))).1,fun b hb=>?_,w7⟩
   obtain⟨o,e,d⟩:=T.obj _ _ z b hb;exact(q.pin _ (List.mem_append_right _ (List.mem_append_right _ (Kf hb e)))).2.1
  cases f with
  | next=>obtain⟨c,w,q,G⟩:=y;exact l q G
  | cont=>obtain⟨c,w,q,G⟩:=y;exact l q G
  | brk=>obtain⟨c,w,q,y⟩:=y;exact⟨c,w,q.unpinned,y⟩
  | ret v=>obtain⟨x7,c,w,q,r7,y⟩:=y;exact⟨x7,c,w,q.unpinned,r7,y⟩
end
abbrev R2:=V->V->Hp->VK->Prop
def OpR (X:Cx)(f:Value->Value->Sem Value)(r:R2):Prop :=
 ∀
  (pins:List (Addr×Obj)) (s:Shared) (σ:St) (H:Hp) (x y:V) (v u:Value) (Q:VK),Inv X pins σ H s->RelV x v->RelV y u->r x y H Q ->
  wpAny (model X.prog X.w) X.A (f v u) (EP X pins σ Q) X.xe s
def UnR (X:Cx)(f:Value->Sem Value)(r:V->Hp->VK->Prop):Prop :=
 ∀
  (pins:List (Addr×Obj)) (s:Shared) (σ:St) (H:Hp) (x:V) (v:Value) (Q:VK),Inv X pins σ H s->RelV x v->r x H Q ->
  wpAny (model X.prog X.w) X.A (f v) (EP X pins σ Q) X.xe s
def CallR (X:Cx)(f:Value)(r:List V->Hp->VK->Prop):Prop :=
 ∀
  (pins:List (Addr×Obj)) (s:Shared) (σ:St) (H:Hp) (xs:List V) (us:List Value) (Q:VK),Inv X pins σ H s->Vals xs us->r xs H Q ->
  wpAny (model X.prog X.w) X.A (call f us) (EP X pins σ Q) X.xe s
def tOp (r:R2)(ta tb:TE):TE:=fun σ H Q=>ta σ H fun x H1=>tb σ H1 fun y H2=>r x y H2 Q
def tUn (r:V->Hp->VK->Prop)(ta:TE):TE:=fun σ H Q=>ta σ H fun x H1=>r x H1 Q
def rI (C:Int->Int->Prop)(g:Int->Int->V):R2:=fun x y H Q=>∃i j,x=.int i/\y=.int j/\C i j/\Q (g i j) H
def rI0 (g:Int->Int->V):R2:=fun x y H Q=>∃i j,x=.int i/\y=.int j/\Q (g i j) H
def rU (g:Int->V):V->Hp->VK->Prop:=fun x H Q=>∃i,x=.int i/\Q (g i) H
section
variable {X:Cx}{a b c:Expr}{ta tb tc:TE}{pos:Pos}
theorem Bc2 (ha:PE X a ta)(hb:PE X b tb)     {R:V->V->Hp->Prop}(I:Inv X pins g H s)
 (h:ta g H fun x j=>tb g j fun y c=>R x y c)  {f:Value->Value->Sem Value}
 (hf:∀v u i x y c,Inv X pins g c i->RelV x v->RelV y u->R x y c->wpAny (model X.prog X.w) X.A (f v u) Q X.xe i) :
 wpAny (model X.prog X.w) X.A (eval a X.env) (fun v d=>wpAny (model X.prog X.w) X.A (eval b X.env) (fun u e=>wpAny (model X.prog X.w) X.A (f v u) Q X.xe e) X.xe d) X.xe s:=by
 refine thn (ha _ s _ H _ I h) fun v o ⟨x,j,k,n,l⟩=>?_
 refine thn (hb _ _ _ _ _ k l) fun u i ⟨y,c,p,q,m⟩=>?_
 grind
theorem Te   (ho:OpR X (binaryOp op) r) (ha:PE X a ta) (hb:PE X b tb):PE X (.BinOp a op b pos) (tOp r ta tb):=by
 intro c s g H Q I h
 exact wpAny_BinOp (Bc2 ha hb I h fun v u i x y j f e d q=>ho _ _ _ _ x y v u Q f e d q)
theorem Br7   (ho:UnR X (unaryOp op) r) (ha:PE X a ta):PE X (.UnaryOp op a pos) (tUn r ta):=by
 intro b s f H Q I h
 exact UnaryOp_ (thn (ha _ s _ H _ I h) fun v g ⟨x,i,e,d,c⟩=>ho _ _ _ _ x v Q e d c)
theorem opI   {g:Int->Int->Int}
 (a:∀(i j:Int) (t u:Tok) (s:Shared) (Q:Value->Shared->Prop) (E:Value->Shared->Prop),C i j->Q (.int (g i j) s.toks) { s with toks:=s.toks+1 }->wpAny (model X.prog X.w) X.A (f (.int i t) (.int j u)) Q E s) :
 OpR X f (rI C fun i j=>.int (g i j)):=by
 intro b s σ H x y v u Q I c e h;obtain⟨i,j,rfl,rfl,d,q⟩:=h;obtain⟨t,rfl⟩:=c;obtain⟨t',rfl⟩:=e;exact a i j t _ s _ _ d ⟨.int _,H,I.tok _,⟨_,rfl⟩,q⟩
theorem Vn  {g:Int->Int->Int}
 (a:∀(i j:Int) (t u:Tok) (s:Shared) (Q:Value->Shared->Prop) (E:Value->Shared->Prop),Q (.int (g i j) s.toks) { s with toks:=s.toks+1 }->wpAny (model X.prog X.w) X.A (f (.int i t) (.int j u)) Q E s) :
 OpR X f (rI0 fun i j=>.int (g i j)):=by
 intro b s σ H x y v u Q I c d h;obtain⟨i,j,rfl,rfl,q⟩:=h;obtain⟨t,rfl⟩:=c;obtain⟨t',rfl⟩:=d;exact a i j t _ s _ _ ⟨.int _,H,I.tok _,⟨_,rfl⟩,q⟩
theorem Bj1  {g:Int->Int->Bool}
 (a:∀(i j:Int) (t u:Tok) (s:Shared) (Q:Value->Shared->Prop) (E:Value->Shared->Prop),Q (.bool (g i j)) s->wpAny (model X.prog X.w) X.A (f (.int i t) (.int j u)) Q E s) :
 OpR X f (rI0 fun i j=>.bl (g i j)):=by
 intro b s σ H x y v u Q I c d h;obtain⟨i,j,rfl,rfl,q⟩:=h;obtain⟨t,rfl⟩:=c;obtain⟨t',rfl⟩:=d;exact a i j t _ s _ _ ⟨.bl _,H,I,rfl,q⟩
def Az6 (i j:Int):Prop:=0<j/\j<1073741824
def A0n (i j:Int):Prop:=0<=j/\j<=1000000/\i.natAbs<2 ^ 64
def CMul (i j:Int):Prop:=(-(2 ^ 64)<i/\i<2 ^ 64)\/(-(2 ^ 64)<j/\j<2 ^ 64)
theorem CMul.ok  (h:CMul i j):IntMulOk i j:=by
 rcases h with ⟨b,a⟩ | ⟨b,a⟩
 ·exact .of_left (intBits_le_64 b a)
 ·exact .of_right (intBits_le_64 b a)
theorem Bm5:OpR X (binaryOp .Add) (rI0 fun i j=>.int (i+j)):=Vn fun _ _ _ _ _ _ _ q=>add_int q
theorem Bi2:OpR X (binaryOp .Sub) (rI0 fun i j=>.int (i-j)):=Vn fun _ _ _ _ _ _ _ q=>sub_int q
theorem Bd6:OpR X (binaryOp .Mult) (rI CMul fun i j=>.int (i*j)):=opI fun _ _ _ _ _ _ _ a q=>mul_int q a.ok
theorem A8h:OpR X (binaryOp .FloorDiv) (rI Az6 fun i j=>.int (i / j)):=opI fun i j _ _ _ _ _ a q=>by
 have c:(0:Int)<j:=a.1;have b:j<1073741824:=a.2
 exact floordiv_int (by omega) (by rw[Int.fdiv_eq_ediv_of_nonneg i (by omega)];exact q) (.inl (PyProof.noPylong_small (by omega)))
theorem Bg1:OpR X (binaryOp .Mod) (rI (fun _ j=>0<j) fun i j=>.int (i % j)):=opI fun i j _ _ _ _ _ a q=>by
 have b:(0:Int)<j:=a
 exact mod_int' (by omega) (by rw[Int.fmod_eq_emod_of_nonneg i (by omega)];exact q)
theorem Bh3:OpR X (binaryOp .Pow) (rI A0n fun i j=>.int (i ^ j.toNat)):=opI fun _ _ _ _ _ _ _ a q=>pow_int_small a.1 a.2.1 a.2.2 q
theorem unI  {g:Int->Int}
 (a:∀(i:Int) (t:Tok) (s:Shared) (Q:Value->Shared->Prop) (E:Value->Shared->Prop),Q (.int (g i) s.toks) { s with toks:=s.toks+1 }->wpAny (model X.prog X.w) X.A (f (.int i t)) Q E s) :
 UnR X f (rU fun i=>.int (g i)):=by
 intro b s σ H x v Q I c h;obtain⟨i,rfl,q⟩:=h;obtain⟨t,rfl⟩:=c;exact a i t s _ _ ⟨.int _,H,I.tok _,⟨_,rfl⟩,q⟩
theorem Bg2:UnR X (unaryOp .USub) (rU fun i=>.int (-i)):=unI fun _ _ _ _ _ q=>neg_int q
end
def Bp3:V->V->Bool
 | .non,.non=>true | .non,.int _=>true | .int _,.non=>true | .non,.bl _=>true | .bl _,.non=>true | .non,.str _=>true | .str _,.non=>true
 | .int _,.int _=>true | .bl _,.bl _=>true | .str _,.str _=>true | .byt _,.byt _=>true
 | .int _,.str _=>true | .str _,.int _=>true | .bl _,.str _=>true | .str _,.bl _=>true
 | _,_=>false
def rEq:R2:=fun x y H Q=>Bp3 x y=true/\Q (.bl (decide (x=y))) H
def rNe:R2:=fun x y H Q=>Bp3 x y=true/\Q (.bl (!decide (x=y))) H
theorem Ao5  : decide (V.int i=V.int j)=(i==j):=by
 grind
theorem A1u  : decide (V.bl i=V.bl j)=(i==j):=by
 grind
theorem Ao1  : decide (V.str i=V.str j)=(i==j):=by
 grind
theorem Am9  : decide (V.byt i=V.byt j)=(i.toList==j.toList):=by
 rw[Bool.eq_iff_iff]
 simp_all
section
variable {X:Cx}{a b c:Expr}{ta tb tc:TE}{pos:Pos}
theorem Cm  {b:St}    {k a:Bool}(I:Inv X pins b H s) (q:Q (.bl k) H) (e:k=a):EP X pins b Q (.bool a) s:=by
 subst e;exact⟨.bl k,H,I,rfl,q⟩
theorem Bo0:OpR X (compareOp .Eq) rEq:=by
 intro e s σ H x y v u Q I d a h;obtain⟨c,q⟩:=h
 cases x with
 | non =>
  cases d
  cases y with
  | non=>cases a;exact PySem.EqNone.eq_none_none (Cm I q (by simp))
  | bl j=>cases a;exact PySem.EqNone.eq_none_bool (Cm I q (by simp))
  | int j=>obtain⟨b,rfl⟩:=a;exact PySem.EqNone.eq_none_int (Cm I q (by simp))
  | str j=>obtain⟨b,rfl⟩:=a;exact PySem.EqNone.eq_none_str (Cm I q (by simp))
  | _=>exact absurd (show false=true from c) Bool.false_ne_true
 | bl i =>
  cases d
  cases y with
  | non=>cases a;exact PySem.EqNone.eq_bool_none (Cm I q (by simp))
  | bl j=>cases a;exact eq_bool (Cm I q A1u)
  | str j=>obtain⟨b,rfl⟩:=a;exact PySem.EqMixed.eq_bool_str (Cm I q (by simp))
  | _=>exact absurd (show false=true from c) Bool.false_ne_true
 | int i =>
  obtain⟨t,rfl⟩:=d
  cases y with
  | non=>cases a;exact PySem.EqNone.eq_int_none (Cm I q (by simp))
  | int j=>obtain⟨b,rfl⟩:=a;exact eq_int (Cm I q Ao5)
  | str j=>obtain⟨b,rfl⟩:=a;exact PySem.EqMixed.eq_int_str (Cm I q (by simp))
  | _=>exact absurd (show false=true from c) Bool.false_ne_true
 | str i =>
  obtain⟨t,rfl⟩:=d
  cases y with
  | non=>cases a;exact PySem.EqNone.eq_str_none (Cm I q (by simp))
  | bl j=>cases a;exact PySem.EqMixed.eq_str_bool (Cm I q (by simp))
  | int j=>obtain⟨b,rfl⟩:=a;exact PySem.EqMixed.eq_str_int (Cm I q (by simp))
  | str j=>obtain⟨b,rfl⟩:=a;exact eq_str (Cm I q Ao1)
  | _=>exact absurd (show false=true from c) Bool.false_ne_true
 | byt i =>
  obtain⟨t,rfl⟩:=d
  cases y with
  | byt j=>obtain⟨b,rfl⟩:=a;exact PySem.W.eq_bytes (Cm I q Am9)
  | _=>exact absurd (c) Bool.false_ne_true
 | _=>cases y <;> exact absurd (show false=true from c) Bool.false_ne_true
theorem Bo2:OpR X (compareOp .NotEq) rNe:=by
 intro e s σ H x y v u Q I d a h;obtain⟨c,q⟩:=h
 cases x with
 | non =>
  cases d
  cases y with
  | non=>cases a;exact PySem.EqNone.ne_none_none (Cm I q (by simp))
  | bl j=>cases a;exact PySem.EqNone.ne_none_bool (Cm I q (by simp))
  | int j=>obtain⟨b,rfl⟩:=a;exact PySem.EqNone.ne_none_int (Cm I q (by simp))
  | str j=>obtain⟨b,rfl⟩:=a;exact PySem.EqNone.ne_none_str (Cm I q (by simp))
  | _=>exact absurd (show false=true from c) Bool.false_ne_true
 | bl i =>
  cases d
  cases y with
  | non=>cases a;exact PySem.EqNone.ne_bool_none (Cm I q (by simp))
  | bl j=>cases a;exact ne_bool (Cm I q (congrArg not A1u))
  | str j=>obtain⟨b,rfl⟩:=a;exact PySem.EqMixed.ne_bool_str (Cm I q (by simp))
  | _=>exact absurd (show false=true from c) Bool.false_ne_true
 | int i =>
  obtain⟨t,rfl⟩:=d
  cases y with
  | non=>cases a;exact PySem.EqNone.ne_int_none (Cm I q (by simp))
  | int j=>obtain⟨b,rfl⟩:=a;exact ne_int (Cm I q (congrArg not Ao5))
  | str j=>obtain⟨b,rfl⟩:=a;exact PySem.EqMixed.ne_int_str (Cm I q (by simp))
  | _=>exact absurd (show false=true from c) Bool.false_ne_true
 | str i =>
  obtain⟨t,rfl⟩:=d
  cases y with
  | non=>cases a;exact PySem.EqNone.ne_str_none (Cm I q (by simp))
  | bl j=>cases a;exact PySem.EqMixed.ne_str_bool (Cm I q (by simp))
  | int j=>obtain⟨b,rfl⟩:=a;exact PySem.EqMixed.ne_str_int (Cm I q (by simp))
  | str j=>obtain⟨b,rfl⟩:=a;exact ne_str (Cm I q (congrArg not Ao1))
  | _=>exact absurd (show false=true from c) Bool.false_ne_true
 | byt i =>
  obtain⟨t,rfl⟩:=d
  cases y with
  | byt j=>obtain⟨b,rfl⟩:=a;exact PySem.W.ne_bytes (Cm I q (congrArg not Am9))
  | _=>exact absurd (c) Bool.false_ne_true
 | _=>cases y <;> exact absurd (show false=true from c) Bool.false_ne_true
theorem Bo9:OpR X (compareOp .Lt) (rI0 fun i j=>.bl (decide (i<j))):=Bj1 fun _ _ _ _ _ _ _ q=>lt_int q
theorem A9m:OpR X (compareOp .Gt) (rI0 fun i j=>.bl (decide (j<i))):=Bj1 fun _ _ _ _ _ _ _ q=>gt_int q
theorem Br6:OpR X (compareOp .GtE) (rI0 fun i j=>.bl (decide (j<=i))):=Bj1 fun _ _ _ _ _ _ _ q=>ge_int q
theorem At8:OpR X (compareOp .In) (fun x y H Q=>∃i j,x=.str i/\y=.str j/\Q (.bl (!(Builtin.Str.occurrences j i 0 j.length 1).isEmpty)) H):=by
 intro a s σ H x y v u Q I b c h;obtain⟨i,j,rfl,rfl,q⟩:=h;obtain⟨t,rfl⟩:=b;obtain⟨t',rfl⟩:=c;exact in_str (Cm I q rfl)
theorem Bh9:OpR X (compareOp .Is) (fun x y H Q=>y=.non/\Q (.bl (decide (x=.non))) H):=by
 intro a s σ H x y v u Q I c b h;obtain⟨rfl,q⟩:=h
 cases b
 refine is_none_gen (Cm I q ?_)
 cases x <;> first
  | omega
  | (obtain⟨t,rfl⟩:=c;rfl)
theorem OpR.or  {r b:R2}(h:OpR X f r) (h':OpR X f b):OpR X f (fun x y H Q=>r x y H Q\/b x y H Q):=by
 intro c s e H x y v u Q I d a q
 rcases q with q | q
 ·exact h _ s _ H x y v u Q I d a q
 ·exact h' _ s _ H x y v u Q I d a q
theorem Kp (b:Expr)  (h:op≠.In:=by decide) (h2:op≠.NotIn:=by decide):behindInMarks op b=false:=by
 have c:(op==CmpOp.In)=false:=by grind
 have a:(op==CmpOp.NotIn)=false:=by grind
 cases b <;> simp[behindInMarks,c,a]
theorem Oc   (ho:OpR X (compareOp op) r) (ha:PE X a ta) (hb:PE X b tb) (hm:behindInMarks op b=false):PE X (.Compare a [op] [b] pos) (tOp r ta tb):=by
 intro c s g H Q I h
 exact wpAny_Compare1 (Bc2 ha hb I h fun v u i x y j f e d q=>ho _ _ _ _ x y v u Q f e d q) hm
def Kv (t:TE):TT:=fun σ H Q=>t σ H fun x H'=>∃k,x=.bl k/\Q k H'
theorem Ml   (ho:OpR X (compareOp op) r) (ha:PE X a ta) (hb:PE X b tb) (hm:behindInMarks op b=false):PT X (.Compare a [op] [b] pos) (Kv (tOp r ta tb)):=by
 intro d s t H Q I h
 refine wpAny_isTrue_Compare1 (thn (ha _ s _ H _ I h) fun v C ⟨x,D,j,l,m⟩=>thn (hb _ _ _ _ _ j m) fun u w ⟨y,B,i,g,o⟩ =>
  thn (ho _ _ _ _ x y v u _ i l g o) fun c A ⟨z,n,p,q,k,e,f⟩=>?_) hm
 subst e
 cases q
 exact wpAny_truthy_bool ⟨n,p,f⟩
theorem T7:(sizeLine:Nat)<2 ^ 63:=by decide
theorem Ag5:OpR X (binaryOp .Add) (fun x y H Q=>∃i j,x=.str i/\y=.str j/\i.length+j.length<=sizeLine/\Q (.str (i++j)) H):=by
 intro a s σ H x y v u Q I c b h;obtain⟨i,j,rfl,rfl,e,q⟩:=h;obtain⟨t,rfl⟩:=c;obtain⟨d,rfl⟩:=b
 exact add_str (fun d tk=>⟨.str _,H,I.tok _,⟨_,rfl⟩,q⟩) e
theorem vals1   (r:Vals [x] us):∃u,us=[u]/\RelV x u:=by
 cases r with
 | cons b a=>cases a;grind
theorem vals2   (r:Vals [x,y] us):∃u w',us=[u,w']/\RelV x u/\RelV y w':=by
 cases r with
 | cons c b =>
  cases b with
  | cons d a=>cases a;grind
theorem A3r:CallR X (.builtin "abs") (fun xs H Q=>∃i,xs=[.int i]/\Q (.int (if i<0 then -i else i)) H):=by
 intro a s σ H xs us Q I r h;obtain⟨i,rfl,q⟩:=h;obtain⟨u,rfl,t,rfl⟩:=vals1 r
 exact call_abs_int fun u tk=>⟨.int _,H,I.tok _,⟨_,rfl⟩,q⟩
theorem Au0 (hc:X.calm=true):CallR X (.builtin "min") (fun xs H Q=>∃i j,xs=[.int i,.int j]/\Q (.int (if j<i then j else i)) H):=by
 intro a s σ H xs us Q I r h;obtain⟨i,j,rfl,q⟩:=h;obtain⟨u,w',rfl,⟨t,rfl⟩,⟨t',rfl⟩⟩:=vals2 r
 refine min_two_ints (I.ok.hd hc) fun h' tk k=>⟨_,H,I.kept k,?_,q⟩
 by_cases hj:j<i
 ·rw[if_pos hj,if_pos hj];exact⟨_,rfl⟩
 ·rw[if_neg hj,if_neg hj];exact⟨_,rfl⟩
theorem Au2:CallR X (.type "int") (fun xs H Q=>(∃i,xs=[.int i]/\Q (.int i) H)\/∃k,xs=[.bl k]/\Q (.int (if k then 1 else 0)) H):=by
 intro a s σ H xs us Q I r h
 rcases h with ⟨i,rfl,q⟩ | ⟨k,rfl,q⟩
 ·obtain⟨u,rfl,t,rfl⟩:=vals1 r
  exact call_int_int ⟨.int i,H,I,⟨_,rfl⟩,q⟩
 ·obtain⟨u,rfl,b⟩:=vals1 r
  cases b
  exact call_int_bool ⟨.int _,H,I.tok _,⟨_,rfl⟩,q⟩
theorem Xg:CallR X (.type "str") (fun xs H Q=>∃i,xs=[.int i]/\i.natAbs.log2<1920/\Q (.str (toString i)) H):=by
 intro a s σ H xs us Q I r h;obtain⟨i,rfl,b,q⟩:=h;obtain⟨u,rfl,t,rfl⟩:=vals1 r;exact PySem.P.str_of_int b ⟨.str _,H,I.tok _,⟨_,rfl⟩,q⟩
def Bs0 (K:PySem.W.Frag)(x:V)(H:Hp)(n:Nat):Prop :=
 match x with
 | .str y=>y.length<=sizeLine/\n=y.length
 | .byt y=>y.size<=sizeLine/\n=y.size
 | .ref p=>(∃xs,SqL K H p xs/\n=xs.length)\/∃xs,SqT K H p xs/\n=xs.length
 | _=>False
theorem Z9:CallR X (.builtin "len") (fun xs H Q=>∃x n,xs=[x]/\Bs0 X.K x H n/\Q (.int n) H):=by
 intro j s σ H xs us Q I r h;obtain⟨x,n,rfl,e,q⟩:=h;obtain⟨u,rfl,d⟩:=vals1 r;have hl:=T7;have hs:sizeLine=16777216:=sizeLine_eq
 cases x with
 | str y =>
  obtain⟨t,rfl⟩:=d;obtain⟨l,b⟩:y.length<=sizeLine/\n=y.length:=e;subst b
  exact len_str (by omega) ⟨.int _,H,I.tok _,⟨_,rfl⟩,q⟩
 | byt y =>
  obtain⟨t,rfl⟩:=d;obtain⟨l,b⟩:y.size<=sizeLine/\n=y.size:=e;subst b
  exact PySem.W.len_bytes (by omega) ⟨.int _,H,I.tok _,⟨_,rfl⟩,q⟩
 | ref p =>
  cases d
  have b  := e
  rcases b with ⟨xs,c,b⟩ | ⟨xs,c,b⟩
  ·subst b
   obtain⟨g,f,i,k⟩:=I.list c;have a:=f.length
   exact Calls.call_len_list i.isList (by grind) ⟨.int _,H,I.tok _,⟨_,by simp only[List.size_toArray];rw[a]⟩,q⟩
  ·subst b
   obtain⟨g,f,i,k⟩:=I.tuple c;have a:=f.length
   exact len_tuple i (by grind) ⟨.int _,H,I.tok _,⟨_,by simp only[List.size_toArray];rw[a]⟩,q⟩
 | _=>trivial
end
structure ObjM (h:Heap) (x dx C:Addr) (mA:Str->Option Value):Prop where
 obj:h.get? x=some (PySem.W.instObj C dx)
 ns:h.Ns1 dx mA
 ne:dx≠x
theorem As7 {h:Heap}   (n:h.Ns1 d f):∃od,h.get? d=some od/\∀b,PySem.W.lookIn b od=some (f b):=by
 obtain⟨o,g,p,i,j,k,_,l⟩:=n
 refine⟨o,i,fun b=>?_⟩
 have e:=l b;unfold nsFind findBy at e;unfold PySem.W.lookIn;rw[j]
 dsimp only
 split
 ·grind
 ·have a:g.toList.any (·.refKey)=false:=by
   rw[List.any_eq_false];intro y m;obtain⟨z,t,c⟩:=k y (Array.mem_toList_iff.mp m)
   simp[DictEntry.refKey,c]
  grind
theorem ObjM.look    (I:ObjM h x b C a):∃od,PySem.W.InstAt h x (PySem.W.instObj C b) C (some od)/\∀name,PySem.W.lookIn name od=some (a name) :=
 let ⟨od,ho,hl⟩:=As7 I.ns
 ⟨od,⟨I.obj,rfl,rfl,ho⟩,hl⟩
section
variable {prog:Program}{w:World}{A:Around}{E:Value->Shared->Prop}{s:Shared}{K:PySem.W.Frag}{x dx C f:Addr}{mA:Str->Option Value}{name:Str}{v:Value}
theorem Yg   (X:K.In s.heap) (I:ObjM s.heap x dx C mA)
 (hs:PySem.W.findIn K (.ref C) "__setattr__" = some (some (.builtin "object.__setattr__"))) (hp:PySem.W.plainOver K C=true) (ht:PySem.W.takerIn K C name=some none) (k:PySem.W.hasDictIn K C=true)
 (hw:PySem.Within mA ns) (hsz:ns.length<=sizeLine)
 (h:∀d,ObjM d x dx C (fun y=>if y=name then some v else mA y)->Heap.SameBut dx s.heap d->Q () { s with heap:=d,toks:=s.toks+2 }) :
 wpAny (model prog w) A (setAttr (.ref x) name v) Q E s:=by
 obtain⟨r,J,p⟩:=I.look
 refine PySem.W.set_plain X J hs (PySem.W.osa_open   X J hp ht fun b=>?_)
 obtain⟨o,l,g⟩:=PySem.W.any_some k;have n  := I.obj
 refine wpAny_bind (wpAny_pure (wpAny_bind (wpAny_bind (wpAny_loadPart n (wpAny_bind (PySem.W.Looks.here  (PySem.W.looks_clsIn X l) ?_))))))
 rw[g]
 refine wpAny_pure  (wpAny_bind (wpAny_pure (wpAny_bind ?_)))
 refine wpAny_nsSet1  I.ns fun d c a=>?_
 obtain⟨q,j,m,f,i,e⟩:=c.count (PySem.Within.cons _ v hw)
 refine wpAny_bind (wpAny_lookBehind f (by rw[i];exact pastItsLine_dict (Nat.le_trans e (by simp_all))) ?_)
 exact wpAny_pure (h _ ⟨(a.2 _ (Ne.symm I.ne)).trans I.obj,c,I.ne⟩ a)
end
structure Room (k:Nat) (A:Around):Prop where
 hd:A.handled=none
 dp:A.depth+3*k+5<recursionLimit
 un:A.units+16*k+200<cLine
 gd:A.guards=some []
theorem Room.mono   (r:Room k A) (h:j<=k):Room j A:=⟨r.hd,by have:=r.dp;omega,by have:=r.un;omega,r.gd⟩
theorem Room.deeper   (r:Room (k+1) A) (env:Env):Room k (A.deeper env) :=
 ⟨r.hd,by have:=r.dp;show A.depth+1+3*k+5<_;omega,by have:=r.un;show A.units+3+16*k+200<_;omega,r.gd⟩
theorem Room.depth   (r:Room k A):A.depth<recursionLimit:=by have:=r.dp;omega
theorem Room.units   (r:Room k A):A.units+64<cLine:=by have:=r.un;omega
def Fe:TA:=fun _ H Q=>Q [] H
def Ci (ta:TE)(tr:TA):TA:=fun σ H Q=>ta σ H fun x H1=>tr σ H1 fun xs H2=>Q (x::xs) H2
section
variable {X:Cx}{e:Expr}{es:List Expr}{te:TE}{t:TA}{pos:Pos}
theorem N8:PA X [] Fe:=fun _ _ _ _ H Q I h=>Calls.spliced_nil ⟨[],H,I,.nil,h⟩
theorem An0 (ha:PE X e te)(hr:PA X es t)(hs:starEach (e::es) X.env=(false,eval e X.env)::starEach es X.env:=by rfl):PA X (e::es) (Ci te t):=by
 intro d a s m H Q I h;rw[hs]
 refine Calls.spliced_cons (thn (ha _ s _ H _ I h) fun u o ⟨x,n,f,g,i⟩=>?_)
 exact thn (hr _ _ _ _ _ _ f i) fun p q ⟨c,k,j,l,b⟩=>⟨x::c,k,j,.cons g l,b⟩
def Aw5 (t:TA):TE:=fun σ H Q=>t σ H fun xs H1=>xs.length<=sizeLine/\∀p,H1 p=none->Q (.ref p) (upd H1 p (.tup xs))
def A7w (t:TA):TE:=fun σ H Q=>t σ H fun xs H1=>xs.length<=sizeLine/\∀p,H1 p=none->Q (.ref p) (upd H1 p (.lst xs))
theorem Bk7  (h:PA X es t):PE X (.Tuple es d pos) (Aw5 t):=by
 intro a s i H Q I g
 refine wpAny_Tuple_spliced (thn (h _ _ s _ H _ I g) fun f j ⟨k,l,c,r,z,q⟩=>⟨by rw[<- r.length];grind,?_⟩)
 refine⟨.ref _,upd _ _ _,c.laid  (fun b u e=>Heap.get?_push_of_some _ e) (Nat.le_refl _) ?_,rfl,q _ (c.hok.fresh (Nat.le_refl _))⟩
 exact⟨z,f,r,⟨_,Heap.get?_push_size _ rfl,rfl,⟨_,rfl⟩,rfl⟩⟩
theorem Bi6 (h:PA X es t):PE X (.List es pos) (A7w t):=by
 intro c s g H Q I d
 refine wpAny_List_spliced (thn (h _ _ s _ H _ I d) fun f i ⟨j,k,a,r,z,q⟩=>⟨by rw[<- r.length];grind,?_⟩)
 refine⟨.ref _,upd _ _ _,a.laid  (fun b u e=>Heap.get?_push_of_some _ e) (Nat.le_refl _) ?_,rfl,q _ (a.hok.fresh (Nat.le_refl _))⟩
 exact⟨z,f,0,r,Heap.get?_push_size _ rfl⟩
end
abbrev Sp:=List V->Hp->VK->XK->Prop
abbrev CXT:=List Env->Hp->Shared->XK->Value->Shared->Prop
structure Z5 (P:Program) (w:World) (K:PySem.W.Frag) (mg:Str->Option Value) (base:Heap) (A:Around) (outer:List Env) (s:Shared) (H:Hp):Prop where
 frames:A.frames=some outer
 mod:Mod K mg base
 bs:∀b o,base.get? b=some o->s.heap.get? b=some o/\H b=none
 bsz:base.objs.size<=s.heap.objs.size
 funs:s.heap.FunFrames base outer
 frf:∀b∈frs outer,H b=none
 tab:∀p∈Dw K,H p.1=some (.tbl p.2)
 hok:HOk P w H s.heap
 bare:AllBare s.gens
def CE (outer:List Env)(P:Program)(w:World)(H:Hp)(s:Shared)(Q:VK)(u:Value)(s':Shared):Prop :=
 ∃v H',s'.os=s.os/\AllBare s'.gens/\Un (frs outer) [] H H' s.heap s'.heap/\HOk P w H' s'.heap/\RelV v u/\Q v H'
def CR (CX:CXT)(outer:List Env)(P:Program)(w:World)(H:Hp)(s:Shared)(Q:VK)(E:XK)(r:Result)(s':Shared):Prop :=
 match r with
 | .ok (.ret u)=>CE outer P w H s Q u s'
 | .ok _=>False
 | .error e=>CX outer H s E e s'
structure FnOk (P:Program) (w:World) (K:PySem.W.Frag) (mg:Str->Option Value) (base:Heap) (CX:CXT) (k:Nat) (f:Addr) (fd:FuncData) (ps:List Str) (sp:Sp):Prop where
 len:∀vs H Q E,sp vs H Q E->vs.length=ps.length
 run:∀(A:Around) (outer:List Env) (s:Shared) (H:Hp) (args:Args) (us:List Value) (vs:List V) (Q:VK) (E:XK),Room k A->Z5 P w K mg base A outer s H->BindsTo s fd args (ps.zip us)->Vals vs us->sp vs H Q E ->
  codeAny (model P w) A (.call (.ref f) args) (CR CX outer P w H s Q E) s
theorem FnOk.imp   {K:PySem.W.Frag}         (F:FnOk P w K mg base CX k f d ps sp)
 (h:∀b H Q E,a b H Q E->sp b H Q E):FnOk P w K mg base CX k f d ps a :=
 ⟨fun b H Q E q=>F.len _ H Q E (h _ _ _ _ q),fun A c s H e n b Q E j l i m g=>F.run A _ s H _ _ _ Q E j l i m (h _ _ _ _ g)⟩
section
variable {X:Cx}{pins:List (Addr×Obj)}{σ:St}{H:Hp}{s s':Shared}
theorem Inv.env0 (I:Inv X pins σ H s):Z5 X.prog X.w X.K X.mg X.base X.A X.stack s H :=
 ⟨I.ok.frames,I.ok.mod,I.bs,Nat.le_trans I.ok.bsz I.sz,I.stack,I.stkFree,fun p a=>I.base.tbls _ _ (I.ok.tab p a),I.hok,I.bare⟩
theorem Inv.after   (I:Inv X pins σ H s) (h:CE X.stack X.prog X.w H s Q u s'):EP X pins σ Q u s':=by
 obtain⟨v,j,i,a,f,c,r,q⟩:=h;obtain⟨hh,g,d,t,e⟩:=s';obtain rfl:e=s.os:=i
 exact⟨v,j,I.call      f c a fun b z=>absurd z (by simp),r,q⟩
end
def Qy (sp:Sp)(dvs:List V)(E:XK)(t:TA):TE:=fun σ H Q=>t σ H fun vs H1=>sp (vs++dvs) H1 Q E
def Binds (K:PySem.W.Frag)(fd:FuncData)(ps:List Str)(ds:List Value):Prop :=
 ∀(s:Shared) (us:List Value),K.In s.heap->(us++ds).length=ps.length->BindsTo s fd ⟨us,[]⟩ (ps.zip (us++ds))
theorem Binds.all {K:PySem.W.Frag}   (h:∀a:List Value,a.length=ps.length->bindArgs c ⟨a,[]⟩=pure (ps.zip a)):Binds K c ps []:=fun s a _ b=>by
 rw[List.append_nil]at b ⊢;exact .of_eq (h _ b)
def Li (CX:CXT)(X:Cx)(E:XK):Prop:=∀(pins:List (Addr×Obj)) (σ:St) (H:Hp) (s:Shared) (e:Value) (s':Shared),Inv X pins σ H s->CX X.stack H s E e s'->X.xe e s'
section
variable {X:Cx}{CX:CXT}{k:Nat}{f C:Addr}{fd:FuncData}{ps:List Str}{sp:Sp}{dvs:List V}{ds:List Value}{E:XK}{x m:Str}{p pos apos:Pos}{e o:Expr}{es:List Expr}{ta:TE}{t:TA}
theorem Bf0        (F:FnOk X.prog X.w X.K X.mg X.base CX k f fd ps sp) (hr:Room k X.A) (hb:Binds X.K fd ps ds) (hd:Vals dvs ds) (hx:Li CX X E)
 (I:Inv X pins b H s) (r:Vals vs us) (h:sp (vs++dvs) H Q E):wpAny (model X.prog X.w) X.A (call (.ref f) us) (EP X pins b Q) X.xe s:=by
 have a  := r.append hd
 have g:(us++ds).length=ps.length:=by rw[<- a.length];exact F.len _ _ _ _ h
 refine wpAny_call (codeAny_mono (F.run _ _ s H _ _ _ Q E hr I.env0 (hb s _ I.kIn g) a h) fun r i c=>?_)
 cases r with
 | error e=>exact hx _ _ H s e _ I c
 | ok d =>
  cases d with
  | ret u=>exact I.after c
  | next=>assumption
  | brk=>assumption
  | cont=>trivial
theorem A7k (F:FnOk X.prog X.w X.K X.mg X.base CX k f fd ps sp)(hr:Room k X.A)(hg:Gl X x)(hm:X.mg x=some (.ref f))(hk:PySem.W.keepIn X.K (.ref f)=true)(hb:Binds X.K fd ps ds)(hd:Vals dvs ds)(hx:Li CX X E)
 (ha:PA X (e::es) t) (hdb:(x==("__debug__" : Str))=false:=by decide) (he:starEach (e::es) X.env=(false,eval e X.env)::starEach es X.env:=by rfl) (hpl:(backTo pos (starEach es X.env)).any (·.1)=false:=by rfl) :
 PE X (.Call (.Name x p) (e::es) [] pos) (Qy sp dvs E t):=by
 intro b s c H Q I h
 refine wpAny_Call_Name_kw (Mf I hg hm ?_ hdb)
 refine PySem.W.callWith_K  I.ok.mod.kin hk (thn (ha _ _ s _ H _ I h) fun d g ⟨i,j,a,r,q⟩=>⟨a.kIn,?_⟩) he hpl
 exact Bf0 F hr hb hd hx a r q
end
structure Ce (N P:List Str) (sc:Scope):Prop where
 kind:sc.kind=.function
 co:sc.isCoroutine=false
 gen:sc.isGenerator=false
 nd:N.Nodup
 pre:N.take P.length=P
 par:∀x∈P,sc.names.lookup x=some .local\/sc.names.lookup x=some .cell
 nofree:∀y∈sc.names,y.2≠.free
theorem Vr {kindOf:Str->Option NameKind}{x:Str}:∀{binds:List (Str×Value)}{m:Str->Option Value},(∀v,(x,v)∉binds)->bindL kindOf binds m x=m x
 | [],_,_=>rfl
 | (n,v)::r,m,h=>by
  unfold bindL
  rw[Vr fun w hw=>h w (List.mem_cons_of_mem _ hw)]
  split
  ·have:x≠n:=by rintro rfl;exact h v List.mem_cons_self
   simp[this]
  ·rfl
theorem Vz {kindOf:Str->Option NameKind}{x:Str}:∀{binds:List (Str×Value)}{m:Str->Option Value},(∀v,(x,v)∉binds)->bindC kindOf binds m x=m x
 | [],_,_=>rfl
 | (n,v)::r,m,h=>by
  unfold bindC
  rw[Vz fun w hw=>h w (List.mem_cons_of_mem _ hw)]
  split
  ·rfl
  ·have:x≠n:=by rintro rfl;exact h v List.mem_cons_self
   simp[this]
theorem Wf {kindOf:Str->Option NameKind}{x:Str}{v:Value}:∀{P:List Str}{vs:List Value}{i:Nat}{m:Str->Option Value},P.Nodup->P[i]?=some x->vs[i]?=some v->kindOf x=some .local ->
 bindL kindOf (P.zip vs) m x=some v
 | [],_,_,_,_,h,_,_=>by simp at h
 | _::_,[],_,_,_,_,h,_=>by simp at h
 | p::P,w::vs,0,m,nd,h1,h2,hk=>by
  simp at h1 h2;subst h1;subst h2
  show bindL kindOf ((p,w)::P.zip vs) m p=_
  unfold bindL
  rw[Vr fun v hv=>(List.nodup_cons.mp nd).1 (List.of_mem_zip hv).1,if_pos hk]
  simp
 | p::P,w::vs,i+1,m,nd,h1,h2,hk=>by
  show bindL kindOf ((p,w)::P.zip vs) m x=_
  unfold bindL
  exact Wf (i:=i) (List.nodup_cons.mp nd).2 (by simpa using h1) (by simpa using h2) hk
theorem Wk {kindOf:Str->Option NameKind}{x:Str}{v:Value}:∀{P:List Str}{vs:List Value}{i:Nat}{m:Str->Option Value},P.Nodup->P[i]?=some x->vs[i]?=some v->kindOf x≠some .local ->
 bindC kindOf (P.zip vs) m x=some v
 | [],_,_,_,_,h,_,_=>by simp at h
 | _::_,[],_,_,_,_,h,_=>by simp at h
 | p::P,w::vs,0,m,nd,h1,h2,hk=>by
  simp at h1 h2;subst h1;subst h2
  show bindC kindOf ((p,w)::P.zip vs) m p=_
  unfold bindC
  rw[Vz fun v hv=>(List.nodup_cons.mp nd).1 (List.of_mem_zip hv).1,if_neg hk]
  simp
 | p::P,w::vs,i+1,m,nd,h1,h2,hk=>by
  show bindC kindOf ((p,w)::P.zip vs) m x=_
  unfold bindC
  exact Wk (i:=i) (List.nodup_cons.mp nd).2 (by simpa using h1) (by simpa using h2) hk
def start (N:List Str)(vs:List V):St:=vs.map some++List.replicate (N.length-vs.length) none
def Iv (CX:CXT)(P:Program)(w:World)(K:PySem.W.Frag)(mg:Str->Option Value)(base:Heap)(N:List Str)(qual:Str)(scope:Scope)(f:Addr)(cd:Value)(A:Around)(outer:List Env)(s:Shared)(H:Hp)(E:XK):Cx where
 prog:=P
 w:=w
 K:=K
 mg:=mg
 base:=base
 A:=A.deeper (envOfC qual scope s.heap.objs.size f cd)
 N:=N
 s₀:=s
 H₀:=H
 env:=envOfC qual scope s.heap.objs.size f cd
 outer:=outer
 stack:=envOfC qual scope s.heap.objs.size f cd::outer
 ex:=[]
 calm:=true
 fn:=fun _=>true
 pn:=[]
 xe:=fun e s'=>wpAny (model P w) (A.deeper (envOfC qual scope s.heap.objs.size f cd)) (leaving (envOfC qual scope s.heap.objs.size f cd) e) (fun _ s''=>CX outer H s E e s'') (fun e' s''=>CX outer H s E e' s'') s'
theorem Aa1 {a:Scope}   (h:a.names.lookup x=some .cell):∃c,(cellsFrom n a.names []).lookup x=some c:=by
 exact Option.isSome_iff_exists.mp (PySem.W.cellsFrom_some _ n [] (.inl h))
theorem Wg    {K:PySem.W.Frag}              
 (S:Ce N ps scope) (hd:A.handled=none) (d:Z5 P w K mg base A a s H) (hl:vs.length=ps.length) (r:Vals vs us)
 (x:InCallC s s.heap.objs.size (bindL (envOfC qual scope s.heap.objs.size f t).kindOf (ps.zip us) fun _=>none) (cellsFrom (s.heap.objs.size+1) scope.names []) (bindC (envOfC qual scope s.heap.objs.size f t).kindOf (ps.zip us) fun _=>none) s1) :
 Inv (Iv CX P w K mg base N qual scope f t A a s H E) [] (start N vs) H s1:=by
 have D:ps.length<=N.length:=by have:=congrArg List.length S.pre;rw[List.length_take]at this;omega
 obtain⟨o,tk,rfl,B⟩:=x.done
 have g:∀b:Addr,b∉(Iv CX P w K mg base N qual scope f t A a s H E).ex:=fun b z=>absurd (show b∈([]:List Addr) from z) (by simp)
 refine⟨⟨d.mod,S.kind,rfl,rfl,Nat.le_refl _,fun y z c o n=>?_,fun y j=>?_,fun y c _ h=>?_,fun _=>hd,Around.frames_deeper d.frames,.inr ⟨rfl,rfl⟩,fun b z=>absurd z (g b),d.bs,d.bsz,fun b _ _=>g b,fun b z=>absurd z (g b),d.funs,d.frf,d.tab⟩,
  rfl,d.bare,Un.kept B,⟨_,x.toInCall.ns,fun i y v o n h3=>?_⟩,fun y c h=>⟨_,x.cell y c h⟩,d.hok.fresh (Nat.le_refl _),fun y c h=>?_,fun p m=>absurd (show p∈([]:List (Addr×Obj)) from m) (by simp),d.hok.kept B,?_⟩
 ·exact name_of_addr x.apart (PySem.mem_of_lookup o) (PySem.mem_of_lookup n)
 ·have j:scope.names.lookup y=some .cell\/scope.names.lookup y=some .free:=j
  rcases j with j | j
  ·exact Aa1 j
  ·exact absurd rfl (S.nofree _ (PySem.mem_of_lookup j))
 ·exact Nat.le_of_lt (x.above y c (PySem.mem_of_lookup h))
 ·have hi:i<vs.length:=by
   unfold start at n
   grind
  have F:vs[i]?=some v:=by
   unfold start at n
   grind
  obtain⟨u,C,G⟩:=r.get F
  have m:ps[i]?=some y:=by
   rw[<- S.pre,List.getElem?_take_of_lt (by omega)];exact o
  have l:ps.Nodup:=by rw[<- S.pre];exact S.nd.sublist (List.take_sublist _ _)
  refine⟨u,G,?_⟩
  rcases S.par y (List.mem_of_getElem? m) with k | k
  ·exact .inl ⟨k,Wf l m C k⟩
  ·obtain⟨c,e⟩:=Aa1  k
   refine .inr ⟨.inl k,c,e,?_⟩
   have q:=x.cell y c e
   rw[Wk l m C (by show scope.names.lookup y≠_;rw[k];decide)]at q
   exact q
 ·exact d.hok.fresh (Nat.le_of_lt (x.above y c (PySem.mem_of_lookup h)))
 ·unfold start
  show _=N.length
  simp_all
theorem A2z    {K:PySem.W.Frag}          
 (lk:K.lookup f=some ⟨oc,od,.func (PySem.W.fnOf name qual d body scope U O z R M a W),F⟩) (hcd:PySem.W.codeIn K a qual=true) (S:Ce N ps scope)
 (p:∀vs H Q E,sp vs H Q E->vs.length=ps.length)
 (i:∀(A:Around) (c:List Env) (s:Shared) (H:Hp) (vs:List V) (Q:VK) (E:XK),Room k (A.deeper (envOfC qual scope s.heap.objs.size f a))->sp vs H Q E ->
  ∃t,PSs (Iv CX P w K mg base N qual scope f a A c s H E) body t/\t { nx:=fun _ H'=>Q .non H',rt:=Q } (start N vs) H) :
 FnOk P w K mg base CX (k+1) f (PySem.W.fnOf name qual d body scope U O z R M a W) ps sp:=by
 refine⟨p,fun A c s H T X vs Q E C l hb r m=>?_⟩
 have hl:=p _ _ _ _ m
 have G  := l.mod.kin.keeps fun b o e=>(l.bs b o e).1
 have h:∀y∈ps.zip X,scope.names.lookup y.1=some .local\/(scope.names.lookup y.1=some _/\((cellsFrom (s.heap.objs.size+1) _ []).lookup y.1).isSome=true):=fun⟨n,v⟩ Y=>by
  rcases S.par n (List.of_mem_zip Y).1 with q | q
  ·grind
  ·exact .inr ⟨q,PySem.W.cellsFrom_some _ _ _ (.inl q)⟩
 refine codeAny_call_function C.depth (G _ _ lk) rfl S.co S.gen rfl (PySem.W.codeRec_of G hcd) (hb _ _ _ _ ?_)
 refine wpAny_newFunctionEnv_cells S.kind h fun Z he s1 x=>?_
 subst he
 refine⟨(l.mod.nolimit.keeps fun b o e=>(l.bs b o e).1).keeps x.toInCall.keep,codeAny_func ?_⟩
 obtain⟨t,ht,hq⟩:=i A _ s H _ Q E (C.deeper _) m;have I:Inv (Iv CX P w K _ _ N qual _ f a A _ s H E) _ _ H _:=Wg S C.hd l hl r x
 refine wpAny_mono (ht _ _ _ H _ I hq) (fun fl L j=>?_) fun e L j=>j
 have B:∀{g:St} {H':Hp} {v:V} {u:Value},Inv (Iv CX P w K mg base N qual scope f a A c s H E) [] g _ L->RelV v u->Q v _->CE _ P w H s Q u _ :=
  fun {g H' v u} J D q=>⟨v,H',J.os,J.bare,J.base,J.hok,D,q⟩
 cases fl with
 | ret u =>
  obtain⟨v,g,H',J,D,q⟩:=j;exact B J D q
 | next =>
  obtain⟨g,H',J,q⟩:=j;exact B (v:=V.non)  J rfl q
 | brk =>
  obtain⟨_,_,_,q⟩:=j
  trivial
 | cont =>
  obtain⟨_,_,_,q⟩:=j
  trivial
section
variable {X:Cx}{x:Str}{p pos:Pos}{e:Expr}{es:List Expr}{t:TA}{id T:String}{r:List V->Hp->VK->Prop}
def tCB (r:List V->Hp->VK->Prop)(t:TA):TE:=fun σ H Q=>t σ H fun vs H1=>r vs H1 Q
theorem A0b (hc:CallR X (.builtin id) r)(hg:Gl X x)(hm:X.mg x=none)(hv:bootBuiltins x=some (.builtin id))(ha:PA X (e::es) t)(hn:x ≠ "__name__" := by decide) (hdb:(x==("__debug__" : Str))=false:=by decide)
 (he:starEach (e::es) X.env=(false,eval e X.env)::starEach es X.env:=by rfl) (hpl:(backTo pos (starEach es X.env)).any (·.1)=false:=by rfl):PE X (.Call (.Name x p) (e::es) [] pos) (tCB r t):=by
 intro a s f H Q I h
 refine wpAny_Call_Name_kw (Tn I hg hm hv ?_ hn hdb)
 exact PyProof.Rows.callWith_builtin1 (thn (ha _ _ s _ H _ I h) fun j k ⟨g,i,d,c,b⟩=>hc _ _ _ _ _ _ Q d c b) he hpl
theorem Au7 (hc:CallR X (.type T) r)(hg:Gl X x)(hm:X.mg x=none)(hv:bootBuiltins x=some (.type T))(ha:PA X (e::es) t)(hn:x ≠ "__name__" := by decide) (hdb:(x==("__debug__" : Str))=false:=by decide)
 (he:starEach (e::es) X.env=(false,eval e X.env)::starEach es X.env:=by rfl) (hpl:(backTo pos (starEach es X.env)).any (·.1)=false:=by rfl):PE X (.Call (.Name x p) (e::es) [] pos) (tCB r t):=by
 intro a s f H Q I h
 refine wpAny_Call_Name_kw (Tn I hg hm hv ?_ hn hdb)
 exact PyProof.Rows.callWith_type1 (thn (ha _ _ s _ H _ I h) fun j k ⟨g,i,d,c,b⟩=>hc _ _ _ _ _ _ Q d c b) he hpl
end
end L2
namespace HT
open PySem PyProof.Rows
section
variable {prog:Program}{w:World}{A:Around}{E:Value->Shared->Prop}{s:Shared}
theorem A5r    (ht:IsTup s.heap t vs.toArray) (hb:IsTup s.heap b c.toArray) (hv:vs≠[])
 (h1:c=[]->Q (.ref t) s) (h2:c≠[]->Q (.ref s.heap.objs.size) { s with heap:=s.heap.push { cls:=.type "tuple",data:=.seq (vs++c).toArray } })
 (hsz:vs.length+c.length<=sizeLine):wpAny (model prog w) A (binaryOp .Add (.ref t) (.ref b)) Q E s:=by
 obtain⟨⟨g,q,d,p⟩,e,o,n,l⟩:=id ht;obtain⟨⟨j,k,i,m⟩,a,h,r,f⟩:=id hb;subst o l h f
 by_cases hw:c=[]
 ·exact concat_meets ⟨_,e,rfl⟩ ⟨_,a,rfl⟩ noFill_tuple_add seq_tuple_add PySem.F.slot_tuple_add PySem.F.entry_tuple_add (PySem.F.args_tuple_add_2 _ _)
   (tuple_addW1 t b _ _ n _ _ _ _ _ (by simp_all) (by grind)) ⟨e,a,h1 hw⟩
 ·refine concat_meets ⟨_,e,rfl⟩ ⟨_,a,rfl⟩ noFill_tuple_add seq_tuple_add PySem.F.slot_tuple_add PySem.F.entry_tuple_add (PySem.F.args_tuple_add_2 _ _)
   (tuple_addW2 t b _ _ n _ _ _ _ _ (by grind) (by simp_all) (by simp_all)) ⟨e,a,?_⟩
  grind
def sIx (n d:Nat):Option Int->Nat
 | none=>d
 | some v=>if v<0 then (v+(n:Int)).toNat else min v.toNat n
theorem Ab3 (n d:Nat):sIx n d none=d:=rfl
theorem Sd (n d k:Nat):sIx n d (some (k:Int))=min k n:=by
 show (if k<0 then ((k:Int)+n).toNat else min _ n)=min k n
 grind
theorem Bk1 (n d:Nat)(hd:d<=n)(o:Option Int):sIx n d o<=n:=by
 cases o with
 | none=>exact hd
 | some v =>
  show (if v<0 then (v+n).toNat else min _ n)<=n
  grind
theorem Ap4 (v:Int)(n d:Nat):(if v<0 then max (v+(n:Int)) 0 else min v (n:Int))=((sIx n d (some v):Nat):Int):=by
 show (if v<0 then max _ 0 else min v _)=(((if v<0 then (v+n).toNat else min _ n):Nat):Int)
 grind
theorem Ai9 (lo hi:Option Int)(n:Nat):Builtin.Slice.sliceAdjust lo hi 1 (n:Int)=(((sIx n 0 lo:Nat):Int),((sIx n n hi:Nat):Int)):=by
 refine Prod.ext ?_ ?_
 ·cases lo with
  | none=>rfl
  | some v=>exact Ap4 v n 0
 ·cases hi with
  | none=>rfl
  | some v=>exact Ap4 v n n
theorem Ah4 (i j:Nat):Builtin.Slice.slicePlaces (i:Int) (j:Int) 1=j-i:=by
 unfold Builtin.Slice.slicePlaces
 have h1:(1:Int)>0:=by omega
 simp only[h1,if_true,Int.ediv_one]
 split <;> omega
theorem Nm    (p:IsPart v o) (h:Q o s):wpAny (model prog w) A (Builtin.Slice.slicePartIndex v) Q E s:=by
 cases p with
 | none=>exact slicePart_none h
 | int i t=>exact slicePart_int h
theorem Jt   {lo hi:Option Int}{n:Nat}  (hs:s.heap.IsSliceOf e d c .none) (pl:IsPart d lo) (g:IsPart c hi)
 (h:Q (((sIx n 0 lo:Nat):Int),1,sIx n n hi-sIx n 0 lo) s):wpAny (model prog w) A (Builtin.Slice.sliceApplied (.ref e) (pure (n:Int))) Q E s:=by
 obtain⟨i,a,f,b⟩:=id hs
 refine wpAny_bind (wpAny_bind (wpAny_field a b (x:=d) rfl (wpAny_bind (wpAny_field a b (x:=c) rfl (wpAny_bind (wpAny_field a b  rfl (wpAny_pure ?_)))))))
 refine wpAny_bind (slicePart_none ?_)
 refine wpAny_bind (Nm pl (wpAny_bind (Nm g (wpAny_bind (wpAny_pure ?_)))))
 show wpAny _ _ (match Builtin.Slice.sliceAdjust _ _ 1 _ with | (lo,hi)=>pure (lo,(1:Int),Builtin.Slice.slicePlaces lo hi 1)) _ _ s
 rw[Ai9 _ _ n]
 show wpAny _ _ (pure _) _ _ s
 rw[Ah4];exact wpAny_pure h
theorem A2v (xs:Array Value)(i k:Nat):((List.range k).filterMap fun (m:Nat)=>xs[((i:Int)+(m:Int)*1).toNat]?).toArray=((xs.toList.drop i).take k).toArray:=by
 have e:(fun (m:Nat)=>xs[((i:Int)+m*1).toNat]?)=fun m=>xs[i+m]?:=by
  funext m
  have:((i:Int)+m*1).toNat=i+m:=by omega
  rw[this]
 rw[e];have:=pick_run xs i k;rw[List.filterMap_map]at this
 have a:((fun x=>xs[x]?) ∘ fun x=>i+x)=fun m=>xs[i+m]?:=rfl
 rw[a]at this;rw[this]
theorem Og    {lo hi:Option Int}  (ht:IsTup s.heap t items) (hs:s.heap.IsSliceOf sl vl vu .none) (pl:IsPart vl lo) (pu:IsPart vu hi)
 (hw:¬ (sIx items.size 0 lo=0/\sIx items.size items.size hi=items.size))
 (h:Q (.ref s.heap.objs.size) { s with heap:=s.heap.push { cls:=.type "tuple",data:=.seq ((items.toList.drop (sIx items.size 0 lo)).take (sIx items.size items.size hi-sIx items.size 0 lo)).toArray } })
 (hsz:items.size<=sizeLine):wpAny (model prog w) A (getItem (.ref t) (.ref sl)) Q E s:=by
 have htake:sizeOk (.seq ((items.toList.drop (sIx items.size 0 lo)).take (sIx items.size items.size hi-sIx items.size 0 lo)).toArray):=by
  show ((items.toList.drop (sIx items.size 0 lo)).take (sIx items.size items.size hi-sIx items.size 0 lo)).toArray.size<=sizeLine
  rw[List.size_toArray,List.length_take,List.length_drop,Array.length_toList];omega
 have hj:sIx items.size items.size hi<=items.size:=Bk1 _ _ (Nat.le_refl _) hi;obtain⟨os,hos,hcs,hds⟩:=id hs;have hTs:s.TypeIs (.ref sl) "slice" := ⟨os,hos,hcs⟩;unfold getItem
 try with_reducible refine wpAny_holding ?_
 first | refine wpAny_bind (wpAny_pure ?_) | skip
 refine wpAny_bind (wpAny_sequenceKey ht.typeIs (by decide) ?_)
 refine wpAny_bind (wpAny_callSpecial?_slot (name:="__getitem__") ht.typeIs PyProof.Rows.slot_tuple_getitem
  (wpAny_call_entry PyProof.Rows.slot_tuple_getitem ht.typeIs entry_tuple_getitem ?_ (args_tuple_getitem _ _)))
 show wpAny _ _ (Builtin.Tuple.tupleItemsOf (.ref t) >>= _) _ _ s
 refine wpAny_bind (tupleItemsOf_ ht ?_)
 refine wpAny_bind (wpAny_typeOf hTs ?_)
 rw[if_pos (by decide)]
 refine wpAny_bind (Jt hs pl pu ?_)
 have hno:¬ ((((sIx items.size 0 lo:Nat):Int)==0&&(1:Int)==1&&(sIx items.size items.size hi-sIx items.size 0 lo)==items.size)=true):=by
  intro q;rw[Bool.and_eq_true,Bool.and_eq_true]at q;have q1:((sIx items.size 0 lo:Nat):Int)=0:=eq_of_beq q.1.1;have q2:sIx items.size items.size hi-sIx items.size 0 lo=items.size:=eq_of_beq q.2
  exact hw ⟨by omega,by omega⟩
 show wpAny _ _ (if (((sIx items.size 0 lo:Nat):Int)==0&&(1:Int)==1&&(sIx items.size items.size hi-sIx items.size 0 lo)==items.size)=true then _ else _) _ _ s
 rw[if_neg hno,A2v]
 first
  | exact wpAny_bind (m:=Builtin.Tuple.tupleExact _) (wpAny_newObj_type (wpAny_pure ⟨_,rfl,wpAny_pure h⟩) htake)
  | exact wpAny_bind (m:=Builtin.Tuple.tupleExact _) (wpAny_newObj_type (wpAny_bind (wpAny_pure (wpAny_pure ⟨_,rfl,wpAny_pure h⟩))) htake)
  | exact wpAny_bind (wpAny_bind (m:=Builtin.Tuple.tupleExact _) (wpAny_newObj_type (wpAny_pure (wpAny_pure ⟨_,rfl,wpAny_pure h⟩)) htake))
  | exact wpAny_bind (wpAny_bind (m:=Builtin.Tuple.tupleExact _) (wpAny_newObj_type (wpAny_pure ⟨_,rfl,wpAny_pure h⟩) htake))
end
end HT
namespace L2
open PySem PySem.Spec PyProof.Rows
abbrev TO:=St->Hp->(Option Int->Hp->Prop)->Prop
def PO (X:Cx)(e:Option Expr)(t:TO):Prop :=
 ∀
  (pins:List (Addr×Obj)) (s:Shared) (σ:St) (H:Hp) (Q:Option Int->Hp->Prop),Inv X pins σ H s->t σ H Q ->
  wpAny (model X.prog X.w) X.A (evalPart e X.env) (fun u s'=>∃o H',Inv X pins σ H' s'/\IsPart u o/\Q o H') X.xe s
def Yo:TO:=fun _ H Q=>Q none H
def Ay6 (t:TE):TO:=fun σ H Q=>t σ H fun x H1=>∃i,x=.int i/\Q (some i) H1
section
variable {X:Cx}{e:Expr}{te:TE}{lo hi:Option Expr}{tl th:TO}{pos p2:Pos}
theorem A6g:PO X none Yo:=by
 intro a s b H Q I h;exact wpAny_pure ⟨none,H,I,.none,h⟩
theorem A7i (h:PE X e te):PO X (some e) (Ay6 te):=by
 intro a s σ H Q I d
 refine thn (h _ s _ H _ I d) fun u s1 ⟨x,f,b,c,g⟩=>?_
 obtain⟨i,rfl,q⟩:=g;obtain⟨t,rfl⟩:=c;exact⟨some i,f,b,.int i t,q⟩
def SlR (X:Cx)(r:V->Option Int->Option Int->Hp->VK->Prop):Prop :=
 ∀
  (pins:List (Addr×Obj)) (s:Shared) (σ:St) (H:Hp) (x:V) (v vl vu:Value) (lo hi:Option Int) (sl:Addr) (Q:VK),Inv X pins σ H s->RelV x v->s.heap.IsSliceOf sl vl vu .none->IsPart vl lo->IsPart vu hi->r x lo hi H Q ->
  ∃T id,typeLookup (.type T) "__getitem__" = pure (some (.builtin id))/\s.TypeIs v T/\wpAny (model X.prog X.w) X.A (getItem v (.ref sl)) (EP X pins σ Q) X.xe s
theorem SlR.or  (h:SlR X r) (h':SlR X b):SlR X (fun x lo hi H Q=>r x lo hi H Q\/b x lo hi H Q):=by
 intro d s g H x v i j lo hi k Q I e c f a q
 rcases q with q | q
 ·exact h _ s _ H x v _ _ _ _ _ Q I e c f a q
 ·exact h' _ s _ H x v _ _ _ _ _ Q I e c f a q
def tSl (r:V->Option Int->Option Int->Hp->VK->Prop)(te:TE)(tl th:TO):TE:=fun σ H Q=>te σ H fun x H1=>tl σ H1 fun l H2=>th σ H2 fun u H3=>r x l u H3 Q
theorem A0z  (hr:SlR X r) (he:PE X e te) (hl:PO X lo tl) (hu:PO X hi th):PE X (.Subscript e (.Slice lo hi none p2) pos) (tSl r te tl th):=by
 intro c s E H Q I h
 refine Subscript_ (thn (he _ s _ H _ I h) fun v B ⟨x,D,i,j,k⟩=>?_)
 refine wpAny_Slice (thn (hl _ _ _ _ _ i k) fun m C ⟨l,K,n,o,f⟩=>thn (hu _ _ _ _ _ n f) fun g a ⟨u,J,t,w,p⟩=>?_)
 refine wpAny_pure ?_
 have z:Inv X _ _ _ { a with heap:=a.heap.push { cls:=.type "slice",data:=.fields #[m,g,.none] } }:=t.kept  fun b F q=>Heap.get?_push_of_some _ q
 obtain⟨T,G,y,A,d⟩:=hr _ _ _ _ x v _ _ l u _ Q z j (Heap.IsSliceOf.new ..) o w p
 exact tail_any  A y d (by trivial)
def Aw6 (xs:List V)(lo hi:Option Int):List V:=(xs.drop (HT.sIx xs.length 0 lo)).take (HT.sIx xs.length xs.length hi-HT.sIx xs.length 0 lo)
theorem Rb (xs:List V)(lo hi:Option Int):(Aw6 xs lo hi).length<=xs.length:=by
 unfold Aw6;rw[List.length_take,List.length_drop];omega
def Bs2 (K:PySem.W.Frag):V->Option Int->Option Int->Hp->VK->Prop:=fun x lo hi H Q=>∃a xs,x=.ref a/\SqT K H a xs /\
 ¬ (HT.sIx xs.length 0 lo=0/\HT.sIx xs.length xs.length hi=xs.length)/\∀p,H p=none->Q (.ref p) (upd H p (.tup (Aw6 xs lo hi)))
theorem Bh0:SlR X (Bs2 X.K):=by
 intro e s σ H x v vl vu lo hi sl Q I j k g l h;obtain⟨a,i,rfl,m,hw,q⟩:=h
 cases j
 obtain⟨d,r,f,n⟩:=I.tuple m
 have c:d.toArray.size=i.length:=by exact r.length.symm
 refine⟨"tuple",_,PyProof.Rows.slot_tuple_getitem.lookup,f.typeIs,?_⟩
 refine HT.Og f k g l (by grind) ?_ (by simp_all)
 rw[c]
 refine⟨.ref _,_,I.laid   (fun b ob q=>Heap.get?_push_of_some _ q) (Nat.le_refl _) ?_,rfl,q _ (I.hok.fresh (Nat.le_refl _))⟩
 exact⟨Nat.le_trans (Rb _ _ _) n,_,(r.drop _).take _,zN.new _ _⟩
def Bq6 (K:PySem.W.Frag):R2:=fun x y H Q=>∃a b xs ys,x=.ref a/\y=.ref b/\SqT K H a xs/\SqT K H b ys/\xs≠[]/\xs.length+ys.length<=sizeLine /\
 (ys=[]->Q (.ref a) H)/\(ys≠[]->∀p,H p=none->Q (.ref p) (upd H p (.tup (xs++ys))))
theorem Vals.nil_iff   (r:Vals xs us):us=[]↔xs=[]:=by
 cases r with
 | nil=>simp
 | cons _ _=>simp
theorem A6o:OpR X (binaryOp .Add) (Bq6 X.K):=by
 intro e s σ H x y v u Q I o p h;obtain⟨a,b,xs,ys,rfl,rfl,k,l,g,hz,m,j⟩:=h
 cases o
 cases p
 obtain⟨i,d,n,_⟩:=I.tuple k;obtain⟨f,c,r,_⟩:=I.tuple l
 refine HT.A5r n r (fun z=>g (d.nil_iff.mp z)) (fun z=>⟨.ref a,H,I,rfl,m (c.nil_iff.mp z)⟩) (fun z=>?_) (by rw[<- d.length,<- c.length];grind)
 refine⟨.ref _,_,I.laid   (fun b ob q=>Heap.get?_push_of_some _ q) (Nat.le_refl _) ?_,rfl,j (fun w=>z (c.nil_iff.mpr w)) _ (I.hok.fresh (Nat.le_refl _))⟩
 exact⟨by simp_all,_,d.append c,zN.new _ _⟩
end
def ixN (n:Nat)(i:Int):Option Nat:=if 0<=i then (if i<n then some i.toNat else none) else if -(n:Int)<=i then some (i+n).toNat else none
def atI {α:Type}(xs:List α)(i:Int):Option α:=(ixN xs.length i).bind fun j=>xs[j]?
theorem X8    (h:ixN n i=some j):seqIndex? i n=some j/\j<n/\-(n:Int)<=i/\i<n:=by
 unfold ixN at h
 by_cases h0:0<=i
 ·rw[if_pos h0]at h
  by_cases h1:i<n
  ·rw[if_pos h1]at h
   have e  := Option.some.inj h
   exact⟨by rw[seqIndex_of h0 h1,e],by omega,by omega,h1⟩
  simp_all
 ·rw[if_neg h0]at h
  by_cases h1:-n<=i
  ·rw[if_pos h1]at h
   have e  := Option.some.inj h
   exact⟨by rw[seqIndex_neg (by omega) h1,e],by omega,h1,by omega⟩
  simp_all
theorem Yx  {xs:List a}  {v:a}(h:atI xs i=some v):∃j,seqIndex? i xs.length=some j/\xs[j]?=some v/\j<xs.length/\-(xs.length:Int)<=i/\i<xs.length:=by
 unfold atI at h
 cases e:ixN xs.length i with
 | none=>simp_all
 | some j =>
  obtain⟨c,d,f,b⟩:=X8 e
  grind
theorem Jg  {xs:List a}{j:Nat}{v:a}(h:xs[j]?=some v):atI xs (j:Int)=some v:=by
 have b  := (List.getElem?_eq_some_iff.mp h).1
 have e:ixN xs.length j=some j:=by
  unfold ixN
  simp_all
 unfold atI;grind
def Mg (b:Expr):Prop:=∀o i,subscripted b false o i=operate [o,i] (getItem o i)
def IxR (X:Cx)(r:R2):Prop :=
 ∀
  (value slice:Expr) (pins:List (Addr×Obj)) (s:Shared) (σ:St) (H:Hp) (x y:V) (v u:Value) (Q:VK),Inv X pins σ H s->RelV x v->RelV y u->r x y H Q ->
  subscripted slice false v u=operate [v,u] (getItem v u)->wpAny (model X.prog X.w) X.A (subscriptTail value slice v u) (EP X pins σ Q) X.xe s
def MtR (X:Cx)(id:String)(r:V->List V->Hp->VK->Prop):Prop :=
 ∀
  (pins:List (Addr×Obj)) (s:Shared) (σ:St) (H:Hp) (x:V) (xs:List V) (v:Value) (us:List Value) (Q:VK),Inv X pins σ H s->RelV x v->Vals xs us->r x xs H Q ->
  wpAny (model X.prog X.w) X.A (call (.builtin id) (v::us)) (EP X pins σ Q) X.xe s
section
variable {X:Cx}{a b:Expr}{ta tb:TE}{pos:Pos}
theorem IxR.or  (h:IxR X r) (h':IxR X d):IxR X (fun x y H Q=>r x y H Q\/d x y H Q):=by
 intro b a e s i H x y v u Q I f g q c
 rcases q with q | q
 ·exact h _ _ _ s _ H x y v u Q I f g q c
 ·exact h' _ _ _ s _ H x y v u Q I f g q c
theorem Bp4  (hr:IxR X r) (ha:PE X a ta) (hb:PE X b tb) (hs:Mg b):PE X (.Subscript a b pos) (tOp r ta tb):=by
 intro c s g H Q I h
 exact Subscript_ (Bc2 ha hb I h fun v u i x y j f e d q=>hr a b _ _ _ _ x y v u Q f e d q (hs _ _))
def Bb5 (K:PySem.W.Frag):R2:=fun x y H Q=>∃p xs i v,x=.ref p/\y=.int i/\SqL K H p xs/\atI xs i=some v/\Q v H
def Bm1 (K:PySem.W.Frag):R2:=fun x y H Q=>∃p xs i v,x=.ref p/\y=.int i/\SqT K H p xs/\atI xs i=some v/\Q v H
def Bs7:R2:=fun x y H Q=>∃z i c,x=.str z/\y=.int i/\z.length<=sizeLine/\atI z.cps.toList i=some c/\Q (.str ⟨#[c]⟩) H
theorem ix_list:IxR X (Bb5 X.K):=by
 intro g f a s m H x y v u Q I C F h l;obtain⟨p,xs,i,z,rfl,rfl,E,n,q⟩:=h
 cases C
 obtain⟨t,rfl⟩:=F;obtain⟨e,r,c,hz⟩:=I.list E;obtain⟨j,k,D,h3,o,B⟩:=Yx n;obtain⟨w,ew,d⟩:=r.get D;have hl:=r.length;have hn:=T7;have b:EP X a m Q w s:=⟨z,H,I,d,q⟩
 by_cases h0:0<=i
 ·have A:i.toNat=j:=by
   rw[seqIndex_of h0 B]at k
   simp_all
  exact item_listR c.isList h0 (by omega) (by grind) b l
 ·have A:(i+e.toArray.size).toNat=j:=by
   rw[seqIndex_neg (by omega) o]at k
   simp_all
  exact subscriptTail_builtinR  c.isList.typeIs slot_list_getitem.lookup
   (wpAny_getItem_list_neg  c.isList (by omega) (by simp_all) (by omega) (by grind) ⟨rfl,b⟩) l
theorem ix_tup:IxR X (Bm1 X.K):=by
 intro b c e s σ H x y v u Q I A g h o;obtain⟨p,xs,i,z,rfl,rfl,m,n,q⟩:=h
 cases A
 obtain⟨t,rfl⟩:=g;obtain⟨k,r,f,hz⟩:=I.tuple m;obtain⟨j,h1,l,h3,h4,h5⟩:=Yx n;obtain⟨w,ew,d⟩:=r.get l;have hl:=r.length;have hn:=T7;have a:EP X _ _ Q w s:=⟨z,H,I,d,q⟩
 exact subscriptTail_builtinR  f.typeIs slot_tuple_getitem.lookup
  (getItem_tuple (j:=j)  f (by omega) (by omega) (by simp_all) (by grind) ⟨rfl,a⟩) o
theorem Bf2:IxR X Bs7:=by
 intro a b d s σ H x y v u Q I f m h g;obtain⟨z,i,c,rfl,rfl,hz,l,q⟩:=h;obtain⟨t,rfl⟩:=f;obtain⟨t',rfl⟩:=m;obtain⟨j,e,k,h3,o,n⟩:=Yx l
 have p:z.cps.toList.length=z.length:=by simp[Str.length]
 rw[p]at e o n;have hn:=T7
 exact tail_any (typeIs_str s z t) slot_str_getitem.lookup (getItem_str  (by
  grind) (by rw[e];simpa using k) ⟨.str _,H,I.tok _,⟨_,rfl⟩,q⟩) g
def rIx (K:PySem.W.Frag):R2:=fun x y H Q=>Bb5 K x y H Q\/Bm1 K x y H Q\/Bs7 x y H Q
theorem Bb3:IxR X (rIx X.K):=ix_list.or (ix_tup.or Bf2)
theorem Ae5 (a:List Value)(n j:Nat)(u:Value):Obj.mapSeq (·.setIfInBounds j u) { cls:=.type "list",data:=.seq a.toArray n }={ cls:=.type "list",data:=.seq (a.set j u).toArray n }:=by
 simp[Obj.mapSeq]
theorem Inv.lst  {b:St}     (I:Inv X pins b H s) (h:H p=some (.lst xs)) :
 ∃(a:List Value) (n:Nat),Vals xs a/\s.heap.get? p=some { cls:=.type "list",data:=.seq a.toArray n }/\xs.length<=sizeLine:=by
 obtain⟨z,a,n,r,e⟩:=I.hok p _ h
 grind
theorem Inv.lstUpd       {a its':List Value}   (I:Inv X pins c H s) (h:H p=some (.lst xs))
 (ho:s.heap.get? p=some { cls:=.type "list",data:=.seq a.toArray n }) (hf:f { cls:=.type "list",data:=.seq a.toArray n }={ cls:=.type "list",data:=.seq its'.toArray n' }) (r:Vals ys its') (hz:ys.length<=sizeLine) (t:Nat) :
 Inv X pins c (upd H p (.lst ys)) { s with heap:=s.heap.update p f,toks:=t }:=by
 have e:(s.heap.update p f).get? p=some { cls:=.type "list",data:=.seq its'.toArray n' }:=by
  rw[Heap.get?_update_self f ho (by rw[hf] <;> rfl),hf]
 refine I.write   (by rw[h];trivial) (.inl rfl) (fun b u d q=>(Heap.get?_update_other _ _ (Ne.symm d)).trans q) ⟨_,e⟩ ?_
 exact⟨hz,its',n',r,e⟩
def A9b:V->V->V->Hp->(Hp->Prop)->Prop:=fun o i v H Q=>∃p xs k j,o=.ref p/\i=.int k/\H p=some (.lst xs)/\ixN xs.length k=some j/\Q (upd H p (.lst (xs.set j v)))
theorem set_list:Bj4 X A9b:=by
 intro a s w H o i v ov iv u Q I y m g h;obtain⟨p,l,k,j,rfl,rfl,d,x,q⟩:=h
 cases y
 obtain⟨t,rfl⟩:=m;obtain⟨b,n,r,c,hz⟩:=I.lst d;obtain⟨e,h2,z,A⟩:=X8 x;have hl:=r.length;have hn:=T7
 have I':Inv X a w (upd H p (.lst (l.set j v))) { s with heap:=s.heap.update p (Obj.mapSeq (·.setIfInBounds j u)) } :=
  I.lstUpd d c (Ae5 _ n j u) (r.set g j) (by grind) _
 by_cases h0:0<=k
 ·have f:k.toNat=j:=by
   rw[seqIndex_of h0 A]at e
   grind
  exact PySem.W.ki_setAt c h0 (by omega) (by grind) (by grind)
 ·have f:(k+b.toArray.size).toNat=j:=by
   rw[seqIndex_neg (by omega) z]at e
   simp_all
  exact PySem.W.ki_setBack c (by omega) (by simp_all) (by omega) (by grind)
theorem Yp (lo hi:Option Int)(n:Nat):(sliceBounds lo hi none n).1=((HT.sIx n 0 lo:Nat):Int)/\(sliceBounds lo hi none n).2.1=((HT.sIx n n hi:Nat):Int)/\(sliceBounds lo hi none n).2.2=1:=by
 refine⟨?_,?_,rfl⟩
 ·cases lo with
  | none=>simp[sliceBounds,HT.sIx]
  | some i =>
   simp only[sliceBounds,HT.sIx,Option.getD_none,show (1:Int)>0 by decide,if_true]
   by_cases h:i<0
   ·simp only[h,if_true] <;> omega
   ·simp only[h,if_false] <;> omega
 ·cases hi with
  | none=>simp[sliceBounds,HT.sIx]
  | some i =>
   simp only[sliceBounds,HT.sIx,Option.getD_none,show (1:Int)>0 by decide,if_true]
   by_cases h:i<0
   ·simp only[h,if_true] <;> omega
   ·simp only[h,if_false] <;> omega
theorem Vq (a:List Value)(lo hi:Option Int):slicePick a.toArray lo hi none=((a.drop (HT.sIx a.length 0 lo)).take (HT.sIx a.length a.length hi-HT.sIx a.length 0 lo)).toArray:=by
 obtain⟨c,d,b⟩:=Yp _ _ _;unfold slicePick;rw[c,d,b]
 simp only[sliceRange_one,pick_run] <;> rfl
def Bt1 (K:PySem.W.Frag):V->Option Int->Option Int->Hp->VK->Prop:=fun x lo hi H Q=>∃a xs,x=.ref a/\SqL K H a xs/\∀p,H p=none->Q (.ref p) (upd H p (.lst (Aw6 xs lo hi)))
theorem A5o:SlR X (Bt1 X.K):=by
 intro e s σ H x v vl vu lo hi sl Q I i j f k h;obtain⟨a,xs,rfl,g,q⟩:=h
 cases i
 obtain⟨l,r,d,m⟩:=I.list g;have c:=r.length
 refine⟨"list",_,slot_list_getitem.lookup,d.isList.typeIs,?_⟩
 refine wpAny_getItem_list_slice d.isList j f k .none (by simp) ?_ (by simp_all)
 rw[Vq,<- c]
 refine⟨.ref _,_,I.laid   (fun b ob q=>Heap.get?_push_of_some _ q) (Nat.le_refl _) ?_,rfl,q _ (I.hok.fresh (Nat.le_refl _))⟩
 exact⟨Nat.le_trans (Rb _ _ _) m,_,0,(r.drop _).take _,Heap.get?_push_size _ rfl⟩
theorem CallR.or  {r b:List V->Hp->VK->Prop}(h:CallR X f r) (h':CallR X f b):CallR X f (fun xs H Q=>r xs H Q\/b xs H Q):=by
 intro c s d H xs e Q I a q
 rcases q with q | q
 ·exact h _ s _ H _ _ Q I a q
 ·exact h' _ s _ H _ _ Q I a q
theorem Ym:CallR X (.type "list") (fun xs H Q=>∃p k,xs=[.ref p]/\(SqL X.K H p k\/SqT X.K H p k)/\∀l,H l=none->Q (.ref l) (upd H l (.lst k))):=by
 intro z s σ H xs us Q I r h;obtain⟨p,k,rfl,f,q⟩:=h;obtain⟨u,rfl,A⟩:=vals1 r
 cases A
 have g:∀(a:List _),Vals _ _->k.length<=sizeLine->∀(d:Heap) (t:Nat),(∀b o',s.heap.get? b=some _->d.get? b=some _) ->
  d.get? _=some _->EP X _ _ Q _ { s with heap:=d }:=fun a c j d t i e =>
  ⟨.ref _,_,I.laid  i (Nat.le_refl _) (show z9 _ _ _ _ _ (.lst _) from ⟨j,a,t,c,e⟩),rfl,q _ (I.hok.fresh (Nat.le_refl _))⟩
 rcases f with f | f
 ·obtain⟨a,c,y,j⟩:=I.list f
  have m:=c.length;obtain⟨o,w,x,n,v⟩:=y.isList
  exact call_list_seq p (.inl rfl) w x v (fun d t i e=>g _ c j _ _ i e) (by simp_all)
 ·obtain⟨a,c,y,j⟩:=I.tuple f
  have m:=c.length;obtain⟨o,w,x,n,v⟩:=y
  exact call_list_seq p (.inr rfl) w x v (fun d t i e=>g _ c j _ _ i e) (by simp_all)
theorem Vp:CallR X (.type "tuple") (fun xs H Q=>∃p c,xs=[.ref p]/\((SqL X.K H p c/\∀l,H l=none->Q (.ref l) (upd H l (.tup c)))\/(SqT X.K H p c/\Q (.ref p) H))):=by
 intro i s σ H xs us Q I r h;obtain⟨p,c,rfl,h⟩:=h;obtain⟨u,rfl,w⟩:=vals1 r
 cases w
 rcases h with ⟨d,q⟩ | ⟨d,q⟩
 ·obtain⟨a,g,f,m⟩:=I.list d
  have k:=g.length
  refine call_tuple_list f.isList (fun j v=>?_) (by simp_all)
  have n:Inv X _ _ H { s with heap:=j }:=I.kept  v
  have t:Inv X _ _ (upd H _ (.tup _)) { s with heap:=j.push _ } :=
   n.laid  (fun b o e=>Heap.get?_push_of_some _ e) (Nat.le_refl _) (show z9 _ _ _ _ _ _ from ⟨m,a,g,zN.new _ _⟩)
  exact⟨.ref _,_,t,rfl,q _ (n.hok.fresh (Nat.le_refl _))⟩
 ·obtain⟨a,g,f,m⟩:=I.tuple d
  exact call_tuple_same f ⟨.ref p,H,I,rfl,q⟩
def tyV (K:PySem.W.Frag)(T:String)(x:V)(H:Hp):Prop:=match x with
 | .str _=>T = "str"
 | .int _=>T = "int"
 | .ref p=>(T = "list" /\ ∃xs,SqL K H p xs)\/(T = "tuple" /\ ∃o,K.lookup p=some o/\o.cls=.type "tuple" /\ o.dict=none) \/
  (T = "dict" /\ ((∃kvs,H p=some (.dK kvs))\/∃kvs,H p=some (.dT kvs)))\/(T = "set" /\ ∃S n,H p=some (.set S n))\/(T = "tuple" /\ ∃xs,H p=some (.tup xs))
 | _=>False
theorem Bl9        (I:Inv X pins l H s) (r:RelV x v) (ty:tyV X.K T x H) :
 s.TypeIs v T/\∀a,v=.ref a->∃ob,s.heap.get? a=some ob/\ob.dict=none:=by
 cases x with
 | str z =>
  obtain⟨t,rfl⟩:=r
  cases (ty)
  exact⟨typeIs_str s z t,fun _ e=>nomatch e⟩
 | int i =>
  obtain⟨t,rfl⟩:=r
  cases (ty)
  exact⟨typeIs_int s i t,fun _ e=>nomatch e⟩
 | ref p =>
  cases r
  rcases ty with ⟨rfl,m,u⟩ | ⟨rfl,o,b,q,k⟩ | ⟨rfl,b⟩ | ⟨rfl,S,n,b⟩ | ⟨rfl,m,b⟩
  ·obtain⟨h,_,j,_⟩:=I.list u
   refine⟨j.isList.typeIs,fun a e=>?_⟩
   obtain⟨o,n,e,c,k,_⟩:=j
   grind
  ·refine⟨⟨o,I.kIn p o b,q⟩,fun a e=>?_⟩
   cases e
   exact⟨o,I.kIn _ o b,k⟩
  ·have z:∃o,s.heap.get? p=some o/\o.ExactDict:=by
    rcases b with ⟨g,b⟩ | ⟨g,b⟩
    ·obtain⟨_,_,_,_,o,_,_,e,d,_⟩:=I.hok p _ b
     grind
    ·obtain⟨_,_,_,_,o,_,_,e,d,_⟩:=I.hok p _ b
     grind
   obtain⟨o,e,d⟩:=z
   refine⟨⟨o,e,d.1⟩,fun a f=>?_⟩
   cases f
   exact⟨o,e,d.2.1⟩
  ·obtain⟨o,_,_,_,e,d,_⟩:=I.hok p _ b
   refine⟨⟨o,e,d.1⟩,fun a f=>?_⟩
   cases f
   exact⟨o,e,d.2.1⟩
  ·obtain⟨_,h,_,o,e,c,_,dn⟩:=I.hok p _ b
   refine⟨⟨o,e,c⟩,fun a f=>?_⟩
   grind
 | _=>exact False.elim ty
def tBM (K:PySem.W.Frag)(T:String)(r:V->List V->Hp->VK->Prop)(to:TE)(t:TA):TE:=fun σ H Q=>to σ H fun x H1=>tyV K T x H1/\t σ H1 fun xs H2=>r x xs H2 Q
variable {o e:Expr}{es:List Expr}{to:TE}{t:TA}{name:Str}{apos cpos:Pos}{T id:String}{r:V->List V->Hp->VK->Prop}
theorem A9o (pa:PlainAttrs T)(slot:Slot T name id)(hty:typeOf (.builtin id)=pure (.type "method_descriptor")) (hm:MtR X id r) (ho:PE X o to) (ha:PA X (e::es) t)
 (hbase:attributeBase o name X.env (eval o X.env)=eval o X.env:=by rfl)
 (hfew:((backTo cpos (starEach (e::es) X.env)).all (fun x=>!x.1)&&(backToKw cpos (keywordEach [] X.env)).all (fun x=>x.1.isSome)
  && decide ((e::es).length+([]:List Keyword).length+(if ([]:List Keyword).isEmpty then 0 else 1)<30))=true:=by rfl)
 (hline:(apos.endLine==cpos.line)=true:=by rfl) (hs:starEach (e::es) X.env=(false,eval e X.env)::starEach es X.env:=by rfl) (hplain:(backTo cpos (starEach es X.env)).any (·.1)=false:=by rfl) :
 PE X (.Call (.Attribute o name apos) (e::es) [] cpos) (tBM X.K T r to t):=by
 intro b s p H Q I h
 refine wpAny_Call_method_late hbase hfew hline rfl (thn (ho _ s _ H _ I h) fun v z ⟨x,y,c,a,j,k⟩=>?_)
 obtain⟨g,m⟩:=Bl9 c a j
 refine⟨T,id,pa,slot,hty,g,m,?_⟩
 have d:=ha cpos _ _ _ _ _ c k;rw[hs]at d ⊢
 refine Calls.callWith_builtin (by grind) (Calls.evalArgs_plain ?_)
 exact thn d fun i q ⟨u,w,l,n,f⟩=>hm _ _ _ _ x _ v i Q l a n f
end
def MtM (X:Cx)(id:String)(r:V->List V->Hp->VK->Prop):Prop :=
 ∀
  (pins:List (Addr×Obj)) (s:Shared) (σ:St) (H:Hp) (x:V) (xs:List V) (v:Value) (us:List Value) (Q:VK),Inv X pins σ H s->RelV x v->Vals xs us->r x xs H Q ->
  wpAny (model X.prog X.w) X.A (call (.builtin id) (v::us)) (EP X pins σ Q) X.xe s
theorem Vals.one:∀{x:V}{us:List Value},Vals [x] us->∃u,us=[u]/\RelV x u
 | _,_,h=>by
  cases h with
  | cons r t=>cases t;exact⟨_,rfl,r⟩
theorem Vals.two:∀{x y:V}{us:List Value},Vals [x,y] us->∃u v,us=[u,v]/\RelV x u/\RelV y v
 | _,_,_,h=>by
  cases h with
  | cons r t =>
   cases t with
   | cons q t=>cases t;exact⟨_,_,rfl,r,q⟩
theorem Vals.eraseIdx:∀{xs:List V}{us:List Value}(i:Nat),Vals xs us->Vals (xs.eraseIdx i) (us.eraseIdx i)
 | _,_,_,.nil=>.nil
 | _,_,0,.cons _ t=>t
 | _,_,i+1,.cons r t=>.cons r (Vals.eraseIdx i t)
theorem Vals.reverse {xs:List V}{us:List Value}(h:Vals xs us):Vals xs.reverse us.reverse:=by
 induction h with
 | nil=>exact .nil
 | cons r t a=>rw[List.reverse_cons,List.reverse_cons];exact Vals.append a (.cons r .nil)
theorem Vals.rep {xs:List V}{us:List Value}(h:Vals xs us):∀k:Nat,Vals (List.replicate k xs).flatten (List.replicate k us).flatten
 | 0=>.nil
 | k+1=>by
  rw[List.replicate_succ,List.replicate_succ,List.flatten_cons,List.flatten_cons];exact Vals.append h (Vals.rep h k)
theorem Ay2 {α:Type}:∀(l:List α) (i:Nat),(l.eraseIdx i).length<=l.length
 | [],_=>Nat.le_refl _
 | _::_,0=>Nat.le_succ _
 | _::r,i+1=>Nat.succ_le_succ (Ay2 r i)
theorem foldl_rep (its:List Value):∀(k:Nat) (acc:List Value),
 List.foldl (fun x1 x2=>x1++x2) acc.toArray (List.replicate k its.toArray)=(acc++(List.replicate k its).flatten).toArray
 | 0,acc=>by simp
 | k+1,acc=>by
  have e:acc.toArray++its.toArray=(acc++its).toArray:=by simp
  have e2:(acc++its)++(List.replicate k its).flatten=acc++(List.replicate (k+1) its).flatten:=by
   rw[List.replicate_succ,List.flatten_cons,List.append_assoc]
  rw[<- e2,<- foldl_rep its k (acc++its),<- e,List.replicate_succ,List.foldl_cons]
section
variable {X:Cx}{pins:List (Addr×Obj)}{σ:St}{H:Hp}{s:Shared}{l b:Addr}{xs ys zs:List V}
theorem Inv.lset {a its':List Value}    (I:Inv X pins σ H s) (c:H l=some (.lst xs))
 (e:s.heap.get? l=some { cls:=.type "list",data:=.seq a.toArray n }) (hf:f a.toArray=its'.toArray) (hv:Vals ys its') (hz:ys.length<=sizeLine) :
 Inv X pins σ (upd H l (.lst ys)) { s with heap:=s.heap.update l (Obj.mapSeq f),toks:=t' }:=by
 have q:=PySem.IsL.update e f;rw[hf]at q
 refine I.write   (by rw[c];trivial) (.inl rfl) (fun g u d b=>(Heap.get?_update_other _ _ (Ne.symm d)).trans b) ⟨_,q⟩ ?_
 exact⟨hz,its',_,hv,q⟩
theorem Inv.lnew   (I:Inv X pins σ H s) (hv:Vals ys a) (hz:ys.length<=sizeLine) :
 Inv X pins σ (upd H s.heap.objs.size (.lst ys)) { s with heap:=s.heap.push { cls:=.type "list",data:=.seq a.toArray },toks:=t' } :=
 I.laid (fun _ _ q=>Heap.get?_push_of_some _ q) (Nat.le_refl _) ⟨hz,a,0,hv,Heap.get?_push_size _ rfl⟩
theorem Inv.fresh (I:Inv X pins σ H s):H s.heap.objs.size=none:=I.hok.fresh (Nat.le_refl _)
theorem Inv.lstM (I:Inv X pins σ H s)(b:H l=some (.lst xs)):xs.length<=sizeLine/\∃(a:List Value) (n:Nat),Vals xs a/\xs.length=a.length/\s.heap.get? l=some { cls:=.type "list",data:=.seq a.toArray n }:=by
 obtain⟨z,a,n,r,e⟩:=I.hok l _ b;exact⟨z,a,n,r,r.length,e⟩
theorem Ac3  (h:n<=sizeLine):Builtin.List.listTooLong n=false:=by
 unfold Builtin.List.listTooLong
 grind
end
section
variable {X:Cx}
def rAppend:V->List V->Hp->VK->Prop:=fun x vs H Q=>∃l xs y,x=.ref l/\vs=[y]/\H l=some (.lst xs)/\xs.length<sizeLine/\Q .non (upd H l (.lst (xs++[y])))
theorem Ar7:MtM X "list.append" rAppend:=by
 intro a s σ H x vs v us Q I c f h;obtain⟨l,xs,y,rfl,rfl,b,hz,q⟩:=h
 cases c
 obtain⟨u,rfl,d⟩:=f.one;obtain⟨z,g,n,r,hl,e⟩:=I.lstM b
 refine call_meets F.slot_list_append ⟨_,e,rfl⟩ F.entry_list_append (F.args_list_append_2 _ _) (PySem.list_append l _ n u (by simp_all)) ⟨e,?_⟩
 refine⟨.non,_,I.lset  b e (by simp) (r.append (.cons d .nil)) ?_,rfl,q⟩
 grind
def rExtend:V->List V->Hp->VK->Prop:=fun x vs H Q=>∃l b xs zs,x=.ref l/\vs=[.ref b]/\H l=some (.lst xs)/\H b=some (.lst zs)/\xs.length+zs.length<=sizeLine/\Q .non (upd H l (.lst (xs++zs)))
theorem Ww:MtM X "list.extend" rExtend:=by
 intro pins s σ H x vs v us Q I rx rv h;obtain⟨l,b,xs,zs,rfl,rfl,hH,hB,hz,q⟩:=h
 cases rx
 obtain⟨u,rfl,ru⟩:=rv.one
 cases ru
 obtain⟨z,its,n,r,hl,e⟩:=I.lstM hH;obtain⟨z2,its2,n2,r2,hl2,e2⟩:=I.lstM hB
 have hsz:its.toArray.size+its2.toArray.size<=sizeLine:=by rw[List.size_toArray,List.size_toArray];omega
 have hlong:¬ (!its.toArray.isEmpty&&Builtin.List.listTooLong (its.toArray.size+its2.toArray.size))=true:=by
  rw[Ac3 hsz,Bool.and_false];exact Bool.false_ne_true
 refine call_meets F.slot_list_extend ⟨_,e,rfl⟩ F.entry_list_extend (F.args_list_extend_2 _ _)
  (AutoSeq1.list_extend_list_list_0 l its.toArray n b its2.toArray n2 hlong (by rw[List.size_toArray];omega) (by omega)) ⟨e,e2,?_⟩
 refine⟨.non,_,I.lset (its':=its++its2) hH e (by simp) (r.append r2) ?_,rfl,q⟩
 rw[List.length_append];omega
def rPopAt:V->List V->Hp->VK->Prop:=fun x vs H Q=>∃l xs i k y,x=.ref l/\vs=[.int i]/\H l=some (.lst xs)/\-(2 ^ 63)<=i/\i<2 ^ 63/\seqIndex? i xs.length=some k/\xs[k]?=some y/\Q y (upd H l (.lst (xs.eraseIdx k)))
theorem Ac2:MtM X "list.pop" rPopAt:=by
 intro b s σ H x vs v us Q I f g h;obtain⟨l,xs,i,k,y,rfl,rfl,c,d,j,hk,o,q⟩:=h
 cases f
 obtain⟨u,rfl,m⟩:=g.one;obtain⟨t,rfl⟩:=m;obtain⟨z,p,n,r,hl,e⟩:=I.lstM c;obtain⟨w,hw,a⟩:=r.get o
 refine call_meets F.slot_list_pop ⟨_,e,rfl⟩ F.entry_list_pop (F.args_list_pop_2 _ _)
  (MeetsSeq.list_pop_at l _ n i t k w (fitsIndex_both d j) (by simp_all) (by simp_all) (by simp_all)) ⟨e,?_⟩
 refine⟨y,_,I.lset  c e ?_ (r.eraseIdx k) ?_,a,q⟩
 ·simp_all
 grind
def Bo4:R2:=fun x y H Q=>∃l b xs zs,x=.ref l/\y=.ref b/\H l=some (.lst xs)/\H b=some (.lst zs)/\xs.length+zs.length<=sizeLine/\∀p,H p=none->Q (.ref p) (upd H p (.lst (xs++zs)))
theorem Bn1:OpR X (binaryOp .Add) Bo4:=by
 intro d s σ H x y v u Q I k g h;obtain⟨l,b,xs,zs,rfl,rfl,i,j,hz,q⟩:=h
 cases k
 cases g
 obtain⟨z,c,n,r,hl,e⟩:=I.lstM i;obtain⟨z2,a,n2,o,m,p⟩:=I.lstM j
 refine PySem.P.add_list e p ?_ (by grind)
 have f:c.toArray++a.toArray=(c++a).toArray:=by simp
 rw[f]
 exact⟨.ref _,_,I.lnew  (r.append o) (by simp_all),rfl,q _ I.fresh⟩
def A8m:R2:=fun x y H Q=>∃l k xs,x=.ref l/\y=.int k/\H l=some (.lst xs)/\-(2 ^ 63)<=k/\k<2 ^ 63/\xs.length*k.toNat<=sizeLine /\
 ∀p,H p=none->Q (.ref p) (upd H p (.lst (List.replicate k.toNat xs).flatten))
theorem len_rep {a:Type}(xs:List a)(k:Nat):(List.replicate k xs).flatten.length=k*xs.length:=by
 simp_all
theorem Bf3:OpR X (binaryOp .Mult) A8m:=by
 intro p s σ H x y v u Q I A B h;obtain⟨l,k,xs,rfl,rfl,C,w,D,hz,q⟩:=h
 cases A
 obtain⟨t,rfl⟩:=B;obtain⟨z,b,n,r,hl,e⟩:=I.lstM C
 have i:b.toArray.size*k.toNat<=sizeLine:=by simp_all
 have f:¬ b.toArray.size*k.toNat>(2 ^ 63-1) / 8:=by
  have:(sizeLine:Nat)<=(2 ^ 63-1) / 8:=by decide
  omega
 have d:¬ (!Builtin.List.listFitsIndex k)=true:=by
  rw[fitsIndex_both w D]
  grind
 have c:¬ Builtin.List.listTooLong (b.toArray.size*k.toNat)=true:=by
  rw[Ac3 i]
  trivial
 have g:List.foldl (fun j o=>j++o) #[] (List.replicate (if b.toArray.isEmpty=true then 0 else k.toNat) b.toArray)=(List.replicate k.toNat b).flatten.toArray:=by
  have E:∀m:Nat,List.foldl (fun j o=>j++o) #[] (List.replicate m b.toArray)=(List.replicate m b).flatten.toArray:=fun m=>by
   have:=foldl_rep b m []
   simp_all
  rw[E]
  cases b with
  | nil=>simp
  | cons a r'=>rfl
 refine wpAny_binaryOp_repeat_ref   (by rfl) ⟨_,e,rfl⟩ (fun s'=>typeIs_int _ k t) noFill_list_mul F.fills_int_mul F.slot_int_rmul repeat_list F.slot_int_index.lookup
  (call_meets F.slot_int_rmul (typeIs_int s k t) F.entry_int_rmul (F.args_int_rmul_2 _ _) (int___rmul___int_list k t l _ n)
   ⟨e,rfl,⟨_,e,rfl⟩,call_meets F.slot_list_mul ⟨_,e,rfl⟩ F.entry_list_mul (F.args_list_mul_2 _ _) (AutoListH.list___mul___list_int_3 l _ n k t d f c) ⟨e,?_⟩⟩)
 rw[g]
 exact⟨.ref _,_,I.lnew  (r.rep _) (by rw[len_rep];grind),rfl,q _ I.fresh⟩
end
section
variable {κ:Type}[DecidableEq κ]
def Oo (kvs:List (κ×V))(k:κ):Option V:=(kvs.find? fun kv=>decide (kv.1=k)).map (·.2)
def putK (kvs:List (κ×V))(k:κ)(v:V):List (κ×V) :=
 if (kvs.any fun kv=>decide (kv.1=k))=true then kvs.map (fun kv=>if kv.1=k then (kv.1,v) else kv) else kvs++[(k,v)]
theorem Z4 {p:κ×V}   (e:p.1=k):Oo (p::r) k=some p.2:=by simp[Oo,e]
theorem U7 {p:κ×V}   (e:¬ p.1=k):Oo (p::r) k=Oo r k:=by simp[Oo,e]
theorem KV.any   (r:KV a vs) (k:κ):(a.any fun b=>decide (b.1=k))=vs.any fun b=>decide (b.1=k):=by
 induction r with
 | nil=>rfl
 | cons h t c=>simp_all
end
theorem Bn6 {A:Around}(hu:A.units+9<cLine):A.in1.units+8<cLine:=Nat.lt_of_le_of_lt (Nat.le_of_eq (rfl)) hu
abbrev KT (H:Hp):List (PyData×V)->List (PyData×Addr×Value)->Prop:=Paired fun p q=>p.1=q.1/\KAt H p.1 q.2.1/\RelV p.2 q.2.2
theorem KT.val    (r:KT H a xs) (k:PyData):Ba8 (Oo a k) ((atKey xs k).map (·.2)):=by
 induction r with
 | nil=>trivial
 | @cons p q j c h t i =>
  obtain⟨d,_,g⟩:=h
  by_cases e:p.1=k
  ·have b:atKey (q::c) k=some q.2:=by simp[atKey,(d.symm.trans e)]
   rw[Z4 e,b];exact g
  ·have f:¬ q.1=k:=fun z=>e (d.trans z)
   have b:atKey (q::c) k=atKey c k:=by simp[atKey,f]
   rw[U7 e];grind
theorem KT.keeps    (r:KT H a xs) (ht:∀b ys,H b=some (.tup ys)->H' b=some (.tup ys)):KT H' a xs :=
 Paired.mapP r fun _ _ z=>⟨z.1,z.2.1.stay ht,z.2.2⟩
section
variable {P:Program}{w:World}{H:Hp}{h:Heap}{a:Addr}
theorem Gi  (b:HOk P w H h) (e:Rd H a u):z9 P w H h a u:=e.ok b
theorem Bn7  (c:HOk P w H h) (e:Rd H a (.dK b)):b.length<=sizeLine/\(a==sysModules)=false/\∃vs,KV b vs/\h.DictOf (En P w) a vs :=
 show z9 P w H h a _ from Gi c e
mutual
theorem V3 (ok:HOk P w H h):∀{d:PyData}{v:V}{u:Value},KTr H d v->RelV v u->∃as,Reads h u d as
 | .none,_,u=>fun e r=>by
  cases (show _=V.non from e)
  cases (show u=Value.none from r)
  exact⟨_,.none⟩
 | .int i,_,u=>fun e r=>by
  cases (show _=V.int i from e)
  obtain⟨t,rfl⟩:=r;exact⟨_,.int i t⟩
 | .str x,_,u=>fun e r=>by
  cases (show _=V.str x from e)
  obtain⟨t,rfl⟩:=r;exact⟨_,.str x t⟩
 | .tuple ds,_,u=>fun e r=>by
  obtain⟨a,vs,rfl,ha,t⟩:=e
  cases (show u=Value.ref a from r)
  obtain⟨z,its,rv,o,e,c,⟨n,dt⟩,_⟩:=ok a _ ha;obtain⟨as,q⟩:=Tz ok t rv
  exact⟨_,.tuple e c dt (by simpa using q)⟩
 | .bool _,_,_=>fun e _=>False.elim e
 | .list _,_,_=>fun e _=>False.elim e
 | .dict _,_,_=>fun e _=>False.elim e
theorem Tz (ok:HOk P w H h):∀{ds:List PyData}{vs:List V}{us:List Value},KTrL H ds vs->Vals vs us->∃as,ReadsAll h us ds as
 | [],_,us=>fun e r=>by
  cases (show _=[] from e)
  cases r
  exact⟨_,.nil⟩
 | d::ds,_,us=>fun e r=>by
  obtain⟨v,vs,rfl,hv,t⟩:=e
  cases r with
  | cons r1 r2 =>
   obtain⟨as,q⟩:=V3 ok hv r1;obtain⟨bs,p⟩:=Tz ok t r2;exact⟨_,.cons q p⟩
end
theorem A0l  (b:HOk P w H h) (e:KAt H k a):(Ey P w).is h k a:=⟨e.1,V3 b e.2 (show RelV _ _ from rfl)⟩
theorem A9s  (f:HOk P w H h) (e:Rd H a (.dT b)):b.length<=sizeLine/\(a==sysModules)=false /\
 ∃c,KT H b c/\h.DictOfH (Ey P w) a c:=by
 obtain⟨z,y,c,r,o,v,i,j,k,g,s,u⟩:=(show z9 P w H h a _ from Gi f e)
 refine⟨z,y,c,r,o,v,i,j,k,g,s,fun x d=>?_,u⟩
 have n:∀{l:List _} {m:List _},KT H l m->∀x∈m,(Ey P w).is h x.1 x.2.1:=by
  intro l m q
  induction q with
  | nil=>simp_all
  | @cons p q B C D t A =>
   intro x d
   rcases List.mem_cons.mp d with e | d
   ·exact A0l f (by grind)
   grind
 grind
theorem Bs5  (c:HOk P w H h) (e:H a=some (.dT b)):b.length<=sizeLine/\(a==sysModules)=false /\
 ∃xs,KT H b xs/\h.DictOfH (Ey P w) a xs:=A9s c (.inl e)
end
section
variable {X:Cx}{pins:List (Addr×Obj)}{σ:St}{H:Hp}{s:Shared}{a:Addr}{y v:V}{u r:Value}{o:Option V}{A:Around}{E:Value->Shared->Prop}
theorem Inv.big (I:Inv X pins σ H s):sysModules<s.heap.objs.size:=by
 exact Nat.lt_trans (by decide) ((I.mod.glob.keeps I.bk).lt)
theorem An9    (I:Inv X pins σ H s) (e:Mut (H a)) (hs:Heap.SameBut a s.heap h') (he:∃q,h'.get? a=some q) (c:z9 X.prog X.w (upd H a ob) h' a ob) :
 Inv X pins σ (upd H a ob) { s with heap:=h',toks:=t' } :=
 I.write   e (.inl rfl) (fun b q d z=>(hs.2 b d).trans z) he c
end
theorem A2x    (h:Heap) (hb:sysModules<h.objs.size):z9 P w H (h.push { cls:=.type "dict",data:=.dict #[] }) h.objs.size (.dT []) :=
 ⟨Nat.zero_le _,beq_eq_false_iff_ne.mpr (Ne.symm (Nat.ne_of_lt hb)),[],.nil,_,#[],0,Heap.get?_push_size _ rfl,⟨rfl,rfl,rfl⟩,rfl,rfl,List.nodup_nil⟩
def Ak2:TE:=fun _ H Q=>∀p,H p=none->Q (.ref p) (upd H p (.dT []))
section
variable {X:Cx}{pos:Pos}
theorem A4a:PE X (.Dict [] [] pos) Ak2:=fun a s b H Q I h =>
 wpAny_Dict_empty ⟨.ref _,_,I.laid    (fun _ _ q=>Heap.get?_push_of_some _ q) (Nat.le_refl _) (A2x _ I.big),rfl,h _ (I.hok.fresh (Nat.le_refl _))⟩
end
structure M2 (X:Cx) (o:Expr) (m:Str) (apos:Pos) (e f:Expr) (cpos:Pos):Prop where
 base:attributeBase o m X.env (eval o X.env)=eval o X.env
 few:((backTo cpos (starEach [e,f] X.env)).all (fun x=>!x.1)&&(backToKw cpos (keywordEach [] X.env)).all (fun x=>x.1.isSome)
  && decide (([e,f]:List Expr).length+([]:List Keyword).length+(if ([]:List Keyword).isEmpty then 0 else 1)<30))=true
 line:(apos.endLine==cpos.line)=true
 trees:backTo cpos (starEach [e,f] X.env)=[(false,eval e X.env),(false,eval f X.env)]
def IsD (H:Hp)(a:Addr):Prop:=(∃kvs,Rd H a (.dK kvs))\/∃kvs,Rd H a (.dT kvs)
theorem A0v       (I:Inv X pins k H s) (d:IsD H a) :
 s.TypeIs (.ref a) "dict" /\ (∀b,Value.ref a=.ref b->∃c,s.heap.get? b=some c/\c.dict=none)/\(a==sysModules)=false:=by
 rcases d with ⟨g,e⟩ | ⟨g,e⟩
 ·obtain⟨_,h,m,_,f⟩:=Bn7 I.hok e
  refine⟨f.typeIs,fun b q=>?_,h⟩
  cases q
  obtain⟨c,_,_,i,j,_⟩:=f;exact⟨c,i,j.2.1⟩
 ·obtain⟨_,h,l,_,f⟩:=A9s I.hok e
  refine⟨f.typeIs,fun b q=>?_,h⟩
  cases q
  obtain⟨c,_,_,i,j,_⟩:=f;exact⟨c,i,j.2.1⟩
end L2
namespace Att
open PySem PySem.W PySem.Calls PyProof.Rows
theorem Rp   : ∀(ns:List Int) (vs:List Value),WellAll P h vs (ns.map WData.int)->IntsAre vs ns:=by
 intro ns
 induction ns with
 | nil =>
  intro vs w
  cases w
  exact .nil
 | cons n ns c =>
  intro vs w
  cases w with
  | cons a b =>
   cases a
   exact .cons _ _ (c _ b)
theorem Aw1 {l:OpenLaw}  (hn:l.most=some n)    
 (hpre:l.row.toRowW.claim.pre args=true) (hwl:WellAll P h vals args) :
 ∃a vs ns,vals=[Value.ref a]/\args=[WData.list (ns.map WData.int)]/\h.get? a=some { cls:=.type "list",data:=.seq vs.toArray }/\IntsAre vs ns/\ns.length<=n:=by
 have hsh:WShape.hasAll [] args [.list .int]=true:=(pre_splitW hpre).1;have hc:l.pre.holds [] { args:=args }=true:=(pre_splitW hpre).2;obtain⟨d,r,rfl,h1,h2⟩:=hasAllW_cons hsh;obtain rfl:=hasAllW_nil h2;obtain⟨xs,rfl,h3⟩:=hasW_list h1;obtain⟨ns,rfl⟩:=items_int h3
 have hlen:ns.length<=n:=by
  unfold OpenLaw.pre at hc
  have h4:(WTm.not (.lt (.lit (.int (n:Int))) (.len (.arg 0)))).holds [] { args:=[.list (ns.map .int)] }=true:=by
   have h4:=(holds_andW hc).1;rw[hn]at h4;exact h4
  have h5:=condW_of h4 (w_not (w_lt w_lit (w_len_list (w_arg rfl))));rw[List.length_map]at h5
  refine Nat.le_of_not_lt fun q=>?_
  have q':(n:Int)<((ns.length:Nat):Int):=by omega
  first
   | (rw[decide_eq_true q']at h5;exact absurd h5 (by decide))
   | (simp at h5;omega)
 cases hwl with
 | cons w1 w2 =>
  cases w2
  cases w1 with
  | list ho hall=>exact⟨_,_,ns,rfl,rfl,ho,Rp ns _ hall,hlen⟩
theorem As4 (l:OpenLaw)(args:List WData):l.row.toRowW.claim.post args (.bool true) args=true :=
 postW_of  
  (show WShape.has _ _ _=true by rfl)
  (show (WTm.eq _ _).value _ _=some _ from w_eq_bool (w_res rfl) w_lit) rfl
theorem Aa4 {l:OpenLaw}      
 (hn:l.most=some n) (t:d.params.defaults=[])
 (i:∀(w:World) (c b:Shared) (mg B:Str->Option Value) (fa:Addr) (o:Obj) (z v h:Value) (a:Addr) (vs:List Value) (ns:List Int),
  Ground q loose [] XP w c mg B b.heap->YP w b.heap ->
  b.heap.get? fa=some o->o.data=.func (docDef d.name d.params d.body d.scope z v h)->b.heap.CodeRec v d.name->mg d.name=some (.ref fa) ->
  b.heap.get? a=some { cls:=.type "list",data:=.seq vs.toArray }->IntsAre vs ns->ns.length<=n->b.gens=#[] ->
  codeAny (model l.prog w) callerA (.call (.ref fa) ⟨[.ref a],[]⟩) (fun r s'=>r=.ok (.ret (.bool true))/\OldK b.heap s'.heap/\s'.os=b.os/\AllBare s'.gens) b) :
 WalkO q loose XP YP l.row.toRowW d [] (fun f vs=>PySem.call f vs):=by
 intro w c b mg B G Y fa o z v h M H J K u C m D x A as g y F p I;obtain rfl:M=.none:=Dflts.none C t;obtain rfl:H=.none:=Dflts.noKw C;obtain⟨a,vs,ns,rfl,rfl,j,e,k⟩:=Aw1 hn g p
 refine enter_call (codeAny_mono (i w _ _ _ _ _ o _ _ _ a _ _ G Y J (fd_plain K) u m j e k D) fun r s' N=>?_)
 obtain⟨rfl,L,O,P⟩:=N
 exact⟨.inl ⟨.bool _,.bool _,[],rfl,fun _=>rfl,.bool _,As4 l _,fun _=>⟨List.Pairwise.nil,fun _ E=>nomatch E⟩⟩,L,O,P⟩
end Att
namespace L2
open PySem PySem.Spec PyProof.Rows
theorem Wv:∀{vs:List Value}{ns:List Int},IntsAre vs ns->Vals (ns.map V.int) vs
 | _,_,.nil=>.nil
 | _,_,.cons n t h=>.cons ⟨t,rfl⟩ (Wv h)
def Kc (s:Stmt):Arguments:=match s with
 | .FunctionDef _ a _ _ _ _ _ _ _ _=>a
 | _=>{ posonlyargs:=[],args:=[],vararg:=none,kwonlyargs:=[],kw_defaults:=[],kwarg:=none,defaults:=[] }
def Ds (s:Stmt):List Stmt:=match s with
 | .FunctionDef _ _ b _ _ _ _ _ _ _=>b
 | _=>[]
def Ao (s:Stmt):Scope:=match s with
 | .FunctionDef _ _ _ _ _ _ sc _ _ _=>sc
 | _=>{ kind:=.function,names:=[],isGenerator:=false,isCoroutine:=false }
abbrev CX0:CXT:=fun _ _ _ _ _ _=>False
abbrev E0:XK:=fun _ _ _=>False
theorem Br4  : Li CX0 X E0:=fun _ _ _ _ _ _ _ h=>h.elim
structure Fun (K:PySem.W.Frag) (x qual:Str) (st:Stmt) (f:Addr) (fd:FuncData):Prop where
 ex:∃(oc:Value) (od:Option Addr) (kV doc pm:Value) (an:Option Addr) (cdv ct:Value) (osl:Array (Option Value)),
  fd=PySem.W.fnOf x qual (Kc st) (Ds st) (Ao st) .none kV doc pm an cdv ct/\K.lookup f=some ⟨oc,od,.func fd,osl⟩/\PySem.W.codeIn K cdv qual=true
 kp:PySem.W.keepIn K (.ref f)=true
section
variable {P:Program}{w:World}{K:PySem.W.Frag}{mg:Str->Option Value}{base:Heap}
theorem Fun.ok  {st:Stmt}      (F:Fun K x qual st f i) (S:Ce N ps (Ao st)) (g:∀vs H Q E,sp vs H Q E->vs.length=ps.length)
 (b:∀(c:Value) (A:Around) (a:List Env) (s:Shared) (H:Hp) (vs:List V) (Q:VK) (E:XK),Room k (A.deeper (envOfC qual (Ao st) s.heap.objs.size f c))->sp vs H Q E ->
  ∃t,PSs (Iv CX0 P w K mg base N qual (Ao st) f c A a s H E).nox (Ds st) t/\t { nx:=fun _ H'=>Q .non H',rt:=Q } (start N vs) H):FnOk P w K mg base CX0 (k+1) f i ps sp:=by
 obtain⟨oc,od,kV,l,pm,an,c,ct,j,rfl,m,e⟩:=F.ex
 refine A2z m e S g fun A a s H vs Q E n d=>?_
 obtain⟨t,h,q⟩:=b _ A _ s H _ Q E n d;exact⟨t,h.nox,q⟩
theorem Fun.binds  {st:Stmt}    (F:Fun K x qual st f d)
 (h:∀(i b e:Value) (g:Option Addr) (a c:Value) (us:List Value),us.length=ps.length->bindArgs (PySem.W.fnOf x qual (Kc st) (Ds st) (Ao st) .none i b e g a c) ⟨us,[]⟩=pure (ps.zip us)):Binds K d ps []:=by
 obtain⟨oc,od,i,b,e,g,a,c,k,rfl,lk,j⟩:=F.ex;exact .all (h _ _ _ _ _ _)
end
section
variable {X:Cx}
theorem pv (i:Nat)  {a:Pos}(hN:X.N[i]?=some x:=by rfl) (hv:Vis X.env.scope x:=by first | exact Or.inl rfl | exact Or.inr (Or.inl rfl) | exact Or.inr (Or.inr rfl)) (hd:(x==("__debug__" : Str))=false:=by decide)
 (hcd:(x==("__classdict__" : Str))=false:=by decide):PE X (.Name x a) (Aj5 i):=Yt hN hv hd hcd
end
def Same (H H':Hp):Prop:=∀b o,H b=some o->H' b=some o
theorem Same.refl (H:Hp):Same H H:=fun _ _ h=>h
theorem Same.trans  (a:Same H e) (b:Same e d):Same H d:=fun c o h=>b c o (a c o h)
theorem Same.free  (e:Same H H')  (h:H' l=Option.none):H l=Option.none:=by
 cases q:H l with
 | none=>rfl
 | some o =>
  rw[e l o q]at h
  grind
theorem Same.seq {K:PySem.W.Frag}    (e:Same H H') (h:SqL K H a xs):SqL K H' a xs:=by
 rcases h with (h | ⟨o,h⟩) | h
 ·exact .inl (.inl (e _ _ h))
 ·exact .inl (.inr ⟨o,e _ _ h⟩)
 ·exact .inr h
end L2
set_option maxHeartbeats 4000000
namespace L2
open PySem PySem.Spec PyProof.Rows
abbrev Hq (X:Cx)(N':List Str)(scope:Scope)(cl:List (Str×Addr))(C:Addr)(s₀:Shared)(H₀:Hp)(ex:List Addr):Cx :=
 { X with N:=N',env:=compEnvC scope cl C X.env,s₀:=s₀,H₀:=H₀,outer:=X.stack,stack:=X.stack,ex:=ex,fn:=fun x=>decide (scope.names.lookup x=some .local\/scope.names.lookup x=some .cell),pn:=[],xe:=fun _ _=>False }
def cst (idx:List (Option Nat))(σ:St):St:=idx.map fun o=>o.bind fun i=>(σ[i]?).join
structure Ke (X:Cx) (N':List Str) (idx:List (Option Nat)) (scope:Scope):Prop where
 kind:scope.kind=.function
 nod:(scope.names.map (·.1)).Nodup
 free:∀y∈scope.names,y.2=.free->X.env.kindOf y.1=some .cell\/X.env.kindOf y.1=some .free
 len:idx.length=N'.length
 at':∀(j i:Nat) (x:Str),N'[j]?=some x->idx[j]?=some (some i)->X.N[i]?=some x/\scope.names.lookup x=some .free
structure Uo (X:Cx) (N':List Str) (idx:List (Option Nat)) (scope:Scope):Prop extends Ke X N' idx scope where
 cell:∀y∈scope.names,y.2≠.cell
theorem Jj (env:Env):∀(names:List (Str×NameKind)) (acc:List (Str×Addr)),(∀y∈names,y.2=.free->∃c,env.cells.lookup y.1=some c) ->
 ∃
  cl,(forIn names acc fun (p:Str×NameKind) (r:List (Str×Addr))=>(if (p.2==NameKind.free)=true then (do let c <- cellOf env p.1;pure (ForInStep.yield ((p.1,c)::r))) else pure (ForInStep.yield r):Sem (ForInStep (List (Str×Addr)))))=(pure cl:Sem (List (Str×Addr))) /\
  (∀x c,cl.lookup x=some c->acc.lookup x=some c\/(env.cells.lookup x=some c/\(x,NameKind.free)∈names))/\(∀x,((∃c,acc.lookup x=some c)\/(x,NameKind.free)∈names)->∃c,cl.lookup x=some c)
 | [],acc,_=>⟨acc,rfl,fun x c e=>.inl e,fun x h=>by
  rcases h with h | h
  ·exact h
  ·simp at h⟩
 | (n,k)::r,acc,h=>by
  by_cases hk:k=NameKind.free
  ·subst hk
   obtain⟨c,hc⟩:=h (n,.free) (by simp) rfl
   obtain⟨cl,e,a,b⟩:=Jj env r ((n,c)::acc) fun y hy=>h y (List.mem_cons_of_mem _ hy)
   refine⟨cl,?_,fun x c' e'=>?_,fun x hx=>?_⟩
   ·rw[List.forIn_cons]
    simp only[cellOf,hc];exact e
   ·rcases a x c' e' with z | ⟨z1,z2⟩
    ·rw[List.lookup_cons]at z
     split at z
     ·rename_i hxe
      have:x=n:=by simpa using hxe
      subst this
      cases z
      exact .inr ⟨hc,by simp⟩
     ·exact .inl z
    ·exact .inr ⟨z1,List.mem_cons_of_mem _ z2⟩
   ·refine b x ?_
    rcases hx with ⟨c',z⟩ | z
    ·left
     rw[List.lookup_cons]
     split
     ·exact⟨_,rfl⟩
     ·exact⟨_,z⟩
    ·rcases List.mem_cons.mp z with z | z
     ·left
      cases z
      exact⟨c,by simp⟩
     ·exact .inr z
  ·obtain⟨cl,e,a,b⟩:=Jj env r acc fun y hy=>h y (List.mem_cons_of_mem _ hy)
   refine⟨cl,?_,fun x c' e'=>?_,fun x hx=>?_⟩
   ·rw[List.forIn_cons]
    have:(k==NameKind.free)=false:=by cases k <;> first | rfl | exact absurd rfl hk
    simp only[this];exact e
   ·rcases a x c' e' with z | ⟨z1,z2⟩
    ·exact .inl z
    ·exact .inr ⟨z1,List.mem_cons_of_mem _ z2⟩
   ·refine b x ?_
    rcases hx with z | z
    ·exact .inl z
    ·rcases List.mem_cons.mp z with z | z
     ·cases z;exact absurd rfl hk
     ·exact .inr z
theorem U9   (h:∀y∈scope.names,y.2=.free->∃c,env.cells.lookup y.1=some c) :
 ∃d,closureFor scope env=pure d/\(∀x c,d.lookup x=some c->env.cells.lookup x=some c/\(x,NameKind.free)∈scope.names)/\(∀x,(x,NameKind.free)∈scope.names->∃c,d.lookup x=some c):=by
 obtain⟨d,e,a,b⟩:=Jj _ _ [] h
 refine⟨d,?_,fun x c g=>?_,fun x f=>b x (.inr f)⟩
 ·unfold closureFor
  grind
 simp_all
abbrev A7o (ifs:List Expr)(env:Env):Sem Bool:=forIn ifs true fun c r=>if r=true then do let ok <- isTrue c env (eval c env);pure (ForInStep.yield ok) else pure (ForInStep.yield r)
def Bi5 (M:Model)(A:Around)(E:Value->Shared->Prop)(tg elt:Expr)(ifs:List Expr)(env:Env)(it acc v:Value)(Z:Shared->Prop)(s:Shared):Prop :=
 wpAny M A (letOwnedTupleGo tg it v) (fun _ a=>wpAny M A (assign tg env v) (fun _ b=>wpAny M A (A7o ifs env) (fun ok c=>match ok with
  | true=>wpAny M A (eval elt env) (fun x d=>wpAny M A (call (.builtin "list.append") [acc,x]) (fun _ z=>Z z) E d) E c
  | false=>Z c) E b) E a) E s
theorem A7x            (C:E=notedBy (model P w) A env fun x z=>R (.error x) z) (Wd:Nat->Shared->Prop)
 (step:∀n z,Wd n z->wpAny (model P w) A (pyNext it) (fun r a=>match r with
  | none=>R (.ok .next) a
  | some v=>Bi5 (model P w) A E o i j env it acc v (fun y=>∃m,m<n/\Wd m y) a) E z) (n:Nat)  (h:Wd n s) :
 codeAny (model P w) A (.compLoop (.ListComp i [⟨o,f,j,0⟩] p l) 0 it acc env) R s:=by
 subst C
 refine codeAny_loop (I:=Wd) rfl (turn:=?_) n h
 intro k z G
 show wpAny (model P w) A (Sem.onRaise (compTurn (.ListComp i [⟨o,f,j,0⟩] p l) 0 it acc env) fun x=>do noteFrame x env;theTreesLotGoes x) _ _ z
 apply wpAny_noted;rw[compTurn_list];apply wpAny_bind;apply wpAny_standAt;apply wpAny_bind
 refine wpAny_mono (step k z G) ?_ fun _ _ q=>q
 rintro (_ | v) a u
 ·exact wpAny_pure u
 apply wpAny_bind
 refine wpAny_mono u ?_ fun _ _ q=>q
 intro _ b D;apply wpAny_bind
 refine wpAny_mono D ?_ fun _ _ q=>q
 intro _ c F;apply wpAny_bind
 refine wpAny_mono F ?_ fun _ _ q=>q
 rintro (_ | _) d t
 ·exact wpAny_pure (And.intro rfl t)
 apply wpAny_bind;apply wpAny_bind
 refine wpAny_mono t ?_ fun _ _ q=>q
 intro y e H;apply wpAny_bind
 refine wpAny_mono H ?_ fun _ _ q=>q
 intro _ g B;exact wpAny_pure (wpAny_pure (And.intro rfl B))
def PTs (X:Cx)(ifs:List Expr)(t:TT):Prop :=
 ∀
  (pins:List (Addr×Obj)) (s:Shared) (σ:St) (H:Hp) (Q:Bool->Hp->Prop),Inv X pins σ H s->t σ H Q ->
  wpAny (model X.prog X.w) X.A (forIn ifs true fun c r=>if r=true then do let ok <- isTrue c X.env (eval c X.env);pure (ForInStep.yield ok) else pure (ForInStep.yield r)) (TP X pins σ Q) X.xe s
def Ba0:TT:=fun _ H Q=>Q true H
theorem A8n  : PTs X [] Ba0:=fun _ _ _ H _ I h=>wpAny_tests_nil ⟨H,I,h⟩
theorem A6p    (h:PT X c t):PTs X [c] t:=fun a s b H Q I q=>wpAny_tests_one (h _ s _ H Q I q)
def tLC (idx:List (Option Nat))(wi:TI)(g:TG)(tc:TT)(te:TE):TE:=fun σ H Q=>wi σ H fun J H1 =>
 ∃
  W:Nat->Nat->St->List V->Hp->Prop,(∃m,W 0 m (cst idx σ) [] H1)/\∀i m σ' acc H,W i m σ' acc H ->
  (J.stop i H/\∀p,H p=none->Q (.ref p) (upd H p (.lst acc))) \/
  (J.go i H/\acc.length<sizeLine/\∃N:St->List V->Hp->Prop,(∀σ' acc' H',N σ' acc' H'->∃m',m'<m/\W (i+1) m' σ' acc' H')/\∀x H',J.yld i H x H'->g x σ' H' fun σ2 H2=>tc σ2 H2 fun b H3 =>
   if b=true then te σ2 H3 fun y H4=>N σ2 (acc++[y]) H4 else N σ2 acc H3)
theorem HOk.track       (x:HOk P w H h) (hn:H a=none) (f:z9 P w (upd H a o) h a o):HOk P w (upd H a o) h:=fun b u e=>by
 by_cases hb:b=a
 ·subst hb;rw[Be]at e;simp_all
 ·rw[Ak hb]at e
  exact(x b u e).stay (fun c v _ q=>q) fun c q=>by rw[Ak (Bv q hn)];grind fun c d q=>by rw[Ak (Bv q hn)];grind fun c g d q=>by rw[Ak (Bv q hn)];grind
theorem Hr {env:Env}:∀{names:List (Str×NameKind)}{x:Str},names.lookup x=some .free ->
 (names.map fun (n,k)=>if (k==NameKind.free&&env.scope.kind==.function&&env.kindOf n==some .cell) then (n,NameKind.cell) else (n,k)).lookup x=some .free \/
 (names.map fun (n,k)=>if (k==NameKind.free&&env.scope.kind==.function&&env.kindOf n==some .cell) then (n,NameKind.cell) else (n,k)).lookup x=some .cell
 | [],_,h=>by simp at h
 | (n,k)::r,x,h=>by
  have ih:=@Hr env r x;simp only[List.map_cons]
  cases hx:x==n with
  | true =>
   simp only[List.lookup_cons,hx]at h
   cases h
   split
   ·right;simp[List.lookup_cons,hx]
   ·left;simp[List.lookup_cons,hx]
  | false =>
   simp only[List.lookup_cons,hx]at h
   split
   ·simp only[List.lookup_cons,hx];exact ih h
   ·simp only[List.lookup_cons,hx];exact ih h
theorem J6 {env:Env}:∀{names:List (Str×NameKind)}{x:Str}{k:NameKind},
 (names.map fun (n,k)=>if (k==NameKind.free&&env.scope.kind==.function&&env.kindOf n==some .cell) then (n,NameKind.cell) else (n,k)).lookup x=some k ->
 names.lookup x=some k\/(k=.cell/\names.lookup x=some .free)
 | [],_,_,h=>by simp at h
 | (n,k')::r,x,k,h=>by
  have ih:=@J6 env r x k;simp only[List.map_cons]at h
  cases hx:x==n with
  | true =>
   by_cases hc:(k'==NameKind.free&&env.scope.kind==.function&&env.kindOf n==some .cell)=true
   ·rw[if_pos hc]at h
    simp only[List.lookup_cons,hx]at h
    cases h
    right
    refine⟨rfl,?_⟩
    simp only[List.lookup_cons,hx]
    have:k'=.free:=by
     simp only[Bool.and_eq_true]at hc;exact eq_of_beq hc.1.1
    rw[this]
   ·rw[if_neg hc]at h
    simp only[List.lookup_cons,hx]at h ⊢;exact .inl h
  | false =>
   simp only[List.lookup_cons,hx]
   refine ih ?_
   by_cases hc:(k'==NameKind.free&&env.scope.kind==.function&&env.kindOf n==some .cell)=true
   ·rw[if_pos hc]at h;simpa only[List.lookup_cons,hx] using h
   ·rw[if_neg hc]at h;simpa only[List.lookup_cons,hx] using h
theorem lookup_mem {α:Type}:∀{l:List (Str×α)}{x:Str}{k:α},l.lookup x=some k->(x,k)∈l
 | [],_,_,h=>by simp at h
 | (n,k')::r,x,k,h=>by
  rw[List.lookup_cons]at h
  split at h
  ·rename_i e
   have:x=n:=by simpa using e
   subst this
   cases h
   simp
  ·exact List.mem_cons_of_mem _ (lookup_mem h)
theorem mem_lookup {α:Type}:∀{l:List (Str×α)}{x:Str}{k:α},(l.map (·.1)).Nodup->(x,k)∈l->l.lookup x=some k
 | [],_,_,_,h=>by simp at h
 | (n,k')::r,x,k,hn,h=>by
  have hn:(n::r.map (·.1)).Nodup:=hn
  obtain⟨h1,h2⟩:=List.nodup_cons.mp hn
  rcases List.mem_cons.mp h with h | hr
  ·cases h;simp
  ·rw[List.lookup_cons]
   split
   ·rename_i e
    have:x=n:=by simpa using e
    subst this
    exact absurd (show x∈r.map (·.1) from List.mem_map.mpr ⟨(x,k),hr,rfl⟩) h1
   ·exact mem_lookup h2 hr
section
variable {X:Cx}{N':List Str}{idx:List (Option Nat)}{scope:Scope}
theorem A5z {pins:List (Addr×Obj)}{σ:St}{H:Hp}{s:Shared}{fp:List Addr}{cl:List (Str×Addr)}{C:Addr}(L:Ke X N' idx scope)(I:Inv X pins σ H s)(hf:∀b∈fp,Rj X pins H b)(hfs:∀b∈fp,b<s.heap.objs.size)
 (hC:s.heap.objs.size<=C) (c1:∀x c,cl.lookup x=some c->(X.env.cells.lookup x=some c/\(x,NameKind.free)∈scope.names)\/(s.heap.objs.size<=c/\(x,NameKind.cell)∈scope.names)) (c2:∀x,((x,NameKind.free)∈scope.names\/(x,NameKind.cell)∈scope.names)->∃c,cl.lookup x=some c) (c3:∀x y c,cl.lookup x=some c->cl.lookup y=some c->x=y) :
 (Hq X N' scope cl C s H fp).Ok where
 mod:=I.ok.mod
 kind:=L.kind
 glob:=I.ok.glob
 blt:=I.ok.blt
 above:=hC
 inj:=c3
 has:=fun x h=>by
  refine c2 x ?_
  have h':(relabel scope X.env).names.lookup x=some .cell\/(relabel scope X.env).names.lookup x=some .free:=h
  rcases h' with h | h
  ·rcases J6 h with z | ⟨_,z⟩
   ·exact .inr (lookup_mem z)
   ·exact .inl (lookup_mem z)
  ·rcases J6 h with z | ⟨z,_⟩
   ·exact .inl (lookup_mem z)
   ·cases z
 cab:=fun x c hx hc=>by
  have hx':scope.names.lookup x=some .local\/scope.names.lookup x=some .cell:=of_decide_eq_true hx
  rcases c1 x c hc with ⟨_,z⟩ | ⟨z,_⟩
  ·have z:=mem_lookup L.nod z
   rw[z]at hx'
   rcases hx' with hx' | hx' <;> cases hx'
  ·exact z
 hd:=I.ok.hd
 frames:=I.ok.frames
 stk:=.inl rfl
 exf
  := fun b hb=>⟨Nat.ne_of_lt (Nat.lt_of_lt_of_le (hfs b hb) hC),fun x c e=>by
  rcases c1 x c e with ⟨z,_⟩ | ⟨z,_⟩
  ·exact(hf b hb).2.2.2.2.1 x c z
  ·exact Nat.ne_of_gt (Nat.lt_of_lt_of_le (hfs b hb) z)⟩
 bs:=I.bs
 bsz:=Nat.le_trans I.ok.bsz I.sz
 noex:=fun b o e hb=>by
  rcases (hf b hb).2.2.2.1 with z | z
  ·exact I.ok.noex b o e z
  ·exact absurd (Nat.lt_of_lt_of_le (Heap.lt_size e) (Nat.le_trans I.ok.bsz z)) (Nat.lt_irrefl _)
 exfs:=fun b hb z=>by
  rcases List.mem_cons.mp (I.stkSub b z) with q | q
  ·exact(hf b hb).2.1 q
  ·exact(hf b hb).2.2.1 q
 funs:=I.stack
 frf:=I.stkFree
 tab:=fun p hp=>I.base.tbls p.1 p.2 (I.ok.tab p hp)
theorem A1h {pins:List (Addr×Obj)}{σ:St}{H:Hp}{s s':Shared}{fp:List Addr}{cl:List (Str×Addr)}{C:Addr}{m:Str->Option Value}(L:Ke X N' idx scope)(I:Inv X pins σ H s)(hf:∀b∈fp,Rj X pins H b)(hfs:∀b∈fp,b<s.heap.objs.size)
 (hC:s.heap.objs.size<=C) (c1:∀x c,cl.lookup x=some c->(X.env.cells.lookup x=some c/\(x,NameKind.free)∈scope.names)\/(s.heap.objs.size<=c/\(x,NameKind.cell)∈scope.names)) (c2:∀x,((x,NameKind.free)∈scope.names\/(x,NameKind.cell)∈scope.names)->∃c,cl.lookup x=some c) (c3:∀x y c,cl.lookup x=some c->cl.lookup y=some c->x=y) (c4:∀x c,cl.lookup x=some c->(x,NameKind.cell)∈scope.names->s'.heap.IsCell c none)
 (ho:s'.os=s.os) (hg:s'.gens=s.gens) (k:∀b o,s.heap.get? b=some o->s'.heap.get? b=some o) (hn:s'.heap.Ns C m):Inv (Hq X N' scope cl C s H fp) [] (cst idx σ) H s' where
 ok:=A5z L I hf hfs hC c1 c2 c3
 os:=ho
 bare:=by rw[hg];exact I.bare
 base:=Un.kept k
 loc:=by
  refine⟨m,hn,fun j x v e1 e2 e3=>?_⟩
  obtain⟨m0,hn0,hl⟩:=I.loc
  have e2':(idx.map fun o=>o.bind fun i=>(σ[i]?).join)[j]?=some (some v):=e2
  rw[List.getElem?_map]at e2'
  cases ei:idx[j]? with
  | none=>rw[ei]at e2';cases e2'
  | some o =>
   rw[ei]at e2';simp only[Option.map_some,Option.some.injEq]at e2'
   cases o with
   | none=>cases e2'
   | some i =>
    have e2'':(σ[i]?).join=some v:=e2';obtain⟨hNi,hfr⟩:=L.at' j i x e1 ei
    have hσ:σ[i]?=some (some v):=by
     cases q:σ[i]? with
     | none=>rw[q]at e2'';cases e2''
     | some z=>rw[q]at e2'';rw[show z=some v from e2'']
    have hk:=L.free _ (lookup_mem hfr) rfl
    have hvis:Vis X.env.scope x:=by
     rcases hk with z | z
     ·exact .inr (.inl z)
     ·exact .inr (.inr z)
    obtain⟨u,r,lk⟩:=hl i x v hNi hσ hvis
    refine⟨u,r,.inr ?_⟩
    rcases lk with ⟨z,_⟩ | ⟨_,c,hc,hcl⟩
    ·exfalso
     have z':X.env.kindOf x=some .local:=z
     rcases hk with q | q
     ·rw[show X.env.kindOf x=_ from q]at z';cases z'
     ·rw[show X.env.kindOf x=_ from q]at z';cases z'
    ·obtain⟨c',hc'⟩:=c2 x (.inl (lookup_mem hfr))
     have:c'=c:=by
      rcases c1 x c' hc' with ⟨q,_⟩ | ⟨_,q⟩
      ·rw[hc]at q;exact(Option.some.inj q).symm
      ·rw[mem_lookup L.nod q]at hfr;cases hfr
     subst this
     refine⟨?_,c',hc',let ⟨o,e,d⟩:=hcl; ⟨o,k _ o e,d⟩⟩
     rcases Hr (env:=X.env) hfr with q | q
     ·exact .inr q
     ·exact .inl q
 cell:=fun x c e=>by
  rcases c1 x c e with ⟨q,_⟩ | ⟨_,q⟩
  ·obtain⟨v,z⟩:=I.cell x c q
   exact⟨v,let ⟨o,e,d⟩:=z; ⟨o,k _ o e,d⟩⟩
  ·exact⟨none,c4 x c e q⟩
 free:=I.hok.fresh hC
 freeC:=fun x c e=>by
  rcases c1 x c e with ⟨q,_⟩ | ⟨q,_⟩
  ·exact I.freeC x c q
  ·exact I.hok.fresh q
 pin:=fun p hp=>by simp at hp
 hok:=I.hok.kept k
 len:=by
  show (idx.map _).length=N'.length
  rw[List.length_map];exact L.len
end
section
variable {X:Cx}{N':List Str}{idx:List (Option Nat)}{scope:Scope}{elt tg iter:Expr}{ifs:List Expr}{pos:Pos}{wi:TI}{g:TG}{tc:TT}{te:TE}
theorem Nh:∀(names:List (Str×NameKind)) (h:Heap) (acc:List (Str×Addr)),(∀x y c,acc.lookup x=some c->acc.lookup y=some c->x=y)->(∀x c,acc.lookup x=some c->c<h.objs.size) ->
 (∀x c,(cellsFrom h.objs.size names acc).lookup x=some c->acc.lookup x=some c\/(h.objs.size<=c/\(x,NameKind.cell)∈names/\(pushCells h names).IsCell c none)) /\
 (∀x,((∃c,acc.lookup x=some c)\/(x,NameKind.cell)∈names)->∃c,(cellsFrom h.objs.size names acc).lookup x=some c) /\
 (∀x y c,(cellsFrom h.objs.size names acc).lookup x=some c->(cellsFrom h.objs.size names acc).lookup y=some c->x=y)
 | [],h,acc,hi,hl=>by
  refine⟨fun x c e=>.inl e,fun x z=>?_,hi⟩
  rcases z with z | z
  ·exact z
  ·exact nomatch z
 | (n,k)::r,h,acc,hi,hl=>by
  unfold cellsFrom pushCells
  by_cases hk:(k==NameKind.cell)=true
  ·rw[if_pos hk,if_pos hk]
   have hk':k=.cell:=eq_of_beq hk;subst hk';have sz:(h.push { cls:=.type "cell",data:=.cell none }).objs.size=h.objs.size+1:=Heap.size_push ..
   have ih:=Nh r (h.push { cls:=.type "cell",data:=.cell none }) ((n,h.objs.size)::acc) (fun x y c e1 e2=>?_) (fun x c e=>?_)
   ·rw[sz]at ih
    obtain⟨i1,i2,i3⟩:=ih
    refine⟨fun x c e=>?_,fun x z=>?_,i3⟩
    ·rcases i1 x c e with q | ⟨q1,q2,q3⟩
     ·rw[List.lookup_cons]at q
      split at q
      ·rename_i hb
       cases q
       have:x=n:=eq_of_beq hb;subst this;exact .inr ⟨Nat.le_refl _,List.mem_cons_self,_,pushCells_keeps _ _ _ _ (Heap.get?_push_size _ rfl),rfl⟩
      ·exact .inl q
     ·exact .inr ⟨Nat.le_of_succ_le q1,List.mem_cons_of_mem _ q2,q3⟩
    ·refine i2 x ?_
     by_cases hx:x=n
     ·subst hx;exact .inl ⟨h.objs.size,by simp⟩
     ·rcases z with ⟨c,z⟩ | z
      ·exact .inl ⟨c,by rw[List.lookup_cons,beq_false_of_ne hx];exact z⟩
      ·rcases List.mem_cons.mp z with z | z
       ·cases z;exact absurd rfl hx
       ·exact .inr z
   ·rw[List.lookup_cons]at e1 e2
    split at e1
    ·rename_i hb1
     cases e1
     split at e2
     ·rename_i hb2
      exact(eq_of_beq hb1).trans (eq_of_beq hb2).symm
     ·exact absurd (hl _ _ e2) (Nat.lt_irrefl _)
    ·split at e2
     ·cases e2
      exact absurd (hl _ _ e1) (Nat.lt_irrefl _)
     ·exact hi x y c e1 e2
   ·rw[sz]
    rw[List.lookup_cons]at e
    split at e
    ·cases e;exact Nat.lt_succ_self _
    ·exact Nat.lt_succ_of_lt (hl x c e)
  ·rw[if_neg hk,if_neg hk]
   have ih:=Nh r h acc hi hl;obtain⟨i1,i2,i3⟩:=ih
   refine⟨fun x c e=>?_,fun x z=>i2 x ?_,i3⟩
   ·rcases i1 x c e with q | ⟨q1,q2,q3⟩
    ·exact .inl q
    ·exact .inr ⟨q1,List.mem_cons_of_mem _ q2,q3⟩
   ·rcases z with z | z
    ·exact .inl z
    ·rcases List.mem_cons.mp z with z | z
     ·cases z;exact absurd rfl hk
     ·exact .inr z
theorem A5i          
 (h:Q (newEnv scope s.heap.objs.size a (cellsFrom (s.heap.objs.size+1) scope.names d) qual none .none (some b) builtinsNs) { s with heap:=pushCells (s.heap.push { cls:=.type "dict",data:=.dict #[] }) scope.names }) :
 wpAny M A (newFunctionEnv scope a d [] qual none .none (some b)) Q E s:=by
 refine wpAny_bind (wpAny_alloc ?_)
 refine wpAny_bind (wpAny_layCells _ fun e f c=>by trivial _ _ _ _ ?_)
 rw[show ({ s with heap:=s.heap.push _ }:Shared).heap.objs.size=s.heap.objs.size+1 from Heap.size_push ..]
 exact wpAny_bind (wpAny_pure (wpAny_pure h))
theorem A3n         {K:List (Str×Addr)}  {RR:Value->Addr->Result->Shared->Prop}{F:List V->Hp->Prop}
 (L:Ke X N' idx scope) (hc:X.calm=true)
 (hg:∀K C s₀ H₀ ex,PG (Hq X N' scope K C s₀ H₀ ex) tg g) (ht:∀K C s₀ H₀ ex,PTs (Hq X N' scope K C s₀ H₀ ex) ifs tc) (he:∀K C s₀ H₀ ex,PE (Hq X N' scope K C s₀ H₀ ex) elt te)
 (c1:∀x c,K.lookup x=some c->X.env.cells.lookup x=some c/\(x,NameKind.free)∈scope.names) (c2:∀x,(x,NameKind.free)∈scope.names->∃c,K.lookup x=some c)
 (I2:Inv X pins σ R s2) (T:Turn X.prog X.w X.K tg J fp it tn) (st2:tn 0 s2.heap) (f2:∀b∈fp,Rj X pins R b) (W:Nat->Nat->St->List V->Hp->Prop) (w0:∃m,W 0 m (cst idx σ) [] R)
 (turn:∀i m t acc H,W i m t acc H->(J.stop i H/\F acc H) \/
  (J.go i H/\acc.length<sizeLine/\∃N:St->List V->Hp->Prop,(∀t acc' H',N t acc' H'->∃m',m'<m/\W (i+1) m' t acc' H')/\∀x H',J.yld i H x H'->g x t H' fun Z R=>tc Z R fun b H3 =>
   if b=true then te Z H3 fun y H4=>N Z (acc++[y]) H4 else N Z acc H3))
 (hR:∀(D C:Addr) (s':Shared) (acc:List V) (a:List Value) (n:Nat) (H':Hp) (m:Str->Option Value),s2.heap.objs.size<=D->s2.heap.objs.size<=C->D≠C->s'.heap.Ns C m->s'.heap.get? D=some { cls:=.type "list",data:=.seq a.toArray n }->Vals acc a->acc.length<=sizeLine ->
  H' D=none->H' C=none->s'.os=s2.os->AllBare s'.gens->Un (frs X.stack) fp R H' s2.heap s'.heap->HOk X.prog X.w H' s'.heap->F acc H'->RR (.ref D) C (.ok .next) s') :
 wpAny (model X.prog X.w) X.A (newList []) (fun acc B=>wpAny (model X.prog X.w) X.A (newFunctionEnv scope X.env.globals K [] X.env.qual none .none (some X.env)) (fun cenv s₄ =>
  codeAny (model X.prog X.w) X.A (.compStart (.ListComp elt [⟨tg,iter,ifs,0⟩] scope pos) 0 (.ref it) acc { cenv with scope:=relabel scope X.env }) (RR acc cenv.locals) s₄) E B) E s2:=by
 have U:∀b∈fp,b<s2.heap.objs.size:=fun b w=>let ⟨o,e,_⟩:=T.obj _ _ st2 b w; Heap.lt_size e
 refine wpAny_newObj_type (A5i ?_)
 dsimp only
 generalize hH2:s2.heap.push { cls:=.type "list",dict:=none,data:=.seq ([]:List Value).toArray }=G
 have hC:G.objs.size=s2.heap.objs.size+1:=by rw[<- hH2,Heap.size_push]
 have hDC:s2.heap.objs.size≠G.objs.size:=by rw[hC];exact Nat.ne_of_lt (Nat.lt_succ_self _)
 have A:s2.heap.objs.size<=G.objs.size:=by rw[hC];exact Nat.le_succ _
 obtain⟨j,l⟩:∃j,j=pushCells (G.push { cls:=.type "dict",data:=.dict #[] }) scope.names:=⟨_,rfl⟩;rw[<- l]
 have S:j.Ns G.objs.size (fun _=>none):=by rw[l];exact(Heap.Ns.new G (.type "dict")).keeps (pushCells_keeps _ _)
 have old:∀b o,s2.heap.get? b=some o->j.get? b=some o:=fun b o e=>by rw[l];exact pushCells_keeps _ _ b o (Heap.get?_push_of_some _ (hH2▸Heap.get?_push_of_some _ e))
 have hacc:j.get? s2.heap.objs.size=some { cls:=.type "list",dict:=none,data:=.seq ([]:List Value).toArray }:=by rw[l];exact pushCells_keeps _ _ _ _ (Heap.get?_push_of_some _ (hH2▸Heap.get?_push_size _ rfl))
 have szD:(G.push { cls:=.type "dict",data:=.dict #[] }).objs.size=G.objs.size+1:=Heap.size_push ..
 obtain⟨k1,k2,k3⟩:=Nh scope.names (G.push { cls:=.type "dict",data:=.dict #[] }) K (fun x y c e1 e2=>I2.ok.inj x y c (c1 x c e1).1 (c1 y c e2).1) (fun x c e=>by
  obtain⟨v,o,ho,_⟩:=I2.cell x c (c1 x c e).1
  rw[szD];exact Nat.lt_succ_of_lt (Nat.lt_of_lt_of_le (Heap.lt_size ho) A))
 rw[szD,<- l]at k1;rw[szD]at k2 k3;obtain⟨cl0,hcl0⟩:∃cl0,cl0=K:=⟨_,rfl⟩;have c1o:=c1;have c2o:=c2;rw[<- hcl0]at k1 k2 k3 c1o c2o;rw[<- hcl0]
 clear c1 c2
 generalize cellsFrom (G.objs.size+1) scope.names cl0=K at k1 k2 k3 ⊢
 have c1:∀x c,K.lookup x=some c->(X.env.cells.lookup x=some c/\(x,NameKind.free)∈scope.names)\/(s2.heap.objs.size<=c/\(x,NameKind.cell)∈scope.names):=fun x c e=>by
  rcases k1 x c e with q | ⟨q1,q2,_⟩
  ·exact .inl (c1o x c q)
  ·exact .inr ⟨Nat.le_trans A (Nat.le_of_succ_le q1),q2⟩
 have c2:∀x,((x,NameKind.free)∈scope.names\/(x,NameKind.cell)∈scope.names)->∃c,K.lookup x=some c:=fun x z=>k2 x (z.imp (fun z=>c2o x z) id)
 have c4:∀x c,K.lookup x=some c->(x,NameKind.cell)∈scope.names->j.IsCell c none:=fun x c e z=>by
  rcases k1 x c e with q | ⟨_,_,q⟩
  ·have:=mem_lookup L.nod (c1o x c q).2
   rw[mem_lookup L.nod z]at this;cases this
  ·exact q
 let X':Cx:=Hq X N' scope K G.objs.size s2 R fp
 have I1:Inv X' [] (cst idx σ) R { s2 with heap:=j }:=A1h L I2 f2 U A c1 c2 k3 c4 rfl rfl old S
 have hD2:R s2.heap.objs.size=none:=I2.hok.fresh (Nat.le_refl _)
 have hDfs:s2.heap.objs.size∉X'.fs:=fun z=>by
  obtain⟨_,o,ho,_⟩:=I2.stack.mem z;exact absurd (Heap.lt_size ho) (Nat.lt_irrefl _)
 have hDfp:s2.heap.objs.size∉fp:=fun z=>absurd (U _ z) (Nat.lt_irrefl _)
 have P:∀{H':Hp} {pl:List (Addr×Obj)},(∀b∈fp,H' b=none)->(∀p∈pl,p.1∉fp)->∀b∈fp,Rj X' pl H' b:=fun {H' pl} hn M b w =>
  ⟨hn b w,Nat.ne_of_lt (Nat.lt_of_lt_of_le (U b w) A),fun z=>by
   rcases List.mem_cons.mp (I2.stkSub b z) with q | q
   ·exact(f2 b w).2.1 q
   ·exact(f2 b w).2.2.1 q,.inl w,fun x c e=>by
    rcases c1 x c e with ⟨z,_⟩ | ⟨z,_⟩
    ·exact(f2 b w).2.2.2.2.1 x c z
    ·exact Nat.ne_of_gt (Nat.lt_of_lt_of_le (U b w) z),fun p Q z=>M p (by have hp':p∈[]++pl:=Q;simpa using hp') (z▸w)⟩
 have loop:∀B:Shared,B={ s2 with heap:=j } ->
  codeAny (model X.prog X.w) X.A (.compLoop (.ListComp elt [⟨tg,iter,ifs,0⟩] scope pos) 0 (.ref it) (.ref s2.heap.objs.size) (compEnvC scope K G.objs.size X.env)) (RR (.ref s2.heap.objs.size) G.objs.size) B:=by
  rintro B rfl
  obtain⟨m0,w0⟩:=w0
  refine A7x rfl (Wd:=fun n s'=>∃i t acc a k H',Inv X' [(s2.heap.objs.size,{ cls:=.type "list",data:=.seq a.toArray k })] t H' s'/\Vals acc a/\acc.length<=sizeLine/\tn i s'.heap/\(∀b∈fp,H' b=none)/\W i n t acc H') (step:=?_) m0
   ⟨0,cst idx σ,[],[],0,R,I1.pins_of (fun p Q=>?_),.nil,Nat.zero_le _,T.keep _ _ _ st2 fun b _ o e=>old b o e,fun b w=>(f2 b w).1,w0⟩
  ·rintro n s3 ⟨i,Y,acc,a,k,H3,I3,rv,hz,st3,fr3,w3⟩
   have M:∀p∈[((s2.heap.objs.size,{ cls:=.type "list",data:=.seq a.toArray k }):Addr×Obj)],p.1∉fp:=fun p Q=>by
    rcases List.mem_singleton.mp Q with rfl;exact hDfp
   rcases turn i n Y acc H3 w3 with ⟨stop,q⟩ | ⟨go,hlt,N,hN,step⟩
   ·refine wpAny_mono (T.done X' rfl rfl rfl hc i _ s3 Y H3 (fun _ _=>False) I3 (P fr3 M) st3 stop) (fun r s4 ⟨hr,I4⟩=>?_) fun _ _ f=>f.elim
    subst hr;obtain⟨p1,p2,p3,p4,p5⟩:=I4.pin (s2.heap.objs.size,{ cls:=.type "list",data:=.seq a.toArray k }) (List.mem_append_right _ List.mem_cons_self);obtain⟨m4,hn4,_⟩:=I4.loc;exact hR _ _ s4 acc a k H3 m4 (Nat.le_refl _) A hDC hn4 p1 rv hz p2 I4.free I4.os I4.bare I4.base I4.hok q
   ·refine wpAny_mono (T.item X' rfl rfl rfl hc i _ s3 Y H3 (fun _ _=>False) I3 (P fr3 M) st3 go) (fun r s4 ⟨u,hr,h4⟩=>?_) fun _ _ f=>f.elim
    subst hr
    refine wpAny_mono h4 (fun _ s5 ⟨x,H5,I5,r5,y5,st5,fr5⟩=>?_) fun _ _ f=>f.elim
    refine wpAny_mono (hg _ _ _ _ _ _ s5 Y H5 x u _ (I5.pinned (P fr5 M) (T.obj _ _ st5)) r5 (step x H5 y5)) (fun _ s6 ⟨O,H6,I6,q6⟩=>?_) fun _ _ f=>f.elim
    refine wpAny_mono (ht _ _ _ _ _ _ s6 O H6 _ I6 q6) (fun ok s7 ⟨H7,I7,q7⟩=>?_) fun _ _ f=>f.elim
    have tnk:∀{t:St} {H':Hp} {s':Shared},Inv X' ([(s2.heap.objs.size,{ cls:=.type "list",data:=.seq a.toArray k })]++Um fp s5.heap) t H' s'->tn (i+1) s'.heap/\∀b∈fp,H' b=none:=fun {t H' s'} I=>by
     refine⟨T.keep _ _ _ st5 fun b w o e=>(I.pin (b,o) (List.mem_append_right _ (List.mem_append_right _ (Kf w e)))).1,fun b w=>?_⟩
     obtain⟨o,e,d⟩:=T.obj _ _ st5 b w;exact(I.pin (b,o) (List.mem_append_right _ (List.mem_append_right _ (Kf w e)))).2.1
    cases ok with
    | false =>
     rw[if_neg (by decide)]at q7
     obtain⟨m',hm,w7⟩:=hN _ _ _ q7;exact⟨m',hm,i+1,O,acc,a,k,H7,I7.unpinned,rv,hz,(tnk I7).1,(tnk I7).2,w7⟩
    | true =>
     rw[if_pos rfl]at q7
     refine wpAny_mono (he _ _ _ _ _ _ s7 O H7 _ I7 q7) (fun y s8 ⟨yv,H8,I8,r8,q8⟩=>?_) fun _ _ f=>f.elim
     obtain⟨m',hm,w8⟩:=hN _ _ _ q8;obtain⟨p1,p2,p3,p4,p5⟩:=I8.pin (s2.heap.objs.size,{ cls:=.type "list",data:=.seq a.toArray k }) (List.mem_append_right _ List.mem_cons_self)
     refine call_meets PySem.F.slot_list_append ⟨_,p1,rfl⟩ PySem.F.entry_list_append (PySem.F.args_list_append_2 _ _) (PySem.list_append s2.heap.objs.size a.toArray k y (by have:=rv.length;rw[List.size_toArray];omega)) ⟨p1,?_⟩
     have hz':=rv.length;obtain⟨t8,f8⟩:=tnk I8
     have I8':Inv X' [] O H8 s8:=I8.pins_of fun p Q=>nomatch Q
     have q:=PySem.IsL.update p1 (·.push y)
     have e':(a.toArray.push y)=(a++[y]).toArray:=by simp
     rw[e']at q
     obtain⟨k9,q⟩:∃k9,(s8.heap.update s2.heap.objs.size (Obj.mapSeq (·.push y))).get? _=some { cls:=.type _,data:=.seq _ k9 }:=⟨_,q⟩
     have I9:Inv _ _ _ _ { s8 with heap:=s8.heap.update _ (Obj.mapSeq (·.push y)) } :=
      I8'.turned  (fun b o w e=>(Heap.get?_update_other _ _ (Ne.symm w)).trans e) p2 p3 (.inr (Nat.le_refl _)) (fun x c e z=>by
       obtain⟨v,o,ho,hd⟩:=I8'.cell x c e
       rw[z,p1]at ho;cases ho;cases hd) (fun p Q=>by have hp':p∈([]:List _)++[]:=Q;simp at hp')
     refine⟨m',hm,i+1,O,acc++[yv],a++[y],k9,H8,I9.pins_of fun p Q=>?_,rv.append (.cons r8 .nil),by rw[List.length_append,List.length_singleton];omega,T.keep _ _ _ t8 fun b w o e=>(Heap.get?_update_other _ _ (fun z=>hDfp (by rw[z];exact w))).trans e,f8,w8⟩
     rcases List.mem_singleton.mp Q with rfl
     exact⟨q,p2,p3,p4,fun v z=>by cases z⟩
  ·rcases List.mem_singleton.mp Q with rfl
   exact⟨hacc,hD2,hDC,hDfs,fun v z=>by cases z⟩
 exact codeAny_compStart_list (loop _ rfl) (T.self _ 0 _ _ _ (T.keep _ _ _ st2 fun b _ o e=>old b o e) (loop _ rfl))
theorem Bt0 (L:Ke X N' idx scope)(hc:X.calm=true)(hi:PI X tg iter wi)
 (hg:∀t C s₀ H₀ ex,PG (Hq X N' scope t C s₀ H₀ ex) tg g) (ht:∀t C s₀ H₀ ex,PTs (Hq X N' scope t C s₀ H₀ ex) ifs tc) (he:∀t C s₀ H₀ ex,PE (Hq X N' scope t C s₀ H₀ ex) elt te)
 (hs:∀x,foldedSetIterable iter X.env x=pure x:=by intro _;rfl) :
 PE X (.ListComp elt [⟨tg,iter,ifs,0⟩] scope pos) (tLC idx wi g tc te):=by
 intro j s Z H Q I h
 obtain⟨t,l,c1,c2⟩:=U9 (env:=X.env) (scope:=scope) fun y hy hf=>I.ok.has y.1 (L.free y hy hf)
 rw[eval_ListComp]
 refine wpAny_comprehension_free (use:=none) rfl hs l L.kind (fun y hy hl=>mem_lookup L.nod (by grind)) (wpAny_mono (hi j s Z H _ I h) (fun v s1 h1=>wpAny_mono h1 (fun itv V h2=>?_) fun _ _ e=>e) fun _ _ e=>e)
 obtain⟨it,fp,tn,J,H2,rfl,I2,T,M,z,W,w0,A⟩:=h2
 refine A3n (F:=fun a H=>∀p,H p=none->Q (.ref p) (upd H p (.lst a))) (RR:=fun a C=>compPost (model X.prog X.w) X.A X.xe none (EP X j Z Q) a C) L hc hg ht he c1 c2 I2 T M z W w0 A ?_
 intro D C s' a w n N m hD hC O hn P rv hz d hC' ho K i hk q
 refine⟨m,hn,fun G f=>?_⟩
 have eD:G.get? D=some { cls:=.type "list",data:=.seq w.toArray n }:=f.extBut _ _ O P
 have S:HOk X.prog X.w N G:=fun b u e=>by
  refine (hk b u e).stay (fun c v hc q=>f.extBut c v ?_ q) (fun _ q=>q) fun _ _ q=>q
  grind
 have U:HOk X.prog X.w (upd N D (.lst a)) G:=S.track d ⟨hz,w,n,rv,eD⟩
 have k:∀b o,V.heap.get? b=some o->b≠C:=fun b o e=>Nat.ne_of_lt (Nat.lt_of_lt_of_le (Heap.lt_size e) hC)
 have R:∀b o,V.heap.get? b=some o->b≠D:=fun b o e=>Nat.ne_of_lt (Nat.lt_of_lt_of_le (Heap.lt_size e) hD)
 have u2:Un (frs X.stack) fp H2 (upd N D (.lst a)) V.heap G :=
  ⟨
   fun b o e r B Y=>f.extBut b o (k b o e) (i.keep b o e r B Y),fun b o e r B Y=>let ⟨sl,q⟩:=i.slot b o e r B Y; ⟨sl,f.extBut b _ (k b o e) q⟩,
   fun b o e r B=>by rw[Ak (R b o e)];exact i.free b o e r B,fun b o e r=>let ⟨o',q⟩:=i.there b o e r; ⟨o',f.extBut b _ (k b o e) q⟩,
   fun b xs e=>by rw[Ak (Bv (i.tups b _ e) d)];exact i.tups b _ e,fun b o u e=>by rw[Ak (Bv (i.frzs b o u e) d)];exact i.frzs b o u e,
   fun b ps e=>by rw[Ak (Bv (i.tbls b _ e) d)];exact i.tbls b _ e⟩
 refine⟨.ref D,upd _ D _,I2.call'  ho u2 U K fun b E=>⟨(z b E).2.2.2.1,(z b E).2.1,(z b E).2.2.2.2.1,(z b E).2.2.2.2.2⟩,rfl,q D d⟩
end
section
variable {X:Cx}
def Nf (H:Hp):V->Option String
 | .non=>some "NoneType" | .bl _=>some "bool" | .int _=>some "int" | .str _=>some "str"
 | .ref a=>match H a with
  | some (.lst _)=>some "list"
  | some (.tup _)=>some "tuple"
  | some (.dK _)=>some "dict"
  | some (.dT _)=>some "dict"
  | _=>none
 | _=>none
section
variable {X:Cx}{pins:List (Addr×Obj)}{σ:St}{H:Hp}{s:Shared}
theorem A0o    (I:Inv X pins σ H s) (f:RelV x u) (h:Nf H x=some t):∃hp:Heap->Prop,PySem.W.KitX X.K u (.type t) hp/\hp s.heap/\u≠.builtin "__main__.__loader__#opaque" := by
 cases x with
 | non=>cases h;cases (f);exact⟨_,PySem.W.kitx_none,True.intro,fun z=>nomatch z⟩
 | bl b=>cases h;cases (f);exact⟨_,PySem.W.kitx_bool,True.intro,fun z=>nomatch z⟩
 | int i=>cases h;obtain⟨t,rfl⟩:=f;exact⟨_,PySem.W.kitx_int,True.intro,fun z=>nomatch z⟩
 | str y=>cases h;obtain⟨t,rfl⟩:=f;exact⟨_,PySem.W.kitx_str,True.intro,fun z=>nomatch z⟩
 | ref a =>
  cases (f)
  have c:∀T,PySem.W.KitX X.K (.ref a) (.type T) (PySem.W.KitAt a T)->PySem.W.KitAt a T s.heap->some T=some t->∃hp:Heap->Prop,PySem.W.KitX X.K (.ref a) (.type t) hp/\hp s.heap/\Value.ref a≠.builtin "__main__.__loader__#opaque" := fun T k p q=>by grind
  have h:(match H a with | some (.lst _)=>some _ | some (.tup _)=>some _ | some (.dK _)=>some _ | some (.dT _)=>some _ | _=>none)=some t:=h
  split at h
  ·rename_i l e
   obtain⟨_,_,n,_,d⟩:=(show z9 _ _ H _ a _ from I.hok a _ e)
   exact c _ PySem.W.kitx_list ⟨_,d,rfl⟩ h
  ·rename_i l e
   obtain⟨_,_,_,o,d,g,_⟩:=(show z9 _ _ H _ a _ from I.hok a _ e)
   exact c _ PySem.W.kitx_tuple ⟨o,d,g⟩ h
  ·rename_i j e
   obtain⟨_,_,vs,_,o,r,m,d,g,_⟩:=(show z9 _ _ H _ a _ from I.hok a _ e)
   exact c _ PySem.W.kitx_dict ⟨o,d,g.1⟩ h
  ·rename_i j e
   obtain⟨_,_,l,_,o,r,m,d,g,_⟩:=(show z9 _ _ H _ a _ from I.hok a _ e)
   exact c _ PySem.W.kitx_dict ⟨o,d,g.1⟩ h
  grind
 | byt b=>cases h
 | flt b=>cases h
 | ty n=>cases h
end
def El (t T:String):Option Bool:=if ["NoneType", "bool", "int", "str", "list", "tuple", "dict"].contains t&&["int", "str", "bool", "list", "tuple"].contains T then some (t==T||(t == "bool" && T == "int")) else none
theorem Zw {K:PySem.W.Frag}   (h:El t T=some b):PySem.W.kitOne K (.type t) (.type T)=some b:=by
 unfold El at h
 split at h
 ·rename_i a
  cases h
  simp only[Bool.and_eq_true,List.contains_iff_mem,List.mem_cons,List.not_mem_nil,or_false]at a;obtain⟨c,d⟩:=a
  rcases c with rfl | rfl | rfl | rfl | rfl | rfl | rfl <;> rcases d with rfl | rfl | rfl | rfl | rfl <;> with_unfolding_all rfl
 ·cases h
theorem A4p:CallR X (.builtin "isinstance") (fun xs H Q=>∃x T t b,xs=[x,.ty T]/\Nf H x=some t/\El t T=some b/\Q (.bl b) H):=by
 intro a s σ H xs us Q I r h;obtain⟨x,T,t,b,rfl,f,c,q⟩:=h;obtain⟨u,v,rfl,e,d⟩:=Vals.two r
 cases (d)
 obtain⟨hp,z,p,g⟩:=A0o I e f
 exact PySem.W.kia_one z I.kIn p (Zw c) g fun tk=>⟨.bl b,H,I.tok _,rfl,q⟩
theorem walk_seq          (m:A.handled=none) (I:Inv X pins d H s) (h:SqL X.K H a xs)
 (k:∀(c:List Value) (J:Addr) (s2:Shared),Vals xs c->Walks X.prog X.w A J [J,a] [J] c.length (fun i v=>c[i]?=some v) (fun i h=>h.IsListIter J a i/\h.IsList a c.toArray)->s2.heap.IsListIter J a 0/\s2.heap.IsList a c.toArray->(∀b∈[J,a],b<s2.heap.objs.size) ->
  Inv X pins d H s2->(∀f l,(∀b o,b∉[J]->s2.heap.get? b=some o->f.get? b=some o)->Inv X pins d H { s2 with heap:=f,toks:=l })->R (.ref J) s2) :
 wpAny (model X.prog X.w) A (pyIter (.ref a)) R E s:=by
 obtain⟨c,n,p,D⟩:=I.list h
 refine wpAny_pyIter_list p.isList ?_
 have u:a<s.heap.objs.size:=let ⟨_,e,_⟩:=p.isList; Heap.lt_size e
 have g:a≠s.heap.objs.size:=Nat.ne_of_lt u;have W:=Walks.list (prog:=X.prog) (w:=X.w) (A:=A) m s.heap.objs.size a g c.toArray;rw[List.size_toArray]at W
 have j:Inv X pins d H { s with heap:=s.heap.push { cls:=.type "list_iterator",data:=.fields #[.ref a,.int 0 0] } }:=I.kept (t':=s.toks) fun b o e=>Heap.get?_push_of_some _ e
 refine k c s.heap.objs.size _ n (by simp_all) ⟨⟨_,Heap.get?_push_size _ rfl,rfl,rfl⟩,let ⟨o,e,r⟩:=p.isList; ⟨o,Heap.get?_push_of_some _ e,r⟩⟩ ?_ j fun f l x=>?_
 ·intro b z
  have e:=Heap.size_push s.heap { cls:=.type "list_iterator",data:=.fields #[.ref a,.int 0 0] }
  grind
 ·obtain⟨q,B,F,y,C,t⟩:=(I.fpOk (b:=s.heap.objs.size) (Nat.le_refl _) (I.hok.fresh (Nat.le_refl _)))
  exact j.turned  (fun b o z e=>x b o (by simp_all) e) q B y C t
theorem Zd   {bs:List Bool}(r:Vals (bs.map V.bl) a):TruthOf X.prog X.w A (fun i v=>a[i]?=some v) (fun i=>bs.getD i false):=by
 intro i v s Q E c b;have h  := (List.getElem?_eq_some_iff.mp c).1
 have g:i<bs.length:=by have:=r.length;simp_all
 obtain⟨u,d,f⟩:=r.get (i:=i) (x:=V.bl bs[i]) (by simp_all)
 rw[c]at d
 cases d
 cases (show v=Value.bool _ from f)
 have e:bs.getD i false=bs[i]:=by simp_all
 have b:Q (bs.getD i _) s:=b;rw[e]at b;exact wpAny_truthy_bool b
theorem range_all (bs:List Bool):(List.range bs.length).all (fun i=>bs.getD i false)=bs.all id:=by
 rw[Bool.eq_iff_iff];simp only[List.all_eq_true,List.mem_range]
 constructor
 ·intro h b d
  obtain⟨i,a,c⟩:=List.getElem_of_mem d
  simp_all
 ·intro h i a
  simpa[a] using h _ (List.getElem_mem _)
theorem Au8 (hc:X.calm=true):CallR X (.builtin "all") (fun xs H Q=>∃(a:Addr) (b:List Bool),xs=[.ref a]/\SqL X.K H a (b.map V.bl)/\Q (.bl (b.all id)) H):=by
 intro d s σ H xs us Q I r h;obtain⟨a,b,rfl,i,q⟩:=h;obtain⟨u,rfl,g⟩:=vals1 r
 cases (g)
 refine call_all_walk (walk_seq  (I.ok.hd hc) I i fun c J s2 f W l hb I2 k=>⟨J,_,_,_,_,_,_,rfl,W,l,Zd f,fun h' tk j=>?_⟩)
 have e:c.length=b.length:=by rw[<- f.length,List.length_map]
 rw[e,range_all];exact⟨.bl _,H,k _ _ j,rfl,q⟩
end
mutual
def Tr (H:Hp):PyData->V->Prop
 | .none,v=>v=.non
 | .bool b,v=>v=.bl b
 | .int i,v=>v=.int i
 | .str x,v=>v=.str x
 | .list ds,v=>∃a vs,v=.ref a/\H a=some (.lst vs)/\TrL H ds vs
 | .tuple ds,v=>∃a vs,v=.ref a/\H a=some (.tup vs)/\TrL H ds vs
 | .dict _,_=>False
def TrL (H:Hp):List PyData->List V->Prop
 | [],vs=>vs=[]
 | d::ds,vs=>∃v r,vs=v::r/\Tr H d v/\TrL H ds r
end
theorem TrL.length {H:Hp}:∀{ds:List PyData}{vs:List V},TrL H ds vs->ds.length=vs.length
 | [],_,h=>by cases (show _=[] from h);rfl
 | d::ds,_,h=>by
  obtain⟨v,r,rfl,_,t⟩:=h;rw[List.length_cons,List.length_cons,TrL.length t]
mutual
theorem Tr.same {H H':Hp}(S:Same H H'):∀{d:PyData}{v:V},Tr H d v->Tr H' d v
 | .none,_,h=>h
 | .bool _,_,h=>h
 | .int _,_,h=>h
 | .str _,_,h=>h
 | .list ds,_,⟨a,vs,e,ha,t⟩=>⟨a,vs,e,S _ _ ha,TrL.same S t⟩
 | .tuple ds,_,⟨a,vs,e,ha,t⟩=>⟨a,vs,e,S _ _ ha,TrL.same S t⟩
theorem TrL.same {H H':Hp}(S:Same H H'):∀{ds:List PyData}{vs:List V},TrL H ds vs->TrL H' ds vs
 | [],_,h=>h
 | d::ds,_,⟨v,r,e,h,t⟩=>⟨v,r,e,Tr.same S h,TrL.same S t⟩
end
def Bu7 (H H':Hp):Prop:=∀b xs,H b=some (.tup xs)->H' b=some (.tup xs)
section
variable {X:Cx}{pins:List (Addr×Obj)}{σ:St}{H:Hp}{s:Shared}
mutual
theorem Tr.reads (I:Inv X pins σ H s):∀{d:PyData}{v:V}{u:Value},Tr H d v->RelV v u->∃as,Reads s.heap u d as
 | .none,_,u=>fun h r=>by
  cases (show _=V.non from h)
  cases (show u=Value.none from r)
  exact⟨_,.none⟩
 | .bool b,_,u=>fun h r=>by
  cases (show _=V.bl b from h)
  cases (show u=Value.bool b from r)
  exact⟨_,.bool b⟩
 | .int i,_,u=>fun h r=>by
  cases (show _=V.int i from h)
  obtain⟨t,rfl⟩:=r;exact⟨_,.int i t⟩
 | .str x,_,u=>fun h r=>by
  cases (show _=V.str x from h)
  obtain⟨t,rfl⟩:=r;exact⟨_,.str x t⟩
 | .list ds,_,u=>fun h r=>by
  obtain⟨a,vs,rfl,ha,t⟩:=h
  cases (show u=Value.ref a from r)
  obtain⟨z,its,n,rv,e⟩:=I.hok a _ ha;obtain⟨as,q⟩:=TrL.reads I t rv
  exact⟨_,.list e rfl rfl (by simpa using q)⟩
 | .tuple ds,_,u=>fun h r=>by
  obtain⟨a,vs,rfl,ha,t⟩:=h
  cases (show u=Value.ref a from r)
  obtain⟨z,its,rv,o,e,c,⟨n,dt⟩,_⟩:=I.hok a _ ha;obtain⟨as,q⟩:=TrL.reads I t rv
  exact⟨_,.tuple e c dt (by simpa using q)⟩
 | .dict k,_,u=>fun h r=>False.elim h
theorem TrL.reads (I:Inv X pins σ H s):∀{ds:List PyData}{vs:List V}{us:List Value},TrL H ds vs->Vals vs us->∃as,ReadsAll s.heap us ds as
 | [],_,us=>fun h r=>by
  cases (show _=[] from h)
  cases r
  exact⟨_,.nil⟩
 | d::ds,_,us=>fun h r=>by
  obtain⟨v,vs,rfl,hv,t⟩:=h
  cases r with
  | cons r1 r2 =>
   obtain⟨as,q⟩:=Tr.reads I hv r1;obtain⟨bs,p⟩:=TrL.reads I t r2;exact⟨_,.cons q p⟩
end
end
def Flat (d:PyData):Prop:=d.canLay0=true/\d.depth<=40
section
variable {X:Cx}
theorem A9f  (hu:u+64<c) (hb:b<=40):u+min a b<c:=Nat.lt_of_le_of_lt (Nat.add_le_add_left (Nat.le_trans (Nat.min_le_right a b) (Nat.le_trans hb (by decide))) u) hu
theorem Yk  (hu:u+64<c) (hb:b<=40):u+1+min a b<c:=Nat.lt_of_le_of_lt (Nat.le_trans (Nat.add_le_add_left (Nat.le_trans (Nat.min_le_right a b) hb) _) (Nat.add_le_add_left (show 1+40<=64 by decide) u)) hu
theorem Bk2 (hu:X.A.units+64<cLine):OpR X (compareOp .Eq) (fun x y H Q=>∃a b,Tr H a x/\Tr H b y/\Flat a/\Flat b/\Q (.bl (PyData.eqv a b)) H):=by
 intro c s n H x y v u Q I g f h;obtain⟨a,b,i,j,k,d,q⟩:=h;obtain⟨m,l⟩:=i.reads I g;obtain⟨o,e⟩:=j.reads I f;exact SeqAt.compareEq_reads l e k.1 d.1 (A9f hu d.2) ⟨.bl _,H,I,rfl,q⟩
theorem A9u (hu:X.A.units+64<cLine):OpR X (compareOp .NotEq) (fun x y H Q=>∃a b,Tr H a x/\Tr H b y/\Flat a/\Flat b/\Q (.bl (!PyData.eqv a b)) H):=by
 intro c s n H x y v u Q I g f h;obtain⟨a,b,i,j,k,d,q⟩:=h;obtain⟨m,l⟩:=i.reads I g;obtain⟨o,e⟩:=j.reads I f;exact SeqAt.compareNe_reads l e k.1 d.1 (A9f hu d.2) ⟨.bl _,H,I,rfl,q⟩
theorem Ba7 (hu:X.A.units+64<cLine):OpR X (compareOp .In) (fun x y H Q=>∃d a,Tr H d x/\(Tr H (.list a) y\/Tr H (.tuple a) y)/\Flat d/\PyData.canLayAll0 a=true/\Q (.bl (a.any fun e=>PyData.eqv e d)) H):=by
 intro i s o H x y v u Q I n g h;obtain⟨d,a,l,b,c,j,q⟩:=h;obtain⟨p,k⟩:=l.reads I n
 rcases b with b | b
 ·obtain⟨m,f⟩:=b.reads I g
  exact SeqAt.in_list_reads f k j c.1 (Yk hu c.2) ⟨.bl _,H,I,rfl,q⟩
 ·obtain⟨m,f⟩:=b.reads I g
  exact SeqAt.in_tuple_reads f k j c.1 (Yk hu c.2) ⟨.bl _,H,I,rfl,q⟩
theorem Aq4 (hu:X.A.units+64<cLine):OpR X (compareOp .NotIn) (fun x y H Q=>∃d ds,Tr H d x/\(Tr H (.list ds) y\/Tr H (.tuple ds) y)/\Flat d/\PyData.canLayAll0 ds=true/\Q (.bl (!ds.any fun e=>PyData.eqv e d)) H):=by
 intro g s σ H x y v u Q I m f h;obtain⟨d,ds,k,a,b,i,q⟩:=h;obtain⟨as,j⟩:=k.reads I m
 rcases a with a | a
 ·obtain⟨l,c⟩:=a.reads I f
  exact SeqAt.notIn_list_reads c j i b.1 (Yk hu b.2) ⟨.bl _,H,I,rfl,q⟩
 ·obtain⟨l,c⟩:=a.reads I f
  exact SeqAt.notIn_tuple_reads c j i b.1 (Yk hu b.2) ⟨.bl _,H,I,rfl,q⟩
theorem As9 (hu:X.A.units+64<cLine)(hg:X.A.guards=some []):CallR X (.type "str") (fun xs H Q=>∃a d,xs=[.ref a]/\Tr H d (.ref a)/\d.showable=true/\d.hasDict=false/\d.depth<=40/\d.shown.length<=sizeLine/\Q (.str d.shown) H):=by
 intro b s σ H xs us Q I r h;obtain⟨a,d,rfl,i,j,h2,h3,g,q⟩:=h;obtain⟨u,rfl,c⟩:=vals1 r
 cases show u=Value.ref a from c
 obtain⟨as,k⟩:=i.reads I c
 exact str_of_reads k j fun z=>by simp_all hg (by omega) (fun _ _ e=>e) (fun h' t tk f=>⟨.str _,H,I.kept  f,⟨t,rfl⟩,q⟩) g
end
mutual
def Ai3 (gt:Bool):PyData->PyData->Option Bool
 | .int i,.int j=>some (if gt then decide (j<i) else decide (i<j))
 | .str i,.str j=>some (if gt then decide (j.cps.toList<i.cps.toList) else decide (i.cps.toList<j.cps.toList))
 | .tuple xs,.tuple ys=>Bo1 gt xs ys
 | _,_=>none
def Bo1 (gt:Bool):List PyData->List PyData->Option Bool
 | [],[]=>some false
 | [],_::_=>some (!gt)
 | _::_,[]=>some gt
 | x::xs,y::ys=>if PyData.eqv x y=true then Bo1 gt xs ys else Ai3 gt x y
end
def Ar2 (H:Hp):V->Option Nat
 | .ref p=>match H p with
  | some (.lst xs)=>some xs.length
  | some (.tup xs)=>some xs.length
  | _=>none
 | .str z=>if z.length<=sizeLine then some z.length else none
 | _=>none
def rAppF:V->List V->Hp->VK->Prop:=fun x vs H Q=>∃l y xs,x=.ref l/\vs=[y]/\H l=some (.lst xs)/\xs.length<sizeLine/\Q .non (upd H l (.lst (xs++[y])))
def A9y (K:PySem.W.Frag)(tl:TE):TI:=fun σ H R=>tl σ H fun x H1=>∃a,x=.ref a/\((∃xs,H1 a=some (.lst xs)/\R (Itl K a) H1)\/(∃xs,H1 a=some (.tup xs)/\R (Itt K a) H1))
section
variable {X:Cx}
theorem Ax8:CallR X (.builtin "len") (fun xs H Q=>∃x n,xs=[x]/\Ar2 H x=some n/\Q (.int (n:Nat)) H):=by
 intro a s σ H xs us Q I r h;obtain⟨x,n,rfl,e,q⟩:=h
 refine Z9 _ s _ H _ _ Q I r ⟨x,n,rfl,?_,q⟩
 cases x with
 | ref p =>
  have e:(match H p with | some (.lst _)=>some _ | some (.tup _)=>some _ | _=>none)=some n:=e
  cases hp:H p with
  | none=>simp_all
  | some o =>
   rw[hp]at e
   cases o with
   | lst xs=>cases e;exact .inl ⟨xs,SqL.of hp,rfl⟩
   | tup xs=>cases e;exact .inr ⟨xs,SqT.of hp,rfl⟩
   | _=>grind
 | str z =>
  have e:(if z.length<=sizeLine then some _ else none)=some n:=e
  split at e
  ·cases e;trivial
  trivial
 | _=>cases e
theorem A5c:MtM X "list.append" rAppF:=by
 intro a s j H x k v m Q I e f h;obtain⟨l,y,d,c,g,i,b,q⟩:=h;exact Ar7 _ s _ H x _ v _ Q I e f ⟨l,d,y,c,g,i,b,q⟩
theorem Bl2   (hl:PE X l j):PI X u l (A9y X.K j):=by
 intro k s z H R I h
 refine thn (hl _ s _ H _ I h) fun v d ⟨x,m,c,r,f⟩=>?_
 obtain⟨a,e,f⟩:=f;subst e
 cases r
 rcases f with ⟨t,i,q⟩ | ⟨t,i,q⟩
 ·obtain⟨g,w,p,y⟩:=c.list (SqL.of i)
  refine wpAny_pyIter_list p.isList ?_
  refine⟨d.heap.objs.size,[d.heap.objs.size],_,_,m,rfl,c.kept  fun b o e=>Heap.get?_push_of_some _ e,Au9 a _,⟨_,Heap.get?_push_size _ rfl,rfl,rfl⟩,fun b n=>?_,q⟩
  have e:b=d.heap.objs.size:=by grind
  subst e;exact c.fpOk (Nat.le_refl _) (c.hok.fresh (Nat.le_refl _))
 ·obtain⟨g,w,p,y⟩:=c.tuple (SqT.of i)
  refine wpAny_pyIter_tuple (show d.heap.IsTuple a _ from p) ?_
  refine⟨d.heap.objs.size,[d.heap.objs.size],_,_,m,rfl,c.kept  fun b o e=>Heap.get?_push_of_some _ e,Aj1 a _,⟨_,Heap.get?_push_size _ rfl,rfl,rfl⟩,fun b n=>?_,q⟩
  have e:b=d.heap.objs.size:=by grind
  subst e;exact c.fpOk (Nat.le_refl _) (c.hok.fresh (Nat.le_refl _))
def J9 (t:String):List String->Option Bool
 | []=>some false
 | T::r=>match El t T with
  | some true=>some true
  | some false=>J9 t r
  | none=>none
theorem Ua {K:PySem.W.Frag}{t:String}:∀{Ts:List String}{b:Bool},J9 t Ts=some b->PySem.W.kitAny K (.type t) (Ts.map Value.type)=some b
 | [],b,h=>h
 | T::r,b,h=>by
  have h:(match El t T with | some true=>some true | some false=>J9 t r | none=>none)=some b:=h
  show (match PySem.W.kitOne K (.type t) (.type T) with | some true=>some true | some false=>PySem.W.kitAny K (.type t) (r.map Value.type) | none=>none)=some b
  cases e:El t T with
  | none=>rw[e]at h;cases h
  | some k =>
   rw[e]at h;rw[Zw e]
   cases k with
   | true=>exact h
   | false=>exact Ua h
theorem Zj:∀{Ts:List String}{us:List Value},Vals (Ts.map V.ty) us->us=Ts.map Value.type
 | [],_,.nil=>rfl
 | T::r,_,.cons h t=>by
  cases (show _=Value.type T from h)
  rw[Zj t]
  rfl
theorem At6:CallR X (.builtin "isinstance") (fun xs H Q=>∃x p a t b,xs=[x,.ref p]/\H p=some (.tup (a.map V.ty))/\Nf H x=some t/\J9 t a=some b/\Q (.bl b) H):=by
 intro e s σ H xs us Q I r h;obtain⟨x,p,a,t,b,rfl,d,E,j,q⟩:=h;obtain⟨u,v,rfl,k,l⟩:=Vals.two r
 cases (l)
 obtain⟨z,m,w,o,y,A,⟨n,B⟩,C⟩:=I.hok p _ d;have D:=Zj w;subst D;obtain⟨F,dd,f,sl⟩:=o;subst A B
 have c:∀g,EP X _ _ Q _ { s with toks:=g }:=fun g=>⟨.bl b,H,I.tok _,rfl,q⟩
 obtain⟨d,z,p,i⟩:=A0o I k E;exact PySem.W.kia_tup z I.kIn p y (Ua  j) i c
end
theorem Ag0:bootBuiltins "len" = some (.builtin "len"):=by decide +kernel
theorem Bg4:bootBuiltins "abs" = some (.builtin "abs"):=by decide +kernel
theorem Hg:bootBuiltins "isinstance" = some (.builtin "isinstance"):=by decide +kernel
theorem Bk5:bootBuiltins "all" = some (.builtin "all"):=by decide +kernel
theorem Bl1:bootBuiltins "min" = some (.builtin "min"):=by decide +kernel
theorem A2f:bootBuiltins "int" = some (.type "int"):=by decide +kernel
theorem U3:bootBuiltins "str" = some (.type "str"):=by decide +kernel
theorem Xf:bootBuiltins "bool" = some (.type "bool"):=by decide +kernel
theorem R9:bootBuiltins "list" = some (.type "list"):=by decide +kernel
theorem Jq:bootBuiltins "tuple" = some (.type "tuple"):=by decide +kernel
theorem A4g:bootBuiltins "set" = some (.type "set"):=by decide +kernel
theorem Gx {X:Cx}{N':List Str}{idx:List (Option Nat)}{scope:Scope}(h1:scope.kind=.function)(h2:(0:Nat)=0)(h3:(scope.names.map (·.1)).Nodup)
 (h4:(scope.names.all fun y=>decide (y.2≠.free)||decide (X.env.kindOf y.1=some .cell)||decide (X.env.kindOf y.1=some .free))=true) (h5:idx.length=N'.length)
 (h6:((idx.zip N').all fun p=>match p.1 with | none=>true | some i=>decide (X.N[i]?=some p.2)&&decide (scope.names.lookup p.2=some .free))=true):Ke X N' idx scope where
 kind:=h1
 nod:=h3
 free:=fun y hy hf=>by
  have h:=List.all_eq_true.mp h4 y hy;simp only[Bool.or_eq_true,decide_eq_true_eq]at h
  rcases h with (h | h) | h
  ·exact absurd hf h
  ·exact .inl h
  ·exact .inr h
 len:=h5
 at':=fun j i x e1 e2=>by
  have hz:(some i,x)∈idx.zip N':=by
   have:(idx.zip N')[j]?=some (some i,x):=by simp[List.getElem?_zip_eq_some,e1,e2]
   exact List.mem_of_getElem? this
  have h:=List.all_eq_true.mp h6 _ hz;simp only[Bool.and_eq_true,decide_eq_true_eq]at h;exact h
def Td:Expr->Option V
 | .Constant (.int i) _ _=>some (.int i)
 | .Constant (.str x) _ _=>some (.str x)
 | .Constant (.bool b) _ _=>some (.bl b)
 | .Constant .none _ _=>some .non
 | _=>none
def Ph:List Expr->Option (List V)
 | []=>some []
 | e::es=>match Td e,Ph es with
  | some v,some vs=>some (v::vs)
  | _,_=>none
def tK (vs:List V):TA:=fun _ H Q=>Q vs H
theorem Ay5    (h:Td e=some v):PE X e (tC v)/\∀es,starEach (e::es) X.env=(false,eval e X.env)::starEach es X.env:=by
 unfold Td at h
 split at h <;> first
  | (cases h;exact⟨A3l,fun _=>rfl⟩)
  | (cases h;exact⟨A2q,fun _=>rfl⟩)
  | (cases h;exact⟨A8v,fun _=>rfl⟩)
  | (cases h;exact⟨A3p,fun _=>rfl⟩)
  | cases h
theorem W8 {X:Cx}:∀{es:List Expr}{vs:List V},Ph es=some vs->PA X es (tK vs)
 | [],vs,h=>by cases h;exact N8
 | e::es,vs,h=>by
  have h:(match Td e,Ph es with | some v,some vs=>some (v::vs) | _,_=>none)=some vs:=h
  cases e1:Td e with
  | none=>rw[e1]at h;cases h
  | some v =>
   cases e2:Ph es with
   | none=>rw[e1,e2]at h;cases h
   | some r =>
    rw[e1,e2]at h
    cases h
    obtain⟨p1,p2⟩:=Ay5 (X:=X) e1;exact An0 p1 (W8 e2) (p2 es)
def isStar:Expr->Bool
 | .Starred ..=>true
 | _=>false
def noStar:List Expr->Bool
 | []=>true
 | e::es=>!isStar e&&noStar es
theorem Jc    (h:isStar e=false):starEach (e::es) env=(false,eval e env)::starEach es env:=by
 cases e <;> first | rfl | cases h
theorem J4 {pos:Pos}{env:Env}:∀{es:List Expr},noStar es=true->(backTo pos (starEach es env)).any (·.1)=false
 | [],_=>rfl
 | e::es,h=>by
  obtain⟨h1,h2⟩:=Bool.and_eq_true_iff.mp h
  rw[Jc (by simpa using h1)]
  show (false||(backTo pos (starEach es env)).any (·.1))=false
  rw[J4 h2]
  rfl
theorem Gg   (h:noStar (e::es)=true):isStar e=false/\noStar es=true:=by
 obtain⟨b,a⟩:=Bool.and_eq_true_iff.mp h
 simp_all
section
variable {X:Cx}{CX:CXT}{k:Nat}{f:Addr}{fd:FuncData}{ps:List Str}{sp:Sp}{dvs:List V}{ds:List Value}{E:XK}{x:Str}{p pos:Pos}{e:Expr}{es:List Expr}{te:TE}{t:TA}{id T:String}{r:List V->Hp->VK->Prop}
theorem At9 (ha:PE X e te)(hr:PA X es t)(hs:isStar e=false:=by rfl):PA X (e::es) (Ci te t):=An0 ha hr (Jc hs)
theorem Az5 (F:FnOk X.prog X.w X.K X.mg X.base CX k f fd ps sp)(hr:Room k X.A)(hg:Gl X x)(hm:X.mg x=some (.ref f))(hk:PySem.W.keepIn X.K (.ref f)=true)(hb:Binds X.K fd ps ds)(hd:Vals dvs ds)(hx:Li CX X E)
 (ha:PA X (e::es) t) (hdb:(x==("__debug__" : Str))=false:=by decide) (hn:noStar (e::es)=true:=by rfl):PE X (.Call (.Name x p) (e::es) [] pos) (Qy sp dvs E t) :=
 A7k F hr hg hm hk hb hd hx ha hdb (Jc (Gg hn).1) (J4 (Gg hn).2)
theorem Fb (hc:CallR X (.builtin id) r)(hg:Gl X x)(hm:X.mg x=none)(hv:bootBuiltins x=some (.builtin id))(ha:PA X (e::es) t)(hn:x ≠ "__name__" := by decide) (hdb:(x==("__debug__" : Str))=false:=by decide)
 (hns:noStar (e::es)=true:=by rfl):PE X (.Call (.Name x p) (e::es) [] pos) (tCB r t):=A0b hc hg hm hv ha hn hdb (Jc (Gg hns).1) (J4 (Gg hns).2)
theorem Ha (hc:CallR X (.type T) r)(hg:Gl X x)(hm:X.mg x=none)(hv:bootBuiltins x=some (.type T))(ha:PA X (e::es) t)(hn:x ≠ "__name__" := by decide) (hdb:(x==("__debug__" : Str))=false:=by decide)
 (hns:noStar (e::es)=true:=by rfl):PE X (.Call (.Name x p) (e::es) [] pos) (tCB r t):=Au7 hc hg hm hv ha hn hdb (Jc (Gg hns).1) (J4 (Gg hns).2)
end
section
variable {X:Cx}{a b e:Expr}{es:List Expr}{ta tb te:TE}{t:TA}{p pos apos cpos:Pos}{p2:Pos}
theorem Ge   {b:List Keyword}{a:Pos}:Mg (.Call f args b a):=fun _ _=>rfl
theorem Ah7  {a:Pos}:Mg (.Name x a):=fun _ _=>rfl
theorem Ax   {a:Pos}:Mg (.Constant (.int i) j a):=fun _ _=>rfl
theorem Av3 (ha:PE X a ta)(hb:PE X b tb):PE X (.BinOp a .Sub b pos) (tOp (rI0 fun i j=>.int (i-j)) ta tb):=Te Bi2 ha hb
theorem Av0 (ha:PE X a ta)(hb:PE X b tb):PE X (.BinOp a .Mult b pos) (tOp (rI CMul fun i j=>.int (i*j)) ta tb):=Te Bd6 ha hb
theorem Aj2 (ha:PE X a ta)(hb:PE X b tb):PE X (.BinOp a .FloorDiv b pos) (tOp (rI Az6 fun i j=>.int (i / j)) ta tb):=Te A8h ha hb
theorem Ar8 (ha:PE X a ta)(hb:PE X b tb):PE X (.BinOp a .Mod b pos) (tOp (rI (fun _ j=>0<j) fun i j=>.int (i % j)) ta tb):=Te Bg1 ha hb
theorem Av6 (ha:PE X a ta)(hb:PE X b tb):PE X (.BinOp a .Pow b pos) (tOp (rI A0n fun i j=>.int (i ^ j.toNat)) ta tb):=Te Bh3 ha hb
theorem Ax3 (ha:PE X a ta)(hb:PE X b tb):PE X (.BinOp a .Mult b pos) (tOp (A8m) ta tb):=Te Bf3 ha hb
def Bu5:R2:=fun x y H Q=>∃da db,Tr H da x/\Tr H db y/\Flat da/\Flat db/\Q (.bl (PyData.eqv da db)) H
def Bu1:R2:=fun x y H Q=>∃da db,Tr H da x/\Tr H db y/\Flat da/\Flat db/\Q (.bl (!PyData.eqv da db)) H
theorem A2k (ha:PE X a ta)(hb:PE X b tb):PT X (.Compare a [.Lt] [b] pos) (Kv (tOp (rI0 fun i j=>.bl (decide (i<j))) ta tb)):=Ml Bo9 ha hb (Kp _)
theorem A0j (ha:PE X a ta)(hb:PE X b tb):PE X (.Compare a [.Gt] [b] pos) (tOp (rI0 fun i j=>.bl (decide (j<i))) ta tb):=Oc A9m ha hb (Kp _)
theorem A1f (ha:PE X a ta)(hb:PE X b tb):PT X (.Compare a [.Gt] [b] pos) (Kv (tOp (rI0 fun i j=>.bl (decide (j<i))) ta tb)):=Ml A9m ha hb (Kp _)
theorem A4x (ha:PE X a ta)(hb:PE X b tb):PE X (.Compare a [.GtE] [b] pos) (tOp (rI0 fun i j=>.bl (decide (j<=i))) ta tb):=Oc Br6 ha hb (Kp _)
theorem Av5 (ha:PE X a ta)(hb:PE X b tb):PT X (.Compare a [.Is] [b] pos) (Kv (tOp (fun x y H Q=>y=.non/\Q (.bl (decide (x=.non))) H) ta tb)):=Ml Bh9 ha hb (Kp _)
theorem Bk4 (ha:PE X a ta):PE X (.UnaryOp .USub a pos) (tUn (rU fun i=>.int (-i)) ta):=Br7 Bg2 ha
def Rg (K:PySem.W.Frag):List V->Hp->VK->Prop:=fun xs H Q=>∃x n,xs=[x]/\Ar2 H x=some n/\Q (.int (n:Nat)) H
def Ai6 (K:PySem.W.Frag):List V->Hp->VK->Prop:=fun xs H Q=>∃x n,xs=[x]/\Bs0 K x H n/\Q (.int n) H
def Ni (K:PySem.W.Frag):List V->Hp->VK->Prop:=fun xs H Q=>∃i,xs=[.int i]/\Q (.int (if i<0 then -i else i)) H
theorem Ad9 (hgl:Gl X "abs") (hm:X.mg "abs" = none) (ha:PA X (e::es) t) (hns:noStar (e::es)=true:=by rfl):PE X (.Call (.Name "abs" p) (e::es) [] pos) (tCB (Ni X.K) t):=Fb A3r hgl hm Bg4 ha (by decide) (by rfl) hns
def Nq (K:PySem.W.Frag):List V->Hp->VK->Prop:=fun xs H Q=>∃x T t b,xs=[x,.ty T]/\Nf H x=some t/\El t T=some b/\Q (.bl b) H
theorem Ac7 (hgl:Gl X "isinstance") (hm:X.mg "isinstance" = none) (ha:PA X (e::es) t) (hns:noStar (e::es)=true:=by rfl):PE X (.Call (.Name "isinstance" p) (e::es) [] pos) (tCB (Nq X.K) t):=Fb A4p hgl hm Hg ha (by decide) (by rfl) hns
def Jd (K:PySem.W.Frag):List V->Hp->VK->Prop:=fun xs H Q=>∃x p Ts t b,xs=[x,.ref p]/\H p=some (.tup (Ts.map V.ty))/\Nf H x=some t/\J9 t Ts=some b/\Q (.bl b) H
theorem Yw (hgl:Gl X "isinstance") (hm:X.mg "isinstance" = none) (ha:PA X (e::es) t) (hns:noStar (e::es)=true:=by rfl):PE X (.Call (.Name "isinstance" p) (e::es) [] pos) (tCB (Jd X.K) t):=Fb At6 hgl hm Hg ha (by decide) (by rfl) hns
def K5 (K:PySem.W.Frag):List V->Hp->VK->Prop:=fun xs H Q=>∃(a:Addr) (bs:List Bool),xs=[.ref a]/\SqL K H a (bs.map V.bl)/\Q (.bl (bs.all id)) H
theorem Xv (hc:X.calm=true)(hgl:Gl X "all") (hm:X.mg "all" = none) (ha:PA X (e::es) t) (hns:noStar (e::es)=true:=by rfl):PE X (.Call (.Name "all" p) (e::es) [] pos) (tCB (K5 X.K) t):=Fb (Au8 hc) hgl hm Bk5 ha (by decide) (by rfl) hns
def Lk (K:PySem.W.Frag):List V->Hp->VK->Prop:=fun xs H Q=>(∃i,xs=[.int i]/\Q (.int i) H)\/∃k,xs=[.bl k]/\Q (.int (if k then 1 else 0)) H
theorem Xh (hgl:Gl X "int") (hm:X.mg "int" = none) (ha:PA X (e::es) t) (hns:noStar (e::es)=true:=by rfl):PE X (.Call (.Name "int" p) (e::es) [] pos) (tCB (Lk X.K) t):=Ha Au2 hgl hm A2f ha (by decide) (by rfl) hns
def Uh (K:PySem.W.Frag):List V->Hp->VK->Prop:=fun xs H Q=>∃i:Int,xs=[.int i]/\i.natAbs.log2<1920/\Q (.str (toString i)) H
def Y8 (K:PySem.W.Frag):List V->Hp->VK->Prop:=fun xs H Q=>∃a d,xs=[.ref a]/\Tr H d (.ref a)/\d.showable=true/\d.hasDict=false/\d.depth<=40/\d.shown.length<=sizeLine/\Q (.str d.shown) H
def Hi (K:PySem.W.Frag):List V->Hp->VK->Prop:=fun xs H Q=>∃p ys,xs=[.ref p]/\((SqL K H p ys/\∀l,H l=none->Q (.ref l) (upd H l (.tup ys)))\/(SqT K H p ys/\Q (.ref p) H))
theorem Qq (hgl:Gl X "tuple") (hm:X.mg "tuple" = none) (ha:PA X (e::es) t) (hns:noStar (e::es)=true:=by rfl):PE X (.Call (.Name "tuple" p) (e::es) [] pos) (tCB (Hi X.K) t):=Ha Vp hgl hm Jq ha (by decide) (by rfl) hns
def Ip (K:PySem.W.Frag):List V->Hp->VK->Prop:=fun xs H Q=>∃p ys,xs=[.ref p]/\(SqL K H p ys\/SqT K H p ys)/\∀l,H l=none->Q (.ref l) (upd H l (.lst ys))
theorem Ri (hgl:Gl X "list") (hm:X.mg "list" = none) (ha:PA X (e::es) t) (hns:noStar (e::es)=true:=by rfl):PE X (.Call (.Name "list" p) (e::es) [] pos) (tCB (Ip X.K) t):=Ha Ym hgl hm R9 ha (by decide) (by rfl) hns
def K3 (K:PySem.W.Frag):List V->Hp->VK->Prop:=fun xs H Q=>∃i j,xs=[.int i,.int j]/\Q (.int (if j<i then j else i)) H
theorem Ys (hc:X.calm=true)(hgl:Gl X "min") (hm:X.mg "min" = none) (ha:PA X (e::es) t) (hns:noStar (e::es)=true:=by rfl):PE X (.Call (.Name "min" p) (e::es) [] pos) (tCB (K3 X.K) t):=Fb (Au0 hc) hgl hm Bl1 ha (by decide) (by rfl) hns
theorem Av9 (ho:PE X a ta)(hv:PE X e te)(hbase:attributeBase a "append" X.env (eval a X.env)=eval a X.env:=by rfl)
 (hfew:((backTo cpos (starEach [e] X.env)).all (fun x=>!x.1)&&(backToKw cpos (keywordEach [] X.env)).all (fun x=>x.1.isSome)
  && decide ([e].length+([]:List Keyword).length+(if ([]:List Keyword).isEmpty then 0 else 1)<30))=true:=by rfl)
 (hline:(apos.endLine==cpos.line)=true:=by rfl) (hns:isStar e=false:=by rfl) :
 PE X (.Call (.Attribute a "append" apos) [e] [] cpos) (tBM X.K "list" rAppF ta (Ci te Fe)) :=
 A9o PySem.F.plainAttrs_list PySem.F.slot_list_append PySem.F.type_list_append A5c ho (At9 hv N8 hns) hbase hfew hline (Jc hns) rfl
end
def Kz {α:Type}[DecidableEq α](ks:List α)(k:α):Bool:=ks.any fun x=>decide (x=k)
theorem memB_iff  [DecidableEq a] {ks:List a}{k:a}:Kz ks k=true↔k∈ks:=by simp[Kz]
theorem memB_snoc  [DecidableEq b] {ks:List b}{k a:b}:Kz (ks++[k]) a=(Kz ks a||decide (a=k)):=by
 unfold Kz
 grind
def Tp {α:Type}[DecidableEq α](acc:List α)(x:α):List α:=if Kz acc x=true then acc else acc++[x]
def dst {α:Type}[DecidableEq α](xs:List α):List α:=xs.foldl Tp []
theorem O6  [DecidableEq a] (xs:List a) (x:a):dst (xs++[x])=Tp (dst xs) x:=by
 unfold dst;grind
theorem Mh {α:Type}[DecidableEq α]:∀(n:Nat) (xs:List α),xs.length=n->(dst xs).length<=n
 | 0,xs,h=>by cases xs with | nil=>exact Nat.le_refl _ | cons a r=>cases h
 | n+1,xs,h=>by
  rcases List.eq_nil_or_concat xs with rfl | ⟨ys,y,rfl⟩
  ·cases h
  ·rw[List.concat_eq_append]at h ⊢
   have hy:ys.length=n:=by simpa using h
   have ih:=Mh n ys hy;rw[O6];unfold Tp;split
   ·omega
   ·simp;omega
def keyV:V->Option Key
 | .int i=>some (.inl i)
 | .str x=>some (.inr x)
 | _=>none
theorem Ap7    (h:keyV v=some k) (r:RelV v u):M5 k u=true/\u.scannable=true:=by
 cases v with
 | int i=>cases h;obtain⟨t,rfl⟩:=r;exact⟨Wb i t,rfl⟩
 | str x=>cases h;obtain⟨t,rfl⟩:=r;exact⟨We x t,rfl⟩
 | _=>cases h
def Rq (P:Program)(w:World)(a:Addr)(ks:List Key)(h:Heap):Prop:=h.SetOf (En P w) a (Kz ks) ks.length
def Af7 (P:Program)(w:World)(a:Addr)(ks:List Key):HO:=.ext (Rq P w a ks)
theorem Lw      (hs:Rq P w a ks h) (k:∀o,h.get? a=some o->h'.get? a=some o):Rq P w a ks h':=by
 obtain⟨o,c,d,t,e,b⟩:=hs;exact⟨o,c,d,t,k o e,b⟩
theorem Aw7      
 (x:h.SetOf (En P w) a (fun b=>Kz ks b||decide (b=k)) (if Kz ks k then ks.length else ks.length+1)):Rq P w a (Tp ks k) h:=by
 unfold Rq Tp
 by_cases hk:Kz ks k=true
 ·have e:(fun b=>Kz ks b||decide (b=k))=Kz ks:=by
   grind
  simp_all
 ·have e:(fun b=>Kz ks b||decide (b=k))=Kz (ks++[k]):=by
   funext b
   exact memB_snoc.symm
  simp_all
section
variable {P:Program}{w:World}{A:Around}
theorem fill        (W:WalksS P w A.in1 J fp h j n Pv E) (p:S∉fp)
 (ks:List Key) (g:ks.length=n) (is:∀i v,Pv i v->∃k,ks[i]?=some k/\M5 k v=true/\v.scannable=true) (Q:n+1<scanBound) (z:Shared)
 (G:∀s,Moved (S::h) j z s->Rq P w S (dst ks) s.heap->R (.ok (.ret .none)) s) :
 ∀(m i:Nat) (s:Shared),i+m=n->E i s->Moved (S::h) j z s->Rq P w S (dst (ks.take i)) s.heap->codeAny (model P w) A (.builtin "set.update.loop" ⟨[.ref S,.ref J],[]⟩) R s:=by
 have c:S∉h:=fun q=>p (W.sub S q)
 have f:∀b,b∈h->b∈S::h:=fun b q=>.tail _ q
 intro m
 induction m with
 | zero =>
  intro i s e K D r;have e:i=n:=e;subst e;apply codeAny_builtin PyProof.Rows.F.entry_set_update_loop;rw[Around.under_plainId PyProof.Rows.F.plain_set_update_loop _];apply wpAny_bind (m:=pyNext (.ref J));apply W.done s _ _ K;intro d a;apply wpAny_pure
  refine G d (Moved.trans W.gtrans D (a.mono f)) ?_
  have t:ks.take i=ks:=by rw[<- g];exact List.take_length
  rw[t]at r
  exact Lw r fun o q=>a.heap S o c q
 | succ m ih =>
  intro i s e K D r
  have V:i<n:=by omega
  apply codeAny_builtin PyProof.Rows.F.entry_set_update_loop;rw[Around.under_plainId PyProof.Rows.F.plain_set_update_loop _];apply wpAny_bind (m:=pyNext (.ref J));apply W.item i s _ _ V K;intro v d Z F a;obtain⟨k,U,O,X⟩:=is i v Z;have H:Moved (S::h) j z d:=Moved.trans W.gtrans D (a.mono f)
  show wpAny _ A.in1 (holding [v] (setAdd S v) >>= _) _ _ d
  apply wpAny_bind;apply wpAny_holding;unfold setAdd;apply wpAny_holding;apply wpAny_bind
  refine (En P w).pyHash (k:=k) O ?_
  have l:(dst (ks.take i)).length+1<scanBound:=by
   have:=Mh _ (ks.take i) rfl
   have:(ks.take i).length<=n:=by rw[<- g];exact List.length_take_le' _ _
   omega
  have tk:ks.take (i+1)=ks.take i++[k]:=by rw[List.take_add_one,U];rfl
  have T:∀(B:Nat),d.toks<=B->wpAny (model P w) A.in1 (setAddHashed S v ((En P w).hash k)) (fun _ u=>Moved (S::h) j z u/\Rq P w S (dst (ks.take (i+1))) u.heap/\E (i+1) u) (fun _ _=>False) { d with toks:=B }:=by
   intro B N
   refine wpAny_setAddHashed_of (knd:=En P w) (s:={ d with toks:=B }) O X (Lw r fun o q=>a.heap S o c q) l fun Y M so=>?_
   refine⟨Moved.then_heap H N fun b o q x=>?_,?_,W.frame (i+1) d Y _ F N fun b q o x=>?_⟩
   ·rw[M.2 b fun y=>q (y▸.head _)];exact x
   ·rw[tk,O6];exact Aw7 so
   ·rw[M.2 b fun y=>p (y▸q)];exact x
  refine wpAny_mono (T _ (Nat.le_succ _)) (fun b u y=>?_) fun _ _ q=>q.elim
  obtain⟨I,L,C⟩:=y
  exact wpAny_pure ⟨plainId_quiet PyProof.Rows.F.plain_set_update_loop _,ih _ _ (by omega) C I L⟩
abbrev bare (led:Bool):Obj:={ cls:=.type "set",dict:=none,data:=.set #[] 0 (.fresh 0 0 led) }
abbrev Fg (s:Shared)(led:Bool):Shared:={ s with heap:=s.heap.push (bare led) }
theorem Ny (s:Shared)(led:Bool):(Fg s led).heap.get? s.heap.objs.size=some (bare led):=Heap.get?_push_size _ rfl
abbrev A4j (P:Program)(w:World)(A:Around)(R:Result->Shared->Prop)(f:Fin)(z:Shared):Prop:=match f with
 | .done f=>R (.ok f) z
 | .again c=>c.quiet=true/\codeAny (model P w) A c R z
theorem Aa6     (Z:Shared->Prop) (hZ:∀z,Z z->Q (.ref s.heap.objs.size) z)
 (body:∀b:Bool,wpAny (model P w) A.in1.in1 (Builtin.«set.__init__» ⟨[.ref s.heap.objs.size,a],[]⟩) (A4j P w A.in1 (wants (fun r z=>r=.none/\Z z) E)) (fun e z=>wants (fun r z=>r=.none/\Z z) E (.error e) z) (Fg s b)) :
 wpAny (model P w) A (call (.type "set") [a]) Q E s:=by
 have tc:=F.called_set;obtain⟨c0,cs,mro⟩:=tc.mro;have f1:=tc.made;have f2:=tc.sub;have f3:=tc.notType;have f4:=tc.canCreate;have f5:=F.typeCall_set_1 a;apply wpAny_call;apply codeAny_of_tree
 show wpAny _ _ (callAny (.type "set") ⟨[a],[]⟩) _ _ _
 refine wpAny_pure (And.intro (Code.quiet_builtin _ (by decide +kernel)) (codeAny_builtin F.entry_type_call ?_))
 rw[Around.under_plain (weight_type_call_type "set" [a] []) rfl]
 repeat any_goals first | wp_step | assumption
 have made:=code_set_new_1 (prog:=P) (w:=w) (A:=A.in1) (E:=E) (s:=s) a (Q₁:=fun o z=>∃b,o=.ref s.heap.objs.size/\z=Fg s b) fun b=>⟨b,rfl,rfl⟩
 refine codeAny_mono made fun r z hz=>?_
 rcases r with (_ | f)
 ·exact hz
 cases f with
 | ret o =>
  obtain⟨b,rfl,rfl⟩:=hz;have ty:Shared.TypeIs (Fg s b) (.ref s.heap.objs.size) "set" := ⟨_,Ny s b,rfl⟩;have f6:=tc.init.lookup;have f7:=tc.init.bind (.ref s.heap.objs.size)
  repeat any_goals first | wp_step | assumption
  refine codeAny_mono (codeAny_call_builtin (R:=wants (fun r z=>r=.none/\Z z) E) tc.init.plain F.entry_set_init (check_set_init_1 (a:=a) ty (body b))) fun r z hz=>?_
  rcases r with (_ | f)
  ·exact hz
  cases f with
  | ret o =>
   obtain⟨rfl,hz⟩:=hz
   repeat any_goals first | wp_step | assumption
   exact hZ _ hz
  | _=>exact hz.elim
 | _=>exact hz.elim
theorem Ah2   {a:List Value}    (g:A.handled=none) (hl:s.heap.IsList l a.toArray)
 (is:∀(i:Nat) (v:Value),a[i]?=some v->∃k,ks[i]?=some k/\M5 k v=true/\v.scannable=true) (hlen:ks.length=a.length) (few:a.length+1<scanBound)
 (fin:∀d tk,Rq P w s.heap.objs.size (dst ks) d->(∀b o,s.heap.get? b=some o->d.get? b=some o)->Q (.ref s.heap.objs.size) { s with heap:=d,toks:=tk }) :
 wpAny (model P w) A (call (.type "set") [.ref l]) Q E s:=by
 refine Aa6 (fun z=>∃d tk,z={ s with heap:=d,toks:=tk }/\Rq P w s.heap.objs.size (dst ks) d/\∀b o,s.heap.get? b=some o->d.get? b=some o) ?_ fun c=>?_
 ·rintro z ⟨d,tk,rfl,q1,q2⟩
  exact fin d tk q1 q2
 have here:=Ny s c;have hl2:(Fg s c).heap.IsList l a.toArray:=hl.push _;obtain⟨ob,g1,g2,n,g3⟩:=hl2;obtain⟨_,dct,_,sls⟩:=ob
 dsimp only at g2 g3
 subst g2 g3;have w1:=F.sub_list_set;have w2:=F.sub_list_frozenset
 have w3:(Value.type "list" == Value.type "dict")=false:=by decide
 have hl3:(Fg s c).heap.IsList l a.toArray:=⟨_,g1,rfl,n,rfl⟩;unfold Builtin.«set.__init__» Builtin.Frozenset.updateFrom noKeywords;generalize walk:pyIter=itr
 wp_walk
 subst walk;apply wpAny_pyIter_list hl3;apply wpAny_bind;apply wpAny_runValue
 have lt:l<s.heap.objs.size:=by obtain⟨o,e,_⟩:=hl;exact Heap.lt_size e
 have sz:(Fg s c).heap.objs.size=s.heap.objs.size+1:=Heap.size_push _ _
 have f:A.in1.in1.in1.handled=none:=by simp[g]
 have apart:l≠(Fg s c).heap.objs.size:=by rw[sz];exact Nat.ne_of_lt (Nat.lt_succ_of_lt lt)
 have wk:=(Walks.list (prog:=P) (w:=w) f _ l apart a.toArray).toS
 refine fill wk (S:=s.heap.objs.size) ?_ ks (by simpa using hlen) (fun i v p=>is i v (by simpa using p)) (by simpa using few) _ ?_ a.length 0 _ (by simp) ⟨⟨_,Heap.get?_push_size _ rfl,rfl,rfl⟩,hl3.push _⟩ (Moved.refl wk.grefl) ?_
 ·rw[sz]
  intro q
  rcases List.mem_cons.mp q with q | q
  ·exact Nat.ne_of_lt (Nat.lt_succ_self _) q
  ·exact Nat.ne_of_gt lt (List.mem_singleton.mp q)
 ·intro z mv sh
  obtain⟨d,g',d',t',o'⟩:=z;have e1:g'=s.gens:=mv.gens;have e2:d'=s.drawn:=mv.drawn;have e3:o'=s.os:=mv.os;subst e1 e2 e3;apply wpAny_pure
  show wpAny _ _ (ret Value.none) _ _ _
  refine wpAny_pure ⟨rfl,d,t',rfl,sh,fun b o q=>mv.heap b o ?_ (Heap.get?_push_of_some _ (Heap.get?_push_of_some _ q))⟩
  have bl:=Heap.lt_size q;intro m
  rcases List.mem_cons.mp m with m | m
  ·exact Nat.ne_of_lt bl m
  ·have m:=List.mem_singleton.mp m
   rw[sz]at m;exact Nat.ne_of_lt (Nat.lt_succ_of_lt bl) m
 ·have new:((Fg s c).heap.push { cls:=.type "list_iterator",data:=.fields #[.ref l,.int 0 0] }).get? s.heap.objs.size=some (bare c):=Heap.get?_push_of_some _ here
  have e:Kz ([]:List Key)=fun _=>false:=rfl
  show Heap.SetOf (En P w) _ _ (Kz []) 0
  rw[e]
  exact⟨_,_,_,_,new,⟨rfl,rfl,rfl⟩,rfl,fun x m=>by simp at m,fun k=>by simp,by decide,by cases c <;> rfl,rfl⟩
end
section
variable {X:Cx}
def V7 (P:Program)(w:World)(K:PySem.W.Frag):List V->Hp->VK->Prop:=fun xs H Q=>∃(a:Addr) (vs:List V) (ks:List Key),xs=[.ref a]/\SqL K H a vs/\vs.map keyV=ks.map some/\vs.length<1000/\∀p,H p=none->Q (.ref p) (upd H p (Af7 P w p (dst ks)))
def Hw (P:Program)(w:World):List V->Hp->VK->Prop:=fun xs H Q=>∃(p:Addr) (ks:List Key),xs=[.ref p]/\H p=some (Af7 P w p ks)/\ks.length<1000/\Q (.int (ks.length:Nat)) H
theorem Ar6 (hc:X.calm=true):CallR X (.type "set") (V7 X.prog X.w X.K):=by
 intro l s σ H xs us Q I r h;obtain⟨a,d,b,rfl,B,p,hv,q⟩:=h;obtain⟨u,rfl,f⟩:=vals1 r
 cases (show u=Value.ref a from f)
 obtain⟨D,c,t,hz⟩:=I.list B
 have j:b.length=d.length:=by have:=congrArg List.length p;simpa using this.symm
 refine Ah2 (ks:=b) (I.ok.hd hc) t.isList (fun i v e=>?_) (by rw[j,c.length]) (by rw[<- c.length];unfold scanBound;omega) fun h' tk m A=>?_
 ·have w:i<d.length:=by have:=(List.getElem?_eq_some_iff.mp e).1;rw[c.length];exact this
  have g:i<b.length:=by omega
  obtain⟨u,n,f⟩:=c.get (i:=i) (x:=d[i]) (by simp[w])
  rw[e]at n
  cases n
  have C:keyV d[i]=some b[i]:=by
   have:=congrArg (fun z=>z[i]?) p
   grind
  exact⟨b[i],by simp[g],Ap7 C f⟩
 ·have k:z9 X.prog X.w (upd H s.heap.objs.size (Af7 X.prog X.w s.heap.objs.size (dst b))) _ _ (Af7 _ _ _ _) :=
   ⟨m,let ⟨o,_,_,_,e,_⟩:=m; ⟨o,e⟩,fun h1 h2 x y=>Lw x y⟩
  exact⟨.ref _,_,I.laid  A (Nat.le_refl _) k,rfl,q _ (I.hok.fresh (Nat.le_refl _))⟩
theorem Q4:CallR X (.builtin "len") (Hw X.prog X.w):=by
 intro a s σ H xs us Q I r h;obtain⟨p,ks,rfl,d,hn,q⟩:=h;obtain⟨u,rfl,f⟩:=vals1 r
 cases (f)
 obtain⟨⟨o,es,ep,t,e,c,g,x3,x4,x5,i,b⟩,_⟩:=I.hok p _ d
 refine call_len_set e c g i (by omega) ?_
 rw[b];exact⟨.int _,H,I.tok _ |>.tok _,⟨_,rfl⟩,q⟩
theorem Ax4    (hc:X.calm=true) (hgs:Gl X "set") (hms:X.mg "set" = none) (hgl:Gl X "len") (hml:X.mg "len" = none) (he:PE X e c) (hns:isStar e=false:=by rfl) :
 PE X (.Call (.Name "len" p) [.Call (.Name "set" d) [e] [] a] [] b) (tCB (Hw X.prog X.w) (Ci (tCB (V7 X.prog X.w X.K) (Ci c Fe)) Fe)) :=
 Fb Q4 hgl hml Ag0 (At9 (Ha (Ar6 hc) hgs hms A4g (At9 he N8 hns) (by decide) (by rfl) (by show !isStar e&&true=true;grind)) N8 rfl) (by decide) (by rfl) rfl
end
section
variable {P:Program}{w:World}{A:Around}{E:Value->Shared->Prop}{s:Shared}
theorem Q5    (a:s.heap.IsTupleIter j u k)
 (body:wpAny (model P w) A.in1 (Builtin.«tuple_iterator.__next__» ⟨[.ref j],[]⟩) (fun f z=>∃v,f=.done (.ret v)/\Q v z) E s) :
 wpAny (model P w) A (Builtin.SmallTypes.nextOf (.ref j)) Q E s:=by
 apply wpAny_bind
 refine wpAny_callSpecial?_slot  a.typeIs F.slot_tuple_iterator_next ?_
 refine wpAny_call_entry F.slot_tuple_iterator_next a.typeIs F.entry_tuple_iterator_next ?_ (F.args_tuple_iterator_next_1 _)
 refine wpAny_mono body (fun f z c=>?_) fun _ _ q=>q
 obtain⟨v,b,q⟩:=c;exact⟨v,b,wpAny_pure q⟩
theorem Ak1      (c:s.heap.IsTupleIter j u k) (g:s.heap.IsTuple u vs) (hx:vs[k]?=some x)
 (q:∀h',h'.IsTupleIter j u (k+1)->Heap.SameBut j s.heap h'->Q x { s with heap:=h' }):wpAny (model P w) A (Builtin.SmallTypes.nextOf (.ref j)) Q E s:=by
 refine Q5 c ?_
 obtain⟨o,d,f,b⟩:=c;obtain⟨i,h,_,n,e⟩:=g;apply wpAny_bind (m:=field _ 0);apply wpAny_field d b  rfl;apply wpAny_bind ;apply wpAny_field d b  rfl;apply wpAny_bind ;apply wpAny_seqItems h e;simp only[hx,Int.toNat_natCast];apply wpAny_bind
 apply wpAny_setField d b (by simp)
 apply wpAny_pure
 refine⟨x,rfl,q _ ⟨_,(Heap.get?_update_self (Obj.mapFields fun a=>a.setIfInBounds 1 (rawInt (k+1))) d (Obj.isFreed_of_fields (Obj.data_mapFields b _))),(Obj.cls_mapFields ..).trans f,?_⟩ (Heap.SameBut.update ..)⟩
 rw[Obj.data_mapFields b]
 trivial
theorem Ay0     (c:A.handled=none) (d:s.heap.IsTupleIter j u k) (h:s.heap.IsTuple u vs) (hx:vs[k]?=none)
 (q:∀h' e,Heap.ExtBut j s.heap h'->(∃o,h'.get? e=some o/\o.cls=.type "StopIteration")->E (.ref e) { s with heap:=h' }):wpAny (model P w) A (Builtin.SmallTypes.nextOf (.ref j)) Q E s:=by
 refine Q5 d ?_
 obtain⟨o,f,r,g⟩:=d;obtain⟨t,i,_,n,l⟩:=h;apply wpAny_bind (m:=field (.ref j) 0);apply wpAny_field f g (x:=.ref u) rfl;have p:¬ ((Value.ref u==Value.none)=true):=Bool.false_ne_true
 show wpAny _ _ (if (Value.ref u==.none)=true then _ else _) _ _ _
 rw[if_neg p];apply wpAny_bind (m:=field (.ref j) 1);apply wpAny_field f g (x:=.int k 0) rfl;apply wpAny_bind (m:=seqItems? (.ref u));apply wpAny_seqItems i l;simp only[hx,Int.toNat_natCast];apply wpAny_bind;apply wpAny_rule;apply wpAny_bind
 apply wpAny_setField f g (by simp)
 apply wpAny_bind (m:=newExc (.type "StopIteration") []);unfold newExc newTuple;apply wpAny_bind
 refine wpAny_newObj_type ?_ (by size_fits )
 apply wpAny_bind (m:=firstArgMember _ _)
 refine wpAny_of_eq (a:=Value.none) (by simp only[firstArgMember];rfl) ?_
 refine wpAny_newObj_type ?_ (by size_fits )
 unfold raiseNew;apply wpAny_bind;apply wpAny_handled;have b:A.in1.handled=none:=c;rw[b]
 refine wpAny_bind (wpAny_pure ?_)
 apply wpAny_throw;exact q _ _ (((Heap.SameBut.update ..).extBut.push _).push _) ⟨_,Heap.get?_push_size _ rfl,rfl⟩
def ItAt (t:Bool)(h:Heap)(j u:Addr)(k:Nat):Prop:=match t with
 | true=>h.IsTupleIter j u k
 | false=>h.IsListIter j u k
def SqA (t:Bool)(h:Heap)(u:Addr)(vs:Array Value):Prop:=match t with
 | true=>h.IsTuple u vs
 | false=>h.IsList u vs
theorem ItAt.stay     (x:ItAt t h j u k) (q:∀o,h.get? j=some o->h'.get? j=some o):ItAt t h' j u k:=by
 cases t <;> (obtain⟨o,e,r⟩:=x;exact⟨o,q o e,r⟩)
theorem ItAt.obj     (x:ItAt t h j u k):∃o,h.get? j=some o/\o.data=.fields #[.ref u,.int k 0]:=by
 cases t <;> (obtain⟨o,e,_,r⟩:=x;grind)
theorem SqA.stay     (x:SqA t h u vs) (q:∀o,h.get? u=some o->h'.get? u=some o):SqA t h' u vs:=by
 cases t <;> (obtain⟨o,e,r⟩:=x;exact⟨o,q o e,r⟩)
theorem next_item       (a:ItAt t s.heap j u k) (b:SqA t s.heap u vs) (hx:vs[k]?=some x)
 (q:∀h',ItAt t h' j u (k+1)->Heap.SameBut j s.heap h'->Q x { s with heap:=h' }):wpAny (model P w) A (Builtin.SmallTypes.nextOf (.ref j)) Q E s:=by
 cases t
 ·exact wpAny_nextOf_list_item a b hx q
 ·exact Ak1 a b hx q
theorem next_end      (c:A.handled=none) (a:ItAt t s.heap j u k) (b:SqA t s.heap u vs) (hx:vs[k]?=none)
 (q:∀h' e,Heap.ExtBut j s.heap h'->(∃o,h'.get? e=some o/\o.cls=.type "StopIteration")->E (.ref e) { s with heap:=h' }):wpAny (model P w) A (Builtin.SmallTypes.nextOf (.ref j)) Q E s:=by
 cases t
 ·exact wpAny_nextOf_list_end c a b hx q
 ·exact Ay0 c a b hx q
structure Zk (h:Heap) (t1 t2:Bool) (z ti to i1 i2 a b:Addr) (f0:Value) (k:Nat):Prop where
 zip:IsZip h z ti to f0
 ins:IsPair h ti (.ref i1) (.ref i2)
 outs:∃u v,IsPair h to u v
 one:ItAt t1 h i1 a k
 two:ItAt t2 h i2 b k
structure zB (z ti to i1 i2 a b:Addr):Prop where
 nd:[z,ti,to,i1,i2].Nodup
 na:a∉[z,ti,to,i1,i2]
 nb:b∉[z,ti,to,i1,i2]
theorem zB.z_ti (x:zB z ti to i1 i2 a b):ti≠z:=by have:=x.nd;grind
theorem zB.z_to (x:zB z ti to i1 i2 a b):to≠z:=by have:=x.nd;grind
theorem zB.z_i1 (x:zB z ti to i1 i2 a b):i1≠z:=by have:=x.nd;grind
theorem zB.z_i2 (x:zB z ti to i1 i2 a b):i2≠z:=by have:=x.nd;grind
theorem zB.to_i1 (x:zB z ti to i1 i2 a b):to≠i1:=by have:=x.nd;simp_all
theorem zB.to_i2 (x:zB z ti to i1 i2 a b):to≠i2:=by have:=x.nd;simp_all
theorem zB.i1_i2 (x:zB z ti to i1 i2 a b):i1≠i2:=by have:=x.nd;simp_all
theorem zB.ti_to (x:zB z ti to i1 i2 a b):ti≠to:=by have:=x.nd;simp_all
theorem zB.ti_i1 (x:zB z ti to i1 i2 a b):ti≠i1:=by have:=x.nd;simp_all
theorem zB.ti_i2 (x:zB z ti to i1 i2 a b):ti≠i2:=by have:=x.nd;simp_all
theorem A1d      {Q:Value->Shared->Prop}(d:zB z j h r t a b) (y:Zk s.heap t1 t2 z j h r t a b .none k)
 (ha:SqA t1 s.heap a xs) (hb:SqA t2 s.heap b ys) (hx:xs[k]?=some x) (O:ys[k]?=some x')
 (q:∀h',Zk h' t1 t2 z j h r t a b (rawInt s.heap.objs.size) (k+1)->IsPair h' s.heap.objs.size x x'->(∀c o,c∉[z,j,h,r,t]->s.heap.get? c=some o->h'.get? c=some o)->Q (.ref s.heap.objs.size) { s with heap:=h' }) :
 wpAny (model P w) A (Builtin.«zip.__next__» ⟨[.ref z],[]⟩) (fun f z=>∃v,f=.done (.ret v)/\Q v z) E s:=by
 obtain⟨u0,N,o0⟩:=y.outs;have S:=d.na;have I:=d.nb;simp only[List.mem_cons,List.not_mem_nil,or_false,not_or]at S I;apply wpAny_bind (m:=field (.ref z) 2);apply wpAny_field y.zip rfl (x:=.bool false) rfl;apply wpAny_bind (m:=field (.ref z) 3);apply wpAny_field y.zip rfl (x:=.ref j) rfl;apply wpAny_bind;apply wpAny_seqItems y.ins rfl;apply wpAny_bind (m:=Builtin.SmallTypes.ownedTupleIsFree (.ref z));unfold Builtin.SmallTypes.ownedTupleIsFree;apply wpAny_bind;apply wpAny_field y.zip rfl (x:=.none) rfl;apply wpAny_pure;simp only[if_true];apply wpAny_bind;apply wpAny_rule;apply wpAny_bind;apply wpAny_field y.zip rfl (x:=.ref h) rfl;apply wpAny_bind
 apply wpAny_setField_rec y.zip (by simp)
 intro g1 L n;have L:IsZip g1 z j h .ellipsis:=L;apply wpAny_bind;simp only[List.zipIdx_cons,List.zipIdx_nil,List.forIn_cons,List.forIn_nil];apply wpAny_bind;apply wpAny_bind;apply wpAny_onRaise;apply wpAny_bind (m:=Builtin.SmallTypes.nextOf (.ref r))
 refine next_item (y.one.stay fun o e=>n.extBut _ _ d.z_i1 e) (ha.stay fun o e=>n.extBut _ _ S.1 e) hx fun g2 n1 u=>?_
 apply wpAny_pure;have V:IsPair g2 h u0 N:=u.extBut _ _ d.to_i1 (n.extBut _ _ d.z_to o0);apply wpAny_bind;apply wpAny_seqItems V rfl;apply wpAny_bind;apply wpAny_updateSeq_pair V;intro g3 R B;have R:IsPair g3 h x N:=R;apply wpAny_bind;apply wpAny_letGo;apply wpAny_pure;apply wpAny_bind;apply wpAny_bind;apply wpAny_onRaise;apply wpAny_bind (m:=Builtin.SmallTypes.nextOf (.ref t))
 refine next_item (y.two.stay fun o e=>B.extBut _ _ d.to_i2.symm (u.extBut _ _ d.i1_i2.symm (n.extBut _ _ d.z_i2 e))) (hb.stay fun o e=>B.extBut _ _ I.2.2.1 (u.extBut _ _ I.2.2.2.1 (n.extBut _ _ I.1 e))) O fun g4 n2 D=>?_
 apply wpAny_pure;have U:IsPair g4 h x N:=D.extBut _ _ d.to_i2 R;apply wpAny_bind;apply wpAny_seqItems U rfl;apply wpAny_bind;apply wpAny_updateSeq_pair U;intro i K F;have K:IsPair i h x x':=K;apply wpAny_bind;apply wpAny_letGo;apply wpAny_pure;apply wpAny_pure;apply wpAny_bind;apply wpAny_seqItems K rfl;apply wpAny_bind
 refine wpAny_newTuple ?_
 have W:i.objs.size=s.heap.objs.size:=by rw[F.1,D.1,B.1,u.1,n.1]
 have l:∀c o,c≠z->c≠h->c≠r->c≠t->s.heap.get? c=some o->i.get? c=some o:=fun c o p1 T p3 p4 e=>F.extBut _ _ T (D.extBut _ _ p4 (B.extBut _ _ T (u.extBut _ _ p3 (n.extBut _ _ p1 e))))
 have Y:IsZip i z j h .ellipsis:=F.extBut _ _ d.z_to.symm (D.extBut _ _ d.z_i2.symm (B.extBut _ _ d.z_to.symm (u.extBut _ _ d.z_i1.symm L)))
 have m1:ItAt t1 i r a (k+1):=n1.stay fun o e=>F.extBut _ _ d.to_i1.symm (D.extBut _ _ d.i1_i2 (B.extBut _ _ d.to_i1.symm e))
 have m2:ItAt t2 i t b (k+1):=n2.stay fun o e=>F.extBut _ _ d.to_i2.symm e
 apply wpAny_bind (m:=Builtin.SmallTypes.ownedTupleHandOut (.ref z) (.ref i.objs.size));unfold Builtin.SmallTypes.ownedTupleHandOut;have z6:IsZip (i.push { cls:=.type "tuple",data:=.seq #[x,x'] }) z j h .ellipsis:=Heap.get?_push_of_some _ Y;apply wpAny_bind
 apply wpAny_setField_rec z6 (by simp)
 intro g7 M X;have M:IsZip g7 z j h (rawInt i.objs.size):=M
 apply wpAny_setField_rec M (by simp)
 intro H J Z;have J:IsZip H z j h (rawInt i.objs.size):=J
 have g:∀c o,c≠z->i.get? c=some o->H.get? c=some o:=fun c o p e=>Z.extBut _ _ p (X.extBut _ _ p (Heap.get?_push_of_some _ e))
 have G:z<i.objs.size:=Heap.lt_size Y;have C:IsPair H i.objs.size x x':=Z.extBut _ _ (Nat.ne_of_gt G) (X.extBut _ _ (Nat.ne_of_gt G) (Heap.get?_push_size _ rfl));rw[W]at J C;apply wpAny_pure
 refine⟨_,rfl,?_⟩
 show Q (.ref i.objs.size) _
 rw[W]
 refine q H ⟨J,g _ _ d.z_ti (l _ _ d.z_ti d.ti_to d.ti_i1 d.ti_i2 y.ins),⟨x,x',g _ _ d.z_to K⟩,m1.stay fun o e=>g _ _ d.z_i1 e,m2.stay fun o e=>g _ _ d.z_i2 e⟩ C fun c o p e=>?_
 simp  at p
 exact g c o p.1 (l c o p.1 p.2.2.1 p.2.2.2.1 p.2.2.2.2 e)
theorem A0u      (f:A.handled=none) (d:zB z l j v C a b) (y:Zk s.heap t1 t2 z l j v C a b .none k)
 (ha:SqA t1 s.heap a xs) (hb:SqA t2 s.heap b ys) (hx:xs[k]?=none\/ys[k]?=none)
 (q:∀h' e,(∀c o,c∉[z,l,j,v,C]->s.heap.get? c=some o->h'.get? c=some o)->(∃o,h'.get? e=some o/\o.cls=.type "StopIteration")->E (.ref e) { s with heap:=h' }) :
 wpAny (model P w) A (Builtin.«zip.__next__» ⟨[.ref z],[]⟩) F E s:=by
 obtain⟨T,V,S⟩:=y.outs;have I:=d.na;have B:=d.nb;simp only[List.mem_cons,List.not_mem_nil,or_false,not_or]at I B;apply wpAny_bind (m:=field (.ref z) 2);apply wpAny_field y.zip rfl (x:=.bool false) rfl;apply wpAny_bind (m:=field (.ref z) 3);apply wpAny_field y.zip rfl (x:=.ref l) rfl;apply wpAny_bind;apply wpAny_seqItems y.ins rfl;apply wpAny_bind (m:=Builtin.SmallTypes.ownedTupleIsFree (.ref z));unfold Builtin.SmallTypes.ownedTupleIsFree;apply wpAny_bind;apply wpAny_field y.zip rfl (x:=.none) rfl;apply wpAny_pure;simp only[if_true];apply wpAny_bind;apply wpAny_rule;apply wpAny_bind;apply wpAny_field y.zip rfl (x:=.ref j) rfl;apply wpAny_bind
 apply wpAny_setField_rec y.zip (by simp)
 intro U u g;have u:IsZip U z l j .ellipsis:=u;apply wpAny_bind;simp only[List.zipIdx_cons,List.zipIdx_nil,List.forIn_cons,List.forIn_nil];apply wpAny_bind;apply wpAny_bind;apply wpAny_onRaise;apply wpAny_bind (m:=Builtin.SmallTypes.nextOf (.ref v))
 cases e1:xs[k]? with
 | none =>
  refine next_end f (y.one.stay fun o e=>g.extBut _ _ d.z_i1 e) (ha.stay fun o e=>g.extBut _ _ I.1 e) e1 fun H x i K=>?_
  obtain⟨D,r,t⟩:=K;have Q:IsZip H z l j .ellipsis:=i _ _ d.z_i1.symm u
  have G:x≠z:=fun e=>by subst e;rw[Q]at r;cases r;simp at t
  apply wpAny_setField_rec Q (by simp)
  intro N _ n
  refine q N x (fun c o p e=>?_) ⟨D,n.extBut _ _ G r,t⟩
  simp only[List.mem_cons,List.not_mem_nil,or_false,not_or]at p;exact n.extBut _ _ p.1 (i _ _ p.2.2.2.1 (g.extBut _ _ p.1 e))
 | some x =>
  have Y:ys[k]?=none:=by
   rcases hx with h | h
   ·rw[e1]at h;cases h
   ·exact h
  refine next_item (y.one.stay fun o e=>g.extBut _ _ d.z_i1 e) (ha.stay fun o e=>g.extBut _ _ I.1 e) e1 fun H n1 i=>?_
  apply wpAny_pure;have O:IsPair H j T V:=i.extBut _ _ d.to_i1 (g.extBut _ _ d.z_to S);apply wpAny_bind;apply wpAny_seqItems O rfl;apply wpAny_bind;apply wpAny_updateSeq_pair O;intro N Z n;apply wpAny_bind;apply wpAny_letGo;apply wpAny_pure;apply wpAny_bind;apply wpAny_bind;apply wpAny_onRaise;apply wpAny_bind (m:=Builtin.SmallTypes.nextOf (.ref C))
  refine next_end f (y.two.stay fun o e=>n.extBut _ _ d.to_i2.symm (i.extBut _ _ d.i1_i2.symm (g.extBut _ _ d.z_i2 e))) (hb.stay fun o e=>n.extBut _ _ B.2.2.1 (i.extBut _ _ B.2.2.2.1 (g.extBut _ _ B.1 e))) Y fun W x M J=>?_
  obtain⟨D,r,t⟩:=J;have R:IsZip W z l j .ellipsis:=M _ _ d.z_i2.symm (n.extBut _ _ d.z_to.symm (i.extBut _ _ d.z_i1.symm u))
  have G:x≠z:=fun e=>by subst e;rw[R]at r;cases r;simp at t
  apply wpAny_setField_rec R (by simp)
  intro X _ L
  refine q X x (fun c o p e=>?_) ⟨D,L.extBut _ _ G r,t⟩
  simp only[List.mem_cons,List.not_mem_nil,or_false,not_or]at p;exact L.extBut _ _ p.1 (M _ _ p.2.2.2.2 (n.extBut _ _ p.2.2.1 (i.extBut _ _ p.2.2.2.1 (g.extBut _ _ p.1 e))))
end
section
variable {X:Cx}{pins:List (Addr×Obj)}{σ:St}{H:Hp}{s:Shared}{h':Heap}
theorem Inv.turnLay {ch:List Addr}{p:Addr}{o:HO}{t':Nat}(I:Inv X pins σ H s)(hf:∀b∈ch,Rj X pins H b)(k:∀b u,b∉ch->s.heap.get? b=some u->h'.get? b=some u)(hp:s.heap.objs.size<=p)(w:z9 X.prog X.w (upd H p o) h' p o) :
 Inv X pins σ (upd H p o) { s with heap:=h',toks:=t' }:=by
 have g:H p=none:=I.hok.fresh hp
 have t:∀b u,H b=some u->b∉ch:=fun b u e z=>by rw[(hf b z).1]at e;grind
 have d:∀b u,H b=some u->b≠p:=fun b u e=>Bv e g
 have h:∀b u,s.heap.get? b=some u->b≠p:=fun b u e z=>absurd (Heap.lt_size e) (by simp_all)
 refine I.step (g':=s.gens) (d':=s.drawn) (ch:=ch) (fun b f=>?_) (fun b u _ _ a e _=>k b u a e) (fun b u _ _ a e _=>⟨u.slots,k b u a e⟩) (fun b u _ e n=>?_) (fun b u a e=>⟨u,k b u a e⟩)
  (fun b i e=>?_) (fun b o u e=>?_) (fun b B e=>?_) (fun m x=>?_) (fun b u e=>?_) I.bare
 ·obtain⟨F,G,J,C,D,E⟩:=hf b f
  grind
 ·rw[Ak (h b u e)];grind
 ·rw[Ak (d b _ e)];grind
 ·rw[Ak (d b _ e)];omega
 ·rw[Ak (d b _ e)];grind
 ·obtain⟨j,y,A,l,r⟩:=x
  exact⟨j,y,A,k _ _ (fun z=>(hf _ z).2.1 rfl) l,r⟩
 ·by_cases f:b=p
  ·subst f;rw[Be]at e;grind
  ·rw[Ak f]at e
   refine (I.hok b u e).stay (fun c v a q=>k c v ?_ q) fun c q=>by rw[Ak (d c _ q)];grind fun c i q=>by rw[Ak (d c _ q)];grind fun c j i q=>by rw[Ak (d c _ q)];grind
   grind
theorem Inv.turnL {ch:List Addr}{t':Nat}(I:Inv X pins σ H s)(hf:∀b∈ch,Rj X pins H b)(k:∀b u,b∉ch->s.heap.get? b=some u->h'.get? b=some u):Inv X pins σ H { s with heap:=h',toks:=t' }:=by
 have g:∀b u,H b=some u->b∉ch:=fun b u e z=>by rw[(hf b z).1]at e;grind
 refine I.step    (fun b f=>?_) (fun b u _ _ a e _=>k b u a e) (fun b u _ _ a e _=>⟨u.slots,k b u a e⟩) (fun b u _ e n=>n) (fun b u a e=>⟨u,k b u a e⟩)
  (fun b i e=>e) (fun b o u e=>e) (fun b t e=>e) (fun m j=>?_) (fun b u e=>?_) I.bare
 ·obtain⟨A,B,C,w,x,y⟩:=hf b f
  grind
 ·obtain⟨h,l,p,d,r⟩:=j
  exact⟨h,l,p,k _ _ (fun z=>(hf _ z).2.1 rfl) d,r⟩
 ·refine (I.hok b u e).stay (fun c v a q=>k c v ?_ q) (fun c q=>q) fun c i q=>q
  grind
end
def SqK (t:Bool)(H:Hp)(a:Addr)(xs:List V):Prop:=match t with
 | true=>H a=some (.tup xs)
 | false=>H a=some (.lst xs)
theorem SqK.one     (x:SqK t H a xs) (y:SqK t H a ys):xs=ys:=by
 cases t
 ·have y:H a=some _:=y
  rw[x]at y;cases y;rfl
 ·have y:H a=some _:=y
  rw[x]at y;cases y;rfl
theorem SqK.some     (x:SqK t H a xs):∃o,H a=some o:=by
 cases t
 ·exact⟨_,x⟩
 ·exact⟨_,x⟩
theorem SqK.its         (I:Inv X pins d H s) (x:SqK t H a xs):∃b:List Value,Vals xs b/\SqA t s.heap a b.toArray:=by
 cases t
 ·obtain⟨b,c,p,_⟩:=I.list (SqL.of x)
  exact⟨b,c,p.isList⟩
 ·obtain⟨b,c,p,_⟩:=I.tuple (SqT.of x)
  exact⟨b,c,(show s.heap.IsTuple a _ from p)⟩
def Itz (t1 t2:Bool)(a b:Addr):It :=
 ⟨
  fun i H=>∃xs ys x y,SqK t1 H a xs/\SqK t2 H b ys/\xs[i]?=some x/\ys[i]?=some y,
  fun i H v H'=>∃p x y,v=.ref p/\H p=none/\H'=upd H p (.tup [x,y])/\(∀xs,SqK t1 H a xs->xs[i]?=some x)/\∀ys,SqK t2 H b ys->ys[i]?=some y,
  fun i H=>∃xs ys,SqK t1 H a xs/\SqK t2 H b ys/\(xs.length<=i\/ys.length<=i)⟩
theorem A0e {P:Program}{w:World}{K:PySem.W.Frag}{t1 t2:Bool}{elts:List Expr}{kk:Nat}{pos:Pos}{z ti to i1 i2 a b:Addr}(nd:[z,ti,to,i1,i2].Nodup) :
 Turn P w K (.Tuple elts kk pos) (Itz t1 t2 a b) [z,ti,to,i1,i2] z (fun i h=>Zk h t1 t2 z ti to i1 i2 a b .none i) where
 mem:=by simp
 obj:=fun i h st c hc=>by
  simp only[List.mem_cons,List.not_mem_nil,or_false]at hc
  rcases hc with rfl | rfl | rfl | rfl | rfl
  ·exact⟨_,st.zip,fun v e=>by cases e⟩
  ·exact⟨_,st.ins,fun v e=>by cases e⟩
  ·obtain⟨u,v,e⟩:=st.outs;exact⟨_,e,fun v e=>by cases e⟩
  ·obtain⟨o,e,q⟩:=st.one.obj;exact⟨o,e,fun v e=>by rw[q]at e;cases e⟩
  ·obtain⟨o,e,q⟩:=st.two.obj;exact⟨o,e,fun v e=>by rw[q]at e;cases e⟩
 keep:=fun i h h' st k=>by
  obtain⟨u,v,e⟩:=st.outs
  exact⟨k z (by simp) _ st.zip,k ti (by simp) _ st.ins,⟨u,v,k to (by simp) _ e⟩,st.one.stay fun o e=>k i1 (by simp) o e,st.two.stay fun o e=>k i2 (by simp) o e⟩
 item:=by
  intro X hP hw hK hc i pins s σ H E I hf st hg;subst hP hw hK;obtain⟨xs,ys,x,y,ha,hb,hx,hy⟩:=hg;obtain⟨its,rv,pa⟩:=ha.its I;obtain⟨jts,rw',pb⟩:=hb.its I;obtain⟨u,hu,ru⟩:=rv.get hx;obtain⟨v,hv,rv'⟩:=rw'.get hy
  have off:zB z ti to i1 i2 a b:=⟨nd,fun m=>by (obtain⟨o,e⟩:=ha.some;rw[(hf a m).1]at e;cases e),fun m=>by (obtain⟨o,e⟩:=hb.some;rw[(hf b m).1]at e;cases e)⟩
  have ty:s.TypeIs (.ref z) "zip" := ⟨_,st.zip,rfl⟩;unfold pyNext;apply wpAny_bind;apply wpAny_attempt
  refine wpAny_callSpecial?_slot (name:="__next__") ty F.slot_zip_next ?_
  refine wpAny_call_entry F.slot_zip_next ty F.entry_zip_next ?_ (F.args_zip_next_1 _)
  refine A1d off st pa pb (x:=u) (x':=v) (by simpa using hu) (by simpa using hv) fun h1 z1 new kp=>?_
  refine wpAny_pure ⟨_,rfl,?_⟩
  apply wpAny_letOwnedTupleGo_zip z1.zip;intro h2 z2 sb;have nz:s.heap.objs.size≠z:=Nat.ne_of_gt (Heap.lt_size st.zip);have new2:IsPair h2 s.heap.objs.size u v:=sb.extBut _ _ nz new
  have ok:z9 X.prog X.w (upd H s.heap.objs.size (.tup [x,y])) h2 s.heap.objs.size (.tup [x,y]):=⟨(show 2<=sizeLine by decide),[u,v],.cons ru (.cons rv' .nil),⟨_,new2,rfl,⟨_,rfl⟩,rfl⟩⟩
  have I2:=I.turnLay (t':=s.toks) hf (h':=h2) (fun c o m e=>sb.extBut _ _ (fun e=>m (by simp[e])) (kp c o m e)) (Nat.le_refl _) ok
  obtain⟨u1,v1,e1⟩:=z1.outs;have zf:H s.heap.objs.size=none:=I.hok.fresh (Nat.le_refl _)
  refine⟨.ref s.heap.objs.size,_,I2,rfl,⟨_,x,y,rfl,zf,rfl,fun xs' h=>?_,fun ys' h=>?_⟩,?_,fun c hc=>?_⟩
  ·rw[h.one ha];exact hx
  ·rw[h.one hb];exact hy
  ·exact⟨z2,sb.extBut _ _ off.z_ti z1.ins,⟨u1,v1,sb.extBut _ _ off.z_to e1⟩,z1.one.stay fun o e=>sb.extBut _ _ off.z_i1 e,z1.two.stay fun o e=>sb.extBut _ _ off.z_i2 e⟩
  ·have lt:c<s.heap.objs.size:=by
    simp only[List.mem_cons,List.not_mem_nil,or_false]at hc
    rcases hc with rfl | rfl | rfl | rfl | rfl
    ·exact Heap.lt_size st.zip
    ·exact Heap.lt_size st.ins
    ·obtain⟨_,_,e⟩:=st.outs;exact Heap.lt_size e
    ·obtain⟨o,e,q⟩:=st.one.obj;exact Heap.lt_size e
    ·obtain⟨o,e,q⟩:=st.two.obj;exact Heap.lt_size e
   rw[Ak (Nat.ne_of_lt lt)];exact(hf c hc).1
 done:=by
  intro X hP hw hK hc i pins s σ H E I hf st hg;subst hP hw hK;obtain⟨xs,ys,ha,hb,hl⟩:=hg;obtain⟨its,rv,pa⟩:=ha.its I;obtain⟨jts,rw',pb⟩:=hb.its I
  have off:zB z ti to i1 i2 a b:=⟨nd,fun m=>by (obtain⟨o,e⟩:=ha.some;rw[(hf a m).1]at e;cases e),fun m=>by (obtain⟨o,e⟩:=hb.some;rw[(hf b m).1]at e;cases e)⟩
  have ty:s.TypeIs (.ref z) "zip" := ⟨_,st.zip,rfl⟩;have l1:=rv.length;have l2:=rw'.length;unfold pyNext;apply wpAny_bind;apply wpAny_attempt
  refine wpAny_callSpecial?_slot (name:="__next__") ty F.slot_zip_next ?_
  refine wpAny_call_entry F.slot_zip_next ty F.entry_zip_next ?_ (F.args_zip_next_1 _)
  refine A0u (I.ok.hd hc) off st pa pb (by simp;omega) fun h1 e kp he=>?_
  obtain⟨o,e1,e2⟩:=he;apply wpAny_bind
  refine wpAny_isInstance (T := "StopIteration") (b:=true) ⟨o,e1,e2⟩ isSubtype_stop ?_
  exact wpAny_pure ⟨rfl,I.turnL (t':=s.toks) hf fun c o m e=>kp c o m e⟩
 self:=fun _ _ _ _ _ st h=>wpAny_pyIter_zip st.zip h
section
variable {P:Program}{w:World}{A:Around}{E:Value->Shared->Prop}{s:Shared}
abbrev itO (t:Bool)(u:Addr):Obj:={ cls:=.type (if t then "tuple_iterator" else "list_iterator"),data:=.fields #[.ref u,.int 0 0] }
abbrev zh1 (h:Heap)(t1:Bool)(a:Addr):Heap:=h.push (itO t1 a)
abbrev zh2 (h:Heap)(t1 t2:Bool)(a b:Addr):Heap:=(zh1 h t1 a).push (itO t2 b)
abbrev zh3 (h:Heap)(t1 t2:Bool)(a b:Addr):Heap:=(zh2 h t1 t2 a b).push { cls:=.type "tuple",data:=.seq #[.ref h.objs.size,.ref (zh1 h t1 a).objs.size] }
abbrev zh4 (h:Heap)(t1 t2:Bool)(a b:Addr):Heap:=(zh3 h t1 t2 a b).push { cls:=.type "tuple",data:=.seq #[.none,.none] }
abbrev zh5 (h:Heap)(t1 t2:Bool)(a b:Addr):Heap:=(zh4 h t1 t2 a b).push { cls:=.type "zip",data:=.fields #[.none,.bool false,.bool false,.ref (zh2 h t1 t2 a b).objs.size,.ref (zh3 h t1 t2 a b).objs.size] }
theorem A4i (t1 t2:Bool)(a b:Addr)(xs ys:Array Value) :
 Meets (Builtin.«zip.__new__» ⟨[.type "zip",.ref a,.ref b],[]⟩) (fun _ R s=>SqA t1 s.heap a xs/\SqA t2 s.heap b ys/\R (.ok (.ret (.ref (zh4 s.heap t1 t2 a b).objs.size))) { s with heap:=zh5 s.heap t1 t2 a b }) :=
 .of_wp fun P w A R s h=>by
  obtain⟨e,g,d,c,f⟩:=s;obtain⟨k,l,h⟩:=h;have m:=sub_zip
  cases t1 <;> cases t2
  ·have j:Heap.IsList (Shared.heap ⟨e,g,d,c,f⟩) a xs:=k
   have i:Heap.IsList (Shared.heap ⟨e.push { cls:=.type "list_iterator",data:=.fields #[.ref a,.int 0 0] },g,d,c,f⟩) b ys:=Heap.IsList.push l _
   wp_walk using wpAny_pyIter_list j,wpAny_pyIter_list i
   exact⟨_,rfl,h⟩
  ·have j:Heap.IsList (Shared.heap ⟨e,g,d,c,f⟩) a xs:=k
   have i:Heap.IsTuple (Shared.heap ⟨e.push { cls:=.type "list_iterator",data:=.fields #[.ref a,.int 0 0] },g,d,c,f⟩) b ys:=Heap.IsTuple.push l _
   wp_walk using wpAny_pyIter_list j,wpAny_pyIter_tuple i
   exact⟨_,rfl,h⟩
  ·have j:Heap.IsTuple (Shared.heap ⟨e,g,d,c,f⟩) a xs:=k
   have i:Heap.IsList (Shared.heap ⟨e.push { cls:=.type "tuple_iterator",data:=.fields #[.ref a,.int 0 0] },g,d,c,f⟩) b ys:=Heap.IsList.push l _
   wp_walk using wpAny_pyIter_tuple j,wpAny_pyIter_list i
   exact⟨_,rfl,h⟩
  ·have j:Heap.IsTuple (Shared.heap ⟨e,g,d,c,f⟩) a xs:=k
   have i:Heap.IsTuple (Shared.heap ⟨e.push { cls:=.type "tuple_iterator",data:=.fields #[.ref a,.int 0 0] },g,d,c,f⟩) b ys:=Heap.IsTuple.push l _
   wp_walk using wpAny_pyIter_tuple j,wpAny_pyIter_tuple i
   exact⟨_,rfl,h⟩
theorem A0t    (e:h.get? j=some (itO t u)):ItAt t h j u 0:=by
 cases t
 ·exact⟨_,e,rfl,rfl⟩
 ·exact⟨_,e,rfl,rfl⟩
theorem Ak4     (t:SqA t1 s.heap a xs) (u:SqA t2 s.heap b ys)
 (q:∀h',Zk h' t1 t2 (s.heap.objs.size+4) (s.heap.objs.size+2) (s.heap.objs.size+3) s.heap.objs.size (s.heap.objs.size+1) a b .none 0->(∀c o,s.heap.get? c=some o->h'.get? c=some o)->Q (.ref (s.heap.objs.size+4)) { s with heap:=h' }) :
 wpAny (model P w) A (call (.type "zip") [.ref a,.ref b]) Q E s:=by
 apply callType_new F.called_zip (by decide) (F.typeCall_zip_2 _ _) (F.newCall_zip_2 _ _) (fun o=>F.args_object_init_3 o _ _) F.entry_zip_new (A4i t1 t2 a b xs ys)
 refine⟨t,u,?_⟩
 have i:(zh1 s.heap t1 a).objs.size=s.heap.objs.size+1:=Heap.size_push ..
 have g:(zh2 s.heap t1 t2 a b).objs.size=s.heap.objs.size+2:=by rw[Heap.size_push,i]
 have f:(zh3 s.heap t1 t2 a b).objs.size=s.heap.objs.size+3:=by rw[Heap.size_push,g]
 have k:(zh4 s.heap t1 t2 a b).objs.size=s.heap.objs.size+4:=by rw[Heap.size_push,f]
 have d:=fun {h:Heap} {c:Addr} {o:Obj} (n:Obj) (e:h.get? c=some o)=>Heap.get?_push_of_some n e
 have j:(zh5 s.heap t1 t2 a b).get? (zh4 s.heap t1 t2 a b).objs.size=some _:=Heap.get?_push_size _ rfl;have m:(zh5 s.heap t1 t2 a b).get? (zh3 s.heap t1 t2 a b).objs.size=some _:=d _ (Heap.get?_push_size _ rfl);have l:(zh5 s.heap t1 t2 a b).get? (zh2 s.heap t1 t2 a b).objs.size=some _:=d _ (d _ (Heap.get?_push_size _ rfl));have p:(zh5 s.heap t1 t2 a b).get? (zh1 s.heap t1 a).objs.size=some _:=d _ (d _ (d _ (Heap.get?_push_size _ rfl)));have r:(zh5 s.heap t1 t2 a b).get? s.heap.objs.size=some _:=d _ (d _ (d _ (d _ (Heap.get?_push_size _ rfl))));rw[g,f,k]at j;rw[i,g]at l;rw[f]at m;rw[i]at p;rw[k]
 exact⟨⟨_,j,rfl⟩,q _ ⟨j,l,⟨_,_,m⟩,A0t r,A0t p⟩ fun c o e=>d _ (d _ (d _ (d _ (d _ e))))⟩
end
theorem Ay4:bootBuiltins "zip" = some (.type "zip"):=by decide +kernel
section
variable {X:Cx}
def Bm4 (ta:TA):TI:=fun σ H R=>ta σ H fun vs H1=>∃a b,vs=[.ref a,.ref b]/\∃t1 t2 xs ys,SqK t1 H1 a xs/\SqK t2 H1 b ys/\R (Itz t1 t2 a b) H1
theorem Bj6   {p j e:Pos}{f:List Expr}{t:Nat}(hg:Gl X "zip") (hm:X.mg "zip" = none) (ha:PA X [a,b] m) (hs1:isStar a=false:=by rfl) (hs2:isStar b=false:=by rfl) :
 PI X (.Tuple f t e) (.Call (.Name "zip" p) [a,b] [] j) (Bm4 m):=by
 intro l s σ H R I h;have i:=Jc (es:=[b]) (env:=X.env) hs1
 refine Call_ (Tn I hg hm Ay4 (PyProof.Rows.callWith_type1 (thn (ha _ _ s _ H _ I h) fun us d ⟨vs,r,g,u,v⟩=>?_) i (by rw[(Jc (es:=[]) (env:=X.env) hs2)];rfl)))
 obtain⟨a',b',rfl,t1,t2,xs,ys,y,o,q⟩:=v;obtain⟨z,A,rfl,B,x⟩:=Vals.two u
 cases (show z=Value.ref _ from B)
 cases (show A=Value.ref _ from x)
 obtain⟨C,rv,w⟩:=y.its g;obtain⟨E,F,D⟩:=o.its g
 refine Ak4 w D fun h' n G=>?_
 apply wpAny_pyIter_zip n.zip
 have J:[d.heap.objs.size+4,d.heap.objs.size+2,d.heap.objs.size+3,d.heap.objs.size,d.heap.objs.size+1].Nodup:=by simp
 refine⟨_,_,_,_,r,rfl,g.kept  G,A0e J,n,fun c hc=>?_,q⟩
 have k:d.heap.objs.size<=c:=by
  grind
 exact g.fpOk k (g.hok.fresh k)
end
def A9l:R2:=fun x y H Q=>∃a b xs ys,x=.ref a/\y=.ref b/\H a=some (.tup xs)/\H b=some (.tup ys)/\xs.length+ys.length<=sizeLine/\∀p H',Same H H'->H' p=some (.tup (xs++ys))->Q (.ref p) H'
section
variable {X:Cx}
theorem Bw   (h:H p=none) (o:HO):Same H (upd H p o):=fun b u e=>by rw[Ak (Bv e h)];grind
theorem A6b:OpR X (binaryOp .Add) A9l:=by
 intro d s σ H x y v u Q I i f h;obtain⟨a,b,g,E,rfl,rfl,j,c,n,q⟩:=h
 by_cases e:g=[]
 ·cases i
  cases f
  subst e;obtain⟨o,r,t,_⟩:=I.tuple (SqT.of j);obtain⟨w,r2,A,_⟩:=I.tuple (SqT.of c);have C  := r.nil_iff.mpr rfl;subst C;obtain⟨⟨c1,d1,D,s1⟩,k,F,n1,z⟩:=id t;obtain⟨⟨c2,d2,B,s2⟩,l,J,n2,G⟩:=id A;subst F z J G
  exact concat_meets ⟨_,k,rfl⟩ ⟨_,l,rfl⟩ noFill_tuple_add seq_tuple_add PySem.F.slot_tuple_add PySem.F.entry_tuple_add (PySem.F.args_tuple_add_2 _ _)
   (tuple_addW0 a b _ _ _ _ _ _ _ _ (by simp)) ⟨k,l,⟨.ref b,H,I,rfl,q b H (fun _ _ e=>e) c⟩⟩
 ·refine A6o _ s _ H _ _ v u Q I i f ⟨a,b,g,E,rfl,rfl,SqT.of j,SqT.of c,e,n,fun K=>?_,fun K p m=>?_⟩
  ·exact q a H (fun _ _ e=>e) (by simp_all)
  ·exact q p _ (Bw m _) Be
end
section
variable {X:Cx}
def A4b (i j k:Nat)(ta:TA):TS:=fun D σ H=>ta σ H fun vs H1=>∃v w y,vs=[v,w,y]/\D.nx (((σ.set i (some v)).set j (some w)).set k (some y)) H1
theorem A6k {i j k:Nat}{x y z:Str}{a b c:Expr}{M:TA}{t r B u:Pos}{C k2 f}(hc:X.calm=true)(hN:X.N.Nodup)(hi:X.N[i]?=some x)(hj:X.N[j]?=some y)(hk:X.N[k]?=some z)(hij:i≠j)(hik:i≠k)(hjk:j≠k)
 (hx:X.env.scope.names.lookup x=some .local) (hy:X.env.scope.names.lookup y=some .local) (hz:X.env.scope.names.lookup z=some .local) (ha:PA X [a,b,c] M)
 (hw:swappedStores [.Tuple [.Name x t,.Name y r,.Name z B] C u] (.Tuple [a,b,c] k2 f) X.env=pure (some [x,y,z]))
 (hs:swapsWithSole [.Tuple [.Name x t,.Name y r,.Name z B] C u] (.Tuple [a,b,c] k2 f) pos.line X.env=pure false:=by rfl) :
 PS X (.Assign [.Tuple [.Name x t,.Name y r,.Name z B] C u] (.Tuple [a,b,c] k2 f) pos) (A4b i j k M):=by
 intro d s N H D I h;rw[exec_Assign_arm]
 refine wpAny_bind (wpAny_standAt ?_)
 rw[hs]
 refine wpAny_bind (wpAny_pure ?_)
 rw[if_neg (by decide)]
 refine wpAny_bind (Tuple_ (thn (ha _ d s N H _ I h) fun W g ⟨vs,L,R,V,A⟩=>?_))
 obtain⟨v,w,y',P,A⟩:=A;subst P
 obtain⟨n,m,l,rfl,Q,F,S⟩:∃n m l,W=[n,m,l]/\RelV v n/\RelV w m/\RelV y' l:=by
  cases V with
  | cons p q =>
   cases q with
   | cons T U =>
    cases U with
    | cons E G =>
     cases G
     exact⟨_,_,_,rfl,p,T,E⟩
 refine wpAny_newObj_type ?_ (by show 3<=sizeLine;decide)
 have Y:Inv X d N L { g with heap:=g.heap.push { cls:=.type "tuple",data:=.seq [n,m,l].toArray } }:=R.kept (t':=g.toks) fun b o e=>Heap.get?_push_of_some _ e
 rw[hw]
 refine wpAny_bind (wpAny_pure ?_)
 show wpAny (model X.prog X.w) X.A (do rule "assign.swapped-stores";let items <- unpackItems (.ref g.heap.objs.size) 3 none;assignInOrder [fun v=>bindName X.env z v,fun v=>bindName X.env y v,fun v=>bindName X.env x v] items.reverse;pure Flow.next) _ _ _
 refine wpAny_bind (wpAny_rule (wpAny_bind (unpackItems_tuple (items:=#[n,m,l]) (I.ok.hd hc) (IsTup.new g.heap _) fun O J=>?_)))
 show wpAny _ _ (assignInOrder [fun v=>bindName X.env z v,fun v=>bindName X.env y v,fun v=>bindName X.env x v] [l,m,n] >>= fun _=>pure Flow.next) _ _ _
 refine wpAny_bind (assignInOrder_cons (wpAny_bindName (Gr (Y.kept (h':=O) (t':=g.toks) fun b o e=>J b o (Nat.ne_of_lt (Heap.lt_size e)) e) hN hk (.inl hz) S (fun s2 Z=>?_) (.inr hz))))
 refine assignInOrder_cons (wpAny_bindName (Gr Z hN hj (.inl hy) F (fun s3 I5=>?_) (.inr hy)))
 refine assignInOrder_cons (wpAny_bindName (Gr I5 hN hi (.inl hx) Q (fun s4 K=>assignInOrder_nil (wpAny_pure ?_)) (.inr hx)))
 rw[List.set_comm _ _ (Ne.symm hij),List.set_comm _ _ (Ne.symm hik),List.set_comm _ _ (Ne.symm hjk)]at K;exact⟨_,L,K,A⟩
end
section
variable {X:Cx}{a b:Expr}{ta tb:TE}{pos:Pos}
def A5t (neg:Bool):R2:=fun x y H Q=>∃d ds,Tr H d x/\(Tr H (.list ds) y\/Tr H (.tuple ds) y)/\Flat d/\PyData.canLayAll0 ds=true/\Q (.bl (if neg then !ds.any (fun e=>PyData.eqv e d) else ds.any fun e=>PyData.eqv e d)) H
theorem Xu (hu:X.A.units+64<cLine)(ha:PE X a ta)(hb:PE X b tb)(hm:behindInMarks .NotIn b=false):PT X (.Compare a [.NotIn] [b] pos) (Kv (tOp (A5t true) ta tb)):=Ml (Aq4 hu) ha hb hm
end
end L2
set_option autoImplicit true
namespace L2
open PySem PySem.Spec PyProof.Rows
structure QE (X:Cx) (e:Expr) (t:TE):Prop where
 get:PE X e t
structure QT (X:Cx) (e:Expr) (t:TT):Prop where
 get:PT X e t
structure QW (X:Cx) (e:Expr) (t:TT):Prop where
 get:PW X e t
structure QA (X:Cx) (e:(List Expr)) (t:TA):Prop where
 get:PA X e t
structure QS (X:Cx) (st:Stmt) (t:TS):Prop where
 get:PS X st t
structure QSs (X:Cx) (st:(List Stmt)) (t:TS):Prop where
 get:PSs X st t
structure QG (X:Cx) (e:Expr) (t:TG):Prop where
 get:PG X e t
structure QGs (X:Cx) (e:(List Expr)) (t:TGs):Prop where
 get:PGs X e t
structure QO (X:Cx) (e:(Option Expr)) (t:TO):Prop where
 get:PO X e t
structure QTs (X:Cx) (e:(List Expr)) (t:TT):Prop where
 get:PTs X e t
structure QI (X:Cx) (tg iter:Expr) (wi:TI):Prop where
 get:PI X tg iter wi
theorem Ah  : QE X (.Constant (.int i) j a) (tC (.int i)) :=
 ⟨A3l ⟩
theorem M8  : QE X (.Constant (.bool b) j a) (tC (.bl b)) :=
 ⟨A8v ⟩
theorem Ka  : QE X (.Constant .none j a) (tC .non) :=
 ⟨A3p ⟩
theorem Gv  : QE X (.Constant (.str x) j a) (tC (.str x)) :=
 ⟨A2q ⟩
theorem Aq3     (hg:Gl X x) (hm:X.mg x=some u) (r:RelV v u) (hd:(x==("__debug__" : Str))=false:=by decide):QE X (.Name x a) (tC v) :=
 ⟨A5x (hg:=hg) (hm:=hm) (r:=r) (hd:=hd)⟩
theorem Dz    {a:Pos}(hg:Gl X x) (hm:X.mg x=none) (hv:bootBuiltins x=some u) (r:RelV v u) (hn:x ≠ "__name__" := by decide) (hd:(x==("__debug__" : Str))=false:=by decide):QE X (.Name x a) (tC v) :=
 ⟨A7n (hg:=hg) (hm:=hm) (hv:=hv) (r:=r) (hn:=hn) (hd:=hd)⟩
theorem Lp (ha:QT X a tA):QW X (.BoolOp .Or [a] pos) tA :=
 ⟨Bc5 (ha:=ha.get)⟩
theorem M3 (ha:QT X a tA)(hb:QW X (.BoolOp .Or (b::rst) pos) tB'):QW X (.BoolOp .Or (a::b::rst) pos) (tOr tA tB') :=
 ⟨Bn2 (ha:=ha.get) (hb:=hb.get)⟩
theorem Lg (ha:QT X a tA):QT X (.UnaryOp .Not a pos) (Bf9 tA) :=
 ⟨Bb1 (ha:=ha.get)⟩
theorem Up   (h:QE X a t):QE X (.BoolOp op [a] pos) t :=
 ⟨Be6 (h:=h.get)⟩
theorem Qf (ha:QE X a ta)(hb:QE X (.BoolOp .And (b::rst) pos) tb):QE X (.BoolOp .And (a::b::rst) pos) (A2d ta tb) :=
 ⟨Be1 (ha:=ha.get) (hb:=hb.get)⟩
theorem Bc9 (ha:QE X a ta):QE X (.UnaryOp .Not a pos) (A0y ta) :=
 ⟨Bj8 (ha:=ha.get)⟩
theorem Ur  (hc:QT X c tA) (ha:QE X a ta) (hb:QE X b tb):QE X (.IfExp c a b pos) (tIf tA ta tb) :=
 ⟨A2a (hc:=hc.get) (ha:=ha.get) (hb:=hb.get)⟩
theorem Cq  : QSs X [] A2c :=
 ⟨A6s ⟩
theorem Ai (h1:QS X stm t)(h2:QSs X rst u):QSs X (stm::rst) (Ay7 t u) :=
 ⟨A3a (h1:=h1.get) (h2:=h2.get)⟩
theorem Av (h1:QS X stm t):QSs X [stm] t :=
 ⟨An4 (h1:=h1.get)⟩
theorem Ht (he:QE X e te)(hs:swapsWith e none pos.line X.env=pure false:=by rfl):QS X (.Expr e pos) (Zz te) :=
 ⟨A6d (he:=he.get) (hs:=hs)⟩
theorem Bu (he:QE X e te):QS X (.Return (some e) pos) (Bi7 te) :=
 ⟨Bn0 (he:=he.get)⟩
theorem Ex    (hc:QT X c d) (ha:QSs X a t) (hb:QSs X b u):QS X (.If c a b pos) (A5e d t u) :=
 ⟨Bo6 (hc:=hc.get) (ha:=ha.get) (hb:=hb.get)⟩
theorem Br   (hN:X.N.Nodup) (hi:X.N[i]?=some x) (hx:Loc X.env.scope x) (hf:X.fn x=true\/X.env.scope.names.lookup x=some .local:=by first | exact .inl rfl | exact .inr rfl | assumption):QG X (.Name x pos) (Js i) :=
 ⟨A8d (hN:=hN) (hi:=hi) (hx:=hx) ⟩
theorem Hv  : QGs X [] Aj8 :=
 ⟨A8q ⟩
theorem Dg     (h1:QG X e t) (h2:QGs X es u) (hs:(assignEach (e::es) X.env).map (·.2)=assign e X.env::(assignEach es X.env).map (·.2):=by rfl):QGs X (e::es) (Pu t u) :=
 ⟨A0m (h1:=h1.get) (h2:=h2.get) (hs:=hs)⟩
theorem Kh  (a:X.K=Kq)  {k:Nat}   (hc:X.calm=true) (h:QGs X es t) (hn:(assignEach es X.env).length=n:=by rfl) (hst:(assignEach es X.env).findIdx? (·.1)=none:=by rfl):QG X (.Tuple es k pos) (Aq5 Kq n t):=by
 subst a;exact⟨Bc8 (hc:=hc) (h:=h.get) (hn:=hn) (hst:=hst)⟩
theorem A1t    (ho:QE X o b) (hi:QE X i a) (hs:Bj4 X t) (ha:∀v,assign (.Subscript o i pos) X.env v=(do
 let ov <- holding [v] (eval o X.env)
 let iv <- holding [v,ov] (eval i X.env)
 standAt pos
 holding [v,ov,iv] (setItem ov iv v)
 release [v,ov,iv] []):=by intro _;rfl):QG X (.Subscript o i pos) (Bb4 b a t) :=
 ⟨Ba6 (ho:=ho.get) (hi:=hi.get) (hs:=hs) (ha:=ha)⟩
theorem Xk    (he:QE X e b) (hg:QG X a g) (hs:swapsWithSole [a] e pos.line X.env=pure false:=by rfl) (hw:swappedStores [a] e X.env=pure none:=by rfl) (h1:(assignEach [a] X.env).map (·.2)=[assign a X.env]:=by rfl):QS X (.Assign [a] e pos) (Y7 b g) :=
 ⟨A9w (he:=he.get) (hg:=hg.get) (hs:=hs) (hw:=hw) (h1:=h1)⟩
theorem Bo      (hN:X.N.Nodup) (hi:X.N[i]?=some x) (hx:Loc X.env.scope x) (he:QE X e b) (hs:swapsWith e (some (.Name x a)) pos.line X.env=pure false:=by rfl) (hf:X.fn x=true\/X.env.scope.names.lookup x=some .local:=by first | exact .inl rfl | exact .inr rfl | assumption):QS X (.Assign [.Name x a] e pos) (Y7 b (Js i)) :=
 ⟨A1p (hN:=hN) (hi:=hi) (hx:=hx) (he:=he.get) (hs:=hs) ⟩
theorem Bb2       (hc:X.calm=true) (hN:X.N.Nodup) (hi:X.N[i]?=some x) (hj:X.N[j]?=some y) (hij:i≠j) (hx:X.env.scope.names.lookup x=some .local) (hy:X.env.scope.names.lookup y=some .local) (ha:QA X [a,b] h) (hw:swappedStores [.Tuple [.Name x e,.Name y d] g f] (.Tuple [a,b] k2 c) X.env=pure (some [x,y])) (hs:swapsWithSole [.Tuple [.Name x e,.Name y d] g f] (.Tuple [a,b] k2 c) pos.line X.env=pure false:=by rfl):QS X (.Assign [.Tuple [.Name x e,.Name y d] g f] (.Tuple [a,b] k2 c) pos) (Bl0 i j h) :=
 ⟨Bi4 (hc:=hc) (hN:=hN) (hi:=hi) (hj:=hj) (hij:=hij) (hx:=hx) (hy:=hy) (ha:=ha.get) (hw:=hw) ⟩
theorem Hl  (a:X.K=Kq)   (hl:QE X l b):QI X c l (A9y Kq b):=by
 subst a;exact⟨Bl2 (hl:=hl.get)⟩
theorem G7    (hg:Gl X "range") (hm:X.mg "range" = none) (ha:QA X [a] c) (hs:starEach [a] X.env=[(false,eval a X.env)]:=by rfl):QI X tg (.Call (.Name "range" p) [a] [] b) (A2o c) :=
 ⟨Ar5 (hg:=hg) (hm:=hm) (ha:=ha.get) (hs:=hs)⟩
theorem Jm       (hp:PassesOwn (model X.prog X.w) X.A X.env X.xe) (hc:X.calm=true) (hi:QI X tg a c) (hg:QG X tg g) (hb:QSs X body d) (hs:∀x,foldedSetIterable a X.env x=pure x:=by intro _;rfl):QS X (.For tg a body [] b) (A6u c g d) :=
 ⟨Bm9 (hp:=hp) (hc:=hc) (hi:=hi.get) (hg:=hg.get) (hb:=hb.get) (hs:=hs)⟩
theorem Fz   (h:QE X e t) (he:∀whole,isTrue e X.env whole=(do let v <- whole;standAt e.pos;holding [v] (truthy v)):=by intro _;rfl):QT X e (tB t) :=
 ⟨Bj7 (h:=h.get) (he:=he)⟩
theorem Af  : QA X [] Fe :=
 ⟨N8 ⟩
theorem Ag (ha:QE X e te)(hr:QA X es t)(hs:isStar e=false:=by rfl):QA X (e::es) (Ci te t) :=
 ⟨At9 (ha:=ha.get) (hr:=hr.get) (hs:=hs)⟩
theorem Et  (h:QA X es t):QE X (.Tuple es a pos) (Aw5 t) :=
 ⟨Bk7 (h:=h.get)⟩
theorem Dq (h:QA X es t):QE X (.List es pos) (A7w t) :=
 ⟨Bi6 (h:=h.get)⟩
theorem Uu (F:FnOk X.prog X.w X.K X.mg X.base CX k f fd ps sp)(hr:Room k X.A)(hg:Gl X x)(hm:X.mg x=some (.ref f))(hk:PySem.W.keepIn X.K (.ref f)=true)(hb:Binds X.K fd ps ds)(hd:Vals dvs ds)(hx:Li CX X E)(ha:QA X (e::es) t)(hdb:(x==("__debug__" : Str))=false:=by decide) (hn:noStar (e::es)=true:=by rfl):QE X (.Call (.Name x p) (e::es) [] pos) (Qy sp dvs E t) :=
 ⟨Az5 (F:=F) (hr:=hr) (hg:=hg) (hm:=hm) (hk:=hk) (hb:=hb) (hd:=hd) (hx:=hx) (ha:=ha.get) (hdb:=hdb) (hn:=hn)⟩
theorem Es  : QO X none Yo :=
 ⟨A6g ⟩
theorem Cy (h:QE X e te):QO X (some e) (Ay6 te) :=
 ⟨A7i (h:=h.get)⟩
theorem A3d  (hr:SlR X r) (he:QE X e te) (hl:QO X low tl) (hu:QO X hi th):QE X (.Subscript e (.Slice low hi none p2) pos) (tSl r te tl th) :=
 ⟨A0z (hr:=hr) (he:=he.get) (hl:=hl.get) (hu:=hu.get)⟩
theorem A9i  (hr:IxR X r) (ha:QE X a ta) (hb:QE X b tb) (hs:Mg b):QE X (.Subscript a b pos) (tOp r ta tb) :=
 ⟨Bp4 (hr:=hr) (ha:=ha.get) (hb:=hb.get) (hs:=hs)⟩
theorem Za  (a:X.K=Kq) (pa:PlainAttrs T) (slot:Slot T name idn) (hty:typeOf (.builtin idn)=pure (.type "method_descriptor")) (hm:MtR X idn r) (ho:QE X o to) (ha:QA X (e::es) t) (hbase:attributeBase o name X.env (eval o X.env)=eval o X.env:=by rfl) (hfew:((backTo cpos (starEach (e::es) X.env)).all (fun x=>!x.1)&&(backToKw cpos (keywordEach [] X.env)).all (fun x=>x.1.isSome)
 && decide ((e::es).length+([]:List Keyword).length+(if ([]:List Keyword).isEmpty then 0 else 1)<30))=true:=by rfl) (hline:(apos.endLine==cpos.line)=true:=by rfl) (hs:starEach (e::es) X.env=(false,eval e X.env)::starEach es X.env:=by rfl) (hplain:(backTo cpos (starEach es X.env)).any (·.1)=false:=by rfl):QE X (.Call (.Attribute o name apos) (e::es) [] cpos) (tBM Kq T r to t):=by
 subst a;exact⟨A9o (pa:=pa) (slot:=slot) (hty:=hty) (hm:=hm) (ho:=ho.get) (ha:=ha.get) (hbase:=hbase) (hfew:=hfew) (hline:=hline) (hs:=hs) (hplain:=hplain)⟩
theorem Ia  (b:X.K=Kq) (ho:QE X a ta) (hv:QE X e te) (hbase:attributeBase a "append" X.env (eval a X.env)=eval a X.env:=by rfl) (hfew:((backTo cpos (starEach [e] X.env)).all (fun x=>!x.1)&&(backToKw cpos (keywordEach [] X.env)).all (fun x=>x.1.isSome)
 && decide ([e].length+([]:List Keyword).length+(if ([]:List Keyword).isEmpty then 0 else 1)<30))=true:=by rfl) (hline:(apos.endLine==cpos.line)=true:=by rfl) (hns:isStar e=false:=by rfl):QE X (.Call (.Attribute a "append" apos) [e] [] cpos) (tBM Kq "list" rAppF ta (Ci te Fe)):=by
 subst b;exact⟨Av9 (ho:=ho.get) (hv:=hv.get) (hbase:=hbase) (hfew:=hfew) (hline:=hline) (hns:=hns)⟩
theorem Gu  : QTs X [] Ba0 :=
 ⟨A8n ⟩
theorem A7a    (h:QT X c t):QTs X [c] t :=
 ⟨A6p (h:=h.get)⟩
theorem Ks (L:Ke X N' idx scope)(hc:X.calm=true)(hi:QI X tg iter wi)(hg:∀d C b a c,QG (Hq X N' scope d C b a c) tg g)(ht:∀d C b a c,QTs (Hq X N' scope d C b a c) ifs tc)(he:∀d C b a c,QE (Hq X N' scope d C b a c) elt te)(hs:∀x,foldedSetIterable iter X.env x=pure x:=by intro _;rfl):QE X (.ListComp elt [⟨tg,iter,ifs,0⟩] scope pos) (tLC idx wi g tc te) :=
 ⟨Bt0 (L:=L) (hc:=hc) (hi:=hi.get) (hg:=fun d C b a c=>(hg _ C _ _ _).get) (ht:=fun d C b a c=>(ht _ C _ _ _).get) (he:=fun d C b a c=>(he _ C _ _ _).get) (hs:=hs)⟩
theorem Ux (ha:QE X a ta):QE X (.UnaryOp .USub a pos) (tUn (rU fun i=>.int (-i)) ta) :=
 ⟨Bk4 (ha:=ha.get)⟩
theorem Gf (ha:QE X a ta)(hb:QE X b tb):QE X (.BinOp a .Sub b pos) (tOp (rI0 fun i j=>.int (i-j)) ta tb) :=
 ⟨Av3 (ha:=ha.get) (hb:=hb.get)⟩
theorem G6 (ha:QE X a ta)(hb:QE X b tb):QE X (.BinOp a .Mult b pos) (tOp (rI CMul fun i j=>.int (i*j)) ta tb) :=
 ⟨Av0 (ha:=ha.get) (hb:=hb.get)⟩
theorem Ud (ha:QE X a ta)(hb:QE X b tb):QE X (.BinOp a .FloorDiv b pos) (tOp (rI Az6 fun i j=>.int (i / j)) ta tb) :=
 ⟨Aj2 (ha:=ha.get) (hb:=hb.get)⟩
theorem G8 (ha:QE X a ta)(hb:QE X b tb):QE X (.BinOp a .Mod b pos) (tOp (rI (fun _ j=>0<j) fun i j=>.int (i % j)) ta tb) :=
 ⟨Ar8 (ha:=ha.get) (hb:=hb.get)⟩
theorem Hz (ha:QE X a ta)(hb:QE X b tb):QE X (.BinOp a .Pow b pos) (tOp (rI A0n fun i j=>.int (i ^ j.toNat)) ta tb) :=
 ⟨Av6 (ha:=ha.get) (hb:=hb.get)⟩
theorem Aw2 (ha:QE X a ta)(hb:QE X b tb):QE X (.BinOp a .Mult b pos) (tOp (A8m) ta tb) :=
 ⟨Ax3 (ha:=ha.get) (hb:=hb.get)⟩
theorem Uc (ha:QE X a ta)(hb:QE X b tb):QT X (.Compare a [.Lt] [b] pos) (Kv (tOp (rI0 fun i j=>.bl (decide (i<j))) ta tb)) :=
 ⟨A2k (ha:=ha.get) (hb:=hb.get)⟩
theorem A3c (ha:QE X a ta)(hb:QE X b tb):QE X (.Compare a [.Gt] [b] pos) (tOp (rI0 fun i j=>.bl (decide (j<i))) ta tb) :=
 ⟨A0j (ha:=ha.get) (hb:=hb.get)⟩
theorem Zo (ha:QE X a ta)(hb:QE X b tb):QT X (.Compare a [.Gt] [b] pos) (Kv (tOp (rI0 fun i j=>.bl (decide (j<i))) ta tb)) :=
 ⟨A1f (ha:=ha.get) (hb:=hb.get)⟩
theorem A1a (ha:QE X a ta)(hb:QE X b tb):QE X (.Compare a [.GtE] [b] pos) (tOp (rI0 fun i j=>.bl (decide (j<=i))) ta tb) :=
 ⟨A4x (ha:=ha.get) (hb:=hb.get)⟩
theorem Vu (ha:QE X a ta)(hb:QE X b tb):QT X (.Compare a [.Is] [b] pos) (Kv (tOp (fun x y H Q=>y=.non/\Q (.bl (decide (x=.non))) H) ta tb)) :=
 ⟨Av5 (ha:=ha.get) (hb:=hb.get)⟩
theorem Q8  (a:X.K=Kq) (hgl:Gl X "abs") (hm:X.mg "abs" = none) (ha:QA X (e::es) t) (hns:noStar (e::es)=true:=by rfl):QE X (.Call (.Name "abs" p) (e::es) [] pos) (tCB (Ni Kq) t):=by
 exact⟨Ad9 (hgl:=hgl) (hm:=hm) (ha:=ha.get) (hns:=hns)⟩
theorem Cj  (a:X.K=Kq) (hgl:Gl X "isinstance") (hm:X.mg "isinstance" = none) (ha:QA X (e::es) t) (hns:noStar (e::es)=true:=by rfl):QE X (.Call (.Name "isinstance" p) (e::es) [] pos) (tCB (Nq Kq) t):=by
 exact⟨Ac7 (hgl:=hgl) (hm:=hm) (ha:=ha.get) (hns:=hns)⟩
theorem Xn  (a:X.K=Kq) (hgl:Gl X "isinstance") (hm:X.mg "isinstance" = none) (ha:QA X (e::es) t) (hns:noStar (e::es)=true:=by rfl):QE X (.Call (.Name "isinstance" p) (e::es) [] pos) (tCB (Jd Kq) t):=by
 exact⟨Yw (hgl:=hgl) (hm:=hm) (ha:=ha.get) (hns:=hns)⟩
theorem Hu  (a:X.K=Kq) (hc:X.calm=true) (hgl:Gl X "all") (hm:X.mg "all" = none) (ha:QA X (e::es) t) (hns:noStar (e::es)=true:=by rfl):QE X (.Call (.Name "all" p) (e::es) [] pos) (tCB (K5 Kq) t):=by
 subst a;exact⟨Xv (hc:=hc) (hgl:=hgl) (hm:=hm) (ha:=ha.get) (hns:=hns)⟩
theorem Pb  (a:X.K=Kq) (hgl:Gl X "int") (hm:X.mg "int" = none) (ha:QA X (e::es) t) (hns:noStar (e::es)=true:=by rfl):QE X (.Call (.Name "int" p) (e::es) [] pos) (tCB (Lk Kq) t):=by
 exact⟨Xh (hgl:=hgl) (hm:=hm) (ha:=ha.get) (hns:=hns)⟩
theorem Az  (a:X.K=Kq) (hgl:Gl X "tuple") (hm:X.mg "tuple" = none) (ha:QA X (e::es) t) (hns:noStar (e::es)=true:=by rfl):QE X (.Call (.Name "tuple" p) (e::es) [] pos) (tCB (Hi Kq) t):=by
 subst a;exact⟨Qq (hgl:=hgl) (hm:=hm) (ha:=ha.get) (hns:=hns)⟩
theorem Dk  (a:X.K=Kq) (hgl:Gl X "list") (hm:X.mg "list" = none) (ha:QA X (e::es) t) (hns:noStar (e::es)=true:=by rfl):QE X (.Call (.Name "list" p) (e::es) [] pos) (tCB (Ip Kq) t):=by
 subst a;exact⟨Ri (hgl:=hgl) (hm:=hm) (ha:=ha.get) (hns:=hns)⟩
theorem Yl  (a:X.K=Kq) (hc:X.calm=true) (hgl:Gl X "min") (hm:X.mg "min" = none) (ha:QA X (e::es) t) (hns:noStar (e::es)=true:=by rfl):QE X (.Call (.Name "min" p) (e::es) [] pos) (tCB (K3 Kq) t):=by
 exact⟨Ys (hc:=hc) (hgl:=hgl) (hm:=hm) (ha:=ha.get) (hns:=hns)⟩
theorem Au6  (b:X.K=Kq)    (hc:X.calm=true) (hgs:Gl X "set") (hms:X.mg "set" = none) (hgl:Gl X "len") (hml:X.mg "len" = none) (he:QE X e d) (hns:isStar e=false:=by rfl):QE X (.Call (.Name "len" p) [.Call (.Name "set" f) [e] [] a] [] c) (tCB (Hw X.prog X.w) (Ci (tCB (V7 X.prog X.w Kq) (Ci d Fe)) Fe)):=by
 subst b;exact⟨Ax4 (hc:=hc) (hgs:=hgs) (hms:=hms) (hgl:=hgl) (hml:=hml) (he:=he.get) (hns:=hns)⟩
theorem Bh6   {p e d:Pos}{c:List Expr}{g:Nat}(hg:Gl X "zip") (hm:X.mg "zip" = none) (ha:QA X [a,b] f) (hs1:isStar a=false:=by rfl) (hs2:isStar b=false:=by rfl):QI X (.Tuple c g d) (.Call (.Name "zip" p) [a,b] [] e) (Bm4 f) :=
 ⟨Bj6 (hg:=hg) (hm:=hm) (ha:=ha.get) (hs1:=hs1) (hs2:=hs2)⟩
theorem A5m {i j k:Nat}{x y z:Str}{a b c:Expr}{m:TA}{f g e h:Pos}{l k2 d}(hc:X.calm=true)(hN:X.N.Nodup)(hi:X.N[i]?=some x)(hj:X.N[j]?=some y)(hk:X.N[k]?=some z)(hij:i≠j)(hik:i≠k)(hjk:j≠k)(hx:X.env.scope.names.lookup x=some .local)(hy:X.env.scope.names.lookup y=some .local)(hz:X.env.scope.names.lookup z=some .local)(ha:QA X [a,b,c] m)(hw:swappedStores [.Tuple [.Name x f,.Name y g,.Name z e] l h] (.Tuple [a,b,c] k2 d) X.env=pure (some [x,y,z]))(hs:swapsWithSole [.Tuple [.Name x f,.Name y g,.Name z e] l h] (.Tuple [a,b,c] k2 d) pos.line X.env=pure false:=by rfl):QS X (.Assign [.Tuple [.Name x f,.Name y g,.Name z e] l h] (.Tuple [a,b,c] k2 d) pos) (A4b i j k m) :=
 ⟨A6k (hc:=hc) (hN:=hN) (hi:=hi) (hj:=hj) (hk:=hk) (hij:=hij) (hik:=hik) (hjk:=hjk) (hx:=hx) (hy:=hy) (hz:=hz) (ha:=ha.get) (hw:=hw) ⟩
theorem O9 (hu:X.A.units+64<cLine)(ha:QE X a ta)(hb:QE X b tb)(hm:behindInMarks .NotIn b=false):QT X (.Compare a [.NotIn] [b] pos) (Kv (tOp (A5t true) ta tb)) :=
 ⟨Xu (hu:=hu) (ha:=ha.get) (hb:=hb.get) (hm:=hm)⟩
theorem Vx    (h:Ph es=some vs):QA X es (tK vs):=⟨W8 h⟩
theorem QW.qt    (h:QW X e t):QT X e t:=⟨h.get.pt⟩
theorem qv (i:Nat)  {a:Pos}(hN:X.N[i]?=some x:=by rfl) (hv:Vis X.env.scope x:=by first | exact Or.inl rfl | exact Or.inr (Or.inl rfl) | exact Or.inr (Or.inr rfl)) (hd:(x==("__debug__" : Str))=false:=by decide) (hcd:(x==("__classdict__" : Str))=false:=by decide):QE X (.Name x a) (Aj5 i):=⟨Yt hN hv hd hcd⟩
end L2
namespace L2
open PySem
theorem Jl       (h:QSs X st t) (k:t D a H):∃t,PSs X st t/\t D a H:=⟨t,h.get,k⟩
theorem Rk:El "NoneType" "int" = some false:=by trivial
theorem Rm:El "NoneType" "str" = some false:=by trivial
theorem Qk:El "NoneType" "bool" = some false:=by trivial
theorem Qa:El "NoneType" "list" = some false:=by trivial
theorem Pa:El "NoneType" "tuple" = some false:=by trivial
theorem Ab8:El "bool" "int" = some true:=by trivial
theorem Ze:El "bool" "str" = some false:=by trivial
theorem Yy:El "bool" "bool" = some true:=by trivial
theorem X7:El "bool" "list" = some false:=by trivial
theorem Vo:El "bool" "tuple" = some false:=by trivial
theorem Ai2:El "int" "int" = some true:=by trivial
theorem Ah3:El "int" "str" = some false:=by trivial
theorem Ad3:El "int" "bool" = some false:=by trivial
theorem Ab2:El "int" "list" = some false:=by trivial
theorem Y0:El "int" "tuple" = some false:=by trivial
theorem Ag3:El "str" "int" = some false:=by trivial
theorem Ag9:El "str" "str" = some true:=by trivial
theorem Ab1:El "str" "bool" = some false:=by trivial
theorem Zc:El "str" "list" = some false:=by trivial
theorem Yn:El "str" "tuple" = some false:=by trivial
theorem Ad5:El "list" "int" = some false:=by trivial
theorem Z6:El "list" "str" = some false:=by trivial
theorem Yd:El "list" "bool" = some false:=by trivial
theorem Xw:El "list" "list" = some true:=by trivial
theorem Vm:El "list" "tuple" = some false:=by trivial
theorem Ye:El "tuple" "int" = some false:=by trivial
theorem Xz:El "tuple" "str" = some false:=by trivial
theorem Vi:El "tuple" "bool" = some false:=by trivial
theorem Ve:El "tuple" "list" = some false:=by trivial
theorem U5:El "tuple" "tuple" = some true:=by trivial
section
variable {K:PySem.W.Frag}{H:Hp}{Q:VK}{x:V}{T:String}{i j:Int}{a p:Addr}
theorem Bd4  (h:H a=some (.lst xs)):Nf H (.ref a)=some "list" := by simp only[Nf,h]
theorem Bj9  (h:H a=some (.tup xs)):Nf H (.ref a)=some "tuple" := by simp only[Nf,h]
theorem A7p  (h:H a=some (.lst xs)):Ar2 H (.ref a)=some xs.length:=by simp only[Ar2,h]
theorem A5h  (h:H a=some (.tup xs)):Ar2 H (.ref a)=some xs.length:=by simp only[Ar2,h]
end
abbrev g2 (K:PySem.W.Frag)(i j:Nat):TG:=Aq5 K 2 (Pu (Js i) (Pu (Js j) Aj8))
theorem exc {R:Addr->Addr->List V->List V->Prop}{x y:Addr}:(∃a b xs ys,V.ref x=V.ref a/\V.ref y=V.ref b/\R a b xs ys)↔∃xs ys,R x y xs ys:=by
 constructor
 ·rintro⟨a,b,xs,ys,e1,e2,h⟩;cases e1;cases e2;exact⟨xs,ys,h⟩
 ·rintro⟨xs,ys,h⟩;exact⟨x,y,xs,ys,rfl,rfl,h⟩
mutual
def noL:PyData->Bool
 | .none=>true
 | .bool _=>true
 | .int _=>true
 | .str _=>true
 | .tuple ds=>Nk ds
 | .list _=>false
 | .dict _=>false
def Nk:List PyData->Bool
 | []=>true
 | d::r=>noL d&&Nk r
end
theorem TrL.got {H:Hp}:∀{ds:List PyData}{vs:List V}{k:Nat}{d:PyData},TrL H ds vs->ds[k]?=some d->∃v,vs[k]?=some v/\Tr H d v
 | [],_,k,d,h,e=>by simp at e
 | d::r,_,0,_,⟨v,_,rfl,q,_⟩,e=>by simp at e;subst e;exact⟨v,rfl,q⟩
 | d::r,_,k+1,_,⟨_,_,rfl,_,q⟩,e=>by simp at e;simpa using TrL.got q e
theorem TrL.app {H:Hp}:∀{ds es:List PyData}{vs us:List V},TrL H ds vs->TrL H es us->TrL H (ds++es) (vs++us)
 | [],es,_,us,h,q=>by cases (show _=[] from h);exact q
 | d::r,es,_,us,⟨v,vr,rfl,q1,q2⟩,q=>⟨v,vr++us,rfl,q1,TrL.app q2 q⟩
theorem TrL.one    (h:Tr H d v):TrL H [d] [v]:=⟨v,[],rfl,h,rfl⟩
theorem O1  (h:∀d∈ds,noL d=true):Nk ds=true:=by
 induction ds with
 | nil=>rfl
 | cons a r b=>show (noL a&&Nk r)=true;grind
end L2
namespace L2
open PySem PySem.Spec PyProof.Rows
def sgn (c:Nat):V:=.str ⟨#[c]⟩
def Its (x:Str):It:=⟨fun i _=>i<x.cps.size,fun i H v H'=>H'=H/\∃c,x.cps[i]?=some c/\v=sgn c,fun i _=>i=x.cps.size⟩
def Be9 (it:Addr)(ty:String)(x:Str)(t:Tok)(i:Nat)(h:Heap):Prop:=h.IsStrIter it ty x t i
theorem Z7 {P:Program}{w:World}{K:PySem.W.Frag}{tg:Expr}{it:Addr}{ty:String}{x:Str}{t:Tok}
 (W:∀A':Around,A'.handled=none->Walks P w A' it [it] [it] x.cps.size (SignAt x) (Be9 it ty x t))
 (hs:∀(A:Around) (i:Nat) (s:Shared) (Q:Value->Shared->Prop) (E:Value->Shared->Prop),Be9 it ty x t i s.heap->Q (.ref it) s->wpAny (model P w) A (pyIter (.ref it)) Q E s)
 (hn:["enumerate", "zip", "dict_itemiterator", "dict_reverseitemiterator", "odict_iterator", "itertools.zip_longest", "itertools.pairwise"].contains ty=false):Turn P w K tg (Its x) [it] it (Be9 it ty x t) where
 mem:=by simp
 obj:=fun i h st b hb=>by
  have e:b=it:=by simpa using hb
  subst e;obtain⟨o,e,c,d⟩:=st
  exact⟨o,e,fun v z=>by rw[d]at z;cases z⟩
 keep:=fun i h h' st k=>by
  obtain⟨o,e,r⟩:=st
  exact⟨o,k it (by simp) o e,r⟩
 item:=by
  intro X hP hw hK hc i pins s σ H E I hf st hg;subst hP hw hK
  obtain⟨f0,f1,f2,f3,f4,f5⟩:=hf it (by simp)
  refine (W X.A (I.ok.hd hc)).item i s _ _ hg st fun v h' tk hv st' kk=>?_
  obtain⟨c,u,hx,rfl⟩:=hv
  have I1:Inv X pins σ H { s with heap:=h',toks:=tk }:=I.turned (fun b o hb e=>kk b o (by simpa using hb) e) f0 f1 f3 f4 f5
  obtain⟨o,e,c',d⟩:=id st'
  exact⟨_,rfl,Am3 (s:={ s with heap:=h',toks:=tk }) e c' d hn ⟨sgn c,H,I1,⟨u,rfl⟩,⟨rfl,c,hx,rfl⟩,st',fun b hb=>(hf b hb).1⟩⟩
 done:=by
  intro X hP hw hK hc i pins s σ H E I hf st hg;subst hP hw hK
  obtain⟨f0,f1,f2,f3,f4,f5⟩:=hf it (by simp)
  have e:i=x.cps.size:=hg;subst e
  exact(W X.A (I.ok.hd hc)).done s _ _ st fun h' tk kk=>⟨rfl,I.turned (fun b o hb e=>kk b o (by simpa using hb) e) f0 f1 f3 f4 f5⟩
 self:=hs
section
variable {X:Cx}{tg:Expr}
def Be0 (tl:TE):TI:=fun σ H R=>tl σ H fun x H1=>∃y,x=.str y/\R (Its y) H1
theorem Bj5 {l:Expr}{k:TE}(hl:PE X l k):PI X tg l (Be0 k):=by
 intro d s r H R I h
 refine thn (hl d s r H _ I h) fun v a ⟨x,m,c,u,n⟩=>?_
 obtain⟨y,e,q⟩:=n;subst e;obtain⟨t,rfl⟩:=u
 cases ha:y.cps.all (·<128)
 ·refine wpAny_pyIter_wide ha ?_
  refine⟨a.heap.objs.size,[a.heap.objs.size],_,_,m,rfl,c.kept (t':=a.toks) fun b o e=>Heap.get?_push_of_some _ e,Z7 (ty := "str_iterator") (fun p j=>Walks.strWide j _ y t) (fun A i s Q E g h=>wpAny_pyIter_striter_wide g h) (by decide),⟨_,Heap.get?_push_size _ rfl,rfl,rfl⟩,fun b f=>?_,q⟩
  have e:b=a.heap.objs.size:=by simpa using f
  subst e;exact c.fpOk (Nat.le_refl _) (c.hok.fresh (Nat.le_refl _))
 ·refine wpAny_pyIter_ascii ha ?_
  refine⟨a.heap.objs.size,[a.heap.objs.size],_,_,m,rfl,c.kept (t':=a.toks) fun b o e=>Heap.get?_push_of_some _ e,Z7 (ty := "str_ascii_iterator") (fun p j=>Walks.strAscii j _ y t) (fun A i s Q E g h=>wpAny_pyIter_striter_ascii g h) (by decide),⟨_,Heap.get?_push_size _ rfl,rfl,rfl⟩,fun b f=>?_,q⟩
  have e  := by simpa using f
  subst e;exact c.fpOk (Nat.le_refl _) (c.hok.fresh (Nat.le_refl _))
theorem Bk9 {l:Expr}{a:TE}(hl:QE X l a):QI X tg l (Be0 a):=⟨Bj5 hl.get⟩
end
end L2
namespace L2
open PySem
mutual
def wt:PyData->Nat
 | .none=>4
 | .bool _=>5
 | .int _=>1921
 | .str x=>10*x.length+2
 | .list xs=>Ih xs+4
 | .tuple xs=>Ih xs+4
 | .dict _=>0
def Ih:List PyData->Nat
 | []=>0
 | x::xs=>wt x+2+Ih xs
end
theorem Ac8:∀(ts:List Str) (k:Nat) (acc:Str),(textFrom k acc ts).length<=acc.length+(ts.map fun t=>t.length+2).sum
 | [],k,acc=>Nat.le_refl _
 | t::r,k,acc=>by
  have ih:=Ac8 r (k+1) (acc++(if k>0 then ", " else "" : String)++t)
  have e:(acc++(if k>0 then ", " else "" : String)++t).length<=acc.length+2+t.length:=by
   rw[strLen_append,strLen_append]
   split
   ·exact Nat.le_refl _
   ·show acc.length+0+t.length<=_;omega
  show (textFrom (k+1) (acc++(if k>0 then ", " else "" : String)++t) r).length<=_
  rw[List.map_cons,List.sum_cons];omega
theorem A2s (ts:List Str):(listText ts).length<=(ts.map fun t=>t.length+2).sum+4:=by
 unfold listText;rw[strLen_append]
 have:=Ac8 ts 0 "["
 have b:("[" : Str).length=1:=rfl
 have a:("]" : Str).length=1:=rfl
 omega
theorem Wy:∀ts:List Str,piled ts=(ts.map fun t=>t.length+2).sum
 | []=>rfl
 | t::r=>by rw[piled_cons,List.map_cons,List.sum_cons,Wy r]
theorem Av2 (ts:List Str):(tupleText ts).length<=(ts.map fun t=>t.length+2).sum+4:=by
 unfold tupleText;rw[strLen_append,strLen_append]
 have b:("(" : Str).length=1:=rfl
 have c:(if ts.length==1 then (",)" : Str) else (")" : Str)).length<=2:=by split <;> decide
 have a:((if ts.length==1 then ",)" else ")" : String):Str).length<=2:=by grind
 by_cases h:ts=[]
 ·subst h;show 1+0+_<=_;grind
 ·have:=join_length_add _ h
  rw[Wy]at this;omega
mutual
theorem Zg:∀d:PyData,d.canLay0=true->d.showable=true->d.shown.length<=wt d
 | .none,_,_=>by decide
 | .bool b,_,_=>by cases b <;> decide
 | .int i,_,h=>PyProof.Rows.int_text_len_1921 (by simpa[PyData.showable] using h)
 | .str x,h,_=>StrLaws.reprText_len x fun c hc=>by
  have h:x.cps.all (·<0x110000)=true:=h
  have:=Array.all_eq_true_iff_forall_mem.mp h c (Array.mem_toList_iff.mp hc);have:=of_decide_eq_true this;omega
 | .list xs,h,s=>Nat.le_trans (A2s _) (Nat.add_le_add_right (K9 xs h s) 4)
 | .tuple xs,h,s=>Nat.le_trans (Av2 _) (Nat.add_le_add_right (K9 xs h s) 4)
 | .dict kv,h,_=>nomatch h
theorem K9:∀ds:List PyData,PyData.canLayAll0 ds=true->PyData.showableAll ds=true->((PyData.shownAll ds).map fun t=>t.length+2).sum<=Ih ds
 | [],_,_=>Nat.le_refl _
 | d::r,h,s=>by
  obtain⟨h1,h2⟩:=Bool.and_eq_true_iff.mp (show (d.canLay0&&PyData.canLayAll0 r)=true from h)
  obtain⟨s1,s2⟩:=Bool.and_eq_true_iff.mp (show (d.showable&&PyData.showableAll r)=true from s)
  have a:=Zg d h1 s1;have b:=K9 r h2 s2
  show (((d.shown::PyData.shownAll r).map fun t=>t.length+2).sum)<=wt d+2+Ih r
  rw[List.map_cons,List.sum_cons];omega
end
end L2
namespace L2
open PySem PySem.Spec PyProof.Rows
section
variable {P:Program}{w:World}{A:Around}
theorem Aa7 {s:Shared}{l:Addr}{c:List Value}{ks:List Key}{Q:Value->Shared->Prop}{E:Value->Shared->Prop}(g:A.handled=none)(hl:s.heap.IsTuple l c.toArray)
 (is:∀(i:Nat) (v:Value),c[i]?=some v->∃k,ks[i]?=some k/\M5 k v=true/\v.scannable=true) (hlen:ks.length=c.length) (few:c.length+1<scanBound)
 (fin:∀d tk,Rq P w s.heap.objs.size (dst ks) d->(∀b o,s.heap.get? b=some o->d.get? b=some o)->Q (.ref s.heap.objs.size) { s with heap:=d,toks:=tk }) :
 wpAny (model P w) A (call (.type "set") [.ref l]) Q E s:=by
 refine Aa6 (fun z=>∃d tk,z={ s with heap:=d,toks:=tk }/\Rq P w s.heap.objs.size (dst ks) d/\∀b o,s.heap.get? b=some o->d.get? b=some o) ?_ fun a=>?_
 ·rintro z ⟨d,tk,rfl,q1,q2⟩
  exact fin d tk q1 q2
 have hl2:(Fg s a).heap.IsTuple l c.toArray:=hl.push _;obtain⟨ob,g1,g2,n,g3⟩:=hl2;obtain⟨_,dct,_,sls⟩:=ob
 dsimp only at g2 g3
 subst g2 g3;have w1:=F.sub_tuple_set;have w2:=F.sub_tuple_frozenset
 have w3:(Value.type "tuple" == Value.type "dict")=false:=by decide
 have hl3:(Fg s a).heap.IsTuple l c.toArray:=⟨_,g1,rfl,n,rfl⟩;unfold Builtin.«set.__init__» Builtin.Frozenset.updateFrom noKeywords;generalize walk:pyIter=itr
 wp_walk
 subst walk;apply wpAny_pyIter_tuple hl3;apply wpAny_bind;apply wpAny_runValue
 have lt:l<s.heap.objs.size:=by obtain⟨o,e,_⟩:=hl;exact Heap.lt_size e
 have sz:(Fg s a).heap.objs.size=s.heap.objs.size+1:=Heap.size_push _ _
 have f:A.in1.in1.in1.handled=none:=by simp[g]
 have h:l≠(Fg s a).heap.objs.size:=by rw[sz];exact Nat.ne_of_lt (Nat.lt_succ_of_lt lt)
 have wk:=(Walks.tuple (prog:=P) (w:=w) f _ l h c.toArray).toS
 refine fill wk (S:=s.heap.objs.size) ?_ ks (by simpa using hlen) (fun i v p=>is i v (by simpa using p)) (by simpa using few) _ ?_ c.length 0 _ (by simp) ⟨⟨_,Heap.get?_push_size _ rfl,rfl,rfl⟩,hl3.push _⟩ (Moved.refl wk.grefl) ?_
 ·rw[sz]
  intro q
  rcases List.mem_cons.mp q with q | q
  ·exact Nat.ne_of_lt (Nat.lt_succ_self _) q
  ·exact Nat.ne_of_gt lt (List.mem_singleton.mp q)
 ·intro z mv sh
  obtain⟨d,g',d',t',o'⟩:=z;have e1:g'=s.gens:=mv.gens;have e2:d'=s.drawn:=mv.drawn;have e3:o'=s.os:=mv.os;subst e1 e2 e3;apply wpAny_pure
  show wpAny _ _ (ret Value.none) _ _ _
  refine wpAny_pure ⟨rfl,d,t',rfl,sh,fun b o q=>mv.heap b o ?_ (Heap.get?_push_of_some _ (Heap.get?_push_of_some _ q))⟩
  have bl:=Heap.lt_size q;intro m
  rcases List.mem_cons.mp m with m | m
  ·exact Nat.ne_of_lt bl m
  ·have m:=List.mem_singleton.mp m
   rw[sz]at m;exact Nat.ne_of_lt (Nat.lt_succ_of_lt bl) m
 ·have new:((Fg s a).heap.push { cls:=.type "tuple_iterator",data:=.fields #[.ref l,.int 0 0] }).get? s.heap.objs.size=some (bare a):=Heap.get?_push_of_some _ (Ny s a)
  have e:Kz ([]:List Key)=fun _=>false:=rfl
  show Heap.SetOf (En P w) _ _ (Kz []) 0
  rw[e]
  exact⟨_,_,_,_,new,⟨rfl,rfl,rfl⟩,rfl,fun x m=>by simp at m,fun k=>by simp,by decide,by cases a <;> rfl,rfl⟩
end
section
variable {X:Cx}
def V5 (P:Program)(w:World)(K:PySem.W.Frag):List V->Hp->VK->Prop:=fun xs H Q=>∃(a:Addr) (vs:List V) (ks:List Key),xs=[.ref a]/\SqT K H a vs/\vs.map keyV=ks.map some/\vs.length<1000/\∀p,H p=none->Q (.ref p) (upd H p (Af7 P w p (dst ks)))
theorem Aw0 (hc:X.calm=true):CallR X (.type "set") (V5 X.prog X.w X.K):=by
 intro l s σ H xs us Q I r h;obtain⟨a,c,b,rfl,w,p,hv,q⟩:=h;obtain⟨u,rfl,f⟩:=vals1 r
 cases (show u=Value.ref a from f)
 obtain⟨j,d,t,hz⟩:=I.tuple w
 have g:b.length=c.length:=by have:=congrArg List.length p;grind
 refine Aa7 (ks:=b) (I.ok.hd hc) (show s.heap.IsTuple a j.toArray from t) (fun i v e=>?_) (by rw[g,d.length]) (by rw[<- d.length];unfold scanBound;omega) fun h' tk n A=>?_
 ·have C:i<c.length:=by have:=(List.getElem?_eq_some_iff.mp e).1;rw[d.length];exact this
  have B:i<b.length:=by omega
  obtain⟨u,m,f⟩:=d.get (i:=i) (x:=c[i]) (by simp[C])
  rw[e]at m
  cases m
  have D:keyV c[i]=some b[i]:=by
   have:=congrArg (fun z=>z[i]?) p
   grind
  exact⟨b[i],by simp ,Ap7 D f⟩
 ·have k:z9 X.prog X.w (upd H s.heap.objs.size (Af7 X.prog X.w s.heap.objs.size (dst b))) _ _ (Af7 _ _ _ _) :=
   ⟨n,let ⟨o,_,_,_,e,_⟩:=n; ⟨o,e⟩,fun h1 h2 x y=>Lw x y⟩
  exact⟨.ref _,_,I.laid  A (Nat.le_refl _) k,rfl,q _ (I.hok.fresh (Nat.le_refl _))⟩
theorem Af8 {e:Expr}{c:TE}{p d b a:Pos}(hc:X.calm=true)(hgs:Gl X "set") (hms:X.mg "set" = none) (hgl:Gl X "len") (hml:X.mg "len" = none) (he:PE X e c) (hns:isStar e=false:=by rfl) :
 PE X (.Call (.Name "len" p) [.Call (.Name "set" d) [e] [] a] [] b) (tCB (Hw X.prog X.w) (Ci (tCB (V5 X.prog X.w X.K) (Ci c Fe)) Fe)) :=
 Fb Q4 hgl hml Ag0 (At9 (Ha (Aw0 hc) hgs hms A4g (At9 he N8 hns) (by decide) (by rfl) (by show !isStar e&&true=true;grind)) N8 rfl) (by decide) (by rfl) rfl
theorem Af0 {Kq:PySem.W.Frag}(b:X.K=Kq){e:Expr}{d:TE}{p f c a:Pos}(hc:X.calm=true)(hgs:Gl X "set") (hms:X.mg "set" = none) (hgl:Gl X "len") (hml:X.mg "len" = none) (he:QE X e d) (hns:isStar e=false:=by rfl):QE X (.Call (.Name "len" p) [.Call (.Name "set" f) [e] [] a] [] c) (tCB (Hw X.prog X.w) (Ci (tCB (V5 X.prog X.w Kq) (Ci d Fe)) Fe)):=by
 subst b;exact⟨Af8 (hc:=hc) (hgs:=hgs) (hms:=hms) (hgl:=hgl) (hml:=hml) (he:=he.get) (hns:=hns)⟩
end
end L2
namespace HT
open PySem PySem.Spec PyProof.Rows
section
variable {prog:Program}{w:World}{A:Around}{E:Value->Shared->Prop}{s:Shared}
theorem Qm {sl:Addr}{vst:Value}{n:Nat}{Q:Int×Int×Nat->Shared->Prop}(hs:s.heap.IsSliceOf sl .none .none vst)(ps:IsPart vst (some (-1)))
 (h:Q ((n:Int)-1,-1,n) s):wpAny (model prog w) A (Builtin.Slice.sliceApplied (.ref sl) (pure (n:Int))) Q E s:=by
 obtain⟨os,hos,hcs,hds⟩:=id hs;unfold Builtin.Slice.sliceApplied Builtin.Slice.sliceFields
 refine wpAny_bind (wpAny_bind (wpAny_field hos hds (x:=.none) rfl (wpAny_bind (wpAny_field hos hds (x:=.none) rfl (wpAny_bind (wpAny_field hos hds (x:=vst) rfl (wpAny_pure ?_)))))))
 refine wpAny_bind (Nm ps ?_)
 show wpAny _ _ (if (((-1):Int)==0)=true then _ else _) _ _ s
 rw[if_neg (by decide)]
 refine wpAny_bind (slicePart_none (wpAny_bind (slicePart_none (wpAny_bind (wpAny_pure ?_)))))
 show wpAny _ _ (match Builtin.Slice.sliceAdjust none none (-1) (n:Int) with | (lo,hi)=>pure (lo,(-1:Int),Builtin.Slice.slicePlaces lo hi (-1))) _ _ s
 have e1:Builtin.Slice.sliceAdjust none none (-1) (n:Int)=((n:Int)-1,-1):=rfl;rw[e1]
 show wpAny _ _ (pure ((n:Int)-1,(-1:Int),Builtin.Slice.slicePlaces ((n:Int)-1) (-1) (-1))) _ _ s
 have e2:Builtin.Slice.slicePlaces ((n:Int)-1) (-1) (-1)=n:=by
  unfold Builtin.Slice.slicePlaces
  rw[if_neg (by decide)]
  by_cases h0:n=0
  ·subst h0;rfl
  ·rw[if_pos (by omega)]
   have:((n:Int)-1 - -1-1) / (- -1)=(n:Int)-1:=by
    have:(- -1:Int)=1:=by decide
    rw[this,Int.ediv_one];omega
   rw[this];omega
 rw[e2];exact wpAny_pure h
theorem Ac9 (xs:Array Value):((List.range xs.size).filterMap fun (m:Nat)=>xs[((xs.size:Int)-1+(m:Int)*(-1)).toNat]?).toArray=xs.toList.reverse.toArray:=by
 congr 1
 apply List.ext_getElem?;intro i
 have:((List.range xs.size).filterMap fun (m:Nat)=>xs[((xs.size:Int)-1+(m:Int)*(-1)).toNat]?)=(List.range xs.size).map fun m=>xs.toList.reverse.getD m .none:=by
  have d:∀l:List Nat,(∀m∈l,m<xs.size)->(l.filterMap fun (m:Nat)=>xs[((xs.size:Int)-1+(m:Int)*(-1)).toNat]?)=l.map fun m=>xs.toList.reverse.getD m .none:=by
   intro l
   induction l with
   | nil=>intro _;rfl
   | cons m r j =>
    intro a;have b:=a m (.head _)
    have e:((xs.size:Int)-1+(m:Int)*(-1)).toNat=xs.size-1-m:=by omega
    have c:m<xs.toList.reverse.length:=by simpa using b
    have n:xs.toList.reverse.getD m .none=xs[xs.size-1-m]:=by
     rw[List.getD_eq_getElem?_getD,List.getElem?_eq_getElem c]
     simp
    have o:xs[((xs.size:Int)-1+(m:Int)*(-1)).toNat]?=some (xs.toList.reverse.getD m .none):=by
     rw[n,e,Array.getElem?_eq_getElem]
    rw[List.filterMap_cons_some (f:=fun (m:Nat)=>xs[((xs.size:Int)-1+m*-1).toNat]?) o,List.map_cons,j fun k g=>a k (.tail _ g)]
  exact d _ fun m b=>List.mem_range.mp b
 rw[this]
 by_cases h:i<xs.size
 ·have c:i<xs.toList.reverse.length:=by simpa using h
  rw[List.getElem?_map,List.getElem?_range h,List.getElem?_eq_getElem c]
  show some (xs.toList.reverse.getD i _)=_
  rw[List.getD_eq_getElem?_getD,List.getElem?_eq_getElem _];rfl
 ·rw[List.getElem?_eq_none (by simpa using h),List.getElem?_eq_none (by simpa using h)]
theorem Od {t sl:Addr}{items:Array Value}{vst:Value}{Q:Value->Shared->Prop}(ht:IsTup s.heap t items)(hs:s.heap.IsSliceOf sl .none .none vst)(ps:IsPart vst (some (-1)))
 (h:Q (.ref s.heap.objs.size) { s with heap:=s.heap.push { cls:=.type "tuple",data:=.seq items.toList.reverse.toArray } })
 (hsz:items.size<=sizeLine):wpAny (model prog w) A (getItem (.ref t) (.ref sl)) Q E s:=by
 have htake:sizeOk (.seq items.toList.reverse.toArray):=by
  show items.toList.reverse.toArray.size<=sizeLine
  rw[List.size_toArray,List.length_reverse,Array.length_toList];exact hsz
 obtain⟨os,hos,hcs,hds⟩:=id hs;have hTs:s.TypeIs (.ref sl) "slice" := ⟨os,hos,hcs⟩;unfold getItem
 try with_reducible refine wpAny_holding ?_
 first | refine wpAny_bind (wpAny_pure ?_) | skip
 refine wpAny_bind (wpAny_sequenceKey ht.typeIs (by decide) ?_)
 refine wpAny_bind (wpAny_callSpecial?_slot (name:="__getitem__") ht.typeIs PyProof.Rows.slot_tuple_getitem
  (wpAny_call_entry PyProof.Rows.slot_tuple_getitem ht.typeIs entry_tuple_getitem ?_ (args_tuple_getitem _ _)))
 show wpAny _ _ (Builtin.Tuple.tupleItemsOf (.ref t) >>= _) _ _ s
 refine wpAny_bind (tupleItemsOf_ ht ?_)
 refine wpAny_bind (wpAny_typeOf hTs ?_)
 rw[if_pos (by decide)]
 refine wpAny_bind (Qm hs ps ?_)
 have hno:¬ (((((items.size:Int)-1)==0&&((-1):Int)==1)&&items.size==items.size)=true):=by
  intro q;rw[Bool.and_eq_true,Bool.and_eq_true]at q
  exact absurd q.1.2 (by decide)
 show wpAny _ _ (if ((((items.size:Int)-1)==0&&((-1):Int)==1)&&items.size==items.size)=true then _ else _) _ _ s
 rw[if_neg hno,Ac9]
 first
  | exact wpAny_bind (m:=Builtin.Tuple.tupleExact _) (wpAny_newObj_type (wpAny_pure ⟨_,rfl,wpAny_pure h⟩) htake)
  | exact wpAny_bind (m:=Builtin.Tuple.tupleExact _) (wpAny_newObj_type (wpAny_bind (wpAny_pure (wpAny_pure ⟨_,rfl,wpAny_pure h⟩))) htake)
  | exact wpAny_bind (wpAny_bind (m:=Builtin.Tuple.tupleExact _) (wpAny_newObj_type (wpAny_pure (wpAny_pure ⟨_,rfl,wpAny_pure h⟩)) htake))
  | exact wpAny_bind (wpAny_bind (m:=Builtin.Tuple.tupleExact _) (wpAny_newObj_type (wpAny_pure ⟨_,rfl,wpAny_pure h⟩) htake))
end
end HT
namespace L2
open PySem PySem.Spec PyProof.Rows
section
variable {X:Cx}{a b e:Expr}{ta tb te:TE}{pos p2:Pos}{st:Expr}{tst:TO}
def Bt8:R2:=fun x y H Q=>∃i j,x=.str i/\y=.str j/\Q (.bl (!(Builtin.Str.occurrences j i 0 j.length 1).isEmpty)) H
end
end L2
namespace HT
open PySem PySem.Spec PyProof.Rows
section
variable {prog:Program}{w:World}{A:Around}{E:Value->Shared->Prop}{s:Shared}
theorem Ms    {lo hi:Option Int}  (ht:IsTup s.heap t items) (hs:s.heap.IsSliceOf b g f .none) (pl:IsPart g lo) (i:IsPart f hi)
 (hw:sIx items.size 0 lo=0/\sIx items.size items.size hi=items.size) (h:Q (.ref t) s):wpAny (model prog w) A (getItem (.ref t) (.ref b)) Q E s:=by
 obtain⟨k,d,c,j⟩:=id hs;have e:s.TypeIs (.ref b) "slice" := ⟨k,d,c⟩;unfold getItem
 try with_reducible refine wpAny_holding ?_
 first | refine wpAny_bind (wpAny_pure ?_) | skip
 refine wpAny_bind (wpAny_sequenceKey ht.typeIs (by decide) ?_)
 refine wpAny_bind (wpAny_callSpecial?_slot (name:="__getitem__") ht.typeIs PyProof.Rows.slot_tuple_getitem
  (wpAny_call_entry PyProof.Rows.slot_tuple_getitem ht.typeIs entry_tuple_getitem ?_ (args_tuple_getitem _ _)))
 show wpAny _ _ (Builtin.Tuple.tupleItemsOf (.ref t) >>= _) _ _ s
 refine wpAny_bind (tupleItemsOf_ ht ?_)
 refine wpAny_bind (wpAny_typeOf e ?_)
 rw[if_pos (by decide)]
 refine wpAny_bind (Jt hs pl i ?_)
 show wpAny _ _ (if (((sIx items.size 0 lo:Nat):Int)==0&&(1:Int)==1&&(sIx _ _ _-sIx _ 0 _)==items.size)=true then _ else _) _ _ s
 have a:(((sIx items.size 0 lo):Int)==0&&(1:Int)==1&&sIx items.size items.size hi-sIx items.size 0 lo==items.size)=true:=by
  rw[hw.1,hw.2];simp
 rw[if_pos a]
 refine wpAny_bind  (wpAny_bind (wpAny_typeOf ht.typeIs (wpAny_pure ?_)))
 refine wpAny_bind (wpAny_rule ?_)
 first
  | exact wpAny_pure ⟨_,rfl,wpAny_pure h⟩
  | exact wpAny_bind _
  | exact wpAny_bind _
  | trace_state
end
end HT
namespace L2
open PySem PySem.Spec PyProof.Rows
section
variable {X:Cx}
def A9p (K:PySem.W.Frag):V->Option Int->Option Int->Hp->VK->Prop:=fun x lo hi H Q=>∃a xs,x=.ref a/\SqT K H a xs /\
 (HT.sIx xs.length 0 lo=0/\HT.sIx xs.length xs.length hi=xs.length)/\Q (.ref a) H
theorem A8p:SlR X (A9p X.K):=by
 intro d s σ H x v vl vu lo hi sl Q I k f g e h;obtain⟨a,xs,rfl,j,hw,q⟩:=h
 cases k
 obtain⟨i,r,c,hz⟩:=I.tuple j
 have b  := by exact r.length.symm
 refine⟨"tuple",_,PyProof.Rows.slot_tuple_getitem.lookup,c.typeIs,?_⟩
 exact HT.Ms c f g e (by grind) ⟨.ref a,H,I,rfl,q⟩
end
section
variable {X:Cx}
def Bt4:V->Option Str
 | .non=>some (Str.ofString "None")
 | .bl b=>some (if b then Str.ofString "True" else Str.ofString "False")
 | .str x=>some x
 | _=>none
def Qv (K:PySem.W.Frag):List V->Hp->VK->Prop:=fun xs H Q=>∃x z,xs=[x]/\Bt4 x=some z/\Q (.str z) H
theorem Ar4:CallR X (.type "str") (Qv X.K):=by
 intro d s σ H xs us Q I r h;obtain⟨x,z,rfl,a,q⟩:=h;obtain⟨u,rfl,c⟩:=vals1 r
 cases x with
 | non=>cases a;cases (c);exact P.str_of_none ⟨.str _,H,I.tok _,⟨_,rfl⟩,q⟩
 | bl b=>cases a;cases (c);exact P.str_of_bool ⟨.str _,H,I.tok _,⟨_,by trivial⟩,q⟩
 | str y=>cases a;obtain⟨t,rfl⟩:=c;exact P.str_of_str ⟨.str _,H,I,⟨_,rfl⟩,q⟩
 | _=>cases a
end
section
variable {X:Cx}
def Bu0 (ks:List Str)(xs:List V):List (Key×V):=(ks.zip xs).map fun p=>((Sum.inr p.1:Key),p.2)
end
end L2
namespace L2
open PySem PySem.Spec PyProof.Rows PySem.W
inductive Kd where
 | ti | tt | tl | ii | ll
theorem V0 {v:V}{u:Value}(h:RelV v u):∀{vs:List V}{us:List Value},Vals vs us->Vals (vs++[v]) (us++[u])
 | _,_,.nil=>.cons h .nil
 | _,_,.cons r rs=>.cons r (V0 h rs)
end L2
namespace L2
open PySem PySem.Spec PyProof.Rows
def A3i:Value->Bool
 | .bool b=>b
 | _=>false
theorem Am4:∀{bs:List Bool}{us:List Value},Vals (bs.map V.bl) us->us=bs.map Value.bool
 | [],us,h=>by cases h;rfl
 | b::bs,us,h=>by
  cases h with
  | cons r rs =>
   rw[Am4 rs]
   cases r;rfl
section
variable {X:Cx}
def Al4 (K:PySem.W.Frag):V->List V->Hp->VK->Prop:=fun x vs H Q=>∃(a:Addr) (bs:List Bool) (j:Nat),x=.ref a/\vs=[.bl true]/\SqL K H a (bs.map V.bl)/\bs[j]?=some true/\(∀m<j,bs[m]?≠some true)/\j<1000000/\Q (.int j) H
theorem Ar9 {Kq:PySem.W.Frag}(hKq:X.K=Kq)(hu:X.A.units+64<cLine):MtM X "list.index" (Al4 Kq):=by
 subst hKq;intro pins s σ H x vs v us Q I rx rv h;obtain⟨a,bs,j,rfl,rfl,hq,hj,hno,hjs,q⟩:=h
 cases rx
 obtain⟨u,rfl,ru⟩:=rv.one
 cases ru
 obtain⟨its,r,pl,hz⟩:=I.list hq
 cases Am4 r
 obtain⟨o,n,e,hc,hdn,hd⟩:=pl;obtain⟨c0,dd,dat,sl⟩:=o
 dsimp only at hc hd hdn
 subst hc hd hdn;obtain⟨lj,ej⟩:=List.getElem?_eq_some_iff.mp hj
 refine call_meets F.slot_list_index ⟨_,e,rfl⟩ F.entry_list_index (F.args_list_index_2 _ _) (SeqAt.list_indexAt a (bs.map Value.bool).toArray n none sl (.bool true) A3i j (by simpa using lj) (by omega) ?_ ?_) ⟨e,fun w hw=>?_,?_⟩
 ·simp[A3i,ej]
 ·intro m hm hlt
  have hm':m<bs.length:=by simpa using hm
  have h2:=hno m hlt;rw[List.getElem?_eq_getElem hm']at h2
  simpa[A3i] using h2
 ·obtain⟨b,hb,rfl⟩:∃b∈bs,Value.bool b=w:=by simpa using hw
  have:=SeqAt.eqAt_reads (.bool b) (.bool true) X.A.in1 s _ _ _ _ (.bool b) (.bool true) rfl rfl (by show X.A.units+1+0<_;omega)
  cases b <;> exact this
 ·exact⟨.int _,H,I.tok _,⟨_,rfl⟩,q⟩
end
section
variable {X:Cx}
def Bq2:V->Option Int->Option Int->Hp->VK->Prop:=fun x lo hi H Q=>∃z:Str,x=.str z/\z.length<=sizeLine/\Q (.str (Txt.slice z lo hi)) H
theorem part_of   (h:IsPart v o):∃p:Option (Int×Tok),v=partValue p/\p.map (·.1)=o:=by
 cases h with
 | none=>exact⟨none,rfl,rfl⟩
 | int i t=>exact⟨some (i,t),rfl,rfl⟩
theorem Bl3:SlR X Bq2:=by
 intro a s σ H x v vl vu lo hi sl Q I d c b e h;obtain⟨z,rfl,f,q⟩:=h;obtain⟨t,rfl⟩:=d;obtain⟨l,rfl,rfl⟩:=part_of b;obtain⟨u,rfl,rfl⟩:=part_of e
 refine⟨"str",_,F.slot_str_getitem.lookup,typeIs_str _ _ _,wpAny_getItem_str_slice (l:=l) (u:=u) (st:=none) c rfl ?_⟩
 exact post_val_or_str ⟨Nat.le_trans (Txt.slice_le z _ _) f,fun t' k=>⟨.str _,H,I.tok _,⟨_,rfl⟩,q⟩⟩
end
end L2
namespace L2
open PySem PySem.Spec PyProof.Rows PySem.W
section
variable {P:Program}{w:World}{H H':Hp}{h h1 h2 B:Heap}{a b:Addr}{o:HO}{outer:List Env}
theorem z9.there (x:z9 P w H h a o):∃u,h.get? a=some u:=by
 cases o with
 | lst xs=>obtain⟨_,_,_,_,e⟩:=x;exact⟨_,e⟩
 | tup xs=>obtain⟨_,_,_,o,e,_⟩:=x;exact⟨_,e⟩
 | dK kvs=>obtain⟨_,_,_,_,o,_,_,e,_⟩:=x;exact⟨_,e⟩
 | dT kvs=>obtain⟨_,_,_,_,o,_,_,e,_⟩:=x;exact⟨_,e⟩
 | set S n=>obtain⟨o,_,_,_,e,_⟩:=x;exact⟨_,e⟩
 | ins C dx fs=>obtain⟨_,_,_,e,_⟩:=x;exact⟨_,e⟩
 | own y=>exact x
 | xd fs=>obtain⟨_,⟨_,_,_,e,_⟩,_⟩:=x;exact⟨_,e⟩
 | rng lo hi=>obtain⟨_,_,_,e⟩:=x;exact⟨_,e⟩
 | frz ob u=>obtain⟨e,_⟩:=x;exact⟨_,e⟩
 | tbl q=>obtain⟨_,e,_⟩:=x;exact⟨_,e⟩
 | met f y=>exact⟨_,(show h.get? a=some _ from x)⟩
 | ext φ=>exact x.2.1
def Cov (fs:List Addr)(H':Hp)(h0 h B:Heap):Prop:=∀b o,h.get? b=some o->b∉fs->((∃u,h0.get? b=some u)\/H' b≠none)->B.get? b=some o
theorem Bb8 (u:Un (frs outer) [] H H' h h1)(hk:HOk P w H' h1)(hB:Cov (frs outer) H' h h1 B)(ff:h1.FunFrames B outer)(frf:∀b∈frs outer,H' b=none)(st:B.StaysIn h2)(up:h1.UpToSlots h2) :
 Un (frs outer) [] H H' h h2/\HOk P w H' h2:=by
 have nx:∀b:Addr,b∉([]:List Addr):=fun b z=>nomatch z
 refine⟨⟨fun b o e n hf _=>st b o (hB b o (u.keep b o e n hf (nx b)) hf (.inl ⟨o,e⟩)),fun b o e n hf _=>?_,fun b o e n _=>u.free b o e n (nx b),fun b o e _=>?_,u.tups,u.frzs,u.tbls⟩,fun a o e=>?_⟩
 ·obtain⟨sl,e1⟩:=u.slot b o e n hf (nx b)
  obtain⟨_,o',e2,nf⟩:=ff.mem hf;rw[e1]at e2;cases e2;obtain⟨sl',e3⟩:=up b _ e1 nf;exact⟨sl',e3⟩
 ·obtain⟨o',e1⟩:=u.there b o e (nx b)
  by_cases hf:b∈frs outer
  ·obtain⟨_,o2,e2,nf⟩:=ff.mem hf
   obtain⟨sl',e3⟩:=up b _ e2 nf;exact⟨_,e3⟩
  ·exact⟨o',st b o' (hB b o' e1 hf (.inl ⟨o,e⟩))⟩
 ·have key:∀b u,H' b≠none->h1.get? b=some u->h2.get? b=some u:=fun b u hn e=>st b u (hB b u e (fun z=>hn (frf b z)) (.inr hn))
  refine (hk a o e).stay (fun b u hb eu=>key b u ?_ eu) (fun _ q=>q) (fun _ _ q=>q)
  rcases hb with rfl | hb
  ·rw[e];simp
  ·rw[hb];simp
end
structure Fly (outer:List Env) (H':Hp) (h0:Heap) (a:Addr) (cls:Value) (h:Heap):Prop where
 fl:∃B t,Heap.FlyingW B outer a cls (.ref t) h/\Cov (frs outer) H' h0 h B
 new:∀b o,h0.get? b=some o->b≠a
 free:H' a=none
def CXe (P:Program)(w:World):CXT:=fun outer H s E e s'=>∃a C H',e=.ref a/\Fly outer H' s.heap a (.ref C) s'.heap/\s'.os=s.os/\AllBare s'.gens/\Un (frs outer) [] H H' s.heap s'.heap/\HOk P w H' s'.heap/\E (.ref C) none H'
section
variable {X:Cx}{pins:List (Addr×Obj)}{σ:St}{H H':Hp}{s s':Shared}
theorem Inv.flown {h2 B:Heap}{tk:Nat}(I:Inv X pins σ H s)(u:Un (frs X.stack) [] H H' s.heap s'.heap)(hk:HOk X.prog X.w H' s'.heap)(os:s'.os=s.os)(bare:AllBare s'.gens)
 (ff:s'.heap.FunFrames B X.stack) (cov:Cov (frs X.stack) H' s.heap s'.heap B) (st:B.StaysIn h2) (up:s'.heap.UpToSlots h2):Inv X pins σ H' { s' with heap:=h2,toks:=tk }:=by
 have frf:∀b∈frs X.stack,H' b=none:=fun b hb=>by
  obtain⟨_,o,ho,_⟩:=I.stack.mem hb
  exact u.free b o ho (I.stkFree b hb) (fun z=>nomatch z)
 obtain⟨u2,k2⟩:=Bb8 u hk cov ff frf st up
 obtain⟨v,H2,I2,_,rfl⟩:=I.after (s':={ s' with heap:=h2,toks:=tk }) (Q:=fun _ H2=>H2=H') (u:=.none) ⟨.non,H',os,bare,u2,k2,rfl,rfl⟩
 exact I2
end
section
variable {P:Program}{w:World}{K:PySem.W.Frag}{mg:Str->Option Value}{base:Heap}{N:List Str}{qual:Str}{scope:Scope}{f:Addr}{cd:Value}{A:Around}{outer:List Env}{s₀:Shared}{H₀:Hp}{E:XK}
theorem Av4:Li (CXe P w) (Iv (CXe P w) P w K mg base N qual scope f cd A outer s₀ H₀ E) E:=by
 intro pins σ H s e s' I h;obtain⟨a,C,H',rfl,⟨⟨B,t,fl,cov⟩,new,fr⟩,os,bare,u,hok,q⟩:=h
 refine wpAny_leaves_onW (base:=B) (cls:=.ref C) (a0:=.ref t) I.ok.frames rfl fl fun h2 fl2 up=>?_
 have I2:Inv (Iv (CXe P w) P w K mg base N qual scope f cd A outer s₀ H₀ E) pins σ H' { s' with heap:=h2 }:=I.flown (tk:=s'.toks) u hok os bare fl.2.2.1 cov fl2.1 up
 have nb:∀b o,s₀.heap.get? b=some o->∃o',s.heap.get? b=some o':=fun b o e=>I.base.there b o e (fun z=>nomatch z)
 refine⟨a,C,H',rfl,⟨⟨B,t,fl2,fun b o e hf hb=>?_⟩,fun b o e=>?_,fr⟩,os.trans I.os,bare,I2.base,I2.hok,q⟩
 ·have nl:b≠(envOfC qual scope s₀.heap.objs.size f cd).locals:=by
   rintro rfl
   rcases hb with ⟨u',e'⟩ | hb
   ·exact absurd (Heap.lt_size e') (Nat.lt_irrefl _)
   ·exact hb I2.free
  have hfs:b∉frs (Iv (CXe P w) P w K mg base N qual scope f cd A outer s₀ H₀ E).stack:=fun z=>by
   rcases List.mem_cons.mp (I.stkSub b z) with q | q
   ·exact nl q
   ·exact hf q
  have there:∃o',s'.heap.get? b=some o':=by
   rcases hb with ⟨u',e'⟩ | hb
   ·obtain⟨o1,e1⟩:=nb b u' e'
    exact u.there b o1 e1 (fun z=>nomatch z)
   ·cases q':H' b with
    | none=>exact absurd q' hb
    | some ho=>exact(hok b ho q').there
  obtain⟨o',e'⟩:=there
  have:=cov b o' e' hfs (by
   rcases hb with ⟨u',q'⟩ | hb
   ·exact .inl (nb b u' q')
   ·exact .inr hb)
  have e2:=fl2.1 b o' this;rw[e]at e2;cases e2;exact this
 ·obtain⟨o',e'⟩:=nb b o e
  exact new b o' e'
end
def Raises (X:Cx)(E:XK):Prop:=∀(pins:List (Addr×Obj)) (σ:St) (H:Hp) (s:Shared) (h':Heap) (e C:Addr) (args:List Value),Inv X pins σ H s->Heap.MadeExcOf s.heap h' e (.ref C) args->E (.ref C) none H->X.xe (.ref e) { s with heap:=h' }
section
variable {P:Program}{w:World}{K:PySem.W.Frag}{mg:Str->Option Value}{base:Heap}{N:List Str}{qual:Str}{scope:Scope}{f:Addr}{cd:Value}{A:Around}{outer:List Env}{s₀:Shared}{H₀:Hp}{E:XK}
theorem Vv:Raises (Iv (CXe P w) P w K mg base N qual scope f cd A outer s₀ H₀ E) E:=by
 intro pins σ H s h' e C args I hx q
 let X:=Iv (CXe P w) P w K mg base N qual scope f cd A outer s₀ H₀ E
 have st0:(hideAll s.heap (frs X.stack)).StaysIn s.heap:=fun b o z=>of_hideAll _ z
 have ff:s.heap.FunFrames (hideAll s.heap (frs X.stack)) X.stack:=funFrames_hide I.stack fun env he b hb=>List.mem_filterMap.mpr ⟨env,he,hb⟩
 have ff':h'.FunFrames (hideAll s.heap (frs X.stack)) X.stack:=ff.of_keeps fun b o z _=>⟨o,hx.keeps b o z,rfl⟩
 have hok':HOk P w H h':=I.hok.kept hx.keeps
 have fr:H e=none:=by
  cases z:H e with
  | none=>rfl
  | some ho =>
   obtain⟨u,hu⟩:=(I.hok e ho z).there;rw[hx.new]at hu;cases hu
 have cov:Cov (frs X.stack) H s.heap h' (hideAll s.heap (frs X.stack)):=fun b o z hf hb=>by
  have:∃u,s.heap.get? b=some u:=by
   rcases hb with hb | hb
   ·exact hb
   ·cases y:H b with
    | none=>exact absurd y hb
    | some ho=>exact(I.hok b ho y).there
  obtain⟨u,hu⟩:=this;have:=hx.keeps b u hu;rw[z]at this;cases this;exact hideAll_get _ hu hf
 refine wpAny_leaves_madeW (h:=s.heap) (args:=args) (cls:=.ref C) I.ok.frames rfl st0 ff hx fun h2 t fl2 tup btn up=>?_
 have I2:Inv X pins σ H { s with heap:=h2 }:=I.flown (s':={ s with heap:=h' }) (tk:=s.toks) (Un.kept hx.keeps) hok' rfl I.bare ff' cov fl2.1 up
 have nb:∀b o,s₀.heap.get? b=some o->∃o',s.heap.get? b=some o':=fun b o z=>I.base.there b o z (fun z=>nomatch z)
 refine⟨e,C,H,rfl,⟨⟨_,t,fl2,fun b o z hf hb=>?_⟩,fun b o z y=>?_,fr⟩,I.os,I.bare,I2.base,I2.hok,q⟩
 ·have nl:b≠(envOfC qual scope s₀.heap.objs.size f cd).locals:=by
   rintro rfl
   rcases hb with ⟨u',e'⟩ | hb
   ·exact absurd (Heap.lt_size e') (Nat.lt_irrefl _)
   ·exact hb I2.free
  have hfs:b∉frs X.stack:=fun z=>by
   rcases List.mem_cons.mp (I.stkSub b z) with q | q
   ·exact nl q
   ·exact hf q
  have there:∃o',h'.get? b=some o':=by
   rcases hb with ⟨u',e'⟩ | hb
   ·obtain⟨o1,e1⟩:=nb b u' e'
    exact⟨o1,hx.keeps b o1 e1⟩
   ·cases q':H b with
    | none=>exact absurd q' hb
    | some ho=>exact(hok' b ho q').there
  obtain⟨o',e'⟩:=there
  have:=cov b o' e' hfs (by
   rcases hb with ⟨u',q'⟩ | hb
   ·exact .inl (nb b u' q')
   ·exact .inr hb)
  have e2:=fl2.1 b o' this;rw[z]at e2;cases e2;exact this
 ·obtain⟨o',e'⟩:=nb b o z
  rw[y,hx.new]at e';cases e'
end
theorem Oi {K:PySem.W.Frag}{h:Heap}{C:Addr}{bmB:List Value}{newId:String}(X:K.In h)(q:excIn K C bmB newId=true):∃bm N nm qn bs hdct sn sub ab col dd k0 k1 k2 k3 k5 mN,h.get? C=some (excClassObj nm qn C N bs bm hdct sn sub ab col dd k0 k1 k2 k3 k5 newId)/\h.Ns N mN/\mN "__init__" = none/\OwnTail h bmB bm:=by
 cases hl:K.lookup C with
 | none=>unfold excIn at q;rw[hl]at q;cases q
 | some ob =>
  have hX:=X _ _ hl;unfold excIn at q;rw[hl]at q;obtain⟨oc,od,da,sl⟩:=ob
  split at q
  ·rename_i d1 c1 s1 z
   cases z
   split at q
   ·rename_i C' tl x0 x1 x2 x3 n x5 y1 y2
    simp only[Bool.and_eq_true,beq_iff_eq,Bool.not_eq_true']at q;obtain⟨⟨⟨⟨⟨e1,e2⟩,e3⟩,e4⟩,e5⟩,e6⟩:=q;obtain⟨nm,bs,mro,nsp,qn,hd,sn,sub,ab,col,del⟩:=c1
    dsimp only at y1 e3 e5 e6
    subst e1 e2 y1 e3
    have e7:sl=#[x0,x1,x2,x3,some (.builtin n),x5]:=by
     obtain⟨l⟩:=sl
     dsimp only at y2
     rw[y2]
    subst e7
    refine⟨tl,nsp,nm,qn,bs,hd,sn,sub,ab,col,_,x0,x1,x2,x3,x5,h.nsMap nsp,hX,.of_isNs (isNs_of_in X e5),nsMap_none_of_in X e5 e6,tail_of_in X e4⟩
   ·cases q
  ·cases q
section
variable {X:Cx}{x:Str}{C:Addr}{np cpos pos:Pos}{e:Expr}{es:List Expr}{t:TA}{E:XK}
def Af1 (C:Addr)(E:XK)(t:TA):TS:=fun _ σ H=>t σ H fun vs H1=>vs.length<=sizeLine/\E (.ref C) none H1
theorem A2e (hR:Raises X E)(hc:X.calm=true)(hg:Gl X x)(hm:X.mg x=some (.ref C))(hq:excIn X.K C bmV "ValueError.__new__" = true) (ha:PA X (e::es) t) (hdb:(x==("__debug__" : Str))=false:=by decide)
 (he:starEach (e::es) X.env=(false,eval e X.env)::starEach es X.env:=by rfl) (hpl:(backTo cpos (starEach es X.env)).any (·.1)=false:=by rfl) :
 PS X (.Raise (some (.Call (.Name x np) (e::es) [] cpos)) none pos) (Af1 C E t):=by
 intro pins s σ H D I h;obtain⟨bm,Nn,nm,qn,bs,hdct,sn,sub,ab,col,dd,k0,k1,k2,k3,k5,mN,hC,hN,hni,T⟩:=Oi I.mod.kin hq
 have hp2:(backTo cpos (starEach (e::es) X.env)).any (·.1)=false:=by
  rw[he]
  show (false||(backTo cpos (starEach es X.env)).any (·.1))=false
  rw[hpl];rfl
 refine wpAny_Raise_call_subT (C:=C) (nm:=nm) (q:=qn) (N:=Nn) (bs:=bs) (bm:=bm) (hdct:=hdct) (sn:=sn) (sub:=sub) (ab:=ab) (col:=col) (dd:=dd) (k0:=k0) (k1:=k1) (k2:=k2) (k3:=k3) (k5:=k5) PySem.F.excBase_ValueError (mN:=mN) (T.hasType PySem.F.excBase_ValueError.hasBase) (I.ok.hd hc) hp2 hni (Mf I hg hm ⟨rfl,?_⟩ hdb)
 have hs:=ha cpos pins s σ H _ I h;rw[he]at hs ⊢
 refine Calls.evalArgs_plain (wpAny_mono hs (fun us s2 ⟨vs,H2,I2,r2,z,q2⟩=>?_) fun _ _ z=>z)
 have kp:∀b o,X.base.get? b=some o->s2.heap.get? b=some o:=I2.bk
 exact⟨rfl,by rw[<- r2.length];exact z,kp _ _ hC,hN.keeps kp,T.keeps kp,fun h' ea hM=>hR pins σ H2 s2 h' ea C us I2 hM q2⟩
end
section
variable {X:Cx}{pins:List (Addr×Obj)}{σ:St}{H H':Hp}{s s':Shared}{CX:CXT}{k:Nat}{f:Addr}{fd:FuncData}{ps:List Str}{sp:Sp}{dvs:List V}{ds:List Value}{E:XK}{x:Str}{p pos:Pos}{e:Expr}{es:List Expr}{t:TA}{Q:VK}
def Mt (a C:Addr):HO:=.ext fun h=>∃o,h.get? a=some o/\o.cls=.ref C
theorem A6m {P:Program}{w:World}{a C:Addr}{h:Heap}{o:Obj}(e:h.get? a=some o)(c:o.cls=.ref C):z9 P w H h a (Mt a C) :=
 ⟨⟨o,e,c⟩,⟨o,e⟩,fun h1 h2 ⟨o,e,c⟩ k=>⟨o,k o e,c⟩⟩
theorem Inv.track {a:Addr}{o:HO}(I:Inv X pins σ H s)(hn:H a=none)(h0:X.s₀.heap.get? a=none)(hL:a≠X.env.locals)(h2:∀x c,X.env.cells.lookup x=some c->c≠a)(h3:∀p∈X.pn++pins,p.1≠a)
 (new:z9 X.prog X.w (upd H a o) s.heap a o):Inv X pins σ (upd H a o) s:=by
 have ne:∀b u,H b=some u->b≠a:=fun b u e z=>by rw[z,hn]at e;cases e
 have b0:∀b u,X.s₀.heap.get? b=some u->b≠a:=fun b u e z=>by rw[z,h0]at e;cases e
 refine⟨I.ok,I.os,I.bare,⟨I.base.keep,I.base.slot,fun b u e n hx=>by rw[Ak (b0 b u e)];exact I.base.free b u e n hx,I.base.there,fun b xs e=>by
  have:=I.base.tups b xs e
  rw[Ak (ne _ _ this)];exact this,fun b u v e=>by
  have:=I.base.frzs b u v e
  rw[Ak (ne _ _ this)];exact this,fun b ps e=>by
  have:=I.base.tbls b ps e
  rw[Ak (ne _ _ this)];exact this⟩,I.loc,I.cell,by rw[Ak (Ne.symm hL)];exact I.free,fun y c e=>by rw[Ak (h2 y c e)];exact I.freeC y c e,fun p hp=>?_,fun b u e=>?_,I.len⟩
 ·obtain⟨q1,q2,q3⟩:=I.pin p hp
  exact⟨q1,by rw[Ak (h3 p hp)];exact q2,q3⟩
 ·by_cases hb:b=a
  ·subst hb
   rw[Be]at e;cases e;exact new
  ·rw[Ak hb]at e
   exact(I.hok b u e).stay (fun c v _ z=>z) (fun c z=>by rw[Ak (ne _ _ z)];exact z) (fun c xs z=>by rw[Ak (ne _ _ z)];exact z) (fun c ob xs z=>by rw[Ak (ne _ _ z)];exact z)
theorem Inv.unbound {j:Nat}{n:Str}{h':Heap}{m m':Str->Option Value}{tk:Nat}(I:Inv X pins σ H s)(hN:X.N.Nodup)(hj:X.N[j]?=some n)(hm:s.heap.Ns X.env.locals m)(hm':h'.Ns X.env.locals m')(hmm:∀y,y≠n->m' y=m y)(sb:Heap.SameBut X.env.locals s.heap h') :
 Inv X pins (σ.set j none) H { s with heap:=h',toks:=tk }:=by
 have kp:∀b u,b≠X.env.locals->s.heap.get? b=some u->h'.get? b=some u:=fun b u hb e=>sb.extBut b u hb e
 have nl:∀b u,X.s₀.heap.get? b=some u->b≠X.env.locals:=fun b u e z=>by
  have:=Heap.lt_size e;rw[z]at this;exact absurd (Nat.lt_of_lt_of_le this I.ok.above) (Nat.lt_irrefl _)
 have cc:∀{y:Str} {c:Addr} {v:Option Value},X.env.cells.lookup y=some c->s.heap.IsCell c v->h'.IsCell c v:=fun {y c v} e ⟨o,ho,hd⟩=>⟨o,kp c o (I.cne y c e) ho,hd⟩
 refine⟨I.ok,I.os,I.bare,⟨fun b u e n hf hx=>kp b u (nl b u e) (I.base.keep b u e n hf hx),fun b u e n hf hx=>?_,I.base.free,fun b u e hx=>?_,I.base.tups,I.base.frzs,I.base.tbls⟩,⟨m',hm',fun i y v e1 e2 e3=>?_⟩,fun y c e=>?_,I.free,I.freeC,fun q hq=>?_,fun b u e=>?_,by rw[List.length_set];exact I.len⟩
 ·obtain⟨sl,q⟩:=I.base.slot b u e n hf hx
  exact⟨sl,kp b _ (nl b u e) q⟩
 ·obtain⟨u',q⟩:=I.base.there b u e hx
  exact⟨u',kp b u' (nl b u e) q⟩
 ·have ij:i≠j:=fun z=>by
   subst z;rw[List.getElem?_set]at e2
   simp at e2
  rw[List.getElem?_set_ne (Ne.symm ij)]at e2;obtain⟨m0,hn0,hl⟩:=I.loc
  have em:m0=m:=by
   obtain⟨o1,es1,p1,g1,d1,_,f1⟩:=hn0;obtain⟨o2,es2,p2,g2,d2,_,f2⟩:=hm;rw[g1]at g2;cases g2;rw[d1]at d2;cases d2
   funext z
   rw[<- f1,<- f2]
  subst em;obtain⟨u,r,lk⟩:=hl i y v e1 e2 e3
  refine⟨u,r,?_⟩
  rcases lk with ⟨q1,q2⟩ | ⟨q1,c,q2,q3⟩
  ·have yn:y≠n:=fun z=>ij (by
    subst z
    exact(List.getElem?_inj (List.getElem?_eq_some_iff.mp e1).1 hN).mp (e1.trans hj.symm))
   exact .inl ⟨q1,by rw[hmm y yn];exact q2⟩
  ·exact .inr ⟨q1,c,q2,cc q2 q3⟩
 ·obtain⟨v,z⟩:=I.cell y c e
  exact⟨v,cc e z⟩
 ·obtain⟨q1,q2,q3,q4⟩:=I.pin q hq
  exact⟨kp _ _ q3 q1,q2,q3,q4⟩
 ·have key:∀b u v,H b=some u->s.heap.get? b=some v->h'.get? b=some v:=fun b u v z e=>kp b v (fun y=>by rw[y,I.free]at z;cases z) e
  refine (I.hok b u e).stay (fun c v hc z=>?_) (fun _ z=>z) (fun _ _ z=>z)
  rcases hc with rfl | hc
  ·exact key _ _ _ e z
  ·exact key _ _ _ hc z
def Qn (X:Cx)(a:Addr):Cx:={ X with A:=X.A.mark (some (.ref a)),calm:=false,xe:=fun _ _=>False }
theorem Inv.mark (I:Inv X pins σ H s)(a:Addr):Inv (Qn X a) pins σ H s :=
 ⟨⟨I.ok.mod,I.ok.kind,I.ok.glob,I.ok.blt,I.ok.above,I.ok.inj,I.ok.has,I.ok.cab,(fun z=>nomatch z),I.ok.frames,I.ok.stk,I.ok.exf,I.ok.bs,I.ok.bsz,I.ok.noex,I.ok.exfs,I.ok.funs,I.ok.frf,I.ok.tab⟩,I.os,I.bare,I.base,I.loc,I.cell,I.free,I.freeC,I.pin,I.hok,I.len⟩
theorem Inv.unmark {a:Addr}(ok:X.Ok)(I:Inv (Qn X a) pins σ H s):Inv X pins σ H s:=⟨ok,I.os,I.bare,I.base,I.loc,I.cell,I.free,I.freeC,I.pin,I.hok,I.len⟩
end
section
variable {X:Cx}{pins:List (Addr×Obj)}{σ:St}{H H1:Hp}{s s1 s':Shared}{E:XK}{D:Ends}{y n:Str}{Fc:Addr}{yp hpos:Pos}{b₀:Stmt}{suite:List Stmt}{th:TS}{j:Nat}{ev:Value}
theorem Ax5 (hx0:X.ex=[])(hs:X.stack=X.env::X.outer/\X.env.frame=some X.env.locals)(hN:X.N.Nodup)(hj:X.N[j]?=some n)(hlo:X.env.scope.names.lookup n=some .local)(hg:Gl X y)(hm:X.mg y=some (.ref Fc))(hsu:∀a,PSs (Qn X a) (b₀::suite) th)
 (I:Inv X pins σ H1 s1) (cx:CXe X.prog X.w X.stack H1 s1 E ev s') (hE:∀C H2,E (.ref C) none H2->exmOne X.K (.ref C) (.ref Fc)=some true/\∀a,H2 a=none->th { nx:=fun σ2 H3=>D.nx (σ2.set j none) H3,rt:=D.rt } (σ.set j (some (.ref a))) (upd H2 a (Mt a C)))
 (hdb:(y==("__debug__" : Str))=false:=by decide) :
 wpAny (model X.prog X.w) X.A (noteFrame ev X.env) (fun _ s₂=>wpAny (model X.prog X.w) X.A (setFlight ev none) (fun _ s₃=>wpAny (model X.prog X.w) X.A (handleBy ev X.env [.ExceptHandler (some (.Name y yp)) (some n) (b₀::suite) hpos]) (SP X pins D) X.xe s₃) X.xe s₂) X.xe s':=by
 obtain⟨a,C,H2,rfl,⟨⟨B,t,fl,cov⟩,new,fr⟩,os,bare,u,hok,q⟩:=cx;obtain⟨hex,hth⟩:=hE C H2 q;have hth:=hth a fr;have fl':=fl;rw[hs.1]at fl'
 refine wpAny_looks_onW (I.ok.frames.trans (congrArg some hs.1)) hs.2 fl' fun h4 held up4=>?_
 refine wpAny_landsW held fun h5 fl5 up5=>?_
 have I5:Inv X pins σ H2 { s' with heap:=h5 }:=I.flown (tk:=s'.toks) u hok os bare fl.2.2.1 cov fl5.1 (up4.trans up5)
 obtain⟨ob,hob,hoc⟩:=fl5.there;have LT:Looks (model X.prog X.w) h5 (typeOf (.ref a)) (.ref C):=hoc▸(Looks.ld hob).andThen .now;have LX:=exm_one (M:=model X.prog X.w) (h:=h5) I5.kIn LT hex
 refine wpAny_handleBy_cons (codeAny_handlers_test (Mf (X:=Qn X a) (I5.mark a) hg hm ?_ hdb)) (by intro z;cases z)
 refine LX.here ?_
 refine codeAny_handlers_suite_as ?_
 refine lands_againW fl5 fun h6 fl6 up6=>?_
 have I6:Inv X pins σ H2 { s' with heap:=h6 }:=I.flown (tk:=s'.toks) u hok os bare fl.2.2.1 cov fl6.1 ((up4.trans up5).trans up6)
 obtain⟨o6,ho6,hc6⟩:=fl6.there
 have n0:X.s₀.heap.get? a=none:=by
  cases z:X.s₀.heap.get? a with
  | none=>rfl
  | some o0 =>
   obtain⟨o1,e1⟩:=I.base.there a o0 z (by rw[hx0];simp)
   exact absurd rfl (new a o1 e1)
 have I7:Inv X pins σ (upd H2 a (Mt a C)) { s' with heap:=h6 }:=I6.track fr n0 (fun z=>by
  obtain⟨m,⟨o,es,ep,e,_⟩,_⟩:=I.loc
  exact new _ o e z.symm) (fun y c e z=>by
  obtain⟨v,o,e1,_⟩:=I.cell y c e
  exact new c o e1 z) (fun p hp z=>new p.1 p.2 (I.pin p hp).1 z) (A6m ho6 hc6)
 refine Gr (X:=X) (v:=.ref a) I7 hN hj (.inl hlo) rfl (fun s8 I8=>?_) (.inr hlo)
 refine wpAny_mono (hsu a pins s8 _ _ _ (I8.mark a) hth) (fun fw s9 h9=>?_) fun _ _ z=>z.elim
 have hcls:(X.env.scope.kind==.class||(X.env.scope.kind==.module&&X.env.locals != X.env.globals))=false:=by rw[I.ok.kind];rfl
 cases fw with
 | next =>
  obtain⟨σ9,H9,I9,q9⟩:=h9;have I9:=I9.unmark I.ok;obtain⟨m,hm9,_⟩:=id I9.loc
  exact wpAny_nameGoes_keeps hlo hm9 hcls fun h10 v hn10 sb=>⟨_,H9,I9.unbound hN hj hm9 hn10 (fun y hy=>if_neg hy) sb,q9⟩
 | ret w =>
  obtain⟨v,σ9,H9,I9,r9,q9⟩:=h9;have I9:=I9.unmark I.ok;obtain⟨m,hm9,_⟩:=id I9.loc
  exact wpAny_nameGoes_keeps hlo hm9 hcls fun h10 v' hn10 sb=>⟨v,_,H9,I9.unbound hN hj hm9 hn10 (fun y hy=>if_neg hy) sb,r9,q9⟩
 | brk=>obtain⟨_,_,_,q9⟩:=h9;exact q9.elim
 | cont=>obtain⟨_,_,_,q9⟩:=h9;exact q9.elim
end
section
variable {prog:Program}{w:World}{A:Around}{E:Value->Shared->Prop}{h:Heap}{g:Array GenState}{d:Drawn}{t:Nat}{os:OsState}{a C:Addr}{o:Obj}{K:PySem.W.Frag}
structure Qc (K:PySem.W.Frag) (C:Addr):Prop where
 exc:excIn K C bmV "ValueError.__new__" = true
 ga:findIn K (.ref C) "__getattribute__" = some (some (.builtin "BaseException.__getattribute__"))
 gat:findIn K (.ref C) "__getattr__" = some none
 cls:findIn K (.ref C) "__class__" = some (some (.builtin "object.__class__"))
theorem Be5 {R:Result->Shared->Prop}(X:K.In h)(Z:Qc K C)(hx:h.get? a=some o)(hc:o.cls=.ref C)(hq:R (.ok (.ret (.ref C))) ⟨h,g,d,t,os⟩) :
 codeAny (model prog w) A (.call (.builtin "getset_descriptor.__get__") ⟨[.builtin "object.__class__",.ref a,.ref C],[]⟩) R ⟨h,g,d,t,os⟩:=by
 obtain⟨bm,Nn,nm,qn,bs,hdct,sn,sub,ab,col,dd,k0,k1,k2,k3,k5,mN,hC,hN,hni,T⟩:=Oi X Z.exc;have hT5:(⟨h,g,d,t,os⟩:Shared).TypeIs (.builtin "object.__class__") "getset_descriptor" := PySem.F.typeOf_object_class
 have hO:(Value.ref C::bm).contains (.type (".".intercalate ("object.__class__".cutAt '.').dropLast))=true:=by
  rw[PySem.F.owner_object_class,List.contains_cons,T.hasType (X := "object") (b:=true) rfl];rfl
 refine codeAny_call_builtin PySem.F.slot_gs_get.plain PySem.F.entry_gs_get (PySem.F.slot_gs_get.check _ _ _ _ _ _ _ _ hT5 (PySem.F.args_gs_get _ _ _) ?_)
 repeat (any_goals (first | assumption | (with_reducible refine wpAny_loadPart_at hx ?_;rw[hc]) | (with_reducible refine wpAny_isSubtype_exc hC ?_;rw[hO]) | wp_step))
 refine⟨Code.quiet_builtin _ (by decide +kernel),codeAny_builtin PySem.F.entry_object_class ?_⟩
 repeat (any_goals (first | assumption | (with_reducible refine wpAny_loadPart_at hx ?_;rw[hc]) | wp_step))
theorem A3b {tk:Tok}{Q:Fin->Shared->Prop}(X:K.In h)(Z:Qc K C)(hx:h.get? a=some o)(hc:o.cls=.ref C)(hq:Q (.done (.ret (.ref C))) ⟨h,g,d,t,os⟩) :
 wpAny (model prog w) A (Builtin.«object.__getattribute__» ⟨[.ref a,.str "__class__" tk],[]⟩) Q E ⟨h,g,d,t,os⟩:=by
 have hT5:(⟨h,g,d,t,os⟩:Shared).TypeIs (.builtin "object.__class__") "getset_descriptor" := PySem.F.typeOf_object_class;have f5:=PySem.F.typeOf_object_class;have f6:=PySem.F.slot_gs_get.lookup;have f7:=PySem.F.slot_gs_set.lookup;have lc:=looks_findIn (M:=model prog w) X Z.cls
 repeat (any_goals (first | assumption | (with_reducible refine wpAny_loadPart_at hx ?_;rw[hc]) | with_reducible refine lc.here ?_ | wp_step))
 refine Be5 X Z hx hc ?_
 repeat (any_goals (first | assumption | wp_step))
theorem A0q {M:Model}{nameV:Value}{Q:Unit->Shared->Prop}(X:K.In h)(Z:Qc K C)(hx:h.get? a=some o)(hc:o.cls=.ref C)(hq:Q () ⟨h,g,d,t,os⟩):wpAny M A (checkBuiltinCall "BaseException.__getattribute__" ⟨[.ref a,nameV],[]⟩) Q E ⟨h,g,d,t,os⟩:=by
 obtain⟨bm,Nn,nm,qn,bs,hdct,sn,sub,ab,col,dd,k0,k1,k2,k3,k5,mN,hC,hN,hni,T⟩:=Oi X Z.exc
 have hk:builtinKind "BaseException.__getattribute__" = some .slot:=by decide +kernel
 have hsp:splitId "BaseException.__getattribute__" = some ("BaseException", "__getattribute__"):=by decide +kernel
 have hB:(Value.ref C::bm).contains (.type "BaseException")=true:=by rw[List.contains_cons,T.hasType (X := "BaseException") (b:=true) rfl];rfl
 have ha:=PySem.F.args_bexc_ga (.ref a) nameV;simp only[checkBuiltinCall,hk,hsp]
 refine wpAny_bind ?_
 unfold isInstance
 repeat (first | (with_reducible refine wpAny_loadPart_at hx ?_;rw[hc]) | (with_reducible refine wpAny_isSubtype_exc hC ?_;rw[hB]) | wp_step)
 exact hq
theorem Bo3 {tk:Tok}{Q:Value->Shared->Prop}(X:K.In h)(Z:Qc K C)(hx:h.get? a=some o)(hc:o.cls=.ref C)(hq:Q (.ref C) ⟨h,g,d,t,os⟩):wpAny (model prog w) A (getAttrBy (.ref a) (.str "__class__" tk) false) Q E ⟨h,g,d,t,os⟩:=by
 have f3:=PySem.F.excAttr_ValueError.ga.bind (.ref a)
 have x2:(Value.builtin "BaseException.__getattribute__" == Value.builtin "object.__getattribute__")=false:=by decide +kernel
 have x1:(onTheHeap (Value.ref C)&&Value.builtin "BaseException.__getattribute__" == Value.builtin "object.__getattribute__")=false:=by rw[x2];rfl
 have l1:=looks_findIn (M:=model prog w) X Z.ga;have l2:=looks_findIn (M:=model prog w) X Z.gat
 repeat (any_goals (first | assumption | (with_reducible refine wpAny_loadPart_at hx ?_;rw[hc]) | with_reducible refine l1.here ?_ | with_reducible refine l2.here ?_ | wp_step))
 refine codeAny_call_builtin PySem.F.excAttr_ValueError.ga.plain PySem.F.entry_bexc_ga (A0q X Z hx hc (A3b X Z hx hc ?_))
 repeat (any_goals (first | assumption | wp_step))
theorem A6e {Q:Option Value->Shared->Prop}(X:K.In h)(Z:Qc K C)(hx:h.get? a=some o)(hc:o.cls=.ref C)(hq:Q (some (.ref C)) ⟨h,g,d,t+1,os⟩):wpAny (model prog w) A (getAttr? (.ref a) "__class__") Q E ⟨h,g,d,t,os⟩:=by
 unfold getAttr? getAttrBy?
 repeat (any_goals (first | assumption | with_reducible apply Bo3 X Z hx hc | wp_step))
end
section
variable {K:PySem.W.Frag}{a C:Addr}
theorem Z2 (Z:Qc K C):KitX K (.ref a) (.ref C) (fun h=>∃o,h.get? a=some o/\o.cls=.ref C) where
 ty:=fun M h _ ⟨o,e,c⟩=>c▸(Looks.ld e).andThen .now
 it:=fun M h X _=>by
  obtain⟨bm,Nn,nm,qn,bs,hdct,sn,sub,ab,col,dd,k0,k1,k2,k3,k5,mN,hC,_⟩:=Oi X Z.exc;intro A' Q' E' s' kp q;unfold isType loadHead;exact wpAny_bind (wpAny_loadPart (kp _ _ hC) (wpAny_pure q))
 ne:=fun h tp dd its n sl X htp=>by
  obtain⟨bm,Nn,nm,qn,bs,hdct,sn,sub,ab,col,d',k0,k1,k2,k3,k5,mN,hC,_⟩:=Oi X Z.exc
  refine Bool.eq_false_iff.mpr fun q=>?_
  cases (Value.ref.inj (beq_iff_eq.mp q))
  rw[hC]at htp;have z:=congrArg Obj.data (Option.some.inj htp)
  cases z
 ca:=fun {_ _ _ _ _ s} X p q=>by
  obtain⟨hh,g,d,t,os⟩:=s;obtain⟨o,e,c⟩:=p;exact A6e X Z e c q
end
section
variable {X:Cx}
def Bb7:V->Option Value
 | .ref D=>some (.ref D)
 | .ty T=>some (.type T)
 | _=>none
theorem Az2 {c:V}{u z:Value}(e:Bb7 c=some z)(r:RelV c u):u=z:=by
 cases c with
 | ref D=>cases e;exact r
 | ty T=>cases e;exact r
 | _=>cases e
def Ai5 (K:PySem.W.Frag):List V->Hp->VK->Prop:=fun xs H Q=>∃a C c z b,xs=[.ref a,c]/\H a=some (Mt a C)/\Qc K C/\Bb7 c=some z/\kitOne K (.ref C) z=some b/\Q (.bl b) H
theorem At4:CallR X (.builtin "isinstance") (Ai5 X.K):=by
 intro pins s σ H xs us Q I r h;obtain⟨a,C,c,z,b,rfl,ha,Z,ec,ek,q⟩:=h;obtain⟨u1,u2,rfl,r1,r2⟩:=vals2 r
 cases (show u1=Value.ref a from r1)
 cases Az2 ec r2
 have ho:z9 X.prog X.w H s.heap a (Mt a C):=I.hok a _ ha
 exact kia_one (Z2 Z) I.kIn ho.1 ek (fun z=>nomatch z) fun tk=>⟨.bl b,H,I.tok _,rfl,q⟩
def Bt9 (D:Addr):TE:=fun _ H Q=>Q (.ref D) H
theorem Bd7 {y:Str}{D:Addr}{p:Pos}(hg:Gl X y)(hm:X.mg y=some (.ref D))(hdb:(y==("__debug__" : Str))=false:=by decide):PE X (.Name y p) (Bt9 D):=fun pins s σ H Q I h=>Mf I hg hm ⟨.ref D,H,I,rfl,h⟩ hdb
end
end L2
namespace L2
open PySem PySem.Spec PyProof.Rows
def TabAt (K:PySem.W.Frag)(h:Heap):Prop:=(∀p∈Dw K,h.get? p.1=some { cls:=.none,data:=.fields #[] }/\isCodeTable h p.1/\K.lookup p.1=none)/\∀p∈Dw K,(Dw K).lookup p.1=some p.2
theorem Jh {l:List (Addr×Str)}   (h:l.lookup b=some q):(b,q)∈l:=by
 induction l with
 | nil=>grind
 | cons p r a =>
  grind
theorem Av8   {K:PySem.W.Frag}          
 (KX:K.In c.heap) (hns:c.heap.Ns mainGlobals mg) (hb:c.heap.Ns builtinsNs U) (X:∀x:Str,x ≠ "__name__" -> U x=bootBuiltins x) (L:c.heap.NoLimit) (hg:c.gens=#[])
 (T:∃j o,mg "__builtins__" = some (.ref j)/\j≠builtinsNs/\c.heap.get? j=some o/\o.cls=.type "module" /\ o.dict=some builtinsNs/\o.data=.plain) (D:TabAt K c.heap)
 (ha:c.heap.get? a=some { cls:=.type "list",data:=.seq vs.toArray }) (hi:IntsAre vs ns) (hl:ns.length<=sizeLine) (hr:Room k callerA)
 (F:∀base:Heap,K.In base->base.Ns mainGlobals mg->FnOk P w K mg base CX k fa fd [x] sp) (C:∀(s:Shared) (u:Value),BindsTo s fd ⟨[u],[]⟩ [(x,u)])
 (hsp:∀H:Hp,SqL K H a (ns.map V.int)->sp [.ref a] H (fun v _=>v=.bl true) fun _ _ _=>False)
 (W:∀H e s',CX [] H c (fun _ _ _=>False) e s'->False) :
 codeAny (model P w) callerA (.call (.ref fa) ⟨[.ref a],[]⟩) (fun r s'=>r=.ok (.ret (.bool true))/\OldK c.heap s'.heap/\s'.os=c.os/\AllBare s'.gens) c:=by
 have rv:=Wv hi;have E:=hi.length
 have Y:∀p∈Dw K,p.1≠a:=fun p B z=>by
  have e:=(D.1 p B).1;rw[z,ha]at e;cases e
 have t:∀H:Hp,SqL K H a (ns.map V.int)->HOk P w H c.heap->(∀b u,H b=some u->(b=a/\K.lookup a=none/\∃o xs,u=.frz o (.lst xs))\/∃q,(b,q)∈Dw K/\u=.tbl q)->(∀p∈Dw K,H p.1=some (.tbl p.2)) ->
  codeAny (model P w) callerA (.call (.ref fa) ⟨[.ref a],[]⟩) (fun r s'=>r=.ok (.ret (.bool true))/\OldK c.heap s'.heap/\s'.os=c.os/\AllBare s'.gens) c:=by
  intro H hS G hA hH
  have f:∀{b:Addr} {o:Obj},c.heap.get? b=some o->H b=none->(Vg c.heap H).get? b=some o:=fun e n=>A4r e n
  have N:∀{b:Addr} {o:Obj},c.heap.get? b=some o->(∀x n,o.data≠.seq x n)->(∀x,o.data≠.fields x)->H b=none:=fun {b o} e d1 d2=>by
   cases q:H b with
   | none=>rfl
   | some u =>
    rcases hA b u q with ⟨z,_⟩ | ⟨y,O,_⟩
    ·rw[z,ha]at e;cases e;exact absurd rfl (d1 _ _)
    ·have g:=(D.1 _ O).1
     rw[e]at g;cases g;exact absurd rfl (d2 _)
  have l:∀{b:Addr} {m:Str->Option Value},c.heap.Ns b m->(Vg c.heap H).Ns b m:=fun {b m} ⟨o,es,ep,e,d,r⟩=>⟨o,es,ep,f e (N e (fun x n z=>by rw[d]at z;cases z) fun x z=>by rw[d]at z;cases z),d,r⟩
  have I:K.In (Vg c.heap H):=fun b o e=>f (KX b o e) (by
   cases q:H b with
   | none=>rfl
   | some u =>
    rcases hA b u q with ⟨z,z2,_⟩ | ⟨y,O,_⟩
    ·rw[z,z2]at e;cases e
    ·rw[(D.1 _ O).2.2]at e;cases e)
  have Z:∃j o,mg "__builtins__" = some (.ref j)/\j≠builtinsNs/\j≠mainGlobals/\(Vg c.heap H).get? j=some o/\o.cls=.type "module" /\ o.dict=some builtinsNs/\o.data=.plain:=by
   obtain⟨j,o,b1,b2,Q,b4,b5,M⟩:=T
   refine⟨j,o,b1,b2,fun z=>?_,f Q (N Q (fun x n z=>by rw[M]at z;cases z) fun x z=>by rw[M]at z;cases z),b4,b5,M⟩
   obtain⟨og,es,ep,e,d,_⟩:=hns;rw[z,e]at Q;cases Q;rw[d]at M;cases M
  have hM:Mod K mg (Vg c.heap H):=⟨I,l hns,⟨U,l hb,X⟩,(let ⟨mc,h1,h2⟩:=L; ⟨mc,l h1,h2⟩),Z⟩
  have e0:Z5 P w K mg (Vg c.heap H) callerA [] c H:=⟨rfl,hM,fun b o e=>A6a e,Nat.le_of_eq (Ax7 _ _),trivial,fun b hb=>absurd (show b∈([]:List Addr) from hb) (by simp),hH,G,.of_eq hg⟩
  refine codeAny_mono ((F _ I (l hns)).run callerA [] c H ⟨[.ref a],[]⟩ [.ref a] [.ref a] _ _ hr e0 (C c (.ref a)) (.cons rfl .nil) (hsp H hS)) fun r s' h=>?_
  cases r with
  | error e=>exact(W H e s' h).elim
  | ok fl =>
   cases fl with
   | next=>exact False.elim h
   | brk=>exact False.elim h
   | cont=>exact False.elim h
   | ret u =>
    obtain⟨v,H',os,J,R,A,r',q⟩:=h;have q':v=.bl true:=q;subst q';obtain rfl:u=Value.bool true:=r'
    refine⟨rfl,⟨fun b o e=>?_,fun b o e=>R.there b o e (by simp)⟩,os,J⟩
    cases q:H b with
    | none=>exact .inl (R.keep b o e q (by intro z;exact absurd (show b∈([]:List Addr) from z) (by simp)) (by simp))
    | some u =>
     rcases hA b u q with ⟨_,_,ob,xs,rfl⟩ | ⟨y,O,rfl⟩
     ·obtain⟨g,_⟩:=G b _ q
      obtain⟨e2,_⟩:=A b _ (R.frzs b ob _ q);rw[e]at g;cases g;exact .inl e2
     ·obtain⟨ps,e2,_⟩:=A b _ (R.tbls b y q)
      obtain⟨t1,t2,_⟩:=D.1 _ O;rw[e]at t1;cases t1
      exact .inr (.inl ⟨t2,rfl,#[],ps,rfl,by rw[e2];simp⟩)
 have i:∀(H:Hp) (p:Addr×Str),p∈Dw K->z9 P w H _ _ (.tbl p.2):=fun H p B=>⟨#[],(D.1 p B).1,trivial,fun pos cv z=>by cases z⟩
 cases hk:K.lookup a with
 | some o =>
  have e:=KX a o hk;rw[ha]at e
  cases e
  refine t (fun b=>((Dw K).lookup b).map .tbl) (.inr ⟨_,vs.toArray,_,hk,rfl,rfl,rfl,by rw[List.size_toArray,E];exact hl,by simpa using rv⟩) (fun b u z=>?_) (fun b u z=>?_) fun p B=>?_
  ·obtain⟨q,g,rfl⟩:=Option.map_eq_some_iff.mp z
   exact i _ _ (Jh g)
  ·obtain⟨q,g,rfl⟩:=Option.map_eq_some_iff.mp z
   exact .inr ⟨q,Jh g,rfl⟩
  ·rw[D.2 p B];rfl
 | none =>
  refine t (fun b=>if b=a then some (.frz { cls:=.type "list",data:=.seq vs.toArray } _) else ((Dw K).lookup b).map .tbl) (.inl (.inr ⟨{ cls:=.type _,data:=.seq _ },if_pos rfl⟩)) (fun b u z=>?_) (fun b u z=>?_) fun p B=>?_
  ·by_cases hb:b=a
   ·have S:=(if_pos hb).symm.trans z
    cases S
    subst hb
    exact⟨ha,by rw[List.length_map];exact hl,vs,_,rv,ha⟩
   ·obtain⟨q,g,rfl⟩:=Option.map_eq_some_iff.mp ((if_neg hb).symm.trans z)
    exact i _ _ (Jh g)
  ·by_cases hb:b=a
   ·have S:=(if_pos hb).symm.trans z
    cases S
    exact .inl ⟨hb,hk,_,_,rfl⟩
   ·obtain⟨q,g,rfl⟩:=Option.map_eq_some_iff.mp ((if_neg hb).symm.trans z)
    exact .inr ⟨q,Jh g,rfl⟩
  ·rw[if_neg (Y p B),D.2 p B];rfl
end L2
namespace L2
open PySem PySem.Spec PyProof.Rows PySem.W
theorem Xm {f:Pos}{c:Value}:∀(l:List Value),TriplesOk l->TriplesOk (l++[rawInt f.line,rawInt f.col,c]):=fun l h=>by
 fun_induction TriplesOk l with
 | case1=>trivial
 | case2 a b c d e g i=>exact i h
 | case3=>trivial
theorem Af4 {g f:Pos}{c cv:Value}:∀(l:List Value),TriplesOk l->codeAmong f (l++[rawInt g.line,rawInt g.col,c])=some cv->codeAmong f l=some cv\/cv=c:=fun l h e=>by
 fun_induction TriplesOk l with
 | case1 =>
  simp only[List.nil_append,rawInt,codeAmong]at e
  grind
 | case2 a b c d k i j =>
  simp only[List.cons_append,codeAmong]at e ⊢
  grind
 | case3=>trivial
def HLam (H H':Hp):Prop:=H'=H\/∃c o,H c=none/\H'=upd H c (.frz o (.own 0))
abbrev Ah9 (qual:Str)(params:Arguments)(body:Expr)(scope:Scope)(cl:List (Str×Addr))(pm cv ctv:Value):Obj:={ cls:=.type "function",data:=.func (kla_fn "<lambda>" qual params body scope cl pm cv ctv) }
def LamCd (qual:Str)(cv:Value)(H:Hp):Prop:=∃c o vs t,cv=.ref c/\H c=some (.frz o (.own 0))/\o.data=.fields vs/\vs[1]?=some (.str qual t)
theorem LamCd.rec {P:Program}{w:World}{qual:Str}{cv:Value}{H:Hp}{h:Heap}(x:LamCd qual cv H)(b:HOk P w H h):h.CodeRec cv qual:=by
 obtain⟨c,o,i,t,e,a,d,f⟩:=x;obtain⟨g,_⟩:=b c _ a;exact⟨c,o,i,t,e,g,d,f⟩
section
variable {X:Cx}{pins:List (Addr×Obj)}{σ:St}{H:Hp}{s:Shared}
theorem Inv.grown {T c:Addr}{q:Str}{f:Obj}{h':Heap}{t':Nat}(I:Inv X pins σ H s)(w:H T=some (.tbl q))(k:∀b o,b≠T->s.heap.get? b=some o->h'.get? b=some o)(hc:s.heap.objs.size<=c)(ho:h'.get? c=some f)
 (j:z9 X.prog X.w (upd H c (.frz f (.own 0))) h' T (.tbl q)):Inv X pins σ (upd H c (.frz f (.own 0))) { s with heap:=h',toks:=t' }:=by
 have p:H c=none:=I.hok.fresh hc
 have a:∀b u,H b=some u->b≠c:=fun b u e=>Bv e p
 have i:∀b u,s.heap.get? b=some u->b≠c:=fun b u e z=>absurd (Heap.lt_size e) (by simp_all)
 have h:∀b,H b=none->b≠T:=fun b e z=>by rw[z,w]at e;cases e
 refine I.step (g':=s.gens) (d':=s.drawn) (ch:=[]) (fun _ z=>nomatch z) (fun b o _ _ _ e n=>k b o (h b n) e) (fun b o _ _ _ e n=>⟨o.slots,k b o (h b n) e⟩) (fun b o _ e n=>by rw[Ak (i b o e)];exact n) (fun b o _ e=>?_)
  (fun b l e=>by rw[Ak (a b _ e)];exact e) (fun b o u e=>by rw[Ak (a b _ e)];exact e) (fun b q e=>by rw[Ak (a b _ e)];exact e) (fun m x=>?_) (fun b u e=>?_) I.bare
 ·by_cases hb:b=T
  ·obtain⟨B,g,_⟩:=j
   simp_all
  ·exact⟨o,k b o hb e⟩
 ·obtain⟨o,t,y,e,r⟩:=x
  exact⟨o,t,y,k _ o (h _ I.free) e,r⟩
 ·by_cases hb:b=c
  ·rw[hb]at e ⊢
   rw[Be]at e;cases e;exact⟨ho,f,ho⟩
  ·rw[Ak hb]at e
   by_cases hbT:b=T
   ·simp_all
   ·refine (I.hok b u e).stay (fun d v C z=>k d v ?_ z) (fun d z=>by rw[Ak (a d _ z)];exact z) (fun d l z=>by rw[Ak (a d _ z)];exact z) fun d A l z=>by rw[Ak (a d _ z)];exact z
    grind
theorem Ay8 {a:Arguments}{body:Expr}{scope:Scope}{N:Pos}{cl:List (Str×Addr)}{c T:Addr}{l:Str}{Q:Value->Shared->Prop}{A:Around}{E:Value->Shared->Prop}(I:Inv X pins σ H s)(hT:(T,l)∈Dw X.K)(hC:codeHdIn X.K c T=true)(g:X.env.code=.ref c)
 (hq:X.env.qual ++ "<lambda>" = l) (w:defaultsOf a X.env=([],[])) (x:closureFor scope X.env=pure cl)
 (h:∀(f:Addr) (s':Shared) (H':Hp) (pm cv j:Value),Inv X (pins++[(f,Ah9 l a body scope cl pm cv j)]) σ H' s'->HLam H H'->LamCd l cv H'->Q (.ref f) s') :
 wpAny (model X.prog X.w) A (eval (.Lambda a body scope N) X.env) Q E s:=by
 have D:H T=some (.tbl l):=I.base.tbls T l (I.ok.tab (T,l) hT);obtain⟨ps,F,K,i⟩:=I.hok T _ D;have C:=codeHd_of_K I.kIn hC;have m:s.heap.Ns mainGlobals X.mg:=I.ok.mod.glob.keeps I.bk;obtain⟨Z,ob,b1,b2,b3,b4,b5,b6,b7⟩:=I.ok.mod.bmod;have k:=I.bk _ _ b4
 have M:mainGlobals≠T:=fun z=>by
  obtain⟨o,es,ep,e,d,_⟩:=m;rw[z,F]at e;cases e;cases d
 have O:Z≠T:=fun z=>by rw[z,F]at k;cases k;cases b5
 have Y:s.heap.BuiltinsAt X.mg T:=⟨Z,ob,b1,b2,b3,O,k,b5,b6,b7⟩
 have q:∀{n:Heap} {H':Hp} {y:Nat} {o:Obj},Inv X _ σ H' { s with heap:=n,toks:=y }->o.isFreed=false->(∀v,o.data≠.cell v)->Inv X (pins++[(n.objs.size,o)]) _ _ _:=fun {n H' y o} J R G=>by
  have f:=J.fpOk  (Nat.le_refl _) (J.hok.fresh (Nat.le_refl _))
  have J2:Inv X _ _ _ { s with heap:=n.push o,toks:=y }:=J.kept  fun b u e=>Heap.get?_push_of_some _ e
  refine J2.pins_of fun p hp=>?_
  rcases List.mem_append.mp hp with z | z
  ·exact J2.pin p (List.mem_append_right _ z)
  ·rw[List.mem_singleton.mp z]
   exact⟨Heap.get?_push_size _ R,f.1,f.2.1,f.2.2.1,G⟩
 refine kla_eval w ?_
 rw[hq]
 cases hf:codeAmong _ _ with
 | none =>
  refine kla_makeFunction  x I.ok.glob m g C F K hf M Y fun S j n y hx r hlt B U=>?_
  obtain⟨c2,P,vs,t,L,V,G,hv⟩:=B
  cases L
  have hn  := I.hok.fresh r
  refine h _ _ _ _ _ _ (q (I.grown  D (fun b o hb e=>hx b o hb e) r V ?_) rfl fun v z=>by cases z) (.inr ⟨S,P,hn,rfl⟩) ⟨S,P,vs,t,rfl,Be,G,hv⟩
  refine⟨_,U,by rw[Array.toList_append];exact Xm _ K,fun pos' cv z=>?_⟩
  rw[Array.toList_append]at z
  rcases Af4 _ K z with z | rfl
  ·obtain⟨d,o,W,t',e1,L,e3⟩:=i _ _ z
   exact⟨d,o,W,t',e1,by rw[Ak (Bv L hn)];exact L,e3⟩
  ·exact⟨S,P,vs,t,rfl,Be,G,hv⟩
 | some cv =>
  refine kla_makeFunctionHit  x I.ok.glob m g C F K hf Y fun j n y hk hsz=>?_
  exact h _ _ H _ _ _ (q (I.kept  hk) rfl fun v z=>by cases z) (.inl rfl) (i _ _ hf)
end
theorem Fun.okL {P:Program}{w:World}{K:PySem.W.Frag}{mg:Str->Option Value}{base:Heap}{x qual:Str}{st:Stmt}{f:Addr}{i:FuncData}{N ps:List Str}{k:Nat}{sp:Sp}(F:Fun K x qual st f i)(S:Ce N ps (Ao st))(e:∀vs H Q E,sp vs H Q E->vs.length=ps.length)
 (c:∀(b:Value) (A:Around) (a:List Env) (s:Shared) (H:Hp) (vs:List V) (Q:VK) (E:XK),i.code=b->Room k (A.deeper (envOfC qual (Ao st) s.heap.objs.size f b))->sp vs H Q E ->
  ∃t,PSs (Iv CX0 P w K mg base N qual (Ao st) f b A a s H E).nox (Ds st) t/\t { nx:=fun _ H'=>Q .non H',rt:=Q } (start N vs) H):FnOk P w K mg base CX0 (k+1) f i ps sp:=by
 obtain⟨oc,od,kV,j,pm,an,b,ct,l,rfl,m,g⟩:=F.ex
 refine A2z m g S e fun A a s H vs Q E n d=>?_
 obtain⟨t,h,q⟩:=c b A _ s H _ Q E rfl n d;exact⟨t,h.nox,q⟩
def Gy (o:Obj):Bool:=match o.data with
 | .cell _=>false
 | _=>true
def sel (h:Heap)(tabs:List (Addr×Addr×Str))(a:Addr):Option Obj:=(h.get? a).bind fun o=>if (Gy o&&!(tabs.any fun t=>t.2.1==a))=true then some o else none
def Oq (h:Heap)(tabs:List (Addr×Addr×Str)):Frag:=((List.range h.objs.size).filterMap fun a=>(sel h tabs a).map fun o=>(a,o))++tabs.map fun t=>(t.1,Am1 t.2.1 t.2.2)
theorem Lz {f:Nat->Option Obj}{b:Nat}:∀{l:List Nat},(l.filterMap fun a=>(f a).map fun o=>(a,o)).lookup b=if b∈l then f b else none
 | []=>by simp
 | a::l=>by
  rw[List.filterMap_cons]
  by_cases e:b=a
  ·subst e
   rw[if_pos List.mem_cons_self]
   cases q:f b with
   | none =>
    simp only[Option.map_none];rw[Lz]
    split
    ·exact q
    ·rfl
   | some o=>simp
  ·have h1:(b∈a::l)=(b∈l):=by simp[e]
   simp only[h1]
   cases q:f a with
   | none=>simp only[Option.map_none];exact Lz
   | some o =>
    simp only[Option.map_some];rw[List.lookup_cons]
    have:(b==a)=false:=by simp[e]
    rw[this];exact Lz
section
variable {h:Heap}{tabs:List (Addr×Addr×Str)}
theorem Pg   (e:sel h tabs a=some o):h.get? a=some o/\Gy o=true/\∀t∈tabs,t.2.1≠a:=by
 obtain⟨c,d,b⟩:=Option.bind_eq_some_iff.mp e
 grind
theorem Bc6   (e:h.get? a=some o) (hp:Gy o=true) (hn:∀t∈tabs,t.2.1≠a):sel h tabs a=some o:=by
 unfold sel
 grind
theorem N5   (e:sel h tabs a=some o):(Oq h tabs).lookup a=some o:=by
 unfold Oq;rw[List.lookup_append,Lz,if_pos (List.mem_range.mpr (Heap.lt_size (Pg e).1)),e];rfl
theorem Sy {a:Addr}{o:Obj}:∀{tabs:List (Addr×Addr×Str)},(tabs.map fun t=>(t.1,Am1 t.2.1 t.2.2)).lookup a=some o->∃t∈tabs,t.1=a
 | [],e=>by cases e
 | t::r,e=>by
  rw[List.map_cons,List.lookup_cons]at e
  split at e
  ·rename_i z
   exact⟨t,List.mem_cons_self,by simpa using (eq_comm.mp (by simpa using z))⟩
  ·obtain⟨t',h1,h2⟩:=Sy e
   exact⟨t',List.mem_cons_of_mem _ h1,h2⟩
theorem Bn5 (ht:∀t∈tabs,CodeHd h t.1 t.2.1/\h.get? t.2.1=some { cls:=.none,data:=.fields #[] })(D:∀t∈tabs,(tabs.map fun t=>(t.2.1,t.2.2)).lookup t.2.1=some t.2.2) :
 (Oq h tabs).In h/\TabAt (Oq h tabs) h/\(∀t∈tabs,codeHdIn (Oq h tabs) t.1 t.2.1=true/\(t.2.1,t.2.2)∈Dw (Oq h tabs))/\∀a o,h.get? a=some o->Gy o=true->o.data≠.fields #[]->(Oq h tabs).lookup a=some o:=by
 have g:∀a o,h.get? a=some o->Gy o=true->o.data≠.fields #[]->sel h tabs a=some o:=fun a o e d j=>Bc6 e d fun t m z=>by
  have:=(ht t m).2;rw[z,e]at this;cases this;exact j rfl
 have code:∀t∈tabs,∃o i,h.get? t.1=some o/\o.cls=.type "code" /\ o.data=.fields i/\i[11]?=some (.ref t.2.1)/\sel h tabs t.1=some o:=fun t m=>by
  obtain⟨o,i,_,_,_,_,_,_,_,w,v,l,u,_⟩:=(ht t m).1
  refine⟨o,i,w,v,l,u,g t.1 o w (by unfold Gy;rw[l]) fun z=>?_⟩
  rw[l]at z
  injection z with z
  rw[z]at u;simp at u
 have c:∀{a:Addr} {o:Obj},(Oq h tabs).lookup a=some o->sel h tabs a=some o:=fun {a o} e=>by
  cases q:sel h tabs a with
  | some y=>rw[N5 q]at e;exact e
  | none =>
   unfold Oq at e;rw[List.lookup_append,Lz]at e
   have F:(if a∈List.range h.objs.size then sel h tabs a else none)=none:=by
    split
    ·exact q
    ·rfl
   rw[F]at e
   obtain⟨t,m,z⟩:=Sy (show (tabs.map fun t=>(t.1,Am1 t.2.1 t.2.2)).lookup a=some o from e)
   obtain⟨_,_,_,_,_,_,s⟩:=code t m;rw[z,q]at s;cases s
 have k:Dw (Oq h tabs)=tabs.map fun t=>(t.2.1,t.2.2):=by
  unfold Dw Oq;rw[List.filterMap_append]
  have x:((List.range h.objs.size).filterMap fun a=>(sel h tabs a).map fun o=>(a,o)).filterMap (fun p=>Tv p.2)=[]:=by
   rw[List.filterMap_eq_nil_iff];intro p d;obtain⟨a,_,e⟩:=List.mem_filterMap.mp d;obtain⟨o,x,rfl⟩:=Option.map_eq_some_iff.mp e;have j:=(Pg x).2.1
   show Tv o=none
   unfold Tv;unfold Gy at j
   split
   ·rename_i z;rw[z]at j;cases j
   ·rfl
  have Q:(tabs.map fun t=>(t.1,Am1 t.2.1 t.2.2)).filterMap (fun p=>Tv p.2)=tabs.map fun t=>(t.2.1,t.2.2):=by
   clear g c code D ht x
   induction tabs with
   | nil=>rfl
   | cons t r S =>
    rw[List.map_cons,List.filterMap_cons]
    show (t.2.1,t.2.2)::_=_
    rw[S];rfl
  rw[x,Q,List.nil_append]
 have B:(Oq h tabs).In h:=fun a o e=>(Pg (c e)).1
 refine⟨B,⟨fun p d=>?_,fun p d=>?_⟩,fun t m=>⟨?_,?_⟩,fun a o e d j=>N5 (g a o e d j)⟩
 ·rw[k]at d
  obtain⟨t,m,rfl⟩:=List.mem_map.mp d;obtain⟨o,i,w,v,l,u,_⟩:=code t m
  refine⟨(ht t m).2,⟨t.1,o,i,w,v,l,u⟩,?_⟩
  cases q:(Oq h _).lookup _ with
  | none=>rfl
  | some y=>exact absurd rfl ((Pg (c q)).2.2 t m)
 ·rw[k]at d ⊢
  obtain⟨t,m,rfl⟩:=List.mem_map.mp d;exact D t m
 ·obtain⟨o,i,_,v,l,_,s⟩:=code t m
  obtain⟨y,G,f,tf,fl,tg,b,n,tt,J,K,L,M,g5,I,N,H,P,A⟩:=(ht t m).1;have O  := Option.some.inj (J.symm.trans (Pg s).1);subst O;obtain⟨R,od,C,E⟩:=y
  cases (show R=Value.type _ from K)
  cases (show C=Data.fields _ from L)
  unfold codeHdIn;rw[(N5 s)];simp only[M,I,N,H,P]
  simp[A]
 ·rw[k];exact List.mem_map.mpr ⟨t,m,rfl⟩
end
section
variable {q:Program}{loose:List Str}{mean:ExcName->Option Value}{mg mb:Str->Option Value}{h:Heap}{K:Frag}
theorem Ax1   (j:∀a o,h.get? a=some o->Gy o=true->o.data≠.fields #[]->K.lookup a=some o) (c:h.CodeRec f x):codeIn K f x=true:=by
 obtain⟨a,o,b,t,rfl,g,d,e⟩:=c
 have k:=j a o g (by unfold Gy;rw[d]) fun z=>by grind
 obtain⟨oc,od,m,i⟩:=o
 show (match K.lookup a with
  | some ⟨_,_,.fields b,_⟩=>match b.toList with | _::.str n _::_=>n==x | _=>false
  | _=>false)=true
 obtain⟨l⟩:=b
 match l,e with
 | _::.str n u::_,e =>
  simp_all
theorem A7y (T:Top q loose mean mg mb h)(i:∀a o,h.get? a=some o->Gy o=true->o.data≠.fields #[]->K.lookup a=some o)  {st:Stmt}(hd:d∈recsOf q) (w:d.params=Kc st) (l:d.body=Ds st) (m:d.scope=Ao st) :
 ∃f fd,Fun K d.name d.name st f fd/\mg d.name=some (.ref f):=by
 obtain⟨a,o,e,b,c,n,p,r,s⟩:=T.fn d hd
 have k:=i a o p (by unfold Gy;grind) fun z=>by simp_all
 obtain⟨t,u,v,g⟩:=o
 cases (r)
 have j:PySem.Calls.docDef d.name d.params d.body d.scope e b c=fnOf d.name d.name (Kc st) (Ds st) (Ao st) .none .none c e none b .none:=by rw[w,l,m];rfl
 refine⟨a,_,⟨⟨t,u,.none,c,e,none,b,.none,g,j,k,Ax1 i s⟩,?_⟩,n⟩
 unfold keepIn
 grind
theorem A6t (T:Top q loose mean mg mb h){d:DefRec}(hd:d∈recsOf q):∃c P:Addr,CodeHd h c P/\h.get? P=some { cls:=.none,data:=.fields #[] }/\∀f o b,mg d.name=some (.ref f)->h.get? f=some o->o.data=.func b->b.code=.ref c:=by
 obtain⟨a,o,b,c,P,m,j,p,k,g,e⟩:=T.tab d hd
 refine⟨c,P,CodeHd.of g e,e.2,fun f n i r s l=>?_⟩
 simp_all
def A3h (q:Program)(loose:List Str)(RN:List Str)(x:Str):Bool:=!startupNames.contains x&&!loose.contains x&&!RN.contains x&&!((litsOf q).map (·.1)).contains x&&!((clssOf q loose).map (·.name)).contains x
theorem Ea (T:Top q loose mean mg mb h){a bs:List Str}(f:(recsOf q).map (·.name)=a)(hb:bs.all (A3h q loose a)=true)  (hx:x∈bs):mg x=none:=by
 have:=List.all_eq_true.mp hb x hx;unfold A3h at this;simp only[Bool.and_eq_true,Bool.not_eq_true',List.contains_eq_mem,decide_eq_false_iff_not]at this;obtain⟨⟨⟨⟨d,c⟩,g⟩,e⟩,b⟩:=this
 exact T.free x d c (by grind) e b
end
theorem Aa3   (a:(recsOf q).map (fun d=>(d.name,d.params,d.body,d.scope))=L) {i:Nat}  (e:L[i]?=some x) :
 ∃d,d∈recsOf q/\d.name=x.1/\d.params=x.2.1/\d.body=x.2.2.1/\d.scope=x.2.2.2:=by
 grind
theorem Dj   (a:(recsOf q).map (fun d=>(d.name,d.params,d.body,d.scope))=L):(recsOf q).map (·.name)=L.map (·.1):=by
 rw[<- a,List.map_map];rfl
theorem A4s {K:Frag}{h:Heap}{x qual:Str}{st:Stmt}{f:Addr}{a:FuncData}{v:Value}{mg:Str->Option Value}(F:Fun K x qual st f a)(b:K.In h)(hc:∀f o a,mg x=some (.ref f)->h.get? f=some o->o.data=.func a->a.code=v)(hm:mg x=some (.ref f)):a.code=v:=by
 obtain⟨j,p,m,g,k,l,d,n,i,e,c,_⟩:=F.ex;exact hc f _ _ hm (b _ _ c) rfl
theorem Az9 {K:Frag}  {st:Stmt}   (F:Fun K x qual st f c) (h:∀(d a e:Value) (i:Option Addr) (b g:Value) (s:Shared) (u:Value),BindsTo s (fnOf x qual (Kc st) (Ds st) (Ao st) .none d a e i b g) ⟨[u],[]⟩ [(y,u)]):∀(s:Shared) (u:Value),BindsTo s c ⟨[u],[]⟩ [(y,u)]:=by
 obtain⟨m,n,d,a,e,i,b,g,j,k,l,_⟩:=F.ex
 simp_all
theorem const_int {q:Program}{loose:List Str}{a:ExcName->Option Value}{mg c:Str->Option Value}{h:Heap}(T:Top q loose a mg c h){x:Str}{i:Int}(e:valOf q x=some (.int i)):∃t,mg x=some (.int i t):=by
 obtain⟨v,d,b⟩:=T.const x _ e
 cases b h with
 | int i t=>grind
theorem Aw9 {q:Program}{loose:List Str}{a:ExcName->Option Value}{mg c:Str->Option Value}{h:Heap}(T:Top q loose a mg c h){x y:Str}(e:valOf q x=some (.str y)):∃t,mg x=some (.str y t):=by
 obtain⟨v,d,b⟩:=T.const x _ e
 cases b h with
 | str y t=>grind
section
variable {X:Cx}{p p2 pos pos2:Pos}{e:Expr}{te:TE}{Kq:PySem.W.Frag}
theorem Zt:∀{vs:List V}{us:List Value},Vals vs us->Vals vs.reverse us.reverse
 | _,_,.nil=>.nil
 | _,_,.cons r rs=>by rw[List.reverse_cons,List.reverse_cons];exact V0 r (Zt rs)
end
section
variable {X:Cx}{e:Expr}{te:TE}{pos p2:Pos}{st:Expr}{tst:TO}
theorem Vh (its:List Value):slicePick its.toArray none none (some (-1))=its.reverse.toArray:=by
 have e:=HT.Ac9 its.toArray
 have h:slicePick its.toArray none none (some (-1))=((List.range its.toArray.size).filterMap fun (m:Nat)=>its.toArray[((its.toArray.size:Int)-1+(m:Int)*(-1)).toNat]?).toArray:=by
  generalize its.toArray=xs
  have b:sliceBounds none none (some (-1)) xs.size=((xs.size:Int)-1,-1,-1):=by
   simp only[sliceBounds,Option.getD_some,show ¬ ((-1:Int)>0) by decide,if_false]
  unfold slicePick;rw[b];unfold sliceRange
  have c:(if ((-1:Int)>0) then (if (xs.size:Int)-1 < -1 then (-1-((xs.size:Int)-1)+-1-1) / -1 else 0) else (if (xs.size:Int)-1 > -1 then ((xs.size:Int)-1 - -1 - -1-1) / (- -1) else 0)).toNat=xs.size:=by
   rw[if_neg (by decide)]
   by_cases h0:xs.size=0
   ·rw[if_neg (by omega),h0];rfl
   ·rw[if_pos (by omega)]
    have:((xs.size:Int)-1 - -1 - -1-1) / (- -1)=(xs.size:Int):=by
     have:(- -1:Int)=1:=by decide
     rw[this,Int.ediv_one];omega
    rw[this];omega
  dsimp only
  rw[c,List.filterMap_map]
  congr 2
  funext m
  show xs[((xs.size:Int)-1+-1*(m:Int)).toNat]?=_
  rw[Int.mul_comm]
 rw[h,e]
def A2t (K:PySem.W.Frag)(te:TE)(ts:TO):TE:=fun σ H Q=>te σ H fun x H1=>ts σ H1 fun o H2=>o=some (-1)/\∃a xs,x=.ref a/\((SqT K H2 a xs/\∀p,H2 p=none->Q (.ref p) (upd H2 p (.tup xs.reverse)))\/(SqL K H2 a xs/\∀p,H2 p=none->Q (.ref p) (upd H2 p (.lst xs.reverse))))
theorem A6n (he:PE X e te)(hst:PO X (some st) tst):PE X (.Subscript e (.Slice none none (some st) p2) pos) (A2t X.K te tst):=by
 intro pins s σ H Q I h
 refine Subscript_ (thn (he pins s σ H _ I h) fun v s1 ⟨x,H1,I1,r1,q1⟩=>?_)
 refine wpAny_Slice ?_
 rw[evalPart_none]
 refine wpAny_pure ?_
 refine wpAny_pure ?_
 refine thn (hst pins s1 σ H1 _ I1 q1) fun vst s3 ⟨o,H3,I3,ps,q3⟩=>?_
 obtain⟨rfl,a,xs,rfl,q⟩:=q3
 cases r1
 have I4:Inv X pins σ H3 { s3 with heap:=s3.heap.push { cls:=.type "slice",data:=.fields #[.none,.none,vst] } }:=I3.kept (t':=s3.toks) fun b ob q=>Heap.get?_push_of_some _ q
 show wpAny (model X.prog X.w) X.A (subscriptTail e (.Slice none none (some st) p2) (.ref a) (.ref s3.heap.objs.size)) (EP X pins σ Q) X.xe { s3 with heap:=s3.heap.push { cls:=.type "slice",data:=.fields #[.none,.none,vst] } }
 rcases q with ⟨hx,q⟩ | ⟨hx,q⟩
 ·obtain⟨its,r,ht,hz⟩:=I4.tuple hx
  refine tail_any (ops:=[.ref a,.ref s3.heap.objs.size]) ht.typeIs PyProof.Rows.slot_tuple_getitem.lookup ?_ (by with_unfolding_all rfl)
  have hlen:its.toArray.size=xs.length:=by rw[List.size_toArray];exact r.length.symm
  refine HT.Od ht (Heap.IsSliceOf.new ..) ps ?_ (by rw[hlen];exact hz)
  refine⟨.ref _,_,I4.laid (t':=s3.toks) (o:=.tup xs.reverse) (fun b ob q=>Heap.get?_push_of_some _ q) (Nat.le_refl _) ?_,rfl,q _ (I4.hok.fresh (Nat.le_refl _))⟩
  exact⟨by rw[List.length_reverse];exact hz,_,r.reverse,zN.new _ _⟩
 ·obtain⟨its,r,ht,hz⟩:=I4.list hx
  have hlen:=r.length
  refine tail_any (ops:=[.ref a,.ref s3.heap.objs.size]) ht.isList.typeIs slot_list_getitem.lookup ?_ (by with_unfolding_all rfl)
  refine wpAny_getItem_list_slice ht.isList (Heap.IsSliceOf.new ..) .none .none ps (by simp) ?_ (by rw[List.size_toArray] <;> omega)
  rw[Vh]
  refine⟨.ref _,_,I4.laid (t':=s3.toks) (o:=.lst xs.reverse) (fun b ob q=>Heap.get?_push_of_some _ q) (Nat.le_refl _) ?_,rfl,q _ (I4.hok.fresh (Nat.le_refl _))⟩
  exact⟨by rw[List.length_reverse];exact hz,_,0,Zt r,Heap.get?_push_size _ rfl⟩
theorem A5w {Kq:PySem.W.Frag}(hKq:X.K=Kq)(he:QE X e te)(hst:QO X (some st) tst):QE X (.Subscript e (.Slice none none (some st) p2) pos) (A2t Kq te tst):=by
 subst hKq;exact⟨A6n he.get hst.get⟩
end
end L2
namespace L2
open PySem PySem.Spec PyProof.Rows
section
variable {prog:Program}{w:World}{K:Type}[DecidableEq K]{knd:HeapKind prog w K}{A:Around}{E:Value->Shared->Prop}{s:Shared}
theorem Ax0      (hu:knd.room A) (hk:knd.is s.heap k a) (hm:s.heap.DictOfH knd d xs) (hsz:xs.length<=sizeLine)
 (l:∀p,atKey xs k=some p->Q p.2 { s with toks:=s.toks+knd.draws k })
 (m:atKey xs k=none->∀h',h'.DictOfH knd d (xs++[(k,a,v)])->Heap.SameBut d s.heap h'->Q v { s with heap:=h',toks:=s.toks+knd.draws k }) :
 wpAny (model prog w) A (dictSetDefault d (.ref a) v) Q E s:=by
 obtain⟨o,r,t,f,u,c,i,g,n⟩:=hm;unfold dictSetDefault
 refine wpAny_holding ?_
 refine wpAny_bind (knd.pyHash hu hk ?_)
 refine wpAny_bind (wpAny_dictFind_heap (s:={ s with toks:=s.toks+knd.draws k }) hu hk f c i g n ?_ ?_)
 ·intro h
  refine wpAny_bind (wpAny_rule (wpAny_bind (wpAny_updateDictKeys (hz:=by have e:=size_of_entries i;omega) (s:={ s with toks:=s.toks+knd.draws k }) f c (wpAny_pure (m (atKey_none_of_get h) _
   ⟨_,_,t+1,Heap.get?_update_self _ f (Obj.isFreed_of_dict (Obj.data_mapDictKeys c _)),u.mapDictKeys _,Obj.data_mapDictKeys c _,?_,?_,?_⟩ (Heap.SameBut.update ..))))))
  ·simp[i,entryOfKey]
  ·intro x b
   rcases List.mem_append.mp b with b | b
   ·exact knd.keeps (g x b) f c (Heap.SameBut.update ..)
   ·cases List.mem_singleton.mp b
    exact knd.keeps hk f c (Heap.SameBut.update ..)
  ·rw[List.map_append,List.nodup_append]
   refine⟨n,by simp,fun x b y z e=>?_⟩
   cases List.mem_singleton.mp z
   have B:x=k:=e;exact not_mem_keys_of_get h (B▸b)
 ·intro j p q
  refine wpAny_bind (wpAny_dictEntries  f c ?_)
  have C:r[j]?=some (entryOfKey knd (k,p)):=by
   rw[<- Array.getElem?_toList,i,List.getElem?_map,q];rfl
  rw[C];exact wpAny_bind (wpAny_rule (wpAny_pure (l p (atKey_of_get n q))))
end
section
variable {X:Cx}{pins:List (Addr×Obj)}{σ:St}{H:Hp}{s:Shared}{a b:Addr}{E:Value->Shared->Prop}{A:Around}
theorem Ad1      (hd:(a==sysModules)=false) (hz:xs.length<=sizeLine) :
 MeetsIn P w (Builtin.«dict.setdefault» ⟨[.ref a,.ref b,r],[]⟩) (fun A R s=>A.units+9<cLine/\s.heap.DictOfH (Ey P w) a xs/\(Ey P w).is s.heap k b/\(∀p,atKey xs k=some p->R (.ok (.ret p.2)) { s with toks:=s.toks+Tt k }) /\
  (atKey xs k=none->∀c,c.DictOfH (Ey P w) a (xs++[(k,b,r)])->Heap.SameBut a s.heap c->R (.ok (.ret r)) { s with heap:=c,toks:=s.toks+Tt k })) :=
 .of_wp fun A R s ⟨l,e,m,g,h⟩=>by
  refine wpAny_bind ?_
  refine wpAny_bind (wpAny_notOrdered_dict e.typeIs ?_)
  refine wpAny_pure ?_
  show wpAny _ _ (if (a==sysModules)=true then _ else dictSetDefault a _ r >>= _) _ _ s
  rw[if_neg (by grind)]
  exact wpAny_bind (Ax0  (Bn6 l) m e hz (fun p i=>wpAny_pure ⟨_,rfl,g p i⟩) fun j c d f=>wpAny_pure ⟨_,rfl,h j _ d f⟩)
theorem Bb6      (hu:A.units+9<cLine) (I:Inv X pins σ H s) (e:H a=some (.dT d)) (n:KAt H k b) (hl:d.length<sizeLine) (B:RelV z r)
 (i:∀v w' s',Oo d k=some v->Inv X pins σ H s'->RelV v w'->Q w' s') (g:∀s',Oo d k=none->Inv X pins σ (upd H a (.dT (d++[(k,z)]))) s'->Q r s') :
 wpAny (model X.prog X.w) A (call (.builtin "dict.setdefault") [.ref a,.ref b,r]) Q E s:=by
 obtain⟨u,m,D,f,l⟩:=Bs5 I.hok e
 have y:D.length<=sizeLine:=by rw[<- Paired.length f];exact u
 refine call_meetsIn PySem.F.slot_dict_setdefault l.typeIs PySem.F.entry_dict_setdefault (PySem.F.args_dict_setdefault_3 _ _ _) (Ad1 m y) ⟨hu,l,A0l I.hok n,fun p w=>?_,fun x N h C=>?_⟩
 ·have q:=f.val k
  rw[w]at q
  cases ev:Oo _ k with
  | none=>rw[ev]at q;exact False.elim q
  | some v=>rw[ev]at q;exact i v _ _ ev (I.tok _) q
 ·have q:=f.val k
  rw[x]at q
  cases ev:Oo _ k with
  | some v=>rw[ev]at q;exact False.elim q
  | none =>
   refine g _ ev ?_
   obtain⟨o,F,G,t,K,L,J,_,M⟩:=h
   refine An9 I (by rw[e];exact True.intro) C ⟨o,t⟩ ⟨by grind,m,_,KT.keeps (Paired.snoc f ⟨rfl,n,B⟩) fun c O j=>?_,o,F,G,t,K,L,J,M⟩
   rw[Ak (A9d j e fun z=>nomatch z)]
   exact j
end
def A3t (td ty tx:TE):TE:=fun σ H Q=>td σ H fun x H1=>∃a,x=.ref a/\IsD H1 a/\ty σ H1 fun y H2=>tx σ H2 fun z H3=>∃kvs k b,y=.ref b/\H3 a=some (.dT kvs)/\KAt H3 k b/\kvs.length<sizeLine /\
 (∀v,Oo kvs k=some v->Q v H3)/\(Oo kvs k=none->Q z (upd H3 a (.dT (kvs++[(k,z)]))))
section
variable {X:Cx}{o e f:Expr}{td ty tx:TE}{apos cpos:Pos}
theorem A8t (hu:X.A.units+64<cLine)(ho:PE X o td)(he:PE X e ty)(hf:PE X f tx)(m:M2 X o "setdefault" apos e f cpos):PE X (.Call (.Attribute o "setdefault" apos) [e,f] [] cpos) (A3t td ty tx):=by
 intro c s σ H Q I h
 refine wpAny_Call_method m.base m.few m.line PySem.F.plainAttrs_dict PySem.F.slot_dict_setdefault PySem.F.type_dict_setdefault (thn (ho c s _ H _ I h) fun u s1 ⟨x,H1,n,O,a,D,d,N⟩=>?_)
 subst D;obtain rfl:u=Value.ref a:=O;obtain⟨q,r,_⟩:=A0v n d
 refine⟨q,r,?_⟩
 rw[m.trees]
 refine Calls.callWith_builtin rfl (Calls.evalArgs_plain (Calls.spliced_cons (thn (he _ _ _ _ _ n N) fun iv s2 ⟨y,H2,t,w,A⟩ =>
  Calls.spliced_cons (thn (hf _ _ _ _ _ t A) fun fv s3 ⟨z,B,p,l,E,k,b,F,G,J,C,L,M⟩=>Calls.spliced_nil ?_))))
 subst F
 cases w
 exact Bb6 (Nat.lt_of_le_of_lt (Nat.add_le_add_left (by decide) _) hu) p G J C l (fun v w' K i j g=>⟨v,B,j,g,L v i⟩) fun K i j=>⟨z,_,j,l,M i⟩
theorem A6f (hu:X.A.units+64<cLine)(ho:QE X o td)(he:QE X e ty)(hf:QE X f tx)(m:M2 X o "setdefault" apos e f cpos):QE X (.Call (.Attribute o "setdefault" apos) [e,f] [] cpos) (A3t td ty tx):=⟨A8t hu ho.get he.get hf.get m⟩
theorem A4v  : QE X (.Dict [] [] a) Ak2:=⟨A4a⟩
end
section
variable {P:Program}{w:World}{A:Around}{E:Value->Shared->Prop}{s:Shared}
theorem Oh {h:Heap}    (e:h.get? it=some { cls:=.type "dict_itemiterator",data:=.fields vs }):(h.update it (Obj.mapFields f)).get? it=some { cls:=.type "dict_itemiterator",data:=.fields (f vs) } :=
 Heap.get?_update_self _ e (Obj.isFreed_of_fields (Obj.data_mapFields rfl _))
theorem Aj4:((Manifest.find? "dict_itemiterator").elim "dict_itemiterator" fun x=>x.tpName) = "dict_itemiterator" := by rfl
theorem Az8       (c:IsItemIter s.heap it dd i es.size k O G) (T:s.heap.get? dd=some od) (h:od.data=.dict es k) (hi:i<es.size)
 (W:∀h',IsItemIterOut h' it dd (i+1) es.size k es[i].key es[i].val s.heap.objs.size->h'.get? s.heap.objs.size=some { cls:=.type "tuple",data:=.seq #[es[i].key,es[i].val] }->h'.objs.size=s.heap.objs.size+1 ->
  (∀b o,b≠it->s.heap.get? b=some o->h'.get? b=some o)->Q (some (.ref s.heap.objs.size)) { s with heap:=h' }):wpAny (model P w) A (pyNext (.ref it)) Q E s:=by
 obtain⟨a,g,d,C,v⟩:=s;obtain⟨Z,H,z,U⟩:=od;simp only at h;subst h;have L:(⟨a,g,d,C,v⟩:Shared).TypeIs (.ref it) "dict_itemiterator" := ⟨_,c,rfl⟩;have f1:=mroOf_itemiter
 have N:Builtin.Dict_items.ownsTuple "dict_itemiterator" = true:=by decide
 have Y:es[(i:Int).toNat]?=some es[i]:=by simp[hi]
 have S:¬ ((i:Int)<0):=by omega
 unfold pyNext
 refine wpAny_bind (wpAny_attempt (wpAny_callSpecial?_slot (name:="__next__") L F.slot_dict_itemiterator_next (wpAny_call_entry F.slot_dict_itemiterator_next L F.entry_dict_itemiterator_next ?_ (F.args_dict_itemiterator_next_1 _))))
 repeat any_goals first | assumption | wp_step
 simp only[Aj4,N,if_true,List.drop,List.take]
 repeat any_goals first | assumption | wp_step
 simp only[S,if_false,Y]
 repeat any_goals first | assumption | wp_step
 simp only[Aj4,N,if_true]
 have m:Heap.SameBut it a (a.update it (Obj.mapFields fun x=>x.setIfInBounds (2+1) (rawInt ((i:Int)+1)))):=Heap.SameBut.update ..
 have y:(a.update it (Obj.mapFields fun x=>x.setIfInBounds (2+1) (rawInt ((i:Int)+1)))).get? it=some { cls:=.type "dict_itemiterator",data:=.fields #[.none,.bool false,.ref dd,rawInt ((i:Int)+1),.int es.size 0,.int k 0,O,G] }:=Oh c
 refine⟨_,rfl,wpAny_pure ?_⟩
 show Q (some (.ref (a.update it (Obj.mapFields fun x=>x.setIfInBounds (2+1) (rawInt ((i:Int)+1)))).objs.size)) { heap:=(((((a.update it (Obj.mapFields fun x=>x.setIfInBounds (2+1) (rawInt ((i:Int)+1)))).push { cls:=Value.type "tuple",data:=Data.seq #[es[i].key,es[i].val] }).update it (Obj.mapFields fun x=>x.setIfInBounds 6 es[i].key)).update it (Obj.mapFields fun x=>x.setIfInBounds (6+1) es[i].val)).update it (Obj.mapFields fun x=>x.setIfInBounds 0 (rawInt (a.update it (Obj.mapFields fun x=>x.setIfInBounds (2+1) (rawInt ((i:Int)+1)))).objs.size))).update it (Obj.mapFields fun x=>x.setIfInBounds 1 (Value.bool false)),gens:=g,drawn:=d,toks:=C,os:=v }
 generalize a.update it (Obj.mapFields fun x=>x.setIfInBounds (2+1) (rawInt ((i:Int)+1)))=h1 at m y ⊢
 have V:h1.objs.size=a.objs.size:=m.1;have B:=Heap.get?_push_of_some { cls:=Value.type "tuple",data:=Data.seq #[es[i].key,es[i].val] } y;have l:(h1.push { cls:=Value.type "tuple",data:=Data.seq #[es[i].key,es[i].val] }).get? h1.objs.size=some { cls:=.type "tuple",data:=.seq #[es[i].key,es[i].val] }:=Heap.get?_push_size _ rfl
 have D:∀b o,b≠it->a.get? b=some o->(h1.push { cls:=Value.type "tuple",data:=Data.seq #[es[i].key,es[i].val] }).get? b=some o:=fun b o n e=>Heap.get?_push_of_some _ ((m.2 b n).trans e)
 have q:(h1.push { cls:=Value.type "tuple",data:=Data.seq #[es[i].key,es[i].val] }).objs.size=h1.objs.size+1:=Heap.size_push ..;generalize h1.push { cls:=Value.type "tuple",data:=Data.seq #[es[i].key,es[i].val] }=h2 at B l D q ⊢;rw[V]at l q ⊢;have X:a.objs.size≠it:=Nat.ne_of_gt (Heap.lt_size c)
 have r:=Heap.SameBut.update h2 it (Obj.mapFields fun x=>x.setIfInBounds 6 es[i].key)
 have I:=Oh (f:=fun x=>x.setIfInBounds 6 es[i].key) B
 generalize h2.update it (Obj.mapFields fun x=>x.setIfInBounds 6 es[i].key)=h3 at r I ⊢
 have p:=Heap.SameBut.update h3 it (Obj.mapFields fun x=>x.setIfInBounds (6+1) es[i].val)
 have K:=Oh (f:=fun x=>x.setIfInBounds (6+1) es[i].val) I
 generalize h3.update it (Obj.mapFields fun x=>x.setIfInBounds (6+1) es[i].val)=h4 at p K ⊢
 have u:=Heap.SameBut.update h4 it (Obj.mapFields fun x=>x.setIfInBounds 0 (rawInt a.objs.size))
 have J:=Oh (f:=fun x=>x.setIfInBounds 0 (rawInt a.objs.size)) K
 generalize h4.update it (Obj.mapFields fun x=>x.setIfInBounds 0 (rawInt a.objs.size))=h5 at u J ⊢
 have t:=Heap.SameBut.update h5 it (Obj.mapFields fun x=>x.setIfInBounds 1 (Value.bool false))
 have M:=Oh (f:=fun x=>x.setIfInBounds 1 (Value.bool false)) J
 generalize h5.update it (Obj.mapFields fun x=>x.setIfInBounds 1 (Value.bool false))=h6 at t M ⊢
 have j:∀b o,b≠it->h2.get? b=some o->h6.get? b=some o:=fun b o n e=>(t.2 b n).trans ((u.2 b n).trans ((p.2 b n).trans ((r.2 b n).trans e)))
 refine W h6 ?_ (j _ _ X l) (by rw[show h6.objs.size=h2.objs.size from t.1.trans (u.1.trans (p.1.trans r.1))];exact q) fun b o n e=>j b o n (D b o n e)
 have R:((i+1:Nat):Int)=(i:Int)+1:=by omega
 unfold IsItemIterOut;rw[R];exact M
end
theorem KT.get {H:Hp}:∀{kvs:List (PyData×V)}{xs:List (PyData×Addr×Value)}{i:Nat}{k:PyData}{v:V},KT H kvs xs->kvs[i]?=some (k,v)->∃b u,xs[i]?=some (k,b,u)/\KAt H k b/\RelV v u
 | _,_,_,_,_,.nil,e=>by simp at e
 | _,_,0,k,v,.cons (a:=p) (b:=q) h t,e=>by
  cases (show some p=some (k,v) from e)
  obtain⟨h1,h2,h3⟩:=h;obtain⟨k',b,u⟩:=q
  cases (show k=k' from h1)
  exact⟨b,u,rfl,h2,h3⟩
 | _,_,i+1,k,v,.cons h t,e=>by
  obtain⟨b,u,e1,r⟩:=KT.get t (by simpa using e)
  exact⟨b,u,by simpa using e1,r⟩
section
variable {X:Cx}{pins:List (Addr×Obj)}{σ:St}{H:Hp}{s:Shared}{a:Addr}{kvs:List (PyData×V)}
theorem Inv.still (I:Inv X pins σ H s)(e:H a=some (.dT kvs)):∃o,Inv X pins σ (upd H a (.frz o (.dT kvs))) s:=by
 obtain⟨z,y,h,r,o,f,g,b,c⟩:=I.hok a _ e
 refine⟨o,An9    I (by rw[e];trivial) (Heap.SameBut.refl _ _) ⟨o,b⟩ ⟨b,z,y,h,KT.keeps r fun c i d=>?_,o,f,g,b,c⟩⟩
 rw[Ak (A9d d e fun z=>nomatch z)];grind
theorem Inv.seen  (I:Inv X pins σ H s) (e:H a=some (.frz o (.dT kvs))):∃c b d,s.heap.get? a=some o/\(a==sysModules)=false/\o.ExactDict/\o.data=.dict b d/\b.toList=c.map (entryOfKey (Ey X.prog X.w))/\KT H kvs c/\kvs.length<=sizeLine:=by
 obtain⟨h,z,y,c,r,g,b,d,i,j,k,l,f⟩:=I.hok a _ e
 grind
theorem Xb  {es:Array DictEntry}   (h:es.toList=xs.map (entryOfKey (Ey P w))) (r:KT H kvs xs):es.size=kvs.length:=by
 rw[<- Array.length_toList,h,List.length_map,Paired.length r]
theorem A6q  {es:Array DictEntry}      (h:es.toList=xs.map (entryOfKey (Ey P w))) (r:KT H kvs xs) (e:kvs[i]?=some (k,v)) (hi:i<es.size) :
 ∃b u,es[i].key=.ref b/\es[i].val=u/\KAt H k b/\RelV v u:=by
 obtain⟨b,u,g,f,d⟩:=KT.get r e
 have a:es.toList[i]?=some (entryOfKey (Ey P w) (k,b,u)):=by grind
 rw[Array.getElem?_toList,Array.getElem?_eq_getElem hi]at a;have c:=Option.some.inj a
 exact⟨b,u,by rw[c];rfl,by rw[c];rfl,f,d⟩
end
def Iti (a:Addr)(o:Obj):It :=
 ⟨fun i H=>∃kvs,H a=some (.frz o (.dT kvs))/\i<kvs.length,fun i H x H'=>∃p kvs k v b,x=.ref p/\H p=none/\H'=upd H p (.tup [.ref b,v])/\H a=some (.frz o (.dT kvs))/\kvs[i]?=some (k,v)/\KAt H k b,fun i H=>∃kvs,H a=some (.frz o (.dT kvs))/\kvs.length<=i⟩
section
variable {X:Cx}
def tFz (d:Nat)(t u:TS):TS:=fun D σ H=>t { D with nx:=fun σ' H'=>∃a kvs,σ'[d]?=some (some (.ref a))/\H' a=some (.dT kvs)/\∀o,u D σ' (upd H' a (.frz o (.dT kvs))) } σ H
theorem Bh2  {st:Stmt}{rest:List Stmt}  (h1:PS X st t) (h2:PSs X rest u):PSs X (st::rest) (tFz d t u):=by
 intro b s k H D I h
 refine wpAny_execs_cons (thn (h1 _ s _ H _ I h) fun f n q=>?_)
 cases f with
 | next =>
  obtain⟨i,l,g,a,e,m,j,q⟩:=q;obtain⟨o,c⟩:=g.still j;exact h2 _ _ _ _ D c (q o)
 | ret v=>exact q
 | brk=>exact q
 | cont=>exact q
end
section
variable {P:Program}{w:World}{A:Around}{E:Value->Shared->Prop}{s:Shared}
theorem A7g       (a:A.handled=none) (e:IsItemIter s.heap it dd i es.size f q r) (t:s.heap.get? dd=some od) (c:od.data=.dict es f) (hi:es.size<=i)
 (m:∀h',Heap.ExtBut it s.heap h'->Q none { s with heap:=h' }):wpAny (model P w) A (pyNext (.ref it)) Q E s:=by
 obtain⟨n,g,d,o,p⟩:=s;obtain⟨z,j,h,u⟩:=od;simp only at c;subst c;have k:(⟨n,g,d,o,p⟩:Shared).TypeIs (.ref it) "dict_itemiterator" := ⟨_,e,rfl⟩;have y:=mroOf_itemiter
 have x:Builtin.Dict_items.ownsTuple "dict_itemiterator" = true:=by decide
 have v:es[(i:Int).toNat]?=none:=by simp[hi]
 have l:¬ ((i:Int)<0):=by omega
 unfold pyNext
 refine wpAny_bind (wpAny_attempt (wpAny_callSpecial?_slot (name:="__next__") k F.slot_dict_itemiterator_next (wpAny_call_entry F.slot_dict_itemiterator_next k F.entry_dict_itemiterator_next ?_ (F.args_dict_itemiterator_next_1 _))))
 repeat any_goals first | assumption | wp_step
 simp only[Aj4,x,if_true,List.drop,List.take]
 repeat any_goals first | assumption | wp_step
 simp only[l,if_false,v]
 repeat any_goals first | assumption | wp_step
 refine wpAny_raiseNew_none (show A.in1.handled=none from a) ?_
 refine wpAny_bind (wpAny_isInstance (T := "StopIteration") (b:=true) ⟨_,Heap.get?_push_size _ rfl,rfl⟩ isSubtype_stop ?_)
 exact wpAny_pure (m _ (((Heap.SameBut.update ..).extBut.push _).push _))
theorem Aq7  (b:(dd==sysModules)=false):MeetsIn P w (Builtin.«dict.items» ⟨[.ref dd],[]⟩) (fun _ R s=>s.TypeIs (.ref dd) "dict" /\ R (.ok (.ret (.ref s.heap.objs.size))) { s with heap:=s.heap.push { cls:=.type "dict_items",data:=.fields #[.ref dd] } }) :=
 .of_wp fun A R s ⟨t,h⟩=>by
  refine wpAny_bind (wpAny_bind (wpAny_notOrdered_dict t (wpAny_pure ?_)))
  have a:Builtin.Dict.showsAll dd=pure ():=by unfold Builtin.Dict.showsAll;simp_all
  rw[a]
  refine wpAny_bind (wpAny_pure (wpAny_bind (wpAny_newObj_type (wpAny_pure ⟨_,rfl,h⟩))))
theorem A4y   (b:(dd==sysModules)=false) (ty:s.TypeIs (.ref dd) "dict")
 (a:Q (.ref s.heap.objs.size) { s with heap:=s.heap.push { cls:=.type "dict_items",data:=.fields #[.ref dd] } }):wpAny (model P w) A (call (.builtin "dict.items") [.ref dd]) Q E s :=
 call_meetsIn PySem.F.slot_dict_items ty PySem.F.entry_dict_items (PySem.F.args_dict_items_1 _) (Aq7 b) ⟨ty,a⟩
theorem A0i      (hv:s.heap.get? v=some { cls:=.type "dict_items",data:=.fields #[.ref dd] }) (l:s.heap.get? dd=some od) (a:od.data=.dict es c)
 (k:Q (.ref s.heap.objs.size) { s with heap:=s.heap.push { cls:=.type "dict_itemiterator",data:=.fields #[.none,.bool false,.ref dd,.int 0 0,.int es.size 0,.int c 0,.none,.none] } }):wpAny (model P w) A (pyIter (.ref v)) Q E s:=by
 obtain⟨n,g,d,i,j⟩:=s;obtain⟨o,b,e,m⟩:=od;simp only at a;subst a;have f:(⟨n,g,d,i,j⟩:Shared).TypeIs (.ref v) "dict_items" := ⟨_,hv,rfl⟩
 have h:Builtin.Dict_items.ownsTuple "dict_itemiterator" = true:=by decide
 refine wpAny_pyIter_slot f F.slot_dict_items_iter (wpAny_call_entry F.slot_dict_items_iter f F.entry_dict_items_iter ?_ (F.args_dict_items_iter_1 _))
 repeat any_goals first | assumption | wp_step
 simp only[h,if_true];exact⟨_,rfl, "dict_itemiterator",_,⟨_,Heap.get?_push_size _ rfl,rfl⟩,F.slot_dict_itemiterator_next.lookup,k⟩
end
theorem Ag8 {P:Program}{w:World}{K:PySem.W.Frag}{elts:List Expr}{kk:Nat}{pos:Pos}{a it:Addr}{o:Obj}{es:Array DictEntry}{ep:Nat}(hd:o.data=.dict es ep):Turn P w K (.Tuple elts kk pos) (Iti a o) [it] it (fun i h=>∃ok ov,IsItemIter h it a i es.size ep ok ov) where
 mem:=by simp
 obj:=fun i h st b hb=>by
  have e:b=it:=by simpa using hb
  subst e;obtain⟨ok,ov,e⟩:=st
  exact⟨_,e,fun v z=>by cases z⟩
 keep:=fun i h h' st k=>let ⟨ok,ov,e⟩:=st; ⟨ok,ov,k it (by simp) _ e⟩
 item:=by
  intro X hP hw hK hc i pins s σ H E I hf st hg;subst hP hw hK;obtain⟨kvs,ha,hi⟩:=hg;obtain⟨ok,ov,st⟩:=st;obtain⟨xs,es',ep',g1,g2,g3,g4,g5,g6,g7⟩:=I.seen ha;rw[hd]at g4
  cases g4
  have li:i<es.size:=by rw[Xb g5 g6];exact hi
  obtain⟨⟨k,v⟩,hk⟩:∃x,kvs[i]?=some x:=⟨_,List.getElem?_eq_getElem hi⟩;obtain⟨b,u,k1,k2,k3,k4⟩:=A6q g5 g6 hk li
  obtain⟨f0,f1,f2,f3,f4,f5⟩:=hf it (by simp)
  refine Az8 st g1 hd li fun h' st' new sz kp=>?_
  refine⟨_,rfl,?_⟩
  apply wpAny_letOwnedTupleGo_items st';intro h2 st2 sb2;have ne:s.heap.objs.size≠it:=Nat.ne_of_gt (Heap.lt_size st);have hp:H s.heap.objs.size=none:=I.hok.fresh (Nat.le_refl _);have new2:h2.get? s.heap.objs.size=some { cls:=.type "tuple",data:=.seq #[es[i].key,es[i].val] }:=(sb2.2 _ ne).trans new
  refine⟨.ref s.heap.objs.size,upd H s.heap.objs.size (.tup [.ref b,v]),?_,rfl,⟨_,kvs,k,v,b,rfl,hp,rfl,ha,hk,k3⟩,⟨_,_,st2⟩,fun c hc=>?_⟩
  ·refine I.turnLay (t':=s.toks) (h':=h2) (p:=s.heap.objs.size) (o:=.tup [.ref b,v]) (ch:=[it]) hf (fun c o m e=>(sb2.2 c (by simpa using m)).trans (kp c o (by simpa using m) e)) (Nat.le_refl _) ?_
   refine⟨show 2<=sizeLine by decide,[es[i].key,es[i].val],.cons (by rw[k1];rfl) (.cons (by rw[k2];exact k4) .nil),_,new2,rfl,⟨_,rfl⟩,rfl⟩
  ·have e:c=it:=by simpa using hc
   subst e;rw[Ak (Ne.symm ne)];exact f0
 done:=by
  intro X hP hw hK hc i pins s σ H E I hf st hg;subst hP hw hK;obtain⟨kvs,ha,hi⟩:=hg;obtain⟨ok,ov,st⟩:=st;obtain⟨xs,es',ep',g1,g2,g3,g4,g5,g6,g7⟩:=I.seen ha;rw[hd]at g4
  cases g4
  obtain⟨f0,f1,f2,f3,f4,f5⟩:=hf it (by simp)
  exact A7g (I.ok.hd hc) st g1 hd (by rw[Xb g5 g6];exact hi) fun h' eb=>⟨rfl,I.turned (t':=s.toks) (fun b o hb e=>eb b o hb e) f0 f1 f3 f4 f5⟩
 self:=fun A i s Q E st h=>by
  obtain⟨ok,ov,st⟩:=st;exact PySem.W.kcp_self st h
def iDI (td:TE):TI:=fun σ H R=>td σ H fun x H1=>∃a o kvs,x=.ref a/\H1 a=some (.frz o (.dT kvs))/\R (Iti a o) H1
section
variable {X:Cx}
theorem Aq6   {d c k:Pos}{i:List Expr}{y:Nat}(hl:PE X l r) (hbase:attributeBase l "items" X.env (eval l X.env)=eval l X.env:=by rfl) (hline:(d.endLine==c.line)=true:=by rfl) :
 PI X (.Tuple i y k) (.Call (.Attribute l "items" d) [] [] c) (iDI r):=by
 intro g s K H R I h
 refine wpAny_Call_method0_late hbase hline (thn (hl g s K H _ I h) fun v f ⟨x,z,j,A,C⟩=>?_)
 obtain⟨a,o,m,e,t,q⟩:=C;subst e
 cases (show v=Value.ref a from A)
 obtain⟨p,B,_⟩:=A0v j (.inr ⟨m,.inr ⟨o,t⟩⟩);obtain⟨O,D,E,F,J,L,u,P,M,N⟩:=j.seen t
 refine⟨"dict", "dict.items",PySem.F.plainAttrs_dict,PySem.F.slot_dict_items,PySem.F.type_dict_items,p,B,Calls.callWith_builtin rfl (PySem.evalArgs_none (A4y J p ?_))⟩
 refine A0i (Heap.get?_push_size _ rfl) (Heap.get?_push_of_some _ F) u ?_
 have G:∀b w,f.heap.get? b=some w->((f.heap.push { cls:=.type "dict_items",data:=.fields #[.ref a] }).push { cls:=.type "dict_itemiterator",data:=.fields #[.none,.bool false,.ref a,.int 0 0,.int D.size 0,.int E 0,.none,.none] }).get? b=some _:=fun b w e=>Heap.get?_push_of_some _ (Heap.get?_push_of_some _ e)
 refine⟨_,[(f.heap.push _).objs.size],_,_,z,rfl,j.kept  G,Ag8 u,⟨_,_,Heap.get?_push_size _ rfl⟩,fun b Q=>?_,q⟩
 have e:b=(f.heap.push { cls:=.type "dict_items",data:=.fields #[.ref a] }).objs.size:=by grind
 subst e
 have n:f.heap.objs.size<=(f.heap.push { cls:=.type "dict_items",data:=.fields #[.ref a] }).objs.size:=by simp_all
 exact j.fpOk n (j.hok.fresh n)
end
section
variable {X:Cx}
theorem Au5   {a b c:Pos}{d:List Expr}{f:Nat}(hl:QE X l e) (hbase:attributeBase l "items" X.env (eval l X.env)=eval l X.env:=by rfl) (hline:(a.endLine==b.line)=true:=by rfl) :
 QI X (.Tuple d f c) (.Call (.Attribute l "items" a) [] [] b) (iDI e):=⟨Aq6 hl.get hbase hline⟩
theorem Bi1  {st:Stmt}{rest:List Stmt}  (h1:QS X st t) (h2:QSs X rest u):QSs X (st::rest) (tFz d t u):=⟨Bh2 h1.get h2.get⟩
end
end L2
namespace L2
open PySem PySem.Spec PyProof.Rows PySem.W
theorem walk_ofX {l:OpenLaw}       {sp:Frag->Sp} 
 (hn:l.most=some n) (r:n<=sizeLine) (t:d.params.defaults=[]) (hr:Room k callerA)
 (F:∀(w:World) (g:ExcName->Option Value) (mg C:Str->Option Value) (fa:Addr) (h:Heap),Top q (looseW q loose) g mg C h->XP mg h->mg d.name=some (.ref fa) ->
  ∃(K:Frag) (p:FuncData),K.In h/\TabAt K h/\(∀(s:Shared) (u:Value),BindsTo s p ⟨[u],[]⟩ [(x,u)])/\∀base:Heap,K.In base->base.Ns mainGlobals mg->FnOk l.prog w K mg base CX0 k fa p [x] (sp K))
 (m:∀(K:Frag) (H:Hp) (a:Addr) (ns:List Int),ns.length<=n->SqL K H a (ns.map V.int)->sp K [.ref a] H (fun v _=>v=.bl true) fun _ _ _=>False) :
 WalkO q loose XP YP l.row.toRowW d [] (fun f vs=>PySem.call f vs):=by
 refine Att.Aa4 hn t fun w D B mg C fa o P O J a vs ns G Y Q R E j i c b L=>?_
 obtain⟨K,p,y,A,I,M⟩:=F w _ _ _ _ _ G.T G.X j
 exact Av8 y G.T.g G.T.b G.T.builtins G.T.nolimit L G.T.bmain A i c (Nat.le_trans b r) hr M I (fun H N=>m K H a _ b N) fun H e S z=>z
end L2
namespace L2
open PySem PySem.Spec PyProof.Rows
section
variable {X:Cx}{pins:List (Addr×Obj)}{σ:St}{A:Around}{t1 t2:Bool}{z ti to i1 i2 a b S:Addr}{xs ys:List V}
def A9k:TE:=fun _ _ _=>False
theorem A1c {e:Expr}:QE X e A9k:=⟨fun _ _ _ _ _ _ h=>h.elim⟩
end
end L2
namespace U
open PySem L2
inductive Th where
 | nm (T:String)
 | dc (ks:List Str) (ds:List PyData)
 | dt (ks ds:List PyData)
 | ds (ks ds:List PyData)
 | td (xs ks ds:List PyData)
 | xc (nm:Str)
 | tc (ss:List Str)
inductive O where
 | im (d:PyData)
 | ls (b:Bool) (ds:List PyData)
 | sc (ns:List Int)
 | ty (T:Th)
abbrev Ev:=List (Option O)
inductive PV where
 | o (o:O)
 | sl (i:Nat)
inductive R (α:Type) where
 | ok (a:α) (c:Ev)
 | bad
def R.bind {α β:Type}(r:R α)(k:α->Ev->R β):R β:=match r with
 | .ok a c=>k a c
 | .bad=>.bad
def R.sat {α:Type}(r:R α)(φ:α->Ev->Prop):Prop:=match r with
 | .ok a c=>φ a c
 | .bad=>False
theorem R.sat_bind  {r:R d}{k:d->Ev->R e}{b:e->Ev->Prop}:(r.bind k).sat b↔r.sat fun a c=>(k a c).sat b:=by cases r <;> exact Iff.rfl
theorem R.sat.mono  {r:R d}{e b:d->Ev->Prop}(h:r.sat e) (f:∀a c,e a c->b a c):r.sat b:=by
 cases r with
 | ok a c=>exact f a c h
 | bad=>exact h
theorem R.sat.bnd  {r:R d}{k:d->Ev->R e}{b:e->Ev->Prop}(h:(r.bind k).sat b):r.sat fun a c=>(k a c).sat b:=R.sat_bind.mp h
def O.bor:O->Bool
 | .ls b _=>b
 | _=>false
def O.own:O->Bool
 | .ls _ _=>true
 | _=>false
def O.dat:O->Option PyData
 | .im d=>some d
 | .ls _ ds=>some (.list ds)
 | _=>none
def O.flag (b:Bool):O->O
 | .ls _ ds=>.ls b ds
 | o=>o
def nrm:PV->PV
 | .o (.ls _ ds)=>.o (.im (.list ds))
 | p=>p
def rdP (c:Ev):PV->Option O
 | .o o=>some o
 | .sl i=>(c[i]?).join
def Ep (c:Ev)(p:PV):Option PyData:=(rdP c p).bind O.dat
structure Wo where
 Hf:Hp
 H:Hp
 fps:Nat->List Addr
def Wo.S (W:Wo):Addr->Prop:=fun a=>∃i,a∈W.fps i
def RepT (K:PySem.W.Frag)(Hf:Hp):Th->V->Prop
 | .nm T,v=>v=.ty T
 | .dc ks ds,v=>∃a xs,v=.ref a/\Hf a=some (.dK (Bu0 ks xs))/\TrL Hf ds xs
 | .dt ks ds,v=>∃a xs,v=.ref a/\Rd Hf a (.dT (ks.zip xs))/\TrL Hf ds xs/\ks.length=xs.length
 | .ds ks ds,v=>∃a o xs,v=.ref a/\Hf a=some (.frz o (.dT (ks.zip xs)))/\TrL Hf ds xs/\ks.length=xs.length
 | .td es ks ds,v=>∃a us b o xs,v=.ref a/\Hf a=some (.tup (us++[.ref b]))/\TrL Hf es us/\Hf b=some (.frz o (.dT (ks.zip xs)))/\TrL Hf ds xs/\ks.length=xs.length
 | .xc nm,v=>∃a C,v=.ref a/\PySem.W.nsIn K mainGlobals nm=some (some (.ref C))/\Hf a=some (Mt a C)
 | .tc ss,v=>∃p,v=.ref p/\∀H,SqT K H p (ss.map V.str)
theorem A7t  (S:Same Hf b)   (h:Rd Hf a u):Rd b a u:=h.imp (fun h=>S _ _ h) fun⟨o,h⟩=>⟨o,S _ _ h⟩
theorem RepT.same {K:PySem.W.Frag}{Hf Hf':Hp}(S:Same Hf Hf'):∀{t:Th}{v:V},RepT K Hf t v->RepT K Hf' t v
 | .nm T,_,h=>h
 | .dc ks ds,_,⟨a,xs,e,h,t⟩=>⟨a,xs,e,S _ _ h,TrL.same S t⟩
 | .dt ks ds,_,⟨a,xs,e,h,t,l⟩=>⟨a,xs,e,A7t S h,TrL.same S t,l⟩
 | .ds ks ds,_,⟨a,o,xs,e,h,t,l⟩=>⟨a,o,xs,e,S _ _ h,TrL.same S t,l⟩
 | .td es ks ds,_,⟨a,us,b,o,xs,e,h,t,h2,t2,l⟩=>⟨a,us,b,o,xs,e,S _ _ h,TrL.same S t,S _ _ h2,TrL.same S t2,l⟩
 | .xc nm,_,⟨a,C,e,n,h⟩=>⟨a,C,e,n,S _ _ h⟩
 | .tc ss,_,h=>h
def RepN (K:PySem.W.Frag)(Hf:Hp):O->V->Prop
 | .im d,v=>Tr Hf d v
 | .sc ns,v=>∃a,v=.ref a/\SqL K Hf a (ns.map V.int)
 | .ty T,v=>RepT K Hf T v
 | .ls _ _,_=>False
def RepO (K:PySem.W.Frag)(Hf H:Hp)(o:O)(v:V)(fp:List Addr):Prop:=match o with
 | .ls _ ds=>∃a vs,v=.ref a/\fp=[a]/\Hf a=none/\H a=some (.lst vs)/\TrL Hf ds vs
 | o=>fp=[]/\RepN K Hf o v
structure Stp (S:Addr->Prop) (Hf H:Hp) (S':Addr->Prop) (Hf' H':Hp):Prop where
 fz:Same Hf Hf'
 kp:∀a o,H a=some o->¬ S a->H' a=some o
 nf:∀a o,H a=some o->Mut (some o)->¬ S a->Hf a=none->Hf' a=none
 fr:∀a,S' a->S a\/H a=none
structure Rep (K:PySem.W.Frag) (β:Nat->V) (W:Wo) (c:Ev) (σ:St):Prop where
 sub:Same W.Hf W.H
 len:c.length=σ.length
 get:∀i o,c[i]?=some (some o)->∃v,σ[i]?=some (some v)/\RepO K W.Hf W.H o v (W.fps i)/\(o.bor=true->v=β i)
 dis:∀i j a,a∈W.fps i->a∈W.fps j->i=j
 own:∀i a,a∈W.fps i->W.Hf a=none/\∃o,W.H a=some o/\Mut (some o)
def Eh (K:PySem.W.Frag)(W:Wo)(σ:St):PV->V->List Addr->Prop
 | .o o,v,fp=>RepO K W.Hf W.H o v fp/\∀a∈fp,¬ W.S a
 | .sl i,v,fp=>fp=[]/\σ[i]?=some (some v)
def RepA (K:PySem.W.Frag)(Hf:Hp)(σ:St):PV->V->Prop
 | .o o,v=>RepN K Hf o v
 | .sl i,v=>σ[i]?=some (some v)
def zH (K:PySem.W.Frag)(Hf:Hp)(σ:St):List PV->List V->Prop
 | [],vs=>vs=[]
 | p::ps,vs=>∃v r,vs=v::r/\RepA K Hf σ p v/\zH K Hf σ ps r
abbrev orS (S:Addr->Prop)(fp:List Addr):Addr->Prop:=fun a=>S a\/a∈fp
section
variable {K:PySem.W.Frag}{β:Nat->V}{W W':Wo}{c c':Ev}{σ:St}{Hf Hf' Hf2 H H' H2:Hp}{o:O}{v:V}{fp:List Addr}{S S' S2:Addr->Prop}{p:PV}{a:Addr}
theorem Stp.refl:Stp S Hf H S Hf H:=⟨fun _ _ h=>h,fun _ _ h _=>h,fun _ _ _ _ _ h=>h,fun _ h=>.inl h⟩
theorem Stp.trans (x:Stp S Hf H S' Hf' H')(y:Stp S' Hf' H' S2 Hf2 H2):Stp S Hf H S2 Hf2 H2:=by
 have b:∀a o,H a=some o->¬ S a->¬ S' a:=fun a o h n z=>by
  rcases x.fr a z with q | q
  ·trivial
  simp_all
 refine⟨x.fz.trans y.fz,fun a o h n=>y.kp a o (x.kp a o h n) (b a o h n),fun a o h c n q=>y.nf a o (x.kp a o h n) c (b a o h n) (x.nf a o h c n q),fun a h=>?_⟩
 rcases y.fr a h with q | q
 ·exact x.fr a q
 ·cases e:H a with
  | none=>simp_all
  | some o =>
   by_cases n:S a
   ·grind
   ·rw[x.kp a o e n]at q;grind
theorem Stp.less (x:Stp S Hf H S' Hf' H')(h:∀a,S2 a->S' a):Stp S Hf H S2 Hf' H':=⟨x.fz,x.kp,x.nf,fun a q=>x.fr a (h a q)⟩
theorem Stp.more {F:Addr->Prop}(x:Stp S Hf H S' Hf' H'):Stp (fun a=>S a\/F a) Hf H (fun a=>S' a\/F a) Hf' H' :=
 ⟨x.fz,fun a o h n=>x.kp a o h fun z=>n (.inl z),fun a o h b n q=>x.nf a o h b (fun z=>n (.inl z)) q,fun a q=>by
  rcases q with q | q
  ·rcases x.fr a q with z | z
   ·simp_all
   grind
  simp_all⟩
theorem Stp.up (x:Stp S Hf H S' Hf' H')(h:∀a,S a->S2 a):Stp S2 Hf H S' Hf' H' :=
 ⟨x.fz,fun a o e n=>x.kp a o e fun z=>n (h a z),fun a o e b n q=>x.nf a o e b (fun z=>n (h a z)) q,fun a q=>(x.fr a q).imp (h a) id⟩
theorem RepN.same (S:Same Hf Hf'):∀{o:O}{v:V},RepN K Hf o v->RepN K Hf' o v
 | .im d,_,h=>Tr.same S h
 | .sc ns,_,⟨a,e,h⟩=>⟨a,e,Same.seq S h⟩
 | .ty T,_,h=>RepT.same S h
 | .ls _ _,_,h=>h
theorem RepA.same (S:Same Hf Hf'):∀{p:PV}{v:V},RepA K Hf σ p v->RepA K Hf' σ p v
 | .o _,_,h=>RepN.same S h
 | .sl _,_,h=>h
theorem zH.same (S:Same Hf Hf'):∀{ps:List PV}{vs:List V},zH K Hf σ ps vs->zH K Hf' σ ps vs
 | [],_,h=>h
 | p::ps,_,⟨v,r,e,h,t⟩=>⟨v,r,e,RepA.same S h,zH.same S t⟩
theorem RepO.mono (h:RepO K Hf H o v fp)(S:Same Hf Hf')(h1:∀a∈fp,Hf' a=none/\H' a=H a):RepO K Hf' H' o v fp:=by
 cases o with
 | ls b ds =>
  obtain⟨a,f,rfl,rfl,q,e,t⟩:=h;obtain⟨c,g⟩:=h1 a (.head _);exact⟨a,f,rfl,rfl,c,g.trans e,TrL.same S t⟩
 | im d=>exact⟨h.1,RepN.same S h.2⟩
 | sc ns=>exact⟨h.1,RepN.same S h.2⟩
 | ty T=>exact⟨h.1,RepN.same S h.2⟩
theorem Rep.frame (R:Rep K β W c σ)(S:Same W.Hf Hf')(sub:Same Hf' H')(h:∀a,W.S a->Hf' a=none/\H' a=W.H a):Rep K β ⟨Hf',H',W.fps⟩ c σ :=
 ⟨sub,R.len,fun i o e=>by
  obtain⟨v,f,r,b⟩:=R.get i o e
  exact⟨v,f,r.mono S fun a d=>h a ⟨i,d⟩,b⟩,R.dis,fun i a d=>by
  obtain⟨_,o,q,j⟩:=R.own i a d;obtain⟨k,g⟩:=h a ⟨i,d⟩
  grind⟩
theorem Rep.notS (R:Rep K β W c σ)(h:W.H a=none):¬ W.S a:=fun⟨i,q⟩=>by
 obtain⟨_,o,e,_⟩:=R.own i a q
 grind
theorem Rep.notF (R:Rep K β W c σ)(h:W.H a=none):W.Hf a=none:=Same.free R.sub h
theorem Stp.rep (R:Rep K β W c σ)(x:Stp (fun _=>False) W.Hf W.H S' Hf' H')(sub:Same Hf' H'):Rep K β ⟨Hf',H',W.fps⟩ c σ :=
 R.frame x.fz sub fun a d=>by
  obtain⟨i,f⟩:=d;obtain⟨z,o,e,b⟩:=R.own i a f
  exact⟨x.nf a o e b (fun z=>z) z,(x.kp a o e fun z=>z).trans e.symm⟩
theorem Bw  {p:Addr}{o:HO}(h:H p=none):Same H (upd H p o):=fun b u e=>by
 rw[Ak];exact e
 grind
theorem Ry {o:HO}(s:Same Hf H):Same (upd Hf a o) (upd H a o):=fun b u e=>by
 unfold upd at e ⊢
 split
 ·grind
 ·rename_i z;rw[if_neg z]at e;exact s b u e
theorem Stp.newF {o:HO}(s:Same Hf H)(h:H a=none):Stp (fun _=>False) Hf H (fun _=>False) (upd Hf a o) (upd H a o) :=
 ⟨Bw (Same.free s h),fun b u e _=>Bw h b u e,fun b u e _ _ q=>by rw[Ak (Bv e h)];grind,fun _ z=>z.elim⟩
theorem Stp.newL {o:HO}(s:Same Hf H)(h:H a=none):Stp (fun _=>False) Hf H (fun b=>b∈[a]) Hf (upd H a o) :=
 ⟨Same.refl _,fun b u e _=>Bw h b u e,fun b u e _ _ q=>q,fun b z=>by
  grind⟩
theorem Rx {o:HO}(s:Same Hf H)(h:H a=none):Same Hf (upd H a o):=s.trans (Bw h)
def ME (K:PySem.W.Frag)(T:TE)(f:Ev->R PV):Prop:=∀(β:Nat->V) (W:Wo) (c:Ev) (σ:St) (Q:VK),Rep K β W c σ ->
 (f c).sat (fun p c'=>∀v W' fp,Stp W.S W.Hf W.H (orS W'.S fp) W'.Hf W'.H->Rep K β W' c' σ->Eh K W' σ p v fp->Q v W'.H)->T σ W.H Q
def MV (K:PySem.W.Frag)(T:TE)(f:Ev->R PV):Prop:=∀(β:Nat->V) (W:Wo) (c:Ev) (σ:St) (Q:VK),Rep K β W c σ ->
 (f c).sat (fun p c'=>∀v W',Stp W.S W.Hf W.H W'.S W'.Hf W'.H->Rep K β W' c' σ->RepA K W'.Hf σ (nrm p) v->Q v W'.H)->T σ W.H Q
def MA (K:PySem.W.Frag)(T:TA)(f:Ev->R (List PV)):Prop:=∀(β:Nat->V) (W:Wo) (c:Ev) (σ:St) (Q:List V->Hp->Prop),Rep K β W c σ ->
 (f c).sat (fun ps c'=>∀vs W',Stp W.S W.Hf W.H W'.S W'.Hf W'.H->Rep K β W' c' σ->zH K W'.Hf σ ps vs->Q vs W'.H)->T σ W.H Q
def MT (K:PySem.W.Frag)(T:TT)(f:Ev->R Bool):Prop:=∀(β:Nat->V) (W:Wo) (c:Ev) (σ:St) (Q:Bool->Hp->Prop),Rep K β W c σ ->
 (f c).sat (fun b c'=>∀W',Stp W.S W.Hf W.H W'.S W'.Hf W'.H->Rep K β W' c' σ->Q b W'.H)->T σ W.H Q
theorem Xi  (R:Rep K β W c σ) (hf:W.Hf a=none) (h:W.H a=some (.lst vs)) (hn:¬ W.S a):Rep K β ⟨upd W.Hf a (.lst vs),W.H,W.fps⟩ c σ :=
 R.frame (Bw hf) (fun b u e=>by
  unfold upd at e
  split at e
  ·grind
  ·exact R.sub b u e) fun b f=>by
   obtain⟨i,g⟩:=f
   have d:b≠a:=fun z=>hn ⟨i,by simp_all⟩
   exact⟨by rw[Ak d];exact(R.own i b g).1,rfl⟩
theorem Br3  {Q:VK}  (k:∀v c,Stp W.S W.Hf W.H c.S c.Hf c.H->Rep K β c c' σ->RepA K c.Hf σ (nrm p) v->Q v c.H) (v:V) (c:Wo) (fp:List Addr) (st:Stp W.S W.Hf W.H (orS c.S fp) c.Hf c.H) (g:Rep K β c c' σ) (f:Eh K c σ p v fp):Q v c.H:=by
 cases p with
 | sl i =>
  obtain⟨rfl,e⟩:=f
  exact k v _ (st.less fun a z=>.inl z) g e
 | o o =>
  cases o with
  | im d =>
   obtain⟨⟨rfl,e⟩,_⟩:=f
   exact k v _ (st.less fun a z=>.inl z) g e
  | sc d =>
   obtain⟨⟨rfl,e⟩,_⟩:=f
   exact k v _ (st.less fun a z=>.inl z) g e
  | ty d =>
   obtain⟨⟨rfl,e⟩,_⟩:=f
   exact k v _ (st.less fun a z=>.inl z) g e
  | ls b ds =>
   obtain⟨⟨a,l,rfl,rfl,h,r,t⟩,m⟩:=f
   refine k _ ⟨upd _ a _,c.H,c.fps⟩ ⟨st.fz.trans (Bw h),st.kp,fun b o e s n q=>?_,fun b z=>st.fr b (.inl z)⟩ (Xi g h r (m a (.head _))) ?_
   ·have j:b≠a:=fun z=>by
     rcases st.fr a (.inr (.head _)) with y | y
     ·grind
     simp_all
    show upd _ a _ b=none
    rw[Ak j];exact st.nf b o e s n q
   ·exact⟨a,l,rfl,Be,TrL.same (Bw h) t⟩
theorem ME.toV   (h:ME K T f):MV K T f:=fun e W c j Q R s=>h _ W c _ Q R (s.mono fun p l k v g i a d b=>Br3 k v _ _ a d b)
end
def RdV (Hf H:Hp):PyData->V->Prop
 | .list ds,v=>∃a vs,v=.ref a/\H a=some (.lst vs)/\TrL Hf ds vs
 | d,v=>Tr Hf d v
section
variable {K:PySem.W.Frag}{β:Nat->V}{W W':Wo}{c c':Ev}{σ:St}{Hf Hf' Hf2 H H' H2:Hp}{o:O}{v:V}{fp:List Addr}{S S' S2:Addr->Prop}{p:PV}{a:Addr}{d:PyData}
theorem RdV.of (s:Same Hf H)(h:Tr Hf d v):RdV Hf H d v:=by
 cases d with
 | list f=>obtain⟨a,c,e,q,t⟩:=h;exact⟨a,c,e,s _ _ q,t⟩
 | none=>exact h
 | bool b=>exact h
 | int i=>exact h
 | str x=>exact h
 | tuple f=>exact h
 | dict k=>exact h
theorem RdV.tr (s:Same Hf H)(h:RdV Hf H d v):Tr H d v:=by
 cases d with
 | list f=>obtain⟨a,c,e,q,t⟩:=h;exact⟨a,c,e,q,TrL.same s t⟩
 | none=>exact h
 | bool b=>exact h
 | int i=>exact h
 | str x=>exact h
 | tuple f=>exact Tr.same s h
 | dict k=>trivial
theorem Gi (R:Rep K β W c σ)(h:RepA K W.Hf σ p v)(e:Ep c p=some d):RdV W.Hf W.H d v:=by
 cases p with
 | o o =>
  cases o with
  | im m=>cases e;exact .of R.sub h
  | ls b n=>trivial
  | sc k=>trivial
  | ty T=>trivial
 | sl i =>
  have l:c[i]?.join.bind _=some d:=e;obtain⟨o,g,f⟩:=Option.bind_eq_some_iff.mp l
  have g:c[i]?=some (some o):=by
   grind
  obtain⟨u,s,r,_⟩:=R.get i o g
  cases s.symm.trans h
  cases o with
  | im m=>cases f;exact .of R.sub r.2
  | ls b n =>
   cases f
   obtain⟨a,j,e,_,_,q,t⟩:=r;exact⟨a,j,e,q,t⟩
  | sc k=>trivial
  | ty T=>trivial
def A3q (Hf H:Hp):List PyData->List V->Prop
 | [],vs=>vs=[]
 | d::ds,vs=>∃v r,vs=v::r/\RdV Hf H d v/\A3q Hf H ds r
def Wx (c:Ev):List PV->Option (List PyData)
 | []=>some []
 | p::ps=>(Ep c p).bind fun d=>(Wx c ps).map (d::·)
theorem Az1 (R:Rep K β W c σ):∀{ps:List PV}{vs:List V}{ds:List PyData},zH K W.Hf σ ps vs->Wx c ps=some ds->A3q W.Hf W.H ds vs
 | [],vs,ds,h,e=>by cases (show some []=some ds from e);exact h
 | p::ps,_,ds,⟨v,r,rfl,h,t⟩,e=>by
  obtain⟨d,e1,e2⟩:=Option.bind_eq_some_iff.mp (show ((Ep c p).bind fun d=>(Wx c ps).map (d::·))=some ds from e)
  obtain⟨ds',e3,rfl⟩:=Option.map_eq_some_iff.mp e2;exact⟨v,r,rfl,Gi R h e1,Az1 R t e3⟩
abbrev New (K:PySem.W.Frag)(Hf H:Hp)(o:O)(Q:VK):Prop:=∀v Hf' H' fp,Stp (fun _=>False) Hf H (fun a=>a∈fp) Hf' H'->Same Hf' H'->RepO K Hf' H' o v fp->Q v H'
def OpS (K:PySem.W.Frag)(r:R2)(op:PyData->PyData->Option O):Prop:=∀(Hf H:Hp) (x y:V) (dx dy:PyData) (o:O) (Q:VK),Same Hf H->RdV Hf H dx x->RdV Hf H dy y->op dx dy=some o->New K Hf H o Q->r x y H Q
def Bq5 (K:PySem.W.Frag)(r:List V->Hp->VK->Prop)(op:List PyData->Option O):Prop:=∀(Hf H:Hp) (xs:List V) (ds:List PyData) (o:O) (Q:VK),Same Hf H->A3q Hf H ds xs->op ds=some o->New K Hf H o Q->r xs H Q
theorem New.same  (h:New K Hf H (.im d) Q) (s:Same Hf H)  (t:Tr Hf d v):Q v H:=h v _ H [] (Stp.refl.less fun a z=>nomatch z) s ⟨rfl,t⟩
theorem New.tup    (h:New K Hf H (.im (.tuple ds)) Q) (s:Same Hf H) (t:TrL Hf ds vs) {p:Addr}(hp:H p=none):Q (.ref p) (upd H p (.tup vs)) :=
 h _ _ _ [] ((Stp.newF s hp).less fun a z=>nomatch z) (Ry s) ⟨rfl,p,vs,rfl,Be,TrL.same (Bw (Same.free s hp)) t⟩
theorem New.lst    (h:New K Hf H (.ls false ds) Q) (s:Same Hf H) (t:TrL Hf ds vs) {p:Addr}(hp:H p=none):Q (.ref p) (upd H p (.lst vs)) :=
 h _ _ _ _ (Stp.newL s hp) (Rx s hp) ⟨p,vs,rfl,rfl,Same.free s hp,Be,t⟩
theorem New.of  (R:Rep K β W c σ) (k:∀v W' d,Stp W.S W.Hf W.H (orS W'.S d) W'.Hf W'.H->Rep K β W' c σ->Eh K W' σ (.o o) v d->Q v W'.H):New K W.Hf W.H o Q:=by
 intro v h j d b f r
 refine k v _ _ ⟨b.fz,fun a o e _=>b.kp a o e fun z=>z,fun a o e i _ q=>b.nf a o e i (fun z=>z) q,fun a z=>?_⟩ (b.rep R f) ⟨r,fun a g z=>?_⟩
 ·rcases z with z | z
  ·exact .inl z
  ·rcases b.fr a z with y | y
   ·trivial
   grind
 ·rcases b.fr a g with y | y
  ·omega
  ·exact R.notS y z
def cOp (op:PyData->PyData->Option O)(fa fb:Ev->R PV):Ev->R PV:=fun c=>(fa c).bind fun p c=>(fb c).bind fun q c =>
 match Ep c (nrm p),Ep c (nrm q) with
 | some x,some y=>match op x y with
  | some o=>.ok (.o o) c
  | none=>.bad
 | _,_=>.bad
theorem Aj     (ha:ME K g fa) (hb:ME K f fb) (hr:OpS K r op):ME K (tOp r g f) (cOp op fa fb):=by
 intro β W c σ Q R s
 refine ha.toV _ W c _ _ R (s.bnd.mono fun p c1 l v1 W1 d i j=>?_)
 refine hb.toV _ _ _ _ _ i (l.bnd.mono fun q e a v2 W2 b R2 k=>?_)
 cases ex:Ep e (nrm p) with
 | none=>simp only[ex]at a;trivial
 | some x =>
  cases ey:Ep e (nrm q) with
  | none=>simp only[ex,ey]at a;trivial
  | some y =>
   simp only[ex,ey]at a
   cases eo:op x y with
   | none=>simp only[eo]at a;trivial
   | some o =>
    simp only[eo]at a
    exact hr _ _ _ _ x y o Q R2.sub (Gi R2 (RepA.same b.fz j) ex) (Gi R2 k ey) eo (New.of R2 fun v W' fp m n h=>a v _ _ (d.trans (b.trans m)) n h)
def Ar:Ev->R (List PV):=fun c=>.ok [] c
def Ae (f:Ev->R PV)(fr:Ev->R (List PV)):Ev->R (List PV):=fun c=>(f c).bind fun p c=>(fr c).bind fun ps c=>.ok (nrm p::ps) c
def cK (ds:List PyData):Ev->R (List PV):=fun c=>.ok (ds.map fun d=>.o (.im d)) c
theorem An:MA K Fe Ar:=fun b W c a Q R s=>s _ W Stp.refl R rfl
theorem Ab {d:TE}    (ha:ME K d fa) (hr:MA K e f):MA K (Ci d e) (Ae fa f):=by
 intro t W c v Q R s
 refine ha.toV _ W c _ _ R (s.bnd.mono fun p o i j r b h g=>?_)
 refine hr _ _ _ _ _ h (i.bnd.mono fun w q m l u a n k=>?_)
 exact m _ _ (b.trans a) n ⟨j,l,rfl,RepA.same a.fz g,k⟩
def Ac (i:Nat):Ev->R PV:=fun c=>match c[i]? with
 | some (some (.ls _ _))=>.ok (.sl i) c
 | some (some o)=>.ok (.o o) c
 | _=>.bad
theorem Rep.here (R:Rep K β W c σ)  (h:RepN K W.Hf o v) (n:o.own=false) {Q:VK}(s:∀v W' fp,Stp W.S W.Hf W.H (orS W'.S fp) W'.Hf W'.H->Rep K β W' c σ->Eh K W' σ (.o o) v fp->Q v W'.H):Q v W.H :=
 s
  v W [] (Stp.refl.less fun a z=>by
  grind) R ⟨by
   cases o with
   | ls b e=>trivial
   | im d=>trivial
   | sc d=>trivial
   | ty d=>trivial,fun a z=>nomatch z⟩
theorem Aa  : ME K (Aj5 i) (Ac i):=by
 intro j W c h Q R s;unfold Ac at s
 cases e:c[i]? with
 | none=>simp only[e]at s;trivial
 | some x =>
  cases x with
  | none=>simp only[e]at s;trivial
  | some o =>
   obtain⟨v,f,r,_⟩:=R.get i o e
   refine⟨v,f,?_⟩
   simp only[e]at s
   cases o with
   | ls b g=>
    exact s v W _ (Stp.refl.less fun a z=>by
     rcases z with z | z
     ·omega
     simp_all) R ⟨rfl,f⟩
   | im d=>exact R.here r.2 rfl s
   | sc d=>exact R.here r.2 rfl s
   | ty d=>exact R.here r.2 rfl s
def cC (d:PyData):Ev->R PV:=fun c=>.ok (.o (.im d)) c
def vD:V->Option PyData
 | .non=>some .none
 | .bl b=>some (.bool b)
 | .int i=>some (.int i)
 | .str x=>some (.str x)
 | _=>none
theorem A9e:∀{v:V}{d:PyData},vD v=some d->Tr H d v
 | .non,_,e=>by cases e;rfl
 | .bl b,_,e=>by cases e;rfl
 | .int i,_,e=>by cases e;rfl
 | .str x,_,e=>by cases e;rfl
 | .byt _,_,e=>nomatch e
 | .flt _,_,e=>nomatch e
 | .ref _,_,e=>nomatch e
 | .ty _,_,e=>nomatch e
theorem Aq   (h:vD v=some d):ME K (tC v) (cC d):=fun b W c a Q R s=>R.here (o:=.im d) (A9e h) rfl s
def frz (p:PV)(c:Ev):R PyData:=match p with
 | .o (.im d)=>.ok d c
 | .o _=>.bad
 | .sl i=>match c[i]? with
  | some (some (.im d))=>.ok d c
  | some (some (.ls false ds))=>.ok (.list ds) (c.set i (some (.im (.list ds))))
  | _=>.bad
def clr (fps:Nat->List Addr)(i:Nat):Nat->List Addr:=fun j=>if j=i then [] else fps j
theorem Er   (h:a∈clr b i j):a∈b j/\j≠i:=by
 unfold clr at h
 grind
theorem Rep.setN (R:Rep K β W c σ)   (h:RepN K W.Hf o v) (n:o.own=false):Rep K β ⟨W.Hf,W.H,clr W.fps i⟩ (c.set i (some o)) (σ.set i (some v)):=by
 refine⟨R.sub,by rw[List.length_set,List.length_set];exact R.len,fun j s e=>?_,fun j k a m g=>R.dis j k a (Er m).1 (Er g).1,fun j a h=>R.own j a (Er h).1⟩
 by_cases z:j=i
 ·subst z
  by_cases l:j<c.length
  ·rw[List.getElem?_set_self l]at e
   cases e
   refine⟨v,by rw[List.getElem?_set_self (by rw[<- R.len];exact l)],?_,fun b=>?_⟩
   ·show RepO K W.Hf W.H o v (clr _ j j)
    unfold clr;rw[if_pos rfl]
    cases o with
    | ls b f=>exact nomatch n
    | im d=>exact⟨rfl,h⟩
    | sc d=>trivial
    | ty d=>exact⟨rfl,h⟩
   ·cases o with
    | ls b f=>exact nomatch n
    | im d=>exact nomatch b
    | sc d=>exact nomatch b
    | ty d=>exact nomatch b
  grind
 ·rw[List.getElem?_set_ne fun y=>z y.symm]at e
  obtain⟨p,q,r,b⟩:=R.get j _ e
  refine⟨p,by grind,?_,b⟩
  unfold clr
  simp_all
theorem Rep.setO (R:Rep K β W c σ)   (h:RepO K W.Hf W.H o v fp) (hn:∀a∈fp,¬ W.S a) (hb:o.bor=false):Rep K β ⟨W.Hf,W.H,fun j=>if j=i then fp else W.fps j⟩ (c.set i (some o)) (σ.set i (some v)):=by
 refine⟨R.sub,by rw[List.length_set,List.length_set];exact R.len,fun j o' e=>?_,fun j k a f g=>?_,fun j a f=>?_⟩
 ·by_cases z:j=i
  ·subst z
   by_cases l:j<c.length
   ·rw[List.getElem?_set_self l]at e
    cases e
    refine⟨v,by rw[List.getElem?_set_self (by rw[<- R.len];exact l)],?_,fun b=>by rw[hb]at b;cases b⟩
    simp_all
   simp_all
  ·rw[List.getElem?_set_ne fun y=>z y.symm]at e
   obtain⟨v',e1,r,b⟩:=R.get j _ e
   grind
 ·have f:a∈if j=i then fp else W.fps j:=f
  have g:a∈if k=i then fp else W.fps k:=g
  split at f
  ·split at g
   ·omega
   ·exact absurd ⟨k,g⟩ (hn a f)
  ·split at g
   ·exact absurd ⟨j,f⟩ (hn a g)
   ·exact R.dis j k a f g
 ·have f:a∈if j=i then fp else W.fps j:=f
  split at f
  ·cases o with
   | ls b ds =>
    obtain⟨a',vs,_,rfl,n,m,_⟩:=h
    cases List.mem_singleton.mp f
    exact⟨n,_,m,trivial⟩
   | im d=>rw[h.1]at f;cases f
   | sc d=>rw[h.1]at f;cases f
   | ty d=>rw[h.1]at f;cases f
  ·exact R.own j a f
theorem set_same {a:Type}{l:List a}  {x:a}(h:l[i]?=some x):l.set i x=l:=by
 apply List.ext_getElem?
 grind
theorem Rep.drop (R:Rep K β W c σ)(i:Nat):Rep K β ⟨W.Hf,W.H,clr W.fps i⟩ (c.set i none) σ:=by
 refine⟨R.sub,by rw[List.length_set];exact R.len,fun j m e=>?_,fun j k a g f=>R.dis j k a (Er g).1 (Er f).1,fun j a h=>R.own j a (Er h).1⟩
 by_cases z:j=i
 ·grind
 ·rw[List.getElem?_set_ne fun y=>z y.symm]at e
  obtain⟨l,d,r,b⟩:=R.get j _ e
  refine⟨l,d,?_,b⟩
  unfold clr
  simp_all
theorem Ik (R:Rep K β W c σ)(h:RepA K W.Hf σ p v)  (s:(frz p c).sat k) :
 ∃d c' W',frz p c=.ok d c'/\k d c'/\W'.H=W.H/\Stp W.S W.Hf W.H W'.S W'.Hf W'.H/\Rep K β W' c' σ/\Tr W'.Hf d v:=by
 cases p with
 | o o =>
  cases o with
  | im d=>exact⟨d,c,W,rfl,s,rfl,Stp.refl,R,h⟩
  | ls b w=>exact s.elim
  | sc d=>exact s.elim
  | ty d=>exact s.elim
 | sl i =>
  unfold frz at s ⊢
  cases e:c[i]? with
  | none=>simp only[e]at s;exact s.elim
  | some x =>
   cases x with
   | none=>simp only[e]at s;exact s.elim
   | some o =>
    obtain⟨v',u,r,_⟩:=R.get i o e
    cases (show some _=some _ from u.symm.trans h)
    cases o with
    | im d=>simp only[e]at s;exact⟨d,c,W,by simp only[e],s,rfl,Stp.refl,R,r.2⟩
    | sc d=>simp only[e]at s;exact s.elim
    | ty d=>simp only[e]at s;exact s.elim
    | ls b w =>
     cases b with
     | true=>simp only[e]at s;exact s.elim
     | false =>
      simp only[e]at s;obtain⟨a,m,rfl,l,f,A,t⟩:=r
      refine⟨.list _,c.set i _,⟨upd _ a _,W.H,clr W.fps i⟩,by simp only[e],s,rfl,⟨Bw f,fun b o e _=>e,fun b o e mu n q=>?_,fun b z=>?_⟩,?_,⟨a,m,rfl,Be,TrL.same (Bw f) t⟩⟩
      ·have C:b≠a:=fun z=>n ⟨i,by rw[z,l];exact .head _⟩
       show upd _ a _ b=none
       rw[Ak C];exact q
      ·obtain⟨j,g⟩:=z
       exact .inl ⟨j,(Er g).1⟩
      ·have B:¬ Wo.S ⟨W.Hf,W.H,clr W.fps i⟩ a:=fun⟨j,g⟩=>by
        obtain⟨E,D⟩:=Er g
        exact D (R.dis j i a E (by rw[l];exact .head _))
       have y:=(Xi (R.drop i) f A B).setN (i:=i) (o:=.im (.list _))  ⟨a,m,rfl,Be,TrL.same (Bw f) t⟩ rfl;rw[set_same h]at y
       have z:clr (clr W.fps i) i=clr W.fps i:=by funext j;unfold clr;split <;> rfl
       simp_all
def vDs:List V->Option (List PyData)
 | []=>some []
 | v::vs=>(vD v).bind fun d=>(vDs vs).map (d::·)
theorem Aq1:∀{vs:List V}{ds:List PyData},vDs vs=some ds->zH K Hf σ (ds.map fun d=>.o (.im d)) vs
 | [],_,e=>by cases (show some []=some _ from e);exact rfl
 | v::vs,ds,e=>by
  obtain⟨d,e1,e2⟩:=Option.bind_eq_some_iff.mp (show ((vD v).bind fun d=>(vDs vs).map (d::·))=some ds from e)
  obtain⟨ds',e3,rfl⟩:=Option.map_eq_some_iff.mp e2;exact⟨v,vs,rfl,A9e e1,Aq1 e3⟩
theorem Bs9   (h:vDs vs=some ds):MA K (tK vs) (cK ds):=fun b W c a Q R s=>s _ W Stp.refl R (Aq1 h)
def frzs:List PV->Ev->R (List PyData)
 | [],c=>.ok [] c
 | p::ps,c=>(frz p c).bind fun d c=>(frzs ps c).bind fun ds c=>.ok (d::ds) c
theorem Ow:∀{ps:List PV}{vs:List V}{W:Wo}{c:Ev}{φ:List PyData->Ev->Prop},Rep K β W c σ->zH K W.Hf σ ps vs->(frzs ps c).sat φ ->
 ∃ds c' W',φ ds c'/\W'.H=W.H/\Stp W.S W.Hf W.H W'.S W'.Hf W'.H/\Rep K β W' c' σ/\TrL W'.Hf ds vs
 | [],vs,W,c,φ,R,h,s=>⟨[],c,W,s,rfl,Stp.refl,R,h⟩
 | p::ps,_,W,c,φ,R,⟨v,r,rfl,h,t⟩,s=>by
  obtain⟨d,c1,W1,_,s1,e1,st1,R1,t1⟩:=Ik R h s.bnd;obtain⟨ds,c2,W2,s2,e2,st2,R2,t2⟩:=Ow R1 (zH.same st1.fz t) s1.bnd;exact⟨d::ds,c2,W2,s2,e2.trans e1,st1.trans st2,R2,v,r,rfl,Tr.same st2.fz t1,t2⟩
def Fp (f:Ev->R (List PV)):Ev->R PV:=fun c=>(f c).bind fun ps c=>(frzs ps c).bind fun ds c=>if ds.length<=1000 then .ok (.o (.im (.tuple ds))) c else .bad
def Hj (f:Ev->R (List PV)):Ev->R PV:=fun c=>(f c).bind fun ps c=>(frzs ps c).bind fun ds c=>if ds.length<=1000 then .ok (.o (.ls false ds)) c else .bad
theorem An3  (h:n<=1000):n<=sizeLine:=Nat.le_trans h (by decide)
theorem Fq   (h:MA K t f):ME K (Aw5 t) (Fp f):=by
 intro w W c z Q R s
 refine h _ W c _ _ R (s.bnd.mono fun x y k A F b o m=>?_)
 obtain⟨r,B,E,a,j,d,e,i⟩:=Ow o m k.bnd
 by_cases l:r.length<=1000
 ·rw[if_pos l]at a
  refine⟨by rw[<- i.length];exact An3 l,fun p g=>?_⟩
  rw[<- j]at g ⊢
  exact New.tup (New.of e fun v C D q u n=>a v _ _ (b.trans (d.trans q)) u n) e.sub i g
 ·rw[if_neg l]at a;trivial
theorem Dv   (h:MA K t f):ME K (A7w t) (Hj f):=by
 intro w W c z Q R s
 refine h _ W c _ _ R (s.bnd.mono fun x y k A F b o m=>?_)
 obtain⟨r,B,E,a,j,d,e,i⟩:=Ow o m k.bnd
 by_cases l:r.length<=1000
 ·rw[if_pos l]at a
  refine⟨by rw[<- i.length];exact An3 l,fun p g=>?_⟩
  rw[<- j]at g ⊢
  exact New.lst (New.of e fun v C D q u n=>a v _ _ (b.trans (d.trans q)) u n) e.sub i g
 ·rw[if_neg l]at a;trivial
end
def Gp (cI:Ev):List (Nat×Nat)->Ev->Option Ev
 | [],c=>some c
 | (k,i)::m,c=>match c[i]? with
  | some (some (.ls b _))=>match cI[k]? with
   | some (some (.ls true ds))=>Gp cI m (c.set i (some (.ls b ds)))
   | _=>none
  | _=>Gp cI m c
def inn (m:List (Nat×Nat))(i:Nat):Option Nat:=(m.find? fun p=>p.2==i).map (·.1)
def Aj3 (m:List (Nat×Nat))(k:Nat):Option Nat:=(m.find? fun p=>p.1==k).map (·.2)
theorem Iu   : inn ((k,j)::m) i=if j=i then some k else inn m i:=by
 unfold inn
 grind
theorem Sg   (h:inn m i=some k):(k,i)∈m:=by
 induction m with
 | nil=>cases h
 | cons p m a =>
  rw[Iu]at h
  grind
theorem Su   (b:(m.map (·.2)).Nodup) (h:(k,i)∈m):inn m i=some k:=by
 induction m with
 | nil=>grind
 | cons p m a =>
  rw[Iu]
  grind
theorem Ak6 {m:List (Nat×Nat)}  (b:(m.map (·.1)).Nodup) (h:(k,i)∈m) (h':(k,j)∈m):i=j:=by
 induction m with
 | nil=>grind
 | cons p m a =>
  grind
theorem Qu {cI:Ev}:∀{m:List (Nat×Nat)}{c cO:Ev},(m.map (·.2)).Nodup->Gp cI m c=some cO->cO.length=c.length/\∀i,
 (∃b ds0 k ds,c[i]?=some (some (.ls b ds0))/\inn m i=some k/\cI[k]?=some (some (.ls true ds))/\cO[i]?=some (some (.ls b ds))) \/
 (cO[i]?=c[i]?/\∀b ds,c[i]?=some (some (.ls b ds))->inn m i=none)
 | [],c,cO,nd,e=>by cases (show some c=some cO from e);exact⟨rfl,fun i=>.inr ⟨rfl,fun _ _ _=>rfl⟩⟩
 | (k,j)::m,c,cO,nd,e=>by
  rw[List.map_cons,List.nodup_cons]at nd
  have nj:inn m j=none:=by
   cases q:inn m j with
   | none=>rfl
   | some k'=>exact absurd (List.mem_map.mpr ⟨(k',j),Sg q,rfl⟩) nd.1
  unfold Gp at e
  have other:Gp cI m c=some cO->(∀b ds,c[j]?≠some (some (.ls b ds)))->cO.length=c.length/\∀i,
   (∃b ds0 k' ds,c[i]?=some (some (.ls b ds0))/\inn ((k,j)::m) i=some k'/\cI[k']?=some (some (.ls true ds))/\cO[i]?=some (some (.ls b ds))) \/
   (cO[i]?=c[i]?/\∀b ds,c[i]?=some (some (.ls b ds))->inn ((k,j)::m) i=none):=fun e hn=>by
   obtain⟨hl,hg⟩:=Qu nd.2 e
   refine⟨hl,fun i=>?_⟩
   rcases hg i with ⟨b,ds0,k',ds,q1,q2,q3,q4⟩ | ⟨q1,q2⟩
   ·refine .inl ⟨b,ds0,k',ds,q1,?_,q3,q4⟩
    rw[Iu,if_neg (fun z=>hn b ds0 (by rw[z];exact q1))];exact q2
   ·refine .inr ⟨q1,fun b ds q=>?_⟩
    rw[Iu,if_neg (fun z=>hn b ds (by rw[z];exact q))];exact q2 b ds q
  cases ec:c[j]? with
  | none=>simp only[ec]at e;exact other e fun b ds z=>by rw[ec]at z;cases z
  | some x =>
   cases x with
   | none=>simp only[ec]at e;exact other e fun b ds z=>by rw[ec]at z;cases z
   | some o =>
    cases o with
    | im d=>simp only[ec]at e;exact other e fun b ds z=>by rw[ec]at z;cases z
    | sc d=>simp only[ec]at e;exact other e fun b ds z=>by rw[ec]at z;cases z
    | ty d=>simp only[ec]at e;exact other e fun b ds z=>by rw[ec]at z;cases z
    | ls b0 ds0 =>
     simp only[ec]at e
     cases ei:cI[k]? with
     | none=>simp only[ei]at e;cases e
     | some x =>
      cases x with
      | none=>simp only[ei]at e;cases e
      | some o =>
       cases o with
       | im d=>simp only[ei]at e;cases e
       | sc d=>simp only[ei]at e;cases e
       | ty d=>simp only[ei]at e;cases e
       | ls b1 ds1 =>
        cases b1 with
        | false=>simp only[ei]at e;cases e
        | true =>
         simp only[ei]at e
         have lj:j<c.length:=by
          rcases Nat.lt_or_ge j c.length with q | q
          ·exact q
          ·rw[List.getElem?_eq_none q]at ec;cases ec
         obtain⟨hl,hg⟩:=Qu nd.2 e;rw[List.length_set]at hl
         refine⟨hl,fun i=>?_⟩
         by_cases z:j=i
         ·subst z
          rcases hg j with ⟨b,ds0',k',ds,q1,q2,q3,q4⟩ | ⟨q1,q2⟩
          ·rw[nj]at q2;cases q2
          ·rw[List.getElem?_set_self lj]at q1
           exact .inl ⟨b0,ds0,k,ds1,ec,by rw[Iu,if_pos rfl],ei,q1⟩
         ·have gs:(c.set j (some (.ls b0 ds1)))[i]?=c[i]?:=List.getElem?_set_ne z
          rcases hg i with ⟨b,ds0',k',ds,q1,q2,q3,q4⟩ | ⟨q1,q2⟩
          ·rw[gs]at q1
           exact .inl ⟨b,ds0',k',ds,q1,by rw[Iu,if_neg z];exact q2,q3,q4⟩
          ·rw[gs]at q1 q2
           exact .inr ⟨q1,fun b ds q=>by rw[Iu,if_neg z];exact q2 b ds q⟩
def Ho:Option (Option O)->Bool
 | some (some (.ls _ _))=>true
 | _=>false
def Rr (m:List (Nat×Nat))(c:Ev)(fps:Nat->List Addr):Nat->List Addr:=fun k=>match Aj3 m k with
 | some i=>if Ho c[i]? then fps i else []
 | none=>[]
theorem Uk   (h:Aj3 m k=some i):(k,i)∈m:=by
 obtain⟨p,b,a⟩:=Option.map_eq_some_iff.mp h
 grind
theorem Gm      (h:a∈Rr m c b k):∃i,(k,i)∈m/\Ho c[i]?=true/\a∈b i:=by
 unfold Rr at h
 cases e:Aj3 m k with
 | none=>grind
 | some i =>
  rw[e]at h
  have h:a∈if Ho _ then b i else []:=h
  by_cases q:Ho c[i]?=true
  ·rw[if_pos q]at h;exact⟨i,Uk e,q,h⟩
  grind
theorem A6w   (a:(m.map (·.1)).Nodup) (h:(k,i)∈m):Aj3 m k=some i:=by
 cases e:Aj3 m k with
 | none =>
  unfold Aj3 at e;rw[Option.map_eq_none_iff]at e
  grind
 | some j=>rw[Ak6 a h (Uk e)]
def Ah6 (m:List (Nat×Nat))(c:Ev)(fps fpsJ:Nat->List Addr):Nat->List Addr:=fun i=>if Ho c[i]? then (match inn m i with
 | some k=>fpsJ k
 | none=>fps i) else fps i
section
variable {K:PySem.W.Frag}{β β':Nat->V}{W W':Wo}{c cI cI' cO:Ev}{σ σI σI':St}{m:List (Nat×Nat)}{fp:List Addr}
structure Lent (K:PySem.W.Frag) (Hf:Hp) (m:List (Nat×Nat)) (c:Ev) (σ:St) (β':Nat->V) (cI:Ev) (σI:St):Prop where
 n1:(m.map (·.1)).Nodup
 n2:(m.map (·.2)).Nodup
 len:cI.length=σI.length
 at_:∀k o,cI[k]?=some (some o)->(o.own=false/\(∀i,(k,i)∈m->Ho c[i]?=false)/\(∃v,σI[k]?=some (some v)/\RepN K Hf o v))\/∃i b ds v,(k,i)∈m/\c[i]?=some (some (.ls b ds))/\o=.ls true ds/\σ[i]?=some (some v)/\σI[k]?=some (some v)/\β' k=v
theorem Lent.rep (L:Lent K W.Hf m c σ β' cI σI)(R:Rep K β W c σ):Rep K β' ⟨W.Hf,W.H,Rr m c W.fps⟩ cI σI:=by
 refine⟨R.sub,L.len,fun k o e=>?_,fun k l a B C=>?_,fun k a h=>?_⟩
 ·rcases L.at_ k o e with ⟨n,s,v,p,r⟩ | ⟨i,b,x,v,E,w,rfl,J,p,A⟩
  ·refine⟨v,p,?_,fun q=>?_⟩
   ·have g:∀t ,t=[]->RepO K _ W.H o v t:=fun t z=>by
     cases o with
     | ls b x=>exact nomatch n
     | im d=>exact⟨z,r⟩
     | sc d=>exact⟨z,r⟩
     | ty d=>exact⟨z,r⟩
    refine g _ ?_
    show Rr m c _ k=[]
    unfold Rr
    cases q:Aj3 m k with
    | none=>rfl
    | some i =>
     show (if Ho _ then W.fps i else [])=[]
     rw[s i (Uk q)]
     rfl
   ·cases o with
    | ls b x=>exact nomatch n
    | im d=>exact nomatch q
    | sc d=>exact nomatch q
    | ty d=>exact nomatch q
  ·obtain⟨v',f,r,_⟩:=R.get i _ w
   cases (show some _=some _ from f.symm.trans J)
   refine⟨v,p,?_,fun _=>A.symm⟩
   obtain⟨a,F,G,D,I⟩:=r
   refine⟨a,F,G,?_,I⟩
   show Rr m c _ k=[a]
   unfold Rr;rw[A6w L.n1 E]
   show (if Ho _ then W.fps i else [])=[a]
   rw[w];exact D
 ·obtain⟨i,H,_,u⟩:=Gm B
  obtain⟨j,M,_,y⟩:=Gm C
  cases R.dis i j a u y
  have f:=Su L.n2 M;rw[(Su L.n2 H)]at f;exact Option.some.inj f
 ·obtain⟨i,_,_,u⟩:=Gm h
  exact R.own i a u
theorem A7q  (h:Ho x=true):∃b ds,x=some (some (.ls b ds)):=by
 match x,h with
 | some (some (.ls b _)),_=>grind
theorem Lent.back (L:Lent K W.Hf m c σ β' cI σI)(R:Rep K β W c σ)(I:Rep K β' W' cI' σI')(st:Stp (Wo.S ⟨W.Hf,W.H,Rr m c W.fps⟩) W.Hf W.H (orS W'.S fp) W'.Hf W'.H)(hb:Gp cI' m c=some cO)
 (H:∀k i b J v,(k,i)∈m->c[i]?=some (some (.ls b J))->σ[i]?=some (some v)->β' k=v) (Q:∀a∈fp,¬ W'.S a) :
 ∃W2:Wo,W2.Hf=W'.Hf/\W2.H=W'.H/\Rep K β W2 cO σ/\Stp W.S W.Hf W.H (orS W2.S fp) W'.Hf W'.H/\∀a∈fp,¬ W2.S a:=by
 obtain⟨hl,hg⟩:=Qu L.n2 hb
 have t:∀k a,a∈W'.fps k->(∃i,(∃l,(l,i)∈m)/\Ho c[i]?=true/\a∈W.fps i)\/W.H a=none:=fun k a h=>by
  rcases st.fr a (.inl ⟨k,h⟩) with ⟨l,q⟩ | q
  ·obtain⟨i,s,x,g⟩:=Gm q
   exact .inl ⟨i,⟨l,s⟩,x,g⟩
  ·exact .inr q
 have d:∀i a,a∈W.fps i->(Ho c[i]?=true->inn m i=none)->¬ Wo.S ⟨W.Hf,W.H,Rr m c W.fps⟩ a:=fun i a h n ⟨k,q⟩=>by
  obtain⟨j,s,x,g⟩:=Gm q
  cases (R.dis i j a h g)
  have:=n x;rw[Su L.n2 s]at this;cases this
 have D:∀i a,a∈Ah6 m c W.fps W'.fps i->(∃k,inn m i=some k/\Ho c[i]?=true/\a∈W'.fps k)\/(a∈W.fps i/\(Ho c[i]?=true->inn m i=none)):=fun i a h=>by
  have h:a∈if Ho c[i]? then (match inn m i with | some k=>W'.fps k | none=>W.fps i) else W.fps i:=h
  by_cases q:Ho c[i]?=true
  ·rw[if_pos q]at h
   cases e:inn m i with
   | none=>rw[e]at h;exact .inr ⟨h,fun _=>rfl⟩
   | some k=>rw[e]at h;exact .inl ⟨k,rfl,q,h⟩
  ·rw[if_neg q]at h;exact .inr ⟨h,fun z=>absurd z q⟩
 have p:∀i k a,a∈W.fps i->(Ho c[i]?=true->inn m i=none)->a∈W'.fps k->False:=fun i k a h n V=>by
  rcases t k a V with ⟨j,⟨l,s⟩,x,g⟩ | q
  ·cases (R.dis i j a h g)
   have:=n x;rw[Su L.n2 s]at this;cases this
  ·obtain⟨_,o,e,_⟩:=R.own i a h
   rw[q]at e;cases e
 refine⟨⟨W'.Hf,W'.H,Ah6 m c W.fps W'.fps⟩,rfl,rfl,⟨I.sub,hl.trans R.len,fun i o e=>?_,fun i j a Z T=>?_,fun i a h=>?_⟩,⟨st.fz,fun a o e n=>st.kp a o e fun⟨k,q⟩=>?_,fun a o e F n q=>st.nf a o e F (fun zz=>?_) q,fun a h=>?_⟩,fun a C ⟨i,h⟩=>?_⟩
 ·rcases hg i with ⟨b,N,k,J,s,x,g,U⟩ | ⟨s,x⟩
  ·rw[U]at e;cases e
   obtain⟨v,M,r,P⟩:=R.get i _ s;obtain⟨X,e1',r',O⟩:=I.get k _ g;have S:=O rfl;rw[H k i b N v (Sg x) s M]at S;subst S
   refine⟨X,M,?_,P⟩
   obtain⟨a,Y,A,E,G⟩:=r'
   refine⟨a,Y,A,?_,G⟩
   show Ah6 m c W.fps W'.fps i=[a]
   unfold Ah6;rw[s,x];exact E
  ·rw[s]at e
   obtain⟨v,M,r,P⟩:=R.get i _ e
   refine⟨v,M,?_,P⟩
   have n:Ho c[i]?=true->inn m i=none:=fun z=>by
    obtain⟨b,J,z⟩:=A7q z;exact x b J z
   have ef:Ah6 m c W.fps W'.fps i=W.fps i:=by
    unfold Ah6
    by_cases q:Ho c[i]?=true
    ·rw[if_pos q,n q]
    ·rw[if_neg q]
   show RepO K W'.Hf W'.H o v (Ah6 m c W.fps W'.fps i)
   rw[ef]
   refine r.mono st.fz fun a C=>?_
   obtain⟨z,u,y,F⟩:=R.own i a C;exact⟨st.nf a u y F (d i a C n) z,(st.kp a u y (d i a C n)).trans y.symm⟩
 ·rcases D i a Z with ⟨k,f,w,B⟩ | ⟨f,w⟩
  ·rcases D j a T with ⟨l,A,E,G⟩ | ⟨A,E⟩
   ·cases I.dis k l a B G
    exact Ak6 L.n1 (Sg f) (Sg A)
   ·exact(p j k a A E B).elim
  ·rcases D j a T with ⟨l,A,E,G⟩ | ⟨A,E⟩
   ·exact(p i l a f w G).elim
   ·exact R.dis i j a f A
 ·rcases D i a h with ⟨k,f,w,B⟩ | ⟨f,w⟩
  ·exact I.own k a B
  ·obtain⟨z,u,y,F⟩:=R.own i a f
   exact⟨st.nf a u y F (d i a f w) z,u,st.kp a u y (d i a f w),F⟩
 ·obtain⟨i,_,_,g⟩:=Gm q
  exact n ⟨i,g⟩
 ·obtain⟨k,q'⟩:=zz
  obtain⟨i,_,_,g⟩:=Gm q';exact n ⟨i,g⟩
 ·rcases h with ⟨i,h⟩ | h
  ·rcases D i a h with ⟨k,f,w,B⟩ | ⟨f,w⟩
   ·rcases t k a B with ⟨j,_,_,q⟩ | q
    ·exact .inl ⟨j,q⟩
    ·exact .inr q
   ·exact .inl ⟨i,f⟩
  ·rcases st.fr a (.inr h) with ⟨k,q⟩ | q
   ·obtain⟨i,_,_,g⟩:=Gm q
    exact .inl ⟨i,g⟩
   ·exact .inr q
 ·rcases D i a h with ⟨k,f,w,B⟩ | ⟨f,w⟩
  ·exact Q a C ⟨k,B⟩
  ·rcases st.fr a (.inr C) with q | q
   ·exact d i a f w q
   ·obtain⟨_,u,y,_⟩:=R.own i a f
    rw[q]at y;cases y
end
inductive SR where
 | nx (c:Ev)
 | rt (p:PV) (c:Ev)
 | bk (c:Ev)
 | ct (c:Ev)
 | bad
def zG (K:PySem.W.Frag)(β:Nat->V)(W:Wo)(D:Ends):SR->Prop
 | .nx c'=>∀σ' W',Stp W.S W.Hf W.H W'.S W'.Hf W'.H->Rep K β W' c' σ'->D.nx σ' W'.H
 | .bk c'=>∀σ' W',Stp W.S W.Hf W.H W'.S W'.Hf W'.H->Rep K β W' c' σ'->D.bk σ' W'.H
 | .ct c'=>∀σ' W',Stp W.S W.Hf W.H W'.S W'.Hf W'.H->Rep K β W' c' σ'->D.ct σ' W'.H
 | .rt p c'=>∀σ' v W' fp,Stp W.S W.Hf W.H (orS W'.S fp) W'.Hf W'.H->Rep K β W' c' σ'->Eh K W' σ' p v fp->D.rt v W'.H
 | .bad=>False
def MS (K:PySem.W.Frag)(T:TS)(f:Ev->SR):Prop:=∀(β:Nat->V) (W:Wo) (c:Ev) (σ:St) (D:Ends),Rep K β W c σ->zG K β W D (f c)->T D σ W.H
def MG (K:PySem.W.Frag)(g:TG)(cg:PV->Ev->R Unit):Prop:=∀(β:Nat->V) (W:Wo) (c:Ev) (σ:St) (p:PV) (v:V) (fp:List Addr) (k:St->Hp->Prop),Rep K β W c σ->Eh K W σ p v fp ->
 (cg p c).sat (fun _ c'=>∀σ' W',Stp (orS W.S fp) W.Hf W.H W'.S W'.Hf W'.H->Rep K β W' c' σ'->k σ' W'.H)->g v σ W.H k
def MGs (K:PySem.W.Frag)(g:TGs)(cg:List PyData->Ev->R Unit):Prop:=∀(β:Nat->V) (W:Wo) (c:Ev) (σ:St) (ds:List PyData) (vs:List V) (k:St->Hp->Prop),Rep K β W c σ->TrL W.Hf ds vs ->
 (cg ds c).sat (fun _ c'=>∀σ' W',Stp W.S W.Hf W.H W'.S W'.Hf W'.H->Rep K β W' c' σ'->k σ' W'.H)->g vs σ W.H k
def R.toS {α:Type}(r:R α)(k:α->Ev->SR):SR:=match r with
 | .ok a c=>k a c
 | .bad=>.bad
section
variable {K:PySem.W.Frag}{β β':Nat->V}{W W':Wo}{c c' cI cI' cO:Ev}{σ σ' σI σI':St}{D:Ends}{Hf H:Hp}{o:O}{v:V}{fp:List Addr}
theorem Fx  {r:R b}{k:b->Ev->SR}(h:zG K β W D (r.toS k)):r.sat fun a c=>zG K β W D (k a c):=by
 cases r with
 | ok a c=>exact h
 | bad=>exact h
theorem zG.step  (h:zG K β W D r) (st:Stp W.S W.Hf W.H W'.S W'.Hf W'.H):zG K β W' D r:=by
 cases r with
 | nx c=>exact fun b d a R=>h _ _ (st.trans a) R
 | bk c=>exact fun b d a R=>h _ _ (st.trans a) R
 | ct c=>exact fun b d a R=>h _ _ (st.trans a) R
 | rt p c=>exact fun b v d e a R r=>h _ v _ _ (st.trans a) R r
 | bad=>exact h
def Bq (f g:Ev->SR):Ev->SR:=fun c=>match f c with
 | .nx c=>g c
 | r=>r
theorem Aw   (h1:MS K t f) (h2:MS K u g):MS K (Ay7 t u) (Bq f g):=by
 intro k W c i D R l
 refine h1 _ W c _ _ R ?_
 unfold Bq at l
 cases e:f c with
 | nx a=>rw[e]at l;exact fun h j d b=>h2 _ _ _ _ D b (zG.step l d)
 | rt p a=>rw[e]at l;exact l
 | bk a=>rw[e]at l;exact l
 | ct a=>rw[e]at l;exact l
 | bad=>rw[e]at l;exact l
def Dt:Ev->SR:=fun c=>.nx c
theorem Cp:MS K A2c Dt:=fun b W c a D R l=>l _ W Stp.refl R
def Gh (f:Ev->R PV):Ev->SR:=fun c=>(f c).toS fun _ c=>.nx c
theorem J5   (h:ME K a f):MS K (Zz a) (Gh f):=fun g W c i D R l =>
 h.toV _ W c _ _ R ((Fx l).mono fun p k e v j d b _=>e _ _ d b)
def Ed (f:Ev->R PV):Ev->SR:=fun c=>(f c).toS fun p c=>.rt p c
theorem Bt   (h:ME K a f):MS K (Bi7 a) (Ed f):=fun i W c n D R l =>
 h _ W c _ _ R ((Fx l).mono fun p m e v j k d g b=>e _ v _ _ d g b)
def cIf (t:Ev->R Bool)(f g:Ev->SR):Ev->SR:=fun c=>(t c).toS fun b c=>if b=true then f c else g c
theorem Fj     (h:MT K d ft) (h1:MS K t f) (h2:MS K u g):MS K (A5e d t u) (cIf ft f g):=fun k W c j D R l =>
 h
  _ W c _ _ R ((Fx l).mono fun b n i m e a=>by
  cases b with
  | true=>exact h1 _ _ _ _ D a (zG.step i e)
  | false=>exact h2 _ _ _ _ D a (zG.step i e))
def cgN (i:Nat):PV->Ev->R Unit:=fun p c=>match p with
 | .o (.ls _ ds)=>.ok () (c.set i (some (.ls false ds)))
 | .o o=>.ok () (c.set i (some o))
 | .sl j=>(frz (.sl j) c).bind fun d c=>.ok () (c.set i (some (.im d)))
theorem Ba1   (h:Wo.S ⟨Hf,H,clr W.fps i⟩ a):W.S a:=by
 obtain⟨j,h⟩:=h;exact⟨j,(Er h).1⟩
theorem Al  : MG K (Js i) (cgN i):=by
 intro w W c x p v u k R r s
 have f:∀{o:O} {g:Wo} {m:Ev},Rep K w g m x->o.own=false->RepN K g.Hf o v->Stp (orS W.S u) W.Hf W.H g.S _ g.H->g.H=W.H->(∀σ' W',Stp _ _ _ W'.S W'.Hf W'.H->Rep K _ W' _ σ'->k σ' W'.H)->k _ W.H:=fun {o g m} h n r l e s=>by
  rw[<- e]
  exact s _ ⟨g.Hf,g.H,clr _ i⟩ (l.less fun a z=>Ba1 z) (h.setN r n)
 cases p with
 | sl j =>
  obtain⟨rfl,e⟩:=r
  obtain⟨d,m,g,e1,A,y,l,h,t⟩:=Ik R (show RepA K _ _ (.sl j) v from e) s.bnd
  exact f h (o:=.im d) rfl t (l.up fun a z=>.inl z) y A
 | o o =>
  cases o with
  | im d=>exact f R rfl r.1.2 (Stp.refl.up fun a z=>.inl z) rfl s
  | sc d=>exact f R rfl r.1.2 (Stp.refl.up fun a z=>.inl z) rfl s
  | ty d=>exact f R rfl r.1.2 (Stp.refl.up fun a z=>.inl z) rfl s
  | ls b ds =>
   refine s _ ⟨W.Hf,W.H,fun j=>if j=i then u else W.fps j⟩ ⟨Same.refl _,fun a o e _=>e,fun a o e _ _ q=>q,fun a z=>?_⟩ (R.setO  r.1 r.2 rfl)
   obtain⟨j,z⟩:=z
   have z:a∈if j=i then u else W.fps j:=z
   split at z
   ·grind
   ·exact .inl (.inl ⟨j,z⟩)
def Eg:List PyData->Ev->R Unit:=fun ds c=>match ds with
 | []=>.ok () c
 | _=>.bad
def Bf (g:PV->Ev->R Unit)(gs:List PyData->Ev->R Unit):List PyData->Ev->R Unit:=fun ds c=>match ds with
 | d::ds=>(g (.o (.im d)) c).bind fun _ c=>gs ds c
 | []=>.bad
theorem Iz:MGs K Aj8 Eg:=fun f W c e a b k R t s=>by
 cases a with
 | nil=>cases (t);exact⟨rfl,s _ W Stp.refl R⟩
 | cons d r=>trivial
theorem Dl     (h1:MG K t g) (h2:MGs K u f):MGs K (Pu t u) (Bf g f):=fun β W c σ x vs k R j s=>by
 cases x with
 | nil=>trivial
 | cons d r =>
  obtain⟨v,l,rfl,m,n⟩:=j
  refine⟨v,l,rfl,h1 _ W c _ (.o (.im d)) v _ _ R ⟨⟨rfl,m⟩,fun a z=>nomatch z⟩ (s.bnd.mono fun _ c1 o i W1 b q=>?_)⟩
  have b:=b.up (S2:=W.S) fun a z=>by
   grind
  exact h2 _ _ _ _ r _ k q (TrL.same b.fz n) (o.mono fun _ c2 p w W2 e h=>p _ _ (b.trans e) h)
def cgT (n:Nat)(gs:List PyData->Ev->R Unit):PV->Ev->R Unit:=fun p c=>match p with
 | .o (.im (.tuple ds))=>if ds.length=n then gs ds c else .bad
 | _=>.bad
theorem Lh    (h:MGs K t d):MG K (Aq5 K n t) (cgT n d):=by
 intro u W c w p v q k R r s
 match p,r,s with
 | .o (.im (.tuple ds)),r,s =>
  obtain⟨⟨b,a,j,b,l,f⟩,_⟩:=r
  have s:(if ds.length=n then d _ c else .bad:U.R _).sat _:=s
  by_cases e:ds.length=n
  ·rw[if_pos e]at s
   refine⟨a,j,b,SqT.of (R.sub _ _ l),by rw[<- f.length];exact e,h _ W c _ _ _ k R f (s.mono fun _ y i m x o g=>i _ _ (o.up fun a z=>.inl z) g)⟩
  ·rw[if_neg e]at s;trivial
 | .o (.im .none),r,s=>trivial
 | .o (.im (.bool _)),r,s=>trivial
 | .o (.im (.int _)),r,s=>trivial
 | .o (.im (.str _)),r,s=>trivial
 | .o (.im (.list _)),r,s=>trivial
 | .o (.im (.dict _)),r,s=>trivial
 | .o (.ls _ _),r,s=>exact s.elim
 | .o (.sc _),r,s=>exact s.elim
 | .o (.ty _),r,s=>exact s.elim
 | .sl _,r,s=>trivial
def Df (f:Ev->R PV)(g:PV->Ev->R Unit):Ev->SR:=fun c=>(f c).toS fun p c=>(g p c).toS fun _ c=>.nx c
theorem Bk     (h:ME K b f) (hg:MG K t g):MS K (Y7 b t) (Df f g):=fun x W c o D R l =>
 h _ W c _ _ R ((Fx l).mono fun p q j v s u k e i=>hg _ _ _ _ p v _ _ e i ((Fx j).mono fun _ r m n w a d=>m _ _ (k.trans a) d))
def Au3 (J:It)(Hf:Hp)(ds:List PyData):Prop:=∀(i:Nat) (Hf' H:Hp),Same Hf Hf'->Same Hf' H->(i=ds.length->J.stop i H) /\
 ∀d,ds[i]?=some d->J.go i H/\∀x H',J.yld i H x H'->∃Hf2,Stp (fun _=>False) Hf' H (fun _=>False) Hf2 H'/\Same Hf2 H'/\Tr Hf2 d x
def MI (K:PySem.W.Frag)(wi:TI)(fi:Ev->R (List PyData)):Prop:=∀(β:Nat->V) (W:Wo) (c:Ev) (σ:St) (k:It->Hp->Prop),Rep K β W c σ ->
 (fi c).sat (fun ds c'=>∀J W',Stp W.S W.Hf W.H W'.S W'.Hf W'.H->Rep K β W' c' σ->Au3 J W'.Hf ds->k J W'.H)->wi σ W.H k
def forL (g:PV->Ev->R Unit)(body:Ev->SR):List PyData->Ev->SR
 | [],c=>.nx c
 | d::ds,c=>match g (.o (.im d)) c with
  | .bad=>.bad
  | .ok _ c=>match body c with
   | .nx c=>forL g body ds c
   | .ct c=>forL g body ds c
   | .bk c=>.nx c
   | .rt p c=>.rt p c
   | .bad=>.bad
def Mv (fi:Ev->R (List PyData))(g:PV->Ev->R Unit)(body:Ev->SR):Ev->SR:=fun c=>(fi c).toS fun ds c=>forL g body ds c
theorem Pz {a:Type}{l:List a}  (h:i<l.length):l.drop i=l[i]::l.drop (i+1):=List.drop_eq_getElem_cons h
theorem J7   {V:TS}    (hi:MI K X fi) (hg:MG K t g) (hb:MS K V body):MS K (A6u X t V) (Mv fi g body):=by
 intro C W c I D R l
 refine hi C W c I _ R ((Fx l).mono fun k c1 l1 J T N R1 it=>?_)
 refine⟨fun i m I H=>∃d y,d.H=H/\Rep K C d y I/\m=k.length-i/\i<=k.length/\Same T.Hf d.Hf/\zG K C d D (forL g body (k.drop i) y),⟨_,T,c1,rfl,R1,rfl,Nat.zero_le _,Same.refl _,zG.step l1 N⟩,?_⟩
 rintro i m I H ⟨d,y,rfl,O,rfl,hle,Y,h⟩
 obtain⟨A,Q⟩:=it i d.Hf d.H Y O.sub
 by_cases lt:i<k.length
 ·obtain⟨q1,q2⟩:=Q k[i] (List.getElem?_eq_getElem lt)
  refine .inr ⟨q1,fun M s=>∃d y,d.H=s/\Rep K C d y M/\Same T.Hf d.Hf/\zG K C d D (forL g body (k.drop (i+1)) y),fun M s ⟨U,Z,e3,R3,s3,l3⟩=>⟨k.length-(i+1),by omega,U,Z,e3,R3,rfl,by omega,s3,l3⟩,fun x s hy=>?_⟩
  obtain⟨n,j,G,tx⟩:=q2 x s hy
  have P:Stp d.S d.Hf d.H (Wo.S ⟨n,s,d.fps⟩) n s:=⟨j.fz,fun a o e _=>j.kp a o e fun z=>z,fun a o e mu _ q=>j.nf a o e mu (fun z=>z) q,fun a z=>.inl z⟩
  rw[Pz lt]at h;unfold forL at h
  refine hg C ⟨n,s,d.fps⟩ y I (.o (.im _)) x _ _ (j.rep O G) ⟨⟨rfl,tx⟩,fun a z=>nomatch z⟩ ?_
  cases eg:g _ _ with
  | bad=>rw[eg]at h;exact h.elim
  | ok u Z =>
   rw[eg]at h;intro σ3 U w S
   have w:=w.up  fun a z=>by
    rcases z with z | z
    ·exact z
    ·cases z
   have f:=P.trans w;have F  := Y.trans f.fz
   refine hb _ _ _ _ _ S ?_
   cases ebd:body _ with
   | nx E=>simp only[ebd]at h;exact fun r L b B=>⟨L,E,rfl,B,F.trans b.fz,zG.step h (f.trans b)⟩
   | ct E=>simp only[ebd]at h;exact fun r L b B=>⟨L,E,rfl,B,F.trans b.fz,zG.step h (f.trans b)⟩
   | bk E=>simp only[ebd]at h;exact fun r L b B=>h _ _ (f.trans b) B
   | rt p E=>simp only[ebd]at h;exact fun r v L fp b B r4=>h _ v _ _ (f.trans b) B r4
   | bad=>simp only[ebd]at h;exact h.elim
 ·have e:i=k.length:=by omega
  subst e;rw[List.drop_length]at h;exact .inl ⟨A rfl,h _ _ Stp.refl O⟩
def Ef (g:PV->Ev->R Unit)(ft:Ev->R Bool)(fe:Ev->R PV):List PyData->List PyData->Ev->R (List PyData)
 | [],acc,c=>.ok acc c
 | d::ds,acc,c=>(g (.o (.im d)) c).bind fun _ c=>(ft c).bind fun b c=>if b=true then (fe c).bind fun p c=>(frz (nrm p) c).bind fun y c=>Ef g ft fe ds (acc++[y]) c else Ef g ft fe ds acc c
def cIn (idx:List (Option Nat))(c:Ev):Ev:=idx.map fun o=>o.bind fun i=>((c[i]?).join).map (O.flag true)
def pairsOf:Nat->List (Option Nat)->List (Nat×Nat)
 | _,[]=>[]
 | k,none::r=>pairsOf (k+1) r
 | k,some i::r=>(k,i)::pairsOf (k+1) r
def cLC (idx:List (Option Nat))(fi:Ev->R (List PyData))(g:PV->Ev->R Unit)(ft:Ev->R Bool)(fe:Ev->R PV):Ev->R PV:=fun c=>(fi c).bind fun ds c =>
 if ds.length<=16000000 then match Ef g ft fe ds [] (cIn idx c) with
 | .bad=>.bad
 | .ok acc cI=>match Gp cI (pairsOf 0 idx) c with
  | none=>.bad
  | some c=>.ok (.o (.ls false acc)) c
 else .bad
theorem A1o  (h:l+1<=k):k-(l+1)+1=k-l:=by omega
theorem Fo {k i:Nat}:∀{l:Nat}{idx:List (Option Nat)},(k,i)∈pairsOf l idx->l<=k/\idx[k-l]?=some (some i)
 | l,[],h=>by cases h
 | l,none::r,h=>by
  obtain⟨q1,q2⟩:=Fo (l:=l+1) (idx:=r) h
  refine⟨Nat.le_of_succ_le q1,?_⟩
  rw[show k-l=(k-(l+1))+1 from (A1o q1).symm,List.getElem?_cons_succ];exact q2
 | l,some j::r,h=>by
  rcases List.mem_cons.mp (show (k,i)∈(l,j)::pairsOf (l+1) r from h) with e | e
  ·cases e;exact⟨Nat.le_refl _,by rw[Nat.sub_self];rfl⟩
  ·obtain⟨q1,q2⟩:=Fo (l:=l+1) (idx:=r) e
   refine⟨Nat.le_of_succ_le q1,?_⟩
   rw[show k-l=(k-(l+1))+1 from (A1o q1).symm,List.getElem?_cons_succ];exact q2
theorem Ma {k i:Nat}:∀{l:Nat}{idx:List (Option Nat)},idx[k]?=some (some i)->(k+l,i)∈pairsOf l idx
 | l,[],h=>by simp at h
 | l,none::r,h=>by
  cases k with
  | zero=>simp at h
  | succ k =>
   rw[List.getElem?_cons_succ]at h;have:=Ma (l:=l+1) (idx:=r) h
   rw[show k+1+l=k+(l+1) by omega];exact this
 | l,some j::r,h=>by
  cases k with
  | zero=>simp at h;subst h;rw[Nat.zero_add];exact .head _
  | succ k =>
   rw[List.getElem?_cons_succ]at h;have:=Ma (l:=l+1) (idx:=r) h
   rw[show k+1+l=k+(l+1) by omega];exact .tail _ this
theorem Oj:∀{l:Nat}{idx:List (Option Nat)},((pairsOf l idx).map (·.1)).Nodup
 | l,[]=>List.nodup_nil
 | l,none::r=>Oj (l:=l+1) (idx:=r)
 | l,some j::r=>by
  show (l::(pairsOf (l+1) r).map (·.1)).Nodup
  rw[List.nodup_cons]
  refine⟨fun h=>?_,Oj⟩
  obtain⟨⟨k,i⟩,h1,h2⟩:=List.mem_map.mp h;have:=(Fo h1).1;have h2:k=l:=h2;omega
theorem Bq4   (h:x.join=some o):x=some (some o):=by
 cases x with
 | none=>grind
 | some y=>simp_all
theorem A6z   {k:Nat}  (h:(cIn idx c)[k]?=some (some o)):∃i a,idx[k]?=some (some i)/\c[i]?=some (some a)/\o=a.flag true:=by
 unfold cIn at h;rw[List.getElem?_map]at h;obtain⟨x,e,b⟩:=Option.map_eq_some_iff.mp h
 cases x with
 | none=>grind
 | some i =>
  obtain⟨a,f,d⟩:=Option.map_eq_some_iff.mp b
  grind
theorem Ao0   {k i:Nat}  (h1:idx[k]?=some (some i)) (h2:a[i]?=some (some v)):(cst idx a)[k]?=some (some v):=by
 unfold cst
 grind
theorem A6v {idx:List (Option Nat)}(R:Rep K β W c σ)(hnd:((pairsOf 0 idx).map (·.2)).Nodup):Lent K W.Hf (pairsOf 0 idx) c σ (fun k=>(((cst idx σ)[k]?).join).getD .non) (cIn idx c) (cst idx σ) where
 n1:=Oj
 n2:=hnd
 len:=by unfold cIn cst;rw[List.length_map,List.length_map]
 at_:=fun k o h=>by
  obtain⟨i,o',h1,h2,rfl⟩:=A6z h;obtain⟨v,e,r,_⟩:=R.get i o' h2;have hs:=Ao0 h1 e
  have one:∀j,(k,j)∈pairsOf 0 idx->j=i:=fun j hj=>by
   have:=(Fo hj).2;rw[Nat.sub_zero,h1]at this;cases this;rfl
  have nol:Ho c[i]?=false->∀j,(k,j)∈pairsOf 0 idx->Ho c[j]?=false:=fun q j hj=>by rw[one j hj];exact q
  cases o' with
  | im d=>exact .inl ⟨rfl,nol (by rw[h2];rfl),v,hs,r.2⟩
  | sc d=>exact .inl ⟨rfl,nol (by rw[h2];rfl),v,hs,r.2⟩
  | ty d=>exact .inl ⟨rfl,nol (by rw[h2];rfl),v,hs,r.2⟩
  | ls b ds=>exact .inr ⟨i,b,ds,v,Ma (l:=0) h1,h2,rfl,e,hs,by rw[hs];rfl⟩
theorem A7m             (hnd:((pairsOf 0 idx).map (·.2)).Nodup) (hg:MG K t g) (ht:MT K tc ft) (he:ME K te fe)
 (st1:Stp W.S W.Hf W.H W1.S W1.Hf W1.H) (R1:Rep K β W1 c1 σ)
 (it:∀(i:Nat) (h:Wo),Stp (Wo.S ⟨W1.Hf,W1.H,Rr (pairsOf 0 idx) c1 W1.fps⟩) W1.Hf W1.H h.S h.Hf h.H->Same h.Hf h.H->(i=ds.length->J.stop i h.H) /\
  ∀d,ds[i]?=some d->J.go i h.H/\∀x E,J.yld i h.H x E->∃s,Stp (fun _=>False) h.Hf h.H (fun _=>False) s E/\Same s E/\Tr s d x)
 (s1:(if ds.length<=16000000 then match Ef g ft fe ds [] (cIn idx c1) with
  | .bad=>.bad
  | .ok f I=>match Gp I (pairsOf 0 idx) c1 with
   | none=>.bad
   | some c=>.ok (.o (.ls false f)) c
  else .bad:R PV).sat fun p c'=>∀v j w,Stp W.S W.Hf W.H (orS j.S w) j.Hf j.H->Rep K β j c' σ->Eh K j σ p v w->Q v j.H):tLC idx (fun _ H k=>k J H) t tc te σ W1.H Q:=by
 unfold tLC
 dsimp only
 by_cases hl:ds.length<=16000000
 ·rw[if_pos hl]at s1
  have L:=A6v (idx:=idx) R1 hnd
  let C:Nat->V:=fun k=>(((cst idx σ)[k]?).join).getD .non
  let F:Wo:=⟨W1.Hf,W1.H,Rr (pairsOf 0 idx) c1 W1.fps⟩
  let B:U.R (List PyData)->Prop:=fun r=>match r with
   | .bad=>False
   | .ok f I=>match Gp I (pairsOf 0 idx) c1 with
    | none=>False
    | some c=>∀v j w,Stp W.S W.Hf W.H (orS j.S w) j.Hf j.H->Rep K β j c σ->Eh K j σ (.o (.ls false f)) v w->Q v j.H
  have s2:B (Ef g ft fe ds [] (cIn idx c1)):=by
   show match Ef g ft fe ds [] (cIn idx c1) with
    | .bad=>False
    | .ok f I=>match Gp I (pairsOf 0 idx) c1 with
     | none=>False
     | some c=>∀v j w,Stp W.S W.Hf W.H (orS j.S w) j.Hf j.H->Rep K β j c σ->Eh K j σ (.o (.ls false f)) v w->Q v j.H
   cases e1:Ef g ft fe ds [] (cIn idx c1) with
   | bad=>rw[e1]at s1;exact s1.elim
   | ok f I =>
    simp only[e1]at s1
    show match Gp I (pairsOf 0 idx) c1 with
     | none=>False
     | some c=>∀v j w,Stp W.S W.Hf W.H (orS j.S w) j.Hf j.H->Rep K β j c σ->Eh K j σ (.o (.ls false f)) v w->Q v j.H
    cases e2:Gp I (pairsOf 0 idx) c1 with
    | none=>simp only[e2]at s1;exact s1.elim
    | some D=>simp only[e2]at s1;exact s1
  refine⟨fun i m A S H=>∃h D f,h.H=H/\Rep K C h D A/\m=ds.length-i/\i<=ds.length/\S.length<=i/\Stp F.S F.Hf F.H h.S h.Hf h.H/\TrL h.Hf f S/\B (Ef g ft fe (ds.drop i) f D),
   ⟨_,F,cIn idx c1,[],rfl,(L.rep R1),rfl,Nat.zero_le _,Nat.le_refl _,Stp.refl,rfl,s2⟩,?_⟩
  rintro i m A S H ⟨h,D,f,rfl,R2,rfl,hle,hvs,N,ta,l⟩
  obtain⟨P,hgo⟩:=it i h N R2.sub
  by_cases lt:i<ds.length
  ·obtain⟨q1,q2⟩:=hgo ds[i] (List.getElem?_eq_getElem lt)
   refine .inr ⟨q1,Nat.lt_of_lt_of_le (Nat.lt_of_le_of_lt hvs (Nat.lt_of_lt_of_le lt hl)) (by decide),fun A S E=>∃h D f,h.H=E/\Rep K C h D A/\S.length<=i+1/\Stp F.S F.Hf F.H h.S h.Hf h.H/\TrL h.Hf f S/\B (Ef g ft fe (ds.drop (i+1)) f D),
    fun A acc' E ⟨O,X,Y,e3,R3,h3,n,t3,f3⟩=>⟨ds.length-(i+1),by omega,O,X,Y,e3,R3,rfl,by omega,h3,n,t3,f3⟩,fun x E hy=>?_⟩
   obtain⟨s,n,sub3,tx⟩:=q2 x E hy
   have stx:Stp h.S h.Hf h.H (Wo.S ⟨s,E,h.fps⟩) s E:=⟨n.fz,fun a o e _=>n.kp a o e fun z=>z,fun a o e mu _ q=>n.nf a o e mu (fun z=>z) q,fun a z=>.inl z⟩
   rw[Pz lt]at l;unfold Ef at l
   refine hg C ⟨s,E,h.fps⟩ D A (.o (.im ds[i])) x [] _ (n.rep R2 sub3) ⟨⟨rfl,tx⟩,fun a z=>nomatch z⟩ ?_
   cases eg:g (.o (.im ds[i])) D with
   | bad=>rw[eg]at l;exact l.elim
   | ok u X =>
    rw[eg]at l
    have l:B ((ft X).bind fun b c=>if b=true then (fe c).bind fun p c=>(frz (nrm p) c).bind fun y c=>Ef g ft fe (ds.drop (i+1)) (f++[y]) c else Ef g ft fe (ds.drop (i+1)) f c):=l
    intro σ3 O G R4
    have G:=G.up (S2:=h.S) fun a z=>by
     rcases z with z | z
     ·exact z
     ·cases z
    refine ht C O X σ3 _ R4 ?_
    cases et:ft X with
    | bad=>rw[et]at l;exact l.elim
    | ok b c4 =>
     rw[et]at l;intro T st5 R5;have M:Stp F.S F.Hf F.H T.S T.Hf T.H:=N.trans (stx.trans (G.trans st5));have Z:TrL T.Hf f S:=TrL.same (stx.trans (G.trans st5)).fz ta
     cases b with
     | false=>rw[if_neg (by decide)];exact⟨T,c4,f,rfl,R5,by omega,M,Z,l⟩
     | true =>
      rw[if_pos rfl]
      have l:B ((fe c4).bind fun p c=>(frz (nrm p) c).bind fun y c=>Ef g ft fe (ds.drop (i+1)) (f++[y]) c):=l
      refine he.toV C T c4 σ3 _ R5 ?_
      cases ee:fe c4 with
      | bad=>rw[ee]at l;exact l.elim
      | ok p c5 =>
       rw[ee]at l
       have l:B ((frz (nrm p) c5).bind fun y c=>Ef g ft fe (ds.drop (i+1)) (f++[y]) c):=l
       intro y W5 st6 R6 r6
       have fz:(frz (nrm p) c5).sat fun _ _=>True:=by
        cases ef:frz (nrm p) c5 with
        | bad=>rw[ef]at l;exact l.elim
        | ok d c=>trivial
       obtain⟨d,c6,W6,e6,_,eH,st7,R7,t7⟩:=Ik R6 r6 fz;rw[e6]at l
       refine⟨W6,c6,f++[d],eH,R7,by rw[List.length_append,List.length_singleton];omega,M.trans (st6.trans st7),(TrL.same (st6.trans st7).fz Z).app (TrL.one t7),l⟩
  ·have e:i=ds.length:=by omega
   subst e;rw[List.drop_length]at l
   refine .inl ⟨P rfl,fun p hp=>?_⟩
   have l:match Gp D (pairsOf 0 idx) c1 with
    | none=>False
    | some c=>∀v j w,Stp W.S W.Hf W.H (orS _ _) _ _->Rep K _ j c _->Eh K _ _ _ v _->Q v _:=l
   cases eb:Gp D (pairsOf 0 idx) c1 with
   | none=>simp only[eb]at l
   | some cO =>
    simp only[eb]at l
    obtain⟨O,e1,e2,R3,n,_⟩:=L.back (fp:=[]) R1 R2 (N.less fun a z=>by
     rcases z with z | z
     ·exact z
     ·cases z) eb (fun k i b ds v hm _ hv=>by
      have:=(Fo hm).2;rw[Nat.sub_zero]at this
      rw[Ao0 this hv];rfl) fun a z=>nomatch z
    have n:Stp W1.S W1.Hf W1.H O.S O.Hf O.H:=by
     rw[e1,e2];exact n.less fun a z=>.inl z
    rw[<- e2]at hp ⊢
    exact New.lst (New.of R3 fun v j w st R' rp=>l v _ _ (st1.trans (n.trans st)) R' rp) R3.sub (by rw[e1];exact ta) hp
 ·rw[if_neg hl]at s1;exact s1.elim
theorem Ku          (d:((pairsOf 0 idx).map (·.2)).Nodup) (hi:MI K f fi) (hg:MG K t g) (ht:MT K h ft) (he:ME K j fe) :
 ME K (tLC idx f t h j) (cLC idx fi g ft fe):=by
 intro n W c o Q R s
 refine hi _ W c _ _ R (s.bnd.mono fun q p l J u a k m=>?_)
 exact A7m d hg ht he a k (fun i r e b=>m i _ _ e.fz b) l
end
inductive FR where
 | ret (o:O) (as:List O)
 | bad
def resolve (p:PV)(c:Ev):Option (O×Ev):=match p with
 | .o (.ls _ ds)=>some (.ls false ds,c)
 | .o o=>some (o,c)
 | .sl i=>match c[i]? with
  | some (some (.ls false ds))=>some (.ls false ds,c.set i none)
  | some (some (.im d))=>some (.im d,c)
  | _=>none
def Hh:List O->Ev->Option (List O)
 | [],_=>some []
 | .ls true _::r,some (.ls true ds)::c=>(Hh r c).map (.ls true ds::·)
 | .ls _ _::_,_=>none
 | o::r,_::c=>(Hh r c).map (o::·)
 | _::_,[]=>none
def Au1 (as:List O)(p:PV)(c:Ev):FR:=match resolve p c with
 | none=>.bad
 | some (o,c)=>match Hh as c with
  | none=>.bad
  | some as'=>.ret o as'
def G5 (n N:Nat)(body:Ev->SR):List O->FR:=fun as=>if as.length=n then match body (as.map some++List.replicate (N-n) none) with
 | .nx c=>Au1 as (.o (.im .none)) c
 | .rt p c=>Au1 as p c
 | _=>.bad
 else .bad
def spP (K:PySem.W.Frag)(F:List O->FR):Sp:=fun vs H Q _=>∃(β:Nat->V) (W:Wo) (as:List O),W.H=H/\as.length=vs.length/\Rep K β W (as.map some) (vs.map some)/\match F as with
 | .bad=>False
 | .ret o as'=>∀v W' fp,Stp W.S W.Hf W.H (orS W'.S fp) W'.Hf W'.H->Rep K β W' (as'.map some) (vs.map some)->RepO K W'.Hf W'.H o v fp->(∀a∈fp,¬ W'.S a)->Q v W'.H
section
variable {K:PySem.W.Frag}{β β':Nat->V}{W W':Wo}{c c' cI cI' cO:Ev}{σ σ' σI σI':St}{D:Ends}{Hf H:Hp}{o:O}{v:V}{fp:List Addr}
theorem Pn:∀{as:List O}{c:Ev}{as':List O},Hh as c=some as'->as'.length=as.length/\∀(i:Nat) (o':O),as'[i]?=some o'->(o'.own=false/\as[i]?=some o')\/(∃ds ds',o'=.ls true ds'/\as[i]?=some (.ls true ds)/\c[i]?=some (some (.ls true ds')))
 | [],c,as',e=>by cases (show some []=some as' from e);exact⟨rfl,fun i o' h=>by simp at h⟩
 | o::r,[],as',e=>by
  cases o with
  | ls b ds=>cases b <;> cases e
  | im d=>cases e
  | sc d=>cases e
  | ty d=>cases e
 | o::r,x::c,as',e=>by
  have go:∀o1:O,(Hh r c).map (o1::·)=some as'->((o1.own=false/\o1=o)\/(∃ds ds',o1=.ls true ds'/\o=.ls true ds/\x=some (.ls true ds'))) ->
   as'.length=(o::r).length/\∀(i:Nat) (o':O),as'[i]?=some o'->(o'.own=false/\(o::r)[i]?=some o')\/(∃ds ds',o'=.ls true ds'/\(o::r)[i]?=some (.ls true ds)/\(x::c)[i]?=some (some (.ls true ds'))):=fun o1 e1 h1=>by
   obtain⟨t,e2,rfl⟩:=Option.map_eq_some_iff.mp e1;obtain⟨l,g⟩:=Pn e2
   refine⟨by rw[List.length_cons,List.length_cons,l],fun i o' h=>?_⟩
   cases i with
   | zero =>
    cases (show some o1=some o' from h)
    rcases h1 with ⟨z1,z2⟩ | ⟨ds,ds',z1,z2,z3⟩
    ·exact .inl ⟨z1,by rw[z2];rfl⟩
    ·exact .inr ⟨ds,ds',z1,by rw[z2];rfl,by rw[z3];rfl⟩
   | succ i=>exact g i o' (by simpa using h)
  cases o with
  | ls b ds =>
   cases b with
   | false=>cases e
   | true =>
    match x,e with
    | some (.ls true ds'),e=>exact go (.ls true ds') e (.inr ⟨ds,ds',rfl,rfl,rfl⟩)
    | some (.ls false ds'),e=>cases e
    | some (.im _),e=>cases e
    | some (.sc _),e=>cases e
    | some (.ty _),e=>cases e
    | none,e=>cases e
  | im d=>exact go (.im d) e (.inl ⟨rfl,rfl⟩)
  | sc d=>exact go (.sc d) e (.inl ⟨rfl,rfl⟩)
  | ty d=>exact go (.ty d) e (.inl ⟨rfl,rfl⟩)
theorem Ul   (R:Rep K β W c σ) (r:Eh K W σ p v fp) (e:resolve p c=some (o,c')) :
 ∃W2 fp2,W2.Hf=W.Hf/\W2.H=W.H/\Rep K β W2 c' σ/\RepO K W2.Hf W2.H o v fp2/\(∀a∈fp2,¬ W2.S a)/\∀a,orS W2.S fp2 a->orS W.S fp a:=by
 cases p with
 | o f =>
  have g:o=f.flag false/\c'=c:=by
   cases f with
   | ls b h=>cases e;exact⟨rfl,rfl⟩
   | im d=>cases e;exact⟨rfl,rfl⟩
   | sc d=>cases e;exact⟨rfl,rfl⟩
   | ty d=>cases e;exact⟨rfl,rfl⟩
  obtain⟨rfl,rfl⟩:=g
  refine⟨W,fp,rfl,rfl,R,?_,r.2,fun a z=>z⟩
  cases f with
  | ls b h=>exact r.1
  | im d=>exact r.1
  | sc d=>exact r.1
  | ty d=>exact r.1
 | sl i =>
  obtain⟨rfl,n⟩:=r;unfold resolve at e
  cases ec:c[i]? with
  | none=>simp_all
  | some x =>
   cases x with
   | none=>grind
   | some f =>
    obtain⟨v',g,k,_⟩:=R.get i _ ec
    cases (show some _=some _ from g.symm.trans n)
    cases f with
    | sc d=>simp_all
    | ty d=>simp_all
    | im d =>
     simp only[ec]at e
     cases e
     exact⟨W,[],rfl,rfl,R,⟨rfl,k.2⟩,(fun a z=>by cases z),fun a z=>z⟩
    | ls b h =>
     cases b with
     | true=>simp_all
     | false =>
      simp only[ec]at e
      cases e
      refine⟨⟨W.Hf,W.H,clr _ i⟩,W.fps i,rfl,rfl,R.drop i,k,fun a q ⟨j,m⟩=>?_,fun a z=>?_⟩
      ·obtain⟨s,l⟩:=Er m
       exact l (R.dis j i a s q)
      ·rcases z with z | z
       ·exact .inl (Ba1 z)
       ·exact .inl ⟨i,z⟩
theorem Ij {b a:Type}{l:List b}{f:b->a}{i:Nat}{y:a}(h:(l.map f)[i]?=some y):∃x,l[i]?=some x/\f x=y:=by
 grind
theorem A4c  {vs:List V}  (t:Rep K β z (p.map some) (vs.map some)) (R:Rep K β W c σ) (S:Same z.Hf W.Hf) (e:Hh p c=some k) :
 ∃W2:Wo,W2.Hf=W.Hf/\W2.H=W.H/\Rep K β W2 (k.map some) (vs.map some)/\∀a,W2.S a->W.S a:=by
 obtain⟨E,G⟩:=Pn e
 let f:Nat->List Addr:=fun i=>if Ho ((k.map some)[i]?) then W.fps i else []
 have g:∀i a,a∈f i->a∈W.fps i:=fun i a h=>by
  grind
 have m:p.length=vs.length:=by have:=t.len;rwa [List.length_map,List.length_map]at this
 refine⟨⟨W.Hf,W.H,f⟩,rfl,rfl,⟨R.sub,by rw[List.length_map,List.length_map,E,m],fun i o h=>?_,fun i j a u w=>R.dis i j a (g i a u) (g j a w),fun i a h=>R.own i a (g i a h)⟩,fun a ⟨i,h⟩=>⟨i,g i a h⟩⟩
 obtain⟨o',u,w⟩:=Ij h
 cases w
 rcases G i o u with ⟨n,q⟩ | ⟨A,C,rfl,J,D⟩
 ·obtain⟨v,s,r,_⟩:=t.get i o (by rw[List.getElem?_map,q];rfl)
  have x:f i=[]:=by
   show (if Ho _ then W.fps i else [])=[]
   rw[h]
   cases o with
   | ls b A=>exact nomatch n
   | im d=>rfl
   | sc d=>rfl
   | ty d=>rfl
  refine⟨v,s,?_,?_⟩
  ·show RepO K W.Hf W.H o v (f i)
   rw[x]
   cases o with
   | ls b A=>exact nomatch n
   | im d=>exact⟨rfl,RepN.same S r.2⟩
   | sc d=>exact⟨rfl,RepN.same S r.2⟩
   | ty d=>exact⟨rfl,RepN.same S r.2⟩
  grind
 ·obtain⟨v,s,r,B⟩:=t.get i _ (by rw[List.getElem?_map,J];rfl)
  obtain⟨H,F,I,y⟩:=R.get i _ D;have l:=y rfl;rw[<- (B rfl)]at l;subst l
  refine⟨H,s,?_,B⟩
  have x:f i=W.fps i:=by
   show (if Ho _ then W.fps i else [])=_
   rw[h];rfl
  show RepO K _ _ _ _ (f i)
  rw[x];exact I
theorem Em        (h:MS K T body) (hs:spP K (G5 n N.length body) vs H Q E):T { nx:=fun _ H'=>Q .non H',rt:=Q } (start N vs) H:=by
 obtain⟨u,W,j,rfl,B,m,b⟩:=hs;unfold G5 at b
 by_cases hn:j.length=n
 ·rw[if_pos hn]at b
  let D:Ev:=j.map some++List.replicate (N.length-n) none
  have R:Rep K u W D (start N vs):=by
   refine⟨m.sub,?_,fun i o e=>?_,m.dis,m.own⟩
   ·show (j.map some++List.replicate (N.length-n) none).length=(vs.map some++List.replicate (N.length-vs.length) none).length
    rw[List.length_append,List.length_append,List.length_map,List.length_map,List.length_replicate,List.length_replicate,<- B,hn]
   ·have e:(j.map some++List.replicate (N.length-n) none)[i]?=some (some o):=e
    by_cases li:i<j.length
    ·rw[List.getElem?_append_left (by rw[List.length_map];exact li)]at e
     obtain⟨v,w,r⟩:=m.get i o e
     refine⟨v,?_,r⟩
     show (vs.map some++List.replicate (N.length-vs.length) none)[i]?=_
     rw[List.getElem?_append_left (by rw[List.length_map,<- B];exact li)];exact w
    ·rw[List.getElem?_append_right (by rw[List.length_map];exact Nat.le_of_not_lt li),List.getElem?_replicate]at e
     split at e <;> cases e
  refine h u W D (start N vs) _ R ?_
  have l:∀p f c v d g,(match Au1 j p f with
   | .bad=>False
   | .ret o t=>∀v W' g,Stp W.S W.Hf W.H (orS W'.S g) W'.Hf W'.H->Rep K u W' (t.map some) (vs.map some)->RepO K W'.Hf W'.H o v g->(∀a∈g,¬ W'.S a)->Q v W'.H) ->
   Stp W.S W.Hf W.H (orS d.S g) d.Hf d.H->Rep K u d f c->Eh K d c p v g->Q v d.H:=fun p f c v d g b k s x=>by
   unfold Au1 at b
   cases er:resolve p f with
   | none=>simp only[er]at b
   | some q =>
    obtain⟨o,U⟩:=q;simp only[er]at b
    cases ea:Hh j U with
    | none=>simp only[ea]at b
    | some t =>
     simp only[ea]at b;obtain⟨W2,S,w,C,I,J,L,M⟩:=Ul s x er
     obtain⟨O,A,y,P,F⟩:=A4c m I (by rw[w];exact k.fz) ea
     rw[show d.H=O.H by rw[y,C]]
     refine b v _ _ ?_ P (by rw[A,y];exact J) fun a G z=>L a G (F a z)
     rw[A,y,w,C]
     exact k.less fun a z=>M a (by
      rcases z with z | z
      ·exact .inl (F a z)
      ·exact .inr z)
  cases eb:body _ with
  | nx f =>
   rw[show body _=.nx _ from eb]at b
   exact fun c d k s=>l _ _ _ _ _ _ b (k.less fun a z=>by
    rcases z with z | z
    ·exact z
    ·cases z) s ⟨⟨rfl,rfl⟩,fun a z=>nomatch z⟩
  | rt p f =>
   rw[show body _=.rt p _ from eb]at b
   exact fun c v d g k s x=>l p _ _ v _ _ b k s x
  | bk f=>rw[show body _=.bk _ from eb]at b;exact b.elim
  | ct f=>rw[show body _=.ct _ from eb]at b;exact b.elim
  | bad=>rw[show body _=.bad from eb]at b;exact b.elim
 ·rw[if_neg hn]at b;exact b.elim
theorem Fd       (hs:spP K (G5 n N body) vs H Q E):vs.length=n:=by
 obtain⟨d,W,c,b,e,f,a⟩:=hs;unfold G5 at a
 grind
def Ac0 (c:Ev):List PV->Option (List O)
 | []=>some []
 | .o o::r=>(Ac0 c r).map (o::·)
 | .sl i::r=>match c[i]? with
  | some (some o)=>(Ac0 c r).map (o.flag true::·)
  | _=>none
def slots:List PV->List (Option Nat)
 | []=>[]
 | .o _::r=>none::slots r
 | .sl i::r=>some i::slots r
def ndB:List Nat->Bool
 | []=>true
 | x::r=>!r.contains x&&ndB r
theorem A1m:∀{l:List Nat},ndB l=true->l.Nodup
 | [],_=>List.nodup_nil
 | x::r,h=>by
  obtain⟨h1,h2⟩:=Bool.and_eq_true_iff.mp (show (!r.contains x&&ndB r)=true from h)
  rw[List.nodup_cons]
  exact⟨fun z=>by simp[z]at h1,A1m h2⟩
def Ti (F:List O->FR)(ps:List PV)(c:Ev):R PV:=match Ac0 c ps with
 | none=>.bad
 | some as=>if ndB ((pairsOf 0 (slots ps)).map (·.2))=true then match F as with
  | .bad=>.bad
  | .ret o as'=>match Gp (as'.map some) (pairsOf 0 (slots ps)) c with
   | none=>.bad
   | some c=>.ok (.o o) c
  else .bad
def cF (F:List O->FR)(fa:Ev->R (List PV)):Ev->R PV:=fun c=>(fa c).bind fun ps c=>Ti F ps c
theorem Uy {Hf:Hp}:∀{ps:List PV}{vs:List V}{as:List O},Ac0 c ps=some as->zH K Hf σ ps vs->as.length=vs.length/\∀(k:Nat) (o:O),as[k]?=some o->∃v,vs[k]?=some v /\
 ((RepN K Hf o v/\(slots ps)[k]?=some none)\/∃i o',(slots ps)[k]?=some (some i)/\c[i]?=some (some o')/\o=o'.flag true/\σ[i]?=some (some v))
 | [],vs,as,e,h=>by cases (show some []=some as from e);cases (show vs=[] from h);exact⟨rfl,fun k o h=>by simp at h⟩
 | .o o1::r,_,as,e,⟨v,vr,rfl,h,t⟩=>by
  obtain⟨l,e2,rfl⟩:=Option.map_eq_some_iff.mp (show (Ac0 c r).map (o1::·)=some as from e)
  obtain⟨hl,hg⟩:=Uy e2 t
  refine⟨by rw[List.length_cons,List.length_cons,hl],fun k o hk=>?_⟩
  cases k with
  | zero=>cases (show some o1=some o from hk);exact⟨v,rfl,.inl ⟨h,rfl⟩⟩
  | succ k=>exact hg k o (by simpa using hk)
 | .sl i::r,_,as,e,⟨v,vr,rfl,h,t⟩=>by
  unfold Ac0 at e
  cases ec:c[i]? with
  | none=>simp only[ec]at e;cases e
  | some x =>
   cases x with
   | none=>simp only[ec]at e;cases e
   | some o1 =>
    simp only[ec]at e;obtain⟨l,e2,rfl⟩:=Option.map_eq_some_iff.mp e;obtain⟨hl,hg⟩:=Uy e2 t
    refine⟨by rw[List.length_cons,List.length_cons,hl],fun k o hk=>?_⟩
    cases k with
    | zero=>cases (show some (o1.flag true)=some o from hk);exact⟨v,rfl,.inr ⟨i,o1,rfl,ec,rfl,h⟩⟩
    | succ k=>exact hg k o (by simpa using hk)
theorem P0 {Hf:Hp}:∀{ps:List PV}{vs:List V}{k i:Nat}{v:V},zH K Hf σ ps vs->(slots ps)[k]?=some (some i)->σ[i]?=some (some v)->vs[k]?=some v
 | [],vs,k,i,v,h,e,q=>by simp[slots]at e
 | .o _::r,_,k,i,v,⟨v1,vr,rfl,h,t⟩,e,q=>by
  cases k with
  | zero=>simp[slots]at e
  | succ k=>have:=P0 (k:=k) t (by simpa[slots] using e) q;simpa using this
 | .sl j::r,_,k,i,v,⟨v1,vr,rfl,h,t⟩,e,q=>by
  cases k with
  | zero =>
   have:j=i:=by simpa[slots] using e
   subst this
   cases (show some (some v1)=some (some v) from (show σ[j]?=some (some v1) from h).symm.trans q)
   rfl
  | succ k=>have:=P0 (k:=k) t (by simpa[slots] using e) q;simpa using this
theorem Ag2        (g:Rep K β W1 c1 σ) (R:zH K W1.Hf σ ps vs)
 (s1:(Ti F ps c1).sat fun p c'=>∀v e y,Stp W1.S W1.Hf W1.H (orS e.S y) e.Hf e.H->Rep K β e c' σ->Eh K e σ p v y->(∀j a,a∈W1.fps j->some j∉slots ps->e.H a=W1.H a)->Q v e.H):spP K F (vs++[]) W1.H Q E:=by
 unfold Ti at s1
 cases ea:Ac0 c1 ps with
 | none=>simp only[ea]at s1;exact s1.elim
 | some M =>
  simp only[ea]at s1
  by_cases nd:ndB ((pairsOf 0 (slots ps)).map (·.2))=true
  ·rw[if_pos nd]at s1
   obtain⟨P,hg⟩:=Uy ea R
   let m:=pairsOf 0 (slots ps)
   let l:Nat->V:=fun k=>(vs[k]?).getD .non
   have L:Lent K W1.Hf m c1 σ l (M.map some) (vs.map some):=by
    refine⟨Oj,A1m nd,by rw[List.length_map,List.length_map];exact P,fun k o B=>?_⟩
    obtain⟨o1,T,h2⟩:=Ij B
    cases h2
    obtain⟨v,u,q⟩:=hg k o T
    have c:(vs.map some)[k]?=some (some v):=by rw[List.getElem?_map,u];rfl
    rcases q with ⟨I,t⟩ | ⟨i,H,t,n,rfl,G⟩
    ·refine .inl ⟨?_,fun i Z=>?_,v,c,I⟩
     ·cases o with
      | ls b D=>exact I.elim
      | im d=>rfl
      | sc d=>rfl
      | ty d=>rfl
     ·have:=(Fo Z).2
      rw[Nat.sub_zero,t]at this;cases this
    ·have f:Ho c1[i]?=false->∀j,(k,j)∈m->Ho c1[j]?=false:=fun q j z=>by
      have:=(Fo z).2;rw[Nat.sub_zero,t]at this;cases this;exact q
     obtain⟨v',w,r,_⟩:=g.get i H n
     cases (show some _=some _ from w.symm.trans G)
     cases H with
     | im d=>exact .inl ⟨rfl,f (by rw[n];rfl),v,c,r.2⟩
     | sc d=>exact .inl ⟨rfl,f (by rw[n];rfl),v,c,r.2⟩
     | ty d=>exact .inl ⟨rfl,f (by rw[n];rfl),v,c,r.2⟩
     | ls b D=>exact .inr ⟨i,b,D,v,Ma  t,n,rfl,G,c,by show vs[k]?.getD _=v;rw[u];rfl⟩
   refine⟨l,⟨W1.Hf,W1.H,Rr m _ _⟩,M,rfl,by rw[List.append_nil];exact P,by rw[List.append_nil];exact(L.rep g),?_⟩
   cases ef:F _ with
   | bad=>simp only[ef]at s1;exact s1.elim
   | ret o A =>
    simp only[ef]at s1;intro v e y J U W X
    cases eb:Gp (A.map some) m c1 with
    | none=>simp only[m]at eb;simp only[eb]at s1;exact s1.elim
    | some cO =>
     have h:=eb;simp only[m]at h;simp only[h]at s1
     obtain⟨W2,w,x,R2,C,Y⟩:=L.back g U J eb (fun k i b D v hm hc u=>by
      have:=(Fo hm).2;rw[Nat.sub_zero]at this
      show vs[k]?.getD _=v
      rw[P0 R this u];rfl) X
     rw[<- x]
     refine s1 v _ _ (by rw[w,x];exact C) R2 ⟨by rw[w,x];exact W,Y⟩ fun j a N z=>?_
     obtain⟨_,ob,s,_⟩:=g.own j a N;rw[x,s]
     refine J.kp a _ s fun⟨k,B⟩=>z ?_
     obtain⟨i,q1,_,S⟩:=Gm B
     cases g.dis i j a S N
     have:=(Fo q1).2;exact List.mem_of_getElem? this
  ·rw[if_neg nd]at s1;exact s1.elim
theorem Qe        (d:Rep K β W1 c1 σ) (e:zH K W1.Hf σ ps vs)
 (s1:(Ti F ps c1).sat fun p c'=>∀v a b,Stp W1.S W1.Hf W1.H (orS a.S b) a.Hf a.H->Rep K β a c' σ->Eh K a σ p v b->Q v a.H):spP K F (vs++[]) W1.H Q E :=
 Ag2 d e (s1.mono fun p c' k v a b c R r _=>k v _ _ c R r)
theorem Bb     (ha:MA K t fa):ME K (Qy (spP K F) [] E t) (cF F fa):=by
 intro j W c h Q R s
 refine ha _ W c _ _ R (s.bnd.mono fun l m f u i a e d=>?_)
 exact Qe e d (f.mono fun p n k v o q g b r=>k v _ _ (a.trans g) b r)
end
def Bt2 (is:List Nat)(c:Ev):Ev:=is.foldl (fun c i=>c.set i none) c
section
variable {K:PySem.W.Frag}{X:Cx}{Hf H:Hp}{Q:VK}
theorem OpR.or    (h:OpR X f r) (h':OpR X f b):OpR X f (fun x y H Q=>r x y H Q\/b x y H Q):=by
 intro c s e H x y v u Q I d a q
 rcases q with q | q
 ·exact h _ s _ H x y v u Q I d a q
 ·exact h' _ s _ H x y v u Q I d a q
theorem CallR.or    (h:CallR X f r) (h':CallR X f b):CallR X f (fun xs H Q=>r xs H Q\/b xs H Q):=by
 intro c s d H xs e Q I a q
 rcases q with q | q
 ·exact h _ s _ H _ _ Q I a q
 ·exact h' _ s _ H _ _ Q I a q
theorem Du   (h:RdV Hf H (.int i) v):v=.int i:=h
theorem Hd   (h:RdV Hf H (.str x) v):v=.str x:=h
theorem O3   (h:RdV Hf H (.bool b) v):v=.bl b:=h
theorem Ru  (h:RdV Hf H .none v):v=.non:=h
theorem Ii   (s:Same Hf H) (h:RdV Hf H (.tuple ds) v):∃a b,v=.ref a/\H a=some (.tup b)/\TrL Hf ds b:=by
 obtain⟨a,b,e,q,t⟩:=(show Tr _ _ v from h)
 exact⟨a,b,e,s _ _ q,t⟩
theorem Fv   (h:RdV Hf H (.list ds) v):∃a vs,v=.ref a/\H a=some (.lst vs)/\TrL Hf ds vs:=h
theorem New.int  (h:New K Hf H (.im (.int i)) Q) (s:Same Hf H):Q (.int i) H:=h.same s rfl
theorem New.bl  (h:New K Hf H (.im (.bool b)) Q) (s:Same Hf H):Q (.bl b) H:=h.same s rfl
theorem New.str  (h:New K Hf H (.im (.str x)) Q) (s:Same Hf H):Q (.str x) H:=h.same s rfl
theorem New.tupS   (h:New K Hf H (.im (.tuple ds)) Q) (s:Same Hf H) (t:TrL Hf ds vs)   (S:Same H H') (hp:H' p=some (.tup vs)):Q (.ref p) H':=by
 have c:Same _ (upd Hf p (.tup vs)):=fun b u e=>by
  unfold upd
  split
  ·have:=S b u (s b u e)
   simp_all
  grind
 refine h _ _ _ [] ⟨c,fun a o e _=>S a o e,fun a o e d _ q=>?_,fun a z=>nomatch z⟩ (fun b u e=>?_) ⟨rfl,p,vs,rfl,Be,TrL.same c t⟩
 ·unfold upd
  split
  ·rename_i z
   have:=S a o e;rw[z,hp]at this
   cases this
   trivial
  omega
 ·unfold upd at e
  split at e
  ·simp_all
  ·exact S b u (s b u e)
def Ba3:R2:=fun x y H Q=>(rI0 (fun i j=>.int (i+j)) x y H Q\/(∃i j,x=.str i/\y=.str j/\i.length+j.length<=sizeLine/\Q (.str (i++j)) H))\/(Bo4 x y H Q\/A9l x y H Q)
theorem Bi3:OpR X (binaryOp .Add) Ba3:=OpR.or (OpR.or Bm5 Ag5) (OpR.or Bn1 A6b)
def Ba:PyData->PyData->Option O
 | .int i,.int j=>some (.im (.int (i+j)))
 | .str a,.str b=>if a.length+b.length<=16000000 then some (.im (.str (a++b))) else none
 | .list a,.list b=>if a.length+b.length<=16000000 then some (.ls false (a++b)) else none
 | .tuple a,.tuple b=>if a.length+b.length<=16000000 then some (.im (.tuple (a++b))) else none
 | _,_=>none
theorem lim  (h:n<=16000000):n<=sizeLine:=Nat.le_trans h (by decide)
theorem Bh:OpS K Ba3 Ba:=by
 intro C H x y A B o Q s g f e n;unfold Ba at e
 split at e
 ·rename_i i j
  cases e
  exact .inl (.inl ⟨i,j,Du g,Du f,n.int s⟩)
 ·rename_i a b
  split at e
  ·rename_i l
   cases e
   exact .inl (.inr ⟨a,b,Hd g,Hd f,lim l,n.str s⟩)
  ·cases e
 ·have e  := e
  split at e
  ·rename_i l
   cases e
   obtain⟨p,v,k,h,d⟩:=Fv g;obtain⟨q,t,u,m,c⟩:=Fv f
   exact .inr (.inl ⟨p,q,v,t,k,u,h,m,by rw[<- d.length,<- c.length];exact lim l,fun r w=>n.lst s (d.app c) w⟩)
  ·cases e
 ·have e  := e
  split at e
  ·rename_i l
   cases e
   obtain⟨p,v,k,h,d⟩:=Ii s g;obtain⟨q,t,u,m,c⟩:=Ii s f
   exact .inr (.inr ⟨p,q,v,t,k,u,h,m,by rw[<- d.length,<- c.length];exact lim l,fun r z S w=>n.tupS s (d.app c) S w⟩)
  ·cases e
 ·cases e
def opI (C:Int->Int->Bool)(g:Int->Int->Int):PyData->PyData->Option O
 | .int i,.int j=>if C i j then some (.im (.int (g i j))) else none
 | _,_=>none
theorem Am6    (hc:∀i j,C i j=true->a i j):OpS K (rI a fun i j=>.int (g i j)) (opI C g):=by
 intro d H x y h f o Q s c b e n;unfold opI at e
 split at e
 ·rename_i i j
  split at e
  ·rename_i l
   cases e
   exact⟨i,j,Du c,Du b,hc i j l,n.int s⟩
  trivial
 grind
def Vn (g:Int->Int->PyData):PyData->PyData->Option O
 | .int i,.int j=>some (.im (g i j))
 | _,_=>none
theorem Xq   (hg:∀i j H,Tr H (g i j) (g' i j)):OpS K (rI0 g') (Vn g):=by
 intro c H x y f d o Q s a b e n;unfold Vn at e
 split at e
 ·rename_i i j
  cases e
  exact⟨i,j,Du a,Du b,n.same s (hg i j _)⟩
 trivial
def T9 (i j:Int):Bool:=(decide (-(2 ^ 64)<i)&&decide (i<2 ^ 64))||(decide (-(2 ^ 64)<j)&&decide (j<2 ^ 64))
def A7z (ds:List PyData)(n:Nat):List PyData:=(List.replicate n ds).flatten
theorem Ao6 {a:List PyData}{vs:List V}(t:TrL Hf a vs):∀n:Nat,TrL Hf (A7z a n) (List.replicate n vs).flatten
 | 0=>rfl
 | n+1=>by
  show TrL Hf (List.replicate (n+1) a).flatten (List.replicate (n+1) vs).flatten
  rw[List.replicate_succ,List.replicate_succ,List.flatten_cons,List.flatten_cons];exact t.app (Ao6 t n)
def Dr (d:PyData):Bool:=d.canLay0&&decide (d.depth<=40)
theorem Ja  (h:Dr d=true):Flat d:=by
 obtain⟨b,a⟩:=Bool.and_eq_true_iff.mp h;exact⟨b,of_decide_eq_true a⟩
def Ss:PyData->PyData->Bool
 | .str _,.str _=>true
 | _,_=>false
def Dh (neg:Bool)(a b:PyData):Option O:=if (Dr a&&Dr b)||Ss a b then some (.im (.bool (if neg then !PyData.eqv a b else PyData.eqv a b))) else none
def rEQ:R2:=fun x y H Q=>Bu5 x y H Q\/rEq x y H Q
def rNE:R2:=fun x y H Q=>Bu1 x y H Q\/rNe x y H Q
theorem A9n (hu:X.A.units+64<cLine):OpR X (compareOp .Eq) rEQ:=OpR.or (Bk2 hu) Bo0
theorem A8y (hu:X.A.units+64<cLine):OpR X (compareOp .NotEq) rNE:=OpR.or (A9u hu) Bo2
theorem U6 (x y:Str):PyData.eqv (.str x) (.str y)=decide (V.str x=V.str y):=by
 show (x==y)=_
 grind
theorem Ga:OpS K rEQ (Dh false):=by
 intro h H x y f d o Q s b a e n;unfold Dh at e
 split at e
 ·rename_i l
  cases e
  rcases Bool.or_eq_true_iff.mp l with l | l
  ·obtain⟨g,c⟩:=Bool.and_eq_true_iff.mp l
   exact .inl ⟨f,d,b.tr s,a.tr s,Ja g,Ja c,n.bl s⟩
  ·unfold Ss at l
   split at l
   ·cases Hd b
    cases Hd a
    refine .inr ⟨rfl,?_⟩
    rw[<- U6];exact n.bl s
   grind
 grind
theorem Nt:OpS K rNE (Dh true):=by
 intro h H x y f d o Q s b a e n;unfold Dh at e
 split at e
 ·rename_i l
  cases e
  rcases Bool.or_eq_true_iff.mp l with l | l
  ·obtain⟨g,c⟩:=Bool.and_eq_true_iff.mp l
   exact .inl ⟨f,d,b.tr s,a.tr s,Ja g,Ja c,n.bl s⟩
  ·unfold Ss at l
   split at l
   ·cases Hd b
    cases Hd a
    refine .inr ⟨rfl,?_⟩
    rw[<- U6];exact n.bl s
   grind
 grind
def Wr (neg:Bool)(a b:PyData):Option O:=match b with
 | .none=>some (.im (.bool (match a with
  | .none=>!neg
  | _=>neg)))
 | _=>none
theorem A6i   (h:RdV Hf H d v):decide (v=.non)=(match d with | .none=>true | _=>false):=by
 cases d with
 | none=>cases Ru h;rfl
 | bool b=>cases O3 h;rfl
 | int i=>cases Du h;rfl
 | str x=>cases Hd h;rfl
 | list c=>obtain⟨a,e,rfl,_⟩:=Fv h;rfl
 | tuple c=>obtain⟨a,e,rfl,_⟩:=(show Tr _ _ v from h);rfl
 | dict k=>trivial
theorem A8j:OpS K (fun x y H Q=>y=.non/\Q (.bl (decide (x=.non))) H) (Wr false):=by
 intro f H x y c b o Q s d a e n
 match b,a,e with
 | .none,a,e =>
  refine⟨Ru a,?_⟩
  rw[A6i d]
  cases e
  cases c <;> exact n.bl s
def rIN:R2:=fun x y H Q=>A5t false x y H Q\/Bt8 x y H Q
theorem Bs6 (hu:X.A.units+64<cLine):OpR X (compareOp .In) rIN:=OpR.or (Ba7 hu) At8
def Ol (neg:Bool):PyData->PyData->Option O
 | d,.list ds=>if Dr d&&PyData.canLayAll0 ds then some (.im (.bool (if neg then !(ds.any fun e=>PyData.eqv e d) else ds.any fun e=>PyData.eqv e d))) else none
 | d,.tuple ds=>if Dr d&&PyData.canLayAll0 ds then some (.im (.bool (if neg then !(ds.any fun e=>PyData.eqv e d) else ds.any fun e=>PyData.eqv e d))) else none
 | .str i,.str j=>if neg then none else some (.im (.bool (!(Builtin.Str.occurrences j i 0 j.length 1).isEmpty)))
 | _,_=>none
theorem Bm6:OpS K rIN (Ol false):=by
 intro h H x y g k o Q s b d e n;unfold Ol at e
 split at e
 ·rename_i c
  have e  := e
  split at e
  ·rename_i l
   obtain⟨f,a⟩:=Bool.and_eq_true_iff.mp l
   cases e
   exact .inl ⟨g,c,b.tr s,.inl (d.tr s),Ja f,a,n.bl s⟩
  grind
 ·rename_i c
  have e  := e
  split at e
  ·rename_i l
   obtain⟨f,a⟩:=Bool.and_eq_true_iff.mp l
   cases e
   exact .inl ⟨g,c,b.tr s,.inr (d.tr s),Ja f,a,n.bl s⟩
  simp_all
 ·rename_i i j
  cases e
  exact .inr ⟨i,j,Hd b,Hd d,n.bl s⟩
 trivial
theorem Xa:OpS K (A5t true) (Ol true):=by
 intro h H x y f i o Q s d g e n;unfold Ol at e
 split at e
 ·rename_i a
  have e  := e
  split at e
  ·rename_i l
   obtain⟨c,b⟩:=Bool.and_eq_true_iff.mp l
   cases e
   exact⟨f,a,d.tr s,.inl (g.tr s),Ja c,b,n.bl s⟩
  simp_all
 ·rename_i a
  have e  := e
  split at e
  ·rename_i l
   obtain⟨c,b⟩:=Bool.and_eq_true_iff.mp l
   cases e
   exact⟨f,a,d.tr s,.inr (g.tr s),Ja c,b,n.bl s⟩
  grind
 ·simp_all
 grind
theorem A1w     (t:TrL Hf ds vs) (h:atI ds i=some d):∃v,atI vs i=some v/\Tr Hf d v:=by
 unfold atI at h ⊢;rw[<- t.length];obtain⟨j,c,a⟩:=Option.bind_eq_some_iff.mp h;obtain⟨v,e,b⟩:=t.got a
 grind
def cutD (ds:List PyData)(lo hi:Option Int):List PyData:=(ds.drop (HT.sIx ds.length 0 lo)).take (HT.sIx ds.length ds.length hi-HT.sIx ds.length 0 lo)
theorem TrL.drop':∀{ds:List PyData}{vs:List V}(n:Nat),TrL Hf ds vs->TrL Hf (ds.drop n) (vs.drop n)
 | ds,vs,0,h=>h
 | [],_,n+1,h=>by cases (show _=[] from h);exact rfl
 | d::ds,_,n+1,⟨v,r,rfl,_,t⟩=>TrL.drop' n t
theorem TrL.take':∀{ds:List PyData}{vs:List V}(n:Nat),TrL Hf ds vs->TrL Hf (ds.take n) (vs.take n)
 | ds,vs,0,h=>by rw[List.take_zero,List.take_zero];exact rfl
 | [],_,n+1,h=>by cases (show _=[] from h);exact rfl
 | d::ds,_,n+1,⟨v,r,rfl,q,t⟩=>⟨v,r.take n,rfl,q,TrL.take' n t⟩
theorem TrL.cut    (t:TrL Hf ds vs):TrL Hf (cutD ds lo hi) (Aw6 vs lo hi):=by
 unfold cutD Aw6;rw[<- t.length];exact TrL.take' _ (TrL.drop' _ t)
theorem TrL.rev:∀{ds:List PyData}{vs:List V},TrL Hf ds vs->TrL Hf ds.reverse vs.reverse
 | [],_,h=>by cases (show _=[] from h);exact rfl
 | d::ds,_,⟨v,r,rfl,q,t⟩=>by
  rw[List.reverse_cons,List.reverse_cons];exact(TrL.rev t).app (TrL.one q)
end
section
variable {K:PySem.W.Frag}{X:Cx}{Hf H:Hp}{Q:VK}{β:Nat->V}{W W':Wo}{c c':Ev}{σ:St}{v:V}
theorem Bj3   (h:A3q Hf H [d] xs):∃x,xs=[x]/\RdV Hf H d x:=by
 obtain⟨v,r,b,c,a⟩:=h
 cases (a)
 grind
def Fi:List PyData->Option O
 | [.list ds]=>some (.im (.int ds.length))
 | [.tuple ds]=>some (.im (.int ds.length))
 | [.str z]=>if z.length<=16000000 then some (.im (.int z.length)) else none
 | _=>none
theorem Ar3:Bq5 K (Rg K) Fi:=by
 intro Hf H xs ds o Q s d e n;unfold Fi at e
 split at e
 ·obtain⟨x,rfl,r⟩:=Bj3 d
  obtain⟨a,c,rfl,b,t⟩:=Fv r
  cases e
  refine⟨.ref a,c.length,rfl,A7p b,?_⟩
  rw[<- t.length];exact n.int s
 ·obtain⟨x,rfl,r⟩:=Bj3 d
  obtain⟨a,c,rfl,b,t⟩:=Ii s r
  cases e
  refine⟨.ref a,c.length,rfl,A5h b,?_⟩
  rw[<- t.length];exact n.int s
 ·rename_i z
  obtain⟨x,rfl,r⟩:=Bj3 d
  cases Hd r
  split at e
  ·rename_i l
   cases e
   refine⟨.str z,z.length,rfl,?_,n.int s⟩
   show (if z.length<=sizeLine then some _ else none)=_
   rw[if_pos (lim l)]
  trivial
 simp_all
def A7h (K:PySem.W.Frag):List V->Hp->VK->Prop:=fun xs H Q=>Rg K xs H Q\/Ai6 K xs H Q
theorem A0k:CallR X (.builtin "len") (A7h X.K):=CallR.or Ax8 Z9
def Ft (f:Ev->R PV):Ev->R PV:=fun c=>(f c).bind fun p c=>match nrm p with
 | .o (.sc ns)=>.ok (.o (.im (.int ns.length))) c
 | p=>match Ep c p with
  | some d=>match Fi [d] with
   | some o=>.ok (.o o) c
   | none=>.bad
  | none=>.bad
theorem Ej   (h:ME K t f):ME K (tCB (A7h K) (Ci t Fe)) (Ft f):=by
 intro A W c u Q R s
 refine h.toV A W c u _ R (s.bnd.mono fun p w e v r n k g=>?_)
 have m:∀q:PV,RepA K r.Hf u q v->((match Ep w q with
  | some d=>(match Fi [d] with
   | some o=>.ok (.o o) w
   | none=>.bad)
  | none=>.bad:U.R PV)).sat (fun p C=>∀v j l,Stp W.S W.Hf W.H (orS j.S l) j.Hf j.H->Rep K A j C u->Eh K j u p v l->Q v j.H)->A7h K [v] r.H Q:=fun q g e=>by
  cases ex:Ep w q with
  | none=>simp only[ex]at e;exact e.elim
  | some d =>
   simp only[ex]at e
   cases eo:Fi [d] with
   | none=>simp only[eo]at e;exact e.elim
   | some o =>
    simp only[eo]at e
    exact .inl (Ar3 r.Hf r.H [v] [d] o Q k.sub ⟨v,[],rfl,Gi k g ex,rfl⟩ eo (New.of k fun v j l z y x=>e v j l (n.trans z) y x))
 generalize nrm p=q at e g
 match q,g,e with
 | .o (.sc ns),g,e =>
  obtain⟨a,rfl,B⟩:=g;have e:∀v j l,Stp _ _ _ _ _ _->Rep K _ j _ _->Eh K _ _ _ v _->Q v _:=e
  refine .inr ⟨.ref a,ns.length,rfl,?_,(New.of k fun v j l z y x=>e v _ _ (n.trans z) y x).int k.sub⟩
  exact .inl ⟨ns.map _,Same.seq k.sub B,by simp_all⟩
 | .o (.im d),g,e=>exact m _ g e
 | .o (.ls b d),g,e=>trivial
 | .o (.ty T),g,e=>trivial
 | .sl i,g,e=>exact m _ g e
inductive Ty5 where
 | int | str | bool | list | tuple
def Ty5.nm:Ty5->String
 | .int => "int"
 | .str => "str"
 | .bool => "bool"
 | .list => "list"
 | .tuple => "tuple"
def Fy:Ty5->PyData->Bool
 | .int,.int _=>true
 | .int,.bool _=>true
 | .str,.str _=>true
 | .bool,.bool _=>true
 | .list,.list _=>true
 | .tuple,.tuple _=>true
 | _,_=>false
def An2:PyData->String
 | .none => "NoneType"
 | .bool _ => "bool"
 | .int _ => "int"
 | .str _ => "str"
 | .list _ => "list"
 | .tuple _ => "tuple"
 | .dict _ => "dict"
theorem Al9   (s:Same Hf H) (h:RdV Hf H d v):Nf H v=some (An2 d):=by
 cases d with
 | none=>cases Ru h;rfl
 | bool b=>cases O3 h;rfl
 | int i=>cases Du h;rfl
 | str x=>cases Hd h;rfl
 | list c=>obtain⟨a,f,rfl,e,_⟩:=Fv h;exact Bd4 e
 | tuple c=>obtain⟨a,f,rfl,e,_⟩:=Ii s h;exact Bj9 e
 | dict k=>trivial
theorem Ak5   (h:RdV Hf H d v) (T:Ty5):El (An2 d) T.nm=some (Fy T d):=by
 cases d with
 | none=>cases T <;> first | exact Rk | exact Rm | exact Qk | exact Qa | exact Pa
 | bool b=>cases T <;> first | exact Ab8 | exact Ze | exact Yy | exact X7 | exact Vo
 | int i=>cases T <;> first | exact Ai2 | exact Ah3 | exact Ad3 | exact Ab2 | exact Y0
 | str x=>cases T <;> first | exact Ag3 | exact Ag9 | exact Ab1 | exact Zc | exact Yn
 | list a=>cases T <;> first | exact Ad5 | exact Z6 | exact Yd | exact Xw | exact Vm
 | tuple a=>cases T <;> first | exact Ye | exact Xz | exact Vi | exact Ve | exact U5
 | dict k=>exact(h).elim
def cUn (op:PyData->Option O)(f:Ev->R PV):Ev->R PV:=fun c=>(f c).bind fun p c=>match Ep c (nrm p) with
 | some d=>match op d with
  | some o=>.ok (.o o) c
  | none=>.bad
 | none=>.bad
def UnS (K:PySem.W.Frag)(r:V->Hp->VK->Prop)(op:PyData->Option O):Prop:=∀(Hf H:Hp) (x:V) (d:PyData) (o:O) (Q:VK),Same Hf H->RdV Hf H d x->op d=some o->New K Hf H o Q->r x H Q
theorem M6     (h:ME K t f) (hr:UnS K r op):ME K (tUn r t) (cUn op f):=by
 intro u W c m Q R s
 refine h.toV _ W c _ _ R (s.bnd.mono fun p j a v w e b k=>?_)
 cases ex:Ep j (nrm p) with
 | none=>simp only[ex]at a;trivial
 | some d =>
  simp only[ex]at a
  cases eo:op d with
  | none=>simp only[eo]at a;trivial
  | some o =>
   simp only[eo]at a
   exact hr _ _ v d o Q b.sub (Gi b k ex) eo (New.of b fun v n q i l g=>a v _ _ (e.trans i) l g)
theorem Bg     (h:ME K t f) (hr:UnS K (fun x H Q=>r [x] H Q) op):ME K (tCB r (Ci t Fe)) (cUn op f):=M6 h hr
def Cr (T:Ty5)(d:PyData):Option O:=some (.im (.bool (Fy T d)))
def Nx (T1 T2:Ty5)(d:PyData):Option O:=some (.im (.bool (Fy T1 d||Fy T2 d)))
theorem G4   (T:Ty5) (h:ME K t f):ME K (tCB (Nq K) (Ci t (Ci (tC (.ty T.nm)) Fe))) (cUn (Cr T) f) :=
 M6  h fun a H x d o Q s r e n=>by
  cases e
  exact⟨x,T.nm,An2 d,Fy T d,rfl,Al9 s r,Ak5 r T,n.bl s⟩
theorem A7r    (h1:El t A=some a) (h2:El t B=some b):J9 t [A,B]=some (a||b):=by
 unfold J9;unfold J9;unfold J9
 grind
theorem A5p   (g j:Ty5) (h:ME K t f):ME K (tCB (Jd K) (Ci t (Ci (Aw5 (Ci (tC (.ty g.nm)) (Ci (tC (.ty j.nm)) Fe))) Fe))) (cUn (Nx g j) f) :=
 M6 (r:=fun x H Q=>2<=sizeLine/\∀p,H p=none->Jd K _ _ Q) h fun v H x d o Q s r e n=>by
  cases e
  refine⟨by decide,fun p c=>⟨x,p,[g.nm,j.nm],An2 d,Fy _ d||Fy _ d,rfl,Be,?_,A7r (Ak5 r _) (Ak5 r _),?_⟩⟩
  ·have l:Same _ (upd H p (.tup [.ty g.nm,.ty j.nm])):=Rx s c
   refine Al9  l ?_
   cases d with
   | list u=>obtain⟨a,m,e,q,t⟩:=r;exact⟨a,m,e,Bw c _ _ q,t⟩
   | none=>exact r
   | bool b=>exact r
   | int i=>exact r
   | str z=>exact r
   | tuple u=>exact r
   | dict k=>exact r
  ·exact n _ _ _ [] ((Stp.newL s c).less fun a z=>nomatch z) (Rx s c) ⟨rfl,rfl⟩
def boolsOf:List PyData->Option (List Bool)
 | []=>some []
 | .bool b::r=>(boolsOf r).map (b::·)
 | _=>none
theorem Yq:∀{ds:List PyData}{bs:List Bool}{vs:List V},boolsOf ds=some bs->TrL Hf ds vs->vs=bs.map V.bl
 | [],bs,vs,e,t=>by cases (show some []=some bs from e);exact t
 | .bool b::r,bs,_,e,⟨v,vr,rfl,h,t⟩=>by
  obtain⟨l,e1,rfl⟩:=Option.map_eq_some_iff.mp (show (boolsOf r).map (b::·)=some bs from e)
  cases (show v=.bl b from h)
  rw[Yq e1 t];rfl
 | .none::r,bs,_,e,_=>nomatch e
 | .int _::r,bs,_,e,_=>nomatch e
 | .str _::r,bs,_,e,_=>nomatch e
 | .list _::r,bs,_,e,_=>nomatch e
 | .tuple _::r,bs,_,e,_=>nomatch e
 | .dict _::r,bs,_,e,_=>nomatch e
def Qz:PyData->Option O
 | .list ds=>(boolsOf ds).map fun bs=>.im (.bool (bs.all id))
 | _=>none
theorem Rv:UnS K (fun x H Q=>K5 K [x] H Q) Qz:=by
 intro Hf H x d o Q s r e n
 match d,r,e with
 | .list _,r,e =>
  obtain⟨c,f,rfl⟩:=Option.map_eq_some_iff.mp (show (boolsOf _).map _=some o from e)
  obtain⟨a,vs,rfl,b,t⟩:=Fv r
  exact⟨a,c,rfl,by rw[<- Yq f t];exact SqL.of b,n.bl s⟩
def Wq:PyData->Option O
 | .int i=>some (.im (.int i))
 | .bool b=>some (.im (.int (if b then 1 else 0)))
 | _=>none
theorem Ap6:UnS K (fun x H Q=>Lk K [x] H Q) Wq:=by
 intro a H x d o Q s r e n
 match d,r,e with
 | .int i,r,e=>cases e;cases Du r;exact .inl ⟨i,rfl,n.int s⟩
 | .bool b,r,e=>cases e;cases O3 r;exact .inr ⟨b,rfl,n.int s⟩
def Ak7:PyData->Option O
 | .int i=>some (.im (.int (if i<0 then -i else i)))
 | _=>none
theorem Am5:UnS K (fun x H Q=>Ni K [x] H Q) Ak7:=by
 intro a H x d o Q s r e n
 match d,r,e with
 | .int i,r,e=>cases e;cases Du r;exact⟨i,rfl,n.int s⟩
def Wm:PyData->Option O
 | .int i=>some (.im (.int (-i)))
 | _=>none
theorem R8:UnS K (rU fun i=>.int (-i)) Wm:=by
 intro a H x d o Q s r e n
 match d,r,e with
 | .int i,r,e=>cases e;cases Du r;exact⟨i,rfl,n.int s⟩
def Eo:PyData->Option O
 | .list ds=>some (.ls false ds)
 | .tuple ds=>some (.ls false ds)
 | _=>none
theorem Ig:UnS K (fun x H Q=>Ip K [x] H Q) Eo:=by
 intro Hf H x d o Q s r e n
 match d,r,e with
 | .list _,r,e =>
  cases e
  obtain⟨a,c,rfl,f,t⟩:=Fv r
  exact⟨a,c,rfl,.inl (SqL.of f),fun l b=>n.lst s t b⟩
 | .tuple _,r,e =>
  cases e
  obtain⟨a,c,rfl,f,t⟩:=Ii s r
  exact⟨a,c,rfl,.inr (SqT.of f),fun l b=>n.lst s t b⟩
def Bd8 (K:PySem.W.Frag):List V->Hp->VK->Prop:=fun xs H Q=>(Uh K xs H Q\/Y8 K xs H Q)\/Qv K xs H Q
def isSeq:PyData->Bool
 | .list _=>true
 | .tuple _=>true
 | _=>false
def Zn:PyData->Option O
 | .int i=>if i.natAbs.log2<1920 then some (.im (.str (toString i))) else none
 | .none=>some (.im (.str "None"))
 | .bool b=>some (.im (.str (if b then Str.ofString "True" else Str.ofString "False")))
 | .str x=>some (.im (.str x))
 | d=>if isSeq d&&(d.showable&&(!d.hasDict&&(decide (d.depth<=40)&&decide (d.shown.length<=sizeLine)))) then some (.im (.str d.shown)) else none
theorem An5:UnS K (fun x H Q=>Bd8 K [x] H Q) Zn:=by
 intro h H x d o Q s r e n
 have c:∀d,RdV h H d x->(isSeq d=true->∃a,x=.ref a)->(if isSeq d&&(d.showable&&(!d.hasDict&&(decide (d.depth<=40)&&decide (d.shown.length<=sizeLine)))) then some (O.im (.str d.shown)) else none)=some o->Bd8 K [x] H Q:=fun d r g e=>by
  split at e
  ·rename_i l
   simp  at l
   cases e
   obtain⟨a,rfl⟩:=g l.1;exact .inl (.inr ⟨a,d,rfl,r.tr s,l.2.1,l.2.2.1,l.2.2.2.1,l.2.2.2.2,n.str s⟩)
  ·cases e
 match d,r,e with
 | .int i,r,e =>
  have e:(if i.natAbs.log2<1920 then some _ else none)=some o:=e
  split at e
  ·rename_i l
   cases e;cases Du r;exact .inl (.inl ⟨i,rfl,l,n.str s⟩)
  ·cases e
 | .list _,r,e=>exact c _ r (fun _=>by obtain⟨b,f,e,_⟩:=Fv r;exact⟨b,e⟩) e
 | .tuple _,r,e=>exact c _ r (fun _=>by obtain⟨b,f,e,_⟩:=Ii s r;exact⟨b,e⟩) e
 | .none,r,e=>cases e;cases Ru r;exact .inr ⟨_,_,rfl,rfl,n.str s⟩
 | .bool b,r,e=>cases e;cases O3 r;exact .inr ⟨_,_,rfl,rfl,n.str s⟩
 | .str z,r,e=>cases e;cases Hd r;exact .inr ⟨_,_,rfl,rfl,n.str s⟩
 | .dict _,r,e=>exact c _ r (fun z=>nomatch z) e
def Ai4:PyData->PyData->Option O
 | .int i,.int j=>some (.im (.int (if j<i then j else i)))
 | _,_=>none
theorem A5l {c d:TE}  (ha:ME K c fa) (hb:ME K d fb):ME K (tCB (K3 K) (Ci c (Ci d Fe))) (cOp Ai4 fa fb) :=
 Aj  ha hb fun h H x y g f o Q s a b e n=>by
  match g,f,a,b,e with
  | .int i,.int j,a,b,e=>cases e;cases Du a;cases Du b;exact⟨i,j,rfl,n.int s⟩
def MO (K:PySem.W.Frag)(T:TO)(f:Ev->R (Option Int)):Prop:=∀(β:Nat->V) (W:Wo) (c:Ev) (σ:St) (Q:Option Int->Hp->Prop),Rep K β W c σ ->
 (f c).sat (fun b c'=>∀W',Stp W.S W.Hf W.H W'.S W'.Hf W'.H->Rep K β W' c' σ->Q b W'.H)->T σ W.H Q
def cON:Ev->R (Option Int):=fun c=>.ok none c
theorem Eu:MO K Yo cON:=fun b W c a Q R s=>s W Stp.refl R
def cOS (f:Ev->R PV):Ev->R (Option Int):=fun c=>(f c).bind fun p c=>match Ep c (nrm p) with
 | some (.int i)=>.ok (some i) c
 | _=>.bad
theorem Cz   (h:ME K t f):MO K (Ay6 t) (cOS f):=by
 intro g W c k Q R s
 refine h.toV _ W c _ _ R (s.bnd.mono fun p l a v j b d e=>?_)
 match ex:Ep _ _,a with
 | some (.int i),a=>exact⟨i,Du (Gi d e ex),a _ b d⟩
 | some .none,a=>exact a.elim
 | some (.bool _),a=>exact a.elim
 | some (.str _),a=>exact a.elim
 | some (.list _),a=>exact a.elim
 | some (.tuple _),a=>exact a.elim
 | some (.dict _),a=>exact a.elim
 | none,a=>exact a.elim
def SlS (K:PySem.W.Frag)(r:V->Option Int->Option Int->Hp->VK->Prop)(op:PyData->Option Int->Option Int->Option O):Prop:=∀(Hf H:Hp) (x:V) (lo hi:Option Int) (d:PyData) (o:O) (Q:VK),Same Hf H->RdV Hf H d x->op d lo hi=some o->New K Hf H o Q->r x lo hi H Q
def cSl (op:PyData->Option Int->Option Int->Option O)(f:Ev->R PV)(fl fh:Ev->R (Option Int)):Ev->R PV:=fun c=>(f c).bind fun p c=>(fl c).bind fun lo c=>(fh c).bind fun hi c=>match Ep c (nrm p) with
 | some d=>match op d lo hi with
  | some o=>.ok (.o o) c
  | none=>.bad
 | none=>.bad
theorem Gs       (h:ME K j f) (hl:MO K l k) (u:MO K m n) (hr:SlS K r op):ME K (tSl r j l m) (cSl op f k n):=by
 intro P W c G Q R s
 refine h.toV _ W c _ _ R (s.bnd.mono fun p I D v N g w x=>?_)
 refine hl _ _ _ _ _ w (D.bnd.mono fun z F A J a B=>?_)
 refine u _ _ _ _ _ B (A.bnd.mono fun t y b H e i=>?_)
 cases ex:Ep y (nrm p) with
 | none=>simp only[ex]at b;trivial
 | some d =>
  simp only[ex]at b
  cases eo:op d z t with
  | none=>simp only[eo]at b;trivial
  | some o =>
   simp only[eo]at b
   exact hr _ _ v _ _ d o Q i.sub (Gi i (RepA.same (a.trans e).fz x) ex) eo (New.of i fun v L M C E q=>b v _ _ (g.trans (a.trans (e.trans C))) E q)
end
section
variable {K:PySem.W.Frag}{X:Cx}{Hf H:Hp}{Q:VK}{β:Nat->V}{W W':Wo}{c c':Ev}{σ:St}{v:V}
def rSL (K:PySem.W.Frag):V->Option Int->Option Int->Hp->VK->Prop:=fun x lo hi H Q=>(Bt1 K x lo hi H Q\/(Bs2 K x lo hi H Q\/A9p K x lo hi H Q))\/Bq2 x lo hi H Q
theorem Bl6:SlR X (rSL X.K):=SlR.or (SlR.or A5o (SlR.or Bh0 A8p)) Bl3
def Ek:PyData->Option Int->Option Int->Option O
 | .list ds,lo,hi=>some (.ls false (cutD ds lo hi))
 | .tuple ds,lo,hi=>some (.im (.tuple (cutD ds lo hi)))
 | .str z,lo,hi=>if z.length<=16000000 then some (.im (.str (Txt.slice z lo hi))) else none
 | _,_,_=>none
theorem Do:SlS K (rSL K) Ek:=by
 intro Hf H x f c d o Q s r e n
 match d,r,e with
 | .list ds,r,e =>
  cases e
  obtain⟨a,b,rfl,g,t⟩:=Fv r
  exact .inl (.inl ⟨a,b,rfl,SqL.of g,fun p h=>n.lst s (TrL.cut t) h⟩)
 | .str z,r,e =>
  by_cases hz:z.length<=16000000
  ·rw[show Ek (.str z) f c=some (.im (.str (Txt.slice z f c))) by simp only[Ek];rw[if_pos hz]]at e
   cases e
   exact .inr ⟨z,r,Nat.le_trans hz (by decide),n.same s rfl⟩
  ·rw[show Ek (.str z) f c=none by simp only[Ek];rw[if_neg hz]]at e;cases e
 | .tuple ds,r,e =>
  cases e
  obtain⟨a,b,rfl,g,t⟩:=Ii s r
  by_cases w:HT.sIx b.length 0 f=0/\HT.sIx b.length b.length c=b.length
  ·refine .inl (.inr (.inr ⟨a,b,rfl,SqT.of g,w,?_⟩))
   have e:cutD ds f c=ds:=by
    unfold cutD;rw[t.length,w.1,w.2,List.drop_zero,Nat.sub_zero,<- t.length,List.take_length]
   rw[e]at n;exact n.same s r
  ·exact .inl (.inr (.inl ⟨a,b,rfl,SqT.of g,w,fun p h=>n.tup s (TrL.cut t) h⟩))
def Bp (f:Ev->R PV):Ev->R Bool:=fun c=>(f c).bind fun p c=>match Ep c (nrm p) with
 | some (.bool b)=>.ok b c
 | _=>.bad
theorem Cg   (h:ME K t f):MT K (Kv t) (Bp f):=by
 intro g W c k Q R s
 refine h.toV _ W c _ _ R (s.bnd.mono fun p l a v j b d e=>?_)
 match ex:Ep _ _,a with
 | some (.bool i),a=>exact⟨i,O3 (Gi d e ex),a _ b d⟩
 | some .none,a=>exact a.elim
 | some (.int _),a=>exact a.elim
 | some (.str _),a=>exact a.elim
 | some (.list _),a=>exact a.elim
 | some (.tuple _),a=>exact a.elim
 | some (.dict _),a=>exact a.elim
 | none,a=>exact a.elim
theorem N7   (h:ME K t f):MT K (tB t) (Bp f):=Cg h
def By:Ev->R Bool:=fun c=>.ok true c
theorem Ir:MT K Ba0 By:=fun b W c a Q R s=>s W Stp.refl R
def cOr (f g:Ev->R Bool):Ev->R Bool:=fun c=>(f c).bind fun b c=>if b=true then .ok true c else g c
def Vf (f:Ev->R Bool):Ev->R Bool:=fun c=>(f c).bind fun b c=>.ok (!b) c
theorem My   (h1:MT K t f) (h2:MT K u g):MT K (tOr t u) (cOr f g):=fun n W c p Q R s =>
 h1 _ W c _ _ R (s.bnd.mono fun b l h k a e=>by
  cases b with
  | false=>exact h2 _ _ _ _ _ e (h.mono fun b m j o d i=>j _ (a.trans d) i)
  | true=>exact h _ a e)
theorem Ld   (h1:MT K t f):MT K (Bf9 t) (Vf f):=fun h W c g Q R s =>
 h1 _ W c _ _ R (s.bnd.mono fun b j e i a d=>e _ a d)
theorem Aq0  {d:Wo}(R:Rep K β W c σ) (st:Stp d.S d.Hf d.H W.S W.Hf W.H) (s:∀v a e,Stp d.S d.Hf d.H (orS a.S e) a.Hf a.H->Rep K β a c σ->Eh K a σ (.o (.im (.bool b))) v e->Q v a.H):Q (.bl b) W.H :=
 R.here (o:=.im (.bool b))  rfl rfl fun v a e f g r=>s v _ _ (st.trans f) g r
def Qw (f g:Ev->R PV):Ev->R PV:=fun c=>(Bp f c).bind fun b c=>if b=true then g c else .ok (.o (.im (.bool false))) c
def A2w (f:Ev->R PV):Ev->R PV:=fun c=>(Bp f c).bind fun b c=>.ok (.o (.im (.bool (!b)))) c
def O4 (ft:Ev->R Bool)(f g:Ev->R PV):Ev->R PV:=fun c=>(ft c).bind fun b c=>if b=true then f c else g c
theorem S8 {r:U.R PV}{b:Wo}(s:r.sat fun p c'=>∀v a d,Stp b.S b.Hf b.H (orS a.S d) a.Hf a.H->Rep K β a c' σ->Eh K a σ p v d->Q v a.H)(st:Stp b.S b.Hf b.H W.S W.Hf W.H) :
 r.sat fun p c'=>∀v a d,Stp W.S W.Hf W.H (orS a.S d) a.Hf a.H->Rep K β a c' σ->Eh K a σ p v d->Q v a.H:=s.mono fun p c k v a d e R r=>k v _ _ (st.trans e) R r
theorem Ls   (h1:ME K h f) (h2:ME K e g):ME K (A2d h e) (Qw f g):=by
 intro k W c j Q R s
 refine Cg h1 _ W c _ _ R (s.bnd.mono fun b m i l a d=>?_)
 cases b with
 | true=>exact h2 _ _ _ _ _ d (S8 i a)
 | false=>exact Aq0 d a i
theorem A8k   (h1:ME K d f):ME K (A0y d) (A2w f):=by
 intro k W c h Q R s
 exact Cg h1 _ W c _ _ R (s.bnd.mono fun b i g j a e=>Aq0 e a g)
theorem Aj9     (ht:MT K i ft) (h1:ME K e f) (h2:ME K h g):ME K (tIf i e h) (O4 ft f g):=by
 intro l W c k Q R s
 refine ht _ W c _ _ R (s.bnd.mono fun b n j m a d=>?_)
 cases b with
 | true=>exact h1 _ _ _ _ _ d (S8 j a)
 | false=>exact h2 _ _ _ _ _ d (S8 j a)
def Cv (f:Ev->R PV):Ev->R (List PyData):=fun c=>(f c).bind fun p c=>(frz (nrm p) c).bind fun d c=>match d with
 | .list ds=>.ok ds c
 | .tuple ds=>.ok ds c
 | _=>.bad
theorem A7s    (ha:Hf a=some (.lst vs)) (t:TrL Hf ds vs):Au3 (Itl K a) Hf ds:=by
 intro i c H f g;have b:=g _ _ (f _ _ ha)
 refine⟨fun e=>⟨vs,SqL.of b,by rw[<- t.length];omega⟩,fun d j=>?_⟩
 obtain⟨v,h,k⟩:=t.got j
 refine⟨⟨vs,v,SqL.of b,h⟩,fun x l ⟨e,q⟩=>?_⟩
 subst e;have:=q _ (SqL.of b);rw[h]at this
 cases this
 exact⟨c,Stp.refl,g,Tr.same f k⟩
theorem Bf1    (ha:Hf a=some (.tup vs)) (t:TrL Hf ds vs):Au3 (Itt K a) Hf ds:=by
 intro i c H f g;have b:=g _ _ (f _ _ ha)
 refine⟨fun e=>⟨vs,SqT.of b,by rw[<- t.length];omega⟩,fun d j=>?_⟩
 obtain⟨v,h,k⟩:=t.got j
 refine⟨⟨vs,v,SqT.of b,h⟩,fun x l ⟨e,q⟩=>?_⟩
 subst e;have:=q _ (SqT.of b);rw[h]at this
 cases this
 exact⟨c,Stp.refl,g,Tr.same f k⟩
theorem Hn   (h:ME K t f):MI K (A9y K t) (Cv f):=by
 intro w W c B k R s
 refine h.toV _ W c _ _ R (s.bnd.mono fun p A r v x l u q=>?_)
 obtain⟨d,y,z,_,b,o,i,m,e⟩:=Ik u q r.bnd;rw[<- o]
 match d,e,b with
 | .list _,e,b =>
  obtain⟨a,n,g,j,t⟩:=e;exact⟨a,g,.inl ⟨n,m.sub _ _ j,b _ _ (l.trans i) m (A7s j t)⟩⟩
 | .tuple _,e,b =>
  obtain⟨a,n,g,j,t⟩:=e;exact⟨a,g,.inr ⟨n,m.sub _ _ j,b _ _ (l.trans i) m (Bf1 j t)⟩⟩
 | .none,e,b=>exact b.elim
 | .bool _,e,b=>exact b.elim
 | .int _,e,b=>exact b.elim
 | .str _,e,b=>exact b.elim
 | .dict _,e,b=>trivial
def Iw (lo:Int)(n:Nat):List PyData:=(List.range n).map fun k=>.int (lo+(k:Nat))
theorem Bf7   : Au3 (Itr lo n) Hf (Iw lo n):=by
 intro i b H g f
 have l:(Iw lo n).length=n:=by unfold Iw;simp_all
 refine⟨fun e=>by show n<=i;omega,fun d a=>?_⟩
 have c:i<n:=by
  grind
 refine⟨c,fun x h ⟨e,q⟩=>?_⟩
 subst e;unfold Iw at a;rw[List.getElem?_map,List.getElem?_range c]at a
 cases a
 exact⟨b,Stp.refl,f,q⟩
def Ju (f:Ev->R PV):Ev->R (List PyData):=fun c=>(f c).bind fun p c=>match Ep c (nrm p) with
 | some (.int j)=>if j<=16000000/\-16000000<=j then .ok (Iw 0 j.toNat) c else .bad
 | _=>.bad
theorem Ko   (h:ME K t f):MI K (A2o (Ci t Fe)) (Ju f):=by
 intro g W c m k R s
 refine h.toV _ W c _ _ R (s.bnd.mono fun p n a v i b d e=>?_)
 match ex:Ep _ _,a with
 | some (.int j),a =>
  cases Du (Gi d e ex)
  by_cases l:j<=16000000/\-16000000<=j
  ·have a:(if j<=16000000/\-16000000<=j then U.R.ok _ _ else .bad).sat _:=a
   rw[if_pos l]at a
   exact⟨j,rfl,by omega,by omega,a _ _ b d Bf7⟩
  ·have a:(if j<=16000000/\-16000000<=j then U.R.ok _ _ else .bad).sat _:=a
   rw[if_neg l]at a;trivial
 | some .none,a=>exact a.elim
 | some (.bool _),a=>exact a.elim
 | some (.str _),a=>exact a.elim
 | some (.list _),a=>exact a.elim
 | some (.tuple _),a=>exact a.elim
 | some (.dict _),a=>exact a.elim
 | none,a=>exact a.elim
def Xj (d:Option PyData):Option Int:=match d with
 | some (.int i)=>some i
 | _=>none
theorem Yc   (h:Xj d=some i):d=some (.int i):=by
 unfold Xj at h
 grind
def Vb:PyData->Option (List PyData)
 | .list ds=>some ds
 | .tuple ds=>some ds
 | _=>none
theorem A3v    (h:Vb d=some ds) (t:Tr Hf d v):∃b a c,v=.ref a/\SqK b Hf a c/\TrL Hf ds c:=by
 cases d with
 | list l=>cases h;obtain⟨a,c,e,f,t⟩:=t;exact⟨false,a,c,e,f,t⟩
 | tuple l=>cases h;obtain⟨a,c,e,f,t⟩:=t;exact⟨true,a,c,e,f,t⟩
 | none=>cases h
 | bool _=>cases h
 | int _=>cases h
 | str _=>cases h
 | dict _=>cases h
theorem Ln    {c:Hp}(S:Same Hf c) (h:SqK b Hf a vs):SqK b c a vs:=by
 cases b
 ·exact S _ _ h
 ·exact S _ _ h
def Ro (xs ys:List PyData):List PyData:=(xs.zip ys).map fun p=>.tuple [p.1,p.2]
theorem Bg8     (ha:SqK t1 Hf a vs) (hb:SqK t2 Hf b us) (t:TrL Hf xs vs) (u:TrL Hf ys us):Au3 (Itz t1 t2 a b) Hf (Ro xs ys):=by
 intro i B H j f;have m:=Ln (j.trans f) ha;have k:=Ln (j.trans f) hb
 have l:(Ro xs ys).length=min xs.length ys.length:=by unfold Ro;simp_all
 refine⟨fun e=>⟨vs,us,m,k,by rw[<- t.length,<- u.length,e];omega⟩,fun d x=>?_⟩
 obtain⟨p,n,e⟩:=Ij x;rw[List.getElem?_zip_eq_some]at n;obtain⟨h,r,v⟩:=t.got n.1;obtain⟨c,s,w⟩:=u.got n.2
 refine⟨⟨vs,us,h,c,m,k,r,s⟩,fun z H' y=>?_⟩
 obtain⟨p,x',y',rfl,g,rfl,A,C⟩:=y;have:=A _ m;rw[r]at this;cases this;have:=C _ k;rw[s]at this;cases this;subst e;have q:=Bw (o:=.tup [h,c]) (Same.free f g);exact⟨upd _ p _,Stp.newF f g,Ry f,p,[h,c],rfl,Be,h,[c],rfl,Tr.same q (Tr.same j v),c,[],rfl,Tr.same q (Tr.same j w),rfl⟩
def A8r (f g:Ev->R PV):Ev->R (List PyData):=fun c=>(f c).bind fun p c=>(g c).bind fun q c=>(frz (nrm p) c).bind fun x c=>(frz (nrm q) c).bind fun y c=>match Vb x,Vb y with
 | some xs,some ys=>.ok (Ro xs ys) c
 | _,_=>.bad
theorem Bk3   (h:ME K t f) (h':ME K u g):MI K (Bm4 (Ci t (Ci u Fe))) (A8r f g):=by
 intro β W c σ k R s
 refine h.toV _ W c _ _ R (s.bnd.mono fun p c1 G v1 W1 l P v=>?_)
 refine h'.toV _ _ _ _ _ P (G.bnd.mono fun q c2 w v2 W2 i A B=>?_)
 obtain⟨x,c3,W3,_,C,D,e,E,F⟩:=Ik A (RepA.same i.fz v) w.bnd;obtain⟨y,c4,W4,_,j,r,d,m,I⟩:=Ik E (RepA.same e.fz B) C.bnd
 cases ex:Vb x with
 | none=>simp only[ex]at j;trivial
 | some xs =>
  cases ey:Vb y with
  | none=>simp only[ex,ey]at j;trivial
  | some ys =>
   simp only[ex,ey]at j;obtain⟨J,a,L,rfl,H,N⟩:=A3v ex F;obtain⟨M,b,O,rfl,n,o⟩:=A3v ey I;rw[<- D,<- r];have z:=Ln d.fz H;exact⟨a,b,rfl,J,M,L,O,Ln m.sub z,Ln m.sub n,j _ _ (l.trans (i.trans (e.trans d))) m (Bg8 z n (TrL.same d.fz N) o)⟩
def At7 (x:Str):List PyData:=x.cps.toList.map fun c=>.str ⟨#[c]⟩
def Al0 (f:Ev->R PV):Ev->R (List PyData):=fun c=>(f c).bind fun p c=>match Ep c (nrm p) with
 | some (.str x)=>.ok (At7 x) c
 | _=>.bad
theorem Bj0 {x:Str}:Au3 (Its x) Hf (At7 x):=by
 intro i b H s1 g
 have l:(At7 x).length=x.cps.size:=by unfold At7;simp_all
 refine⟨fun e=>by show i=x.cps.size;omega,fun d h=>?_⟩
 obtain⟨c,f,e⟩:=Ij h;rw[Array.getElem?_toList]at f
 have k:i<x.cps.size:=by
  grind
 refine⟨k,fun z H' j=>?_⟩
 obtain⟨rfl,c',a,rfl⟩:=j;rw[f]at a;cases a;subst e;exact⟨b,Stp.refl,g,rfl⟩
theorem Bc4 {t:TE}{f:Ev->R PV}(h:ME K t f):MI K (Be0 t) (Al0 f):=by
 intro g W c j k R s
 refine h.toV _ W c _ _ R (s.bnd.mono fun p l a v i b d e=>?_)
 match ex:Ep _ _,a with
 | some (.str x),a=>exact⟨x,Hd (Gi d e ex),a _ _ b d Bj0⟩
 | some (.int _),a=>exact a.elim
 | some .none,a=>exact a.elim
 | some (.bool _),a=>exact a.elim
 | some (.list _),a=>exact a.elim
 | some (.tuple _),a=>exact a.elim
 | some (.dict _),a=>exact a.elim
 | none,a=>exact a.elim
end
section
variable {K:PySem.W.Frag}{X:Cx}{Hf H:Hp}{Q:VK}{β:Nat->V}{W W':Wo}{c c':Ev}{σ:St}{v:V}{p:PV}{fp:List Addr}{i:Nat}{b:Bool}{ds ds':List PyData}
theorem Bl8 (R:Rep K β W c σ)(r:Eh K W σ p v fp):∃W',W'.H=W.H/\Stp (orS W.S fp) W.Hf W.H W'.S W'.Hf W'.H/\Rep K β W' c σ/\RepA K W'.Hf σ (nrm p) v:=by
 have f:Stp (orS W.S fp) W.Hf W.H _ _ _:=Stp.refl.up fun a z=>.inl z
 cases p with
 | sl i=>exact⟨W,rfl,f,R,r.2⟩
 | o o =>
  cases o with
  | im d=>exact⟨W,rfl,f,R,r.1.2⟩
  | sc d=>exact⟨W,rfl,f,R,r.1.2⟩
  | ty d=>exact⟨W,rfl,f,R,r.1.2⟩
  | ls b ds =>
   obtain⟨⟨a,h,rfl,rfl,g,j,t⟩,l⟩:=r
   refine⟨⟨upd _ a _,W.H,W.fps⟩,rfl,⟨Bw g,fun b o e _=>e,fun b o e mu n q=>?_,fun b z=>.inl (.inl z)⟩,Xi R g j (l a (.head _)),a,h,rfl,Be,TrL.same (Bw g) t⟩
   have k:b≠a:=fun z=>n (.inr (by grind))
   show upd _ a _ b=none
   rw[Ak k];grind
theorem Rep.mut (R:Rep K β W c σ)(hc:c[i]?=some (some (.ls b ds)))(hv:σ[i]?=some (some v)):∃a h,v=.ref a/\W.H a=some (.lst h)/\TrL W.Hf ds h /\
 ∀f d,TrL W.Hf f d->Rep K β ⟨W.Hf,upd W.H a (.lst d),W.fps⟩ (c.set i (some (.ls b f))) σ/\Stp W.S W.Hf W.H W.S W.Hf (upd W.H a (.lst d)):=by
 obtain⟨m,p,⟨a,h,rfl,w,A,H,t⟩,B⟩:=R.get i _ hc
 cases (show some _=some _ from p.symm.trans hv)
 have D:i<c.length:=by
  grind
 have s:a∈W.fps i:=by rw[w];exact .head _
 refine⟨a,h,rfl,H,t,fun f d F=>⟨⟨fun b u e=>?_,by rw[List.length_set];exact R.len,fun j o e=>?_,R.dis,fun j x g=>?_⟩,⟨Same.refl _,fun x o e n=>?_,fun x o e r n q=>q,fun x z=>.inl z⟩⟩⟩
 ·have E:b≠a:=fun z=>by rw[z,A]at e;cases e
  show upd _ a _ b=_
  rw[Ak E];exact R.sub b u e
 ·by_cases z:j=i
  ·subst z
   rw[List.getElem?_set_self D]at e
   cases e
   exact⟨.ref a,p,⟨a,d,rfl,w,A,Be,F⟩,B⟩
  ·rw[List.getElem?_set_ne fun y=>z y.symm]at e
   obtain⟨m,k,G,l⟩:=R.get j o e
   refine⟨m,k,G.mono (Same.refl _) fun x g=>⟨(R.own j x g).1,?_⟩,l⟩
   show upd _ a _ x=_
   rw[Ak];intro q;rw[q]at g;exact z (R.dis j i a g s)
 ·obtain⟨I,o,C,r⟩:=R.own j x g
  refine⟨I,?_⟩
  by_cases z:x=a
  ·exact⟨.lst _,by rw[z];exact Be,trivial⟩
  ·exact⟨o,by show upd _ a _ x=_;rw[Ak z];exact C,r⟩
 ·rw[Ak]
  ·exact e
  ·intro z;exact n ⟨i,by rw[z];exact s⟩
def slL (c:Ev)(p:PV):Option (Nat×Bool×List PyData):=match p with
 | .sl i=>match c[i]? with
  | some (some (.ls b ds))=>some (i,b,ds)
  | _=>none
 | _=>none
theorem Sx  (h:slL c p=some x):p=.sl x.1/\c[x.1]?=some (some (.ls x.2.1 x.2.2)):=by
 unfold slL at h
 grind
def Ql (fo fe:Ev->R PV):Ev->R PV:=fun c=>(fo c).bind fun p c=>if (slL c (nrm p)).isSome=true then (fe c).bind fun q c=>(frz (nrm q) c).bind fun d c=>match slL c (nrm p) with
 | some (i,b,ds)=>if ds.length<16000000 then .ok (.o (.im .none)) (c.set i (some (.ls b (ds++[d])))) else .bad
 | none=>.bad
 else .bad
theorem Ab7 {b:Wo}(R:Rep K β W c σ)(st:Stp b.S b.Hf b.H W.S W.Hf W.H)(s:∀v a d,Stp b.S b.Hf b.H (orS a.S d) a.Hf a.H->Rep K β a c σ->Eh K a σ (.o (.im .none)) v d->Q v a.H):Q .non W.H :=
 R.here (o:=.im .none)  rfl rfl fun v a d e f r=>s v _ _ (st.trans e) f r
theorem ty_list (R:Rep K β W c σ)(h:(slL c p).isSome=true)(r:RepA K W.Hf σ p v):tyV K "list" v W.H:=by
 obtain⟨x,d⟩:=Option.isSome_iff_exists.mp h;obtain⟨rfl,e⟩:=Sx d;obtain⟨a,f,rfl,b,_⟩:=R.mut e r;exact .inl ⟨rfl,f,SqL.of b⟩
theorem Ue  {v fe:Ev->R PV}(ho:ME K u v) (he:ME K o fe):ME K (tBM K "list" rAppF u (Ci o Fe)) (Ql v fe):=by
 intro β W c σ Q R s
 refine ho.toV _ W c _ _ R (s.bnd.mono fun p y f v1 W1 h r j=>?_)
 by_cases hs:(slL y (nrm p)).isSome=true
 ·rw[if_pos hs]at f
  refine⟨ty_list r hs j,he.toV _ _ _ _ _ r (f.bnd.mono fun q c2 D H W2 m z w=>?_)⟩
  obtain⟨d,A,W3,_,e,C,n,E,F⟩:=Ik z w D.bnd
  cases ex:slL A (nrm p) with
  | none=>simp only[ex]at e;exact e.elim
  | some x =>
   simp only[ex]at e;obtain⟨i,b,G⟩:=x;obtain⟨B,I⟩:=Sx ex;rw[B]at j;obtain⟨a,J,rfl,L,t,k⟩:=E.mut I j
   by_cases l:G.length<16000000
   ·rw[if_pos l]at e
    obtain⟨M,g⟩:=k _ _ (t.app (TrL.one F));rw[<- C]
    refine⟨a,H,J,rfl,rfl,L,by rw[<- t.length];exact Nat.lt_trans l (by decide),?_⟩
    exact Ab7 M (h.trans (m.trans (n.trans g))) e
   ·rw[if_neg l]at e;exact e.elim
 ·rw[if_neg hs]at f;exact f.elim
def Ji (fo fe:Ev->R PV):Ev->R PV:=fun c=>(fo c).bind fun p c=>if (slL c (nrm p)).isSome=true then (fe c).bind fun q c=>match slL c (nrm p),Xj (Ep c (nrm q)) with
 | some (i,b,ds),some k=>if ds.length<=16000000 then match ixN ds.length k with
  | some j=>match ds[j]? with
   | some d=>.ok (.o (.im d)) (c.set i (some (.ls b (ds.eraseIdx j))))
   | none=>.bad
  | none=>.bad
  else .bad
 | _,_=>.bad
 else .bad
theorem TrL.erase:∀{ds:List PyData}{vs:List V}(n:Nat),TrL Hf ds vs->TrL Hf (ds.eraseIdx n) (vs.eraseIdx n)
 | [],_,n,h=>by cases (show _=[] from h);exact rfl
 | d::ds,_,0,⟨v,r,rfl,_,t⟩=>t
 | d::ds,_,n+1,⟨v,r,rfl,q,t⟩=>⟨v,r.eraseIdx n,rfl,q,TrL.erase n t⟩
theorem TrL.setAt:∀{ds:List PyData}{vs:List V}(n:Nat) {d:PyData}{v:V},TrL Hf ds vs->Tr Hf d v->TrL Hf (ds.set n d) (vs.set n v)
 | [],_,n,d,v,h,_=>by cases (show _=[] from h);exact rfl
 | e::ds,_,0,d,v,⟨u,r,rfl,_,t⟩,q=>⟨v,r,rfl,q,t⟩
 | e::ds,_,n+1,d,v,⟨u,r,rfl,h,t⟩,q=>⟨u,r.set n v,rfl,h,TrL.setAt n t q⟩
theorem Ab0   (ho:ME K z G) (he:ME K F fe):ME K (tBM K "list" rPopAt z (Ci F Fe)) (Ji G fe):=by
 intro B W c H Q R s
 refine ho.toV B W c H _ R (s.bnd.mono fun p O g v1 W1 n A w=>?_)
 by_cases hs:(slL O (nrm p)).isSome=true
 ·rw[if_pos hs]at g
  refine⟨ty_list A hs w,he.toV B _ _ _ _ A (g.bnd.mono fun q D e v2 W2 h E I=>?_)⟩
  cases ex:slL D (nrm p) with
  | none=>simp only[ex]at e;exact e.elim
  | some x =>
   obtain⟨i,b,l⟩:=x
   cases ey:Xj (Ep D (nrm q)) with
   | none=>simp only[ex,ey]at e;exact e.elim
   | some k =>
    simp only[ex,ey]at e
    by_cases hl:l.length<=16000000
    case neg=>rw[if_neg hl]at e;exact e.elim
    rw[if_pos hl]at e
    cases ej:ixN l.length k with
    | none=>simp only[ej]at e;exact e.elim
    | some j =>
     simp only[ej]at e
     cases ed:l[j]? with
     | none=>simp only[ed]at e;exact e.elim
     | some d =>
      simp only[ed]at e;obtain⟨L,N⟩:=Sx ex;rw[L]at w
      cases Du (Gi E I (Yc ey))
      obtain⟨a,C,rfl,P,t,S⟩:=E.mut N w;obtain⟨y,M,U⟩:=t.got ed;obtain⟨T,q2,q3,q4⟩:=X8 ej;obtain⟨V,m⟩:=S _ _ (TrL.erase j t)
      have u:seqIndex? k C.length=some j:=by rw[<- t.length];exact T
      have f:-2 ^ 63<=k/\k<2 ^ 63:=by omega
      refine⟨a,C,k,j,y,rfl,rfl,P,f.1,f.2,u,M,?_⟩
      exact V.here (o:=.im d)  U rfl fun v W' fp X J r=>e v _ _ (n.trans (h.trans (m.trans X))) J r
 ·rw[if_neg hs]at g;exact g.elim
def Ad4 (fo fe:Ev->R PV):Ev->R PV:=fun c=>(fo c).bind fun p c=>if (slL c (nrm p)).isSome=true then (fe c).bind fun q c=>(frz (nrm q) c).bind fun d c=>match slL c (nrm p),d with
 | some (i,b,ds),.list es=>if ds.length+es.length<=16000000 then .ok (.o (.im .none)) (c.set i (some (.ls b (ds++es)))) else .bad
 | _,_=>.bad
 else .bad
theorem A0h {to te:TE}{fo fe:Ev->R PV}(ho:ME K to fo)(he:ME K te fe):ME K (tBM K "list" rExtend to (Ci te Fe)) (Ad4 fo fe):=by
 intro β W c σ Q R s
 refine ho.toV β W c σ _ R (s.bnd.mono fun p c1 s1 v1 W1 st1 R1 r1=>?_)
 by_cases hs:(slL c1 (nrm p)).isSome=true
 ·rw[if_pos hs]at s1
  refine⟨ty_list R1 hs r1,he.toV β W1 c1 σ _ R1 (s1.bnd.mono fun q c2 s2 v2 W2 st2 R2 r2=>?_)⟩
  obtain⟨d,c3,W3,_,s3,e3,st3,R3,t3⟩:=Ik R2 r2 s2.bnd
  cases ex:slL c3 (nrm p) with
  | none=>simp only[ex]at s3;exact s3.elim
  | some x =>
   obtain⟨i,b,ds⟩:=x;simp only[ex]at s3
   match d,t3,s3 with
   | .list es,t3,s3 =>
    obtain⟨ep,hc⟩:=Sx ex;rw[ep]at r1;obtain⟨a,vs,rfl,hH,t,k⟩:=R3.mut hc r1
    have s3:(if ds.length+es.length<=16000000 then U.R.ok (PV.o (.im .none)) (c3.set i (some (.ls b (ds++es)))) else .bad).sat _:=s3
    by_cases l:ds.length+es.length<=16000000
    ·rw[if_pos l]at s3
     obtain⟨b2,us,rfl,h2,t2⟩:=t3;obtain⟨R4,st4⟩:=k (ds++es) (vs++us) (t.app t2);rw[<- e3]
     refine⟨a,b2,vs,us,rfl,rfl,hH,R3.sub _ _ h2,by rw[<- t.length,<- t2.length];exact lim l,?_⟩
     exact Ab7 R4 (st1.trans (st2.trans (st3.trans st4))) s3
    ·rw[if_neg l]at s3;exact s3.elim
   | .none,t3,s3=>exact s3.elim
   | .bool _,t3,s3=>exact s3.elim
   | .int _,t3,s3=>exact s3.elim
   | .str _,t3,s3=>exact s3.elim
   | .tuple _,t3,s3=>exact s3.elim
   | .dict _,t3,s3=>exact s3.elim
 ·rw[if_neg hs]at s1;exact s1.elim
def Am7 (fo fi:Ev->R PV):PV->Ev->R Unit:=fun p c=>(frz (nrm p) c).bind fun d c=>(fo c).bind fun o c=>(fi c).bind fun q c=>match slL c (nrm o),Xj (Ep c (nrm q)) with
 | some (i,b,ds),some k=>match ixN ds.length k with
  | some j=>.ok () (c.set i (some (.ls b (ds.set j d))))
  | none=>.bad
 | _,_=>.bad
theorem A1s   (ho:ME K u A) (hi:ME K z fi):MG K (Bb4 u z A9b) (Am7 A fi):=by
 intro β W c σ p v fp k R r s;obtain⟨W0,M,l,C,F⟩:=Bl8 R r;obtain⟨d,c1,W1,_,D,E,n,G,I⟩:=Ik C F s.bnd;rw[<- M,<- E]
 refine ho.toV _ _ _ _ _ G (D.bnd.mono fun o c2 J v2 W2 g L w=>?_)
 refine hi.toV _ _ _ _ _ L (J.bnd.mono fun q y e v3 W3 f B N=>?_)
 cases ex:slL y (nrm o) with
 | none=>simp only[ex]at e;exact e.elim
 | some x =>
  obtain⟨i,b,O⟩:=x
  cases ey:Xj (Ep y (nrm q)) with
  | none=>simp only[ex,ey]at e;exact e.elim
  | some m =>
   simp only[ex,ey]at e
   cases ej:ixN O.length m with
   | none=>simp only[ej]at e;exact e.elim
   | some j =>
    simp only[ej]at e;obtain⟨H,Q⟩:=Sx ex;rw[H]at w
    cases Du (Gi B N (Yc ey))
    obtain⟨a,S,rfl,P,t,T⟩:=B.mut Q w;obtain⟨U,h⟩:=T _ _ (TrL.setAt j t (Tr.same (g.trans f).fz I))
    refine⟨a,S,m,j,rfl,rfl,P,by rw[<- t.length];exact ej,?_⟩
    exact e _ _ (l.trans (n.trans (g.trans (f.trans h)))) U
def Bi9 (i j:Nat)(f:Ev->R (List PV)):Ev->SR:=fun c=>(f c).toS fun ps c=>(frzs ps c).toS fun ds c=>match ds with
 | [x,y]=>.nx ((c.set i (some (.im x))).set j (some (.im y)))
 | _=>.bad
theorem A3z    (h:Wo.S ⟨W.Hf,W.H,clr W.fps i⟩ a):W.S a:=Ba1 h
theorem Be4    (h:MA K m f):MS K (Bl0 i j m) (Bi9 i j f):=by
 intro β W c σ D R l
 refine h _ W c _ _ R ((Fx l).mono fun ps c1 C vs W1 k t w=>?_)
 obtain⟨A,c2,n,b,s,g,q,d⟩:=Ow t w (Fx C)
 match A,d,b with
 | [x,y],d,b =>
  obtain⟨v,r,rfl,B,u,r',rfl,E,e⟩:=d
  cases (e)
  refine⟨v,u,rfl,?_⟩
  have p:=q.setN (i:=i) (o:=.im x) B rfl;rw[<- s]
  exact b _ ⟨n.Hf,n.H,clr _ j⟩ ((k.trans g).less fun a z=>A3z (A3z  z)) (p.setN (i:=j) (o:=.im y)  E rfl)
 | [],d,b=>trivial
 | [_],d,b=>trivial
 | _::_::_::_,d,b=>exact b.elim
def A1n (i j m:Nat)(f:Ev->R (List PV)):Ev->SR:=fun c=>(f c).toS fun ps c=>(frzs ps c).toS fun ds c=>match ds with
 | [x,y,z]=>.nx (((c.set i (some (.im x))).set j (some (.im y))).set m (some (.im z)))
 | _=>.bad
theorem A5q {i j m:Nat}{n:TA}{f:Ev->R (List PV)}(h:MA K n f):MS K (A4b i j m n) (A1n i j m f):=by
 intro β W c σ D R l
 refine h _ W c _ _ R ((Fx l).mono fun ps c1 s vs W1 k t A=>?_)
 obtain⟨B,c2,p,b,C,g,E,d⟩:=Ow t A (Fx s)
 match B,d,b with
 | [x,y,z],d,b =>
  obtain⟨v,r,rfl,G,u,r',rfl,F,w,H,rfl,I,e⟩:=d
  cases (e)
  refine⟨v,u,w,rfl,?_⟩
  have q:=(E.setN (i:=i) (o:=.im x) G rfl).setN (i:=j) (o:=.im y)  F rfl;rw[<- C]
  exact b _ ⟨p.Hf,p.H,clr _ m⟩ ((k.trans g).less fun a z=>A3z (A3z  (A3z  z))) (q.setN (i:=m) (o:=.im z)  I rfl)
 | [],d,b=>trivial
 | [_],d,b=>trivial
 | [_,_],d,b=>trivial
 | _::_::_::_::_,d,b=>exact b.elim
end
end U
set_option autoImplicit true
namespace L2
open PySem U
theorem Bs (ha:QE X a ta)(hb:QE X b tb):QE X (.BinOp a .Add b pos) (tOp Ba3 ta tb):=⟨Te Bi3 ha.get hb.get⟩
theorem Ws (hu:X.A.units+64<cLine)(ha:QE X a ta)(hb:QE X b tb):QE X (.Compare a [.Eq] [b] pos) (tOp rEQ ta tb):=⟨Oc (A9n hu) ha.get hb.get (Kp _)⟩
theorem Ox (hu:X.A.units+64<cLine)(ha:QE X a ta)(hb:QE X b tb):QT X (.Compare a [.Eq] [b] pos) (Kv (tOp rEQ ta tb)):=⟨Ml (A9n hu) ha.get hb.get (Kp _)⟩
theorem Bp9 (hu:X.A.units+64<cLine)(ha:QE X a ta)(hb:QE X b tb):QE X (.Compare a [.NotEq] [b] pos) (tOp rNE ta tb):=⟨Oc (A8y hu) ha.get hb.get (Kp _)⟩
theorem Wu (hu:X.A.units+64<cLine)(ha:QE X a ta)(hb:QE X b tb):QT X (.Compare a [.NotEq] [b] pos) (Kv (tOp rNE ta tb)):=⟨Ml (A8y hu) ha.get hb.get (Kp _)⟩
theorem Bo8 (hu:X.A.units+64<cLine)(ha:QE X a ta)(hb:QE X b tb)(hm:behindInMarks .In b=false):QE X (.Compare a [.In] [b] pos) (tOp rIN ta tb):=⟨Oc (Bs6 hu) ha.get hb.get hm⟩
theorem Ei  (a:X.K=Kq) (hgl:Gl X "len") (hm:X.mg "len" = none) (ha:QA X (e::es) t) (hns:noStar (e::es)=true:=by rfl):QE X (.Call (.Name "len" p) (e::es) [] pos) (tCB (A7h Kq) t):=by
 subst a
 exact⟨Fb A0k hgl hm Ag0 ha.get (by decide) (by rfl) hns⟩
theorem A0a  (a:X.K=Kq) (hu:X.A.units+64<cLine) (hg:X.A.guards=some []) (hgl:Gl X "str") (hm:X.mg "str" = none) (ha:QA X (e::es) t) (hns:noStar (e::es)=true:=by rfl):QE X (.Call (.Name "str" p) (e::es) [] pos) (tCB (Bd8 Kq) t):=by
 exact⟨Ha (U.CallR.or (U.CallR.or Xg (As9 hu hg)) Ar4) hgl hm U3 ha.get (by decide) (by rfl) hns⟩
theorem G3  (a:X.K=Kq) (he:QE X e te) (hl:QO X low tl) (hu:QO X hi th):QE X (.Subscript e (.Slice low hi none p2) pos) (tSl (rSL Kq) te tl th):=by
 subst a;exact A3d Bl6 he hl hu
end L2
namespace U
open PySem L2
def Def (P:Program)(w:World)(K:PySem.W.Frag)(mg:Str->Option Value)(base:Heap)(x:Str)(k:Nat)(ps:List Str)(sp:Sp):Prop :=
 ∃(f:Addr) (fd:FuncData),FnOk P w K mg base CX0 k f fd ps sp/\Binds K fd ps []/\PySem.W.keepIn K (.ref f)=true/\mg x=some (.ref f)
def Ap9 (K:PySem.W.Frag):Sp:=fun vs H Q _=>∃(a:Addr) (ns:List Int),vs=[.ref a]/\SqL K H a (ns.map V.int)/\ns.length<=63/\∀H',Q (.bl true) H'
theorem Be3   (f:∀b:List Int,b.length<=63->F [.sc b]=.ret (.im (.bool true)) [.sc b])     (h:Ap9 K vs H Q E):spP K F vs H Q E:=by
 obtain⟨a,b,rfl,c,d,q⟩:=h
 refine⟨fun _=>.non,⟨H,H,fun _=>[]⟩,[.sc b],rfl,rfl,⟨Same.refl _,rfl,fun i o e=>?_,fun i j a h=>by grind,fun i a h=>by grind⟩,?_⟩
 ·cases i with
  | zero =>
   cases (show some _=some _ from e)
   exact⟨.ref a,rfl,⟨rfl,a,rfl,c⟩,fun z=>nomatch z⟩
  | succ i=>grind
 ·rw[f _ d]
  intro v W' fp st R r n
  cases (show v=.bl _ from r.2)
  grind
theorem Bm0          : FnOk P w K mg base CX0 n f c ps (spP K fun _=>.bad) :=
 ⟨fun d H Q E h=>by obtain⟨_,_,_,_,_,_,h⟩:=h;simp_all,fun A a s H b e d Q E _ _ _ _ h=>by obtain⟨_,_,_,_,_,_,h⟩:=h;simp_all⟩
def Ak8 (i j:Int):Bool:=decide (0<j)&&decide (j<1073741824)
theorem A4u (i j:Int)(h:Ak8 i j=true):Az6 i j:=by
 obtain⟨b,a⟩:=Bool.and_eq_true_iff.mp h;exact⟨of_decide_eq_true b,of_decide_eq_true a⟩
def A1q (i j:Int):Bool:=decide (0<j)
theorem A2n (i j:Int)(h:A1q i j=true):0<j:=of_decide_eq_true h
def Z3 (i j:Int):Bool:=decide (0<=j)&&(decide (j<=1000000)&&decide (i.natAbs<2 ^ 64))
theorem A2m (i j:Int)(h:Z3 i j=true):A0n i j:=by
 obtain⟨c,a⟩:=Bool.and_eq_true_iff.mp h;obtain⟨a,b⟩:=Bool.and_eq_true_iff.mp a;exact⟨of_decide_eq_true c,of_decide_eq_true a,of_decide_eq_true b⟩
section
variable {K:PySem.W.Frag}
abbrev M9:PyData->PyData->Option O:=Vn fun i j=>.int (i-j)
abbrev A1g:PyData->PyData->Option O:=Vn fun i j=>.bool (decide (j<i))
abbrev Bc0:PyData->PyData->Option O:=Vn fun i j=>.bool (decide (j<=i))
theorem Jf:OpS K (rI0 fun i j=>.int (i-j)) M9:=Xq fun _ _ _=>rfl
theorem Ai7:OpS K (rI0 fun i j=>.bl (decide (j<i))) A1g:=Xq fun _ _ _=>rfl
theorem Bk8:OpS K (rI0 fun i j=>.bl (decide (j<=i))) Bc0:=Xq fun _ _ _=>rfl
abbrev Yu:PyData->PyData->Option O:=opI Ak8 fun i j=>i / j
abbrev O7:PyData->PyData->Option O:=opI A1q fun i j=>i % j
abbrev Ra:PyData->PyData->Option O:=opI Z3 fun i j=>i ^ j.toNat
theorem Ad6:OpS K (rI Az6 fun i j=>.int (i / j)) Yu:=Am6 A4u
theorem Jx:OpS K (rI (fun _ j=>0<j) fun i j=>.int (i % j)) O7:=Am6 A2n
theorem Mm:OpS K (rI A0n fun i j=>.int (i ^ j.toNat)) Ra:=Am6 A2m
def Bl4 (fa fb:Ev->R PV):Ev->R PV:=fun c=>(fa c).bind fun p c=>(fb c).bind fun q c=>match nrm p,Xj (Ep c (nrm q)) with
 | .o (.sc ns),some k=>match atI ns k with
  | some i=>.ok (.o (.im (.int i))) c
  | none=>.bad
 | _,_=>.bad
theorem A5s   (h:atI ns k=some i):atI (ns.map V.int) k=some (V.int i):=by
 unfold atI at h ⊢;obtain⟨j,b,a⟩:=Option.bind_eq_some_iff.mp h
 simp_all
theorem Bd3   (ha:ME K h fa) (hb:ME K j fb):ME K (tOp (rIx K) h j) (Bl4 fa fb):=by
 intro β W c σ Q R s
 refine ha.toV _ W c _ _ R (s.bnd.mono fun p c1 u v1 W1 f n d=>?_)
 refine hb.toV _ _ _ _ _ n (u.bnd.mono fun q t b v2 W2 e g m=>?_)
 have d:=RepA.same e.fz d
 cases ey:Xj (Ep t (nrm q)) with
 | none =>
  simp only[ey]at b;generalize nrm p=np at b
  cases np with
  | sl i=>trivial
  | o o=>cases o <;> exact b.elim
 | some k =>
  simp only[ey]at b;generalize nrm p=np at b d
  match np,d,b with
  | .o (.sc ns),d,b =>
   have b:(match atI ns k with
    | some i=>U.R.ok _ _
    | none=>.bad).sat _:=b
   cases ei:atI _ k with
   | none=>rw[ei]at b;trivial
   | some i =>
    rw[ei]at b;obtain⟨a,rfl,w⟩:=d
    cases Du (Gi g m (Yc ey))
    exact .inl ⟨a,_,k,.int i,rfl,rfl,Same.seq g.sub w,A5s ei,g.here (o:=.im (.int i))  rfl rfl fun v W' fp x l r=>b v _ _ (f.trans (e.trans x)) l r⟩
  | .o (.im _),d,b=>exact b.elim
  | .o (.ls _ _),d,b=>exact b.elim
  | .o (.ty _),d,b=>exact b.elim
  | .sl _,d,b=>trivial
end
section
variable {P:Program}{w:World}{K:PySem.W.Frag}{X:Cx}{Hf H:Hp}{Q:VK}{β:Nat->V}{W W':Wo}{c c':Ev}{σ:St}{v:V}
def cMt (isT:PyData->Bool)(op:PyData->PyData->Option O)(fa fb:Ev->R PV):Ev->R PV:=fun c=>(fa c).bind fun p c=>match Ep c (nrm p) with
 | some d=>if isT d=true then (fb c).bind fun q c=>match Ep c (nrm p),Ep c (nrm q) with
  | some x,some y=>match op x y with
   | some o=>.ok (.o o) c
   | none=>.bad
  | _,_=>.bad
  else .bad
 | none=>.bad
theorem Bn9       (ha:ME K l fa) (hb:ME K m fb)
 (n:∀(Hf H:Hp) (d:PyData) (v:V),a d=true->Same Hf H->RdV Hf H d v->tyV K T v H) (hr:OpS K (fun x y H Q=>r x [y] H Q) op):ME K (tBM K T r l (Ci m Fe)) (cMt a op fa fb):=by
 intro E W c C Q R s
 refine ha.toV _ W c _ _ R (s.bnd.mono fun p w e B D i h j=>?_)
 cases ed:Ep w (nrm p) with
 | none=>simp only[ed]at e;trivial
 | some d =>
  simp only[ed]at e
  by_cases it:a d=true
  case neg=>rw[if_neg it]at e;trivial
  rw[if_pos it]at e
  refine⟨n _ _ d _ it h.sub (Gi h j ed),?_⟩
  refine hb.toV _ _ _ _ _ h (e.bnd.mono fun q k b I J f g u=>?_)
  cases ex:Ep k (nrm p) with
  | none=>simp only[ex]at b;trivial
  | some x =>
   cases ey:Ep k (nrm q) with
   | none=>simp only[ex,ey]at b;trivial
   | some y =>
    simp only[ex,ey]at b
    cases eo:op x y with
    | none=>simp only[eo]at b;trivial
    | some o =>
     simp only[eo]at b
     exact hr _ _ _ _ x y o Q g.sub (Gi g (RepA.same f.fz j) ex) (Gi g u ey) eo (New.of g fun v F G z A t=>b v _ _ (i.trans (f.trans z)) A t)
def strsOf:List PyData->Option (List Str)
 | []=>some []
 | .str z::ds=>(strsOf ds).map (z::·)
 | _=>none
theorem A0r:∀{ds:List PyData}{ss:List Str}{vs:List V},strsOf ds=some ss->TrL Hf ds vs->vs=ss.map V.str
 | [],ss,vs,h,t=>by cases h;exact t
 | d::ds,ss,_,h,⟨v,r,rfl,h1,h2⟩=>by
  cases d with
  | str z =>
   have h:(strsOf ds).map (z::·)=some ss:=h
   cases e:strsOf ds with
   | none=>rw[e]at h;cases h
   | some ts =>
    rw[e]at h;cases h
    rw[A0r e h2,show v=V.str z from h1];rfl
  | _=>cases h
def O5:PyData->Option O
 | .tuple ds=>(strsOf ds).bind fun ss=>if ss.length<1000 then some (.im (.int ((dst (ss.map fun x=>(Sum.inr x:Key))).length:Nat))) else none
 | _=>none
theorem Ah8:UnS K (fun x H Q=>V5 P w K [x] H fun y H=>Hw P w [y] H Q) O5:=by
 intro Hf H x d o Q s c e n
 match d,c,e with
 | .tuple ds,c,e =>
  have e:((strsOf _).bind _)=some o:=e;obtain⟨a,vs,rfl,i,t⟩:=Ii s c
  cases es:strsOf ds with
  | none=>simp_all
  | some g =>
   rw[es]at e
   have e:(if g.length<1000 then some _ else none)=some o:=e
   split at e
   ·cases e
    cases A0r es t
    refine⟨a,_,g.map fun x=>(Sum.inr x),rfl,SqT.of i,?_,by simp_all,fun p f=>⟨p,_,rfl,Be,?_,?_⟩⟩
    ·rw[List.map_map,List.map_map];rfl
    ·exact Nat.lt_of_le_of_lt (Mh _ _ rfl) (by simp_all)
    ·refine n _ _ _ [] ⟨fun _ _ h=>h,fun b u e _=>?_,fun _ _ _ _ _ h=>h,fun _ h=>nomatch h⟩ (fun b u e=>?_) ⟨rfl,rfl⟩
     ·exact Bw f b u e
     ·exact Bw f b u (s b u e)
   grind
theorem Ay1 {t:TE}{f:Ev->R PV}(h:ME K t f):ME K (tCB (Hw P w) (Ci (tCB (V5 P w K) (Ci t Fe)) Fe)) (cUn O5 f):=M6 (r:=fun x H Q=>V5 P w K _ H _) h Ah8
end
end U
namespace L2
open PySem U
end L2
namespace U
open PySem L2 PySem.W
end U
namespace U
open PySem L2
section
variable {K:PySem.W.Frag}{Hf H:Hp}
def Af3:PyData->Bool
 | .list _=>true
 | _=>false
theorem Bg6 (Hf H:Hp)(d:PyData)(v:V)(h:Af3 d=true)(s:Same Hf H)(r:RdV Hf H d v):tyV K "list" v H:=by
 cases d with
 | list ds =>
  obtain⟨a,c,rfl,b,t⟩:=Fv r;exact .inl ⟨rfl,c,SqL.of b⟩
 | _=>cases h
def A4z:List Bool->Option Nat
 | []=>none
 | true::_=>some 0
 | false::r=>(A4z r).map (·+1)
theorem Ap0:∀{bs:List Bool}{j:Nat},A4z bs=some j->bs[j]?=some true/\∀m<j,bs[m]?≠some true
 | true::r,j,h=>by cases h;exact⟨rfl,fun m hm=>by omega⟩
 | false::r,j,h=>by
  obtain⟨k,h1,rfl⟩:=Option.map_eq_some_iff.mp (show (A4z r).map (·+1)=some j from h)
  obtain⟨q1,q2⟩:=Ap0 h1
  refine⟨by rw[List.getElem?_cons_succ];exact q1,fun m hm=>?_⟩
  cases m with
  | zero=>simp
  | succ m=>rw[List.getElem?_cons_succ];exact q2 m (by omega)
def Tc:PyData->PyData->Option O
 | .list ds,.bool true=>(boolsOf ds).bind fun bs=>(A4z bs).bind fun j=>if j<1000000 then some (.im (.int (j:Nat))) else none
 | _,_=>none
theorem Ae3:OpS K (fun x y H Q=>Al4 K x [y] H Q) Tc:=by
 intro Hf H x y dx dy o Q s rx ry e n;unfold Tc at e
 split at e
 ·rename_i ds
  obtain⟨bs,e1,e2⟩:=Option.bind_eq_some_iff.mp (show ((boolsOf ds).bind fun bs=>(A4z bs).bind fun j=>if j<1000000 then some (O.im (.int (j:Nat))) else none)=some o from e)
  obtain⟨j,e3,e4⟩:=Option.bind_eq_some_iff.mp e2
  by_cases hb:j<1000000
  ·rw[if_pos hb]at e4
   cases e4
   obtain⟨a,vs,rfl,h1,t⟩:=Fv rx
   cases Yq e1 t
   cases (show y=.bl true from ry)
   obtain⟨q1,q2⟩:=Ap0 e3;exact⟨a,bs,j,rfl,rfl,SqL.of h1,q1,q2,hb,n.int s⟩
  ·rw[if_neg hb]at e4;cases e4
 ·cases e
end
inductive XF where
 | ret (o:O)
 | ex (nm:Str)
 | bad
inductive XS where
 | s (r:SR)
 | ex (nm:Str) (c:Ev)
def spX (K:PySem.W.Frag)(F:List PyData->XF):Sp:=fun vs H Q E=>∃(Hf:Hp) (ds:List PyData),Same Hf H/\TrL Hf ds vs/\match F ds with
 | .bad=>False
 | .ret o=>∀v Hf' H' fp,Stp (fun _=>False) Hf H (fun a=>a∈fp) Hf' H'->Same Hf' H'->RepO K Hf' H' o v fp->Q v H'
 | .ex nm=>∀C Hf' H',PySem.W.nsIn K mainGlobals nm=some (some (.ref C))->Stp (fun _=>False) Hf H (fun _=>False) Hf' H'->Same Hf' H'->E (.ref C) none H'
def LeadX (K:PySem.W.Frag)(β:Nat->V)(W:Wo)(D:Ends)(E:XK):XS->Prop
 | .s r=>zG K β W D r
 | .ex nm c'=>∀C σ' W',PySem.W.nsIn K mainGlobals nm=some (some (.ref C))->Stp W.S W.Hf W.H W'.S W'.Hf W'.H->Rep K β W' c' σ'->E (.ref C) none W'.H
def MX (K:PySem.W.Frag)(E:XK)(T:TS)(f:Ev->XS):Prop:=∀(β:Nat->V) (W:Wo) (c:Ev) (σ:St) (D:Ends),Rep K β W c σ->LeadX K β W D E (f c)->T D σ W.H
def M7 (f:Ev->SR):Ev->XS:=fun c=>.s (f c)
def Vc (f g:Ev->XS):Ev->XS:=fun c=>match f c with
 | .s (.nx c)=>g c
 | r=>r
def xIf (t:Ev->R Bool)(f g:Ev->XS):Ev->XS:=fun c=>match t c with
 | .ok b c=>if b=true then f c else g c
 | .bad=>.s .bad
def Ug (nm:Str)(fa:Ev->R (List PV)):Ev->XS:=fun c=>match fa c with
 | .ok _ c=>.ex nm c
 | .bad=>.s .bad
def scO:O->Bool
 | .im .none=>true
 | .im (.bool _)=>true
 | .im (.int _)=>true
 | .im (.str _)=>true
 | _=>false
def Al5 (F:List PyData->XF)(fa:Ev->R (List PV))(k:O->Ev->XS)(h:Str->Ev->XS):Ev->XS:=fun c=>match fa c with
 | .bad=>.s .bad
 | .ok ps c=>match Wx c ps with
  | none=>.s .bad
  | some ds=>match F ds with
   | .bad=>.s .bad
   | .ret o=>if scO o=true then k o c else .s .bad
   | .ex nm=>h nm c
def Ah1 (n N:Nat)(body:Ev->XS):List PyData->XF:=fun ds=>if ds.length=n then match body (ds.map (fun d=>some (.im d))++List.replicate (N-n) none) with
 | .s (.nx _)=>.ret (.im .none)
 | .s (.rt p c)=>match resolve p c with
  | some (o,_)=>.ret o
  | none=>.bad
 | .ex nm _=>.ex nm
 | _=>.bad
 else .bad
section
variable {K:PySem.W.Frag}{β:Nat->V}{W W':Wo}{c c':Ev}{σ σ':St}{D:Ends}{E:XK}{Hf H:Hp}{o:O}{v:V}{fp:List Addr}
theorem LeadX.step {r:XS}(h:LeadX K β W D E r)(st:Stp W.S W.Hf W.H W'.S W'.Hf W'.H):LeadX K β W' D E r:=by
 cases r with
 | s r=>exact zG.step h st
 | ex nm c=>exact fun C σ2 W2 hn st2 R2=>h C σ2 W2 hn (st.trans st2) R2
theorem Je {T:TS}{f:Ev->SR}(h:MS K T f):MX K E T (M7 f):=fun β W c σ D R l=>h β W c σ D R l
theorem Nr {T U:TS}{f g:Ev->XS}(h1:MX K E T f)(h2:MX K E U g):MX K E (Ay7 T U) (Vc f g):=by
 intro β W c σ D R l
 refine h1 β W c σ _ R ?_
 unfold Vc at l
 cases e:f c with
 | ex nm c1=>rw[e]at l;exact l
 | s r =>
  rw[e]at l
  cases r with
  | nx c1=>exact fun σ' W1 st R1=>h2 β W1 c1 σ' D R1 (LeadX.step l st)
  | rt p c1=>exact l
  | bk c1=>exact l
  | ct c1=>exact l
  | bad=>exact l
theorem A9h {tc:TT}{T U:TS}{ft:Ev->R Bool}{f g:Ev->XS}(h:MT K tc ft)(h1:MX K E T f)(h2:MX K E U g):MX K E (A5e tc T U) (xIf ft f g):=by
 intro β W c σ D R l;unfold xIf at l
 refine h β W c σ _ R ?_
 cases e:ft c with
 | bad=>rw[e]at l;exact l
 | ok b c1 =>
  rw[e]at l;intro W1 st R1
  cases b with
  | true=>exact h1 β W1 c1 σ D R1 (LeadX.step l st)
  | false=>exact h2 β W1 c1 σ D R1 (LeadX.step l st)
theorem Zy {nm:Str}{C:Addr}{t:TA}{fa:Ev->R (List PV)}(hn:PySem.W.nsIn K mainGlobals nm=some (some (.ref C)))(ha:MA K t fa)(hl:∀c ps c',fa c=.ok ps c'->ps.length<=1000):MX K E (Af1 C E t) (Ug nm fa):=by
 intro β W c σ D R l;unfold Ug at l
 refine ha β W c σ _ R ?_
 cases e:fa c with
 | bad=>rw[e]at l;exact l
 | ok ps c1 =>
  rw[e]at l;intro vs W1 st R1 r1
  have:∀{ps:List PV} {vs:List V},zH K W1.Hf σ ps vs->vs.length=ps.length:=fun {ps}=>by
   induction ps with
   | nil=>intro vs h;cases (show vs=[] from h);rfl
   | cons p r ih=>intro vs h;obtain⟨v,vr,rfl,_,t⟩:=h;rw[List.length_cons,List.length_cons,ih t]
  exact⟨by rw[this r1];exact Nat.le_trans (hl c ps c1 e) (by decide),l C σ W1 hn st R1⟩
theorem A3s (s:Same Hf H):∀{ds:List PyData}{vs:List V},A3q Hf H ds vs->TrL H ds vs
 | [],vs,h=>h
 | d::ds,_,⟨v,r,rfl,h,t⟩=>⟨v,r,rfl,h.tr s,A3s s t⟩
theorem Bd5 {Hf' H':Hp}(h:scO o=true)(r:RepO K Hf' H' o v fp)(W2:Wo)(σ:St):Eh K W2 σ (.o o) v []:=by
 unfold scO at h
 split at h
 ·exact⟨⟨rfl,r.2⟩,fun a z=>nomatch z⟩
 ·exact⟨⟨rfl,r.2⟩,fun a z=>nomatch z⟩
 ·exact⟨⟨rfl,r.2⟩,fun a z=>nomatch z⟩
 ·exact⟨⟨rfl,r.2⟩,fun a z=>nomatch z⟩
 ·cases h
theorem Ib {S:Addr->Prop}{H':Hp}(s:Same H H'):Stp S Hf H S Hf H':=⟨Same.refl _,fun a o e _=>s a o e,fun a o e mu n q=>q,fun a z=>.inl z⟩
theorem A2j {F:List PyData->XF}{fa:Ev->R (List PV)}{t:TA}{k:O->Ev->XS}{h:Str->Ev->XS}{Q:VK}{E':XK}(ha:MA K t fa)(R:Rep K β W c σ)(l:LeadX K β W D E (Al5 F fa k h c))
 (hk:∀o c1 W2 v,Stp W.S W.Hf W.H W2.S W2.Hf W2.H->Rep K β W2 c1 σ->LeadX K β W D E (k o c1)->Eh K W2 σ (.o o) v []->Q v W2.H)
 (hh:∀nm c1 W2 C,Stp W.S W.Hf W.H W2.S W2.Hf W2.H->Rep K β W2 c1 σ->LeadX K β W D E (h nm c1)->PySem.W.nsIn K mainGlobals nm=some (some (.ref C))->E' (.ref C) none W2.H) :
 t σ W.H fun vs H1=>spX K F vs H1 Q E':=by
 unfold Al5 at l
 refine ha β W c σ _ R ?_
 cases e:fa c with
 | bad=>rw[e]at l;exact l
 | ok ps c1 =>
  rw[e]at l;intro vs W1 st R1 r1
  cases ea:Wx c1 ps with
  | none=>simp only[ea]at l;exact l.elim
  | some ds =>
   simp only[ea]at l
   refine⟨W1.H,ds,Same.refl _,A3s R1.sub (Az1 R1 r1 ea),?_⟩
   have still:∀{Hf' H':Hp} {fp:List Addr},Stp (fun _=>False) W1.H W1.H (fun a=>a∈fp) Hf' H'->Same Hf' H'->Stp W.S W.Hf W.H (Wo.S ⟨W1.Hf,H',W1.fps⟩) W1.Hf H'/\Rep K β ⟨W1.Hf,H',W1.fps⟩ c1 σ:=fun {Hf' H' fp} s2 sub=>by
    have sm:Same W1.H H':=fun a o e=>sub a o (s2.fz a o e)
    exact⟨st.trans (Ib sm),Stp.rep (S':=fun _=>False) R1 (Ib sm) fun a o e=>sm a o (R1.sub a o e)⟩
   cases ef:F ds with
   | bad=>simp only[ef]at l;exact l.elim
   | ret o =>
    simp only[ef]at l;intro v Hf' H' fp s2 sub r
    by_cases hs:scO o=true
    ·rw[if_pos hs]at l
     obtain⟨s3,R3⟩:=still s2 sub;exact hk o c1 ⟨W1.Hf,H',W1.fps⟩ v s3 R3 l (Bd5 hs r _ _)
    ·rw[if_neg hs]at l;exact l.elim
   | ex nm =>
    simp only[ef]at l;intro C Hf' H' hn s2 sub
    obtain⟨s3,R3⟩:=still (fp:=[]) (s2.less fun a z=>nomatch z) sub
    exact hh nm c1 ⟨W1.Hf,H',W1.fps⟩ C s3 R3 l hn
theorem Ao3 {n N:Nat}{body:Ev->XS}{vs:List V}{Q:VK}(hs:spX K (Ah1 n N body) vs H Q E):vs.length=n:=by
 obtain⟨Hf,ds,sub,t,hf⟩:=hs;unfold Ah1 at hf
 by_cases hn:ds.length=n
 ·rw[<- t.length];exact hn
 ·rw[if_neg hn]at hf;exact hf.elim
theorem An1 {n:Nat}{N:List Str}{body:Ev->XS}{T:TS}{vs:List V}{Q:VK}(h:MX K E T body)(hs:spX K (Ah1 n N.length body) vs H Q E):T { nx:=fun _ H'=>Q .non H',rt:=Q } (start N vs) H:=by
 obtain⟨Hf,ds,sub,t,hf⟩:=hs;unfold Ah1 at hf
 by_cases hn:ds.length=n
 ·rw[if_pos hn]at hf
  have hl:=t.length
  let W:Wo:=⟨Hf,H,fun _=>[]⟩
  have R:Rep K (fun _=>.non) W (ds.map (fun d=>some (.im d))++List.replicate (N.length-n) none) (start N vs):=by
   refine⟨sub,?_,fun i o e=>?_,(fun i j a z=>nomatch z),fun i a z=>nomatch z⟩
   ·show _=(vs.map some++List.replicate (N.length-vs.length) none).length
    rw[List.length_append,List.length_append,List.length_map,List.length_map,List.length_replicate,List.length_replicate,<- hl,hn]
   ·by_cases li:i<ds.length
    ·rw[List.getElem?_append_left (by rw[List.length_map];exact li),List.getElem?_map]at e
     cases ed:ds[i]? with
     | none=>rw[ed]at e;cases e
     | some d =>
      rw[ed]at e;cases e;obtain⟨v,ev,tv⟩:=t.got ed
      refine⟨v,?_,⟨rfl,tv⟩,fun z=>nomatch z⟩
      show (vs.map some++List.replicate (N.length-vs.length) none)[i]?=_
      rw[List.getElem?_append_left (by rw[List.length_map,<- hl];exact li),List.getElem?_map,ev];rfl
    ·rw[List.getElem?_append_right (by rw[List.length_map];exact Nat.le_of_not_lt li),List.getElem?_replicate]at e
     split at e <;> cases e
  have noS:∀a,W.S a->False:=fun a ⟨i,z⟩=>nomatch z
  refine h _ W _ (start N vs) _ R ?_
  cases eb:body (ds.map (fun d=>some (.im d))++List.replicate (N.length-n) none) with
  | ex nm c1 =>
   rw[eb]at hf
   exact fun C σ1 W1 hn st R1=>hf C W1.Hf W1.H hn ⟨st.fz,fun a o e _=>st.kp a o e (noS a),fun a o e mu _ q=>st.nf a o e mu (noS a) q,fun a z=>z.elim⟩ R1.sub
  | s r =>
   rw[eb]at hf
   cases r with
   | nx c1=>exact fun σ1 W1 st R1=>hf .non W1.Hf W1.H [] ⟨st.fz,fun a o e _=>st.kp a o e (noS a),fun a o e mu _ q=>st.nf a o e mu (noS a) q,fun a z=>nomatch z⟩ R1.sub ⟨rfl,rfl⟩
   | rt p c1 =>
    intro σ1 v W1 fp st R1 r1
    cases er:resolve p c1 with
    | none=>simp only[er]at hf
    | some q =>
     obtain⟨o,c2⟩:=q;simp only[er]at hf;obtain⟨W2,fp2,e1,e2,R2,r2,n2,s2⟩:=Ul R1 r1 er;rw[<- e2]
     refine hf v W2.Hf W2.H fp2 ?_ R2.sub r2
     rw[e1,e2]
     refine⟨st.fz,fun a o e _=>st.kp a o e (noS a),fun a o e mu _ q=>st.nf a o e mu (noS a) q,fun a z=>?_⟩
     rcases st.fr a (s2 a (.inr z)) with y | y
     ·exact(noS a y).elim
     ·exact .inr y
   | bk c1=>exact hf.elim
   | ct c1=>exact hf.elim
   | bad=>exact hf.elim
 ·rw[if_neg hn]at hf;exact hf.elim
end
end U
set_option autoImplicit true
namespace U
open PySem L2
def O2 (tbl:List (Str×Bool))(f:Ev->R PV):Ev->R PV:=fun c=>(f c).bind fun p c=>match rdP c p with
 | some (.ty (.xc nm))=>match tbl.lookup nm with
  | some b=>.ok (.o (.im (.bool b))) c
  | none=>.bad
 | _=>.bad
def Az4 (f:Ev->R PV):Ev->R PV:=fun c=>(f c).bind fun p c=>match rdP c p with
 | some (.ty (.xc _))=>.ok (.o (.im (.bool false))) c
 | some (.im .none)=>.ok (.o (.im (.bool true))) c
 | _=>.bad
section
variable {K:PySem.W.Frag}{β:Nat->V}{W W':Wo}{c c':Ev}{σ σ':St}{D:Ends}{E:XK}{Hf H:Hp}{o:O}{v:V}{fp:List Addr}
theorem A1i {p:PV}{nm:Str}(R:Rep K β W c σ)(r:Eh K W σ p v fp)(e:rdP c p=some (.ty (.xc nm))):RepN K W.Hf (.ty (.xc nm)) v:=by
 cases p with
 | o o1=>cases e;exact r.1.2
 | sl i =>
  have e:(c[i]?).join=some (.ty (.xc nm)):=e
  have e2:c[i]?=some (some (.ty (.xc nm))):=by
   cases q:c[i]? with
   | none=>rw[q]at e;cases e
   | some x=>
    rw[q]at e;cases x with
     | none=>cases e
     | some y=>cases e;rfl
  obtain⟨v',e3,r3,_⟩:=R.get i _ e2;have h:σ[i]?=some (some v):=r.2;rw[h]at e3;cases e3;exact r3.2
theorem Ov {te:TE}{f:Ev->R PV}{cv:V}{z:Value}{tbl:List (Str×Bool)}(hz:Bb7 cv=some z)(ht:∀nm b,tbl.lookup nm=some b->∀C,PySem.W.nsIn K mainGlobals nm=some (some (.ref C))->Qc K C/\PySem.W.kitOne K (.ref C) z=some b)(h:ME K te f) :
 ME K (tCB (Ai5 K) (Ci te (Ci (tC cv) Fe))) (O2 tbl f):=by
 intro β W c σ Q R s
 refine h β W c σ _ R ((s.bnd).mono fun p c1 s1 v1 W1 fp1 st1 R1 r1=>?_)
 cases ed:rdP c1 p with
 | none=>simp only[ed]at s1;exact s1.elim
 | some o =>
  simp only[ed]at s1
  match o,ed,s1 with
  | .ty (.xc nm),ed,s1 =>
   cases el:tbl.lookup nm with
   | none=>simp only[el]at s1;exact s1.elim
   | some b =>
    simp only[el]at s1;obtain⟨a,C,e,hn,hf⟩:=A1i R1 r1 ed;subst e;obtain⟨x1,x2⟩:=ht nm b el C hn
    refine⟨a,C,cv,z,b,rfl,R1.sub _ _ hf,x1,hz,x2,?_⟩
    exact s1 (.bl b) W1 [] (st1.less fun a z=>by
     rcases z with z | z
     ·exact .inl z
     ·cases z) R1 ⟨⟨rfl,rfl⟩,fun a z=>nomatch z⟩
  | .ty (.nm _),ed,s1=>exact s1.elim
  | .ty (.tc _),ed,s1=>exact s1.elim
  | .ty (.dc _ _),ed,s1=>exact s1.elim
  | .ty (.dt _ _),ed,s1=>exact s1.elim
  | .ty (.ds _ _),ed,s1=>exact s1.elim
  | .ty (.td _ _ _),ed,s1=>exact s1.elim
  | .im _,ed,s1=>exact s1.elim
  | .ls _ _,ed,s1=>exact s1.elim
  | .sc _,ed,s1=>exact s1.elim
theorem Bg7 {p:PV}(R:Rep K β W c σ)(r:Eh K W σ p v fp)(e:rdP c p=some (.im .none)):v=.non:=by
 cases p with
 | o o1=>cases e;exact r.1.2
 | sl i =>
  have e:(c[i]?).join=some (.im .none):=e
  have e2:c[i]?=some (some (.im .none)):=by
   cases q:c[i]? with
   | none=>rw[q]at e;cases e
   | some x=>
    rw[q]at e;cases x with
     | none=>cases e
     | some y=>cases e;rfl
  obtain⟨v',e3,r3,_⟩:=R.get i _ e2;have h:σ[i]?=some (some v):=r.2;rw[h]at e3;cases e3;exact r3.2
theorem A5d {te:TE}{f:Ev->R PV}(h:ME K te f):ME K (tOp (fun x y H Q=>y=.non/\Q (.bl (decide (x=.non))) H) te (tC .non)) (Az4 f):=by
 intro β W c σ Q R s
 refine h β W c σ _ R ((s.bnd).mono fun p c1 s1 v1 W1 fp1 st1 R1 r1=>?_)
 refine⟨rfl,?_⟩
 have fin:∀b:Bool,(∀v W' fp,Stp W.S W.Hf W.H (orS W'.S fp) W'.Hf W'.H->Rep K β W' c1 σ->Eh K W' σ (.o (.im (.bool b))) v fp->Q v W'.H)->Q (.bl b) W1.H:=fun b k=>k (.bl b) W1 [] (st1.less fun a z=>by
  rcases z with z | z
  ·exact .inl z
  ·cases z) R1 ⟨⟨rfl,rfl⟩,fun a z=>nomatch z⟩
 cases ed:rdP c1 p with
 | none=>simp only[ed]at s1;exact s1.elim
 | some o =>
  simp only[ed]at s1
  match o,ed,s1 with
  | .ty (.xc nm),ed,s1 =>
   obtain⟨a,C,e,_⟩:=A1i R1 r1 ed;subst e;exact fin false s1
  | .im .none,ed,s1=>cases Bg7 R1 r1 ed;exact fin true s1
  | .im (.bool _),ed,s1=>exact s1.elim
  | .im (.int _),ed,s1=>exact s1.elim
  | .im (.str _),ed,s1=>exact s1.elim
  | .im (.list _),ed,s1=>exact s1.elim
  | .im (.tuple _),ed,s1=>exact s1.elim
  | .im (.dict _),ed,s1=>exact s1.elim
  | .ty (.nm _),ed,s1=>exact s1.elim
  | .ty (.tc _),ed,s1=>exact s1.elim
  | .ty (.dc _ _),ed,s1=>exact s1.elim
  | .ty (.dt _ _),ed,s1=>exact s1.elim
  | .ty (.ds _ _),ed,s1=>exact s1.elim
  | .ty (.td _ _ _),ed,s1=>exact s1.elim
  | .ls _ _,ed,s1=>exact s1.elim
  | .sc _,ed,s1=>exact s1.elim
end
end U
set_option autoImplicit true
namespace L2
open PySem PySem.Spec PyProof.Rows PySem.W
section
variable {P:Program}{w:World}{K:PySem.W.Frag}{mg:Str->Option Value}{base:Heap}
theorem Fun.okX {x qual:Str}{st:Stmt}{f:Addr}{fd:FuncData}{N ps:List Str}{k:Nat}{sp:Sp}(F:Fun K x qual st f fd)(S:Ce N ps (Ao st))(len:∀vs H Q E,sp vs H Q E->vs.length=ps.length)
 (hbody:∀(cdv:Value) (A:Around) (outer:List Env) (s:Shared) (H:Hp) (vs:List V) (Q:VK) (E:XK),Room k (A.deeper (envOfC qual (Ao st) s.heap.objs.size f cdv))->sp vs H Q E ->
  ∃t,PSs (Iv (CXe P w) P w K mg base N qual (Ao st) f cdv A outer s H E) (Ds st) t/\t { nx:=fun _ H'=>Q .non H',rt:=Q } (start N vs) H):FnOk P w K mg base (CXe P w) (k+1) f fd ps sp:=by
 obtain⟨oc,od,kV,doc,pm,an,cdv,ct,osl,rfl,lk,hcd⟩:=F.ex
 exact A2z lk hcd S len fun A outer s H vs Q E hr hsp=>hbody cdv A outer s H vs Q E hr hsp
end
section
variable {X:Cx}{x y n v:Str}{C Fc f:Addr}{np cpos pos p epos yp hpos vp:Pos}{e:Expr}{es:List Expr}{t:TA}{E:XK}{k j i:Nat}{fd:FuncData}{ps:List Str}{sp:Sp}{b₀:Stmt}{suite:List Stmt}{th:TS}
theorem Ac1 (hR:Raises X E)(hc:X.calm=true)(hg:Gl X x)(hm:X.mg x=some (.ref C))(hq:excIn X.K C bmV "ValueError.__new__" = true) (ha:QA X (e::es) t) (hdb:(x==("__debug__" : Str))=false:=by decide)
 (he:starEach (e::es) X.env=(false,eval e X.env)::starEach es X.env:=by rfl) (hpl:(backTo cpos (starEach es X.env)).any (·.1)=false:=by rfl) :
 QS X (.Raise (some (.Call (.Name x np) (e::es) [] cpos)) none pos) (Af1 C E t):=⟨A2e hR hc hg hm hq ha.get hdb he hpl⟩
theorem Jo {D:Addr}(hg:Gl X y)(hm:X.mg y=some (.ref D))(hdb:(y==("__debug__" : Str))=false:=by decide):QE X (.Name y p) (tC (.ref D)):=⟨Bd7 hg hm hdb⟩
theorem Pj {Kq:PySem.W.Frag}(hKq:X.K=Kq)(hgl:Gl X "isinstance") (hm:X.mg "isinstance" = none) (ha:QA X (e::es) t) (hn:noStar (e::es)=true:=by rfl):QE X (.Call (.Name "isinstance" p) (e::es) [] pos) (tCB (Ai5 Kq) t):=by
 subst hKq
 exact⟨Fb At4 hgl hm Hg ha.get (by decide) (by decide) hn⟩
theorem Vk:bootBuiltins "ValueError" = some (.type "ValueError"):=by decide +kernel
end
def TbOk (K:PySem.W.Frag)(z:Value)(tbl:List (Str×Bool)):Prop:=∀nm b,tbl.lookup nm=some b->∀C,PySem.W.nsIn K mainGlobals nm=some (some (.ref C))->Qc K C/\PySem.W.kitOne K (.ref C) z=some b
def ExOk (K:PySem.W.Frag)(Fc:Addr)(NS:List Str):Prop:=∀nm∈NS,∀C,PySem.W.nsIn K mainGlobals nm=some (some (.ref C))->PySem.W.exmOne K (.ref C) (.ref Fc)=some true
def ClT (K:PySem.W.Frag)(mg:Str->Option Value)(tbl:List (Str×Bool))(T:Str):Prop:=∃g,mg T=some (.ref g)/\TbOk K (.ref g) tbl
def ClF (K:PySem.W.Frag)(mg:Str->Option Value)(NS:List Str)(T:Str):Prop:=∃g,mg T=some (.ref g)/\ExOk K g NS
def ClR (K:PySem.W.Frag)(mg:Str->Option Value)(T:Str):Prop:=∃g,mg T=some (.ref g)/\PySem.W.nsIn K mainGlobals T=some (some (.ref g))/\excIn K g bmV "ValueError.__new__" = true
section
variable {K:PySem.W.Frag}{z:Value}{tbl:List (Str×Bool)}{x:Str}{g Fc:Addr}{b:Bool}{NS:List Str}
theorem TbOk.nil:TbOk K z []:=fun _ _ e=>nomatch e
theorem TbOk.cons (n:PySem.W.nsIn K mainGlobals x=some (some (.ref g)))(X:Qc K g)(k:PySem.W.kitOne K (.ref g) z=some b)(t:TbOk K z tbl):TbOk K z ((x,b)::tbl):=fun nm b' e C hn=>by
 rw[List.lookup_cons]at e
 cases q:nm==x with
 | true =>
  rw[q]at e
  cases e
  cases (beq_iff_eq.mp q)
  rw[n]at hn
  cases hn
  exact⟨X,k⟩
 | false=>rw[q]at e;exact t nm b' e C hn
theorem ExOk.nil:ExOk K Fc []:=fun _ z=>nomatch z
theorem ExOk.cons (n:PySem.W.nsIn K mainGlobals x=some (some (.ref g)))(k:PySem.W.exmOne K (.ref g) (.ref Fc)=some true)(t:ExOk K Fc NS):ExOk K Fc (x::NS):=fun nm h C hn=>by
 rcases List.mem_cons.mp h with rfl | h
 ·rw[n]at hn
  cases hn
  exact k
 ·exact t nm h C hn
end
end L2
namespace U
open PySem L2
def DefX (P:Program)(w:World)(K:PySem.W.Frag)(mg:Str->Option Value)(base:Heap)(x:Str)(k:Nat)(ps:List Str)(sp:Sp):Prop :=
 ∃(f:Addr) (fd:FuncData),FnOk P w K mg base (CXe P w) k f fd ps sp/\Binds K fd ps []/\PySem.W.keepIn K (.ref f)=true/\mg x=some (.ref f)
section
variable {K:PySem.W.Frag}{β:Nat->V}{W W':Wo}{c c':Ev}{σ:St}{Hf H:Hp}
def Bn8:PyData->Option Key
 | .int i=>some (.inl i)
 | .str x=>some (.inr x)
 | _=>none
def Q6:List PyData->Option (List Key)
 | []=>some []
 | d::ds=>(Bn8 d).bind fun k=>(Q6 ds).map (k::·)
theorem Ao8:∀{ds:List PyData}{ks:List Key}{vs:List V},Q6 ds=some ks->TrL Hf ds vs->vs.map keyV=ks.map some/\vs.length=ks.length
 | [],ks,vs,e,h=>by cases (show some []=some ks from e);cases (show vs=[] from h);exact⟨rfl,rfl⟩
 | d::ds,ks,_,e,⟨v,r,ev,t,ts⟩=>by
  subst ev
  obtain⟨k,e1,e2⟩:=Option.bind_eq_some_iff.mp (show ((Bn8 d).bind fun k=>(Q6 ds).map (k::·))=some ks from e)
  obtain⟨ks',e3,rfl⟩:=Option.map_eq_some_iff.mp e2;obtain⟨q1,q2⟩:=Ao8 e3 ts
  have hk:keyV v=some k:=by
   cases d with
   | int i=>cases e1;cases (show v=.int i from t);rfl
   | str x=>cases e1;cases (show v=.str x from t);rfl
   | _=>cases e1
  exact⟨by rw[List.map_cons,List.map_cons,hk,q1],by rw[List.length_cons,List.length_cons,q2]⟩
def Mp:PyData->Option O
 | .list ds=>(Q6 ds).bind fun ks=>if ks.length<1000 then some (.im (.int ((dst ks).length:Nat))) else none
 | _=>none
theorem Ab6   : UnS K (fun x H Q=>V7 P w K [x] H fun y H=>Hw P w [y] H Q) Mp:=by
 intro Hf H x d o Q s i e n
 cases d with
 | list ds =>
  obtain⟨g,j,f⟩:=Option.bind_eq_some_iff.mp (show (Q6 _).bind _=some o from e)
  obtain⟨a,k,rfl,l,t⟩:=Fv i
  by_cases hl:g.length<1000
  ·rw[if_pos hl]at f
   cases f
   obtain⟨m,q2⟩:=Ao8 j t
   refine⟨a,k,g,rfl,SqL.of l,m,by grind,fun p c=>⟨p,_,rfl,Be,?_,?_⟩⟩
   ·exact Nat.lt_of_le_of_lt (Mh _ _ rfl) hl
   ·refine n _ _ _ [] ⟨fun _ _ h=>h,fun b u e _=>?_,fun _ _ _ _ _ h=>h,fun _ h=>nomatch h⟩ (fun b u e=>?_) ⟨rfl,rfl⟩
    ·exact Bw c b u e
    ·exact Bw c b u (s b u e)
  simp_all
 | _=>cases e
theorem Ae7     (h:ME K t f):ME K (tCB (Hw P w) (Ci (tCB (V7 P w K) (Ci t Fe)) Fe)) (cUn Mp f):=M6 (r:=fun x H Q=>V7 P w K _ H _) h Ab6
end
end U
set_option autoImplicit true
namespace U
open PySem L2
def Yz (c:Ev):List PV->Option (List PyData)
 | []=>some []
 | .o (.im d)::r=>(Yz c r).map (d::·)
 | .sl i::r=>match c[i]? with
  | some (some (.im d))=>(Yz c r).map (d::·)
  | _=>none
 | _=>none
def Br8 (F:List PyData->XF)(fa:Ev->R (List PV))(k:O->Ev->XS)(h:Str->Ev->XS):Ev->XS:=fun c=>match fa c with
 | .bad=>.s .bad
 | .ok ps c=>match Yz c ps with
  | none=>.s .bad
  | some ds=>match F ds with
   | .ret (.im d)=>k (.im d) c
   | .ex nm=>h nm c
   | _=>.s .bad
section
variable {K:PySem.W.Frag}{β:Nat->V}{W W':Wo}{c c':Ev}{σ σ':St}{D:Ends}{E:XK}{Hf H:Hp}{o:O}{v:V}{fp:List Addr}
theorem Xp (R:Rep K β W c σ):∀{ps:List PV}{vs:List V}{ds:List PyData},zH K W.Hf σ ps vs->Yz c ps=some ds->TrL W.Hf ds vs
 | [],vs,ds,h,e=>by cases (show vs=[] from h);cases e;exact rfl
 | .o (.im d)::r,_,ds,⟨v,vr,rfl,h,t⟩,e=>by
  obtain⟨l,e2,rfl⟩:=Option.map_eq_some_iff.mp (show (Yz c r).map (d::·)=some ds from e)
  exact⟨v,vr,rfl,h,Xp R t e2⟩
 | .sl i::r,_,ds,⟨v,vr,rfl,h,t⟩,e=>by
  unfold Yz at e
  split at e
  ·rename_i d ec
   obtain⟨l,e2,rfl⟩:=Option.map_eq_some_iff.mp e;obtain⟨v',e1,r1,_⟩:=R.get i _ ec
   cases (show some (some v')=some (some v) from e1.symm.trans h)
   exact⟨v,vr,rfl,r1.2,Xp R t e2⟩
  ·cases e
 | .o (.sc _)::r,_,ds,_,e=>by cases e
 | .o (.ls _ _)::r,_,ds,_,e=>by cases e
 | .o (.ty _)::r,_,ds,_,e=>by cases e
end
def Lf:PyData->PyData->Option O:=Vn fun i j=>.bool (decide (i<j))
theorem Yr  : OpS K (rI0 fun i j=>.bl (decide (i<j))) Lf:=Xq fun _ _ _=>rfl
theorem Bq7  (l:T9 i j=true):CMul i j:=by
 unfold T9 at l;rw[Bool.or_eq_true_iff,Bool.and_eq_true_iff,Bool.and_eq_true_iff]at l
 rcases l with ⟨b,a⟩ | ⟨b,a⟩
 ·exact .inl ⟨of_decide_eq_true b,of_decide_eq_true a⟩
 ·exact .inr ⟨of_decide_eq_true b,of_decide_eq_true a⟩
def Hm:PyData->PyData->Option O:=opI T9 fun i j=>i*j
theorem Ie  : OpS K (rI CMul fun i j=>.int (i*j)) Hm:=Am6 fun _ _=>Bq7
def Bm:PyData->Option O
 | .list ds=>some (.im (.tuple ds))
 | .tuple ds=>some (.im (.tuple ds))
 | _=>none
theorem Di  : UnS K (fun x H Q=>Hi K [x] H Q) Bm:=by
 intro Hf H x d o Q s r e n;unfold Bm at e
 split at e
 ·cases e
  obtain⟨a,b,rfl,c,t⟩:=Fv r
  exact⟨a,b,rfl,.inl ⟨SqL.of c,fun l f=>n.tup s t f⟩⟩
 ·cases e
  obtain⟨a,b,rfl,c,t⟩:=Ii s r;exact⟨a,b,rfl,.inr ⟨SqT.of c,n.same s r⟩⟩
 trivial
def Bp0 (K:PySem.W.Frag):R2:=fun x y H Q=>Bb5 K x y H Q\/Bm1 K x y H Q
def Ay:PyData->PyData->Option O
 | .list ds,.int i=>(atI ds i).map O.im
 | .tuple ds,.int i=>(atI ds i).map O.im
 | _,_=>none
theorem Bc  : OpS K (Bp0 K) Ay:=by
 intro Hf H x y dx dy o Q s i j e n;unfold Ay at e
 split at e
 ·obtain⟨d,g,rfl⟩:=Option.map_eq_some_iff.mp e
  obtain⟨a,c,rfl,f,t⟩:=Fv i;obtain⟨v,h,b⟩:=A1w t g;exact .inl ⟨a,c,_,v,rfl,Du j,SqL.of f,h,n.same s b⟩
 ·obtain⟨d,g,rfl⟩:=Option.map_eq_some_iff.mp e
  obtain⟨a,c,rfl,f,t⟩:=Ii s i;obtain⟨v,h,b⟩:=A1w t g;exact .inr ⟨a,c,_,v,rfl,Du j,SqT.of f,h,n.same s b⟩
 grind
end U
namespace L2
open PySem
section
variable {X:Cx}{a b:Expr}{ta tb:TE}{pos:Pos}
theorem Bl  (c:X.K=Kq) (ha:QE X a ta) (hb:QE X b tb) (hs:Mg b):QE X (.Subscript a b pos) (tOp (U.Bp0 Kq) ta tb):=by
 subst c;exact A9i (IxR.or ix_list ix_tup) ha hb hs
end
end L2
namespace U
open PySem L2 PySem.W
section
variable {K:PySem.W.Frag}{β:Nat->V}{W W':Wo}{c c':Ev}{σ:St}{Hf H:Hp}
def Ak3:PyData->Option O
 | .tuple ds=>some (.im (.tuple ds.reverse))
 | .list ds=>some (.ls false ds.reverse)
 | _=>none
theorem A8o {t:TE}{ts:TO}{f:Ev->R PV}(h:ME K t f)(hs:∀σ H Q,Q (some (-1)) H->ts σ H Q):ME K (A2t K t ts) (cUn Ak3 f):=by
 intro β W c σ Q R s
 refine (M6 (r:=fun x H Q=>ts σ H fun o H2=>o=some (-1)/\∃a xs,x=.ref a/\((SqT K H2 a xs/\∀p,H2 p=none->Q (.ref p) (upd H2 p (.tup xs.reverse)))\/(SqL K H2 a xs/\∀p,H2 p=none->Q (.ref p) (upd H2 p (.lst xs.reverse))))) h fun Hf H x d o Q s r e n=>hs _ _ _ ⟨rfl,?_⟩) β W c σ Q R s
 match d,r,e with
 | .tuple ds,r,e =>
  cases e
  obtain⟨a,vs,rfl,h1,t⟩:=Ii s r
  exact⟨a,vs,rfl,.inl ⟨SqT.of h1,fun p hp=>n.tup s (TrL.rev t) hp⟩⟩
 | .list ds,r,e =>
  cases e
  obtain⟨a,vs,rfl,h1,t⟩:=Fv r
  exact⟨a,vs,rfl,.inr ⟨SqL.of h1,fun p hp=>n.lst s (TrL.rev t) hp⟩⟩
def cFz (f:Ev->R PV):Ev->R PV:=fun c=>(f c).bind fun p c=>(frz (nrm p) c).bind fun d c=>.ok (.o (.im d)) c
theorem Nb   (h:ME K t f):ME K t (cFz f):=by
 intro y W c x Q R s
 refine h.toV _ W c _ Q R (s.bnd.mono fun p n j v u e i k=>?_)
 obtain⟨d,o,r,_,l,w,b,m,g⟩:=Ik i k j.bnd
 have q:=l v _ [] ((e.trans b).less fun a z=>z.elim id fun z=>nomatch z) m ⟨⟨rfl,g⟩,fun a z=>nomatch z⟩
 grind
end
def T8:PyData->Bool
 | .tuple ds=>Gj ds&&PyData.canLayAll0 ds&&decide (PyData.depthAll ds<=6)
 | _=>false
theorem Mi  (h:T8 k=true):A8w k/\∃a,k=.tuple a:=by
 cases k with
 | tuple a =>
  obtain⟨c,d⟩:=Bool.and_eq_true_iff.mp (show (Gj _&&PyData.canLayAll0 _&&decide _)=true from h)
  obtain⟨e,b⟩:=Bool.and_eq_true_iff.mp c;exact⟨⟨e,b,Nat.succ_le_succ (of_decide_eq_true d)⟩,a,rfl⟩
 | _=>cases h
mutual
theorem A3g {H:Hp}:∀{d:PyData}{v:V},keyB d=true->Tr H d v->KTr H d v
 | .none,_,_,h=>h
 | .int _,_,_,h=>h
 | .str _,_,_,h=>h
 | .tuple ds,_,k,⟨a,vs,e,ha,t⟩=>⟨a,vs,e,ha,Am2 k t⟩
theorem Am2 {H:Hp}:∀{ds:List PyData}{vs:List V},Gj ds=true->TrL H ds vs->KTrL H ds vs
 | [],_,_,h=>h
 | d::ds,_,k,⟨v,r,e,h,t⟩=>by
  obtain⟨k1,k2⟩:=Bool.and_eq_true_iff.mp (show (keyB d&&Gj ds)=true from k)
  exact⟨v,r,e,A3g k1 h,Am2 k2 t⟩
end
theorem Ba2    (h:T8 k=true) (t:Tr H k v):∃b,v=.ref b/\KAt H k b:=by
 obtain⟨c,ds,rfl⟩:=Mi h;obtain⟨a,d,rfl,f,e⟩:=t;exact⟨a,rfl,c,A3g c.1 ⟨a,d,rfl,f,e⟩⟩
inductive DE where
 | d (x:PyData)
 | l (xs:List PyData)
def DE.dat:DE->PyData
 | .d x=>x
 | .l xs=>.list xs
inductive BR where
 | nx (c:Ev) (ks:List PyData) (es:List DE)
 | bad
abbrev BF:=Ev->List PyData->List DE->BR
def Oz (k:PyData):List PyData->Option Nat
 | []=>none
 | x::r=>if PyData.eqv x k=true then some 0 else (Oz k r).map (·+1)
def Ff (d:Nat)(c:Ev):Bool:=match c[d]? with
 | some none=>true
 | _=>false
theorem Lr   (h:Ff d c=true):c[d]?=some none:=by
 unfold Ff at h
 grind
def R.toB {α:Type}(r:R α)(k:α->Ev->BR):BR:=match r with
 | .ok a c=>k a c
 | .bad=>.bad
def DE1 (Hf H:Hp):DE->V->List Addr->Prop
 | .d x,v,fp=>fp=[]/\Tr Hf x v
 | .l xs,v,fp=>∃b us,v=.ref b/\fp=[b]/\H b=some (.lst us)/\TrL Hf xs us
def DX (a:Addr)(X:Nat->List Addr)(b:Addr):Prop:=b=a\/∃j,b∈X j
structure DB (W:Wo) (a:Addr) (ks:List PyData) (es:List DE) (X:Nat->List Addr):Prop where
 at_:∃vs,W.H a=some (.dT (ks.zip vs))/\ks.length=vs.length/\es.length=vs.length/\∀j e,es[j]?=some e->∃v,vs[j]?=some v/\DE1 W.Hf W.H e v (X j)
 fr:∀b,DX a X b->W.Hf b=none/\¬ W.S b
 dis:∀i j b,b∈X i->b∈X j->i=j
 na:∀j,a∉X j
 mu:∀b,DX a X b->∃o,W.H b=some o/\Mut (some o)
 out:∀j,es.length<=j->X j=[]
 ky:∀k∈ks,T8 k=true
 nd:ks.Nodup
abbrev orX (S:Addr->Prop)(a:Addr)(X:Nat->List Addr):Addr->Prop:=fun b=>S b\/DX a X b
def zL (K:PySem.W.Frag)(β:Nat->V)(W:Wo)(D:Ends)(d:Nat)(a:Addr)(X:Nat->List Addr):BR->Prop
 | .nx c' ks' es'=>∀σ' W' X',Stp (orX W.S a X) W.Hf W.H (orX W'.S a X') W'.Hf W'.H->Rep K β W' c' σ'->c'[d]?=some none->σ'[d]?=some (some (.ref a))->DB W' a ks' es' X'->D.nx σ' W'.H
 | .bad=>False
def MB (K:PySem.W.Frag)(d:Nat)(T:TS)(F:BF):Prop:=∀(β:Nat->V) (W:Wo) (c:Ev) (σ:St) (D:Ends) (a:Addr) (ks:List PyData) (es:List DE) (X:Nat->List Addr),Rep K β W c σ->c[d]?=some none->σ[d]?=some (some (.ref a))->DB W a ks es X ->
 zL K β W D d a X (F c ks es)->T D σ W.H
section
variable {K:PySem.W.Frag}{β:Nat->V}{W W' W1:Wo}{c c':Ev}{σ σ':St}{Hf H:Hp}{a:Addr}{ks:List PyData}{es:List DE}{X X':Nat->List Addr}{d:Nat}{D:Ends}{fp:List Addr}
theorem DE1.step    {a H':Hp}(h:DE1 Hf H e v fp) (s:Same Hf a) (k:∀b∈fp,H' b=H b):DE1 a H' e v fp:=by
 cases e with
 | d x=>exact⟨h.1,Tr.same s h.2⟩
 | l i =>
  obtain⟨b,c,g,f,j,t⟩:=h
  exact⟨b,c,g,f,by grind,TrL.same s t⟩
theorem DB.step  (h:DB W a ks es X) (st:Stp W.S W.Hf W.H S2 W1.Hf W1.H) (g:∀b,W1.S b->S2 b):DB W1 a ks es X:=by
 have d:∀b,DX a X b->W1.H b=W.H b:=fun b c=>by
  obtain⟨o,e,_⟩:=h.mu b c;rw[e];exact st.kp b o e (h.fr b c).2
 obtain⟨i,s,l,m,k⟩:=h.at_
 refine⟨⟨i,by rw[d a (.inl rfl)];omega,l,m,fun j e p=>?_⟩,fun b c=>⟨?_,fun z=>?_⟩,h.dis,h.na,fun b c=>?_,h.out,h.ky,h.nd⟩
 ·obtain⟨v,n,r⟩:=k j e p
  exact⟨v,n,r.step st.fz fun b c=>d b (.inr ⟨j,c⟩)⟩
 ·obtain⟨o,e,f⟩:=h.mu b c
  exact st.nf b o e f (h.fr b c).2 (h.fr b c).1
 ·obtain⟨o,e,_⟩:=h.mu b c
  rcases st.fr b (g b z) with q | q
  ·exact(h.fr b c).2 q
  simp_all
 ·obtain⟨o,e,f⟩:=h.mu b c
  simp_all
theorem Stp.moreX   (x:Stp S Hf H S' b H'):Stp (orX S a X) Hf H (orX S' a X) b H':=Stp.more  x
theorem zL.step  (h:zL K β W D d a X r) (st:Stp (orX W.S a X) W.Hf W.H (orX W1.S a X') W1.Hf W1.H):zL K β W1 D d a X' r:=by
 cases r with
 | nx c j k=>exact fun f l m b R g i e=>h _ _ _ (st.trans b) R g i e
 | bad=>exact h
theorem K8  {r:R b}{k:b->Ev->BR}(h:zL K β W D d a X (r.toB k)):r.sat fun x c=>zL K β W D d a X (k x c):=by
 cases r with
 | ok x c=>exact h
 | bad=>exact h
def GFr (d:Nat)(g:TG):Prop:=∀v σ H k,g v σ H (fun σ' H'=>σ'[d]?=σ[d]?->k σ' H')->g v σ H k
def A8g (d:Nat)(g:TGs):Prop:=∀vs σ H k,g vs σ H (fun σ' H'=>σ'[d]?=σ[d]?->k σ' H')->g vs σ H k
theorem Aa2  (h:i≠d):GFr d (Js i):=fun v a H k q=>q (List.getElem?_set_ne h)
theorem A5a:A8g d Aj8:=fun b a H k q=>⟨q.1,q.2 rfl⟩
def A4o (g:TG):Prop:=∀v σ H k k',g v σ H k->(∀σ' H',k σ' H'->k' σ' H')->g v σ H k'
def Xo (g:TGs):Prop:=∀vs σ H k k',g vs σ H k->(∀σ' H',k σ' H'->k' σ' H')->g vs σ H k'
theorem Nj  : A4o (Js i):=fun v b H k a h f=>f _ _ h
theorem V4:Xo Aj8:=fun b c H k a h f=>⟨h.1,f _ _ h.2⟩
theorem Ah0   (h1:A4o t) (h2:Xo u):Xo (Pu t u):=fun g c H k d ⟨v,r,e,q⟩ f=>⟨v,r,e,h1 _ _ _ _ _ q fun a b q=>h2 _ _ _ _ _ q f⟩
theorem Ab4   (h1:GFr d t) (b:A4o t) (h2:A8g d u) (f:Xo u):A8g d (Pu t u):=fun i j H k ⟨v,r,e,q⟩ =>
 ⟨v,r,e,h1 v _ H _ (b _ _ _ _ _ q fun g l q c=>h2 r _ _ k (f _ _ _ _ _ q fun h m q a=>q (a.trans c)))⟩
theorem A7b   (h:A8g d u):GFr d (Aq5 K n u):=fun v b H k ⟨p,a,e,s,l,q⟩=>⟨p,a,e,s,l,h _ _ H k q⟩
def Uq (g:PV->Ev->R Unit)(F:BF):List PyData->BF
 | [],c,ks,es=>.nx c ks es
 | x::xs,c,ks,es=>(g (.o (.im x)) c).toB fun _ c=>if Ff d c=true then match F c ks es with
  | .nx c ks es=>Uq g F xs c ks es
  | .bad=>.bad
  else .bad
def A6h (fi:Ev->R (List PyData))(g:PV->Ev->R Unit)(F:BF):BF:=fun c ks es=>(fi c).toB fun ds c=>if Ff d c=true then Uq (d:=d) g F ds c ks es else .bad
theorem Bm7       (hi:MI K wi fi) (hg:MG K t g) (hf:GFr d t) (hb:MB K d tb F):MB K d (A6u wi t tb) (A6h (d:=d) fi g F):=by
 intro A W c C D a ks V X R hc hs hd l
 refine hi A W c C _ R ((K8 l).mono fun f c1 O J U L R1 it=>?_)
 by_cases z1:Ff d c1=true
 ·rw[if_pos z1]at O
  have Z:=hd.step L fun _ z=>z
  refine⟨fun i m C H=>∃b j B r u,b.H=H/\Rep K A b j C/\m=f.length-i/\i<=f.length/\Same U.Hf b.Hf/\j[d]?=some none/\C[d]?=some (some (.ref a))/\DB b a B r u/\zL K A b D d a u (Uq (d:=d) g F (f.drop i) j B r),
   ⟨_,U,c1,ks,V,X,rfl,R1,rfl,Nat.zero_le _,Same.refl _,Lr z1,hs,Z,zL.step O L.moreX⟩,?_⟩
  rintro i m C H ⟨b,j,B,r,u,rfl,R2,rfl,hle,sm,T,G,I,E⟩
  obtain⟨v,Y⟩:=it i b.Hf b.H sm R2.sub
  by_cases lt:i<f.length
  ·obtain⟨q1,q2⟩:=Y f[i] (List.getElem?_eq_getElem lt)
   refine .inr ⟨q1,fun w p=>∃b j B r u,b.H=p/\Rep K A b j w/\Same U.Hf b.Hf/\j[d]?=some none/\w[d]?=some (some (.ref a))/\DB b a B r u/\zL K A b D d a u (Uq (d:=d) g F (f.drop (i+1)) j B r),
    fun w p ⟨W3,c3,k3,e3,X3,y1,S,s3,y2,y3,y4,k⟩=>⟨f.length-(i+1),by omega,W3,c3,k3,e3,X3,y1,S,rfl,by omega,s3,y2,y3,y4,k⟩,fun x p hy=>?_⟩
   obtain⟨s,n,M,tx⟩:=q2 x p hy;have S:=n.rep R2 M
   have Q:Stp b.S b.Hf b.H (Wo.S ⟨s,p,b.fps⟩) s p:=⟨n.fz,fun a o e _=>n.kp a o e fun z=>z,fun a o e mu _ q=>n.nf a o e mu (fun z=>z) q,fun a z=>.inl z⟩
   rw[Pz lt]at E
   have E:zL K A b D d a u ((g (.o (.im f[i])) j).toB fun _ c=>if Ff d c=true then match F c B r with
    | .nx c ks V=>Uq (d:=d) g F (f.drop (i+1)) c ks V
    | .bad=>.bad
    else .bad):=E
   refine hf _ _ _ _ (hg A ⟨s,p,b.fps⟩ j C (.o (.im f[i])) x [] _ S ⟨⟨rfl,tx⟩,fun a z=>nomatch z⟩ ((K8 E).mono fun _ c3 k σ3 W3 y R3' es3=>?_))
   have y:=y.up  fun a z=>by
    rcases z with z | z
    ·exact z
    ·cases z
   have h:=Q.trans y
   by_cases z3:Ff d c3=true
   ·rw[if_pos z3]at k
    refine hb _ _ _ _ _ a _ _ _ R3' (Lr z3) (es3.trans G) (I.step h fun _ z=>z) ?_
    cases eb:F _ _ _ with
    | bad=>rw[eb]at k;exact k.elim
    | nx c4 k4 e4 =>
     rw[eb]at k
     exact fun σ4 W4 X4 N R4 hc4 hs4 P=>⟨W4,c4,k4,e4,X4,rfl,R4,sm.trans (h.fz.trans N.fz),hc4,hs4,P,zL.step k (h.moreX.trans N)⟩
   ·rw[if_neg z3]at k;exact k.elim
  ·have e:i=f.length:=by omega
   subst e;rw[List.drop_length]at E;exact .inl ⟨v rfl,E _ _ _ Stp.refl R2 T G I⟩
 ·rw[if_neg z1]at O;exact O.elim
end
theorem Qo {k:PyData}(hk:T8 k=true):∀{ks:List PyData}{vs:List V}{j:Nat},(∀x∈ks,T8 x=true)->ks.length=vs.length->Oz k ks=some j->ks[j]?=some k/\Oo (ks.zip vs) k=vs[j]?
 | [],_,_,_,_,e=>nomatch e
 | x::ks,[],_,_,l,_=>nomatch l
 | x::ks,v::vs,j,hx,l,e=>by
  have b:=(Mi (hx x List.mem_cons_self)).1.1;have b2:=(Mi hk).1.1
  have e:(if PyData.eqv x k=true then some 0 else (Oz k ks).map (·+1))=some j:=e
  by_cases h:PyData.eqv x k=true
  ·rw[if_pos h]at e;cases e
   have:=(Pr x k b b2).mp h;subst this;exact⟨rfl,Z4 rfl⟩
  ·rw[if_neg h]at e
   obtain⟨i,e1,rfl⟩:=Option.map_eq_some_iff.mp e
   obtain⟨q1,q2⟩:=Qo hk (vs:=vs) (fun y hy=>hx y (List.mem_cons_of_mem _ hy)) (Nat.succ.inj l) e1
   refine⟨by simpa using q1,?_⟩
   rw[List.zip_cons_cons,U7 (fun q=>h ((Pr x k b b2).mpr q)),q2];rfl
theorem Mq {k:PyData}(hk:T8 k=true):∀{ks:List PyData}{vs:List V},(∀x∈ks,T8 x=true)->Oz k ks=none->k∉ks/\Oo (ks.zip vs) k=none
 | [],vs,_,_=>⟨(fun h=>nomatch h),rfl⟩
 | x::ks,vs,hx,e=>by
  have b:=(Mi (hx x List.mem_cons_self)).1.1;have b2:=(Mi hk).1.1
  have e:(if PyData.eqv x k=true then some 0 else (Oz k ks).map (·+1))=none:=e
  by_cases h:PyData.eqv x k=true
  ·rw[if_pos h]at e;cases e
  ·rw[if_neg h]at e
   have e1:Oz k ks=none:=by
    cases q:Oz k ks with
    | none=>rfl
    | some i=>rw[q]at e;cases e
   have ne:x≠k:=fun q=>h ((Pr x k b b2).mpr q)
   refine⟨fun m=>?_,?_⟩
   ·rcases List.mem_cons.mp m with m | m
    ·exact ne m.symm
    ·exact(Mq (vs:=[]) hk (fun y hy=>hx y (List.mem_cons_of_mem _ hy)) e1).1 m
   ·cases vs with
    | nil=>rfl
    | cons v vs =>
     rw[List.zip_cons_cons,U7 ne]
     exact(Mq hk (fun y hy=>hx y (List.mem_cons_of_mem _ hy)) e1).2
section
variable {K:PySem.W.Frag}{β:Nat->V}{W W' W1:Wo}{c c':Ev}{σ σ':St}{Hf H:Hp}{a:Addr}{ks:List PyData}{es:List DE}{X X':Nat->List Addr}{d:Nat}{D:Ends}{fp:List Addr}
theorem Ae6 (R:Rep K β W c σ)(hd:DB W a ks es X)  (f:∀b,H' b=W.H b\/DX a X b\/W.H b=none) (h:∀b,DX a X' b->DX a X b\/W.H b=none) :
 Rep K β ⟨W.Hf,H',W.fps⟩ c σ/\Stp (orX W.S a X) W.Hf W.H (orX (Wo.S ⟨W.Hf,H',W.fps⟩) a X') W.Hf H':=by
 refine⟨R.frame (Same.refl _) (fun b u e=>?_) fun b g=>?_,⟨Same.refl _,fun b o e n=>?_,fun b o _ _ _ q=>q,fun b z=>?_⟩⟩
 ·rcases f b with q | q | q
  ·rw[q];exact R.sub b u e
  ·rw[(hd.fr b q).1]at e;grind
  ·rw[R.notF q]at e;grind
 ·obtain⟨i,d⟩:=g
  obtain⟨z,o,e,_⟩:=R.own i b d
  refine⟨z,?_⟩
  rcases f b with q | q | q
  ·omega
  ·exact absurd ⟨i,d⟩ (hd.fr b q).2
  grind
 ·grind
 ·rcases z with z | z
  ·exact .inl (.inl z)
  grind
end
section
variable {K:PySem.W.Frag}{β:Nat->V}{W W' W1:Wo}{c c':Ev}{σ σ':St}{Hf H:Hp}{a:Addr}{ks:List PyData}{es:List DE}{X X':Nat->List Addr}{d:Nat}{D:Ends}{fp:List Addr}
def Bs8:Option DE->Option (List PyData)
 | some (.l xs)=>some xs
 | _=>none
def Qt (ks:List PyData)(es:List DE)(k:PyData):List PyData×List DE×Nat:=match Oz k ks with
 | some j=>(ks,es,j)
 | none=>(ks++[k],es++[.l []],ks.length)
def A4t (fk fv:Ev->R PV):BF:=fun c ks es=>(fk c).toB fun p c=>match Ep c (nrm p) with
 | some k=>if (T8 k&&decide (ks.length<16000000))=true then match Bs8 ((Qt ks es k).2.1[(Qt ks es k).2.2]?) with
  | some xs=>(fv c).toB fun q c=>(frz (nrm q) c).toB fun x c=>if (decide (xs.length<16000000)&&Ff d c)=true then .nx c (Qt ks es k).1 ((Qt ks es k).2.1.set (Qt ks es k).2.2 (.l (xs++[x]))) else .bad
  | none=>.bad
  else .bad
 | none=>.bad
theorem Ac6      (he:ME K P fe) (R:Rep K β W c σ) (hs:σ[d]?=some (some (.ref a))) (hd:DB W a ks es X) (H:es[j]?=some (.l xs)) (hl:X j=[l])
 (L:zL K β W D d a X ((fe c).toB fun q c=>(frz (nrm q) c).toB fun x c=>if (decide (xs.length<16000000)&&Ff d c)=true then .nx c ks (es.set j (.l (xs++[x]))) else .bad)) :
 tyV K "list" (.ref l) W.H/\Ci P Fe σ W.H fun xs H2=>rAppF (.ref l) xs H2 fun _ C=>D.nx σ C:=by
 have g:∀{W:Wo},DB W a ks es X->∃h,W.H l=some (.lst h)/\TrL W.Hf xs h:=fun {W} hd=>by
  obtain⟨Q,O,T,J,s⟩:=hd.at_;obtain⟨v,y,b,h,rfl,k,N,I⟩:=s j _ H;rw[hl]at k
  cases k
  exact⟨h,N,I⟩
 obtain⟨E,h0,_⟩:=g hd
 refine⟨.inl ⟨rfl,E,SqL.of h0⟩,?_⟩
 refine he.toV β W c σ _ R ((K8 L).mono fun q c1 V v W1 A R1 r1=>?_)
 obtain⟨x,c2,G,_,r,e2,B,Y,Z⟩:=Ik R1 r1 (K8 V);have M:=A.trans B
 have f:=hd.step M fun _ z=>z
 obtain⟨h,h2,t⟩:=g f
 by_cases p:(decide (xs.length<16000000)&&Ff d c2)=true
 ·rw[if_pos p]at r
  obtain⟨m,F⟩:=Bool.and_eq_true_iff.mp p;have m:=of_decide_eq_true m
  show rAppF (.ref l) [v] W1.H fun _ C=>D.nx σ C
  rw[<- e2]
  refine⟨l,v,h,rfl,rfl,h2,by rw[<- t.length];exact Nat.lt_of_lt_of_le m (by decide),?_⟩
  have lX:DX a X l:=.inr ⟨j,by rw[hl];exact .head _⟩
  have la:l≠a:=fun z=>f.na j (by rw[hl,<- z];exact .head _)
  have n:=Ae6 (X':=X) Y f (H':=upd G.H l (.lst (h++[v]))) (fun b=>by
   by_cases z:b=l
   ·rw[z];exact .inr (.inl lX)
   ·exact .inl (Ak z)) (fun b z=>.inl z)
  obtain⟨Q,O,T,J,s⟩:=f.at_;have hj:j<es.length:=(List.getElem?_eq_some_iff.mp H).1
  refine r σ ⟨G.Hf,_,G.fps⟩ X (M.moreX.trans n.2) n.1 (Lr F) hs ⟨⟨Q,by show upd _ l _ a=_;rw[Ak (Ne.symm la)];exact O,T,by rw[List.length_set];exact J,fun i e w=>?_⟩,f.fr,f.dis,f.na,fun b z=>?_,fun i S=>f.out i (by rw[List.length_set]at S;exact S),f.ky,f.nd⟩
  ·by_cases z:i=j
   ·subst z
    rw[List.getElem?_set_self hj]at w
    cases w
    obtain⟨v0,y,b,us1,rfl,k,N,I⟩:=s i _ H;rw[hl]at k
    cases k
    exact⟨_,y,l,h++[v],rfl,hl,Be,t.app (TrL.one Z)⟩
   ·rw[List.getElem?_set_ne (Ne.symm z)]at w
    obtain⟨u,y,k⟩:=s i e w
    exact⟨u,y,k.step (Same.refl _) fun b p=>Ak fun q=>z (f.dis i j b p (by rw[hl,q];exact .head _))⟩
  ·by_cases q:b=l
   ·rw[q];exact⟨_,Be,trivial⟩
   ·obtain⟨o,e,U⟩:=f.mu b z
    exact⟨o,by show upd _ l _ b=_;rw[Ak q];exact e,U⟩
 ·rw[if_neg p]at r;exact r.elim
theorem Bk0   (hk:ME K ty fk) (he:ME K te fe):MB K d (Zz (tBM K "list" rAppF (A3t (Aj5 d) ty (A7w Fe)) (Ci te Fe))) (A4t (d:=d) fk fe):=by
 intro β W c σ D a m F X R hc hs hd l
 refine⟨_,hs,a,rfl,.inr (let ⟨C,q,_⟩:=hd.at_; ⟨_,.inl q⟩),?_⟩
 refine hk.toV β W c σ _ R ((K8 l).mono fun p c1 r y s J P r1=>?_)
 refine⟨show 0<=sizeLine from Nat.zero_le _,fun g n=>?_⟩
 have f:=hd.step J fun _ z=>z
 cases ek:Ep c1 (nrm p) with
 | none=>simp only[ek]at r;exact r.elim
 | some k =>
  simp only[ek]at r
  by_cases I:(T8 k&&decide (m.length<16000000))=true
  ·rw[if_pos I]at r
   obtain⟨t,N⟩:=Bool.and_eq_true_iff.mp I;have N:=of_decide_eq_true N;obtain⟨_,kd,ekd⟩:=Mi t
   have tk:Tr s.Hf k y:=by rw[ekd]at ek ⊢;exact Gi P r1 ek
   obtain⟨b,rfl,kb⟩:=Ba2 t tk;obtain⟨C,q1,B,q3,q4⟩:=f.at_
   have zl:(m.zip C).length<sizeLine:=by rw[List.length_zip,<- B,Nat.min_self];exact Nat.lt_of_lt_of_le N (by decide)
   have S:a≠g:=fun z=>by rw[<- z,q1]at n;cases n
   have A:∀b,DX a X b->b≠g:=fun b z q=>by
    obtain⟨o,e,_⟩:=f.mu b z;rw[q,n]at e;cases e
   have G:=Ae6 (X':=X) P f (H':=upd s.H g (.lst [])) (fun b=>by
    by_cases z:b=g
    ·rw[z];exact .inr (.inr n)
    ·exact .inl (Ak z)) (fun b z=>.inl z)
   have hd2:DB ⟨s.Hf,upd s.H g (.lst []),s.fps⟩ a m F X :=
    ⟨⟨
     C,by show upd s.H g _ a=_;rw[Ak S];exact q1,B,q3,fun i e E=>by
     obtain⟨u,V,U⟩:=q4 i e E
     exact⟨u,V,U.step (Same.refl _) fun b I=>Ak (A b (.inr ⟨i,I⟩))⟩⟩,f.fr,f.dis,f.na,fun b z=>by
     obtain⟨o,e,mu⟩:=f.mu b z
     exact⟨o,by show upd s.H g _ b=_;rw[Ak (A b z)];exact e,mu⟩,f.out,f.ky,f.nd⟩
   have kb':KAt (upd s.H g (.lst [])) k b:=kb.stay fun b xs q=>by
    have:=P.sub _ _ q;rw[Ak];exact this;intro z;rw[z,n]at this;cases this
   refine⟨m.zip C,k,b,rfl,by rw[Ak S];exact q1,kb',zl,fun v L=>?_,fun L=>?_⟩
   ·-- there
    cases E:Oz k m with
    | none=>rw[(Mq (vs:=C) t f.ky E).2]at L;cases L
    | some j =>
     unfold Qt at r;simp only[E]at r;obtain⟨Y,i2⟩:=Qo t f.ky B E
     cases eE:F[j]? with
     | none=>rw[eE]at r;exact r.elim
     | some en =>
      rw[eE]at r
      cases en with
      | d x=>exact r.elim
      | l xs =>
       obtain⟨u,V,lb,us,rfl,U,f3,f4⟩:=q4 j _ eE;rw[i2,V]at L
       cases L
       exact Ac6 he G.1 hs hd2 eE U (zL.step r (J.moreX.trans G.2))
   ·-- not there
    cases E:Oz k m with
    | some j =>
     obtain⟨Y,i2⟩:=Qo t f.ky B E;have hj:j<m.length:=(List.getElem?_eq_some_iff.mp Y).1
     rw[i2,List.getElem?_eq_getElem (by omega)]at L;cases L
    | none =>
     unfold Qt at r;simp only[E]at r;obtain⟨Y,i2⟩:=Mq (vs:=C) t f.ky E;have T:m.length=F.length:=B.trans q3.symm
     have ej:(F++[DE.l []])[m.length]?=some (.l []):=by rw[T,List.getElem?_append_right (Nat.le_refl _),Nat.sub_self];rfl
     rw[ej]at r
     have M:∀i b,b∈(fun i=>if i=m.length then [g] else X i) i->(i=m.length/\b=g)\/(i≠m.length/\b∈X i):=fun i b h=>by
      have h:b∈if i=m.length then [g] else X i:=h
      split at h
      ·rename_i q;exact .inl ⟨q,List.mem_singleton.mp h⟩
      ·rename_i q;exact .inr ⟨q,h⟩
     have H:=Ae6 (X':=fun i=>if i=m.length then [g] else X i) P f (H':=upd (upd s.H g (.lst [])) a (.dT (m.zip C++[(k,.ref g)]))) (fun b=>by
      by_cases z:b=a
      ·exact .inr (.inl (.inl z))
      ·by_cases z2:b=g
       ·rw[z2];exact .inr (.inr n)
       ·exact .inl (by rw[Ak z,Ak z2])) (fun b z=>by
      rcases z with z | ⟨i,z⟩
      ·exact .inl (.inl z)
      ·rcases M i b z with ⟨_,q⟩ | ⟨_,q⟩
       ·rw[q];exact .inr n
       ·exact .inl (.inr ⟨i,q⟩))
     have hd3:DB ⟨s.Hf,upd (upd s.H g (.lst [])) a (.dT (m.zip C++[(k,.ref g)])),s.fps⟩ a (m++[k]) (F++[.l []]) (fun i=>if i=m.length then [g] else X i):=by
      refine⟨⟨C++[.ref g],?_,by rw[List.length_append,List.length_append,B];rfl,by rw[List.length_append,List.length_append,q3];rfl,fun i e w=>?_⟩,fun b z=>?_,fun i i' b z z'=>?_,fun i z=>?_,fun b z=>?_,fun i Z=>?_,fun x O=>?_,?_⟩
      ·show upd _ a _ a=_
       rw[Be,List.zip_append B];rfl
      ·by_cases z:i<F.length
       ·rw[List.getElem?_append_left z]at w
        obtain⟨u,V,U⟩:=q4 i e w
        refine⟨u,by rw[List.getElem?_append_left (by omega)];exact V,?_⟩
        rw[if_neg (by omega)]
        exact U.step (Same.refl _) fun b I=>by
         show upd (upd s.H g _) a _ b=_
         have na:b≠a:=fun q=>f.na i (q▸I)
         rw[Ak na,Ak (A b (.inr ⟨i,I⟩))]
       ·rw[List.getElem?_append_right (by omega)]at w
        have Z:i=F.length:=by
         rcases Nat.lt_or_ge (i-F.length) 1 with q | q
         ·omega
         ·rw[List.getElem?_eq_none (by simpa using q)]at w;cases w
        subst Z;rw[Nat.sub_self]at w
        cases w
        refine⟨.ref g,by rw[q3,List.getElem?_append_right (Nat.le_refl _),Nat.sub_self];rfl,g,[],rfl,by rw[if_pos T.symm],?_,rfl⟩
        show upd (upd s.H g _) a _ g=_
        rw[Ak (Ne.symm S),Be]
      ·rcases z with z | ⟨i,z⟩
       ·exact f.fr b (.inl z)
       ·rcases M i b z with ⟨_,q⟩ | ⟨_,q⟩
        ·rw[q];exact⟨P.notF n,P.notS n⟩
        ·exact f.fr b (.inr ⟨i,q⟩)
      ·rcases M i b z with ⟨q,p1⟩ | ⟨q,p1⟩
       ·rcases M i' b z' with ⟨q',Q⟩ | ⟨q',Q⟩
        ·rw[q,q']
        ·exact absurd p1 (A b (.inr ⟨i',Q⟩))
       ·rcases M i' b z' with ⟨q',Q⟩ | ⟨q',Q⟩
        ·exact absurd Q (A b (.inr ⟨i,p1⟩))
        ·exact f.dis i i' b p1 Q
      ·rcases M i a z with ⟨_,q⟩ | ⟨_,q⟩
       ·exact S q
       ·exact f.na i q
      ·by_cases q:b=a
       ·rw[q];exact⟨_,Be,trivial⟩
       ·by_cases B:b=g
        ·rw[B];exact⟨.lst [],by show upd (upd s.H g _) a _ g=_;rw[Ak (Ne.symm S),Be],trivial⟩
        ·have zX:DX a X b:=by
          rcases z with z | ⟨i,z⟩
          ·exact .inl z
          ·rcases M i b z with ⟨_,q⟩ | ⟨_,q⟩
           ·exact absurd q B
           ·exact .inr ⟨i,q⟩
         obtain⟨o,e,mu⟩:=f.mu b zX
         exact⟨o,by show upd (upd s.H g _) a _ b=_;rw[Ak q,Ak B];exact e,mu⟩
      ·rw[List.length_append]at Z
       show (if i=m.length then [g] else X i)=[]
       have:F.length+1<=i:=Z
       rw[if_neg (by omega)]
       exact f.out i (by omega)
      ·rcases List.mem_append.mp O with O | O
       ·exact f.ky x O
       ·rw[List.mem_singleton.mp O];exact t
      ·rw[List.nodup_append]
       refine⟨f.nd,by simp,fun x O y hy e=>?_⟩
       rw[List.mem_singleton.mp hy]at e;exact Y (e▸O)
     exact Ac6 he H.1 hs hd3 ej (by rw[if_pos rfl]) (zL.step r (J.moreX.trans H.2))
  ·rw[if_neg I]at r;exact r.elim
end
theorem Am0 {H:Hp}:∀{ds:List PyData}{vs:List V},ds.length=vs.length->(∀(j:Nat) (x:PyData) (v:V),ds[j]?=some x->vs[j]?=some v->Tr H x v)->TrL H ds vs
 | [],[],_,_=>rfl
 | [],_::_,l,_=>nomatch l
 | _::_,[],l,_=>nomatch l
 | x::ds,v::vs,l,h=>⟨v,vs,rfl,h 0 x v rfl rfl,Am0 (Nat.succ.inj l) fun j y u e1 e2=>h (j+1) y u (by simpa using e1) (by simpa using e2)⟩
section
variable {K:PySem.W.Frag}{β:Nat->V}{W W' W1:Wo}{c c':Ev}{σ σ':St}{Hf H:Hp}{a:Addr}{ks:List PyData}{es:List DE}{X X':Nat->List Addr}{d:Nat}{D:Ends}{fp:List Addr}
open Classical in
def Rt (W:Wo)(a:Addr)(u:HO)(X:Nat->List Addr):Hp:=fun b=>if b=a then some u else if ∃j,b∈X j then W.H b else W.Hf b
theorem Ay9  : Rt W a u X a=some u:=by unfold Rt;grind
theorem Al6    (n:b≠a) (h:b∈X j):Rt W a u X b=W.H b:=by unfold Rt;rw[if_neg n,if_pos ⟨j,h⟩]
theorem Pq   (h:¬ DX a X b):Rt W a u X b=W.Hf b:=by unfold Rt;rw[if_neg fun z=>h (.inl z),if_neg fun z=>h (.inr z)]
theorem DB.same  (hd:DB W a ks es X):Same W.Hf (Rt W a u X):=fun b u e=>by
 rw[Pq];exact e;intro z;rw[(hd.fr b z).1]at e;grind
theorem DB.sub  (hd:DB W a ks es X) (R:Rep K β W c σ):Same (Rt W a u X) (upd W.H a u):=fun b v e=>by
 by_cases z0:b=a
 ·subst z0;rw[Ay9]at e;rw[Be];omega
 ·rw[Ak z0]
  by_cases z:DX a X b
  ·rcases z with z | ⟨j,z⟩
   ·grind
   ·rw[Al6 z0 z]at e;grind
  ·rw[Pq z]at e;exact R.sub b v e
theorem DB.done   (hd:DB W a ks es X) (hv:W.H a=some (.dT (ks.zip vs))) (hl:ks.length=vs.length):RepT K (Rt W a (.frz o (.dT (ks.zip vs))) X) (.ds ks (es.map DE.dat)) (.ref a):=by
 obtain⟨c,f,g,q3,s⟩:=hd.at_
 have n:c=vs:=by
  rw[hv]at f
  have e:=congrArg (fun x  => x.map (·.2)) (show ks.zip _=ks.zip _ from by injection Option.some.inj f)
  simp only[List.map_snd_zip (Nat.le_of_eq hl.symm),List.map_snd_zip (Nat.le_of_eq g.symm)]at e
  simp_all
 subst n
 refine⟨a,o,c,rfl,Ay9,Am0 (by grind) fun j x v i w=>?_,g⟩
 rw[List.getElem?_map]at i;obtain⟨e,p,rfl⟩:=Option.map_eq_some_iff.mp i;obtain⟨u,h,k⟩:=s j e p;rw[w]at h
 cases h
 cases e with
 | d x=>exact Tr.same hd.same k.2
 | l xs =>
  obtain⟨b,q,rfl,g1,g2,t⟩:=k
  have m:b∈X j:=by simp_all
  have r:b≠a:=fun z=>hd.na j (z▸m)
  exact⟨b,q,rfl,by rw[Al6 r m];grind,TrL.same hd.same t⟩
theorem Rep.hide (R:Rep K β W c σ)    (hp:W.H p=none):Rep K β ⟨W.Hf,upd W.H p o,clr W.fps d⟩ (c.set d none) (σ.set d (some v)):=by
 refine⟨Rx R.sub hp,by rw[List.length_set,List.length_set];exact R.len,fun j f e=>?_,fun j k a m n=>R.dis j k a (Er m).1 (Er n).1,fun j a h=>?_⟩
 ·have z:j≠d:=fun z=>by
   grind
  rw[List.getElem?_set_ne (fun y=>z y.symm)]at e
  obtain⟨g,w,r,b⟩:=R.get j f e
  refine⟨g,by grind,?_,b⟩
  show RepO K W.Hf (upd W.H p o) f g (clr W.fps d j)
  have s:clr W.fps d j=W.fps j:=by unfold clr;rw[if_neg z]
  rw[s]
  exact r.mono (Same.refl _) fun a i=>⟨(R.own j a i).1,Ak fun q=>by obtain⟨_,o,e,_⟩:=R.own j a i;rw[q,hp]at e;cases e⟩
 ·obtain⟨t,f,u,l⟩:=R.own j a (Er h).1
  exact⟨t,f,by show upd _ p o a=_;rw[Ak fun q=>by simp_all];exact u,l⟩
def Va (d:Nat)(F:BF)(g:Ev->SR):Ev->SR:=fun c=>if Ff d (c.set d none)=true then match F (c.set d none) [] [] with
 | .nx c ks es=>g (c.set d (some (.ty (.ds ks (es.map DE.dat)))))
 | .bad=>.bad
 else .bad
theorem A4e    (h1:MB K d T F) (h2:MS K u g):MS K (Ay7 (Y7 Ak2 (Js d)) (tFz d T u)) (Va d F g):=by
 intro C W c J D R l
 show ∀p,W.H p=none->T { D with nx:=fun w M=>∃a kvs,w[d]?=some (some (.ref a))/\M a=some (.dT kvs)/\∀o,u D w (upd M a (.frz o (.dT kvs))) } (J.set d (some (.ref p))) (upd W.H p (.dT []))
 intro p A;unfold Va at l
 by_cases z:Ff d (c.set d none)=true
 ·rw[if_pos z]at l
  have hc:=Lr z
  have H:d<c.length:=by
   grind
  have Z:(J.set d (some (.ref p)))[d]?=some (some (V.ref p)):=List.getElem?_set_self (by rw[<- R.len];exact H)
  have R1:Rep K C ⟨W.Hf,upd W.H p (.dT []),clr W.fps d⟩ (c.set d none) (J.set d (some (.ref p))):=R.hide A
  have x:∀b,DX p (fun _=>[]) b->b=p:=fun b z=>by
   rcases z with z | ⟨_,z⟩
   ·exact z
   ·cases z
  have U:∀b,Wo.S ⟨W.Hf,upd W.H p (.dT []),clr W.fps d⟩ b->W.S b:=fun b ⟨j,h⟩=>⟨j,(Er h).1⟩
  have S:DB ⟨W.Hf,upd W.H p (.dT []),clr W.fps d⟩ p [] [] (fun _=>[]) :=
   ⟨⟨[],Be,rfl,rfl,fun j e ej=>by simp at ej⟩,fun b z=>by rw[x b z];exact⟨R.notF A,fun q=>R.notS A (U p q)⟩,fun i j b z=>(by cases z),fun j z=>(by cases z),fun b z=>by rw[x b z];exact⟨_,Be,trivial⟩,fun _ _=>rfl,fun k Y=>(by cases Y),List.nodup_nil⟩
  have I:Stp W.S W.Hf W.H (orX (Wo.S ⟨W.Hf,upd W.H p (.dT []),clr W.fps d⟩) p (fun _=>[])) W.Hf (upd W.H p (.dT [])) :=
   ⟨Same.refl _,fun b o e _=>by rw[Ak (fun q=>by rw[q,A]at e;cases e)];exact e,fun _ _ _ _ _ q=>q,fun b z=>by
    grind⟩
  refine h1 C _ _ _ _ p [] [] _ R1 hc Z S ?_
  cases eF:F (c.set d none) [] [] with
  | bad=>rw[eF]at l;exact l.elim
  | nx c2 r es =>
   rw[eF]at l;intro s m y st G X E f;obtain⟨t,N,q2,_,_⟩:=f.at_
   refine⟨p,r.zip t,E,N,fun o=>?_⟩
   have R3:Rep K C ⟨Rt m p (.frz o (.dT (r.zip t))) y,upd m.H p (.frz o (.dT (r.zip t))),m.fps⟩ c2 s:=G.frame f.same (f.sub G) fun b O=>by
    have P:¬ DX p y b:=fun z=>(f.fr b z).2 O
    obtain⟨i,hi⟩:=O
    exact⟨by rw[Pq P];exact(G.own i b hi).1,Ak (fun z=>P (.inl z))⟩
   have Q:=R3.setN (i:=d) (o:=.ty (.ds r (es.map DE.dat))) (v:=.ref p) (f.done (K:=K) N q2) rfl
   have L:s.set d (some (.ref p))=s:=by
    apply List.ext_getElem?
    grind
   rw[L]at Q
   have B:Stp (orX m.S p y) m.Hf m.H (Wo.S ⟨Rt m p (.frz o (.dT (r.zip t))) y,upd m.H p (.frz o (.dT (r.zip t))),clr m.fps d⟩) (Rt m p (.frz o (.dT (r.zip t))) y) (upd m.H p (.frz o (.dT (r.zip t)))) :=
    ⟨f.same,fun b o e n=>by rw[Ak fun z=>n (.inr (.inl z))];exact e,fun b o _ _ n q=>by rw[Pq fun z=>n (.inr z)];exact q,fun b ⟨j,h⟩=>.inl (.inl ⟨j,(Er h).1⟩)⟩
   exact h2 _ _ _ _ D Q (zG.step l (I.trans (st.trans B)))
 ·rw[if_neg z]at l;exact l.elim
end
section
variable {K:PySem.W.Frag}{β:Nat->V}{W W':Wo}{c c':Ev}{σ:St}{Hf H:Hp}
def X5 (Hf H:Hp):Hp:=fun b=>match H b with
 | some (.tup xs)=>some (.tup xs)
 | _=>Hf b
theorem Xl   (e:H b=some (.tup xs)):X5 Hf H b=some (.tup xs):=by unfold X5;rw[e]
theorem Uv  (h:∀xs,H b≠some (.tup xs)):X5 Hf H b=Hf b:=by
 unfold X5
 grind
theorem V2 (s:Same Hf H):Same Hf (X5 Hf H):=fun b u e=>by
 by_cases h:∃a,H b=some (.tup a)
 ·obtain⟨a,c⟩:=h
  rw[Xl c,<- c];exact s b u e
 ·rw[Uv fun a q=>h ⟨a,q⟩];grind
theorem A0p (s:Same Hf H):Same (X5 Hf H) H:=fun b u e=>by
 by_cases h:∃a,H b=some (.tup a)
 ·obtain⟨a,c⟩:=h
  rw[Xl c]at e;grind
 ·rw[Uv fun a q=>h ⟨a,q⟩]at e;exact s b u e
theorem A3e (s:Same Hf H):Stp (fun _=>False) Hf H (fun _=>False) (X5 Hf H) H :=
 ⟨V2 s,fun _ _ e _=>e,fun b o e a _ q=>by
  rw[Uv fun c z=>by rw[e]at z;cases z;exact a];grind,fun _ z=>z.elim⟩
mutual
theorem A2y {H':Hp}(h:∀b xs,H b=some (.tup xs)->H' b=some (.tup xs)):∀{d:PyData}{v:V},KTr H d v->Tr H' d v
 | .none,_,e=>e
 | .int _,_,e=>e
 | .str _,_,e=>e
 | .tuple _,_,⟨a,vs,e,ha,t⟩=>⟨a,vs,e,h _ _ ha,Al7 h t⟩
theorem Al7 {H':Hp}(h:∀b xs,H b=some (.tup xs)->H' b=some (.tup xs)):∀{ds:List PyData}{vs:List V},KTrL H ds vs->TrL H' ds vs
 | [],_,e=>e
 | _::_,_,⟨v,r,e,a,t⟩=>⟨v,r,e,A2y h a,Al7 h t⟩
end
theorem A9z {ks:List PyData}{xs:List V}{i:Nat}   (e:(ks.zip xs)[i]?=some (k,v)):ks[i]?=some k/\xs[i]?=some v:=by
 grind
def Hk:List PyData->List PyData->List PyData
 | k::ks,d::ds=>.tuple [k,d]::Hk ks ds
 | _,_=>[]
theorem Nu:∀{ks ds:List PyData},ks.length=ds.length->(Hk ks ds).length=ks.length
 | [],[],_=>rfl
 | [],_::_,h=>nomatch h
 | _::_,[],h=>nomatch h
 | _::ks,_::ds,h=>by
  show (Hk ks ds).length+1=_
  rw[Nu (Nat.succ.inj h)];rfl
theorem Xd:∀{ks ds:List PyData}{i:Nat}{x:PyData},(Hk ks ds)[i]?=some x->∃k d,ks[i]?=some k/\ds[i]?=some d/\x=.tuple [k,d]
 | [],_,_,_,e=>by simp[Hk]at e
 | _::_,[],_,_,e=>by simp[Hk]at e
 | k::ks,d::ds,0,x,e=>by
  cases (show some (PyData.tuple [k,d])=some x from e)
  exact⟨k,d,rfl,rfl,rfl⟩
 | k::ks,d::ds,i+1,x,e=>by
  obtain⟨k',d',h1,h2,h3⟩:=Xd (show (Hk ks ds)[i]?=some x by simpa[Hk] using e)
  exact⟨k',d',by simpa using h1,by simpa using h2,h3⟩
theorem TrL.at {H:Hp}:∀{ds:List PyData}{vs:List V}{i:Nat}{d:PyData}{v:V},TrL H ds vs->ds[i]?=some d->vs[i]?=some v->Tr H d v
 | [],_,_,_,_,_,e,_=>by simp at e
 | x::ds,_,0,d,v,⟨u,r,e0,t,_⟩,e1,e2=>by
  subst e0
  cases (show some x=some d from e1)
  cases (show some u=some v from e2)
  exact t
 | x::ds,_,i+1,d,v,⟨u,r,e0,_,ts⟩,e1,e2=>by
  subst e0
  exact TrL.at ts (by simpa using e1) (by simpa using e2)
def Rw (fa:Ev->R PV):Ev->R (List PyData):=fun c=>(fa c).bind fun p c=>match p with
 | .o (.ty (.ds ks ds))=>if ks.length=ds.length then .ok (Hk ks ds) c else .bad
 | _=>.bad
theorem Ay3   (ha:ME K B fa):MI K (iDI B) (Rw fa):=by
 intro F W c P k R s
 refine ha F W c P _ R ((s.bnd).mono fun p Y f v1 r X h y g=>?_)
 match p,g,f with
 | .o (.ty (.ds ks ds)),g,f =>
  obtain⟨⟨rfl,a,o,m,rfl,q,A,I⟩,_⟩:=g
  have h:Stp W.S W.Hf W.H r.S r.Hf r.H:=h.less fun a z=>.inl z
  have C:(ks.zip m).length=ks.length:=by simp_all
  have w:ks.length=ds.length:=I.trans A.length.symm
  have f:(if ks.length=ds.length then U.R.ok (Hk ks ds) Y else .bad:U.R (List PyData)).sat _:=f
  rw[if_pos w]at f
  refine⟨a,o,ks.zip m,rfl,y.sub _ _ q,f (Iti a o) r h y fun i j H n l=>⟨fun e=>⟨ks.zip m,l _ _ (n _ _ q),by rw[C,e,Nu w];omega⟩,fun d J=>⟨⟨ks.zip m,l _ _ (n _ _ q),by rw[C,<- Nu w];grind⟩,fun x H' M=>?_⟩⟩⟩
  obtain⟨p,G,k',v,b,rfl,D,rfl,Q,S,N⟩:=M
  cases (Q.symm.trans (l _ _ (n _ _ q)))
  obtain⟨L,O⟩:=A9z S;obtain⟨k2,d2,V,T,rfl⟩:=Xd J
  cases (V.symm.trans L)
  have u:=A0p (Hf:=j) l;have E:X5 j H p=none:=Same.free u D;have t:=Stp.newF (o:=.tup [.ref b,v]) u D
  refine⟨upd (X5 j H) p _,(A3e l).trans t,Ry u,p,_,rfl,Be,.ref b,_,rfl,Tr.same (Bw E) (A2y (fun b m e=>Xl e) N.2),v,[],rfl,Tr.same (Bw E) (Tr.same (V2 l) (Tr.same n (TrL.at A T O))),rfl⟩
 | .o (.ty (.nm _)),g,f=>exact f.elim
 | .o (.ty (.tc _)),g,f=>exact f.elim
 | .o (.ty (.xc _)),g,f=>exact f.elim
 | .o (.ty (.dc _ _)),g,f=>exact f.elim
 | .o (.ty (.dt _ _)),g,f=>exact f.elim
 | .o (.ty (.td _ _ _)),g,f=>exact f.elim
 | .o (.im _),g,f=>exact f.elim
 | .o (.ls _ _),g,f=>exact f.elim
 | .o (.sc _),g,f=>exact f.elim
 | .sl _,g,f=>trivial
end
variable {K:PySem.W.Frag}
def Xy:PyData->PyData->Option O
 | .list a,.int k=>if a.length*k.toNat<=16000000&&(decide (-16000000<=k)&&decide (k<=16000000)) then some (.ls false (A7z a k.toNat)) else none
 | _,_=>none
theorem Az7:OpS K A8m Xy:=by
 intro k H x y i j o Q s f h e n;unfold Xy at e
 split at e
 ·split at e
  ·rename_i l
   cases e
   simp  at l
   obtain⟨p,d,c,g,a⟩:=Fv f
   exact⟨p,_,d,c,Du h,g,by omega,by omega,by rw[<- a.length];exact lim l.1,fun r b=>n.lst s (Ao6 a _) b⟩
  ·cases e
 grind
theorem Ck         {p a:Pos}(D:Def X.prog X.w X.K X.mg X.base x k ps sp) (hr:Room c X.A) (ha:QA X (e::es) t) (h:k<=c:=by omega) (hg:Gl X x:=by rfl)
 (hdb:(x==("__debug__" : Str))=false:=by decide) (hn:noStar (e::es)=true:=by rfl):QE X (.Call (.Name x p) (e::es) [] a) (Qy sp [] E0 t):=by
 obtain⟨f,g,G,b,d,m⟩:=D;exact Uu G (hr.mono h) hg m d b .nil Br4 ha hdb hn
end U
namespace L2
open PySem PySem.Spec PyProof.Rows
end L2
namespace L2
open PySem PySem.Spec PyProof.Rows PySem.W
end L2
namespace U
open PySem L2 PySem.W
section
variable {K:PySem.W.Frag}{β:Nat->V}{W W':Wo}{c c':Ev}{σ σ':St}{D:Ends}{E:XK}{Hf H:Hp}
def Af6 (F:List PyData->XF)(fa:Ev->R (List PV)):Ev->XS:=Al5 F fa (fun _ c=>.s (.nx c)) .ex
theorem A3f {F:List PyData->XF}{t:TA}{fa:Ev->R (List PV)}(ha:MA K t fa):MX K E (Zz (Qy (spX K F) [] E t)) (Af6 F fa):=by
 intro β W c σ D R l
 have:=A2j (Q:=fun _ H'=>D.nx σ H') (E':=E) ha R l (fun o c1 W2 v st R2 lk r=>lk σ W2 st R2)
  (fun nm c1 W2 C st R2 lk hn=>lk C σ W2 hn st R2)
 show t σ W.H fun vs H1=>spX K F (vs++[]) H1 (fun _ H'=>D.nx σ H') E
 simp only[List.append_nil];exact this
end
end U
namespace L2
open PySem PySem.Spec PyProof.Rows PySem.W
section
variable {K K':Frag}
def K1 (K K':Frag):Prop:=∀a o,K.lookup a=some o->K'.lookup a=some o
theorem Sh (s:K1 K K'){ns:Addr}{x:Str}{r:Option Value}(e:nsIn K ns x=some r):nsIn K' ns x=some r:=by
 unfold nsIn at e ⊢
 split at e
 ·rename_i ho;rw[s _ _ ho];exact e
 ·cases e
theorem Ab9 (s:K1 K K'){x:Str}{v:Value}{r:Option Value}(e:ownIn K x v=some r):ownIn K' x v=some r:=by
 cases v with
 | ref a =>
  unfold ownIn at e ⊢
  dsimp only at e ⊢
  split at e
  ·rename_i ho;rw[s _ _ ho];exact Sh s e
  ·cases e
 | _=>exact e
theorem Ut (s:K1 K K'){x:Str}:∀{l:List Value}{r:Option Value},alongIn K x l=some r->alongIn K' x l=some r
 | [],r,e=>e
 | v::l,r,e=>by
  unfold alongIn at e ⊢
  split at e
  ·rename_i h;rw[Ab9 s h];exact e
  ·rename_i h;rw[Ab9 s h];exact Ut s e
  ·cases e
theorem Qi (s:K1 K K'){x:Str}{C:Addr}{r:Option Value}(e:findIn K (.ref C) x=some r):findIn K' (.ref C) x=some r:=by
 unfold findIn at e ⊢
 dsimp only at e ⊢
 split at e
 ·rename_i ho;rw[s _ _ ho];exact Ut s e
 ·cases e
theorem A2u (s:K1 K K'){C:Addr}{cd:ClassData}(e:clsIn K C=some cd):clsIn K' C=some cd:=by
 unfold clsIn at e ⊢
 split at e
 ·rename_i ho;rw[s _ _ ho];exact e
 ·cases e
theorem S5 (s:K1 K K'){t b:Value}{r:Bool}(e:subIn K t b=some r):subIn K' t b=some r:=by
 cases t with
 | ref C =>
  obtain⟨cd,h1,h2⟩:=Option.bind_eq_some_iff.mp (show (clsIn K C).bind _=_ from e)
  exact Option.bind_eq_some_iff.mpr ⟨cd,A2u s h1,h2⟩
 | _=>exact e
theorem W7 (s:K1 K K'){t c:Value}{r:Bool}(e:kitCls K t c=some r):kitCls K' t c=some r:=by
 unfold kitCls at e ⊢
 split at e
 ·rename_i C
  split at e
  ·rename_i z
   rw[if_pos,S5 s e]
   dsimp only[clsIn,typeIn]at z ⊢
   cases ho:K.lookup C with
   | none=>rw[ho]at z;cases z
   | some o=>rw[s _ _ ho];rw[ho]at z;exact z
  ·cases e
 ·split at e
  ·rename_i z;rw[if_pos z,S5 s e]
  ·cases e
 ·cases e
theorem As2 (s:K1 K K'){t c:Value}{r:Bool}(e:kitOne K t c=some r):kitOne K' t c=some r:=by
 unfold kitOne at e ⊢
 split at e
 ·rename_i z;rw[if_pos z];exact e
 ·rename_i z;rw[if_neg z];exact W7 s e
theorem As8 (s:K1 K K'){t c:Value}{r:Bool}(e:exmOne K t c=some r):exmOne K' t c=some r:=by
 unfold exmOne at e ⊢
 split at e
 ·rename_i z
  rw[if_pos (by rw[S5 s (beq_iff_eq.mp z)];rfl)];exact W7 s e
 ·cases e
theorem Ap2 (s:K1 K K'){n:Addr}(e:nsOkIn K n=true):nsOkIn K' n=true:=by
 unfold nsOkIn at e ⊢
 split at e
 ·rename_i ho;rw[s _ _ ho];exact e
 ·cases e
theorem Wa (s:K1 K K'){b:List Value}:∀{l:List Value},tailIn K b l=true->tailIn K' b l=true
 | [],e=>e
 | v::l,e=>by
  unfold tailIn at e ⊢
  rcases Bool.or_eq_true_iff.mp e with q | q
  ·rw[q];rfl
  ·refine Bool.or_eq_true_iff.mpr (.inr ?_)
   split at q
   ·split at q
    ·rename_i ho
     rw[s _ _ ho];simp only[Bool.and_eq_true,beq_iff_eq]at q ⊢;exact⟨⟨Ap2 s q.1.1,Sh s q.1.2⟩,Wa s q.2⟩
    ·cases q
   ·cases q
theorem Zx (s:K1 K K'){C:Addr}{b:List Value}{i:String}(e:excIn K C b i=true):excIn K' C b i=true:=by
 unfold excIn at e ⊢
 split at e
 ·rename_i ho
  rw[s _ _ ho]
  split at e
  ·rename_i h1 h2
   simp only[h1,h2,Bool.and_eq_true,beq_iff_eq]at e ⊢;obtain⟨⟨⟨e1,e2⟩,e3⟩,e4⟩:=e;exact⟨⟨⟨e1,Wa s e2⟩,Ap2 s e3⟩,Sh s e4⟩
  ·cases e
 ·cases e
theorem Bi8 (s:K1 K K'){C:Addr}(e:xcB K C=true):Qc K' C:=by
 unfold xcB at e;simp only[Bool.and_eq_true,beq_iff_eq]at e;exact⟨Zx s e.1,Qi s e.2.1,Qi s e.2.2.1,Qi s e.2.2.2⟩
theorem Tj (s:K1 K K'){x:Str}{p:Addr->Bool}(e:clB K x p=true):∃C,nsIn K' mainGlobals x=some (some (.ref C))/\p C=true:=by
 unfold clB at e
 split at e
 ·rename_i C h;exact⟨C,Sh s h,e⟩
 ·cases e
theorem Ae2 (s:K1 K K'){z:Value}:∀{tbl:List (Str×Bool)},tbB K z tbl=true->TbOk K' z tbl
 | [],_=>.nil
 | (x,b)::tbl,e=>by
  obtain⟨e1,e2⟩:=Bool.and_eq_true_iff.mp e;obtain⟨C,n,q⟩:=Tj s e1;obtain⟨q1,q2⟩:=Bool.and_eq_true_iff.mp q;exact .cons n (Bi8 s q1) (As2 s (beq_iff_eq.mp q2)) (Ae2 s e2)
theorem A3y (s:K1 K K'){F:Addr}:∀{NS:List Str},exB K F NS=true->ExOk K' F NS
 | [],_=>.nil
 | x::NS,e=>by
  obtain⟨e1,e2⟩:=Bool.and_eq_true_iff.mp e;obtain⟨C,n,q⟩:=Tj s e1;exact .cons n (As8 s (beq_iff_eq.mp q)) (A3y s e2)
def Aw8 (R:List Str)(T:List (Str×List (Str×Bool)))(V:List (Str×Bool))(F:List Str)(h:Heap):Prop:=∃K:Frag,cfB R T V F K=true/\∀a o,K.lookup a=some o->h.get? a=some o/\Bc3 o=true
variable {R:List Str}{T:List (Str×List (Str×Bool))}{V:List (Str×Bool)}{F:List Str}{h h':Heap}{mg:Str->Option Value}
theorem Bq1 {l:List Nat}(e:cfB R T V F (A6r l h)=true):Aw8 R T V F h:=⟨A6r l h,e,fun a o q=>by
 unfold A6r at q;rw[Lz]at q
 split at q
 ·obtain⟨o',h1,h2⟩:=Option.bind_eq_some_iff.mp q
  split at h2
  ·cases h2;exact⟨h1,by assumption⟩
  ·cases h2
 ·cases q⟩
theorem A3x (x:Aw8 R T V F h)(hk:∀b o,h.get? b=some o->h'.get? b=some o):Aw8 R T V F h' :=
 let ⟨K,e,q⟩:=x; ⟨K,e,fun a o z=>⟨hk _ _ (q a o z).1,(q a o z).2⟩⟩
theorem A6x (x:Aw8 R T V F h)(kin:K.In h)(G:h.Ns mainGlobals mg)(hK:∀a o,h.get? a=some o->Gy o=true->o.data≠.fields #[]->K.lookup a=some o) :
 (∀(i:Nat) (x:Str),R[i]?=some x->ClR K mg x)/\(∀(i:Nat) (q:Str×List (Str×Bool)),T[i]?=some q->ClT K mg q.2 q.1)/\TbOk K (.type "ValueError") V/\∀(i:Nat) (x:Str),F[i]?=some x->ClF K mg R x:=by
 obtain⟨K0,e,q⟩:=x
 have s:K1 K0 K:=fun a o z=>by
  obtain⟨q1,q2⟩:=q a o z;unfold Bc3 at q2
  refine hK a o q1 ?_ ?_
  ·unfold Gy;split at q2 <;> simp_all
  ·intro y;rw[y]at q2;cases q2
 obtain⟨e1,e2⟩:=Bool.and_eq_true_iff.mp e;obtain⟨e2,e3⟩:=Bool.and_eq_true_iff.mp e2;obtain⟨e3,e4⟩:=Bool.and_eq_true_iff.mp e3
 refine⟨fun i x m=>?_,fun i p m=>?_,Ae2 s e3,fun i x m=>?_⟩
 ·obtain⟨C,n,z⟩:=Tj s (List.all_eq_true.mp e1 x (List.mem_of_getElem? m))
  exact⟨C,mg_of kin G n,n,Zx s z⟩
 ·obtain⟨C,n,z⟩:=Tj s (List.all_eq_true.mp e2 p (List.mem_of_getElem? m))
  exact⟨C,mg_of kin G n,Ae2 s z⟩
 ·obtain⟨C,n,z⟩:=Tj s (List.all_eq_true.mp e4 x (List.mem_of_getElem? m))
  exact⟨C,mg_of kin G n,A3y s z⟩
end
section
variable {X:Cx}{k k1 k2 k':Nat}{ps ps1 ps2:List Str}{sp sp1 sp2:Sp}{x x1 x2 y n v:Str}{p p1 p2 pos epos cpos cpos1 cpos2 ipos yp hpos vp:Pos}{e e1 e2 ec:Expr}{es es1 es2:List Expr}{t t1 t2:TA}{tc:TT}{Fc:Addr}{b₀:Stmt}{suite:List Stmt}{th:TS}{j i:Nat}
def PX (X:Cx)(e:Expr)(t:St->Hp->VK->XK->Prop):Prop :=
 ∀(pins:List (Addr×Obj)) (s:Shared) (σ:St) (H:Hp) (Q:VK) (E:XK),Inv X pins σ H s->t σ H Q E->wpAny (model X.prog X.w) X.A (eval e X.env) (EP X pins σ Q) (fun ev s'=>∃H1 s1,Inv X pins σ H1 s1/\CXe X.prog X.w X.stack H1 s1 E ev s') s
theorem A7v {te:St->Hp->VK->XK->Prop}(hp:PX X e te)
 (hx0:X.ex=[]) (hs:X.stack=X.env::X.outer/\X.env.frame=some X.env.locals) (hN:X.N.Nodup) (hi:X.N[i]?=some v) (hv:Loc X.env.scope v) (hj:X.N[j]?=some n) (hlo:X.env.scope.names.lookup n=some .local) (hg:Gl X y) (hm:X.mg y=some (.ref Fc)) (hsu:∀a,PSs (Qn X a) (b₀::suite) th)
 (hsw:swapsWith e (some (.Name v vp)) epos.line X.env=pure false) (hd2:(y==("__debug__" : Str))=false) (hf:X.fn v=true\/X.env.scope.names.lookup v=some .local) :
 PS X (.Try [.Assign [.Name v vp] e epos] [.ExceptHandler (some (.Name y yp)) (some n) (b₀::suite) hpos] [] [] pos) (fun D σ H=>te σ H (fun u H2=>D.nx (σ.set i (some u)) H2)
  (fun c _ H2=>∃C,c=.ref C/\exmOne X.K c (.ref Fc)=some true/\∀a,H2 a=none->th { nx:=fun σ2 H3=>D.nx (σ2.set j none) H3,rt:=D.rt } (σ.set j (some (.ref a))) (upd H2 a (Mt a C)))):=by
 intro pins s σ H D I h
 refine wpAny_Try_except (wpAny_execs_cons (wpAny_Assign_Name ?_ hsw))
 refine wpAny_mono (hp pins s σ H _ _ I h) (fun u s1 ⟨v1,H1,I1,r1,q1⟩=>?_) (fun ev s' ⟨H1,s1,I1,cx⟩=>?_)
 ·exact Gr I1 hN hi hv r1 (fun s2 I2=>wpAny_execs_nil (wpAny_execs_nil ⟨_,H1,I2,q1⟩)) hf
 ·exact Ax5 hx0 hs hN hj hlo hg hm hsu I1 cx (fun C H2 ⟨C',e1,e2,e3⟩=>by cases e1;exact⟨e2,e3⟩) hd2
end
def Bu8 (A:Around):Around:={ A with handled:=none }
end L2
namespace U
open PySem L2
end U
namespace L2
open PySem PySem.Spec PyProof.Rows PySem.W
def Yv (K:PySem.W.Frag):List V->Hp->VK->Prop:=fun xs H Q=>∃(a C p:Addr) (cs:List Addr) (b:Bool),xs=[.ref a,.ref p]/\H a=some (Mt a C)/\Qc K C/\H p=some (.tup (cs.map V.ref))/\kitAny K (.ref C) (cs.map Value.ref)=some b/\Q (.bl b) H
theorem W9:∀{cs:List Addr}{us:List Value},Vals (cs.map V.ref) us->us=cs.map Value.ref
 | [],us,h=>by cases h;rfl
 | c::cs,us,h=>by
  cases h with
  | cons r t=>rw[W9 t,show _=Value.ref c from r];rfl
section
variable {X:Cx}
theorem Ag1:CallR X (.builtin "isinstance") (Yv X.K):=by
 intro pins s σ H xs us Q I r h;obtain⟨a,C,p,cs,b,rfl,ha,Z,hp,ek,q⟩:=h;obtain⟨u1,u2,rfl,r1,r2⟩:=vals2 r
 cases (show u1=Value.ref a from r1)
 cases (show u2=Value.ref p from r2)
 have ho:z9 X.prog X.w H s.heap a (Mt a C):=I.hok a _ ha;obtain⟨_,its,rt,o,hq,hc,⟨n,hd⟩,_⟩:=I.hok p _ hp
 cases W9 rt
 obtain⟨cls,dd,data,sl⟩:=o;simp only at hc hd;subst hc hd
 exact kia_tup (Z2 Z) I.kIn ho.1 hq ek (fun z=>nomatch z) fun tk=>⟨.bl b,H,I.tok _,rfl,q⟩
theorem A0s {e:Expr}{es:List Expr}{t:TA}{p pos:Pos}{Kq:PySem.W.Frag}(hKq:X.K=Kq)(hgl:Gl X "isinstance") (hm:X.mg "isinstance" = none) (ha:QA X (e::es) t) (hn:noStar (e::es)=true:=by rfl):QE X (.Call (.Name "isinstance" p) (e::es) [] pos) (tCB (Yv Kq) t):=by
 subst hKq
 exact⟨Fb Ag1 hgl hm Hg ha.get (by decide) (by decide) hn⟩
end
def Z0 (K:PySem.W.Frag)(gs:List Addr)(tbl:List (Str×Bool)):Prop:=∀nm b,tbl.lookup nm=some b->∀C,PySem.W.nsIn K mainGlobals nm=some (some (.ref C))->Qc K C/\kitAny K (.ref C) (gs.map Value.ref)=some b
theorem A6j {K:PySem.W.Frag}{g:Addr}{tbl:List (Str×Bool)}(h:TbOk K (.ref g) tbl):Z0 K [g] tbl:=fun nm b e C hn=>by
 obtain⟨x,k⟩:=h nm b e C hn
 refine⟨x,?_⟩
 show (match kitOne K (.ref C) (.ref g) with
  | some true=>some true
  | some false=>some false
  | none=>none)=some b
 rw[k];cases b <;> rfl
def orT:List (Str×Bool)->List (Str×Bool)->List (Str×Bool)
 | (n,b)::r,(_,c)::s=>(n,b||c)::orT r s
 | _,_=>[]
theorem Zf:∀{t u:List (Str×Bool)}{nm:Str}{b:Bool},t.map (·.1)=u.map (·.1)->(orT t u).lookup nm=some b->∃x y,t.lookup nm=some x/\u.lookup nm=some y/\b=(x||y)
 | [],_,nm,b,_,e=>by cases e
 | _::_,[],nm,b,_,e=>by cases e
 | (n,x)::t,(m,y)::u,nm,b,h,e=>by
  rw[List.map_cons,List.map_cons]at h;obtain⟨h1,h2⟩:=List.cons.inj h
  cases (show n=m from h1)
  rw[List.lookup_cons,List.lookup_cons]
  rw[show orT ((n,x)::t) ((n,y)::u)=(n,x||y)::orT t u from rfl,List.lookup_cons]at e
  cases q:nm==n with
  | true=>rw[q]at e;cases e;exact⟨x,y,rfl,rfl,rfl⟩
  | false=>rw[q]at e;exact Zf h2 e
theorem Lq {K:PySem.W.Frag}{g:Addr}{gs:List Addr}{t u:List (Str×Bool)}(h:TbOk K (.ref g) t)(hs:Z0 K gs u)(e:t.map (·.1)=u.map (·.1)):Z0 K (g::gs) (orT t u):=fun nm b el C hn=>by
 obtain⟨x,y,e1,e2,rfl⟩:=Zf e el;obtain⟨x1,k⟩:=h nm x e1 C hn;obtain⟨_,k2⟩:=hs nm y e2 C hn
 refine⟨x1,?_⟩
 show (match kitOne K (.ref C) (.ref g) with
  | some true=>some true
  | some false=>kitAny K (.ref C) (gs.map Value.ref)
  | none=>none)=_
 rw[k]
 cases x
 ·exact k2
 ·rfl
end L2
namespace U
open PySem L2 PySem.W
variable {K:PySem.W.Frag}
def tCs:List Addr->TA
 | []=>Fe
 | g::gs=>Ci (tC (.ref g)) (tCs gs)
theorem A1b {σ:St}:∀{gs:List Addr}{H:Hp}{k:List V->Hp->Prop},k (gs.map V.ref) H->tCs gs σ H k
 | [],_,_,h=>h
 | g::gs,H,k,h=>A1b (gs:=gs) (k:=fun vs H1=>k (V.ref g::vs) H1) h
theorem A2g {te:TE}{f:Ev->R PV}{gs:List Addr}{tbl:List (Str×Bool)}(ht:Z0 K gs tbl)(h:ME K te f)(hl:gs.length<=1000:=by simp) :
 ME K (tCB (Yv K) (Ci te (Ci (Aw5 (tCs gs)) Fe))) (O2 tbl f):=by
 intro β W c σ Q R s
 refine h β W c σ _ R ((s.bnd).mono fun p c1 s1 v1 W1 fp1 st1 R1 r1=>?_)
 cases ed:rdP c1 p with
 | none=>simp only[ed]at s1;exact s1.elim
 | some o =>
  simp only[ed]at s1
  match o,ed,s1 with
  | .ty (.xc nm),ed,s1 =>
   cases el:tbl.lookup nm with
   | none=>simp only[el]at s1;exact s1.elim
   | some b =>
    simp only[el]at s1;obtain⟨a,C,e,hn,hf⟩:=A1i R1 r1 ed;subst e;obtain⟨x1,x2⟩:=ht nm b el C hn
    refine A1b ⟨by rw[List.length_map];exact Nat.le_trans hl (by decide),fun q hq=>?_⟩
    have sn:Same W1.H (upd W1.H q (.tup (gs.map V.ref))):=fun b u e=>Bw hq b u e
    refine⟨a,C,q,gs,b,rfl,sn _ _ (R1.sub _ _ hf),x1,Be,x2,?_⟩
    have R2:Rep K β ⟨W1.Hf,upd W1.H q (.tup (gs.map V.ref)),W1.fps⟩ c1 σ:=Stp.rep (S':=fun _=>False) R1 (Ib sn) fun a o e=>sn a o (R1.sub a o e)
    exact s1 (.bl b) ⟨W1.Hf,upd W1.H q (.tup (gs.map V.ref)),W1.fps⟩ [] ((st1.trans (Ib sn)).less fun a z=>by
     rcases z with z | z
     ·exact .inl z
     ·cases z) R2 ⟨⟨rfl,rfl⟩,fun a z=>nomatch z⟩
  | .ty (.nm _),ed,s1=>exact s1.elim
  | .ty (.tc _),ed,s1=>exact s1.elim
  | .ty (.dc _ _),ed,s1=>exact s1.elim
  | .ty (.dt _ _),ed,s1=>exact s1.elim
  | .ty (.ds _ _),ed,s1=>exact s1.elim
  | .ty (.td _ _ _),ed,s1=>exact s1.elim
  | .im _,ed,s1=>exact s1.elim
  | .ls _ _,ed,s1=>exact s1.elim
  | .sc _,ed,s1=>exact s1.elim
end U
namespace L2
open PySem
end L2
namespace U
open PySem L2 PySem.W
theorem A8x {X:Cx}{x:Str}{k k':Nat}{ps:List Str}{sp:Sp}{E:XK}{e:Expr}{es:List Expr}{t:TA}{p pos:Pos}(hx:Li (CXe X.prog X.w) X E)(D:DefX X.prog X.w X.K X.mg X.base x k ps sp)(hr:Room k' X.A)(ha:QA X (e::es) t)(h:k<=k':=by omega)(hg:Gl X x:=by rfl)
 (hdb:(x==("__debug__" : Str))=false:=by decide) (hn:noStar (e::es)=true:=by rfl):QE X (.Call (.Name x p) (e::es) [] pos) (Qy sp [] E t):=by
 obtain⟨f,fd,G,b,kp,m⟩:=D;exact Uu G (hr.mono h) hg m kp b .nil hx ha hdb hn
end U
namespace L2
open PySem PySem.Spec PyProof.Rows PySem.W
section
variable {P:Program}{w:World}{K:PySem.W.Frag}{mg:Str->Option Value}{base:Heap}{N':List Str}{scope:Scope}{cl:List (Str×Addr)}{qual:Str}{f:Addr}{cv:Value}{A1:Around}{stk:List Env}{s:Shared}{H:Hp}{E:XK}
def V8 (P:Program)(w:World)(K:PySem.W.Frag)(mg:Str->Option Value)(base:Heap)(N':List Str)(scope:Scope)(cl:List (Str×Addr))(qual:Str)(f:Addr)(cv:Value)(A1:Around)(stk:List Env)(s:Shared)(H:Hp)(E:XK):Cx :=
 {
  prog:=P,w:=w,K:=K,mg:=mg,base:=base,A:=A1.deeper (envX qual scope s.heap.objs.size f cv cl),N:=N',s₀:=s,H₀:=H,env:=envX qual scope s.heap.objs.size f cv cl,outer:=stk,stack:=envX qual scope s.heap.objs.size f cv cl::stk,
  ex:=[],fn:=fun _=>false,calm:=true,pn:=[],xe:=fun e s'=>wpAny (model P w) (A1.deeper (envX qual scope s.heap.objs.size f cv cl)) (leaving (envX qual scope s.heap.objs.size f cv cl) e) (fun _ s''=>CXe P w stk H s E e s'') (fun e' s''=>CXe P w stk H s E e' s'') s' }
theorem Ub:Li (CXe P w) (V8 P w K mg base N' scope cl qual f cv A1 stk s H E) E:=by
 intro pins σ H1 s1 e s' I h;obtain⟨a,C,H',rfl,⟨⟨B,t,fl,cov⟩,new,fr⟩,os,bare,u,hok,q⟩:=h
 refine wpAny_leaves_onW (base:=B) (cls:=.ref C) (a0:=.ref t) I.ok.frames rfl fl fun h2 fl2 up=>?_
 have I2:Inv (V8 P w K mg base N' scope cl qual f cv A1 stk s H E) pins σ H' { s' with heap:=h2 }:=I.flown (tk:=s'.toks) u hok os bare fl.2.2.1 cov fl2.1 up
 have nb:∀b o,s.heap.get? b=some o->∃o',s1.heap.get? b=some o':=fun b o e=>I.base.there b o e (fun z=>nomatch z)
 refine⟨a,C,H',rfl,⟨⟨B,t,fl2,fun b o e hf hb=>?_⟩,fun b o e=>?_,fr⟩,os.trans I.os,bare,I2.base,I2.hok,q⟩
 ·have nl:b≠s.heap.objs.size:=by
   rintro rfl
   rcases hb with ⟨u',e'⟩ | hb
   ·exact absurd (Heap.lt_size e') (Nat.lt_irrefl _)
   ·exact hb I2.free
  have hfs:b∉frs (V8 P w K mg base N' scope cl qual f cv A1 stk s H E).stack:=fun z=>by
   rcases List.mem_cons.mp (I.stkSub b z) with q | q
   ·exact nl q
   ·exact hf q
  have there:∃o',s'.heap.get? b=some o':=by
   rcases hb with ⟨u',e'⟩ | hb
   ·obtain⟨o1,e1⟩:=nb b u' e'
    exact u.there b o1 e1 (fun z=>nomatch z)
   ·cases q':H' b with
    | none=>exact absurd q' hb
    | some ho=>exact(hok b ho q').there
  obtain⟨o',e'⟩:=there
  have:=cov b o' e' hfs (by
   rcases hb with ⟨u',q'⟩ | hb
   ·exact .inl (nb b u' q')
   ·exact .inr hb)
  have e2:=fl2.1 b o' this;rw[e]at e2;cases e2;exact this
 ·obtain⟨o',e'⟩:=nb b o e
  exact new b o' e'
variable {X:Cx}{pins:List (Addr×Obj)}{σ:St}
theorem A5n {idx:List (Option Nat)}{h₁:Heap}{t':Nat}(L:Uo X N' idx scope)(hd:A1.handled=none)(I:Z5 P w K mg base A1 stk s H)(J:Inv X pins σ H s)
 (c1:∀x c,cl.lookup x=some c->X.env.cells.lookup x=some c/\(x,NameKind.free)∈scope.names) (c2:∀x,(x,NameKind.free)∈scope.names->∃c,cl.lookup x=some c)
 (k:∀b o,s.heap.get? b=some o->h₁.get? b=some o) (hn:h₁.Ns s.heap.objs.size (fun y=>([]:List (Str×Value)).reverse.lookup y)) :
 Inv (V8 P w K mg base N' scope cl qual f cv A1 stk s H E) [] (cst idx σ) H { s with heap:=h₁,toks:=t' } where
 ok:={
  mod:=I.mod,kind:=L.kind,glob:=rfl,blt:=rfl,above:=Nat.le_refl _,inj:=fun y z c e1 e2=>J.ok.inj y z c (c1 y c e1).1 (c1 z c e2).1
  has:=fun y h=>by
   have h':scope.names.lookup y=some .cell\/scope.names.lookup y=some .free:=h
   rcases h' with h | h
   ·exact absurd rfl (L.cell _ (lookup_mem h))
   ·exact c2 y (lookup_mem h)
  cab:=(fun y c z=>nomatch z),hd:=fun _=>hd,frames:=Around.frames_deeper I.frames,stk:=.inr ⟨rfl,rfl⟩,exf:=(fun b z=>nomatch z),bs:=I.bs,bsz:=I.bsz,noex:=(fun _ _ _ z=>nomatch z),exfs:=(fun _ z=>nomatch z)
  funs:=I.funs,frf:=I.frf,tab:=I.tab }
 os:=rfl
 bare:=I.bare
 base:=Un.kept k
 loc:=by
  refine⟨_,hn,fun j y w e1 e2 e3=>?_⟩
  obtain⟨m0,hn0,hl⟩:=J.loc
  have e2':(idx.map fun o=>o.bind fun i=>(σ[i]?).join)[j]?=some (some w):=e2
  rw[List.getElem?_map]at e2'
  cases ei:idx[j]? with
  | none=>rw[ei]at e2';cases e2'
  | some o =>
   rw[ei]at e2';simp only[Option.map_some,Option.some.injEq]at e2'
   cases o with
   | none=>cases e2'
   | some i =>
    have e2'':(σ[i]?).join=some w:=e2';obtain⟨hNi,hfr⟩:=L.at' j i y e1 ei
    have hσ:σ[i]?=some (some w):=by
     cases q:σ[i]? with
     | none=>rw[q]at e2'';cases e2''
     | some z=>rw[q]at e2'';rw[show z=some w from e2'']
    have hk:=L.free _ (lookup_mem hfr) rfl
    have hvis:Vis X.env.scope y:=by
     rcases hk with z | z
     ·exact .inr (.inl z)
     ·exact .inr (.inr z)
    obtain⟨u',r',lk⟩:=hl i y w hNi hσ hvis
    refine⟨u',r',.inr ⟨.inr hfr,?_⟩⟩
    rcases lk with ⟨z,_⟩ | ⟨_,c,hc,hcl⟩
    ·exfalso
     have z':X.env.kindOf y=some .local:=z
     rcases hk with q | q
     ·rw[show X.env.kindOf y=_ from q]at z';cases z'
     ·rw[show X.env.kindOf y=_ from q]at z';cases z'
    ·obtain⟨c',hc'⟩:=c2 y (lookup_mem hfr)
     have ec:c'=c:=Option.some.inj ((c1 y c' hc').1.symm.trans hc);obtain⟨oc,g1,g2⟩:=hcl
     exact⟨c',hc',oc,by rw[ec];exact k _ _ g1,g2⟩
 cell:=fun y c e=>by
  obtain⟨w,oc,g1,g2⟩:=J.cell y c (c1 y c e).1;exact⟨w,oc,k _ _ g1,g2⟩
 free:=I.hok.fresh (Nat.le_refl _)
 freeC:=fun y c e=>J.freeC y c (c1 y c e).1
 pin:=fun p hp=>nomatch hp
 hok:=I.hok.kept k
 len:=by
  show (idx.map _).length=N'.length
  rw[List.length_map];exact L.len
theorem A7f {k:Nat}{idx:List (Option Nat)}{params:Arguments}{body:Expr}{pm ctv:Value}{te:TE}{Q:VK}(L:Uo X N' idx scope)(hco:scope.isCoroutine=false)(hgen:scope.isGenerator=false)
 (hbind:bindArgs (kla_fn "<lambda>" qual params body scope cl pm cv ctv) ⟨[],[]⟩=pure []) (hr:Room (k+1) A1)
 (hb:QE (V8 P w K mg base N' scope cl qual f cv A1 stk s H E) body te) (I:Z5 P w K mg base A1 stk s H) (J:Inv X pins σ H s) (ho:s.heap.get? f=some (Ah9 qual params body scope cl pm cv ctv)) (hcd:s.heap.CodeRec cv qual)
 (c1:∀x c,cl.lookup x=some c->X.env.cells.lookup x=some c/\(x,NameKind.free)∈scope.names) (c2:∀x,(x,NameKind.free)∈scope.names->∃c,cl.lookup x=some c) (h:te (cst idx σ) H Q) :
 codeAny (model P w) A1 (.call (.ref f) ⟨[],[]⟩) (CR (CXe P w) stk P w H s Q E) s:=by
 refine kla_callFunE hr.depth ho rfl hco hgen rfl hcd ?_
 rw[hbind]
 refine wpAny_pure (wpAny_newFunctionEnv L.cell (fun y hy=>nomatch hy) (fun h₁ hns hsb=>?_) L.kind)
 have hk₁:∀b o,s.heap.get? b=some o->h₁.get? b=some o:=fun b o e=>hsb.extBut b o (Nat.ne_of_lt (Heap.lt_size e)) (Heap.get?_push_of_some _ e)
 have lim:s.heap.NoLimit:=I.mod.nolimit.keeps fun b o e=>(I.bs b o e).1
 refine⟨lim.keeps hk₁,?_⟩
 show codeAny _ _ (.expr body (envX qual scope s.heap.objs.size f cv cl)) _ _
 have J1:=A5n (qual:=qual) (f:=f) (cv:=cv) (E:=E) (t':=s.toks+([]:List (Str×Value)).length) L hr.hd I J c1 c2 hk₁ hns
 refine kla_codeExpr (wpAny_mono (hb.get [] _ _ H Q J1 h) (fun u' s' hq=>?_) fun _ _ z=>z)
 obtain⟨v',H',J',r',q⟩:=hq;exact⟨v',H',J'.os,J'.bare,J'.base,J'.hok,r',q⟩
end
def Bb0 (P:Program)(w:World)(K:PySem.W.Frag)(mg:Str->Option Value)(base:Heap)(A:Around)(outer:List Env)(s:Shared)(H:Hp)(fl:Addr)(te:Hp->VK->XK->Prop):Prop :=
 ∀
  (env:Env) (s':Shared) (H':Hp) (Q':VK) (E':XK),Z5 P w K mg base (A.deeper env) (env::outer) s' H'->Un (frs outer) [] H H' s.heap s'.heap->s'.os=s.os->te H' Q' E' ->
  FnAt fl s'.heap/\codeAny (model P w) (A.deeper env) (.call (.ref fl) ⟨[],[]⟩) (CR (CXe P w) (env::outer) P w H' s' Q' E') s'
def Bn3 (K:PySem.W.Frag)(Fc:Addr)(spr:Sp)(Q:VK):XK:=fun c _ H3=>∃C,c=.ref C/\exmOne K c (.ref Fc)=some true/\∀a,H3 a=none->spr [.non,.ref a] (upd H3 a (Mt a C)) Q E0
def Ak0 (te:Hp->VK->XK->Prop):Prop:=∀(H:Hp) (Q Q':VK) (E E':XK),(∀v H,Q v H->Q' v H)->(∀c m H,E c m H->E' c m H)->te H Q E->te H Q' E'
def Told (P:Program)(w:World)(K:PySem.W.Frag)(mg:Str->Option Value)(base:Heap)(x:Str)(k:Nat)(Fc:Addr)(spr:Sp):Prop :=
 ∃
  f:Addr,PySem.W.keepIn K (.ref f)=true/\mg x=some (.ref f)/\∀(A:Around) (outer:List Env) (s:Shared) (H:Hp) (fl:Addr) (te:Hp->VK->XK->Prop) (Q:VK),Room k A->Z5 P w K mg base A outer s H->Ak0 te->Bb0 P w K mg base A outer s H fl te ->
  (∀H1,Same H H1->te H1 (fun u H3=>spr [u,.non] H3 Q E0) (Bn3 K Fc spr Q))->codeAny (model P w) A (.call (.ref f) ⟨[.ref fl],[]⟩) (CR CX0 outer P w H s Q E0) s
section
variable {P:Program}{w:World}{K:PySem.W.Frag}{mg:Str->Option Value}{base:Heap}
theorem Inv.tail {X:Cx}{pins:List (Addr×Obj)}{o:Option V}{σ:St}{H:Hp}{s:Shared}{n:Str}{N:List Str}(hN:X.N=n::N)(I:Inv X pins (o::σ) H s):Inv { X with N:=N } pins σ H s:=by
 obtain⟨m,hm,hl⟩:=I.loc
 refine⟨⟨I.ok.mod,I.ok.kind,I.ok.glob,I.ok.blt,I.ok.above,I.ok.inj,I.ok.has,I.ok.cab,I.ok.hd,I.ok.frames,I.ok.stk,I.ok.exf,I.ok.bs,I.ok.bsz,I.ok.noex,I.ok.exfs,I.ok.funs,I.ok.frf,I.ok.tab⟩,I.os,I.bare,I.base,⟨m,hm,fun i x v e1 e2 e3=>hl (i+1) x v (by rw[hN];exact e1) e2 e3⟩,I.cell,I.free,I.freeC,I.pin,I.hok,?_⟩
 have:=I.len;rw[hN]at this;exact Nat.succ.inj this
theorem A5v {k:Nat}{x cn v c2 n y:Str}{M:List Str}{st:Stmt}{f Fc:Addr}{fd:FuncData}{spr:Sp}{vp cp cpos epos yp hpos tpos ap bp spos:Pos}
 (F:Fun K x x st f fd) (S:Ce (cn::v::c2::n::M) [cn] (Ao st)) (hb:Binds K fd [cn] []) (hm:mg x=some (.ref f)) (hy:mg y=some (.ref Fc))
 (h1:∀(cdv:Value) (A:Around) (outer:List Env) (s:Shared) (H:Hp),QS (Iv CX0 P w K mg base (cn::v::c2::n::M) x (Ao st) f cdv A outer s H E0).nox ((Ds st).headD (.Pass ⟨0,0,0,0⟩)) (Y7 (Aw5 (Ci (tC .non) (Ci (tC .non) Fe))) (Aq5 K 2 (Pu (Js 1) (Pu (Js 2) Aj8)))))
 (hrest:∀(cdv:Value) (A:Around) (outer:List Env) (s:Shared) (H₀ H:Hp) (vs:List V) (Q:VK) (E:XK),Room k (A.deeper (envOfC x (Ao st) s.heap.objs.size f cdv))->spr vs H Q E ->
  ∃t,PSs (Iv CX0 P w K mg base (v::c2::n::M) x (Ao st) f cdv A outer s H₀ E).nox ((Ds st).drop 2) t/\t { nx:=fun _ H'=>Q .non H',rt:=Q } (start (v::c2::n::M) vs) H)
 (hst:Ds st=(Ds st).headD (.Pass ⟨0,0,0,0⟩)::.Try [.Assign [.Name v vp] (.Call (.Name cn cp) [] [] cpos) epos] [.ExceptHandler (some (.Name y yp)) (some n) [.Assign [.Name c2 ap] (.Name n bp) spos] hpos] [] [] tpos::(Ds st).drop 2:=by rfl)
 (hg:(Ao st).names.lookup y=some .globalImplicit:=by rfl) (lv:(Ao st).names.lookup v=some .local:=by rfl) (l2:(Ao st).names.lookup c2=some .local:=by rfl) (ln:(Ao st).names.lookup n=some .local:=by rfl) (lc:(Ao st).names.lookup cn=some .local:=by rfl)
 (hsw:∀env,swapsWith (.Call (.Name cn cp) [] [] cpos) (some (.Name v vp)) epos.line env=pure false:=by exact fun _=>rfl) (hsw2:∀env,swapsWith (.Name n bp) (some (.Name c2 ap)) spos.line env=pure false:=by exact fun _=>rfl)
 (d1:(cn==("__debug__" : Str))=false:=by decide) (d2:(n==("__debug__" : Str))=false:=by decide) (d3:(y==("__debug__" : Str))=false:=by decide) (d4:(cn==("__classdict__" : Str))=false:=by decide) (d5:(n==("__classdict__" : Str))=false:=by decide):Told P w K mg base x (k+1) Fc spr:=by
 obtain⟨oc,od,kV,doc,pm,an,cdv,ct,osl,rfl,lk,hcd⟩:=F.ex
 refine⟨f,F.kp,hm,fun A outer s H fl te Q hr e0 hmo ht q=>?_⟩
 have KX:K.In s.heap:=e0.mod.kin.keeps fun b o e=>(e0.bs b o e).1
 have lim:s.heap.NoLimit:=e0.mod.nolimit.keeps fun b o e=>(e0.bs b o e).1
 have hkind:∀y∈[cn].zip [Value.ref fl],(Ao st).names.lookup y.1=some .local\/((Ao st).names.lookup y.1=some .cell/\((cellsFrom (s.heap.objs.size+1) (Ao st).names []).lookup y.1).isSome=true):=fun⟨n,v⟩ hy=>by
  cases List.mem_singleton.mp hy
  exact .inl lc
 refine codeAny_call_function hr.depth (KX _ _ lk) rfl S.co S.gen rfl (PySem.W.codeRec_of KX hcd) (hb s [.ref fl] KX rfl _ _ _ _ ?_)
 refine wpAny_newFunctionEnv_cells S.kind hkind fun env he s1' xx=>?_
 subst he
 refine⟨lim.keeps xx.toInCall.keep,codeAny_func ?_⟩
 have I0:Inv (Iv CX0 P w K mg base (cn::v::c2::n::M) x (Ao st) f cdv A outer s H E0) [] (start (cn::v::c2::n::M) [.ref fl]) H s1':=Wg S hr.hd e0 rfl (.cons rfl .nil) xx;have I:Inv (Iv CX0 P w K mg base (cn::v::c2::n::M) x (Ao st) f cdv A outer s H E0).nox [] (some (.ref fl)::none::none::none::List.replicate M.length none) H s1':=I0.wish _;have hr2:=hr.deeper (envOfC x (Ao st) s.heap.objs.size f cdv)
 refine wpAny_mono (Q:=SP (Iv CX0 P w K mg base (v::c2::n::M) x (Ao st) f cdv A outer s H E0).nox [] { nx:=fun _ H'=>Q .non H',rt:=Q }) (E:=fun _ _=>False) ?_ (fun fw s' hs=>?_) fun _ _ z=>z.elim
 ·generalize hB:(Ds st).headD (.Pass ⟨0,0,0,0⟩)=s1 at hst h1
  generalize hC:(Ds st).drop 2=rest at hst hrest
  show wpAny _ _ (execs (Ds st) _) _ _ _
  rw[hst]
  refine wpAny_execs_cons (thn ((h1 cdv A outer s H).get [] s1' _ H { nx:=fun σ' H'=>σ'=some (.ref fl)::some .non::some .non::none::List.replicate M.length none/\Same H H',rt:=fun _ _=>False } I ⟨by show 2<=sizeLine;decide,fun p hp=>⟨p,_,rfl,SqT.of Be,rfl,.non,_,rfl,.non,_,rfl,rfl,rfl,fun b u e=>by rw[Ak (Bv e hp)];exact e⟩⟩) fun fw s2 q2=>?_)
  cases fw with
  | ret _=>obtain⟨_,_,_,_,_,z⟩:=q2;exact z.elim
  | brk=>obtain⟨_,_,_,z⟩:=q2;exact z.elim
  | cont=>obtain⟨_,_,_,z⟩:=q2;exact z.elim
  | next =>
  obtain⟨σ2,H2,I2,rfl,sm⟩:=q2
  have hpx:PX (Iv CX0 P w K mg base (cn::v::c2::n::M) x (Ao st) f cdv A outer s H E0).nox (.Call (.Name cn cp) [] [] cpos) (fun σ H' Q' E'=>σ[0]?=some (some (.ref fl))/\te H' Q' E'):=by
   intro pins s' σ' H' Q' E' I' ⟨e1,q1⟩
   refine wpAny_Call_Name_kw ?_
   refine wpAny_mono (Yt (i:=0) rfl (Or.inl lc) d1 d4 pins s' σ' H' (fun v H2=>v=.ref fl/\H2=H') I' ⟨_,e1,rfl,rfl⟩) (fun u s2 ⟨v,H2,I2,r,hv,hH⟩=>?_) (fun _ _ z=>z.elim)
   subst hv hH
   cases (show u=Value.ref fl from r)
   obtain⟨fa,run⟩:=ht _ s2 H2 Q' E' I2.env0 I2.base I2.os q1
   refine callWith_F0 fa (wpAny_call (codeAny_mono run fun r s3 hq=>?_))
   cases r with
   | error ev=>exact⟨H2,s2,I2,hq⟩
   | ok fl =>
    cases fl with
    | ret u=>exact I2.after hq
    | next=>exact False.elim hq
    | brk=>exact False.elim hq
    | cont=>exact False.elim hq
  have su:∀a,PSs (Qn (Iv CX0 P w K mg base (cn::v::c2::n::M) x (Ao st) f cdv A outer s H E0).nox a) [.Assign [.Name c2 ap] (.Name n bp) spos] (Y7 (Aj5 3) (Js 2)):=fun a=>An4 (A1p S.nd rfl (Or.inl l2) (Yt rfl (Or.inl ln) d2 d5) (hsw2 _) (.inl rfl))
  have tr:PS (Iv CX0 P w K mg base (cn::v::c2::n::M) x (Ao st) f cdv A outer s H E0).nox (.Try [.Assign [.Name v vp] (.Call (.Name cn cp) [] [] cpos) epos] [.ExceptHandler (some (.Name y yp)) (some n) [.Assign [.Name c2 ap] (.Name n bp) spos] hpos] [] [] tpos) _:=A7v (i:=1) (j:=3) hpx rfl ⟨rfl,rfl⟩ S.nd rfl (Or.inl lv) rfl ln hg hy su (hsw _) d3 (.inl rfl)
  refine wpAny_execs_cons (thn (tr [] s2 _ H2 { nx:=fun σ' H'=>∃u1 u2,σ'=some (.ref fl)::some u1::some u2::none::List.replicate M.length none/\spr [u1,u2] H' Q E0,rt:=fun _ _=>False } I2
   ⟨rfl,hmo _ _ _ _ _ (fun u H3 z=>⟨u,.non,rfl,z⟩) (fun c m H3 ⟨C,e1,e2,e3⟩=>⟨C,e1,e2,fun a ha=>⟨.ref a,rfl,.non,.ref a,rfl,e3 a ha⟩⟩) (q H2 sm)⟩) fun fw s3 q3=>?_)
  cases fw with
  | ret _=>obtain⟨_,_,_,_,_,z⟩:=q3;exact z.elim
  | brk=>obtain⟨_,_,_,z⟩:=q3;exact z.elim
  | cont=>obtain⟨_,_,_,z⟩:=q3;exact z.elim
  | next =>
  obtain⟨σ3,H3,I3,u1,u2,rfl,qs⟩:=q3;obtain⟨t,h2,q2⟩:=hrest cdv A outer s H H3 [u1,u2] Q E0 hr2 qs;exact h2 [] s3 _ H3 _ (I3.tail rfl) q2
 ·have fin:∀{σ':St} {H':Hp} {v':V} {u:Value},Inv (Iv CX0 P w K mg base (v::c2::n::M) x (Ao st) f cdv A outer s H E0).nox [] σ' H' s'->RelV v' u->Q v' H'->CE outer P w H s Q u s' :=
   fun {σ' H' v' u} J rv q=>⟨v',H',J.os,J.bare,J.base,J.hok,rv,q⟩
  cases fw with
  | ret u =>
   obtain⟨v',σ',H',J,rv,q⟩:=hs;exact fin J rv q
  | next =>
   obtain⟨σ',H',J,q⟩:=hs;exact fin (v':=V.non) (u:=Value.none) J rfl q
  | brk=>obtain⟨_,_,_,q⟩:=hs;exact q.elim
  | cont=>obtain⟨_,_,_,q⟩:=hs;exact q.elim
end
def tNs:List Nat->TA
 | []=>Fe
 | j::r=>Ci (Aj5 j) (tNs r)
def Bo5 (K:PySem.W.Frag)(Fc:Addr)(spg spr:Sp)(js:List Nat):TE:=fun σ H Q=>∀H1,Same H H1->tNs js σ H1 fun vs H2=>spg vs H2 (fun u H3=>spr [u,.non] H3 Q E0) (Bn3 K Fc spr Q)
theorem Ae1 {σ:St}:∀{js:List Nat}{H:Hp}{k:List V->Hp->Prop},tNs js σ H k->∃vs:List V,js.map (fun j=>σ[j]?)=vs.map (fun v=>some (some v))/\k vs H
 | [],_,_,h=>⟨[],rfl,h⟩
 | j::r,H,k,⟨v,e,h⟩=>by
  obtain⟨vs,e2,h2⟩:=Ae1 (js:=r) (k:=fun vs H=>k (v::vs) H) h
  exact⟨v::vs,by rw[List.map_cons,List.map_cons,e,e2],h2⟩
theorem A3j {σ:St}:∀{js:List Nat}{vs:List V}{H:Hp}{k:List V->Hp->Prop},js.map (fun j=>σ[j]?)=vs.map (fun v=>some (some v))->k vs H->tNs js σ H k
 | [],[],_,_,_,h=>h
 | j::r,v::vs,H,k,e,h=>by
  obtain⟨e1,e2⟩:=List.cons.inj e
  exact⟨v,e1,A3j (js:=r) (k:=fun vs H=>k (v::vs) H) e2 h⟩
 | [],_::_,_,_,e,_=>by cases e
 | _::_,[],_,_,e,_=>by cases e
theorem Aw3 {σ:St}{js:List Nat}{vs:List V}(e:js.map (fun j=>σ[j]?)=vs.map (fun v=>some (some v))):(List.range js.length).map (fun j=>(cst (js.map some) σ)[j]?)=vs.map (fun v=>some (some v)):=by
 refine List.ext_getElem? fun i=>?_
 have:=congrArg (fun l=>l[i]?) e
 simp only[List.getElem?_map]at this ⊢
 by_cases h:i<js.length
 ·rw[List.getElem?_range h]
  rw[List.getElem?_eq_getElem h]at this
  cases ev:vs[i]? with
  | none=>rw[ev]at this;cases this
  | some v =>
   rw[ev]at this;simp only[Option.map_some,Option.some.injEq]at this ⊢
   simp[cst,List.getElem?_eq_getElem h,this]
 ·rw[List.getElem?_eq_none (by rw[List.length_range];omega)]
  rw[List.getElem?_eq_none (by omega)]at this
  exact this
theorem HLam.same {H H':Hp}(h:HLam H H'):Same H H':=by
 rcases h with rfl | ⟨c,o,hn,rfl⟩
 ·exact Same.refl _
 ·exact fun b u e=>by rw[Ak (Bv e hn)];exact e
section
variable {X:Cx}{p pos lpos:Pos}
theorem A2r {Kq:PySem.W.Frag}(hKq:X.K=Kq){x qn:Str}{k kg k':Nat}{Fc c T:Addr}{spg spr:Sp}{params:Arguments}{body:Expr}{scope:Scope}{G:List Str}{js:List Nat}(D:Told X.prog X.w X.K X.mg X.base x k Fc spr)(hT:(T,qn)∈Dw X.K)(hC:codeHdIn X.K c T=true)(hcode:X.env.code=.ref c)(hr:Room k' X.A)
 (hmo:∀vs,Ak0 (spg vs)) (L:Uo X G (js.map some) scope)
 (hb:∀f cv cl A stk s H E,Room kg (A.deeper (envX qn scope s.heap.objs.size f cv cl))->QE (V8 X.prog X.w X.K X.mg X.base G scope cl qn f cv A stk s H E) body (Qy spg [] E (tNs (List.range js.length)))) (h:k<=k':=by omega) (h2:kg+2<=k':=by omega) (hg:Gl X x:=by rfl)
 (hco:scope.isCoroutine=false:=by rfl) (hgen:scope.isGenerator=false:=by rfl) (hq:X.env.qual ++ "<lambda>" = qn:=by rfl) (hdef:defaultsOf params X.env=([],[]):=by rfl)
 (hbind:∀cl pm cv ctv,bindArgs (kla_fn "<lambda>" qn params body scope cl pm cv ctv) ⟨[],[]⟩=pure []:=by exact fun _ _ _ _=>rfl)
 (hdb:(x==("__debug__" : Str))=false:=by decide) (he:starEach [.Lambda params body scope lpos] X.env=(false,eval (.Lambda params body scope lpos) X.env)::starEach [] X.env:=by rfl) :
 QE X (.Call (.Name x p) [.Lambda params body scope lpos] [] pos) (Bo5 Kq Fc spg spr js):=by
 subst hKq
 refine⟨fun pins s σ H Q I q=>?_⟩
 obtain⟨f,kp,m,run⟩:=D
 refine wpAny_Call_Name_kw (Mf I hg m ?_ hdb)
 refine PySem.W.callWith_K (h₀:=X.base) I.ok.mod.kin kp ?_ he rfl
 rw[he]
 obtain⟨cl,hclos,c1,c2⟩:=U9 (env:=X.env) (scope:=scope) fun y hy hf=>I.ok.has y.1 (L.free y hy hf)
 refine Calls.spliced_cons (Ay8 I hT hC hcode hq hdef hclos fun fl s1 H1 pm cv ctv I1 hl hcd=>?_)
 refine Calls.spliced_nil ⟨I1.kIn,?_⟩
 obtain⟨vs,ev,_⟩:=Ae1 (q H1 hl.same)
 refine wpAny_call (codeAny_mono (run X.A X.stack s1 H1 fl (spg vs) Q (hr.mono h) I1.env0 (hmo vs) ?_ fun H2 sm=>by
  obtain⟨vs2,ev2,q2⟩:=Ae1 (q H2 (hl.same.trans sm))
  cases (List.map_inj_right fun a b z=>by cases z;rfl).mp (ev.symm.trans ev2)
  exact q2) fun r s' hq=>?_)
 ·intro env s' H' Q' E' e0 un os qe
  obtain⟨_,_,J,_,rfl⟩:=I1.after (s':=s') (Q:=fun _ H2=>H2=H') (u:=.none) ⟨.non,H',os,e0.bare,un,e0.hok,rfl,rfl⟩
  have pin:=(J.pin (fl,Ah9 qn params body scope cl pm cv ctv) (List.mem_append_right _ (List.mem_append_right _ List.mem_cons_self))).1
  refine⟨⟨_,_,_,_,pin⟩,?_⟩
  obtain⟨c0,o,us,t0,rfl,hc,d⟩:=hcd;have hcd2:LamCd qn (.ref c0) _:=⟨c0,o,us,t0,rfl,un.frzs _ _ _ hc,d⟩;have rm:Room (kg+1) (X.A.deeper env):=(hr.mono h2).deeper env
  refine A7f L hco hgen (hbind cl pm _ ctv) rm (hb fl _ cl _ _ s' _ E' (rm.deeper _)) e0 J pin (hcd2.rec J.hok) c1 c2 ?_
  refine A3j (Aw3 ev) ?_
  show spg (vs++[]) _ _ _
  rw[List.append_nil];exact qe
 ·cases r with
  | error ev=>exact(show False from hq).elim
  | ok fw =>
   cases fw with
   | ret u =>
    obtain⟨v',H',J',r',q⟩:=I1.after hq
    exact⟨v',H',J'.pins_of fun p hp=>J'.pin p (List.mem_append_right _ (List.mem_append_left _ hp)),r',q⟩
   | next=>exact False.elim hq
   | brk=>exact False.elim hq
   | cont=>exact False.elim hq
end
end L2
namespace U
open PySem L2 PySem.W
section
variable {K:PySem.W.Frag}
def Zh (F:List PyData->XF)(G:List O->FR)(NS:List Str)(fa:Ev->R (List PV)):Ev->R PV:=fun c=>(fa c).bind fun ps c=>match Yz c ps with
 | none=>.bad
 | some ds=>match F ds with
  | .ret (.im d)=>Ti G [.o (.im d),.o (.im .none)] c
  | .ex nm=>if NS.contains nm=true then Ti G [.o (.im .none),.o (.ty (.xc nm))] c else .bad
  | _=>.bad
theorem Aa8 {F:List PyData->XF}(vs:List V):Ak0 (spX K F vs):=by
 intro H Q Q' E E' hQ hE h;obtain⟨Hf,ds,s,t,m⟩:=h
 refine⟨Hf,ds,s,t,?_⟩
 cases e:F ds with
 | bad=>rw[e]at m;exact m
 | ret o=>rw[e]at m;exact fun v Hf' H' fp a b c=>hQ _ _ (m v Hf' H' fp a b c)
 | ex nm=>rw[e]at m;exact fun C Hf' H' a b c=>hE _ _ _ (m C Hf' H' a b c)
theorem A3w {F:List PyData->XF}{G:List O->FR}{Fc:Addr}{NS:List Str}{js:List Nat}{fa:Ev->R (List PV)}(hx:∀nm∈NS,∀C,PySem.W.nsIn K mainGlobals nm=some (some (.ref C))->PySem.W.exmOne K (.ref C) (.ref Fc)=some true)(ha:MA K (tNs js) fa) :
 ME K (Bo5 K Fc (spX K F) (spP K G) js) (Zh F G NS fa):=by
 intro β W c σ Q R s H1 sm
 have R0:Rep K β ⟨W.Hf,H1,W.fps⟩ c σ:=Stp.rep (S':=fun _=>False) R (Ib sm) fun a o e=>sm a o (R.sub a o e)
 refine ha β ⟨W.Hf,H1,W.fps⟩ c σ _ R0 (s.bnd.mono fun ps c1 s1 vs W1 st R1 r1=>?_)
 have st:Stp W.S W.Hf W.H W1.S W1.Hf W1.H:=(Ib (Hf:=W.Hf) sm).trans st
 cases ea:Yz c1 ps with
 | none=>simp only[ea]at s1;exact s1.elim
 | some ds =>
  simp only[ea]at s1
  refine⟨W1.Hf,ds,R1.sub,Xp R1 r1 ea,?_⟩
  have go:∀{Hf' H':Hp},Stp (fun _=>False) W1.Hf W1.H (fun _=>False) Hf' H'->Stp W.S W.Hf W.H (Wo.S ⟨Hf',H',W1.fps⟩) Hf' H':=fun {Hf' H'} s2=>st.trans ⟨s2.fz,fun a o e _=>s2.kp a o e fun z=>z,fun a o e mu _ q=>s2.nf a o e mu (fun z=>z) q,fun a z=>.inl z⟩
  split at s1
  ·rename_i d ef
   rw[ef];intro v Hf' H' fp s2 sub r;obtain⟨rfl,tv⟩:=r
   have s2:Stp (fun _=>False) W1.Hf W1.H (fun _=>False) Hf' H':=s2.less fun a z=>nomatch z
   have R2:Rep K β ⟨Hf',H',W1.fps⟩ c1 σ:=Stp.rep R1 s2 sub
   exact Qe (W1:=⟨Hf',H',W1.fps⟩) (ps:=[.o (.im d),.o (.im .none)]) (vs:=[v,.non]) R2 ⟨v,_,rfl,tv,.non,_,rfl,rfl,rfl⟩ (s1.mono fun p c' s3 v' W' fp st' R' r'=>s3 v' W' fp ((go s2).trans st') R' r')
  ·rename_i nm ef
   split at s1
   ·rename_i hc
    rw[ef];intro C Hf' H' hn s2 sub
    refine⟨C,rfl,hx nm (by simpa using hc) C hn,fun a fa0=>?_⟩
    have s4:Stp (fun _=>False) Hf' H' (fun _=>False) (upd Hf' a (Mt a C)) (upd H' a (Mt a C)):=Stp.newF sub fa0
    have R2:Rep K β ⟨Hf',H',W1.fps⟩ c1 σ:=Stp.rep R1 s2 sub;have R3:Rep K β ⟨upd Hf' a (Mt a C),upd H' a (Mt a C),W1.fps⟩ c1 σ:=Stp.rep (W:=⟨Hf',H',W1.fps⟩) R2 s4 (Ry sub)
    exact Qe (W1:=⟨upd Hf' a (Mt a C),upd H' a (Mt a C),W1.fps⟩) (ps:=[.o (.im .none),.o (.ty (.xc nm))]) (vs:=[.non,.ref a]) R3 ⟨.non,_,rfl,rfl,.ref a,_,rfl,⟨a,C,rfl,hn,Be⟩,rfl⟩
     (s1.mono fun p c' s3 v' W' fp st' R' r'=>s3 v' W' fp ((go (s2.trans s4)).trans st') R' r')
   ·exact s1.elim
  ·exact s1.elim
def A9r (P:Program)(w:World)(K:PySem.W.Frag)(mg:Str->Option Value)(base:Heap)(x:Str)(k:Nat)(NS:List Str)(spr:Sp):Prop:=∃Fc,Told P w K mg base x k Fc spr/\ExOk K Fc NS
end
variable {K:PySem.W.Frag}{β:Nat->V}{W W':Wo}{c c':Ev}{σ:St}{Hf H:Hp}
def Ao9:Ev->R PV:=fun _=>.bad
theorem A0f:ME K A9k Ao9:=fun _ _ _ _ _ _ s=>s.elim
end U
namespace PS
open PySem PySem.W PyProof.Rows L2
end PS
namespace U
open PySem L2
theorem R.bind_ok  {a:b}  {k:b->Ev->R d}:(R.ok a c).bind k=k a c:=rfl
theorem R.toS_ok  {a:b}  {k:b->Ev->SR}:(R.ok a c).toS k=k a c:=rfl
theorem As0 {a:Type}{x:Option a}:(some x).join=x:=rfl
theorem A9a  (x:a) (r:List a):atI (x::r) 0=some x:=Jg  rfl
theorem Bq3  (x y:a) (r:List a):atI (x::y::r) 1=some y:=Jg  rfl
theorem Bp7  (x y z:a) (r:List a):atI (x::y::z::r) 2=some z:=Jg  rfl
theorem Bp2  (x y z u:a) (r:List a):atI (x::y::z::u::r) 3=some u:=Jg  rfl
theorem Bp1  (x y z u w:a) (r:List a):atI (x::y::z::u::w::r) 4=some w:=Jg  rfl
theorem Bh1:ixN 3 0=some 0:=rfl
theorem Ba9:ixN 3 1=some 1:=rfl
theorem Bd1:ixN 3 2=some 2:=rfl
def Mz (g:PV->Ev->R Unit)(body:Ev->SR)(d:PyData)(c:Ev):SR:=(g (.o (.im d)) c).toS fun _ c=>body c
theorem As1      (h:Mz g body d c=.nx c'\/Mz g body d c=.ct c'):forL g body (d::ds) c=forL g body ds c':=by
 unfold Mz at h;rw[forL]
 cases e:g _ c with
 | bad=>rw[e]at h;rcases h with h | h <;> cases h
 | ok u a =>
  rw[e]at h;have h:body _=.nx _\/body _=.ct _:=h
  grind
theorem Gw {g:PV->Ev->R Unit}{body:Ev->SR}{P:Nat->Ev->Prop}:∀{items:List PyData}{n:Nat}{c:Ev},P n c ->
 (∀k d c,items[k]?=some d->P (n+k) c->∃c',(Mz g body d c=.nx c'\/Mz g body d c=.ct c')/\P (n+k+1) c')->∃c',forL g body items c=.nx c'/\P (n+items.length) c'
 | [],n,c,h0,_=>⟨c,rfl,h0⟩
 | d::ds,n,c,h0,hs=>by
  obtain⟨c1,e,h1⟩:=hs 0 d c rfl h0;rw[As1 e]
  obtain⟨c2,e2,h2⟩:=Gw (P:=P) (items:=ds) (n:=n+1) (c:=c1) h1 (fun k d c hk hp=>by
   have:=hs (k+1) d c (by simpa using hk) (by rw[show n+(k+1)=n+1+k by omega];exact hp)
   rw[show n+(k+1)+1=n+1+k+1 by omega]at this
   exact this)
  exact⟨c2,e2,by rw[List.length_cons,show n+(ds.length+1)=n+1+ds.length by omega];exact h2⟩
def M4 (g:PV->Ev->R Unit)(ft:Ev->R Bool)(fe:Ev->R PV)(d:PyData)(c:Ev):R (Option PyData) :=
 (g (.o (.im d)) c).bind fun _ c=>(ft c).bind fun b c=>if b=true then (fe c).bind fun p c=>(frz (nrm p) c).bind fun y c=>.ok (some y) c else .ok none c
theorem Oa       : Ef g ft fe (d::ds) acc c=(M4 g ft fe d c).bind fun o c=>Ef g ft fe ds (acc++o.toList) c:=by
 unfold M4;rw[Ef]
 cases e:g _ c with
 | bad=>rfl
 | ok u f =>
  simp only[R.bind_ok]
  cases e2:ft _ with
  | bad=>rfl
  | ok b h =>
   simp only[R.bind_ok]
   cases b with
   | false=>simp[R.bind_ok]
   | true =>
    cases e3:fe _ with
    | bad=>rfl
    | ok p i =>
     simp only[R.bind_ok]
     cases e4:frz _ _ with
     | bad=>rfl
     | ok y a=>rfl
theorem Jw {g:PV->Ev->R Unit}{ft:Ev->R Bool}{fe:Ev->R PV}{P:Nat->List PyData->Ev->Prop}:∀{items acc:List PyData}{n:Nat}{c:Ev},P n acc c ->
 (∀k d acc c,items[k]?=some d->P (n+k) acc c->∃o c',M4 g ft fe d c=.ok o c'/\P (n+k+1) (acc++o.toList) c')->∃acc' c',Ef g ft fe items acc c=.ok acc' c'/\P (n+items.length) acc' c'
 | [],acc,n,c,h0,_=>⟨acc,c,rfl,h0⟩
 | d::ds,acc,n,c,h0,hs=>by
  obtain⟨o,c1,e,h1⟩:=hs 0 d acc c rfl h0;rw[Oa,e,R.bind_ok]
  obtain⟨acc2,c2,e2,h2⟩:=Jw (P:=P) (items:=ds) (n:=n+1) (c:=c1) h1 (fun k d acc c hk hp=>by
   have:=hs (k+1) d acc c (by simpa using hk) (by rw[show n+(k+1)=n+1+k by omega];exact hp)
   rw[show n+(k+1)+1=n+1+k+1 by omega]at this
   exact this)
  exact⟨acc2,c2,e2,by rw[List.length_cons,show n+(ds.length+1)=n+1+ds.length by omega];exact h2⟩
theorem Zu {g:PV->Ev->R Unit}{ft:Ev->R Bool}{fe:Ev->R PV}{I:Ev->Prop}{F:PyData->Option PyData}:∀{items acc:List PyData}{c:Ev},I c ->
 (∀d c,d∈items->I c->∃c',M4 g ft fe d c=.ok (F d) c'/\I c')->∃c',Ef g ft fe items acc c=.ok (acc++items.filterMap F) c'/\I c'
 | [],acc,c,h0,_=>⟨c,by simp[Ef],h0⟩
 | d::ds,acc,c,h0,hs=>by
  obtain⟨c1,e,h1⟩:=hs d c (.head _) h0;rw[Oa,e,R.bind_ok]
  obtain⟨c2,e2,h2⟩:=Zu (I:=I) (F:=F) (items:=ds) (acc:=acc++(F d).toList) h1 (fun d c hd hi=>hs d c (.tail _ hd) hi)
  refine⟨c2,?_,h2⟩
  rw[e2,List.append_assoc];rw[List.filterMap_cons]
  cases F d <;> rfl
theorem Wj    {I:Ev->Prop}    (b:I c)
 (hs:∀d c,d∈items->I c->∃a,M4 g ft fe d c=.ok (some (F d)) a/\I a):∃a,Ef g ft fe items acc c=.ok (acc++items.map F) a/\I a:=by
 obtain⟨a,e,h⟩:=Zu  (acc:=acc) b hs
 refine⟨a,?_,h⟩
 simp_all
theorem Wn {α:Type}{g:PV->Ev->R Unit}{ft:Ev->R Bool}{fe:Ev->R PV}{I:Ev->Prop}{f:α->PyData}{G:α->Option PyData}:∀{xs:List α}{acc:List PyData}{c:Ev},I c ->
 (∀x c,x∈xs->I c->∃c',M4 g ft fe (f x) c=.ok (G x) c'/\I c')->∃c',Ef g ft fe (xs.map f) acc c=.ok (acc++xs.filterMap G) c'/\I c'
 | [],acc,c,h0,_=>⟨c,by simp[Ef],h0⟩
 | x::xs,acc,c,h0,hs=>by
  obtain⟨c1,e,h1⟩:=hs x c (.head _) h0;rw[List.map_cons,Oa,e,R.bind_ok]
  obtain⟨c2,e2,h2⟩:=Wn (I:=I) (f:=f) (G:=G) (xs:=xs) (acc:=acc++(G x).toList) h1 (fun d c hd hi=>hs d c (.tail _ hd) hi)
  refine⟨c2,?_,h2⟩
  rw[e2,List.append_assoc];rw[List.filterMap_cons]
  cases G x <;> rfl
theorem Kr {b:Type}    {I:Ev->Prop}{f:b->PyData}{G:b->PyData}{xs:List b}   (d:I c)
 (hs:∀x c,x∈xs->I c->∃a,M4 g ft fe (f x) c=.ok (some (G x)) a/\I a):∃a,Ef g ft fe (xs.map f) acc c=.ok (acc++xs.map G) a/\I a:=by
 obtain⟨a,e,h⟩:=Wn  (acc:=acc) d hs
 refine⟨a,?_,h⟩
 simp_all
theorem Jk        (h1:fi c=.ok ds c1) (hl:ds.length<=16000000) (h2:Ef g ft fe ds [] (cIn idx c1)=.ok acc cI) (a:Gp cI (pairsOf 0 idx) c1=some c2) :
 cLC idx fi g ft fe c=.ok (.o (.ls false acc)) c2:=by
 unfold cLC;rw[h1,R.bind_ok]
 simp_all
theorem J0      (h1:fi c=.ok ds c1):Mv fi g body c=forL g body ds c1:=by
 unfold Mv;rw[h1];rfl
theorem Gq   (h:f c=.nx c'):Bq f g c=g c':=by unfold Bq;rw[h]
theorem Al3       (h:body (a.map some++List.replicate (N-n) none)=.rt p c) (hl:a.length=n) (hf:Au1 a p c=r):G5 n N body a=r:=by
 unfold G5;grind
end U
namespace K
open PySem L2 U
structure Good (d:PyData) (n w:Nat):Prop where
 lay:d.canLay0=true
 shw:d.showable=true
 dct:d.hasDict=false
 dep:d.depth<=n
 wgt:wt d<=w
structure Goods (ds:List PyData) (n w:Nat):Prop where
 lay:PyData.canLayAll0 ds=true
 shw:PyData.showableAll ds=true
 dct:PyData.hasDictAll ds=false
 dep:PyData.depthAll ds<=n
 wgt:Ih ds<=w*ds.length
theorem Goods.of {n w:Nat}:∀{ds:List PyData},(∀d∈ds,Good d n w)->Goods ds n (w+2)
 | [],_=>⟨rfl,rfl,rfl,Nat.zero_le _,Nat.zero_le _⟩
 | d::r,h=>by
  have a:=h d (.head _)
  have b:=Goods.of fun e he=>h e (.tail _ he)
  refine⟨?_,?_,?_,?_,?_⟩
  ·show (d.canLay0&&PyData.canLayAll0 r)=true;rw[a.lay,b.lay];rfl
  ·show (d.showable&&PyData.showableAll r)=true;rw[a.shw,b.shw];rfl
  ·show (d.hasDict||PyData.hasDictAll r)=false;rw[a.dct,b.dct];rfl
  ·show max d.depth (PyData.depthAll r)<=n;have:=a.dep;have:=b.dep;omega
  ·show wt d+2+Ih r<=(w+2)*(r.length+1)
   have:=a.wgt;have:=b.wgt;rw[Nat.mul_succ];omega
theorem Good.tup   (h:∀d∈ds,Good d n w) (hk:ds.length<=k):Good (.tuple ds) (n+1) ((w+2)*k+4):=by
 have g:=Goods.of h;have m:(w+2)*ds.length<=(w+2)*k:=Nat.mul_le_mul_left _ hk
 refine⟨g.lay,g.shw,g.dct,?_,?_⟩
 ·show PyData.depthAll _+1<=n+1;have:=g.dep;omega
 ·show Ih _+4<=(w+2)*k+4;have:=g.wgt;omega
theorem Good.lst   (h:∀d∈ds,Good d n w) (hk:ds.length<=k):Good (.list ds) (n+1) ((w+2)*k+4):=by
 have g:=Goods.of h;have m:(w+2)*ds.length<=(w+2)*k:=Nat.mul_le_mul_left _ hk
 refine⟨g.lay,g.shw,g.dct,?_,?_⟩
 ·show PyData.depthAll _+1<=n+1;have:=g.dep;omega
 ·show Ih _+4<=(w+2)*k+4;have:=g.wgt;omega
theorem Good.mono   (h:Good d n w) (a:n<=n') (b:w<=w'):Good d n' w':=⟨h.lay,h.shw,h.dct,Nat.le_trans h.dep a,Nat.le_trans h.wgt b⟩
theorem Good.flatB   (h:Good d n w) (hn:n<=40):Dr d=true:=by
 unfold U.Dr;rw[h.lay,decide_eq_true (Nat.le_trans h.dep hn)];rfl
theorem At2    (ha:Good a n w) (hb:Good b n' w') (hn:n<=40) (c:n'<=40):Dh neg a b=some (.im (.bool (if neg then !PyData.eqv a b else PyData.eqv a b))):=by
 unfold Dh;rw[ha.flatB hn,hb.flatB c];rfl
theorem Ae9   (h:Good d n w) (hn:n<=40) (hw:w<=16000000) (hs:isSeq d=true):Zn d=some (.im (.str d.shown)):=by
 have l:d.shown.length<=sizeLine:=Nat.le_trans (Zg d h.lay h.shw) (Nat.le_trans h.wgt (Nat.le_trans hw (by decide)))
 cases d with
 | int i=>cases hs
 | none=>rfl
 | bool b=>rfl
 | str x=>cases hs
 | dict k=>cases hs
 | list a =>
  show (if isSeq _&&_ then _ else _)=_
  rw[h.shw,h.dct,decide_eq_true (Nat.le_trans h.dep hn),decide_eq_true l];rfl
 | tuple a =>
  show (if isSeq _&&_ then _ else _)=_
  rw[h.shw,h.dct,decide_eq_true (Nat.le_trans h.dep hn),decide_eq_true l];rfl
theorem Yh  (h:∀d∈ds,d.canLay0=true):PyData.canLayAll0 ds=true:=by
 induction ds with
 | nil=>rfl
 | cons d r a=>show (d.canLay0&&PyData.canLayAll0 r)=true;grind
theorem O8   : Dh neg (.str a) (.str b)=some (.im (.bool (if neg then !decide (a=b) else decide (a=b)))):=by
 unfold Dh
 rw[show Ss _ _=true from rfl]
 rw[U6]
 simp
inductive Vl where
 | non
 | int (i:Int)
 | str (x:Str)
 deriving DecidableEq
@[simp] theorem Vl.int.injEq (a b:Int):(Vl.int a=Vl.int b)=(a=b):=propext ⟨fun h=>by cases h;rfl,fun h=>by rw[h]⟩
@[simp] theorem Vl.str.injEq (a b:Str):(Vl.str a=Vl.str b)=(a=b):=propext ⟨fun h=>by cases h;rfl,fun h=>by rw[h]⟩
def Vl.d:Vl->PyData
 | .non=>.none
 | .int i=>.int i
 | .str x=>.str x
def vb:Vl->Bool
 | .non=>true
 | .int i=>decide (-1000000000000<=i)&&decide (i<=1000000000000)
 | .str x=>decide (x.length<=40)&&x.cps.toList.all fun c=>decide (32<=c)&&decide (c<=126)
abbrev VB (v:Vl):Prop:=vb v=true
abbrev VBs (vs:List Vl):Prop:=∀v∈vs,VB v
def tD (vs:List Vl):PyData:=.tuple (vs.map Vl.d)
theorem A5j (x y:Str):PyData.eqv (.str x) (.str y)=decide (x=y):=by
 show (x==y)=_
 grind
theorem A9j (a b:Vl):PyData.eqv a.d b.d=decide (a=b):=by
 cases a with
 | non=>cases b <;> simp[Vl.d,PyData.eqv]
 | int i=>
  cases b with
   | int j =>
    show (i==j)=_
    grind
   | non=>rfl
   | str y=>trivial
 | str x=>
  cases b with
   | str y=>rw[show PyData.eqv (Vl.d (.str x)) (Vl.d (.str y))=_ from A5j x y];simp_all
   | non=>trivial
   | int y=>trivial
theorem Z1:∀as bs:List Vl,PyData.eqvAll (as.map Vl.d) (bs.map Vl.d)=decide (as=bs)
 | [],[]=>by simp[PyData.eqvAll]
 | [],b::bs=>by simp[PyData.eqvAll]
 | a::as,[]=>by simp[PyData.eqvAll]
 | a::as,b::bs=>by
  show (PyData.eqv a.d b.d&&PyData.eqvAll (as.map Vl.d) (bs.map Vl.d))=_
  rw[A9j,Z1 as bs]
  simp
theorem A9c (a bs:List Vl):PyData.eqv (tD a) (tD bs)=decide (a=bs):=by
 exact Z1 _ _
theorem Lx  (h:VB v):Good v.d 0 1921:=by
 cases v with
 | non=>exact⟨rfl,rfl,rfl,Nat.le_refl _,by decide⟩
 | int i =>
  obtain⟨a,b⟩:=Bool.and_eq_true_iff.mp (show (decide _&&decide _)=true from h)
  have a:=of_decide_eq_true a;have b:=of_decide_eq_true b
  refine⟨rfl,?_,rfl,Nat.le_refl _,Nat.le_refl _⟩
  have c:i.natAbs<2 ^ 41:=by omega
  have:i.natAbs.log2<1920:=by
   by_cases hz:i.natAbs=0
   ·rw[hz];decide
   ·exact Nat.lt_of_lt_of_le ((Nat.log2_lt hz).mpr c) (by decide)
  simpa[Vl.d,PyData.showable] using this
 | str x =>
  obtain⟨a,b⟩:=Bool.and_eq_true_iff.mp (show (decide _&&x.cps.toList.all _)=true from h)
  have a:=of_decide_eq_true a
  refine⟨?_,rfl,rfl,Nat.le_refl _,?_⟩
  ·show x.cps.all _=true
   grind
  ·show 10*x.length+2<=1921
   omega
theorem Ly   (h:VBs vs) (hk:vs.length<=k):Good (tD vs) 1 (1923*k+4) :=
 Good.tup (fun d a=>by obtain⟨v,b,rfl⟩:=List.mem_map.mp a;exact Lx (h v b)) (by simp_all)
theorem VBs.app  (h:VBs a) (k:VBs b):VBs (a++b):=fun v c=>by
 grind
theorem Bq9 (v:Vl)(vs:List Vl):((vs.map Vl.d).any fun e=>PyData.eqv e v.d)=decide (v∈vs):=by
 induction vs with
 | nil=>simp
 | cons a r b =>
  rw[List.map_cons,List.any_cons,A9j]
  grind
theorem Bp6 (v:List Vl)(vs:List (List Vl)):((vs.map tD).any fun e=>PyData.eqv e (tD v))=decide (v∈vs):=by
 induction vs with
 | nil=>simp
 | cons a r b =>
  rw[List.map_cons,List.any_cons,A9c]
  grind
theorem A1z    (h:VB v) (hs:VBs vs):Ol neg v.d (.list (vs.map Vl.d))=some (.im (.bool (if neg then !decide (v∈vs) else decide (v∈vs)))):=by
 have e:Ol neg v.d (.list (vs.map Vl.d))=if Dr v.d&&PyData.canLayAll0 (vs.map Vl.d) then some (.im (.bool (if neg then !(vs.map Vl.d).any fun e=>PyData.eqv e v.d else (vs.map Vl.d).any fun e=>PyData.eqv e v.d))) else none:=by rfl
 rw[e,(Lx h).flatB (by decide),Yh fun d a=>by obtain⟨u,b,rfl⟩:=List.mem_map.mp a;exact(Lx (hs u b)).lay,Bq9];rfl
theorem A4n   {vs:List (List Vl)}(h:VBs v) (hs:∀u∈vs,VBs u):Ol neg (tD v) (.list (vs.map tD))=some (.im (.bool (if neg then !decide (v∈vs) else decide (v∈vs)))):=by
 show (if Dr _&&PyData.canLayAll0 _ then some _ else none)=_
 rw[(Ly h (Nat.le_refl _)).flatB (by decide),Yh fun d a=>by obtain⟨u,b,rfl⟩:=List.mem_map.mp a;exact(Ly (hs u b) (Nat.le_refl _)).lay,Bp6];rfl
theorem S7  {l:List a}{r:Int}(b:0<=r) (h1:r<l.length):∃d,atI l r=some d/\d∈l/\l[r.toNat]?=some d:=by
 obtain⟨k,rfl⟩:=Int.eq_ofNat_of_zero_le b
 exact⟨l[k],Jg (List.getElem?_eq_getElem _),List.getElem_mem _,by grind⟩
def Ec:Ev->SR :=
 (Bq
  (cIf (cOr (Vf (Bp (cUn (Cr .str) (Ac 0)))) (cOr (Bp (cOp (Dh false) (Ac 0) (cC (.str "")))) (Bp (cOp A1g (Ft (Ac 0)) (cC (.int 8)))))) (Ed (cC (.bool false))) Dt)
  (Ed (cUn Qz (cLC [none] (Al0 (Ac 0)) (cgN 0) By (cOp (Ol false) (Ac 0) (cC (.str "abcdefghijklmnopqrstuvwxyz")))))))
def Dc:List O->FR:=G5 1 1 Ec
def Ca:Ev->SR :=
 (Bq
  (cIf (cOr (Vf (Bp (cUn (Cr .tuple) (Ac 0)))) (Bp (cOp (Dh false) (Ft (Ac 0)) (cC (.int 0))))) (Ed (cC (.bool false))) Dt)
  (Bq (cIf (Vf (Bp (cUn Qz (cLC [none] (Cv (Ac 0)) (cgN 0) By (cF Dc (Ae (Ac 0) Ar)))))) (Ed (cC (.bool false))) Dt)
  (Ed (cOp (Dh false) (cUn O5 (Ac 0)) (Ft (Ac 0))))))
def Bj:List O->FR:=G5 1 1 Ca
def Hs:Ev->SR :=
 (Bq
  (cIf (Vf (Bp (cUn Qz (cLC [none] (Cv (Fp (Ae (Ac 0) (Ae (Ac 1) (Ae (Ac 2) Ar))))) (cgN 0) By (cUn (Cr .tuple) (Ac 0)))))) (Ed (cC (.bool false))) Dt)
  (Ed (Qw (cOp A1g (Ft (Ac 2)) (cC (.int 0))) (cF Bj (Ae (cOp Ba (cOp Ba (Ac 0) (Ac 1)) (Ac 2)) Ar)))))
def Dm:List O->FR:=G5 3 3 Hs
def Q7:BF :=
 (A4t (d:=2) (cSl Ek (Ac 3) cON (cOS (Ac 1))) (Fp (Ae (cSl Ek (Ac 3) (cOS (Ac 1)) cON) (Ae (Ac 4) Ar))))
def Wz:Ev->SR :=
 (Va
  2 (A6h (d:=2) (Cv (cOp Ay (Ac 0) (cC (.int 4)))) (cgT 2 (Bf (cgN 3) (Bf (cgN 4) Eg))) Q7)
  (Bq (Df (cOp Ba (Fp (Ae (cSl Ek (cOp Ay (Ac 0) (cC (.int 0))) (cOS (Ac 1)) cON) Ar)) (cSl Ek (Ac 0) (cOS (cC (.int 1))) (cOS (cC (.int 4))))) (cgN 5))
  (Ed (cUn Bm (cLC [none,none,some 5] (Rw (Ac 2)) (cgT 2 (Bf (cgN 0) (Bf (cgN 1) Eg))) By (Fp (Ae (Ac 0) (Ae (cOp Ba (Ac 2) (Fp (Ae (cUn Bm (Ac 1)) Ar))) Ar))))))))
def Hx:List O->FR:=G5 2 6 Wz
def Ew:Ev->XS :=
 (Vc
  (xIf (Bp (cOp (Dh false) (Ft (Ac 0)) (cC (.int 0)))) (Ug "BadColumns" (Ae (cC (.str "without a pair there is no folded table to give a key to")) Ar)) (M7 Dt))
  (Vc (M7 (Df (cOp Ay (cOp Ay (Ac 0) (cC (.int 0))) (cC (.int 0))) (cgN 2)))
  (Vc (M7 (Df (cOp Ay (cOp Ay (Ac 0) (cC (.int 0))) (cC (.int 1))) (cgN 3)))
  (xIf (cOr (Bp (cOp (Dh true) (Ft (Ac 1)) (Ft (Ac 2)))) (Vf (Bp (cF Dm (Ae (cOp Ba (cUn Bm (Ac 1)) (cOp Ay (Ac 3) (cC (.int 0)))) (Ae (cOp Ay (Ac 3) (cC (.int 1))) (Ae (cOp Ay (Ac 3) (cC (.int 2))) Ar))))))) (Ug "BadColumns" (Ae (cC (.str "the key is not a new name for each value of first")) Ar)) (M7 Dt)))))
def Cu:List PyData->XF:=Ah1 2 4 Ew
def K6:Ev->XS :=
 (Vc
  (Af6 Cu (Ae (Ac 0) (Ae (Ac 1) Ar)))
  (Vc (M7 (Df (Hj Ar) (cgN 2)))
  (Vc (M7 (Mv (Cv (Ac 0)) (cgT 2 (Bf (cgN 3) (Bf (cgN 4) Eg))) (Gh (Ad4 (Ac 2) (cLC [none,none,some 3] (Cv (cOp Ay (Ac 4) (cC (.int 4)))) (cgT 2 (Bf (cgN 0) (Bf (cgN 1) Eg))) By (Fp (Ae (cOp Ba (Ac 2) (Ac 0)) (Ae (Ac 1) Ar))))))))
  (Vc (M7 (Df (cOp Ay (cOp Ay (Ac 0) (cC (.int 0))) (cC (.int 1))) (cgN 5)))
  (M7 (Ed (cOp Ba (cOp Ba (Fp (Ae (cOp Ba (cUn Bm (Ac 1)) (cOp Ay (Ac 5) (cC (.int 0)))) Ar)) (cSl Ek (Ac 5) (cOS (cC (.int 1))) (cOS (cC (.int 4))))) (Fp (Ae (cUn Bm (Ac 2)) Ar)))))))))
def Dp:List PyData->XF:=Ah1 2 6 K6
def Kg:Ev->SR :=
 (Bq
  (cIf (Bp (cOp Lf (Ac 1) (Ft (Ac 0)))) (Ed (Bl4 (Ac 0) (Ac 1))) Dt)
  (Ed (cC (.int 0))))
def Fl:List O->FR:=G5 2 2 Kg
def Z8:Ev->SR :=
 (Bq
  (Df (cF Fl (Ae (Ac 0) (Ae (Ac 1) Ar))) (cgN 2))
  (Ed (Hj (Ae (cOp Hm (cUn Ak7 (Ac 2)) (cUn Wq (cOp Bc0 (cUn Ak7 (Ac 2)) (cOp Ra (cC (.int 10)) (cC (.int 18)))))) (Ae (cOp Ba (cOp Ba (cOp O7 (Ac 2) (cC (.int 2305843009213693951))) (cOp Hm (cC (.int 39373)) (Ac 1))) (cC (.int 17))) (Ae (cC (.int 0)) Ar))))))
def K4:List O->FR:=G5 2 3 Z8
def Qp:Ev->SR :=
 (Bq
  (cIf (Bp (cOp A1g (cOp Ay (Ac 0) (cC (.int 0))) (cC (.int 0)))) (Bq (Df (cOp O7 (cOp Ay (Ac 0) (cC (.int 0))) (Ac 1)) (cgN 2))
  (Bq (Df (cOp Yu (cOp Ay (Ac 0) (cC (.int 0))) (Ac 1)) (Am7 (Ac 0) (cC (.int 0))))
  (Ed (Ac 2)))) Dt)
  (Bq (Df (cOp Ba (cOp Ay (Ac 0) (cC (.int 2))) (cC (.int 1))) (Am7 (Ac 0) (cC (.int 2))))
  (Bq (Df (cOp O7 (cOp Hm (cOp Ba (cOp Ay (Ac 0) (cC (.int 1))) (cOp Hm (cC (.int 48271)) (cOp Ay (Ac 0) (cC (.int 2))))) (cOp Ba (cC (.int 39373)) (cOp Ay (Ac 0) (cC (.int 2))))) (cC (.int 2147483647))) (cgN 3))
  (Bq (Df (cOp O7 (cOp Hm (cOp Ba (Ac 3) (cOp Ay (Ac 0) (cC (.int 2)))) (cOp Ba (cOp O7 (Ac 3) (cC (.int 40009))) (cC (.int 7)))) (cC (.int 2147483629))) (cgN 4))
  (Ed (cOp O7 (cOp Yu (cOp O7 (cOp Ba (cOp Hm (Ac 4) (cC (.int 48271))) (Ac 3)) (cC (.int 2147483587))) (cC (.int 64))) (Ac 1)))))))
def Am:List O->FR:=G5 2 5 Qp
def Py:Ev->SR :=
 (Bq
  (cIf (Bp (cOp (Dh false) (cF Am (Ae (Ac 0) (Ae (cC (.int 8)) Ar))) (cC (.int 0)))) (Ed (cOp Ba (cC (.int 7)) (cF Am (Ae (Ac 0) (Ae (cOp M9 (Ac 3) (cC (.int 6))) Ar))))) Dt)
  (Ed (cOp Ba (Ac 1) (cF Am (Ae (Ac 0) (Ae (cOp Ba (cOp M9 (Ac 2) (Ac 1)) (cC (.int 1))) Ar))))))
def Hc:List O->FR:=G5 4 4 Py
def U0:Ev->SR :=
 (Bq
  (Df (Hj (cK [.str "b",.str "a",.str "year",.str "z",.str "ab",.str "month",.str "aa",.str "quantity",.str "c",.str "town",.str "zz",.str "ba"])) (cgN 2))
  (Ed (cLC [none,some 2,some 0] (Ju (Ac 1)) (cgN 0) By (Ji (Ac 1) (cF Am (Ae (Ac 2) (Ae (Ft (Ac 1)) Ar)))))))
def Hb:List O->FR:=G5 2 3 U0
def Im:Ev->SR :=
 (Bq
  (Df (cF Am (Ae (Ac 0) (Ae (cC (.int 9)) Ar))) (cgN 1))
  (Bq (cIf (Bp (cOp Lf (Ac 1) (cC (.int 4)))) (Ed (cOp M9 (cF Am (Ae (Ac 0) (Ae (cC (.int 13)) Ar))) (cC (.int 3)))) Dt)
  (Bq (cIf (Bp (cOp (Dh false) (Ac 1) (cC (.int 4)))) (Ed (cOp Ay (Hj (Ae (cOp M9 (cOp Ra (cC (.int 10)) (cC (.int 12))) (cC (.int 1))) (Ae (cOp M9 (cC (.int 0)) (cOp Ra (cC (.int 10)) (cC (.int 11)))) (Ae (cC (.int 100)) (Ae (cC (.int 10)) Ar))))) (cF Am (Ae (Ac 0) (Ae (cC (.int 4)) Ar))))) Dt)
  (Bq (cIf (Bp (cOp (Dh false) (Ac 1) (cC (.int 5)))) (Ed (cC (.none))) Dt)
  (Ed (cOp Ay (Hj (cK [.str "",.str "a",.str "b",.str "B",.str "10",.str "9",.str "-",.str "a b",.str "it's",.str "\\",.str "/",.str "_",.str ":",.str "None",.str "ab"])) (cF Am (Ae (Ac 0) (Ae (cC (.int 15)) Ar)))))))))
def Cd:List O->FR:=G5 1 2 Im
def Lj:Ev->SR :=
 (Bq
  (cIf (Bp (cOp (Dh false) (cF Am (Ae (Ac 0) (Ae (cC (.int 9)) Ar))) (cC (.int 0)))) (Ed (cOp Ay (Hj (Ae (cOp M9 (cOp Ra (cC (.int 10)) (cC (.int 12))) (cC (.int 1))) (Ae (cOp M9 (cC (.int 1)) (cOp Ra (cC (.int 10)) (cC (.int 12)))) (Ae (cOp Ra (cC (.int 10)) (cC (.int 11))) (Ae (cC (.int 0)) Ar))))) (cF Am (Ae (Ac 0) (Ae (cC (.int 4)) Ar))))) Dt)
  (Ed (cOp M9 (cF Am (Ae (Ac 0) (Ae (cC (.int 25)) Ar))) (cC (.int 7)))))
def De:List O->FR:=G5 1 1 Lj
def V6:Ev->SR :=
 (Bq
  (Df (Hj Ar) (cgN 2))
  (Bq (Mv (Ju (Ac 1)) (cgN 3) (Bq (Df (cF Cd (Ae (Ac 0) Ar)) (cgN 4))
  (cIf (Bp (cOp (Ol true) (Ac 4) (Ac 2))) (Gh (Ql (Ac 2) (Ac 4))) Dt)))
  (Ed (Ac 2))))
def Hy:List O->FR:=G5 2 5 V6
def Q3:Ev->SR :=
 (Bq
  (Df (cF Hy (Ae (Ac 0) (Ae (cC (.int 6)) Ar))) (cgN 3))
  (Bq (Df (Hj Ar) (cgN 4))
  (Bq (Mv (Ju (Ac 2)) (cgN 5) (Bq (Df (cUn Bm (cLC [none,some 3,some 0] (Ju (Ac 1)) (cgN 0) By (cOp Ay (Ac 1) (cF Am (Ae (Ac 2) (Ae (Ft (Ac 1)) Ar)))))) (cgN 6))
  (cIf (Bp (cOp (Ol true) (Ac 6) (Ac 4))) (Gh (Ql (Ac 4) (Ac 6))) Dt)))
  (Ed (Ac 4)))))
def Gk:List O->FR:=G5 3 7 Q3
def Qg:Ev->SR :=
 (Bq
  (Df (cF Hb (Ae (Ac 0) (Ae (cC (.int 9)) Ar))) (cgN 2))
  (Bq (A1n 3 4 5 (Ae (cF Am (Ae (Ac 0) (Ae (cC (.int 3)) Ar))) (Ae (cF Am (Ae (Ac 0) (Ae (cC (.int 3)) Ar))) (Ae (cOp Ba (cC (.int 1)) (cF Am (Ae (Ac 0) (Ae (cC (.int 2)) Ar)))) Ar))))
  (Bq (cIf (Bp (cOp (Dh false) (cF Am (Ae (Ac 0) (Ae (cC (.int 8)) Ar))) (cC (.int 0)))) (Df (cOp Ba (cC (.int 3)) (cF Am (Ae (Ac 0) (Ae (cC (.int 3)) Ar)))) (cgN 5)) Dt)
  (Bq (Bi9 6 7 (Ae (cSl Ek (Ac 2) cON (cOS (Ac 3))) (Ae (cSl Ek (Ac 2) (cOS (Ac 3)) (cOS (cOp Ba (Ac 3) (Ac 4)))) Ar)))
  (Bq (Df (cSl Ek (Ac 2) (cOS (cOp Ba (Ac 3) (Ac 4))) (cOS (cOp Ba (cOp Ba (Ac 3) (Ac 4)) (Ac 5)))) (cgN 8))
  (Bq (Df (cF Gk (Ae (Ac 0) (Ae (Ac 4) (Ae (cF Hc (Ae (Ac 0) (Ae (cC (.int 0)) (Ae (cC (.int 5)) (Ae (cC (.int 12)) Ar))))) Ar)))) (cgN 9))
  (Bq (Df (cOp Ay (Hj (Ae (cC (.int 9)) (Ae (cC (.int 2)) (Ae (cC (.int 3)) Ar)))) (cF Am (Ae (Ac 0) (Ae (cC (.int 3)) Ar)))) (cgN 10))
  (Bq (Df (Hj Ar) (cgN 11))
  (Bq (Mv (Cv (cF Gk (Ae (Ac 0) (Ae (Ac 3) (Ae (cF Hc (Ae (Ac 0) (Ae (cC (.int 0)) (Ae (cC (.int 5)) (Ae (cC (.int 12)) Ar))))) Ar))))) (cgN 12) (Bq (Df (Hj Ar) (cgN 13))
  (Bq (Mv (Cv (Ac 9)) (cgN 14) (Bq (Df (cUn Bm (cLC [none,some 1,some 0] (Cv (Ac 8)) (cgN 0) By (O4 (Bp (Ac 1)) (cF De (Ae (Ac 2) Ar)) (cF Cd (Ae (Ac 2) Ar))))) (cgN 15))
  (Gh (Ql (Ac 13) (O4 (Bp (cOp (Dh false) (cF Am (Ae (Ac 0) (Ae (Ac 10) Ar))) (cC (.int 0)))) (cC (.none)) (Ac 15))))))
  (Gh (Ql (Ac 11) (Fp (Ae (Ac 12) (Ae (cUn Bm (Ac 13)) Ar))))))))
  (Ed (Fp (Ae (cUn Bm (Ac 6)) (Ae (cUn Bm (Ac 7)) (Ae (cUn Bm (Ac 8)) (Ae (cUn Bm (Ac 9)) (Ae (cUn Bm (Ac 11)) Ar))))))))))))))))
def Jv:List O->FR:=G5 2 16 Qg
def G9 (pr:List O->FR):Ev->SR :=
 (Bq
  (cIf (Bp (cUn (Nx .list .tuple) (Ac 1))) (Bq (cIf (cOr (Bp (cOp (Dh true) (cUn (Cr .list) (Ac 0)) (cUn (Cr .list) (Ac 1)))) (Bp (cOp (Dh true) (cUn (Cr .tuple) (Ac 0)) (cUn (Cr .tuple) (Ac 1))))) (Ed (cC (.bool false))) Dt)
  (Ed (Qw (cOp (Dh false) (Ft (Ac 0)) (Ft (Ac 1))) (cUn Qz (cLC [none,none] (A8r (Ac 0) (Ac 1)) (cgT 2 (Bf (cgN 0) (Bf (cgN 1) Eg))) By (cF pr (Ae (Ac 0) (Ae (Ac 1) Ar)))))))) Dt)
  (Bq (cIf (cOr (Bp (cOp (Wr false) (Ac 1) (cC (.none)))) (Bp (cUn (Cr .str) (Ac 1)))) (Ed (Qw (cOp (Dh false) (Ac 0) (Ac 1)) (cOp (Dh false) (cUn (Cr .str) (Ac 0)) (cUn (Cr .str) (Ac 1))))) Dt)
  (Bq (cIf (Bp (cUn (Cr .bool) (Ac 1))) (Ed (Qw (cUn (Cr .bool) (Ac 0)) (cOp (Dh false) (Ac 0) (Ac 1)))) Dt)
  (Ed (Qw (cUn (Cr .int) (Ac 0)) (Qw (A2w (cUn (Cr .bool) (Ac 0))) (cOp (Dh false) (Ac 0) (Ac 1))))))))
def Cw:Nat->List O->FR
 | 0=>fun _=>.bad
 | k+1=>G5 2 2 (G9 (Cw k))
def Wc:Ev->SR :=
 (Bq
  (cIf (Bp (Az4 (Ac 1))) (Ed (Ac 0)) Dt)
  (Bq (Df (Hj (Ae (O2 [("BadColumns",true)] (Ac 1)) (Ae (O2 [("BadColumns",false)] (Ac 1)) (Ae (O2 [("BadColumns",false)] (Ac 1)) Ar)))) (cgN 3))
  (Bq (Gh (Ql (Ac 3) (O2 [("BadColumns",false)] (Ac 1))))
  (Bq (Df (O2 [("BadColumns",false)] (Ac 1)) (cgN 4))
  (Bq (cIf (cOr (Bp (Ac 4)) (cOr (Vf (Bp (O2 [("BadColumns",true)] (Ac 1)))) (Bp (cOp (Dh true) (Ft (cLC [none] (Cv (Ac 3)) (cgN 0) (Bp (Ac 0)) (Ac 0))) (cC (.int 1)))))) (Ed (Fp (Ae (cC (.str "refused")) (Ae (cUn Wm (cC (.int 1))) (Ae (cC (.none)) Ar))))) Dt)
  (Ed (Fp (Ae (cC (.str "refused")) (Ae (cMt Af3 Tc (Ac 3) (cC (.bool true))) (Ae (O4 (Bp (cOp Ay (Ac 3) (cC (.int 1)))) Ao9 (cC (.none))) Ar))))))))))
def Ez:List O->FR:=G5 2 5 Wc
def Mx:Ev->SR :=
 (Bq
  (Df (cUn Eo (cSl Ek (cOp Ay (Ac 1) (cC (.int 0))) cON (cOS (Ac 2)))) (cgN 3))
  (Bq (Df (Hj (Ae (cFz (Ac 3)) (Ae (cUn Ak3 (cFz (Ac 3))) (Ae (cSl Ek (Hj (Ae (cC (.str "qa")) (Ae (cC (.str "qb")) (Ae (cC (.str "qc")) Ar)))) cON (cOS (Ac 2))) (Ae (cOp Ba (Hj (Ae (cC (.str "qa")) Ar)) (cSl Ek (cFz (Ac 3)) (cOS (cC (.int 1))) cON)) (Ae (cSl Ek (Hj (Ae (cC (.str "qa")) (Ae (cC (.str "qb")) (Ae (cC (.str "qc")) Ar)))) cON (cOS (cOp Ba (Ac 2) (cC (.int 1))))) (Ae (cSl Ek (cFz (Ac 3)) (cOS (cC (.int 1))) cON) Ar))))))) (cgN 4))
  (Bq (Df (cUn Eo (cOp Ba (cOp Ba (cSl Ek (cOp Ay (Ac 1) (cC (.int 0))) (cOS (Ac 2)) cON) (cOp Ay (Ac 1) (cC (.int 1)))) (cOp Ay (Ac 1) (cC (.int 2))))) (cgN 5))
  (Bq (Df (cOp Ba (Ac 4) (Hj (Ae (cOp Ba (cSl Ek (cFz (Ac 5)) cON (cOS (cC (.int 1)))) (cSl Ek (cFz (Ac 3)) (cOS (cC (.int 1))) cON)) (Ae (cOp Ba (cSl Ek (cFz (Ac 3)) cON (cOS (cUn Wm (cC (.int 1))))) (cSl Ek (cFz (Ac 5)) (cOS (cUn Wm (cC (.int 1)))) cON)) (Ae (cOp Xy (Hj (Ae (cC (.str "qa")) Ar)) (Ac 2)) (Ae (cOp Ba (cFz (Ac 3)) (cSl Ek (cFz (Ac 5)) (cOS (cUn Wm (cC (.int 1)))) cON)) Ar)))))) (cgN 4))
  (Ed (cOp Ay (Ac 4) (cF Am (Ae (Ac 0) (Ae (Ft (Ac 4)) Ar)))))))))
def Fw:List O->FR:=G5 3 6 Mx
def Oe:Ev->SR :=
 (Bq
  (Df (cOp Ay (Ac 0) (cC (.int 0))) (cgT 2 (Bf (cgN 2) (Bf (cgN 3) Eg))))
  (Bq (Df (cOp Ba (cUn Eo (Ac 1)) (cUn Eo (cOp Ba (cOp Ba (cOp Ay (Ac 3) (cC (.int 0))) (cOp Ay (Ac 3) (cC (.int 1)))) (cOp Ay (Ac 3) (cC (.int 2)))))) (cgN 4))
  (Bq (cIf (cOr (Bp (cOp (Dh true) (Ft (Ac 1)) (Ft (Ac 2)))) (Bp (cOp Lf (cUn Mp (Ac 4)) (Ft (Ac 4))))) (Ed (Fp (Ae (cC (.str "refused")) (Ae (cC (.int 0)) (Ae (cC (.none)) Ar))))) Dt)
  (Bq (Df (Hj Ar) (cgN 5))
  (Bq (Mv (Cv (Ac 0)) (cgT 2 (Bf (cgN 2) (Bf (cgN 6) Eg))) (Gh (Ad4 (Ac 5) (cLC [none,none,some 2] (Cv (cOp Ay (Ac 6) (cC (.int 4)))) (cgT 2 (Bf (cgN 0) (Bf (cgN 1) Eg))) By (Fp (Ae (cOp Ba (Ac 2) (Ac 0)) (Ae (Ac 1) Ar)))))))
  (Ed (Fp (Ae (cOp Ba (cUn Bm (Ac 1)) (cOp Ay (Ac 3) (cC (.int 0)))) (Ae (cOp Ay (Ac 3) (cC (.int 1))) (Ae (cOp Ay (Ac 3) (cC (.int 2))) (Ae (cOp Ay (Ac 3) (cC (.int 3))) (Ae (cUn Bm (Ac 5)) Ar))))))))))))
def Io:List O->FR:=G5 2 7 Oe
def Lb:Ev->SR :=
 (Bq
  (Df (cF Fw (Ae (Ac 2) (Ae (Ac 4) (Ae (Ac 5) Ar)))) (cgN 9))
  (Bq (Df (cOp Ay (Hj (Ae (cUn Eo (Ac 9)) (Ae (cUn Bm (Ac 9)) Ar))) (cF Am (Ae (Ac 2) (Ae (cC (.int 2)) Ar)))) (cgN 10))
  (Bq (Df (cUn Zn (Hj (Ae (Ac 7) (Ae (Ac 10) Ar)))) (cgN 11))
  (Bq (Df (cF Io (Ae (Ac 7) (Ae (Ac 9) Ar))) (cgN 12))
  (Bq (cIf (Vf (Bp (cF (Cw 9) (Ae (Zh Dp Ez ["BadColumns"] (Ae (Ac 7) (Ae (Ac 10) Ar))) (Ae (Ac 12) Ar))))) (Ed (cC (.bool false))) Dt)
  (cIf (cOr (Vf (Bp (cF (Cw 9) (Ae (Zh Dp Ez ["BadColumns"] (Ae (Ac 7) (Ae (Ac 10) Ar))) (Ae (Ac 12) Ar))))) (Bp (cOp (Dh true) (cUn Zn (Hj (Ae (Ac 7) (Ae (Ac 10) Ar)))) (Ac 11)))) (Ed (cC (.bool false))) Dt))))))
def La:Ev->SR :=
 (Bq
  (Df (cF Jv (Ae (Ac 2) (Ae (cC (.bool false)) Ar))) (cgN 4))
  (Bq (Df (cF Am (Ae (Ac 2) (Ae (cOp Ba (Ft (cOp Ay (Ac 4) (cC (.int 0)))) (cC (.int 1))) Ar))) (cgN 5))
  (Bq (Df (cUn Eo (cF Hx (Ae (Ac 4) (Ae (Ac 5) Ar)))) (cgN 6))
  (Bq (Df (cUn Bm (cLC [none,some 6,some 2] (Cv (cUn Eo (Ac 6))) (cgN 0) By (Ji (Ac 1) (cF Am (Ae (Ac 2) (Ae (Ft (Ac 1)) Ar)))))) (cgN 7))
  (Mv (Ju (cOp Hm (cC (.int 3)) (cUn Wq (cOp (Dh true) (Ac 7) (Fp Ar))))) (cgN 8) Lb)))))
def Ot:Ev->SR :=
 (Bq
  (Df (cF K4 (Ae (Ac 0) (Ae (Ac 1) Ar))) (cgN 2))
  (Mv (Ju (cC (.int 3))) (cgN 3) La))
def Af9:Ev->SR :=
 (Bq
  (Mv (Ju (cOp Ba (cC (.int 1)) (cOp Ai4 (cC (.int 3)) (Ft (Ac 0))))) (cgN 1) Ot)
  (Ed (cC (.bool true))))
def Aj7:List O->FR:=G5 1 13 Af9
local macro_rules | `(tactic| wp_walk using $ts,*)=>`(tactic| simp only [Bq,Df,cgN,cgT,Bf,Eg,Ac,cC,cOp,cUn,Ft,cF,cFz,List.contains_cons,Ti,Ac0,slots,pairsOf,ndB,Gp,Ar,Ae,cK,nrm,Ep,Wx,rdP,O.dat,O.flag,O.bor,frz,frzs,Fp,Hj,cIf,Bp,By,cOr,Vf,Qw,A2w,O4,Ed,Gh,Dt,Ql,slL,Ji,Ad4,Am7,Bi9,A1n,cSl,cON,cOS,Ju,cIn,R.bind_ok,R.toS_ok,G5,Au1,resolve,Hh,Xj,U.opI,U.Vn,A1g,Bc0,M9,Yu,O7,Ra,Mz,M4,Bl4,List.getElem?_cons_zero,List.getElem?_cons_succ,List.set_cons_zero,List.set_cons_succ,List.map_cons,List.map_nil,List.length_cons,List.length_nil,List.replicate,List.cons_append,List.nil_append,List.append_nil,List.contains_nil,Option.map_some,Option.map_none,Option.bind_some,Option.join_some,Option.isSome_some,if_true,if_false,Bool.not_true,Bool.not_false,Bool.and_true,Bool.true_and,Bool.and_false,Bool.false_and,Bool.or_true,Bool.or_false,Bool.true_or,Bool.false_or,Nat.sub_self,List.dropLast,List.any_nil,List.flatMap_nil,ite_true,ite_false,decide_true,decide_false,reduceCtorEq,A9a,Bq3,Bp7,Bp2,Bp1,Bh1,Ba9,Bd1,U.As0,Nat.zero_add,Nat.reduceAdd,Nat.reduceSub,Nat.reduceLeDiff,Nat.reduceLT,Nat.reduceEqDiff,Int.reduceAdd,Int.reduceSub,Int.reduceNeg,Int.reduceLT,Int.reduceLE,Int.reducePow,Int.reduceToNat,Int.reduceMul,and_self,and_true,true_and,Bool.false_eq_true,Option.some.injEq,M7,Vc,xIf,Ug,Af6,Al5,Br8,Yz,Ah1,O2,Az4,Zh,cMt,Af3,$[$ts:term],*])
def Bx (n:Nat)(ds:List PyData):Prop:=∃x y z:Int,ds=[.int x,.int y,.int z]/\0<=x/\0<=y/\y<2 ^ 62/\0<=z/\z<=n
theorem Bx.mono   (h:Bx n ds) (l:n<=m):Bx m ds:=by
 obtain⟨x,y,z,e,b,c,a,d,f⟩:=h
 exact⟨x,y,z,e,b,c,a,d,by omega⟩
theorem mod_lt {x m:Int}(h:0<m):0<=x % m/\x % m<m:=⟨Int.emod_nonneg _ (by omega),Int.emod_lt_of_pos _ h⟩
theorem A4h  (h:-(2 ^ 64)<i/\i<2 ^ 64):T9 i j=true:=by
 unfold T9;grind
theorem Xe  (h:-(2 ^ 64)<j/\j<2 ^ 64):T9 i j=true:=by
 unfold T9;grind
theorem Ag6  (h:0<j):A1q i j=true:=decide_eq_true h
theorem Bs1  (h:0<j/\j<1073741824):Ak8 i j=true:=by
 unfold Ak8;grind
theorem Br9:Z3 10 18=true:=by rfl
theorem A8u:Z3 10 12=true:=by rfl
theorem A9t:Z3 10 11=true:=by rfl
theorem Dd    (hb:Bx n ds) (hn:n<2 ^ 40) (a:0<m) (h1:m<16000000) :
 ∃r ds',Bx (n+1) ds'/\0<=r/\r<m/\Am [.ls true ds,.im (.int m)]=.ret (.im (.int r)) [.ls true ds',.im (.int m)]:=by
 obtain⟨x,y,z,rfl,d,e,b,g,z1⟩:=hb
 by_cases c:0<x
 ·refine⟨x % m,[.int (x / m),.int y,.int z],⟨_,_,_,rfl,Int.ediv_nonneg d (by omega),e,b,g,by omega⟩,(mod_lt a).1,(mod_lt a).2,?_⟩
  wp_walk using Am,Qp,Ay,decide_eq_true c,Ag6 a,Bs1 ⟨a,(by omega:m<1073741824)⟩
 ·have h:=mod_lt (x:=(y+48271*(z+1))*(39373+(z+1))) (m:=2147483647) (by decide)
  generalize e1:(y+48271*(z+1))*(39373+(z+1)) % 2147483647=once at h
  have g2:=mod_lt (x:=once) (m:=40009) (by decide)
  have f:=mod_lt (x:=(once+(z+1))*(once % 40009+7)) (m:=2147483629) (by decide)
  generalize e2:(once+(z+1))*(once % 40009+7) % 2147483629=twice at f
  refine⟨(twice*48271+once) % 2147483587 / 64 % m,[.int x,.int y,.int (z+1)],⟨_,_,_,rfl,d,e,b,by omega,by omega⟩,(mod_lt a).1,(mod_lt a).2,?_⟩
  wp_walk using Am,Qp,Ay,Hm,Ba,decide_eq_false c,Ag6 a,Bs1 (i:=(twice*48271+once) % 2147483587) (j:=64) ⟨by decide,by decide⟩,A4h (i:=48271) (j:=z+1) ⟨by decide,by decide⟩,Xe (i:=y+48271*(z+1)) (j:=39373+(z+1)) ⟨by omega,by omega⟩,Ag6 (i:=(y+48271*(z+1))*(39373+(z+1))) (j:=2147483647) (by decide),e1,Ag6 (i:=once) (j:=40009) (by decide),Xe (i:=once+(z+1)) (j:=once % 40009+7) ⟨by omega,by omega⟩,Ag6 (i:=(once+(z+1))*(once % 40009+7)) (j:=2147483629) (by decide),e2,Xe (i:=twice)  _,Ag6  (j:=2147483587) (by decide)
theorem Ag7  {k:Nat}:∃i:Int,Fl [.sc ns,.im (.int k)]=.ret (.im (.int i)) [.sc ns,.im (.int k)]:=by
 by_cases c:k<ns.length
 ·refine⟨ns[k],?_⟩
  have e:atI ns (k:Int)=some ns[k]:=Jg (List.getElem?_eq_getElem c)
  wp_walk using Fl,Kg,Lf,Dr,PyData.canLay0,PyData.depth,Ai3,decide_eq_true (show (k:Int)<ns.length by omega),e,Nat.zero_le
 ·refine⟨0,?_⟩
  wp_walk using Fl,Kg,Lf,Dr,PyData.canLay0,PyData.depth,Ai3,decide_eq_false (show ¬ (k:Int)<ns.length by omega),Nat.zero_le
theorem Bf8  {k:Nat}(hk:k<=63):∃ds,Bx 0 ds/\K4 [.sc ns,.im (.int k)]=.ret (.ls false ds) [.sc ns,.im (.int k)]:=by
 obtain⟨i,e⟩:=Ag7 (ns:=ns) (k:=k)
 have a:(0:Int)<=(if i<0 then -i else i):=by grind
 have c:=mod_lt (x:=i) (m:=2305843009213693951) (by decide)
 generalize ea:(if i<0 then -i else i)=ab at a
 have b:(0:Int)<=(if decide ((1000000000000000000:Int)<=ab)=true then 1 else 0)/\(if decide ((1000000000000000000:Int)<=ab)=true then (1:Int) else 0)<=1:=by omega
 generalize eo:(if decide ((1000000000000000000:Int)<=ab)=true then (1:Int) else 0)=on at b
 refine⟨[.int (ab*on),.int (i % 2305843009213693951+39373*(k:Int)+17),.int 0],⟨_,_,_,rfl,Int.mul_nonneg a b.1,by omega,by omega,by omega,by omega⟩,?_⟩
 wp_walk using K4,Z8,e,Ak7,ea,Wq,Hm,Ba,eo,Br9,Ag6 (i:=i) (j:=2305843009213693951) (by decide),Xe  (j:=on) ⟨by omega,by omega⟩,A4h   _
theorem Ao2    (hb:Bx n ds) (hn:n<2 ^ 39) (j:0<=l) (h1:l<=7) (h2:l<=f) (t:f<=m) (o:7<=m) (p:m<1000) :
 ∃r ds',Bx (n+2) ds'/\l<=r/\r<=m/\Hc [.ls true ds,.im (.int l),.im (.int f),.im (.int m)]=.ret (.im (.int r)) [.ls true ds',.im (.int l),.im (.int f),.im (.int m)]:=by
 obtain⟨r,s,g,u,k,e⟩:=Dd (m:=8) hb (by omega) (by decide) (by decide)
 by_cases c:r=0
 ·subst c
  obtain⟨q,a,d,h,i,b⟩:=Dd (m:=m-6) g (by omega) (by omega) (by omega)
  refine⟨7+q,a,d,by omega,by omega,?_⟩
  wp_walk using Hc,Py,e,b,Dh,Dr,PyData.canLay0,PyData.depth,PyData.eqv,Ba,Nat.zero_le,beq_self_eq_true
 ·obtain⟨q,a,d,h,i,b⟩:=Dd (m:=f-l+1) g (by omega) (by omega) (by omega)
  refine⟨l+q,a,d,by omega,by omega,?_⟩
  wp_walk using Hc,Py,e,b,Dh,Dr,PyData.canLay0,PyData.depth,PyData.eqv,Ba,Nat.zero_le,beq_eq_false_iff_ne.mpr c
theorem Ax2   (hb:Bx n ds) (hn:n<2 ^ 39):∃(i:Int) (ds':List PyData),Bx (n+2) ds'/\VB (.int i)/\De [.ls true ds]=.ret (.im (.int i)) [.ls true ds']:=by
 obtain⟨r,d1,k,r0,r1,j⟩:=Dd (m:=9) hb (by omega) (by decide) (by decide)
 by_cases c:r=0
 ·subst c
  obtain⟨q,b,e,f,h,a⟩:=Dd (m:=4) k (by omega) (by decide) (by decide)
  obtain⟨d,s,g,_⟩:=S7 (l:=[PyData.int 999999999999,.int (-999999999999),.int 100000000000,.int 0]) (r:=q) f h
  have p:∃i:Int,d=.int i/\VB (.int i):=by
   simp only[List.mem_cons,List.not_mem_nil,or_false]at g
   rcases g with rfl | rfl | rfl | rfl <;> exact⟨_,rfl,by decide⟩
  obtain⟨i,rfl,o⟩:=p
  refine⟨i,b,e,o,?_⟩
  wp_walk using De,Lj,j,a,Dh,Dr,PyData.canLay0,PyData.depth,PyData.eqv,Ba,Nat.zero_le,beq_self_eq_true,A8u,A9t,Ay,s
 ·obtain⟨q,b,e,f,h,a⟩:=Dd (m:=25) k (by omega) (by decide) (by decide)
  refine⟨q-7,b,e,?_,?_⟩
  ·show (decide (-1000000000000<=q-7)&&decide _)=true
   rw[decide_eq_true (by omega),decide_eq_true (by omega)];rfl
  wp_walk using De,Lj,j,a,Dh,Dr,PyData.canLay0,PyData.depth,PyData.eqv,Ba,Nat.zero_le,beq_eq_false_iff_ne.mpr c
theorem Ab5   (hb:Bx n ds) (hn:n<2 ^ 39):∃(v:Vl) (ds':List PyData),Bx (n+2) ds'/\VB v/\Cd [.ls true ds]=.ret (.im v.d) [.ls true ds']:=by
 obtain⟨r,t,k,r0,r1,j⟩:=Dd (m:=9) hb (by omega) (by decide) (by decide)
 by_cases c4:r<4
 ·obtain⟨q,e,g,h,i,c⟩:=Dd (m:=13) k (by omega) (by decide) (by decide)
  refine⟨.int (q-3),e,g,?_,?_⟩
  ·show (decide (-1000000000000<=q-3)&&decide (q-3<=1000000000000))=true
   rw[decide_eq_true (by omega),decide_eq_true (by omega)];rfl
  wp_walk using Cd,Im,j,c,Lf,Ai3,Dr,PyData.canLay0,PyData.depth,Nat.zero_le,decide_eq_true c4,Vl.d
 by_cases c5:r=4
 ·subst c5
  obtain⟨q,e,g,h,i,c⟩:=Dd (m:=4) k (by omega) (by decide) (by decide)
  obtain⟨d,s,f,_⟩:=S7 (l:=[PyData.int 999999999999,.int (-100000000000),.int 100,.int 10]) (r:=q) h i
  have p:∃v:Vl,d=v.d/\VB v:=by
   simp only[List.mem_cons,List.not_mem_nil,or_false]at f
   rcases f with rfl | rfl | rfl | rfl <;> exact⟨.int _,rfl,by decide⟩
  obtain⟨v,rfl,o⟩:=p
  refine⟨v,e,g,o,?_⟩
  wp_walk using Cd,Im,j,c,Lf,Ai3,Dh,Dr,PyData.canLay0,PyData.depth,PyData.eqv,Nat.zero_le,decide_eq_false c4,beq_self_eq_true,A8u,A9t,Ay,s
 by_cases c6:r=5
 ·subst c6
  refine⟨.non,t,k.mono (by omega),rfl,?_⟩
  wp_walk using Cd,Im,j,Lf,Ai3,Dh,Dr,PyData.canLay0,PyData.depth,PyData.eqv,Nat.zero_le,decide_eq_false c4,beq_self_eq_true,beq_eq_false_iff_ne.mpr c5,Vl.d
 ·obtain⟨q,e,g,h,i,c⟩:=Dd (m:=15) k (by omega) (by decide) (by decide)
  obtain⟨d,s,f,_⟩:=S7 (l:=[PyData.str "",.str "a",.str "b",.str "B",.str "10",.str "9",.str "-",.str "a b",.str "it's",.str "\\",.str "/",.str "_",.str ":",.str "None",.str "ab"]) (r:=q) h i
  have p:∃v:Vl,d=v.d/\VB v:=by
   simp only[List.mem_cons,List.not_mem_nil,or_false]at f
   rcases f with rfl | rfl | rfl | rfl | rfl | rfl | rfl | rfl | rfl | rfl | rfl | rfl | rfl | rfl | rfl <;> exact⟨.str _,rfl,by decide⟩
  obtain⟨v,rfl,o⟩:=p
  refine⟨v,e,g,o,?_⟩
  wp_walk using Cd,Im,j,c,Lf,Ai3,Dh,Dr,PyData.canLay0,PyData.depth,PyData.eqv,Nat.zero_le,decide_eq_false c4,beq_eq_false_iff_ne.mpr c5,beq_eq_false_iff_ne.mpr c6,Ay,s
def names12:List Str:=[Str.ofString "b",Str.ofString "a",Str.ofString "year",Str.ofString "z",Str.ofString "ab",Str.ofString "month",Str.ofString "aa",Str.ofString "quantity",Str.ofString "c",Str.ofString "town",Str.ofString "zz",Str.ofString "ba"]
theorem A6c {m:Nat}(h:m<=1000):(m:Int)<=16000000/\-16000000<=(m:Int):=by omega
theorem upN {n k a b c:Nat}(hn:n<a)(hk:k<=b)(h:a+b<=c):n+k<c:=Nat.lt_of_lt_of_le (Nat.add_lt_add_of_lt_of_le hn hk) h
theorem Ap5 {n:Nat}{r:Int}(a:0<=r)(h1:r<n):ixN n r=some r.toNat:=by
 unfold ixN;simp_all
theorem Jz   : (Iw lo n).length=n:=by unfold Iw;simp_all
theorem J3    (h:(Iw lo n)[k]?=some d):d=.int (lo+k)/\k<n:=by
 unfold Iw at h
 grind
theorem Qj {α β:Type}(f:α->β):∀(l:List α) (j:Nat),(l.map f).eraseIdx j=(l.eraseIdx j).map f
 | [],j=>rfl
 | a::l,0=>rfl
 | a::l,j+1=>by rw[List.map_cons,List.eraseIdx_cons_succ,List.eraseIdx_cons_succ,List.map_cons,Qj f l j]
theorem Nz {α:Type}:∀(l:List α) {j:Nat}(h:j<l.length),(l[j]::l.eraseIdx j).Perm l
 | a::l,0,h=>List.Perm.refl _
 | a::l,j+1,h=>by
  rw[List.eraseIdx_cons_succ,List.getElem_cons_succ]
  exact(List.Perm.swap a _ _).trans (List.Perm.cons a (Nz l (by simpa using h)))
structure Names (ns:List Str):Prop where
 nd:ns.Nodup
 sub:∀x∈ns,x∈names12
theorem A3k    (hb:Bx n ds) (hn:n<2 ^ 38) (hm:m<=12) :
 ∃b ds',b.length=m/\Names b/\Bx (n+m) ds'/\Hb [.ls true ds,.im (.int m)]=.ret (.ls false (b.map PyData.str)) [.ls true ds',.im (.int m)]:=by
 have i:=Jw (g:=cgN 0) (ft:=By) (fe:=Ji (Ac 1) (cF Am (Ae (Ac 2) (Ae (Ft (Ac 1)) Ar)))) (items:=Iw 0 m) (acc:=[]) (n:=0) (c:=[none,some (.ls true (names12.map PyData.str)),some (.ls true ds)])
  (P:=fun k f c=>∃a h t b,c=[t,some (.ls true (a.map PyData.str)),some (.ls true h)]/\Bx (n+k) h/\f=b.map PyData.str/\(b++a).Perm names12/\b.length=k)
  ⟨names12,ds,none,[],rfl,hb,rfl,List.Perm.refl _,rfl⟩ (fun k d f c C w=>by
   rw[Nat.zero_add]at w ⊢;obtain⟨a,h,t,b,rfl,o,rfl,j,l⟩:=w;obtain⟨rfl,hk⟩:=J3 C
   have ll:a.length+k=12:=by have:=j.length_eq;rw[List.length_append,l]at this;have e:names12.length=12:=rfl;omega
   obtain⟨r,v,A,z,y,B⟩:=Dd (m:=(a.length:Int)) o (by omega) (by omega) (by omega)
   have u:r.toNat<a.length:=by omega
   have q:(a.map PyData.str)[r.toNat]?=some (.str a[r.toNat]):=by simp[u]
   have p:ixN a.length r=some r.toNat:=Ap5 z y
   refine⟨some (.str a[r.toNat]),[some (.im (.int (0+(k:Int)))),some (.ls true ((a.eraseIdx r.toNat).map PyData.str)),some (.ls true v)],?_,a.eraseIdx r.toNat,v,_,b++[a[r.toNat]],rfl,A.mono (by omega),by simp,?_,by simp[l]⟩
   ·wp_walk using Fi,List.length_map,B,p,q,Qj,show a.length<=16000000 by omega
   ·rw[List.append_assoc]
    exact(List.Perm.append_left b (Nz a u)).trans j)
 obtain⟨f,cI,e,a,h,t,b,rfl,o,rfl,j,l⟩:=i;rw[Nat.zero_add,Jz]at o l
 have D:(b++a).Nodup:=j.nodup_iff.mpr (by decide)
 refine⟨b,h,l,⟨(List.nodup_append.mp D).1,fun x q=>j.mem_iff.mp (List.mem_append_left _ q)⟩,o,?_⟩
 have s:cLC [none,some 2,some 0] (Ju (Ac 1)) (cgN 0) By (Ji (Ac 1) (cF Am (Ae (Ac 2) (Ae (Ft (Ac 1)) Ar)))) [some (.ls true ds),some (.im (.int m)),some (.ls false (names12.map PyData.str))]=.ok (.o (.ls false (b.map PyData.str))) [some (.ls true h),some (.im (.int m)),some (.ls false (a.map PyData.str))] :=
  Jk (ds:=Iw 0 m) (c1:=[some (.ls true ds),some (.im (.int m)),some (.ls false (names12.map PyData.str))]) (by wp_walk using A6c  (Nat.le_trans hm (by decide)),Int.toNat_natCast) (by rw[Jz];exact Nat.le_trans hm (by decide)) e (by wp_walk using true_and)
 unfold Hb U0;simp only[names12,List.map_cons,List.map_nil]at s
 wp_walk using s
theorem Aw4 {k:Nat}{vs:List Vl}  (h:v∉vs) (a:vs.Nodup):(vs++[v]).Nodup:=by
 grind
theorem A7c    (hb:Bx n ds) (hn:n<2 ^ 38) (hm:m<=1000) :
 ∃a ds',VBs a/\a.Nodup/\a.length<=m/\(0<m->a≠[])/\Bx (n+2*m) ds'/\Hy [.ls true ds,.im (.int m)]=.ret (.ls false (a.map Vl.d)) [.ls true ds',.im (.int m)]:=by
 have i:=Gw (g:=cgN 3) (body:=Bq (Df (cF Cd (Ae (Ac 0) Ar)) (cgN 4)) (cIf (Bp (cOp (Ol true) (Ac 4) (Ac 2))) (Gh (Ql (Ac 2) (Ac 4))) Dt)) (items:=Iw 0 m) (n:=0) (c:=[some (.ls true ds),some (.im (.int m)),some (.ls false []),none,none])
  (P:=fun k c=>∃j a x y,c=[some (.ls true j),some (.im (.int m)),some (.ls false (a.map Vl.d)),x,y]/\Bx (n+2*k) j/\VBs a/\a.Nodup/\a.length<=k/\(0<k->a≠[]))
  ⟨ds,[],none,none,rfl,hb,(fun v b=>by cases b),List.nodup_nil,Nat.le_refl _,fun h=>absurd h (by decide)⟩ (fun k d c B s=>by
   rw[Nat.zero_add]at s ⊢;obtain⟨j,a,x,y,rfl,p,b,o,l,f⟩:=s;obtain⟨rfl,w⟩:=J3 B
   obtain⟨v,q,t,r,A⟩:=Ab5 p (upN hn (Nat.mul_le_mul_left 2 (Nat.le_trans (Nat.le_of_lt w) hm)) (by decide))
   by_cases c:v∈a
   ·refine⟨[some (.ls true q),some (.im (.int m)),some (.ls false (a.map Vl.d)),some (.im (.int (0+(k:Int)))),some (.im v.d)],.inl ?_,q,a,_,_,rfl,t,b,o,Nat.le_succ_of_le l,fun _ z=>by rw[z]at c;cases c⟩
    wp_walk using A,A1z r b,decide_eq_true c
   ·refine⟨[some (.ls true q),some (.im (.int m)),some (.ls false ((a++[v]).map Vl.d)),some (.im (.int (0+(k:Int)))),some (.im v.d)],.inl ?_,q,a++[v],_,_,rfl,t,VBs.app b (fun u C=>by rw[List.mem_singleton.mp C];exact r),Aw4 (k:=k) c o,by rw[List.length_append,List.length_singleton];omega,fun _=>by simp⟩
    wp_walk using A,A1z r b,decide_eq_false c,List.length_map,show a.length<16000000 from Nat.lt_of_le_of_lt l (Nat.lt_of_lt_of_le w (Nat.le_trans hm (by decide))),List.map_append)
 obtain⟨c',e,j,a,x,y,rfl,p,b,o,l,f⟩:=i;rw[Nat.zero_add,Jz]at p l f
 refine⟨a,j,b,o,l,f,p,?_⟩
 unfold Hy V6
 wp_walk using Mv,A6c hm,Int.toNat_natCast,e
theorem A4d {n:Nat}{ds:List PyData}{vs:List Vl}{w:Nat}(hb:Bx n ds)(hn:n<2 ^ 38)(hw:w<=1000)(hv:VBs vs)(j:vs≠[])(hl:vs.length<=1000) :
 ∃
  a f t,a.length=w/\VBs a/\(∀u∈a,u∈vs)/\Bx (n+w) f /\
  Ef (cgN 0) By (cOp Ay (Ac 1) (cF Am (Ae (Ac 2) (Ae (Ft (Ac 1)) Ar)))) (Iw 0 w) [] [none,some (.ls true (vs.map Vl.d)),some (.ls true ds)]=.ok (a.map Vl.d) [t,some (.ls true (vs.map Vl.d)),some (.ls true f)]:=by
 have i:=Jw (g:=cgN 0) (ft:=By) (fe:=cOp Ay (Ac 1) (cF Am (Ae (Ac 2) (Ae (Ft (Ac 1)) Ar)))) (items:=Iw 0 w) (acc:=[]) (n:=0) (c:=[none,some (.ls true (vs.map Vl.d)),some (.ls true ds)])
  (P:=fun k b c=>∃f t a,c=[t,some (.ls true (vs.map Vl.d)),some (.ls true f)]/\Bx (n+k) f/\b=a.map Vl.d/\a.length=k/\VBs a/\∀u∈a,u∈vs)
  ⟨ds,none,[],rfl,hb,rfl,rfl,(fun v hv=>by cases hv),fun v hv=>by cases hv⟩ (fun k d b c B s=>by
   rw[Nat.zero_add]at s ⊢;obtain⟨f,t,a,rfl,p,rfl,q,y,z⟩:=s;obtain⟨rfl,o⟩:=J3 B;have C:0<vs.length:=List.length_pos_iff.mpr j
   obtain⟨r,D,E,A,r1,G⟩:=Dd (m:=(vs.length:Int)) p (upN hn (Nat.le_trans (Nat.le_of_lt o) hw) (by decide)) (Int.natCast_pos.mpr C) (Int.ofNat_lt.mpr (Nat.lt_of_le_of_lt hl (by decide)))
   obtain⟨x,F,H,_⟩:=S7 (l:=vs.map Vl.d) (r:=r) A (by simp_all)
   obtain⟨v,I,rfl⟩:=List.mem_map.mp H
   refine⟨some v.d,[some (.im (.int (0+k))),some _,some _],?_,D,_,a++[v],rfl,E,by simp,by grind,VBs.app y fun u h=>by grind,fun u h=>by
    grind⟩
   wp_walk using Fi,List.length_map,G,Ay,F)
 obtain⟨b,cI,e,f,t,a,rfl,p,rfl,q,y,z⟩:=i;rw[Jz]at p q
 grind
theorem V1 {n:Nat}{ds:List PyData}{w m:Nat}(hb:Bx n ds)(hn:n<2 ^ 37)(hw:w<=100)(hm:m<=1000) :
 ∃(f:List (List Vl)) (ds':List PyData),f.Nodup/\(∀t∈f,t.length=w/\VBs t)/\f.length<=m/\Bx (n+12+w*m) ds'/\Gk [.ls true ds,.im (.int w),.im (.int m)]=.ret (.ls false (f.map tD)) [.ls true ds',.im (.int w),.im (.int m)]:=by
 obtain⟨i,E,F,s,H,C,Q,D⟩:=A7c (m:=6) hb (Nat.lt_trans hn (by decide)) (by decide)
 have D:Hy [.ls true ds,.im (.int 6)]=.ret (.ls false (i.map Vl.d)) [.ls true E,.im (.int 6)]:=D
 have z:=Gw (g:=cgN 5) (body:=Bq (Df (cUn Bm (cLC [none,some 3,some 0] (Ju (Ac 1)) (cgN 0) By (cOp Ay (Ac 1) (cF Am (Ae (Ac 2) (Ae (Ft (Ac 1)) Ar)))))) (cgN 6)) (cIf (Bp (cOp (Ol true) (Ac 6) (Ac 4))) (Gh (Ql (Ac 4) (Ac 6))) Dt)) (items:=Iw 0 m) (n:=0)
  (c:=[some (.ls true E),some (.im (.int w)),some (.im (.int m)),some (.ls false (i.map Vl.d)),some (.ls false []),none,none])
  (P:=fun k c=>∃l f x y,c=[some (.ls true l),some (.im (.int w)),some (.im (.int m)),some (.ls false (i.map Vl.d)),some (.ls false (f.map tD)),x,y]/\Bx (n+12+w*k) l/\f.Nodup/\(∀t∈f,t.length=w/\VBs t)/\f.length<=k)
  ⟨E,[],none,none,rfl,Q,List.nodup_nil,(fun v F=>by cases F),Nat.le_refl _⟩ (fun k d c N J=>by
   rw[Nat.zero_add]at J ⊢;obtain⟨l,f,x,y,rfl,B,s,o,q⟩:=J;obtain⟨rfl,L⟩:=J3 N;have r:w*k<=100*1000:=Nat.mul_le_mul hw (Nat.le_of_lt (Nat.lt_of_lt_of_le L hm))
   obtain⟨j,p,t,R,G,_,S,O⟩:=A4d (w:=w) (vs:=i) B (upN (upN hn (Nat.le_refl 12) (show 2 ^ 37+12<=2 ^ 37+100 by decide)) r (by decide)) (Nat.le_trans hw (by decide)) F (C (by decide)) (Nat.le_trans H (by decide))
   have K:cLC [none,some 3,some 0] (Ju (Ac 1)) (cgN 0) By (cOp Ay (Ac 1) (cF Am (Ae (Ac 2) (Ae (Ft (Ac 1)) Ar)))) [some (.ls true l),some (.im (.int w)),some (.im (.int m)),some (.ls false (i.map Vl.d)),some (.ls false (f.map tD)),some (.im (.int (0+(k:Int)))),y]=.ok (.o (.ls false (j.map Vl.d))) [some (.ls true p),some (.im (.int w)),some (.im (.int m)),some (.ls false (i.map Vl.d)),some (.ls false (f.map tD)),some (.im (.int (0+(k:Int)))),y] :=
    Jk (ds:=Iw 0 w) (c1:=[some (.ls true l),some (.im (.int w)),some (.im (.int m)),some (.ls false (i.map Vl.d)),some (.ls false (f.map tD)),some (.im (.int (0+(k:Int)))),y]) (by wp_walk using A6c (m:=w) (Nat.le_trans hw (by decide)),Int.toNat_natCast) (by rw[Jz];omega) O (by wp_walk using true_and)
   have A:Bx (n+12+w*(k+1)) p:=S.mono (Nat.le_of_eq (Nat.add_assoc _ _ _));have M:PyData.tuple (j.map Vl.d)=tD j:=rfl
   by_cases c:j∈f
   ·refine⟨[some (.ls true p),some (.im (.int w)),some (.im (.int m)),some (.ls false (i.map Vl.d)),some (.ls false (f.map tD)),some (.im (.int (0+(k:Int)))),some (.im (tD j))],.inl ?_,p,f,_,_,rfl,A,s,o,Nat.le_succ_of_le q⟩
    wp_walk using K,Bm,M,A4n G (fun u I=>(o u I).2),decide_eq_true c
   ·refine⟨[some (.ls true p),some (.im (.int w)),some (.im (.int m)),some (.ls false (i.map Vl.d)),some (.ls false ((f++[j]).map tD)),some (.im (.int (0+(k:Int)))),some (.im (tD j))],.inl ?_,p,f++[j],_,_,rfl,A,?_,fun t h=>?_,by rw[List.length_append,List.length_singleton];exact Nat.succ_le_succ q⟩
    ·wp_walk using K,Bm,M,A4n G (fun u I=>(o u I).2),decide_eq_false c,List.length_map,show f.length<16000000 from Nat.lt_of_le_of_lt q (Nat.lt_of_lt_of_le L (Nat.le_trans hm (by decide))),List.map_append
    ·rw[List.nodup_append]
     exact⟨s,by simp,fun a T b hb e=>by rw[List.mem_singleton.mp hb]at e;exact c (e▸T)⟩
    ·rcases List.mem_append.mp h with h | h
     ·exact o t h
     ·rw[List.mem_singleton.mp h];exact⟨R,G⟩)
 obtain⟨c',e,l,f,x,y,rfl,B,s,o,q⟩:=z;rw[Nat.zero_add,Jz]at B q
 refine⟨f,l,s,o,q,B,?_⟩
 unfold Gk Q3
 wp_walk using D,Mv,A6c hm,Int.toNat_natCast,e
structure Wd where
 key:List Str
 names:List Str
 vals:List Str
 heads:List (List Vl)
 rows:List (List Vl×List (Option (List Vl)))
def nD (ns:List Str):PyData:=.tuple (ns.map PyData.str)
def Jb:Option (List Vl)->PyData
 | none=>.none
 | some c=>tD c
def Aa0 (r:List Vl×List (Option (List Vl))):PyData:=.tuple [tD r.1,.tuple (r.2.map Jb)]
def Wd.ps (w:Wd):List PyData:=[nD w.key,nD w.names,nD w.vals,.tuple (w.heads.map tD),.tuple (w.rows.map Aa0)]
def Wd.d (w:Wd):PyData:=.tuple w.ps
def Y4 (n:Nat)(c:Option (List Vl)):Prop:=∀vs,c=some vs->vs.length=n/\VBs vs
structure Ap3 (k h v:Nat) (r:List Vl×List (Option (List Vl))):Prop where
 plen:r.1.length=k
 part:VBs r.1
 clen:r.2.length=h
 cells:∀c∈r.2,Y4 v c
structure Wd.Ok (w:Wd):Prop where
 nms:Names (w.key++w.names++w.vals)
 klen:w.key.length<=2
 nlen:w.names.length<=2
 vlen:w.vals.length<=5
 vpos:1<=w.vals.length
 heads:∀h∈w.heads,h.length=w.names.length/\VBs h
 hnd:w.heads.Nodup
 hlen:w.heads.length<=12
 rows:∀r∈w.rows,Ap3 w.key.length w.heads.length w.vals.length r
 rnd:(w.rows.map (·.1)).Nodup
 rlen:w.rows.length<=12
def Wd.Num (w:Wd):Prop:=∀r∈w.rows,∀c∈r.2,∀vs,c=some vs->∀v∈vs,∃i,v=Vl.int i
theorem Af2  {b:Nat}:cutD ds none (some (b:Int))=ds.take b:=by
 unfold cutD;rw[HT.Ab3,HT.Sd,List.drop_zero]
 simp_all
theorem A4m {ds:List PyData}{a b:Nat}(h:a<=b)(hb:b<=ds.length):cutD ds (some (a:Int)) (some (b:Int))=(ds.drop a).take (b-a):=by
 unfold cutD;rw[HT.Sd,HT.Sd,Nat.min_eq_left hb,Nat.min_eq_left (Nat.le_trans h hb)]
theorem A7l {n:Nat}{ds:List PyData}{items:List PyData}{num:Bool}(hb:Bx n ds)(hn:n<2 ^ 38)(hl:items.length<=1000) :
 ∃
  a f t,a.length=items.length/\VBs a/\(num=true->∀u∈a,∃i,u=Vl.int i)/\Bx (n+2*items.length) f /\
  Ef (cgN 0) By (O4 (Bp (Ac 1)) (cF De (Ae (Ac 2) Ar)) (cF Cd (Ae (Ac 2) Ar))) items [] [none,some (.im (.bool num)),some (.ls true ds)]=.ok (a.map Vl.d) [t,some (.im (.bool num)),some (.ls true f)]:=by
 have p:=Jw (g:=cgN 0) (ft:=By) (fe:=O4 (Bp (Ac 1)) (cF De (Ae (Ac 2) Ar)) (cF Cd (Ae (Ac 2) Ar))) (items:=items) (acc:=[]) (n:=0) (c:=[none,some (.im (.bool num)),some (.ls true ds)])
  (P:=fun k e c=>∃f t a,c=[t,some (.im (.bool num)),some (.ls true f)]/\k<=items.length/\Bx (n+2*k) f/\e=a.map Vl.d/\a.length=k/\VBs a/\(num=true->∀u∈a,∃i,u=Vl.int i))
  ⟨ds,none,[],rfl,Nat.zero_le _,hb,rfl,rfl,(fun v o=>by cases o),fun _ v o=>by cases o⟩ (fun k d e c hd s=>by
   rw[Nat.zero_add]at s ⊢;obtain⟨f,t,a,rfl,x,q,rfl,r,w,hs⟩:=s
   have b:k<items.length:=by
    grind
   cases num with
   | true =>
    obtain⟨i,j,m,y,l⟩:=Ax2 q (upN hn (Nat.mul_le_mul_left 2 (Nat.le_trans (Nat.le_of_lt b) hl)) (by decide))
    refine⟨some (.int i),[some (.im d),some (.im (.bool true)),some (.ls true j)],?_,j,_,a++[.int i],rfl,b,m,by simp[Vl.d],by simp[r],VBs.app w fun u h=>by grind,fun _ u h=>by
     grind⟩
    wp_walk using l
   | false =>
    obtain⟨v,j,m,y,l⟩:=Ab5 q (upN hn (Nat.mul_le_mul_left 2 (Nat.le_trans (Nat.le_of_lt b) hl)) (by decide))
    refine⟨some v.d,[some (.im d),some _,some _],?_,j,_,a++[v],rfl,b,m,by simp,by simp[r],VBs.app w fun u h=>by grind,fun z=>nomatch z⟩
    wp_walk using l)
 grind
def isL (o:O)(ds:List PyData):Prop:=o=.ls false ds\/o=.im (.list ds)
theorem A6y {n:Nat}{ds:List PyData}{num:Bool}{s2 s3 s4 s5 s6 s7 o8 o9 s11 s12:Option O}{often:Int}{vals:List PyData}{heads:List (List Vl)}(hb:Bx n ds)(hn:n<2 ^ 37)(L:0<often)(h1:often<1000)(hv:vals.length<=5)(E:heads.length<=12){x14 x15:Option O}
 (Q:∃o,o8=some o/\isL o vals) :
 ∃
  (a:List (Option (List Vl))) (l:List PyData) (o8' j b:Option O),a.length=heads.length/\(∀c∈a,Y4 vals.length c)/\(num=true->∀c∈a,∀p,c=some p->∀v∈p,∃i,v=Vl.int i)/\Bx (n+11*heads.length) l/\(∃o,o8'=some o/\isL o vals) /\
  forL (cgN 14) (Bq (Df (cUn Bm (cLC [none,some 1,some 0] (Cv (Ac 8)) (cgN 0) By (O4 (Bp (Ac 1)) (cF De (Ae (Ac 2) Ar)) (cF Cd (Ae (Ac 2) Ar))))) (cgN 15))
   (Gh (Ql (Ac 13) (O4 (Bp (cOp (Dh false) (cF Am (Ae (Ac 0) (Ae (Ac 10) Ar))) (cC (.int 0)))) (cC (.none)) (Ac 15))))) (heads.map tD)
   [some (.ls true ds),some (.im (.bool num)),s2,s3,s4,s5,s6,s7,o8,o9,some (.im (.int often)),s11,s12,some (.ls false []),x14,x15] =
  .nx [some (.ls true l),some (.im (.bool num)),s2,s3,s4,s5,s6,s7,o8',o9,some (.im (.int often)),s11,s12,some (.ls false (a.map Jb)),j,b]:=by
 have y:=Gw (g:=cgN 14) (body:=Bq (Df (cUn Bm (cLC [none,some 1,some 0] (Cv (Ac 8)) (cgN 0) By (O4 (Bp (Ac 1)) (cF De (Ae (Ac 2) Ar)) (cF Cd (Ae (Ac 2) Ar))))) (cgN 15))
  (Gh (Ql (Ac 13) (O4 (Bp (cOp (Dh false) (cF Am (Ae (Ac 0) (Ae (Ac 10) Ar))) (cC (.int 0)))) (cC (.none)) (Ac 15))))) (items:=heads.map tD) (n:=0)
  (c:=[some (.ls true ds),some (.im (.bool num)),s2,s3,s4,s5,s6,s7,o8,o9,some (.im (.int often)),s11,s12,some (.ls false []),x14,x15])
  (P:=fun k c=>∃l C j b a,c=[some (.ls true l),some (.im (.bool num)),s2,s3,s4,s5,s6,s7,C,o9,some (.im (.int often)),s11,s12,some (.ls false (a.map Jb)),j,b]/\k<=heads.length/\Bx (n+11*k) l/\(∃o,C=some o/\isL o vals) /\
   a.length=k/\(∀c∈a,Y4 vals.length c)/\(num=true->∀c∈a,∀p,c=some p->∀v∈p,∃i,v=Vl.int i))
  ⟨ds,o8,_,_,[],rfl,Nat.zero_le _,hb,Q,rfl,(fun c s=>by cases s),fun _ c s=>by cases s⟩ (fun k d c K J=>by
   rw[Nat.zero_add]at J ⊢;obtain⟨l,C,j,b,a,rfl,S,D,⟨o,rfl,F⟩,u,s,f⟩:=J
   have x:k<heads.length:=by
    rcases Nat.lt_or_ge k heads.length with q | q
    ·exact q
    ·rw[List.getElem?_eq_none (by rw[List.length_map];exact q)]at K;cases K
   obtain⟨w,V,t,U,W,M,N,R⟩:=A7l (items:=vals) (num:=num) D (upN hn (Nat.mul_le_mul_left 11 (Nat.le_trans (Nat.le_of_lt x) E)) (by decide)) (Nat.le_trans hv (by decide))
   have G:cLC [none,some 1,some 0] (Cv (Ac 8)) (cgN 0) By (O4 (Bp (Ac 1)) (cF De (Ae (Ac 2) Ar)) (cF Cd (Ae (Ac 2) Ar)))
    [some (.ls true l),some (.im (.bool num)),s2,s3,s4,s5,s6,s7,some o,o9,some (.im (.int often)),s11,s12,some (.ls false (a.map Jb)),some (.im d),b] =
    .ok (.o (.ls false (w.map Vl.d))) [some (.ls true V),some (.im (.bool num)),s2,s3,s4,s5,s6,s7,some (.im (.list vals)),o9,some (.im (.int often)),s11,s12,some (.ls false (a.map Jb)),some (.im d),b]:=by
    refine Jk (ds:=vals) (c1:=[some (.ls true l),some (.im (.bool num)),s2,s3,s4,s5,s6,s7,some (.im (.list vals)),o9,some (.im (.int often)),s11,s12,some (.ls false (a.map Jb)),some (.im d),b]) ?_ (Nat.le_trans hv (by decide)) R (by wp_walk using true_and)
    rcases F with rfl | rfl <;> wp_walk using Cv
   obtain⟨r,A,T,r0,r1,I⟩:=Dd (m:=often) N (upN (upN hn (Nat.mul_le_mul_left 11 (Nat.le_trans (Nat.le_of_lt x) E)) (show 2 ^ 37+11*12<=2 ^ 38 by decide)) (Nat.mul_le_mul_left 2 hv) (by decide)) L (Int.lt_trans h1 (by decide))
   have H:PyData.tuple (w.map Vl.d)=tD w:=rfl;have B:Bx (n+11*(k+1)) A:=T.mono (Nat.add_le_add_left (Nat.succ_le_succ (Nat.mul_le_mul_left 2 hv)) (n+11*k))
   by_cases c:r=0
   ·subst c
    refine⟨[some (.ls true A),some (.im (.bool num)),s2,s3,s4,s5,s6,s7,some (.im (.list vals)),o9,some (.im (.int often)),s11,s12,some (.ls false ((a++[none]).map Jb)),some (.im d),some (.im (tD w))],.inl ?_,A,_,_,_,a++[none],rfl,x,B,⟨_,rfl,.inr rfl⟩,by simp[u],fun c h=>?_,fun z c h p e=>?_⟩
    ·wp_walk using G,Bm,H,I,Dh,Dr,PyData.canLay0,PyData.depth,PyData.eqv,Nat.zero_le,beq_self_eq_true,List.length_map,show a.length<16000000 from u▸Nat.lt_of_lt_of_le x (Nat.le_trans E (by decide)),List.map_append,Jb
    ·rcases List.mem_append.mp h with h | h
     ·exact s c h
     ·rw[List.mem_singleton.mp h];exact fun p e=>nomatch e
    ·rcases List.mem_append.mp h with h | h
     ·exact f z c h p e
     ·rw[List.mem_singleton.mp h]at e;cases e
   ·refine⟨[some (.ls true A),some (.im (.bool num)),s2,s3,s4,s5,s6,s7,some (.im (.list vals)),o9,some (.im (.int often)),s11,s12,some (.ls false ((a++[some w]).map Jb)),some (.im d),some (.im (tD w))],.inl ?_,A,_,_,_,a++[some _],rfl,x,B,⟨_,rfl,.inr rfl⟩,by simp[u],fun c h=>?_,fun z c h p e=>?_⟩
    ·wp_walk using G,Bm,H,I,Dh,Dr,PyData.canLay0,PyData.depth,PyData.eqv,Nat.zero_le,beq_eq_false_iff_ne.mpr c,List.length_map,show a.length<16000000 from u▸Nat.lt_of_lt_of_le x (Nat.le_trans E (by decide)),List.map_append,Jb
    ·rcases List.mem_append.mp h with h | h
     ·exact s c h
     ·rw[List.mem_singleton.mp h];exact fun p e=>by cases e;exact⟨U,W⟩
    ·rcases List.mem_append.mp h with h | h
     ·exact f z c h _ e
     ·rw[List.mem_singleton.mp h]at e;cases e;exact M z)
 obtain⟨c',e,l,C,j,b,a,rfl,_,D,F,u,s,f⟩:=y;rw[Nat.zero_add,List.length_map]at D u;exact⟨a,l,C,j,b,u,s,f,D,F,e⟩
abbrev A1y:Ev->SR:=Bq (Df (cUn Bm (cLC [none,some 1,some 0] (Cv (Ac 8)) (cgN 0) By (O4 (Bp (Ac 1)) (cF De (Ae (Ac 2) Ar)) (cF Cd (Ae (Ac 2) Ar))))) (cgN 15))
 (Gh (Ql (Ac 13) (O4 (Bp (cOp (Dh false) (cF Am (Ae (Ac 0) (Ae (Ac 10) Ar))) (cC (.int 0)))) (cC (.none)) (Ac 15))))
abbrev T6:Ev->SR:=Bq (Df (Hj Ar) (cgN 13)) (Bq (Mv (Cv (Ac 9)) (cgN 14) A1y) (Gh (Ql (Ac 11) (Fp (Ae (Ac 12) (Ae (cUn Bm (Ac 13)) Ar))))))
theorem A3m {n:Nat}{ds:List PyData}{num:Bool}{s2 s3 s4 s5 s6 s7 o8 o9:Option O}{often:Int}{vals:List PyData}{heads parts:List (List Vl)}(hb:Bx n ds)(hn:n<2 ^ 36)(h0:0<often)(h1:often<1000)(hv:vals.length<=5)(hh:heads.length<=12)(hp:parts.length<=12)
 (h8:∃o,o8=some o/\isL o vals) (h9:∃o,o9=some o/\isL o (heads.map tD)) {x12 x13 x14 x15:Option O} {kl:Nat} (hpk:∀t∈parts,t.length=kl/\VBs t) :
 ∃
  (rows:List (List Vl×List (Option (List Vl)))) (d1:List PyData) (p8 p9 y12 y13 y14 y15:Option O),rows.map (·.1)=parts/\(∀r∈rows,Ap3 kl heads.length vals.length r)/\(num=true->∀r∈rows,∀c∈r.2,∀vs,c=some vs->∀v∈vs,∃i,v=Vl.int i)/\Bx (n+132*parts.length) d1/\(∃o,p8=some o/\isL o vals)/\(∃o,p9=some o/\isL o (heads.map tD)) /\
  forL (cgN 12) T6 (parts.map tD) [some (.ls true ds),some (.im (.bool num)),s2,s3,s4,s5,s6,s7,o8,o9,some (.im (.int often)),some (.ls false []),x12,x13,x14,x15] =
  .nx [some (.ls true d1),some (.im (.bool num)),s2,s3,s4,s5,s6,s7,p8,p9,some (.im (.int often)),some (.ls false (rows.map Aa0)),y12,y13,y14,y15]:=by
 have loop:=Gw (g:=cgN 12) (body:=T6) (items:=parts.map tD) (n:=0) (c:=[some (.ls true ds),some (.im (.bool num)),s2,s3,s4,s5,s6,s7,o8,o9,some (.im (.int often)),some (.ls false []),x12,x13,x14,x15])
  (P:=fun k c=>∃d1 p8 p9 y12 y13 y14 y15 rows,c=[some (.ls true d1),some (.im (.bool num)),s2,s3,s4,s5,s6,s7,p8,p9,some (.im (.int often)),some (.ls false (rows.map Aa0)),y12,y13,y14,y15]/\k<=parts.length/\Bx (n+132*k) d1/\(∃o,p8=some o/\isL o vals)/\(∃o,p9=some o/\isL o (heads.map tD)) /\
   rows.map (·.1)=parts.take k/\(∀r∈rows,Ap3 kl heads.length vals.length r)/\(num=true->∀r∈rows,∀c∈r.2,∀vs,c=some vs->∀v∈vs,∃i,v=Vl.int i))
  ⟨ds,o8,o9,_,_,_,_,[],rfl,Nat.zero_le _,hb,h8,h9,rfl,(fun r hr=>by cases hr),fun _ r hr=>by cases hr⟩ (fun k d c hd hP=>by
   rw[Nat.zero_add]at hP ⊢;obtain⟨d1,p8,p9,y12,y13,y14,y15,rows,rfl,hk0,b1,h8,⟨o,rfl,ho⟩,hr,hro,hnum⟩:=hP;obtain⟨t,ht,e⟩:=Ij hd;subst e;have hk:k<parts.length:=(List.getElem?_eq_some_iff.mp ht).1
   obtain⟨cells,d2,q8,z14,z15,cl,cc,cn,b2,g8,e2⟩:=A6y (num:=num) (s2:=s2) (s3:=s3) (s4:=s4) (s5:=s5) (s6:=s6) (s7:=s7) (o8:=p8) (o9:=some (.im (.list (heads.map tD)))) (s11:=some (.ls false (rows.map Aa0))) (s12:=some (.im (tD t))) (x14:=y14) (x15:=y15) (heads:=heads) b1 (by omega) h0 h1 hv hh h8
   have rl:rows.length=k:=by have:=congrArg List.length hr;rw[List.length_map,List.length_take]at this;exact this.trans (Nat.min_eq_left hk0)
   refine⟨[some (.ls true d2),some (.im (.bool num)),s2,s3,s4,s5,s6,s7,q8,some (.im (.list (heads.map tD))),some (.im (.int often)),some (.ls false ((rows++[(t,cells)]).map Aa0)),some (.im (tD t)),some (.ls false (cells.map Jb)),z14,z15],.inl ?_,d2,q8,_,_,_,_,_,rows++[(t,cells)],rfl,hk,b2.mono (by omega),g8,⟨_,rfl,.inr rfl⟩,?_,fun r h=>?_,fun z r h=>?_⟩
   ·have en:(rows.map Aa0).length<16000000:=by rw[List.length_map,rl];exact Nat.lt_of_lt_of_le hk (Nat.le_trans hp (by decide))
    rcases ho with rfl | rfl <;> wp_walk using T6,Mv,Cv,e2,Bm,en,List.map_append,Aa0
   ·rw[List.map_append,hr,List.map_cons,List.map_nil,List.take_succ,ht];rfl
   ·rcases List.mem_append.mp h with h | h
    ·exact hro r h
    ·rw[List.mem_singleton.mp h]
     have:=hpk t (List.mem_of_getElem? ht);exact⟨this.1,this.2,cl,cc⟩
   ·rcases List.mem_append.mp h with h | h
    ·exact hnum z r h
    ·rw[List.mem_singleton.mp h];exact cn z)
 obtain⟨c',e,d1,p8,p9,y12,y13,y14,y15,rows,rfl,_,b1,h8,h9,hr,hro,hnum⟩:=loop;rw[Nat.zero_add,List.length_map]at b1 hr;rw[List.take_length]at hr;exact⟨rows,d1,p8,p9,y12,y13,y14,y15,hr,hro,hnum,b1,h8,h9,e⟩
theorem Jy {ns:List Str}{a:Nat}:(ns.map PyData.str).take a=(ns.take a).map PyData.str:=List.map_take.symm
theorem Ou {ns:List Str}{a:Nat}:(ns.map PyData.str).drop a=(ns.drop a).map PyData.str:=List.map_drop.symm
theorem Names.sublist {a b:List Str}(h:Names b)(s:a.Sublist b):Names a:=⟨h.nd.sublist s,fun x c=>h.sub x (s.subset c)⟩
theorem A2b {o:O}{ds:List PyData}{i:Nat}{c:Ev}(h:isL o ds)(hc:c[i]?=some (some o)):cUn Bm (Ac i) c=.ok (.o (.im (.tuple ds))) c:=by
 rcases h with rfl | rfl <;> wp_walk using hc,Bm
theorem Bt6 {b d e f g:Ev->R PV}{c:Ev}{h a j k i:PyData}(h1:b c=.ok (.o (.im h)) c)(h2:d c=.ok (.o (.im a)) c)(m:e c=.ok (.o (.im j)) c)(n:f c=.ok (.o (.im k)) c)(l:g c=.ok (.o (.im i)) c) :
 Ed (Fp (Ae b (Ae d (Ae e (Ae f (Ae g Ar)))))) c=.rt (.o (.im (.tuple [h,a,j,k,i]))) c:=by
 wp_walk using h1,h2,m,n,l
theorem A8l {n:Nat}{ds:List PyData}{num:Bool}(hb:Bx n ds)(hn:n<2 ^ 35) :
 ∃(W:Wd) (ds':List PyData),W.Ok/\(num=true->W.Num)/\Bx (n+3000) ds'/\Jv [.ls true ds,.im (.bool num)]=.ret (.im W.d) [.ls true ds',.im (.bool num)]:=by
 have u:∀k,k<=5000->n+k<2 ^ 40:=fun k F=>Nat.lt_of_lt_of_le (Nat.add_lt_add_of_lt_of_le hn F) (by decide)
 have K:∀k,k<=5000->n+k<2 ^ 39:=fun k F=>Nat.lt_of_lt_of_le (Nat.add_lt_add_of_lt_of_le hn F) (by decide)
 have J:∀k,k<=5000->n+k<2 ^ 37:=fun k F=>Nat.lt_of_lt_of_le (Nat.add_lt_add_of_lt_of_le hn F) (by decide)
 have V:∀k,k<=5000->n+k<2 ^ 36:=fun k F=>Nat.lt_of_lt_of_le (Nat.add_lt_add_of_lt_of_le hn F) (by decide)
 obtain⟨o,d1,L,nms,b1,X⟩:=A3k (m:=9) hb (Nat.lt_trans hn (by decide)) (by decide)
 have X:Hb [.ls true ds,.im (.int 9)]=.ret (.ls false (o.map PyData.str)) [.ls true d1,.im (.int 9)]:=X
 obtain⟨a,d2,b2,a0,a1,e2⟩:=Dd (m:=3) b1 (u 9 (by decide)) (by decide) (by decide)
 obtain⟨b,d3,b3,bb0,T,e3⟩:=Dd (m:=3) b2 (u 10 (by decide)) (by decide) (by decide)
 obtain⟨c,d4,b4,c0,c1,e4⟩:=Dd (m:=2) b3 (u 11 (by decide)) (by decide) (by decide)
 obtain⟨q,d5,b5,q0,q1,e5⟩:=Dd (m:=8) b4 (u 12 (by decide)) (by decide) (by decide)
 obtain⟨a,rfl⟩:=Int.eq_ofNat_of_zero_le a0;obtain⟨b,rfl⟩:=Int.eq_ofNat_of_zero_le bb0;have G:a<=2:=Int.ofNat_le.mp (Int.le_of_lt_add_one a1);have y:b<=2:=Int.ofNat_le.mp (Int.le_of_lt_add_one T)
 have hc:∃(v:Nat) (E:List PyData),1<=v/\v<=5/\Bx (n+14) E /\
  cIf (Bp (cOp (Dh false) (cF Am (Ae (Ac 0) (Ae (cC (.int 8)) Ar))) (cC (.int 0)))) (Df (cOp Ba (cC (.int 3)) (cF Am (Ae (Ac 0) (Ae (cC (.int 3)) Ar)))) (cgN 5)) Dt
   [some (.ls true d4),some (.im (.bool num)),some (.ls false (o.map PyData.str)),some (.im (.int a)),some (.im (.int b)),some (.im (.int (1+c))),none,none,none,none,none,none,none,none,none,none] =
  .nx [some (.ls true E),some (.im (.bool num)),some (.ls false (o.map PyData.str)),some (.im (.int a)),some (.im (.int b)),some (.im (.int (v:Int))),none,none,none,none,none,none,none,none,none,none]:=by
  by_cases z:q=0
  ·subst z
   obtain⟨k,E,Z,k0,k1,e6⟩:=Dd (m:=3) b5 (u 13 (by decide)) (by decide) (by decide)
   refine⟨(3+k).toNat,E,by omega,by omega,Z.mono (Nat.le_refl _),?_⟩
   wp_walk using e5,e6,Dh,Dr,PyData.canLay0,PyData.depth,PyData.eqv,Nat.zero_le,beq_self_eq_true,Ba,Int.toNat_of_nonneg (show 0<=3+k by omega)
  ·refine⟨(1+c).toNat,d5,by omega,by omega,b5.mono (Nat.le_succ _),?_⟩
   wp_walk using e5,Dh,Dr,PyData.canLay0,PyData.depth,PyData.eqv,Nat.zero_le,beq_eq_false_iff_ne.mpr z,Int.toNat_of_nonneg (show 0<=1+c by omega)
 obtain⟨v,E,v1,v5,Z,e6⟩:=hc
 obtain⟨S,d7,b7,m10,m11,e7⟩:=Ao2 (l:=0) (f:=5) (m:=12) Z (K 14 (by decide)) (by decide) (by decide) (by decide) (by decide) (by decide) (by decide)
 obtain⟨S,rfl⟩:=Int.eq_ofNat_of_zero_le m10;have D:S<=12:=Int.ofNat_le.mp m11
 obtain⟨d,d8,hnd,hh,hl,b8,e8⟩:=V1 (w:=b) (m:=S) b7 (J 16 (by decide)) (Nat.le_trans y (by decide)) (Nat.le_trans D (by decide))
 obtain⟨f,d9,b9,f0,f1,e9⟩:=Dd (m:=3) (b8.mono (m:=n+52) (Nat.add_le_add_left (show b*S<=24 from Nat.mul_le_mul y D) (n+28))) (u 52 (by decide)) (by decide) (by decide)
 obtain⟨fo,hfo,M,_⟩:=S7 (l:=[PyData.int 9,.int 2,.int 3]) (r:=f) f0 f1
 have hof:∃i:Int,fo=.int i/\0<i/\i<1000:=by
  simp only[List.mem_cons,List.not_mem_nil,or_false]at M
  rcases M with rfl | rfl | rfl <;> exact⟨_,rfl,by decide,by decide⟩
 obtain⟨i,rfl,U,of1⟩:=hof
 obtain⟨R,d10,b10,m20,m21,Y⟩:=Ao2 (l:=0) (f:=5) (m:=12) b9 (K 53 (by decide)) (by decide) (by decide) (by decide) (by decide) (by decide) (by decide)
 obtain⟨R,rfl⟩:=Int.eq_ofNat_of_zero_le m20;have B:R<=12:=Int.ofNat_le.mp m21
 obtain⟨s,d11,pnd,hp,pl,b11,e11⟩:=V1 (w:=a) (m:=R) b10 (J 55 (by decide)) (Nat.le_trans G (by decide)) (Nat.le_trans B (by decide))
 have x:s.length<=12:=Nat.le_trans pl B;have A:d.length<=12:=Nat.le_trans hl D;have I:a+b<=4:=Nat.add_le_add G y;have O:a+b+v<=9:=Nat.add_le_add I v5
 let j:=o.take a
 let g:=(o.drop a).take b
 let e:=(o.drop (a+b)).take v
 have kl:j.length=a:=by show (o.take a).length=a;rw[List.length_take,L];exact Nat.min_eq_left (Nat.le_trans G (by decide))
 have ol:g.length=b:=by show ((o.drop a).take b).length=b;rw[List.length_take,List.length_drop,L];exact Nat.min_eq_left (Nat.le_sub_of_add_le (Nat.le_trans (Nat.add_le_add y G) (by decide)))
 have vl:e.length=v:=by show ((o.drop (a+b)).take v).length=v;rw[List.length_take,List.length_drop,L];exact Nat.min_eq_left (Nat.le_sub_of_add_le (Nat.add_comm v (a+b)▸O))
 have C:j++g++e=o.take (a+b+v):=by
  show o.take a++(o.drop a).take b++(o.drop (a+b)).take v=_
  rw[<- List.take_add,<- List.take_add]
 have c1:cutD (o.map PyData.str) none (some (a:Int))=j.map PyData.str:=by rw[Af2,Jy]
 have c2:cutD (o.map PyData.str) (some (a:Int)) (some ((a:Int)+(b:Int)))=g.map PyData.str:=by
  rw[<- Int.natCast_add,A4m (Nat.le_add_right _ _) (by rw[List.length_map,L];exact Nat.le_trans I (by decide)),Ou,Jy,Nat.add_sub_cancel_left]
 have c3:cutD (o.map PyData.str) (some ((a:Int)+(b:Int))) (some ((a:Int)+(b:Int)+(v:Int)))=e.map PyData.str:=by
  rw[<- Int.natCast_add,<- Int.natCast_add,A4m (Nat.le_add_right _ _) (by rw[List.length_map,L];exact O),Ou,Jy,Nat.add_sub_cancel_left]
 obtain⟨t,N,p8,p9,y12,y13,y14,y15,hr,hro,P,b12,⟨o8,rfl,g8⟩,⟨o9,rfl,g9⟩,e12⟩:=A3m (num:=num) (s2:=some (.ls false (o.map PyData.str))) (s3:=some (.im (.int a))) (s4:=some (.im (.int b))) (s5:=some (.im (.int v))) (s6:=some (.im (.list (j.map PyData.str)))) (s7:=some (.im (.list (g.map PyData.str)))) (o8:=some (.ls false (e.map PyData.str))) (o9:=some (.ls false (d.map tD))) (often:=i) (vals:=e.map PyData.str) (heads:=d) (parts:=s) (b11.mono (m:=n+91) (Nat.add_le_add_left (show a*R<=24 from Nat.mul_le_mul G B) (n+67))) (V 91 (by decide)) U of1 (by rw[List.length_map,vl];exact v5) A x ⟨_,rfl,.inl rfl⟩ ⟨_,rfl,.inl rfl⟩ (x12:=none) (x13:=none) (x14:=none) (x15:=none) (kl:=a) hp
 have Q:Names (j++g++e):=by rw[C];exact nms.sublist (List.take_sublist _ _)
 refine⟨⟨j,g,e,d,t⟩,N,⟨Q,by rw[kl];exact G,by rw[ol];exact y,by rw[vl];exact v5,by rw[vl];exact v1,fun h H=>⟨by rw[ol];exact(hh h H).1,(hh h H).2⟩,hnd,A,fun r h=>?_,by show (t.map (·.1)).Nodup;rw[hr];exact pnd,?_⟩,P,b12.mono (Nat.le_trans (Nat.add_le_add_left (Nat.mul_le_mul_left 132 x) (n+91)) (Nat.add_le_add_left (show 91+132*12<=3000 by decide) n)),?_⟩
 ·have:=hro r h
  rw[List.length_map]at this
  show Ap3 j.length d.length e.length r
  rw[kl];exact this
 ·show t.length<=12
  have:=congrArg List.length hr;rw[List.length_map]at this;exact Nat.le_trans (Nat.le_of_eq this) x
 refine Al3 (p:=.o (.im (Wd.d ⟨j,g,e,d,t⟩))) (c:=[some (.ls true N),some (.im (.bool num)),some (.ls false (o.map PyData.str)),some (.im (.int a)),some (.im (.int b)),some (.im (.int v)),some (.im (.list (j.map PyData.str))),some (.im (.list (g.map PyData.str))),some o8,some o9,some (.im (.int i)),some (.ls false (t.map Aa0)),y12,y13,y14,y15]) ?_ rfl (by wp_walk using true_and)
 show Qg [some (.ls true ds),some (.im (.bool num)),none,none,none,none,none,none,none,none,none,none,none,none,none,none]=_
 unfold Qg
 refine (Gq (c':=[some (.ls true d1),some (.im (.bool num)),some (.ls false (o.map PyData.str)),none,none,none,none,none,none,none,none,none,none,none,none,none]) (by wp_walk using X)).trans ?_
 refine (Gq (c':=[some (.ls true d4),some (.im (.bool num)),some (.ls false (o.map PyData.str)),some (.im (.int a)),some (.im (.int b)),some (.im (.int (1+c))),none,none,none,none,none,none,none,none,none,none]) (by wp_walk using e2,e3,e4,Ba)).trans ?_
 refine (Gq e6).trans ?_
 refine (Gq (c':=[some (.ls true E),some (.im (.bool num)),some (.ls false (o.map PyData.str)),some (.im (.int a)),some (.im (.int b)),some (.im (.int v)),some (.im (.list (j.map PyData.str))),some (.im (.list (g.map PyData.str))),none,none,none,none,none,none,none,none]) (by wp_walk using Ek,Ba,c1,c2)).trans ?_
 refine (Gq (c':=[some (.ls true E),some (.im (.bool num)),some (.ls false (o.map PyData.str)),some (.im (.int a)),some (.im (.int b)),some (.im (.int v)),some (.im (.list (j.map PyData.str))),some (.im (.list (g.map PyData.str))),some (.ls false (e.map PyData.str)),none,none,none,none,none,none,none]) (by wp_walk using Ek,Ba,c3)).trans ?_
 refine (Gq (c':=[some (.ls true d8),some (.im (.bool num)),some (.ls false (o.map PyData.str)),some (.im (.int a)),some (.im (.int b)),some (.im (.int v)),some (.im (.list (j.map PyData.str))),some (.im (.list (g.map PyData.str))),some (.ls false (e.map PyData.str)),some (.ls false (d.map tD)),none,none,none,none,none,none]) (by wp_walk using e7,e8)).trans ?_
 refine (Gq (c':=[some (.ls true d9),some (.im (.bool num)),some (.ls false (o.map PyData.str)),some (.im (.int a)),some (.im (.int b)),some (.im (.int v)),some (.im (.list (j.map PyData.str))),some (.im (.list (g.map PyData.str))),some (.ls false (e.map PyData.str)),some (.ls false (d.map tD)),some (.im (.int i)),none,none,none,none,none]) (by wp_walk using e9,Ay,hfo)).trans ?_
 refine (Gq (c':=[some (.ls true d9),some (.im (.bool num)),some (.ls false (o.map PyData.str)),some (.im (.int a)),some (.im (.int b)),some (.im (.int v)),some (.im (.list (j.map PyData.str))),some (.im (.list (g.map PyData.str))),some (.ls false (e.map PyData.str)),some (.ls false (d.map tD)),some (.im (.int i)),some (.ls false []),none,none,none,none]) (by wp_walk using true_and)).trans ?_
 refine (Gq ((J0 (ds:=s.map tD) (c1:=[some (.ls true d11),some (.im (.bool num)),some (.ls false (o.map PyData.str)),some (.im (.int a)),some (.im (.int b)),some (.im (.int v)),some (.im (.list (j.map PyData.str))),some (.im (.list (g.map PyData.str))),some (.ls false (e.map PyData.str)),some (.ls false (d.map tD)),some (.im (.int i)),some (.ls false []),none,none,none,none]) (by wp_walk using Cv,Y,e11)).trans e12)).trans ?_
 exact Bt6 (A2b (.inr rfl) rfl) (A2b (.inr rfl) rfl) (A2b g8 rfl) (A2b g9 rfl) (A2b (.inl rfl) rfl)
theorem A0d  : (List.replicate n true).all id=true:=by simp
theorem Q0:∀n:Nat,boolsOf (List.replicate n (PyData.bool true))=some (List.replicate n true)
 | 0=>rfl
 | n+1=>by rw[List.replicate_succ,List.replicate_succ];show (boolsOf (List.replicate n (PyData.bool true))).map (true::·)=_;rw[Q0 n];rfl
theorem Mw   (ha:Dr a=true) (hb:Dr b=true):Dh neg a b=some (.im (.bool (if neg then !PyData.eqv a b else PyData.eqv a b))):=by unfold Dh;grind
theorem A7d   (h:x∈Ro ds ds):∃d∈ds,x=.tuple [d,d]:=by
 obtain⟨⟨a,b⟩,f,c⟩:=List.mem_map.mp h;obtain⟨i,g,e⟩:=List.getElem_of_mem f
 grind
theorem Ap8 {d:PyData}:∀{ds:List PyData},d∈ds->d.depth<=PyData.depthAll ds
 | a::r,h=>by
  show d.depth<=max a.depth (PyData.depthAll r)
  rcases List.mem_cons.mp h with rfl | h
  ·exact Nat.le_max_left _ _
  ·exact Nat.le_trans (Ap8 h) (Nat.le_max_right _ _)
theorem Am8 {d:PyData}:∀{ds:List PyData},d∈ds->PyData.canLayAll0 ds=true->d.canLay0=true
 | a::r,h,l=>by
  obtain⟨l1,l2⟩:=Bool.and_eq_true_iff.mp (show (a.canLay0&&PyData.canLayAll0 r)=true from l)
  rcases List.mem_cons.mp h with rfl | h
  ·exact l1
  ·exact Am8 h l2
def Short:Nat->PyData->Prop
 | 0,_=>True
 | _+1,.list _=>False
 | n+1,.tuple ds=>ds.length<=16000000/\∀d∈ds,Short n d
 | _+1,_=>True
theorem A0w:∀ds:List PyData,2*ds.length<=Ih ds
 | []=>Nat.le_refl _
 | d::r=>by have:=A0w r;show 2*(r.length+1)<=wt d+2+Ih r;omega
theorem A3u {d:PyData}:∀{ds:List PyData},d∈ds->wt d<=Ih ds
 | a::r,h=>by
  show wt d<=wt a+2+Ih r
  rcases List.mem_cons.mp h with rfl | h
  ·exact Nat.le_trans (Nat.le_add_right _ 2) (Nat.le_add_right _ _)
  ·exact Nat.le_trans (A3u h) (Nat.le_add_left _ _)
theorem Tf:∀vs:List Vl,Nk (vs.map Vl.d)=true
 | []=>rfl
 | v::vs=>by
  show (noL v.d&&Nk (vs.map Vl.d))=true
  rw[Tf vs]
  cases v <;> rfl
theorem Pk:∀a:List Str,Nk (a.map PyData.str)=true
 | []=>rfl
 | x::a=>by show (true&&Nk (a.map PyData.str))=true;rw[Pk a];rfl
theorem O1  (h:∀d∈ds,noL d=true):Nk ds=true:=by
 induction ds with
 | nil=>rfl
 | cons d r a=>show (noL d&&Nk r)=true;grind
theorem An6 {d:PyData}:∀{ds:List PyData},d∈ds->Nk ds=true->noL d=true
 | a::r,h,l=>by
  obtain⟨l1,l2⟩:=Bool.and_eq_true_iff.mp (show (noL a&&Nk r)=true from l)
  rcases List.mem_cons.mp h with rfl | h
  ·exact l1
  ·exact An6 h l2
theorem A1v (n:Nat):∀(d:PyData),wt d<=16000000->noL d=true->Short n d:=by
 induction n with
 | zero=>intro d _ _;trivial
 | succ n c =>
  intro d h b
  cases d with
  | tuple e =>
   have h  := Nat.le_trans (Nat.le_add_right _ 4) h
   exact⟨Nat.le_trans (Nat.le_trans (Nat.le_mul_of_pos_left _ (by decide)) (A0w _)) h,fun d a=>c d (Nat.le_trans (A3u a) h) (An6 a b)⟩
  | list e=>cases b
  | _=>trivial
theorem Ap1:∀(n:Nat) (d:PyData),d.depth<n->n<=40->d.canLay0=true->Short n d->Cw n [.im d,.im d]=.ret (.im (.bool true)) [.im d,.im d]
 | 0,d,h,_,_,_=>absurd h (Nat.not_lt_zero _)
 | n+1,d,h,hn,hl,hs=>by
  have fb:∀b:Bool,Dr (.bool b)=true:=fun b=>rfl
  have fl:Dr d=true:=by unfold Dr;rw[hl,decide_eq_true (show d.depth<=40 from Nat.le_trans (Nat.le_of_lt_succ h) (Nat.le_of_succ_le hn))];rfl
  have fi:∀k:Nat,Dr (.int (k:Int))=true:=fun k=>rfl
  have loop:∀ds:List PyData,(∀e∈ds,Cw n [.im e,.im e]=.ret (.im (.bool true)) [.im e,.im e])->∃c',Ef (cgT 2 (Bf (cgN 0) (Bf (cgN 1) Eg))) By (cF (Cw n) (Ae (Ac 0) (Ae (Ac 1) Ar))) (Ro ds ds) [] [none,none]=.ok ((Ro ds ds).map fun _=>.bool true) c'/\∃a b,c'=[a,b]:=fun ds hds=>by
   have:=Wj (g:=cgT 2 (Bf (cgN 0) (Bf (cgN 1) Eg))) (ft:=By) (fe:=cF (Cw n) (Ae (Ac 0) (Ae (Ac 1) Ar))) (I:=fun c=>∃a b,c=[a,b]) (F:=fun _=>.bool true) (items:=Ro ds ds) (acc:=[]) (c:=[none,none]) ⟨none,none,rfl⟩ (fun x c hx ⟨a,b,hc⟩=>by
    subst hc;obtain⟨e,he,rfl⟩:=A7d hx
    refine⟨[some (.im e),some (.im e)],?_,_,_,rfl⟩
    wp_walk using hds e he)
   simpa using this
  have fin:∀ds:List PyData,(Ro ds ds).map (fun _=>PyData.bool true)=List.replicate ds.length (.bool true):=fun ds=>by
   rw[List.map_const'];unfold Ro;rw[List.length_map,List.length_zip,Nat.min_self]
  show G5 2 2 (G9 (Cw n)) _=_
  cases d with
  | none=>wp_walk using G9,Nx,Cr,Fy,Wr,Mw fl fl,Mw (fb _) (fb _),PyData.eqv,beq_self_eq_true
  | bool b=>wp_walk using G9,Nx,Cr,Fy,Wr,Mw fl fl,Mw (fb _) (fb _),PyData.eqv,beq_self_eq_true
  | int i=>wp_walk using G9,Nx,Cr,Fy,Wr,Mw fl fl,Mw (fb _) (fb _),PyData.eqv,beq_self_eq_true
  | str x=>wp_walk using G9,Nx,Cr,Fy,Wr,Mw fl fl,Mw (fb _) (fb _),PyData.eqv,beq_self_eq_true
  | dict k=>cases hl
  | list ds=>exact hs.elim
  | tuple ds =>
   have hd:∀e∈ds,Cw n [.im e,.im e]=.ret (.im (.bool true)) [.im e,.im e]:=fun e he=>Ap1 n e (Nat.lt_of_le_of_lt (Ap8 he) (Nat.lt_of_succ_lt_succ h)) (Nat.le_of_succ_le hn) (Am8 he hl) (hs.2 e he)
   obtain⟨c',e1,a,b,rfl⟩:=loop ds hd;rw[fin]at e1
   have e2:cLC [none,none] (A8r (Ac 0) (Ac 1)) (cgT 2 (Bf (cgN 0) (Bf (cgN 1) Eg))) By (cF (Cw n) (Ae (Ac 0) (Ae (Ac 1) Ar))) [some (.im (.tuple ds)),some (.im (.tuple ds))]=.ok (.o (.ls false (List.replicate ds.length (.bool true)))) [some (.im (.tuple ds)),some (.im (.tuple ds))] :=
    Jk (ds:=Ro ds ds) (c1:=[some (.im (.tuple ds)),some (.im (.tuple ds))]) (by wp_walk using A8r,Vb) (by unfold Ro;rw[List.length_map,List.length_zip,Nat.min_self];exact hs.1) e1 rfl
   wp_walk using G9,Nx,Cr,Fy,Mw (fb _) (fb _),Fi,Mw (fi _) (fi _),PyData.eqv,beq_self_eq_true,e2,Qz,Q0,A0d
theorem Vt {n:Nat}{d:PyData}{k w:Nat}(h:Good d k w)(hk:k<n)(hn:n<=40)(hw:w<=16000000)(hl:noL d=true):Cw n [.im d,.im d]=.ret (.im (.bool true)) [.im d,.im d] :=
 Ap1 n d (Nat.lt_of_le_of_lt h.dep hk) hn h.lay (A1v n d (Nat.le_trans h.wgt hw) hl)
section
variable {α:Type}[DecidableEq α]
def fnd (x:α):List α->Nat
 | []=>0
 | y::l=>if y=x then 0 else fnd x l+1
theorem Al1 {x:α}:∀{l:List α},x∈l->l[fnd x l]?=some x
 | y::l,h=>by
  unfold fnd
  by_cases e:y=x
  ·rw[if_pos e,e];rfl
  ·rw[if_neg e]
   rcases List.mem_cons.mp h with h | h
   ·exact absurd h.symm e
   ·rw[List.getElem?_cons_succ];exact Al1 h
end
section
variable {α β:Type}[DecidableEq α]
def ins (qs:List α)(q:α):List α:=if q∈qs then qs else qs++[q]
def fs (l:List α):List α:=l.foldl ins []
def upF (g:α->β)(q:α)(v:β):α->β:=fun x=>if x=q then v else g x
theorem Sw {qs:List α}  (h:q∈qs):ins qs q=qs:=if_pos h
theorem Om {qs:List α}  (h:q∉qs):ins qs q=qs++[q]:=if_neg h
theorem A8s {qs:List α}  : x∈ins qs q↔x∈qs\/x=q:=by
 by_cases h:q∈qs
 ·rw[Sw h]
  grind
 ·rw[Om h,List.mem_append,List.mem_singleton]
theorem Yb {l:List α}  : fs (l++[x])=ins (fs l) x:=by unfold fs;grind
theorem X6 {P:List α->Prop}(b:P [])(h1:∀l x,P l->P (l++[x]))(l:List α):P l:=by
 rw[<- l.reverse_reverse];generalize l.reverse=m
 induction m with
 | nil=>grind
 | cons x m a=>grind
theorem yO {l:List α}  : x∈fs l↔x∈l:=by
 refine X6 (P:=fun l=>∀{x},x∈fs l↔x∈l) Iff.rfl (fun l y a x=>?_) l
 rw[Yb,A8s,a,List.mem_append,List.mem_singleton]
theorem A9q (l:List α):(fs l).Nodup:=by
 refine X6 (P:=fun l=>(fs l).Nodup) List.nodup_nil (fun l y a=>?_) l
 rw[Yb]
 by_cases h:y∈fs l
 ·rw[Sw h];grind
 ·rw[Om h]
  grind
theorem Ae0 (l:List α):(fs l).length<=l.length:=by
 refine X6 (P:=fun l=>(fs l).length<=l.length) (Nat.le_refl _) (fun l y a=>?_) l
 rw[Yb]
 by_cases h:y∈fs l
 ·rw[Sw h,List.length_append];omega
 ·rw[Om h];grind
theorem A8i {l:List α}   (h:l[k]?=some x):fs (l.take (k+1))=ins (fs (l.take k)) x:=by
 rw[List.take_succ,h];exact Yb
theorem A4f {g:α->β}   : upF g q v q=v:=if_pos rfl
theorem Aj6 {g:α->β}   (h:x≠q):upF g q v x=g x:=if_neg h
theorem Uz {g:α->β}   {qs:List α}(h:q∉qs):qs.map (upF g q v)=qs.map g:=List.map_congr_left fun x a=>Aj6 fun e=>h (e▸a)
theorem Yg {g:α->β}{q:α}{v:β}:∀{qs:List α},qs.Nodup->q∈qs->(qs.map g).set (fnd q qs) v=qs.map (upF g q v)
 | x::qs,nd,h=>by
  obtain⟨n1,n2⟩:=List.nodup_cons.mp nd;unfold fnd
  by_cases e:x=q
  ·rw[if_pos e,List.map_cons,List.set_cons_zero,List.map_cons,Uz (e▸n1),e,A4f]
  ·rw[if_neg e,List.map_cons,List.set_cons_succ,List.map_cons,Aj6 e,Yg n2 ((List.mem_cons.mp h).resolve_left fun z=>e z.symm)]
variable {key:α->PyData}(he:∀a b,PyData.eqv (key a) (key b)=decide (a=b))
include he
theorem A2h {q:α}:∀{qs:List α},q∈qs->Oz (key q) (qs.map key)=some (fnd q qs)
 | x::qs,h=>by
  rw[List.map_cons];unfold Oz fnd;rw[he]
  by_cases e:x=q
  ·rw[decide_eq_true e,if_pos rfl,if_pos e]
  ·rw[decide_eq_false e,if_neg (by decide),if_neg e,A2h ((List.mem_cons.mp h).resolve_left fun z=>e z.symm)];rfl
theorem Ao7 {q:α}:∀{qs:List α},q∉qs->Oz (key q) (qs.map key)=none
 | [],_=>rfl
 | x::qs,h=>by
  have e:x≠q:=fun z=>h (z▸List.mem_cons_self)
  rw[List.map_cons];unfold Oz
  rw[he,decide_eq_false e,if_neg (by decide),Ao7 fun z=>h (List.mem_cons_of_mem _ z)];rfl
theorem A5f     (c:qs.Nodup) (d:q∉qs->g q=[]) :
 Bs8 ((Qt (qs.map key) (qs.map fun a=>DE.l (g a)) (key q)).2.1[(Qt (qs.map key) (qs.map fun a=>DE.l (g a)) (key q)).2.2]?)=some (g q) /\
 (Qt (qs.map key) (qs.map fun a=>DE.l (g a)) (key q)).1=(ins qs q).map key /\
 (Qt (qs.map key) (qs.map fun a=>DE.l (g a)) (key q)).2.1.set (Qt (qs.map key) (qs.map fun a=>DE.l (g a)) (key q)).2.2 (.l (g q++[x]))=(ins qs q).map fun a=>DE.l (upF g q (g q++[x]) a):=by
 have b:(fun a=>DE.l (upF g q (g q++[x]) a))=upF _ q _:=funext fun a=>by unfold upF;split <;> rfl
 unfold Qt
 by_cases h:q∈qs
 ·simp only[A2h he h]
  refine⟨?_,by rw[Sw h],by rw[Sw h,b,Yg c h]⟩
  rw[List.getElem?_map,Al1 h];rfl
 ·simp only[Ao7 he h]
  refine⟨?_,by rw[Om h,List.map_append];rfl,?_⟩
  ·rw[List.getElem?_append_right (by simp),List.length_map,List.length_map,Nat.sub_self,d h];rfl
  ·rw[Om h,b,List.map_append,Uz h,List.map_cons,A4f,List.set_append_right _ _ (by simp),List.length_map,List.length_map,Nat.sub_self];rfl
end
theorem Vy {d:Nat}{g:PV->Ev->R Unit}{F:BF}{P:Nat->Ev->List PyData->List DE->Prop}:∀{items:List PyData}{n:Nat}{c:Ev}{ks:List PyData}{es:List DE},P n c ks es ->
 (∀k x c ks es,items[k]?=some x->P (n+k) c ks es->∃c1 c' ks' es',g (.o (.im x)) c=.ok () c1/\Ff d c1=true/\F c1 ks es=.nx c' ks' es'/\P (n+k+1) c' ks' es')->∃c' ks' es',Uq (d:=d) g F items c ks es=.nx c' ks' es'/\P (n+items.length) c' ks' es'
 | [],n,c,ks,es,h0,_=>⟨c,ks,es,rfl,h0⟩
 | x::xs,n,c,ks,es,h0,hs=>by
  obtain⟨c1,c2,ks2,es2,e1,e2,e3,h1⟩:=hs 0 x c ks es rfl h0
  obtain⟨c3,ks3,es3,e4,h2⟩:=Vy (d:=d) (g:=g) (F:=F) (P:=P) (items:=xs) (n:=n+1) h1 (fun k d c ks es hk hp=>by
   have:=hs (k+1) d c ks es (by simpa using hk) (by rw[show n+(k+1)=n+1+k by omega];exact hp)
   rw[show n+(k+1)+1=n+1+k+1 by omega]at this
   exact this)
  refine⟨c3,ks3,es3,?_,by rw[List.length_cons,show n+(xs.length+1)=n+1+xs.length by omega];exact h2⟩
  show (g (.o (.im x)) c).toB _=_
  rw[e1]
  show (if Ff d c1=true then _ else _)=_
  rw[if_pos e2,e3];exact e4
theorem A8c        (h1:fi c=.ok ds c1) (h2:Ff d c1=true):A6h (d:=d) fi g F c ks es=Uq (d:=d) g F ds c1 ks es:=by
 unfold A6h;rw[h1]
 show (if Ff d _=true then _ else _)=_
 grind
theorem Av1       (h1:Ff d (c.set d none)=true) (h2:F (c.set d none) [] []=.nx c' ks es):Va d F g c=g (c'.set d (some (.ty (.ds ks (es.map DE.dat))))):=by
 unfold Va
 grind
theorem An7:∀vs:List Vl,Gj (vs.map Vl.d)=true
 | []=>rfl
 | v::vs=>by
  rw[List.map_cons,Gj,An7 vs]
  cases v <;> rfl
theorem A1e:∀vs:List Vl,PyData.depthAll (vs.map Vl.d)=0
 | []=>rfl
 | v::vs=>by
  show max v.d.depth (PyData.depthAll (vs.map Vl.d))=0
  rw[A1e vs]
  cases v <;> rfl
theorem Bj2  (h:VBs vs):PyData.canLayAll0 (vs.map Vl.d)=true:=Yh fun d a=>by
 obtain⟨v,b,rfl⟩:=List.mem_map.mp a;exact(Lx (h v b)).lay
theorem Ba4  (h:VBs vs):T8 (tD vs)=true:=by
 show (Gj _&&PyData.canLayAll0 _&&decide _)=true
 rw[An7,Bj2 h,A1e];rfl
theorem Vs {α:Type}{key g:α->PyData}:∀{qs:List α},Hk (qs.map key) (qs.map g)=qs.map fun a=>.tuple [key a,g a]
 | []=>rfl
 | x::qs=>by rw[List.map_cons,List.map_cons,Hk,Vs];rfl
def sqD (b:Bool)(l:List PyData):PyData:=if b then .tuple l else .list l
theorem R.toB_ok  {a:b}  {k:b->Ev->BR}:(U.R.ok a c).toB k=k a c:=rfl
section
variable {α:Type}[DecidableEq α]{key:α->PyData}(he:∀a b,PyData.eqv (key a) (key b)=decide (a=b)){d:Nat}{c:Ev}{qs:List α}{q:α}
include he
theorem A0x    (h1:fk c=.ok (.o (.im (key q))) c) (h2:fv c=.ok (.o (.im x)) c) (e:qs.Nodup) (hk:T8 (key q)=true) (hl:qs.length<=1000) (hg:(g q).length<=1000) (b:q∉qs->g q=[]) (hn:Ff d c=true) :
 A4t (d:=d) fk fv c (qs.map key) (qs.map fun a=>.l (g a))=.nx c ((ins qs q).map key) ((ins qs q).map fun a=>.l (upF g q (g q++[x]) a)):=by
 obtain⟨h,i,f⟩:=A5f (x:=x) he e b;unfold A4t;simp only[h1,R.toB_ok,nrm,Ep,rdP,Option.bind_some,O.dat];simp only[h2,R.toB_ok,frz]
 grind
end
theorem Ai8  [DecidableEq a] {l:List a}  (h:l.length<=n):(fs (l.take k)).length<=n:=Nat.le_trans (Ae0 _) (Nat.le_trans (by grind) h)
structure Nw where
 key:List Str
 b:PyData
 c:PyData
 h:PyData
 rows:List (List Vl×PyData)
def nrD (r:List Vl×PyData):PyData:=.tuple [tD r.1,r.2]
def Nw.d (w:Nw):PyData:=.tuple [nD w.key,w.b,w.c,w.h,.tuple (w.rows.map nrD)]
structure Nw.Ok (w:Nw):Prop where
 klen:w.key.length<=12
 rlen:w.rows.length<=144
 rows:∀r∈w.rows,VBs r.1/\r.1.length<=4
def pre (rows:List (List Vl×PyData))(k:Nat):List (List Vl):=rows.map fun r=>r.1.take k
def rK (k:Nat)(rows:List (List Vl×PyData))(q:List Vl):List PyData:=rows.filterMap fun r=>if r.1.take k=q then some (.tuple [tD (r.1.drop k),r.2]) else none
def Nw.one (w:Nw)(k:Nat)(q:List Vl):PyData:=.tuple [tD q,.tuple [nD (w.key.drop k),w.b,w.c,w.h,.tuple (rK k w.rows q)]]
def Nw.out (w:Nw)(k:Nat):PyData:=.tuple ((fs (pre w.rows k)).map (w.one k))
theorem Aa5 {ds:List PyData}{a:Nat}:cutD ds (some (a:Int)) none=ds.drop a:=by
 unfold cutD;rw[HT.Ab3,HT.Sd]
 rcases Nat.le_total a ds.length with q | q
 ·rw[Nat.min_eq_left q,List.take_of_length_le (by rw[List.length_drop];exact Nat.le_refl _)]
 ·rw[Nat.min_eq_right q,Nat.sub_self,List.take_zero,List.drop_eq_nil_of_le q]
theorem Bo7 {r:List Vl}{k:Nat}:Ek (tD r) none (some (k:Int))=some (.im (tD (r.take k))):=by
 show some (O.im (.tuple (cutD (r.map Vl.d) none (some (k:Int)))))=_
 rw[Af2,<- List.map_take];rfl
theorem A7u {r:List Vl}{k:Nat}:Ek (tD r) (some (k:Int)) none=some (.im (tD (r.drop k))):=by
 show some (O.im (.tuple (cutD (r.map Vl.d) (some (k:Int)) none)))=_
 rw[Aa5,<- List.map_drop];rfl
theorem Az0 {ns:List Str}{k:Nat}:Ek (nD ns) (some (k:Int)) none=some (.im (nD (ns.drop k))):=by
 show some (O.im (.tuple (cutD (ns.map PyData.str) (some (k:Int)) none)))=_
 rw[Aa5,<- List.map_drop];rfl
theorem Al2 {r:List Vl}{k:Nat}(h:VBs r):VBs (r.take k):=fun v hv=>h v (List.mem_of_mem_take hv)
theorem A7e {r:List Vl}{k:Nat}(h:VBs r):VBs (r.drop k):=fun v hv=>h v (List.mem_of_mem_drop hv)
theorem A8e {rows:List (List Vl×PyData)}{k j:Nat}{r:List Vl×PyData}(h:rows[j]?=some r):(pre rows k)[j]?=some (r.1.take k):=by
 unfold pre;rw[List.getElem?_map,h];rfl
theorem Sv {rows:List (List Vl×PyData)}{k:Nat}:(pre rows k).length=rows.length:=by unfold pre;rw[List.length_map]
theorem Bi0 {w:Nw}(h:w.Ok){k:Nat}{q:List Vl}(hq:q∈pre w.rows k):VBs q:=by
 obtain⟨r,hr,rfl⟩:=List.mem_map.mp hq;exact Al2 (h.rows r hr).1
theorem A7j {k j:Nat}{rows:List (List Vl×PyData)}{r:List Vl×PyData}(h:rows[j]?=some r):rK k (rows.take (j+1))=upF (rK k (rows.take j)) (r.1.take k) (rK k (rows.take j) (r.1.take k)++[.tuple [tD (r.1.drop k),r.2]]):=funext fun q=>by
 have e:rK k (rows.take (j+1)) q=rK k (rows.take j) q++if r.1.take k=q then [.tuple [tD (r.1.drop k),r.2]] else []:=by
  unfold rK;rw[List.take_succ,h,List.filterMap_append]
  congr 1
  by_cases z:r.1.take k=q
  ·rw[if_pos z];simp[z]
  ·rw[if_neg z];simp[z]
 rw[e]
 by_cases z:q=r.1.take k
 ·subst z;rw[if_pos rfl,A4f]
 ·rw[if_neg fun y=>z y.symm,List.append_nil,Aj6 z]
theorem Bc7 {k j:Nat}{rows:List (List Vl×PyData)}{q:List Vl}(h:q∉fs ((pre rows k).take j)):rK k (rows.take j) q=[]:=by
 unfold rK;rw[List.filterMap_eq_nil_iff];intro r hr;rw[if_neg];intro e
 refine h (yO.mpr ?_)
 unfold pre;rw[<- List.map_take];exact List.mem_map.mpr ⟨r,hr,e⟩
theorem Be2 {k j:Nat}{rows:List (List Vl×PyData)}{q:List Vl}:(rK k (rows.take j) q).length<=rows.length:=by
 unfold rK
 exact Nat.le_trans (List.length_filterMap_le _ _) (by rw[List.length_take];exact Nat.min_le_right _ _)
theorem Ar1 {w:Nw}(h:w.Ok){k:Nat}:Hx [.im w.d,.im (.int (k:Nat))]=.ret (.im (w.out k)) [.im w.d,.im (.int (k:Nat))]:=by
 have rl:=h.rlen
 obtain⟨c',ks',es',e1,u3,u4,rfl,rfl,rfl⟩:=Vy (d:=2) (g:=cgT 2 (Bf (cgN 3) (Bf (cgN 4) Eg))) (F:=Q7) (items:=w.rows.map nrD) (n:=0) (ks:=[]) (es:=[]) (c:=[some (.im w.d),some (.im (.int (k:Nat))),none,none,none,none])
  (P:=fun j c K' E'=>∃u3 u4,c=[some (.im w.d),some (.im (.int (k:Nat))),none,u3,u4,none]/\K'=(fs ((pre w.rows k).take j)).map tD/\E'=(fs ((pre w.rows k).take j)).map fun q=>DE.l (rK k (w.rows.take j) q)) ⟨none,none,rfl,rfl,rfl⟩
  (fun j x c K' E' hx hP=>by
   rw[Nat.zero_add]at hP ⊢;obtain⟨u3,u4,rfl,rfl,rfl⟩:=hP;obtain⟨r,hr,rfl⟩:=Ij hx;have vr:=(h.rows r (List.mem_of_getElem? hr)).1
   refine⟨[some (.im w.d),some (.im (.int (k:Nat))),none,some (.im (tD r.1)),some (.im r.2),none],[some (.im w.d),some (.im (.int (k:Nat))),none,some (.im (tD r.1)),some (.im r.2),none],_,_,(by wp_walk using nrD),rfl,?_,_,_,rfl,rfl,rfl⟩
   show A4t (d:=2) (cSl Ek (Ac 3) cON (cOS (Ac 1))) (Fp (Ae (cSl Ek (Ac 3) (cOS (Ac 1)) cON) (Ae (Ac 4) Ar))) _ _ _=_
   rw[A0x (x:=.tuple [tD (r.1.drop k),r.2]) (q:=r.1.take k) A9c (by wp_walk using Bo7) (by wp_walk using A7u) (A9q _) (Ba4 (Al2 vr)) (Ai8 (by rw[Sv];omega)) (Nat.le_trans Be2 (by omega)) (fun z=>Bc7 z) rfl]
   rw[<- A8i (A8e hr),<- A7j hr])
 rw[List.length_map,Nat.zero_add,List.take_length,<- Sv (rows:=w.rows) (k:=k),List.take_length]at e1
 have e2:=fun g=>Av1 (d:=2) (g:=g) (c:=[some (.im w.d),some (.im (.int (k:Nat))),none,none,none,none]) rfl ((A8c (fi:=Cv (cOp Ay (Ac 0) (cC (.int 4)))) (c1:=[some (.im w.d),some (.im (.int (k:Nat))),none,none,none,none]) (by wp_walk using Cv,Ay,Nw.d,Vb) rfl).trans e1)
 rw[List.map_map]at e2
 have e3:(DE.dat ∘ fun q=>DE.l (rK k w.rows q))=fun q=>PyData.list (rK k w.rows q):=rfl
 rw[e3]at e2
 have hfl:(fs (pre w.rows k)).length<=144:=Nat.le_trans (Ae0 _) (by rw[Sv];exact rl)
 have s1:=Az0 (ns:=w.key) (k:=k);have s2:Ek w.d (some 1) (some 4)=some (.im (.tuple [w.b,w.c,w.h])):=rfl;have s3:Ba (.tuple [nD (w.key.drop k)]) (.tuple [w.b,w.c,w.h])=some (.im (.tuple [nD (w.key.drop k),w.b,w.c,w.h])):=rfl;have s0:Ay w.d (.int 0)=some (.im (nD w.key)):=rfl
 generalize hT:PyData.tuple [nD (w.key.drop k),w.b,w.c,w.h]=T at *
 obtain⟨cI,e,u,v,rfl⟩:=Kr (g:=cgT 2 (Bf (cgN 0) (Bf (cgN 1) Eg))) (ft:=By) (fe:=Fp (Ae (Ac 0) (Ae (cOp Ba (Ac 2) (Fp (Ae (cUn Bm (Ac 1)) Ar))) Ar))) (I:=fun c=>∃u v,c=[u,v,some (.im T)]) (f:=fun q=>PyData.tuple [tD q,.list (rK k w.rows q)]) (G:=w.one k) (xs:=fs (pre w.rows k)) (acc:=[]) (c:=[none,none,some (.im T)]) ⟨none,none,rfl⟩
  (fun q c hq hI=>by
   obtain⟨u,v,rfl⟩:=hI
   refine⟨[some (.im (tD q)),some (.im (.list (rK k w.rows q))),some (.im T)],?_,_,_,rfl⟩
   have s4:Ba T (.tuple [.tuple (rK k w.rows q)])=some (.im (.tuple [nD (w.key.drop k),w.b,w.c,w.h,.tuple (rK k w.rows q)])):=by rw[<- hT];rfl
   wp_walk using Bm,s4,Nw.one)
 rw[List.nil_append]at e
 have e4:∀u3 u4:Option O,cLC [none,none,some 5] (Rw (Ac 2)) (cgT 2 (Bf (cgN 0) (Bf (cgN 1) Eg))) By (Fp (Ae (Ac 0) (Ae (cOp Ba (Ac 2) (Fp (Ae (cUn Bm (Ac 1)) Ar))) Ar))) [some (.im w.d),some (.im (.int (k:Nat))),some (.ty (.ds ((fs (pre w.rows k)).map tD) ((fs (pre w.rows k)).map fun q=>PyData.list (rK k w.rows q)))),u3,u4,some (.im T)]=.ok (.o (.ls false ((fs (pre w.rows k)).map (w.one k)))) [some (.im w.d),some (.im (.int (k:Nat))),some (.ty (.ds ((fs (pre w.rows k)).map tD) ((fs (pre w.rows k)).map fun q=>PyData.list (rK k w.rows q)))),u3,u4,some (.im T)]:=fun u3 u4 =>
  Jk (ds:=(fs (pre w.rows k)).map fun q=>PyData.tuple [tD q,.list (rK k w.rows q)]) (c1:=[some (.im w.d),some (.im (.int (k:Nat))),some (.ty (.ds ((fs (pre w.rows k)).map tD) ((fs (pre w.rows k)).map fun q=>PyData.list (rK k w.rows q)))),u3,u4,some (.im T)]) (by wp_walk using Rw,List.length_map,Vs) (by rw[List.length_map];omega) e rfl
 wp_walk using Hx,Wz,e2,s0,s1,s2,s3,e4,Bm,Nw.out
mutual
def sm:PyData->Bool
 | .str x=>decide (x.length<=100)&&x.cps.toList.all (fun c=>decide (c<128))
 | .list ds=>decide (ds.length<=900)&&Wt ds
 | .tuple ds=>decide (ds.length<=900)&&Wt ds
 | _=>true
def Wt:List PyData->Bool
 | []=>true
 | d::r=>sm d&&Wt r
end
theorem Wi:∀{ds:List PyData},Wt ds=true↔∀d∈ds,sm d=true
 | []=>⟨fun _ d h=>(nomatch h),fun _=>rfl⟩
 | d::r=>by
  show (sm d&&Wt r)=true↔_
  rw[Bool.and_eq_true_iff,Wi]
  exact⟨fun h e he=>by rcases List.mem_cons.mp he with rfl | he;exact h.1;exact h.2 e he,fun h=>⟨h d (.head _),fun e he=>h e (.tail _ he)⟩⟩
theorem sm_tup {ds:List PyData}:sm (.tuple ds)=true↔ds.length<=900/\∀d∈ds,sm d=true:=by
 show (decide (ds.length<=900)&&Wt ds)=true↔_
 rw[Bool.and_eq_true_iff,Wi,decide_eq_true_eq]
theorem Bd2 {x:Str}(h:sm (.str x)=true):x.length<=100/\∀c∈x.cps.toList,c<128:=by
 obtain⟨h1,h2⟩:=Bool.and_eq_true_iff.mp (show (decide (x.length<=100)&&x.cps.toList.all (fun c=>decide (c<128)))=true from h)
 exact⟨of_decide_eq_true h1,fun c hc=>of_decide_eq_true (List.all_eq_true.mp h2 c hc)⟩
theorem Rc {α:Type}(F:α->Bool):∀xs:List α,boolsOf (xs.map fun x=>PyData.bool (F x))=some (xs.map F)
 | []=>rfl
 | x::xs=>by show (boolsOf (xs.map fun x=>PyData.bool (F x))).map (F x::·)=_;rw[Rc F xs];rfl
theorem Bg9 {a:Type}(f:a->Bool)(xs:List a):(xs.map f).all id=xs.all f:=by simp_all
theorem Jr {a:Type}(F:a->Bool)(xs:List a):Qz (.list (xs.map fun x=>PyData.bool (F x)))=some (.im (.bool (xs.all F))):=by
 show (boolsOf _).map _=_
 rw[Rc F,Option.map_some,Bg9]
theorem A2l {fe:Ev->R PV}{x:Str}{F:Nat->Bool}{c:Ev}{i:Nat}(hx:c[i]?=some (some (.im (.str x))))(hl:x.length<=100)
 (hs:∀n∈x.cps.toList,∀t:Option O,M4 (cgN 0) By fe (.str ⟨#[n]⟩) [t]=.ok (some (.bool (F n))) [some (.im (.str ⟨#[n]⟩))]) :
 cLC [none] (Al0 (Ac i)) (cgN 0) By fe c=.ok (.o (.ls false (x.cps.toList.map fun n=>PyData.bool (F n)))) c:=by
 obtain⟨b,e,d⟩:=Kr (g:=cgN 0) (ft:=By) (fe:=fe) (I:=fun c=>∃t,c=[t]) (f:=fun n=>PyData.str ⟨#[n]⟩) (G:=fun n=>PyData.bool (F n)) (xs:=x.cps.toList)   ⟨none,rfl⟩
  fun n c h a=>by grind
 refine Jk (ds:=At7 x) (c1:=c) ?_ ?_ (by assumption) ?_
 ·unfold Al0 Ac
  simp only[hx,R.bind_ok,nrm,Ep,rdP,Option.bind_some,O.dat]
 ·unfold At7;rw[List.length_map];exact Nat.le_trans hl (by decide)
 rfl
theorem Bg5 {fe:Ev->R PV}{ds:List PyData}{F:PyData->Bool}{c:Ev}{i:Nat}(hx:c[i]?=some (some (.im (.tuple ds))))(hl:ds.length<=16000000)
 (hs:∀d∈ds,∀t:Option O,M4 (cgN 0) By fe d [t]=.ok (some (.bool (F d))) [some (.im d)]) :
 cLC [none] (Cv (Ac i)) (cgN 0) By fe c=.ok (.o (.ls false (ds.map fun d=>PyData.bool (F d)))) c:=by
 obtain⟨cI,e,hI⟩:=Wj (g:=cgN 0) (ft:=By) (fe:=fe) (I:=fun c=>∃t,c=[t]) (F:=fun d=>PyData.bool (F d)) (items:=ds) (acc:=[]) (c:=[none]) ⟨none,rfl⟩
  (fun n c hn hc=>by obtain⟨t,rfl⟩:=hc;exact⟨_,hs n hn t,_,rfl⟩)
 obtain⟨t,rfl⟩:=hI
 refine Jk (ds:=ds) (c1:=c) ?_ hl (by simpa[cIn] using e) ?_
 ·unfold Cv Ac
  simp only[hx,R.bind_ok,nrm,frz]
 ·rfl
def A5g (c:Nat):Bool:=decide (97<=c)&&decide (c<=122)
def lettersS:Str:=Str.ofString "abcdefghijklmnopqrstuvwxyz"
theorem A8a:∀c,c<128->(!(Builtin.Str.occurrences lettersS ⟨#[c]⟩ 0 lettersS.length 1).isEmpty)=A5g c:=by decide +kernel
theorem A1x {c:Nat}(h:c<128):Ol false (.str ⟨#[c]⟩) (.str "abcdefghijklmnopqrstuvwxyz")=some (.im (.bool (A5g c))):=by
 show some (O.im (.bool (!(Builtin.Str.occurrences lettersS _ 0 lettersS.length 1).isEmpty)))=_
 rw[A8a c h]
def Dn:PyData->Bool
 | .str x=>decide (0<x.length)&&(decide (x.length<9)&&x.cps.toList.all A5g)
 | _=>false
theorem A5k {d:PyData}(hs:sm d=true):Dc [.im d]=.ret (.im (.bool (Dn d))) [.im d]:=by
 cases d with
 | str x =>
  obtain⟨hl,hc⟩:=Bd2 hs
  have e:=A2l (fe:=cOp (Ol false) (Ac 0) (cC (.str "abcdefghijklmnopqrstuvwxyz"))) (x:=x) (F:=A5g) (c:=[some (.im (.str x))]) (i:=0) rfl hl (fun n hn t=>by
   wp_walk using A1x (hc n hn))
  by_cases h0:x=Str.ofString ""
  ·subst h0
   wp_walk using Dc,Ec,Cr,Fy,O8,Dn
   rfl
  ·have hp:0<x.length:=by
    rcases Nat.eq_zero_or_pos x.length with h | h
    ·exfalso;apply h0
     obtain⟨cps⟩:=x;have:cps=#[]:=Array.eq_empty_of_size_eq_zero h;subst this;rfl
    ·exact h
   by_cases h8:x.length<9
   ·wp_walk using Dc,Ec,Cr,Fy,O8,Dn,decide_eq_false h0,Fi,show x.length<=16000000 by omega,decide_eq_false (show ¬ (8:Int)<(x.length:Int) by omega),e,Jr,decide_eq_true hp,decide_eq_true h8
   ·wp_walk using Dc,Ec,Cr,Fy,O8,Dn,decide_eq_false h0,Fi,show x.length<=16000000 by omega,decide_eq_true (show (8:Int)<(x.length:Int) by omega),decide_eq_true hp,decide_eq_false h8
 | none=>wp_walk using Dc,Ec,Cr,Fy,Dn
 | int i=>wp_walk using Dc,Ec,Cr,Fy,Dn
 | bool b=>wp_walk using Dc,Ec,Cr,Fy,Dn
 | tuple ds=>wp_walk using Dc,Ec,Cr,Fy,Dn
 | list ds=>wp_walk using Dc,Ec,Cr,Fy,Dn
 | dict kv=>wp_walk using Dc,Ec,Cr,Fy,Dn
theorem Il   : Dh neg (.int a) (.int b)=some (.im (.bool (if neg then !decide (a=b) else decide (a=b)))):=by
 have e:PyData.eqv (.int a) (.int b)=decide (a=b):=by
  show (a==b)=_
  grind
 unfold Dh
 rw[show Dr _=true from rfl,show Dr _=true from rfl,e]
 simp
theorem Y6 {α:Type}[DecidableEq α](x:α):∀(n:Nat) (xs:List α),xs.length=n->(x∈dst xs↔x∈xs)
 | 0,xs,h=>by cases xs with | nil=>exact Iff.rfl | cons a r=>cases h
 | n+1,xs,h=>by
  rcases List.eq_nil_or_concat xs with rfl | ⟨ys,y,rfl⟩
  ·cases h
  ·rw[List.concat_eq_append]at h ⊢
   have hy:ys.length=n:=by simpa using h
   have ih:=Y6 x n ys hy;rw[O6];unfold Tp
   split
   ·rename_i hm
    rw[ih,List.mem_append,List.mem_singleton]
    refine⟨.inl,fun q=>?_⟩
    rcases q with q | rfl
    ·exact q
    ·exact ih.mp (memB_iff.mp hm)
   ·rw[List.mem_append,List.mem_append,ih]
theorem Vw {α:Type}[DecidableEq α]:∀(n:Nat) (xs:List α),xs.length=n->((dst xs).length=xs.length↔xs.Nodup)
 | 0,xs,h=>by cases xs with | nil=>exact⟨fun _=>List.nodup_nil,fun _=>rfl⟩ | cons a r=>cases h
 | n+1,xs,h=>by
  rcases List.eq_nil_or_concat xs with rfl | ⟨ys,y,rfl⟩
  ·cases h
  ·rw[List.concat_eq_append]at h ⊢
   have hy:ys.length=n:=by simpa using h
   have ih:=Vw n ys hy;have le:=Mh n ys hy
   have hnd:(ys++[y]).Nodup↔ys.Nodup/\y∉ys:=by
    rw[List.nodup_append]
    constructor
    ·intro ⟨a,_,c⟩;exact⟨a,fun q=>c y q y (List.mem_singleton.mpr rfl) rfl⟩
    ·intro ⟨a,b⟩;exact⟨a,by simp,fun u hu v hv e=>by rw[List.mem_singleton.mp hv]at e;exact b (e▸hu)⟩
   rw[O6,hnd];unfold Tp
   split
   ·rename_i hm
    have:y∈ys:=(Y6 y n ys hy).mp (memB_iff.mp hm);rw[List.length_append,List.length_singleton]
    constructor
    ·intro q;omega
    ·intro q;exact absurd this q.2
   ·rename_i hm
    have:y∉ys:=fun q=>hm (memB_iff.mpr ((Y6 y n ys hy).mpr q))
    rw[List.length_append,List.length_append,List.length_singleton]
    constructor
    ·intro q;exact⟨ih.mp (by omega),this⟩
    ·intro q;have:=ih.mpr q.1;omega
theorem dst_inr {ss:List Str}:(dst (ss.map fun x=>(Sum.inr x:Key))).length=ss.length↔ss.Nodup:=by
 have h:=Vw _ (ss.map fun x=>(Sum.inr x:Key)) rfl
 grind
theorem Ac5:∀{ds:List PyData},ds.all Dn=true->∃ss,ds=ss.map PyData.str/\strsOf ds=some ss
 | [],_=>⟨[],rfl,rfl⟩
 | d::ds,h=>by
  obtain⟨h1,h2⟩:=Bool.and_eq_true_iff.mp (show (Dn d&&ds.all Dn)=true from h)
  obtain⟨ss,e1,e2⟩:=Ac5 h2
  cases d with
  | str x=>exact⟨x::ss,by rw[e1];rfl,by show (strsOf ds).map (x::·)=_;rw[e2];rfl⟩
  | _=>cases h1
theorem Tw:∀ss:List Str,strsOf (ss.map PyData.str)=some ss
 | []=>rfl
 | x::ss=>by show (strsOf (ss.map PyData.str)).map (x::·)=_;rw[Tw ss];rfl
def Kw:PyData->Bool
 | .tuple ds=>decide (0<ds.length)&&(ds.all Dn&&(match strsOf ds with | some ss=>decide ss.Nodup | none=>false))
 | _=>false
theorem Ae4 {d:PyData}(hs:sm d=true):Bj [.im d]=.ret (.im (.bool (Kw d))) [.im d]:=by
 cases d with
 | tuple ds =>
  obtain⟨hl,hd⟩:=sm_tup.mp hs
  have e:=Bg5 (fe:=cF Dc (Ae (Ac 0) Ar)) (ds:=ds) (F:=Dn) (c:=[some (.im (.tuple ds))]) (i:=0) rfl (Nat.le_trans hl (by decide)) (fun d h t=>by
   wp_walk using A5k (hd d h))
  by_cases h:0<ds.length
  ·have e0:=decide_eq_false (show ¬ (ds.length:Int)=0 by omega)
   cases ha:ds.all Dn with
   | false=>wp_walk using Bj,Ca,Cr,Fy,Fi,Il,e0,e,Jr,ha,Kw,decide_eq_true h
   | true =>
    obtain⟨ss,e1,e2⟩:=Ac5 ha
    have l1:ds.length=ss.length:=by rw[e1,List.length_map]
    have eS:O5 (.tuple ds)=some (.im (.int ((dst (ss.map fun x=>(Sum.inr x:Key))).length:Nat))):=by
     show ((strsOf ds).bind _)=_
     rw[e2,Option.bind_some,if_pos (by omega)]
    by_cases nd:ss.Nodup
    ·have ed:=decide_eq_true (show (((dst (ss.map fun x=>(Sum.inr x:Key))).length:Nat):Int)=(ds.length:Int) by rw[dst_inr.mpr nd,l1])
     wp_walk using Bj,Ca,Cr,Fy,Fi,Il,e0,e,Jr,ha,Kw,decide_eq_true h,eS,ed,e2,decide_eq_true nd
    ·have ed:=decide_eq_false (show ¬ (((dst (ss.map fun x=>(Sum.inr x:Key))).length:Nat):Int)=(ds.length:Int) by rw[l1];exact fun q=>nd (dst_inr.mp (by omega)))
     wp_walk using Bj,Ca,Cr,Fy,Fi,Il,e0,e,Jr,ha,Kw,decide_eq_true h,eS,ed,e2,decide_eq_false nd
  ·have e0:=decide_eq_true (show (ds.length:Int)=0 by omega)
   wp_walk using Bj,Ca,Cr,Fy,Fi,Il,e0,Kw,decide_eq_false h
 | none=>wp_walk using Bj,Ca,Cr,Fy,Kw
 | int i=>wp_walk using Bj,Ca,Cr,Fy,Kw
 | bool b=>wp_walk using Bj,Ca,Cr,Fy,Kw
 | str x=>wp_walk using Bj,Ca,Cr,Fy,Kw
 | list ds=>wp_walk using Bj,Ca,Cr,Fy,Kw
 | dict kv=>wp_walk using Bj,Ca,Cr,Fy,Kw
theorem At5 {x:Str}(h:x∈names12):Good (.str x) 0 1921:=by
 have:VB (.str x):=by
  simp only[names12,List.mem_cons,List.not_mem_nil,or_false]at h
  rcases h with rfl | rfl | rfl | rfl | rfl | rfl | rfl | rfl | rfl | rfl | rfl | rfl <;> decide
 exact Lx this
theorem Sq {ns:List Str}{k:Nat}(h:∀x∈ns,x∈names12)(hk:ns.length<=k):Good (nD ns) 1 (1923*k+4) :=
 Good.tup (fun d a=>by obtain⟨v,b,rfl⟩:=List.mem_map.mp a;exact At5 (h v b)) (by simp_all)
theorem Aj0 {c:Option (List Vl)}{v:Nat}(h:Y4 v c)(hv:v<=5):Good (Jb c) 1 9619:=by
 cases c with
 | none=>exact⟨rfl,rfl,rfl,Nat.zero_le _,by decide⟩
 | some a=>exact(Ly (h _ rfl).2 (show a.length<=5 by rw[(h _ rfl).1];grind)).mono (Nat.le_refl _) (by decide)
structure GL (ds:List PyData) (n w:Nat):Prop where
 lay:PyData.canLayAll0 ds=true
 g:Good (.tuple ds) (n+1) (w+4)
theorem GL.nil {n:Nat}:GL [] n 0:=⟨rfl,⟨rfl,rfl,rfl,by show 0+1<=n+1;omega,by decide⟩⟩
theorem GL.cons {d:PyData}{ds:List PyData}{n w w':Nat}(h:Good d n w)(hs:GL ds n w'):GL (d::ds) n (w+2+w'):=by
 obtain⟨l,g⟩:=hs
 have l2:PyData.canLayAll0 (d::ds)=true:=by show (d.canLay0&&PyData.canLayAll0 ds)=true;rw[h.lay,l];rfl
 refine⟨l2,⟨l2,?_,?_,?_,?_⟩⟩
 ·have a:=h.shw
  have b:PyData.showableAll ds=true:=g.shw
  show (d.showable&&PyData.showableAll ds)=true
  rw[a,b];rfl
 ·have a:=h.dct
  have b:PyData.hasDictAll ds=false:=g.dct
  show (d.hasDict||PyData.hasDictAll ds)=false
  rw[a,b];rfl
 ·have a:=h.dep
  have b:PyData.depthAll ds+1<=n+1:=g.dep
  show max d.depth (PyData.depthAll ds)+1<=n+1
  omega
 ·have a:=h.wgt
  have b:Ih ds+4<=w'+4:=g.wgt
  show wt d+2+Ih ds+4<=w+2+w'+4
  omega
structure Nw.Gd (w:Nw) (W:Nat):Prop where
 ok:w.Ok
 nms:∀x∈w.key,x∈names12
 klen:w.key.length<=4
 gb:Good w.b 2 50000/\noL w.b=true
 gc:Good w.c 2 50000/\noL w.c=true
 gh:Good w.h 2 50000/\noL w.h=true
 rows:∀r∈w.rows,Good r.2 2 W/\noL r.2=true
 big:(W+7712)*w.rows.length<=3000000
theorem Xc {W:Nat}{p:List Vl}{d:PyData}(hp:VBs p)(hl:p.length<=4)(hd:Good d 2 W):Good (.tuple [tD p,d]) 3 (W+7704):=by
 have a:=(Ly hp hl).mono (show 1<=2 by decide) (Nat.le_refl (1923*4+4))
 exact((GL.cons a (GL.cons hd GL.nil)).g).mono (Nat.le_refl _) (by omega)
theorem Au4 {W R:Nat}{ds:List PyData}(h:∀d∈ds,Good d 3 (W+7704))(hl:ds.length<=R)(hb:(W+7712)*R<=3000000):Good (.tuple ds) 4 3000004:=by
 refine (Good.tup h hl).mono (Nat.le_refl _) (Nat.add_le_add_right (Nat.le_trans (Nat.mul_le_mul_right _ ?_) hb) 4)
 omega
theorem Nw.Gd.five {w:Nw}{W k:Nat}{ds:List PyData}(h:w.Gd W)(hd:∀d∈ds,Good d 3 (W+7704))(hl:ds.length<=w.rows.length):Good (.tuple [nD (w.key.drop k),w.b,w.c,w.h,.tuple ds]) 5 3200000:=by
 have a1:=(Sq (k:=4) (fun x hx=>h.nms x (List.mem_of_mem_drop hx)) (by rw[List.length_drop];have:=h.klen;omega):Good (nD (w.key.drop k)) _ _).mono (show 1<=4 by decide) (show 1923*4+4<=10000 by decide)
 have a2:=h.gb.1.mono (show 2<=4 by decide) (Nat.le_refl _)
 have a3:=h.gc.1.mono (show 2<=4 by decide) (Nat.le_refl _)
 have a4:=h.gh.1.mono (show 2<=4 by decide) (Nat.le_refl _)
 exact((GL.cons a1 (GL.cons a2 (GL.cons a3 (GL.cons a4 (GL.cons (Au4 hd hl h.big) GL.nil))))).g).mono (Nat.le_refl _) (by decide)
theorem A8z {k:Nat}{rows:List (List Vl×PyData)}{q:List Vl}{d:PyData}(h:d∈rK k rows q):∃r∈rows,d=.tuple [tD (r.1.drop k),r.2]:=by
 obtain⟨r,hr,e⟩:=List.mem_filterMap.mp h
 by_cases z:r.1.take k=q
 ·rw[if_pos z]at e;exact⟨r,hr,(Option.some.inj e).symm⟩
 ·rw[if_neg z]at e;cases e
def Wd.nw (w:Wd):Nw:=⟨w.key,nD w.names,nD w.vals,.tuple (w.heads.map tD),w.rows.map fun r=>(r.1,.tuple (r.2.map Jb))⟩
theorem Bt7 (w:Wd):w.nw.d=w.d:=by
 unfold Wd.nw Nw.d Wd.d Wd.ps;rw[List.map_map];rfl
theorem A1j (c:Option (List Vl)):noL (Jb c)=true:=by
 cases c with
 | none=>rfl
 | some vs=>exact Tf _
theorem Al8 {w:Wd}(h:w.Ok):w.nw.Gd 115460 where
 ok:=⟨Nat.le_trans h.klen (by decide),by show (w.rows.map _).length<=_;rw[List.length_map];exact Nat.le_trans h.rlen (by decide),fun r hr=>by
  obtain⟨s,hs,rfl⟩:=List.mem_map.mp hr
  exact⟨(h.rows s hs).part,by show s.1.length<=4;rw[(h.rows s hs).plen];exact Nat.le_trans h.klen (by decide)⟩⟩
 nms:=fun x hx=>h.nms.sub x (List.mem_append_left _ (List.mem_append_left _ hx))
 klen:=Nat.le_trans h.klen (by decide)
 gb:=⟨(Sq (fun x hx=>h.nms.sub x (List.mem_append_left _ (List.mem_append_right _ hx))) h.nlen).mono (by decide) (by decide),Pk _⟩
 gc:=⟨(Sq (fun x hx=>h.nms.sub x (List.mem_append_right _ hx)) h.vlen).mono (by decide) (by decide),Pk _⟩
 gh:=⟨(Good.tup (n:=1) (w:=3850) (k:=12) (fun d hd=>by obtain⟨c,hc,rfl⟩:=List.mem_map.mp hd;exact Ly (h.heads c hc).2 (show c.length<=2 by rw[(h.heads c hc).1];exact h.nlen)) (by rw[List.length_map];exact h.hlen)).mono (by decide) (by decide),O1 fun d hd=>by obtain⟨c,_,rfl⟩:=List.mem_map.mp hd;exact Tf _⟩
 rows:=fun r hr=>by
  obtain⟨s,hs,rfl⟩:=List.mem_map.mp hr
  exact⟨(Good.tup (n:=1) (w:=9619) (k:=12) (fun d hd=>by obtain⟨c,hc,rfl⟩:=List.mem_map.mp hd;exact Aj0 ((h.rows s hs).cells c hc) h.vlen) (by rw[List.length_map,(h.rows s hs).clen];exact h.hlen)).mono (by decide) (by decide),O1 fun d hd=>by obtain⟨c,_,rfl⟩:=List.mem_map.mp hd;exact A1j c⟩
 big:=by
  have:w.nw.rows.length<=12:=by show (w.rows.map _).length<=_;rw[List.length_map];exact h.rlen
  exact Nat.le_trans (Nat.mul_le_mul_left _ this) (by decide)
def q3:List Str:=[Str.ofString "qa",Str.ofString "qb",Str.ofString "qc"]
def nm15:List Str:=names12++q3
theorem Bl5:nm15.all (fun x=>sm (.str x)&&Dn (.str x)&&decide (VB (.str x)))=true:=by decide +kernel
theorem Ao4 {x:Str}(h:x∈nm15):sm (.str x)=true/\Dn (.str x)=true/\Good (.str x) 0 1921:=by
 have:=List.all_eq_true.mp Bl5 x h;rw[Bool.and_eq_true_iff,Bool.and_eq_true_iff]at this;exact⟨this.1.1,this.1.2,Lx (of_decide_eq_true this.2)⟩
theorem Ad2 {x:Str}(h:x∈names12):x∈nm15:=List.mem_append_left _ h
theorem Ba5 {x:Str}(h:x∈q3):x∈nm15:=List.mem_append_right _ h
theorem Ad7 {ns:List Str}{k:Nat}(h:∀x∈ns,x∈nm15)(hk:ns.length<=k):Good (nD ns) 1 (1923*k+4) :=
 Good.tup (fun d hd=>by obtain⟨v,hv,rfl⟩:=List.mem_map.mp hd;exact(Ao4 (h v hv)).2.2) (by rw[List.length_map];exact hk)
theorem A5u {b:Bool}{ns:List Str}{k:Nat}(h:∀x∈ns,x∈nm15)(hk:ns.length<=k):Good (sqD b (ns.map PyData.str)) 1 (1923*k+4):=by
 cases b
 ·exact Good.lst (fun d hd=>by obtain⟨v,hv,rfl⟩:=List.mem_map.mp hd;exact(Ao4 (h v hv)).2.2) (by rw[List.length_map];exact hk)
 ·exact Ad7 h hk
theorem Mj {l:List Str}{a b:Option Int}:∃l':List Str,cutD (l.map PyData.str) a b=l'.map PyData.str/\(∀x∈l',x∈l)/\l'.length<=l.length :=
 ⟨_,by unfold cutD;rw[<- List.map_drop,<- List.map_take],fun x hx=>List.mem_of_mem_drop (List.mem_of_mem_take hx),by rw[List.length_take,List.length_drop];omega⟩
theorem Us {a b:List Str}(h:a.length+b.length<=1000):Ba (.list (a.map PyData.str)) (.list (b.map PyData.str))=some (.ls false ((a++b).map PyData.str)):=by
 show (if (a.map PyData.str).length+(b.map PyData.str).length<=16000000 then some (O.ls false (a.map PyData.str++b.map PyData.str)) else none)=_
 rw[List.length_map,List.length_map,if_pos (by omega),List.map_append]
theorem add_n {a b:List Str}(h:a.length+b.length<=290):Ba (nD a) (nD b)=some (.im (nD (a++b))):=by
 unfold nD
 have:(a.map PyData.str).length+(b.map PyData.str).length<=16000000:=by grind
 simp only[Ba,if_pos this,List.map_append]
theorem Bh4 {x:Str}{k:Nat}(h:k<=1000):Xy (.list [.str x]) (.int (k:Nat))=some (.ls false ((List.replicate k x).map PyData.str)):=by
 have e:A7z [PyData.str x] k=(List.replicate k x).map PyData.str:=by
  unfold A7z
  induction k with
  | zero=>rfl
  | succ k ih=>rw[List.replicate_succ,List.flatten_cons,ih (by omega),List.replicate_succ];rfl
 show (if _ then _ else _)=_
 rw[if_pos (by simp;omega),Int.toNat_natCast,e]
theorem A8f {ds:List PyData}{r:Int}(h0:0<=r)(h1:r<ds.length):∃d∈ds,atI ds r=some d:=by
 have hr:r.toNat<ds.length:=by omega
 refine⟨ds[r.toNat],List.getElem_mem hr,?_⟩
 have:=Jg (List.getElem?_eq_getElem hr)
 rwa [Int.toNat_of_nonneg h0]at this
theorem Bp5 {w:Wd}(h:w.Ok){k n:Nat}{ds:List PyData}(hk:k<=w.key.length)(hb:Bx n ds)(hn:n<2 ^ 38) :
 ∃(ss:List Str) (d1:List PyData),Bx (n+1) d1/\(∀x∈ss,x∈nm15)/\ss.length<=24/\Fw [.ls true ds,.im w.d,.im (.int (k:Nat))]=.ret (.im (.list (ss.map PyData.str))) [.ls true d1,.im w.d,.im (.int (k:Nat))]:=by
 have l1:=h.klen;have l2:=h.nlen;have l3:=h.vlen;have s0:Ay w.d (.int 0)=some (.im (nD w.key)):=rfl;have s1:Ay w.d (.int 1)=some (.im (nD w.names)):=rfl;have s2:Ay w.d (.int 2)=some (.im (nD w.vals)):=rfl
 have s3:Ek (nD w.key) none (some (k:Int))=some (.im (nD (w.key.take k))):=by
  show some (O.im (.tuple (cutD (w.key.map PyData.str) none (some (k:Int)))))=_
  rw[Af2,<- List.map_take];rfl
 have s4:=Az0 (ns:=w.key) (k:=k)
 have lk:(w.key.take k).length<=2:=Nat.le_trans (List.length_take_le _ _) (by omega)
 have ld:(w.key.drop k).length<=2:=by rw[List.length_drop];omega
 have s5:=add_n (a:=w.key.drop k) (b:=w.names) (by omega)
 have s6:=add_n (a:=w.key.drop k++w.names) (b:=w.vals) (by rw[List.length_append];omega)
 have mk:∀x∈w.key.take k,x∈nm15:=fun x hx=>Ad2 (h.nms.sub x (List.mem_append_left _ (List.mem_append_left _ (List.mem_of_mem_take hx))))
 have mr:∀x∈w.key.drop k++w.names++w.vals,x∈nm15:=fun x hx=>by
  refine Ad2 (h.nms.sub x ?_)
  rcases List.mem_append.mp hx with hx | hx
  ·rcases List.mem_append.mp hx with hx | hx
   ·exact List.mem_append_left _ (List.mem_append_left _ (List.mem_of_mem_drop hx))
   ·exact List.mem_append_left _ (List.mem_append_right _ hx)
  ·exact List.mem_append_right _ hx
 have lr:(w.key.drop k++w.names++w.vals).length<=9:=by rw[List.length_append,List.length_append];omega
 have hD:w.d=w.d:=rfl
 generalize w.key.take k=A at *
 generalize w.key.drop k++w.names++w.vals=R at *
 generalize w.key.drop k=B at *
 have o0:Eo (nD A)=some (.ls false (A.map PyData.str)):=rfl;have o00:Eo (nD R)=some (.ls false (R.map PyData.str)):=rfl
 have o1:Ak3 (.list (A.map PyData.str))=some (.ls false (A.reverse.map PyData.str)):=by
  show some (O.ls false (A.map PyData.str).reverse)=_
  rw[List.map_reverse]
 obtain⟨Q1,eQ1,mQ1,lQ1⟩:=Mj (l:=q3) (a:=none) (b:=some (k:Int));obtain⟨Q2,eQ2,mQ2,lQ2⟩:=Mj (l:=q3) (a:=none) (b:=some ((k:Int)+1));obtain⟨D1,eD1,mD1,lD1⟩:=Mj (l:=A) (a:=some 1) (b:=none);obtain⟨R1,eR1,mR1,lR1⟩:=Mj (l:=R) (a:=none) (b:=some 1);obtain⟨DL,eDL,mDL,lDL⟩:=Mj (l:=A) (a:=none) (b:=some (-1));obtain⟨RL,eRL,mRL,lRL⟩:=Mj (l:=R) (a:=some (-1)) (b:=none);have lq:q3.length=3:=rfl
 have o2:Ek (.list [.str "qa",.str "qb",.str "qc"]) none (some (k:Int))=some (.ls false (Q1.map PyData.str)):=congrArg (fun z=>some (O.ls false z)) eQ1
 have o3:Ek (.list [.str "qa",.str "qb",.str "qc"]) none (some ((k:Int)+1))=some (.ls false (Q2.map PyData.str)):=congrArg (fun z=>some (O.ls false z)) eQ2
 have o4:Ek (.list (A.map PyData.str)) (some 1) none=some (.ls false (D1.map PyData.str)):=congrArg (fun z=>some (O.ls false z)) eD1
 have o5:Ek (.list (R.map PyData.str)) none (some 1)=some (.ls false (R1.map PyData.str)):=congrArg (fun z=>some (O.ls false z)) eR1
 have o6:Ek (.list (A.map PyData.str)) none (some (-1))=some (.ls false (DL.map PyData.str)):=congrArg (fun z=>some (O.ls false z)) eDL
 have o7:Ek (.list (R.map PyData.str)) (some (-1)) none=some (.ls false (RL.map PyData.str)):=congrArg (fun z=>some (O.ls false z)) eRL
 have p1:Ba (.list [.str "qa"]) (.list (D1.map PyData.str))=some (.ls false (([Str.ofString "qa"]++D1).map PyData.str)):=Us (a:=[Str.ofString "qa"]) (by show 1+_<=_;omega)
 have p2:=Us (a:=R1) (b:=D1) (by omega)
 have p3:=Us (a:=DL) (b:=RL) (by omega)
 have p4:=Us (a:=A) (b:=RL) (by omega)
 have p5:=Bh4 (x:=Str.ofString "qa") (k:=k) (by omega)
 have p6:Ba (.int (k:Nat)) (.int 1)=some (.im (.int ((k:Int)+1))):=rfl;have p7:Wm (.int 1)=some (.im (.int (-1))):=rfl
 have p8:∀a b c d e f g h i j:PyData,Ba (.list [a,b,c,d,e,f]) (.list [g,h,i,j])=some (.ls false [a,b,c,d,e,f,g,h,i,j]):=fun _ _ _ _ _ _ _ _ _ _=>rfl
 obtain⟨r,d1,b1,r0,r1,e1⟩:=Dd (m:=10) hb (by omega) (by decide) (by decide)
 have hr:r<(([A,A.reverse,Q1,[Str.ofString "qa"]++D1,Q2,D1,R1++D1,DL++RL,List.replicate k (Str.ofString "qa"),A++RL].map fun l=>PyData.list (l.map PyData.str)).length:Int):=r1
 obtain⟨d,hd,e2⟩:=A8f r0 hr;obtain⟨ss,hs,rfl⟩:=List.mem_map.mp hd;have qa:Str.ofString "qa" ∈ nm15:=Ba5 (.head _)
 refine⟨ss,d1,b1,?_,?_,?_⟩
 ·simp only[List.mem_cons,List.not_mem_nil,or_false]at hs
  intro x hx
  rcases hs with rfl | rfl | rfl | rfl | rfl | rfl | rfl | rfl | rfl | rfl
  ·exact mk x hx
  ·exact mk x (List.mem_reverse.mp hx)
  ·exact Ba5 (mQ1 x hx)
  ·rcases List.mem_append.mp hx with hx | hx
   ·rw[List.mem_singleton.mp hx];exact qa
   ·exact mk x (mD1 x hx)
  ·exact Ba5 (mQ2 x hx)
  ·exact mk x (mD1 x hx)
  ·rcases List.mem_append.mp hx with hx | hx
   ·exact mr x (mR1 x hx)
   ·exact mk x (mD1 x hx)
  ·rcases List.mem_append.mp hx with hx | hx
   ·exact mk x (mDL x hx)
   ·exact mr x (mRL x hx)
  ·rw[List.eq_of_mem_replicate hx];exact qa
  ·rcases List.mem_append.mp hx with hx | hx
   ·exact mk x hx
   ·exact mr x (mRL x hx)
 ·simp only[List.mem_cons,List.not_mem_nil,or_false]at hs
  rcases hs with rfl | rfl | rfl | rfl | rfl | rfl | rfl | rfl | rfl | rfl <;> (try rw[List.length_append]) <;> (try rw[List.length_reverse]) <;> (try rw[List.length_replicate]) <;> (try rw[List.length_singleton]) <;> omega
 ·have e3:Ay (.list [.list (A.map PyData.str),.list (A.reverse.map PyData.str),.list (Q1.map PyData.str),.list (([Str.ofString "qa"]++D1).map PyData.str),.list (Q2.map PyData.str),.list (D1.map PyData.str),.list ((R1++D1).map PyData.str),.list ((DL++RL).map PyData.str),.list ((List.replicate k (Str.ofString "qa")).map PyData.str),.list ((A++RL).map PyData.str)]) (.int r)=some (.im (.list (ss.map PyData.str))):=by
   exact congrArg (Option.map O.im) e2
  generalize [Str.ofString "qa"]++D1=P1 at *
  generalize R1++D1=P2 at *
  generalize DL++RL=P3 at *
  generalize A++RL=P4 at *
  generalize List.replicate k (Str.ofString "qa")=P5 at *
  generalize A.reverse=P6 at *
  generalize w.d=Wd at *
  generalize nD w.key=Kd at *
  generalize nD w.names=Nd at *
  generalize nD w.vals=Vd at *
  generalize nD (B++w.names)=BN at *
  generalize nD B=Bd at *
  generalize nD A=Ad at *
  generalize nD R=Rd at *
  wp_walk using Fw,Mx,s0,s1,s2,s3,s4,s5,s6,o0,o00,o1,o2,o3,o4,o5,o6,o7,p1,p2,p3,p4,p5,p6,p7,p8,Fi,show ((10:Nat):Int)=10 from rfl,e1,e3
theorem Bd0   : Fi [sqD b l]=some (.im (.int l.length)):=by cases b <;> rfl
theorem A1k {b:Bool}{ns:List Str}:Bm (sqD b (ns.map PyData.str))=some (.im (nD ns)):=by cases b <;> rfl
theorem A9g {ns:List Str}:Fi [nD ns]=some (.im (.int (ns.length:Nat))):=by
 show some (O.im (.int ((ns.map PyData.str).length:Nat)))=_
 rw[List.length_map]
theorem A5b {α:Type}(l:List α):Qz (.list (l.map fun _=>PyData.bool true))=some (.im (.bool true)):=by
 rw[Jr (fun _=>true),List.all_eq_true.mpr fun _ _=>rfl]
theorem Bg0 {ns:List Str}(h:∀x∈ns,x∈nm15)(h0:0<ns.length)(hl:ns.length<=100):Bj [.im (nD ns)]=.ret (.im (.bool (decide ns.Nodup))) [.im (nD ns)]:=by
 have s:sm (nD ns)=true:=sm_tup.mpr ⟨by rw[List.length_map];omega,fun d hd=>by obtain⟨x,hx,rfl⟩:=List.mem_map.mp hd;exact(Ao4 (h x hx)).1⟩
 rw[Ae4 s]
 have:Kw (nD ns)=decide ns.Nodup:=by
  show (decide (0<(ns.map PyData.str).length)&&((ns.map PyData.str).all Dn&&(match strsOf (ns.map PyData.str) with | some ss=>decide ss.Nodup | none=>false)))=_
  rw[Tw,List.length_map,decide_eq_true h0,List.all_eq_true.mpr fun d hd=>by obtain⟨x,hx,rfl⟩:=List.mem_map.mp hd;exact(Ao4 (h x hx)).2.1]
  rfl
 rw[this]
theorem A4k {a b c:List Str}(h:∀x∈a++b++c,x∈nm15)(h0:0<c.length)(hl:(a++b++c).length<=100):Dm [.im (nD a),.im (nD b),.im (nD c)]=.ret (.im (.bool (decide (a++b++c).Nodup))) [.im (nD a),.im (nD b),.im (nD c)]:=by
 have t:∀ns:List Str,Cr .tuple (nD ns)=some (.im (.bool true)):=fun _=>rfl
 obtain⟨cI,e,u,rfl⟩:=Kr (g:=cgN 0) (ft:=By) (fe:=cUn (Cr .tuple) (Ac 0)) (I:=fun c=>∃u,c=[u]) (f:=nD) (G:=fun _=>.bool true) (xs:=[a,b,c]) (acc:=[]) (c:=[none]) ⟨none,rfl⟩
  (fun x c hx hI=>by
   obtain⟨u,rfl⟩:=hI
   refine⟨[some (.im (nD x))],?_,_,rfl⟩
   wp_walk using t)
 have e2:cLC [none] (Cv (Fp (Ae (Ac 0) (Ae (Ac 1) (Ae (Ac 2) Ar))))) (cgN 0) By (cUn (Cr .tuple) (Ac 0)) [some (.im (nD a)),some (.im (nD b)),some (.im (nD c))]=.ok (.o (.ls false ([a,b,c].map fun _=>PyData.bool true))) [some (.im (nD a)),some (.im (nD b)),some (.im (nD c))] :=
  Jk (ds:=[a,b,c].map nD) (c1:=[some (.im (nD a)),some (.im (nD b)),some (.im (nD c))]) (by unfold Cv;wp_walk using Fp) (by show 3<=_;decide) (by simpa[cIn] using e) rfl
 have e3:=A5b [a,b,c];rw[List.map_cons,List.map_cons,List.map_cons,List.map_nil]at e2 e3
 have l2:(a++b).length+c.length<=100:=by rw[<- List.length_append];exact hl
 have e5:=Bg0 h (by rw[List.length_append];omega) hl
 have e6:=add_n (a:=a) (b:=b) (by rw[List.length_append]at l2;omega)
 have e7:=add_n (a:=a++b) (b:=c) (by omega)
 wp_walk using Dm,Hs,e2,e3,A9g,decide_eq_true (show (0:Int)<(c.length:Int) by omega),e6,e7,e5
def rQ (k:Nat)(rows:List (List Vl×PyData))(q:List Vl):List (List Vl×PyData):=rows.filter fun r=>decide (r.1.take k=q)
theorem A4q {k:Nat}{rows:List (List Vl×PyData)}{q:List Vl}:rK k rows q=(rQ k rows q).map fun r=>.tuple [tD (r.1.drop k),r.2]:=by
 unfold rK rQ
 induction rows with
 | nil=>rfl
 | cons r rs ih =>
  by_cases z:r.1.take k=q
  ·simp only[List.filterMap_cons,List.filter_cons,if_pos z,decide_eq_true z,if_true,List.map_cons,ih]
  ·simp only[List.filterMap_cons,List.filter_cons,if_neg z,decide_eq_false z,Bool.false_eq_true,if_false,ih]
def uR (k:Nat)(rows:List (List Vl×PyData))(q:List Vl):List PyData:=(rQ k rows q).map fun r=>.tuple [tD (q++r.1.drop k),r.2]
structure Nst (w:Wd) (k:Nat) (qs:List (List Vl)):Prop where
 ok:w.Ok
 hk:k<=w.key.length
 mem:∀q∈qs,q∈pre w.nw.rows k
 nd:qs.Nodup
 len:qs.length<=12
def ndD (w:Wd)(k:Nat)(qs:List (List Vl)):PyData:=.tuple (qs.map (w.nw.one k))
def rsD (w:Wd)(k:Nat)(q:List Vl):PyData:=.tuple [nD (w.key.drop k),nD w.names,nD w.vals,w.nw.h,.tuple (rK k w.nw.rows q)]
theorem Bh5 {w:Wd}{k:Nat}{q:List Vl}:w.nw.one k q=.tuple [tD q,rsD w k q]:=rfl
theorem Br0 {a b:List Vl}(h:a.length+b.length<=1000):Ba (tD a) (tD b)=some (.im (tD (a++b))):=by
 show (if (a.map Vl.d).length+(b.map Vl.d).length<=16000000 then some (O.im (.tuple (a.map Vl.d++b.map Vl.d))) else none)=_
 rw[List.length_map,List.length_map,if_pos (by omega),<- List.map_append];rfl
theorem Kl {w:Wd}{k:Nat}{qs:List (List Vl)}(h:Nst w k qs){q:List Vl}(hq:q∈qs):q.length=k:=by
 obtain⟨r,hr,rfl⟩:=List.mem_map.mp (h.mem q hq);obtain⟨s,hs,rfl⟩:=List.mem_map.mp hr
 show (s.1.take k).length=k
 rw[List.length_take];have:s.1.length=w.key.length:=(h.ok.rows s hs).plen;have:=h.hk;omega
theorem Rz {w:Wd}(h:w.Ok):w.nw.rows.length<=12:=by show (w.rows.map _).length<=_;rw[List.length_map];exact h.rlen
theorem Bu3 {w:Wd}{k:Nat}{qs:List (List Vl)}(h:Nst w k qs){q:List Vl}(hq:q∈qs){c:Ev}{i j:Nat}(hi:c[i]?=some (some (.im (tD q))))(hj:c[j]?=some (some (.im (rsD w k q)))) :
 cLC [none,none,some i] (Cv (cOp Ay (Ac j) (cC (.int 4)))) (cgT 2 (Bf (cgN 0) (Bf (cgN 1) Eg))) By (Fp (Ae (cOp Ba (Ac 2) (Ac 0)) (Ae (Ac 1) Ar))) c=.ok (.o (.ls false (uR k w.nw.rows q))) c:=by
 have lq:=Kl h hq;have rl:=Rz h.ok;have hk:=h.hk;have kl:=h.ok.klen
 obtain⟨cI,e,u,v,rfl⟩:=Kr (g:=cgT 2 (Bf (cgN 0) (Bf (cgN 1) Eg))) (ft:=By) (fe:=Fp (Ae (cOp Ba (Ac 2) (Ac 0)) (Ae (Ac 1) Ar))) (I:=fun c=>∃u v,c=[u,v,some (.im (tD q))]) (f:=fun r=>PyData.tuple [tD (r.1.drop k),r.2]) (G:=fun r=>.tuple [tD (q++r.1.drop k),r.2]) (xs:=rQ k w.nw.rows q) (acc:=[]) (c:=[none,none,some (.im (tD q))]) ⟨none,none,rfl⟩
  (fun r c hr hI=>by
   obtain⟨u,v,rfl⟩:=hI
   refine⟨[some (.im (tD (r.1.drop k))),some (.im r.2),some (.im (tD q))],?_,_,_,rfl⟩
   have hr:=(List.mem_filter.mp hr).1
   have s1:=Br0 (a:=q) (b:=r.1.drop k) (by
    obtain⟨s,hs,rfl⟩:=List.mem_map.mp hr;have:s.1.length=w.key.length:=(h.ok.rows s hs).plen
    rw[List.length_drop];show q.length+(s.1.length-k)<=1000;omega)
   wp_walk using s1)
 rw[List.nil_append,<- A4q]at e
 refine Jk (ds:=rK k w.nw.rows q) (c1:=c) ?_ ?_ (by simpa[cIn,hi,O.flag,uR] using e) ?_
 ·have s2:Ay (rsD w k q) (.int 4)=some (.im (.tuple (rK k w.nw.rows q))):=rfl
  wp_walk using Cv,hj,s2,Vb
 ·rw[A4q,List.length_map]
  exact Nat.le_trans (List.length_filter_le _ _) (by omega)
 ·unfold pairsOf pairsOf pairsOf pairsOf Gp
  simp only[hi]
  rfl
def Gn (w:Wd)(k:Nat)(qs:List (List Vl)):List PyData:=qs.flatMap (uR k w.nw.rows)
theorem Ad8 {w:Wd}{k:Nat}(h:w.Ok):∀(qs:List (List Vl)),(Gn w k qs).length<=12*qs.length
 | []=>Nat.le_refl _
 | q::qs=>by
  have:=Ad8 h qs (k:=k);have rl:=Rz h
  have l1:(uR k w.nw.rows q).length<=12:=by
   show ((rQ k w.nw.rows q).map _).length<=12
   rw[List.length_map];exact Nat.le_trans (List.length_filter_le _ _) rl
  show (uR k w.nw.rows q++Gn w k qs).length<=_
  rw[List.length_append,List.length_cons];omega
def woD (w:Wd)(k:Nat)(ss:List Str)(qs:List (List Vl)):PyData:=.tuple [nD (ss++w.key.drop k),nD w.names,nD w.vals,w.nw.h,.tuple (Gn w k qs)]
def okN (w:Wd)(k:Nat)(ss:List Str):Prop:=ss.length=k/\(ss++w.key.drop k++w.names++w.vals).Nodup
instance {w:Wd} {k:Nat} {ss:List Str}:Decidable (okN w k ss):=inferInstanceAs (Decidable (_/\_))
structure Ky (ss:List Str):Prop where
 mem:∀x∈ss,x∈nm15
 len:ss.length<=24
theorem Y5 {w:Wd}{k:Nat}{ss:List Str}(h:w.Ok)(s:Ky ss):(∀x∈ss++w.key.drop k++w.names++w.vals,x∈nm15)/\(ss++w.key.drop k++w.names++w.vals).length<=40:=by
 have:=h.klen;have:=h.nlen;have:=h.vlen;have:=s.len
 refine⟨fun x hx=>?_,by rw[List.length_append,List.length_append,List.length_append,List.length_drop];omega⟩
 rcases List.mem_append.mp hx with hx | hx
 ·rcases List.mem_append.mp hx with hx | hx
  ·rcases List.mem_append.mp hx with hx | hx
   ·exact s.mem x hx
   ·exact Ad2 (h.nms.sub x (List.mem_append_left _ (List.mem_append_left _ (List.mem_of_mem_drop hx))))
  ·exact Ad2 (h.nms.sub x (List.mem_append_left _ (List.mem_append_right _ hx)))
 ·exact Ad2 (h.nms.sub x (List.mem_append_right _ hx))
theorem A9x {w:Wd}{k:Nat}{q0:List Vl}{qs:List (List Vl)}:Ay (ndD w k (q0::qs)) (.int 0)=some (.im (.tuple [tD q0,rsD w k q0])):=by
 show (atI (w.nw.one k q0::qs.map (w.nw.one k)) 0).map O.im=_
 rw[A9a];rfl
theorem A3o {w:Wd}{k:Nat}{q0:List Vl}{qs:List (List Vl)}(h:Nst w k (q0::qs)){b:Bool}{ss:List Str}(s:Ky ss) :
 Cu [ndD w k (q0::qs),sqD b (ss.map PyData.str)]=if okN w k ss then .ret (.im .none) else .ex "BadColumns" := by
 have lq:=Kl h (.head _);obtain⟨m1,l1⟩:=Y5 (k:=k) h.ok s
 have e0:Fi [ndD w k (q0::qs)]=some (.im (.int ((qs.length+1:Nat):Int))):=by
  show some (O.im (.int ((w.nw.one k q0::qs.map (w.nw.one k)).length:Nat)))=_
  rw[List.length_cons,List.length_map]
 have e1:Dh false (.int ((qs.length+1:Nat):Int)) (.int 0)=some (.im (.bool false)):=by rw[Il,decide_eq_false (by omega)];rfl
 have e2:=A9x (w:=w) (k:=k) (q0:=q0) (qs:=qs);have e3:Ay (.tuple [tD q0,rsD w k q0]) (.int 0)=some (.im (tD q0)):=rfl;have e4:Ay (.tuple [tD q0,rsD w k q0]) (.int 1)=some (.im (rsD w k q0)):=rfl;have e5:=Bd0 (b:=b) (l:=ss.map PyData.str);rw[List.length_map]at e5
 have e6:Fi [tD q0]=some (.im (.int (k:Nat))):=by
  show some (O.im (.int ((q0.map Vl.d).length:Nat)))=_
  rw[List.length_map,lq]
 have r0:Ay (rsD w k q0) (.int 0)=some (.im (nD (w.key.drop k))):=rfl;have r1:Ay (rsD w k q0) (.int 1)=some (.im (nD w.names)):=rfl;have r2:Ay (rsD w k q0) (.int 2)=some (.im (nD w.vals)):=rfl;have e8:=A1k (b:=b) (ns:=ss)
 have e9:=add_n (a:=ss) (b:=w.key.drop k) (by rw[List.length_append,List.length_append,List.length_append]at l1;omega)
 have e10:=A4k (a:=ss++w.key.drop k) (b:=w.names) (c:=w.vals) m1 h.ok.vpos (by omega)
 have e7:=Il (neg:=true) (a:=(ss.length:Int)) (b:=(k:Int))
 generalize hT:PyData.tuple [tD q0,rsD w k q0]=T at *
 generalize ndD w k (q0::qs)=N at *
 generalize rsD w k q0=R at *
 generalize sqD b (ss.map PyData.str)=S at *
 by_cases z:ss.length=k
 ·rw[if_pos rfl,decide_eq_true (show (ss.length:Int)=(k:Int) by omega)]at e7
  by_cases nd:(ss++w.key.drop k++w.names++w.vals).Nodup
  ·rw[if_pos (show okN w k ss from ⟨z,nd⟩)]
   rw[decide_eq_true nd]at e10
   wp_walk using Cu,Ew,e0,e1,e2,e3,e4,e5,e6,e7,e8,e9,e10,r0,r1,r2
  ·rw[if_neg fun y:okN w k ss=>nd y.2]
   rw[decide_eq_false nd]at e10
   wp_walk using Cu,Ew,e0,e1,e2,e3,e4,e5,e6,e7,e8,e9,e10,r0,r1,r2
 ·rw[if_neg fun y:okN w k ss=>z y.1]
  rw[if_pos rfl,decide_eq_false (show ¬ (ss.length:Int)=(k:Int) by omega)]at e7
  wp_walk using Cu,Ew,e0,e1,e2,e3,e4,e5,e6,e7,e8,e9,e10,r0,r1,r2
theorem Ak9 {w:Wd}{k:Nat}{qs:List (List Vl)}(h:Nst w k qs){i j a:Nat}{cc:List PyData->Option O->Option O->Ev}
 (hs:∀ds x y q,q∈qs->cgT 2 (Bf (cgN i) (Bf (cgN j) Eg)) (.o (.im (.tuple [tD q,rsD w k q]))) (cc ds x y)=.ok () (cc ds (some (.im (tD q))) (some (.im (rsD w k q)))))
 (h1:∀ds x y,(cc ds x y)[i]?=some x) (h2:∀ds x y,(cc ds x y)[j]?=some y) (h3:∀ds x y,(cc ds x y)[a]?=some (some (.ls false ds))) (h4:∀ds es x y,(cc ds x y).set a (some (.ls false es))=cc es x y) {x y:Option O} :
 ∃x' y',forL (cgT 2 (Bf (cgN i) (Bf (cgN j) Eg))) (Gh (Ad4 (Ac a) (cLC [none,none,some i] (Cv (cOp Ay (Ac j) (cC (.int 4)))) (cgT 2 (Bf (cgN 0) (Bf (cgN 1) Eg))) By (Fp (Ae (cOp Ba (Ac 2) (Ac 0)) (Ae (Ac 1) Ar)))))) (qs.map (w.nw.one k)) (cc [] x y)=.nx (cc (Gn w k qs) x' y'):=by
 have ql:=h.len
 obtain⟨c',e,x',y',rfl⟩:=Gw (g:=cgT 2 (Bf (cgN i) (Bf (cgN j) Eg))) (body:=Gh (Ad4 (Ac a) (cLC [none,none,some i] (Cv (cOp Ay (Ac j) (cC (.int 4)))) (cgT 2 (Bf (cgN 0) (Bf (cgN 1) Eg))) By (Fp (Ae (cOp Ba (Ac 2) (Ac 0)) (Ae (Ac 1) Ar)))))) (items:=qs.map (w.nw.one k)) (n:=0) (c:=cc [] x y)
  (P:=fun m c=>∃x y,c=cc (Gn w k (qs.take m)) x y) ⟨x,y,rfl⟩ (fun m d c hd hP=>by
   rw[Nat.zero_add]at hP ⊢;obtain⟨x,y,rfl⟩:=hP;obtain⟨q,hq,rfl⟩:=Ij hd;have mq:=List.mem_of_getElem? hq
   refine⟨cc (Gn w k (qs.take (m+1))) (some (.im (tD q))) (some (.im (rsD w k q))),.inl ?_,_,_,rfl⟩
   have e1:=Bu3 h mq (c:=cc (Gn w k (qs.take m)) (some (.im (tD q))) (some (.im (rsD w k q)))) (i:=i) (j:=j) (h1 _ _ _) (h2 _ _ _)
   have e2:Gn w k (qs.take (m+1))=Gn w k (qs.take m)++uR k w.nw.rows q:=by
    unfold Gn;rw[List.take_succ,hq,List.flatMap_append];simp
   have e3:=h3 (Gn w k (qs.take m)) (some (.im (tD q))) (some (.im (rsD w k q)))
   have l1:(Gn w k (qs.take m)).length+(uR k w.nw.rows q).length<=16000000:=by
    rw[<- List.length_append,<- e2]
    exact Nat.le_trans (Ad8 h.ok _) (by rw[List.length_take];omega)
   have e4:=h4 (Gn w k (qs.take m)) (Gn w k (qs.take m)++uR k w.nw.rows q) (some (.im (tD q))) (some (.im (rsD w k q)));rw[e2];unfold Mz;rw[Bh5,hs _ _ _ _ mq]
   show Gh _ _=_
   generalize Gn w k (qs.take m)=acc at *
   wp_walk using e1,e3,l1,e4)
 rw[List.length_map,Nat.zero_add,List.take_length]at e;exact⟨x',y',e⟩
theorem Bu4 {w:Wd}{k:Nat}{q:List Vl}:Ek (rsD w k q) (some 1) (some 4)=some (.im (.tuple [nD w.names,nD w.vals,w.nw.h])):=rfl
theorem Br1 {w:Wd}{k:Nat}{q0:List Vl}{qs:List (List Vl)}(h:Nst w k (q0::qs)){b:Bool}{ss:List Str}(s:Ky ss) :
 Dp [ndD w k (q0::qs),sqD b (ss.map PyData.str)]=if okN w k ss then .ret (.im (woD w k ss (q0::qs))) else .ex "BadColumns" := by
 have e1:=A3o h (b:=b) s;obtain⟨_,l1⟩:=Y5 (k:=k) h.ok s
 obtain⟨x,y,e2⟩:=Ak9 h (i:=3) (j:=4) (a:=2) (x:=none) (y:=none) (cc:=fun ds x y=>[some (.im (ndD w k (q0::qs))),some (.im (sqD b (ss.map PyData.str))),some (.ls false ds),x,y,none])
  (fun ds x y q _=>by wp_walk using true_and) (fun _ _ _=>rfl) (fun _ _ _=>rfl) (fun _ _ _=>rfl) (fun _ _ _ _=>rfl)
 have e3:=(J0 (fi:=Cv (Ac 0)) (g:=cgT 2 (Bf (cgN 3) (Bf (cgN 4) Eg))) (body:=Gh (Ad4 (Ac 2) (cLC [none,none,some 3] (Cv (cOp Ay (Ac 4) (cC (.int 4)))) (cgT 2 (Bf (cgN 0) (Bf (cgN 1) Eg))) By (Fp (Ae (cOp Ba (Ac 2) (Ac 0)) (Ae (Ac 1) Ar)))))) (c:=[some (.im (ndD w k (q0::qs))),some (.im (sqD b (ss.map PyData.str))),some (.ls false []),none,none,none]) (c1:=[some (.im (ndD w k (q0::qs))),some (.im (sqD b (ss.map PyData.str))),some (.ls false []),none,none,none]) (ds:=(q0::qs).map (w.nw.one k)) (by wp_walk using Cv,ndD,Vb)).trans e2
 have f0:=A9x (w:=w) (k:=k) (q0:=q0) (qs:=qs);have f1:Ay (.tuple [tD q0,rsD w k q0]) (.int 1)=some (.im (rsD w k q0)):=rfl;have f2:Ay (rsD w k q0) (.int 0)=some (.im (nD (w.key.drop k))):=rfl;have f3:=A1k (b:=b) (ns:=ss)
 have f4:=add_n (a:=ss) (b:=w.key.drop k) (by rw[List.length_append,List.length_append,List.length_append]at l1;omega)
 have f5:Ba (.tuple [nD (ss++w.key.drop k)]) (.tuple [nD w.names,nD w.vals,w.nw.h])=some (.im (.tuple [nD (ss++w.key.drop k),nD w.names,nD w.vals,w.nw.h])):=rfl;have f6:Ba (.tuple [nD (ss++w.key.drop k),nD w.names,nD w.vals,w.nw.h]) (.tuple [.tuple (Gn w k (q0::qs))])=some (.im (woD w k ss (q0::qs))):=rfl;have f8:Bm (.list (Gn w k (q0::qs)))=some (.im (.tuple (Gn w k (q0::qs)))):=rfl;have f7:=Bu4 (w:=w) (k:=k) (q:=q0)
 generalize Gn w k (q0::qs)=U at *
 generalize woD w k ss (q0::qs)=Wo at *
 generalize PyData.tuple [tD q0,rsD w k q0]=T at *
 generalize ndD w k (q0::qs)=N at *
 generalize rsD w k q0=R at *
 generalize sqD b (ss.map PyData.str)=S at *
 generalize PyData.tuple [nD w.names,nD w.vals,w.nw.h]=T3 at *
 generalize PyData.tuple [nD (ss++w.key.drop k),nD w.names,nD w.vals,w.nw.h]=T4 at *
 by_cases z:okN w k ss
 ·rw[if_pos z]at e1 ⊢
  wp_walk using Dp,K6,e1,scO,e3,f0,f1,f2,f3,f4,f5,f6,f7,f8
 ·rw[if_neg z]at e1 ⊢
  wp_walk using Dp,K6,e1,scO
def Bc1:PyData:=.tuple [.str "refused",.int 0,.none]
def Rn (w:Wd)(k:Nat)(ss:List Str)(qs:List (List Vl)):PyData:=if okN w k ss then woD w k ss qs else Bc1
theorem Bf5 {d:PyData}:Ez [.im d,.im .none]=.ret (.im d) [.im d,.im .none]:=by
 wp_walk using Ez,Wc
theorem Bl7:∃o,Ez [.im .none,.ty (.xc "BadColumns")]=.ret (.im Bc1) o:=⟨_,rfl⟩
theorem V9:∀ss:List Str,Q6 (ss.map PyData.str)=some (ss.map fun x=>(Sum.inr x:Key))
 | []=>rfl
 | x::ss=>by show (Q6 (ss.map PyData.str)).map ((Sum.inr x:Key)::·)=_;rw[V9 ss];rfl
theorem A2i {ss:List Str}(h:ss.length<=900):Mp (.list (ss.map PyData.str))=some (.im (.int ((dst (ss.map fun x=>(Sum.inr x:Key))).length:Nat))):=by
 show (Q6 (ss.map PyData.str)).bind _=_
 rw[V9,Option.bind_some,if_pos (by rw[List.length_map];omega)]
theorem Bf4 {ss:List Str}:(dst (ss.map fun x=>(Sum.inr x:Key))).length<=ss.length:=by
 have:=Mh _ (ss.map fun x=>(Sum.inr x:Key)) rfl
 rwa [List.length_map]at this
theorem Bg3 {w:Wd}{k:Nat}{q0:List Vl}{qs:List (List Vl)}(h:Nst w k (q0::qs)){ss:List Str}(s:Ky ss) :
 Io [.im (ndD w k (q0::qs)),.im (.list (ss.map PyData.str))]=.ret (.im (Rn w k ss (q0::qs))) [.im (ndD w k (q0::qs)),.im (.list (ss.map PyData.str))]:=by
 have lq:=Kl h (.head _);obtain⟨_,l1⟩:=Y5 (k:=k) h.ok s;have l1':=l1;rw[List.length_append,List.length_append,List.length_append]at l1'
 obtain⟨x,y,e2⟩:=Ak9 h (i:=2) (j:=6) (a:=5) (x:=some (.im (tD q0))) (y:=none) (cc:=fun ds x y=>[some (.im (ndD w k (q0::qs))),some (.im (.list (ss.map PyData.str))),x,some (.im (rsD w k q0)),some (.ls false ((ss++(w.key.drop k++w.names++w.vals)).map PyData.str)),some (.ls false ds),y])
  (fun ds x y q _=>by wp_walk using true_and) (fun _ _ _=>rfl) (fun _ _ _=>rfl) (fun _ _ _=>rfl) (fun _ _ _ _=>rfl)
 have e3:=(J0 (fi:=Cv (Ac 0)) (g:=cgT 2 (Bf (cgN 2) (Bf (cgN 6) Eg))) (body:=Gh (Ad4 (Ac 5) (cLC [none,none,some 2] (Cv (cOp Ay (Ac 6) (cC (.int 4)))) (cgT 2 (Bf (cgN 0) (Bf (cgN 1) Eg))) By (Fp (Ae (cOp Ba (Ac 2) (Ac 0)) (Ae (Ac 1) Ar)))))) (c:=[some (.im (ndD w k (q0::qs))),some (.im (.list (ss.map PyData.str))),some (.im (tD q0)),some (.im (rsD w k q0)),some (.ls false ((ss++(w.key.drop k++w.names++w.vals)).map PyData.str)),some (.ls false []),none]) (c1:=[some (.im (ndD w k (q0::qs))),some (.im (.list (ss.map PyData.str))),some (.im (tD q0)),some (.im (rsD w k q0)),some (.ls false ((ss++(w.key.drop k++w.names++w.vals)).map PyData.str)),some (.ls false []),none]) (ds:=(q0::qs).map (w.nw.one k)) (by wp_walk using Cv,ndD,Vb)).trans e2
 have f0:=A9x (w:=w) (k:=k) (q0:=q0) (qs:=qs);have r0:Ay (rsD w k q0) (.int 0)=some (.im (nD (w.key.drop k))):=rfl;have r1:Ay (rsD w k q0) (.int 1)=some (.im (nD w.names)):=rfl;have r2:Ay (rsD w k q0) (.int 2)=some (.im (nD w.vals)):=rfl;have r3:Ay (rsD w k q0) (.int 3)=some (.im w.nw.h):=rfl
 have a1:=add_n (a:=w.key.drop k) (b:=w.names) (by omega)
 have a2:=add_n (a:=w.key.drop k++w.names) (b:=w.vals) (by rw[List.length_append];omega)
 have a3:Eo (nD (w.key.drop k++w.names++w.vals))=some (.ls false ((w.key.drop k++w.names++w.vals).map PyData.str)):=rfl;have a4:Eo (.list (ss.map PyData.str))=some (.ls false (ss.map PyData.str)):=rfl
 have a5:=Us (a:=ss) (b:=w.key.drop k++w.names++w.vals) (by rw[List.length_append,List.length_append];omega)
 have f3:Bm (.list (ss.map PyData.str))=some (.im (nD ss)):=rfl
 have f4:=add_n (a:=ss) (b:=w.key.drop k) (by omega)
 have f8:Bm (.list (Gn w k (q0::qs)))=some (.im (.tuple (Gn w k (q0::qs)))):=rfl
 have e5:Fi [.list (ss.map PyData.str)]=some (.im (.int (ss.length:Nat))):=by
  show some (O.im (.int ((ss.map PyData.str).length:Nat)))=_
  rw[List.length_map]
 have e6:Fi [tD q0]=some (.im (.int (k:Nat))):=by
  show some (O.im (.int ((q0.map Vl.d).length:Nat)))=_
  rw[List.length_map,lq]
 have e7:=Il (neg:=true) (a:=(ss.length:Int)) (b:=(k:Int))
 have as:ss++(w.key.drop k++w.names++w.vals)=ss++w.key.drop k++w.names++w.vals:=by rw[List.append_assoc,List.append_assoc,List.append_assoc]
 rw[as]at e2 e3 a5
 have b1:=A2i (ss:=ss++w.key.drop k++w.names++w.vals) (by omega)
 have b2:=Bf4 (ss:=ss++w.key.drop k++w.names++w.vals);have b3:=dst_inr (ss:=ss++w.key.drop k++w.names++w.vals)
 have b4:Fi [.list ((ss++w.key.drop k++w.names++w.vals).map PyData.str)]=some (.im (.int ((ss++w.key.drop k++w.names++w.vals).length:Nat))):=by
  show some (O.im (.int (((ss++w.key.drop k++w.names++w.vals).map PyData.str).length:Nat)))=_
  rw[List.length_map]
 have b5:∀i j:Int,Lf (.int i) (.int j)=some (.im (.bool (decide (i<j)))):=fun _ _=>rfl
 have hW:woD w k ss (q0::qs)=.tuple [nD (ss++w.key.drop k),nD w.names,nD w.vals,w.nw.h,.tuple (Gn w k (q0::qs))]:=rfl;have hF:Bc1=.tuple [.str "refused",.int 0,.none]:=rfl;unfold Rn
 clear e2
 generalize hL:(ss++w.key.drop k++w.names++w.vals).map PyData.str=L at *
 generalize hSL:ss.map PyData.str=SL at *
 generalize hU:Gn w k (q0::qs)=U at *
 generalize ndD w k (q0::qs)=N at *
 generalize rsD w k q0=R at *
 generalize tD q0=Tq at *
 by_cases z:ss.length=k
 ·rw[if_pos rfl,decide_eq_true (show (ss.length:Int)=(k:Int) by omega)]at e7
  by_cases nd:(ss++w.key.drop k++w.names++w.vals).Nodup
  ·have b6:=decide_eq_false (show ¬ ((dst ((ss++w.key.drop k++w.names++w.vals).map fun x=>(Sum.inr x:Key))).length:Int)<((ss++w.key.drop k++w.names++w.vals).length:Int) by have:=b3.mpr nd;omega)
   rw[if_pos (show okN w k ss from ⟨z,nd⟩),hW]
   wp_walk using Io,Oe,f0,r0,r1,r2,r3,a1,a2,a3,a4,a5,e5,e6,e7,b1,b4,b5,b6,e3,f3,f4,f8
  ·have b6:=decide_eq_true (show ((dst ((ss++w.key.drop k++w.names++w.vals).map fun x=>(Sum.inr x:Key))).length:Int)<((ss++w.key.drop k++w.names++w.vals).length:Int) by
    have:¬ (dst ((ss++w.key.drop k++w.names++w.vals).map fun x=>(Sum.inr x:Key))).length=(ss++w.key.drop k++w.names++w.vals).length:=fun y=>nd (b3.mp y)
    omega)
   rw[if_neg fun y:okN w k ss=>nd y.2,hF]
   wp_walk using Io,Oe,f0,r0,r1,r2,r3,a1,a2,a3,a4,a5,e5,e6,e7,b1,b4,b5,b6
 ·rw[if_pos rfl,decide_eq_false (show ¬ (ss.length:Int)=(k:Int) by omega)]at e7
  rw[if_neg fun y:okN w k ss=>z y.1,hF]
  wp_walk using Io,Oe,f0,r0,r1,r2,r3,a1,a2,a3,a4,a5,e5,e6,e7
theorem Zr {α:Type}(p:α->Bool):∀l:List α,(l.filter p).length+(l.filter fun x=>!p x).length=l.length
 | []=>rfl
 | x::l=>by
  have:=Zr p l;rw[List.filter_cons,List.filter_cons]
  cases p x
  ·simp only[Bool.false_eq_true,if_false,Bool.not_false,if_true,List.length_cons];omega
  ·simp only[Bool.not_true,Bool.false_eq_true,if_false,if_true,List.length_cons];omega
theorem Zv {α β:Type}[DecidableEq β](f:α->β):∀(qs:List β) (l:List α),qs.Nodup->(qs.map fun q=>(l.filter fun r=>decide (f r=q)).length).sum<=l.length
 | [],l,_=>Nat.zero_le _
 | q::qs,l,nd=>by
  obtain⟨n1,n2⟩:=List.nodup_cons.mp nd
  have ih:=Zv f qs (l.filter fun r=>!decide (f r=q)) n2
  have e:(qs.map fun q'=>((l.filter fun r=>!decide (f r=q)).filter fun r=>decide (f r=q')).length)=qs.map fun q'=>(l.filter fun r=>decide (f r=q')).length:=List.map_congr_left fun q' hq'=>by
   rw[List.filter_filter]
   congr 1
   refine List.filter_congr fun r _=>?_
   by_cases z:f r=q'
   ·rw[decide_eq_true z,decide_eq_false (fun y=>n1 (by rw[<- y,z];exact hq'))];rfl
   ·rw[decide_eq_false z];rfl
  rw[e]at ih
  have:=Zr (fun r=>decide (f r=q)) l
  rw[List.map_cons,List.sum_cons];omega
theorem Aq2 {w:Wd}{k:Nat}{qs:List (List Vl)}(h:Nst w k qs):(qs.map fun q=>(rQ k w.nw.rows q).length).sum<=12 :=
 Nat.le_trans (Zv (fun r:List Vl×PyData=>r.1.take k) qs w.nw.rows h.nd) (Rz h.ok)
theorem Ad0 {w:Wd}{k:Nat}:∀qs:List (List Vl),(Gn w k qs).length=(qs.map fun q=>(rQ k w.nw.rows q).length).sum
 | []=>rfl
 | q::qs=>by
  show (uR k w.nw.rows q++Gn w k qs).length=_
  rw[List.length_append,Ad0 qs,List.map_cons,List.sum_cons];unfold uR;rw[List.length_map]
theorem A9v {w:Wd}{k:Nat}{q:List Vl}(h:w.Ok){r:List Vl×PyData}(hr:r∈rQ k w.nw.rows q):r∈w.nw.rows/\r.1.take k=q:=⟨(List.mem_filter.mp hr).1,of_decide_eq_true (List.mem_filter.mp hr).2⟩
theorem A5y {w:Wd}{k:Nat}{q:List Vl}(h:w.Ok):Good (.tuple (rK k w.nw.rows q)) 4 (123166*(rQ k w.nw.rows q).length+4)/\Nk (rK k w.nw.rows q)=true:=by
 have g:=Al8 h
 refine⟨Good.tup (n:=3) (w:=123164) (fun d hd=>?_) (by rw[A4q,List.length_map];exact Nat.le_refl _),O1 fun d hd=>?_⟩
 ·obtain⟨r,hr,rfl⟩:=A8z hd
  exact Xc (A7e (g.ok.rows r hr).1) (Nat.le_trans (by rw[List.length_drop];exact Nat.sub_le _ _) (g.ok.rows r hr).2) (g.rows r hr).1
 ·obtain⟨r,hr,rfl⟩:=A8z hd
  show (noL (tD _)&&(noL r.2&&true))=true
  rw[(g.rows r hr).2,show noL (tD (r.1.drop k))=true from Tf _];rfl
theorem A0g {w:Wd}{k:Nat}{qs:List (List Vl)}(h:Nst w k qs){q:List Vl}(hq:q∈qs):Good (w.nw.one k q) 6 (200000+123166*(rQ k w.nw.rows q).length):=by
 have g:=Al8 h.ok;have vq:=Bi0 g.ok (h.mem q hq)
 have lq:q.length<=4:=by rw[Kl h hq];exact Nat.le_trans h.hk (Nat.le_trans h.ok.klen (by decide))
 have a1:=(Sq (k:=4) (fun x hx=>g.nms x (List.mem_of_mem_drop hx)) (by rw[List.length_drop];have:=h.ok.klen;omega):Good (nD (w.key.drop k)) _ _).mono (show 1<=4 by decide) (show 1923*4+4<=10000 by decide)
 have a2:=g.gb.1.mono (show 2<=4 by decide) (Nat.le_refl _)
 have a3:=g.gc.1.mono (show 2<=4 by decide) (Nat.le_refl _)
 have a4:=g.gh.1.mono (show 2<=4 by decide) (Nat.le_refl _)
 have r:=(GL.cons a1 (GL.cons a2 (GL.cons a3 (GL.cons a4 (GL.cons (A5y (k:=k) (q:=q) h.ok).1 GL.nil))))).g
 have a:=(Ly vq lq).mono (show 1<=5 by decide) (Nat.le_refl (1923*4+4))
 exact((GL.cons a (GL.cons r GL.nil)).g).mono (Nat.le_refl _) (by omega)
theorem Wl {w:Wd}{k:Nat}{qs:List (List Vl)}(h:Nst w k qs):∀ps:List (List Vl),(∀p∈ps,p∈qs)->GL (ps.map (w.nw.one k)) 6 (200002*ps.length+123166*(ps.map fun q=>(rQ k w.nw.rows q).length).sum)
 | [],_=>GL.nil
 | p::ps,hp=>by
  have:=GL.cons (A0g h (hp p (.head _))) (Wl h ps fun q hq=>hp q (.tail _ hq))
  refine⟨this.lay,this.g.mono (Nat.le_refl _) ?_⟩
  rw[List.map_cons,List.sum_cons,List.length_cons];omega
theorem An8 {w:Wd}{k:Nat}{qs:List (List Vl)}(h:Nst w k qs):Good (ndD w k qs) 7 4500000:=by
 have a:=Aq2 h;have b:=h.len
 exact(Wl h qs fun _ z=>z).g.mono (Nat.le_refl _) (by omega)
theorem Bk6 {w:Wd}{k:Nat}{qs:List (List Vl)}(h:Nst w k qs){b:Bool}{ss:List Str}(s:Ky ss):∃x,Zn (.list [ndD w k qs,sqD b (ss.map PyData.str)])=some (.im (.str x)) :=
 ⟨_,Ae9 (Good.lst (n:=7) (w:=4500000) (k:=2) (fun d hd=>by
  simp only[List.mem_cons,List.not_mem_nil,or_false]at hd
  rcases hd with rfl | rfl
  ·exact An8 h
  ·exact(A5u s.mem s.len).mono (by decide) (by decide)) (Nat.le_refl _)) (by decide) (by decide) rfl⟩
theorem A4l {w:Wd}{k:Nat}{qs:List (List Vl)}(h:Nst w k qs){ss:List Str}(s:Ky ss):Cw 9 [.im (Rn w k ss qs),.im (Rn w k ss qs)]=.ret (.im (.bool true)) [.im (Rn w k ss qs),.im (Rn w k ss qs)]:=by
 have g:=Al8 h.ok;have kl:=h.ok.klen;have sl:=s.len;unfold Rn
 by_cases z:okN w k ss
 ·rw[if_pos z]
  have u1:∀d∈Gn w k qs,Good d 3 123164/\noL d=true:=fun d hd=>by
   obtain⟨q,hq,hd⟩:=List.mem_flatMap.mp hd;obtain⟨r,hr,rfl⟩:=List.mem_map.mp hd;obtain⟨hr,e⟩:=A9v h.ok hr;rw[<- e,List.take_append_drop]
   refine⟨Xc (g.ok.rows r hr).1 (g.ok.rows r hr).2 (g.rows r hr).1,?_⟩
   show (noL (tD r.1)&&(noL r.2&&true))=true
   rw[(g.rows r hr).2,show noL (tD r.1)=true from Tf _];rfl
  have u2:(Gn w k qs).length<=12:=by rw[Ad0];exact Aq2 h
  have a0:=(Good.tup (n:=3) (fun d hd=>(u1 d hd).1) u2).mono (Nat.le_refl _) (show (123164+2)*12+4<=1500000 by decide)
  have m:∀x∈ss++w.key.drop k,x∈nm15:=fun x hx=>(Y5 (k:=k) h.ok s).1 x (List.mem_append_left _ (List.mem_append_left _ hx))
  have a1:=(Ad7 m (show _<=30 by rw[List.length_append,List.length_drop];omega)).mono (show 1<=4 by decide) (show 1923*30+4<=60000 by decide)
  have a2:=g.gb.1.mono (show 2<=4 by decide) (Nat.le_refl _)
  have a3:=g.gc.1.mono (show 2<=4 by decide) (Nat.le_refl _)
  have a4:=g.gh.1.mono (show 2<=4 by decide) (Nat.le_refl _)
  refine Vt (((GL.cons a1 (GL.cons a2 (GL.cons a3 (GL.cons a4 (GL.cons a0 GL.nil))))).g).mono (Nat.le_refl _) (show _<=2000000 by decide)) (by decide) (by decide) (by decide) ?_
  have n5:Nk (Gn w k qs)=true:=O1 fun d hd=>(u1 d hd).2
  show (noL (nD (ss++w.key.drop k))&&(noL w.nw.b&&(noL w.nw.c&&(noL w.nw.h&&(Nk (Gn w k qs)&&true)))))=true
  rw[n5,g.gb.2,g.gc.2,g.gh.2,show noL (nD (ss++w.key.drop k))=true from Pk _];rfl
 ·rw[if_neg z];exact Vt (k:=1) (w:=9000) ⟨by decide +kernel,by decide +kernel,by decide +kernel,by decide +kernel,by decide +kernel⟩ (by decide) (by decide) (by decide) (by decide +kernel)
theorem Bh8 {w:Wd}{k:Nat}{q0:List Vl}{qs:List (List Vl)}(h:Nst w k (q0::qs)){b:Bool}{ss:List Str}(s:Ky ss){c:Ev}(h7:c[7]?=some (some (.im (ndD w k (q0::qs)))))(h10:c[10]?=some (some (.im (sqD b (ss.map PyData.str))))) :
 Zh Dp Ez ["BadColumns"] (Ae (Ac 7) (Ae (Ac 10) Ar)) c=.ok (.o (.im (Rn w k ss (q0::qs)))) c:=by
 have e:=Br1 h (b:=b) s;unfold Rn
 by_cases z:okN w k ss
 ·rw[if_pos z]at e ⊢
  wp_walk using h7,h10,e,Bf5
 ·rw[if_neg z]at e ⊢
  obtain⟨o,e2⟩:=Bl7;unfold Zh
  wp_walk using h7,h10,e,e2,beq_self_eq_true
abbrev Rh (s0 s1:Option O)(ds:List PyData)(s3:Option O)(w:Wd)(k:Nat)(s6:Option O)(qs:List (List Vl))(r:List (Option O)):Ev:=s0::s1::some (.ls false ds)::s3::some (.im w.d)::some (.im (.int (k:Nat)))::s6::some (.im (ndD w k qs))::r
theorem A4w {w:Wd}{k:Nat}{q0:List Vl}{qs:List (List Vl)}(h:Nst w k (q0::qs)){n:Nat}{ds:List PyData}(hb:Bx n ds)(hn:n<2 ^ 37){s0 s1 s3 s6 s8 s9 s10 s11 s12:Option O}:∃d1 y9 y10 y11 y12,Bx (n+2) d1 /\
 Lb (Rh s0 s1 ds s3 w k s6 (q0::qs) [s8,s9,s10,s11,s12])=.nx (Rh s0 s1 d1 s3 w k s6 (q0::qs) [s8,y9,y10,y11,y12]):=by
 obtain⟨ss,d1,b1,m,l,e1⟩:=Bp5 h.ok h.hk hb (by omega)
 have s:Ky ss:=⟨m,l⟩
 obtain⟨r,d2,b2,r0,r1,e2⟩:=Dd (m:=2) b1 (by omega) (by decide) (by decide)
 obtain⟨b,hB⟩:∃b,Ay (.list [.list (ss.map PyData.str),.tuple (ss.map PyData.str)]) (.int r)=some (.im (sqD b (ss.map PyData.str))):=by
  have:r=0\/r=1:=by omega
  rcases this with rfl | rfl
  ·exact⟨false,rfl⟩
  ·exact⟨true,rfl⟩
 obtain⟨x,e3⟩:=Bk6 h (b:=b) s;have e4:=Bg3 h s;have e5:=A4l h s;have l1:Eo (.list (ss.map PyData.str))=some (.ls false (ss.map PyData.str)):=rfl;have l2:Bm (.list (ss.map PyData.str))=some (.im (.tuple (ss.map PyData.str))):=rfl
 have e6:Dh true (.str x) (.str x)=some (.im (.bool false)):=by rw[O8];simp
 have e7:∀t1 t2:Option O,Zh Dp Ez ["BadColumns"] (Ae (Ac 7) (Ae (Ac 10) Ar)) [s0,s1,some (.ls false d2),s3,some (.im w.d),some (.im (.int (k:Nat))),s6,some (.im (ndD w k (q0::qs))),s8,some (.im (.list (ss.map PyData.str))),some (.im (sqD b (ss.map PyData.str))),t1,t2]=.ok (.o (.im (Rn w k ss (q0::qs)))) [s0,s1,some (.ls false d2),s3,some (.im w.d),some (.im (.int (k:Nat))),s6,some (.im (ndD w k (q0::qs))),s8,some (.im (.list (ss.map PyData.str))),some (.im (sqD b (ss.map PyData.str))),t1,t2]:=fun t1 t2=>Bh8 h s rfl rfl
 refine⟨d2,some (.im (.list (ss.map PyData.str))),some (.im (sqD b (ss.map PyData.str))),some (.im (.str x)),some (.im (Rn w k ss (q0::qs))),b2,?_⟩
 generalize hT:Zh Dp Ez ["BadColumns"] (Ae (Ac 7) (Ae (Ac 10) Ar))=TH at *
 unfold Rh Lb;rw[hT]
 generalize Rn w k ss (q0::qs)=RD at *
 generalize ndD w k (q0::qs)=N at *
 generalize sqD b (ss.map PyData.str)=S at *
 generalize ss.map PyData.str=SL at *
 generalize w.d=WD at *
 wp_walk using e1,l1,l2,e2,hB,e3,e4,e7,e5,e6
theorem A8b {F:List Vl->PyData}{Qs:List (List Vl)}{n:Nat}{ds:List PyData}(hb:Bx n ds)(hn:n<2 ^ 38)(hl:Qs.length<=1000){s0 s1 s3 s4 s5 s7 s8 s9 s10 s11 s12:Option O}:∃(qs:List (List Vl)) (d1:List PyData),qs.Perm Qs/\Bx (n+Qs.length) d1 /\
 cLC [none,some 6,some 2] (Cv (cUn Eo (Ac 6))) (cgN 0) By (Ji (Ac 1) (cF Am (Ae (Ac 2) (Ae (Ft (Ac 1)) Ar)))) [s0,s1,some (.ls false ds),s3,s4,s5,some (.ls false (Qs.map F)),s7,s8,s9,s10,s11,s12]=.ok (.o (.ls false (qs.map F))) [s0,s1,some (.ls false d1),s3,s4,s5,some (.ls false []),s7,s8,s9,s10,s11,s12]:=by
 have loop:=Jw (g:=cgN 0) (ft:=By) (fe:=Ji (Ac 1) (cF Am (Ae (Ac 2) (Ae (Ft (Ac 1)) Ar)))) (items:=Qs.map F) (acc:=[]) (n:=0) (c:=[none,some (.ls true (Qs.map F)),some (.ls true ds)])
  (P:=fun k acc c=>∃left d1 t ns,c=[t,some (.ls true (left.map F)),some (.ls true d1)]/\Bx (n+k) d1/\acc=ns.map F/\(ns++left).Perm Qs/\ns.length=k)
  ⟨Qs,ds,none,[],rfl,hb,rfl,List.Perm.refl _,rfl⟩ (fun k d acc c hd hP=>by
   rw[Nat.zero_add]at hP ⊢;obtain⟨left,d1,t,ns,rfl,b1,rfl,pm,hl⟩:=hP
   have hk:k<Qs.length:=by
    have:=(List.getElem?_eq_some_iff.mp hd).1
    rwa [List.length_map]at this
   have ll:left.length+k=Qs.length:=by have:=pm.length_eq;rw[List.length_append,hl]at this;omega
   obtain⟨r,d2,b2,r0,r1,e1⟩:=Dd (m:=(left.length:Int)) b1 (by omega) (by omega) (by omega)
   have hr:r.toNat<left.length:=by omega
   have hx:(left.map F)[r.toNat]?=some (F left[r.toNat]):=by simp[hr]
   have hix:ixN left.length r=some r.toNat:=Ap5 r0 r1
   refine⟨some (F left[r.toNat]),[some (.im d),some (.ls true ((left.eraseIdx r.toNat).map F)),some (.ls true d2)],?_,left.eraseIdx r.toNat,d2,_,ns++[left[r.toNat]],rfl,b2.mono (by omega),by simp,?_,by simp[hl]⟩
   ·wp_walk using Fi,List.length_map,e1,hix,hx,Qj,show left.length<=16000000 by omega
   ·rw[List.append_assoc]
    exact(List.Perm.append_left ns (Nz left hr)).trans pm)
 obtain⟨acc,cI,e,left,d1,t,ns,rfl,b1,rfl,pm,hl'⟩:=loop;rw[Nat.zero_add,List.length_map]at b1 hl'
 have l0:left=[]:=by
  have:=pm.length_eq;rw[List.length_append]at this
  exact List.eq_nil_of_length_eq_zero (by omega)
 subst l0;rw[List.append_nil]at pm
 refine⟨ns,d1,pm,b1,?_⟩
 exact Jk (ds:=Qs.map F) (c1:=[s0,s1,some (.ls false ds),s3,s4,s5,some (.ls false (Qs.map F)),s7,s8,s9,s10,s11,s12]) (by wp_walk using Cv,Eo,Vb) (by rw[List.length_map];omega) e (by wp_walk using true_and)
theorem Bp8 {B:Ev->SR}{d:PyData}{s0 s1 s3 s6 s8 s9 s10 s11 s12:Option O}{ds:List PyData}{w:Wd}{k:Nat}{qs:List (List Vl)}:Mz (cgN 8) B d (Rh s0 s1 ds s3 w k s6 qs [s8,s9,s10,s11,s12])=B (Rh s0 s1 ds s3 w k s6 qs [some (.im d),s9,s10,s11,s12]):=rfl
theorem Bq8 {B:Ev->SR}{d:PyData}{a b c x:Option O}{r:Ev}:Mz (cgN 3) B d (a::b::c::x::r)=B (a::b::c::some (.im d)::r):=rfl
theorem step1 {B:Ev->SR}{d:PyData}{a x:Option O}{r:Ev}:Mz (cgN 1) B d (a::x::r)=B (a::some (.im d)::r):=rfl
theorem Bm2 {n:Nat}{ds:List PyData}(hb:Bx n ds)(hn:n<2 ^ 35){s0 s1 s3 s4 s5 s6 s7 s8 s9 s10 s11 s12:Option O}:∃d1 y4 y5 y6 y7 y8 y9 y10 y11 y12,Bx (n+3100) d1 /\
 La [s0,s1,some (.ls false ds),s3,s4,s5,s6,s7,s8,s9,s10,s11,s12]=.nx [s0,s1,some (.ls false d1),s3,y4,y5,y6,y7,y8,y9,y10,y11,y12]:=by
 obtain⟨w,d1,ok,_,b1,e1⟩:=A8l (num:=false) hb hn;have z0:Ay w.d (.int 0)=some (.im (nD w.key)):=rfl;have z1:=A9g (ns:=w.key);have z2:Ba (.int (w.key.length:Nat)) (.int 1)=some (.im (.int ((w.key.length:Int)+1))):=rfl;have kl:=ok.klen
 obtain⟨r,d2,b2,r0,r1,e2⟩:=Dd (m:=(w.key.length:Int)+1) b1 (by omega) (by omega) (by omega)
 obtain⟨k,rfl⟩:=Int.eq_ofNat_of_zero_le r0
 have hk:k<=w.key.length:=by omega
 have g:=Al8 ok;have e3:=Ar1 g.ok (k:=k);rw[Bt7]at e3
 have hfl:(fs (pre w.nw.rows k)).length<=12:=Nat.le_trans (Ae0 _) (by rw[Sv];exact Rz ok)
 obtain⟨qs,d3,pm,b3,e4⟩:=A8b (F:=w.nw.one k) (Qs:=fs (pre w.nw.rows k)) b2 (by omega) (by omega) (s0:=s0) (s1:=s1) (s3:=s3) (s4:=some (.im w.d)) (s5:=some (.im (.int (k:Nat)))) (s7:=s7) (s8:=s8) (s9:=s9) (s10:=s10) (s11:=s11) (s12:=s12)
 have N:Nst w k qs:=⟨ok,hk,fun q hq=>yO.mp (pm.mem_iff.mp hq),pm.nodup_iff.mpr (A9q _),by rw[pm.length_eq];exact hfl⟩
 have l1:Eo (w.nw.out k)=some (.ls false ((fs (pre w.nw.rows k)).map (w.nw.one k))):=rfl;have l2:Bm (.list (qs.map (w.nw.one k)))=some (.im (ndD w k qs)):=rfl
 have head:∀G:Ev->SR,Bq (Df (cF Jv (Ae (Ac 2) (Ae (cC (.bool false)) Ar))) (cgN 4))
  (Bq (Df (cF Am (Ae (Ac 2) (Ae (cOp Ba (Ft (cOp Ay (Ac 4) (cC (.int 0)))) (cC (.int 1))) Ar))) (cgN 5))
  (Bq (Df (cUn Eo (cF Hx (Ae (Ac 4) (Ae (Ac 5) Ar)))) (cgN 6))
  (Bq (Df (cUn Bm (cLC [none,some 6,some 2] (Cv (cUn Eo (Ac 6))) (cgN 0) By (Ji (Ac 1) (cF Am (Ae (Ac 2) (Ae (Ft (Ac 1)) Ar)))))) (cgN 7)) G))) [s0,s1,some (.ls false ds),s3,s4,s5,s6,s7,s8,s9,s10,s11,s12]=G (Rh s0 s1 d3 s3 w k (some (.ls false [])) qs [s8,s9,s10,s11,s12]):=fun G=>by
  generalize hX:cLC [none,some 6,some 2] (Cv (cUn Eo (Ac 6))) (cgN 0) By (Ji (Ac 1) (cF Am (Ae (Ac 2) (Ae (Ft (Ac 1)) Ar))))=X at *
  unfold Rh
  generalize ndD w k qs=NN at *
  generalize w.nw.out k=OO at *
  generalize nD w.key=KK at *
  generalize w.d=WW at *
  wp_walk using e1,z0,z1,z2,e2,e3,l1,e4,l2
 have rg:∀(b:Bool) (m:Nat),Dh true (ndD w k qs) (.tuple [])=some (.im (.bool b))->Wq (.bool b)=some (.im (.int (if b then 1 else 0)))->Hm (.int 3) (.int (if b then 1 else 0))=some (.im (.int (m:Nat)))->((m:Int)<=16000000/\-16000000<=(m:Int))->Ju (cOp Hm (cC (.int 3)) (cUn Wq (cOp (Dh true) (Ac 7) (Fp Ar)))) (Rh s0 s1 d3 s3 w k (some (.ls false [])) qs [s8,s9,s10,s11,s12])=.ok (Iw 0 m) (Rh s0 s1 d3 s3 w k (some (.ls false [])) qs [s8,s9,s10,s11,s12]):=fun b m a1 a2 a3 a4=>by
  unfold Rh
  generalize ndD w k qs=NN at *
  generalize w.d=WW at *
  generalize (if b=true then (1:Int) else 0)=i at *
  wp_walk using a1,a2,a3,a4,Int.toNat_natCast
 unfold La
 cases qs with
 | nil =>
  refine⟨d3,some (.im w.d),some (.im (.int (k:Nat))),some (.ls false []),some (.im (ndD w k [])),s8,s9,s10,s11,s12,b3.mono (by omega),?_⟩
  exact(head _).trans ((J0 (rg false 0 rfl rfl rfl (by decide))).trans rfl)
 | cons q0 qs =>
  have q1:Dh true (ndD w k (q0::qs)) (.tuple [])=some (.im (.bool true)):=by
   rw[At2 (An8 N) (show Good (.tuple []) 1 10 from ⟨rfl,rfl,rfl,by decide,by decide⟩) (by decide) (by decide)];rfl
  obtain⟨c',e,d4,t8,t9,t10,t11,t12,rfl,_,b4⟩:=Gw (g:=cgN 8) (body:=Lb) (items:=Iw 0 3) (n:=0) (c:=Rh s0 s1 d3 s3 w k (some (.ls false [])) (q0::qs) [s8,s9,s10,s11,s12])
   (P:=fun j c=>∃d t8 t9 t10 t11 t12,c=Rh s0 s1 d s3 w k (some (.ls false [])) (q0::qs) [t8,t9,t10,t11,t12]/\j<=3/\Bx (n+3020+2*j) d) ⟨d3,_,_,_,_,_,rfl,by decide,b3.mono (by omega)⟩ (fun j d c hd hP=>by
    rw[Nat.zero_add]at hP ⊢;obtain⟨dd,t8,t9,t10,t11,t12,rfl,hj,bb⟩:=hP;obtain⟨rfl,hj'⟩:=J3 hd
    obtain⟨d5,y9,y10,y11,y12,b5,e5⟩:=A4w N bb (by omega) (s0:=s0) (s1:=s1) (s3:=s3) (s6:=some (.ls false [])) (s8:=some (.im (.int (0+(j:Int))))) (s9:=t9) (s10:=t10) (s11:=t11) (s12:=t12)
    exact⟨_,.inl ((Bp8 (B:=Lb)).trans e5),d5,_,_,_,_,_,rfl,by omega,b5.mono (by omega)⟩)
  refine⟨d4,some (.im w.d),some (.im (.int (k:Nat))),some (.ls false []),some (.im (ndD w k (q0::qs))),t8,t9,t10,t11,t12,b4.mono (by rw[Jz];omega),?_⟩
  exact(head _).trans ((J0 (rg true 3 q1 rfl rfl (by decide))).trans e)
theorem A2p:∀ns:List Int,ns.length<=63->Aj7 [.sc ns]=.ret (.im (.bool true)) [.sc ns]:=by
 intro ns hns
 obtain⟨m,hm,em⟩:∃m:Nat,m<=4/\(1:Int)+(if (ns.length:Int)<3 then (ns.length:Int) else 3)=(m:Int):=by
  split
  ·exact⟨ns.length+1,by omega,by omega⟩
  ·exact⟨4,by omega,by omega⟩
 have loop:=Gw (g:=cgN 1) (body:=Ot) (items:=Iw 0 m) (n:=0) (c:=[some (.sc ns),none,none,none,none,none,none,none,none,none,none,none,none])
  (P:=fun _ c=>∃a1 a2 a3 a4 a5 a6 a7 a8 a9 a10 a11 a12,c=[some (.sc ns),a1,a2,a3,a4,a5,a6,a7,a8,a9,a10,a11,a12]) ⟨_,_,_,_,_,_,_,_,_,_,_,_,rfl⟩ (fun k d c hd hP=>by
   obtain⟨a1,a2,a3,a4,a5,a6,a7,a8,a9,a10,a11,a12,rfl⟩:=hP;obtain⟨rfl,hk⟩:=J3 hd
   obtain⟨db,bb,e1⟩:=Bf8 (ns:=ns) (k:=k) (by omega)
   have inner:=Gw (g:=cgN 3) (body:=La) (items:=Iw 0 3) (n:=0) (c:=[some (.sc ns),some (.im (.int (0+(k:Int)))),some (.ls false db),a3,a4,a5,a6,a7,a8,a9,a10,a11,a12])
    (P:=fun j c=>∃d4 y3 y4 y5 y6 y7 y8 y9 y10 y11 y12,c=[some (.sc ns),some (.im (.int (0+(k:Int)))),some (.ls false d4),y3,y4,y5,y6,y7,y8,y9,y10,y11,y12]/\j<=3/\Bx (3100*j) d4) ⟨db,_,_,_,_,_,_,_,_,_,_,rfl,Nat.zero_le _,bb⟩ (fun j d c hd hP=>by
     rw[Nat.zero_add]at hP ⊢;obtain⟨d4,y3,y4,y5,y6,y7,y8,y9,y10,y11,y12,rfl,hj,b4⟩:=hP;obtain⟨rfl,hj'⟩:=J3 hd
     obtain⟨d5,u4,u5,u6,u7,u8,u9,u10,u11,u12,b5,e5⟩:=Bm2 (s0:=some (.sc ns)) (s1:=some (.im (.int (0+(k:Int))))) (s3:=some (.im (.int (0+(j:Int))))) (s4:=y4) (s5:=y5) (s6:=y6) (s7:=y7) (s8:=y8) (s9:=y9) (s10:=y10) (s11:=y11) (s12:=y12) b4 (by omega)
     exact⟨_,.inl ((Bq8 (B:=La)).trans e5),d5,_,_,_,_,_,_,_,_,_,_,rfl,by omega,b5.mono (by omega)⟩)
   obtain⟨c',e5,d4,y3,y4,y5,y6,y7,y8,y9,y10,y11,y12,rfl,_,_⟩:=inner
   refine⟨[some (.sc ns),some (.im (.int (0+(k:Int)))),some (.ls false d4),y3,y4,y5,y6,y7,y8,y9,y10,y11,y12],.inl ?_,_,_,_,_,_,_,_,_,_,_,_,_,rfl⟩
   refine (step1 (B:=Ot)).trans ?_
   unfold Ot
   refine (Gq (c':=[some (.sc ns),some (.im (.int (0+(k:Int)))),some (.ls false db),a3,a4,a5,a6,a7,a8,a9,a10,a11,a12]) (by wp_walk using show (0:Int)+(k:Int)=(k:Int) by omega,e1)).trans ?_
   exact(J0 (ds:=Iw 0 3) (c1:=[some (.sc ns),some (.im (.int (0+(k:Int)))),some (.ls false db),a3,a4,a5,a6,a7,a8,a9,a10,a11,a12]) (by wp_walk using true_and)).trans e5)
 obtain⟨c',e,a1,a2,a3,a4,a5,a6,a7,a8,a9,a10,a11,a12,rfl⟩:=loop
 refine Al3 (p:=.o (.im (.bool true))) (c:=[some (.sc ns),a1,a2,a3,a4,a5,a6,a7,a8,a9,a10,a11,a12]) ?_ rfl (by wp_walk using true_and)
 show Af9 [some (.sc ns),none,none,none,none,none,none,none,none,none,none,none,none]=_
 unfold Af9
 refine (Gq ((J0 (ds:=Iw 0 m) (c1:=[some (.sc ns),none,none,none,none,none,none,none,none,none,none,none,none]) ?_).trans e)).trans ?_
 ·wp_walk using Ai4,Ba,em,show (m:Int)<=16000000/\-16000000<=(m:Int) by omega,Int.toNat_natCast
 ·wp_walk using true_and
def top (i:Nat):Stmt:=PySem.Challenge.pw_pivotfold_k41_unnested.main.body.getD i (.Pass ⟨0,0,0,0⟩)
abbrev Qd:Stmt:=top 15
theorem Ae8:Ce ["thing"] ["thing"] (Ao Qd):=⟨rfl,rfl,rfl,by grind,rfl,by decide +kernel,by decide +kernel⟩
abbrev Jp:Stmt:=top 16
theorem S6:Ce ["thing"] ["thing"] (Ao Jp):=⟨rfl,rfl,rfl,by grind,rfl,by decide +kernel,by decide +kernel⟩
abbrev Gb:Stmt:=top 18
theorem Mu:Ce ["key", "names", "values"] ["key", "names", "values"] (Ao Gb):=⟨rfl,rfl,rfl,by trivial,rfl,by decide +kernel,by decide +kernel⟩
abbrev T5:Stmt:=top 20
theorem zU:Ce ["wide", "deep", "groups", "part", "cells", "columns_and_heads"] ["wide", "deep"] (Ao T5):=⟨rfl,rfl,rfl,by decide +kernel,rfl,by decide +kernel,by decide +kernel⟩
abbrev Gz:Stmt:=top 21
theorem zM:Ce ["nest", "key", "first", "rest"] ["nest", "key"] (Ao Gz):=⟨rfl,rfl,rfl,by decide +kernel,rfl,by decide +kernel,by decide +kernel⟩
abbrev N6:Stmt:=top 22
theorem zO:Ce ["nest", "key", "rows", "first", "rest", "inner"] ["nest", "key"] (Ao N6):=⟨rfl,rfl,rfl,by decide +kernel,rfl,by decide +kernel,by decide +kernel⟩
abbrev Le:Stmt:=top 24
theorem Yj:Ce ["_law_script", "_law_k"] ["_law_script", "_law_k"] (Ao Le):=⟨rfl,rfl,rfl,by trivial,rfl,by decide +kernel,by decide +kernel⟩
abbrev Xr:Stmt:=top 25
theorem yL:Ce ["_law_script", "_law_k", "_law_number_here"] ["_law_script", "_law_k"] (Ao Xr):=⟨rfl,rfl,rfl,by trivial,rfl,by decide +kernel,by decide +kernel⟩
abbrev Tg:Stmt:=top 26
theorem zZ:Ce ["_law_box_here", "_law_many_here", "_law_found", "_law_once", "_law_twice"] ["_law_box_here", "_law_many_here"] (Ao Tg):=⟨rfl,rfl,rfl,by trivial,rfl,by decide +kernel,by decide +kernel⟩
abbrev U4:Stmt:=top 27
theorem At3:Ce ["_law_box_here", "_law_least", "_law_few", "_law_most"] ["_law_box_here", "_law_least", "_law_few", "_law_most"] (Ao U4):=⟨rfl,rfl,rfl,by trivial,rfl,by decide +kernel,by decide +kernel⟩
abbrev Px:Stmt:=top 28
theorem yG:Ce ["_law_box_here", "_law_many_here", "_law_some"] ["_law_box_here", "_law_many_here"] (Ao Px):=⟨rfl,rfl,rfl,by trivial,rfl,by decide +kernel,by decide +kernel⟩
abbrev Qh:Stmt:=top 29
theorem yH:Ce ["_law_box_here", "_law_way"] ["_law_box_here"] (Ao Qh):=⟨rfl,rfl,rfl,by trivial,rfl,by decide +kernel,by decide +kernel⟩
abbrev Ng:Stmt:=top 30
theorem Zq:Ce ["_law_box_here"] ["_law_box_here"] (Ao Ng):=⟨rfl,rfl,rfl,by grind,rfl,by decide +kernel,by decide +kernel⟩
abbrev S9:Stmt:=top 31
theorem yC:Ce ["_law_box_here", "_law_many_here", "_law_found", "_law_turn", "_law_value_here"] ["_law_box_here", "_law_many_here"] (Ao S9):=⟨rfl,rfl,rfl,by trivial,rfl,by decide +kernel,by decide +kernel⟩
abbrev Nv:Stmt:=top 32
theorem zP:Ce ["_law_box_here", "_law_wide_here", "_law_many_here", "_law_pool_here", "_law_found", "_law_turn", "_law_one"] ["_law_box_here", "_law_wide_here", "_law_many_here"] (Ao Nv):=⟨rfl,rfl,rfl,by trivial,rfl,by decide +kernel,by decide +kernel⟩
abbrev U8:Stmt:=top 33
theorem zE:Ce ["_law_box_here", "_law_numbers", "_law_names_here", "_law_a", "_law_b", "_law_c", "_law_stem", "_law_over", "_law_values", "_law_heads", "_law_often", "_law_rows", "_law_part", "_law_cells", "_law_head", "_law_one"] ["_law_box_here", "_law_numbers"] (Ao U8):=⟨rfl,rfl,rfl,by trivial,rfl,by decide +kernel,by decide +kernel⟩
abbrev Ob:Stmt:=top 34
theorem Av7:Ce ["_law_found", "_law_due_here"] ["_law_found", "_law_due_here"] (Ao Ob):=⟨rfl,rfl,rfl,by trivial,rfl,by decide +kernel,by decide +kernel⟩
abbrev Uj:Stmt:=top 35
theorem zV:Ce ["_law_call", "_law_found", "_law_caught", "error", "_law_marks", "_law_others"] ["_law_call"] (Ao Uj):=⟨rfl,rfl,rfl,by decide +kernel,rfl,by decide +kernel,by decide +kernel⟩
abbrev Km:Stmt:=top 36
theorem zK:Ce ["_law_box_here", "_law_wide_here", "_law_deep", "_law_own", "_law_some", "_law_rest"] ["_law_box_here", "_law_wide_here", "_law_deep"] (Ao Km):=⟨rfl,rfl,rfl,by decide +kernel,rfl,by decide +kernel,by decide +kernel⟩
abbrev Xx:Stmt:=top 37
theorem zQ:Ce ["_law_nest", "_law_key", "_law_first", "_law_rest", "_law_columns", "_law_rows", "_law_some"] ["_law_nest", "_law_key"] (Ao Xx):=⟨rfl,rfl,rfl,by decide +kernel,rfl,by decide +kernel,by decide +kernel⟩
abbrev A1r:Stmt:=top 38
theorem zJ:Ce ["_law_script", "_law_k", "_law_box_here", "_law_turn", "_law_wide_here", "_law_deep", "_law_left", "_law_nest", "_law_again", "_law_key", "_law_handed", "_law_before", "_law_due_here"] ["_law_script"] (Ao A1r):=⟨rfl,rfl,rfl,by decide +kernel,rfl,by decide +kernel,by decide +kernel⟩
section
variable {P:Program}{w:World}{K:PySem.W.Frag}{mg:Str->Option Value}{base:Heap}
theorem Af5 {f:Addr}{o:FuncData}(F:Fun K "is_name" "is_name" Qd f o) (l:mg "all" = none) (d:mg "isinstance" = none) (m:mg "len" = none) (k:mg "str" = none) (e:∃t,mg "LETTERS" = some (Value.str "abcdefghijklmnopqrstuvwxyz" t)) (a:∃t,mg "LONGEST_NAME" = some (Value.int 8 t)):FnOk P w K mg base CX0 1 f o ["thing"] (spP K Dc):=by
 obtain⟨g,j⟩:=e;obtain⟨b,c⟩:=a
 refine F.ok Ae8 (fun r H Q E h=>Fd h) (fun u A n s H r Q E q h=>?_)
 have p:=q.units;have x:=q.gd
 refine Jl (Ai (Ex (QW.qt (M3 (Lg (Fz (Cj (Kq:=K) rfl rfl d (Ag (qv 0) (Ag (Dz (v:=.ty "str") rfl k U3 rfl) Af))))) (M3 (Ox p (qv 0) Gv) (Lp (Zo (Ei (Kq:=K) rfl rfl m (Ag (qv 0) Af)) (Aq3 (v:=.int 8) rfl c ⟨b,rfl⟩)))))) (Av (Bu M8)) Cq)
  (Av (Bu (Hu (Kq:=K) rfl rfl rfl l (Ag (by exact(Ks (N':=["sign"]) (idx:=[none]) (Gx rfl rfl (by decide +kernel) rfl rfl rfl) rfl (Bk9 (qv 0)) (fun _ _ _ _ _=>by exact(Br (i:=0) (by grind) rfl (Or.inl rfl))) (fun _ _ _ _ _=>by exact Gu) (fun _ _ _ _ _=>by exact(Bo8 p (qv 0) (Aq3 (v:=.str "abcdefghijklmnopqrstuvwxyz") rfl j ⟨g,rfl⟩) (by rfl))))) Af))))) ?_
 exact Em (Aw (Fj (My (Ld (N7 (G4 .str Aa))) (My (Cg (Aj Aa (Aq rfl) Ga)) (Cg (Aj (Ej Aa) (Aq rfl) Ai7)))) (Bt (Aq rfl)) Cp)
  (Bt (Bg (Ku (by decide) (Bc4 Aa) Al Ir (Aj Aa (Aq rfl) Bm6)) Rv))) h
theorem Uw {f:Addr}{l:FuncData}(F:Fun K "are_columns" "are_columns" Jp f l) (b:Def P w K mg base "is_name" 1 ["thing"] (spP K Dc)) (g:mg "all" = none) (a:mg "isinstance" = none) (c:mg "len" = none) (e:mg "set" = none) (d:mg "tuple" = none):FnOk P w K mg base CX0 2 f l ["thing"] (spP K Bj):=by
 refine F.ok S6 (fun o H Q E h=>Fd h) (fun n A j s H o Q E k h=>?_)
 have m:=k.units;have p:=k.gd
 refine Jl (Ai (Ex (QW.qt (M3 (Lg (Fz (Cj (Kq:=K) rfl rfl a (Ag (qv 0) (Ag (Dz (v:=.ty "tuple") rfl d Jq rfl) Af))))) (Lp (Ox m (Ei (Kq:=K) rfl rfl c (Ag (qv 0) Af)) Ah)))) (Av (Bu M8)) Cq)
  (Ai (Ex (Lg (Fz (Hu (Kq:=K) rfl rfl rfl g (Ag (by exact(Ks (N':=["name"]) (idx:=[none]) (Gx rfl rfl (by trivial) rfl rfl rfl) rfl (Hl (Kq:=K) rfl (qv 0)) (fun _ _ _ _ _=>by exact(Br (i:=0) (by grind) rfl (Or.inl rfl))) (fun _ _ _ _ _=>by exact Gu) (fun _ _ _ _ _=>by exact(Ck b k (Ag (qv 0) Af))))) Af)))) (Av (Bu M8)) Cq)
  (Av (Bu (Ws m (Af0 (Kq:=K) rfl rfl rfl e rfl c (qv 0)) (Ei (Kq:=K) rfl rfl c (Ag (qv 0) Af))))))) ?_
 exact Em (Aw (Fj (My (Ld (N7 (G4 .tuple Aa))) (Cg (Aj (Ej Aa) (Aq rfl) Ga))) (Bt (Aq rfl)) Cp)
  (Aw (Fj (Ld (N7 (Bg (Ku (by decide) (Hn Aa) Al Ir (Bb (Ab Aa An))) Rv))) (Bt (Aq rfl)) Cp)
  (Bt (Aj (Ay1 Aa) (Ej Aa) Ga)))) h
theorem Mr {f:Addr}{k:FuncData}(F:Fun K "are_wide_columns" "are_wide_columns" Gb f k) (a:Def P w K mg base "are_columns" 2 ["thing"] (spP K Bj)) (e:mg "all" = none) (b:mg "isinstance" = none) (d:mg "len" = none) (c:mg "tuple" = none):FnOk P w K mg base CX0 3 f k ["key", "names", "values"] (spP K Dm):=by
 refine F.ok Mu (fun n H Q E h=>Fd h) (fun l A g s H n Q E j h=>?_)
 have o:=j.units;have m:=j.gd
 refine Jl (Ai (Ex (Lg (Fz (Hu (Kq:=K) rfl rfl rfl e (Ag (by exact(Ks (N':=["some"]) (idx:=[none]) (Gx rfl rfl (by decide +kernel) rfl rfl rfl) rfl (Hl (Kq:=K) rfl (Et (Ag (qv 0) (Ag (qv 1) (Ag (qv 2) Af))))) (fun _ _ _ _ _=>by exact(Br (i:=0) (by simp_all) rfl (Or.inl rfl))) (fun _ _ _ _ _=>by exact Gu) (fun _ _ _ _ _=>by exact(Cj (Kq:=K) rfl rfl b (Ag (qv 0) (Ag (Dz (v:=.ty "tuple") rfl c Jq rfl) Af)))))) Af)))) (Av (Bu M8)) Cq)
  (Av (Bu (Qf (A3c (Ei (Kq:=K) rfl rfl d (Ag (qv 2) Af)) Ah) (Up (Ck a j (Ag (Bs (Bs (qv 0) (qv 1)) (qv 2)) Af))))))) ?_
 exact Em (Aw (Fj (Ld (N7 (Bg (Ku (by decide) (Hn (Fq (Ab Aa (Ab Aa (Ab Aa An))))) Al Ir (G4 .tuple Aa)) Rv))) (Bt (Aq rfl)) Cp)
  (Bt (Ls (Aj (Ej Aa) (Aq rfl) Ai7) (Bb (Ab (Aj (Aj Aa Aa Bh) Aa Bh) An))))) h
theorem As6 {f:Addr}{fd:FuncData}(F:Fun K "nested" "nested" T5 f fd) (z7:mg "tuple" = none):FnOk P w K mg base CX0 1 f fd ["wide", "deep"] (spP K Hx):=by
 refine F.ok zU (fun vs H Q E h=>Fd h) (fun cdv A outer s H vs Q E hr h=>?_)
 have hu:=hr.units;have hgd:=hr.gd
 refine Jl (Ai (Bo (i:=2) zU.nd rfl (Or.inl rfl) A4v) (Bi1 (d:=2) (Jm PassesOwn.never rfl (Hl (Kq:=K) rfl (Bl (Kq:=K) rfl (qv 0) Ah Ax)) (Kh (Kq:=K) rfl (n:=2) rfl (Dg (Br (i:=3) zU.nd rfl (Or.inl rfl)) (Dg (Br (i:=4) zU.nd rfl (Or.inl rfl)) Hv))) (Av (Ht (Ia (Kq:=K) rfl (A6f hu (qv 2) (G3 (Kq:=K) rfl (qv 3) Es (Cy (qv 1))) (Dq Af) ⟨rfl,rfl,rfl,rfl⟩) (Et (Ag (G3 (Kq:=K) rfl (qv 3) (Cy (qv 1)) Es) (Ag (qv 4) Af)))))))
  (Ai (Bo (i:=5) zU.nd rfl (Or.inr rfl) (Bs (Et (Ag (G3 (Kq:=K) rfl (Bl (Kq:=K) rfl (qv 0) Ah Ax) (Cy (qv 1)) Es) Af)) (G3 (Kq:=K) rfl (qv 0) (Cy Ah) (Cy Ah))))
  (Av (Bu (Az (Kq:=K) rfl rfl z7 (Ag (by exact(Ks (N':=["first", "rows", "columns_and_heads"]) (idx:=[none,none,some 5]) (Gx rfl rfl (by decide +kernel) rfl rfl rfl) rfl (Au5 (qv 2)) (fun _ _ _ _ _=>by exact(Kh (Kq:=K) rfl (n:=2) rfl (Dg (Br (i:=0) (by show (["first", "rows", "columns_and_heads"]:List Str).Nodup;decide +kernel) rfl (Or.inl rfl)) (Dg (Br (i:=1) (by show (["first", "rows", "columns_and_heads"]:List Str).Nodup;decide +kernel) rfl (Or.inl rfl)) Hv)))) (fun _ _ _ _ _=>by exact Gu) (fun _ _ _ _ _=>by exact(Et (Ag (qv 0) (Ag (Bs (qv 2) (Et (Ag (Az (Kq:=K) rfl rfl z7 (Ag (qv 1) Af)) Af))) Af)))))) Af))))))) ?_
 exact Em (A4e (Bm7 (Hn (Aj Aa (Aq rfl) Bc)) (Lh (Dl Al (Dl Al Iz))) (A7b (Ab4 (Aa2 (by decide)) Nj (Ab4 (Aa2 (by decide)) Nj A5a V4) (Ah0 Nj V4))) (Bk0 (Gs Aa Eu (Cz Aa) Do) (Fq (Ab (Gs Aa (Cz Aa) Eu Do) (Ab Aa An)))))
  (Aw (Bk (Aj (Fq (Ab (Gs (Aj Aa (Aq rfl) Bc) (Cz Aa) Eu Do) An)) (Gs Aa (Cz (Aq rfl)) (Cz (Aq rfl)) Do) Bh) Al)
  (Bt (Bg (Ku (by decide) (Ay3 Aa) (Lh (Dl Al (Dl Al Iz))) Ir (Fq (Ab Aa (Ab (Aj Aa (Fq (Ab (Bg Aa Di) An)) Bh) An)))) Di)))) h
theorem Np {f:Addr}{fd:FuncData}(F:Fun K "check_outer_key" "check_outer_key" Gz f fd) (D_are_wide_columns:Def P w K mg base "are_wide_columns" 3 ["key", "names", "values"] (spP K Dm)) (zA:mg "len" = none) (z7:mg "tuple" = none) (r_BadColumns:ClR K mg "BadColumns"):FnOk P w K mg base (CXe P w) 4 f fd ["nest", "key"] (spX K Cu):=by
 obtain⟨gr_BadColumns,mr_BadColumns,n_BadColumns,q_BadColumns⟩:=r_BadColumns
 refine F.okX zM (fun vs H Q E h=>Ao3 h) (fun cdv A outer s H vs Q E hr h=>?_)
 have hu:=hr.units;have hgd:=hr.gd
 refine Jl (Ai (Ex (Ox hu (Ei (Kq:=K) rfl rfl zA (Ag (qv 0) Af)) Ah) (Av (Ac1 Vv rfl rfl mr_BadColumns q_BadColumns (Ag Gv Af))) Cq)
  (Ai (Bo (i:=2) zM.nd rfl (Or.inl rfl) (Bl (Kq:=K) rfl (Bl (Kq:=K) rfl (qv 0) Ah Ax) Ah Ax))
  (Ai (Bo (i:=3) zM.nd rfl (Or.inl rfl) (Bl (Kq:=K) rfl (Bl (Kq:=K) rfl (qv 0) Ah Ax) Ah Ax))
  (Av (Ex (QW.qt (M3 (Wu hu (Ei (Kq:=K) rfl rfl zA (Ag (qv 1) Af)) (Ei (Kq:=K) rfl rfl zA (Ag (qv 2) Af))) (Lp (Lg (Fz (Ck D_are_wide_columns hr (Ag (Bs (Az (Kq:=K) rfl rfl z7 (Ag (qv 1) Af)) (Bl (Kq:=K) rfl (qv 3) Ah Ax)) (Ag (Bl (Kq:=K) rfl (qv 3) Ah Ax) (Ag (Bl (Kq:=K) rfl (qv 3) Ah Ax) Af))))))))) (Av (Ac1 Vv rfl rfl mr_BadColumns q_BadColumns (Ag Gv Af))) Cq))))) ?_
 exact An1 (Nr (A9h (Cg (Aj (Ej Aa) (Aq rfl) Ga)) (Zy n_BadColumns (Ab (Aq rfl) An) (fun _ _ _ e=>by cases e;decide)) (Je Cp))
  (Nr (Je (Bk (Aj (Aj Aa (Aq rfl) Bc) (Aq rfl) Bc) Al))
  (Nr (Je (Bk (Aj (Aj Aa (Aq rfl) Bc) (Aq rfl) Bc) Al))
  (A9h (My (Cg (Aj (Ej Aa) (Ej Aa) Nt)) (Ld (N7 (Bb (Ab (Aj (Bg Aa Di) (Aj Aa (Aq rfl) Bc) Bh) (Ab (Aj Aa (Aq rfl) Bc) (Ab (Aj Aa (Aq rfl) Bc) An))))))) (Zy n_BadColumns (Ab (Aq rfl) An) (fun _ _ _ e=>by cases e;decide)) (Je Cp))))) h
theorem Y9 {f:Addr}{fd:FuncData}(F:Fun K "unnested" "unnested" N6 f fd) (D_check_outer_key:DefX P w K mg base "check_outer_key" 4 ["nest", "key"] (spX K Cu)) (z7:mg "tuple" = none):FnOk P w K mg base (CXe P w) 5 f fd ["nest", "key"] (spX K Dp):=by
 obtain⟨f_check_outer_key,fd_check_outer_key,G_check_outer_key,b_check_outer_key,kp_check_outer_key,m_check_outer_key⟩:=D_check_outer_key
 refine F.okX zO (fun vs H Q E h=>Ao3 h) (fun cdv A outer s H vs Q E hr h=>?_)
 have hu:=hr.units;have hgd:=hr.gd
 refine Jl (Ai (Ht (Uu G_check_outer_key (hr.mono (by omega)) rfl m_check_outer_key kp_check_outer_key b_check_outer_key .nil Av4 (Ag (qv 0) (Ag (qv 1) Af))))
  (Ai (Bo (i:=2) zO.nd rfl (Or.inl rfl) (Dq Af))
  (Ai (Jm PassesOwn.leaving rfl (Hl (Kq:=K) rfl (qv 0)) (Kh (Kq:=K) rfl (n:=2) rfl (Dg (Br (i:=3) zO.nd rfl (Or.inr rfl)) (Dg (Br (i:=4) zO.nd rfl (Or.inl rfl)) Hv))) (Av (Ht (Za (Kq:=K) rfl PySem.F.plainAttrs_list PySem.F.slot_list_extend PySem.F.type_list_extend Ww (qv 2) (Ag (by exact(Ks (N':=["part", "cells", "first"]) (idx:=[none,none,some 3]) (Gx rfl rfl (by decide +kernel) rfl rfl rfl) rfl (Hl (Kq:=K) rfl (Bl (Kq:=K) rfl (qv 4) Ah Ax)) (fun _ _ _ _ _=>by exact(Kh (Kq:=K) rfl (n:=2) rfl (Dg (Br (i:=0) (by show (["part", "cells", "first"]:List Str).Nodup;decide +kernel) rfl (Or.inl rfl)) (Dg (Br (i:=1) (by show (["part", "cells", "first"]:List Str).Nodup;decide +kernel) rfl (Or.inl rfl)) Hv)))) (fun _ _ _ _ _=>by exact Gu) (fun _ _ _ _ _=>by exact(Et (Ag (Bs (qv 2) (qv 0)) (Ag (qv 1) Af)))))) Af)))))
  (Ai (Bo (i:=5) zO.nd rfl (Or.inl rfl) (Bl (Kq:=K) rfl (Bl (Kq:=K) rfl (qv 0) Ah Ax) Ah Ax))
  (Av (Bu (Bs (Bs (Et (Ag (Bs (Az (Kq:=K) rfl rfl z7 (Ag (qv 1) Af)) (Bl (Kq:=K) rfl (qv 5) Ah Ax)) Af)) (G3 (Kq:=K) rfl (qv 5) (Cy Ah) (Cy Ah))) (Et (Ag (Az (Kq:=K) rfl rfl z7 (Ag (qv 2) Af)) Af))))))))) ?_
 exact An1 (Nr (A3f (Ab Aa (Ab Aa An)))
  (Nr (Je (Bk (Dv An) Al))
  (Nr (Je (J7 (Hn Aa) (Lh (Dl Al (Dl Al Iz))) (J5 (A0h Aa (Ku (by decide) (Hn (Aj Aa (Aq rfl) Bc)) (Lh (Dl Al (Dl Al Iz))) Ir (Fq (Ab (Aj Aa Aa Bh) (Ab Aa An))))))))
  (Nr (Je (Bk (Aj (Aj Aa (Aq rfl) Bc) (Aq rfl) Bc) Al))
  (Je (Bt (Aj (Aj (Fq (Ab (Aj (Bg Aa Di) (Aj Aa (Aq rfl) Bc) Bh) An)) (Gs Aa (Cz (Aq rfl)) (Cz (Aq rfl)) Do) Bh) (Fq (Ab (Bg Aa Di) An)) Bh))))))) h
theorem Yi   (F:Fun K "_law_cell_at" "_law_cell_at" Le f c) (a:mg "len" = none):FnOk P w K mg base CX0 1 f c ["_law_script", "_law_k"] (spP K Fl):=by
 refine F.ok Yj (fun g H Q E h=>Fd h) (fun i A b s H g Q E d h=>?_)
 have j:=d.units;have e:=d.gd
 refine Jl (Ai (Ex (Uc (qv 1) (Ei  rfl rfl a (Ag (qv 0) Af))) (Av (Bu (A9i (show IxR _ _ from Bb3) (qv 0) (qv 1) Ah7))) Cq)
  (Av (Bu Ah))) ?_
 exact Em (Aw (Fj (Cg (Aj Aa (Ej Aa) Yr)) (Bt (Bd3 Aa Aa)) Cp)
  (Bt (Aq rfl))) h
theorem A0c {f:Addr}{g:FuncData}(F:Fun K "_law_box" "_law_box" Xr f g) (a:Def P w K mg base "_law_cell_at" 1 ["_law_script", "_law_k"] (spP K Fl)) (b:mg "abs" = none) (c:mg "int" = none):FnOk P w K mg base CX0 2 f g ["_law_script", "_law_k"] (spP K K4):=by
 refine F.ok yL (fun k H Q E h=>Fd h) (fun l A e s H k Q E d h=>?_)
 have m:=d.units;have j:=d.gd
 refine Jl (Ai (Bo (i:=2) yL.nd rfl (Or.inl rfl) (Ck a d (Ag (qv 0) (Ag (qv 1) Af))))
  (Av (Bu (Dq (Ag (G6 (Q8 (Kq:=K) rfl rfl b (Ag (qv 2) Af)) (Pb (Kq:=K) rfl rfl c (Ag (A1a (Q8 (Kq:=K) rfl rfl b (Ag (qv 2) Af)) (Hz Ah Ah)) Af))) (Ag (Bs (Bs (G8 (qv 2) Ah) (G6 Ah (qv 1))) Ah) (Ag Ah Af))))))) ?_
 exact Em (Aw (Bk (Bb (Ab Aa (Ab Aa An))) Al)
  (Bt (Dv (Ab (Aj (Bg Aa Am5) (Bg (Aj (Bg Aa Am5) (Aj (Aq rfl) (Aq rfl) Mm) Bk8) Ap6) Ie) (Ab (Aj (Aj (Aj Aa (Aq rfl) Jx) (Aj (Aq rfl) Aa Ie) Bh) (Aq rfl) Bh) (Ab (Aq rfl) An)))))) h
theorem Ax6   (F:Fun K "_law_take" "_law_take" Tg f b):FnOk P w K mg base CX0 1 f b ["_law_box_here", "_law_many_here"] (spP K Am):=by
 refine F.ok zZ (fun d H Q E h=>Fd h) (fun g A a s H d Q E c h=>?_)
 have j:=c.units;have e:=c.gd
 refine Jl (Ai (Ex (Zo (Bl (Kq:=K) rfl (qv 0) Ah Ax) Ah) (Ai (Bo (i:=2) zZ.nd rfl (Or.inl rfl) (G8 (Bl (Kq:=K) rfl (qv 0) Ah Ax) (qv 1)))
  (Ai (Xk (Ud (Bl (Kq:=K) rfl (qv 0) Ah Ax) (qv 1)) (A1t (qv 0) Ah set_list))
  (Av (Bu (qv 2))))) Cq)
  (Ai (Xk (Bs (Bl (Kq:=K) rfl (qv 0) Ah Ax) Ah) (A1t (qv 0) Ah set_list))
  (Ai (Bo (i:=3) zZ.nd rfl (Or.inl rfl) (G8 (G6 (Bs (Bl (Kq:=K) rfl (qv 0) Ah Ax) (G6 Ah (Bl (Kq:=K) rfl (qv 0) Ah Ax))) (Bs Ah (Bl (Kq:=K) rfl (qv 0) Ah Ax))) Ah))
  (Ai (Bo (i:=4) zZ.nd rfl (Or.inl rfl) (G8 (G6 (Bs (qv 3) (Bl (Kq:=K) rfl (qv 0) Ah Ax)) (Bs (G8 (qv 3) Ah) Ah)) Ah))
  (Av (Bu (G8 (Ud (G8 (Bs (G6 (qv 4) Ah) (qv 3)) Ah) Ah) (qv 1)))))))) ?_
 exact Em (Aw (Fj (Cg (Aj (Aj Aa (Aq rfl) Bc) (Aq rfl) Ai7)) (Aw (Bk (Aj (Aj Aa (Aq rfl) Bc) Aa Jx) Al)
  (Aw (Bk (Aj (Aj Aa (Aq rfl) Bc) Aa Ad6) (A1s Aa (Aq rfl)))
  (Bt Aa))) Cp)
  (Aw (Bk (Aj (Aj Aa (Aq rfl) Bc) (Aq rfl) Bh) (A1s Aa (Aq rfl)))
  (Aw (Bk (Aj (Aj (Aj (Aj Aa (Aq rfl) Bc) (Aj (Aq rfl) (Aj Aa (Aq rfl) Bc) Ie) Bh) (Aj (Aq rfl) (Aj Aa (Aq rfl) Bc) Bh) Ie) (Aq rfl) Jx) Al)
  (Aw (Bk (Aj (Aj (Aj Aa (Aj Aa (Aq rfl) Bc) Bh) (Aj (Aj Aa (Aq rfl) Jx) (Aq rfl) Bh) Ie) (Aq rfl) Jx) Al)
  (Bt (Aj (Aj (Aj (Aj (Aj Aa (Aq rfl) Ie) Aa Bh) (Aq rfl) Jx) (Aq rfl) Ad6) Aa Jx)))))) h
theorem Ar0 {f:Addr}{d:FuncData}(F:Fun K "_law_many" "_law_many" U4 f d) (a:Def P w K mg base "_law_take" 1 ["_law_box_here", "_law_many_here"] (spP K Am)):FnOk P w K mg base CX0 2 f d ["_law_box_here", "_law_least", "_law_few", "_law_most"] (spP K Hc):=by
 refine F.ok At3 (fun g H Q E h=>Fd h) (fun i A c s H g Q E b h=>?_)
 have e:=b.gd
 refine Jl (Ai (Ex (Ox b.units (Ck a b (Ag (qv 0) (Ag Ah Af))) Ah) (Av (Bu (Bs Ah (Ck a b (Ag (qv 0) (Ag (Gf (qv 3) Ah) Af)))))) Cq)
  (Av (Bu (Bs (qv 1) (Ck a b (Ag (qv 0) (Ag (Bs (Gf (qv 2) (qv 1)) Ah) Af))))))) ?_
 exact Em (Aw (Fj (Cg (Aj (Bb (Ab Aa (Ab (Aq rfl) An))) (Aq rfl) Ga)) (Bt (Aj (Aq rfl) (Bb (Ab Aa (Ab (Aj Aa (Aq rfl) Jf) An))) Bh)) Cp)
  (Bt (Aj Aa (Bb (Ab Aa (Ab (Aj (Aj Aa Aa Jf) (Aq rfl) Bh) An))) Bh))) h
theorem Ai0 {f:Addr}{m:FuncData}(F:Fun K "_law_names" "_law_names" Px f m) (d:Def P w K mg base "_law_take" 1 ["_law_box_here", "_law_many_here"] (spP K Am)) (g:mg "len" = none) (e:mg "range" = none):FnOk P w K mg base CX0 2 f m ["_law_box_here", "_law_many_here"] (spP K Hb):=by
 refine F.ok yG (fun l H Q E h=>Fd h) (fun n A j s H l Q E k h=>?_)
 have p:=k.units;have o:=k.gd
 refine Jl (Ai (Bo (i:=2) yG.nd rfl (Or.inr rfl) (Dq (Vx (vs:=[.str "b",.str "a",.str "year",.str "z",.str "ab",.str "month",.str "aa",.str "quantity",.str "c",.str "town",.str "zz",.str "ba"]) rfl)))
  (Av (Bu (by exact(Ks (N':=["_law_turn", "_law_some", "_law_box_here"]) (idx:=[none,some 2,some 0]) (Gx rfl rfl (by decide +kernel) rfl rfl rfl) rfl (G7 rfl e (Ag (qv 1) Af)) (fun _ _ _ _ _=>by exact(Br (i:=0) (by show (["_law_turn", "_law_some", "_law_box_here"]:List Str).Nodup;decide +kernel) rfl (Or.inl rfl))) (fun _ _ _ _ _=>by exact Gu) (fun _ _ _ _ _=>by exact(Za (Kq:=K) rfl PySem.F.plainAttrs_list PySem.F.slot_list_pop PySem.F.type_list_pop Ac2 (qv 1) (Ag (Ck d k (Ag (qv 2) (Ag (Ei (Kq:=K) rfl rfl g (Ag (qv 1) Af)) Af))) Af)))))))) ?_
 exact Em (Aw (Bk (Dv (Bs9 rfl)) Al)
  (Bt (Ku (by decide) (Ko Aa) Al Ir (Ab0 Aa (Bb (Ab Aa (Ab (Ej Aa) An))))))) h
theorem Ai1   (F:Fun K "_law_value" "_law_value" Qh f g) (c:Def P w K mg base "_law_take" 1 ["_law_box_here", "_law_many_here"] (spP K Am)):FnOk P w K mg base CX0 2 f g ["_law_box_here"] (spP K Cd):=by
 refine F.ok yH (fun k H Q E h=>Fd h) (fun m A e s H k Q E d h=>?_)
 have j:=d.units;have l:=d.gd
 refine Jl (Ai (Bo (i:=1) yH.nd rfl (Or.inl rfl) (Ck c d (Ag (qv 0) (Ag Ah Af))))
  (Ai (Ex (Uc (qv 1) Ah) (Av (Bu (Gf (Ck c d (Ag (qv 0) (Ag Ah Af))) Ah))) Cq)
  (Ai (Ex (Ox j (qv 1) Ah) (Av (Bu (Bl (Kq:=K) rfl (Dq (Ag (Gf (Hz Ah Ah) Ah) (Ag (Gf Ah (Hz Ah Ah)) (Ag Ah (Ag Ah Af))))) (Ck c d (Ag (qv 0) (Ag Ah Af))) Ge))) Cq)
  (Ai (Ex (Ox j (qv 1) Ah) (Av (Bu Ka)) Cq)
  (Av (Bu (Bl (Kq:=K) rfl (Dq (Vx (vs:=[.str "",.str "a",.str "b",.str "B",.str "10",.str "9",.str "-",.str "a b",.str "it's",.str "\\",.str "/",.str "_",.str ":",.str "None",.str "ab"]) rfl)) (Ck c d (Ag (qv 0) (Ag Ah Af))) Ge))))))) ?_
 exact Em (Aw (Bk (Bb (Ab Aa (Ab (Aq rfl) An))) Al)
  (Aw (Fj (Cg (Aj Aa (Aq rfl) Yr)) (Bt (Aj (Bb (Ab Aa (Ab (Aq rfl) An))) (Aq rfl) Jf)) Cp)
  (Aw (Fj (Cg (Aj Aa (Aq rfl) Ga)) (Bt (Aj (Dv (Ab (Aj (Aj (Aq rfl) (Aq rfl) Mm) (Aq rfl) Jf) (Ab (Aj (Aq rfl) (Aj (Aq rfl) (Aq rfl) Mm) Jf) (Ab (Aq rfl) (Ab (Aq rfl) An))))) (Bb (Ab Aa (Ab (Aq rfl) An))) Bc)) Cp)
  (Aw (Fj (Cg (Aj Aa (Aq rfl) Ga)) (Bt (Aq rfl)) Cp)
  (Bt (Aj (Dv (Bs9 rfl)) (Bb (Ab Aa (Ab (Aq rfl) An))) Bc)))))) h
theorem Zm {f:Addr}{d:FuncData}(F:Fun K "_law_number" "_law_number" Ng f d) (a:Def P w K mg base "_law_take" 1 ["_law_box_here", "_law_many_here"] (spP K Am)):FnOk P w K mg base CX0 2 f d ["_law_box_here"] (spP K De):=by
 refine F.ok Zq (fun g H Q E h=>Fd h) (fun i A c s H g Q E b h=>?_)
 have e:=b.gd
 refine Jl (Ai (Ex (Ox b.units (Ck a b (Ag (qv 0) (Ag Ah Af))) Ah) (Av (Bu (Bl (Kq:=K) rfl (Dq (Ag (Gf (Hz Ah Ah) Ah) (Ag (Gf Ah (Hz Ah Ah)) (Ag (Hz Ah Ah) (Ag Ah Af))))) (Ck a b (Ag (qv 0) (Ag Ah Af))) Ge))) Cq)
  (Av (Bu (Gf (Ck a b (Ag (qv 0) (Ag Ah Af))) Ah)))) ?_
 exact Em (Aw (Fj (Cg (Aj (Bb (Ab Aa (Ab (Aq rfl) An))) (Aq rfl) Ga)) (Bt (Aj (Dv (Ab (Aj (Aj (Aq rfl) (Aq rfl) Mm) (Aq rfl) Jf) (Ab (Aj (Aq rfl) (Aj (Aq rfl) (Aq rfl) Mm) Jf) (Ab (Aj (Aq rfl) (Aq rfl) Mm) (Ab (Aq rfl) An))))) (Bb (Ab Aa (Ab (Aq rfl) An))) Bc)) Cp)
  (Bt (Aj (Bb (Ab Aa (Ab (Aq rfl) An))) (Aq rfl) Jf))) h
theorem Aq8 {f:Addr}{e:FuncData}(F:Fun K "_law_pool" "_law_pool" S9 f e) (a:Def P w K mg base "_law_value" 2 ["_law_box_here"] (spP K Cd)) (b:mg "range" = none):FnOk P w K mg base CX0 3 f e ["_law_box_here", "_law_many_here"] (spP K Hy):=by
 refine F.ok yC (fun j H Q E h=>Fd h) (fun k A c s H j Q E d h=>?_)
 have g:=d.gd
 refine Jl (Ai (Bo (i:=2) yC.nd rfl (Or.inl rfl) (Dq Af))
  (Ai (Jm PassesOwn.never rfl (G7 rfl b (Ag (qv 1) Af)) (Br (i:=3) yC.nd rfl (Or.inl rfl)) (Ai (Bo (i:=4) yC.nd rfl (Or.inl rfl) (Ck a d (Ag (qv 0) Af)))
  (Av (Ex (O9 d.units (qv 4) (qv 2) (by trivial)) (Av (Ht (Ia (Kq:=K) rfl (qv 2) (qv 4)))) Cq))))
  (Av (Bu (qv 2))))) ?_
 exact Em (Aw (Bk (Dv An) Al)
  (Aw (J7 (Ko Aa) Al (Aw (Bk (Bb (Ab Aa An)) Al)
  (Fj (Cg (Aj Aa Aa Xa)) (J5 (Ue Aa Aa)) Cp)))
  (Bt Aa))) h
theorem Zb {f:Addr}{k:FuncData}(F:Fun K "_law_tuples" "_law_tuples" Nv f k) (b:Def P w K mg base "_law_take" 1 ["_law_box_here", "_law_many_here"] (spP K Am)) (c:Def P w K mg base "_law_pool" 3 ["_law_box_here", "_law_many_here"] (spP K Hy)) (e:mg "len" = none) (a:mg "range" = none) (d:mg "tuple" = none):FnOk P w K mg base CX0 4 f k ["_law_box_here", "_law_wide_here", "_law_many_here"] (spP K Gk):=by
 refine F.ok zP (fun n H Q E h=>Fd h) (fun l A j s H n Q E g h=>?_)
 have m:=g.gd
 refine Jl (Ai (Bo (i:=3) zP.nd rfl (Or.inr rfl) (Ck c g (Ag (qv 0) (Ag Ah Af))))
  (Ai (Bo (i:=4) zP.nd rfl (Or.inl rfl) (Dq Af))
  (Ai (Jm PassesOwn.never rfl (G7 rfl a (Ag (qv 2) Af)) (Br (i:=5) zP.nd rfl (Or.inl rfl)) (Ai (Bo (i:=6) zP.nd rfl (Or.inl rfl) (Az (Kq:=K) rfl rfl d (Ag (by exact(Ks (N':=["_law_k", "_law_pool_here", "_law_box_here"]) (idx:=[none,some 3,some 0]) (Gx rfl rfl (by decide +kernel) rfl rfl rfl) rfl (G7 rfl a (Ag (qv 1) Af)) (fun _ _ _ _ _=>by exact(Br (i:=0) (by show (["_law_k", "_law_pool_here", "_law_box_here"]:List Str).Nodup;decide +kernel) rfl (Or.inl rfl))) (fun _ _ _ _ _=>by exact Gu) (fun _ _ _ _ _=>by exact(Bl (Kq:=K) rfl (qv 1) (Ck b g (Ag (qv 2) (Ag (Ei (Kq:=K) rfl rfl e (Ag (qv 1) Af)) Af))) Ge)))) Af)))
  (Av (Ex (O9 g.units (qv 6) (qv 4) (by with_unfolding_all rfl)) (Av (Ht (Ia (Kq:=K) rfl (qv 4) (qv 6)))) Cq))))
  (Av (Bu (qv 4)))))) ?_
 exact Em (Aw (Bk (Bb (Ab Aa (Ab (Aq rfl) An))) Al)
  (Aw (Bk (Dv An) Al)
  (Aw (J7 (Ko Aa) Al (Aw (Bk (Bg (Ku (by decide) (Ko Aa) Al Ir (Aj Aa (Bb (Ab Aa (Ab (Ej Aa) An))) Bc)) Di) Al)
  (Fj (Cg (Aj Aa Aa Xa)) (J5 (Ue Aa Aa)) Cp)))
  (Bt Aa)))) h
theorem As3 {f:Addr}{o:FuncData}(F:Fun K "_law_wide" "_law_wide" U8 f o) (a:Def P w K mg base "_law_take" 1 ["_law_box_here", "_law_many_here"] (spP K Am)) (d:Def P w K mg base "_law_many" 2 ["_law_box_here", "_law_least", "_law_few", "_law_most"] (spP K Hc)) (m:Def P w K mg base "_law_names" 2 ["_law_box_here", "_law_many_here"] (spP K Hb)) (l:Def P w K mg base "_law_value" 2 ["_law_box_here"] (spP K Cd)) (e:Def P w K mg base "_law_number" 2 ["_law_box_here"] (spP K De)) (c:Def P w K mg base "_law_tuples" 4 ["_law_box_here", "_law_wide_here", "_law_many_here"] (spP K Gk)) (b:mg "tuple" = none):FnOk P w K mg base CX0 5 f o ["_law_box_here", "_law_numbers"] (spP K Jv):=by
 refine F.ok zE (fun r H Q E h=>Fd h) (fun q A n s H r Q E g h=>?_)
 have p:=g.units;have t:=g.gd
 refine Jl (Ai (Bo (i:=2) zE.nd rfl (Or.inl rfl) (Ck m g (Ag (qv 0) (Ag Ah Af))))
  (Ai (A5m (i:=3) (j:=4) (k:=5) rfl zE.nd rfl rfl rfl (by decide) (by decide) (by decide) rfl rfl rfl (Ag (Ck a g (Ag (qv 0) (Ag Ah Af))) (Ag (Ck a g (Ag (qv 0) (Ag Ah Af))) (Ag (Bs Ah (Ck a g (Ag (qv 0) (Ag Ah Af)))) Af))) rfl)
  (Ai (Ex (Ox p (Ck a g (Ag (qv 0) (Ag Ah Af))) Ah) (Av (Bo (i:=5) zE.nd rfl (Or.inl rfl) (Bs Ah (Ck a g (Ag (qv 0) (Ag Ah Af)))))) Cq)
  (Ai (Bb2 (i:=6) (j:=7) rfl zE.nd rfl rfl (by decide) rfl rfl (Ag (G3 (Kq:=K) rfl (qv 2) Es (Cy (qv 3))) (Ag (G3 (Kq:=K) rfl (qv 2) (Cy (qv 3)) (Cy (Bs (qv 3) (qv 4)))) Af)) rfl)
  (Ai (Bo (i:=8) zE.nd rfl (Or.inl rfl) (G3 (Kq:=K) rfl (qv 2) (Cy (Bs (qv 3) (qv 4))) (Cy (Bs (Bs (qv 3) (qv 4)) (qv 5)))))
  (Ai (Bo (i:=9) zE.nd rfl (Or.inl rfl) (Ck c g (Ag (qv 0) (Ag (qv 4) (Ag (Ck d g (Ag (qv 0) (Ag Ah (Ag Ah (Ag Ah Af))))) Af)))))
  (Ai (Bo (i:=10) zE.nd rfl (Or.inl rfl) (Bl (Kq:=K) rfl (Dq (Ag Ah (Ag Ah (Ag Ah Af)))) (Ck a g (Ag (qv 0) (Ag Ah Af))) Ge))
  (Ai (Bo (i:=11) zE.nd rfl (Or.inl rfl) (Dq Af))
  (Ai (Jm PassesOwn.never rfl (Hl (Kq:=K) rfl (Ck c g (Ag (qv 0) (Ag (qv 3) (Ag (Ck d g (Ag (qv 0) (Ag Ah (Ag Ah (Ag Ah Af))))) Af))))) (Br (i:=12) zE.nd rfl (Or.inl rfl)) (Ai (Bo (i:=13) zE.nd rfl (Or.inl rfl) (Dq Af))
  (Ai (Jm PassesOwn.never rfl (Hl (Kq:=K) rfl (qv 9)) (Br (i:=14) zE.nd rfl (Or.inl rfl)) (Ai (Bo (i:=15) zE.nd rfl (Or.inl rfl) (Az (Kq:=K) rfl rfl b (Ag (by exact(Ks (N':=["_law_name", "_law_numbers", "_law_box_here"]) (idx:=[none,some 1,some 0]) (Gx rfl rfl (by decide +kernel) rfl rfl rfl) rfl (Hl (Kq:=K) rfl (qv 8)) (fun _ _ _ _ _=>by exact(Br (i:=0) (by show (["_law_name", "_law_numbers", "_law_box_here"]:List Str).Nodup;decide +kernel) rfl (Or.inl rfl))) (fun _ _ _ _ _=>by exact Gu) (fun _ _ _ _ _=>by exact(Ur (Fz (qv 1)) (Ck e g (Ag (qv 2) Af)) (Ck l g (Ag (qv 2) Af)))))) Af)))
  (Av (Ht (Ia (Kq:=K) rfl (qv 13) (Ur (Ox p (Ck a g (Ag (qv 0) (Ag (qv 10) Af))) Ah) Ka (qv 15)))))))
  (Av (Ht (Ia (Kq:=K) rfl (qv 11) (Et (Ag (qv 12) (Ag (Az (Kq:=K) rfl rfl b (Ag (qv 13) Af)) Af)))))))))
  (Av (Bu (Et (Ag (Az (Kq:=K) rfl rfl b (Ag (qv 6) Af)) (Ag (Az (Kq:=K) rfl rfl b (Ag (qv 7) Af)) (Ag (Az (Kq:=K) rfl rfl b (Ag (qv 8) Af)) (Ag (Az (Kq:=K) rfl rfl b (Ag (qv 9) Af)) (Ag (Az (Kq:=K) rfl rfl b (Ag (qv 11) Af)) Af))))))))))))))))) ?_
 exact Em (Aw (Bk (Bb (Ab Aa (Ab (Aq rfl) An))) Al)
  (Aw (A5q (Ab (Bb (Ab Aa (Ab (Aq rfl) An))) (Ab (Bb (Ab Aa (Ab (Aq rfl) An))) (Ab (Aj (Aq rfl) (Bb (Ab Aa (Ab (Aq rfl) An))) Bh) An))))
  (Aw (Fj (Cg (Aj (Bb (Ab Aa (Ab (Aq rfl) An))) (Aq rfl) Ga)) (Bk (Aj (Aq rfl) (Bb (Ab Aa (Ab (Aq rfl) An))) Bh) Al) Cp)
  (Aw (Be4 (Ab (Gs Aa Eu (Cz Aa) Do) (Ab (Gs Aa (Cz Aa) (Cz (Aj Aa Aa Bh)) Do) An)))
  (Aw (Bk (Gs Aa (Cz (Aj Aa Aa Bh)) (Cz (Aj (Aj Aa Aa Bh) Aa Bh)) Do) Al)
  (Aw (Bk (Bb (Ab Aa (Ab Aa (Ab (Bb (Ab Aa (Ab (Aq rfl) (Ab (Aq rfl) (Ab (Aq rfl) An))))) An)))) Al)
  (Aw (Bk (Aj (Dv (Ab (Aq rfl) (Ab (Aq rfl) (Ab (Aq rfl) An)))) (Bb (Ab Aa (Ab (Aq rfl) An))) Bc) Al)
  (Aw (Bk (Dv An) Al)
  (Aw (J7 (Hn (Bb (Ab Aa (Ab Aa (Ab (Bb (Ab Aa (Ab (Aq rfl) (Ab (Aq rfl) (Ab (Aq rfl) An))))) An))))) Al (Aw (Bk (Dv An) Al)
  (Aw (J7 (Hn Aa) Al (Aw (Bk (Bg (Ku (by decide) (Hn Aa) Al Ir (Aj9 (N7 Aa) (Bb (Ab Aa An)) (Bb (Ab Aa An)))) Di) Al)
  (J5 (Ue Aa (Aj9 (Cg (Aj (Bb (Ab Aa (Ab Aa An))) (Aq rfl) Ga)) (Aq rfl) Aa)))))
  (J5 (Ue Aa (Fq (Ab Aa (Ab (Bg Aa Di) An))))))))
  (Bt (Fq (Ab (Bg Aa Di) (Ab (Bg Aa Di) (Ab (Bg Aa Di) (Ab (Bg Aa Di) (Ab (Bg Aa Di) An)))))))))))))))) h
theorem At0 {n:Nat}{f:Addr}{r:FuncData}(F:Fun K "_law_same" "_law_same" Ob f r) (g:Def P w K mg base "_law_same" (n) ["_law_found", "_law_due_here"] (spP K (Cw n))) (m:mg "all" = none) (d:mg "bool" = none) (l:mg "int" = none) (a:mg "isinstance" = none) (j:mg "len" = none) (c:mg "list" = none) (e:mg "str" = none) (b:mg "tuple" = none) (k:mg "zip" = none):FnOk P w K mg base CX0 (n+1) f r ["_law_found", "_law_due_here"] (spP K (Cw (n+1))):=by
 refine F.ok Av7 (fun u H Q E h=>Fd h) (fun x A p s H u Q E q h=>?_)
 have o:=q.units;have t:=q.gd
 refine Jl (Ai (Ex (Fz (Xn (Kq:=K) rfl rfl a (Ag (qv 1) (Ag (Et (Ag (Dz (v:=.ty "list") rfl c R9 rfl) (Ag (Dz (v:=.ty "tuple") rfl b Jq rfl) Af))) Af)))) (Ai (Ex (QW.qt (M3 (Wu o (Cj (Kq:=K) rfl rfl a (Ag (qv 0) (Ag (Dz (v:=.ty "list") rfl c R9 rfl) Af))) (Cj (Kq:=K) rfl rfl a (Ag (qv 1) (Ag (Dz (v:=.ty "list") rfl c R9 rfl) Af)))) (Lp (Wu o (Cj (Kq:=K) rfl rfl a (Ag (qv 0) (Ag (Dz (v:=.ty "tuple") rfl b Jq rfl) Af))) (Cj (Kq:=K) rfl rfl a (Ag (qv 1) (Ag (Dz (v:=.ty "tuple") rfl b Jq rfl) Af))))))) (Av (Bu M8)) Cq)
  (Av (Bu (Qf (Ws o (Ei (Kq:=K) rfl rfl j (Ag (qv 0) Af)) (Ei (Kq:=K) rfl rfl j (Ag (qv 1) Af))) (Up (Hu (Kq:=K) rfl rfl rfl m (Ag (by exact(Ks (N':=["_law_one", "_law_other"]) (idx:=[none,none]) (Gx rfl rfl (by decide +kernel) rfl rfl rfl) rfl (Bh6 rfl k (Ag (qv 0) (Ag (qv 1) Af))) (fun _ _ _ _ _=>by exact(Kh (Kq:=K) rfl (n:=2) rfl (Dg (Br (i:=0) (by show (["_law_one", "_law_other"]:List Str).Nodup;decide +kernel) rfl (Or.inl rfl)) (Dg (Br (i:=1) (by show (["_law_one", "_law_other"]:List Str).Nodup;decide +kernel) rfl (Or.inl rfl)) Hv)))) (fun _ _ _ _ _=>by exact Gu) (fun _ _ _ _ _=>by exact(Ck g q (Ag (qv 0) (Ag (qv 1) Af)))))) Af))))))) Cq)
  (Ai (Ex (QW.qt (M3 (Vu (qv 1) Ka) (Lp (Fz (Cj (Kq:=K) rfl rfl a (Ag (qv 1) (Ag (Dz (v:=.ty "str") rfl e U3 rfl) Af))))))) (Av (Bu (Qf (Ws o (qv 0) (qv 1)) (Up (Ws o (Cj (Kq:=K) rfl rfl a (Ag (qv 0) (Ag (Dz (v:=.ty "str") rfl e U3 rfl) Af))) (Cj (Kq:=K) rfl rfl a (Ag (qv 1) (Ag (Dz (v:=.ty "str") rfl e U3 rfl) Af)))))))) Cq)
  (Ai (Ex (Fz (Cj (Kq:=K) rfl rfl a (Ag (qv 1) (Ag (Dz (v:=.ty "bool") rfl d Xf rfl) Af)))) (Av (Bu (Qf (Cj (Kq:=K) rfl rfl a (Ag (qv 0) (Ag (Dz (v:=.ty "bool") rfl d Xf rfl) Af))) (Up (Ws o (qv 0) (qv 1)))))) Cq)
  (Av (Bu (Qf (Cj (Kq:=K) rfl rfl a (Ag (qv 0) (Ag (Dz (v:=.ty "int") rfl l A2f rfl) Af))) (Qf (Bc9 (Cj (Kq:=K) rfl rfl a (Ag (qv 0) (Ag (Dz (v:=.ty "bool") rfl d Xf rfl) Af)))) (Up (Ws o (qv 0) (qv 1)))))))))) ?_
 exact Em (Aw (Fj (N7 (A5p .list .tuple Aa)) (Aw (Fj (My (Cg (Aj (G4 .list Aa) (G4 .list Aa) Nt)) (Cg (Aj (G4 .tuple Aa) (G4 .tuple Aa) Nt))) (Bt (Aq rfl)) Cp)
  (Bt (Ls (Aj (Ej Aa) (Ej Aa) Ga) (Bg (Ku (by decide) (Bk3 Aa Aa) (Lh (Dl Al (Dl Al Iz))) Ir (Bb (Ab Aa (Ab Aa An)))) Rv)))) Cp)
  (Aw (Fj (My (Cg (Aj Aa (Aq rfl) A8j)) (N7 (G4 .str Aa))) (Bt (Ls (Aj Aa Aa Ga) (Aj (G4 .str Aa) (G4 .str Aa) Ga))) Cp)
  (Aw (Fj (N7 (G4 .bool Aa)) (Bt (Ls (G4 .bool Aa) (Aj Aa Aa Ga))) Cp)
  (Bt (Ls (G4 _ Aa) (Ls (A8k (G4 _ Aa)) (Aj Aa Aa Ga))))))) h
theorem Tu {f:Addr}{fd:FuncData}(F:Fun K "_law_same" "_law_same" Ob f fd) (bF:Binds K fd ["_law_found", "_law_due_here"] []) (mF:mg "_law_same" = some (.ref f)) (yE:mg "all" = none) (yI:mg "bool" = none) (yD:mg "int" = none) (z8:mg "isinstance" = none) (zA:mg "len" = none) (zF:mg "list" = none) (zW:mg "str" = none) (z7:mg "tuple" = none) (yJ:mg "zip" = none):∀n:Nat,FnOk P w K mg base CX0 (n) f fd ["_law_found", "_law_due_here"] (spP K (Cw n))
 | 0=>Bm0
 | n+1=>At0 F ⟨f,fd,Tu F bF mF yE yI yD z8 zA zF zW z7 yJ n,bF,F.kp,mF⟩ yE yI yD z8 zA zF zW z7 yJ
theorem Ax9 {f:Addr}{fd:FuncData}(F:Fun K "_law_told" "_law_told" Uj f fd) (hb:Binds K fd ["_law_call"] []) (gm:mg "_law_told" = some (.ref f)) (zY:mg "ValueError" = none) (z8:mg "isinstance" = none) (zA:mg "len" = none) (k_BadColumns:ClT K mg [("BadColumns",true)] "BadColumns") (k_BadOrder:ClT K mg [("BadColumns",false)] "BadOrder") (k_BadRow:ClT K mg [("BadColumns",false)] "BadRow") (k_BadWay:ClT K mg [("BadColumns",false)] "BadWay") (k_Double:ClT K mg [("BadColumns",false)] "Double") (k_NoColumn:ClT K mg [("BadColumns",false)] "NoColumn") (k_NoHead:ClT K mg [("BadColumns",false)] "NoHead") (k_NoNumber:ClT K mg [("BadColumns",false)] "NoNumber") (k_NoPart:ClT K mg [("BadColumns",false)] "NoPart") (k_NoRow:ClT K mg [("BadColumns",false)] "NoRow") (k_ValueError:TbOk K (.type "ValueError") [("BadColumns",true)]) (h_FoldError:ClF K mg ["BadColumns"] "FoldError"):A9r P w K mg base "_law_told" 1 ["BadColumns"] (spP K Ez):=by
 obtain⟨gt_BadColumns,mt_BadColumns,tb_BadColumns⟩:=k_BadColumns;obtain⟨gt_BadOrder,mt_BadOrder,tb_BadOrder⟩:=k_BadOrder;obtain⟨gt_BadRow,mt_BadRow,tb_BadRow⟩:=k_BadRow;obtain⟨gt_BadWay,mt_BadWay,tb_BadWay⟩:=k_BadWay;obtain⟨gt_Double,mt_Double,tb_Double⟩:=k_Double;obtain⟨gt_NoColumn,mt_NoColumn,tb_NoColumn⟩:=k_NoColumn;obtain⟨gt_NoHead,mt_NoHead,tb_NoHead⟩:=k_NoHead;obtain⟨gt_NoNumber,mt_NoNumber,tb_NoNumber⟩:=k_NoNumber;obtain⟨gt_NoPart,mt_NoPart,tb_NoPart⟩:=k_NoPart;obtain⟨gt_NoRow,mt_NoRow,tb_NoRow⟩:=k_NoRow;have tb_ValueError:=k_ValueError;obtain⟨gf_FoldError,mf_FoldError,xf_FoldError⟩:=h_FoldError
 refine⟨gf_FoldError,A5v F zV hb gm mf_FoldError (fun cdv A outer s H=>by exact(Xk (Et (Ag Ka (Ag Ka Af))) (Kh (Kq:=K) rfl (n:=2) rfl (Dg (Br (i:=1) zV.nd rfl (Or.inl rfl)) (Dg (Br (i:=2) zV.nd rfl (Or.inl rfl)) Hv))))) (fun cdv A outer s H0 H vs Q E hr h=>?_),xf_FoldError⟩
 have hu:=hr.units;have hgd:=hr.gd
 refine Jl (Ai (Ex (Vu (qv 1) Ka) (Av (Bu (qv 0))) Cq)
  (Ai (Bo (i:=3) (List.nodup_cons.mp zV.nd).2 rfl (Or.inl rfl) (Dq (Ag (Pj (Kq:=K) rfl rfl z8 (Ag (qv 1) (Ag (Jo rfl mt_BadColumns) Af))) (Ag (Pj (Kq:=K) rfl rfl z8 (Ag (qv 1) (Ag (Jo rfl mt_NoColumn) Af))) (Ag (Pj (Kq:=K) rfl rfl z8 (Ag (qv 1) (Ag (Jo rfl mt_BadWay) Af))) Af)))))
  (Ai (Ht (Ia (Kq:=K) rfl (qv 3) (Pj (Kq:=K) rfl rfl z8 (Ag (qv 1) (Ag (Jo rfl mt_NoNumber) Af)))))
  (Ai (Bo (i:=4) (List.nodup_cons.mp zV.nd).2 rfl (Or.inl rfl) (A0s (Kq:=K) rfl rfl z8 (Ag (qv 1) (Ag (Et (Ag (Jo rfl mt_BadOrder) (Ag (Jo rfl mt_BadRow) (Ag (Jo rfl mt_Double) (Ag (Jo rfl mt_NoHead) (Ag (Jo rfl mt_NoPart) (Ag (Jo rfl mt_NoRow) Af))))))) Af))))
  (Ai (Ex (QW.qt (M3 (Fz (qv 4)) (M3 (Lg (Fz (Pj (Kq:=K) rfl rfl z8 (Ag (qv 1) (Ag (Dz (v:=.ty "ValueError") rfl zY Vk rfl) Af))))) (Lp (Wu hu (Ei (Kq:=K) rfl rfl zA (Ag (by exact(Ks (N':=["_law_mark"]) (idx:=[none]) (Gx rfl rfl (by decide +kernel) rfl rfl rfl) rfl (Hl (Kq:=K) rfl (qv 3)) (fun _ _ _ _ _=>by exact(Br (i:=0) (by show (["_law_mark"]:List Str).Nodup;decide +kernel) rfl (Or.inl rfl))) (fun _ _ _ _ _=>by exact(A7a (Fz (qv 0)))) (fun _ _ _ _ _=>by exact(qv 0)))) Af)) Ah))))) (Av (Bu (Et (Ag Gv (Ag (Ux Ah) (Ag Ka Af)))))) Cq)
  (Av (Bu (Et (Ag Gv (Ag (Za (Kq:=K) rfl PySem.F.plainAttrs_list PySem.F.slot_list_index PySem.F.type_list_index (Ar9 rfl hu) (qv 3) (Ag M8 Af)) (Ag (Ur (Fz (Bl (Kq:=K) rfl (qv 3) Ah Ax)) A1c Ka) Af))))))))))) ?_
 exact Em (Aw (Fj (Cg (A5d Aa)) (Bt Aa) Cp)
  (Aw (Bk (Dv (Ab (Ov rfl tb_BadColumns Aa) (Ab (Ov rfl tb_NoColumn Aa) (Ab (Ov rfl tb_BadWay Aa) An)))) Al)
  (Aw (J5 (Ue Aa (Ov rfl tb_NoNumber Aa)))
  (Aw (Bk (A2g (show Z0 K _ [("BadColumns",false)] from (Lq tb_BadOrder (Lq tb_BadRow (Lq tb_Double (Lq tb_NoHead (Lq tb_NoPart (A6j tb_NoRow) rfl) rfl) rfl) rfl) rfl)) Aa) Al)
  (Aw (Fj (My (N7 Aa) (My (Ld (N7 (Ov rfl tb_ValueError Aa))) (Cg (Aj (Ej (Ku (by decide) (Hn Aa) Al (N7 Aa) Aa)) (Aq rfl) Nt)))) (Bt (Fq (Ab (Aq rfl) (Ab (M6 (Aq rfl) R8) (Ab (Aq rfl) An))))) Cp)
  (Bt (Fq (Ab (Aq rfl) (Ab (Bn9 Aa (Aq rfl) Bg6 Ae3) (Ab (Aj9 (N7 (Aj Aa (Aq rfl) Bc)) A0f (Aq rfl)) An)))))))))) h
theorem Vj {f:Addr}{fd:FuncData}(F:Fun K "_law_names_by" "_law_names_by" Km f fd) (D_l_take:Def P w K mg base "_law_take" 1 ["_law_box_here", "_law_many_here"] (spP K Am)) (zA:mg "len" = none) (zF:mg "list" = none):FnOk P w K mg base CX0 2 f fd ["_law_box_here", "_law_wide_here", "_law_deep"] (spP K Fw):=by
 refine F.ok zK (fun vs H Q E h=>Fd h) (fun cdv A outer s H vs Q E hr h=>?_)
 have hu:=hr.units;have hgd:=hr.gd
 refine Jl (Ai (Bo (i:=3) zK.nd rfl (Or.inl rfl) (Dk (Kq:=K) rfl rfl zF (Ag (G3 (Kq:=K) rfl (Bl (Kq:=K) rfl (qv 1) Ah Ax) Es (Cy (qv 2))) Af)))
  (Ai (Bo (i:=4) zK.nd rfl (Or.inl rfl) (Dq (Ag (qv 3) (Ag (A5w (Kq:=K) rfl (qv 3) (Cy (Ux Ah))) (Ag (G3 (Kq:=K) rfl (Dq (Ag Gv (Ag Gv (Ag Gv Af)))) Es (Cy (qv 2))) (Ag (Bs (Dq (Ag Gv Af)) (G3 (Kq:=K) rfl (qv 3) (Cy Ah) Es)) (Ag (G3 (Kq:=K) rfl (Dq (Ag Gv (Ag Gv (Ag Gv Af)))) Es (Cy (Bs (qv 2) Ah))) (Ag (G3 (Kq:=K) rfl (qv 3) (Cy Ah) Es) Af))))))))
  (Ai (Bo (i:=5) zK.nd rfl (Or.inl rfl) (Dk (Kq:=K) rfl rfl zF (Ag (Bs (Bs (G3 (Kq:=K) rfl (Bl (Kq:=K) rfl (qv 1) Ah Ax) (Cy (qv 2)) Es) (Bl (Kq:=K) rfl (qv 1) Ah Ax)) (Bl (Kq:=K) rfl (qv 1) Ah Ax)) Af)))
  (Ai (Bo (i:=4) zK.nd rfl (Or.inl rfl) (Bs (qv 4) (Dq (Ag (Bs (G3 (Kq:=K) rfl (qv 5) Es (Cy Ah)) (G3 (Kq:=K) rfl (qv 3) (Cy Ah) Es)) (Ag (Bs (G3 (Kq:=K) rfl (qv 3) Es (Cy (Ux Ah))) (G3 (Kq:=K) rfl (qv 5) (Cy (Ux Ah)) Es)) (Ag (Aw2 (Dq (Ag Gv Af)) (qv 2)) (Ag (Bs (qv 3) (G3 (Kq:=K) rfl (qv 5) (Cy (Ux Ah)) Es)) Af)))))))
  (Av (Bu (Bl (Kq:=K) rfl (qv 4) (Ck D_l_take hr (Ag (qv 0) (Ag (Ei (Kq:=K) rfl rfl zA (Ag (qv 4) Af)) Af))) Ge))))))) ?_
 exact Em (Aw (Bk (Bg (Gs (Aj Aa (Aq rfl) Bc) Eu (Cz Aa) Do) Ig) Al)
  (Aw (Bk (Dv (Ab (Nb Aa) (Ab (A8o (Nb Aa) fun _ _ _ h=>⟨1,rfl,-1,rfl,h⟩) (Ab (Gs (Dv (Ab (Aq rfl) (Ab (Aq rfl) (Ab (Aq rfl) An)))) Eu (Cz Aa) Do) (Ab (Aj (Dv (Ab (Aq rfl) An)) (Gs (Nb Aa) (Cz (Aq rfl)) Eu Do) Bh) (Ab (Gs (Dv (Ab (Aq rfl) (Ab (Aq rfl) (Ab (Aq rfl) An)))) Eu (Cz (Aj Aa (Aq rfl) Bh)) Do) (Ab (Gs (Nb Aa) (Cz (Aq rfl)) Eu Do) An))))))) Al)
  (Aw (Bk (Bg (Aj (Aj (Gs (Aj Aa (Aq rfl) Bc) (Cz Aa) Eu Do) (Aj Aa (Aq rfl) Bc) Bh) (Aj Aa (Aq rfl) Bc) Bh) Ig) Al)
  (Aw (Bk (Aj Aa (Dv (Ab (Aj (Gs (Nb Aa) Eu (Cz (Aq rfl)) Do) (Gs (Nb Aa) (Cz (Aq rfl)) Eu Do) Bh) (Ab (Aj (Gs (Nb Aa) Eu (Cz (M6 (Aq rfl) R8)) Do) (Gs (Nb Aa) (Cz (M6 (Aq rfl) R8)) Eu Do) Bh) (Ab (Aj (Dv (Ab (Aq rfl) An)) Aa Az7) (Ab (Aj (Nb Aa) (Gs (Nb Aa) (Cz (M6 (Aq rfl) R8)) Eu Do) Bh) An))))) Bh) Al)
  (Bt (Aj Aa (Bb (Ab Aa (Ab (Ej Aa) An))) Bc)))))) h
theorem A1l {f:Addr}{fd:FuncData}(F:Fun K "_law_due" "_law_due" Xx f fd) (zA:mg "len" = none) (zF:mg "list" = none) (yK:mg "set" = none) (z7:mg "tuple" = none):FnOk P w K mg base CX0 1 f fd ["_law_nest", "_law_key"] (spP K Io):=by
 refine F.ok zQ (fun vs H Q E h=>Fd h) (fun cdv A outer s H vs Q E hr h=>?_)
 have hu:=hr.units;have hgd:=hr.gd
 refine Jl (Ai (Xk (Bl (Kq:=K) rfl (qv 0) Ah Ax) (Kh (Kq:=K) rfl (n:=2) rfl (Dg (Br (i:=2) zQ.nd rfl (Or.inr rfl)) (Dg (Br (i:=3) zQ.nd rfl (Or.inl rfl)) Hv))))
  (Ai (Bo (i:=4) zQ.nd rfl (Or.inl rfl) (Bs (Dk (Kq:=K) rfl rfl zF (Ag (qv 1) Af)) (Dk (Kq:=K) rfl rfl zF (Ag (Bs (Bs (Bl (Kq:=K) rfl (qv 3) Ah Ax) (Bl (Kq:=K) rfl (qv 3) Ah Ax)) (Bl (Kq:=K) rfl (qv 3) Ah Ax)) Af))))
  (Ai (Ex (QW.qt (M3 (Wu hu (Ei (Kq:=K) rfl rfl zA (Ag (qv 1) Af)) (Ei (Kq:=K) rfl rfl zA (Ag (qv 2) Af))) (Lp (Uc (Au6 (Kq:=K) rfl rfl rfl yK rfl zA (qv 4)) (Ei (Kq:=K) rfl rfl zA (Ag (qv 4) Af)))))) (Av (Bu (Et (Ag Gv (Ag Ah (Ag Ka Af)))))) Cq)
  (Ai (Bo (i:=5) zQ.nd rfl (Or.inl rfl) (Dq Af))
  (Ai (Jm PassesOwn.never rfl (Hl (Kq:=K) rfl (qv 0)) (Kh (Kq:=K) rfl (n:=2) rfl (Dg (Br (i:=2) zQ.nd rfl (Or.inr rfl)) (Dg (Br (i:=6) zQ.nd rfl (Or.inl rfl)) Hv))) (Av (Ht (Za (Kq:=K) rfl PySem.F.plainAttrs_list PySem.F.slot_list_extend PySem.F.type_list_extend Ww (qv 5) (Ag (by exact(Ks (N':=["_law_part", "_law_cells", "_law_first"]) (idx:=[none,none,some 2]) (Gx rfl rfl (by decide +kernel) rfl rfl rfl) rfl (Hl (Kq:=K) rfl (Bl (Kq:=K) rfl (qv 6) Ah Ax)) (fun _ _ _ _ _=>by exact(Kh (Kq:=K) rfl (n:=2) rfl (Dg (Br (i:=0) (by show (["_law_part", "_law_cells", "_law_first"]:List Str).Nodup;decide +kernel) rfl (Or.inl rfl)) (Dg (Br (i:=1) (by show (["_law_part", "_law_cells", "_law_first"]:List Str).Nodup;decide +kernel) rfl (Or.inl rfl)) Hv)))) (fun _ _ _ _ _=>by exact Gu) (fun _ _ _ _ _=>by exact(Et (Ag (Bs (qv 2) (qv 0)) (Ag (qv 1) Af)))))) Af)))))
  (Av (Bu (Et (Ag (Bs (Az (Kq:=K) rfl rfl z7 (Ag (qv 1) Af)) (Bl (Kq:=K) rfl (qv 3) Ah Ax)) (Ag (Bl (Kq:=K) rfl (qv 3) Ah Ax) (Ag (Bl (Kq:=K) rfl (qv 3) Ah Ax) (Ag (Bl (Kq:=K) rfl (qv 3) Ah Ax) (Ag (Az (Kq:=K) rfl rfl z7 (Ag (qv 5) Af)) Af))))))))))))) ?_
 exact Em (Aw (Bk (Aj Aa (Aq rfl) Bc) (Lh (Dl Al (Dl Al Iz))))
  (Aw (Bk (Aj (Bg Aa Ig) (Bg (Aj (Aj (Aj Aa (Aq rfl) Bc) (Aj Aa (Aq rfl) Bc) Bh) (Aj Aa (Aq rfl) Bc) Bh) Ig) Bh) Al)
  (Aw (Fj (My (Cg (Aj (Ej Aa) (Ej Aa) Nt)) (Cg (Aj (Ae7 Aa) (Ej Aa) Yr))) (Bt (Fq (Ab (Aq rfl) (Ab (Aq rfl) (Ab (Aq rfl) An))))) Cp)
  (Aw (Bk (Dv An) Al)
  (Aw (J7 (Hn Aa) (Lh (Dl Al (Dl Al Iz))) (J5 (A0h Aa (Ku (by decide) (Hn (Aj Aa (Aq rfl) Bc)) (Lh (Dl Al (Dl Al Iz))) Ir (Fq (Ab (Aj Aa Aa Bh) (Ab Aa An)))))))
  (Bt (Fq (Ab (Aj (Bg Aa Di) (Aj Aa (Aq rfl) Bc) Bh) (Ab (Aj Aa (Aq rfl) Bc) (Ab (Aj Aa (Aq rfl) Bc) (Ab (Aj Aa (Aq rfl) Bc) (Ab (Bg Aa Di) An)))))))))))) h
theorem Bf6 {f:Addr}{fd:FuncData}(F:Fun K "law" "law" A1r f fd) {c_ T_:Addr} (hT_:(T_,("law" : Str) ++ ".<locals>." ++ "<lambda>")∈Dw K) (hC_:PySem.W.codeHdIn K c_ T_=true) (hD_:fd.code=.ref c_) (D_nested:Def P w K mg base "nested" 1 ["wide", "deep"] (spP K Hx)) (D_unnested:DefX P w K mg base "unnested" 5 ["nest", "key"] (spX K Dp)) (D_l_box:Def P w K mg base "_law_box" 2 ["_law_script", "_law_k"] (spP K K4)) (D_l_take:Def P w K mg base "_law_take" 1 ["_law_box_here", "_law_many_here"] (spP K Am)) (D_l_wide:Def P w K mg base "_law_wide" 5 ["_law_box_here", "_law_numbers"] (spP K Jv)) (D_l_same:Def P w K mg base "_law_same" 9 ["_law_found", "_law_due_here"] (spP K (Cw 9))) (D_l_told:A9r P w K mg base "_law_told" 1 ["BadColumns"] (spP K Ez)) (D_l_names_by:Def P w K mg base "_law_names_by" 2 ["_law_box_here", "_law_wide_here", "_law_deep"] (spP K Fw)) (D_l_due:Def P w K mg base "_law_due" 1 ["_law_nest", "_law_key"] (spP K Io)) (yD:mg "int" = none) (zA:mg "len" = none) (zF:mg "list" = none) (yM:mg "min" = none) (zR:mg "range" = none) (zW:mg "str" = none) (z7:mg "tuple" = none):FnOk P w K mg base CX0 10 f fd ["_law_script"] (spP K Aj7):=by
 obtain⟨fc__law_told,T__law_told,xt__law_told⟩:=D_l_told
 refine F.okL zJ (fun vs H Q E h=>Fd h) (fun cdv A outer s H vs Q E hcd_ hr h=>?_)
 have hu:=hr.units;have hgd:=hr.gd
 refine Jl (Ai (Jm PassesOwn.never rfl (G7 rfl zR (Ag (Bs Ah (Yl (Kq:=K) rfl rfl rfl yM (Ag Ah (Ag (Ei (Kq:=K) rfl rfl zA (Ag (qv 0) Af)) Af)))) Af)) (Br (i:=1) zJ.nd rfl (Or.inl rfl)) (Ai (Bo (i:=2) zJ.nd rfl (Or.inr rfl) (Ck D_l_box hr (Ag (qv 0) (Ag (qv 1) Af))))
  (Av (Jm PassesOwn.never rfl (G7 rfl zR (Ag Ah Af)) (Br (i:=3) zJ.nd rfl (Or.inl rfl)) (Ai (Bo (i:=4) zJ.nd rfl (Or.inl rfl) (Ck D_l_wide hr (Ag (qv 2) (Ag M8 Af))))
  (Ai (Bo (i:=5) zJ.nd rfl (Or.inl rfl) (Ck D_l_take hr (Ag (qv 2) (Ag (Bs (Ei (Kq:=K) rfl rfl zA (Ag (Bl (Kq:=K) rfl (qv 4) Ah Ax) Af)) Ah) Af))))
  (Ai (Bo (i:=6) zJ.nd rfl (Or.inr rfl) (Dk (Kq:=K) rfl rfl zF (Ag (Ck D_nested hr (Ag (qv 4) (Ag (qv 5) Af))) Af)))
  (Ai (Bo (i:=7) zJ.nd rfl (Or.inr rfl) (Az (Kq:=K) rfl rfl z7 (Ag (by exact(Ks (N':=["_law_pair", "_law_left", "_law_box_here"]) (idx:=[none,some 6,some 2]) (Gx rfl rfl (by decide +kernel) rfl rfl rfl) rfl (Hl (Kq:=K) rfl (Dk (Kq:=K) rfl rfl zF (Ag (qv 6) Af))) (fun _ _ _ _ _=>by exact(Br (i:=0) (by show (["_law_pair", "_law_left", "_law_box_here"]:List Str).Nodup;decide +kernel) rfl (Or.inl rfl))) (fun _ _ _ _ _=>by exact Gu) (fun _ _ _ _ _=>by exact(Za (Kq:=K) rfl PySem.F.plainAttrs_list PySem.F.slot_list_pop PySem.F.type_list_pop Ac2 (qv 1) (Ag (Ck D_l_take hr (Ag (qv 2) (Ag (Ei (Kq:=K) rfl rfl zA (Ag (qv 1) Af)) Af))) Af))))) Af)))
  (Av (Jm PassesOwn.never rfl (G7 rfl zR (Ag (G6 Ah (Pb (Kq:=K) rfl rfl yD (Ag (Bp9 hu (qv 7) (Et Af)) Af))) Af)) (Br (i:=8) zJ.nd rfl (Or.inl rfl)) (Ai (Bo (i:=9) zJ.nd rfl (Or.inl rfl) (Ck D_l_names_by hr (Ag (qv 2) (Ag (qv 4) (Ag (qv 5) Af)))))
  (Ai (Bo (i:=10) zJ.nd rfl (Or.inr rfl) (Bl (Kq:=K) rfl (Dq (Ag (Dk (Kq:=K) rfl rfl zF (Ag (qv 9) Af)) (Ag (Az (Kq:=K) rfl rfl z7 (Ag (qv 9) Af)) Af))) (Ck D_l_take hr (Ag (qv 2) (Ag Ah Af))) Ge))
  (Ai (Bo (i:=11) zJ.nd rfl (Or.inl rfl) (A0a (Kq:=K) rfl hu hgd rfl zW (Ag (Dq (Ag (qv 7) (Ag (qv 10) Af))) Af)))
  (Ai (Bo (i:=12) zJ.nd rfl (Or.inl rfl) (Ck D_l_due hr (Ag (qv 7) (Ag (qv 9) Af))))
  (Ai (Ex (Lg (Fz (Ck D_l_same hr (Ag (A2r (Kq:=K) rfl (kg:=5) (G:=["_law_nest", "_law_handed"]) (js:=[7,10]) T__law_told hT_ hC_ (hcd_.symm.trans hD_) hr (fun _=>Aa8 _) ⟨Gx rfl rfl (by decide +kernel) rfl rfl rfl,by decide +kernel⟩ (fun _ _ _ _ _ _ _ _ hr=>by exact(A8x Ub D_unnested hr (Ag (qv 0) (Ag (qv 1) Af))))) (Ag (qv 12) Af))))) (Av (Bu M8)) Cq)
  (Av (Ex (QW.qt (M3 (Lg (Fz (Ck D_l_same hr (Ag (A2r (Kq:=K) rfl (kg:=5) (G:=["_law_nest", "_law_handed"]) (js:=[7,10]) T__law_told hT_ hC_ (hcd_.symm.trans hD_) hr (fun _=>Aa8 _) ⟨Gx rfl rfl (by decide +kernel) rfl rfl rfl,by decide +kernel⟩ (fun _ _ _ _ _ _ _ _ hr=>by exact(A8x Ub D_unnested hr (Ag (qv 0) (Ag (qv 1) Af))))) (Ag (qv 12) Af))))) (Lp (Wu hu (A0a (Kq:=K) rfl hu hgd rfl zW (Ag (Dq (Ag (qv 7) (Ag (qv 10) Af))) Af)) (qv 11))))) (Av (Bu M8)) Cq)))))))))))))))))
  (Av (Bu M8))) ?_
 exact Em (Aw (J7 (Ko (Aj (Aq rfl) (A5l (Aq rfl) (Ej Aa)) Bh)) Al (Aw (Bk (Bb (Ab Aa (Ab Aa An))) Al)
  (J7 (Ko (Aq rfl)) Al (Aw (Bk (Bb (Ab Aa (Ab (Aq rfl) An))) Al)
  (Aw (Bk (Bb (Ab Aa (Ab (Aj (Ej (Aj Aa (Aq rfl) Bc)) (Aq rfl) Bh) An))) Al)
  (Aw (Bk (Bg (Bb (Ab Aa (Ab Aa An))) Ig) Al)
  (Aw (Bk (Bg (Ku (by decide) (Hn (Bg Aa Ig)) Al Ir (Ab0 Aa (Bb (Ab Aa (Ab (Ej Aa) An))))) Di) Al)
  (J7 (Ko (Aj (Aq rfl) (Bg (Aj Aa (Fq An) Nt) Ap6) Ie)) Al (Aw (Bk (Bb (Ab Aa (Ab Aa (Ab Aa An)))) Al)
  (Aw (Bk (Aj (Dv (Ab (Bg Aa Ig) (Ab (Bg Aa Di) An))) (Bb (Ab Aa (Ab (Aq rfl) An))) Bc) Al)
  (Aw (Bk (Bg (Dv (Ab Aa (Ab Aa An))) An5) Al)
  (Aw (Bk (Bb (Ab Aa (Ab Aa An))) Al)
  (Aw (Fj (Ld (N7 (Bb (Ab (A3w xt__law_told (show MA K (tNs [7,10]) _ from (Ab Aa (Ab Aa An)))) (Ab Aa An))))) (Bt (Aq rfl)) Cp)
  (Fj (My (Ld (N7 (Bb (Ab (A3w xt__law_told (show MA K (tNs [7,10]) _ from (Ab Aa (Ab Aa An)))) (Ab Aa An))))) (Cg (Aj (Bg (Dv (Ab Aa (Ab Aa An))) An5) Aa Nt))) (Bt (Aq rfl)) Cp))))))))))))))
  (Bt (Aq rfl))) h
end
theorem lnS  {us:List Value}(h:us.length=n+1):∃x r,us=x::r/\r.length=n:=by
 cases us with
 | nil=>grind
 | cons x r=>grind
theorem ln1 {us:List Value}(h:us.length=1):∃x0,us=[x0]:=by
 obtain⟨x,r,a,b⟩:=lnS h
 simp_all
theorem ln2 {us:List Value}(h:us.length=2):∃c b,us=[c,b]:=by
 obtain⟨c,r,a,d⟩:=lnS h;obtain⟨b,a⟩:=ln1 d
 grind
theorem ln3 {us:List Value}(h:us.length=3):∃c d b,us=[c,d,b]:=by
 obtain⟨c,r,a,e⟩:=lnS h;obtain⟨d,b,a⟩:=ln2 e
 grind
theorem ln4 {us:List Value}(h:us.length=4):∃c d e b,us=[c,d,e,b]:=by
 obtain⟨c,r,a,f⟩:=lnS h;obtain⟨d,e,b,a⟩:=ln3 f
 grind
theorem mkD            (a:FnOk P w K mg base CX0 k f d ps sp) (b:Binds K d ps []) (c:PySem.W.keepIn K (.ref f)=true) (g:mg x=some (.ref f)):Def P w K mg base x k ps sp:=⟨f,d,a,b,c,g⟩
theorem mkX {P:Program}{w:World}{K:PySem.W.Frag}{mg:Str->Option Value}{base:Heap}{k:Nat}{f:Addr}{fd:FuncData}{x:Str}{ps:List Str}{sp:Sp}(a:FnOk P w K mg base (CXe P w) k f fd ps sp)(b:Binds K fd ps [])(c:PySem.W.keepIn K (.ref f)=true)(g:mg x=some (.ref f)):DefX P w K mg base x k ps sp:=⟨f,fd,a,b,c,g⟩
theorem Eb       (T:PyProof.Rows.Top q loose g mg j h) (k:∀a o,h.get? a=some o->Gy o=true->o.data≠.fields #[]->K.lookup a=some o)  (l:(PyProof.Rows.recsOf q).map (fun d=>(d.name,d.params,d.body,d.scope))=L) {i:Nat}   (e:L[i]?=some (x,Kc st,Ds st,Ao st)):∃f fd,Fun K x x st f fd/\mg x=some (.ref f):=by
 obtain⟨d,m,rfl,a,b,c⟩:=Aa3 l e;exact A7y T k m a b c
abbrev rr (x:Str)(i:Nat):Str×Arguments×List Stmt×Scope:=(x,Kc (top i),Ds (top i),Ao (top i))
theorem Bd9 {l:PySem.W.OpenLaw}{w:World}{q:Program}{loose:List Str}{mean:ExcName->Option Value}{mg mb:Str->Option Value}{h:Heap}{fa:Addr}(T:PyProof.Rows.Top q loose mean mg mb h)(hfa:mg "law" = some (.ref fa))
 (hlaw:∀ns:List Int,ns.length<=63->Aj7 [.sc ns]=.ret (.im (.bool true)) [.sc ns])
 (hR:(PyProof.Rows.recsOf q).map (fun d=>(d.name,d.params,d.body,d.scope))=[rr "is_name" 15,rr "are_columns" 16,rr "are_wide_columns" 18,rr "nested" 20,rr "check_outer_key" 21,rr "unnested" 22,rr "_law_cell_at" 24,rr "_law_box" 25,rr "_law_take" 26,rr "_law_many" 27,rr "_law_names" 28,rr "_law_value" 29,rr "_law_number" 30,rr "_law_pool" 31,rr "_law_tuples" 32,rr "_law_wide" 33,rr "_law_same" 34,rr "_law_told" 35,rr "_law_names_by" 36,rr "_law_due" 37,rr "law" 38])
 (hB:(["ValueError", "abs", "all", "bool", "int", "isinstance", "len", "list", "min", "range", "set", "str", "tuple", "zip"]:List Str).all (A3h q loose ["is_name", "are_columns", "are_wide_columns", "nested", "check_outer_key", "unnested", "_law_cell_at", "_law_box", "_law_take", "_law_many", "_law_names", "_law_value", "_law_number", "_law_pool", "_law_tuples", "_law_wide", "_law_same", "_law_told", "_law_names_by", "_law_due", "law"])=true)
 (hc_LETTERS:PyProof.Rows.valOf q "LETTERS" = some (PyData.str "abcdefghijklmnopqrstuvwxyz"))
 (hc_LONGEST_NAME:PyProof.Rows.valOf q "LONGEST_NAME" = some (PyData.int 8))
 (hF:Aw8 xcR xcT xcV xcF h) :
 ∃(K:PySem.W.Frag) (fd:FuncData),K.In h/\TabAt K h/\(∀(s:Shared) (v:Value),BindsTo s fd ⟨[v],[]⟩ [("_law_script",v)])/\∀base:Heap,K.In base->base.Ns mainGlobals mg->FnOk l.prog w K mg base CX0 10 fa fd ["_law_script"] (Ap9 K):=by
 obtain⟨d21,m21,n21,p21⟩:=Aa3 hR (i:=20) rfl;obtain⟨yN,T_law,hd_law,ht_law,hc_law⟩:=A6t T m21
 obtain⟨kin,tab,hcd,hK⟩:=Bn5 (h:=h) (tabs:=[(yN,T_law,(("law" : Str) ++ ".<locals>." ++ "<lambda>"))]) (fun t m=>by cases List.mem_singleton.mp m;exact⟨hd_law,ht_law⟩) (fun t m=>by cases List.mem_singleton.mp m;simp)
 obtain⟨lc_law,lt_law⟩:=hcd _ (List.mem_singleton.mpr rfl)
 generalize Oq h [(yN,T_law,(("law" : Str) ++ ".<locals>." ++ "<lambda>"))]=K at *
 obtain⟨f1,fd1,F1,g1⟩:=Eb T hK hR (st:=Qd) (i:=0) rfl
 have b1:=F1.binds (ps:=["thing"]) fun _ _ _ _ _ _ us hl=>by obtain⟨_,rfl⟩:=ln1 hl;rfl
 obtain⟨f2,fd2,F2,g2⟩:=Eb T hK hR (st:=Jp) (i:=1) rfl
 have b2:=F2.binds (ps:=["thing"]) fun _ _ _ _ _ _ us hl=>by obtain⟨_,rfl⟩:=ln1 hl;rfl
 obtain⟨f3,fd3,F3,g3⟩:=Eb T hK hR (st:=Gb) (i:=2) rfl
 have b3:=F3.binds (ps:=["key", "names", "values"]) fun _ _ _ _ _ _ us hl=>by obtain⟨_,_,_,rfl⟩:=ln3 hl;rfl
 obtain⟨f4,fd4,F4,g4⟩:=Eb T hK hR (st:=T5) (i:=3) rfl
 have b4:=F4.binds (ps:=["wide", "deep"]) fun _ _ _ _ _ _ us hl=>by obtain⟨_,_,rfl⟩:=ln2 hl;rfl
 obtain⟨f5,fd5,F5,g5⟩:=Eb T hK hR (st:=Gz) (i:=4) rfl
 have b5:=F5.binds (ps:=["nest", "key"]) fun _ _ _ _ _ _ us hl=>by obtain⟨_,_,rfl⟩:=ln2 hl;rfl
 obtain⟨f6,fd6,F6,g6⟩:=Eb T hK hR (st:=N6) (i:=5) rfl
 have b6:=F6.binds (ps:=["nest", "key"]) fun _ _ _ _ _ _ us hl=>by obtain⟨_,_,rfl⟩:=ln2 hl;rfl
 obtain⟨f7,fd7,F7,g7⟩:=Eb T hK hR (st:=Le) (i:=6) rfl
 have b7:=F7.binds (ps:=["_law_script", "_law_k"]) fun _ _ _ _ _ _ us hl=>by obtain⟨_,_,rfl⟩:=ln2 hl;rfl
 obtain⟨f8,fd8,F8,g8⟩:=Eb T hK hR (st:=Xr) (i:=7) rfl
 have b8:=F8.binds (ps:=["_law_script", "_law_k"]) fun _ _ _ _ _ _ us hl=>by obtain⟨_,_,rfl⟩:=ln2 hl;rfl
 obtain⟨f9,fd9,F9,g9⟩:=Eb T hK hR (st:=Tg) (i:=8) rfl
 have b9:=F9.binds (ps:=["_law_box_here", "_law_many_here"]) fun _ _ _ _ _ _ us hl=>by obtain⟨_,_,rfl⟩:=ln2 hl;rfl
 obtain⟨f10,fd10,F10,g10⟩:=Eb T hK hR (st:=U4) (i:=9) rfl
 have b10:=F10.binds (ps:=["_law_box_here", "_law_least", "_law_few", "_law_most"]) fun _ _ _ _ _ _ us hl=>by obtain⟨_,_,_,_,rfl⟩:=ln4 hl;rfl
 obtain⟨f11,fd11,F11,g11⟩:=Eb T hK hR (st:=Px) (i:=10) rfl
 have b11:=F11.binds (ps:=["_law_box_here", "_law_many_here"]) fun _ _ _ _ _ _ us hl=>by obtain⟨_,_,rfl⟩:=ln2 hl;rfl
 obtain⟨f12,fd12,F12,g12⟩:=Eb T hK hR (st:=Qh) (i:=11) rfl
 have b12:=F12.binds (ps:=["_law_box_here"]) fun _ _ _ _ _ _ us hl=>by obtain⟨_,rfl⟩:=ln1 hl;rfl
 obtain⟨f13,fd13,F13,g13⟩:=Eb T hK hR (st:=Ng) (i:=12) rfl
 have b13:=F13.binds (ps:=["_law_box_here"]) fun _ _ _ _ _ _ us hl=>by obtain⟨_,rfl⟩:=ln1 hl;rfl
 obtain⟨f14,fd14,F14,g14⟩:=Eb T hK hR (st:=S9) (i:=13) rfl
 have b14:=F14.binds (ps:=["_law_box_here", "_law_many_here"]) fun _ _ _ _ _ _ us hl=>by obtain⟨_,_,rfl⟩:=ln2 hl;rfl
 obtain⟨f15,fd15,F15,g15⟩:=Eb T hK hR (st:=Nv) (i:=14) rfl
 have b15:=F15.binds (ps:=["_law_box_here", "_law_wide_here", "_law_many_here"]) fun _ _ _ _ _ _ us hl=>by obtain⟨_,_,_,rfl⟩:=ln3 hl;rfl
 obtain⟨f16,fd16,F16,g16⟩:=Eb T hK hR (st:=U8) (i:=15) rfl
 have b16:=F16.binds (ps:=["_law_box_here", "_law_numbers"]) fun _ _ _ _ _ _ us hl=>by obtain⟨_,_,rfl⟩:=ln2 hl;rfl
 obtain⟨f17,fd17,F17,g17⟩:=Eb T hK hR (st:=Ob) (i:=16) rfl
 have b17:=F17.binds (ps:=["_law_found", "_law_due_here"]) fun _ _ _ _ _ _ us hl=>by obtain⟨_,_,rfl⟩:=ln2 hl;rfl
 obtain⟨f18,fd18,F18,g18⟩:=Eb T hK hR (st:=Uj) (i:=17) rfl
 have b18:=F18.binds (ps:=["_law_call"]) fun _ _ _ _ _ _ us hl=>by obtain⟨_,rfl⟩:=ln1 hl;rfl
 obtain⟨f19,fd19,F19,g19⟩:=Eb T hK hR (st:=Km) (i:=18) rfl
 have b19:=F19.binds (ps:=["_law_box_here", "_law_wide_here", "_law_deep"]) fun _ _ _ _ _ _ us hl=>by obtain⟨_,_,_,rfl⟩:=ln3 hl;rfl
 obtain⟨f20,fd20,F20,g20⟩:=Eb T hK hR (st:=Xx) (i:=19) rfl
 have b20:=F20.binds (ps:=["_law_nest", "_law_key"]) fun _ _ _ _ _ _ us hl=>by obtain⟨_,_,rfl⟩:=ln2 hl;rfl
 obtain⟨f21,fd21,F21,g21⟩:=Eb T hK hR (st:=A1r) (i:=20) rfl
 have b21:=F21.binds (ps:=["_law_script"]) fun _ _ _ _ _ _ us hl=>by obtain⟨_,rfl⟩:=ln1 hl;rfl
 have ld_law:fd21.code=.ref yN:=A4s F21 kin (by have z:d21.name = "law" := n21;rw[<- z];exact hc_law) g21
 have zY:=Ea (x := "ValueError") T (Dj hR) hB (by simp)
 have yP:=Ea (x := "abs") T (Dj hR) hB (by simp)
 have yE:=Ea (x := "all") T (Dj hR) hB (by simp)
 have yI:=Ea (x := "bool") T (Dj hR) hB (by simp)
 have yD:=Ea (x := "int") T (Dj hR) hB (by simp)
 have z8:=Ea (x := "isinstance") T (Dj hR) hB (by simp)
 have zA:=Ea (x := "len") T (Dj hR) hB (by simp)
 have zF:=Ea (x := "list") T (Dj hR) hB (by simp)
 have yM:=Ea (x := "min") T (Dj hR) hB (by simp)
 have zR:=Ea (x := "range") T (Dj hR) hB (by simp)
 have yK:=Ea (x := "set") T (Dj hR) hB (by simp)
 have zW:=Ea (x := "str") T (Dj hR) hB (by simp)
 have z7:=Ea (x := "tuple") T (Dj hR) hB (by simp)
 have yJ:=Ea (x := "zip") T (Dj hR) hB (by simp)
 have yF:∃t,mg "LETTERS" = some (Value.str "abcdefghijklmnopqrstuvwxyz" t):=Aw9 T hc_LETTERS;have zT:∃t,mg "LONGEST_NAME" = some (Value.int 8 t):=const_int T hc_LONGEST_NAME;obtain⟨qR,qT,k_ValueError,qF⟩:=A6x hF kin T.g hK;have r_BadColumns:ClR K mg "BadColumns" := qR 0 _ rfl;have k_BadColumns:ClT K mg [("BadColumns",true)] "BadColumns" := qT 0 _ rfl;have k_BadOrder:ClT K mg [("BadColumns",false)] "BadOrder" := qT 1 _ rfl;have k_BadRow:ClT K mg [("BadColumns",false)] "BadRow" := qT 2 _ rfl;have k_BadWay:ClT K mg [("BadColumns",false)] "BadWay" := qT 3 _ rfl;have k_Double:ClT K mg [("BadColumns",false)] "Double" := qT 4 _ rfl;have k_NoColumn:ClT K mg [("BadColumns",false)] "NoColumn" := qT 5 _ rfl;have k_NoHead:ClT K mg [("BadColumns",false)] "NoHead" := qT 6 _ rfl;have k_NoNumber:ClT K mg [("BadColumns",false)] "NoNumber" := qT 7 _ rfl;have k_NoPart:ClT K mg [("BadColumns",false)] "NoPart" := qT 8 _ rfl;have k_NoRow:ClT K mg [("BadColumns",false)] "NoRow" := qT 9 _ rfl;have h_FoldError:ClF K mg ["BadColumns"] "FoldError" := qF 0 _ rfl;have e:=hfa.symm.trans g21
 cases e
 refine⟨K,fd21,kin,tab,Az9 F21 (fun kV dc pm an cd ct s v=>.of_eq rfl),fun base _ _=>?_⟩
 have D_is_name:=mkD (Af5 (P:=l.prog) (w:=w) (mg:=mg) (base:=base) F1 yE z8 zA zW yF zT) b1 F1.kp g1;have D_are_columns:=mkD (Uw (P:=l.prog) (w:=w) (mg:=mg) (base:=base) F2 D_is_name yE z8 zA yK z7) b2 F2.kp g2;have D_are_wide_columns:=mkD (Mr (P:=l.prog) (w:=w) (mg:=mg) (base:=base) F3 D_are_columns yE z8 zA z7) b3 F3.kp g3;have D_nested:=mkD (As6 (P:=l.prog) (w:=w) (mg:=mg) (base:=base) F4 z7) b4 F4.kp g4;have D_check_outer_key:=mkX (Np (P:=l.prog) (w:=w) (mg:=mg) (base:=base) F5 D_are_wide_columns zA z7 r_BadColumns) b5 F5.kp g5;have D_unnested:=mkX (Y9 (P:=l.prog) (w:=w) (mg:=mg) (base:=base) F6 D_check_outer_key z7) b6 F6.kp g6;have D_l_cell_at:=mkD (Yi (P:=l.prog) (w:=w) (mg:=mg) (base:=base) F7 zA) b7 F7.kp g7;have D_l_box:=mkD (A0c (P:=l.prog) (w:=w) (mg:=mg) (base:=base) F8 D_l_cell_at yP yD) b8 F8.kp g8;have D_l_take:=mkD (Ax6 (P:=l.prog) (w:=w) (mg:=mg) (base:=base) F9 ) b9 F9.kp g9;have D_l_many:=mkD (Ar0 (P:=l.prog) (w:=w) (mg:=mg) (base:=base) F10 D_l_take) b10 F10.kp g10;have D_l_names:=mkD (Ai0 (P:=l.prog) (w:=w) (mg:=mg) (base:=base) F11 D_l_take zA zR) b11 F11.kp g11;have D_l_value:=mkD (Ai1 (P:=l.prog) (w:=w) (mg:=mg) (base:=base) F12 D_l_take) b12 F12.kp g12;have D_l_number:=mkD (Zm (P:=l.prog) (w:=w) (mg:=mg) (base:=base) F13 D_l_take) b13 F13.kp g13;have D_l_pool:=mkD (Aq8 (P:=l.prog) (w:=w) (mg:=mg) (base:=base) F14 D_l_value zR) b14 F14.kp g14;have D_l_tuples:=mkD (Zb (P:=l.prog) (w:=w) (mg:=mg) (base:=base) F15 D_l_take D_l_pool zA zR z7) b15 F15.kp g15;have D_l_wide:=mkD (As3 (P:=l.prog) (w:=w) (mg:=mg) (base:=base) F16 D_l_take D_l_many D_l_names D_l_value D_l_number D_l_tuples z7) b16 F16.kp g16;have D_l_same:Def l.prog w K mg base "_law_same" 9 ["_law_found", "_law_due_here"] (spP K (Cw 9)):=mkD (Tu F17 b17 g17 yE yI yD z8 zA zF zW z7 yJ 9) b17 F17.kp g17;have D_l_told:=Ax9 (P:=l.prog) (w:=w) (mg:=mg) (base:=base) F18 b18 g18 zY z8 zA k_BadColumns k_BadOrder k_BadRow k_BadWay k_Double k_NoColumn k_NoHead k_NoNumber k_NoPart k_NoRow k_ValueError h_FoldError;have D_l_names_by:=mkD (Vj (P:=l.prog) (w:=w) (mg:=mg) (base:=base) F19 D_l_take zA zF) b19 F19.kp g19;have D_l_due:=mkD (A1l (P:=l.prog) (w:=w) (mg:=mg) (base:=base) F20 zA zF yK z7) b20 F20.kp g20
 exact(Bf6 F21 lt_law lc_law ld_law D_nested D_unnested D_l_box D_l_take D_l_wide D_l_same D_l_told D_l_names_by D_l_due yD zA zF yM zR zW z7).imp fun vs H Q E h=>Be3 hlaw h
theorem walk {l:PySem.W.OpenLaw}{q:Program}{loose:List Str}{XP:(Str->Option Value)->Heap->Prop}{YP:World->Heap->Prop}{d:DefRec}(hn:l.most=some 63)(hdf:d.params.defaults=[])
 (F:∀(w:World) (mean:ExcName->Option Value) (mg mb:Str->Option Value) (fa:Addr) (h:Heap),PyProof.Rows.Top q (PySem.W.looseW q loose) mean mg mb h->XP mg h->mg d.name=some (.ref fa) ->
  ∃(K:PySem.W.Frag) (fd:FuncData),K.In h/\TabAt K h/\(∀(s:Shared) (u:Value),BindsTo s fd ⟨[u],[]⟩ [("_law_script",u)])/\∀base:Heap,K.In base->base.Ns mainGlobals mg->FnOk l.prog w K mg base CX0 10 fa fd ["_law_script"] (Ap9 K)) :
 PySem.W.WalkO q loose XP YP l.row.toRowW d [] (fun f vs=>PySem.call f vs) :=
 L2.walk_ofX (n:=63) (k:=10) (x := "_law_script") (sp:=Ap9) hn (by decide) hdf ⟨rfl,by decide,by decide,rfl⟩ F fun _ _ a ns hl hS=>⟨a,ns,rfl,hS,hl,fun _=>rfl⟩
end K
open PySem PySem.W PyProof.Rows
set_option maxHeartbeats 0
namespace K
def dOf:Stmt->DefRec
 | .FunctionDef _ a b _ _ _ s _ _ p=>⟨"law",a,b,s,p⟩
 | _=>⟨"law",⟨[],[],none,[],[],none,[]⟩,[],default,default⟩
def dL:DefRec:=⟨"law",(dOf (top 38)).params,(dOf (top 38)).body,(dOf (top 38)).scope,(dOf (top 38)).pos⟩
theorem Br2:rwT.wellSaid=true:=by kernel_rfl
theorem Bu2:defOf qT rwT.row.name=some (dL,[]):=by kernel_rfl
theorem Bt3:rwT.row.prog.theDef rwT.row.name=some (dL.params,dL.body,dL.scope):=by trivial
theorem kwT:kwWritten? dL.params.kwonlyargs dL.params.kw_defaults=some []:=by trivial
theorem okT:(chainsOk qT&&opensWell rwT.row.prog&&(frees rwT.row.toRowW&&rwT.row.within.isEmpty))=true:=by trivial
theorem dfT:dL.params.defaults=[]:=by rfl
theorem Bs4:rwT.row.prog.bare:=⟨rfl,rfl,rfl,rfl,rfl,by decide +kernel⟩
theorem Bq0:rwT.row.toRowW.promised:=by w_witness2
end K
theorem PySem.Challenge.cw_pivotfold_k41_unnested_holds : PySem.Challenge.rw_pivotfold_k41_unnested.Holds := by
 refine holds_law K.Br2 fun said=>?_
 refine holds_open (q:=K.qT) (loose:=[]) (Xt:=K.xtT) (XP:=(fun _ h=>L2.Aw8 K.xcR K.xcT K.xcV K.xcF h)) (Yf:=Hook.none.obs) (Ya:=Hook.none.val) (YP:=Hook.none.says) (N:=20000) K.Br5 Hook.none.of Hook.none.keeps (fun s e=>L2.Bq1 (Bool.and_eq_true_iff.mp e).2) (fun mg h h' x hk=>L2.A3x x hk) K.Bu2 K.Bt3 K.kwT (fun s e=>recFacts_of (Bool.and_eq_true_iff.mp (Bool.and_eq_true_iff.mp e).1).2) rfl said K.okT K.Bs4 K.Bq0 ?_
 refine K.walk (l:=PySem.Challenge.rw_pivotfold_k41_unnested) rfl K.dfT ?F
 case F =>
  intro w mean mg mb fa h T X hmg
  refine K.Bd9 T hmg K.A2p ?R ?B ?yF ?zT X
  (case R=>kernel_rfl); (case B=>kernel_rfl); (case yF=>kernel_rfl); (case zT=>kernel_rfl)
end
