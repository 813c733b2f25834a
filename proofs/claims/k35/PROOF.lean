import PyProof.Rows.All
import PyProof.FactsAll.NoneType_1
import Wide.All
import OpenK.AllK
import Wide.FinOn
import Lean
import PyProof.EqAt
import PyProof.EqKinds
import PyProof.TupleCall
import PyProof.StrWalks
import PyProof.StrLawsRepr
import PyProof.ListMulRoad
import PyProof.StrOps2
import PyProof.CallStr
import PyProof.CollectStr
import PyProof.TupleOfSeq
import PyProof.DictTable
import KE.KSortTup
import PyProof.MeetsStr
import PyProof.FactsAll.str_5
import PyProof.StrBlockG
import PyProof.AttrMiss
import PyProof.FactsAll.zip_1
import KE.KDictOf
import PyProof.AttrMissHeap
import KE.KTryMore
import KE.KRevIter
import PyProof.ListRange
import PyProof.FactsAll.dict_3
import PyProof.MeetsDict
import PyProof.FactsAll.dict_keyiterator
import PyProof.DictItems
import PyProof.DictValues
import KE.KPairComp
import PyProof.TupleOfStr
import PyProof.TupleOfGen
import PySem.SetOps
import PySem.Challenge.RW_pivotfold_k35_key_and_names_exchanged
set_option genInjectivity false
set_option genSizeOf false
set_option Elab.async false
set_option linter.all false
set_option maxRecDepth 100000
noncomputable section
section
open PySem
abbrev u_:=Shared
abbrev t6:=PyData
abbrev t_:=Around
abbrev u6:=Program
abbrev v4:=List Str
abbrev u5:=FuncData
abbrev v6:=List Addr
abbrev v_:=List Expr
abbrev w6:=List Value
abbrev q9:=Option Int
abbrev w5:=List t6
abbrev v7:=Array Value
abbrev v9:=PySem.W.Frag
abbrev u9:=Option Value
abbrev q_:=List (Nat×Nat)
abbrev p7:=Nat->v6
abbrev y_:=List (Addr×Obj)
abbrev v8:=Array DictEntry
abbrev x_:=Str->u9
abbrev p6:=List (Option Nat)
abbrev z_:=Value->u_->Prop
end
section
open PySem PySem.Spec PyProof.Rows PySem.W PySem.Calls PySem.MeetsSeq PySem.MeetsSeq2 PySem.MeetsSeq3 PySem.SeqAt
abbrev aj:=@Nat.le_refl
abbrev ak:=@List.length_map
abbrev ao:=@Nat.le_trans
abbrev aq:=@Bool.and_eq_true_iff
abbrev au:=@List.mem_map
abbrev az:=@List.mem_cons
abbrev aA:=@Nat.lt_of_lt_of_le
abbrev aB:=@Nat.zero_le
abbrev aC:=@Nat.ne_of_lt
abbrev aD:=@decide_eq_true
abbrev aG:=@List.mem_singleton
abbrev aH:=@List.length_cons
abbrev aJ:=@List.mem_append_right
abbrev aK:=@decide_eq_false
abbrev aL:=@of_decide_eq_true
abbrev aM:=@Nat.lt_or_ge
abbrev aN:=@List.mem_cons_self
abbrev aO:=@Option.map_eq_some_iff
abbrev aP:=@List.map_cons
abbrev aQ:=@Nat.lt_of_le_of_lt
abbrev aU:=@Ne.symm
abbrev aV:=@List.map_map
abbrev aW:=@List.mem_cons_of_mem
abbrev aX:=@List.mem_append
abbrev aY:=@Nat.zero_add
abbrev aZ:=@List.lookup_cons
abbrev a_:=@List.length_append
abbrev bc:=@List.mem_range
abbrev bf:=@Nat.lt_irrefl
abbrev bh:=@List.getElem?_eq_some_iff
abbrev bj:=@List.not_mem_nil
abbrev bu:=@Bool.false_ne_true
abbrev bw:=@Nat.add_le_add_left
abbrev bx:=@or_false
abbrev bz:=@List.all_eq_true
abbrev bA:=@List.getElem?_eq_getElem
abbrev bB:=@Nat.ne_of_gt
abbrev bC:=@List.size_toArray
abbrev bD:=@List.length_range
abbrev bG:=@congrArg
abbrev bH:=@List.nodup_cons
abbrev bI:=@if_true
abbrev bJ:=@List.getElem?_map
abbrev bK:=@beq_self_eq_true
abbrev bL:=@true_and
abbrev bM:=@Nat.le_of_lt
abbrev bN:=@List.mem_append_left
abbrev bO:=@List.getD_eq_getElem?_getD
abbrev bQ:=@List.map_append
abbrev bR:=@List.mem_of_getElem?
abbrev bT:=@List.nil_append
abbrev bU:=@Option.some.inj
abbrev bV:=@Array.length_toList
abbrev bW:=@Nat.lt_succ_of_lt
abbrev bY:=@List.length_singleton
abbrev bZ:=@Option.bind_eq_some_iff
abbrev b_:=@Nat.mul_le_mul_left
abbrev c7:=@Nat.le_add_right
abbrev cj:=@List.append_nil
abbrev cu:=@PyProof.Rows.slot_tuple_getitem
abbrev cz:=@List.zip_cons_cons
abbrev cA:=@List.length_nil
abbrev cB:=@Array.getElem?_toList
abbrev cD:=@Nat.not_lt_zero
abbrev cG:=@List.getElem?_set_self
abbrev cH:=@List.length_take
abbrev cJ:=@Bool.and_eq_true
abbrev cL:=@Nat.lt_succ_self
abbrev cM:=@Int.toNat_natCast
abbrev cN:=@List.getElem?_eq_none
abbrev cP:=@Bool.false_eq_true
abbrev cQ:=@beq_eq_false_iff_ne
abbrev cR:=@List.nodup_nil
abbrev cT:=@Nat.add_assoc
abbrev cU:=@List.mem_filter
abbrev cV:=@List.getElem?_set_ne
abbrev cW:=@PyProof.Rows.callWith_type1
abbrev cX:=@eq_of_beq
abbrev cY:=@if_false
abbrev cZ:=@Nat.lt_trans
abbrev dg:=@Nat.sub_zero
abbrev dh:=@List.length_set
abbrev dq:=@List.getElem?_cons_succ
abbrev du:=@List.append_assoc
abbrev dw:=@Int.eq_ofNat_of_zero_le
abbrev dz:=@List.filterMap_cons
abbrev dB:=@List.reverse_cons
abbrev dC:=@Option.map_some
abbrev dD:=@Nat.le_of_succ_le
abbrev dF:=@PyProof.Rows.F.plain_set_update_loop
abbrev dG:=@Nat.succ_pos
abbrev dH:=@List.getElem?_of_mem
abbrev dI:=@List.getElem?_append_left
abbrev dJ:=@Nat.min_eq_left
abbrev dM:=@Array.forIn_toList
abbrev dN:=@PySem.mem_of_lookup
abbrev dO:=@Nat.le_succ
abbrev dR:=@Nat.le_of_eq
abbrev dU:=@List.forIn_cons
abbrev dW:=@Array.getElem?_eq_getElem
abbrev dX:=@Nat.le_of_lt_succ
abbrev dY:=@List.nodup_range
abbrev dZ:=@Array.getD_eq_getD_getElem?
abbrev d_:=@List.pairwise_map
abbrev eE:=@Nat.sub_self
abbrev eF:=@Array.Perm.refl
abbrev eG:=@Nat.add_lt_add_of_lt_of_le
abbrev eN:=@Nat.le_of_succ_le_succ
abbrev eO:=@List.set_comm
abbrev eQ:=@List.length_drop
abbrev eU:=@Nat.succ_le_succ
abbrev eV:=@Nat.le_of_not_lt
abbrev eX:=@Option.some.injEq
abbrev eY:=@List.zip_nil_left
abbrev eZ:=@PyProof.Rows.F.entry_set_update_loop
abbrev e_:=@List.take_length
abbrev fc:=@List.getElem?_range
abbrev fj:=@List.drop_eq_nil_iff
abbrev fu:=@Option.map_none
abbrev fB:=@List.pairwise_iff_getElem
abbrev fC:=@Classical.byContradiction
abbrev fD:=@Nat.lt_of_succ_lt_succ
abbrev fG:=@List.pairwise_cons
abbrev fH:=@List.Pairwise.imp_of_mem
abbrev fJ:=@List.nodup_append
abbrev fK:=@List.getElem?_append_right
abbrev fL:=@List.map_nil
abbrev fM:=@Int.ofNat_le
abbrev fO:=@List.nodup_iff_pairwise_ne
abbrev fP:=@List.map_congr_left
abbrev fQ:=@Option.isSome_iff_exists
abbrev fU:=@List.take_sublist
abbrev fV:=@PySem.F.slot_tuple_add
abbrev fW:=@PySem.F.entry_tuple_add
abbrev fX:=@PySem.F.args_tuple_add_2
abbrev fY:=@List.getElem_mem
abbrev fZ:=@Nat.min_le_right
abbrev gb:=@Bool.not_eq_true
abbrev gf:=@PySem.F.plainAttrs_list
abbrev gh:=@List.eq_nil_or_concat
abbrev gj:=@List.concat_eq_append
abbrev gk:=@List.ext_getElem?
abbrev gn:=@List.length_reverse
abbrev gq:=@List.cons_append
abbrev gr:=@Nat.add_right_comm
abbrev gw:=@Nat.succ_lt_succ
abbrev gA:=@Array.getElem?_eq_some_iff
abbrev gB:=@Option.bind_some
abbrev gC:=@List.eraseIdx_cons_succ
abbrev gF:=@List.map_reverse
end
namespace K
open PySem PySem.W PyProof.Rows
abbrev pwT:=PySem.Challenge.pw_pivotfold_k35_key_and_names_exchanged
abbrev rwT:=PySem.Challenge.rw_pivotfold_k35_key_and_names_exchanged
def B3i:Stmt->Bool
 | .Assign [.Name n _] _ _=>!(["__name__"]:v4).contains n
 | _=>true
def qT:u6:={ pwT with main:={ pwT.main with body:=pwT.main.body.filter B3i } }
abbrev xtT:u_->Bool:=fun s=>xlAt qT [] s&&recOk (RowW.records rwT.row.toRowW) s
set_option maxHeartbeats 0 in
theorem B1r:LeftO rwT.row.prog qT [] xtT Hook.none.obs Hook.none.val 20000:=fun w=>by kernel_rfl
end K
namespace L2
open PySem PySem.Spec PyProof.Rows
abbrev Key:=Sum Int Str
def Rf:Key->Value->Bool
 | .inl k,v=>Value.isInt k v
 | .inr x,v=>Value.isStrOf x v
def Bt3 (w:World):Key->Int
 | .inl k=>hashInt k
 | .inr x=>hashStr w x
theorem Fe:∀{k:Key}{v:Value},Rf k v=true->(∃i t,k=Sum.inl i/\v=Value.int i t)\/(∃x t,k=Sum.inr x/\v=Value.str x t)
 | .inl i,v,h=>by
  obtain⟨t,e⟩:=Value.isInt_shape (k:=i) (v:=v) h;exact .inl ⟨i,t,rfl,e⟩
 | .inr x,v,h=>by
  obtain⟨t,e⟩:=Value.isStrOf_shape (x:=x) (v:=v) h;exact .inr ⟨x,t,rfl,e⟩
theorem Zm (i:Int)(t:Tok):Rf (.inl i) (.int i t)=true:=by simp[Rf,Value.isInt]
theorem Yz (x:Str)(t:Tok):Rf (.inr x) (.str x t)=true:=by simp[Rf,Value.isStrOf]
theorem Bs9 (a b:Int):decide ((Sum.inl a:Key)=Sum.inl b)=(a==b):=by
 grind
theorem Bq7 (a b:Str):decide ((Sum.inr a:Key)=Sum.inr b)=decide (a=b):=by
 grind
theorem B0g (a:Int)(b:Str):decide ((Sum.inl a:Key)=Sum.inr b)=false:=aK fun q=>nomatch q
theorem Bu2 (a:Str)(b:Int):decide ((Sum.inr a:Key)=Sum.inl b)=false:=aK fun q=>nomatch q
def Gd (prog:u6)(w:World):PySem.KeyKind prog w Key where
 is:=Rf
 hash:=Bt3 w
 inj:=fun v a b ha hb=>by
  rcases Fe ha with ⟨i,t,rfl,rfl⟩ | ⟨x,t,rfl,rfl⟩
  ·rcases Fe hb with ⟨j,u,rfl,e⟩ | ⟨y,u,rfl,e⟩
   ·injection e with e1 _;rw[e1]
   ·exact nomatch e
  ·rcases Fe hb with ⟨j,u,rfl,e⟩ | ⟨y,u,rfl,e⟩
   ·exact nomatch e
   ·injection e with e1 _;rw[e1]
 byValue:=fun k v h=>by
  rcases Fe h with ⟨i,t,rfl,rfl⟩ | ⟨x,t,rfl,rfl⟩ <;> rfl
 pyHash:=fun hv h=>by
  rcases Fe hv with ⟨i,t,rfl,rfl⟩ | ⟨x,t,rfl,rfl⟩
  ·exact wpAny_pyHash_int h
  ·exact wpAny_pyHash_str h
 eqBool:=fun hu hv h=>by
  rcases Fe hu with ⟨i,t,rfl,rfl⟩ | ⟨x,t,rfl,rfl⟩
  ·rcases Fe hv with ⟨j,u,rfl,rfl⟩ | ⟨y,u,rfl,rfl⟩
   ·rw[Bs9]at h;exact wpAny_eqBool_int h
   ·rw[B0g]at h;exact SeqAt.EqAt.int_str i t y u _ _ _ _ h
  ·rcases Fe hv with ⟨j,u,rfl,rfl⟩ | ⟨y,u,rfl,rfl⟩
   ·rw[Bu2]at h;exact SeqAt.EqAt.str_int x t j u _ _ _ _ h
   ·rw[Bq7]at h;exact wpAny_eqBool_str h
 «strs»:=fun k x t v h=>by
  rcases Fe h with ⟨i,u,rfl,e⟩ | ⟨y,u,rfl,e⟩
  ·exact nomatch e
  ·injection e with e1 _
   subst e1
   cases v <;> rfl
theorem Np (prog:u6)(w:World)(i:Int)(t:Tok):(Gd prog w).is (.inl i) (.int i t)=true:=Zm i t
theorem Nb (prog:u6)(w:World)(x:Str)(t:Tok):(Gd prog w).is (.inr x) (.str x t)=true:=Yz x t
noncomputable instance B4g:DecidableEq t6:=fun a b=>Classical.propDecidable (a=b)
mutual
def keyB:t6->Bool
 | .none=>true
 | .int _=>true
 | .str _=>true
 | .tuple ds=>Ez ds
 | _=>false
def Ez:w5->Bool
 | []=>true
 | d::ds=>keyB d&&Ez ds
end
mutual
theorem Mm:∀(x y:t6),keyB x=true->keyB y=true->(PyData.eqv x y=true↔x=y)
 | .none,y,_,hy=>by cases y <;> simp_all [PyData.eqv,keyB]
 | .int _,y,_,hy=>by cases y <;> simp_all [PyData.eqv,keyB]
 | .str _,y,_,hy=>by cases y <;> simp_all [PyData.eqv,keyB]
 | .tuple xs,.tuple ys,hx,hy=>by
  have:=Ah3 xs ys hx hy
  show PyData.eqvAll xs ys=true↔_
  rw[this]
  exact⟨fun e=>by rw[e],fun e=>by cases e;rfl⟩
 | .tuple xs,.none,hx,hy=>⟨(fun e=>nomatch e),fun e=>nomatch e⟩
 | .tuple xs,.int _,hx,hy=>⟨(fun e=>nomatch e),fun e=>nomatch e⟩
 | .tuple xs,.str _,hx,hy=>⟨(fun e=>nomatch e),fun e=>nomatch e⟩
theorem Ah3:∀(xs ys:w5),Ez xs=true->Ez ys=true->(PyData.eqvAll xs ys=true↔xs=ys)
 | [],[],_,_=>⟨fun _=>rfl,fun _=>rfl⟩
 | [],_::_,_,_=>⟨(fun e=>nomatch e),fun e=>nomatch e⟩
 | _::_,[],_,_=>⟨(fun e=>nomatch e),fun e=>nomatch e⟩
 | x::xs,y::ys,hx,hy=>by
  obtain⟨a,b⟩:=aq.mp (show (keyB x&&Ez xs)=true from hx)
  obtain⟨c,d⟩:=aq.mp (show (keyB y&&Ez ys)=true from hy)
  show (PyData.eqv x y&&PyData.eqvAll xs ys)=true↔_
  rw[aq,Mm x y a c,Ah3 xs ys b d,List.cons.injEq]
end
mutual
theorem V5 {h h':Heap}{d:Addr}{o:Obj}{es:v8}{ep:Nat}(ho:h.get? d=some o)(hd:o.data=.dict es ep)(hs:Heap.SameBut d h h'):∀(k:t6),keyB k=true->∀(v:Value) (as:v6),Reads h v k as->Reads h' v k as
 | .none,_,_,_,r=>by cases r;exact .none
 | .int i,_,_,_,r=>by cases r;exact .int _ _
 | .str x,_,_,_,r=>by cases r;exact .str _ _
 | .tuple ds,hk,_,_,r=>by
  cases r with
  | @tuple a o' vs n xs as h1 h2 h3 h4 =>
   refine .tuple ((hs.2 a ?_).trans h1) h2 h3 (Us ho hd hs ds hk _ _ h4)
   intro e;rw[e,ho]at h1;cases h1;rw[hd]at h3;cases h3
theorem Us {h h':Heap}{d:Addr}{o:Obj}{es:v8}{ep:Nat}(ho:h.get? d=some o)(hd:o.data=.dict es ep)(hs:Heap.SameBut d h h'):∀(ks:w5),Ez ks=true->∀(vs:w6) (as:v6),ReadsAll h vs ks as->ReadsAll h' vs ks as
 | [],_,_,_,r=>by cases r;exact .nil
 | k::ks,hk,_,_,r=>by
  obtain⟨a,b⟩:=aq.mp (show (keyB k&&Ez ks)=true from hk)
  cases r with
  | cons r1 r2=>exact .cons (V5 ho hd hs k a _ _ r1) (Us ho hd hs ks b _ _ r2)
end
mutual
def Ca (w:World):t6->Int
 | .none=>hashInt 0xFCA86420
 | .int i=>Bt3 w (.inl i)
 | .str x=>Bt3 w (.inr x)
 | .tuple ds=>reduceHash (Builtin.Tuple.tupleHashOf (Mg w ds))
 | _=>0
def Mg (w:World):w5->List Int
 | []=>[]
 | d::ds=>Ca w d::Mg w ds
end
mutual
def Am8:t6->Nat
 | .tuple ds=>M9 ds+1
 | _=>1
def M9:w5->Nat
 | []=>0
 | d::ds=>Am8 d+M9 ds
end
section
variable {prog:u6}{w:World}
theorem Y8 {A:t_}{E:z_}{s:u_}{Q:Int->u_->Prop}(h:Q (hashInt 0xFCA86420) { s with toks:=s.toks+1 }):wpAny (model prog w) A (pyHash .none) Q E s:=by
 have a:s.TypeIs Value.none "NoneType" := rfl;unfold pyHash
 first | unfold pyHashByItsType | skip
 have b:[Value.none].any Value.onHeap=false:=rfl
 refine wpAny_bind ?_
 rw[cRoomFor,if_neg (by rw[b];exact bu)];refine wpAny_pure ?_
 refine wpAny_bind (wpAny_specialOf a F.slot_NoneType_hash.lookup ?_)
 show wpAny _ _ (if (some (Value.builtin "NoneType.__hash__")==some Value.none)=true then _ else _) Q E s
 rw[if_neg (by rw[beq_builtin_none];exact bu)]
 refine wpAny_bind (wpAny_specialOf a F.slot_NoneType_hash.lookup ?_)
 show wpAny _ _ (callSpecialIfBoundUnlessNone? .none "__hash__" _ >>= _) Q E s
 refine wpAny_bind (wpAny_callSpecialIfBoundUnlessNone?_slot a F.slot_NoneType_hash
  (wpAny_call_entry F.slot_NoneType_hash a F.entry_NoneType_hash
   (show wpAny _ _ (do ret (<- mkInt _)) _ _ s from wpAny_ret_mkInt ?_) (F.args_NoneType_hash_1 _)))
 exact wpAny_pure h
theorem A0v:∀(n:Nat) (d:t6),d.depth<=n->keyB d=true->∀(A:t_) (E:z_) (s:u_) (v:Value) (y:v6) (Q:Int->u_->Prop),A.units+n<cLine->Reads s.heap v d y ->
 Q (Ca w d) { s with toks:=s.toks+Am8 d }->wpAny (model prog w) A (pyHash v) Q E s:=by
 intro n
 induction n with
 | zero =>
  intro d M j A E s v y Q C r h
  cases r with
  | none=>exact Y8 h
  | int i t=>exact(Gd prog w).pyHash (k:=.inl i) (v:=.int i t) (Np prog w i t) h
  | str x t=>exact(Gd prog w).pyHash (k:=.inr x) (v:=.str x t) (Nb prog w x t) h
  | tuple=>exact absurd M (by simp[PyData.depth])
  | bool b=>cases j
  | list=>cases j
  | dict=>cases j
 | succ n Y =>
  intro d M j A E s v y Q C r h
  cases r with
  | none=>exact Y8 h
  | int i t=>exact(Gd prog w).pyHash (k:=.inl i) (v:=.int i t) (Np prog w i t) h
  | str x t=>exact(Gd prog w).pyHash (k:=.inr x) (v:=.str x t) (Nb prog w x t) h
  | bool b=>cases j
  | list=>cases j
  | dict=>cases j
  | @tuple a o N n' g y R hc J U =>
   have G:s.TypeIs (.ref a) "tuple" := ⟨o,R,hc⟩
   have H:PyData.depthAll g<=n:=eN (show PyData.depthAll g+1<=n+1 from M)
   have I:Ez g=true:=j;unfold pyHash
   first | unfold pyHashByItsType | skip
   first | refine wpAny_bind (wpAny_cRoomFor_or (.inr (aQ (c7 _ _) C)) ?_) | skip
   refine wpAny_bind (wpAny_specialOf G F.slot_tuple_hash.lookup ?_)
   show wpAny _ _ (if (some (Value.builtin "tuple.__hash__")==some Value.none)=true then _ else _) Q E s
   rw[if_neg (by rw[beq_builtin_none];exact bu)]
   refine wpAny_bind (wpAny_specialOf G F.slot_tuple_hash.lookup ?_)
   show wpAny _ _ (callSpecialIfBoundUnlessNone? (.ref a) "__hash__" _ >>= _) Q E s
   refine wpAny_bind (wpAny_callSpecialIfBoundUnlessNone?_slot G F.slot_tuple_hash (wpAny_call_entry F.slot_tuple_hash G F.entry_tuple_hash ?_ (F.args_tuple_hash_1 _)))
   show wpAny _ _ (Builtin.Tuple.tupleItemsOf (.ref a) >>= _) _ _ s
   refine wpAny_bind (wpAny_tupleItemsOf R J ?_)
   refine wpAny_bind ?_
   rw[<- dM]
   refine wpAny_forIn_list _
    (fun m (b:Array Int) O=>∃c e K,Mg w g=c++Mg w e/\ReadsAll s.heap m e K/\Ez e=true/\PyData.depthAll e<=n/\b.toList=c/\∃k,k+M9 e=M9 g/\O={ s with toks:=s.toks+k })
    _ ?_ ?_ _ _ ⟨[],g,_,rfl,U,I,H,rfl,0,aY _,rfl⟩
   ·rintro x m b O ⟨c,e,K,z,L,q,p,B,k,D,rfl⟩
    cases L with
    | @cons _ _ l f V W X u =>
     obtain⟨Z,S⟩:=aq.mp (show (keyB l&&Ez f)=true from q)
     have P:l.depth<=n/\PyData.depthAll f<=n:=by
      have:max l.depth (PyData.depthAll f)<=n:=p;omega
     refine wpAny_bind (Y l P.1 Z _ _ _ _ _ _ (by first | exact aQ (by simp;omega) C | (have:=C;simp at *;omega)) X ?_)
     first
      | exact wpAny_pure ⟨c++[Ca w l],f,_,by rw[z];simp[Mg],u,S,P.2,by simp[B],k+Am8 l,by rw[<- D];simp[M9,cT],by simp[cT]⟩
      | exact wpAny_bind (wpAny_pure (wpAny_pure ⟨c++[Ca w l],f,_,by rw[z];simp[Mg],u,S,P.2,by simp[B],k+Am8 l,by rw[<- D];simp[M9,cT],by simp[cT]⟩))
   ·rintro b O ⟨c,e,K,z,L,q,p,B,k,D,rfl⟩
    cases L
    have e2:Mg w g=c:=by rw[z];simp[Mg]
    have T:k=M9 g:=D
    have h:Q (reduceHash (Builtin.Tuple.tupleHashOf (Mg w g))) { s with toks:=s.toks+(M9 g+1) }:=h
    rw[e2]at h;subst T
    show wpAny _ _ (retInt (Builtin.Tuple.tupleHashOf b.toList)) _ _ _
    rw[B]
    refine wpAny_ret_mkInt ?_
    show wpAny _ _ (if (decide (-(2:Int) ^ 63<=Builtin.Tuple.tupleHashOf c)&&decide (Builtin.Tuple.tupleHashOf c<2 ^ 63))=true then _ else _) Q E _
    unfold reduceHash at h
    by_cases hr:(decide (-(2:Int) ^ 63<=Builtin.Tuple.tupleHashOf c)&&decide (Builtin.Tuple.tupleHashOf c<2 ^ 63))=true
    ·rw[if_pos hr]
     rw[if_pos hr]at h
     exact wpAny_pure (by simpa[cT] using h)
    ·rw[if_neg hr]
     rw[if_neg hr]at h
     exact wpAny_bind (wpAny_rule (wpAny_pure (by simpa[cT] using h)))
theorem Ar3:∀(m:Nat) (d:t6),d.depth<=m->keyB d=true->∀(A:t_) (E:z_) (s:u_) (v:Value) (j:v6) (Q:Bool->u_->Prop),Reads s.heap v d j->Q true s->wpAny (model prog w) A (eqIsQuiet (m+1) v) Q E s:=by
 intro m
 induction m with
 | zero =>
  intro d q f A E s v j Q r h
  cases r with
  | none=>rw[eqIsQuiet_byValue _ rfl];exact wpAny_pure h
  | int i t=>rw[eqIsQuiet_byValue _ rfl];exact wpAny_pure h
  | str x t=>rw[eqIsQuiet_byValue _ rfl];exact wpAny_pure h
  | tuple=>exact absurd q (by simp[PyData.depth])
  | bool b=>cases f
  | list=>cases f
  | dict=>cases f
 | succ n O =>
  intro d q f A E s v j Q r h
  cases r with
  | none=>rw[eqIsQuiet_byValue _ rfl];exact wpAny_pure h
  | int i t=>rw[eqIsQuiet_byValue _ rfl];exact wpAny_pure h
  | str x t=>rw[eqIsQuiet_byValue _ rfl];exact wpAny_pure h
  | bool b=>cases f
  | list=>cases f
  | dict=>cases f
  | @tuple a o y n' M j G L l U =>
   have D:s.TypeIs (.ref a) _:=⟨o,G,L⟩
   have p  := eN (show PyData.depthAll _+1<=n+1 from q)
   unfold eqIsQuiet
   refine wpAny_bind (wpAny_specialOf D F.slot_tuple_eq.lookup ?_)
   refine wpAny_bind (wpAny_isInstance D isSubtype_tuple_tuple ?_)
   refine wpAny_bind (wpAny_seqItems G l ?_)
   refine wpAny_bind ?_
   rw[<- dM]
   refine wpAny_forIn_list _ (fun e r u=>r.1=none/\u=s/\∃c H,ReadsAll _ e c H/\Ez c=true/\PyData.depthAll c<=n) _ ?_ ?_ _ _ ⟨rfl,rfl,M,_,U,f,p⟩
   ·rintro v e r u ⟨C,rfl,c,H,J,k,z⟩
    cases J with
    | @cons _ _ N g P R K B =>
     obtain⟨S,T⟩:=aq.mp (show (keyB _&&Ez _)=true from k)
     have I:N.depth<=n/\PyData.depthAll g<=n:=by
      have:max _ _<=n:=z;omega
     refine wpAny_bind (O _ I.1 S _ _ _ _ _ _ K ?_)
     exact wpAny_pure ⟨rfl,rfl,g,_,B,T,I.2⟩
   ·rintro⟨r1,r2⟩ u ⟨C,rfl,_⟩
    subst C;exact wpAny_pure h
def isKeyT (h:Heap)(k:t6)(a:Addr):Prop:=(keyB k=true/\k.canLay0=true/\k.depth<=7)/\∃as,Reads h (.ref a) k as
def Dw (prog:u6)(w:World):HeapKind prog w t6 where
 is:=isKeyT
 hash:=Ca w
 draws:=Am8
 room:=fun A=>A.units+8<cLine
 inj:=fun hx hy=>let ⟨⟨_,l,_⟩,_,r⟩:=hx;let ⟨_,_,r'⟩:=hy; SeqAt.Reads.unique _ _ _ _ _ l r r'
 keeps:=fun x ho hd hs=>let ⟨c,_,r⟩:=x; ⟨c,_,V5 ho hd hs _ c.1 _ _ r⟩
 pyHash:=fun hu hk h=>let ⟨c,_,r⟩:=hk; A0v 7 _ c.2.2 c.1 _ _ _ _ _ _ (aQ (bw (by decide) _) hu) r h
 eqBool:=fun {A E s x y a b Q} hu hx hy h=>by
  obtain⟨c,_,r⟩:=hx;obtain⟨d,_,r'⟩:=hy
  refine SeqAt.eqAt_reads x y A s _ _ _ _ r r' c.2.1 d.2.1 (aQ (bw (ao (Nat.min_le_left _ _) (ao c.2.2 (by decide))) _) hu) prog w E Q ?_
  have e:PyData.eqv x y=decide (x=y):=by
   have:=Mm x y c.1 d.1
   by_cases z:x=y
   ·rw[aD z];exact this.mpr z
   ·rw[aK z]
    cases q:PyData.eqv x y with
    | false=>rfl
    | true=>exact absurd (this.mp q) z
  rw[e];exact h
 quiet:=fun hk h=>let ⟨c,_,r⟩:=hk; Ar3 7 _ c.2.2 c.1 _ _ _ _ _ _ r h
end
inductive V where
 | non | bl (b:Bool) | int (i:Int) | str (x:Str) | byt (b:Array UInt8) | flt (b:UInt64) | ref (a:Addr) | ty (n:String)
 deriving DecidableEq
abbrev n8:=List V
@[simp] theorem V.bl.injEq (a b:Bool):(V.bl a=V.bl b)=(a=b):=propext ⟨fun h=>by cases h;rfl,fun h=>by rw[h]⟩
@[simp] theorem V.int.injEq (a b:Int):(V.int a=V.int b)=(a=b):=propext ⟨fun h=>by cases h;rfl,fun h=>by rw[h]⟩
@[simp] theorem V.str.injEq (a b:Str):(V.str a=V.str b)=(a=b):=propext ⟨fun h=>by cases h;rfl,fun h=>by rw[h]⟩
@[simp] theorem V.byt.injEq (a b:Array UInt8):(V.byt a=V.byt b)=(a=b):=propext ⟨fun h=>by cases h;rfl,fun h=>by rw[h]⟩
@[simp] theorem V.ref.injEq (a b:Addr):(V.ref a=V.ref b)=(a=b):=propext ⟨fun h=>by cases h;rfl,fun h=>by rw[h]⟩
def RelV:V->Value->Prop
 | .non,u=>u=Value.none
 | .bl b,u=>u=Value.bool b
 | .int i,u=>∃t,u=Value.int i t
 | .str x,u=>∃t,u=Value.str x t
 | .byt b,u=>∃t,u=Value.bytes b t
 | .flt b,u=>∃t,u=Value.float b t
 | .ref a,u=>u=Value.ref a
 | .ty n,u=>u=Value.type n
abbrev Vals:n8->w6->Prop:=Paired RelV
theorem Vals.length {xs:n8}{us:w6}(r:Vals xs us):xs.length=us.length:=Paired.length r
theorem Vals.get:∀{xs:n8}{us:w6}{i:Nat}{x:V},Vals xs us->xs[i]?=some x->∃u,us[i]?=some u/\RelV x u
 | _,_,_,_,.nil,e=>by simp at e
 | _,_,0,_,.cons r _,e=>by simp at e;subst e;exact⟨_,rfl,r⟩
 | _,_,i+1,x,.cons _ t,e=>by
  obtain⟨u,h1,h2⟩:=Vals.get (i:=i) (x:=x) t (by simpa using e)
  exact⟨u,by simpa using h1,h2⟩
theorem Vals.set {x:V}{u:Value}(r:RelV x u):∀{xs:n8}{us:w6}(i:Nat),Vals xs us->Vals (xs.set i x) (us.set i u)
 | _,_,_,.nil=>.nil
 | _,_,0,.cons _ t=>.cons r t
 | _,_,i+1,.cons q t=>.cons q (Vals.set r i t)
theorem Vals.append:∀{xs ys:n8}{us ws:w6},Vals xs us->Vals ys ws->Vals (xs++ys) (us++ws)
 | _,_,_,_,.nil,s=>s
 | _,_,_,_,.cons r t,s=>.cons r (Vals.append t s)
theorem Vals.take:∀{xs:n8}{us:w6}(n:Nat),Vals xs us->Vals (xs.take n) (us.take n)
 | _,_,0,_=>.nil
 | _,_,_+1,.nil=>.nil
 | _,_,n+1,.cons r t=>.cons r (Vals.take n t)
theorem Vals.drop:∀{xs:n8}{us:w6}(n:Nat),Vals xs us->Vals (xs.drop n) (us.drop n)
 | _,_,0,r=>r
 | _,_,_+1,.nil=>.nil
 | _,_,n+1,.cons _ t=>Vals.drop n t
def RelO:Option V->u9->Prop
 | some v,some u=>RelV v u
 | none,none=>True
 | _,_=>False
def KV {κ:Type}:List (κ×V)->List (κ×Value)->Prop:=Paired fun (p:κ×V) (q:κ×Value)=>p.1=q.1/\RelV p.2 q.2
def kV:Key->V
 | .inl i=>.int i
 | .inr x=>.str x
inductive HO where
 | lst (xs:n8)
 | tup (xs:n8)
 | dK (kvs:List (Key×V)) | dT (kvs:List (PyData×V))
 | set (S:Int->Bool) (n:Nat)
 | ins (C dx:Addr) (fs:List (Str×V))
 | own (x:Addr)
 | xd (fs:List (Str×V))
 | met (f x:Addr)
 | rng (lo hi:Int)
 | frz (o:Obj) (u:HO)
 | tbl (q:Str)
 | ext (φ:Heap->Prop)
abbrev Hp:=Addr->Option HO
def upd (H:Hp)(a:Addr)(o:HO):Hp:=fun b=>if b=a then some o else H b
theorem Cq {H:Hp}{a:Addr}{o:HO}:upd H a o a=some o:=by unfold upd;simp_all
theorem Bb {H:Hp}{a b:Addr}{o:HO}(h:b≠a):upd H a o b=H b:=by unfold upd;simp_all
theorem By {H:Hp}{a b:Addr}{o:HO}(h:H a=some o)(h':H b=none):a≠b:=by
 grind
mutual
def KTr (H:Hp):t6->V->Prop
 | .none,v=>v=.non
 | .int i,v=>v=.int i
 | .str x,v=>v=.str x
 | .tuple ds,v=>∃a vs,v=.ref a/\H a=some (.tup vs)/\KTrL H ds vs
 | _,_=>False
def KTrL (H:Hp):w5->n8->Prop
 | [],vs=>vs=[]
 | d::ds,vs=>∃v r,vs=v::r/\KTr H d v/\KTrL H ds r
end
mutual
theorem KTr.stay {H H':Hp}(ht:∀b xs,H b=some (.tup xs)->H' b=some (.tup xs)):∀{d:t6}{v:V},KTr H d v->KTr H' d v
 | .none,_,h=>h
 | .int _,_,h=>h
 | .str _,_,h=>h
 | .tuple _,_,⟨a,vs,e,ha,t⟩=>⟨a,vs,e,ht _ _ ha,KTrL.stay ht t⟩
theorem KTrL.stay {H H':Hp}(ht:∀b xs,H b=some (.tup xs)->H' b=some (.tup xs)):∀{ds:w5}{vs:n8},KTrL H ds vs->KTrL H' ds vs
 | [],_,h=>h
 | _::_,_,⟨v,r,e,h,t⟩=>⟨v,r,e,KTr.stay ht h,KTrL.stay ht t⟩
end
def Bn1 (k:t6):Prop:=keyB k=true/\k.canLay0=true/\k.depth<=7
def KAt (H:Hp)(k:t6)(a:Addr):Prop:=Bn1 k/\KTr H k (.ref a)
theorem KAt.stay {H H':Hp}{k:t6}{a:Addr}(ht:∀b xs,H b=some (.tup xs)->H' b=some (.tup xs))(h:KAt H k a):KAt H' k a:=⟨h.1,KTr.stay ht h.2⟩
def zH (h:Heap)(a:Addr)(items:v7):Prop:=∃o,h.get? a=some o/\o.cls=.type "tuple" /\ (∃n,o.data=.seq items n)/\o.dict=none
theorem zH.tup {h:Heap}{a:Addr}{items:v7}(x:zH h a items):IsTup h a items:=let ⟨o,h1,h2,h3,_⟩:=x; ⟨o,h1,h2,h3⟩
theorem zH.lt {h:Heap}{a:Addr}{items:v7}(x:zH h a items):a<h.objs.size:=x.tup.lt
theorem zH.new (h:Heap)(items:v7):zH (h.push { cls:=.type "tuple",data:=.seq items }) h.objs.size items:=⟨_,Heap.get?_push_size _ rfl,rfl,⟨_,rfl⟩,rfl⟩
section
variable (P:u6)(w:World)
def z9 (H:Hp)(h:Heap)(a:Addr):HO->Prop
 | .lst xs=>xs.length<=sizeLine/\∃(its:w6) (n:Nat),Vals xs its/\h.get? a=some { cls:=.type "list",data:=.seq its.toArray n }
 | .tup xs=>xs.length<=sizeLine/\∃its:w6,Vals xs its/\zH h a its.toArray
 | .dK kvs=>kvs.length<=sizeLine/\(a==sysModules)=false/\∃vs,KV kvs vs/\h.DictOf (Gd P w) a vs
 | .dT kvs=>kvs.length<=sizeLine/\(a==sysModules)=false/\∃xs:List (PyData×Addr×Value),
  Paired (fun (p:PyData×V) (q:PyData×Addr×Value)=>p.1=q.1/\KAt H p.1 q.2.1/\RelV p.2 q.2.2) kvs xs /\
  ∃o es ep,h.get? a=some o/\o.ExactDict/\o.data=.dict es ep/\es.toList=xs.map (entryOfKey (Dw P w))/\(xs.map (·.1)).Nodup
 | .set S n=>h.SetOf (intKind P w) a S n
 | .ins C dx fs=>H dx=some (.own a)/\fs.length<=1000/\dx≠a/\h.get? a=some (PySem.W.instObj C dx) /\
  ∃mA,h.Ns1 dx mA/\(∀f,RelO (fs.lookup f) (mA f))/\PySem.Within mA (fs.map (·.1))
 | .own _=>∃o,h.get? a=some o
 | .xd fs=>∃mA,h.Ns1 a mA/\∀f,RelO (fs.lookup f) (mA f)
 | .rng lo hi=>∃t u v,h.get? a=some { cls:=.type "range",data:=.fields #[.int lo t,.int hi u,.int 1 v] }
 | .frz o u=>h.get? a=some o/\z9 H h a u
 | .tbl q=>∃ps:v7,h.get? a=some { cls:=.none,data:=.fields ps }/\TriplesOk ps.toList/\∀pos cv,codeAmong pos ps.toList=some cv->∃c o vs t,cv=.ref c/\H c=some (.frz o (.own 0))/\o.data=.fields vs/\vs[1]?=some (.str q t)
 | .met f x=>h.get? a=some (PySem.W.methodObj (.ref f) (.ref x))
 | .ext φ=>φ h/\(∃o,h.get? a=some o)/\∀h1 h2:Heap,φ h1->(∀o,h1.get? a=some o->h2.get? a=some o)->φ h2
def HOk (H:Hp)(h:Heap):Prop:=∀a o,H a=some o->z9 P w H h a o
end
section
variable {P:u6}{w:World}{H H':Hp}{h h':Heap}{a:Addr}{o:HO}
theorem z9.lt (x:z9 P w H h a o):a<h.objs.size:=by
 cases o with
 | lst d=>obtain⟨_,_,_,_,e⟩:=x;exact Heap.lt_size e
 | tup d=>obtain⟨_,_,_,p⟩:=x;exact p.lt
 | dK b=>obtain⟨_,_,_,_,o,_,_,e,_⟩:=x;exact Heap.lt_size e
 | dT b=>obtain⟨_,_,_,_,o,_,_,e,_⟩:=x;exact Heap.lt_size e
 | set S n=>obtain⟨o,_,_,_,e,_⟩:=x;exact Heap.lt_size e
 | ins C g c=>obtain⟨_,_,_,e,_⟩:=x;exact Heap.lt_size e
 | own y=>obtain⟨_,e⟩:=x;exact Heap.lt_size e
 | xd c=>obtain⟨_,⟨_,_,_,e,_⟩,_⟩:=x;exact Heap.lt_size e
 | rng j k=>obtain⟨_,_,_,e⟩:=x;exact Heap.lt_size e
 | frz l u=>obtain⟨e,_⟩:=x;exact Heap.lt_size e
 | tbl q=>obtain⟨_,e,_⟩:=x;exact Heap.lt_size e
 | met f y=>exact Heap.lt_size (x)
 | ext i=>obtain⟨_,⟨_,e⟩,_⟩:=x;exact Heap.lt_size e
theorem Paired.mapP {α β:Type}{F G:α->β->Prop}:∀{l₁:List α}{l₂:List β},Paired F l₁ l₂->(∀a b,F a b->G a b)->Paired G l₁ l₂
 | _,_,.nil,_=>.nil
 | _,_,.cons r t,f=>.cons (f _ _ r) (Paired.mapP t f)
theorem z9.stay (x:z9 P w H h a o)(k:∀b u,(b=a\/H b=some (.own a))->h.get? b=some u->h'.get? b=some u)
 (ho:∀b,H b=some (.own a)->H' b=some (.own a)) (ht:∀b m,H b=some (.tup m)->H' b=some (.tup m)) (hz:∀b o u,H b=some (.frz o u)->H' b=some (.frz o u):=by exact fun _ _ _ q=>q):z9 P w H' h' a o:=by
 induction o with
 | lst m=>obtain⟨z,l,n,r,e⟩:=x;exact⟨z,l,n,r,k _ _ (.inl rfl) e⟩
 | tup m=>obtain⟨z,l,r,g,e,c⟩:=x;exact⟨z,l,r,g,k _ _ (.inl rfl) e,c⟩
 | dK A=>obtain⟨z,y,D,r,g,i,j,e,c⟩:=x;exact⟨z,y,D,r,g,i,j,k _ _ (.inl rfl) e,c⟩
 | dT A =>
  obtain⟨z,y,m,r,g,i,j,e,c⟩:=x
  exact⟨z,y,m,Paired.mapP r fun p q z=>⟨z.1,z.2.1.stay ht,z.2.2⟩,g,i,j,k _ _ (.inl rfl) e,c⟩
 | set S n=>obtain⟨g,i,j,t,e,c⟩:=x;exact⟨g,i,j,t,k _ _ (.inl rfl) e,c⟩
 | ins C M J =>
  obtain⟨d,z,G,e,s,⟨B,i,j,E,c⟩,r⟩:=x;exact⟨ho _ d,z,G,k _ _ (.inl rfl) e,s,⟨B,i,j,k _ _ (.inr d) E,c⟩,r⟩
 | own y=>obtain⟨g,e⟩:=x;exact⟨g,k _ _ (.inl rfl) e⟩
 | xd J=>obtain⟨s,⟨B,i,j,e,c⟩,r⟩:=x;exact⟨s,⟨B,i,j,k _ _ (.inl rfl) e,c⟩,r⟩
 | rng O N=>obtain⟨t,u,v,e⟩:=x;exact⟨t,u,v,k _ _ (.inl rfl) e⟩
 | frz g u K=>obtain⟨e,q⟩:=x;exact⟨k _ _ (.inl rfl) e,K q⟩
 | tbl q =>
  obtain⟨I,e,t,f⟩:=x
  exact⟨I,k a _ (.inl rfl) e,t,fun L Q z=>let ⟨c,g,D,tk,e1,E,e3⟩:=f _ _ z; ⟨c,g,D,tk,e1,hz _ _ _ E,e3⟩⟩
 | met f y =>
  have e:h.get? a=some _:=x
  show h'.get? a=some _
  grind
 | ext R=>obtain⟨p,⟨o,e⟩,F⟩:=x;exact⟨F _ _ p fun o q=>k _ _ (.inl rfl) q,⟨o,k _ _ (.inl rfl) e⟩,F⟩
theorem HOk.lt (x:HOk P w H h)(e:H a=some o):a<h.objs.size:=(x a o e).lt
theorem HOk.fresh (x:HOk P w H h)(e:h.objs.size<=a):H a=none:=by
 cases q:H a with
 | none=>rfl
 | some u=>exact absurd (aA (x.lt q) e) (bf _)
theorem HOk.kept (x:HOk P w H h)(k:∀b u,h.get? b=some u->h'.get? b=some u):HOk P w H h':=fun a o e =>
 (x a o e).stay (fun b u _ q=>k b u q) (fun _ q=>q) fun _ _ q=>q
theorem HOk.laid (x:HOk P w H h)(k:∀b u,h.get? b=some u->h'.get? b=some u)(hp:h.objs.size<=a)(f:z9 P w (upd H a o) h' a o):HOk P w (upd H a o) h':=fun b u e=>by
 have d:=x.fresh hp
 by_cases hb:b=a
 ·subst hb;rw[Cq]at e;simp_all
 ·rw[Bb hb]at e
  exact(x b u e).stay (fun c v _ q=>k c v q) fun c q=>by rw[Bb (By q d)];grind fun c g q=>by rw[Bb (By q d)];grind fun c i g q=>by rw[Bb (By q d)];grind
end
def Rd (H:Hp)(a:Addr)(u:HO):Prop:=H a=some u\/∃o,H a=some (.frz o u)
theorem Rd.ok {P:u6}{w:World}{H:Hp}{h:Heap}{a:Addr}{u:HO}(r:Rd H a u)(x:HOk P w H h):z9 P w H h a u:=by
 rcases r with r | ⟨o,r⟩
 ·exact x a u r
 ·obtain⟨_,q⟩:=x a _ r
  omega
def Mut:Option HO->Prop
 | some (.lst _)=>True
 | some (.dK _)=>True
 | some (.dT _)=>True
 | some (.set _ _)=>True
 | some (.ins _ _ _)=>True
 | some (.ext _)=>True
 | _=>False
section
variable {P:u6}{w:World}{H:Hp}{h h':Heap}{x e:Addr}{o':HO}
theorem HOk.write (s:HOk P w H h)(f:Mut (H x))(he:e=x\/H e=some (.own x))(k:∀b u,b≠e->h.get? b=some u->h'.get? b=some u)(m:∃u,h'.get? e=some u)
 (l:z9 P w (upd H x o') h' x o'):HOk P w (upd H x o') h':=fun b u q=>by
 have a:∀c y,H c=some (.own y)->c≠x:=fun c y r z=>by subst z;rw[r]at f;exact f
 have i:∀c d,H c=some (.tup d)->c≠x:=fun c d r z=>by subst z;rw[r]at f;exact f
 have g:∀c n d,H c=some (.frz n d)->c≠x:=fun c n d r z=>by subst z;rw[r]at f;exact f
 by_cases hb:b=x
 ·subst hb;rw[Cq]at q;cases q;exact l
 ·rw[Bb hb]at q
  by_cases hbe:b=e
  ·have o:H b=some (.own x):=by
    simp_all
   rw[q]at o;cases o;obtain⟨v,p⟩:=m
   exact⟨v,by rw[hbe];exact p⟩
  ·refine (s b u q).stay (fun c v j r=>k c v ?_ r) (fun c r=>by rw[Bb (a c b r)];exact r) (fun c d r=>by rw[Bb (i c _ r)];exact r) fun c n d r=>by rw[Bb (g c _ _ r)];exact r
   rcases j with rfl | j
   ·exact hbe
   ·rintro rfl
    rcases he with z | z
    ·exact a c b j z
    ·rw[j]at z;cases z;exact hb rfl
end
structure Un (fs ex:v6) (H H':Hp) (h h':Heap):Prop where
 keep:∀b o,h.get? b=some o->H b=none->b∉fs->b∉ex->h'.get? b=some o
 slot:∀b o,h.get? b=some o->H b=none->b∈fs->b∉ex->∃sl,h'.get? b=some { o with slots:=sl }
 free:∀b o,h.get? b=some o->H b=none->b∉ex->H' b=none
 there:∀b o,h.get? b=some o->b∉ex->∃o',h'.get? b=some o'
 tups:∀b xs,H b=some (.tup xs)->H' b=some (.tup xs)
 frzs:∀b o u,H b=some (.frz o u)->H' b=some (.frz o u)
 tbls:∀b q,H b=some (.tbl q)->H' b=some (.tbl q)
section
variable {fs fs' ex ex':v6}{H H1 H2:Hp}{h h1 h2 h':Heap}{a x e:Addr}{o:HO}
theorem Un.any (u:Un fs ex H H1 h h1){b:Addr}{ob:Obj}(q:h.get? b=some ob)(n:H b=none)(hx:b∉ex):∃sl,h1.get? b=some { ob with slots:=sl }:=by
 by_cases hb:b∈fs
 ·exact u.slot b _ q n hb hx
 ·exact⟨ob.slots,u.keep b _ q n hb hx⟩
theorem Un.kept (k:∀b u,h.get? b=some u->h'.get? b=some u):Un fs ex H H h h' :=
 ⟨fun b a q _ _ _=>k b _ q,fun b a q _ _ _=>⟨a.slots,k b a q⟩,fun _ _ _ n _=>n,fun b a q _=>⟨a,k b _ q⟩,fun _ _ q=>q,fun _ _ _ q=>q,fun _ _ q=>q⟩
theorem Un.refl:Un fs ex H H h h:=Un.kept fun _ _ q=>q
theorem Un.laid (k:∀b u,h.get? b=some u->h'.get? b=some u)(hp:h.objs.size<=a)(hn:H a=none):Un fs ex H (upd H a o) h h' where
 keep:=fun b u q _ _ _=>k b u q
 slot:=fun b u q _ _ _=>⟨u.slots,k b u q⟩
 free:=fun b u q n _=>by rw[Bb (aC (aA (Heap.lt_size q) hp))];exact n
 there:=fun b u q _=>⟨u,k b u q⟩
 tups:=fun b xs q=>by rw[Bb (By q hn)];exact q
 frzs:=fun b u xs q=>by rw[Bb (By q hn)];exact q
 tbls:=fun b ps q=>by rw[Bb (By q hn)];exact q
theorem Un.write (d:Mut (H x))(he:e=x\/H e=some (.own x))(k:∀b u,b≠e->h.get? b=some u->h'.get? b=some u)(f:∃u,h'.get? e=some u):Un fs ex H (upd H x o) h h':=by
 have i:∀b,H b=none->b≠x:=fun b n z=>by subst z;rw[n]at d;exact d
 have c:∀b,H b=none->b≠e:=fun b n z=>by
  grind
 have a:∀b u,H b=some u->¬ Mut (some u)->b≠x:=fun b u q l z=>by simp_all
 refine⟨fun b u q n _ _=>k b u (c b n) q,fun b u q n _ _=>⟨u.slots,k b u (c b n) q⟩,fun b u q n _=>by rw[Bb (i b n)];grind,fun b u q _=>?_,
  fun b g q=>by rw[Bb (a b _ q fun z=>z)];grind,fun b u g q=>by rw[Bb (a b _ q fun z=>z)];grind,fun b j q=>by rw[Bb (a b _ q fun z=>z)];grind⟩
 grind
end
def trk (h:Heap)(H:Hp):v6:=(List.range h.objs.size).filter fun a=>(H a).isSome
def Yb (h:Heap)(H:Hp):Heap:=PySem.W.hideAll h (trk h H)
theorem A1q (h:Heap)(H:Hp):(Yb h H).objs.size=h.objs.size:=PySem.W.hideAll_size _ _
theorem A6q {h:Heap}{H:Hp}{b:Addr}{o:Obj}(e:h.get? b=some o)(n:H b=none):(Yb h H).get? b=some o :=
 PySem.W.hideAll_get _ e fun a=>by
  have q  := (cU.mp a).2
  grind
theorem Ba8 {h:Heap}{H:Hp}{b:Addr}{o:Obj}(e:(Yb h H).get? b=some o):h.get? b=some o/\H b=none:=by
 have a  := PySem.W.of_hideAll _ e
 refine⟨a,?_⟩
 cases q:H b with
 | none=>rfl
 | some x =>
  have c:b∈trk h H:=cU.mpr ⟨bc.mpr (Heap.lt_size a),by grind⟩
  have z:(Yb h H).get? b=none:=PySem.W.hideAll_none _ c
  simp_all
def Bk8 (g h:Heap)(L:Addr):y_:=(List.range h.objs.size).filterMap fun a=>if a=L\/(g.get? a).isSome=true then none else (h.get? a).map fun o=>(a,o)
def rest (g h:Heap)(L d:Addr):y_:=(Bk8 g h L).filter fun p=>decide (p.1≠d)
def Ay0 (T:Addr)(q:Str):Obj:={ cls:=.str q 0,data:=.cell (some (.ref T)) }
def Vw (o:Obj):Option (Addr×Str):=match o.data with
 | .cell (some (.ref T))=>(match o.cls with
  | .str q _=>some (T,q)
  | _=>none)
 | _=>none
def Eu (K:v9):List (Addr×Str):=K.filterMap fun p=>Vw p.2
structure Mod (K:v9) (mg:x_) (base:Heap):Prop where
 kin:K.In base
 glob:base.Ns mainGlobals mg
 blt:∃mb,base.Ns builtinsNs mb/\∀x:Str,x ≠ "__name__" -> mb x=bootBuiltins x
 nolimit:base.NoLimit
 bmod:∃bm o,mg "__builtins__" = some (.ref bm)/\bm≠builtinsNs/\bm≠mainGlobals/\base.get? bm=some o/\o.cls=.type "module" /\ o.dict=some builtinsNs/\o.data=.plain
structure Cx where
 prog:u6
 w:World
 K:v9
 mg:x_
 base:Heap
 A:t_
 N:v4
 s₀:u_
 H₀:Hp
 env:Env
 outer:List Env
 stack:List Env
 ex:v6
 fn:Str->Bool
 calm:Bool
 pn:y_
 xe:z_
def frs (l:List Env):v6:=l.filterMap (·.frame)
abbrev Cx.fs (X:Cx):v6:=frs X.outer
def Vis (sc:Scope)(x:Str):Prop:=sc.names.lookup x=some .local\/sc.names.lookup x=some .cell\/sc.names.lookup x=some .free
def Loc (sc:Scope)(x:Str):Prop:=sc.names.lookup x=some .local\/sc.names.lookup x=some .cell
def Look (env:Env)(h:Heap)(m:x_)(x:Str)(u:Value):Prop :=
 (env.kindOf x=some .local/\m x=some u)\/((env.kindOf x=some .cell\/env.kindOf x=some .free)/\∃c,env.cells.lookup x=some c/\h.IsCell c (some u))
structure Cx.Ok (X:Cx):Prop where
 mod:Mod X.K X.mg X.base
 kind:X.env.scope.kind=.function
 glob:X.env.globals=mainGlobals
 blt:X.env.builtins=builtinsNs
 above:X.s₀.heap.objs.size<=X.env.locals
 inj:∀x y c,X.env.cells.lookup x=some c->X.env.cells.lookup y=some c->x=y
 has:∀x,(X.env.kindOf x=some .cell\/X.env.kindOf x=some .free)->∃c,X.env.cells.lookup x=some c
 cab:∀x c,X.fn x=true->X.env.cells.lookup x=some c->X.s₀.heap.objs.size<=c
 hd:X.calm=true->X.A.handled=none
 frames:X.A.frames=some X.stack
 stk:X.stack=X.outer\/(X.stack=X.env::X.outer/\X.env.frame=some X.env.locals)
 exf:∀b∈X.ex,b≠X.env.locals/\∀x c,X.env.cells.lookup x=some c->c≠b
 bs:∀b o,X.base.get? b=some o->X.s₀.heap.get? b=some o/\X.H₀ b=none
 bsz:X.base.objs.size<=X.s₀.heap.objs.size
 noex:∀b o,X.base.get? b=some o->b∉X.ex
 exfs:∀b∈X.ex,b∉X.fs
 funs:X.s₀.heap.FunFrames X.base X.outer
 frf:∀b∈X.fs,X.H₀ b=none
 tab:∀p∈Eu X.K,X.H₀ p.1=some (.tbl p.2)
structure Inv (X:Cx) (pins:y_) (σ:List (Option V)) (H:Hp) (s:u_):Prop where
 ok:X.Ok
 os:s.os=X.s₀.os
 bare:AllBare s.gens
 base:Un X.fs X.ex X.H₀ H X.s₀.heap s.heap
 loc:∃m,s.heap.Ns X.env.locals m/\∀(i:Nat) (x:Str) (v:V),X.N[i]?=some x->σ[i]?=some (some v)->Vis X.env.scope x->∃u,RelV v u/\Look X.env s.heap m x u
 cell:∀x c,X.env.cells.lookup x=some c->∃v,s.heap.IsCell c v
 free:H X.env.locals=none
 freeC:∀x c,X.env.cells.lookup x=some c->H c=none
 pin:∀p∈X.pn++pins,s.heap.get? p.1=some p.2/\H p.1=none/\p.1≠X.env.locals/\p.1∉X.fs/\∀v,p.2.data≠.cell v
 hok:HOk X.prog X.w H s.heap
 len:σ.length=X.N.length
section
variable {X:Cx}{pins:y_}{σ:List (Option V)}{H H':Hp}{s:u_}{h':Heap}
theorem Cx.Ok.nofr (c:X.Ok){b:Addr}{o:Obj}(e:X.base.get? b=some o):b∉X.fs:=fun a=>by
 have:=(c.funs.mem a).1
 simp_all
theorem Inv.bs (I:Inv X pins σ H s):∀b o,X.base.get? b=some o->s.heap.get? b=some o/\H b=none:=fun b o e =>
 ⟨I.base.keep b o (I.ok.bs b o e).1 (I.ok.bs b o e).2 (I.ok.nofr e) (I.ok.noex b o e),I.base.free b o (I.ok.bs b o e).1 (I.ok.bs b o e).2 (I.ok.noex b o e)⟩
theorem Inv.bk (I:Inv X pins σ H s):∀b o,X.base.get? b=some o->s.heap.get? b=some o:=fun b o e=>(I.bs b o e).1
theorem Inv.mod (I:Inv X pins σ H s):Mod X.K X.mg X.base:=I.ok.mod
theorem Inv.kIn (I:Inv X pins σ H s):X.K.In s.heap:=I.ok.mod.kin.keeps I.bk
theorem Inv.nolimit (I:Inv X pins σ H s):s.heap.NoLimit:=I.ok.mod.nolimit.keeps I.bk
theorem Inv.fr (I:Inv X pins σ H s):∃m,Fr X.base X.env.locals s.heap m :=
 let ⟨m,hn,_⟩:=I.loc
 ⟨m,hn,I.bk,ao I.ok.bsz I.ok.above⟩
theorem Inv.lt (I:Inv X pins σ H s):X.env.locals<s.heap.objs.size:=let ⟨_,hn,_⟩:=I.loc;hn.lt
theorem Inv.sz (I:Inv X pins σ H s):X.s₀.heap.objs.size<=s.heap.objs.size:=ao I.ok.above (bM I.lt)
theorem Inv.nofs (I:Inv X pins σ H s){a:Addr}(h:s.heap.objs.size<=a):a∉X.fs:=fun c=>by
 obtain⟨_,o,b,_⟩:=I.ok.funs.mem c;exact absurd (aA (Heap.lt_size b) (ao I.sz h)) (bf _)
theorem Inv.cne (I:Inv X pins σ H s):∀x c,X.env.cells.lookup x=some c->c≠X.env.locals:=fun x c e z=>by
 obtain⟨v,o,d,i⟩:=I.cell x c e;obtain⟨m,⟨f,g,h,a,b,_⟩,_⟩:=I.loc
 simp_all
theorem Inv.funs (I:Inv X pins σ H s):s.heap.FunFrames X.base X.outer:=by
 have d:∀(l:List _),(∀b∈frs l,b∈X.fs)->X.s₀.heap.FunFrames X.base l->s.heap.FunFrames X.base l:=by
  intro l
  induction l with
  | nil=>intro _ _;trivial
  | cons h r j =>
   intro g q;obtain⟨i,⟨L,o,f,k,m,n⟩,p⟩:=q
   have c  := g L (by unfold frs;simp_all)
   obtain⟨t,e⟩:=I.base.slot L o m (I.ok.frf L c) c fun z=>I.ok.exfs L z c
   exact⟨i,⟨L,_,f,k,e,n⟩,j (fun b a=>g b (by unfold frs;rw[dz,f];exact aW _ a)) p⟩
 exact d _ (fun _ a=>a) I.ok.funs
theorem Inv.stack (I:Inv X pins σ H s):s.heap.FunFrames X.base X.stack:=by
 rcases I.ok.stk with e | ⟨e,b⟩
 ·rw[e];exact I.funs
 ·rw[e]
  obtain⟨m,a,_⟩:=I.loc
  refine .cons (by rw[I.ok.kind];decide) b a ?_ I.funs
  exact Heap.get?_none_of_le (ao I.ok.bsz I.ok.above)
theorem Inv.stkSub (I:Inv X pins σ H s):∀b∈frs X.stack,b∈X.env.locals::X.fs:=fun b a=>by
 rcases I.ok.stk with e | ⟨e,c⟩
 ·simp_all
 ·rw[e]at a
  unfold frs at a;rw[dz,c]at a;exact a
theorem Inv.stkFree (I:Inv X pins σ H s):∀b∈frs X.stack,H b=none:=fun b a=>by
 rcases az.mp (I.stkSub b a) with e | a
 ·rw[e];exact I.free
 ·obtain⟨_,o,c,_⟩:=I.ok.funs.mem a
  exact I.base.free b o c (I.ok.frf b a) fun z=>I.ok.exfs b z a
theorem Inv.step {g':Array GenState}{t':Nat}{d':Drawn}{ch:v6}(I:Inv X pins σ H s)
 (j:∀b∈ch,(b∈X.ex\/X.s₀.heap.objs.size<=b)/\b≠X.env.locals/\(∀x c,X.env.cells.lookup x=some c->c≠b)/\∀p∈X.pn++pins,p.1≠b)
 (t:∀b o,b≠X.env.locals->b∉X.fs->b∉ch->s.heap.get? b=some o->H b=none->h'.get? b=some o)
 (slot:∀b o,b≠X.env.locals->b∈X.fs->b∉ch->s.heap.get? b=some o->H b=none->∃L,h'.get? b=some { o with slots:=L }) (f:∀b o,b∉ch->s.heap.get? b=some o->H b=none->H' b=none)
 (w:∀b o,b∉ch->s.heap.get? b=some o->∃O,h'.get? b=some O)
 (D:∀b J,H b=some (.tup J)->H' b=some (.tup J)) (F:∀b o u,H b=some (.frz o u)->H' b=some (.frz o u)) (C:∀b q,H b=some (.tbl q)->H' b=some (.tbl q))
 (ns:∀m,s.heap.Ns X.env.locals m->h'.Ns X.env.locals m) (N:HOk X.prog X.w H' h') (hg:AllBare g') :
 Inv X pins σ H' { s with heap:=h',gens:=g',drawn:=d',toks:=t' }:=by
 have G:∀b o,X.s₀.heap.get? b=some o->b≠X.env.locals:=fun b o e=>aC (aA (Heap.lt_size e) I.ok.above)
 have h:∀b o,X.s₀.heap.get? b=some o->b∉X.ex->b∉ch:=fun b o e a A=>by
  rcases (j b A).1 with z | z
  ·exact a z
  ·exact absurd (aA (Heap.lt_size e) z) (bf _)
 have g:∀x c,X.env.cells.lookup x=some c->∀v,s.heap.IsCell c v->h'.IsCell c v:=fun x c e v ⟨o,B,K⟩=>by
  have E:c∉ch:=fun z=>(j c z).2.2.1 x c e rfl
  by_cases hc:c∈X.fs
  ·obtain⟨L,q⟩:=slot c o (I.cne x c e) hc E B (I.freeC x c e)
   exact⟨_,q,K⟩
  ·exact⟨o,t c o (I.cne x c e) hc E B (I.freeC x c e),K⟩
 refine⟨I.ok,I.os,hg,⟨fun b o e n A a=>?_,fun b o e n A a=>?_,fun b o e n a=>?_,fun b o e a=>?_,fun b J e=>D b _ (I.base.tups b _ e),fun b o J e=>F b o _ (I.base.frzs b o _ e),fun b V e=>?_⟩,?_,fun x c e=>?_,?_,fun x c e=>?_,fun p Q=>?_,N,I.len⟩
 ·exact t b o (G b o e) A (h b o e a) (I.base.keep b o e n A a) (I.base.free b o e n a)
 ·obtain⟨L,y⟩:=I.base.slot b o e n A a
  obtain⟨P,M⟩:=slot b _ (G b o e) A (h b o e a) y (I.base.free b o e n a);exact⟨P,M⟩
 ·obtain⟨O,y⟩:=I.base.there b o e a
  exact f b _ (h b o e a) y (I.base.free b o e n a)
 ·obtain⟨O,y⟩:=I.base.there b o e a
  exact w b _ (h b o e a) y
 ·exact C b _ (I.base.tbls b _ e)
 ·obtain⟨m,R,S⟩:=I.loc
  refine⟨m,ns m R,fun i x v y M T=>?_⟩
  obtain⟨u,r,l⟩:=S i x v y M T
  refine⟨u,r,?_⟩
  rcases l with l | ⟨k,c,e,z⟩
  ·exact .inl l
  ·exact .inr ⟨k,c,e,g x c e _ z⟩
 ·obtain⟨v,z⟩:=I.cell x c e
  exact⟨v,g x c e v z⟩
 ·obtain⟨m,⟨o,_,_,B,_⟩,_⟩:=I.loc
  exact f _ o (fun z=>(j _ z).2.1 rfl) B I.free
 ·obtain⟨v,o,B,K⟩:=I.cell x c e
  exact f c o (fun z=>(j c z).2.2.1 x c e rfl) B (I.freeC x c e)
 ·obtain⟨e,n,W,U,d⟩:=I.pin p Q
  grind
theorem Inv.un {t':Nat}(I:Inv X pins σ H s)(u:Un X.fs [] H H' s.heap h')(g:HOk X.prog X.w H' h'):Inv X pins σ H' { s with heap:=h',toks:=t' }:=by
 obtain⟨m,⟨o,l,v,h,r⟩,_⟩:=id I.loc
 obtain⟨q,j⟩:=u.any h I.free (by simp)
 exact I.step   (ch:=[]) (fun _ z=>nomatch z) (fun b o _ c _ e n=>u.keep b o e n c (by simp)) (fun b o _ c _ e n=>u.slot b o e n c (by simp)) (fun b o _ e n=>u.free b o e n (by simp)) (fun b o _ e=>u.there b o e (by simp)) u.tups u.frzs u.tbls (fun t i=>by
  obtain⟨p,d,f,a,k⟩:=i;rw[h]at a;cases a
  exact⟨_,d,f,j,k⟩) g I.bare
theorem Inv.call {g':Array GenState}{t':Nat}{d':Drawn}{ch:v6}(I:Inv X pins σ H s)(u:Un (frs X.stack) ch H H' s.heap h')(g:HOk X.prog X.w H' h')(hg:AllBare g')
 (d:∀b∈ch,(b∈X.ex\/X.s₀.heap.objs.size<=b)/\b≠X.env.locals/\(∀x c,X.env.cells.lookup x=some c->c≠b)/\∀p∈X.pn++pins,p.1≠b) :
 Inv X pins σ H' { s with heap:=h',gens:=g',drawn:=d',toks:=t' }:=by
 obtain⟨m,⟨o,v,A,k,r⟩,_⟩:=id I.loc
 obtain⟨y,h⟩:=u.any k I.free fun z=>(d _ z).2.1 rfl
 exact I.step  d (fun b o h q a e n=>u.keep b o e n (fun z=>(az.mp (I.stkSub b z)).elim h q) a) (fun b o _ _ a e n=>u.any e n a) (fun b o a e n=>u.free b o e n a) (fun b o a e=>u.there b o e a) u.tups u.frzs u.tbls (fun B t=>by
  obtain⟨w,j,i,f,l⟩:=t;rw[k]at f;cases f
  exact⟨_,j,i,h,l⟩) g hg
theorem Inv.turned {t':Nat}{it:Addr}(I:Inv X pins σ H s)(k:∀b o,b≠it->s.heap.get? b=some o->h'.get? b=some o)(hn:H it=none)(h:it≠X.env.locals)
 (h1:it∈X.ex\/X.s₀.heap.objs.size<=it) (h2:∀x c,X.env.cells.lookup x=some c->c≠it) (j:∀p∈X.pn++pins,p.1≠it):Inv X pins σ H { s with heap:=h',toks:=t' }:=by
 refine I.step   (ch:=[it]) (fun b t=>?_) (fun b o _ _ a e _=>k b o (fun z=>a (by grind)) e) (fun b o _ _ a e _=>⟨o.slots,k b o (fun z=>a (by grind)) e⟩) (fun _ _ _ _ n=>n)
  (fun b o a e=>⟨o,k b o (fun z=>a (by grind)) e⟩) (fun _ _ e=>e) (fun _ _ _ e=>e) (fun b l e=>e) (fun m g=>?_) (fun b u e=>?_) I.bare
 ·grind
 ·obtain⟨o,f,i,d,r⟩:=g
  exact⟨o,f,i,k _ o (aU h) d,r⟩
 ·refine (I.hok b u e).stay (fun c v a q=>k c v ?_ q) (fun _ q=>q) fun _ _ q=>q
  grind
theorem Inv.tok (I:Inv X pins σ H s)(t:Nat):Inv X pins σ H { s with toks:=t }:=I.un   Un.refl I.hok
theorem Inv.kept {t':Nat}(I:Inv X pins σ H s)(k:∀b u,s.heap.get? b=some u->h'.get? b=some u):Inv X pins σ H { s with heap:=h',toks:=t' }:=I.un (Un.kept k) (I.hok.kept k)
theorem Inv.laid {a:Addr}{o:HO}{t':Nat}(I:Inv X pins σ H s)(k:∀b u,s.heap.get? b=some u->h'.get? b=some u)(hp:s.heap.objs.size<=a)(c:z9 X.prog X.w (upd H a o) h' a o) :
 Inv X pins σ (upd H a o) { s with heap:=h',toks:=t' }:=I.un (Un.laid k hp (I.hok.fresh hp)) (I.hok.laid k hp c)
theorem Inv.write {x e:Addr}{o:HO}{t':Nat}(I:Inv X pins σ H s)(d:Mut (H x))(he:e=x\/H e=some (.own x))(k:∀b u,b≠e->s.heap.get? b=some u->h'.get? b=some u)(a:∃u,h'.get? e=some u)
 (c:z9 X.prog X.w (upd H x o) h' x o):Inv X pins σ (upd H x o) { s with heap:=h',toks:=t' }:=I.un (Un.write d he k a) (I.hok.write d he k a c)
theorem Inv.pins_of {a:y_}(I:Inv X pins σ H s)(h:∀p∈a,s.heap.get? p.1=some p.2/\H p.1=none/\p.1≠X.env.locals/\p.1∉X.fs/\∀v,p.2.data≠.cell v):Inv X a σ H s :=
 ⟨I.ok,I.os,I.bare,I.base,I.loc,I.cell,I.free,I.freeC,fun p b=>(aX.mp b).elim (fun z=>I.pin p (bN _ z)) (h p),I.hok,I.len⟩
theorem Ah5 {N:v4}(hN:N.Nodup){i j:Nat}{x:Str}(a:N[i]?=some x)(b:N[j]?=some x):i=j:=by
 obtain⟨e,d⟩:=bh.mp a;obtain⟨f,c⟩:=bh.mp b;exact(List.getElem_inj hN).mp (d.trans c.symm)
theorem Ze {M:Model}{A:t_}{E:z_}{i:Nat}{x:Str}{v:V}{u:Value}{Q:Unit->u_->Prop}(I:Inv X pins σ H s)(hN:X.N.Nodup)(hi:X.N[i]?=some x)(hx:Loc X.env.scope x)(r:RelV v u)
 (h:∀s',Inv X pins (σ.set i (some v)) H s'->(∃a,Heap.SameBut a s.heap s'.heap/\(a=X.env.locals\/X.env.cells.lookup x=some a))->Q () s') (hf:X.fn x=true\/X.env.scope.names.lookup x=some .local:=by first | exact .inl rfl | exact .inr rfl | assumption):wpAny M A (storeName X.env x u) Q E s:=by
 obtain⟨m,S,hl⟩:=id I.loc
 have K:(X.env.scope.kind==.class||(X.env.scope.kind==.module&&X.env.locals != X.env.globals))=false:=by rw[I.ok.kind];rfl
 have C:i<σ.length:=by rw[I.len];exact(bh.mp hi).1
 have J:=I.cne
 have g:∀{a:Addr} {L:Heap},(∃o,s.heap.get? a=some o/\H a=none)->Heap.SameBut a s.heap L->HOk X.prog X.w H L:=fun {a L} ha f b ob e=>by
  obtain⟨_,_,w⟩:=ha
  refine (I.hok b ob e).stay (fun c w' t q=>(f.2 c ?_).trans q) (fun _ q=>q) fun _ _ q=>q
  rintro rfl
  rcases t with rfl | t
  ·rw[w]at e;cases e
  ·rw[w]at t;cases t
 rcases hx with D | D
 ·refine wpAny_storeName_local D S (fun L hn' f=>?_) K
  obtain⟨oL,_,_,hoL,_⟩:=id S
  refine h _ ⟨I.ok,I.os,I.bare,⟨fun b o e n F hx=>?_,fun b o e n F hx=>?_,I.base.free,fun b o e hx=>?_,I.base.tups,I.base.frzs,I.base.tbls⟩,⟨_,hn',fun j y v' l B T=>?_⟩,fun y c e=>?_,I.free,I.freeC,fun p U=>?_,g ⟨oL,hoL,I.free⟩ f,by simpa using I.len⟩ ⟨_,f,.inl rfl⟩
  ·exact(f.2 b (aC (aA (Heap.lt_size e) I.ok.above))).trans (I.base.keep b o e n F hx)
  ·obtain⟨W,l⟩:=I.base.slot b o e n F hx
   exact⟨W,(f.2 b (aC (aA (Heap.lt_size e) I.ok.above))).trans l⟩
  ·obtain⟨Y,l⟩:=I.base.there b o e hx
   exact⟨Y,(f.2 b (aC (aA (Heap.lt_size e) I.ok.above))).trans l⟩
  ·by_cases hj:j=i
   ·subst hj
    rw[hi]at l;cases l;rw[cG C]at B
    cases B
    exact⟨u,r,.inl ⟨D,by simp⟩⟩
   ·rw[cV (aU hj)]at B
    obtain⟨Z,r',q⟩:=hl j y _ l B T
    refine⟨Z,r',?_⟩
    rcases q with ⟨k,e⟩ | ⟨k,c,e,z⟩
    ·refine .inl ⟨k,?_⟩
     have:y≠x:=fun e=>hj (Ah5 hN l (e▸hi))
     simp[this,e]
    ·exact .inr ⟨k,c,e,z.sameBut f (J y c e)⟩
  ·obtain⟨w',z⟩:=I.cell y c e
   exact⟨w',z.sameBut f (J y c e)⟩
  ·obtain⟨e,n,R,nf,d⟩:=I.pin p U
   exact⟨(f.2 _ R).trans e,n,R,nf,d⟩
 ·have G:X.fn x=true:=by
   rcases hf with z | z
   ·exact z
   ·rw[z]at D;cases D
  obtain⟨c,t⟩:=I.ok.has x (.inl D);obtain⟨w',z⟩:=I.cell x c t
  refine wpAny_storeName_cell I.ok.kind D t z fun L N f=>?_
  obtain⟨oc,P,O⟩:=id z
  refine h _ ⟨I.ok,I.os,I.bare,⟨fun b o e n F hx=>?_,fun b o e n F hx=>?_,I.base.free,fun b o e hx=>?_,I.base.tups,I.base.frzs,I.base.tbls⟩,⟨m,S.sameBut f (aU (J x c t)),fun j y v' l B T=>?_⟩,fun y c' e=>?_,I.free,I.freeC,fun p U=>?_,g ⟨oc,P,I.freeC x c t⟩ f,by simpa using I.len⟩ ⟨c,f,.inr t⟩
  ·exact(f.2 b (aC (aA (Heap.lt_size e) (I.ok.cab x c G t)))).trans (I.base.keep b o e n F hx)
  ·obtain⟨W,l⟩:=I.base.slot b o e n F hx
   exact⟨W,(f.2 b (aC (aA (Heap.lt_size e) (I.ok.cab x c G t)))).trans l⟩
  ·obtain⟨Y,l⟩:=I.base.there b o e hx
   exact⟨Y,(f.2 b (aC (aA (Heap.lt_size e) (I.ok.cab x c G t)))).trans l⟩
  ·by_cases hj:j=i
   ·subst hj
    rw[hi]at l;cases l;rw[cG C]at B
    cases B
    exact⟨u,r,.inr ⟨.inl D,c,t,N⟩⟩
   ·rw[cV (aU hj)]at B
    obtain⟨Z,r',q⟩:=hl j y _ l B T
    refine⟨Z,r',?_⟩
    rcases q with q | ⟨k,c',e,z'⟩
    ·exact .inl q
    ·refine .inr ⟨k,c',e,z'.sameBut f ?_⟩
     rintro rfl
     exact hj (Ah5 hN l (I.ok.inj _ _ _ e t▸hi))
  ·by_cases hcc:c'=c
   ·subst hcc;exact⟨_,N⟩
   ·obtain⟨w2,z2⟩:=I.cell y _ e
    exact⟨w2,z2.sameBut f hcc⟩
  ·obtain⟨e,n,R,nf,d⟩:=I.pin p U
   refine⟨(f.2 _ ?_).trans e,n,R,nf,d⟩
   intro q;rw[q,P]at e
   exact d _ (by rw[<- (bU e)];exact O)
theorem J5 {M:Model}{A:t_}{E:z_}{i:Nat}{x:Str}{v:V}{u:Value}{Q:Unit->u_->Prop}(I:Inv X pins σ H s)(hN:X.N.Nodup)(hi:X.N[i]?=some x)(hx:Loc X.env.scope x)(r:RelV v u)
 (h:∀a,Inv X pins (σ.set i (some v)) H a->Q () a) (hf:X.fn x=true\/X.env.scope.names.lookup x=some .local:=by first | exact .inl rfl | exact .inr rfl | assumption):wpAny M A (storeName X.env x u) Q E s :=
 Ze I hN hi hx r (fun a b _=>h _ b) hf
theorem Inv.call' {s':u_}{ch:v6}(I:Inv X pins σ H s)(ho:s'.os=s.os)(u:Un (frs X.stack) ch H H' s.heap s'.heap)(d:HOk X.prog X.w H' s'.heap)(hg:AllBare s'.gens)
 (a:∀b∈ch,(b∈X.ex\/X.s₀.heap.objs.size<=b)/\b≠X.env.locals/\(∀x c,X.env.cells.lookup x=some c->c≠b)/\∀p∈X.pn++pins,p.1≠b):Inv X pins σ H' s':=by
 obtain⟨f,g,h,i,e⟩:=s';subst ho;exact I.call    u d hg a
end
abbrev XK:=Value->Option Addr->Hp->Prop
abbrev St:=List (Option V)
abbrev VK:=V->Hp->Prop
abbrev TE:=St->Hp->VK->Prop
abbrev TT:=St->Hp->(Bool->Hp->Prop)->Prop
abbrev TA:=St->Hp->(n8->Hp->Prop)->Prop
structure Ends where
 nx:St->Hp->Prop
 rt:VK
 bk:St->Hp->Prop:=fun _ _=>False
 ct:St->Hp->Prop:=fun _ _=>False
abbrev TS:=Ends->St->Hp->Prop
def EP (X:Cx)(pins:y_)(σ:St)(Q:VK)(u:Value)(s':u_):Prop:=∃v H',Inv X pins σ H' s'/\RelV v u/\Q v H'
def TP (X:Cx)(pins:y_)(σ:St)(Q:Bool->Hp->Prop)(b:Bool)(s':u_):Prop:=∃H',Inv X pins σ H' s'/\Q b H'
def AP (X:Cx)(pins:y_)(σ:St)(Q:n8->Hp->Prop)(us:w6)(s':u_):Prop:=∃vs H',Inv X pins σ H' s'/\Vals vs us/\Q vs H'
def SP (X:Cx)(pins:y_)(D:Ends)(f:Flow)(s':u_):Prop :=
 match f with
 | .next=>∃σ' H',Inv X pins σ' H' s'/\D.nx σ' H'
 | .brk=>∃σ' H',Inv X pins σ' H' s'/\D.bk σ' H'
 | .cont=>∃σ' H',Inv X pins σ' H' s'/\D.ct σ' H'
 | .ret u=>∃v σ' H',Inv X pins σ' H' s'/\RelV v u/\D.rt v H'
def PE (X:Cx)(e:Expr)(t:TE):Prop :=
 ∀(pins:y_) (s:u_) (σ:St) (H:Hp) (Q:VK),Inv X pins σ H s->t σ H Q->wpAny (model X.prog X.w) X.A (eval e X.env) (EP X pins σ Q) X.xe s
def PT (X:Cx)(e:Expr)(t:TT):Prop :=
 ∀(pins:y_) (s:u_) (σ:St) (H:Hp) (Q:Bool->Hp->Prop),Inv X pins σ H s->t σ H Q->wpAny (model X.prog X.w) X.A (isTrue e X.env (eval e X.env)) (TP X pins σ Q) X.xe s
def PW (X:Cx)(e:Expr)(t:TT):Prop :=
 ∀(whole:Sem Value) (pins:y_) (s:u_) (σ:St) (H:Hp) (Q:Bool->Hp->Prop),Inv X pins σ H s->t σ H Q->wpAny (model X.prog X.w) X.A (isTrue e X.env whole) (TP X pins σ Q) X.xe s
theorem PW.pt {X:Cx}{e:Expr}{t:TT}(h:PW X e t):PT X e t:=h _
def PA (X:Cx)(es:v_)(t:TA):Prop :=
 ∀(pos:Pos) (pins:y_) (s:u_) (σ:St) (H:Hp) (Q:n8->Hp->Prop),Inv X pins σ H s->t σ H Q->wpAny (model X.prog X.w) X.A (spliced (backTo pos (starEach es X.env))) (AP X pins σ Q) X.xe s
def PS (X:Cx)(st:Stmt)(t:TS):Prop :=
 ∀(pins:y_) (s:u_) (σ:St) (H:Hp) (D:Ends),Inv X pins σ H s->t D σ H->wpAny (model X.prog X.w) X.A (exec st X.env) (SP X pins D) X.xe s
def PSs (X:Cx)(st:List Stmt)(t:TS):Prop :=
 ∀(pins:y_) (s:u_) (σ:St) (H:Hp) (D:Ends),Inv X pins σ H s->t D σ H->wpAny (model X.prog X.w) X.A (execs st X.env) (SP X pins D) X.xe s
theorem thn {c:Type}{t:Sem c}{Q b:c->u_->Prop}{M:Model}{A:t_}{E:z_}{s:u_}(h:wpAny M A t Q E s)(d:∀a s,Q a s->b a s):wpAny M A t b E s:=wpAny_mono h d fun _ _ x=>x
section
variable {X:Cx}
def Bc6 (i:Nat):TE:=fun σ H Q=>∃v,σ[i]?=some (some v)/\Q v H
def tC (v:V):TE:=fun _ H Q=>Q v H
theorem A8y {i:Nat}{x:Str}{f:Pos}(hN:X.N[i]?=some x)(hv:Vis X.env.scope x)(hd:(x==("__debug__" : Str))=false:=by decide) (hcd:(x==("__classdict__" : Str))=false:=by decide):PE X (.Name x f) (Bc6 i):=by
 intro j s p H Q I h;obtain⟨v,e,h⟩:=h;obtain⟨m,k,n⟩:=I.loc;obtain⟨u,r,l⟩:=n i x v hN e hv;have b:EP X _ _ Q u s:=⟨v,H,I,r,h⟩
 rcases l with ⟨d,o⟩ | ⟨d,c,g,a⟩
 ·exact wpAny_Name (wpAny_loadName_local I.ok.kind d k o b) hd
 ·rcases d with d | d
  ·exact wpAny_Name (wpAny_loadName_cell I.ok.kind d g a b) hd
  ·exact wpAny_Name (wpAny_loadName_free I.ok.kind d g a b hcd) hd
theorem A9f {i j a}:PE X (.Constant (.int i) j a) (tC (.int i)):=fun _ _ _ H _ I h=>wpAny_Constant_int ⟨.int i,H,I.tok _,⟨_,rfl⟩,h⟩
theorem Bl1 {b j a}:PE X (.Constant (.bool b) j a) (tC (.bl b)):=fun _ _ _ H _ I h=>Constant_bool ⟨.bl b,H,I,rfl,h⟩
theorem A7l {j a}:PE X (.Constant .none j a) (tC .non):=fun _ _ _ H _ I h=>Constant_none ⟨.non,H,I,rfl,h⟩
theorem A4w {x j a}:PE X (.Constant (.str x) j a) (tC (.str x)):=fun _ _ _ H _ I h=>Calls.Constant_str ⟨.str x,H,I.tok _,⟨_,rfl⟩,h⟩
def Gl (X:Cx)(x:Str):Prop:=X.env.kindOf x=some .globalImplicit
theorem Az8 {E:z_}{pins:y_}{s:u_}{b:St}{H:Hp}{x:Str}{u:Value}{a:Pos}{Q:z_}(I:Inv X pins b H s)(hg:Gl X x)(hm:X.mg x=some u)(h:Q u s)
 (hd:(x==("__debug__" : Str))=false:=by decide):wpAny (model X.prog X.w) X.A (eval (.Name x a) X.env) Q E s :=
 Calls.Name_function_global I.ok.kind hg (Calls.loadGlobal_global (by rw[I.ok.glob];exact I.mod.glob.keeps I.bk) hm h) hd
theorem J9 {E:z_}{pins:y_}{s:u_}{c:St}{H:Hp}{x:Str}{u:Value}{a:Pos}{Q:z_}(I:Inv X pins c H s)(hg:Gl X x)(hm:X.mg x=none)(hv:bootBuiltins x=some u)(h:Q u s)
 (hn:x ≠ "__name__" := by decide) (hd:(x==("__debug__" : Str))=false:=by decide):wpAny (model X.prog X.w) X.A (eval (.Name x a) X.env) Q E s:=by
 obtain⟨e,d,b⟩:=I.mod.blt
 exact Calls.Name_function_global I.ok.kind hg (Calls.loadGlobal_builtin (by rw[I.ok.glob];exact I.mod.glob.keeps I.bk) hm (by rw[I.ok.blt];exact d.keeps I.bk) ((b x hn).trans hv) h) hd
theorem Bk4 {x:Str}{v:V}{u:Value}{a:Pos}(hg:Gl X x)(hm:X.mg x=some u)(r:RelV v u)(hd:(x==("__debug__" : Str))=false:=by decide):PE X (.Name x a) (tC v) :=
 fun _ _ _ H _ I h=>Az8 I hg hm ⟨v,H,I,r,h⟩ hd
theorem Bh3 {x:Str}{v:V}{u:Value}{a:Pos}(hg:Gl X x)(hm:X.mg x=none)(hv:bootBuiltins x=some u)(r:RelV v u)(hn:x ≠ "__name__" := by decide) (hd:(x==("__debug__" : Str))=false:=by decide):PE X (.Name x a) (tC v) :=
 fun _ _ _ H _ I h=>J9 I hg hm hv ⟨v,H,I,r,h⟩ hn hd
variable {a b:Expr}{ta tb:TE}{pos:Pos}
def tB (t:TE):TT:=fun σ H Q=>t σ H fun x H1=>∃c,x=.bl c/\Q c H1
theorem Bo1 {e:Expr}{t:TE}(h:PE X e t)(he:∀whole,isTrue e X.env whole=(do let v <- whole;standAt e.pos;holding [v] (truthy v)):=by intro _;rfl):PT X e (tB t):=by
 intro a s σ H Q I f
 refine isTrue_plain (thn (h _ s _ H _ I f) fun v s1 ⟨x,g,b,c,i⟩=>?_) (he _)
 obtain⟨d,rfl,q⟩:=i
 cases c
 exact wpAny_truthy_bool ⟨g,b,q⟩
variable {tA tB':TT}{rest:v_}
def By1 (t u:TT):TT:=fun σ H Q=>t σ H fun c H1=>if c=true then u σ H1 Q else Q false H1
def tOr (t u:TT):TT:=fun σ H Q=>t σ H fun c H1=>if c=true then Q true H1 else u σ H1 Q
def Bz5 (t:TT):TT:=fun σ H Q=>t σ H fun c H1=>Q (!c) H1
theorem Bj2 (ha:PT X a tA):PW X (.BoolOp .And [a] pos) tA:=by
 intro f b s g H Q I h
 refine isTrue_and (thn (ha _ s _ H Q I h) fun c d e=>?_)
 cases c with
 | true=>exact isTrue_and_nil e
 | false=>exact e
theorem Bs4 (ha:PT X a tA):PW X (.BoolOp .Or [a] pos) tA:=by
 intro f b s g H Q I h
 refine isTrue_or (thn (ha _ s _ H Q I h) fun c d e=>?_)
 cases c with
 | false=>exact isTrue_or_nil e
 | true=>exact e
theorem Bp7 (ha:PT X a tA)(hb:PW X (.BoolOp .And (b::rest) pos) tB'):PW X (.BoolOp .And (a::b::rest) pos) (By1 tA tB'):=by
 intro g d s k H Q I h
 refine isTrue_and (thn (ha _ s _ H _ I h) fun c i ⟨j,f,e⟩=>?_)
 cases c with
 | true=>exact hb _ _ _ _ _ Q f e
 | false=>trivial
theorem B2e (ha:PT X a tA)(hb:PW X (.BoolOp .Or (b::rest) pos) tB'):PW X (.BoolOp .Or (a::b::rest) pos) (tOr tA tB'):=by
 intro g d s k H Q I h
 refine isTrue_or (thn (ha _ s _ H _ I h) fun c i ⟨j,f,e⟩=>?_)
 cases c with
 | true=>assumption
 | false=>exact hb _ _ _ _ _ Q f e
theorem Bq6 (ha:PT X a tA):PT X (.UnaryOp .Not a pos) (Bz5 tA):=by
 intro b s c H Q I h;exact isTrue_not (ha _ s _ H _ I h)
def A8w (ta tb:TE):TE:=fun σ H Q=>ta σ H fun x H1=>∃c,x=.bl c/\if c=true then tb σ H1 Q else Q (.bl false) H1
def Bw1 (ta tb:TE):TE:=fun σ H Q=>ta σ H fun x H1=>∃c,x=.bl c/\if c=true then Q (.bl true) H1 else tb σ H1 Q
def A8x (ta:TE):TE:=fun σ H Q=>ta σ H fun x H1=>∃c,x=.bl c/\Q (.bl (!c)) H1
theorem Bq5 {op}{t:TE}(h:PE X a t):PE X (.BoolOp op [a] pos) t:=fun b s d H Q I c=>BoolOp_one (h _ s _ H Q I c)
theorem Bt7 (ha:PE X a ta)(hb:PE X (.BoolOp .And (b::rest) pos) tb):PE X (.BoolOp .And (a::b::rest) pos) (A8w ta tb):=by
 intro e s σ H Q I h
 refine BoolOp_and (thn (ha _ s _ H _ I h) fun v s1 ⟨x,i,f,g,d⟩=>?_)
 obtain⟨c,rfl,d⟩:=d
 cases g
 refine wpAny_truthy_bool ?_
 cases c with
 | true=>exact hb _ _ _ _ Q f d
 | false=>exact⟨.bl _,i,f,rfl,d⟩
theorem B1l (ha:PE X a ta)(hb:PE X (.BoolOp .Or (b::rest) pos) tb):PE X (.BoolOp .Or (a::b::rest) pos) (Bw1 ta tb):=by
 intro e s σ H Q I h
 refine BoolOp_or (thn (ha _ s _ H _ I h) fun v s1 ⟨x,i,f,g,d⟩=>?_)
 obtain⟨c,rfl,d⟩:=d
 cases g
 refine wpAny_truthy_bool ?_
 cases c with
 | false=>exact hb _ _ _ _ Q f d
 | true=>exact⟨.bl _,i,f,rfl,d⟩
theorem Bp5 (ha:PE X a ta):PE X (.UnaryOp .Not a pos) (A8x ta):=by
 intro d s σ H Q I h
 refine UnaryOp_ (thn (ha _ s _ H _ I h) fun v s1 ⟨x,f,g,e,b⟩=>?_)
 obtain⟨c,rfl,b⟩:=b
 cases e
 exact not_of (wpAny_truthy_bool ⟨.bl _,f,g,rfl,b⟩)
def tIf (t:TT)(ta tb:TE):TE:=fun σ H Q=>t σ H fun c H1=>if c=true then ta σ H1 Q else tb σ H1 Q
theorem A4q {c:Expr}(hc:PT X c tA)(ha:PE X a ta)(hb:PE X b tb):PE X (.IfExp c a b pos) (tIf tA ta tb):=by
 intro g s i H Q I h
 refine wpAny_IfExp (thn (hc _ s _ H _ I h) fun d k ⟨j,f,e⟩=>?_)
 cases d with
 | true=>exact ha _ _ _ _ Q f e
 | false=>exact hb _ _ _ _ Q f e
end
def SqL (K:v9)(H:Hp)(a:Addr)(xs:n8):Prop :=
 Rd H a (.lst xs) \/
  ∃(o:Obj) (its:v7) (n:Nat),K.lookup a=some o/\o.cls=.type "list" /\ o.dict=none/\o.data=.seq its n/\its.size<=sizeLine/\Vals xs its.toList
def SqT (K:v9)(H:Hp)(a:Addr)(xs:n8):Prop :=
 Rd H a (.tup xs) \/
  ∃(o:Obj) (its:v7) (n:Nat),K.lookup a=some o/\o.cls=.type "tuple" /\ o.data=.seq its n/\its.size<=sizeLine/\Vals xs its.toList
def B3u:Value->Option V
 | .none=>some .non
 | .bool b=>some (.bl b)
 | .int i _=>some (.int i)
 | .str x _=>some (.str x)
 | .bytes b _=>some (.byt b)
 | .float b _=>some (.flt b)
 | .ref a=>some (.ref a)
 | .type n=>some (.ty n)
 | _=>none
theorem RelV.abs {x:V}{u:Value}(r:RelV x u):B3u u=some x:=by
 cases x with
 | non=>cases r;rfl
 | bl _=>cases r;rfl
 | int _=>obtain⟨t,rfl⟩:=r;rfl
 | str _=>obtain⟨t,rfl⟩:=r;rfl
 | byt _=>obtain⟨t,rfl⟩:=r;rfl
 | flt _=>obtain⟨t,rfl⟩:=r;rfl
 | ref _=>cases r;rfl
 | ty _=>cases r;rfl
theorem RelV.inj {x y:V}{u:Value}(r:RelV x u)(q:RelV y u):x=y:=bU (r.abs.symm.trans q.abs)
theorem Vals.inj:∀{xs ys:n8}{us:w6},Vals xs us->Vals ys us->xs=ys
 | _,_,_,.nil,.nil=>rfl
 | _,_,_,.cons r t,.cons r' t'=>by rw[r.inj r',Vals.inj t t']
section
variable {X:Cx}{pins:y_}{σ:St}{H:Hp}{s:u_}{a:Addr}{xs ys:n8}
theorem SqL.of {K:v9}(h:H a=some (.lst xs)):SqL K H a xs:=.inl (.inl h)
theorem SqT.of {K:v9}(h:H a=some (.tup xs)):SqT K H a xs:=.inl (.inl h)
theorem Inv.list (I:Inv X pins σ H s)(h:SqL X.K H a xs):∃b:w6,Vals xs b/\PlainL s.heap a b.toArray/\xs.length<=sizeLine:=by
 rcases h with h | ⟨o,b,n,d,c,f,i,g,r⟩
 ·obtain⟨z,b,n,r,e⟩:=h.ok I.hok
  exact⟨b,r,⟨_,n,e,rfl,rfl,rfl⟩,z⟩
 ·refine⟨b.toList,r,⟨o,n,I.kIn a o d,c,f,by trivial⟩,?_⟩
  have e:=r.length
  simp_all
theorem Inv.tuple (I:Inv X pins σ H s)(h:SqT X.K H a xs):∃b:w6,Vals xs b/\IsTup s.heap a b.toArray/\xs.length<=sizeLine:=by
 rcases h with h | ⟨o,b,n,d,c,g,f,r⟩
 ·obtain⟨z,b,r,p⟩:=h.ok I.hok
  exact⟨b,r,p.tup,z⟩
 ·refine⟨b.toList,r,⟨o,I.kIn a o d,c,n,by trivial⟩,?_⟩
  have e:=r.length
  simp_all
theorem Inv.list_inj (I:Inv X pins σ H s)(h:SqL X.K H a xs)(h':SqL X.K H a ys):xs=ys:=by
 obtain⟨c,r,⟨o,n,e,_,_,d⟩,_⟩:=I.list h;obtain⟨b,f,⟨i,j,k,_,_,g⟩,_⟩:=I.list h'
 have:c=b:=by simp_all
 subst this;exact r.inj f
theorem Inv.tuple_inj (I:Inv X pins σ H s)(h:SqT X.K H a xs)(h':SqT X.K H a ys):xs=ys:=by
 obtain⟨c,r,⟨o,e,_,n,d⟩,_⟩:=I.tuple h;obtain⟨b,f,⟨i,j,_,k,g⟩,_⟩:=I.tuple h'
 have:c=b:=by simp_all
 subst this;exact r.inj f
end
abbrev Cx.wish (X:Cx)(E:z_):Cx:={ X with xe:=E }
abbrev Cx.nox (X:Cx):Cx:=X.wish fun _ _=>False
theorem Cx.Ok.wish {X:Cx}(a:X.Ok)(E:z_):(X.wish E).Ok :=
 ⟨a.mod,a.kind,a.glob,a.blt,a.above,a.inj,a.has,a.cab,a.hd,a.frames,a.stk,a.exf,a.bs,a.bsz,a.noex,a.exfs,a.funs,a.frf,a.tab⟩
theorem Cx.Ok.unwish {X:Cx}{E:z_}(a:(X.wish E).Ok):X.Ok :=
 ⟨a.mod,a.kind,a.glob,a.blt,a.above,a.inj,a.has,a.cab,a.hd,a.frames,a.stk,a.exf,a.bs,a.bsz,a.noex,a.exfs,a.funs,a.frf,a.tab⟩
section
variable {X:Cx}{pins:y_}{σ:St}{H:Hp}{s:u_}{E:z_}
theorem Inv.wish (I:Inv X pins σ H s)(E:z_):Inv (X.wish E) pins σ H s:=⟨I.ok.wish E,I.os,I.bare,I.base,I.loc,I.cell,I.free,I.freeC,I.pin,I.hok,I.len⟩
theorem Inv.unwish (I:Inv (X.wish E) pins σ H s):Inv X pins σ H s:=⟨I.ok.unwish,I.os,I.bare,I.base,I.loc,I.cell,I.free,I.freeC,I.pin,I.hok,I.len⟩
theorem SP.unwish {D:Ends}{f:Flow}{s':u_}(h:SP (X.wish E) pins D f s'):SP X pins D f s':=by
 cases f with
 | next=>obtain⟨a,b,I,q⟩:=h;exact⟨a,b,I.unwish,q⟩
 | brk=>obtain⟨a,b,I,q⟩:=h;exact⟨a,b,I.unwish,q⟩
 | cont=>obtain⟨a,b,I,q⟩:=h;exact⟨a,b,I.unwish,q⟩
 | ret u=>obtain⟨v,a,b,I,r,q⟩:=h;exact⟨v,a,b,I.unwish,r,q⟩
theorem PSs.nox {st:List Stmt}{t:TS}(h:PSs X.nox st t):PSs X st t:=fun a s c H D I b =>
 wpAny_mono (h _ s _ H D (I.wish _) b) (fun _ _ q=>q.unwish) fun _ _ z=>False.elim z
end
section
variable {X:Cx}{st:Stmt}{rest:List Stmt}{t u:TS}{e:Expr}{te:TE}{pos:Pos}
def A8q:TS:=fun D σ H=>D.nx σ H
def Bx1 (t u:TS):TS:=fun D σ H=>t { D with nx:=u D } σ H
theorem Bg7:PSs X [] A8q:=fun _ _ a H _ I h=>wpAny_execs_nil ⟨a,H,I,h⟩
theorem A7g (h1:PS X st t)(h2:PSs X rest u):PSs X (st::rest) (Bx1 t u):=by
 intro a s d H D I h
 refine wpAny_execs_cons (thn (h1 _ s _ H _ I h) fun f e q=>?_)
 cases f with
 | next =>
  obtain⟨c,g,b,q⟩:=q;exact h2 _ _ _ _ D b q
 | ret v=>exact q
 | brk=>exact q
 | cont=>exact q
theorem Bi7 (h1:PS X st t):PSs X [st] t:=by
 intro a s c H D I h
 refine wpAny_execs_cons (thn (h1 _ s _ H D I h) fun f b q=>?_)
 cases f with
 | next=>exact wpAny_execs_nil q
 | ret v=>grind
 | brk=>grind
 | cont=>grind
theorem Inv.quiet {pins:y_}{a:St}{H:Hp}{s:u_}(I:Inv X pins a H s):interactive X.env=false:=by simp[interactive,I.ok.kind]
def A9o (te:TE):TS:=fun D σ H=>te σ H fun _ H1=>D.nx σ H1
theorem Bk5 (he:PE X e te)(hs:swapsWith e none pos.line X.env=pure false:=by rfl):PS X (.Expr e pos) (A9o te):=by
 intro a s c H D I h
 exact wpAny_Expr_any (thn (he _ s _ H _ I h) fun v g ⟨x,f,d,i,b⟩=>⟨c,f,d,b⟩) I.quiet hs
def Bt5 (te:TE):TS:=fun D σ H=>te σ H D.rt
theorem By7 (he:PE X e te):PS X (.Return (some e) pos) (Bt5 te):=by
 intro a s c H D I h
 exact wpAny_Return_some (thn (he _ s _ H _ I h) fun v i ⟨x,f,d,g,b⟩=>⟨x,c,f,d,g,b⟩)
def Br3 (c:TT)(t u:TS):TS:=fun D σ H=>c σ H fun b H1=>if b=true then t D σ H1 else u D σ H1
theorem B0x {c:Expr}{a b:List Stmt}{f:TT}(hc:PT X c f)(ha:PSs X a t)(hb:PSs X b u):PS X (.If c a b pos) (Br3 f t u):=by
 intro i s j H D I h
 refine wpAny_If (thn (hc _ s _ H _ I h) fun d l ⟨k,g,e⟩=>?_)
 cases d with
 | true=>exact ha _ _ _ _ D g e
 | false=>exact hb _ _ _ _ D g e
def At9:TS:=fun _ _ _=>False
theorem A6y:PS X st At9:=fun _ _ _ _ _ _ h=>h.elim
end
abbrev TG:=V->St->Hp->(St->Hp->Prop)->Prop
abbrev TGs:=n8->St->Hp->(St->Hp->Prop)->Prop
def PG (X:Cx)(target:Expr)(t:TG):Prop :=
 ∀
  (pins:y_) (s:u_) (σ:St) (H:Hp) (v:V) (u:Value) (Q:St->Hp->Prop),Inv X pins σ H s->RelV v u->t v σ H Q ->
  wpAny (model X.prog X.w) X.A (assign target X.env u) (fun _ s'=>∃σ' H',Inv X pins σ' H' s'/\Q σ' H') X.xe s
def PGs (X:Cx)(ts:v_)(t:TGs):Prop :=
 ∀
  (pins:y_) (s:u_) (σ:St) (H:Hp) (vs:n8) (us:w6) (Q:St->Hp->Prop),Inv X pins σ H s->Vals vs us->t vs σ H Q ->
  wpAny (model X.prog X.w) X.A (assignInOrder ((assignEach ts X.env).map (·.2)) us) (fun _ s'=>∃σ' H',Inv X pins σ' H' s'/\Q σ' H') X.xe s
abbrev Bd2:=V->V->V->Hp->(Hp->Prop)->Prop
def Br7 (X:Cx)(t:Bd2):Prop :=
 ∀
  (pins:y_) (s:u_) (σ:St) (H:Hp) (o i v:V) (ov iv u:Value) (Q:Hp->Prop),Inv X pins σ H s->RelV o ov->RelV i iv->RelV v u->t o i v H Q ->
  wpAny (model X.prog X.w) X.A (setItem ov iv u) (fun _ s'=>∃H',Inv X pins σ H' s'/\Q H') X.xe s
section
variable {X:Cx}{pos:Pos}
def Q9 (i:Nat):TG:=fun v σ H Q=>Q (σ.set i (some v)) H
theorem A9z {i:Nat}{x:Str}(hN:X.N.Nodup)(hi:X.N[i]?=some x)(hx:Loc X.env.scope x)(hf:X.fn x=true\/X.env.scope.names.lookup x=some .local:=by first | exact .inl rfl | exact .inr rfl | assumption):PG X (.Name x pos) (Q9 i):=by
 intro a s c H v u Q I r h
 exact wpAny_assign_Name (J5 I hN hi hx r (fun d b=>⟨_,H,b,h⟩) hf)
def Be9:TGs:=fun vs σ H Q=>vs=[]/\Q σ H
def Ak5 (t:TG)(u:TGs):TGs:=fun vs σ H Q=>∃v r,vs=v::r/\t v σ H fun σ' H'=>u r σ' H' Q
theorem Bf2:PGs X [] Be9:=by
 intro a s b H d c Q I r h;obtain⟨e,h⟩:=h;exact assignInOrder_nil ⟨b,H,I,h⟩
theorem A5z {e:Expr}{es:v_}{t:TG}{u:TGs}(h1:PG X e t)(h2:PGs X es u)
 (hs:(assignEach (e::es) X.env).map (·.2)=assign e X.env::(assignEach es X.env).map (·.2):=by rfl):PGs X (e::es) (Ak5 t u):=by
 intro a s i H j n Q I r h;obtain⟨v,l,f,h⟩:=h;subst f
 cases r with
 | cons r d =>
  rw[hs]
  refine assignInOrder_cons (thn (h1 _ s _ H _ _ _ I r h) fun _ k ⟨c,m,g,b⟩=>?_)
  exact h2 _ _ _ _ _ _ Q g d b
def Bi0 (K:v9)(n:Nat)(t:TGs):TG:=fun v σ H Q=>∃a xs,v=.ref a/\SqT K H a xs/\xs.length=n/\t xs σ H Q
theorem B0t {es:v_}{k:Nat}{t:TGs}{n:Nat}(hc:X.calm=true)(h:PGs X es t)
 (hn:(assignEach es X.env).length=n:=by rfl) (hst:(assignEach es X.env).findIdx? (·.1)=none:=by rfl):PG X (.Tuple es k pos) (Bi0 X.K n t):=by
 intro d s x H v u Q I r c;obtain⟨a,y,j,l,m,c⟩:=c;subst j
 cases r
 obtain⟨g,i,q,z⟩:=I.tuple l
 refine assign_Tuple_tuple (I.ok.hd hc) q (by simp[hn,<- m,i.length]) hst fun p w=>?_
 have f:Inv X _ _ H { s with heap:=p }:=I.kept  fun b o e=>w b o (aC (Heap.lt_size e)) e
 exact h _ _ _ H _ _ Q f (by trivial) c
def Bq8 (to ti:TE)(t:Bd2):TG:=fun v σ H Q=>to σ H fun o H1=>ti σ H1 fun i H2=>t o i v H2 fun H3=>Q σ H3
theorem B0j {o i:Expr}{e d:TE}{t:Bd2}(ho:PE X o e)(hi:PE X i d)(hs:Br7 X t)
 (ha:∀v,assign (.Subscript o i pos) X.env v=(do
  let a <- holding [v] (eval o X.env)
  let b <- holding [v,a] (eval i X.env)
  standAt pos
  holding [v,a,b] (setItem a b v)
  release [v,a,b] []):=by intro _;rfl):PG X (.Subscript o i pos) (Bq8 e d t):=by
 intro c s m H v u Q I r h;rw[ha]
 refine wpAny_bind (wpAny_holding (thn (ho _ s _ H _ I h) fun a z ⟨x,C,j,k,l⟩=>?_))
 refine wpAny_bind (wpAny_holding (thn (hi _ _ _ _ _ j l) fun b D ⟨y,A,g,p,n⟩=>?_))
 refine wpAny_bind (wpAny_standAt (wpAny_bind (wpAny_holding (thn (hs _ _ _ _ x y v _ _ u _ g k p r n) fun _ B ⟨q,w,f⟩=>?_))))
 exact wpAny_release ⟨m,q,w,f⟩
def Ap2 (te:TE)(g:TG):TS:=fun D σ H=>te σ H fun x H1=>g x σ H1 D.nx
theorem Br2 {a e:Expr}{b:TE}{g:TG}(he:PE X e b)(hg:PG X a g)(hs:swapsWithSole [a] e pos.line X.env=pure false:=by rfl)(hw:swappedStores [a] e X.env=pure none:=by rfl)
 (h1:(assignEach [a] X.env).map (·.2)=[assign a X.env]:=by rfl):PS X (.Assign [a] e pos) (Ap2 b g):=by
 intro c s k H D I h
 refine wpAny_Assign_stores (thn (he _ s _ H _ I h) fun v l ⟨x,m,d,i,f⟩=>?_) hs hw
 rw[h1]
 exact thn (hg _ _ _ _ x v _ d i f) fun _ j q=>q
theorem Bv8 {i:Nat}{x:Str}{e:Expr}{b:TE}{a:Pos}(hN:X.N.Nodup)(hi:X.N[i]?=some x)(hx:Loc X.env.scope x)(he:PE X e b)(hs:swapsWith e (some (.Name x a)) pos.line X.env=pure false:=by rfl)(hf:X.fn x=true\/X.env.scope.names.lookup x=some .local:=by first | exact .inl rfl | exact .inr rfl | assumption) :
 PS X (.Assign [.Name x a] e pos) (Ap2 b (Q9 i)):=by
 intro c s l H D I h
 refine wpAny_Assign_Name (thn (he _ s _ H _ I h) fun v m ⟨y,j,f,g,k⟩=>?_) hs
 exact J5 f hN hi hx g (fun n d=>⟨_,j,d,k⟩) hf
def Bq0 (i j:Nat)(ta:TA):TS:=fun D σ H=>ta σ H fun vs H1=>∃v w,vs=[v,w]/\D.nx ((σ.set i (some v)).set j (some w)) H1
theorem Bq4 {i j:Nat}{x y:Str}{a b:Expr}{C:TA}{m r t:Pos}{n k2 d}(hc:X.calm=true)(hN:X.N.Nodup)(hi:X.N[i]?=some x)(hj:X.N[j]?=some y)(hij:i≠j)
 (hx:X.env.scope.names.lookup x=some .local) (hy:X.env.scope.names.lookup y=some .local) (ha:PA X [a,b] C)
 (hw:swappedStores [.Tuple [.Name x m,.Name y r] n t] (.Tuple [a,b] k2 d) X.env=pure (some [x,y]))
 (hs:swapsWithSole [.Tuple [.Name x m,.Name y r] n t] (.Tuple [a,b] k2 d) pos.line X.env=pure false:=by rfl) :
 PS X (.Assign [.Tuple [.Name x m,.Name y r] n t] (.Tuple [a,b] k2 d) pos) (Bq0 i j C):=by
 intro c s B H D I h;rw[exec_Assign_arm]
 refine wpAny_bind (wpAny_standAt ?_)
 rw[hs]
 refine wpAny_bind (wpAny_pure ?_)
 rw[if_neg (by decide)]
 refine wpAny_bind (Tuple_ (thn (ha _ c s B H _ I h) fun L f ⟨vs,E,M,F,l⟩=>?_))
 obtain⟨v,w,G,l⟩:=l;subst G
 obtain⟨k,g,rfl,K,u⟩:∃k g,L=[k,g]/\RelV v k/\RelV w g:=by
  cases F with
  | cons p q =>
   cases q with
   | cons p' O =>
    cases O
    grind
 refine wpAny_newObj_type ?_ (by show 2<=sizeLine;decide)
 have J:Inv X c B E { f with heap:=f.heap.push { cls:=.type "tuple",data:=.seq [k,g].toArray } }:=M.kept (t':=f.toks) fun b o e=>Heap.get?_push_of_some _ e
 rw[hw]
 refine wpAny_bind (wpAny_pure ?_)
 show wpAny (model X.prog X.w) X.A (do rule "assign.swapped-stores";let items <- unpackItems (.ref f.heap.objs.size) 2 none;assignInOrder [fun v=>bindName X.env y v,fun v=>bindName X.env x v] items.reverse;pure Flow.next) _ _ _
 refine wpAny_bind (wpAny_rule (wpAny_bind (unpackItems_tuple (items:=#[k,g]) (I.ok.hd hc) (IsTup.new _ _) fun h' z=>?_)))
 refine wpAny_bind (assignInOrder_cons (wpAny_bindName (J5 (J.kept  (t':=f.toks) fun b o e=>z b o (aC (Heap.lt_size e)) e) hN hj (.inl hy) u (fun s2 N=>?_) (.inr hy))))
 refine assignInOrder_cons (wpAny_bindName (J5 N hN hi (.inl hx) K (fun s3 A=>assignInOrder_nil (wpAny_pure ?_)) (.inr hx)))
 rw[eO _ _ (aU hij)]at A;exact⟨_,E,A,l⟩
end
structure It where
 go:Nat->Hp->Prop
 yld:Nat->Hp->V->Hp->Prop
 stop:Nat->Hp->Prop
def U8 (X:Cx)(pins:y_)(H:Hp)(b:Addr):Prop :=
 H b=none/\b≠X.env.locals/\b∉X.fs/\(b∈X.ex\/X.s₀.heap.objs.size<=b)/\(∀x c,X.env.cells.lookup x=some c->c≠b)/\∀p∈X.pn++pins,p.1≠b
theorem Inv.fpOk {X:Cx}{pins:y_}{d:St}{H H':Hp}{s:u_}{b:Addr}(I:Inv X pins d H s)(hb:s.heap.objs.size<=b)(hn:H' b=none):U8 X pins H' b:=by
 refine⟨hn,bB (aA I.lt hb),I.nofs hb,.inr (ao I.sz hb),fun x c e z=>?_,fun p a z=>?_⟩
 ·obtain⟨v,q⟩:=I.cell x c e
  exact absurd (aA q.lt (by simp_all)) (bf _)
 ·exact absurd (aA (Heap.lt_size (I.pin p a).1) (by simp_all)) (bf _)
structure Turn (P:u6) (w:World) (K:v9) (tg:Expr) (J:It) (fp:v6) (it:Addr) (tn:Nat->Heap->Prop):Prop where
 mem:it∈fp
 obj:∀i h,tn i h->∀b∈fp,∃o,h.get? b=some o/\∀v,o.data≠.cell v
 keep:∀i h h',tn i h->(∀b∈fp,∀o,h.get? b=some o->h'.get? b=some o)->tn i h'
 item:∀(X:Cx),X.prog=P->X.w=w->X.K=K->X.calm=true->∀(i:Nat) (pins:y_) (s:u_) (σ:St) (H:Hp) (E:z_),Inv X pins σ H s->(∀b∈fp,U8 X pins H b)->tn i s.heap->J.go i H ->
  wpAny (model P w) X.A (pyNext (.ref it)) (fun r s1=>∃u,r=some u /\
   wpAny (model P w) X.A (letOwnedTupleGo tg (.ref it) u) (fun _ s2=>∃x H',Inv X pins σ H' s2/\RelV x u/\J.yld i H x H'/\tn (i+1) s2.heap/\∀b∈fp,H' b=none) E s1) E s
 done:∀(X:Cx),X.prog=P->X.w=w->X.K=K->X.calm=true->∀(i:Nat) (pins:y_) (s:u_) (σ:St) (H:Hp) (E:z_),Inv X pins σ H s->(∀b∈fp,U8 X pins H b)->tn i s.heap->J.stop i H ->
  wpAny (model P w) X.A (pyNext (.ref it)) (fun r s1=>r=none/\Inv X pins σ H s1) E s
 self:∀(A:t_) (i:Nat) (s:u_) (Q:z_) (E:z_),tn i s.heap->Q (.ref it) s->wpAny (model P w) A (pyIter (.ref it)) Q E s
abbrev TI:=St->Hp->(It->Hp->Prop)->Prop
def PIE (X:Cx)(pins:y_)(σ:St)(tg:Expr)(R:It->Hp->Prop)(itv:Value)(s2:u_):Prop :=
 ∃(it:Addr) (fp:v6) (tn:Nat->Heap->Prop) (J:It) (H':Hp),itv=.ref it/\Inv X pins σ H' s2/\Turn X.prog X.w X.K tg J fp it tn/\tn 0 s2.heap/\(∀b∈fp,U8 X pins H' b)/\R J H'
def PI (X:Cx)(tg iter:Expr)(wi:TI):Prop :=
 ∀
  (pins:y_) (s:u_) (σ:St) (H:Hp) (R:It->Hp->Prop),Inv X pins σ H s->wi σ H R ->
  wpAny (model X.prog X.w) X.A (eval iter X.env) (fun v s1=>wpAny (model X.prog X.w) X.A (pyIter v) (PIE X pins σ tg R) X.xe s1) X.xe s
theorem Az2 {M:Model}{A:t_}{E:z_}{s:u_}{b:Expr}{it:Addr}{u:Value}{o:Obj}{n:String}{vs:v7}{Q:Unit->u_->Prop}(ho:s.heap.get? it=some o)(hc:o.cls=.type n)(hd:o.data=.fields vs)
 (hn:["enumerate", "zip", "dict_itemiterator", "dict_reverseitemiterator", "odict_iterator", "itertools.zip_longest", "itertools.pairwise"].contains n=false) (a:Q () s):wpAny M A (letOwnedTupleGo b (.ref it) u) Q E s:=by
 cases b <;> first
  | exact wpAny_pure a
  | (cases u <;> first
   | exact wpAny_pure a
   | (
    refine wpAny_bind (wpAny_load ho ?_)
    rw[hc,hd]
    show wpAny M A (if (["enumerate", "zip", "dict_itemiterator", "dict_reverseitemiterator", "odict_iterator", "itertools.zip_longest", "itertools.pairwise"].contains n&&vs[0]?==some _)=true then _ else _) Q E s
    rw[if_neg (by intro h;rw[hn]at h;cases h)]
    exact wpAny_pure a))
def Itl (K:v9)(a:Addr):It :=
 ⟨fun i H=>∃xs x,SqL K H a xs/\xs[i]?=some x,fun i H x H'=>H'=H/\∀xs,SqL K H a xs->xs[i]?=some x,fun i H=>∃xs,SqL K H a xs/\xs.length<=i⟩
def Itt (K:v9)(a:Addr):It :=
 ⟨fun i H=>∃xs x,SqT K H a xs/\xs[i]?=some x,fun i H x H'=>H'=H/\∀xs,SqT K H a xs->xs[i]?=some x,fun i H=>∃xs,SqT K H a xs/\xs.length<=i⟩
def Itr (lo:Int)(n:Nat):It:=⟨fun i _=>i<n,fun i H x H'=>H'=H/\x=.int (lo+i),fun i _=>n<=i⟩
theorem A3i {P:u6}{w:World}{K:v9}{tg:Expr}(a it:Addr):Turn P w K tg (Itl K a) [it] it (fun i h=>h.IsListIter it a i) where
 mem:=by simp
 obj:=fun i h st b hb=>by
  have e:b=it:=by simpa using hb
  subst e;obtain⟨o,e,c,d⟩:=st
  exact⟨o,e,fun v z=>by rw[d]at z;cases z⟩
 keep:=fun i h h' st k=>st.at fun o e=>k it (by simp) o e
 item:=by
  intro X hP hw hK hc i pins s σ H E I hf st hg;subst hP hw hK;obtain⟨xs,x,hq,hx⟩:=hg;obtain⟨its,rv,p,hz⟩:=I.list hq;obtain⟨u,hu,ru⟩:=rv.get hx
  obtain⟨f0,f1,f2,f3,f4,f5⟩:=hf it (by simp)
  refine wpAny_pyNext_list_item st p.isList (x:=u) (by simpa using hu) fun h' st' sb=>?_
  have I1:Inv X pins σ H { s with heap:=h' }:=I.turned (t':=s.toks) (fun b o hb e=>(sb.2 b hb).trans e) f0 f1 f3 f4 f5
  obtain⟨o,e,c,d⟩:=id st'
  exact⟨u,rfl,Az2 (s:={ s with heap:=h' }) e c d (by decide) ⟨x,H,I1,ru,⟨rfl,fun ys hy=>by rw[I.list_inj hy hq];exact hx⟩,st',fun b hb=>(hf b hb).1⟩⟩
 done:=by
  intro X hP hw hK hc i pins s σ H E I hf st hg;subst hP hw hK;obtain⟨xs,hq,hx⟩:=hg;obtain⟨its,rv,p,hz⟩:=I.list hq
  obtain⟨f0,f1,f2,f3,f4,f5⟩:=hf it (by simp)
  have hl:=rv.length
  exact wpAny_pyNext_list_end (I.ok.hd hc) st p.isList (by simp;omega) fun h' eb=>⟨rfl,I.turned (t':=s.toks) (fun b o hb e=>eb b o hb e) f0 f1 f3 f4 f5⟩
 self:=fun _ _ _ _ _ st h=>wpAny_pyIter_listiter st h
theorem At8 {P:u6}{w:World}{K:v9}{tg:Expr}(a it:Addr):Turn P w K tg (Itt K a) [it] it (fun i h=>h.IsTupleIter it a i) where
 mem:=by simp
 obj:=fun i h st b hb=>by
  have e:b=it:=by simpa using hb
  subst e;obtain⟨o,e,c,d⟩:=st
  exact⟨o,e,fun v z=>by rw[d]at z;cases z⟩
 keep:=fun i h h' st k=>st.at fun o e=>k it (by simp) o e
 item:=by
  intro X hP hw hK hc i pins s σ H E I hf st hg;subst hP hw hK;obtain⟨xs,x,hq,hx⟩:=hg;obtain⟨its,rv,p,hz⟩:=I.tuple hq;obtain⟨u,hu,ru⟩:=rv.get hx
  obtain⟨f0,f1,f2,f3,f4,f5⟩:=hf it (by simp)
  refine wpAny_pyNext_tuple_item st (show s.heap.IsTuple a its.toArray from p) (x:=u) (by simpa using hu) fun h' st' sb=>?_
  have I1:Inv X pins σ H { s with heap:=h' }:=I.turned (t':=s.toks) (fun b o hb e=>(sb.2 b hb).trans e) f0 f1 f3 f4 f5
  obtain⟨o,e,c,d⟩:=id st'
  exact⟨u,rfl,Az2 (s:={ s with heap:=h' }) e c d (by decide) ⟨x,H,I1,ru,⟨rfl,fun ys hy=>by rw[I.tuple_inj hy hq];exact hx⟩,st',fun b hb=>(hf b hb).1⟩⟩
 done:=by
  intro X hP hw hK hc i pins s σ H E I hf st hg;subst hP hw hK;obtain⟨xs,hq,hx⟩:=hg;obtain⟨its,rv,p,hz⟩:=I.tuple hq
  obtain⟨f0,f1,f2,f3,f4,f5⟩:=hf it (by simp)
  have hl:=rv.length
  exact wpAny_pyNext_tuple_end (I.ok.hd hc) st (show s.heap.IsTuple a its.toArray from p) (by simp;omega) fun h' eb=>⟨rfl,I.turned (t':=s.toks) (fun b o hb e=>eb b o hb e) f0 f1 f3 f4 f5⟩
 self:=fun _ _ _ _ _ st h=>wpAny_pyIter_tupleiter st h
theorem Au1 {P:u6}{w:World}{K:v9}{tg:Expr}(it:Addr)(lo:Int)(n:Nat):Turn P w K tg (Itr lo n) [it] it (fun i h=>IsRangeIter h it (lo+(i:Nat)*1) ((n:Int)-(i:Nat)) 1) where
 mem:=by simp
 obj:=fun i h st b hb=>by
  have e:b=it:=by simpa using hb
  subst e
  exact⟨_,st,fun v z=>by
   have z':Data.fields _=Data.cell v:=z
   cases z'⟩
 keep:=fun i h h' st k=>k it (by simp) _ st
 item:=by
  intro X hP hw hK hc i pins s σ H E I hf st hg;subst hP hw hK
  obtain⟨f0,f1,f2,f3,f4,f5⟩:=hf it (by simp)
  have W:=Walks.range (prog:=X.prog) (w:=X.w) (I.ok.hd hc) it lo 1 n
  refine W.item i s _ _ hg st fun v h' tk hv st' kk=>?_
  obtain⟨t,rfl⟩:=hv
  have I1:Inv X pins σ H { s with heap:=h',toks:=tk }:=I.turned (fun b o hb e=>kk b o (by simpa using hb) e) f0 f1 f3 f4 f5
  refine⟨_,rfl,Az2 (s:={ s with heap:=h',toks:=tk }) (n := "range_iterator") st' rfl rfl (by decide) ⟨.int (lo+i),H,I1,⟨t,?_⟩,⟨rfl,rfl⟩,st',fun b hb=>(hf b hb).1⟩⟩
  rw[Int.mul_one]
 done:=by
  intro X hP hw hK hc i pins s σ H E I hf st hg;subst hP hw hK
  obtain⟨f0,f1,f2,f3,f4,f5⟩:=hf it (by simp)
  exact wpAny_pyNext_range_end (I.ok.hd hc) st (by have:n<=i:=hg;omega) fun h' eb=>⟨rfl,I.turned (t':=s.toks) (fun b o hb e=>eb b o hb e) f0 f1 f3 f4 f5⟩
 self:=fun _ _ _ _ _ st h=>wpAny_pyIter_rangeiter st h
section
variable {X:Cx}{tg:Expr}
theorem A7u {pins:y_}{c:St}{H:Hp}{s:u_}{R:It->Hp->Prop}{E:z_}{lo hi:Int}{t u v:Tok}{tk:Nat}(I:Inv X pins c H s)(h1:-(2 ^ 62)<=lo)(h2:lo<2 ^ 62)(d:-(2 ^ 62)<=hi)(f:hi<2 ^ 62)
 (q:R (Itr lo (hi-lo).toNat) H):wpAny (model X.prog X.w) X.A (pyIter (.ref s.heap.objs.size)) (PIE X pins c tg R) E { s with heap:=s.heap.push { cls:=.type "range",data:=.fields #[.int lo t,.int hi u,.int 1 v] },toks:=tk }:=by
 refine wpAny_pyIter_range (IsRange.new ..) (small_one h1 h2 d f) ?_
 have a:Inv X _ _ H { s with heap:=s.heap.push { cls:=.type "range",data:=.fields #[.int lo t,.int hi u,.int 1 v] },toks:=tk }:=I.kept fun b o e=>Heap.get?_push_of_some _ e
 refine⟨(s.heap.push _).objs.size,[(s.heap.push _).objs.size],_,_,H,rfl,
  a.kept  fun b o e=>Heap.get?_push_of_some _ e,Au1 _ _ _,?_,fun b i=>?_,q⟩
 ·have h:lo+((0:Nat))*1=lo:=by simp
  have g:(((hi-lo).toNat):Int)-((0:Nat))=Builtin.Range.rangeSize lo hi 1:=by rw[rangeSize_one];grind
  rw[h,g];exact Heap.get?_push_size _ rfl
 ·have e:b=(s.heap.push { cls:=.type "range",data:=.fields #[.int lo t,.int hi u,.int 1 v] }).objs.size:=by grind
  subst e;exact a.fpOk (aj _) (a.hok.fresh (aj _))
def A8b (ta:TA):TI:=fun σ H R=>ta σ H fun vs H1=>∃j:Int,vs=[.int j]/\-(2 ^ 62)<=j/\j<2 ^ 62/\R (Itr 0 j.toNat) H1
theorem A3m {a:Expr}{d:TA}{p b:Pos}(hg:Gl X "range") (hm:X.mg "range" = none) (ha:PA X [a] d) (hs:starEach [a] X.env=[(false,eval a X.env)]:=by rfl):PI X tg (.Call (.Name "range" p) [a] [] b) (A8b d):=by
 intro f s σ H R I h
 refine Call_ (J9 I hg hm boot_range (cW (thn (ha _ _ s _ H _ I h) fun us s1 ⟨vs,H1,g,i,c⟩=>?_) hs rfl))
 obtain⟨j,e,c,k,q⟩:=c;subst e
 cases i with
 | cons r l =>
  cases l
  obtain⟨t,rfl⟩:=r
  exact call_range_1 (A7u g (by omega) (by omega) c k (by grind))
def Bs5 (wi:TI)(g:TG)(tb:TS):TS:=fun D σ H=>wi σ H fun J H1=>∃W:Nat->Nat->St->Hp->Prop,(∃m,W 0 m σ H1)/\∀i m σ H,W i m σ H ->
 (J.stop i H/\D.nx σ H)\/(J.go i H/\∃N:St->Hp->Prop,(∀σ' H',N σ' H'->∃m',m'<m/\W (i+1) m' σ' H')/\∀x H',J.yld i H x H'->g x σ H' fun σ2 H2=>tb { D with nx:=N,ct:=N,bk:=D.nx } σ2 H2)
def Xi (fp:v6)(h:Heap):y_:=fp.filterMap fun b=>(h.get? b).map fun o=>(b,o)
theorem Lp {fp:v6}{h:Heap}{b:Addr}{o:Obj}(hb:b∈fp)(e:h.get? b=some o):(b,o)∈Xi fp h:=List.mem_filterMap.mpr ⟨b,hb,by grind⟩
theorem A3a {fp:v6}{h:Heap}{p:Addr×Obj}(hp:p∈Xi fp h):p.1∈fp/\h.get? p.1=some p.2:=by
 obtain⟨b,a,e⟩:=List.mem_filterMap.mp hp
 cases q:h.get? b with
 | none=>simp_all
 | some o =>
  grind
theorem Inv.pinned {pins:y_}{a:St}{H:Hp}{s:u_}{fp:v6}(I:Inv X pins a H s)(hf:∀b∈fp,U8 X pins H b)(ho:∀b∈fp,∃o,s.heap.get? b=some o/\∀v,o.data≠.cell v):Inv X (pins++Xi fp s.heap) a H s :=
 I.pins_of fun p d=>(aX.mp d).elim (fun z=>I.pin p (aJ _ z)) fun z=>by
  obtain⟨c,e⟩:=A3a z;obtain⟨g,h,f,_⟩:=hf _ c
  grind
theorem Inv.unpinned {pins pl:y_}{a:St}{H:Hp}{s:u_}(I:Inv X (pins++pl) a H s):Inv X pins a H s:=I.pins_of fun p b=>I.pin p (aJ _ (bN _ b))
theorem Bt8 {p:Expr}{body:List Stmt}{Z:TI}{g:TG}{tb:TS}{P:Pos}(hp:PassesOwn (model X.prog X.w) X.A X.env X.xe)(hc:X.calm=true)(hi:PI X tg p Z)(hg:PG X tg g)(hb:PSs X body tb)
 (hs:∀x,foldedSetIterable p X.env x=pure x:=by intro _;rfl):PS X (.For tg p body [] P) (Bs5 Z g tb):=by
 intro a s σ H D I h
 refine wpAny_For (thn (hi a s σ H _ I h) fun v s1 h1=>thn h1 fun itv s2 h2=>?_) hs
 obtain⟨it,C,tn,J,H2,e,I2,T,Q,Y,W,⟨m0,w0⟩,E⟩:=h2;subst e
 have k:∀{t:Hp},(∀b∈C,t b=none)->∀b∈C,U8 X a t b:=fun hn b hb=>⟨hn b hb,(Y b hb).2⟩
 refine codeAny_forLoop_any (fun n U=>∃i σ' t,Inv X a σ' t U/\tn i U.heap/\(∀b∈C,t b=none)/\W i n σ' t) ?_ m0 ⟨0,σ,H2,I2,Q,fun b hb=>(Y b hb).1,w0⟩
 rintro n V ⟨i,j,L,I3,B,F,w3⟩
 rcases E i n j L w3 with ⟨A,qn⟩ | ⟨go,N,hN,K⟩
 ·refine wpAny_passesOwn hp (thn (T.done X rfl rfl rfl hc i a V j L X.xe I3 (k F) B A) fun r s4 ⟨M,I4⟩=>?_)
  subst M;exact wpAny_execs_nil ⟨j,L,I4,qn⟩
 ·refine wpAny_passesOwn hp (thn (T.item X rfl rfl rfl hc i a V j L X.xe I3 (k F) B go) fun r s4 ⟨u,M,h4⟩=>?_)
  subst M
  refine wpAny_passesOwn hp (thn h4 fun _ s5 ⟨x,S,I5,r5,y5,z,O⟩=>?_)
  refine wpAny_passesOwn hp (thn (hg _ s5 j S x u _ (I5.pinned (k O) (T.obj _ _ z)) r5 (K x S y5)) fun _ s6 ⟨R,H6,I6,q6⟩=>?_)
  refine wpAny_passesOwn hp (thn (hb _ s6 R H6 _ I6 q6) fun f s7 y=>?_)
  have l:∀{c:St} {w:Hp},Inv X (a++Xi C s5.heap) c w s7->N c w->∃m,m<n/\∃i σ' t,Inv X a σ' t _/\tn i _/\(∀b∈C,t b=none)/\W i m σ' t:=fun {c w} q G=>by
   obtain⟨m',hm,w7⟩:=hN _ _ G
   refine⟨m',hm,i+1,c,w,q.unpinned,T.keep _ _ _ z fun b hb o e=>(q.pin _ (aJ _ (aJ _ (Lp hb e)))).1,fun b hb=>?_,w7⟩
   obtain⟨o,e,d⟩:=T.obj _ _ z b hb;exact(q.pin _ (aJ _ (aJ _ (Lp hb e)))).2.1
  cases f with
  | next=>obtain⟨c,w,q,G⟩:=y;exact l q G
  | cont=>obtain⟨c,w,q,G⟩:=y;exact l q G
  | brk=>obtain⟨c,w,q,y⟩:=y;exact⟨c,w,q.unpinned,y⟩
  | ret v=>obtain⟨x7,c,w,q,r7,y⟩:=y;exact⟨x7,c,w,q.unpinned,r7,y⟩
end
abbrev R2:=V->V->Hp->VK->Prop
def OpR (X:Cx)(f:Value->Value->Sem Value)(r:R2):Prop :=
 ∀
  (pins:y_) (s:u_) (σ:St) (H:Hp) (x y:V) (v u:Value) (Q:VK),Inv X pins σ H s->RelV x v->RelV y u->r x y H Q ->
  wpAny (model X.prog X.w) X.A (f v u) (EP X pins σ Q) X.xe s
def UnR (X:Cx)(f:Value->Sem Value)(r:V->Hp->VK->Prop):Prop :=
 ∀
  (pins:y_) (s:u_) (σ:St) (H:Hp) (x:V) (v:Value) (Q:VK),Inv X pins σ H s->RelV x v->r x H Q ->
  wpAny (model X.prog X.w) X.A (f v) (EP X pins σ Q) X.xe s
def CallR (X:Cx)(f:Value)(r:n8->Hp->VK->Prop):Prop :=
 ∀
  (pins:y_) (s:u_) (σ:St) (H:Hp) (xs:n8) (us:w6) (Q:VK),Inv X pins σ H s->Vals xs us->r xs H Q ->
  wpAny (model X.prog X.w) X.A (call f us) (EP X pins σ Q) X.xe s
def tOp (r:R2)(ta tb:TE):TE:=fun σ H Q=>ta σ H fun x H1=>tb σ H1 fun y H2=>r x y H2 Q
def tUn (r:V->Hp->VK->Prop)(ta:TE):TE:=fun σ H Q=>ta σ H fun x H1=>r x H1 Q
def rI (C:Int->Int->Prop)(g:Int->Int->V):R2:=fun x y H Q=>∃i j,x=.int i/\y=.int j/\C i j/\Q (g i j) H
def rI0 (g:Int->Int->V):R2:=fun x y H Q=>∃i j,x=.int i/\y=.int j/\Q (g i j) H
def rU (g:Int->V):V->Hp->VK->Prop:=fun x H Q=>∃i,x=.int i/\Q (g i) H
section
variable {X:Cx}{a b c:Expr}{ta tb tc:TE}{pos:Pos}
theorem Bs1 (ha:PE X a ta)(hb:PE X b tb){pins:y_}{s:u_}{g:St}{H:Hp}{R:V->V->Hp->Prop}(I:Inv X pins g H s)
 (h:ta g H fun x j=>tb g j fun y c=>R x y c) {Q:z_} {f:Value->Value->Sem Value}
 (hf:∀v u i x y c,Inv X pins g c i->RelV x v->RelV y u->R x y c->wpAny (model X.prog X.w) X.A (f v u) Q X.xe i) :
 wpAny (model X.prog X.w) X.A (eval a X.env) (fun v d=>wpAny (model X.prog X.w) X.A (eval b X.env) (fun u e=>wpAny (model X.prog X.w) X.A (f v u) Q X.xe e) X.xe d) X.xe s:=by
 refine thn (ha _ s _ H _ I h) fun v o ⟨x,j,k,n,l⟩=>?_
 refine thn (hb _ _ _ _ _ k l) fun u i ⟨y,c,p,q,m⟩=>?_
 grind
theorem Yn {op:Operator}{r:R2}(ho:OpR X (binaryOp op) r)(ha:PE X a ta)(hb:PE X b tb):PE X (.BinOp a op b pos) (tOp r ta tb):=by
 intro c s g H Q I h
 exact wpAny_BinOp (Bs1 ha hb I h fun v u i x y j f e d q=>ho _ _ _ _ x y v u Q f e d q)
theorem B0w {op:UnaryOp}{r:V->Hp->VK->Prop}(ho:UnR X (unaryOp op) r)(ha:PE X a ta):PE X (.UnaryOp op a pos) (tUn r ta):=by
 intro b s f H Q I h
 exact UnaryOp_ (thn (ha _ s _ H _ I h) fun v g ⟨x,i,e,d,c⟩=>ho _ _ _ _ x v Q e d c)
theorem opI {f:Value->Value->Sem Value}{C:Int->Int->Prop}{g:Int->Int->Int}
 (a:∀(i j:Int) (t u:Tok) (s:u_) (Q:z_) (E:z_),C i j->Q (.int (g i j) s.toks) { s with toks:=s.toks+1 }->wpAny (model X.prog X.w) X.A (f (.int i t) (.int j u)) Q E s) :
 OpR X f (rI C fun i j=>.int (g i j)):=by
 intro b s σ H x y v u Q I c e h;obtain⟨i,j,rfl,rfl,d,q⟩:=h;obtain⟨t,rfl⟩:=c;obtain⟨t',rfl⟩:=e;exact a i j t _ s _ _ d ⟨.int _,H,I.tok _,⟨_,rfl⟩,q⟩
theorem Yc {f:Value->Value->Sem Value}{g:Int->Int->Int}
 (a:∀(i j:Int) (t u:Tok) (s:u_) (Q:z_) (E:z_),Q (.int (g i j) s.toks) { s with toks:=s.toks+1 }->wpAny (model X.prog X.w) X.A (f (.int i t) (.int j u)) Q E s) :
 OpR X f (rI0 fun i j=>.int (g i j)):=by
 intro b s σ H x y v u Q I c d h;obtain⟨i,j,rfl,rfl,q⟩:=h;obtain⟨t,rfl⟩:=c;obtain⟨t',rfl⟩:=d;exact a i j t _ s _ _ ⟨.int _,H,I.tok _,⟨_,rfl⟩,q⟩
theorem Bc3 {f:Value->Value->Sem Value}{g:Int->Int->Bool}
 (a:∀(i j:Int) (t u:Tok) (s:u_) (Q:z_) (E:z_),Q (.bool (g i j)) s->wpAny (model X.prog X.w) X.A (f (.int i t) (.int j u)) Q E s) :
 OpR X f (rI0 fun i j=>.bl (g i j)):=by
 intro b s σ H x y v u Q I c d h;obtain⟨i,j,rfl,rfl,q⟩:=h;obtain⟨t,rfl⟩:=c;obtain⟨t',rfl⟩:=d;exact a i j t _ s _ _ ⟨.bl _,H,I,rfl,q⟩
def A7p (i j:Int):Prop:=0<j/\j<1073741824
def A3z (i j:Int):Prop:=0<=j/\j<=1000000/\i.natAbs<2 ^ 64
def CMul (i j:Int):Prop:=(-(2 ^ 64)<i/\i<2 ^ 64)\/(-(2 ^ 64)<j/\j<2 ^ 64)
theorem CMul.ok {i j:Int}(h:CMul i j):IntMulOk i j:=by
 rcases h with ⟨b,a⟩ | ⟨b,a⟩
 ·exact .of_left (intBits_le_64 b a)
 ·exact .of_right (intBits_le_64 b a)
theorem Bp6:OpR X (binaryOp .Add) (rI0 fun i j=>.int (i+j)):=Yc fun _ _ _ _ _ _ _ q=>add_int q
theorem Bx4:OpR X (binaryOp .Sub) (rI0 fun i j=>.int (i-j)):=Yc fun _ _ _ _ _ _ _ q=>sub_int q
theorem Bu0:OpR X (binaryOp .Mult) (rI CMul fun i j=>.int (i*j)):=opI fun _ _ _ _ _ _ _ a q=>mul_int q a.ok
theorem Bd6:OpR X (binaryOp .FloorDiv) (rI A7p fun i j=>.int (i / j)):=opI fun i j _ _ _ _ _ a q=>by
 have c:(0:Int)<j:=a.1;have b:j<1073741824:=a.2
 exact floordiv_int (by omega) (by rw[Int.fdiv_eq_ediv_of_nonneg i (by omega)];exact q) (.inl (PyProof.noPylong_small (by omega)))
theorem Bo8:OpR X (binaryOp .Mod) (rI (fun _ j=>0<j) fun i j=>.int (i % j)):=opI fun i j _ _ _ _ _ a q=>by
 have b:(0:Int)<j:=a
 exact mod_int' (by omega) (by rw[Int.fmod_eq_emod_of_nonneg i (by omega)];exact q)
theorem Br1:OpR X (binaryOp .Pow) (rI A3z fun i j=>.int (i ^ j.toNat)):=opI fun _ _ _ _ _ _ _ a q=>pow_int_small a.1 a.2.1 a.2.2 q
theorem unI {f:Value->Sem Value}{g:Int->Int}
 (a:∀(i:Int) (t:Tok) (s:u_) (Q:z_) (E:z_),Q (.int (g i) s.toks) { s with toks:=s.toks+1 }->wpAny (model X.prog X.w) X.A (f (.int i t)) Q E s) :
 UnR X f (rU fun i=>.int (g i)):=by
 intro b s σ H x v Q I c h;obtain⟨i,rfl,q⟩:=h;obtain⟨t,rfl⟩:=c;exact a i t s _ _ ⟨.int _,H,I.tok _,⟨_,rfl⟩,q⟩
theorem Br6:UnR X (unaryOp .USub) (rU fun i=>.int (-i)):=unI fun _ _ _ _ _ q=>neg_int q
end
def B0v:V->V->Bool
 | .non,.non=>true | .non,.int _=>true | .int _,.non=>true | .non,.bl _=>true | .bl _,.non=>true | .non,.str _=>true | .str _,.non=>true
 | .int _,.int _=>true | .bl _,.bl _=>true | .str _,.str _=>true | .byt _,.byt _=>true
 | .int _,.str _=>true | .str _,.int _=>true | .bl _,.str _=>true | .str _,.bl _=>true
 | _,_=>false
def rEq:R2:=fun x y H Q=>B0v x y=true/\Q (.bl (decide (x=y))) H
def rNe:R2:=fun x y H Q=>B0v x y=true/\Q (.bl (!decide (x=y))) H
theorem Az7 {i j:Int}:decide (V.int i=V.int j)=(i==j):=by
 grind
theorem A6s {i j:Bool}:decide (V.bl i=V.bl j)=(i==j):=by
 grind
theorem Ay5 {i j:Str}:decide (V.str i=V.str j)=(i==j):=by
 grind
theorem Ax1 {i j:Array UInt8}:decide (V.byt i=V.byt j)=(i.toList==j.toList):=by
 rw[Bool.eq_iff_iff]
 simp_all
section
variable {X:Cx}{a b c:Expr}{ta tb tc:TE}{pos:Pos}
theorem Dg {pins:y_}{b:St}{H:Hp}{s:u_}{Q:VK}{k a:Bool}(I:Inv X pins b H s)(q:Q (.bl k) H)(e:k=a):EP X pins b Q (.bool a) s:=by
 subst e;exact⟨.bl k,H,I,rfl,q⟩
theorem B2y:OpR X (compareOp .Eq) rEq:=by
 intro e s σ H x y v u Q I d a h;obtain⟨c,q⟩:=h
 cases x with
 | non =>
  cases d
  cases y with
  | non=>cases a;exact PySem.EqNone.eq_none_none (Dg I q (by simp))
  | bl j=>cases a;exact PySem.EqNone.eq_none_bool (Dg I q (by simp))
  | int j=>obtain⟨b,rfl⟩:=a;exact PySem.EqNone.eq_none_int (Dg I q (by simp))
  | str j=>obtain⟨b,rfl⟩:=a;exact PySem.EqNone.eq_none_str (Dg I q (by simp))
  | _=>exact absurd (show false=true from c) bu
 | bl i =>
  cases d
  cases y with
  | non=>cases a;exact PySem.EqNone.eq_bool_none (Dg I q (by simp))
  | bl j=>cases a;exact eq_bool (Dg I q A6s)
  | str j=>obtain⟨b,rfl⟩:=a;exact PySem.EqMixed.eq_bool_str (Dg I q (by simp))
  | _=>exact absurd (show false=true from c) bu
 | int i =>
  obtain⟨t,rfl⟩:=d
  cases y with
  | non=>cases a;exact PySem.EqNone.eq_int_none (Dg I q (by simp))
  | int j=>obtain⟨b,rfl⟩:=a;exact eq_int (Dg I q Az7)
  | str j=>obtain⟨b,rfl⟩:=a;exact PySem.EqMixed.eq_int_str (Dg I q (by simp))
  | _=>exact absurd (show false=true from c) bu
 | str i =>
  obtain⟨t,rfl⟩:=d
  cases y with
  | non=>cases a;exact PySem.EqNone.eq_str_none (Dg I q (by simp))
  | bl j=>cases a;exact PySem.EqMixed.eq_str_bool (Dg I q (by simp))
  | int j=>obtain⟨b,rfl⟩:=a;exact PySem.EqMixed.eq_str_int (Dg I q (by simp))
  | str j=>obtain⟨b,rfl⟩:=a;exact eq_str (Dg I q Ay5)
  | _=>exact absurd (show false=true from c) bu
 | byt i =>
  obtain⟨t,rfl⟩:=d
  cases y with
  | byt j=>obtain⟨b,rfl⟩:=a;exact PySem.W.eq_bytes (Dg I q Ax1)
  | _=>exact absurd (c) bu
 | _=>cases y <;> exact absurd (show false=true from c) bu
theorem B2z:OpR X (compareOp .NotEq) rNe:=by
 intro e s σ H x y v u Q I d a h;obtain⟨c,q⟩:=h
 cases x with
 | non =>
  cases d
  cases y with
  | non=>cases a;exact PySem.EqNone.ne_none_none (Dg I q (by simp))
  | bl j=>cases a;exact PySem.EqNone.ne_none_bool (Dg I q (by simp))
  | int j=>obtain⟨b,rfl⟩:=a;exact PySem.EqNone.ne_none_int (Dg I q (by simp))
  | str j=>obtain⟨b,rfl⟩:=a;exact PySem.EqNone.ne_none_str (Dg I q (by simp))
  | _=>exact absurd (show false=true from c) bu
 | bl i =>
  cases d
  cases y with
  | non=>cases a;exact PySem.EqNone.ne_bool_none (Dg I q (by simp))
  | bl j=>cases a;exact ne_bool (Dg I q (bG not A6s))
  | str j=>obtain⟨b,rfl⟩:=a;exact PySem.EqMixed.ne_bool_str (Dg I q (by simp))
  | _=>exact absurd (show false=true from c) bu
 | int i =>
  obtain⟨t,rfl⟩:=d
  cases y with
  | non=>cases a;exact PySem.EqNone.ne_int_none (Dg I q (by simp))
  | int j=>obtain⟨b,rfl⟩:=a;exact ne_int (Dg I q (bG not Az7))
  | str j=>obtain⟨b,rfl⟩:=a;exact PySem.EqMixed.ne_int_str (Dg I q (by simp))
  | _=>exact absurd (show false=true from c) bu
 | str i =>
  obtain⟨t,rfl⟩:=d
  cases y with
  | non=>cases a;exact PySem.EqNone.ne_str_none (Dg I q (by simp))
  | bl j=>cases a;exact PySem.EqMixed.ne_str_bool (Dg I q (by simp))
  | int j=>obtain⟨b,rfl⟩:=a;exact PySem.EqMixed.ne_str_int (Dg I q (by simp))
  | str j=>obtain⟨b,rfl⟩:=a;exact ne_str (Dg I q (bG not Ay5))
  | _=>exact absurd (show false=true from c) bu
 | byt i =>
  obtain⟨t,rfl⟩:=d
  cases y with
  | byt j=>obtain⟨b,rfl⟩:=a;exact PySem.W.ne_bytes (Dg I q (bG not Ax1))
  | _=>exact absurd (c) bu
 | _=>cases y <;> exact absurd (show false=true from c) bu
theorem B0y:OpR X (compareOp .Lt) (rI0 fun i j=>.bl (decide (i<j))):=Bc3 fun _ _ _ _ _ _ _ q=>lt_int q
theorem B1y:OpR X (compareOp .LtE) (rI0 fun i j=>.bl (decide (i<=j))):=Bc3 fun _ _ _ _ _ _ _ q=>le_int q
theorem Bn6:OpR X (compareOp .Gt) (rI0 fun i j=>.bl (decide (j<i))):=Bc3 fun _ _ _ _ _ _ _ q=>gt_int q
theorem B1z:OpR X (compareOp .GtE) (rI0 fun i j=>.bl (decide (j<=i))):=Bc3 fun _ _ _ _ _ _ _ q=>ge_int q
theorem A0t:OpR X (compareOp .In) (fun x y H Q=>∃i j,x=.str i/\y=.str j/\Q (.bl (!(Builtin.Str.occurrences j i 0 j.length 1).isEmpty)) H):=by
 intro a s σ H x y v u Q I b c h;obtain⟨i,j,rfl,rfl,q⟩:=h;obtain⟨t,rfl⟩:=b;obtain⟨t',rfl⟩:=c;exact in_str (Dg I q rfl)
theorem A7j:OpR X (compareOp .Is) (fun x y H Q=>y=.non/\Q (.bl (decide (x=.non))) H):=by
 intro a s σ H x y v u Q I c b h;obtain⟨rfl,q⟩:=h
 cases b
 refine is_none_gen (Dg I q ?_)
 cases x <;> first
  | omega
  | (obtain⟨t,rfl⟩:=c;rfl)
theorem OpR.or {f:Value->Value->Sem Value}{r b:R2}(h:OpR X f r)(h':OpR X f b):OpR X f (fun x y H Q=>r x y H Q\/b x y H Q):=by
 intro c s e H x y v u Q I d a q
 rcases q with q | q
 ·exact h _ s _ H x y v u Q I d a q
 ·exact h' _ s _ H x y v u Q I d a q
theorem Kw (b:Expr){op:CmpOp}(h:op≠.In:=by decide)(h2:op≠.NotIn:=by decide):behindInMarks op b=false:=by
 have c:(op==CmpOp.In)=false:=by grind
 have a:(op==CmpOp.NotIn)=false:=by grind
 cases b <;> simp[behindInMarks,c,a]
theorem Oq {op:CmpOp}{r:R2}(ho:OpR X (compareOp op) r)(ha:PE X a ta)(hb:PE X b tb)(hm:behindInMarks op b=false):PE X (.Compare a [op] [b] pos) (tOp r ta tb):=by
 intro c s g H Q I h
 exact wpAny_Compare1 (Bs1 ha hb I h fun v u i x y j f e d q=>ho _ _ _ _ x y v u Q f e d q) hm
def Le (t:TE):TT:=fun σ H Q=>t σ H fun x H'=>∃k,x=.bl k/\Q k H'
theorem Mw {op:CmpOp}{r:R2}(ho:OpR X (compareOp op) r)(ha:PE X a ta)(hb:PE X b tb)(hm:behindInMarks op b=false):PT X (.Compare a [op] [b] pos) (Le (tOp r ta tb)):=by
 intro d s t H Q I h
 refine wpAny_isTrue_Compare1 (thn (ha _ s _ H _ I h) fun v C ⟨x,D,j,l,m⟩=>thn (hb _ _ _ _ _ j m) fun u w ⟨y,B,i,g,o⟩ =>
  thn (ho _ _ _ _ x y v u _ i l g o) fun c A ⟨z,n,p,q,k,e,f⟩=>?_) hm
 subst e
 cases q
 exact wpAny_truthy_bool ⟨n,p,f⟩
theorem We:(sizeLine:Nat)<2 ^ 63:=by decide
theorem Ap7:OpR X (binaryOp .Add) (fun x y H Q=>∃i j,x=.str i/\y=.str j/\i.length+j.length<=sizeLine/\Q (.str (i++j)) H):=by
 intro a s σ H x y v u Q I c b h;obtain⟨i,j,rfl,rfl,e,q⟩:=h;obtain⟨t,rfl⟩:=c;obtain⟨d,rfl⟩:=b
 exact add_str (fun d tk=>⟨.str _,H,I.tok _,⟨_,rfl⟩,q⟩) e
theorem vals1 {x:V}{us:w6}(r:Vals [x] us):∃u,us=[u]/\RelV x u:=by
 cases r with
 | cons b a=>cases a;grind
theorem vals2 {x y:V}{us:w6}(r:Vals [x,y] us):∃u w',us=[u,w']/\RelV x u/\RelV y w':=by
 cases r with
 | cons c b =>
  cases b with
  | cons d a=>cases a;grind
theorem A6p:CallR X (.builtin "abs") (fun xs H Q=>∃i,xs=[.int i]/\Q (.int (if i<0 then -i else i)) H):=by
 intro a s σ H xs us Q I r h;obtain⟨i,rfl,q⟩:=h;obtain⟨u,rfl,t,rfl⟩:=vals1 r
 exact call_abs_int fun u tk=>⟨.int _,H,I.tok _,⟨_,rfl⟩,q⟩
theorem A1e (hc:X.calm=true):CallR X (.builtin "max") (fun xs H Q=>∃i j,xs=[.int i,.int j]/\Q (.int (if j>i then j else i)) H):=by
 intro a s σ H xs us Q I r h;obtain⟨i,j,rfl,q⟩:=h;obtain⟨u,w',rfl,⟨t,rfl⟩,⟨t',rfl⟩⟩:=vals2 r
 refine max_two_ints (I.ok.hd hc) fun h' tk k=>⟨_,H,I.kept k,?_,q⟩
 by_cases hj:j>i
 ·rw[if_pos hj,if_pos hj];exact⟨_,rfl⟩
 ·rw[if_neg hj,if_neg hj];exact⟨_,rfl⟩
theorem A3h (hc:X.calm=true):CallR X (.builtin "min") (fun xs H Q=>∃i j,xs=[.int i,.int j]/\Q (.int (if j<i then j else i)) H):=by
 intro a s σ H xs us Q I r h;obtain⟨i,j,rfl,q⟩:=h;obtain⟨u,w',rfl,⟨t,rfl⟩,⟨t',rfl⟩⟩:=vals2 r
 refine min_two_ints (I.ok.hd hc) fun h' tk k=>⟨_,H,I.kept k,?_,q⟩
 by_cases hj:j<i
 ·rw[if_pos hj,if_pos hj];exact⟨_,rfl⟩
 ·rw[if_neg hj,if_neg hj];exact⟨_,rfl⟩
theorem A0w:CallR X (.type "int") (fun xs H Q=>(∃i,xs=[.int i]/\Q (.int i) H)\/∃k,xs=[.bl k]/\Q (.int (if k then 1 else 0)) H):=by
 intro a s σ H xs us Q I r h
 rcases h with ⟨i,rfl,q⟩ | ⟨k,rfl,q⟩
 ·obtain⟨u,rfl,t,rfl⟩:=vals1 r
  exact call_int_int ⟨.int i,H,I,⟨_,rfl⟩,q⟩
 ·obtain⟨u,rfl,b⟩:=vals1 r
  cases b
  exact call_int_bool ⟨.int _,H,I.tok _,⟨_,rfl⟩,q⟩
theorem Ab9:CallR X (.type "str") (fun xs H Q=>∃i,xs=[.int i]/\i.natAbs.log2<1920/\Q (.str (toString i)) H):=by
 intro a s σ H xs us Q I r h;obtain⟨i,rfl,b,q⟩:=h;obtain⟨u,rfl,t,rfl⟩:=vals1 r;exact PySem.P.str_of_int b ⟨.str _,H,I.tok _,⟨_,rfl⟩,q⟩
def B3a (K:v9)(x:V)(H:Hp)(n:Nat):Prop :=
 match x with
 | .str y=>y.length<=sizeLine/\n=y.length
 | .byt y=>y.size<=sizeLine/\n=y.size
 | .ref p=>(∃xs,SqL K H p xs/\n=xs.length)\/∃xs,SqT K H p xs/\n=xs.length
 | _=>False
theorem Ag8:CallR X (.builtin "len") (fun xs H Q=>∃x n,xs=[x]/\B3a X.K x H n/\Q (.int n) H):=by
 intro j s σ H xs us Q I r h;obtain⟨x,n,rfl,e,q⟩:=h;obtain⟨u,rfl,d⟩:=vals1 r;have hl:=We;have hs:sizeLine=16777216:=sizeLine_eq
 cases x with
 | str y =>
  obtain⟨t,rfl⟩:=d;obtain⟨l,b⟩:y.length<=sizeLine/\n=y.length:=e;subst b
  exact len_str (by omega) ⟨.int _,H,I.tok _,⟨_,rfl⟩,q⟩
 | byt y =>
  obtain⟨t,rfl⟩:=d;obtain⟨l,b⟩:y.size<=sizeLine/\n=y.size:=e;subst b
  exact PySem.W.len_bytes (by omega) ⟨.int _,H,I.tok _,⟨_,rfl⟩,q⟩
 | ref p =>
  cases d
  have b  := e
  rcases b with ⟨xs,c,b⟩ | ⟨xs,c,b⟩
  ·subst b
   obtain⟨g,f,i,k⟩:=I.list c;have a:=f.length
   exact Calls.call_len_list i.isList (by grind) ⟨.int _,H,I.tok _,⟨_,by simp only[bC];rw[a]⟩,q⟩
  ·subst b
   obtain⟨g,f,i,k⟩:=I.tuple c;have a:=f.length
   exact len_tuple i (by grind) ⟨.int _,H,I.tok _,⟨_,by simp only[bC];rw[a]⟩,q⟩
 | _=>trivial
end
theorem RelO.some_of {v:V}{o:u9}(r:RelO (some v) o):∃u,o=some u/\RelV v u:=by
 cases o with
 | none=>trivial
 | some u=>exact⟨u,rfl,r⟩
structure Room (k:Nat) (A:t_):Prop where
 hd:A.handled=none
 dp:A.depth+3*k+5<recursionLimit
 un:A.units+16*k+200<cLine
 gd:A.guards=some []
theorem Room.mono {j k:Nat}{A:t_}(r:Room k A)(h:j<=k):Room j A:=⟨r.hd,by have:=r.dp;omega,by have:=r.un;omega,r.gd⟩
theorem Room.deeper {k:Nat}{A:t_}(r:Room (k+1) A)(env:Env):Room k (A.deeper env) :=
 ⟨r.hd,by have:=r.dp;show A.depth+1+3*k+5<_;omega,by have:=r.un;show A.units+3+16*k+200<_;omega,r.gd⟩
theorem Room.in1 {k:Nat}{A:t_}(r:Room (k+1) A):Room k A.in1 :=
 ⟨r.hd,by have:=r.dp;grind,by have:=r.un;grind,r.gd⟩
theorem Room.depth {k:Nat}{A:t_}(r:Room k A):A.depth<recursionLimit:=by have:=r.dp;omega
theorem Room.units {k:Nat}{A:t_}(r:Room k A):A.units+64<cLine:=by have:=r.un;omega
def Gf:TA:=fun _ H Q=>Q [] H
def Cw (ta:TE)(tr:TA):TA:=fun σ H Q=>ta σ H fun x H1=>tr σ H1 fun xs H2=>Q (x::xs) H2
section
variable {X:Cx}{e:Expr}{es:v_}{te:TE}{t:TA}{pos:Pos}
theorem Qt:PA X [] Gf:=fun _ _ _ _ H Q I h=>Calls.spliced_nil ⟨[],H,I,.nil,h⟩
theorem Aw9 (ha:PE X e te)(hr:PA X es t)(hs:starEach (e::es) X.env=(false,eval e X.env)::starEach es X.env:=by rfl):PA X (e::es) (Cw te t):=by
 intro d a s m H Q I h;rw[hs]
 refine Calls.spliced_cons (thn (ha _ s _ H _ I h) fun u o ⟨x,n,f,g,i⟩=>?_)
 exact thn (hr _ _ _ _ _ _ f i) fun p q ⟨c,k,j,l,b⟩=>⟨x::c,k,j,.cons g l,b⟩
def Bf5 (t:TA):TE:=fun σ H Q=>t σ H fun xs H1=>xs.length<=sizeLine/\∀p,H1 p=none->Q (.ref p) (upd H1 p (.tup xs))
def Bz9 (t:TA):TE:=fun σ H Q=>t σ H fun xs H1=>xs.length<=sizeLine/\∀p,H1 p=none->Q (.ref p) (upd H1 p (.lst xs))
theorem By5 {d}(h:PA X es t):PE X (.Tuple es d pos) (Bf5 t):=by
 intro a s i H Q I g
 refine wpAny_Tuple_spliced (thn (h _ _ s _ H _ I g) fun f j ⟨k,l,c,r,z,q⟩=>⟨by rw[<- r.length];grind,?_⟩)
 refine⟨.ref _,upd _ _ _,c.laid  (fun b u e=>Heap.get?_push_of_some _ e) (aj _) ?_,rfl,q _ (c.hok.fresh (aj _))⟩
 exact⟨z,f,r,⟨_,Heap.get?_push_size _ rfl,rfl,⟨_,rfl⟩,rfl⟩⟩
theorem Bx5 (h:PA X es t):PE X (.List es pos) (Bz9 t):=by
 intro c s g H Q I d
 refine wpAny_List_spliced (thn (h _ _ s _ H _ I d) fun f i ⟨j,k,a,r,z,q⟩=>⟨by rw[<- r.length];grind,?_⟩)
 refine⟨.ref _,upd _ _ _,a.laid  (fun b u e=>Heap.get?_push_of_some _ e) (aj _) ?_,rfl,q _ (a.hok.fresh (aj _))⟩
 exact⟨z,f,0,r,Heap.get?_push_size _ rfl⟩
end
abbrev Sp:=n8->Hp->VK->XK->Prop
abbrev CXT:=List Env->Hp->u_->XK->Value->u_->Prop
structure Env0 (P:u6) (w:World) (K:v9) (mg:x_) (base:Heap) (A:t_) (outer:List Env) (s:u_) (H:Hp):Prop where
 frames:A.frames=some outer
 mod:Mod K mg base
 bs:∀b o,base.get? b=some o->s.heap.get? b=some o/\H b=none
 bsz:base.objs.size<=s.heap.objs.size
 funs:s.heap.FunFrames base outer
 frf:∀b∈frs outer,H b=none
 tab:∀p∈Eu K,H p.1=some (.tbl p.2)
 hok:HOk P w H s.heap
 bare:AllBare s.gens
def CE (outer:List Env)(P:u6)(w:World)(H:Hp)(s:u_)(Q:VK)(u:Value)(s':u_):Prop :=
 ∃v H',s'.os=s.os/\AllBare s'.gens/\Un (frs outer) [] H H' s.heap s'.heap/\HOk P w H' s'.heap/\RelV v u/\Q v H'
def CR (CX:CXT)(outer:List Env)(P:u6)(w:World)(H:Hp)(s:u_)(Q:VK)(E:XK)(r:Result)(s':u_):Prop :=
 match r with
 | .ok (.ret u)=>CE outer P w H s Q u s'
 | .ok _=>False
 | .error e=>CX outer H s E e s'
structure FnOk (P:u6) (w:World) (K:v9) (mg:x_) (base:Heap) (CX:CXT) (k:Nat) (f:Addr) (fd:u5) (ps:v4) (sp:Sp):Prop where
 len:∀vs H Q E,sp vs H Q E->vs.length=ps.length
 run:∀(A:t_) (outer:List Env) (s:u_) (H:Hp) (args:Args) (us:w6) (vs:n8) (Q:VK) (E:XK),Room k A->Env0 P w K mg base A outer s H->BindsTo s fd args (ps.zip us)->Vals vs us->sp vs H Q E ->
  codeAny (model P w) A (.call (.ref f) args) (CR CX outer P w H s Q E) s
theorem FnOk.imp {P:u6}{w:World}{K:v9}{mg:x_}{base:Heap}{CX:CXT}{k:Nat}{f:Addr}{d:u5}{ps:v4}{sp a:Sp}(F:FnOk P w K mg base CX k f d ps sp)
 (h:∀b H Q E,a b H Q E->sp b H Q E):FnOk P w K mg base CX k f d ps a :=
 ⟨fun b H Q E q=>F.len _ H Q E (h _ _ _ _ q),fun A c s H e n b Q E j l i m g=>F.run A _ s H _ _ _ Q E j l i m (h _ _ _ _ g)⟩
theorem Env0.in1 {P:u6}{w:World}{K:v9}{mg:x_}{base:Heap}{A:t_}{a:List Env}{s:u_}{H:Hp}(e:Env0 P w K mg base A a s H) :
 Env0 P w K mg base A.in1 a s H:=⟨e.frames,e.mod,e.bs,e.bsz,e.funs,e.frf,e.tab,e.hok,e.bare⟩
section
variable {X:Cx}{pins:y_}{σ:St}{H:Hp}{s s':u_}
theorem Inv.env0 (I:Inv X pins σ H s):Env0 X.prog X.w X.K X.mg X.base X.A X.stack s H :=
 ⟨I.ok.frames,I.ok.mod,I.bs,ao I.ok.bsz I.sz,I.stack,I.stkFree,fun p a=>I.base.tbls _ _ (I.ok.tab p a),I.hok,I.bare⟩
theorem Inv.after {Q:VK}{u:Value}(I:Inv X pins σ H s)(h:CE X.stack X.prog X.w H s Q u s'):EP X pins σ Q u s':=by
 obtain⟨v,j,i,a,f,c,r,q⟩:=h;obtain⟨hh,g,d,t,e⟩:=s';obtain rfl:e=s.os:=i
 exact⟨v,j,I.call      f c a fun b z=>absurd z (by simp),r,q⟩
end
def Zi (sp:Sp)(dvs:n8)(E:XK)(t:TA):TE:=fun σ H Q=>t σ H fun vs H1=>sp (vs++dvs) H1 Q E
def Binds (K:v9)(fd:u5)(ps:v4)(ds:w6):Prop :=
 ∀(s:u_) (us:w6),K.In s.heap->(us++ds).length=ps.length->BindsTo s fd ⟨us,[]⟩ (ps.zip (us++ds))
theorem Binds.all {K:v9}{c:u5}{ps:v4}(h:∀a:w6,a.length=ps.length->bindArgs c ⟨a,[]⟩=pure (ps.zip a)):Binds K c ps []:=fun s a _ b=>by
 rw[cj]at b ⊢;exact .of_eq (h _ b)
def Wi (CX:CXT)(X:Cx)(E:XK):Prop:=∀(pins:y_) (σ:St) (H:Hp) (s:u_) (e:Value) (s':u_),Inv X pins σ H s->CX X.stack H s E e s'->X.xe e s'
section
variable {X:Cx}{CX:CXT}{k:Nat}{f C:Addr}{fd:u5}{ps:v4}{sp:Sp}{dvs:n8}{ds:w6}{E:XK}{x m:Str}{p pos apos:Pos}{e o:Expr}{es:v_}{ta:TE}{t:TA}
theorem Br0 {pins:y_}{b:St}{H:Hp}{s:u_}{Q:VK}{us:w6}{vs:n8}(F:FnOk X.prog X.w X.K X.mg X.base CX k f fd ps sp)(hr:Room k X.A)(hb:Binds X.K fd ps ds)(hd:Vals dvs ds)(hx:Wi CX X E)
 (I:Inv X pins b H s) (r:Vals vs us) (h:sp (vs++dvs) H Q E):wpAny (model X.prog X.w) X.A (call (.ref f) us) (EP X pins b Q) X.xe s:=by
 have a  := r.append hd
 have g:(us++ds).length=ps.length:=by rw[<- a.length];exact F.len _ _ _ _ h
 refine wpAny_call (codeAny_mono (F.run _ _ s H _ _ _ Q E hr I.env0 (hb s _ I.kIn g) a h) fun r i c=>?_)
 cases r with
 | error e=>exact hx _ _ H s e _ I c
 | ok d =>
  cases d with
  | ret u=>exact I.after c
  | next=>assumption
  | brk=>assumption
  | cont=>trivial
theorem Bg2 (F:FnOk X.prog X.w X.K X.mg X.base CX k f fd ps sp)(hr:Room k X.A)(hg:Gl X x)(hm:X.mg x=some (.ref f))(hk:PySem.W.keepIn X.K (.ref f)=true)(hb:Binds X.K fd ps ds)(hd:Vals dvs ds)(hx:Wi CX X E)
 (ha:PA X (e::es) t) (hdb:(x==("__debug__" : Str))=false:=by decide) (he:starEach (e::es) X.env=(false,eval e X.env)::starEach es X.env:=by rfl) (hpl:(backTo pos (starEach es X.env)).any (·.1)=false:=by rfl) :
 PE X (.Call (.Name x p) (e::es) [] pos) (Zi sp dvs E t):=by
 intro b s c H Q I h
 refine wpAny_Call_Name_kw (Az8 I hg hm ?_ hdb)
 refine PySem.W.callWith_K  I.ok.mod.kin hk (thn (ha _ _ s _ H _ I h) fun d g ⟨i,j,a,r,q⟩=>⟨a.kIn,?_⟩) he hpl
 exact Br0 F hr hb hd hx a r q
end
def PK (X:Cx)(kws:List Keyword)(t:TA):Prop :=
 ∀(pos:Pos) (pins:y_) (s:u_) (σ:St) (H:Hp) (Q:n8->Hp->Prop),Inv X pins σ H s->t σ H Q->wpAny (model X.prog X.w) X.A (evalAll ((backToKw pos (keywordEach kws X.env)).map (·.2))) (AP X pins σ Q) X.xe s
section
variable {X:Cx}{CX:CXT}{k:Nat}{f C:Addr}{fd:u5}{ps ks:v4}{sp:Sp}{E:XK}{x m:Str}{p pos apos kpos:Pos}{e o:Expr}{es:v_}{kws:List Keyword}{te ta:TE}{t tk:TA}{nm:Option Str}
theorem Bv1:PK X [] Gf:=fun _ _ _ _ H Q I h=>wpAny_evalAll_nil ⟨[],H,I,.nil,h⟩
theorem Bc0 (ha:PE X e te)(hr:PK X kws t):PK X (⟨nm,e,kpos⟩::kws) (Cw te t):=by
 intro d a s m H Q I h
 refine wpAny_evalAll_cons (wpAny_bind (thn (ha _ s _ H _ I h) fun u o ⟨x,n,f,g,i⟩=>wpAny_bind (wpAny_standAt (wpAny_pure ?_))))
 exact thn (hr _ _ _ _ _ _ f i) fun p q ⟨c,k,j,l,b⟩=>⟨x::c,k,j,.cons g l,b⟩
variable {g:w6->w6->w6}{gV:n8->n8->n8}
end
structure Bm (N P:v4) (sc:Scope):Prop where
 kind:sc.kind=.function
 co:sc.isCoroutine=false
 gen:sc.isGenerator=false
 nd:N.Nodup
 pre:N.take P.length=P
 par:∀x∈P,sc.names.lookup x=some .local\/sc.names.lookup x=some .cell
 nofree:∀y∈sc.names,y.2≠.free
theorem Yw {kindOf:Str->Option NameKind}{x:Str}:∀{binds:List (Str×Value)}{m:x_},(∀v,(x,v)∉binds)->bindL kindOf binds m x=m x
 | [],_,_=>rfl
 | (n,v)::r,m,h=>by
  unfold bindL
  rw[Yw fun w hw=>h w (aW _ hw)]
  split
  ·have:x≠n:=by rintro rfl;exact h v aN
   simp[this]
  ·rfl
theorem Yu {kindOf:Str->Option NameKind}{x:Str}:∀{binds:List (Str×Value)}{m:x_},(∀v,(x,v)∉binds)->bindC kindOf binds m x=m x
 | [],_,_=>rfl
 | (n,v)::r,m,h=>by
  unfold bindC
  rw[Yu fun w hw=>h w (aW _ hw)]
  split
  ·rfl
  ·have:x≠n:=by rintro rfl;exact h v aN
   simp[this]
theorem Ye {kindOf:Str->Option NameKind}{x:Str}{v:Value}:∀{P:v4}{vs:w6}{i:Nat}{m:x_},P.Nodup->P[i]?=some x->vs[i]?=some v->kindOf x=some .local ->
 bindL kindOf (P.zip vs) m x=some v
 | [],_,_,_,_,h,_,_=>by simp at h
 | _::_,[],_,_,_,_,h,_=>by simp at h
 | p::P,w::vs,0,m,nd,h1,h2,hk=>by
  simp at h1 h2;subst h1;subst h2
  show bindL kindOf ((p,w)::P.zip vs) m p=_
  unfold bindL
  rw[Yw fun v hv=>(bH.mp nd).1 (List.of_mem_zip hv).1,if_pos hk]
  simp
 | p::P,w::vs,i+1,m,nd,h1,h2,hk=>by
  show bindL kindOf ((p,w)::P.zip vs) m x=_
  unfold bindL
  exact Ye (i:=i) (bH.mp nd).2 (by simpa using h1) (by simpa using h2) hk
theorem Zg {kindOf:Str->Option NameKind}{x:Str}{v:Value}:∀{P:v4}{vs:w6}{i:Nat}{m:x_},P.Nodup->P[i]?=some x->vs[i]?=some v->kindOf x≠some .local ->
 bindC kindOf (P.zip vs) m x=some v
 | [],_,_,_,_,h,_,_=>by simp at h
 | _::_,[],_,_,_,_,h,_=>by simp at h
 | p::P,w::vs,0,m,nd,h1,h2,hk=>by
  simp at h1 h2;subst h1;subst h2
  show bindC kindOf ((p,w)::P.zip vs) m p=_
  unfold bindC
  rw[Yu fun v hv=>(bH.mp nd).1 (List.of_mem_zip hv).1,if_neg hk]
  simp
 | p::P,w::vs,i+1,m,nd,h1,h2,hk=>by
  show bindC kindOf ((p,w)::P.zip vs) m x=_
  unfold bindC
  exact Zg (i:=i) (bH.mp nd).2 (by simpa using h1) (by simpa using h2) hk
def start (N:v4)(vs:n8):St:=vs.map some++List.replicate (N.length-vs.length) none
def Au7 (CX:CXT)(P:u6)(w:World)(K:v9)(mg:x_)(base:Heap)(N:v4)(qual:Str)(scope:Scope)(f:Addr)(cd:Value)(A:t_)(outer:List Env)(s:u_)(H:Hp)(E:XK):Cx where
 prog:=P
 w:=w
 K:=K
 mg:=mg
 base:=base
 A:=A.deeper (envOfC qual scope s.heap.objs.size f cd)
 N:=N
 s₀:=s
 H₀:=H
 env:=envOfC qual scope s.heap.objs.size f cd
 outer:=outer
 stack:=envOfC qual scope s.heap.objs.size f cd::outer
 ex:=[]
 calm:=true
 fn:=fun _=>true
 pn:=[]
 xe:=fun e s'=>wpAny (model P w) (A.deeper (envOfC qual scope s.heap.objs.size f cd)) (leaving (envOfC qual scope s.heap.objs.size f cd) e) (fun _ s''=>CX outer H s E e s'') (fun e' s''=>CX outer H s E e' s'') s'
theorem Am5 {a:Scope}{n:Nat}{x:Str}(h:a.names.lookup x=some .cell):∃c,(cellsFrom n a.names []).lookup x=some c:=by
 exact fQ.mp (PySem.W.cellsFrom_some _ n [] (.inl h))
theorem A0q {CX:CXT}{P:u6}{w:World}{K:v9}{mg:x_}{base:Heap}{N ps:v4}{qual:Str}{scope:Scope}{f:Addr}{t:Value}{A:t_}{a:List Env}{s s1:u_}{H:Hp}{E:XK}{us:w6}{vs:n8}
 (S:Bm N ps scope) (hd:A.handled=none) (d:Env0 P w K mg base A a s H) (hl:vs.length=ps.length) (r:Vals vs us)
 (x:InCallC s s.heap.objs.size (bindL (envOfC qual scope s.heap.objs.size f t).kindOf (ps.zip us) fun _=>none) (cellsFrom (s.heap.objs.size+1) scope.names []) (bindC (envOfC qual scope s.heap.objs.size f t).kindOf (ps.zip us) fun _=>none) s1) :
 Inv (Au7 CX P w K mg base N qual scope f t A a s H E) [] (start N vs) H s1:=by
 have D:ps.length<=N.length:=by have:=bG List.length S.pre;rw[cH]at this;omega
 obtain⟨o,tk,rfl,B⟩:=x.done
 have g:∀b:Addr,b∉(Au7 CX P w K mg base N qual scope f t A a s H E).ex:=fun b z=>absurd (show b∈([]:v6) from z) (by simp)
 refine⟨⟨d.mod,S.kind,rfl,rfl,aj _,fun y z c o n=>?_,fun y j=>?_,fun y c _ h=>?_,fun _=>hd,Around.frames_deeper d.frames,.inr ⟨rfl,rfl⟩,fun b z=>absurd z (g b),d.bs,d.bsz,fun b _ _=>g b,fun b z=>absurd z (g b),d.funs,d.frf,d.tab⟩,
  rfl,d.bare,Un.kept B,⟨_,x.toInCall.ns,fun i y v o n h3=>?_⟩,fun y c h=>⟨_,x.cell y c h⟩,d.hok.fresh (aj _),fun y c h=>?_,fun p m=>absurd (show p∈([]:y_) from m) (by simp),d.hok.kept B,?_⟩
 ·exact name_of_addr x.apart (dN o) (dN n)
 ·have j:scope.names.lookup y=some .cell\/scope.names.lookup y=some .free:=j
  rcases j with j | j
  ·exact Am5 j
  ·exact absurd rfl (S.nofree _ (dN j))
 ·exact bM (x.above y c (dN h))
 ·have hi:i<vs.length:=by
   unfold start at n
   grind
  have F:vs[i]?=some v:=by
   unfold start at n
   grind
  obtain⟨u,C,G⟩:=r.get F
  have m:ps[i]?=some y:=by
   rw[<- S.pre,List.getElem?_take_of_lt (by omega)];exact o
  have l:ps.Nodup:=by rw[<- S.pre];exact S.nd.sublist (fU _ _)
  refine⟨u,G,?_⟩
  rcases S.par y (bR m) with k | k
  ·exact .inl ⟨k,Ye l m C k⟩
  ·obtain⟨c,e⟩:=Am5  k
   refine .inr ⟨.inl k,c,e,?_⟩
   have q:=x.cell y c e
   rw[Zg l m C (by show scope.names.lookup y≠_;rw[k];decide)]at q
   exact q
 ·exact d.hok.fresh (bM (x.above y c (dN h)))
 ·unfold start
  show _=N.length
  simp_all
theorem Bl7 {CX:CXT}{P:u6}{w:World}{K:v9}{mg:x_}{base:Heap}{k:Nat}{f:Addr}{name qual:Str}{d:Arguments}{body:List Stmt}{scope:Scope}{U O z R a W oc:Value}{M od:Option Addr}
 {F:Array (u9)} {N ps:v4} {sp:Sp} (lk:K.lookup f=some ⟨oc,od,.func (PySem.W.fnOf name qual d body scope U O z R M a W),F⟩) (hcd:PySem.W.codeIn K a qual=true) (S:Bm N ps scope)
 (p:∀vs H Q E,sp vs H Q E->vs.length=ps.length)
 (i:∀(A:t_) (c:List Env) (s:u_) (H:Hp) (vs:n8) (Q:VK) (E:XK),Room k (A.deeper (envOfC qual scope s.heap.objs.size f a))->sp vs H Q E ->
  ∃t,PSs (Au7 CX P w K mg base N qual scope f a A c s H E) body t/\t { nx:=fun _ H'=>Q .non H',rt:=Q } (start N vs) H) :
 FnOk P w K mg base CX (k+1) f (PySem.W.fnOf name qual d body scope U O z R M a W) ps sp:=by
 refine⟨p,fun A c s H T X vs Q E C l hb r m=>?_⟩
 have hl:=p _ _ _ _ m
 have G  := l.mod.kin.keeps fun b o e=>(l.bs b o e).1
 have h:∀y∈ps.zip X,scope.names.lookup y.1=some .local\/(scope.names.lookup y.1=some _/\((cellsFrom (s.heap.objs.size+1) _ []).lookup y.1).isSome=true):=fun⟨n,v⟩ Y=>by
  rcases S.par n (List.of_mem_zip Y).1 with q | q
  ·grind
  ·exact .inr ⟨q,PySem.W.cellsFrom_some _ _ _ (.inl q)⟩
 refine codeAny_call_function C.depth (G _ _ lk) rfl S.co S.gen rfl (PySem.W.codeRec_of G hcd) (hb _ _ _ _ ?_)
 refine wpAny_newFunctionEnv_cells S.kind h fun Z he s1 x=>?_
 subst he
 refine⟨(l.mod.nolimit.keeps fun b o e=>(l.bs b o e).1).keeps x.toInCall.keep,codeAny_func ?_⟩
 obtain⟨t,ht,hq⟩:=i A _ s H _ Q E (C.deeper _) m;have I:Inv (Au7 CX P w K _ _ N qual _ f a A _ s H E) _ _ H _:=A0q S C.hd l hl r x
 refine wpAny_mono (ht _ _ _ H _ I hq) (fun fl L j=>?_) fun e L j=>j
 have B:∀{g:St} {H':Hp} {v:V} {u:Value},Inv (Au7 CX P w K mg base N qual scope f a A c s H E) [] g _ L->RelV v u->Q v _->CE _ P w H s Q u _ :=
  fun {g H' v u} J D q=>⟨v,H',J.os,J.bare,J.base,J.hok,D,q⟩
 cases fl with
 | ret u =>
  obtain⟨v,g,H',J,D,q⟩:=j;exact B J D q
 | next =>
  obtain⟨g,H',J,q⟩:=j;exact B (v:=V.non)  J rfl q
 | brk =>
  obtain⟨_,_,_,q⟩:=j
  trivial
 | cont =>
  obtain⟨_,_,_,q⟩:=j
  trivial
section
variable {X:Cx}{x:Str}{p pos:Pos}{e:Expr}{es:v_}{t:TA}{id T:String}{r:n8->Hp->VK->Prop}
def tCB (r:n8->Hp->VK->Prop)(t:TA):TE:=fun σ H Q=>t σ H fun vs H1=>r vs H1 Q
theorem A4p (hc:CallR X (.builtin id) r)(hg:Gl X x)(hm:X.mg x=none)(hv:bootBuiltins x=some (.builtin id))(ha:PA X (e::es) t)(hn:x ≠ "__name__" := by decide) (hdb:(x==("__debug__" : Str))=false:=by decide)
 (he:starEach (e::es) X.env=(false,eval e X.env)::starEach es X.env:=by rfl) (hpl:(backTo pos (starEach es X.env)).any (·.1)=false:=by rfl):PE X (.Call (.Name x p) (e::es) [] pos) (tCB r t):=by
 intro a s f H Q I h
 refine wpAny_Call_Name_kw (J9 I hg hm hv ?_ hn hdb)
 exact PyProof.Rows.callWith_builtin1 (thn (ha _ _ s _ H _ I h) fun j k ⟨g,i,d,c,b⟩=>hc _ _ _ _ _ _ Q d c b) he hpl
theorem A3r (hc:CallR X (.type T) r)(hg:Gl X x)(hm:X.mg x=none)(hv:bootBuiltins x=some (.type T))(ha:PA X (e::es) t)(hn:x ≠ "__name__" := by decide) (hdb:(x==("__debug__" : Str))=false:=by decide)
 (he:starEach (e::es) X.env=(false,eval e X.env)::starEach es X.env:=by rfl) (hpl:(backTo pos (starEach es X.env)).any (·.1)=false:=by rfl):PE X (.Call (.Name x p) (e::es) [] pos) (tCB r t):=by
 intro a s f H Q I h
 refine wpAny_Call_Name_kw (J9 I hg hm hv ?_ hn hdb)
 exact cW (thn (ha _ _ s _ H _ I h) fun j k ⟨g,i,d,c,b⟩=>hc _ _ _ _ _ _ Q d c b) he hpl
end
end L2
namespace HT
open PySem PyProof.Rows
section
variable {prog:u6}{w:World}{A:t_}{E:z_}{s:u_}
theorem Bj7 {t b:Addr}{vs c:w6}{Q:z_}(ht:IsTup s.heap t vs.toArray)(hb:IsTup s.heap b c.toArray)(hv:vs≠[])
 (h1:c=[]->Q (.ref t) s) (h2:c≠[]->Q (.ref s.heap.objs.size) { s with heap:=s.heap.push { cls:=.type "tuple",data:=.seq (vs++c).toArray } })
 (hsz:vs.length+c.length<=sizeLine):wpAny (model prog w) A (binaryOp .Add (.ref t) (.ref b)) Q E s:=by
 obtain⟨⟨g,q,d,p⟩,e,o,n,l⟩:=id ht;obtain⟨⟨j,k,i,m⟩,a,h,r,f⟩:=id hb;subst o l h f
 by_cases hw:c=[]
 ·exact concat_meets ⟨_,e,rfl⟩ ⟨_,a,rfl⟩ noFill_tuple_add seq_tuple_add fV fW (fX _ _)
   (tuple_addW1 t b _ _ n _ _ _ _ _ (by simp_all) (by grind)) ⟨e,a,h1 hw⟩
 ·refine concat_meets ⟨_,e,rfl⟩ ⟨_,a,rfl⟩ noFill_tuple_add seq_tuple_add fV fW (fX _ _)
   (tuple_addW2 t b _ _ n _ _ _ _ _ (by grind) (by simp_all) (by simp_all)) ⟨e,a,?_⟩
  grind
def sIx (n d:Nat):q9->Nat
 | none=>d
 | some v=>if v<0 then (v+(n:Int)).toNat else min v.toNat n
theorem A3u (n d:Nat):sIx n d none=d:=rfl
theorem Ab3 (n d k:Nat):sIx n d (some (k:Int))=min k n:=by
 show (if k<0 then ((k:Int)+n).toNat else min _ n)=min k n
 grind
theorem Bz6 (n d:Nat)(hd:d<=n)(o:q9):sIx n d o<=n:=by
 cases o with
 | none=>exact hd
 | some v =>
  show (if v<0 then (v+n).toNat else min _ n)<=n
  grind
theorem Ax6 (v:Int)(n d:Nat):(if v<0 then max (v+(n:Int)) 0 else min v (n:Int))=((sIx n d (some v):Nat):Int):=by
 show (if v<0 then max _ 0 else min v _)=(((if v<0 then (v+n).toNat else min _ n):Nat):Int)
 grind
theorem Ap6 (lo hi:q9)(n:Nat):Builtin.Slice.sliceAdjust lo hi 1 (n:Int)=(((sIx n 0 lo:Nat):Int),((sIx n n hi:Nat):Int)):=by
 refine Prod.ext ?_ ?_
 ·cases lo with
  | none=>rfl
  | some v=>exact Ax6 v n 0
 ·cases hi with
  | none=>rfl
  | some v=>exact Ax6 v n n
theorem Ap4 (i j:Nat):Builtin.Slice.slicePlaces (i:Int) (j:Int) 1=j-i:=by
 unfold Builtin.Slice.slicePlaces
 have h1:(1:Int)>0:=by omega
 simp only[h1,bI,Int.ediv_one]
 split <;> omega
theorem Qq {v:Value}{o:q9}{Q:q9->u_->Prop}(p:IsPart v o)(h:Q o s):wpAny (model prog w) A (Builtin.Slice.slicePartIndex v) Q E s:=by
 cases p with
 | none=>exact slicePart_none h
 | int i t=>exact slicePart_int h
theorem Lb {e:Addr}{d c:Value}{lo hi:q9}{n:Nat}{Q:Int×Int×Nat->u_->Prop}(hs:s.heap.IsSliceOf e d c .none)(pl:IsPart d lo)(g:IsPart c hi)
 (h:Q (((sIx n 0 lo:Nat):Int),1,sIx n n hi-sIx n 0 lo) s):wpAny (model prog w) A (Builtin.Slice.sliceApplied (.ref e) (pure (n:Int))) Q E s:=by
 obtain⟨i,a,f,b⟩:=id hs
 refine wpAny_bind (wpAny_bind (wpAny_field a b (x:=d) rfl (wpAny_bind (wpAny_field a b (x:=c) rfl (wpAny_bind (wpAny_field a b  rfl (wpAny_pure ?_)))))))
 refine wpAny_bind (slicePart_none ?_)
 refine wpAny_bind (Qq pl (wpAny_bind (Qq g (wpAny_bind (wpAny_pure ?_)))))
 show wpAny _ _ (match Builtin.Slice.sliceAdjust _ _ 1 _ with | (lo,hi)=>pure (lo,(1:Int),Builtin.Slice.slicePlaces lo hi 1)) _ _ s
 rw[Ap6 _ _ n]
 show wpAny _ _ (pure _) _ _ s
 rw[Ap4];exact wpAny_pure h
theorem A6r (xs:v7)(i k:Nat):((List.range k).filterMap fun (m:Nat)=>xs[((i:Int)+(m:Int)*1).toNat]?).toArray=((xs.toList.drop i).take k).toArray:=by
 have e:(fun (m:Nat)=>xs[((i:Int)+m*1).toNat]?)=fun m=>xs[i+m]?:=by
  funext m
  have:((i:Int)+m*1).toNat=i+m:=by omega
  rw[this]
 rw[e];have:=pick_run xs i k;rw[List.filterMap_map]at this
 have a:((fun x=>xs[x]?) ∘ fun x=>i+x)=fun m=>xs[i+m]?:=rfl
 rw[a]at this;rw[this]
theorem Ra {t sl:Addr}{items:v7}{vl vu:Value}{lo hi:q9}{Q:z_}(ht:IsTup s.heap t items)(hs:s.heap.IsSliceOf sl vl vu .none)(pl:IsPart vl lo)(pu:IsPart vu hi)
 (hw:¬ (sIx items.size 0 lo=0/\sIx items.size items.size hi=items.size))
 (h:Q (.ref s.heap.objs.size) { s with heap:=s.heap.push { cls:=.type "tuple",data:=.seq ((items.toList.drop (sIx items.size 0 lo)).take (sIx items.size items.size hi-sIx items.size 0 lo)).toArray } })
 (hsz:items.size<=sizeLine):wpAny (model prog w) A (getItem (.ref t) (.ref sl)) Q E s:=by
 have htake:sizeOk (.seq ((items.toList.drop (sIx items.size 0 lo)).take (sIx items.size items.size hi-sIx items.size 0 lo)).toArray):=by
  show ((items.toList.drop (sIx items.size 0 lo)).take (sIx items.size items.size hi-sIx items.size 0 lo)).toArray.size<=sizeLine
  rw[bC,cH,eQ,bV];omega
 have hj:sIx items.size items.size hi<=items.size:=Bz6 _ _ (aj _) hi;obtain⟨os,hos,hcs,hds⟩:=id hs;have hTs:s.TypeIs (.ref sl) "slice" := ⟨os,hos,hcs⟩;unfold getItem
 try with_reducible refine wpAny_holding ?_
 first | refine wpAny_bind (wpAny_pure ?_) | skip
 refine wpAny_bind (wpAny_sequenceKey ht.typeIs (by decide) ?_)
 refine wpAny_bind (wpAny_callSpecial?_slot (name:="__getitem__") ht.typeIs cu
  (wpAny_call_entry cu ht.typeIs entry_tuple_getitem ?_ (args_tuple_getitem _ _)))
 show wpAny _ _ (Builtin.Tuple.tupleItemsOf (.ref t) >>= _) _ _ s
 refine wpAny_bind (tupleItemsOf_ ht ?_)
 refine wpAny_bind (wpAny_typeOf hTs ?_)
 rw[if_pos (by decide)]
 refine wpAny_bind (Lb hs pl pu ?_)
 have hno:¬ ((((sIx items.size 0 lo:Nat):Int)==0&&(1:Int)==1&&(sIx items.size items.size hi-sIx items.size 0 lo)==items.size)=true):=by
  intro q;rw[cJ,cJ]at q;have q1:((sIx items.size 0 lo:Nat):Int)=0:=cX q.1.1;have q2:sIx items.size items.size hi-sIx items.size 0 lo=items.size:=cX q.2
  exact hw ⟨by omega,by omega⟩
 show wpAny _ _ (if (((sIx items.size 0 lo:Nat):Int)==0&&(1:Int)==1&&(sIx items.size items.size hi-sIx items.size 0 lo)==items.size)=true then _ else _) _ _ s
 rw[if_neg hno,A6r]
 first
  | exact wpAny_bind (m:=Builtin.Tuple.tupleExact _) (wpAny_newObj_type (wpAny_pure ⟨_,rfl,wpAny_pure h⟩) htake)
  | exact wpAny_bind (m:=Builtin.Tuple.tupleExact _) (wpAny_newObj_type (wpAny_bind (wpAny_pure (wpAny_pure ⟨_,rfl,wpAny_pure h⟩))) htake)
  | exact wpAny_bind (wpAny_bind (m:=Builtin.Tuple.tupleExact _) (wpAny_newObj_type (wpAny_pure (wpAny_pure ⟨_,rfl,wpAny_pure h⟩)) htake))
  | exact wpAny_bind (wpAny_bind (m:=Builtin.Tuple.tupleExact _) (wpAny_newObj_type (wpAny_pure ⟨_,rfl,wpAny_pure h⟩) htake))
end
end HT
namespace L2
open PySem PySem.Spec PyProof.Rows
abbrev TO:=St->Hp->(q9->Hp->Prop)->Prop
def PO (X:Cx)(e:Option Expr)(t:TO):Prop :=
 ∀
  (pins:y_) (s:u_) (σ:St) (H:Hp) (Q:q9->Hp->Prop),Inv X pins σ H s->t σ H Q ->
  wpAny (model X.prog X.w) X.A (evalPart e X.env) (fun u s'=>∃o H',Inv X pins σ H' s'/\IsPart u o/\Q o H') X.xe s
def Ae9:TO:=fun _ H Q=>Q none H
def A6x (t:TE):TO:=fun σ H Q=>t σ H fun x H1=>∃i,x=.int i/\Q (some i) H1
section
variable {X:Cx}{e:Expr}{te:TE}{lo hi:Option Expr}{tl th:TO}{pos p2:Pos}
theorem Bj3:PO X none Ae9:=by
 intro a s b H Q I h;exact wpAny_pure ⟨none,H,I,.none,h⟩
theorem Be6 (h:PE X e te):PO X (some e) (A6x te):=by
 intro a s σ H Q I d
 refine thn (h _ s _ H _ I d) fun u s1 ⟨x,f,b,c,g⟩=>?_
 obtain⟨i,rfl,q⟩:=g;obtain⟨t,rfl⟩:=c;exact⟨some i,f,b,.int i t,q⟩
def SlR (X:Cx)(r:V->q9->q9->Hp->VK->Prop):Prop :=
 ∀
  (pins:y_) (s:u_) (σ:St) (H:Hp) (x:V) (v vl vu:Value) (lo hi:q9) (sl:Addr) (Q:VK),Inv X pins σ H s->RelV x v->s.heap.IsSliceOf sl vl vu .none->IsPart vl lo->IsPart vu hi->r x lo hi H Q ->
  ∃T id,typeLookup (.type T) "__getitem__" = pure (some (.builtin id))/\s.TypeIs v T/\wpAny (model X.prog X.w) X.A (getItem v (.ref sl)) (EP X pins σ Q) X.xe s
theorem SlR.or {r b:V->q9->q9->Hp->VK->Prop}(h:SlR X r)(h':SlR X b):SlR X (fun x lo hi H Q=>r x lo hi H Q\/b x lo hi H Q):=by
 intro d s g H x v i j lo hi k Q I e c f a q
 rcases q with q | q
 ·exact h _ s _ H x v _ _ _ _ _ Q I e c f a q
 ·exact h' _ s _ H x v _ _ _ _ _ Q I e c f a q
def tSl (r:V->q9->q9->Hp->VK->Prop)(te:TE)(tl th:TO):TE:=fun σ H Q=>te σ H fun x H1=>tl σ H1 fun l H2=>th σ H2 fun u H3=>r x l u H3 Q
theorem A7k {r:V->q9->q9->Hp->VK->Prop}(hr:SlR X r)(he:PE X e te)(hl:PO X lo tl)(hu:PO X hi th):PE X (.Subscript e (.Slice lo hi none p2) pos) (tSl r te tl th):=by
 intro c s E H Q I h
 refine Subscript_ (thn (he _ s _ H _ I h) fun v B ⟨x,D,i,j,k⟩=>?_)
 refine wpAny_Slice (thn (hl _ _ _ _ _ i k) fun m C ⟨l,K,n,o,f⟩=>thn (hu _ _ _ _ _ n f) fun g a ⟨u,J,t,w,p⟩=>?_)
 refine wpAny_pure ?_
 have z:Inv X _ _ _ { a with heap:=a.heap.push { cls:=.type "slice",data:=.fields #[m,g,.none] } }:=t.kept  fun b F q=>Heap.get?_push_of_some _ q
 obtain⟨T,G,y,A,d⟩:=hr _ _ _ _ x v _ _ l u _ Q z j (Heap.IsSliceOf.new ..) o w p
 exact tail_any  A y d (by trivial)
def A1i (xs:n8)(lo hi:q9):n8:=(xs.drop (HT.sIx xs.length 0 lo)).take (HT.sIx xs.length xs.length hi-HT.sIx xs.length 0 lo)
theorem Up (xs:n8)(lo hi:q9):(A1i xs lo hi).length<=xs.length:=by
 unfold A1i;rw[cH,eQ];omega
def B2r (K:v9):V->q9->q9->Hp->VK->Prop:=fun x lo hi H Q=>∃a xs,x=.ref a/\SqT K H a xs /\
 ¬ (HT.sIx xs.length 0 lo=0/\HT.sIx xs.length xs.length hi=xs.length)/\∀p,H p=none->Q (.ref p) (upd H p (.tup (A1i xs lo hi)))
theorem Br5:SlR X (B2r X.K):=by
 intro e s σ H x v vl vu lo hi sl Q I j k g l h;obtain⟨a,i,rfl,m,hw,q⟩:=h
 cases j
 obtain⟨d,r,f,n⟩:=I.tuple m
 have c:d.toArray.size=i.length:=by exact r.length.symm
 refine⟨"tuple",_,cu.lookup,f.typeIs,?_⟩
 refine HT.Ra f k g l (by grind) ?_ (by simp_all)
 rw[c]
 refine⟨.ref _,_,I.laid   (fun b ob q=>Heap.get?_push_of_some _ q) (aj _) ?_,rfl,q _ (I.hok.fresh (aj _))⟩
 exact⟨ao (Up _ _ _) n,_,(r.drop _).take _,zH.new _ _⟩
def B1d (K:v9):R2:=fun x y H Q=>∃a b xs ys,x=.ref a/\y=.ref b/\SqT K H a xs/\SqT K H b ys/\xs≠[]/\xs.length+ys.length<=sizeLine /\
 (ys=[]->Q (.ref a) H)/\(ys≠[]->∀p,H p=none->Q (.ref p) (upd H p (.tup (xs++ys))))
theorem Vals.nil_iff {xs:n8}{us:w6}(r:Vals xs us):us=[]↔xs=[]:=by
 cases r with
 | nil=>simp
 | cons _ _=>simp
theorem Bb5:OpR X (binaryOp .Add) (B1d X.K):=by
 intro e s σ H x y v u Q I o p h;obtain⟨a,b,xs,ys,rfl,rfl,k,l,g,hz,m,j⟩:=h
 cases o
 cases p
 obtain⟨i,d,n,_⟩:=I.tuple k;obtain⟨f,c,r,_⟩:=I.tuple l
 refine HT.Bj7 n r (fun z=>g (d.nil_iff.mp z)) (fun z=>⟨.ref a,H,I,rfl,m (c.nil_iff.mp z)⟩) (fun z=>?_) (by rw[<- d.length,<- c.length];grind)
 refine⟨.ref _,_,I.laid   (fun b ob q=>Heap.get?_push_of_some _ q) (aj _) ?_,rfl,j (fun w=>z (c.nil_iff.mpr w)) _ (I.hok.fresh (aj _))⟩
 exact⟨by simp_all,_,d.append c,zH.new _ _⟩
end
def ixN (n:Nat)(i:Int):Option Nat:=if 0<=i then (if i<n then some i.toNat else none) else if -(n:Int)<=i then some (i+n).toNat else none
def atI {α:Type}(xs:List α)(i:Int):Option α:=(ixN xs.length i).bind fun j=>xs[j]?
theorem Ad8 {n:Nat}{i:Int}{j:Nat}(h:ixN n i=some j):seqIndex? i n=some j/\j<n/\-(n:Int)<=i/\i<n:=by
 unfold ixN at h
 by_cases h0:0<=i
 ·rw[if_pos h0]at h
  by_cases h1:i<n
  ·rw[if_pos h1]at h
   have e  := bU h
   exact⟨by rw[seqIndex_of h0 h1,e],by omega,by omega,h1⟩
  simp_all
 ·rw[if_neg h0]at h
  by_cases h1:-n<=i
  ·rw[if_pos h1]at h
   have e  := bU h
   exact⟨by rw[seqIndex_neg (by omega) h1,e],by omega,h1,by omega⟩
  simp_all
theorem Ae3 {a:Type}{xs:List a}{i:Int}{v:a}(h:atI xs i=some v):∃j,seqIndex? i xs.length=some j/\xs[j]?=some v/\j<xs.length/\-(xs.length:Int)<=i/\i<xs.length:=by
 unfold atI at h
 cases e:ixN xs.length i with
 | none=>simp_all
 | some j =>
  obtain⟨c,d,f,b⟩:=Ad8 e
  grind
theorem Kl {a:Type}{xs:List a}{j:Nat}{v:a}(h:xs[j]?=some v):atI xs (j:Int)=some v:=by
 have b  := (bh.mp h).1
 have e:ixN xs.length j=some j:=by
  unfold ixN
  simp_all
 unfold atI;grind
def Mf (b:Expr):Prop:=∀o i,subscripted b false o i=operate [o,i] (getItem o i)
def IxR (X:Cx)(r:R2):Prop :=
 ∀
  (value slice:Expr) (pins:y_) (s:u_) (σ:St) (H:Hp) (x y:V) (v u:Value) (Q:VK),Inv X pins σ H s->RelV x v->RelV y u->r x y H Q ->
  subscripted slice false v u=operate [v,u] (getItem v u)->wpAny (model X.prog X.w) X.A (subscriptTail value slice v u) (EP X pins σ Q) X.xe s
def MtR (X:Cx)(id:String)(r:V->n8->Hp->VK->Prop):Prop :=
 ∀
  (pins:y_) (s:u_) (σ:St) (H:Hp) (x:V) (xs:n8) (v:Value) (us:w6) (Q:VK),Inv X pins σ H s->RelV x v->Vals xs us->r x xs H Q ->
  wpAny (model X.prog X.w) X.A (call (.builtin id) (v::us)) (EP X pins σ Q) X.xe s
section
variable {X:Cx}{a b:Expr}{ta tb:TE}{pos:Pos}
theorem IxR.or {r d:R2}(h:IxR X r)(h':IxR X d):IxR X (fun x y H Q=>r x y H Q\/d x y H Q):=by
 intro b a e s i H x y v u Q I f g q c
 rcases q with q | q
 ·exact h _ _ _ s _ H x y v u Q I f g q c
 ·exact h' _ _ _ s _ H x y v u Q I f g q c
theorem B2t {r:R2}(hr:IxR X r)(ha:PE X a ta)(hb:PE X b tb)(hs:Mf b):PE X (.Subscript a b pos) (tOp r ta tb):=by
 intro c s g H Q I h
 exact Subscript_ (Bs1 ha hb I h fun v u i x y j f e d q=>hr a b _ _ _ _ x y v u Q f e d q (hs _ _))
def Bu8 (K:v9):R2:=fun x y H Q=>∃p xs i v,x=.ref p/\y=.int i/\SqL K H p xs/\atI xs i=some v/\Q v H
def Bo7 (K:v9):R2:=fun x y H Q=>∃p xs i v,x=.ref p/\y=.int i/\SqT K H p xs/\atI xs i=some v/\Q v H
def B0z:R2:=fun x y H Q=>∃z i c,x=.str z/\y=.int i/\z.length<=sizeLine/\atI z.cps.toList i=some c/\Q (.str ⟨#[c]⟩) H
theorem ix_list:IxR X (Bu8 X.K):=by
 intro g f a s m H x y v u Q I C F h l;obtain⟨p,xs,i,z,rfl,rfl,E,n,q⟩:=h
 cases C
 obtain⟨t,rfl⟩:=F;obtain⟨e,r,c,hz⟩:=I.list E;obtain⟨j,k,D,h3,o,B⟩:=Ae3 n;obtain⟨w,ew,d⟩:=r.get D;have hl:=r.length;have hn:=We;have b:EP X a m Q w s:=⟨z,H,I,d,q⟩
 by_cases h0:0<=i
 ·have A:i.toNat=j:=by
   rw[seqIndex_of h0 B]at k
   simp_all
  exact item_listR c.isList h0 (by omega) (by grind) b l
 ·have A:(i+e.toArray.size).toNat=j:=by
   rw[seqIndex_neg (by omega) o]at k
   simp_all
  exact subscriptTail_builtinR  c.isList.typeIs slot_list_getitem.lookup
   (wpAny_getItem_list_neg  c.isList (by omega) (by simp_all) (by omega) (by grind) ⟨rfl,b⟩) l
theorem ix_tup:IxR X (Bo7 X.K):=by
 intro b c e s σ H x y v u Q I A g h o;obtain⟨p,xs,i,z,rfl,rfl,m,n,q⟩:=h
 cases A
 obtain⟨t,rfl⟩:=g;obtain⟨k,r,f,hz⟩:=I.tuple m;obtain⟨j,h1,l,h3,h4,h5⟩:=Ae3 n;obtain⟨w,ew,d⟩:=r.get l;have hl:=r.length;have hn:=We;have a:EP X _ _ Q w s:=⟨z,H,I,d,q⟩
 exact subscriptTail_builtinR  f.typeIs slot_tuple_getitem.lookup
  (getItem_tuple (j:=j)  f (by omega) (by omega) (by simp_all) (by grind) ⟨rfl,a⟩) o
theorem Bs7:IxR X B0z:=by
 intro a b d s σ H x y v u Q I f m h g;obtain⟨z,i,c,rfl,rfl,hz,l,q⟩:=h;obtain⟨t,rfl⟩:=f;obtain⟨t',rfl⟩:=m;obtain⟨j,e,k,h3,o,n⟩:=Ae3 l
 have p:z.cps.toList.length=z.length:=by simp[Str.length]
 rw[p]at e o n;have hn:=We
 exact tail_any (typeIs_str s z t) slot_str_getitem.lookup (getItem_str  (by
  grind) (by rw[e];simpa using k) ⟨.str _,H,I.tok _,⟨_,rfl⟩,q⟩) g
def rIx (K:v9):R2:=fun x y H Q=>Bu8 K x y H Q\/Bo7 K x y H Q\/B0z x y H Q
theorem Bw3:IxR X (rIx X.K):=ix_list.or (ix_tup.or Bs7)
theorem Ap0 (a:w6)(n j:Nat)(u:Value):Obj.mapSeq (·.setIfInBounds j u) { cls:=.type "list",data:=.seq a.toArray n }={ cls:=.type "list",data:=.seq (a.set j u).toArray n }:=by
 simp[Obj.mapSeq]
theorem Inv.lst {pins:y_}{b:St}{H:Hp}{s:u_}{p:Addr}{xs:n8}(I:Inv X pins b H s)(h:H p=some (.lst xs)) :
 ∃(a:w6) (n:Nat),Vals xs a/\s.heap.get? p=some { cls:=.type "list",data:=.seq a.toArray n }/\xs.length<=sizeLine:=by
 obtain⟨z,a,n,r,e⟩:=I.hok p _ h
 grind
theorem Inv.lstUpd {pins:y_}{c:St}{H:Hp}{s:u_}{p:Addr}{xs ys:n8}{a its':w6}{n n':Nat}{f:Obj->Obj}(I:Inv X pins c H s)(h:H p=some (.lst xs))
 (ho:s.heap.get? p=some { cls:=.type "list",data:=.seq a.toArray n }) (hf:f { cls:=.type "list",data:=.seq a.toArray n }={ cls:=.type "list",data:=.seq its'.toArray n' }) (r:Vals ys its') (hz:ys.length<=sizeLine) (t:Nat) :
 Inv X pins c (upd H p (.lst ys)) { s with heap:=s.heap.update p f,toks:=t }:=by
 have e:(s.heap.update p f).get? p=some { cls:=.type "list",data:=.seq its'.toArray n' }:=by
  rw[Heap.get?_update_self f ho (by rw[hf] <;> rfl),hf]
 refine I.write   (by rw[h];trivial) (.inl rfl) (fun b u d q=>(Heap.get?_update_other _ _ (aU d)).trans q) ⟨_,e⟩ ?_
 exact⟨hz,its',n',r,e⟩
def Bm2:V->V->V->Hp->(Hp->Prop)->Prop:=fun o i v H Q=>∃p xs k j,o=.ref p/\i=.int k/\H p=some (.lst xs)/\ixN xs.length k=some j/\Q (upd H p (.lst (xs.set j v)))
theorem set_list:Br7 X Bm2:=by
 intro a s w H o i v ov iv u Q I y m g h;obtain⟨p,l,k,j,rfl,rfl,d,x,q⟩:=h
 cases y
 obtain⟨t,rfl⟩:=m;obtain⟨b,n,r,c,hz⟩:=I.lst d;obtain⟨e,h2,z,A⟩:=Ad8 x;have hl:=r.length;have hn:=We
 have I':Inv X a w (upd H p (.lst (l.set j v))) { s with heap:=s.heap.update p (Obj.mapSeq (·.setIfInBounds j u)) } :=
  I.lstUpd d c (Ap0 _ n j u) (r.set g j) (by grind) _
 by_cases h0:0<=k
 ·have f:k.toNat=j:=by
   rw[seqIndex_of h0 A]at e
   grind
  exact PySem.W.ki_setAt c h0 (by omega) (by grind) (by grind)
 ·have f:(k+b.toArray.size).toNat=j:=by
   rw[seqIndex_neg (by omega) z]at e
   simp_all
  exact PySem.W.ki_setBack c (by omega) (by simp_all) (by omega) (by grind)
theorem Zx (lo hi:q9)(n:Nat):(sliceBounds lo hi none n).1=((HT.sIx n 0 lo:Nat):Int)/\(sliceBounds lo hi none n).2.1=((HT.sIx n n hi:Nat):Int)/\(sliceBounds lo hi none n).2.2=1:=by
 refine⟨?_,?_,rfl⟩
 ·cases lo with
  | none=>simp[sliceBounds,HT.sIx]
  | some i =>
   simp only[sliceBounds,HT.sIx,Option.getD_none,show (1:Int)>0 by decide,bI]
   by_cases h:i<0
   ·simp only[h,bI] <;> omega
   ·simp only[h,cY] <;> omega
 ·cases hi with
  | none=>simp[sliceBounds,HT.sIx]
  | some i =>
   simp only[sliceBounds,HT.sIx,Option.getD_none,show (1:Int)>0 by decide,bI]
   by_cases h:i<0
   ·simp only[h,bI] <;> omega
   ·simp only[h,cY] <;> omega
theorem X4 (a:w6)(lo hi:q9):slicePick a.toArray lo hi none=((a.drop (HT.sIx a.length 0 lo)).take (HT.sIx a.length a.length hi-HT.sIx a.length 0 lo)).toArray:=by
 obtain⟨c,d,b⟩:=Zx _ _ _;unfold slicePick;rw[c,d,b]
 simp only[sliceRange_one,pick_run] <;> rfl
def B2s (K:v9):V->q9->q9->Hp->VK->Prop:=fun x lo hi H Q=>∃a xs,x=.ref a/\SqL K H a xs/\∀p,H p=none->Q (.ref p) (upd H p (.lst (A1i xs lo hi)))
theorem Bh5:SlR X (B2s X.K):=by
 intro e s σ H x v vl vu lo hi sl Q I i j f k h;obtain⟨a,xs,rfl,g,q⟩:=h
 cases i
 obtain⟨l,r,d,m⟩:=I.list g;have c:=r.length
 refine⟨"list",_,slot_list_getitem.lookup,d.isList.typeIs,?_⟩
 refine wpAny_getItem_list_slice d.isList j f k .none (by simp) ?_ (by simp_all)
 rw[X4,<- c]
 refine⟨.ref _,_,I.laid   (fun b ob q=>Heap.get?_push_of_some _ q) (aj _) ?_,rfl,q _ (I.hok.fresh (aj _))⟩
 exact⟨ao (Up _ _ _) m,_,0,(r.drop _).take _,Heap.get?_push_size _ rfl⟩
theorem CallR.or {f:Value}{r b:n8->Hp->VK->Prop}(h:CallR X f r)(h':CallR X f b):CallR X f (fun xs H Q=>r xs H Q\/b xs H Q):=by
 intro c s d H xs e Q I a q
 rcases q with q | q
 ·exact h _ s _ H _ _ Q I a q
 ·exact h' _ s _ H _ _ Q I a q
theorem Z6:CallR X (.type "list") (fun xs H Q=>∃p k,xs=[.ref p]/\(SqL X.K H p k\/SqT X.K H p k)/\∀l,H l=none->Q (.ref l) (upd H l (.lst k))):=by
 intro z s σ H xs us Q I r h;obtain⟨p,k,rfl,f,q⟩:=h;obtain⟨u,rfl,A⟩:=vals1 r
 cases A
 have g:∀(a:List _),Vals _ _->k.length<=sizeLine->∀(d:Heap) (t:Nat),(∀b o',s.heap.get? b=some _->d.get? b=some _) ->
  d.get? _=some _->EP X _ _ Q _ { s with heap:=d }:=fun a c j d t i e =>
  ⟨.ref _,_,I.laid  i (aj _) (show z9 _ _ _ _ _ (.lst _) from ⟨j,a,t,c,e⟩),rfl,q _ (I.hok.fresh (aj _))⟩
 rcases f with f | f
 ·obtain⟨a,c,y,j⟩:=I.list f
  have m:=c.length;obtain⟨o,w,x,n,v⟩:=y.isList
  exact call_list_seq p (.inl rfl) w x v (fun d t i e=>g _ c j _ _ i e) (by simp_all)
 ·obtain⟨a,c,y,j⟩:=I.tuple f
  have m:=c.length;obtain⟨o,w,x,n,v⟩:=y
  exact call_list_seq p (.inr rfl) w x v (fun d t i e=>g _ c j _ _ i e) (by simp_all)
theorem Xw:CallR X (.type "tuple") (fun xs H Q=>∃p c,xs=[.ref p]/\((SqL X.K H p c/\∀l,H l=none->Q (.ref l) (upd H l (.tup c)))\/(SqT X.K H p c/\Q (.ref p) H))):=by
 intro i s σ H xs us Q I r h;obtain⟨p,c,rfl,h⟩:=h;obtain⟨u,rfl,w⟩:=vals1 r
 cases w
 rcases h with ⟨d,q⟩ | ⟨d,q⟩
 ·obtain⟨a,g,f,m⟩:=I.list d
  have k:=g.length
  refine call_tuple_list f.isList (fun j v=>?_) (by simp_all)
  have n:Inv X _ _ H { s with heap:=j }:=I.kept  v
  have t:Inv X _ _ (upd H _ (.tup _)) { s with heap:=j.push _ } :=
   n.laid  (fun b o e=>Heap.get?_push_of_some _ e) (aj _) (show z9 _ _ _ _ _ _ from ⟨m,a,g,zH.new _ _⟩)
  exact⟨.ref _,_,t,rfl,q _ (n.hok.fresh (aj _))⟩
 ·obtain⟨a,g,f,m⟩:=I.tuple d
  exact call_tuple_same f ⟨.ref p,H,I,rfl,q⟩
def tyV (K:v9)(T:String)(x:V)(H:Hp):Prop:=match x with
 | .str _=>T = "str"
 | .int _=>T = "int"
 | .ref p=>(T = "list" /\ ∃xs,SqL K H p xs)\/(T = "tuple" /\ ∃o,K.lookup p=some o/\o.cls=.type "tuple" /\ o.dict=none) \/
  (T = "dict" /\ ((∃kvs,H p=some (.dK kvs))\/∃kvs,H p=some (.dT kvs)))\/(T = "set" /\ ∃S n,H p=some (.set S n))\/(T = "tuple" /\ ∃xs,H p=some (.tup xs))
 | _=>False
theorem At7 {pins:y_}{l:St}{H:Hp}{s:u_}{T:String}{x:V}{v:Value}(I:Inv X pins l H s)(r:RelV x v)(ty:tyV X.K T x H) :
 s.TypeIs v T/\∀a,v=.ref a->∃ob,s.heap.get? a=some ob/\ob.dict=none:=by
 cases x with
 | str z =>
  obtain⟨t,rfl⟩:=r
  cases (ty)
  exact⟨typeIs_str s z t,fun _ e=>nomatch e⟩
 | int i =>
  obtain⟨t,rfl⟩:=r
  cases (ty)
  exact⟨typeIs_int s i t,fun _ e=>nomatch e⟩
 | ref p =>
  cases r
  rcases ty with ⟨rfl,m,u⟩ | ⟨rfl,o,b,q,k⟩ | ⟨rfl,b⟩ | ⟨rfl,S,n,b⟩ | ⟨rfl,m,b⟩
  ·obtain⟨h,_,j,_⟩:=I.list u
   refine⟨j.isList.typeIs,fun a e=>?_⟩
   obtain⟨o,n,e,c,k,_⟩:=j
   grind
  ·refine⟨⟨o,I.kIn p o b,q⟩,fun a e=>?_⟩
   cases e
   exact⟨o,I.kIn _ o b,k⟩
  ·have z:∃o,s.heap.get? p=some o/\o.ExactDict:=by
    rcases b with ⟨g,b⟩ | ⟨g,b⟩
    ·obtain⟨_,_,_,_,o,_,_,e,d,_⟩:=I.hok p _ b
     grind
    ·obtain⟨_,_,_,_,o,_,_,e,d,_⟩:=I.hok p _ b
     grind
   obtain⟨o,e,d⟩:=z
   refine⟨⟨o,e,d.1⟩,fun a f=>?_⟩
   cases f
   exact⟨o,e,d.2.1⟩
  ·obtain⟨o,_,_,_,e,d,_⟩:=I.hok p _ b
   refine⟨⟨o,e,d.1⟩,fun a f=>?_⟩
   cases f
   exact⟨o,e,d.2.1⟩
  ·obtain⟨_,h,_,o,e,c,_,dn⟩:=I.hok p _ b
   refine⟨⟨o,e,c⟩,fun a f=>?_⟩
   grind
 | _=>exact False.elim ty
def tBM (K:v9)(T:String)(r:V->n8->Hp->VK->Prop)(to:TE)(t:TA):TE:=fun σ H Q=>to σ H fun x H1=>tyV K T x H1/\t σ H1 fun xs H2=>r x xs H2 Q
variable {o e:Expr}{es:v_}{to:TE}{t:TA}{name:Str}{apos cpos:Pos}{T id:String}{r:V->n8->Hp->VK->Prop}
theorem Bl2 (pa:PlainAttrs T)(slot:Slot T name id)(hty:typeOf (.builtin id)=pure (.type "method_descriptor")) (hm:MtR X id r) (ho:PE X o to) (ha:PA X (e::es) t)
 (hbase:attributeBase o name X.env (eval o X.env)=eval o X.env:=by rfl)
 (hfew:((backTo cpos (starEach (e::es) X.env)).all (fun x=>!x.1)&&(backToKw cpos (keywordEach [] X.env)).all (fun x=>x.1.isSome)
  && decide ((e::es).length+([]:List Keyword).length+(if ([]:List Keyword).isEmpty then 0 else 1)<30))=true:=by rfl)
 (hline:(apos.endLine==cpos.line)=true:=by rfl) (hs:starEach (e::es) X.env=(false,eval e X.env)::starEach es X.env:=by rfl) (hplain:(backTo cpos (starEach es X.env)).any (·.1)=false:=by rfl) :
 PE X (.Call (.Attribute o name apos) (e::es) [] cpos) (tBM X.K T r to t):=by
 intro b s p H Q I h
 refine wpAny_Call_method_late hbase hfew hline rfl (thn (ho _ s _ H _ I h) fun v z ⟨x,y,c,a,j,k⟩=>?_)
 obtain⟨g,m⟩:=At7 c a j
 refine⟨T,id,pa,slot,hty,g,m,?_⟩
 have d:=ha cpos _ _ _ _ _ c k;rw[hs]at d ⊢
 refine Calls.callWith_builtin (by grind) (Calls.evalArgs_plain ?_)
 exact thn d fun i q ⟨u,w,l,n,f⟩=>hm _ _ _ _ x _ v i Q l a n f
end
def MtM (X:Cx)(id:String)(r:V->n8->Hp->VK->Prop):Prop :=
 ∀
  (pins:y_) (s:u_) (σ:St) (H:Hp) (x:V) (xs:n8) (v:Value) (us:w6) (Q:VK),Inv X pins σ H s->RelV x v->Vals xs us->r x xs H Q ->
  wpAny (model X.prog X.w) X.A (call (.builtin id) (v::us)) (EP X pins σ Q) X.xe s
theorem Vals.one:∀{x:V}{us:w6},Vals [x] us->∃u,us=[u]/\RelV x u
 | _,_,h=>by
  cases h with
  | cons r t=>cases t;exact⟨_,rfl,r⟩
theorem Vals.two:∀{x y:V}{us:w6},Vals [x,y] us->∃u v,us=[u,v]/\RelV x u/\RelV y v
 | _,_,_,h=>by
  cases h with
  | cons r t =>
   cases t with
   | cons q t=>cases t;exact⟨_,_,rfl,r,q⟩
theorem Vals.eraseIdx:∀{xs:n8}{us:w6}(i:Nat),Vals xs us->Vals (xs.eraseIdx i) (us.eraseIdx i)
 | _,_,_,.nil=>.nil
 | _,_,0,.cons _ t=>t
 | _,_,i+1,.cons r t=>.cons r (Vals.eraseIdx i t)
theorem Vals.reverse {xs:n8}{us:w6}(h:Vals xs us):Vals xs.reverse us.reverse:=by
 induction h with
 | nil=>exact .nil
 | cons r t a=>rw[dB,dB];exact Vals.append a (.cons r .nil)
theorem A2s {α:Type}:∀(l:List α) (i:Nat),(l.eraseIdx i).length<=l.length
 | [],_=>aj _
 | _::_,0=>dO _
 | _::r,i+1=>eU (A2s r i)
section
variable {X:Cx}{pins:y_}{σ:St}{H:Hp}{s:u_}{l b:Addr}{xs ys zs:n8}
theorem Inv.lset {a its':w6}{n:Nat}{f:v7->v7}{t':Nat}(I:Inv X pins σ H s)(c:H l=some (.lst xs))
 (e:s.heap.get? l=some { cls:=.type "list",data:=.seq a.toArray n }) (hf:f a.toArray=its'.toArray) (hv:Vals ys its') (hz:ys.length<=sizeLine) :
 Inv X pins σ (upd H l (.lst ys)) { s with heap:=s.heap.update l (Obj.mapSeq f),toks:=t' }:=by
 have q:=PySem.IsL.update e f;rw[hf]at q
 refine I.write   (by rw[c];trivial) (.inl rfl) (fun g u d b=>(Heap.get?_update_other _ _ (aU d)).trans b) ⟨_,q⟩ ?_
 exact⟨hz,its',_,hv,q⟩
theorem Inv.lnew {a:w6}{t':Nat}(I:Inv X pins σ H s)(hv:Vals ys a)(hz:ys.length<=sizeLine) :
 Inv X pins σ (upd H s.heap.objs.size (.lst ys)) { s with heap:=s.heap.push { cls:=.type "list",data:=.seq a.toArray },toks:=t' } :=
 I.laid (fun _ _ q=>Heap.get?_push_of_some _ q) (aj _) ⟨hz,a,0,hv,Heap.get?_push_size _ rfl⟩
theorem Inv.fresh (I:Inv X pins σ H s):H s.heap.objs.size=none:=I.hok.fresh (aj _)
theorem Inv.lstM (I:Inv X pins σ H s)(b:H l=some (.lst xs)):xs.length<=sizeLine/\∃(a:w6) (n:Nat),Vals xs a/\xs.length=a.length/\s.heap.get? l=some { cls:=.type "list",data:=.seq a.toArray n }:=by
 obtain⟨z,a,n,r,e⟩:=I.hok l _ b;exact⟨z,a,n,r,r.length,e⟩
end
section
variable {X:Cx}
def rAppend:V->n8->Hp->VK->Prop:=fun x vs H Q=>∃l xs y,x=.ref l/\vs=[y]/\H l=some (.lst xs)/\xs.length<sizeLine/\Q .non (upd H l (.lst (xs++[y])))
theorem A0x:MtM X "list.append" rAppend:=by
 intro a s σ H x vs v us Q I c f h;obtain⟨l,xs,y,rfl,rfl,b,hz,q⟩:=h
 cases c
 obtain⟨u,rfl,d⟩:=f.one;obtain⟨z,g,n,r,hl,e⟩:=I.lstM b
 refine call_meets F.slot_list_append ⟨_,e,rfl⟩ F.entry_list_append (F.args_list_append_2 _ _) (PySem.list_append l _ n u (by simp_all)) ⟨e,?_⟩
 refine⟨.non,_,I.lset  b e (by simp) (r.append (.cons d .nil)) ?_,rfl,q⟩
 grind
def rPopAt:V->n8->Hp->VK->Prop:=fun x vs H Q=>∃l xs i k y,x=.ref l/\vs=[.int i]/\H l=some (.lst xs)/\-(2 ^ 63)<=i/\i<2 ^ 63/\seqIndex? i xs.length=some k/\xs[k]?=some y/\Q y (upd H l (.lst (xs.eraseIdx k)))
theorem A5u:MtM X "list.pop" rPopAt:=by
 intro b s σ H x vs v us Q I f g h;obtain⟨l,xs,i,k,y,rfl,rfl,c,d,j,hk,o,q⟩:=h
 cases f
 obtain⟨u,rfl,m⟩:=g.one;obtain⟨t,rfl⟩:=m;obtain⟨z,p,n,r,hl,e⟩:=I.lstM c;obtain⟨w,hw,a⟩:=r.get o
 refine call_meets F.slot_list_pop ⟨_,e,rfl⟩ F.entry_list_pop (F.args_list_pop_2 _ _)
  (MeetsSeq.list_pop_at l _ n i t k w (fitsIndex_both d j) (by simp_all) (by simp_all) (by simp_all)) ⟨e,?_⟩
 refine⟨y,_,I.lset  c e ?_ (r.eraseIdx k) ?_,a,q⟩
 ·simp_all
 grind
def B2m:R2:=fun x y H Q=>∃l b xs zs,x=.ref l/\y=.ref b/\H l=some (.lst xs)/\H b=some (.lst zs)/\xs.length+zs.length<=sizeLine/\∀p,H p=none->Q (.ref p) (upd H p (.lst (xs++zs)))
theorem B0l:OpR X (binaryOp .Add) B2m:=by
 intro d s σ H x y v u Q I k g h;obtain⟨l,b,xs,zs,rfl,rfl,i,j,hz,q⟩:=h
 cases k
 cases g
 obtain⟨z,c,n,r,hl,e⟩:=I.lstM i;obtain⟨z2,a,n2,o,m,p⟩:=I.lstM j
 refine PySem.P.add_list e p ?_ (by grind)
 have f:c.toArray++a.toArray=(c++a).toArray:=by simp
 rw[f]
 exact⟨.ref _,_,I.lnew  (r.append o) (by simp_all),rfl,q _ I.fresh⟩
end
section
variable {κ:Type}[DecidableEq κ]
def X7 (kvs:List (κ×V))(k:κ):Option V:=(kvs.find? fun kv=>decide (kv.1=k)).map (·.2)
def putK (kvs:List (κ×V))(k:κ)(v:V):List (κ×V) :=
 if (kvs.any fun kv=>decide (kv.1=k))=true then kvs.map (fun kv=>if kv.1=k then (kv.1,v) else kv) else kvs++[(k,v)]
theorem V2 {p:κ×V}{r:List (κ×V)}{k:κ}(e:p.1=k):X7 (p::r) k=some p.2:=by simp[X7,e]
theorem Wr {p:κ×V}{r:List (κ×V)}{k:κ}(e:¬ p.1=k):X7 (p::r) k=X7 r k:=by simp[X7,e]
theorem KV.val {a:List (κ×V)}{vs:List (κ×Value)}(r:KV a vs)(k:κ):RelO (X7 a k) (valueAt vs k):=by
 induction r with
 | nil=>trivial
 | @cons p q j c h t i =>
  obtain⟨d,g⟩:=h
  by_cases e:p.1=k
  ·have b:valueAt (q::c) k=some q.2:=by simp[valueAt,(d.symm.trans e)]
   rw[V2 e,b];exact g
  ·have f:¬ q.1=k:=fun z=>e (d.trans z)
   have b:valueAt (q::c) k=valueAt c k:=by simp[valueAt,f]
   rw[Wr e];grind
theorem KV.any {a:List (κ×V)}{vs:List (κ×Value)}(r:KV a vs)(k:κ):(a.any fun b=>decide (b.1=k))=vs.any fun b=>decide (b.1=k):=by
 induction r with
 | nil=>rfl
 | cons h t c=>simp_all
theorem KV.repl {b:List (κ×V)}{vs:List (κ×Value)}(r:KV b vs)(k:κ){y:V}{u:Value}(d:RelV y u) :
 KV (b.map fun a=>if a.1=k then (a.1,y) else a) (vs.map fun a=>if a.1=k then (a.1,u) else a):=by
 induction r with
 | nil=>exact .nil
 | @cons p q e f h t c =>
  refine .cons ?_ c
  grind
theorem KV.put {a:List (κ×V)}{vs:List (κ×Value)}(r:KV a vs)(k:κ){y:V}{u:Value}(b:RelV y u):KV (putK a k y) (stored vs k u):=by
 unfold putK stored;rw[r.any k]
 by_cases e:(vs.any fun c=>decide (c.1=k))=true
 ·rw[if_pos e,if_pos e];exact r.repl k b
 ·rw[if_neg e,if_neg e];exact Paired.snoc r ⟨rfl,b⟩
end
theorem B3d {P:u6}{w:World}{k:Key}{u:Value}(r:RelV (kV k) u):(Gd P w).is k u=true:=by
 cases k with
 | inl i=>obtain⟨t,e⟩:=(r);subst e;exact Np P w i t
 | inr x=>obtain⟨t,e⟩:=(r);subst e;exact Nb P w x t
theorem B1n {A:t_}(hu:A.units+9<cLine):A.in1.units+8<cLine:=aQ (dR (rfl)) hu
abbrev KT (H:Hp):List (PyData×V)->List (PyData×Addr×Value)->Prop:=Paired fun p q=>p.1=q.1/\KAt H p.1 q.2.1/\RelV p.2 q.2.2
theorem KT.val {H:Hp}{a:List (PyData×V)}{xs:List (PyData×Addr×Value)}(r:KT H a xs)(k:t6):RelO (X7 a k) ((atKey xs k).map (·.2)):=by
 induction r with
 | nil=>trivial
 | @cons p q j c h t i =>
  obtain⟨d,_,g⟩:=h
  by_cases e:p.1=k
  ·have b:atKey (q::c) k=some q.2:=by simp[atKey,(d.symm.trans e)]
   rw[V2 e,b];exact g
  ·have f:¬ q.1=k:=fun z=>e (d.trans z)
   have b:atKey (q::c) k=atKey c k:=by simp[atKey,f]
   rw[Wr e];grind
theorem KT.keeps {H H':Hp}{a:List (PyData×V)}{xs:List (PyData×Addr×Value)}(r:KT H a xs)(ht:∀b ys,H b=some (.tup ys)->H' b=some (.tup ys)):KT H' a xs :=
 Paired.mapP r fun _ _ z=>⟨z.1,z.2.1.stay ht,z.2.2⟩
section
variable {P:u6}{w:World}{H:Hp}{h:Heap}{a:Addr}
theorem Fz {u:HO}(b:HOk P w H h)(e:Rd H a u):z9 P w H h a u:=e.ok b
theorem Bn3 {b:List (Key×V)}(c:HOk P w H h)(e:Rd H a (.dK b)):b.length<=sizeLine/\(a==sysModules)=false/\∃vs,KV b vs/\h.DictOf (Gd P w) a vs :=
 show z9 P w H h a _ from Fz c e
mutual
theorem Zc (ok:HOk P w H h):∀{d:t6}{v:V}{u:Value},KTr H d v->RelV v u->∃as,Reads h u d as
 | .none,_,u=>fun e r=>by
  cases (show _=V.non from e)
  cases (show u=Value.none from r)
  exact⟨_,.none⟩
 | .int i,_,u=>fun e r=>by
  cases (show _=V.int i from e)
  obtain⟨t,rfl⟩:=r;exact⟨_,.int i t⟩
 | .str x,_,u=>fun e r=>by
  cases (show _=V.str x from e)
  obtain⟨t,rfl⟩:=r;exact⟨_,.str x t⟩
 | .tuple ds,_,u=>fun e r=>by
  obtain⟨a,vs,rfl,ha,t⟩:=e
  cases (show u=Value.ref a from r)
  obtain⟨z,its,rv,o,e,c,⟨n,dt⟩,_⟩:=ok a _ ha;obtain⟨as,q⟩:=Wb ok t rv
  exact⟨_,.tuple e c dt (by simpa using q)⟩
 | .bool _,_,_=>fun e _=>False.elim e
 | .list _,_,_=>fun e _=>False.elim e
 | .dict _,_,_=>fun e _=>False.elim e
theorem Wb (ok:HOk P w H h):∀{ds:w5}{vs:n8}{us:w6},KTrL H ds vs->Vals vs us->∃as,ReadsAll h us ds as
 | [],_,us=>fun e r=>by
  cases (show _=[] from e)
  cases r
  exact⟨_,.nil⟩
 | d::ds,_,us=>fun e r=>by
  obtain⟨v,vs,rfl,hv,t⟩:=e
  cases r with
  | cons r1 r2 =>
   obtain⟨as,q⟩:=Zc ok hv r1;obtain⟨bs,p⟩:=Wb ok t r2;exact⟨_,.cons q p⟩
end
theorem Af0 {k:t6}(b:HOk P w H h)(e:KAt H k a):(Dw P w).is h k a:=⟨e.1,Zc b e.2 (show RelV _ _ from rfl)⟩
theorem Bn5 {b:List (PyData×V)}(f:HOk P w H h)(e:Rd H a (.dT b)):b.length<=sizeLine/\(a==sysModules)=false /\
 ∃c,KT H b c/\h.DictOfH (Dw P w) a c:=by
 obtain⟨z,y,c,r,o,v,i,j,k,g,s,u⟩:=(show z9 P w H h a _ from Fz f e)
 refine⟨z,y,c,r,o,v,i,j,k,g,s,fun x d=>?_,u⟩
 have n:∀{l:List _} {m:List _},KT H l m->∀x∈m,(Dw P w).is h x.1 x.2.1:=by
  intro l m q
  induction q with
  | nil=>simp_all
  | @cons p q B C D t A =>
   intro x d
   rcases az.mp d with e | d
   ·exact Af0 f (by grind)
   grind
 grind
end
def Bu9 (H:Hp)(a:Addr)(y:V)(r:Option V):Prop :=
 (∃kvs k,Rd H a (.dK kvs)/\y=kV k/\r=X7 kvs k)\/∃kvs k b,Rd H a (.dT kvs)/\y=.ref b/\KAt H k b/\r=X7 kvs k
section
variable {X:Cx}{pins:y_}{σ:St}{H:Hp}{s:u_}{a:Addr}{y v:V}{u r:Value}{o:Option V}{A:t_}{E:z_}
theorem Inv.big (I:Inv X pins σ H s):sysModules<s.heap.objs.size:=by
 exact cZ (by decide) ((I.mod.glob.keeps I.bk).lt)
theorem A2y {Q:z_}(hu:A.units+9<cLine)(I:Inv X pins σ H s)(g:Bu9 H a y (some v))(q:RelV y u)(h:∀f s',Inv X pins σ H s'->RelV v f->Q f s') :
 wpAny (model X.prog X.w) A (getItem (.ref a) u) Q E s:=by
 rcases g with ⟨m,k,e,n,l⟩ | ⟨m,k,b,e,n,r,l⟩
 ·subst n
  obtain⟨z,w,x,d,j⟩:=Bn3 I.hok e
  obtain⟨f,o,c⟩:=RelO.some_of   (by rw[l];exact d.val k)
  exact wpAny_getItem_of (B3d q) j.mapOf o (h _ _ (I.tok _) c)
 ·subst n
  cases (q)
  obtain⟨z,w,B,d,j⟩:=Bn5 I.hok e
  obtain⟨f,o,c⟩:=RelO.some_of   (by rw[l];exact d.val k)
  obtain⟨p,t,i⟩:=aO.mp o
  refine wpAny_getItem_heap ((B1n hu)) (Af0 I.hok r) j t ?_
  rw[i];exact h _ _ (I.tok _) c
end
def Bu1 (i:Expr):Prop:=∀ov iv,subscripted i false ov iv=operate [ov,iv] (getItem ov iv)
theorem Bc5 {prog:u6}{w:World}{A:t_}{E:z_}{s:u_}{env:Env}{b a:Expr}{k:Pos}{T id:String}{Q:z_}
 (hl:typeLookup (.type T) "__getitem__" = pure (some (.builtin id))) (hs:Bu1 a)
 (h:wpAny (model prog w) A (eval b env) (fun o e=>wpAny (model prog w) A (eval a env) (fun i c=>c.TypeIs o T/\wpAny (model prog w) A (getItem o i) Q E c) E e) E s) :
 wpAny (model prog w) A (eval (.Subscript b a k) env) Q E s:=by
 refine Subscript_ (wpAny_mono h (fun o e j=>wpAny_mono j (fun i c d=>?_) fun _ _ x=>x) fun _ _ x=>x)
 obtain⟨m,d⟩:=d
 refine wpAny_bind ?_
 refine wpAny_bind (wpAny_specialOf m hl ?_)
 have l:wpAny (model prog w) A (subscripted a false o i) (fun r f=>wpAny (model prog w) A (letTemporaryGo b o r >>= fun _=>pure r) Q E f) E c:=by
  rw[hs o i]
  exact wpAny_operating (wpAny_mono d (fun r f g=>wpAny_bind (wpAny_letTemporaryGo (wpAny_pure g))) fun _ _ x=>x)
 first
  | exact wpAny_pure (wpAny_bind l)
  | simp_all
  | trivial
theorem Ai1 {X:Cx}{pins:y_}{f:St}{H:Hp}{s:u_}{a:Addr}{y:V}{o:Option V}(I:Inv X pins f H s)(g:Bu9 H a y o):s.TypeIs (.ref a) "dict" := by
 rcases g with ⟨d,k,e,_,_⟩ | ⟨d,k,b,e,_,_,_⟩
 ·obtain⟨_,_,i,_,c⟩:=Bn3 I.hok e
  exact c.typeIs
 ·obtain⟨_,_,h,_,c⟩:=Bn5 I.hok e
  exact c.typeIs
def A9j (td ty:TE):TE:=fun σ H Q=>td σ H fun x H1=>ty σ H1 fun y H2=>∃a v,x=.ref a/\Bu9 H2 a y (some v)/\Q v H2
section
variable {X:Cx}{o i e value:Expr}{pos pos' tpos:Pos}{td ty tv:TE}
theorem Bk1 (hu:X.A.units+9<cLine)(ho:PE X o td)(hi:PE X i ty)(hs:Bu1 i):PE X (.Subscript o i pos) (A9j td ty):=by
 intro c s σ H Q I h
 refine Bc5 PySem.F.slot_dict_getitem.lookup hs (thn (ho _ s _ H _ I h) fun u s1 ⟨x,H1,f,j,k⟩=>thn (hi _ _ _ _ _ f k) fun iv s2 ⟨y,l,d,e,a,v,n,g,m⟩=>?_)
 subst n;obtain rfl:u=Value.ref a:=j
 exact⟨Ai1 d g,A2y hu d g e fun w' s3 p b=>⟨v,l,p,b,m⟩⟩
end
end L2
namespace Att
open PySem PySem.W PySem.Calls PyProof.Rows
theorem Vb {P:Params}{h:Heap}:∀(ns:List Int) (vs:w6),WellAll P h vs (ns.map WData.int)->IntsAre vs ns:=by
 intro ns
 induction ns with
 | nil =>
  intro vs w
  cases w
  exact .nil
 | cons n ns c =>
  intro vs w
  cases w with
  | cons a b =>
   cases a
   exact .cons _ _ (c _ b)
theorem A1w {l:OpenLaw}{n:Nat}(hn:l.most=some n){P:Params}{h:Heap}{args:List WData}{vals:w6}
 (hpre:l.row.toRowW.claim.pre args=true) (hwl:WellAll P h vals args) :
 ∃a vs ns,vals=[Value.ref a]/\args=[WData.list (ns.map WData.int)]/\h.get? a=some { cls:=.type "list",data:=.seq vs.toArray }/\IntsAre vs ns/\ns.length<=n:=by
 have hsh:WShape.hasAll [] args [.list .int]=true:=(pre_splitW hpre).1;have hc:l.pre.holds [] { args:=args }=true:=(pre_splitW hpre).2;obtain⟨d,r,rfl,h1,h2⟩:=hasAllW_cons hsh;obtain rfl:=hasAllW_nil h2;obtain⟨xs,rfl,h3⟩:=hasW_list h1;obtain⟨ns,rfl⟩:=items_int h3
 have hlen:ns.length<=n:=by
  unfold OpenLaw.pre at hc
  have h4:(WTm.not (.lt (.lit (.int (n:Int))) (.len (.arg 0)))).holds [] { args:=[.list (ns.map .int)] }=true:=by
   have h4:=(holds_andW hc).1;rw[hn]at h4;exact h4
  have h5:=condW_of h4 (w_not (w_lt w_lit (w_len_list (w_arg rfl))));rw[ak]at h5
  refine eV fun q=>?_
  have q':(n:Int)<((ns.length:Nat):Int):=by omega
  first
   | (rw[aD q']at h5;exact absurd h5 (by decide))
   | (simp at h5;omega)
 cases hwl with
 | cons w1 w2 =>
  cases w2
  cases w1 with
  | list ho hall=>exact⟨_,_,ns,rfl,rfl,ho,Vb ns _ hall,hlen⟩
theorem A2q (l:OpenLaw)(args:List WData):l.row.toRowW.claim.post args (.bool true) args=true :=
 postW_of  
  (show WShape.has _ _ _=true by rfl)
  (show (WTm.eq _ _).value _ _=some _ from w_eq_bool (w_res rfl) w_lit) rfl
theorem Ag0 {l:OpenLaw}{n:Nat}{q:u6}{loose:v4}{XP:(x_)->Heap->Prop}{YP:World->Heap->Prop}{d:DefRec}
 (hn:l.most=some n) (t:d.params.defaults=[])
 (i:∀(w:World) (c b:u_) (mg B:x_) (fa:Addr) (o:Obj) (z v h:Value) (a:Addr) (vs:w6) (ns:List Int),
  Ground q loose [] XP w c mg B b.heap->YP w b.heap ->
  b.heap.get? fa=some o->o.data=.func (docDef d.name d.params d.body d.scope z v h)->b.heap.CodeRec v d.name->mg d.name=some (.ref fa) ->
  b.heap.get? a=some { cls:=.type "list",data:=.seq vs.toArray }->IntsAre vs ns->ns.length<=n->b.gens=#[] ->
  codeAny (model l.prog w) callerA (.call (.ref fa) ⟨[.ref a],[]⟩) (fun r s'=>r=.ok (.ret (.bool true))/\OldK b.heap s'.heap/\s'.os=b.os/\AllBare s'.gens) b) :
 WalkO q loose XP YP l.row.toRowW d [] (fun f vs=>PySem.call f vs):=by
 intro w c b mg B G Y fa o z v h M H J K u C m D x A as g y F p I;obtain rfl:M=.none:=Dflts.none C t;obtain rfl:H=.none:=Dflts.noKw C;obtain⟨a,vs,ns,rfl,rfl,j,e,k⟩:=A1w hn g p
 refine enter_call (codeAny_mono (i w _ _ _ _ _ o _ _ _ a _ _ G Y J (fd_plain K) u m j e k D) fun r s' N=>?_)
 obtain⟨rfl,L,O,P⟩:=N
 exact⟨.inl ⟨.bool _,.bool _,[],rfl,fun _=>rfl,.bool _,A2q l _,fun _=>⟨List.Pairwise.nil,fun _ E=>nomatch E⟩⟩,L,O,P⟩
end Att
namespace L2
open PySem PySem.Spec PyProof.Rows
theorem Y9:∀{vs:w6}{ns:List Int},IntsAre vs ns->Vals (ns.map V.int) vs
 | _,_,.nil=>.nil
 | _,_,.cons n t h=>.cons ⟨t,rfl⟩ (Y9 h)
def Ly (s:Stmt):Arguments:=match s with
 | .FunctionDef _ a _ _ _ _ _ _ _ _=>a
 | _=>{ posonlyargs:=[],args:=[],vararg:=none,kwonlyargs:=[],kw_defaults:=[],kwarg:=none,defaults:=[] }
def Ji (s:Stmt):List Stmt:=match s with
 | .FunctionDef _ _ b _ _ _ _ _ _ _=>b
 | _=>[]
def Aw (s:Stmt):Scope:=match s with
 | .FunctionDef _ _ _ _ _ _ sc _ _ _=>sc
 | _=>{ kind:=.function,names:=[],isGenerator:=false,isCoroutine:=false }
abbrev CX0:CXT:=fun _ _ _ _ _ _=>False
abbrev E0:XK:=fun _ _ _=>False
theorem B1s {X:Cx}:Wi CX0 X E0:=fun _ _ _ _ _ _ _ h=>h.elim
structure Fun (K:v9) (x qual:Str) (st:Stmt) (f:Addr) (fd:u5):Prop where
 ex:∃(oc:Value) (od:Option Addr) (kV doc pm:Value) (an:Option Addr) (cdv ct:Value) (osl:Array (u9)),
  fd=PySem.W.fnOf x qual (Ly st) (Ji st) (Aw st) .none kV doc pm an cdv ct/\K.lookup f=some ⟨oc,od,.func fd,osl⟩/\PySem.W.codeIn K cdv qual=true
 kp:PySem.W.keepIn K (.ref f)=true
section
variable {P:u6}{w:World}{K:v9}{mg:x_}{base:Heap}
theorem Fun.ok {x qual:Str}{st:Stmt}{f:Addr}{i:u5}{N ps:v4}{k:Nat}{sp:Sp}(F:Fun K x qual st f i)(S:Bm N ps (Aw st))(g:∀vs H Q E,sp vs H Q E->vs.length=ps.length)
 (b:∀(c:Value) (A:t_) (a:List Env) (s:u_) (H:Hp) (vs:n8) (Q:VK) (E:XK),Room k (A.deeper (envOfC qual (Aw st) s.heap.objs.size f c))->sp vs H Q E ->
  ∃t,PSs (Au7 CX0 P w K mg base N qual (Aw st) f c A a s H E).nox (Ji st) t/\t { nx:=fun _ H'=>Q .non H',rt:=Q } (start N vs) H):FnOk P w K mg base CX0 (k+1) f i ps sp:=by
 obtain⟨oc,od,kV,l,pm,an,c,ct,j,rfl,m,e⟩:=F.ex
 refine Bl7 m e S g fun A a s H vs Q E n d=>?_
 obtain⟨t,h,q⟩:=b _ A _ s H _ Q E n d;exact⟨t,h.nox,q⟩
theorem Fun.binds {x qual:Str}{st:Stmt}{f:Addr}{d:u5}{ps:v4}(F:Fun K x qual st f d)
 (h:∀(i b e:Value) (g:Option Addr) (a c:Value) (us:w6),us.length=ps.length->bindArgs (PySem.W.fnOf x qual (Ly st) (Ji st) (Aw st) .none i b e g a c) ⟨us,[]⟩=pure (ps.zip us)):Binds K d ps []:=by
 obtain⟨oc,od,i,b,e,g,a,c,k,rfl,lk,j⟩:=F.ex;exact .all (h _ _ _ _ _ _)
end
section
variable {X:Cx}
theorem pv (i:Nat){x:Str}{a:Pos}(hN:X.N[i]?=some x:=by rfl)(hv:Vis X.env.scope x:=by first | exact Or.inl rfl | exact Or.inr (Or.inl rfl) | exact Or.inr (Or.inr rfl))(hd:(x==("__debug__" : Str))=false:=by decide)
 (hcd:(x==("__classdict__" : Str))=false:=by decide):PE X (.Name x a) (Bc6 i):=A8y hN hv hd hcd
end
def Same (H H':Hp):Prop:=∀b o,H b=some o->H' b=some o
theorem Same.refl (H:Hp):Same H H:=fun _ _ h=>h
theorem Same.trans {H e d:Hp}(a:Same H e)(b:Same e d):Same H d:=fun c o h=>b c o (a c o h)
theorem Same.free {H H':Hp}(e:Same H H'){l:Addr}(h:H' l=Option.none):H l=Option.none:=by
 cases q:H l with
 | none=>rfl
 | some o =>
  rw[e l o q]at h
  grind
theorem Same.seq {K:v9}{H H':Hp}{a:Addr}{xs:n8}(e:Same H H')(h:SqL K H a xs):SqL K H' a xs:=by
 rcases h with (h | ⟨o,h⟩) | h
 ·exact .inl (.inl (e _ _ h))
 ·exact .inl (.inr ⟨o,e _ _ h⟩)
 ·exact .inr h
end L2
set_option maxHeartbeats 4000000
namespace L2
open PySem PySem.Spec PyProof.Rows
abbrev Gh (X:Cx)(N':v4)(scope:Scope)(cl:List (Str×Addr))(C:Addr)(s₀:u_)(H₀:Hp)(ex:v6):Cx :=
 { X with N:=N',env:=compEnvC scope cl C X.env,s₀:=s₀,H₀:=H₀,outer:=X.stack,stack:=X.stack,ex:=ex,fn:=fun x=>decide (scope.names.lookup x=some .local\/scope.names.lookup x=some .cell),pn:=[],xe:=fun _ _=>False }
def cst (idx:p6)(σ:St):St:=idx.map fun o=>o.bind fun i=>(σ[i]?).join
structure Jo (X:Cx) (N':v4) (idx:p6) (scope:Scope):Prop where
 kind:scope.kind=.function
 nod:(scope.names.map (·.1)).Nodup
 free:∀y∈scope.names,y.2=.free->X.env.kindOf y.1=some .cell\/X.env.kindOf y.1=some .free
 len:idx.length=N'.length
 at':∀(j i:Nat) (x:Str),N'[j]?=some x->idx[j]?=some (some i)->X.N[i]?=some x/\scope.names.lookup x=some .free
structure Sv (X:Cx) (N':v4) (idx:p6) (scope:Scope):Prop extends Jo X N' idx scope where
 cell:∀y∈scope.names,y.2≠.cell
theorem Ks (env:Env):∀(names:List (Str×NameKind)) (acc:List (Str×Addr)),(∀y∈names,y.2=.free->∃c,env.cells.lookup y.1=some c) ->
 ∃
  cl,(forIn names acc fun (p:Str×NameKind) (r:List (Str×Addr))=>(if (p.2==NameKind.free)=true then (do let c <- cellOf env p.1;pure (ForInStep.yield ((p.1,c)::r))) else pure (ForInStep.yield r):Sem (ForInStep (List (Str×Addr)))))=(pure cl:Sem (List (Str×Addr))) /\
  (∀x c,cl.lookup x=some c->acc.lookup x=some c\/(env.cells.lookup x=some c/\(x,NameKind.free)∈names))/\(∀x,((∃c,acc.lookup x=some c)\/(x,NameKind.free)∈names)->∃c,cl.lookup x=some c)
 | [],acc,_=>⟨acc,rfl,fun x c e=>.inl e,fun x h=>by
  rcases h with h | h
  ·exact h
  ·simp at h⟩
 | (n,k)::r,acc,h=>by
  by_cases hk:k=NameKind.free
  ·subst hk
   obtain⟨c,hc⟩:=h (n,.free) (by simp) rfl
   obtain⟨cl,e,a,b⟩:=Ks env r ((n,c)::acc) fun y hy=>h y (aW _ hy)
   refine⟨cl,?_,fun x c' e'=>?_,fun x hx=>?_⟩
   ·rw[dU]
    simp only[cellOf,hc];exact e
   ·rcases a x c' e' with z | ⟨z1,z2⟩
    ·rw[aZ]at z
     split at z
     ·rename_i hxe
      have:x=n:=by simpa using hxe
      subst this
      cases z
      exact .inr ⟨hc,by simp⟩
     ·exact .inl z
    ·exact .inr ⟨z1,aW _ z2⟩
   ·refine b x ?_
    rcases hx with ⟨c',z⟩ | z
    ·left
     rw[aZ]
     split
     ·exact⟨_,rfl⟩
     ·exact⟨_,z⟩
    ·rcases az.mp z with z | z
     ·left
      cases z
      exact⟨c,by simp⟩
     ·exact .inr z
  ·obtain⟨cl,e,a,b⟩:=Ks env r acc fun y hy=>h y (aW _ hy)
   refine⟨cl,?_,fun x c' e'=>?_,fun x hx=>?_⟩
   ·rw[dU]
    have:(k==NameKind.free)=false:=by cases k <;> first | rfl | exact absurd rfl hk
    simp only[this];exact e
   ·rcases a x c' e' with z | ⟨z1,z2⟩
    ·exact .inl z
    ·exact .inr ⟨z1,aW _ z2⟩
   ·refine b x ?_
    rcases hx with z | z
    ·exact .inl z
    ·rcases az.mp z with z | z
     ·cases z;exact absurd rfl hk
     ·exact .inr z
theorem Px {env:Env}{scope:Scope}(h:∀y∈scope.names,y.2=.free->∃c,env.cells.lookup y.1=some c) :
 ∃d,closureFor scope env=pure d/\(∀x c,d.lookup x=some c->env.cells.lookup x=some c/\(x,NameKind.free)∈scope.names)/\(∀x,(x,NameKind.free)∈scope.names->∃c,d.lookup x=some c):=by
 obtain⟨d,e,a,b⟩:=Ks _ _ [] h
 refine⟨d,?_,fun x c g=>?_,fun x f=>b x (.inr f)⟩
 ·unfold closureFor
  grind
 simp_all
abbrev Be0 (ifs:v_)(env:Env):Sem Bool:=forIn ifs true fun c r=>if r=true then do let ok <- isTrue c env (eval c env);pure (ForInStep.yield ok) else pure (ForInStep.yield r)
def Bq9 (M:Model)(A:t_)(E:z_)(tg elt:Expr)(ifs:v_)(env:Env)(it acc v:Value)(Z:u_->Prop)(s:u_):Prop :=
 wpAny M A (letOwnedTupleGo tg it v) (fun _ a=>wpAny M A (assign tg env v) (fun _ b=>wpAny M A (Be0 ifs env) (fun ok c=>match ok with
  | true=>wpAny M A (eval elt env) (fun x d=>wpAny M A (call (.builtin "list.append") [acc,x]) (fun _ z=>Z z) E d) E c
  | false=>Z c) E b) E a) E s
theorem Bf1 {P:u6}{w:World}{A:t_}{R:Result->u_->Prop}{i o f:Expr}{j:v_}{p:Scope}{l:Pos}{it acc:Value}{env:Env}{E:z_}(C:E=notedBy (model P w) A env fun x z=>R (.error x) z)(Wd:Nat->u_->Prop)
 (step:∀n z,Wd n z->wpAny (model P w) A (pyNext it) (fun r a=>match r with
  | none=>R (.ok .next) a
  | some v=>Bq9 (model P w) A E o i j env it acc v (fun y=>∃m,m<n/\Wd m y) a) E z) (n:Nat) {s:u_} (h:Wd n s) :
 codeAny (model P w) A (.compLoop (.ListComp i [⟨o,f,j,0⟩] p l) 0 it acc env) R s:=by
 subst C
 refine codeAny_loop (I:=Wd) rfl (turn:=?_) n h
 intro k z G
 show wpAny (model P w) A (Sem.onRaise (compTurn (.ListComp i [⟨o,f,j,0⟩] p l) 0 it acc env) fun x=>do noteFrame x env;theTreesLotGoes x) _ _ z
 apply wpAny_noted;rw[compTurn_list];apply wpAny_bind;apply wpAny_standAt;apply wpAny_bind
 refine wpAny_mono (step k z G) ?_ fun _ _ q=>q
 rintro (_ | v) a u
 ·exact wpAny_pure u
 apply wpAny_bind
 refine wpAny_mono u ?_ fun _ _ q=>q
 intro _ b D;apply wpAny_bind
 refine wpAny_mono D ?_ fun _ _ q=>q
 intro _ c F;apply wpAny_bind
 refine wpAny_mono F ?_ fun _ _ q=>q
 rintro (_ | _) d t
 ·exact wpAny_pure (And.intro rfl t)
 apply wpAny_bind;apply wpAny_bind
 refine wpAny_mono t ?_ fun _ _ q=>q
 intro y e H;apply wpAny_bind
 refine wpAny_mono H ?_ fun _ _ q=>q
 intro _ g B;exact wpAny_pure (wpAny_pure (And.intro rfl B))
def PTs (X:Cx)(ifs:v_)(t:TT):Prop :=
 ∀
  (pins:y_) (s:u_) (σ:St) (H:Hp) (Q:Bool->Hp->Prop),Inv X pins σ H s->t σ H Q ->
  wpAny (model X.prog X.w) X.A (forIn ifs true fun c r=>if r=true then do let ok <- isTrue c X.env (eval c X.env);pure (ForInStep.yield ok) else pure (ForInStep.yield r)) (TP X pins σ Q) X.xe s
def Bx6:TT:=fun _ H Q=>Q true H
theorem Bb3 {X:Cx}:PTs X [] Bx6:=fun _ _ _ H _ I h=>wpAny_tests_nil ⟨H,I,h⟩
theorem Bb2 {X:Cx}{c:Expr}{t:TT}(h:PT X c t):PTs X [c] t:=fun a s b H Q I q=>wpAny_tests_one (h _ s _ H Q I q)
def tLC (idx:p6)(wi:TI)(g:TG)(tc:TT)(te:TE):TE:=fun σ H Q=>wi σ H fun J H1 =>
 ∃
  W:Nat->Nat->St->n8->Hp->Prop,(∃m,W 0 m (cst idx σ) [] H1)/\∀i m σ' acc H,W i m σ' acc H ->
  (J.stop i H/\∀p,H p=none->Q (.ref p) (upd H p (.lst acc))) \/
  (J.go i H/\acc.length<sizeLine/\∃N:St->n8->Hp->Prop,(∀σ' acc' H',N σ' acc' H'->∃m',m'<m/\W (i+1) m' σ' acc' H')/\∀x H',J.yld i H x H'->g x σ' H' fun σ2 H2=>tc σ2 H2 fun b H3 =>
   if b=true then te σ2 H3 fun y H4=>N σ2 (acc++[y]) H4 else N σ2 acc H3)
theorem HOk.track {P:u6}{w:World}{H:Hp}{h:Heap}{a:Addr}{o:HO}(x:HOk P w H h)(hn:H a=none)(f:z9 P w (upd H a o) h a o):HOk P w (upd H a o) h:=fun b u e=>by
 by_cases hb:b=a
 ·subst hb;rw[Cq]at e;simp_all
 ·rw[Bb hb]at e
  exact(x b u e).stay (fun c v _ q=>q) fun c q=>by rw[Bb (By q hn)];grind fun c d q=>by rw[Bb (By q hn)];grind fun c g d q=>by rw[Bb (By q hn)];grind
theorem Jg {env:Env}:∀{names:List (Str×NameKind)}{x:Str},names.lookup x=some .free ->
 (names.map fun (n,k)=>if (k==NameKind.free&&env.scope.kind==.function&&env.kindOf n==some .cell) then (n,NameKind.cell) else (n,k)).lookup x=some .free \/
 (names.map fun (n,k)=>if (k==NameKind.free&&env.scope.kind==.function&&env.kindOf n==some .cell) then (n,NameKind.cell) else (n,k)).lookup x=some .cell
 | [],_,h=>by simp at h
 | (n,k)::r,x,h=>by
  have ih:=@Jg env r x;simp only[aP]
  cases hx:x==n with
  | true =>
   simp only[aZ,hx]at h
   cases h
   split
   ·right;simp[aZ,hx]
   ·left;simp[aZ,hx]
  | false =>
   simp only[aZ,hx]at h
   split
   ·simp only[aZ,hx];exact ih h
   ·simp only[aZ,hx];exact ih h
theorem Mt {env:Env}:∀{names:List (Str×NameKind)}{x:Str}{k:NameKind},
 (names.map fun (n,k)=>if (k==NameKind.free&&env.scope.kind==.function&&env.kindOf n==some .cell) then (n,NameKind.cell) else (n,k)).lookup x=some k ->
 names.lookup x=some k\/(k=.cell/\names.lookup x=some .free)
 | [],_,_,h=>by simp at h
 | (n,k')::r,x,k,h=>by
  have ih:=@Mt env r x k;simp only[aP]at h
  cases hx:x==n with
  | true =>
   by_cases hc:(k'==NameKind.free&&env.scope.kind==.function&&env.kindOf n==some .cell)=true
   ·rw[if_pos hc]at h
    simp only[aZ,hx]at h
    cases h
    right
    refine⟨rfl,?_⟩
    simp only[aZ,hx]
    have:k'=.free:=by
     simp only[cJ]at hc;exact cX hc.1.1
    rw[this]
   ·rw[if_neg hc]at h
    simp only[aZ,hx]at h ⊢;exact .inl h
  | false =>
   simp only[aZ,hx]
   refine ih ?_
   by_cases hc:(k'==NameKind.free&&env.scope.kind==.function&&env.kindOf n==some .cell)=true
   ·rw[if_pos hc]at h;simpa only[aZ,hx] using h
   ·rw[if_neg hc]at h;simpa only[aZ,hx] using h
theorem lookup_mem {α:Type}:∀{l:List (Str×α)}{x:Str}{k:α},l.lookup x=some k->(x,k)∈l
 | [],_,_,h=>by simp at h
 | (n,k')::r,x,k,h=>by
  rw[aZ]at h
  split at h
  ·rename_i e
   have:x=n:=by simpa using e
   subst this
   cases h
   simp
  ·exact aW _ (lookup_mem h)
theorem mem_lookup {α:Type}:∀{l:List (Str×α)}{x:Str}{k:α},(l.map (·.1)).Nodup->(x,k)∈l->l.lookup x=some k
 | [],_,_,_,h=>by simp at h
 | (n,k')::r,x,k,hn,h=>by
  have hn:(n::r.map (·.1)).Nodup:=hn
  obtain⟨h1,h2⟩:=bH.mp hn
  rcases az.mp h with h | hr
  ·cases h;simp
  ·rw[aZ]
   split
   ·rename_i e
    have:x=n:=by simpa using e
    subst this
    exact absurd (show x∈r.map (·.1) from au.mpr ⟨(x,k),hr,rfl⟩) h1
   ·exact mem_lookup h2 hr
section
variable {X:Cx}{N':v4}{idx:p6}{scope:Scope}
theorem Bb6 {pins:y_}{σ:St}{H:Hp}{s:u_}{fp:v6}{cl:List (Str×Addr)}{C:Addr}(L:Jo X N' idx scope)(I:Inv X pins σ H s)(hf:∀b∈fp,U8 X pins H b)(hfs:∀b∈fp,b<s.heap.objs.size)
 (hC:s.heap.objs.size<=C) (c1:∀x c,cl.lookup x=some c->(X.env.cells.lookup x=some c/\(x,NameKind.free)∈scope.names)\/(s.heap.objs.size<=c/\(x,NameKind.cell)∈scope.names)) (c2:∀x,((x,NameKind.free)∈scope.names\/(x,NameKind.cell)∈scope.names)->∃c,cl.lookup x=some c) (c3:∀x y c,cl.lookup x=some c->cl.lookup y=some c->x=y) :
 (Gh X N' scope cl C s H fp).Ok where
 mod:=I.ok.mod
 kind:=L.kind
 glob:=I.ok.glob
 blt:=I.ok.blt
 above:=hC
 inj:=c3
 has:=fun x h=>by
  refine c2 x ?_
  have h':(relabel scope X.env).names.lookup x=some .cell\/(relabel scope X.env).names.lookup x=some .free:=h
  rcases h' with h | h
  ·rcases Mt h with z | ⟨_,z⟩
   ·exact .inr (lookup_mem z)
   ·exact .inl (lookup_mem z)
  ·rcases Mt h with z | ⟨z,_⟩
   ·exact .inl (lookup_mem z)
   ·cases z
 cab:=fun x c hx hc=>by
  have hx':scope.names.lookup x=some .local\/scope.names.lookup x=some .cell:=aL hx
  rcases c1 x c hc with ⟨_,z⟩ | ⟨z,_⟩
  ·have z:=mem_lookup L.nod z
   rw[z]at hx'
   rcases hx' with hx' | hx' <;> cases hx'
  ·exact z
 hd:=I.ok.hd
 frames:=I.ok.frames
 stk:=.inl rfl
 exf
  := fun b hb=>⟨aC (aA (hfs b hb) hC),fun x c e=>by
  rcases c1 x c e with ⟨z,_⟩ | ⟨z,_⟩
  ·exact(hf b hb).2.2.2.2.1 x c z
  ·exact bB (aA (hfs b hb) z)⟩
 bs:=I.bs
 bsz:=ao I.ok.bsz I.sz
 noex:=fun b o e hb=>by
  rcases (hf b hb).2.2.2.1 with z | z
  ·exact I.ok.noex b o e z
  ·exact absurd (aA (Heap.lt_size e) (ao I.ok.bsz z)) (bf _)
 exfs:=fun b hb z=>by
  rcases az.mp (I.stkSub b z) with q | q
  ·exact(hf b hb).2.1 q
  ·exact(hf b hb).2.2.1 q
 funs:=I.stack
 frf:=I.stkFree
 tab:=fun p hp=>I.base.tbls p.1 p.2 (I.ok.tab p hp)
theorem A8l {pins:y_}{σ:St}{H:Hp}{s s':u_}{fp:v6}{cl:List (Str×Addr)}{C:Addr}{m:x_}(L:Jo X N' idx scope)(I:Inv X pins σ H s)(hf:∀b∈fp,U8 X pins H b)(hfs:∀b∈fp,b<s.heap.objs.size)
 (hC:s.heap.objs.size<=C) (c1:∀x c,cl.lookup x=some c->(X.env.cells.lookup x=some c/\(x,NameKind.free)∈scope.names)\/(s.heap.objs.size<=c/\(x,NameKind.cell)∈scope.names)) (c2:∀x,((x,NameKind.free)∈scope.names\/(x,NameKind.cell)∈scope.names)->∃c,cl.lookup x=some c) (c3:∀x y c,cl.lookup x=some c->cl.lookup y=some c->x=y) (c4:∀x c,cl.lookup x=some c->(x,NameKind.cell)∈scope.names->s'.heap.IsCell c none)
 (ho:s'.os=s.os) (hg:s'.gens=s.gens) (k:∀b o,s.heap.get? b=some o->s'.heap.get? b=some o) (hn:s'.heap.Ns C m):Inv (Gh X N' scope cl C s H fp) [] (cst idx σ) H s' where
 ok:=Bb6 L I hf hfs hC c1 c2 c3
 os:=ho
 bare:=by rw[hg];exact I.bare
 base:=Un.kept k
 loc:=by
  refine⟨m,hn,fun j x v e1 e2 e3=>?_⟩
  obtain⟨m0,hn0,hl⟩:=I.loc
  have e2':(idx.map fun o=>o.bind fun i=>(σ[i]?).join)[j]?=some (some v):=e2
  rw[bJ]at e2'
  cases ei:idx[j]? with
  | none=>rw[ei]at e2';cases e2'
  | some o =>
   rw[ei]at e2';simp only[dC,eX]at e2'
   cases o with
   | none=>cases e2'
   | some i =>
    have e2'':(σ[i]?).join=some v:=e2';obtain⟨hNi,hfr⟩:=L.at' j i x e1 ei
    have hσ:σ[i]?=some (some v):=by
     cases q:σ[i]? with
     | none=>rw[q]at e2'';cases e2''
     | some z=>rw[q]at e2'';rw[show z=some v from e2'']
    have hk:=L.free _ (lookup_mem hfr) rfl
    have hvis:Vis X.env.scope x:=by
     rcases hk with z | z
     ·exact .inr (.inl z)
     ·exact .inr (.inr z)
    obtain⟨u,r,lk⟩:=hl i x v hNi hσ hvis
    refine⟨u,r,.inr ?_⟩
    rcases lk with ⟨z,_⟩ | ⟨_,c,hc,hcl⟩
    ·exfalso
     have z':X.env.kindOf x=some .local:=z
     rcases hk with q | q
     ·rw[show X.env.kindOf x=_ from q]at z';cases z'
     ·rw[show X.env.kindOf x=_ from q]at z';cases z'
    ·obtain⟨c',hc'⟩:=c2 x (.inl (lookup_mem hfr))
     have:c'=c:=by
      rcases c1 x c' hc' with ⟨q,_⟩ | ⟨_,q⟩
      ·rw[hc]at q;exact(bU q).symm
      ·rw[mem_lookup L.nod q]at hfr;cases hfr
     subst this
     refine⟨?_,c',hc',let ⟨o,e,d⟩:=hcl; ⟨o,k _ o e,d⟩⟩
     rcases Jg (env:=X.env) hfr with q | q
     ·exact .inr q
     ·exact .inl q
 cell:=fun x c e=>by
  rcases c1 x c e with ⟨q,_⟩ | ⟨_,q⟩
  ·obtain⟨v,z⟩:=I.cell x c q
   exact⟨v,let ⟨o,e,d⟩:=z; ⟨o,k _ o e,d⟩⟩
  ·exact⟨none,c4 x c e q⟩
 free:=I.hok.fresh hC
 freeC:=fun x c e=>by
  rcases c1 x c e with ⟨q,_⟩ | ⟨q,_⟩
  ·exact I.freeC x c q
  ·exact I.hok.fresh q
 pin:=fun p hp=>by simp at hp
 hok:=I.hok.kept k
 len:=by
  show (idx.map _).length=N'.length
  rw[ak];exact L.len
end
section
variable {X:Cx}{N':v4}{idx:p6}{scope:Scope}{elt tg iter:Expr}{ifs:v_}{pos:Pos}{wi:TI}{g:TG}{tc:TT}{te:TE}
theorem Pu:∀(names:List (Str×NameKind)) (h:Heap) (acc:List (Str×Addr)),(∀x y c,acc.lookup x=some c->acc.lookup y=some c->x=y)->(∀x c,acc.lookup x=some c->c<h.objs.size) ->
 (∀x c,(cellsFrom h.objs.size names acc).lookup x=some c->acc.lookup x=some c\/(h.objs.size<=c/\(x,NameKind.cell)∈names/\(pushCells h names).IsCell c none)) /\
 (∀x,((∃c,acc.lookup x=some c)\/(x,NameKind.cell)∈names)->∃c,(cellsFrom h.objs.size names acc).lookup x=some c) /\
 (∀x y c,(cellsFrom h.objs.size names acc).lookup x=some c->(cellsFrom h.objs.size names acc).lookup y=some c->x=y)
 | [],h,acc,hi,hl=>by
  refine⟨fun x c e=>.inl e,fun x z=>?_,hi⟩
  rcases z with z | z
  ·exact z
  ·exact nomatch z
 | (n,k)::r,h,acc,hi,hl=>by
  unfold cellsFrom pushCells
  by_cases hk:(k==NameKind.cell)=true
  ·rw[if_pos hk,if_pos hk]
   have hk':k=.cell:=cX hk;subst hk';have sz:(h.push { cls:=.type "cell",data:=.cell none }).objs.size=h.objs.size+1:=Heap.size_push ..
   have ih:=Pu r (h.push { cls:=.type "cell",data:=.cell none }) ((n,h.objs.size)::acc) (fun x y c e1 e2=>?_) (fun x c e=>?_)
   ·rw[sz]at ih
    obtain⟨i1,i2,i3⟩:=ih
    refine⟨fun x c e=>?_,fun x z=>?_,i3⟩
    ·rcases i1 x c e with q | ⟨q1,q2,q3⟩
     ·rw[aZ]at q
      split at q
      ·rename_i hb
       cases q
       have:x=n:=cX hb;subst this;exact .inr ⟨aj _,aN,_,pushCells_keeps _ _ _ _ (Heap.get?_push_size _ rfl),rfl⟩
      ·exact .inl q
     ·exact .inr ⟨dD q1,aW _ q2,q3⟩
    ·refine i2 x ?_
     by_cases hx:x=n
     ·subst hx;exact .inl ⟨h.objs.size,by simp⟩
     ·rcases z with ⟨c,z⟩ | z
      ·exact .inl ⟨c,by rw[aZ,beq_false_of_ne hx];exact z⟩
      ·rcases az.mp z with z | z
       ·cases z;exact absurd rfl hx
       ·exact .inr z
   ·rw[aZ]at e1 e2
    split at e1
    ·rename_i hb1
     cases e1
     split at e2
     ·rename_i hb2
      exact(cX hb1).trans (cX hb2).symm
     ·exact absurd (hl _ _ e2) (bf _)
    ·split at e2
     ·cases e2
      exact absurd (hl _ _ e1) (bf _)
     ·exact hi x y c e1 e2
   ·rw[sz]
    rw[aZ]at e
    split at e
    ·cases e;exact cL _
    ·exact bW (hl x c e)
  ·rw[if_neg hk,if_neg hk]
   have ih:=Pu r h acc hi hl;obtain⟨i1,i2,i3⟩:=ih
   refine⟨fun x c e=>?_,fun x z=>i2 x ?_,i3⟩
   ·rcases i1 x c e with q | ⟨q1,q2,q3⟩
    ·exact .inl q
    ·exact .inr ⟨q1,aW _ q2,q3⟩
   ·rcases z with z | z
    ·exact .inl z
    ·rcases az.mp z with z | z
     ·cases z;exact absurd rfl hk
     ·exact .inr z
theorem Be3 {M:Model}{A:t_}{E:z_}{s:u_}{scope:Scope}{a:Addr}{d:List (Str×Addr)}{qual:Str}{b:Env}{Q:Env->u_->Prop}
 (h:Q (newEnv scope s.heap.objs.size a (cellsFrom (s.heap.objs.size+1) scope.names d) qual none .none (some b) builtinsNs) { s with heap:=pushCells (s.heap.push { cls:=.type "dict",data:=.dict #[] }) scope.names }) :
 wpAny M A (newFunctionEnv scope a d [] qual none .none (some b)) Q E s:=by
 refine wpAny_bind (wpAny_alloc ?_)
 refine wpAny_bind (wpAny_layCells _ fun e f c=>by trivial _ _ _ _ ?_)
 rw[show ({ s with heap:=s.heap.push _ }:u_).heap.objs.size=s.heap.objs.size+1 from Heap.size_push ..]
 exact wpAny_bind (wpAny_pure (wpAny_pure h))
theorem Am0 {pins:y_}{σ:St}{R:Hp}{s2:u_}{it:Addr}{fp:v6}{tn:Nat->Heap->Prop}{J:It}{K:List (Str×Addr)}{E:z_}{RR:Value->Addr->Result->u_->Prop}{F:n8->Hp->Prop}
 (L:Jo X N' idx scope) (hc:X.calm=true)
 (hg:∀K C s₀ H₀ ex,PG (Gh X N' scope K C s₀ H₀ ex) tg g) (ht:∀K C s₀ H₀ ex,PTs (Gh X N' scope K C s₀ H₀ ex) ifs tc) (he:∀K C s₀ H₀ ex,PE (Gh X N' scope K C s₀ H₀ ex) elt te)
 (c1:∀x c,K.lookup x=some c->X.env.cells.lookup x=some c/\(x,NameKind.free)∈scope.names) (c2:∀x,(x,NameKind.free)∈scope.names->∃c,K.lookup x=some c)
 (I2:Inv X pins σ R s2) (T:Turn X.prog X.w X.K tg J fp it tn) (st2:tn 0 s2.heap) (f2:∀b∈fp,U8 X pins R b) (W:Nat->Nat->St->n8->Hp->Prop) (w0:∃m,W 0 m (cst idx σ) [] R)
 (turn:∀i m t acc H,W i m t acc H->(J.stop i H/\F acc H) \/
  (J.go i H/\acc.length<sizeLine/\∃N:St->n8->Hp->Prop,(∀t acc' H',N t acc' H'->∃m',m'<m/\W (i+1) m' t acc' H')/\∀x H',J.yld i H x H'->g x t H' fun Z R=>tc Z R fun b H3 =>
   if b=true then te Z H3 fun y H4=>N Z (acc++[y]) H4 else N Z acc H3))
 (hR:∀(D C:Addr) (s':u_) (acc:n8) (a:w6) (n:Nat) (H':Hp) (m:x_),s2.heap.objs.size<=D->s2.heap.objs.size<=C->D≠C->s'.heap.Ns C m->s'.heap.get? D=some { cls:=.type "list",data:=.seq a.toArray n }->Vals acc a->acc.length<=sizeLine ->
  H' D=none->H' C=none->s'.os=s2.os->AllBare s'.gens->Un (frs X.stack) fp R H' s2.heap s'.heap->HOk X.prog X.w H' s'.heap->F acc H'->RR (.ref D) C (.ok .next) s') :
 wpAny (model X.prog X.w) X.A (newList []) (fun acc B=>wpAny (model X.prog X.w) X.A (newFunctionEnv scope X.env.globals K [] X.env.qual none .none (some X.env)) (fun cenv s₄ =>
  codeAny (model X.prog X.w) X.A (.compStart (.ListComp elt [⟨tg,iter,ifs,0⟩] scope pos) 0 (.ref it) acc { cenv with scope:=relabel scope X.env }) (RR acc cenv.locals) s₄) E B) E s2:=by
 have U:∀b∈fp,b<s2.heap.objs.size:=fun b w=>let ⟨o,e,_⟩:=T.obj _ _ st2 b w; Heap.lt_size e
 refine wpAny_newObj_type (Be3 ?_)
 dsimp only
 generalize hH2:s2.heap.push { cls:=.type "list",dict:=none,data:=.seq ([]:w6).toArray }=G
 have hC:G.objs.size=s2.heap.objs.size+1:=by rw[<- hH2,Heap.size_push]
 have hDC:s2.heap.objs.size≠G.objs.size:=by rw[hC];exact aC (cL _)
 have A:s2.heap.objs.size<=G.objs.size:=by rw[hC];exact dO _
 obtain⟨j,l⟩:∃j,j=pushCells (G.push { cls:=.type "dict",data:=.dict #[] }) scope.names:=⟨_,rfl⟩;rw[<- l]
 have S:j.Ns G.objs.size (fun _=>none):=by rw[l];exact(Heap.Ns.new G (.type "dict")).keeps (pushCells_keeps _ _)
 have old:∀b o,s2.heap.get? b=some o->j.get? b=some o:=fun b o e=>by rw[l];exact pushCells_keeps _ _ b o (Heap.get?_push_of_some _ (hH2▸Heap.get?_push_of_some _ e))
 have hacc:j.get? s2.heap.objs.size=some { cls:=.type "list",dict:=none,data:=.seq ([]:w6).toArray }:=by rw[l];exact pushCells_keeps _ _ _ _ (Heap.get?_push_of_some _ (hH2▸Heap.get?_push_size _ rfl))
 have szD:(G.push { cls:=.type "dict",data:=.dict #[] }).objs.size=G.objs.size+1:=Heap.size_push ..
 obtain⟨k1,k2,k3⟩:=Pu scope.names (G.push { cls:=.type "dict",data:=.dict #[] }) K (fun x y c e1 e2=>I2.ok.inj x y c (c1 x c e1).1 (c1 y c e2).1) (fun x c e=>by
  obtain⟨v,o,ho,_⟩:=I2.cell x c (c1 x c e).1
  rw[szD];exact bW (aA (Heap.lt_size ho) A))
 rw[szD,<- l]at k1;rw[szD]at k2 k3;obtain⟨cl0,hcl0⟩:∃cl0,cl0=K:=⟨_,rfl⟩;have c1o:=c1;have c2o:=c2;rw[<- hcl0]at k1 k2 k3 c1o c2o;rw[<- hcl0]
 clear c1 c2
 generalize cellsFrom (G.objs.size+1) scope.names cl0=K at k1 k2 k3 ⊢
 have c1:∀x c,K.lookup x=some c->(X.env.cells.lookup x=some c/\(x,NameKind.free)∈scope.names)\/(s2.heap.objs.size<=c/\(x,NameKind.cell)∈scope.names):=fun x c e=>by
  rcases k1 x c e with q | ⟨q1,q2,_⟩
  ·exact .inl (c1o x c q)
  ·exact .inr ⟨ao A (dD q1),q2⟩
 have c2:∀x,((x,NameKind.free)∈scope.names\/(x,NameKind.cell)∈scope.names)->∃c,K.lookup x=some c:=fun x z=>k2 x (z.imp (fun z=>c2o x z) id)
 have c4:∀x c,K.lookup x=some c->(x,NameKind.cell)∈scope.names->j.IsCell c none:=fun x c e z=>by
  rcases k1 x c e with q | ⟨_,_,q⟩
  ·have:=mem_lookup L.nod (c1o x c q).2
   rw[mem_lookup L.nod z]at this;cases this
  ·exact q
 let X':Cx:=Gh X N' scope K G.objs.size s2 R fp
 have I1:Inv X' [] (cst idx σ) R { s2 with heap:=j }:=A8l L I2 f2 U A c1 c2 k3 c4 rfl rfl old S
 have hD2:R s2.heap.objs.size=none:=I2.hok.fresh (aj _)
 have hDfs:s2.heap.objs.size∉X'.fs:=fun z=>by
  obtain⟨_,o,ho,_⟩:=I2.stack.mem z;exact absurd (Heap.lt_size ho) (bf _)
 have hDfp:s2.heap.objs.size∉fp:=fun z=>absurd (U _ z) (bf _)
 have P:∀{H':Hp} {pl:y_},(∀b∈fp,H' b=none)->(∀p∈pl,p.1∉fp)->∀b∈fp,U8 X' pl H' b:=fun {H' pl} hn M b w =>
  ⟨hn b w,aC (aA (U b w) A),fun z=>by
   rcases az.mp (I2.stkSub b z) with q | q
   ·exact(f2 b w).2.1 q
   ·exact(f2 b w).2.2.1 q,.inl w,fun x c e=>by
    rcases c1 x c e with ⟨z,_⟩ | ⟨z,_⟩
    ·exact(f2 b w).2.2.2.2.1 x c z
    ·exact bB (aA (U b w) z),fun p Q z=>M p (by have hp':p∈[]++pl:=Q;simpa using hp') (z▸w)⟩
 have loop:∀B:u_,B={ s2 with heap:=j } ->
  codeAny (model X.prog X.w) X.A (.compLoop (.ListComp elt [⟨tg,iter,ifs,0⟩] scope pos) 0 (.ref it) (.ref s2.heap.objs.size) (compEnvC scope K G.objs.size X.env)) (RR (.ref s2.heap.objs.size) G.objs.size) B:=by
  rintro B rfl
  obtain⟨m0,w0⟩:=w0
  refine Bf1 rfl (Wd:=fun n s'=>∃i t acc a k H',Inv X' [(s2.heap.objs.size,{ cls:=.type "list",data:=.seq a.toArray k })] t H' s'/\Vals acc a/\acc.length<=sizeLine/\tn i s'.heap/\(∀b∈fp,H' b=none)/\W i n t acc H') (step:=?_) m0
   ⟨0,cst idx σ,[],[],0,R,I1.pins_of (fun p Q=>?_),.nil,aB _,T.keep _ _ _ st2 fun b _ o e=>old b o e,fun b w=>(f2 b w).1,w0⟩
  ·rintro n s3 ⟨i,Y,acc,a,k,H3,I3,rv,hz,st3,fr3,w3⟩
   have M:∀p∈[((s2.heap.objs.size,{ cls:=.type "list",data:=.seq a.toArray k }):Addr×Obj)],p.1∉fp:=fun p Q=>by
    rcases aG.mp Q with rfl;exact hDfp
   rcases turn i n Y acc H3 w3 with ⟨stop,q⟩ | ⟨go,hlt,N,hN,step⟩
   ·refine wpAny_mono (T.done X' rfl rfl rfl hc i _ s3 Y H3 (fun _ _=>False) I3 (P fr3 M) st3 stop) (fun r s4 ⟨hr,I4⟩=>?_) fun _ _ f=>f.elim
    subst hr;obtain⟨p1,p2,p3,p4,p5⟩:=I4.pin (s2.heap.objs.size,{ cls:=.type "list",data:=.seq a.toArray k }) (aJ _ aN);obtain⟨m4,hn4,_⟩:=I4.loc;exact hR _ _ s4 acc a k H3 m4 (aj _) A hDC hn4 p1 rv hz p2 I4.free I4.os I4.bare I4.base I4.hok q
   ·refine wpAny_mono (T.item X' rfl rfl rfl hc i _ s3 Y H3 (fun _ _=>False) I3 (P fr3 M) st3 go) (fun r s4 ⟨u,hr,h4⟩=>?_) fun _ _ f=>f.elim
    subst hr
    refine wpAny_mono h4 (fun _ s5 ⟨x,H5,I5,r5,y5,st5,fr5⟩=>?_) fun _ _ f=>f.elim
    refine wpAny_mono (hg _ _ _ _ _ _ s5 Y H5 x u _ (I5.pinned (P fr5 M) (T.obj _ _ st5)) r5 (step x H5 y5)) (fun _ s6 ⟨O,H6,I6,q6⟩=>?_) fun _ _ f=>f.elim
    refine wpAny_mono (ht _ _ _ _ _ _ s6 O H6 _ I6 q6) (fun ok s7 ⟨H7,I7,q7⟩=>?_) fun _ _ f=>f.elim
    have tnk:∀{t:St} {H':Hp} {s':u_},Inv X' ([(s2.heap.objs.size,{ cls:=.type "list",data:=.seq a.toArray k })]++Xi fp s5.heap) t H' s'->tn (i+1) s'.heap/\∀b∈fp,H' b=none:=fun {t H' s'} I=>by
     refine⟨T.keep _ _ _ st5 fun b w o e=>(I.pin (b,o) (aJ _ (aJ _ (Lp w e)))).1,fun b w=>?_⟩
     obtain⟨o,e,d⟩:=T.obj _ _ st5 b w;exact(I.pin (b,o) (aJ _ (aJ _ (Lp w e)))).2.1
    cases ok with
    | false =>
     rw[if_neg (by decide)]at q7
     obtain⟨m',hm,w7⟩:=hN _ _ _ q7;exact⟨m',hm,i+1,O,acc,a,k,H7,I7.unpinned,rv,hz,(tnk I7).1,(tnk I7).2,w7⟩
    | true =>
     rw[if_pos rfl]at q7
     refine wpAny_mono (he _ _ _ _ _ _ s7 O H7 _ I7 q7) (fun y s8 ⟨yv,H8,I8,r8,q8⟩=>?_) fun _ _ f=>f.elim
     obtain⟨m',hm,w8⟩:=hN _ _ _ q8;obtain⟨p1,p2,p3,p4,p5⟩:=I8.pin (s2.heap.objs.size,{ cls:=.type "list",data:=.seq a.toArray k }) (aJ _ aN)
     refine call_meets PySem.F.slot_list_append ⟨_,p1,rfl⟩ PySem.F.entry_list_append (PySem.F.args_list_append_2 _ _) (PySem.list_append s2.heap.objs.size a.toArray k y (by have:=rv.length;rw[bC];omega)) ⟨p1,?_⟩
     have hz':=rv.length;obtain⟨t8,f8⟩:=tnk I8
     have I8':Inv X' [] O H8 s8:=I8.pins_of fun p Q=>nomatch Q
     have q:=PySem.IsL.update p1 (·.push y)
     have e':(a.toArray.push y)=(a++[y]).toArray:=by simp
     rw[e']at q
     obtain⟨k9,q⟩:∃k9,(s8.heap.update s2.heap.objs.size (Obj.mapSeq (·.push y))).get? _=some { cls:=.type _,data:=.seq _ k9 }:=⟨_,q⟩
     have I9:Inv _ _ _ _ { s8 with heap:=s8.heap.update _ (Obj.mapSeq (·.push y)) } :=
      I8'.turned  (fun b o w e=>(Heap.get?_update_other _ _ (aU w)).trans e) p2 p3 (.inr (aj _)) (fun x c e z=>by
       obtain⟨v,o,ho,hd⟩:=I8'.cell x c e
       rw[z,p1]at ho;cases ho;cases hd) (fun p Q=>by have hp':p∈([]:List _)++[]:=Q;simp at hp')
     refine⟨m',hm,i+1,O,acc++[yv],a++[y],k9,H8,I9.pins_of fun p Q=>?_,rv.append (.cons r8 .nil),by rw[a_,bY];omega,T.keep _ _ _ t8 fun b w o e=>(Heap.get?_update_other _ _ (fun z=>hDfp (by rw[z];exact w))).trans e,f8,w8⟩
     rcases aG.mp Q with rfl
     exact⟨q,p2,p3,p4,fun v z=>by cases z⟩
  ·rcases aG.mp Q with rfl
   exact⟨hacc,hD2,hDC,hDfs,fun v z=>by cases z⟩
 exact codeAny_compStart_list (loop _ rfl) (T.self _ 0 _ _ _ (T.keep _ _ _ st2 fun b _ o e=>old b o e) (loop _ rfl))
theorem B1i (L:Jo X N' idx scope)(hc:X.calm=true)(hi:PI X tg iter wi)
 (hg:∀t C s₀ H₀ ex,PG (Gh X N' scope t C s₀ H₀ ex) tg g) (ht:∀t C s₀ H₀ ex,PTs (Gh X N' scope t C s₀ H₀ ex) ifs tc) (he:∀t C s₀ H₀ ex,PE (Gh X N' scope t C s₀ H₀ ex) elt te)
 (hs:∀x,foldedSetIterable iter X.env x=pure x:=by intro _;rfl) :
 PE X (.ListComp elt [⟨tg,iter,ifs,0⟩] scope pos) (tLC idx wi g tc te):=by
 intro j s Z H Q I h
 obtain⟨t,l,c1,c2⟩:=Px (env:=X.env) (scope:=scope) fun y hy hf=>I.ok.has y.1 (L.free y hy hf)
 rw[eval_ListComp]
 refine wpAny_comprehension_free (use:=none) rfl hs l L.kind (fun y hy hl=>mem_lookup L.nod (by grind)) (wpAny_mono (hi j s Z H _ I h) (fun v s1 h1=>wpAny_mono h1 (fun itv V h2=>?_) fun _ _ e=>e) fun _ _ e=>e)
 obtain⟨it,fp,tn,J,H2,rfl,I2,T,M,z,W,w0,A⟩:=h2
 refine Am0 (F:=fun a H=>∀p,H p=none->Q (.ref p) (upd H p (.lst a))) (RR:=fun a C=>compPost (model X.prog X.w) X.A X.xe none (EP X j Z Q) a C) L hc hg ht he c1 c2 I2 T M z W w0 A ?_
 intro D C s' a w n N m hD hC O hn P rv hz d hC' ho K i hk q
 refine⟨m,hn,fun G f=>?_⟩
 have eD:G.get? D=some { cls:=.type "list",data:=.seq w.toArray n }:=f.extBut _ _ O P
 have S:HOk X.prog X.w N G:=fun b u e=>by
  refine (hk b u e).stay (fun c v hc q=>f.extBut c v ?_ q) (fun _ q=>q) fun _ _ q=>q
  grind
 have U:HOk X.prog X.w (upd N D (.lst a)) G:=S.track d ⟨hz,w,n,rv,eD⟩
 have k:∀b o,V.heap.get? b=some o->b≠C:=fun b o e=>aC (aA (Heap.lt_size e) hC)
 have R:∀b o,V.heap.get? b=some o->b≠D:=fun b o e=>aC (aA (Heap.lt_size e) hD)
 have u2:Un (frs X.stack) fp H2 (upd N D (.lst a)) V.heap G :=
  ⟨
   fun b o e r B Y=>f.extBut b o (k b o e) (i.keep b o e r B Y),fun b o e r B Y=>let ⟨sl,q⟩:=i.slot b o e r B Y; ⟨sl,f.extBut b _ (k b o e) q⟩,
   fun b o e r B=>by rw[Bb (R b o e)];exact i.free b o e r B,fun b o e r=>let ⟨o',q⟩:=i.there b o e r; ⟨o',f.extBut b _ (k b o e) q⟩,
   fun b xs e=>by rw[Bb (By (i.tups b _ e) d)];exact i.tups b _ e,fun b o u e=>by rw[Bb (By (i.frzs b o u e) d)];exact i.frzs b o u e,
   fun b ps e=>by rw[Bb (By (i.tbls b _ e) d)];exact i.tbls b _ e⟩
 refine⟨.ref D,upd _ D _,I2.call'  ho u2 U K fun b E=>⟨(z b E).2.2.2.1,(z b E).2.1,(z b E).2.2.2.2.1,(z b E).2.2.2.2.2⟩,rfl,q D d⟩
end
section
variable {X:Cx}{N':v4}{idx:p6}{scope:Scope}{elt tg iter:Expr}{ifs:v_}{pos:Pos}{wi:TI}{g:TG}{tc:TT}{te:TE}
theorem A4d {i:Nat}{y:Str}{K t:Pos}(hN:X.N.Nodup)(hi':X.N[i]?=some y)(hy:Loc X.env.scope y)(L:Jo X N' idx scope)(hc:X.calm=true)(hi:PI X tg iter wi)
 (hg:∀B C s₀ H₀ ex,PG (Gh X N' scope B C s₀ H₀ ex) tg g) (ht:∀B C s₀ H₀ ex,PTs (Gh X N' scope B C s₀ H₀ ex) ifs tc) (he:∀B C s₀ H₀ ex,PE (Gh X N' scope B C s₀ H₀ ex) elt te)
 (hsw:swapsWith (.ListComp elt [⟨tg,iter,ifs,0⟩] scope pos) (some (.Name y K)) t.line X.env=pure true:=by rfl)
 (hf:X.fn y=true\/X.env.scope.names.lookup y=some .local:=by first | exact .inl rfl | exact .inr rfl | assumption)
 (hs:∀x,foldedSetIterable iter X.env x=pure x:=by intro _;rfl) :
 PS X (.Assign [.Name y K] (.ListComp elt [⟨tg,iter,ifs,0⟩] scope pos) t) (Ap2 (tLC idx wi g tc te) (Q9 i)):=by
 intro d s M H j I h
 have h:tLC idx wi g tc te M H fun x H1=>j.nx (M.set i (some x)) H1:=h
 obtain⟨B,A,c1,c2⟩:=Px (env:=X.env) (scope:=scope) fun y hy hf=>I.ok.has y.1 (L.free y hy hf)
 rw[exec_Assign_Name_used _ _ _ _ hsw]
 refine wpAny_bind (wpAny_standAt (wpAny_bind ?_))
 show wpAny _ X.A (do let _ <- comprehension (.ListComp elt [⟨tg,iter,ifs,0⟩] scope pos) scope X.env _ (newList []) false (eval iter X.env) (some (assign (.Name y K) X.env))) _ _ s
 refine wpAny_bind (wpAny_mono (wpAny_comprehension_free (use:=some (assign (.Name y K) X.env)) (Q:=fun _ r=>SP X d j .next r) rfl hs A L.kind (fun y hy hl=>mem_lookup L.nod (by rw[<- hl];exact hy))
  (wpAny_mono (hi d s M H _ I h) (fun v s1 h1=>wpAny_mono h1 (fun itv s2 h2=>?_) fun _ _ e=>e) fun _ _ e=>e)) (fun _ r hq=>wpAny_pure (wpAny_pure hq)) fun _ _ e=>e)
 obtain⟨it,fp,tn,J,H2,rfl,G,T,U,N,W,w0,O⟩:=h2
 refine Am0 (F:=fun f H=>∀p,H p=none->j.nx (M.set i (some (.ref p))) (upd H p (.lst f))) (RR:=fun f C=>compPost (model X.prog X.w) X.A X.xe (some (assign (.Name y K) X.env)) (fun _ r=>SP X d j .next r) f C) L hc hg ht he c1 c2 G T U N W w0 O ?_
 intro D C r f V n Y m hD P Z hn hDo rv hz k hC' ho hg' l hk q;have S:HOk X.prog X.w (upd Y D (.lst f)) r.heap:=hk.track k ⟨hz,V,n,rv,hDo⟩
 have neD:∀b o,s2.heap.get? b=some o->b≠D:=fun b o e=>aC (aA (Heap.lt_size e) hD)
 have u2:Un (frs X.stack) fp H2 (upd Y D (.lst f)) s2.heap r.heap :=
  ⟨
   l.keep,l.slot,fun b o e n1 n2=>by rw[Bb (neD b o e)];exact l.free b o e n1 n2,l.there,
   fun b xs e=>by rw[Bb (By (l.tups b xs e) k)];exact l.tups b xs e,fun b o u e=>by rw[Bb (By (l.frzs b o u e) k)];exact l.frzs b o u e,
   fun b ps e=>by rw[Bb (By (l.tbls b ps e) k)];exact l.tbls b ps e⟩
 have I3:Inv X d M (upd Y D (.lst f)) r:=G.call' ho u2 S hg' (fun b E=>⟨(N b E).2.2.2.1,(N b E).2.1,(N b E).2.2.2.2.1,(N b E).2.2.2.2.2⟩)
 have hCL:C≠X.env.locals:=bB (aA G.lt P)
 have hCc:∀x c,X.env.cells.lookup x=some c->c≠C:=fun x c e z=>by
  obtain⟨v,w⟩:=G.cell x c e
  exact absurd (aA w.lt (by rw[z];exact P)) (bf _)
 have hCp:∀p∈X.pn++d,p.1≠C:=fun p hp z=>absurd (aA (Heap.lt_size (G.pin p hp).1) (by rw[z];exact P)) (bf _)
 refine wpAny_assign_Name (Ze (v:=.ref D) I3 hN hi' hy rfl (fun s4 I4 ⟨a,sb,ha⟩=>?_) hf)
 have hCa:C≠a:=by
  grind
 refine⟨m,hn.sameBut sb hCa,fun h' R=>?_⟩
 refine⟨_,_,I4.turned  (fun b o E e=>R.extBut b o E e) ?_ hCL (.inr (ao G.sz P)) hCc hCp,q D k⟩
 rw[Bb (aU Z)];exact hC'
end
section
variable {X:Cx}
def O8 (H:Hp):V->Option String
 | .non=>some "NoneType" | .bl _=>some "bool" | .int _=>some "int" | .str _=>some "str"
 | .ref a=>match H a with
  | some (.lst _)=>some "list"
  | some (.tup _)=>some "tuple"
  | some (.dK _)=>some "dict"
  | some (.dT _)=>some "dict"
  | _=>none
 | _=>none
section
variable {X:Cx}{pins:y_}{σ:St}{H:Hp}{s:u_}
theorem A9k {x:V}{u:Value}{t:String}(I:Inv X pins σ H s)(f:RelV x u)(h:O8 H x=some t):∃hp:Heap->Prop,PySem.W.KitX X.K u (.type t) hp/\hp s.heap/\u≠.builtin "__main__.__loader__#opaque" := by
 cases x with
 | non=>cases h;cases (f);exact⟨_,PySem.W.kitx_none,True.intro,fun z=>nomatch z⟩
 | bl b=>cases h;cases (f);exact⟨_,PySem.W.kitx_bool,True.intro,fun z=>nomatch z⟩
 | int i=>cases h;obtain⟨t,rfl⟩:=f;exact⟨_,PySem.W.kitx_int,True.intro,fun z=>nomatch z⟩
 | str y=>cases h;obtain⟨t,rfl⟩:=f;exact⟨_,PySem.W.kitx_str,True.intro,fun z=>nomatch z⟩
 | ref a =>
  cases (f)
  have c:∀T,PySem.W.KitX X.K (.ref a) (.type T) (PySem.W.KitAt a T)->PySem.W.KitAt a T s.heap->some T=some t->∃hp:Heap->Prop,PySem.W.KitX X.K (.ref a) (.type t) hp/\hp s.heap/\Value.ref a≠.builtin "__main__.__loader__#opaque" := fun T k p q=>by grind
  have h:(match H a with | some (.lst _)=>some _ | some (.tup _)=>some _ | some (.dK _)=>some _ | some (.dT _)=>some _ | _=>none)=some t:=h
  split at h
  ·rename_i l e
   obtain⟨_,_,n,_,d⟩:=(show z9 _ _ H _ a _ from I.hok a _ e)
   exact c _ PySem.W.kitx_list ⟨_,d,rfl⟩ h
  ·rename_i l e
   obtain⟨_,_,_,o,d,g,_⟩:=(show z9 _ _ H _ a _ from I.hok a _ e)
   exact c _ PySem.W.kitx_tuple ⟨o,d,g⟩ h
  ·rename_i j e
   obtain⟨_,_,vs,_,o,r,m,d,g,_⟩:=(show z9 _ _ H _ a _ from I.hok a _ e)
   exact c _ PySem.W.kitx_dict ⟨o,d,g.1⟩ h
  ·rename_i j e
   obtain⟨_,_,l,_,o,r,m,d,g,_⟩:=(show z9 _ _ H _ a _ from I.hok a _ e)
   exact c _ PySem.W.kitx_dict ⟨o,d,g.1⟩ h
  grind
 | byt b=>cases h
 | flt b=>cases h
 | ty n=>cases h
end
def Fw (t T:String):Option Bool:=if ["NoneType", "bool", "int", "str", "list", "tuple", "dict"].contains t&&["int", "str", "bool", "list", "tuple"].contains T then some (t==T||(t == "bool" && T == "int")) else none
theorem Ak0 {K:v9}{t T:String}{b:Bool}(h:Fw t T=some b):PySem.W.kitOne K (.type t) (.type T)=some b:=by
 unfold Fw at h
 split at h
 ·rename_i a
  cases h
  simp only[cJ,List.contains_iff_mem,az,bj,bx]at a;obtain⟨c,d⟩:=a
  rcases c with rfl | rfl | rfl | rfl | rfl | rfl | rfl <;> rcases d with rfl | rfl | rfl | rfl | rfl <;> with_unfolding_all rfl
 ·cases h
theorem A5c:CallR X (.builtin "isinstance") (fun xs H Q=>∃x T t b,xs=[x,.ty T]/\O8 H x=some t/\Fw t T=some b/\Q (.bl b) H):=by
 intro a s σ H xs us Q I r h;obtain⟨x,T,t,b,rfl,f,c,q⟩:=h;obtain⟨u,v,rfl,e,d⟩:=Vals.two r
 cases (d)
 obtain⟨hp,z,p,g⟩:=A9k I e f
 exact PySem.W.kia_one z I.kIn p (Ak0 c) g fun tk=>⟨.bl b,H,I.tok _,rfl,q⟩
theorem walk_seq {A:t_}{pins:y_}{d:St}{H:Hp}{s:u_}{a:Addr}{xs:n8}{E:z_}{R:z_}(m:A.handled=none)(I:Inv X pins d H s)(h:SqL X.K H a xs)
 (k:∀(c:w6) (J:Addr) (s2:u_),Vals xs c->Walks X.prog X.w A J [J,a] [J] c.length (fun i v=>c[i]?=some v) (fun i h=>h.IsListIter J a i/\h.IsList a c.toArray)->s2.heap.IsListIter J a 0/\s2.heap.IsList a c.toArray->(∀b∈[J,a],b<s2.heap.objs.size) ->
  Inv X pins d H s2->(∀f l,(∀b o,b∉[J]->s2.heap.get? b=some o->f.get? b=some o)->Inv X pins d H { s2 with heap:=f,toks:=l })->R (.ref J) s2) :
 wpAny (model X.prog X.w) A (pyIter (.ref a)) R E s:=by
 obtain⟨c,n,p,D⟩:=I.list h
 refine wpAny_pyIter_list p.isList ?_
 have u:a<s.heap.objs.size:=let ⟨_,e,_⟩:=p.isList; Heap.lt_size e
 have g:a≠s.heap.objs.size:=aC u;have W:=Walks.list (prog:=X.prog) (w:=X.w) (A:=A) m s.heap.objs.size a g c.toArray;rw[bC]at W
 have j:Inv X pins d H { s with heap:=s.heap.push { cls:=.type "list_iterator",data:=.fields #[.ref a,.int 0 0] } }:=I.kept (t':=s.toks) fun b o e=>Heap.get?_push_of_some _ e
 refine k c s.heap.objs.size _ n (by simp_all) ⟨⟨_,Heap.get?_push_size _ rfl,rfl,rfl⟩,let ⟨o,e,r⟩:=p.isList; ⟨o,Heap.get?_push_of_some _ e,r⟩⟩ ?_ j fun f l x=>?_
 ·intro b z
  have e:=Heap.size_push s.heap { cls:=.type "list_iterator",data:=.fields #[.ref a,.int 0 0] }
  grind
 ·obtain⟨q,B,F,y,C,t⟩:=(I.fpOk (b:=s.heap.objs.size) (aj _) (I.hok.fresh (aj _)))
  exact j.turned  (fun b o z e=>x b o (by simp_all) e) q B y C t
theorem An2 {A:t_}{a:w6}{bs:List Bool}(r:Vals (bs.map V.bl) a):TruthOf X.prog X.w A (fun i v=>a[i]?=some v) (fun i=>bs.getD i false):=by
 intro i v s Q E c b;have h  := (bh.mp c).1
 have g:i<bs.length:=by have:=r.length;simp_all
 obtain⟨u,d,f⟩:=r.get (i:=i) (x:=V.bl bs[i]) (by simp_all)
 rw[c]at d
 cases d
 cases (show v=Value.bool _ from f)
 have e:bs.getD i false=bs[i]:=by simp_all
 have b:Q (bs.getD i _) s:=b;rw[e]at b;exact wpAny_truthy_bool b
theorem range_all (bs:List Bool):(List.range bs.length).all (fun i=>bs.getD i false)=bs.all id:=by
 rw[Bool.eq_iff_iff];simp only[bz,bc]
 constructor
 ·intro h b d
  obtain⟨i,a,c⟩:=List.getElem_of_mem d
  simp_all
 ·intro h i a
  simpa[a] using h _ (fY _)
theorem A1m (hc:X.calm=true):CallR X (.builtin "all") (fun xs H Q=>∃(a:Addr) (b:List Bool),xs=[.ref a]/\SqL X.K H a (b.map V.bl)/\Q (.bl (b.all id)) H):=by
 intro d s σ H xs us Q I r h;obtain⟨a,b,rfl,i,q⟩:=h;obtain⟨u,rfl,g⟩:=vals1 r
 cases (g)
 refine call_all_walk (walk_seq  (I.ok.hd hc) I i fun c J s2 f W l hb I2 k=>⟨J,_,_,_,_,_,_,rfl,W,l,An2 f,fun h' tk j=>?_⟩)
 have e:c.length=b.length:=by rw[<- f.length,ak]
 rw[e,range_all];exact⟨.bl _,H,k _ _ j,rfl,q⟩
end
mutual
def Tr (H:Hp):t6->V->Prop
 | .none,v=>v=.non
 | .bool b,v=>v=.bl b
 | .int i,v=>v=.int i
 | .str x,v=>v=.str x
 | .list ds,v=>∃a vs,v=.ref a/\H a=some (.lst vs)/\TrL H ds vs
 | .tuple ds,v=>∃a vs,v=.ref a/\H a=some (.tup vs)/\TrL H ds vs
 | .dict _,_=>False
def TrL (H:Hp):w5->n8->Prop
 | [],vs=>vs=[]
 | d::ds,vs=>∃v r,vs=v::r/\Tr H d v/\TrL H ds r
end
theorem TrL.length {H:Hp}:∀{ds:w5}{vs:n8},TrL H ds vs->ds.length=vs.length
 | [],_,h=>by cases (show _=[] from h);rfl
 | d::ds,_,h=>by
  obtain⟨v,r,rfl,_,t⟩:=h;rw[aH,aH,TrL.length t]
mutual
theorem Tr.same {H H':Hp}(S:Same H H'):∀{d:t6}{v:V},Tr H d v->Tr H' d v
 | .none,_,h=>h
 | .bool _,_,h=>h
 | .int _,_,h=>h
 | .str _,_,h=>h
 | .list ds,_,⟨a,vs,e,ha,t⟩=>⟨a,vs,e,S _ _ ha,TrL.same S t⟩
 | .tuple ds,_,⟨a,vs,e,ha,t⟩=>⟨a,vs,e,S _ _ ha,TrL.same S t⟩
theorem TrL.same {H H':Hp}(S:Same H H'):∀{ds:w5}{vs:n8},TrL H ds vs->TrL H' ds vs
 | [],_,h=>h
 | d::ds,_,⟨v,r,e,h,t⟩=>⟨v,r,e,Tr.same S h,TrL.same S t⟩
end
def B4f (H H':Hp):Prop:=∀b xs,H b=some (.tup xs)->H' b=some (.tup xs)
section
variable {X:Cx}{pins:y_}{σ:St}{H:Hp}{s:u_}
mutual
theorem Tr.reads (I:Inv X pins σ H s):∀{d:t6}{v:V}{u:Value},Tr H d v->RelV v u->∃as,Reads s.heap u d as
 | .none,_,u=>fun h r=>by
  cases (show _=V.non from h)
  cases (show u=Value.none from r)
  exact⟨_,.none⟩
 | .bool b,_,u=>fun h r=>by
  cases (show _=V.bl b from h)
  cases (show u=Value.bool b from r)
  exact⟨_,.bool b⟩
 | .int i,_,u=>fun h r=>by
  cases (show _=V.int i from h)
  obtain⟨t,rfl⟩:=r;exact⟨_,.int i t⟩
 | .str x,_,u=>fun h r=>by
  cases (show _=V.str x from h)
  obtain⟨t,rfl⟩:=r;exact⟨_,.str x t⟩
 | .list ds,_,u=>fun h r=>by
  obtain⟨a,vs,rfl,ha,t⟩:=h
  cases (show u=Value.ref a from r)
  obtain⟨z,its,n,rv,e⟩:=I.hok a _ ha;obtain⟨as,q⟩:=TrL.reads I t rv
  exact⟨_,.list e rfl rfl (by simpa using q)⟩
 | .tuple ds,_,u=>fun h r=>by
  obtain⟨a,vs,rfl,ha,t⟩:=h
  cases (show u=Value.ref a from r)
  obtain⟨z,its,rv,o,e,c,⟨n,dt⟩,_⟩:=I.hok a _ ha;obtain⟨as,q⟩:=TrL.reads I t rv
  exact⟨_,.tuple e c dt (by simpa using q)⟩
 | .dict k,_,u=>fun h r=>False.elim h
theorem TrL.reads (I:Inv X pins σ H s):∀{ds:w5}{vs:n8}{us:w6},TrL H ds vs->Vals vs us->∃as,ReadsAll s.heap us ds as
 | [],_,us=>fun h r=>by
  cases (show _=[] from h)
  cases r
  exact⟨_,.nil⟩
 | d::ds,_,us=>fun h r=>by
  obtain⟨v,vs,rfl,hv,t⟩:=h
  cases r with
  | cons r1 r2 =>
   obtain⟨as,q⟩:=Tr.reads I hv r1;obtain⟨bs,p⟩:=TrL.reads I t r2;exact⟨_,.cons q p⟩
end
end
def Flat (d:t6):Prop:=d.canLay0=true/\d.depth<=40
section
variable {X:Cx}
theorem Bm1 {u a b c:Nat}(hu:u+64<c)(hb:b<=40):u+min a b<c:=aQ (bw (ao (fZ a b) (ao hb (by decide))) u) hu
theorem Ug {u a b c:Nat}(hu:u+64<c)(hb:b<=40):u+1+min a b<c:=aQ (ao (bw (ao (fZ a b) hb) _) (bw (show 1+40<=64 by decide) u)) hu
theorem Bz3 (hu:X.A.units+64<cLine):OpR X (compareOp .Eq) (fun x y H Q=>∃a b,Tr H a x/\Tr H b y/\Flat a/\Flat b/\Q (.bl (PyData.eqv a b)) H):=by
 intro c s n H x y v u Q I g f h;obtain⟨a,b,i,j,k,d,q⟩:=h;obtain⟨m,l⟩:=i.reads I g;obtain⟨o,e⟩:=j.reads I f;exact SeqAt.compareEq_reads l e k.1 d.1 (Bm1 hu d.2) ⟨.bl _,H,I,rfl,q⟩
theorem Bt9 (hu:X.A.units+64<cLine):OpR X (compareOp .NotEq) (fun x y H Q=>∃a b,Tr H a x/\Tr H b y/\Flat a/\Flat b/\Q (.bl (!PyData.eqv a b)) H):=by
 intro c s n H x y v u Q I g f h;obtain⟨a,b,i,j,k,d,q⟩:=h;obtain⟨m,l⟩:=i.reads I g;obtain⟨o,e⟩:=j.reads I f;exact SeqAt.compareNe_reads l e k.1 d.1 (Bm1 hu d.2) ⟨.bl _,H,I,rfl,q⟩
theorem Bn9 (hu:X.A.units+64<cLine):OpR X (compareOp .In) (fun x y H Q=>∃d a,Tr H d x/\(Tr H (.list a) y\/Tr H (.tuple a) y)/\Flat d/\PyData.canLayAll0 a=true/\Q (.bl (a.any fun e=>PyData.eqv e d)) H):=by
 intro i s o H x y v u Q I n g h;obtain⟨d,a,l,b,c,j,q⟩:=h;obtain⟨p,k⟩:=l.reads I n
 rcases b with b | b
 ·obtain⟨m,f⟩:=b.reads I g
  exact SeqAt.in_list_reads f k j c.1 (Ug hu c.2) ⟨.bl _,H,I,rfl,q⟩
 ·obtain⟨m,f⟩:=b.reads I g
  exact SeqAt.in_tuple_reads f k j c.1 (Ug hu c.2) ⟨.bl _,H,I,rfl,q⟩
theorem A2h (hu:X.A.units+64<cLine):OpR X (compareOp .NotIn) (fun x y H Q=>∃d ds,Tr H d x/\(Tr H (.list ds) y\/Tr H (.tuple ds) y)/\Flat d/\PyData.canLayAll0 ds=true/\Q (.bl (!ds.any fun e=>PyData.eqv e d)) H):=by
 intro g s σ H x y v u Q I m f h;obtain⟨d,ds,k,a,b,i,q⟩:=h;obtain⟨as,j⟩:=k.reads I m
 rcases a with a | a
 ·obtain⟨l,c⟩:=a.reads I f
  exact SeqAt.notIn_list_reads c j i b.1 (Ug hu b.2) ⟨.bl _,H,I,rfl,q⟩
 ·obtain⟨l,c⟩:=a.reads I f
  exact SeqAt.notIn_tuple_reads c j i b.1 (Ug hu b.2) ⟨.bl _,H,I,rfl,q⟩
theorem A1h (hu:X.A.units+64<cLine)(hg:X.A.guards=some []):CallR X (.type "str") (fun xs H Q=>∃a d,xs=[.ref a]/\Tr H d (.ref a)/\d.showable=true/\d.hasDict=false/\d.depth<=40/\d.shown.length<=sizeLine/\Q (.str d.shown) H):=by
 intro b s σ H xs us Q I r h;obtain⟨a,d,rfl,i,j,h2,h3,g,q⟩:=h;obtain⟨u,rfl,c⟩:=vals1 r
 cases show u=Value.ref a from c
 obtain⟨as,k⟩:=i.reads I c
 exact str_of_reads k j fun z=>by simp_all hg (by omega) (fun _ _ e=>e) (fun h' t tk f=>⟨.str _,H,I.kept  f,⟨t,rfl⟩,q⟩) g
end
mutual
def Nv (gt:Bool):t6->t6->Option Bool
 | .int i,.int j=>some (if gt then decide (j<i) else decide (i<j))
 | .str i,.str j=>some (if gt then decide (j.cps.toList<i.cps.toList) else decide (i.cps.toList<j.cps.toList))
 | .tuple xs,.tuple ys=>Rb gt xs ys
 | _,_=>none
def Rb (gt:Bool):w5->w5->Option Bool
 | [],[]=>some false
 | [],_::_=>some (!gt)
 | _::_,[]=>some gt
 | x::xs,y::ys=>if PyData.eqv x y=true then Rb gt xs ys else Nv gt x y
end
abbrev opG (gt:Bool):CmpOp:=if gt then .Gt else .Lt
def Bs3 (gt:Bool)(A:t_)(s:u_)(a b:Value)(r:Bool):Prop :=
 ∀(prog:u6) (w:World) (E:z_) (Q:z_),Q (.bool r) s->wpAny (model prog w) A (richCompare (opG gt) a b) Q E s
inductive O6 (gt:Bool) (A:t_) (s:u_):w6->w6->Bool->Prop
 | nn:O6 gt A s [] [] false
 | nc {y ys}:O6 gt A s [] (y::ys) (!gt)
 | cn {x xs}:O6 gt A s (x::xs) [] gt
 | eq {x xs y ys r}:SeqAt.EqAt A s x y true->O6 gt A s xs ys r->O6 gt A s (x::xs) (y::ys) r
 | ne {x xs y ys r}:SeqAt.EqAt A s x y false->Bs3 gt A s x y r->O6 gt A s (x::xs) (y::ys) r
section
open PySem.SeqAt
open PySem.AutoSeq1 (wpAny_loadPart')
open PySem.MeetsSeq PySem.MeetsSeq2 PySem.MeetsSeq3
theorem Ac8 (l b:Addr)(items a:v7)(n n2:Nat)(dd dd2:Option Addr)(sl sl2:Array (u9))(r:Bool) :
 Meets (Builtin.«tuple.__lt__» ⟨[.ref l,.ref b],[]⟩)
  (fun A R s=>s.heap.get? l=some { cls:=.type "tuple",dict:=dd,data:=.seq items n,slots:=sl }/\s.heap.get? b=some { cls:=.type "tuple",dict:=dd2,data:=.seq a n2,slots:=sl2 } /\
   O6 false A.in1 s items.toList a.toList r/\R (.ok (.ret (.bool r))) s) :=
 .of_wp fun f w A R s h=>by
  obtain⟨hp,g,d,tk,os⟩:=s;obtain⟨hl,hb,hx,h⟩:=h;have f2:=AutoSeq1.sub_tuple_tuple
  wp_walk using wpAny_loadPart' hl,wpAny_loadPart' hb,wpAny_forIn_list _ (fun rest b s'=>b.1=none/\s'=⟨hp,g,d,tk,os⟩/\∃(vs ws:w6),rest=vs.zip ws /\
   vs.length+a.size=ws.length+items.size/\O6 false A.in1 ⟨hp,g,d,tk,os⟩ vs ws r) _
  case turn =>
   rintro⟨y,x⟩ rest b s' ⟨hb',rfl,vs,ws,e,c,hR⟩
   cases hR with
   | nn=>rw[eY]at e;cases e
   | nc=>rw[eY]at e;cases e
   | cn=>rw[List.zip_nil_right]at e;cases e
   | eq he hr =>
    rw[cz]at e
    injection e with hyx hrest
    injection hyx with hy hx
    subst hy hx;simp only[aH]at c
    refine wpAny_bind (he f w _ _ ?_)
    wp_walk
    exact⟨rfl,rfl,_,_,hrest,by omega,hr⟩
   | ne he hr =>
    rw[cz]at e
    injection e with hyx hrest
    injection hyx with hy hx
    subst hy hx
    refine wpAny_bind (he f w _ _ ?_)
    have hri:∀(E:z_) (Q:z_),Q (.bool r) ⟨hp,g,d,tk,os⟩->wpAny (model f w) A.in1 (richCompare .Lt y x) Q E ⟨hp,g,d,tk,os⟩:=hr f w
    wp_walk using hri
    exact⟨_,rfl,by simpa using h⟩
  case fin =>
   rintro⟨b1,b2⟩ s' ⟨hb',rfl,vs,ws,e,c,hR⟩
   simp only at hb';subst hb'
   have hv:r=decide (items.size<a.size):=by
    cases hR with
    | nn=>exact(aK (by simp only[cA]at c;omega)).symm
    | nc=>simp only[cA,aH]at c;exact(aD (by omega)).symm
    | cn=>simp only[cA,aH]at c;exact(aK (by omega)).symm
    | eq=>rw[cz]at e;cases e
    | ne=>rw[cz]at e;cases e
   rw[hv]at h
   wp_walk
   exact⟨_,rfl,by simpa[Builtin.Tuple.tupleCompareSizes] using h⟩
  case h =>
   exact⟨rfl,rfl,items.toList,a.toList,rfl,by simp;omega,hx⟩
theorem Ac5 (l b:Addr)(items a:v7)(n n2:Nat)(dd dd2:Option Addr)(sl sl2:Array (u9))(r:Bool) :
 Meets (Builtin.«tuple.__gt__» ⟨[.ref l,.ref b],[]⟩)
  (fun A R s=>s.heap.get? l=some { cls:=.type "tuple",dict:=dd,data:=.seq items n,slots:=sl }/\s.heap.get? b=some { cls:=.type "tuple",dict:=dd2,data:=.seq a n2,slots:=sl2 } /\
   O6 true A.in1 s items.toList a.toList r/\R (.ok (.ret (.bool r))) s) :=
 .of_wp fun f w A R s h=>by
  obtain⟨hp,g,d,tk,os⟩:=s;obtain⟨hl,hb,hx,h⟩:=h;have f2:=AutoSeq1.sub_tuple_tuple
  wp_walk using wpAny_loadPart' hl,wpAny_loadPart' hb,wpAny_forIn_list _ (fun rest b s'=>b.1=none/\s'=⟨hp,g,d,tk,os⟩/\∃(vs ws:w6),rest=vs.zip ws /\
   vs.length+a.size=ws.length+items.size/\O6 true A.in1 ⟨hp,g,d,tk,os⟩ vs ws r) _
  case turn =>
   rintro⟨y,x⟩ rest b s' ⟨hb',rfl,vs,ws,e,c,hR⟩
   cases hR with
   | nn=>rw[eY]at e;cases e
   | nc=>rw[eY]at e;cases e
   | cn=>rw[List.zip_nil_right]at e;cases e
   | eq he hr =>
    rw[cz]at e
    injection e with hyx hrest
    injection hyx with hy hx
    subst hy hx;simp only[aH]at c
    refine wpAny_bind (he f w _ _ ?_)
    wp_walk
    exact⟨rfl,rfl,_,_,hrest,by omega,hr⟩
   | ne he hr =>
    rw[cz]at e
    injection e with hyx hrest
    injection hyx with hy hx
    subst hy hx
    refine wpAny_bind (he f w _ _ ?_)
    have hri:∀(E:z_) (Q:z_),Q (.bool r) ⟨hp,g,d,tk,os⟩->wpAny (model f w) A.in1 (richCompare .Gt y x) Q E ⟨hp,g,d,tk,os⟩:=hr f w
    wp_walk using hri
    exact⟨_,rfl,by simpa using h⟩
  case fin =>
   rintro⟨b1,b2⟩ s' ⟨hb',rfl,vs,ws,e,c,hR⟩
   simp only at hb';subst hb'
   have hv:r=decide (a.size<items.size):=by
    cases hR with
    | nn=>exact(aK (by simp only[cA]at c;omega)).symm
    | nc=>simp only[cA,aH]at c;exact(aK (by omega)).symm
    | cn=>simp only[cA,aH]at c;exact(aD (by omega)).symm
    | eq=>rw[cz]at e;cases e
    | ne=>rw[cz]at e;cases e
   rw[hv]at h
   wp_walk
   exact⟨_,rfl,by simpa[Builtin.Tuple.tupleCompareSizes] using h⟩
  case h =>
   exact⟨rfl,rfl,items.toList,a.toList,rfl,by simp;omega,hx⟩
end
theorem Bz4 {f:Bool}{A:t_}{s:u_}{l b:Addr}{items a:v7}{r:Bool}(hl:s.heap.IsTuple l items)(hb:s.heap.IsTuple b a)(hx:O6 f A.in1 s items.toList a.toList r)(hu:A.units<cLine):Bs3 f A s (.ref l) (.ref b) r:=by
 intro m w E Q h;obtain⟨⟨o,y,k,v⟩,d,p,n,u⟩:=id hl;obtain⟨⟨j,t,g,q⟩,c,i,z,e⟩:=id hb;subst p u i e
 cases f with
 | false =>
  exact richCompare_meets_room  ⟨_,d,rfl⟩ ⟨_,c,rfl⟩ PySem.F.slot_tuple_lt PySem.F.entry_tuple_lt (PySem.F.args_tuple_lt_2 _ _) (Ac8 l b _ _ n _ _ _ _ _ r)
   ⟨d,c,hx,show Value.bool r≠Value.notImplemented/\Q _ s from ⟨(fun x=>nomatch x),h⟩⟩ hu
 | true =>
  exact richCompare_meets_room  ⟨_,d,rfl⟩ ⟨_,c,rfl⟩ PySem.F.slot_tuple_gt PySem.F.entry_tuple_gt (PySem.F.args_tuple_gt_2 _ _) (Ac5 l b _ _ n _ _ _ _ _ r)
   ⟨d,c,hx,show Value.bool r≠Value.notImplemented/\Q _ s from ⟨(fun x=>nomatch x),h⟩⟩ hu
mutual
theorem A5m (gt:Bool):∀(da db:t6) (A:t_) (s:u_) (a b:Value) (as bs:v6) (r:Bool),Reads s.heap a da as->Reads s.heap b db bs->da.canLay0=true->db.canLay0=true->A.units+da.depth<cLine->Nv gt da db=some r->Bs3 gt A s a b r
 | .int i,db,A,s,a,b,as,bs,r,ra,rb,ca,cb,hu,h=>by
  cases db with
  | int j =>
   cases ra
   cases rb
   cases h
   intro prog w E Q q
   cases gt with
   | false=>exact(PyProof.Rows.lt_int q:wpAny (model prog w) A (compareOp .Lt _ _) Q E s)
   | true=>exact(PyProof.Rows.gt_int q:wpAny (model prog w) A (compareOp .Gt _ _) Q E s)
  | _=>cases h
 | .str i,db,A,s,a,b,as,bs,r,ra,rb,ca,cb,hu,h=>by
  cases db with
  | str j =>
   cases ra
   cases rb
   cases h
   intro prog w E Q q
   cases gt with
   | false=>exact(PyProof.Rows.lt_str q:wpAny (model prog w) A (compareOp .Lt _ _) Q E s)
   | true=>exact(PySem.P.gt_str q:wpAny (model prog w) A (compareOp .Gt _ _) Q E s)
  | _=>cases h
 | .tuple xs,db,A,s,a,b,as,bs,r,ra,rb,ca,cb,hu,h=>by
  cases db with
  | tuple ys =>
   cases ra with
   | tuple h1 h2 h3 h4 =>
    cases rb with
    | tuple g1 g2 g3 g4 =>
     have hu':A.units+(PyData.depthAll xs+1)<cLine:=hu
     exact Bz4 ⟨_,h1,h2,_,h3⟩ ⟨_,g1,g2,_,g3⟩ (Qk gt xs ys A.in1 s _ _ _ _ r h4 g4 ca cb (by show A.units+1+PyData.depthAll xs<cLine;omega) h) (by omega)
  | _=>cases h
 | .none,db,A,s,a,b,as,bs,r,ra,rb,ca,cb,hu,h=>by cases db <;> cases h
 | .bool _,db,A,s,a,b,as,bs,r,ra,rb,ca,cb,hu,h=>by cases db <;> cases h
 | .list _,db,A,s,a,b,as,bs,r,ra,rb,ca,cb,hu,h=>by cases db <;> cases h
 | .dict _,db,A,s,a,b,as,bs,r,ra,rb,ca,cb,hu,h=>by cases db <;> cases h
theorem Qk (gt:Bool):∀(xs ys:w5) (A:t_) (s:u_) (vs ws:w6) (as bs:v6) (r:Bool),ReadsAll s.heap vs xs as->ReadsAll s.heap ws ys bs->PyData.canLayAll0 xs=true->PyData.canLayAll0 ys=true->A.units+PyData.depthAll xs<cLine->Rb gt xs ys=some r->O6 gt A s vs ws r
 | [],[],A,s,vs,ws,as,bs,r,ra,rb,ca,cb,hu,h=>by cases ra;cases rb;cases h;exact .nn
 | [],y::ys,A,s,vs,ws,as,bs,r,ra,rb,ca,cb,hu,h=>by cases ra;cases rb;cases h;exact .nc
 | x::xs,[],A,s,vs,ws,as,bs,r,ra,rb,ca,cb,hu,h=>by cases ra;cases rb;cases h;exact .cn
 | x::xs,y::ys,A,s,vs,ws,as,bs,r,ra,rb,ca,cb,hu,h=>by
  cases ra with
  | cons r1 r2 =>
   cases rb with
   | cons q1 q2 =>
    have ca':=aq.mp ca;have cb':=aq.mp cb;have hu':A.units+max x.depth (PyData.depthAll xs)<cLine:=hu
    have e:=SeqAt.eqAt_reads x y A s _ _ _ _ r1 q1 ca'.1 cb'.1 (by omega)
    rw[Rb]at h
    by_cases he:PyData.eqv x y=true
    ·rw[if_pos he]at h
     rw[he]at e
     exact .eq e (Qk gt xs ys A s _ _ _ _ r r2 q2 ca'.2 cb'.2 (by omega) h)
    ·rw[if_neg he]at h
     rw[gb _ |>.mp he]at e
     exact .ne e (A5m gt x y A s _ _ _ _ r r1 q1 ca'.1 cb'.1 (by omega) h)
end
section
variable {X:Cx}{pins:y_}{σ:St}{H:Hp}{s:u_}
theorem Inv.recS {S:Addr}{o o':Obj}{f:Obj->Obj}{pl:y_}(I:Inv X (pins++(S,o)::pl) σ H s)(hS:X.s₀.heap.objs.size<=S)(hp:∀p∈pins++pl,p.1≠S)(hpn:∀p∈X.pn,p.1≠S)
 (hu:(s.heap.update S f).get? S=some o') (hd:∀v,o'.data≠.cell v):Inv X (pins++(S,o')::pl) σ H { s with heap:=s.heap.update S f }:=by
 obtain⟨p1,p2,p3,p4,p5⟩:=I.pin (S,o) (aJ _ (aJ _ aN))
 have I0:Inv X [] σ H s:=I.pins_of fun p hp=>nomatch hp
 have I1:Inv X [] σ H { s with heap:=s.heap.update S f }:=I0.turned (t':=s.toks) (fun b u hb e=>(Heap.get?_update_other s.heap f (aU hb)).trans e) p2 p3 (.inr hS) (fun x c e z=>by
  obtain⟨v,ob,ho,hdc⟩:=I.cell x c e
  rw[z,p1]at ho;cases ho;exact p5 v hdc) (fun p hp' z=>by
   have hp':p∈X.pn++[]:=hp';rw[cj]at hp'
   exact hpn p hp' z)
 refine I1.pins_of fun p hpp=>?_
 have keep:∀p∈pins++pl,(s.heap.update S f).get? p.1=some p.2/\H p.1=none/\p.1≠X.env.locals/\p.1∉X.fs/\∀v,p.2.data≠.cell v:=fun p hpm=>by
  have hpm':p∈X.pn++(pins++(S,o)::pl):=aJ _ (by
   rcases aX.mp hpm with z | z
   ·exact bN _ z
   ·exact aJ _ (aW _ z))
  obtain⟨q1,q2,q3,q4,q5⟩:=I.pin p hpm';exact⟨(Heap.get?_update_other s.heap f (aU (hp p hpm))).trans q1,q2,q3,q4,q5⟩
 rcases aX.mp hpp with z | z
 ·exact keep p (bN _ z)
 ·rcases az.mp z with rfl | z
  ·exact⟨hu,p2,p3,p4,hd⟩
  ·exact keep p (aJ _ z)
end
def A1x (H:Hp):V->Option Nat
 | .ref p=>match H p with
  | some (.lst xs)=>some xs.length
  | some (.tup xs)=>some xs.length
  | _=>none
 | .str z=>if z.length<=sizeLine then some z.length else none
 | _=>none
def rAppF:V->n8->Hp->VK->Prop:=fun x vs H Q=>∃l y xs,x=.ref l/\vs=[y]/\H l=some (.lst xs)/\xs.length<sizeLine/\Q .non (upd H l (.lst (xs++[y])))
def Bv7 (K:v9)(tl:TE):TI:=fun σ H R=>tl σ H fun x H1=>∃a,x=.ref a/\((∃xs,H1 a=some (.lst xs)/\R (Itl K a) H1)\/(∃xs,H1 a=some (.tup xs)/\R (Itt K a) H1))
section
variable {X:Cx}
theorem A1y:CallR X (.builtin "len") (fun xs H Q=>∃x n,xs=[x]/\A1x H x=some n/\Q (.int (n:Nat)) H):=by
 intro a s σ H xs us Q I r h;obtain⟨x,n,rfl,e,q⟩:=h
 refine Ag8 _ s _ H _ _ Q I r ⟨x,n,rfl,?_,q⟩
 cases x with
 | ref p =>
  have e:(match H p with | some (.lst _)=>some _ | some (.tup _)=>some _ | _=>none)=some n:=e
  cases hp:H p with
  | none=>simp_all
  | some o =>
   rw[hp]at e
   cases o with
   | lst xs=>cases e;exact .inl ⟨xs,SqL.of hp,rfl⟩
   | tup xs=>cases e;exact .inr ⟨xs,SqT.of hp,rfl⟩
   | _=>grind
 | str z =>
  have e:(if z.length<=sizeLine then some _ else none)=some n:=e
  split at e
  ·cases e;trivial
  trivial
 | _=>cases e
theorem Bi2:MtM X "list.append" rAppF:=by
 intro a s j H x k v m Q I e f h;obtain⟨l,y,d,c,g,i,b,q⟩:=h;exact A0x _ s _ H x _ v _ Q I e f ⟨l,d,y,c,g,i,b,q⟩
theorem Bx7 {u l:Expr}{j:TE}(hl:PE X l j):PI X u l (Bv7 X.K j):=by
 intro k s z H R I h
 refine thn (hl _ s _ H _ I h) fun v d ⟨x,m,c,r,f⟩=>?_
 obtain⟨a,e,f⟩:=f;subst e
 cases r
 rcases f with ⟨t,i,q⟩ | ⟨t,i,q⟩
 ·obtain⟨g,w,p,y⟩:=c.list (SqL.of i)
  refine wpAny_pyIter_list p.isList ?_
  refine⟨d.heap.objs.size,[d.heap.objs.size],_,_,m,rfl,c.kept  fun b o e=>Heap.get?_push_of_some _ e,A3i a _,⟨_,Heap.get?_push_size _ rfl,rfl,rfl⟩,fun b n=>?_,q⟩
  have e:b=d.heap.objs.size:=by grind
  subst e;exact c.fpOk (aj _) (c.hok.fresh (aj _))
 ·obtain⟨g,w,p,y⟩:=c.tuple (SqT.of i)
  refine wpAny_pyIter_tuple (show d.heap.IsTuple a _ from p) ?_
  refine⟨d.heap.objs.size,[d.heap.objs.size],_,_,m,rfl,c.kept  fun b o e=>Heap.get?_push_of_some _ e,At8 a _,⟨_,Heap.get?_push_size _ rfl,rfl,rfl⟩,fun b n=>?_,q⟩
  have e:b=d.heap.objs.size:=by grind
  subst e;exact c.fpOk (aj _) (c.hok.fresh (aj _))
def Mq (t:String):List String->Option Bool
 | []=>some false
 | T::r=>match Fw t T with
  | some true=>some true
  | some false=>Mq t r
  | none=>none
theorem Wg {K:v9}{t:String}:∀{Ts:List String}{b:Bool},Mq t Ts=some b->PySem.W.kitAny K (.type t) (Ts.map Value.type)=some b
 | [],b,h=>h
 | T::r,b,h=>by
  have h:(match Fw t T with | some true=>some true | some false=>Mq t r | none=>none)=some b:=h
  show (match PySem.W.kitOne K (.type t) (.type T) with | some true=>some true | some false=>PySem.W.kitAny K (.type t) (r.map Value.type) | none=>none)=some b
  cases e:Fw t T with
  | none=>rw[e]at h;cases h
  | some k =>
   rw[e]at h;rw[Ak0 e]
   cases k with
   | true=>exact h
   | false=>exact Wg h
theorem Ai9:∀{Ts:List String}{us:w6},Vals (Ts.map V.ty) us->us=Ts.map Value.type
 | [],_,.nil=>rfl
 | T::r,_,.cons h t=>by
  cases (show _=Value.type T from h)
  rw[Ai9 t]
  rfl
theorem A0z:CallR X (.builtin "isinstance") (fun xs H Q=>∃x p a t b,xs=[x,.ref p]/\H p=some (.tup (a.map V.ty))/\O8 H x=some t/\Mq t a=some b/\Q (.bl b) H):=by
 intro e s σ H xs us Q I r h;obtain⟨x,p,a,t,b,rfl,d,E,j,q⟩:=h;obtain⟨u,v,rfl,k,l⟩:=Vals.two r
 cases (l)
 obtain⟨z,m,w,o,y,A,⟨n,B⟩,C⟩:=I.hok p _ d;have D:=Ai9 w;subst D;obtain⟨F,dd,f,sl⟩:=o;subst A B
 have c:∀g,EP X _ _ Q _ { s with toks:=g }:=fun g=>⟨.bl b,H,I.tok _,rfl,q⟩
 obtain⟨d,z,p,i⟩:=A9k I k E;exact PySem.W.kia_tup z I.kIn p y (Wg  j) i c
theorem A1g:OpR X (compareOp .LtE) (fun x y H Q=>∃i j,x=.str i/\y=.str j/\Q (.bl (!decide (j.cps.toList<i.cps.toList))) H):=by
 intro a s σ H x y v u Q I b c h;obtain⟨i,j,rfl,rfl,q⟩:=h;obtain⟨t,rfl⟩:=b;obtain⟨t',rfl⟩:=c
 exact PySem.P.le_str (Dg I q (by simp))
end
theorem Ar7:bootBuiltins "len" = some (.builtin "len"):=by decide +kernel
theorem Bs0:bootBuiltins "abs" = some (.builtin "abs"):=by decide +kernel
theorem Pb:bootBuiltins "isinstance" = some (.builtin "isinstance"):=by decide +kernel
theorem B0f:bootBuiltins "all" = some (.builtin "all"):=by decide +kernel
theorem B0o:bootBuiltins "min" = some (.builtin "min"):=by decide +kernel
theorem Bx9:bootBuiltins "max" = some (.builtin "max"):=by decide +kernel
theorem Ae7:bootBuiltins "int" = some (.type "int"):=by decide +kernel
theorem Pr:bootBuiltins "str" = some (.type "str"):=by decide +kernel
theorem Vn:bootBuiltins "bool" = some (.type "bool"):=by decide +kernel
theorem Oi:bootBuiltins "list" = some (.type "list"):=by decide +kernel
theorem Fq:bootBuiltins "tuple" = some (.type "tuple"):=by decide +kernel
theorem Be4:bootBuiltins "dict" = some (.type "dict"):=by decide +kernel
theorem A8e:bootBuiltins "set" = some (.type "set"):=by decide +kernel
theorem Dt {X:Cx}{N':v4}{idx:p6}{scope:Scope}(h1:scope.kind=.function)(h2:(0:Nat)=0)(h3:(scope.names.map (·.1)).Nodup)
 (h4:(scope.names.all fun y=>decide (y.2≠.free)||decide (X.env.kindOf y.1=some .cell)||decide (X.env.kindOf y.1=some .free))=true) (h5:idx.length=N'.length)
 (h6:((idx.zip N').all fun p=>match p.1 with | none=>true | some i=>decide (X.N[i]?=some p.2)&&decide (scope.names.lookup p.2=some .free))=true):Jo X N' idx scope where
 kind:=h1
 nod:=h3
 free:=fun y hy hf=>by
  have h:=bz.mp h4 y hy;simp only[Bool.or_eq_true,decide_eq_true_eq]at h
  rcases h with (h | h) | h
  ·exact absurd hf h
  ·exact .inl h
  ·exact .inr h
 len:=h5
 at':=fun j i x e1 e2=>by
  have hz:(some i,x)∈idx.zip N':=by
   have:(idx.zip N')[j]?=some (some i,x):=by simp[List.getElem?_zip_eq_some,e1,e2]
   exact bR this
  have h:=bz.mp h6 _ hz;simp only[cJ,decide_eq_true_eq]at h;exact h
def Vt:Expr->Option V
 | .Constant (.int i) _ _=>some (.int i)
 | .Constant (.str x) _ _=>some (.str x)
 | .Constant (.bool b) _ _=>some (.bl b)
 | .Constant .none _ _=>some .non
 | _=>none
def Rj:v_->Option (n8)
 | []=>some []
 | e::es=>match Vt e,Rj es with
  | some v,some vs=>some (v::vs)
  | _,_=>none
def tK (vs:n8):TA:=fun _ H Q=>Q vs H
theorem A4s {X:Cx}{e:Expr}{v:V}(h:Vt e=some v):PE X e (tC v)/\∀es,starEach (e::es) X.env=(false,eval e X.env)::starEach es X.env:=by
 unfold Vt at h
 split at h <;> first
  | (cases h;exact⟨A9f,fun _=>rfl⟩)
  | (cases h;exact⟨A4w,fun _=>rfl⟩)
  | (cases h;exact⟨Bl1,fun _=>rfl⟩)
  | (cases h;exact⟨A7l,fun _=>rfl⟩)
  | cases h
theorem Yg {X:Cx}:∀{es:v_}{vs:n8},Rj es=some vs->PA X es (tK vs)
 | [],vs,h=>by cases h;exact Qt
 | e::es,vs,h=>by
  have h:(match Vt e,Rj es with | some v,some vs=>some (v::vs) | _,_=>none)=some vs:=h
  cases e1:Vt e with
  | none=>rw[e1]at h;cases h
  | some v =>
   cases e2:Rj es with
   | none=>rw[e1,e2]at h;cases h
   | some r =>
    rw[e1,e2]at h
    cases h
    obtain⟨p1,p2⟩:=A4s (X:=X) e1;exact Aw9 p1 (Yg e2) (p2 es)
def isStar:Expr->Bool
 | .Starred ..=>true
 | _=>false
def noStar:v_->Bool
 | []=>true
 | e::es=>!isStar e&&noStar es
theorem Gx {e:Expr}{es:v_}{env:Env}(h:isStar e=false):starEach (e::es) env=(false,eval e env)::starEach es env:=by
 cases e <;> first | rfl | cases h
theorem Mv {pos:Pos}{env:Env}:∀{es:v_},noStar es=true->(backTo pos (starEach es env)).any (·.1)=false
 | [],_=>rfl
 | e::es,h=>by
  obtain⟨h1,h2⟩:=aq.mp h
  rw[Gx (by simpa using h1)]
  show (false||(backTo pos (starEach es env)).any (·.1))=false
  rw[Mv h2]
  rfl
theorem Hh {e:Expr}{es:v_}(h:noStar (e::es)=true):isStar e=false/\noStar es=true:=by
 obtain⟨b,a⟩:=aq.mp h
 simp_all
section
variable {X:Cx}{CX:CXT}{k:Nat}{f:Addr}{fd:u5}{ps:v4}{sp:Sp}{dvs:n8}{ds:w6}{E:XK}{x:Str}{p pos:Pos}{e:Expr}{es:v_}{te:TE}{t:TA}{id T:String}{r:n8->Hp->VK->Prop}
theorem A2n (ha:PE X e te)(hr:PA X es t)(hs:isStar e=false:=by rfl):PA X (e::es) (Cw te t):=Aw9 ha hr (Gx hs)
theorem A9i (F:FnOk X.prog X.w X.K X.mg X.base CX k f fd ps sp)(hr:Room k X.A)(hg:Gl X x)(hm:X.mg x=some (.ref f))(hk:PySem.W.keepIn X.K (.ref f)=true)(hb:Binds X.K fd ps ds)(hd:Vals dvs ds)(hx:Wi CX X E)
 (ha:PA X (e::es) t) (hdb:(x==("__debug__" : Str))=false:=by decide) (hn:noStar (e::es)=true:=by rfl):PE X (.Call (.Name x p) (e::es) [] pos) (Zi sp dvs E t) :=
 Bg2 F hr hg hm hk hb hd hx ha hdb (Gx (Hh hn).1) (Mv (Hh hn).2)
theorem Gy (hc:CallR X (.builtin id) r)(hg:Gl X x)(hm:X.mg x=none)(hv:bootBuiltins x=some (.builtin id))(ha:PA X (e::es) t)(hn:x ≠ "__name__" := by decide) (hdb:(x==("__debug__" : Str))=false:=by decide)
 (hns:noStar (e::es)=true:=by rfl):PE X (.Call (.Name x p) (e::es) [] pos) (tCB r t):=A4p hc hg hm hv ha hn hdb (Gx (Hh hns).1) (Mv (Hh hns).2)
theorem Hy (hc:CallR X (.type T) r)(hg:Gl X x)(hm:X.mg x=none)(hv:bootBuiltins x=some (.type T))(ha:PA X (e::es) t)(hn:x ≠ "__name__" := by decide) (hdb:(x==("__debug__" : Str))=false:=by decide)
 (hns:noStar (e::es)=true:=by rfl):PE X (.Call (.Name x p) (e::es) [] pos) (tCB r t):=A3r hc hg hm hv ha hn hdb (Gx (Hh hns).1) (Mv (Hh hns).2)
end
section
variable {X:Cx}{a b e:Expr}{es:v_}{ta tb te:TE}{t:TA}{p pos apos cpos:Pos}{p2:Pos}
theorem Gw {f:Expr}{args:v_}{b:List Keyword}{a:Pos}:Mf (.Call f args b a):=fun _ _=>rfl
theorem Ih {x:Str}{a:Pos}:Mf (.Name x a):=fun _ _=>rfl
theorem Ba {i:Int}{j}{a:Pos}:Mf (.Constant (.int i) j a):=fun _ _=>rfl
theorem plain_bin {a b:Expr}{op}{c:Pos}:Mf (.BinOp a op b c):=fun _ _=>rfl
theorem A0u (ha:PE X a ta)(hb:PE X b tb):PE X (.BinOp a .Sub b pos) (tOp (rI0 fun i j=>.int (i-j)) ta tb):=Yn Bx4 ha hb
theorem A1k (ha:PE X a ta)(hb:PE X b tb):PE X (.BinOp a .Mult b pos) (tOp (rI CMul fun i j=>.int (i*j)) ta tb):=Yn Bu0 ha hb
theorem At3 (ha:PE X a ta)(hb:PE X b tb):PE X (.BinOp a .FloorDiv b pos) (tOp (rI A7p fun i j=>.int (i / j)) ta tb):=Yn Bd6 ha hb
theorem A2b (ha:PE X a ta)(hb:PE X b tb):PE X (.BinOp a .Mod b pos) (tOp (rI (fun _ j=>0<j) fun i j=>.int (i % j)) ta tb):=Yn Bo8 ha hb
theorem A2d (ha:PE X a ta)(hb:PE X b tb):PE X (.BinOp a .Pow b pos) (tOp (rI A3z fun i j=>.int (i ^ j.toNat)) ta tb):=Yn Br1 ha hb
def B3y:R2:=fun x y H Q=>∃da db,Tr H da x/\Tr H db y/\Flat da/\Flat db/\Q (.bl (PyData.eqv da db)) H
def B3w:R2:=fun x y H Q=>∃da db,Tr H da x/\Tr H db y/\Flat da/\Flat db/\Q (.bl (!PyData.eqv da db)) H
theorem A9c (ha:PE X a ta)(hb:PE X b tb):PT X (.Compare a [.Lt] [b] pos) (Le (tOp (rI0 fun i j=>.bl (decide (i<j))) ta tb)):=Mw B0y ha hb (Kw _)
theorem A5n (ha:PE X a ta)(hb:PE X b tb):PE X (.Compare a [.Gt] [b] pos) (tOp (rI0 fun i j=>.bl (decide (j<i))) ta tb):=Oq Bn6 ha hb (Kw _)
theorem A8r (ha:PE X a ta)(hb:PE X b tb):PT X (.Compare a [.Gt] [b] pos) (Le (tOp (rI0 fun i j=>.bl (decide (j<i))) ta tb)):=Mw Bn6 ha hb (Kw _)
theorem A4x (ha:PE X a ta)(hb:PE X b tb):PE X (.Compare a [.GtE] [b] pos) (tOp (rI0 fun i j=>.bl (decide (j<=i))) ta tb):=Oq B1z ha hb (Kw _)
theorem A3g (ha:PE X a ta)(hb:PE X b tb):PE X (.Compare a [.Is] [b] pos) (tOp (fun x y H Q=>y=.non/\Q (.bl (decide (x=.non))) H) ta tb):=Oq A7j ha hb (Kw _)
theorem A3c (ha:PE X a ta)(hb:PE X b tb):PT X (.Compare a [.Is] [b] pos) (Le (tOp (fun x y H Q=>y=.non/\Q (.bl (decide (x=.non))) H) ta tb)):=Mw A7j ha hb (Kw _)
theorem Bt6 (ha:PE X a ta):PE X (.UnaryOp .USub a pos) (tUn (rU fun i=>.int (-i)) ta):=B0w Br6 ha
def Uk (K:v9):n8->Hp->VK->Prop:=fun xs H Q=>∃x n,xs=[x]/\A1x H x=some n/\Q (.int (n:Nat)) H
def Ap8 (K:v9):n8->Hp->VK->Prop:=fun xs H Q=>∃x n,xs=[x]/\B3a K x H n/\Q (.int n) H
def Pj (K:v9):n8->Hp->VK->Prop:=fun xs H Q=>∃i,xs=[.int i]/\Q (.int (if i<0 then -i else i)) H
theorem Aj2 (hgl:Gl X "abs") (hm:X.mg "abs" = none) (ha:PA X (e::es) t) (hns:noStar (e::es)=true:=by rfl):PE X (.Call (.Name "abs" p) (e::es) [] pos) (tCB (Pj X.K) t):=Gy A6p hgl hm Bs0 ha (by decide) (by rfl) hns
def Qi (K:v9):n8->Hp->VK->Prop:=fun xs H Q=>∃x T t b,xs=[x,.ty T]/\O8 H x=some t/\Fw t T=some b/\Q (.bl b) H
theorem Ag9 (hgl:Gl X "isinstance") (hm:X.mg "isinstance" = none) (ha:PA X (e::es) t) (hns:noStar (e::es)=true:=by rfl):PE X (.Call (.Name "isinstance" p) (e::es) [] pos) (tCB (Qi X.K) t):=Gy A5c hgl hm Pb ha (by decide) (by rfl) hns
def Kg (K:v9):n8->Hp->VK->Prop:=fun xs H Q=>∃x p Ts t b,xs=[x,.ref p]/\H p=some (.tup (Ts.map V.ty))/\O8 H x=some t/\Mq t Ts=some b/\Q (.bl b) H
theorem Ac0 (hgl:Gl X "isinstance") (hm:X.mg "isinstance" = none) (ha:PA X (e::es) t) (hns:noStar (e::es)=true:=by rfl):PE X (.Call (.Name "isinstance" p) (e::es) [] pos) (tCB (Kg X.K) t):=Gy A0z hgl hm Pb ha (by decide) (by rfl) hns
def Ng (K:v9):n8->Hp->VK->Prop:=fun xs H Q=>∃(a:Addr) (bs:List Bool),xs=[.ref a]/\SqL K H a (bs.map V.bl)/\Q (.bl (bs.all id)) H
theorem Ad0 (hc:X.calm=true)(hgl:Gl X "all") (hm:X.mg "all" = none) (ha:PA X (e::es) t) (hns:noStar (e::es)=true:=by rfl):PE X (.Call (.Name "all" p) (e::es) [] pos) (tCB (Ng X.K) t):=Gy (A1m hc) hgl hm B0f ha (by decide) (by rfl) hns
def Nf (K:v9):n8->Hp->VK->Prop:=fun xs H Q=>(∃i,xs=[.int i]/\Q (.int i) H)\/∃k,xs=[.bl k]/\Q (.int (if k then 1 else 0)) H
theorem Z2 (hgl:Gl X "int") (hm:X.mg "int" = none) (ha:PA X (e::es) t) (hns:noStar (e::es)=true:=by rfl):PE X (.Call (.Name "int" p) (e::es) [] pos) (tCB (Nf X.K) t):=Hy A0w hgl hm Ae7 ha (by decide) (by rfl) hns
def V8 (K:v9):n8->Hp->VK->Prop:=fun xs H Q=>∃i:Int,xs=[.int i]/\i.natAbs.log2<1920/\Q (.str (toString i)) H
def Ak2 (K:v9):n8->Hp->VK->Prop:=fun xs H Q=>∃a d,xs=[.ref a]/\Tr H d (.ref a)/\d.showable=true/\d.hasDict=false/\d.depth<=40/\d.shown.length<=sizeLine/\Q (.str d.shown) H
def Ja (K:v9):n8->Hp->VK->Prop:=fun xs H Q=>∃p ys,xs=[.ref p]/\((SqL K H p ys/\∀l,H l=none->Q (.ref l) (upd H l (.tup ys)))\/(SqT K H p ys/\Q (.ref p) H))
theorem Ue (hgl:Gl X "tuple") (hm:X.mg "tuple" = none) (ha:PA X (e::es) t) (hns:noStar (e::es)=true:=by rfl):PE X (.Call (.Name "tuple" p) (e::es) [] pos) (tCB (Ja X.K) t):=Hy Xw hgl hm Fq ha (by decide) (by rfl) hns
def J8 (K:v9):n8->Hp->VK->Prop:=fun xs H Q=>∃p ys,xs=[.ref p]/\(SqL K H p ys\/SqT K H p ys)/\∀l,H l=none->Q (.ref l) (upd H l (.lst ys))
theorem U7 (hgl:Gl X "list") (hm:X.mg "list" = none) (ha:PA X (e::es) t) (hns:noStar (e::es)=true:=by rfl):PE X (.Call (.Name "list" p) (e::es) [] pos) (tCB (J8 X.K) t):=Hy Z6 hgl hm Oi ha (by decide) (by rfl) hns
def Nu (K:v9):n8->Hp->VK->Prop:=fun xs H Q=>∃i j,xs=[.int i,.int j]/\Q (.int (if j<i then j else i)) H
theorem Ad1 (hc:X.calm=true)(hgl:Gl X "min") (hm:X.mg "min" = none) (ha:PA X (e::es) t) (hns:noStar (e::es)=true:=by rfl):PE X (.Call (.Name "min" p) (e::es) [] pos) (tCB (Nu X.K) t):=Gy (A3h hc) hgl hm B0o ha (by decide) (by rfl) hns
theorem A0s (ho:PE X a ta)(hv:PE X e te)(hbase:attributeBase a "append" X.env (eval a X.env)=eval a X.env:=by rfl)
 (hfew:((backTo cpos (starEach [e] X.env)).all (fun x=>!x.1)&&(backToKw cpos (keywordEach [] X.env)).all (fun x=>x.1.isSome)
  && decide ([e].length+([]:List Keyword).length+(if ([]:List Keyword).isEmpty then 0 else 1)<30))=true:=by rfl)
 (hline:(apos.endLine==cpos.line)=true:=by rfl) (hns:isStar e=false:=by rfl) :
 PE X (.Call (.Attribute a "append" apos) [e] [] cpos) (tBM X.K "list" rAppF ta (Cw te Gf)) :=
 Bl2 gf PySem.F.slot_list_append PySem.F.type_list_append Bi2 ho (A2n hv Qt hns) hbase hfew hline (Gx hns) rfl
end
def Nz {α:Type}[DecidableEq α](ks:List α)(k:α):Bool:=ks.any fun x=>decide (x=k)
theorem memB_iff {a:Type}[DecidableEq a]{ks:List a}{k:a}:Nz ks k=true↔k∈ks:=by simp[Nz]
theorem memB_snoc {b:Type}[DecidableEq b]{ks:List b}{k a:b}:Nz (ks++[k]) a=(Nz ks a||decide (a=k)):=by
 unfold Nz
 grind
def Lj {α:Type}[DecidableEq α](acc:List α)(x:α):List α:=if Nz acc x=true then acc else acc++[x]
def dst {α:Type}[DecidableEq α](xs:List α):List α:=xs.foldl Lj []
theorem Lg {a:Type}[DecidableEq a](xs:List a)(x:a):dst (xs++[x])=Lj (dst xs) x:=by
 unfold dst;grind
theorem Ot {α:Type}[DecidableEq α]:∀(n:Nat) (xs:List α),xs.length=n->(dst xs).length<=n
 | 0,xs,h=>by cases xs with | nil=>exact aj _ | cons a r=>cases h
 | n+1,xs,h=>by
  rcases gh xs with rfl | ⟨ys,y,rfl⟩
  ·cases h
  ·rw[gj]at h ⊢
   have hy:ys.length=n:=by simpa using h
   have ih:=Ot n ys hy;rw[Lg];unfold Lj;split
   ·omega
   ·simp;omega
def keyV:V->Option Key
 | .int i=>some (.inl i)
 | .str x=>some (.inr x)
 | _=>none
theorem Bb9 {v:V}{k:Key}{u:Value}(h:keyV v=some k)(r:RelV v u):Rf k u=true/\u.scannable=true:=by
 cases v with
 | int i=>cases h;obtain⟨t,rfl⟩:=r;exact⟨Zm i t,rfl⟩
 | str x=>cases h;obtain⟨t,rfl⟩:=r;exact⟨Yz x t,rfl⟩
 | _=>cases h
def Xz (P:u6)(w:World)(a:Addr)(ks:List Key)(h:Heap):Prop:=h.SetOf (Gd P w) a (Nz ks) ks.length
def Ba9 (P:u6)(w:World)(a:Addr)(ks:List Key):HO:=.ext (Xz P w a ks)
theorem S7 {P:u6}{w:World}{a:Addr}{ks:List Key}{h h':Heap}(hs:Xz P w a ks h)(k:∀o,h.get? a=some o->h'.get? a=some o):Xz P w a ks h':=by
 obtain⟨o,c,d,t,e,b⟩:=hs;exact⟨o,c,d,t,k o e,b⟩
theorem A2j {P:u6}{w:World}{a:Addr}{ks:List Key}{k:Key}{h:Heap}
 (x:h.SetOf (Gd P w) a (fun b=>Nz ks b||decide (b=k)) (if Nz ks k then ks.length else ks.length+1)):Xz P w a (Lj ks k) h:=by
 unfold Xz Lj
 by_cases hk:Nz ks k=true
 ·have e:(fun b=>Nz ks b||decide (b=k))=Nz ks:=by
   grind
  simp_all
 ·have e:(fun b=>Nz ks b||decide (b=k))=Nz (ks++[k]):=by
   funext b
   exact memB_snoc.symm
  simp_all
section
variable {P:u6}{w:World}{A:t_}
theorem fill {J S:Addr}{fp h:v6}{j:Array GenState->Array GenState->Prop}{n:Nat}{Pv:Nat->Value->Prop}{E:Nat->u_->Prop}{R:Result->u_->Prop}(W:WalksS P w A.in1 J fp h j n Pv E)(p:S∉fp)
 (ks:List Key) (g:ks.length=n) (is:∀i v,Pv i v->∃k,ks[i]?=some k/\Rf k v=true/\v.scannable=true) (Q:n+1<scanBound) (z:u_)
 (G:∀s,Moved (S::h) j z s->Xz P w S (dst ks) s.heap->R (.ok (.ret .none)) s) :
 ∀(m i:Nat) (s:u_),i+m=n->E i s->Moved (S::h) j z s->Xz P w S (dst (ks.take i)) s.heap->codeAny (model P w) A (.builtin "set.update.loop" ⟨[.ref S,.ref J],[]⟩) R s:=by
 have c:S∉h:=fun q=>p (W.sub S q)
 have f:∀b,b∈h->b∈S::h:=fun b q=>.tail _ q
 intro m
 induction m with
 | zero =>
  intro i s e K D r;have e:i=n:=e;subst e;apply codeAny_builtin eZ;rw[Around.under_plainId dF _];apply wpAny_bind (m:=pyNext (.ref J));apply W.done s _ _ K;intro d a;apply wpAny_pure
  refine G d (Moved.trans W.gtrans D (a.mono f)) ?_
  have t:ks.take i=ks:=by rw[<- g];exact e_
  rw[t]at r
  exact S7 r fun o q=>a.heap S o c q
 | succ m ih =>
  intro i s e K D r
  have V:i<n:=by omega
  apply codeAny_builtin eZ;rw[Around.under_plainId dF _];apply wpAny_bind (m:=pyNext (.ref J));apply W.item i s _ _ V K;intro v d Z F a;obtain⟨k,U,O,X⟩:=is i v Z;have H:Moved (S::h) j z d:=Moved.trans W.gtrans D (a.mono f)
  show wpAny _ A.in1 (holding [v] (setAdd S v) >>= _) _ _ d
  apply wpAny_bind;apply wpAny_holding;unfold setAdd;apply wpAny_holding;apply wpAny_bind
  refine (Gd P w).pyHash (k:=k) O ?_
  have l:(dst (ks.take i)).length+1<scanBound:=by
   have:=Ot _ (ks.take i) rfl
   have:(ks.take i).length<=n:=by rw[<- g];exact List.length_take_le' _ _
   omega
  have tk:ks.take (i+1)=ks.take i++[k]:=by rw[List.take_add_one,U];rfl
  have T:∀(B:Nat),d.toks<=B->wpAny (model P w) A.in1 (setAddHashed S v ((Gd P w).hash k)) (fun _ u=>Moved (S::h) j z u/\Xz P w S (dst (ks.take (i+1))) u.heap/\E (i+1) u) (fun _ _=>False) { d with toks:=B }:=by
   intro B N
   refine wpAny_setAddHashed_of (knd:=Gd P w) (s:={ d with toks:=B }) O X (S7 r fun o q=>a.heap S o c q) l fun Y M so=>?_
   refine⟨Moved.then_heap H N fun b o q x=>?_,?_,W.frame (i+1) d Y _ F N fun b q o x=>?_⟩
   ·rw[M.2 b fun y=>q (y▸.head _)];exact x
   ·rw[tk,Lg];exact A2j so
   ·rw[M.2 b fun y=>p (y▸q)];exact x
  refine wpAny_mono (T _ (dO _)) (fun b u y=>?_) fun _ _ q=>q.elim
  obtain⟨I,L,C⟩:=y
  exact wpAny_pure ⟨plainId_quiet dF _,ih _ _ (by omega) C I L⟩
abbrev bare (led:Bool):Obj:={ cls:=.type "set",dict:=none,data:=.set #[] 0 (.fresh 0 0 led) }
abbrev Cy (s:u_)(led:Bool):u_:={ s with heap:=s.heap.push (bare led) }
theorem Mh (s:u_)(led:Bool):(Cy s led).heap.get? s.heap.objs.size=some (bare led):=Heap.get?_push_size _ rfl
abbrev A9l (P:u6)(w:World)(A:t_)(R:Result->u_->Prop)(f:Fin)(z:u_):Prop:=match f with
 | .done f=>R (.ok f) z
 | .again c=>c.quiet=true/\codeAny (model P w) A c R z
theorem Vq {a:Value}{s:u_}{Q:z_}{E:z_}(Z:u_->Prop)(hZ:∀z,Z z->Q (.ref s.heap.objs.size) z)
 (body:∀b:Bool,wpAny (model P w) A.in1.in1 (Builtin.«set.__init__» ⟨[.ref s.heap.objs.size,a],[]⟩) (A9l P w A.in1 (wants (fun r z=>r=.none/\Z z) E)) (fun e z=>wants (fun r z=>r=.none/\Z z) E (.error e) z) (Cy s b)) :
 wpAny (model P w) A (call (.type "set") [a]) Q E s:=by
 have tc:=F.called_set;obtain⟨c0,cs,mro⟩:=tc.mro;have f1:=tc.made;have f2:=tc.sub;have f3:=tc.notType;have f4:=tc.canCreate;have f5:=F.typeCall_set_1 a;apply wpAny_call;apply codeAny_of_tree
 show wpAny _ _ (callAny (.type "set") ⟨[a],[]⟩) _ _ _
 refine wpAny_pure (And.intro (Code.quiet_builtin _ (by decide +kernel)) (codeAny_builtin F.entry_type_call ?_))
 rw[Around.under_plain (weight_type_call_type "set" [a] []) rfl]
 repeat any_goals first | wp_step | assumption
 have made:=code_set_new_1 (prog:=P) (w:=w) (A:=A.in1) (E:=E) (s:=s) a (Q₁:=fun o z=>∃b,o=.ref s.heap.objs.size/\z=Cy s b) fun b=>⟨b,rfl,rfl⟩
 refine codeAny_mono made fun r z hz=>?_
 rcases r with (_ | f)
 ·exact hz
 cases f with
 | ret o =>
  obtain⟨b,rfl,rfl⟩:=hz;have ty:Shared.TypeIs (Cy s b) (.ref s.heap.objs.size) "set" := ⟨_,Mh s b,rfl⟩;have f6:=tc.init.lookup;have f7:=tc.init.bind (.ref s.heap.objs.size)
  repeat any_goals first | wp_step | assumption
  refine codeAny_mono (codeAny_call_builtin (R:=wants (fun r z=>r=.none/\Z z) E) tc.init.plain F.entry_set_init (check_set_init_1 (a:=a) ty (body b))) fun r z hz=>?_
  rcases r with (_ | f)
  ·exact hz
  cases f with
  | ret o =>
   obtain⟨rfl,hz⟩:=hz
   repeat any_goals first | wp_step | assumption
   exact hZ _ hz
  | _=>exact hz.elim
 | _=>exact hz.elim
end
section
variable {X:Cx}
def Q5 (P:u6)(w:World):n8->Hp->VK->Prop:=fun xs H Q=>∃(p:Addr) (ks:List Key),xs=[.ref p]/\H p=some (Ba9 P w p ks)/\ks.length<1000/\Q (.int (ks.length:Nat)) H
theorem Aj5:CallR X (.builtin "len") (Q5 X.prog X.w):=by
 intro a s σ H xs us Q I r h;obtain⟨p,ks,rfl,d,hn,q⟩:=h;obtain⟨u,rfl,f⟩:=vals1 r
 cases (f)
 obtain⟨⟨o,es,ep,t,e,c,g,x3,x4,x5,i,b⟩,_⟩:=I.hok p _ d
 refine call_len_set e c g i (by omega) ?_
 rw[b];exact⟨.int _,H,I.tok _ |>.tok _,⟨_,rfl⟩,q⟩
end
section
variable {P:u6}{w:World}{A:t_}{E:z_}{s:u_}
theorem Uw {j u:Addr}{k:Nat}{Q:z_}(a:s.heap.IsTupleIter j u k)
 (body:wpAny (model P w) A.in1 (Builtin.«tuple_iterator.__next__» ⟨[.ref j],[]⟩) (fun f z=>∃v,f=.done (.ret v)/\Q v z) E s) :
 wpAny (model P w) A (Builtin.SmallTypes.nextOf (.ref j)) Q E s:=by
 apply wpAny_bind
 refine wpAny_callSpecial?_slot  a.typeIs F.slot_tuple_iterator_next ?_
 refine wpAny_call_entry F.slot_tuple_iterator_next a.typeIs F.entry_tuple_iterator_next ?_ (F.args_tuple_iterator_next_1 _)
 refine wpAny_mono body (fun f z c=>?_) fun _ _ q=>q
 obtain⟨v,b,q⟩:=c;exact⟨v,b,wpAny_pure q⟩
theorem Ao1 {j u:Addr}{k:Nat}{vs:v7}{x:Value}{Q:z_}(c:s.heap.IsTupleIter j u k)(g:s.heap.IsTuple u vs)(hx:vs[k]?=some x)
 (q:∀h',h'.IsTupleIter j u (k+1)->Heap.SameBut j s.heap h'->Q x { s with heap:=h' }):wpAny (model P w) A (Builtin.SmallTypes.nextOf (.ref j)) Q E s:=by
 refine Uw c ?_
 obtain⟨o,d,f,b⟩:=c;obtain⟨i,h,_,n,e⟩:=g;apply wpAny_bind (m:=field _ 0);apply wpAny_field d b  rfl;apply wpAny_bind ;apply wpAny_field d b  rfl;apply wpAny_bind ;apply wpAny_seqItems h e;simp only[hx,cM];apply wpAny_bind
 apply wpAny_setField d b (by simp)
 apply wpAny_pure
 refine⟨x,rfl,q _ ⟨_,(Heap.get?_update_self (Obj.mapFields fun a=>a.setIfInBounds 1 (rawInt (k+1))) d (Obj.isFreed_of_fields (Obj.data_mapFields b _))),(Obj.cls_mapFields ..).trans f,?_⟩ (Heap.SameBut.update ..)⟩
 rw[Obj.data_mapFields b]
 trivial
theorem A0y {j u:Addr}{k:Nat}{vs:v7}{Q:z_}(c:A.handled=none)(d:s.heap.IsTupleIter j u k)(h:s.heap.IsTuple u vs)(hx:vs[k]?=none)
 (q:∀h' e,Heap.ExtBut j s.heap h'->(∃o,h'.get? e=some o/\o.cls=.type "StopIteration")->E (.ref e) { s with heap:=h' }):wpAny (model P w) A (Builtin.SmallTypes.nextOf (.ref j)) Q E s:=by
 refine Uw d ?_
 obtain⟨o,f,r,g⟩:=d;obtain⟨t,i,_,n,l⟩:=h;apply wpAny_bind (m:=field (.ref j) 0);apply wpAny_field f g (x:=.ref u) rfl;have p:¬ ((Value.ref u==Value.none)=true):=bu
 show wpAny _ _ (if (Value.ref u==.none)=true then _ else _) _ _ _
 rw[if_neg p];apply wpAny_bind (m:=field (.ref j) 1);apply wpAny_field f g (x:=.int k 0) rfl;apply wpAny_bind (m:=seqItems? (.ref u));apply wpAny_seqItems i l;simp only[hx,cM];apply wpAny_bind;apply wpAny_rule;apply wpAny_bind
 apply wpAny_setField f g (by simp)
 apply wpAny_bind (m:=newExc (.type "StopIteration") []);unfold newExc newTuple;apply wpAny_bind
 refine wpAny_newObj_type ?_ (by size_fits )
 apply wpAny_bind (m:=firstArgMember _ _)
 refine wpAny_of_eq (a:=Value.none) (by simp only[firstArgMember];rfl) ?_
 refine wpAny_newObj_type ?_ (by size_fits )
 unfold raiseNew;apply wpAny_bind;apply wpAny_handled;have b:A.in1.handled=none:=c;rw[b]
 refine wpAny_bind (wpAny_pure ?_)
 apply wpAny_throw;exact q _ _ (((Heap.SameBut.update ..).extBut.push _).push _) ⟨_,Heap.get?_push_size _ rfl,rfl⟩
def ItAt (t:Bool)(h:Heap)(j u:Addr)(k:Nat):Prop:=match t with
 | true=>h.IsTupleIter j u k
 | false=>h.IsListIter j u k
def SqA (t:Bool)(h:Heap)(u:Addr)(vs:v7):Prop:=match t with
 | true=>h.IsTuple u vs
 | false=>h.IsList u vs
theorem ItAt.stay {t:Bool}{h h':Heap}{j u:Addr}{k:Nat}(x:ItAt t h j u k)(q:∀o,h.get? j=some o->h'.get? j=some o):ItAt t h' j u k:=by
 cases t <;> (obtain⟨o,e,r⟩:=x;exact⟨o,q o e,r⟩)
theorem ItAt.obj {t:Bool}{h:Heap}{j u:Addr}{k:Nat}(x:ItAt t h j u k):∃o,h.get? j=some o/\o.data=.fields #[.ref u,.int k 0]:=by
 cases t <;> (obtain⟨o,e,_,r⟩:=x;grind)
theorem SqA.stay {t:Bool}{h h':Heap}{u:Addr}{vs:v7}(x:SqA t h u vs)(q:∀o,h.get? u=some o->h'.get? u=some o):SqA t h' u vs:=by
 cases t <;> (obtain⟨o,e,r⟩:=x;exact⟨o,q o e,r⟩)
theorem next_item {t:Bool}{j u:Addr}{k:Nat}{vs:v7}{x:Value}{Q:z_}(a:ItAt t s.heap j u k)(b:SqA t s.heap u vs)(hx:vs[k]?=some x)
 (q:∀h',ItAt t h' j u (k+1)->Heap.SameBut j s.heap h'->Q x { s with heap:=h' }):wpAny (model P w) A (Builtin.SmallTypes.nextOf (.ref j)) Q E s:=by
 cases t
 ·exact wpAny_nextOf_list_item a b hx q
 ·exact Ao1 a b hx q
theorem next_end {t:Bool}{j u:Addr}{k:Nat}{vs:v7}{Q:z_}(c:A.handled=none)(a:ItAt t s.heap j u k)(b:SqA t s.heap u vs)(hx:vs[k]?=none)
 (q:∀h' e,Heap.ExtBut j s.heap h'->(∃o,h'.get? e=some o/\o.cls=.type "StopIteration")->E (.ref e) { s with heap:=h' }):wpAny (model P w) A (Builtin.SmallTypes.nextOf (.ref j)) Q E s:=by
 cases t
 ·exact wpAny_nextOf_list_end c a b hx q
 ·exact A0y c a b hx q
structure Ak9 (h:Heap) (t1 t2:Bool) (z ti to i1 i2 a b:Addr) (f0:Value) (k:Nat):Prop where
 zip:IsZip h z ti to f0
 ins:IsPair h ti (.ref i1) (.ref i2)
 outs:∃u v,IsPair h to u v
 one:ItAt t1 h i1 a k
 two:ItAt t2 h i2 b k
structure zA (z ti to i1 i2 a b:Addr):Prop where
 nd:[z,ti,to,i1,i2].Nodup
 na:a∉[z,ti,to,i1,i2]
 nb:b∉[z,ti,to,i1,i2]
theorem zA.z_ti (x:zA z ti to i1 i2 a b):ti≠z:=by have:=x.nd;grind
theorem zA.z_to (x:zA z ti to i1 i2 a b):to≠z:=by have:=x.nd;grind
theorem zA.z_i1 (x:zA z ti to i1 i2 a b):i1≠z:=by have:=x.nd;grind
theorem zA.z_i2 (x:zA z ti to i1 i2 a b):i2≠z:=by have:=x.nd;grind
theorem zA.to_i1 (x:zA z ti to i1 i2 a b):to≠i1:=by have:=x.nd;simp_all
theorem zA.to_i2 (x:zA z ti to i1 i2 a b):to≠i2:=by have:=x.nd;simp_all
theorem zA.i1_i2 (x:zA z ti to i1 i2 a b):i1≠i2:=by have:=x.nd;simp_all
theorem zA.ti_to (x:zA z ti to i1 i2 a b):ti≠to:=by have:=x.nd;simp_all
theorem zA.ti_i1 (x:zA z ti to i1 i2 a b):ti≠i1:=by have:=x.nd;simp_all
theorem zA.ti_i2 (x:zA z ti to i1 i2 a b):ti≠i2:=by have:=x.nd;simp_all
theorem A4v {t1 t2:Bool}{z j h r t a b:Addr}{k:Nat}{xs ys:v7}{x x':Value}{Q:z_}(d:zA z j h r t a b)(y:Ak9 s.heap t1 t2 z j h r t a b .none k)
 (ha:SqA t1 s.heap a xs) (hb:SqA t2 s.heap b ys) (hx:xs[k]?=some x) (O:ys[k]?=some x')
 (q:∀h',Ak9 h' t1 t2 z j h r t a b (rawInt s.heap.objs.size) (k+1)->IsPair h' s.heap.objs.size x x'->(∀c o,c∉[z,j,h,r,t]->s.heap.get? c=some o->h'.get? c=some o)->Q (.ref s.heap.objs.size) { s with heap:=h' }) :
 wpAny (model P w) A (Builtin.«zip.__next__» ⟨[.ref z],[]⟩) (fun f z=>∃v,f=.done (.ret v)/\Q v z) E s:=by
 obtain⟨u0,N,o0⟩:=y.outs;have S:=d.na;have I:=d.nb;simp only[az,bj,bx,not_or]at S I;apply wpAny_bind (m:=field (.ref z) 2);apply wpAny_field y.zip rfl (x:=.bool false) rfl;apply wpAny_bind (m:=field (.ref z) 3);apply wpAny_field y.zip rfl (x:=.ref j) rfl;apply wpAny_bind;apply wpAny_seqItems y.ins rfl;apply wpAny_bind (m:=Builtin.SmallTypes.ownedTupleIsFree (.ref z));unfold Builtin.SmallTypes.ownedTupleIsFree;apply wpAny_bind;apply wpAny_field y.zip rfl (x:=.none) rfl;apply wpAny_pure;simp only[bI];apply wpAny_bind;apply wpAny_rule;apply wpAny_bind;apply wpAny_field y.zip rfl (x:=.ref h) rfl;apply wpAny_bind
 apply wpAny_setField_rec y.zip (by simp)
 intro g1 L n;have L:IsZip g1 z j h .ellipsis:=L;apply wpAny_bind;simp only[List.zipIdx_cons,List.zipIdx_nil,dU,List.forIn_nil];apply wpAny_bind;apply wpAny_bind;apply wpAny_onRaise;apply wpAny_bind (m:=Builtin.SmallTypes.nextOf (.ref r))
 refine next_item (y.one.stay fun o e=>n.extBut _ _ d.z_i1 e) (ha.stay fun o e=>n.extBut _ _ S.1 e) hx fun g2 n1 u=>?_
 apply wpAny_pure;have V:IsPair g2 h u0 N:=u.extBut _ _ d.to_i1 (n.extBut _ _ d.z_to o0);apply wpAny_bind;apply wpAny_seqItems V rfl;apply wpAny_bind;apply wpAny_updateSeq_pair V;intro g3 R B;have R:IsPair g3 h x N:=R;apply wpAny_bind;apply wpAny_letGo;apply wpAny_pure;apply wpAny_bind;apply wpAny_bind;apply wpAny_onRaise;apply wpAny_bind (m:=Builtin.SmallTypes.nextOf (.ref t))
 refine next_item (y.two.stay fun o e=>B.extBut _ _ d.to_i2.symm (u.extBut _ _ d.i1_i2.symm (n.extBut _ _ d.z_i2 e))) (hb.stay fun o e=>B.extBut _ _ I.2.2.1 (u.extBut _ _ I.2.2.2.1 (n.extBut _ _ I.1 e))) O fun g4 n2 D=>?_
 apply wpAny_pure;have U:IsPair g4 h x N:=D.extBut _ _ d.to_i2 R;apply wpAny_bind;apply wpAny_seqItems U rfl;apply wpAny_bind;apply wpAny_updateSeq_pair U;intro i K F;have K:IsPair i h x x':=K;apply wpAny_bind;apply wpAny_letGo;apply wpAny_pure;apply wpAny_pure;apply wpAny_bind;apply wpAny_seqItems K rfl;apply wpAny_bind
 refine wpAny_newTuple ?_
 have W:i.objs.size=s.heap.objs.size:=by rw[F.1,D.1,B.1,u.1,n.1]
 have l:∀c o,c≠z->c≠h->c≠r->c≠t->s.heap.get? c=some o->i.get? c=some o:=fun c o p1 T p3 p4 e=>F.extBut _ _ T (D.extBut _ _ p4 (B.extBut _ _ T (u.extBut _ _ p3 (n.extBut _ _ p1 e))))
 have Y:IsZip i z j h .ellipsis:=F.extBut _ _ d.z_to.symm (D.extBut _ _ d.z_i2.symm (B.extBut _ _ d.z_to.symm (u.extBut _ _ d.z_i1.symm L)))
 have m1:ItAt t1 i r a (k+1):=n1.stay fun o e=>F.extBut _ _ d.to_i1.symm (D.extBut _ _ d.i1_i2 (B.extBut _ _ d.to_i1.symm e))
 have m2:ItAt t2 i t b (k+1):=n2.stay fun o e=>F.extBut _ _ d.to_i2.symm e
 apply wpAny_bind (m:=Builtin.SmallTypes.ownedTupleHandOut (.ref z) (.ref i.objs.size));unfold Builtin.SmallTypes.ownedTupleHandOut;have z6:IsZip (i.push { cls:=.type "tuple",data:=.seq #[x,x'] }) z j h .ellipsis:=Heap.get?_push_of_some _ Y;apply wpAny_bind
 apply wpAny_setField_rec z6 (by simp)
 intro g7 M X;have M:IsZip g7 z j h (rawInt i.objs.size):=M
 apply wpAny_setField_rec M (by simp)
 intro H J Z;have J:IsZip H z j h (rawInt i.objs.size):=J
 have g:∀c o,c≠z->i.get? c=some o->H.get? c=some o:=fun c o p e=>Z.extBut _ _ p (X.extBut _ _ p (Heap.get?_push_of_some _ e))
 have G:z<i.objs.size:=Heap.lt_size Y;have C:IsPair H i.objs.size x x':=Z.extBut _ _ (bB G) (X.extBut _ _ (bB G) (Heap.get?_push_size _ rfl));rw[W]at J C;apply wpAny_pure
 refine⟨_,rfl,?_⟩
 show Q (.ref i.objs.size) _
 rw[W]
 refine q H ⟨J,g _ _ d.z_ti (l _ _ d.z_ti d.ti_to d.ti_i1 d.ti_i2 y.ins),⟨x,x',g _ _ d.z_to K⟩,m1.stay fun o e=>g _ _ d.z_i1 e,m2.stay fun o e=>g _ _ d.z_i2 e⟩ C fun c o p e=>?_
 simp  at p
 exact g c o p.1 (l c o p.1 p.2.2.1 p.2.2.2.1 p.2.2.2.2 e)
theorem A3t {t1 t2:Bool}{z l j v C a b:Addr}{k:Nat}{xs ys:v7}{F:Fin->u_->Prop}(f:A.handled=none)(d:zA z l j v C a b)(y:Ak9 s.heap t1 t2 z l j v C a b .none k)
 (ha:SqA t1 s.heap a xs) (hb:SqA t2 s.heap b ys) (hx:xs[k]?=none\/ys[k]?=none)
 (q:∀h' e,(∀c o,c∉[z,l,j,v,C]->s.heap.get? c=some o->h'.get? c=some o)->(∃o,h'.get? e=some o/\o.cls=.type "StopIteration")->E (.ref e) { s with heap:=h' }) :
 wpAny (model P w) A (Builtin.«zip.__next__» ⟨[.ref z],[]⟩) F E s:=by
 obtain⟨T,V,S⟩:=y.outs;have I:=d.na;have B:=d.nb;simp only[az,bj,bx,not_or]at I B;apply wpAny_bind (m:=field (.ref z) 2);apply wpAny_field y.zip rfl (x:=.bool false) rfl;apply wpAny_bind (m:=field (.ref z) 3);apply wpAny_field y.zip rfl (x:=.ref l) rfl;apply wpAny_bind;apply wpAny_seqItems y.ins rfl;apply wpAny_bind (m:=Builtin.SmallTypes.ownedTupleIsFree (.ref z));unfold Builtin.SmallTypes.ownedTupleIsFree;apply wpAny_bind;apply wpAny_field y.zip rfl (x:=.none) rfl;apply wpAny_pure;simp only[bI];apply wpAny_bind;apply wpAny_rule;apply wpAny_bind;apply wpAny_field y.zip rfl (x:=.ref j) rfl;apply wpAny_bind
 apply wpAny_setField_rec y.zip (by simp)
 intro U u g;have u:IsZip U z l j .ellipsis:=u;apply wpAny_bind;simp only[List.zipIdx_cons,List.zipIdx_nil,dU,List.forIn_nil];apply wpAny_bind;apply wpAny_bind;apply wpAny_onRaise;apply wpAny_bind (m:=Builtin.SmallTypes.nextOf (.ref v))
 cases e1:xs[k]? with
 | none =>
  refine next_end f (y.one.stay fun o e=>g.extBut _ _ d.z_i1 e) (ha.stay fun o e=>g.extBut _ _ I.1 e) e1 fun H x i K=>?_
  obtain⟨D,r,t⟩:=K;have Q:IsZip H z l j .ellipsis:=i _ _ d.z_i1.symm u
  have G:x≠z:=fun e=>by subst e;rw[Q]at r;cases r;simp at t
  apply wpAny_setField_rec Q (by simp)
  intro N _ n
  refine q N x (fun c o p e=>?_) ⟨D,n.extBut _ _ G r,t⟩
  simp only[az,bj,bx,not_or]at p;exact n.extBut _ _ p.1 (i _ _ p.2.2.2.1 (g.extBut _ _ p.1 e))
 | some x =>
  have Y:ys[k]?=none:=by
   rcases hx with h | h
   ·rw[e1]at h;cases h
   ·exact h
  refine next_item (y.one.stay fun o e=>g.extBut _ _ d.z_i1 e) (ha.stay fun o e=>g.extBut _ _ I.1 e) e1 fun H n1 i=>?_
  apply wpAny_pure;have O:IsPair H j T V:=i.extBut _ _ d.to_i1 (g.extBut _ _ d.z_to S);apply wpAny_bind;apply wpAny_seqItems O rfl;apply wpAny_bind;apply wpAny_updateSeq_pair O;intro N Z n;apply wpAny_bind;apply wpAny_letGo;apply wpAny_pure;apply wpAny_bind;apply wpAny_bind;apply wpAny_onRaise;apply wpAny_bind (m:=Builtin.SmallTypes.nextOf (.ref C))
  refine next_end f (y.two.stay fun o e=>n.extBut _ _ d.to_i2.symm (i.extBut _ _ d.i1_i2.symm (g.extBut _ _ d.z_i2 e))) (hb.stay fun o e=>n.extBut _ _ B.2.2.1 (i.extBut _ _ B.2.2.2.1 (g.extBut _ _ B.1 e))) Y fun W x M J=>?_
  obtain⟨D,r,t⟩:=J;have R:IsZip W z l j .ellipsis:=M _ _ d.z_i2.symm (n.extBut _ _ d.z_to.symm (i.extBut _ _ d.z_i1.symm u))
  have G:x≠z:=fun e=>by subst e;rw[R]at r;cases r;simp at t
  apply wpAny_setField_rec R (by simp)
  intro X _ L
  refine q X x (fun c o p e=>?_) ⟨D,L.extBut _ _ G r,t⟩
  simp only[az,bj,bx,not_or]at p;exact L.extBut _ _ p.1 (M _ _ p.2.2.2.2 (n.extBut _ _ p.2.2.1 (i.extBut _ _ p.2.2.2.1 (g.extBut _ _ p.1 e))))
end
section
variable {X:Cx}{pins:y_}{σ:St}{H:Hp}{s:u_}{h':Heap}
theorem Inv.turnLay {ch:v6}{p:Addr}{o:HO}{t':Nat}(I:Inv X pins σ H s)(hf:∀b∈ch,U8 X pins H b)(k:∀b u,b∉ch->s.heap.get? b=some u->h'.get? b=some u)(hp:s.heap.objs.size<=p)(w:z9 X.prog X.w (upd H p o) h' p o) :
 Inv X pins σ (upd H p o) { s with heap:=h',toks:=t' }:=by
 have g:H p=none:=I.hok.fresh hp
 have t:∀b u,H b=some u->b∉ch:=fun b u e z=>by rw[(hf b z).1]at e;grind
 have d:∀b u,H b=some u->b≠p:=fun b u e=>By e g
 have h:∀b u,s.heap.get? b=some u->b≠p:=fun b u e z=>absurd (Heap.lt_size e) (by simp_all)
 refine I.step (g':=s.gens) (d':=s.drawn) (ch:=ch) (fun b f=>?_) (fun b u _ _ a e _=>k b u a e) (fun b u _ _ a e _=>⟨u.slots,k b u a e⟩) (fun b u _ e n=>?_) (fun b u a e=>⟨u,k b u a e⟩)
  (fun b i e=>?_) (fun b o u e=>?_) (fun b B e=>?_) (fun m x=>?_) (fun b u e=>?_) I.bare
 ·obtain⟨F,G,J,C,D,E⟩:=hf b f
  grind
 ·rw[Bb (h b u e)];grind
 ·rw[Bb (d b _ e)];grind
 ·rw[Bb (d b _ e)];omega
 ·rw[Bb (d b _ e)];grind
 ·obtain⟨j,y,A,l,r⟩:=x
  exact⟨j,y,A,k _ _ (fun z=>(hf _ z).2.1 rfl) l,r⟩
 ·by_cases f:b=p
  ·subst f;rw[Cq]at e;grind
  ·rw[Bb f]at e
   refine (I.hok b u e).stay (fun c v a q=>k c v ?_ q) fun c q=>by rw[Bb (d c _ q)];grind fun c i q=>by rw[Bb (d c _ q)];grind fun c j i q=>by rw[Bb (d c _ q)];grind
   grind
theorem Inv.turnL {ch:v6}{t':Nat}(I:Inv X pins σ H s)(hf:∀b∈ch,U8 X pins H b)(k:∀b u,b∉ch->s.heap.get? b=some u->h'.get? b=some u):Inv X pins σ H { s with heap:=h',toks:=t' }:=by
 have g:∀b u,H b=some u->b∉ch:=fun b u e z=>by rw[(hf b z).1]at e;grind
 refine I.step    (fun b f=>?_) (fun b u _ _ a e _=>k b u a e) (fun b u _ _ a e _=>⟨u.slots,k b u a e⟩) (fun b u _ e n=>n) (fun b u a e=>⟨u,k b u a e⟩)
  (fun b i e=>e) (fun b o u e=>e) (fun b t e=>e) (fun m j=>?_) (fun b u e=>?_) I.bare
 ·obtain⟨A,B,C,w,x,y⟩:=hf b f
  grind
 ·obtain⟨h,l,p,d,r⟩:=j
  exact⟨h,l,p,k _ _ (fun z=>(hf _ z).2.1 rfl) d,r⟩
 ·refine (I.hok b u e).stay (fun c v a q=>k c v ?_ q) (fun c q=>q) fun c i q=>q
  grind
end
def SqK (t:Bool)(H:Hp)(a:Addr)(xs:n8):Prop:=match t with
 | true=>H a=some (.tup xs)
 | false=>H a=some (.lst xs)
theorem SqK.one {t:Bool}{H:Hp}{a:Addr}{xs ys:n8}(x:SqK t H a xs)(y:SqK t H a ys):xs=ys:=by
 cases t
 ·have y:H a=some _:=y
  rw[x]at y;cases y;rfl
 ·have y:H a=some _:=y
  rw[x]at y;cases y;rfl
theorem SqK.some {t:Bool}{H:Hp}{a:Addr}{xs:n8}(x:SqK t H a xs):∃o,H a=some o:=by
 cases t
 ·exact⟨_,x⟩
 ·exact⟨_,x⟩
theorem SqK.its {X:Cx}{pins:y_}{d:St}{H:Hp}{s:u_}{t:Bool}{a:Addr}{xs:n8}(I:Inv X pins d H s)(x:SqK t H a xs):∃b:w6,Vals xs b/\SqA t s.heap a b.toArray:=by
 cases t
 ·obtain⟨b,c,p,_⟩:=I.list (SqL.of x)
  exact⟨b,c,p.isList⟩
 ·obtain⟨b,c,p,_⟩:=I.tuple (SqT.of x)
  exact⟨b,c,(show s.heap.IsTuple a _ from p)⟩
def Itz (t1 t2:Bool)(a b:Addr):It :=
 ⟨
  fun i H=>∃xs ys x y,SqK t1 H a xs/\SqK t2 H b ys/\xs[i]?=some x/\ys[i]?=some y,
  fun i H v H'=>∃p x y,v=.ref p/\H p=none/\H'=upd H p (.tup [x,y])/\(∀xs,SqK t1 H a xs->xs[i]?=some x)/\∀ys,SqK t2 H b ys->ys[i]?=some y,
  fun i H=>∃xs ys,SqK t1 H a xs/\SqK t2 H b ys/\(xs.length<=i\/ys.length<=i)⟩
theorem A4h {P:u6}{w:World}{K:v9}{t1 t2:Bool}{elts:v_}{kk:Nat}{pos:Pos}{z ti to i1 i2 a b:Addr}(nd:[z,ti,to,i1,i2].Nodup) :
 Turn P w K (.Tuple elts kk pos) (Itz t1 t2 a b) [z,ti,to,i1,i2] z (fun i h=>Ak9 h t1 t2 z ti to i1 i2 a b .none i) where
 mem:=by simp
 obj:=fun i h st c hc=>by
  simp only[az,bj,bx]at hc
  rcases hc with rfl | rfl | rfl | rfl | rfl
  ·exact⟨_,st.zip,fun v e=>by cases e⟩
  ·exact⟨_,st.ins,fun v e=>by cases e⟩
  ·obtain⟨u,v,e⟩:=st.outs;exact⟨_,e,fun v e=>by cases e⟩
  ·obtain⟨o,e,q⟩:=st.one.obj;exact⟨o,e,fun v e=>by rw[q]at e;cases e⟩
  ·obtain⟨o,e,q⟩:=st.two.obj;exact⟨o,e,fun v e=>by rw[q]at e;cases e⟩
 keep:=fun i h h' st k=>by
  obtain⟨u,v,e⟩:=st.outs
  exact⟨k z (by simp) _ st.zip,k ti (by simp) _ st.ins,⟨u,v,k to (by simp) _ e⟩,st.one.stay fun o e=>k i1 (by simp) o e,st.two.stay fun o e=>k i2 (by simp) o e⟩
 item:=by
  intro X hP hw hK hc i pins s σ H E I hf st hg;subst hP hw hK;obtain⟨xs,ys,x,y,ha,hb,hx,hy⟩:=hg;obtain⟨its,rv,pa⟩:=ha.its I;obtain⟨jts,rw',pb⟩:=hb.its I;obtain⟨u,hu,ru⟩:=rv.get hx;obtain⟨v,hv,rv'⟩:=rw'.get hy
  have off:zA z ti to i1 i2 a b:=⟨nd,fun m=>by (obtain⟨o,e⟩:=ha.some;rw[(hf a m).1]at e;cases e),fun m=>by (obtain⟨o,e⟩:=hb.some;rw[(hf b m).1]at e;cases e)⟩
  have ty:s.TypeIs (.ref z) "zip" := ⟨_,st.zip,rfl⟩;unfold pyNext;apply wpAny_bind;apply wpAny_attempt
  refine wpAny_callSpecial?_slot (name:="__next__") ty F.slot_zip_next ?_
  refine wpAny_call_entry F.slot_zip_next ty F.entry_zip_next ?_ (F.args_zip_next_1 _)
  refine A4v off st pa pb (x:=u) (x':=v) (by simpa using hu) (by simpa using hv) fun h1 z1 new kp=>?_
  refine wpAny_pure ⟨_,rfl,?_⟩
  apply wpAny_letOwnedTupleGo_zip z1.zip;intro h2 z2 sb;have nz:s.heap.objs.size≠z:=bB (Heap.lt_size st.zip);have new2:IsPair h2 s.heap.objs.size u v:=sb.extBut _ _ nz new
  have ok:z9 X.prog X.w (upd H s.heap.objs.size (.tup [x,y])) h2 s.heap.objs.size (.tup [x,y]):=⟨(show 2<=sizeLine by decide),[u,v],.cons ru (.cons rv' .nil),⟨_,new2,rfl,⟨_,rfl⟩,rfl⟩⟩
  have I2:=I.turnLay (t':=s.toks) hf (h':=h2) (fun c o m e=>sb.extBut _ _ (fun e=>m (by simp[e])) (kp c o m e)) (aj _) ok
  obtain⟨u1,v1,e1⟩:=z1.outs;have zf:H s.heap.objs.size=none:=I.hok.fresh (aj _)
  refine⟨.ref s.heap.objs.size,_,I2,rfl,⟨_,x,y,rfl,zf,rfl,fun xs' h=>?_,fun ys' h=>?_⟩,?_,fun c hc=>?_⟩
  ·rw[h.one ha];exact hx
  ·rw[h.one hb];exact hy
  ·exact⟨z2,sb.extBut _ _ off.z_ti z1.ins,⟨u1,v1,sb.extBut _ _ off.z_to e1⟩,z1.one.stay fun o e=>sb.extBut _ _ off.z_i1 e,z1.two.stay fun o e=>sb.extBut _ _ off.z_i2 e⟩
  ·have lt:c<s.heap.objs.size:=by
    simp only[az,bj,bx]at hc
    rcases hc with rfl | rfl | rfl | rfl | rfl
    ·exact Heap.lt_size st.zip
    ·exact Heap.lt_size st.ins
    ·obtain⟨_,_,e⟩:=st.outs;exact Heap.lt_size e
    ·obtain⟨o,e,q⟩:=st.one.obj;exact Heap.lt_size e
    ·obtain⟨o,e,q⟩:=st.two.obj;exact Heap.lt_size e
   rw[Bb (aC lt)];exact(hf c hc).1
 done:=by
  intro X hP hw hK hc i pins s σ H E I hf st hg;subst hP hw hK;obtain⟨xs,ys,ha,hb,hl⟩:=hg;obtain⟨its,rv,pa⟩:=ha.its I;obtain⟨jts,rw',pb⟩:=hb.its I
  have off:zA z ti to i1 i2 a b:=⟨nd,fun m=>by (obtain⟨o,e⟩:=ha.some;rw[(hf a m).1]at e;cases e),fun m=>by (obtain⟨o,e⟩:=hb.some;rw[(hf b m).1]at e;cases e)⟩
  have ty:s.TypeIs (.ref z) "zip" := ⟨_,st.zip,rfl⟩;have l1:=rv.length;have l2:=rw'.length;unfold pyNext;apply wpAny_bind;apply wpAny_attempt
  refine wpAny_callSpecial?_slot (name:="__next__") ty F.slot_zip_next ?_
  refine wpAny_call_entry F.slot_zip_next ty F.entry_zip_next ?_ (F.args_zip_next_1 _)
  refine A3t (I.ok.hd hc) off st pa pb (by simp;omega) fun h1 e kp he=>?_
  obtain⟨o,e1,e2⟩:=he;apply wpAny_bind
  refine wpAny_isInstance (T := "StopIteration") (b:=true) ⟨o,e1,e2⟩ isSubtype_stop ?_
  exact wpAny_pure ⟨rfl,I.turnL (t':=s.toks) hf fun c o m e=>kp c o m e⟩
 self:=fun _ _ _ _ _ st h=>wpAny_pyIter_zip st.zip h
section
variable {P:u6}{w:World}{A:t_}{E:z_}{s:u_}
abbrev itO (t:Bool)(u:Addr):Obj:={ cls:=.type (if t then "tuple_iterator" else "list_iterator"),data:=.fields #[.ref u,.int 0 0] }
abbrev zh1 (h:Heap)(t1:Bool)(a:Addr):Heap:=h.push (itO t1 a)
abbrev zh2 (h:Heap)(t1 t2:Bool)(a b:Addr):Heap:=(zh1 h t1 a).push (itO t2 b)
abbrev zh3 (h:Heap)(t1 t2:Bool)(a b:Addr):Heap:=(zh2 h t1 t2 a b).push { cls:=.type "tuple",data:=.seq #[.ref h.objs.size,.ref (zh1 h t1 a).objs.size] }
abbrev zh4 (h:Heap)(t1 t2:Bool)(a b:Addr):Heap:=(zh3 h t1 t2 a b).push { cls:=.type "tuple",data:=.seq #[.none,.none] }
abbrev zh5 (h:Heap)(t1 t2:Bool)(a b:Addr):Heap:=(zh4 h t1 t2 a b).push { cls:=.type "zip",data:=.fields #[.none,.bool false,.bool false,.ref (zh2 h t1 t2 a b).objs.size,.ref (zh3 h t1 t2 a b).objs.size] }
theorem A7y (t1 t2:Bool)(a b:Addr)(xs ys:v7) :
 Meets (Builtin.«zip.__new__» ⟨[.type "zip",.ref a,.ref b],[]⟩) (fun _ R s=>SqA t1 s.heap a xs/\SqA t2 s.heap b ys/\R (.ok (.ret (.ref (zh4 s.heap t1 t2 a b).objs.size))) { s with heap:=zh5 s.heap t1 t2 a b }) :=
 .of_wp fun P w A R s h=>by
  obtain⟨e,g,d,c,f⟩:=s;obtain⟨k,l,h⟩:=h;have m:=sub_zip
  cases t1 <;> cases t2
  ·have j:Heap.IsList (Shared.heap ⟨e,g,d,c,f⟩) a xs:=k
   have i:Heap.IsList (Shared.heap ⟨e.push { cls:=.type "list_iterator",data:=.fields #[.ref a,.int 0 0] },g,d,c,f⟩) b ys:=Heap.IsList.push l _
   wp_walk using wpAny_pyIter_list j,wpAny_pyIter_list i
   exact⟨_,rfl,h⟩
  ·have j:Heap.IsList (Shared.heap ⟨e,g,d,c,f⟩) a xs:=k
   have i:Heap.IsTuple (Shared.heap ⟨e.push { cls:=.type "list_iterator",data:=.fields #[.ref a,.int 0 0] },g,d,c,f⟩) b ys:=Heap.IsTuple.push l _
   wp_walk using wpAny_pyIter_list j,wpAny_pyIter_tuple i
   exact⟨_,rfl,h⟩
  ·have j:Heap.IsTuple (Shared.heap ⟨e,g,d,c,f⟩) a xs:=k
   have i:Heap.IsList (Shared.heap ⟨e.push { cls:=.type "tuple_iterator",data:=.fields #[.ref a,.int 0 0] },g,d,c,f⟩) b ys:=Heap.IsList.push l _
   wp_walk using wpAny_pyIter_tuple j,wpAny_pyIter_list i
   exact⟨_,rfl,h⟩
  ·have j:Heap.IsTuple (Shared.heap ⟨e,g,d,c,f⟩) a xs:=k
   have i:Heap.IsTuple (Shared.heap ⟨e.push { cls:=.type "tuple_iterator",data:=.fields #[.ref a,.int 0 0] },g,d,c,f⟩) b ys:=Heap.IsTuple.push l _
   wp_walk using wpAny_pyIter_tuple j,wpAny_pyIter_tuple i
   exact⟨_,rfl,h⟩
theorem At0 {t:Bool}{h:Heap}{j u:Addr}(e:h.get? j=some (itO t u)):ItAt t h j u 0:=by
 cases t
 ·exact⟨_,e,rfl,rfl⟩
 ·exact⟨_,e,rfl,rfl⟩
theorem Au8 {t1 t2:Bool}{a b:Addr}{xs ys:v7}{Q:z_}(t:SqA t1 s.heap a xs)(u:SqA t2 s.heap b ys)
 (q:∀h',Ak9 h' t1 t2 (s.heap.objs.size+4) (s.heap.objs.size+2) (s.heap.objs.size+3) s.heap.objs.size (s.heap.objs.size+1) a b .none 0->(∀c o,s.heap.get? c=some o->h'.get? c=some o)->Q (.ref (s.heap.objs.size+4)) { s with heap:=h' }) :
 wpAny (model P w) A (call (.type "zip") [.ref a,.ref b]) Q E s:=by
 apply callType_new F.called_zip (by decide) (F.typeCall_zip_2 _ _) (F.newCall_zip_2 _ _) (fun o=>F.args_object_init_3 o _ _) F.entry_zip_new (A7y t1 t2 a b xs ys)
 refine⟨t,u,?_⟩
 have i:(zh1 s.heap t1 a).objs.size=s.heap.objs.size+1:=Heap.size_push ..
 have g:(zh2 s.heap t1 t2 a b).objs.size=s.heap.objs.size+2:=by rw[Heap.size_push,i]
 have f:(zh3 s.heap t1 t2 a b).objs.size=s.heap.objs.size+3:=by rw[Heap.size_push,g]
 have k:(zh4 s.heap t1 t2 a b).objs.size=s.heap.objs.size+4:=by rw[Heap.size_push,f]
 have d:=fun {h:Heap} {c:Addr} {o:Obj} (n:Obj) (e:h.get? c=some o)=>Heap.get?_push_of_some n e
 have j:(zh5 s.heap t1 t2 a b).get? (zh4 s.heap t1 t2 a b).objs.size=some _:=Heap.get?_push_size _ rfl;have m:(zh5 s.heap t1 t2 a b).get? (zh3 s.heap t1 t2 a b).objs.size=some _:=d _ (Heap.get?_push_size _ rfl);have l:(zh5 s.heap t1 t2 a b).get? (zh2 s.heap t1 t2 a b).objs.size=some _:=d _ (d _ (Heap.get?_push_size _ rfl));have p:(zh5 s.heap t1 t2 a b).get? (zh1 s.heap t1 a).objs.size=some _:=d _ (d _ (d _ (Heap.get?_push_size _ rfl)));have r:(zh5 s.heap t1 t2 a b).get? s.heap.objs.size=some _:=d _ (d _ (d _ (d _ (Heap.get?_push_size _ rfl))));rw[g,f,k]at j;rw[i,g]at l;rw[f]at m;rw[i]at p;rw[k]
 exact⟨⟨_,j,rfl⟩,q _ ⟨j,l,⟨_,_,m⟩,At0 r,At0 p⟩ fun c o e=>d _ (d _ (d _ (d _ (d _ e))))⟩
end
theorem A2e:bootBuiltins "zip" = some (.type "zip"):=by decide +kernel
section
variable {X:Cx}
def Bv4 (ta:TA):TI:=fun σ H R=>ta σ H fun vs H1=>∃a b,vs=[.ref a,.ref b]/\∃t1 t2 xs ys,SqK t1 H1 a xs/\SqK t2 H1 b ys/\R (Itz t1 t2 a b) H1
theorem Bp2 {a b:Expr}{m:TA}{p j e:Pos}{f:v_}{t:Nat}(hg:Gl X "zip") (hm:X.mg "zip" = none) (ha:PA X [a,b] m) (hs1:isStar a=false:=by rfl) (hs2:isStar b=false:=by rfl) :
 PI X (.Tuple f t e) (.Call (.Name "zip" p) [a,b] [] j) (Bv4 m):=by
 intro l s σ H R I h;have i:=Gx (es:=[b]) (env:=X.env) hs1
 refine Call_ (J9 I hg hm A2e (cW (thn (ha _ _ s _ H _ I h) fun us d ⟨vs,r,g,u,v⟩=>?_) i (by rw[(Gx (es:=[]) (env:=X.env) hs2)];rfl)))
 obtain⟨a',b',rfl,t1,t2,xs,ys,y,o,q⟩:=v;obtain⟨z,A,rfl,B,x⟩:=Vals.two u
 cases (show z=Value.ref _ from B)
 cases (show A=Value.ref _ from x)
 obtain⟨C,rv,w⟩:=y.its g;obtain⟨E,F,D⟩:=o.its g
 refine Au8 w D fun h' n G=>?_
 apply wpAny_pyIter_zip n.zip
 have J:[d.heap.objs.size+4,d.heap.objs.size+2,d.heap.objs.size+3,d.heap.objs.size,d.heap.objs.size+1].Nodup:=by simp
 refine⟨_,_,_,_,r,rfl,g.kept  G,A4h J,n,fun c hc=>?_,q⟩
 have k:d.heap.objs.size<=c:=by
  grind
 exact g.fpOk k (g.hok.fresh k)
end
def Bn0:R2:=fun x y H Q=>∃a b xs ys,x=.ref a/\y=.ref b/\H a=some (.tup xs)/\H b=some (.tup ys)/\xs.length+ys.length<=sizeLine/\∀p H',Same H H'->H' p=some (.tup (xs++ys))->Q (.ref p) H'
section
variable {X:Cx}
theorem Cp {H:Hp}{p:Addr}(h:H p=none)(o:HO):Same H (upd H p o):=fun b u e=>by rw[Bb (By e h)];grind
theorem Ba2:OpR X (binaryOp .Add) Bn0:=by
 intro d s σ H x y v u Q I i f h;obtain⟨a,b,g,E,rfl,rfl,j,c,n,q⟩:=h
 by_cases e:g=[]
 ·cases i
  cases f
  subst e;obtain⟨o,r,t,_⟩:=I.tuple (SqT.of j);obtain⟨w,r2,A,_⟩:=I.tuple (SqT.of c);have C  := r.nil_iff.mpr rfl;subst C;obtain⟨⟨c1,d1,D,s1⟩,k,F,n1,z⟩:=id t;obtain⟨⟨c2,d2,B,s2⟩,l,J,n2,G⟩:=id A;subst F z J G
  exact concat_meets ⟨_,k,rfl⟩ ⟨_,l,rfl⟩ noFill_tuple_add seq_tuple_add fV fW (fX _ _)
   (tuple_addW0 a b _ _ _ _ _ _ _ _ (by simp)) ⟨k,l,⟨.ref b,H,I,rfl,q b H (fun _ _ e=>e) c⟩⟩
 ·refine Bb5 _ s _ H _ _ v u Q I i f ⟨a,b,g,E,rfl,rfl,SqT.of j,SqT.of c,e,n,fun K=>?_,fun K p m=>?_⟩
  ·exact q a H (fun _ _ e=>e) (by simp_all)
  ·exact q p _ (Cp m _) Cq
end
section
variable {P:u6}{w:World}{A:t_}{E:z_}{s:u_}
theorem Bw2 (quiet:A.handled=none)(t:Bool)(j u:Addr)(ne:u≠j)(vs:v7):Draws P w A j [j,u] vs.size (fun i v=>vs[i]?=some v) (fun i h=>ItAt t h j u i/\SqA t h u vs) where
 live:=fun i h x=>let ⟨o,e,_⟩:=x.1.obj; ⟨o,e⟩
 frame:=fun i h h' x k=>⟨x.1.stay fun o e=>k j (by simp) o e,x.2.stay fun o e=>k u (by simp) o e⟩
 item:=fun i s Q E hi x q=>next_item x.1 x.2 (x:=vs[i]) (by simp[hi]) fun h' a b=>q _ h' s.toks (by simp[hi]) ⟨a,x.2.stay fun o e=>b.extBut _ _ ne e⟩ b
 done:=fun s Q E x q=>next_end quiet x.1 x.2 (by simp) q
theorem As1 (u:Addr)(vs:v7)(n:Nat)(b:Option Addr)(l:Array (u9)) :
 Meets (Builtin.«enumerate.__new__» ⟨[.type "enumerate",.ref u],[]⟩) (fun _ R s=>s.heap.get? u=some { cls:=.type "tuple",dict:=b,data:=.seq vs n,slots:=l } /\
  R (.ok (.ret (.ref (s.heap.push (itO true u)).objs.size))) { s with heap:=(s.heap.push (itO true u)).push { cls:=.type "enumerate",data:=.fields #[.none,.bool false,.ref s.heap.objs.size,rawInt 0,.none,.none] } }) :=
 .of_wp fun P w A R s h=>by
  obtain⟨i,g,d,f,k⟩:=s;obtain⟨e,h⟩:=h;have j:=sub_enumerate;have a:Heap.IsTuple (Shared.heap ⟨i,g,d,f,k⟩) u vs:=⟨_,e,rfl,n,rfl⟩
  wp_walk using AutoSeq1.wpAny_loadPart' e
  refine wpAny_stack_any fun m=>wpAny_pure ?_
  split
  ·rename_i c _ _ _ _ _
   cases (c==Value.type "enumerate")
   ·wp_walk using AutoSeq1.wpAny_loadPart' e,wpAny_pyIter_tuple a
    exact⟨_,rfl,h⟩
   ·wp_walk using AutoSeq1.wpAny_loadPart' e,wpAny_pyIter_tuple a
    exact⟨_,rfl,h⟩
  ·wp_walk using AutoSeq1.wpAny_loadPart' e,wpAny_pyIter_tuple a
   exact⟨_,rfl,h⟩
theorem Al3 {t:Bool}{u:Addr}{vs:v7}{Q:z_}(p:SqA t s.heap u vs)
 (q:∀f,IsEnum f (s.heap.objs.size+1) s.heap.objs.size 0 .none->ItAt t f s.heap.objs.size u 0->(∀c o,s.heap.get? c=some o->f.get? c=some o)->Q (.ref (s.heap.objs.size+1)) { s with heap:=f }) :
 wpAny (model P w) A (call (.type "enumerate") [.ref u]) Q E s:=by
 cases t
 ·exact call_enumerate_list p fun f a b c d=>q f a b d
 ·obtain⟨⟨c,i,m,l⟩,e,k,n,g⟩:=p
  simp only at k g;subst k g
  apply callType_new F.called_enumerate (by decide) (F.typeCall_enumerate_1 _) (F.newCall_enumerate_1 _) (fun o=>F.args_object_init_2 o _) F.entry_enumerate_new (As1 u vs n i l)
  refine⟨e,?_⟩
  have j:(s.heap.push (itO true u)).objs.size=s.heap.objs.size+1:=Heap.size_push ..;have h:IsEnum ((s.heap.push (itO true u)).push { cls:=.type "enumerate",data:=.fields #[.none,.bool false,.ref s.heap.objs.size,rawInt 0,.none,.none] }) (s.heap.push (itO _ u)).objs.size _ 0 _:=Heap.get?_push_size _ rfl;rw[j]at h;rw[j]
  exact⟨⟨_,h,rfl⟩,q _ h (At0 (Heap.get?_push_of_some _ (Heap.get?_push_size _ rfl))) fun c o x=>Heap.get?_push_of_some _ (Heap.get?_push_of_some _ x)⟩
end
def Ite (t:Bool)(a:Addr):It :=
 ⟨
  fun i H=>∃xs x,SqK t H a xs/\xs[i]?=some x,
  fun i H v H'=>∃p x,v=.ref p/\H p=none/\H'=upd H p (.tup [.int i,x])/\∀xs,SqK t H a xs->xs[i]?=some x,
  fun i H=>∃xs,SqK t H a xs/\xs.length<=i⟩
theorem A2l {P:u6}{w:World}{K:v9}{t:Bool}{elts:v_}{kk:Nat}{pos:Pos}{e j a:Addr}(ne:e≠j) :
 Turn P w K (.Tuple elts kk pos) (Ite t a) [e,j] e (fun i h=>(∃old,IsEnum h e j i old)/\ItAt t h j a i) where
 mem:=by simp
 obj:=fun i h st c hc=>by
  simp only[az,bj,bx]at hc
  rcases hc with rfl | rfl
  ·obtain⟨old,q⟩:=st.1;exact⟨_,q,fun v e=>by cases e⟩
  ·obtain⟨o,e,q⟩:=st.2.obj;exact⟨o,e,fun v e=>by rw[q]at e;cases e⟩
 keep:=fun i h h' st k=>by
  obtain⟨⟨old,q⟩,r⟩:=st
  exact⟨⟨old,k e (by simp) _ q⟩,r.stay fun o e=>k j (by simp) o e⟩
 item:=by
  intro X hP hw hK hc i pins s σ H E I hf st hg;subst hP hw hK;obtain⟨xs,x,ha,hx⟩:=hg;obtain⟨⟨old,en⟩,it⟩:=st;obtain⟨its,rv,pa⟩:=ha.its I;obtain⟨u,hu,ru⟩:=rv.get hx
  have off:∀c∈[e,j],a≠c:=fun c m z=>by obtain⟨o,q⟩:=ha.some;rw[z,(hf c m).1]at q;cases q
  have dr:=Bw2 (P:=X.prog) (w:=X.w) (A:=X.A.in1) (I.ok.hd hc) t j a (off j (by simp)) its.toArray
  have li:i<its.toArray.size:=by simpa using (bh.mp hu).1
  refine wpAny_pyNext_enum_itemD dr en ⟨it,pa⟩ li ne (by simp;exact⟨ne,fun z=>off e (by simp) z.symm⟩) fun u' h1 tk pu ou st1 new _ kp=>?_
  have eu:u'=u:=by
   have pu:its.toArray[i]?=some u':=pu;rw[List.getElem?_toArray,hu]at pu;cases pu;rfl
  subst eu
  refine⟨_,rfl,?_⟩
  apply wpAny_letOwnedTupleGo_enum ou;intro h2 en2 sb
  have lt:∀c∈[e,j],c<s.heap.objs.size:=fun c m=>by
   simp only[az,bj,bx]at m
   rcases m with rfl | rfl
   ·exact Heap.lt_size en
   ·obtain⟨o,e,_⟩:=it.obj;exact Heap.lt_size e
  have new2:h2.get? s.heap.objs.size=some { cls:=.type "tuple",data:=.seq #[.int i tk,u'] }:=sb.extBut _ _ (bB (lt e (by simp))) new
  have ok:z9 X.prog X.w (upd H s.heap.objs.size (.tup [.int i,x])) h2 s.heap.objs.size (.tup [.int i,x]):=⟨(show 2<=sizeLine by decide),[.int i tk,u'],.cons ⟨tk,rfl⟩ (.cons ru .nil),⟨_,new2,rfl,⟨_,rfl⟩,rfl⟩⟩
  have I2:=I.turnLay (t':=tk+1) hf (h':=h2) (fun c o m q=>sb.extBut _ _ (fun z=>m (by simp[z])) (kp c o (fun z=>m (by simp[z])) (fun z=>m (by simp[z])) q)) (aj _) ok
  refine⟨.ref s.heap.objs.size,_,I2,rfl,⟨_,x,rfl,I.hok.fresh (aj _),rfl,fun xs' h=>?_⟩,⟨⟨u',?_⟩,?_⟩,fun c m=>?_⟩
  ·rw[h.one ha];exact hx
  ·have:IsEnum h2 e j ((i:Int)+1) u':=en2
   simpa using this
  ·exact st1.1.stay fun o q=>sb.extBut _ _ (aU ne) q
  ·rw[Bb (aC (lt c m))]
   exact(hf c m).1
 done:=by
  intro X hP hw hK hc i pins s σ H E I hf st hg;subst hP hw hK;obtain⟨xs,ha,hl⟩:=hg;obtain⟨⟨old,en⟩,it⟩:=st;obtain⟨its,rv,pa⟩:=ha.its I
  have off:∀c∈[e,j],a≠c:=fun c m z=>by obtain⟨o,q⟩:=ha.some;rw[z,(hf c m).1]at q;cases q
  have ty:s.TypeIs (.ref e) "enumerate" := ⟨_,en,rfl⟩;have ln:=rv.length;unfold pyNext;apply wpAny_bind;apply wpAny_attempt
  refine wpAny_callSpecial?_slot (name:="__next__") ty F.slot_enumerate_next ?_
  refine wpAny_call_entry F.slot_enumerate_next ty F.entry_enumerate_next ?_ (F.args_enumerate_next_1 _)
  apply wpAny_bind (m:=field (.ref e) 2);apply wpAny_field en rfl (x:=.ref j) rfl;apply wpAny_bind
  refine next_end (I.ok.hd hc) it pa (by simp;omega) fun h1 x kp hx=>?_
  obtain⟨o,e1,e2⟩:=hx;apply wpAny_bind
  refine wpAny_isInstance (T := "StopIteration") (b:=true) ⟨o,e1,e2⟩ isSubtype_stop ?_
  exact wpAny_pure ⟨rfl,I.turnL (t':=s.toks) hf fun c o m q=>kp c o (fun z=>m (by simp[z])) q⟩
 self:=fun _ _ _ _ _ st h=>let ⟨_,q⟩:=st.1;wpAny_pyIter_enum q h
theorem As8:bootBuiltins "enumerate" = some (.type "enumerate"):=by decide +kernel
section
variable {X:Cx}
def A8f (ta:TA):TI:=fun σ H R=>ta σ H fun vs H1=>∃a,vs=[.ref a]/\∃t xs,SqK t H1 a xs/\R (Ite t a) H1
theorem Bc1 {a:Expr}{i:TA}{p f b:Pos}{d:v_}{v:Nat}(hg:Gl X "enumerate") (hm:X.mg "enumerate" = none) (ha:PA X [a] i) (hs1:isStar a=false:=by rfl) :
 PI X (.Tuple d v b) (.Call (.Name "enumerate" p) [a] [] f) (A8f i):=by
 intro j s σ H R I h
 refine Call_ (J9 I hg hm As8 (cW (thn (ha _ _ s _ H _ I h) fun us x ⟨vs,o,e,r,u⟩=>?_) (Gx (es:=[]) (env:=X.env) hs1) rfl))
 obtain⟨a',rfl,t,xs,l,q⟩:=u;obtain⟨w,rfl,m⟩:=vals1 r
 cases (show w=Value.ref _ from m)
 obtain⟨n,rv,y⟩:=l.its e
 refine Al3 y fun h' k z A=>?_
 apply wpAny_pyIter_enum k
 refine⟨_,_,_,_,o,rfl,e.kept  A,A2l (bB (cL _)),⟨⟨_,k⟩,z⟩,fun c hc=>?_,q⟩
 have g:x.heap.objs.size<=c:=by
  grind
 exact e.fpOk g (e.hok.fresh g)
end
section
variable {X:Cx}
def A5b (i j k:Nat)(ta:TA):TS:=fun D σ H=>ta σ H fun vs H1=>∃v w y,vs=[v,w,y]/\D.nx (((σ.set i (some v)).set j (some w)).set k (some y)) H1
theorem Bb0 {i j k:Nat}{x y z:Str}{a b c:Expr}{M:TA}{t r B u:Pos}{C k2 f}(hc:X.calm=true)(hN:X.N.Nodup)(hi:X.N[i]?=some x)(hj:X.N[j]?=some y)(hk:X.N[k]?=some z)(hij:i≠j)(hik:i≠k)(hjk:j≠k)
 (hx:X.env.scope.names.lookup x=some .local) (hy:X.env.scope.names.lookup y=some .local) (hz:X.env.scope.names.lookup z=some .local) (ha:PA X [a,b,c] M)
 (hw:swappedStores [.Tuple [.Name x t,.Name y r,.Name z B] C u] (.Tuple [a,b,c] k2 f) X.env=pure (some [x,y,z]))
 (hs:swapsWithSole [.Tuple [.Name x t,.Name y r,.Name z B] C u] (.Tuple [a,b,c] k2 f) pos.line X.env=pure false:=by rfl) :
 PS X (.Assign [.Tuple [.Name x t,.Name y r,.Name z B] C u] (.Tuple [a,b,c] k2 f) pos) (A5b i j k M):=by
 intro d s N H D I h;rw[exec_Assign_arm]
 refine wpAny_bind (wpAny_standAt ?_)
 rw[hs]
 refine wpAny_bind (wpAny_pure ?_)
 rw[if_neg (by decide)]
 refine wpAny_bind (Tuple_ (thn (ha _ d s N H _ I h) fun W g ⟨vs,L,R,V,A⟩=>?_))
 obtain⟨v,w,y',P,A⟩:=A;subst P
 obtain⟨n,m,l,rfl,Q,F,S⟩:∃n m l,W=[n,m,l]/\RelV v n/\RelV w m/\RelV y' l:=by
  cases V with
  | cons p q =>
   cases q with
   | cons T U =>
    cases U with
    | cons E G =>
     cases G
     exact⟨_,_,_,rfl,p,T,E⟩
 refine wpAny_newObj_type ?_ (by show 3<=sizeLine;decide)
 have Y:Inv X d N L { g with heap:=g.heap.push { cls:=.type "tuple",data:=.seq [n,m,l].toArray } }:=R.kept (t':=g.toks) fun b o e=>Heap.get?_push_of_some _ e
 rw[hw]
 refine wpAny_bind (wpAny_pure ?_)
 show wpAny (model X.prog X.w) X.A (do rule "assign.swapped-stores";let items <- unpackItems (.ref g.heap.objs.size) 3 none;assignInOrder [fun v=>bindName X.env z v,fun v=>bindName X.env y v,fun v=>bindName X.env x v] items.reverse;pure Flow.next) _ _ _
 refine wpAny_bind (wpAny_rule (wpAny_bind (unpackItems_tuple (items:=#[n,m,l]) (I.ok.hd hc) (IsTup.new g.heap _) fun O J=>?_)))
 show wpAny _ _ (assignInOrder [fun v=>bindName X.env z v,fun v=>bindName X.env y v,fun v=>bindName X.env x v] [l,m,n] >>= fun _=>pure Flow.next) _ _ _
 refine wpAny_bind (assignInOrder_cons (wpAny_bindName (J5 (Y.kept (h':=O) (t':=g.toks) fun b o e=>J b o (aC (Heap.lt_size e)) e) hN hk (.inl hz) S (fun s2 Z=>?_) (.inr hz))))
 refine assignInOrder_cons (wpAny_bindName (J5 Z hN hj (.inl hy) F (fun s3 I5=>?_) (.inr hy)))
 refine assignInOrder_cons (wpAny_bindName (J5 I5 hN hi (.inl hx) Q (fun s4 K=>assignInOrder_nil (wpAny_pure ?_)) (.inr hx)))
 rw[eO _ _ (aU hij),eO _ _ (aU hik),eO _ _ (aU hjk)]at K;exact⟨_,L,K,A⟩
end
section
variable {X:Cx}{a b:Expr}{ta tb:TE}{pos:Pos}
def Bg5 (neg:Bool):R2:=fun x y H Q=>∃d ds,Tr H d x/\(Tr H (.list ds) y\/Tr H (.tuple ds) y)/\Flat d/\PyData.canLayAll0 ds=true/\Q (.bl (if neg then !ds.any (fun e=>PyData.eqv e d) else ds.any fun e=>PyData.eqv e d)) H
theorem Ad2 (hu:X.A.units+64<cLine)(ha:PE X a ta)(hb:PE X b tb)(hm:behindInMarks .NotIn b=false):PT X (.Compare a [.NotIn] [b] pos) (Le (tOp (Bg5 true) ta tb)):=Mw (A2h hu) ha hb hm
end
end L2
set_option autoImplicit true
namespace L2
open PySem PySem.Spec PyProof.Rows
structure QE (X:Cx) (e:Expr) (t:TE):Prop where
 get:PE X e t
structure QT (X:Cx) (e:Expr) (t:TT):Prop where
 get:PT X e t
structure QW (X:Cx) (e:Expr) (t:TT):Prop where
 get:PW X e t
structure QA (X:Cx) (e:(v_)) (t:TA):Prop where
 get:PA X e t
structure QS (X:Cx) (st:Stmt) (t:TS):Prop where
 get:PS X st t
structure QSs (X:Cx) (st:(List Stmt)) (t:TS):Prop where
 get:PSs X st t
structure QG (X:Cx) (e:Expr) (t:TG):Prop where
 get:PG X e t
structure QGs (X:Cx) (e:(v_)) (t:TGs):Prop where
 get:PGs X e t
structure QO (X:Cx) (e:(Option Expr)) (t:TO):Prop where
 get:PO X e t
structure QK (X:Cx) (e:(List Keyword)) (t:TA):Prop where
 get:PK X e t
structure QTs (X:Cx) (e:(v_)) (t:TT):Prop where
 get:PTs X e t
structure QI (X:Cx) (tg iter:Expr) (wi:TI):Prop where
 get:PI X tg iter wi
theorem Ag {i j a}:QE X (.Constant (.int i) j a) (tC (.int i)) :=
 ⟨A9f ⟩
theorem Hv {b j a}:QE X (.Constant (.bool b) j a) (tC (.bl b)) :=
 ⟨Bl1 ⟩
theorem Ob {j a}:QE X (.Constant .none j a) (tC .non) :=
 ⟨A7l ⟩
theorem Hq {x j a}:QE X (.Constant (.str x) j a) (tC (.str x)) :=
 ⟨A4w ⟩
theorem Ac2 {x:Str}{v:V}{u:Value}{a:Pos}(hg:Gl X x)(hm:X.mg x=some u)(r:RelV v u)(hd:(x==("__debug__" : Str))=false:=by decide):QE X (.Name x a) (tC v) :=
 ⟨Bk4 (hg:=hg) (hm:=hm) (r:=r) (hd:=hd)⟩
theorem Cm {x:Str}{v:V}{u:Value}{a:Pos}(hg:Gl X x)(hm:X.mg x=none)(hv:bootBuiltins x=some u)(r:RelV v u)(hn:x ≠ "__name__" := by decide) (hd:(x==("__debug__" : Str))=false:=by decide):QE X (.Name x a) (tC v) :=
 ⟨Bh3 (hg:=hg) (hm:=hm) (hv:=hv) (r:=r) (hn:=hn) (hd:=hd)⟩
theorem Bk9 (ha:QT X a tA):QW X (.BoolOp .And [a] pos) tA :=
 ⟨Bj2 (ha:=ha.get)⟩
theorem Kr (ha:QT X a tA):QW X (.BoolOp .Or [a] pos) tA :=
 ⟨Bs4 (ha:=ha.get)⟩
theorem Bo2 (ha:QT X a tA)(hb:QW X (.BoolOp .And (b::rst) pos) tB'):QW X (.BoolOp .And (a::b::rst) pos) (By1 tA tB') :=
 ⟨Bp7 (ha:=ha.get) (hb:=hb.get)⟩
theorem K5 (ha:QT X a tA)(hb:QW X (.BoolOp .Or (b::rst) pos) tB'):QW X (.BoolOp .Or (a::b::rst) pos) (tOr tA tB') :=
 ⟨B2e (ha:=ha.get) (hb:=hb.get)⟩
theorem Gk (ha:QT X a tA):QT X (.UnaryOp .Not a pos) (Bz5 tA) :=
 ⟨Bq6 (ha:=ha.get)⟩
theorem J6 {op}{t:TE}(h:QE X a t):QE X (.BoolOp op [a] pos) t :=
 ⟨Bq5 (h:=h.get)⟩
theorem J4 (ha:QE X a ta)(hb:QE X (.BoolOp .And (b::rst) pos) tb):QE X (.BoolOp .And (a::b::rst) pos) (A8w ta tb) :=
 ⟨Bt7 (ha:=ha.get) (hb:=hb.get)⟩
theorem Bl9 (ha:QE X a ta)(hb:QE X (.BoolOp .Or (b::rst) pos) tb):QE X (.BoolOp .Or (a::b::rst) pos) (Bw1 ta tb) :=
 ⟨B1l (ha:=ha.get) (hb:=hb.get)⟩
theorem Bx8 (ha:QE X a ta):QE X (.UnaryOp .Not a pos) (A8x ta) :=
 ⟨Bp5 (ha:=ha.get)⟩
theorem Af8 {c:Expr}(hc:QT X c tA)(ha:QE X a ta)(hb:QE X b tb):QE X (.IfExp c a b pos) (tIf tA ta tb) :=
 ⟨A4q (hc:=hc.get) (ha:=ha.get) (hb:=hb.get)⟩
theorem Bq  : QSs X [] A8q :=
 ⟨Bg7 ⟩
theorem Ai (h1:QS X stm t)(h2:QSs X rst u):QSs X (stm::rst) (Bx1 t u) :=
 ⟨A7g (h1:=h1.get) (h2:=h2.get)⟩
theorem Ak (h1:QS X stm t):QSs X [stm] t :=
 ⟨Bi7 (h1:=h1.get)⟩
theorem Ml (he:QE X e te)(hs:swapsWith e none pos.line X.env=pure false:=by rfl):QS X (.Expr e pos) (A9o te) :=
 ⟨Bk5 (he:=he.get) (hs:=hs)⟩
theorem Az (he:QE X e te):QS X (.Return (some e) pos) (Bt5 te) :=
 ⟨By7 (he:=he.get)⟩
theorem Ds {c:Expr}{a b:List Stmt}{d:TT}(hc:QT X c d)(ha:QSs X a t)(hb:QSs X b u):QS X (.If c a b pos) (Br3 d t u) :=
 ⟨B0x (hc:=hc.get) (ha:=ha.get) (hb:=hb.get)⟩
theorem A4a  : QS X stm At9 :=
 ⟨A6y ⟩
theorem Bj {i:Nat}{x:Str}(hN:X.N.Nodup)(hi:X.N[i]?=some x)(hx:Loc X.env.scope x)(hf:X.fn x=true\/X.env.scope.names.lookup x=some .local:=by first | exact .inl rfl | exact .inr rfl | assumption):QG X (.Name x pos) (Q9 i) :=
 ⟨A9z (hN:=hN) (hi:=hi) (hx:=hx) ⟩
theorem Ke  : QGs X [] Be9 :=
 ⟨Bf2 ⟩
theorem Ek {e:Expr}{es:v_}{t:TG}{u:TGs}(h1:QG X e t)(h2:QGs X es u)(hs:(assignEach (e::es) X.env).map (·.2)=assign e X.env::(assignEach es X.env).map (·.2):=by rfl):QGs X (e::es) (Ak5 t u) :=
 ⟨A5z (h1:=h1.get) (h2:=h2.get) (hs:=hs)⟩
theorem Ni {Kq:v9}(a:X.K=Kq){es:v_}{k:Nat}{t:TGs}{n:Nat}(hc:X.calm=true)(h:QGs X es t)(hn:(assignEach es X.env).length=n:=by rfl)(hst:(assignEach es X.env).findIdx? (·.1)=none:=by rfl):QG X (.Tuple es k pos) (Bi0 Kq n t):=by
 subst a;exact⟨B0t (hc:=hc) (h:=h.get) (hn:=hn) (hst:=hst)⟩
theorem A7b {o i:Expr}{b a:TE}{t:Bd2}(ho:QE X o b)(hi:QE X i a)(hs:Br7 X t)(ha:∀v,assign (.Subscript o i pos) X.env v=(do
 let ov <- holding [v] (eval o X.env)
 let iv <- holding [v,ov] (eval i X.env)
 standAt pos
 holding [v,ov,iv] (setItem ov iv v)
 release [v,ov,iv] []):=by intro _;rfl):QG X (.Subscript o i pos) (Bq8 b a t) :=
 ⟨B0j (ho:=ho.get) (hi:=hi.get) (hs:=hs) (ha:=ha)⟩
theorem A6z {a e:Expr}{b:TE}{g:TG}(he:QE X e b)(hg:QG X a g)(hs:swapsWithSole [a] e pos.line X.env=pure false:=by rfl)(hw:swappedStores [a] e X.env=pure none:=by rfl)(h1:(assignEach [a] X.env).map (·.2)=[assign a X.env]:=by rfl):QS X (.Assign [a] e pos) (Ap2 b g) :=
 ⟨Br2 (he:=he.get) (hg:=hg.get) (hs:=hs) (hw:=hw) (h1:=h1)⟩
theorem Dc {i:Nat}{x:Str}{e:Expr}{b:TE}{a:Pos}(hN:X.N.Nodup)(hi:X.N[i]?=some x)(hx:Loc X.env.scope x)(he:QE X e b)(hs:swapsWith e (some (.Name x a)) pos.line X.env=pure false:=by rfl)(hf:X.fn x=true\/X.env.scope.names.lookup x=some .local:=by first | exact .inl rfl | exact .inr rfl | assumption):QS X (.Assign [.Name x a] e pos) (Ap2 b (Q9 i)) :=
 ⟨Bv8 (hN:=hN) (hi:=hi) (hx:=hx) (he:=he.get) (hs:=hs) ⟩
theorem Bz0 {i j:Nat}{x y:Str}{a b:Expr}{h:TA}{e d f:Pos}{g k2 c}(hc:X.calm=true)(hN:X.N.Nodup)(hi:X.N[i]?=some x)(hj:X.N[j]?=some y)(hij:i≠j)(hx:X.env.scope.names.lookup x=some .local)(hy:X.env.scope.names.lookup y=some .local)(ha:QA X [a,b] h)(hw:swappedStores [.Tuple [.Name x e,.Name y d] g f] (.Tuple [a,b] k2 c) X.env=pure (some [x,y]))(hs:swapsWithSole [.Tuple [.Name x e,.Name y d] g f] (.Tuple [a,b] k2 c) pos.line X.env=pure false:=by rfl):QS X (.Assign [.Tuple [.Name x e,.Name y d] g f] (.Tuple [a,b] k2 c) pos) (Bq0 i j h) :=
 ⟨Bq4 (hc:=hc) (hN:=hN) (hi:=hi) (hj:=hj) (hij:=hij) (hx:=hx) (hy:=hy) (ha:=ha.get) (hw:=hw) ⟩
theorem Er {Kq:v9}(a:X.K=Kq){c l:Expr}{b:TE}(hl:QE X l b):QI X c l (Bv7 Kq b):=by
 subst a;exact⟨Bx7 (hl:=hl.get)⟩
theorem Jq {a:Expr}{c:TA}{p b:Pos}(hg:Gl X "range") (hm:X.mg "range" = none) (ha:QA X [a] c) (hs:starEach [a] X.env=[(false,eval a X.env)]:=by rfl):QI X tg (.Call (.Name "range" p) [a] [] b) (A8b c) :=
 ⟨A3m (hg:=hg) (hm:=hm) (ha:=ha.get) (hs:=hs)⟩
theorem Qh {a:Expr}{body:List Stmt}{c:TI}{g:TG}{d:TS}{b:Pos}(hp:PassesOwn (model X.prog X.w) X.A X.env X.xe)(hc:X.calm=true)(hi:QI X tg a c)(hg:QG X tg g)(hb:QSs X body d)(hs:∀x,foldedSetIterable a X.env x=pure x:=by intro _;rfl):QS X (.For tg a body [] b) (Bs5 c g d) :=
 ⟨Bt8 (hp:=hp) (hc:=hc) (hi:=hi.get) (hg:=hg.get) (hb:=hb.get) (hs:=hs)⟩
theorem Dz {e:Expr}{t:TE}(h:QE X e t)(he:∀whole,isTrue e X.env whole=(do let v <- whole;standAt e.pos;holding [v] (truthy v)):=by intro _;rfl):QT X e (tB t) :=
 ⟨Bo1 (h:=h.get) (he:=he)⟩
theorem Ae  : QA X [] Gf :=
 ⟨Qt ⟩
theorem Af (ha:QE X e te)(hr:QA X es t)(hs:isStar e=false:=by rfl):QA X (e::es) (Cw te t) :=
 ⟨A2n (ha:=ha.get) (hr:=hr.get) (hs:=hs)⟩
theorem Du {a}(h:QA X es t):QE X (.Tuple es a pos) (Bf5 t) :=
 ⟨By5 (h:=h.get)⟩
theorem Gr (h:QA X es t):QE X (.List es pos) (Bz9 t) :=
 ⟨Bx5 (h:=h.get)⟩
theorem A8m (F:FnOk X.prog X.w X.K X.mg X.base CX k f fd ps sp)(hr:Room k X.A)(hg:Gl X x)(hm:X.mg x=some (.ref f))(hk:PySem.W.keepIn X.K (.ref f)=true)(hb:Binds X.K fd ps ds)(hd:Vals dvs ds)(hx:Wi CX X E)(ha:QA X (e::es) t)(hdb:(x==("__debug__" : Str))=false:=by decide) (hn:noStar (e::es)=true:=by rfl):QE X (.Call (.Name x p) (e::es) [] pos) (Zi sp dvs E t) :=
 ⟨A9i (F:=F) (hr:=hr) (hg:=hg) (hm:=hm) (hk:=hk) (hb:=hb) (hd:=hd) (hx:=hx) (ha:=ha.get) (hdb:=hdb) (hn:=hn)⟩
theorem Bv6  : QK X [] Gf :=
 ⟨Bv1 ⟩
theorem Bh1 (ha:QE X e te)(hr:QK X kws t):QK X (⟨nm,e,kpos⟩::kws) (Cw te t) :=
 ⟨Bc0 (ha:=ha.get) (hr:=hr.get)⟩
theorem Sd  : QO X none Ae9 :=
 ⟨Bj3 ⟩
theorem Ik (h:QE X e te):QO X (some e) (A6x te) :=
 ⟨Be6 (h:=h.get)⟩
theorem A4y {r:V->q9->q9->Hp->VK->Prop}(hr:SlR X r)(he:QE X e te)(hl:QO X low tl)(hu:QO X hi th):QE X (.Subscript e (.Slice low hi none p2) pos) (tSl r te tl th) :=
 ⟨A7k (hr:=hr) (he:=he.get) (hl:=hl.get) (hu:=hu.get)⟩
theorem Bn2 {r:R2}(hr:IxR X r)(ha:QE X a ta)(hb:QE X b tb)(hs:Mf b):QE X (.Subscript a b pos) (tOp r ta tb) :=
 ⟨B2t (hr:=hr) (ha:=ha.get) (hb:=hb.get) (hs:=hs)⟩
theorem Bl3 {Kq:v9}(a:X.K=Kq)(pa:PlainAttrs T)(slot:Slot T name idn)(hty:typeOf (.builtin idn)=pure (.type "method_descriptor")) (hm:MtR X idn r) (ho:QE X o to) (ha:QA X (e::es) t) (hbase:attributeBase o name X.env (eval o X.env)=eval o X.env:=by rfl) (hfew:((backTo cpos (starEach (e::es) X.env)).all (fun x=>!x.1)&&(backToKw cpos (keywordEach [] X.env)).all (fun x=>x.1.isSome)
 && decide ((e::es).length+([]:List Keyword).length+(if ([]:List Keyword).isEmpty then 0 else 1)<30))=true:=by rfl) (hline:(apos.endLine==cpos.line)=true:=by rfl) (hs:starEach (e::es) X.env=(false,eval e X.env)::starEach es X.env:=by rfl) (hplain:(backTo cpos (starEach es X.env)).any (·.1)=false:=by rfl):QE X (.Call (.Attribute o name apos) (e::es) [] cpos) (tBM Kq T r to t):=by
 subst a;exact⟨Bl2 (pa:=pa) (slot:=slot) (hty:=hty) (hm:=hm) (ho:=ho.get) (ha:=ha.get) (hbase:=hbase) (hfew:=hfew) (hline:=hline) (hs:=hs) (hplain:=hplain)⟩
theorem Ia {Kq:v9}(b:X.K=Kq)(ho:QE X a ta)(hv:QE X e te)(hbase:attributeBase a "append" X.env (eval a X.env)=eval a X.env:=by rfl) (hfew:((backTo cpos (starEach [e] X.env)).all (fun x=>!x.1)&&(backToKw cpos (keywordEach [] X.env)).all (fun x=>x.1.isSome)
 && decide ([e].length+([]:List Keyword).length+(if ([]:List Keyword).isEmpty then 0 else 1)<30))=true:=by rfl) (hline:(apos.endLine==cpos.line)=true:=by rfl) (hns:isStar e=false:=by rfl):QE X (.Call (.Attribute a "append" apos) [e] [] cpos) (tBM Kq "list" rAppF ta (Cw te Gf)):=by
 subst b;exact⟨A0s (ho:=ho.get) (hv:=hv.get) (hbase:=hbase) (hfew:=hfew) (hline:=hline) (hns:=hns)⟩
theorem Dh {X:Cx}:QTs X [] Bx6 :=
 ⟨Bb3 ⟩
theorem Ay4 {X:Cx}{c:Expr}{t:TT}(h:QT X c t):QTs X [c] t :=
 ⟨Bb2 (h:=h.get)⟩
theorem Gq (L:Jo X N' idx scope)(hc:X.calm=true)(hi:QI X tg iter wi)(hg:∀d C b a c,QG (Gh X N' scope d C b a c) tg g)(ht:∀d C b a c,QTs (Gh X N' scope d C b a c) ifs tc)(he:∀d C b a c,QE (Gh X N' scope d C b a c) elt te)(hs:∀x,foldedSetIterable iter X.env x=pure x:=by intro _;rfl):QE X (.ListComp elt [⟨tg,iter,ifs,0⟩] scope pos) (tLC idx wi g tc te) :=
 ⟨B1i (L:=L) (hc:=hc) (hi:=hi.get) (hg:=fun d C b a c=>(hg _ C _ _ _).get) (ht:=fun d C b a c=>(ht _ C _ _ _).get) (he:=fun d C b a c=>(he _ C _ _ _).get) (hs:=hs)⟩
theorem N6 {i:Nat}{y:Str}{f d:Pos}(hN:X.N.Nodup)(hi':X.N[i]?=some y)(hy:Loc X.env.scope y)(L:Jo X N' idx scope)(hc:X.calm=true)(hi:QI X tg iter wi)(hg:∀e C b a c,QG (Gh X N' scope e C b a c) tg g)(ht:∀e C b a c,QTs (Gh X N' scope e C b a c) ifs tc)(he:∀e C b a c,QE (Gh X N' scope e C b a c) elt te)(hsw:swapsWith (.ListComp elt [⟨tg,iter,ifs,0⟩] scope pos) (some (.Name y f)) d.line X.env=pure true:=by rfl)(hf:X.fn y=true\/X.env.scope.names.lookup y=some .local:=by first | exact .inl rfl | exact .inr rfl | assumption)(hs:∀x,foldedSetIterable iter X.env x=pure x:=by intro _;rfl):QS X (.Assign [.Name y f] (.ListComp elt [⟨tg,iter,ifs,0⟩] scope pos) d) (Ap2 (tLC idx wi g tc te) (Q9 i)) :=
 ⟨A4d (hN:=hN) (hi':=hi') (hy:=hy) (L:=L) (hc:=hc) (hi:=hi.get) (hg:=fun e C b a c=>(hg _ C _ _ _).get) (ht:=fun e C b a c=>(ht _ C _ _ _).get) (he:=fun e C b a c=>(he _ C _ _ _).get) (hsw:=hsw)  (hs:=hs)⟩
theorem Bt4 (ha:QE X a ta):QE X (.UnaryOp .USub a pos) (tUn (rU fun i=>.int (-i)) ta) :=
 ⟨Bt6 (ha:=ha.get)⟩
theorem G4 (ha:QE X a ta)(hb:QE X b tb):QE X (.BinOp a .Sub b pos) (tOp (rI0 fun i j=>.int (i-j)) ta tb) :=
 ⟨A0u (ha:=ha.get) (hb:=hb.get)⟩
theorem Jr (ha:QE X a ta)(hb:QE X b tb):QE X (.BinOp a .Mult b pos) (tOp (rI CMul fun i j=>.int (i*j)) ta tb) :=
 ⟨A1k (ha:=ha.get) (hb:=hb.get)⟩
theorem V3 (ha:QE X a ta)(hb:QE X b tb):QE X (.BinOp a .FloorDiv b pos) (tOp (rI A7p fun i j=>.int (i / j)) ta tb) :=
 ⟨At3 (ha:=ha.get) (hb:=hb.get)⟩
theorem Ig (ha:QE X a ta)(hb:QE X b tb):QE X (.BinOp a .Mod b pos) (tOp (rI (fun _ j=>0<j) fun i j=>.int (i % j)) ta tb) :=
 ⟨A2b (ha:=ha.get) (hb:=hb.get)⟩
theorem Jp (ha:QE X a ta)(hb:QE X b tb):QE X (.BinOp a .Pow b pos) (tOp (rI A3z fun i j=>.int (i ^ j.toNat)) ta tb) :=
 ⟨A2d (ha:=ha.get) (hb:=hb.get)⟩
theorem V1 (ha:QE X a ta)(hb:QE X b tb):QT X (.Compare a [.Lt] [b] pos) (Le (tOp (rI0 fun i j=>.bl (decide (i<j))) ta tb)) :=
 ⟨A9c (ha:=ha.get) (hb:=hb.get)⟩
theorem A4m (ha:QE X a ta)(hb:QE X b tb):QE X (.Compare a [.Gt] [b] pos) (tOp (rI0 fun i j=>.bl (decide (j<i))) ta tb) :=
 ⟨A5n (ha:=ha.get) (hb:=hb.get)⟩
theorem Ww (ha:QE X a ta)(hb:QE X b tb):QT X (.Compare a [.Gt] [b] pos) (Le (tOp (rI0 fun i j=>.bl (decide (j<i))) ta tb)) :=
 ⟨A8r (ha:=ha.get) (hb:=hb.get)⟩
theorem A7o (ha:QE X a ta)(hb:QE X b tb):QE X (.Compare a [.GtE] [b] pos) (tOp (rI0 fun i j=>.bl (decide (j<=i))) ta tb) :=
 ⟨A4x (ha:=ha.get) (hb:=hb.get)⟩
theorem Yr (ha:QE X a ta)(hb:QE X b tb):QE X (.Compare a [.Is] [b] pos) (tOp (fun x y H Q=>y=.non/\Q (.bl (decide (x=.non))) H) ta tb) :=
 ⟨A3g (ha:=ha.get) (hb:=hb.get)⟩
theorem Yl (ha:QE X a ta)(hb:QE X b tb):QT X (.Compare a [.Is] [b] pos) (Le (tOp (fun x y H Q=>y=.non/\Q (.bl (decide (x=.non))) H) ta tb)) :=
 ⟨A3c (ha:=ha.get) (hb:=hb.get)⟩
theorem Uv {Kq:v9}(a:X.K=Kq)(hgl:Gl X "abs") (hm:X.mg "abs" = none) (ha:QA X (e::es) t) (hns:noStar (e::es)=true:=by rfl):QE X (.Call (.Name "abs" p) (e::es) [] pos) (tCB (Pj Kq) t):=by
 exact⟨Aj2 (hgl:=hgl) (hm:=hm) (ha:=ha.get) (hns:=hns)⟩
theorem Bg {Kq:v9}(a:X.K=Kq)(hgl:Gl X "isinstance") (hm:X.mg "isinstance" = none) (ha:QA X (e::es) t) (hns:noStar (e::es)=true:=by rfl):QE X (.Call (.Name "isinstance" p) (e::es) [] pos) (tCB (Qi Kq) t):=by
 exact⟨Ag9 (hgl:=hgl) (hm:=hm) (ha:=ha.get) (hns:=hns)⟩
theorem Rt {Kq:v9}(a:X.K=Kq)(hgl:Gl X "isinstance") (hm:X.mg "isinstance" = none) (ha:QA X (e::es) t) (hns:noStar (e::es)=true:=by rfl):QE X (.Call (.Name "isinstance" p) (e::es) [] pos) (tCB (Kg Kq) t):=by
 exact⟨Ac0 (hgl:=hgl) (hm:=hm) (ha:=ha.get) (hns:=hns)⟩
theorem Eb {Kq:v9}(a:X.K=Kq)(hc:X.calm=true)(hgl:Gl X "all") (hm:X.mg "all" = none) (ha:QA X (e::es) t) (hns:noStar (e::es)=true:=by rfl):QE X (.Call (.Name "all" p) (e::es) [] pos) (tCB (Ng Kq) t):=by
 subst a;exact⟨Ad0 (hc:=hc) (hgl:=hgl) (hm:=hm) (ha:=ha.get) (hns:=hns)⟩
theorem Zv {Kq:v9}(a:X.K=Kq)(hgl:Gl X "int") (hm:X.mg "int" = none) (ha:QA X (e::es) t) (hns:noStar (e::es)=true:=by rfl):QE X (.Call (.Name "int" p) (e::es) [] pos) (tCB (Nf Kq) t):=by
 exact⟨Z2 (hgl:=hgl) (hm:=hm) (ha:=ha.get) (hns:=hns)⟩
theorem Ay {Kq:v9}(a:X.K=Kq)(hgl:Gl X "tuple") (hm:X.mg "tuple" = none) (ha:QA X (e::es) t) (hns:noStar (e::es)=true:=by rfl):QE X (.Call (.Name "tuple" p) (e::es) [] pos) (tCB (Ja Kq) t):=by
 subst a;exact⟨Ue (hgl:=hgl) (hm:=hm) (ha:=ha.get) (hns:=hns)⟩
theorem Mz {Kq:v9}(a:X.K=Kq)(hgl:Gl X "list") (hm:X.mg "list" = none) (ha:QA X (e::es) t) (hns:noStar (e::es)=true:=by rfl):QE X (.Call (.Name "list" p) (e::es) [] pos) (tCB (J8 Kq) t):=by
 subst a;exact⟨U7 (hgl:=hgl) (hm:=hm) (ha:=ha.get) (hns:=hns)⟩
theorem Ab8 {Kq:v9}(a:X.K=Kq)(hc:X.calm=true)(hgl:Gl X "min") (hm:X.mg "min" = none) (ha:QA X (e::es) t) (hns:noStar (e::es)=true:=by rfl):QE X (.Call (.Name "min" p) (e::es) [] pos) (tCB (Nu Kq) t):=by
 exact⟨Ad1 (hc:=hc) (hgl:=hgl) (hm:=hm) (ha:=ha.get) (hns:=hns)⟩
theorem B0e {a b:Expr}{f:TA}{p e d:Pos}{c:v_}{g:Nat}(hg:Gl X "zip") (hm:X.mg "zip" = none) (ha:QA X [a,b] f) (hs1:isStar a=false:=by rfl) (hs2:isStar b=false:=by rfl):QI X (.Tuple c g d) (.Call (.Name "zip" p) [a,b] [] e) (Bv4 f) :=
 ⟨Bp2 (hg:=hg) (hm:=hm) (ha:=ha.get) (hs1:=hs1) (hs2:=hs2)⟩
theorem A0d {a:Expr}{e:TA}{p d c:Pos}{b:v_}{f:Nat}(hg:Gl X "enumerate") (hm:X.mg "enumerate" = none) (ha:QA X [a] e) (hs1:isStar a=false:=by rfl):QI X (.Tuple b f c) (.Call (.Name "enumerate" p) [a] [] d) (A8f e) :=
 ⟨Bc1 (hg:=hg) (hm:=hm) (ha:=ha.get) (hs1:=hs1)⟩
theorem Bb1 {i j k:Nat}{x y z:Str}{a b c:Expr}{m:TA}{f g e h:Pos}{l k2 d}(hc:X.calm=true)(hN:X.N.Nodup)(hi:X.N[i]?=some x)(hj:X.N[j]?=some y)(hk:X.N[k]?=some z)(hij:i≠j)(hik:i≠k)(hjk:j≠k)(hx:X.env.scope.names.lookup x=some .local)(hy:X.env.scope.names.lookup y=some .local)(hz:X.env.scope.names.lookup z=some .local)(ha:QA X [a,b,c] m)(hw:swappedStores [.Tuple [.Name x f,.Name y g,.Name z e] l h] (.Tuple [a,b,c] k2 d) X.env=pure (some [x,y,z]))(hs:swapsWithSole [.Tuple [.Name x f,.Name y g,.Name z e] l h] (.Tuple [a,b,c] k2 d) pos.line X.env=pure false:=by rfl):QS X (.Assign [.Tuple [.Name x f,.Name y g,.Name z e] l h] (.Tuple [a,b,c] k2 d) pos) (A5b i j k m) :=
 ⟨Bb0 (hc:=hc) (hN:=hN) (hi:=hi) (hj:=hj) (hk:=hk) (hij:=hij) (hik:=hik) (hjk:=hjk) (hx:=hx) (hy:=hy) (hz:=hz) (ha:=ha.get) (hw:=hw) ⟩
theorem Mr (hu:X.A.units+64<cLine)(ha:QE X a ta)(hb:QE X b tb)(hm:behindInMarks .NotIn b=false):QT X (.Compare a [.NotIn] [b] pos) (Le (tOp (Bg5 true) ta tb)) :=
 ⟨Ad2 (hu:=hu) (ha:=ha.get) (hb:=hb.get) (hm:=hm)⟩
theorem Yv {X:Cx}{es:v_}{vs:n8}(h:Rj es=some vs):QA X es (tK vs):=⟨Yg h⟩
theorem QW.qt {X:Cx}{e:Expr}{t:TT}(h:QW X e t):QT X e t:=⟨h.get.pt⟩
theorem qv (i:Nat){x:Str}{a:Pos}(hN:X.N[i]?=some x:=by rfl)(hv:Vis X.env.scope x:=by first | exact Or.inl rfl | exact Or.inr (Or.inl rfl) | exact Or.inr (Or.inr rfl))(hd:(x==("__debug__" : Str))=false:=by decide) (hcd:(x==("__classdict__" : Str))=false:=by decide):QE X (.Name x a) (Bc6 i):=⟨A8y hN hv hd hcd⟩
end L2
namespace L2
open PySem
theorem Gg {X:Cx}{st:List Stmt}{t:TS}{D:Ends}{a:St}{H:Hp}(h:QSs X st t)(k:t D a H):∃t,PSs X st t/\t D a H:=⟨t,h.get,k⟩
theorem Vc:Fw "NoneType" "int" = some false:=by trivial
theorem U9:Fw "NoneType" "str" = some false:=by trivial
theorem Tw:Fw "NoneType" "bool" = some false:=by trivial
theorem T9:Fw "NoneType" "list" = some false:=by trivial
theorem Q0:Fw "NoneType" "tuple" = some false:=by trivial
theorem Aj4:Fw "bool" "int" = some true:=by trivial
theorem Am6:Fw "bool" "str" = some false:=by trivial
theorem Ac1:Fw "bool" "bool" = some true:=by trivial
theorem Aa8:Fw "bool" "list" = some false:=by trivial
theorem Xv:Fw "bool" "tuple" = some false:=by trivial
theorem Aq7:Fw "int" "int" = some true:=by trivial
theorem Aq9:Fw "int" "str" = some false:=by trivial
theorem Ag4:Fw "int" "bool" = some false:=by trivial
theorem Aj8:Fw "int" "list" = some false:=by trivial
theorem Ae5:Fw "int" "tuple" = some false:=by trivial
theorem Av3:Fw "str" "int" = some false:=by trivial
theorem Ao4:Fw "str" "str" = some true:=by trivial
theorem Ah1:Fw "str" "bool" = some false:=by trivial
theorem Ai5:Fw "str" "list" = some false:=by trivial
theorem Aa1:Fw "str" "tuple" = some false:=by trivial
theorem Ak8:Fw "list" "int" = some false:=by trivial
theorem An5:Fw "list" "str" = some false:=by trivial
theorem Z4:Fw "list" "bool" = some false:=by trivial
theorem Z7:Fw "list" "list" = some true:=by trivial
theorem X3:Fw "list" "tuple" = some false:=by trivial
theorem Ab7:Fw "tuple" "int" = some false:=by trivial
theorem Z8:Fw "tuple" "str" = some false:=by trivial
theorem X5:Fw "tuple" "bool" = some false:=by trivial
theorem X6:Fw "tuple" "list" = some false:=by trivial
theorem Xc:Fw "tuple" "tuple" = some true:=by trivial
section
variable {K:v9}{H:Hp}{Q:VK}{x:V}{T:String}{i j:Int}{a p:Addr}
theorem Bs6 {xs:n8}(h:H a=some (.lst xs)):O8 H (.ref a)=some "list" := by simp only[O8,h]
theorem Bw6 {xs:n8}(h:H a=some (.tup xs)):O8 H (.ref a)=some "tuple" := by simp only[O8,h]
theorem Be5 {xs:n8}(h:H a=some (.lst xs)):A1x H (.ref a)=some xs.length:=by simp only[A1x,h]
theorem Bj1 {xs:n8}(h:H a=some (.tup xs)):A1x H (.ref a)=some xs.length:=by simp only[A1x,h]
end
abbrev g2 (K:v9)(i j:Nat):TG:=Bi0 K 2 (Ak5 (Q9 i) (Ak5 (Q9 j) Be9))
mutual
def noL:t6->Bool
 | .none=>true
 | .bool _=>true
 | .int _=>true
 | .str _=>true
 | .tuple ds=>Ud ds
 | .list _=>false
 | .dict _=>false
def Ud:w5->Bool
 | []=>true
 | d::r=>noL d&&Ud r
end
theorem TrL.got {H:Hp}:∀{ds:w5}{vs:n8}{k:Nat}{d:t6},TrL H ds vs->ds[k]?=some d->∃v,vs[k]?=some v/\Tr H d v
 | [],_,k,d,h,e=>by simp at e
 | d::r,_,0,_,⟨v,_,rfl,q,_⟩,e=>by simp at e;subst e;exact⟨v,rfl,q⟩
 | d::r,_,k+1,_,⟨_,_,rfl,_,q⟩,e=>by simp at e;simpa using TrL.got q e
theorem TrL.app {H:Hp}:∀{ds es:w5}{vs us:n8},TrL H ds vs->TrL H es us->TrL H (ds++es) (vs++us)
 | [],es,_,us,h,q=>by cases (show _=[] from h);exact q
 | d::r,es,_,us,⟨v,vr,rfl,q1,q2⟩,q=>⟨v,vr++us,rfl,q1,TrL.app q2 q⟩
theorem TrL.one {H:Hp}{d:t6}{v:V}(h:Tr H d v):TrL H [d] [v]:=⟨v,[],rfl,h,rfl⟩
theorem Ri {ds:w5}(h:∀d∈ds,noL d=true):Ud ds=true:=by
 induction ds with
 | nil=>rfl
 | cons a r b=>show (noL a&&Ud r)=true;grind
end L2
namespace L2
open PySem PySem.Spec PyProof.Rows
def sgn (c:Nat):V:=.str ⟨#[c]⟩
def Its (x:Str):It:=⟨fun i _=>i<x.cps.size,fun i H v H'=>H'=H/\∃c,x.cps[i]?=some c/\v=sgn c,fun i _=>i=x.cps.size⟩
def B0c (it:Addr)(ty:String)(x:Str)(t:Tok)(i:Nat)(h:Heap):Prop:=h.IsStrIter it ty x t i
theorem Ah2 {P:u6}{w:World}{K:v9}{tg:Expr}{it:Addr}{ty:String}{x:Str}{t:Tok}
 (W:∀A':t_,A'.handled=none->Walks P w A' it [it] [it] x.cps.size (SignAt x) (B0c it ty x t))
 (hs:∀(A:t_) (i:Nat) (s:u_) (Q:z_) (E:z_),B0c it ty x t i s.heap->Q (.ref it) s->wpAny (model P w) A (pyIter (.ref it)) Q E s)
 (hn:["enumerate", "zip", "dict_itemiterator", "dict_reverseitemiterator", "odict_iterator", "itertools.zip_longest", "itertools.pairwise"].contains ty=false):Turn P w K tg (Its x) [it] it (B0c it ty x t) where
 mem:=by simp
 obj:=fun i h st b hb=>by
  have e:b=it:=by simpa using hb
  subst e;obtain⟨o,e,c,d⟩:=st
  exact⟨o,e,fun v z=>by rw[d]at z;cases z⟩
 keep:=fun i h h' st k=>by
  obtain⟨o,e,r⟩:=st
  exact⟨o,k it (by simp) o e,r⟩
 item:=by
  intro X hP hw hK hc i pins s σ H E I hf st hg;subst hP hw hK
  obtain⟨f0,f1,f2,f3,f4,f5⟩:=hf it (by simp)
  refine (W X.A (I.ok.hd hc)).item i s _ _ hg st fun v h' tk hv st' kk=>?_
  obtain⟨c,u,hx,rfl⟩:=hv
  have I1:Inv X pins σ H { s with heap:=h',toks:=tk }:=I.turned (fun b o hb e=>kk b o (by simpa using hb) e) f0 f1 f3 f4 f5
  obtain⟨o,e,c',d⟩:=id st'
  exact⟨_,rfl,Az2 (s:={ s with heap:=h',toks:=tk }) e c' d hn ⟨sgn c,H,I1,⟨u,rfl⟩,⟨rfl,c,hx,rfl⟩,st',fun b hb=>(hf b hb).1⟩⟩
 done:=by
  intro X hP hw hK hc i pins s σ H E I hf st hg;subst hP hw hK
  obtain⟨f0,f1,f2,f3,f4,f5⟩:=hf it (by simp)
  have e:i=x.cps.size:=hg;subst e
  exact(W X.A (I.ok.hd hc)).done s _ _ st fun h' tk kk=>⟨rfl,I.turned (fun b o hb e=>kk b o (by simpa using hb) e) f0 f1 f3 f4 f5⟩
 self:=hs
section
variable {X:Cx}{tg:Expr}
def Bp1 (tl:TE):TI:=fun σ H R=>tl σ H fun x H1=>∃y,x=.str y/\R (Its y) H1
theorem Bv2 {l:Expr}{k:TE}(hl:PE X l k):PI X tg l (Bp1 k):=by
 intro d s r H R I h
 refine thn (hl d s r H _ I h) fun v a ⟨x,m,c,u,n⟩=>?_
 obtain⟨y,e,q⟩:=n;subst e;obtain⟨t,rfl⟩:=u
 cases ha:y.cps.all (·<128)
 ·refine wpAny_pyIter_wide ha ?_
  refine⟨a.heap.objs.size,[a.heap.objs.size],_,_,m,rfl,c.kept (t':=a.toks) fun b o e=>Heap.get?_push_of_some _ e,Ah2 (ty := "str_iterator") (fun p j=>Walks.strWide j _ y t) (fun A i s Q E g h=>wpAny_pyIter_striter_wide g h) (by decide),⟨_,Heap.get?_push_size _ rfl,rfl,rfl⟩,fun b f=>?_,q⟩
  have e:b=a.heap.objs.size:=by simpa using f
  subst e;exact c.fpOk (aj _) (c.hok.fresh (aj _))
 ·refine wpAny_pyIter_ascii ha ?_
  refine⟨a.heap.objs.size,[a.heap.objs.size],_,_,m,rfl,c.kept (t':=a.toks) fun b o e=>Heap.get?_push_of_some _ e,Ah2 (ty := "str_ascii_iterator") (fun p j=>Walks.strAscii j _ y t) (fun A i s Q E g h=>wpAny_pyIter_striter_ascii g h) (by decide),⟨_,Heap.get?_push_size _ rfl,rfl,rfl⟩,fun b f=>?_,q⟩
  have e  := by simpa using f
  subst e;exact c.fpOk (aj _) (c.hok.fresh (aj _))
theorem A6k {l:Expr}{a:TE}(hl:QE X l a):QI X tg l (Bp1 a):=⟨Bv2 hl.get⟩
end
end L2
namespace L2
open PySem
mutual
def wt:t6->Nat
 | .none=>4
 | .bool _=>5
 | .int _=>1921
 | .str x=>10*x.length+2
 | .list xs=>Lf xs+4
 | .tuple xs=>Lf xs+4
 | .dict _=>0
def Lf:w5->Nat
 | []=>0
 | x::xs=>wt x+2+Lf xs
end
theorem Ag2:∀(ts:v4) (k:Nat) (acc:Str),(textFrom k acc ts).length<=acc.length+(ts.map fun t=>t.length+2).sum
 | [],k,acc=>aj _
 | t::r,k,acc=>by
  have ih:=Ag2 r (k+1) (acc++(if k>0 then ", " else "" : String)++t)
  have e:(acc++(if k>0 then ", " else "" : String)++t).length<=acc.length+2+t.length:=by
   rw[strLen_append,strLen_append]
   split
   ·exact aj _
   ·show acc.length+0+t.length<=_;omega
  show (textFrom (k+1) (acc++(if k>0 then ", " else "" : String)++t) r).length<=_
  rw[aP,List.sum_cons];omega
theorem A8v (ts:v4):(listText ts).length<=(ts.map fun t=>t.length+2).sum+4:=by
 unfold listText;rw[strLen_append]
 have:=Ag2 ts 0 "["
 have b:("[" : Str).length=1:=rfl
 have a:("]" : Str).length=1:=rfl
 omega
theorem Zn:∀ts:v4,piled ts=(ts.map fun t=>t.length+2).sum
 | []=>rfl
 | t::r=>by rw[piled_cons,aP,List.sum_cons,Zn r]
theorem A2k (ts:v4):(tupleText ts).length<=(ts.map fun t=>t.length+2).sum+4:=by
 unfold tupleText;rw[strLen_append,strLen_append]
 have b:("(" : Str).length=1:=rfl
 have c:(if ts.length==1 then (",)" : Str) else (")" : Str)).length<=2:=by split <;> decide
 have a:((if ts.length==1 then ",)" else ")" : String):Str).length<=2:=by grind
 by_cases h:ts=[]
 ·subst h;show 1+0+_<=_;grind
 ·have:=join_length_add _ h
  rw[Zn]at this;omega
mutual
theorem Al4:∀d:t6,d.canLay0=true->d.showable=true->d.shown.length<=wt d
 | .none,_,_=>by decide
 | .bool b,_,_=>by cases b <;> decide
 | .int i,_,h=>PyProof.Rows.int_text_len_1921 (by simpa[PyData.showable] using h)
 | .str x,h,_=>StrLaws.reprText_len x fun c hc=>by
  have h:x.cps.all (·<0x110000)=true:=h
  have:=Array.all_eq_true_iff_forall_mem.mp h c (Array.mem_toList_iff.mp hc);have:=aL this;omega
 | .list xs,h,s=>ao (A8v _) (Nat.add_le_add_right (Nr xs h s) 4)
 | .tuple xs,h,s=>ao (A2k _) (Nat.add_le_add_right (Nr xs h s) 4)
 | .dict kv,h,_=>nomatch h
theorem Nr:∀ds:w5,PyData.canLayAll0 ds=true->PyData.showableAll ds=true->((PyData.shownAll ds).map fun t=>t.length+2).sum<=Lf ds
 | [],_,_=>aj _
 | d::r,h,s=>by
  obtain⟨h1,h2⟩:=aq.mp (show (d.canLay0&&PyData.canLayAll0 r)=true from h)
  obtain⟨s1,s2⟩:=aq.mp (show (d.showable&&PyData.showableAll r)=true from s)
  have a:=Al4 d h1 s1;have b:=Nr r h2 s2
  show (((d.shown::PyData.shownAll r).map fun t=>t.length+2).sum)<=wt d+2+Lf r
  rw[aP,List.sum_cons];omega
end
end L2
namespace L2
open PySem PySem.Spec PyProof.Rows
section
variable {P:u6}{w:World}{A:t_}
theorem Ai2 {s:u_}{l:Addr}{c:w6}{ks:List Key}{Q:z_}{E:z_}(g:A.handled=none)(hl:s.heap.IsTuple l c.toArray)
 (is:∀(i:Nat) (v:Value),c[i]?=some v->∃k,ks[i]?=some k/\Rf k v=true/\v.scannable=true) (hlen:ks.length=c.length) (few:c.length+1<scanBound)
 (fin:∀d tk,Xz P w s.heap.objs.size (dst ks) d->(∀b o,s.heap.get? b=some o->d.get? b=some o)->Q (.ref s.heap.objs.size) { s with heap:=d,toks:=tk }) :
 wpAny (model P w) A (call (.type "set") [.ref l]) Q E s:=by
 refine Vq (fun z=>∃d tk,z={ s with heap:=d,toks:=tk }/\Xz P w s.heap.objs.size (dst ks) d/\∀b o,s.heap.get? b=some o->d.get? b=some o) ?_ fun a=>?_
 ·rintro z ⟨d,tk,rfl,q1,q2⟩
  exact fin d tk q1 q2
 have hl2:(Cy s a).heap.IsTuple l c.toArray:=hl.push _;obtain⟨ob,g1,g2,n,g3⟩:=hl2;obtain⟨_,dct,_,sls⟩:=ob
 dsimp only at g2 g3
 subst g2 g3;have w1:=F.sub_tuple_set;have w2:=F.sub_tuple_frozenset
 have w3:(Value.type "tuple" == Value.type "dict")=false:=by decide
 have hl3:(Cy s a).heap.IsTuple l c.toArray:=⟨_,g1,rfl,n,rfl⟩;unfold Builtin.«set.__init__» Builtin.Frozenset.updateFrom noKeywords;generalize walk:pyIter=itr
 wp_walk
 subst walk;apply wpAny_pyIter_tuple hl3;apply wpAny_bind;apply wpAny_runValue
 have lt:l<s.heap.objs.size:=by obtain⟨o,e,_⟩:=hl;exact Heap.lt_size e
 have sz:(Cy s a).heap.objs.size=s.heap.objs.size+1:=Heap.size_push _ _
 have f:A.in1.in1.in1.handled=none:=by simp[g]
 have h:l≠(Cy s a).heap.objs.size:=by rw[sz];exact aC (bW lt)
 have wk:=(Walks.tuple (prog:=P) (w:=w) f _ l h c.toArray).toS
 refine fill wk (S:=s.heap.objs.size) ?_ ks (by simpa using hlen) (fun i v p=>is i v (by simpa using p)) (by simpa using few) _ ?_ c.length 0 _ (by simp) ⟨⟨_,Heap.get?_push_size _ rfl,rfl,rfl⟩,hl3.push _⟩ (Moved.refl wk.grefl) ?_
 ·rw[sz]
  intro q
  rcases az.mp q with q | q
  ·exact aC (cL _) q
  ·exact bB lt (aG.mp q)
 ·intro z mv sh
  obtain⟨d,g',d',t',o'⟩:=z;have e1:g'=s.gens:=mv.gens;have e2:d'=s.drawn:=mv.drawn;have e3:o'=s.os:=mv.os;subst e1 e2 e3;apply wpAny_pure
  show wpAny _ _ (ret Value.none) _ _ _
  refine wpAny_pure ⟨rfl,d,t',rfl,sh,fun b o q=>mv.heap b o ?_ (Heap.get?_push_of_some _ (Heap.get?_push_of_some _ q))⟩
  have bl:=Heap.lt_size q;intro m
  rcases az.mp m with m | m
  ·exact aC bl m
  ·have m:=aG.mp m
   rw[sz]at m;exact aC (bW bl) m
 ·have new:((Cy s a).heap.push { cls:=.type "tuple_iterator",data:=.fields #[.ref l,.int 0 0] }).get? s.heap.objs.size=some (bare a):=Heap.get?_push_of_some _ (Mh s a)
  have e:Nz ([]:List Key)=fun _=>false:=rfl
  show Heap.SetOf (Gd P w) _ _ (Nz []) 0
  rw[e]
  exact⟨_,_,_,_,new,⟨rfl,rfl,rfl⟩,rfl,fun x m=>by simp at m,fun k=>by simp,by decide,by cases a <;> rfl,rfl⟩
end
section
variable {X:Cx}
def Za (P:u6)(w:World)(K:v9):n8->Hp->VK->Prop:=fun xs H Q=>∃(a:Addr) (vs:n8) (ks:List Key),xs=[.ref a]/\SqT K H a vs/\vs.map keyV=ks.map some/\vs.length<1000/\∀p,H p=none->Q (.ref p) (upd H p (Ba9 P w p (dst ks)))
theorem A2f (hc:X.calm=true):CallR X (.type "set") (Za X.prog X.w X.K):=by
 intro l s σ H xs us Q I r h;obtain⟨a,c,b,rfl,w,p,hv,q⟩:=h;obtain⟨u,rfl,f⟩:=vals1 r
 cases (show u=Value.ref a from f)
 obtain⟨j,d,t,hz⟩:=I.tuple w
 have g:b.length=c.length:=by have:=bG List.length p;grind
 refine Ai2 (ks:=b) (I.ok.hd hc) (show s.heap.IsTuple a j.toArray from t) (fun i v e=>?_) (by rw[g,d.length]) (by rw[<- d.length];unfold scanBound;omega) fun h' tk n A=>?_
 ·have C:i<c.length:=by have:=(bh.mp e).1;rw[d.length];exact this
  have B:i<b.length:=by omega
  obtain⟨u,m,f⟩:=d.get (i:=i) (x:=c[i]) (by simp[C])
  rw[e]at m
  cases m
  have D:keyV c[i]=some b[i]:=by
   have:=bG (fun z=>z[i]?) p
   grind
  exact⟨b[i],by simp ,Bb9 D f⟩
 ·have k:z9 X.prog X.w (upd H s.heap.objs.size (Ba9 X.prog X.w s.heap.objs.size (dst b))) _ _ (Ba9 _ _ _ _) :=
   ⟨n,let ⟨o,_,_,_,e,_⟩:=n; ⟨o,e⟩,fun h1 h2 x y=>S7 x y⟩
  exact⟨.ref _,_,I.laid  A (aj _) k,rfl,q _ (I.hok.fresh (aj _))⟩
theorem At1 {e:Expr}{c:TE}{p d b a:Pos}(hc:X.calm=true)(hgs:Gl X "set") (hms:X.mg "set" = none) (hgl:Gl X "len") (hml:X.mg "len" = none) (he:PE X e c) (hns:isStar e=false:=by rfl) :
 PE X (.Call (.Name "len" p) [.Call (.Name "set" d) [e] [] a] [] b) (tCB (Q5 X.prog X.w) (Cw (tCB (Za X.prog X.w X.K) (Cw c Gf)) Gf)) :=
 Gy Aj5 hgl hml Ar7 (A2n (Hy (A2f hc) hgs hms A8e (A2n he Qt hns) (by decide) (by rfl) (by show !isStar e&&true=true;grind)) Qt rfl) (by decide) (by rfl) rfl
theorem Au0 {Kq:v9}(b:X.K=Kq){e:Expr}{d:TE}{p f c a:Pos}(hc:X.calm=true)(hgs:Gl X "set") (hms:X.mg "set" = none) (hgl:Gl X "len") (hml:X.mg "len" = none) (he:QE X e d) (hns:isStar e=false:=by rfl):QE X (.Call (.Name "len" p) [.Call (.Name "set" f) [e] [] a] [] c) (tCB (Q5 X.prog X.w) (Cw (tCB (Za X.prog X.w Kq) (Cw d Gf)) Gf)):=by
 subst b;exact⟨At1 (hc:=hc) (hgs:=hgs) (hms:=hms) (hgl:=hgl) (hml:=hml) (he:=he.get) (hns:=hns)⟩
end
end L2
namespace HT
open PySem PySem.Spec PyProof.Rows
section
variable {prog:u6}{w:World}{A:t_}{E:z_}{s:u_}
theorem Tp {sl:Addr}{vst:Value}{n:Nat}{Q:Int×Int×Nat->u_->Prop}(hs:s.heap.IsSliceOf sl .none .none vst)(ps:IsPart vst (some (-1)))
 (h:Q ((n:Int)-1,-1,n) s):wpAny (model prog w) A (Builtin.Slice.sliceApplied (.ref sl) (pure (n:Int))) Q E s:=by
 obtain⟨os,hos,hcs,hds⟩:=id hs;unfold Builtin.Slice.sliceApplied Builtin.Slice.sliceFields
 refine wpAny_bind (wpAny_bind (wpAny_field hos hds (x:=.none) rfl (wpAny_bind (wpAny_field hos hds (x:=.none) rfl (wpAny_bind (wpAny_field hos hds (x:=vst) rfl (wpAny_pure ?_)))))))
 refine wpAny_bind (Qq ps ?_)
 show wpAny _ _ (if (((-1):Int)==0)=true then _ else _) _ _ s
 rw[if_neg (by decide)]
 refine wpAny_bind (slicePart_none (wpAny_bind (slicePart_none (wpAny_bind (wpAny_pure ?_)))))
 show wpAny _ _ (match Builtin.Slice.sliceAdjust none none (-1) (n:Int) with | (lo,hi)=>pure (lo,(-1:Int),Builtin.Slice.slicePlaces lo hi (-1))) _ _ s
 have e1:Builtin.Slice.sliceAdjust none none (-1) (n:Int)=((n:Int)-1,-1):=rfl;rw[e1]
 show wpAny _ _ (pure ((n:Int)-1,(-1:Int),Builtin.Slice.slicePlaces ((n:Int)-1) (-1) (-1))) _ _ s
 have e2:Builtin.Slice.slicePlaces ((n:Int)-1) (-1) (-1)=n:=by
  unfold Builtin.Slice.slicePlaces
  rw[if_neg (by decide)]
  by_cases h0:n=0
  ·subst h0;rfl
  ·rw[if_pos (by omega)]
   have:((n:Int)-1 - -1-1) / (- -1)=(n:Int)-1:=by
    have:(- -1:Int)=1:=by decide
    rw[this,Int.ediv_one];omega
   rw[this];omega
 rw[e2];exact wpAny_pure h
theorem A4c (xs:v7):((List.range xs.size).filterMap fun (m:Nat)=>xs[((xs.size:Int)-1+(m:Int)*(-1)).toNat]?).toArray=xs.toList.reverse.toArray:=by
 congr 1
 apply gk;intro i
 have:((List.range xs.size).filterMap fun (m:Nat)=>xs[((xs.size:Int)-1+(m:Int)*(-1)).toNat]?)=(List.range xs.size).map fun m=>xs.toList.reverse.getD m .none:=by
  have d:∀l:List Nat,(∀m∈l,m<xs.size)->(l.filterMap fun (m:Nat)=>xs[((xs.size:Int)-1+(m:Int)*(-1)).toNat]?)=l.map fun m=>xs.toList.reverse.getD m .none:=by
   intro l
   induction l with
   | nil=>intro _;rfl
   | cons m r j =>
    intro a;have b:=a m (.head _)
    have e:((xs.size:Int)-1+(m:Int)*(-1)).toNat=xs.size-1-m:=by omega
    have c:m<xs.toList.reverse.length:=by simpa using b
    have n:xs.toList.reverse.getD m .none=xs[xs.size-1-m]:=by
     rw[bO,bA c]
     simp
    have o:xs[((xs.size:Int)-1+(m:Int)*(-1)).toNat]?=some (xs.toList.reverse.getD m .none):=by
     rw[n,e,dW]
    rw[List.filterMap_cons_some (f:=fun (m:Nat)=>xs[((xs.size:Int)-1+m*-1).toNat]?) o,aP,j fun k g=>a k (.tail _ g)]
  exact d _ fun m b=>bc.mp b
 rw[this]
 by_cases h:i<xs.size
 ·have c:i<xs.toList.reverse.length:=by simpa using h
  rw[bJ,fc h,bA c]
  show some (xs.toList.reverse.getD i _)=_
  rw[bO,bA _];rfl
 ·rw[cN (by simpa using h),cN (by simpa using h)]
theorem Ro {t sl:Addr}{items:v7}{vst:Value}{Q:z_}(ht:IsTup s.heap t items)(hs:s.heap.IsSliceOf sl .none .none vst)(ps:IsPart vst (some (-1)))
 (h:Q (.ref s.heap.objs.size) { s with heap:=s.heap.push { cls:=.type "tuple",data:=.seq items.toList.reverse.toArray } })
 (hsz:items.size<=sizeLine):wpAny (model prog w) A (getItem (.ref t) (.ref sl)) Q E s:=by
 have htake:sizeOk (.seq items.toList.reverse.toArray):=by
  show items.toList.reverse.toArray.size<=sizeLine
  rw[bC,gn,bV];exact hsz
 obtain⟨os,hos,hcs,hds⟩:=id hs;have hTs:s.TypeIs (.ref sl) "slice" := ⟨os,hos,hcs⟩;unfold getItem
 try with_reducible refine wpAny_holding ?_
 first | refine wpAny_bind (wpAny_pure ?_) | skip
 refine wpAny_bind (wpAny_sequenceKey ht.typeIs (by decide) ?_)
 refine wpAny_bind (wpAny_callSpecial?_slot (name:="__getitem__") ht.typeIs cu
  (wpAny_call_entry cu ht.typeIs entry_tuple_getitem ?_ (args_tuple_getitem _ _)))
 show wpAny _ _ (Builtin.Tuple.tupleItemsOf (.ref t) >>= _) _ _ s
 refine wpAny_bind (tupleItemsOf_ ht ?_)
 refine wpAny_bind (wpAny_typeOf hTs ?_)
 rw[if_pos (by decide)]
 refine wpAny_bind (Tp hs ps ?_)
 have hno:¬ (((((items.size:Int)-1)==0&&((-1):Int)==1)&&items.size==items.size)=true):=by
  intro q;rw[cJ,cJ]at q
  exact absurd q.1.2 (by decide)
 show wpAny _ _ (if ((((items.size:Int)-1)==0&&((-1):Int)==1)&&items.size==items.size)=true then _ else _) _ _ s
 rw[if_neg hno,A4c]
 first
  | exact wpAny_bind (m:=Builtin.Tuple.tupleExact _) (wpAny_newObj_type (wpAny_pure ⟨_,rfl,wpAny_pure h⟩) htake)
  | exact wpAny_bind (m:=Builtin.Tuple.tupleExact _) (wpAny_newObj_type (wpAny_bind (wpAny_pure (wpAny_pure ⟨_,rfl,wpAny_pure h⟩))) htake)
  | exact wpAny_bind (wpAny_bind (m:=Builtin.Tuple.tupleExact _) (wpAny_newObj_type (wpAny_pure (wpAny_pure ⟨_,rfl,wpAny_pure h⟩)) htake))
  | exact wpAny_bind (wpAny_bind (m:=Builtin.Tuple.tupleExact _) (wpAny_newObj_type (wpAny_pure ⟨_,rfl,wpAny_pure h⟩) htake))
end
end HT
namespace L2
open PySem PySem.Spec PyProof.Rows
section
variable {X:Cx}{a b e:Expr}{ta tb te:TE}{pos p2:Pos}{st:Expr}{tst:TO}
def B0i (K:v9)(te:TE)(ts:TO):TE:=fun σ H Q=>te σ H fun x H1=>ts σ H1 fun o H2=>o=some (-1)/\∃a xs,x=.ref a/\SqT K H2 a xs/\∀p,H2 p=none->Q (.ref p) (upd H2 p (.tup xs.reverse))
theorem By2 (he:PE X e te)(hst:PO X (some st) tst):PE X (.Subscript e (.Slice none none (some st) p2) pos) (B0i X.K te tst):=by
 intro c s g H Q I h
 refine Subscript_ (thn (he c s g H _ I h) fun v B ⟨x,m,w,A,l⟩=>?_)
 refine wpAny_Slice ?_
 rw[evalPart_none]
 refine wpAny_pure ?_
 refine wpAny_pure ?_
 refine thn (hst c B g m _ w l) fun f d ⟨o,n,p,t,u⟩=>?_
 obtain⟨rfl,a,xs,rfl,z,q⟩:=u
 cases A
 have i:Inv X c g n { d with heap:=d.heap.push { cls:=.type "slice",data:=.fields #[.none,.none,f] } }:=p.kept (t':=d.toks) fun b y q=>Heap.get?_push_of_some _ q
 show wpAny (model X.prog X.w) X.A (subscriptTail e (.Slice none none (some st) p2) (.ref a) _) _ _ _
 obtain⟨C,r,k,hz⟩:=i.tuple z
 refine tail_any  k.typeIs cu.lookup ?_ (by trivial)
 have j  := by exact r.length.symm
 refine HT.Ro k (Heap.IsSliceOf.new ..) t ?_ (by simp_all)
 refine⟨.ref _,_,i.laid   (fun b y q=>Heap.get?_push_of_some _ q) (aj _) ?_,rfl,q _ (i.hok.fresh (aj _))⟩
 exact⟨by simp_all,_,r.reverse,zH.new _ _⟩
def B3s:R2:=fun x y H Q=>∃i j,x=.str i/\y=.str j/\Q (.bl (!(Builtin.Str.occurrences j i 0 j.length 1).isEmpty)) H
theorem Bs2 {Kq:v9}(a:X.K=Kq)(he:QE X e te)(hst:QO X (some st) tst):QE X (.Subscript e (.Slice none none (some st) p2) pos) (B0i Kq te tst):=by
 subst a;exact⟨By2 he.get hst.get⟩
end
end L2
namespace HT
open PySem PySem.Spec PyProof.Rows
section
variable {prog:u6}{w:World}{A:t_}{E:z_}{s:u_}
theorem O4 {t b:Addr}{items:v7}{g f:Value}{lo hi:q9}{Q:z_}(ht:IsTup s.heap t items)(hs:s.heap.IsSliceOf b g f .none)(pl:IsPart g lo)(i:IsPart f hi)
 (hw:sIx items.size 0 lo=0/\sIx items.size items.size hi=items.size) (h:Q (.ref t) s):wpAny (model prog w) A (getItem (.ref t) (.ref b)) Q E s:=by
 obtain⟨k,d,c,j⟩:=id hs;have e:s.TypeIs (.ref b) "slice" := ⟨k,d,c⟩;unfold getItem
 try with_reducible refine wpAny_holding ?_
 first | refine wpAny_bind (wpAny_pure ?_) | skip
 refine wpAny_bind (wpAny_sequenceKey ht.typeIs (by decide) ?_)
 refine wpAny_bind (wpAny_callSpecial?_slot (name:="__getitem__") ht.typeIs cu
  (wpAny_call_entry cu ht.typeIs entry_tuple_getitem ?_ (args_tuple_getitem _ _)))
 show wpAny _ _ (Builtin.Tuple.tupleItemsOf (.ref t) >>= _) _ _ s
 refine wpAny_bind (tupleItemsOf_ ht ?_)
 refine wpAny_bind (wpAny_typeOf e ?_)
 rw[if_pos (by decide)]
 refine wpAny_bind (Lb hs pl i ?_)
 show wpAny _ _ (if (((sIx items.size 0 lo:Nat):Int)==0&&(1:Int)==1&&(sIx _ _ _-sIx _ 0 _)==items.size)=true then _ else _) _ _ s
 have a:(((sIx items.size 0 lo):Int)==0&&(1:Int)==1&&sIx items.size items.size hi-sIx items.size 0 lo==items.size)=true:=by
  rw[hw.1,hw.2];simp
 rw[if_pos a]
 refine wpAny_bind  (wpAny_bind (wpAny_typeOf ht.typeIs (wpAny_pure ?_)))
 refine wpAny_bind (wpAny_rule ?_)
 first
  | exact wpAny_pure ⟨_,rfl,wpAny_pure h⟩
  | exact wpAny_bind _
  | exact wpAny_bind _
  | trace_state
end
end HT
namespace L2
open PySem PySem.Spec PyProof.Rows
section
variable {X:Cx}
def Bl8 (K:v9):V->q9->q9->Hp->VK->Prop:=fun x lo hi H Q=>∃a xs,x=.ref a/\SqT K H a xs /\
 (HT.sIx xs.length 0 lo=0/\HT.sIx xs.length xs.length hi=xs.length)/\Q (.ref a) H
theorem Bf3:SlR X (Bl8 X.K):=by
 intro d s σ H x v vl vu lo hi sl Q I k f g e h;obtain⟨a,xs,rfl,j,hw,q⟩:=h
 cases k
 obtain⟨i,r,c,hz⟩:=I.tuple j
 have b  := by exact r.length.symm
 refine⟨"tuple",_,cu.lookup,c.typeIs,?_⟩
 exact HT.O4 c f g e (by grind) ⟨.ref a,H,I,rfl,q⟩
end
theorem X8 (l:Addr)(items:v7)(n:Nat)(dd:Option Addr)(sl:Array (u9))(x:Value)(e:Value->Bool)(j:Nat)(hj:j<items.size)
 (p:e items[j]=true) (hno:∀m (hm:m<items.size),m<j->e items[m]=false) :
 Meets (Builtin.«tuple.index» ⟨[.ref l,x],[]⟩)
  (fun A R s=>s.heap.get? l=some { cls:=.type "tuple",dict:=dd,data:=.seq items n,slots:=sl }/\(∀y,y∈items->SeqAt.EqAt A.in1 s y x (e y))/\R (.ok (.ret (.int j s.toks))) { s with toks:=s.toks+1 }) :=
 .of_wp fun f w A R s h=>by
  obtain⟨hp,g,d,tk,os⟩:=s;obtain⟨hl,he,h⟩:=h
  wp_walk using wpAny_loadPart' hl
  change wpAny _ _ (forIn (m:=Sem) [:min items.size items.size] ((none,()):Option Fin×Unit) _) _ _ _
  rw[Std.Legacy.Range.forIn_eq_forIn_range'];simp only[Std.Legacy.Range.size,dg,Nat.add_sub_cancel,Nat.div_one,Nat.min_self]
  refine wpAny_forIn_list _ (fun a b s'=>b.1=none/\s'=⟨hp,g,d,tk,os⟩/\∃i,i<=j/\a=List.range' i (items.size-i)) _ ?_ ?_ _ _ ⟨rfl,rfl,0,aB _,rfl⟩
  ·rintro y a b s' ⟨hb,rfl,i,c,k⟩
   have o:i<items.size:=aQ c hj;have hd:items.size-i=(items.size-(i+1))+1:=(Nat.succ_pred_eq_of_pos (Nat.sub_pos_of_lt o)).symm;rw[hd,List.range'_succ]at k
   cases k
   have hg:items[y]?=some items[y]:=by simp[o]
   simp only[hg]
   refine wpAny_bind (he _ (Array.getElem_mem o) f w _ _ ?_)
   rcases Nat.lt_or_eq_of_le c with lt | rfl
   ·rw[hno y o lt]
    wp_walk
    exact⟨rfl,rfl,y+1,lt,rfl⟩
   ·rw[p]
    wp_walk
    exact⟨_,rfl,h⟩
  ·rintro⟨b1,b2⟩ s' ⟨hb,rfl,i,c,k⟩
   have hz:=bG List.length k
   simp at hz
   omega
section
variable {X:Cx}
def B4e:V->Option Str
 | .non=>some (Str.ofString "None")
 | .bl b=>some (if b then Str.ofString "True" else Str.ofString "False")
 | .str x=>some x
 | _=>none
def U5 (K:v9):n8->Hp->VK->Prop:=fun xs H Q=>∃x z,xs=[x]/\B4e x=some z/\Q (.str z) H
theorem A3k:CallR X (.type "str") (U5 X.K):=by
 intro d s σ H xs us Q I r h;obtain⟨x,z,rfl,a,q⟩:=h;obtain⟨u,rfl,c⟩:=vals1 r
 cases x with
 | non=>cases a;cases (c);exact P.str_of_none ⟨.str _,H,I.tok _,⟨_,rfl⟩,q⟩
 | bl b=>cases a;cases (c);exact P.str_of_bool ⟨.str _,H,I.tok _,⟨_,by trivial⟩,q⟩
 | str y=>cases a;obtain⟨t,rfl⟩:=c;exact P.str_of_str ⟨.str _,H,I,⟨_,rfl⟩,q⟩
 | _=>cases a
end
section
variable {X:Cx}
def B4c (ks:v4)(xs:n8):List (Key×V):=(ks.zip xs).map fun p=>((Sum.inr p.1:Key),p.2)
end
end L2
namespace L2
open PySem PySem.Spec PyProof.Rows PySem.W
section
open PySem.SeqAt
open PySem.AutoSeq1 (wpAny_loadPart')
open PySem.MeetsSeq PySem.MeetsSeq2 PySem.MeetsSeq3
theorem A2x (l b:Addr)(items c:v7)(n T:Nat)(dd D:Option Addr)(N G:Array (u9))(r:Bool)(k:Nat) :
 ∀
  (i:Nat) (vs z:w6),items.toList.drop i=vs->c.toList.drop i=z->i<=items.size->i<=c.size->vs.length=k->Meets (Builtin.«list.__eq__.loop» ⟨[.ref l,.ref b,rawInt i,rawInt 0],[]⟩)
  (fun A R s=>s.heap.get? l=some { cls:=.type "list",dict:=dd,data:=.seq items n,slots:=N }/\s.heap.get? b=some { cls:=.type "list",dict:=D,data:=.seq c T,slots:=G } /\
   O6 false A.in1 s vs z r/\R (.ok (.ret (.bool r))) s):=by
 have m:∀{f:v7} {i:Nat},f.toList.drop i=[]->f[((i:Nat):Int).toNat]?=none:=fun {f i} e=>by
  have:=fj.mp e
  simp at this ⊢;omega
 have a:∀{f:v7} {i:Nat} {x:Value} {r:w6},f.toList.drop i=x::r->f[((i:Nat):Int).toNat]?=some x/\f.toList.drop (i+1)=r/\i<f.size:=fun {f i x r} e=>by
  have J:i<f.size:=by
   rcases aM i f.size with h | h
   ·exact h
   ·rw[List.drop_eq_nil_of_le (by simpa using h)]at e;cases e
  rw[List.drop_eq_getElem_cons (by simpa using J)]at e
  injection e with e1 e2
  exact⟨by simp[J];simpa using e1,e2,J⟩
 induction k with
 | zero =>
  intro i vs z t q S P y j w A R s h;obtain⟨H,g,d,B,I⟩:=s;obtain⟨o,p,L,h⟩:=h;have C:vs=[]:=List.length_eq_zero_iff.mp y;subst C
  wp_walk using wpAny_loadPart' o,wpAny_loadPart' p
  rw[m t]
  have V:items.size=i:=by have:=fj.mp t;simp at this;omega
  wp_walk using wpAny_loadPart' o,wpAny_loadPart' p
  show R (.ok (.ret (.bool (decide (items.size<c.size))))) _
  have C:decide (items.size<c.size)=r:=by
   cases L with
   | nn=>have:=fj.mp q;simp at this;exact aK (by omega)
   | nc=>exact aD (by have:=(a q).2.2;omega)
  rw[C];exact h
 | succ k O =>
  intro i vs z t q S P y j w A R s h;obtain⟨H,g,d,B,I⟩:=s;obtain⟨o,p,L,h⟩:=h
  cases L with
  | nn=>cases y
  | nc=>cases y
  | cn =>
   wp_walk using wpAny_loadPart' o,wpAny_loadPart' p
   rw[(a t).1,m q]
   wp_walk using wpAny_loadPart' o,wpAny_loadPart' p
   show R (.ok (.ret (.bool (decide (items.size<c.size))))) _
   have:=(a t).2.2;have:=fj.mp q
   simp at this
   rw[aK (by omega)];exact h
  | eq K M =>
   have u:=a t;have v:=a q
   have U:((i:Int)+1)=((i+1:Nat):Int):=by push_cast;rfl
   wp_walk using wpAny_loadPart' o,wpAny_loadPart' p
   rw[u.1,v.1]
   refine wpAny_bind (K j w _ _ ?_)
   wp_walk
   rw[U]
   exact⟨plainId_quiet plain_eq_loop _,codeAny_builtin entry_eq_loop (by
    rw[Around.under_plainId plain_eq_loop _]
    exact O (i+1) _ _ u.2.1 v.2.1 u.2.2 v.2.2 (by simpa using y) j w A R _ ⟨o,p,M,h⟩)⟩
  | ne K M =>
   have u:=a t;have v:=a q
   wp_walk using wpAny_loadPart' o,wpAny_loadPart' p
   rw[u.1,v.1]
   refine wpAny_bind (K j w _ _ ?_)
   have F:∀(E:z_) (Q:z_),Q (.bool r) ⟨H,g,d,B,I⟩->wpAny (model j w) A.in1 (richCompare .Lt _ _) Q E ⟨H,g,d,B,I⟩:=M j w
   wp_walk using wpAny_loadPart' o,wpAny_loadPart' p
   rw[u.1,v.1]
   wp_walk using F
   simpa using h
theorem A3s (l b:Addr)(items a:v7)(n f:Nat)(dd e:Option Addr)(i c:Array (u9))(r:Bool) :
 Meets (Builtin.«list.__lt__» ⟨[.ref l,.ref b],[]⟩)
  (fun A R s=>s.heap.get? l=some { cls:=.type "list",dict:=dd,data:=.seq items n,slots:=i }/\s.heap.get? b=some { cls:=.type "list",dict:=e,data:=.seq a f,slots:=c } /\
   O6 false A.in1 s items.toList a.toList r/\R (.ok (.ret (.bool r))) s):=by
 intro k w A R s h;obtain⟨q,g,d,t,u⟩:=s;obtain⟨j,m,o,h⟩:=h;have p:=AutoSeq1.sub_list_list
 wp_walk using wpAny_loadPart' j,wpAny_loadPart' m
 exact⟨plainId_quiet plain_eq_loop _,codeAny_builtin entry_eq_loop (by
  rw[Around.under_plainId plain_eq_loop _]
  exact A2x l b items a n f dd e i c r _ 0 _ _ rfl rfl (aB _) (aB _) rfl _ w A R _ ⟨j,m,o,h⟩)⟩
end
def kEv {α:Type}(B:Nat->Nat->Option Bool):KasT α->Option α
 | .ret a=>some a
 | .ask i j k=>(B i j).bind fun b=>kEv B (k b)
theorem A5p {α:Type}{cmp:Nat->Nat->(Bool->u_->Prop)->u_->Prop}{B:Nat->Nat->Option Bool}{s:u_}(hc:∀i j b C,B i j=some b->C b s->cmp i j C s){G:α->u_->Prop} :
 ∀(t:KasT α) (a:α),kEv B t=some a->G a s->t.kasWp cmp G s
 | .ret a,a',e,g=>by cases e;exact g
 | .ask i j k,a',e,g=>by
  obtain⟨b,e1,e2⟩:=bZ.mp (show (B i j).bind (fun b=>kEv B (k b))=some a' from e)
  exact hc i j b _ e1 (A5p hc (k b) a' e2 g)
def Aq1 (b:Bool):t6->Bool
 | .tuple (.int _::_)=>b
 | .tuple (.tuple _::_)=>!b
 | _=>false
section
variable {prog:u6}{w:World}{A:t_}{E:z_}{s:u_}{b fin:Bool}{Q:Bool->u_->Prop}
theorem Ac7:∀{vs ws:w6}{r:Bool},O6 false A s vs ws r->∀i,(b&&i==0)=false->fin=decide (vs.length<ws.length)->Q r s->KatLex prog w A b fin Q (vs.zip ws) i s
 | _,_,_,.nn,i,_,hf,h=>by
  have e:fin=false:=hf;subst e;exact kat_nil h
 | _,_,_,.nc (y:=y) (ys:=ys),i,_,hf,h=>by
  have e:fin=true:=hf.trans (aD (by rw[cA,aH];omega))
  subst e;exact kat_nil h
 | _,_,_,.cn (x:=x) (xs:=xs),i,_,hf,h=>by
  have e:fin=false:=hf.trans (aK (by rw[cA,aH];omega))
  subst e;exact kat_nil h
 | _,_,_,.eq he hr,i,hi,hf,h=>kat_cons (he prog w _ _ (kat_yes (Ac7 hr (i+1) (by simp) (hf.trans (by simp)) h)))
 | _,_,_,.ne he hr,i,hi,hf,h=>kat_cons (he prog w _ _ (kat_no (by rw[hi];exact kat_one _ _ (hr prog w _ _ h))))
theorem B4a {i j:Int}{xs ys:w5}{us vs:w6}{k bs:v6}{r:Bool}(m:ReadsAll s.heap us (.int i::xs) k)(o:ReadsAll s.heap vs (.int j::ys) bs)(p:PyData.canLayAll0 (.int i::xs)=true)(g:PyData.canLayAll0 (.int j::ys)=true)
 (hu:A.units+PyData.depthAll (.int i::xs)<cLine) (hc:Rb false (.int i::xs) (.int j::ys)=some r) (hf:fin=decide (us.length<vs.length)) (h:Q r s):KatLex prog w A true fin Q (us.zip vs) 0 s:=by
 cases m with
 | cons c l =>
  cases o with
  | cons d n =>
   have b:=aq.mp p;have a:=aq.mp g;have q:A.units+max (PyData.int i).depth (PyData.depthAll xs)<cLine:=hu
   have e:=SeqAt.eqAt_reads (.int i) (.int j) A s _ _ _ _ c d b.1 a.1 (by omega)
   rw[Rb]at hc
   by_cases he:PyData.eqv (.int i) (.int j)=true
   ·rw[if_pos he]at hc
    rw[he]at e
    exact kat_cons (e prog w _ _ (kat_yes (Ac7 (Qk false xs ys A s _ _ _ _ r l n b.2 a.2 (by omega) hc) 1 (by simp) (hf.trans (by simp)) h)))
   ·rw[if_neg he]at hc
    rw[gb _ |>.mp he]at e
    refine kat_cons (e _ w _ _ (kat_no ?_))
    cases c
    cases d
    have f  := by simpa[Nv] using hc
    rw[<- f]at h;exact(kat_lt_int h:wpAny _ A _ Q _ s)
theorem A5i {a d:t6}{u v:Value}{n bs:v6}{r:Bool}(t:Reads s.heap u a n)(x:Reads s.heap v d bs)(f:a.canLay0=true)(e:d.canLay0=true)
 (fa:Aq1 b a=true) (fb:Aq1 b d=true) (hu:A.units+a.depth<cLine) (hc:Nv false a d=some r) (h:Q r s):wpAny (model prog w) A (keyLt' (tuples' b) u v) Q E s:=by
 cases a with
 | tuple l =>
  cases d with
  | tuple m =>
   cases t with
   | tuple o B q g =>
    cases x with
    | tuple p z y k =>
     have c:A.units+(PyData.depthAll _+1)<cLine:=hu
     refine kat_lt o q p y ?_
     cases b with
     | false=>exact Ac7 (Qk _ _ _ A s _ _ _ _ r g k f e (by omega) hc) 0 rfl (by simp) h
     | true =>
      match l,m,fa,fb,g,k,f,e,c,hc with
      | .int i::l,.int j::m,_,_,g,k,f,e,c,hc=>exact B4a g k f e (by omega) hc (by simp) h
  | _=>cases fb
 | _=>cases fa
end
inductive Kd where
 | ti | tt | tl | ii | ll
def M5:Kd->t6->Bool
 | .ti,.tuple (.int _::_)=>true
 | .tt,.tuple (.tuple _::_)=>true
 | .tl,.tuple (.list _::_)=>true
 | .ii,.int _=>true
 | .ll,.list _=>true
 | _,_=>false
theorem Jt {kd:Kd}{d:t6}(h:M5 kd d=true):match kd with
 | .ti=>∃i xs,d=.tuple (.int i::xs)
 | .tt=>∃ys xs,d=.tuple (.tuple ys::xs)
 | .tl=>∃ys xs,d=.tuple (.list ys::xs)
 | .ii=>∃i,d=.int i
 | .ll=>∃xs,d=.list xs:=by
 unfold M5 at h
 split at h
 ·exact⟨_,_,rfl⟩
 ·exact⟨_,_,rfl⟩
 ·exact⟨_,_,rfl⟩
 ·exact⟨_,rfl⟩
 ·exact⟨_,rfl⟩
 ·cases h
def kdK:Kd->SortKind
 | .ti=>tuples' true
 | .tt=>tuples' false
 | .tl=>tuples' true
 | .ii=>oneType'
 | .ll=>oneType'
def B1b (x y:t6):Option Bool:=match x,y with
 | .tuple (.list a::xs),.tuple (.list b::ys)=>if PyData.eqv (.list a) (.list b)=true then Rb false xs ys else Rb false a b
 | _,_=>none
def B1v (x y:t6):Option Bool:=match x,y with
 | .list a,.list b=>Rb false a b
 | _,_=>none
def Ba5 (kd:Kd)(x y:t6):Option Bool:=match kd with
 | .tl=>B1b x y
 | .ll=>B1v x y
 | _=>Nv false x y
def A2c (kd:Kd)(ds:w5)(i j:Nat):Option Bool:=match ds[i]?,ds[j]? with
 | some x,some y=>Ba5 kd x y
 | _,_=>none
section
variable {prog:u6}{w:World}{A:t_}{E:z_}{s:u_}{fin:Bool}{Q:Bool->u_->Prop}
theorem Ws {l b:Addr}{o c:Obj}{items a:v7}{n p:Nat}{r:Bool}(h1:s.heap.get? l=some o)(h2:o.cls=.type "list") (f:o.data=.seq items n) (g:s.heap.get? b=some c) (i:c.cls=.type "list") (k:c.data=.seq a p)
 (hx:O6 false A.in1 s items.toList a.toList r) (hu:A.units<cLine) (h:Q r s):wpAny (model prog w) A (oneLt' true (.ref l) (.ref b)) Q E s:=by
 obtain⟨q,u,m,v⟩:=o;obtain⟨t,j,d,e⟩:=c;subst h2 f i k
 refine wpAny_bind (wpAny_cRoomFor hu ?_)
 refine wpAny_bind (wpAny_callSpecialIfBound?_slot ⟨_,h1,rfl⟩ F.slot_list_lt (call_meets F.slot_list_lt ⟨_,h1,rfl⟩ F.entry_list_lt (F.args_list_lt_2 _ _) (A3s l b _ _ n _ _ _ _ _ r) ⟨h1,g,hx,?_⟩))
 exact wpAny_truthy_bool h
theorem B3p {a b xs ys:w5}{us vs:w6}{p bs:v6}{r:Bool}(k:ReadsAll s.heap us (.list a::xs) p)(m:ReadsAll s.heap vs (.list b::ys) bs)(o:PyData.canLayAll0 (.list a::xs)=true)(j:PyData.canLayAll0 (.list b::ys)=true)
 (hu:A.units+PyData.depthAll (.list a::xs)<cLine) (hc:B1b (.tuple (.list a::xs)) (.tuple (.list b::ys))=some r) (hf:fin=decide (us.length<vs.length)) (h:Q r s):KatLex prog w A true fin Q (us.zip vs) 0 s:=by
 cases k with
 | cons g l =>
  cases m with
  | cons f n =>
   have c:=aq.mp o;have d:=aq.mp j;have q:A.units+max (PyData.list a).depth (PyData.depthAll xs)<cLine:=hu;have C:(PyData.list a).depth=PyData.depthAll a+1:=rfl
   have e:=SeqAt.eqAt_reads (.list a) (.list b) A s _ _ _ _ g f c.1 d.1 (by omega)
   have hc:(if PyData.eqv (.list a) _=true then Rb _ _ _ else Rb _ a b)=some r:=hc
   by_cases he:PyData.eqv (.list a) (.list b)=true
   ·rw[if_pos he]at hc
    rw[he]at e
    exact kat_cons (e _ w _ _ (kat_yes (Ac7 (Qk _ _ _ A s _ _ _ _ r l n c.2 d.2 (by omega) hc) 1 (by simp) (hf.trans (by simp)) h)))
   ·rw[if_neg he]at hc
    rw[gb _ |>.mp he]at e
    refine kat_cons (e _ w _ _ (kat_no ?_))
    cases g with
    | list u v x t =>
     cases f with
     | list z y B i=>exact Ws u v x z y B (Qk _ a b _ s _ _ _ _ r t i c.1 d.1 (by grind) hc) (by omega) h
theorem Bf9 {kd:Kd}{a l:t6}{u v:Value}{F bs:v6}{r:Bool}(d:Reads s.heap u a F)(e:Reads s.heap v l bs)(m:a.canLay0=true)(k:l.canLay0=true)
 (fa:M5 kd a=true) (fb:M5 kd l=true) (hu:A.units+a.depth<cLine) (hc:Ba5 kd a l=some r) (h:Q r s):wpAny (model prog w) A (keyLt' (kdK kd) u v) Q E s:=by
 have c:=Jt fa;have f:=Jt fb
 cases kd with
 | ti =>
  obtain⟨i,g,rfl⟩:=c;obtain⟨j,n,rfl⟩:=f;exact A5i (b:=true) d e m k rfl rfl hu hc h
 | tt =>
  obtain⟨i,g,rfl⟩:=c;obtain⟨j,n,rfl⟩:=f;exact A5i (b:=false) d e m k rfl rfl hu hc h
 | tl =>
  obtain⟨i,g,rfl⟩:=c;obtain⟨j,n,rfl⟩:=f
  cases d with
  | tuple t B x o =>
   cases e with
   | tuple p C q y =>
    refine kat_lt t x p q (B3p o y m k ?_ hc (by simp) h)
    have z:A.units+(PyData.depthAll (.list i::g)+1)<cLine:=hu;omega
 | ii =>
  obtain⟨i,rfl⟩:=c;obtain⟨j,rfl⟩:=f
  cases d
  cases e
  have D:decide (i<j)=r:=by simpa[Ba5,Nv] using hc
  rw[<- D]at h;exact kat_lt_int h
 | ll =>
  obtain⟨g,rfl⟩:=c;obtain⟨n,rfl⟩:=f
  cases d with
  | list t B x o =>
   cases e with
   | list p C q y =>
    have z:A.units+(PyData.depthAll g+1)<cLine:=hu
    show wpAny (model prog w) A (keyLt' oneType' _ _) Q E s
    rw[keyLt'_oneType]
    exact Ws t B x p C q (Qk _ _ _ _ s _ _ _ _ r o y m k (by show A.units+1+_<_;omega) hc) (by omega) h
end
section
variable {M:Model}{A:t_}{E:z_}{s:u_}
def tyK (b:Bool):Value:=if b then .type "int" else .type "tuple"
theorem Wf {h:Heap}{vs:w6}{d:t6}{ds:w5}{a:v6}(r:ReadsAll h vs (d::ds) a):∃v as',vs[0]?=some v/\Reads h v d as':=by
 cases r with
 | cons c b=>grind
theorem Xl {h:Heap}{b:Bool}:∀{us:w6}{ds:w5}{as:v6},ReadsAll h us ds as->ds.all (Aq1 b)=true->∃fs,KatTups h us fs/\fs.length=us.length/\∀v∈fs,Looks M h (typeOf v) (tyK b)
 | _,_,_,.nil,_=>⟨[],trivial,rfl,fun v z=>nomatch z⟩
 | _,_,_,.cons (d:=d) r1 r2,hb=>by
  obtain⟨h1,h2⟩:=aq.mp (show (Aq1 b d&&_)=true from hb)
  obtain⟨fs,t,l,k⟩:=Xl r2 h2
  cases d with
  | tuple xs =>
   cases r1 with
   | tuple e1 e2 e3 e4 =>
    match xs,h1,e4 with
    | .int i::xs,h1,e4 =>
     obtain⟨v,as',f1,f2⟩:=Wf e4;have hb':b=true:=h1;subst hb'
     cases f2 with
     | int i t0=>
      exact⟨.int i t0::fs,KatTups.cons e1 e2 e3 (by rw[<- cB];exact f1) t,by rw[aH,aH,l],fun v hv=>by
       rcases az.mp hv with rfl | hv
       ·exact Looks.now
       ·exact k v hv⟩
    | .tuple ys::xs,h1,e4 =>
     obtain⟨v,as',f1,f2⟩:=Wf e4
     have hb':b=false:=by simpa[Aq1] using h1
     subst hb'
     cases f2 with
     | tuple g1 g2 g3 g4=>
      exact⟨_::fs,KatTups.cons e1 e2 e3 (by rw[<- cB];exact f1) t,by rw[aH,aH,l],fun v hv=>by
       rcases az.mp hv with rfl | hv
       ·have q:=(Looks.ld (M:=M) (part:=none) g1).andThen (f:=fun o=>pure o.cls) .now
        rw[g2]at q;exact q
       ·exact k v hv⟩
  | _=>cases h1
theorem Ag6 {b:Bool}{us:w6}{ds:w5}{a:v6}{Q:SortKind->u_->Prop}(r:ReadsAll s.heap us ds a)(hb:ds.all (Aq1 b)=true)(d:0<us.length)(h:Q (tuples' b) s):wpAny M A (keyKind' us.toArray) Q E s:=by
 obtain⟨c,t,l,k⟩:=Xl  r hb
 refine kat_kind t (by omega) k (by simp_all) ?_
 cases b <;> exact h
theorem Ak4 {h:Heap}:∀{us:w6}{ds:w5}{as:v6},ReadsAll h us ds as->ds.all (M5 .tl)=true->∃fs,KatTups h us fs/\fs.length=us.length/\∀v∈fs,Looks M h (typeOf v) (.type "list")
 | _,_,_,.nil,_=>⟨[],trivial,rfl,fun v z=>nomatch z⟩
 | _,_,_,.cons (d:=d) r1 r2,hb=>by
  obtain⟨h1,h2⟩:=aq.mp (show (M5 .tl d&&_)=true from hb)
  obtain⟨fs,t,l,k⟩:=Ak4 r2 h2;obtain⟨_,_,rfl⟩:=Jt h1
  cases r1 with
  | tuple e1 e2 e3 e4 =>
   obtain⟨v,as',f1,f2⟩:=Wf e4
   cases f2 with
   | list g1 g2 g3 g4=>
    exact⟨_::fs,KatTups.cons e1 e2 e3 (by rw[<- cB];exact f1) t,by rw[aH,aH,l],fun v hv=>by
     rcases az.mp hv with rfl | hv
     ·have q:=(Looks.ld (M:=M) (part:=none) g1).andThen (f:=fun o=>pure o.cls) .now
      rw[g2]at q;exact q
     ·exact k v hv⟩
theorem Ak7 {h:Heap}:∀{us:w6}{ds:w5}{as:v6},ReadsAll h us ds as->ds.all (M5 .ll)=true->∀v∈us,Looks M h (typeOf v) (.type "list")
 | _,_,_,.nil,_,v,z=>nomatch z
 | _,_,_,.cons (d:=d) r1 r2,hb,v,hv=>by
  obtain⟨h1,h2⟩:=aq.mp (show (M5 .ll d&&_)=true from hb)
  rcases az.mp hv with rfl | hv
  ·obtain⟨_,rfl⟩:=Jt h1
   cases r1 with
   | list g1 g2 g3 g4 =>
    have q:=(Looks.ld (M:=M) (part:=none) g1).andThen (f:=fun o=>pure o.cls) .now
    rw[g2]at q;exact q
  ·exact Ak7 r2 h2 v hv
theorem ints_of {h:Heap}:∀{us:w6}{ds:w5}{as:v6},ReadsAll h us ds as->ds.all (M5 .ii)=true->∃ns,IntsAre us ns
 | _,_,_,.nil,_=>⟨[],.nil⟩
 | _,_,_,.cons (d:=d) r1 r2,hb=>by
  obtain⟨h1,h2⟩:=aq.mp (show (M5 .ii d&&_)=true from hb)
  obtain⟨ns,t⟩:=ints_of r2 h2;obtain⟨_,rfl⟩:=Jt h1
  cases r1 with
  | int i t0=>exact⟨_::ns,.cons _ _ t⟩
theorem A0a {b:Bool}:∀{ds:w5},ds.all (M5 (if b then .ti else .tt))=true->ds.all (Aq1 b)=true:=fun {ds} h=>by
 rw[bz]at h ⊢;intro d a;have:=Jt (h d a)
 cases b
 ·obtain⟨_,_,rfl⟩:=this;rfl
 ·obtain⟨_,_,rfl⟩:=this;rfl
theorem A6t {kd:Kd}{us:w6}{ds:w5}{c:v6}{Q:SortKind->u_->Prop}(r:ReadsAll s.heap us ds c)(hb:ds.all (M5 kd)=true)(a:2<=us.length)(h:Q (kdK kd) s):wpAny M A (keyKind' us.toArray) Q E s:=by
 cases kd with
 | ti=>exact Ag6 (b:=true) r (A0a  hb) (by omega) h
 | tt=>exact Ag6 (b:=false) r (A0a  hb) (by omega) h
 | tl =>
  obtain⟨e,t,l,k⟩:=Ak4  r hb
  exact kat_kind t (by omega) k (by rfl) h
 | ii =>
  obtain⟨d,t⟩:=ints_of r hb
  rw[ksk_kind  (by assumption) (by trivial)]
  exact wpAny_pure h
 | ll=>exact kas_kind a (Ak7  r hb) (by rfl) (by rfl) h
theorem Zb {body:Value->PUnit->Sem (ForInStep PUnit)}{Iv:w6->u_->Prop}(step:∀x rest s,Iv (x::rest) s->wpAny M A (body x ⟨⟩) (fun r s'=>r=.yield ⟨⟩/\Iv rest s') E s) :
 ∀(l:w6) (s:u_),Iv l s->wpAny M A (forIn l PUnit.unit body) (fun _ s'=>Iv [] s') E s
 | [],s,h=>by rw[List.forIn_nil];exact wpAny_pure h
 | x::l,s,h=>by
  rw[dU]
  refine wpAny_bind (wpAny_mono (step x l s h) (fun q s' hq=>?_) fun _ _ z=>z)
  obtain⟨rfl,h'⟩:=hq;exact Zb step l s' h'
end
section
variable {X:Cx}{pins:y_}{σ:St}{H:Hp}{s:u_}{h':Heap}
theorem Inv.adopt {D:Addr}{o:HO}{t':Nat}(I:Inv X pins σ H s)(k:∀b u,b≠D->s.heap.get? b=some u->h'.get? b=some u)(hn:H D=none)(h:D≠X.env.locals)(h1:X.s₀.heap.objs.size<=D)
 (h2:∀x c,X.env.cells.lookup x=some c->c≠D) (A:∀p∈X.pn++pins,p.1≠D) (i:z9 X.prog X.w (upd H D o) h' D o):Inv X pins σ (upd H D o) { s with heap:=h',toks:=t' }:=by
 have a:∀b u,H b=some u->b≠D:=fun b u e z=>by simp_all
 refine I.step (g':=s.gens) (d':=s.drawn) (ch:=[D]) (fun b f=>?_) (fun b o _ _ d e _=>k b o (fun z=>d (by simp[z])) e) (fun b o _ _ d e _=>⟨o.slots,k b o (fun z=>d (by grind)) e⟩) (fun b o d e n=>by rw[Bb (fun z=>d (by simp[z]))];exact n)
  (fun b o d e=>⟨o,k b o (fun z=>d (by grind)) e⟩) (fun b g e=>by rw[Bb (a _ _ e)];exact e) (fun b _ _ e=>by rw[Bb (a _ _ e)];exact e) (fun b y e=>by rw[Bb (a _ _ e)];exact e) (fun m j=>?_) (fun b u e=>?_) I.bare
 ·grind
 ·obtain⟨o,t,l,w,r⟩:=j
  exact⟨o,t,l,k _ o (aU h) w,r⟩
 ·by_cases f:b=D
  ·subst f;rw[Cq]at e;grind
  ·rw[Bb f]at e
   refine (I.hok b u e).stay (fun c v d q=>k c v ?_ q) (fun c q=>by rw[Bb (a _ _ q)];exact q) (fun c g q=>by rw[Bb (a _ _ q)];exact q) fun c B g q=>by rw[Bb (a _ _ q)];exact q
   grind
theorem Bc9 {k:Nat}{f:Addr}{a:u5}{ps:v4}{sp:Sp}{E:z_}{Q:VK}{us:w6}{vs:n8}(F:FnOk X.prog X.w X.K X.mg X.base CX0 k f a ps sp)(hr:Room (k+2) X.A)(hb:Binds X.K a ps [])
 (I:Inv X pins σ H s) (r:Vals vs us) (h:sp vs H Q E0):wpAny (model X.prog X.w) X.A.in1.in1 (call (.ref f) us) (EP X pins σ Q) E s:=by
 have c:(us++[]).length=ps.length:=by rw[cj,<- r.length];exact F.len _ _ _ _ h
 refine wpAny_call (codeAny_mono (F.run _ _ s H _ _ _ Q _ hr.in1.in1 I.env0.in1.in1 (hb s _ I.kIn c) (by grind) h) fun r g d=>?_)
 cases r with
 | error e=>trivial
 | ok b =>
  cases b with
  | ret u=>exact I.after d
  | next=>assumption
  | brk=>assumption
  | cont=>trivial
end
def Uh (Ky:V->Hp->VK->Prop):n8->n8->Hp->(n8->Hp->Prop)->Prop
 | [],ks,H,k=>k ks H
 | x::xs,ks,H,k=>Ky x H (fun kv H1=>Uh Ky xs (ks++[kv]) H1 k)
abbrev Av9 (sp:Sp):n8->n8->Hp->(n8->Hp->Prop)->Prop:=Uh fun x H Q=>sp [x] H Q E0
def Ap1 (vs ks:n8)(H:Hp)(Q:VK):Prop :=
 (vs.length<2/\∀p,H p=none->Q (.ref p) (upd H p (.lst vs))) \/
 (2<=vs.length/\vs.length<64/\∃ds kd p,TrL H ds ks/\ds.all (M5 kd)=true/\(∀d∈ds,Flat d)/\kEv (A2c kd ds) (kas_sort vs.length)=some p/\∀l,H l=none->Q (.ref l) (upd H l (.lst (p.toList.map fun i=>vs.getD i .non))))
theorem A0j:∀{vs:n8}{us:w6},Vals vs us->∀i,RelV (vs.getD i .non) (us.getD i Value.none)
 | _,_,.nil,i=>rfl
 | _,_,.cons r rs,0=>r
 | _,_,.cons r rs,i+1=>A0j rs i
theorem Ym {vs:n8}{us:w6}(r:Vals vs us):∀l:List Nat,Vals (l.map fun i=>vs.getD i .non) (l.map fun i=>us.getD i Value.none)
 | []=>.nil
 | i::l=>.cons (A0j r i) (Ym r l)
theorem Tj {v:V}{u:Value}(h:RelV v u):∀{vs:n8}{us:w6},Vals vs us->Vals (vs++[v]) (us++[u])
 | _,_,.nil=>.cons h .nil
 | _,_,.cons r rs=>.cons r (Tj h rs)
theorem Xb {h:Heap}:∀{us:w6}{ds:w5}{as:v6},ReadsAll h us ds as->∀{i:Nat}{d:t6},ds[i]?=some d->∃as',Reads h (us.getD i Value.none) d as'
 | _,_,_,.nil,i,d,e=>by simp at e
 | _,_,_,.cons r rs,0,d,e=>by simp at e;subst e;exact⟨_,r⟩
 | _,_,_,.cons r rs,i+1,d,e=>Xb rs (by simpa using e)
section
variable {X:Cx}{pins:y_}{σ:St}{H:Hp}{s:u_}{D S:Addr}{e1 n:Nat}{Q:VK}{P:PySem.Fin->u_->Prop}{E:z_}{A:t_}
theorem Y0 {d ous:w6}{outs:n8}{st:SortSt}(O:X.s₀.heap.objs.size<=D)(G:X.s₀.heap.objs.size<=S)(w:D≠S)(hp:∀p∈X.pn++pins,p.1≠S/\p.1≠D)
 (I:Inv X (pins++[(S,seqObj "list" d.toArray n),(D,seqObj "list" #[] e1)]) σ H s) (hz:outs.length<=sizeLine) (hk:d.length<=sizeLine)
 (ho:(arrOf st).map (·.2)=List.toArray ous) (hf:failedOf st=none) (B:Vals outs ous) (q:∀l,H l=none->Q (.ref l) (upd H l (.lst outs)))
 (F:∀s',EP X pins σ Q (.ref D) s'->P (.done (.ret .none)) s'):wpAny (model X.prog X.w) A (ksk_tail D false e1 (.ref S) st) P E s:=by
 obtain⟨j,k,m,J,N⟩:=I.pin (S,seqObj "list" d.toArray n) (aJ _ (aJ _ aN));obtain⟨r,g,h,R,T⟩:=I.pin (D,seqObj "list" #[] e1) (aJ _ (aJ _ (aW _ aN)))
 have f:∀x c,X.env.cells.lookup x=some c->c≠S/\c≠D:=fun x c e=>by
  obtain⟨v,U,ho,K⟩:=I.cell x c e
  grind
 have L:Inv X pins σ H s:=I.pins_of fun p hp=>I.pin p (aJ _ (bN _ hp))
 have M:Inv X pins σ H { s with heap:=s.heap.update S (Obj.mapSeq fun _=>#[]) }:=L.turned (t':=s.toks) (fun b o i e=>(Heap.get?_update_other s.heap _ (aU i)).trans e) k m (.inr G) (fun x c e=>(f x c e).1) (fun p a=>(hp p a).1)
 have t:(s.heap.update S (Obj.mapSeq fun _=>(#[]:v7))).get? D=some (seqObj "list" #[] e1):=(Heap.get?_update_other s.heap _ (aU w)).trans r
 obtain⟨C,y⟩:∃C,((s.heap.update S (Obj.mapSeq _)).update D (Obj.mapSeq fun _=>ous.toArray)).get? D=some _:=⟨_,get?_update_seq t _⟩
 have z:=B.length;unfold ksk_tail;rw[ho]
 refine wpAny_bind (listUpdate_at j rfl ?_ (by simp_all) (aB _))
 refine wpAny_bind (wpAny_letGo ?_)
 refine wpAny_bind (seqEpoch_at t rfl ?_)
 refine wpAny_bind (listUpdate_at t rfl ?_ (aB _) (by grind))
 rw[hf]
 simp 
 refine wpAny_pure (F _ ⟨.ref D,upd H D _,?_,rfl,q D g⟩)
 exact M.adopt  (fun b u i e=>(Heap.get?_update_other _ _ (aU i)).trans e) g h O (fun x c e=>(f x c e).2) (fun p a=>(hp p a).2) ⟨hz,ous,C,B,y⟩
theorem A5y {a us:w6}{vs ks:n8}(hu:A.units+64<cLine)(R:X.s₀.heap.objs.size<=D)(M:X.s₀.heap.objs.size<=S)(h:D≠S)(hp:∀p∈X.pn++pins,p.1≠S/\p.1≠D)
 (I:Inv X (pins++[(S,seqObj "list" a.toArray n),(D,seqObj "list" #[] e1)]) σ H s) (hz:vs.length<=sizeLine) (m:Vals vs us) (rk:Vals ks a) (hl:a.length=us.length) (hw:Ap1 vs ks H Q)
 (L:∀d,EP X pins σ Q (.ref D) d->P (.done (.ret .none)) d):wpAny (model X.prog X.w) A (ksk_end D false us.toArray e1 (.ref S) a.toArray) P E s:=by
 have k:=m.length;unfold ksk_end;simp only[cP,cY]
 rcases hw with ⟨Z,q⟩ | ⟨Z,U,w,T,p,t,u,g,f,q⟩
 ·have b:us.toArray.size<2:=by rw[bC];omega
  rw[if_pos b,if_pos b]
  refine wpAny_bind (wpAny_pure ?_)
  rw[StateT.run_pure]
  refine wpAny_bind (wpAny_pure ?_)
  refine Y0 R M h hp I hz (by omega) ?_ rfl m q L
  show (a.toArray.zip us.toArray).map (·.2)=us.toArray
  apply Array.ext';simp only[Array.toList_map,Array.toList_zip]
  exact List.map_snd_zip (l₁:=a) (l₂:=us) (by omega)
 ·have b:¬ us.toArray.size<2:=by rw[bC];omega
  rw[if_neg b,if_neg b];obtain⟨as,v⟩:=t.reads I rk
  refine wpAny_bind (A6t v u (by omega) ?_)
  have o:us.length<64:=by omega
  rw[k]at f
  refine wpAny_bind (wpAny_mono (kat_run (Q:=fun c d=>d=s/\arrOf c=p.map (kas_item (a.toArray.zip us.toArray))/\failedOf c=none/\p.size=us.length) (G:=fun F d=>F=p/\d=s) hl (by omega) o (fun F c d y K a3 a4=>?_) (A5p (B:=A2c T w) (fun i j r C e W=>?_) _ p f ⟨rfl,rfl⟩)) ?_ fun _ _ z=>z)
  ·obtain⟨rfl,rfl⟩:=a4
   exact⟨rfl,K,a3,y⟩
  ·unfold A2c at e
   cases ei:w[i]? with
   | none=>rw[ei]at e;cases e
   | some di =>
    cases ej:w[j]? with
    | none=>rw[ei,ej]at e;cases e
    | some dj =>
     rw[ei,ej]at e;obtain⟨y,r1⟩:=Xb v ei;obtain⟨K,r2⟩:=Xb v ej;have J  := bR ei;have O  := bR ej;have N:=g _ J
     exact Bf9 r1 r2 N.1 (g _ O).1 (bz.mp u _ J) (bz.mp u _ O) (by have:=N.2;omega) e W
  ·rintro⟨⟨⟩,c⟩ d ⟨rfl,x,hf,Y⟩
   refine Y0 R M h hp I  ?_ (by omega) (kat_snds hl x) hf (Ym m _) q L
   rw[ak,bV];omega
def Bu5 (X:Cx)(pins:y_)(σ:St)(f:Addr)(Z:Hp->Prop)(Ky:V->Hp->VK->Prop):Prop :=
 ∀(pins':y_) (s:u_) (H:Hp) (x:V) (u:Value) (Q':VK),Inv X (pins++pins') σ H s->Z H->RelV x u->Ky x H Q'->wpAny (model X.prog X.w) X.A.in1.in1 (call (.ref f) [u]) (EP X (pins++pins') σ fun v H'=>Z H'/\Q' v H') (fun _ _=>False) s
theorem A2r {k:Nat}{f:Addr}{Z:Hp->Prop}{C:V->Hp->VK->Prop}{us:w6}{vs:n8}(q:Bu5 X pins σ f Z C)(hr:Room (k+2) X.A)
 (U:X.s₀.heap.objs.size<=D) (J:X.s₀.heap.objs.size<=S) (t:D≠S) (hp:∀p∈X.pn++pins,p.1≠S/\p.1≠D)
 (I:Inv X (pins++[(S,seqObj "list" #[] 0),(D,seqObj "list" #[] e1)]) σ H s) (hZ:Z H) (hz:vs.length<=sizeLine) (o:Vals vs us) (h:Uh C vs [] H (fun ks c=>Ap1 vs ks c Q))
 (hP:∀r,EP X pins σ Q (.ref D) r->P (.done (.ret .none)) r):wpAny (model X.prog X.w) X.A.in1.in1 (ksk_rest D (.ref f) false us.toArray e1 (.ref S)) P E s:=by
 have G:=o.length;unfold ksk_rest
 refine wpAny_bind (wpAny_rule ?_)
 rw[<- dM]
 refine wpAny_bind (wpAny_mono (Zb (Iv:=fun b s=>∃ks a n c i,Inv X (pins++[(S,seqObj "list" (List.toArray a) n),(D,seqObj "list" #[] e1)]) σ c s/\Vals ks a/\Vals i b/\a.length+b.length=us.length/\Z c/\Uh C i ks c (fun ks c=>Ap1 vs ks c Q)) ?_ us s ⟨[],[],0,H,vs,I,.nil,o,by simp,hZ,h⟩) (fun _ r T=>?_) fun _ _ z=>z)
 ·rintro x b s ⟨ks,a,n,c,i,g,u,w,K,e,m⟩
  rw[aH]at K
  cases w with
  | cons N Y =>
   refine wpAny_bind (wpAny_attempt (wpAny_mono (q _ s c _ x _ g e N m) (fun j s2 h2=>?_) fun _ _ z=>z.elim))
   obtain⟨O,R,L,A,B,y⟩:=h2;obtain⟨l,t2,t3,W,t5⟩:=L.pin (S,seqObj "list" a.toArray n) (aJ _ (aJ _ aN))
   have ea:(List.toArray a).push j=List.toArray (a++[j]):=by simp
   dsimp only
   refine wpAny_bind (listUpdate_at l rfl ?_ (by rw[bC];omega) (by rw[Array.size_push,bC];omega))
   have M:=get?_update_seq l (·.push j)
   rw[ea]at M
   refine wpAny_pure ⟨rfl,ks++[O],a++[j],_,R,_,L.recS J (fun p d=>?_) (fun p d=>(hp p (bN _ d)).1) M (fun v z=>by cases z),Tj A u,Y,?_,B,y⟩
   ·grind
   ·rw[a_,bY];omega
 ·obtain⟨ks,a,n,c,i,g,u,F,K,e,m⟩:=T
  cases F
  obtain⟨l,t2,t3,W,t5⟩:=g.pin _ (aJ _ (aJ _ aN))
  refine wpAny_bind (listItems_at l rfl ?_)
  have hu:X.A.in1.in1.units+64<cLine:=by have:=hr.un;show X.A.units+1+1+64<_;omega
  exact A5y hu U J t hp g hz o u (by omega) m hP
theorem Xr {k:Nat}{f:Addr}{Z:Hp->Prop}{N:V->Hp->VK->Prop}{a:Addr}{vs:n8}(F:Bu5 X pins σ f Z N)(hr:Room (k+2) X.A)
 (I:Inv X pins σ H s) (hZ:Z H) (A:SqL X.K H a vs\/SqT X.K H a vs) (h:Uh N vs [] H (fun ks H1=>Ap1 vs ks H1 Q)) :
 wpAny (model X.prog X.w) X.A (call (.builtin "sorted") [.ref a] [(Str.ofString "key",.ref f)]) (EP X pins σ Q) E s:=by
 obtain⟨d,T,o,n,t,hT,ho,J,hd,w⟩:∃(d:w6) (T:String) (o:Obj) (n:Nat),Vals vs d/\(T = "list" \/ T = "tuple")/\s.heap.get? a=some o/\o.cls=.type T/\o.data=.seq d.toArray n/\vs.length<=sizeLine:=by
  rcases A with A | A
  ·obtain⟨d,t,⟨o,n,r,j,c,g4⟩,w⟩:=I.list A
   exact⟨d, "list",o,n,t,.inl rfl,r,j,by first | exact c | exact g4,w⟩
  ·obtain⟨d,t,it,w⟩:=I.tuple A
   obtain⟨o,r,j,n,c⟩:=it;exact⟨d, "tuple",o,n,t,.inr rfl,r,j,c,w⟩
 have O:=t.length
 refine call_function_entry_kw kind_sorted plain_sorted entry_sorted (ksk_s1 _ _) ?_
 unfold Builtin.«sorted»
 refine wpAny_bind (m:=checkCount "sorted" 1 1 _) (wpAny_pure ?_)
 refine wpAny_bind (wpAny_collect_seq a hT ho J hd (fun g U=>?_) (by rw[bC];omega))
 refine wpAny_bind (wpAny_newList ?_ (by simp;omega))
 have l:Inv X pins σ H { s with heap:=g }:=I.kept (t':=s.toks) U
 have le:∀b o,s.heap.get? b=some o->b<g.objs.size:=fun b o e=>Heap.lt_size (U b o e)
 have P:X.s₀.heap.objs.size<=g.objs.size:=l.sz;generalize hg1:g.push (seqObj "list" d.toArray 0)=r
 have W:r.objs.size=g.objs.size+1:=by rw[<- hg1,size_push']
 have B:r.get? g.objs.size=some (seqObj "list" d.toArray 0):=by rw[<- hg1];exact Heap.get?_push_size _ rfl
 refine wpAny_bind (wpAny_holding (wpAny_call_entry_kw slot_list_sort ⟨_,B,rfl⟩ entry_list_sort ?_ (ksk_l1 _ _)))
 show wpAny (model X.prog X.w) X.A.in1.in1 (Builtin.«list.sort» ⟨[.ref g.objs.size],[(Str.ofString "key",.ref f)]⟩) _ _ _
 rw[ksk_t1];unfold ksk_tree
 refine wpAny_bind (listItems_at B rfl ?_)
 refine wpAny_bind (listUpdate_at B rfl ?_ (by rw[bC];omega) (aB _))
 generalize hg2:r.update g.objs.size (Obj.mapSeq fun _=>(#[]:v7))=j
 obtain⟨C,x⟩:∃C,j.get? g.objs.size=some (seqObj "list" #[] C):=⟨_,by rw[<- hg2];exact get?_update_seq B fun _=>#[]⟩
 have Y:j.objs.size=g.objs.size+1:=by rw[<- hg2,Heap.size_update,W]
 refine wpAny_bind (seqEpoch_at x rfl ?_)
 refine wpAny_bind (wpAny_newTuple ?_ (by simp;omega))
 refine wpAny_bind (wpAny_newList ?_ (aB _))
 refine wpAny_holding ?_
 generalize hg3:j.push { cls:=.type "tuple",data:=.seq d.toArray.toList.toArray }=c
 have e3:c.objs.size=g.objs.size+2:=by rw[<- hg3,Heap.size_push,Y]
 have M:=l.fpOk (b:=g.objs.size) (aj _) (l.hok.fresh (aj _))
 have G:=l.fpOk (b:=c.objs.size) (by show g.objs.size<=_;omega) (l.hok.fresh (by show g.objs.size<=_;omega))
 have y:∀b u,g.get? b=some u->(c.push { cls:=.type "list",data:=.seq ([]:w6).toArray }).get? b=some u:=fun b u e=>by
  have K:b<g.objs.size:=Heap.lt_size e
  have q1:r.get? b=some u:=by rw[<- hg1];exact Heap.get?_push_of_some _ e
  have q2:j.get? b=some u:=by rw[<- hg2];exact(Heap.get?_update_other _ _ (bB K)).trans q1
  have q3:c.get? b=some u:=by rw[<- hg3];exact Heap.get?_push_of_some _ q2
  exact Heap.get?_push_of_some _ q3
 have R:Inv X pins σ H { s with heap:=c.push { cls:=.type "list",data:=.seq ([]:w6).toArray } }:=l.kept (t':=s.toks) y
 have gS:(c.push { cls:=.type "list",data:=.seq ([]:w6).toArray }).get? c.objs.size=some (seqObj "list" #[] 0):=Heap.get?_push_size _ rfl
 have L:(c.push { cls:=.type "list",data:=.seq ([]:w6).toArray }).get? g.objs.size=some (seqObj "list" #[] C):=Heap.get?_push_of_some _ (by rw[<- hg3];exact Heap.get?_push_of_some _ x)
 have I3:Inv X (pins++[(c.objs.size,seqObj "list" #[] 0),(g.objs.size,seqObj "list" #[] C)]) σ H { s with heap:=c.push { cls:=.type "list",data:=.seq ([]:w6).toArray } }:=R.pins_of fun p i=>by
  rcases aX.mp i with z | z
  ·exact R.pin p (aJ _ z)
  ·rcases az.mp z with rfl | z
   ·exact⟨gS,G.1,G.2.1,G.2.2.1,fun v z=>by cases z⟩
   ·rw[aG.mp z]
    exact⟨L,M.1,M.2.1,M.2.2.1,fun v z=>by cases z⟩
 refine A2r (us:=d) (D:=g.objs.size) (S:=c.objs.size) F hr P (ao P (by omega)) (fun z=>by have z:g.objs.size=c.objs.size:=z;omega) (fun p i=>⟨fun z=>?_,fun z=>?_⟩) I3 hZ w t h fun s' q=>⟨_,rfl,wpAny_pure ⟨_,rfl,q⟩⟩
 ·exact absurd (Heap.lt_size (l.pin p i).1) (by rw[z];show ¬ c.objs.size<g.objs.size;omega)
 ·exact absurd (Heap.lt_size (l.pin p i).1) (by rw[z];show ¬ g.objs.size<g.objs.size;omega)
theorem As2 {k:Nat}{f:Addr}{c:u5}{ps:v4}{sp:Sp}{a:Addr}{vs:n8}(F:FnOk X.prog X.w X.K X.mg X.base CX0 k f c ps sp)(hr:Room (k+2) X.A)(hb:Binds X.K c ps [])
 (I:Inv X pins σ H s) (g:SqL X.K H a vs\/SqT X.K H a vs) (h:Av9 sp vs [] H (fun ks e=>Ap1 vs ks e Q)) :
 wpAny (model X.prog X.w) X.A (call (.builtin "sorted") [.ref a] [(Str.ofString "key",.ref f)]) (EP X pins σ Q) E s :=
 Xr  (fun b s H x u m I _ r j=>wpAny_mono (Bc9 F hr hb I (.cons r .nil) j) (fun _ _ ⟨v,i,l,d,q⟩=>⟨v,i,l,d,trivial,q⟩) fun _ _ z=>z) hr I trivial g h
end
section
variable {X:Cx}{p pos:Pos}{e:Expr}{t tk:TA}{kws:List Keyword}
def By3 (K:v9)(f:Addr)(sp:Sp)(t tk:TA):TE:=fun σ H Q=>t σ H fun vs H1=>tk σ H1 fun zs H2=>∃a xs,vs=[.ref a]/\zs=[.ref f]/\(SqL K H2 a xs\/SqT K H2 a xs)/\Av9 sp xs [] H2 (fun ks H3=>Ap1 xs ks H3 Q)
theorem A9e {k:Nat}{f:Addr}{c:u5}{ps:v4}{sp:Sp}(F:FnOk X.prog X.w X.K X.mg X.base CX0 k f c ps sp)(hr:Room (k+2) X.A)(hb:Binds X.K c ps [])(hg:Gl X "sorted") (hm:X.mg "sorted" = none)
 (ha:PA X [e] t) (hkw:PK X kws tk) (hall:(backToKw pos (keywordEach kws X.env)).all (·.1.isSome)=true:=by rfl) (hks:(backToKw pos (keywordEach kws X.env)).filterMap (·.1)=[Str.ofString "key"]:=by rfl)
 (he:backTo pos (starEach [e] X.env)=(false,eval e X.env)::backTo pos (starEach [] X.env):=by rfl) (hpl:(backTo pos (starEach [e] X.env)).any (·.1)=false:=by rfl) (hno:(backToKw pos (keywordEach kws X.env)).any (·.1.isNone)=false:=by rfl) :
 PE X (.Call (.Name "sorted" p) [e] kws pos) (By3 X.K f sp t tk):=by
 intro b s σ H Q I h
 refine wpAny_Call_Name_kw (J9 I hg hm boot_sorted ?_ (by decide) (by rfl))
 refine PyProof.Rows.callWith_kw (thn (ha _ _ s _ H _ I h) fun us s1 ⟨vs,H1,j,r,q⟩=>?_) he hpl hall hno
 refine thn (hkw _ _ _ _ _ _ j q) fun ws s2 ⟨zs,H2,i,l,g⟩=>?_
 obtain⟨a,xs,rfl,rfl,n,m⟩:=g;obtain⟨u,rfl,o⟩:=vals1 r
 cases (o)
 obtain⟨uf,rfl,d⟩:=vals1 l
 cases (d)
 rw[hks];exact As2 F hr hb i n m
theorem A6d {Kq:v9}(a:X.K=Kq){k:Nat}{f:Addr}{b:u5}{ps:v4}{sp:Sp}(F:FnOk X.prog X.w X.K X.mg X.base CX0 k f b ps sp)(hr:Room (k+2) X.A)(hb:Binds X.K b ps [])(hg:Gl X "sorted") (hm:X.mg "sorted" = none)
 (ha:QA X [e] t) (hkw:QK X kws tk) (hall:(backToKw pos (keywordEach kws X.env)).all (·.1.isSome)=true:=by rfl) (hks:(backToKw pos (keywordEach kws X.env)).filterMap (·.1)=[Str.ofString "key"]:=by rfl)
 (he:backTo pos (starEach [e] X.env)=(false,eval e X.env)::backTo pos (starEach [] X.env):=by rfl) (hpl:(backTo pos (starEach [e] X.env)).any (·.1)=false:=by rfl) (hno:(backToKw pos (keywordEach kws X.env)).any (·.1.isNone)=false:=by rfl) :
 QE X (.Call (.Name "sorted" p) [e] kws pos) (By3 Kq f sp t tk):=by
 subst a;exact⟨A9e F hr hb hg hm ha.get hkw.get hall hks he hpl hno⟩
end
end L2
namespace L2
open PySem PySem.Spec PyProof.Rows
section
variable {X:Cx}
def B2j:V->q9->q9->Hp->VK->Prop:=fun x lo hi H Q=>∃z:Str,x=.str z/\z.length<=sizeLine/\Q (.str (Txt.slice z lo hi)) H
theorem part_of {v:Value}{o:q9}(h:IsPart v o):∃p:Option (Int×Tok),v=partValue p/\p.map (·.1)=o:=by
 cases h with
 | none=>exact⟨none,rfl,rfl⟩
 | int i t=>exact⟨some (i,t),rfl,rfl⟩
theorem Bv5:SlR X B2j:=by
 intro a s σ H x v vl vu lo hi sl Q I d c b e h;obtain⟨z,rfl,f,q⟩:=h;obtain⟨t,rfl⟩:=d;obtain⟨l,rfl,rfl⟩:=part_of b;obtain⟨u,rfl,rfl⟩:=part_of e
 refine⟨"str",_,F.slot_str_getitem.lookup,typeIs_str _ _ _,wpAny_getItem_str_slice (l:=l) (u:=u) (st:=none) c rfl ?_⟩
 exact post_val_or_str ⟨ao (Txt.slice_le z _ _) f,fun t' k=>⟨.str _,H,I.tok _,⟨_,rfl⟩,q⟩⟩
end
section
variable {P:u6}{w:World}{A:t_}{E:z_}{s:u_}{t1 t2:Bool}{z ti to i1 i2 a b p0:Addr}{b1:Bool}{k:Nat}{xs ys:v7}
theorem Y4:entryFor table "dict.update.loop" = some Builtin.«dict.update.loop»:=entryFor_of_tree (by trivial)
theorem Oz:plainId "dict.update.loop" = true:=by decide +kernel
end
theorem B2a (q:Value.type "tuple" = Value.type "tuple_iterator"):False:=by grind
theorem B4b (q:Value.type "tuple" = Value.type "dict"):False:=by grind
def StT (h h':Heap):Prop:=∀a o,h.get? a=some o->o.cls=.type "tuple" -> h'.get? a=some o
mutual
theorem Xp {h h':Heap}(hs:StT h h'):∀(k:t6),keyB k=true->∀(v:Value) (as:v6),Reads h v k as->Reads h' v k as
 | .none,_,_,_,r=>by cases r;exact .none
 | .int i,_,_,_,r=>by cases r;exact .int _ _
 | .str x,_,_,_,r=>by cases r;exact .str _ _
 | .tuple ds,hk,_,_,r=>by
  cases r with
  | tuple h1 h2 h3 h4=>exact .tuple (hs _ _ h1 h2) h2 h3 (Ul hs ds hk _ _ h4)
theorem Ul {h h':Heap}(hs:StT h h'):∀(ks:w5),Ez ks=true->∀(vs:w6) (as:v6),ReadsAll h vs ks as->ReadsAll h' vs ks as
 | [],_,_,_,r=>by cases r;exact .nil
 | k::ks,hk,_,_,r=>by
  obtain⟨a,b⟩:=aq.mp (show (keyB k&&Ez ks)=true from hk)
  cases r with
  | cons r1 r2=>exact .cons (Xp hs k a _ _ r1) (Ul hs ks b _ _ r2)
end
theorem isKeyT.stay {h h':Heap}(hs:StT h h'){k:t6}{a:Addr}(x:isKeyT h k a):isKeyT h' k a:=let ⟨c,_,r⟩:=x; ⟨c,_,Xp hs _ c.1 _ _ r⟩
def PairsAt (h:Heap)(ps:v6)(ks:List (PyData×Addr×Value)):Prop:=ps.length=ks.length/\∀(i:Nat) (p:Addr) (x:PyData×Addr×Value),ps[i]?=some p->ks[i]?=some x->h.IsTuple p #[.ref x.2.1,x.2.2]/\isKeyT h x.1 x.2.1
theorem IsTuple.stayT {h h':Heap}(hs:StT h h'){a:Addr}{xs:v7}(x:h.IsTuple a xs):h'.IsTuple a xs:=let ⟨o,e,c,r⟩:=x; ⟨o,hs a o e c,c,r⟩
theorem PairsAt.stay {h h':Heap}(hs:StT h h'){ps:v6}{ks:List (PyData×Addr×Value)}(x:PairsAt h ps ks):PairsAt h' ps ks :=
 ⟨x.1,fun i p y d c=>let ⟨a,b⟩:=x.2 i p y d c; ⟨IsTuple.stayT hs a,b.stay hs⟩⟩
section
variable {P:u6}{w:World}{A:t_}{E:z_}{s:u_}
theorem Au9:typeLookup (.type "tuple") "keys" = pure none:=by rw[typeLookup_type,builtinLookup_eq_fast];trivial
set_option maxRecDepth 8000 in
theorem A7r {z:Addr}{o:Obj}{xs:v7}{k:Nat}{Q:u9->u_->Prop}(e:s.heap.get? z=some o)(hc:o.cls=.type "tuple") (hdat:o.data=.seq xs k) (hd:o.dict=none) (quiet:A.handled=none)
 (q:∀h' tk,(∀b o,s.heap.get? b=some o->h'.get? b=some o)->Q none { s with heap:=h',toks:=tk }):wpAny (model P w) A (getAttr? (.ref z) "keys") Q E s:=by
 obtain⟨c,dct,dat,sl⟩:=o;simp only at hc hdat hd;subst hc hdat hd;obtain⟨hp,g,d,tk,os⟩:=s
 have ty:∀tk',(⟨hp,g,d,tk',os⟩:u_).TypeIs (.ref z) "tuple" := fun _=>⟨_,e,rfl⟩
 have f1:=sub_AttributeError;have f3:=F.slot_tuple_getattribute.lookup;have f4:=F.slot_tuple_getattribute.bind (.ref z);have f5:=am_tuple_getattr_none;unfold getAttr? getAttrBy? getAttrBy
 repeat any_goals first | assumption | exact ty _ | ((with_reducible show wpAny _ _ (call (Value.builtin "tuple.__getattribute__") _ _) _ _ _);refine call_meets F.slot_tuple_getattribute (ty _) am_entry_tuple_getattribute (F.args_tuple_getattribute_2 _ _) (meets_getattribute_miss_tuple z xs k sl _ _ Au9 (by decide) (by decide +kernel)) ⟨e,quiet,fun h' tk' x new=>?_⟩) | wp_step
 obtain⟨t',u',he⟩:=new.there
 show wpAny _ _ (getattributeRaised _ _ _ _ _ _ _) _ _ _
 unfold getattributeRaised
 repeat any_goals first | assumption | wp_step
 exact q h' tk' fun b o z=>new.keeps b o z
theorem Ms {h h':Heap}{D:Addr}{a:List (PyData×Addr×Value)}(x:h.DictOfH (Dw P w) D a)(hs:StT h h')(k:∀o,h.get? D=some o->h'.get? D=some o):h'.DictOfH (Dw P w) D a:=by
 obtain⟨o,c,d,e,f,g,i,j,l⟩:=x
 exact⟨o,c,d,k o e,f,g,i,fun x b=>(j x b).stay hs,l⟩
theorem Bj4 {ks:List (PyData×Addr×Value)}(b:(ks.map (·.1)).Nodup){i:Nat}{x:PyData×Addr×Value}(e:ks[i]?=some x):atKey (ks.take i) x.1=none:=by
 refine atKey_none_of_get fun j p q=>?_
 have a:j<i:=by
  grind
 rw[List.getElem?_take_of_lt a]at q;exact absurd (idxH_unique b   q e) (aC a)
theorem Bk0 {R:Result->u_->Prop}{D it t:Addr}{ps:v6}{ks:List (PyData×Addr×Value)}(g:A.in1.handled=none)(hu:A.units+20<cLine)(M:D≠it)(nt:t≠it)(ntD:t≠D)(X:(ks.map (·.1)).Nodup)(hz:ks.length<=sizeLine)(s0:u_)
 (N:∀p tk,p.DictOfH (Dw P w) D ks->(∀c o,c≠D->c≠it->s0.heap.get? c=some o->p.get? c=some o)->R (.ok (.ret .none)) { s0 with heap:=p,toks:=tk }) :
 ∀
  (r i:Nat) (h:Heap) (tk:Nat),i+r=ks.length->h.IsTuple t (ps.map Value.ref).toArray->PairsAt h ps ks->h.IsTupleIter it t i->h.DictOfH (Dw P w) D (ks.take i) ->
  (∀c o,c≠D->c≠it->s0.heap.get? c=some o->h.get? c=some o)->codeAny (model P w) A (.builtin "dict.update.loop" ⟨[.ref D,.ref it,rawInt i,.none],[]⟩) R { s0 with heap:=h,toks:=tk }:=by
 intro r
 induction r with
 | zero =>
  intro i h tk e H F b G T
  have n:i=ks.length:=by omega
  subst n
  refine codeAny_builtin Y4 ?_
  rw[Around.under_plainId Oz _]
  show wpAny _ A.in1 (pyNext (.ref it) >>= _) _ _ _
  refine wpAny_bind (wpAny_pyNext_tuple_end g b H (by have:=F.1;simp;omega) fun p f=>?_)
  refine wpAny_bind (m:=Builtin.Dict.addKeywords D []) (wpAny_pure ?_)
  have K:StT h p:=fun a o e c=>f a o (fun z=>by
   obtain⟨W,y,B,_⟩:=b
   rw[z,y]at e;cases e;exact B2a (c.symm.trans B)) e
  refine wpAny_pure (N p tk ?_ fun c o I u e=>f c o u (T c o I u e))
  rw[List.take_of_length_le (aj _)]at G
  exact Ms G K fun o e=>f D o M e
 | succ r ih =>
  intro i h tk e H F b G T
  have n:i<ks.length:=by omega
  have q:i<ps.length:=by rw[F.1];exact n
  obtain⟨O,hk⟩:=F.2 i ps[i] ks[i] (bA q) (bA n)
  refine codeAny_builtin Y4 ?_
  rw[Around.under_plainId Oz _]
  show wpAny _ A.in1 (pyNext (.ref it) >>= _) _ _ _
  refine wpAny_bind (wpAny_pyNext_tuple_item (x:=.ref ps[i]) b H (by simp[q]) fun J v j=>?_)
  have d:StT h J:=fun a o e c=>(j.2 a (fun z=>by
   obtain⟨W,y,B,_⟩:=b
   rw[z,y]at e;cases e;exact B2a (c.symm.trans B))).trans e
  obtain⟨op,E,L,np,S⟩:=IsTuple.stayT d O
  have C:=Ms G d fun o e=>(j.2 D M).trans e
  have Q:({ s0 with heap:=J,toks:=tk }:u_).TypeIs (.ref ps[i]) "tuple" := ⟨_,E,L⟩
  refine wpAny_bind (wpAny_holding (wpAny_bind (wpAny_tryCatch ?_)))
  unfold Builtin.Dict.pairItems
  refine wpAny_bind (wpAny_typeOf Q ?_)
  rw[if_pos (by decide)]
  refine wpAny_bind (wpAny_seqItems E S (wpAny_pure ?_))
  refine wpAny_holding (wpAny_dictSet_heap (knd:=Dw P w) (s:={ s0 with heap:=J,toks:=tk }) (k:=ks[i].1) (a:=ks[i].2.1) (xs:=ks.take i) (show A.in1.units+8<cLine from aQ (bw (show 1+8<=20 by decide) A.units) hu) (hk.stay d) C (fun h2 l V=>?_) ?_)
  ·refine wpAny_pure ⟨plainId_quiet Oz _,?_⟩
   rw[storedH_new (Bj4 X (bA n))]at l
   have Y:ks.take i++[(ks[i].1,ks[i].2.1,ks[i].2.2)]=ks.take (i+1):=by
    rw[List.take_succ_eq_append_getElem n]
   rw[Y]at l
   have U:StT J h2:=fun a o e c=>(V.2 a (fun z=>by
    obtain⟨W,_,_,y,B,_⟩:=C
    rw[z,y]at e;cases e;exact B4b (c.symm.trans B.1))).trans e
   have K:=fun a o e c=>U a o (d a o e c) c
   refine ih (i+1) _ _ (by omega) (IsTuple.stayT K H) (F.stay K) ?_ l fun c o I u e=>(V.2 c I).trans ((j.2 c u).trans (T c o I u e))
   obtain⟨oi,e1,Z⟩:=v;exact⟨oi,(V.2 _ (aU M)).trans e1,Z⟩
  ·rw[cH];exact ao (fZ _ _) hz
theorem Bc7 {Q:z_}{t:Addr}{ps:v6}{ks:List (PyData×Addr×Value)}(f:A.handled=none)(hu:A.units+21<cLine)(I:(ks.map (·.1)).Nodup)(hz:ks.length<=sizeLine)
 (ht:zH s.heap t (ps.map Value.ref).toArray) (hp:PairsAt s.heap ps ks)
 (q:∀l p it,s.heap.objs.size<=it->it≠s.heap.objs.size->l.DictOfH (Dw P w) s.heap.objs.size ks->(∀c o,s.heap.get? c=some o->l.get? c=some o)->Q (.ref s.heap.objs.size) { s with heap:=l,toks:=p }) :
 wpAny (model P w) A (call (.type "dict") [.ref t]) Q E s:=by
 refine callType_codes (Q₁:=fun j y=>j=.ref s.heap.objs.size/\y={ s with heap:=s.heap.push { cls:=.type "dict",data:=.dict #[] } }) F.kt_called_dict (F.kt_typeCall_dict_1 _) F.entry_dict_init (kt_code_dict_new _ ⟨rfl,rfl⟩) ?_
 rintro j y ⟨rfl,rfl⟩
 have i:(s.heap.push { cls:=.type "dict",data:=.dict #[] }).DictOfH (Dw P w) s.heap.objs.size []:=Heap.DictOfH.new s.heap
 have d:∀c o,s.heap.get? c=some o->(s.heap.push { cls:=.type "dict",data:=.dict #[] }).get? c=some o:=fun c o e=>Heap.get?_push_of_some _ e
 obtain⟨o,h,m,⟨z,r⟩,G⟩:=ht
 refine⟨i.typeIs,F.args_dict_init_2 _ _,?_⟩
 unfold Builtin.«dict.__init__»
 refine wpAny_bind ?_
 unfold Builtin.Dict.selfAndRest
 refine wpAny_bind (wpAny_notOrdered_dict i.typeIs ?_)
 show wpAny _ _ (pure (s.heap.objs.size,[Value.ref t])) _ _ _
 refine wpAny_pure ?_
 show wpAny _ _ (Builtin.Dict.updateFrom "dict.__init__" s.heap.objs.size (.ref t) [] .none) _ _ _
 unfold Builtin.Dict.updateFrom
 have v:({ s with heap:=s.heap.push { cls:=.type "dict",data:=.dict #[] } }:u_).TypeIs (.ref t) "tuple" := ⟨_,d _ _ h,m⟩
 refine wpAny_bind (wpAny_typeOf v ?_)
 rw[if_pos (by decide)]
 refine wpAny_bind (A7r (d _ _ h) m r G (by simpa using f) fun g p b=>?_)
 rw[if_pos (by rfl)]
 refine wpAny_bind (wpAny_rule ?_)
 refine wpAny_bind ?_
 have H:g.IsTuple t (ps.map Value.ref).toArray:=⟨o,b _ _ (d _ _ h),m,z,r⟩
 refine wpAny_pyIter_tuple H ?_
 refine wpAny_pure ⟨plainId_quiet Oz _,?_⟩
 have n:∀c o,g.get? c=some o->(g.push { cls:=.type "tuple_iterator",data:=.fields #[.ref t,.int 0 0] }).get? c=some o:=fun c o e=>Heap.get?_push_of_some _ e
 have B:∀c o,s.heap.get? c=some o->c≠s.heap.objs.size:=fun c o e=>aC (Heap.lt_size e)
 obtain⟨oD,u,_⟩:=Ms (P:=P) (w:=w) i (fun a o e _=>b a o e) fun o e=>b _ _ e
 have u:∃o,g.get? s.heap.objs.size=some o:=by
  obtain⟨o,_,_,e,_⟩:=i;exact⟨o,b _ _ e⟩
 have k:s.heap.objs.size≠g.objs.size:=let ⟨o,e⟩:=u; aC (Heap.lt_size e)
 have C:StT s.heap (g.push { cls:=.type "tuple_iterator",data:=.fields #[.ref t,.int 0 0] }):=fun a o e _=>n _ _ (b _ _ (d _ _ e))
 refine Bk0 (A:=A.in1) (it:=g.objs.size) (s0:={ s with heap:=g.push { cls:=.type "tuple_iterator",data:=.fields #[.ref t,.int 0 0] },toks:=p }) (by simpa using f) (show A.units+1+20<cLine from hu) k (aC (Heap.lt_size (b _ _ (d _ _ h)))) (B _ _ h) I hz
  (fun l x J D=>⟨rfl,q l x g.objs.size (bM (let ⟨o,e⟩:=u; Heap.lt_size e)) (aU k) J fun c o e=>D c o (B c o e) (aC (Heap.lt_size (b _ _ (d _ _ e)))) (n _ _ (b _ _ (d _ _ e)))⟩) ks.length 0 _ _ (by omega) (IsTuple.stayT C ⟨o,h,m,z,r⟩) (hp.stay C) ⟨_,Heap.get?_push_size _ rfl,rfl,rfl⟩ (by exact Ms i (fun a o e _=>n _ _ (b _ _ e)) fun o e=>n _ _ (b _ _ e)) fun c o _ _ e=>e
end
def PairsR (H:Hp):n8->List (PyData×V)->Prop
 | [],kvs=>kvs=[]
 | v::vs,kvs=>∃p b k x r,v=.ref p/\H p=some (.tup [.ref b,x])/\KAt H k b/\kvs=(k,x)::r/\PairsR H vs r
def tDP (te:TE):TE:=fun σ H Q=>te σ H fun v H1=>∃t vs kvs,v=.ref t/\H1 t=some (.tup vs)/\PairsR H1 vs kvs/\kvs.length<=sizeLine/\(kvs.map (·.1)).Nodup/\∀p,H1 p=none->Q (.ref p) (upd H1 p (.dT kvs))
theorem Yd {P:u6}{w:World}{H:Hp}{h:Heap}(ok:HOk P w H h):∀{vs:n8}{kvs:List (PyData×V)}{its:w6},PairsR H vs kvs->Vals vs its ->
 ∃ps ks,its=ps.map Value.ref/\PairsAt h ps ks/\KT H kvs ks
 | [],kvs,its,e,r=>by
  cases (show kvs=[] from e)
  cases r
  exact⟨[],[],rfl,⟨rfl,fun i p x e=>by simp at e⟩,.nil⟩
 | v::vs,kvs,its,e,r=>by
  obtain⟨p,b,k,x,rest,rfl,hp,hk,rfl,t⟩:=e
  obtain⟨u,us,rfl,r1,rs⟩:∃u us,its=u::us/\RelV (.ref p) u/\Vals vs us:=by
   cases r with
   | cons r rs=>exact⟨_,_,rfl,r,rs⟩
  obtain⟨ps,ks,rfl,pa,kt⟩:=Yd ok t rs
  cases (show u=Value.ref p from r1)
  obtain⟨_,its2,rv,o,e1,e2,⟨n,e3⟩,_⟩:=ok p _ hp;obtain⟨u1,u2,rfl,g1,g2⟩:=Vals.two rv
  cases (show u1=Value.ref b from g1)
  refine⟨p::ps,(k,b,u2)::ks,rfl,⟨by simp[pa.1],fun i q y a1 a2=>?_⟩,.cons ⟨rfl,hk,g2⟩ kt⟩
  cases i with
  | zero =>
   simp only[List.getElem?_cons_zero,eX]at a1 a2;subst a1 a2;exact⟨⟨o,e1,e2,n,e3⟩,Af0 ok hk⟩
  | succ i=>exact pa.2 i q y (by simpa using a1) (by simpa using a2)
theorem KT.keys {H:Hp}{a:List (PyData×V)}{xs:List (PyData×Addr×Value)}(r:KT H a xs):xs.map (·.1)=a.map (·.1):=by
 induction r with
 | nil=>rfl
 | cons h t b=>simp_all
section
variable {X:Cx}
theorem B3g {a:Expr}{n:TE}{p g:Pos}(hc:X.calm=true)(hu:X.A.units+64<cLine)(j:Gl X "dict") (k:X.mg "dict" = none) (ha:PE X a n) (hs1:isStar a=false:=by rfl) :
 PE X (.Call (.Name "dict" p) [a] [] g) (tDP n):=by
 intro c s r H Q I h;have f:=Gx (es:=[]) (env:=X.env) hs1
 refine Call_ (J9 I j k Be4 (cW ?_ f rfl))
 rw[f]
 show wpAny _ _ (spliced ((false,eval a X.env)::backTo g (starEach [] X.env))) _ _ s
 refine Calls.spliced_cons ?_
 refine thn (ha c s r H _ I h) fun u m ⟨v,Y,d,A,D⟩=>?_
 refine Calls.spliced_nil ?_
 obtain⟨t,vs,i,rfl,B,C,w,E,q⟩:=D
 cases (show u=Value.ref t from A)
 obtain⟨_,F,G,y⟩:=d.hok t _ B;obtain⟨ps,L,rfl,M,l⟩:=Yd d.hok C G
 refine Bc7 (I.ok.hd hc) (aQ (bw (by decide) _) hu) (by rw[l.keys];exact E) (by rw[((Paired.length l).symm)];exact w) y M fun O P it S T J K=>?_
 have N:Inv X c r (upd Y m.heap.objs.size (.dT i)) { m with heap:=O,toks:=P }:=by
  refine d.laid    (fun b o e=>K b o e) (aj _) ?_
  obtain⟨o,x,R,U,W,V,Z,a5,a6⟩:=J
  refine⟨w,cQ.mpr (bB d.big),L,?_,o,x,R,U,W,V,Z,a6⟩
  exact KT.keeps l fun b ys e=>by
   rw[Bb];exact e;intro z;rw[z,d.hok.fresh (aj _)]at e;cases e
 exact⟨.ref _,_,N,rfl,q _ (d.hok.fresh (aj _))⟩
theorem B3b {Kq:v9}(f:X.K=Kq){a:Expr}{e:TE}{p d:Pos}(hc:X.calm=true)(hu:X.A.units+64<cLine)(c:Gl X "dict") (b:X.mg "dict" = none) (ha:QE X a e) (hs1:isStar a=false:=by rfl) :
 QE X (.Call (.Name "dict" p) [a] [] d) (tDP e):=⟨B3g hc hu c b ha.get hs1⟩
end
end L2
namespace L2
open PySem PySem.Spec PyProof.Rows PySem.W
section
variable {X:Cx}{pins:y_}{σ:St}{H H':Hp}{s s':u_}{CX:CXT}{k:Nat}{f:Addr}{fd:u5}{ps:v4}{sp:Sp}{dvs:n8}{ds:w6}{E:XK}{x:Str}{p pos:Pos}{e:Expr}{es:v_}{t:TA}{Q:VK}
def B3t (a C:Addr):HO:=.ext fun h=>∃o,h.get? a=some o/\o.cls=.ref C
end
end L2
namespace L2
open PySem PySem.Spec PyProof.Rows
section
variable {X:Cx}
def rIndexD:V->n8->Hp->VK->Prop:=fun x vs H Q=>∃(y:V) (d:t6) (ds:w5) (j:Nat),vs=[y]/\Tr H d y/\Tr H (.tuple ds) x/\Flat d/\PyData.canLayAll0 ds=true /\
 (∃e,ds[j]?=some e/\PyData.eqv e d=true)/\(∀m e,m<j->ds[m]?=some e->PyData.eqv e d=false)/\Q (.int (j:Nat)) H
theorem Zj (hu:X.A.units+64<cLine):MtM X "tuple.index" rIndexD:=by
 intro l s σ H x vs v us Q I P L h;obtain⟨y,d,c,j,rfl,A,E,w,i,⟨ej,B,C⟩,D,q⟩:=h;obtain⟨u,rfl,G⟩:=L.one;obtain⟨as,J⟩:=A.reads I G;obtain⟨bs,K⟩:=E.reads I P
 cases K with
 | tuple k g p r =>
  rename_i a o b n;obtain⟨c0,dd,N,sl⟩:=o
  dsimp only at g p
  subst g p;have t:=SeqAt.readsAll_map c _ _ i r
  have M:∀m (O:m<b.size) e,c[m]?=some e->SeqAt.readOf s.heap b[m]=e:=fun m O e he=>by
   grind
  have f:b.size=c.length:=by grind
  obtain⟨z,_⟩:=bh.mp B
  refine call_meets F.slot_tuple_index ⟨_,k,rfl⟩ F.entry_tuple_index (F.args_tuple_index_2 _ _) (X8 a _ n _ _ _ (fun y=>PyData.eqv (SeqAt.readOf s.heap y) d) j (f▸z) ?_ ?_) ⟨k,?_,?_⟩
  ·simp_all
  ·grind
  ·exact SeqAt.items_eqAt r J i w.1 (Ug hu w.2)
  ·exact⟨.int _,H,I.tok _,⟨_,rfl⟩,q⟩
end
def TabAt (K:v9)(h:Heap):Prop:=(∀p∈Eu K,h.get? p.1=some { cls:=.none,data:=.fields #[] }/\isCodeTable h p.1/\K.lookup p.1=none)/\∀p∈Eu K,(Eu K).lookup p.1=some p.2
theorem Km {l:List (Addr×Str)}{b:Addr}{q:Str}(h:l.lookup b=some q):(b,q)∈l:=by
 induction l with
 | nil=>grind
 | cons p r a =>
  grind
theorem A1r {P:u6}{w:World}{K:v9}{mg U:x_}{CX:CXT}{k:Nat}{fa a:Addr}{fd:u5}{x:Str}{sp:Sp}{c:u_}{vs:w6}{ns:List Int}
 (KX:K.In c.heap) (hns:c.heap.Ns mainGlobals mg) (hb:c.heap.Ns builtinsNs U) (X:∀x:Str,x ≠ "__name__" -> U x=bootBuiltins x) (L:c.heap.NoLimit) (hg:c.gens=#[])
 (T:∃j o,mg "__builtins__" = some (.ref j)/\j≠builtinsNs/\c.heap.get? j=some o/\o.cls=.type "module" /\ o.dict=some builtinsNs/\o.data=.plain) (D:TabAt K c.heap)
 (ha:c.heap.get? a=some { cls:=.type "list",data:=.seq vs.toArray }) (hi:IntsAre vs ns) (hl:ns.length<=sizeLine) (hr:Room k callerA)
 (F:∀base:Heap,K.In base->base.Ns mainGlobals mg->FnOk P w K mg base CX k fa fd [x] sp) (C:∀(s:u_) (u:Value),BindsTo s fd ⟨[u],[]⟩ [(x,u)])
 (hsp:∀H:Hp,SqL K H a (ns.map V.int)->sp [.ref a] H (fun v _=>v=.bl true) fun _ _ _=>False)
 (W:∀H e s',CX [] H c (fun _ _ _=>False) e s'->False) :
 codeAny (model P w) callerA (.call (.ref fa) ⟨[.ref a],[]⟩) (fun r s'=>r=.ok (.ret (.bool true))/\OldK c.heap s'.heap/\s'.os=c.os/\AllBare s'.gens) c:=by
 have rv:=Y9 hi;have E:=hi.length
 have Y:∀p∈Eu K,p.1≠a:=fun p B z=>by
  have e:=(D.1 p B).1;rw[z,ha]at e;cases e
 have t:∀H:Hp,SqL K H a (ns.map V.int)->HOk P w H c.heap->(∀b u,H b=some u->(b=a/\K.lookup a=none/\∃o xs,u=.frz o (.lst xs))\/∃q,(b,q)∈Eu K/\u=.tbl q)->(∀p∈Eu K,H p.1=some (.tbl p.2)) ->
  codeAny (model P w) callerA (.call (.ref fa) ⟨[.ref a],[]⟩) (fun r s'=>r=.ok (.ret (.bool true))/\OldK c.heap s'.heap/\s'.os=c.os/\AllBare s'.gens) c:=by
  intro H hS G hA hH
  have f:∀{b:Addr} {o:Obj},c.heap.get? b=some o->H b=none->(Yb c.heap H).get? b=some o:=fun e n=>A6q e n
  have N:∀{b:Addr} {o:Obj},c.heap.get? b=some o->(∀x n,o.data≠.seq x n)->(∀x,o.data≠.fields x)->H b=none:=fun {b o} e d1 d2=>by
   cases q:H b with
   | none=>rfl
   | some u =>
    rcases hA b u q with ⟨z,_⟩ | ⟨y,O,_⟩
    ·rw[z,ha]at e;cases e;exact absurd rfl (d1 _ _)
    ·have g:=(D.1 _ O).1
     rw[e]at g;cases g;exact absurd rfl (d2 _)
  have l:∀{b:Addr} {m:x_},c.heap.Ns b m->(Yb c.heap H).Ns b m:=fun {b m} ⟨o,es,ep,e,d,r⟩=>⟨o,es,ep,f e (N e (fun x n z=>by rw[d]at z;cases z) fun x z=>by rw[d]at z;cases z),d,r⟩
  have I:K.In (Yb c.heap H):=fun b o e=>f (KX b o e) (by
   cases q:H b with
   | none=>rfl
   | some u =>
    rcases hA b u q with ⟨z,z2,_⟩ | ⟨y,O,_⟩
    ·rw[z,z2]at e;cases e
    ·rw[(D.1 _ O).2.2]at e;cases e)
  have Z:∃j o,mg "__builtins__" = some (.ref j)/\j≠builtinsNs/\j≠mainGlobals/\(Yb c.heap H).get? j=some o/\o.cls=.type "module" /\ o.dict=some builtinsNs/\o.data=.plain:=by
   obtain⟨j,o,b1,b2,Q,b4,b5,M⟩:=T
   refine⟨j,o,b1,b2,fun z=>?_,f Q (N Q (fun x n z=>by rw[M]at z;cases z) fun x z=>by rw[M]at z;cases z),b4,b5,M⟩
   obtain⟨og,es,ep,e,d,_⟩:=hns;rw[z,e]at Q;cases Q;rw[d]at M;cases M
  have hM:Mod K mg (Yb c.heap H):=⟨I,l hns,⟨U,l hb,X⟩,(let ⟨mc,h1,h2⟩:=L; ⟨mc,l h1,h2⟩),Z⟩
  have e0:Env0 P w K mg (Yb c.heap H) callerA [] c H:=⟨rfl,hM,fun b o e=>Ba8 e,dR (A1q _ _),trivial,fun b hb=>absurd (show b∈([]:v6) from hb) (by simp),hH,G,.of_eq hg⟩
  refine codeAny_mono ((F _ I (l hns)).run callerA [] c H ⟨[.ref a],[]⟩ [.ref a] [.ref a] _ _ hr e0 (C c (.ref a)) (.cons rfl .nil) (hsp H hS)) fun r s' h=>?_
  cases r with
  | error e=>exact(W H e s' h).elim
  | ok fl =>
   cases fl with
   | next=>exact False.elim h
   | brk=>exact False.elim h
   | cont=>exact False.elim h
   | ret u =>
    obtain⟨v,H',os,J,R,A,r',q⟩:=h;have q':v=.bl true:=q;subst q';obtain rfl:u=Value.bool true:=r'
    refine⟨rfl,⟨fun b o e=>?_,fun b o e=>R.there b o e (by simp)⟩,os,J⟩
    cases q:H b with
    | none=>exact .inl (R.keep b o e q (by intro z;exact absurd (show b∈([]:v6) from z) (by simp)) (by simp))
    | some u =>
     rcases hA b u q with ⟨_,_,ob,xs,rfl⟩ | ⟨y,O,rfl⟩
     ·obtain⟨g,_⟩:=G b _ q
      obtain⟨e2,_⟩:=A b _ (R.frzs b ob _ q);rw[e]at g;cases g;exact .inl e2
     ·obtain⟨ps,e2,_⟩:=A b _ (R.tbls b y q)
      obtain⟨t1,t2,_⟩:=D.1 _ O;rw[e]at t1;cases t1
      exact .inr (.inl ⟨t2,rfl,#[],ps,rfl,by rw[e2];simp⟩)
 have i:∀(H:Hp) (p:Addr×Str),p∈Eu K->z9 P w H _ _ (.tbl p.2):=fun H p B=>⟨#[],(D.1 p B).1,trivial,fun pos cv z=>by cases z⟩
 cases hk:K.lookup a with
 | some o =>
  have e:=KX a o hk;rw[ha]at e
  cases e
  refine t (fun b=>((Eu K).lookup b).map .tbl) (.inr ⟨_,vs.toArray,_,hk,rfl,rfl,rfl,by rw[bC,E];exact hl,by simpa using rv⟩) (fun b u z=>?_) (fun b u z=>?_) fun p B=>?_
  ·obtain⟨q,g,rfl⟩:=aO.mp z
   exact i _ _ (Km g)
  ·obtain⟨q,g,rfl⟩:=aO.mp z
   exact .inr ⟨q,Km g,rfl⟩
  ·rw[D.2 p B];rfl
 | none =>
  refine t (fun b=>if b=a then some (.frz { cls:=.type "list",data:=.seq vs.toArray } _) else ((Eu K).lookup b).map .tbl) (.inl (.inr ⟨{ cls:=.type _,data:=.seq _ },if_pos rfl⟩)) (fun b u z=>?_) (fun b u z=>?_) fun p B=>?_
  ·by_cases hb:b=a
   ·have S:=(if_pos hb).symm.trans z
    cases S
    subst hb
    exact⟨ha,by rw[ak];exact hl,vs,_,rv,ha⟩
   ·obtain⟨q,g,rfl⟩:=aO.mp ((if_neg hb).symm.trans z)
    exact i _ _ (Km g)
  ·by_cases hb:b=a
   ·have S:=(if_pos hb).symm.trans z
    cases S
    exact .inl ⟨hb,hk,_,_,rfl⟩
   ·obtain⟨q,g,rfl⟩:=aO.mp ((if_neg hb).symm.trans z)
    exact .inr ⟨q,Km g,rfl⟩
  ·rw[if_neg (Y p B),D.2 p B];rfl
end L2
namespace L2
open PySem PySem.Spec PyProof.Rows PySem.W
theorem Z1 {f:Pos}{c:Value}:∀(l:w6),TriplesOk l->TriplesOk (l++[rawInt f.line,rawInt f.col,c]):=fun l h=>by
 fun_induction TriplesOk l with
 | case1=>trivial
 | case2 a b c d e g i=>exact i h
 | case3=>trivial
theorem Av7 {g f:Pos}{c cv:Value}:∀(l:w6),TriplesOk l->codeAmong f (l++[rawInt g.line,rawInt g.col,c])=some cv->codeAmong f l=some cv\/cv=c:=fun l h e=>by
 fun_induction TriplesOk l with
 | case1 =>
  simp only[bT,rawInt,codeAmong]at e
  grind
 | case2 a b c d k i j =>
  simp only[gq,codeAmong]at e ⊢
  grind
 | case3=>trivial
def Bv3 (H H':Hp):Prop:=H'=H\/∃c o,H c=none/\H'=upd H c (.frz o (.own 0))
abbrev Aq2 (qual:Str)(params:Arguments)(body:Expr)(scope:Scope)(cl:List (Str×Addr))(pm cv ctv:Value):Obj:={ cls:=.type "function",data:=.func (kla_fn "<lambda>" qual params body scope cl pm cv ctv) }
def LamCd (qual:Str)(cv:Value)(H:Hp):Prop:=∃c o vs t,cv=.ref c/\H c=some (.frz o (.own 0))/\o.data=.fields vs/\vs[1]?=some (.str qual t)
theorem LamCd.rec {P:u6}{w:World}{qual:Str}{cv:Value}{H:Hp}{h:Heap}(x:LamCd qual cv H)(b:HOk P w H h):h.CodeRec cv qual:=by
 obtain⟨c,o,i,t,e,a,d,f⟩:=x;obtain⟨g,_⟩:=b c _ a;exact⟨c,o,i,t,e,g,d,f⟩
section
variable {X:Cx}{pins:y_}{σ:St}{H:Hp}{s:u_}
theorem Inv.grown {T c:Addr}{q:Str}{f:Obj}{h':Heap}{t':Nat}(I:Inv X pins σ H s)(w:H T=some (.tbl q))(k:∀b o,b≠T->s.heap.get? b=some o->h'.get? b=some o)(hc:s.heap.objs.size<=c)(ho:h'.get? c=some f)
 (j:z9 X.prog X.w (upd H c (.frz f (.own 0))) h' T (.tbl q)):Inv X pins σ (upd H c (.frz f (.own 0))) { s with heap:=h',toks:=t' }:=by
 have p:H c=none:=I.hok.fresh hc
 have a:∀b u,H b=some u->b≠c:=fun b u e=>By e p
 have i:∀b u,s.heap.get? b=some u->b≠c:=fun b u e z=>absurd (Heap.lt_size e) (by simp_all)
 have h:∀b,H b=none->b≠T:=fun b e z=>by rw[z,w]at e;cases e
 refine I.step (g':=s.gens) (d':=s.drawn) (ch:=[]) (fun _ z=>nomatch z) (fun b o _ _ _ e n=>k b o (h b n) e) (fun b o _ _ _ e n=>⟨o.slots,k b o (h b n) e⟩) (fun b o _ e n=>by rw[Bb (i b o e)];exact n) (fun b o _ e=>?_)
  (fun b l e=>by rw[Bb (a b _ e)];exact e) (fun b o u e=>by rw[Bb (a b _ e)];exact e) (fun b q e=>by rw[Bb (a b _ e)];exact e) (fun m x=>?_) (fun b u e=>?_) I.bare
 ·by_cases hb:b=T
  ·obtain⟨B,g,_⟩:=j
   simp_all
  ·exact⟨o,k b o hb e⟩
 ·obtain⟨o,t,y,e,r⟩:=x
  exact⟨o,t,y,k _ o (h _ I.free) e,r⟩
 ·by_cases hb:b=c
  ·rw[hb]at e ⊢
   rw[Cq]at e;cases e;exact⟨ho,f,ho⟩
  ·rw[Bb hb]at e
   by_cases hbT:b=T
   ·simp_all
   ·refine (I.hok b u e).stay (fun d v C z=>k d v ?_ z) (fun d z=>by rw[Bb (a d _ z)];exact z) (fun d l z=>by rw[Bb (a d _ z)];exact z) fun d A l z=>by rw[Bb (a d _ z)];exact z
    grind
theorem A9b {a:Arguments}{body:Expr}{scope:Scope}{N:Pos}{cl:List (Str×Addr)}{c T:Addr}{l:Str}{Q:z_}{A:t_}{E:z_}(I:Inv X pins σ H s)(hT:(T,l)∈Eu X.K)(hC:codeHdIn X.K c T=true)(g:X.env.code=.ref c)
 (hq:X.env.qual ++ "<lambda>" = l) (w:defaultsOf a X.env=([],[])) (x:closureFor scope X.env=pure cl)
 (h:∀(f:Addr) (s':u_) (H':Hp) (pm cv j:Value),Inv X (pins++[(f,Aq2 l a body scope cl pm cv j)]) σ H' s'->Bv3 H H'->LamCd l cv H'->Q (.ref f) s') :
 wpAny (model X.prog X.w) A (eval (.Lambda a body scope N) X.env) Q E s:=by
 have D:H T=some (.tbl l):=I.base.tbls T l (I.ok.tab (T,l) hT);obtain⟨ps,F,K,i⟩:=I.hok T _ D;have C:=codeHd_of_K I.kIn hC;have m:s.heap.Ns mainGlobals X.mg:=I.ok.mod.glob.keeps I.bk;obtain⟨Z,ob,b1,b2,b3,b4,b5,b6,b7⟩:=I.ok.mod.bmod;have k:=I.bk _ _ b4
 have M:mainGlobals≠T:=fun z=>by
  obtain⟨o,es,ep,e,d,_⟩:=m;rw[z,F]at e;cases e;cases d
 have O:Z≠T:=fun z=>by rw[z,F]at k;cases k;cases b5
 have Y:s.heap.BuiltinsAt X.mg T:=⟨Z,ob,b1,b2,b3,O,k,b5,b6,b7⟩
 have q:∀{n:Heap} {H':Hp} {y:Nat} {o:Obj},Inv X _ σ H' { s with heap:=n,toks:=y }->o.isFreed=false->(∀v,o.data≠.cell v)->Inv X (pins++[(n.objs.size,o)]) _ _ _:=fun {n H' y o} J R G=>by
  have f:=J.fpOk  (aj _) (J.hok.fresh (aj _))
  have J2:Inv X _ _ _ { s with heap:=n.push o,toks:=y }:=J.kept  fun b u e=>Heap.get?_push_of_some _ e
  refine J2.pins_of fun p hp=>?_
  rcases aX.mp hp with z | z
  ·exact J2.pin p (aJ _ z)
  ·rw[aG.mp z]
   exact⟨Heap.get?_push_size _ R,f.1,f.2.1,f.2.2.1,G⟩
 refine kla_eval w ?_
 rw[hq]
 cases hf:codeAmong _ _ with
 | none =>
  refine kla_makeFunction  x I.ok.glob m g C F K hf M Y fun S j n y hx r hlt B U=>?_
  obtain⟨c2,P,vs,t,L,V,G,hv⟩:=B
  cases L
  have hn  := I.hok.fresh r
  refine h _ _ _ _ _ _ (q (I.grown  D (fun b o hb e=>hx b o hb e) r V ?_) rfl fun v z=>by cases z) (.inr ⟨S,P,hn,rfl⟩) ⟨S,P,vs,t,rfl,Cq,G,hv⟩
  refine⟨_,U,by rw[Array.toList_append];exact Z1 _ K,fun pos' cv z=>?_⟩
  rw[Array.toList_append]at z
  rcases Av7 _ K z with z | rfl
  ·obtain⟨d,o,W,t',e1,L,e3⟩:=i _ _ z
   exact⟨d,o,W,t',e1,by rw[Bb (By L hn)];exact L,e3⟩
  ·exact⟨S,P,vs,t,rfl,Cq,G,hv⟩
 | some cv =>
  refine kla_makeFunctionHit  x I.ok.glob m g C F K hf Y fun j n y hk hsz=>?_
  exact h _ _ H _ _ _ (q (I.kept  hk) rfl fun v z=>by cases z) (.inl rfl) (i _ _ hf)
abbrev Y5 (X:Cx)(N':v4)(scope:Scope)(cl:List (Str×Addr))(qual:Str)(f:Addr)(cv:Value)(s:u_)(H:Hp):Cx :=
 { X with
  A:=X.A.in1.in1.deeper (envX qual scope s.heap.objs.size f cv cl),N:=N',s₀:=s,H₀:=H,env:=envX qual scope s.heap.objs.size f cv cl,outer:=X.stack,stack:=envX qual scope s.heap.objs.size f cv cl::X.stack,
  ex:=[],fn:=fun _=>false,calm:=true,pn:=[],xe:=fun _ _=>False }
theorem Bc4 {N':v4}{idx:p6}{scope:Scope}{cl:List (Str×Addr)}{qual x:Str}{f:Addr}{cv u:Value}{v:V}{h₁:Heap}{t':Nat}(L:Sv X (x::N') (none::idx) scope)(hx:scope.names.lookup x=some .local)(hd:X.A.handled=none)(I:Inv X pins σ H s)
 (c1:∀x c,cl.lookup x=some c->X.env.cells.lookup x=some c/\(x,NameKind.free)∈scope.names) (c2:∀x,(x,NameKind.free)∈scope.names->∃c,cl.lookup x=some c) (r:RelV v u)
 (k:∀b o,s.heap.get? b=some o->h₁.get? b=some o) (hn:h₁.Ns s.heap.objs.size (fun y=>[(x,u)].reverse.lookup y)) :
 Inv (Y5 X (x::N') scope cl qual f cv s H) [] (some v::cst idx σ) H { s with heap:=h₁,toks:=t' } where
 ok:={
  mod:=I.ok.mod,kind:=L.kind,glob:=rfl,blt:=rfl,above:=aj _,inj:=fun y z c e1 e2=>I.ok.inj y z c (c1 y c e1).1 (c1 z c e2).1
  has:=fun y h=>by
   have h':scope.names.lookup y=some .cell\/scope.names.lookup y=some .free:=h
   rcases h' with h | h
   ·exact absurd rfl (L.cell _ (lookup_mem h))
   ·exact c2 y (lookup_mem h)
  cab:=(fun y c z=>nomatch z),hd:=fun _=>hd,frames:=Around.frames_deeper I.ok.frames,stk:=.inr ⟨rfl,rfl⟩,exf:=(fun b z=>nomatch z),bs:=I.bs,bsz:=ao I.ok.bsz I.sz,noex:=(fun _ _ _ z=>nomatch z),exfs:=(fun _ z=>nomatch z)
  funs:=I.stack,frf:=I.stkFree,tab:=fun p hp=>I.base.tbls p.1 p.2 (I.ok.tab p hp) }
 os:=rfl
 bare:=I.bare
 base:=Un.kept k
 loc:=by
  refine⟨_,hn,fun j y w e1 e2 e3=>?_⟩
  cases j with
  | zero =>
   cases (show some x=some y from e1)
   cases (show some (some v)=some (some w) from e2)
   exact⟨u,r,.inl ⟨hx,by simp⟩⟩
  | succ j =>
   obtain⟨m0,hn0,hl⟩:=I.loc
   have e2':(idx.map fun o=>o.bind fun i=>(σ[i]?).join)[j]?=some (some w):=e2
   rw[bJ]at e2'
   cases ei:idx[j]? with
   | none=>rw[ei]at e2';cases e2'
   | some o =>
    rw[ei]at e2';simp only[dC,eX]at e2'
    cases o with
    | none=>cases e2'
    | some i =>
     have e2'':(σ[i]?).join=some w:=e2';obtain⟨hNi,hfr⟩:=L.at' (j+1) i y e1 ei
     have hσ:σ[i]?=some (some w):=by
      cases q:σ[i]? with
      | none=>rw[q]at e2'';cases e2''
      | some z=>rw[q]at e2'';rw[show z=some w from e2'']
     have hk:=L.free _ (lookup_mem hfr) rfl
     have hvis:Vis X.env.scope y:=by
      rcases hk with z | z
      ·exact .inr (.inl z)
      ·exact .inr (.inr z)
     obtain⟨u',r',lk⟩:=hl i y w hNi hσ hvis
     refine⟨u',r',.inr ⟨.inr hfr,?_⟩⟩
     rcases lk with ⟨z,_⟩ | ⟨_,c,hc,hcl⟩
     ·exfalso
      have z':X.env.kindOf y=some .local:=z
      rcases hk with q | q
      ·rw[show X.env.kindOf y=_ from q]at z';cases z'
      ·rw[show X.env.kindOf y=_ from q]at z';cases z'
     ·obtain⟨c',hc'⟩:=c2 y (lookup_mem hfr)
      have ec:c'=c:=bU ((c1 y c' hc').1.symm.trans hc);obtain⟨oc,g1,g2⟩:=hcl
      exact⟨c',hc',oc,by rw[ec];exact k _ _ g1,g2⟩
 cell:=fun y c e=>by
  obtain⟨w,oc,g1,g2⟩:=I.cell y c (c1 y c e).1;exact⟨w,oc,k _ _ g1,g2⟩
 free:=I.hok.fresh (aj _)
 freeC:=fun y c e=>I.freeC y c (c1 y c e).1
 pin:=fun p hp=>nomatch hp
 hok:=I.hok.kept k
 len:=by
  show (some v::idx.map _).length=(x::N').length
  have:=L.len;rw[aH,aH]at this;rw[aH,ak,aH];exact this
theorem Bg3 {k:Nat}{N':v4}{idx:p6}{a:Arguments}{body:Expr}{scope:Scope}{i:List (Str×Addr)}{qual x:Str}{f:Addr}{B cv j u:Value}{v:V}{A:TE}{Q:VK}(L:Sv X (x::N') (none::idx) scope)(hx:scope.names.lookup x=some .local)
 (n:scope.isCoroutine=false) (l:scope.isGenerator=false) (g:bindArgs (kla_fn "<lambda>" qual a body scope i B cv j) ⟨[u],[]⟩=pure [(x,u)]) (hr:Room (k+3) X.A)
 (hb:QE (Y5 X (x::N') scope i qual f cv s H) body A) (I:Inv X pins σ H s) (ho:s.heap.get? f=some (Aq2 qual a body scope i B cv j)) (hcd:s.heap.CodeRec cv qual)
 (c1:∀x c,i.lookup x=some c->X.env.cells.lookup x=some c/\(x,NameKind.free)∈scope.names) (c2:∀x,(x,NameKind.free)∈scope.names->∃c,i.lookup x=some c) (r:RelV v u) (h:A (some v::cst idx σ) H Q) :
 wpAny (model X.prog X.w) X.A.in1.in1 (call (.ref f) [u]) (EP X pins σ fun v H'=>(∀b o u,H b=some (.frz o u)->H' b=some (.frz o u))/\Q v H') (fun _ _=>False) s:=by
 refine wpAny_call ?_
 refine kla_callFunE hr.in1.in1.depth ho rfl n l rfl hcd ?_
 rw[g]
 refine wpAny_pure (wpAny_newFunctionEnv L.cell fun y J=>by simp_all (fun w t p=>?_) L.kind)
 have d  := fun b o e=>p.extBut b o (aC (Heap.lt_size e)) (Heap.get?_push_of_some _ e)
 refine⟨I.nolimit.keeps d,?_⟩
 refine kla_codeExpr (wpAny_mono (hb.get _ _ _ H Q (Bc4 (qual:=qual) (f:=f) (cv:=cv) (t':=s.toks+[(x,u)].length) L hx hr.hd I c1 c2 r d t) h) (fun F G C=>?_) fun _ _ z=>z.elim)
 obtain⟨E,H',m,D,q⟩:=C;exact I.after ⟨E,H',m.os,m.bare,m.base,m.hok,D,m.base.frzs,q⟩
end
section
variable {X:Cx}{p pos lpos kpos:Pos}{e:Expr}{t:TA}
def A7t (K:v9)(idx:p6)(te:TE)(t:TA):TE:=fun σ H Q=>t σ H fun vs H1=>∃a xs,vs=[.ref a]/\∀H2,Bv3 H1 H2->(SqL K H2 a xs\/SqT K H2 a xs)/\Uh (fun x H Q=>te (some x::cst idx σ) H Q) xs [] H2 (fun ks H3=>Ap1 xs ks H3 Q)
theorem A6n {k:Nat}{N':v4}{idx:p6}{b:Arguments}{body:Expr}{scope:Scope}{w x:Str}{c T:Addr}{K:TE}(hT:(T,w)∈Eu X.K)(Z:codeHdIn X.K c T=true)(j:X.env.code=.ref c)(hr:Room (k+3) X.A)
 (hg:Gl X "sorted") (hm:X.mg "sorted" = none) (ha:PA X [e] t) (L:Sv X (x::N') (none::idx) scope) (hb:∀f A n s H,Room k (Y5 X (x::N') scope n w f A s H).A->QE (Y5 X (x::N') scope n w f A s H) body K)
 (hx:scope.names.lookup x=some .local:=by rfl) (M:scope.isCoroutine=false:=by rfl) (C:scope.isGenerator=false:=by rfl) (B:X.env.qual ++ "<lambda>" = w:=by rfl) (D:defaultsOf b X.env=([],[]):=by rfl)
 (l:∀n F A m u,bindArgs (kla_fn "<lambda>" w b body scope n F A m) ⟨[u],[]⟩=pure [(x,u)]:=by exact fun _ _ _ _ _=>rfl)
 (he:backTo pos (starEach [e] X.env)=(false,eval e X.env)::backTo pos (starEach [] X.env):=by rfl) (hpl:(backTo pos (starEach [e] X.env)).any (·.1)=false:=by rfl) :
 PE X (.Call (.Name "sorted" p) [e] [⟨some "key",.Lambda b body scope lpos,kpos⟩] pos) (A7t X.K idx K t):=by
 intro g s V H Q I h
 refine wpAny_Call_Name_kw (J9 I hg hm boot_sorted ?_ (by decide) (by rfl))
 refine PyProof.Rows.callWith_kw (thn (ha pos g s V H _ I h) fun us Y ⟨S,H1,W,r,q⟩=>?_) he hpl rfl rfl
 obtain⟨n,i,c1,c2⟩:=Px (env:=X.env) (scope:=scope) fun y hy hf=>W.ok.has y.1 (L.free y hy hf)
 show wpAny _ _ (evalAll [do let v <- eval (.Lambda b body scope lpos) X.env;standAt pos;pure v]) _ _ Y
 refine wpAny_evalAll_cons (wpAny_bind (A9b W hT Z j B D i fun f s2 H2 F A m I2 hl N=>wpAny_bind (wpAny_standAt (wpAny_pure (wpAny_evalAll_nil ?_)))))
 obtain⟨a,xs,rfl,q⟩:=q;obtain⟨hs,hw⟩:=q H2 hl;obtain⟨u,rfl,ru⟩:=vals1 r
 cases (show u=Value.ref a from ru)
 have J:Bu5 X (g++[(f,Aq2 w b body scope n F A m)]) V f (LamCd _ _) (fun x H Q=>K _ H Q):=fun G s H x u Q' I U r hk=>by
  refine wpAny_mono (Bg3 L hx M C (l _ _ _ _ u) hr (hb f _ _ s H (hr.in1.in1.deeper _)) I ((I.pin _ (aJ _ (bN _ (aJ _ aN)))).1) (U.rec I.hok) c1 c2 r hk) (fun u' s' B=>?_) fun _ _ z=>z
  obtain⟨P,O,E,R,fz,q⟩:=B;obtain⟨c0,o,S,t0,e,hc,d⟩:=U;exact⟨P,O,E,R,⟨c0,o,S,t0,e,fz _ _ _ hc,d⟩,q⟩
 refine thn (Xr  J hr I2 N hs hw) fun u s3 B=>?_
 obtain⟨P,O,E,R,q⟩:=B
 exact⟨P,O,E.pins_of fun p hp=>E.pin p (aJ _ (bN _ hp)),R,q⟩
theorem A3x {Kq:v9}(j:X.K=Kq){k:Nat}{N':v4}{idx:p6}{a:Arguments}{body:Expr}{scope:Scope}{g x:Str}{c T:Addr}{m:TE}(n:(T,g)∈Eu X.K)(q:codeHdIn X.K c T=true)(b:X.env.code=.ref c)(hr:Room (k+3) X.A)
 (hg:Gl X "sorted") (hm:X.mg "sorted" = none) (ha:QA X [e] t) (L:Sv X (x::N') (none::idx) scope) (hb:∀f cv cl s H,Room k (Y5 X (x::N') scope cl g f cv s H).A->QE (Y5 X (x::N') scope cl g f cv s H) body m)
 (hx:scope.names.lookup x=some .local:=by rfl) (l:scope.isCoroutine=false:=by rfl) (i:scope.isGenerator=false:=by rfl) (o:X.env.qual ++ "<lambda>" = g:=by rfl) (h:defaultsOf a X.env=([],[]):=by rfl)
 (d:∀cl pm cv ctv u,bindArgs (kla_fn "<lambda>" g a body scope cl pm cv ctv) ⟨[u],[]⟩=pure [(x,u)]:=by exact fun _ _ _ _ _=>rfl)
 (he:backTo pos (starEach [e] X.env)=(false,eval e X.env)::backTo pos (starEach [] X.env):=by rfl) (hpl:(backTo pos (starEach [e] X.env)).any (·.1)=false:=by rfl) :
 QE X (.Call (.Name "sorted" p) [e] [⟨some "key",.Lambda a body scope lpos,kpos⟩] pos) (A7t Kq idx m t):=by
 subst j;exact⟨A6n n q b hr hg hm ha.get L hb hx l i o h d he hpl⟩
end
theorem Fun.okL {P:u6}{w:World}{K:v9}{mg:x_}{base:Heap}{x qual:Str}{st:Stmt}{f:Addr}{i:u5}{N ps:v4}{k:Nat}{sp:Sp}(F:Fun K x qual st f i)(S:Bm N ps (Aw st))(e:∀vs H Q E,sp vs H Q E->vs.length=ps.length)
 (c:∀(b:Value) (A:t_) (a:List Env) (s:u_) (H:Hp) (vs:n8) (Q:VK) (E:XK),i.code=b->Room k (A.deeper (envOfC qual (Aw st) s.heap.objs.size f b))->sp vs H Q E ->
  ∃t,PSs (Au7 CX0 P w K mg base N qual (Aw st) f b A a s H E).nox (Ji st) t/\t { nx:=fun _ H'=>Q .non H',rt:=Q } (start N vs) H):FnOk P w K mg base CX0 (k+1) f i ps sp:=by
 obtain⟨oc,od,kV,j,pm,an,b,ct,l,rfl,m,g⟩:=F.ex
 refine Bl7 m g S e fun A a s H vs Q E n d=>?_
 obtain⟨t,h,q⟩:=c b A _ s H _ Q E rfl n d;exact⟨t,h.nox,q⟩
def Jb (o:Obj):Bool:=match o.data with
 | .cell _=>false
 | _=>true
def sel (h:Heap)(tabs:List (Addr×Addr×Str))(a:Addr):Option Obj:=(h.get? a).bind fun o=>if (Jb o&&!(tabs.any fun t=>t.2.1==a))=true then some o else none
def Sh (h:Heap)(tabs:List (Addr×Addr×Str)):Frag:=((List.range h.objs.size).filterMap fun a=>(sel h tabs a).map fun o=>(a,o))++tabs.map fun t=>(t.1,Ay0 t.2.1 t.2.2)
theorem Ru {f:Nat->Option Obj}{b:Nat}:∀{l:List Nat},(l.filterMap fun a=>(f a).map fun o=>(a,o)).lookup b=if b∈l then f b else none
 | []=>by simp
 | a::l=>by
  rw[dz]
  by_cases e:b=a
  ·subst e
   rw[if_pos aN]
   cases q:f b with
   | none =>
    simp only[fu];rw[Ru]
    split
    ·exact q
    ·rfl
   | some o=>simp
  ·have h1:(b∈a::l)=(b∈l):=by simp[e]
   simp only[h1]
   cases q:f a with
   | none=>simp only[fu];exact Ru
   | some o =>
    simp only[dC];rw[aZ]
    have:(b==a)=false:=by simp[e]
    rw[this];exact Ru
section
variable {h:Heap}{tabs:List (Addr×Addr×Str)}
theorem Ss {a:Addr}{o:Obj}(e:sel h tabs a=some o):h.get? a=some o/\Jb o=true/\∀t∈tabs,t.2.1≠a:=by
 obtain⟨c,d,b⟩:=bZ.mp e
 grind
theorem By0 {a:Addr}{o:Obj}(e:h.get? a=some o)(hp:Jb o=true)(hn:∀t∈tabs,t.2.1≠a):sel h tabs a=some o:=by
 unfold sel
 grind
theorem Qu {a:Addr}{o:Obj}(e:sel h tabs a=some o):(Sh h tabs).lookup a=some o:=by
 unfold Sh;rw[List.lookup_append,Ru,if_pos (bc.mpr (Heap.lt_size (Ss e).1)),e];rfl
theorem W7 {a:Addr}{o:Obj}:∀{tabs:List (Addr×Addr×Str)},(tabs.map fun t=>(t.1,Ay0 t.2.1 t.2.2)).lookup a=some o->∃t∈tabs,t.1=a
 | [],e=>by cases e
 | t::r,e=>by
  rw[aP,aZ]at e
  split at e
  ·rename_i z
   exact⟨t,aN,by simpa using (eq_comm.mp (by simpa using z))⟩
  ·obtain⟨t',h1,h2⟩:=W7 e
   exact⟨t',aW _ h1,h2⟩
theorem B1j (ht:∀t∈tabs,CodeHd h t.1 t.2.1/\h.get? t.2.1=some { cls:=.none,data:=.fields #[] })(D:∀t∈tabs,(tabs.map fun t=>(t.2.1,t.2.2)).lookup t.2.1=some t.2.2) :
 (Sh h tabs).In h/\TabAt (Sh h tabs) h/\(∀t∈tabs,codeHdIn (Sh h tabs) t.1 t.2.1=true/\(t.2.1,t.2.2)∈Eu (Sh h tabs))/\∀a o,h.get? a=some o->Jb o=true->o.data≠.fields #[]->(Sh h tabs).lookup a=some o:=by
 have g:∀a o,h.get? a=some o->Jb o=true->o.data≠.fields #[]->sel h tabs a=some o:=fun a o e d j=>By0 e d fun t m z=>by
  have:=(ht t m).2;rw[z,e]at this;cases this;exact j rfl
 have code:∀t∈tabs,∃o i,h.get? t.1=some o/\o.cls=.type "code" /\ o.data=.fields i/\i[11]?=some (.ref t.2.1)/\sel h tabs t.1=some o:=fun t m=>by
  obtain⟨o,i,_,_,_,_,_,_,_,w,v,l,u,_⟩:=(ht t m).1
  refine⟨o,i,w,v,l,u,g t.1 o w (by unfold Jb;rw[l]) fun z=>?_⟩
  rw[l]at z
  injection z with z
  rw[z]at u;simp at u
 have c:∀{a:Addr} {o:Obj},(Sh h tabs).lookup a=some o->sel h tabs a=some o:=fun {a o} e=>by
  cases q:sel h tabs a with
  | some y=>rw[Qu q]at e;exact e
  | none =>
   unfold Sh at e;rw[List.lookup_append,Ru]at e
   have F:(if a∈List.range h.objs.size then sel h tabs a else none)=none:=by
    split
    ·exact q
    ·rfl
   rw[F]at e
   obtain⟨t,m,z⟩:=W7 (show (tabs.map fun t=>(t.1,Ay0 t.2.1 t.2.2)).lookup a=some o from e)
   obtain⟨_,_,_,_,_,_,s⟩:=code t m;rw[z,q]at s;cases s
 have k:Eu (Sh h tabs)=tabs.map fun t=>(t.2.1,t.2.2):=by
  unfold Eu Sh;rw[List.filterMap_append]
  have x:((List.range h.objs.size).filterMap fun a=>(sel h tabs a).map fun o=>(a,o)).filterMap (fun p=>Vw p.2)=[]:=by
   rw[List.filterMap_eq_nil_iff];intro p d;obtain⟨a,_,e⟩:=List.mem_filterMap.mp d;obtain⟨o,x,rfl⟩:=aO.mp e;have j:=(Ss x).2.1
   show Vw o=none
   unfold Vw;unfold Jb at j
   split
   ·rename_i z;rw[z]at j;cases j
   ·rfl
  have Q:(tabs.map fun t=>(t.1,Ay0 t.2.1 t.2.2)).filterMap (fun p=>Vw p.2)=tabs.map fun t=>(t.2.1,t.2.2):=by
   clear g c code D ht x
   induction tabs with
   | nil=>rfl
   | cons t r S =>
    rw[aP,dz]
    show (t.2.1,t.2.2)::_=_
    rw[S];rfl
  rw[x,Q,bT]
 have B:(Sh h tabs).In h:=fun a o e=>(Ss (c e)).1
 refine⟨B,⟨fun p d=>?_,fun p d=>?_⟩,fun t m=>⟨?_,?_⟩,fun a o e d j=>Qu (g a o e d j)⟩
 ·rw[k]at d
  obtain⟨t,m,rfl⟩:=au.mp d;obtain⟨o,i,w,v,l,u,_⟩:=code t m
  refine⟨(ht t m).2,⟨t.1,o,i,w,v,l,u⟩,?_⟩
  cases q:(Sh h _).lookup _ with
  | none=>rfl
  | some y=>exact absurd rfl ((Ss (c q)).2.2 t m)
 ·rw[k]at d ⊢
  obtain⟨t,m,rfl⟩:=au.mp d;exact D t m
 ·obtain⟨o,i,_,v,l,_,s⟩:=code t m
  obtain⟨y,G,f,tf,fl,tg,b,n,tt,J,K,L,M,g5,I,N,H,P,A⟩:=(ht t m).1;have O  := bU (J.symm.trans (Ss s).1);subst O;obtain⟨R,od,C,E⟩:=y
  cases (show R=Value.type _ from K)
  cases (show C=Data.fields _ from L)
  unfold codeHdIn;rw[(Qu s)];simp only[M,I,N,H,P]
  simp[A]
 ·rw[k];exact au.mpr ⟨t,m,rfl⟩
end
section
variable {q:u6}{loose:v4}{mean:ExcName->u9}{mg mb:x_}{h:Heap}{K:Frag}
theorem A2m {f:Value}{x:Str}(j:∀a o,h.get? a=some o->Jb o=true->o.data≠.fields #[]->K.lookup a=some o)(c:h.CodeRec f x):codeIn K f x=true:=by
 obtain⟨a,o,b,t,rfl,g,d,e⟩:=c
 have k:=j a o g (by unfold Jb;rw[d]) fun z=>by grind
 obtain⟨oc,od,m,i⟩:=o
 show (match K.lookup a with
  | some ⟨_,_,.fields b,_⟩=>match b.toList with | _::.str n _::_=>n==x | _=>false
  | _=>false)=true
 obtain⟨l⟩:=b
 match l,e with
 | _::.str n u::_,e =>
  simp_all
theorem Bf6 (T:Top q loose mean mg mb h)(i:∀a o,h.get? a=some o->Jb o=true->o.data≠.fields #[]->K.lookup a=some o){d:DefRec}{st:Stmt}(hd:d∈recsOf q)(w:d.params=Ly st)(l:d.body=Ji st)(m:d.scope=Aw st) :
 ∃f fd,Fun K d.name d.name st f fd/\mg d.name=some (.ref f):=by
 obtain⟨a,o,e,b,c,n,p,r,s⟩:=T.fn d hd
 have k:=i a o p (by unfold Jb;grind) fun z=>by simp_all
 obtain⟨t,u,v,g⟩:=o
 cases (r)
 have j:PySem.Calls.docDef d.name d.params d.body d.scope e b c=fnOf d.name d.name (Ly st) (Ji st) (Aw st) .none .none c e none b .none:=by rw[w,l,m];rfl
 refine⟨a,_,⟨⟨t,u,.none,c,e,none,b,.none,g,j,k,A2m i s⟩,?_⟩,n⟩
 unfold keepIn
 grind
theorem Ba3 (T:Top q loose mean mg mb h){d:DefRec}(hd:d∈recsOf q):∃c P:Addr,CodeHd h c P/\h.get? P=some { cls:=.none,data:=.fields #[] }/\∀f o b,mg d.name=some (.ref f)->h.get? f=some o->o.data=.func b->b.code=.ref c:=by
 obtain⟨a,o,b,c,P,m,j,p,k,g,e⟩:=T.tab d hd
 refine⟨c,P,CodeHd.of g e,e.2,fun f n i r s l=>?_⟩
 simp_all
def A5e (q:u6)(loose:v4)(RN:v4)(x:Str):Bool:=!startupNames.contains x&&!loose.contains x&&!RN.contains x&&!((litsOf q).map (·.1)).contains x&&!((clssOf q loose).map (·.name)).contains x
theorem Dy (T:Top q loose mean mg mb h){a bs:v4}(f:(recsOf q).map (·.name)=a)(hb:bs.all (A5e q loose a)=true){x:Str}(hx:x∈bs):mg x=none:=by
 have:=bz.mp hb x hx;unfold A5e at this;simp only[cJ,Bool.not_eq_true',List.contains_eq_mem,decide_eq_false_iff_not]at this;obtain⟨⟨⟨⟨d,c⟩,g⟩,e⟩,b⟩:=this
 exact T.free x d c (by grind) e b
end
theorem walk_ofH {l:OpenLaw}{n k:Nat}{q:u6}{loose:v4}{XP:(x_)->Heap->Prop}{YP:World->Heap->Prop}{d:DefRec}{sp:Frag->Sp}{x:Str}
 (hn:l.most=some n) (r:n<=sizeLine) (t:d.params.defaults=[]) (hr:Room k callerA)
 (F:∀(w:World) (g:ExcName->u9) (mg C:x_) (fa:Addr) (h:Heap),Top q (looseW q loose) g mg C h->mg d.name=some (.ref fa) ->
  ∃(K:Frag) (p:u5),K.In h/\TabAt K h/\(∀(s:u_) (u:Value),BindsTo s p ⟨[u],[]⟩ [(x,u)])/\∀base:Heap,K.In base->base.Ns mainGlobals mg->FnOk l.prog w K mg base CX0 k fa p [x] (sp K))
 (m:∀(K:Frag) (H:Hp) (a:Addr) (ns:List Int),ns.length<=n->SqL K H a (ns.map V.int)->sp K [.ref a] H (fun v _=>v=.bl true) fun _ _ _=>False) :
 WalkO q loose XP YP l.row.toRowW d [] (fun f vs=>PySem.call f vs):=by
 refine Att.Ag0 hn t fun w D B mg C fa o P O J a vs ns G Y Q R E j i c b L=>?_
 obtain⟨K,p,y,A,I,M⟩:=F w _ _ _ _ _ G.T j
 exact A1r y G.T.g G.T.b G.T.builtins G.T.nolimit L G.T.bmain A i c (ao b r) hr M I (fun H N=>m K H a _ b N) fun H e S z=>z
theorem Aj1 {q:u6}{L:List (Str×Arguments×List Stmt×Scope)}(a:(recsOf q).map (fun d=>(d.name,d.params,d.body,d.scope))=L){i:Nat}{x:Str×Arguments×List Stmt×Scope}(e:L[i]?=some x) :
 ∃d,d∈recsOf q/\d.name=x.1/\d.params=x.2.1/\d.body=x.2.2.1/\d.scope=x.2.2.2:=by
 grind
theorem Dj {q:u6}{L:List (Str×Arguments×List Stmt×Scope)}(a:(recsOf q).map (fun d=>(d.name,d.params,d.body,d.scope))=L):(recsOf q).map (·.name)=L.map (·.1):=by
 rw[<- a,aV];rfl
theorem A7x {K:Frag}{h:Heap}{x qual:Str}{st:Stmt}{f:Addr}{a:u5}{v:Value}{mg:x_}(F:Fun K x qual st f a)(b:K.In h)(hc:∀f o a,mg x=some (.ref f)->h.get? f=some o->o.data=.func a->a.code=v)(hm:mg x=some (.ref f)):a.code=v:=by
 obtain⟨j,p,m,g,k,l,d,n,i,e,c,_⟩:=F.ex;exact hc f _ _ hm (b _ _ c) rfl
theorem A4k {K:Frag}{x qual y:Str}{st:Stmt}{f:Addr}{c:u5}(F:Fun K x qual st f c)(h:∀(d a e:Value) (i:Option Addr) (b g:Value) (s:u_) (u:Value),BindsTo s (fnOf x qual (Ly st) (Ji st) (Aw st) .none d a e i b g) ⟨[u],[]⟩ [(y,u)]):∀(s:u_) (u:Value),BindsTo s c ⟨[u],[]⟩ [(y,u)]:=by
 obtain⟨m,n,d,a,e,i,b,g,j,k,l,_⟩:=F.ex
 simp_all
theorem const_int {q:u6}{loose:v4}{a:ExcName->u9}{mg c:x_}{h:Heap}(T:Top q loose a mg c h){x:Str}{i:Int}(e:valOf q x=some (.int i)):∃t,mg x=some (.int i t):=by
 obtain⟨v,d,b⟩:=T.const x _ e
 cases b h with
 | int i t=>grind
theorem A3o {q:u6}{loose:v4}{a:ExcName->u9}{mg c:x_}{h:Heap}(T:Top q loose a mg c h){x y:Str}(e:valOf q x=some (.str y)):∃t,mg x=some (.str y t):=by
 obtain⟨v,d,b⟩:=T.const x _ e
 cases b h with
 | str y t=>grind
section
variable {X:Cx}{p p2 pos pos2:Pos}{e:Expr}{es:v_}{t:TA}{te:TE}{Kq:v9}
def Ut (K:v9):n8->Hp->VK->Prop:=fun xs H Q=>∃i j,xs=[.int i,.int j]/\Q (.int (if j>i then j else i)) H
theorem Zy (a:X.K=Kq)(hc:X.calm=true)(hgl:Gl X "max") (hm:X.mg "max" = none) (ha:QA X (e::es) t) (hns:noStar (e::es)=true:=by rfl):QE X (.Call (.Name "max" p) (e::es) [] pos) (tCB (Ut Kq) t):=by
 exact⟨Gy (A1e hc) hgl hm Bx9 ha.get (by decide) (by rfl) hns⟩
def rIndexL:V->n8->Hp->VK->Prop:=fun x vs H Q=>∃(y:V) (d:t6) (ds:w5) (j:Nat),vs=[y]/\Tr H d y/\Tr H (.list ds) x/\Flat d/\PyData.canLayAll0 ds=true/\j<1000000 /\
 (∃e,ds[j]?=some e/\PyData.eqv e d=true)/\(∀m e,m<j->ds[m]?=some e->PyData.eqv e d=false)/\Q (.int (j:Nat)) H
theorem A1d (hu:X.A.units+64<cLine):MtM X "list.index" rIndexL:=by
 intro l s σ H x vs v us Q I S N h;obtain⟨y,d,f,j,rfl,B,O,t,w,A,⟨ej,C,D⟩,E,q⟩:=h;obtain⟨u,rfl,G⟩:=N.one;obtain⟨as,L⟩:=B.reads I G;obtain⟨bs,M⟩:=O.reads I S
 cases M with
 | list k i p r =>
  rename_i a o b n J;obtain⟨c0,dd,K,sl⟩:=o
  dsimp only at i p
  subst i p;have c:=SeqAt.readsAll_map f _ _ w r
  have R:∀m (P:m<b.size) e,f[m]?=some e->SeqAt.readOf s.heap b[m]=e:=fun m P e he=>by
   grind
  have g:b.size=f.length:=by rw[<- c,ak,bV]
  obtain⟨z,_⟩:=bh.mp C
  refine call_meets F.slot_list_index ⟨_,k,rfl⟩ F.entry_list_index (F.args_list_index_2 _ _) (SeqAt.list_indexAt a b n _ _ _ (fun y=>PyData.eqv (SeqAt.readOf s.heap y) d) j (g▸z) (by omega) ?_ ?_) ⟨k,?_,?_⟩
  ·simp_all
  ·grind
  ·exact SeqAt.items_eqAt r L w t.1 (Ug hu t.2)
  ·exact⟨.int _,H,I.tok _,⟨_,rfl⟩,q⟩
def Bo4 (K:v9)(to:TE)(t:TA):TE:=fun σ H Q=>to σ H fun x H1=>(tyV K "list" x H1/\t σ H1 fun xs H2=>rIndexL x xs H2 Q)\/(tyV K "tuple" x H1/\t σ H1 fun xs H2=>rIndexD x xs H2 Q)
variable {o:Expr}{to:TE}{apos cpos:Pos}
theorem B0s (hu:X.A.units+64<cLine)(ho:PE X o to)(ha:PA X (e::es) t)
 (hbase:attributeBase o "index" X.env (eval o X.env)=eval o X.env:=by rfl)
 (hfew:((backTo cpos (starEach (e::es) X.env)).all (fun x=>!x.1)&&(backToKw cpos (keywordEach [] X.env)).all (fun x=>x.1.isSome)
  && decide ((e::es).length+([]:List Keyword).length+(if ([]:List Keyword).isEmpty then 0 else 1)<30))=true:=by rfl)
 (hline:(apos.endLine==cpos.line)=true:=by rfl) (hs:starEach (e::es) X.env=(false,eval e X.env)::starEach es X.env:=by rfl) (hplain:(backTo cpos (starEach es X.env)).any (·.1)=false:=by rfl) :
 PE X (.Call (.Attribute o "index" apos) (e::es) [] cpos) (Bo4 X.K to t):=by
 intro b s p H Q I h
 refine wpAny_Call_method_late hbase hfew hline rfl (thn (ho b s p H _ I h) fun v y ⟨x,z,d,c,w⟩=>?_)
 rcases w with ⟨j,k⟩ | ⟨j,k⟩
 ·obtain⟨g,m⟩:=At7 d c j
  refine⟨"list", "list.index",gf,PySem.F.slot_list_index,PySem.F.type_list_index,g,m,?_⟩
  have a:=ha cpos _ _ _ _ _ d k;rw[hs]at a ⊢
  refine Calls.callWith_builtin (by grind) (Calls.evalArgs_plain ?_)
  exact thn a fun i q ⟨r,u,l,n,f⟩=>A1d hu _ _ _ _ x _ v i Q l c n f
 ·obtain⟨g,m⟩:=At7 d c j
  refine⟨"tuple", "tuple.index",PySem.F.plainAttrs_tuple,PySem.F.slot_tuple_index,PySem.F.type_tuple_index,g,m,?_⟩
  have a:=ha cpos _ _ _ _ _ d k;rw[hs]at a ⊢
  refine Calls.callWith_builtin (by grind) (Calls.evalArgs_plain ?_)
  exact thn a fun i q ⟨r,u,l,n,f⟩=>Zj hu _ _ _ _ x _ v i Q l c n f
theorem Bt2 {Kq:v9}(a:X.K=Kq)(hu:X.A.units+64<cLine)(ho:QE X o to)(ha:QA X (e::es) t)
 (hbase:attributeBase o "index" X.env (eval o X.env)=eval o X.env:=by rfl)
 (hfew:((backTo cpos (starEach (e::es) X.env)).all (fun x=>!x.1)&&(backToKw cpos (keywordEach [] X.env)).all (fun x=>x.1.isSome)
  && decide ((e::es).length+([]:List Keyword).length+(if ([]:List Keyword).isEmpty then 0 else 1)<30))=true:=by rfl)
 (hline:(apos.endLine==cpos.line)=true:=by rfl) (hs:starEach (e::es) X.env=(false,eval e X.env)::starEach es X.env:=by rfl) (hplain:(backTo cpos (starEach es X.env)).any (·.1)=false:=by rfl) :
 QE X (.Call (.Attribute o "index" apos) (e::es) [] cpos) (Bo4 Kq to t):=by
 subst a;exact⟨B0s hu ho.get ha.get hbase hfew hline hs hplain⟩
end
section
variable {prog:u6}{w:World}{A:t_}{E:z_}{s:u_}{R:Result->u_->Prop}
variable {I:Addr}{fp wr:v6}{G:Array GenState->Array GenState->Prop}{n:Nat}{P:Nat->Value->Prop}{St:Nat->u_->Prop}
theorem A2a:typeLookup (.type "list_reverseiterator") "__len__" = pure none:=by rw[typeLookup_type,builtinLookup_eq_fast];trivial
theorem A7e:typeLookup (.type "list_reverseiterator") "__length_hint__" = pure (some (.builtin "list_reverseiterator.__length_hint__")):=by rw[typeLookup_type,builtinLookup_eq_fast];trivial
theorem As6 (W:WalksS prog w A.in1 I fp wr G n P St)(l:∀i s,St i s->s.TypeIs (.ref I) "list_reverseiterator") (S:Addr) (g:Value) (h:Nat) (hst:St 0 s) (d:S∉fp) (r:I∈fp)
 (t:s.heap.get? S=some { cls:=.type "list",data:=.seq #[] h })
 (q:∀s' a k,Moved (S::wr) G s s'->s'.heap.get? S=some { cls:=.type "list",dict:=none,data:=.seq a k,slots:=#[] }->ItemsOf P a n->R (.ok (.ret g)) s') (hn:n<=sizeLine) :
 wpAny (model prog w) A.in1 (Builtin.List.listExtendWith (.ref S) (.ref I) g)
  (fun o s'=>match o with | .done f=>R (.ok f) s' | .again k=>k.quiet=true/\codeAny (model prog w) A k R s') (fun e s'=>R (.error e) s') s:=by
 have m:S≠I:=fun e=>d (e▸r)
 have v:Builtin.List.listSameRef (.ref S) (.ref I)=false:=by simp[Builtin.List.listSameRef,m]
 unfold Builtin.List.listExtendWith
 refine wpAny_bind (wpAny_typeOf (l 0 _ hst) ?_)
 rw[if_neg (by rw[v];decide)]
 refine wpAny_bind (W.self 0 _ _ _ hst ?_)
 refine wpAny_bind (wpAny_holding ?_)
 unfold Builtin.List.listLengthHint
 refine wpAny_bind (wpAny_specialOf (l 0 _ hst) A2a ?_)
 show wpAny _ A.in1 (specialOf (Value.ref I) (Str.ofString "__length_hint__") >>= _) _ _ _
 refine wpAny_bind (wpAny_specialOf (l 0 _ hst) A7e ?_)
 generalize hid:("list_reverseiterator.__length_hint__" : String)=id0
 wp_delta
 rw[show splitId id0=some ("list_reverseiterator", "__length_hint__") from by subst hid;decide +kernel]
 subst hid
 refine wpAny_bind (wpAny_isInstance (b:=true) (l 0 _ hst) (by rw[isSubtype_type];kernel_rfl) ?_)
 refine wpAny_pure ?_
 rw[if_neg (by decide)]
 refine wpAny_pure ⟨plainId_quiet F.plain_extend_loop _,codeAny_extend_loopS W hn _ d _ n 0 _ _ _ rfl (aB _) hst t (ItemsOf.nil P) fun s' a k u p j=>?_⟩
 exact q _ _ _ u p j
theorem A5x (W:WalksS prog w A.in1 I fp wr G n P St)(v:∀i s,St i s->s.TypeIs (.ref I) "list_reverseiterator") (S:Addr) (hst:St 0 s) (k:S∉fp) (y:I∈fp)
 (j:s.heap.get? S=some { cls:=.type "list",data:=.seq #[] })
 (u:∀s' a p,Moved (S::wr) G s s'->s'.heap.get? S=some { cls:=.type "list",dict:=none,data:=.seq a p,slots:=#[] }->ItemsOf P a n->R (.ok (.ret .none)) s') (hn:n<=sizeLine) :
 wpAny (model prog w) A.in1 (Builtin.«list.__init__» ⟨[.ref S,.ref I],[]⟩)
  (fun q s'=>match q with | .done f=>R (.ok f) s' | .again p=>p.quiet=true/\codeAny (model prog w) A p R s') (fun e s'=>R (.error e) s') s:=by
 show wpAny _ A.in1 (Builtin.List.listItems (.ref S) >>= fun t=>Builtin.List.listUpdate (.ref S) (fun _=>#[]) >>= fun _=>letGo t.toList.reverse >>= fun _=>Builtin.List.listExtendWith (.ref S) (.ref I) .none) _ _ s
 refine wpAny_bind ?_
 unfold Builtin.List.listItems
 refine wpAny_bind (wpAny_seqItems j rfl (wpAny_pure ?_))
 refine wpAny_bind (m:=updateSeq S (fun _=>#[])) (wpAny_updateSeq j rfl ?_)
 have d:=Heap.get?_update_self (Obj.mapSeq (fun _=>(#[]:v7))) j rfl
 have c:∀b o,b≠S->s.heap.get? b=some o->(s.heap.update S (Obj.mapSeq (fun _=>(#[]:v7)))).get? b=some o :=
  fun b o l e=>(Heap.get?_update_other _ _ (aU l)).trans e
 refine wpAny_bind (wpAny_letGo ?_)
 refine As6 (hn:=hn) W v S .none _ (W.frame 0 s _ s.toks hst (aj _) fun b l o e=>c b o (fun h=>k (h▸l)) e) k y d fun s' a p x r g=>?_
 exact u _ _ _ (Moved.trans W.gtrans ((Moved.refl W.grefl).then_heap (aj _) fun b o l e=>c b o (fun h=>l (h▸aN)) e) x) r g
theorem Xx {Q:z_}(W:WalksS prog w A.in1.in1 I fp wr G n P St)(q:∀i s,St i s->s.TypeIs (.ref I) "list_reverseiterator") (hst:St 0 s) (j:∀b∈fp,b<s.heap.objs.size) (r:I∈fp)
 (hQ:∀g a p,Moved (s.heap.objs.size::wr) G { s with heap:=s.heap.push { cls:=.type "list",data:=.seq #[] } } g ->
  g.heap.get? s.heap.objs.size=some { cls:=.type "list",dict:=none,data:=.seq a p,slots:=#[] }->ItemsOf P a n->Q (.ref s.heap.objs.size) g) (hn:n<=sizeLine) :
 wpAny (model prog w) A (call (.type "list") [.ref I]) Q E s:=by
 refine callType_codes (Q₁:=fun f c=>f=.ref _/\c={ s with heap:=s.heap.push _ }) F.called_list (F.typeCall_list_1 _) F.entry_list_init (code_list_new _ ⟨rfl,rfl⟩) fun f c d=>?_
 obtain⟨rfl,rfl⟩:=d;have m:(s.heap.push { cls:=.type "list",data:=.seq #[] }).get? _=some _:=Heap.get?_push_size _ rfl
 refine⟨⟨_,m,rfl⟩,F.args_list_init_2 _ _,A5x (hn:=hn) W q _ (W.frame 0 s _ _ hst (aj _) fun b _ o e=>Heap.get?_push_of_some _ e) (fun l=>bf _ (j _ l)) r m fun g a p l t k=>?_⟩
 grind
end
section
variable {X:Cx}{p p2 pos pos2:Pos}{e:Expr}{te:TE}{Kq:v9}
theorem Ah6:∀{vs:n8}{us:w6},Vals vs us->Vals vs.reverse us.reverse
 | _,_,.nil=>.nil
 | _,_,.cons r rs=>by rw[dB,dB];exact Tj r (Ah6 rs)
def A9h (K:v9)(t:TA):TE:=fun σ H Q=>t σ H fun xs H1=>∃a vs,xs=[.ref a]/\SqL K H1 a vs/\∀l,H1 l=none->Q (.ref l) (upd H1 l (.lst vs.reverse))
theorem Au3 {t:TA}(hc:X.calm=true)(hgl:Gl X "list") (hml:X.mg "list" = none) (r:Gl X "reversed") (v:X.mg "reversed" = none) (ha:PA X [e] t) (hns:isStar e=false:=by rfl):PE X (.Call (.Name "list" p) [.Call (.Name "reversed" p2) [e] [] pos2] [] pos) (A9h X.K t):=by
 intro j s S H Q I h
 refine wpAny_Call_Name_kw (J9 I hgl hml Oi ?_ (by decide) (by decide))
 refine cW ?_ (Gx rfl) rfl
 rw[Gx (env:=X.env) (es:=[]) (e:=.Call (.Name "reversed" p2) [e] [] pos2) rfl]
 show wpAny _ _ (spliced ((false,eval (.Call (.Name "reversed" p2) [e] [] pos2) X.env)::backTo pos (starEach [] X.env))) _ _ s
 refine Calls.spliced_cons ?_
 refine wpAny_Call_Name_kw (J9 I r v boot_reversed ?_ (by decide) (by decide))
 refine cW (thn (ha pos2 j s S H _ I h) fun us f ⟨xs,H1,m,N,O⟩=>?_) (Gx hns) rfl
 obtain⟨a,R,rfl,V,q⟩:=O;obtain⟨u,rfl,W⟩:=vals1 N
 cases (show u=Value.ref a from W)
 obtain⟨d,G,J,E⟩:=m.list V
 refine call_reversed_list J.isList (Calls.spliced_nil ?_)
 obtain⟨Y,g,D⟩:=J.isList;have k:=Heap.lt_size g
 have y:d.toArray.size=R.length:=by rw[bC,G.length]
 have P:=(Heap.get?_push_size f.heap (o:=revObj a ((d.toArray.size:Int)-1)) rfl)
 refine Xx ((Walks.listRev (prog:=X.prog) (w:=X.w) (A:=X.A.in1.in1) (m.ok.hd hc) f.heap.objs.size a (aC k) d.toArray).toS) (fun i s x=>x.2.1.typeIs) ⟨aB _,⟨_,P,rfl,?_⟩,⟨Y,Heap.get?_push_of_some _ g,D⟩⟩ (fun b B=>?_) (by simp) (fun L l c F M U=>?_) (by rw[y];exact E)
 ·simp[revObj]
 ·have C:(f.heap.push (revObj a ((d.toArray.size:Int)-1))).objs.size=f.heap.objs.size+1:=size_push' _ _
  show b<(f.heap.push (revObj a ((d.toArray.size:Int)-1))).objs.size
  rw[C]
  rcases az.mp B with e | B
  ·rw[e];exact cL _
  ·rw[aG.mp B];exact bW k
 ·have C:(f.heap.push (revObj a ((d.toArray.size:Int)-1))).objs.size=f.heap.objs.size+1:=size_push' _ _
  have T:∀b u,f.heap.get? b=some u->L.heap.get? b=some u:=fun b u e=>F.heap b u (fun z=>by
   have n:=Heap.lt_size e
   rcases az.mp z with z | z
   ·have z:b=(f.heap.push (revObj a ((d.toArray.size:Int)-1))).objs.size:=z
    rw[C]at z;rw[z]at n;exact absurd n (Nat.not_lt.mpr (dO _))
   ·rw[(aG.mp z)]at n
    exact absurd n (bf _)) (Heap.get?_push_of_some _ (Heap.get?_push_of_some _ e))
  have K:f.heap.objs.size<=(f.heap.push (revObj a (d.toArray.size-1))).objs.size:=by omega
  rw[Moved.eq_with F]
  refine⟨.ref _,_,m.laid  T K (show z9 _ _ _ _ _ (.lst _) from ⟨by rw[gn];exact E,l.toList,c,?_,M⟩),rfl,q _ (m.hok.fresh K)⟩
  have:l.toList=d.reverse:=by
   obtain⟨hs,hi⟩:=U;apply gk
   grind
  rw[this];exact Ah6 G
theorem At5 {t:TA}(b:X.K=Kq)(hc:X.calm=true)(hgl:Gl X "list") (hml:X.mg "list" = none) (c:Gl X "reversed") (a:X.mg "reversed" = none) (ha:QA X [e] t) (hns:isStar e=false:=by rfl):QE X (.Call (.Name "list" p) [.Call (.Name "reversed" p2) [e] [] pos2] [] pos) (A9h Kq t):=by
 subst b;exact⟨Au3 hc hgl hml c a ha.get hns⟩
end
end L2
namespace L2
open PySem PySem.Spec PyProof.Rows
end L2
namespace L2
open PySem PySem.Spec PyProof.Rows PySem.W
end L2
namespace STb
open PySem PySem.SetTable
def adv (m:Nat)(p:Probe):Probe:=if p.more>0 then { p with j:=p.j+1,more:=p.more-1 } else { p with j:=(leap m p.i p.perturb).1,more:=runEnd m (leap m p.i p.perturb).1-(leap m p.i p.perturb).1,i:=(leap m p.i p.perturb).1,perturb:=(leap m p.i p.perturb).2 }
theorem A9u (t:SetTable)(p:Probe):t.advance p=adv t.mask p:=by
 trivial
def walk (m:Nat):Nat->Probe->Probe
 | 0,p=>p
 | n+1,p=>walk m n (adv m p)
theorem walk_add (m:Nat):∀(a b:Nat) (p:Probe),walk m (a+b) p=walk m b (walk m a p)
 | 0,b,p=>by rw[aY];rfl
 | a+1,b,p=>by rw[gr];exact walk_add m a b (adv m p)
structure Pk (m:Nat) (p:Probe):Prop where
 i:p.i<=m
 run:p.j+p.more=runEnd m p.i
 low:p.i<=p.j
 bits:p.perturb<2 ^ 64
theorem Ad7 {m i:Nat}(h:i<=m):i<=runEnd m i/\runEnd m i<=m/\runEnd m i<=i+9:=by
 unfold runEnd
 grind
theorem Pk.le {m:Nat}{p:Probe}(h:Pk m p):p.j<=m/\p.more<=9:=by
 have:=Ad7 h.i;have:=h.run;have:=h.low;omega
theorem leap_lt {m i b:Nat}:(leap m i b).1<=m/\(leap m i b).2=b / 32:=by
 exact⟨dX (Nat.mod_lt _ (dG m)),rfl⟩
theorem Pk.adv {m:Nat}{p:Probe}(h:Pk m p):Pk m (adv m p):=by
 unfold STb.adv
 split
 ·refine⟨h.i,?_,?_,h.bits⟩
  ·have:=h.run
   grind
  ·have:=h.low
   grind
 ·obtain⟨a,b⟩:=leap_lt   
  have r:=Ad7 a
  refine⟨a,?_,aj _,?_⟩
  ·simp_all
  ·exact aQ (Nat.div_le_self _ _) h.bits
theorem Pk.walk {m:Nat}:∀{n:Nat}{p:Probe},Pk m p->Pk m (walk m n p)
 | 0,_,h=>h
 | n+1,_,h=>Pk.walk (n:=n) h.adv
theorem A0b {m:Nat}:∀{k:Nat}{p:Probe},p.more=k->(walk m (k+1) p).i=(leap m p.i p.perturb).1/\(walk m (k+1) p).perturb=p.perturb / 32/\(walk m (k+1) p).j=(leap m p.i p.perturb).1
 | 0,p,h=>by
  show (adv m p).i=_/\(adv m p).perturb=_/\(adv m p).j=_
  unfold STb.adv
  rw[if_neg (by omega)]
  exact⟨rfl,(leap_lt (m:=m) (i:=p.i)).2,rfl⟩
 | k+1,p,h=>by
  have e:adv m p={ p with j:=p.j+1,more:=p.more-1 }:=by unfold STb.adv;rw[if_pos (by omega)]
  show (walk m (k+1) (adv m p)).i=_/\(walk m (k+1) (adv m p)).perturb=_/\(walk m (k+1) (adv m p)).j=_
  rw[e]
  exact A0b (k:=k) (p:={ p with j:=p.j+1,more:=p.more-1 }) (show p.more-1=k by omega)
def lp (m:Nat):Nat->Nat×Nat->Nat×Nat
 | 0,x=>x
 | q+1,x=>lp m q (leap m x.1 x.2)
theorem Al0 {m:Nat}:∀{q:Nat}{p:Probe},Pk m p->∃n,n<=10*q/\(walk m n p).i=(lp m q (p.i,p.perturb)).1/\(walk m n p).perturb=(lp m q (p.i,p.perturb)).2/\(0<q->(walk m n p).j=(lp m q (p.i,p.perturb)).1)
 | 0,p,_=>⟨0,aj _,rfl,rfl,fun h=>absurd h (bf _)⟩
 | q+1,p,h=>by
  obtain⟨a,b,c⟩:=A0b (m:=m) (k:=p.more) (p:=p) rfl;have h2:Pk m (STb.walk m (p.more+1) p):=h.walk;obtain⟨n,n1,n2,n3,n4⟩:=Al0 (q:=q) h2;have le:=h.le.2
  have e:(lp m (q+1) (p.i,p.perturb))=lp m q ((STb.walk m (p.more+1) p).i,(STb.walk m (p.more+1) p).perturb):=by
   show lp m q (leap m p.i p.perturb)=_
   rw[a,b];rfl
  refine⟨p.more+1+n,by omega,by rw[walk_add,n2,e],by rw[walk_add,n3,e],fun _=>?_⟩
  rw[walk_add,e]
  cases q with
  | zero =>
   have:n=0:=by omega
   subst this
   show (STb.walk m (p.more+1) p).j=(STb.walk m (p.more+1) p).i
   rw[c,a]
  | succ q=>exact n4 (dG _)
theorem Ar4 {m:Nat}:∀(a b:Nat) (x:Nat×Nat),lp m (a+b) x=lp m b (lp m a x)
 | 0,b,x=>by rw[aY];rfl
 | a+1,b,x=>by rw[gr];exact Ar4 a b (leap m x.1 x.2)
theorem Aa5 {m:Nat}:∀(q:Nat) (x:Nat×Nat),(lp m q x).2=x.2 / 32 ^ q
 | 0,x=>by rw[Nat.pow_zero,Nat.div_one];rfl
 | q+1,x=>by
  show (lp m q (leap m x.1 x.2)).2=_
  rw[Aa5 q,leap_lt.2,Nat.div_div_eq_div_mul,Nat.pow_succ,Nat.mul_comm]
theorem A5k {m:Nat}:∀(q:Nat) (x:Nat×Nat),x.1<=m->(lp m q x).1<=m
 | 0,_,h=>h
 | q+1,x,_=>A5k q _ leap_lt.1
def five (m:Nat)(i:Nat):Nat:=(i*5+1) % (m+1)
def R8 (m:Nat):Nat->Nat->Nat
 | 0,i=>i
 | n+1,i=>R8 m n (five m i)
theorem Ae6 {m:Nat}:∀(q i:Nat),lp m q (i,0)=(R8 m q i,0)
 | 0,_=>rfl
 | q+1,i=>by
  show lp m q (leap m i 0)=_
  have:leap m i 0=(five m i,0):=by unfold leap five;simp
  rw[this];exact Ae6 q _
theorem Ov {m:Nat}:∀(a b i:Nat),R8 m (a+b) i=R8 m b (R8 m a i)
 | 0,b,i=>by rw[aY];rfl
 | a+1,b,i=>by rw[gr];exact Ov a b (five m i)
def round (m:Nat):Nat->Nat->List Nat
 | 0,_=>[]
 | n+1,i=>i::round m n (five m i)
theorem Tu {m:Nat}:∀{n i j:Nat},j∈round m n i->∃k,k<n/\R8 m k i=j
 | n+1,i,j,h=>by
  rcases az.mp h with rfl | h
  ·exact⟨0,dG _,rfl⟩
  ·obtain⟨k,k1,k2⟩:=Tu h
   exact⟨k+1,gw k1,k2⟩
structure Full (m:Nat):Prop where
 all:∀j,j<=m->j∈round m (m+1) 0
 back:R8 m (m+1) 0=0
def B3j (m:Nat):Bool:=((List.range (m+1)).all fun j=>(round m (m+1) 0).contains j)&&R8 m (m+1) 0==0
theorem Full.of {m:Nat}(h:B3j m=true):Full m:=by
 obtain⟨a,b⟩:=aq.mp h
 exact⟨fun j c=>List.contains_iff_mem.mp (bz.mp a j (bc.mpr (Nat.lt_succ_of_le c))),beq_iff_eq.mp b⟩
theorem Bm3:Full 7:=.of (by trivial)
theorem Br4:Full 31:=.of (by trivial)
theorem Bi3:Full 127:=.of (by decide +kernel)
theorem Bf0:Full 511:=.of (by decide +kernel)
theorem Full.reach {m:Nat}(F:Full m){i j:Nat}(hi:i<=m)(hj:j<=m):∃k,k<=m/\R8 m k i=j:=by
 obtain⟨a,e,d⟩:=Tu (F.all i hi);obtain⟨b,f,c⟩:=Tu (F.all j hj)
 rcases aM b a with h | h
 ·refine⟨b+(m+1)-a,by omega,?_⟩
  rw[<- d,<- Ov,show a+(b+(m+1)-a)=m+1+b by omega,Ov,F.back,c]
 ·refine⟨b-a,by omega,?_⟩
  rw[<- d,<- Ov,show a+(b-a)=b by omega,c]
theorem comes {m:Nat}(F:Full m){p:Probe}(h:Pk m p){s:Nat}(hs:s<=m):∃n,n<10*turns m/\(walk m n p).j=s:=by
 have z:(lp m 13 (p.i,p.perturb)).2=0:=by
  rw[Aa5]
  exact Nat.div_eq_of_lt (aA h.bits (by decide))
 have l:(lp m 13 (p.i,p.perturb)).1<=m:=A5k _ _ h.i;obtain⟨k,c,b⟩:=F.reach l hs;obtain⟨n,d,_,_,a⟩:=Al0 (q:=13+k) h
 refine⟨n,by unfold turns;omega,?_⟩
 rw[a (by omega),Ar4,show lp m _ _=((lp m 13 _).1,0) from Prod.ext rfl z,Ae6,b]
theorem A9w {xs:Array Nat}{j:Nat}(asc:xs.toList.Pairwise (· < ·)):∀(fuel lo hi:Nat),hi-lo<=fuel->lo<=hi->hi<=xs.size->(∀k,k<lo->∀v,xs[k]?=some v->v<j)->(∀k,hi<=k->∀v,xs[k]?=some v->j<=v) ->
 below.go xs j fuel lo hi<=xs.size/\(∀k,k<below.go xs j fuel lo hi->∀v,xs[k]?=some v->v<j)/\∀k,below.go xs j fuel lo hi<=k->∀v,xs[k]?=some v->j<=v
 | 0,lo,hi,hf,hl,hs,h1,h2=>by
  have e:lo=hi:=by omega
  subst e;exact⟨hs,h1,h2⟩
 | fuel+1,lo,hi,hf,hl,hs,h1,h2=>by
  have mono:∀a b:Nat,a<b->∀v w,xs[a]?=some v->xs[b]?=some w->v<w:=fun a b ab v w ha hb=>by
   rw[<- cB]at ha hb;obtain⟨la,rfl⟩:=bh.mp ha;obtain⟨lb,rfl⟩:=bh.mp hb;exact fB.mp asc a b la lb ab
  unfold below.go
  by_cases c:lo<hi
  ·rw[if_pos c]
   have hm:(lo+hi) / 2<xs.size:=by omega
   have gm:xs[(lo+hi) / 2]?=some xs[(lo+hi) / 2]:=dW hm
   have gd:xs.getD ((lo+hi) / 2) j=xs[(lo+hi) / 2]:=by simp[hm]
   simp only[gd]
   by_cases d:xs[(lo+hi) / 2]<j
   ·rw[if_pos d]
    refine A9w asc fuel _ hi (by omega) (by omega) hs (fun k hk v hv=>?_) h2
    rcases aM k ((lo+hi) / 2) with q | q
    ·exact cZ (mono k _ q v _ hv gm) d
    ·have:k=(lo+hi) / 2:=by omega
     subst this;rw[gm]at hv;cases hv;exact d
   ·rw[if_neg d]
    refine A9w asc fuel lo _ (by omega) (by omega) (by omega) h1 fun k hk v hv=>?_
    rcases aM ((lo+hi) / 2) k with q | q
    ·exact bM (aQ (eV d) (mono _ k q _ v gm hv))
    ·have:k=(lo+hi) / 2:=by omega
     subst this;rw[gm]at hv;cases hv;exact eV d
  ·rw[if_neg c]
   have e:lo=hi:=by omega
   subst e;exact⟨hs,h1,h2⟩
theorem Af9 {xs:Array Nat}{j:Nat}(a:xs.toList.Pairwise (· < ·)):below xs j<=xs.size/\(∀k,k<below xs j->∀v,xs[k]?=some v->v<j)/\∀k,below xs j<=k->∀v,xs[k]?=some v->j<=v :=
 A9w a _ 0 _ (by omega) (aB _) (aj _) (fun k b=>absurd b (cD _)) fun k b v c=>by
  simp_all
theorem below_at {xs:Array Nat}{j k:Nat}(a:xs.toList.Pairwise (· < ·))(h:xs[k]?=some j):below xs j=k:=by
 obtain⟨i,l,n⟩:=Af9 (j:=j) a
 rcases Nat.lt_trichotomy (below xs j) k with q | q | q
 ·have g  := (gA.mp h).1
  have c:xs[below xs j]?=some _:=dW (by omega)
  rw[<- cB]at h c;obtain⟨d,m⟩:=bh.mp c;obtain⟨e,f⟩:=bh.mp h;have b:=fB.mp a _ k d e q
  grind
 ·omega
 grind
abbrev En:=Nat×Int×Value
def Jx (m:Nat)(h:Int):Probe:={ j:=bits h % (m+1),more:=runEnd m (bits h % (m+1))-bits h % (m+1),i:=bits h % (m+1),perturb:=bits h,dummy:=none }
theorem R9 (m:Nat)(h:Int):Pk m (Jx m h):=by
 have a:bits h % (m+1)<=m:=dX (Nat.mod_lt _ (dG m));have r:=Ad7 a
 refine⟨a,?_,aj _,?_⟩
 ·show bits h % (m+1)+(runEnd m _-bits h % (m+1))=runEnd m (bits h % (m+1))
  omega
 ·show bits h<2 ^ 64
  unfold bits
  grind
def at_ (m:Nat)(h:Int)(n:Nat):Nat:=(walk m n (Jx m h)).j
structure Tk (t:SetTable) (E:List En):Prop where
 dm:t.dummies=#[]
 pl:t.place.toList=E.map (·.1)
 asc:(E.map (·.1)).Pairwise (· < ·)
 top:∀e∈E,e.1<=t.mask
 path:∀e∈E,∃n,at_ t.mask e.2.1 n=e.1/\∀k,k<n->at_ t.mask e.2.1 k∈E.map (·.1)
 full:Full t.mask
 room:E.length<=t.mask
variable {t:SetTable}{E:List En}
theorem Tk.psc (T:Tk t E):t.place.toList.Pairwise (· < ·):=by rw[T.pl];exact T.asc
theorem Tk.pget (T:Tk t E)(i:Nat):t.place[i]?=(E[i]?).map (·.1):=by rw[<- cB,T.pl,bJ]
theorem Tk.live (T:Tk t E){i:Nat}{e:En}(h:E[i]?=some e):t.slot e.1=.live i:=by
 have g:t.place[i]?=some e.1:=by rw[T.pget,h];rfl
 unfold slot;simp only[below_at T.psc g,g,bK,bI]
theorem Tk.empty (T:Tk t E){j:Nat}(h:j∉E.map (·.1)):t.slot j=.empty:=by
 unfold slot
 have a:(t.place[below t.place j]?==some j)=false:=by
  rw[<- T.pl]at *
  grind
 simp only[a,cP];unfold has;rw[T.dm]
 simp
theorem V0 {α:Type}[DecidableEq α]:∀{l l':List α},l.Nodup->(∀a∈l,a∈l')->l.length<=l'.length
 | [],_,_,_=>aB _
 | a::r,l',nd,sub=>by
  obtain⟨n1,n2⟩:=bH.mp nd;have m:=sub a aN
  have:=V0 (l:=r) (l':=l'.erase a) n2 fun b hb=>(List.mem_erase_of_ne (a:=b) (b:=a) fun e=>n1 (by rw[<- e];exact hb)).mpr (sub b (aW _ hb))
  rw[List.length_erase_of_mem m]at this;have:=List.length_pos_of_mem m;rw[aH];omega
theorem Tk.first (T:Tk t E){p:Probe}(hp:Pk t.mask p):∃N,N<10*turns t.mask/\(walk t.mask N p).j∉E.map (·.1)/\∀k,k<N->(walk t.mask k p).j∈E.map (·.1):=by
 have:∃s,s<=t.mask/\s∉E.map (·.1):=by
  refine fC fun e=>?_
  have:=V0 (l:=List.range (t.mask+1)) (l':=E.map (·.1)) dY fun s f=>fC fun z=>e ⟨s,dX (bc.mp f),z⟩
  rw[bD,ak]at this;have:=T.room;omega
 obtain⟨s,h,d⟩:=this;obtain⟨n,j,g⟩:=comes T.full hp h
 have:∀M,(∃n,n<=M/\(walk t.mask n p).j∉E.map (·.1))->∃N,N<=M/\(walk t.mask N p).j∉E.map (·.1)/\∀k,k<N->(walk t.mask k p).j∈E.map (·.1):=by
  intro M
  induction M with
  | zero =>
   grind
  | succ M i =>
   by_cases z:∃n,n<=M/\(walk t.mask n p).j∉E.map (·.1)
   ·grind
   grind
 obtain⟨N,a,b,c⟩:=this n ⟨n,aj _,by rw[g];exact d⟩
 grind
theorem walk_dummy {m:Nat}:∀{n:Nat}{p:Probe},(walk m n p).dummy=p.dummy
 | 0,_=>rfl
 | n+1,p=>by
  show (walk m n (adv m p)).dummy=_
  rw[walk_dummy];unfold adv
  split <;> rfl
theorem Tk.probe_go (T:Tk t E){ha:Nat->Int}{h:Int}(hh:∀(i:Nat) (e:En),E[i]?=some e->ha i=e.2.1):∀{N fuel:Nat}{p:Probe},N<fuel->(walk t.mask N p).j∉E.map (·.1)->(∀k,k<N->(walk t.mask k p).j∈E.map (·.1)) ->
 (probe.go t ha h fuel p=some (.empty (walk t.mask N p).j p.dummy)/\∀k,k<N->∀(i:Nat) (e:En),E[i]?=some e->e.1=(walk t.mask k p).j->e.2.1≠h) \/
 ∃(k i:Nat) (e:En),k<N/\E[i]?=some e/\e.1=(walk t.mask k p).j/\e.2.1=h/\probe.go t ha h fuel p=some (.candidate e.1 i (walk t.mask (k+1) p))/\∀k',k'<k->∀(i:Nat) (e:En),E[i]?=some e->e.1=(walk t.mask k' p).j->e.2.1≠h
 | 0,fuel+1,p,_,h0,_=>by
  refine .inl ⟨?_,fun k hk=>absurd hk (cD _)⟩
  unfold probe.go
  rw[T.empty (show p.j∉E.map (·.1) from h0)];rfl
 | N+1,fuel+1,p,hf,h0,h1=>by
  have m0:=h1 0 (dG _);obtain⟨e,he,ej⟩:=au.mp m0;have ej:e.1=p.j:=ej;obtain⟨i,hi⟩:=dH he
  have uniq:∀i' e',E[i']?=some e'->e'.1=p.j->e'=e:=fun i' e' hi' ej'=>by
   have a:=T.live hi;have b:=T.live hi';rw[ej]at a;rw[ej',a]at b
   have:i=i':=by injection b
   subst this;rw[hi]at hi';exact(bU hi').symm
  unfold probe.go;rw[<- ej,T.live hi];simp only[hh i e hi]
  by_cases c:e.2.1=h
  ·rw[if_pos (by simpa using c)]
   refine .inr ⟨0,i,e,dG _,hi,ej,c,?_,fun k hk=>absurd hk (cD _)⟩
   rw[A9u];rfl
  ·rw[if_neg (by simpa using c),A9u]
   rcases T.probe_go hh (N:=N) (fuel:=fuel) (p:=adv t.mask p) (by omega) h0 (fun k hk=>h1 (k+1) (gw hk)) with ⟨a,b⟩ | ⟨k,i',e',k1,k2,k3,k4,k5,k6⟩
   ·refine .inl ⟨?_,fun k hk i' e' hi' ej'=>?_⟩
    ·rw[a]
     have:(adv t.mask p).dummy=p.dummy:=walk_dummy (n:=1);rw[this];rfl
    ·cases k with
     | zero=>rw[uniq i' e' hi' ej'];exact c
     | succ k=>exact b k (fD hk) i' e' hi' ej'
   ·refine .inr ⟨k+1,i',e',gw k1,k2,k3,k4,k5,fun k' hk' i2 e2 hi2 ej2=>?_⟩
    cases k' with
    | zero=>rw[uniq i2 e2 hi2 ej2];exact c
    | succ k'=>exact k6 k' (fD hk') i2 e2 hi2 ej2
theorem Tk.ahead (T:Tk t E){h:Int}{N:Nat}(hN:at_ t.mask h N∉E.map (·.1)){e:En}(he:e∈E)(b:e.2.1=h):∃k,k<N/\at_ t.mask h k=e.1:=by
 obtain⟨n,c,a⟩:=T.path e he
 grind
def Qg {α:Type}(l:List α)(p:Nat)(x:α):List α:=l.take p++x::l.drop p
theorem Io {a:Type}(xs:Array a)(p:Nat)(x:a):(insertAt xs p x).toList=Qg xs.toList p x:=by
 unfold insertAt Qg
 simp 
 exact List.take_of_length_le (by grind)
theorem N8 {a b:Type}(f:a->b)(l:List a)(p:Nat)(x:a):(Qg l p x).map f=Qg (l.map f) p (f x):=by
 unfold Qg
 simp_all
theorem insQ_mem {a:Type}{l:List a}{p:Nat}{x y:a}:y∈Qg l p x↔y∈l\/y=x:=by
 unfold Qg
 constructor
 ·grind
 ·rintro (h | h)
  ·rw[<- List.take_append_drop p l]at h
   grind
  grind
theorem Ai7 {a:Type}{l:List a}{p:Nat}{x:a}:(Qg l p x).length=l.length+1:=by
 unfold Qg
 grind
theorem A8p {l:List Nat}{p j:Nat}(d:l.Pairwise (· < ·))(h1:∀k,k<p->∀v,l[k]?=some v->v<j)(h2:∀k,p<=k->∀v,l[k]?=some v->j<v):(Qg l p j).Pairwise (· < ·):=by
 unfold Qg;rw[List.pairwise_append]
 refine⟨d.sublist (fU _ _),fG.mpr ⟨fun v e=>?_,d.sublist (List.drop_sublist _ _)⟩,fun v e w f=>?_⟩
 ·obtain⟨k,b⟩:=dH e
  rw[List.getElem?_drop]at b;exact h2 _ (c7 _ _) v b
 ·obtain⟨k,b⟩:=dH e
  rw[List.getElem?_take]at b
  split at b
  ·rename_i g
   have a:=h1 k g v b
   rcases az.mp f with h | f
   ·grind
   ·obtain⟨i,c⟩:=dH f
    rw[List.getElem?_drop]at c;exact cZ a (h2 _ (c7 _ _) w c)
  grind
theorem Tk.put (T:Tk t E){h:Int}{v:Value}{N:Nat}(hN:at_ t.mask h N∉E.map (·.1))(h1:∀k,k<N->at_ t.mask h k∈E.map (·.1))(c:E.length+1<=t.mask) :
 Tk (t.put (at_ t.mask h N)).1 (Qg E (below t.place (at_ t.mask h N)) (at_ t.mask h N,h,v))/\(t.put (at_ t.mask h N)).2=below t.place (at_ t.mask h N):=by
 have f:at_ t.mask h N<=t.mask:=((R9 t.mask h).walk (n:=N)).le.1
 generalize hj:at_ t.mask h N=j at *
 obtain⟨b0,o,b2⟩:=Af9 (j:=j) T.psc
 have g:∀k v,(E.map (·.1))[k]?=some v->t.place[k]?=some v:=fun k v d=>by rw[<- cB,T.pl];exact d
 have l:(if has t.dummies j=true then eraseAt t.dummies (below t.dummies j) else t.dummies)=#[]:=by
  rw[if_neg,T.dm];unfold has;rw[T.dm]
  simp
 refine⟨⟨l,?_,?_,fun e a=>?_,fun e a=>?_,T.full,by rw[Ai7];exact c⟩,rfl⟩
 ·show (insertAt t.place (below t.place j) j).toList=_
  rw[Io,T.pl,N8]
 ·rw[N8]
  refine A8p T.asc (fun k b v d=>o k b v (g k v d)) fun k b v d=>?_
  grind
 ·rcases insQ_mem.mp a with a | rfl
  ·exact T.top e a
  ·exact f
 ·rcases insQ_mem.mp a with a | rfl
  ·obtain⟨n,m,i⟩:=T.path e a
   refine⟨n,m,fun k b=>?_⟩
   rw[N8];exact insQ_mem.mpr (.inl (i k b))
  ·refine⟨N,hj,fun k b=>?_⟩
   rw[N8];exact insQ_mem.mpr (.inl (h1 k b))
abbrev Ow:=Array (Option Nat)
def occ (o:Ow)(j:Nat):Prop:=(o.getD j (some 0)).isSome=true
def Jy (m i b:Nat):Probe:={ j:=i,more:=runEnd m i-i,i:=i,perturb:=b,dummy:=none }
theorem Nk {m i b:Nat}(hi:i<=m):∀{k:Nat},k<=runEnd m i-i->(walk m k (Jy m i b)).j=i+k/\(walk m k (Jy m i b)).more=runEnd m i-i-k/\(walk m k (Jy m i b)).i=i/\(walk m k (Jy m i b)).perturb=b
 | 0,_=>⟨rfl,rfl,rfl,rfl⟩
 | k+1,h=>by
  obtain⟨a,c,d,e⟩:=Nk (b:=b) hi (k:=k) (by omega)
  rw[walk_add]
  show (adv m (walk m k (Jy m i b))).j=_/\(adv m (walk m k (Jy m i b))).more=_/\(adv m (walk m k (Jy m i b))).i=_/\(adv m (walk m k (Jy m i b))).perturb=_
  unfold adv
  rw[if_pos (by omega)]
  exact⟨by show (walk m k (Jy m i b)).j+1=_;omega,by show (walk m k (Jy m i b)).more-1=_;omega,d,e⟩
theorem Aw1 {m i b:Nat}(hi:i<=m):walk m (runEnd m i-i+1) (Jy m i b)=Jy m (leap m i b).1 (leap m i b).2:=by
 obtain⟨a,c,d,e⟩:=Nk (b:=b) hi  (aj _);rw[walk_add]
 show adv m _=_
 have w:(walk m (runEnd m i-i) (Jy m i b)).dummy=none:=walk_dummy;unfold adv
 rw[if_neg (by omega),d,e,w];rfl
theorem Ao8 {n:Nat}{p:Nat->Bool}:∀{k:Nat},(List.range n).find? p=some k->k<n/\p k=true/\∀k',k'<k->p k'=false:=fun {k} h=>by
 simp_all
theorem Ay9 {m:Nat}{o:Ow}:∀{q fuel i b:Nat},i<=m->q<fuel->¬ occ o (lp m q (i,b)).1->∃j N,layClean.free m o fuel i b=some j/\(walk m N (Jy m i b)).j=j/\¬ occ o j/\∀k,k<N->occ o (walk m k (Jy m i b)).j
 | q,0,_,_,_,h,_=>absurd h (cD _)
 | q,fuel+1,i,b,hi,hf,he=>by
  have rl:=Ad7 hi;unfold layClean.free
  cases e:(List.range (runEnd m i+1-i)).find? (fun k=>(o.getD (i+k) (some 0)).isNone) with
  | some k =>
   obtain⟨k1,k2,k3⟩:=Ao8 e
   obtain⟨a,_⟩:=Nk (b:=b) hi (k:=k) (by omega)
   refine⟨i+k,k,rfl,a,fun z=>?_,fun k' hk'=>?_⟩
   ·unfold occ at z
    cases y:o.getD (i+k) (some 0) with
    | none=>rw[y]at z;cases z
    | some _=>rw[y]at k2;cases k2
   ·obtain⟨a',_⟩:=Nk (b:=b) hi (k:=k') (by omega)
    rw[a'];have:=k3 k' hk';unfold occ
    cases y:o.getD (i+k') (some 0) with
    | none=>rw[y]at this;cases this
    | some _=>rfl
  | none =>
   have all:∀k,k<=runEnd m i-i->occ o (i+k):=fun k hk=>by
    have:=List.find?_eq_none.mp e k (bc.mpr (by omega))
    unfold occ
    cases y:o.getD (i+k) (some 0) with
    | none=>rw[y]at this;exact absurd rfl this
    | some _=>rfl
   cases q with
   | zero=>exact absurd (all 0 (aB _)) he
   | succ q =>
    obtain⟨j,N,n1,n2,n3,n4⟩:=Ay9 (q:=q) (fuel:=fuel) (i:=(leap m i b).1) (b:=(leap m i b).2) (leap_lt).1 (by omega) he
    refine⟨j,runEnd m i-i+1+N,n1,by rw[walk_add,Aw1 hi];exact n2,n3,fun k hk=>?_⟩
    rcases aM k (runEnd m i-i+1) with z | z
    ·obtain⟨a,_⟩:=Nk (b:=b) hi (k:=k) (by omega)
     rw[a];exact all k (by omega)
    ·have:k=runEnd m i-i+1+(k-(runEnd m i-i+1)):=by omega
     rw[this,walk_add,Aw1 hi]
     exact n4 _ (by omega)
structure Lk (m:Nat) (hs:List Int) (k:Nat) (o:Ow):Prop where
 size:o.size=m+1
 low:∀(j i:Nat),o[j]?=some (some i)->i<k
 one:∀(j j' i:Nat),o[j]?=some (some i)->o[j']?=some (some i)->j=j'
 path:∀(i:Nat) (h:Int),i<k->hs[i]?=some h->∃j N,o[j]?=some (some i)/\at_ m h N=j/\∀n,n<N->occ o (at_ m h n)
theorem As3 {o:Ow}{j:Nat}(h:j<o.size):occ o j↔∃i,o[j]?=some (some i):=by
 unfold occ;rw[dZ,dW h]
 constructor
 ·intro z
  obtain⟨i,e⟩:=fQ.mp z
  grind
 simp_all
theorem Lk.room {m k:Nat}{hs:List Int}{o:Ow}(L:Lk m hs k o)(hk:k<=m):∃s,s<=m/\¬ occ o s:=by
 refine fC fun h=>?_
 have c:∀s,s<=m->∃i,o[s]?=some (some i):=fun s hs=>(As3 (by rw[L.size];omega)).mp (fC fun z=>h ⟨s,hs,z⟩)
 have:=V0 (l:=(List.range (m+1)).map fun s=>(o.getD s _).getD 0)  (by
  unfold List.Nodup;rw[d_]
  refine List.pairwise_iff_forall_sublist.mpr fun {a b} f=>?_
  have ma:=bc.mp (f.subset (by simp:a∈[a,b]))
  have mb:=bc.mp (f.subset (by simp:b∈[a,b]))
  have j  := by
   have:=(dY ).sublist f
   simp at this
   exact this
  obtain⟨x,d⟩:=c a (by omega)
  obtain⟨y,g⟩:=c b (by omega)
  intro e
  have n:(o.getD a none).getD 0=x:=by rw[dZ,d];rfl
  have q:(o.getD b none).getD 0=y:=by rw[dZ,g];rfl
  rw[n,q]at e;subst e
  exact j (L.one a b x d g)) fun i p=>by
  obtain⟨s,hs,rfl⟩:=au.mp p;obtain⟨x,d⟩:=c s (dX (bc.mp hs));rw[dZ,d];exact bc.mpr (L.low s x d)
 rw[ak,bD,bD]at this;omega
theorem Lk.step {m k:Nat}{hs:List Int}{o:Ow}(F:Full m)(L:Lk m hs k o)(hk:k<=m){h:Int}(E:hs[k]?=some h):∃j,layClean.free m o (turns m) (bits h % (m+1)) (bits h)=some j/\Lk m hs (k+1) (o.setIfInBounds j (some k)):=by
 obtain⟨s,G,O⟩:=L.room hk;have u:=R9 m h
 have z:(lp m 13 (bits h % (m+1),bits h)).2=0:=by
  rw[Aa5]
  exact Nat.div_eq_of_lt (aA u.bits (by decide))
 have l:(lp m 13 (bits h % (m+1),bits h)).1<=m:=A5k 13 _ u.i;obtain⟨c,S,J⟩:=F.reach l G
 have e:(lp m (13+c) (bits h % (m+1),bits h)).1=s:=by
  rw[Ar4,show lp m 13 (bits h % (m+1),bits h)=((lp m 13 (bits h % (m+1),bits h)).1,0) from Prod.ext rfl z,Ae6,J]
 obtain⟨j,N,M,w,D,K⟩:=Ay9 (o:=o) (q:=13+c) (fuel:=turns m) (i:=bits h % (m+1)) (b:=bits h) u.i (by unfold turns;omega) (by rw[e];exact O)
 have T:j<=m:=by rw[<- w];exact(u.walk (n:=N)).le.1
 have B:j<o.size:=by rw[L.size];omega
 have d:(o.setIfInBounds j (some k))[j]?=some (some k):=by rw[Array.getElem?_setIfInBounds_self_of_lt B]
 have a:∀i,i≠j->(o.setIfInBounds j (some k))[i]?=o[i]?:=fun i t=>by rw[Array.getElem?_setIfInBounds_ne (aU t)]
 have I:∀x,o[j]?≠some (some x):=fun x f=>D ((As3 B).mpr ⟨x,f⟩)
 have p:∀i,occ o i->occ (o.setIfInBounds j (some k)) i:=fun i t=>by
  unfold occ at t ⊢;rw[dZ]at t ⊢
  by_cases y:i=j
  ·rw[y,d];rfl
  ·rw[a i y];exact t
 refine⟨j,M,by rw[Array.size_setIfInBounds];exact L.size,fun i x f=>?_,fun i A x f g=>?_,fun i U t r=>?_⟩
 ·by_cases y:i=j
  ·rw[y,d]at f;cases f;exact cL _
  ·rw[a i y]at f;exact bW (L.low i x f)
 ·by_cases y:i=j
  ·by_cases y':A=j
   ·rw[y,y']
   ·rw[y,d]at f;cases f
    rw[a _ y']at g;exact absurd (L.low _ k g) (bf _)
  ·by_cases y':A=j
   ·rw[y',d]at g;cases g
    rw[a i y]at f;exact absurd (L.low i k f) (bf _)
   ·rw[a i y]at f
    rw[a _ y']at g;exact L.one i _ x f g
 ·rcases aM i k with q | q
  ·obtain⟨H,P,C,Q,R⟩:=L.path i _ q r
   refine⟨H,P,?_,Q,fun n v=>p _ (R n v)⟩
   rw[a _ fun y=>I i (y▸C)];exact C
  ·have:i=k:=by omega
   subst this;rw[E]at r;cases r
   exact⟨j,N,d,w,fun n v=>p _ (K n v)⟩
theorem Bp8 {m:Nat}(F:Full m){hs:List Int}(hl:hs.length<=m+1)(q:hs.length<=m):∃o,layClean m hs.toArray=some o/\Lk m hs hs.length o:=by
 have c:∀(r:List Int) (k:Nat) (o:Ow),Lk m hs k o->hs.drop k=r->k<=hs.length->∃f,(r.foldl (fun (d:Option (Ow×Nat)) h=>do
  let (owner,k) <- d
  let j <- layClean.free m owner (turns m) (bits h % (m+1)) (bits h)
  pure (owner.setIfInBounds j (some k),k+1)) (some (o,k)))=some (f,hs.length)/\Lk m hs hs.length f:=by
  intro r
  induction r with
  | nil =>
   intro k o L b u
   have:k=hs.length:=by
    have:=bG List.length b
    grind
   grind
  | cons h r p =>
   intro k o L b u
   have g:hs[k]?=some h:=by
    have:=bG (fun l=>l[0]?) b
    grind
   have s:k<hs.length:=(bh.mp g).1
   obtain⟨j,e,t⟩:=L.step F (by omega) g
   obtain⟨f,e',L2⟩:=p (k+1) _ t (by
    have:=bG List.tail b;rw[List.tail_drop]at this
    grind) s
   simp_all
 have a:∀(j i:Nat),(Array.replicate (m+1) (none:Option Nat))[j]?≠some (some i):=fun j i h=>by
  grind
 obtain⟨o,e,L⟩:=c hs 0 _ ⟨Array.size_replicate,fun j i h=>absurd h (a j i),fun j j' i h=>absurd h (a j i),fun i h n=>absurd n (cD _)⟩ rfl (aB _)
 unfold layClean
 grind
def lives (m:Nat)(o:Ow):q_:=(List.range (m+1)).filterMap fun j=>(o.getD j none).map (j,·)
theorem Ii {m:Nat}{o:Ow}(hs:o.size=m+1){j k:Nat}:(j,k)∈lives m o↔o[j]?=some (some k):=by
 unfold lives;rw[List.mem_filterMap]
 constructor
 ·rintro⟨d,c,a⟩
  obtain⟨e,f,g⟩:=aO.mp a
  simp_all
 ·intro h
  have b:=(gA.mp h).1
  simp_all
theorem Ys {m:Nat}{o:Ow}:((lives m o).map (·.1)).Pairwise (· < ·):=by
 unfold lives
 refine List.Pairwise.sublist (l₂:=List.range (m+1)) ?_ List.pairwise_lt_range
 generalize List.range _=l
 induction l with
 | nil=>simp_all
 | cons a l b =>
  cases e:o.getD a none with
  | none =>
   simp_all
  | some k =>
   simp_all
theorem A1l {m:Nat}{hs:List Int}{o:Ow}(L:Lk m hs hs.length o):((lives m o).map (·.2)).Nodup/\(∀k,k∈(lives m o).map (·.2)↔k<hs.length)/\(lives m o).length=hs.length:=by
 have g:((lives m o).map (·.2)).Nodup:=by
  have a:=Ys (m:=m) (o:=o);unfold List.Nodup;rw[d_]at a ⊢
  refine fH (fun {x y} f i xy e=>?_) a
  have:=L.one _ _ _ ((Ii L.size).mp f) (by rw[e];exact(Ii L.size).mp i)
  omega
 have c:∀k,k∈(lives m o).map (·.2)↔k<hs.length:=fun k=>by
  constructor
  ·intro h
   obtain⟨x,f,rfl⟩:=au.mp h;exact L.low _ _ ((Ii L.size).mp f)
  ·intro h
   obtain⟨j,N,l,_⟩:=L.path k _ h (bA h);exact au.mpr ⟨(j,k),(Ii L.size).mpr l,rfl⟩
 have a:=V0 g  fun k d=>bc.mpr ((c k).mp d)
 have b:=V0   dY fun k d=>(c k).mpr (bc.mp d)
 grind
theorem A7z {m fi mo:Nat}{led pl:Bool}(F:Full m){es:Array (Int×Value)}(hl:es.size<=m):∃t order E',laid m fi mo led pl (es.map (·.1))=some (t,order)/\t.mask=m/\t.plain=pl/\t.led=led/\Tk t E'/\(order.filterMap (es[·]?)).toList=E'.map (·.2)/\E'.length=es.size/\∀x,x∈E'.map (·.2)↔x∈es.toList:=by
 have a:(es.toList.map (·.1)).length=es.size:=by rw[ak];rfl
 obtain⟨o,v,L⟩:=Bp8 F (hs:=es.toList.map (·.1)) (by omega) (by omega)
 obtain⟨w,p,q⟩:=A1l L
 have D:es.map (·.1)=(es.toList.map (·.1)).toArray:=by rw[<- Array.toArray_toList (xs:=es.map (·.1)),Array.toList_map]
 have f:∀x∈lives m o,x.2<es.size:=fun x b=>by rw[<- a];exact(p x.2).mp (au.mpr ⟨x,b,rfl⟩)
 refine⟨{ mask:=m,place:=((lives m o).map (·.1)).toArray,dummies:=#[],finger:=fi,led,moves:=mo,plain:=pl },((lives m o).map (·.2)).toArray,(lives m o).map fun x=>(x.1,es.toList.getD x.2 (0,.none)),?_,rfl,rfl,rfl,⟨rfl,?_,?_,fun e r=>?_,fun e r=>?_,F,?_⟩,?_,?_,fun x=>?_⟩
 ·unfold laid
  rw[D,v];rfl
 ·rw[aV];rfl
 ·rw[aV];exact Ys
 ·obtain⟨x,b,rfl⟩:=au.mp r
  have:=(gA.mp ((Ii L.size).mp b)).1;have s:=L.size
  show x.1<=m
  omega
 ·obtain⟨x,b,rfl⟩:=au.mp r
  have c:=f x b
  have g:(es.toList.map (·.1))[x.2]?=some (es.toList.getD x.2 (0,.none)).1:=by
   rw[bJ,bO,bA (show x.2<es.toList.length from c)];rfl
  obtain⟨j,N,z,A,C⟩:=L.path x.2 _ (by rw[a];exact c) g
  have:j=x.1:=L.one j x.1 x.2 z ((Ii L.size).mp b);subst this
  refine⟨N,A,fun k f=>?_⟩
  show at_ m _ k∈_
  have le:at_ m (es.toList.getD x.2 (0,.none)).1 k<=m:=((R9 m _).walk (n:=k)).le.1
  obtain⟨i,B⟩:=(As3 (by rw[L.size];omega)).mp (C k f)
  rw[aV];exact au.mpr ⟨(_,i),(Ii L.size).mpr B,rfl⟩
 ·rw[ak,q,a];exact hl
 ·clear w p q
  generalize lives m o=l at *
  induction l with
  | nil=>rfl
  | cons x l ih =>
   grind
 ·rw[ak,q,a]
 ·rw[aV]
  constructor
  ·intro h
   obtain⟨y,u,rfl⟩:=au.mp h;have:=f y u
   show es.toList.getD _ _∈_
   rw[bO,bA (this)];exact fY _
  ·intro h
   obtain⟨k,d⟩:=dH h
   obtain⟨y,u,e⟩:=au.mp ((p k).mpr (by rw[a];exact((bh.mp d).1)))
   refine au.mpr ⟨y,u,?_⟩
   show es.toList.getD _ _=x
   rw[e,bO,d];rfl
end STb
namespace L2
open PySem PySem.Spec PyProof.Rows STb
section
variable {P:u6}{w:World}{A:t_}{E:z_}{s:u_}
theorem Xu:∀(m:Nat) (d:t6),d.depth<=m->keyB d=true->∀(A:t_) (E:z_) (s:u_) (v:Value) (j:v6) (Q:Bool->u_->Prop),Reads s.heap v d j->Q false s->wpAny (model P w) A (ofAClassStatement (m+1) v) Q E s:=by
 intro m
 induction m with
 | zero =>
  intro d y f A E s v j Q r h
  cases r with
  | none=>exact wpAny_pure h
  | int i t=>exact wpAny_pure h
  | str x t=>exact wpAny_pure h
  | tuple=>exact absurd y (by simp[PyData.depth])
  | bool b=>cases f
  | list=>cases f
  | dict=>cases f
 | succ n L =>
  intro d y f A E s v j Q r h
  cases r with
  | none=>exact wpAny_pure h
  | int i t=>exact wpAny_pure h
  | str x t=>exact wpAny_pure h
  | bool b=>cases f
  | list=>cases f
  | dict=>cases f
  | @tuple a o z n' k j G O l V =>
   have M:s.TypeIs (.ref a) "tuple" := ⟨o,G,O⟩
   have B:PyData.depthAll k<=n:=eN (show PyData.depthAll k+1<=n+1 from y)
   have p:Ez k=true:=f;unfold ofAClassStatement
   refine wpAny_bind (wpAny_typeOf M ?_)
   refine wpAny_bind (wpAny_pure ?_)
   refine wpAny_bind (wpAny_seqItems G l ?_)
   refine wpAny_bind ?_
   rw[<- dM]
   refine wpAny_forIn_list _ (fun e r u=>r.1=none/\u=s/\∃c H,ReadsAll _ e c H/\Ez c=true/\PyData.depthAll c<=n) _ ?_ ?_ _ _ ⟨rfl,rfl,k,_,V,p,B⟩
   ·rintro v e r u ⟨F,rfl,c,H,K,q,C⟩
    cases K with
    | @cons _ _ N g J S T D =>
     obtain⟨R,U⟩:=aq.mp (show (keyB _&&Ez _)=true from q)
     have I:N.depth<=n/\PyData.depthAll g<=n:=by
      have:max _ _<=n:=C;omega
     refine wpAny_bind (L _ I.1 R _ _ _ _ _ _ T ?_)
     exact wpAny_pure ⟨rfl,rfl,g,_,D,U,I.2⟩
   ·rintro⟨r1,r2⟩ u ⟨F,rfl,_⟩
    subst F;exact wpAny_pure h
theorem A6u:typeLookup (.type "tuple") "__hash__" = pure (some (.builtin "tuple.__hash__")):=by rw[typeLookup_type,builtinLookup_eq_fast];trivial
theorem A4i:∀(m:Nat) (d:t6),d.depth<=m->keyB d=true->∀(A:t_) (E:z_) (s:u_) (v:Value) (j:v6) (Q:Bool->u_->Prop),Reads s.heap v d j->(∀b,Q b s)->wpAny (model P w) A (hashByValue (m+1) v) Q E s:=by
 intro m
 induction m with
 | zero =>
  intro d u e A E s v j Q r h
  cases r with
  | none=>exact wpAny_pure (h _)
  | int i t=>exact wpAny_pure (h _)
  | str x t=>exact wpAny_pure (h _)
  | tuple=>exact absurd u (by simp[PyData.depth])
  | bool b=>cases e
  | list=>cases e
  | dict=>cases e
 | succ n M =>
  intro d u e A E s v j Q r h
  cases r with
  | none=>exact wpAny_pure (h _)
  | int i t=>exact wpAny_pure (h _)
  | str x t=>exact wpAny_pure (h _)
  | bool b=>cases e
  | list=>cases e
  | dict=>cases e
  | @tuple a o B n' l j F R p J =>
   have K:s.TypeIs (.ref a) "tuple" := ⟨o,F,R⟩
   have q:PyData.depthAll l<=n:=eN (show PyData.depthAll l+1<=n+1 from u)
   refine wpAny_bind (wpAny_specialOf K A6u ?_)
   refine wpAny_bind (wpAny_seqItems F p ?_)
   refine wpAny_bind ?_
   rw[<- dM]
   refine wpAny_forIn_list _ (fun f r k=>k=s/\∃c D,ReadsAll _ f c D/\Ez c=true/\PyData.depthAll c<=n) _ ?_ ?_ _ _ ⟨rfl,l,_,J,e,q⟩
   ·rintro v f r k ⟨rfl,c,D,H,z,y⟩
    cases H with
    | @cons _ _ L g N O I C =>
     obtain⟨T,S⟩:=aq.mp (show (keyB _&&Ez _)=true from z)
     have G:L.depth<=n/\PyData.depthAll g<=n:=by
      have:max _ _<=n:=y;omega
     refine wpAny_bind (M _ G.1 T _ _ _ _ _ _ I fun b=>?_)
     cases b with
     | true =>
      exact wpAny_pure ⟨rfl,g,_,C,S,G.2⟩
     | false =>
      exact wpAny_pure (wpAny_pure (h _))
   ·rintro⟨U,r2⟩ k ⟨rfl,_⟩
    cases U with
    | none=>exact wpAny_pure (h _)
    | some b=>exact wpAny_pure (h _)
theorem Ai0 {k:t6}{b:Addr}(hk:isKeyT s.heap k b){ys:w6}(hy:∀y∈ys,∃i f,y=.ref f/\isKeyT s.heap i f){Q:Bool->u_->Prop}(h:Q false s):wpAny (model P w) A (searchCouldBeSeen (.ref b) ys) Q E s:=by
 refine wpAny_bind ?_
 refine wpAny_forIn_list _ (fun c r j=>r.1=none/\j=s/\∀y∈c,∃i f,y=.ref f/\isKeyT _ i f) _ ?_ ?_ _ _ ⟨rfl,rfl,hy⟩
 ·rintro v c r j ⟨l,rfl,a⟩
  obtain⟨i,f,rfl,g⟩:=a v aN
  have d:=fun y q=>a y (aW _ q)
  by_cases e:(b==f)=true
  ·simp only[e,Bool.true_or]
   exact wpAny_pure ⟨rfl,rfl,d⟩
  ·simp only[e,cP]
   refine wpAny_bind ((Dw P w).quiet hk ?_)
   refine wpAny_bind ((Dw P w).quiet g ?_)
   obtain⟨o,_,n⟩:=hk;obtain⟨p,_,m⟩:=g
   refine wpAny_bind (Xu 7 _ o.2.2 o.1 _ _ _ _ _ _ n ?_)
   refine wpAny_bind (Xu 7 _ p.2.2 p.1 _ _ _ _ _ _ m ?_)
   exact wpAny_pure ⟨rfl,rfl,d⟩
 ·rintro⟨n,m⟩ j ⟨l,rfl,_⟩
  subst l;exact wpAny_pure h
end
section
variable {P:u6}{w:World}{A:t_}{E:z_}{s:u_}
def ElT (w:World)(h:Heap)(es:List (Int×Value)):Prop:=∀e∈es,∃k b,e.2=.ref b/\isKeyT h k b/\e.1=Ca w k
theorem A8k {t:SetTable}(h:t.mask % 2=1):t.gaveWay=false:=by
 unfold SetTable.gaveWay
 grind
theorem Ah4 {a b:Addr}{o:Obj}{es:Array (Int×Value)}{ep:Nat}{t:SetTable}{L:List En}{k:t6}{N:Nat}(hr:A.units+8<cLine)(hk:isKeyT s.heap k b)(ho:s.heap.get? a=some o)(hd:o.data=.set es ep t)(hf:t.fits es.size=true)(S:t.mask % 2=1)
 (T:Tk t L) (B:es.toList=L.map (·.2)) (C:ElT w s.heap es.toList) (hN:N<10*SetTable.turns t.mask) (h0:at_ t.mask (Ca w k) N∉L.map (·.1)) (h1:∀n,n<N->at_ t.mask (Ca w k) n∈L.map (·.1)) {Q:SetFound->u_->Prop}
 (q1:(∃e∈es.toList,∃f,e.2=.ref f/\isKeyT s.heap k f)->Q (.there none) s) (q2:(∀e∈es.toList,∀f,e.2=.ref f->¬ isKeyT s.heap k f)->Q (.free (at_ t.mask (Ca w k) N) false) s) :
 ∀
  (fuel n:Nat) (st:Option SetTable.Probe),n<=N->N-n<fuel->st.getD (t.probeStart (Ca w k))=walk t.mask n (Jx t.mask (Ca w k)) ->
  (∀m,m<n->∀(i:Nat) (e:En),L[i]?=some e->e.1=at_ t.mask (Ca w k) m->∀f,e.2.2=.ref f->¬ isKeyT s.heap k f)->wpAny (model P w) A (setSearchFrom a (.ref b) (Ca w k) true fuel st) Q E s:=by
 have G:∀(i:Nat) (e:En),L[i]?=some e->es[i]?=some e.2:=fun i e h=>by
  rw[<- cB,B,bJ,h];rfl
 intro fuel
 induction fuel with
 | zero=>intro n st _ h;exact absurd h (cD _)
 | succ fuel ih =>
  intro n st hn hfu hst W;unfold setSearchFrom
  refine wpAny_bind (wpAny_setState_of ho hd hf ?_)
  simp only[A8k S,cP,cY,hst]
  have pg:=T.probe_go (ha:=fun i=>(es[i]?.map (·.1)).getD 0) (h:=Ca w k) (fun i e h=>by simp only[G i e h];rfl) (N:=N-n) (fuel:=10*SetTable.turns t.mask) (p:=walk t.mask n (Jx t.mask (Ca w k))) (by omega)
   (by rw[<- walk_add,show n+(N-n)=N by omega];exact h0) (fun m hm=>by rw[<- walk_add];exact h1 (n+m) (by omega))
  rw[<- walk_add,show n+(N-n)=N by omega]at pg
  generalize hpr:t.probe _ (Ca w k) (walk t.mask n (Jx t.mask (Ca w k)))=pr
  rcases pg with ⟨e1,D⟩ | ⟨m,i,e,m1,J,m3,m4,m5,m6⟩
  ·have dn:(walk t.mask n (Jx t.mask (Ca w k))).dummy=none:=walk_dummy
   rw[dn]at e1;have V:pr=some (.empty (at_ t.mask (Ca w k) N) none):=hpr.symm.trans e1;subst V
   refine wpAny_pure (q2 fun e he f R l=>?_)
   obtain⟨k',b2,g,r,eh⟩:=C e he;rw[R]at g
   cases g
   have Z:k=k':=(Dw P w).inj l r;subst Z;rw[B]at he;obtain⟨x,H,rfl⟩:=au.mp he;obtain⟨m,m1,J⟩:=T.ahead h0 H eh;obtain⟨i,hi⟩:=dH H
   rcases aM m n with z | z
   ·exact W m z i x hi J.symm f R l
   ·refine D (m-n) (by omega) i x hi ?_ eh
    rw[<- walk_add,show n+(m-n)=m by omega]
    exact J.symm
  ·have V:pr=some (.candidate e.1 i (walk t.mask (m+1) (walk t.mask n (Jx t.mask (Ca w k))))):=hpr.symm.trans m5
   subst V;obtain⟨j,hh,v⟩:=e;have K:=G i _ J
   have Y:(hh,v)∈es.toList:=by rw[B];exact au.mpr ⟨(j,hh,v),bR J,rfl⟩
   obtain⟨k',f,R,l,eh⟩:=C (hh,v) Y;have R:v=.ref f:=R;subst R;have u:=T.live J;simp only at K u
   have sm:t.sameMemory t.moves t.mask=some true:=by unfold SetTable.sameMemory;rw[if_pos (by simp)]
   have F:wpAny (model P w) A (holding [.ref f] (eqBool (.ref f) (.ref b)) >>= fun d=>setState a >>= fun x =>
    if (true&&d)=true then pure (SetFound.there none)
     else
      match x.2.2.sameMemory t.moves t.mask with
      | some same =>
       match (if same=true then x.2.2.slot j else .empty) with
        | .live i'=>match x.1[i']? with
         | some (_,y')=>isSame y' (.ref f) >>= fun z=>pure (if z=true then some i' else none) >>= fun c=>match c with
          | none=>rule "set.search.anew" >>= fun _=>setSearchFrom a (.ref b) (Ca w k) true fuel none
          | some i'=>if d=true then pure (SetFound.there (some i')) else setSearchFrom a (.ref b) (Ca w k) true fuel (some (walk t.mask (m+1) (walk t.mask n (Jx t.mask (Ca w k)))))
         | none=>pure none >>= fun c=>match c with
          | none=>rule "set.search.anew" >>= fun _=>setSearchFrom a (.ref b) (Ca w k) true fuel none
          | some i'=>if d=true then pure (SetFound.there (some i')) else setSearchFrom a (.ref b) (Ca w k) true fuel (some (walk t.mask (m+1) (walk t.mask n (Jx t.mask (Ca w k)))))
        | _
         => pure none >>= fun c=>match c with
         | none=>rule "set.search.anew" >>= fun _=>setSearchFrom a (.ref b) (Ca w k) true fuel none
         | some i'=>if d=true then pure (SetFound.there (some i')) else setSearchFrom a (.ref b) (Ca w k) true fuel (some (walk t.mask (m+1) (walk t.mask n (Jx t.mask (Ca w k)))))
      | _=>unsupported "set.changed-during-lookup:is-the-new-block-at-the-old-address") Q E s:=by
    refine wpAny_bind (wpAny_holding ((Dw P w).eqBool hr l hk ?_))
    refine wpAny_bind (wpAny_setState_of ho hd hf ?_)
    by_cases z:k'=k
    ·rw[aD z]
     simp only[Bool.and_self,bI];exact wpAny_pure (q1 ⟨_,Y,f,rfl,z▸l⟩)
    ·rw[aK z]
     simp only[Bool.and_false,cP,cY,sm,bI,u,K]
     refine wpAny_bind ?_
     unfold isSame;simp only[bK,bI]
     refine wpAny_pure (wpAny_bind (wpAny_pure ?_))
     simp only
     refine ih (n+(m+1)) _ (by omega) (by omega) (by rw[<- walk_add];rfl) fun I hm' i2 D q M b2 g r=>?_
     rcases aM I n with y | y
     ·exact W I y i2 D q M b2 g r
     ·have U:D.2∈es.toList:=by rw[B];exact au.mpr ⟨D,bR q,rfl⟩
      obtain⟨k3,b3,X,O,eh3⟩:=C D.2 U;rw[g]at X
      cases X
      have Z:k=k3:=(Dw P w).inj r O;subst Z
      rcases aM I (n+m) with x | x
      ·refine m6 (I-n) (by omega) i2 D q ?_ eh3
       rw[<- walk_add,show n+(I-n)=I by omega]
       exact M
      ·have em:I=n+m:=by omega
       subst em
       have:D.1=j:=M.trans (by rw[show at_ t.mask (Ca w k) (n+m)=(walk t.mask m (walk t.mask n (Jx t.mask (Ca w k)))).j by unfold at_;rw[walk_add]];exact m3.symm)
       have l2:=T.live q;rw[this,u]at l2
       have:i=i2:=by injection l2
       subst this;rw[J]at q
       cases q
       have:f=b2:=by injection g
       subst this;exact z ((Dw P w).inj l r)
   simp only[K]
   by_cases ld:t.led=true
   ·simp only[ld,cP]
    exact F
   ·simp only[ld,Bool.not_false]
    refine wpAny_bind (Ai0 hk (fun y hy=>?_) ?_)
    ·obtain⟨x,H,rfl⟩:=au.mp hy
     have H  := by
      rw[Array.toList_filter]at H;exact(cU.mp H).1
     obtain⟨k3,b3,V,O,_⟩:=C x H;exact⟨k3,b3,V,O⟩
    ·exact F
end
section
mutual
theorem Uz {h h':Heap}{d:Addr}{o:Obj}{es:Array (Int×Value)}{ep:Nat}{t:SetTable}(ho:h.get? d=some o)(hd:o.data=.set es ep t)(hs:Heap.SameBut d h h'):∀(k:t6),keyB k=true->∀(v:Value) (as:v6),Reads h v k as->Reads h' v k as
 | .none,_,_,_,r=>by cases r;exact .none
 | .int i,_,_,_,r=>by cases r;exact .int _ _
 | .str x,_,_,_,r=>by cases r;exact .str _ _
 | .tuple ds,hk,_,_,r=>by
  cases r with
  | @tuple a o' vs n xs as h1 h2 h3 h4 =>
   refine .tuple ((hs.2 a ?_).trans h1) h2 h3 (Q8 ho hd hs ds hk _ _ h4)
   intro e;rw[e,ho]at h1;cases h1;rw[hd]at h3;cases h3
theorem Q8 {h h':Heap}{d:Addr}{o:Obj}{es:Array (Int×Value)}{ep:Nat}{t:SetTable}(ho:h.get? d=some o)(hd:o.data=.set es ep t)(hs:Heap.SameBut d h h'):∀(ks:w5),Ez ks=true->∀(vs:w6) (as:v6),ReadsAll h vs ks as->ReadsAll h' vs ks as
 | [],_,_,_,r=>by cases r;exact .nil
 | k::ks,hk,_,_,r=>by
  obtain⟨a,b⟩:=aq.mp (show (keyB k&&Ez ks)=true from hk)
  cases r with
  | cons r1 r2=>exact .cons (Uz ho hd hs k a _ _ r1) (Q8 ho hd hs ks b _ _ r2)
end
theorem Yy {h h':Heap}{d:Addr}{o:Obj}{es:Array (Int×Value)}{a:Nat}{t:SetTable}(ho:h.get? d=some o)(hd:o.data=.set es a t)(hs:Heap.SameBut d h h'){k:t6}{b:Addr}(hk:isKeyT h k b):isKeyT h' k b :=
 let ⟨c,_,r⟩:=hk; ⟨c,_,Uz ho hd hs k c.1 _ _ r⟩
variable {P:u6}{w:World}{A:t_}{E:z_}{s:u_}
theorem Vm {h:Heap}{a:Addr}{x y:t6}(hx:isKeyT h x a)(hy:isKeyT h y a):x=y:=let ⟨⟨_,l,_⟩,_,r⟩:=hx;let ⟨_,_,r'⟩:=hy; SeqAt.Reads.unique _ _ _ _ _ l r r'
def Msk (m:Nat):Prop:=m=7\/m=31\/m=127\/m=511
theorem Msk.full {m:Nat}(h:Msk m):Full m/\m % 2=1:=by
 rcases h with rfl | rfl | rfl | rfl
 ·exact⟨Bm3,rfl⟩
 ·exact⟨Br4,rfl⟩
 ·exact⟨Bi3,rfl⟩
 ·exact⟨Bf0,rfl⟩
structure SetE (w:World) (h:Heap) (a:Addr) (ks:w5) (o:Obj) (es:Array (Int×Value)) (ep:Nat) (t:SetTable) (L:List En):Prop where
 at_:h.get? a=some o
 ex:o.ExactSet
 dat:o.data=.set es ep t
 lst:es.toList=L.map (·.2)
 tk:Tk t L
 msk:Msk t.mask
 els:ElT w h es.toList
 len:ks.length=es.size
 nd:ks.Nodup
 mem:∀k,k∈ks↔∃e∈es.toList,∃b,e.2=.ref b/\isKeyT h k b
def setT (w:World)(h:Heap)(a:Addr)(ks:w5):Prop:=∃o es ep t L,SetE w h a ks o es ep t L/\es.size*5<t.mask*3
theorem SetE.fits {h:Heap}{a:Addr}{ks:w5}{o:Obj}{es:Array (Int×Value)}{c:Nat}{t:SetTable}{L:List En}(S:SetE w h a ks o es c t L):t.fits es.size=true/\t.fill=es.size:=by
 have d:t.place.size=L.length:=by rw[<- bV,S.tk.pl,ak]
 have b:es.size=L.length:=by rw[<- bV,S.lst,ak]
 have f:t.fill=es.size:=by unfold SetTable.fill;rw[S.tk.dm,d,b];rfl
 unfold SetTable.fits;have:=S.tk.room
 grind
theorem SetE.next {h h':Heap}{a b:Addr}{ks:w5}{o:Obj}{es:Array (Int×Value)}{m:Nat}{t:SetTable}{L:List En}(S:SetE w h a ks o es m t L){k:t6}(hk:isKeyT h k b)(j:k∉ks){c:Array (Int×Value)}{t':SetTable}{p:List En}(z:Heap.SameBut a h h')
 (g:h'.get? a=some { o with data:=.set c (m+1) t' }) (r:c.toList=p.map (·.2)) (tk:Tk t' p) (q:Msk t'.mask) (hm:∀e,e∈c.toList↔e∈es.toList\/e=(Ca w k,.ref b)) (hz:c.size=es.size+1):SetE w h' a (ks++[k]) { o with data:=.set c (m+1) t' } c (m+1) t' p:=by
 have i:=fun {k:t6} {b:Addr} (hk:isKeyT h k b)=>Yy S.at_ S.dat z hk
 refine⟨g,S.ex,rfl,r,tk,q,fun e d=>?_,by rw[a_,S.len,hz];rfl,?_,fun s=>?_⟩
 ·rcases (hm e).mp d with d | rfl
  ·obtain⟨s,n,f,l,A⟩:=S.els e d
   exact⟨s,n,f,i l,A⟩
  ·exact⟨k,b,rfl,i hk,rfl⟩
 ·rw[fJ]
  exact⟨S.nd,by simp,fun x hx y hy e=>j (by grind)⟩
 ·rw[aX,aG,S.mem]
  constructor
  ·rintro (⟨e,d,n,f,l⟩ | rfl)
   ·grind
   ·exact⟨_,(hm _).mpr (.inr rfl),b,rfl,i hk⟩
  ·rintro⟨e,d,n,f,l⟩
   rcases (hm e).mp d with d | rfl
   ·obtain⟨k2,b2,u,v,_⟩:=S.els e d
    rw[f]at u
    cases u
    have  := Vm l (i v)
    grind
   ·cases f
    exact .inr (Vm l (i hk))
theorem A8t {t:SetTable}{L:List En}(T:Tk t L)(b:Bool):Tk { t with plain:=b } L:=⟨T.dm,T.pl,T.asc,T.top,T.path,T.full,T.room⟩
theorem A1j {m n:Nat}(h:Msk m)(h1:n*5<m*3)(h2:(n+1)*5≥m*3)(h3:n+1<=300):∃m',SetTable.sizeAbove (SetTable.grown (n+1))=m'+1/\Msk m'/\n+1<=m'/\(n+1)*5<m'*3:=by
 rcases h with rfl | rfl | rfl | rfl
 ·have:n=4:=by omega
  subst this
  exact⟨31,by decide,.inr (.inl rfl),by decide,by decide⟩
 ·have:n=18:=by omega
  subst this
  exact⟨127,by decide,.inr (.inr (.inl rfl)),by decide,by decide⟩
 ·have:n=76:=by omega
  subst this
  exact⟨511,by decide,.inr (.inr (.inr rfl)),by decide,by decide⟩
 ·omega
theorem Au2 {a:Addr}{o:Obj}{es:Array (Int×Value)}{i:Nat}{t:SetTable}{m n:Nat}(ho:s.heap.get? a=some o)(hd:o.data=.set es i t)(hf:t.fits es.size=true)(hn:SetTable.sizeAbove n=m+1)(hm:Msk m)(hl:es.size<=m){Q:Unit->u_->Prop}
 (q:∀d g (c:Array (Int×Value)),d.mask=m->Tk d g->c.toList=g.map (·.2)->c.size=es.size->(∀x,x∈c.toList↔x∈es.toList)->Q () { s with heap:=s.heap.update a (Obj.putSet c d) }):wpAny (model P w) A (setRelay a n) Q E s:=by
 obtain⟨d,b,g,j,k,_,_,p,h,e4,l⟩:=A7z (m:=m) (fi:=t.finger) (mo:=t.movedTo m) (led:=t.led) (pl:=t.plain) hm.full.1 (es:=es) hl
 have e:t.relaid (es.map (·.1)) n=some (d,b):=by
  unfold SetTable.relaid;rw[hn];exact j
 have f:(b.filterMap (es[·]?)).size=es.size:=by grind
 have r:m+1<=sizeLine:=by
  rw[sizeLine_eq]
  rcases hm with rfl | rfl | rfl | rfl <;> decide
 unfold setRelay
 refine wpAny_bind (wpAny_setState_of ho hd hf ?_)
 simp only[hn];rw[if_neg (Nat.not_lt.mpr r)];simp only[e]
 refine wpAny_bind (wpAny_of_eq (a:=(b.filterMap (es[·]?),d)) ?_ ?_)
 ·show (if ((b.filterMap _).size != es.size)=true then _ else _)=_
  rw[if_neg (by rw[f];simp)]
 ·refine wpAny_storeSet_of ho hd (q _ _ _ k p h f fun x=>?_) (by grind)
  rw[h];exact l x
theorem A5t {a b:Addr}{ks:w5}{k:t6}(hr:A.units+8<cLine)(S0:setT w s.heap a ks)(hk:isKeyT s.heap k b)(V:ks.length+1<=300){Q:Bool->u_->Prop}
 (u:k∈ks->Q false s) (q:k∉ks->∀h',Heap.SameBut a s.heap h'->setT w h' a (ks++[k])->Q true { s with heap:=h' }):wpAny (model P w) A (setAddHashed a (.ref b) (Ca w k)) Q E s:=by
 obtain⟨o,j,ep,t,L,S,R⟩:=S0;obtain⟨T,Y⟩:=S.fits;obtain⟨N,n1,Z,n3⟩:=S.tk.first (R9 t.mask (Ca w k))
 have nb:10*SetTable.turns t.mask<=100000:=by
  unfold SetTable.turns
  rcases S.msk with e | e | e | e <;> rw[e] <;> decide
 unfold setAddHashed setAddHashedIn
 refine wpAny_holding (wpAny_bind (wpAny_setState_of S.at_ S.dat T ?_))
 have bs:byScan (.ref b) j=false:=rfl;simp only[bs,cP,cY]
 refine wpAny_bind (m:=setSearch a (.ref b) (Ca w k) true) ?_
 unfold setSearch
 refine Ah4 (N:=N) hr hk S.at_ S.dat T S.msk.full.2 S.tk S.lst S.els n1 Z n3 (fun h=>?_) (fun h=>?_) 100000 0 none (aB _) (by omega) rfl (fun m hm=>absurd hm (cD _))
 ·exact wpAny_pure (u ((S.mem k).mpr h))
 ·have i:k∉ks:=fun z=>by
   obtain⟨e,n,B,I,U⟩:=(S.mem k).mp z;exact h e n B I U
  refine wpAny_bind (wpAny_setState_of S.at_ S.dat T ?_)
  have G:L.length+1<=t.mask:=by
   have l2:j.size=L.length:=by rw[<- bV,S.lst,ak]
   have:7<=t.mask:=by rcases S.msk with e | e | e | e <;> omega
   omega
  obtain⟨T1,p1⟩:=S.tk.put (v:=.ref b) Z n3 G;have m1:(t.put (at_ t.mask (Ca w k) N)).1.mask=t.mask:=rfl;simp only[p1]
  generalize (t.put (at_ t.mask (Ca w k) N)).1=t1 at *
  have H:∀l:Bool,wpAny (model P w) A (storeSet a (SetTable.insertAt j (SetTable.below t.place (at_ t.mask (Ca w k) N)) (Ca w k,.ref b)) (if l=true then t1 else { t1 with plain:=false }) >>= fun _ =>
   if (!false&&(if l=true then t1 else { t1 with plain:=false }).tooFull)=true then setRelay a (SetTable.grown (j.size+1)) >>= fun _=>pure true else pure true) Q E s:=fun l=>by
   have T2:Tk (if l=true then t1 else { t1 with plain:=false }) (Qg L (SetTable.below t.place (at_ t.mask (Ca w k) N)) (at_ t.mask (Ca w k) N,Ca w k,.ref b)):=by
    cases l
    ·exact A8t T1 false
    ·exact T1
   have M:(if l=true then t1 else { t1 with plain:=false }).mask=t.mask:=by cases l <;> exact m1
   generalize (if l=true then t1 else { t1 with plain:=false })=f at *
   generalize SetTable.below t.place (at_ t.mask (Ca w k) N)=p at *
   have l1:(SetTable.insertAt j p (Ca w k,Value.ref b)).toList=(Qg L p (at_ t.mask (Ca w k) N,Ca w k,.ref b)).map (·.2):=by rw[Io,S.lst,N8]
   have mm:∀e,e∈(SetTable.insertAt j p (Ca w k,Value.ref b)).toList↔e∈j.toList\/e=(Ca w k,Value.ref b):=fun e=>by rw[Io];exact insQ_mem
   have C:(SetTable.insertAt j p (Ca w k,Value.ref b)).size=j.size+1:=by rw[<- bV,Io,Ai7,bV]
   generalize SetTable.insertAt j p (Ca w k,Value.ref b)=d at *
   generalize Qg L p (at_ t.mask (Ca w k) N,Ca w k,Value.ref b)=L1 at *
   have sz:d.size<=sizeLine:=by rw[C,sizeLine_eq,<- S.len];omega
   refine wpAny_bind (wpAny_storeSet_of S.at_ S.dat ?_ sz)
   have J:(s.heap.update a (Obj.putSet d f)).get? a=some { o with data:=.set d (ep+1) f }:=by
    have:=Heap.get?_update_self (Obj.putSet d f) S.at_ (by rw[putSet_of d f S.dat];rfl)
    rw[putSet_of d f S.dat]at this;exact this
   have x:=S.next (k:=k) hk i (Heap.SameBut.update s.heap a (Obj.putSet d f)) J l1 T2 (M▸S.msk) mm C;obtain⟨f1,F⟩:=x.fits;have tf:f.tooFull=decide (f.fill*5≥f.mask*3):=rfl
   by_cases c:(j.size+1)*5≥t.mask*3
   ·rw[tf,F,C,M,aD c]
    simp only[Bool.not_false,Bool.and_self,bI]
    obtain⟨m',g2,g3,g4,g5⟩:=A1j S.msk R c (by rw[<- S.len];exact V)
    refine wpAny_bind (Au2 (s:={ s with heap:=s.heap.update a (Obj.putSet d f) }) J rfl f1 g2 g3 (by rw[C];exact g4) fun y L3 g I U e3 X K=>wpAny_pure ?_)
    have g6:((s.heap.update a (Obj.putSet d f)).update a (Obj.putSet g y)).get? a=some { o with data:=.set g (ep+1+1) y }:=by
     have:=Heap.get?_update_self (Obj.putSet g y) J (by rw[putSet_of g y rfl];rfl)
     rw[putSet_of g y rfl]at this;exact this
    have D:Heap.SameBut a (s.heap.update a (Obj.putSet d f)) ((s.heap.update a (Obj.putSet d f)).update a (Obj.putSet g y)):=Heap.SameBut.update ..
    have O:=fun {k:t6} {b:Addr} (hk:isKeyT (s.heap.update a (Obj.putSet d f)) k b)=>Yy J rfl D hk
    refine q i _ ((Heap.SameBut.update s.heap a (Obj.putSet d f)).trans D) ⟨_,g,_,y,L3,⟨g6,S.ex,rfl,e3,U,I▸g3,fun e n=>?_,by rw[X];exact x.len,x.nd,fun k'=>?_⟩,by rw[I,X,C];exact g5⟩
    ·obtain⟨k',B,u,q,q3⟩:=x.els e ((K e).mp n)
     exact⟨k',B,u,O q,q3⟩
    ·rw[x.mem]
     constructor
     ·rintro⟨e,n,B,u,q⟩
      exact⟨e,(K e).mpr n,B,u,O q⟩
     ·rintro⟨e,n,B,u,q⟩
      obtain⟨k2,b2,x1,W,_⟩:=x.els e ((K e).mp n);rw[u]at x1
      cases x1
      have  := Vm q (O W);subst this;exact⟨e,(K e).mp n,B,u,W⟩
   ·rw[tf,F,C,M,aK c]
    exact wpAny_pure (q i _ (Heap.SameBut.update ..) ⟨_,d,_,f,L1,x,by omega⟩)
  obtain⟨c,_,r⟩:=hk
  split
  ·exact wpAny_bind (A4i 7 _ c.2.2 c.1 _ _ _ _ _ _ r fun l=>H _)
  ·exact wpAny_bind (wpAny_pure (H _))
end
theorem setT.stay {w:World}{h h':Heap}{a:Addr}{ks:w5}(hs:StT h h')(k:∀o,h.get? a=some o->h'.get? a=some o):setT w h a ks->setT w h' a ks:=by
 rintro⟨o,n,m,t,L,S,g⟩
 refine⟨o,n,m,t,L,⟨k o S.at_,S.ex,S.dat,S.lst,S.tk,S.msk,fun e c=>?_,S.len,S.nd,fun i=>?_⟩,g⟩
 ·obtain⟨i,b,f,d,p⟩:=S.els e c
  exact⟨i,b,f,d.stay hs,p⟩
 ·rw[S.mem]
  constructor
  ·rintro⟨e,c,b,f,d⟩
   exact⟨e,c,b,f,d.stay hs⟩
  ·rintro⟨e,c,b,f,d⟩
   obtain⟨q,r,j,l,_⟩:=S.els e c;rw[f]at j
   cases j
   have  := Vm d (l.stay hs)
   grind
section
variable {P:u6}{w:World}{A:t_}
theorem Bn4 {J S:Addr}{fp h:v6}{u:Array GenState->Array GenState->Prop}{n:Nat}{Pv:Nat->Value->Prop}{K:Nat->u_->Prop}{R:Result->u_->Prop}(W:WalksS P w A.in1 J fp h u n Pv K)(G:S∉fp)(hu:A.units+12<cLine)(z:u_)
 (hJ:∀i s,K i s->∀b∈h,∀o,s.heap.get? b=some o->o.cls≠.type "tuple") (hz:∀b∈S::h,∀o,z.heap.get? b=some o->o.cls≠.type "tuple")
 (ks:w5) (l:ks.length=n) (is:∀i v,Pv i v->∃k b,ks[i]?=some k/\v=.ref b/\isKeyT z.heap k b) (few:n+1<=300)
 (T:∀s,Moved (S::h) u z s->setT w s.heap S (dst ks)->R (.ok (.ret .none)) s) :
 ∀(m i:Nat) (s:u_),i+m=n->K i s->Moved (S::h) u z s->setT w s.heap S (dst (ks.take i))->codeAny (model P w) A (.builtin "set.update.loop" ⟨[.ref S,.ref J],[]⟩) R s:=by
 have p:S∉h:=fun q=>G (W.sub S q)
 have j:∀b,b∈h->b∈S::h:=fun b q=>.tail _ q
 have B:∀s,Moved (S::h) u z s->StT z.heap s.heap:=fun s r a o e c=>r.heap a o (fun q=>hz a q o e c) e
 have g:∀i s f,K i s->Moved h u s f->StT s.heap f.heap:=fun i s f C r a o e c=>r.heap a o (fun q=>hJ i s C a q o e c) e
 intro m
 induction m with
 | zero =>
  intro i s e C r N;have e:i=n:=e;subst e;apply codeAny_builtin eZ;rw[Around.under_plainId dF _];apply wpAny_bind (m:=pyNext (.ref J));apply W.done s _ _ C;intro f d;apply wpAny_pure
  refine T f (Moved.trans W.gtrans r (d.mono j)) ?_
  have t:ks.take i=ks:=by rw[<- l];exact e_
  rw[t]at N
  exact N.stay (g _ _ _ C d) fun o q=>d.heap S o p q
 | succ m ih =>
  intro i s e C r N
  have hi:i<n:=by omega
  apply codeAny_builtin eZ;rw[Around.under_plainId dF _];apply wpAny_bind (m:=pyNext (.ref J));apply W.item i s _ _ hi C;intro v f pv F d;obtain⟨k,b,hk,rfl,kv⟩:=is i v pv
  have H:=N.stay (g _ _ _ C d) fun o q=>d.heap S o p q
  have D:Moved (S::h) u z f:=Moved.trans W.gtrans r (d.mono j);have L:=kv.stay (B f D)
  show wpAny _ A.in1 (holding [Value.ref b] (setAdd S (.ref b)) >>= _) _ _ f
  apply wpAny_bind;apply wpAny_holding;unfold setAdd;apply wpAny_holding;apply wpAny_bind
  have I:A.in1.units+8<cLine:=aQ (bw (show 1+8<=12 by decide) A.units) hu
  refine (Dw P w).pyHash (k:=k) I L ?_
  have M:(dst (ks.take i)).length+1<=300:=by
   have:=Ot _ (ks.take i) rfl
   have:(ks.take i).length<=n:=by rw[<- l];exact List.length_take_le' _ _
   omega
  have Z:ks.take (i+1)=ks.take i++[k]:=by rw[List.take_add_one,hk];rfl
  have go:∀(E:Nat),f.toks<=E->wpAny (model P w) A.in1 (setAddHashed S (.ref b) (Ca w k)) (fun _ O=>Moved (S::h) u z O/\setT w O.heap S (dst (ks.take (i+1)))/\K (i+1) O) (fun _ _=>False) { f with toks:=E }:=by
   intro E Q
   refine A5t (s:={ f with toks:=E }) I H L M (fun X=>?_) fun X h2 sb so=>?_
   ·refine⟨Moved.then_heap D Q fun b o q x=>x,?_,W.frame (i+1) f f.heap E F Q fun b q o x=>x⟩
    rw[Z,Lg];unfold Lj;rw[if_pos (memB_iff.mpr X)];exact H
   ·refine⟨Moved.then_heap D Q fun b o q x=>?_,?_,W.frame (i+1) f h2 E F Q fun b q o x=>?_⟩
    ·rw[sb.2 b fun y=>q (y▸.head _)];exact x
    ·rw[Z,Lg]
     unfold Lj
     rw[if_neg (fun z=>X (memB_iff.mp z))]
     exact so
    ·rw[sb.2 b fun y=>G (y▸q)];exact x
  refine wpAny_mono (go _ (c7 _ _)) (fun b O y=>?_) fun _ _ q=>q.elim
  obtain⟨U,Y,V⟩:=y
  exact wpAny_pure ⟨plainId_quiet dF _,ih _ _ (by omega) V U Y⟩
theorem Ai3 {h:Heap}{a:Addr}{led:Bool}(e:h.get? a=some (bare led)):setT w h a [] :=
 ⟨_,_,_,_,[],⟨e,⟨rfl,rfl,rfl⟩,rfl,rfl,⟨rfl,rfl,.nil,(fun e b=>nomatch b),(fun e b=>nomatch b),Bm3,aB _⟩,.inl rfl,fun e b=>by simp_all,rfl,.nil,fun k=>by simp⟩,by show 0*5<7*3;decide⟩
theorem B3c (q:Value.type "list_iterator" = Value.type "tuple"):False:=by grind
theorem B1p (q:Value.type "set" = Value.type "tuple"):False:=by grind
theorem A2u {s:u_}{l:Addr}{d:w6}{ks:w5}{Q:z_}{E:z_}(h:A.handled=none)(hu:A.units+20<cLine)(hl:s.heap.IsList l d.toArray)
 (is:∀(i:Nat) (v:Value),d[i]?=some v->∃k b,ks[i]?=some k/\v=.ref b/\isKeyT s.heap k b) (hlen:ks.length=d.length) (few:d.length+1<=300)
 (fin:∀f tk,setT w f s.heap.objs.size (dst ks)->(∀b o,s.heap.get? b=some o->f.get? b=some o)->Q (.ref s.heap.objs.size) { s with heap:=f,toks:=tk }) :
 wpAny (model P w) A (call (.type "set") [.ref l]) Q E s:=by
 refine Vq (fun z=>∃f tk,z={ s with heap:=f,toks:=tk }/\setT w f s.heap.objs.size (dst ks)/\∀b o,s.heap.get? b=some o->f.get? b=some o) ?_ fun a=>?_
 ·rintro z ⟨f,tk,rfl,q1,q2⟩
  exact fin f tk q1 q2
 have hl2:(Cy s a).heap.IsList l d.toArray:=hl.push _;obtain⟨ob,g1,g2,n,g3⟩:=hl2;obtain⟨_,dct,_,sls⟩:=ob
 dsimp only at g2 g3
 subst g2 g3;have w1:=F.sub_list_set;have w2:=F.sub_list_frozenset
 have w3:(Value.type "list" == Value.type "dict")=false:=by decide
 have hl3:(Cy s a).heap.IsList l d.toArray:=⟨_,g1,rfl,n,rfl⟩;unfold Builtin.«set.__init__» Builtin.Frozenset.updateFrom noKeywords;generalize walk:pyIter=itr
 wp_walk
 subst walk;apply wpAny_pyIter_list hl3;apply wpAny_bind;apply wpAny_runValue
 have lt:l<s.heap.objs.size:=by obtain⟨o,e,_⟩:=hl;exact Heap.lt_size e
 have sz:(Cy s a).heap.objs.size=s.heap.objs.size+1:=Heap.size_push _ _
 have g:A.in1.in1.in1.handled=none:=by simp[h]
 have r:l≠(Cy s a).heap.objs.size:=by rw[sz];exact aC (bW lt)
 have wk:=(Walks.list (prog:=P) (w:=w) g _ l r d.toArray).toS;have new:((Cy s a).heap.push { cls:=.type "list_iterator",data:=.fields #[.ref l,.int 0 0] }).get? s.heap.objs.size=some (bare a):=Heap.get?_push_of_some _ (Mh s a)
 have old:StT s.heap ((Cy s a).heap.push { cls:=.type "list_iterator",data:=.fields #[.ref l,.int 0 0] }):=fun b o q _=>Heap.get?_push_of_some _ (Heap.get?_push_of_some _ q)
 refine Bn4 wk (S:=s.heap.objs.size) ?_ (aQ (bw (show 2+12<=20 by decide) A.units) hu) { (Cy s a) with heap:=(Cy s a).heap.push { cls:=.type "list_iterator",data:=.fields #[.ref l,.int 0 0] } } ?_ ?_ ks (by simpa using hlen) (fun i v p=>let ⟨k,b,q1,q2,q3⟩:=is i v (by simpa using p); ⟨k,b,q1,q2,q3.stay old⟩) (by simpa using few) ?_ d.length 0 _ (by simp) ⟨⟨_,Heap.get?_push_size _ rfl,rfl,rfl⟩,hl3.push _⟩ (Moved.refl wk.grefl) (Ai3 new)
 ·rw[sz]
  intro q
  rcases az.mp q with q | q
  ·exact aC (cL _) q
  ·exact bB lt (aG.mp q)
 ·intro i s2 st b j o e c
  obtain⟨⟨o',e1,e2,_⟩,_⟩:=st;rw[aG.mp j]at e;rw[e1]at e;cases e;exact B3c (e2.symm.trans c)
 ·intro b j o e c
  rcases az.mp j with j | j
  ·rw[j]at e
   rw[show _=some (bare a) from new]at e;cases e
   exact B1p c
  ·rw[aG.mp j]at e
   rw[show _=some _ from Heap.get?_push_size (Cy s a).heap rfl]at e;cases e
   exact B3c c
 ·intro z mv sh
  obtain⟨f,g',d',t',o'⟩:=z;have e1:g'=s.gens:=mv.gens;have e2:d'=s.drawn:=mv.drawn;have e3:o'=s.os:=mv.os;subst e1 e2 e3;apply wpAny_pure
  show wpAny _ _ (ret Value.none) _ _ _
  refine wpAny_pure ⟨rfl,f,t',rfl,sh,fun b o q=>mv.heap b o ?_ (Heap.get?_push_of_some _ (Heap.get?_push_of_some _ q))⟩
  have bl:=Heap.lt_size q;intro m
  rcases az.mp m with m | m
  ·exact aC bl m
  ·have m:=aG.mp m
   rw[sz]at m;exact aC (bW bl) m
end
section
variable {P:u6}{w:World}{A:t_}
theorem B2n (q:Value.type "tuple_iterator" = Value.type "tuple"):False:=by grind
theorem At6 {s:u_}{l:Addr}{d:w6}{ks:w5}{Q:z_}{E:z_}(h:A.handled=none)(hu:A.units+20<cLine)(hl:s.heap.IsTuple l d.toArray)
 (is:∀(i:Nat) (v:Value),d[i]?=some v->∃k b,ks[i]?=some k/\v=.ref b/\isKeyT s.heap k b) (hlen:ks.length=d.length) (few:d.length+1<=300)
 (fin:∀f tk,setT w f s.heap.objs.size (dst ks)->(∀b o,s.heap.get? b=some o->f.get? b=some o)->Q (.ref s.heap.objs.size) { s with heap:=f,toks:=tk }) :
 wpAny (model P w) A (call (.type "set") [.ref l]) Q E s:=by
 refine Vq (fun z=>∃f tk,z={ s with heap:=f,toks:=tk }/\setT w f s.heap.objs.size (dst ks)/\∀b o,s.heap.get? b=some o->f.get? b=some o) ?_ fun a=>?_
 ·rintro z ⟨f,tk,rfl,q1,q2⟩
  exact fin f tk q1 q2
 have hl2:(Cy s a).heap.IsTuple l d.toArray:=hl.push _;obtain⟨ob,g1,g2,n,g3⟩:=hl2;obtain⟨_,dct,_,sls⟩:=ob
 dsimp only at g2 g3
 subst g2 g3;have w1:=F.sub_tuple_set;have w2:=F.sub_tuple_frozenset
 have w3:(Value.type "tuple" == Value.type "dict")=false:=by decide
 have hl3:(Cy s a).heap.IsTuple l d.toArray:=⟨_,g1,rfl,n,rfl⟩;unfold Builtin.«set.__init__» Builtin.Frozenset.updateFrom noKeywords;generalize walk:pyIter=itr
 wp_walk
 subst walk;apply wpAny_pyIter_tuple hl3;apply wpAny_bind;apply wpAny_runValue
 have lt:l<s.heap.objs.size:=by obtain⟨o,e,_⟩:=hl;exact Heap.lt_size e
 have sz:(Cy s a).heap.objs.size=s.heap.objs.size+1:=Heap.size_push _ _
 have g:A.in1.in1.in1.handled=none:=by simp[h]
 have apart:l≠(Cy s a).heap.objs.size:=by rw[sz];exact aC (bW lt)
 have wk:=(Walks.tuple (prog:=P) (w:=w) g _ l apart d.toArray).toS;have new:((Cy s a).heap.push { cls:=.type "tuple_iterator",data:=.fields #[.ref l,.int 0 0] }).get? s.heap.objs.size=some (bare a):=Heap.get?_push_of_some _ (Mh s a)
 have old:StT s.heap ((Cy s a).heap.push { cls:=.type "tuple_iterator",data:=.fields #[.ref l,.int 0 0] }):=fun b o q _=>Heap.get?_push_of_some _ (Heap.get?_push_of_some _ q)
 refine Bn4 wk (S:=s.heap.objs.size) ?_ (aQ (bw (show 2+12<=20 by decide) A.units) hu) { (Cy s a) with heap:=(Cy s a).heap.push { cls:=.type "tuple_iterator",data:=.fields #[.ref l,.int 0 0] } } ?_ ?_ ks (by simpa using hlen) (fun i v p=>let ⟨k,b,q1,q2,q3⟩:=is i v (by simpa using p); ⟨k,b,q1,q2,q3.stay old⟩) (by simpa using few) ?_ d.length 0 _ (by simp) ⟨⟨_,Heap.get?_push_size _ rfl,rfl,rfl⟩,hl3.push _⟩ (Moved.refl wk.grefl) (Ai3 new)
 ·rw[sz]
  intro q
  rcases az.mp q with q | q
  ·exact aC (cL _) q
  ·exact bB lt (aG.mp q)
 ·intro i s2 st b j o e c
  obtain⟨⟨o',e1,e2,_⟩,_⟩:=st;rw[aG.mp j]at e;rw[e1]at e;cases e;exact B2n (e2.symm.trans c)
 ·intro b j o e c
  rcases az.mp j with j | j
  ·rw[j]at e
   rw[show _=some (bare a) from new]at e;cases e
   exact B1p c
  ·rw[aG.mp j]at e
   rw[show _=some _ from Heap.get?_push_size (Cy s a).heap rfl]at e;cases e
   exact B2n c
 ·intro z mv sh
  obtain⟨f,g',d',t',o'⟩:=z;have e1:g'=s.gens:=mv.gens;have e2:d'=s.drawn:=mv.drawn;have e3:o'=s.os:=mv.os;subst e1 e2 e3;apply wpAny_pure
  show wpAny _ _ (ret Value.none) _ _ _
  refine wpAny_pure ⟨rfl,f,t',rfl,sh,fun b o q=>mv.heap b o ?_ (Heap.get?_push_of_some _ (Heap.get?_push_of_some _ q))⟩
  have bl:=Heap.lt_size q;intro m
  rcases az.mp m with m | m
  ·exact aC bl m
  ·have m:=aG.mp m
   rw[sz]at m;exact aC (bW bl) m
end
def A4z (a:Addr)(n:Nat)(h:Heap):Prop:=∃o es ep t,h.get? a=some o/\o.ExactSet/\o.data=.set es ep t/\t.fits es.size=true/\es.size=n
theorem A1o {a:Addr}{n:Nat}{h h':Heap}(x:A4z a n h)(k:∀o,h.get? a=some o->h'.get? a=some o):A4z a n h':=let ⟨o,es,ep,t,e,m⟩:=x; ⟨o,es,ep,t,k o e,m⟩
theorem setT.lenN {w:World}{h:Heap}{a:Addr}{ks:w5}(x:setT w h a ks):A4z a ks.length h:=let ⟨o,es,ep,t,L,S,_⟩:=x; ⟨o,es,ep,t,S.at_,S.ex,S.dat,S.fits.1,S.len.symm⟩
section
variable {X:Cx}
def KTs (H:Hp):n8->w5->Prop:=Paired fun v k=>∃b,v=.ref b/\KAt H k b
def Qc (K:v9):n8->Hp->VK->Prop:=fun xs H Q=>∃(a:Addr) (vs:n8) (ks:w5),xs=[.ref a]/\(SqL K H a vs\/SqT K H a vs)/\KTs H vs ks/\vs.length<300/\∀p,H p=none->Q (.ref p) (upd H p (.ext (A4z p (dst ks).length)))
def K9:n8->Hp->VK->Prop:=fun xs H Q=>∃(p:Addr) (n:Nat),xs=[.ref p]/\H p=some (.ext (A4z p n))/\n<1000/\Q (.int (n:Nat)) H
theorem KTs.at {H:Hp}{h:Heap}{P:u6}{w:World}(f:HOk P w H h){vs:n8}{ks:w5}{a:w6}(r:KTs H vs ks)(c:Vals vs a):∀(i:Nat) (v:Value),a[i]?=some v->∃k b,ks[i]?=some k/\v=.ref b/\isKeyT h k b:=by
 induction r generalizing a with
 | nil=>cases c;grind
 | cons g t ih =>
  cases c with
  | cons r rs =>
   intro i v e
   cases i with
   | zero =>
    obtain⟨b,rfl,d⟩:=g
    cases (r)
    simp  at e
    subst e;exact⟨_,b,rfl,rfl,Af0 f d⟩
   | succ i=>grind
theorem As0 (hc:X.calm=true)(hu:X.A.units+64<cLine):CallR X (.type "set") (Qc X.K):=by
 intro p s σ H xs us Q I r h;obtain⟨a,vs,ks,rfl,f,l,hv,q⟩:=h;obtain⟨u,rfl,z⟩:=vals1 r
 cases (z)
 have d  := Paired.length l
 have i:∀j t,setT X.w j _ _->(∀b o,s.heap.get? b=some o->j.get? b=some o)->_:=fun j t v A =>
  have k  :=
   ⟨v.lenN,let ⟨o,_,_,_,e,_⟩:=v.lenN; ⟨o,e⟩,fun h1 h2 x y=>A1o x y⟩
  (⟨.ref _,_,I.laid (t':=t) A (aj _) k,rfl,q _ (I.hok.fresh (aj _))⟩:EP X _ _ Q _ _)
 have g:X.A.units+20<cLine:=aQ (bw (by decide) _) hu
 rcases f with f | f
 ·obtain⟨m,c,n,w⟩:=I.list f
  exact A2u  (I.ok.hd hc) g n.isList (l.at I.hok c) (by rw[<- d,c.length]) (by rw[<- c.length];omega) i
 ·obtain⟨m,c,n,w⟩:=I.tuple f
  exact At6  (I.ok.hd hc) g (show s.heap.IsTuple a _ from n) (l.at I.hok c) (by rw[<- d,c.length]) (by rw[<- c.length];omega) i
theorem Af1:CallR X (.builtin "len") K9:=by
 intro a s σ H xs us Q I r h;obtain⟨p,n,rfl,d,hn,q⟩:=h;obtain⟨u,rfl,f⟩:=vals1 r
 cases (f)
 obtain⟨⟨o,es,ep,t,e,c,g,i,b⟩,_⟩:=I.hok p _ d
 refine call_len_set e c g i (by omega) ?_
 rw[b];exact⟨.int _,H,I.tok _ |>.tok _,⟨_,rfl⟩,q⟩
theorem Af3 {e:Expr}{c:TE}{p d b a:Pos}(hc:X.calm=true)(hu:X.A.units+64<cLine)(hgs:Gl X "set") (hms:X.mg "set" = none) (hgl:Gl X "len") (hml:X.mg "len" = none) (he:PE X e c) (hns:isStar e=false:=by rfl) :
 PE X (.Call (.Name "len" p) [.Call (.Name "set" d) [e] [] a] [] b) (tCB K9 (Cw (tCB (Qc X.K) (Cw c Gf)) Gf)) :=
 Gy Af1 hgl hml Ar7 (A2n (Hy (As0 hc hu) hgs hms A8e (A2n he Qt hns) (by decide) (by rfl) (by show !isStar e&&true=true;grind)) Qt rfl) (by decide) (by rfl) rfl
theorem Ak6 {Kq:v9}(b:X.K=Kq){e:Expr}{d:TE}{p f c a:Pos}(hc:X.calm=true)(hu:X.A.units+64<cLine)(hgs:Gl X "set") (hms:X.mg "set" = none) (hgl:Gl X "len") (hml:X.mg "len" = none) (he:QE X e d) (hns:isStar e=false:=by rfl):QE X (.Call (.Name "len" p) [.Call (.Name "set" f) [e] [] a] [] c) (tCB K9 (Cw (tCB (Qc Kq) (Cw d Gf)) Gf)):=by
 subst b;exact⟨Af3 (hc:=hc) (hu:=hu) (hgs:=hgs) (hms:=hms) (hgl:=hgl) (hml:=hml) (he:=he.get) (hns:=hns)⟩
end
end L2
namespace U
open PySem L2
inductive Th where
 | nm (T:String)
 | dc (ks:v4) (ds:w5)
 | dt (ks ds:w5)
 | ds (ks ds:w5)
 | td (xs ks ds:w5)
 | xc (nm:Str)
inductive O where
 | im (d:t6)
 | ls (b:Bool) (ds:w5)
 | sc (ns:List Int)
 | ty (T:Th)
abbrev n7:=Option O
abbrev n6:=List (n7)
abbrev Ev:=n6
inductive PV where
 | o (o:O)
 | sl (i:Nat)
inductive R (α:Type) where
 | ok (a:α) (c:Ev)
 | bad
abbrev o7:=Ev->R PV
abbrev o6:=Ev->R Bool
abbrev p_:=PV->Ev->R Unit
abbrev o5:=Ev->R (List PV)
abbrev o4:=Ev->R (w5)
def R.bind {α β:Type}(r:R α)(k:α->Ev->R β):R β:=match r with
 | .ok a c=>k a c
 | .bad=>.bad
def R.sat {α:Type}(r:R α)(φ:α->Ev->Prop):Prop:=match r with
 | .ok a c=>φ a c
 | .bad=>False
theorem R.sat_bind {d e:Type}{r:R d}{k:d->Ev->R e}{b:e->Ev->Prop}:(r.bind k).sat b↔r.sat fun a c=>(k a c).sat b:=by cases r <;> exact Iff.rfl
theorem R.sat.mono {d:Type}{r:R d}{e b:d->Ev->Prop}(h:r.sat e)(f:∀a c,e a c->b a c):r.sat b:=by
 cases r with
 | ok a c=>exact f a c h
 | bad=>exact h
theorem R.sat.bnd {d e:Type}{r:R d}{k:d->Ev->R e}{b:e->Ev->Prop}(h:(r.bind k).sat b):r.sat fun a c=>(k a c).sat b:=R.sat_bind.mp h
def O.bor:O->Bool
 | .ls b _=>b
 | _=>false
def O.own:O->Bool
 | .ls _ _=>true
 | _=>false
def O.dat:O->Option t6
 | .im d=>some d
 | .ls _ ds=>some (.list ds)
 | _=>none
def O.flag (b:Bool):O->O
 | .ls _ ds=>.ls b ds
 | o=>o
def nrm:PV->PV
 | .o (.ls _ ds)=>.o (.im (.list ds))
 | p=>p
def rdP (c:Ev):PV->n7
 | .o o=>some o
 | .sl i=>(c[i]?).join
def Es (c:Ev)(p:PV):Option t6:=(rdP c p).bind O.dat
structure Wo where
 Hf:Hp
 H:Hp
 fps:Nat->v6
def Wo.S (W:Wo):Addr->Prop:=fun a=>∃i,a∈W.fps i
def RepT (K:v9)(Hf:Hp):Th->V->Prop
 | .nm T,v=>v=.ty T
 | .dc ks ds,v=>∃a xs,v=.ref a/\Hf a=some (.dK (B4c ks xs))/\TrL Hf ds xs
 | .dt ks ds,v=>∃a xs,v=.ref a/\Rd Hf a (.dT (ks.zip xs))/\TrL Hf ds xs/\ks.length=xs.length
 | .ds ks ds,v=>∃a o xs,v=.ref a/\Hf a=some (.frz o (.dT (ks.zip xs)))/\TrL Hf ds xs/\ks.length=xs.length
 | .td es ks ds,v=>∃a us b o xs,v=.ref a/\Hf a=some (.tup (us++[.ref b]))/\TrL Hf es us/\Hf b=some (.frz o (.dT (ks.zip xs)))/\TrL Hf ds xs/\ks.length=xs.length
 | .xc nm,v=>∃a C,v=.ref a/\PySem.W.nsIn K mainGlobals nm=some (some (.ref C))/\Hf a=some (B3t a C)
theorem Ae2 {Hf b:Hp}(S:Same Hf b){a:Addr}{u:HO}(h:Rd Hf a u):Rd b a u:=h.imp (fun h=>S _ _ h) fun⟨o,h⟩=>⟨o,S _ _ h⟩
theorem RepT.same {K:v9}{Hf Hf':Hp}(S:Same Hf Hf'):∀{t:Th}{v:V},RepT K Hf t v->RepT K Hf' t v
 | .nm T,_,h=>h
 | .dc ks ds,_,⟨a,xs,e,h,t⟩=>⟨a,xs,e,S _ _ h,TrL.same S t⟩
 | .dt ks ds,_,⟨a,xs,e,h,t,l⟩=>⟨a,xs,e,Ae2 S h,TrL.same S t,l⟩
 | .ds ks ds,_,⟨a,o,xs,e,h,t,l⟩=>⟨a,o,xs,e,S _ _ h,TrL.same S t,l⟩
 | .td es ks ds,_,⟨a,us,b,o,xs,e,h,t,h2,t2,l⟩=>⟨a,us,b,o,xs,e,S _ _ h,TrL.same S t,S _ _ h2,TrL.same S t2,l⟩
 | .xc nm,_,⟨a,C,e,n,h⟩=>⟨a,C,e,n,S _ _ h⟩
def RepN (K:v9)(Hf:Hp):O->V->Prop
 | .im d,v=>Tr Hf d v
 | .sc ns,v=>∃a,v=.ref a/\SqL K Hf a (ns.map V.int)
 | .ty T,v=>RepT K Hf T v
 | .ls _ _,_=>False
def RepO (K:v9)(Hf H:Hp)(o:O)(v:V)(fp:v6):Prop:=match o with
 | .ls _ ds=>∃a vs,v=.ref a/\fp=[a]/\Hf a=none/\H a=some (.lst vs)/\TrL Hf ds vs
 | o=>fp=[]/\RepN K Hf o v
structure Stp (S:Addr->Prop) (Hf H:Hp) (S':Addr->Prop) (Hf' H':Hp):Prop where
 fz:Same Hf Hf'
 kp:∀a o,H a=some o->¬ S a->H' a=some o
 nf:∀a o,H a=some o->Mut (some o)->¬ S a->Hf a=none->Hf' a=none
 fr:∀a,S' a->S a\/H a=none
structure Rep (K:v9) (β:Nat->V) (W:Wo) (c:Ev) (σ:St):Prop where
 sub:Same W.Hf W.H
 len:c.length=σ.length
 get:∀i o,c[i]?=some (some o)->∃v,σ[i]?=some (some v)/\RepO K W.Hf W.H o v (W.fps i)/\(o.bor=true->v=β i)
 dis:∀i j a,a∈W.fps i->a∈W.fps j->i=j
 own:∀i a,a∈W.fps i->W.Hf a=none/\∃o,W.H a=some o/\Mut (some o)
def Gu (K:v9)(W:Wo)(σ:St):PV->V->v6->Prop
 | .o o,v,fp=>RepO K W.Hf W.H o v fp/\∀a∈fp,¬ W.S a
 | .sl i,v,fp=>fp=[]/\σ[i]?=some (some v)
def RepA (K:v9)(Hf:Hp)(σ:St):PV->V->Prop
 | .o o,v=>RepN K Hf o v
 | .sl i,v=>σ[i]?=some (some v)
def zE (K:v9)(Hf:Hp)(σ:St):List PV->n8->Prop
 | [],vs=>vs=[]
 | p::ps,vs=>∃v r,vs=v::r/\RepA K Hf σ p v/\zE K Hf σ ps r
abbrev orS (S:Addr->Prop)(fp:v6):Addr->Prop:=fun a=>S a\/a∈fp
section
variable {K:v9}{β:Nat->V}{W W':Wo}{c c':Ev}{σ:St}{Hf Hf' Hf2 H H' H2:Hp}{o:O}{v:V}{fp:v6}{S S' S2:Addr->Prop}{p:PV}{a:Addr}
theorem Stp.refl:Stp S Hf H S Hf H:=⟨fun _ _ h=>h,fun _ _ h _=>h,fun _ _ _ _ _ h=>h,fun _ h=>.inl h⟩
theorem Stp.trans (x:Stp S Hf H S' Hf' H')(y:Stp S' Hf' H' S2 Hf2 H2):Stp S Hf H S2 Hf2 H2:=by
 have b:∀a o,H a=some o->¬ S a->¬ S' a:=fun a o h n z=>by
  rcases x.fr a z with q | q
  ·trivial
  simp_all
 refine⟨x.fz.trans y.fz,fun a o h n=>y.kp a o (x.kp a o h n) (b a o h n),fun a o h c n q=>y.nf a o (x.kp a o h n) c (b a o h n) (x.nf a o h c n q),fun a h=>?_⟩
 rcases y.fr a h with q | q
 ·exact x.fr a q
 ·cases e:H a with
  | none=>simp_all
  | some o =>
   by_cases n:S a
   ·grind
   ·rw[x.kp a o e n]at q;grind
theorem Stp.less (x:Stp S Hf H S' Hf' H')(h:∀a,S2 a->S' a):Stp S Hf H S2 Hf' H':=⟨x.fz,x.kp,x.nf,fun a q=>x.fr a (h a q)⟩
theorem Stp.more {F:Addr->Prop}(x:Stp S Hf H S' Hf' H'):Stp (fun a=>S a\/F a) Hf H (fun a=>S' a\/F a) Hf' H' :=
 ⟨x.fz,fun a o h n=>x.kp a o h fun z=>n (.inl z),fun a o h b n q=>x.nf a o h b (fun z=>n (.inl z)) q,fun a q=>by
  rcases q with q | q
  ·rcases x.fr a q with z | z
   ·simp_all
   grind
  simp_all⟩
theorem Stp.up (x:Stp S Hf H S' Hf' H')(h:∀a,S a->S2 a):Stp S2 Hf H S' Hf' H' :=
 ⟨x.fz,fun a o e n=>x.kp a o e fun z=>n (h a z),fun a o e b n q=>x.nf a o e b (fun z=>n (h a z)) q,fun a q=>(x.fr a q).imp (h a) id⟩
theorem RepN.same (S:Same Hf Hf'):∀{o:O}{v:V},RepN K Hf o v->RepN K Hf' o v
 | .im d,_,h=>Tr.same S h
 | .sc ns,_,⟨a,e,h⟩=>⟨a,e,Same.seq S h⟩
 | .ty T,_,h=>RepT.same S h
 | .ls _ _,_,h=>h
theorem RepA.same (S:Same Hf Hf'):∀{p:PV}{v:V},RepA K Hf σ p v->RepA K Hf' σ p v
 | .o _,_,h=>RepN.same S h
 | .sl _,_,h=>h
theorem zE.same (S:Same Hf Hf'):∀{ps:List PV}{vs:n8},zE K Hf σ ps vs->zE K Hf' σ ps vs
 | [],_,h=>h
 | p::ps,_,⟨v,r,e,h,t⟩=>⟨v,r,e,RepA.same S h,zE.same S t⟩
theorem RepO.mono (h:RepO K Hf H o v fp)(S:Same Hf Hf')(h1:∀a∈fp,Hf' a=none/\H' a=H a):RepO K Hf' H' o v fp:=by
 cases o with
 | ls b ds =>
  obtain⟨a,f,rfl,rfl,q,e,t⟩:=h;obtain⟨c,g⟩:=h1 a (.head _);exact⟨a,f,rfl,rfl,c,g.trans e,TrL.same S t⟩
 | im d=>exact⟨h.1,RepN.same S h.2⟩
 | sc ns=>exact⟨h.1,RepN.same S h.2⟩
 | ty T=>exact⟨h.1,RepN.same S h.2⟩
theorem Rep.frame (R:Rep K β W c σ)(S:Same W.Hf Hf')(sub:Same Hf' H')(h:∀a,W.S a->Hf' a=none/\H' a=W.H a):Rep K β ⟨Hf',H',W.fps⟩ c σ :=
 ⟨sub,R.len,fun i o e=>by
  obtain⟨v,f,r,b⟩:=R.get i o e
  exact⟨v,f,r.mono S fun a d=>h a ⟨i,d⟩,b⟩,R.dis,fun i a d=>by
  obtain⟨_,o,q,j⟩:=R.own i a d;obtain⟨k,g⟩:=h a ⟨i,d⟩
  grind⟩
theorem Rep.notS (R:Rep K β W c σ)(h:W.H a=none):¬ W.S a:=fun⟨i,q⟩=>by
 obtain⟨_,o,e,_⟩:=R.own i a q
 grind
theorem Stp.rep (R:Rep K β W c σ)(x:Stp (fun _=>False) W.Hf W.H S' Hf' H')(sub:Same Hf' H'):Rep K β ⟨Hf',H',W.fps⟩ c σ :=
 R.frame x.fz sub fun a d=>by
  obtain⟨i,f⟩:=d;obtain⟨z,o,e,b⟩:=R.own i a f
  exact⟨x.nf a o e b (fun z=>z) z,(x.kp a o e fun z=>z).trans e.symm⟩
theorem Cp {H:Hp}{p:Addr}{o:HO}(h:H p=none):Same H (upd H p o):=fun b u e=>by
 rw[Bb];exact e
 grind
theorem Q4 {o:HO}(s:Same Hf H):Same (upd Hf a o) (upd H a o):=fun b u e=>by
 unfold upd at e ⊢
 split
 ·grind
 ·rename_i z;rw[if_neg z]at e;exact s b u e
theorem Stp.newF {o:HO}(s:Same Hf H)(h:H a=none):Stp (fun _=>False) Hf H (fun _=>False) (upd Hf a o) (upd H a o) :=
 ⟨Cp (Same.free s h),fun b u e _=>Cp h b u e,fun b u e _ _ q=>by rw[Bb (By e h)];grind,fun _ z=>z.elim⟩
theorem Stp.newL {o:HO}(s:Same Hf H)(h:H a=none):Stp (fun _=>False) Hf H (fun b=>b∈[a]) Hf (upd H a o) :=
 ⟨Same.refl _,fun b u e _=>Cp h b u e,fun b u e _ _ q=>q,fun b z=>by
  grind⟩
theorem Z3 {o:HO}(s:Same Hf H)(h:H a=none):Same Hf (upd H a o):=s.trans (Cp h)
def ME (K:v9)(T:TE)(f:o7):Prop:=∀(β:Nat->V) (W:Wo) (c:Ev) (σ:St) (Q:VK),Rep K β W c σ ->
 (f c).sat (fun p c'=>∀v W' fp,Stp W.S W.Hf W.H (orS W'.S fp) W'.Hf W'.H->Rep K β W' c' σ->Gu K W' σ p v fp->Q v W'.H)->T σ W.H Q
def MV (K:v9)(T:TE)(f:o7):Prop:=∀(β:Nat->V) (W:Wo) (c:Ev) (σ:St) (Q:VK),Rep K β W c σ ->
 (f c).sat (fun p c'=>∀v W',Stp W.S W.Hf W.H W'.S W'.Hf W'.H->Rep K β W' c' σ->RepA K W'.Hf σ (nrm p) v->Q v W'.H)->T σ W.H Q
def MA (K:v9)(T:TA)(f:o5):Prop:=∀(β:Nat->V) (W:Wo) (c:Ev) (σ:St) (Q:n8->Hp->Prop),Rep K β W c σ ->
 (f c).sat (fun ps c'=>∀vs W',Stp W.S W.Hf W.H W'.S W'.Hf W'.H->Rep K β W' c' σ->zE K W'.Hf σ ps vs->Q vs W'.H)->T σ W.H Q
def MT (K:v9)(T:TT)(f:o6):Prop:=∀(β:Nat->V) (W:Wo) (c:Ev) (σ:St) (Q:Bool->Hp->Prop),Rep K β W c σ ->
 (f c).sat (fun b c'=>∀W',Stp W.S W.Hf W.H W'.S W'.Hf W'.H->Rep K β W' c' σ->Q b W'.H)->T σ W.H Q
theorem Ac3 {vs:n8}(R:Rep K β W c σ)(hf:W.Hf a=none)(h:W.H a=some (.lst vs))(hn:¬ W.S a):Rep K β ⟨upd W.Hf a (.lst vs),W.H,W.fps⟩ c σ :=
 R.frame (Cp hf) (fun b u e=>by
  unfold upd at e
  split at e
  ·grind
  ·exact R.sub b u e) fun b f=>by
   obtain⟨i,g⟩:=f
   have d:b≠a:=fun z=>hn ⟨i,by simp_all⟩
   exact⟨by rw[Bb d];exact(R.own i b g).1,rfl⟩
theorem Bm9 {p:PV}{Q:VK}{c':Ev}(k:∀v c,Stp W.S W.Hf W.H c.S c.Hf c.H->Rep K β c c' σ->RepA K c.Hf σ (nrm p) v->Q v c.H)(v:V)(c:Wo)(fp:v6)(st:Stp W.S W.Hf W.H (orS c.S fp) c.Hf c.H)(g:Rep K β c c' σ)(f:Gu K c σ p v fp):Q v c.H:=by
 cases p with
 | sl i =>
  obtain⟨rfl,e⟩:=f
  exact k v _ (st.less fun a z=>.inl z) g e
 | o o =>
  cases o with
  | im d =>
   obtain⟨⟨rfl,e⟩,_⟩:=f
   exact k v _ (st.less fun a z=>.inl z) g e
  | sc d =>
   obtain⟨⟨rfl,e⟩,_⟩:=f
   exact k v _ (st.less fun a z=>.inl z) g e
  | ty d =>
   obtain⟨⟨rfl,e⟩,_⟩:=f
   exact k v _ (st.less fun a z=>.inl z) g e
  | ls b ds =>
   obtain⟨⟨a,l,rfl,rfl,h,r,t⟩,m⟩:=f
   refine k _ ⟨upd _ a _,c.H,c.fps⟩ ⟨st.fz.trans (Cp h),st.kp,fun b o e s n q=>?_,fun b z=>st.fr b (.inl z)⟩ (Ac3 g h r (m a (.head _))) ?_
   ·have j:b≠a:=fun z=>by
     rcases st.fr a (.inr (.head _)) with y | y
     ·grind
     simp_all
    show upd _ a _ b=none
    rw[Bb j];exact st.nf b o e s n q
   ·exact⟨a,l,rfl,Cq,TrL.same (Cp h) t⟩
theorem ME.toV {T:TE}{f:o7}(h:ME K T f):MV K T f:=fun e W c j Q R s=>h _ W c _ Q R (s.mono fun p l k v g i a d b=>Bm9 k v _ _ a d b)
end
def RdV (Hf H:Hp):t6->V->Prop
 | .list ds,v=>∃a vs,v=.ref a/\H a=some (.lst vs)/\TrL Hf ds vs
 | d,v=>Tr Hf d v
section
variable {K:v9}{β:Nat->V}{W W':Wo}{c c':Ev}{σ:St}{Hf Hf' Hf2 H H' H2:Hp}{o:O}{v:V}{fp:v6}{S S' S2:Addr->Prop}{p:PV}{a:Addr}{d:t6}
theorem RdV.of (s:Same Hf H)(h:Tr Hf d v):RdV Hf H d v:=by
 cases d with
 | list f=>obtain⟨a,c,e,q,t⟩:=h;exact⟨a,c,e,s _ _ q,t⟩
 | none=>exact h
 | bool b=>exact h
 | int i=>exact h
 | str x=>exact h
 | tuple f=>exact h
 | dict k=>exact h
theorem RdV.tr (s:Same Hf H)(h:RdV Hf H d v):Tr H d v:=by
 cases d with
 | list f=>obtain⟨a,c,e,q,t⟩:=h;exact⟨a,c,e,q,TrL.same s t⟩
 | none=>exact h
 | bool b=>exact h
 | int i=>exact h
 | str x=>exact h
 | tuple f=>exact Tr.same s h
 | dict k=>trivial
theorem Fz (R:Rep K β W c σ)(h:RepA K W.Hf σ p v)(e:Es c p=some d):RdV W.Hf W.H d v:=by
 cases p with
 | o o =>
  cases o with
  | im m=>cases (show some _=some d from e);exact .of R.sub h
  | ls b n=>trivial
  | sc k=>trivial
  | ty T=>trivial
 | sl i =>
  have l:(c[i]?.join).bind _=some d:=e;obtain⟨o,g,f⟩:=bZ.mp l
  have g:c[i]?=some (some o):=by
   grind
  obtain⟨u,s,r,_⟩:=R.get i o g
  cases (show some _=some _ from s.symm.trans h)
  cases o with
  | im m=>cases (show some _=some d from f);exact .of R.sub r.2
  | ls b n =>
   cases (show some _=some d from f)
   obtain⟨a,j,e,_,_,q,t⟩:=r;exact⟨a,j,e,q,t⟩
  | sc k=>trivial
  | ty T=>trivial
def Bu4 (Hf H:Hp):w5->n8->Prop
 | [],vs=>vs=[]
 | d::ds,vs=>∃v r,vs=v::r/\RdV Hf H d v/\Bu4 Hf H ds r
abbrev New (K:v9)(Hf H:Hp)(o:O)(Q:VK):Prop:=∀v Hf' H' fp,Stp (fun _=>False) Hf H (fun a=>a∈fp) Hf' H'->Same Hf' H'->RepO K Hf' H' o v fp->Q v H'
def OpS (K:v9)(r:R2)(op:t6->t6->n7):Prop:=∀(Hf H:Hp) (x y:V) (dx dy:t6) (o:O) (Q:VK),Same Hf H->RdV Hf H dx x->RdV Hf H dy y->op dx dy=some o->New K Hf H o Q->r x y H Q
def B1c (K:v9)(r:n8->Hp->VK->Prop)(op:w5->n7):Prop:=∀(Hf H:Hp) (xs:n8) (ds:w5) (o:O) (Q:VK),Same Hf H->Bu4 Hf H ds xs->op ds=some o->New K Hf H o Q->r xs H Q
theorem New.same {Q:VK}(h:New K Hf H (.im d) Q)(s:Same Hf H){v:V}(t:Tr Hf d v):Q v H:=h v _ H [] (Stp.refl.less fun a z=>nomatch z) s ⟨rfl,t⟩
theorem New.tup {Q:VK}{ds:w5}{vs:n8}(h:New K Hf H (.im (.tuple ds)) Q)(s:Same Hf H)(t:TrL Hf ds vs){p:Addr}(hp:H p=none):Q (.ref p) (upd H p (.tup vs)) :=
 h _ _ _ [] ((Stp.newF s hp).less fun a z=>nomatch z) (Q4 s) ⟨rfl,p,vs,rfl,Cq,TrL.same (Cp (Same.free s hp)) t⟩
theorem New.lst {Q:VK}{ds:w5}{vs:n8}(h:New K Hf H (.ls false ds) Q)(s:Same Hf H)(t:TrL Hf ds vs){p:Addr}(hp:H p=none):Q (.ref p) (upd H p (.lst vs)) :=
 h _ _ _ _ (Stp.newL s hp) (Z3 s hp) ⟨p,vs,rfl,rfl,Same.free s hp,Cq,t⟩
theorem New.of {Q:VK}(R:Rep K β W c σ)(k:∀v W' d,Stp W.S W.Hf W.H (orS W'.S d) W'.Hf W'.H->Rep K β W' c σ->Gu K W' σ (.o o) v d->Q v W'.H):New K W.Hf W.H o Q:=by
 intro v h j d b f r
 refine k v _ _ ⟨b.fz,fun a o e _=>b.kp a o e fun z=>z,fun a o e i _ q=>b.nf a o e i (fun z=>z) q,fun a z=>?_⟩ (b.rep R f) ⟨r,fun a g z=>?_⟩
 ·rcases z with z | z
  ·exact .inl z
  ·rcases b.fr a z with y | y
   ·trivial
   grind
 ·rcases b.fr a g with y | y
  ·omega
  ·exact R.notS y z
def cOp (op:t6->t6->n7)(fa fb:o7):o7:=fun c=>(fa c).bind fun p c=>(fb c).bind fun q c =>
 match Es c (nrm p),Es c (nrm q) with
 | some x,some y=>match op x y with
  | some o=>.ok (.o o) c
  | none=>.bad
 | _,_=>.bad
theorem Aj {r:R2}{op:t6->t6->n7}{g f:TE}{fa fb:o7}(ha:ME K g fa)(hb:ME K f fb)(hr:OpS K r op):ME K (tOp r g f) (cOp op fa fb):=by
 intro β W c σ Q R s
 refine ha.toV _ W c _ _ R (s.bnd.mono fun p c1 l v1 W1 d i j=>?_)
 refine hb.toV _ _ _ _ _ i (l.bnd.mono fun q e a v2 W2 b R2 k=>?_)
 cases ex:Es e (nrm p) with
 | none=>simp only[ex]at a;trivial
 | some x =>
  cases ey:Es e (nrm q) with
  | none=>simp only[ex,ey]at a;trivial
  | some y =>
   simp only[ex,ey]at a
   cases eo:op x y with
   | none=>simp only[eo]at a;trivial
   | some o =>
    simp only[eo]at a
    exact hr _ _ _ _ x y o Q R2.sub (Fz R2 (RepA.same b.fz j) ex) (Fz R2 k ey) eo (New.of R2 fun v W' fp m n h=>a v _ _ (d.trans (b.trans m)) n h)
def Al:o5:=fun c=>.ok [] c
def Ad (f:o7)(fr:o5):o5:=fun c=>(f c).bind fun p c=>(fr c).bind fun ps c=>.ok (nrm p::ps) c
def cK (ds:w5):o5:=fun c=>.ok (ds.map fun d=>.o (.im d)) c
theorem Ah:MA K Gf Al:=fun b W c a Q R s=>s _ W Stp.refl R rfl
theorem Ab {d:TE}{e:TA}{fa:o7}{f:o5}(ha:ME K d fa)(hr:MA K e f):MA K (Cw d e) (Ad fa f):=by
 intro t W c v Q R s
 refine ha.toV _ W c _ _ R (s.bnd.mono fun p o i j r b h g=>?_)
 refine hr _ _ _ _ _ h (i.bnd.mono fun w q m l u a n k=>?_)
 exact m _ _ (b.trans a) n ⟨j,l,rfl,RepA.same a.fz g,k⟩
def Ac (i:Nat):o7:=fun c=>match c[i]? with
 | some (some (.ls _ _))=>.ok (.sl i) c
 | some (some o)=>.ok (.o o) c
 | _=>.bad
theorem Rep.here (R:Rep K β W c σ){v:V}(h:RepN K W.Hf o v)(n:o.own=false){Q:VK}(s:∀v W' fp,Stp W.S W.Hf W.H (orS W'.S fp) W'.Hf W'.H->Rep K β W' c σ->Gu K W' σ (.o o) v fp->Q v W'.H):Q v W.H :=
 s
  v W [] (Stp.refl.less fun a z=>by
  grind) R ⟨by
   cases o with
   | ls b e=>trivial
   | im d=>trivial
   | sc d=>trivial
   | ty d=>trivial,fun a z=>nomatch z⟩
theorem Aa {i:Nat}:ME K (Bc6 i) (Ac i):=by
 intro j W c h Q R s;unfold Ac at s
 cases e:c[i]? with
 | none=>simp only[e]at s;trivial
 | some x =>
  cases x with
  | none=>simp only[e]at s;trivial
  | some o =>
   obtain⟨v,f,r,_⟩:=R.get i o e
   refine⟨v,f,?_⟩
   simp only[e]at s
   cases o with
   | ls b g=>
    exact s v W _ (Stp.refl.less fun a z=>by
     rcases z with z | z
     ·omega
     simp_all) R ⟨rfl,f⟩
   | im d=>exact R.here r.2 rfl s
   | sc d=>exact R.here r.2 rfl s
   | ty d=>exact R.here r.2 rfl s
def cC (d:t6):o7:=fun c=>.ok (.o (.im d)) c
def vD:V->Option t6
 | .non=>some .none
 | .bl b=>some (.bool b)
 | .int i=>some (.int i)
 | .str x=>some (.str x)
 | _=>none
theorem Bm6:∀{v:V}{d:t6},vD v=some d->Tr H d v
 | .non,_,e=>by cases e;rfl
 | .bl b,_,e=>by cases e;rfl
 | .int i,_,e=>by cases e;rfl
 | .str x,_,e=>by cases e;rfl
 | .byt _,_,e=>nomatch e
 | .flt _,_,e=>nomatch e
 | .ref _,_,e=>nomatch e
 | .ty _,_,e=>nomatch e
theorem Aq {v:V}{d:t6}(h:vD v=some d):ME K (tC v) (cC d):=fun b W c a Q R s=>R.here (o:=.im d) (Bm6 h) rfl s
def frz (p:PV)(c:Ev):R t6:=match p with
 | .o (.im d)=>.ok d c
 | .o _=>.bad
 | .sl i=>match c[i]? with
  | some (some (.im d))=>.ok d c
  | some (some (.ls false ds))=>.ok (.list ds) (c.set i (some (.im (.list ds))))
  | _=>.bad
def clr (fps:Nat->v6)(i:Nat):Nat->v6:=fun j=>if j=i then [] else fps j
theorem Il {b:Nat->v6}{i j:Nat}(h:a∈clr b i j):a∈b j/\j≠i:=by
 unfold clr at h
 grind
theorem Rep.setN (R:Rep K β W c σ){i:Nat}{v:V}(h:RepN K W.Hf o v)(n:o.own=false):Rep K β ⟨W.Hf,W.H,clr W.fps i⟩ (c.set i (some o)) (σ.set i (some v)):=by
 refine⟨R.sub,by rw[dh,dh];exact R.len,fun j s e=>?_,fun j k a m g=>R.dis j k a (Il m).1 (Il g).1,fun j a h=>R.own j a (Il h).1⟩
 by_cases z:j=i
 ·subst z
  by_cases l:j<c.length
  ·rw[cG l]at e
   cases e
   refine⟨v,by rw[cG (by rw[<- R.len];exact l)],?_,fun b=>?_⟩
   ·show RepO K W.Hf W.H o v (clr _ j j)
    unfold clr;rw[if_pos rfl]
    cases o with
    | ls b f=>exact nomatch n
    | im d=>exact⟨rfl,h⟩
    | sc d=>trivial
    | ty d=>exact⟨rfl,h⟩
   ·cases o with
    | ls b f=>exact nomatch n
    | im d=>exact nomatch b
    | sc d=>exact nomatch b
    | ty d=>exact nomatch b
  grind
 ·rw[cV fun y=>z y.symm]at e
  obtain⟨p,q,r,b⟩:=R.get j _ e
  refine⟨p,by grind,?_,b⟩
  unfold clr
  simp_all
theorem Rep.setO (R:Rep K β W c σ){i:Nat}{v:V}(h:RepO K W.Hf W.H o v fp)(hn:∀a∈fp,¬ W.S a)(hb:o.bor=false):Rep K β ⟨W.Hf,W.H,fun j=>if j=i then fp else W.fps j⟩ (c.set i (some o)) (σ.set i (some v)):=by
 refine⟨R.sub,by rw[dh,dh];exact R.len,fun j o' e=>?_,fun j k a f g=>?_,fun j a f=>?_⟩
 ·by_cases z:j=i
  ·subst z
   by_cases l:j<c.length
   ·rw[cG l]at e
    cases e
    refine⟨v,by rw[cG (by rw[<- R.len];exact l)],?_,fun b=>by rw[hb]at b;cases b⟩
    simp_all
   simp_all
  ·rw[cV fun y=>z y.symm]at e
   obtain⟨v',e1,r,b⟩:=R.get j _ e
   grind
 ·have f:a∈if j=i then fp else W.fps j:=f
  have g:a∈if k=i then fp else W.fps k:=g
  split at f
  ·split at g
   ·omega
   ·exact absurd ⟨k,g⟩ (hn a f)
  ·split at g
   ·exact absurd ⟨j,f⟩ (hn a g)
   ·exact R.dis j k a f g
 ·have f:a∈if j=i then fp else W.fps j:=f
  split at f
  ·cases o with
   | ls b ds =>
    obtain⟨a',vs,_,rfl,n,m,_⟩:=h
    cases aG.mp f
    exact⟨n,_,m,trivial⟩
   | im d=>rw[h.1]at f;cases f
   | sc d=>rw[h.1]at f;cases f
   | ty d=>rw[h.1]at f;cases f
  ·exact R.own j a f
theorem set_same {a:Type}{l:List a}{i:Nat}{x:a}(h:l[i]?=some x):l.set i x=l:=by
 apply gk
 grind
theorem Rep.drop (R:Rep K β W c σ)(i:Nat):Rep K β ⟨W.Hf,W.H,clr W.fps i⟩ (c.set i none) σ:=by
 refine⟨R.sub,by rw[dh];exact R.len,fun j m e=>?_,fun j k a g f=>R.dis j k a (Il g).1 (Il f).1,fun j a h=>R.own j a (Il h).1⟩
 by_cases z:j=i
 ·grind
 ·rw[cV fun y=>z y.symm]at e
  obtain⟨l,d,r,b⟩:=R.get j _ e
  refine⟨l,d,?_,b⟩
  unfold clr
  simp_all
theorem Kp (R:Rep K β W c σ)(h:RepA K W.Hf σ p v){k:t6->Ev->Prop}(s:(frz p c).sat k) :
 ∃d c' W',frz p c=.ok d c'/\k d c'/\W'.H=W.H/\Stp W.S W.Hf W.H W'.S W'.Hf W'.H/\Rep K β W' c' σ/\Tr W'.Hf d v:=by
 cases p with
 | o o =>
  cases o with
  | im d=>exact⟨d,c,W,rfl,s,rfl,Stp.refl,R,h⟩
  | ls b w=>exact s.elim
  | sc d=>exact s.elim
  | ty d=>exact s.elim
 | sl i =>
  unfold frz at s ⊢
  cases e:c[i]? with
  | none=>simp only[e]at s;exact s.elim
  | some x =>
   cases x with
   | none=>simp only[e]at s;exact s.elim
   | some o =>
    obtain⟨v',u,r,_⟩:=R.get i o e
    cases (show some _=some _ from u.symm.trans h)
    cases o with
    | im d=>simp only[e]at s;exact⟨d,c,W,by simp only[e],s,rfl,Stp.refl,R,r.2⟩
    | sc d=>simp only[e]at s;exact s.elim
    | ty d=>simp only[e]at s;exact s.elim
    | ls b w =>
     cases b with
     | true=>simp only[e]at s;exact s.elim
     | false =>
      simp only[e]at s;obtain⟨a,m,rfl,l,f,A,t⟩:=r
      refine⟨.list _,c.set i _,⟨upd _ a _,W.H,clr W.fps i⟩,by simp only[e],s,rfl,⟨Cp f,fun b o e _=>e,fun b o e mu n q=>?_,fun b z=>?_⟩,?_,⟨a,m,rfl,Cq,TrL.same (Cp f) t⟩⟩
      ·have C:b≠a:=fun z=>n ⟨i,by rw[z,l];exact .head _⟩
       show upd _ a _ b=none
       rw[Bb C];exact q
      ·obtain⟨j,g⟩:=z
       exact .inl ⟨j,(Il g).1⟩
      ·have B:¬ Wo.S ⟨W.Hf,W.H,clr W.fps i⟩ a:=fun⟨j,g⟩=>by
        obtain⟨E,D⟩:=Il g
        exact D (R.dis j i a E (by rw[l];exact .head _))
       have y:=(Ac3 (R.drop i) f A B).setN (i:=i) (o:=.im (.list _))  ⟨a,m,rfl,Cq,TrL.same (Cp f) t⟩ rfl;rw[set_same h]at y
       have z:clr (clr W.fps i) i=clr W.fps i:=by funext j;unfold clr;split <;> rfl
       simp_all
def vDs:n8->Option (w5)
 | []=>some []
 | v::vs=>(vD v).bind fun d=>(vDs vs).map (d::·)
theorem A0m:∀{vs:n8}{ds:w5},vDs vs=some ds->zE K Hf σ (ds.map fun d=>.o (.im d)) vs
 | [],_,e=>by cases (show some []=some _ from e);exact rfl
 | v::vs,ds,e=>by
  obtain⟨d,e1,e2⟩:=bZ.mp (show ((vD v).bind fun d=>(vDs vs).map (d::·))=some ds from e)
  obtain⟨ds',e3,rfl⟩:=aO.mp e2;exact⟨v,vs,rfl,Bm6 e1,A0m e3⟩
theorem B3k {vs:n8}{ds:w5}(h:vDs vs=some ds):MA K (tK vs) (cK ds):=fun b W c a Q R s=>s _ W Stp.refl R (A0m h)
def frzs:List PV->Ev->R (w5)
 | [],c=>.ok [] c
 | p::ps,c=>(frz p c).bind fun d c=>(frzs ps c).bind fun ds c=>.ok (d::ds) c
theorem Sy:∀{ps:List PV}{vs:n8}{W:Wo}{c:Ev}{φ:w5->Ev->Prop},Rep K β W c σ->zE K W.Hf σ ps vs->(frzs ps c).sat φ ->
 ∃ds c' W',φ ds c'/\W'.H=W.H/\Stp W.S W.Hf W.H W'.S W'.Hf W'.H/\Rep K β W' c' σ/\TrL W'.Hf ds vs
 | [],vs,W,c,φ,R,h,s=>⟨[],c,W,s,rfl,Stp.refl,R,h⟩
 | p::ps,_,W,c,φ,R,⟨v,r,rfl,h,t⟩,s=>by
  obtain⟨d,c1,W1,_,s1,e1,st1,R1,t1⟩:=Kp R h s.bnd;obtain⟨ds,c2,W2,s2,e2,st2,R2,t2⟩:=Sy R1 (zE.same st1.fz t) s1.bnd;exact⟨d::ds,c2,W2,s2,e2.trans e1,st1.trans st2,R2,v,r,rfl,Tr.same st2.fz t1,t2⟩
def Eh (f:o5):o7:=fun c=>(f c).bind fun ps c=>(frzs ps c).bind fun ds c=>if ds.length<=1000 then .ok (.o (.im (.tuple ds))) c else .bad
def Jw (f:o5):o7:=fun c=>(f c).bind fun ps c=>(frzs ps c).bind fun ds c=>if ds.length<=1000 then .ok (.o (.ls false ds)) c else .bad
theorem Ax5 {n:Nat}(h:n<=1000):n<=sizeLine:=ao h (by decide)
theorem Ea {t:TA}{f:o5}(h:MA K t f):ME K (Bf5 t) (Eh f):=by
 intro w W c z Q R s
 refine h _ W c _ _ R (s.bnd.mono fun x y k A F b o m=>?_)
 obtain⟨r,B,E,a,j,d,e,i⟩:=Sy o m k.bnd
 by_cases l:r.length<=1000
 ·rw[if_pos l]at a
  refine⟨by rw[<- i.length];exact Ax5 l,fun p g=>?_⟩
  rw[<- j]at g ⊢
  exact New.tup (New.of e fun v C D q u n=>a v _ _ (b.trans (d.trans q)) u n) e.sub i g
 ·rw[if_neg l]at a;trivial
theorem Gv {t:TA}{f:o5}(h:MA K t f):ME K (Bz9 t) (Jw f):=by
 intro w W c z Q R s
 refine h _ W c _ _ R (s.bnd.mono fun x y k A F b o m=>?_)
 obtain⟨r,B,E,a,j,d,e,i⟩:=Sy o m k.bnd
 by_cases l:r.length<=1000
 ·rw[if_pos l]at a
  refine⟨by rw[<- i.length];exact Ax5 l,fun p g=>?_⟩
  rw[<- j]at g ⊢
  exact New.lst (New.of e fun v C D q u n=>a v _ _ (b.trans (d.trans q)) u n) e.sub i g
 ·rw[if_neg l]at a;trivial
end
def Hw (cI:Ev):q_->Ev->Option Ev
 | [],c=>some c
 | (k,i)::m,c=>match c[i]? with
  | some (some (.ls b _))=>match cI[k]? with
   | some (some (.ls true ds))=>Hw cI m (c.set i (some (.ls b ds)))
   | _=>none
  | _=>Hw cI m c
def inn (m:q_)(i:Nat):Option Nat:=(m.find? fun p=>p.2==i).map (·.1)
def Av2 (m:q_)(k:Nat):Option Nat:=(m.find? fun p=>p.1==k).map (·.2)
theorem Jv {m:q_}{k j i:Nat}:inn ((k,j)::m) i=if j=i then some k else inn m i:=by
 unfold inn
 grind
theorem Vd {m:q_}{i k:Nat}(h:inn m i=some k):(k,i)∈m:=by
 induction m with
 | nil=>cases h
 | cons p m a =>
  rw[Jv]at h
  grind
theorem Ve {m:q_}{i k:Nat}(b:(m.map (·.2)).Nodup)(h:(k,i)∈m):inn m i=some k:=by
 induction m with
 | nil=>grind
 | cons p m a =>
  rw[Jv]
  grind
theorem Aw0 {m:q_}{i j k:Nat}(b:(m.map (·.1)).Nodup)(h:(k,i)∈m)(h':(k,j)∈m):i=j:=by
 induction m with
 | nil=>grind
 | cons p m a =>
  grind
theorem Ua {cI:Ev}:∀{m:q_}{c cO:Ev},(m.map (·.2)).Nodup->Hw cI m c=some cO->cO.length=c.length/\∀i,
 (∃b ds0 k ds,c[i]?=some (some (.ls b ds0))/\inn m i=some k/\cI[k]?=some (some (.ls true ds))/\cO[i]?=some (some (.ls b ds))) \/
 (cO[i]?=c[i]?/\∀b ds,c[i]?=some (some (.ls b ds))->inn m i=none)
 | [],c,cO,nd,e=>by cases (show some c=some cO from e);exact⟨rfl,fun i=>.inr ⟨rfl,fun _ _ _=>rfl⟩⟩
 | (k,j)::m,c,cO,nd,e=>by
  rw[aP,bH]at nd
  have nj:inn m j=none:=by
   cases q:inn m j with
   | none=>rfl
   | some k'=>exact absurd (au.mpr ⟨(k',j),Vd q,rfl⟩) nd.1
  unfold Hw at e
  have other:Hw cI m c=some cO->(∀b ds,c[j]?≠some (some (.ls b ds)))->cO.length=c.length/\∀i,
   (∃b ds0 k' ds,c[i]?=some (some (.ls b ds0))/\inn ((k,j)::m) i=some k'/\cI[k']?=some (some (.ls true ds))/\cO[i]?=some (some (.ls b ds))) \/
   (cO[i]?=c[i]?/\∀b ds,c[i]?=some (some (.ls b ds))->inn ((k,j)::m) i=none):=fun e hn=>by
   obtain⟨hl,hg⟩:=Ua nd.2 e
   refine⟨hl,fun i=>?_⟩
   rcases hg i with ⟨b,ds0,k',ds,q1,q2,q3,q4⟩ | ⟨q1,q2⟩
   ·refine .inl ⟨b,ds0,k',ds,q1,?_,q3,q4⟩
    rw[Jv,if_neg (fun z=>hn b ds0 (by rw[z];exact q1))];exact q2
   ·refine .inr ⟨q1,fun b ds q=>?_⟩
    rw[Jv,if_neg (fun z=>hn b ds (by rw[z];exact q))];exact q2 b ds q
  cases ec:c[j]? with
  | none=>simp only[ec]at e;exact other e fun b ds z=>by rw[ec]at z;cases z
  | some x =>
   cases x with
   | none=>simp only[ec]at e;exact other e fun b ds z=>by rw[ec]at z;cases z
   | some o =>
    cases o with
    | im d=>simp only[ec]at e;exact other e fun b ds z=>by rw[ec]at z;cases z
    | sc d=>simp only[ec]at e;exact other e fun b ds z=>by rw[ec]at z;cases z
    | ty d=>simp only[ec]at e;exact other e fun b ds z=>by rw[ec]at z;cases z
    | ls b0 ds0 =>
     simp only[ec]at e
     cases ei:cI[k]? with
     | none=>simp only[ei]at e;cases e
     | some x =>
      cases x with
      | none=>simp only[ei]at e;cases e
      | some o =>
       cases o with
       | im d=>simp only[ei]at e;cases e
       | sc d=>simp only[ei]at e;cases e
       | ty d=>simp only[ei]at e;cases e
       | ls b1 ds1 =>
        cases b1 with
        | false=>simp only[ei]at e;cases e
        | true =>
         simp only[ei]at e
         have lj:j<c.length:=by
          rcases aM j c.length with q | q
          ·exact q
          ·rw[cN q]at ec;cases ec
         obtain⟨hl,hg⟩:=Ua nd.2 e;rw[dh]at hl
         refine⟨hl,fun i=>?_⟩
         by_cases z:j=i
         ·subst z
          rcases hg j with ⟨b,ds0',k',ds,q1,q2,q3,q4⟩ | ⟨q1,q2⟩
          ·rw[nj]at q2;cases q2
          ·rw[cG lj]at q1
           exact .inl ⟨b0,ds0,k,ds1,ec,by rw[Jv,if_pos rfl],ei,q1⟩
         ·have gs:(c.set j (some (.ls b0 ds1)))[i]?=c[i]?:=cV z
          rcases hg i with ⟨b,ds0',k',ds,q1,q2,q3,q4⟩ | ⟨q1,q2⟩
          ·rw[gs]at q1
           exact .inl ⟨b,ds0',k',ds,q1,by rw[Jv,if_neg z];exact q2,q3,q4⟩
          ·rw[gs]at q1 q2
           exact .inr ⟨q1,fun b ds q=>by rw[Jv,if_neg z];exact q2 b ds q⟩
def Iz:Option (n7)->Bool
 | some (some (.ls _ _))=>true
 | _=>false
def Va (m:q_)(c:Ev)(fps:Nat->v6):Nat->v6:=fun k=>match Av2 m k with
 | some i=>if Iz c[i]? then fps i else []
 | none=>[]
theorem Vs {m:q_}{i k:Nat}(h:Av2 m k=some i):(k,i)∈m:=by
 obtain⟨p,b,a⟩:=aO.mp h
 grind
theorem Hl {m:q_}{c:Ev}{b:Nat->v6}{k:Nat}{a:Addr}(h:a∈Va m c b k):∃i,(k,i)∈m/\Iz c[i]?=true/\a∈b i:=by
 unfold Va at h
 cases e:Av2 m k with
 | none=>grind
 | some i =>
  rw[e]at h
  have h:a∈if Iz _ then b i else []:=h
  by_cases q:Iz c[i]?=true
  ·rw[if_pos q]at h;exact⟨i,Vs e,q,h⟩
  grind
theorem Bd4 {m:q_}{i k:Nat}(a:(m.map (·.1)).Nodup)(h:(k,i)∈m):Av2 m k=some i:=by
 cases e:Av2 m k with
 | none =>
  unfold Av2 at e;rw[Option.map_eq_none_iff]at e
  grind
 | some j=>rw[Aw0 a h (Vs e)]
def Aq4 (m:q_)(c:Ev)(fps fpsJ:Nat->v6):Nat->v6:=fun i=>if Iz c[i]? then (match inn m i with
 | some k=>fpsJ k
 | none=>fps i) else fps i
section
variable {K:v9}{β β':Nat->V}{W W':Wo}{c cI cI' cO:Ev}{σ σI σI':St}{m:q_}{fp:v6}
structure Lent (K:v9) (Hf:Hp) (m:q_) (c:Ev) (σ:St) (β':Nat->V) (cI:Ev) (σI:St):Prop where
 n1:(m.map (·.1)).Nodup
 n2:(m.map (·.2)).Nodup
 len:cI.length=σI.length
 at_:∀k o,cI[k]?=some (some o)->(o.own=false/\(∀i,(k,i)∈m->Iz c[i]?=false)/\(∃v,σI[k]?=some (some v)/\RepN K Hf o v))\/∃i b ds v,(k,i)∈m/\c[i]?=some (some (.ls b ds))/\o=.ls true ds/\σ[i]?=some (some v)/\σI[k]?=some (some v)/\β' k=v
theorem Lent.rep (L:Lent K W.Hf m c σ β' cI σI)(R:Rep K β W c σ):Rep K β' ⟨W.Hf,W.H,Va m c W.fps⟩ cI σI:=by
 refine⟨R.sub,L.len,fun k o e=>?_,fun k l a B C=>?_,fun k a h=>?_⟩
 ·rcases L.at_ k o e with ⟨n,s,v,p,r⟩ | ⟨i,b,x,v,E,w,rfl,J,p,A⟩
  ·refine⟨v,p,?_,fun q=>?_⟩
   ·have g:∀t ,t=[]->RepO K _ W.H o v t:=fun t z=>by
     cases o with
     | ls b x=>exact nomatch n
     | im d=>exact⟨z,r⟩
     | sc d=>exact⟨z,r⟩
     | ty d=>exact⟨z,r⟩
    refine g _ ?_
    show Va m c _ k=[]
    unfold Va
    cases q:Av2 m k with
    | none=>rfl
    | some i =>
     show (if Iz _ then W.fps i else [])=[]
     rw[s i (Vs q)]
     rfl
   ·cases o with
    | ls b x=>exact nomatch n
    | im d=>exact nomatch q
    | sc d=>exact nomatch q
    | ty d=>exact nomatch q
  ·obtain⟨v',f,r,_⟩:=R.get i _ w
   cases (show some _=some _ from f.symm.trans J)
   refine⟨v,p,?_,fun _=>A.symm⟩
   obtain⟨a,F,G,D,I⟩:=r
   refine⟨a,F,G,?_,I⟩
   show Va m c _ k=[a]
   unfold Va;rw[Bd4 L.n1 E]
   show (if Iz _ then W.fps i else [])=[a]
   rw[w];exact D
 ·obtain⟨i,H,_,u⟩:=Hl B
  obtain⟨j,M,_,y⟩:=Hl C
  cases R.dis i j a u y
  have f:=Ve L.n2 M;rw[(Ve L.n2 H)]at f;exact bU f
 ·obtain⟨i,_,_,u⟩:=Hl h
  exact R.own i a u
theorem Bk2 {x:Option (n7)}(h:Iz x=true):∃b ds,x=some (some (.ls b ds)):=by
 match x,h with
 | some (some (.ls b _)),_=>grind
theorem Lent.back (L:Lent K W.Hf m c σ β' cI σI)(R:Rep K β W c σ)(I:Rep K β' W' cI' σI')(st:Stp (Wo.S ⟨W.Hf,W.H,Va m c W.fps⟩) W.Hf W.H (orS W'.S fp) W'.Hf W'.H)(hb:Hw cI' m c=some cO)
 (H:∀k i b J v,(k,i)∈m->c[i]?=some (some (.ls b J))->σ[i]?=some (some v)->β' k=v) (Q:∀a∈fp,¬ W'.S a) :
 ∃W2:Wo,W2.Hf=W'.Hf/\W2.H=W'.H/\Rep K β W2 cO σ/\Stp W.S W.Hf W.H (orS W2.S fp) W'.Hf W'.H/\∀a∈fp,¬ W2.S a:=by
 obtain⟨hl,hg⟩:=Ua L.n2 hb
 have t:∀k a,a∈W'.fps k->(∃i,(∃l,(l,i)∈m)/\Iz c[i]?=true/\a∈W.fps i)\/W.H a=none:=fun k a h=>by
  rcases st.fr a (.inl ⟨k,h⟩) with ⟨l,q⟩ | q
  ·obtain⟨i,s,x,g⟩:=Hl q
   exact .inl ⟨i,⟨l,s⟩,x,g⟩
  ·exact .inr q
 have d:∀i a,a∈W.fps i->(Iz c[i]?=true->inn m i=none)->¬ Wo.S ⟨W.Hf,W.H,Va m c W.fps⟩ a:=fun i a h n ⟨k,q⟩=>by
  obtain⟨j,s,x,g⟩:=Hl q
  cases (R.dis i j a h g)
  have:=n x;rw[Ve L.n2 s]at this;cases this
 have D:∀i a,a∈Aq4 m c W.fps W'.fps i->(∃k,inn m i=some k/\Iz c[i]?=true/\a∈W'.fps k)\/(a∈W.fps i/\(Iz c[i]?=true->inn m i=none)):=fun i a h=>by
  have h:a∈if Iz c[i]? then (match inn m i with | some k=>W'.fps k | none=>W.fps i) else W.fps i:=h
  by_cases q:Iz c[i]?=true
  ·rw[if_pos q]at h
   cases e:inn m i with
   | none=>rw[e]at h;exact .inr ⟨h,fun _=>rfl⟩
   | some k=>rw[e]at h;exact .inl ⟨k,rfl,q,h⟩
  ·rw[if_neg q]at h;exact .inr ⟨h,fun z=>absurd z q⟩
 have p:∀i k a,a∈W.fps i->(Iz c[i]?=true->inn m i=none)->a∈W'.fps k->False:=fun i k a h n V=>by
  rcases t k a V with ⟨j,⟨l,s⟩,x,g⟩ | q
  ·cases (R.dis i j a h g)
   have:=n x;rw[Ve L.n2 s]at this;cases this
  ·obtain⟨_,o,e,_⟩:=R.own i a h
   rw[q]at e;cases e
 refine⟨⟨W'.Hf,W'.H,Aq4 m c W.fps W'.fps⟩,rfl,rfl,⟨I.sub,hl.trans R.len,fun i o e=>?_,fun i j a Z T=>?_,fun i a h=>?_⟩,⟨st.fz,fun a o e n=>st.kp a o e fun⟨k,q⟩=>?_,fun a o e F n q=>st.nf a o e F (fun zz=>?_) q,fun a h=>?_⟩,fun a C ⟨i,h⟩=>?_⟩
 ·rcases hg i with ⟨b,N,k,J,s,x,g,U⟩ | ⟨s,x⟩
  ·rw[U]at e;cases e
   obtain⟨v,M,r,P⟩:=R.get i _ s;obtain⟨X,e1',r',O⟩:=I.get k _ g;have S:=O rfl;rw[H k i b N v (Vd x) s M]at S;subst S
   refine⟨X,M,?_,P⟩
   obtain⟨a,Y,A,E,G⟩:=r'
   refine⟨a,Y,A,?_,G⟩
   show Aq4 m c W.fps W'.fps i=[a]
   unfold Aq4;rw[s,x];exact E
  ·rw[s]at e
   obtain⟨v,M,r,P⟩:=R.get i _ e
   refine⟨v,M,?_,P⟩
   have n:Iz c[i]?=true->inn m i=none:=fun z=>by
    obtain⟨b,J,z⟩:=Bk2 z;exact x b J z
   have ef:Aq4 m c W.fps W'.fps i=W.fps i:=by
    unfold Aq4
    by_cases q:Iz c[i]?=true
    ·rw[if_pos q,n q]
    ·rw[if_neg q]
   show RepO K W'.Hf W'.H o v (Aq4 m c W.fps W'.fps i)
   rw[ef]
   refine r.mono st.fz fun a C=>?_
   obtain⟨z,u,y,F⟩:=R.own i a C;exact⟨st.nf a u y F (d i a C n) z,(st.kp a u y (d i a C n)).trans y.symm⟩
 ·rcases D i a Z with ⟨k,f,w,B⟩ | ⟨f,w⟩
  ·rcases D j a T with ⟨l,A,E,G⟩ | ⟨A,E⟩
   ·cases I.dis k l a B G
    exact Aw0 L.n1 (Vd f) (Vd A)
   ·exact(p j k a A E B).elim
  ·rcases D j a T with ⟨l,A,E,G⟩ | ⟨A,E⟩
   ·exact(p i l a f w G).elim
   ·exact R.dis i j a f A
 ·rcases D i a h with ⟨k,f,w,B⟩ | ⟨f,w⟩
  ·exact I.own k a B
  ·obtain⟨z,u,y,F⟩:=R.own i a f
   exact⟨st.nf a u y F (d i a f w) z,u,st.kp a u y (d i a f w),F⟩
 ·obtain⟨i,_,_,g⟩:=Hl q
  exact n ⟨i,g⟩
 ·obtain⟨k,q'⟩:=zz
  obtain⟨i,_,_,g⟩:=Hl q';exact n ⟨i,g⟩
 ·rcases h with ⟨i,h⟩ | h
  ·rcases D i a h with ⟨k,f,w,B⟩ | ⟨f,w⟩
   ·rcases t k a B with ⟨j,_,_,q⟩ | q
    ·exact .inl ⟨j,q⟩
    ·exact .inr q
   ·exact .inl ⟨i,f⟩
  ·rcases st.fr a (.inr h) with ⟨k,q⟩ | q
   ·obtain⟨i,_,_,g⟩:=Hl q
    exact .inl ⟨i,g⟩
   ·exact .inr q
 ·rcases D i a h with ⟨k,f,w,B⟩ | ⟨f,w⟩
  ·exact Q a C ⟨k,B⟩
  ·rcases st.fr a (.inr C) with q | q
   ·exact d i a f w q
   ·obtain⟨_,u,y,_⟩:=R.own i a f
    rw[q]at y;cases y
end
inductive SR where
 | nx (c:Ev)
 | rt (p:PV) (c:Ev)
 | bk (c:Ev)
 | ct (c:Ev)
 | bad
def zJ (K:v9)(β:Nat->V)(W:Wo)(D:Ends):SR->Prop
 | .nx c'=>∀σ' W',Stp W.S W.Hf W.H W'.S W'.Hf W'.H->Rep K β W' c' σ'->D.nx σ' W'.H
 | .bk c'=>∀σ' W',Stp W.S W.Hf W.H W'.S W'.Hf W'.H->Rep K β W' c' σ'->D.bk σ' W'.H
 | .ct c'=>∀σ' W',Stp W.S W.Hf W.H W'.S W'.Hf W'.H->Rep K β W' c' σ'->D.ct σ' W'.H
 | .rt p c'=>∀σ' v W' fp,Stp W.S W.Hf W.H (orS W'.S fp) W'.Hf W'.H->Rep K β W' c' σ'->Gu K W' σ' p v fp->D.rt v W'.H
 | .bad=>False
def MS (K:v9)(T:TS)(f:Ev->SR):Prop:=∀(β:Nat->V) (W:Wo) (c:Ev) (σ:St) (D:Ends),Rep K β W c σ->zJ K β W D (f c)->T D σ W.H
def MG (K:v9)(g:TG)(cg:p_):Prop:=∀(β:Nat->V) (W:Wo) (c:Ev) (σ:St) (p:PV) (v:V) (fp:v6) (k:St->Hp->Prop),Rep K β W c σ->Gu K W σ p v fp ->
 (cg p c).sat (fun _ c'=>∀σ' W',Stp (orS W.S fp) W.Hf W.H W'.S W'.Hf W'.H->Rep K β W' c' σ'->k σ' W'.H)->g v σ W.H k
def MGs (K:v9)(g:TGs)(cg:w5->Ev->R Unit):Prop:=∀(β:Nat->V) (W:Wo) (c:Ev) (σ:St) (ds:w5) (vs:n8) (k:St->Hp->Prop),Rep K β W c σ->TrL W.Hf ds vs ->
 (cg ds c).sat (fun _ c'=>∀σ' W',Stp W.S W.Hf W.H W'.S W'.Hf W'.H->Rep K β W' c' σ'->k σ' W'.H)->g vs σ W.H k
def R.toS {α:Type}(r:R α)(k:α->Ev->SR):SR:=match r with
 | .ok a c=>k a c
 | .bad=>.bad
section
variable {K:v9}{β β':Nat->V}{W W':Wo}{c c' cI cI' cO:Ev}{σ σ' σI σI':St}{D:Ends}{Hf H:Hp}{o:O}{v:V}{fp:v6}
theorem G8 {b:Type}{r:R b}{k:b->Ev->SR}(h:zJ K β W D (r.toS k)):r.sat fun a c=>zJ K β W D (k a c):=by
 cases r with
 | ok a c=>exact h
 | bad=>exact h
theorem zJ.step {r:SR}(h:zJ K β W D r)(st:Stp W.S W.Hf W.H W'.S W'.Hf W'.H):zJ K β W' D r:=by
 cases r with
 | nx c=>exact fun b d a R=>h _ _ (st.trans a) R
 | bk c=>exact fun b d a R=>h _ _ (st.trans a) R
 | ct c=>exact fun b d a R=>h _ _ (st.trans a) R
 | rt p c=>exact fun b v d e a R r=>h _ v _ _ (st.trans a) R r
 | bad=>exact h
def Bs (f g:Ev->SR):Ev->SR:=fun c=>match f c with
 | .nx c=>g c
 | r=>r
theorem Av {t u:TS}{f g:Ev->SR}(h1:MS K t f)(h2:MS K u g):MS K (Bx1 t u) (Bs f g):=by
 intro k W c i D R l
 refine h1 _ W c _ _ R ?_
 unfold Bs at l
 cases e:f c with
 | nx a=>rw[e]at l;exact fun h j d b=>h2 _ _ _ _ D b (zJ.step l d)
 | rt p a=>rw[e]at l;exact l
 | bk a=>rw[e]at l;exact l
 | ct a=>rw[e]at l;exact l
 | bad=>rw[e]at l;exact l
def Df:Ev->SR:=fun c=>.nx c
theorem Br:MS K A8q Df:=fun b W c a D R l=>l _ W Stp.refl R
def Au4:Ev->SR:=fun _=>.bad
theorem A5o:MS K At9 Au4:=fun b W c a D R l=>l.elim
def Hx (f:o7):Ev->SR:=fun c=>(f c).toS fun _ c=>.nx c
theorem Lr {a:TE}{f:o7}(h:ME K a f):MS K (A9o a) (Hx f):=fun g W c i D R l =>
 h.toV _ W c _ _ R ((G8 l).mono fun p k e v j d b _=>e _ _ d b)
def Cg (f:o7):Ev->SR:=fun c=>(f c).toS fun p c=>.rt p c
theorem Ax {a:TE}{f:o7}(h:ME K a f):MS K (Bt5 a) (Cg f):=fun i W c n D R l =>
 h _ W c _ _ R ((G8 l).mono fun p m e v j k d g b=>e _ v _ _ d g b)
def cIf (t:o6)(f g:Ev->SR):Ev->SR:=fun c=>(t c).toS fun b c=>if b=true then f c else g c
theorem Dq {d:TT}{t u:TS}{ft:o6}{f g:Ev->SR}(h:MT K d ft)(h1:MS K t f)(h2:MS K u g):MS K (Br3 d t u) (cIf ft f g):=fun k W c j D R l =>
 h
  _ W c _ _ R ((G8 l).mono fun b n i m e a=>by
  cases b with
  | true=>exact h1 _ _ _ _ D a (zJ.step i e)
  | false=>exact h2 _ _ _ _ D a (zJ.step i e))
def cgN (i:Nat):p_:=fun p c=>match p with
 | .o (.ls _ ds)=>.ok () (c.set i (some (.ls false ds)))
 | .o o=>.ok () (c.set i (some o))
 | .sl j=>(frz (.sl j) c).bind fun d c=>.ok () (c.set i (some (.im d)))
theorem B0h {i:Nat}{a:Addr}(h:Wo.S ⟨Hf,H,clr W.fps i⟩ a):W.S a:=by
 obtain⟨j,h⟩:=h;exact⟨j,(Il h).1⟩
theorem An {i:Nat}:MG K (Q9 i) (cgN i):=by
 intro w W c x p v u k R r s
 have f:∀{o:O} {g:Wo} {m:Ev},Rep K w g m x->o.own=false->RepN K g.Hf o v->Stp (orS W.S u) W.Hf W.H g.S _ g.H->g.H=W.H->(∀σ' W',Stp _ _ _ W'.S W'.Hf W'.H->Rep K _ W' _ σ'->k σ' W'.H)->k _ W.H:=fun {o g m} h n r l e s=>by
  rw[<- e]
  exact s _ ⟨g.Hf,g.H,clr _ i⟩ (l.less fun a z=>B0h z) (h.setN r n)
 cases p with
 | sl j =>
  obtain⟨rfl,e⟩:=r
  obtain⟨d,m,g,e1,A,y,l,h,t⟩:=Kp R (show RepA K _ _ (.sl j) v from e) s.bnd
  exact f h (o:=.im d) rfl t (l.up fun a z=>.inl z) y A
 | o o =>
  cases o with
  | im d=>exact f R rfl r.1.2 (Stp.refl.up fun a z=>.inl z) rfl s
  | sc d=>exact f R rfl r.1.2 (Stp.refl.up fun a z=>.inl z) rfl s
  | ty d=>exact f R rfl r.1.2 (Stp.refl.up fun a z=>.inl z) rfl s
  | ls b ds =>
   refine s _ ⟨W.Hf,W.H,fun j=>if j=i then u else W.fps j⟩ ⟨Same.refl _,fun a o e _=>e,fun a o e _ _ q=>q,fun a z=>?_⟩ (R.setO  r.1 r.2 rfl)
   obtain⟨j,z⟩:=z
   have z:a∈if j=i then u else W.fps j:=z
   split at z
   ·grind
   ·exact .inl (.inl ⟨j,z⟩)
def Fl:w5->Ev->R Unit:=fun ds c=>match ds with
 | []=>.ok () c
 | _=>.bad
def Bo (g:p_)(gs:w5->Ev->R Unit):w5->Ev->R Unit:=fun ds c=>match ds with
 | d::ds=>(g (.o (.im d)) c).bind fun _ c=>gs ds c
 | []=>.bad
theorem Kh:MGs K Be9 Fl:=fun f W c e a b k R t s=>by
 cases a with
 | nil=>cases (t);exact⟨rfl,s _ W Stp.refl R⟩
 | cons d r=>trivial
theorem Ej {t:TG}{u:TGs}{g:p_}{f:w5->Ev->R Unit}(h1:MG K t g)(h2:MGs K u f):MGs K (Ak5 t u) (Bo g f):=fun β W c σ x vs k R j s=>by
 cases x with
 | nil=>trivial
 | cons d r =>
  obtain⟨v,l,rfl,m,n⟩:=j
  refine⟨v,l,rfl,h1 _ W c _ (.o (.im d)) v _ _ R ⟨⟨rfl,m⟩,fun a z=>nomatch z⟩ (s.bnd.mono fun _ c1 o i W1 b q=>?_)⟩
  have b:=b.up (S2:=W.S) fun a z=>by
   grind
  exact h2 _ _ _ _ r _ k q (TrL.same b.fz n) (o.mono fun _ c2 p w W2 e h=>p _ _ (b.trans e) h)
def cgT (n:Nat)(gs:w5->Ev->R Unit):p_:=fun p c=>match p with
 | .o (.im (.tuple ds))=>if ds.length=n then gs ds c else .bad
 | _=>.bad
theorem N7 {n:Nat}{t:TGs}{d:w5->Ev->R Unit}(h:MGs K t d):MG K (Bi0 K n t) (cgT n d):=by
 intro u W c w p v q k R r s
 match p,r,s with
 | .o (.im (.tuple ds)),r,s =>
  obtain⟨⟨b,a,j,b,l,f⟩,_⟩:=r
  have s:(if ds.length=n then d _ c else .bad:U.R _).sat _:=s
  by_cases e:ds.length=n
  ·rw[if_pos e]at s
   refine⟨a,j,b,SqT.of (R.sub _ _ l),by rw[<- f.length];exact e,h _ W c _ _ _ k R f (s.mono fun _ y i m x o g=>i _ _ (o.up fun a z=>.inl z) g)⟩
  ·rw[if_neg e]at s;trivial
 | .o (.im .none),r,s=>trivial
 | .o (.im (.bool _)),r,s=>trivial
 | .o (.im (.int _)),r,s=>trivial
 | .o (.im (.str _)),r,s=>trivial
 | .o (.im (.list _)),r,s=>trivial
 | .o (.im (.dict _)),r,s=>trivial
 | .o (.ls _ _),r,s=>exact s.elim
 | .o (.sc _),r,s=>exact s.elim
 | .o (.ty _),r,s=>exact s.elim
 | .sl _,r,s=>trivial
def Ef (f:o7)(g:p_):Ev->SR:=fun c=>(f c).toS fun p c=>(g p c).toS fun _ c=>.nx c
theorem Bu {b:TE}{t:TG}{f:o7}{g:p_}(h:ME K b f)(hg:MG K t g):MS K (Ap2 b t) (Ef f g):=fun x W c o D R l =>
 h _ W c _ _ R ((G8 l).mono fun p q j v s u k e i=>hg _ _ _ _ p v _ _ e i ((G8 j).mono fun _ r m n w a d=>m _ _ (k.trans a) d))
def Ar0 (J:It)(Hf:Hp)(ds:w5):Prop:=∀(i:Nat) (Hf' H:Hp),Same Hf Hf'->Same Hf' H->(i=ds.length->J.stop i H) /\
 ∀d,ds[i]?=some d->J.go i H/\∀x H',J.yld i H x H'->∃Hf2,Stp (fun _=>False) Hf' H (fun _=>False) Hf2 H'/\Same Hf2 H'/\Tr Hf2 d x
def MI (K:v9)(wi:TI)(fi:Ev->R (w5)):Prop:=∀(β:Nat->V) (W:Wo) (c:Ev) (σ:St) (k:It->Hp->Prop),Rep K β W c σ ->
 (fi c).sat (fun ds c'=>∀J W',Stp W.S W.Hf W.H W'.S W'.Hf W'.H->Rep K β W' c' σ->Ar0 J W'.Hf ds->k J W'.H)->wi σ W.H k
def forL (g:p_)(body:Ev->SR):w5->Ev->SR
 | [],c=>.nx c
 | d::ds,c=>match g (.o (.im d)) c with
  | .bad=>.bad
  | .ok _ c=>match body c with
   | .nx c=>forL g body ds c
   | .ct c=>forL g body ds c
   | .bk c=>.nx c
   | .rt p c=>.rt p c
   | .bad=>.bad
def Qf (fi:Ev->R (w5))(g:p_)(body:Ev->SR):Ev->SR:=fun c=>(fi c).toS fun ds c=>forL g body ds c
theorem Yj {a:Type}{l:List a}{i:Nat}(h:i<l.length):l.drop i=l[i]::l.drop (i+1):=List.drop_eq_getElem_cons h
theorem Ph {X:TI}{t:TG}{V:TS}{fi:Ev->R (w5)}{g:p_}{body:Ev->SR}(hi:MI K X fi)(hg:MG K t g)(hb:MS K V body):MS K (Bs5 X t V) (Qf fi g body):=by
 intro C W c I D R l
 refine hi C W c I _ R ((G8 l).mono fun k c1 l1 J T N R1 it=>?_)
 refine⟨fun i m I H=>∃d y,d.H=H/\Rep K C d y I/\m=k.length-i/\i<=k.length/\Same T.Hf d.Hf/\zJ K C d D (forL g body (k.drop i) y),⟨_,T,c1,rfl,R1,rfl,aB _,Same.refl _,zJ.step l1 N⟩,?_⟩
 rintro i m I H ⟨d,y,rfl,O,rfl,hle,Y,h⟩
 obtain⟨A,Q⟩:=it i d.Hf d.H Y O.sub
 by_cases lt:i<k.length
 ·obtain⟨q1,q2⟩:=Q k[i] (bA lt)
  refine .inr ⟨q1,fun M s=>∃d y,d.H=s/\Rep K C d y M/\Same T.Hf d.Hf/\zJ K C d D (forL g body (k.drop (i+1)) y),fun M s ⟨U,Z,e3,R3,s3,l3⟩=>⟨k.length-(i+1),by omega,U,Z,e3,R3,rfl,by omega,s3,l3⟩,fun x s hy=>?_⟩
  obtain⟨n,j,G,tx⟩:=q2 x s hy
  have P:Stp d.S d.Hf d.H (Wo.S ⟨n,s,d.fps⟩) n s:=⟨j.fz,fun a o e _=>j.kp a o e fun z=>z,fun a o e mu _ q=>j.nf a o e mu (fun z=>z) q,fun a z=>.inl z⟩
  rw[Yj lt]at h;unfold forL at h
  refine hg C ⟨n,s,d.fps⟩ y I (.o (.im _)) x _ _ (j.rep O G) ⟨⟨rfl,tx⟩,fun a z=>nomatch z⟩ ?_
  cases eg:g _ _ with
  | bad=>rw[eg]at h;exact h.elim
  | ok u Z =>
   rw[eg]at h;intro σ3 U w S
   have w:=w.up  fun a z=>by
    rcases z with z | z
    ·exact z
    ·cases z
   have f:=P.trans w;have F  := Y.trans f.fz
   refine hb _ _ _ _ _ S ?_
   cases ebd:body _ with
   | nx E=>simp only[ebd]at h;exact fun r L b B=>⟨L,E,rfl,B,F.trans b.fz,zJ.step h (f.trans b)⟩
   | ct E=>simp only[ebd]at h;exact fun r L b B=>⟨L,E,rfl,B,F.trans b.fz,zJ.step h (f.trans b)⟩
   | bk E=>simp only[ebd]at h;exact fun r L b B=>h _ _ (f.trans b) B
   | rt p E=>simp only[ebd]at h;exact fun r v L fp b B r4=>h _ v _ _ (f.trans b) B r4
   | bad=>simp only[ebd]at h;exact h.elim
 ·have e:i=k.length:=by omega
  subst e;rw[List.drop_length]at h;exact .inl ⟨A rfl,h _ _ Stp.refl O⟩
def Fb (g:p_)(ft:o6)(fe:o7):w5->w5->Ev->R (w5)
 | [],acc,c=>.ok acc c
 | d::ds,acc,c=>(g (.o (.im d)) c).bind fun _ c=>(ft c).bind fun b c=>if b=true then (fe c).bind fun p c=>(frz (nrm p) c).bind fun y c=>Fb g ft fe ds (acc++[y]) c else Fb g ft fe ds acc c
def cIn (idx:p6)(c:Ev):Ev:=idx.map fun o=>o.bind fun i=>((c[i]?).join).map (O.flag true)
def pairsOf:Nat->p6->q_
 | _,[]=>[]
 | k,none::r=>pairsOf (k+1) r
 | k,some i::r=>(k,i)::pairsOf (k+1) r
def cLC (idx:p6)(fi:Ev->R (w5))(g:p_)(ft:o6)(fe:o7):o7:=fun c=>(fi c).bind fun ds c =>
 if ds.length<=16000000 then match Fb g ft fe ds [] (cIn idx c) with
 | .bad=>.bad
 | .ok acc cI=>match Hw cI (pairsOf 0 idx) c with
  | none=>.bad
  | some c=>.ok (.o (.ls false acc)) c
 else .bad
theorem A6g {k l:Nat}(h:l+1<=k):k-(l+1)+1=k-l:=by omega
theorem Gz {k i:Nat}:∀{l:Nat}{idx:p6},(k,i)∈pairsOf l idx->l<=k/\idx[k-l]?=some (some i)
 | l,[],h=>by cases h
 | l,none::r,h=>by
  obtain⟨q1,q2⟩:=Gz (l:=l+1) (idx:=r) h
  refine⟨dD q1,?_⟩
  rw[show k-l=(k-(l+1))+1 from (A6g q1).symm,dq];exact q2
 | l,some j::r,h=>by
  rcases az.mp (show (k,i)∈(l,j)::pairsOf (l+1) r from h) with e | e
  ·cases e;exact⟨aj _,by rw[eE];rfl⟩
  ·obtain⟨q1,q2⟩:=Gz (l:=l+1) (idx:=r) e
   refine⟨dD q1,?_⟩
   rw[show k-l=(k-(l+1))+1 from (A6g q1).symm,dq];exact q2
theorem Oo {k i:Nat}:∀{l:Nat}{idx:p6},idx[k]?=some (some i)->(k+l,i)∈pairsOf l idx
 | l,[],h=>by simp at h
 | l,none::r,h=>by
  cases k with
  | zero=>simp at h
  | succ k =>
   rw[dq]at h;have:=Oo (l:=l+1) (idx:=r) h
   rw[show k+1+l=k+(l+1) by omega];exact this
 | l,some j::r,h=>by
  cases k with
  | zero=>simp at h;subst h;rw[aY];exact .head _
  | succ k =>
   rw[dq]at h;have:=Oo (l:=l+1) (idx:=r) h
   rw[show k+1+l=k+(l+1) by omega];exact .tail _ this
theorem Q6:∀{l:Nat}{idx:p6},((pairsOf l idx).map (·.1)).Nodup
 | l,[]=>cR
 | l,none::r=>Q6 (l:=l+1) (idx:=r)
 | l,some j::r=>by
  show (l::(pairsOf (l+1) r).map (·.1)).Nodup
  rw[bH]
  refine⟨fun h=>?_,Q6⟩
  obtain⟨⟨k,i⟩,h1,h2⟩:=au.mp h;have:=(Gz h1).1;have h2:k=l:=h2;omega
theorem B3l {x:Option (n7)}{o:O}(h:x.join=some o):x=some (some o):=by
 cases x with
 | none=>grind
 | some y=>simp_all
theorem Ba6 {idx:p6}{c:Ev}{k:Nat}{o:O}(h:(cIn idx c)[k]?=some (some o)):∃i a,idx[k]?=some (some i)/\c[i]?=some (some a)/\o=a.flag true:=by
 unfold cIn at h;rw[bJ]at h;obtain⟨x,e,b⟩:=aO.mp h
 cases x with
 | none=>grind
 | some i =>
  obtain⟨a,f,d⟩:=aO.mp b
  grind
theorem Ax0 {idx:p6}{a:St}{k i:Nat}{v:V}(h1:idx[k]?=some (some i))(h2:a[i]?=some (some v)):(cst idx a)[k]?=some (some v):=by
 unfold cst
 grind
theorem Bg4 {idx:p6}(R:Rep K β W c σ)(hnd:((pairsOf 0 idx).map (·.2)).Nodup):Lent K W.Hf (pairsOf 0 idx) c σ (fun k=>(((cst idx σ)[k]?).join).getD .non) (cIn idx c) (cst idx σ) where
 n1:=Q6
 n2:=hnd
 len:=by unfold cIn cst;rw[ak,ak]
 at_:=fun k o h=>by
  obtain⟨i,o',h1,h2,rfl⟩:=Ba6 h;obtain⟨v,e,r,_⟩:=R.get i o' h2;have hs:=Ax0 h1 e
  have one:∀j,(k,j)∈pairsOf 0 idx->j=i:=fun j hj=>by
   have:=(Gz hj).2;rw[dg,h1]at this;cases this;rfl
  have nol:Iz c[i]?=false->∀j,(k,j)∈pairsOf 0 idx->Iz c[j]?=false:=fun q j hj=>by rw[one j hj];exact q
  cases o' with
  | im d=>exact .inl ⟨rfl,nol (by rw[h2];rfl),v,hs,r.2⟩
  | sc d=>exact .inl ⟨rfl,nol (by rw[h2];rfl),v,hs,r.2⟩
  | ty d=>exact .inl ⟨rfl,nol (by rw[h2];rfl),v,hs,r.2⟩
  | ls b ds=>exact .inr ⟨i,b,ds,v,Oo (l:=0) h1,h2,rfl,e,hs,by rw[hs];rfl⟩
theorem Bg8 {idx:p6}{t:TG}{tc:TT}{te:TE}{g:p_}{ft:o6}{fe:o7}{W1:Wo}{c1:Ev}{ds:w5}{J:It}{Q:VK}(hnd:((pairsOf 0 idx).map (·.2)).Nodup)(hg:MG K t g)(ht:MT K tc ft)(he:ME K te fe)
 (st1:Stp W.S W.Hf W.H W1.S W1.Hf W1.H) (R1:Rep K β W1 c1 σ)
 (it:∀(i:Nat) (h:Wo),Stp (Wo.S ⟨W1.Hf,W1.H,Va (pairsOf 0 idx) c1 W1.fps⟩) W1.Hf W1.H h.S h.Hf h.H->Same h.Hf h.H->(i=ds.length->J.stop i h.H) /\
  ∀d,ds[i]?=some d->J.go i h.H/\∀x E,J.yld i h.H x E->∃s,Stp (fun _=>False) h.Hf h.H (fun _=>False) s E/\Same s E/\Tr s d x)
 (s1:(if ds.length<=16000000 then match Fb g ft fe ds [] (cIn idx c1) with
  | .bad=>.bad
  | .ok f I=>match Hw I (pairsOf 0 idx) c1 with
   | none=>.bad
   | some c=>.ok (.o (.ls false f)) c
  else .bad:R PV).sat fun p c'=>∀v j w,Stp W.S W.Hf W.H (orS j.S w) j.Hf j.H->Rep K β j c' σ->Gu K j σ p v w->Q v j.H):tLC idx (fun _ H k=>k J H) t tc te σ W1.H Q:=by
 unfold tLC
 dsimp only
 by_cases hl:ds.length<=16000000
 ·rw[if_pos hl]at s1
  have L:=Bg4 (idx:=idx) R1 hnd
  let C:Nat->V:=fun k=>(((cst idx σ)[k]?).join).getD .non
  let F:Wo:=⟨W1.Hf,W1.H,Va (pairsOf 0 idx) c1 W1.fps⟩
  let B:U.R (w5)->Prop:=fun r=>match r with
   | .bad=>False
   | .ok f I=>match Hw I (pairsOf 0 idx) c1 with
    | none=>False
    | some c=>∀v j w,Stp W.S W.Hf W.H (orS j.S w) j.Hf j.H->Rep K β j c σ->Gu K j σ (.o (.ls false f)) v w->Q v j.H
  have s2:B (Fb g ft fe ds [] (cIn idx c1)):=by
   show match Fb g ft fe ds [] (cIn idx c1) with
    | .bad=>False
    | .ok f I=>match Hw I (pairsOf 0 idx) c1 with
     | none=>False
     | some c=>∀v j w,Stp W.S W.Hf W.H (orS j.S w) j.Hf j.H->Rep K β j c σ->Gu K j σ (.o (.ls false f)) v w->Q v j.H
   cases e1:Fb g ft fe ds [] (cIn idx c1) with
   | bad=>rw[e1]at s1;exact s1.elim
   | ok f I =>
    simp only[e1]at s1
    show match Hw I (pairsOf 0 idx) c1 with
     | none=>False
     | some c=>∀v j w,Stp W.S W.Hf W.H (orS j.S w) j.Hf j.H->Rep K β j c σ->Gu K j σ (.o (.ls false f)) v w->Q v j.H
    cases e2:Hw I (pairsOf 0 idx) c1 with
    | none=>simp only[e2]at s1;exact s1.elim
    | some D=>simp only[e2]at s1;exact s1
  refine⟨fun i m A S H=>∃h D f,h.H=H/\Rep K C h D A/\m=ds.length-i/\i<=ds.length/\S.length<=i/\Stp F.S F.Hf F.H h.S h.Hf h.H/\TrL h.Hf f S/\B (Fb g ft fe (ds.drop i) f D),
   ⟨_,F,cIn idx c1,[],rfl,(L.rep R1),rfl,aB _,aj _,Stp.refl,rfl,s2⟩,?_⟩
  rintro i m A S H ⟨h,D,f,rfl,R2,rfl,hle,hvs,N,ta,l⟩
  obtain⟨P,hgo⟩:=it i h N R2.sub
  by_cases lt:i<ds.length
  ·obtain⟨q1,q2⟩:=hgo ds[i] (bA lt)
   refine .inr ⟨q1,aA (aQ hvs (aA lt hl)) (by decide),fun A S E=>∃h D f,h.H=E/\Rep K C h D A/\S.length<=i+1/\Stp F.S F.Hf F.H h.S h.Hf h.H/\TrL h.Hf f S/\B (Fb g ft fe (ds.drop (i+1)) f D),
    fun A acc' E ⟨O,X,Y,e3,R3,h3,n,t3,f3⟩=>⟨ds.length-(i+1),by omega,O,X,Y,e3,R3,rfl,by omega,h3,n,t3,f3⟩,fun x E hy=>?_⟩
   obtain⟨s,n,sub3,tx⟩:=q2 x E hy
   have stx:Stp h.S h.Hf h.H (Wo.S ⟨s,E,h.fps⟩) s E:=⟨n.fz,fun a o e _=>n.kp a o e fun z=>z,fun a o e mu _ q=>n.nf a o e mu (fun z=>z) q,fun a z=>.inl z⟩
   rw[Yj lt]at l;unfold Fb at l
   refine hg C ⟨s,E,h.fps⟩ D A (.o (.im ds[i])) x [] _ (n.rep R2 sub3) ⟨⟨rfl,tx⟩,fun a z=>nomatch z⟩ ?_
   cases eg:g (.o (.im ds[i])) D with
   | bad=>rw[eg]at l;exact l.elim
   | ok u X =>
    rw[eg]at l
    have l:B ((ft X).bind fun b c=>if b=true then (fe c).bind fun p c=>(frz (nrm p) c).bind fun y c=>Fb g ft fe (ds.drop (i+1)) (f++[y]) c else Fb g ft fe (ds.drop (i+1)) f c):=l
    intro σ3 O G R4
    have G:=G.up (S2:=h.S) fun a z=>by
     rcases z with z | z
     ·exact z
     ·cases z
    refine ht C O X σ3 _ R4 ?_
    cases et:ft X with
    | bad=>rw[et]at l;exact l.elim
    | ok b c4 =>
     rw[et]at l;intro T st5 R5;have M:Stp F.S F.Hf F.H T.S T.Hf T.H:=N.trans (stx.trans (G.trans st5));have Z:TrL T.Hf f S:=TrL.same (stx.trans (G.trans st5)).fz ta
     cases b with
     | false=>rw[if_neg (by decide)];exact⟨T,c4,f,rfl,R5,by omega,M,Z,l⟩
     | true =>
      rw[if_pos rfl]
      have l:B ((fe c4).bind fun p c=>(frz (nrm p) c).bind fun y c=>Fb g ft fe (ds.drop (i+1)) (f++[y]) c):=l
      refine he.toV C T c4 σ3 _ R5 ?_
      cases ee:fe c4 with
      | bad=>rw[ee]at l;exact l.elim
      | ok p c5 =>
       rw[ee]at l
       have l:B ((frz (nrm p) c5).bind fun y c=>Fb g ft fe (ds.drop (i+1)) (f++[y]) c):=l
       intro y W5 st6 R6 r6
       have fz:(frz (nrm p) c5).sat fun _ _=>True:=by
        cases ef:frz (nrm p) c5 with
        | bad=>rw[ef]at l;exact l.elim
        | ok d c=>trivial
       obtain⟨d,c6,W6,e6,_,eH,st7,R7,t7⟩:=Kp R6 r6 fz;rw[e6]at l
       refine⟨W6,c6,f++[d],eH,R7,by rw[a_,bY];omega,M.trans (st6.trans st7),(TrL.same (st6.trans st7).fz Z).app (TrL.one t7),l⟩
  ·have e:i=ds.length:=by omega
   subst e;rw[List.drop_length]at l
   refine .inl ⟨P rfl,fun p hp=>?_⟩
   have l:match Hw D (pairsOf 0 idx) c1 with
    | none=>False
    | some c=>∀v j w,Stp W.S W.Hf W.H (orS _ _) _ _->Rep K _ j c _->Gu K _ _ _ v _->Q v _:=l
   cases eb:Hw D (pairsOf 0 idx) c1 with
   | none=>simp only[eb]at l
   | some cO =>
    simp only[eb]at l
    obtain⟨O,e1,e2,R3,n,_⟩:=L.back (fp:=[]) R1 R2 (N.less fun a z=>by
     rcases z with z | z
     ·exact z
     ·cases z) eb (fun k i b ds v hm _ hv=>by
      have:=(Gz hm).2;rw[dg]at this
      rw[Ax0 this hv];rfl) fun a z=>nomatch z
    have n:Stp W1.S W1.Hf W1.H O.S O.Hf O.H:=by
     rw[e1,e2];exact n.less fun a z=>.inl z
    rw[<- e2]at hp ⊢
    exact New.lst (New.of R3 fun v j w st R' rp=>l v _ _ (st1.trans (n.trans st)) R' rp) R3.sub (by rw[e1];exact ta) hp
 ·rw[if_neg hl]at s1;exact s1.elim
theorem Fj {idx:p6}{f:TI}{t:TG}{h:TT}{j:TE}{fi:Ev->R (w5)}{g:p_}{ft:o6}{fe:o7}(d:((pairsOf 0 idx).map (·.2)).Nodup)(hi:MI K f fi)(hg:MG K t g)(ht:MT K h ft)(he:ME K j fe) :
 ME K (tLC idx f t h j) (cLC idx fi g ft fe):=by
 intro n W c o Q R s
 refine hi _ W c _ _ R (s.bnd.mono fun q p l J u a k m=>?_)
 exact Bg8 d hg ht he a k (fun i r e b=>m i _ _ e.fz b) l
end
inductive FR where
 | ret (o:O) (as:List O)
 | bad
abbrev o_:=List O->FR
def resolve (p:PV)(c:Ev):Option (O×Ev):=match p with
 | .o (.ls _ ds)=>some (.ls false ds,c)
 | .o o=>some (o,c)
 | .sl i=>match c[i]? with
  | some (some (.ls false ds))=>some (.ls false ds,c.set i none)
  | some (some (.im d))=>some (.im d,c)
  | _=>none
def Ip:List O->Ev->Option (List O)
 | [],_=>some []
 | .ls true _::r,some (.ls true ds)::c=>(Ip r c).map (.ls true ds::·)
 | .ls _ _::_,_=>none
 | o::r,_::c=>(Ip r c).map (o::·)
 | _::_,[]=>none
def A2o (as:List O)(p:PV)(c:Ev):FR:=match resolve p c with
 | none=>.bad
 | some (o,c)=>match Ip as c with
  | none=>.bad
  | some as'=>.ret o as'
def Eo (n N:Nat)(body:Ev->SR):o_:=fun as=>if as.length=n then match body (as.map some++List.replicate (N-n) none) with
 | .nx c=>A2o as (.o (.im .none)) c
 | .rt p c=>A2o as p c
 | _=>.bad
 else .bad
def spP (K:v9)(F:o_):Sp:=fun vs H Q _=>∃(β:Nat->V) (W:Wo) (as:List O),W.H=H/\as.length=vs.length/\Rep K β W (as.map some) (vs.map some)/\match F as with
 | .bad=>False
 | .ret o as'=>∀v W' fp,Stp W.S W.Hf W.H (orS W'.S fp) W'.Hf W'.H->Rep K β W' (as'.map some) (vs.map some)->RepO K W'.Hf W'.H o v fp->(∀a∈fp,¬ W'.S a)->Q v W'.H
section
variable {K:v9}{β β':Nat->V}{W W':Wo}{c c' cI cI' cO:Ev}{σ σ' σI σI':St}{D:Ends}{Hf H:Hp}{o:O}{v:V}{fp:v6}
theorem Su:∀{as:List O}{c:Ev}{as':List O},Ip as c=some as'->as'.length=as.length/\∀(i:Nat) (o':O),as'[i]?=some o'->(o'.own=false/\as[i]?=some o')\/(∃ds ds',o'=.ls true ds'/\as[i]?=some (.ls true ds)/\c[i]?=some (some (.ls true ds')))
 | [],c,as',e=>by cases (show some []=some as' from e);exact⟨rfl,fun i o' h=>by simp at h⟩
 | o::r,[],as',e=>by
  cases o with
  | ls b ds=>cases b <;> cases e
  | im d=>cases e
  | sc d=>cases e
  | ty d=>cases e
 | o::r,x::c,as',e=>by
  have go:∀o1:O,(Ip r c).map (o1::·)=some as'->((o1.own=false/\o1=o)\/(∃ds ds',o1=.ls true ds'/\o=.ls true ds/\x=some (.ls true ds'))) ->
   as'.length=(o::r).length/\∀(i:Nat) (o':O),as'[i]?=some o'->(o'.own=false/\(o::r)[i]?=some o')\/(∃ds ds',o'=.ls true ds'/\(o::r)[i]?=some (.ls true ds)/\(x::c)[i]?=some (some (.ls true ds'))):=fun o1 e1 h1=>by
   obtain⟨t,e2,rfl⟩:=aO.mp e1;obtain⟨l,g⟩:=Su e2
   refine⟨by rw[aH,aH,l],fun i o' h=>?_⟩
   cases i with
   | zero =>
    cases (show some o1=some o' from h)
    rcases h1 with ⟨z1,z2⟩ | ⟨ds,ds',z1,z2,z3⟩
    ·exact .inl ⟨z1,by rw[z2];rfl⟩
    ·exact .inr ⟨ds,ds',z1,by rw[z2];rfl,by rw[z3];rfl⟩
   | succ i=>exact g i o' (by simpa using h)
  cases o with
  | ls b ds =>
   cases b with
   | false=>cases e
   | true =>
    match x,e with
    | some (.ls true ds'),e=>exact go (.ls true ds') e (.inr ⟨ds,ds',rfl,rfl,rfl⟩)
    | some (.ls false ds'),e=>cases e
    | some (.im _),e=>cases e
    | some (.sc _),e=>cases e
    | some (.ty _),e=>cases e
    | none,e=>cases e
  | im d=>exact go (.im d) e (.inl ⟨rfl,rfl⟩)
  | sc d=>exact go (.sc d) e (.inl ⟨rfl,rfl⟩)
  | ty d=>exact go (.ty d) e (.inl ⟨rfl,rfl⟩)
theorem Aq5 {p:PV}{fp:v6}(R:Rep K β W c σ)(r:Gu K W σ p v fp)(e:resolve p c=some (o,c')) :
 ∃W2 fp2,W2.Hf=W.Hf/\W2.H=W.H/\Rep K β W2 c' σ/\RepO K W2.Hf W2.H o v fp2/\(∀a∈fp2,¬ W2.S a)/\∀a,orS W2.S fp2 a->orS W.S fp a:=by
 cases p with
 | o f =>
  have g:o=f.flag false/\c'=c:=by
   cases f with
   | ls b h=>cases e;exact⟨rfl,rfl⟩
   | im d=>cases e;exact⟨rfl,rfl⟩
   | sc d=>cases e;exact⟨rfl,rfl⟩
   | ty d=>cases e;exact⟨rfl,rfl⟩
  obtain⟨rfl,rfl⟩:=g
  refine⟨W,fp,rfl,rfl,R,?_,r.2,fun a z=>z⟩
  cases f with
  | ls b h=>exact r.1
  | im d=>exact r.1
  | sc d=>exact r.1
  | ty d=>exact r.1
 | sl i =>
  obtain⟨rfl,n⟩:=r;unfold resolve at e
  cases ec:c[i]? with
  | none=>simp_all
  | some x =>
   cases x with
   | none=>grind
   | some f =>
    obtain⟨v',g,k,_⟩:=R.get i _ ec
    cases (show some _=some _ from g.symm.trans n)
    cases f with
    | sc d=>simp_all
    | ty d=>simp_all
    | im d =>
     simp only[ec]at e
     cases e
     exact⟨W,[],rfl,rfl,R,⟨rfl,k.2⟩,(fun a z=>by cases z),fun a z=>z⟩
    | ls b h =>
     cases b with
     | true=>simp_all
     | false =>
      simp only[ec]at e
      cases e
      refine⟨⟨W.Hf,W.H,clr _ i⟩,W.fps i,rfl,rfl,R.drop i,k,fun a q ⟨j,m⟩=>?_,fun a z=>?_⟩
      ·obtain⟨s,l⟩:=Il m
       exact l (R.dis j i a s q)
      ·rcases z with z | z
       ·exact .inl (B0h z)
       ·exact .inl ⟨i,z⟩
theorem Hs {b a:Type}{l:List b}{f:b->a}{i:Nat}{y:a}(h:(l.map f)[i]?=some y):∃x,l[i]?=some x/\f x=y:=by
 grind
theorem A4g {p k:List O}{vs:n8}{z:Wo}(t:Rep K β z (p.map some) (vs.map some))(R:Rep K β W c σ)(S:Same z.Hf W.Hf)(e:Ip p c=some k) :
 ∃W2:Wo,W2.Hf=W.Hf/\W2.H=W.H/\Rep K β W2 (k.map some) (vs.map some)/\∀a,W2.S a->W.S a:=by
 obtain⟨E,G⟩:=Su e
 let f:Nat->v6:=fun i=>if Iz ((k.map some)[i]?) then W.fps i else []
 have g:∀i a,a∈f i->a∈W.fps i:=fun i a h=>by
  grind
 have m:p.length=vs.length:=by have:=t.len;rwa [ak,ak]at this
 refine⟨⟨W.Hf,W.H,f⟩,rfl,rfl,⟨R.sub,by rw[ak,ak,E,m],fun i o h=>?_,fun i j a u w=>R.dis i j a (g i a u) (g j a w),fun i a h=>R.own i a (g i a h)⟩,fun a ⟨i,h⟩=>⟨i,g i a h⟩⟩
 obtain⟨o',u,w⟩:=Hs h
 cases w
 rcases G i o u with ⟨n,q⟩ | ⟨A,C,rfl,J,D⟩
 ·obtain⟨v,s,r,_⟩:=t.get i o (by rw[bJ,q];rfl)
  have x:f i=[]:=by
   show (if Iz _ then W.fps i else [])=[]
   rw[h]
   cases o with
   | ls b A=>exact nomatch n
   | im d=>rfl
   | sc d=>rfl
   | ty d=>rfl
  refine⟨v,s,?_,?_⟩
  ·show RepO K W.Hf W.H o v (f i)
   rw[x]
   cases o with
   | ls b A=>exact nomatch n
   | im d=>exact⟨rfl,RepN.same S r.2⟩
   | sc d=>exact⟨rfl,RepN.same S r.2⟩
   | ty d=>exact⟨rfl,RepN.same S r.2⟩
  grind
 ·obtain⟨v,s,r,B⟩:=t.get i _ (by rw[bJ,J];rfl)
  obtain⟨H,F,I,y⟩:=R.get i _ D;have l:=y rfl;rw[<- (B rfl)]at l;subst l
  refine⟨H,s,?_,B⟩
  have x:f i=W.fps i:=by
   show (if Iz _ then W.fps i else [])=_
   rw[h];rfl
  show RepO K _ _ _ _ (f i)
  rw[x];exact I
theorem Cd {n:Nat}{N:v4}{body:Ev->SR}{T:TS}{vs:n8}{Q:VK}{E:XK}(h:MS K T body)(hs:spP K (Eo n N.length body) vs H Q E):T { nx:=fun _ H'=>Q .non H',rt:=Q } (start N vs) H:=by
 obtain⟨u,W,j,rfl,B,m,b⟩:=hs;unfold Eo at b
 by_cases hn:j.length=n
 ·rw[if_pos hn]at b
  let D:Ev:=j.map some++List.replicate (N.length-n) none
  have R:Rep K u W D (start N vs):=by
   refine⟨m.sub,?_,fun i o e=>?_,m.dis,m.own⟩
   ·show (j.map some++List.replicate (N.length-n) none).length=(vs.map some++List.replicate (N.length-vs.length) none).length
    rw[a_,a_,ak,ak,List.length_replicate,List.length_replicate,<- B,hn]
   ·have e:(j.map some++List.replicate (N.length-n) none)[i]?=some (some o):=e
    by_cases li:i<j.length
    ·rw[dI (by rw[ak];exact li)]at e
     obtain⟨v,w,r⟩:=m.get i o e
     refine⟨v,?_,r⟩
     show (vs.map some++List.replicate (N.length-vs.length) none)[i]?=_
     rw[dI (by rw[ak,<- B];exact li)];exact w
    ·rw[fK (by rw[ak];exact eV li),List.getElem?_replicate]at e
     split at e <;> cases e
  refine h u W D (start N vs) _ R ?_
  have l:∀p f c v d g,(match A2o j p f with
   | .bad=>False
   | .ret o t=>∀v W' g,Stp W.S W.Hf W.H (orS W'.S g) W'.Hf W'.H->Rep K u W' (t.map some) (vs.map some)->RepO K W'.Hf W'.H o v g->(∀a∈g,¬ W'.S a)->Q v W'.H) ->
   Stp W.S W.Hf W.H (orS d.S g) d.Hf d.H->Rep K u d f c->Gu K d c p v g->Q v d.H:=fun p f c v d g b k s x=>by
   unfold A2o at b
   cases er:resolve p f with
   | none=>simp only[er]at b
   | some q =>
    obtain⟨o,U⟩:=q;simp only[er]at b
    cases ea:Ip j U with
    | none=>simp only[ea]at b
    | some t =>
     simp only[ea]at b;obtain⟨W2,S,w,C,I,J,L,M⟩:=Aq5 s x er
     obtain⟨O,A,y,P,F⟩:=A4g m I (by rw[w];exact k.fz) ea
     rw[show d.H=O.H by rw[y,C]]
     refine b v _ _ ?_ P (by rw[A,y];exact J) fun a G z=>L a G (F a z)
     rw[A,y,w,C]
     exact k.less fun a z=>M a (by
      rcases z with z | z
      ·exact .inl (F a z)
      ·exact .inr z)
  cases eb:body _ with
  | nx f =>
   rw[show body _=.nx _ from eb]at b
   exact fun c d k s=>l _ _ _ _ _ _ b (k.less fun a z=>by
    rcases z with z | z
    ·exact z
    ·cases z) s ⟨⟨rfl,rfl⟩,fun a z=>nomatch z⟩
  | rt p f =>
   rw[show body _=.rt p _ from eb]at b
   exact fun c v d g k s x=>l p _ _ v _ _ b k s x
  | bk f=>rw[show body _=.bk _ from eb]at b;exact b.elim
  | ct f=>rw[show body _=.ct _ from eb]at b;exact b.elim
  | bad=>rw[show body _=.bad from eb]at b;exact b.elim
 ·rw[if_neg hn]at b;exact b.elim
theorem Ce {n:Nat}{N:Nat}{body:Ev->SR}{vs:n8}{Q:VK}{E:XK}(hs:spP K (Eo n N body) vs H Q E):vs.length=n:=by
 obtain⟨d,W,c,b,e,f,a⟩:=hs;unfold Eo at a
 grind
def Q3 (c:Ev):List PV->Option (List O)
 | []=>some []
 | .o o::r=>(Q3 c r).map (o::·)
 | .sl i::r=>match c[i]? with
  | some (some o)=>(Q3 c r).map (o.flag true::·)
  | _=>none
def slots:List PV->p6
 | []=>[]
 | .o _::r=>none::slots r
 | .sl i::r=>some i::slots r
def ndB:List Nat->Bool
 | []=>true
 | x::r=>!r.contains x&&ndB r
theorem A6i:∀{l:List Nat},ndB l=true->l.Nodup
 | [],_=>cR
 | x::r,h=>by
  obtain⟨h1,h2⟩:=aq.mp (show (!r.contains x&&ndB r)=true from h)
  rw[bH]
  exact⟨fun z=>by simp[z]at h1,A6i h2⟩
def M8 (F:o_)(ps:List PV)(c:Ev):R PV:=match Q3 c ps with
 | none=>.bad
 | some as=>if ndB ((pairsOf 0 (slots ps)).map (·.2))=true then match F as with
  | .bad=>.bad
  | .ret o as'=>match Hw (as'.map some) (pairsOf 0 (slots ps)) c with
   | none=>.bad
   | some c=>.ok (.o o) c
  else .bad
def cF (F:o_)(fa:o5):o7:=fun c=>(fa c).bind fun ps c=>M8 F ps c
theorem Wa {Hf:Hp}:∀{ps:List PV}{vs:n8}{as:List O},Q3 c ps=some as->zE K Hf σ ps vs->as.length=vs.length/\∀(k:Nat) (o:O),as[k]?=some o->∃v,vs[k]?=some v /\
 ((RepN K Hf o v/\(slots ps)[k]?=some none)\/∃i o',(slots ps)[k]?=some (some i)/\c[i]?=some (some o')/\o=o'.flag true/\σ[i]?=some (some v))
 | [],vs,as,e,h=>by cases (show some []=some as from e);cases (show vs=[] from h);exact⟨rfl,fun k o h=>by simp at h⟩
 | .o o1::r,_,as,e,⟨v,vr,rfl,h,t⟩=>by
  obtain⟨l,e2,rfl⟩:=aO.mp (show (Q3 c r).map (o1::·)=some as from e)
  obtain⟨hl,hg⟩:=Wa e2 t
  refine⟨by rw[aH,aH,hl],fun k o hk=>?_⟩
  cases k with
  | zero=>cases (show some o1=some o from hk);exact⟨v,rfl,.inl ⟨h,rfl⟩⟩
  | succ k=>exact hg k o (by simpa using hk)
 | .sl i::r,_,as,e,⟨v,vr,rfl,h,t⟩=>by
  unfold Q3 at e
  cases ec:c[i]? with
  | none=>simp only[ec]at e;cases e
  | some x =>
   cases x with
   | none=>simp only[ec]at e;cases e
   | some o1 =>
    simp only[ec]at e;obtain⟨l,e2,rfl⟩:=aO.mp e;obtain⟨hl,hg⟩:=Wa e2 t
    refine⟨by rw[aH,aH,hl],fun k o hk=>?_⟩
    cases k with
    | zero=>cases (show some (o1.flag true)=some o from hk);exact⟨v,rfl,.inr ⟨i,o1,rfl,ec,rfl,h⟩⟩
    | succ k=>exact hg k o (by simpa using hk)
theorem Tc {Hf:Hp}:∀{ps:List PV}{vs:n8}{k i:Nat}{v:V},zE K Hf σ ps vs->(slots ps)[k]?=some (some i)->σ[i]?=some (some v)->vs[k]?=some v
 | [],vs,k,i,v,h,e,q=>by simp[slots]at e
 | .o _::r,_,k,i,v,⟨v1,vr,rfl,h,t⟩,e,q=>by
  cases k with
  | zero=>simp[slots]at e
  | succ k=>have:=Tc (k:=k) t (by simpa[slots] using e) q;simpa using this
 | .sl j::r,_,k,i,v,⟨v1,vr,rfl,h,t⟩,e,q=>by
  cases k with
  | zero =>
   have:j=i:=by simpa[slots] using e
   subst this
   cases (show some (some v1)=some (some v) from (show σ[j]?=some (some v1) from h).symm.trans q)
   rfl
  | succ k=>have:=Tc (k:=k) t (by simpa[slots] using e) q;simpa using this
theorem Aq0 {F:o_}{E:XK}{W1:Wo}{c1:Ev}{ps:List PV}{vs:n8}{Q:VK}(g:Rep K β W1 c1 σ)(R:zE K W1.Hf σ ps vs)
 (s1:(M8 F ps c1).sat fun p c'=>∀v e y,Stp W1.S W1.Hf W1.H (orS e.S y) e.Hf e.H->Rep K β e c' σ->Gu K e σ p v y->(∀j a,a∈W1.fps j->some j∉slots ps->e.H a=W1.H a)->Q v e.H):spP K F (vs++[]) W1.H Q E:=by
 unfold M8 at s1
 cases ea:Q3 c1 ps with
 | none=>simp only[ea]at s1;exact s1.elim
 | some M =>
  simp only[ea]at s1
  by_cases nd:ndB ((pairsOf 0 (slots ps)).map (·.2))=true
  ·rw[if_pos nd]at s1
   obtain⟨P,hg⟩:=Wa ea R
   let m:=pairsOf 0 (slots ps)
   let l:Nat->V:=fun k=>(vs[k]?).getD .non
   have L:Lent K W1.Hf m c1 σ l (M.map some) (vs.map some):=by
    refine⟨Q6,A6i nd,by rw[ak,ak];exact P,fun k o B=>?_⟩
    obtain⟨o1,T,h2⟩:=Hs B
    cases h2
    obtain⟨v,u,q⟩:=hg k o T
    have c:(vs.map some)[k]?=some (some v):=by rw[bJ,u];rfl
    rcases q with ⟨I,t⟩ | ⟨i,H,t,n,rfl,G⟩
    ·refine .inl ⟨?_,fun i Z=>?_,v,c,I⟩
     ·cases o with
      | ls b D=>exact I.elim
      | im d=>rfl
      | sc d=>rfl
      | ty d=>rfl
     ·have:=(Gz Z).2
      rw[dg,t]at this;cases this
    ·have f:Iz c1[i]?=false->∀j,(k,j)∈m->Iz c1[j]?=false:=fun q j z=>by
      have:=(Gz z).2;rw[dg,t]at this;cases this;exact q
     obtain⟨v',w,r,_⟩:=g.get i H n
     cases (show some _=some _ from w.symm.trans G)
     cases H with
     | im d=>exact .inl ⟨rfl,f (by rw[n];rfl),v,c,r.2⟩
     | sc d=>exact .inl ⟨rfl,f (by rw[n];rfl),v,c,r.2⟩
     | ty d=>exact .inl ⟨rfl,f (by rw[n];rfl),v,c,r.2⟩
     | ls b D=>exact .inr ⟨i,b,D,v,Oo  t,n,rfl,G,c,by show vs[k]?.getD _=v;rw[u];rfl⟩
   refine⟨l,⟨W1.Hf,W1.H,Va m _ _⟩,M,rfl,by rw[cj];exact P,by rw[cj];exact(L.rep g),?_⟩
   cases ef:F _ with
   | bad=>simp only[ef]at s1;exact s1.elim
   | ret o A =>
    simp only[ef]at s1;intro v e y J U W X
    cases eb:Hw (A.map some) m c1 with
    | none=>simp only[m]at eb;simp only[eb]at s1;exact s1.elim
    | some cO =>
     have h:=eb;simp only[m]at h;simp only[h]at s1
     obtain⟨W2,w,x,R2,C,Y⟩:=L.back g U J eb (fun k i b D v hm hc u=>by
      have:=(Gz hm).2;rw[dg]at this
      show vs[k]?.getD _=v
      rw[Tc R this u];rfl) X
     rw[<- x]
     refine s1 v _ _ (by rw[w,x];exact C) R2 ⟨by rw[w,x];exact W,Y⟩ fun j a N z=>?_
     obtain⟨_,ob,s,_⟩:=g.own j a N;rw[x,s]
     refine J.kp a _ s fun⟨k,B⟩=>z ?_
     obtain⟨i,q1,_,S⟩:=Hl B
     cases g.dis i j a S N
     have:=(Gz q1).2;exact bR this
  ·rw[if_neg nd]at s1;exact s1.elim
theorem Oj {F:o_}{E:XK}{W1:Wo}{c1:Ev}{ps:List PV}{vs:n8}{Q:VK}(d:Rep K β W1 c1 σ)(e:zE K W1.Hf σ ps vs)
 (s1:(M8 F ps c1).sat fun p c'=>∀v a b,Stp W1.S W1.Hf W1.H (orS a.S b) a.Hf a.H->Rep K β a c' σ->Gu K a σ p v b->Q v a.H):spP K F (vs++[]) W1.H Q E :=
 Aq0 d e (s1.mono fun p c' k v a b c R r _=>k v _ _ c R r)
theorem Am {F:o_}{E:XK}{t:TA}{fa:o5}(ha:MA K t fa):ME K (Zi (spP K F) [] E t) (cF F fa):=by
 intro j W c h Q R s
 refine ha _ W c _ _ R (s.bnd.mono fun l m f u i a e d=>?_)
 exact Oj e d (f.mono fun p n k v o q g b r=>k v _ _ (a.trans g) b r)
theorem zE.ext {Hf:Hp}{x:Option V}:∀{ps:List PV}{vs:n8},zE K Hf σ ps vs->zE K Hf (σ++[x]) ps vs
 | [],vs,h=>h
 | .o _::r,_,⟨v,vr,e,h,t⟩=>⟨v,vr,e,h,zE.ext t⟩
 | .sl i::r,_,⟨v,vr,e,h,t⟩=>⟨v,vr,e,by
  have h:σ[i]?=some (some v):=h
  have:i<σ.length:=by
   rcases aM i σ.length with q | q
   ·exact q
   ·rw[cN q]at h;cases h
  show (σ++[x])[i]?=_
  rw[dI this];exact h,zE.ext t⟩
def cFO (F:o_)(fa:o7)(fr:o5):o7:=fun c=>(fa c).bind fun p c=>(fr c).bind fun ps c=>match p with
 | .o (.ls _ ds)=>(M8 F (.sl c.length::ps) (c++[some (.ls false ds)])).bind fun r c'=>match r with
  | .o o=>.ok (.o o) c'.dropLast
  | .sl _=>.bad
 | _=>.bad
theorem A6h {F:o_}{E:XK}{ta:TE}{t:TA}{fa:o7}{fr:o5}(ha:ME K ta fa)(hr:MA K t fr):ME K (Zi (spP K F) [] E (Cw ta t)) (cFO F fa fr):=by
 intro T W c g Q R s
 refine ha T W c g _ R (s.bnd.mono fun p c1 s1 v1 W1 fp1 st1 R1 X=>?_)
 refine hr T W1 c1 g _ R1 (s1.bnd.mono fun ps n u vs m l y r2=>?_)
 match p,X,u with
 | .sl _,_,u=>exact u.elim
 | .o (.im _),_,u=>exact u.elim
 | .o (.sc _),_,u=>exact u.elim
 | .o (.ty _),_,u=>exact u.elim
 | .o (.ls b ds),X,u =>
  obtain⟨⟨a,us,rfl,rfl,hf,U,t⟩,D⟩:=X;have D:=D a (.head _);have G:=l.kp a _ U D;have L:=l.nf a _ U trivial D hf
  have B:¬ m.S a:=fun z=>by
   rcases l.fr a z with q | q
   ·exact D q
   ·rw[U]at q;cases q
  let H:Wo:=⟨m.Hf,m.H,fun j=>if j=n.length then [a] else m.fps j⟩
  have d:∀j x,x∈H.fps j->(j=n.length/\x=a)\/x∈m.fps j:=fun j x h=>by
   have h:x∈if j=n.length then [a] else m.fps j:=h
   split at h
   ·rename_i z;exact .inl ⟨z,aG.mp h⟩
   ·exact .inr h
  have R3:Rep K T H (n++[some (.ls false ds)]) (g++[some (.ref a)]):=by
   refine⟨y.sub,by rw[a_,a_,y.len];rfl,fun i o e=>?_,fun i j x Z P=>?_,fun i x h=>?_⟩
   ·by_cases z:i<n.length
    ·rw[dI z]at e
     obtain⟨v,N,r,Y⟩:=y.get i o e
     refine⟨v,by rw[dI (by rw[<- y.len];exact z)];exact N,?_,Y⟩
     show RepO K m.Hf m.H o v (if i=n.length then [a] else m.fps i)
     rw[if_neg (by omega)];exact r
    ·by_cases z2:i=n.length
     ·subst z2
      rw[fK (aj _),eE]at e
      cases e
      refine⟨.ref a,by rw[y.len,fK (aj _),eE];rfl,?_,fun z=>nomatch z⟩
      refine⟨a,us,rfl,?_,L,G,TrL.same l.fz t⟩
      show (if n.length=n.length then [a] else _)=_
      rw[if_pos rfl]
     ·rw[cN (by rw[a_,bY];omega)]at e;cases e
   ·rcases d i x Z with ⟨q1,C⟩ | q
    ·rcases d j x P with ⟨q3,q4⟩ | M
     ·omega
     ·rw[C]at M;exact absurd ⟨j,M⟩ B
    ·rcases d j x P with ⟨q3,q4⟩ | M
     ·rw[q4]at q;exact absurd ⟨i,q⟩ B
     ·exact y.dis i j x q M
   ·rcases d i x h with ⟨q1,C⟩ | q
    ·rw[C];exact⟨L,_,G,trivial⟩
    ·exact y.own i x q
  have J:Stp W.S W.Hf W.H H.S m.Hf m.H:=by
   refine (st1.trans (Stp.more (F:=fun x=>x∈[a]) l)).less fun x ⟨i,z⟩=>?_
   rcases d i x z with ⟨q1,C⟩ | q
   ·exact .inr (by rw[C];exact .head _)
   ·exact .inl ⟨i,q⟩
  have r3:zE K H.Hf (g++[some (.ref a)]) (.sl n.length::ps) (.ref a::vs) :=
   ⟨.ref a,vs,rfl,by show (g++[some (V.ref a)])[n.length]?=_;rw[y.len,fK (aj _),eE];rfl,zE.ext r2⟩
  refine Oj (W1:=H) R3 r3 (u.bnd.mono fun p c' k v A fp st I r=>?_)
  match p,r,k with
  | .sl _,r,k=>exact k.elim
  | .o o,r,k =>
   have hl:c'.length=g.length+1:=by have:=I.len;rw[a_,bY]at this;exact this
   let S:Wo:=⟨A.Hf,A.H,fun j=>if j<g.length then A.fps j else []⟩
   have f:∀j x,x∈S.fps j->x∈A.fps j/\j<g.length:=fun j x h=>by
    have h:x∈if j<g.length then A.fps j else []:=h
    split at h
    ·rename_i z;exact⟨h,z⟩
    ·cases h
   have R4:Rep K T S c'.dropLast g:=by
    refine⟨I.sub,by rw[List.length_dropLast,hl];rfl,fun i o e=>?_,fun i j x Z P=>I.dis i j x (f i x Z).1 (f j x P).1,fun i x h=>I.own i x (f i x h).1⟩
    have z:i<g.length:=by
     rcases aM i g.length with q | q
     ·exact q
     ·rw[cN (by rw[List.length_dropLast,hl];exact q)]at e;cases e
    rw[List.getElem?_dropLast,if_pos (by omega)]at e
    obtain⟨v,N,r,Y⟩:=I.get i o e
    refine⟨v,by rw[dI z]at N;exact N,?_,Y⟩
    show RepO K _ _ o v (if i<g.length then A.fps i else [])
    rw[if_pos z];exact r
   have w:∀x,S.S x->A.S x:=fun x ⟨i,h⟩=>⟨i,(f i x h).1⟩
   refine k v S _ ((J.trans st).less fun x z=>?_) R4 ⟨r.1,fun x hx z=>r.2 x hx (w x z)⟩
   rcases z with z | z
   ·exact .inl (w x z)
   ·exact .inr z
end
def B3m (is:List Nat)(c:Ev):Ev:=is.foldl (fun c i=>c.set i none) c
section
variable {K:v9}{X:Cx}{Hf H:Hp}{Q:VK}
theorem OpR.or {X:Cx}{f:Value->Value->Sem Value}{r b:R2}(h:OpR X f r)(h':OpR X f b):OpR X f (fun x y H Q=>r x y H Q\/b x y H Q):=by
 intro c s e H x y v u Q I d a q
 rcases q with q | q
 ·exact h _ s _ H x y v u Q I d a q
 ·exact h' _ s _ H x y v u Q I d a q
theorem CallR.or {X:Cx}{f:Value}{r b:n8->Hp->VK->Prop}(h:CallR X f r)(h':CallR X f b):CallR X f (fun xs H Q=>r xs H Q\/b xs H Q):=by
 intro c s d H xs e Q I a q
 rcases q with q | q
 ·exact h _ s _ H _ _ Q I a q
 ·exact h' _ s _ H _ _ Q I a q
theorem Ep {i:Int}{v:V}(h:RdV Hf H (.int i) v):v=.int i:=h
theorem Hc {x:Str}{v:V}(h:RdV Hf H (.str x) v):v=.str x:=h
theorem Rm {b:Bool}{v:V}(h:RdV Hf H (.bool b) v):v=.bl b:=h
theorem Vj {v:V}(h:RdV Hf H .none v):v=.non:=h
theorem Ha {ds:w5}{v:V}(s:Same Hf H)(h:RdV Hf H (.tuple ds) v):∃a b,v=.ref a/\H a=some (.tup b)/\TrL Hf ds b:=by
 obtain⟨a,b,e,q,t⟩:=(show Tr _ _ v from h)
 exact⟨a,b,e,s _ _ q,t⟩
theorem G7 {ds:w5}{v:V}(h:RdV Hf H (.list ds) v):∃a vs,v=.ref a/\H a=some (.lst vs)/\TrL Hf ds vs:=h
theorem New.int {i:Int}(h:New K Hf H (.im (.int i)) Q)(s:Same Hf H):Q (.int i) H:=h.same s rfl
theorem New.bl {b:Bool}(h:New K Hf H (.im (.bool b)) Q)(s:Same Hf H):Q (.bl b) H:=h.same s rfl
theorem New.str {x:Str}(h:New K Hf H (.im (.str x)) Q)(s:Same Hf H):Q (.str x) H:=h.same s rfl
theorem New.tupS {ds:w5}{vs:n8}(h:New K Hf H (.im (.tuple ds)) Q)(s:Same Hf H)(t:TrL Hf ds vs){p:Addr}{H':Hp}(S:Same H H')(hp:H' p=some (.tup vs)):Q (.ref p) H':=by
 have c:Same _ (upd Hf p (.tup vs)):=fun b u e=>by
  unfold upd
  split
  ·have:=S b u (s b u e)
   simp_all
  grind
 refine h _ _ _ [] ⟨c,fun a o e _=>S a o e,fun a o e d _ q=>?_,fun a z=>nomatch z⟩ (fun b u e=>?_) ⟨rfl,p,vs,rfl,Cq,TrL.same c t⟩
 ·unfold upd
  split
  ·rename_i z
   have:=S a o e;rw[z,hp]at this
   cases this
   trivial
  omega
 ·unfold upd at e
  split at e
  ·simp_all
  ·exact S b u (s b u e)
def By9:R2:=fun x y H Q=>(rI0 (fun i j=>.int (i+j)) x y H Q\/(∃i j,x=.str i/\y=.str j/\i.length+j.length<=sizeLine/\Q (.str (i++j)) H))\/(B2m x y H Q\/Bn0 x y H Q)
theorem B0b:OpR X (binaryOp .Add) By9:=OpR.or (OpR.or Bp6 Ap7) (OpR.or B0l Ba2)
def Ci:t6->t6->n7
 | .int i,.int j=>some (.im (.int (i+j)))
 | .str a,.str b=>if a.length+b.length<=16000000 then some (.im (.str (a++b))) else none
 | .list a,.list b=>if a.length+b.length<=16000000 then some (.ls false (a++b)) else none
 | .tuple a,.tuple b=>if a.length+b.length<=16000000 then some (.im (.tuple (a++b))) else none
 | _,_=>none
theorem lim {n:Nat}(h:n<=16000000):n<=sizeLine:=ao h (by decide)
theorem Di:OpS K By9 Ci:=by
 intro C H x y A B o Q s g f e n;unfold Ci at e
 split at e
 ·rename_i i j
  cases e
  exact .inl (.inl ⟨i,j,Ep g,Ep f,n.int s⟩)
 ·rename_i a b
  split at e
  ·rename_i l
   cases e
   exact .inl (.inr ⟨a,b,Hc g,Hc f,lim l,n.str s⟩)
  ·cases e
 ·have e  := e
  split at e
  ·rename_i l
   cases e
   obtain⟨p,v,k,h,d⟩:=G7 g;obtain⟨q,t,u,m,c⟩:=G7 f
   exact .inr (.inl ⟨p,q,v,t,k,u,h,m,by rw[<- d.length,<- c.length];exact lim l,fun r w=>n.lst s (d.app c) w⟩)
  ·cases e
 ·have e  := e
  split at e
  ·rename_i l
   cases e
   obtain⟨p,v,k,h,d⟩:=Ha s g;obtain⟨q,t,u,m,c⟩:=Ha s f
   exact .inr (.inr ⟨p,q,v,t,k,u,h,m,by rw[<- d.length,<- c.length];exact lim l,fun r z S w=>n.tupS s (d.app c) S w⟩)
  ·cases e
 ·cases e
def opI (C:Int->Int->Bool)(g:Int->Int->Int):t6->t6->n7
 | .int i,.int j=>if C i j then some (.im (.int (g i j))) else none
 | _,_=>none
theorem Az4 {a:Int->Int->Prop}{C:Int->Int->Bool}{g:Int->Int->Int}(hc:∀i j,C i j=true->a i j):OpS K (rI a fun i j=>.int (g i j)) (opI C g):=by
 intro d H x y h f o Q s c b e n;unfold opI at e
 split at e
 ·rename_i i j
  split at e
  ·rename_i l
   cases e
   exact⟨i,j,Ep c,Ep b,hc i j l,n.int s⟩
  trivial
 grind
def Yc (g:Int->Int->t6):t6->t6->n7
 | .int i,.int j=>some (.im (g i j))
 | _,_=>none
theorem Aa0 {g:Int->Int->t6}{g':Int->Int->V}(hg:∀i j H,Tr H (g i j) (g' i j)):OpS K (rI0 g') (Yc g):=by
 intro c H x y f d o Q s a b e n;unfold Yc at e
 split at e
 ·rename_i i j
  cases e
  exact⟨i,j,Ep a,Ep b,n.same s (hg i j _)⟩
 trivial
def Wl (i j:Int):Bool:=(decide (-(2 ^ 64)<i)&&decide (i<2 ^ 64))||(decide (-(2 ^ 64)<j)&&decide (j<2 ^ 64))
def Dp (d:t6):Bool:=d.canLay0&&decide (d.depth<=40)
theorem G9 {d:t6}(h:Dp d=true):Flat d:=by
 obtain⟨b,a⟩:=aq.mp h;exact⟨b,aL a⟩
def Vg:t6->t6->Bool
 | .str _,.str _=>true
 | _,_=>false
def Dd (neg:Bool)(a b:t6):n7:=if (Dp a&&Dp b)||Vg a b then some (.im (.bool (if neg then !PyData.eqv a b else PyData.eqv a b))) else none
def rEQ:R2:=fun x y H Q=>B3y x y H Q\/rEq x y H Q
def rNE:R2:=fun x y H Q=>B3w x y H Q\/rNe x y H Q
theorem Bl4 (hu:X.A.units+64<cLine):OpR X (compareOp .Eq) rEQ:=OpR.or (Bz3 hu) B2y
theorem B1q (hu:X.A.units+64<cLine):OpR X (compareOp .NotEq) rNE:=OpR.or (Bt9 hu) B2z
theorem Vu (x y:Str):PyData.eqv (.str x) (.str y)=decide (V.str x=V.str y):=by
 show (x==y)=_
 grind
theorem Fg:OpS K rEQ (Dd false):=by
 intro h H x y f d o Q s b a e n;unfold Dd at e
 split at e
 ·rename_i l
  cases e
  rcases Bool.or_eq_true_iff.mp l with l | l
  ·obtain⟨g,c⟩:=aq.mp l
   exact .inl ⟨f,d,b.tr s,a.tr s,G9 g,G9 c,n.bl s⟩
  ·unfold Vg at l
   split at l
   ·cases Hc b
    cases Hc a
    refine .inr ⟨rfl,?_⟩
    rw[<- Vu];exact n.bl s
   grind
 grind
theorem Qa:OpS K rNE (Dd true):=by
 intro h H x y f d o Q s b a e n;unfold Dd at e
 split at e
 ·rename_i l
  cases e
  rcases Bool.or_eq_true_iff.mp l with l | l
  ·obtain⟨g,c⟩:=aq.mp l
   exact .inl ⟨f,d,b.tr s,a.tr s,G9 g,G9 c,n.bl s⟩
  ·unfold Vg at l
   split at l
   ·cases Hc b
    cases Hc a
    refine .inr ⟨rfl,?_⟩
    rw[<- Vu];exact n.bl s
   grind
 grind
def rLE:R2:=fun x y H Q=>rI0 (fun i j=>.bl (decide (i<=j))) x y H Q\/∃i j,x=.str i/\y=.str j/\Q (.bl (!decide (j.cps.toList<i.cps.toList))) H
theorem B1u:OpR X (compareOp .LtE) rLE:=OpR.or B1y A1g
def Am3:t6->t6->n7
 | .int i,.int j=>some (.im (.bool (decide (i<=j))))
 | .str i,.str j=>some (.im (.bool (!decide (j.cps.toList<i.cps.toList))))
 | _,_=>none
theorem A8s:OpS K rLE Am3:=by
 intro c H x y f d o Q s a b e n;unfold Am3 at e
 split at e
 ·rename_i i j
  cases e
  exact .inl ⟨i,j,Ep a,Ep b,n.bl s⟩
 ·rename_i i j
  cases e
  exact .inr ⟨i,j,Hc a,Hc b,n.bl s⟩
 trivial
def Jf (neg:Bool)(a b:t6):n7:=match b with
 | .none=>some (.im (.bool (match a with
  | .none=>!neg
  | _=>neg)))
 | _=>none
theorem Bh4 {d:t6}{v:V}(h:RdV Hf H d v):decide (v=.non)=(match d with | .none=>true | _=>false):=by
 cases d with
 | none=>cases Vj h;rfl
 | bool b=>cases Rm h;rfl
 | int i=>cases Ep h;rfl
 | str x=>cases Hc h;rfl
 | list c=>obtain⟨a,e,rfl,_⟩:=G7 h;rfl
 | tuple c=>obtain⟨a,e,rfl,_⟩:=(show Tr _ _ v from h);rfl
 | dict k=>trivial
theorem Vh:OpS K (fun x y H Q=>y=.non/\Q (.bl (decide (x=.non))) H) (Jf false):=by
 intro f H x y c b o Q s d a e n
 match b,a,e with
 | .none,a,e =>
  refine⟨Vj a,?_⟩
  rw[Bh4 d]
  cases e
  cases c <;> exact n.bl s
def rIN:R2:=fun x y H Q=>Bg5 false x y H Q\/B3s x y H Q
theorem Bm5 (hu:X.A.units+64<cLine):OpR X (compareOp .In) rIN:=OpR.or (Bn9 hu) A0t
def Li (neg:Bool):t6->t6->n7
 | d,.list ds=>if Dp d&&PyData.canLayAll0 ds then some (.im (.bool (if neg then !(ds.any fun e=>PyData.eqv e d) else ds.any fun e=>PyData.eqv e d))) else none
 | d,.tuple ds=>if Dp d&&PyData.canLayAll0 ds then some (.im (.bool (if neg then !(ds.any fun e=>PyData.eqv e d) else ds.any fun e=>PyData.eqv e d))) else none
 | .str i,.str j=>if neg then none else some (.im (.bool (!(Builtin.Str.occurrences j i 0 j.length 1).isEmpty)))
 | _,_=>none
theorem A5f:OpS K rIN (Li false):=by
 intro h H x y g k o Q s b d e n;unfold Li at e
 split at e
 ·rename_i c
  have e  := e
  split at e
  ·rename_i l
   obtain⟨f,a⟩:=aq.mp l
   cases e
   exact .inl ⟨g,c,b.tr s,.inl (d.tr s),G9 f,a,n.bl s⟩
  grind
 ·rename_i c
  have e  := e
  split at e
  ·rename_i l
   obtain⟨f,a⟩:=aq.mp l
   cases e
   exact .inl ⟨g,c,b.tr s,.inr (d.tr s),G9 f,a,n.bl s⟩
  simp_all
 ·rename_i i j
  cases e
  exact .inr ⟨i,j,Hc b,Hc d,n.bl s⟩
 trivial
theorem Tf:OpS K (Bg5 true) (Li true):=by
 intro h H x y f i o Q s d g e n;unfold Li at e
 split at e
 ·rename_i a
  have e  := e
  split at e
  ·rename_i l
   obtain⟨c,b⟩:=aq.mp l
   cases e
   exact⟨f,a,d.tr s,.inl (g.tr s),G9 c,b,n.bl s⟩
  simp_all
 ·rename_i a
  have e  := e
  split at e
  ·rename_i l
   obtain⟨c,b⟩:=aq.mp l
   cases e
   exact⟨f,a,d.tr s,.inr (g.tr s),G9 c,b,n.bl s⟩
  grind
 ·simp_all
 grind
theorem A9v {ds:w5}{vs:n8}{i:Int}{d:t6}(t:TrL Hf ds vs)(h:atI ds i=some d):∃v,atI vs i=some v/\Tr Hf d v:=by
 unfold atI at h ⊢;rw[<- t.length];obtain⟨j,c,a⟩:=bZ.mp h;obtain⟨v,e,b⟩:=t.got a
 grind
def cutD (ds:w5)(lo hi:q9):w5:=(ds.drop (HT.sIx ds.length 0 lo)).take (HT.sIx ds.length ds.length hi-HT.sIx ds.length 0 lo)
theorem TrL.drop':∀{ds:w5}{vs:n8}(n:Nat),TrL Hf ds vs->TrL Hf (ds.drop n) (vs.drop n)
 | ds,vs,0,h=>h
 | [],_,n+1,h=>by cases (show _=[] from h);exact rfl
 | d::ds,_,n+1,⟨v,r,rfl,_,t⟩=>TrL.drop' n t
theorem TrL.take':∀{ds:w5}{vs:n8}(n:Nat),TrL Hf ds vs->TrL Hf (ds.take n) (vs.take n)
 | ds,vs,0,h=>by rw[List.take_zero,List.take_zero];exact rfl
 | [],_,n+1,h=>by cases (show _=[] from h);exact rfl
 | d::ds,_,n+1,⟨v,r,rfl,q,t⟩=>⟨v,r.take n,rfl,q,TrL.take' n t⟩
theorem TrL.cut {ds:w5}{vs:n8}{lo hi:q9}(t:TrL Hf ds vs):TrL Hf (cutD ds lo hi) (A1i vs lo hi):=by
 unfold cutD A1i;rw[<- t.length];exact TrL.take' _ (TrL.drop' _ t)
theorem TrL.rev:∀{ds:w5}{vs:n8},TrL Hf ds vs->TrL Hf ds.reverse vs.reverse
 | [],_,h=>by cases (show _=[] from h);exact rfl
 | d::ds,_,⟨v,r,rfl,q,t⟩=>by
  rw[dB,dB];exact(TrL.rev t).app (TrL.one q)
end
section
variable {K:v9}{X:Cx}{Hf H:Hp}{Q:VK}{β:Nat->V}{W W':Wo}{c c':Ev}{σ:St}{v:V}
theorem Bo6 {d:t6}{xs:n8}(h:Bu4 Hf H [d] xs):∃x,xs=[x]/\RdV Hf H d x:=by
 obtain⟨v,r,b,c,a⟩:=h
 cases (a)
 grind
def Ht:w5->n7
 | [.list ds]=>some (.im (.int ds.length))
 | [.tuple ds]=>some (.im (.int ds.length))
 | [.str z]=>if z.length<=16000000 then some (.im (.int z.length)) else none
 | _=>none
theorem A1z:B1c K (Uk K) Ht:=by
 intro Hf H xs ds o Q s d e n;unfold Ht at e
 split at e
 ·obtain⟨x,rfl,r⟩:=Bo6 d
  obtain⟨a,c,rfl,b,t⟩:=G7 r
  cases e
  refine⟨.ref a,c.length,rfl,Be5 b,?_⟩
  rw[<- t.length];exact n.int s
 ·obtain⟨x,rfl,r⟩:=Bo6 d
  obtain⟨a,c,rfl,b,t⟩:=Ha s r
  cases e
  refine⟨.ref a,c.length,rfl,Bj1 b,?_⟩
  rw[<- t.length];exact n.int s
 ·rename_i z
  obtain⟨x,rfl,r⟩:=Bo6 d
  cases Hc r
  split at e
  ·rename_i l
   cases e
   refine⟨.str z,z.length,rfl,?_,n.int s⟩
   show (if z.length<=sizeLine then some _ else none)=_
   rw[if_pos (lim l)]
  trivial
 simp_all
def Bj5 (K:v9):n8->Hp->VK->Prop:=fun xs H Q=>Uk K xs H Q\/Ap8 K xs H Q
theorem A6j:CallR X (.builtin "len") (Bj5 X.K):=CallR.or A1y Ag8
def Gj (f:o7):o7:=fun c=>(f c).bind fun p c=>match nrm p with
 | .o (.sc ns)=>.ok (.o (.im (.int ns.length))) c
 | p=>match Es c p with
  | some d=>match Ht [d] with
   | some o=>.ok (.o o) c
   | none=>.bad
  | none=>.bad
theorem Ex {t:TE}{f:o7}(h:ME K t f):ME K (tCB (Bj5 K) (Cw t Gf)) (Gj f):=by
 intro A W c u Q R s
 refine h.toV A W c u _ R (s.bnd.mono fun p w e v r n k g=>?_)
 have m:∀q:PV,RepA K r.Hf u q v->((match Es w q with
  | some d=>(match Ht [d] with
   | some o=>.ok (.o o) w
   | none=>.bad)
  | none=>.bad:U.R PV)).sat (fun p C=>∀v j l,Stp W.S W.Hf W.H (orS j.S l) j.Hf j.H->Rep K A j C u->Gu K j u p v l->Q v j.H)->Bj5 K [v] r.H Q:=fun q g e=>by
  cases ex:Es w q with
  | none=>simp only[ex]at e;exact e.elim
  | some d =>
   simp only[ex]at e
   cases eo:Ht [d] with
   | none=>simp only[eo]at e;exact e.elim
   | some o =>
    simp only[eo]at e
    exact .inl (A1z r.Hf r.H [v] [d] o Q k.sub ⟨v,[],rfl,Fz k g ex,rfl⟩ eo (New.of k fun v j l z y x=>e v j l (n.trans z) y x))
 generalize nrm p=q at e g
 match q,g,e with
 | .o (.sc ns),g,e =>
  obtain⟨a,rfl,B⟩:=g;have e:∀v j l,Stp _ _ _ _ _ _->Rep K _ j _ _->Gu K _ _ _ v _->Q v _:=e
  refine .inr ⟨.ref a,ns.length,rfl,?_,(New.of k fun v j l z y x=>e v _ _ (n.trans z) y x).int k.sub⟩
  exact .inl ⟨ns.map _,Same.seq k.sub B,by simp_all⟩
 | .o (.im d),g,e=>exact m _ g e
 | .o (.ls b d),g,e=>trivial
 | .o (.ty T),g,e=>trivial
 | .sl i,g,e=>exact m _ g e
inductive Ty5 where
 | int | str | bool | list | tuple
def Ty5.nm:Ty5->String
 | .int => "int"
 | .str => "str"
 | .bool => "bool"
 | .list => "list"
 | .tuple => "tuple"
def Lw:Ty5->t6->Bool
 | .int,.int _=>true
 | .int,.bool _=>true
 | .str,.str _=>true
 | .bool,.bool _=>true
 | .list,.list _=>true
 | .tuple,.tuple _=>true
 | _,_=>false
def Ay1:t6->String
 | .none => "NoneType"
 | .bool _ => "bool"
 | .int _ => "int"
 | .str _ => "str"
 | .list _ => "list"
 | .tuple _ => "tuple"
 | .dict _ => "dict"
theorem A0k {d:t6}{v:V}(s:Same Hf H)(h:RdV Hf H d v):O8 H v=some (Ay1 d):=by
 cases d with
 | none=>cases Vj h;rfl
 | bool b=>cases Rm h;rfl
 | int i=>cases Ep h;rfl
 | str x=>cases Hc h;rfl
 | list c=>obtain⟨a,f,rfl,e,_⟩:=G7 h;exact Bs6 e
 | tuple c=>obtain⟨a,f,rfl,e,_⟩:=Ha s h;exact Bw6 e
 | dict k=>trivial
theorem Au6 {d:t6}{v:V}(h:RdV Hf H d v)(T:Ty5):Fw (Ay1 d) T.nm=some (Lw T d):=by
 cases d with
 | none=>cases T <;> first | exact Vc | exact U9 | exact Tw | exact T9 | exact Q0
 | bool b=>cases T <;> first | exact Aj4 | exact Am6 | exact Ac1 | exact Aa8 | exact Xv
 | int i=>cases T <;> first | exact Aq7 | exact Aq9 | exact Ag4 | exact Aj8 | exact Ae5
 | str x=>cases T <;> first | exact Av3 | exact Ao4 | exact Ah1 | exact Ai5 | exact Aa1
 | list a=>cases T <;> first | exact Ak8 | exact An5 | exact Z4 | exact Z7 | exact X3
 | tuple a=>cases T <;> first | exact Ab7 | exact Z8 | exact X5 | exact X6 | exact Xc
 | dict k=>exact(h).elim
def cUn (op:t6->n7)(f:o7):o7:=fun c=>(f c).bind fun p c=>match Es c (nrm p) with
 | some d=>match op d with
  | some o=>.ok (.o o) c
  | none=>.bad
 | none=>.bad
def UnS (K:v9)(r:V->Hp->VK->Prop)(op:t6->n7):Prop:=∀(Hf H:Hp) (x:V) (d:t6) (o:O) (Q:VK),Same Hf H->RdV Hf H d x->op d=some o->New K Hf H o Q->r x H Q
theorem Xe {r:V->Hp->VK->Prop}{t:TE}{op:t6->n7}{f:o7}(h:ME K t f)(hr:UnS K r op):ME K (tUn r t) (cUn op f):=by
 intro u W c m Q R s
 refine h.toV _ W c _ _ R (s.bnd.mono fun p j a v w e b k=>?_)
 cases ex:Es j (nrm p) with
 | none=>simp only[ex]at a;trivial
 | some d =>
  simp only[ex]at a
  cases eo:op d with
  | none=>simp only[eo]at a;trivial
  | some o =>
   simp only[eo]at a
   exact hr _ _ v d o Q b.sub (Fz b k ex) eo (New.of b fun v n q i l g=>a v _ _ (e.trans i) l g)
theorem Bh {r:n8->Hp->VK->Prop}{t:TE}{op:t6->n7}{f:o7}(h:ME K t f)(hr:UnS K (fun x H Q=>r [x] H Q) op):ME K (tCB r (Cw t Gf)) (cUn op f):=Xe h hr
def Cv (T:Ty5)(d:t6):n7:=some (.im (.bool (Lw T d)))
def Lx (T1 T2:Ty5)(d:t6):n7:=some (.im (.bool (Lw T1 d||Lw T2 d)))
theorem Eg {t:TE}{f:o7}(T:Ty5)(h:ME K t f):ME K (tCB (Qi K) (Cw t (Cw (tC (.ty T.nm)) Gf))) (cUn (Cv T) f) :=
 Xe  h fun a H x d o Q s r e n=>by
  cases e
  exact⟨x,T.nm,Ay1 d,Lw T d,rfl,A0k s r,Au6 r T,n.bl s⟩
theorem Bh0 {t:String}{A B:String}{a b:Bool}(h1:Fw t A=some a)(h2:Fw t B=some b):Mq t [A,B]=some (a||b):=by
 unfold Mq;unfold Mq;unfold Mq
 grind
theorem Ax9 {t:TE}{f:o7}(g j:Ty5)(h:ME K t f):ME K (tCB (Kg K) (Cw t (Cw (Bf5 (Cw (tC (.ty g.nm)) (Cw (tC (.ty j.nm)) Gf))) Gf))) (cUn (Lx g j) f) :=
 Xe (r:=fun x H Q=>2<=sizeLine/\∀p,H p=none->Kg K _ _ Q) h fun v H x d o Q s r e n=>by
  cases e
  refine⟨by decide,fun p c=>⟨x,p,[g.nm,j.nm],Ay1 d,Lw _ d||Lw _ d,rfl,Cq,?_,Bh0 (Au6 r _) (Au6 r _),?_⟩⟩
  ·have l:Same _ (upd H p (.tup [.ty g.nm,.ty j.nm])):=Z3 s c
   refine A0k  l ?_
   cases d with
   | list u=>obtain⟨a,m,e,q,t⟩:=r;exact⟨a,m,e,Cp c _ _ q,t⟩
   | none=>exact r
   | bool b=>exact r
   | int i=>exact r
   | str z=>exact r
   | tuple u=>exact r
   | dict k=>exact r
  ·exact n _ _ _ [] ((Stp.newL s c).less fun a z=>nomatch z) (Z3 s c) ⟨rfl,rfl⟩
def boolsOf:w5->Option (List Bool)
 | []=>some []
 | .bool b::r=>(boolsOf r).map (b::·)
 | _=>none
theorem Ay3:∀{ds:w5}{bs:List Bool}{vs:n8},boolsOf ds=some bs->TrL Hf ds vs->vs=bs.map V.bl
 | [],bs,vs,e,t=>by cases (show some []=some bs from e);exact t
 | .bool b::r,bs,_,e,⟨v,vr,rfl,h,t⟩=>by
  obtain⟨l,e1,rfl⟩:=aO.mp (show (boolsOf r).map (b::·)=some bs from e)
  cases (show v=.bl b from h)
  rw[Ay3 e1 t];rfl
 | .none::r,bs,_,e,_=>nomatch e
 | .int _::r,bs,_,e,_=>nomatch e
 | .str _::r,bs,_,e,_=>nomatch e
 | .list _::r,bs,_,e,_=>nomatch e
 | .tuple _::r,bs,_,e,_=>nomatch e
 | .dict _::r,bs,_,e,_=>nomatch e
def Kf:t6->n7
 | .list ds=>(boolsOf ds).map fun bs=>.im (.bool (bs.all id))
 | _=>none
theorem Im:UnS K (fun x H Q=>Ng K [x] H Q) Kf:=by
 intro Hf H x d o Q s r e n
 match d,r,e with
 | .list _,r,e =>
  obtain⟨c,f,rfl⟩:=aO.mp (show (boolsOf _).map _=some o from e)
  obtain⟨a,vs,rfl,b,t⟩:=G7 r
  exact⟨a,c,rfl,by rw[<- Ay3 f t];exact SqL.of b,n.bl s⟩
def A9q:t6->n7
 | .int i=>some (.im (.int i))
 | .bool b=>some (.im (.int (if b then 1 else 0)))
 | _=>none
theorem Bl0:UnS K (fun x H Q=>Nf K [x] H Q) A9q:=by
 intro a H x d o Q s r e n
 match d,r,e with
 | .int i,r,e=>cases e;cases Ep r;exact .inl ⟨i,rfl,n.int s⟩
 | .bool b,r,e=>cases e;cases Rm r;exact .inr ⟨b,rfl,n.int s⟩
def A0i:t6->n7
 | .int i=>some (.im (.int (if i<0 then -i else i)))
 | _=>none
theorem Az9:UnS K (fun x H Q=>Pj K [x] H Q) A0i:=by
 intro a H x d o Q s r e n
 match d,r,e with
 | .int i,r,e=>cases e;cases Ep r;exact⟨i,rfl,n.int s⟩
def Wx:t6->n7
 | .list ds=>some (.ls false ds)
 | .tuple ds=>some (.ls false ds)
 | _=>none
theorem Ai6:UnS K (fun x H Q=>J8 K [x] H Q) Wx:=by
 intro Hf H x d o Q s r e n
 match d,r,e with
 | .list _,r,e =>
  cases e
  obtain⟨a,c,rfl,f,t⟩:=G7 r
  exact⟨a,c,rfl,.inl (SqL.of f),fun l b=>n.lst s t b⟩
 | .tuple _,r,e =>
  cases e
  obtain⟨a,c,rfl,f,t⟩:=Ha s r
  exact⟨a,c,rfl,.inr (SqT.of f),fun l b=>n.lst s t b⟩
def Bs8 (K:v9):n8->Hp->VK->Prop:=fun xs H Q=>(V8 K xs H Q\/Ak2 K xs H Q)\/U5 K xs H Q
def isSeq:t6->Bool
 | .list _=>true
 | .tuple _=>true
 | _=>false
def An4:t6->n7
 | .int i=>if i.natAbs.log2<1920 then some (.im (.str (toString i))) else none
 | .none=>some (.im (.str "None"))
 | .bool b=>some (.im (.str (if b then Str.ofString "True" else Str.ofString "False")))
 | .str x=>some (.im (.str x))
 | d=>if isSeq d&&(d.showable&&(!d.hasDict&&(decide (d.depth<=40)&&decide (d.shown.length<=sizeLine)))) then some (.im (.str d.shown)) else none
theorem Aw5:UnS K (fun x H Q=>Bs8 K [x] H Q) An4:=by
 intro h H x d o Q s r e n
 have c:∀d,RdV h H d x->(isSeq d=true->∃a,x=.ref a)->(if isSeq d&&(d.showable&&(!d.hasDict&&(decide (d.depth<=40)&&decide (d.shown.length<=sizeLine)))) then some (O.im (.str d.shown)) else none)=some o->Bs8 K [x] H Q:=fun d r g e=>by
  split at e
  ·rename_i l
   simp  at l
   cases e
   obtain⟨a,rfl⟩:=g l.1;exact .inl (.inr ⟨a,d,rfl,r.tr s,l.2.1,l.2.2.1,l.2.2.2.1,l.2.2.2.2,n.str s⟩)
  ·cases e
 match d,r,e with
 | .int i,r,e =>
  have e:(if i.natAbs.log2<1920 then some _ else none)=some o:=e
  split at e
  ·rename_i l
   cases e;cases Ep r;exact .inl (.inl ⟨i,rfl,l,n.str s⟩)
  ·cases e
 | .list _,r,e=>exact c _ r (fun _=>by obtain⟨b,f,e,_⟩:=G7 r;exact⟨b,e⟩) e
 | .tuple _,r,e=>exact c _ r (fun _=>by obtain⟨b,f,e,_⟩:=Ha s r;exact⟨b,e⟩) e
 | .none,r,e=>cases e;cases Vj r;exact .inr ⟨_,_,rfl,rfl,n.str s⟩
 | .bool b,r,e=>cases e;cases Rm r;exact .inr ⟨_,_,rfl,rfl,n.str s⟩
 | .str z,r,e=>cases e;cases Hc r;exact .inr ⟨_,_,rfl,rfl,n.str s⟩
 | .dict _,r,e=>exact c _ r (fun z=>nomatch z) e
def Ad9:t6->t6->n7
 | .int i,.int j=>some (.im (.int (if j<i then j else i)))
 | _,_=>none
theorem Ba1 {c d:TE}{fa fb:o7}(ha:ME K c fa)(hb:ME K d fb):ME K (tCB (Nu K) (Cw c (Cw d Gf))) (cOp Ad9 fa fb) :=
 Aj  ha hb fun h H x y g f o Q s a b e n=>by
  match g,f,a,b,e with
  | .int i,.int j,a,b,e=>cases e;cases Ep a;cases Ep b;exact⟨i,j,rfl,n.int s⟩
def MO (K:v9)(T:TO)(f:Ev->R (q9)):Prop:=∀(β:Nat->V) (W:Wo) (c:Ev) (σ:St) (Q:q9->Hp->Prop),Rep K β W c σ ->
 (f c).sat (fun b c'=>∀W',Stp W.S W.Hf W.H W'.S W'.Hf W'.H->Rep K β W' c' σ->Q b W'.H)->T σ W.H Q
def cON:Ev->R (q9):=fun c=>.ok none c
theorem Sw:MO K Ae9 cON:=fun b W c a Q R s=>s W Stp.refl R
def cOS (f:o7):Ev->R (q9):=fun c=>(f c).bind fun p c=>match Es c (nrm p) with
 | some (.int i)=>.ok (some i) c
 | _=>.bad
theorem Jm {t:TE}{f:o7}(h:ME K t f):MO K (A6x t) (cOS f):=by
 intro g W c k Q R s
 refine h.toV _ W c _ _ R (s.bnd.mono fun p l a v j b d e=>?_)
 match ex:Es _ _,a with
 | some (.int i),a=>exact⟨i,Ep (Fz d e ex),a _ b d⟩
 | some .none,a=>exact a.elim
 | some (.bool _),a=>exact a.elim
 | some (.str _),a=>exact a.elim
 | some (.list _),a=>exact a.elim
 | some (.tuple _),a=>exact a.elim
 | some (.dict _),a=>exact a.elim
 | none,a=>exact a.elim
def SlS (K:v9)(r:V->q9->q9->Hp->VK->Prop)(op:t6->q9->q9->n7):Prop:=∀(Hf H:Hp) (x:V) (lo hi:q9) (d:t6) (o:O) (Q:VK),Same Hf H->RdV Hf H d x->op d lo hi=some o->New K Hf H o Q->r x lo hi H Q
def cSl (op:t6->q9->q9->n7)(f:o7)(fl fh:Ev->R (q9)):o7:=fun c=>(f c).bind fun p c=>(fl c).bind fun lo c=>(fh c).bind fun hi c=>match Es c (nrm p) with
 | some d=>match op d lo hi with
  | some o=>.ok (.o o) c
  | none=>.bad
 | none=>.bad
theorem V6 {r:V->q9->q9->Hp->VK->Prop}{op:t6->q9->q9->n7}{j:TE}{l m:TO}{f:o7}{k n:Ev->R (q9)}(h:ME K j f)(hl:MO K l k)(u:MO K m n)(hr:SlS K r op):ME K (tSl r j l m) (cSl op f k n):=by
 intro P W c G Q R s
 refine h.toV _ W c _ _ R (s.bnd.mono fun p I D v N g w x=>?_)
 refine hl _ _ _ _ _ w (D.bnd.mono fun z F A J a B=>?_)
 refine u _ _ _ _ _ B (A.bnd.mono fun t y b H e i=>?_)
 cases ex:Es y (nrm p) with
 | none=>simp only[ex]at b;trivial
 | some d =>
  simp only[ex]at b
  cases eo:op d z t with
  | none=>simp only[eo]at b;trivial
  | some o =>
   simp only[eo]at b
   exact hr _ _ v _ _ d o Q i.sub (Fz i (RepA.same (a.trans e).fz x) ex) eo (New.of i fun v L M C E q=>b v _ _ (g.trans (a.trans (e.trans C))) E q)
end
section
variable {K:v9}{X:Cx}{Hf H:Hp}{Q:VK}{β:Nat->V}{W W':Wo}{c c':Ev}{σ:St}{v:V}
def rSL (K:v9):V->q9->q9->Hp->VK->Prop:=fun x lo hi H Q=>(B2s K x lo hi H Q\/(B2r K x lo hi H Q\/Bl8 K x lo hi H Q))\/B2j x lo hi H Q
theorem Bq1:SlR X (rSL X.K):=SlR.or (SlR.or Bh5 (SlR.or Br5 Bf3)) Bv5
def M7:t6->q9->q9->n7
 | .list ds,lo,hi=>some (.ls false (cutD ds lo hi))
 | .tuple ds,lo,hi=>some (.im (.tuple (cutD ds lo hi)))
 | .str z,lo,hi=>if z.length<=16000000 then some (.im (.str (Txt.slice z lo hi))) else none
 | _,_,_=>none
theorem Mx:SlS K (rSL K) M7:=by
 intro Hf H x f c d o Q s r e n
 match d,r,e with
 | .list ds,r,e =>
  cases e
  obtain⟨a,b,rfl,g,t⟩:=G7 r
  exact .inl (.inl ⟨a,b,rfl,SqL.of g,fun p h=>n.lst s (TrL.cut t) h⟩)
 | .str z,r,e =>
  by_cases hz:z.length<=16000000
  ·rw[show M7 (.str z) f c=some (.im (.str (Txt.slice z f c))) by simp only[M7];rw[if_pos hz]]at e
   cases e
   exact .inr ⟨z,r,ao hz (by decide),n.same s rfl⟩
  ·rw[show M7 (.str z) f c=none by simp only[M7];rw[if_neg hz]]at e;cases e
 | .tuple ds,r,e =>
  cases e
  obtain⟨a,b,rfl,g,t⟩:=Ha s r
  by_cases w:HT.sIx b.length 0 f=0/\HT.sIx b.length b.length c=b.length
  ·refine .inl (.inr (.inr ⟨a,b,rfl,SqT.of g,w,?_⟩))
   have e:cutD ds f c=ds:=by
    unfold cutD;rw[t.length,w.1,w.2,List.drop_zero,dg,<- t.length,e_]
   rw[e]at n;exact n.same s r
  ·exact .inl (.inr (.inl ⟨a,b,rfl,SqT.of g,w,fun p h=>n.tup s (TrL.cut t) h⟩))
def An7:t6->n7
 | .tuple ds=>some (.im (.tuple ds.reverse))
 | _=>none
theorem Bw4 {t:TE}{ts:TO}{f:o7}(h:ME K t f)(hs:∀g H Q,Q (some (-1)) H->ts g H Q):ME K (B0i K t ts) (cUn An7 f):=by
 intro β W c g Q R s
 refine (Xe (r:=fun x H Q=>ts _ H fun o b=>o=some _/\∃a xs,x=.ref a/\SqT K b a xs/\∀p,b p=none->Q (.ref p) (upd b p (.tup xs.reverse))) h fun Hf H x d o Q s r e n=>hs _ _ _ ⟨rfl,?_⟩) _ W c _ Q R s
 match d,r,e with
 | .tuple _,r,e =>
  cases e
  obtain⟨a,i,rfl,j,t⟩:=Ha s r
  exact⟨a,i,rfl,SqT.of j,fun p k=>n.tup s (TrL.rev t) k⟩
def Bf (f:o7):o6:=fun c=>(f c).bind fun p c=>match Es c (nrm p) with
 | some (.bool b)=>.ok b c
 | _=>.bad
theorem Bt {t:TE}{f:o7}(h:ME K t f):MT K (Le t) (Bf f):=by
 intro g W c k Q R s
 refine h.toV _ W c _ _ R (s.bnd.mono fun p l a v j b d e=>?_)
 match ex:Es _ _,a with
 | some (.bool i),a=>exact⟨i,Rm (Fz d e ex),a _ b d⟩
 | some .none,a=>exact a.elim
 | some (.int _),a=>exact a.elim
 | some (.str _),a=>exact a.elim
 | some (.list _),a=>exact a.elim
 | some (.tuple _),a=>exact a.elim
 | some (.dict _),a=>exact a.elim
 | none,a=>exact a.elim
theorem Hz {t:TE}{f:o7}(h:ME K t f):MT K (tB t) (Bf f):=Bt h
def Bd:o6:=fun c=>.ok true c
theorem Ed:MT K Bx6 Bd:=fun b W c a Q R s=>s W Stp.refl R
def Bf7 (f g:o6):o6:=fun c=>(f c).bind fun b c=>if b=true then g c else .ok false c
def cOr (f g:o6):o6:=fun c=>(f c).bind fun b c=>if b=true then .ok true c else g c
def K3 (f:o6):o6:=fun c=>(f c).bind fun b c=>.ok (!b) c
theorem Bw8 {t u:TT}{f g:o6}(h1:MT K t f)(h2:MT K u g):MT K (By1 t u) (Bf7 f g):=fun n W c p Q R s =>
 h1 _ W c _ _ R (s.bnd.mono fun b l h k a e=>by
  cases b with
  | true=>exact h2 _ _ _ _ _ e (h.mono fun b m j o d i=>j _ (a.trans d) i)
  | false=>exact h _ a e)
theorem K1 {t u:TT}{f g:o6}(h1:MT K t f)(h2:MT K u g):MT K (tOr t u) (cOr f g):=fun n W c p Q R s =>
 h1 _ W c _ _ R (s.bnd.mono fun b l h k a e=>by
  cases b with
  | false=>exact h2 _ _ _ _ _ e (h.mono fun b m j o d i=>j _ (a.trans d) i)
  | true=>exact h _ a e)
theorem Gi {t:TT}{f:o6}(h1:MT K t f):MT K (Bz5 t) (K3 f):=fun h W c g Q R s =>
 h1 _ W c _ _ R (s.bnd.mono fun b j e i a d=>e _ a d)
theorem Ab2 {b:Bool}{d:Wo}(R:Rep K β W c σ)(st:Stp d.S d.Hf d.H W.S W.Hf W.H)(s:∀v a e,Stp d.S d.Hf d.H (orS a.S e) a.Hf a.H->Rep K β a c σ->Gu K a σ (.o (.im (.bool b))) v e->Q v a.H):Q (.bl b) W.H :=
 R.here (o:=.im (.bool b))  rfl rfl fun v a e f g r=>s v _ _ (st.trans f) g r
def Ko (f g:o7):o7:=fun c=>(Bf f c).bind fun b c=>if b=true then g c else .ok (.o (.im (.bool false))) c
def A3l (f g:o7):o7:=fun c=>(Bf f c).bind fun b c=>if b=true then .ok (.o (.im (.bool true))) c else g c
def A7w (f:o7):o7:=fun c=>(Bf f c).bind fun b c=>.ok (.o (.im (.bool (!b)))) c
def Tv (ft:o6)(f g:o7):o7:=fun c=>(ft c).bind fun b c=>if b=true then f c else g c
theorem Sq {r:U.R PV}{b:Wo}(s:r.sat fun p c'=>∀v a d,Stp b.S b.Hf b.H (orS a.S d) a.Hf a.H->Rep K β a c' σ->Gu K a σ p v d->Q v a.H)(st:Stp b.S b.Hf b.H W.S W.Hf W.H) :
 r.sat fun p c'=>∀v a d,Stp W.S W.Hf W.H (orS a.S d) a.Hf a.H->Rep K β a c' σ->Gu K a σ p v d->Q v a.H:=s.mono fun p c k v a d e R r=>k v _ _ (st.trans e) R r
theorem Ho {h e:TE}{f g:o7}(h1:ME K h f)(h2:ME K e g):ME K (A8w h e) (Ko f g):=by
 intro k W c j Q R s
 refine Bt h1 _ W c _ _ R (s.bnd.mono fun b m i l a d=>?_)
 cases b with
 | true=>exact h2 _ _ _ _ _ d (Sq i a)
 | false=>exact Ab2 d a i
theorem A8z {h e:TE}{f g:o7}(h1:ME K h f)(h2:ME K e g):ME K (Bw1 h e) (A3l f g):=by
 intro k W c j Q R s
 refine Bt h1 _ W c _ _ R (s.bnd.mono fun b m i l a d=>?_)
 cases b with
 | false=>exact h2 _ _ _ _ _ d (Sq i a)
 | true=>exact Ab2 d a i
theorem Bg6 {d:TE}{f:o7}(h1:ME K d f):ME K (A8x d) (A7w f):=by
 intro k W c h Q R s
 exact Bt h1 _ W c _ _ R (s.bnd.mono fun b i g j a e=>Ab2 e a g)
theorem A5v {i:TT}{e h:TE}{ft:o6}{f g:o7}(ht:MT K i ft)(h1:ME K e f)(h2:ME K h g):ME K (tIf i e h) (Tv ft f g):=by
 intro l W c k Q R s
 refine ht _ W c _ _ R (s.bnd.mono fun b n j m a d=>?_)
 cases b with
 | true=>exact h1 _ _ _ _ _ d (Sq j a)
 | false=>exact h2 _ _ _ _ _ d (Sq j a)
def Bk (f:o7):Ev->R (w5):=fun c=>(f c).bind fun p c=>(frz (nrm p) c).bind fun d c=>match d with
 | .list ds=>.ok ds c
 | .tuple ds=>.ok ds c
 | _=>.bad
theorem Bb8 {a:Addr}{vs:n8}{ds:w5}(ha:Hf a=some (.lst vs))(t:TrL Hf ds vs):Ar0 (Itl K a) Hf ds:=by
 intro i c H f g;have b:=g _ _ (f _ _ ha)
 refine⟨fun e=>⟨vs,SqL.of b,by rw[<- t.length];omega⟩,fun d j=>?_⟩
 obtain⟨v,h,k⟩:=t.got j
 refine⟨⟨vs,v,SqL.of b,h⟩,fun x l ⟨e,q⟩=>?_⟩
 subst e;have:=q _ (SqL.of b);rw[h]at this
 cases this
 exact⟨c,Stp.refl,g,Tr.same f k⟩
theorem Bt1 {a:Addr}{vs:n8}{ds:w5}(ha:Hf a=some (.tup vs))(t:TrL Hf ds vs):Ar0 (Itt K a) Hf ds:=by
 intro i c H f g;have b:=g _ _ (f _ _ ha)
 refine⟨fun e=>⟨vs,SqT.of b,by rw[<- t.length];omega⟩,fun d j=>?_⟩
 obtain⟨v,h,k⟩:=t.got j
 refine⟨⟨vs,v,SqT.of b,h⟩,fun x l ⟨e,q⟩=>?_⟩
 subst e;have:=q _ (SqT.of b);rw[h]at this
 cases this
 exact⟨c,Stp.refl,g,Tr.same f k⟩
theorem Em {t:TE}{f:o7}(h:ME K t f):MI K (Bv7 K t) (Bk f):=by
 intro w W c B k R s
 refine h.toV _ W c _ _ R (s.bnd.mono fun p A r v x l u q=>?_)
 obtain⟨d,y,z,_,b,o,i,m,e⟩:=Kp u q r.bnd;rw[<- o]
 match d,e,b with
 | .list _,e,b =>
  obtain⟨a,n,g,j,t⟩:=e;exact⟨a,g,.inl ⟨n,m.sub _ _ j,b _ _ (l.trans i) m (Bb8 j t)⟩⟩
 | .tuple _,e,b =>
  obtain⟨a,n,g,j,t⟩:=e;exact⟨a,g,.inr ⟨n,m.sub _ _ j,b _ _ (l.trans i) m (Bt1 j t)⟩⟩
 | .none,e,b=>exact b.elim
 | .bool _,e,b=>exact b.elim
 | .int _,e,b=>exact b.elim
 | .str _,e,b=>exact b.elim
 | .dict _,e,b=>trivial
def La (lo:Int)(n:Nat):w5:=(List.range n).map fun k=>.int (lo+(k:Nat))
theorem Bv9 {lo:Int}{n:Nat}:Ar0 (Itr lo n) Hf (La lo n):=by
 intro i b H g f
 have l:(La lo n).length=n:=by unfold La;simp_all
 refine⟨fun e=>by show n<=i;omega,fun d a=>?_⟩
 have c:i<n:=by
  grind
 refine⟨c,fun x h ⟨e,q⟩=>?_⟩
 subst e;unfold La at a;rw[bJ,fc c]at a
 cases a
 exact⟨b,Stp.refl,f,q⟩
def My (f:o7):Ev->R (w5):=fun c=>(f c).bind fun p c=>match Es c (nrm p) with
 | some (.int j)=>if j<=16000000/\-16000000<=j then .ok (La 0 j.toNat) c else .bad
 | _=>.bad
theorem Og {t:TE}{f:o7}(h:ME K t f):MI K (A8b (Cw t Gf)) (My f):=by
 intro g W c m k R s
 refine h.toV _ W c _ _ R (s.bnd.mono fun p n a v i b d e=>?_)
 match ex:Es _ _,a with
 | some (.int j),a =>
  cases Ep (Fz d e ex)
  by_cases l:j<=16000000/\-16000000<=j
  ·have a:(if j<=16000000/\-16000000<=j then U.R.ok _ _ else .bad).sat _:=a
   rw[if_pos l]at a
   exact⟨j,rfl,by omega,by omega,a _ _ b d Bv9⟩
  ·have a:(if j<=16000000/\-16000000<=j then U.R.ok _ _ else .bad).sat _:=a
   rw[if_neg l]at a;trivial
 | some .none,a=>exact a.elim
 | some (.bool _),a=>exact a.elim
 | some (.str _),a=>exact a.elim
 | some (.list _),a=>exact a.elim
 | some (.tuple _),a=>exact a.elim
 | some (.dict _),a=>exact a.elim
 | none,a=>exact a.elim
def Z5 (d:Option t6):q9:=match d with
 | some (.int i)=>some i
 | _=>none
theorem Zz {d:Option t6}{i:Int}(h:Z5 d=some i):d=some (.int i):=by
 unfold Z5 at h
 grind
def O5:t6->Option (w5)
 | .list ds=>some ds
 | .tuple ds=>some ds
 | _=>none
theorem Aq8 {d:t6}{ds:w5}{v:V}(h:O5 d=some ds)(t:Tr Hf d v):∃b a c,v=.ref a/\SqK b Hf a c/\TrL Hf ds c:=by
 cases d with
 | list l=>cases h;obtain⟨a,c,e,f,t⟩:=t;exact⟨false,a,c,e,f,t⟩
 | tuple l=>cases h;obtain⟨a,c,e,f,t⟩:=t;exact⟨true,a,c,e,f,t⟩
 | none=>cases h
 | bool _=>cases h
 | int _=>cases h
 | str _=>cases h
 | dict _=>cases h
theorem Ka {b:Bool}{a:Addr}{vs:n8}{c:Hp}(S:Same Hf c)(h:SqK b Hf a vs):SqK b c a vs:=by
 cases b
 ·exact S _ _ h
 ·exact S _ _ h
def U6 (xs ys:w5):w5:=(xs.zip ys).map fun p=>.tuple [p.1,p.2]
theorem Bu6 {t1 t2:Bool}{a b:Addr}{vs us:n8}{xs ys:w5}(ha:SqK t1 Hf a vs)(hb:SqK t2 Hf b us)(t:TrL Hf xs vs)(u:TrL Hf ys us):Ar0 (Itz t1 t2 a b) Hf (U6 xs ys):=by
 intro i B H j f;have m:=Ka (j.trans f) ha;have k:=Ka (j.trans f) hb
 have l:(U6 xs ys).length=min xs.length ys.length:=by unfold U6;simp_all
 refine⟨fun e=>⟨vs,us,m,k,by rw[<- t.length,<- u.length,e];omega⟩,fun d x=>?_⟩
 obtain⟨p,n,e⟩:=Hs x;rw[List.getElem?_zip_eq_some]at n;obtain⟨h,r,v⟩:=t.got n.1;obtain⟨c,s,w⟩:=u.got n.2
 refine⟨⟨vs,us,h,c,m,k,r,s⟩,fun z H' y=>?_⟩
 obtain⟨p,x',y',rfl,g,rfl,A,C⟩:=y;have:=A _ m;rw[r]at this;cases this;have:=C _ k;rw[s]at this;cases this;subst e;have q:=Cp (o:=.tup [h,c]) (Same.free f g);exact⟨upd _ p _,Stp.newF f g,Q4 f,p,[h,c],rfl,Cq,h,[c],rfl,Tr.same q (Tr.same j v),c,[],rfl,Tr.same q (Tr.same j w),rfl⟩
def Bh7 (f g:o7):Ev->R (w5):=fun c=>(f c).bind fun p c=>(g c).bind fun q c=>(frz (nrm p) c).bind fun x c=>(frz (nrm q) c).bind fun y c=>match O5 x,O5 y with
 | some xs,some ys=>.ok (U6 xs ys) c
 | _,_=>.bad
theorem Bv0 {t u:TE}{f g:o7}(h:ME K t f)(h':ME K u g):MI K (Bv4 (Cw t (Cw u Gf))) (Bh7 f g):=by
 intro β W c σ k R s
 refine h.toV _ W c _ _ R (s.bnd.mono fun p c1 G v1 W1 l P v=>?_)
 refine h'.toV _ _ _ _ _ P (G.bnd.mono fun q c2 w v2 W2 i A B=>?_)
 obtain⟨x,c3,W3,_,C,D,e,E,F⟩:=Kp A (RepA.same i.fz v) w.bnd;obtain⟨y,c4,W4,_,j,r,d,m,I⟩:=Kp E (RepA.same e.fz B) C.bnd
 cases ex:O5 x with
 | none=>simp only[ex]at j;trivial
 | some xs =>
  cases ey:O5 y with
  | none=>simp only[ex,ey]at j;trivial
  | some ys =>
   simp only[ex,ey]at j;obtain⟨J,a,L,rfl,H,N⟩:=Aq8 ex F;obtain⟨M,b,O,rfl,n,o⟩:=Aq8 ey I;rw[<- D,<- r];have z:=Ka d.fz H;exact⟨a,b,rfl,J,M,L,O,Ka m.sub z,Ka m.sub n,j _ _ (l.trans (i.trans (e.trans d))) m (Bu6 z n (TrL.same d.fz N) o)⟩
def Ry (xs:w5):w5:=(List.range xs.length).map fun k=>.tuple [.int (k:Nat),xs.getD k .none]
theorem Bj0 {t:Bool}{a:Addr}{vs:n8}{xs:w5}(ha:SqK t Hf a vs)(u:TrL Hf xs vs):Ar0 (Ite t a) Hf (Ry xs):=by
 intro i v H j f;have h:=Ka (j.trans f) ha
 have l:(Ry xs).length=xs.length:=by unfold Ry;simp_all
 refine⟨fun e=>⟨vs,h,by rw[<- u.length];omega⟩,fun d g=>?_⟩
 have n:i<xs.length:=by
  grind
 unfold Ry at g;rw[bJ,fc n]at g
 cases g
 have q:xs[i]?=some (xs.getD i .none):=by grind
 obtain⟨b,k,r⟩:=u.got q
 refine⟨⟨vs,b,h,k⟩,fun z H' s=>?_⟩
 obtain⟨p,x',rfl,c,rfl,m⟩:=s;have:=m _ h;rw[k]at this;cases this;exact⟨upd _ p _,Stp.newF f c,Q4 f,p,[.int i,b],rfl,Cq,.int i,[b],rfl,rfl,b,[],rfl,Tr.same (Cp (o:=.tup [.int i,b]) (Same.free f c)) (Tr.same j r),rfl⟩
def Wq (f:o7):Ev->R (w5):=fun c=>(f c).bind fun p c=>(frz (nrm p) c).bind fun x c=>match O5 x with
 | some xs=>.ok (Ry xs) c
 | _=>.bad
theorem Aw2 {t:TE}{f:o7}(h:ME K t f):MI K (A8f (Cw t Gf)) (Wq f):=by
 intro β W c σ k R s
 refine h.toV _ W c _ _ R (s.bnd.mono fun p c1 u v1 W1 e n q=>?_)
 obtain⟨x,c3,W3,_,b,l,d,g,o⟩:=Kp n q u.bnd
 cases ex:O5 x with
 | none=>simp only[ex]at b;trivial
 | some xs =>
  simp only[ex]at b;obtain⟨m,a,r,rfl,i,j⟩:=Aq8 ex o;rw[<- l];exact⟨a,rfl,m,r,Ka g.sub i,b _ _ (e.trans d) g (Bj0 i j)⟩
def A2z (x:Str):w5:=x.cps.toList.map fun c=>.str ⟨#[c]⟩
def Al7 (f:o7):Ev->R (w5):=fun c=>(f c).bind fun p c=>match Es c (nrm p) with
 | some (.str x)=>.ok (A2z x) c
 | _=>.bad
theorem B0m {x:Str}:Ar0 (Its x) Hf (A2z x):=by
 intro i b H s1 g
 have l:(A2z x).length=x.cps.size:=by unfold A2z;simp_all
 refine⟨fun e=>by show i=x.cps.size;omega,fun d h=>?_⟩
 obtain⟨c,f,e⟩:=Hs h;rw[cB]at f
 have k:i<x.cps.size:=by
  grind
 refine⟨k,fun z H' j=>?_⟩
 obtain⟨rfl,c',a,rfl⟩:=j;rw[f]at a;cases a;subst e;exact⟨b,Stp.refl,g,rfl⟩
theorem A7i {t:TE}{f:o7}(h:ME K t f):MI K (Bp1 t) (Al7 f):=by
 intro g W c j k R s
 refine h.toV _ W c _ _ R (s.bnd.mono fun p l a v i b d e=>?_)
 match ex:Es _ _,a with
 | some (.str x),a=>exact⟨x,Hc (Fz d e ex),a _ _ b d B0m⟩
 | some (.int _),a=>exact a.elim
 | some .none,a=>exact a.elim
 | some (.bool _),a=>exact a.elim
 | some (.list _),a=>exact a.elim
 | some (.tuple _),a=>exact a.elim
 | some (.dict _),a=>exact a.elim
 | none,a=>exact a.elim
end
section
variable {K:v9}{X:Cx}{Hf H:Hp}{Q:VK}{β:Nat->V}{W W':Wo}{c c':Ev}{σ:St}{v:V}{p:PV}{fp:v6}{i:Nat}{b:Bool}{ds ds':w5}
theorem B0n (R:Rep K β W c σ)(r:Gu K W σ p v fp):∃W',W'.H=W.H/\Stp (orS W.S fp) W.Hf W.H W'.S W'.Hf W'.H/\Rep K β W' c σ/\RepA K W'.Hf σ (nrm p) v:=by
 have f:Stp (orS W.S fp) W.Hf W.H _ _ _:=Stp.refl.up fun a z=>.inl z
 cases p with
 | sl i=>exact⟨W,rfl,f,R,r.2⟩
 | o o =>
  cases o with
  | im d=>exact⟨W,rfl,f,R,r.1.2⟩
  | sc d=>exact⟨W,rfl,f,R,r.1.2⟩
  | ty d=>exact⟨W,rfl,f,R,r.1.2⟩
  | ls b ds =>
   obtain⟨⟨a,h,rfl,rfl,g,j,t⟩,l⟩:=r
   refine⟨⟨upd _ a _,W.H,W.fps⟩,rfl,⟨Cp g,fun b o e _=>e,fun b o e mu n q=>?_,fun b z=>.inl (.inl z)⟩,Ac3 R g j (l a (.head _)),a,h,rfl,Cq,TrL.same (Cp g) t⟩
   have k:b≠a:=fun z=>n (.inr (by grind))
   show upd _ a _ b=none
   rw[Bb k];grind
theorem Rep.mut (R:Rep K β W c σ)(hc:c[i]?=some (some (.ls b ds)))(hv:σ[i]?=some (some v)):∃a h,v=.ref a/\W.H a=some (.lst h)/\TrL W.Hf ds h /\
 ∀f d,TrL W.Hf f d->Rep K β ⟨W.Hf,upd W.H a (.lst d),W.fps⟩ (c.set i (some (.ls b f))) σ/\Stp W.S W.Hf W.H W.S W.Hf (upd W.H a (.lst d)):=by
 obtain⟨m,p,⟨a,h,rfl,w,A,H,t⟩,B⟩:=R.get i _ hc
 cases (show some _=some _ from p.symm.trans hv)
 have D:i<c.length:=by
  grind
 have s:a∈W.fps i:=by rw[w];exact .head _
 refine⟨a,h,rfl,H,t,fun f d F=>⟨⟨fun b u e=>?_,by rw[dh];exact R.len,fun j o e=>?_,R.dis,fun j x g=>?_⟩,⟨Same.refl _,fun x o e n=>?_,fun x o e r n q=>q,fun x z=>.inl z⟩⟩⟩
 ·have E:b≠a:=fun z=>by rw[z,A]at e;cases e
  show upd _ a _ b=_
  rw[Bb E];exact R.sub b u e
 ·by_cases z:j=i
  ·subst z
   rw[cG D]at e
   cases e
   exact⟨.ref a,p,⟨a,d,rfl,w,A,Cq,F⟩,B⟩
  ·rw[cV fun y=>z y.symm]at e
   obtain⟨m,k,G,l⟩:=R.get j o e
   refine⟨m,k,G.mono (Same.refl _) fun x g=>⟨(R.own j x g).1,?_⟩,l⟩
   show upd _ a _ x=_
   rw[Bb];intro q;rw[q]at g;exact z (R.dis j i a g s)
 ·obtain⟨I,o,C,r⟩:=R.own j x g
  refine⟨I,?_⟩
  by_cases z:x=a
  ·exact⟨.lst _,by rw[z];exact Cq,trivial⟩
  ·exact⟨o,by show upd _ a _ x=_;rw[Bb z];exact C,r⟩
 ·rw[Bb]
  ·exact e
  ·intro z;exact n ⟨i,by rw[z];exact s⟩
def slL (c:Ev)(p:PV):Option (Nat×Bool×w5):=match p with
 | .sl i=>match c[i]? with
  | some (some (.ls b ds))=>some (i,b,ds)
  | _=>none
 | _=>none
theorem Aa9 {x:Nat×Bool×w5}(h:slL c p=some x):p=.sl x.1/\c[x.1]?=some (some (.ls x.2.1 x.2.2)):=by
 unfold slL at h
 grind
def M6 (fo fe:o7):o7:=fun c=>(fo c).bind fun p c=>if (slL c (nrm p)).isSome=true then (fe c).bind fun q c=>(frz (nrm q) c).bind fun d c=>match slL c (nrm p) with
 | some (i,b,ds)=>if ds.length<16000000 then .ok (.o (.im .none)) (c.set i (some (.ls b (ds++[d])))) else .bad
 | none=>.bad
 else .bad
theorem A9r {b:Wo}(R:Rep K β W c σ)(st:Stp b.S b.Hf b.H W.S W.Hf W.H)(s:∀v a d,Stp b.S b.Hf b.H (orS a.S d) a.Hf a.H->Rep K β a c σ->Gu K a σ (.o (.im .none)) v d->Q v a.H):Q .non W.H :=
 R.here (o:=.im .none)  rfl rfl fun v a d e f r=>s v _ _ (st.trans e) f r
theorem ty_list (R:Rep K β W c σ)(h:(slL c p).isSome=true)(r:RepA K W.Hf σ p v):tyV K "list" v W.H:=by
 obtain⟨x,d⟩:=fQ.mp h;obtain⟨rfl,e⟩:=Aa9 d;obtain⟨a,f,rfl,b,_⟩:=R.mut e r;exact .inl ⟨rfl,f,SqL.of b⟩
theorem Pg {u o:TE}{v fe:o7}(ho:ME K u v)(he:ME K o fe):ME K (tBM K "list" rAppF u (Cw o Gf)) (M6 v fe):=by
 intro β W c σ Q R s
 refine ho.toV _ W c _ _ R (s.bnd.mono fun p y f v1 W1 h r j=>?_)
 by_cases hs:(slL y (nrm p)).isSome=true
 ·rw[if_pos hs]at f
  refine⟨ty_list r hs j,he.toV _ _ _ _ _ r (f.bnd.mono fun q c2 D H W2 m z w=>?_)⟩
  obtain⟨d,A,W3,_,e,C,n,E,F⟩:=Kp z w D.bnd
  cases ex:slL A (nrm p) with
  | none=>simp only[ex]at e;exact e.elim
  | some x =>
   simp only[ex]at e;obtain⟨i,b,G⟩:=x;obtain⟨B,I⟩:=Aa9 ex;rw[B]at j;obtain⟨a,J,rfl,L,t,k⟩:=E.mut I j
   by_cases l:G.length<16000000
   ·rw[if_pos l]at e
    obtain⟨M,g⟩:=k _ _ (t.app (TrL.one F));rw[<- C]
    refine⟨a,H,J,rfl,rfl,L,by rw[<- t.length];exact cZ l (by decide),?_⟩
    exact A9r M (h.trans (m.trans (n.trans g))) e
   ·rw[if_neg l]at e;exact e.elim
 ·rw[if_neg hs]at f;exact f.elim
def Vx (fo fe:o7):o7:=fun c=>(fo c).bind fun p c=>if (slL c (nrm p)).isSome=true then (fe c).bind fun q c=>match slL c (nrm p),Z5 (Es c (nrm q)) with
 | some (i,b,ds),some k=>if ds.length<=16000000 then match ixN ds.length k with
  | some j=>match ds[j]? with
   | some d=>.ok (.o (.im d)) (c.set i (some (.ls b (ds.eraseIdx j))))
   | none=>.bad
  | none=>.bad
  else .bad
 | _,_=>.bad
 else .bad
theorem TrL.erase:∀{ds:w5}{vs:n8}(n:Nat),TrL Hf ds vs->TrL Hf (ds.eraseIdx n) (vs.eraseIdx n)
 | [],_,n,h=>by cases (show _=[] from h);exact rfl
 | d::ds,_,0,⟨v,r,rfl,_,t⟩=>t
 | d::ds,_,n+1,⟨v,r,rfl,q,t⟩=>⟨v,r.eraseIdx n,rfl,q,TrL.erase n t⟩
theorem TrL.setAt:∀{ds:w5}{vs:n8}(n:Nat) {d:t6}{v:V},TrL Hf ds vs->Tr Hf d v->TrL Hf (ds.set n d) (vs.set n v)
 | [],_,n,d,v,h,_=>by cases (show _=[] from h);exact rfl
 | e::ds,_,0,d,v,⟨u,r,rfl,_,t⟩,q=>⟨v,r,rfl,q,t⟩
 | e::ds,_,n+1,d,v,⟨u,r,rfl,h,t⟩,q=>⟨u,r.set n v,rfl,h,TrL.setAt n t q⟩
theorem A5a {z F:TE}{G fe:o7}(ho:ME K z G)(he:ME K F fe):ME K (tBM K "list" rPopAt z (Cw F Gf)) (Vx G fe):=by
 intro B W c H Q R s
 refine ho.toV B W c H _ R (s.bnd.mono fun p O g v1 W1 n A w=>?_)
 by_cases hs:(slL O (nrm p)).isSome=true
 ·rw[if_pos hs]at g
  refine⟨ty_list A hs w,he.toV B _ _ _ _ A (g.bnd.mono fun q D e v2 W2 h E I=>?_)⟩
  cases ex:slL D (nrm p) with
  | none=>simp only[ex]at e;exact e.elim
  | some x =>
   obtain⟨i,b,l⟩:=x
   cases ey:Z5 (Es D (nrm q)) with
   | none=>simp only[ex,ey]at e;exact e.elim
   | some k =>
    simp only[ex,ey]at e
    by_cases hl:l.length<=16000000
    case neg=>rw[if_neg hl]at e;exact e.elim
    rw[if_pos hl]at e
    cases ej:ixN l.length k with
    | none=>simp only[ej]at e;exact e.elim
    | some j =>
     simp only[ej]at e
     cases ed:l[j]? with
     | none=>simp only[ed]at e;exact e.elim
     | some d =>
      simp only[ed]at e;obtain⟨L,N⟩:=Aa9 ex;rw[L]at w
      cases Ep (Fz E I (Zz ey))
      obtain⟨a,C,rfl,P,t,S⟩:=E.mut N w;obtain⟨y,M,U⟩:=t.got ed;obtain⟨T,q2,q3,q4⟩:=Ad8 ej;obtain⟨V,m⟩:=S _ _ (TrL.erase j t)
      have u:seqIndex? k C.length=some j:=by rw[<- t.length];exact T
      have f:-2 ^ 63<=k/\k<2 ^ 63:=by omega
      refine⟨a,C,k,j,y,rfl,rfl,P,f.1,f.2,u,M,?_⟩
      exact V.here (o:=.im d)  U rfl fun v W' fp X J r=>e v _ _ (n.trans (h.trans (m.trans X))) J r
 ·rw[if_neg hs]at g;exact g.elim
def Ay7 (fo fi:o7):p_:=fun p c=>(frz (nrm p) c).bind fun d c=>(fo c).bind fun o c=>(fi c).bind fun q c=>match slL c (nrm o),Z5 (Es c (nrm q)) with
 | some (i,b,ds),some k=>match ixN ds.length k with
  | some j=>.ok () (c.set i (some (.ls b (ds.set j d))))
  | none=>.bad
 | _,_=>.bad
theorem A5w {u z:TE}{A fi:o7}(ho:ME K u A)(hi:ME K z fi):MG K (Bq8 u z Bm2) (Ay7 A fi):=by
 intro β W c σ p v fp k R r s;obtain⟨W0,M,l,C,F⟩:=B0n R r;obtain⟨d,c1,W1,_,D,E,n,G,I⟩:=Kp C F s.bnd;rw[<- M,<- E]
 refine ho.toV _ _ _ _ _ G (D.bnd.mono fun o c2 J v2 W2 g L w=>?_)
 refine hi.toV _ _ _ _ _ L (J.bnd.mono fun q y e v3 W3 f B N=>?_)
 cases ex:slL y (nrm o) with
 | none=>simp only[ex]at e;exact e.elim
 | some x =>
  obtain⟨i,b,O⟩:=x
  cases ey:Z5 (Es y (nrm q)) with
  | none=>simp only[ex,ey]at e;exact e.elim
  | some m =>
   simp only[ex,ey]at e
   cases ej:ixN O.length m with
   | none=>simp only[ej]at e;exact e.elim
   | some j =>
    simp only[ej]at e;obtain⟨H,Q⟩:=Aa9 ex;rw[H]at w
    cases Ep (Fz B N (Zz ey))
    obtain⟨a,S,rfl,P,t,T⟩:=B.mut Q w;obtain⟨U,h⟩:=T _ _ (TrL.setAt j t (Tr.same (g.trans f).fz I))
    refine⟨a,S,m,j,rfl,rfl,P,by rw[<- t.length];exact ej,?_⟩
    exact e _ _ (l.trans (n.trans (g.trans (f.trans h)))) U
def Bo9 (i j:Nat)(f:o5):Ev->SR:=fun c=>(f c).toS fun ps c=>(frzs ps c).toS fun ds c=>match ds with
 | [x,y]=>.nx ((c.set i (some (.im x))).set j (some (.im y)))
 | _=>.bad
theorem A8g {i:Nat}{a:Addr}{W:Wo}(h:Wo.S ⟨W.Hf,W.H,clr W.fps i⟩ a):W.S a:=B0h h
theorem B0p {i j:Nat}{m:TA}{f:o5}(h:MA K m f):MS K (Bq0 i j m) (Bo9 i j f):=by
 intro β W c σ D R l
 refine h _ W c _ _ R ((G8 l).mono fun ps c1 C vs W1 k t w=>?_)
 obtain⟨A,c2,n,b,s,g,q,d⟩:=Sy t w (G8 C)
 match A,d,b with
 | [x,y],d,b =>
  obtain⟨v,r,rfl,B,u,r',rfl,E,e⟩:=d
  cases (e)
  refine⟨v,u,rfl,?_⟩
  have p:=q.setN (i:=i) (o:=.im x) B rfl;rw[<- s]
  exact b _ ⟨n.Hf,n.H,clr _ j⟩ ((k.trans g).less fun a z=>A8g (A8g  z)) (p.setN (i:=j) (o:=.im y)  E rfl)
 | [],d,b=>trivial
 | [_],d,b=>trivial
 | _::_::_::_,d,b=>exact b.elim
def A5g (i j m:Nat)(f:o5):Ev->SR:=fun c=>(f c).toS fun ps c=>(frzs ps c).toS fun ds c=>match ds with
 | [x,y,z]=>.nx (((c.set i (some (.im x))).set j (some (.im y))).set m (some (.im z)))
 | _=>.bad
theorem Bj8 {i j m:Nat}{n:TA}{f:o5}(h:MA K n f):MS K (A5b i j m n) (A5g i j m f):=by
 intro β W c σ D R l
 refine h _ W c _ _ R ((G8 l).mono fun ps c1 s vs W1 k t A=>?_)
 obtain⟨B,c2,p,b,C,g,E,d⟩:=Sy t A (G8 s)
 match B,d,b with
 | [x,y,z],d,b =>
  obtain⟨v,r,rfl,G,u,r',rfl,F,w,H,rfl,I,e⟩:=d
  cases (e)
  refine⟨v,u,w,rfl,?_⟩
  have q:=(E.setN (i:=i) (o:=.im x) G rfl).setN (i:=j) (o:=.im y)  F rfl;rw[<- C]
  exact b _ ⟨p.Hf,p.H,clr _ m⟩ ((k.trans g).less fun a z=>A8g (A8g  (A8g  z))) (q.setN (i:=m) (o:=.im z)  I rfl)
 | [],d,b=>trivial
 | [_],d,b=>trivial
 | [_,_],d,b=>trivial
 | _::_::_::_::_,d,b=>exact b.elim
end
end U
set_option autoImplicit true
namespace L2
open PySem U
theorem Ec (ha:QE X a ta)(hb:QE X b tb):QE X (.BinOp a .Add b pos) (tOp By9 ta tb):=⟨Yn B0b ha.get hb.get⟩
theorem Q7 (hu:X.A.units+64<cLine)(ha:QE X a ta)(hb:QE X b tb):QE X (.Compare a [.Eq] [b] pos) (tOp rEQ ta tb):=⟨Oq (Bl4 hu) ha.get hb.get (Kw _)⟩
theorem M3 (hu:X.A.units+64<cLine)(ha:QE X a ta)(hb:QE X b tb):QT X (.Compare a [.Eq] [b] pos) (Le (tOp rEQ ta tb)):=⟨Mw (Bl4 hu) ha.get hb.get (Kw _)⟩
theorem Wc (hu:X.A.units+64<cLine)(ha:QE X a ta)(hb:QE X b tb):QT X (.Compare a [.NotEq] [b] pos) (Le (tOp rNE ta tb)):=⟨Mw (B1q hu) ha.get hb.get (Kw _)⟩
theorem Bm4 (ha:QE X a ta)(hb:QE X b tb):QE X (.Compare a [.LtE] [b] pos) (tOp rLE ta tb):=⟨Oq B1u ha.get hb.get (Kw _)⟩
theorem B2c (hu:X.A.units+64<cLine)(ha:QE X a ta)(hb:QE X b tb)(hm:behindInMarks .In b=false):QE X (.Compare a [.In] [b] pos) (tOp rIN ta tb):=⟨Oq (Bm5 hu) ha.get hb.get hm⟩
theorem B2x (hu:X.A.units+64<cLine)(ha:QE X a ta)(hb:QE X b tb)(hm:behindInMarks .In b=false):QT X (.Compare a [.In] [b] pos) (Le (tOp rIN ta tb)):=⟨Mw (Bm5 hu) ha.get hb.get hm⟩
theorem Ew {Kq:v9}(a:X.K=Kq)(hgl:Gl X "len") (hm:X.mg "len" = none) (ha:QA X (e::es) t) (hns:noStar (e::es)=true:=by rfl):QE X (.Call (.Name "len" p) (e::es) [] pos) (tCB (Bj5 Kq) t):=by
 subst a
 exact⟨Gy A6j hgl hm Ar7 ha.get (by decide) (by rfl) hns⟩
theorem A7h {Kq:v9}(a:X.K=Kq)(hu:X.A.units+64<cLine)(hg:X.A.guards=some [])(hgl:Gl X "str") (hm:X.mg "str" = none) (ha:QA X (e::es) t) (hns:noStar (e::es)=true:=by rfl):QE X (.Call (.Name "str" p) (e::es) [] pos) (tCB (Bs8 Kq) t):=by
 exact⟨Hy (U.CallR.or (U.CallR.or Ab9 (A1h hu hg)) A3k) hgl hm Pr ha.get (by decide) (by rfl) hns⟩
theorem Vr {Kq:v9}(a:X.K=Kq)(he:QE X e te)(hl:QO X low tl)(hu:QO X hi th):QE X (.Subscript e (.Slice low hi none p2) pos) (tSl (rSL Kq) te tl th):=by
 subst a;exact A4y Bq1 he hl hu
end L2
namespace U
open PySem L2
def Def (P:u6)(w:World)(K:v9)(mg:x_)(base:Heap)(x:Str)(k:Nat)(ps:v4)(sp:Sp):Prop :=
 ∃(f:Addr) (fd:u5),FnOk P w K mg base CX0 k f fd ps sp/\Binds K fd ps []/\PySem.W.keepIn K (.ref f)=true/\mg x=some (.ref f)
def A5h (K:v9):Sp:=fun vs H Q _=>∃(a:Addr) (ns:List Int),vs=[.ref a]/\SqL K H a (ns.map V.int)/\ns.length<=63/\∀H',Q (.bl true) H'
theorem Bq3 {K:v9}{F:o_}(f:∀b:List Int,b.length<=63->F [.sc b]=.ret (.im (.bool true)) [.sc b]){vs:n8}{H:Hp}{Q:VK}{E:XK}(h:A5h K vs H Q E):spP K F vs H Q E:=by
 obtain⟨a,b,rfl,c,d,q⟩:=h
 refine⟨fun _=>.non,⟨H,H,fun _=>[]⟩,[.sc b],rfl,rfl,⟨Same.refl _,rfl,fun i o e=>?_,fun i j a h=>by grind,fun i a h=>by grind⟩,?_⟩
 ·cases i with
  | zero =>
   cases (show some _=some _ from e)
   exact⟨.ref a,rfl,⟨rfl,a,rfl,c⟩,fun z=>nomatch z⟩
  | succ i=>grind
 ·rw[f _ d]
  intro v W' fp st R r n
  cases (show v=.bl _ from r.2)
  grind
theorem A4r {P:u6}{w:World}{K:v9}{mg:x_}{base:Heap}{f:Addr}{c:u5}{ps:v4}{n:Nat}:FnOk P w K mg base CX0 n f c ps (spP K fun _=>.bad) :=
 ⟨fun d H Q E h=>by obtain⟨_,_,_,_,_,_,h⟩:=h;simp_all,fun A a s H b e d Q E _ _ _ _ h=>by obtain⟨_,_,_,_,_,_,h⟩:=h;simp_all⟩
def Aw7 (i j:Int):Bool:=decide (0<j)&&decide (j<1073741824)
theorem A9m (i j:Int)(h:Aw7 i j=true):A7p i j:=by
 obtain⟨b,a⟩:=aq.mp h;exact⟨aL b,aL a⟩
def A5r (i j:Int):Bool:=decide (0<j)
theorem A3v (i j:Int)(h:A5r i j=true):0<j:=aL h
def Af5 (i j:Int):Bool:=decide (0<=j)&&(decide (j<=1000000)&&decide (i.natAbs<2 ^ 64))
theorem A8h (i j:Int)(h:Af5 i j=true):A3z i j:=by
 obtain⟨c,a⟩:=aq.mp h;obtain⟨a,b⟩:=aq.mp a;exact⟨aL c,aL a,aL b⟩
section
variable {K:v9}
abbrev M4:t6->t6->n7:=Yc fun i j=>.int (i-j)
abbrev Ar8:t6->t6->n7:=Yc fun i j=>.bool (decide (j<i))
abbrev B0q:t6->t6->n7:=Yc fun i j=>.bool (decide (j<=i))
theorem Jj:OpS K (rI0 fun i j=>.int (i-j)) M4:=Aa0 fun _ _ _=>rfl
theorem Zr:OpS K (rI0 fun i j=>.bl (decide (j<i))) Ar8:=Aa0 fun _ _ _=>rfl
theorem Bu7:OpS K (rI0 fun i j=>.bl (decide (j<=i))) B0q:=Aa0 fun _ _ _=>rfl
abbrev Ac4:t6->t6->n7:=opI Aw7 fun i j=>i / j
abbrev Rg:t6->t6->n7:=opI A5r fun i j=>i % j
abbrev Uq:t6->t6->n7:=opI Af5 fun i j=>i ^ j.toNat
theorem An0:OpS K (rI A7p fun i j=>.int (i / j)) Ac4:=Az4 A9m
theorem Mp:OpS K (rI (fun _ j=>0<j) fun i j=>.int (i % j)) Rg:=Az4 A3v
theorem Ox:OpS K (rI A3z fun i j=>.int (i ^ j.toNat)) Uq:=Az4 A8h
def Bq2 (fa fb:o7):o7:=fun c=>(fa c).bind fun p c=>(fb c).bind fun q c=>match nrm p,Z5 (Es c (nrm q)) with
 | .o (.sc ns),some k=>match atI ns k with
  | some i=>.ok (.o (.im (.int i))) c
  | none=>.bad
 | _,_=>.bad
theorem Bd9 {ns:List Int}{k i:Int}(h:atI ns k=some i):atI (ns.map V.int) k=some (V.int i):=by
 unfold atI at h ⊢;obtain⟨j,b,a⟩:=bZ.mp h
 simp_all
theorem Bz7 {h j:TE}{fa fb:o7}(ha:ME K h fa)(hb:ME K j fb):ME K (tOp (rIx K) h j) (Bq2 fa fb):=by
 intro β W c σ Q R s
 refine ha.toV _ W c _ _ R (s.bnd.mono fun p c1 u v1 W1 f n d=>?_)
 refine hb.toV _ _ _ _ _ n (u.bnd.mono fun q t b v2 W2 e g m=>?_)
 have d:=RepA.same e.fz d
 cases ey:Z5 (Es t (nrm q)) with
 | none =>
  simp only[ey]at b;generalize nrm p=np at b
  cases np with
  | sl i=>trivial
  | o o=>cases o <;> exact b.elim
 | some k =>
  simp only[ey]at b;generalize nrm p=np at b d
  match np,d,b with
  | .o (.sc ns),d,b =>
   have b:(match atI ns k with
    | some i=>U.R.ok _ _
    | none=>.bad).sat _:=b
   cases ei:atI _ k with
   | none=>rw[ei]at b;trivial
   | some i =>
    rw[ei]at b;obtain⟨a,rfl,w⟩:=d
    cases Ep (Fz g m (Zz ey))
    exact .inl ⟨a,_,k,.int i,rfl,rfl,Same.seq g.sub w,Bd9 ei,g.here (o:=.im (.int i))  rfl rfl fun v W' fp x l r=>b v _ _ (f.trans (e.trans x)) l r⟩
  | .o (.im _),d,b=>exact b.elim
  | .o (.ls _ _),d,b=>exact b.elim
  | .o (.ty _),d,b=>exact b.elim
  | .sl _,d,b=>trivial
end
section
variable {P:u6}{w:World}{K:v9}{X:Cx}{Hf H:Hp}{Q:VK}{β:Nat->V}{W W':Wo}{c c':Ev}{σ:St}{v:V}
def cMt (isT:t6->Bool)(op:t6->t6->n7)(fa fb:o7):o7:=fun c=>(fa c).bind fun p c=>match Es c (nrm p) with
 | some d=>if isT d=true then (fb c).bind fun q c=>match Es c (nrm p),Es c (nrm q) with
  | some x,some y=>match op x y with
   | some o=>.ok (.o o) c
   | none=>.bad
  | _,_=>.bad
  else .bad
 | none=>.bad
theorem B2f {T:String}{a:t6->Bool}{r:V->n8->Hp->VK->Prop}{op:t6->t6->n7}{l m:TE}{fa fb:o7}(ha:ME K l fa)(hb:ME K m fb)
 (n:∀(Hf H:Hp) (d:t6) (v:V),a d=true->Same Hf H->RdV Hf H d v->tyV K T v H) (hr:OpS K (fun x y H Q=>r x [y] H Q) op):ME K (tBM K T r l (Cw m Gf)) (cMt a op fa fb):=by
 intro E W c C Q R s
 refine ha.toV _ W c _ _ R (s.bnd.mono fun p w e B D i h j=>?_)
 cases ed:Es w (nrm p) with
 | none=>simp only[ed]at e;trivial
 | some d =>
  simp only[ed]at e
  by_cases it:a d=true
  case neg=>rw[if_neg it]at e;trivial
  rw[if_pos it]at e
  refine⟨n _ _ d _ it h.sub (Fz h j ed),?_⟩
  refine hb.toV _ _ _ _ _ h (e.bnd.mono fun q k b I J f g u=>?_)
  cases ex:Es k (nrm p) with
  | none=>simp only[ex]at b;trivial
  | some x =>
   cases ey:Es k (nrm q) with
   | none=>simp only[ex,ey]at b;trivial
   | some y =>
    simp only[ex,ey]at b
    cases eo:op x y with
    | none=>simp only[eo]at b;trivial
    | some o =>
     simp only[eo]at b
     exact hr _ _ _ _ x y o Q g.sub (Fz g (RepA.same f.fz j) ex) (Fz g u ey) eo (New.of g fun v F G z A t=>b v _ _ (i.trans (f.trans z)) A t)
def Nh:t6->Bool
 | .tuple _=>true
 | _=>false
theorem A7n (Hf H:Hp)(d:t6)(v:V)(h:Nh d=true)(s:Same Hf H)(r:RdV Hf H d v):tyV K "tuple" v H:=by
 cases d with
 | tuple ds =>
  obtain⟨a,c,rfl,b,t⟩:=Ha s r;exact .inr (.inr (.inr (.inr ⟨rfl,c,b⟩)))
 | _=>cases h
def strsOf:w5->Option (v4)
 | []=>some []
 | .str z::ds=>(strsOf ds).map (z::·)
 | _=>none
theorem A4f:∀{ds:w5}{ss:v4}{vs:n8},strsOf ds=some ss->TrL Hf ds vs->vs=ss.map V.str
 | [],ss,vs,h,t=>by cases h;exact t
 | d::ds,ss,_,h,⟨v,r,rfl,h1,h2⟩=>by
  cases d with
  | str z =>
   have h:(strsOf ds).map (z::·)=some ss:=h
   cases e:strsOf ds with
   | none=>rw[e]at h;cases h
   | some ts =>
    rw[e]at h;cases h
    rw[A4f e h2,show v=V.str z from h1];rfl
  | _=>cases h
def Rp:t6->n7
 | .tuple ds=>(strsOf ds).bind fun ss=>if ss.length<1000 then some (.im (.int ((dst (ss.map fun x=>(Sum.inr x:Key))).length:Nat))) else none
 | _=>none
theorem Av6:UnS K (fun x H Q=>Za P w K [x] H fun y H=>Q5 P w [y] H Q) Rp:=by
 intro Hf H x d o Q s c e n
 match d,c,e with
 | .tuple ds,c,e =>
  have e:((strsOf _).bind _)=some o:=e;obtain⟨a,vs,rfl,i,t⟩:=Ha s c
  cases es:strsOf ds with
  | none=>simp_all
  | some g =>
   rw[es]at e
   have e:(if g.length<1000 then some _ else none)=some o:=e
   split at e
   ·cases e
    cases A4f es t
    refine⟨a,_,g.map fun x=>(Sum.inr x),rfl,SqT.of i,?_,by simp_all,fun p f=>⟨p,_,rfl,Cq,?_,?_⟩⟩
    ·rw[aV,aV];rfl
    ·exact aQ (Ot _ _ rfl) (by simp_all)
    ·refine n _ _ _ [] ⟨fun _ _ h=>h,fun b u e _=>?_,fun _ _ _ _ _ h=>h,fun _ h=>nomatch h⟩ (fun b u e=>?_) ⟨rfl,rfl⟩
     ·exact Cp f b u e
     ·exact Cp f b u (s b u e)
   grind
theorem A1c {t:TE}{f:o7}(h:ME K t f):ME K (tCB (Q5 P w) (Cw (tCB (Za P w K) (Cw t Gf)) Gf)) (cUn Rp f):=Xe (r:=fun x H Q=>Za P w K _ H _) h Av6
end
end U
namespace L2
open PySem U
theorem Bt0 {X:Cx}{o i:Expr}{b ty:TE}{a:Pos}(hu:X.A.units+64<cLine)(ho:QE X o b)(hi:QE X i ty)(hs:Bu1 i):QE X (.Subscript o i a) (A9j b ty):=⟨Bk1 (by omega) ho.get hi.get hs⟩
end L2
namespace U
open PySem L2 PySem.W
def Bp0:O->Option t6
 | .im k=>some k
 | .ls false xs=>some (.list xs)
 | _=>none
def Av1 (F:o_)(d:t6):Option t6:=match F [.im d] with
 | .ret o _=>Bp0 o
 | .bad=>none
def Vz (F:o_):w5->Option (w5)
 | []=>some []
 | d::ds=>(Av1 F d).bind fun k=>(Vz F ds).map (k::·)
def kdOf:w5->Kd
 | .tuple (.tuple _::_)::_=>.tt
 | .tuple (.list _::_)::_=>.tl
 | .int _::_=>.ii
 | .list _::_=>.ll
 | _=>.ti
def Xy (ds ks:w5):Option (w5):=if ds.length<2 then some ds else if ds.length<64&&(ks.all (M5 (kdOf ks))&&ks.all Dp) then (kEv (A2c (kdOf ks) ks) (kas_sort ds.length)).map fun p=>p.toList.map fun i=>ds.getD i .none else none
def Br8 (F:o_)(fa:o7):o7:=fun c=>(fa c).bind fun p c=>match (Es c (nrm p)).bind O5 with
 | none=>.bad
 | some ds=>match (Vz F ds).bind (Xy ds) with
  | none=>.bad
  | some out=>.ok (.o (.ls false out)) c
section
variable {K:v9}{β:Nat->V}{W W':Wo}{c c':Ev}{σ:St}{Hf H:Hp}
theorem TrL.at_:∀{ds:w5}{vs:n8},TrL Hf ds vs->∀i,Tr Hf (ds.getD i .none) (vs.getD i .non)
 | [],_,h,i=>by cases (show _=[] from h);exact rfl
 | d::ds,_,⟨v,r,e,t,ts⟩,0=>by subst e;exact t
 | d::ds,_,⟨v,r,e,t,ts⟩,i+1=>by subst e;exact TrL.at_ ts i
theorem TrL.pick {ds:w5}{vs:n8}(t:TrL Hf ds vs):∀l:List Nat,TrL Hf (l.map fun i=>ds.getD i .none) (l.map fun i=>vs.getD i .non)
 | []=>rfl
 | i::l=>⟨_,_,rfl,TrL.at_ t i,TrL.pick t l⟩
theorem TrL.len':∀{ds:w5}{vs:n8},TrL Hf ds vs->ds.length=vs.length
 | [],_,h=>by cases (show _=[] from h);rfl
 | d::ds,_,⟨v,r,e,t,ts⟩=>by subst e;rw[aH,aH,TrL.len' ts]
theorem A6m {F:o_}{d k:t6}{v:V}{Q:VK}(R:Rep K β W c σ)(t:Tr W.Hf d v)(m:Av1 F d=some k)(h:∀e a,Stp W.S W.Hf W.H a.S a.Hf a.H->Rep K β a c σ->Tr a.Hf k e->Q e a.H):spP K F [v] W.H Q E0:=by
 have j:∃o b,F [.im d]=.ret o b/\Bp0 o=some k:=by
  unfold Av1 at m
  grind
 obtain⟨o,b,j,f⟩:=j
 have p:nrm (.o o)=.o (.im k):=by
  unfold Bp0 at f
  split at f
  ·cases f;rfl
  ·cases f;rfl
  trivial
 have r:M8 F [.o (.im d)] c=.ok (.o o) c:=by
  unfold M8;simp only[Q3,dC,j]
  rfl
 refine (Oj (ps:=[.o (.im d)])  R ⟨v,[],rfl,t,rfl⟩ ?_:spP K F _ _ _ _)
 rw[r]
 exact fun x w n g q i=>Bm9    (fun e a u s l=>h e _ u s (by rw[p]at l;exact l)) _ _ _ g q i
theorem Aj3 {F:o_}{Q:n8->Hp->Prop}:∀(ds:w5) (vs:n8) (ks kd:w5) (kv:n8) (W:Wo),Rep K β W c σ->TrL W.Hf ds vs->Vz F ds=some ks->TrL W.Hf kd kv ->
 (∀W' kv',Stp W.S W.Hf W.H W'.S W'.Hf W'.H->Rep K β W' c σ->TrL W'.Hf (kd++ks) kv'->Q kv' W'.H)->Av9 (spP K F) vs kv W.H Q
 | [],vs,ks,kd,kv,W,R,t,e,tk,h=>by
  cases (show vs=[] from t)
  cases (show some []=some ks from e)
  exact h W kv Stp.refl R (by rw[cj];exact tk)
 | d::ds,vs,ks,kd,kv,W,R,⟨v,r,ev,t,ts⟩,e,tk,h=>by
  subst ev
  obtain⟨k,e1,e2⟩:=bZ.mp (show (Av1 F d).bind (fun k=>(Vz F ds).map (k::·))=some ks from e)
  obtain⟨ks',e3,rfl⟩:=aO.mp e2
  show spP K F [v] W.H (fun kv1 H1=>Av9 (spP K F) r (kv++[kv1]) H1 Q) E0
  refine A6m R t e1 fun v' W' st R' tv=>?_
  refine Aj3 ds r ks' (kd++[k]) (kv++[v']) W' R' (TrL.same st.fz ts) e3 ((TrL.same st.fz tk).app (TrL.one tv)) fun W2 kv' st2 R2 t2=>?_
  exact h W2 kv' (st.trans st2) R2 (by rw[du]at t2;exact t2)
theorem Bx0 {F:o_}{f:Addr}{C:TE}{fa:o7}(ha:ME K C fa):ME K (By3 K f (spP K F) (Cw C Gf) (Cw (tC (.ref f)) Gf)) (Br8 F fa):=by
 intro M W c σ Q R s
 refine ha.toV M W c σ _ R (s.bnd.mono fun p L i U r u n T=>?_)
 cases ed:(Es L (nrm p)).bind O5 with
 | none=>simp only[ed]at i;exact i.elim
 | some l =>
  simp only[ed]at i
  cases ek:(Vz F l).bind (Xy l) with
  | none=>simp only[ek]at i;exact i.elim
  | some o =>
   simp only[ek]at i;obtain⟨d,Y,w⟩:=bZ.mp ed;obtain⟨m,S,g⟩:=bZ.mp ek;have B:=Fz n T Y
   obtain⟨a,b,rfl,G,t⟩:∃a b,U=.ref a/\(SqL K r.H a b\/SqT K r.H a b)/\TrL r.Hf l b:=by
    cases d with
    | list H =>
     cases w
     obtain⟨a,b,e,h,t⟩:=G7 B;exact⟨a,b,e,.inl (SqL.of h),t⟩
    | tuple H =>
     cases w
     obtain⟨a,b,e,h,t⟩:=Ha n.sub B;exact⟨a,b,e,.inr (SqT.of h),t⟩
    | _=>cases w
   refine⟨a,b,rfl,rfl,G,?_⟩
   refine Aj3 _ _ _ [] _ _ n t S rfl fun J kv j x N=>?_
   have t:=TrL.same j.fz t;have P:=TrL.len' t
   have k:∀(z:List _) (y:n8),z=o->TrL _ z y->∀q,J.H q=none->Q (.ref q) (upd _ q (.lst y)):=fun z y e X q I=>by
    subst e
    exact New.lst (New.of x fun v W' fp Z R' rp=>i v _ _ (u.trans (j.trans Z)) R' rp) x.sub X I
   unfold Xy at g
   by_cases h2:l.length<2
   ·rw[if_pos h2]at g
    cases g
    exact .inl ⟨by omega,k _ _ rfl t⟩
   ·rw[if_neg h2]at g
    by_cases hb:(decide (l.length<64)&&(m.all (M5 (kdOf m))&&m.all Dp))=true
    ·rw[if_pos hb]at g
     obtain⟨D,A⟩:=aq.mp hb;obtain⟨A,b3⟩:=aq.mp A;have D:=aL D;obtain⟨pm,q1,q2⟩:=aO.mp g
     refine .inr ⟨by omega,by omega,m,kdOf _,pm,TrL.same x.sub N,A,fun d E=>G9 (bz.mp b3 d E),by rw[<- P];exact q1,k _ _ q2 (TrL.pick t _)⟩
    ·rw[if_neg hb]at g;cases g
end
end U
namespace U
open PySem L2
section
variable {K:v9}{Hf H:Hp}
def Wh:t6->Bool
 | .list _=>true
 | _=>false
theorem B0d (Hf H:Hp)(d:t6)(v:V)(h:Wh d=true)(s:Same Hf H)(r:RdV Hf H d v):tyV K "list" v H:=by
 cases d with
 | list ds =>
  obtain⟨a,c,rfl,b,t⟩:=G7 r;exact .inl ⟨rfl,c,SqL.of b⟩
 | _=>cases h
end
end U
set_option autoImplicit true
namespace U
open PySem L2
end U
set_option autoImplicit true
namespace L2
open PySem PySem.Spec PyProof.Rows PySem.W
end L2
namespace U
open PySem L2
end U
set_option autoImplicit true
namespace U
open PySem L2
section
variable {K:v9}{β:Nat->V}{W W':Wo}{c c':Ev}{σ σ':St}{D:Ends}{E:XK}{Hf H:Hp}{o:O}{v:V}{fp:v6}
def Ae8 (d:t6):w5->Option Nat
 | []=>none
 | x::xs=>if PyData.eqv x d=true then some 0 else (Ae8 d xs).map (·+1)
theorem Ad4 {d:t6}:∀{xs:w5}{j:Nat},Ae8 d xs=some j->(∃e,xs[j]?=some e/\PyData.eqv e d=true)/\∀m e,m<j->xs[m]?=some e->PyData.eqv e d=false
 | [],j,h=>by cases h
 | x::xs,j,h=>by
  unfold Ae8 at h
  by_cases q:PyData.eqv x d=true
  ·rw[if_pos q]at h;cases h
   exact⟨⟨x,rfl,q⟩,fun m e hm=>absurd hm (cD _)⟩
  ·rw[if_neg q]at h
   obtain⟨k,e1,rfl⟩:=aO.mp h;obtain⟨⟨e2,h1,h2⟩,h3⟩:=Ad4 e1
   refine⟨⟨e2,h1,h2⟩,fun m e hm he=>?_⟩
   cases m with
   | zero=>cases (show some x=some e from he);exact Bool.eq_false_iff.mpr q
   | succ m=>exact h3 m e (fD hm) he
def Iw:t6->t6->n7
 | .tuple ds,d=>if Dp d&&PyData.canLayAll0 ds then (Ae8 d ds).map fun j=>.im (.int (j:Nat)) else none
 | _,_=>none
theorem Xq:OpS K (fun x y H Q=>rIndexD x [y] H Q) Iw:=by
 intro Hf H x y dx c o Q s d f e n;unfold Iw at e
 split at e
 ·split at e
  ·rename_i l
   obtain⟨i,b⟩:=aq.mp l;obtain⟨j,g,rfl⟩:=aO.mp e;obtain⟨h,a⟩:=Ad4 g;exact⟨y,c,_,j,rfl,f.tr s,d.tr s,G9 i,b,h,a,n.int s⟩
  simp_all
 trivial
end
def Nt:t6->t6->n7:=Yc fun i j=>.bool (decide (i<j))
theorem Zt {K:v9}:OpS K (rI0 fun i j=>.bl (decide (i<j))) Nt:=Aa0 fun _ _ _=>rfl
theorem B3e {i j:Int}(l:Wl i j=true):CMul i j:=by
 unfold Wl at l;rw[Bool.or_eq_true_iff,aq,aq]at l
 rcases l with ⟨b,a⟩ | ⟨b,a⟩
 ·exact .inl ⟨aL b,aL a⟩
 ·exact .inr ⟨aL b,aL a⟩
def Ls:t6->t6->n7:=opI Wl fun i j=>i*j
theorem K7 {K:v9}:OpS K (rI CMul fun i j=>.int (i*j)) Ls:=Az4 fun _ _=>B3e
def Bp:t6->n7
 | .list ds=>some (.im (.tuple ds))
 | .tuple ds=>some (.im (.tuple ds))
 | _=>none
theorem Do {K:v9}:UnS K (fun x H Q=>Ja K [x] H Q) Bp:=by
 intro Hf H x d o Q s r e n;unfold Bp at e
 split at e
 ·cases e
  obtain⟨a,b,rfl,c,t⟩:=G7 r
  exact⟨a,b,rfl,.inl ⟨SqL.of c,fun l f=>n.tup s t f⟩⟩
 ·cases e
  obtain⟨a,b,rfl,c,t⟩:=Ha s r;exact⟨a,b,rfl,.inr ⟨SqT.of c,n.same s r⟩⟩
 trivial
def B2u (K:v9):R2:=fun x y H Q=>Bu8 K x y H Q\/Bo7 K x y H Q
def Ar:t6->t6->n7
 | .list ds,.int i=>(atI ds i).map O.im
 | .tuple ds,.int i=>(atI ds i).map O.im
 | _,_=>none
theorem Bc {K:v9}:OpS K (B2u K) Ar:=by
 intro Hf H x y dx dy o Q s i j e n;unfold Ar at e
 split at e
 ·obtain⟨d,g,rfl⟩:=aO.mp e
  obtain⟨a,c,rfl,f,t⟩:=G7 i;obtain⟨v,h,b⟩:=A9v t g;exact .inl ⟨a,c,_,v,rfl,Ep j,SqL.of f,h,n.same s b⟩
 ·obtain⟨d,g,rfl⟩:=aO.mp e
  obtain⟨a,c,rfl,f,t⟩:=Ha s i;obtain⟨v,h,b⟩:=A9v t g;exact .inr ⟨a,c,_,v,rfl,Ep j,SqT.of f,h,n.same s b⟩
 grind
end U
namespace L2
open PySem
section
variable {X:Cx}{a b:Expr}{ta tb:TE}{pos:Pos}
theorem Bl {Kq:v9}(c:X.K=Kq)(ha:QE X a ta)(hb:QE X b tb)(hs:Mf b):QE X (.Subscript a b pos) (tOp (U.B2u Kq) ta tb):=by
 subst c;exact Bn2 (IxR.or ix_list ix_tup) ha hb hs
end
end L2
namespace U
open PySem L2 PySem.W
def A1u (F:o_)(js:List Nat)(d:t6)(c:Ev):R t6:=(M8 F (.o (.im d)::js.map PV.sl) c).bind fun p c=>match p with
 | .o (.im k)=>.ok k c
 | _=>.bad
def Xg (F:o_)(js:List Nat):w5->Ev->R (w5)
 | [],c=>.ok [] c
 | d::ds,c=>(A1u F js d c).bind fun k c=>(Xg F js ds c).bind fun ks c=>.ok (k::ks) c
def Az3 (F:o_)(js:List Nat)(fa:o7):o7:=fun c=>(fa c).bind fun p c=>match (Es c (nrm p)).bind O5 with
 | none=>.bad
 | some ds=>(Xg F js ds c).bind fun ks c=>match Xy ds ks with
  | none=>.bad
  | some out=>.ok (.o (.ls false out)) c
section
variable {K:v9}{β:Nat->V}{W W':Wo}{c c':Ev}{σ:St}{Hf H:Hp}
def B0r (K:v9)(te:TE)(F:o_):Prop:=∀(vs:n8) (H:Hp) (Q:VK),spP K F vs H Q E0->te (vs.map some) H Q
theorem Bi5 {n:Nat}{b:TE}{c:o7}(h:ME K b c)(N:v4)(hN:N.length=n):B0r K b (Eo n N.length (Cg c)):=by
 intro a H Q d;have f:=Ce d;have:=Cd  (Ax h) d
 have e:start N a=a.map some:=by
  show a.map _++List.replicate _ _=_
  simp_all
 rw[e]at this
 trivial
theorem Aw6 (R:Rep K β W c σ):∀{js:List Nat}{as:List O},Q3 c (js.map PV.sl)=some as->∃cvs,zE K W.Hf σ (js.map PV.sl) cvs/\cst (js.map some) σ=cvs.map some
 | [],as,e=>⟨[],rfl,rfl⟩
 | j::js,as,e=>by
  have e:Q3 c (.sl j::js.map PV.sl)=some as:=e;unfold Q3 at e
  cases ec:c[j]? with
  | none=>simp only[ec]at e;cases e
  | some x =>
   cases x with
   | none=>simp only[ec]at e;cases e
   | some o1 =>
    simp only[ec]at e;obtain⟨l,e2,rfl⟩:=aO.mp e;obtain⟨cvs,r,q⟩:=Aw6 R e2;obtain⟨v,e1,_⟩:=R.get j o1 ec
    refine⟨v::cvs,⟨v,cvs,rfl,e1,r⟩,?_⟩
    show ((some j).bind fun i=>(σ[i]?).join)::cst (js.map some) σ=_
    rw[q]
    show (σ[j]?).join::_=_
    rw[e1];rfl
theorem Ag7 {F:o_}{te:TE}{js:List Nat}(hF:B0r K te F){Q:n8->Hp->Prop}:∀(ds:w5) (vs:n8) (kd:w5) (kv:n8) (W:Wo) (c:Ev),Rep K β W c σ->TrL W.Hf ds vs->TrL W.Hf kd kv ->
 ((Xg F js ds c).sat fun ks c'=>∀W' kv',Stp W.S W.Hf W.H W'.S W'.Hf W'.H->Rep K β W' c' σ->TrL W'.Hf (kd++ks) kv'->Q kv' W'.H)->Uh (fun x H Q=>te (some x::cst (js.map some) σ) H Q) vs kv W.H Q
 | [],vs,kd,kv,W,c,R,t,tk,h=>by
  cases (show vs=[] from t)
  exact h W kv Stp.refl R (by rw[cj];exact tk)
 | d::ds,vs,kd,kv,W,c,R,⟨v,r,ev,t,ts⟩,tk,h=>by
  subst ev
  have h:((A1u F js d c).bind fun k c=>(Xg F js ds c).bind fun ks c=>U.R.ok (k::ks) c).sat _:=h
  have h:=h.bnd;unfold A1u at h;have h:=h.bnd
  cases ea:Q3 c (js.map PV.sl) with
  | none =>
   have:M8 F (.o (.im d)::js.map PV.sl) c=.bad:=by
    unfold M8;simp only[Q3,ea,fu]
   rw[this]at h;exact h.elim
  | some as =>
   obtain⟨cvs,rc,ec⟩:=Aw6 R ea
   show te (some v::cst (js.map some) σ) W.H _
   rw[ec]
   refine hF (v::cvs) W.H _ ?_
   have hs:spP K F ((v::cvs)++[]) W.H (fun kv1 H1=>Uh (fun x H Q=>te (some x::cst (js.map some) σ) H Q) r (kv++[kv1]) H1 Q) E0:=by
    refine Oj (ps:=.o (.im d)::js.map PV.sl) R ⟨v,cvs,rfl,t,rc⟩ (h.mono fun p c1 h1 v' W' fp st R' rp=>?_)
    cases p with
    | sl i=>exact h1.elim
    | o o =>
     cases o with
     | im k =>
      obtain⟨⟨rfl,tv⟩,_⟩:=rp
      have st:Stp W.S W.Hf W.H W'.S W'.Hf W'.H:=st.less fun a z=>.inl z
      refine Ag7 hF ds r (kd++[k]) (kv++[v']) W' c1 R' (TrL.same st.fz ts) ((TrL.same st.fz tk).app (TrL.one tv)) (h1.bnd.mono fun ks c2 h2 W2 kv' st2 R2 t2=>?_)
      exact h2 W2 kv' (st.trans st2) R2 (by rw[du]at t2;exact t2)
     | ls b ds=>exact h1.elim
     | sc d=>exact h1.elim
     | ty d=>exact h1.elim
   rw[cj,ec]at hs;exact hs
theorem A6l {d:Hp}(R:Rep K β W c σ)(h:Bv3 W.H d):∃W2:Wo,W2.H=d/\Stp W.S W.Hf W.H W2.S W2.Hf W2.H/\Rep K β W2 c σ:=by
 rcases h with rfl | ⟨a,o,e,rfl⟩
 ·exact⟨W,rfl,Stp.refl,R⟩
 ·have b:=Stp.newF (o:=.frz o (.own 0)) R.sub e
  refine⟨⟨upd _ a _,upd _ a _,W.fps⟩,rfl,?_,b.rep R (Q4 R.sub)⟩
  exact((b.more ).up  fun a z=>z.elim (fun z=>z.elim) id).less  fun a z=>.inr z
theorem Bh6 {F:o_}{js:List Nat}{E G:TE}{fa:o7}(ha:ME K G fa)(hF:B0r K E F):ME K (A7t K (js.map some) E (Cw G Gf)) (Az3 F js fa):=by
 intro β W c U Q R s
 refine ha.toV β W c U _ R (s.bnd.mono fun p c1 m v1 n u w Z=>?_)
 cases ed:(Es c1 (nrm p)).bind O5 with
 | none=>simp only[ed]at m;exact m.elim
 | some r =>
  simp only[ed]at m;obtain⟨d,e1,A⟩:=bZ.mp ed
  obtain⟨a,f,rfl,sq,t⟩:∃a f,v1=.ref a/\(n.H a=some (.lst f)\/n.H a=some (.tup f))/\TrL n.Hf r f:=by
   have L:=Fz w Z e1
   cases d with
   | list M =>
    cases A
    obtain⟨a,f,e,h,t⟩:=G7 L;exact⟨a,f,e,.inl h,t⟩
   | tuple M =>
    cases A
    obtain⟨a,f,e,h,t⟩:=Ha w.sub L;exact⟨a,f,e,.inr h,t⟩
   | _=>cases A
  refine⟨a,f,rfl,fun H2 H=>?_⟩
  obtain⟨W0,rfl,i,R0⟩:=A6l w H
  have I:Same n.H W0.H:=by
   rcases H with e | ⟨b,o,P,e⟩
   ·rw[e];exact Same.refl _
   ·rw[e];exact Cp P
  refine⟨sq.imp (fun h=>SqL.of (I _ _ h)) (fun h=>SqT.of (I _ _ h)),?_⟩
  refine Ag7 hF _ _ [] _ _ _ R0 (TrL.same i.fz t) rfl (m.bnd.mono fun k c2 l X kv x y t2=>?_)
  cases ek:Xy r k with
  | none=>simp only[ek]at l;exact l.elim
  | some z =>
   simp only[ek]at l;have g:=i.trans x;have t:=TrL.same g.fz t;have N:=TrL.len' t
   have j:∀(C:List _) (B:n8),C=z->TrL _ C B->∀q,X.H q=none->Q (.ref q) (upd _ q (.lst B)):=fun C B e T q Y=>by
    subst e
    exact New.lst (New.of y fun v W' fp st R' rp=>l v _ _ (u.trans (g.trans st)) R' rp) y.sub T Y
   unfold Xy at ek
   by_cases h2:r.length<2
   ·rw[if_pos h2]at ek
    cases ek
    exact .inl ⟨by omega,j _ _ rfl t⟩
   ·rw[if_neg h2]at ek
    by_cases hb:(decide (r.length<64)&&(k.all (M5 (kdOf k))&&k.all Dp))=true
    ·rw[if_pos hb]at ek
     obtain⟨J,D⟩:=aq.mp hb;obtain⟨D,b3⟩:=aq.mp D;have J:=aL J;obtain⟨pm,q1,q2⟩:=aO.mp ek
     refine .inr ⟨by omega,by omega,k,kdOf _,pm,TrL.same y.sub t2,D,fun d S=>G9 (bz.mp b3 d S),by rw[<- N];exact q1,j _ _ q2 (TrL.pick t _)⟩
    ·rw[if_neg hb]at ek;cases ek
end
section
variable {K:v9}{β:Nat->V}{W W':Wo}{c c':Ev}{σ:St}{Hf H:Hp}
def Aa6:t6->t6->n7
 | .int i,.int j=>some (.im (.int (if j>i then j else i)))
 | _,_=>none
theorem Be2 {c d:TE}{fa fb:o7}(ha:ME K c fa)(hb:ME K d fb):ME K (tCB (Ut K) (Cw c (Cw d Gf))) (cOp Aa6 fa fb) :=
 Aj  ha hb fun h H x y g f o Q s a b e n=>by
  match g,f,a,b,e with
  | .int i,.int j,a,b,e=>cases e;cases Ep a;cases Ep b;exact⟨i,j,rfl,n.int s⟩
def Ad3:t6->n7
 | .list ds=>some (.ls false ds.reverse)
 | _=>none
theorem A8a:UnS K (fun x H Q=>∃a b,[x]=[V.ref a]/\SqL K H a b/\∀l,H l=none->Q (.ref l) (upd H l (.lst b.reverse))) Ad3:=by
 intro Hf H x d o Q s r e n
 match d,r,e with
 | .list _,r,e =>
  cases e
  obtain⟨a,b,rfl,f,t⟩:=G7 r
  exact⟨a,b,rfl,SqL.of f,fun l c=>n.lst s (TrL.rev t) c⟩
theorem Bg9 {a:TE}{fa:o7}(ha:ME K a fa):ME K (A9h K (Cw a Gf)) (cUn Ad3 fa):=Xe  ha A8a
def Aa2:t6->t6->n7
 | .list ds,d=>if Dp d&&(PyData.canLayAll0 ds&&decide (ds.length<1000000)) then (Ae8 d ds).map fun j=>.im (.int (j:Nat)) else none
 | _,_=>none
theorem Ar1:OpS K (fun x y H Q=>rIndexL x [y] H Q) Aa2:=by
 intro Hf H x y dx g o Q s i p e n;unfold Aa2 at e
 split at e
 ·split at e
  ·rename_i l
   obtain⟨f,b⟩:=aq.mp l;obtain⟨b,l3⟩:=aq.mp b;obtain⟨j,d,rfl⟩:=aO.mp e;obtain⟨k,h⟩:=Ad4 d;obtain⟨m,c,a⟩:=k
   exact⟨y,g,_,j,rfl,p.tr s,i.tr s,G9 f,b,by grind,⟨m,c,a⟩,h,n.int s⟩
  simp_all
 grind
def mtR (op:t6->t6->n7)(fb:o7)(p:PV):o7:=fun c=>(fb c).bind fun q c=>match Es c (nrm p),Es c (nrm q) with
 | some x,some y=>match op x y with
  | some o=>.ok (.o o) c
  | none=>.bad
 | _,_=>.bad
def Bd3 (fa fb:o7):o7:=fun c=>(fa c).bind fun p c=>match Es c (nrm p) with
 | some d=>if Wh d=true then mtR Aa2 fb p c else if Nh d=true then mtR Iw fb p c else .bad
 | none=>.bad
theorem Bz8 {z u:TE}{fa fb:o7}(ha:ME K z fa)(hb:ME K u fb):ME K (Bo4 K z (Cw u Gf)) (Bd3 fa fb):=by
 intro n W c h Q R s
 refine ha.toV n W c h _ R ((s.bnd).mono fun p m a D B t i l=>?_)
 have f:∀(r:V->n8->Hp->VK->Prop) (j:t6->t6->n7),OpS K (fun x y H Q=>r x [y] H Q) j->((mtR j fb p m).sat fun E I=>∀v b w,Stp W.S W.Hf W.H (orS b.S w) b.Hf b.H->Rep K n b I h->Gu K b h E v w->Q v b.H)->Cw u Gf h B.H fun J G=>r D J G Q:=by
  intro r j L a
  refine hb.toV n B m h _ i ((a.bnd).mono fun q A e P S g k F=>?_)
  cases ex:Es A (nrm p) with
  | none=>simp only[ex]at e;trivial
  | some x =>
   cases ey:Es A (nrm q) with
   | none=>simp only[ex,ey]at e;trivial
   | some y =>
    simp only[ex,ey]at e
    cases eo:j x y with
    | none=>simp only[eo]at e;trivial
    | some o =>
     simp only[eo]at e
     exact L _ _ _ _ x y o Q k.sub (Fz k (RepA.same g.fz l) ex) (Fz k F ey) eo (New.of k fun v b w N M C=>e v _ _ (t.trans (g.trans N)) M C)
 cases ed:Es m (nrm p) with
 | none=>simp only[ed]at a;trivial
 | some d =>
  simp only[ed]at a
  by_cases it:Wh d=true
  ·rw[if_pos it]at a
   exact .inl ⟨B0d _ _ d _ it i.sub (Fz i l ed),f _ _ Ar1 a⟩
  ·rw[if_neg it]at a
   by_cases it:Nh d=true
   ·rw[if_pos it]at a
    exact .inr ⟨A7n _ _ d _ it i.sub (Fz i l ed),f _ _ Xq a⟩
   ·rw[if_neg it]at a;trivial
def cFz (f:o7):o7:=fun c=>(f c).bind fun p c=>(frz (nrm p) c).bind fun d c=>.ok (.o (.im d)) c
theorem Bl6 {t:TE}{f:o7}(h:ME K t f):ME K t (cFz f):=by
 intro y W c x Q R s
 refine h.toV _ W c _ Q R (s.bnd.mono fun p n j v u e i k=>?_)
 obtain⟨d,o,r,_,l,w,b,m,g⟩:=Kp i k j.bnd
 have q:=l v _ [] ((e.trans b).less fun a z=>z.elim id fun z=>nomatch z) m ⟨⟨rfl,g⟩,fun a z=>nomatch z⟩
 grind
end
def J7:t6->Bool
 | .tuple ds=>Ez ds&&PyData.canLayAll0 ds&&decide (PyData.depthAll ds<=6)
 | _=>false
def Lq:w5->Option (List PyData×w5)
 | []=>some ([],[])
 | d::r=>match d with
  | .tuple l=>match l with
   | [k,v]=>if J7 k then (Lq r).map fun x=>(k::x.1,v::x.2) else none
   | _=>none
  | _=>none
def Vy:w5->Bool
 | []=>true
 | k::r=>!(r.any fun e=>PyData.eqv k e)&&Vy r
def Xh:w5->w5->t6->Option t6
 | k::ks,d::ds,z=>if PyData.eqv k z=true then some d else Xh ks ds z
 | _,_,_=>none
def cDP (fa:o7):o7:=fun c=>(fa c).bind fun p c=>match Es c (nrm p) with
 | some (.tuple ds)=>match Lq ds with
  | some x=>if x.1.length<=16000000/\Vy x.1=true then .ok (.o (.ty (.dt x.1 x.2))) c else .bad
  | none=>.bad
 | _=>.bad
def Al9 (fa fw:o7):o7:=fun c=>(fa c).bind fun p c=>match p with
 | .o (.ty (.dt ks ds))=>(fw c).bind fun q c=>match Es c (nrm q) with
  | some k=>if (J7 k&&ks.all J7)=true then match Xh ks ds k with
   | some d=>.ok (.o (.im d)) c
   | none=>.bad
   else .bad
  | none=>.bad
 | _=>.bad
theorem Jk {k:t6}(h:J7 k=true):Bn1 k/\∃a,k=.tuple a:=by
 cases k with
 | tuple a =>
  obtain⟨c,d⟩:=aq.mp (show (Ez _&&PyData.canLayAll0 _&&decide _)=true from h)
  obtain⟨e,b⟩:=aq.mp c;exact⟨⟨e,b,eU (aL d)⟩,a,rfl⟩
 | _=>cases h
mutual
theorem A7c {H:Hp}:∀{d:t6}{v:V},keyB d=true->Tr H d v->KTr H d v
 | .none,_,_,h=>h
 | .int _,_,_,h=>h
 | .str _,_,_,h=>h
 | .tuple ds,_,k,⟨a,vs,e,ha,t⟩=>⟨a,vs,e,ha,Az0 k t⟩
theorem Az0 {H:Hp}:∀{ds:w5}{vs:n8},Ez ds=true->TrL H ds vs->KTrL H ds vs
 | [],_,_,h=>h
 | d::ds,_,k,⟨v,r,e,h,t⟩=>by
  obtain⟨k1,k2⟩:=aq.mp (show (keyB d&&Ez ds)=true from k)
  exact⟨v,r,e,A7c k1 h,Az0 k2 t⟩
end
theorem Ao2 {H:Hp}{k:t6}{v:V}(h:J7 k=true)(t:Tr H k v):∃b,v=.ref b/\KAt H k b:=by
 obtain⟨c,ds,rfl⟩:=Jk h;obtain⟨a,d,rfl,f,e⟩:=t;exact⟨a,rfl,c,A7c c.1 ⟨a,d,rfl,f,e⟩⟩
theorem Xj:∀{ks:w5},(∀k∈ks,J7 k=true)->Vy ks=true->ks.Nodup
 | [],_,_=>cR
 | k::r,hk,h=>by
  obtain⟨h1,h2⟩:=aq.mp (show (!(r.any fun e=>PyData.eqv k e)&&Vy r)=true from h)
  refine List.nodup_cons.mpr ⟨fun m=>?_,Xj (fun x hx=>hk x (aW _ hx)) h2⟩
  have b:=(Jk (hk k aN)).1.1
  have:(r.any fun e=>PyData.eqv k e)=true:=List.any_eq_true.mpr ⟨k,m,(Mm k k b b).mpr rfl⟩
  rw[this]at h1;cases h1
theorem Y7:∀{ds:w5}{x:List PyData×w5},Lq ds=some x->∀k∈x.1,J7 k=true
 | [],_,e,k,hk=>by cases e;cases hk
 | d::r,x,e,k,hk=>by
  unfold Lq at e
  split at e
  ·split at e
   ·rename_i k' v
    by_cases c:J7 k'=true
    ·rw[if_pos c]at e
     obtain⟨y,e1,rfl⟩:=aO.mp e
     rcases az.mp hk with rfl | hk
     ·exact c
     ·exact Y7 e1 k hk
    ·rw[if_neg c]at e;cases e
   ·cases e
  ·cases e
section
variable {K:v9}{β:Nat->V}{W W':Wo}{c c':Ev}{σ:St}{Hf H:Hp}
theorem Aw8:∀{ds:w5}{vs:n8}{x:List PyData×w5},TrL H ds vs->Lq ds=some x->∃xs,PairsR H vs (x.1.zip xs)/\TrL H x.2 xs/\x.1.length=xs.length
 | [],_,_,e,q=>by cases q;cases (show _=[] from e);exact⟨[],rfl,rfl,rfl⟩
 | d::r,_,x,⟨v,vs,rfl,t,ts⟩,e=>by
  unfold Lq at e
  split at e
  ·split at e
   ·rename_i k' w
    by_cases c:J7 k'=true
    ·rw[if_pos c]at e
     obtain⟨y,e1,rfl⟩:=aO.mp e;obtain⟨xs,p1,p2,p3⟩:=Aw8 ts e1;obtain⟨a,us,rfl,ha,tl⟩:=t;obtain⟨v1,r1,rfl,t1,v2,r2,rfl,t2,e3⟩:=tl
     cases (show r2=[] from e3)
     obtain⟨b,rfl,kb⟩:=Ao2 c t1
     exact⟨v2::xs,⟨a,b,k',v2,_,rfl,ha,kb,rfl,p1⟩,⟨v2,xs,rfl,t2,p2⟩,by simp[p3]⟩
    ·rw[if_neg c]at e;cases e
   ·cases e
  ·cases e
theorem New.dt {Q:VK}{ks ds:w5}{vs:n8}(h:New K Hf H (.ty (.dt ks ds)) Q)(s:Same Hf H)(t:TrL Hf ds vs)(l:ks.length=vs.length){p:Addr}(hp:H p=none):Q (.ref p) (upd H p (.dT (ks.zip vs))) :=
 h _ _ _ [] ((Stp.newF s hp).less fun a z=>nomatch z) (Q4 s) ⟨rfl,p,vs,rfl,.inl Cq,TrL.same (Cp (Same.free s hp)) t,l⟩
theorem PairsR.same {H H':Hp}(S:Same H H'):∀{vs:n8}{kvs:List (PyData×V)},PairsR H vs kvs->PairsR H' vs kvs
 | [],_,h=>h
 | _::_,_,⟨p,b,k,x,r,e,hp,hk,e2,t⟩=>⟨p,b,k,x,r,e,S _ _ hp,hk.stay fun b xs q=>S _ _ q,e2,PairsR.same S t⟩
theorem B2l {h:TE}{fa:o7}(ha:ME K h fa):ME K (tDP h) (cDP fa):=by
 intro C W c H Q R s
 refine ha.toV _ W c _ _ R (s.bnd.mono fun p k b G D f e l=>?_)
 cases ex:Es k (nrm p) with
 | none=>simp only[ex]at b;exact b.elim
 | some d =>
  cases d with
  | tuple m =>
   simp only[ex]at b
   cases ey:Lq m with
   | none=>simp only[ey]at b;exact b.elim
   | some x =>
    simp only[ey]at b
    by_cases hb:x.1.length<=16000000/\Vy x.1=true
    ·rw[if_pos hb]at b
     obtain⟨a,n,g,q,j⟩:=(show Tr _ _ _ from Fz e l ex)
     obtain⟨w,t,u,i⟩:=Aw8 j ey
     have r:(x.1.zip w).length=x.1.length:=by simp_all
     refine⟨a,n,x.1.zip _,g,e.sub _ _ q,PairsR.same e.sub t,by rw[r];exact lim hb.1,?_,fun z A=>New.dt (New.of e fun v E F y B o=>b v _ _ (f.trans y) B o) e.sub u i A⟩
     rw[List.map_fst_zip (dR i)];exact Xj (Y7 ey) hb.2
    ·rw[if_neg hb]at b;exact b.elim
  | none=>simp only[ex]at b;exact b.elim
  | bool _=>simp only[ex]at b;exact b.elim
  | int _=>simp only[ex]at b;exact b.elim
  | str _=>simp only[ex]at b;exact b.elim
  | list _=>simp only[ex]at b;exact b.elim
  | dict _=>simp only[ex]at b;exact b.elim
theorem A0e:∀{ks ds:w5}{xs:n8}{z d:t6},(∀k∈ks,J7 k=true)->J7 z=true->TrL Hf ds xs->Xh ks ds z=some d->∃v,X7 (ks.zip xs) z=some v/\Tr Hf d v
 | [],_,_,_,_,_,_,_,e=>nomatch e
 | _::_,[],_,_,_,_,_,_,e=>nomatch e
 | k::ks,d0::ds,_,z,d,hk,hz,⟨v,r,ev,t,ts⟩,e=>by
  subst ev;have b:=(Jk (hk k aN)).1.1;have b2:=(Jk hz).1.1
  have e:(if PyData.eqv k z=true then some d0 else Xh ks ds z)=some d:=e
  by_cases h:PyData.eqv k z=true
  ·rw[if_pos h]at e
   cases e
   exact⟨v,V2 ((Mm k z b b2).mp h),t⟩
  ·rw[if_neg h]at e
   obtain⟨v',h1,h2⟩:=A0e (fun k m=>hk k (aW _ m)) hz ts e
   refine⟨v',?_,h2⟩
   rw[cz,Wr (fun q=>h ((Mm k z b b2).mpr q))];exact h1
theorem Bc2 {r t:TE}{fa fw:o7}(ha:ME K r fa)(hw:ME K t fw):ME K (A9j r t) (Al9 fa fw):=by
 intro x W c F Q R s
 refine ha x W c F _ R ((s.bnd).mono fun p c1 e v1 W1 w j D f=>?_)
 match p,f,e with
 | .o (.ty (.dt ks ds)),f,e =>
  obtain⟨⟨rfl,a,y,rfl,A,B,l1⟩,_⟩:=f
  have j  := j.less fun a z=>.inl z
  refine hw.toV _ _ _ _ _ D (e.bnd.mono fun q C g v2 W2 i l E=>?_)
  cases ed:Es C (nrm q) with
  | none=>simp only[ed]at g;exact g.elim
  | some k =>
   simp only[ed]at g
   by_cases hb:(J7 k&&ks.all J7)=true
   ·rw[if_pos hb]at g
    obtain⟨o,n⟩:=aq.mp hb
    cases el:Xh ks ds k with
    | none=>simp only[el]at g;exact g.elim
    | some d =>
     simp only[el]at g;obtain⟨_,kd,rfl⟩:=Jk o;obtain⟨b,rfl,G⟩:=Ao2 o (Fz l E ed)
     obtain⟨v,H,u⟩:=A0e (fun k m=>bz.mp n k m) o (TrL.same i.fz B) el
     refine⟨a,v,rfl,?_,?_⟩
     ·rw[<- H]
      exact .inr ⟨_,_,b,(Ae2 l.sub (Ae2 i.fz A)),rfl,G.stay fun b y q=>l.sub _ _ q,rfl⟩
     ·exact g v _ _ ((j.trans i).less fun a h=>by
       rcases h with h | h
       ·exact h
       ·cases h) l ⟨⟨rfl,u⟩,fun a h=>nomatch h⟩
   ·rw[if_neg hb]at g;exact g.elim
 | .o (.ty (.nm _)),f,e=>exact e.elim
 | .o (.ty (.xc _)),f,e=>exact e.elim
 | .o (.ty (.dc _ _)),f,e=>exact e.elim
 | .o (.ty (.ds _ _)),f,e=>exact e.elim
 | .o (.ty (.td _ _ _)),f,e=>exact e.elim
 | .o (.im _),f,e=>exact e.elim
 | .o (.ls _ _),f,e=>exact e.elim
 | .o (.sc _),f,e=>exact e.elim
 | .sl _,f,e=>exact e.elim
end
inductive DE where
 | d (x:t6)
 | l (xs:w5)
inductive BR where
 | nx (c:Ev) (ks:w5) (es:List DE)
 | bad
def DX (a:Addr)(X:Nat->v6)(b:Addr):Prop:=b=a\/∃j,b∈X j
abbrev orX (S:Addr->Prop)(a:Addr)(X:Nat->v6):Addr->Prop:=fun b=>S b\/DX a X b
variable {K:v9}
theorem Be {X:Cx}{x:Str}{k c:Nat}{ps:v4}{sp:Sp}{e:Expr}{es:v_}{t:TA}{p a:Pos}(D:Def X.prog X.w X.K X.mg X.base x k ps sp)(hr:Room c X.A)(ha:QA X (e::es) t)(h:k<=c:=by omega)(hg:Gl X x:=by rfl)
 (hdb:(x==("__debug__" : Str))=false:=by decide) (hn:noStar (e::es)=true:=by rfl):QE X (.Call (.Name x p) (e::es) [] a) (Zi sp [] E0 t):=by
 obtain⟨f,g,G,b,d,m⟩:=D;exact A8m G (hr.mono h) hg m d b .nil B1s ha hdb hn
variable {K:v9}{β:Nat->V}{W W':Wo}{c c':Ev}{σ:St}{Hf H:Hp}
def Ay8 (acc:w5)(x:t6):w5:=if acc.any (fun y=>PyData.eqv y x)=true then acc else acc++[x]
def nuq (ds:w5):w5:=ds.foldl Ay8 []
theorem A5l:∀{ds acc:w5},(∀d∈ds,J7 d=true)->(∀d∈acc,J7 d=true)->ds.foldl Ay8 acc=ds.foldl Lj acc
 | [],_,_,_=>rfl
 | d::ds,acc,h,ha=>by
  have hd:=h d aN
  have e:Ay8 acc d=Lj acc d:=by
   have m:acc.any (fun y=>PyData.eqv y d)=Nz acc d:=by
    rw[Bool.eq_iff_iff,memB_iff,List.any_eq_true]
    constructor
    ·rintro⟨y,hy,q⟩
     rw[(Mm y d (Jk (ha y hy)).1.1 (Jk hd).1.1).mp q]at hy;exact hy
    ·intro q
     exact⟨d,q,(Mm d d (Jk hd).1.1 (Jk hd).1.1).mpr rfl⟩
   unfold Ay8 Lj;rw[m]
  rw[List.foldl_cons,List.foldl_cons,e]
  refine A5l (fun x hx=>h x (aW _ hx)) fun x hx=>?_
  unfold Lj at hx
  split at hx
  ·exact ha x hx
  ·rcases aX.mp hx with hx | hx
   ·exact ha x hx
   ·rw[aG.mp hx];exact hd
theorem Av8 {ds:w5}(h:∀d∈ds,J7 d=true):nuq ds=dst ds:=A5l h fun d a=>nomatch a
def Ou (ds:w5):n7:=if (ds.all J7&&decide (ds.length<300))=true then some (.im (.int ((nuq ds).length:Nat))) else none
def O2:t6->n7
 | .list ds=>Ou ds
 | .tuple ds=>Ou ds
 | _=>none
theorem A6b:∀{ds:w5}{vs:n8},(∀d∈ds,J7 d=true)->TrL H ds vs->KTs H vs ds
 | [],vs,_,h=>by cases (show vs=[] from h);exact .nil
 | d::ds,_,hk,⟨v,r,e,t,ts⟩=>by
  subst e
  exact .cons (Ao2 (hk d aN) t) (A6b (fun x hx=>hk x (aW _ hx)) ts)
theorem Af2:UnS K (fun x H Q=>Qc K [x] H fun y H=>K9 [y] H Q) O2:=by
 have k:∀{i H:Hp} {a:Addr} {f:n8} {c:List _} {o:O} {Q:VK},Same i H->SqL K H a f\/SqT K H a f->TrL i c f->Ou c=some o ->
  New K i H o Q->Qc K [.ref a] H fun y H=>K9 [y] H Q:=by
  intro i H a f c o Q s r t e n;unfold Ou at e
  by_cases hl:(c.all J7&&decide (c.length<300))=true
  ·rw[if_pos hl]at e
   cases e
   obtain⟨g,l⟩:=aq.mp hl;have j  := bz.mp g;have l:=aL l
   refine⟨a,f,c,rfl,r,A6b j (TrL.same s t),by rw[<- t.length];grind,fun p m=>⟨p,_,rfl,Cq,?_,?_⟩⟩
   ·exact aQ (Ot _ _ rfl) (by omega)
   ·rw[<- Av8 j]
    refine n _ _ _ [] ⟨fun _ _ h=>h,fun b u e _=>?_,fun _ _ _ _ _ h=>h,fun _ h=>nomatch h⟩ (fun b u e=>?_) ⟨rfl,rfl⟩
    ·exact Cp m b u e
    ·exact Cp m b u (s b u e)
  grind
 intro i H x d o Q s q e n
 cases d with
 | list c =>
  obtain⟨a,f,rfl,g,t⟩:=G7 q;exact k s (.inl (SqL.of g)) t e n
 | tuple c =>
  obtain⟨a,f,rfl,g,t⟩:=Ha s q;exact k s (.inr (SqT.of g)) t e n
 | _=>cases e
theorem Ah9 {t:TE}{f:o7}(h:ME K t f):ME K (tCB K9 (Cw (tCB (Qc K) (Cw t Gf)) Gf)) (cUn O2 f):=Xe (r:=fun x H Q=>Qc K _ H _) h Af2
end U
namespace PS
open PySem PySem.W PyProof.Rows L2
theorem K6 {α β:Type}{B:Nat->Nat->Option Bool}{f:α->KasT β}:∀t:KasT α,kEv B (t.bind f)=(kEv B t).bind fun a=>kEv B (f a)
 | .ret a=>rfl
 | .ask i j k=>by
  show (B i j).bind (fun b=>kEv B ((k b).bind f))=((B i j).bind fun b=>kEv B (k b)).bind fun a=>kEv B (f a)
  rw[Option.bind_assoc]
  congr 1;funext b
  exact K6 (k b)
structure Ord (lt:Nat->Nat->Bool):Prop where
 irr:∀a,lt a a=false
 tr:∀a b c,lt a b=true->lt b c=true->lt a c=true
 neg:∀a b c,lt a c=true->lt a b=true\/lt b c=true
def Rr (lt:Nat->Nat->Bool)(x y:Nat):Prop:=lt x y=true\/(lt y x=false/\x<y)
section
variable {lt:Nat->Nat->Bool}{B:Nat->Nat->Option Bool}{n:Nat}{p:Array Nat}
theorem Ord.no (O:Ord lt){a b:Nat}(h:lt a b=true):lt b a=false:=by
 cases e:lt b a with
 | false=>rfl
 | true=>have:=O.tr _ _ _ h e;rw[O.irr]at this;trivial
theorem Rr.trans (O:Ord lt){a b c:Nat}(h:Rr lt a b)(k:Rr lt b c):Rr lt a c:=by
 rcases h with h | ⟨h,f⟩
 ·rcases k with k | ⟨k,d⟩
  ·exact .inl (O.tr _ _ _ h k)
  ·rcases O.neg _ c _ h with z | z
   ·exact .inl z
   simp_all
 ·rcases k with k | ⟨k,d⟩
  ·rcases O.neg _ a _ k with z | z
   ·simp_all
   ·exact .inl z
  ·refine .inr ⟨?_,by omega⟩
   cases e:lt c a with
   | false=>rfl
   | true =>
    rcases O.neg _ b _ e with z | z
    ·simp_all
    simp_all
def Eq' (lt:Nat->Nat->Bool)(x y:Nat):Prop:=lt x y=false/\lt y x=false
theorem Eq'.lt_of (O:Ord lt){a b c:Nat}(h:Eq' lt a b)(k:lt b c=true):lt a c=true:=by
 rcases O.neg _ a _ k with z | z
 ·rw[h.2]at z;grind
 trivial
theorem Eq'.lt_to (O:Ord lt){a b c:Nat}(h:Eq' lt a b)(k:lt c b=true):lt c a=true:=by
 rcases O.neg _ a _ k with z | z
 ·grind
 ·rw[h.1]at z;grind
theorem Eq'.trans (O:Ord lt){a b c:Nat}(h:Eq' lt a b)(k:Eq' lt b c):Eq' lt a c:=by
 refine⟨?_,?_⟩
 ·cases e:lt a c with
  | false=>rfl
  | true=>
   rcases O.neg _ b _ e with z | z
   ·rw[h.1]at z;grind
   ·rw[k.1]at z;grind
 ·cases e:lt c a with
  | false=>rfl
  | true=>
   rcases O.neg _ b _ e with z | z
   ·rw[k.2]at z;grind
   ·rw[h.2]at z;grind
theorem gD (p:Array Nat)(k:Nat):p.getD k 0=(p[k]?).getD 0:=by
 simp_all
theorem Ku {i j:Nat}(hj:j<=p.size)(k:Nat):(kas_rev p i j).getD k 0=if i<=k/\k<j then p.getD (i+j-1-k) 0 else p.getD k 0:=by
 rw[gD,gD,gD,kas_rev,getElem?_mirror_all hj]
 grind
theorem By6 {src d:Nat}(hs:src<p.size)(hd:d<=src)(k:Nat):(bubble p src d).getD k 0=if k=src-d then p.getD src 0 else if src-d<k/\k<=src then p.getD (k-1) 0 else p.getD k 0:=by
 rw[gD,gD,gD,gD,getElem?_bubble hs d hd]
 grind
structure Fx (n:Nat) (p:Array Nat) (k:Nat):Prop where
 sz:p.size=n
 lo:∀i,i<k->p.getD i 0<k
 hi:∀i,k<=i->i<n->p.getD i 0=i
theorem Fx.rev {k i j:Nat}(F:Fx n p k)(hj:j<=k)(hk:k<=n):Fx n (kas_rev p i j) k:=by
 have b:j<=p.size:=by rw[F.sz];omega
 refine⟨(mirror_size _ _ _ _).trans F.sz,fun a d=>?_,fun a e c=>?_⟩
 ·rw[Ku b]
  split
  ·exact F.lo _ (by omega)
  ·exact F.lo _ d
 ·rw[Ku b,if_neg (by omega)]
  exact F.hi a e c
theorem Fx.up {k:Nat}(F:Fx n p k)(hk:k<n):Fx n p (k+1):=by
 refine⟨F.sz,fun i b=>?_,fun i c a=>F.hi i (by omega) a⟩
 rcases aM i k with h | h
 ·have:=F.lo i h;omega
 ·rw[show i=k by omega,F.hi k (aj _) hk];omega
theorem Fx.bound {k i:Nat}(F:Fx n p k)(hk:k<=n)(hi:i<n):p.getD i 0<n:=by
 rcases aM i k with h | h
 ·have:=F.lo i h;omega
 ·rw[F.hi i h hi];omega
def So (lt:Nat->Nat->Bool)(p:Array Nat)(k:Nat):Prop:=∀i j,i<j->j<k->Rr lt (p.getD i 0) (p.getD j 0)
theorem So.up (O:Ord lt){k:Nat}(S:So lt p k)(F:Fx n p k)(hk:k<n)(d:0<k)(h:lt (p.getD k 0) (p.getD (k-1) 0)=false):So lt p (k+1):=by
 have a:Rr _ _ _:=.inr ⟨h,by rw[F.hi k (aj _) hk];exact F.lo _ (by omega)⟩
 intro i j b c
 rcases aM j k with z | z
 ·exact S i j b z
 ·have e:j=k:=by omega
  subst e
  rcases aM i _ with y | y
  ·exact(S i _ y (by omega)).trans O a
  grind
theorem Ao6 (O:Ord lt)(hB:∀i j,i<n->j<n->B i j=some (lt i j)):∀(f k:Nat),0<k->k+f=n->Fx n p k->So lt p k->∃m,kEv B (kas_asc p f k)=some m/\k<=m/\m<=n/\Fx n p m/\So lt p m/\(m<n->lt (p.getD m 0) (p.getD (m-1) 0)=true)
 | 0,k,h0,hk,F,S=>⟨k,rfl,aj _,by omega,F,S,fun z=>by omega⟩
 | f+1,k,h0,hk,F,S=>by
  have e:kEv B (kas_asc p (f+1) k)=kEv B (if lt (p.getD k 0) (p.getD (k-1) 0)=true then .ret k else kas_asc p f (k+1)):=by
   show (B _ _).bind _=_
   rw[hB _ _ (F.bound (by omega) (by omega)) (F.bound (by omega) (by omega))];rfl
  rw[e]
  cases c:lt (p.getD k 0) (p.getD (k-1) 0) with
  | true=>exact⟨k,rfl,aj _,by omega,F,S,fun _=>c⟩
  | false =>
   obtain⟨m,h1,h2,h3⟩:=Ao6 O hB f (k+1) (by omega) (by omega) (F.up (by omega)) (S.up O F (by omega) h0 c)
   exact⟨m,h1,by omega,h3⟩
structure De (lt:Nat->Nat->Bool) (p:Array Nat) (k q:Nat):Prop where
 hq:q<k
 al:∀i,k-(q+1)<=i->i<k->Eq' lt (p.getD i 0) (p.getD (k-1) 0)
 asc:∀i j,k-(q+1)<=i->i<j->j<k->p.getD i 0<p.getD j 0
 dec:∀i j,i<j->j<k->i<k-(q+1)->Rr lt (p.getD j 0) (p.getD i 0)
 str:∀i j,i<k-(q+1)->k-(q+1)<=j->j<k->lt (p.getD j 0) (p.getD i 0)=true
def Dn (lt:Nat->Nat->Bool)(p:Array Nat)(k:Nat):Prop:=∀i j,i<j->j<k->Rr lt (p.getD j 0) (p.getD i 0)
theorem De.flat {k:Nat}(D:De lt p k 0):Dn lt p k:=fun i j a b=>D.dec i j a b (by omega)
theorem Eq'.symm {a b:Nat}(h:Eq' lt a b):Eq' lt b a:=⟨h.2,h.1⟩
theorem Eq'.refl (O:Ord lt)(a:Nat):Eq' lt a a:=⟨O.irr a,O.irr a⟩
theorem Rr.not (O:Ord lt){a b:Nat}(h:Rr lt a b):lt b a=false:=by
 rcases h with h | h
 ·exact O.no h
 grind
theorem De.flush (O:Ord lt){k q:Nat}(D:De lt p k q)(hs:k<=p.size):Dn lt (kas_rev p (k-(q+1)) k) k:=by
 have e:=D.hq;intro i j a b;have d:=Ku (i:=k-(q+1)) hs i;rw[d,(Ku (i:=k-(q+1)) hs j)]
 by_cases hi:k-(q+1)<=i
 ·rw[if_pos (⟨by omega,by omega⟩:k-(q+1)<=i/\i<k),if_pos (⟨by omega,by omega⟩:k-(q+1)<=j/\j<k)]
  have c:=D.al (k-(q+1)+k-1-i) (by omega) (by omega)
  exact .inr ⟨(c.trans O (D.al (k-(q+1)+k-1-j) (by omega) (by omega)).symm).1,D.asc _ _ (by omega) (by omega) (by omega)⟩
 ·rw[if_neg (by omega:¬ (k-(q+1)<=i/\i<k))]
  by_cases hj':k-(q+1)<=j
  ·rw[if_pos (⟨hj',b⟩)]
   exact .inl (D.str i _ (by omega) (by omega) (by omega))
  ·rw[if_neg (by omega)]
   exact D.dec i j a b (by omega)
theorem Dn.next (O:Ord lt){k:Nat}(D:Dn lt p k)(e:0<k)(h:lt (p.getD k 0) (p.getD (k-1) 0)=true):De lt p (k+1) 0:=by
 have a:∀i,i<k->lt (p.getD k 0) (p.getD i 0)=true:=fun i f=>by
  rcases aM i (k-1) with y | y
  ·rcases D i _ y (by omega) with z | ⟨z,_⟩
   ·exact O.tr _ _ _ h z
   ·rcases O.neg _ _ _ h with x | x
    ·exact x
    ·rw[z]at x;cases x
  ·rw[show i=k-1 by omega];exact h
 refine⟨by omega,fun i b c=>?_,fun i j b c d=>by omega,fun i j b c d=>?_,fun i j b c d=>?_⟩
 ·rw[show i=k+1-1 by omega];exact Eq'.refl O _
 ·rcases aM j k with z | z
  ·exact D i j b z
  ·rw[show j=k by omega];exact .inl (a i (by omega))
 ·rw[show j=k by omega];exact a i (by omega)
theorem De.more (O:Ord lt){k q:Nat}(D:De lt p k q)(F:Fx n p k)(hk:k<n)(h1:lt (p.getD k 0) (p.getD (k-1) 0)=false)(h2:lt (p.getD (k-1) 0) (p.getD k 0)=false):De lt p (k+1) (q+1):=by
 have d:=D.hq;have e:Eq' lt (p.getD (k-1) 0) (p.getD k 0):=⟨h2,h1⟩
 refine⟨by omega,fun i b a=>?_,fun i j b a c=>?_,fun i j b a c=>?_,fun i j b a c=>?_⟩
 ·show Eq' lt (p.getD i 0) (p.getD k 0)
  rcases aM i k with z | z
  ·exact(D.al i (by omega) z).trans O e
  ·rw[show i=k by omega];exact Eq'.refl O _
 ·rcases aM j k with z | z
  ·exact D.asc i j (by omega) a z
  ·rw[show j=k by omega,F.hi k (aj _) hk];exact F.lo i (by omega)
 ·rcases aM j k with z | z
  ·exact D.dec i j b z (by omega)
  ·rw[show j=k by omega]
   exact .inl (e.symm.lt_of O (D.str i _ (by omega) (by omega) (by omega)))
 ·rcases aM j k with z | z
  ·exact D.str i j (by omega) (by omega) z
  ·rw[show j=k by omega]
   exact e.symm.lt_of O (D.str i _ (by omega) (by omega) (by omega))
theorem Vf (O:Ord lt)(hB:∀i j,i<n->j<n->B i j=some (lt i j)):∀(f:Nat) (p:Array Nat) (k q:Nat),k+f=n->Fx n p k->De lt p k q ->
 ∃p' m q',kEv B (kas_desc f p k q)=some (p',m,q')/\0<m/\m<=n/\Fx n p' m/\De lt p' m q'/\p'.Perm p
 | 0,p,k,q,hk,F,D=>⟨p,k,q,rfl,by have:=D.hq;omega,by omega,F,D,eF _⟩
 | f+1,p,k,q,hk,F,D=>by
  have hq:=D.hq
  have hkn:k<n:=by omega
  have b1:=F.bound (i:=k) (by omega) (by omega)
  have b2:=F.bound (i:=k-1) (by omega) (by omega)
  have e:kEv B (kas_desc (f+1) p k q)=kEv B (if lt (p.getD k 0) (p.getD (k-1) 0)=true then (if q>0 then kas_desc f (kas_rev p (k-(q+1)) k) (k+1) 0 else kas_desc f p (k+1) 0)
   else .ask (p.getD (k-1) 0) (p.getD k 0) fun d=>if d=true then .ret (p,k,q) else kas_desc f p (k+1) (q+1)):=by
   show (B _ _).bind _=_
   rw[hB _ _ b1 b2];rfl
  rw[e]
  cases c:lt (p.getD k 0) (p.getD (k-1) 0) with
  | true =>
   rw[if_pos rfl]
   by_cases h0:q>0
   ·rw[if_pos h0]
    have hs:k<=p.size:=by rw[F.sz];omega
    have g1:(kas_rev p (k-(q+1)) k).getD k 0=p.getD k 0:=by rw[Ku hs,if_neg (by omega)]
    have g2:(kas_rev p (k-(q+1)) k).getD (k-1) 0=p.getD (k-(q+1)) 0:=by rw[Ku hs,if_pos (by omega)];congr 1;omega
    have D2:=(D.flush O hs).next O (by omega) (by rw[g1,g2];exact(D.al (k-(q+1)) (by omega) (by omega)).lt_to O c)
    obtain⟨p',m,q',a1,a2,a3,a4,a5,a6⟩:=Vf O hB f _ (k+1) 0 (by omega) ((F.rev (by omega) (by omega)).up hkn) D2
    exact⟨p',m,q',a1,a2,a3,a4,a5,a6.trans (mirror_perm _ _ _ _)⟩
   ·rw[if_neg h0]
    have hq0:q=0:=by omega
    subst hq0
    exact Vf O hB f p (k+1) 0 (by omega) (F.up hkn) (D.flat.next O (by omega) c)
  | false =>
   rw[if_neg (by decide)]
   have e2:kEv B (.ask (p.getD (k-1) 0) (p.getD k 0) fun d=>if d=true then .ret (p,k,q) else kas_desc f p (k+1) (q+1))=kEv B (if lt (p.getD (k-1) 0) (p.getD k 0)=true then .ret (p,k,q) else kas_desc f p (k+1) (q+1)):=by
    show (B _ _).bind _=_
    rw[hB _ _ b2 b1];rfl
   rw[e2]
   cases d:lt (p.getD (k-1) 0) (p.getD k 0) with
   | true=>exact⟨p,k,q,rfl,by omega,by omega,F,D,eF _⟩
   | false=>exact Vf O hB f p (k+1) (q+1) (by omega) (F.up hkn) (D.more O F hkn c d)
theorem Ai4 (O:Ord lt)(hB:∀i j,i<n->j<n->B i j=some (lt i j)){k:Nat}(c:0<k)(hk:k<=n)(F:Fx n p k)(D:Dn lt p k):∃m p',kEv B (kas_tail3 k n p)=some (m,p')/\0<m/\m<=n/\Fx n p' m/\So lt p' m/\p'.Perm p:=by
 have a:k<=p.size:=by rw[F.sz];omega
 have S:So _ (kas_rev p 0 k) k:=fun i j e h=>by
  rw[Ku a i,Ku a j,if_pos (⟨by omega,by omega⟩),if_pos (⟨by omega,by omega⟩)]
  exact D _ _ (by omega) (by omega)
 obtain⟨m,f,l,d,g,b,_⟩:=Ao6 O hB (n-k) k c (by omega) (F.rev  (aj _) hk) S
 refine⟨m,kas_rev p 0 k,?_,by omega,d,g,b,mirror_perm _ _ _ _⟩
 rw[kas_tail3,K6,f];rfl
theorem Uy (O:Ord lt)(hB:∀i j,i<n->j<n->B i j=some (lt i j)){k:Nat}(hk:k<n)(F:Fx n p (k+1))(D:De lt p (k+1) 0):∃m a,kEv B (kas_descPart k n p)=some (m,a)/\0<m/\m<=n/\Fx n a m/\So lt a m/\a.Perm p:=by
 obtain⟨u,m,q,x,t,f,g,v,w⟩:=Vf O hB (n-(k+1)) p _ 0 (by omega) F D
 have e:kEv B (kas_descPart k n p)=kEv B (if q>0 then kas_tail3 m n (kas_rev u (m-(q+1)) m) else kas_tail3 m n u):=by
  rw[kas_descPart,K6,x];rfl
 rw[e]
 by_cases h0:q>0
 ·rw[if_pos h0]
  obtain⟨d,a,h,c,o,l,r,s⟩:=Ai4 O hB t f (g.rev (aj _) f) (v.flush O (by rw[g.sz];grind))
  exact⟨d,a,h,c,o,l,r,(s.trans (mirror_perm _ _ _ _)).trans w⟩
 ·have b:q=0:=by omega
  subst b;obtain⟨d,a,h,c,o,l,r,s⟩:=Ai4 O hB t f g v.flat;exact⟨d,a,h,c,o,l,r,s.trans w⟩
theorem A5q (O:Ord lt)(hB:∀i j,i<n->j<n->B i j=some (lt i j))(h1:1<=n)(F:Fx n p 1):∃m f,kEv B (kas_count n p)=some (m,f)/\0<m/\m<=n/\Fx n f m/\So lt f m/\f.Perm p:=by
 obtain⟨m,v,K,l,b,k,u⟩:=Ao6 O hB (n-1) 1 (by omega) (by omega) F (fun i j h o=>by omega)
 have e:kEv B (kas_count n p)=kEv B (if (m==n)=true then .ret (m,p) else if m>1 then .ask (p.getD 0 0) (p.getD (m-1) 0) fun c=>if c=true then .ret (m,p) else kas_descPart m n (kas_rev p 0 m) else kas_descPart m n p):=by
  rw[kas_count,K6,v];rfl
 rw[e]
 by_cases hmn:m=n
 ·rw[if_pos (by simp[hmn])];exact⟨m,p,rfl,by omega,l,b,k,eF _⟩
 ·rw[if_neg (by simp[hmn])]
  have a:m<n:=by omega
  have c:=u a
  by_cases hm:m>1
  ·rw[if_pos hm]
   have E:kEv B (.ask (p.getD 0 0) (p.getD (m-1) 0) fun c=>if c=true then .ret (m,p) else kas_descPart m n (kas_rev p 0 m))=kEv B (if lt (p.getD 0 0) (p.getD (m-1) 0)=true then .ret (m,p) else kas_descPart m n (kas_rev p 0 m)):=by
    show (B _ _).bind _=_
    rw[hB _ _ (b.bound l (by omega)) (b.bound l (by omega))];rfl
   rw[E]
   cases d:lt (p.getD 0 0) (p.getD (m-1) 0) with
   | true=>exact⟨m,p,rfl,by omega,l,b,k,eF _⟩
   | false =>
    rw[if_neg (by decide)]
    have s:m<=p.size:=by rw[b.sz];omega
    have g:∀i,i<m->(kas_rev p 0 m).getD i 0=p.getD (m-1-i) 0:=fun i q=>by
     rw[Ku s,if_pos (⟨by omega,q⟩:0<=i/\i<m)];congr 1;omega
    have w:(kas_rev p 0 m).getD m 0=p.getD m 0:=by rw[Ku s,if_neg (by omega)]
    have A:∀i,i<m->Eq' lt (p.getD i 0) (p.getD (m-1) 0):=fun i q=>by
     refine⟨?_,?_⟩
     ·cases x:lt (p.getD i 0) (p.getD (m-1) 0) with
      | false=>rfl
      | true =>
       rcases O.neg _ (p.getD 0 0) _ x with z | z
       ·rcases Nat.eq_zero_or_pos i with y | y
        ·rw[y,O.irr]at z;cases z
        ·rw[(k 0 i y q).not O]at z;cases z
       ·rw[d]at z;cases z
     ·rcases aM i (m-1) with y | y
      ·exact(k i (m-1) y (by omega)).not O
      ·rw[show i=m-1 by omega];exact O.irr _
    have r:Dn lt (kas_rev p 0 m) m:=fun i j h o=>by
     rw[g i (by omega),g j o];exact k _ _ (by omega) (by omega)
    obtain⟨D,f,G,C,I,H,J,t⟩:=Uy O hB a ((b.rev  (aj _) l).up a) (r.next O (by omega) (by rw[w,g _ (by omega)];exact(A _ (by omega)).lt_to O c))
    exact⟨D,f,G,C,I,H,J,t.trans (mirror_perm _ _ _ _)⟩
  ·rw[if_neg hm]
   have r:Dn lt p m:=fun i j h o=>by omega
   exact Uy O hB a (b.up a) (r.next O (by omega) c)
theorem V4 (O:Ord lt)(hB:∀i j,i<n->j<n->B i j=some (lt i j)){k:Nat}(hk:k<n)(F:Fx n p k)(S:So lt p k):∀(f l r:Nat),l<=r->r<=k->r-l<=f->(∀i,i<l->lt (p.getD k 0) (p.getD i 0)=false)->(∀i,r<=i->i<k->lt (p.getD k 0) (p.getD i 0)=true) ->
 ∃m,kEv B (kas_place p k f l r)=some m/\m<=k/\(∀i,i<m->lt (p.getD k 0) (p.getD i 0)=false)/\(∀i,m<=i->i<k->lt (p.getD k 0) (p.getD i 0)=true)
 | 0,l,r,h1,h2,h3,a,b=>⟨l,rfl,by omega,a,fun i x y=>b i (by omega) y⟩
 | f+1,l,r,h1,h2,h3,a,b=>by
  by_cases h:l≥r
  ·refine⟨l,?_,by omega,a,fun i x y=>b i (by omega) y⟩
   rw[kas_place,if_pos h];rfl
  ·have e:kEv B (kas_place p k (f+1) l r)=kEv B (if lt (p.getD k 0) (p.getD ((l+r) / 2) 0)=true then kas_place p k f l ((l+r) / 2) else kas_place p k f ((l+r) / 2+1) r):=by
    rw[kas_place,if_neg h]
    show (B _ _).bind _=_
    rw[hB _ _ (F.bound (by omega) (by omega)) (F.bound (by omega) (by omega))];rfl
   rw[e]
   cases c:lt (p.getD k 0) (p.getD ((l+r) / 2) 0) with
   | true =>
    rw[if_pos rfl]
    refine V4 O hB hk F S f l _ (by omega) (by omega) (by omega) a fun i x y=>?_
    rcases aM ((l+r) / 2) i with z | z
    ·rcases S _ i z y with q | ⟨q,_⟩
     ·exact O.tr _ _ _ c q
     ·rcases O.neg _ (p.getD i 0) _ c with w | w
      ·exact w
      ·rw[q]at w;cases w
    ·rw[show i=(l+r) / 2 by omega];exact c
   | false =>
    rw[if_neg (by decide)]
    refine V4 O hB hk F S f _ r (by omega) h2 (by omega) (fun i x=>?_) b
    rcases aM i ((l+r) / 2) with z | z
    ·have q:=S i _ z (by omega)
     cases w:lt (p.getD k 0) (p.getD i 0) with
     | false=>rfl
     | true =>
      rcases O.neg _ (p.getD ((l+r) / 2) 0) _ w with y | y
      ·rw[c]at y;cases y
      ·rw[q.not O]at y;cases y
    ·rw[show i=(l+r) / 2 by omega];exact c
theorem A8c (O:Ord lt)(hB:∀i j,i<n->j<n->B i j=some (lt i j)):∀(f:Nat) (p:Array Nat) (k:Nat),k+f=n->Fx n p k->So lt p k->∃p',kEv B (kas_bin f p k)=some p'/\Fx n p' n/\So lt p' n/\p'.Perm p
 | 0,p,k,hk,F,S=>by
  have e:k=n:=by omega
  subst e;exact⟨p,rfl,F,S,eF _⟩
 | f+1,p,k,hk,F,S=>by
  have hkn:k<n:=by omega
  obtain⟨l,a1,a2,a3,a4⟩:=V4 O hB hkn F S k 0 k (by omega) (aj _) (by omega) (fun i x=>by omega) (fun i x y=>by omega)
  have hs:k<p.size:=by rw[F.sz];exact hkn
  have g:=fun i=>By6 (p:=p) (src:=k) (d:=k-l) hs (by omega) i
  have kl:k-(k-l)=l:=by omega
  rw[kl]at g
  have e:kEv B (kas_bin (f+1) p k)=kEv B (kas_bin f (bubble p k (k-l)) (k+1)):=by
   rw[kas_bin,K6,a1];rfl
  have F2:Fx n (bubble p k (k-l)) (k+1):=by
   have U:=F.up hkn
   refine⟨(bubble_size _ _ _).trans F.sz,fun i hi=>?_,fun i h1 h2=>?_⟩
   ·rw[g i]
    by_cases c1:i=l
    ·rw[if_pos c1];exact U.lo _ (by omega)
    ·rw[if_neg c1]
     by_cases c2:l<i/\i<=k
     ·rw[if_pos c2];exact U.lo _ (by omega)
     ·rw[if_neg c2];exact U.lo _ hi
   ·rw[g i,if_neg (by omega),if_neg (by omega)]
    exact F.hi i (by omega) h2
  have new:∀i,i<l->Rr lt (p.getD i 0) (p.getD k 0):=fun i hi=>.inr ⟨a3 i hi,by rw[F.hi k (aj _) hkn];exact F.lo i (by omega)⟩
  have S2:So lt (bubble p k (k-l)) (k+1):=fun i j hij hj=>by
   rw[g i,g j]
   by_cases c1:j=l
   ·rw[if_pos c1,if_neg (by omega),if_neg (by omega)]
    exact new i (by omega)
   ·rw[if_neg c1]
    by_cases c2:l<j/\j<=k
    ·rw[if_pos c2]
     by_cases c3:i=l
     ·rw[if_pos c3];exact .inl (a4 _ (by omega) (by omega))
     ·rw[if_neg c3]
      by_cases c4:l<i/\i<=k
      ·rw[if_pos c4];exact S _ _ (by omega) (by omega)
      ·rw[if_neg c4];exact S _ _ (by omega) (by omega)
    ·rw[if_neg c2,if_neg (by omega),if_neg (by omega)];exact S _ _ hij (by omega)
  rw[e]
  obtain⟨p',b1,b2,b3,b4⟩:=A8c O hB f _ (k+1) (by omega) F2 S2
  exact⟨p',b1,b2,b3,b4.trans (bubble_perm _ _ _)⟩
theorem A9y (O:Ord lt)(hB:∀i j,i<n->j<n->B i j=some (lt i j))(h1:1<=n):∃p,kEv B (kas_sort n)=some p/\p.size=n/\So lt p n/\p.toList.Perm (List.range n):=by
 have F:Fx n (List.toArray (List.range n)) 1:=by
  have q:∀i,i<n->(List.toArray (List.range n)).getD i 0=i:=fun i a=>by
   rw[gD];simp[a]
  exact⟨by simp,fun i a=>by rw[q i (by omega)];exact a,fun i _ a=>q i a⟩
 obtain⟨m,p,g,t,u,c,f,b⟩:=A5q O hB h1 F
 have e:kEv B (kas_sort n)=kEv B (if m<n then kas_bin (n-max m 1) p (max m 1) else .ret p):=by
  rw[kas_sort,K6,g];rfl
 rw[e]
 have d:∀q:Array _,q.Perm (List.toArray (List.range n))->q.toList.Perm _:=fun q h=>by
  have:=Array.perm_iff_toList_perm.mp h
  simpa using this
 by_cases h:m<n
 ·rw[if_pos h,show max m 1=m by omega]
  obtain⟨r,k,l,s,o⟩:=A8c O hB (n-m) p m (by omega) c f
  exact⟨r,k,l.sz,s,d _ (o.trans b)⟩
 ·rw[if_neg h]
  have e:m=n:=by omega
  subst e;exact⟨p,rfl,c.sz,f,d _ b⟩
end
end PS
namespace U
open PySem L2
theorem R.bind_ok {b d:Type}{a:b}{c:Ev}{k:b->Ev->R d}:(R.ok a c).bind k=k a c:=rfl
theorem R.toS_ok {b:Type}{a:b}{c:Ev}{k:b->Ev->SR}:(R.ok a c).toS k=k a c:=rfl
theorem A3q {a:Type}{x:Option a}:(some x).join=x:=rfl
theorem B1m {a:Type}(x:a)(r:List a):atI (x::r) 0=some x:=Kl  rfl
theorem B1f {a:Type}(x y:a)(r:List a):atI (x::y::r) 1=some y:=Kl  rfl
theorem B3f {a:Type}(x y z:a)(r:List a):atI (x::y::z::r) 2=some z:=Kl  rfl
theorem B2h {a:Type}(x y z u:a)(r:List a):atI (x::y::z::u::r) 3=some u:=Kl  rfl
theorem B1g {a:Type}(x y z u w:a)(r:List a):atI (x::y::z::u::w::r) 4=some w:=Kl  rfl
theorem Bw7:ixN 3 0=some 0:=rfl
theorem B0a:ixN 3 1=some 1:=rfl
theorem Bo5:ixN 3 2=some 2:=rfl
def Y6 (g:p_)(body:Ev->SR)(d:t6)(c:Ev):SR:=(g (.o (.im d)) c).toS fun _ c=>body c
theorem A0r {g:p_}{body:Ev->SR}{d:t6}{ds:w5}{c c':Ev}(h:Y6 g body d c=.nx c'\/Y6 g body d c=.ct c'):forL g body (d::ds) c=forL g body ds c':=by
 unfold Y6 at h;rw[forL]
 cases e:g _ c with
 | bad=>rw[e]at h;rcases h with h | h <;> cases h
 | ok u a =>
  rw[e]at h;have h:body _=.nx _\/body _=.ct _:=h
  grind
theorem Ir {g:p_}{body:Ev->SR}{P:Nat->Ev->Prop}:∀{items:w5}{n:Nat}{c:Ev},P n c ->
 (∀k d c,items[k]?=some d->P (n+k) c->∃c',(Y6 g body d c=.nx c'\/Y6 g body d c=.ct c')/\P (n+k+1) c')->∃c',forL g body items c=.nx c'/\P (n+items.length) c'
 | [],n,c,h0,_=>⟨c,rfl,h0⟩
 | d::ds,n,c,h0,hs=>by
  obtain⟨c1,e,h1⟩:=hs 0 d c rfl h0;rw[A0r e]
  obtain⟨c2,e2,h2⟩:=Ir (P:=P) (items:=ds) (n:=n+1) (c:=c1) h1 (fun k d c hk hp=>by
   have:=hs (k+1) d c (by simpa using hk) (by rw[show n+(k+1)=n+1+k by omega];exact hp)
   rw[show n+(k+1)+1=n+1+k+1 by omega]at this
   exact this)
  exact⟨c2,e2,by rw[aH,show n+(ds.length+1)=n+1+ds.length by omega];exact h2⟩
def Sg (g:p_)(ft:o6)(fe:o7)(d:t6)(c:Ev):R (Option t6) :=
 (g (.o (.im d)) c).bind fun _ c=>(ft c).bind fun b c=>if b=true then (fe c).bind fun p c=>(frz (nrm p) c).bind fun y c=>.ok (some y) c else .ok none c
theorem Qo {g:p_}{ft:o6}{fe:o7}{d:t6}{ds acc:w5}{c:Ev}:Fb g ft fe (d::ds) acc c=(Sg g ft fe d c).bind fun o c=>Fb g ft fe ds (acc++o.toList) c:=by
 unfold Sg;rw[Fb]
 cases e:g _ c with
 | bad=>rfl
 | ok u f =>
  simp only[R.bind_ok]
  cases e2:ft _ with
  | bad=>rfl
  | ok b h =>
   simp only[R.bind_ok]
   cases b with
   | false=>simp[R.bind_ok]
   | true =>
    cases e3:fe _ with
    | bad=>rfl
    | ok p i =>
     simp only[R.bind_ok]
     cases e4:frz _ _ with
     | bad=>rfl
     | ok y a=>rfl
theorem O1 {g:p_}{ft:o6}{fe:o7}{P:Nat->w5->Ev->Prop}:∀{items acc:w5}{n:Nat}{c:Ev},P n acc c ->
 (∀k d acc c,items[k]?=some d->P (n+k) acc c->∃o c',Sg g ft fe d c=.ok o c'/\P (n+k+1) (acc++o.toList) c')->∃acc' c',Fb g ft fe items acc c=.ok acc' c'/\P (n+items.length) acc' c'
 | [],acc,n,c,h0,_=>⟨acc,c,rfl,h0⟩
 | d::ds,acc,n,c,h0,hs=>by
  obtain⟨o,c1,e,h1⟩:=hs 0 d acc c rfl h0;rw[Qo,e,R.bind_ok]
  obtain⟨acc2,c2,e2,h2⟩:=O1 (P:=P) (items:=ds) (n:=n+1) (c:=c1) h1 (fun k d acc c hk hp=>by
   have:=hs (k+1) d acc c (by simpa using hk) (by rw[show n+(k+1)=n+1+k by omega];exact hp)
   rw[show n+(k+1)+1=n+1+k+1 by omega]at this
   exact this)
  exact⟨acc2,c2,e2,by rw[aH,show n+(ds.length+1)=n+1+ds.length by omega];exact h2⟩
theorem Af4 {g:p_}{ft:o6}{fe:o7}{I:Ev->Prop}{F:t6->Option t6}:∀{items acc:w5}{c:Ev},I c ->
 (∀d c,d∈items->I c->∃c',Sg g ft fe d c=.ok (F d) c'/\I c')->∃c',Fb g ft fe items acc c=.ok (acc++items.filterMap F) c'/\I c'
 | [],acc,c,h0,_=>⟨c,by simp[Fb],h0⟩
 | d::ds,acc,c,h0,hs=>by
  obtain⟨c1,e,h1⟩:=hs d c (.head _) h0;rw[Qo,e,R.bind_ok]
  obtain⟨c2,e2,h2⟩:=Af4 (I:=I) (F:=F) (items:=ds) (acc:=acc++(F d).toList) h1 (fun d c hd hi=>hs d c (.tail _ hd) hi)
  refine⟨c2,?_,h2⟩
  rw[e2,du];rw[dz]
  cases F d <;> rfl
theorem A2t {g:p_}{ft:o6}{fe:o7}{I:Ev->Prop}{F:t6->t6}{items acc:w5}{c:Ev}(b:I c)
 (hs:∀d c,d∈items->I c->∃a,Sg g ft fe d c=.ok (some (F d)) a/\I a):∃a,Fb g ft fe items acc c=.ok (acc++items.map F) a/\I a:=by
 obtain⟨a,e,h⟩:=Af4  (acc:=acc) b hs
 refine⟨a,?_,h⟩
 simp_all
theorem Td {α:Type}{g:p_}{ft:o6}{fe:o7}{I:Ev->Prop}{f:α->t6}{G:α->Option t6}:∀{xs:List α}{acc:w5}{c:Ev},I c ->
 (∀x c,x∈xs->I c->∃c',Sg g ft fe (f x) c=.ok (G x) c'/\I c')->∃c',Fb g ft fe (xs.map f) acc c=.ok (acc++xs.filterMap G) c'/\I c'
 | [],acc,c,h0,_=>⟨c,by simp[Fb],h0⟩
 | x::xs,acc,c,h0,hs=>by
  obtain⟨c1,e,h1⟩:=hs x c (.head _) h0;rw[aP,Qo,e,R.bind_ok]
  obtain⟨c2,e2,h2⟩:=Td (I:=I) (f:=f) (G:=G) (xs:=xs) (acc:=acc++(G x).toList) h1 (fun d c hd hi=>hs d c (.tail _ hd) hi)
  refine⟨c2,?_,h2⟩
  rw[e2,du];rw[dz]
  cases G x <;> rfl
theorem Bv {b:Type}{g:p_}{ft:o6}{fe:o7}{I:Ev->Prop}{f:b->t6}{G:b->t6}{xs:List b}{acc:w5}{c:Ev}(d:I c)
 (hs:∀x c,x∈xs->I c->∃a,Sg g ft fe (f x) c=.ok (some (G x)) a/\I a):∃a,Fb g ft fe (xs.map f) acc c=.ok (acc++xs.map G) a/\I a:=by
 obtain⟨a,e,h⟩:=Td  (acc:=acc) d hs
 refine⟨a,?_,h⟩
 simp_all
theorem Ei {idx:p6}{fi:Ev->R (w5)}{g:p_}{ft:o6}{fe:o7}{c c1 cI c2:Ev}{ds acc:w5}(h1:fi c=.ok ds c1)(hl:ds.length<=16000000)(h2:Fb g ft fe ds [] (cIn idx c1)=.ok acc cI)(a:Hw cI (pairsOf 0 idx) c1=some c2) :
 cLC idx fi g ft fe c=.ok (.o (.ls false acc)) c2:=by
 unfold cLC;rw[h1,R.bind_ok]
 simp_all
theorem Vi {fi:Ev->R (w5)}{g:p_}{body:Ev->SR}{c c1:Ev}{ds:w5}(h1:fi c=.ok ds c1):Qf fi g body c=forL g body ds c1:=by
 unfold Qf;rw[h1];rfl
theorem Dl {f g:Ev->SR}{c c':Ev}(h:f c=.nx c'):Bs f g c=g c':=by unfold Bs;rw[h]
theorem Rz {n N:Nat}{body:Ev->SR}{a:List O}{p:PV}{c:Ev}{r:FR}(h:body (a.map some++List.replicate (N-n) none)=.rt p c)(hl:a.length=n)(hf:A2o a p c=r):Eo n N body a=r:=by
 unfold Eo;grind
end U
namespace K
open PySem L2 U
structure Good (d:t6) (n w:Nat):Prop where
 lay:d.canLay0=true
 shw:d.showable=true
 dct:d.hasDict=false
 dep:d.depth<=n
 wgt:wt d<=w
structure Goods (ds:w5) (n w:Nat):Prop where
 lay:PyData.canLayAll0 ds=true
 shw:PyData.showableAll ds=true
 dct:PyData.hasDictAll ds=false
 dep:PyData.depthAll ds<=n
 wgt:Lf ds<=w*ds.length
theorem Goods.of {n w:Nat}:∀{ds:w5},(∀d∈ds,Good d n w)->Goods ds n (w+2)
 | [],_=>⟨rfl,rfl,rfl,aB _,aB _⟩
 | d::r,h=>by
  have a:=h d (.head _)
  have b:=Goods.of fun e he=>h e (.tail _ he)
  refine⟨?_,?_,?_,?_,?_⟩
  ·show (d.canLay0&&PyData.canLayAll0 r)=true;rw[a.lay,b.lay];rfl
  ·show (d.showable&&PyData.showableAll r)=true;rw[a.shw,b.shw];rfl
  ·show (d.hasDict||PyData.hasDictAll r)=false;rw[a.dct,b.dct];rfl
  ·show max d.depth (PyData.depthAll r)<=n;have:=a.dep;have:=b.dep;omega
  ·show wt d+2+Lf r<=(w+2)*(r.length+1)
   have:=a.wgt;have:=b.wgt;rw[Nat.mul_succ];omega
theorem Good.tup {ds:w5}{n w k:Nat}(h:∀d∈ds,Good d n w)(hk:ds.length<=k):Good (.tuple ds) (n+1) ((w+2)*k+4):=by
 have g:=Goods.of h;have m:(w+2)*ds.length<=(w+2)*k:=b_ _ hk
 refine⟨g.lay,g.shw,g.dct,?_,?_⟩
 ·show PyData.depthAll _+1<=n+1;have:=g.dep;omega
 ·show Lf _+4<=(w+2)*k+4;have:=g.wgt;omega
theorem Good.lst {ds:w5}{n w k:Nat}(h:∀d∈ds,Good d n w)(hk:ds.length<=k):Good (.list ds) (n+1) ((w+2)*k+4):=by
 have g:=Goods.of h;have m:(w+2)*ds.length<=(w+2)*k:=b_ _ hk
 refine⟨g.lay,g.shw,g.dct,?_,?_⟩
 ·show PyData.depthAll _+1<=n+1;have:=g.dep;omega
 ·show Lf _+4<=(w+2)*k+4;have:=g.wgt;omega
theorem Good.mono {d:t6}{n w n' w':Nat}(h:Good d n w)(a:n<=n')(b:w<=w'):Good d n' w':=⟨h.lay,h.shw,h.dct,ao h.dep a,ao h.wgt b⟩
theorem Good.flatB {d:t6}{n w:Nat}(h:Good d n w)(hn:n<=40):Dp d=true:=by
 unfold U.Dp;rw[h.lay,aD (ao h.dep hn)];rfl
theorem Yp {a b:t6}{n w n' w':Nat}{neg:Bool}(ha:Good a n w)(hb:Good b n' w')(hn:n<=40)(c:n'<=40):Dd neg a b=some (.im (.bool (if neg then !PyData.eqv a b else PyData.eqv a b))):=by
 unfold Dd;rw[ha.flatB hn,hb.flatB c];rfl
theorem Ap3 {d:t6}{n w:Nat}(h:Good d n w)(hn:n<=40)(hw:w<=16000000)(hs:isSeq d=true):An4 d=some (.im (.str d.shown)):=by
 have l:d.shown.length<=sizeLine:=ao (Al4 d h.lay h.shw) (ao h.wgt (ao hw (by decide)))
 cases d with
 | int i=>cases hs
 | none=>rfl
 | bool b=>rfl
 | str x=>cases hs
 | dict k=>cases hs
 | list a =>
  show (if isSeq _&&_ then _ else _)=_
  rw[h.shw,h.dct,aD (ao h.dep hn),aD l];rfl
 | tuple a =>
  show (if isSeq _&&_ then _ else _)=_
  rw[h.shw,h.dct,aD (ao h.dep hn),aD l];rfl
theorem Qz {ds:w5}(h:∀d∈ds,d.canLay0=true):PyData.canLayAll0 ds=true:=by
 induction ds with
 | nil=>rfl
 | cons d r a=>show (d.canLay0&&PyData.canLayAll0 r)=true;grind
theorem Af7 {neg:Bool}{a b:Str}:Dd neg (.str a) (.str b)=some (.im (.bool (if neg then !decide (a=b) else decide (a=b)))):=by
 unfold Dd
 rw[show Vg _ _=true from rfl]
 rw[Vu]
 simp
inductive Vl where
 | non
 | int (i:Int)
 | str (x:Str)
 deriving DecidableEq
abbrev m7:=List Vl
abbrev n_:=List (m7)
@[simp] theorem Vl.int.injEq (a b:Int):(Vl.int a=Vl.int b)=(a=b):=propext ⟨fun h=>by cases h;rfl,fun h=>by rw[h]⟩
@[simp] theorem Vl.str.injEq (a b:Str):(Vl.str a=Vl.str b)=(a=b):=propext ⟨fun h=>by cases h;rfl,fun h=>by rw[h]⟩
def Vl.d:Vl->t6
 | .non=>.none
 | .int i=>.int i
 | .str x=>.str x
def vb:Vl->Bool
 | .non=>true
 | .int i=>decide (-1000000000000<=i)&&decide (i<=1000000000000)
 | .str x=>decide (x.length<=40)&&x.cps.toList.all fun c=>decide (32<=c)&&decide (c<=126)
abbrev VB (v:Vl):Prop:=vb v=true
abbrev VBs (vs:m7):Prop:=∀v∈vs,VB v
def tD (vs:m7):t6:=.tuple (vs.map Vl.d)
theorem Bk7 (x y:Str):PyData.eqv (.str x) (.str y)=decide (x=y):=by
 show (x==y)=_
 grind
theorem Bm8 (a b:Vl):PyData.eqv a.d b.d=decide (a=b):=by
 cases a with
 | non=>cases b <;> simp[Vl.d,PyData.eqv]
 | int i=>
  cases b with
   | int j =>
    show (i==j)=_
    grind
   | non=>rfl
   | str y=>trivial
 | str x=>
  cases b with
   | str y=>rw[show PyData.eqv (Vl.d (.str x)) (Vl.d (.str y))=_ from Bk7 x y];simp_all
   | non=>trivial
   | int y=>trivial
theorem Al8:∀as bs:m7,PyData.eqvAll (as.map Vl.d) (bs.map Vl.d)=decide (as=bs)
 | [],[]=>by simp[PyData.eqvAll]
 | [],b::bs=>by simp[PyData.eqvAll]
 | a::as,[]=>by simp[PyData.eqvAll]
 | a::as,b::bs=>by
  show (PyData.eqv a.d b.d&&PyData.eqvAll (as.map Vl.d) (bs.map Vl.d))=_
  rw[Bm8,Al8 as bs]
  simp
theorem Ui (a bs:m7):PyData.eqv (tD a) (tD bs)=decide (a=bs):=by
 exact Al8 _ _
theorem Hm {v:Vl}(h:VB v):Good v.d 0 1921:=by
 cases v with
 | non=>exact⟨rfl,rfl,rfl,aj _,by decide⟩
 | int i =>
  obtain⟨a,b⟩:=aq.mp (show (decide _&&decide _)=true from h)
  have a:=aL a;have b:=aL b
  refine⟨rfl,?_,rfl,aj _,aj _⟩
  have c:i.natAbs<2 ^ 41:=by omega
  have:i.natAbs.log2<1920:=by
   by_cases hz:i.natAbs=0
   ·rw[hz];decide
   ·exact aA ((Nat.log2_lt hz).mpr c) (by decide)
  simpa[Vl.d,PyData.showable] using this
 | str x =>
  obtain⟨a,b⟩:=aq.mp (show (decide _&&x.cps.toList.all _)=true from h)
  have a:=aL a
  refine⟨?_,rfl,rfl,aj _,?_⟩
  ·show x.cps.all _=true
   grind
  ·show 10*x.length+2<=1921
   omega
theorem G5 {vs:m7}{k:Nat}(h:VBs vs)(hk:vs.length<=k):Good (tD vs) 1 (1923*k+4) :=
 Good.tup (fun d a=>by obtain⟨v,b,rfl⟩:=au.mp a;exact Hm (h v b)) (by simp_all)
theorem VBs.app {a b:m7}(h:VBs a)(k:VBs b):VBs (a++b):=fun v c=>by
 grind
theorem B1x (v:Vl)(vs:m7):((vs.map Vl.d).any fun e=>PyData.eqv e v.d)=decide (v∈vs):=by
 induction vs with
 | nil=>simp
 | cons a r b =>
  rw[aP,List.any_cons,Bm8]
  grind
theorem Bn7 (v:m7)(vs:n_):((vs.map tD).any fun e=>PyData.eqv e (tD v))=decide (v∈vs):=by
 induction vs with
 | nil=>simp
 | cons a r b =>
  rw[aP,List.any_cons,Ui]
  grind
theorem A8n {neg:Bool}{v:Vl}{vs:m7}(h:VB v)(hs:VBs vs):Li neg v.d (.list (vs.map Vl.d))=some (.im (.bool (if neg then !decide (v∈vs) else decide (v∈vs)))):=by
 have e:Li neg v.d (.list (vs.map Vl.d))=if Dp v.d&&PyData.canLayAll0 (vs.map Vl.d) then some (.im (.bool (if neg then !(vs.map Vl.d).any fun e=>PyData.eqv e v.d else (vs.map Vl.d).any fun e=>PyData.eqv e v.d))) else none:=by rfl
 rw[e,(Hm h).flatB (by decide),Qz fun d a=>by obtain⟨u,b,rfl⟩:=au.mp a;exact(Hm (hs u b)).lay,B1x];rfl
theorem Au5 {neg:Bool}{v:m7}{vs:n_}(h:VBs v)(hs:∀u∈vs,VBs u):Li neg (tD v) (.list (vs.map tD))=some (.im (.bool (if neg then !decide (v∈vs) else decide (v∈vs)))):=by
 show (if Dp _&&PyData.canLayAll0 _ then some _ else none)=_
 rw[(G5 h (aj _)).flatB (by decide),Qz fun d a=>by obtain⟨u,b,rfl⟩:=au.mp a;exact(G5 (hs u b) (aj _)).lay,Bn7];rfl
theorem Ti {a:Type}{l:List a}{r:Int}(b:0<=r)(h1:r<l.length):∃d,atI l r=some d/\d∈l/\l[r.toNat]?=some d:=by
 obtain⟨k,rfl⟩:=dw b
 exact⟨l[k],Kl (bA _),fY _,by grind⟩
def J3:Ev->SR :=
 (Cg (cUn Kf (cLC [none] (Al7 (Ac 0)) (cgN 0) Bd (Ko (cOp Am3 (cC (.str " ")) (Ac 0)) (cOp Am3 (Ac 0) (cC (.str "~")))))))
def Ga:o_:=Eo 1 1 J3
def Kc:Ev->SR :=
 (Bs
  (cIf (Bf (cUn (Cv .bool) (Ac 0))) (Cg (cC (.bool false))) Df)
  (Bs (cIf (Bf (cUn (Cv .str) (Ac 0))) (Cg (cF Ga (Ad (Ac 0) Al))) Df)
  (Cg (A3l (cOp (Jf false) (Ac 0) (cC (.none))) (cUn (Cv .int) (Ac 0))))))
def Ff:o_:=Eo 1 1 Kc
def A0o (pr:o_):Ev->SR :=
 (Bs
  (cIf (Bf (cOp (Jf false) (Ac 0) (cC (.none)))) (Cg (Eh (Ad (cC (.int 0)) (Ad (cC (.int 0)) Al)))) Df)
  (Bs (cIf (Bf (cUn (Cv .int) (Ac 0))) (Cg (Eh (Ad (cC (.int 1)) (Ad (Ac 0) Al)))) Df)
  (Bs (cIf (Bf (cUn (Cv .str) (Ac 0))) (Cg (Eh (Ad (cC (.int 2)) (Ad (Ac 0) Al)))) Df)
  (Cg (Eh (Ad (cC (.int 3)) (Ad (cUn Bp (cLC [none] (Bk (Ac 0)) (cgN 0) Bd (cF pr (Ad (Ac 0) Al)))) Al)))))))
def Gm:Nat->List O->FR
 | 0=>fun _=>.bad
 | k+1=>Eo 1 1 (A0o (Gm k))
def Al2:Ev->SR :=
 (Cg (Br8 (Gm 2) (Ac 0)))
def K8:o_:=Eo 1 1 Al2
def Vv:Ev->SR :=
 (Bs
  (cIf (cOr (K3 (Bf (cUn (Cv .str) (Ac 0)))) (cOr (Bf (cOp (Dd false) (Ac 0) (cC (.str "")))) (Bf (cOp Ar8 (Gj (Ac 0)) (cC (.int 8)))))) (Cg (cC (.bool false))) Df)
  (Cg (cUn Kf (cLC [none] (Al7 (Ac 0)) (cgN 0) Bd (cOp (Li false) (Ac 0) (cC (.str "abcdefghijklmnopqrstuvwxyz")))))))
def Gn:o_:=Eo 1 1 Vv
def Oc:Ev->SR :=
 (Bs
  (cIf (cOr (K3 (Bf (cUn (Cv .tuple) (Ac 0)))) (Bf (cOp (Dd false) (Gj (Ac 0)) (cC (.int 0))))) (Cg (cC (.bool false))) Df)
  (Bs (cIf (K3 (Bf (cUn Kf (cLC [none] (Bk (Ac 0)) (cgN 0) Bd (cF Gn (Ad (Ac 0) Al)))))) (Cg (cC (.bool false))) Df)
  (Cg (cOp (Dd false) (cUn Rp (Ac 0)) (Gj (Ac 0))))))
def Gp:o_:=Eo 1 1 Oc
def Zh:Ev->SR :=
 (Bs
  (cIf (cOr (K3 (Bf (cUn (Cv .tuple) (Ac 0)))) (Bf (cOp (Dd true) (Gj (Ac 0)) (Ac 1)))) (Cg (cC (.bool false))) Df)
  (Cg (cUn Kf (cLC [none] (Bk (Ac 0)) (cgN 0) Bd (cF Ff (Ad (Ac 0) Al))))))
def Ft:o_:=Eo 2 2 Zh
def Rn:Ev->SR :=
 (Cg (cUn Bp (cLC [none,some 0] (Bk (Ac 1)) (cgN 0) Bd (cOp Ar (Ac 1) (Ac 0)))))
def Ey:o_:=Eo 2 2 Rn
def Qe:Ev->SR :=
 (Cg (Ko (cUn (Cv .tuple) (Ac 0)) (cOp (Dd false) (Gj (Ac 0)) (cC (.int 2)))))
def Fi:o_:=Eo 1 1 Qe
def Jh:Ev->SR :=
 (Bs
  (cIf (K3 (Bf (cUn Kf (cLC [none] (Bk (Eh (Ad (Ac 0) (Ad (Ac 1) (Ad (Ac 2) Al))))) (cgN 0) Bd (cUn (Cv .tuple) (Ac 0)))))) (Cg (cC (.bool false))) Df)
  (Cg (Ko (cOp Ar8 (Gj (Ac 2)) (cC (.int 0))) (cF Gp (Ad (cOp Ci (cOp Ci (Ac 0) (Ac 1)) (Ac 2)) Al)))))
def El:o_:=Eo 3 3 Jh
def Jz:Ev->SR :=
 (Cg (Ko (cUn Kf (cLC [none,some 1] (Bk (Ac 0)) (cgN 0) Bd (cF Ft (Ad (Ac 0) (Ad (Ac 1) Al))))) (cOp (Dd false) (cUn O2 (Ac 0)) (Gj (Ac 0)))))
def Cu:o_:=Eo 2 2 Jz
def Rk:Ev->SR :=
 (Bs
  (cIf (cOr (K3 (Bf (cUn (Cv .tuple) (Ac 0)))) (Bf (cOp (Dd true) (Gj (Ac 0)) (Ac 1)))) (Cg (cC (.bool false))) Df)
  (Cg (cUn Kf (cLC [none,some 2] (Bk (Ac 0)) (cgN 0) Bd (A3l (cOp (Jf false) (Ac 0) (cC (.none))) (cF Ft (Ad (Ac 0) (Ad (Ac 1) Al))))))))
def Ge:o_:=Eo 3 3 Rk
def Vo:Ev->SR :=
 (Bs
  (cIf (cOr (K3 (Bf (cUn (Cv .tuple) (Ac 0)))) (cOr (Bf (cOp (Dd true) (Gj (Ac 0)) (cC (.int 5)))) (K3 (Bf (cF El (Ad (cOp Ar (Ac 0) (cC (.int 0))) (Ad (cOp Ar (Ac 0) (cC (.int 1))) (Ad (cOp Ar (Ac 0) (cC (.int 2))) Al)))))))) (Cg (cC (.bool false))) Df)
  (Bs (Ef (cOp Ar (Ac 0) (cC (.int 3))) (cgN 1))
  (Bs (Ef (cOp Ar (Ac 0) (cC (.int 4))) (cgN 2))
  (Bs (cIf (cOr (K3 (Bf (cUn (Cv .tuple) (Ac 1)))) (K3 (Bf (cF Cu (Ad (Ac 1) (Ad (Gj (cOp Ar (Ac 0) (cC (.int 1)))) Al)))))) (Cg (cC (.bool false))) Df)
  (Bs (cIf (cOr (K3 (Bf (cUn (Cv .tuple) (Ac 2)))) (K3 (Bf (cUn Kf (cLC [none] (Bk (Ac 2)) (cgN 0) Bd (cF Fi (Ad (Ac 0) Al))))))) (Cg (cC (.bool false))) Df)
  (Bs (cIf (K3 (Bf (cF Cu (Ad (cLC [none] (Bk (Ac 2)) (cgN 0) Bd (cOp Ar (Ac 0) (cC (.int 0)))) (Ad (Gj (cOp Ar (Ac 0) (cC (.int 0)))) Al))))) (Cg (cC (.bool false))) Df)
  (Cg (cUn Kf (cLC [none,some 1,some 0] (Bk (Ac 2)) (cgN 0) Bd (cF Ge (Ad (cOp Ar (Ac 0) (cC (.int 1))) (Ad (Gj (Ac 1)) (Ad (Gj (cOp Ar (Ac 2) (cC (.int 2)))) Al)))))))))))))
def J0:o_:=Eo 1 3 Vo
def Uo:Ev->SR :=
 (Cg (cUn Bp (cLC [none,none] (Bk (cOp Ar (Ac 0) (cC (.int 4)))) (cgT 2 (Bo (cgN 0) (Bo (cgN 1) Fl))) Bd (Ac 0))))
def Fy:o_:=Eo 1 1 Uo
def Oa:Ev->SR :=
 (Cg (cUn Bp (cLC [none,none,some 1] (Bk (cOp Ar (Ac 0) (cC (.int 4)))) (cgT 2 (Bo (cgN 0) (Bo (cgN 1) Fl))) Bd (cOp Ar (Ac 1) (Ac 2)))))
def Et:o_:=Eo 2 2 Oa
def Ld:Ev->SR :=
 (Bs
  (Ef (cLC [none,none,some 1] (Bk (cOp Ar (Ac 0) (cC (.int 4)))) (cgT 2 (Bo (cgN 0) (Bo (cgN 1) Fl))) Bd (Eh (Ad (Ac 0) (Ad (cF Ey (Ad (Ac 1) (Ad (Ac 2) Al))) Al)))) (cgN 2))
  (Cg (cOp Ci (cSl M7 (Ac 0) cON (cOS (cC (.int 3)))) (Eh (Ad (cF Ey (Ad (cOp Ar (Ac 0) (cC (.int 3))) (Ad (Ac 1) Al))) (Ad (cUn Bp (Ac 2)) Al))))))
def Fo:o_:=Eo 2 3 Ld
def Lh:Ev->SR :=
 (Cg (Ko (cF Fi (Ad (Ac 0) Al)) (Ko (cOp (Dd false) (cOp Ar (Ac 0) (cC (.int 0))) (cC (.str "told"))) (cUn (Lx .list .tuple) (cOp Ar (Ac 0) (cC (.int 1)))))))
def Fv:o_:=Eo 1 1 Lh
def Bw:o_:=Eo 2 2 (Cg (Bd3 (Ac 1) (Ac 0)))
def K4:Ev->SR :=
 (Bs
  (Ef (cLC [none,some 1] (Bk (Ac 0)) (cgN 0) (Bf (cOp (Li false) (Ac 0) (Ac 1))) (Ac 0)) (cgN 2))
  (Bs (Ef (cLC [none,some 1] (Bk (Ac 0)) (cgN 0) (Bf (cOp (Li true) (Ac 0) (Ac 1))) (Ac 0)) (cgN 3))
  (Cg (cOp Ci (Az3 Bw [1] (Ac 2)) (Ac 3)))))
def Fp:o_:=Eo 2 4 K4
def Iu:Ev->SR :=
 (Bs
  (cIf (Bf (cOp (Dd false) (Ac 1) (cC (.str "seen")))) (Cg (cUn Wx (Ac 0))) Df)
  (Bs (cIf (Bf (cOp (Dd false) (Ac 1) (cC (.str "rising")))) (Cg (cF K8 (Ad (Ac 0) Al))) Df)
  (Bs (cIf (Bf (cOp (Dd false) (Ac 1) (cC (.str "falling")))) (Cg (cUn Ad3 (cF K8 (Ad (Ac 0) Al)))) Df)
  (Bs (cIf (Bf (cF Fv (Ad (Ac 1) Al))) (Cg (cF Fp (Ad (Ac 0) (Ad (cOp Ar (Ac 1) (cC (.int 1))) Al)))) Df)
  Au4))))
def Dm:o_:=Eo 2 2 Iu
def Uj:Ev->SR :=
 (Bs
  (Ef (cOp Ar (Ac 0) (cC (.int 3))) (cgN 2))
  (Cg (cF Fo (Ad (Ac 0) (Ad (cLC [none,some 2] (Bk (cF Dm (Ad (Ac 2) (Ad (Ac 1) Al)))) (cgN 0) Bd (cMt Nh Iw (Ac 1) (Ac 0))) Al)))))
def Hj:o_:=Eo 2 3 Uj
def Ux:Ev->SR :=
 (Bs
  (Ef (cDP (cOp Ar (Ac 0) (cC (.int 4)))) (cgN 2))
  (Bs (Ef (cLC [none,some 2] (Bk (cF Dm (Ad (cF Fy (Ad (Ac 0) Al)) (Ad (Ac 1) Al)))) (cgN 0) Bd (Eh (Ad (Ac 0) (Ad (Al9 (Ac 1) (Ac 0)) Al)))) (cgN 3))
  (Cg (cOp Ci (cSl M7 (Ac 0) cON (cOS (cC (.int 4)))) (Eh (Ad (cUn Bp (Ac 3)) Al))))))
def Hi:o_:=Eo 2 4 Ux
def Rh:Ev->SR :=
 (Bs
  (Ef (cLC [none,none,some 0] (Wq (cOp Ar (Ac 0) (cC (.int 3)))) (cgT 2 (Bo (cgN 0) (Bo (cgN 1) Fl))) Bd (Eh (Ad (Ac 1) (Ad (cF Et (Ad (Ac 2) (Ad (Ac 0) Al))) Al)))) (cgN 1))
  (Cg (Eh (Ad (cOp Ar (Ac 0) (cC (.int 1))) (Ad (cOp Ar (Ac 0) (cC (.int 0))) (Ad (cOp Ar (Ac 0) (cC (.int 2))) (Ad (cF Fy (Ad (Ac 0) Al)) (Ad (cUn Bp (Ac 1)) Al))))))))
def Fd:o_:=Eo 1 2 Rh
def Ma:Ev->SR :=
 (Bs
  (cIf (Bf (cOp Nt (Ac 1) (Gj (Ac 0)))) (Cg (Bq2 (Ac 0) (Ac 1))) Df)
  (Cg (cC (.int 0))))
def G3:o_:=Eo 2 2 Ma
def Am9:Ev->SR :=
 (Bs
  (Ef (cF G3 (Ad (Ac 0) (Ad (Ac 1) Al))) (cgN 2))
  (Cg (Jw (Ad (cOp Ls (cUn A0i (Ac 2)) (cUn A9q (cOp B0q (cUn A0i (Ac 2)) (cOp Uq (cC (.int 10)) (cC (.int 18)))))) (Ad (cOp Ci (cOp Ci (cOp Rg (Ac 2) (cC (.int 2305843009213693951))) (cOp Ls (cC (.int 39373)) (Ac 1))) (cC (.int 17))) (Ad (cC (.int 0)) Al))))))
def Nx:o_:=Eo 2 3 Am9
def T6:Ev->SR :=
 (Bs
  (cIf (Bf (cOp Ar8 (cOp Ar (Ac 0) (cC (.int 0))) (cC (.int 0)))) (Bs (Ef (cOp Rg (cOp Ar (Ac 0) (cC (.int 0))) (Ac 1)) (cgN 2))
  (Bs (Ef (cOp Ac4 (cOp Ar (Ac 0) (cC (.int 0))) (Ac 1)) (Ay7 (Ac 0) (cC (.int 0))))
  (Cg (Ac 2)))) Df)
  (Bs (Ef (cOp Ci (cOp Ar (Ac 0) (cC (.int 2))) (cC (.int 1))) (Ay7 (Ac 0) (cC (.int 2))))
  (Bs (Ef (cOp Rg (cOp Ls (cOp Ci (cOp Ar (Ac 0) (cC (.int 1))) (cOp Ls (cC (.int 48271)) (cOp Ar (Ac 0) (cC (.int 2))))) (cOp Ci (cC (.int 39373)) (cOp Ar (Ac 0) (cC (.int 2))))) (cC (.int 2147483647))) (cgN 3))
  (Bs (Ef (cOp Rg (cOp Ls (cOp Ci (Ac 3) (cOp Ar (Ac 0) (cC (.int 2)))) (cOp Ci (cOp Rg (Ac 3) (cC (.int 40009))) (cC (.int 7)))) (cC (.int 2147483629))) (cgN 4))
  (Cg (cOp Rg (cOp Ac4 (cOp Rg (cOp Ci (cOp Ls (Ac 4) (cC (.int 48271))) (Ac 3)) (cC (.int 2147483587))) (cC (.int 64))) (Ac 1)))))))
def Ao:o_:=Eo 2 5 T6
def Uc:Ev->SR :=
 (Bs
  (cIf (Bf (cOp (Dd false) (cF Ao (Ad (Ac 0) (Ad (cC (.int 8)) Al))) (cC (.int 0)))) (Cg (cOp Ci (cC (.int 7)) (cF Ao (Ad (Ac 0) (Ad (cOp M4 (Ac 3) (cC (.int 6))) Al))))) Df)
  (Cg (cOp Ci (Ac 1) (cF Ao (Ad (Ac 0) (Ad (cOp Ci (cOp M4 (Ac 2) (Ac 1)) (cC (.int 1))) Al))))))
def Ie:o_:=Eo 4 4 Uc
def Wn:Ev->SR :=
 (Bs
  (Ef (Jw (cK [.str "b",.str "a",.str "year",.str "z",.str "ab",.str "month",.str "aa",.str "quantity",.str "c",.str "town",.str "zz",.str "ba"])) (cgN 2))
  (Cg (cLC [none,some 2,some 0] (My (Ac 1)) (cgN 0) Bd (Vx (Ac 1) (cF Ao (Ad (Ac 2) (Ad (Gj (Ac 1)) Al)))))))
def H9:o_:=Eo 2 3 Wn
def J1:Ev->SR :=
 (Bs
  (Ef (cF Ao (Ad (Ac 0) (Ad (cC (.int 9)) Al))) (cgN 1))
  (Bs (cIf (Bf (cOp Nt (Ac 1) (cC (.int 4)))) (Cg (cOp M4 (cF Ao (Ad (Ac 0) (Ad (cC (.int 13)) Al))) (cC (.int 3)))) Df)
  (Bs (cIf (Bf (cOp (Dd false) (Ac 1) (cC (.int 4)))) (Cg (cOp Ar (Jw (Ad (cOp M4 (cOp Uq (cC (.int 10)) (cC (.int 12))) (cC (.int 1))) (Ad (cOp M4 (cC (.int 0)) (cOp Uq (cC (.int 10)) (cC (.int 11)))) (Ad (cC (.int 100)) (Ad (cC (.int 10)) Al))))) (cF Ao (Ad (Ac 0) (Ad (cC (.int 4)) Al))))) Df)
  (Bs (cIf (Bf (cOp (Dd false) (Ac 1) (cC (.int 5)))) (Cg (cC (.none))) Df)
  (Cg (cOp Ar (Jw (cK [.str "",.str "a",.str "b",.str "B",.str "10",.str "9",.str "-",.str "a b",.str "it's",.str "\\",.str "/",.str "_",.str ":",.str "None",.str "ab"])) (cF Ao (Ad (Ac 0) (Ad (cC (.int 15)) Al)))))))))
def Cr:o_:=Eo 1 2 J1
def Nm:Ev->SR :=
 (Bs
  (cIf (Bf (cOp (Dd false) (cF Ao (Ad (Ac 0) (Ad (cC (.int 9)) Al))) (cC (.int 0)))) (Cg (cOp Ar (Jw (Ad (cOp M4 (cOp Uq (cC (.int 10)) (cC (.int 12))) (cC (.int 1))) (Ad (cOp M4 (cC (.int 1)) (cOp Uq (cC (.int 10)) (cC (.int 12)))) (Ad (cOp Uq (cC (.int 10)) (cC (.int 11))) (Ad (cC (.int 0)) Al))))) (cF Ao (Ad (Ac 0) (Ad (cC (.int 4)) Al))))) Df)
  (Cg (cOp M4 (cF Ao (Ad (Ac 0) (Ad (cC (.int 25)) Al))) (cC (.int 7)))))
def Dv:o_:=Eo 1 1 Nm
def Zd:Ev->SR :=
 (Bs
  (Ef (Jw Al) (cgN 2))
  (Bs (Qf (My (Ac 1)) (cgN 3) (Bs (Ef (cF Cr (Ad (Ac 0) Al)) (cgN 4))
  (cIf (Bf (cOp (Li true) (Ac 4) (Ac 2))) (Hx (M6 (Ac 2) (Ac 4))) Df)))
  (Cg (Ac 2))))
def Ju:o_:=Eo 2 5 Zd
def U3:Ev->SR :=
 (Bs
  (Ef (cF Ju (Ad (Ac 0) (Ad (cC (.int 6)) Al))) (cgN 3))
  (Bs (Ef (Jw Al) (cgN 4))
  (Bs (Qf (My (Ac 2)) (cgN 5) (Bs (Ef (cUn Bp (cLC [none,some 3,some 0] (My (Ac 1)) (cgN 0) Bd (cOp Ar (Ac 1) (cF Ao (Ad (Ac 2) (Ad (Gj (Ac 1)) Al)))))) (cgN 6))
  (cIf (Bf (cOp (Li true) (Ac 6) (Ac 4))) (Hx (M6 (Ac 4) (Ac 6))) Df)))
  (Cg (Ac 4)))))
def Hk:o_:=Eo 3 7 U3
def S9:Ev->SR :=
 (Bs
  (Ef (cF H9 (Ad (Ac 0) (Ad (cC (.int 9)) Al))) (cgN 2))
  (Bs (A5g 3 4 5 (Ad (cF Ao (Ad (Ac 0) (Ad (cC (.int 3)) Al))) (Ad (cF Ao (Ad (Ac 0) (Ad (cC (.int 3)) Al))) (Ad (cOp Ci (cC (.int 1)) (cF Ao (Ad (Ac 0) (Ad (cC (.int 2)) Al)))) Al))))
  (Bs (cIf (Bf (cOp (Dd false) (cF Ao (Ad (Ac 0) (Ad (cC (.int 8)) Al))) (cC (.int 0)))) (Ef (cOp Ci (cC (.int 3)) (cF Ao (Ad (Ac 0) (Ad (cC (.int 3)) Al)))) (cgN 5)) Df)
  (Bs (Bo9 6 7 (Ad (cSl M7 (Ac 2) cON (cOS (Ac 3))) (Ad (cSl M7 (Ac 2) (cOS (Ac 3)) (cOS (cOp Ci (Ac 3) (Ac 4)))) Al)))
  (Bs (Ef (cSl M7 (Ac 2) (cOS (cOp Ci (Ac 3) (Ac 4))) (cOS (cOp Ci (cOp Ci (Ac 3) (Ac 4)) (Ac 5)))) (cgN 8))
  (Bs (Ef (cF Hk (Ad (Ac 0) (Ad (Ac 4) (Ad (cF Ie (Ad (Ac 0) (Ad (cC (.int 0)) (Ad (cC (.int 5)) (Ad (cC (.int 12)) Al))))) Al)))) (cgN 9))
  (Bs (Ef (cOp Ar (Jw (Ad (cC (.int 9)) (Ad (cC (.int 2)) (Ad (cC (.int 3)) Al)))) (cF Ao (Ad (Ac 0) (Ad (cC (.int 3)) Al)))) (cgN 10))
  (Bs (Ef (Jw Al) (cgN 11))
  (Bs (Qf (Bk (cF Hk (Ad (Ac 0) (Ad (Ac 3) (Ad (cF Ie (Ad (Ac 0) (Ad (cC (.int 0)) (Ad (cC (.int 5)) (Ad (cC (.int 12)) Al))))) Al))))) (cgN 12) (Bs (Ef (Jw Al) (cgN 13))
  (Bs (Qf (Bk (Ac 9)) (cgN 14) (Bs (Ef (cUn Bp (cLC [none,some 1,some 0] (Bk (Ac 8)) (cgN 0) Bd (Tv (Bf (Ac 1)) (cF Dv (Ad (Ac 2) Al)) (cF Cr (Ad (Ac 2) Al))))) (cgN 15))
  (Hx (M6 (Ac 13) (Tv (Bf (cOp (Dd false) (cF Ao (Ad (Ac 0) (Ad (Ac 10) Al))) (cC (.int 0)))) (cC (.none)) (Ac 15))))))
  (Hx (M6 (Ac 11) (Eh (Ad (Ac 12) (Ad (cUn Bp (Ac 13)) Al))))))))
  (Cg (Eh (Ad (cUn Bp (Ac 6)) (Ad (cUn Bp (Ac 7)) (Ad (cUn Bp (Ac 8)) (Ad (cUn Bp (Ac 9)) (Ad (cUn Bp (Ac 11)) Al))))))))))))))))
def Oh:o_:=Eo 2 16 S9
def Ij (pr:o_):Ev->SR :=
 (Bs
  (cIf (Bf (cUn (Lx .list .tuple) (Ac 1))) (Bs (cIf (cOr (Bf (cOp (Dd true) (cUn (Cv .list) (Ac 0)) (cUn (Cv .list) (Ac 1)))) (Bf (cOp (Dd true) (cUn (Cv .tuple) (Ac 0)) (cUn (Cv .tuple) (Ac 1))))) (Cg (cC (.bool false))) Df)
  (Cg (Ko (cOp (Dd false) (Gj (Ac 0)) (Gj (Ac 1))) (cUn Kf (cLC [none,none] (Bh7 (Ac 0) (Ac 1)) (cgT 2 (Bo (cgN 0) (Bo (cgN 1) Fl))) Bd (cF pr (Ad (Ac 0) (Ad (Ac 1) Al)))))))) Df)
  (Bs (cIf (cOr (Bf (cOp (Jf false) (Ac 1) (cC (.none)))) (Bf (cUn (Cv .str) (Ac 1)))) (Cg (Ko (cOp (Dd false) (Ac 0) (Ac 1)) (cOp (Dd false) (cUn (Cv .str) (Ac 0)) (cUn (Cv .str) (Ac 1))))) Df)
  (Bs (cIf (Bf (cUn (Cv .bool) (Ac 1))) (Cg (Ko (cUn (Cv .bool) (Ac 0)) (cOp (Dd false) (Ac 0) (Ac 1)))) Df)
  (Cg (Ko (cUn (Cv .int) (Ac 0)) (Ko (A7w (cUn (Cv .bool) (Ac 0))) (cOp (Dd false) (Ac 0) (Ac 1))))))))
def Cz:Nat->List O->FR
 | 0=>fun _=>.bad
 | k+1=>Eo 2 2 (Ij (Cz k))
def Ib:Ev->SR :=
 (Bs
  (Ef (cF Ao (Ad (Ac 0) (Ad (cC (.int 6)) Al))) (cgN 2))
  (Bs (cIf (Bf (cOp Nt (Ac 2) (cC (.int 3)))) (Cg (cOp Ar (Jw (Ad (cC (.str "seen")) (Ad (cC (.str "rising")) (Ad (cC (.str "falling")) Al)))) (Ac 2))) Df)
  (Bs (Ef (cOp Ci (Jw (Ad (Eh (Ad (cC (.str "nowhere")) Al)) (Ad (Eh Al) (Ad (Eh (Ad (cC (.int 7)) (Ad (cC (.none)) Al))) (Ad (Eh (Ad (cC (.none)) Al)) (Ad (Eh (Ad (cC (.str "a")) (Ad (cC (.str "b")) Al))) Al)))))) (cLC [none] (Bk (Ac 1)) (cgN 0) Bd (cUn An7 (Ac 0)))) (cgN 3))
  (Bs (Ef (Jw Al) (cgN 4))
  (Bs (Qf (My (cF Ao (Ad (Ac 0) (Ad (cOp Ci (Gj (Ac 1)) (cC (.int 3))) Al)))) (cgN 5) (cIf (Bf7 (Bf (cOp (Dd true) (Ac 1) (Jw Al))) (Bf (cOp Ar8 (cF Ao (Ad (Ac 0) (Ad (cC (.int 5)) Al))) (cC (.int 0))))) (Hx (M6 (Ac 4) (cOp Ar (Ac 1) (cF Ao (Ad (Ac 0) (Ad (Gj (Ac 1)) Al)))))) (Hx (M6 (Ac 4) (cOp Ar (Ac 3) (cF Ao (Ad (Ac 0) (Ad (Gj (Ac 3)) Al))))))))
  (Cg (Eh (Ad (cC (.str "told")) (Ad (cOp Ar (Jw (Ad (Ac 4) (Ad (Ac 4) (Ad (cUn Bp (Ac 4)) Al)))) (cOp M4 (Ac 2) (cC (.int 3)))) Al)))))))))
def Gb:o_:=Eo 2 6 Ib
def W9:Ev->SR :=
 (Cg (cLC [none,none] (Bk (cOp Ar (Ac 0) (cC (.int 4)))) (cgT 2 (Bo (cgN 0) (Bo (cgN 1) Fl))) Bd (Ac 0)))
def Hg:o_:=Eo 1 1 W9
def A4e:Ev->SR :=
 (Bs
  (Ef (Jw Al) (cgN 1))
  (Bs (Qf (Wq (cOp Ar (Ac 0) (cC (.int 3)))) (cgT 2 (Bo (cgN 2) (Bo (cgN 3) Fl))) (Hx (M6 (Ac 1) (Eh (Ad (Ac 3) (Ad (cUn Bp (cLC [none,some 2] (Bk (cOp Ar (Ac 0) (cC (.int 4)))) (cgN 0) Bd (cOp Ar (cOp Ar (Ac 0) (cC (.int 1))) (Ac 1)))) Al))))))
  (Cg (Eh (Ad (cOp Ar (Ac 0) (cC (.int 1))) (Ad (cOp Ar (Ac 0) (cC (.int 0))) (Ad (cOp Ar (Ac 0) (cC (.int 2))) (Ad (cUn Bp (cF Hg (Ad (Ac 0) Al))) (Ad (cUn Bp (Ac 1)) Al)))))))))
def Rx:o_:=Eo 1 4 A4e
def Qj:Ev->SR :=
 (Bs
  (Ef (cF Oh (Ad (Ac 0) (Ad (cC (.bool false)) Al))) (cgN 1))
  (Bs (cIf (Bf (cOp (Dd false) (cF Ao (Ad (Ac 0) (Ad (cC (.int 8)) Al))) (cC (.int 0)))) (Bs (Ef (cUn Bp (cLC [none,none] (Bk (cOp Ar (Ac 1) (cC (.int 4)))) (cgT 2 (Bo (cgN 0) (Bo (cgN 1) Fl))) Bd (Eh (Ad (Ac 0) (Ad (Eh Al) Al))))) (cgN 2))
  (Ef (cOp Ar (Jw (Ad (cOp Ci (cSl M7 (Ac 1) cON (cOS (cC (.int 4)))) (Eh (Ad (Eh Al) Al))) (Ad (cOp Ci (cSl M7 (Ac 1) cON (cOS (cC (.int 3)))) (Eh (Ad (Eh Al) (Ad (Ac 2) Al)))) Al))) (cF Ao (Ad (Ac 0) (Ad (cC (.int 2)) Al)))) (cgN 1))) Df)
  (Bs (Ef (cUn An4 (Ac 1)) (cgN 3))
  (Bs (Ef (cF Fd (Ad (Ac 1) Al)) (cgN 4))
  (Bs (cIf (cOr (K3 (Bf (cF (Cz 8) (Ad (Ac 4) (Ad (cF Rx (Ad (Ac 1) Al)) Al))))) (cOr (K3 (Bf (cF J0 (Ad (Ac 4) Al)))) (Bf (cOp (Dd true) (cUn An4 (Ac 1)) (Ac 3))))) (Cg (cC (.bool false))) Df)
  (Bs (cIf (K3 (Bf (cF (Cz 8) (Ad (cF Fd (Ad (Ac 4) Al)) (Ad (Ac 1) Al))))) (Cg (cC (.bool false))) Df)
  (Bs (Ef (cF Gb (Ad (Ac 0) (Ad (cFz (cUn Wx (cOp Ar (Ac 1) (cC (.int 3))))) Al))) (cgN 5))
  (Bs (cIf (K3 (Bf (cF (Cz 8) (Ad (cF Fd (Ad (cF Hj (Ad (Ac 1) (Ad (Ac 5) Al))) Al)) (Ad (cF Hi (Ad (Ac 4) (Ad (Ac 5) Al))) Al))))) (Cg (cC (.bool false))) Df)
  (Bs (Ef (cF Gb (Ad (Ac 0) (Ad (cFz (cF Hg (Ad (Ac 1) Al))) Al))) (cgN 5))
  (Cg (cF (Cz 8) (Ad (cF Fd (Ad (cF Hi (Ad (Ac 1) (Ad (Ac 5) Al))) Al)) (Ad (cF Hj (Ad (Ac 4) (Ad (Ac 5) Al))) Al)))))))))))))
def Mu:o_:=Eo 1 6 Qj
def Wt:Ev->SR :=
 (cIf (K3 (Bf (cFO Mu (cF Nx (Ad (Ac 0) (Ad (Ac 1) Al))) Al))) (Cg (cC (.bool false))) Df)
def A5d:Ev->SR :=
 (Bs
  (Qf (My (cOp Aa6 (cC (.int 3)) (cOp Ad9 (Gj (Ac 0)) (cC (.int 10))))) (cgN 1) Wt)
  (Cg (cC (.bool true))))
def As7:o_:=Eo 1 2 A5d
local macro_rules | `(tactic| wp_walk using $ts,*)=>`(tactic| simp only [Bs,Ef,cgN,cgT,Bo,Fl,Ac,cC,cOp,cUn,Gj,cF,cFO,cFz,List.contains_cons,M8,Q3,slots,pairsOf,ndB,Hw,Al,Ad,cK,nrm,Es,rdP,O.dat,O.flag,O.bor,frz,frzs,Eh,Jw,cIf,Bf,Bd,Bf7,cOr,K3,Ko,A3l,A7w,Tv,Cg,Hx,Df,Au4,M6,slL,Vx,Ay7,Bo9,A5g,cSl,cON,cOS,My,cIn,R.bind_ok,R.toS_ok,Eo,A2o,resolve,Ip,Z5,U.opI,U.Yc,Ar8,B0q,M4,Ac4,Rg,Uq,Y6,Sg,Bq2,List.getElem?_cons_zero,dq,List.set_cons_zero,List.set_cons_succ,aP,fL,aH,cA,List.replicate,gq,bT,cj,List.contains_nil,dC,fu,gB,Option.join_some,Option.isSome_some,bI,cY,Bool.not_true,Bool.not_false,Bool.and_true,Bool.true_and,Bool.and_false,Bool.false_and,Bool.or_true,Bool.or_false,Bool.true_or,Bool.false_or,eE,List.dropLast,List.any_nil,List.flatMap_nil,ite_true,ite_false,decide_true,decide_false,reduceCtorEq,B1m,B1f,B3f,B2h,B1g,Bw7,B0a,Bo5,U.A3q,aY,Nat.reduceAdd,Nat.reduceSub,Nat.reduceLeDiff,Nat.reduceLT,Nat.reduceEqDiff,Int.reduceAdd,Int.reduceSub,Int.reduceNeg,Int.reduceLT,Int.reduceLE,Int.reducePow,Int.reduceToNat,Int.reduceMul,and_self,and_true,bL,cP,eX,$[$ts:term],*])
def Bx (n:Nat)(ds:w5):Prop:=∃x y z:Int,ds=[.int x,.int y,.int z]/\0<=x/\0<=y/\y<2 ^ 62/\0<=z/\z<=n
theorem Bx.mono {n m:Nat}{ds:w5}(h:Bx n ds)(l:n<=m):Bx m ds:=by
 obtain⟨x,y,z,e,b,c,a,d,f⟩:=h
 exact⟨x,y,z,e,b,c,a,d,by omega⟩
theorem mod_lt {x m:Int}(h:0<m):0<=x % m/\x % m<m:=⟨Int.emod_nonneg _ (by omega),Int.emod_lt_of_pos _ h⟩
theorem A7s {i j:Int}(h:-(2 ^ 64)<i/\i<2 ^ 64):Wl i j=true:=by
 unfold Wl;grind
theorem Ab5 {i j:Int}(h:-(2 ^ 64)<j/\j<2 ^ 64):Wl i j=true:=by
 unfold Wl;grind
theorem As9 {i j:Int}(h:0<j):A5r i j=true:=aD h
theorem B1a {i j:Int}(h:0<j/\j<1073741824):Aw7 i j=true:=by
 unfold Aw7;grind
theorem B2g:Af5 10 18=true:=by rfl
theorem Bl5:Af5 10 12=true:=by rfl
theorem Bm0:Af5 10 11=true:=by rfl
theorem Dk {n:Nat}{ds:w5}{m:Int}(hb:Bx n ds)(hn:n<2 ^ 40)(a:0<m)(h1:m<16000000) :
 ∃r ds',Bx (n+1) ds'/\0<=r/\r<m/\Ao [.ls true ds,.im (.int m)]=.ret (.im (.int r)) [.ls true ds',.im (.int m)]:=by
 obtain⟨x,y,z,rfl,d,e,b,g,z1⟩:=hb
 by_cases c:0<x
 ·refine⟨x % m,[.int (x / m),.int y,.int z],⟨_,_,_,rfl,Int.ediv_nonneg d (by omega),e,b,g,by omega⟩,(mod_lt a).1,(mod_lt a).2,?_⟩
  wp_walk using Ao,T6,Ar,aD c,As9 a,B1a ⟨a,(by omega:m<1073741824)⟩
 ·have h:=mod_lt (x:=(y+48271*(z+1))*(39373+(z+1))) (m:=2147483647) (by decide)
  generalize e1:(y+48271*(z+1))*(39373+(z+1)) % 2147483647=once at h
  have g2:=mod_lt (x:=once) (m:=40009) (by decide)
  have f:=mod_lt (x:=(once+(z+1))*(once % 40009+7)) (m:=2147483629) (by decide)
  generalize e2:(once+(z+1))*(once % 40009+7) % 2147483629=twice at f
  refine⟨(twice*48271+once) % 2147483587 / 64 % m,[.int x,.int y,.int (z+1)],⟨_,_,_,rfl,d,e,b,by omega,by omega⟩,(mod_lt a).1,(mod_lt a).2,?_⟩
  wp_walk using Ao,T6,Ar,Ls,Ci,aK c,As9 a,B1a (i:=(twice*48271+once) % 2147483587) (j:=64) ⟨by decide,by decide⟩,A7s (i:=48271) (j:=z+1) ⟨by decide,by decide⟩,Ab5 (i:=y+48271*(z+1)) (j:=39373+(z+1)) ⟨by omega,by omega⟩,As9 (i:=(y+48271*(z+1))*(39373+(z+1))) (j:=2147483647) (by decide),e1,As9 (i:=once) (j:=40009) (by decide),Ab5 (i:=once+(z+1)) (j:=once % 40009+7) ⟨by omega,by omega⟩,As9 (i:=(once+(z+1))*(once % 40009+7)) (j:=2147483629) (by decide),e2,Ab5 (i:=twice)  _,As9  (j:=2147483587) (by decide)
theorem Av5 {ns:List Int}{k:Nat}:∃i:Int,G3 [.sc ns,.im (.int k)]=.ret (.im (.int i)) [.sc ns,.im (.int k)]:=by
 by_cases c:k<ns.length
 ·refine⟨ns[k],?_⟩
  have e:atI ns (k:Int)=some ns[k]:=Kl (bA c)
  wp_walk using G3,Ma,Nt,Dp,PyData.canLay0,PyData.depth,Nv,aD (show (k:Int)<ns.length by omega),e,aB
 ·refine⟨0,?_⟩
  wp_walk using G3,Ma,Nt,Dp,PyData.canLay0,PyData.depth,Nv,aK (show ¬ (k:Int)<ns.length by omega),aB
theorem Bz1 {ns:List Int}{k:Nat}(hk:k<=63):∃ds,Bx 0 ds/\Nx [.sc ns,.im (.int k)]=.ret (.ls false ds) [.sc ns,.im (.int k)]:=by
 obtain⟨i,e⟩:=Av5 (ns:=ns) (k:=k)
 have a:(0:Int)<=(if i<0 then -i else i):=by grind
 have c:=mod_lt (x:=i) (m:=2305843009213693951) (by decide)
 generalize ea:(if i<0 then -i else i)=ab at a
 have b:(0:Int)<=(if decide ((1000000000000000000:Int)<=ab)=true then 1 else 0)/\(if decide ((1000000000000000000:Int)<=ab)=true then (1:Int) else 0)<=1:=by omega
 generalize eo:(if decide ((1000000000000000000:Int)<=ab)=true then (1:Int) else 0)=on at b
 refine⟨[.int (ab*on),.int (i % 2305843009213693951+39373*(k:Int)+17),.int 0],⟨_,_,_,rfl,Int.mul_nonneg a b.1,by omega,by omega,by omega,by omega⟩,?_⟩
 wp_walk using Nx,Am9,e,A0i,ea,A9q,Ls,Ci,eo,B2g,As9 (i:=i) (j:=2305843009213693951) (by decide),Ab5  (j:=on) ⟨by omega,by omega⟩,A7s   _
theorem Ax2 {n:Nat}{ds:w5}{l f m:Int}(hb:Bx n ds)(hn:n<2 ^ 39)(j:0<=l)(h1:l<=7)(h2:l<=f)(t:f<=m)(o:7<=m)(p:m<1000) :
 ∃r ds',Bx (n+2) ds'/\l<=r/\r<=m/\Ie [.ls true ds,.im (.int l),.im (.int f),.im (.int m)]=.ret (.im (.int r)) [.ls true ds',.im (.int l),.im (.int f),.im (.int m)]:=by
 obtain⟨r,s,g,u,k,e⟩:=Dk (m:=8) hb (by omega) (by decide) (by decide)
 by_cases c:r=0
 ·subst c
  obtain⟨q,a,d,h,i,b⟩:=Dk (m:=m-6) g (by omega) (by omega) (by omega)
  refine⟨7+q,a,d,by omega,by omega,?_⟩
  wp_walk using Ie,Uc,e,b,Dd,Dp,PyData.canLay0,PyData.depth,PyData.eqv,Ci,aB,bK
 ·obtain⟨q,a,d,h,i,b⟩:=Dk (m:=f-l+1) g (by omega) (by omega) (by omega)
  refine⟨l+q,a,d,by omega,by omega,?_⟩
  wp_walk using Ie,Uc,e,b,Dd,Dp,PyData.canLay0,PyData.depth,PyData.eqv,Ci,aB,cQ.mpr c
theorem A1p {n:Nat}{ds:w5}(hb:Bx n ds)(hn:n<2 ^ 39):∃(i:Int) (ds':w5),Bx (n+2) ds'/\VB (.int i)/\Dv [.ls true ds]=.ret (.im (.int i)) [.ls true ds']:=by
 obtain⟨r,d1,k,r0,r1,j⟩:=Dk (m:=9) hb (by omega) (by decide) (by decide)
 by_cases c:r=0
 ·subst c
  obtain⟨q,b,e,f,h,a⟩:=Dk (m:=4) k (by omega) (by decide) (by decide)
  obtain⟨d,s,g,_⟩:=Ti (l:=[PyData.int 999999999999,.int (-999999999999),.int 100000000000,.int 0]) (r:=q) f h
  have p:∃i:Int,d=.int i/\VB (.int i):=by
   simp only[az,bj,bx]at g
   rcases g with rfl | rfl | rfl | rfl <;> exact⟨_,rfl,by decide⟩
  obtain⟨i,rfl,o⟩:=p
  refine⟨i,b,e,o,?_⟩
  wp_walk using Dv,Nm,j,a,Dd,Dp,PyData.canLay0,PyData.depth,PyData.eqv,Ci,aB,bK,Bl5,Bm0,Ar,s
 ·obtain⟨q,b,e,f,h,a⟩:=Dk (m:=25) k (by omega) (by decide) (by decide)
  refine⟨q-7,b,e,?_,?_⟩
  ·show (decide (-1000000000000<=q-7)&&decide _)=true
   rw[aD (by omega),aD (by omega)];rfl
  wp_walk using Dv,Nm,j,a,Dd,Dp,PyData.canLay0,PyData.depth,PyData.eqv,Ci,aB,cQ.mpr c
theorem Al6 {n:Nat}{ds:w5}(hb:Bx n ds)(hn:n<2 ^ 39):∃(v:Vl) (ds':w5),Bx (n+2) ds'/\VB v/\Cr [.ls true ds]=.ret (.im v.d) [.ls true ds']:=by
 obtain⟨r,t,k,r0,r1,j⟩:=Dk (m:=9) hb (by omega) (by decide) (by decide)
 by_cases c4:r<4
 ·obtain⟨q,e,g,h,i,c⟩:=Dk (m:=13) k (by omega) (by decide) (by decide)
  refine⟨.int (q-3),e,g,?_,?_⟩
  ·show (decide (-1000000000000<=q-3)&&decide (q-3<=1000000000000))=true
   rw[aD (by omega),aD (by omega)];rfl
  wp_walk using Cr,J1,j,c,Nt,Nv,Dp,PyData.canLay0,PyData.depth,aB,aD c4,Vl.d
 by_cases c5:r=4
 ·subst c5
  obtain⟨q,e,g,h,i,c⟩:=Dk (m:=4) k (by omega) (by decide) (by decide)
  obtain⟨d,s,f,_⟩:=Ti (l:=[PyData.int 999999999999,.int (-100000000000),.int 100,.int 10]) (r:=q) h i
  have p:∃v:Vl,d=v.d/\VB v:=by
   simp only[az,bj,bx]at f
   rcases f with rfl | rfl | rfl | rfl <;> exact⟨.int _,rfl,by decide⟩
  obtain⟨v,rfl,o⟩:=p
  refine⟨v,e,g,o,?_⟩
  wp_walk using Cr,J1,j,c,Nt,Nv,Dd,Dp,PyData.canLay0,PyData.depth,PyData.eqv,aB,aK c4,bK,Bl5,Bm0,Ar,s
 by_cases c6:r=5
 ·subst c6
  refine⟨.non,t,k.mono (by omega),rfl,?_⟩
  wp_walk using Cr,J1,j,Nt,Nv,Dd,Dp,PyData.canLay0,PyData.depth,PyData.eqv,aB,aK c4,bK,cQ.mpr c5,Vl.d
 ·obtain⟨q,e,g,h,i,c⟩:=Dk (m:=15) k (by omega) (by decide) (by decide)
  obtain⟨d,s,f,_⟩:=Ti (l:=[PyData.str "",.str "a",.str "b",.str "B",.str "10",.str "9",.str "-",.str "a b",.str "it's",.str "\\",.str "/",.str "_",.str ":",.str "None",.str "ab"]) (r:=q) h i
  have p:∃v:Vl,d=v.d/\VB v:=by
   simp only[az,bj,bx]at f
   rcases f with rfl | rfl | rfl | rfl | rfl | rfl | rfl | rfl | rfl | rfl | rfl | rfl | rfl | rfl | rfl <;> exact⟨.str _,rfl,by decide⟩
  obtain⟨v,rfl,o⟩:=p
  refine⟨v,e,g,o,?_⟩
  wp_walk using Cr,J1,j,c,Nt,Nv,Dd,Dp,PyData.canLay0,PyData.depth,PyData.eqv,aB,aK c4,cQ.mpr c5,cQ.mpr c6,Ar,s
def names12:v4:=[Str.ofString "b",Str.ofString "a",Str.ofString "year",Str.ofString "z",Str.ofString "ab",Str.ofString "month",Str.ofString "aa",Str.ofString "quantity",Str.ofString "c",Str.ofString "town",Str.ofString "zz",Str.ofString "ba"]
theorem A7v {m:Nat}(h:m<=1000):(m:Int)<=16000000/\-16000000<=(m:Int):=by omega
theorem upN {n k a b c:Nat}(hn:n<a)(hk:k<=b)(h:a+b<=c):n+k<c:=aA (eG hn hk) h
theorem Bd1 {n:Nat}{r:Int}(a:0<=r)(h1:r<n):ixN n r=some r.toNat:=by
 unfold ixN;simp_all
theorem Mj {lo:Int}{n:Nat}:(La lo n).length=n:=by unfold La;simp_all
theorem Ol {lo:Int}{n k:Nat}{d:t6}(h:(La lo n)[k]?=some d):d=.int (lo+k)/\k<n:=by
 unfold La at h
 grind
theorem Yh {α β:Type}(f:α->β):∀(l:List α) (j:Nat),(l.map f).eraseIdx j=(l.eraseIdx j).map f
 | [],j=>rfl
 | a::l,0=>rfl
 | a::l,j+1=>by rw[aP,gC,gC,aP,Yh f l j]
theorem Wz {α:Type}:∀(l:List α) {j:Nat}(h:j<l.length),(l[j]::l.eraseIdx j).Perm l
 | a::l,0,h=>List.Perm.refl _
 | a::l,j+1,h=>by
  rw[gC,List.getElem_cons_succ]
  exact(List.Perm.swap a _ _).trans (List.Perm.cons a (Wz l (by simpa using h)))
structure Names (ns:v4):Prop where
 nd:ns.Nodup
 sub:∀x∈ns,x∈names12
theorem A7q {n:Nat}{ds:w5}{m:Nat}(hb:Bx n ds)(hn:n<2 ^ 38)(hm:m<=12) :
 ∃b ds',b.length=m/\Names b/\Bx (n+m) ds'/\H9 [.ls true ds,.im (.int m)]=.ret (.ls false (b.map PyData.str)) [.ls true ds',.im (.int m)]:=by
 have i:=O1 (g:=cgN 0) (ft:=Bd) (fe:=Vx (Ac 1) (cF Ao (Ad (Ac 2) (Ad (Gj (Ac 1)) Al)))) (items:=La 0 m) (acc:=[]) (n:=0) (c:=[none,some (.ls true (names12.map PyData.str)),some (.ls true ds)])
  (P:=fun k f c=>∃a h t b,c=[t,some (.ls true (a.map PyData.str)),some (.ls true h)]/\Bx (n+k) h/\f=b.map PyData.str/\(b++a).Perm names12/\b.length=k)
  ⟨names12,ds,none,[],rfl,hb,rfl,List.Perm.refl _,rfl⟩ (fun k d f c C w=>by
   rw[aY]at w ⊢;obtain⟨a,h,t,b,rfl,o,rfl,j,l⟩:=w;obtain⟨rfl,hk⟩:=Ol C
   have ll:a.length+k=12:=by have:=j.length_eq;rw[a_,l]at this;have e:names12.length=12:=rfl;omega
   obtain⟨r,v,A,z,y,B⟩:=Dk (m:=(a.length:Int)) o (by omega) (by omega) (by omega)
   have u:r.toNat<a.length:=by omega
   have q:(a.map PyData.str)[r.toNat]?=some (.str a[r.toNat]):=by simp[u]
   have p:ixN a.length r=some r.toNat:=Bd1 z y
   refine⟨some (.str a[r.toNat]),[some (.im (.int (0+(k:Int)))),some (.ls true ((a.eraseIdx r.toNat).map PyData.str)),some (.ls true v)],?_,a.eraseIdx r.toNat,v,_,b++[a[r.toNat]],rfl,A.mono (by omega),by simp,?_,by simp[l]⟩
   ·wp_walk using Ht,ak,B,p,q,Yh,show a.length<=16000000 by omega
   ·rw[du]
    exact(List.Perm.append_left b (Wz a u)).trans j)
 obtain⟨f,cI,e,a,h,t,b,rfl,o,rfl,j,l⟩:=i;rw[aY,Mj]at o l
 have D:(b++a).Nodup:=j.nodup_iff.mpr (by decide)
 refine⟨b,h,l,⟨(List.nodup_append.mp D).1,fun x q=>j.mem_iff.mp (bN _ q)⟩,o,?_⟩
 have s:cLC [none,some 2,some 0] (My (Ac 1)) (cgN 0) Bd (Vx (Ac 1) (cF Ao (Ad (Ac 2) (Ad (Gj (Ac 1)) Al)))) [some (.ls true ds),some (.im (.int m)),some (.ls false (names12.map PyData.str))]=.ok (.o (.ls false (b.map PyData.str))) [some (.ls true h),some (.im (.int m)),some (.ls false (a.map PyData.str))] :=
  Ei (ds:=La 0 m) (c1:=[some (.ls true ds),some (.im (.int m)),some (.ls false (names12.map PyData.str))]) (by wp_walk using A7v  (ao hm (by decide)),cM) (by rw[Mj];exact ao hm (by decide)) e (by wp_walk using bL)
 unfold H9 Wn;simp only[names12,aP,fL]at s
 wp_walk using s
theorem A2i {k:Nat}{vs:m7}{v:Vl}(h:v∉vs)(a:vs.Nodup):(vs++[v]).Nodup:=by
 grind
theorem Bg0 {n:Nat}{ds:w5}{m:Nat}(hb:Bx n ds)(hn:n<2 ^ 38)(hm:m<=1000) :
 ∃a ds',VBs a/\a.Nodup/\a.length<=m/\(0<m->a≠[])/\Bx (n+2*m) ds'/\Ju [.ls true ds,.im (.int m)]=.ret (.ls false (a.map Vl.d)) [.ls true ds',.im (.int m)]:=by
 have i:=Ir (g:=cgN 3) (body:=Bs (Ef (cF Cr (Ad (Ac 0) Al)) (cgN 4)) (cIf (Bf (cOp (Li true) (Ac 4) (Ac 2))) (Hx (M6 (Ac 2) (Ac 4))) Df)) (items:=La 0 m) (n:=0) (c:=[some (.ls true ds),some (.im (.int m)),some (.ls false []),none,none])
  (P:=fun k c=>∃j a x y,c=[some (.ls true j),some (.im (.int m)),some (.ls false (a.map Vl.d)),x,y]/\Bx (n+2*k) j/\VBs a/\a.Nodup/\a.length<=k/\(0<k->a≠[]))
  ⟨ds,[],none,none,rfl,hb,(fun v b=>by cases b),cR,aj _,fun h=>absurd h (by decide)⟩ (fun k d c B s=>by
   rw[aY]at s ⊢;obtain⟨j,a,x,y,rfl,p,b,o,l,f⟩:=s;obtain⟨rfl,w⟩:=Ol B
   obtain⟨v,q,t,r,A⟩:=Al6 p (upN hn (b_ 2 (ao (bM w) hm)) (by decide))
   by_cases c:v∈a
   ·refine⟨[some (.ls true q),some (.im (.int m)),some (.ls false (a.map Vl.d)),some (.im (.int (0+(k:Int)))),some (.im v.d)],.inl ?_,q,a,_,_,rfl,t,b,o,Nat.le_succ_of_le l,fun _ z=>by rw[z]at c;cases c⟩
    wp_walk using A,A8n r b,aD c
   ·refine⟨[some (.ls true q),some (.im (.int m)),some (.ls false ((a++[v]).map Vl.d)),some (.im (.int (0+(k:Int)))),some (.im v.d)],.inl ?_,q,a++[v],_,_,rfl,t,VBs.app b (fun u C=>by rw[aG.mp C];exact r),A2i (k:=k) c o,by rw[a_,bY];omega,fun _=>by simp⟩
    wp_walk using A,A8n r b,aK c,ak,show a.length<16000000 from aQ l (aA w (ao hm (by decide))),bQ)
 obtain⟨c',e,j,a,x,y,rfl,p,b,o,l,f⟩:=i;rw[aY,Mj]at p l f
 refine⟨a,j,b,o,l,f,p,?_⟩
 unfold Ju Zd
 wp_walk using Qf,A7v hm,cM,e
theorem A9d {n:Nat}{ds:w5}{vs:m7}{w:Nat}(hb:Bx n ds)(hn:n<2 ^ 38)(hw:w<=1000)(hv:VBs vs)(j:vs≠[])(hl:vs.length<=1000) :
 ∃
  a f t,a.length=w/\VBs a/\(∀u∈a,u∈vs)/\Bx (n+w) f /\
  Fb (cgN 0) Bd (cOp Ar (Ac 1) (cF Ao (Ad (Ac 2) (Ad (Gj (Ac 1)) Al)))) (La 0 w) [] [none,some (.ls true (vs.map Vl.d)),some (.ls true ds)]=.ok (a.map Vl.d) [t,some (.ls true (vs.map Vl.d)),some (.ls true f)]:=by
 have i:=O1 (g:=cgN 0) (ft:=Bd) (fe:=cOp Ar (Ac 1) (cF Ao (Ad (Ac 2) (Ad (Gj (Ac 1)) Al)))) (items:=La 0 w) (acc:=[]) (n:=0) (c:=[none,some (.ls true (vs.map Vl.d)),some (.ls true ds)])
  (P:=fun k b c=>∃f t a,c=[t,some (.ls true (vs.map Vl.d)),some (.ls true f)]/\Bx (n+k) f/\b=a.map Vl.d/\a.length=k/\VBs a/\∀u∈a,u∈vs)
  ⟨ds,none,[],rfl,hb,rfl,rfl,(fun v hv=>by cases hv),fun v hv=>by cases hv⟩ (fun k d b c B s=>by
   rw[aY]at s ⊢;obtain⟨f,t,a,rfl,p,rfl,q,y,z⟩:=s;obtain⟨rfl,o⟩:=Ol B;have C:0<vs.length:=List.length_pos_iff.mpr j
   obtain⟨r,D,E,A,r1,G⟩:=Dk (m:=(vs.length:Int)) p (upN hn (ao (bM o) hw) (by decide)) (Int.natCast_pos.mpr C) (Int.ofNat_lt.mpr (aQ hl (by decide)))
   obtain⟨x,F,H,_⟩:=Ti (l:=vs.map Vl.d) (r:=r) A (by simp_all)
   obtain⟨v,I,rfl⟩:=au.mp H
   refine⟨some v.d,[some (.im (.int (0+k))),some _,some _],?_,D,_,a++[v],rfl,E,by simp,by grind,VBs.app y fun u h=>by grind,fun u h=>by
    grind⟩
   wp_walk using Ht,ak,G,Ar,F)
 obtain⟨b,cI,e,f,t,a,rfl,p,rfl,q,y,z⟩:=i;rw[Mj]at p q
 grind
theorem Yx {n:Nat}{ds:w5}{w m:Nat}(hb:Bx n ds)(hn:n<2 ^ 37)(hw:w<=100)(hm:m<=1000) :
 ∃(f:n_) (ds':w5),f.Nodup/\(∀t∈f,t.length=w/\VBs t)/\f.length<=m/\Bx (n+12+w*m) ds'/\Hk [.ls true ds,.im (.int w),.im (.int m)]=.ret (.ls false (f.map tD)) [.ls true ds',.im (.int w),.im (.int m)]:=by
 obtain⟨i,E,F,s,H,C,Q,D⟩:=Bg0 (m:=6) hb (cZ hn (by decide)) (by decide)
 have D:Ju [.ls true ds,.im (.int 6)]=.ret (.ls false (i.map Vl.d)) [.ls true E,.im (.int 6)]:=D
 have z:=Ir (g:=cgN 5) (body:=Bs (Ef (cUn Bp (cLC [none,some 3,some 0] (My (Ac 1)) (cgN 0) Bd (cOp Ar (Ac 1) (cF Ao (Ad (Ac 2) (Ad (Gj (Ac 1)) Al)))))) (cgN 6)) (cIf (Bf (cOp (Li true) (Ac 6) (Ac 4))) (Hx (M6 (Ac 4) (Ac 6))) Df)) (items:=La 0 m) (n:=0)
  (c:=[some (.ls true E),some (.im (.int w)),some (.im (.int m)),some (.ls false (i.map Vl.d)),some (.ls false []),none,none])
  (P:=fun k c=>∃l f x y,c=[some (.ls true l),some (.im (.int w)),some (.im (.int m)),some (.ls false (i.map Vl.d)),some (.ls false (f.map tD)),x,y]/\Bx (n+12+w*k) l/\f.Nodup/\(∀t∈f,t.length=w/\VBs t)/\f.length<=k)
  ⟨E,[],none,none,rfl,Q,cR,(fun v F=>by cases F),aj _⟩ (fun k d c N J=>by
   rw[aY]at J ⊢;obtain⟨l,f,x,y,rfl,B,s,o,q⟩:=J;obtain⟨rfl,L⟩:=Ol N;have r:w*k<=100*1000:=Nat.mul_le_mul hw (bM (aA L hm))
   obtain⟨j,p,t,R,G,_,S,O⟩:=A9d (w:=w) (vs:=i) B (upN (upN hn (aj 12) (show 2 ^ 37+12<=2 ^ 37+100 by decide)) r (by decide)) (ao hw (by decide)) F (C (by decide)) (ao H (by decide))
   have K:cLC [none,some 3,some 0] (My (Ac 1)) (cgN 0) Bd (cOp Ar (Ac 1) (cF Ao (Ad (Ac 2) (Ad (Gj (Ac 1)) Al)))) [some (.ls true l),some (.im (.int w)),some (.im (.int m)),some (.ls false (i.map Vl.d)),some (.ls false (f.map tD)),some (.im (.int (0+(k:Int)))),y]=.ok (.o (.ls false (j.map Vl.d))) [some (.ls true p),some (.im (.int w)),some (.im (.int m)),some (.ls false (i.map Vl.d)),some (.ls false (f.map tD)),some (.im (.int (0+(k:Int)))),y] :=
    Ei (ds:=La 0 w) (c1:=[some (.ls true l),some (.im (.int w)),some (.im (.int m)),some (.ls false (i.map Vl.d)),some (.ls false (f.map tD)),some (.im (.int (0+(k:Int)))),y]) (by wp_walk using A7v (m:=w) (ao hw (by decide)),cM) (by rw[Mj];omega) O (by wp_walk using bL)
   have A:Bx (n+12+w*(k+1)) p:=S.mono (dR (cT _ _ _));have M:PyData.tuple (j.map Vl.d)=tD j:=rfl
   by_cases c:j∈f
   ·refine⟨[some (.ls true p),some (.im (.int w)),some (.im (.int m)),some (.ls false (i.map Vl.d)),some (.ls false (f.map tD)),some (.im (.int (0+(k:Int)))),some (.im (tD j))],.inl ?_,p,f,_,_,rfl,A,s,o,Nat.le_succ_of_le q⟩
    wp_walk using K,Bp,M,Au5 G (fun u I=>(o u I).2),aD c
   ·refine⟨[some (.ls true p),some (.im (.int w)),some (.im (.int m)),some (.ls false (i.map Vl.d)),some (.ls false ((f++[j]).map tD)),some (.im (.int (0+(k:Int)))),some (.im (tD j))],.inl ?_,p,f++[j],_,_,rfl,A,?_,fun t h=>?_,by rw[a_,bY];exact eU q⟩
    ·wp_walk using K,Bp,M,Au5 G (fun u I=>(o u I).2),aK c,ak,show f.length<16000000 from aQ q (aA L (ao hm (by decide))),bQ
    ·rw[fJ]
     exact⟨s,by simp,fun a T b hb e=>by rw[aG.mp hb]at e;exact c (e▸T)⟩
    ·rcases aX.mp h with h | h
     ·exact o t h
     ·rw[aG.mp h];exact⟨R,G⟩)
 obtain⟨c',e,l,f,x,y,rfl,B,s,o,q⟩:=z;rw[aY,Mj]at B q
 refine⟨f,l,s,o,q,B,?_⟩
 unfold Hk U3
 wp_walk using D,Qf,A7v hm,cM,e
structure Wd where
 key:v4
 names:v4
 vals:v4
 heads:n_
 rows:List (List Vl×List (Option (m7)))
def nD (ns:v4):t6:=.tuple (ns.map PyData.str)
def Dr:Option (m7)->t6
 | none=>.none
 | some c=>tD c
def Ck (r:List Vl×List (Option (m7))):t6:=.tuple [tD r.1,.tuple (r.2.map Dr)]
def Wd.ps (w:Wd):w5:=[nD w.key,nD w.names,nD w.vals,.tuple (w.heads.map tD),.tuple (w.rows.map Ck)]
def Wd.d (w:Wd):t6:=.tuple w.ps
def Vp (n:Nat)(c:Option (m7)):Prop:=∀vs,c=some vs->vs.length=n/\VBs vs
structure An8 (k h v:Nat) (r:List Vl×List (Option (m7))):Prop where
 plen:r.1.length=k
 part:VBs r.1
 clen:r.2.length=h
 cells:∀c∈r.2,Vp v c
structure Wd.Ok (w:Wd):Prop where
 nms:Names (w.key++w.names++w.vals)
 klen:w.key.length<=2
 nlen:w.names.length<=2
 vlen:w.vals.length<=5
 vpos:1<=w.vals.length
 heads:∀h∈w.heads,h.length=w.names.length/\VBs h
 hnd:w.heads.Nodup
 hlen:w.heads.length<=12
 rows:∀r∈w.rows,An8 w.key.length w.heads.length w.vals.length r
 rnd:(w.rows.map (·.1)).Nodup
 rlen:w.rows.length<=12
def Wd.Num (w:Wd):Prop:=∀r∈w.rows,∀c∈r.2,∀vs,c=some vs->∀v∈vs,∃i,v=Vl.int i
theorem Bp3 {ds:w5}{b:Nat}:cutD ds none (some (b:Int))=ds.take b:=by
 unfold cutD;rw[HT.A3u,HT.Ab3,List.drop_zero]
 simp_all
theorem A8u {ds:w5}{a b:Nat}(h:a<=b)(hb:b<=ds.length):cutD ds (some (a:Int)) (some (b:Int))=(ds.drop a).take (b-a):=by
 unfold cutD;rw[HT.Ab3,HT.Ab3,dJ hb,dJ (ao h hb)]
theorem A9x {n:Nat}{ds:w5}{items:w5}{num:Bool}(hb:Bx n ds)(hn:n<2 ^ 38)(hl:items.length<=1000) :
 ∃
  a f t,a.length=items.length/\VBs a/\(num=true->∀u∈a,∃i,u=Vl.int i)/\Bx (n+2*items.length) f /\
  Fb (cgN 0) Bd (Tv (Bf (Ac 1)) (cF Dv (Ad (Ac 2) Al)) (cF Cr (Ad (Ac 2) Al))) items [] [none,some (.im (.bool num)),some (.ls true ds)]=.ok (a.map Vl.d) [t,some (.im (.bool num)),some (.ls true f)]:=by
 have p:=O1 (g:=cgN 0) (ft:=Bd) (fe:=Tv (Bf (Ac 1)) (cF Dv (Ad (Ac 2) Al)) (cF Cr (Ad (Ac 2) Al))) (items:=items) (acc:=[]) (n:=0) (c:=[none,some (.im (.bool num)),some (.ls true ds)])
  (P:=fun k e c=>∃f t a,c=[t,some (.im (.bool num)),some (.ls true f)]/\k<=items.length/\Bx (n+2*k) f/\e=a.map Vl.d/\a.length=k/\VBs a/\(num=true->∀u∈a,∃i,u=Vl.int i))
  ⟨ds,none,[],rfl,aB _,hb,rfl,rfl,(fun v o=>by cases o),fun _ v o=>by cases o⟩ (fun k d e c hd s=>by
   rw[aY]at s ⊢;obtain⟨f,t,a,rfl,x,q,rfl,r,w,hs⟩:=s
   have b:k<items.length:=by
    grind
   cases num with
   | true =>
    obtain⟨i,j,m,y,l⟩:=A1p q (upN hn (b_ 2 (ao (bM b) hl)) (by decide))
    refine⟨some (.int i),[some (.im d),some (.im (.bool true)),some (.ls true j)],?_,j,_,a++[.int i],rfl,b,m,by simp[Vl.d],by simp[r],VBs.app w fun u h=>by grind,fun _ u h=>by
     grind⟩
    wp_walk using l
   | false =>
    obtain⟨v,j,m,y,l⟩:=Al6 q (upN hn (b_ 2 (ao (bM b) hl)) (by decide))
    refine⟨some v.d,[some (.im d),some _,some _],?_,j,_,a++[v],rfl,b,m,by simp,by simp[r],VBs.app w fun u h=>by grind,fun z=>nomatch z⟩
    wp_walk using l)
 grind
def isL (o:O)(ds:w5):Prop:=o=.ls false ds\/o=.im (.list ds)
theorem Bi1 {n:Nat}{ds:w5}{num:Bool}{s2 s3 s4 s5 s6 s7 o8 o9 s11 s12:n7}{often:Int}{vals:w5}{heads:n_}(hb:Bx n ds)(hn:n<2 ^ 37)(L:0<often)(h1:often<1000)(hv:vals.length<=5)(E:heads.length<=12){x14 x15:n7}
 (Q:∃o,o8=some o/\isL o vals) :
 ∃
  (a:List (Option (m7))) (l:w5) (o8' j b:n7),a.length=heads.length/\(∀c∈a,Vp vals.length c)/\(num=true->∀c∈a,∀p,c=some p->∀v∈p,∃i,v=Vl.int i)/\Bx (n+11*heads.length) l/\(∃o,o8'=some o/\isL o vals) /\
  forL (cgN 14) (Bs (Ef (cUn Bp (cLC [none,some 1,some 0] (Bk (Ac 8)) (cgN 0) Bd (Tv (Bf (Ac 1)) (cF Dv (Ad (Ac 2) Al)) (cF Cr (Ad (Ac 2) Al))))) (cgN 15))
   (Hx (M6 (Ac 13) (Tv (Bf (cOp (Dd false) (cF Ao (Ad (Ac 0) (Ad (Ac 10) Al))) (cC (.int 0)))) (cC (.none)) (Ac 15))))) (heads.map tD)
   [some (.ls true ds),some (.im (.bool num)),s2,s3,s4,s5,s6,s7,o8,o9,some (.im (.int often)),s11,s12,some (.ls false []),x14,x15] =
  .nx [some (.ls true l),some (.im (.bool num)),s2,s3,s4,s5,s6,s7,o8',o9,some (.im (.int often)),s11,s12,some (.ls false (a.map Dr)),j,b]:=by
 have y:=Ir (g:=cgN 14) (body:=Bs (Ef (cUn Bp (cLC [none,some 1,some 0] (Bk (Ac 8)) (cgN 0) Bd (Tv (Bf (Ac 1)) (cF Dv (Ad (Ac 2) Al)) (cF Cr (Ad (Ac 2) Al))))) (cgN 15))
  (Hx (M6 (Ac 13) (Tv (Bf (cOp (Dd false) (cF Ao (Ad (Ac 0) (Ad (Ac 10) Al))) (cC (.int 0)))) (cC (.none)) (Ac 15))))) (items:=heads.map tD) (n:=0)
  (c:=[some (.ls true ds),some (.im (.bool num)),s2,s3,s4,s5,s6,s7,o8,o9,some (.im (.int often)),s11,s12,some (.ls false []),x14,x15])
  (P:=fun k c=>∃l C j b a,c=[some (.ls true l),some (.im (.bool num)),s2,s3,s4,s5,s6,s7,C,o9,some (.im (.int often)),s11,s12,some (.ls false (a.map Dr)),j,b]/\k<=heads.length/\Bx (n+11*k) l/\(∃o,C=some o/\isL o vals) /\
   a.length=k/\(∀c∈a,Vp vals.length c)/\(num=true->∀c∈a,∀p,c=some p->∀v∈p,∃i,v=Vl.int i))
  ⟨ds,o8,_,_,[],rfl,aB _,hb,Q,rfl,(fun c s=>by cases s),fun _ c s=>by cases s⟩ (fun k d c K J=>by
   rw[aY]at J ⊢;obtain⟨l,C,j,b,a,rfl,S,D,⟨o,rfl,F⟩,u,s,f⟩:=J
   have x:k<heads.length:=by
    rcases aM k heads.length with q | q
    ·exact q
    ·rw[cN (by rw[ak];exact q)]at K;cases K
   obtain⟨w,V,t,U,W,M,N,R⟩:=A9x (items:=vals) (num:=num) D (upN hn (b_ 11 (ao (bM x) E)) (by decide)) (ao hv (by decide))
   have G:cLC [none,some 1,some 0] (Bk (Ac 8)) (cgN 0) Bd (Tv (Bf (Ac 1)) (cF Dv (Ad (Ac 2) Al)) (cF Cr (Ad (Ac 2) Al)))
    [some (.ls true l),some (.im (.bool num)),s2,s3,s4,s5,s6,s7,some o,o9,some (.im (.int often)),s11,s12,some (.ls false (a.map Dr)),some (.im d),b] =
    .ok (.o (.ls false (w.map Vl.d))) [some (.ls true V),some (.im (.bool num)),s2,s3,s4,s5,s6,s7,some (.im (.list vals)),o9,some (.im (.int often)),s11,s12,some (.ls false (a.map Dr)),some (.im d),b]:=by
    refine Ei (ds:=vals) (c1:=[some (.ls true l),some (.im (.bool num)),s2,s3,s4,s5,s6,s7,some (.im (.list vals)),o9,some (.im (.int often)),s11,s12,some (.ls false (a.map Dr)),some (.im d),b]) ?_ (ao hv (by decide)) R (by wp_walk using bL)
    rcases F with rfl | rfl <;> wp_walk using Bk
   obtain⟨r,A,T,r0,r1,I⟩:=Dk (m:=often) N (upN (upN hn (b_ 11 (ao (bM x) E)) (show 2 ^ 37+11*12<=2 ^ 38 by decide)) (b_ 2 hv) (by decide)) L (Int.lt_trans h1 (by decide))
   have H:PyData.tuple (w.map Vl.d)=tD w:=rfl;have B:Bx (n+11*(k+1)) A:=T.mono (bw (eU (b_ 2 hv)) (n+11*k))
   by_cases c:r=0
   ·subst c
    refine⟨[some (.ls true A),some (.im (.bool num)),s2,s3,s4,s5,s6,s7,some (.im (.list vals)),o9,some (.im (.int often)),s11,s12,some (.ls false ((a++[none]).map Dr)),some (.im d),some (.im (tD w))],.inl ?_,A,_,_,_,a++[none],rfl,x,B,⟨_,rfl,.inr rfl⟩,by simp[u],fun c h=>?_,fun z c h p e=>?_⟩
    ·wp_walk using G,Bp,H,I,Dd,Dp,PyData.canLay0,PyData.depth,PyData.eqv,aB,bK,ak,show a.length<16000000 from u▸aA x (ao E (by decide)),bQ,Dr
    ·rcases aX.mp h with h | h
     ·exact s c h
     ·rw[aG.mp h];exact fun p e=>nomatch e
    ·rcases aX.mp h with h | h
     ·exact f z c h p e
     ·rw[aG.mp h]at e;cases e
   ·refine⟨[some (.ls true A),some (.im (.bool num)),s2,s3,s4,s5,s6,s7,some (.im (.list vals)),o9,some (.im (.int often)),s11,s12,some (.ls false ((a++[some w]).map Dr)),some (.im d),some (.im (tD w))],.inl ?_,A,_,_,_,a++[some _],rfl,x,B,⟨_,rfl,.inr rfl⟩,by simp[u],fun c h=>?_,fun z c h p e=>?_⟩
    ·wp_walk using G,Bp,H,I,Dd,Dp,PyData.canLay0,PyData.depth,PyData.eqv,aB,cQ.mpr c,ak,show a.length<16000000 from u▸aA x (ao E (by decide)),bQ,Dr
    ·rcases aX.mp h with h | h
     ·exact s c h
     ·rw[aG.mp h];exact fun p e=>by cases e;exact⟨U,W⟩
    ·rcases aX.mp h with h | h
     ·exact f z c h _ e
     ·rw[aG.mp h]at e;cases e;exact M z)
 obtain⟨c',e,l,C,j,b,a,rfl,_,D,F,u,s,f⟩:=y;rw[aY,ak]at D u;exact⟨a,l,C,j,b,u,s,f,D,F,e⟩
abbrev A7m:Ev->SR:=Bs (Ef (cUn Bp (cLC [none,some 1,some 0] (Bk (Ac 8)) (cgN 0) Bd (Tv (Bf (Ac 1)) (cF Dv (Ad (Ac 2) Al)) (cF Cr (Ad (Ac 2) Al))))) (cgN 15))
 (Hx (M6 (Ac 13) (Tv (Bf (cOp (Dd false) (cF Ao (Ad (Ac 0) (Ad (Ac 10) Al))) (cC (.int 0)))) (cC (.none)) (Ac 15))))
abbrev V9:Ev->SR:=Bs (Ef (Jw Al) (cgN 13)) (Bs (Qf (Bk (Ac 9)) (cgN 14) A7m) (Hx (M6 (Ac 11) (Eh (Ad (Ac 12) (Ad (cUn Bp (Ac 13)) Al))))))
theorem A6o {n:Nat}{ds:w5}{num:Bool}{s2 s3 s4 s5 s6 s7 o8 o9:n7}{often:Int}{vals:w5}{heads parts:n_}(hb:Bx n ds)(hn:n<2 ^ 36)(h0:0<often)(h1:often<1000)(hv:vals.length<=5)(hh:heads.length<=12)(hp:parts.length<=12)
 (h8:∃o,o8=some o/\isL o vals) (h9:∃o,o9=some o/\isL o (heads.map tD)) {x12 x13 x14 x15:n7} {kl:Nat} (hpk:∀t∈parts,t.length=kl/\VBs t) :
 ∃
  (rows:List (List Vl×List (Option (m7)))) (d1:w5) (p8 p9 y12 y13 y14 y15:n7),rows.map (·.1)=parts/\(∀r∈rows,An8 kl heads.length vals.length r)/\(num=true->∀r∈rows,∀c∈r.2,∀vs,c=some vs->∀v∈vs,∃i,v=Vl.int i)/\Bx (n+132*parts.length) d1/\(∃o,p8=some o/\isL o vals)/\(∃o,p9=some o/\isL o (heads.map tD)) /\
  forL (cgN 12) V9 (parts.map tD) [some (.ls true ds),some (.im (.bool num)),s2,s3,s4,s5,s6,s7,o8,o9,some (.im (.int often)),some (.ls false []),x12,x13,x14,x15] =
  .nx [some (.ls true d1),some (.im (.bool num)),s2,s3,s4,s5,s6,s7,p8,p9,some (.im (.int often)),some (.ls false (rows.map Ck)),y12,y13,y14,y15]:=by
 have loop:=Ir (g:=cgN 12) (body:=V9) (items:=parts.map tD) (n:=0) (c:=[some (.ls true ds),some (.im (.bool num)),s2,s3,s4,s5,s6,s7,o8,o9,some (.im (.int often)),some (.ls false []),x12,x13,x14,x15])
  (P:=fun k c=>∃d1 p8 p9 y12 y13 y14 y15 rows,c=[some (.ls true d1),some (.im (.bool num)),s2,s3,s4,s5,s6,s7,p8,p9,some (.im (.int often)),some (.ls false (rows.map Ck)),y12,y13,y14,y15]/\k<=parts.length/\Bx (n+132*k) d1/\(∃o,p8=some o/\isL o vals)/\(∃o,p9=some o/\isL o (heads.map tD)) /\
   rows.map (·.1)=parts.take k/\(∀r∈rows,An8 kl heads.length vals.length r)/\(num=true->∀r∈rows,∀c∈r.2,∀vs,c=some vs->∀v∈vs,∃i,v=Vl.int i))
  ⟨ds,o8,o9,_,_,_,_,[],rfl,aB _,hb,h8,h9,rfl,(fun r hr=>by cases hr),fun _ r hr=>by cases hr⟩ (fun k d c hd hP=>by
   rw[aY]at hP ⊢;obtain⟨d1,p8,p9,y12,y13,y14,y15,rows,rfl,hk0,b1,h8,⟨o,rfl,ho⟩,hr,hro,hnum⟩:=hP;obtain⟨t,ht,e⟩:=Hs hd;subst e;have hk:k<parts.length:=(bh.mp ht).1
   obtain⟨cells,d2,q8,z14,z15,cl,cc,cn,b2,g8,e2⟩:=Bi1 (num:=num) (s2:=s2) (s3:=s3) (s4:=s4) (s5:=s5) (s6:=s6) (s7:=s7) (o8:=p8) (o9:=some (.im (.list (heads.map tD)))) (s11:=some (.ls false (rows.map Ck))) (s12:=some (.im (tD t))) (x14:=y14) (x15:=y15) (heads:=heads) b1 (by omega) h0 h1 hv hh h8
   have rl:rows.length=k:=by have:=bG List.length hr;rw[ak,cH]at this;exact this.trans (dJ hk0)
   refine⟨[some (.ls true d2),some (.im (.bool num)),s2,s3,s4,s5,s6,s7,q8,some (.im (.list (heads.map tD))),some (.im (.int often)),some (.ls false ((rows++[(t,cells)]).map Ck)),some (.im (tD t)),some (.ls false (cells.map Dr)),z14,z15],.inl ?_,d2,q8,_,_,_,_,_,rows++[(t,cells)],rfl,hk,b2.mono (by omega),g8,⟨_,rfl,.inr rfl⟩,?_,fun r h=>?_,fun z r h=>?_⟩
   ·have en:(rows.map Ck).length<16000000:=by rw[ak,rl];exact aA hk (ao hp (by decide))
    rcases ho with rfl | rfl <;> wp_walk using V9,Qf,Bk,e2,Bp,en,bQ,Ck
   ·rw[bQ,hr,aP,fL,List.take_succ,ht];rfl
   ·rcases aX.mp h with h | h
    ·exact hro r h
    ·rw[aG.mp h]
     have:=hpk t (bR ht);exact⟨this.1,this.2,cl,cc⟩
   ·rcases aX.mp h with h | h
    ·exact hnum z r h
    ·rw[aG.mp h];exact cn z)
 obtain⟨c',e,d1,p8,p9,y12,y13,y14,y15,rows,rfl,_,b1,h8,h9,hr,hro,hnum⟩:=loop;rw[aY,ak]at b1 hr;rw[e_]at hr;exact⟨rows,d1,p8,p9,y12,y13,y14,y15,hr,hro,hnum,b1,h8,h9,e⟩
theorem Mi {ns:v4}{a:Nat}:(ns.map PyData.str).take a=(ns.take a).map PyData.str:=List.map_take.symm
theorem Rv {ns:v4}{a:Nat}:(ns.map PyData.str).drop a=(ns.drop a).map PyData.str:=List.map_drop.symm
theorem Names.sublist {a b:v4}(h:Names b)(s:a.Sublist b):Names a:=⟨h.nd.sublist s,fun x c=>h.sub x (s.subset c)⟩
theorem A6v {o:O}{ds:w5}{i:Nat}{c:Ev}(h:isL o ds)(hc:c[i]?=some (some o)):cUn Bp (Ac i) c=.ok (.o (.im (.tuple ds))) c:=by
 rcases h with rfl | rfl <;> wp_walk using hc,Bp
theorem B3o {b d e f g:o7}{c:Ev}{h a j k i:t6}(h1:b c=.ok (.o (.im h)) c)(h2:d c=.ok (.o (.im a)) c)(m:e c=.ok (.o (.im j)) c)(n:f c=.ok (.o (.im k)) c)(l:g c=.ok (.o (.im i)) c) :
 Cg (Eh (Ad b (Ad d (Ad e (Ad f (Ad g Al)))))) c=.rt (.o (.im (.tuple [h,a,j,k,i]))) c:=by
 wp_walk using h1,h2,m,n,l
theorem Ba7 {n:Nat}{ds:w5}{num:Bool}(hb:Bx n ds)(hn:n<2 ^ 35) :
 ∃(W:Wd) (ds':w5),W.Ok/\(num=true->W.Num)/\Bx (n+3000) ds'/\Oh [.ls true ds,.im (.bool num)]=.ret (.im W.d) [.ls true ds',.im (.bool num)]:=by
 have u:∀k,k<=5000->n+k<2 ^ 40:=fun k F=>aA (eG hn F) (by decide)
 have K:∀k,k<=5000->n+k<2 ^ 39:=fun k F=>aA (eG hn F) (by decide)
 have J:∀k,k<=5000->n+k<2 ^ 37:=fun k F=>aA (eG hn F) (by decide)
 have V:∀k,k<=5000->n+k<2 ^ 36:=fun k F=>aA (eG hn F) (by decide)
 obtain⟨o,d1,L,nms,b1,X⟩:=A7q (m:=9) hb (cZ hn (by decide)) (by decide)
 have X:H9 [.ls true ds,.im (.int 9)]=.ret (.ls false (o.map PyData.str)) [.ls true d1,.im (.int 9)]:=X
 obtain⟨a,d2,b2,a0,a1,e2⟩:=Dk (m:=3) b1 (u 9 (by decide)) (by decide) (by decide)
 obtain⟨b,d3,b3,bb0,T,e3⟩:=Dk (m:=3) b2 (u 10 (by decide)) (by decide) (by decide)
 obtain⟨c,d4,b4,c0,c1,e4⟩:=Dk (m:=2) b3 (u 11 (by decide)) (by decide) (by decide)
 obtain⟨q,d5,b5,q0,q1,e5⟩:=Dk (m:=8) b4 (u 12 (by decide)) (by decide) (by decide)
 obtain⟨a,rfl⟩:=dw a0;obtain⟨b,rfl⟩:=dw bb0;have G:a<=2:=fM.mp (Int.le_of_lt_add_one a1);have y:b<=2:=fM.mp (Int.le_of_lt_add_one T)
 have hc:∃(v:Nat) (E:w5),1<=v/\v<=5/\Bx (n+14) E /\
  cIf (Bf (cOp (Dd false) (cF Ao (Ad (Ac 0) (Ad (cC (.int 8)) Al))) (cC (.int 0)))) (Ef (cOp Ci (cC (.int 3)) (cF Ao (Ad (Ac 0) (Ad (cC (.int 3)) Al)))) (cgN 5)) Df
   [some (.ls true d4),some (.im (.bool num)),some (.ls false (o.map PyData.str)),some (.im (.int a)),some (.im (.int b)),some (.im (.int (1+c))),none,none,none,none,none,none,none,none,none,none] =
  .nx [some (.ls true E),some (.im (.bool num)),some (.ls false (o.map PyData.str)),some (.im (.int a)),some (.im (.int b)),some (.im (.int (v:Int))),none,none,none,none,none,none,none,none,none,none]:=by
  by_cases z:q=0
  ·subst z
   obtain⟨k,E,Z,k0,k1,e6⟩:=Dk (m:=3) b5 (u 13 (by decide)) (by decide) (by decide)
   refine⟨(3+k).toNat,E,by omega,by omega,Z.mono (aj _),?_⟩
   wp_walk using e5,e6,Dd,Dp,PyData.canLay0,PyData.depth,PyData.eqv,aB,bK,Ci,Int.toNat_of_nonneg (show 0<=3+k by omega)
  ·refine⟨(1+c).toNat,d5,by omega,by omega,b5.mono (dO _),?_⟩
   wp_walk using e5,Dd,Dp,PyData.canLay0,PyData.depth,PyData.eqv,aB,cQ.mpr z,Int.toNat_of_nonneg (show 0<=1+c by omega)
 obtain⟨v,E,v1,v5,Z,e6⟩:=hc
 obtain⟨S,d7,b7,m10,m11,e7⟩:=Ax2 (l:=0) (f:=5) (m:=12) Z (K 14 (by decide)) (by decide) (by decide) (by decide) (by decide) (by decide) (by decide)
 obtain⟨S,rfl⟩:=dw m10;have D:S<=12:=fM.mp m11
 obtain⟨d,d8,hnd,hh,hl,b8,e8⟩:=Yx (w:=b) (m:=S) b7 (J 16 (by decide)) (ao y (by decide)) (ao D (by decide))
 obtain⟨f,d9,b9,f0,f1,e9⟩:=Dk (m:=3) (b8.mono (m:=n+52) (bw (show b*S<=24 from Nat.mul_le_mul y D) (n+28))) (u 52 (by decide)) (by decide) (by decide)
 obtain⟨fo,hfo,M,_⟩:=Ti (l:=[PyData.int 9,.int 2,.int 3]) (r:=f) f0 f1
 have hof:∃i:Int,fo=.int i/\0<i/\i<1000:=by
  simp only[az,bj,bx]at M
  rcases M with rfl | rfl | rfl <;> exact⟨_,rfl,by decide,by decide⟩
 obtain⟨i,rfl,U,of1⟩:=hof
 obtain⟨R,d10,b10,m20,m21,Y⟩:=Ax2 (l:=0) (f:=5) (m:=12) b9 (K 53 (by decide)) (by decide) (by decide) (by decide) (by decide) (by decide) (by decide)
 obtain⟨R,rfl⟩:=dw m20;have B:R<=12:=fM.mp m21
 obtain⟨s,d11,pnd,hp,pl,b11,e11⟩:=Yx (w:=a) (m:=R) b10 (J 55 (by decide)) (ao G (by decide)) (ao B (by decide))
 have x:s.length<=12:=ao pl B;have A:d.length<=12:=ao hl D;have I:a+b<=4:=Nat.add_le_add G y;have O:a+b+v<=9:=Nat.add_le_add I v5
 let j:=o.take a
 let g:=(o.drop a).take b
 let e:=(o.drop (a+b)).take v
 have kl:j.length=a:=by show (o.take a).length=a;rw[cH,L];exact dJ (ao G (by decide))
 have ol:g.length=b:=by show ((o.drop a).take b).length=b;rw[cH,eQ,L];exact dJ (Nat.le_sub_of_add_le (ao (Nat.add_le_add y G) (by decide)))
 have vl:e.length=v:=by show ((o.drop (a+b)).take v).length=v;rw[cH,eQ,L];exact dJ (Nat.le_sub_of_add_le (Nat.add_comm v (a+b)▸O))
 have C:j++g++e=o.take (a+b+v):=by
  show o.take a++(o.drop a).take b++(o.drop (a+b)).take v=_
  rw[<- List.take_add,<- List.take_add]
 have c1:cutD (o.map PyData.str) none (some (a:Int))=j.map PyData.str:=by rw[Bp3,Mi]
 have c2:cutD (o.map PyData.str) (some (a:Int)) (some ((a:Int)+(b:Int)))=g.map PyData.str:=by
  rw[<- Int.natCast_add,A8u (c7 _ _) (by rw[ak,L];exact ao I (by decide)),Rv,Mi,Nat.add_sub_cancel_left]
 have c3:cutD (o.map PyData.str) (some ((a:Int)+(b:Int))) (some ((a:Int)+(b:Int)+(v:Int)))=e.map PyData.str:=by
  rw[<- Int.natCast_add,<- Int.natCast_add,A8u (c7 _ _) (by rw[ak,L];exact O),Rv,Mi,Nat.add_sub_cancel_left]
 obtain⟨t,N,p8,p9,y12,y13,y14,y15,hr,hro,P,b12,⟨o8,rfl,g8⟩,⟨o9,rfl,g9⟩,e12⟩:=A6o (num:=num) (s2:=some (.ls false (o.map PyData.str))) (s3:=some (.im (.int a))) (s4:=some (.im (.int b))) (s5:=some (.im (.int v))) (s6:=some (.im (.list (j.map PyData.str)))) (s7:=some (.im (.list (g.map PyData.str)))) (o8:=some (.ls false (e.map PyData.str))) (o9:=some (.ls false (d.map tD))) (often:=i) (vals:=e.map PyData.str) (heads:=d) (parts:=s) (b11.mono (m:=n+91) (bw (show a*R<=24 from Nat.mul_le_mul G B) (n+67))) (V 91 (by decide)) U of1 (by rw[ak,vl];exact v5) A x ⟨_,rfl,.inl rfl⟩ ⟨_,rfl,.inl rfl⟩ (x12:=none) (x13:=none) (x14:=none) (x15:=none) (kl:=a) hp
 have Q:Names (j++g++e):=by rw[C];exact nms.sublist (fU _ _)
 refine⟨⟨j,g,e,d,t⟩,N,⟨Q,by rw[kl];exact G,by rw[ol];exact y,by rw[vl];exact v5,by rw[vl];exact v1,fun h H=>⟨by rw[ol];exact(hh h H).1,(hh h H).2⟩,hnd,A,fun r h=>?_,by show (t.map (·.1)).Nodup;rw[hr];exact pnd,?_⟩,P,b12.mono (ao (bw (b_ 132 x) (n+91)) (bw (show 91+132*12<=3000 by decide) n)),?_⟩
 ·have:=hro r h
  rw[ak]at this
  show An8 j.length d.length e.length r
  rw[kl];exact this
 ·show t.length<=12
  have:=bG List.length hr;rw[ak]at this;exact ao (dR this) x
 refine Rz (p:=.o (.im (Wd.d ⟨j,g,e,d,t⟩))) (c:=[some (.ls true N),some (.im (.bool num)),some (.ls false (o.map PyData.str)),some (.im (.int a)),some (.im (.int b)),some (.im (.int v)),some (.im (.list (j.map PyData.str))),some (.im (.list (g.map PyData.str))),some o8,some o9,some (.im (.int i)),some (.ls false (t.map Ck)),y12,y13,y14,y15]) ?_ rfl (by wp_walk using bL)
 show S9 [some (.ls true ds),some (.im (.bool num)),none,none,none,none,none,none,none,none,none,none,none,none,none,none]=_
 unfold S9
 refine (Dl (c':=[some (.ls true d1),some (.im (.bool num)),some (.ls false (o.map PyData.str)),none,none,none,none,none,none,none,none,none,none,none,none,none]) (by wp_walk using X)).trans ?_
 refine (Dl (c':=[some (.ls true d4),some (.im (.bool num)),some (.ls false (o.map PyData.str)),some (.im (.int a)),some (.im (.int b)),some (.im (.int (1+c))),none,none,none,none,none,none,none,none,none,none]) (by wp_walk using e2,e3,e4,Ci)).trans ?_
 refine (Dl e6).trans ?_
 refine (Dl (c':=[some (.ls true E),some (.im (.bool num)),some (.ls false (o.map PyData.str)),some (.im (.int a)),some (.im (.int b)),some (.im (.int v)),some (.im (.list (j.map PyData.str))),some (.im (.list (g.map PyData.str))),none,none,none,none,none,none,none,none]) (by wp_walk using M7,Ci,c1,c2)).trans ?_
 refine (Dl (c':=[some (.ls true E),some (.im (.bool num)),some (.ls false (o.map PyData.str)),some (.im (.int a)),some (.im (.int b)),some (.im (.int v)),some (.im (.list (j.map PyData.str))),some (.im (.list (g.map PyData.str))),some (.ls false (e.map PyData.str)),none,none,none,none,none,none,none]) (by wp_walk using M7,Ci,c3)).trans ?_
 refine (Dl (c':=[some (.ls true d8),some (.im (.bool num)),some (.ls false (o.map PyData.str)),some (.im (.int a)),some (.im (.int b)),some (.im (.int v)),some (.im (.list (j.map PyData.str))),some (.im (.list (g.map PyData.str))),some (.ls false (e.map PyData.str)),some (.ls false (d.map tD)),none,none,none,none,none,none]) (by wp_walk using e7,e8)).trans ?_
 refine (Dl (c':=[some (.ls true d9),some (.im (.bool num)),some (.ls false (o.map PyData.str)),some (.im (.int a)),some (.im (.int b)),some (.im (.int v)),some (.im (.list (j.map PyData.str))),some (.im (.list (g.map PyData.str))),some (.ls false (e.map PyData.str)),some (.ls false (d.map tD)),some (.im (.int i)),none,none,none,none,none]) (by wp_walk using e9,Ar,hfo)).trans ?_
 refine (Dl (c':=[some (.ls true d9),some (.im (.bool num)),some (.ls false (o.map PyData.str)),some (.im (.int a)),some (.im (.int b)),some (.im (.int v)),some (.im (.list (j.map PyData.str))),some (.im (.list (g.map PyData.str))),some (.ls false (e.map PyData.str)),some (.ls false (d.map tD)),some (.im (.int i)),some (.ls false []),none,none,none,none]) (by wp_walk using bL)).trans ?_
 refine (Dl ((Vi (ds:=s.map tD) (c1:=[some (.ls true d11),some (.im (.bool num)),some (.ls false (o.map PyData.str)),some (.im (.int a)),some (.im (.int b)),some (.im (.int v)),some (.im (.list (j.map PyData.str))),some (.im (.list (g.map PyData.str))),some (.ls false (e.map PyData.str)),some (.ls false (d.map tD)),some (.im (.int i)),some (.ls false []),none,none,none,none]) (by wp_walk using Bk,Y,e11)).trans e12)).trans ?_
 exact B3o (A6v (.inr rfl) rfl) (A6v (.inr rfl) rfl) (A6v g8 rfl) (A6v g9 rfl) (A6v (.inl rfl) rfl)
theorem A6e {n:Nat}:(List.replicate n true).all id=true:=by simp
theorem Uu:∀n:Nat,boolsOf (List.replicate n (PyData.bool true))=some (List.replicate n true)
 | 0=>rfl
 | n+1=>by rw[List.replicate_succ,List.replicate_succ];show (boolsOf (List.replicate n (PyData.bool true))).map (true::·)=_;rw[Uu n];rfl
theorem O9 {neg:Bool}{a b:t6}(ha:Dp a=true)(hb:Dp b=true):Dd neg a b=some (.im (.bool (if neg then !PyData.eqv a b else PyData.eqv a b))):=by unfold Dd;grind
theorem Bi9 {ds:w5}{x:t6}(h:x∈U6 ds ds):∃d∈ds,x=.tuple [d,d]:=by
 obtain⟨⟨a,b⟩,f,c⟩:=au.mp h;obtain⟨i,g,e⟩:=List.getElem_of_mem f
 grind
theorem Ax3 {d:t6}:∀{ds:w5},d∈ds->d.depth<=PyData.depthAll ds
 | a::r,h=>by
  show d.depth<=max a.depth (PyData.depthAll r)
  rcases az.mp h with rfl | h
  ·exact Nat.le_max_left _ _
  ·exact ao (Ax3 h) (Nat.le_max_right _ _)
theorem Ay2 {d:t6}:∀{ds:w5},d∈ds->PyData.canLayAll0 ds=true->d.canLay0=true
 | a::r,h,l=>by
  obtain⟨l1,l2⟩:=aq.mp (show (a.canLay0&&PyData.canLayAll0 r)=true from l)
  rcases az.mp h with rfl | h
  ·exact l1
  ·exact Ay2 h l2
def Short:Nat->t6->Prop
 | 0,_=>True
 | _+1,.list _=>False
 | n+1,.tuple ds=>ds.length<=16000000/\∀d∈ds,Short n d
 | _+1,_=>True
theorem A4n:∀ds:w5,2*ds.length<=Lf ds
 | []=>aj _
 | d::r=>by have:=A4n r;show 2*(r.length+1)<=wt d+2+Lf r;omega
theorem A7d {d:t6}:∀{ds:w5},d∈ds->wt d<=Lf ds
 | a::r,h=>by
  show wt d<=wt a+2+Lf r
  rcases az.mp h with rfl | h
  ·exact ao (c7 _ 2) (c7 _ _)
  ·exact ao (A7d h) (Nat.le_add_left _ _)
theorem Ad6:∀vs:m7,Ud (vs.map Vl.d)=true
 | []=>rfl
 | v::vs=>by
  show (noL v.d&&Ud (vs.map Vl.d))=true
  rw[Ad6 vs]
  cases v <;> rfl
theorem Rc:∀a:v4,Ud (a.map PyData.str)=true
 | []=>rfl
 | x::a=>by show (true&&Ud (a.map PyData.str))=true;rw[Rc a];rfl
theorem Ri {ds:w5}(h:∀d∈ds,noL d=true):Ud ds=true:=by
 induction ds with
 | nil=>rfl
 | cons d r a=>show (noL d&&Ud r)=true;grind
theorem A0f {d:t6}:∀{ds:w5},d∈ds->Ud ds=true->noL d=true
 | a::r,h,l=>by
  obtain⟨l1,l2⟩:=aq.mp (show (noL a&&Ud r)=true from l)
  rcases az.mp h with rfl | h
  ·exact l1
  ·exact A0f h l2
theorem B2q (w:Wd):noL w.d=true:=by
 refine Ri fun d a=>?_
 simp only[Wd.ps,az,bj,bx]at a
 rcases a with rfl | rfl | rfl | rfl | rfl
 ·exact Rc _
 ·exact Rc _
 ·exact Rc _
 ·exact Ri fun d a=>by obtain⟨r,_,rfl⟩:=au.mp a;exact Ad6 r
 ·refine Ri fun d a=>?_
  obtain⟨r,_,rfl⟩:=au.mp a
  show (noL _&&(Ud _&&true))=true
  rw[show noL (tD _)=true from Ad6 _,Ri fun d a=>by
   obtain⟨c,_,rfl⟩:=au.mp a
   cases c with
   | none=>rfl
   | some vs=>exact Ad6 _];rfl
theorem A9g (n:Nat):∀(d:t6),wt d<=16000000->noL d=true->Short n d:=by
 induction n with
 | zero=>intro d _ _;trivial
 | succ n c =>
  intro d h b
  cases d with
  | tuple e =>
   have h  := ao (c7 _ 4) h
   exact⟨ao (ao (Nat.le_mul_of_pos_left _ (by decide)) (A4n _)) h,fun d a=>c d (ao (A7d a) h) (A0f a b)⟩
  | list e=>cases b
  | _=>trivial
theorem A0n:∀(n:Nat) (d:t6),d.depth<n->n<=40->d.canLay0=true->Short n d->Cz n [.im d,.im d]=.ret (.im (.bool true)) [.im d,.im d]
 | 0,d,h,_,_,_=>absurd h (cD _)
 | n+1,d,h,hn,hl,hs=>by
  have fb:∀b:Bool,Dp (.bool b)=true:=fun b=>rfl
  have fl:Dp d=true:=by unfold Dp;rw[hl,aD (show d.depth<=40 from ao (dX h) (dD hn))];rfl
  have fi:∀k:Nat,Dp (.int (k:Int))=true:=fun k=>rfl
  have loop:∀ds:w5,(∀e∈ds,Cz n [.im e,.im e]=.ret (.im (.bool true)) [.im e,.im e])->∃c',Fb (cgT 2 (Bo (cgN 0) (Bo (cgN 1) Fl))) Bd (cF (Cz n) (Ad (Ac 0) (Ad (Ac 1) Al))) (U6 ds ds) [] [none,none]=.ok ((U6 ds ds).map fun _=>.bool true) c'/\∃a b,c'=[a,b]:=fun ds hds=>by
   have:=A2t (g:=cgT 2 (Bo (cgN 0) (Bo (cgN 1) Fl))) (ft:=Bd) (fe:=cF (Cz n) (Ad (Ac 0) (Ad (Ac 1) Al))) (I:=fun c=>∃a b,c=[a,b]) (F:=fun _=>.bool true) (items:=U6 ds ds) (acc:=[]) (c:=[none,none]) ⟨none,none,rfl⟩ (fun x c hx ⟨a,b,hc⟩=>by
    subst hc;obtain⟨e,he,rfl⟩:=Bi9 hx
    refine⟨[some (.im e),some (.im e)],?_,_,_,rfl⟩
    wp_walk using hds e he)
   simpa using this
  have fin:∀ds:w5,(U6 ds ds).map (fun _=>PyData.bool true)=List.replicate ds.length (.bool true):=fun ds=>by
   rw[List.map_const'];unfold U6;rw[ak,List.length_zip,Nat.min_self]
  show Eo 2 2 (Ij (Cz n)) _=_
  cases d with
  | none=>wp_walk using Ij,Lx,Cv,Lw,Jf,O9 fl fl,O9 (fb _) (fb _),PyData.eqv,bK
  | bool b=>wp_walk using Ij,Lx,Cv,Lw,Jf,O9 fl fl,O9 (fb _) (fb _),PyData.eqv,bK
  | int i=>wp_walk using Ij,Lx,Cv,Lw,Jf,O9 fl fl,O9 (fb _) (fb _),PyData.eqv,bK
  | str x=>wp_walk using Ij,Lx,Cv,Lw,Jf,O9 fl fl,O9 (fb _) (fb _),PyData.eqv,bK
  | dict k=>cases hl
  | list ds=>exact hs.elim
  | tuple ds =>
   have hd:∀e∈ds,Cz n [.im e,.im e]=.ret (.im (.bool true)) [.im e,.im e]:=fun e he=>A0n n e (aQ (Ax3 he) (fD h)) (dD hn) (Ay2 he hl) (hs.2 e he)
   obtain⟨c',e1,a,b,rfl⟩:=loop ds hd;rw[fin]at e1
   have e2:cLC [none,none] (Bh7 (Ac 0) (Ac 1)) (cgT 2 (Bo (cgN 0) (Bo (cgN 1) Fl))) Bd (cF (Cz n) (Ad (Ac 0) (Ad (Ac 1) Al))) [some (.im (.tuple ds)),some (.im (.tuple ds))]=.ok (.o (.ls false (List.replicate ds.length (.bool true)))) [some (.im (.tuple ds)),some (.im (.tuple ds))] :=
    Ei (ds:=U6 ds ds) (c1:=[some (.im (.tuple ds)),some (.im (.tuple ds))]) (by wp_walk using Bh7,O5) (by unfold U6;rw[ak,List.length_zip,Nat.min_self];exact hs.1) e1 rfl
   wp_walk using Ij,Lx,Cv,Lw,O9 (fb _) (fb _),Ht,O9 (fi _) (fi _),PyData.eqv,bK,e2,Kf,Uu,A6e
theorem A3f {n:Nat}{d:t6}{k w:Nat}(h:Good d k w)(hk:k<n)(hn:n<=40)(hw:w<=16000000)(hl:noL d=true):Cz n [.im d,.im d]=.ret (.im (.bool true)) [.im d,.im d] :=
 A0n n d (aQ h.dep hk) hn h.lay (A9g n d (ao h.wgt hw) hl)
theorem A1f {x:Str}(h:x∈names12):Good (.str x) 0 1921:=by
 have:VB (.str x):=by
  simp only[names12,az,bj,bx]at h
  rcases h with rfl | rfl | rfl | rfl | rfl | rfl | rfl | rfl | rfl | rfl | rfl | rfl <;> decide
 exact Hm this
theorem Z9 {ns:v4}{k:Nat}(h:∀x∈ns,x∈names12)(hk:ns.length<=k):Good (nD ns) 1 (1923*k+4) :=
 Good.tup (fun d a=>by obtain⟨v,b,rfl⟩:=au.mp a;exact A1f (h v b)) (by simp_all)
theorem Ar9 {c:Option (m7)}{v:Nat}(h:Vp v c)(hv:v<=5):Good (Dr c) 1 9619:=by
 cases c with
 | none=>exact⟨rfl,rfl,rfl,aB _,by decide⟩
 | some a=>exact(G5 (h _ rfl).2 (show a.length<=5 by rw[(h _ rfl).1];grind)).mono (aj _) (by decide)
theorem A3n {k n v:Nat}{r:List Vl×List (Option (m7))}(h:An8 k n v r)(hk:k<=2)(hn:n<=12)(hv:v<=5):Good (Ck r) 3 250000:=by
 have a:Good _ 2 115460:=(G5 h.part (by rw[h.plen];omega)).mono (by decide) (by decide)
 have b:Good _ 2 115460:=(Good.tup    (fun d e=>by obtain⟨c,f,rfl⟩:=au.mp e;exact Ar9 (h.cells c f) hv) (by rw[ak,h.clen];omega)).mono (by decide) (by decide)
 have t:=Good.tup (ds:=[tD r.1,.tuple (r.2.map Dr)]) (n:=2) (w:=115460) (k:=2) fun d e=>by
  grind (aj _)
 exact t.mono (by decide) (by decide)
theorem Wd.good5 {w:Wd}(h:w.Ok):Good w.d 5 15500014:=by
 have f  := fun x a=>h.nms.sub x (bN _ (bN _ a))
 have g  := fun x a=>h.nms.sub x (bN _ (aJ _ a))
 have a1:=(Z9 f h.klen).mono (show 1<=4 by decide) (show 1923*2+4<=3100000 by decide)
 have a2:=(Z9 g h.nlen).mono (show 1<=4 by decide) (show 1923*2+4<=3100000 by decide)
 have a3:=(Z9 (fun x a=>h.nms.sub x (aJ _ a)) h.vlen).mono (show 1<=4 by decide) (show 1923*5+4<=3100000 by decide)
 have a4:Good _ 4 3100000:=(Good.tup    (fun d b=>by obtain⟨c,e,rfl⟩:=au.mp b;exact G5 (h.heads c e).2 (by rw[(h.heads c e).1];exact h.nlen)) (by simpa using h.hlen)).mono (by decide) (by decide)
 have a5:Good _ 4 3100000:=(Good.tup    (fun d b=>by obtain⟨c,e,rfl⟩:=au.mp b;exact A3n (h.rows c e) h.klen h.hlen h.vlen) (by simpa using h.rlen)).mono (by decide) (by decide)
 have t:=Good.tup (ds:=w.ps) (n:=4) (w:=3100000)  (fun d b=>by
  simp only[Wd.ps,bj]at b
  grind) (aj _)
 assumption
theorem Wd.good {w:Wd}(h:w.Ok):Good w.d 5 16000000:=(Wd.good5 h).mono (by decide) (by decide)
def vlt:Vl->Vl->Bool
 | .non,.non=>false
 | .non,_=>true
 | .int i,.int j=>decide (i<j)
 | .int _,.str _=>true
 | .str x,.str y=>decide (x.cps.toList<y.cps.toList)
 | _,_=>false
def Gs:Vl->t6
 | .non=>.tuple [.int 0,.int 0]
 | .int i=>.tuple [.int 1,.int i]
 | .str x=>.tuple [.int 2,.str x]
theorem Bd7 {v:Vl}{k:Nat}:Gm (k+1) [.im v.d]=.ret (.im (Gs v)) [.im v.d]:=by
 cases v with
 | non=>rfl
 | int i=>rfl
 | str x=>trivial
theorem Br9 (l:List Nat):¬ l<l:=List.lt_irrefl l
theorem A7a (a b:Vl):Nv false (Gs a) (Gs b)=some (vlt a b):=by
 cases a with
 | non=>cases b <;> rfl
 | int i=>
  cases b with
   | non=>rfl
   | int j =>
    show (if (i==j)=true then some _ else some _)=some (decide _)
    simp_all
   | str y=>rfl
 | str x=>
  cases b with
   | non=>rfl
   | int j=>rfl
   | str y =>
    show (if (x==y)=true then some _ else some _)=some (decide _)
    simp_all
theorem Ba4 {x y:Str}(h:x.cps.toList=y.cps.toList):x=y:=by
 obtain⟨a⟩:=x
 simp_all
theorem Bi4 (a:Vl):vlt a a=false:=by
 cases a with
 | non=>rfl
 | int i=>exact aK (by omega)
 | str x=>exact aK (Br9 _)
theorem Bp4 {a b c:Vl}(h:vlt a b=true)(k:vlt b c=true):vlt a c=true:=by
 cases a with
 | non=>
  cases b with
   | non=>grind
   | int j=>
    cases c with
     | non=>cases k
     | int l=>rfl
     | str z=>rfl
   | str y=>
    cases c with
     | non=>cases k
     | int l=>rfl
     | str z=>rfl
 | int i=>
  cases b with
   | non=>cases h
   | int j=>
    cases c with
     | non=>cases k
     | int l=>exact aD (Int.lt_trans (aL h) (aL k))
     | str z=>rfl
   | str y=>
    cases c with
     | non=>cases k
     | int l=>cases k
     | str z=>rfl
 | str x=>
  cases b with
   | non=>cases h
   | int j=>cases h
   | str y=>
    cases c with
     | non=>cases k
     | int l=>cases k
     | str z=>exact aD (List.lt_trans (aL h) (aL k))
theorem Bb4 (a b:Vl):vlt a b=true\/a=b\/vlt b a=true:=by
 cases a with
 | non=>
  cases b with
   | non=>grind
   | int j=>exact .inl rfl
   | str y=>exact .inl rfl
 | int i=>
  cases b with
   | non=>exact .inr (.inr rfl)
   | int j =>
    rcases Int.lt_trichotomy i j with h | h | h
    ·exact .inl (aD h)
    ·grind
    ·exact .inr (.inr (aD h))
   | str y=>exact .inl rfl
 | str x=>
  cases b with
   | non=>exact .inr (.inr rfl)
   | int j=>exact .inr (.inr rfl)
   | str y =>
    by_cases h1:x.cps.toList<y.cps.toList
    ·exact .inl (aD h1)
    ·by_cases h2:y.cps.toList<x.cps.toList
     ·exact .inr (.inr (aD h2))
     ·exact .inr (.inl (by rw[Ba4 (List.le_antisymm (List.not_lt.mp h2) (List.not_lt.mp h1))]))
theorem Hu {neg:Bool}{a b:Int}:Dd neg (.int a) (.int b)=some (.im (.bool (if neg then !decide (a=b) else decide (a=b)))):=by
 have e:PyData.eqv (.int a) (.int b)=decide (a=b):=by
  show (a==b)=_
  grind
 unfold Dd
 rw[show Dp _=true from rfl,show Dp _=true from rfl,e]
 simp
abbrev VG (v:Vl):Prop:=Good v.d 0 1921
abbrev VGs (vs:m7):Prop:=∀v∈vs,VG v
theorem A6a {vs:m7}{k:Nat}(h:VGs vs)(hk:vs.length<=k):Good (tD vs) 1 (1923*k+4) :=
 Good.tup fun d a=>by
  grind (by simp_all)
def rlt:m7->m7->Bool
 | [],[]=>false
 | [],_::_=>true
 | _::_,[]=>false
 | x::xs,y::ys=>if x=y then rlt xs ys else vlt x y
theorem Ae4:∀a:m7,rlt a a=false
 | []=>rfl
 | x::xs=>by rw[rlt,if_pos rfl];exact Ae4 xs
theorem As4:∀{a b c:m7},rlt a b=true->rlt b c=true->rlt a c=true
 | [],[],c,h,k=>nomatch h
 | [],_::_,[],h,k=>nomatch k
 | [],_::_,_::_,h,k=>rfl
 | _::_,[],c,h,k=>nomatch h
 | _::_,_::_,[],h,k=>nomatch k
 | x::xs,y::ys,z::zs,h,k=>by
  rw[rlt]at h k ⊢
  by_cases e1:x=y
  ·subst e1
   rw[if_pos rfl]at h
   by_cases e2:x=z
   ·rw[if_pos e2]at k ⊢;exact As4 h k
   ·rw[if_neg e2]at k ⊢;exact k
  ·rw[if_neg e1]at h
   by_cases e2:y=z
   ·subst e2;rw[if_neg e1];exact h
   ·rw[if_neg e2]at k
    have q:=Bp4 h k
    rw[if_neg (fun e=>by subst e;rw[Bi4]at q;cases q)]
    exact q
theorem Ax7:∀a b:m7,rlt a b=true\/a=b\/rlt b a=true
 | [],[]=>.inr (.inl rfl)
 | [],_::_=>.inl rfl
 | _::_,[]=>.inr (.inr rfl)
 | x::xs,y::ys=>by
  rw[rlt,rlt]
  by_cases e:x=y
  ·subst e
   rw[if_pos rfl,if_pos rfl]
   rcases Ax7 xs ys with h | h | h
   ·exact .inl h
   ·exact .inr (.inl (by rw[h]))
   ·exact .inr (.inr h)
  ·rw[if_neg e,if_neg (fun z=>e z.symm)]
   rcases Bb4 x y with h | h | h
   ·exact .inl h
   ·exact absurd h e
   ·exact .inr (.inr h)
def Rq (r:m7):t6:=.tuple [.int 3,.tuple (r.map Gs)]
theorem A2g {v:Vl}(h:VG v):Good (Gs v) 1 3850:=by
 have q:∀a b ,VG a->VG b->Good (tD [a,b]) 1 3850:=fun a b d e=>A6a (k:=2) fun v c=>by
  grind (by simp)
 cases v with
 | non=>exact q (.int 0) (.int 0) (Hm (by rfl)) (Hm (by rfl))
 | int i=>exact q (.int 1) _ (Hm (by rfl)) h
 | str x=>exact q (.int 2) _ (Hm (by rfl)) h
theorem Ao5 {r:m7}(h:VGs r)(hl:r.length<=30):Good (Rq r) 3 300000:=by
 have g1:Good _ 2 (3852*30+4):=Good.tup  (fun d a=>by
  obtain⟨v,b,rfl⟩:=au.mp a
  exact A2g (h v b)) (by simp_all)
 refine (Good.tup (n:=2) (w:=3852*30+4) (k:=2) (fun d a=>?_) (by simp)).mono (by decide) (by decide)
 simp  at a
 rcases a with rfl | rfl
 ·exact(Hm (v:=.int 3) (by rfl)).mono (by decide) (by decide)
 simp_all
theorem Ak1 (a b:Vl):PyData.eqv (Gs a) (Gs b)=decide (a=b):=by
 have c:∀p q e d ,PyData.eqv (tD [p,q]) (tD [e,d])=decide _:=fun p q e d=>Ui _ _
 cases a with
 | non=>
  cases b with
   | non=>rfl
   | int j=>rfl
   | str y=>rfl
 | int i=>
  cases b with
   | non=>rfl
   | int j=>exact(c (.int 1) (.int i) (.int 1) (.int j)).trans (by simp)
   | str y=>rfl
 | str x=>
  cases b with
   | non=>rfl
   | int j=>rfl
   | str y=>exact(c (.int 2) (.str x) (.int 2) (.str y)).trans (by simp)
theorem Zk:∀a b:m7,PyData.eqvAll (a.map Gs) (b.map Gs)=decide (a=b)
 | [],[]=>rfl
 | [],_::_=>rfl
 | _::_,[]=>rfl
 | x::xs,y::ys=>by
  show (PyData.eqv (Gs x) (Gs y)&&PyData.eqvAll (xs.map Gs) (ys.map Gs))=_
  rw[Ak1,Zk xs ys]
  by_cases h:x=y <;> by_cases k:xs=ys <;> simp[h,k]
theorem Af6:∀a b:m7,Rb false (a.map Gs) (b.map Gs)=some (rlt a b)
 | [],[]=>rfl
 | [],_::_=>rfl
 | _::_,[]=>rfl
 | x::xs,y::ys=>by
  show (if PyData.eqv (Gs x) (Gs y)=true then Rb false (xs.map Gs) (ys.map Gs) else Nv false (Gs x) (Gs y))=some (if x=y then rlt xs ys else vlt x y)
  rw[Ak1,Af6 xs ys,A7a]
  by_cases h:x=y
  ·rw[if_pos (aD h),if_pos h]
  ·rw[if_neg (by simp[h]),if_neg h]
theorem Bk3 (a b:m7):Nv false (Rq a) (Rq b)=some (rlt a b):=by
 show (if PyData.eqvAll _ _=true then some _ else Rb _ _ _)=_
 rw[Zk,Af6]
 by_cases h:a=b
 ·subst h;rw[if_pos (by simp),Ae4]
 simp_all
theorem A5s {r:m7}(hl:r.length<=30):Gm 2 [.im (tD r)]=.ret (.im (Rq r)) [.im (tD r)]:=by
 obtain⟨cI,d,u,rfl⟩:=Bv (g:=cgN 0) (ft:=Bd) (fe:=cF (Gm 1) (Ad (Ac 0) Al)) (I:=fun c=>∃u,c=[u]) (f:=Vl.d) (G:=Gs) (xs:=r) (acc:=[]) (c:=[none]) ⟨none,rfl⟩
  (fun v c hv b=>by
   obtain⟨u,rfl⟩:=b
   refine⟨[some (.im v.d)],?_,_,rfl⟩
   wp_walk using Bd7 (v:=v) (k:=0))
 have a:cLC [none] (Bk (Ac 0)) (cgN 0) Bd (cF (Gm 1) (Ad (Ac 0) Al)) [some (.im (tD r))]=.ok (.o (.ls false (r.map Gs))) [some (.im (tD r))]:=by
  refine Ei (ds:=r.map Vl.d) (c1:=[some (.im (tD r))])  ?_ (by rw[ak];omega) (by simpa[cIn] using d) (by wp_walk using bL)
  wp_walk using Bk,tD
 show Eo 1 1 _ _=_
 unfold tD at a ⊢
 wp_walk using A0o,Jf,Cv,Lw,a,Bp,Rq
section
variable {α:Type}[DecidableEq α]
def fnd (x:α):List α->Nat
 | []=>0
 | y::l=>if y=x then 0 else fnd x l+1
theorem Ln {x:α}:∀{l:List α},x∈l->l[fnd x l]?=some x
 | y::l,h=>by
  unfold fnd
  by_cases e:y=x
  ·rw[if_pos e,e];rfl
  ·rw[if_neg e]
   rcases az.mp h with h | h
   ·exact absurd h.symm e
   ·rw[dq];exact Ln h
theorem A9p {x:α}{l:List α}(h:x∈l):fnd x l<l.length:=(bh.mp (Ln h)).1
theorem Qs {x:α}:∀{l:List α}{i:Nat},l.Nodup->l[i]?=some x->fnd x l=i
 | y::l,0,_,h=>by
  have e:y=x:=bU h;unfold fnd;rw[if_pos e]
 | y::l,i+1,nd,h=>by
  rw[dq]at h
  have e:y≠x:=fun z=>(bH.mp nd).1 (z▸bR h)
  unfold fnd;rw[if_neg e,Qs (bH.mp nd).2 h]
theorem Az5 {x y:α}{l:List α}(hx:x∈l)(hy:y∈l)(e:fnd x l=fnd y l):x=y:=by
 have a:=Ln hx;rw[e,Ln hy]at a
 simp_all
theorem Aa3 {x:α}:∀{p q:List α},x∉p->fnd x (p++q)=p.length+fnd x q
 | [],q,_=>by simp
 | y::p,q,h=>by
  have e:y≠x:=fun z=>h (z▸aN)
  rw[gq,aH]
  show (if y=x then 0 else fnd x (p++q)+1)=_
  rw[if_neg e,Aa3 fun z=>h (aW _ z)]
  omega
def firsts (hs:List α):List α->List α->List α
 | _,[]=>[]
 | pre,x::r=>if x∈hs/\x∉pre then x::firsts hs (pre++[x]) r else firsts hs (pre++[x]) r
theorem firsts_mem {hs:List α}{x:α}:∀{pre r:List α},x∈firsts hs pre r↔x∈hs/\x∉pre/\x∈r
 | pre,[]=>by simp[firsts]
 | pre,y::r=>by
  have ih:=firsts_mem (hs:=hs) (x:=x) (pre:=pre++[y]) (r:=r);unfold firsts
  by_cases c:y∈hs/\y∉pre
  ·rw[if_pos c,az,ih]
   by_cases e:x=y
   ·subst e;simp[c.1,c.2]
   ·simp[e]
  ·rw[if_neg c,ih]
   by_cases e:x=y
   ·subst e
    simp only[aX,az,bj,bx,not_or,true_or,and_true,not_true,and_false,false_and]
    constructor
    ·intro h;exact h.elim
    ·intro h;exact c ⟨h.1,h.2⟩
   ·simp[e]
theorem S8 {hs:List α}:∀{pre r:List α},(firsts hs pre r).Pairwise fun a b=>fnd a (pre++r)<fnd b (pre++r)
 | pre,[]=>by simp[firsts]
 | pre,y::r=>by
  have ih:=S8 (hs:=hs) (pre:=pre++[y]) (r:=r);rw[du,List.singleton_append]at ih;unfold firsts
  by_cases c:y∈hs/\y∉pre
  ·rw[if_pos c]
   refine fG.mpr ⟨fun b hb=>?_,ih⟩
   obtain⟨_,h2,_⟩:=firsts_mem.mp hb
   have e1:fnd y (pre++y::r)=pre.length:=by rw[Aa3 c.2];simp[fnd]
   have e2:=Aa3 (q:=r) h2;rw[du,List.singleton_append,a_,bY]at e2;rw[e1,e2];omega
  ·rw[if_neg c];exact ih
theorem A7f {f:α->Nat}:∀{l m:List α},l.Pairwise (fun a b=>f a<f b)->m.Pairwise (fun a b=>f a<f b)->(∀x,x∈l↔x∈m)->l=m
 | [],[],_,_,_=>rfl
 | [],b::m,_,_,h=>absurd ((h b).mpr aN) (by simp)
 | a::l,[],_,_,h=>absurd ((h a).mp aN) (by simp)
 | a::l,b::m,pl,pm,h=>by
  obtain⟨l1,l2⟩:=fG.mp pl;obtain⟨m1,m2⟩:=fG.mp pm
  have e:a=b:=by
   by_cases e:a=b
   ·exact e
   ·have ha:=(az.mp ((h a).mp aN)).resolve_left e
    have hb:=(az.mp ((h b).mpr aN)).resolve_left (aU e);have:=m1 a ha;have:=l1 b hb;omega
  subst e
  rw[A7f l2 m2 fun x=>?_]
  constructor
  ·intro hx
   rcases az.mp ((h x).mp (aW _ hx)) with z | z
   ·have:=l1 x hx;rw[z]at this;omega
   ·exact z
  ·intro hx
   rcases az.mp ((h x).mpr (aW _ hx)) with z | z
   ·have:=m1 x hx;rw[z]at this;omega
   ·exact z
theorem B2w {f:α->Nat}{l:List α}(h:l.Pairwise fun a b=>f a<f b):l.Nodup:=h.imp fun h e=>by grind
def atP (d:α)(l:List α)(p:List Nat):List α:=p.map fun i=>l.getD i d
theorem Js (d:α)(l:List α):atP d l (List.range l.length)=l:=by
 unfold atP;apply List.ext_getElem
 ·simp
 simp_all
theorem Ao3 (d:α)(l:List α)(q:α->Bool):atP d l ((List.range l.length).filter fun k=>q (l.getD k d))=l.filter q:=by
 conv=>rhs;rw[<- Js d l]
 unfold atP;rw[List.filter_map];rfl
theorem A0c {d:α}{l:List α}:∀{xs:List α},(∀x∈xs,x∈l)->atP d l (xs.map fun x=>fnd x l)=xs
 | [],_=>rfl
 | x::xs,h=>by
  have e:=Ln (h x aN)
  have ih:=A0c (d:=d) (l:=l) (xs:=xs) fun y hy=>h y (aW _ hy)
  unfold atP at ih ⊢;rw[aP,aP,ih,bO,e];rfl
theorem Bj6 {d:α}{l:List α}{p q:List Nat}:atP d l (p++q)=atP d l p++atP d l q:=by unfold atP;grind
theorem Bj9 {d:α}{l:List α}{p:List Nat}:atP d l p.reverse=(atP d l p).reverse:=by unfold atP;rw[gF]
theorem Ax4 {d:α}{l:List α}{p:List Nat}(h:∀i∈p,i<l.length){x:α}(hx:x∈atP d l p):x∈l:=by
 obtain⟨i,hi,rfl⟩:=au.mp (show x∈p.map _ from hx)
 simp_all
theorem G6 {p:List Nat}{n:Nat}(h:p.Perm (List.range n)):∀i∈p,i<n:=fun i a=>bc.mp (h.mem_iff.mp a)
theorem By4 {d:α}{l:List α}{p:List Nat}(c:l.Nodup)(h:p.Perm (List.range l.length)):(atP d l p).Nodup:=by
 unfold atP;rw[fO,d_]
 refine fH (fun {a b} g i f=>?_) (fO.mp (h.nodup_iff.mpr dY))
 have k:=G6 h a g;have j:=G6 h b i;intro e;have n:=Qs c (bA k);have m:=Qs c (bA j)
 simp_all
def Qx (hs told:List α)(d:α):List Nat:=(firsts hs [] told).map (fun x=>fnd x hs)++(List.range hs.length).filter fun k=>!decide (hs.getD k d∈firsts hs [] told)
theorem Wj {hs told:List α}{d:α}(n:hs.Nodup):(Qx hs told d).Perm (List.range hs.length):=by
 have g:∀x∈firsts _ [] told,x∈hs:=fun x f=>(firsts_mem.mp f).1
 refine (List.perm_ext_iff_of_nodup ?_ dY).mpr fun k=>?_
 ·unfold Qx
  rw[fJ]
  refine⟨?_,List.nodup_range.filter _,fun a j b i e=>?_⟩
  ·rw[fO,d_]
   refine fH (fun {a b} j i l e=>l (Az5 (g a j) (g b i) e)) (fO.mp (B2w (S8 (hs:=hs) (pre:=[]) (r:=told))))
  ·subst e
   obtain⟨x,f,rfl⟩:=au.mp j;have:=(cU.mp i).2;rw[bO,Ln (g x f)]at this
   simp[f]at this
 ·unfold Qx
  rw[aX,List.mem_map,List.mem_filter,bc]
  constructor
  ·rintro (⟨x,f,rfl⟩ | ⟨h,_⟩)
   ·exact A9p (g x f)
   ·exact h
  ·intro m
   by_cases c:hs.getD k d∈firsts hs [] told
   ·refine .inl ⟨_,c,Qs n ?_⟩
    simp[m]
   simp_all
theorem A9n {hs told:List α}{d:α}:atP d hs (Qx hs told d)=firsts hs [] told++hs.filter fun x=>!decide (x∈told):=by
 unfold Qx
 rw[Bj6,A0c fun x a=>(firsts_mem.mp a).1,Ao3 d _ fun x=>!decide _]
 congr 1
 refine List.filter_congr fun x a=>?_
 congr 1
 rw[decide_eq_decide,firsts_mem]
 grind
end
def klt (ks:n_)(i j:Nat):Bool:=rlt (ks.getD i []) (ks.getD j [])
theorem Bh8 (ks:n_):PS.Ord (klt ks):=⟨fun a=>Ae4 _,fun a b c h k=>As4 h k,fun a b c h=>by
 rcases Ax7 _ _ with q | q | q
 ·exact .inl q
 ·exact .inr (by unfold klt at h ⊢;grind)
 ·exact .inr (As4 q h)⟩
theorem range_getD (ds:w5):((List.range ds.length).map fun i=>ds.getD i .none)=ds:=by
 apply List.ext_getElem
 ·simp
 simp_all
theorem A0l {ds ks:w5}{lt:Nat->Nat->Bool}{kd:Kd}(O:PS.Ord lt)(hk:ks.length=ds.length)(h:ds.length<64)(b:0<ks.length->kdOf ks=kd)(hf:∀k∈ks,M5 kd k=true/\Dp k=true)
 (hB:∀i j x y,ks[i]?=some x->ks[j]?=some y->Ba5 kd x y=some (lt i j)) :
 ∃p:List Nat,p.Perm (List.range ds.length)/\p.Pairwise (PS.Rr lt)/\Xy ds ks=some (p.map fun i=>ds.getD i .none):=by
 unfold Xy
 by_cases h2:ds.length<2
 ·rw[if_pos h2]
  refine⟨List.range ds.length,.refl _,?_,?_⟩
  ·rw[fB]
   grind
  ·rw[range_getD]
 ·rw[if_neg h2,b (by omega)]
  have m:(decide (ds.length<64)&&(ks.all (M5 kd)&&ks.all Dp))=true:=by
   simp_all
  rw[if_pos m]
  obtain⟨p,e,o,g,f⟩:=PS.A9y (B:=A2c kd ks) O (n:=ds.length) fun i j l c=>by
   unfold A2c
   grind (by omega)
  rw[e]
  refine⟨p.toList,f,?_,rfl⟩
  rw[fB];intro i j l c a
  have d  := by rw[bV,o]at c;exact c
  have q:=g i j a d
  have r:p.getD i 0=p.toList[i]:=by simp[dW (show i<p.size by omega)]
  simp_all
theorem Aj9 {a:Type}[DecidableEq a](f:a->t6)(d:a)(l:List a){p:List Nat}(h:∀i∈p,i<l.length):(p.map fun i=>(l.map f).getD i .none)=(atP d l p).map f:=by
 unfold atP
 simp_all
structure HK (hs:n_):Prop where
 nd:hs.Nodup
 vb:∀h∈hs,VBs h/\h.length<=4
 len:hs.length<=60
theorem Bi8 {vs:m7}(h:VBs vs):VGs vs:=fun v a=>Hm (h v a)
theorem A1a {hs:n_}:(∀h∈hs,h.length<=4)->Vz (Gm 2) (hs.map tD)=some (hs.map Rq):=by
 induction hs with
 | nil=>intro _;rfl
 | cons h hs c =>
  intro a
  have b:Av1 (Gm 2) (tD h)=some (Rq h):=by unfold Av1;rw[(A5s  (ao (a h (.head _)) (by decide)))];rfl
  show (Av1 _ _).bind _=_
  grind
theorem A8i {hs:n_}(H:HK hs):∃p:List Nat,p.Perm (List.range hs.length)/\p.Pairwise (PS.Rr (klt hs))/\K8 [.im (.tuple (hs.map tD))]=.ret (.ls false ((atP [] hs p).map tD)) [.im (.tuple (hs.map tD))]:=by
 have l:=H.len
 obtain⟨p,d,m,e⟩:=A0l (ds:=hs.map tD) (ks:=hs.map Rq) (kd:=.ti) (Bh8 hs) (by simp_all) (by grind) (fun h0=>by
  cases hs with
  | nil=>trivial
  | cons h hs=>rfl) (fun k g=>by
  obtain⟨h,c,rfl⟩:=au.mp g
  exact⟨rfl,(Ao5 (Bi8 (H.vb h c).1) (ao (H.vb h c).2 (by decide))).flatB (by decide)⟩) (fun i j x y o f=>by
  obtain⟨a,r,rfl⟩:=Hs o;obtain⟨b,q,rfl⟩:=Hs f
  show Nv _ _ (Rq b)=_
  unfold klt
  rw[Bk3,bO,bO,r,q];rfl)
 rw[ak]at d;rw[Aj9 _ [] _ (G6 d)]at e
 refine⟨p,d,m,?_⟩
 have ek:=A1a fun h c=>(H.vb h c).2
 have n:(Vz (Gm 2) (hs.map tD)).bind (Xy (hs.map tD))=some ((atP [] hs p).map tD):=by simp_all
 wp_walk using K8,Al2,Br8,U.O5,n
def isB (o:n7)(b:Bool):Bool:=match o with
 | some (.im (.bool c))=>c==b
 | _=>false
theorem N5 {o:n7}{b:Bool}(h:isB o b=true):o=some (.im (.bool b)):=by
 unfold isB at h
 grind
def sqD (b:Bool)(l:w5):t6:=if b then .tuple l else .list l
theorem Bh2 {c:Ev}{i:Nat}{b:Bool}{l:w5}(h:c[i]?=some (some (.im (sqD b l)))):Bk (Ac i) c=.ok l c:=by
 cases b <;> wp_walk using Bk,h,sqD
def Pa (b:Bool)(ts:n_):t6:=.tuple [.str "told",sqD b (ts.map tD)]
inductive Od where
 | seen | rising | falling
 | told (b:Bool) (ts:n_)
def Od.d:Od->t6
 | .seen=>.str "seen"
 | .rising=>.str "rising"
 | .falling=>.str "falling"
 | .told b ts=>Pa b ts
structure TO' (ts:n_):Prop where
 vb:∀t∈ts,VBs t/\t.length<=4
 len:ts.length<=62
def Od.Ok:Od->Prop
 | .told _ ts=>TO' ts
 | _=>True
theorem Bo0 {t:m7}(h:VBs t/\t.length<=4):Good (tD t) 1 7696:=G5 h.1 h.2
theorem Bb7 {b:Bool}{ts:n_}(h:TO' ts):Good (sqD b (ts.map tD)) 2 480000:=by
 cases b with
 | true=>exact(Good.tup     (fun d a=>by obtain⟨t,c,rfl⟩:=au.mp a;exact Bo0 (h.vb t c)) (by rw[ak];exact h.len)).mono (by decide) (by decide)
 | false=>exact(Good.lst     (fun d a=>by obtain⟨t,c,rfl⟩:=au.mp a;exact Bo0 (h.vb t c)) (by rw[ak];exact h.len)).mono (by decide) (by decide)
theorem Sx (x:String)(h:vb (.str (Str.ofString x))=true):Good (.str (Str.ofString x)) 0 1921:=Hm  h
theorem A2w {b:Bool}{ts:n_}(h:TO' ts):Good (Pa b ts) 3 970000 :=
 (Good.tup  (n:=2) (w:=480000) (k:=2) (fun d a=>by
  simp  at a
  rcases a with rfl | rfl
  ·exact(Sx _ (by trivial)).mono (by decide) (by decide)
  ·exact Bb7 h) (aj _)).mono (by decide) (by decide)
abbrev hT (hs:n_):t6:=.tuple (hs.map tD)
abbrev hL (hs:n_):t6:=.list (hs.map tD)
abbrev pI (p:List Nat):w5:=p.map fun k=>PyData.int (k:Nat)
structure InO (hs:n_) (od:t6) (p:List Nat):Prop where
 pm:p.Perm (List.range hs.length)
 ord:Dm [.im (hT hs),.im od]=.ret (.ls false ((atP [] hs p).map tD)) [.im (hT hs),.im od]
abbrev aS:t6:=.str "seen"
abbrev aR:t6:=.str "rising"
abbrev aF:t6:=.str "falling"
theorem sS:Dd false aS aS=some (.im (.bool true)):=N5 (by decide +kernel)
theorem rS:Dd false aR aS=some (.im (.bool false)):=N5 (by decide +kernel)
theorem rR:Dd false aR aR=some (.im (.bool true)):=N5 (by decide +kernel)
theorem fS:Dd false aF aS=some (.im (.bool false)):=N5 (by decide +kernel)
theorem fR:Dd false aF aR=some (.im (.bool false)):=N5 (by decide +kernel)
theorem fF:Dd false aF aF=some (.im (.bool true)):=N5 (by decide +kernel)
theorem Ax8 (l:n_):Ht [.list (l.map tD)]=some (.im (.int (l.length:Nat))):=by show some _=_;simp_all
theorem Bf4 {hs:n_}:InO hs aS (List.range hs.length):=by
 refine⟨.refl _,?_⟩
 rw[Js]
 wp_walk using Dm,Iu,sS,Wx
theorem Yo {hs:n_}(H:HK hs):∃p,InO hs aR p/\InO hs aF p.reverse:=by
 obtain⟨p,a,b,e⟩:=A8i H
 refine⟨p,⟨a,?_⟩,⟨p.reverse_perm.trans a,?_⟩⟩
 ·wp_walk using Dm,Iu,rS,rR,e
 ·rw[Bj9,gF]
  wp_walk using Dm,Iu,fS,fR,fF,e,Ad3
theorem Ba0 {neg:Bool}{v:m7}{vs:n_}(h:VBs v)(hs:∀u∈vs,VBs u):Li neg (tD v) (.tuple (vs.map tD))=some (.im (.bool (if neg then !decide (v∈vs) else decide (v∈vs)))):=by
 show (if Dp _&&PyData.canLayAll0 _ then some _ else none)=_
 rw[(G5 h (aj _)).flatB (by decide),Qz fun d a=>by obtain⟨u,b,rfl⟩:=au.mp a;exact(G5 (hs u b) (aj _)).lay,Bn7];rfl
theorem B2v {neg b:Bool}{v:m7}{vs:n_}(h:VBs v)(hs:∀u∈vs,VBs u):Li neg (tD v) (sqD b (vs.map tD))=some (.im (.bool (if neg then !decide (v∈vs) else decide (v∈vs)))):=by
 cases b with
 | true=>exact Ba0 h hs
 | false=>exact Au5 h hs
theorem W8 {v:m7}:∀{vs:n_},v∈vs->Ae8 (tD v) (vs.map tD)=some (fnd v vs)
 | u::us,h=>by
  rw[aP]
  show (if PyData.eqv (tD u) (tD v)=true then some 0 else (Ae8 (tD v) (us.map tD)).map (·+1))=_
  unfold fnd;rw[Ui]
  by_cases e:u=v
  ·rw[aD e,if_pos rfl,if_pos e]
  ·rw[aK e,if_neg (by decide),if_neg e,W8 ((az.mp h).resolve_left (aU e))];rfl
theorem Be8 {v:m7}{vs:n_}(hv:v∈vs)(h:∀u∈vs,VBs u)(hl:vs.length<=1000):Aa2 (.list (vs.map tD)) (tD v)=some (.im (.int (fnd v vs:Nat))):=by
 show (if Dp _&&(PyData.canLayAll0 _&&decide _) then (Ae8 _ _).map _ else none)=_
 rw[(G5 (h v hv) (aj _)).flatB (by decide),Qz fun d a=>by obtain⟨u,b,rfl⟩:=au.mp a;exact(G5 (h u b) (aj _)).lay,aD (by grind),W8 hv];rfl
theorem Az6 {v:m7}{vs:n_}(hv:v∈vs)(h:∀u∈vs,VBs u):Iw (.tuple (vs.map tD)) (tD v)=some (.im (.int (fnd v vs:Nat))):=by
 show (if Dp _&&PyData.canLayAll0 _ then (Ae8 _ _).map _ else none)=_
 rw[(G5 (h v hv) (aj _)).flatB (by decide),Qz fun d a=>by obtain⟨u,b,rfl⟩:=au.mp a;exact(G5 (h u b) (aj _)).lay,W8 hv];rfl
theorem B3h {b:Bool}{v:m7}{ts:n_}(h:TO' ts)(hv:v∈ts):Bw [.im (tD v),.im (sqD b (ts.map tD))]=.ret (.im (.int (fnd v ts:Nat))) [.im (tD v),.im (sqD b (ts.map tD))]:=by
 have l:=h.len
 cases b with
 | true =>
  wp_walk using Bw,sqD,Bd3,Wh,Nh,mtR,(Az6 hv fun u a=>(h.vb u a).1)
 | false =>
  wp_walk using Bw,sqD,Bd3,Wh,mtR,(Be8 hv (fun u a=>(h.vb u a).1) (by omega))
theorem Yi {b:Bool}{ts:n_}{s0 s2 s3:n7}(h:TO' ts):∀fs:n_,(∀f∈fs,f∈ts) ->
 Xg Bw [1] (fs.map tD) [s0,some (.im (sqD b (ts.map tD))),s2,s3]=.ok (fs.map fun f=>.int (fnd f ts:Nat)) [s0,some (.im (sqD b (ts.map tD))),s2,s3]
 | [],_=>rfl
 | f::fs,hf=>by
  have e:=B3h (b:=b) h (hf f (.head _))
  have ih:=Yi (b:=b) (s0:=s0) (s2:=s2) (s3:=s3) h fs fun x hx=>hf x (.tail _ hx)
  have e1:A1u Bw [1] (tD f) [s0,some (.im (sqD b (ts.map tD))),s2,s3]=.ok (.int (fnd f ts:Nat)) [s0,some (.im (sqD b (ts.map tD))),s2,s3]:=by
   wp_walk using A1u,e
  show ((A1u Bw [1] (tD f) _).bind fun k c=>(Xg Bw [1] (fs.map tD) c).bind fun ks c=>R.ok (k::ks) c)=_
  rw[e1]
  show ((Xg Bw [1] (fs.map tD) _).bind fun ks c=>R.ok (_::ks) c)=_
  rw[ih];rfl
def flt (neg:Bool)(hs ts:n_):n_:=hs.filter fun h=>if neg then !decide (h∈ts) else decide (h∈ts)
theorem An3 {neg b:Bool}{hs ts:n_}{s2 s3:n7}(H:HK hs)(h:TO' ts) :
 cLC [none,some 1] (Bk (Ac 0)) (cgN 0) (Bf (cOp (Li neg) (Ac 0) (Ac 1))) (Ac 0) [some (.im (hT hs)),some (.im (sqD b (ts.map tD))),s2,s3]=.ok (.o (.ls false ((flt neg hs ts).map tD))) [some (.im (hT hs)),some (.im (sqD b (ts.map tD))),s2,s3]:=by
 have l:=H.len
 obtain⟨cI,e,u,rfl⟩:=Td (g:=cgN 0) (ft:=Bf (cOp (Li neg) (Ac 0) (Ac 1))) (fe:=Ac 0) (I:=fun c=>∃u,c=[u,some (.im (sqD b (ts.map tD)))]) (f:=tD) (G:=fun h=>if (if neg then !decide (h∈ts) else decide (h∈ts))=true then some (tD h) else none) (xs:=hs) (acc:=[]) (c:=[none,some (.im (sqD b (ts.map tD)))]) ⟨none,rfl⟩
  (fun x c i j=>by
   obtain⟨u,rfl⟩:=j
   have a:=B2v (neg:=neg) (b:=b) (H.vb x i).1 fun u k=>(h.vb u k).1
   refine⟨[some (.im (tD x)),some (.im (sqD b (ts.map tD)))],?_,_,rfl⟩
   generalize hq:(if neg then !decide (x∈ts) else decide (x∈ts))=q at a ⊢
   cases q <;> wp_walk using a)
 have d:hs.filterMap (fun h=>if (if neg then !decide (h∈ts) else decide (h∈ts))=true then some (tD h) else none)=(flt neg hs ts).map tD:=by
  unfold flt;rw[<- List.filterMap_eq_map,List.filterMap_filter]
  rfl
 rw[d]at e
 exact Ei (ds:=hs.map tD) (c1:=[some _,some (.im _),s2,s3]) (by wp_walk using Bk) (by rw[ak];omega) (by simpa[cIn,O.flag] using e) rfl
theorem A3j {hs ts:n_}(H:HK hs):Xy ((flt false hs ts).map tD) ((flt false hs ts).map fun f=>.int (fnd f ts:Nat))=some ((firsts hs [] ts).map tD):=by
 have l:=H.len;have E:(flt false hs ts).length<=hs.length:=List.length_filter_le _ _
 have m:∀x∈flt false hs ts,x∈hs/\x∈ts:=fun x d=>by
  obtain⟨t,n⟩:=cU.mp d
  exact⟨t,by simpa using n⟩
 have o:(flt false hs ts).Nodup:=H.nd.filter _;generalize hF:flt false hs ts=F at E m o ⊢
 have C:PS.Ord fun i j=>decide (fnd (F.getD i []) ts<fnd (F.getD j []) ts):=⟨fun a=>by simp,fun a b c h k=>by simp at h k ⊢;omega,fun a b c h=>by simp at h ⊢;omega⟩
 obtain⟨p,g,G,e⟩:=A0l (ds:=F.map tD) (ks:=F.map fun f=>.int (fnd f ts:Nat)) (kd:=.ii) C (by rw[ak,ak]) (by rw[ak];omega) (fun B=>by
  cases F with
  | nil=>simp at B
  | cons h hs=>rfl) (fun k J=>by
  obtain⟨h,hh,rfl⟩:=au.mp J
  exact⟨rfl,rfl⟩) (fun i j x y d D=>by
  obtain⟨a,u,rfl⟩:=Hs d;obtain⟨c,s,rfl⟩:=Hs D;rw[bO,bO,u,s]
  show Nv false (.int (fnd a ts:Nat)) (.int (fnd c ts:Nat))=some (decide (fnd a ts<fnd c ts))
  show some (decide (((fnd a ts:Nat):Int)<((fnd c ts:Nat):Int)))=_
  congr 1
  exact decide_eq_decide.mpr (by omega))
 rw[ak]at g;rw[Aj9 tD [] F (G6 g)]at e;rw[e]
 congr 2
 refine A7f (f:=fun x=>fnd x ts) ?_ (S8 (pre:=[])) fun x=>?_
 ·unfold atP
  rw[d_]
  refine fH (fun {a c} u s r=>?_) G
  have v:=G6 g a u;have w:=G6 g c s
  rcases r with r | ⟨r,q⟩
  ·simpa using r
  ·have r:¬ fnd (F.getD c []) ts<fnd (F.getD a []) ts:=of_decide_eq_false r
   have I:F.getD a []∈F:=by simp[v]
   have K:F.getD c []∈F:=by simp[w]
   rcases aM (fnd (F.getD a []) ts) (fnd (F.getD c []) ts) with z | z
   ·exact z
   ·have:=Az5 (m _ I).2 (m _ K).2 (by omega)
    have L:F[a]?=some (F.getD a []):=by simp[v]
    have A:F[c]?=some (F.getD a []):=by rw[this];simp[w]
    have:=(Qs o L).symm.trans (Qs o A);omega
 ·rw[firsts_mem]
  constructor
  ·intro d
   have:=m x (Ax4 (G6 g) d)
   exact⟨this.1,by simp,this.2⟩
  ·rintro⟨t,_,n⟩
   have d:x∈F:=by rw[<- hF];exact cU.mpr ⟨t,by simpa using n⟩
   refine au.mpr ⟨fnd x F,g.mem_iff.mpr (bc.mpr (A9p d)),?_⟩
   rw[bO,Ln d];rfl
theorem Bm7 {a b:w5}(h:a.length+b.length<=16000000):Ci (.list a) (.list b)=some (.ls false (a++b)):=by
 show (if a.length+b.length<=16000000 then some _ else none)=_
 simp_all
theorem Ar2 {b:Bool}{hs ts:n_}(H:HK hs)(h:TO' ts):Fp [.im (hT hs),.im (sqD b (ts.map tD))]=.ret (.ls false ((atP [] hs (Qx hs ts [])).map tD)) [.im (hT hs),.im (sqD b (ts.map tD))]:=by
 have l:=H.len
 have g:=fun c a=>An3 (neg:=false) (b:=b) (s2:=c) (s3:=a) H h
 have i:=fun c a=>An3 (neg:=true) (b:=b) (s2:=c) (s3:=a) H h
 have k:=Yi (b:=b) (s0:=some (.im (hT hs))) (s2:=some (.ls false ((flt false hs ts).map tD))) (s3:=some (.ls false ((flt true hs ts).map tD))) h (flt false hs ts) fun f e=>by
  have:=(cU.mp e).2
  simpa using this
 have j:Az3 Bw [1] (Ac 2) [some (.im (hT hs)),some (.im (sqD b (ts.map tD))),some (.ls false ((flt false hs ts).map tD)),some (.ls false ((flt true hs ts).map tD))]=.ok (.o (.ls false ((firsts hs [] ts).map tD))) [some (.im (hT hs)),some (.im (sqD b (ts.map tD))),some (.ls false ((flt false hs ts).map tD)),some (.ls false ((flt true hs ts).map tD))]:=by
  wp_walk using Az3,U.O5,k,(A3j (ts:=ts) H)
 have p:(firsts hs [] ts).length<=hs.length:=by
  have:=(Wj (hs:=hs) (told:=ts) (d:=[]) H.nd).length_eq;unfold Qx at this
  grind
 have o:(flt true hs ts).length<=hs.length:=List.length_filter_le _ _
 have m:Ci (.list ((firsts hs [] ts).map tD)) (.list ((flt true hs ts).map tD))=some (.ls false ((atP [] hs (Qx hs ts [])).map tD)):=by
  rw[Bm7 (by grind),A9n,bQ]
  congr 4
  exact List.filter_congr fun x n=>by simp
 wp_walk using Fp,K4,g,i,j,m
theorem Ac9 {b:Bool}{ts:n_}(h:TO' ts)(x:Str)(hx:Good (.str x) 0 1921):Dd false (Pa b ts) (.str x)=some (.im (.bool false)):=by
 rw[Yp (A2w h) hx (by decide) (by decide)];rfl
theorem B1o:Dd false (.str "told") (.str "told")=some (.im (.bool true)):=N5 (by decide +kernel)
theorem By8 (b:Bool)(l:w5):Lx .list .tuple (sqD b l)=some (.im (.bool true)):=by cases b <;> rfl
theorem B1h (a b:t6):Ht [.tuple [a,b]]=some (.im (.int 2)):=rfl
theorem B4d:Dd false (.int 2) (.int 2)=some (.im (.bool true)):=N5 (by trivial)
theorem B3z (a b:t6):Ar (.tuple [a,b]) (.int 0)=some (.im a):=rfl
theorem B3n (a b:t6):Ar (.tuple [a,b]) (.int 1)=some (.im b):=rfl
theorem B3q (a b:t6):Cv .tuple (.tuple [a,b])=some (.im (.bool true)):=rfl
theorem Ao7 (b:Bool)(ts:n_):Fv [.im (Pa b ts)]=.ret (.im (.bool true)) [.im (Pa b ts)]:=by
 wp_walk using Fv,Lh,Fi,Qe,Pa,B3q,B1h,B4d,B3z,B3n,B1o,By8
theorem A4o {b:Bool}{hs ts:n_}(H:HK hs)(h:TO' ts):Dm [.im (hT hs),.im (Pa b ts)]=.ret (.ls false ((atP [] hs (Qx hs ts [])).map tD)) [.im (hT hs),.im (Pa b ts)]:=by
 have c:=Ac9 (b:=b) h (Str.ofString "seen") (Sx _ (by rfl))
 have d:=Ac9 (b:=b) h (Str.ofString "rising") (Sx _ (by decide +kernel))
 have e:=Ac9 (b:=b) h (Str.ofString "falling") (Sx _ (by trivial))
 have f:=Ao7 b ts;have a:Ar (Pa b ts) (.int 1)=some _:=rfl
 wp_walk using Dm,Iu,c,d,e,f,a,(Ar2 (b:=b) H h)
theorem An6 {hs:n_}{od:Od}(H:HK hs)(h:od.Ok):∃p,InO hs od.d p:=by
 cases od with
 | seen=>exact⟨_,Bf4⟩
 | rising=>obtain⟨p,a,_⟩:=Yo H;exact⟨p,a⟩
 | falling=>obtain⟨p,_,a⟩:=Yo H;exact⟨_,a⟩
 | told b c=>exact⟨_,Wj H.nd,A4o H h⟩
abbrev Rw:=List Vl×List (Option (m7))
def Wd.at (w:Wd)(p:List Nat):Wd:={ w with heads:=atP [] w.heads p,rows:=w.rows.map fun r=>(r.1,atP none r.2 p) }
def Wd.ar (w:Wd)(p:List Nat):Wd:={ w with rows:=atP (([],[]):Rw) w.rows p }
def Wd.ex (w:Wd):Wd:=⟨w.names,w.key,w.vals,w.rows.map (·.1),(List.range w.heads.length).map fun i=>(w.heads.getD i [],w.rows.map fun r=>r.2.getD i none)⟩
theorem Lz {a:Type}[DecidableEq a]{d:a}{l:List a}{p:List Nat}:(atP d l p).length=p.length:=by unfold atP;grind
theorem Vk {a b:Type}[DecidableEq a][DecidableEq b](f:a->b){d:a}{l:List a}{p:List Nat}:(atP d l p).map f=atP (f d) (l.map f) p:=by
 unfold atP
 simp_all
abbrev ptD (w:Wd):n_:=w.rows.map (·.1)
theorem Xd (w:Wd):ptD w.ex=w.heads:=by
 show ((List.range _).map _).map _=_
 rw[aV];exact Js _ _
theorem Ae0 {a:Type}{l:List a}{d:a}{i:Nat}(h:i<l.length):l.getD i d∈l:=by grind
theorem Bn8 {w:Wd}(h:w.Ok):w.ex.Ok:=by
 refine⟨⟨?_,fun x hx=>h.nms.sub x ?_⟩,h.nlen,h.klen,h.vlen,h.vpos,fun x hx=>?_,h.rnd,by show (w.rows.map _).length<=12;rw[ak];exact h.rlen,fun r hr=>?_,by show (ptD w.ex).Nodup;rw[Xd];exact h.hnd,by show ((List.range _).map _).length<=12;rw[ak,bD];exact h.hlen⟩
 ·exact((List.perm_append_comm (l₁:=w.key) (l₂:=w.names)).append_right w.vals).nodup_iff.mp h.nms.nd
 ·have hx:x∈w.names++w.key++w.vals:=hx
  simp only[aX]at hx ⊢
  rcases hx with (hx | hx) | hx
  ·exact .inl (.inr hx)
  ·exact .inl (.inl hx)
  ·exact .inr hx
 ·obtain⟨r,hr,rfl⟩:=au.mp (show x∈w.rows.map (·.1) from hx)
  exact⟨(h.rows r hr).plen,(h.rows r hr).part⟩
 ·obtain⟨i,hi,rfl⟩:=au.mp (show r∈(List.range w.heads.length).map _ from hr)
  have hi:=bc.mp hi;have hm:=h.heads _ (Ae0 (d:=[]) hi)
  refine⟨hm.1,hm.2,by show (w.rows.map _).length=(w.rows.map _).length;rw[ak,ak],fun c hc=>?_⟩
  obtain⟨q,hq,rfl⟩:=au.mp (show c∈w.rows.map fun r=>r.2.getD i none from hc)
  exact(h.rows q hq).cells _ (Ae0 (by rw[(h.rows q hq).clen];exact hi))
theorem A9s {w:Wd}{p:List Nat}(h:w.Ok)(a:p.Perm (List.range w.rows.length)):(w.ar p).Ok:=by
 have c:p.length=w.rows.length:=by rw[a.length_eq,bD]
 refine⟨h.nms,h.klen,h.nlen,h.vlen,h.vpos,h.heads,h.hnd,h.hlen,fun r b=>h.rows r (Ax4 (G6 a) b),?_,by show (atP _ _ p).length<=12;rw[Lz,c];exact h.rlen⟩
 show ((atP _ _ p).map _).Nodup
 rw[Vk]
 exact By4 h.rnd (by simp_all)
theorem Bd8 {a:Type}(F:Nat->a)(p:List Nat):((List.range p.length).map fun i=>F (p.getD i 0))=p.map F:=by
 conv=>rhs;rw[<- Js 0 p]
 unfold atP;rw[aV];rfl
theorem A8d {a b:Type}{l:List a}(f:a->b){d:a}{e:b}{i:Nat}(h:i<l.length):(l.map f).getD i e=f (l.getD i d):=by grind
theorem B2i {w:Wd}(h:w.Ok):w.ex.ex=w:=by
 obtain⟨k,n,v,hs,rs⟩:=w;have e1:ptD (Wd.ex ⟨k,n,v,hs,rs⟩)=hs:=Xd _
 show Wd.mk k n v (ptD (Wd.ex ⟨k,n,v,hs,rs⟩)) _=_
 rw[e1]
 congr 1
 show ((List.range (rs.map _).length).map fun i=>((rs.map (·.1)).getD i [],((List.range hs.length).map fun j=>((hs.getD j [],rs.map fun r=>r.2.getD j none):Rw)).map fun r=>r.2.getD i none))=rs
 rw[ak]
 conv=>rhs;rw[<- Js (([],[]):Rw) rs]
 unfold atP
 refine fP fun i hi=>?_
 have hi:=bc.mp hi;have hc:(rs.getD i ([],[])).2.length=hs.length:=(h.rows _ (Ae0 hi)).clen
 refine Prod.ext ?_ ?_
 ·exact A8d (fun r:Rw=>r.1) hi
 ·rw[aV]
  show ((List.range hs.length).map fun j=>(rs.map fun r=>r.2.getD j none).getD i none)=_
  conv=>rhs;rw[<- Js none (rs.getD i ([],[])).2,hc]
  unfold atP
  refine fP fun j hj=>?_
  exact A8d (fun r:Rw=>r.2.getD j none) hi
theorem B1w {w:Wd}{p:List Nat}(c:p.Perm (List.range w.heads.length)):(w.at p).ex=w.ex.ar p:=by
 obtain⟨k,n,v,g,b⟩:=w
 have f:((b.map fun r=>(r.1,atP none r.2 p)).map fun r  => r.1)=b.map (·.1):=by simp_all
 show Wd.mk n k v _ _=Wd.mk n k v _ _
 congr 1
 show ((List.range (atP _ _ p).length).map fun i=>((atP _ _ p).getD i _,(b.map _).map _))=atP _ ((List.range _).map _) p
 rw[Lz];unfold atP
 conv=>rhs;rw[<- Bd8]
 refine fP fun i a=>?_
 have a:=bc.mp a;have e:=G6 c _ (Ae0 (d:=0) a)
 simp_all
theorem B1k (w:Wd)(p:List Nat):(w.ar p).ex=w.ex.at p:=by
 obtain⟨k,n,v,c,a⟩:=w
 have b:(atP (([],[])) a p).map _=atP _ _ p:=Vk fun r:Rw=>r.1
 show Wd.mk n k v _ _=Wd.mk n k v _ _
 congr 1
 show ((List.range _).map _)=((List.range _).map _).map _
 rw[aV]
 refine fP fun i _=>?_
 exact Prod.ext rfl (Vk _)
abbrev Hd (r:Rw):t6:=.tuple (r.2.map Dr)
theorem Bu3 (v:Vl):keyB v.d=true:=by cases v <;> rfl
theorem A0h:∀vs:m7,Ez (vs.map Vl.d)=true
 | []=>rfl
 | v::vs=>by
  show (keyB v.d&&Ez (vs.map Vl.d))=true
  rw[Bu3,A0h vs];rfl
theorem B2p (v:Vl):v.d.depth=0:=by cases v <;> rfl
theorem A5j:∀vs:m7,PyData.depthAll (vs.map Vl.d)=0
 | []=>rfl
 | v::vs=>by
  show max v.d.depth (PyData.depthAll (vs.map Vl.d))=0
  rw[B2p,A5j vs];rfl
theorem Zw {vs:m7}(h:VBs vs):J7 (tD vs)=true:=by
 show (Ez _&&PyData.canLayAll0 _&&decide _)=true
 have l:PyData.canLayAll0 _=true:=(G5 h (aj _)).lay;rw[A0h,l,A5j];rfl
theorem Zf:∀{rs:List Rw},(∀r∈rs,VBs r.1)->Lq (rs.map Ck)=some (rs.map (fun r=>tD r.1),rs.map Hd)
 | [],_=>rfl
 | r::rs,h=>by
  have ih:=Zf fun x hx=>h x (aW _ hx)
  rw[aP]
  show (if J7 (tD r.1)=true then (Lq (rs.map Ck)).map fun x=>(tD r.1::x.1,Hd r::x.2) else none)=_
  rw[if_pos (Zw (h r aN)),ih];rfl
theorem Ag1:∀{rs:List Rw},(rs.map (·.1)).Nodup->Vy (rs.map fun r=>tD r.1)=true
 | [],_=>rfl
 | r::rs,h=>by
  rw[aP,bH]at h
  show (!((rs.map fun r=>tD r.1).any fun e=>PyData.eqv (tD r.1) e)&&Vy (rs.map fun r=>tD r.1))=true
  have z:((rs.map fun r=>tD r.1).any fun e=>PyData.eqv (tD r.1) e)=false:=by
   rw[List.any_eq_false];intro e he q;obtain⟨x,hx,rfl⟩:=au.mp he;rw[Ui]at q;exact h.1 (au.mpr ⟨x,hx,(aL q).symm⟩)
  rw[z,Ag1 h.2];rfl
theorem Aj0:∀{rs:List Rw}{i:Nat}{r:Rw},(rs.map (·.1)).Nodup->rs[i]?=some r->Xh (rs.map fun r=>tD r.1) (rs.map Hd) (tD r.1)=some (Hd r)
 | x::rs,0,r,_,e=>by
  cases (show some x=some r from e)
  show (if PyData.eqv (tD x.1) (tD x.1)=true then some (Hd x) else _)=_
  rw[Ui,aD rfl,if_pos rfl]
 | x::rs,i+1,r,h,e=>by
  rw[aP,bH]at h
  have e:rs[i]?=some r:=by simpa using e
  have ne:x.1≠r.1:=fun z=>h.1 (au.mpr ⟨r,bR e,z.symm⟩)
  show (if PyData.eqv (tD x.1) (tD r.1)=true then some (Hd x) else Xh (rs.map fun r=>tD r.1) (rs.map Hd) (tD r.1))=_
  rw[Ui,aK ne,if_neg (by decide)]
  exact Aj0 h.2 e
theorem B1e {a:Type}[DecidableEq a]{f:a->t6}{d:a}{xs:List a}{i:Nat}(h:i<xs.length):atI (xs.map f) ((i:Nat):Int)=some (f (xs.getD i d)):=Kl (by grind)
theorem A6w {a:Type}[DecidableEq a]{f:a->t6}{d:a}{xs:List a}{i:Nat}(h:i<xs.length):Ar (.tuple (xs.map f)) (.int (i:Nat))=some (.im (f (xs.getD i d))):=by
 show (atI _ _).map _=_
 rw[B1e   h];rfl
theorem ix0 (w:Wd):Ar w.d (.int 0)=some (.im (nD w.key)):=rfl
theorem ix1 (w:Wd):Ar w.d (.int 1)=some (.im (nD w.names)):=rfl
theorem ix2 (w:Wd):Ar w.d (.int 2)=some (.im (nD w.vals)):=rfl
theorem ix3 (w:Wd):Ar w.d (.int 3)=some (.im (hT w.heads)):=rfl
theorem ixW (w:Wd):Ar w.d (.int 4)=some (.im (.tuple (w.rows.map Ck))):=rfl
theorem slW (w:Wd):M7 w.d none (some 4)=some (.im (.tuple [nD w.key,nD w.names,nD w.vals,hT w.heads])):=by
 rfl
theorem Bo3 (w:Wd):M7 w.d none (some 3)=some (.im (.tuple [nD w.key,nD w.names,nD w.vals])):=by
 rfl
theorem B3r (w:Wd)(hs:n_)(rs:List Rw):Ci (.tuple [nD w.key,nD w.names,nD w.vals]) (.tuple [hT hs,.tuple (rs.map Ck)])=some (.im (Wd.mk w.key w.names w.vals hs rs).d):=rfl
theorem A1b (rs:List Rw):∃u v,Fb (cgT 2 (Bo (cgN 0) (Bo (cgN 1) Fl))) Bd (Ac 0) (rs.map Ck) [] [none,none]=.ok ((rs.map (·.1)).map tD) [u,v]:=by
 obtain⟨cI,e,u,v,rfl⟩:=Bv (g:=cgT 2 (Bo (cgN 0) (Bo (cgN 1) Fl))) (ft:=Bd) (fe:=Ac 0) (I:=fun c=>∃u v,c=[u,v]) (f:=Ck)     ⟨none,none,rfl⟩
  fun r c hx a=>by
   obtain⟨u,v,rfl⟩:=a
   refine⟨[some (.im (tD r.1)),some (.im (.tuple (r.2.map Dr)))],?_,_,_,rfl⟩
   trivial
 refine⟨u,v,?_⟩
 rw[aV];exact e
theorem Aw3 {w:Wd}(l:w.rows.length<=60):cLC [none,none] (Bk (cOp Ar (Ac 0) (cC (.int 4)))) (cgT 2 (Bo (cgN 0) (Bo (cgN 1) Fl))) Bd (Ac 0) [some (.im w.d)]=.ok (.o (.ls false ((ptD w).map tD))) [some (.im w.d)]:=by
 obtain⟨u,v,e⟩:=A1b _
 exact Ei    (by rfl) (by grind) e rfl
theorem U4 {w:Wd}(l:w.rows.length<=60):Fy [.im w.d]=.ret (.im (hT (ptD w))) [.im w.d]:=by
 wp_walk using Fy,Uo,Aw3 l,Bp
theorem Qy {w:Wd}(l:w.rows.length<=60):Hg [.im w.d]=.ret (.ls false ((ptD w).map tD)) [.im w.d]:=by
 wp_walk using Hg,W9,Aw3 l
theorem Ak3 {w:Wd}(h:w.Ok):HK (ptD w):=⟨h.rnd,fun x b=>by
 obtain⟨r,a,rfl⟩:=au.mp b
 exact⟨(h.rows r a).part,by rw[(h.rows r a).plen];exact ao h.klen (by decide)⟩,by rw[ak];exact ao h.rlen (by decide)⟩
theorem Xm {w:Wd}(h:w.Ok):HK w.heads:=⟨h.hnd,fun x a=>⟨(h.heads x a).2,by rw[(h.heads x a).1];exact ao h.nlen (by decide)⟩,ao h.hlen (by decide)⟩
theorem U0 {w:Wd}{od:t6}{p:List Nat}(h:w.Ok)(I:InO (ptD w) od p):Hi [.im w.d,.im od]=.ret (.im (w.ar p).d) [.im w.d,.im od]:=by
 have lp:p.length=w.rows.length:=by rw[I.pm.length_eq,bD,ak]
 have b:w.rows.length<=60:=ao h.rlen (by decide)
 have v:∀i∈p,i<w.rows.length:=by have:=G6 I.pm;rw[ak]at this;exact this
 have a:∀r∈w.rows,VBs r.1:=fun r j=>(h.rows r j).part
 have D:=Zf a
 have C:(w.rows.map fun r=>tD r.1).length<=16000000:=by rw[ak];omega
 have s:cDP (cOp Ar (Ac 0) (cC (.int 4))) [some (.im w.d),some (.im od),none,none]=.ok (.o (.ty (.dt (w.rows.map fun r=>tD r.1) (w.rows.map Hd)))) [some (.im w.d),some (.im od),none,none]:=by
  wp_walk using cDP,ixW w,D,(Ag1 h.rnd),C
 have t:(w.rows.map fun r=>tD r.1).all J7=true:=bz.mpr fun k y=>by obtain⟨r,j,rfl⟩:=au.mp y;exact Zw (a r j)
 obtain⟨z,e,u,rfl⟩:=Bv (g:=cgN 0) (ft:=Bd) (fe:=Eh (Ad (Ac 0) (Ad (Al9 (Ac 1) (Ac 0)) Al))) (I:=fun c=>∃u,c=[u,some (.ty (.dt (w.rows.map fun r=>tD r.1) (w.rows.map Hd)))]) (f:=fun k:Nat=>tD (w.rows.getD k ([],[])).1) (G:=fun k=>Ck (w.rows.getD k ([],[]))) (xs:=p) (acc:=[]) (c:=[none,some (.ty (.dt (w.rows.map fun r=>tD r.1) (w.rows.map Hd)))]) ⟨none,rfl⟩
  (fun x c A B=>by
   obtain⟨u,rfl⟩:=B
   have n:w.rows[x]?=some (w.rows.getD x ([],[])):=by simp[(v x A)]
   have m:=Aj0 h.rnd n;have o:=Zw (a _ (bR n))
   refine⟨[some (.im (tD (w.rows.getD x ([],[])).1)),some (.ty (.dt (w.rows.map fun r=>tD r.1) (w.rows.map Hd)))],?_,_,rfl⟩
   generalize w.rows.getD x ([],[])=r at m o ⊢
   wp_walk using Al9,m,o,t,Ck)
 rw[bT]at e
 have E:(atP [] (ptD w) p).map tD=p.map fun k=>tD (w.rows.getD k ([],[])).1:=by
  rw[show atP [] (ptD w) p=(atP (([],[]):Rw) w.rows p).map (fun r:Rw=>r.1) from (Vk (d:=(([],[]):Rw)) (l:=w.rows) (fun r:Rw=>r.1)).symm]
  unfold atP;rw[aV,aV];rfl
 have F:cLC [none,some 2] (Bk (cF Dm (Ad (cF Fy (Ad (Ac 0) Al)) (Ad (Ac 1) Al)))) (cgN 0) Bd (Eh (Ad (Ac 0) (Ad (Al9 (Ac 1) (Ac 0)) Al))) [some (.im w.d),some (.im od),some (.ty (.dt (w.rows.map fun r=>tD r.1) (w.rows.map Hd))),none]=.ok (.o (.ls false ((w.ar p).rows.map Ck))) [some (.im w.d),some (.im od),some (.ty (.dt (w.rows.map fun r=>tD r.1) (w.rows.map Hd))),none]:=by
  refine Ei (ds:=(atP [] (ptD w) p).map tD) (c1:=[some (.im w.d),some (.im od),some (.ty (.dt (w.rows.map fun r=>tD r.1) (w.rows.map Hd))),none]) (cI:=[u,some (.ty (.dt (w.rows.map fun r=>tD r.1) (w.rows.map Hd)))]) (by wp_walk using Bk,(U4 b),I.ord) (by rw[ak,Lz];omega) ?_ rfl
  rw[E]
  show _=R.ok ((atP (([],[]):Rw) w.rows p).map _) _
  unfold atP;rw[aV];exact e
 have q:Ci (.tuple [nD w.key,nD w.names,nD w.vals,hT w.heads]) (.tuple [.tuple _])=some (.im (w.ar p).d):=rfl
 wp_walk using Hi,Ux,s,F,Bp,slW w,q
theorem Yq {a:Type}[DecidableEq a]{f:a->t6}(d:a){xs:List a}{p:List Nat}(hp:∀i∈p,i<xs.length)(hl:p.length<=60) :
 Ey [.im (.tuple (xs.map f)),.im (.list (pI p))]=.ret (.im (.tuple ((atP d xs p).map f))) [.im (.tuple (xs.map f)),.im (.list (pI p))]:=by
 obtain⟨b,e,u,rfl⟩:=Bv (g:=cgN 0) (ft:=Bd) (fe:=cOp Ar (Ac 1) (Ac 0)) (I:=fun c=>∃u,c=[u,some (.im (.tuple (xs.map f)))]) (f:=fun k:Nat=>PyData.int (k:Nat)) (G:=fun k=>f (xs.getD k d)) (xs:=p) (acc:=[]) (c:=[none,some (.im (.tuple (xs.map f)))]) ⟨none,rfl⟩
  (fun x c j l=>by
   obtain⟨u,rfl⟩:=l
   refine⟨[some (.im (.int (x:Nat))),some (.im (.tuple (xs.map f)))],?_,_,rfl⟩
   wp_walk using A6w (f:=f) (d:=d) (hp x j))
 rw[bT]at e
 have h:cLC [none,some 0] (Bk (Ac 1)) (cgN 0) Bd (cOp Ar (Ac 1) (Ac 0)) [some (.im (.tuple (xs.map f))),some (.im (.list (pI p)))]=.ok (.o (.ls false ((atP d xs p).map f))) [some (.im (.tuple (xs.map f))),some (.im (.list (pI p)))]:=by
  refine Ei  (c1:=[some (.im _),some _]) (cI:=[u,some (.im (.tuple (xs.map f)))]) (by wp_walk using Bk) (by grind) (e.trans ?_) rfl
  unfold atP;rw[aV];rfl
 wp_walk using Ey,Rn,h,Bp
theorem Bd0 {w:Wd}{p:List Nat}(h:w.Ok)(a:p.Perm (List.range w.heads.length)):Fo [.im w.d,.im (.list (pI p))]=.ret (.im (w.at p).d) [.im w.d,.im (.list (pI p))]:=by
 have lp:p.length=w.heads.length:=by rw[a.length_eq,bD]
 have d:=h.hlen;have i:=h.rlen
 obtain⟨j,e,u,v,rfl⟩:=Bv (g:=cgT 2 (Bo (cgN 0) (Bo (cgN 1) Fl))) (ft:=Bd) (fe:=Eh (Ad (Ac 0) (Ad (cF Ey (Ad (Ac 1) (Ad (Ac 2) Al))) Al))) (I:=fun c=>∃u v,c=[u,v,some (.im (.list (pI p)))]) (f:=Ck) (G:=fun r=>Ck (r.1,atP none r.2 p)) (xs:=w.rows) (acc:=[]) (c:=[none,none,some (.im (.list (pI p)))]) ⟨none,none,rfl⟩
  (fun r c l k=>by
   obtain⟨u,v,rfl⟩:=k
   refine⟨[some (.im (tD r.1)),some (.im (.tuple (r.2.map Dr))),some (.im (.list (pI p)))],?_,_,_,rfl⟩
   wp_walk using Ck,(Yq (f:=Dr) none (xs:=r.2) (p:=p) (by rw[(h.rows r l).clen];exact G6 a) (by omega)))
 rw[bT]at e
 have m:cLC [none,none,some 1] (Bk (cOp Ar (Ac 0) (cC (.int 4)))) (cgT 2 (Bo (cgN 0) (Bo (cgN 1) Fl))) Bd (Eh (Ad (Ac 0) (Ad (cF Ey (Ad (Ac 1) (Ad (Ac 2) Al))) Al))) [some (.im w.d),some (.im (.list (pI p))),none]=.ok (.o (.ls false ((w.at p).rows.map Ck))) [some (.im w.d),some (.im (.list (pI p))),none]:=by
  refine Ei (ds:=w.rows.map Ck) (c1:=[some (.im w.d),some (.im (.list (pI p))),none]) (cI:=[u,v,some (.im (.list (pI p)))]) (by wp_walk using Bk,ixW w) (by rw[ak];omega) (e.trans ?_) rfl
  show R.ok (w.rows.map fun r=>Ck (r.1,atP none r.2 p)) _=R.ok ((w.rows.map _).map _) _
  rw[aV];rfl
 have b:=Yq (f:=tD) []   (G6 a) (by omega)
 wp_walk using Fo,Ld,m,Bo3 w,ix3 w,b,Bp,(B3r w (atP [] w.heads p) (w.at p).rows)
 rfl
theorem Um {w:Wd}{od:t6}{p:List Nat}(h:w.Ok)(I:InO w.heads od p):Hj [.im w.d,.im od]=.ret (.im (w.at p).d) [.im w.d,.im od]:=by
 have H:=Xm h
 have lp:p.length=w.heads.length:=by rw[I.pm.length_eq,bD]
 have n:=H.len
 obtain⟨m,e,u,rfl⟩:=Bv (g:=cgN 0) (ft:=Bd) (fe:=cMt Nh Iw (Ac 1) (Ac 0)) (I:=fun c=>∃u,c=[u,some (.im (hT w.heads))]) (f:=fun k:Nat=>tD (w.heads.getD k [])) (G:=fun k=>.int (k:Nat)) (xs:=p) (acc:=[]) (c:=[none,some (.im (hT w.heads))]) ⟨none,rfl⟩
  (fun x c l j=>by
   obtain⟨u,rfl⟩:=j;have a:=G6 I.pm x l
   have o:w.heads.getD x []∈w.heads:=by simp[a]
   have b:Iw (hT w.heads) (tD (w.heads.getD x []))=_:=Az6 o fun u q=>(H.vb u q).1
   rw[Qs H.nd (i:=x) (by simp[a])]at b
   refine⟨[some (.im (tD (w.heads.getD x []))),some (.im (hT w.heads))],?_,_,rfl⟩
   wp_walk using cMt,Nh,b)
 rw[bT]at e
 have r:(atP [] w.heads p).map tD=p.map fun k=>tD (w.heads.getD k []):=by unfold atP;rw[aV];rfl
 have d:cLC [none,some 2] (Bk (cF Dm (Ad (Ac 2) (Ad (Ac 1) Al)))) (cgN 0) Bd (cMt Nh Iw (Ac 1) (Ac 0)) [some (.im w.d),some (.im od),some (.im (hT w.heads))]=.ok (.o (.ls false (pI p))) [some (.im w.d),some (.im od),some (.im (hT w.heads))]:=by
  refine Ei (ds:=(atP [] w.heads p).map tD) (c1:=[some (.im _),some _,some (.im _)]) (cI:=[u,some (.im (hT w.heads))]) (by wp_walk using Bk,I.ord) (by rw[ak,Lz];omega) ?_ rfl
  rw[r];exact e
 wp_walk using Hj,Uj,ix3 w,d,(Bd0 h I.pm)
structure Sz (w:Wd):Prop where
 hl:w.heads.length<=12
 rl:w.rows.length<=12
 cl:∀r∈w.rows,r.2.length=w.heads.length
theorem Sz.of {w:Wd}(h:w.Ok):Sz w:=⟨h.hlen,h.rlen,fun r a=>(h.rows r a).clen⟩
theorem Sz.at {w:Wd}{p:List Nat}(h:w.Ok)(a:p.Perm (List.range w.heads.length)):Sz (w.at p):=by
 have b:p.length=w.heads.length:=by rw[a.length_eq,bD]
 refine⟨by show (atP _ _ _).length<=12;rw[Lz,b];exact h.hlen,by show (w.rows.map _).length<=12;rw[ak];exact h.rlen,fun r c=>?_⟩
 obtain⟨q,_,rfl⟩:=au.mp (show r∈w.rows.map _ from c)
 show (atP _ _ _).length=(atP _ _ _).length
 rw[Lz,Lz]
theorem A9a {w:Wd}{i:Nat}(h:Sz w)(hi:i<w.heads.length):Et [.im w.d,.im (.int (i:Nat))]=.ret (.im (.tuple ((w.rows.map fun r=>r.2.getD i none).map Dr))) [.im w.d,.im (.int (i:Nat))]:=by
 obtain⟨b,e,u,v,rfl⟩:=Bv (g:=cgT 2 (Bo (cgN 0) (Bo (cgN 1) Fl))) (ft:=Bd) (fe:=cOp Ar (Ac 1) (Ac 2)) (I:=fun c=>∃u v,c=[u,v,some (.im (.int (i:Nat)))]) (f:=Ck) (G:=fun r=>Dr (r.2.getD i none)) (xs:=w.rows) (acc:=[]) (c:=[none,none,some (.im (.int (i:Nat)))]) ⟨none,none,rfl⟩
  (fun r c j k=>by
   obtain⟨u,v,rfl⟩:=k
   refine⟨[some (.im (tD r.1)),some (.im (.tuple (r.2.map Dr))),some (.im (.int (i:Nat)))],?_,_,_,rfl⟩
   wp_walk using Ck,A6w (f:=Dr) (d:=none) (show i<r.2.length by rw[h.cl r j];exact hi))
 rw[bT]at e
 have a:cLC [none,none,some 1] (Bk (cOp Ar (Ac 0) (cC (.int 4)))) (cgT 2 (Bo (cgN 0) (Bo (cgN 1) Fl))) Bd (cOp Ar (Ac 1) (Ac 2)) [some (.im w.d),some (.im (.int (i:Nat)))]=.ok (.o (.ls false ((w.rows.map fun r=>r.2.getD i none).map Dr))) [some (.im w.d),some (.im (.int i))]:=by
  have:=h.rl
  refine Ei  (c1:=[some _,some (.im _)]) (cI:=[u,v,some (.im (.int i))]) (by wp_walk using Bk,ixW w) (by grind) (e.trans ?_) rfl
  rw[aV];rfl
 wp_walk using Et,Oa,a,Bp
theorem At4 (hs:n_):Ry (hs.map tD)=(List.range hs.length).map fun k=>.tuple [.int (k:Nat),tD (hs.getD k [])]:=by
 unfold Ry
 simp_all
theorem Jl {w:Wd}(h:Sz w):Fd [.im w.d]=.ret (.im w.ex.d) [.im w.d]:=by
 have hl:=h.hl;have rl:=h.rl
 obtain⟨j,e,u,v,rfl⟩:=Bv (g:=cgT 2 (Bo (cgN 0) (Bo (cgN 1) Fl))) (ft:=Bd) (fe:=Eh (Ad (Ac 1) (Ad (cF Et (Ad (Ac 2) (Ad (Ac 0) Al))) Al))) (I:=fun c=>∃u v,c=[u,v,some (.im w.d)]) (f:=fun k:Nat=>.tuple [.int (k:Nat),tD (w.heads.getD k [])]) (G:=fun i=>Ck (w.heads.getD i [],w.rows.map fun r=>r.2.getD i none)) (xs:=List.range w.heads.length) (acc:=[]) (c:=[none,none,some (.im w.d)]) ⟨none,none,rfl⟩
  (fun i c b d=>by
   obtain⟨u,v,rfl⟩:=d
   refine⟨[some (.im (.int (i:Nat))),some (.im (tD (w.heads.getD i []))),some (.im w.d)],?_,_,_,rfl⟩
   wp_walk using A9a h (bc.mp b),Ck)
 rw[bT]at e
 have a:cLC [none,none,some 0] (Wq (cOp Ar (Ac 0) (cC (.int 3)))) (cgT 2 (Bo (cgN 0) (Bo (cgN 1) Fl))) Bd (Eh (Ad (Ac 1) (Ad (cF Et (Ad (Ac 2) (Ad (Ac 0) Al))) Al))) [some (.im w.d),none]=.ok (.o (.ls false (w.ex.rows.map Ck))) [some (.im w.d),none]:=by
  refine Ei (ds:=Ry (w.heads.map tD)) (c1:=[some (.im w.d),none]) (cI:=[u,v,some (.im w.d)]) (by wp_walk using Wq,ix3 w,U.O5) (by rw[At4,ak,bD];omega) ?_ rfl
  rw[At4]
  refine e.trans ?_
  show _=R.ok (((List.range _).map _).map _) _
  rw[aV];rfl
 wp_walk using Fd,Rh,a,ix0 w,ix1 w,ix2 w,U4 (show w.rows.length<=60 by omega),Bp
 rfl
abbrev Ay6:Ev->SR:=Hx (M6 (Ac 1) (Eh (Ad (Ac 3) (Ad (cUn Bp (cLC [none,some 2] (Bk (cOp Ar (Ac 0) (cC (.int 4)))) (cgN 0) Bd (cOp Ar (cOp Ar (Ac 0) (cC (.int 1))) (Ac 1)))) Al))))
theorem Bx2 {w:Wd}(h:Sz w):Rx [.im w.d]=.ret (.im w.ex.d) [.im w.d]:=by
 have hl:=h.hl;have rl:=h.rl
 let F:Nat->Rw:=fun i=>(w.heads.getD i [],w.rows.map fun r=>r.2.getD i none)
 obtain⟨c',e,a,b,rfl⟩:=Ir (g:=cgT 2 (Bo (cgN 2) (Bo (cgN 3) Fl))) (body:=Ay6) (items:=(List.range w.heads.length).map fun k=>.tuple [.int (k:Nat),tD (w.heads.getD k [])]) (n:=0) (c:=[some (.im w.d),some (.ls false []),none,none])
  (P:=fun k c=>∃a b,c=[some (.im w.d),some (.ls false (((List.range k).map F).map Ck)),a,b]) ⟨none,none,rfl⟩ (fun k d c j s=>by
   rw[aY]at s ⊢;obtain⟨a,b,rfl⟩:=s
   have o:k<w.heads.length:=by
    rcases aM k w.heads.length with q | q
    ·exact q
    ·rw[cN (by rw[ak,bD];exact q)]at j;cases j
   rw[bJ,fc o]at j
   cases j
   obtain⟨y,e,u,rfl⟩:=Bv (g:=cgN 0) (ft:=Bd) (fe:=cOp Ar (cOp Ar (Ac 0) (cC (.int 1))) (Ac 1)) (I:=fun c=>∃u,c=[u,some (.im (.int (k:Nat)))]) (f:=Ck) (G:=fun r=>Dr (r.2.getD k none)) (xs:=w.rows) (acc:=[]) (c:=[none,some (.im (.int (k:Nat)))]) ⟨none,rfl⟩
    (fun r c x z=>by
     obtain⟨u,rfl⟩:=z
     refine⟨[some (.im (Ck r)),some (.im (.int (k:Nat)))],?_,_,rfl⟩
     have v:Ar (Ck r) (.int 1)=some (.im (.tuple (r.2.map Dr))):=rfl
     wp_walk using v,A6w (f:=Dr) (d:=none) (show k<r.2.length by rw[h.cl r x];exact o))
   rw[bT]at e
   have m:cLC [none,some 2] (Bk (cOp Ar (Ac 0) (cC (.int 4)))) (cgN 0) Bd (cOp Ar (cOp Ar (Ac 0) (cC (.int 1))) (Ac 1)) [some (.im w.d),some (.ls false (((List.range k).map F).map Ck)),some (.im (.int (k:Nat))),some (.im (tD (w.heads.getD k [])))]=.ok (.o (.ls false ((w.rows.map fun r=>r.2.getD k none).map Dr))) [some (.im w.d),some (.ls false (((List.range k).map F).map Ck)),some (.im (.int (k:Nat))),some (.im (tD (w.heads.getD k [])))]:=by
    refine Ei (ds:=w.rows.map Ck) (c1:=[some (.im w.d),some (.ls false (((List.range k).map F).map Ck)),some (.im (.int (k:Nat))),some (.im (tD (w.heads.getD k [])))]) (cI:=[u,some (.im (.int (k:Nat)))]) (by wp_walk using Bk,ixW w) (by rw[ak];omega) (e.trans ?_) rfl
    rw[aV];rfl
   have t:(((List.range k).map F).map Ck).length<16000000:=by rw[ak,ak,bD];omega
   have B:(((List.range (k+1)).map F).map Ck)=((List.range k).map F).map Ck++[Ck (F k)]:=by rw[List.range_succ,bQ,bQ];rfl
   have C:PyData.tuple [tD (w.heads.getD k []),.tuple ((w.rows.map fun r=>r.2.getD k none).map Dr)]=Ck (F k):=rfl
   refine⟨[some (.im w.d),some (.ls false (((List.range (k+1)).map F).map Ck)),some (.im (.int (k:Nat))),some (.im (tD (w.heads.getD k [])))],.inl ?_,_,_,rfl⟩
   rw[B];generalize ((List.range k).map F).map Ck=A at m t ⊢
   wp_walk using Ay6,m,Bp,C,t)
 rw[aY,ak,bD]at e
 have l:Qf (Wq (cOp Ar (Ac 0) (cC (.int 3)))) (cgT 2 (Bo (cgN 2) (Bo (cgN 3) Fl))) Ay6 [some (.im w.d),some (.ls false []),none,none]=.nx [some (.im w.d),some (.ls false (((List.range w.heads.length).map F).map Ck)),a,b] :=
  (Vi (ds:=Ry (w.heads.map tD)) (c1:=[some (.im w.d),some (.ls false []),none,none]) (by wp_walk using Wq,ix3 w,U.O5)).trans (by rw[At4];exact e)
 unfold Ay6 at l
 refine Rz (p:=.o (.im w.ex.d)) (c:=[some (.im w.d),some (.ls false (((List.range w.heads.length).map F).map Ck)),a,b]) ?_ rfl (by wp_walk using bL)
 refine (Dl l).trans ?_
 wp_walk using ix0 w,ix1 w,ix2 w,Qy (show w.rows.length<=60 by omega),Bp
 rfl
theorem Ur {α:Type}(F:α->Bool):∀xs:List α,boolsOf (xs.map fun x=>PyData.bool (F x))=some (xs.map F)
 | []=>rfl
 | x::xs=>by show (boolsOf (xs.map fun x=>PyData.bool (F x))).map (F x::·)=_;rw[Ur F xs];rfl
theorem Bw0 {a:Type}(f:a->Bool)(xs:List a):(xs.map f).all id=xs.all f:=by simp_all
theorem T4 {a:Type}(F:a->Bool)(xs:List a):Kf (.list (xs.map fun x=>PyData.bool (F x)))=some (.im (.bool (xs.all F))):=by
 show (boolsOf _).map _=_
 rw[Ur F,dC,Bw0]
theorem Am1 {fe:o7}{x:Str}{F:Nat->Bool}{c:Ev}{i:Nat}(hx:c[i]?=some (some (.im (.str x))))(hl:x.length<=100)
 (hs:∀n∈x.cps.toList,∀t:n7,Sg (cgN 0) Bd fe (.str ⟨#[n]⟩) [t]=.ok (some (.bool (F n))) [some (.im (.str ⟨#[n]⟩))]) :
 cLC [none] (Al7 (Ac i)) (cgN 0) Bd fe c=.ok (.o (.ls false (x.cps.toList.map fun n=>PyData.bool (F n)))) c:=by
 obtain⟨b,e,d⟩:=Bv (g:=cgN 0) (ft:=Bd) (fe:=fe) (I:=fun c=>∃t,c=[t]) (f:=fun n=>PyData.str ⟨#[n]⟩) (G:=fun n=>PyData.bool (F n)) (xs:=x.cps.toList)   ⟨none,rfl⟩
  fun n c h a=>by grind
 refine Ei (ds:=A2z x) (c1:=c) ?_ ?_ (by assumption) ?_
 ·unfold Al7 Ac
  simp only[hx,R.bind_ok,nrm,Es,rdP,gB,O.dat]
 ·unfold A2z;rw[ak];exact ao hl (by decide)
 rfl
def A4l (c:Nat):Bool:=decide (97<=c)&&decide (c<=122)
def okC (c:Nat):Bool:=decide (32<=c)&&decide (c<=126)
def lettersS:Str:=Str.ofString "abcdefghijklmnopqrstuvwxyz"
theorem Bi6:∀c,c<128->(!(Builtin.Str.occurrences lettersS ⟨#[c]⟩ 0 lettersS.length 1).isEmpty)=A4l c:=by decide +kernel
theorem B2o (c:Nat):(!decide ([c]<(Str.ofString " ").cps.toList))=decide (32<=c):=by
 have:[c]<(Str.ofString " ").cps.toList↔c<32:=by
  have e:(Str.ofString " ").cps.toList=[32]:=by trivial
  rw[e]
  constructor
  ·intro h
   cases h with
   | rel h=>omega
   | cons h=>cases h
  ·intro h;exact .rel h
 grind
theorem Bx3 (c:Nat):(!decide ((Str.ofString "~").cps.toList<[c]))=decide (c<=126):=by
 have:(Str.ofString "~").cps.toList<[c]↔126<c:=by
  have e:(Str.ofString "~").cps.toList=[126]:=by trivial
  rw[e]
  constructor
  ·intro h
   cases h with
   | rel h=>omega
   | cons h=>cases h
  ·intro h;exact .rel h
 grind
theorem Aw4 (c:Nat):Am3 (.str " ") (.str ⟨#[c]⟩)=some (.im (.bool (decide (32<=c)))):=by
 show some _=_
 rw[B2o]
theorem Ah8 (c:Nat):Am3 (.str ⟨#[c]⟩) (.str "~")=some (.im (.bool (decide (c<=126)))):=by
 show some _=_
 rw[Bx3]
theorem A4j {c:Nat}(h:c<128):Li false (.str ⟨#[c]⟩) (.str "abcdefghijklmnopqrstuvwxyz")=some (.im (.bool (A4l c))):=by
 show some (O.im (.bool (!(Builtin.Str.occurrences lettersS _ 0 lettersS.length 1).isEmpty)))=_
 rw[Bi6 c h]
theorem Z0 {α:Type}[DecidableEq α](x:α):∀(n:Nat) (xs:List α),xs.length=n->(x∈dst xs↔x∈xs)
 | 0,xs,h=>by cases xs with | nil=>exact Iff.rfl | cons a r=>cases h
 | n+1,xs,h=>by
  rcases gh xs with rfl | ⟨ys,y,rfl⟩
  ·cases h
  ·rw[gj]at h ⊢
   have hy:ys.length=n:=by simpa using h
   have ih:=Z0 x n ys hy;rw[Lg];unfold Lj
   split
   ·rename_i hm
    rw[ih,aX,aG]
    refine⟨.inl,fun q=>?_⟩
    rcases q with q | rfl
    ·exact q
    ·exact ih.mp (memB_iff.mp hm)
   ·rw[aX,aX,ih]
theorem Tg {α:Type}[DecidableEq α]:∀(n:Nat) (xs:List α),xs.length=n->((dst xs).length=xs.length↔xs.Nodup)
 | 0,xs,h=>by cases xs with | nil=>exact⟨fun _=>cR,fun _=>rfl⟩ | cons a r=>cases h
 | n+1,xs,h=>by
  rcases gh xs with rfl | ⟨ys,y,rfl⟩
  ·cases h
  ·rw[gj]at h ⊢
   have hy:ys.length=n:=by simpa using h
   have ih:=Tg n ys hy;have le:=Ot n ys hy
   have hnd:(ys++[y]).Nodup↔ys.Nodup/\y∉ys:=by
    rw[fJ]
    constructor
    ·intro ⟨a,_,c⟩;exact⟨a,fun q=>c y q y (aG.mpr rfl) rfl⟩
    ·intro ⟨a,b⟩;exact⟨a,by simp,fun u hu v hv e=>by rw[aG.mp hv]at e;exact b (e▸hu)⟩
   rw[Lg,hnd];unfold Lj
   split
   ·rename_i hm
    have:y∈ys:=(Z0 y n ys hy).mp (memB_iff.mp hm);rw[a_,bY]
    constructor
    ·intro q;omega
    ·intro q;exact absurd this q.2
   ·rename_i hm
    have:y∉ys:=fun q=>hm (memB_iff.mpr ((Z0 y n ys hy).mpr q))
    rw[a_,a_,bY]
    constructor
    ·intro q;exact⟨ih.mp (by omega),this⟩
    ·intro q;have:=ih.mpr q.1;omega
theorem dst_inr {ss:v4}:(dst (ss.map fun x=>(Sum.inr x:Key))).length=ss.length↔ss.Nodup:=by
 have h:=Tg _ (ss.map fun x=>(Sum.inr x:Key)) rfl
 grind
theorem Xk:∀ss:v4,strsOf (ss.map PyData.str)=some ss
 | []=>rfl
 | x::ss=>by show (strsOf (ss.map PyData.str)).map (x::·)=_;rw[Xk ss];rfl
theorem A4t {v:Vl}(h:VB v):Ff [.im v.d]=.ret (.im (.bool true)) [.im v.d]:=by
 cases v with
 | non=>wp_walk using Ff,Kc,Cv,Lw,Jf,Vl.d
 | int i=>wp_walk using Ff,Kc,Cv,Lw,Jf,Vl.d
 | str x =>
  obtain⟨a,b⟩:=aq.mp (show (decide (x.length<=40)&&x.cps.toList.all okC)=true from h)
  have a:=aL a
  have e:=Am1 (fe:=Ko (cOp Am3 (cC (.str " ")) (Ac 0)) (cOp Am3 (Ac 0) (cC (.str "~")))) (x:=x) (F:=okC) (c:=[some (.im (.str x))]) (i:=0) rfl (by omega) fun n d t=>by
   by_cases h:32<=n
   ·wp_walk using Aw4,Ah8,aD h,okC
   ·wp_walk using Aw4,Ah8,aK h,okC
  wp_walk using Ff,Kc,Cv,Lw,Ga,J3,e,T4,b,Vl.d
theorem Om {α:Type}(xs:List α):Kf (.list (xs.map fun _=>PyData.bool true))=some (.im (.bool true)):=by
 rw[T4 (fun _=>true),show xs.all (fun _=>true)=true from bz.mpr fun _ _=>rfl]
theorem Aj7 {vs:m7}{n:Nat}(h:VBs vs)(hl:vs.length=n)(hn:n<=1000):Ft [.im (tD vs),.im (.int (n:Nat))]=.ret (.im (.bool true)) [.im (tD vs),.im (.int (n:Nat))]:=by
 obtain⟨cI,e,u,rfl⟩:=Bv (g:=cgN 0) (ft:=Bd) (fe:=cF Ff (Ad (Ac 0) Al)) (I:=fun c=>∃u,c=[u]) (f:=Vl.d) (G:=fun _=>.bool true) (xs:=vs) (acc:=[]) (c:=[none]) ⟨none,rfl⟩
  (fun x c d b=>by
   obtain⟨u,rfl⟩:=b
   refine⟨[some (.im x.d)],?_,_,rfl⟩
   wp_walk using A4t (h x d))
 have i:cLC [none] (Bk (Ac 0)) (cgN 0) Bd (cF Ff (Ad (Ac 0) Al)) [some (.im (tD vs)),some (.im (.int (n:Nat)))]=.ok (.o (.ls false (vs.map fun _=>PyData.bool true))) [some (.im (tD vs)),some (.im (.int (n:Nat)))] :=
  Ei (ds:=vs.map Vl.d) (c1:=[some (.im (tD vs)),some (.im _)]) (by wp_walk using Bk,tD) (by grind) (by simpa[cIn] using e) rfl
 have j:Cv .tuple (tD vs)=some (.im (.bool true)):=rfl
 have a:Ht [tD vs]=some (.im (.int n)):=by show some _=_;simp_all
 wp_walk using Ft,Zh,j,a,Hu,i,Om
theorem A3b {x:Str}(h:(decide (x.length<=8)&&(decide (x≠Str.ofString "")&&x.cps.toList.all A4l))=true):Gn [.im (.str x)]=.ret (.im (.bool true)) [.im (.str x)]:=by
 obtain⟨b,a⟩:=aq.mp h;obtain⟨a,d⟩:=aq.mp a;have b:=aL b
 have e:=Am1 (fe:=cOp (Li false) (Ac 0) (cC (.str "abcdefghijklmnopqrstuvwxyz"))) (x:=x) (F:=A4l) (c:=[some (.im _)]) (i:=0) rfl (by omega) fun n f t=>by
  have:=bz.mp d n f
  wp_walk using A4j (c:=n) (by unfold A4l at this;grind)
 wp_walk using Gn,Vv,Cv,Lw,Af7,aK (aL a),Ht,show x.length<=16000000 by omega,aK (show ¬ (8:Int)<x.length by omega),e,T4,d
theorem A0p {x:Str}(h:x∈names12):Gn [.im (.str x)]=.ret (.im (.bool true)) [.im (.str x)] :=
 A3b (bz.mp (show (names12.all fun x=>decide (x.length<=8)&&(decide (x≠Str.ofString _)&&x.cps.toList.all _))=true by trivial) x h)
theorem Bk6 {ns:v4}(h:Names ns)(h0:1<=ns.length)(h9:ns.length<=100):Gp [.im (nD ns)]=.ret (.im (.bool true)) [.im (nD ns)]:=by
 obtain⟨cI,e,u,rfl⟩:=Bv (g:=cgN 0) (ft:=Bd) (fe:=cF Gn (Ad (Ac 0) Al)) (I:=fun c=>∃u,c=[u]) (f:=PyData.str) (G:=fun _=>.bool true) (xs:=ns) (acc:=[]) (c:=[none]) ⟨none,rfl⟩
  (fun x c i d=>by
   obtain⟨u,rfl⟩:=d
   refine⟨[some (.im (.str x))],?_,_,rfl⟩
   wp_walk using A0p (h.sub x i))
 have b:cLC [none] (Bk (Ac 0)) (cgN 0) Bd (cF Gn (Ad (Ac 0) Al)) [some (.im (nD ns))]=.ok (.o (.ls false (ns.map fun _=>PyData.bool true))) [some (.im (nD ns))] :=
  Ei (ds:=ns.map PyData.str) (c1:=[some (.im (nD ns))]) (by wp_walk using Bk,nD) (by rw[ak];omega) (by simpa[cIn] using e) rfl
 have j:Cv .tuple (nD ns)=some (.im (.bool true)):=rfl
 have k:Ht [nD ns]=some (.im (.int (ns.length:Nat))):=by show some _=_;rw[ak]
 have a:Rp (nD ns)=some (.im (.int ns.length)):=by
  show ((strsOf _).bind _)=_
  rw[Xk,gB,if_pos (by omega),dst_inr.mpr h.nd]
 wp_walk using Gp,Oc,j,k,Hu,aK (show ¬ (ns.length:Int)=0 by omega),b,Om,a
theorem add_n {a b:v4}(h:a.length+b.length<=290):Ci (nD a) (nD b)=some (.im (nD (a++b))):=by
 unfold nD
 have:(a.map PyData.str).length+(b.map PyData.str).length<=16000000:=by grind
 simp only[Ci,if_pos this,bQ]
theorem A4u {w:Wd}(h:w.Ok):El [.im (nD w.key),.im (nD w.names),.im (nD w.vals)]=.ret (.im (.bool true)) [.im (nD w.key),.im (nD w.names),.im (nD w.vals)]:=by
 have h1:=h.klen;have h2:=h.nlen;have h3:=h.vlen;have h4:=h.vpos
 have t:∀ns:v4,Cv .tuple (nD ns)=some (.im (.bool true)):=fun _=>rfl
 obtain⟨cI,e,u,rfl⟩:=Bv (g:=cgN 0) (ft:=Bd) (fe:=cUn (Cv .tuple) (Ac 0)) (I:=fun c=>∃u,c=[u]) (f:=nD) (G:=fun _=>.bool true) (xs:=[w.key,w.names,w.vals]) (acc:=[]) (c:=[none]) ⟨none,rfl⟩
  (fun x c hx i=>by
   obtain⟨u,rfl⟩:=i
   refine⟨[some (.im (nD x))],?_,_,rfl⟩
   wp_walk using t)
 have a:cLC [none] (Bk (Eh (Ad (Ac 0) (Ad (Ac 1) (Ad (Ac 2) Al))))) (cgN 0) Bd (cUn (Cv .tuple) (Ac 0)) [some (.im (nD w.key)),some (.im (nD w.names)),some (.im (nD w.vals))]=.ok (.o (.ls false ([w.key,w.names,w.vals].map fun _=>PyData.bool true))) [some (.im (nD w.key)),some (.im (nD w.names)),some (.im (nD w.vals))] :=
  Ei (ds:=[w.key,w.names,w.vals].map nD) (c1:=[some (.im (nD w.key)),some (.im (nD w.names)),some (.im (nD w.vals))]) (by unfold Bk;wp_walk using Eh) (by show 3<=_;decide) (by simpa[cIn] using e) rfl
 have b:=Om [w.key,w.names,w.vals];rw[aP,aP,aP,fL]at a b
 have d:Ht [nD w.vals]=some (.im (.int w.vals.length)):=by show some _=_;rw[ak]
 wp_walk using El,Jh,a,b,d,aD (show (0:Int)<w.vals.length by omega),add_n (show w.key.length+w.names.length<=290 by omega),add_n (show (w.key++w.names).length+w.vals.length<=290 by rw[a_];omega),(Bk6 h.nms (by grind) (by grind))
theorem Bp9 {hs:n_}(f:hs.Nodup)(hv:∀h∈hs,VBs h)(hl:hs.length<=60):Ou (hs.map tD)=some (.im (.int (hs.length:Nat))):=by
 have j:∀d∈hs.map tD,J7 d=true:=fun d g=>by obtain⟨h,i,rfl⟩:=au.mp g;exact Zw (hv h i)
 unfold Ou
 rw[if_pos (by grind),Av8 j,(Tg _ _ rfl).mpr,ak]
 exact List.Pairwise.map _ (fun a b c e=>c (aL ((Ui a b).symm.trans (by rw[e,Ui];simp)))) f
theorem Yk {t:Bool}{hs:n_}{n:Nat}(d:hs.Nodup)(hv:∀h∈hs,h.length=n/\VBs h)(hl:hs.length<=60)(hn:n<=1000):Cu [.im (sqD t (hs.map tD)),.im (.int (n:Nat))]=.ret (.im (.bool true)) [.im (sqD t (hs.map tD)),.im (.int (n:Nat))]:=by
 obtain⟨cI,e,u,rfl⟩:=Bv (g:=cgN 0) (ft:=Bd) (fe:=cF Ft (Ad (Ac 0) (Ad (Ac 1) Al))) (I:=fun c=>∃u,c=[u,some (.im (.int (n:Nat)))]) (f:=tD) (G:=fun _=>.bool true) (xs:=hs) (acc:=[]) (c:=[none,some (.im (.int (n:Nat)))]) ⟨none,rfl⟩
  (fun x c a j=>by
   obtain⟨u,rfl⟩:=j
   refine⟨[some (.im (tD x)),some (.im (.int (n:Nat)))],?_,_,rfl⟩
   wp_walk using Aj7 (hv x a).2 (hv x a).1 hn)
 have i:cLC [none,some 1] (Bk (Ac 0)) (cgN 0) Bd (cF Ft (Ad (Ac 0) (Ad (Ac 1) Al))) [some (.im (sqD t (hs.map tD))),some (.im (.int (n:Nat)))]=.ok (.o (.ls false (hs.map fun _=>PyData.bool true))) [some (.im (sqD t (hs.map tD))),some (.im (.int (n:Nat)))] :=
  Ei (ds:=hs.map tD) (c1:=[some (.im (sqD t (hs.map tD))),some (.im (.int (n:Nat)))]) (Bh2 rfl) (by rw[ak];omega) (by simpa[cIn,O.flag] using e) rfl
 have k:Ht [sqD t (hs.map tD)]=some (.im (.int hs.length)):=by cases t <;> (show some _=_;rw[ak])
 have l:O2 (sqD t (hs.map tD))=some (.im (.int hs.length)):=by cases t <;> exact Bp9 d (fun h b=>(hv h b).2) hl
 wp_walk using Cu,Jz,i,Om,k,l,Hu
theorem A8o {cs:List (Option (m7))}{m n:Nat}(hl:cs.length=m)(hc:∀c∈cs,Vp n c)(hm:m<=60)(hn:n<=1000):Ge [.im (.tuple (cs.map Dr)),.im (.int (m:Nat)),.im (.int (n:Nat))]=.ret (.im (.bool true)) [.im (.tuple (cs.map Dr)),.im (.int (m:Nat)),.im (.int (n:Nat))]:=by
 obtain⟨cI,e,u,rfl⟩:=Bv (g:=cgN 0) (ft:=Bd) (fe:=A3l (cOp (Jf false) (Ac 0) (cC (.none))) (cF Ft (Ad (Ac 0) (Ad (Ac 1) Al)))) (I:=fun c=>∃u,c=[u,some (.im (.int (n:Nat)))]) (f:=Dr) (G:=fun _=>.bool true) (xs:=cs) (acc:=[]) (c:=[none,some (.im (.int (n:Nat)))]) ⟨none,rfl⟩
  (fun x c b i=>by
   obtain⟨u,rfl⟩:=i
   refine⟨[some (.im (Dr x)),some (.im (.int (n:Nat)))],?_,_,rfl⟩
   cases x with
   | none=>wp_walk using Dr,Jf
   | some a =>
    have z:Jf false (tD a) .none=some (.im (.bool false)):=rfl
    wp_walk using Dr,z,Aj7 (hc _ b a rfl).2 (hc _ b a rfl).1 hn)
 have h:cLC [none,some 2] (Bk (Ac 0)) (cgN 0) Bd (A3l (cOp (Jf false) (Ac 0) (cC (.none))) (cF Ft (Ad (Ac 0) (Ad (Ac 1) Al)))) [some (.im (.tuple (cs.map Dr))),some (.im (.int (m:Nat))),some (.im (.int (n:Nat)))]=.ok (.o (.ls false (cs.map fun _=>PyData.bool true))) [some (.im (.tuple (cs.map Dr))),some (.im (.int (m:Nat))),some (.im (.int (n:Nat)))] :=
  Ei (ds:=cs.map Dr) (c1:=[some (.im (.tuple (cs.map Dr))),some (.im (.int (m:Nat))),some (.im (.int (n:Nat)))]) (by wp_walk using Bk) (by rw[ak];omega) (by simpa[cIn,O.flag] using e) rfl
 have d:Ht [.tuple (cs.map Dr)]=some (.im (.int m)):=by show some _=_;rw[ak,hl]
 wp_walk using Ge,Rk,Cv,Lw,d,Hu,h,Om
theorem Av0 {w:Wd}(h:w.Ok):J0 [.im w.d]=.ret (.im (.bool true)) [.im w.d]:=by
 have h1:=h.klen;have h2:=h.nlen;have h3:=h.vlen;have h4:=h.hlen;have h5:=h.rlen
 have y:Cu [.im (hT w.heads),.im (.int (w.names.length:Nat))]=.ret (.im (.bool true)) [.im (hT w.heads),.im (.int (w.names.length:Nat))]:=Yk (t:=true) h.hnd h.heads (by omega) (by omega)
 have B:Cu [.im (hL (ptD w)),.im (.int (w.key.length:Nat))]=.ret (.im (.bool true)) [.im (hL (ptD w)),.im (.int (w.key.length:Nat))]:=Yk (t:=false) (hs:=ptD w) (n:=w.key.length) h.rnd (fun x a=>by
  obtain⟨r,j,rfl⟩:=au.mp a
  exact⟨(h.rows r j).plen,(h.rows r j).part⟩) (by rw[ak];omega) (by omega)
 have i:∀d:v4,Ht [nD d]=some (.im (.int (d.length:Nat))):=fun d=>by show some (O.im (.int ((d.map PyData.str).length:Nat)))=_;rw[ak]
 have l:Ht [hT w.heads]=some (.im (.int (w.heads.length:Nat))):=by show some (O.im (.int ((w.heads.map tD).length:Nat)))=_;rw[ak]
 have q:Cv .tuple (hT w.heads)=some (.im (.bool true)):=rfl;have s:Cv .tuple (.tuple (w.rows.map Ck))=some (.im (.bool true)):=rfl;have v:Cv .tuple w.d=some (.im (.bool true)):=rfl;have m:Ht [w.d]=some (.im (.int 5)):=rfl
 have p:∀r:Rw,Fi [.im (Ck r)]=.ret (.im (.bool true)) [.im (Ck r)]:=fun r=>by
  wp_walk using Fi,Qe,Ck,Cv,Lw,B1h,Hu
 have e:(w.rows.map Ck).length<=16000000:=by rw[ak];omega
 obtain⟨_,o,u,rfl⟩:=Bv (g:=cgN 0) (ft:=Bd) (fe:=cF Fi (Ad (Ac 0) Al)) (I:=fun c=>∃u,c=[u]) (f:=Ck) (G:=fun _=>.bool true) (xs:=w.rows) (acc:=[]) (c:=[none]) ⟨none,rfl⟩
  (fun x c a b=>by
   obtain⟨u,rfl⟩:=b
   exact⟨[some (.im (Ck x))],(by wp_walk using p),_,rfl⟩)
 have C:cLC [none] (Bk (Ac 2)) (cgN 0) Bd (cF Fi (Ad (Ac 0) Al)) [some (.im w.d),some (.im (hT w.heads)),some (.im (.tuple (w.rows.map Ck)))]=.ok (.o (.ls false (w.rows.map fun _=>PyData.bool true))) [some (.im w.d),some (.im (hT w.heads)),some (.im (.tuple (w.rows.map Ck)))] :=
  Ei (ds:=w.rows.map Ck) (c1:=[some (.im w.d),some (.im (hT w.heads)),some (.im (.tuple (w.rows.map Ck)))]) (by wp_walk using Bk) e (by simpa[cIn] using o) rfl
 obtain⟨_,A,u,rfl⟩:=Bv (g:=cgN 0) (ft:=Bd) (fe:=cOp Ar (Ac 0) (cC (.int 0))) (I:=fun c=>∃u,c=[u]) (f:=Ck) (G:=fun r=>tD r.1) (xs:=w.rows) (acc:=[]) (c:=[none]) ⟨none,rfl⟩
  (fun x c a b=>by
   obtain⟨u,rfl⟩:=b;have z:Ar (Ck x) (.int 0)=some (.im (tD x.1)):=rfl
   exact⟨[some (.im (Ck x))],(by wp_walk using z),_,rfl⟩)
 have D:cLC [none] (Bk (Ac 2)) (cgN 0) Bd (cOp Ar (Ac 0) (cC (.int 0))) [some (.im w.d),some (.im (hT w.heads)),some (.im (.tuple (w.rows.map Ck)))]=.ok (.o (.ls false ((ptD w).map tD))) [some (.im w.d),some (.im (hT w.heads)),some (.im (.tuple (w.rows.map Ck)))] :=
  Ei (ds:=w.rows.map Ck) (c1:=[some (.im w.d),some (.im (hT w.heads)),some (.im (.tuple (w.rows.map Ck)))]) (by wp_walk using Bk) e (by rw[aV];exact A) rfl
 obtain⟨_,E,u,rfl⟩:=Bv (g:=cgN 0) (ft:=Bd) (fe:=cF Ge (Ad (cOp Ar (Ac 0) (cC (.int 1))) (Ad (Gj (Ac 1)) (Ad (Gj (cOp Ar (Ac 2) (cC (.int 2)))) Al)))) (I:=fun c=>∃u,c=[u,some (.im (hT w.heads)),some (.im w.d)]) (f:=Ck) (G:=fun _=>.bool true) (xs:=w.rows) (acc:=[]) (c:=[none,some (.im (hT w.heads)),some (.im w.d)]) ⟨none,rfl⟩
  (fun x c a b=>by
   obtain⟨u,rfl⟩:=b;have z:Ar (Ck x) (.int 1)=some (.im (.tuple (x.2.map Dr))):=rfl
   exact⟨[some (.im (Ck x)),some (.im (hT w.heads)),some (.im w.d)],(by wp_walk using z,l,ix2 w,i,A8o (h.rows x a).clen (h.rows x a).cells (show w.heads.length<=60 by omega) (show w.vals.length<=1000 by omega)),_,rfl⟩)
 have k:cLC [none,some 1,some 0] (Bk (Ac 2)) (cgN 0) Bd (cF Ge (Ad (cOp Ar (Ac 0) (cC (.int 1))) (Ad (Gj (Ac 1)) (Ad (Gj (cOp Ar (Ac 2) (cC (.int 2)))) Al)))) [some (.im w.d),some (.im (hT w.heads)),some (.im (.tuple (w.rows.map Ck)))]=.ok (.o (.ls false (w.rows.map fun _=>PyData.bool true))) [some (.im _),some _,some (.im (.tuple (w.rows.map Ck)))] :=
  Ei  (c1:=[some (.im _),some (.im _),some _]) (by wp_walk using Bk) e E rfl
 wp_walk using J0,Vo,v,m,Hu,ix0 w,ix1 w,ix2 w,(A4u h),ix3 w,q,i,y,ixW w,s,C,Om,D,B,k
def oth5:n_:=[[.str "nowhere"],[],[.int 7,.non],[.non],[.str "a",.str "b"]]
theorem Bf8:∀t∈oth5,VBs t/\t.length<=4:=by
 have:oth5.all fun t=>t.all vb&&decide (t.length<=4)=true:=by trivial
 grind
def others (hs:n_):n_:=oth5++hs.map List.reverse
theorem Yt {hs:n_}(H:HK hs):∀t∈others hs,VBs t/\t.length<=4:=fun t a=>by
 rcases aX.mp a with a | a
 ·exact Bf8 t a
 ·obtain⟨h,b,rfl⟩:=au.mp a
  exact⟨fun v c=>(H.vb h b).1 v (List.mem_reverse.mp c),by rw[gn];exact(H.vb h b).2⟩
abbrev A0g:Ev->SR:=cIf (Bf7 (Bf (cOp (Dd true) (Ac 1) (Jw Al))) (Bf (cOp Ar8 (cF Ao (Ad (Ac 0) (Ad (cC (.int 5)) Al))) (cC (.int 0))))) (Hx (M6 (Ac 4) (cOp Ar (Ac 1) (cF Ao (Ad (Ac 0) (Ad (Gj (Ac 1)) Al)))))) (Hx (M6 (Ac 4) (cOp Ar (Ac 3) (cF Ao (Ad (Ac 0) (Ad (Gj (Ac 3)) Al))))))
theorem Bw9 {hs:n_}(H:HK hs):Dd true (hL hs) (.list [])=some (.im (.bool (!decide (hs=[])))):=by
 have g:Good _ 2 480000:=(Good.lst     (fun d a=>by obtain⟨t,b,rfl⟩:=au.mp a;exact Bo0 (H.vb t b)) (by rw[ak];have:=H.len;omega)).mono (by decide) (by decide)
 rw[Yp g (n':=1) (w':=4) ⟨rfl,rfl,rfl,by decide,by decide⟩ (by decide) (by decide)]
 cases hs with
 | nil=>rfl
 | cons h hs=>rfl
theorem Az1 {n:Nat}{ds:w5}{ts:n_}(hb:Bx n ds)(hn:n<2 ^ 40)(a:ts≠[])(hl:ts.length<=1000) :
 ∃(t:m7) (ds':w5) (r:Int),t∈ts/\Bx (n+1) ds'/\Ao [.ls true ds,.im (.int (ts.length:Nat))]=.ret (.im (.int r)) [.ls true ds',.im (.int (ts.length:Nat))]/\Ar (.list (ts.map tD)) (.int r)=some (.im (tD t)):=by
 obtain⟨r,c,d,f,i,g⟩:=Dk  hb hn (Int.natCast_pos.mpr (List.length_pos_iff.mpr a)) (Int.ofNat_lt.mpr (aQ hl (by decide)))
 obtain⟨x,j,e,_⟩:=Ti (l:=ts.map tD)  f (by simp_all)
 obtain⟨t,h,b⟩:=au.mp e
 refine⟨t,c,r,h,d,g,?_⟩
 show (atI _ r).map _=_
 simp_all
theorem B2d {b d:o7}{c c':Ev}{e a:t6}(h1:b c=.ok (.o (.im e)) c)(h2:d c=.ok (.o (.im a)) c'):Cg (Eh (Ad b (Ad d Al))) c=.rt (.o (.im (.tuple [e,a]))) c':=by wp_walk using h1,h2
theorem Al5 {n:Nat}{ds:w5}{hs:n_}(H:HK hs)(hb:Bx n ds)(hn:n<2 ^ 38):∃(od:Od) (ds':w5),od.Ok/\Bx (n+200) ds'/\Gb [.ls true ds,.im (hL hs)]=.ret (.im od.d) [.ls true ds',.im (hL hs)]:=by
 have l:=H.len
 obtain⟨e,y,S,w0,w1,e1⟩:=Dk (m:=6) hb (cZ hn (by decide)) (by decide) (by decide)
 have z:∀i j:Int,Nt (.int i) (.int j)=some (.im (.bool (decide (i<j)))):=fun i j=>rfl
 by_cases c:e<3
 ·have hw:e=0\/e=1\/e=2:=by omega
  rcases hw with rfl | rfl | rfl
  ·refine⟨.seen,y,trivial,S.mono (by omega),?_⟩
   wp_walk using Gb,Ib,e1,z,Ar,Od.d
  ·refine⟨.rising,y,trivial,S.mono (by omega),?_⟩
   wp_walk using Gb,Ib,e1,z,Ar,Od.d
  ·refine⟨.falling,y,trivial,S.mono (by omega),?_⟩
   wp_walk using Gb,Ib,e1,z,Ar,Od.d
 ·-- told
  obtain⟨cI,e2,u,rfl⟩:=Bv (g:=cgN 0) (ft:=Bd) (fe:=cUn An7 (Ac 0)) (I:=fun c=>∃u,c=[u]) (f:=tD) (G:=fun h=>tD h.reverse) (xs:=hs) (acc:=[]) (c:=[none]) ⟨none,rfl⟩
   (fun x c K hI=>by
    obtain⟨u,rfl⟩:=hI
    have er:An7 (tD x)=some (.im (tD x.reverse)):=by show some (O.im (.tuple (x.map Vl.d).reverse))=_;unfold tD;rw[gF]
    refine⟨[some (.im (tD x))],?_,_,rfl⟩
    wp_walk using er)
  rw[bT]at e2
  have e3:cLC [none] (Bk (Ac 1)) (cgN 0) Bd (cUn An7 (Ac 0)) [some (.ls true y),some (.im (hL hs)),some (.im (.int e)),none,none,none]=.ok (.o (.ls false ((hs.map List.reverse).map tD))) [some (.ls true y),some (.im (hL hs)),some (.im (.int e)),none,none,none] :=
   Ei (ds:=hs.map tD) (c1:=[some (.ls true y),some (.im (hL hs)),some (.im (.int e)),none,none,none]) (by wp_walk using Bk) (by rw[ak];omega) (by rw[aV];exact e2) rfl
  have e4:Ci (.list [.tuple [.str "nowhere"],.tuple [],.tuple [.int 7,.none],.tuple [.none],.tuple [.str "a",.str "b"]]) (.list ((hs.map List.reverse).map tD))=some (.ls false ((others hs).map tD)):=by
   rw[Bm7 (by rw[ak,ak];show 5+hs.length<=_;omega)]
   unfold others;rw[bQ];rfl
  have lo:(others hs).length=5+hs.length:=by unfold others;rw[a_,ak];rfl
  obtain⟨m,d2,b2,m0,m1,e5⟩:=Dk (m:=(hs.length:Int)+3) S (by omega) (by omega) (by omega)
  obtain⟨m,rfl⟩:=dw m0
  have m62:m<=62:=by omega
  obtain⟨c',e6,w,o,A,rfl,M,tv,Q⟩:=Ir (g:=cgN 5) (body:=A0g) (items:=La 0 m) (n:=0) (c:=[some (.ls true d2),some (.im (hL hs)),some (.im (.int e)),some (.ls false ((others hs).map tD)),some (.ls false []),none])
   (P:=fun k c=>∃w o A,c=[some (.ls true w),some (.im (hL hs)),some (.im (.int e)),some (.ls false ((others hs).map tD)),some (.ls false (o.map tD)),A]/\Bx (n+2+2*k) w/\(∀t∈o,VBs t/\t.length<=4)/\o.length=k)
   ⟨d2,[],none,rfl,b2.mono (by omega),(fun t R=>nomatch R),rfl⟩ (fun k d c hd hP=>by
    rw[aY]at hP ⊢;obtain⟨w,o,A,rfl,M,tv,Q⟩:=hP;obtain⟨rfl,hk⟩:=Ol hd
    have nb:n+2+2*k<2 ^ 40:=by omega
    have B:∀t,(VBs t/\t.length<=4)->∀x∈o++[t],VBs x/\x.length<=4:=fun t R x K=>by
     rcases aX.mp K with K | K
     ·exact tv x K
     ·rw[aG.mp K];exact R
    have el:(o.map tD).length<16000000:=by rw[ak];omega
    have em:∀t,o.map tD++[tD t]=(o++[t]).map tD:=fun t=>by rw[bQ];rfl
    have L:=Bw9 H
    have v:∀(N:w5),Bx (n+2+2*k+1) N->∃(t:m7) (s:w5) (r:Int),t∈others hs/\Bx (n+2+2*(k+1)) s/\Ao [.ls true N,.im (.int ((others hs).length:Nat))]=.ret (.im (.int r)) [.ls true s,.im (.int ((others hs).length:Nat))]/\Ar (.list ((others hs).map tD)) (.int r)=some (.im (tD t)):=fun N b4=>by
     obtain⟨t,s,r,E,C,D,J⟩:=Az1 (ts:=others hs) b4 (by omega) (by unfold others oth5;simp) (by omega)
     exact⟨t,s,r,E,C.mono (by omega),D,J⟩
    by_cases c1:hs=[]
    ·rw[aD c1]at L
     obtain⟨t,s,r,E,C,D,J⟩:=v w (M.mono (by omega))
     refine⟨[some (.ls true s),some (.im (hL hs)),some (.im (.int e)),some (.ls false ((others hs).map tD)),some (.ls false ((o++[t]).map tD)),some (.im (.int (0+(k:Int))))],.inl ?_,s,o++[t],_,rfl,C,B t (Yt H t E),by rw[a_,Q];rfl⟩
     rw[<- em]
     wp_walk using A0g,L,Ax8,D,J,el
    ·rw[aK c1]at L
     obtain⟨q,N,b4,q0,q1,e7⟩:=Dk (m:=5) M nb (by decide) (by decide)
     by_cases c2:0<q
     ·obtain⟨t,s,r,E,C,D,J⟩:=Az1 (ts:=hs) b4 (by omega) c1 (by omega)
      refine⟨[some (.ls true s),some (.im (hL hs)),some (.im (.int e)),some (.ls false ((others hs).map tD)),some (.ls false ((o++[t]).map tD)),some (.im (.int (0+(k:Int))))],.inl ?_,s,o++[t],_,rfl,C.mono (by omega),B t (H.vb t E),by rw[a_,Q];rfl⟩
      rw[<- em]
      wp_walk using A0g,L,e7,aD c2,Ax8,D,J,el
     ·obtain⟨t,s,r,E,C,D,J⟩:=v N b4
      refine⟨[some (.ls true s),some (.im (hL hs)),some (.im (.int e)),some (.ls false ((others hs).map tD)),some (.ls false ((o++[t]).map tD)),some (.im (.int (0+(k:Int))))],.inl ?_,s,o++[t],_,rfl,C,B t (Yt H t E),by rw[a_,Q];rfl⟩
      rw[<- em]
      wp_walk using A0g,L,e7,aK c2,Ax8,D,J,el)
  rw[aY,Mj]at M Q
  have R:TO' o:=⟨tv,by omega⟩
  have hw:e=3\/e=4\/e=5:=by omega
  have F:∀(b:Bool) (z4:n7),cOp Ar (Jw (Ad (Ac 4) (Ad (Ac 4) (Ad (cUn Bp (Ac 4)) Al)))) (cOp M4 (Ac 2) (cC (.int 3))) [some (.ls true w),some (.im (hL hs)),some (.im (.int e)),some (.ls false ((others hs).map tD)),some (.ls false (o.map tD)),A]=.ok (.o (.im (sqD b (o.map tD)))) [some (.ls true w),some (.im (hL hs)),some (.im (.int e)),some (.ls false ((others hs).map tD)),z4,A] ->
   ∃(od:Od) (ds':w5),od.Ok/\Bx (n+200) ds'/\Gb [.ls true ds,.im (hL hs)]=.ret (.im od.d) [.ls true ds',.im (hL hs)]:=fun b z4 e8=>by
   refine⟨.told b o,w,R,M.mono (by omega),?_⟩
   refine Rz (p:=.o (.im (Pa b o))) (c:=[some (.ls true w),some (.im (hL hs)),some (.im (.int e)),some (.ls false ((others hs).map tD)),z4,A]) ?_ rfl (by wp_walk using Od.d)
   show Ib [some (.ls true ds),some (.im (hL hs)),none,none,none,none]=_
   unfold Ib
   refine (Dl (c':=[some (.ls true y),some (.im (hL hs)),some (.im (.int e)),none,none,none]) (by wp_walk using e1)).trans ?_
   refine (Dl (c':=[some (.ls true y),some (.im (hL hs)),some (.im (.int e)),none,none,none]) (by wp_walk using z,aK c)).trans ?_
   refine (Dl (c':=[some (.ls true y),some (.im (hL hs)),some (.im (.int e)),some (.ls false ((others hs).map tD)),none,none]) (by wp_walk using e3,e4)).trans ?_
   refine (Dl (c':=[some (.ls true y),some (.im (hL hs)),some (.im (.int e)),some (.ls false ((others hs).map tD)),some (.ls false []),none]) (by wp_walk using bL)).trans ?_
   refine (Dl ((Vi (ds:=La 0 m) (c1:=[some (.ls true d2),some (.im (hL hs)),some (.im (.int e)),some (.ls false ((others hs).map tD)),some (.ls false []),none]) (by wp_walk using Ax8,Ci,e5,A7v (m:=m) (ao m62 (by decide)),cM)).trans e6)).trans ?_
   show Cg _ [some (.ls true w),some (.im (hL hs)),some (.im (.int e)),some (.ls false ((others hs).map tD)),some (.ls false (o.map tD)),A]=_
   exact B2d (by wp_walk using bL) e8
  rcases hw with rfl | rfl | rfl
  ·exact F false (some (.im (.list (o.map tD)))) (by wp_walk using Bp,Ar,sqD)
  ·exact F false (some (.im (.list (o.map tD)))) (by wp_walk using Bp,Ar,sqD)
  ·exact F true (some (.im (.list (o.map tD)))) (by wp_walk using Bp,Ar,sqD)
theorem Bh9 {w:Wd}(h:w.Ok):(Wd.mk w.key w.names w.vals w.heads []).Ok:=⟨h.nms,h.klen,h.nlen,h.vlen,h.vpos,h.heads,h.hnd,h.hlen,(fun r a=>nomatch a),cR,aB _⟩
def bare (w:Wd):List Rw:=w.rows.map fun r=>(r.1,[])
theorem Bc8 {w:Wd}(h:w.Ok):(Wd.mk w.key w.names w.vals [] (bare w)).Ok:=⟨h.nms,h.klen,h.nlen,h.vlen,h.vpos,(fun r a=>nomatch a),cR,aB _,fun r a=>by
 obtain⟨q,b,rfl⟩:=au.mp (show r∈w.rows.map _ from a)
 exact⟨(h.rows q b).plen,(h.rows q b).part,rfl,fun c d=>nomatch d⟩,by show ((w.rows.map _).map _).Nodup;rw[aV];exact h.rnd,by show (w.rows.map _).length<=12;rw[ak];exact h.rlen⟩
theorem Be7 {w:Wd}(h:w.Ok){s2 s3 s4 s5:n7}{d:O}:cLC [none,none] (Bk (cOp Ar (Ac 1) (cC (.int 4)))) (cgT 2 (Bo (cgN 0) (Bo (cgN 1) Fl))) Bd (Eh (Ad (Ac 0) (Ad (Eh Al) Al))) [some d,some (.im w.d),s2,s3,s4,s5]=.ok (.o (.ls false ((bare w).map Ck))) [some d,some (.im w.d),s2,s3,s4,s5]:=by
 obtain⟨b,e,u,v,rfl⟩:=Bv (g:=cgT 2 (Bo (cgN 0) (Bo (cgN 1) Fl))) (ft:=Bd) (fe:=Eh (Ad (Ac 0) (Ad (Eh Al) Al))) (I:=fun c=>∃u v,c=[u,v]) (f:=Ck)     ⟨none,none,rfl⟩
  fun r c hx a=>by
   obtain⟨u,v,rfl⟩:=a
   refine⟨[some (.im (tD r.1)),some (.im (.tuple (r.2.map Dr)))],?_,_,_,rfl⟩
   trivial
 have:=h.rlen
 refine Ei   (cI:=[u,v]) (by rfl) (by grind) ?_ rfl
 unfold bare;rw[aV];exact e
theorem Be1 {n:Nat}{ds:w5}{w:Wd}(h:w.Ok)(hb:Bx n ds)(hn:n<2 ^ 36):∃(w':Wd) (ds':w5) (t2:n7),w'.Ok/\Bx (n+2) ds'/\cIf (Bf (cOp (Dd false) (cF Ao (Ad (Ac 0) (Ad (cC (.int 8)) Al))) (cC (.int 0)))) (Bs (Ef (cUn Bp (cLC [none,none] (Bk (cOp Ar (Ac 1) (cC (.int 4)))) (cgT 2 (Bo (cgN 0) (Bo (cgN 1) Fl))) Bd (Eh (Ad (Ac 0) (Ad (Eh Al) Al))))) (cgN 2))
 (Ef (cOp Ar (Jw (Ad (cOp Ci (cSl M7 (Ac 1) cON (cOS (cC (.int 4)))) (Eh (Ad (Eh Al) Al))) (Ad (cOp Ci (cSl M7 (Ac 1) cON (cOS (cC (.int 3)))) (Eh (Ad (Eh Al) (Ad (Ac 2) Al)))) Al))) (cF Ao (Ad (Ac 0) (Ad (cC (.int 2)) Al)))) (cgN 1))) Df [some (.ls true ds),some (.im w.d),none,none,none,none]=.nx [some (.ls true ds'),some (.im w'.d),t2,none,none,none]:=by
 obtain⟨q,e,f,q0,q1,b⟩:=Dk (m:=8) hb (by omega) (by decide) (by decide)
 by_cases z:q=0
 ·subst z
  obtain⟨r,g,j,r0,r1,k⟩:=Dk (m:=2) f (by omega) (by decide) (by decide)
  have a:=Be7 h (s2:=none) (s3:=none) (s4:=none) (s5:=none) (d:=.ls true e);have i:Ci (.tuple [nD w.key,nD w.names,nD w.vals,hT w.heads]) (.tuple [.tuple []])=some (.im (Wd.mk w.key w.names w.vals w.heads []).d):=rfl;have c:Ci (.tuple [nD w.key,nD w.names,nD w.vals]) (.tuple [.tuple [],.tuple ((bare w).map Ck)])=some (.im (Wd.mk w.key w.names w.vals [] (bare w)).d):=rfl
  have l:r=0\/r=1:=by omega
  rcases l with rfl | rfl
  ·refine⟨_,g,some (.im (.tuple ((bare w).map Ck))),Bh9 h,j,?_⟩
   generalize (bare w).map Ck=B at a c ⊢
   wp_walk using b,Hu,a,Bp,slW w,Bo3 w,i,c,k,Ar
  ·refine⟨_,g,some (.im (.tuple ((bare w).map Ck))),Bc8 h,j,?_⟩
   wp_walk using b,Hu,a,Bp,slW w,Bo3 w,i,c,k,Ar
 ·refine⟨w,e,none,h,f.mono (by omega),?_⟩
  wp_walk using b,Hu,aK z
theorem Bw5 {w:Wd}(h:w.Ok):An4 w.d=some (.im (.str w.d.shown)):=Ap3 (Wd.good h) (by decide) (by decide) rfl
theorem Zu {w:Wd}(h:w.Ok):Cz 8 [.im w.d,.im w.d]=.ret (.im (.bool true)) [.im w.d,.im w.d]:=A3f  (Wd.good h) (by decide) (by decide) (by decide) (B2q _)
theorem A4b {n:Nat}{ds:w5}(hb:Bx n ds)(hn:n<2 ^ 34):∃ds',Mu [.ls true ds]=.ret (.im (.bool true)) [.ls true ds']:=by
 obtain⟨K,v,F,_,z,N⟩:=Ba7 (num:=false) hb (by omega)
 obtain⟨w,d,a,h,x,y⟩:=Be1 F z (by omega)
 have b:=Bn8 h
 obtain⟨g,l,i,Q,R⟩:=Al5 (Xm h) x (by omega)
 obtain⟨p,I⟩:=An6 (Xm h) i
 obtain⟨f,e,j,U,A⟩:=Al5 (Ak3 h) Q (by omega)
 obtain⟨q,J⟩:=An6 (Ak3 h) j;have B:=Jl (Sz.of h);have C:=Bx2 (Sz.of h);have D:=Zu b;have E:=Av0 b;have m:=Jl (Sz.of b);rw[B2i h]at m;have G:=Zu h;have H:=Um h I;have o:=Jl (Sz.at h I.pm);rw[B1w I.pm]at o
 have L:=U0 b (show InO (ptD w.ex) g.d p by rw[Xd];exact I)
 have M:=Zu (A9s b (p:=p) (by have:=I.pm;rw[show w.ex.rows.length=w.heads.length by show ((List.range _).map _).length=_;rw[ak,bD]];exact this))
 have r:q.Perm (List.range w.rows.length):=by have:=J.pm;rw[ak]at this;exact this
 have O:=U0 h J;have s:=Jl (Sz.of (A9s h r));have t:=Zu (Bn8 (A9s h r));rw[B1k]at s t
 have P:=Um b (show InO w.ex.heads f.d q from J)
 have k:=Bw5 h;generalize w.d.shown=S at k
 have T:Dd true (.str S) (.str S)=some (.im (.bool false)):=by rw[Af7];simp
 have u:Wx (hT w.heads)=some (.ls false (w.heads.map tD)):=rfl
 refine⟨e,Rz (p:=.o (.im (.bool true))) (c:=[some (.ls true e),some (.im w.d),a,some (.im (.str S)),some (.im w.ex.d),some (.im f.d)]) ?_ rfl (by wp_walk using bL)⟩
 show Qj [some (.ls true ds),none,none,none,none,none]=_
 unfold Qj
 refine (Dl (c':=[some (.ls true v),some (.im K.d),none,none,none,none]) (by wp_walk using N)).trans ?_
 refine (Dl y).trans ?_
 refine (Dl (c':=[some (.ls true d),some (.im w.d),a,some (.im (.str S)),none,none]) (by wp_walk using k)).trans ?_
 refine (Dl (c':=[some (.ls true d),some (.im w.d),a,some (.im (.str S)),some (.im w.ex.d),none]) (by wp_walk using B)).trans ?_
 refine (Dl (c':=[some (.ls true d),some (.im w.d),a,some (.im (.str S)),some (.im w.ex.d),none]) (by wp_walk using C,D,E,k,T)).trans ?_
 refine (Dl (c':=[some (.ls true d),some (.im w.d),a,some (.im (.str S)),some (.im w.ex.d),none]) (by wp_walk using m,G)).trans ?_
 refine (Dl (c':=[some (.ls true l),some (.im w.d),a,some (.im (.str S)),some (.im w.ex.d),some (.im g.d)]) (by wp_walk using ix3 w,u,R)).trans ?_
 refine (Dl (c':=[some (.ls true l),some (.im w.d),a,some (.im (.str S)),some (.im w.ex.d),some (.im g.d)]) (by wp_walk using H,o,L,M)).trans ?_
 refine (Dl (c':=[some (.ls true e),some (.im w.d),a,some (.im (.str S)),some (.im w.ex.d),some (.im f.d)]) (by wp_walk using (Qy (w:=w) (ao h.rlen (by decide))),A)).trans ?_
 wp_walk using O,s,P,t
theorem A3y (ns:List Int)(_:ns.length<=63):As7 [.sc ns]=.ret (.im (.bool true)) [.sc ns]:=by
 have i:∃m:Nat,m<=10/\My (cOp Aa6 (cC (.int 3)) (cOp Ad9 (Gj (Ac 0)) (cC (.int 10)))) [some (.sc ns),none]=.ok (La 0 m) [some (.sc ns),none]:=by
  obtain⟨a,j⟩:∃a:Int,a=(if (10:Int)<(ns.length:Int) then 10 else (ns.length:Int)):=⟨_,rfl⟩
  have s:a<=10:=by rw[j];split <;> omega
  obtain⟨b,h⟩:∃b:Int,b=(if a>(3:Int) then a else 3):=⟨_,rfl⟩
  have u:3<=b/\b<=10:=by rw[h];split <;> omega
  obtain⟨m,i⟩:=dw (show 0<=b by omega)
  refine⟨m,by omega,?_⟩
  rw[i]at h
  wp_walk using Ad9,j.symm,Aa6,h.symm,show (m:Int)<=16000000/\-16000000<=(m:Int) by omega,cM
 obtain⟨m,o,q⟩:=i
 have f:=Ir (g:=cgN 1) (body:=Wt) (items:=La 0 m) (n:=0) (c:=[some (.sc ns),none])
  (P:=fun _ c=>∃a,c=[some (.sc ns),a]) ⟨_,rfl⟩ (fun k d c l t=>by
   obtain⟨a,rfl⟩:=t;obtain⟨rfl,hk⟩:=Ol l
   obtain⟨db,r,v⟩:=Bz1 (ns:=ns) (k:=k) (by omega)
   obtain⟨d2,w⟩:=A4b r (by decide)
   refine⟨[some (.sc ns),some (.im (.int (0+(k:Int))))],.inl ?_,_,rfl⟩
   wp_walk using Wt,show (0:Int)+(k:Int)=(k:Int) by omega,v,w)
 obtain⟨c',e,a,rfl⟩:=f
 refine Rz (p:=.o (.im (.bool true))) (c:=[some (.sc ns),a]) ?_ rfl (by wp_walk using bL)
 show A5d [some _,none]=_
 refine (Dl ((Vi q).trans e)).trans ?_
 wp_walk using bL
def top (i:Nat):Stmt:=PySem.Challenge.pw_pivotfold_k35_key_and_names_exchanged.main.body.getD i (.Pass ⟨0,0,0,0⟩)
abbrev Hr:Stmt:=top 4
theorem Qd:Bm ["text"] ["text"] (Aw Hr):=⟨rfl,rfl,rfl,by grind,rfl,by decide +kernel,by decide +kernel⟩
abbrev P0:Stmt:=top 5
theorem Ah0:Bm ["thing"] ["thing"] (Aw P0):=⟨rfl,rfl,rfl,by grind,rfl,by decide +kernel,by decide +kernel⟩
abbrev Ab1:Stmt:=top 6
theorem Bg1:Bm ["value"] ["value"] (Aw Ab1):=⟨rfl,rfl,rfl,by grind,rfl,by decide +kernel,by decide +kernel⟩
abbrev Ac6:Stmt:=top 7
theorem A3w:Bm ["values"] ["values"] (Aw Ac6):=⟨rfl,rfl,rfl,by grind,rfl,by decide +kernel,by decide +kernel⟩
abbrev S6:Stmt:=top 11
theorem At2:Bm ["thing"] ["thing"] (Aw S6):=⟨rfl,rfl,rfl,by grind,rfl,by decide +kernel,by decide +kernel⟩
abbrev Kz:Stmt:=top 12
theorem Xa:Bm ["thing"] ["thing"] (Aw Kz):=⟨rfl,rfl,rfl,by grind,rfl,by decide +kernel,by decide +kernel⟩
abbrev Wu:Stmt:=top 13
theorem A1n:Bm ["thing", "width"] ["thing", "width"] (Aw Wu):=⟨rfl,rfl,rfl,by trivial,rfl,by decide +kernel,by decide +kernel⟩
abbrev Ny:Stmt:=top 14
theorem Ad5:Bm ["row", "places"] ["row", "places"] (Aw Ny):=⟨rfl,rfl,rfl,by trivial,rfl,by decide +kernel,by decide +kernel⟩
abbrev T3:Stmt:=top 16
theorem Aq6:Bm ["thing"] ["thing"] (Aw T3):=⟨rfl,rfl,rfl,by grind,rfl,by decide +kernel,by decide +kernel⟩
abbrev Hb:Stmt:=top 17
theorem O7:Bm ["key", "names", "values"] ["key", "names", "values"] (Aw Hb):=⟨rfl,rfl,rfl,by trivial,rfl,by decide +kernel,by decide +kernel⟩
abbrev Hn:Stmt:=top 18
theorem Pn:Bm ["things", "width"] ["things", "width"] (Aw Hn):=⟨rfl,rfl,rfl,by trivial,rfl,by decide +kernel,by decide +kernel⟩
abbrev Nq:Stmt:=top 19
theorem Aa4:Bm ["thing", "many", "width"] ["thing", "many", "width"] (Aw Nq):=⟨rfl,rfl,rfl,by trivial,rfl,by decide +kernel,by decide +kernel⟩
abbrev Tq:Stmt:=top 20
theorem zZ:Bm ["thing", "heads", "rows"] ["thing"] (Aw Tq):=⟨rfl,rfl,rfl,by trivial,rfl,by decide +kernel,by decide +kernel⟩
abbrev Ql:Stmt:=top 21
theorem Ag3:Bm ["wide"] ["wide"] (Aw Ql):=⟨rfl,rfl,rfl,by grind,rfl,by decide +kernel,by decide +kernel⟩
abbrev Kv:Stmt:=top 22
theorem Wm:Bm ["wide", "place"] ["wide", "place"] (Aw Kv):=⟨rfl,rfl,rfl,by trivial,rfl,by decide +kernel,by decide +kernel⟩
abbrev Je:Stmt:=top 23
theorem zT:Bm ["wide", "places", "rows"] ["wide", "places"] (Aw Je):=⟨rfl,rfl,rfl,by trivial,rfl,by decide +kernel,by decide +kernel⟩
abbrev Jd:Stmt:=top 25
theorem S5:Bm ["order"] ["order"] (Aw Jd):=⟨rfl,rfl,rfl,by grind,rfl,by decide +kernel,by decide +kernel⟩
abbrev Jc:Stmt:=top 26
theorem zM:Bm ["things", "told", "first", "others"] ["things", "told"] (Aw Jc):=⟨rfl,rfl,rfl,by trivial,rfl,by decide +kernel,by decide +kernel⟩
abbrev Qm:Stmt:=top 27
theorem An9:Bm ["things", "order"] ["things", "order"] (Aw Qm):=⟨rfl,rfl,rfl,by trivial,rfl,by decide +kernel,by decide +kernel⟩
abbrev Pz:Stmt:=top 28
theorem yG:Bm ["wide", "order", "heads"] ["wide", "order"] (Aw Pz):=⟨rfl,rfl,rfl,by trivial,rfl,by decide +kernel,by decide +kernel⟩
abbrev Qv:Stmt:=top 29
theorem zX:Bm ["wide", "order", "cells", "rows"] ["wide", "order"] (Aw Qv):=⟨rfl,rfl,rfl,by trivial,rfl,by decide +kernel,by decide +kernel⟩
abbrev Nj:Stmt:=top 30
theorem yD:Bm ["wide", "rows"] ["wide"] (Aw Nj):=⟨rfl,rfl,rfl,by trivial,rfl,by decide +kernel,by decide +kernel⟩
abbrev Oe:Stmt:=top 32
theorem Zq:Bm ["_law_script", "_law_k"] ["_law_script", "_law_k"] (Aw Oe):=⟨rfl,rfl,rfl,by trivial,rfl,by decide +kernel,by decide +kernel⟩
abbrev Ab0:Stmt:=top 33
theorem yL:Bm ["_law_script", "_law_k", "_law_number_here"] ["_law_script", "_law_k"] (Aw Ab0):=⟨rfl,rfl,rfl,by trivial,rfl,by decide +kernel,by decide +kernel⟩
abbrev Wk:Stmt:=top 34
theorem zV:Bm ["_law_box_here", "_law_many_here", "_law_found", "_law_once", "_law_twice"] ["_law_box_here", "_law_many_here"] (Aw Wk):=⟨rfl,rfl,rfl,by trivial,rfl,by decide +kernel,by decide +kernel⟩
abbrev Wv:Stmt:=top 35
theorem A3d:Bm ["_law_box_here", "_law_least", "_law_few", "_law_most"] ["_law_box_here", "_law_least", "_law_few", "_law_most"] (Aw Wv):=⟨rfl,rfl,rfl,by trivial,rfl,by decide +kernel,by decide +kernel⟩
abbrev Ub:Stmt:=top 36
theorem yI:Bm ["_law_box_here", "_law_many_here", "_law_some"] ["_law_box_here", "_law_many_here"] (Aw Ub):=⟨rfl,rfl,rfl,by trivial,rfl,by decide +kernel,by decide +kernel⟩
abbrev Tn:Stmt:=top 37
theorem yJ:Bm ["_law_box_here", "_law_way"] ["_law_box_here"] (Aw Tn):=⟨rfl,rfl,rfl,by trivial,rfl,by decide +kernel,by decide +kernel⟩
abbrev Pq:Stmt:=top 38
theorem Am7:Bm ["_law_box_here"] ["_law_box_here"] (Aw Pq):=⟨rfl,rfl,rfl,by grind,rfl,by decide +kernel,by decide +kernel⟩
abbrev Xf:Stmt:=top 39
theorem zW:Bm ["_law_box_here", "_law_many_here", "_law_found", "_law_turn", "_law_value_here"] ["_law_box_here", "_law_many_here"] (Aw Xf):=⟨rfl,rfl,rfl,by trivial,rfl,by decide +kernel,by decide +kernel⟩
abbrev Qp:Stmt:=top 41
theorem zK:Bm ["_law_box_here", "_law_wide_here", "_law_many_here", "_law_pool_here", "_law_found", "_law_turn", "_law_one"] ["_law_box_here", "_law_wide_here", "_law_many_here"] (Aw Qp):=⟨rfl,rfl,rfl,by trivial,rfl,by decide +kernel,by decide +kernel⟩
abbrev V7:Stmt:=top 42
theorem zB:Bm ["_law_box_here", "_law_numbers", "_law_names_here", "_law_a", "_law_b", "_law_c", "_law_stem", "_law_over", "_law_values", "_law_heads", "_law_often", "_law_rows", "_law_part", "_law_cells", "_law_head", "_law_one"] ["_law_box_here", "_law_numbers"] (Aw V7):=⟨rfl,rfl,rfl,by trivial,rfl,by decide +kernel,by decide +kernel⟩
abbrev Qw:Stmt:=top 43
theorem A1s:Bm ["_law_found", "_law_due_here"] ["_law_found", "_law_due_here"] (Aw Qw):=⟨rfl,rfl,rfl,by trivial,rfl,by decide +kernel,by decide +kernel⟩
abbrev T7:Stmt:=top 45
theorem zN:Bm ["_law_box_here", "_law_some", "_law_way", "_law_others", "_law_told", "_law_turn"] ["_law_box_here", "_law_some"] (Aw T7):=⟨rfl,rfl,rfl,by trivial,rfl,by decide +kernel,by decide +kernel⟩
abbrev Te:Stmt:=top 46
theorem Ap5:Bm ["_law_wide_here"] ["_law_wide_here"] (Aw Te):=⟨rfl,rfl,rfl,by grind,rfl,by decide +kernel,by decide +kernel⟩
abbrev Ae1:Stmt:=top 47
theorem yC:Bm ["_law_wide_here", "_law_rows", "_law_k", "_law_head"] ["_law_wide_here"] (Aw Ae1):=⟨rfl,rfl,rfl,by trivial,rfl,by decide +kernel,by decide +kernel⟩
abbrev T5:Stmt:=top 48
theorem zF:Bm ["_law_box_here", "_law_wide_here", "_law_rows", "_law_before", "_law_found", "_law_order_here"] ["_law_box_here"] (Aw T5):=⟨rfl,rfl,rfl,by trivial,rfl,by decide +kernel,by decide +kernel⟩
abbrev A8j:Stmt:=top 49
theorem yO:Bm ["_law_script", "_law_k"] ["_law_script"] (Aw A8j):=⟨rfl,rfl,rfl,by trivial,rfl,by decide +kernel,by decide +kernel⟩
section
variable {P:u6}{w:World}{K:v9}{mg:x_}{base:Heap}
theorem Py {f:Addr}{c:u5}(F:Fun K "has_plain_signs" "has_plain_signs" Hr f c) (a:mg "all" = none):FnOk P w K mg base CX0 1 f c ["text"] (spP K Ga):=by
 refine F.ok Qd (fun g H Q E h=>Ce h) (fun j A b s H g Q E d h=>?_)
 have k:=d.units;have e:=d.gd
 refine Gg (Ak (Az (Eb (Kq:=K) rfl rfl rfl a (Af (by exact(Gq (N':=["sign"]) (idx:=[none]) (Dt rfl rfl (by trivial) rfl rfl rfl) rfl (A6k (qv 0)) (fun _ _ _ _ _=>by exact(Bj (i:=0) (by grind) rfl (Or.inl rfl))) (fun _ _ _ _ _=>by exact Dh) (fun _ _ _ _ _=>by exact(J4 (Bm4 Hq (qv 0)) (J6 (Bm4 (qv 0) Hq)))))) Ae)))) ?_
 exact Cd (Ax (Bh (Fj (by decide) (A7i Aa) An Ed (Ho (Aj (Aq rfl) Aa A8s) (Aj Aa (Aq rfl) A8s))) Im)) h
theorem An1 {f:Addr}{j:u5}(F:Fun K "is_value" "is_value" P0 f j) (b:Def P w K mg base "has_plain_signs" 1 ["text"] (spP K Ga)) (c:mg "bool" = none) (d:mg "int" = none) (a:mg "isinstance" = none) (e:mg "str" = none):FnOk P w K mg base CX0 2 f j ["thing"] (spP K Ff):=by
 refine F.ok Ah0 (fun m H Q E h=>Ce h) (fun k A g s H m Q E i h=>?_)
 have n:=i.units;have l:=i.gd
 refine Gg (Ai (Ds (Dz (Bg (Kq:=K) rfl rfl a (Af (qv 0) (Af (Cm (v:=.ty "bool") rfl c Vn rfl) Ae)))) (Ak (Az Hv)) Bq)
  (Ai (Ds (Dz (Bg (Kq:=K) rfl rfl a (Af (qv 0) (Af (Cm (v:=.ty "str") rfl e Pr rfl) Ae)))) (Ak (Az (Be b i (Af (qv 0) Ae)))) Bq)
  (Ak (Az (Bl9 (Yr (qv 0) Ob) (J6 (Bg (Kq:=K) rfl rfl a (Af (qv 0) (Af (Cm (v:=.ty "int") rfl d Ae7 rfl) Ae))))))))) ?_
 exact Cd (Av (Dq (Hz (Eg .bool Aa)) (Ax (Aq rfl)) Br)
  (Av (Dq (Hz (Eg _ Aa)) (Ax (Am (Ab Aa Ah))) Br)
  (Ax (A8z (Aj Aa (Aq rfl) Vh) (Eg _ Aa))))) h
theorem Bd5 {n:Nat}{f:Addr}{k:u5}(F:Fun K "rank" "rank" Ab1 f k) (c:Def P w K mg base "rank" (n) ["value"] (spP K (Gm n))) (d:mg "int" = none) (a:mg "isinstance" = none) (e:mg "str" = none) (b:mg "tuple" = none):FnOk P w K mg base CX0 (n+1) f k ["value"] (spP K (Gm (n+1))):=by
 refine F.ok Bg1 (fun o H Q E h=>Ce h) (fun l A g s H o Q E j h=>?_)
 have p:=j.units;have m:=j.gd
 refine Gg (Ai (Ds (Yl (qv 0) Ob) (Ak (Az (Du (Af Ag (Af Ag Ae))))) Bq)
  (Ai (Ds (Dz (Bg (Kq:=K) rfl rfl a (Af (qv 0) (Af (Cm (v:=.ty "int") rfl d Ae7 rfl) Ae)))) (Ak (Az (Du (Af Ag (Af (qv 0) Ae))))) Bq)
  (Ai (Ds (Dz (Bg (Kq:=K) rfl rfl a (Af (qv 0) (Af (Cm (v:=.ty "str") rfl e Pr rfl) Ae)))) (Ak (Az (Du (Af Ag (Af (qv 0) Ae))))) Bq)
  (Ak (Az (Du (Af Ag (Af (Ay (Kq:=K) rfl rfl b (Af (by exact(Gq (N':=["each"]) (idx:=[none]) (Dt rfl rfl (by trivial) rfl rfl rfl) rfl (Er (Kq:=K) rfl (qv 0)) (fun _ _ _ _ _=>by exact(Bj (i:=0) (by grind) rfl (Or.inl rfl))) (fun _ _ _ _ _=>by exact Dh) (fun _ _ _ _ _=>by exact(Be c j (Af (qv 0) Ae))))) Ae)) Ae)))))))) ?_
 exact Cd (Av (Dq (Bt (Aj Aa (Aq rfl) Vh)) (Ax (Ea (Ab (Aq rfl) (Ab (Aq rfl) Ah)))) Br)
  (Av (Dq (Hz (Eg .int Aa)) (Ax (Ea (Ab (Aq rfl) (Ab Aa Ah)))) Br)
  (Av (Dq (Hz (Eg .str Aa)) (Ax (Ea (Ab (Aq rfl) (Ab Aa Ah)))) Br)
  (Ax (Ea (Ab (Aq rfl) (Ab (Bh (Fj (by decide) (Em Aa) An Ed (Am (Ab Aa Ah))) Do) Ah))))))) h
theorem Al1 {f:Addr}{fd:u5}(F:Fun K "rank" "rank" Ab1 f fd) (bF:Binds K fd ["value"] []) (mF:mg "rank" = some (.ref f)) (zR:mg "int" = none) (z7:mg "isinstance" = none) (zO:mg "str" = none) (z8:mg "tuple" = none):∀n:Nat,FnOk P w K mg base CX0 (n) f fd ["value"] (spP K (Gm n))
 | 0=>A4r
 | n+1=>Bd5 F ⟨f,fd,Al1 F bF mF zR z7 zO z8 n,bF,F.kp,mF⟩ zR z7 zO z8
theorem A6c {f:Addr}{m:u5}(F:Fun K "risen" "risen" Ac6 f m) (c:Def P w K mg base "rank" 2 ["value"] (spP K (Gm 2))) (a:mg "sorted" = none):FnOk P w K mg base CX0 5 f m ["values"] (spP K K8):=by
 obtain⟨j,i,b,d,g,e⟩:=c
 refine F.ok A3w (fun p H Q E h=>Ce h) (fun n A k s H p Q E l h=>?_)
 have q:=l.units;have o:=l.gd
 refine Gg (Ak (Az (A6d  rfl b (l.mono (by omega)) d rfl a (Af (qv 0) Ae) (Bh1 (Ac2 (v:=.ref _) rfl e rfl) Bv6)))) ?_
 exact Cd (Ax (Bx0 Aa)) h
theorem As5 {f:Addr}{o:u5}(F:Fun K "is_name" "is_name" S6 f o) (l:mg "all" = none) (d:mg "isinstance" = none) (m:mg "len" = none) (k:mg "str" = none) (e:∃t,mg "LETTERS" = some (Value.str "abcdefghijklmnopqrstuvwxyz" t)) (a:∃t,mg "LONGEST_NAME" = some (Value.int 8 t)):FnOk P w K mg base CX0 1 f o ["thing"] (spP K Gn):=by
 obtain⟨g,j⟩:=e;obtain⟨b,c⟩:=a
 refine F.ok At2 (fun r H Q E h=>Ce h) (fun u A n s H r Q E q h=>?_)
 have p:=q.units;have x:=q.gd
 refine Gg (Ai (Ds (QW.qt (K5 (Gk (Dz (Bg (Kq:=K) rfl rfl d (Af (qv 0) (Af (Cm (v:=.ty "str") rfl k Pr rfl) Ae))))) (K5 (M3 p (qv 0) Hq) (Kr (Ww (Ew (Kq:=K) rfl rfl m (Af (qv 0) Ae)) (Ac2 (v:=.int 8) rfl c ⟨b,rfl⟩)))))) (Ak (Az Hv)) Bq)
  (Ak (Az (Eb (Kq:=K) rfl rfl rfl l (Af (by exact(Gq (N':=["sign"]) (idx:=[none]) (Dt rfl rfl (by decide +kernel) rfl rfl rfl) rfl (A6k (qv 0)) (fun _ _ _ _ _=>by exact(Bj (i:=0) (by grind) rfl (Or.inl rfl))) (fun _ _ _ _ _=>by exact Dh) (fun _ _ _ _ _=>by exact(B2c p (qv 0) (Ac2 (v:=.str "abcdefghijklmnopqrstuvwxyz") rfl j ⟨g,rfl⟩) (by rfl))))) Ae))))) ?_
 exact Cd (Av (Dq (K1 (Gi (Hz (Eg .str Aa))) (K1 (Bt (Aj Aa (Aq rfl) Fg)) (Bt (Aj (Ex Aa) (Aq rfl) Zr)))) (Ax (Aq rfl)) Br)
  (Ax (Bh (Fj (by decide) (A7i Aa) An Ed (Aj Aa (Aq rfl) A5f)) Im))) h
theorem Xo {f:Addr}{l:u5}(F:Fun K "are_columns" "are_columns" Kz f l) (b:Def P w K mg base "is_name" 1 ["thing"] (spP K Gn)) (g:mg "all" = none) (a:mg "isinstance" = none) (c:mg "len" = none) (e:mg "set" = none) (d:mg "tuple" = none):FnOk P w K mg base CX0 2 f l ["thing"] (spP K Gp):=by
 refine F.ok Xa (fun o H Q E h=>Ce h) (fun n A j s H o Q E k h=>?_)
 have m:=k.units;have p:=k.gd
 refine Gg (Ai (Ds (QW.qt (K5 (Gk (Dz (Bg (Kq:=K) rfl rfl a (Af (qv 0) (Af (Cm (v:=.ty "tuple") rfl d Fq rfl) Ae))))) (Kr (M3 m (Ew (Kq:=K) rfl rfl c (Af (qv 0) Ae)) Ag)))) (Ak (Az Hv)) Bq)
  (Ai (Ds (Gk (Dz (Eb (Kq:=K) rfl rfl rfl g (Af (by exact(Gq (N':=["name"]) (idx:=[none]) (Dt rfl rfl (by trivial) rfl rfl rfl) rfl (Er (Kq:=K) rfl (qv 0)) (fun _ _ _ _ _=>by exact(Bj (i:=0) (by grind) rfl (Or.inl rfl))) (fun _ _ _ _ _=>by exact Dh) (fun _ _ _ _ _=>by exact(Be b k (Af (qv 0) Ae))))) Ae)))) (Ak (Az Hv)) Bq)
  (Ak (Az (Q7 m (Au0 (Kq:=K) rfl rfl rfl e rfl c (qv 0)) (Ew (Kq:=K) rfl rfl c (Af (qv 0) Ae))))))) ?_
 exact Cd (Av (Dq (K1 (Gi (Hz (Eg .tuple Aa))) (Bt (Aj (Ex Aa) (Aq rfl) Fg))) (Ax (Aq rfl)) Br)
  (Av (Dq (Gi (Hz (Bh (Fj (by decide) (Em Aa) An Ed (Am (Ab Aa Ah))) Im))) (Ax (Aq rfl)) Br)
  (Ax (Aj (A1c Aa) (Ex Aa) Fg)))) h
theorem A3e {f:Addr}{k:u5}(F:Fun K "is_row" "is_row" Wu f k) (b:Def P w K mg base "is_value" 2 ["thing"] (spP K Ff)) (e:mg "all" = none) (a:mg "isinstance" = none) (d:mg "len" = none) (c:mg "tuple" = none):FnOk P w K mg base CX0 3 f k ["thing", "width"] (spP K Ft):=by
 refine F.ok A1n (fun n H Q E h=>Ce h) (fun l A g s H n Q E j h=>?_)
 have m:=j.gd
 refine Gg (Ai (Ds (QW.qt (K5 (Gk (Dz (Bg (Kq:=K) rfl rfl a (Af (qv 0) (Af (Cm (v:=.ty "tuple") rfl c Fq rfl) Ae))))) (Kr (Wc j.units (Ew (Kq:=K) rfl rfl d (Af (qv 0) Ae)) (qv 1))))) (Ak (Az Hv)) Bq)
  (Ak (Az (Eb (Kq:=K) rfl rfl rfl e (Af (by exact(Gq (N':=["value"]) (idx:=[none]) (Dt rfl rfl (by decide +kernel) rfl rfl rfl) rfl (Er (Kq:=K) rfl (qv 0)) (fun _ _ _ _ _=>by exact(Bj (i:=0) (by grind) rfl (Or.inl rfl))) (fun _ _ _ _ _=>by exact Dh) (fun _ _ _ _ _=>by exact(Be b j (Af (qv 0) Ae))))) Ae))))) ?_
 exact Cd (Av (Dq (K1 (Gi (Hz (Eg .tuple Aa))) (Bt (Aj (Ex Aa) Aa Qa))) (Ax (Aq rfl)) Br)
  (Ax (Bh (Fj (by decide) (Em Aa) An Ed (Am (Ab Aa Ah))) Im))) h
theorem Ab6 {f:Addr}{c:u5}(F:Fun K "values_at" "values_at" Ny f c) (a:mg "tuple" = none):FnOk P w K mg base CX0 1 f c ["row", "places"] (spP K Ey):=by
 refine F.ok Ad5 (fun g H Q E h=>Ce h) (fun j A b s H g Q E d h=>?_)
 have k:=d.units;have e:=d.gd
 refine Gg (Ak (Az (Ay (Kq:=K) rfl rfl a (Af (by exact(Gq (N':=["place", "row"]) (idx:=[none,some 0]) (Dt rfl rfl (by decide +kernel) rfl rfl rfl) rfl (Er (Kq:=K) rfl (qv 1)) (fun _ _ _ _ _=>by exact(Bj (i:=0) (by show (["place", "row"]:v4).Nodup;decide +kernel) rfl (Or.inl rfl))) (fun _ _ _ _ _=>by exact Dh) (fun _ _ _ _ _=>by exact(Bl (Kq:=K) rfl (qv 1) (qv 0) Ih)))) Ae)))) ?_
 exact Cd (Ax (Bh (Fj (by decide) (Em Aa) An Ed (Aj Aa Aa Bc)) Do)) h
theorem Av4 {f:Addr}{e:u5}(F:Fun K "is_pair" "is_pair" T3 f e) (a:mg "isinstance" = none) (c:mg "len" = none) (b:mg "tuple" = none):FnOk P w K mg base CX0 1 f e ["thing"] (spP K Fi):=by
 refine F.ok Aq6 (fun j H Q E h=>Ce h) (fun k A d s H j Q E g h=>?_)
 have i:=g.gd
 refine Gg (Ak (Az (J4 (Bg  rfl rfl a (Af (qv 0) (Af (Cm (v:=.ty _) rfl b Fq rfl) Ae))) (J6 (Q7 g.units (Ew  rfl rfl c (Af (qv 0) Ae)) Ag))))) ?_
 exact Cd (Ax (Ho (Eg _ Aa) (Aj (Ex Aa) (Aq rfl) Fg))) h
theorem O3 {f:Addr}{k:u5}(F:Fun K "are_wide_columns" "are_wide_columns" Hb f k) (a:Def P w K mg base "are_columns" 2 ["thing"] (spP K Gp)) (e:mg "all" = none) (b:mg "isinstance" = none) (d:mg "len" = none) (c:mg "tuple" = none):FnOk P w K mg base CX0 3 f k ["key", "names", "values"] (spP K El):=by
 refine F.ok O7 (fun n H Q E h=>Ce h) (fun l A g s H n Q E j h=>?_)
 have o:=j.units;have m:=j.gd
 refine Gg (Ai (Ds (Gk (Dz (Eb (Kq:=K) rfl rfl rfl e (Af (by exact(Gq (N':=["some"]) (idx:=[none]) (Dt rfl rfl (by decide +kernel) rfl rfl rfl) rfl (Er (Kq:=K) rfl (Du (Af (qv 0) (Af (qv 1) (Af (qv 2) Ae))))) (fun _ _ _ _ _=>by exact(Bj (i:=0) (by simp_all) rfl (Or.inl rfl))) (fun _ _ _ _ _=>by exact Dh) (fun _ _ _ _ _=>by exact(Bg (Kq:=K) rfl rfl b (Af (qv 0) (Af (Cm (v:=.ty "tuple") rfl c Fq rfl) Ae)))))) Ae)))) (Ak (Az Hv)) Bq)
  (Ak (Az (J4 (A4m (Ew (Kq:=K) rfl rfl d (Af (qv 2) Ae)) Ag) (J6 (Be a j (Af (Ec (Ec (qv 0) (qv 1)) (qv 2)) Ae))))))) ?_
 exact Cd (Av (Dq (Gi (Hz (Bh (Fj (by decide) (Em (Ea (Ab Aa (Ab Aa (Ab Aa Ah))))) An Ed (Eg .tuple Aa)) Im))) (Ax (Aq rfl)) Br)
  (Ax (Ho (Aj (Ex Aa) (Aq rfl) Zr) (Am (Ab (Aj (Aj Aa Aa Di) Aa Di) Ah))))) h
theorem Qn {f:Addr}{j:u5}(F:Fun K "are_unlike_rows" "are_unlike_rows" Hn f j) (a:Def P w K mg base "is_row" 3 ["thing", "width"] (spP K Ft)) (d:mg "all" = none) (b:mg "len" = none) (c:mg "set" = none):FnOk P w K mg base CX0 4 f j ["things", "width"] (spP K Cu):=by
 refine F.ok Pn (fun n H Q E h=>Ce h) (fun m A e s H n Q E g h=>?_)
 have k:=g.units;have l:=g.gd
 refine Gg (Ak (Az (J4 (Eb (Kq:=K) rfl rfl rfl d (Af (by exact(Gq (N':=["thing", "width"]) (idx:=[none,some 1]) (Dt rfl rfl (by decide +kernel) rfl rfl rfl) rfl (Er (Kq:=K) rfl (qv 0)) (fun _ _ _ _ _=>by exact(Bj (i:=0) (by show (["thing", "width"]:v4).Nodup;decide +kernel) rfl (Or.inl rfl))) (fun _ _ _ _ _=>by exact Dh) (fun _ _ _ _ _=>by exact(Be a g (Af (qv 0) (Af (qv 1) Ae)))))) Ae)) (J6 (Q7 k (Ak6 (Kq:=K) rfl rfl k rfl c rfl b (qv 0)) (Ew (Kq:=K) rfl rfl b (Af (qv 0) Ae))))))) ?_
 exact Cd (Ax (Ho (Bh (Fj (by decide) (Em Aa) An Ed (Am (Ab Aa (Ab Aa Ah)))) Im) (Aj (Ah9 Aa) (Ex Aa) Fg))) h
theorem Zo {f:Addr}{k:u5}(F:Fun K "are_cells" "are_cells" Nq f k) (b:Def P w K mg base "is_row" 3 ["thing", "width"] (spP K Ft)) (e:mg "all" = none) (a:mg "isinstance" = none) (d:mg "len" = none) (c:mg "tuple" = none):FnOk P w K mg base CX0 4 f k ["thing", "many", "width"] (spP K Ge):=by
 refine F.ok Aa4 (fun n H Q E h=>Ce h) (fun l A g s H n Q E j h=>?_)
 have m:=j.gd
 refine Gg (Ai (Ds (QW.qt (K5 (Gk (Dz (Bg (Kq:=K) rfl rfl a (Af (qv 0) (Af (Cm (v:=.ty "tuple") rfl c Fq rfl) Ae))))) (Kr (Wc j.units (Ew (Kq:=K) rfl rfl d (Af (qv 0) Ae)) (qv 1))))) (Ak (Az Hv)) Bq)
  (Ak (Az (Eb (Kq:=K) rfl rfl rfl e (Af (by exact(Gq (N':=["each", "width"]) (idx:=[none,some 2]) (Dt rfl rfl (by decide +kernel) rfl rfl rfl) rfl (Er (Kq:=K) rfl (qv 0)) (fun _ _ _ _ _=>by exact(Bj (i:=0) (by show (["each", "width"]:v4).Nodup;decide +kernel) rfl (Or.inl rfl))) (fun _ _ _ _ _=>by exact Dh) (fun _ _ _ _ _=>by exact(Bl9 (Yr (qv 0) Ob) (J6 (Be b j (Af (qv 0) (Af (qv 1) Ae)))))))) Ae))))) ?_
 exact Cd (Av (Dq (K1 (Gi (Hz (Eg .tuple Aa))) (Bt (Aj (Ex Aa) Aa Qa))) (Ax (Aq rfl)) Br)
  (Ax (Bh (Fj (by decide) (Em Aa) An Ed (A8z (Aj Aa (Aq rfl) Vh) (Am (Ab Aa (Ab Aa Ah))))) Im))) h
theorem Ao9 {f:Addr}{n:u5}(F:Fun K "is_wide" "is_wide" Tq f n) (j:Def P w K mg base "is_pair" 1 ["thing"] (spP K Fi)) (c:Def P w K mg base "are_wide_columns" 3 ["key", "names", "values"] (spP K El)) (a:Def P w K mg base "are_unlike_rows" 4 ["things", "width"] (spP K Cu)) (g:Def P w K mg base "are_cells" 4 ["thing", "many", "width"] (spP K Ge)) (k:mg "all" = none) (b:mg "isinstance" = none) (d:mg "len" = none) (e:mg "tuple" = none):FnOk P w K mg base CX0 5 f n ["thing"] (spP K J0):=by
 refine F.ok zZ (fun q H Q E h=>Ce h) (fun o A m s H q Q E l h=>?_)
 have p:=l.gd
 refine Gg (Ai (Ds (QW.qt (K5 (Gk (Dz (Bg (Kq:=K) rfl rfl b (Af (qv 0) (Af (Cm (v:=.ty "tuple") rfl e Fq rfl) Ae))))) (K5 (Wc l.units (Ew (Kq:=K) rfl rfl d (Af (qv 0) Ae)) Ag) (Kr (Gk (Dz (Be c l (Af (Bl (Kq:=K) rfl (qv 0) Ag Ba) (Af (Bl (Kq:=K) rfl (qv 0) Ag Ba) (Af (Bl (Kq:=K) rfl (qv 0) Ag Ba) Ae)))))))))) (Ak (Az Hv)) Bq)
  (Ai (Dc (i:=1) zZ.nd rfl (Or.inr rfl) (Bl (Kq:=K) rfl (qv 0) Ag Ba))
  (Ai (Dc (i:=2) zZ.nd rfl (Or.inl rfl) (Bl (Kq:=K) rfl (qv 0) Ag Ba))
  (Ai (Ds (QW.qt (K5 (Gk (Dz (Bg (Kq:=K) rfl rfl b (Af (qv 1) (Af (Cm (v:=.ty "tuple") rfl e Fq rfl) Ae))))) (Kr (Gk (Dz (Be a l (Af (qv 1) (Af (Ew (Kq:=K) rfl rfl d (Af (Bl (Kq:=K) rfl (qv 0) Ag Ba) Ae)) Ae)))))))) (Ak (Az Hv)) Bq)
  (Ai (Ds (QW.qt (K5 (Gk (Dz (Bg (Kq:=K) rfl rfl b (Af (qv 2) (Af (Cm (v:=.ty "tuple") rfl e Fq rfl) Ae))))) (Kr (Gk (Dz (Eb (Kq:=K) rfl rfl rfl k (Af (by exact(Gq (N':=["row"]) (idx:=[none]) (Dt rfl rfl (by decide +kernel) rfl rfl rfl) rfl (Er (Kq:=K) rfl (qv 2)) (fun _ _ _ _ _=>by exact(Bj (i:=0) (by show (["row"]:v4).Nodup;decide +kernel) rfl (Or.inl rfl))) (fun _ _ _ _ _=>by exact Dh) (fun _ _ _ _ _=>by exact(Be j l (Af (qv 0) Ae))))) Ae))))))) (Ak (Az Hv)) Bq)
  (Ai (Ds (Gk (Dz (Be a l (Af (by exact(Gq (N':=["row"]) (idx:=[none]) (Dt rfl rfl (by decide +kernel) rfl rfl rfl) rfl (Er (Kq:=K) rfl (qv 2)) (fun _ _ _ _ _=>by exact(Bj (i:=0) (by show (["row"]:v4).Nodup;decide +kernel) rfl (Or.inl rfl))) (fun _ _ _ _ _=>by exact Dh) (fun _ _ _ _ _=>by exact(Bl (Kq:=K) rfl (qv 0) Ag Ba)))) (Af (Ew (Kq:=K) rfl rfl d (Af (Bl (Kq:=K) rfl (qv 0) Ag Ba) Ae)) Ae))))) (Ak (Az Hv)) Bq)
  (Ak (Az (Eb (Kq:=K) rfl rfl rfl k (Af (by exact(Gq (N':=["row", "heads", "thing"]) (idx:=[none,some 1,some 0]) (Dt rfl rfl (by decide +kernel) rfl rfl rfl) rfl (Er (Kq:=K) rfl (qv 2)) (fun _ _ _ _ _=>by exact(Bj (i:=0) (by show (["row", "heads", "thing"]:v4).Nodup;decide +kernel) rfl (Or.inl rfl))) (fun _ _ _ _ _=>by exact Dh) (fun _ _ _ _ _=>by exact(Be g l (Af (Bl (Kq:=K) rfl (qv 0) Ag Ba) (Af (Ew (Kq:=K) rfl rfl d (Af (qv 1) Ae)) (Af (Ew (Kq:=K) rfl rfl d (Af (Bl (Kq:=K) rfl (qv 2) Ag Ba) Ae)) Ae))))))) Ae)))))))))) ?_
 exact Cd (Av (Dq (K1 (Gi (Hz (Eg .tuple Aa))) (K1 (Bt (Aj (Ex Aa) (Aq rfl) Qa)) (Gi (Hz (Am (Ab (Aj Aa (Aq rfl) Bc) (Ab (Aj Aa (Aq rfl) Bc) (Ab (Aj Aa (Aq rfl) Bc) Ah)))))))) (Ax (Aq rfl)) Br)
  (Av (Bu (Aj Aa (Aq rfl) Bc) An)
  (Av (Bu (Aj Aa (Aq rfl) Bc) An)
  (Av (Dq (K1 (Gi (Hz (Eg .tuple Aa))) (Gi (Hz (Am (Ab Aa (Ab (Ex (Aj Aa (Aq rfl) Bc)) Ah)))))) (Ax (Aq rfl)) Br)
  (Av (Dq (K1 (Gi (Hz (Eg .tuple Aa))) (Gi (Hz (Bh (Fj (by decide) (Em Aa) An Ed (Am (Ab Aa Ah))) Im)))) (Ax (Aq rfl)) Br)
  (Av (Dq (Gi (Hz (Am (Ab (Fj (by decide) (Em Aa) An Ed (Aj Aa (Aq rfl) Bc)) (Ab (Ex (Aj Aa (Aq rfl) Bc)) Ah))))) (Ax (Aq rfl)) Br)
  (Ax (Bh (Fj (by decide) (Em Aa) An Ed (Am (Ab (Aj Aa (Aq rfl) Bc) (Ab (Ex Aa) (Ab (Ex (Aj Aa (Aq rfl) Bc)) Ah))))) Im)))))))) h
theorem Ah7 {f:Addr}{c:u5}(F:Fun K "parts_of" "parts_of" Ql f c) (a:mg "tuple" = none):FnOk P w K mg base CX0 1 f c ["wide"] (spP K Fy):=by
 refine F.ok Ag3 (fun g H Q E h=>Ce h) (fun j A b s H g Q E d h=>?_)
 have k:=d.units;have e:=d.gd
 refine Gg (Ak (Az (Ay (Kq:=K) rfl rfl a (Af (by exact(Gq (N':=["part", "cells"]) (idx:=[none,none]) (Dt rfl rfl (by decide +kernel) rfl rfl rfl) rfl (Er (Kq:=K) rfl (Bl (Kq:=K) rfl (qv 0) Ag Ba)) (fun _ _ _ _ _=>by exact(Ni (Kq:=K) rfl (n:=2) rfl (Ek (Bj (i:=0) (by show (["part", "cells"]:v4).Nodup;trivial) rfl (Or.inl rfl)) (Ek (Bj (i:=1) (by show (["part", "cells"]:v4).Nodup;decide +kernel) rfl (Or.inl rfl)) Ke)))) (fun _ _ _ _ _=>by exact Dh) (fun _ _ _ _ _=>by exact(qv 0)))) Ae)))) ?_
 exact Cd (Ax (Bh (Fj (by decide) (Em (Aj Aa (Aq rfl) Bc)) (N7 (Ej An (Ej An Kh))) Ed Aa) Do)) h
theorem Wy {f:Addr}{c:u5}(F:Fun K "cells_under" "cells_under" Kv f c) (a:mg "tuple" = none):FnOk P w K mg base CX0 1 f c ["wide", "place"] (spP K Et):=by
 refine F.ok Wm (fun g H Q E h=>Ce h) (fun j A b s H g Q E d h=>?_)
 have k:=d.units;have e:=d.gd
 refine Gg (Ak (Az (Ay (Kq:=K) rfl rfl a (Af (by exact(Gq (N':=["part", "cells", "place"]) (idx:=[none,none,some 1]) (Dt rfl rfl (by decide +kernel) rfl rfl rfl) rfl (Er (Kq:=K) rfl (Bl (Kq:=K) rfl (qv 0) Ag Ba)) (fun _ _ _ _ _=>by exact(Ni (Kq:=K) rfl (n:=2) rfl (Ek (Bj (i:=0) (by show (["part", "cells", "place"]:v4).Nodup;decide +kernel) rfl (Or.inl rfl)) (Ek (Bj (i:=1) (by show (["part", "cells", "place"]:v4).Nodup;decide +kernel) rfl (Or.inl rfl)) Ke)))) (fun _ _ _ _ _=>by exact Dh) (fun _ _ _ _ _=>by exact(Bl (Kq:=K) rfl (qv 1) (qv 2) Ih)))) Ae)))) ?_
 exact Cd (Ax (Bh (Fj (by decide) (Em (Aj Aa (Aq rfl) Bc)) (N7 (Ej An (Ej An Kh))) Ed (Aj Aa Aa Bc)) Do)) h
theorem Tz {f:Addr}{e:u5}(F:Fun K "with_heads_at" "with_heads_at" Je f e) (a:Def P w K mg base "values_at" 1 ["row", "places"] (spP K Ey)) (b:mg "tuple" = none):FnOk P w K mg base CX0 2 f e ["wide", "places"] (spP K Fo):=by
 refine F.ok zT (fun j H Q E h=>Ce h) (fun k A d s H j Q E c h=>?_)
 have l:=c.units;have g:=c.gd
 refine Gg (Ai (by exact(N6 (i:=2) zT.nd rfl (Or.inl rfl) (N':=["part", "cells", "places"]) (idx:=[none,none,some 1]) (Dt rfl rfl (by decide +kernel) rfl rfl rfl) rfl (Er (Kq:=K) rfl (Bl (Kq:=K) rfl (qv 0) Ag Ba)) (fun _ _ _ _ _=>by exact(Ni (Kq:=K) rfl (n:=2) rfl (Ek (Bj (i:=0) (by show (["part", "cells", "places"]:v4).Nodup;decide +kernel) rfl (Or.inl rfl)) (Ek (Bj (i:=1) (by show (["part", "cells", "places"]:v4).Nodup;decide +kernel) rfl (Or.inl rfl)) Ke)))) (fun _ _ _ _ _=>by exact Dh) (fun _ _ _ _ _=>by exact(Du (Af (qv 0) (Af (Be a c (Af (qv 1) (Af (qv 2) Ae))) Ae))))))
  (Ak (Az (Ec (Vr (Kq:=K) rfl (qv 0) Sd (Ik Ag)) (Du (Af (Be a c (Af (Bl (Kq:=K) rfl (qv 0) Ag Ba) (Af (qv 1) Ae))) (Af (Ay (Kq:=K) rfl rfl b (Af (qv 2) Ae)) Ae))))))) ?_
 exact Cd (Av (Bu (Fj (by decide) (Em (Aj Aa (Aq rfl) Bc)) (N7 (Ej An (Ej An Kh))) Ed (Ea (Ab Aa (Ab (Am (Ab Aa (Ab Aa Ah))) Ah)))) An)
  (Ax (Aj (V6 Aa Sw (Jm (Aq rfl)) Mx) (Ea (Ab (Am (Ab (Aj Aa (Aq rfl) Bc) (Ab Aa Ah))) (Ab (Bh Aa Do) Ah))) Di))) h
theorem T8 {f:Addr}{i:u5}(F:Fun K "is_told_order" "is_told_order" Jd f i) (b:Def P w K mg base "is_pair" 1 ["thing"] (spP K Fi)) (a:mg "isinstance" = none) (d:mg "list" = none) (c:mg "tuple" = none):FnOk P w K mg base CX0 2 f i ["order"] (spP K Fv):=by
 refine F.ok S5 (fun l H Q E h=>Ce h) (fun j A g s H l Q E e h=>?_)
 have k:=e.gd
 refine Gg (Ak (Az (J4 (Be b e (Af (qv 0) Ae)) (J4 (Q7 e.units (Bl (Kq:=K) rfl (qv 0) Ag Ba) Hq) (J6 (Rt (Kq:=K) rfl rfl a (Af (Bl (Kq:=K) rfl (qv 0) Ag Ba) (Af (Du (Af (Cm (v:=.ty "list") rfl d Oi rfl) (Af (Cm (v:=.ty _) rfl c Fq rfl) Ae))) Ae)))))))) ?_
 exact Cd (Ax (Ho (Am (Ab Aa Ah)) (Ho (Aj (Aj Aa (Aq rfl) Bc) (Aq rfl) Fg) (Ax9 .list .tuple (Aj Aa (Aq rfl) Bc))))) h
theorem Tt {f:Addr}{m:u5}(F:Fun K "in_told_order" "in_told_order" Jc f m) {n p:Addr} (e:(p,("in_told_order" : Str) ++ ".<locals>." ++ "<lambda>")∈Eu K) (g:PySem.W.codeHdIn K n p=true) (j:m.code=.ref n) (a:mg "sorted" = none):FnOk P w K mg base CX0 5 f m ["things", "told"] (spP K Fp):=by
 refine F.okL zM (fun r H Q E h=>Ce h) (fun q A l s H r Q E c b h=>?_)
 have o:=b.units;have d:=b.gd
 refine Gg (Ai (by exact(N6 (i:=2) zM.nd rfl (Or.inl rfl) (N':=["thing", "told"]) (idx:=[none,some 1]) (Dt rfl rfl (by decide +kernel) rfl rfl rfl) rfl (Er (Kq:=K) rfl (qv 0)) (fun _ _ _ _ _=>by exact(Bj (i:=0) (by show (["thing", "told"]:v4).Nodup;decide +kernel) rfl (Or.inl rfl))) (fun _ _ _ _ _=>by exact(Ay4 (B2x o (qv 0) (qv 1) (by with_unfolding_all rfl)))) (fun _ _ _ _ _=>by exact(qv 0))))
  (Ai (by exact(N6 (i:=3) zM.nd rfl (Or.inl rfl) (N':=["thing", "told"]) (idx:=[none,some 1]) (Dt rfl rfl (by decide +kernel) rfl rfl rfl) rfl (Er (Kq:=K) rfl (qv 0)) (fun _ _ _ _ _=>by exact(Bj (i:=0) (by show (["thing", "told"]:v4).Nodup;decide +kernel) rfl (Or.inl rfl))) (fun _ _ _ _ _=>by exact(Ay4 (Mr o (qv 0) (qv 1) (by with_unfolding_all rfl)))) (fun _ _ _ _ _=>by exact(qv 0))))
  (Ak (Az (Ec (A3x (Kq:=K) rfl (k:=1) (x := "thing") (N':=["told"]) (idx:=[some 1]) e g (c.symm.trans j) b rfl a (Af (qv 2) Ae) ⟨Dt rfl rfl (by decide +kernel) rfl rfl rfl,by decide +kernel⟩ (fun _ _ _ _ _ b=>by have d:=b.gd;exact(Bt2 (Kq:=K) rfl b.units (qv 1) (Af (qv 0) Ae)))) (qv 3)))))) ?_
 exact Cd (Av (Bu (Fj (by decide) (Em Aa) An (Bt (Aj Aa Aa A5f)) Aa) An)
  (Av (Bu (Fj (by decide) (Em Aa) An (Bt (Aj Aa Aa Tf)) Aa) An)
  (Ax (Aj (Bh6 (js:=[1]) (F:=Bw) Aa (Bi5 (Bz8 Aa Aa) ["thing", "told"] rfl)) Aa Di)))) h
theorem Aj6 {f:Addr}{k:u5}(F:Fun K "in_order" "in_order" Qm f k) (d:Def P w K mg base "risen" 5 ["values"] (spP K K8)) (b:Def P w K mg base "is_told_order" 2 ["order"] (spP K Fv)) (a:Def P w K mg base "in_told_order" 5 ["things", "told"] (spP K Fp)) (e:mg "list" = none) (c:mg "reversed" = none):FnOk P w K mg base CX0 6 f k ["things", "order"] (spP K Dm):=by
 refine F.ok An9 (fun m H Q E h=>Ce h) (fun n A i s H m Q E g h=>?_)
 have j:=g.units;have l:=g.gd
 refine Gg (Ai (Ds (M3 j (qv 1) Hq) (Ak (Az (Mz (Kq:=K) rfl rfl e (Af (qv 0) Ae)))) Bq)
  (Ai (Ds (M3 j (qv 1) Hq) (Ak (Az (Be d g (Af (qv 0) Ae)))) Bq)
  (Ai (Ds (M3 j (qv 1) Hq) (Ak (Az (At5 (Kq:=K) rfl rfl rfl e rfl c (Af (Be d g (Af (qv 0) Ae)) Ae)))) Bq)
  (Ai (Ds (Dz (Be b g (Af (qv 1) Ae))) (Ak (Az (Be a g (Af (qv 0) (Af (Bl (Kq:=K) rfl (qv 1) Ag Ba) Ae))))) Bq)
  (Ak A4a))))) ?_
 exact Cd (Av (Dq (Bt (Aj Aa (Aq rfl) Fg)) (Ax (Bh Aa Ai6)) Br)
  (Av (Dq (Bt (Aj Aa (Aq rfl) Fg)) (Ax (Am (Ab Aa Ah))) Br)
  (Av (Dq (Bt (Aj Aa (Aq rfl) Fg)) (Ax (Bg9 (Am (Ab Aa Ah)))) Br)
  (Av (Dq (Hz (Am (Ab Aa Ah))) (Ax (Am (Ab Aa (Ab (Aj Aa (Aq rfl) Bc) Ah)))) Br)
  A5o)))) h
theorem Ag5 {f:Addr}{e:u5}(F:Fun K "heads_in" "heads_in" Pz f e) (a:Def P w K mg base "with_heads_at" 2 ["wide", "places"] (spP K Fo)) (b:Def P w K mg base "in_order" 6 ["things", "order"] (spP K Dm)):FnOk P w K mg base CX0 7 f e ["wide", "order"] (spP K Hj):=by
 refine F.ok yG (fun j H Q E h=>Ce h) (fun k A d s H j Q E c h=>?_)
 have g:=c.gd
 refine Gg (Ai (Dc (i:=2) yG.nd rfl (Or.inr rfl) (Bl (Kq:=K) rfl (qv 0) Ag Ba))
  (Ak (Az (Be a c (Af (qv 0) (Af (by exact(Gq (N':=["head", "heads"]) (idx:=[none,some 2]) (Dt rfl rfl (by decide +kernel) rfl rfl rfl) rfl (Er (Kq:=K) rfl (Be b c (Af (qv 2) (Af (qv 1) Ae)))) (fun _ _ _ _ _=>by exact(Bj (i:=0) (by show (["head", "heads"]:v4).Nodup;decide +kernel) rfl (Or.inl rfl))) (fun _ _ _ _ _=>by exact Dh) (fun _ _ _ _ _=>by exact(Bl3 (Kq:=K) rfl PySem.F.plainAttrs_tuple PySem.F.slot_tuple_index PySem.F.type_tuple_index (Zj c.units) (qv 1) (Af (qv 0) Ae))))) Ae)))))) ?_
 exact Cd (Av (Bu (Aj Aa (Aq rfl) Bc) An)
  (Ax (Am (Ab Aa (Ab (Fj (by decide) (Em (Am (Ab Aa (Ab Aa Ah)))) An Ed (B2f Aa Aa A7n Xq)) Ah))))) h
theorem Am4 {f:Addr}{j:u5}(F:Fun K "parts_in" "parts_in" Qv f j) (b:Def P w K mg base "parts_of" 1 ["wide"] (spP K Fy)) (a:Def P w K mg base "in_order" 6 ["things", "order"] (spP K Dm)) (d:mg "dict" = none) (c:mg "tuple" = none):FnOk P w K mg base CX0 7 f j ["wide", "order"] (spP K Hi):=by
 refine F.ok zX (fun n H Q E h=>Ce h) (fun m A g s H n Q E e h=>?_)
 have k:=e.units;have l:=e.gd
 refine Gg (Ai (Dc (i:=2) zX.nd rfl (Or.inr rfl) (B3b (Kq:=K) rfl rfl k rfl d (Bl (Kq:=K) rfl (qv 0) Ag Ba)))
  (Ai (by exact(N6 (i:=3) zX.nd rfl (Or.inl rfl) (N':=["part", "cells"]) (idx:=[none,some 2]) (Dt rfl rfl (by decide +kernel) rfl rfl rfl) rfl (Er (Kq:=K) rfl (Be a e (Af (Be b e (Af (qv 0) Ae)) (Af (qv 1) Ae)))) (fun _ _ _ _ _=>by exact(Bj (i:=0) (by show (["part", "cells"]:v4).Nodup;decide +kernel) rfl (Or.inl rfl))) (fun _ _ _ _ _=>by exact Dh) (fun _ _ _ _ _=>by exact(Du (Af (qv 0) (Af (Bt0 k (qv 1) (qv 0) Ih) Ae))))))
  (Ak (Az (Ec (Vr (Kq:=K) rfl (qv 0) Sd (Ik Ag)) (Du (Af (Ay (Kq:=K) rfl rfl c (Af (qv 3) Ae)) Ae))))))) ?_
 exact Cd (Av (Bu (B2l (Aj Aa (Aq rfl) Bc)) An)
  (Av (Bu (Fj (by decide) (Em (Am (Ab (Am (Ab Aa Ah)) (Ab Aa Ah)))) An Ed (Ea (Ab Aa (Ab (Bc2 Aa Aa) Ah)))) An)
  (Ax (Aj (V6 Aa Sw (Jm (Aq rfl)) Mx) (Ea (Ab (Bh Aa Do) Ah)) Di)))) h
theorem Aa7 {f:Addr}{j:u5}(F:Fun K "exchanged" "exchanged" Nj f j) (c:Def P w K mg base "parts_of" 1 ["wide"] (spP K Fy)) (a:Def P w K mg base "cells_under" 1 ["wide", "place"] (spP K Et)) (b:mg "enumerate" = none) (d:mg "tuple" = none):FnOk P w K mg base CX0 2 f j ["wide"] (spP K Fd):=by
 refine F.ok yD (fun l H Q E h=>Ce h) (fun m A g s H l Q E e h=>?_)
 have o:=e.units;have k:=e.gd
 refine Gg (Ai (by exact(N6 (i:=1) yD.nd rfl (Or.inl rfl) (N':=["place", "head", "wide"]) (idx:=[none,none,some 0]) (Dt rfl rfl (by decide +kernel) rfl rfl rfl) rfl (A0d rfl b (Af (Bl (Kq:=K) rfl (qv 0) Ag Ba) Ae)) (fun _ _ _ _ _=>by exact(Ni (Kq:=K) rfl (n:=2) rfl (Ek (Bj (i:=0) (by show (["place", "head", "wide"]:v4).Nodup;decide +kernel) rfl (Or.inl rfl)) (Ek (Bj (i:=1) (by show (["place", "head", "wide"]:v4).Nodup;decide +kernel) rfl (Or.inl rfl)) Ke)))) (fun _ _ _ _ _=>by exact Dh) (fun _ _ _ _ _=>by exact(Du (Af (qv 1) (Af (Be a e (Af (qv 2) (Af (qv 0) Ae))) Ae))))))
  (Ak (Az (Du (Af (Bl (Kq:=K) rfl (qv 0) Ag Ba) (Af (Bl (Kq:=K) rfl (qv 0) Ag Ba) (Af (Bl (Kq:=K) rfl (qv 0) Ag Ba) (Af (Be c e (Af (qv 0) Ae)) (Af (Ay (Kq:=K) rfl rfl d (Af (qv 1) Ae)) Ae))))))))) ?_
 exact Cd (Av (Bu (Fj (by decide) (Aw2 (Aj Aa (Aq rfl) Bc)) (N7 (Ej An (Ej An Kh))) Ed (Ea (Ab Aa (Ab (Am (Ab Aa (Ab Aa Ah))) Ah)))) An)
  (Ax (Ea (Ab (Aj Aa (Aq rfl) Bc) (Ab (Aj Aa (Aq rfl) Bc) (Ab (Aj Aa (Aq rfl) Bc) (Ab (Am (Ab Aa Ah)) (Ab (Bh Aa Do) Ah)))))))) h
theorem Ab4 {f:Addr}{c:u5}(F:Fun K "_law_cell_at" "_law_cell_at" Oe f c) (a:mg "len" = none):FnOk P w K mg base CX0 1 f c ["_law_script", "_law_k"] (spP K G3):=by
 refine F.ok Zq (fun g H Q E h=>Ce h) (fun i A b s H g Q E d h=>?_)
 have j:=d.units;have e:=d.gd
 refine Gg (Ai (Ds (V1 (qv 1) (Ew  rfl rfl a (Af (qv 0) Ae))) (Ak (Az (Bn2 (show IxR _ _ from Bw3) (qv 0) (qv 1) Ih))) Bq)
  (Ak (Az Ag))) ?_
 exact Cd (Av (Dq (Bt (Aj Aa (Ex Aa) Zt)) (Ax (Bz7 Aa Aa)) Br)
  (Ax (Aq rfl))) h
theorem A9t {f:Addr}{g:u5}(F:Fun K "_law_box" "_law_box" Ab0 f g) (a:Def P w K mg base "_law_cell_at" 1 ["_law_script", "_law_k"] (spP K G3)) (b:mg "abs" = none) (c:mg "int" = none):FnOk P w K mg base CX0 2 f g ["_law_script", "_law_k"] (spP K Nx):=by
 refine F.ok yL (fun k H Q E h=>Ce h) (fun l A e s H k Q E d h=>?_)
 have m:=d.units;have j:=d.gd
 refine Gg (Ai (Dc (i:=2) yL.nd rfl (Or.inl rfl) (Be a d (Af (qv 0) (Af (qv 1) Ae))))
  (Ak (Az (Gr (Af (Jr (Uv (Kq:=K) rfl rfl b (Af (qv 2) Ae)) (Zv (Kq:=K) rfl rfl c (Af (A7o (Uv (Kq:=K) rfl rfl b (Af (qv 2) Ae)) (Jp Ag Ag)) Ae))) (Af (Ec (Ec (Ig (qv 2) Ag) (Jr Ag (qv 1))) Ag) (Af Ag Ae))))))) ?_
 exact Cd (Av (Bu (Am (Ab Aa (Ab Aa Ah))) An)
  (Ax (Gv (Ab (Aj (Bh Aa Az9) (Bh (Aj (Bh Aa Az9) (Aj (Aq rfl) (Aq rfl) Ox) Bu7) Bl0) K7) (Ab (Aj (Aj (Aj Aa (Aq rfl) Mp) (Aj (Aq rfl) Aa K7) Di) (Aq rfl) Di) (Ab (Aq rfl) Ah)))))) h
theorem A2p {f:Addr}{b:u5}(F:Fun K "_law_take" "_law_take" Wk f b):FnOk P w K mg base CX0 1 f b ["_law_box_here", "_law_many_here"] (spP K Ao):=by
 refine F.ok zV (fun d H Q E h=>Ce h) (fun g A a s H d Q E c h=>?_)
 have j:=c.units;have e:=c.gd
 refine Gg (Ai (Ds (Ww (Bl (Kq:=K) rfl (qv 0) Ag Ba) Ag) (Ai (Dc (i:=2) zV.nd rfl (Or.inl rfl) (Ig (Bl (Kq:=K) rfl (qv 0) Ag Ba) (qv 1)))
  (Ai (A6z (V3 (Bl (Kq:=K) rfl (qv 0) Ag Ba) (qv 1)) (A7b (qv 0) Ag set_list))
  (Ak (Az (qv 2))))) Bq)
  (Ai (A6z (Ec (Bl (Kq:=K) rfl (qv 0) Ag Ba) Ag) (A7b (qv 0) Ag set_list))
  (Ai (Dc (i:=3) zV.nd rfl (Or.inl rfl) (Ig (Jr (Ec (Bl (Kq:=K) rfl (qv 0) Ag Ba) (Jr Ag (Bl (Kq:=K) rfl (qv 0) Ag Ba))) (Ec Ag (Bl (Kq:=K) rfl (qv 0) Ag Ba))) Ag))
  (Ai (Dc (i:=4) zV.nd rfl (Or.inl rfl) (Ig (Jr (Ec (qv 3) (Bl (Kq:=K) rfl (qv 0) Ag Ba)) (Ec (Ig (qv 3) Ag) Ag)) Ag))
  (Ak (Az (Ig (V3 (Ig (Ec (Jr (qv 4) Ag) (qv 3)) Ag) Ag) (qv 1)))))))) ?_
 exact Cd (Av (Dq (Bt (Aj (Aj Aa (Aq rfl) Bc) (Aq rfl) Zr)) (Av (Bu (Aj (Aj Aa (Aq rfl) Bc) Aa Mp) An)
  (Av (Bu (Aj (Aj Aa (Aq rfl) Bc) Aa An0) (A5w Aa (Aq rfl)))
  (Ax Aa))) Br)
  (Av (Bu (Aj (Aj Aa (Aq rfl) Bc) (Aq rfl) Di) (A5w Aa (Aq rfl)))
  (Av (Bu (Aj (Aj (Aj (Aj Aa (Aq rfl) Bc) (Aj (Aq rfl) (Aj Aa (Aq rfl) Bc) K7) Di) (Aj (Aq rfl) (Aj Aa (Aq rfl) Bc) Di) K7) (Aq rfl) Mp) An)
  (Av (Bu (Aj (Aj (Aj Aa (Aj Aa (Aq rfl) Bc) Di) (Aj (Aj Aa (Aq rfl) Mp) (Aq rfl) Di) K7) (Aq rfl) Mp) An)
  (Ax (Aj (Aj (Aj (Aj (Aj Aa (Aq rfl) K7) Aa Di) (Aq rfl) Mp) (Aq rfl) An0) Aa Mp)))))) h
theorem A1t {f:Addr}{d:u5}(F:Fun K "_law_many" "_law_many" Wv f d) (a:Def P w K mg base "_law_take" 1 ["_law_box_here", "_law_many_here"] (spP K Ao)):FnOk P w K mg base CX0 2 f d ["_law_box_here", "_law_least", "_law_few", "_law_most"] (spP K Ie):=by
 refine F.ok A3d (fun g H Q E h=>Ce h) (fun i A c s H g Q E b h=>?_)
 have e:=b.gd
 refine Gg (Ai (Ds (M3 b.units (Be a b (Af (qv 0) (Af Ag Ae))) Ag) (Ak (Az (Ec Ag (Be a b (Af (qv 0) (Af (G4 (qv 3) Ag) Ae)))))) Bq)
  (Ak (Az (Ec (qv 1) (Be a b (Af (qv 0) (Af (Ec (G4 (qv 2) (qv 1)) Ag) Ae))))))) ?_
 exact Cd (Av (Dq (Bt (Aj (Am (Ab Aa (Ab (Aq rfl) Ah))) (Aq rfl) Fg)) (Ax (Aj (Aq rfl) (Am (Ab Aa (Ab (Aj Aa (Aq rfl) Jj) Ah))) Di)) Br)
  (Ax (Aj Aa (Am (Ab Aa (Ab (Aj (Aj Aa Aa Jj) (Aq rfl) Di) Ah))) Di))) h
theorem Ao0 {f:Addr}{m:u5}(F:Fun K "_law_names" "_law_names" Ub f m) (d:Def P w K mg base "_law_take" 1 ["_law_box_here", "_law_many_here"] (spP K Ao)) (g:mg "len" = none) (e:mg "range" = none):FnOk P w K mg base CX0 2 f m ["_law_box_here", "_law_many_here"] (spP K H9):=by
 refine F.ok yI (fun l H Q E h=>Ce h) (fun n A j s H l Q E k h=>?_)
 have p:=k.units;have o:=k.gd
 refine Gg (Ai (Dc (i:=2) yI.nd rfl (Or.inr rfl) (Gr (Yv (vs:=[.str "b",.str "a",.str "year",.str "z",.str "ab",.str "month",.str "aa",.str "quantity",.str "c",.str "town",.str "zz",.str "ba"]) rfl)))
  (Ak (Az (by exact(Gq (N':=["_law_turn", "_law_some", "_law_box_here"]) (idx:=[none,some 2,some 0]) (Dt rfl rfl (by decide +kernel) rfl rfl rfl) rfl (Jq rfl e (Af (qv 1) Ae)) (fun _ _ _ _ _=>by exact(Bj (i:=0) (by show (["_law_turn", "_law_some", "_law_box_here"]:v4).Nodup;decide +kernel) rfl (Or.inl rfl))) (fun _ _ _ _ _=>by exact Dh) (fun _ _ _ _ _=>by exact(Bl3 (Kq:=K) rfl gf PySem.F.slot_list_pop PySem.F.type_list_pop A5u (qv 1) (Af (Be d k (Af (qv 2) (Af (Ew (Kq:=K) rfl rfl g (Af (qv 1) Ae)) Ae))) Ae)))))))) ?_
 exact Cd (Av (Bu (Gv (B3k rfl)) An)
  (Ax (Fj (by decide) (Og Aa) An Ed (A5a Aa (Am (Ab Aa (Ab (Ex Aa) Ah))))))) h
theorem Ap9 {f:Addr}{g:u5}(F:Fun K "_law_value" "_law_value" Tn f g) (c:Def P w K mg base "_law_take" 1 ["_law_box_here", "_law_many_here"] (spP K Ao)):FnOk P w K mg base CX0 2 f g ["_law_box_here"] (spP K Cr):=by
 refine F.ok yJ (fun k H Q E h=>Ce h) (fun m A e s H k Q E d h=>?_)
 have j:=d.units;have l:=d.gd
 refine Gg (Ai (Dc (i:=1) yJ.nd rfl (Or.inl rfl) (Be c d (Af (qv 0) (Af Ag Ae))))
  (Ai (Ds (V1 (qv 1) Ag) (Ak (Az (G4 (Be c d (Af (qv 0) (Af Ag Ae))) Ag))) Bq)
  (Ai (Ds (M3 j (qv 1) Ag) (Ak (Az (Bl (Kq:=K) rfl (Gr (Af (G4 (Jp Ag Ag) Ag) (Af (G4 Ag (Jp Ag Ag)) (Af Ag (Af Ag Ae))))) (Be c d (Af (qv 0) (Af Ag Ae))) Gw))) Bq)
  (Ai (Ds (M3 j (qv 1) Ag) (Ak (Az Ob)) Bq)
  (Ak (Az (Bl (Kq:=K) rfl (Gr (Yv (vs:=[.str "",.str "a",.str "b",.str "B",.str "10",.str "9",.str "-",.str "a b",.str "it's",.str "\\",.str "/",.str "_",.str ":",.str "None",.str "ab"]) rfl)) (Be c d (Af (qv 0) (Af Ag Ae))) Gw))))))) ?_
 exact Cd (Av (Bu (Am (Ab Aa (Ab (Aq rfl) Ah))) An)
  (Av (Dq (Bt (Aj Aa (Aq rfl) Zt)) (Ax (Aj (Am (Ab Aa (Ab (Aq rfl) Ah))) (Aq rfl) Jj)) Br)
  (Av (Dq (Bt (Aj Aa (Aq rfl) Fg)) (Ax (Aj (Gv (Ab (Aj (Aj (Aq rfl) (Aq rfl) Ox) (Aq rfl) Jj) (Ab (Aj (Aq rfl) (Aj (Aq rfl) (Aq rfl) Ox) Jj) (Ab (Aq rfl) (Ab (Aq rfl) Ah))))) (Am (Ab Aa (Ab (Aq rfl) Ah))) Bc)) Br)
  (Av (Dq (Bt (Aj Aa (Aq rfl) Fg)) (Ax (Aq rfl)) Br)
  (Ax (Aj (Gv (B3k rfl)) (Am (Ab Aa (Ab (Aq rfl) Ah))) Bc)))))) h
theorem Ai8 {f:Addr}{d:u5}(F:Fun K "_law_number" "_law_number" Pq f d) (a:Def P w K mg base "_law_take" 1 ["_law_box_here", "_law_many_here"] (spP K Ao)):FnOk P w K mg base CX0 2 f d ["_law_box_here"] (spP K Dv):=by
 refine F.ok Am7 (fun g H Q E h=>Ce h) (fun i A c s H g Q E b h=>?_)
 have e:=b.gd
 refine Gg (Ai (Ds (M3 b.units (Be a b (Af (qv 0) (Af Ag Ae))) Ag) (Ak (Az (Bl (Kq:=K) rfl (Gr (Af (G4 (Jp Ag Ag) Ag) (Af (G4 Ag (Jp Ag Ag)) (Af (Jp Ag Ag) (Af Ag Ae))))) (Be a b (Af (qv 0) (Af Ag Ae))) Gw))) Bq)
  (Ak (Az (G4 (Be a b (Af (qv 0) (Af Ag Ae))) Ag)))) ?_
 exact Cd (Av (Dq (Bt (Aj (Am (Ab Aa (Ab (Aq rfl) Ah))) (Aq rfl) Fg)) (Ax (Aj (Gv (Ab (Aj (Aj (Aq rfl) (Aq rfl) Ox) (Aq rfl) Jj) (Ab (Aj (Aq rfl) (Aj (Aq rfl) (Aq rfl) Ox) Jj) (Ab (Aj (Aq rfl) (Aq rfl) Ox) (Ab (Aq rfl) Ah))))) (Am (Ab Aa (Ab (Aq rfl) Ah))) Bc)) Br)
  (Ax (Aj (Am (Ab Aa (Ab (Aq rfl) Ah))) (Aq rfl) Jj))) h
theorem A3p {f:Addr}{e:u5}(F:Fun K "_law_pool" "_law_pool" Xf f e) (a:Def P w K mg base "_law_value" 2 ["_law_box_here"] (spP K Cr)) (b:mg "range" = none):FnOk P w K mg base CX0 3 f e ["_law_box_here", "_law_many_here"] (spP K Ju):=by
 refine F.ok zW (fun j H Q E h=>Ce h) (fun k A c s H j Q E d h=>?_)
 have g:=d.gd
 refine Gg (Ai (Dc (i:=2) zW.nd rfl (Or.inl rfl) (Gr Ae))
  (Ai (Qh PassesOwn.never rfl (Jq rfl b (Af (qv 1) Ae)) (Bj (i:=3) zW.nd rfl (Or.inl rfl)) (Ai (Dc (i:=4) zW.nd rfl (Or.inl rfl) (Be a d (Af (qv 0) Ae)))
  (Ak (Ds (Mr d.units (qv 4) (qv 2) (by trivial)) (Ak (Ml (Ia (Kq:=K) rfl (qv 2) (qv 4)))) Bq))))
  (Ak (Az (qv 2))))) ?_
 exact Cd (Av (Bu (Gv Ah) An)
  (Av (Ph (Og Aa) An (Av (Bu (Am (Ab Aa Ah)) An)
  (Dq (Bt (Aj Aa Aa Tf)) (Lr (Pg Aa Aa)) Br)))
  (Ax Aa))) h
theorem Am2 {f:Addr}{k:u5}(F:Fun K "_law_tuples" "_law_tuples" Qp f k) (b:Def P w K mg base "_law_take" 1 ["_law_box_here", "_law_many_here"] (spP K Ao)) (c:Def P w K mg base "_law_pool" 3 ["_law_box_here", "_law_many_here"] (spP K Ju)) (e:mg "len" = none) (a:mg "range" = none) (d:mg "tuple" = none):FnOk P w K mg base CX0 4 f k ["_law_box_here", "_law_wide_here", "_law_many_here"] (spP K Hk):=by
 refine F.ok zK (fun n H Q E h=>Ce h) (fun l A j s H n Q E g h=>?_)
 have m:=g.gd
 refine Gg (Ai (Dc (i:=3) zK.nd rfl (Or.inr rfl) (Be c g (Af (qv 0) (Af Ag Ae))))
  (Ai (Dc (i:=4) zK.nd rfl (Or.inl rfl) (Gr Ae))
  (Ai (Qh PassesOwn.never rfl (Jq rfl a (Af (qv 2) Ae)) (Bj (i:=5) zK.nd rfl (Or.inl rfl)) (Ai (Dc (i:=6) zK.nd rfl (Or.inl rfl) (Ay (Kq:=K) rfl rfl d (Af (by exact(Gq (N':=["_law_k", "_law_pool_here", "_law_box_here"]) (idx:=[none,some 3,some 0]) (Dt rfl rfl (by decide +kernel) rfl rfl rfl) rfl (Jq rfl a (Af (qv 1) Ae)) (fun _ _ _ _ _=>by exact(Bj (i:=0) (by show (["_law_k", "_law_pool_here", "_law_box_here"]:v4).Nodup;decide +kernel) rfl (Or.inl rfl))) (fun _ _ _ _ _=>by exact Dh) (fun _ _ _ _ _=>by exact(Bl (Kq:=K) rfl (qv 1) (Be b g (Af (qv 2) (Af (Ew (Kq:=K) rfl rfl e (Af (qv 1) Ae)) Ae))) Gw)))) Ae)))
  (Ak (Ds (Mr g.units (qv 6) (qv 4) (by with_unfolding_all rfl)) (Ak (Ml (Ia (Kq:=K) rfl (qv 4) (qv 6)))) Bq))))
  (Ak (Az (qv 4)))))) ?_
 exact Cd (Av (Bu (Am (Ab Aa (Ab (Aq rfl) Ah))) An)
  (Av (Bu (Gv Ah) An)
  (Av (Ph (Og Aa) An (Av (Bu (Bh (Fj (by decide) (Og Aa) An Ed (Aj Aa (Am (Ab Aa (Ab (Ex Aa) Ah))) Bc)) Do) An)
  (Dq (Bt (Aj Aa Aa Tf)) (Lr (Pg Aa Aa)) Br)))
  (Ax Aa)))) h
theorem A1v {f:Addr}{o:u5}(F:Fun K "_law_wide" "_law_wide" V7 f o) (a:Def P w K mg base "_law_take" 1 ["_law_box_here", "_law_many_here"] (spP K Ao)) (d:Def P w K mg base "_law_many" 2 ["_law_box_here", "_law_least", "_law_few", "_law_most"] (spP K Ie)) (m:Def P w K mg base "_law_names" 2 ["_law_box_here", "_law_many_here"] (spP K H9)) (l:Def P w K mg base "_law_value" 2 ["_law_box_here"] (spP K Cr)) (e:Def P w K mg base "_law_number" 2 ["_law_box_here"] (spP K Dv)) (c:Def P w K mg base "_law_tuples" 4 ["_law_box_here", "_law_wide_here", "_law_many_here"] (spP K Hk)) (b:mg "tuple" = none):FnOk P w K mg base CX0 5 f o ["_law_box_here", "_law_numbers"] (spP K Oh):=by
 refine F.ok zB (fun r H Q E h=>Ce h) (fun q A n s H r Q E g h=>?_)
 have p:=g.units;have t:=g.gd
 refine Gg (Ai (Dc (i:=2) zB.nd rfl (Or.inl rfl) (Be m g (Af (qv 0) (Af Ag Ae))))
  (Ai (Bb1 (i:=3) (j:=4) (k:=5) rfl zB.nd rfl rfl rfl (by decide) (by decide) (by decide) rfl rfl rfl (Af (Be a g (Af (qv 0) (Af Ag Ae))) (Af (Be a g (Af (qv 0) (Af Ag Ae))) (Af (Ec Ag (Be a g (Af (qv 0) (Af Ag Ae)))) Ae))) rfl)
  (Ai (Ds (M3 p (Be a g (Af (qv 0) (Af Ag Ae))) Ag) (Ak (Dc (i:=5) zB.nd rfl (Or.inl rfl) (Ec Ag (Be a g (Af (qv 0) (Af Ag Ae)))))) Bq)
  (Ai (Bz0 (i:=6) (j:=7) rfl zB.nd rfl rfl (by decide) rfl rfl (Af (Vr (Kq:=K) rfl (qv 2) Sd (Ik (qv 3))) (Af (Vr (Kq:=K) rfl (qv 2) (Ik (qv 3)) (Ik (Ec (qv 3) (qv 4)))) Ae)) rfl)
  (Ai (Dc (i:=8) zB.nd rfl (Or.inl rfl) (Vr (Kq:=K) rfl (qv 2) (Ik (Ec (qv 3) (qv 4))) (Ik (Ec (Ec (qv 3) (qv 4)) (qv 5)))))
  (Ai (Dc (i:=9) zB.nd rfl (Or.inl rfl) (Be c g (Af (qv 0) (Af (qv 4) (Af (Be d g (Af (qv 0) (Af Ag (Af Ag (Af Ag Ae))))) Ae)))))
  (Ai (Dc (i:=10) zB.nd rfl (Or.inl rfl) (Bl (Kq:=K) rfl (Gr (Af Ag (Af Ag (Af Ag Ae)))) (Be a g (Af (qv 0) (Af Ag Ae))) Gw))
  (Ai (Dc (i:=11) zB.nd rfl (Or.inl rfl) (Gr Ae))
  (Ai (Qh PassesOwn.never rfl (Er (Kq:=K) rfl (Be c g (Af (qv 0) (Af (qv 3) (Af (Be d g (Af (qv 0) (Af Ag (Af Ag (Af Ag Ae))))) Ae))))) (Bj (i:=12) zB.nd rfl (Or.inl rfl)) (Ai (Dc (i:=13) zB.nd rfl (Or.inl rfl) (Gr Ae))
  (Ai (Qh PassesOwn.never rfl (Er (Kq:=K) rfl (qv 9)) (Bj (i:=14) zB.nd rfl (Or.inl rfl)) (Ai (Dc (i:=15) zB.nd rfl (Or.inl rfl) (Ay (Kq:=K) rfl rfl b (Af (by exact(Gq (N':=["_law_name", "_law_numbers", "_law_box_here"]) (idx:=[none,some 1,some 0]) (Dt rfl rfl (by decide +kernel) rfl rfl rfl) rfl (Er (Kq:=K) rfl (qv 8)) (fun _ _ _ _ _=>by exact(Bj (i:=0) (by show (["_law_name", "_law_numbers", "_law_box_here"]:v4).Nodup;decide +kernel) rfl (Or.inl rfl))) (fun _ _ _ _ _=>by exact Dh) (fun _ _ _ _ _=>by exact(Af8 (Dz (qv 1)) (Be e g (Af (qv 2) Ae)) (Be l g (Af (qv 2) Ae)))))) Ae)))
  (Ak (Ml (Ia (Kq:=K) rfl (qv 13) (Af8 (M3 p (Be a g (Af (qv 0) (Af (qv 10) Ae))) Ag) Ob (qv 15)))))))
  (Ak (Ml (Ia (Kq:=K) rfl (qv 11) (Du (Af (qv 12) (Af (Ay (Kq:=K) rfl rfl b (Af (qv 13) Ae)) Ae)))))))))
  (Ak (Az (Du (Af (Ay (Kq:=K) rfl rfl b (Af (qv 6) Ae)) (Af (Ay (Kq:=K) rfl rfl b (Af (qv 7) Ae)) (Af (Ay (Kq:=K) rfl rfl b (Af (qv 8) Ae)) (Af (Ay (Kq:=K) rfl rfl b (Af (qv 9) Ae)) (Af (Ay (Kq:=K) rfl rfl b (Af (qv 11) Ae)) Ae))))))))))))))))) ?_
 exact Cd (Av (Bu (Am (Ab Aa (Ab (Aq rfl) Ah))) An)
  (Av (Bj8 (Ab (Am (Ab Aa (Ab (Aq rfl) Ah))) (Ab (Am (Ab Aa (Ab (Aq rfl) Ah))) (Ab (Aj (Aq rfl) (Am (Ab Aa (Ab (Aq rfl) Ah))) Di) Ah))))
  (Av (Dq (Bt (Aj (Am (Ab Aa (Ab (Aq rfl) Ah))) (Aq rfl) Fg)) (Bu (Aj (Aq rfl) (Am (Ab Aa (Ab (Aq rfl) Ah))) Di) An) Br)
  (Av (B0p (Ab (V6 Aa Sw (Jm Aa) Mx) (Ab (V6 Aa (Jm Aa) (Jm (Aj Aa Aa Di)) Mx) Ah)))
  (Av (Bu (V6 Aa (Jm (Aj Aa Aa Di)) (Jm (Aj (Aj Aa Aa Di) Aa Di)) Mx) An)
  (Av (Bu (Am (Ab Aa (Ab Aa (Ab (Am (Ab Aa (Ab (Aq rfl) (Ab (Aq rfl) (Ab (Aq rfl) Ah))))) Ah)))) An)
  (Av (Bu (Aj (Gv (Ab (Aq rfl) (Ab (Aq rfl) (Ab (Aq rfl) Ah)))) (Am (Ab Aa (Ab (Aq rfl) Ah))) Bc) An)
  (Av (Bu (Gv Ah) An)
  (Av (Ph (Em (Am (Ab Aa (Ab Aa (Ab (Am (Ab Aa (Ab (Aq rfl) (Ab (Aq rfl) (Ab (Aq rfl) Ah))))) Ah))))) An (Av (Bu (Gv Ah) An)
  (Av (Ph (Em Aa) An (Av (Bu (Bh (Fj (by decide) (Em Aa) An Ed (A5v (Hz Aa) (Am (Ab Aa Ah)) (Am (Ab Aa Ah)))) Do) An)
  (Lr (Pg Aa (A5v (Bt (Aj (Am (Ab Aa (Ab Aa Ah))) (Aq rfl) Fg)) (Aq rfl) Aa)))))
  (Lr (Pg Aa (Ea (Ab Aa (Ab (Bh Aa Do) Ah))))))))
  (Ax (Ea (Ab (Bh Aa Do) (Ab (Bh Aa Do) (Ab (Bh Aa Do) (Ab (Bh Aa Do) (Ab (Bh Aa Do) Ah)))))))))))))))) h
theorem A2v {n:Nat}{f:Addr}{r:u5}(F:Fun K "_law_same" "_law_same" Qw f r) (g:Def P w K mg base "_law_same" (n) ["_law_found", "_law_due_here"] (spP K (Cz n))) (m:mg "all" = none) (d:mg "bool" = none) (l:mg "int" = none) (a:mg "isinstance" = none) (j:mg "len" = none) (c:mg "list" = none) (e:mg "str" = none) (b:mg "tuple" = none) (k:mg "zip" = none):FnOk P w K mg base CX0 (n+1) f r ["_law_found", "_law_due_here"] (spP K (Cz (n+1))):=by
 refine F.ok A1s (fun u H Q E h=>Ce h) (fun x A p s H u Q E q h=>?_)
 have o:=q.units;have t:=q.gd
 refine Gg (Ai (Ds (Dz (Rt (Kq:=K) rfl rfl a (Af (qv 1) (Af (Du (Af (Cm (v:=.ty "list") rfl c Oi rfl) (Af (Cm (v:=.ty "tuple") rfl b Fq rfl) Ae))) Ae)))) (Ai (Ds (QW.qt (K5 (Wc o (Bg (Kq:=K) rfl rfl a (Af (qv 0) (Af (Cm (v:=.ty "list") rfl c Oi rfl) Ae))) (Bg (Kq:=K) rfl rfl a (Af (qv 1) (Af (Cm (v:=.ty "list") rfl c Oi rfl) Ae)))) (Kr (Wc o (Bg (Kq:=K) rfl rfl a (Af (qv 0) (Af (Cm (v:=.ty "tuple") rfl b Fq rfl) Ae))) (Bg (Kq:=K) rfl rfl a (Af (qv 1) (Af (Cm (v:=.ty "tuple") rfl b Fq rfl) Ae))))))) (Ak (Az Hv)) Bq)
  (Ak (Az (J4 (Q7 o (Ew (Kq:=K) rfl rfl j (Af (qv 0) Ae)) (Ew (Kq:=K) rfl rfl j (Af (qv 1) Ae))) (J6 (Eb (Kq:=K) rfl rfl rfl m (Af (by exact(Gq (N':=["_law_one", "_law_other"]) (idx:=[none,none]) (Dt rfl rfl (by decide +kernel) rfl rfl rfl) rfl (B0e rfl k (Af (qv 0) (Af (qv 1) Ae))) (fun _ _ _ _ _=>by exact(Ni (Kq:=K) rfl (n:=2) rfl (Ek (Bj (i:=0) (by show (["_law_one", "_law_other"]:v4).Nodup;decide +kernel) rfl (Or.inl rfl)) (Ek (Bj (i:=1) (by show (["_law_one", "_law_other"]:v4).Nodup;decide +kernel) rfl (Or.inl rfl)) Ke)))) (fun _ _ _ _ _=>by exact Dh) (fun _ _ _ _ _=>by exact(Be g q (Af (qv 0) (Af (qv 1) Ae)))))) Ae))))))) Bq)
  (Ai (Ds (QW.qt (K5 (Yl (qv 1) Ob) (Kr (Dz (Bg (Kq:=K) rfl rfl a (Af (qv 1) (Af (Cm (v:=.ty "str") rfl e Pr rfl) Ae))))))) (Ak (Az (J4 (Q7 o (qv 0) (qv 1)) (J6 (Q7 o (Bg (Kq:=K) rfl rfl a (Af (qv 0) (Af (Cm (v:=.ty "str") rfl e Pr rfl) Ae))) (Bg (Kq:=K) rfl rfl a (Af (qv 1) (Af (Cm (v:=.ty "str") rfl e Pr rfl) Ae)))))))) Bq)
  (Ai (Ds (Dz (Bg (Kq:=K) rfl rfl a (Af (qv 1) (Af (Cm (v:=.ty "bool") rfl d Vn rfl) Ae)))) (Ak (Az (J4 (Bg (Kq:=K) rfl rfl a (Af (qv 0) (Af (Cm (v:=.ty "bool") rfl d Vn rfl) Ae))) (J6 (Q7 o (qv 0) (qv 1)))))) Bq)
  (Ak (Az (J4 (Bg (Kq:=K) rfl rfl a (Af (qv 0) (Af (Cm (v:=.ty "int") rfl l Ae7 rfl) Ae))) (J4 (Bx8 (Bg (Kq:=K) rfl rfl a (Af (qv 0) (Af (Cm (v:=.ty "bool") rfl d Vn rfl) Ae)))) (J6 (Q7 o (qv 0) (qv 1)))))))))) ?_
 exact Cd (Av (Dq (Hz (Ax9 .list .tuple Aa)) (Av (Dq (K1 (Bt (Aj (Eg .list Aa) (Eg .list Aa) Qa)) (Bt (Aj (Eg .tuple Aa) (Eg .tuple Aa) Qa))) (Ax (Aq rfl)) Br)
  (Ax (Ho (Aj (Ex Aa) (Ex Aa) Fg) (Bh (Fj (by decide) (Bv0 Aa Aa) (N7 (Ej An (Ej An Kh))) Ed (Am (Ab Aa (Ab Aa Ah)))) Im)))) Br)
  (Av (Dq (K1 (Bt (Aj Aa (Aq rfl) Vh)) (Hz (Eg .str Aa))) (Ax (Ho (Aj Aa Aa Fg) (Aj (Eg .str Aa) (Eg .str Aa) Fg))) Br)
  (Av (Dq (Hz (Eg .bool Aa)) (Ax (Ho (Eg .bool Aa) (Aj Aa Aa Fg))) Br)
  (Ax (Ho (Eg _ Aa) (Ho (Bg6 (Eg _ Aa)) (Aj Aa Aa Fg))))))) h
theorem Xn {f:Addr}{fd:u5}(F:Fun K "_law_same" "_law_same" Qw f fd) (bF:Binds K fd ["_law_found", "_law_due_here"] []) (mF:mg "_law_same" = some (.ref f)) (zL:mg "all" = none) (yE:mg "bool" = none) (zR:mg "int" = none) (z7:mg "isinstance" = none) (zG:mg "len" = none) (zU:mg "list" = none) (zO:mg "str" = none) (z8:mg "tuple" = none) (yK:mg "zip" = none):∀n:Nat,FnOk P w K mg base CX0 (n) f fd ["_law_found", "_law_due_here"] (spP K (Cz n))
 | 0=>A4r
 | n+1=>A2v F ⟨f,fd,Xn F bF mF zL yE zR z7 zG zU zO z8 yK n,bF,F.kp,mF⟩ zL yE zR z7 zG zU zO z8 yK
theorem Ar6 {f:Addr}{j:u5}(F:Fun K "_law_order" "_law_order" T7 f j) (a:Def P w K mg base "_law_take" 1 ["_law_box_here", "_law_many_here"] (spP K Ao)) (b:mg "len" = none) (c:mg "range" = none) (d:mg "tuple" = none):FnOk P w K mg base CX0 2 f j ["_law_box_here", "_law_some"] (spP K Gb):=by
 refine F.ok zN (fun m H Q E h=>Ce h) (fun k A g s H m Q E e h=>?_)
 have l:=e.gd
 refine Gg (Ai (Dc (i:=2) zN.nd rfl (Or.inl rfl) (Be a e (Af (qv 0) (Af Ag Ae))))
  (Ai (Ds (V1 (qv 2) Ag) (Ak (Az (Bl (Kq:=K) rfl (Gr (Af Hq (Af Hq (Af Hq Ae)))) (qv 2) Ih))) Bq)
  (Ai (Dc (i:=3) zN.nd rfl (Or.inl rfl) (Ec (Gr (Af (Du (Af Hq Ae)) (Af (Du Ae) (Af (Du (Af Ag (Af Ob Ae))) (Af (Du (Af Ob Ae)) (Af (Du (Af Hq (Af Hq Ae))) Ae)))))) (by exact(Gq (N':=["_law_one"]) (idx:=[none]) (Dt rfl rfl (by decide +kernel) rfl rfl rfl) rfl (Er (Kq:=K) rfl (qv 1)) (fun _ _ _ _ _=>by exact(Bj (i:=0) (by grind) rfl (Or.inl rfl))) (fun _ _ _ _ _=>by exact Dh) (fun _ _ _ _ _=>by exact(Bs2 (Kq:=K) rfl (qv 0) (Ik (Bt4 Ag))))))))
  (Ai (Dc (i:=4) zN.nd rfl (Or.inl rfl) (Gr Ae))
  (Ai (Qh PassesOwn.never rfl (Jq rfl c (Af (Be a e (Af (qv 0) (Af (Ec (Ew (Kq:=K) rfl rfl b (Af (qv 1) Ae)) Ag) Ae))) Ae)) (Bj (i:=5) zN.nd rfl (Or.inl rfl)) (Ak (Ds (QW.qt (Bo2 (Wc e.units (qv 1) (Gr Ae)) (Bk9 (Ww (Be a e (Af (qv 0) (Af Ag Ae))) Ag)))) (Ak (Ml (Ia (Kq:=K) rfl (qv 4) (Bl (Kq:=K) rfl (qv 1) (Be a e (Af (qv 0) (Af (Ew (Kq:=K) rfl rfl b (Af (qv 1) Ae)) Ae))) Gw)))) (Ak (Ml (Ia (Kq:=K) rfl (qv 4) (Bl (Kq:=K) rfl (qv 3) (Be a e (Af (qv 0) (Af (Ew (Kq:=K) rfl rfl b (Af (qv 3) Ae)) Ae))) Gw)))))))
  (Ak (Az (Du (Af Hq (Af (Bl (Kq:=K) rfl (Gr (Af (qv 4) (Af (qv 4) (Af (Ay (Kq:=K) rfl rfl d (Af (qv 4) Ae)) Ae)))) (G4 (qv 2) Ag) plain_bin) Ae)))))))))) ?_
 exact Cd (Av (Bu (Am (Ab Aa (Ab (Aq rfl) Ah))) An)
  (Av (Dq (Bt (Aj Aa (Aq rfl) Zt)) (Ax (Aj (Gv (Ab (Aq rfl) (Ab (Aq rfl) (Ab (Aq rfl) Ah)))) Aa Bc)) Br)
  (Av (Bu (Aj (Gv (Ab (Ea (Ab (Aq rfl) Ah)) (Ab (Ea Ah) (Ab (Ea (Ab (Aq rfl) (Ab (Aq rfl) Ah))) (Ab (Ea (Ab (Aq rfl) Ah)) (Ab (Ea (Ab (Aq rfl) (Ab (Aq rfl) Ah))) Ah)))))) (Fj (by decide) (Em Aa) An Ed (Bw4 Aa fun _ _ _ h=>⟨1,rfl,-1,rfl,h⟩)) Di) An)
  (Av (Bu (Gv Ah) An)
  (Av (Ph (Og (Am (Ab Aa (Ab (Aj (Ex Aa) (Aq rfl) Di) Ah)))) An (Dq (Bw8 (Bt (Aj Aa (Gv Ah) Qa)) (Bt (Aj (Am (Ab Aa (Ab (Aq rfl) Ah))) (Aq rfl) Zr))) (Lr (Pg Aa (Aj Aa (Am (Ab Aa (Ab (Ex Aa) Ah))) Bc))) (Lr (Pg Aa (Aj Aa (Am (Ab Aa (Ab (Ex Aa) Ah))) Bc)))))
  (Ax (Ea (Ab (Aq rfl) (Ab (Aj (Gv (Ab Aa (Ab Aa (Ab (Bh Aa Do) Ah)))) (Aj Aa (Aq rfl) Jj) Bc) Ah))))))))) h
theorem Ar5 {f:Addr}{b:u5}(F:Fun K "_law_parts" "_law_parts" Te f b):FnOk P w K mg base CX0 1 f b ["_law_wide_here"] (spP K Hg):=by
 refine F.ok Ap5 (fun d H Q E h=>Ce h) (fun g A a s H d Q E c h=>?_)
 have j:=c.units;have e:=c.gd
 refine Gg (Ak (Az (by exact(Gq (N':=["_law_part", "_law_cells"]) (idx:=[none,none]) (Dt rfl rfl (by decide +kernel) rfl rfl rfl) rfl (Er (Kq:=K) rfl (Bl (Kq:=K) rfl (qv 0) Ag Ba)) (fun _ _ _ _ _=>by exact(Ni (Kq:=K) rfl (n:=2) rfl (Ek (Bj (i:=0) (by show (["_law_part", "_law_cells"]:v4).Nodup;decide +kernel) rfl (Or.inl rfl)) (Ek (Bj (i:=1) (by show (["_law_part", "_law_cells"]:v4).Nodup;decide +kernel) rfl (Or.inl rfl)) Ke)))) (fun _ _ _ _ _=>by exact Dh) (fun _ _ _ _ _=>by exact(qv 0)))))) ?_
 exact Cd (Ax (Fj (by decide) (Em (Aj Aa (Aq rfl) Bc)) (N7 (Ej An (Ej An Kh))) Ed Aa)) h
theorem A6f {f:Addr}{g:u5}(F:Fun K "_law_due" "_law_due" Ae1 f g) (c:Def P w K mg base "_law_parts" 1 ["_law_wide_here"] (spP K Hg)) (b:mg "enumerate" = none) (a:mg "tuple" = none):FnOk P w K mg base CX0 2 f g ["_law_wide_here"] (spP K Rx):=by
 refine F.ok yC (fun k H Q E h=>Ce h) (fun l A d s H k Q E e h=>?_)
 have m:=e.units;have j:=e.gd
 refine Gg (Ai (Dc (i:=1) yC.nd rfl (Or.inl rfl) (Gr Ae))
  (Ai (Qh PassesOwn.never rfl (A0d rfl b (Af (Bl (Kq:=K) rfl (qv 0) Ag Ba) Ae)) (Ni (Kq:=K) rfl (n:=2) rfl (Ek (Bj (i:=2) yC.nd rfl (Or.inr rfl)) (Ek (Bj (i:=3) yC.nd rfl (Or.inl rfl)) Ke))) (Ak (Ml (Ia (Kq:=K) rfl (qv 1) (Du (Af (qv 3) (Af (Ay (Kq:=K) rfl rfl a (Af (by exact(Gq (N':=["_law_row", "_law_k"]) (idx:=[none,some 2]) (Dt rfl rfl (by decide +kernel) rfl rfl rfl) rfl (Er (Kq:=K) rfl (Bl (Kq:=K) rfl (qv 0) Ag Ba)) (fun _ _ _ _ _=>by exact(Bj (i:=0) (by show (["_law_row", "_law_k"]:v4).Nodup;decide +kernel) rfl (Or.inl rfl))) (fun _ _ _ _ _=>by exact Dh) (fun _ _ _ _ _=>by exact(Bl (Kq:=K) rfl (Bl (Kq:=K) rfl (qv 0) Ag Ba) (qv 1) Ih)))) Ae)) Ae)))))))
  (Ak (Az (Du (Af (Bl (Kq:=K) rfl (qv 0) Ag Ba) (Af (Bl (Kq:=K) rfl (qv 0) Ag Ba) (Af (Bl (Kq:=K) rfl (qv 0) Ag Ba) (Af (Ay (Kq:=K) rfl rfl a (Af (Be c e (Af (qv 0) Ae)) Ae)) (Af (Ay (Kq:=K) rfl rfl a (Af (qv 1) Ae)) Ae)))))))))) ?_
 exact Cd (Av (Bu (Gv Ah) An)
  (Av (Ph (Aw2 (Aj Aa (Aq rfl) Bc)) (N7 (Ej An (Ej An Kh))) (Lr (Pg Aa (Ea (Ab Aa (Ab (Bh (Fj (by decide) (Em (Aj Aa (Aq rfl) Bc)) An Ed (Aj (Aj Aa (Aq rfl) Bc) Aa Bc)) Do) Ah))))))
  (Ax (Ea (Ab (Aj Aa (Aq rfl) Bc) (Ab (Aj Aa (Aq rfl) Bc) (Ab (Aj Aa (Aq rfl) Bc) (Ab (Bh (Am (Ab Aa Ah)) Do) (Ab (Bh Aa Do) Ah))))))))) h
theorem Aq3 {f:Addr}{x:u5}(F:Fun K "_law_right" "_law_right" T5 f x) (l:Def P w K mg base "is_wide" 5 ["thing"] (spP K J0)) (c:Def P w K mg base "heads_in" 7 ["wide", "order"] (spP K Hj)) (d:Def P w K mg base "parts_in" 7 ["wide", "order"] (spP K Hi)) (a:Def P w K mg base "exchanged" 2 ["wide"] (spP K Fd)) (j:Def P w K mg base "_law_take" 1 ["_law_box_here", "_law_many_here"] (spP K Ao)) (m:Def P w K mg base "_law_wide" 5 ["_law_box_here", "_law_numbers"] (spP K Oh)) (b:Def P w K mg base "_law_same" 8 ["_law_found", "_law_due_here"] (spP K (Cz 8))) (e:Def P w K mg base "_law_order" 2 ["_law_box_here", "_law_some"] (spP K Gb)) (k:Def P w K mg base "_law_parts" 1 ["_law_wide_here"] (spP K Hg)) (p:Def P w K mg base "_law_due" 2 ["_law_wide_here"] (spP K Rx)) (r:mg "list" = none) (o:mg "str" = none) (q:mg "tuple" = none):FnOk P w K mg base CX0 9 f x ["_law_box_here"] (spP K Mu):=by
 refine F.ok zF (fun y H Q E h=>Ce h) (fun z A v s H y Q E g h=>?_)
 have u:=g.units;have t:=g.gd
 refine Gg (Ai (Dc (i:=1) zF.nd rfl (Or.inl rfl) (Be m g (Af (qv 0) (Af Hv Ae))))
  (Ai (Ds (M3 u (Be j g (Af (qv 0) (Af Ag Ae))) Ag) (Ai (Dc (i:=2) zF.nd rfl (Or.inl rfl) (Ay (Kq:=K) rfl rfl q (Af (by exact(Gq (N':=["_law_part", "_law_cells"]) (idx:=[none,none]) (Dt rfl rfl (by decide +kernel) rfl rfl rfl) rfl (Er (Kq:=K) rfl (Bl (Kq:=K) rfl (qv 1) Ag Ba)) (fun _ _ _ _ _=>by exact(Ni (Kq:=K) rfl (n:=2) rfl (Ek (Bj (i:=0) (by show (["_law_part", "_law_cells"]:v4).Nodup;decide +kernel) rfl (Or.inl rfl)) (Ek (Bj (i:=1) (by show (["_law_part", "_law_cells"]:v4).Nodup;decide +kernel) rfl (Or.inl rfl)) Ke)))) (fun _ _ _ _ _=>by exact Dh) (fun _ _ _ _ _=>by exact(Du (Af (qv 0) (Af (Du Ae) Ae)))))) Ae)))
  (Ak (Dc (i:=1) zF.nd rfl (Or.inl rfl) (Bl (Kq:=K) rfl (Gr (Af (Ec (Vr (Kq:=K) rfl (qv 1) Sd (Ik Ag)) (Du (Af (Du Ae) Ae))) (Af (Ec (Vr (Kq:=K) rfl (qv 1) Sd (Ik Ag)) (Du (Af (Du Ae) (Af (qv 2) Ae)))) Ae))) (Be j g (Af (qv 0) (Af Ag Ae))) Gw)))) Bq)
  (Ai (Dc (i:=3) zF.nd rfl (Or.inl rfl) (A7h (Kq:=K) rfl u t rfl o (Af (qv 1) Ae)))
  (Ai (Dc (i:=4) zF.nd rfl (Or.inl rfl) (Be a g (Af (qv 1) Ae)))
  (Ai (Ds (QW.qt (K5 (Gk (Dz (Be b g (Af (qv 4) (Af (Be p g (Af (qv 1) Ae)) Ae))))) (K5 (Gk (Dz (Be l g (Af (qv 4) Ae)))) (Kr (Wc u (A7h (Kq:=K) rfl u t rfl o (Af (qv 1) Ae)) (qv 3)))))) (Ak (Az Hv)) Bq)
  (Ai (Ds (Gk (Dz (Be b g (Af (Be a g (Af (qv 4) Ae)) (Af (qv 1) Ae))))) (Ak (Az Hv)) Bq)
  (Ai (Dc (i:=5) zF.nd rfl (Or.inl rfl) (Be e g (Af (qv 0) (Af (Mz (Kq:=K) rfl rfl r (Af (Bl (Kq:=K) rfl (qv 1) Ag Ba) Ae)) Ae))))
  (Ai (Ds (Gk (Dz (Be b g (Af (Be a g (Af (Be c g (Af (qv 1) (Af (qv 5) Ae))) Ae)) (Af (Be d g (Af (qv 4) (Af (qv 5) Ae))) Ae))))) (Ak (Az Hv)) Bq)
  (Ai (Dc (i:=5) zF.nd rfl (Or.inl rfl) (Be e g (Af (qv 0) (Af (Be k g (Af (qv 1) Ae)) Ae))))
  (Ak (Az (Be b g (Af (Be a g (Af (Be d g (Af (qv 1) (Af (qv 5) Ae))) Ae)) (Af (Be c g (Af (qv 4) (Af (qv 5) Ae))) Ae)))))))))))))) ?_
 exact Cd (Av (Bu (Am (Ab Aa (Ab (Aq rfl) Ah))) An)
  (Av (Dq (Bt (Aj (Am (Ab Aa (Ab (Aq rfl) Ah))) (Aq rfl) Fg)) (Av (Bu (Bh (Fj (by decide) (Em (Aj Aa (Aq rfl) Bc)) (N7 (Ej An (Ej An Kh))) Ed (Ea (Ab Aa (Ab (Ea Ah) Ah)))) Do) An)
  (Bu (Aj (Gv (Ab (Aj (V6 Aa Sw (Jm (Aq rfl)) Mx) (Ea (Ab (Ea Ah) Ah)) Di) (Ab (Aj (V6 Aa Sw (Jm (Aq rfl)) Mx) (Ea (Ab (Ea Ah) (Ab Aa Ah))) Di) Ah))) (Am (Ab Aa (Ab (Aq rfl) Ah))) Bc) An)) Br)
  (Av (Bu (Bh Aa Aw5) An)
  (Av (Bu (Am (Ab Aa Ah)) An)
  (Av (Dq (K1 (Gi (Hz (Am (Ab Aa (Ab (Am (Ab Aa Ah)) Ah))))) (K1 (Gi (Hz (Am (Ab Aa Ah)))) (Bt (Aj (Bh Aa Aw5) Aa Qa)))) (Ax (Aq rfl)) Br)
  (Av (Dq (Gi (Hz (Am (Ab (Am (Ab Aa Ah)) (Ab Aa Ah))))) (Ax (Aq rfl)) Br)
  (Av (Bu (Am (Ab Aa (Ab (Bl6 (Bh (Aj Aa (Aq rfl) Bc) Ai6)) Ah))) An)
  (Av (Dq (Gi (Hz (Am (Ab (Am (Ab (Am (Ab Aa (Ab Aa Ah))) Ah)) (Ab (Am (Ab Aa (Ab Aa Ah))) Ah))))) (Ax (Aq rfl)) Br)
  (Av (Bu (Am (Ab Aa (Ab (Bl6 (Am (Ab Aa Ah))) Ah))) An)
  (Ax (Am (Ab (Am (Ab (Am (Ab Aa (Ab Aa Ah))) Ah)) (Ab (Am (Ab Aa (Ab Aa Ah))) Ah))))))))))))) h
theorem B0k {f:Addr}{l:u5}(F:Fun K "law" "law" A8j f l) (b:Def P w K mg base "_law_box" 2 ["_law_script", "_law_k"] (spP K Nx)) (a:Def P w K mg base "_law_right" 9 ["_law_box_here"] (spP K Mu)) (g:mg "len" = none) (d:mg "max" = none) (e:mg "min" = none) (c:mg "range" = none):FnOk P w K mg base CX0 10 f l ["_law_script"] (spP K As7):=by
 refine F.ok yO (fun o H Q E h=>Ce h) (fun m A k s H o Q E j h=>?_)
 have p:=j.units;have n:=j.gd
 refine Gg (Ai (Qh PassesOwn.never rfl (Jq rfl c (Af (Zy (Kq:=K) rfl rfl rfl d (Af Ag (Af (Ab8 (Kq:=K) rfl rfl rfl e (Af (Ew (Kq:=K) rfl rfl g (Af (qv 0) Ae)) (Af Ag Ae))) Ae))) Ae)) (Bj (i:=1) yO.nd rfl (Or.inl rfl)) (Ak (Ds (Gk (Dz (Be a j (Af (Be b j (Af (qv 0) (Af (qv 1) Ae))) Ae)))) (Ak (Az Hv)) Bq)))
  (Ak (Az Hv))) ?_
 exact Cd (Av (Ph (Og (Be2 (Aq rfl) (Ba1 (Ex Aa) (Aq rfl)))) An (Dq (Gi (Hz (A6h (Am (Ab Aa (Ab Aa Ah))) Ah))) (Ax (Aq rfl)) Br))
  (Ax (Aq rfl))) h
end
theorem lnS {n:Nat}{us:w6}(h:us.length=n+1):∃x r,us=x::r/\r.length=n:=by
 cases us with
 | nil=>grind
 | cons x r=>grind
theorem ln1 {us:w6}(h:us.length=1):∃x0,us=[x0]:=by
 obtain⟨x,r,a,b⟩:=lnS h
 simp_all
theorem ln2 {us:w6}(h:us.length=2):∃c b,us=[c,b]:=by
 obtain⟨c,r,a,d⟩:=lnS h;obtain⟨b,a⟩:=ln1 d
 grind
theorem ln3 {us:w6}(h:us.length=3):∃c d b,us=[c,d,b]:=by
 obtain⟨c,r,a,e⟩:=lnS h;obtain⟨d,b,a⟩:=ln2 e
 grind
theorem ln4 {us:w6}(h:us.length=4):∃c d e b,us=[c,d,e,b]:=by
 obtain⟨c,r,a,f⟩:=lnS h;obtain⟨d,e,b,a⟩:=ln3 f
 grind
theorem mkD {P:u6}{w:World}{K:v9}{mg:x_}{base:Heap}{k:Nat}{f:Addr}{d:u5}{x:Str}{ps:v4}{sp:Sp}(a:FnOk P w K mg base CX0 k f d ps sp)(b:Binds K d ps [])(c:PySem.W.keepIn K (.ref f)=true)(g:mg x=some (.ref f)):Def P w K mg base x k ps sp:=⟨f,d,a,b,c,g⟩
theorem Cj {K:v9}{q:u6}{loose:v4}{g:ExcName->u9}{mg j:x_}{h:Heap}(T:PyProof.Rows.Top q loose g mg j h)(k:∀a o,h.get? a=some o->Jb o=true->o.data≠.fields #[]->K.lookup a=some o){L:List (Str×Arguments×List Stmt×Scope)}(l:(PyProof.Rows.recsOf q).map (fun d=>(d.name,d.params,d.body,d.scope))=L){i:Nat}{x:Str}{st:Stmt}(e:L[i]?=some (x,Ly st,Ji st,Aw st)):∃f fd,Fun K x x st f fd/\mg x=some (.ref f):=by
 obtain⟨d,m,rfl,a,b,c⟩:=Aj1 l e;exact Bf6 T k m a b c
abbrev rr (x:Str)(i:Nat):Str×Arguments×List Stmt×Scope:=(x,Ly (top i),Ji (top i),Aw (top i))
theorem B0u {l:PySem.W.OpenLaw}{w:World}{q:u6}{loose:v4}{mean:ExcName->u9}{mg mb:x_}{h:Heap}{fa:Addr}(T:PyProof.Rows.Top q loose mean mg mb h)(hfa:mg "law" = some (.ref fa))
 (hlaw:∀ns:List Int,ns.length<=63->As7 [.sc ns]=.ret (.im (.bool true)) [.sc ns])
 (hR:(PyProof.Rows.recsOf q).map (fun d=>(d.name,d.params,d.body,d.scope))=[rr "has_plain_signs" 4,rr "is_value" 5,rr "rank" 6,rr "risen" 7,rr "is_name" 11,rr "are_columns" 12,rr "is_row" 13,rr "values_at" 14,rr "is_pair" 16,rr "are_wide_columns" 17,rr "are_unlike_rows" 18,rr "are_cells" 19,rr "is_wide" 20,rr "parts_of" 21,rr "cells_under" 22,rr "with_heads_at" 23,rr "is_told_order" 25,rr "in_told_order" 26,rr "in_order" 27,rr "heads_in" 28,rr "parts_in" 29,rr "exchanged" 30,rr "_law_cell_at" 32,rr "_law_box" 33,rr "_law_take" 34,rr "_law_many" 35,rr "_law_names" 36,rr "_law_value" 37,rr "_law_number" 38,rr "_law_pool" 39,rr "_law_rank" 40,rr "_law_tuples" 41,rr "_law_wide" 42,rr "_law_same" 43,rr "_law_ranks" 44,rr "_law_order" 45,rr "_law_parts" 46,rr "_law_due" 47,rr "_law_right" 48,rr "law" 49])
 (hB:(["abs", "all", "bool", "dict", "enumerate", "int", "isinstance", "len", "list", "max", "min", "range", "reversed", "set", "sorted", "str", "tuple", "zip"]:v4).all (A5e q loose [("has_plain_signs" : Str),("is_value" : Str),("rank" : Str),("risen" : Str),("is_name" : Str),("are_columns" : Str),("is_row" : Str),("values_at" : Str),("is_pair" : Str),("are_wide_columns" : Str),("are_unlike_rows" : Str),("are_cells" : Str),("is_wide" : Str),("parts_of" : Str),("cells_under" : Str),("with_heads_at" : Str),("is_told_order" : Str),("in_told_order" : Str),("in_order" : Str),("heads_in" : Str),("parts_in" : Str),("exchanged" : Str),("_law_cell_at" : Str),("_law_box" : Str),("_law_take" : Str),("_law_many" : Str),("_law_names" : Str),("_law_value" : Str),("_law_number" : Str),("_law_pool" : Str),("_law_rank" : Str),("_law_tuples" : Str),("_law_wide" : Str),("_law_same" : Str),("_law_ranks" : Str),("_law_order" : Str),("_law_parts" : Str),("_law_due" : Str),("_law_right" : Str),("law" : Str)])=true)
 (hc_LETTERS:PyProof.Rows.valOf q "LETTERS" = some (PyData.str "abcdefghijklmnopqrstuvwxyz"))
 (hc_LONGEST_NAME:PyProof.Rows.valOf q "LONGEST_NAME" = some (PyData.int 8)) :
 ∃(K:v9) (fd:u5),K.In h/\TabAt K h/\(∀(s:u_) (v:Value),BindsTo s fd ⟨[v],[]⟩ [("_law_script",v)])/\∀base:Heap,K.In base->base.Ns mainGlobals mg->FnOk l.prog w K mg base CX0 10 fa fd ["_law_script"] (A5h K):=by
 obtain⟨d18,m18,n18,p18⟩:=Aj1 hR (i:=17) rfl;obtain⟨zP,T_in_told_order,hd_in_told_order,ht_in_told_order,hc_in_told_order⟩:=Ba3 T m18
 obtain⟨kin,tab,hcd,hK⟩:=B1j (h:=h) (tabs:=[(zP,T_in_told_order,(("in_told_order" : Str) ++ ".<locals>." ++ "<lambda>"))]) (fun t m=>by cases aG.mp m;exact⟨hd_in_told_order,ht_in_told_order⟩) (fun t m=>by cases aG.mp m;simp)
 obtain⟨lc_in_told_order,lt_in_told_order⟩:=hcd _ (aG.mpr rfl)
 generalize Sh h [(zP,T_in_told_order,(("in_told_order" : Str) ++ ".<locals>." ++ "<lambda>"))]=K at *
 obtain⟨f1,fd1,F1,g1⟩:=Cj T hK hR (st:=Hr) (i:=0) rfl
 have b1:=F1.binds (ps:=["text"]) fun _ _ _ _ _ _ us hl=>by obtain⟨_,rfl⟩:=ln1 hl;rfl
 obtain⟨f2,fd2,F2,g2⟩:=Cj T hK hR (st:=P0) (i:=1) rfl
 have b2:=F2.binds (ps:=["thing"]) fun _ _ _ _ _ _ us hl=>by obtain⟨_,rfl⟩:=ln1 hl;rfl
 obtain⟨f3,fd3,F3,g3⟩:=Cj T hK hR (st:=Ab1) (i:=2) rfl
 have b3:=F3.binds (ps:=["value"]) fun _ _ _ _ _ _ us hl=>by obtain⟨_,rfl⟩:=ln1 hl;rfl
 obtain⟨f4,fd4,F4,g4⟩:=Cj T hK hR (st:=Ac6) (i:=3) rfl
 have b4:=F4.binds (ps:=["values"]) fun _ _ _ _ _ _ us hl=>by obtain⟨_,rfl⟩:=ln1 hl;rfl
 obtain⟨f5,fd5,F5,g5⟩:=Cj T hK hR (st:=S6) (i:=4) rfl
 have b5:=F5.binds (ps:=["thing"]) fun _ _ _ _ _ _ us hl=>by obtain⟨_,rfl⟩:=ln1 hl;rfl
 obtain⟨f6,fd6,F6,g6⟩:=Cj T hK hR (st:=Kz) (i:=5) rfl
 have b6:=F6.binds (ps:=["thing"]) fun _ _ _ _ _ _ us hl=>by obtain⟨_,rfl⟩:=ln1 hl;rfl
 obtain⟨f7,fd7,F7,g7⟩:=Cj T hK hR (st:=Wu) (i:=6) rfl
 have b7:=F7.binds (ps:=["thing", "width"]) fun _ _ _ _ _ _ us hl=>by obtain⟨_,_,rfl⟩:=ln2 hl;rfl
 obtain⟨f8,fd8,F8,g8⟩:=Cj T hK hR (st:=Ny) (i:=7) rfl
 have b8:=F8.binds (ps:=["row", "places"]) fun _ _ _ _ _ _ us hl=>by obtain⟨_,_,rfl⟩:=ln2 hl;rfl
 obtain⟨f9,fd9,F9,g9⟩:=Cj T hK hR (st:=T3) (i:=8) rfl
 have b9:=F9.binds (ps:=["thing"]) fun _ _ _ _ _ _ us hl=>by obtain⟨_,rfl⟩:=ln1 hl;rfl
 obtain⟨f10,fd10,F10,g10⟩:=Cj T hK hR (st:=Hb) (i:=9) rfl
 have b10:=F10.binds (ps:=["key", "names", "values"]) fun _ _ _ _ _ _ us hl=>by obtain⟨_,_,_,rfl⟩:=ln3 hl;rfl
 obtain⟨f11,fd11,F11,g11⟩:=Cj T hK hR (st:=Hn) (i:=10) rfl
 have b11:=F11.binds (ps:=["things", "width"]) fun _ _ _ _ _ _ us hl=>by obtain⟨_,_,rfl⟩:=ln2 hl;rfl
 obtain⟨f12,fd12,F12,g12⟩:=Cj T hK hR (st:=Nq) (i:=11) rfl
 have b12:=F12.binds (ps:=["thing", "many", "width"]) fun _ _ _ _ _ _ us hl=>by obtain⟨_,_,_,rfl⟩:=ln3 hl;rfl
 obtain⟨f13,fd13,F13,g13⟩:=Cj T hK hR (st:=Tq) (i:=12) rfl
 have b13:=F13.binds (ps:=["thing"]) fun _ _ _ _ _ _ us hl=>by obtain⟨_,rfl⟩:=ln1 hl;rfl
 obtain⟨f14,fd14,F14,g14⟩:=Cj T hK hR (st:=Ql) (i:=13) rfl
 have b14:=F14.binds (ps:=["wide"]) fun _ _ _ _ _ _ us hl=>by obtain⟨_,rfl⟩:=ln1 hl;rfl
 obtain⟨f15,fd15,F15,g15⟩:=Cj T hK hR (st:=Kv) (i:=14) rfl
 have b15:=F15.binds (ps:=["wide", "place"]) fun _ _ _ _ _ _ us hl=>by obtain⟨_,_,rfl⟩:=ln2 hl;rfl
 obtain⟨f16,fd16,F16,g16⟩:=Cj T hK hR (st:=Je) (i:=15) rfl
 have b16:=F16.binds (ps:=["wide", "places"]) fun _ _ _ _ _ _ us hl=>by obtain⟨_,_,rfl⟩:=ln2 hl;rfl
 obtain⟨f17,fd17,F17,g17⟩:=Cj T hK hR (st:=Jd) (i:=16) rfl
 have b17:=F17.binds (ps:=["order"]) fun _ _ _ _ _ _ us hl=>by obtain⟨_,rfl⟩:=ln1 hl;rfl
 obtain⟨f18,fd18,F18,g18⟩:=Cj T hK hR (st:=Jc) (i:=17) rfl
 have b18:=F18.binds (ps:=["things", "told"]) fun _ _ _ _ _ _ us hl=>by obtain⟨_,_,rfl⟩:=ln2 hl;rfl
 have ld_in_told_order:fd18.code=.ref zP:=A7x F18 kin (by have z:d18.name = "in_told_order" := n18;rw[<- z];exact hc_in_told_order) g18
 obtain⟨f19,fd19,F19,g19⟩:=Cj T hK hR (st:=Qm) (i:=18) rfl
 have b19:=F19.binds (ps:=["things", "order"]) fun _ _ _ _ _ _ us hl=>by obtain⟨_,_,rfl⟩:=ln2 hl;rfl
 obtain⟨f20,fd20,F20,g20⟩:=Cj T hK hR (st:=Pz) (i:=19) rfl
 have b20:=F20.binds (ps:=["wide", "order"]) fun _ _ _ _ _ _ us hl=>by obtain⟨_,_,rfl⟩:=ln2 hl;rfl
 obtain⟨f21,fd21,F21,g21⟩:=Cj T hK hR (st:=Qv) (i:=20) rfl
 have b21:=F21.binds (ps:=["wide", "order"]) fun _ _ _ _ _ _ us hl=>by obtain⟨_,_,rfl⟩:=ln2 hl;rfl
 obtain⟨f22,fd22,F22,g22⟩:=Cj T hK hR (st:=Nj) (i:=21) rfl
 have b22:=F22.binds (ps:=["wide"]) fun _ _ _ _ _ _ us hl=>by obtain⟨_,rfl⟩:=ln1 hl;rfl
 obtain⟨f23,fd23,F23,g23⟩:=Cj T hK hR (st:=Oe) (i:=22) rfl
 have b23:=F23.binds (ps:=["_law_script", "_law_k"]) fun _ _ _ _ _ _ us hl=>by obtain⟨_,_,rfl⟩:=ln2 hl;rfl
 obtain⟨f24,fd24,F24,g24⟩:=Cj T hK hR (st:=Ab0) (i:=23) rfl
 have b24:=F24.binds (ps:=["_law_script", "_law_k"]) fun _ _ _ _ _ _ us hl=>by obtain⟨_,_,rfl⟩:=ln2 hl;rfl
 obtain⟨f25,fd25,F25,g25⟩:=Cj T hK hR (st:=Wk) (i:=24) rfl
 have b25:=F25.binds (ps:=["_law_box_here", "_law_many_here"]) fun _ _ _ _ _ _ us hl=>by obtain⟨_,_,rfl⟩:=ln2 hl;rfl
 obtain⟨f26,fd26,F26,g26⟩:=Cj T hK hR (st:=Wv) (i:=25) rfl
 have b26:=F26.binds (ps:=["_law_box_here", "_law_least", "_law_few", "_law_most"]) fun _ _ _ _ _ _ us hl=>by obtain⟨_,_,_,_,rfl⟩:=ln4 hl;rfl
 obtain⟨f27,fd27,F27,g27⟩:=Cj T hK hR (st:=Ub) (i:=26) rfl
 have b27:=F27.binds (ps:=["_law_box_here", "_law_many_here"]) fun _ _ _ _ _ _ us hl=>by obtain⟨_,_,rfl⟩:=ln2 hl;rfl
 obtain⟨f28,fd28,F28,g28⟩:=Cj T hK hR (st:=Tn) (i:=27) rfl
 have b28:=F28.binds (ps:=["_law_box_here"]) fun _ _ _ _ _ _ us hl=>by obtain⟨_,rfl⟩:=ln1 hl;rfl
 obtain⟨f29,fd29,F29,g29⟩:=Cj T hK hR (st:=Pq) (i:=28) rfl
 have b29:=F29.binds (ps:=["_law_box_here"]) fun _ _ _ _ _ _ us hl=>by obtain⟨_,rfl⟩:=ln1 hl;rfl
 obtain⟨f30,fd30,F30,g30⟩:=Cj T hK hR (st:=Xf) (i:=29) rfl
 have b30:=F30.binds (ps:=["_law_box_here", "_law_many_here"]) fun _ _ _ _ _ _ us hl=>by obtain⟨_,_,rfl⟩:=ln2 hl;rfl
 obtain⟨f31,fd31,F31,g31⟩:=Cj T hK hR (st:=Qp) (i:=31) rfl
 have b31:=F31.binds (ps:=["_law_box_here", "_law_wide_here", "_law_many_here"]) fun _ _ _ _ _ _ us hl=>by obtain⟨_,_,_,rfl⟩:=ln3 hl;rfl
 obtain⟨f32,fd32,F32,g32⟩:=Cj T hK hR (st:=V7) (i:=32) rfl
 have b32:=F32.binds (ps:=["_law_box_here", "_law_numbers"]) fun _ _ _ _ _ _ us hl=>by obtain⟨_,_,rfl⟩:=ln2 hl;rfl
 obtain⟨f33,fd33,F33,g33⟩:=Cj T hK hR (st:=Qw) (i:=33) rfl
 have b33:=F33.binds (ps:=["_law_found", "_law_due_here"]) fun _ _ _ _ _ _ us hl=>by obtain⟨_,_,rfl⟩:=ln2 hl;rfl
 obtain⟨f34,fd34,F34,g34⟩:=Cj T hK hR (st:=T7) (i:=35) rfl
 have b34:=F34.binds (ps:=["_law_box_here", "_law_some"]) fun _ _ _ _ _ _ us hl=>by obtain⟨_,_,rfl⟩:=ln2 hl;rfl
 obtain⟨f35,fd35,F35,g35⟩:=Cj T hK hR (st:=Te) (i:=36) rfl
 have b35:=F35.binds (ps:=["_law_wide_here"]) fun _ _ _ _ _ _ us hl=>by obtain⟨_,rfl⟩:=ln1 hl;rfl
 obtain⟨f36,fd36,F36,g36⟩:=Cj T hK hR (st:=Ae1) (i:=37) rfl
 have b36:=F36.binds (ps:=["_law_wide_here"]) fun _ _ _ _ _ _ us hl=>by obtain⟨_,rfl⟩:=ln1 hl;rfl
 obtain⟨f37,fd37,F37,g37⟩:=Cj T hK hR (st:=T5) (i:=38) rfl
 have b37:=F37.binds (ps:=["_law_box_here"]) fun _ _ _ _ _ _ us hl=>by obtain⟨_,rfl⟩:=ln1 hl;rfl
 obtain⟨f38,fd38,F38,g38⟩:=Cj T hK hR (st:=A8j) (i:=39) rfl
 have b38:=F38.binds (ps:=["_law_script"]) fun _ _ _ _ _ _ us hl=>by obtain⟨_,rfl⟩:=ln1 hl;rfl
 have yR:=Dy (x := "abs") T (Dj hR) hB (by simp)
 have zL:=Dy (x := "all") T (Dj hR) hB (by simp)
 have yE:=Dy (x := "bool") T (Dj hR) hB (by simp)
 have yQ:=Dy (x := "dict") T (Dj hR) hB (by simp)
 have yH:=Dy (x := "enumerate") T (Dj hR) hB (by simp)
 have zR:=Dy (x := "int") T (Dj hR) hB (by simp)
 have z7:=Dy (x := "isinstance") T (Dj hR) hB (by simp)
 have zG:=Dy (x := "len") T (Dj hR) hB (by simp)
 have zU:=Dy (x := "list") T (Dj hR) hB (by simp)
 have yS:=Dy (x := "max") T (Dj hR) hB (by simp)
 have yU:=Dy (x := "min") T (Dj hR) hB (by simp)
 have zY:=Dy (x := "range") T (Dj hR) hB (by simp)
 have yN:=Dy (x := "reversed") T (Dj hR) hB (by simp)
 have yP:=Dy (x := "set") T (Dj hR) hB (by simp)
 have yM:=Dy (x := "sorted") T (Dj hR) hB (by simp)
 have zO:=Dy (x := "str") T (Dj hR) hB (by simp)
 have z8:=Dy (x := "tuple") T (Dj hR) hB (by simp)
 have yK:=Dy (x := "zip") T (Dj hR) hB (by simp)
 have yF:∃t,mg "LETTERS" = some (Value.str "abcdefghijklmnopqrstuvwxyz" t):=A3o T hc_LETTERS;have zQ:∃t,mg "LONGEST_NAME" = some (Value.int 8 t):=const_int T hc_LONGEST_NAME;have e:=hfa.symm.trans g38
 cases e
 refine⟨K,fd38,kin,tab,A4k F38 (fun kV dc pm an cd ct s v=>.of_eq rfl),fun base _ _=>?_⟩
 have D_has_plain_signs:=mkD (Py (P:=l.prog) (w:=w) (mg:=mg) (base:=base) F1 zL) b1 F1.kp g1;have D_is_value:=mkD (An1 (P:=l.prog) (w:=w) (mg:=mg) (base:=base) F2 D_has_plain_signs yE zR z7 zO) b2 F2.kp g2;have D_rank:Def l.prog w K mg base "rank" 2 ["value"] (spP K (Gm 2)):=mkD (Al1 F3 b3 g3 zR z7 zO z8 2) b3 F3.kp g3;have D_risen:=mkD (A6c (P:=l.prog) (w:=w) (mg:=mg) (base:=base) F4 D_rank yM) b4 F4.kp g4;have D_is_name:=mkD (As5 (P:=l.prog) (w:=w) (mg:=mg) (base:=base) F5 zL z7 zG zO yF zQ) b5 F5.kp g5;have D_are_columns:=mkD (Xo (P:=l.prog) (w:=w) (mg:=mg) (base:=base) F6 D_is_name zL z7 zG yP z8) b6 F6.kp g6;have D_is_row:=mkD (A3e (P:=l.prog) (w:=w) (mg:=mg) (base:=base) F7 D_is_value zL z7 zG z8) b7 F7.kp g7;have D_values_at:=mkD (Ab6 (P:=l.prog) (w:=w) (mg:=mg) (base:=base) F8 z8) b8 F8.kp g8;have D_is_pair:=mkD (Av4 (P:=l.prog) (w:=w) (mg:=mg) (base:=base) F9 z7 zG z8) b9 F9.kp g9;have D_are_wide_columns:=mkD (O3 (P:=l.prog) (w:=w) (mg:=mg) (base:=base) F10 D_are_columns zL z7 zG z8) b10 F10.kp g10;have D_are_unlike_rows:=mkD (Qn (P:=l.prog) (w:=w) (mg:=mg) (base:=base) F11 D_is_row zL zG yP) b11 F11.kp g11;have D_are_cells:=mkD (Zo (P:=l.prog) (w:=w) (mg:=mg) (base:=base) F12 D_is_row zL z7 zG z8) b12 F12.kp g12;have D_is_wide:=mkD (Ao9 (P:=l.prog) (w:=w) (mg:=mg) (base:=base) F13 D_is_pair D_are_wide_columns D_are_unlike_rows D_are_cells zL z7 zG z8) b13 F13.kp g13;have D_parts_of:=mkD (Ah7 (P:=l.prog) (w:=w) (mg:=mg) (base:=base) F14 z8) b14 F14.kp g14;have D_cells_under:=mkD (Wy (P:=l.prog) (w:=w) (mg:=mg) (base:=base) F15 z8) b15 F15.kp g15;have D_with_heads_at:=mkD (Tz (P:=l.prog) (w:=w) (mg:=mg) (base:=base) F16 D_values_at z8) b16 F16.kp g16;have D_is_told_order:=mkD (T8 (P:=l.prog) (w:=w) (mg:=mg) (base:=base) F17 D_is_pair z7 zU z8) b17 F17.kp g17;have D_in_told_order:=mkD (Tt (P:=l.prog) (w:=w) (mg:=mg) (base:=base) F18 lt_in_told_order lc_in_told_order ld_in_told_order yM) b18 F18.kp g18;have D_in_order:=mkD (Aj6 (P:=l.prog) (w:=w) (mg:=mg) (base:=base) F19 D_risen D_is_told_order D_in_told_order zU yN) b19 F19.kp g19;have D_heads_in:=mkD (Ag5 (P:=l.prog) (w:=w) (mg:=mg) (base:=base) F20 D_with_heads_at D_in_order) b20 F20.kp g20;have D_parts_in:=mkD (Am4 (P:=l.prog) (w:=w) (mg:=mg) (base:=base) F21 D_parts_of D_in_order yQ z8) b21 F21.kp g21;have D_exchanged:=mkD (Aa7 (P:=l.prog) (w:=w) (mg:=mg) (base:=base) F22 D_parts_of D_cells_under yH z8) b22 F22.kp g22;have D_l_cell_at:=mkD (Ab4 (P:=l.prog) (w:=w) (mg:=mg) (base:=base) F23 zG) b23 F23.kp g23;have D_l_box:=mkD (A9t (P:=l.prog) (w:=w) (mg:=mg) (base:=base) F24 D_l_cell_at yR zR) b24 F24.kp g24;have D_l_take:=mkD (A2p (P:=l.prog) (w:=w) (mg:=mg) (base:=base) F25 ) b25 F25.kp g25;have D_l_many:=mkD (A1t (P:=l.prog) (w:=w) (mg:=mg) (base:=base) F26 D_l_take) b26 F26.kp g26;have D_l_names:=mkD (Ao0 (P:=l.prog) (w:=w) (mg:=mg) (base:=base) F27 D_l_take zG zY) b27 F27.kp g27;have D_l_value:=mkD (Ap9 (P:=l.prog) (w:=w) (mg:=mg) (base:=base) F28 D_l_take) b28 F28.kp g28;have D_l_number:=mkD (Ai8 (P:=l.prog) (w:=w) (mg:=mg) (base:=base) F29 D_l_take) b29 F29.kp g29;have D_l_pool:=mkD (A3p (P:=l.prog) (w:=w) (mg:=mg) (base:=base) F30 D_l_value zY) b30 F30.kp g30;have D_l_tuples:=mkD (Am2 (P:=l.prog) (w:=w) (mg:=mg) (base:=base) F31 D_l_take D_l_pool zG zY z8) b31 F31.kp g31;have D_l_wide:=mkD (A1v (P:=l.prog) (w:=w) (mg:=mg) (base:=base) F32 D_l_take D_l_many D_l_names D_l_value D_l_number D_l_tuples z8) b32 F32.kp g32;have D_l_same:Def l.prog w K mg base "_law_same" 8 ["_law_found", "_law_due_here"] (spP K (Cz 8)):=mkD (Xn F33 b33 g33 zL yE zR z7 zG zU zO z8 yK 8) b33 F33.kp g33;have D_l_order:=mkD (Ar6 (P:=l.prog) (w:=w) (mg:=mg) (base:=base) F34 D_l_take zG zY z8) b34 F34.kp g34;have D_l_parts:=mkD (Ar5 (P:=l.prog) (w:=w) (mg:=mg) (base:=base) F35 ) b35 F35.kp g35;have D_l_due:=mkD (A6f (P:=l.prog) (w:=w) (mg:=mg) (base:=base) F36 D_l_parts yH z8) b36 F36.kp g36;have D_l_right:=mkD (Aq3 (P:=l.prog) (w:=w) (mg:=mg) (base:=base) F37 D_is_wide D_heads_in D_parts_in D_exchanged D_l_take D_l_wide D_l_same D_l_order D_l_parts D_l_due zU zO z8) b37 F37.kp g37
 exact(B0k F38 D_l_box D_l_right zG yS yU zY).imp fun vs H Q E h=>Bq3 hlaw h
theorem walk {l:PySem.W.OpenLaw}{q:u6}{loose:v4}{XP:(x_)->Heap->Prop}{YP:World->Heap->Prop}{d:DefRec}(hn:l.most=some 63)(hdf:d.params.defaults=[])
 (F:∀(w:World) (mean:ExcName->u9) (mg mb:x_) (fa:Addr) (h:Heap),PyProof.Rows.Top q (PySem.W.looseW q loose) mean mg mb h->mg d.name=some (.ref fa) ->
  ∃(K:v9) (fd:u5),K.In h/\TabAt K h/\(∀(s:u_) (u:Value),BindsTo s fd ⟨[u],[]⟩ [("_law_script",u)])/\∀base:Heap,K.In base->base.Ns mainGlobals mg->FnOk l.prog w K mg base CX0 10 fa fd ["_law_script"] (A5h K)) :
 PySem.W.WalkO q loose XP YP l.row.toRowW d [] (fun f vs=>PySem.call f vs) :=
 L2.walk_ofH     hn (by decide) hdf ⟨rfl,by decide,by decide,rfl⟩ F fun _ _ a ns hl hS=>⟨a,ns,rfl,hS,hl,fun _=>rfl⟩
end K
open PySem PySem.W PyProof.Rows
set_option maxHeartbeats 0
namespace K
def dOf:Stmt->DefRec
 | .FunctionDef _ a b _ _ _ s _ _ p=>⟨"law",a,b,s,p⟩
 | _=>⟨"law",⟨[],[],none,[],[],none,[]⟩,[],default,default⟩
def dL:DefRec:=⟨"law",(dOf (top 49)).params,(dOf (top 49)).body,(dOf (top 49)).scope,(dOf (top 49)).pos⟩
theorem B2k:rwT.wellSaid=true:=by kernel_rfl
theorem B3x:defOf qT rwT.row.name=some (dL,[]):=by kernel_rfl
theorem B3v:rwT.row.prog.theDef rwT.row.name=some (dL.params,dL.body,dL.scope):=by trivial
theorem kwT:kwWritten? dL.params.kwonlyargs dL.params.kw_defaults=some []:=by trivial
theorem okT:(chainsOk qT&&opensWell rwT.row.prog&&(frees rwT.row.toRowW&&rwT.row.within.isEmpty))=true:=by trivial
theorem dfT:dL.params.defaults=[]:=by rfl
theorem B2b:rwT.row.prog.bare:=⟨rfl,rfl,rfl,rfl,rfl,by decide +kernel⟩
theorem B1t:rwT.row.toRowW.promised:=by w_witness2
end K
theorem PySem.Challenge.cw_pivotfold_k35_key_and_names_exchanged_holds : PySem.Challenge.rw_pivotfold_k35_key_and_names_exchanged.Holds := by
 refine holds_law K.B2k fun said=>?_
 refine holds_open (q:=K.qT) (loose:=[]) (Xt:=K.xtT) (XP:=XL K.qT []) (Yf:=Hook.none.obs) (Ya:=Hook.none.val) (YP:=Hook.none.says) (N:=20000) K.B1r Hook.none.of Hook.none.keeps (fun s e=>xl_of s (aq.mp e).1) XL.keeps K.B3x K.B3v K.kwT (fun s e=>recFacts_of (aq.mp e).2) rfl said K.okT K.B2b K.B1t ?_
 refine K.walk  rfl K.dfT ?F
 case F =>
  intro w mean mg mb fa h T hmg
  refine K.B0u T hmg K.A3y ?R ?B ?yF ?zQ
  (case R=>kernel_rfl); (case B=>kernel_rfl); (case yF=>kernel_rfl); (case zQ=>kernel_rfl)
end
