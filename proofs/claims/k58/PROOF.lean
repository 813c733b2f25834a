import PyProof.Rows.All
import PyProof.FactsAll.NoneType_1
import Wide.All
import OpenK.AllK
import Wide.FinOn
import Lean
import PyProof.EqAt
import PyProof.EqKinds
import PyProof.TupleCall
import PyProof.StrWalks
import PyProof.StrLawsRepr
import PyProof.ListMulRoad
import PyProof.StrOps2
import PyProof.CallStr
import PyProof.CollectStr
import PyProof.TupleOfSeq
import PyProof.DictTable
import KE.KSortTup
import PyProof.MeetsStr
import PyProof.FactsAll.str_5
import PyProof.StrBlockG
import PyProof.AttrMiss
import PyProof.FactsAll.zip_1
import KE.KDictOf
import PyProof.AttrMissHeap
import KE.KTryMore
import KE.KRevIter
import PyProof.ListRange
import PyProof.FactsAll.dict_3
import PyProof.MeetsDict
import PyProof.FactsAll.dict_keyiterator
import PyProof.DictItems
import PyProof.DictValues
import KE.KPairComp
import PyProof.TupleOfStr
import PyProof.TupleOfGen
import PyProof.DictWalks
import PyProof.StrCalls5
import PyProof.StrCalls6
import PyProof.ToksMono
import PyProof.StrCalls2
import PyProof.JoinWalk
import KE.KIntText
import PyProof.Draws
import PyProof.EnumMake
import PyProof.Rows.Range3
import PyProof.StrBlock2
import PyProof.DictTruth
import PyProof.StrLawsReplace
import PyProof.StrLawsTight
import PyProof.StrLawsChain
import PyProof.StrLawsIdx
import PyProof.StrLawsNeg
import PySem.Challenge.RW_pivotfold_k58_folded_tables_written
set_option genInjectivity false
set_option genSizeOf false
set_option Elab.async false
set_option linter.all false
set_option maxRecDepth 100000
noncomputable section
section
open PySem
abbrev o4:=Shared
abbrev o5:=PyData
abbrev o6:=Around
abbrev p7:=Program
abbrev v_:=List Str
abbrev p6:=FuncData
abbrev u9:=List Addr
abbrev q_:=List Expr
abbrev v4:=List Value
abbrev o7:=Option Int
abbrev w6:=List o5
abbrev u_:=Array Value
abbrev q9:=PySem.W.Frag
abbrev p_:=Option Value
abbrev o_:=List (Nat×Nat)
abbrev n7:=Nat->u9
abbrev y_:=List (Addr×Obj)
abbrev t_:=Array DictEntry
abbrev x_:=Str->p_
abbrev n6:=List (Option Nat)
abbrev z_:=Value->o4->Prop
end
section
open PySem PySem.Spec PyProof.Rows PySem.W PySem.Calls PySem.MeetsSeq PySem.MeetsSeq2 PySem.MeetsSeq3 PySem.SeqAt
abbrev aj:=@List.length_map
abbrev ak:=@Nat.le_refl
abbrev ao:=@Nat.le_trans
abbrev aq:=@decide_eq_true
abbrev au:=@List.mem_cons
abbrev az:=@List.mem_singleton
abbrev aA:=@List.mem_map
abbrev aB:=@decide_eq_false
abbrev aC:=@Nat.lt_of_lt_of_le
abbrev aD:=@Nat.zero_le
abbrev aF:=@Bool.and_eq_true_iff
abbrev aG:=@Nat.zero_add
abbrev aH:=@List.length_cons
abbrev aJ:=@Nat.ne_of_lt
abbrev aK:=@List.map_cons
abbrev aL:=@Ne.symm
abbrev aM:=@List.length_append
abbrev aN:=@List.map_map
abbrev aO:=@true_and
abbrev aP:=@List.mem_append
abbrev aQ:=@of_decide_eq_true
abbrev aR:=@Bool.false_ne_true
abbrev aU:=@List.mem_cons_of_mem
abbrev aV:=@List.map_append
abbrev aW:=@if_false
abbrev aX:=@List.all_eq_true
abbrev aY:=@if_true
abbrev aZ:=@List.lookup_cons
abbrev a_:=@Nat.ne_of_gt
abbrev bc:=@Option.map_eq_some_iff
abbrev bf:=@List.not_mem_nil
abbrev bh:=@or_false
abbrev bj:=@congrArg
abbrev bu:=@Nat.lt_of_le_of_lt
abbrev bw:=@List.append_nil
abbrev bx:=@List.nil_append
abbrev bz:=@Bool.false_eq_true
abbrev bA:=@Nat.lt_irrefl
abbrev bB:=@List.getElem?_eq_some_iff
abbrev bC:=@List.getElem?_set_self
abbrev bD:=@List.getElem?_map
abbrev bG:=@Option.bind_some
abbrev bH:=@PySem.F.plainAttrs_str
abbrev bI:=@List.getElem?_set_ne
abbrev bJ:=@List.size_toArray
abbrev bK:=@List.length_take
abbrev bL:=@Option.map_some
abbrev bM:=@List.length_set
abbrev bN:=@List.map_nil
abbrev bO:=@List.getElem?_cons_succ
abbrev bQ:=@Int.eq_ofNat_of_zero_le
abbrev bR:=@Bool.true_and
abbrev bT:=@Nat.add_le_add_left
abbrev bU:=@List.mem_append_right
abbrev bV:=@List.length_drop
abbrev bW:=@List.append_assoc
abbrev bY:=@Nat.lt_succ_self
abbrev bZ:=@Int.toNat_natCast
abbrev b_:=@Bool.or_false
abbrev cj:=@List.getElem?_eq_getElem
abbrev cu:=@List.getElem?_eq_none
abbrev cA:=@Nat.sub_self
abbrev cB:=@decide_true
abbrev cD:=@beq_self_eq_true
abbrev cG:=@Option.some.inj
abbrev cH:=@beq_eq_false_iff_ne
abbrev cJ:=@Option.map_none
abbrev cL:=@List.set_cons_zero
abbrev cM:=@List.set_cons_succ
abbrev cN:=@List.cons_append
abbrev cP:=@PySem.F.slot_str_join
abbrev cQ:=@PySem.F.type_str_join
abbrev cR:=@Nat.le_of_lt
abbrev cT:=@List.replicate_succ
abbrev cU:=@List.foldl_cons
abbrev cV:=@Bool.true_or
abbrev cW:=@Option.isSome_some
abbrev cX:=@Bool.false_or
abbrev cY:=@Option.some.injEq
abbrev cZ:=@List.length_nil
abbrev dj:=@List.all_cons
abbrev dm:=@List.all_nil
abbrev dq:=@List.mem_cons_self
abbrev du:=@Nat.mul_le_mul_left
abbrev dB:=@List.contains_cons
abbrev dC:=@List.getElem?_cons_zero
abbrev dD:=@List.contains_nil
abbrev dF:=@Option.join_some
abbrev dG:=@Bool.not_true
abbrev dH:=@Bool.not_false
abbrev dI:=@Bool.and_true
abbrev dJ:=@Bool.and_false
abbrev dM:=@Bool.false_and
abbrev dN:=@Bool.or_true
abbrev dO:=@List.any_nil
abbrev dR:=@List.flatMap_nil
abbrev dU:=@ite_true
abbrev dW:=@ite_false
abbrev dX:=@decide_false
abbrev dY:=@and_self
abbrev dZ:=@and_true
abbrev d_:=@Nat.add_assoc
abbrev eE:=@PyProof.Rows.callWith_type1
abbrev eF:=@List.nodup_cons
abbrev eG:=@List.mem_of_getElem?
abbrev eN:=@Array.length_toList
abbrev eO:=@eq_of_beq
abbrev eQ:=@List.nodup_nil
abbrev eU:=@Option.bind_eq_some_iff
abbrev eV:=@List.length_zip
abbrev eX:=@List.foldl_nil
abbrev eY:=@List.isEmpty_nil
abbrev eZ:=@List.isEmpty_cons
abbrev e_:=@Nat.le_add_right
abbrev fj:=@Bool.and_eq_true
abbrev fu:=@List.flatten_cons
abbrev fB:=@Nat.le_of_succ_le
abbrev fC:=@Nat.sub_zero
abbrev fD:=@Nat.min_eq_left
abbrev fG:=@List.filterMap_cons
abbrev fH:=@PySem.mem_of_lookup
abbrev fJ:=@PyProof.Rows.slot_tuple_getitem
abbrev fK:=@Nat.le_succ
abbrev fL:=@Nat.succ_le_succ
abbrev fM:=@Nat.le_of_eq
abbrev fO:=@Nat.lt_succ_of_lt
abbrev fP:=@List.length_singleton
abbrev fQ:=@List.drop_zero
abbrev fU:=@Array.getElem?_eq_getElem
abbrev fV:=@Nat.lt_or_ge
abbrev fW:=@Nat.min_self
abbrev fX:=@List.take_length
abbrev fY:=@List.drop_eq_getElem_cons
abbrev fZ:=@List.drop_length
abbrev gb:=@List.getElem?_range
abbrev gf:=@Nat.le_succ_of_le
abbrev gh:=@Nat.add_sub_cancel
abbrev gj:=@Nat.mul_le_mul
abbrev gk:=@Nat.add_lt_add_of_lt_of_le
abbrev gm:=@List.nodup_append
abbrev gn:=@List.map_congr_left
abbrev gq:=@List.flatMap_cons
abbrev gw:=@List.getElem?_drop
abbrev gA:=@List.set_comm
abbrev gB:=@List.of_mem_zip
abbrev gC:=@Nat.lt_trans
abbrev gD:=@List.forIn_cons
abbrev gF:=@decide_eq_true_eq
abbrev gG:=@Array.getElem?_toList
abbrev gH:=@List.ext_getElem?
abbrev gJ:=@List.length_replicate
abbrev gK:=@List.length_range
abbrev gM:=@List.getD_eq_getElem?_getD
abbrev gO:=@List.take_of_length_le
abbrev gP:=@List.Perm.refl
abbrev gQ:=@Int.ofNat_le
abbrev gR:=@PyProof.Rows.signs_ofString
abbrev gU:=@PySem.F.slot_str_startswith
abbrev gV:=@PySem.F.type_str_startswith
abbrev gW:=@List.mem_append_left
abbrev gY:=@List.take_sublist
abbrev gZ:=@PySem.F.slot_tuple_add
abbrev g_:=@PySem.F.entry_tuple_add
abbrev h_:=@PySem.F.args_tuple_add_2
abbrev ie:=@Nat.le_of_not_lt
abbrev ig:=@List.getElem_mem
abbrev ik:=@List.getElem?_zip_eq_some
abbrev il:=@List.eq_nil_or_concat
abbrev ir:=@List.concat_eq_append
abbrev iu:=@PyProof.Rows.F.plain_set_update_loop
abbrev iw:=@Int.toNat_of_nonneg
abbrev iy:=@List.lookup_append
abbrev iz:=@List.getElem?_append_right
abbrev iB:=@List.zip_cons_cons
abbrev iC:=@List.eraseIdx_cons_succ
abbrev iD:=@Nat.toDigits_of_lt_base
abbrev iG:=@PyProof.Rows.F.entry_set_update_loop
end
namespace K
open PySem PySem.W PyProof.Rows
abbrev pwT:=PySem.Challenge.pw_pivotfold_k58_folded_tables_written
abbrev rwT:=PySem.Challenge.rw_pivotfold_k58_folded_tables_written
noncomputable def B6i:Stmt->Bool
 | .Assign [.Name n _] _ _=>!(["__name__"]:v_).contains n
 | _=>true
def qT:p7:={ pwT with main:={ pwT.main with body:=pwT.main.body.filter B6i } }
abbrev xtT:o4->Bool:=λs=>xlAt qT [] s&&recOk (RowW.records rwT.row.toRowW) s
set_option maxHeartbeats 0 in
theorem B5g:LeftO rwT.row.prog qT [] xtT Hook.none.obs Hook.none.val 20000:=λw=>by kernel_rfl
end K
namespace L2
open PySem PySem.Spec PyProof.Rows
abbrev Key:=Sum Int Str
noncomputable def Wj:Key->Value->Bool
 | .inl k,v=>Value.isInt k v
 | .inr x,v=>Value.isStrOf x v
noncomputable def B2k (w:World):Key->Int
 | .inl k=>hashInt k
 | .inr x=>hashStr w x
theorem Gb:∀{k:Key}{v:Value},Wj k v=true->(∃i t,k=Sum.inl i/\v=Value.int i t)\/(∃x t,k=Sum.inr x/\v=Value.str x t)
 | .inl i,v,h=>by
  obtain⟨t,e⟩:=Value.isInt_shape (k:=i) (v:=v) h;exact .inl ⟨i,t,rfl,e⟩
 | .inr x,v,h=>by
  obtain⟨t,e⟩:=Value.isStrOf_shape (x:=x) (v:=v) h;exact .inr ⟨x,t,rfl,e⟩
theorem Am0 (i:Int)(t:Tok):Wj (.inl i) (.int i t)=true:=by simp[Wj,Value.isInt]
theorem Am4 (x:Str)(t:Tok):Wj (.inr x) (.str x t)=true:=by simp[Wj,Value.isStrOf]
theorem B2p (a b:Int):decide ((Sum.inl a:Key)=Sum.inl b)=(a==b):=by
 grind
theorem B1r (a b:Str):decide ((Sum.inr a:Key)=Sum.inr b)=decide (a=b):=by
 grind
theorem B2x (a:Int)(b:Str):decide ((Sum.inl a:Key)=Sum.inr b)=false:=aB λq=>nomatch q
theorem B1z (a:Str)(b:Int):decide ((Sum.inr a:Key)=Sum.inl b)=false:=aB λq=>nomatch q
def Ge (prog:p7)(w:World):PySem.KeyKind prog w Key where
 is:=Wj
 hash:=B2k w
 inj:=λv a b ha hb=>by
  rcases Gb ha with ⟨i,t,rfl,rfl⟩ | ⟨x,t,rfl,rfl⟩
  ·rcases Gb hb with ⟨j,u,rfl,e⟩ | ⟨y,u,rfl,e⟩
   ·injection e with e1 _;rw[e1]
   ·exact nomatch e
  ·rcases Gb hb with ⟨j,u,rfl,e⟩ | ⟨y,u,rfl,e⟩
   ·exact nomatch e
   ·injection e with e1 _;rw[e1]
 byValue:=λk v h=>by
  rcases Gb h with ⟨i,t,rfl,rfl⟩ | ⟨x,t,rfl,rfl⟩ <;> rfl
 pyHash:=λhv h=>by
  rcases Gb hv with ⟨i,t,rfl,rfl⟩ | ⟨x,t,rfl,rfl⟩
  ·exact wpAny_pyHash_int h
  ·exact wpAny_pyHash_str h
 eqBool:=λhu hv h=>by
  rcases Gb hu with ⟨i,t,rfl,rfl⟩ | ⟨x,t,rfl,rfl⟩
  ·rcases Gb hv with ⟨j,u,rfl,rfl⟩ | ⟨y,u,rfl,rfl⟩
   ·rw[B2p]at h;exact wpAny_eqBool_int h
   ·rw[B2x]at h;exact SeqAt.EqAt.int_str i t y u _ _ _ _ h
  ·rcases Gb hv with ⟨j,u,rfl,rfl⟩ | ⟨y,u,rfl,rfl⟩
   ·rw[B1z]at h;exact SeqAt.EqAt.str_int x t j u _ _ _ _ h
   ·rw[B1r]at h;exact wpAny_eqBool_str h
 «strs»:=λk x t v h=>by
  rcases Gb h with ⟨i,u,rfl,e⟩ | ⟨y,u,rfl,e⟩
  ·exact nomatch e
  ·injection e with e1 _
   subst e1
   cases v <;> rfl
theorem Ry (prog:p7)(w:World)(i:Int)(t:Tok):(Ge prog w).is (.inl i) (.int i t)=true:=Am0 i t
theorem Rn (prog:p7)(w:World)(x:Str)(t:Tok):(Ge prog w).is (.inr x) (.str x t)=true:=Am4 x t
noncomputable instance B7r:DecidableEq o5:=λa b=>Classical.propDecidable (a=b)
mutual
noncomputable def keyB:o5->Bool
 | .none=>true
 | .int _=>true
 | .str _=>true
 | .tuple ds=>Im ds
 | _=>false
noncomputable def Im:w6->Bool
 | []=>true
 | d::ds=>keyB d&&Im ds
end
mutual
theorem S8:∀(x y:o5),keyB x=true->keyB y=true->(PyData.eqv x y=true↔x=y)
 | .none,y,_,hy=>by cases y <;> simp_all [PyData.eqv,keyB]
 | .int _,y,_,hy=>by cases y <;> simp_all [PyData.eqv,keyB]
 | .str _,y,_,hy=>by cases y <;> simp_all [PyData.eqv,keyB]
 | .tuple xs,.tuple ys,hx,hy=>by
  have:=Ax8 xs ys hx hy
  show PyData.eqvAll xs ys=true↔_
  rw[this]
  exact⟨λe=>by rw[e],λe=>by cases e;rfl⟩
 | .tuple xs,.none,hx,hy=>⟨(λe=>nomatch e),λe=>nomatch e⟩
 | .tuple xs,.int _,hx,hy=>⟨(λe=>nomatch e),λe=>nomatch e⟩
 | .tuple xs,.str _,hx,hy=>⟨(λe=>nomatch e),λe=>nomatch e⟩
theorem Ax8:∀(xs ys:w6),Im xs=true->Im ys=true->(PyData.eqvAll xs ys=true↔xs=ys)
 | [],[],_,_=>⟨λ_=>rfl,λ_=>rfl⟩
 | [],_::_,_,_=>⟨(λe=>nomatch e),λe=>nomatch e⟩
 | _::_,[],_,_=>⟨(λe=>nomatch e),λe=>nomatch e⟩
 | x::xs,y::ys,hx,hy=>by
  obtain⟨a,b⟩:=aF.mp (show (keyB x&&Im xs)=true from hx)
  obtain⟨c,d⟩:=aF.mp (show (keyB y&&Im ys)=true from hy)
  show (PyData.eqv x y&&PyData.eqvAll xs ys)=true↔_
  rw[aF,S8 x y a c,Ax8 xs ys b d,List.cons.injEq]
end
mutual
theorem Ab6 {h h':Heap}{d:Addr}{o:Obj}{es:t_}{ep:Nat}(ho:h.get? d=some o)(hd:o.data=.dict es ep)(hs:Heap.SameBut d h h'):∀(k:o5),keyB k=true->∀(v:Value) (as:u9),Reads h v k as->Reads h' v k as
 | .none,_,_,_,r=>by cases r;exact .none
 | .int i,_,_,_,r=>by cases r;exact .int _ _
 | .str x,_,_,_,r=>by cases r;exact .str _ _
 | .tuple ds,hk,_,_,r=>by
  cases r with
  | @tuple a o' vs n xs as h1 h2 h3 h4 =>
   refine .tuple ((hs.2 a ?_).trans h1) h2 h3 (X6 ho hd hs ds hk _ _ h4)
   intro e;rw[e,ho]at h1;cases h1;rw[hd]at h3;cases h3
theorem X6 {h h':Heap}{d:Addr}{o:Obj}{es:t_}{ep:Nat}(ho:h.get? d=some o)(hd:o.data=.dict es ep)(hs:Heap.SameBut d h h'):∀(ks:w6),Im ks=true->∀(vs:v4) (as:u9),ReadsAll h vs ks as->ReadsAll h' vs ks as
 | [],_,_,_,r=>by cases r;exact .nil
 | k::ks,hk,_,_,r=>by
  obtain⟨a,b⟩:=aF.mp (show (keyB k&&Im ks)=true from hk)
  cases r with
  | cons r1 r2=>exact .cons (Ab6 ho hd hs k a _ _ r1) (X6 ho hd hs ks b _ _ r2)
end
mutual
def Ax7 (w:World):o5->Int
 | .none=>hashInt 0xFCA86420
 | .int i=>B2k w (.inl i)
 | .str x=>B2k w (.inr x)
 | .tuple ds=>reduceHash (Builtin.Tuple.tupleHashOf (Ph w ds))
 | _=>0
def Ph (w:World):w6->List Int
 | []=>[]
 | d::ds=>Ax7 w d::Ph w ds
end
mutual
noncomputable def A1n:o5->Nat
 | .tuple ds=>Rj ds+1
 | _=>1
noncomputable def Rj:w6->Nat
 | []=>0
 | d::ds=>A1n d+Rj ds
end
section
variable {prog:p7}{w:World}
theorem Al4 (h:Q (hashInt 0xFCA86420) { s with toks:=s.toks+1 }):wpAny (model prog w) A (pyHash .none) Q E s:=by
 have a:s.TypeIs Value.none "NoneType" := rfl;unfold pyHash
 first | unfold pyHashByItsType | skip
 have b:[Value.none].any Value.onHeap=false:=rfl
 refine wpAny_bind ?_
 rw[cRoomFor,if_neg (by rw[b];exact aR)];refine wpAny_pure ?_
 refine wpAny_bind (wpAny_specialOf a F.slot_NoneType_hash.lookup ?_)
 show wpAny _ _ (if (some (Value.builtin "NoneType.__hash__")==some Value.none)=true then _ else _) Q E s
 rw[if_neg (by rw[beq_builtin_none];exact aR)]
 refine wpAny_bind (wpAny_specialOf a F.slot_NoneType_hash.lookup ?_)
 show wpAny _ _ (callSpecialIfBoundUnlessNone? .none "__hash__" _ >>= _) Q E s
 refine wpAny_bind (wpAny_callSpecialIfBoundUnlessNone?_slot a F.slot_NoneType_hash
  (wpAny_call_entry F.slot_NoneType_hash a F.entry_NoneType_hash
   (show wpAny _ _ (do ret (<- mkInt _)) _ _ s from wpAny_ret_mkInt ?_) (F.args_NoneType_hash_1 _)))
 exact wpAny_pure h
theorem A7m:∀(n:Nat) (d:o5),d.depth<=n->keyB d=true->∀(A:o6) (E:z_) (s:o4) (v:Value) (y:u9) (Q:Int->o4->Prop),A.units+n<cLine->Reads s.heap v d y ->
 Q (Ax7 w d) { s with toks:=s.toks+A1n d }->wpAny (model prog w) A (pyHash v) Q E s:=by
 intro n
 induction n with
 | zero =>
  intro d M j A E s v y Q C r h
  cases r with
  | none=>exact Al4 h
  | int i t=>exact(Ge prog w).pyHash (k:=.inl i) (v:=.int i t) (Ry prog w i t) h
  | str x t=>exact(Ge prog w).pyHash (k:=.inr x) (v:=.str x t) (Rn prog w x t) h
  | tuple=>exact absurd M (by simp[PyData.depth])
  | bool b=>cases j
  | list=>cases j
  | dict=>cases j
 | succ n Y =>
  intro d M j A E s v y Q C r h
  cases r with
  | none=>exact Al4 h
  | int i t=>exact(Ge prog w).pyHash (k:=.inl i) (v:=.int i t) (Ry prog w i t) h
  | str x t=>exact(Ge prog w).pyHash (k:=.inr x) (v:=.str x t) (Rn prog w x t) h
  | bool b=>cases j
  | list=>cases j
  | dict=>cases j
  | @tuple a o N n' g y R hc J U =>
   have G:s.TypeIs (.ref a) "tuple" := ⟨o,R,hc⟩
   have H:PyData.depthAll g<=n:=Nat.le_of_succ_le_succ (show PyData.depthAll g+1<=n+1 from M)
   have I:Im g=true:=j;unfold pyHash
   first | unfold pyHashByItsType | skip
   first | refine wpAny_bind (wpAny_cRoomFor_or (.inr (bu (e_ _ _) C)) ?_) | skip
   refine wpAny_bind (wpAny_specialOf G F.slot_tuple_hash.lookup ?_)
   show wpAny _ _ (if (some (Value.builtin "tuple.__hash__")==some Value.none)=true then _ else _) Q E s
   rw[if_neg (by rw[beq_builtin_none];exact aR)]
   refine wpAny_bind (wpAny_specialOf G F.slot_tuple_hash.lookup ?_)
   show wpAny _ _ (callSpecialIfBoundUnlessNone? (.ref a) "__hash__" _ >>= _) Q E s
   refine wpAny_bind (wpAny_callSpecialIfBoundUnlessNone?_slot G F.slot_tuple_hash (wpAny_call_entry F.slot_tuple_hash G F.entry_tuple_hash ?_ (F.args_tuple_hash_1 _)))
   show wpAny _ _ (Builtin.Tuple.tupleItemsOf (.ref a) >>= _) _ _ s
   refine wpAny_bind (wpAny_tupleItemsOf R J ?_)
   refine wpAny_bind ?_
   rw[<- Array.forIn_toList]
   refine wpAny_forIn_list _
    (λm (b:Array Int) O=>∃c e K,Ph w g=c++Ph w e/\ReadsAll s.heap m e K/\Im e=true/\PyData.depthAll e<=n/\b.toList=c/\∃k,k+Rj e=Rj g/\O={ s with toks:=s.toks+k })
    _ ?_ ?_ _ _ ⟨[],g,_,rfl,U,I,H,rfl,0,aG _,rfl⟩
   ·rintro x m b O ⟨c,e,K,z,L,q,p,B,k,D,rfl⟩
    cases L with
    | @cons _ _ l f V W X u =>
     obtain⟨Z,S⟩:=aF.mp (show (keyB l&&Im f)=true from q)
     have P:l.depth<=n/\PyData.depthAll f<=n:=by
      have:max l.depth (PyData.depthAll f)<=n:=p;omega
     refine wpAny_bind (Y l P.1 Z _ _ _ _ _ _ (by first | exact bu (by simp;omega) C | (have:=C;simp at *;omega)) X ?_)
     first
      | exact wpAny_pure ⟨c++[Ax7 w l],f,_,by rw[z];simp[Ph],u,S,P.2,by simp[B],k+A1n l,by rw[<- D];simp[Rj,d_],by simp[d_]⟩
      | exact wpAny_bind (wpAny_pure (wpAny_pure ⟨c++[Ax7 w l],f,_,by rw[z];simp[Ph],u,S,P.2,by simp[B],k+A1n l,by rw[<- D];simp[Rj,d_],by simp[d_]⟩))
   ·rintro b O ⟨c,e,K,z,L,q,p,B,k,D,rfl⟩
    cases L
    have e2:Ph w g=c:=by rw[z];simp[Ph]
    have T:k=Rj g:=D
    have h:Q (reduceHash (Builtin.Tuple.tupleHashOf (Ph w g))) { s with toks:=s.toks+(Rj g+1) }:=h
    rw[e2]at h;subst T
    show wpAny _ _ (retInt (Builtin.Tuple.tupleHashOf b.toList)) _ _ _
    rw[B]
    refine wpAny_ret_mkInt ?_
    show wpAny _ _ (if (decide (-(2:Int) ^ 63<=Builtin.Tuple.tupleHashOf c)&&decide (Builtin.Tuple.tupleHashOf c<2 ^ 63))=true then _ else _) Q E _
    unfold reduceHash at h
    by_cases hr:(decide (-(2:Int) ^ 63<=Builtin.Tuple.tupleHashOf c)&&decide (Builtin.Tuple.tupleHashOf c<2 ^ 63))=true
    ·rw[if_pos hr]
     rw[if_pos hr]at h
     exact wpAny_pure (by simpa[d_] using h)
    ·rw[if_neg hr]
     rw[if_neg hr]at h
     exact wpAny_bind (wpAny_rule (wpAny_pure (by simpa[d_] using h)))
theorem A3x:∀(m:Nat) (d:o5),d.depth<=m->keyB d=true->∀(A:o6) (E:z_) (s:o4) (v:Value) (j:u9) (Q:Bool->o4->Prop),Reads s.heap v d j->Q true s->wpAny (model prog w) A (eqIsQuiet (m+1) v) Q E s:=by
 intro m
 induction m with
 | zero =>
  intro d q f A E s v j Q r h
  cases r with
  | none=>rw[eqIsQuiet_byValue _ rfl];exact wpAny_pure h
  | int i t=>rw[eqIsQuiet_byValue _ rfl];exact wpAny_pure h
  | str x t=>rw[eqIsQuiet_byValue _ rfl];exact wpAny_pure h
  | tuple=>exact absurd q (by simp[PyData.depth])
  | bool b=>cases f
  | list=>cases f
  | dict=>cases f
 | succ n O =>
  intro d q f A E s v j Q r h
  cases r with
  | none=>rw[eqIsQuiet_byValue _ rfl];exact wpAny_pure h
  | int i t=>rw[eqIsQuiet_byValue _ rfl];exact wpAny_pure h
  | str x t=>rw[eqIsQuiet_byValue _ rfl];exact wpAny_pure h
  | bool b=>cases f
  | list=>cases f
  | dict=>cases f
  | @tuple a o y n' M j G L l U =>
   have D:s.TypeIs (.ref a) _:=⟨o,G,L⟩
   have p := Nat.le_of_succ_le_succ (show PyData.depthAll _+1<=n+1 from q)
   unfold eqIsQuiet
   refine wpAny_bind (wpAny_specialOf D F.slot_tuple_eq.lookup ?_)
   refine wpAny_bind (wpAny_isInstance D isSubtype_tuple_tuple ?_)
   refine wpAny_bind (wpAny_seqItems G l ?_)
   refine wpAny_bind ?_
   rw[<- Array.forIn_toList]
   refine wpAny_forIn_list _ (λe r u=>r.1=none/\u=s/\∃c H,ReadsAll _ e c H/\Im c=true/\PyData.depthAll c<=n) _ ?_ ?_ _ _ ⟨rfl,rfl,M,_,U,f,p⟩
   ·rintro v e r u ⟨C,rfl,c,H,J,k,z⟩
    cases J with
    | @cons _ _ N g P R K B =>
     obtain⟨S,T⟩:=aF.mp (show (keyB _&&Im _)=true from k)
     have I:N.depth<=n/\PyData.depthAll g<=n:=by
      have:max _ _<=n:=z;omega
     refine wpAny_bind (O _ I.1 S _ _ _ _ _ _ K ?_)
     exact wpAny_pure ⟨rfl,rfl,g,_,B,T,I.2⟩
   ·rintro⟨r1,r2⟩ u ⟨C,rfl,_⟩
    subst C;exact wpAny_pure h
def B4n (h:Heap)(k:o5)(a:Addr):Prop:=(keyB k=true/\k.canLay0=true/\k.depth<=7)/\∃as,Reads h (.ref a) k as
def Gv (prog:p7)(w:World):HeapKind prog w o5 where
 is:=B4n
 hash:=Ax7 w
 draws:=A1n
 room:=λA=>A.units+8<cLine
 inj:=λhx hy=>let ⟨⟨_,l,_⟩,_,r⟩:=hx;let ⟨_,_,r'⟩:=hy; SeqAt.Reads.unique _ _ _ _ _ l r r'
 keeps:=λx ho hd hs=>let ⟨c,_,r⟩:=x; ⟨c,_,Ab6 ho hd hs _ c.1 _ _ r⟩
 pyHash:=λhu hk h=>let ⟨c,_,r⟩:=hk; A7m 7 _ c.2.2 c.1 _ _ _ _ _ _ (bu (bT (by decide) _) hu) r h
 eqBool:=λ{A E s x y a b Q} hu hx hy h=>by
  obtain⟨c,_,r⟩:=hx;obtain⟨d,_,r'⟩:=hy
  refine SeqAt.eqAt_reads x y A s _ _ _ _ r r' c.2.1 d.2.1 (bu (bT (ao (Nat.min_le_left _ _) (ao c.2.2 (by decide))) _) hu) prog w E Q ?_
  have e:PyData.eqv x y=decide (x=y):=by
   have:=S8 x y c.1 d.1
   by_cases z:x=y
   ·rw[aq z];exact this.mpr z
   ·rw[aB z]
    cases q:PyData.eqv x y with
    | false=>rfl
    | true=>exact absurd (this.mp q) z
  rw[e];exact h
 quiet:=λhk h=>let ⟨c,_,r⟩:=hk; A3x 7 _ c.2.2 c.1 _ _ _ _ _ _ r h
end
inductive V where
 | non | bl (b:Bool) | int (i:Int) | str (x:Str) | byt (b:Array UInt8) | flt (b:UInt64) | ref (a:Addr) | ty (n:String)
 deriving DecidableEq
abbrev l_:=List V
@[simp] theorem V.bl.injEq (a b:Bool):(V.bl a=V.bl b)=(a=b):=propext ⟨λh=>by cases h;rfl,λh=>by rw[h]⟩
@[simp] theorem V.int.injEq (a b:Int):(V.int a=V.int b)=(a=b):=propext ⟨λh=>by cases h;rfl,λh=>by rw[h]⟩
@[simp] theorem V.str.injEq (a b:Str):(V.str a=V.str b)=(a=b):=propext ⟨λh=>by cases h;rfl,λh=>by rw[h]⟩
@[simp] theorem V.byt.injEq (a b:Array UInt8):(V.byt a=V.byt b)=(a=b):=propext ⟨λh=>by cases h;rfl,λh=>by rw[h]⟩
@[simp] theorem V.ref.injEq (a b:Addr):(V.ref a=V.ref b)=(a=b):=propext ⟨λh=>by cases h;rfl,λh=>by rw[h]⟩
def RelV:V->Value->Prop
 | .non,u=>u=Value.none
 | .bl b,u=>u=Value.bool b
 | .int i,u=>∃t,u=Value.int i t
 | .str x,u=>∃t,u=Value.str x t
 | .byt b,u=>∃t,u=Value.bytes b t
 | .flt b,u=>∃t,u=Value.float b t
 | .ref a,u=>u=Value.ref a
 | .ty n,u=>u=Value.type n
abbrev Vals:l_->v4->Prop:=Paired RelV
theorem Vals.length (r:Vals xs us):xs.length=us.length:=Paired.length r
theorem Vals.get:∀{xs:l_}{us:v4}{i:Nat}{x:V},Vals xs us->xs[i]?=some x->∃u,us[i]?=some u/\RelV x u
 | _,_,_,_,.nil,e=>by simp at e
 | _,_,0,_,.cons r _,e=>by simp at e;subst e;exact⟨_,rfl,r⟩
 | _,_,i+1,x,.cons _ t,e=>by
  obtain⟨u,h1,h2⟩:=Vals.get (i:=i) (x:=x) t (by simpa using e)
  exact⟨u,by simpa using h1,h2⟩
theorem Vals.set {x:V}{u:Value}(r:RelV x u):∀{xs:l_}{us:v4}(i:Nat),Vals xs us->Vals (xs.set i x) (us.set i u)
 | _,_,_,.nil=>.nil
 | _,_,0,.cons _ t=>.cons r t
 | _,_,i+1,.cons q t=>.cons q (Vals.set r i t)
theorem Vals.append:∀{xs ys:l_}{us ws:v4},Vals xs us->Vals ys ws->Vals (xs++ys) (us++ws)
 | _,_,_,_,.nil,s=>s
 | _,_,_,_,.cons r t,s=>.cons r (Vals.append t s)
theorem Vals.take:∀{xs:l_}{us:v4}(n:Nat),Vals xs us->Vals (xs.take n) (us.take n)
 | _,_,0,_=>.nil
 | _,_,_+1,.nil=>.nil
 | _,_,n+1,.cons r t=>.cons r (Vals.take n t)
theorem Vals.drop:∀{xs:l_}{us:v4}(n:Nat),Vals xs us->Vals (xs.drop n) (us.drop n)
 | _,_,0,r=>r
 | _,_,_+1,.nil=>.nil
 | _,_,n+1,.cons _ t=>Vals.drop n t
def RelO:Option V->p_->Prop
 | some v,some u=>RelV v u
 | none,none=>True
 | _,_=>False
def KV {κ:Type}:List (κ×V)->List (κ×Value)->Prop:=Paired λ(p:κ×V) (q:κ×Value)=>p.1=q.1/\RelV p.2 q.2
noncomputable def kV:Key->V
 | .inl i=>.int i
 | .inr x=>.str x
inductive HO where
 | lst (xs:l_)
 | tup (xs:l_)
 | dK (kvs:List (Key×V)) | dT (kvs:List (PyData×V))
 | set (S:Int->Bool) (n:Nat)
 | ins (C dx:Addr) (fs:List (Str×V))
 | own (x:Addr)
 | xd (fs:List (Str×V))
 | met (f x:Addr)
 | rng (lo hi:Int)
 | frz (o:Obj) (u:HO)
 | tbl (q:Str)
 | ext (φ:Heap->Prop)
abbrev Hp:=Addr->Option HO
noncomputable def upd (H:Hp) (a:Addr) (o:HO):Hp:=λb=>if b=a then some o else H b
theorem Be : upd H a o a=some o:=by unfold upd;simp_all
theorem Al (h:b≠a):upd H a o b=H b:=by unfold upd;simp_all
theorem B0l {H:Hp} (h:H a=some o) (h':H b=some u) (d:o≠u):a≠b:=by
 grind
theorem Cg {H:Hp} (h:H a=some o) (h':H b=none):a≠b:=by
 grind
mutual
def KTr (H:Hp):o5->V->Prop
 | .none,v=>v=.non
 | .int i,v=>v=.int i
 | .str x,v=>v=.str x
 | .tuple ds,v=>∃a vs,v=.ref a/\H a=some (.tup vs)/\KTrL H ds vs
 | _,_=>False
def KTrL (H:Hp):w6->l_->Prop
 | [],vs=>vs=[]
 | d::ds,vs=>∃v r,vs=v::r/\KTr H d v/\KTrL H ds r
end
mutual
theorem KTr.stay {H H':Hp}(ht:∀b xs,H b=some (.tup xs)->H' b=some (.tup xs)):∀{d:o5}{v:V},KTr H d v->KTr H' d v
 | .none,_,h=>h
 | .int _,_,h=>h
 | .str _,_,h=>h
 | .tuple _,_,⟨a,vs,e,ha,t⟩=>⟨a,vs,e,ht _ _ ha,KTrL.stay ht t⟩
theorem KTrL.stay {H H':Hp}(ht:∀b xs,H b=some (.tup xs)->H' b=some (.tup xs)):∀{ds:w6}{vs:l_},KTrL H ds vs->KTrL H' ds vs
 | [],_,h=>h
 | _::_,_,⟨v,r,e,h,t⟩=>⟨v,r,e,KTr.stay ht h,KTrL.stay ht t⟩
end
def B0i (k:o5):Prop:=keyB k=true/\k.canLay0=true/\k.depth<=7
def KAt (H:Hp)(k:o5)(a:Addr):Prop:=B0i k/\KTr H k (.ref a)
theorem KAt.stay (ht:∀b xs,H b=some (.tup xs)->H' b=some (.tup xs)) (h:KAt H k a):KAt H' k a:=⟨h.1,KTr.stay ht h.2⟩
def yD (h:Heap)(a:Addr)(items:u_):Prop:=∃o,h.get? a=some o/\o.cls=.type "tuple" /\ (∃n,o.data=.seq items n)/\o.dict=none
theorem yD.tup (x:yD h a items):IsTup h a items:=let ⟨o,h1,h2,h3,_⟩:=x; ⟨o,h1,h2,h3⟩
theorem yD.lt (x:yD h a items):a<h.objs.size:=x.tup.lt
theorem yD.new (h:Heap)(items:u_):yD (h.push { cls:=.type "tuple",data:=.seq items }) h.objs.size items:=⟨_,Heap.get?_push_size _ rfl,rfl,⟨_,rfl⟩,rfl⟩
section
variable (P:p7)(w:World)
def zJ (H:Hp)(h:Heap)(a:Addr):HO->Prop
 | .lst xs=>xs.length<=sizeLine/\∃(its:v4) (n:Nat),Vals xs its/\h.get? a=some { cls:=.type "list",data:=.seq its.toArray n }
 | .tup xs=>xs.length<=sizeLine/\∃its:v4,Vals xs its/\yD h a its.toArray
 | .dK kvs=>kvs.length<=sizeLine/\(a==sysModules)=false/\∃vs,KV kvs vs/\h.DictOf (Ge P w) a vs
 | .dT kvs=>kvs.length<=sizeLine/\(a==sysModules)=false/\∃xs:List (PyData×Addr×Value),
  Paired (λ(p:PyData×V) (q:PyData×Addr×Value)=>p.1=q.1/\KAt H p.1 q.2.1/\RelV p.2 q.2.2) kvs xs /\
  ∃o es ep,h.get? a=some o/\o.ExactDict/\o.data=.dict es ep/\es.toList=xs.map (entryOfKey (Gv P w))/\(xs.map (·.1)).Nodup
 | .set S n=>h.SetOf (intKind P w) a S n
 | .ins C dx fs=>H dx=some (.own a)/\fs.length<=1000/\dx≠a/\h.get? a=some (PySem.W.instObj C dx) /\
  ∃mA,h.Ns1 dx mA/\(∀f,RelO (fs.lookup f) (mA f))/\PySem.Within mA (fs.map (·.1))
 | .own _=>∃o,h.get? a=some o
 | .xd fs=>∃mA,h.Ns1 a mA/\∀f,RelO (fs.lookup f) (mA f)
 | .rng lo hi=>∃t u v,h.get? a=some { cls:=.type "range",data:=.fields #[.int lo t,.int hi u,.int 1 v] }
 | .frz o u=>h.get? a=some o/\zJ H h a u
 | .tbl q=>∃ps:u_,h.get? a=some { cls:=.none,data:=.fields ps }/\TriplesOk ps.toList/\∀pos cv,codeAmong pos ps.toList=some cv->∃c o vs t,cv=.ref c/\H c=some (.frz o (.own 0))/\o.data=.fields vs/\vs[1]?=some (.str q t)
 | .met f x=>h.get? a=some (PySem.W.methodObj (.ref f) (.ref x))
 | .ext φ=>φ h/\(∃o,h.get? a=some o)/\∀h1 h2:Heap,φ h1->(∀o,h1.get? a=some o->h2.get? a=some o)->φ h2
def HOk (H:Hp)(h:Heap):Prop:=∀a o,H a=some o->zJ P w H h a o
end
section
variable {P:p7}{w:World}{H H':Hp}{h h':Heap}{a:Addr}{o:HO}
theorem zJ.lt (x:zJ P w H h a o):a<h.objs.size:=by
 cases o with
 | lst d=>obtain⟨_,_,_,_,e⟩:=x;exact Heap.lt_size e
 | tup d=>obtain⟨_,_,_,p⟩:=x;exact p.lt
 | dK b=>obtain⟨_,_,_,_,o,_,_,e,_⟩:=x;exact Heap.lt_size e
 | dT b=>obtain⟨_,_,_,_,o,_,_,e,_⟩:=x;exact Heap.lt_size e
 | set S n=>obtain⟨o,_,_,_,e,_⟩:=x;exact Heap.lt_size e
 | ins C g c=>obtain⟨_,_,_,e,_⟩:=x;exact Heap.lt_size e
 | own y=>obtain⟨_,e⟩:=x;exact Heap.lt_size e
 | xd c=>obtain⟨_,⟨_,_,_,e,_⟩,_⟩:=x;exact Heap.lt_size e
 | rng j k=>obtain⟨_,_,_,e⟩:=x;exact Heap.lt_size e
 | frz l u=>obtain⟨e,_⟩:=x;exact Heap.lt_size e
 | tbl q=>obtain⟨_,e,_⟩:=x;exact Heap.lt_size e
 | met f y=>exact Heap.lt_size (x)
 | ext i=>obtain⟨_,⟨_,e⟩,_⟩:=x;exact Heap.lt_size e
theorem Paired.mapP {α β:Type}{F G:α->β->Prop}:∀{l₁:List α}{l₂:List β},Paired F l₁ l₂->(∀a b,F a b->G a b)->Paired G l₁ l₂
 | _,_,.nil,_=>.nil
 | _,_,.cons r t,f=>.cons (f _ _ r) (Paired.mapP t f)
theorem zJ.stay (x:zJ P w H h a o)(k:∀b u,(b=a\/H b=some (.own a))->h.get? b=some u->h'.get? b=some u)
 (ho:∀b,H b=some (.own a)->H' b=some (.own a)) (ht:∀b m,H b=some (.tup m)->H' b=some (.tup m)) (hz:∀b o u,H b=some (.frz o u)->H' b=some (.frz o u):=by exact λ_ _ _ q=>q):zJ P w H' h' a o:=by
 induction o with
 | lst m=>obtain⟨z,l,n,r,e⟩:=x;exact⟨z,l,n,r,k _ _ (.inl rfl) e⟩
 | tup m=>obtain⟨z,l,r,g,e,c⟩:=x;exact⟨z,l,r,g,k _ _ (.inl rfl) e,c⟩
 | dK A=>obtain⟨z,y,D,r,g,i,j,e,c⟩:=x;exact⟨z,y,D,r,g,i,j,k _ _ (.inl rfl) e,c⟩
 | dT A =>
  obtain⟨z,y,m,r,g,i,j,e,c⟩:=x
  exact⟨z,y,m,Paired.mapP r λp q z=>⟨z.1,z.2.1.stay ht,z.2.2⟩,g,i,j,k _ _ (.inl rfl) e,c⟩
 | set S n=>obtain⟨g,i,j,t,e,c⟩:=x;exact⟨g,i,j,t,k _ _ (.inl rfl) e,c⟩
 | ins C M J =>
  obtain⟨d,z,G,e,s,⟨B,i,j,E,c⟩,r⟩:=x;exact⟨ho _ d,z,G,k _ _ (.inl rfl) e,s,⟨B,i,j,k _ _ (.inr d) E,c⟩,r⟩
 | own y=>obtain⟨g,e⟩:=x;exact⟨g,k _ _ (.inl rfl) e⟩
 | xd J=>obtain⟨s,⟨B,i,j,e,c⟩,r⟩:=x;exact⟨s,⟨B,i,j,k _ _ (.inl rfl) e,c⟩,r⟩
 | rng O N=>obtain⟨t,u,v,e⟩:=x;exact⟨t,u,v,k _ _ (.inl rfl) e⟩
 | frz g u K=>obtain⟨e,q⟩:=x;exact⟨k _ _ (.inl rfl) e,K q⟩
 | tbl q =>
  obtain⟨I,e,t,f⟩:=x
  exact⟨I,k a _ (.inl rfl) e,t,λL Q z=>let ⟨c,g,D,tk,e1,E,e3⟩:=f _ _ z; ⟨c,g,D,tk,e1,hz _ _ _ E,e3⟩⟩
 | met f y =>
  have e:h.get? a=some _:=x
  show h'.get? a=some _
  grind
 | ext R=>obtain⟨p,⟨o,e⟩,F⟩:=x;exact⟨F _ _ p λo q=>k _ _ (.inl rfl) q,⟨o,k _ _ (.inl rfl) e⟩,F⟩
theorem HOk.lt (x:HOk P w H h)(e:H a=some o):a<h.objs.size:=(x a o e).lt
theorem HOk.fresh (x:HOk P w H h)(e:h.objs.size<=a):H a=none:=by
 cases q:H a with
 | none=>rfl
 | some u=>exact absurd (aC (x.lt q) e) (bA _)
theorem HOk.kept (x:HOk P w H h)(k:∀b u,h.get? b=some u->h'.get? b=some u):HOk P w H h':=λa o e =>
 (x a o e).stay (λb u _ q=>k b u q) (λ_ q=>q) λ_ _ q=>q
theorem HOk.laid (x:HOk P w H h)(k:∀b u,h.get? b=some u->h'.get? b=some u)(hp:h.objs.size<=a)(f:zJ P w (upd H a o) h' a o):HOk P w (upd H a o) h':=λb u e=>by
 have d:=x.fresh hp
 by_cases hb:b=a
 ·subst hb;rw[Be]at e;simp_all
 ·rw[Al hb]at e
  exact(x b u e).stay (λc v _ q=>k c v q) λc q=>by rw[Al (Cg q d)];grind λc g q=>by rw[Al (Cg q d)];grind λc i g q=>by rw[Al (Cg q d)];grind
end
def Rd (H:Hp)(a:Addr)(u:HO):Prop:=H a=some u\/∃o,H a=some (.frz o u)
theorem Rd.ok (r:Rd H a u) (x:HOk P w H h):zJ P w H h a u:=by
 rcases r with r | ⟨o,r⟩
 ·exact x a u r
 ·obtain⟨_,q⟩:=x a _ r
  omega
def Mut:Option HO->Prop
 | some (.lst _)=>True
 | some (.dK _)=>True
 | some (.dT _)=>True
 | some (.set _ _)=>True
 | some (.ins _ _ _)=>True
 | some (.ext _)=>True
 | _=>False
section
variable {P:p7}{w:World}{H:Hp}{h h':Heap}{x e:Addr}{o':HO}
theorem HOk.write (s:HOk P w H h)(f:Mut (H x))(he:e=x\/H e=some (.own x))(k:∀b u,b≠e->h.get? b=some u->h'.get? b=some u)(m:∃u,h'.get? e=some u)
 (l:zJ P w (upd H x o') h' x o'):HOk P w (upd H x o') h':=λb u q=>by
 have a:∀c y,H c=some (.own y)->c≠x:=λc y r z=>by subst z;rw[r]at f;exact f
 have i:∀c d,H c=some (.tup d)->c≠x:=λc d r z=>by subst z;rw[r]at f;exact f
 have g:∀c n d,H c=some (.frz n d)->c≠x:=λc n d r z=>by subst z;rw[r]at f;exact f
 by_cases hb:b=x
 ·subst hb;rw[Be]at q;cases q;exact l
 ·rw[Al hb]at q
  by_cases hbe:b=e
  ·have o:H b=some (.own x):=by
    simp_all
   rw[q]at o;cases o;obtain⟨v,p⟩:=m
   exact⟨v,by rw[hbe];exact p⟩
  ·refine (s b u q).stay (λc v j r=>k c v ?_ r) (λc r=>by rw[Al (a c b r)];exact r) (λc d r=>by rw[Al (i c _ r)];exact r) λc n d r=>by rw[Al (g c _ _ r)];exact r
   rcases j with rfl | j
   ·exact hbe
   ·rintro rfl
    rcases he with z | z
    ·exact a c b j z
    ·rw[j]at z;cases z;exact hb rfl
end
structure Un (fs ex:u9) (H H':Hp) (h h':Heap):Prop where
 keep:∀b o,h.get? b=some o->H b=none->b∉fs->b∉ex->h'.get? b=some o
 slot:∀b o,h.get? b=some o->H b=none->b∈fs->b∉ex->∃sl,h'.get? b=some { o with slots:=sl }
 free:∀b o,h.get? b=some o->H b=none->b∉ex->H' b=none
 there:∀b o,h.get? b=some o->b∉ex->∃o',h'.get? b=some o'
 tups:∀b xs,H b=some (.tup xs)->H' b=some (.tup xs)
 frzs:∀b o u,H b=some (.frz o u)->H' b=some (.frz o u)
 tbls:∀b q,H b=some (.tbl q)->H' b=some (.tbl q)
section
variable {fs ex:u9}{H H1:Hp}{h h1 h':Heap}{a x e:Addr}{o:HO}
theorem Un.any (u:Un fs ex H H1 h h1) (q:h.get? b=some ob) (n:H b=none) (hx:b∉ex):∃sl,h1.get? b=some { ob with slots:=sl }:=by
 by_cases hb:b∈fs
 ·exact u.slot b _ q n hb hx
 ·exact⟨ob.slots,u.keep b _ q n hb hx⟩
theorem Un.kept (k:∀b u,h.get? b=some u->h'.get? b=some u):Un fs ex H H h h' :=
 ⟨λb a q _ _ _=>k b _ q,λb a q _ _ _=>⟨a.slots,k b a q⟩,λ_ _ _ n _=>n,λb a q _=>⟨a,k b _ q⟩,λ_ _ q=>q,λ_ _ _ q=>q,λ_ _ q=>q⟩
theorem Un.refl:Un fs ex H H h h:=Un.kept λ_ _ q=>q
theorem Un.laid (k:∀b u,h.get? b=some u->h'.get? b=some u)(hp:h.objs.size<=a)(hn:H a=none):Un fs ex H (upd H a o) h h' where
 keep:=λb u q _ _ _=>k b u q
 slot:=λb u q _ _ _=>⟨u.slots,k b u q⟩
 free:=λb u q n _=>by rw[Al (aJ (aC (Heap.lt_size q) hp))];exact n
 there:=λb u q _=>⟨u,k b u q⟩
 tups:=λb xs q=>by rw[Al (Cg q hn)];exact q
 frzs:=λb u xs q=>by rw[Al (Cg q hn)];exact q
 tbls:=λb ps q=>by rw[Al (Cg q hn)];exact q
theorem Un.write (d:Mut (H x))(he:e=x\/H e=some (.own x))(k:∀b u,b≠e->h.get? b=some u->h'.get? b=some u)(f:∃u,h'.get? e=some u):Un fs ex H (upd H x o) h h':=by
 have i:∀b,H b=none->b≠x:=λb n z=>by subst z;rw[n]at d;exact d
 have c:∀b,H b=none->b≠e:=λb n z=>by
  grind
 have a:∀b u,H b=some u->¬ Mut (some u)->b≠x:=λb u q l z=>by simp_all
 refine⟨λb u q n _ _=>k b u (c b n) q,λb u q n _ _=>⟨u.slots,k b u (c b n) q⟩,λb u q n _=>by rw[Al (i b n)];grind,λb u q _=>?_,
  λb g q=>by rw[Al (a b _ q λz=>z)];grind,λb u g q=>by rw[Al (a b _ q λz=>z)];grind,λb j q=>by rw[Al (a b _ q λz=>z)];grind⟩
 grind
end
noncomputable def trk (h:Heap) (H:Hp):u9:=(List.range h.objs.size).filter λa=>(H a).isSome
def Ah5 (h:Heap)(H:Hp):Heap:=PySem.W.hideAll h (trk h H)
theorem A8l (h:Heap)(H:Hp):(Ah5 h H).objs.size=h.objs.size:=PySem.W.hideAll_size _ _
theorem Bl9 (e:h.get? b=some o) (n:H b=none):(Ah5 h H).get? b=some o :=
 PySem.W.hideAll_get _ e λa=>by
  have q := (List.mem_filter.mp a).2
  grind
theorem Bw7 (e:(Ah5 h H).get? b=some o):h.get? b=some o/\H b=none:=by
 have a := PySem.W.of_hideAll _ e
 refine⟨a,?_⟩
 cases q:H b with
 | none=>rfl
 | some x =>
  have c:b∈trk h H:=List.mem_filter.mpr ⟨List.mem_range.mpr (Heap.lt_size a),by grind⟩
  have z:(Ah5 h H).get? b=none:=PySem.W.hideAll_none _ c
  simp_all
noncomputable def Bu1 (g h:Heap) (L:Addr):y_:=(List.range h.objs.size).filterMap λa=>if a=L\/(g.get? a).isSome=true then none else (h.get? a).map λo=>(a,o)
def rest (g h:Heap)(L d:Addr):y_:=(Bu1 g h L).filter λp=>decide (p.1≠d)
noncomputable def A6e (T:Addr) (q:Str):Obj:={ cls:=.str q 0,data:=.cell (some (.ref T)) }
noncomputable def Ab4 (o:Obj):Option (Addr×Str):=match o.data with
 | .cell (some (.ref T))=>(match o.cls with
  | .str q _=>some (T,q)
  | _=>none)
 | _=>none
def Hi (K:q9):List (Addr×Str):=K.filterMap λp=>Ab4 p.2
structure Mod (K:q9) (mg:x_) (base:Heap):Prop where
 kin:K.In base
 glob:base.Ns mainGlobals mg
 blt:∃mb,base.Ns builtinsNs mb/\∀x:Str,x ≠ "__name__" -> mb x=bootBuiltins x
 nolimit:base.NoLimit
 bmod:∃bm o,mg "__builtins__" = some (.ref bm)/\bm≠builtinsNs/\bm≠mainGlobals/\base.get? bm=some o/\o.cls=.type "module" /\ o.dict=some builtinsNs/\o.data=.plain
structure Cx where
 prog:p7
 w:World
 K:q9
 mg:x_
 base:Heap
 A:o6
 N:v_
 s₀:o4
 H₀:Hp
 env:Env
 outer:List Env
 stack:List Env
 ex:u9
 fn:Str->Bool
 calm:Bool
 pn:y_
 xe:z_
noncomputable def frs (l:List Env):u9:=l.filterMap (·.frame)
abbrev Cx.fs (X:Cx):u9:=frs X.outer
def Vis (sc:Scope)(x:Str):Prop:=sc.names.lookup x=some .local\/sc.names.lookup x=some .cell\/sc.names.lookup x=some .free
def Loc (sc:Scope)(x:Str):Prop:=sc.names.lookup x=some .local\/sc.names.lookup x=some .cell
def Look (env:Env)(h:Heap)(m:x_)(x:Str)(u:Value):Prop :=
 (env.kindOf x=some .local/\m x=some u)\/((env.kindOf x=some .cell\/env.kindOf x=some .free)/\∃c,env.cells.lookup x=some c/\h.IsCell c (some u))
structure Cx.Ok (X:Cx):Prop where
 mod:Mod X.K X.mg X.base
 kind:X.env.scope.kind=.function
 glob:X.env.globals=mainGlobals
 blt:X.env.builtins=builtinsNs
 above:X.s₀.heap.objs.size<=X.env.locals
 inj:∀x y c,X.env.cells.lookup x=some c->X.env.cells.lookup y=some c->x=y
 has:∀x,(X.env.kindOf x=some .cell\/X.env.kindOf x=some .free)->∃c,X.env.cells.lookup x=some c
 cab:∀x c,X.fn x=true->X.env.cells.lookup x=some c->X.s₀.heap.objs.size<=c
 hd:X.calm=true->X.A.handled=none
 frames:X.A.frames=some X.stack
 stk:X.stack=X.outer\/(X.stack=X.env::X.outer/\X.env.frame=some X.env.locals)
 exf:∀b∈X.ex,b≠X.env.locals/\∀x c,X.env.cells.lookup x=some c->c≠b
 bs:∀b o,X.base.get? b=some o->X.s₀.heap.get? b=some o/\X.H₀ b=none
 bsz:X.base.objs.size<=X.s₀.heap.objs.size
 noex:∀b o,X.base.get? b=some o->b∉X.ex
 exfs:∀b∈X.ex,b∉X.fs
 funs:X.s₀.heap.FunFrames X.base X.outer
 frf:∀b∈X.fs,X.H₀ b=none
 tab:∀p∈Hi X.K,X.H₀ p.1=some (.tbl p.2)
structure Inv (X:Cx) (pins:y_) (σ:List (Option V)) (H:Hp) (s:o4):Prop where
 ok:X.Ok
 os:s.os=X.s₀.os
 bare:AllBare s.gens
 base:Un X.fs X.ex X.H₀ H X.s₀.heap s.heap
 loc:∃m,s.heap.Ns X.env.locals m/\∀(i:Nat) (x:Str) (v:V),X.N[i]?=some x->σ[i]?=some (some v)->Vis X.env.scope x->∃u,RelV v u/\Look X.env s.heap m x u
 cell:∀x c,X.env.cells.lookup x=some c->∃v,s.heap.IsCell c v
 free:H X.env.locals=none
 freeC:∀x c,X.env.cells.lookup x=some c->H c=none
 pin:∀p∈X.pn++pins,s.heap.get? p.1=some p.2/\H p.1=none/\p.1≠X.env.locals/\p.1∉X.fs/\∀v,p.2.data≠.cell v
 hok:HOk X.prog X.w H s.heap
 len:σ.length=X.N.length
section
variable {X:Cx}{pins:y_}{σ:List (Option V)}{H H':Hp}{s:o4}{h':Heap}
theorem Cx.Ok.nofr (c:X.Ok) (e:X.base.get? b=some o):b∉X.fs:=λa=>by
 have:=(c.funs.mem a).1
 simp_all
theorem Inv.bs (I:Inv X pins σ H s):∀b o,X.base.get? b=some o->s.heap.get? b=some o/\H b=none:=λb o e =>
 ⟨I.base.keep b o (I.ok.bs b o e).1 (I.ok.bs b o e).2 (I.ok.nofr e) (I.ok.noex b o e),I.base.free b o (I.ok.bs b o e).1 (I.ok.bs b o e).2 (I.ok.noex b o e)⟩
theorem Inv.bk (I:Inv X pins σ H s):∀b o,X.base.get? b=some o->s.heap.get? b=some o:=λb o e=>(I.bs b o e).1
theorem Inv.mod (I:Inv X pins σ H s):Mod X.K X.mg X.base:=I.ok.mod
theorem Inv.kIn (I:Inv X pins σ H s):X.K.In s.heap:=I.ok.mod.kin.keeps I.bk
theorem Inv.fr (I:Inv X pins σ H s):∃m,Fr X.base X.env.locals s.heap m :=
 let ⟨m,hn,_⟩:=I.loc
 ⟨m,hn,I.bk,ao I.ok.bsz I.ok.above⟩
theorem Inv.lt (I:Inv X pins σ H s):X.env.locals<s.heap.objs.size:=let ⟨_,hn,_⟩:=I.loc;hn.lt
theorem Inv.sz (I:Inv X pins σ H s):X.s₀.heap.objs.size<=s.heap.objs.size:=ao I.ok.above (cR I.lt)
theorem Inv.nofs (I:Inv X pins σ H s) (h:s.heap.objs.size<=a):a∉X.fs:=λc=>by
 obtain⟨_,o,b,_⟩:=I.ok.funs.mem c;exact absurd (aC (Heap.lt_size b) (ao I.sz h)) (bA _)
theorem Inv.cne (I:Inv X pins σ H s):∀x c,X.env.cells.lookup x=some c->c≠X.env.locals:=λx c e z=>by
 obtain⟨v,o,d,i⟩:=I.cell x c e;obtain⟨m,⟨f,g,h,a,b,_⟩,_⟩:=I.loc
 simp_all
theorem Inv.funs (I:Inv X pins σ H s):s.heap.FunFrames X.base X.outer:=by
 have d:∀(l:List _),(∀b∈frs l,b∈X.fs)->X.s₀.heap.FunFrames X.base l->s.heap.FunFrames X.base l:=by
  intro l
  induction l with
  | nil=>intro _ _;trivial
  | cons h r j =>
   intro g q;obtain⟨i,⟨L,o,f,k,m,n⟩,p⟩:=q
   have c := g L (by unfold frs;simp_all)
   obtain⟨t,e⟩:=I.base.slot L o m (I.ok.frf L c) c λz=>I.ok.exfs L z c
   exact⟨i,⟨L,_,f,k,e,n⟩,j (λb a=>g b (by unfold frs;rw[fG,f];exact aU _ a)) p⟩
 exact d _ (λ_ a=>a) I.ok.funs
theorem Inv.stack (I:Inv X pins σ H s):s.heap.FunFrames X.base X.stack:=by
 rcases I.ok.stk with e | ⟨e,b⟩
 ·rw[e];exact I.funs
 ·rw[e]
  obtain⟨m,a,_⟩:=I.loc
  refine .cons (by rw[I.ok.kind];decide) b a ?_ I.funs
  exact Heap.get?_none_of_le (ao I.ok.bsz I.ok.above)
theorem Inv.stkSub (I:Inv X pins σ H s):∀b∈frs X.stack,b∈X.env.locals::X.fs:=λb a=>by
 rcases I.ok.stk with e | ⟨e,c⟩
 ·simp_all
 ·rw[e]at a
  unfold frs at a;rw[fG,c]at a;exact a
theorem Inv.stkFree (I:Inv X pins σ H s):∀b∈frs X.stack,H b=none:=λb a=>by
 rcases au.mp (I.stkSub b a) with e | a
 ·rw[e];exact I.free
 ·obtain⟨_,o,c,_⟩:=I.ok.funs.mem a
  exact I.base.free b o c (I.ok.frf b a) λz=>I.ok.exfs b z a
theorem Inv.step {ch:u9}(I:Inv X pins σ H s)
 (j:∀b∈ch,(b∈X.ex\/X.s₀.heap.objs.size<=b)/\b≠X.env.locals/\(∀x c,X.env.cells.lookup x=some c->c≠b)/\∀p∈X.pn++pins,p.1≠b)
 (t:∀b o,b≠X.env.locals->b∉X.fs->b∉ch->s.heap.get? b=some o->H b=none->h'.get? b=some o)
 (slot:∀b o,b≠X.env.locals->b∈X.fs->b∉ch->s.heap.get? b=some o->H b=none->∃L,h'.get? b=some { o with slots:=L }) (f:∀b o,b∉ch->s.heap.get? b=some o->H b=none->H' b=none)
 (w:∀b o,b∉ch->s.heap.get? b=some o->∃O,h'.get? b=some O)
 (D:∀b J,H b=some (.tup J)->H' b=some (.tup J)) (F:∀b o u,H b=some (.frz o u)->H' b=some (.frz o u)) (C:∀b q,H b=some (.tbl q)->H' b=some (.tbl q))
 (ns:∀m,s.heap.Ns X.env.locals m->h'.Ns X.env.locals m) (N:HOk X.prog X.w H' h') (hg:AllBare g') :
 Inv X pins σ H' { s with heap:=h',gens:=g',drawn:=d',toks:=t' }:=by
 have G:∀b o,X.s₀.heap.get? b=some o->b≠X.env.locals:=λb o e=>aJ (aC (Heap.lt_size e) I.ok.above)
 have h:∀b o,X.s₀.heap.get? b=some o->b∉X.ex->b∉ch:=λb o e a A=>by
  rcases (j b A).1 with z | z
  ·exact a z
  ·exact absurd (aC (Heap.lt_size e) z) (bA _)
 have g:∀x c,X.env.cells.lookup x=some c->∀v,s.heap.IsCell c v->h'.IsCell c v:=λx c e v ⟨o,B,K⟩=>by
  have E:c∉ch:=λz=>(j c z).2.2.1 x c e rfl
  by_cases hc:c∈X.fs
  ·obtain⟨L,q⟩:=slot c o (I.cne x c e) hc E B (I.freeC x c e)
   exact⟨_,q,K⟩
  ·exact⟨o,t c o (I.cne x c e) hc E B (I.freeC x c e),K⟩
 refine⟨I.ok,I.os,hg,⟨λb o e n A a=>?_,λb o e n A a=>?_,λb o e n a=>?_,λb o e a=>?_,λb J e=>D b _ (I.base.tups b _ e),λb o J e=>F b o _ (I.base.frzs b o _ e),λb V e=>?_⟩,?_,λx c e=>?_,?_,λx c e=>?_,λp Q=>?_,N,I.len⟩
 ·exact t b o (G b o e) A (h b o e a) (I.base.keep b o e n A a) (I.base.free b o e n a)
 ·obtain⟨L,y⟩:=I.base.slot b o e n A a
  obtain⟨P,M⟩:=slot b _ (G b o e) A (h b o e a) y (I.base.free b o e n a);exact⟨P,M⟩
 ·obtain⟨O,y⟩:=I.base.there b o e a
  exact f b _ (h b o e a) y (I.base.free b o e n a)
 ·obtain⟨O,y⟩:=I.base.there b o e a
  exact w b _ (h b o e a) y
 ·exact C b _ (I.base.tbls b _ e)
 ·obtain⟨m,R,S⟩:=I.loc
  refine⟨m,ns m R,λi x v y M T=>?_⟩
  obtain⟨u,r,l⟩:=S i x v y M T
  refine⟨u,r,?_⟩
  rcases l with l | ⟨k,c,e,z⟩
  ·exact .inl l
  ·exact .inr ⟨k,c,e,g x c e _ z⟩
 ·obtain⟨v,z⟩:=I.cell x c e
  exact⟨v,g x c e v z⟩
 ·obtain⟨m,⟨o,_,_,B,_⟩,_⟩:=I.loc
  exact f _ o (λz=>(j _ z).2.1 rfl) B I.free
 ·obtain⟨v,o,B,K⟩:=I.cell x c e
  exact f c o (λz=>(j c z).2.2.1 x c e rfl) B (I.freeC x c e)
 ·obtain⟨e,n,W,U,d⟩:=I.pin p Q
  grind
theorem Inv.un (I:Inv X pins σ H s) (u:Un X.fs [] H H' s.heap h') (g:HOk X.prog X.w H' h'):Inv X pins σ H' { s with heap:=h',toks:=t' }:=by
 obtain⟨m,⟨o,l,v,h,r⟩,_⟩:=id I.loc
 obtain⟨q,j⟩:=u.any h I.free (by simp)
 exact I.step (ch:=[]) (λ_ z=>nomatch z) (λb o _ c _ e n=>u.keep b o e n c (by simp)) (λb o _ c _ e n=>u.slot b o e n c (by simp)) (λb o _ e n=>u.free b o e n (by simp)) (λb o _ e=>u.there b o e (by simp)) u.tups u.frzs u.tbls (λt i=>by
  obtain⟨p,d,f,a,k⟩:=i;rw[h]at a;cases a
  exact⟨_,d,f,j,k⟩) g I.bare
theorem Inv.call (I:Inv X pins σ H s) (u:Un (frs X.stack) ch H H' s.heap h') (g:HOk X.prog X.w H' h') (hg:AllBare g')
 (d:∀b∈ch,(b∈X.ex\/X.s₀.heap.objs.size<=b)/\b≠X.env.locals/\(∀x c,X.env.cells.lookup x=some c->c≠b)/\∀p∈X.pn++pins,p.1≠b) :
 Inv X pins σ H' { s with heap:=h',gens:=g',drawn:=d',toks:=t' }:=by
 obtain⟨m,⟨o,v,A,k,r⟩,_⟩:=id I.loc
 obtain⟨y,h⟩:=u.any k I.free λz=>(d _ z).2.1 rfl
 exact I.step d (λb o h q a e n=>u.keep b o e n (λz=>(au.mp (I.stkSub b z)).elim h q) a) (λb o _ _ a e n=>u.any e n a) (λb o a e n=>u.free b o e n a) (λb o a e=>u.there b o e a) u.tups u.frzs u.tbls (λB t=>by
  obtain⟨w,j,i,f,l⟩:=t;rw[k]at f;cases f
  exact⟨_,j,i,h,l⟩) g hg
theorem Inv.turned (I:Inv X pins σ H s) (k:∀b o,b≠it->s.heap.get? b=some o->h'.get? b=some o) (hn:H it=none) (h:it≠X.env.locals)
 (h1:it∈X.ex\/X.s₀.heap.objs.size<=it) (h2:∀x c,X.env.cells.lookup x=some c->c≠it) (j:∀p∈X.pn++pins,p.1≠it):Inv X pins σ H { s with heap:=h',toks:=t' }:=by
 refine I.step (ch:=[it]) (λb t=>?_) (λb o _ _ a e _=>k b o (λz=>a (by grind)) e) (λb o _ _ a e _=>⟨o.slots,k b o (λz=>a (by grind)) e⟩) (λ_ _ _ _ n=>n)
  (λb o a e=>⟨o,k b o (λz=>a (by grind)) e⟩) (λ_ _ e=>e) (λ_ _ _ e=>e) (λb l e=>e) (λm g=>?_) (λb u e=>?_) I.bare
 ·grind
 ·obtain⟨o,f,i,d,r⟩:=g
  exact⟨o,f,i,k _ o (aL h) d,r⟩
 ·refine (I.hok b u e).stay (λc v a q=>k c v ?_ q) (λ_ q=>q) λ_ _ q=>q
  grind
theorem Inv.tok (I:Inv X pins σ H s)(t:Nat):Inv X pins σ H { s with toks:=t }:=I.un Un.refl I.hok
theorem Inv.kept (I:Inv X pins σ H s) (k:∀b u,s.heap.get? b=some u->h'.get? b=some u):Inv X pins σ H { s with heap:=h',toks:=t' }:=I.un (Un.kept k) (I.hok.kept k)
theorem Inv.laid (I:Inv X pins σ H s) (k:∀b u,s.heap.get? b=some u->h'.get? b=some u) (hp:s.heap.objs.size<=a) (c:zJ X.prog X.w (upd H a o) h' a o) :
 Inv X pins σ (upd H a o) { s with heap:=h',toks:=t' }:=I.un (Un.laid k hp (I.hok.fresh hp)) (I.hok.laid k hp c)
theorem Inv.write (I:Inv X pins σ H s) (d:Mut (H x)) (he:e=x\/H e=some (.own x)) (k:∀b u,b≠e->s.heap.get? b=some u->h'.get? b=some u) (a:∃u,h'.get? e=some u)
 (c:zJ X.prog X.w (upd H x o) h' x o):Inv X pins σ (upd H x o) { s with heap:=h',toks:=t' }:=I.un (Un.write d he k a) (I.hok.write d he k a c)
theorem Inv.pins_of (I:Inv X pins σ H s) (h:∀p∈a,s.heap.get? p.1=some p.2/\H p.1=none/\p.1≠X.env.locals/\p.1∉X.fs/\∀v,p.2.data≠.cell v):Inv X a σ H s :=
 ⟨I.ok,I.os,I.bare,I.base,I.loc,I.cell,I.free,I.freeC,λp b=>(aP.mp b).elim (λz=>I.pin p (gW _ z)) (h p),I.hok,I.len⟩
theorem A1z {N:v_}(hN:N.Nodup){i j:Nat} (a:N[i]?=some x) (b:N[j]?=some x):i=j:=by
 obtain⟨e,d⟩:=bB.mp a;obtain⟨f,c⟩:=bB.mp b;exact(List.getElem_inj hN).mp (d.trans c.symm)
theorem Aj9 (I:Inv X pins σ H s) (hN:X.N.Nodup) (hi:X.N[i]?=some x) (hx:Loc X.env.scope x) (r:RelV v u)
 (h:∀s',Inv X pins (σ.set i (some v)) H s'->(∃a,Heap.SameBut a s.heap s'.heap/\(a=X.env.locals\/X.env.cells.lookup x=some a))->Q () s') (hf:X.fn x=true\/X.env.scope.names.lookup x=some .local:=by first | exact .inl rfl | exact .inr rfl | assumption):wpAny M A (storeName X.env x u) Q E s:=by
 obtain⟨m,S,hl⟩:=id I.loc
 have K:(X.env.scope.kind==.class||(X.env.scope.kind==.module&&X.env.locals != X.env.globals))=false:=by rw[I.ok.kind];rfl
 have C:i<σ.length:=by rw[I.len];exact(bB.mp hi).1
 have J:=I.cne
 have g:∀{a:Addr} {L:Heap},(∃o,s.heap.get? a=some o/\H a=none)->Heap.SameBut a s.heap L->HOk X.prog X.w H L:=λ{a L} ha f b ob e=>by
  obtain⟨_,_,w⟩:=ha
  refine (I.hok b ob e).stay (λc w' t q=>(f.2 c ?_).trans q) (λ_ q=>q) λ_ _ q=>q
  rintro rfl
  rcases t with rfl | t
  ·rw[w]at e;cases e
  ·rw[w]at t;cases t
 rcases hx with D | D
 ·refine wpAny_storeName_local D S (λL hn' f=>?_) K
  obtain⟨oL,_,_,hoL,_⟩:=id S
  refine h _ ⟨I.ok,I.os,I.bare,⟨λb o e n F hx=>?_,λb o e n F hx=>?_,I.base.free,λb o e hx=>?_,I.base.tups,I.base.frzs,I.base.tbls⟩,⟨_,hn',λj y v' l B T=>?_⟩,λy c e=>?_,I.free,I.freeC,λp U=>?_,g ⟨oL,hoL,I.free⟩ f,by simpa using I.len⟩ ⟨_,f,.inl rfl⟩
  ·exact(f.2 b (aJ (aC (Heap.lt_size e) I.ok.above))).trans (I.base.keep b o e n F hx)
  ·obtain⟨W,l⟩:=I.base.slot b o e n F hx
   exact⟨W,(f.2 b (aJ (aC (Heap.lt_size e) I.ok.above))).trans l⟩
  ·obtain⟨Y,l⟩:=I.base.there b o e hx
   exact⟨Y,(f.2 b (aJ (aC (Heap.lt_size e) I.ok.above))).trans l⟩
  ·by_cases hj:j=i
   ·subst hj
    rw[hi]at l;cases l;rw[bC C]at B
    cases B
    exact⟨u,r,.inl ⟨D,by simp⟩⟩
   ·rw[bI (aL hj)]at B
    obtain⟨Z,r',q⟩:=hl j y _ l B T
    refine⟨Z,r',?_⟩
    rcases q with ⟨k,e⟩ | ⟨k,c,e,z⟩
    ·refine .inl ⟨k,?_⟩
     have:y≠x:=λe=>hj (A1z hN l (e▸hi))
     simp[this,e]
    ·exact .inr ⟨k,c,e,z.sameBut f (J y c e)⟩
  ·obtain⟨w',z⟩:=I.cell y c e
   exact⟨w',z.sameBut f (J y c e)⟩
  ·obtain⟨e,n,R,nf,d⟩:=I.pin p U
   exact⟨(f.2 _ R).trans e,n,R,nf,d⟩
 ·have G:X.fn x=true:=by
   rcases hf with z | z
   ·exact z
   ·rw[z]at D;cases D
  obtain⟨c,t⟩:=I.ok.has x (.inl D);obtain⟨w',z⟩:=I.cell x c t
  refine wpAny_storeName_cell I.ok.kind D t z λL N f=>?_
  obtain⟨oc,P,O⟩:=id z
  refine h _ ⟨I.ok,I.os,I.bare,⟨λb o e n F hx=>?_,λb o e n F hx=>?_,I.base.free,λb o e hx=>?_,I.base.tups,I.base.frzs,I.base.tbls⟩,⟨m,S.sameBut f (aL (J x c t)),λj y v' l B T=>?_⟩,λy c' e=>?_,I.free,I.freeC,λp U=>?_,g ⟨oc,P,I.freeC x c t⟩ f,by simpa using I.len⟩ ⟨c,f,.inr t⟩
  ·exact(f.2 b (aJ (aC (Heap.lt_size e) (I.ok.cab x c G t)))).trans (I.base.keep b o e n F hx)
  ·obtain⟨W,l⟩:=I.base.slot b o e n F hx
   exact⟨W,(f.2 b (aJ (aC (Heap.lt_size e) (I.ok.cab x c G t)))).trans l⟩
  ·obtain⟨Y,l⟩:=I.base.there b o e hx
   exact⟨Y,(f.2 b (aJ (aC (Heap.lt_size e) (I.ok.cab x c G t)))).trans l⟩
  ·by_cases hj:j=i
   ·subst hj
    rw[hi]at l;cases l;rw[bC C]at B
    cases B
    exact⟨u,r,.inr ⟨.inl D,c,t,N⟩⟩
   ·rw[bI (aL hj)]at B
    obtain⟨Z,r',q⟩:=hl j y _ l B T
    refine⟨Z,r',?_⟩
    rcases q with q | ⟨k,c',e,z'⟩
    ·exact .inl q
    ·refine .inr ⟨k,c',e,z'.sameBut f ?_⟩
     rintro rfl
     exact hj (A1z hN l (I.ok.inj _ _ _ e t▸hi))
  ·by_cases hcc:c'=c
   ·subst hcc;exact⟨_,N⟩
   ·obtain⟨w2,z2⟩:=I.cell y _ e
    exact⟨w2,z2.sameBut f hcc⟩
  ·obtain⟨e,n,R,nf,d⟩:=I.pin p U
   refine⟨(f.2 _ ?_).trans e,n,R,nf,d⟩
   intro q;rw[q,P]at e
   exact d _ (by rw[<- (cG e)];exact O)
theorem K8 (I:Inv X pins σ H s) (hN:X.N.Nodup) (hi:X.N[i]?=some x) (hx:Loc X.env.scope x) (r:RelV v u)
 (h:∀a,Inv X pins (σ.set i (some v)) H a->Q () a) (hf:X.fn x=true\/X.env.scope.names.lookup x=some .local:=by first | exact .inl rfl | exact .inr rfl | assumption):wpAny M A (storeName X.env x u) Q E s :=
 Aj9 I hN hi hx r (λa b _=>h _ b) hf
theorem Inv.call' (I:Inv X pins σ H s) (ho:s'.os=s.os) (u:Un (frs X.stack) ch H H' s.heap s'.heap) (d:HOk X.prog X.w H' s'.heap) (hg:AllBare s'.gens)
 (a:∀b∈ch,(b∈X.ex\/X.s₀.heap.objs.size<=b)/\b≠X.env.locals/\(∀x c,X.env.cells.lookup x=some c->c≠b)/\∀p∈X.pn++pins,p.1≠b):Inv X pins σ H' s':=by
 obtain⟨f,g,h,i,e⟩:=s';subst ho;exact I.call u d hg a
end
abbrev XK:=Value->Option Addr->Hp->Prop
abbrev St:=List (Option V)
abbrev VK:=V->Hp->Prop
abbrev TE:=St->Hp->VK->Prop
abbrev TT:=St->Hp->(Bool->Hp->Prop)->Prop
abbrev TA:=St->Hp->(l_->Hp->Prop)->Prop
structure Ends where
 nx:St->Hp->Prop
 rt:VK
 bk:St->Hp->Prop:=λ_ _=>False
 ct:St->Hp->Prop:=λ_ _=>False
abbrev TS:=Ends->St->Hp->Prop
def EP (X:Cx)(pins:y_)(σ:St)(Q:VK)(u:Value)(s':o4):Prop:=∃v H',Inv X pins σ H' s'/\RelV v u/\Q v H'
def TP (X:Cx)(pins:y_)(σ:St)(Q:Bool->Hp->Prop)(b:Bool)(s':o4):Prop:=∃H',Inv X pins σ H' s'/\Q b H'
def AP (X:Cx)(pins:y_)(σ:St)(Q:l_->Hp->Prop)(us:v4)(s':o4):Prop:=∃vs H',Inv X pins σ H' s'/\Vals vs us/\Q vs H'
def SP (X:Cx)(pins:y_)(D:Ends)(f:Flow)(s':o4):Prop :=
 match f with
 | .next=>∃σ' H',Inv X pins σ' H' s'/\D.nx σ' H'
 | .brk=>∃σ' H',Inv X pins σ' H' s'/\D.bk σ' H'
 | .cont=>∃σ' H',Inv X pins σ' H' s'/\D.ct σ' H'
 | .ret u=>∃v σ' H',Inv X pins σ' H' s'/\RelV v u/\D.rt v H'
def PE (X:Cx)(e:Expr)(t:TE):Prop :=
 ∀(pins:y_) (s:o4) (σ:St) (H:Hp) (Q:VK),Inv X pins σ H s->t σ H Q->wpAny (model X.prog X.w) X.A (eval e X.env) (EP X pins σ Q) X.xe s
structure QE (X:Cx) (e:Expr) (t:TE):Prop where
 get:PE X e t
def PT (X:Cx)(e:Expr)(t:TT):Prop :=
 ∀(pins:y_) (s:o4) (σ:St) (H:Hp) (Q:Bool->Hp->Prop),Inv X pins σ H s->t σ H Q->wpAny (model X.prog X.w) X.A (isTrue e X.env (eval e X.env)) (TP X pins σ Q) X.xe s
structure QT (X:Cx) (e:Expr) (t:TT):Prop where
 get:PT X e t
def PW (X:Cx)(e:Expr)(t:TT):Prop :=
 ∀(whole:Sem Value) (pins:y_) (s:o4) (σ:St) (H:Hp) (Q:Bool->Hp->Prop),Inv X pins σ H s->t σ H Q->wpAny (model X.prog X.w) X.A (isTrue e X.env whole) (TP X pins σ Q) X.xe s
structure QW (X:Cx) (e:Expr) (t:TT):Prop where
 get:PW X e t
theorem PW.pt (h:PW X e t):PT X e t:=h _
def PA (X:Cx)(es:q_)(t:TA):Prop :=
 ∀(pos:Pos) (pins:y_) (s:o4) (σ:St) (H:Hp) (Q:l_->Hp->Prop),Inv X pins σ H s->t σ H Q->wpAny (model X.prog X.w) X.A (spliced (backTo pos (starEach es X.env))) (AP X pins σ Q) X.xe s
structure QA (X:Cx) (e:(q_)) (t:TA):Prop where
 get:PA X e t
def PS (X:Cx)(st:Stmt)(t:TS):Prop :=
 ∀(pins:y_) (s:o4) (σ:St) (H:Hp) (D:Ends),Inv X pins σ H s->t D σ H->wpAny (model X.prog X.w) X.A (exec st X.env) (SP X pins D) X.xe s
structure QS (X:Cx) (st:Stmt) (t:TS):Prop where
 get:PS X st t
def PSs (X:Cx)(st:List Stmt)(t:TS):Prop :=
 ∀(pins:y_) (s:o4) (σ:St) (H:Hp) (D:Ends),Inv X pins σ H s->t D σ H->wpAny (model X.prog X.w) X.A (execs st X.env) (SP X pins D) X.xe s
structure QSs (X:Cx) (st:(List Stmt)) (t:TS):Prop where
 get:PSs X st t
theorem thn {t:Sem c}{Q b:c->o4->Prop} (h:wpAny M A t Q E s) (d:∀a s,Q a s->b a s):wpAny M A t b E s:=wpAny_mono h d λ_ _ x=>x
section
variable {X:Cx}
def Tp (i:Nat):TE:=λσ H Q=>∃v,σ[i]?=some (some v)/\Q v H
def tC (v:V):TE:=λ_ H Q=>Q v H
theorem Bc6 {f:Pos}(hN:X.N[i]?=some x) (hv:Vis X.env.scope x) (hd:(x==("__debug__" : Str))=false:=by decide) (hcd:(x==("__classdict__" : Str))=false:=by decide):PE X (.Name x f) (Tp i):=by
 intro j s p H Q I h;obtain⟨v,e,h⟩:=h;obtain⟨m,k,n⟩:=I.loc;obtain⟨u,r,l⟩:=n i x v hN e hv;have b:EP X _ _ Q u s:=⟨v,H,I,r,h⟩
 rcases l with ⟨d,o⟩ | ⟨d,c,g,a⟩
 ·exact wpAny_Name (wpAny_loadName_local I.ok.kind d k o b) hd
 ·rcases d with d | d
  ·exact wpAny_Name (wpAny_loadName_cell I.ok.kind d g a b) hd
  ·exact wpAny_Name (wpAny_loadName_free I.ok.kind d g a b hcd) hd
theorem Bp0 : PE X (.Constant (.int i) j a) (tC (.int i)):=λ_ _ _ H _ I h=>wpAny_Constant_int ⟨.int i,H,I.tok _,⟨_,rfl⟩,h⟩
theorem Bz3 : PE X (.Constant (.bool b) j a) (tC (.bl b)):=λ_ _ _ H _ I h=>Constant_bool ⟨.bl b,H,I,rfl,h⟩
theorem Bc3 : PE X (.Constant .none j a) (tC .non):=λ_ _ _ H _ I h=>Constant_none ⟨.non,H,I,rfl,h⟩
theorem Bg7 : PE X (.Constant (.str x) j a) (tC (.str x)):=λ_ _ _ H _ I h=>Calls.Constant_str ⟨.str x,H,I.tok _,⟨_,rfl⟩,h⟩
def Gl (X:Cx)(x:Str):Prop:=X.env.kindOf x=some .globalImplicit
theorem A6q (I:Inv X pins b H s) (hg:Gl X x) (hm:X.mg x=some u) (h:Q u s)
 (hd:(x==("__debug__" : Str))=false:=by decide):wpAny (model X.prog X.w) X.A (eval (.Name x a) X.env) Q E s :=
 Calls.Name_function_global I.ok.kind hg (Calls.loadGlobal_global (by rw[I.ok.glob];exact I.mod.glob.keeps I.bk) hm h) hd
theorem M6 {E:z_} {a:Pos} (I:Inv X pins c H s) (hg:Gl X x) (hm:X.mg x=none) (hv:bootBuiltins x=some u) (h:Q u s)
 (hn:x ≠ "__name__" := by decide) (hd:(x==("__debug__" : Str))=false:=by decide):wpAny (model X.prog X.w) X.A (eval (.Name x a) X.env) Q E s:=by
 obtain⟨e,d,b⟩:=I.mod.blt
 exact Calls.Name_function_global I.ok.kind hg (Calls.loadGlobal_builtin (by rw[I.ok.glob];exact I.mod.glob.keeps I.bk) hm (by rw[I.ok.blt];exact d.keeps I.bk) ((b x hn).trans hv) h) hd
theorem By2 (hg:Gl X x) (hm:X.mg x=some u) (r:RelV v u) (hd:(x==("__debug__" : Str))=false:=by decide):PE X (.Name x a) (tC v) :=
 λ_ _ _ H _ I h=>A6q I hg hm ⟨v,H,I,r,h⟩ hd
theorem Bt8 {a:Pos}(hg:Gl X x) (hm:X.mg x=none) (hv:bootBuiltins x=some u) (r:RelV v u) (hn:x ≠ "__name__" := by decide) (hd:(x==("__debug__" : Str))=false:=by decide):PE X (.Name x a) (tC v) :=
 λ_ _ _ H _ I h=>M6 I hg hm hv ⟨v,H,I,r,h⟩ hn hd
variable {a b:Expr}{ta tb:TE}{pos:Pos}
def PC (X:Cx)(op:CmpOp)(a b:Expr)(t:TE):Prop :=
 ∀
  (pins:y_) (s:o4) (σ:St) (H:Hp) (Q:VK),Inv X pins σ H s->t σ H Q ->
  wpAny (model X.prog X.w) X.A (eval a X.env) (λv s₁=>wpAny (model X.prog X.w) X.A (eval b X.env) (λu s₂=>wpAny (model X.prog X.w) X.A (compareOp op v u) (EP X pins σ Q) X.xe s₂) X.xe s₁) X.xe s
theorem Be2 (b:Expr){op:CmpOp}(h:op≠.In)(h2:op≠.NotIn):behindInMarks op b=false:=by
 have e1:(op==CmpOp.In)=false:=by cases op <;> first | rfl | exact absurd rfl h
 have e2:(op==CmpOp.NotIn)=false:=by cases op <;> first | rfl | exact absurd rfl h2
 cases b <;> simp[behindInMarks,e1,e2]
def tB (t:TE):TT:=λσ H Q=>t σ H λx H1=>∃c,x=.bl c/\Q c H1
theorem B1w {op:CmpOp}{t:TE}(h:PC X op a b t)(h1:behindInMarks op b=false:=by first | exact Be2 _ (by decide) (by decide) | rfl):PE X (.Compare a [op] [b] pos) t:=λpins s σ H Q I hw=>wpAny_Compare1 (h pins s σ H Q I hw) h1
theorem Gj (h:QE X e t) (he:∀whole,isTrue e X.env whole=(do let v <- whole;standAt e.pos;holding [v] (truthy v)):=by intro _;rfl):QT X e (tB t):=by
 refine⟨?_⟩
 intro a s σ H Q I f
 refine isTrue_plain (thn (h.1 _ s _ H _ I f) λv s1 ⟨x,g,b,c,i⟩=>?_) (he _)
 obtain⟨d,rfl,q⟩:=i
 cases c
 exact wpAny_truthy_bool ⟨g,b,q⟩
variable {tA tB':TT}{rest:q_}
def B4x (t u:TT):TT:=λσ H Q=>t σ H λc H1=>if c=true then u σ H1 Q else Q false H1
def tOr (t u:TT):TT:=λσ H Q=>t σ H λc H1=>if c=true then Q true H1 else u σ H1 Q
def B6m (t:TT):TT:=λσ H Q=>t σ H λc H1=>Q (!c) H1
theorem Zn (ha:QT X a tA):QW X (.BoolOp .And [a] pos) tA:=by
 refine⟨?_⟩
 intro f b s g H Q I h
 refine isTrue_and (thn (ha.1 _ s _ H Q I h) λc d e=>?_)
 cases c with
 | true=>exact isTrue_and_nil e
 | false=>exact e
theorem Aa8 (ha:QT X a tA):QW X (.BoolOp .Or [a] pos) tA:=by
 refine⟨?_⟩
 intro f b s g H Q I h
 refine isTrue_or (thn (ha.1 _ s _ H Q I h) λc d e=>?_)
 cases c with
 | false=>exact isTrue_or_nil e
 | true=>exact e
theorem Av3 (ha:QT X a tA)(hb:QW X (.BoolOp .And (b::rest) pos) tB'):QW X (.BoolOp .And (a::b::rest) pos) (B4x tA tB'):=by
 obtain⟨hb⟩:=hb
 refine⟨?_⟩
 intro g d s k H Q I h
 refine isTrue_and (thn (ha.1 _ s _ H _ I h) λc i ⟨j,f,e⟩=>?_)
 cases c with
 | true=>exact hb _ _ _ _ _ Q f e
 | false=>trivial
theorem Am6 (ha:QT X a tA)(hb:QW X (.BoolOp .Or (b::rest) pos) tB'):QW X (.BoolOp .Or (a::b::rest) pos) (tOr tA tB'):=by
 obtain⟨hb⟩:=hb
 refine⟨?_⟩
 intro g d s k H Q I h
 refine isTrue_or (thn (ha.1 _ s _ H _ I h) λc i ⟨j,f,e⟩=>?_)
 cases c with
 | true=>assumption
 | false=>exact hb _ _ _ _ _ Q f e
theorem Od (ha:QT X a tA):QT X (.UnaryOp .Not a pos) (B6m tA):=by
 refine⟨?_⟩
 intro b s c H Q I h;exact isTrue_not (ha.1 _ s _ H _ I h)
def B1d (ta tb:TE):TE:=λσ H Q=>ta σ H λx H1=>∃c,x=.bl c/\if c=true then tb σ H1 Q else Q (.bl false) H1
def B6k (ta tb:TE):TE:=λσ H Q=>ta σ H λx H1=>∃c,x=.bl c/\if c=true then Q (.bl true) H1 else tb σ H1 Q
def B0q (ta:TE):TE:=λσ H Q=>ta σ H λx H1=>∃c,x=.bl c/\Q (.bl (!c)) H1
theorem B2b (h:PE X a t):PE X (.BoolOp op [a] pos) t:=λb s d H Q I c=>BoolOp_one (h _ s _ H Q I c)
theorem Lh (ha:QE X a ta)(hb:QE X (.BoolOp .And (b::rest) pos) tb):QE X (.BoolOp .And (a::b::rest) pos) (B1d ta tb):=by
 obtain⟨hb⟩:=hb
 refine⟨?_⟩
 intro e s σ H Q I h
 refine BoolOp_and (thn (ha.1 _ s _ H _ I h) λv s1 ⟨x,i,f,g,d⟩=>?_)
 obtain⟨c,rfl,d⟩:=d
 cases g
 refine wpAny_truthy_bool ?_
 cases c with
 | true=>exact hb _ _ _ _ Q f d
 | false=>exact⟨.bl _,i,f,rfl,d⟩
theorem B1e (ha:QE X a ta)(hb:QE X (.BoolOp .Or (b::rest) pos) tb):QE X (.BoolOp .Or (a::b::rest) pos) (B6k ta tb):=by
 obtain⟨hb⟩:=hb
 refine⟨?_⟩
 intro e s σ H Q I h
 refine BoolOp_or (thn (ha.1 _ s _ H _ I h) λv s1 ⟨x,i,f,g,d⟩=>?_)
 obtain⟨c,rfl,d⟩:=d
 cases g
 refine wpAny_truthy_bool ?_
 cases c with
 | false=>exact hb _ _ _ _ Q f d
 | true=>exact⟨.bl _,i,f,rfl,d⟩
theorem Aq6 (ha:QE X a ta):QE X (.UnaryOp .Not a pos) (B0q ta):=by
 refine⟨?_⟩
 intro d s σ H Q I h
 refine UnaryOp_ (thn (ha.1 _ s _ H _ I h) λv s1 ⟨x,f,g,e,b⟩=>?_)
 obtain⟨c,rfl,b⟩:=b
 cases e
 exact not_of (wpAny_truthy_bool ⟨.bl _,f,g,rfl,b⟩)
def tIf (t:TT)(ta tb:TE):TE:=λσ H Q=>t σ H λc H1=>if c=true then ta σ H1 Q else tb σ H1 Q
theorem Nj (hc:QT X c tA) (ha:QE X a ta) (hb:QE X b tb):QE X (.IfExp c a b pos) (tIf tA ta tb):=by
 obtain⟨ha⟩:=ha;obtain⟨hb⟩:=hb
 refine⟨?_⟩
 intro g s i H Q I h
 refine wpAny_IfExp (thn (hc.1 _ s _ H _ I h) λd k ⟨j,f,e⟩=>?_)
 cases d with
 | true=>exact ha _ _ _ _ Q f e
 | false=>exact hb _ _ _ _ Q f e
end
def SqL (K:q9)(H:Hp)(a:Addr)(xs:l_):Prop :=
 Rd H a (.lst xs) \/
  ∃(o:Obj) (its:u_) (n:Nat),K.lookup a=some o/\o.cls=.type "list" /\ o.dict=none/\o.data=.seq its n/\its.size<=sizeLine/\Vals xs its.toList
def SqT (K:q9)(H:Hp)(a:Addr)(xs:l_):Prop :=
 Rd H a (.tup xs) \/
  ∃(o:Obj) (its:u_) (n:Nat),K.lookup a=some o/\o.cls=.type "tuple" /\ o.data=.seq its n/\its.size<=sizeLine/\Vals xs its.toList
noncomputable def B7n:Value->Option V
 | .none=>some .non
 | .bool b=>some (.bl b)
 | .int i _=>some (.int i)
 | .str x _=>some (.str x)
 | .bytes b _=>some (.byt b)
 | .float b _=>some (.flt b)
 | .ref a=>some (.ref a)
 | .type n=>some (.ty n)
 | _=>none
theorem RelV.abs (r:RelV x u):B7n u=some x:=by
 cases x with
 | non=>cases r;rfl
 | bl _=>cases r;rfl
 | int _=>obtain⟨t,rfl⟩:=r;rfl
 | str _=>obtain⟨t,rfl⟩:=r;rfl
 | byt _=>obtain⟨t,rfl⟩:=r;rfl
 | flt _=>obtain⟨t,rfl⟩:=r;rfl
 | ref _=>cases r;rfl
 | ty _=>cases r;rfl
theorem RelV.inj (r:RelV x u) (q:RelV y u):x=y:=cG (r.abs.symm.trans q.abs)
theorem Vals.inj:∀{xs ys:l_}{us:v4},Vals xs us->Vals ys us->xs=ys
 | _,_,_,.nil,.nil=>rfl
 | _,_,_,.cons r t,.cons r' t'=>by rw[r.inj r',Vals.inj t t']
section
variable {X:Cx}{pins:y_}{σ:St}{H:Hp}{s:o4}{a:Addr}{xs ys:l_}
theorem SqL.of {K:q9}(h:H a=some (.lst xs)):SqL K H a xs:=.inl (.inl h)
theorem SqT.of {K:q9}(h:H a=some (.tup xs)):SqT K H a xs:=.inl (.inl h)
theorem Inv.list (I:Inv X pins σ H s)(h:SqL X.K H a xs):∃b:v4,Vals xs b/\PlainL s.heap a b.toArray/\xs.length<=sizeLine:=by
 rcases h with h | ⟨o,b,n,d,c,f,i,g,r⟩
 ·obtain⟨z,b,n,r,e⟩:=h.ok I.hok
  exact⟨b,r,⟨_,n,e,rfl,rfl,rfl⟩,z⟩
 ·refine⟨b.toList,r,⟨o,n,I.kIn a o d,c,f,by trivial⟩,?_⟩
  have e:=r.length
  simp_all
theorem Inv.tuple (I:Inv X pins σ H s)(h:SqT X.K H a xs):∃b:v4,Vals xs b/\IsTup s.heap a b.toArray/\xs.length<=sizeLine:=by
 rcases h with h | ⟨o,b,n,d,c,g,f,r⟩
 ·obtain⟨z,b,r,p⟩:=h.ok I.hok
  exact⟨b,r,p.tup,z⟩
 ·refine⟨b.toList,r,⟨o,I.kIn a o d,c,n,by trivial⟩,?_⟩
  have e:=r.length
  simp_all
theorem Inv.list_inj (I:Inv X pins σ H s)(h:SqL X.K H a xs)(h':SqL X.K H a ys):xs=ys:=by
 obtain⟨c,r,⟨o,n,e,_,_,d⟩,_⟩:=I.list h;obtain⟨b,f,⟨i,j,k,_,_,g⟩,_⟩:=I.list h'
 have:c=b:=by simp_all
 subst this;exact r.inj f
theorem Inv.tuple_inj (I:Inv X pins σ H s)(h:SqT X.K H a xs)(h':SqT X.K H a ys):xs=ys:=by
 obtain⟨c,r,⟨o,e,_,n,d⟩,_⟩:=I.tuple h;obtain⟨b,f,⟨i,j,_,k,g⟩,_⟩:=I.tuple h'
 have:c=b:=by simp_all
 subst this;exact r.inj f
end
noncomputable abbrev Cx.wish (X:Cx) (E:z_):Cx:={ X with xe:=E }
abbrev Cx.nox (X:Cx):Cx:=X.wish λ_ _=>False
theorem Cx.Ok.wish {X:Cx}(a:X.Ok)(E:z_):(X.wish E).Ok :=
 ⟨a.mod,a.kind,a.glob,a.blt,a.above,a.inj,a.has,a.cab,a.hd,a.frames,a.stk,a.exf,a.bs,a.bsz,a.noex,a.exfs,a.funs,a.frf,a.tab⟩
theorem Cx.Ok.unwish {X:Cx} (a:(X.wish E).Ok):X.Ok :=
 ⟨a.mod,a.kind,a.glob,a.blt,a.above,a.inj,a.has,a.cab,a.hd,a.frames,a.stk,a.exf,a.bs,a.bsz,a.noex,a.exfs,a.funs,a.frf,a.tab⟩
section
variable {X:Cx}{pins:y_}{σ:St}{H:Hp}{s:o4}{E:z_}
theorem Inv.wish (I:Inv X pins σ H s)(E:z_):Inv (X.wish E) pins σ H s:=⟨I.ok.wish E,I.os,I.bare,I.base,I.loc,I.cell,I.free,I.freeC,I.pin,I.hok,I.len⟩
theorem Inv.unwish (I:Inv (X.wish E) pins σ H s):Inv X pins σ H s:=⟨I.ok.unwish,I.os,I.bare,I.base,I.loc,I.cell,I.free,I.freeC,I.pin,I.hok,I.len⟩
theorem SP.unwish (h:SP (X.wish E) pins D f s'):SP X pins D f s':=by
 cases f with
 | next=>obtain⟨a,b,I,q⟩:=h;exact⟨a,b,I.unwish,q⟩
 | brk=>obtain⟨a,b,I,q⟩:=h;exact⟨a,b,I.unwish,q⟩
 | cont=>obtain⟨a,b,I,q⟩:=h;exact⟨a,b,I.unwish,q⟩
 | ret u=>obtain⟨v,a,b,I,r,q⟩:=h;exact⟨v,a,b,I.unwish,r,q⟩
theorem PSs.nox {st:List Stmt} (h:PSs X.nox st t):PSs X st t:=λa s c H D I b =>
 wpAny_mono (h _ s _ H D (I.wish _) b) (λ_ _ q=>q.unwish) λ_ _ z=>False.elim z
end
section
variable {X:Cx}{st:Stmt}{rest:List Stmt}{t u:TS}{e:Expr}{te:TE}{pos:Pos}
def Bh1:TS:=λD σ H=>D.nx σ H
def U3 (t u:TS):TS:=λD σ H=>t { D with nx:=u D } σ H
theorem Bu0:PSs X [] Bh1:=λ_ _ a H _ I h=>wpAny_execs_nil ⟨a,H,I,h⟩
theorem Ae (h1:QS X st t)(h2:QSs X rest u):QSs X (st::rest) (U3 t u):=by
 obtain⟨h2⟩:=h2
 refine⟨?_⟩
 intro a s d H D I h
 refine wpAny_execs_cons (thn (h1.1 _ s _ H _ I h) λf e q=>?_)
 cases f with
 | next =>
  obtain⟨c,g,b,q⟩:=q;exact h2 _ _ _ _ D b q
 | ret v=>exact q
 | brk=>exact q
 | cont=>exact q
theorem Ah (h1:QS X st t):QSs X [st] t:=by
 refine⟨?_⟩
 intro a s c H D I h
 refine wpAny_execs_cons (thn (h1.1 _ s _ H D I h) λf b q=>?_)
 cases f with
 | next=>exact wpAny_execs_nil q
 | ret v=>grind
 | brk=>grind
 | cont=>grind
theorem Inv.quiet (I:Inv X pins a H s):interactive X.env=false:=by simp[interactive,I.ok.kind]
def Yd (te:TE):TS:=λD σ H=>te σ H λ_ H1=>D.nx σ H1
theorem Ex (he:QE X e te)(hs:swapsWith e none pos.line X.env=pure false:=by rfl):QS X (.Expr e pos) (Yd te):=by
 refine⟨?_⟩
 intro a s c H D I h
 exact wpAny_Expr_any (thn (he.1 _ s _ H _ I h) λv g ⟨x,f,d,i,b⟩=>⟨c,f,d,b⟩) I.quiet hs
def Bx7 (te:TE):TS:=λD σ H=>te σ H D.rt
theorem Av (he:QE X e te):QS X (.Return (some e) pos) (Bx7 te):=by
 refine⟨?_⟩
 intro a s c H D I h
 exact wpAny_Return_some (thn (he.1 _ s _ H _ I h) λv i ⟨x,f,d,g,b⟩=>⟨x,c,f,d,g,b⟩)
def Bk9 (c:TT)(t u:TS):TS:=λD σ H=>c σ H λb H1=>if b=true then t D σ H1 else u D σ H1
theorem Ed (hc:QT X c f) (ha:QSs X a t) (hb:QSs X b u):QS X (.If c a b pos) (Bk9 f t u):=by
 obtain⟨ha⟩:=ha;obtain⟨hb⟩:=hb
 refine⟨?_⟩
 intro i s j H D I h
 refine wpAny_If (thn (hc.1 _ s _ H _ I h) λd l ⟨k,g,e⟩=>?_)
 cases d with
 | true=>exact ha _ _ _ _ D g e
 | false=>exact hb _ _ _ _ D g e
def A5d:TS:=λ_ _ _=>False
theorem Ba9:PS X st A5d:=λ_ _ _ _ _ _ h=>h.elim
end
abbrev TG:=V->St->Hp->(St->Hp->Prop)->Prop
abbrev TGs:=l_->St->Hp->(St->Hp->Prop)->Prop
def PG (X:Cx)(target:Expr)(t:TG):Prop :=
 ∀
  (pins:y_) (s:o4) (σ:St) (H:Hp) (v:V) (u:Value) (Q:St->Hp->Prop),Inv X pins σ H s->RelV v u->t v σ H Q ->
  wpAny (model X.prog X.w) X.A (assign target X.env u) (λ_ s'=>∃σ' H',Inv X pins σ' H' s'/\Q σ' H') X.xe s
structure QG (X:Cx) (e:Expr) (t:TG):Prop where
 get:PG X e t
def PGs (X:Cx)(ts:q_)(t:TGs):Prop :=
 ∀
  (pins:y_) (s:o4) (σ:St) (H:Hp) (vs:l_) (us:v4) (Q:St->Hp->Prop),Inv X pins σ H s->Vals vs us->t vs σ H Q ->
  wpAny (model X.prog X.w) X.A (assignInOrder ((assignEach ts X.env).map (·.2)) us) (λ_ s'=>∃σ' H',Inv X pins σ' H' s'/\Q σ' H') X.xe s
structure QGs (X:Cx) (e:(q_)) (t:TGs):Prop where
 get:PGs X e t
abbrev B5n:=V->V->V->Hp->(Hp->Prop)->Prop
def B5j (X:Cx)(t:B5n):Prop :=
 ∀
  (pins:y_) (s:o4) (σ:St) (H:Hp) (o i v:V) (ov iv u:Value) (Q:Hp->Prop),Inv X pins σ H s->RelV o ov->RelV i iv->RelV v u->t o i v H Q ->
  wpAny (model X.prog X.w) X.A (setItem ov iv u) (λ_ s'=>∃H',Inv X pins σ H' s'/\Q H') X.xe s
section
variable {X:Cx}{pos:Pos}
def J5 (i:Nat):TG:=λv σ H Q=>Q (σ.set i (some v)) H
theorem Bc (hN:X.N.Nodup) (hi:X.N[i]?=some x:=by exact rfl) (hx:Loc X.env.scope x:=by first | exact Or.inl rfl | exact Or.inr rfl) (hf:X.fn x=true\/X.env.scope.names.lookup x=some .local:=by first | exact .inl rfl | exact .inr rfl | assumption):QG X (.Name x pos) (J5 i):=by
 refine⟨?_⟩
 intro a s c H v u Q I r h
 exact wpAny_assign_Name (K8 I hN hi hx r (λd b=>⟨_,H,b,h⟩) hf)
noncomputable def Ba5:TGs:=λvs σ H Q=>vs=[]/\Q σ H
noncomputable def Aj4 (t:TG) (u:TGs):TGs:=λvs σ H Q=>∃v r,vs=v::r/\t v σ H λσ' H'=>u r σ' H' Q
theorem Qm:QGs X [] Ba5:=by
 refine⟨?_⟩
 intro a s b H d c Q I r h;obtain⟨e,h⟩:=h;exact assignInOrder_nil ⟨b,H,I,h⟩
theorem Er (h1:QG X e t) (h2:QGs X es u)
 (hs:(assignEach (e::es) X.env).map (·.2)=assign e X.env::(assignEach es X.env).map (·.2):=by rfl):QGs X (e::es) (Aj4 t u):=by
 obtain⟨h2⟩:=h2
 refine⟨?_⟩
 intro a s i H j n Q I r h;obtain⟨v,l,f,h⟩:=h;subst f
 cases r with
 | cons r d =>
  rw[hs]
  refine assignInOrder_cons (thn (h1.1 _ s _ H _ _ _ I r h) λ_ k ⟨c,m,g,b⟩=>?_)
  exact h2 _ _ _ _ _ _ Q g d b
def Bl0 (K:q9)(n:Nat)(t:TGs):TG:=λv σ H Q=>∃a xs,v=.ref a/\SqT K H a xs/\xs.length=n/\t xs σ H Q
theorem B2f {k:Nat} (hc:X.calm=true) (h:PGs X es t)
 (hn:(assignEach es X.env).length=n:=by rfl) (hst:(assignEach es X.env).findIdx? (·.1)=none:=by rfl):PG X (.Tuple es k pos) (Bl0 X.K n t):=by
 intro d s x H v u Q I r c;obtain⟨a,y,j,l,m,c⟩:=c;subst j
 cases r
 obtain⟨g,i,q,z⟩:=I.tuple l
 refine assign_Tuple_tuple (I.ok.hd hc) q (by simp[hn,<- m,i.length]) hst λp w=>?_
 have f:Inv X _ _ H { s with heap:=p }:=I.kept λb o e=>w b o (aJ (Heap.lt_size e)) e
 exact h _ _ _ H _ _ Q f (by trivial) c
def B5f (to ti:TE)(t:B5n):TG:=λv σ H Q=>to σ H λo H1=>ti σ H1 λi H2=>t o i v H2 λH3=>Q σ H3
theorem Bb9 (ho:QE X o e) (hi:QE X i d) (hs:B5j X t)
 (ha:∀v,assign (.Subscript o i pos) X.env v=(do
  let a <- holding [v] (eval o X.env)
  let b <- holding [v,a] (eval i X.env)
  standAt pos
  holding [v,a,b] (setItem a b v)
  release [v,a,b] []):=by intro _;rfl):QG X (.Subscript o i pos) (B5f e d t):=by
 refine⟨?_⟩
 intro c s m H v u Q I r h;rw[ha]
 refine wpAny_bind (wpAny_holding (thn (ho.1 _ s _ H _ I h) λa z ⟨x,C,j,k,l⟩=>?_))
 refine wpAny_bind (wpAny_holding (thn (hi.1 _ _ _ _ _ j l) λb D ⟨y,A,g,p,n⟩=>?_))
 refine wpAny_bind (wpAny_standAt (wpAny_bind (wpAny_holding (thn (hs _ _ _ _ x y v _ _ u _ g k p r n) λ_ B ⟨q,w,f⟩=>?_))))
 exact wpAny_release ⟨m,q,w,f⟩
def Xd (te:TE)(g:TG):TS:=λD σ H=>te σ H λx H1=>g x σ H1 D.nx
theorem Ar1 (he:QE X e b) (hg:QG X a g) (hs:swapsWithSole [a] e pos.line X.env=pure false:=by rfl) (hw:swappedStores [a] e X.env=pure none:=by rfl)
 (h1:(assignEach [a] X.env).map (·.2)=[assign a X.env]:=by rfl):QS X (.Assign [a] e pos) (Xd b g):=by
 refine⟨?_⟩
 intro c s k H D I h
 refine wpAny_Assign_stores (thn (he.1 _ s _ H _ I h) λv l ⟨x,m,d,i,f⟩=>?_) hs hw
 rw[h1]
 exact thn (hg.1 _ _ _ _ x v _ d i f) λ_ j q=>q
theorem Bb (hN:X.N.Nodup) (he:QE X e b) (hi:X.N[i]?=some x:=by exact rfl) (hx:Loc X.env.scope x:=by first | exact Or.inl rfl | exact Or.inr rfl) (hs:swapsWith e (some (.Name x a)) pos.line X.env=pure false:=by rfl) (hf:X.fn x=true\/X.env.scope.names.lookup x=some .local:=by first | exact .inl rfl | exact .inr rfl | assumption) :
 QS X (.Assign [.Name x a] e pos) (Xd b (J5 i)):=by
 refine⟨?_⟩
 intro c s l H D I h
 refine wpAny_Assign_Name (thn (he.1 _ s _ H _ I h) λv m ⟨y,j,f,g,k⟩=>?_) hs
 exact K8 f hN hi hx g (λn d=>⟨_,j,d,k⟩) hf
def B6f (i j:Nat)(ta:TA):TS:=λD σ H=>ta σ H λvs H1=>∃v w,vs=[v,w]/\D.nx ((σ.set i (some v)).set j (some w)) H1
theorem A4s (hc:X.calm=true) (hN:X.N.Nodup) (hi:X.N[i]?=some x) (hj:X.N[j]?=some y) (hij:i≠j)
 (hx:X.env.scope.names.lookup x=some .local) (hy:X.env.scope.names.lookup y=some .local) (ha:QA X [a,b] C)
 (hw:swappedStores [.Tuple [.Name x m,.Name y r] n t] (.Tuple [a,b] k2 d) X.env=pure (some [x,y]))
 (hs:swapsWithSole [.Tuple [.Name x m,.Name y r] n t] (.Tuple [a,b] k2 d) pos.line X.env=pure false:=by rfl) :
 QS X (.Assign [.Tuple [.Name x m,.Name y r] n t] (.Tuple [a,b] k2 d) pos) (B6f i j C):=by
 refine⟨?_⟩
 intro c s B H D I h;rw[exec_Assign_arm]
 refine wpAny_bind (wpAny_standAt ?_)
 rw[hs]
 refine wpAny_bind (wpAny_pure ?_)
 rw[if_neg (by decide)]
 refine wpAny_bind (Tuple_ (thn (ha.1 _ c s B H _ I h) λL f ⟨vs,E,M,F,l⟩=>?_))
 obtain⟨v,w,G,l⟩:=l;subst G
 obtain⟨k,g,rfl,K,u⟩:∃k g,L=[k,g]/\RelV v k/\RelV w g:=by
  cases F with
  | cons p q =>
   cases q with
   | cons p' O =>
    cases O
    grind
 refine wpAny_newObj_type ?_ (by show 2<=sizeLine;decide)
 have J:Inv X c B E { f with heap:=f.heap.push { cls:=.type "tuple",data:=.seq [k,g].toArray } }:=M.kept (t':=f.toks) λb o e=>Heap.get?_push_of_some _ e
 rw[hw]
 refine wpAny_bind (wpAny_pure ?_)
 show wpAny (model X.prog X.w) X.A (do rule "assign.swapped-stores";let items <- unpackItems (.ref f.heap.objs.size) 2 none;assignInOrder [λv=>bindName X.env y v,λv=>bindName X.env x v] items.reverse;pure Flow.next) _ _ _
 refine wpAny_bind (wpAny_rule (wpAny_bind (unpackItems_tuple (items:=#[k,g]) (I.ok.hd hc) (IsTup.new _ _) λh' z=>?_)))
 refine wpAny_bind (assignInOrder_cons (wpAny_bindName (K8 (J.kept (t':=f.toks) λb o e=>z b o (aJ (Heap.lt_size e)) e) hN hj (.inl hy) u (λs2 N=>?_) (.inr hy))))
 refine assignInOrder_cons (wpAny_bindName (K8 N hN hi (.inl hx) K (λs3 A=>assignInOrder_nil (wpAny_pure ?_)) (.inr hx)))
 rw[gA _ _ (aL hij)]at A;exact⟨_,E,A,l⟩
end
section
variable {X:Cx}{pos:Pos}
def Bl6 (c:TT)(tb:TS):TS:=λD σ H=>∃W:Nat->St->Hp->Prop,(∃m,W m σ H)/\∀m σ H,W m σ H ->
 c σ H λb H1=>if b=true then ∃N:St->Hp->Prop,(∀σ' H',N σ' H'->∃m',m'<m/\W m' σ' H')/\tb { D with nx:=N,ct:=N,bk:=D.nx } σ H1 else D.nx σ H1
theorem Bd8 {c:Expr}{body:List Stmt}{tc:TT}{tb:TS}(hp:PassesOwn (model X.prog X.w) X.A X.env X.xe)(hc:QT X c tc)(hb:QSs X body tb):QS X (.While c body [] pos) (Bl6 tc tb):=by
 refine⟨?_⟩
 intro pins s σ H D I h;obtain⟨W,⟨m0,w0⟩,turn⟩:=h
 refine wpAny_While (codeAny_whileLoop (λn s'=>∃σ' H',Inv X pins σ' H' s'/\W n σ' H') ?_ m0 ⟨σ,H,I,w0⟩)
 rintro n s1 ⟨σ1,H1,I1,w1⟩
 refine wpAny_passesOwn hp (thn (hc.1 pins s1 σ1 H1 _ I1 (turn n σ1 H1 w1)) λb s2 ⟨H2,I2,q2⟩=>?_)
 cases b with
 | true =>
  obtain⟨N,hN,q2⟩:=q2;rw[if_pos rfl]
  refine wpAny_passesOwn hp (thn (hb.1 pins s2 σ1 H2 _ I2 q2) λf s3 q3=>?_)
  cases f with
  | next =>
   obtain⟨σ3,H3,I3,n3⟩:=q3;obtain⟨m',hm,w3⟩:=hN σ3 H3 n3;exact⟨m',hm,σ3,H3,I3,w3⟩
  | cont =>
   obtain⟨σ3,H3,I3,n3⟩:=q3;obtain⟨m',hm,w3⟩:=hN σ3 H3 n3;exact⟨m',hm,σ3,H3,I3,w3⟩
  | brk=>exact q3
  | ret v=>exact q3
 | false =>
  rw[if_neg aR];exact wpAny_execs_nil ⟨σ1,H2,I2,q2⟩
end
structure It where
 go:Nat->Hp->Prop
 yld:Nat->Hp->V->Hp->Prop
 stop:Nat->Hp->Prop
def Qw (X:Cx)(pins:y_)(H:Hp)(b:Addr):Prop :=
 H b=none/\b≠X.env.locals/\b∉X.fs/\(b∈X.ex\/X.s₀.heap.objs.size<=b)/\(∀x c,X.env.cells.lookup x=some c->c≠b)/\∀p∈X.pn++pins,p.1≠b
theorem Inv.fpOk (I:Inv X pins d H s) (hb:s.heap.objs.size<=b) (hn:H' b=none):Qw X pins H' b:=by
 refine⟨hn,a_ (aC I.lt hb),I.nofs hb,.inr (ao I.sz hb),λx c e z=>?_,λp a z=>?_⟩
 ·obtain⟨v,q⟩:=I.cell x c e
  exact absurd (aC q.lt (by simp_all)) (bA _)
 ·exact absurd (aC (Heap.lt_size (I.pin p a).1) (by simp_all)) (bA _)
structure Turn (P:p7) (w:World) (K:q9) (tg:Expr) (J:It) (fp:u9) (it:Addr) (tn:Nat->Heap->Prop):Prop where
 mem:it∈fp
 obj:∀i h,tn i h->∀b∈fp,∃o,h.get? b=some o/\∀v,o.data≠.cell v
 keep:∀i h h',tn i h->(∀b∈fp,∀o,h.get? b=some o->h'.get? b=some o)->tn i h'
 item:∀(X:Cx),X.prog=P->X.w=w->X.K=K->X.calm=true->∀(i:Nat) (pins:y_) (s:o4) (σ:St) (H:Hp) (E:z_),Inv X pins σ H s->(∀b∈fp,Qw X pins H b)->tn i s.heap->J.go i H ->
  wpAny (model P w) X.A (pyNext (.ref it)) (λr s1=>∃u,r=some u /\
   wpAny (model P w) X.A (letOwnedTupleGo tg (.ref it) u) (λ_ s2=>∃x H',Inv X pins σ H' s2/\RelV x u/\J.yld i H x H'/\tn (i+1) s2.heap/\∀b∈fp,H' b=none) E s1) E s
 done:∀(X:Cx),X.prog=P->X.w=w->X.K=K->X.calm=true->∀(i:Nat) (pins:y_) (s:o4) (σ:St) (H:Hp) (E:z_),Inv X pins σ H s->(∀b∈fp,Qw X pins H b)->tn i s.heap->J.stop i H ->
  wpAny (model P w) X.A (pyNext (.ref it)) (λr s1=>r=none/\Inv X pins σ H s1) E s
 self:∀(A:o6) (i:Nat) (s:o4) (Q:z_) (E:z_),tn i s.heap->Q (.ref it) s->wpAny (model P w) A (pyIter (.ref it)) Q E s
abbrev TI:=St->Hp->(It->Hp->Prop)->Prop
def PIE (X:Cx)(pins:y_)(σ:St)(tg:Expr)(R:It->Hp->Prop)(itv:Value)(s2:o4):Prop :=
 ∃(it:Addr) (fp:u9) (tn:Nat->Heap->Prop) (J:It) (H':Hp),itv=.ref it/\Inv X pins σ H' s2/\Turn X.prog X.w X.K tg J fp it tn/\tn 0 s2.heap/\(∀b∈fp,Qw X pins H' b)/\R J H'
def PI (X:Cx)(tg iter:Expr)(wi:TI):Prop :=
 ∀
  (pins:y_) (s:o4) (σ:St) (H:Hp) (R:It->Hp->Prop),Inv X pins σ H s->wi σ H R ->
  wpAny (model X.prog X.w) X.A (eval iter X.env) (λv s1=>wpAny (model X.prog X.w) X.A (pyIter v) (PIE X pins σ tg R) X.xe s1) X.xe s
structure QI (X:Cx) (tg iter:Expr) (wi:TI):Prop where
 get:PI X tg iter wi
theorem Ay3 (ho:s.heap.get? it=some o) (hc:o.cls=.type n) (hd:o.data=.fields vs)
 (hn:["enumerate", "zip", "dict_itemiterator", "dict_reverseitemiterator", "odict_iterator", "itertools.zip_longest", "itertools.pairwise"].contains n=false) (a:Q () s):wpAny M A (letOwnedTupleGo b (.ref it) u) Q E s:=by
 cases b <;> first
  | exact wpAny_pure a
  | (cases u <;> first
   | exact wpAny_pure a
   | (
    refine wpAny_bind (wpAny_load ho ?_)
    rw[hc,hd]
    show wpAny M A (if (["enumerate", "zip", "dict_itemiterator", "dict_reverseitemiterator", "odict_iterator", "itertools.zip_longest", "itertools.pairwise"].contains n&&vs[0]?==some _)=true then _ else _) Q E s
    rw[if_neg (by intro h;rw[hn]at h;cases h)]
    exact wpAny_pure a))
noncomputable def Itl (K:q9) (a:Addr):It :=
 ⟨λi H=>∃xs x,SqL K H a xs/\xs[i]?=some x,λi H x H'=>H'=H/\∀xs,SqL K H a xs->xs[i]?=some x,λi H=>∃xs,SqL K H a xs/\xs.length<=i⟩
noncomputable def Itt (K:q9) (a:Addr):It :=
 ⟨λi H=>∃xs x,SqT K H a xs/\xs[i]?=some x,λi H x H'=>H'=H/\∀xs,SqT K H a xs->xs[i]?=some x,λi H=>∃xs,SqT K H a xs/\xs.length<=i⟩
noncomputable def Itr (lo:Int) (n:Nat):It:=⟨λi _=>i<n,λi H x H'=>H'=H/\x=.int (lo+i),λi _=>n<=i⟩
theorem A9t {P:p7}{w:World}{K:q9}{tg:Expr}(a it:Addr):Turn P w K tg (Itl K a) [it] it (λi h=>h.IsListIter it a i) where
 mem:=by simp
 obj:=λi h st b hb=>by
  have e:b=it:=by simpa using hb
  subst e;obtain⟨o,e,c,d⟩:=st
  exact⟨o,e,λv z=>by rw[d]at z;cases z⟩
 keep:=λi h h' st k=>st.at λo e=>k it (by simp) o e
 item:=by
  intro X hP hw hK hc i pins s σ H E I hf st hg;subst hP hw hK;obtain⟨xs,x,hq,hx⟩:=hg;obtain⟨its,rv,p,hz⟩:=I.list hq;obtain⟨u,hu,ru⟩:=rv.get hx
  obtain⟨f0,f1,f2,f3,f4,f5⟩:=hf it (by simp)
  refine wpAny_pyNext_list_item st p.isList (x:=u) (by simpa using hu) λh' st' sb=>?_
  have I1:Inv X pins σ H { s with heap:=h' }:=I.turned (t':=s.toks) (λb o hb e=>(sb.2 b hb).trans e) f0 f1 f3 f4 f5
  obtain⟨o,e,c,d⟩:=id st'
  exact⟨u,rfl,Ay3 (s:={ s with heap:=h' }) e c d (by decide) ⟨x,H,I1,ru,⟨rfl,λys hy=>by rw[I.list_inj hy hq];exact hx⟩,st',λb hb=>(hf b hb).1⟩⟩
 done:=by
  intro X hP hw hK hc i pins s σ H E I hf st hg;subst hP hw hK;obtain⟨xs,hq,hx⟩:=hg;obtain⟨its,rv,p,hz⟩:=I.list hq
  obtain⟨f0,f1,f2,f3,f4,f5⟩:=hf it (by simp)
  have hl:=rv.length
  exact wpAny_pyNext_list_end (I.ok.hd hc) st p.isList (by simp;omega) λh' eb=>⟨rfl,I.turned (t':=s.toks) (λb o hb e=>eb b o hb e) f0 f1 f3 f4 f5⟩
 self:=λ_ _ _ _ _ st h=>wpAny_pyIter_listiter st h
theorem A4u {P:p7}{w:World}{K:q9}{tg:Expr}(a it:Addr):Turn P w K tg (Itt K a) [it] it (λi h=>h.IsTupleIter it a i) where
 mem:=by simp
 obj:=λi h st b hb=>by
  have e:b=it:=by simpa using hb
  subst e;obtain⟨o,e,c,d⟩:=st
  exact⟨o,e,λv z=>by rw[d]at z;cases z⟩
 keep:=λi h h' st k=>st.at λo e=>k it (by simp) o e
 item:=by
  intro X hP hw hK hc i pins s σ H E I hf st hg;subst hP hw hK;obtain⟨xs,x,hq,hx⟩:=hg;obtain⟨its,rv,p,hz⟩:=I.tuple hq;obtain⟨u,hu,ru⟩:=rv.get hx
  obtain⟨f0,f1,f2,f3,f4,f5⟩:=hf it (by simp)
  refine wpAny_pyNext_tuple_item st (show s.heap.IsTuple a its.toArray from p) (x:=u) (by simpa using hu) λh' st' sb=>?_
  have I1:Inv X pins σ H { s with heap:=h' }:=I.turned (t':=s.toks) (λb o hb e=>(sb.2 b hb).trans e) f0 f1 f3 f4 f5
  obtain⟨o,e,c,d⟩:=id st'
  exact⟨u,rfl,Ay3 (s:={ s with heap:=h' }) e c d (by decide) ⟨x,H,I1,ru,⟨rfl,λys hy=>by rw[I.tuple_inj hy hq];exact hx⟩,st',λb hb=>(hf b hb).1⟩⟩
 done:=by
  intro X hP hw hK hc i pins s σ H E I hf st hg;subst hP hw hK;obtain⟨xs,hq,hx⟩:=hg;obtain⟨its,rv,p,hz⟩:=I.tuple hq
  obtain⟨f0,f1,f2,f3,f4,f5⟩:=hf it (by simp)
  have hl:=rv.length
  exact wpAny_pyNext_tuple_end (I.ok.hd hc) st (show s.heap.IsTuple a its.toArray from p) (by simp;omega) λh' eb=>⟨rfl,I.turned (t':=s.toks) (λb o hb e=>eb b o hb e) f0 f1 f3 f4 f5⟩
 self:=λ_ _ _ _ _ st h=>wpAny_pyIter_tupleiter st h
theorem A4z {P:p7}{w:World}{K:q9}{tg:Expr}(it:Addr)(lo:Int)(n:Nat):Turn P w K tg (Itr lo n) [it] it (λi h=>IsRangeIter h it (lo+(i:Nat)*1) ((n:Int)-(i:Nat)) 1) where
 mem:=by simp
 obj:=λi h st b hb=>by
  have e:b=it:=by simpa using hb
  subst e
  exact⟨_,st,λv z=>by
   have z':Data.fields _=Data.cell v:=z
   cases z'⟩
 keep:=λi h h' st k=>k it (by simp) _ st
 item:=by
  intro X hP hw hK hc i pins s σ H E I hf st hg;subst hP hw hK
  obtain⟨f0,f1,f2,f3,f4,f5⟩:=hf it (by simp)
  have W:=Walks.range (prog:=X.prog) (w:=X.w) (I.ok.hd hc) it lo 1 n
  refine W.item i s _ _ hg st λv h' tk hv st' kk=>?_
  obtain⟨t,rfl⟩:=hv
  have I1:Inv X pins σ H { s with heap:=h',toks:=tk }:=I.turned (λb o hb e=>kk b o (by simpa using hb) e) f0 f1 f3 f4 f5
  refine⟨_,rfl,Ay3 (s:={ s with heap:=h',toks:=tk }) (n := "range_iterator") st' rfl rfl (by decide) ⟨.int (lo+i),H,I1,⟨t,?_⟩,⟨rfl,rfl⟩,st',λb hb=>(hf b hb).1⟩⟩
  rw[Int.mul_one]
 done:=by
  intro X hP hw hK hc i pins s σ H E I hf st hg;subst hP hw hK
  obtain⟨f0,f1,f2,f3,f4,f5⟩:=hf it (by simp)
  exact wpAny_pyNext_range_end (I.ok.hd hc) st (by have:n<=i:=hg;omega) λh' eb=>⟨rfl,I.turned (t':=s.toks) (λb o hb e=>eb b o hb e) f0 f1 f3 f4 f5⟩
 self:=λ_ _ _ _ _ st h=>wpAny_pyIter_rangeiter st h
section
variable {X:Cx}{tg:Expr}
theorem Bm2 {lo hi:Int} (I:Inv X pins c H s) (h1:-(2 ^ 62)<=lo) (h2:lo<2 ^ 62) (d:-(2 ^ 62)<=hi) (f:hi<2 ^ 62)
 (q:R (Itr lo (hi-lo).toNat) H):wpAny (model X.prog X.w) X.A (pyIter (.ref s.heap.objs.size)) (PIE X pins c tg R) E { s with heap:=s.heap.push { cls:=.type "range",data:=.fields #[.int lo t,.int hi u,.int 1 v] },toks:=tk }:=by
 refine wpAny_pyIter_range (IsRange.new ..) (small_one h1 h2 d f) ?_
 have a:Inv X _ _ H { s with heap:=s.heap.push { cls:=.type "range",data:=.fields #[.int lo t,.int hi u,.int 1 v] },toks:=tk }:=I.kept λb o e=>Heap.get?_push_of_some _ e
 refine⟨(s.heap.push _).objs.size,[(s.heap.push _).objs.size],_,_,H,rfl,
  a.kept λb o e=>Heap.get?_push_of_some _ e,A4z _ _ _,?_,λb i=>?_,q⟩
 ·have h:lo+((0:Nat))*1=lo:=by simp
  have g:(((hi-lo).toNat):Int)-((0:Nat))=Builtin.Range.rangeSize lo hi 1:=by rw[rangeSize_one];grind
  rw[h,g];exact Heap.get?_push_size _ rfl
 ·have e:b=(s.heap.push { cls:=.type "range",data:=.fields #[.int lo t,.int hi u,.int 1 v] }).objs.size:=by grind
  subst e;exact a.fpOk (ak _) (a.hok.fresh (ak _))
def B1j (ta:TA):TI:=λσ H R=>ta σ H λvs H1=>∃j:Int,vs=[.int j]/\-(2 ^ 62)<=j/\j<2 ^ 62/\R (Itr 0 j.toNat) H1
theorem Jl (hg:Gl X "range") (hm:X.mg "range" = none) (ha:QA X [a] d) (hs:starEach [a] X.env=[(false,eval a X.env)]:=by rfl):QI X tg (.Call (.Name "range" p) [a] [] b) (B1j d):=by
 refine⟨?_⟩
 intro f s σ H R I h
 refine Call_ (M6 I hg hm boot_range (eE (thn (ha.1 _ _ s _ H _ I h) λus s1 ⟨vs,H1,g,i,c⟩=>?_) hs rfl))
 obtain⟨j,e,c,k,q⟩:=c;subst e
 cases i with
 | cons r l =>
  cases l
  obtain⟨t,rfl⟩:=r
  exact call_range_1 (Bm2 g (by omega) (by omega) c k (by grind))
def By1 (wi:TI)(g:TG)(tb:TS):TS:=λD σ H=>wi σ H λJ H1=>∃W:Nat->Nat->St->Hp->Prop,(∃m,W 0 m σ H1)/\∀i m σ H,W i m σ H ->
 (J.stop i H/\D.nx σ H)\/(J.go i H/\∃N:St->Hp->Prop,(∀σ' H',N σ' H'->∃m',m'<m/\W (i+1) m' σ' H')/\∀x H',J.yld i H x H'->g x σ H' λσ2 H2=>tb { D with nx:=N,ct:=N,bk:=D.nx } σ2 H2)
noncomputable def Z4 (fp:u9) (h:Heap):y_:=fp.filterMap λb=>(h.get? b).map λo=>(b,o)
theorem O3 (hb:b∈fp) (e:h.get? b=some o):(b,o)∈Z4 fp h:=List.mem_filterMap.mpr ⟨b,hb,by grind⟩
theorem A9d (hp:p∈Z4 fp h):p.1∈fp/\h.get? p.1=some p.2:=by
 obtain⟨b,a,e⟩:=List.mem_filterMap.mp hp
 cases q:h.get? b with
 | none=>simp_all
 | some o =>
  grind
theorem Inv.pinned (I:Inv X pins a H s) (hf:∀b∈fp,Qw X pins H b) (ho:∀b∈fp,∃o,s.heap.get? b=some o/\∀v,o.data≠.cell v):Inv X (pins++Z4 fp s.heap) a H s :=
 I.pins_of λp d=>(aP.mp d).elim (λz=>I.pin p (bU _ z)) λz=>by
  obtain⟨c,e⟩:=A9d z;obtain⟨g,h,f,_⟩:=hf _ c
  grind
theorem Inv.unpinned (I:Inv X (pins++pl) a H s):Inv X pins a H s:=I.pins_of λp b=>I.pin p (bU _ (gW _ b))
theorem Kf (hp:PassesOwn (model X.prog X.w) X.A X.env X.xe) (hc:X.calm=true) (hi:QI X tg p Z) (hg:QG X tg g) (hb:QSs X body tb)
 (hs:∀x,foldedSetIterable p X.env x=pure x:=by intro _;rfl):QS X (.For tg p body [] P) (By1 Z g tb):=by
 obtain⟨hb⟩:=hb
 refine⟨?_⟩
 intro a s σ H D I h
 refine wpAny_For (thn (hi.1 a s σ H _ I h) λv s1 h1=>thn h1 λitv s2 h2=>?_) hs
 obtain⟨it,C,tn,J,H2,e,I2,T,Q,Y,W,⟨m0,w0⟩,E⟩:=h2;subst e
 have k:∀{t:Hp},(∀b∈C,t b=none)->∀b∈C,Qw X a t b:=λhn b hb=>⟨hn b hb,(Y b hb).2⟩
 refine codeAny_forLoop_any (λn U=>∃i σ' t,Inv X a σ' t U/\tn i U.heap/\(∀b∈C,t b=none)/\W i n σ' t) ?_ m0 ⟨0,σ,H2,I2,Q,λb hb=>(Y b hb).1,w0⟩
 rintro n V ⟨i,j,L,I3,B,F,w3⟩
 rcases E i n j L w3 with ⟨A,qn⟩ | ⟨go,N,hN,K⟩
 ·refine wpAny_passesOwn hp (thn (T.done X rfl rfl rfl hc i a V j L X.xe I3 (k F) B A) λr s4 ⟨M,I4⟩=>?_)
  subst M;exact wpAny_execs_nil ⟨j,L,I4,qn⟩
 ·refine wpAny_passesOwn hp (thn (T.item X rfl rfl rfl hc i a V j L X.xe I3 (k F) B go) λr s4 ⟨u,M,h4⟩=>?_)
  subst M
  refine wpAny_passesOwn hp (thn h4 λ_ s5 ⟨x,S,I5,r5,y5,z,O⟩=>?_)
  refine wpAny_passesOwn hp (thn (hg.1 _ s5 j S x u _ (I5.pinned (k O) (T.obj _ _ z)) r5 (K x S y5)) λ_ s6 ⟨R,H6,I6,q6⟩=>?_)
  refine wpAny_passesOwn hp (thn (hb _ s6 R H6 _ I6 q6) λf s7 y=>?_)
  have l:∀{c:St} {w:Hp},Inv X (a++Z4 C s5.heap) c w s7->N c w->∃m,m<n/\∃i σ' t,Inv X a σ' t _/\tn i _/\(∀b∈C,t b=none)/\W i m σ' t:=λ{c w} q G=>by
   obtain⟨m',hm,w7⟩:=hN _ _ G
   refine⟨m',hm,i+1,c,w,q.unpinned,T.keep _ _ _ z λb hb o e=>(q.pin _ (bU _ (bU _ (O3 hb e)))).1,λb hb=>?_,w7⟩
   obtain⟨o,e,d⟩:=T.obj _ _ z b hb;exact(q.pin _ (bU _ (bU _ (O3 hb e)))).2.1
  cases f with
  | next=>obtain⟨c,w,q,G⟩:=y;exact l q G
  | cont=>obtain⟨c,w,q,G⟩:=y;exact l q G
  | brk=>obtain⟨c,w,q,y⟩:=y;exact⟨c,w,q.unpinned,y⟩
  | ret v=>obtain⟨x7,c,w,q,r7,y⟩:=y;exact⟨x7,c,w,q.unpinned,r7,y⟩
end
abbrev R2:=V->V->Hp->VK->Prop
def OpR (X:Cx)(f:Value->Value->Sem Value)(r:R2):Prop :=
 ∀
  (pins:y_) (s:o4) (σ:St) (H:Hp) (x y:V) (v u:Value) (Q:VK),Inv X pins σ H s->RelV x v->RelV y u->r x y H Q ->
  wpAny (model X.prog X.w) X.A (f v u) (EP X pins σ Q) X.xe s
def UnR (X:Cx)(f:Value->Sem Value)(r:V->Hp->VK->Prop):Prop :=
 ∀
  (pins:y_) (s:o4) (σ:St) (H:Hp) (x:V) (v:Value) (Q:VK),Inv X pins σ H s->RelV x v->r x H Q ->
  wpAny (model X.prog X.w) X.A (f v) (EP X pins σ Q) X.xe s
def CallR (X:Cx)(f:Value)(r:l_->Hp->VK->Prop):Prop :=
 ∀
  (pins:y_) (s:o4) (σ:St) (H:Hp) (xs:l_) (us:v4) (Q:VK),Inv X pins σ H s->Vals xs us->r xs H Q ->
  wpAny (model X.prog X.w) X.A (call f us) (EP X pins σ Q) X.xe s
def tOp (r:R2)(ta tb:TE):TE:=λσ H Q=>ta σ H λx H1=>tb σ H1 λy H2=>r x y H2 Q
def tUn (r:V->Hp->VK->Prop)(ta:TE):TE:=λσ H Q=>ta σ H λx H1=>r x H1 Q
def rI (C:Int->Int->Prop)(g:Int->Int->V):R2:=λx y H Q=>∃i j,x=.int i/\y=.int j/\C i j/\Q (g i j) H
def rI0 (g:Int->Int->V):R2:=λx y H Q=>∃i j,x=.int i/\y=.int j/\Q (g i j) H
def rU (g:Int->V):V->Hp->VK->Prop:=λx H Q=>∃i,x=.int i/\Q (g i) H
section
variable {X:Cx}{a b c:Expr}{ta tb:TE}{pos:Pos}
theorem B3g (ha:PE X a ta)(hb:PE X b tb) {R:V->V->Hp->Prop}(I:Inv X pins g H s)
 (h:ta g H λx j=>tb g j λy c=>R x y c) {f:Value->Value->Sem Value}
 (hf:∀v u i x y c,Inv X pins g c i->RelV x v->RelV y u->R x y c->wpAny (model X.prog X.w) X.A (f v u) Q X.xe i) :
 wpAny (model X.prog X.w) X.A (eval a X.env) (λv d=>wpAny (model X.prog X.w) X.A (eval b X.env) (λu e=>wpAny (model X.prog X.w) X.A (f v u) Q X.xe e) X.xe d) X.xe s:=by
 refine thn (ha _ s _ H _ I h) λv o ⟨x,j,k,n,l⟩=>?_
 refine thn (hb _ _ _ _ _ k l) λu i ⟨y,c,p,q,m⟩=>?_
 grind
theorem Xz (ho:OpR X (binaryOp op) r) (ha:PE X a ta) (hb:PE X b tb):PE X (.BinOp a op b pos) (tOp r ta tb):=by
 intro c s g H Q I h
 exact wpAny_BinOp (B3g ha hb I h λv u i x y j f e d q=>ho _ _ _ _ x y v u Q f e d q)
theorem B6a (ho:UnR X (unaryOp op) r) (ha:PE X a ta):PE X (.UnaryOp op a pos) (tUn r ta):=by
 intro b s f H Q I h
 exact UnaryOp_ (thn (ha _ s _ H _ I h) λv g ⟨x,i,e,d,c⟩=>ho _ _ _ _ x v Q e d c)
theorem opI {g:Int->Int->Int}
 (a:∀(i j:Int) (t u:Tok) (s:o4) (Q:z_) (E:z_),C i j->Q (.int (g i j) s.toks) { s with toks:=s.toks+1 }->wpAny (model X.prog X.w) X.A (f (.int i t) (.int j u)) Q E s) :
 OpR X f (rI C λi j=>.int (g i j)):=by
 intro b s σ H x y v u Q I c e h;obtain⟨i,j,rfl,rfl,d,q⟩:=h;obtain⟨t,rfl⟩:=c;obtain⟨t',rfl⟩:=e;exact a i j t _ s _ _ d ⟨.int _,H,I.tok _,⟨_,rfl⟩,q⟩
theorem Qy {g:Int->Int->Int}
 (a:∀(i j:Int) (t u:Tok) (s:o4) (Q:z_) (E:z_),Q (.int (g i j) s.toks) { s with toks:=s.toks+1 }->wpAny (model X.prog X.w) X.A (f (.int i t) (.int j u)) Q E s) :
 OpR X f (rI0 λi j=>.int (g i j)):=by
 intro b s σ H x y v u Q I c d h;obtain⟨i,j,rfl,rfl,q⟩:=h;obtain⟨t,rfl⟩:=c;obtain⟨t',rfl⟩:=d;exact a i j t _ s _ _ ⟨.int _,H,I.tok _,⟨_,rfl⟩,q⟩
theorem Bw4 {g:Int->Int->Bool}
 (a:∀(i j:Int) (t u:Tok) (s:o4) (Q:z_) (E:z_),Q (.bool (g i j)) s->wpAny (model X.prog X.w) X.A (f (.int i t) (.int j u)) Q E s) :
 OpR X f (rI0 λi j=>.bl (g i j)):=by
 intro b s σ H x y v u Q I c d h;obtain⟨i,j,rfl,rfl,q⟩:=h;obtain⟨t,rfl⟩:=c;obtain⟨t',rfl⟩:=d;exact a i j t _ s _ _ ⟨.bl _,H,I,rfl,q⟩
def By5 (i j:Int):Prop:=0<j/\j<1073741824
def Bs7 (i j:Int):Prop:=0<=j/\j<=1000000/\i.natAbs<2 ^ 64
def CMul (i j:Int):Prop:=(-(2 ^ 64)<i/\i<2 ^ 64)\/(-(2 ^ 64)<j/\j<2 ^ 64)
theorem CMul.ok (h:CMul i j):IntMulOk i j:=by
 rcases h with ⟨b,a⟩ | ⟨b,a⟩
 ·exact .of_left (intBits_le_64 b a)
 ·exact .of_right (intBits_le_64 b a)
theorem B4a:OpR X (binaryOp .Add) (rI0 λi j=>.int (i+j)):=Qy λ_ _ _ _ _ _ _ q=>add_int q
theorem B1q:OpR X (binaryOp .Sub) (rI0 λi j=>.int (i-j)):=Qy λ_ _ _ _ _ _ _ q=>sub_int q
theorem B3x:OpR X (binaryOp .Mult) (rI CMul λi j=>.int (i*j)):=opI λ_ _ _ _ _ _ _ a q=>mul_int q a.ok
theorem Bs3:OpR X (binaryOp .FloorDiv) (rI By5 λi j=>.int (i / j)):=opI λi j _ _ _ _ _ a q=>by
 have c:(0:Int)<j:=a.1;have b:j<1073741824:=a.2
 exact floordiv_int (by omega) (by rw[Int.fdiv_eq_ediv_of_nonneg i (by omega)];exact q) (.inl (PyProof.noPylong_small (by omega)))
theorem B4s:OpR X (binaryOp .Mod) (rI (λ_ j=>0<j) λi j=>.int (i % j)):=opI λi j _ _ _ _ _ a q=>by
 have b:(0:Int)<j:=a
 exact mod_int' (by omega) (by rw[Int.fmod_eq_emod_of_nonneg i (by omega)];exact q)
theorem B4f:OpR X (binaryOp .Pow) (rI Bs7 λi j=>.int (i ^ j.toNat)):=opI λ_ _ _ _ _ _ _ a q=>pow_int_small a.1 a.2.1 a.2.2 q
theorem unI {g:Int->Int}
 (a:∀(i:Int) (t:Tok) (s:o4) (Q:z_) (E:z_),Q (.int (g i) s.toks) { s with toks:=s.toks+1 }->wpAny (model X.prog X.w) X.A (f (.int i t)) Q E s) :
 UnR X f (rU λi=>.int (g i)):=by
 intro b s σ H x v Q I c h;obtain⟨i,rfl,q⟩:=h;obtain⟨t,rfl⟩:=c;exact a i t s _ _ ⟨.int _,H,I.tok _,⟨_,rfl⟩,q⟩
theorem B3s:UnR X (unaryOp .USub) (rU λi=>.int (-i)):=unI λ_ _ _ _ _ q=>neg_int q
end
noncomputable def B5b:V->V->Bool
 | .non,.non=>true | .non,.int _=>true | .int _,.non=>true | .non,.bl _=>true | .bl _,.non=>true | .non,.str _=>true | .str _,.non=>true
 | .int _,.int _=>true | .bl _,.bl _=>true | .str _,.str _=>true | .byt _,.byt _=>true
 | .int _,.str _=>true | .str _,.int _=>true | .bl _,.str _=>true | .str _,.bl _=>true
 | _,_=>false
def rEq:R2:=λx y H Q=>B5b x y=true/\Q (.bl (decide (x=y))) H
def rNe:R2:=λx y H Q=>B5b x y=true/\Q (.bl (!decide (x=y))) H
theorem A7f : decide (V.int i=V.int j)=(i==j):=by
 grind
theorem Bd1 : decide (V.bl i=V.bl j)=(i==j):=by
 grind
theorem A5w : decide (V.str i=V.str j)=(i==j):=by
 grind
theorem A6g : decide (V.byt i=V.byt j)=(i.toList==j.toList):=by
 rw[Bool.eq_iff_iff]
 simp_all
section
variable {X:Cx}{a b c:Expr}{ta tb:TE}{pos:Pos}
theorem Dk {b:St} {k a:Bool}(I:Inv X pins b H s) (q:Q (.bl k) H) (e:k=a):EP X pins b Q (.bool a) s:=by
 subst e;exact⟨.bl k,H,I,rfl,q⟩
theorem B7a:OpR X (compareOp .Eq) rEq:=by
 intro e s σ H x y v u Q I d a h;obtain⟨c,q⟩:=h
 cases x with
 | non =>
  cases d
  cases y with
  | non=>cases a;exact PySem.EqNone.eq_none_none (Dk I q (by simp))
  | bl j=>cases a;exact PySem.EqNone.eq_none_bool (Dk I q (by simp))
  | int j=>obtain⟨b,rfl⟩:=a;exact PySem.EqNone.eq_none_int (Dk I q (by simp))
  | str j=>obtain⟨b,rfl⟩:=a;exact PySem.EqNone.eq_none_str (Dk I q (by simp))
  | _=>exact absurd (show false=true from c) aR
 | bl i =>
  cases d
  cases y with
  | non=>cases a;exact PySem.EqNone.eq_bool_none (Dk I q (by simp))
  | bl j=>cases a;exact eq_bool (Dk I q Bd1)
  | str j=>obtain⟨b,rfl⟩:=a;exact PySem.EqMixed.eq_bool_str (Dk I q (by simp))
  | _=>exact absurd (show false=true from c) aR
 | int i =>
  obtain⟨t,rfl⟩:=d
  cases y with
  | non=>cases a;exact PySem.EqNone.eq_int_none (Dk I q (by simp))
  | int j=>obtain⟨b,rfl⟩:=a;exact eq_int (Dk I q A7f)
  | str j=>obtain⟨b,rfl⟩:=a;exact PySem.EqMixed.eq_int_str (Dk I q (by simp))
  | _=>exact absurd (show false=true from c) aR
 | str i =>
  obtain⟨t,rfl⟩:=d
  cases y with
  | non=>cases a;exact PySem.EqNone.eq_str_none (Dk I q (by simp))
  | bl j=>cases a;exact PySem.EqMixed.eq_str_bool (Dk I q (by simp))
  | int j=>obtain⟨b,rfl⟩:=a;exact PySem.EqMixed.eq_str_int (Dk I q (by simp))
  | str j=>obtain⟨b,rfl⟩:=a;exact eq_str (Dk I q A5w)
  | _=>exact absurd (show false=true from c) aR
 | byt i =>
  obtain⟨t,rfl⟩:=d
  cases y with
  | byt j=>obtain⟨b,rfl⟩:=a;exact PySem.W.eq_bytes (Dk I q A6g)
  | _=>exact absurd (c) aR
 | _=>cases y <;> exact absurd (show false=true from c) aR
theorem B6e:OpR X (compareOp .NotEq) rNe:=by
 intro e s σ H x y v u Q I d a h;obtain⟨c,q⟩:=h
 cases x with
 | non =>
  cases d
  cases y with
  | non=>cases a;exact PySem.EqNone.ne_none_none (Dk I q (by simp))
  | bl j=>cases a;exact PySem.EqNone.ne_none_bool (Dk I q (by simp))
  | int j=>obtain⟨b,rfl⟩:=a;exact PySem.EqNone.ne_none_int (Dk I q (by simp))
  | str j=>obtain⟨b,rfl⟩:=a;exact PySem.EqNone.ne_none_str (Dk I q (by simp))
  | _=>exact absurd (show false=true from c) aR
 | bl i =>
  cases d
  cases y with
  | non=>cases a;exact PySem.EqNone.ne_bool_none (Dk I q (by simp))
  | bl j=>cases a;exact ne_bool (Dk I q (bj not Bd1))
  | str j=>obtain⟨b,rfl⟩:=a;exact PySem.EqMixed.ne_bool_str (Dk I q (by simp))
  | _=>exact absurd (show false=true from c) aR
 | int i =>
  obtain⟨t,rfl⟩:=d
  cases y with
  | non=>cases a;exact PySem.EqNone.ne_int_none (Dk I q (by simp))
  | int j=>obtain⟨b,rfl⟩:=a;exact ne_int (Dk I q (bj not A7f))
  | str j=>obtain⟨b,rfl⟩:=a;exact PySem.EqMixed.ne_int_str (Dk I q (by simp))
  | _=>exact absurd (show false=true from c) aR
 | str i =>
  obtain⟨t,rfl⟩:=d
  cases y with
  | non=>cases a;exact PySem.EqNone.ne_str_none (Dk I q (by simp))
  | bl j=>cases a;exact PySem.EqMixed.ne_str_bool (Dk I q (by simp))
  | int j=>obtain⟨b,rfl⟩:=a;exact PySem.EqMixed.ne_str_int (Dk I q (by simp))
  | str j=>obtain⟨b,rfl⟩:=a;exact ne_str (Dk I q (bj not A5w))
  | _=>exact absurd (show false=true from c) aR
 | byt i =>
  obtain⟨t,rfl⟩:=d
  cases y with
  | byt j=>obtain⟨b,rfl⟩:=a;exact PySem.W.ne_bytes (Dk I q (bj not A6g))
  | _=>exact absurd (c) aR
 | _=>cases y <;> exact absurd (show false=true from c) aR
theorem B6s:OpR X (compareOp .Lt) (rI0 λi j=>.bl (decide (i<j))):=Bw4 λ_ _ _ _ _ _ _ q=>lt_int q
theorem B4t:OpR X (compareOp .LtE) (rI0 λi j=>.bl (decide (i<=j))):=Bw4 λ_ _ _ _ _ _ _ q=>le_int q
theorem B1i:OpR X (compareOp .Gt) (rI0 λi j=>.bl (decide (j<i))):=Bw4 λ_ _ _ _ _ _ _ q=>gt_int q
theorem Bz1:OpR X (compareOp .GtE) (rI0 λi j=>.bl (decide (j<=i))):=Bw4 λ_ _ _ _ _ _ _ q=>ge_int q
theorem A8n:OpR X (compareOp .In) (λx y H Q=>∃i j,x=.str i/\y=.str j/\Q (.bl (!(Builtin.Str.occurrences j i 0 j.length 1).isEmpty)) H):=by
 intro a s σ H x y v u Q I b c h;obtain⟨i,j,rfl,rfl,q⟩:=h;obtain⟨t,rfl⟩:=b;obtain⟨t',rfl⟩:=c;exact in_str (Dk I q rfl)
theorem A9z:OpR X (compareOp .Is) (λx y H Q=>y=.non/\Q (.bl (decide (x=.non))) H):=by
 intro a s σ H x y v u Q I c b h;obtain⟨rfl,q⟩:=h
 cases b
 refine is_none_gen (Dk I q ?_)
 cases x <;> first
  | omega
  | (obtain⟨t,rfl⟩:=c;rfl)
theorem OpR.or {r b:R2}(h:OpR X f r) (h':OpR X f b):OpR X f (λx y H Q=>r x y H Q\/b x y H Q):=by
 intro c s e H x y v u Q I d a q
 rcases q with q | q
 ·exact h _ s _ H x y v u Q I d a q
 ·exact h' _ s _ H x y v u Q I d a q
theorem Lf (b:Expr) (h:op≠.In:=by decide) (h2:op≠.NotIn:=by decide):behindInMarks op b=false:=by
 have c:(op==CmpOp.In)=false:=by grind
 have a:(op==CmpOp.NotIn)=false:=by grind
 cases b <;> simp[behindInMarks,c,a]
theorem Qk (ho:OpR X (compareOp op) r) (ha:PE X a ta) (hb:PE X b tb) (hm:behindInMarks op b=false):PE X (.Compare a [op] [b] pos) (tOp r ta tb):=by
 intro c s g H Q I h
 exact wpAny_Compare1 (B3g ha hb I h λv u i x y j f e d q=>ho _ _ _ _ x y v u Q f e d q) hm
def T7 (t:TE):TT:=λσ H Q=>t σ H λx H'=>∃k,x=.bl k/\Q k H'
theorem Pj (ho:OpR X (compareOp op) r) (ha:PE X a ta) (hb:PE X b tb) (hm:behindInMarks op b=false):PT X (.Compare a [op] [b] pos) (T7 (tOp r ta tb)):=by
 intro d s t H Q I h
 refine wpAny_isTrue_Compare1 (thn (ha _ s _ H _ I h) λv C ⟨x,D,j,l,m⟩=>thn (hb _ _ _ _ _ j m) λu w ⟨y,B,i,g,o⟩ =>
  thn (ho _ _ _ _ x y v u _ i l g o) λc A ⟨z,n,p,q,k,e,f⟩=>?_) hm
 subst e
 cases q
 exact wpAny_truthy_bool ⟨n,p,f⟩
theorem Ab3:(sizeLine:Nat)<2 ^ 63:=by decide
theorem A3i:OpR X (binaryOp .Add) (λx y H Q=>∃i j,x=.str i/\y=.str j/\i.length+j.length<=sizeLine/\Q (.str (i++j)) H):=by
 intro a s σ H x y v u Q I c b h;obtain⟨i,j,rfl,rfl,e,q⟩:=h;obtain⟨t,rfl⟩:=c;obtain⟨d,rfl⟩:=b
 exact add_str (λd tk=>⟨.str _,H,I.tok _,⟨_,rfl⟩,q⟩) e
theorem vals1 (r:Vals [x] us):∃u,us=[u]/\RelV x u:=by
 cases r with
 | cons b a=>cases a;grind
theorem vals2 (r:Vals [x,y] us):∃u w',us=[u,w']/\RelV x u/\RelV y w':=by
 cases r with
 | cons c b =>
  cases b with
  | cons d a=>cases a;grind
theorem Bm3:CallR X (.builtin "abs") (λxs H Q=>∃i,xs=[.int i]/\Q (.int (if i<0 then -i else i)) H):=by
 intro a s σ H xs us Q I r h;obtain⟨i,rfl,q⟩:=h;obtain⟨u,rfl,t,rfl⟩:=vals1 r
 exact call_abs_int λu tk=>⟨.int _,H,I.tok _,⟨_,rfl⟩,q⟩
theorem A8b (hc:X.calm=true):CallR X (.builtin "min") (λxs H Q=>∃i j,xs=[.int i,.int j]/\Q (.int (if j<i then j else i)) H):=by
 intro a s σ H xs us Q I r h;obtain⟨i,j,rfl,q⟩:=h;obtain⟨u,w',rfl,⟨t,rfl⟩,⟨t',rfl⟩⟩:=vals2 r
 refine min_two_ints (I.ok.hd hc) λh' tk k=>⟨_,H,I.kept k,?_,q⟩
 by_cases hj:j<i
 ·rw[if_pos hj,if_pos hj];exact⟨_,rfl⟩
 ·rw[if_neg hj,if_neg hj];exact⟨_,rfl⟩
theorem A8h:CallR X (.type "int") (λxs H Q=>(∃i,xs=[.int i]/\Q (.int i) H)\/∃k,xs=[.bl k]/\Q (.int (if k then 1 else 0)) H):=by
 intro a s σ H xs us Q I r h
 rcases h with ⟨i,rfl,q⟩ | ⟨k,rfl,q⟩
 ·obtain⟨u,rfl,t,rfl⟩:=vals1 r
  exact call_int_int ⟨.int i,H,I,⟨_,rfl⟩,q⟩
 ·obtain⟨u,rfl,b⟩:=vals1 r
  cases b
  exact call_int_bool ⟨.int _,H,I.tok _,⟨_,rfl⟩,q⟩
theorem Aq1:CallR X (.type "str") (λxs H Q=>∃i,xs=[.int i]/\i.natAbs.log2<1920/\Q (.str (toString i)) H):=by
 intro a s σ H xs us Q I r h;obtain⟨i,rfl,b,q⟩:=h;obtain⟨u,rfl,t,rfl⟩:=vals1 r;exact PySem.P.str_of_int b ⟨.str _,H,I.tok _,⟨_,rfl⟩,q⟩
def B5e (K:q9)(x:V)(H:Hp)(n:Nat):Prop :=
 match x with
 | .str y=>y.length<=sizeLine/\n=y.length
 | .byt y=>y.size<=sizeLine/\n=y.size
 | .ref p=>(∃xs,SqL K H p xs/\n=xs.length)\/∃xs,SqT K H p xs/\n=xs.length
 | _=>False
theorem A1p:CallR X (.builtin "len") (λxs H Q=>∃x n,xs=[x]/\B5e X.K x H n/\Q (.int n) H):=by
 intro j s σ H xs us Q I r h;obtain⟨x,n,rfl,e,q⟩:=h;obtain⟨u,rfl,d⟩:=vals1 r;have hl:=Ab3;have hs:sizeLine=16777216:=sizeLine_eq
 cases x with
 | str y =>
  obtain⟨t,rfl⟩:=d;obtain⟨l,b⟩:y.length<=sizeLine/\n=y.length:=e;subst b
  exact len_str (by omega) ⟨.int _,H,I.tok _,⟨_,rfl⟩,q⟩
 | byt y =>
  obtain⟨t,rfl⟩:=d;obtain⟨l,b⟩:y.size<=sizeLine/\n=y.size:=e;subst b
  exact PySem.W.len_bytes (by omega) ⟨.int _,H,I.tok _,⟨_,rfl⟩,q⟩
 | ref p =>
  cases d
  have b := e
  rcases b with ⟨xs,c,b⟩ | ⟨xs,c,b⟩
  ·subst b
   obtain⟨g,f,i,k⟩:=I.list c;have a:=f.length
   exact Calls.call_len_list i.isList (by grind) ⟨.int _,H,I.tok _,⟨_,by simp only[bJ];rw[a]⟩,q⟩
  ·subst b
   obtain⟨g,f,i,k⟩:=I.tuple c;have a:=f.length
   exact len_tuple i (by grind) ⟨.int _,H,I.tok _,⟨_,by simp only[bJ];rw[a]⟩,q⟩
 | _=>trivial
end
structure Room (k:Nat) (A:o6):Prop where
 hd:A.handled=none
 dp:A.depth+3*k+5<recursionLimit
 un:A.units+16*k+200<cLine
 gd:A.guards=some []
theorem Room.mono (r:Room k A) (h:j<=k):Room j A:=⟨r.hd,by have:=r.dp;omega,by have:=r.un;omega,r.gd⟩
theorem Room.deeper (r:Room (k+1) A) (env:Env):Room k (A.deeper env) :=
 ⟨r.hd,by have:=r.dp;show A.depth+1+3*k+5<_;omega,by have:=r.un;show A.units+3+16*k+200<_;omega,r.gd⟩
theorem Room.depth (r:Room k A):A.depth<recursionLimit:=by have:=r.dp;omega
theorem Room.units (r:Room k A):A.units+64<cLine:=by have:=r.un;omega
def Jb:TA:=λ_ H Q=>Q [] H
def Ej (ta:TE)(tr:TA):TA:=λσ H Q=>ta σ H λx H1=>tr σ H1 λxs H2=>Q (x::xs) H2
section
variable {X:Cx}{e:Expr}{es:q_}{te:TE}{t:TA}{pos:Pos}
theorem Af1:PA X [] Jb:=λ_ _ _ _ H Q I h=>Calls.spliced_nil ⟨[],H,I,.nil,h⟩
theorem A7e (ha:PE X e te)(hr:PA X es t)(hs:starEach (e::es) X.env=(false,eval e X.env)::starEach es X.env:=by rfl):PA X (e::es) (Ej te t):=by
 intro d a s m H Q I h;rw[hs]
 refine Calls.spliced_cons (thn (ha _ s _ H _ I h) λu o ⟨x,n,f,g,i⟩=>?_)
 exact thn (hr _ _ _ _ _ _ f i) λp q ⟨c,k,j,l,b⟩=>⟨x::c,k,j,.cons g l,b⟩
def B4o (t:TA):TE:=λσ H Q=>t σ H λxs H1=>xs.length<=sizeLine/\∀p,H1 p=none->Q (.ref p) (upd H1 p (.tup xs))
def Bg3 (t:TA):TE:=λσ H Q=>t σ H λxs H1=>xs.length<=sizeLine/\∀p,H1 p=none->Q (.ref p) (upd H1 p (.lst xs))
theorem Ec (h:QA X es t):QE X (.Tuple es d pos) (B4o t):=by
 refine⟨?_⟩
 intro a s i H Q I g
 refine wpAny_Tuple_spliced (thn (h.1 _ _ s _ H _ I g) λf j ⟨k,l,c,r,z,q⟩=>⟨by rw[<- r.length];grind,?_⟩)
 refine⟨.ref _,upd _ _ _,c.laid (λb u e=>Heap.get?_push_of_some _ e) (ak _) ?_,rfl,q _ (c.hok.fresh (ak _))⟩
 exact⟨z,f,r,⟨_,Heap.get?_push_size _ rfl,rfl,⟨_,rfl⟩,rfl⟩⟩
theorem Ei (h:QA X es t):QE X (.List es pos) (Bg3 t):=by
 refine⟨?_⟩
 intro c s g H Q I d
 refine wpAny_List_spliced (thn (h.1 _ _ s _ H _ I d) λf i ⟨j,k,a,r,z,q⟩=>⟨by rw[<- r.length];grind,?_⟩)
 refine⟨.ref _,upd _ _ _,a.laid (λb u e=>Heap.get?_push_of_some _ e) (ak _) ?_,rfl,q _ (a.hok.fresh (ak _))⟩
 exact⟨z,f,0,r,Heap.get?_push_size _ rfl⟩
end
abbrev Sp:=l_->Hp->VK->XK->Prop
abbrev CXT:=List Env->Hp->o4->XK->Value->o4->Prop
structure Bs4 (P:p7) (w:World) (K:q9) (mg:x_) (base:Heap) (A:o6) (outer:List Env) (s:o4) (H:Hp):Prop where
 frames:A.frames=some outer
 mod:Mod K mg base
 bs:∀b o,base.get? b=some o->s.heap.get? b=some o/\H b=none
 bsz:base.objs.size<=s.heap.objs.size
 funs:s.heap.FunFrames base outer
 frf:∀b∈frs outer,H b=none
 tab:∀p∈Hi K,H p.1=some (.tbl p.2)
 hok:HOk P w H s.heap
 bare:AllBare s.gens
def CE (outer:List Env)(P:p7)(w:World)(H:Hp)(s:o4)(Q:VK)(u:Value)(s':o4):Prop :=
 ∃v H',s'.os=s.os/\AllBare s'.gens/\Un (frs outer) [] H H' s.heap s'.heap/\HOk P w H' s'.heap/\RelV v u/\Q v H'
def CR (CX:CXT)(outer:List Env)(P:p7)(w:World)(H:Hp)(s:o4)(Q:VK)(E:XK)(r:Result)(s':o4):Prop :=
 match r with
 | .ok (.ret u)=>CE outer P w H s Q u s'
 | .ok _=>False
 | .error e=>CX outer H s E e s'
structure FnOk (P:p7) (w:World) (K:q9) (mg:x_) (base:Heap) (CX:CXT) (k:Nat) (f:Addr) (fd:p6) (ps:v_) (sp:Sp):Prop where
 len:∀vs H Q E,sp vs H Q E->vs.length=ps.length
 run:∀(A:o6) (outer:List Env) (s:o4) (H:Hp) (args:Args) (us:v4) (vs:l_) (Q:VK) (E:XK),Room k A->Bs4 P w K mg base A outer s H->BindsTo s fd args (ps.zip us)->Vals vs us->sp vs H Q E ->
  codeAny (model P w) A (.call (.ref f) args) (CR CX outer P w H s Q E) s
theorem FnOk.imp {K:q9} (F:FnOk P w K mg base CX k f d ps sp)
 (h:∀b H Q E,a b H Q E->sp b H Q E):FnOk P w K mg base CX k f d ps a :=
 ⟨λb H Q E q=>F.len _ H Q E (h _ _ _ _ q),λA c s H e n b Q E j l i m g=>F.run A _ s H _ _ _ Q E j l i m (h _ _ _ _ g)⟩
section
variable {X:Cx}{pins:y_}{σ:St}{H:Hp}{s s':o4}
theorem Inv.env0 (I:Inv X pins σ H s):Bs4 X.prog X.w X.K X.mg X.base X.A X.stack s H :=
 ⟨I.ok.frames,I.ok.mod,I.bs,ao I.ok.bsz I.sz,I.stack,I.stkFree,λp a=>I.base.tbls _ _ (I.ok.tab p a),I.hok,I.bare⟩
theorem Inv.after (I:Inv X pins σ H s) (h:CE X.stack X.prog X.w H s Q u s'):EP X pins σ Q u s':=by
 obtain⟨v,j,i,a,f,c,r,q⟩:=h;obtain⟨hh,g,d,t,e⟩:=s';obtain rfl:e=s.os:=i
 exact⟨v,j,I.call f c a λb z=>absurd z (by simp),r,q⟩
end
def Ay5 (sp:Sp)(dvs:l_)(E:XK)(t:TA):TE:=λσ H Q=>t σ H λvs H1=>sp (vs++dvs) H1 Q E
def Binds (K:q9)(fd:p6)(ps:v_)(ds:v4):Prop :=
 ∀(s:o4) (us:v4),K.In s.heap->(us++ds).length=ps.length->BindsTo s fd ⟨us,[]⟩ (ps.zip (us++ds))
theorem Binds.all {K:q9} (h:∀a:v4,a.length=ps.length->bindArgs c ⟨a,[]⟩=pure (ps.zip a)):Binds K c ps []:=λs a _ b=>by
 rw[bw]at b ⊢;exact .of_eq (h _ b)
def Aa2 (CX:CXT)(X:Cx)(E:XK):Prop:=∀(pins:y_) (σ:St) (H:Hp) (s:o4) (e:Value) (s':o4),Inv X pins σ H s->CX X.stack H s E e s'->X.xe e s'
section
variable {X:Cx}{CX:CXT}{k:Nat}{f:Addr}{fd:p6}{ps:v_}{sp:Sp}{dvs:l_}{ds:v4}{E:XK}{x:Str}{p pos:Pos}{e:Expr}{es:q_}{t:TA}
theorem B4m (F:FnOk X.prog X.w X.K X.mg X.base CX k f fd ps sp) (hr:Room k X.A) (hb:Binds X.K fd ps ds) (hd:Vals dvs ds) (hx:Aa2 CX X E)
 (I:Inv X pins b H s) (r:Vals vs us) (h:sp (vs++dvs) H Q E):wpAny (model X.prog X.w) X.A (call (.ref f) us) (EP X pins b Q) X.xe s:=by
 have a := r.append hd
 have g:(us++ds).length=ps.length:=by rw[<- a.length];exact F.len _ _ _ _ h
 refine wpAny_call (codeAny_mono (F.run _ _ s H _ _ _ Q E hr I.env0 (hb s _ I.kIn g) a h) λr i c=>?_)
 cases r with
 | error e=>exact hx _ _ H s e _ I c
 | ok d =>
  cases d with
  | ret u=>exact I.after c
  | next=>assumption
  | brk=>assumption
  | cont=>trivial
theorem Bt1 (F:FnOk X.prog X.w X.K X.mg X.base CX k f fd ps sp)(hr:Room k X.A)(hg:Gl X x)(hm:X.mg x=some (.ref f))(hk:PySem.W.keepIn X.K (.ref f)=true)(hb:Binds X.K fd ps ds)(hd:Vals dvs ds)(hx:Aa2 CX X E)
 (ha:PA X (e::es) t) (hdb:(x==("__debug__" : Str))=false:=by decide) (he:starEach (e::es) X.env=(false,eval e X.env)::starEach es X.env:=by rfl) (hpl:(backTo pos (starEach es X.env)).any (·.1)=false:=by rfl) :
 PE X (.Call (.Name x p) (e::es) [] pos) (Ay5 sp dvs E t):=by
 intro b s c H Q I h
 refine wpAny_Call_Name_kw (A6q I hg hm ?_ hdb)
 refine PySem.W.callWith_K I.ok.mod.kin hk (thn (ha _ _ s _ H _ I h) λd g ⟨i,j,a,r,q⟩=>⟨a.kIn,?_⟩) he hpl
 exact B4m F hr hb hd hx a r q
end
structure Az (N P:v_) (sc:Scope):Prop where
 kind:sc.kind=.function:=by rfl
 co:sc.isCoroutine=false:=by rfl
 gen:sc.isGenerator=false:=by rfl
 nd:N.Nodup:=by decide +kernel
 pre:N.take P.length=P:=by rfl
 par:∀x∈P,sc.names.lookup x=some .local\/sc.names.lookup x=some .cell:=by decide +kernel
 nofree:∀y∈sc.names,y.2≠.free:=by decide +kernel
theorem An4 {kindOf:Str->Option NameKind}{x:Str}:∀{binds:List (Str×Value)}{m:x_},(∀v,(x,v)∉binds)->bindL kindOf binds m x=m x
 | [],_,_=>rfl
 | (n,v)::r,m,h=>by
  unfold bindL
  rw[An4 λw hw=>h w (aU _ hw)]
  split
  ·have:x≠n:=by rintro rfl;exact h v dq
   simp[this]
  ·rfl
theorem Aj3 {kindOf:Str->Option NameKind}{x:Str}:∀{binds:List (Str×Value)}{m:x_},(∀v,(x,v)∉binds)->bindC kindOf binds m x=m x
 | [],_,_=>rfl
 | (n,v)::r,m,h=>by
  unfold bindC
  rw[Aj3 λw hw=>h w (aU _ hw)]
  split
  ·rfl
  ·have:x≠n:=by rintro rfl;exact h v dq
   simp[this]
theorem Aj2 {kindOf:Str->Option NameKind}{x:Str}{v:Value}:∀{P:v_}{vs:v4}{i:Nat}{m:x_},P.Nodup->P[i]?=some x->vs[i]?=some v->kindOf x=some .local ->
 bindL kindOf (P.zip vs) m x=some v
 | [],_,_,_,_,h,_,_=>by simp at h
 | _::_,[],_,_,_,_,h,_=>by simp at h
 | p::P,w::vs,0,m,nd,h1,h2,hk=>by
  simp at h1 h2;subst h1;subst h2
  show bindL kindOf ((p,w)::P.zip vs) m p=_
  unfold bindL
  rw[An4 λv hv=>(eF.mp nd).1 (gB hv).1,if_pos hk]
  simp
 | p::P,w::vs,i+1,m,nd,h1,h2,hk=>by
  show bindL kindOf ((p,w)::P.zip vs) m x=_
  unfold bindL
  exact Aj2 (i:=i) (eF.mp nd).2 (by simpa using h1) (by simpa using h2) hk
theorem Al5 {kindOf:Str->Option NameKind}{x:Str}{v:Value}:∀{P:v_}{vs:v4}{i:Nat}{m:x_},P.Nodup->P[i]?=some x->vs[i]?=some v->kindOf x≠some .local ->
 bindC kindOf (P.zip vs) m x=some v
 | [],_,_,_,_,h,_,_=>by simp at h
 | _::_,[],_,_,_,_,h,_=>by simp at h
 | p::P,w::vs,0,m,nd,h1,h2,hk=>by
  simp at h1 h2;subst h1;subst h2
  show bindC kindOf ((p,w)::P.zip vs) m p=_
  unfold bindC
  rw[Aj3 λv hv=>(eF.mp nd).1 (gB hv).1,if_neg hk]
  simp
 | p::P,w::vs,i+1,m,nd,h1,h2,hk=>by
  show bindC kindOf ((p,w)::P.zip vs) m x=_
  unfold bindC
  exact Al5 (i:=i) (eF.mp nd).2 (by simpa using h1) (by simpa using h2) hk
noncomputable def start (N:v_) (vs:l_):St:=vs.map some++List.replicate (N.length-vs.length) none
noncomputable def Ag8 (CX:CXT) (P:p7) (w:World) (K:q9) (mg:x_) (base:Heap) (N:v_) (qual:Str) (scope:Scope) (f:Addr) (cd:Value) (A:o6) (outer:List Env) (s:o4) (H:Hp) (E:XK):Cx where
 prog:=P
 w:=w
 K:=K
 mg:=mg
 base:=base
 A:=A.deeper (envOfC qual scope s.heap.objs.size f cd)
 N:=N
 s₀:=s
 H₀:=H
 env:=envOfC qual scope s.heap.objs.size f cd
 outer:=outer
 stack:=envOfC qual scope s.heap.objs.size f cd::outer
 ex:=[]
 calm:=true
 fn:=λ_=>true
 pn:=[]
 xe:=λe s'=>wpAny (model P w) (A.deeper (envOfC qual scope s.heap.objs.size f cd)) (leaving (envOfC qual scope s.heap.objs.size f cd) e) (λ_ s''=>CX outer H s E e s'') (λe' s''=>CX outer H s E e' s'') s'
theorem A0c {a:Scope} (h:a.names.lookup x=some .cell):∃c,(cellsFrom n a.names []).lookup x=some c:=by
 exact Option.isSome_iff_exists.mp (PySem.W.cellsFrom_some _ n [] (.inl h))
theorem Ao3 {K:q9}
 (S:Az N ps scope) (hd:A.handled=none) (d:Bs4 P w K mg base A a s H) (hl:vs.length=ps.length) (r:Vals vs us)
 (x:InCallC s s.heap.objs.size (bindL (envOfC qual scope s.heap.objs.size f t).kindOf (ps.zip us) λ_=>none) (cellsFrom (s.heap.objs.size+1) scope.names []) (bindC (envOfC qual scope s.heap.objs.size f t).kindOf (ps.zip us) λ_=>none) s1) :
 Inv (Ag8 CX P w K mg base N qual scope f t A a s H E) [] (start N vs) H s1:=by
 have D:ps.length<=N.length:=by have:=bj List.length S.pre;rw[bK]at this;omega
 obtain⟨o,tk,rfl,B⟩:=x.done
 have g:∀b:Addr,b∉(Ag8 CX P w K mg base N qual scope f t A a s H E).ex:=λb z=>absurd (show b∈([]:u9) from z) (by simp)
 refine⟨⟨d.mod,S.kind,rfl,rfl,ak _,λy z c o n=>?_,λy j=>?_,λy c _ h=>?_,λ_=>hd,Around.frames_deeper d.frames,.inr ⟨rfl,rfl⟩,λb z=>absurd z (g b),d.bs,d.bsz,λb _ _=>g b,λb z=>absurd z (g b),d.funs,d.frf,d.tab⟩,
  rfl,d.bare,Un.kept B,⟨_,x.toInCall.ns,λi y v o n h3=>?_⟩,λy c h=>⟨_,x.cell y c h⟩,d.hok.fresh (ak _),λy c h=>?_,λp m=>absurd (show p∈([]:y_) from m) (by simp),d.hok.kept B,?_⟩
 ·exact name_of_addr x.apart (fH o) (fH n)
 ·have j:scope.names.lookup y=some .cell\/scope.names.lookup y=some .free:=j
  rcases j with j | j
  ·exact A0c j
  ·exact absurd rfl (S.nofree _ (fH j))
 ·exact cR (x.above y c (fH h))
 ·have hi:i<vs.length:=by
   unfold start at n
   grind
  have F:vs[i]?=some v:=by
   unfold start at n
   grind
  obtain⟨u,C,G⟩:=r.get F
  have m:ps[i]?=some y:=by
   rw[<- S.pre,List.getElem?_take_of_lt (by omega)];exact o
  have l:ps.Nodup:=by rw[<- S.pre];exact S.nd.sublist (gY _ _)
  refine⟨u,G,?_⟩
  rcases S.par y (eG m) with k | k
  ·exact .inl ⟨k,Aj2 l m C k⟩
  ·obtain⟨c,e⟩:=A0c k
   refine .inr ⟨.inl k,c,e,?_⟩
   have q:=x.cell y c e
   rw[Al5 l m C (by show scope.names.lookup y≠_;rw[k];decide)]at q
   exact q
 ·exact d.hok.fresh (cR (x.above y c (fH h)))
 ·unfold start
  show _=N.length
  simp_all
theorem B6b {K:q9}
 (lk:K.lookup f=some ⟨oc,od,.func (PySem.W.fnOf name qual d body scope U O z R M a W),F⟩) (hcd:PySem.W.codeIn K a qual=true) (S:Az N ps scope)
 (p:∀vs H Q E,sp vs H Q E->vs.length=ps.length)
 (i:∀(A:o6) (c:List Env) (s:o4) (H:Hp) (vs:l_) (Q:VK) (E:XK),Room k (A.deeper (envOfC qual scope s.heap.objs.size f a))->sp vs H Q E ->
  ∃t,PSs (Ag8 CX P w K mg base N qual scope f a A c s H E) body t/\t { nx:=λ_ H'=>Q .non H',rt:=Q } (start N vs) H) :
 FnOk P w K mg base CX (k+1) f (PySem.W.fnOf name qual d body scope U O z R M a W) ps sp:=by
 refine⟨p,λA c s H T X vs Q E C l hb r m=>?_⟩
 have hl:=p _ _ _ _ m
 have G := l.mod.kin.keeps λb o e=>(l.bs b o e).1
 have h:∀y∈ps.zip X,scope.names.lookup y.1=some .local\/(scope.names.lookup y.1=some _/\((cellsFrom (s.heap.objs.size+1) _ []).lookup y.1).isSome=true):=λ⟨n,v⟩ Y=>by
  rcases S.par n (gB Y).1 with q | q
  ·grind
  ·exact .inr ⟨q,PySem.W.cellsFrom_some _ _ _ (.inl q)⟩
 refine codeAny_call_function C.depth (G _ _ lk) rfl S.co S.gen rfl (PySem.W.codeRec_of G hcd) (hb _ _ _ _ ?_)
 refine wpAny_newFunctionEnv_cells S.kind h λZ he s1 x=>?_
 subst he
 refine⟨(l.mod.nolimit.keeps λb o e=>(l.bs b o e).1).keeps x.toInCall.keep,codeAny_func ?_⟩
 obtain⟨t,ht,hq⟩:=i A _ s H _ Q E (C.deeper _) m;have I:Inv (Ag8 CX P w K _ _ N qual _ f a A _ s H E) _ _ H _:=Ao3 S C.hd l hl r x
 refine wpAny_mono (ht _ _ _ H _ I hq) (λfl L j=>?_) λe L j=>j
 have B:∀{g:St} {H':Hp} {v:V} {u:Value},Inv (Ag8 CX P w K mg base N qual scope f a A c s H E) [] g _ L->RelV v u->Q v _->CE _ P w H s Q u _ :=
  λ{g H' v u} J D q=>⟨v,H',J.os,J.bare,J.base,J.hok,D,q⟩
 cases fl with
 | ret u =>
  obtain⟨v,g,H',J,D,q⟩:=j;exact B J D q
 | next =>
  obtain⟨g,H',J,q⟩:=j;exact B (v:=V.non) J rfl q
 | brk =>
  obtain⟨_,_,_,q⟩:=j
  trivial
 | cont =>
  obtain⟨_,_,_,q⟩:=j
  trivial
section
variable {X:Cx}{x:Str}{p pos:Pos}{e:Expr}{es:q_}{t:TA}{id T:String}{r:l_->Hp->VK->Prop}
def tCB (r:l_->Hp->VK->Prop)(t:TA):TE:=λσ H Q=>t σ H λvs H1=>r vs H1 Q
theorem Bh9 (hc:CallR X (.builtin id) r)(hg:Gl X x)(hm:X.mg x=none)(hv:bootBuiltins x=some (.builtin id))(ha:PA X (e::es) t)(hn:x ≠ "__name__" := by decide) (hdb:(x==("__debug__" : Str))=false:=by decide)
 (he:starEach (e::es) X.env=(false,eval e X.env)::starEach es X.env:=by rfl) (hpl:(backTo pos (starEach es X.env)).any (·.1)=false:=by rfl):PE X (.Call (.Name x p) (e::es) [] pos) (tCB r t):=by
 intro a s f H Q I h
 refine wpAny_Call_Name_kw (M6 I hg hm hv ?_ hn hdb)
 exact PyProof.Rows.callWith_builtin1 (thn (ha _ _ s _ H _ I h) λj k ⟨g,i,d,c,b⟩=>hc _ _ _ _ _ _ Q d c b) he hpl
theorem Ak4 (hc:CallR X (.type T) r)(hg:Gl X x)(hm:X.mg x=none)(hv:bootBuiltins x=some (.type T))(ha:PA X (e::es) t)(hn:x ≠ "__name__" := by decide) (hdb:(x==("__debug__" : Str))=false:=by decide)
 (he:starEach (e::es) X.env=(false,eval e X.env)::starEach es X.env:=by rfl) (hpl:(backTo pos (starEach es X.env)).any (·.1)=false:=by rfl):PE X (.Call (.Name x p) (e::es) [] pos) (tCB r t):=by
 intro a s f H Q I h
 refine wpAny_Call_Name_kw (M6 I hg hm hv ?_ hn hdb)
 exact eE (thn (ha _ _ s _ H _ I h) λj k ⟨g,i,d,c,b⟩=>hc _ _ _ _ _ _ Q d c b) he hpl
end
end L2
namespace HT
open PySem PyProof.Rows
section
variable {prog:p7}{w:World}{A:o6}{E:z_}{s:o4}
theorem Bq5 (ht:IsTup s.heap t vs.toArray) (hb:IsTup s.heap b c.toArray) (hv:vs≠[])
 (h1:c=[]->Q (.ref t) s) (h2:c≠[]->Q (.ref s.heap.objs.size) { s with heap:=s.heap.push { cls:=.type "tuple",data:=.seq (vs++c).toArray } })
 (hsz:vs.length+c.length<=sizeLine):wpAny (model prog w) A (binaryOp .Add (.ref t) (.ref b)) Q E s:=by
 obtain⟨⟨g,q,d,p⟩,e,o,n,l⟩:=id ht;obtain⟨⟨j,k,i,m⟩,a,h,r,f⟩:=id hb;subst o l h f
 by_cases hw:c=[]
 ·exact concat_meets ⟨_,e,rfl⟩ ⟨_,a,rfl⟩ noFill_tuple_add seq_tuple_add gZ g_ (h_ _ _)
   (tuple_addW1 t b _ _ n _ _ _ _ _ (by simp_all) (by grind)) ⟨e,a,h1 hw⟩
 ·refine concat_meets ⟨_,e,rfl⟩ ⟨_,a,rfl⟩ noFill_tuple_add seq_tuple_add gZ g_ (h_ _ _)
   (tuple_addW2 t b _ _ n _ _ _ _ _ (by grind) (by simp_all) (by simp_all)) ⟨e,a,?_⟩
  grind
noncomputable def sIx (n d:Nat):o7->Nat
 | none=>d
 | some v=>if v<0 then (v+(n:Int)).toNat else min v.toNat n
theorem A1k (n d:Nat):sIx n d none=d:=rfl
theorem Zg (n d k:Nat):sIx n d (some (k:Int))=min k n:=by
 show (if k<0 then ((k:Int)+n).toNat else min _ n)=min k n
 grind
theorem B2d (n d:Nat)(hd:d<=n)(o:o7):sIx n d o<=n:=by
 cases o with
 | none=>exact hd
 | some v =>
  show (if v<0 then (v+n).toNat else min _ n)<=n
  grind
theorem A6a (v:Int)(n d:Nat):(if v<0 then max (v+(n:Int)) 0 else min v (n:Int))=((sIx n d (some v):Nat):Int):=by
 show (if v<0 then max _ 0 else min v _)=(((if v<0 then (v+n).toNat else min _ n):Nat):Int)
 grind
theorem A4q (lo hi:o7)(n:Nat):Builtin.Slice.sliceAdjust lo hi 1 (n:Int)=(((sIx n 0 lo:Nat):Int),((sIx n n hi:Nat):Int)):=by
 refine Prod.ext ?_ ?_
 ·cases lo with
  | none=>rfl
  | some v=>exact A6a v n 0
 ·cases hi with
  | none=>rfl
  | some v=>exact A6a v n n
theorem A2y (i j:Nat):Builtin.Slice.slicePlaces (i:Int) (j:Int) 1=j-i:=by
 unfold Builtin.Slice.slicePlaces
 have h1:(1:Int)>0:=by omega
 simp only[h1,aY,Int.ediv_one]
 split <;> omega
theorem Ab2 (p:IsPart v o) (h:Q o s):wpAny (model prog w) A (Builtin.Slice.slicePartIndex v) Q E s:=by
 cases p with
 | none=>exact slicePart_none h
 | int i t=>exact slicePart_int h
theorem Ox {lo hi:o7}{n:Nat} (hs:s.heap.IsSliceOf e d c .none) (pl:IsPart d lo) (g:IsPart c hi)
 (h:Q (((sIx n 0 lo:Nat):Int),1,sIx n n hi-sIx n 0 lo) s):wpAny (model prog w) A (Builtin.Slice.sliceApplied (.ref e) (pure (n:Int))) Q E s:=by
 obtain⟨i,a,f,b⟩:=id hs
 refine wpAny_bind (wpAny_bind (wpAny_field a b (x:=d) rfl (wpAny_bind (wpAny_field a b (x:=c) rfl (wpAny_bind (wpAny_field a b rfl (wpAny_pure ?_)))))))
 refine wpAny_bind (slicePart_none ?_)
 refine wpAny_bind (Ab2 pl (wpAny_bind (Ab2 g (wpAny_bind (wpAny_pure ?_)))))
 show wpAny _ _ (match Builtin.Slice.sliceAdjust _ _ 1 _ with | (lo,hi)=>pure (lo,(1:Int),Builtin.Slice.slicePlaces lo hi 1)) _ _ s
 rw[A4q _ _ n]
 show wpAny _ _ (pure _) _ _ s
 rw[A2y];exact wpAny_pure h
theorem Bm4 (xs:u_)(i k:Nat):((List.range k).filterMap λ(m:Nat)=>xs[((i:Int)+(m:Int)*1).toNat]?).toArray=((xs.toList.drop i).take k).toArray:=by
 have e:(λ(m:Nat)=>xs[((i:Int)+m*1).toNat]?)=λm=>xs[i+m]?:=by
  funext m
  have:((i:Int)+m*1).toNat=i+m:=by omega
  rw[this]
 rw[e];have:=pick_run xs i k;rw[List.filterMap_map]at this
 have a:((λx=>xs[x]?) ∘ λx=>i+x)=λm=>xs[i+m]?:=rfl
 rw[a]at this;rw[this]
theorem Vo {lo hi:o7} (ht:IsTup s.heap t items) (hs:s.heap.IsSliceOf sl vl vu .none) (pl:IsPart vl lo) (pu:IsPart vu hi)
 (hw:¬ (sIx items.size 0 lo=0/\sIx items.size items.size hi=items.size))
 (h:Q (.ref s.heap.objs.size) { s with heap:=s.heap.push { cls:=.type "tuple",data:=.seq ((items.toList.drop (sIx items.size 0 lo)).take (sIx items.size items.size hi-sIx items.size 0 lo)).toArray } })
 (hsz:items.size<=sizeLine):wpAny (model prog w) A (getItem (.ref t) (.ref sl)) Q E s:=by
 have htake:sizeOk (.seq ((items.toList.drop (sIx items.size 0 lo)).take (sIx items.size items.size hi-sIx items.size 0 lo)).toArray):=by
  show ((items.toList.drop (sIx items.size 0 lo)).take (sIx items.size items.size hi-sIx items.size 0 lo)).toArray.size<=sizeLine
  rw[bJ,bK,bV,eN];omega
 have hj:sIx items.size items.size hi<=items.size:=B2d _ _ (ak _) hi;obtain⟨os,hos,hcs,hds⟩:=id hs;have hTs:s.TypeIs (.ref sl) "slice" := ⟨os,hos,hcs⟩;unfold getItem
 try with_reducible refine wpAny_holding ?_
 first | refine wpAny_bind (wpAny_pure ?_) | skip
 refine wpAny_bind (wpAny_sequenceKey ht.typeIs (by decide) ?_)
 refine wpAny_bind (wpAny_callSpecial?_slot (name:="__getitem__") ht.typeIs fJ
  (wpAny_call_entry fJ ht.typeIs entry_tuple_getitem ?_ (args_tuple_getitem _ _)))
 show wpAny _ _ (Builtin.Tuple.tupleItemsOf (.ref t) >>= _) _ _ s
 refine wpAny_bind (tupleItemsOf_ ht ?_)
 refine wpAny_bind (wpAny_typeOf hTs ?_)
 rw[if_pos (by decide)]
 refine wpAny_bind (Ox hs pl pu ?_)
 have hno:¬ ((((sIx items.size 0 lo:Nat):Int)==0&&(1:Int)==1&&(sIx items.size items.size hi-sIx items.size 0 lo)==items.size)=true):=by
  intro q;rw[fj,fj]at q;have q1:((sIx items.size 0 lo:Nat):Int)=0:=eO q.1.1;have q2:sIx items.size items.size hi-sIx items.size 0 lo=items.size:=eO q.2
  exact hw ⟨by omega,by omega⟩
 show wpAny _ _ (if (((sIx items.size 0 lo:Nat):Int)==0&&(1:Int)==1&&(sIx items.size items.size hi-sIx items.size 0 lo)==items.size)=true then _ else _) _ _ s
 rw[if_neg hno,Bm4]
 first
  | exact wpAny_bind (m:=Builtin.Tuple.tupleExact _) (wpAny_newObj_type (wpAny_pure ⟨_,rfl,wpAny_pure h⟩) htake)
  | exact wpAny_bind (m:=Builtin.Tuple.tupleExact _) (wpAny_newObj_type (wpAny_bind (wpAny_pure (wpAny_pure ⟨_,rfl,wpAny_pure h⟩))) htake)
  | exact wpAny_bind (wpAny_bind (m:=Builtin.Tuple.tupleExact _) (wpAny_newObj_type (wpAny_pure (wpAny_pure ⟨_,rfl,wpAny_pure h⟩)) htake))
  | exact wpAny_bind (wpAny_bind (m:=Builtin.Tuple.tupleExact _) (wpAny_newObj_type (wpAny_pure ⟨_,rfl,wpAny_pure h⟩) htake))
end
end HT
namespace L2
open PySem PySem.Spec PyProof.Rows
abbrev TO:=St->Hp->(o7->Hp->Prop)->Prop
def PO (X:Cx)(e:Option Expr)(t:TO):Prop :=
 ∀
  (pins:y_) (s:o4) (σ:St) (H:Hp) (Q:o7->Hp->Prop),Inv X pins σ H s->t σ H Q ->
  wpAny (model X.prog X.w) X.A (evalPart e X.env) (λu s'=>∃o H',Inv X pins σ H' s'/\IsPart u o/\Q o H') X.xe s
structure QO (X:Cx) (e:(Option Expr)) (t:TO):Prop where
 get:PO X e t
noncomputable def A6u:TO:=λ_ H Q=>Q none H
noncomputable def B1m (t:TE):TO:=λσ H Q=>t σ H λx H1=>∃i,x=.int i/\Q (some i) H1
section
variable {X:Cx}{e:Expr}{te:TE}{lo hi:Option Expr}{tl th:TO}{pos p2:Pos}
theorem Hk:QO X none A6u:=by
 refine⟨?_⟩
 intro a s b H Q I h;exact wpAny_pure ⟨none,H,I,.none,h⟩
theorem Cw (h:QE X e te):QO X (some e) (B1m te):=by
 refine⟨?_⟩
 intro a s σ H Q I d
 refine thn (h.1 _ s _ H _ I d) λu s1 ⟨x,f,b,c,g⟩=>?_
 obtain⟨i,rfl,q⟩:=g;obtain⟨t,rfl⟩:=c;exact⟨some i,f,b,.int i t,q⟩
def SlR (X:Cx)(r:V->o7->o7->Hp->VK->Prop):Prop :=
 ∀
  (pins:y_) (s:o4) (σ:St) (H:Hp) (x:V) (v vl vu:Value) (lo hi:o7) (sl:Addr) (Q:VK),Inv X pins σ H s->RelV x v->s.heap.IsSliceOf sl vl vu .none->IsPart vl lo->IsPart vu hi->r x lo hi H Q ->
  ∃T id,typeLookup (.type T) "__getitem__" = pure (some (.builtin id))/\s.TypeIs v T/\wpAny (model X.prog X.w) X.A (getItem v (.ref sl)) (EP X pins σ Q) X.xe s
theorem SlR.or (h:SlR X r) (h':SlR X b):SlR X (λx lo hi H Q=>r x lo hi H Q\/b x lo hi H Q):=by
 intro d s g H x v i j lo hi k Q I e c f a q
 rcases q with q | q
 ·exact h _ s _ H x v _ _ _ _ _ Q I e c f a q
 ·exact h' _ s _ H x v _ _ _ _ _ Q I e c f a q
def tSl (r:V->o7->o7->Hp->VK->Prop)(te:TE)(tl th:TO):TE:=λσ H Q=>te σ H λx H1=>tl σ H1 λl H2=>th σ H2 λu H3=>r x l u H3 Q
theorem Bn4 (hr:SlR X r) (he:QE X e te) (hl:QO X lo tl) (hu:QO X hi th):QE X (.Subscript e (.Slice lo hi none p2) pos) (tSl r te tl th):=by
 refine⟨?_⟩
 intro c s E H Q I h
 refine Subscript_ (thn (he.1 _ s _ H _ I h) λv B ⟨x,D,i,j,k⟩=>?_)
 refine wpAny_Slice (thn (hl.1 _ _ _ _ _ i k) λm C ⟨l,K,n,o,f⟩=>thn (hu.1 _ _ _ _ _ n f) λg a ⟨u,J,t,w,p⟩=>?_)
 refine wpAny_pure ?_
 have z:Inv X _ _ _ { a with heap:=a.heap.push { cls:=.type "slice",data:=.fields #[m,g,.none] } }:=t.kept λb F q=>Heap.get?_push_of_some _ q
 obtain⟨T,G,y,A,d⟩:=hr _ _ _ _ x v _ _ l u _ Q z j (Heap.IsSliceOf.new ..) o w p
 exact tail_any A y d (by trivial)
def A7o (xs:l_)(lo hi:o7):l_:=(xs.drop (HT.sIx xs.length 0 lo)).take (HT.sIx xs.length xs.length hi-HT.sIx xs.length 0 lo)
theorem Xx (xs:l_)(lo hi:o7):(A7o xs lo hi).length<=xs.length:=by
 unfold A7o;rw[bK,bV];omega
def B5m (K:q9):V->o7->o7->Hp->VK->Prop:=λx lo hi H Q=>∃a xs,x=.ref a/\SqT K H a xs /\
 ¬ (HT.sIx xs.length 0 lo=0/\HT.sIx xs.length xs.length hi=xs.length)/\∀p,H p=none->Q (.ref p) (upd H p (.tup (A7o xs lo hi)))
theorem B2n:SlR X (B5m X.K):=by
 intro e s σ H x v vl vu lo hi sl Q I j k g l h;obtain⟨a,i,rfl,m,hw,q⟩:=h
 cases j
 obtain⟨d,r,f,n⟩:=I.tuple m
 have c:d.toArray.size=i.length:=by exact r.length.symm
 refine⟨"tuple",_,fJ.lookup,f.typeIs,?_⟩
 refine HT.Vo f k g l (by grind) ?_ (by simp_all)
 rw[c]
 refine⟨.ref _,_,I.laid (λb ob q=>Heap.get?_push_of_some _ q) (ak _) ?_,rfl,q _ (I.hok.fresh (ak _))⟩
 exact⟨ao (Xx _ _ _) n,_,(r.drop _).take _,yD.new _ _⟩
def B5x (K:q9):R2:=λx y H Q=>∃a b xs ys,x=.ref a/\y=.ref b/\SqT K H a xs/\SqT K H b ys/\xs≠[]/\xs.length+ys.length<=sizeLine /\
 (ys=[]->Q (.ref a) H)/\(ys≠[]->∀p,H p=none->Q (.ref p) (upd H p (.tup (xs++ys))))
theorem Vals.nil_iff (r:Vals xs us):us=[]↔xs=[]:=by
 cases r with
 | nil=>simp
 | cons _ _=>simp
theorem Bq9:OpR X (binaryOp .Add) (B5x X.K):=by
 intro e s σ H x y v u Q I o p h;obtain⟨a,b,xs,ys,rfl,rfl,k,l,g,hz,m,j⟩:=h
 cases o
 cases p
 obtain⟨i,d,n,_⟩:=I.tuple k;obtain⟨f,c,r,_⟩:=I.tuple l
 refine HT.Bq5 n r (λz=>g (d.nil_iff.mp z)) (λz=>⟨.ref a,H,I,rfl,m (c.nil_iff.mp z)⟩) (λz=>?_) (by rw[<- d.length,<- c.length];grind)
 refine⟨.ref _,_,I.laid (λb ob q=>Heap.get?_push_of_some _ q) (ak _) ?_,rfl,j (λw=>z (c.nil_iff.mpr w)) _ (I.hok.fresh (ak _))⟩
 exact⟨by simp_all,_,d.append c,yD.new _ _⟩
end
noncomputable def ixN (n:Nat) (i:Int):Option Nat:=if 0<=i then (if i<n then some i.toNat else none) else if -(n:Int)<=i then some (i+n).toNat else none
def atI {α:Type}(xs:List α)(i:Int):Option α:=(ixN xs.length i).bind λj=>xs[j]?
theorem As6 (h:ixN n i=some j):seqIndex? i n=some j/\j<n/\-(n:Int)<=i/\i<n:=by
 unfold ixN at h
 by_cases h0:0<=i
 ·rw[if_pos h0]at h
  by_cases h1:i<n
  ·rw[if_pos h1]at h
   have e := cG h
   exact⟨by rw[seqIndex_of h0 h1,e],by omega,by omega,h1⟩
  simp_all
 ·rw[if_neg h0]at h
  by_cases h1:-n<=i
  ·rw[if_pos h1]at h
   have e := cG h
   exact⟨by rw[seqIndex_neg (by omega) h1,e],by omega,h1,by omega⟩
  simp_all
theorem Aq7 {xs:List a} {v:a}(h:atI xs i=some v):∃j,seqIndex? i xs.length=some j/\xs[j]?=some v/\j<xs.length/\-(xs.length:Int)<=i/\i<xs.length:=by
 unfold atI at h
 cases e:ixN xs.length i with
 | none=>simp_all
 | some j =>
  obtain⟨c,d,f,b⟩:=As6 e
  grind
theorem Pb {xs:List a}{j:Nat}{v:a}(h:xs[j]?=some v):atI xs (j:Int)=some v:=by
 have b := (bB.mp h).1
 have e:ixN xs.length j=some j:=by
  unfold ixN
  simp_all
 unfold atI;grind
theorem A1d {α:Type}(xs:List α)(v:α):atI (xs++[v]) (-1)=some v:=by
 have hl:(xs++[v]).length=xs.length+1:=by simp
 have e:ixN (xs++[v]).length (-1)=some xs.length:=by
  unfold ixN
  rw[hl,if_neg (by decide),if_pos (by omega)]
  congr 1
  omega
 unfold atI;rw[e]
 show (xs++[v])[xs.length]?=some v
 simp
def Nx (b:Expr):Prop:=∀o i,subscripted b false o i=operate [o,i] (getItem o i)
def IxR (X:Cx)(r:R2):Prop :=
 ∀
  (value slice:Expr) (pins:y_) (s:o4) (σ:St) (H:Hp) (x y:V) (v u:Value) (Q:VK),Inv X pins σ H s->RelV x v->RelV y u->r x y H Q ->
  subscripted slice false v u=operate [v,u] (getItem v u)->wpAny (model X.prog X.w) X.A (subscriptTail value slice v u) (EP X pins σ Q) X.xe s
def MtR (X:Cx)(id:String)(r:V->l_->Hp->VK->Prop):Prop :=
 ∀
  (pins:y_) (s:o4) (σ:St) (H:Hp) (x:V) (xs:l_) (v:Value) (us:v4) (Q:VK),Inv X pins σ H s->RelV x v->Vals xs us->r x xs H Q ->
  wpAny (model X.prog X.w) X.A (call (.builtin id) (v::us)) (EP X pins σ Q) X.xe s
section
variable {X:Cx}{a b:Expr}{ta tb:TE}{pos:Pos}
theorem IxR.or (h:IxR X r) (h':IxR X d):IxR X (λx y H Q=>r x y H Q\/d x y H Q):=by
 intro b a e s i H x y v u Q I f g q c
 rcases q with q | q
 ·exact h _ _ _ s _ H x y v u Q I f g q c
 ·exact h' _ _ _ s _ H x y v u Q I f g q c
theorem B0z (hr:IxR X r) (ha:PE X a ta) (hb:PE X b tb) (hs:Nx b):PE X (.Subscript a b pos) (tOp r ta tb):=by
 intro c s g H Q I h
 exact Subscript_ (B3g ha hb I h λv u i x y j f e d q=>hr a b _ _ _ _ x y v u Q f e d q (hs _ _))
def B3d (K:q9):R2:=λx y H Q=>∃p xs i v,x=.ref p/\y=.int i/\SqL K H p xs/\atI xs i=some v/\Q v H
def B4d (K:q9):R2:=λx y H Q=>∃p xs i v,x=.ref p/\y=.int i/\SqT K H p xs/\atI xs i=some v/\Q v H
def B5h:R2:=λx y H Q=>∃z i c,x=.str z/\y=.int i/\z.length<=sizeLine/\atI z.cps.toList i=some c/\Q (.str ⟨#[c]⟩) H
theorem ix_list:IxR X (B3d X.K):=by
 intro g f a s m H x y v u Q I C F h l;obtain⟨p,xs,i,z,rfl,rfl,E,n,q⟩:=h
 cases C
 obtain⟨t,rfl⟩:=F;obtain⟨e,r,c,hz⟩:=I.list E;obtain⟨j,k,D,h3,o,B⟩:=Aq7 n;obtain⟨w,ew,d⟩:=r.get D;have hl:=r.length;have hn:=Ab3;have b:EP X a m Q w s:=⟨z,H,I,d,q⟩
 by_cases h0:0<=i
 ·have A:i.toNat=j:=by
   rw[seqIndex_of h0 B]at k
   simp_all
  exact item_listR c.isList h0 (by omega) (by grind) b l
 ·have A:(i+e.toArray.size).toNat=j:=by
   rw[seqIndex_neg (by omega) o]at k
   simp_all
  exact subscriptTail_builtinR c.isList.typeIs slot_list_getitem.lookup
   (wpAny_getItem_list_neg c.isList (by omega) (by simp_all) (by omega) (by grind) ⟨rfl,b⟩) l
theorem ix_tup:IxR X (B4d X.K):=by
 intro b c e s σ H x y v u Q I A g h o;obtain⟨p,xs,i,z,rfl,rfl,m,n,q⟩:=h
 cases A
 obtain⟨t,rfl⟩:=g;obtain⟨k,r,f,hz⟩:=I.tuple m;obtain⟨j,h1,l,h3,h4,h5⟩:=Aq7 n;obtain⟨w,ew,d⟩:=r.get l;have hl:=r.length;have hn:=Ab3;have a:EP X _ _ Q w s:=⟨z,H,I,d,q⟩
 exact subscriptTail_builtinR f.typeIs slot_tuple_getitem.lookup
  (getItem_tuple (j:=j) f (by omega) (by omega) (by simp_all) (by grind) ⟨rfl,a⟩) o
theorem Bm0:IxR X B5h:=by
 intro a b d s σ H x y v u Q I f m h g;obtain⟨z,i,c,rfl,rfl,hz,l,q⟩:=h;obtain⟨t,rfl⟩:=f;obtain⟨t',rfl⟩:=m;obtain⟨j,e,k,h3,o,n⟩:=Aq7 l
 have p:z.cps.toList.length=z.length:=by simp[Str.length]
 rw[p]at e o n;have hn:=Ab3
 exact tail_any (typeIs_str s z t) slot_str_getitem.lookup (getItem_str (by
  grind) (by rw[e];simpa using k) ⟨.str _,H,I.tok _,⟨_,rfl⟩,q⟩) g
def rIx (K:q9):R2:=λx y H Q=>B3d K x y H Q\/B4d K x y H Q\/B5h x y H Q
theorem B2t:IxR X (rIx X.K):=ix_list.or (ix_tup.or Bm0)
theorem A3e (a:v4)(n j:Nat)(u:Value):Obj.mapSeq (·.setIfInBounds j u) { cls:=.type "list",data:=.seq a.toArray n }={ cls:=.type "list",data:=.seq (a.set j u).toArray n }:=by
 simp[Obj.mapSeq]
theorem Inv.lst {b:St} (I:Inv X pins b H s) (h:H p=some (.lst xs)) :
 ∃(a:v4) (n:Nat),Vals xs a/\s.heap.get? p=some { cls:=.type "list",data:=.seq a.toArray n }/\xs.length<=sizeLine:=by
 obtain⟨z,a,n,r,e⟩:=I.hok p _ h
 grind
theorem Inv.lstUpd {a its':v4} (I:Inv X pins c H s) (h:H p=some (.lst xs))
 (ho:s.heap.get? p=some { cls:=.type "list",data:=.seq a.toArray n }) (hf:f { cls:=.type "list",data:=.seq a.toArray n }={ cls:=.type "list",data:=.seq its'.toArray n' }) (r:Vals ys its') (hz:ys.length<=sizeLine) (t:Nat) :
 Inv X pins c (upd H p (.lst ys)) { s with heap:=s.heap.update p f,toks:=t }:=by
 have e:(s.heap.update p f).get? p=some { cls:=.type "list",data:=.seq its'.toArray n' }:=by
  rw[Heap.get?_update_self f ho (by rw[hf] <;> rfl),hf]
 refine I.write (by rw[h];trivial) (.inl rfl) (λb u d q=>(Heap.get?_update_other _ _ (aL d)).trans q) ⟨_,e⟩ ?_
 exact⟨hz,its',n',r,e⟩
def Bz8:V->V->V->Hp->(Hp->Prop)->Prop:=λo i v H Q=>∃p xs k j,o=.ref p/\i=.int k/\H p=some (.lst xs)/\ixN xs.length k=some j/\Q (upd H p (.lst (xs.set j v)))
theorem set_list:B5j X Bz8:=by
 intro a s w H o i v ov iv u Q I y m g h;obtain⟨p,l,k,j,rfl,rfl,d,x,q⟩:=h
 cases y
 obtain⟨t,rfl⟩:=m;obtain⟨b,n,r,c,hz⟩:=I.lst d;obtain⟨e,h2,z,A⟩:=As6 x;have hl:=r.length;have hn:=Ab3
 have I':Inv X a w (upd H p (.lst (l.set j v))) { s with heap:=s.heap.update p (Obj.mapSeq (·.setIfInBounds j u)) } :=
  I.lstUpd d c (A3e _ n j u) (r.set g j) (by grind) _
 by_cases h0:0<=k
 ·have f:k.toNat=j:=by
   rw[seqIndex_of h0 A]at e
   grind
  exact PySem.W.ki_setAt c h0 (by omega) (by grind) (by grind)
 ·have f:(k+b.toArray.size).toNat=j:=by
   rw[seqIndex_neg (by omega) z]at e
   simp_all
  exact PySem.W.ki_setBack c (by omega) (by simp_all) (by omega) (by grind)
theorem Av0 (lo hi:o7)(n:Nat):(sliceBounds lo hi none n).1=((HT.sIx n 0 lo:Nat):Int)/\(sliceBounds lo hi none n).2.1=((HT.sIx n n hi:Nat):Int)/\(sliceBounds lo hi none n).2.2=1:=by
 refine⟨?_,?_,rfl⟩
 ·cases lo with
  | none=>simp[sliceBounds,HT.sIx]
  | some i =>
   simp only[sliceBounds,HT.sIx,Option.getD_none,show (1:Int)>0 by decide,aY]
   by_cases h:i<0
   ·simp only[h,aY] <;> omega
   ·simp only[h,aW] <;> omega
 ·cases hi with
  | none=>simp[sliceBounds,HT.sIx]
  | some i =>
   simp only[sliceBounds,HT.sIx,Option.getD_none,show (1:Int)>0 by decide,aY]
   by_cases h:i<0
   ·simp only[h,aY] <;> omega
   ·simp only[h,aW] <;> omega
theorem Ai8 (a:v4)(lo hi:o7):slicePick a.toArray lo hi none=((a.drop (HT.sIx a.length 0 lo)).take (HT.sIx a.length a.length hi-HT.sIx a.length 0 lo)).toArray:=by
 obtain⟨c,d,b⟩:=Av0 _ _ _;unfold slicePick;rw[c,d,b]
 simp only[sliceRange_one,pick_run] <;> rfl
def B5u (K:q9):V->o7->o7->Hp->VK->Prop:=λx lo hi H Q=>∃a xs,x=.ref a/\SqL K H a xs/\∀p,H p=none->Q (.ref p) (upd H p (.lst (A7o xs lo hi)))
theorem By0:SlR X (B5u X.K):=by
 intro e s σ H x v vl vu lo hi sl Q I i j f k h;obtain⟨a,xs,rfl,g,q⟩:=h
 cases i
 obtain⟨l,r,d,m⟩:=I.list g;have c:=r.length
 refine⟨"list",_,slot_list_getitem.lookup,d.isList.typeIs,?_⟩
 refine wpAny_getItem_list_slice d.isList j f k .none (by simp) ?_ (by simp_all)
 rw[Ai8,<- c]
 refine⟨.ref _,_,I.laid (λb ob q=>Heap.get?_push_of_some _ q) (ak _) ?_,rfl,q _ (I.hok.fresh (ak _))⟩
 exact⟨ao (Xx _ _ _) m,_,0,(r.drop _).take _,Heap.get?_push_size _ rfl⟩
theorem CallR.or {r b:l_->Hp->VK->Prop}(h:CallR X f r) (h':CallR X f b):CallR X f (λxs H Q=>r xs H Q\/b xs H Q):=by
 intro c s d H xs e Q I a q
 rcases q with q | q
 ·exact h _ s _ H _ _ Q I a q
 ·exact h' _ s _ H _ _ Q I a q
theorem Av9:CallR X (.type "list") (λxs H Q=>∃p k,xs=[.ref p]/\(SqL X.K H p k\/SqT X.K H p k)/\∀l,H l=none->Q (.ref l) (upd H l (.lst k))):=by
 intro z s σ H xs us Q I r h;obtain⟨p,k,rfl,f,q⟩:=h;obtain⟨u,rfl,A⟩:=vals1 r
 cases A
 have g:∀(a:List _),Vals _ _->k.length<=sizeLine->∀(d:Heap) (t:Nat),(∀b o',s.heap.get? b=some _->d.get? b=some _) ->
  d.get? _=some _->EP X _ _ Q _ { s with heap:=d }:=λa c j d t i e =>
  ⟨.ref _,_,I.laid i (ak _) (show zJ _ _ _ _ _ (.lst _) from ⟨j,a,t,c,e⟩),rfl,q _ (I.hok.fresh (ak _))⟩
 rcases f with f | f
 ·obtain⟨a,c,y,j⟩:=I.list f
  have m:=c.length;obtain⟨o,w,x,n,v⟩:=y.isList
  exact call_list_seq p (.inl rfl) w x v (λd t i e=>g _ c j _ _ i e) (by simp_all)
 ·obtain⟨a,c,y,j⟩:=I.tuple f
  have m:=c.length;obtain⟨o,w,x,n,v⟩:=y
  exact call_list_seq p (.inr rfl) w x v (λd t i e=>g _ c j _ _ i e) (by simp_all)
theorem Ai6:CallR X (.type "tuple") (λxs H Q=>∃p c,xs=[.ref p]/\((SqL X.K H p c/\∀l,H l=none->Q (.ref l) (upd H l (.tup c)))\/(SqT X.K H p c/\Q (.ref p) H))):=by
 intro i s σ H xs us Q I r h;obtain⟨p,c,rfl,h⟩:=h;obtain⟨u,rfl,w⟩:=vals1 r
 cases w
 rcases h with ⟨d,q⟩ | ⟨d,q⟩
 ·obtain⟨a,g,f,m⟩:=I.list d
  have k:=g.length
  refine call_tuple_list f.isList (λj v=>?_) (by simp_all)
  have n:Inv X _ _ H { s with heap:=j }:=I.kept v
  have t:Inv X _ _ (upd H _ (.tup _)) { s with heap:=j.push _ } :=
   n.laid (λb o e=>Heap.get?_push_of_some _ e) (ak _) (show zJ _ _ _ _ _ _ from ⟨m,a,g,yD.new _ _⟩)
  exact⟨.ref _,_,t,rfl,q _ (n.hok.fresh (ak _))⟩
 ·obtain⟨a,g,f,m⟩:=I.tuple d
  exact call_tuple_same f ⟨.ref p,H,I,rfl,q⟩
def tyV (K:q9)(T:String)(x:V)(H:Hp):Prop:=match x with
 | .str _=>T = "str"
 | .int _=>T = "int"
 | .ref p=>(T = "list" /\ ∃xs,SqL K H p xs)\/(T = "tuple" /\ ∃o,K.lookup p=some o/\o.cls=.type "tuple" /\ o.dict=none) \/
  (T = "dict" /\ ((∃kvs,H p=some (.dK kvs))\/∃kvs,H p=some (.dT kvs)))\/(T = "set" /\ ∃S n,H p=some (.set S n))\/(T = "tuple" /\ ∃xs,H p=some (.tup xs))
 | _=>False
theorem Bl1 (I:Inv X pins l H s) (r:RelV x v) (ty:tyV X.K T x H) :
 s.TypeIs v T/\∀a,v=.ref a->∃ob,s.heap.get? a=some ob/\ob.dict=none:=by
 cases x with
 | str z =>
  obtain⟨t,rfl⟩:=r
  cases (ty)
  exact⟨typeIs_str s z t,λ_ e=>nomatch e⟩
 | int i =>
  obtain⟨t,rfl⟩:=r
  cases (ty)
  exact⟨typeIs_int s i t,λ_ e=>nomatch e⟩
 | ref p =>
  cases r
  rcases ty with ⟨rfl,m,u⟩ | ⟨rfl,o,b,q,k⟩ | ⟨rfl,b⟩ | ⟨rfl,S,n,b⟩ | ⟨rfl,m,b⟩
  ·obtain⟨h,_,j,_⟩:=I.list u
   refine⟨j.isList.typeIs,λa e=>?_⟩
   obtain⟨o,n,e,c,k,_⟩:=j
   grind
  ·refine⟨⟨o,I.kIn p o b,q⟩,λa e=>?_⟩
   cases e
   exact⟨o,I.kIn _ o b,k⟩
  ·have z:∃o,s.heap.get? p=some o/\o.ExactDict:=by
    rcases b with ⟨g,b⟩ | ⟨g,b⟩
    ·obtain⟨_,_,_,_,o,_,_,e,d,_⟩:=I.hok p _ b
     grind
    ·obtain⟨_,_,_,_,o,_,_,e,d,_⟩:=I.hok p _ b
     grind
   obtain⟨o,e,d⟩:=z
   refine⟨⟨o,e,d.1⟩,λa f=>?_⟩
   cases f
   exact⟨o,e,d.2.1⟩
  ·obtain⟨o,_,_,_,e,d,_⟩:=I.hok p _ b
   refine⟨⟨o,e,d.1⟩,λa f=>?_⟩
   cases f
   exact⟨o,e,d.2.1⟩
  ·obtain⟨_,h,_,o,e,c,_,dn⟩:=I.hok p _ b
   refine⟨⟨o,e,c⟩,λa f=>?_⟩
   grind
 | _=>exact False.elim ty
def tBM (K:q9)(T:String)(r:V->l_->Hp->VK->Prop)(to:TE)(t:TA):TE:=λσ H Q=>to σ H λx H1=>tyV K T x H1/\t σ H1 λxs H2=>r x xs H2 Q
variable {o e:Expr}{es:q_}{to:TE}{t:TA}{name:Str}{apos cpos:Pos}{T id:String}{r:V->l_->Hp->VK->Prop}
theorem By9 (pa:PlainAttrs T)(slot:Slot T name id)(hty:typeOf (.builtin id)=pure (.type "method_descriptor")) (hm:MtR X id r) (ho:PE X o to) (ha:PA X (e::es) t)
 (hbase:attributeBase o name X.env (eval o X.env)=eval o X.env:=by rfl)
 (hfew:((backTo cpos (starEach (e::es) X.env)).all (λx=>!x.1)&&(backToKw cpos (keywordEach [] X.env)).all (λx=>x.1.isSome)
  && decide ((e::es).length+([]:List Keyword).length+(if ([]:List Keyword).isEmpty then 0 else 1)<30))=true:=by rfl)
 (hline:(apos.endLine==cpos.line)=true:=by rfl) (hs:starEach (e::es) X.env=(false,eval e X.env)::starEach es X.env:=by rfl) (hplain:(backTo cpos (starEach es X.env)).any (·.1)=false:=by rfl) :
 PE X (.Call (.Attribute o name apos) (e::es) [] cpos) (tBM X.K T r to t):=by
 intro b s p H Q I h
 refine wpAny_Call_method_late hbase hfew hline rfl (thn (ho _ s _ H _ I h) λv z ⟨x,y,c,a,j,k⟩=>?_)
 obtain⟨g,m⟩:=Bl1 c a j
 refine⟨T,id,pa,slot,hty,g,m,?_⟩
 have d:=ha cpos _ _ _ _ _ c k;rw[hs]at d ⊢
 refine Calls.callWith_builtin (by grind) (Calls.evalArgs_plain ?_)
 exact thn d λi q ⟨u,w,l,n,f⟩=>hm _ _ _ _ x _ v i Q l a n f
end
def MtM (X:Cx)(id:String)(r:V->l_->Hp->VK->Prop):Prop :=
 ∀
  (pins:y_) (s:o4) (σ:St) (H:Hp) (x:V) (xs:l_) (v:Value) (us:v4) (Q:VK),Inv X pins σ H s->RelV x v->Vals xs us->r x xs H Q ->
  wpAny (model X.prog X.w) X.A (call (.builtin id) (v::us)) (EP X pins σ Q) X.xe s
theorem Vals.one:∀{x:V}{us:v4},Vals [x] us->∃u,us=[u]/\RelV x u
 | _,_,h=>by
  cases h with
  | cons r t=>cases t;exact⟨_,rfl,r⟩
theorem Vals.two:∀{x y:V}{us:v4},Vals [x,y] us->∃u v,us=[u,v]/\RelV x u/\RelV y v
 | _,_,_,h=>by
  cases h with
  | cons r t =>
   cases t with
   | cons q t=>cases t;exact⟨_,_,rfl,r,q⟩
theorem Vals.eraseIdx:∀{xs:l_}{us:v4}(i:Nat),Vals xs us->Vals (xs.eraseIdx i) (us.eraseIdx i)
 | _,_,_,.nil=>.nil
 | _,_,0,.cons _ t=>t
 | _,_,i+1,.cons r t=>.cons r (Vals.eraseIdx i t)
theorem Vals.rep {xs:l_}{us:v4}(h:Vals xs us):∀k:Nat,Vals (List.replicate k xs).flatten (List.replicate k us).flatten
 | 0=>.nil
 | k+1=>by
  rw[cT,cT,fu,fu];exact Vals.append h (Vals.rep h k)
theorem A9k {α:Type}:∀(l:List α) (i:Nat),(l.eraseIdx i).length<=l.length
 | [],_=>ak _
 | _::_,0=>fK _
 | _::r,i+1=>fL (A9k r i)
theorem foldl_rep (its:v4):∀(k:Nat) (acc:v4),
 List.foldl (λx1 x2=>x1++x2) acc.toArray (List.replicate k its.toArray)=(acc++(List.replicate k its).flatten).toArray
 | 0,acc=>by simp
 | k+1,acc=>by
  have e:acc.toArray++its.toArray=(acc++its).toArray:=by simp
  have e2:(acc++its)++(List.replicate k its).flatten=acc++(List.replicate (k+1) its).flatten:=by
   rw[cT,fu,bW]
  rw[<- e2,<- foldl_rep its k (acc++its),<- e,cT,cU]
section
variable {X:Cx}{pins:y_}{σ:St}{H:Hp}{s:o4}{l b:Addr}{xs ys:l_}
theorem Inv.lset {a its':v4} (I:Inv X pins σ H s) (c:H l=some (.lst xs))
 (e:s.heap.get? l=some { cls:=.type "list",data:=.seq a.toArray n }) (hf:f a.toArray=its'.toArray) (hv:Vals ys its') (hz:ys.length<=sizeLine) :
 Inv X pins σ (upd H l (.lst ys)) { s with heap:=s.heap.update l (Obj.mapSeq f),toks:=t' }:=by
 have q:=PySem.IsL.update e f;rw[hf]at q
 refine I.write (by rw[c];trivial) (.inl rfl) (λg u d b=>(Heap.get?_update_other _ _ (aL d)).trans b) ⟨_,q⟩ ?_
 exact⟨hz,its',_,hv,q⟩
theorem Inv.lnew {its:v4}{t':Nat}(I:Inv X pins σ H s)(hv:Vals ys its)(hz:ys.length<=sizeLine) :
 Inv X pins σ (upd H s.heap.objs.size (.lst ys)) { s with heap:=s.heap.push { cls:=.type "list",data:=.seq its.toArray },toks:=t' } :=
 I.laid (λ_ _ q=>Heap.get?_push_of_some _ q) (ak _) ⟨hz,its,0,hv,Heap.get?_push_size _ rfl⟩
theorem Inv.fresh (I:Inv X pins σ H s):H s.heap.objs.size=none:=I.hok.fresh (ak _)
theorem Inv.lstM (I:Inv X pins σ H s)(b:H l=some (.lst xs)):xs.length<=sizeLine/\∃(a:v4) (n:Nat),Vals xs a/\xs.length=a.length/\s.heap.get? l=some { cls:=.type "list",data:=.seq a.toArray n }:=by
 obtain⟨z,a,n,r,e⟩:=I.hok l _ b;exact⟨z,a,n,r,r.length,e⟩
end
section
variable {X:Cx}
def rAppend:V->l_->Hp->VK->Prop:=λx vs H Q=>∃l xs y,x=.ref l/\vs=[y]/\H l=some (.lst xs)/\xs.length<sizeLine/\Q .non (upd H l (.lst (xs++[y])))
theorem A9o:MtM X "list.append" rAppend:=by
 intro a s σ H x vs v us Q I c f h;obtain⟨l,xs,y,rfl,rfl,b,hz,q⟩:=h
 cases c
 obtain⟨u,rfl,d⟩:=f.one;obtain⟨z,g,n,r,hl,e⟩:=I.lstM b
 refine call_meets F.slot_list_append ⟨_,e,rfl⟩ F.entry_list_append (F.args_list_append_2 _ _) (PySem.list_append l _ n u (by simp_all)) ⟨e,?_⟩
 refine⟨.non,_,I.lset b e (by simp) (r.append (.cons d .nil)) ?_,rfl,q⟩
 grind
def rPopAt:V->l_->Hp->VK->Prop:=λx vs H Q=>∃l xs i k y,x=.ref l/\vs=[.int i]/\H l=some (.lst xs)/\-(2 ^ 63)<=i/\i<2 ^ 63/\seqIndex? i xs.length=some k/\xs[k]?=some y/\Q y (upd H l (.lst (xs.eraseIdx k)))
theorem Bo2:MtM X "list.pop" rPopAt:=by
 intro b s σ H x vs v us Q I f g h;obtain⟨l,xs,i,k,y,rfl,rfl,c,d,j,hk,o,q⟩:=h
 cases f
 obtain⟨u,rfl,m⟩:=g.one;obtain⟨t,rfl⟩:=m;obtain⟨z,p,n,r,hl,e⟩:=I.lstM c;obtain⟨w,hw,a⟩:=r.get o
 refine call_meets F.slot_list_pop ⟨_,e,rfl⟩ F.entry_list_pop (F.args_list_pop_2 _ _)
  (MeetsSeq.list_pop_at l _ n i t k w (fitsIndex_both d j) (by simp_all) (by simp_all) (by simp_all)) ⟨e,?_⟩
 refine⟨y,_,I.lset c e ?_ (r.eraseIdx k) ?_,a,q⟩
 ·simp_all
 grind
def B6w:R2:=λx y H Q=>∃l b xs zs,x=.ref l/\y=.ref b/\H l=some (.lst xs)/\H b=some (.lst zs)/\xs.length+zs.length<=sizeLine/\∀p,H p=none->Q (.ref p) (upd H p (.lst (xs++zs)))
theorem B4b:OpR X (binaryOp .Add) B6w:=by
 intro d s σ H x y v u Q I k g h;obtain⟨l,b,xs,zs,rfl,rfl,i,j,hz,q⟩:=h
 cases k
 cases g
 obtain⟨z,c,n,r,hl,e⟩:=I.lstM i;obtain⟨z2,a,n2,o,m,p⟩:=I.lstM j
 refine PySem.P.add_list e p ?_ (by grind)
 have f:c.toArray++a.toArray=(c++a).toArray:=by simp
 rw[f]
 exact⟨.ref _,_,I.lnew (r.append o) (by simp_all),rfl,q _ I.fresh⟩
end
section
variable {κ:Type}[DecidableEq κ]
noncomputable def Uj (kvs:List (κ×V)) (k:κ):Option V:=(kvs.find? λkv=>decide (kv.1=k)).map (·.2)
noncomputable def putK (kvs:List (κ×V)) (k:κ) (v:V):List (κ×V) :=
 if (kvs.any λkv=>decide (kv.1=k))=true then kvs.map (λkv=>if kv.1=k then (kv.1,v) else kv) else kvs++[(k,v)]
theorem Wc {p:κ×V} (e:p.1=k):Uj (p::r) k=some p.2:=by simp[Uj,e]
theorem Ru {p:κ×V} (e:¬ p.1=k):Uj (p::r) k=Uj r k:=by simp[Uj,e]
theorem Z8 (k:κ):∀kvs:List (κ×V),(kvs.any λkv=>decide (kv.1=k))=(Uj kvs k).isSome
 | []=>rfl
 | p::r=>by
  rw[List.any_cons]
  by_cases e:p.1=k
  ·simp only[Wc e,aq e,cV,cW]
  ·rw[Ru e,aB e,cX];exact Z8 k r
theorem Yc (a:List (κ×V))(k:κ)(v:V):(putK a k v).length<=a.length+1:=by
 unfold putK
 grind
theorem RelO.isSome_eq (r:RelO o u):o.isSome=u.isSome:=by
 cases o with
 | none=>
  cases u with
   | none=>rfl
   | some _=>trivial
 | some _=>
  cases u with
   | none=>trivial
   | some _=>rfl
theorem KV.val (r:KV a vs) (k:κ):RelO (Uj a k) (valueAt vs k):=by
 induction r with
 | nil=>trivial
 | @cons p q j c h t i =>
  obtain⟨d,g⟩:=h
  by_cases e:p.1=k
  ·have b:valueAt (q::c) k=some q.2:=by simp[valueAt,(d.symm.trans e)]
   rw[Wc e,b];exact g
  ·have f:¬ q.1=k:=λz=>e (d.trans z)
   have b:valueAt (q::c) k=valueAt c k:=by simp[valueAt,f]
   rw[Ru e];grind
theorem KV.any (r:KV a vs) (k:κ):(a.any λb=>decide (b.1=k))=vs.any λb=>decide (b.1=k):=by
 induction r with
 | nil=>rfl
 | cons h t c=>simp_all
theorem KV.repl (r:KV b vs) (k:κ) (d:RelV y u) :
 KV (b.map λa=>if a.1=k then (a.1,y) else a) (vs.map λa=>if a.1=k then (a.1,u) else a):=by
 induction r with
 | nil=>exact .nil
 | @cons p q e f h t c =>
  refine .cons ?_ c
  grind
theorem KV.put (r:KV a vs) (k:κ) (b:RelV y u):KV (putK a k y) (stored vs k u):=by
 unfold putK stored;rw[r.any k]
 by_cases e:(vs.any λc=>decide (c.1=k))=true
 ·rw[if_pos e,if_pos e];exact r.repl k b
 ·rw[if_neg e,if_neg e];exact Paired.snoc r ⟨rfl,b⟩
theorem KV.length {a:List (κ×V)} (r:KV a vs):a.length=vs.length:=Paired.length r
end
theorem B0b (r:RelV (kV k) u):(Ge P w).is k u=true:=by
 cases k with
 | inl i=>obtain⟨t,e⟩:=(r);subst e;exact Ry P w i t
 | inr x=>obtain⟨t,e⟩:=(r);subst e;exact Rn P w x t
theorem B0f {A:o6}(hu:A.units+9<cLine):A.in1.units+8<cLine:=bu (fM (rfl)) hu
abbrev KT (H:Hp):List (PyData×V)->List (PyData×Addr×Value)->Prop:=Paired λp q=>p.1=q.1/\KAt H p.1 q.2.1/\RelV p.2 q.2.2
theorem KT.val (r:KT H a xs) (k:o5):RelO (Uj a k) ((atKey xs k).map (·.2)):=by
 induction r with
 | nil=>trivial
 | @cons p q j c h t i =>
  obtain⟨d,_,g⟩:=h
  by_cases e:p.1=k
  ·have b:atKey (q::c) k=some q.2:=by simp[atKey,(d.symm.trans e)]
   rw[Wc e,b];exact g
  ·have f:¬ q.1=k:=λz=>e (d.trans z)
   have b:atKey (q::c) k=atKey c k:=by simp[atKey,f]
   rw[Ru e];grind
theorem KT.repl (r:KT H a xs) (k:o5) (d:RelV y u) :
 KT H (a.map λb=>if b.1=k then (b.1,y) else b) (xs.map (putAt k u)):=by
 induction r with
 | nil=>exact .nil
 | @cons p q e f h t c =>
  refine .cons ?_ c
  unfold putAt
  grind
theorem KT.put (r:KT H a xs) (k:o5) (hb:KAt H k b) (c:RelV y u) :
 KT H (putK a k y) (storedH xs k b u):=by
 have e:(a.any λd=>decide (d.1=k))=(atKey xs k).isSome:=by
  rw[Z8,(r.val k).isSome_eq,Option.isSome_map]
 unfold putK storedH;rw[e]
 by_cases q:(atKey xs k).isSome=true
 ·rw[if_pos q,if_pos q];exact r.repl k c
 ·rw[if_neg q,if_neg q];exact Paired.snoc r ⟨rfl,hb,c⟩
theorem KT.keeps (r:KT H a xs) (ht:∀b ys,H b=some (.tup ys)->H' b=some (.tup ys)):KT H' a xs :=
 Paired.mapP r λ_ _ z=>⟨z.1,z.2.1.stay ht,z.2.2⟩
section
variable {P:p7}{w:World}{H:Hp}{h:Heap}{a:Addr}
theorem Ij (b:HOk P w H h) (e:Rd H a u):zJ P w H h a u:=e.ok b
theorem Bf8 (c:HOk P w H h) (e:Rd H a (.dK b)):b.length<=sizeLine/\(a==sysModules)=false/\∃vs,KV b vs/\h.DictOf (Ge P w) a vs :=
 show zJ P w H h a _ from Ij c e
theorem B6x (c:HOk P w H h) (e:H a=some (.dK b)):b.length<=sizeLine/\(a==sysModules)=false/\∃vs,KV b vs/\h.DictOf (Ge P w) a vs:=Bf8 c (.inl e)
mutual
theorem Ak0 (ok:HOk P w H h):∀{d:o5}{v:V}{u:Value},KTr H d v->RelV v u->∃as,Reads h u d as
 | .none,_,u=>λe r=>by
  cases (show _=V.non from e)
  cases (show u=Value.none from r)
  exact⟨_,.none⟩
 | .int i,_,u=>λe r=>by
  cases (show _=V.int i from e)
  obtain⟨t,rfl⟩:=r;exact⟨_,.int i t⟩
 | .str x,_,u=>λe r=>by
  cases (show _=V.str x from e)
  obtain⟨t,rfl⟩:=r;exact⟨_,.str x t⟩
 | .tuple ds,_,u=>λe r=>by
  obtain⟨a,vs,rfl,ha,t⟩:=e
  cases (show u=Value.ref a from r)
  obtain⟨z,its,rv,o,e,c,⟨n,dt⟩,_⟩:=ok a _ ha;obtain⟨as,q⟩:=Ac8 ok t rv
  exact⟨_,.tuple e c dt (by simpa using q)⟩
 | .bool _,_,_=>λe _=>False.elim e
 | .list _,_,_=>λe _=>False.elim e
 | .dict _,_,_=>λe _=>False.elim e
theorem Ac8 (ok:HOk P w H h):∀{ds:w6}{vs:l_}{us:v4},KTrL H ds vs->Vals vs us->∃as,ReadsAll h us ds as
 | [],_,us=>λe r=>by
  cases (show _=[] from e)
  cases r
  exact⟨_,.nil⟩
 | d::ds,_,us=>λe r=>by
  obtain⟨v,vs,rfl,hv,t⟩:=e
  cases r with
  | cons r1 r2 =>
   obtain⟨as,q⟩:=Ak0 ok hv r1;obtain⟨bs,p⟩:=Ac8 ok t r2;exact⟨_,.cons q p⟩
end
theorem A5b (b:HOk P w H h) (e:KAt H k a):(Gv P w).is h k a:=⟨e.1,Ak0 b e.2 (show RelV _ _ from rfl)⟩
theorem A6z (f:HOk P w H h) (e:Rd H a (.dT b)):b.length<=sizeLine/\(a==sysModules)=false /\
 ∃c,KT H b c/\h.DictOfH (Gv P w) a c:=by
 obtain⟨z,y,c,r,o,v,i,j,k,g,s,u⟩:=(show zJ P w H h a _ from Ij f e)
 refine⟨z,y,c,r,o,v,i,j,k,g,s,λx d=>?_,u⟩
 have n:∀{l:List _} {m:List _},KT H l m->∀x∈m,(Gv P w).is h x.1 x.2.1:=by
  intro l m q
  induction q with
  | nil=>simp_all
  | @cons p q B C D t A =>
   intro x d
   rcases au.mp d with e | d
   ·exact A5b f (by grind)
   grind
 grind
theorem B6t (c:HOk P w H h) (e:H a=some (.dT b)):b.length<=sizeLine/\(a==sysModules)=false /\
 ∃xs,KT H b xs/\h.DictOfH (Gv P w) a xs:=A6z c (.inl e)
end
def B6c (H:Hp)(a:Addr)(y:V)(r:Option V):Prop :=
 (∃kvs k,Rd H a (.dK kvs)/\y=kV k/\r=Uj kvs k)\/∃kvs k b,Rd H a (.dT kvs)/\y=.ref b/\KAt H k b/\r=Uj kvs k
def DPut (H:Hp)(a:Addr)(y v:V)(H':Hp):Prop :=
 (∃kvs k,H a=some (.dK kvs)/\y=kV k/\kvs.length<sizeLine/\H'=upd H a (.dK (putK kvs k v))) \/
 ∃kvs k b,H a=some (.dT kvs)/\y=.ref b/\KAt H k b/\kvs.length<sizeLine/\H'=upd H a (.dT (putK kvs k v))
theorem DPut.t (e:H a=some (.dT c)) (d:KAt H k b) (hl:c.length<sizeLine) :
 DPut H a (.ref b) v (upd H a (.dT (putK c k v))):=.inr ⟨c,k,b,e,rfl,d,hl,rfl⟩
section
variable {X:Cx}{pins:y_}{σ:St}{H:Hp}{s:o4}{a:Addr}{y v:V}{u r:Value}{o:Option V}{A:o6}{E:z_}
theorem Inv.big (I:Inv X pins σ H s):sysModules<s.heap.objs.size:=by
 exact gC (by decide) ((I.mod.glob.keeps I.bk).lt)
theorem Bu9 {Q:z_}(hu:A.units+9<cLine)(I:Inv X pins σ H s)(g:B6c H a y o)(ry:RelV y u)(h:∀s',Inv X pins σ H s'->Q (.bool (!o.isSome)) s') :
 wpAny (model X.prog X.w) A (compareOp .NotIn u (.ref a)) Q E s:=by
 rcases g with ⟨kvs,k,e,ey,l⟩ | ⟨kvs,k,b,e,ey,eb,l⟩
 ·subst ey
  obtain⟨z,hd,vs,rel,dd⟩:=Bf8 I.hok e
  refine wpAny_notIn_of (B0b ry) hd dd.mapOf ?_
  rw[<- (rel.val k).isSome_eq,<- l];exact h _ (I.tok _)
 ·subst ey
  cases (show u=Value.ref b from ry)
  obtain⟨z,hd,xs,rel,dd⟩:=A6z I.hok e
  refine wpAny_notIn_heap ((show (Gv _ _).room _ from B0f hu)) (A5b I.hok eb) hd dd ?_
  have q:=(rel.val k).isSome_eq;rw[Option.isSome_map]at q;rw[<- q,<- l];exact h _ (I.tok _)
theorem Ar3 (I:Inv X pins σ H s) (e:Mut (H a)) (hs:Heap.SameBut a s.heap h') (he:∃q,h'.get? a=some q) (c:zJ X.prog X.w (upd H a ob) h' a ob) :
 Inv X pins σ (upd H a ob) { s with heap:=h',toks:=t' } :=
 I.write e (.inl rfl) (λb q d z=>(hs.2 b d).trans z) he c
theorem B3m (z:b.length<=sizeLine) (hd:(a==sysModules)=false) (c:KV b vs) (dd:h'.DictOf (Ge P w) a vs) :
 zJ P w H' h' a (.dK b):=⟨z,hd,vs,c,dd⟩
theorem A8t (hu:A.units+9<cLine) (I:Inv X pins σ H s) (g:DPut H a y v H') (C:RelV y u) (D:RelV v r) (h:∀s',Inv X pins σ H' s'->Q () s') :
 wpAny (model X.prog X.w) A (setItem (.ref a) u r) Q E s:=by
 rcases g with ⟨f,k,e,n,l,o⟩ | ⟨f,k,b,e,n,F,l,o⟩
 ·subst n o
  obtain⟨z,w,N,d,m⟩:=B6x I.hok e
  have B:N.length<=sizeLine:=by rw[<- d.length];omega
  have p:(putK f k v).length<=sizeLine:=by have:=Yc f k v;omega
  refine wpAny_setItem_pairs (hsz:=B) (B0b C) m λx i t=>h _ ?_
  have J:∃q,x.get? a=some q:=let ⟨q,_,_,j,_⟩:=i; ⟨q,j⟩
  exact Ar3 I (by rw[e];trivial) t J (B3m p w (d.put k D) i)
 ·subst n o
  cases (show u=Value.ref b from C)
  obtain⟨z,w,K,d,m⟩:=B6t I.hok e
  have B:K.length<=sizeLine:=by rw[<- Paired.length d];grind
  have p:(putK f k v).length<=sizeLine:=by have:=Yc f k v;omega
  refine wpAny_setItem_heap ((B0f hu)) (A5b I.hok F) m λx i t=>h _ ?_
  obtain⟨q,L,M,j,O,P,R,_,S⟩:=i
  refine Ar3 I (by rw[e];trivial) t ⟨q,j⟩ ⟨p,w,_,(d.put k F D).keeps λc T G=>?_,q,L,M,j,O,P,R,S⟩
  rw[Al (B0l G e λz=>nomatch z)]
  grind
end
def Aw2 (ty td:TE):TE:=λσ H Q=>ty σ H λy H1=>td σ H1 λx H2=>∃a o,x=.ref a/\B6c H2 a y o/\Q (.bl (!o.isSome)) H2
def Al1 (td ty tv:TE):TS:=λD σ H=>tv σ H λv H1=>td σ H1 λx H2=>ty σ H2 λy H3=>∃a H4,x=.ref a/\DPut H3 a y v H4/\D.nx σ H4
section
variable {X:Cx}{o i e value:Expr}{pos pos':Pos}{td ty tv:TE}
theorem A8z (hu:X.A.units+9<cLine)(hi:PE X i ty)(ho:PE X o td):PC X .NotIn i o (Aw2 ty td):=by
 intro pins s σ H Q I h
 refine thn (hi pins s σ H _ I h) λiv s1 ⟨y,H1,I1,ry,q1⟩=>thn (ho pins s1 σ H1 _ I1 q1) λu s2 ⟨x,H2,I2,rx,a,ov,ex,g,q2⟩=>?_
 subst ex;obtain rfl:u=Value.ref a:=rx
 exact Bu9 hu I2 g ry λs3 I3=>⟨.bl (!ov.isSome),H2,I3,rfl,q2⟩
theorem Bs6 (hu:X.A.units+9<cLine)(ho:PE X o td)(hi:PE X i ty)(hv:PE X value tv)(hs:swapsWith value (some (.Subscript o i pos')) pos.line X.env=pure false) :
 PS X (.Assign [.Subscript o i pos'] value pos) (Al1 td ty tv):=by
 intro b s e H D I h
 refine wpAny_Assign_Subscript (thn (hv _ s _ H _ I h) λr s1 ⟨v,H1,f,j,k⟩=>thn (ho _ _ _ _ _ f k) λu s2 ⟨x,H2,l,m,d⟩=>thn (hi _ _ _ _ _ l d) λiv s3 ⟨y,H3,p,q,a,n,w,g,t⟩=>?_) hs
 subst w;obtain rfl:u=Value.ref a:=m
 exact A8t hu p g q j λs4 c=>⟨e,n,c,t⟩
end
theorem Ba2 (h:Heap) (hb:sysModules<h.objs.size):zJ P w H (h.push { cls:=.type "dict",data:=.dict #[] }) h.objs.size (.dT []) :=
 ⟨aD _,cH.mpr (aL (aJ hb)),[],.nil,_,#[],0,Heap.get?_push_size _ rfl,⟨rfl,rfl,rfl⟩,rfl,rfl,eQ⟩
def At1:TE:=λ_ H Q=>∀p,H p=none->Q (.ref p) (upd H p (.dT []))
section
variable {X:Cx}{pos:Pos}
theorem Bg9:PE X (.Dict [] [] pos) At1:=λa s b H Q I h =>
 wpAny_Dict_empty ⟨.ref _,_,I.laid (λ_ _ q=>Heap.get?_push_of_some _ q) (ak _) (Ba2 _ I.big),rfl,h _ (I.hok.fresh (ak _))⟩
end
structure M2 (X:Cx) (o:Expr) (m:Str) (apos:Pos) (e f:Expr) (cpos:Pos):Prop where
 base:attributeBase o m X.env (eval o X.env)=eval o X.env
 few:((backTo cpos (starEach [e,f] X.env)).all (λx=>!x.1)&&(backToKw cpos (keywordEach [] X.env)).all (λx=>x.1.isSome)
  && decide (([e,f]:q_).length+([]:List Keyword).length+(if ([]:List Keyword).isEmpty then 0 else 1)<30))=true
 line:(apos.endLine==cpos.line)=true
 trees:backTo cpos (starEach [e,f] X.env)=[(false,eval e X.env),(false,eval f X.env)]
def IsD (H:Hp)(a:Addr):Prop:=(∃kvs,Rd H a (.dK kvs))\/∃kvs,Rd H a (.dT kvs)
theorem B4j (I:Inv X pins k H s) (d:IsD H a) :
 s.TypeIs (.ref a) "dict" /\ (∀b,Value.ref a=.ref b->∃c,s.heap.get? b=some c/\c.dict=none)/\(a==sysModules)=false:=by
 rcases d with ⟨g,e⟩ | ⟨g,e⟩
 ·obtain⟨_,h,m,_,f⟩:=Bf8 I.hok e
  refine⟨f.typeIs,λb q=>?_,h⟩
  cases q
  obtain⟨c,_,_,i,j,_⟩:=f;exact⟨c,i,j.2.1⟩
 ·obtain⟨_,h,l,_,f⟩:=A6z I.hok e
  refine⟨f.typeIs,λb q=>?_,h⟩
  cases q
  obtain⟨c,_,_,i,j,_⟩:=f;exact⟨c,i,j.2.1⟩
end L2
namespace Att
open PySem PySem.W PySem.Calls PyProof.Rows
theorem Ys : ∀(ns:List Int) (vs:v4),WellAll P h vs (ns.map WData.int)->IntsAre vs ns:=by
 intro ns
 induction ns with
 | nil =>
  intro vs w
  cases w
  exact .nil
 | cons n ns c =>
  intro vs w
  cases w with
  | cons a b =>
   cases a
   exact .cons _ _ (c _ b)
theorem A9j {l:OpenLaw} (hn:l.most=some n)
 (hpre:l.row.toRowW.claim.pre args=true) (hwl:WellAll P h vals args) :
 ∃a vs ns,vals=[Value.ref a]/\args=[WData.list (ns.map WData.int)]/\h.get? a=some { cls:=.type "list",data:=.seq vs.toArray }/\IntsAre vs ns/\ns.length<=n:=by
 have hsh:WShape.hasAll [] args [.list .int]=true:=(pre_splitW hpre).1;have hc:l.pre.holds [] { args:=args }=true:=(pre_splitW hpre).2;obtain⟨d,r,rfl,h1,h2⟩:=hasAllW_cons hsh;obtain rfl:=hasAllW_nil h2;obtain⟨xs,rfl,h3⟩:=hasW_list h1;obtain⟨ns,rfl⟩:=items_int h3
 have hlen:ns.length<=n:=by
  unfold OpenLaw.pre at hc
  have h4:(WTm.not (.lt (.lit (.int (n:Int))) (.len (.arg 0)))).holds [] { args:=[.list (ns.map .int)] }=true:=by
   have h4:=(holds_andW hc).1;rw[hn]at h4;exact h4
  have h5:=condW_of h4 (w_not (w_lt w_lit (w_len_list (w_arg rfl))));rw[aj]at h5
  refine ie λq=>?_
  have q':(n:Int)<((ns.length:Nat):Int):=by omega
  first
   | (rw[aq q']at h5;exact absurd h5 (by decide))
   | (simp at h5;omega)
 cases hwl with
 | cons w1 w2 =>
  cases w2
  cases w1 with
  | list ho hall=>exact⟨_,_,ns,rfl,rfl,ho,Ys ns _ hall,hlen⟩
theorem A9e (l:OpenLaw)(args:List WData):l.row.toRowW.claim.post args (.bool true) args=true :=
 postW_of
  (show WShape.has _ _ _=true by rfl)
  (show (WTm.eq _ _).value _ _=some _ from w_eq_bool (w_res rfl) w_lit) rfl
theorem A1x {l:OpenLaw}
 (hn:l.most=some n) (t:d.params.defaults=[])
 (i:∀(w:World) (c b:o4) (mg B:x_) (fa:Addr) (o:Obj) (z v h:Value) (a:Addr) (vs:v4) (ns:List Int),
  Ground q loose [] XP w c mg B b.heap->YP w b.heap ->
  b.heap.get? fa=some o->o.data=.func (docDef d.name d.params d.body d.scope z v h)->b.heap.CodeRec v d.name->mg d.name=some (.ref fa) ->
  b.heap.get? a=some { cls:=.type "list",data:=.seq vs.toArray }->IntsAre vs ns->ns.length<=n->b.gens=#[] ->
  codeAny (model l.prog w) callerA (.call (.ref fa) ⟨[.ref a],[]⟩) (λr s'=>r=.ok (.ret (.bool true))/\OldK b.heap s'.heap/\s'.os=b.os/\AllBare s'.gens) b) :
 WalkO q loose XP YP l.row.toRowW d [] (λf vs=>PySem.call f vs):=by
 intro w c b mg B G Y fa o z v h M H J K u C m D x A as g y F p I;obtain rfl:M=.none:=Dflts.none C t;obtain rfl:H=.none:=Dflts.noKw C;obtain⟨a,vs,ns,rfl,rfl,j,e,k⟩:=A9j hn g p
 refine enter_call (codeAny_mono (i w _ _ _ _ _ o _ _ _ a _ _ G Y J (fd_plain K) u m j e k D) λr s' N=>?_)
 obtain⟨rfl,L,O,P⟩:=N
 exact⟨.inl ⟨.bool _,.bool _,[],rfl,λ_=>rfl,.bool _,A9e l _,λ_=>⟨List.Pairwise.nil,λ_ E=>nomatch E⟩⟩,L,O,P⟩
end Att
namespace L2
open PySem PySem.Spec PyProof.Rows
theorem An2:∀{vs:v4}{ns:List Int},IntsAre vs ns->Vals (ns.map V.int) vs
 | _,_,.nil=>.nil
 | _,_,.cons n t h=>.cons ⟨t,rfl⟩ (An2 h)
noncomputable def Nu (s:Stmt):Arguments:=match s with
 | .FunctionDef _ a _ _ _ _ _ _ _ _=>a
 | _=>{ posonlyargs:=[],args:=[],vararg:=none,kwonlyargs:=[],kw_defaults:=[],kwarg:=none,defaults:=[] }
noncomputable def Kw (s:Stmt):List Stmt:=match s with
 | .FunctionDef _ _ b _ _ _ _ _ _ _=>b
 | _=>[]
noncomputable def Ak (s:Stmt):Scope:=match s with
 | .FunctionDef _ _ _ _ _ _ sc _ _ _=>sc
 | _=>{ kind:=.function,names:=[],isGenerator:=false,isCoroutine:=false }
noncomputable abbrev CX0:CXT:=λ_ _ _ _ _ _=>False
abbrev E0:XK:=λ_ _ _=>False
theorem B4z : Aa2 CX0 X E0:=λ_ _ _ _ _ _ _ h=>h.elim
structure Fun (K:q9) (x qual:Str) (st:Stmt) (f:Addr) (fd:p6):Prop where
 ex:∃(oc:Value) (od:Option Addr) (kV doc pm:Value) (an:Option Addr) (cdv ct:Value) (osl:Array (p_)),
  fd=PySem.W.fnOf x qual (Nu st) (Kw st) (Ak st) .none kV doc pm an cdv ct/\K.lookup f=some ⟨oc,od,.func fd,osl⟩/\PySem.W.codeIn K cdv qual=true
 kp:PySem.W.keepIn K (.ref f)=true
section
variable {P:p7}{w:World}{K:q9}{mg:x_}{base:Heap}
theorem Fun.ok {st:Stmt} (F:Fun K x qual st f i) (S:Az N ps (Ak st)) (g:∀vs H Q E,sp vs H Q E->vs.length=ps.length)
 (b:∀(c:Value) (A:o6) (a:List Env) (s:o4) (H:Hp) (vs:l_) (Q:VK) (E:XK),Room k (A.deeper (envOfC qual (Ak st) s.heap.objs.size f c))->sp vs H Q E ->
  ∃t,PSs (Ag8 CX0 P w K mg base N qual (Ak st) f c A a s H E).nox (Kw st) t/\t { nx:=λ_ H'=>Q .non H',rt:=Q } (start N vs) H):FnOk P w K mg base CX0 (k+1) f i ps sp:=by
 obtain⟨oc,od,kV,l,pm,an,c,ct,j,rfl,m,e⟩:=F.ex
 refine B6b m e S g λA a s H vs Q E n d=>?_
 obtain⟨t,h,q⟩:=b _ A _ s H _ Q E n d;exact⟨t,h.nox,q⟩
theorem Fun.binds {st:Stmt} (F:Fun K x qual st f d)
 (h:∀(i b e:Value) (g:Option Addr) (a c:Value) (us:v4),us.length=ps.length->bindArgs (PySem.W.fnOf x qual (Nu st) (Kw st) (Ak st) .none i b e g a c) ⟨us,[]⟩=pure (ps.zip us)):Binds K d ps []:=by
 obtain⟨oc,od,i,b,e,g,a,c,k,rfl,lk,j⟩:=F.ex;exact .all (h _ _ _ _ _ _)
end
section
variable {X:Cx}
theorem pv (i:Nat) {a:Pos}(hN:X.N[i]?=some x:=by rfl) (hv:Vis X.env.scope x:=by first | exact Or.inl rfl | exact Or.inr (Or.inl rfl) | exact Or.inr (Or.inr rfl)) (hd:(x==("__debug__" : Str))=false:=by decide)
 (hcd:(x==("__classdict__" : Str))=false:=by decide):PE X (.Name x a) (Tp i):=Bc6 hN hv hd hcd
end
def Same (H H':Hp):Prop:=∀b o,H b=some o->H' b=some o
theorem Same.refl (H:Hp):Same H H:=λ_ _ h=>h
theorem Same.trans (a:Same H e) (b:Same e d):Same H d:=λc o h=>b c o (a c o h)
theorem Same.free (e:Same H H') (h:H' l=Option.none):H l=Option.none:=by
 cases q:H l with
 | none=>rfl
 | some o =>
  rw[e l o q]at h
  grind
theorem Same.seq {K:q9} (e:Same H H') (h:SqL K H a xs):SqL K H' a xs:=by
 rcases h with (h | ⟨o,h⟩) | h
 ·exact .inl (.inl (e _ _ h))
 ·exact .inl (.inr ⟨o,e _ _ h⟩)
 ·exact .inr h
end L2
set_option maxHeartbeats 4000000
namespace L2
open PySem PySem.Spec PyProof.Rows
noncomputable abbrev G7 (X:Cx) (N':v_) (scope:Scope) (cl:List (Str×Addr)) (C:Addr) (s₀:o4) (H₀:Hp) (ex:u9):Cx :=
 { X with N:=N',env:=compEnvC scope cl C X.env,s₀:=s₀,H₀:=H₀,outer:=X.stack,stack:=X.stack,ex:=ex,fn:=λx=>decide (scope.names.lookup x=some .local\/scope.names.lookup x=some .cell),pn:=[],xe:=λ_ _=>False }
noncomputable def cst (idx:n6) (σ:St):St:=idx.map λo=>o.bind λi=>(σ[i]?).join
structure Nr (X:Cx) (N':v_) (idx:n6) (scope:Scope):Prop where
 kind:scope.kind=.function
 nod:(scope.names.map (·.1)).Nodup
 free:∀y∈scope.names,y.2=.free->X.env.kindOf y.1=some .cell\/X.env.kindOf y.1=some .free
 len:idx.length=N'.length
 at':∀(j i:Nat) (x:Str),N'[j]?=some x->idx[j]?=some (some i)->X.N[i]?=some x/\scope.names.lookup x=some .free
theorem Ol (env:Env):∀(names:List (Str×NameKind)) (acc:List (Str×Addr)),(∀y∈names,y.2=.free->∃c,env.cells.lookup y.1=some c) ->
 ∃
  cl,(forIn names acc λ(p:Str×NameKind) (r:List (Str×Addr))=>(if (p.2==NameKind.free)=true then (do let c <- cellOf env p.1;pure (ForInStep.yield ((p.1,c)::r))) else pure (ForInStep.yield r):Sem (ForInStep (List (Str×Addr)))))=(pure cl:Sem (List (Str×Addr))) /\
  (∀x c,cl.lookup x=some c->acc.lookup x=some c\/(env.cells.lookup x=some c/\(x,NameKind.free)∈names))/\(∀x,((∃c,acc.lookup x=some c)\/(x,NameKind.free)∈names)->∃c,cl.lookup x=some c)
 | [],acc,_=>⟨acc,rfl,λx c e=>.inl e,λx h=>by
  rcases h with h | h
  ·exact h
  ·simp at h⟩
 | (n,k)::r,acc,h=>by
  by_cases hk:k=NameKind.free
  ·subst hk
   obtain⟨c,hc⟩:=h (n,.free) (by simp) rfl
   obtain⟨cl,e,a,b⟩:=Ol env r ((n,c)::acc) λy hy=>h y (aU _ hy)
   refine⟨cl,?_,λx c' e'=>?_,λx hx=>?_⟩
   ·rw[gD]
    simp only[cellOf,hc];exact e
   ·rcases a x c' e' with z | ⟨z1,z2⟩
    ·rw[aZ]at z
     split at z
     ·rename_i hxe
      have:x=n:=by simpa using hxe
      subst this
      cases z
      exact .inr ⟨hc,by simp⟩
     ·exact .inl z
    ·exact .inr ⟨z1,aU _ z2⟩
   ·refine b x ?_
    rcases hx with ⟨c',z⟩ | z
    ·left
     rw[aZ]
     split
     ·exact⟨_,rfl⟩
     ·exact⟨_,z⟩
    ·rcases au.mp z with z | z
     ·left
      cases z
      exact⟨c,by simp⟩
     ·exact .inr z
  ·obtain⟨cl,e,a,b⟩:=Ol env r acc λy hy=>h y (aU _ hy)
   refine⟨cl,?_,λx c' e'=>?_,λx hx=>?_⟩
   ·rw[gD]
    have:(k==NameKind.free)=false:=by cases k <;> first | rfl | exact absurd rfl hk
    simp only[this];exact e
   ·rcases a x c' e' with z | ⟨z1,z2⟩
    ·exact .inl z
    ·exact .inr ⟨z1,aU _ z2⟩
   ·refine b x ?_
    rcases hx with z | z
    ·exact .inl z
    ·rcases au.mp z with z | z
     ·cases z;exact absurd rfl hk
     ·exact .inr z
theorem Ab9 (h:∀y∈scope.names,y.2=.free->∃c,env.cells.lookup y.1=some c) :
 ∃d,closureFor scope env=pure d/\(∀x c,d.lookup x=some c->env.cells.lookup x=some c/\(x,NameKind.free)∈scope.names)/\(∀x,(x,NameKind.free)∈scope.names->∃c,d.lookup x=some c):=by
 obtain⟨d,e,a,b⟩:=Ol _ _ [] h
 refine⟨d,?_,λx c g=>?_,λx f=>b x (.inr f)⟩
 ·unfold closureFor
  grind
 simp_all
noncomputable abbrev Bs9 (ifs:q_) (env:Env):Sem Bool:=forIn ifs true λc r=>if r=true then do let ok <- isTrue c env (eval c env);pure (ForInStep.yield ok) else pure (ForInStep.yield r)
def B2l (M:Model)(A:o6)(E:z_)(tg elt:Expr)(ifs:q_)(env:Env)(it acc v:Value)(Z:o4->Prop)(s:o4):Prop :=
 wpAny M A (letOwnedTupleGo tg it v) (λ_ a=>wpAny M A (assign tg env v) (λ_ b=>wpAny M A (Bs9 ifs env) (λok c=>match ok with
  | true=>wpAny M A (eval elt env) (λx d=>wpAny M A (call (.builtin "list.append") [acc,x]) (λ_ z=>Z z) E d) E c
  | false=>Z c) E b) E a) E s
theorem Bv4 (C:E=notedBy (model P w) A env λx z=>R (.error x) z) (Wd:Nat->o4->Prop)
 (step:∀n z,Wd n z->wpAny (model P w) A (pyNext it) (λr a=>match r with
  | none=>R (.ok .next) a
  | some v=>B2l (model P w) A E o i j env it acc v (λy=>∃m,m<n/\Wd m y) a) E z) (n:Nat) (h:Wd n s) :
 codeAny (model P w) A (.compLoop (.ListComp i [⟨o,f,j,0⟩] p l) 0 it acc env) R s:=by
 subst C
 refine codeAny_loop (I:=Wd) rfl (turn:=?_) n h
 intro k z G
 show wpAny (model P w) A (Sem.onRaise (compTurn (.ListComp i [⟨o,f,j,0⟩] p l) 0 it acc env) λx=>do noteFrame x env;theTreesLotGoes x) _ _ z
 apply wpAny_noted;rw[compTurn_list];apply wpAny_bind;apply wpAny_standAt;apply wpAny_bind
 refine wpAny_mono (step k z G) ?_ λ_ _ q=>q
 rintro (_ | v) a u
 ·exact wpAny_pure u
 apply wpAny_bind
 refine wpAny_mono u ?_ λ_ _ q=>q
 intro _ b D;apply wpAny_bind
 refine wpAny_mono D ?_ λ_ _ q=>q
 intro _ c F;apply wpAny_bind
 refine wpAny_mono F ?_ λ_ _ q=>q
 rintro (_ | _) d t
 ·exact wpAny_pure (And.intro rfl t)
 apply wpAny_bind;apply wpAny_bind
 refine wpAny_mono t ?_ λ_ _ q=>q
 intro y e H;apply wpAny_bind
 refine wpAny_mono H ?_ λ_ _ q=>q
 intro _ g B;exact wpAny_pure (wpAny_pure (And.intro rfl B))
def PTs (X:Cx)(ifs:q_)(t:TT):Prop :=
 ∀
  (pins:y_) (s:o4) (σ:St) (H:Hp) (Q:Bool->Hp->Prop),Inv X pins σ H s->t σ H Q ->
  wpAny (model X.prog X.w) X.A (forIn ifs true λc r=>if r=true then do let ok <- isTrue c X.env (eval c X.env);pure (ForInStep.yield ok) else pure (ForInStep.yield r)) (TP X pins σ Q) X.xe s
structure QTs (X:Cx) (e:(q_)) (t:TT):Prop where
 get:PTs X e t
def Br6:TT:=λ_ H Q=>Q true H
theorem Br7 : PTs X [] Br6:=λ_ _ _ H _ I h=>wpAny_tests_nil ⟨H,I,h⟩
def tLC (idx:n6)(wi:TI)(g:TG)(tc:TT)(te:TE):TE:=λσ H Q=>wi σ H λJ H1 =>
 ∃
  W:Nat->Nat->St->l_->Hp->Prop,(∃m,W 0 m (cst idx σ) [] H1)/\∀i m σ' acc H,W i m σ' acc H ->
  (J.stop i H/\∀p,H p=none->Q (.ref p) (upd H p (.lst acc))) \/
  (J.go i H/\acc.length<sizeLine/\∃N:St->l_->Hp->Prop,(∀σ' acc' H',N σ' acc' H'->∃m',m'<m/\W (i+1) m' σ' acc' H')/\∀x H',J.yld i H x H'->g x σ' H' λσ2 H2=>tc σ2 H2 λb H3 =>
   if b=true then te σ2 H3 λy H4=>N σ2 (acc++[y]) H4 else N σ2 acc H3)
theorem HOk.track (x:HOk P w H h) (hn:H a=none) (f:zJ P w (upd H a o) h a o):HOk P w (upd H a o) h:=λb u e=>by
 by_cases hb:b=a
 ·subst hb;rw[Be]at e;simp_all
 ·rw[Al hb]at e
  exact(x b u e).stay (λc v _ q=>q) λc q=>by rw[Al (Cg q hn)];grind λc d q=>by rw[Al (Cg q hn)];grind λc g d q=>by rw[Al (Cg q hn)];grind
theorem Lw {env:Env}:∀{names:List (Str×NameKind)}{x:Str},names.lookup x=some .free ->
 (names.map λ(n,k)=>if (k==NameKind.free&&env.scope.kind==.function&&env.kindOf n==some .cell) then (n,NameKind.cell) else (n,k)).lookup x=some .free \/
 (names.map λ(n,k)=>if (k==NameKind.free&&env.scope.kind==.function&&env.kindOf n==some .cell) then (n,NameKind.cell) else (n,k)).lookup x=some .cell
 | [],_,h=>by simp at h
 | (n,k)::r,x,h=>by
  have ih:=@Lw env r x;simp only[aK]
  cases hx:x==n with
  | true =>
   simp only[aZ,hx]at h
   cases h
   split
   ·right;simp[aZ,hx]
   ·left;simp[aZ,hx]
  | false =>
   simp only[aZ,hx]at h
   split
   ·simp only[aZ,hx];exact ih h
   ·simp only[aZ,hx];exact ih h
theorem Qc {env:Env}:∀{names:List (Str×NameKind)}{x:Str}{k:NameKind},
 (names.map λ(n,k)=>if (k==NameKind.free&&env.scope.kind==.function&&env.kindOf n==some .cell) then (n,NameKind.cell) else (n,k)).lookup x=some k ->
 names.lookup x=some k\/(k=.cell/\names.lookup x=some .free)
 | [],_,_,h=>by simp at h
 | (n,k')::r,x,k,h=>by
  have ih:=@Qc env r x k;simp only[aK]at h
  cases hx:x==n with
  | true =>
   by_cases hc:(k'==NameKind.free&&env.scope.kind==.function&&env.kindOf n==some .cell)=true
   ·rw[if_pos hc]at h
    simp only[aZ,hx]at h
    cases h
    right
    refine⟨rfl,?_⟩
    simp only[aZ,hx]
    have:k'=.free:=by
     simp only[fj]at hc;exact eO hc.1.1
    rw[this]
   ·rw[if_neg hc]at h
    simp only[aZ,hx]at h ⊢;exact .inl h
  | false =>
   simp only[aZ,hx]
   refine ih ?_
   by_cases hc:(k'==NameKind.free&&env.scope.kind==.function&&env.kindOf n==some .cell)=true
   ·rw[if_pos hc]at h;simpa only[aZ,hx] using h
   ·rw[if_neg hc]at h;simpa only[aZ,hx] using h
theorem lookup_mem {α:Type}:∀{l:List (Str×α)}{x:Str}{k:α},l.lookup x=some k->(x,k)∈l
 | [],_,_,h=>by simp at h
 | (n,k')::r,x,k,h=>by
  rw[aZ]at h
  split at h
  ·rename_i e
   have:x=n:=by simpa using e
   subst this
   cases h
   simp
  ·exact aU _ (lookup_mem h)
theorem mem_lookup {α:Type}:∀{l:List (Str×α)}{x:Str}{k:α},(l.map (·.1)).Nodup->(x,k)∈l->l.lookup x=some k
 | [],_,_,_,h=>by simp at h
 | (n,k')::r,x,k,hn,h=>by
  have hn:(n::r.map (·.1)).Nodup:=hn
  obtain⟨h1,h2⟩:=eF.mp hn
  rcases au.mp h with h | hr
  ·cases h;simp
  ·rw[aZ]
   split
   ·rename_i e
    have:x=n:=by simpa using e
    subst this
    exact absurd (show x∈r.map (·.1) from aA.mpr ⟨(x,k),hr,rfl⟩) h1
   ·exact mem_lookup h2 hr
section
variable {X:Cx}{N':v_}{idx:n6}{scope:Scope}
theorem By4 {pins:y_}{σ:St}{H:Hp}{s:o4}{fp:u9}{cl:List (Str×Addr)}{C:Addr}(L:Nr X N' idx scope)(I:Inv X pins σ H s)(hf:∀b∈fp,Qw X pins H b)(hfs:∀b∈fp,b<s.heap.objs.size)
 (hC:s.heap.objs.size<=C) (c1:∀x c,cl.lookup x=some c->(X.env.cells.lookup x=some c/\(x,NameKind.free)∈scope.names)\/(s.heap.objs.size<=c/\(x,NameKind.cell)∈scope.names)) (c2:∀x,((x,NameKind.free)∈scope.names\/(x,NameKind.cell)∈scope.names)->∃c,cl.lookup x=some c) (c3:∀x y c,cl.lookup x=some c->cl.lookup y=some c->x=y) :
 (G7 X N' scope cl C s H fp).Ok where
 mod:=I.ok.mod
 kind:=L.kind
 glob:=I.ok.glob
 blt:=I.ok.blt
 above:=hC
 inj:=c3
 has:=λx h=>by
  refine c2 x ?_
  have h':(relabel scope X.env).names.lookup x=some .cell\/(relabel scope X.env).names.lookup x=some .free:=h
  rcases h' with h | h
  ·rcases Qc h with z | ⟨_,z⟩
   ·exact .inr (lookup_mem z)
   ·exact .inl (lookup_mem z)
  ·rcases Qc h with z | ⟨z,_⟩
   ·exact .inl (lookup_mem z)
   ·cases z
 cab:=λx c hx hc=>by
  have hx':scope.names.lookup x=some .local\/scope.names.lookup x=some .cell:=aQ hx
  rcases c1 x c hc with ⟨_,z⟩ | ⟨z,_⟩
  ·have z:=mem_lookup L.nod z
   rw[z]at hx'
   rcases hx' with hx' | hx' <;> cases hx'
  ·exact z
 hd:=I.ok.hd
 frames:=I.ok.frames
 stk:=.inl rfl
 exf
  := λb hb=>⟨aJ (aC (hfs b hb) hC),λx c e=>by
  rcases c1 x c e with ⟨z,_⟩ | ⟨z,_⟩
  ·exact(hf b hb).2.2.2.2.1 x c z
  ·exact a_ (aC (hfs b hb) z)⟩
 bs:=I.bs
 bsz:=ao I.ok.bsz I.sz
 noex:=λb o e hb=>by
  rcases (hf b hb).2.2.2.1 with z | z
  ·exact I.ok.noex b o e z
  ·exact absurd (aC (Heap.lt_size e) (ao I.ok.bsz z)) (bA _)
 exfs:=λb hb z=>by
  rcases au.mp (I.stkSub b z) with q | q
  ·exact(hf b hb).2.1 q
  ·exact(hf b hb).2.2.1 q
 funs:=I.stack
 frf:=I.stkFree
 tab:=λp hp=>I.base.tbls p.1 p.2 (I.ok.tab p hp)
theorem Bn6 {pins:y_}{σ:St}{H:Hp}{s s':o4}{fp:u9}{cl:List (Str×Addr)}{C:Addr}{m:x_}(L:Nr X N' idx scope)(I:Inv X pins σ H s)(hf:∀b∈fp,Qw X pins H b)(hfs:∀b∈fp,b<s.heap.objs.size)
 (hC:s.heap.objs.size<=C) (c1:∀x c,cl.lookup x=some c->(X.env.cells.lookup x=some c/\(x,NameKind.free)∈scope.names)\/(s.heap.objs.size<=c/\(x,NameKind.cell)∈scope.names)) (c2:∀x,((x,NameKind.free)∈scope.names\/(x,NameKind.cell)∈scope.names)->∃c,cl.lookup x=some c) (c3:∀x y c,cl.lookup x=some c->cl.lookup y=some c->x=y) (c4:∀x c,cl.lookup x=some c->(x,NameKind.cell)∈scope.names->s'.heap.IsCell c none)
 (ho:s'.os=s.os) (hg:s'.gens=s.gens) (k:∀b o,s.heap.get? b=some o->s'.heap.get? b=some o) (hn:s'.heap.Ns C m):Inv (G7 X N' scope cl C s H fp) [] (cst idx σ) H s' where
 ok:=By4 L I hf hfs hC c1 c2 c3
 os:=ho
 bare:=by rw[hg];exact I.bare
 base:=Un.kept k
 loc:=by
  refine⟨m,hn,λj x v e1 e2 e3=>?_⟩
  obtain⟨m0,hn0,hl⟩:=I.loc
  have e2':(idx.map λo=>o.bind λi=>(σ[i]?).join)[j]?=some (some v):=e2
  rw[bD]at e2'
  cases ei:idx[j]? with
  | none=>rw[ei]at e2';cases e2'
  | some o =>
   rw[ei]at e2';simp only[bL,cY]at e2'
   cases o with
   | none=>cases e2'
   | some i =>
    have e2'':(σ[i]?).join=some v:=e2';obtain⟨hNi,hfr⟩:=L.at' j i x e1 ei
    have hσ:σ[i]?=some (some v):=by
     cases q:σ[i]? with
     | none=>rw[q]at e2'';cases e2''
     | some z=>rw[q]at e2'';rw[show z=some v from e2'']
    have hk:=L.free _ (lookup_mem hfr) rfl
    have hvis:Vis X.env.scope x:=by
     rcases hk with z | z
     ·exact .inr (.inl z)
     ·exact .inr (.inr z)
    obtain⟨u,r,lk⟩:=hl i x v hNi hσ hvis
    refine⟨u,r,.inr ?_⟩
    rcases lk with ⟨z,_⟩ | ⟨_,c,hc,hcl⟩
    ·exfalso
     have z':X.env.kindOf x=some .local:=z
     rcases hk with q | q
     ·rw[show X.env.kindOf x=_ from q]at z';cases z'
     ·rw[show X.env.kindOf x=_ from q]at z';cases z'
    ·obtain⟨c',hc'⟩:=c2 x (.inl (lookup_mem hfr))
     have:c'=c:=by
      rcases c1 x c' hc' with ⟨q,_⟩ | ⟨_,q⟩
      ·rw[hc]at q;exact(cG q).symm
      ·rw[mem_lookup L.nod q]at hfr;cases hfr
     subst this
     refine⟨?_,c',hc',let ⟨o,e,d⟩:=hcl; ⟨o,k _ o e,d⟩⟩
     rcases Lw (env:=X.env) hfr with q | q
     ·exact .inr q
     ·exact .inl q
 cell:=λx c e=>by
  rcases c1 x c e with ⟨q,_⟩ | ⟨_,q⟩
  ·obtain⟨v,z⟩:=I.cell x c q
   exact⟨v,let ⟨o,e,d⟩:=z; ⟨o,k _ o e,d⟩⟩
  ·exact⟨none,c4 x c e q⟩
 free:=I.hok.fresh hC
 freeC:=λx c e=>by
  rcases c1 x c e with ⟨q,_⟩ | ⟨q,_⟩
  ·exact I.freeC x c q
  ·exact I.hok.fresh q
 pin:=λp hp=>by simp at hp
 hok:=I.hok.kept k
 len:=by
  show (idx.map _).length=N'.length
  rw[aj];exact L.len
end
section
variable {X:Cx}{N':v_}{idx:n6}{scope:Scope}{elt tg iter:Expr}{ifs:q_}{pos:Pos}{wi:TI}{g:TG}{tc:TT}{te:TE}
theorem Us:∀(names:List (Str×NameKind)) (h:Heap) (acc:List (Str×Addr)),(∀x y c,acc.lookup x=some c->acc.lookup y=some c->x=y)->(∀x c,acc.lookup x=some c->c<h.objs.size) ->
 (∀x c,(cellsFrom h.objs.size names acc).lookup x=some c->acc.lookup x=some c\/(h.objs.size<=c/\(x,NameKind.cell)∈names/\(pushCells h names).IsCell c none)) /\
 (∀x,((∃c,acc.lookup x=some c)\/(x,NameKind.cell)∈names)->∃c,(cellsFrom h.objs.size names acc).lookup x=some c) /\
 (∀x y c,(cellsFrom h.objs.size names acc).lookup x=some c->(cellsFrom h.objs.size names acc).lookup y=some c->x=y)
 | [],h,acc,hi,hl=>by
  refine⟨λx c e=>.inl e,λx z=>?_,hi⟩
  rcases z with z | z
  ·exact z
  ·exact nomatch z
 | (n,k)::r,h,acc,hi,hl=>by
  unfold cellsFrom pushCells
  by_cases hk:(k==NameKind.cell)=true
  ·rw[if_pos hk,if_pos hk]
   have hk':k=.cell:=eO hk;subst hk';have sz:(h.push { cls:=.type "cell",data:=.cell none }).objs.size=h.objs.size+1:=Heap.size_push ..
   have ih:=Us r (h.push { cls:=.type "cell",data:=.cell none }) ((n,h.objs.size)::acc) (λx y c e1 e2=>?_) (λx c e=>?_)
   ·rw[sz]at ih
    obtain⟨i1,i2,i3⟩:=ih
    refine⟨λx c e=>?_,λx z=>?_,i3⟩
    ·rcases i1 x c e with q | ⟨q1,q2,q3⟩
     ·rw[aZ]at q
      split at q
      ·rename_i hb
       cases q
       have:x=n:=eO hb;subst this;exact .inr ⟨ak _,dq,_,pushCells_keeps _ _ _ _ (Heap.get?_push_size _ rfl),rfl⟩
      ·exact .inl q
     ·exact .inr ⟨fB q1,aU _ q2,q3⟩
    ·refine i2 x ?_
     by_cases hx:x=n
     ·subst hx;exact .inl ⟨h.objs.size,by simp⟩
     ·rcases z with ⟨c,z⟩ | z
      ·exact .inl ⟨c,by rw[aZ,beq_false_of_ne hx];exact z⟩
      ·rcases au.mp z with z | z
       ·cases z;exact absurd rfl hx
       ·exact .inr z
   ·rw[aZ]at e1 e2
    split at e1
    ·rename_i hb1
     cases e1
     split at e2
     ·rename_i hb2
      exact(eO hb1).trans (eO hb2).symm
     ·exact absurd (hl _ _ e2) (bA _)
    ·split at e2
     ·cases e2
      exact absurd (hl _ _ e1) (bA _)
     ·exact hi x y c e1 e2
   ·rw[sz]
    rw[aZ]at e
    split at e
    ·cases e;exact bY _
    ·exact fO (hl x c e)
  ·rw[if_neg hk,if_neg hk]
   have ih:=Us r h acc hi hl;obtain⟨i1,i2,i3⟩:=ih
   refine⟨λx c e=>?_,λx z=>i2 x ?_,i3⟩
   ·rcases i1 x c e with q | ⟨q1,q2,q3⟩
    ·exact .inl q
    ·exact .inr ⟨q1,aU _ q2,q3⟩
   ·rcases z with z | z
    ·exact .inl z
    ·rcases au.mp z with z | z
     ·cases z;exact absurd rfl hk
     ·exact .inr z
theorem Bu5
 (h:Q (newEnv scope s.heap.objs.size a (cellsFrom (s.heap.objs.size+1) scope.names d) qual none .none (some b) builtinsNs) { s with heap:=pushCells (s.heap.push { cls:=.type "dict",data:=.dict #[] }) scope.names }) :
 wpAny M A (newFunctionEnv scope a d [] qual none .none (some b)) Q E s:=by
 refine wpAny_bind (wpAny_alloc ?_)
 refine wpAny_bind (wpAny_layCells _ λe f c=>by trivial _ _ _ _ ?_)
 rw[show ({ s with heap:=s.heap.push _ }:o4).heap.objs.size=s.heap.objs.size+1 from Heap.size_push ..]
 exact wpAny_bind (wpAny_pure (wpAny_pure h))
theorem A0y {K:List (Str×Addr)} {RR:Value->Addr->Result->o4->Prop}{F:l_->Hp->Prop}
 (L:Nr X N' idx scope) (hc:X.calm=true)
 (hg:∀K C s₀ H₀ ex,PG (G7 X N' scope K C s₀ H₀ ex) tg g) (ht:∀K C s₀ H₀ ex,PTs (G7 X N' scope K C s₀ H₀ ex) ifs tc) (he:∀K C s₀ H₀ ex,PE (G7 X N' scope K C s₀ H₀ ex) elt te)
 (c1:∀x c,K.lookup x=some c->X.env.cells.lookup x=some c/\(x,NameKind.free)∈scope.names) (c2:∀x,(x,NameKind.free)∈scope.names->∃c,K.lookup x=some c)
 (I2:Inv X pins σ R s2) (T:Turn X.prog X.w X.K tg J fp it tn) (st2:tn 0 s2.heap) (f2:∀b∈fp,Qw X pins R b) (W:Nat->Nat->St->l_->Hp->Prop) (w0:∃m,W 0 m (cst idx σ) [] R)
 (turn:∀i m t acc H,W i m t acc H->(J.stop i H/\F acc H) \/
  (J.go i H/\acc.length<sizeLine/\∃N:St->l_->Hp->Prop,(∀t acc' H',N t acc' H'->∃m',m'<m/\W (i+1) m' t acc' H')/\∀x H',J.yld i H x H'->g x t H' λZ R=>tc Z R λb H3 =>
   if b=true then te Z H3 λy H4=>N Z (acc++[y]) H4 else N Z acc H3))
 (hR:∀(D C:Addr) (s':o4) (acc:l_) (a:v4) (n:Nat) (H':Hp) (m:x_),s2.heap.objs.size<=D->s2.heap.objs.size<=C->D≠C->s'.heap.Ns C m->s'.heap.get? D=some { cls:=.type "list",data:=.seq a.toArray n }->Vals acc a->acc.length<=sizeLine ->
  H' D=none->H' C=none->s'.os=s2.os->AllBare s'.gens->Un (frs X.stack) fp R H' s2.heap s'.heap->HOk X.prog X.w H' s'.heap->F acc H'->RR (.ref D) C (.ok .next) s') :
 wpAny (model X.prog X.w) X.A (newList []) (λacc B=>wpAny (model X.prog X.w) X.A (newFunctionEnv scope X.env.globals K [] X.env.qual none .none (some X.env)) (λcenv s₄ =>
  codeAny (model X.prog X.w) X.A (.compStart (.ListComp elt [⟨tg,iter,ifs,0⟩] scope pos) 0 (.ref it) acc { cenv with scope:=relabel scope X.env }) (RR acc cenv.locals) s₄) E B) E s2:=by
 have U:∀b∈fp,b<s2.heap.objs.size:=λb w=>let ⟨o,e,_⟩:=T.obj _ _ st2 b w; Heap.lt_size e
 refine wpAny_newObj_type (Bu5 ?_)
 dsimp only
 generalize hH2:s2.heap.push { cls:=.type "list",dict:=none,data:=.seq ([]:v4).toArray }=G
 have hC:G.objs.size=s2.heap.objs.size+1:=by rw[<- hH2,Heap.size_push]
 have hDC:s2.heap.objs.size≠G.objs.size:=by rw[hC];exact aJ (bY _)
 have A:s2.heap.objs.size<=G.objs.size:=by rw[hC];exact fK _
 obtain⟨j,l⟩:∃j,j=pushCells (G.push { cls:=.type "dict",data:=.dict #[] }) scope.names:=⟨_,rfl⟩;rw[<- l]
 have S:j.Ns G.objs.size (λ_=>none):=by rw[l];exact(Heap.Ns.new G (.type "dict")).keeps (pushCells_keeps _ _)
 have old:∀b o,s2.heap.get? b=some o->j.get? b=some o:=λb o e=>by rw[l];exact pushCells_keeps _ _ b o (Heap.get?_push_of_some _ (hH2▸Heap.get?_push_of_some _ e))
 have hacc:j.get? s2.heap.objs.size=some { cls:=.type "list",dict:=none,data:=.seq ([]:v4).toArray }:=by rw[l];exact pushCells_keeps _ _ _ _ (Heap.get?_push_of_some _ (hH2▸Heap.get?_push_size _ rfl))
 have szD:(G.push { cls:=.type "dict",data:=.dict #[] }).objs.size=G.objs.size+1:=Heap.size_push ..
 obtain⟨k1,k2,k3⟩:=Us scope.names (G.push { cls:=.type "dict",data:=.dict #[] }) K (λx y c e1 e2=>I2.ok.inj x y c (c1 x c e1).1 (c1 y c e2).1) (λx c e=>by
  obtain⟨v,o,ho,_⟩:=I2.cell x c (c1 x c e).1
  rw[szD];exact fO (aC (Heap.lt_size ho) A))
 rw[szD,<- l]at k1;rw[szD]at k2 k3;obtain⟨cl0,hcl0⟩:∃cl0,cl0=K:=⟨_,rfl⟩;have c1o:=c1;have c2o:=c2;rw[<- hcl0]at k1 k2 k3 c1o c2o;rw[<- hcl0]
 clear c1 c2
 generalize cellsFrom (G.objs.size+1) scope.names cl0=K at k1 k2 k3 ⊢
 have c1:∀x c,K.lookup x=some c->(X.env.cells.lookup x=some c/\(x,NameKind.free)∈scope.names)\/(s2.heap.objs.size<=c/\(x,NameKind.cell)∈scope.names):=λx c e=>by
  rcases k1 x c e with q | ⟨q1,q2,_⟩
  ·exact .inl (c1o x c q)
  ·exact .inr ⟨ao A (fB q1),q2⟩
 have c2:∀x,((x,NameKind.free)∈scope.names\/(x,NameKind.cell)∈scope.names)->∃c,K.lookup x=some c:=λx z=>k2 x (z.imp (λz=>c2o x z) id)
 have c4:∀x c,K.lookup x=some c->(x,NameKind.cell)∈scope.names->j.IsCell c none:=λx c e z=>by
  rcases k1 x c e with q | ⟨_,_,q⟩
  ·have:=mem_lookup L.nod (c1o x c q).2
   rw[mem_lookup L.nod z]at this;cases this
  ·exact q
 let X':Cx:=G7 X N' scope K G.objs.size s2 R fp
 have I1:Inv X' [] (cst idx σ) R { s2 with heap:=j }:=Bn6 L I2 f2 U A c1 c2 k3 c4 rfl rfl old S
 have hD2:R s2.heap.objs.size=none:=I2.hok.fresh (ak _)
 have hDfs:s2.heap.objs.size∉X'.fs:=λz=>by
  obtain⟨_,o,ho,_⟩:=I2.stack.mem z;exact absurd (Heap.lt_size ho) (bA _)
 have hDfp:s2.heap.objs.size∉fp:=λz=>absurd (U _ z) (bA _)
 have P:∀{H':Hp} {pl:y_},(∀b∈fp,H' b=none)->(∀p∈pl,p.1∉fp)->∀b∈fp,Qw X' pl H' b:=λ{H' pl} hn M b w =>
  ⟨hn b w,aJ (aC (U b w) A),λz=>by
   rcases au.mp (I2.stkSub b z) with q | q
   ·exact(f2 b w).2.1 q
   ·exact(f2 b w).2.2.1 q,.inl w,λx c e=>by
    rcases c1 x c e with ⟨z,_⟩ | ⟨z,_⟩
    ·exact(f2 b w).2.2.2.2.1 x c z
    ·exact a_ (aC (U b w) z),λp Q z=>M p (by have hp':p∈[]++pl:=Q;simpa using hp') (z▸w)⟩
 have loop:∀B:o4,B={ s2 with heap:=j } ->
  codeAny (model X.prog X.w) X.A (.compLoop (.ListComp elt [⟨tg,iter,ifs,0⟩] scope pos) 0 (.ref it) (.ref s2.heap.objs.size) (compEnvC scope K G.objs.size X.env)) (RR (.ref s2.heap.objs.size) G.objs.size) B:=by
  rintro B rfl
  obtain⟨m0,w0⟩:=w0
  refine Bv4 rfl (Wd:=λn s'=>∃i t acc a k H',Inv X' [(s2.heap.objs.size,{ cls:=.type "list",data:=.seq a.toArray k })] t H' s'/\Vals acc a/\acc.length<=sizeLine/\tn i s'.heap/\(∀b∈fp,H' b=none)/\W i n t acc H') (step:=?_) m0
   ⟨0,cst idx σ,[],[],0,R,I1.pins_of (λp Q=>?_),.nil,aD _,T.keep _ _ _ st2 λb _ o e=>old b o e,λb w=>(f2 b w).1,w0⟩
  ·rintro n s3 ⟨i,Y,acc,a,k,H3,I3,rv,hz,st3,fr3,w3⟩
   have M:∀p∈[((s2.heap.objs.size,{ cls:=.type "list",data:=.seq a.toArray k }):Addr×Obj)],p.1∉fp:=λp Q=>by
    rcases az.mp Q with rfl;exact hDfp
   rcases turn i n Y acc H3 w3 with ⟨stop,q⟩ | ⟨go,hlt,N,hN,step⟩
   ·refine wpAny_mono (T.done X' rfl rfl rfl hc i _ s3 Y H3 (λ_ _=>False) I3 (P fr3 M) st3 stop) (λr s4 ⟨hr,I4⟩=>?_) λ_ _ f=>f.elim
    subst hr;obtain⟨p1,p2,p3,p4,p5⟩:=I4.pin (s2.heap.objs.size,{ cls:=.type "list",data:=.seq a.toArray k }) (bU _ dq);obtain⟨m4,hn4,_⟩:=I4.loc;exact hR _ _ s4 acc a k H3 m4 (ak _) A hDC hn4 p1 rv hz p2 I4.free I4.os I4.bare I4.base I4.hok q
   ·refine wpAny_mono (T.item X' rfl rfl rfl hc i _ s3 Y H3 (λ_ _=>False) I3 (P fr3 M) st3 go) (λr s4 ⟨u,hr,h4⟩=>?_) λ_ _ f=>f.elim
    subst hr
    refine wpAny_mono h4 (λ_ s5 ⟨x,H5,I5,r5,y5,st5,fr5⟩=>?_) λ_ _ f=>f.elim
    refine wpAny_mono (hg _ _ _ _ _ _ s5 Y H5 x u _ (I5.pinned (P fr5 M) (T.obj _ _ st5)) r5 (step x H5 y5)) (λ_ s6 ⟨O,H6,I6,q6⟩=>?_) λ_ _ f=>f.elim
    refine wpAny_mono (ht _ _ _ _ _ _ s6 O H6 _ I6 q6) (λok s7 ⟨H7,I7,q7⟩=>?_) λ_ _ f=>f.elim
    have tnk:∀{t:St} {H':Hp} {s':o4},Inv X' ([(s2.heap.objs.size,{ cls:=.type "list",data:=.seq a.toArray k })]++Z4 fp s5.heap) t H' s'->tn (i+1) s'.heap/\∀b∈fp,H' b=none:=λ{t H' s'} I=>by
     refine⟨T.keep _ _ _ st5 λb w o e=>(I.pin (b,o) (bU _ (bU _ (O3 w e)))).1,λb w=>?_⟩
     obtain⟨o,e,d⟩:=T.obj _ _ st5 b w;exact(I.pin (b,o) (bU _ (bU _ (O3 w e)))).2.1
    cases ok with
    | false =>
     rw[if_neg (by decide)]at q7
     obtain⟨m',hm,w7⟩:=hN _ _ _ q7;exact⟨m',hm,i+1,O,acc,a,k,H7,I7.unpinned,rv,hz,(tnk I7).1,(tnk I7).2,w7⟩
    | true =>
     rw[if_pos rfl]at q7
     refine wpAny_mono (he _ _ _ _ _ _ s7 O H7 _ I7 q7) (λy s8 ⟨yv,H8,I8,r8,q8⟩=>?_) λ_ _ f=>f.elim
     obtain⟨m',hm,w8⟩:=hN _ _ _ q8;obtain⟨p1,p2,p3,p4,p5⟩:=I8.pin (s2.heap.objs.size,{ cls:=.type "list",data:=.seq a.toArray k }) (bU _ dq)
     refine call_meets PySem.F.slot_list_append ⟨_,p1,rfl⟩ PySem.F.entry_list_append (PySem.F.args_list_append_2 _ _) (PySem.list_append s2.heap.objs.size a.toArray k y (by have:=rv.length;rw[bJ];omega)) ⟨p1,?_⟩
     have hz':=rv.length;obtain⟨t8,f8⟩:=tnk I8
     have I8':Inv X' [] O H8 s8:=I8.pins_of λp Q=>nomatch Q
     have q:=PySem.IsL.update p1 (·.push y)
     have e':(a.toArray.push y)=(a++[y]).toArray:=by simp
     rw[e']at q
     obtain⟨k9,q⟩:∃k9,(s8.heap.update s2.heap.objs.size (Obj.mapSeq (·.push y))).get? _=some { cls:=.type _,data:=.seq _ k9 }:=⟨_,q⟩
     have I9:Inv _ _ _ _ { s8 with heap:=s8.heap.update _ (Obj.mapSeq (·.push y)) } :=
      I8'.turned (λb o w e=>(Heap.get?_update_other _ _ (aL w)).trans e) p2 p3 (.inr (ak _)) (λx c e z=>by
       obtain⟨v,o,ho,hd⟩:=I8'.cell x c e
       rw[z,p1]at ho;cases ho;cases hd) (λp Q=>by have hp':p∈([]:List _)++[]:=Q;simp at hp')
     refine⟨m',hm,i+1,O,acc++[yv],a++[y],k9,H8,I9.pins_of λp Q=>?_,rv.append (.cons r8 .nil),by rw[aM,fP];omega,T.keep _ _ _ t8 λb w o e=>(Heap.get?_update_other _ _ (λz=>hDfp (by rw[z];exact w))).trans e,f8,w8⟩
     rcases az.mp Q with rfl
     exact⟨q,p2,p3,p4,λv z=>by cases z⟩
  ·rcases az.mp Q with rfl
   exact⟨hacc,hD2,hDC,hDfs,λv z=>by cases z⟩
 exact codeAny_compStart_list (loop _ rfl) (T.self _ 0 _ _ _ (T.keep _ _ _ st2 λb _ o e=>old b o e) (loop _ rfl))
theorem B6r (L:Nr X N' idx scope)(hc:X.calm=true)(hi:PI X tg iter wi)
 (hg:∀t C s₀ H₀ ex,PG (G7 X N' scope t C s₀ H₀ ex) tg g) (ht:∀t C s₀ H₀ ex,PTs (G7 X N' scope t C s₀ H₀ ex) ifs tc) (he:∀t C s₀ H₀ ex,PE (G7 X N' scope t C s₀ H₀ ex) elt te)
 (hs:∀x,foldedSetIterable iter X.env x=pure x:=by intro _;rfl) :
 PE X (.ListComp elt [⟨tg,iter,ifs,0⟩] scope pos) (tLC idx wi g tc te):=by
 intro j s Z H Q I h
 obtain⟨t,l,c1,c2⟩:=Ab9 (env:=X.env) (scope:=scope) λy hy hf=>I.ok.has y.1 (L.free y hy hf)
 rw[eval_ListComp]
 refine wpAny_comprehension_free (use:=none) rfl hs l L.kind (λy hy hl=>mem_lookup L.nod (by grind)) (wpAny_mono (hi j s Z H _ I h) (λv s1 h1=>wpAny_mono h1 (λitv V h2=>?_) λ_ _ e=>e) λ_ _ e=>e)
 obtain⟨it,fp,tn,J,H2,rfl,I2,T,M,z,W,w0,A⟩:=h2
 refine A0y (F:=λa H=>∀p,H p=none->Q (.ref p) (upd H p (.lst a))) (RR:=λa C=>compPost (model X.prog X.w) X.A X.xe none (EP X j Z Q) a C) L hc hg ht he c1 c2 I2 T M z W w0 A ?_
 intro D C s' a w n N m hD hC O hn P rv hz d hC' ho K i hk q
 refine⟨m,hn,λG f=>?_⟩
 have eD:G.get? D=some { cls:=.type "list",data:=.seq w.toArray n }:=f.extBut _ _ O P
 have S:HOk X.prog X.w N G:=λb u e=>by
  refine (hk b u e).stay (λc v hc q=>f.extBut c v ?_ q) (λ_ q=>q) λ_ _ q=>q
  grind
 have U:HOk X.prog X.w (upd N D (.lst a)) G:=S.track d ⟨hz,w,n,rv,eD⟩
 have k:∀b o,V.heap.get? b=some o->b≠C:=λb o e=>aJ (aC (Heap.lt_size e) hC)
 have R:∀b o,V.heap.get? b=some o->b≠D:=λb o e=>aJ (aC (Heap.lt_size e) hD)
 have u2:Un (frs X.stack) fp H2 (upd N D (.lst a)) V.heap G :=
  ⟨
   λb o e r B Y=>f.extBut b o (k b o e) (i.keep b o e r B Y),λb o e r B Y=>let ⟨sl,q⟩:=i.slot b o e r B Y; ⟨sl,f.extBut b _ (k b o e) q⟩,
   λb o e r B=>by rw[Al (R b o e)];exact i.free b o e r B,λb o e r=>let ⟨o',q⟩:=i.there b o e r; ⟨o',f.extBut b _ (k b o e) q⟩,
   λb xs e=>by rw[Al (Cg (i.tups b _ e) d)];exact i.tups b _ e,λb o u e=>by rw[Al (Cg (i.frzs b o u e) d)];exact i.frzs b o u e,
   λb ps e=>by rw[Al (Cg (i.tbls b _ e) d)];exact i.tbls b _ e⟩
 refine⟨.ref D,upd _ D _,I2.call' ho u2 U K λb E=>⟨(z b E).2.2.2.1,(z b E).2.1,(z b E).2.2.2.2.1,(z b E).2.2.2.2.2⟩,rfl,q D d⟩
end
section
variable {X:Cx}{N':v_}{idx:n6}{scope:Scope}{elt tg iter:Expr}{ifs:q_}{pos:Pos}{wi:TI}{g:TG}{tc:TT}{te:TE}
theorem Bi2 {K t:Pos}(hN:X.N.Nodup) (hi':X.N[i]?=some y) (hy:Loc X.env.scope y) (L:Nr X N' idx scope) (hc:X.calm=true) (hi:PI X tg iter wi)
 (hg:∀B C s₀ H₀ ex,PG (G7 X N' scope B C s₀ H₀ ex) tg g) (ht:∀B C s₀ H₀ ex,PTs (G7 X N' scope B C s₀ H₀ ex) ifs tc) (he:∀B C s₀ H₀ ex,PE (G7 X N' scope B C s₀ H₀ ex) elt te)
 (hsw:swapsWith (.ListComp elt [⟨tg,iter,ifs,0⟩] scope pos) (some (.Name y K)) t.line X.env=pure true:=by rfl)
 (hf:X.fn y=true\/X.env.scope.names.lookup y=some .local:=by first | exact .inl rfl | exact .inr rfl | assumption)
 (hs:∀x,foldedSetIterable iter X.env x=pure x:=by intro _;rfl) :
 PS X (.Assign [.Name y K] (.ListComp elt [⟨tg,iter,ifs,0⟩] scope pos) t) (Xd (tLC idx wi g tc te) (J5 i)):=by
 intro d s M H j I h
 have h:tLC idx wi g tc te M H λx H1=>j.nx (M.set i (some x)) H1:=h
 obtain⟨B,A,c1,c2⟩:=Ab9 (env:=X.env) (scope:=scope) λy hy hf=>I.ok.has y.1 (L.free y hy hf)
 rw[exec_Assign_Name_used _ _ _ _ hsw]
 refine wpAny_bind (wpAny_standAt (wpAny_bind ?_))
 show wpAny _ X.A (do let _ <- comprehension (.ListComp elt [⟨tg,iter,ifs,0⟩] scope pos) scope X.env _ (newList []) false (eval iter X.env) (some (assign (.Name y K) X.env))) _ _ s
 refine wpAny_bind (wpAny_mono (wpAny_comprehension_free (use:=some (assign (.Name y K) X.env)) (Q:=λ_ r=>SP X d j .next r) rfl hs A L.kind (λy hy hl=>mem_lookup L.nod (by rw[<- hl];exact hy))
  (wpAny_mono (hi d s M H _ I h) (λv s1 h1=>wpAny_mono h1 (λitv s2 h2=>?_) λ_ _ e=>e) λ_ _ e=>e)) (λ_ r hq=>wpAny_pure (wpAny_pure hq)) λ_ _ e=>e)
 obtain⟨it,fp,tn,J,H2,rfl,G,T,U,N,W,w0,O⟩:=h2
 refine A0y (F:=λf H=>∀p,H p=none->j.nx (M.set i (some (.ref p))) (upd H p (.lst f))) (RR:=λf C=>compPost (model X.prog X.w) X.A X.xe (some (assign (.Name y K) X.env)) (λ_ r=>SP X d j .next r) f C) L hc hg ht he c1 c2 G T U N W w0 O ?_
 intro D C r f V n Y m hD P Z hn hDo rv hz k hC' ho hg' l hk q;have S:HOk X.prog X.w (upd Y D (.lst f)) r.heap:=hk.track k ⟨hz,V,n,rv,hDo⟩
 have neD:∀b o,s2.heap.get? b=some o->b≠D:=λb o e=>aJ (aC (Heap.lt_size e) hD)
 have u2:Un (frs X.stack) fp H2 (upd Y D (.lst f)) s2.heap r.heap :=
  ⟨
   l.keep,l.slot,λb o e n1 n2=>by rw[Al (neD b o e)];exact l.free b o e n1 n2,l.there,
   λb xs e=>by rw[Al (Cg (l.tups b xs e) k)];exact l.tups b xs e,λb o u e=>by rw[Al (Cg (l.frzs b o u e) k)];exact l.frzs b o u e,
   λb ps e=>by rw[Al (Cg (l.tbls b ps e) k)];exact l.tbls b ps e⟩
 have I3:Inv X d M (upd Y D (.lst f)) r:=G.call' ho u2 S hg' (λb E=>⟨(N b E).2.2.2.1,(N b E).2.1,(N b E).2.2.2.2.1,(N b E).2.2.2.2.2⟩)
 have hCL:C≠X.env.locals:=a_ (aC G.lt P)
 have hCc:∀x c,X.env.cells.lookup x=some c->c≠C:=λx c e z=>by
  obtain⟨v,w⟩:=G.cell x c e
  exact absurd (aC w.lt (by rw[z];exact P)) (bA _)
 have hCp:∀p∈X.pn++d,p.1≠C:=λp hp z=>absurd (aC (Heap.lt_size (G.pin p hp).1) (by rw[z];exact P)) (bA _)
 refine wpAny_assign_Name (Aj9 (v:=.ref D) I3 hN hi' hy rfl (λs4 I4 ⟨a,sb,ha⟩=>?_) hf)
 have hCa:C≠a:=by
  grind
 refine⟨m,hn.sameBut sb hCa,λh' R=>?_⟩
 refine⟨_,_,I4.turned (λb o E e=>R.extBut b o E e) ?_ hCL (.inr (ao G.sz P)) hCc hCp,q D k⟩
 rw[Al (aL Z)];exact hC'
end
section
variable {X:Cx}
noncomputable def Ub (H:Hp):V->Option String
 | .non=>some "NoneType" | .bl _=>some "bool" | .int _=>some "int" | .str _=>some "str"
 | .ref a=>match H a with
  | some (.lst _)=>some "list"
  | some (.tup _)=>some "tuple"
  | some (.dK _)=>some "dict"
  | some (.dT _)=>some "dict"
  | _=>none
 | _=>none
section
variable {X:Cx}{pins:y_}{σ:St}{H:Hp}{s:o4}
theorem Bl3 (I:Inv X pins σ H s) (f:RelV x u) (h:Ub H x=some t):∃hp:Heap->Prop,PySem.W.KitX X.K u (.type t) hp/\hp s.heap/\u≠.builtin "__main__.__loader__#opaque" := by
 cases x with
 | non=>cases h;cases (f);exact⟨_,PySem.W.kitx_none,True.intro,λz=>nomatch z⟩
 | bl b=>cases h;cases (f);exact⟨_,PySem.W.kitx_bool,True.intro,λz=>nomatch z⟩
 | int i=>cases h;obtain⟨t,rfl⟩:=f;exact⟨_,PySem.W.kitx_int,True.intro,λz=>nomatch z⟩
 | str y=>cases h;obtain⟨t,rfl⟩:=f;exact⟨_,PySem.W.kitx_str,True.intro,λz=>nomatch z⟩
 | ref a =>
  cases (f)
  have c:∀T,PySem.W.KitX X.K (.ref a) (.type T) (PySem.W.KitAt a T)->PySem.W.KitAt a T s.heap->some T=some t->∃hp:Heap->Prop,PySem.W.KitX X.K (.ref a) (.type t) hp/\hp s.heap/\Value.ref a≠.builtin "__main__.__loader__#opaque" := λT k p q=>by grind
  have h:(match H a with | some (.lst _)=>some _ | some (.tup _)=>some _ | some (.dK _)=>some _ | some (.dT _)=>some _ | _=>none)=some t:=h
  split at h
  ·rename_i l e
   obtain⟨_,_,n,_,d⟩:=(show zJ _ _ H _ a _ from I.hok a _ e)
   exact c _ PySem.W.kitx_list ⟨_,d,rfl⟩ h
  ·rename_i l e
   obtain⟨_,_,_,o,d,g,_⟩:=(show zJ _ _ H _ a _ from I.hok a _ e)
   exact c _ PySem.W.kitx_tuple ⟨o,d,g⟩ h
  ·rename_i j e
   obtain⟨_,_,vs,_,o,r,m,d,g,_⟩:=(show zJ _ _ H _ a _ from I.hok a _ e)
   exact c _ PySem.W.kitx_dict ⟨o,d,g.1⟩ h
  ·rename_i j e
   obtain⟨_,_,l,_,o,r,m,d,g,_⟩:=(show zJ _ _ H _ a _ from I.hok a _ e)
   exact c _ PySem.W.kitx_dict ⟨o,d,g.1⟩ h
  grind
 | byt b=>cases h
 | flt b=>cases h
 | ty n=>cases h
end
noncomputable def Gw (t T:String):Option Bool:=if ["NoneType", "bool", "int", "str", "list", "tuple", "dict"].contains t&&["int", "str", "bool", "list", "tuple"].contains T then some (t==T||(t == "bool" && T == "int")) else none
theorem A0n {K:q9} (h:Gw t T=some b):PySem.W.kitOne K (.type t) (.type T)=some b:=by
 unfold Gw at h
 split at h
 ·rename_i a
  cases h
  simp only[fj,List.contains_iff_mem,au,bf,bh]at a;obtain⟨c,d⟩:=a
  rcases c with rfl | rfl | rfl | rfl | rfl | rfl | rfl <;> rcases d with rfl | rfl | rfl | rfl | rfl <;> with_unfolding_all rfl
 ·cases h
theorem Bd4:CallR X (.builtin "isinstance") (λxs H Q=>∃x T t b,xs=[x,.ty T]/\Ub H x=some t/\Gw t T=some b/\Q (.bl b) H):=by
 intro a s σ H xs us Q I r h;obtain⟨x,T,t,b,rfl,f,c,q⟩:=h;obtain⟨u,v,rfl,e,d⟩:=Vals.two r
 cases (d)
 obtain⟨hp,z,p,g⟩:=Bl3 I e f
 exact PySem.W.kia_one z I.kIn p (A0n c) g λtk=>⟨.bl b,H,I.tok _,rfl,q⟩
theorem walk_seq (m:A.handled=none) (I:Inv X pins d H s) (h:SqL X.K H a xs)
 (k:∀(c:v4) (J:Addr) (s2:o4),Vals xs c->Walks X.prog X.w A J [J,a] [J] c.length (λi v=>c[i]?=some v) (λi h=>h.IsListIter J a i/\h.IsList a c.toArray)->s2.heap.IsListIter J a 0/\s2.heap.IsList a c.toArray->(∀b∈[J,a],b<s2.heap.objs.size) ->
  Inv X pins d H s2->(∀f l,(∀b o,b∉[J]->s2.heap.get? b=some o->f.get? b=some o)->Inv X pins d H { s2 with heap:=f,toks:=l })->R (.ref J) s2) :
 wpAny (model X.prog X.w) A (pyIter (.ref a)) R E s:=by
 obtain⟨c,n,p,D⟩:=I.list h
 refine wpAny_pyIter_list p.isList ?_
 have u:a<s.heap.objs.size:=let ⟨_,e,_⟩:=p.isList; Heap.lt_size e
 have g:a≠s.heap.objs.size:=aJ u;have W:=Walks.list (prog:=X.prog) (w:=X.w) (A:=A) m s.heap.objs.size a g c.toArray;rw[bJ]at W
 have j:Inv X pins d H { s with heap:=s.heap.push { cls:=.type "list_iterator",data:=.fields #[.ref a,.int 0 0] } }:=I.kept (t':=s.toks) λb o e=>Heap.get?_push_of_some _ e
 refine k c s.heap.objs.size _ n (by simp_all) ⟨⟨_,Heap.get?_push_size _ rfl,rfl,rfl⟩,let ⟨o,e,r⟩:=p.isList; ⟨o,Heap.get?_push_of_some _ e,r⟩⟩ ?_ j λf l x=>?_
 ·intro b z
  have e:=Heap.size_push s.heap { cls:=.type "list_iterator",data:=.fields #[.ref a,.int 0 0] }
  grind
 ·obtain⟨q,B,F,y,C,t⟩:=(I.fpOk (b:=s.heap.objs.size) (ak _) (I.hok.fresh (ak _)))
  exact j.turned (λb o z e=>x b o (by simp_all) e) q B y C t
theorem A1m {bs:List Bool}(r:Vals (bs.map V.bl) a):TruthOf X.prog X.w A (λi v=>a[i]?=some v) (λi=>bs.getD i false):=by
 intro i v s Q E c b;have h := (bB.mp c).1
 have g:i<bs.length:=by have:=r.length;simp_all
 obtain⟨u,d,f⟩:=r.get (i:=i) (x:=V.bl bs[i]) (by simp_all)
 rw[c]at d
 cases d
 cases (show v=Value.bool _ from f)
 have e:bs.getD i false=bs[i]:=by simp_all
 have b:Q (bs.getD i _) s:=b;rw[e]at b;exact wpAny_truthy_bool b
theorem range_all (bs:List Bool):(List.range bs.length).all (λi=>bs.getD i false)=bs.all id:=by
 rw[Bool.eq_iff_iff];simp only[List.all_eq_true,List.mem_range]
 constructor
 ·intro h b d
  obtain⟨i,a,c⟩:=List.getElem_of_mem d
  simp_all
 ·intro h i a
  simpa[a] using h _ (ig _)
theorem A7v (hc:X.calm=true):CallR X (.builtin "all") (λxs H Q=>∃(a:Addr) (b:List Bool),xs=[.ref a]/\SqL X.K H a (b.map V.bl)/\Q (.bl (b.all id)) H):=by
 intro d s σ H xs us Q I r h;obtain⟨a,b,rfl,i,q⟩:=h;obtain⟨u,rfl,g⟩:=vals1 r
 cases (g)
 refine call_all_walk (walk_seq (I.ok.hd hc) I i λc J s2 f W l hb I2 k=>⟨J,_,_,_,_,_,_,rfl,W,l,A1m f,λh' tk j=>?_⟩)
 have e:c.length=b.length:=by rw[<- f.length,aj]
 rw[e,range_all];exact⟨.bl _,H,k _ _ j,rfl,q⟩
end
mutual
def Tr (H:Hp):o5->V->Prop
 | .none,v=>v=.non
 | .bool b,v=>v=.bl b
 | .int i,v=>v=.int i
 | .str x,v=>v=.str x
 | .list ds,v=>∃a vs,v=.ref a/\H a=some (.lst vs)/\TrL H ds vs
 | .tuple ds,v=>∃a vs,v=.ref a/\H a=some (.tup vs)/\TrL H ds vs
 | .dict _,_=>False
def TrL (H:Hp):w6->l_->Prop
 | [],vs=>vs=[]
 | d::ds,vs=>∃v r,vs=v::r/\Tr H d v/\TrL H ds r
end
theorem TrL.length {H:Hp}:∀{ds:w6}{vs:l_},TrL H ds vs->ds.length=vs.length
 | [],_,h=>by cases (show _=[] from h);rfl
 | d::ds,_,h=>by
  obtain⟨v,r,rfl,_,t⟩:=h;rw[aH,aH,TrL.length t]
mutual
theorem Tr.same {H H':Hp}(S:Same H H'):∀{d:o5}{v:V},Tr H d v->Tr H' d v
 | .none,_,h=>h
 | .bool _,_,h=>h
 | .int _,_,h=>h
 | .str _,_,h=>h
 | .list ds,_,⟨a,vs,e,ha,t⟩=>⟨a,vs,e,S _ _ ha,TrL.same S t⟩
 | .tuple ds,_,⟨a,vs,e,ha,t⟩=>⟨a,vs,e,S _ _ ha,TrL.same S t⟩
theorem TrL.same {H H':Hp}(S:Same H H'):∀{ds:w6}{vs:l_},TrL H ds vs->TrL H' ds vs
 | [],_,h=>h
 | d::ds,_,⟨v,r,e,h,t⟩=>⟨v,r,e,Tr.same S h,TrL.same S t⟩
end
def B7q (H H':Hp):Prop:=∀b xs,H b=some (.tup xs)->H' b=some (.tup xs)
section
variable {X:Cx}{pins:y_}{σ:St}{H:Hp}{s:o4}
mutual
theorem Tr.reads (I:Inv X pins σ H s):∀{d:o5}{v:V}{u:Value},Tr H d v->RelV v u->∃as,Reads s.heap u d as
 | .none,_,u=>λh r=>by
  cases (show _=V.non from h)
  cases (show u=Value.none from r)
  exact⟨_,.none⟩
 | .bool b,_,u=>λh r=>by
  cases (show _=V.bl b from h)
  cases (show u=Value.bool b from r)
  exact⟨_,.bool b⟩
 | .int i,_,u=>λh r=>by
  cases (show _=V.int i from h)
  obtain⟨t,rfl⟩:=r;exact⟨_,.int i t⟩
 | .str x,_,u=>λh r=>by
  cases (show _=V.str x from h)
  obtain⟨t,rfl⟩:=r;exact⟨_,.str x t⟩
 | .list ds,_,u=>λh r=>by
  obtain⟨a,vs,rfl,ha,t⟩:=h
  cases (show u=Value.ref a from r)
  obtain⟨z,its,n,rv,e⟩:=I.hok a _ ha;obtain⟨as,q⟩:=TrL.reads I t rv
  exact⟨_,.list e rfl rfl (by simpa using q)⟩
 | .tuple ds,_,u=>λh r=>by
  obtain⟨a,vs,rfl,ha,t⟩:=h
  cases (show u=Value.ref a from r)
  obtain⟨z,its,rv,o,e,c,⟨n,dt⟩,_⟩:=I.hok a _ ha;obtain⟨as,q⟩:=TrL.reads I t rv
  exact⟨_,.tuple e c dt (by simpa using q)⟩
 | .dict k,_,u=>λh r=>False.elim h
theorem TrL.reads (I:Inv X pins σ H s):∀{ds:w6}{vs:l_}{us:v4},TrL H ds vs->Vals vs us->∃as,ReadsAll s.heap us ds as
 | [],_,us=>λh r=>by
  cases (show _=[] from h)
  cases r
  exact⟨_,.nil⟩
 | d::ds,_,us=>λh r=>by
  obtain⟨v,vs,rfl,hv,t⟩:=h
  cases r with
  | cons r1 r2 =>
   obtain⟨as,q⟩:=Tr.reads I hv r1;obtain⟨bs,p⟩:=TrL.reads I t r2;exact⟨_,.cons q p⟩
end
end
def Flat (d:o5):Prop:=d.canLay0=true/\d.depth<=40
section
variable {X:Cx}
theorem B1c (hu:u+64<c) (hb:b<=40):u+min a b<c:=bu (bT (ao (Nat.min_le_right a b) (ao hb (by decide))) u) hu
theorem At3 (hu:u+64<c) (hb:b<=40):u+1+min a b<c:=bu (ao (bT (ao (Nat.min_le_right a b) hb) _) (bT (show 1+40<=64 by decide) u)) hu
theorem B1o (hu:X.A.units+64<cLine):OpR X (compareOp .Eq) (λx y H Q=>∃a b,Tr H a x/\Tr H b y/\Flat a/\Flat b/\Q (.bl (PyData.eqv a b)) H):=by
 intro c s n H x y v u Q I g f h;obtain⟨a,b,i,j,k,d,q⟩:=h;obtain⟨m,l⟩:=i.reads I g;obtain⟨o,e⟩:=j.reads I f;exact SeqAt.compareEq_reads l e k.1 d.1 (B1c hu d.2) ⟨.bl _,H,I,rfl,q⟩
theorem B4e (hu:X.A.units+64<cLine):OpR X (compareOp .NotEq) (λx y H Q=>∃a b,Tr H a x/\Tr H b y/\Flat a/\Flat b/\Q (.bl (!PyData.eqv a b)) H):=by
 intro c s n H x y v u Q I g f h;obtain⟨a,b,i,j,k,d,q⟩:=h;obtain⟨m,l⟩:=i.reads I g;obtain⟨o,e⟩:=j.reads I f;exact SeqAt.compareNe_reads l e k.1 d.1 (B1c hu d.2) ⟨.bl _,H,I,rfl,q⟩
theorem B1n (hu:X.A.units+64<cLine):OpR X (compareOp .In) (λx y H Q=>∃d a,Tr H d x/\(Tr H (.list a) y\/Tr H (.tuple a) y)/\Flat d/\PyData.canLayAll0 a=true/\Q (.bl (a.any λe=>PyData.eqv e d)) H):=by
 intro i s o H x y v u Q I n g h;obtain⟨d,a,l,b,c,j,q⟩:=h;obtain⟨p,k⟩:=l.reads I n
 rcases b with b | b
 ·obtain⟨m,f⟩:=b.reads I g
  exact SeqAt.in_list_reads f k j c.1 (At3 hu c.2) ⟨.bl _,H,I,rfl,q⟩
 ·obtain⟨m,f⟩:=b.reads I g
  exact SeqAt.in_tuple_reads f k j c.1 (At3 hu c.2) ⟨.bl _,H,I,rfl,q⟩
theorem A7p (hu:X.A.units+64<cLine):OpR X (compareOp .NotIn) (λx y H Q=>∃d ds,Tr H d x/\(Tr H (.list ds) y\/Tr H (.tuple ds) y)/\Flat d/\PyData.canLayAll0 ds=true/\Q (.bl (!ds.any λe=>PyData.eqv e d)) H):=by
 intro g s σ H x y v u Q I m f h;obtain⟨d,ds,k,a,b,i,q⟩:=h;obtain⟨as,j⟩:=k.reads I m
 rcases a with a | a
 ·obtain⟨l,c⟩:=a.reads I f
  exact SeqAt.notIn_list_reads c j i b.1 (At3 hu b.2) ⟨.bl _,H,I,rfl,q⟩
 ·obtain⟨l,c⟩:=a.reads I f
  exact SeqAt.notIn_tuple_reads c j i b.1 (At3 hu b.2) ⟨.bl _,H,I,rfl,q⟩
theorem A7r (hu:X.A.units+64<cLine)(hg:X.A.guards=some []):CallR X (.type "str") (λxs H Q=>∃a d,xs=[.ref a]/\Tr H d (.ref a)/\d.showable=true/\d.hasDict=false/\d.depth<=40/\d.shown.length<=sizeLine/\Q (.str d.shown) H):=by
 intro b s σ H xs us Q I r h;obtain⟨a,d,rfl,i,j,h2,h3,g,q⟩:=h;obtain⟨u,rfl,c⟩:=vals1 r
 cases show u=Value.ref a from c
 obtain⟨as,k⟩:=i.reads I c
 exact str_of_reads k j λz=>by simp_all hg (by omega) (λ_ _ e=>e) (λh' t tk f=>⟨.str _,H,I.kept f,⟨t,rfl⟩,q⟩) g
end
mutual
noncomputable def A2i (gt:Bool):o5->o5->Option Bool
 | .int i,.int j=>some (if gt then decide (j<i) else decide (i<j))
 | .str i,.str j=>some (if gt then decide (j.cps.toList<i.cps.toList) else decide (i.cps.toList<j.cps.toList))
 | .tuple xs,.tuple ys=>B5k gt xs ys
 | _,_=>none
noncomputable def B5k (gt:Bool):w6->w6->Option Bool
 | [],[]=>some false
 | [],_::_=>some (!gt)
 | _::_,[]=>some gt
 | x::xs,y::ys=>if PyData.eqv x y=true then B5k gt xs ys else A2i gt x y
end
def ixF (H:Hp):V->V->Option V
 | .ref p,.int i=>match H p with
  | some (.lst xs)=>atI xs i
  | some (.tup xs)=>atI xs i
  | _=>none
 | .str z,.int i=>if z.length<=sizeLine then (atI z.cps.toList i).map λc=>.str ⟨#[c]⟩ else none
 | _,_=>none
def B2y:R2:=λx y H Q=>∃v,ixF H x y=some v/\Q v H
noncomputable def A9m (H:Hp):V->Option Nat
 | .ref p=>match H p with
  | some (.lst xs)=>some xs.length
  | some (.tup xs)=>some xs.length
  | _=>none
 | .str z=>if z.length<=sizeLine then some z.length else none
 | _=>none
def rAppF:V->l_->Hp->VK->Prop:=λx vs H Q=>∃l y xs,x=.ref l/\vs=[y]/\H l=some (.lst xs)/\xs.length<sizeLine/\Q .non (upd H l (.lst (xs++[y])))
def B2h (K:q9)(tl:TE):TI:=λσ H R=>tl σ H λx H1=>∃a,x=.ref a/\((∃xs,H1 a=some (.lst xs)/\R (Itl K a) H1)\/(∃xs,H1 a=some (.tup xs)/\R (Itt K a) H1))
section
variable {X:Cx}
theorem B7h:IxR X B2y:=by
 intro value slice pins s σ H x y v u Q I rx ry h hsl;obtain⟨z,e,q⟩:=h
 cases x with
 | ref p =>
  cases y with
  | int i =>
   have e:(match H p with | some (.lst xs)=>atI xs i | some (.tup xs)=>atI xs i | _=>none)=some z:=e
   cases hp:H p with
   | none=>rw[hp]at e;cases e
   | some o =>
    rw[hp]at e
    cases o with
    | lst xs=>exact ix_list value slice pins s σ H _ _ v u Q I rx ry ⟨p,xs,i,z,rfl,rfl,SqL.of hp,e,q⟩ hsl
    | tup xs=>exact ix_tup value slice pins s σ H _ _ v u Q I rx ry ⟨p,xs,i,z,rfl,rfl,SqT.of hp,e,q⟩ hsl
    | _=>cases e
  | _=>cases e
 | str t =>
  cases y with
  | int i =>
   have e:(if t.length<=sizeLine then (atI t.cps.toList i).map λc=>V.str ⟨#[c]⟩ else none)=some z:=e
   split at e
   ·rename_i hz
    cases hc:atI t.cps.toList i with
    | none=>rw[hc]at e;cases e
    | some c =>
     rw[hc]at e
     cases e
     exact Bm0 value slice pins s σ H _ _ v u Q I rx ry ⟨t,i,c,rfl,rfl,hz,hc,q⟩ hsl
   ·cases e
  | _=>cases e
 | _=>cases y <;> cases e
theorem A7l:CallR X (.builtin "len") (λxs H Q=>∃x n,xs=[x]/\A9m H x=some n/\Q (.int (n:Nat)) H):=by
 intro a s σ H xs us Q I r h;obtain⟨x,n,rfl,e,q⟩:=h
 refine A1p _ s _ H _ _ Q I r ⟨x,n,rfl,?_,q⟩
 cases x with
 | ref p =>
  have e:(match H p with | some (.lst _)=>some _ | some (.tup _)=>some _ | _=>none)=some n:=e
  cases hp:H p with
  | none=>simp_all
  | some o =>
   rw[hp]at e
   cases o with
   | lst xs=>cases e;exact .inl ⟨xs,SqL.of hp,rfl⟩
   | tup xs=>cases e;exact .inr ⟨xs,SqT.of hp,rfl⟩
   | _=>grind
 | str z =>
  have e:(if z.length<=sizeLine then some _ else none)=some n:=e
  split at e
  ·cases e;trivial
  trivial
 | _=>cases e
theorem Bw3:MtM X "list.append" rAppF:=by
 intro a s j H x k v m Q I e f h;obtain⟨l,y,d,c,g,i,b,q⟩:=h;exact A9o _ s _ H x _ v _ Q I e f ⟨l,d,y,c,g,i,b,q⟩
theorem B1x (hl:PE X l j):PI X u l (B2h X.K j):=by
 intro k s z H R I h
 refine thn (hl _ s _ H _ I h) λv d ⟨x,m,c,r,f⟩=>?_
 obtain⟨a,e,f⟩:=f;subst e
 cases r
 rcases f with ⟨t,i,q⟩ | ⟨t,i,q⟩
 ·obtain⟨g,w,p,y⟩:=c.list (SqL.of i)
  refine wpAny_pyIter_list p.isList ?_
  refine⟨d.heap.objs.size,[d.heap.objs.size],_,_,m,rfl,c.kept λb o e=>Heap.get?_push_of_some _ e,A9t a _,⟨_,Heap.get?_push_size _ rfl,rfl,rfl⟩,λb n=>?_,q⟩
  have e:b=d.heap.objs.size:=by grind
  subst e;exact c.fpOk (ak _) (c.hok.fresh (ak _))
 ·obtain⟨g,w,p,y⟩:=c.tuple (SqT.of i)
  refine wpAny_pyIter_tuple (show d.heap.IsTuple a _ from p) ?_
  refine⟨d.heap.objs.size,[d.heap.objs.size],_,_,m,rfl,c.kept λb o e=>Heap.get?_push_of_some _ e,A4u a _,⟨_,Heap.get?_push_size _ rfl,rfl,rfl⟩,λb n=>?_,q⟩
  have e:b=d.heap.objs.size:=by grind
  subst e;exact c.fpOk (ak _) (c.hok.fresh (ak _))
def Pz (t:String):List String->Option Bool
 | []=>some false
 | T::r=>match Gw t T with
  | some true=>some true
  | some false=>Pz t r
  | none=>none
theorem Zz {K:q9}{t:String}:∀{Ts:List String}{b:Bool},Pz t Ts=some b->PySem.W.kitAny K (.type t) (Ts.map Value.type)=some b
 | [],b,h=>h
 | T::r,b,h=>by
  have h:(match Gw t T with | some true=>some true | some false=>Pz t r | none=>none)=some b:=h
  show (match PySem.W.kitOne K (.type t) (.type T) with | some true=>some true | some false=>PySem.W.kitAny K (.type t) (r.map Value.type) | none=>none)=some b
  cases e:Gw t T with
  | none=>rw[e]at h;cases h
  | some k =>
   rw[e]at h;rw[A0n e]
   cases k with
   | true=>exact h
   | false=>exact Zz h
theorem Az5:∀{Ts:List String}{us:v4},Vals (Ts.map V.ty) us->us=Ts.map Value.type
 | [],_,.nil=>rfl
 | T::r,_,.cons h t=>by
  cases (show _=Value.type T from h)
  rw[Az5 t]
  rfl
theorem A9s:CallR X (.builtin "isinstance") (λxs H Q=>∃x p a t b,xs=[x,.ref p]/\H p=some (.tup (a.map V.ty))/\Ub H x=some t/\Pz t a=some b/\Q (.bl b) H):=by
 intro e s σ H xs us Q I r h;obtain⟨x,p,a,t,b,rfl,d,E,j,q⟩:=h;obtain⟨u,v,rfl,k,l⟩:=Vals.two r
 cases (l)
 obtain⟨z,m,w,o,y,A,⟨n,B⟩,C⟩:=I.hok p _ d;have D:=Az5 w;subst D;obtain⟨F,dd,f,sl⟩:=o;subst A B
 have c:∀g,EP X _ _ Q _ { s with toks:=g }:=λg=>⟨.bl b,H,I.tok _,rfl,q⟩
 obtain⟨d,z,p,i⟩:=Bl3 I k E;exact PySem.W.kia_tup z I.kIn p y (Zz j) i c
theorem A9c:OpR X (compareOp .LtE) (λx y H Q=>∃i j,x=.str i/\y=.str j/\Q (.bl (!decide (j.cps.toList<i.cps.toList))) H):=by
 intro a s σ H x y v u Q I b c h;obtain⟨i,j,rfl,rfl,q⟩:=h;obtain⟨t,rfl⟩:=b;obtain⟨t',rfl⟩:=c
 exact PySem.P.le_str (Dk I q (by simp))
end
theorem A3y:bootBuiltins "len" = some (.builtin "len"):=by decide +kernel
theorem B4p:bootBuiltins "abs" = some (.builtin "abs"):=by decide +kernel
theorem T8:bootBuiltins "isinstance" = some (.builtin "isinstance"):=by decide +kernel
theorem B2m:bootBuiltins "all" = some (.builtin "all"):=by decide +kernel
theorem B3q:bootBuiltins "min" = some (.builtin "min"):=by decide +kernel
theorem At7:bootBuiltins "int" = some (.type "int"):=by decide +kernel
theorem Rx:bootBuiltins "str" = some (.type "str"):=by decide +kernel
theorem Y8:bootBuiltins "bool" = some (.type "bool"):=by decide +kernel
theorem Zd:bootBuiltins "list" = some (.type "list"):=by decide +kernel
theorem K3:bootBuiltins "tuple" = some (.type "tuple"):=by decide +kernel
theorem B3u:bootBuiltins "set" = some (.type "set"):=by decide +kernel
theorem Fj {X:Cx}{N':v_}{idx:n6}{scope:Scope}(h1:scope.kind=.function:=by exact rfl)(h3:(scope.names.map (·.1)).Nodup:=by decide +kernel)
 (h4:(scope.names.all λy=>decide (y.2≠.free)||decide (X.env.kindOf y.1=some .cell)||decide (X.env.kindOf y.1=some .free))=true:=by exact rfl) (h5:idx.length=N'.length:=by exact rfl)
 (h6:((idx.zip N').all λp=>match p.1 with | none=>true | some i=>decide (X.N[i]?=some p.2)&&decide (scope.names.lookup p.2=some .free))=true:=by exact rfl):Nr X N' idx scope where
 kind:=h1
 nod:=h3
 free:=λy hy hf=>by
  have h:=aX.mp h4 y hy;simp only[Bool.or_eq_true,gF]at h
  rcases h with (h | h) | h
  ·exact absurd hf h
  ·exact .inl h
  ·exact .inr h
 len:=h5
 at':=λj i x e1 e2=>by
  have hz:(some i,x)∈idx.zip N':=by
   have:(idx.zip N')[j]?=some (some i,x):=by simp[ik,e1,e2]
   exact eG this
  have h:=aX.mp h6 _ hz;simp only[fj,gF]at h;exact h
noncomputable def Ac4:Expr->Option V
 | .Constant (.int i) _ _=>some (.int i)
 | .Constant (.str x) _ _=>some (.str x)
 | .Constant (.bool b) _ _=>some (.bl b)
 | .Constant .none _ _=>some .non
 | _=>none
def Wk:q_->Option (l_)
 | []=>some []
 | e::es=>match Ac4 e,Wk es with
  | some v,some vs=>some (v::vs)
  | _,_=>none
def tK (vs:l_):TA:=λ_ H Q=>Q vs H
theorem Bn9 (h:Ac4 e=some v):PE X e (tC v)/\∀es,starEach (e::es) X.env=(false,eval e X.env)::starEach es X.env:=by
 unfold Ac4 at h
 split at h <;> first
  | (cases h;exact⟨Bp0,λ_=>rfl⟩)
  | (cases h;exact⟨Bg7,λ_=>rfl⟩)
  | (cases h;exact⟨Bz3,λ_=>rfl⟩)
  | (cases h;exact⟨Bc3,λ_=>rfl⟩)
  | cases h
theorem Al9 {X:Cx}:∀{es:q_}{vs:l_},Wk es=some vs->PA X es (tK vs)
 | [],vs,h=>by cases h;exact Af1
 | e::es,vs,h=>by
  have h:(match Ac4 e,Wk es with | some v,some vs=>some (v::vs) | _,_=>none)=some vs:=h
  cases e1:Ac4 e with
  | none=>rw[e1]at h;cases h
  | some v =>
   cases e2:Wk es with
   | none=>rw[e1,e2]at h;cases h
   | some r =>
    rw[e1,e2]at h
    cases h
    obtain⟨p1,p2⟩:=Bn9 (X:=X) e1;exact A7e p1 (Al9 e2) (p2 es)
noncomputable def isStar:Expr->Bool
 | .Starred ..=>true
 | _=>false
def noStar:q_->Bool
 | []=>true
 | e::es=>!isStar e&&noStar es
theorem G5 (h:isStar e=false):starEach (e::es) env=(false,eval e env)::starEach es env:=by
 cases e <;> first | rfl | cases h
theorem O5 {pos:Pos}{env:Env}:∀{es:q_},noStar es=true->(backTo pos (starEach es env)).any (·.1)=false
 | [],_=>rfl
 | e::es,h=>by
  obtain⟨h1,h2⟩:=aF.mp h
  rw[G5 (by simpa using h1)]
  show (false||(backTo pos (starEach es env)).any (·.1))=false
  rw[O5 h2]
  rfl
theorem Jm (h:noStar (e::es)=true):isStar e=false/\noStar es=true:=by
 obtain⟨b,a⟩:=aF.mp h
 simp_all
section
variable {X:Cx}{CX:CXT}{k:Nat}{f:Addr}{fd:p6}{ps:v_}{sp:Sp}{dvs:l_}{ds:v4}{E:XK}{x:Str}{p pos:Pos}{e:Expr}{es:q_}{te:TE}{t:TA}{id T:String}{r:l_->Hp->VK->Prop}
theorem Bq8 (ha:PE X e te)(hr:PA X es t)(hs:isStar e=false:=by rfl):PA X (e::es) (Ej te t):=A7e ha hr (G5 hs)
theorem Bj9 (F:FnOk X.prog X.w X.K X.mg X.base CX k f fd ps sp)(hr:Room k X.A)(hg:Gl X x)(hm:X.mg x=some (.ref f))(hk:PySem.W.keepIn X.K (.ref f)=true)(hb:Binds X.K fd ps ds)(hd:Vals dvs ds)(hx:Aa2 CX X E)
 (ha:PA X (e::es) t) (hdb:(x==("__debug__" : Str))=false:=by decide) (hn:noStar (e::es)=true:=by rfl):PE X (.Call (.Name x p) (e::es) [] pos) (Ay5 sp dvs E t) :=
 Bt1 F hr hg hm hk hb hd hx ha hdb (G5 (Jm hn).1) (O5 (Jm hn).2)
theorem Jj (hc:CallR X (.builtin id) r)(hg:Gl X x)(hm:X.mg x=none)(hv:bootBuiltins x=some (.builtin id))(ha:PA X (e::es) t)(hn:x ≠ "__name__" := by decide) (hdb:(x==("__debug__" : Str))=false:=by decide)
 (hns:noStar (e::es)=true:=by rfl):PE X (.Call (.Name x p) (e::es) [] pos) (tCB r t):=Bh9 hc hg hm hv ha hn hdb (G5 (Jm hns).1) (O5 (Jm hns).2)
theorem Mt (hc:CallR X (.type T) r)(hg:Gl X x)(hm:X.mg x=none)(hv:bootBuiltins x=some (.type T))(ha:PA X (e::es) t)(hn:x ≠ "__name__" := by decide) (hdb:(x==("__debug__" : Str))=false:=by decide)
 (hns:noStar (e::es)=true:=by rfl):PE X (.Call (.Name x p) (e::es) [] pos) (tCB r t):=Ak4 hc hg hm hv ha hn hdb (G5 (Jm hns).1) (O5 (Jm hns).2)
end
section
variable {X:Cx}{a b e:Expr}{es:q_}{ta tb te:TE}{t:TA}{p pos apos cpos:Pos}
theorem Jg {b:List Keyword}{a:Pos}:Nx (.Call f args b a):=λ_ _=>rfl
theorem A4t {a:Pos}:Nx (.Name x a):=λ_ _=>rfl
theorem Ay {a:Pos}:Nx (.Constant (.int i) j a):=λ_ _=>rfl
theorem Bj3 {b:Pos}:Nx (.UnaryOp op a b):=λ_ _=>rfl
theorem Ji (ha:QE X a ta)(hb:QE X b tb):QE X (.BinOp a .Sub b pos) (tOp (rI0 λi j=>.int (i-j)) ta tb):=⟨Xz B1q ha.1 hb.1⟩
theorem J6 (ha:QE X a ta)(hb:QE X b tb):QE X (.BinOp a .Mult b pos) (tOp (rI CMul λi j=>.int (i*j)) ta tb):=⟨Xz B3x ha.1 hb.1⟩
theorem Uw (ha:QE X a ta)(hb:QE X b tb):QE X (.BinOp a .FloorDiv b pos) (tOp (rI By5 λi j=>.int (i / j)) ta tb):=⟨Xz Bs3 ha.1 hb.1⟩
theorem J7 (ha:QE X a ta)(hb:QE X b tb):QE X (.BinOp a .Mod b pos) (tOp (rI (λ_ j=>0<j) λi j=>.int (i % j)) ta tb):=⟨Xz B4s ha.1 hb.1⟩
theorem Mp (ha:QE X a ta)(hb:QE X b tb):QE X (.BinOp a .Pow b pos) (tOp (rI Bs7 λi j=>.int (i ^ j.toNat)) ta tb):=⟨Xz B4f ha.1 hb.1⟩
def B7j:R2:=λx y H Q=>∃da db,Tr H da x/\Tr H db y/\Flat da/\Flat db/\Q (.bl (PyData.eqv da db)) H
def B7i:R2:=λx y H Q=>∃da db,Tr H da x/\Tr H db y/\Flat da/\Flat db/\Q (.bl (!PyData.eqv da db)) H
theorem Z1 (ha:QE X a ta)(hb:QE X b tb):QT X (.Compare a [.Lt] [b] pos) (T7 (tOp (rI0 λi j=>.bl (decide (i<j))) ta tb)):=⟨Pj B6s ha.1 hb.1 (Lf _)⟩
theorem A1u (ha:QE X a ta)(hb:QE X b tb):QE X (.Compare a [.Gt] [b] pos) (tOp (rI0 λi j=>.bl (decide (j<i))) ta tb):=⟨Qk B1i ha.1 hb.1 (Lf _)⟩
theorem A1s (ha:QE X a ta)(hb:QE X b tb):QT X (.Compare a [.Gt] [b] pos) (T7 (tOp (rI0 λi j=>.bl (decide (j<i))) ta tb)):=⟨Pj B1i ha.1 hb.1 (Lf _)⟩
theorem Bk8 (ha:QE X a ta)(hb:QE X b tb):QE X (.Compare a [.GtE] [b] pos) (tOp (rI0 λi j=>.bl (decide (j<=i))) ta tb):=⟨Qk Bz1 ha.1 hb.1 (Lf _)⟩
theorem Bd9 (ha:QE X a ta)(hb:QE X b tb):QT X (.Compare a [.GtE] [b] pos) (T7 (tOp (rI0 λi j=>.bl (decide (j<=i))) ta tb)):=⟨Pj (Bz1) ha.1 hb.1 (Lf _)⟩
theorem Am7 (ha:QE X a ta)(hb:QE X b tb):QE X (.Compare a [.Is] [b] pos) (tOp (λx y H Q=>y=.non/\Q (.bl (decide (x=.non))) H) ta tb):=⟨Qk A9z ha.1 hb.1 (Lf _)⟩
theorem Oq (ha:QE X a ta)(hb:QE X b tb):QT X (.Compare a [.Is] [b] pos) (T7 (tOp (λx y H Q=>y=.non/\Q (.bl (decide (x=.non))) H) ta tb)):=⟨Pj A9z ha.1 hb.1 (Lf _)⟩
theorem Bg5 (ha:QE X a ta)(hb:QE X b tb)(hs:Nx b):QE X (.Subscript a b pos) (tOp B2y ta tb):=⟨B0z B7h ha.1 hb.1 hs⟩
theorem As2 (ha:QE X a ta):QE X (.UnaryOp .USub a pos) (tUn (rU λi=>.int (-i)) ta):=⟨B6a B3s ha.1⟩
def X7 (K:q9):l_->Hp->VK->Prop:=λxs H Q=>∃x n,xs=[x]/\A9m H x=some n/\Q (.int (n:Nat)) H
def A3c (K:q9):l_->Hp->VK->Prop:=λxs H Q=>∃x n,xs=[x]/\B5e K x H n/\Q (.int n) H
def Uy (K:q9):l_->Hp->VK->Prop:=λxs H Q=>∃i,xs=[.int i]/\Q (.int (if i<0 then -i else i)) H
theorem A2d (hgl:Gl X "abs") (hm:X.mg "abs" = none) (ha:PA X (e::es) t) (hns:noStar (e::es)=true:=by rfl):PE X (.Call (.Name "abs" p) (e::es) [] pos) (tCB (Uy X.K) t):=Jj Bm3 hgl hm B4p ha (by decide) (by rfl) hns
def Uk (K:q9):l_->Hp->VK->Prop:=λxs H Q=>∃x T t b,xs=[x,.ty T]/\Ub H x=some t/\Gw t T=some b/\Q (.bl b) H
theorem Ay7 (hgl:Gl X "isinstance") (hm:X.mg "isinstance" = none) (ha:PA X (e::es) t) (hns:noStar (e::es)=true:=by rfl):PE X (.Call (.Name "isinstance" p) (e::es) [] pos) (tCB (Uk X.K) t):=Jj Bd4 hgl hm T8 ha (by decide) (by rfl) hns
def Nv (K:q9):l_->Hp->VK->Prop:=λxs H Q=>∃x p Ts t b,xs=[x,.ref p]/\H p=some (.tup (Ts.map V.ty))/\Ub H x=some t/\Pz t Ts=some b/\Q (.bl b) H
theorem At4 (hgl:Gl X "isinstance") (hm:X.mg "isinstance" = none) (ha:PA X (e::es) t) (hns:noStar (e::es)=true:=by rfl):PE X (.Call (.Name "isinstance" p) (e::es) [] pos) (tCB (Nv X.K) t):=Jj A9s hgl hm T8 ha (by decide) (by rfl) hns
def Q7 (K:q9):l_->Hp->VK->Prop:=λxs H Q=>∃(a:Addr) (bs:List Bool),xs=[.ref a]/\SqL K H a (bs.map V.bl)/\Q (.bl (bs.all id)) H
theorem At6 (hc:X.calm=true)(hgl:Gl X "all") (hm:X.mg "all" = none) (ha:PA X (e::es) t) (hns:noStar (e::es)=true:=by rfl):PE X (.Call (.Name "all" p) (e::es) [] pos) (tCB (Q7 X.K) t):=Jj (A7v hc) hgl hm B2m ha (by decide) (by rfl) hns
def Ro (K:q9):l_->Hp->VK->Prop:=λxs H Q=>(∃i,xs=[.int i]/\Q (.int i) H)\/∃k,xs=[.bl k]/\Q (.int (if k then 1 else 0)) H
theorem Au1 (hgl:Gl X "int") (hm:X.mg "int" = none) (ha:PA X (e::es) t) (hns:noStar (e::es)=true:=by rfl):PE X (.Call (.Name "int" p) (e::es) [] pos) (tCB (Ro X.K) t):=Mt A8h hgl hm At7 ha (by decide) (by rfl) hns
def Ad4 (K:q9):l_->Hp->VK->Prop:=λxs H Q=>∃i:Int,xs=[.int i]/\i.natAbs.log2<1920/\Q (.str (toString i)) H
def A2f (K:q9):l_->Hp->VK->Prop:=λxs H Q=>∃a d,xs=[.ref a]/\Tr H d (.ref a)/\d.showable=true/\d.hasDict=false/\d.depth<=40/\d.shown.length<=sizeLine/\Q (.str d.shown) H
def Li (K:q9):l_->Hp->VK->Prop:=λxs H Q=>∃p ys,xs=[.ref p]/\((SqL K H p ys/\∀l,H l=none->Q (.ref l) (upd H l (.tup ys)))\/(SqT K H p ys/\Q (.ref p) H))
theorem Wy (hgl:Gl X "tuple") (hm:X.mg "tuple" = none) (ha:PA X (e::es) t) (hns:noStar (e::es)=true:=by rfl):PE X (.Call (.Name "tuple" p) (e::es) [] pos) (tCB (Li X.K) t):=Mt Ai6 hgl hm K3 ha (by decide) (by rfl) hns
def Nh (K:q9):l_->Hp->VK->Prop:=λxs H Q=>∃p ys,xs=[.ref p]/\(SqL K H p ys\/SqT K H p ys)/\∀l,H l=none->Q (.ref l) (upd H l (.lst ys))
theorem Yi (hgl:Gl X "list") (hm:X.mg "list" = none) (ha:PA X (e::es) t) (hns:noStar (e::es)=true:=by rfl):PE X (.Call (.Name "list" p) (e::es) [] pos) (tCB (Nh X.K) t):=Mt Av9 hgl hm Zd ha (by decide) (by rfl) hns
def Rp (K:q9):l_->Hp->VK->Prop:=λxs H Q=>∃i j,xs=[.int i,.int j]/\Q (.int (if j<i then j else i)) H
theorem As9 (hc:X.calm=true)(hgl:Gl X "min") (hm:X.mg "min" = none) (ha:PA X (e::es) t) (hns:noStar (e::es)=true:=by rfl):PE X (.Call (.Name "min" p) (e::es) [] pos) (tCB (Rp X.K) t):=Jj (A8b hc) hgl hm B3q ha (by decide) (by rfl) hns
theorem A8u (ho:PE X a ta)(hv:PE X e te)(hbase:attributeBase a "append" X.env (eval a X.env)=eval a X.env:=by rfl)
 (hfew:((backTo cpos (starEach [e] X.env)).all (λx=>!x.1)&&(backToKw cpos (keywordEach [] X.env)).all (λx=>x.1.isSome)
  && decide ([e].length+([]:List Keyword).length+(if ([]:List Keyword).isEmpty then 0 else 1)<30))=true:=by rfl)
 (hline:(apos.endLine==cpos.line)=true:=by rfl) (hns:isStar e=false:=by rfl) :
 PE X (.Call (.Attribute a "append" apos) [e] [] cpos) (tBM X.K "list" rAppF ta (Ej te Jb)) :=
 By9 PySem.F.plainAttrs_list PySem.F.slot_list_append PySem.F.type_list_append Bw3 ho (Bq8 hv Af1 hns) hbase hfew hline (G5 hns) rfl
theorem A1t {K:q9}{H:Hp}{l:Addr}{xs:l_}(h:H l=some (.lst xs)):tyV K "list" (.ref l) H:=.inl ⟨rfl,_,SqL.of h⟩
end
noncomputable def Tw {α:Type} [DecidableEq α] (ks:List α) (k:α):Bool:=ks.any λx=>decide (x=k)
theorem memB_iff [DecidableEq a] {ks:List a}{k:a}:Tw ks k=true↔k∈ks:=by simp[Tw]
theorem memB_snoc [DecidableEq b] {ks:List b}{k a:b}:Tw (ks++[k]) a=(Tw ks a||decide (a=k)):=by
 unfold Tw
 grind
def Aa3 {α:Type}[DecidableEq α](acc:List α)(x:α):List α:=if Tw acc x=true then acc else acc++[x]
def dst {α:Type}[DecidableEq α](xs:List α):List α:=xs.foldl Aa3 []
theorem Vg [DecidableEq a] (xs:List a) (x:a):dst (xs++[x])=Aa3 (dst xs) x:=by
 unfold dst;grind
theorem Y4 {α:Type}[DecidableEq α]:∀(n:Nat) (xs:List α),xs.length=n->(dst xs).length<=n
 | 0,xs,h=>by cases xs with | nil=>exact ak _ | cons a r=>cases h
 | n+1,xs,h=>by
  rcases il xs with rfl | ⟨ys,y,rfl⟩
  ·cases h
  ·rw[ir]at h ⊢
   have hy:ys.length=n:=by simpa using h
   have ih:=Y4 n ys hy;rw[Vg];unfold Aa3;split
   ·omega
   ·simp;omega
noncomputable def keyV:V->Option Key
 | .int i=>some (.inl i)
 | .str x=>some (.inr x)
 | _=>none
theorem By3 (h:keyV v=some k) (r:RelV v u):Wj k u=true/\u.scannable=true:=by
 cases v with
 | int i=>cases h;obtain⟨t,rfl⟩:=r;exact⟨Am0 i t,rfl⟩
 | str x=>cases h;obtain⟨t,rfl⟩:=r;exact⟨Am4 x t,rfl⟩
 | _=>cases h
def Ah4 (P:p7)(w:World)(a:Addr)(ks:List Key)(h:Heap):Prop:=h.SetOf (Ge P w) a (Tw ks) ks.length
noncomputable def Bv5 (P:p7) (w:World) (a:Addr) (ks:List Key):HO:=.ext (Ah4 P w a ks)
theorem Xb (hs:Ah4 P w a ks h) (k:∀o,h.get? a=some o->h'.get? a=some o):Ah4 P w a ks h':=by
 obtain⟨o,c,d,t,e,b⟩:=hs;exact⟨o,c,d,t,k o e,b⟩
theorem A8r
 (x:h.SetOf (Ge P w) a (λb=>Tw ks b||decide (b=k)) (if Tw ks k then ks.length else ks.length+1)):Ah4 P w a (Aa3 ks k) h:=by
 unfold Ah4 Aa3
 by_cases hk:Tw ks k=true
 ·have e:(λb=>Tw ks b||decide (b=k))=Tw ks:=by
   grind
  simp_all
 ·have e:(λb=>Tw ks b||decide (b=k))=Tw (ks++[k]):=by
   funext b
   exact memB_snoc.symm
  simp_all
section
variable {P:p7}{w:World}{A:o6}
theorem fill (W:WalksS P w A.in1 J fp h j n Pv E) (p:S∉fp)
 (ks:List Key) (g:ks.length=n) (is:∀i v,Pv i v->∃k,ks[i]?=some k/\Wj k v=true/\v.scannable=true) (Q:n+1<scanBound) (z:o4)
 (G:∀s,Moved (S::h) j z s->Ah4 P w S (dst ks) s.heap->R (.ok (.ret .none)) s) :
 ∀(m i:Nat) (s:o4),i+m=n->E i s->Moved (S::h) j z s->Ah4 P w S (dst (ks.take i)) s.heap->codeAny (model P w) A (.builtin "set.update.loop" ⟨[.ref S,.ref J],[]⟩) R s:=by
 have c:S∉h:=λq=>p (W.sub S q)
 have f:∀b,b∈h->b∈S::h:=λb q=>.tail _ q
 intro m
 induction m with
 | zero =>
  intro i s e K D r;have e:i=n:=e;subst e;apply codeAny_builtin iG;rw[Around.under_plainId iu _];apply wpAny_bind (m:=pyNext (.ref J));apply W.done s _ _ K;intro d a;apply wpAny_pure
  refine G d (Moved.trans W.gtrans D (a.mono f)) ?_
  have t:ks.take i=ks:=by rw[<- g];exact fX
  rw[t]at r
  exact Xb r λo q=>a.heap S o c q
 | succ m ih =>
  intro i s e K D r
  have V:i<n:=by omega
  apply codeAny_builtin iG;rw[Around.under_plainId iu _];apply wpAny_bind (m:=pyNext (.ref J));apply W.item i s _ _ V K;intro v d Z F a;obtain⟨k,U,O,X⟩:=is i v Z;have H:Moved (S::h) j z d:=Moved.trans W.gtrans D (a.mono f)
  show wpAny _ A.in1 (holding [v] (setAdd S v) >>= _) _ _ d
  apply wpAny_bind;apply wpAny_holding;unfold setAdd;apply wpAny_holding;apply wpAny_bind
  refine (Ge P w).pyHash (k:=k) O ?_
  have l:(dst (ks.take i)).length+1<scanBound:=by
   have:=Y4 _ (ks.take i) rfl
   have:(ks.take i).length<=n:=by rw[<- g];exact List.length_take_le' _ _
   omega
  have tk:ks.take (i+1)=ks.take i++[k]:=by rw[List.take_add_one,U];rfl
  have T:∀(B:Nat),d.toks<=B->wpAny (model P w) A.in1 (setAddHashed S v ((Ge P w).hash k)) (λ_ u=>Moved (S::h) j z u/\Ah4 P w S (dst (ks.take (i+1))) u.heap/\E (i+1) u) (λ_ _=>False) { d with toks:=B }:=by
   intro B N
   refine wpAny_setAddHashed_of (knd:=Ge P w) (s:={ d with toks:=B }) O X (Xb r λo q=>a.heap S o c q) l λY M so=>?_
   refine⟨Moved.then_heap H N λb o q x=>?_,?_,W.frame (i+1) d Y _ F N λb q o x=>?_⟩
   ·rw[M.2 b λy=>q (y▸.head _)];exact x
   ·rw[tk,Vg];exact A8r so
   ·rw[M.2 b λy=>p (y▸q)];exact x
  refine wpAny_mono (T _ (fK _)) (λb u y=>?_) λ_ _ q=>q.elim
  obtain⟨I,L,C⟩:=y
  exact wpAny_pure ⟨plainId_quiet iu _,ih _ _ (by omega) C I L⟩
noncomputable abbrev bare (led:Bool):Obj:={ cls:=.type "set",dict:=none,data:=.set #[] 0 (.fresh 0 0 led) }
abbrev Ml (s:o4)(led:Bool):o4:={ s with heap:=s.heap.push (bare led) }
theorem Ae4 (s:o4)(led:Bool):(Ml s led).heap.get? s.heap.objs.size=some (bare led):=Heap.get?_push_size _ rfl
abbrev Be1 (P:p7)(w:World)(A:o6)(R:Result->o4->Prop)(f:Fin)(z:o4):Prop:=match f with
 | .done f=>R (.ok f) z
 | .again c=>c.quiet=true/\codeAny (model P w) A c R z
theorem Bo7 (Z:o4->Prop) (hZ:∀z,Z z->Q (.ref s.heap.objs.size) z)
 (body:∀b:Bool,wpAny (model P w) A.in1.in1 (Builtin.«set.__init__» ⟨[.ref s.heap.objs.size,a],[]⟩) (Be1 P w A.in1 (wants (λr z=>r=.none/\Z z) E)) (λe z=>wants (λr z=>r=.none/\Z z) E (.error e) z) (Ml s b)) :
 wpAny (model P w) A (call (.type "set") [a]) Q E s:=by
 have tc:=F.called_set;obtain⟨c0,cs,mro⟩:=tc.mro;have f1:=tc.made;have f2:=tc.sub;have f3:=tc.notType;have f4:=tc.canCreate;have f5:=F.typeCall_set_1 a;apply wpAny_call;apply codeAny_of_tree
 show wpAny _ _ (callAny (.type "set") ⟨[a],[]⟩) _ _ _
 refine wpAny_pure (And.intro (Code.quiet_builtin _ (by decide +kernel)) (codeAny_builtin F.entry_type_call ?_))
 rw[Around.under_plain (weight_type_call_type "set" [a] []) rfl]
 repeat any_goals first | wp_step | assumption
 have made:=code_set_new_1 (prog:=P) (w:=w) (A:=A.in1) (E:=E) (s:=s) a (Q₁:=λo z=>∃b,o=.ref s.heap.objs.size/\z=Ml s b) λb=>⟨b,rfl,rfl⟩
 refine codeAny_mono made λr z hz=>?_
 rcases r with (_ | f)
 ·exact hz
 cases f with
 | ret o =>
  obtain⟨b,rfl,rfl⟩:=hz;have ty:Shared.TypeIs (Ml s b) (.ref s.heap.objs.size) "set" := ⟨_,Ae4 s b,rfl⟩;have f6:=tc.init.lookup;have f7:=tc.init.bind (.ref s.heap.objs.size)
  repeat any_goals first | wp_step | assumption
  refine codeAny_mono (codeAny_call_builtin (R:=wants (λr z=>r=.none/\Z z) E) tc.init.plain F.entry_set_init (check_set_init_1 (a:=a) ty (body b))) λr z hz=>?_
  rcases r with (_ | f)
  ·exact hz
  cases f with
  | ret o =>
   obtain⟨rfl,hz⟩:=hz
   repeat any_goals first | wp_step | assumption
   exact hZ _ hz
  | _=>exact hz.elim
 | _=>exact hz.elim
end
section
variable {X:Cx}
def Wh (P:p7)(w:World):l_->Hp->VK->Prop:=λxs H Q=>∃(p:Addr) (ks:List Key),xs=[.ref p]/\H p=some (Bv5 P w p ks)/\ks.length<1000/\Q (.int (ks.length:Nat)) H
theorem Ax9:CallR X (.builtin "len") (Wh X.prog X.w):=by
 intro a s σ H xs us Q I r h;obtain⟨p,ks,rfl,d,hn,q⟩:=h;obtain⟨u,rfl,f⟩:=vals1 r
 cases (f)
 obtain⟨⟨o,es,ep,t,e,c,g,x3,x4,x5,i,b⟩,_⟩:=I.hok p _ d
 refine call_len_set e c g i (by omega) ?_
 rw[b];exact⟨.int _,H,I.tok _ |>.tok _,⟨_,rfl⟩,q⟩
end
section
variable {P:p7}{w:World}{A:o6}{E:z_}{s:o4}
theorem Yb (a:s.heap.IsTupleIter j u k)
 (body:wpAny (model P w) A.in1 (Builtin.«tuple_iterator.__next__» ⟨[.ref j],[]⟩) (λf z=>∃v,f=.done (.ret v)/\Q v z) E s) :
 wpAny (model P w) A (Builtin.SmallTypes.nextOf (.ref j)) Q E s:=by
 apply wpAny_bind
 refine wpAny_callSpecial?_slot a.typeIs F.slot_tuple_iterator_next ?_
 refine wpAny_call_entry F.slot_tuple_iterator_next a.typeIs F.entry_tuple_iterator_next ?_ (F.args_tuple_iterator_next_1 _)
 refine wpAny_mono body (λf z c=>?_) λ_ _ q=>q
 obtain⟨v,b,q⟩:=c;exact⟨v,b,wpAny_pure q⟩
theorem A2x (c:s.heap.IsTupleIter j u k) (g:s.heap.IsTuple u vs) (hx:vs[k]?=some x)
 (q:∀h',h'.IsTupleIter j u (k+1)->Heap.SameBut j s.heap h'->Q x { s with heap:=h' }):wpAny (model P w) A (Builtin.SmallTypes.nextOf (.ref j)) Q E s:=by
 refine Yb c ?_
 obtain⟨o,d,f,b⟩:=c;obtain⟨i,h,_,n,e⟩:=g;apply wpAny_bind (m:=field _ 0);apply wpAny_field d b rfl;apply wpAny_bind ;apply wpAny_field d b rfl;apply wpAny_bind ;apply wpAny_seqItems h e;simp only[hx,bZ];apply wpAny_bind
 apply wpAny_setField d b (by simp)
 apply wpAny_pure
 refine⟨x,rfl,q _ ⟨_,(Heap.get?_update_self (Obj.mapFields λa=>a.setIfInBounds 1 (rawInt (k+1))) d (Obj.isFreed_of_fields (Obj.data_mapFields b _))),(Obj.cls_mapFields ..).trans f,?_⟩ (Heap.SameBut.update ..)⟩
 rw[Obj.data_mapFields b]
 trivial
theorem A9b (c:A.handled=none) (d:s.heap.IsTupleIter j u k) (h:s.heap.IsTuple u vs) (hx:vs[k]?=none)
 (q:∀h' e,Heap.ExtBut j s.heap h'->(∃o,h'.get? e=some o/\o.cls=.type "StopIteration")->E (.ref e) { s with heap:=h' }):wpAny (model P w) A (Builtin.SmallTypes.nextOf (.ref j)) Q E s:=by
 refine Yb d ?_
 obtain⟨o,f,r,g⟩:=d;obtain⟨t,i,_,n,l⟩:=h;apply wpAny_bind (m:=field (.ref j) 0);apply wpAny_field f g (x:=.ref u) rfl;have p:¬ ((Value.ref u==Value.none)=true):=aR
 show wpAny _ _ (if (Value.ref u==.none)=true then _ else _) _ _ _
 rw[if_neg p];apply wpAny_bind (m:=field (.ref j) 1);apply wpAny_field f g (x:=.int k 0) rfl;apply wpAny_bind (m:=seqItems? (.ref u));apply wpAny_seqItems i l;simp only[hx,bZ];apply wpAny_bind;apply wpAny_rule;apply wpAny_bind
 apply wpAny_setField f g (by simp)
 apply wpAny_bind (m:=newExc (.type "StopIteration") []);unfold newExc newTuple;apply wpAny_bind
 refine wpAny_newObj_type ?_ (by size_fits )
 apply wpAny_bind (m:=firstArgMember _ _)
 refine wpAny_of_eq (a:=Value.none) (by simp only[firstArgMember];rfl) ?_
 refine wpAny_newObj_type ?_ (by size_fits )
 unfold raiseNew;apply wpAny_bind;apply wpAny_handled;have b:A.in1.handled=none:=c;rw[b]
 refine wpAny_bind (wpAny_pure ?_)
 apply wpAny_throw;exact q _ _ (((Heap.SameBut.update ..).extBut.push _).push _) ⟨_,Heap.get?_push_size _ rfl,rfl⟩
def ItAt (t:Bool)(h:Heap)(j u:Addr)(k:Nat):Prop:=match t with
 | true=>h.IsTupleIter j u k
 | false=>h.IsListIter j u k
def SqA (t:Bool)(h:Heap)(u:Addr)(vs:u_):Prop:=match t with
 | true=>h.IsTuple u vs
 | false=>h.IsList u vs
theorem ItAt.stay (x:ItAt t h j u k) (q:∀o,h.get? j=some o->h'.get? j=some o):ItAt t h' j u k:=by
 cases t <;> (obtain⟨o,e,r⟩:=x;exact⟨o,q o e,r⟩)
theorem ItAt.obj (x:ItAt t h j u k):∃o,h.get? j=some o/\o.data=.fields #[.ref u,.int k 0]:=by
 cases t <;> (obtain⟨o,e,_,r⟩:=x;grind)
theorem SqA.stay (x:SqA t h u vs) (q:∀o,h.get? u=some o->h'.get? u=some o):SqA t h' u vs:=by
 cases t <;> (obtain⟨o,e,r⟩:=x;exact⟨o,q o e,r⟩)
theorem next_item (a:ItAt t s.heap j u k) (b:SqA t s.heap u vs) (hx:vs[k]?=some x)
 (q:∀h',ItAt t h' j u (k+1)->Heap.SameBut j s.heap h'->Q x { s with heap:=h' }):wpAny (model P w) A (Builtin.SmallTypes.nextOf (.ref j)) Q E s:=by
 cases t
 ·exact wpAny_nextOf_list_item a b hx q
 ·exact A2x a b hx q
theorem next_end (c:A.handled=none) (a:ItAt t s.heap j u k) (b:SqA t s.heap u vs) (hx:vs[k]?=none)
 (q:∀h' e,Heap.ExtBut j s.heap h'->(∃o,h'.get? e=some o/\o.cls=.type "StopIteration")->E (.ref e) { s with heap:=h' }):wpAny (model P w) A (Builtin.SmallTypes.nextOf (.ref j)) Q E s:=by
 cases t
 ·exact wpAny_nextOf_list_end c a b hx q
 ·exact A9b c a b hx q
structure A1c (h:Heap) (t1 t2:Bool) (z ti to i1 i2 a b:Addr) (f0:Value) (k:Nat):Prop where
 zip:IsZip h z ti to f0
 ins:IsPair h ti (.ref i1) (.ref i2)
 outs:∃u v,IsPair h to u v
 one:ItAt t1 h i1 a k
 two:ItAt t2 h i2 b k
structure zK (z ti to i1 i2 a b:Addr):Prop where
 nd:[z,ti,to,i1,i2].Nodup
 na:a∉[z,ti,to,i1,i2]
 nb:b∉[z,ti,to,i1,i2]
theorem zK.z_ti (x:zK z ti to i1 i2 a b):ti≠z:=by have:=x.nd;grind
theorem zK.z_to (x:zK z ti to i1 i2 a b):to≠z:=by have:=x.nd;grind
theorem zK.z_i1 (x:zK z ti to i1 i2 a b):i1≠z:=by have:=x.nd;grind
theorem zK.z_i2 (x:zK z ti to i1 i2 a b):i2≠z:=by have:=x.nd;grind
theorem zK.to_i1 (x:zK z ti to i1 i2 a b):to≠i1:=by have:=x.nd;simp_all
theorem zK.to_i2 (x:zK z ti to i1 i2 a b):to≠i2:=by have:=x.nd;simp_all
theorem zK.i1_i2 (x:zK z ti to i1 i2 a b):i1≠i2:=by have:=x.nd;simp_all
theorem zK.ti_to (x:zK z ti to i1 i2 a b):ti≠to:=by have:=x.nd;simp_all
theorem zK.ti_i1 (x:zK z ti to i1 i2 a b):ti≠i1:=by have:=x.nd;simp_all
theorem zK.ti_i2 (x:zK z ti to i1 i2 a b):ti≠i2:=by have:=x.nd;simp_all
theorem Be6 {Q:z_}(d:zK z j h r t a b) (y:A1c s.heap t1 t2 z j h r t a b .none k)
 (ha:SqA t1 s.heap a xs) (hb:SqA t2 s.heap b ys) (hx:xs[k]?=some x) (O:ys[k]?=some x')
 (q:∀h',A1c h' t1 t2 z j h r t a b (rawInt s.heap.objs.size) (k+1)->IsPair h' s.heap.objs.size x x'->(∀c o,c∉[z,j,h,r,t]->s.heap.get? c=some o->h'.get? c=some o)->Q (.ref s.heap.objs.size) { s with heap:=h' }) :
 wpAny (model P w) A (Builtin.«zip.__next__» ⟨[.ref z],[]⟩) (λf z=>∃v,f=.done (.ret v)/\Q v z) E s:=by
 obtain⟨u0,N,o0⟩:=y.outs;have S:=d.na;have I:=d.nb;simp only[au,bf,bh,not_or]at S I;apply wpAny_bind (m:=field (.ref z) 2);apply wpAny_field y.zip rfl (x:=.bool false) rfl;apply wpAny_bind (m:=field (.ref z) 3);apply wpAny_field y.zip rfl (x:=.ref j) rfl;apply wpAny_bind;apply wpAny_seqItems y.ins rfl;apply wpAny_bind (m:=Builtin.SmallTypes.ownedTupleIsFree (.ref z));unfold Builtin.SmallTypes.ownedTupleIsFree;apply wpAny_bind;apply wpAny_field y.zip rfl (x:=.none) rfl;apply wpAny_pure;simp only[aY];apply wpAny_bind;apply wpAny_rule;apply wpAny_bind;apply wpAny_field y.zip rfl (x:=.ref h) rfl;apply wpAny_bind
 apply wpAny_setField_rec y.zip (by simp)
 intro g1 L n;have L:IsZip g1 z j h .ellipsis:=L;apply wpAny_bind;simp only[List.zipIdx_cons,List.zipIdx_nil,gD,List.forIn_nil];apply wpAny_bind;apply wpAny_bind;apply wpAny_onRaise;apply wpAny_bind (m:=Builtin.SmallTypes.nextOf (.ref r))
 refine next_item (y.one.stay λo e=>n.extBut _ _ d.z_i1 e) (ha.stay λo e=>n.extBut _ _ S.1 e) hx λg2 n1 u=>?_
 apply wpAny_pure;have V:IsPair g2 h u0 N:=u.extBut _ _ d.to_i1 (n.extBut _ _ d.z_to o0);apply wpAny_bind;apply wpAny_seqItems V rfl;apply wpAny_bind;apply wpAny_updateSeq_pair V;intro g3 R B;have R:IsPair g3 h x N:=R;apply wpAny_bind;apply wpAny_letGo;apply wpAny_pure;apply wpAny_bind;apply wpAny_bind;apply wpAny_onRaise;apply wpAny_bind (m:=Builtin.SmallTypes.nextOf (.ref t))
 refine next_item (y.two.stay λo e=>B.extBut _ _ d.to_i2.symm (u.extBut _ _ d.i1_i2.symm (n.extBut _ _ d.z_i2 e))) (hb.stay λo e=>B.extBut _ _ I.2.2.1 (u.extBut _ _ I.2.2.2.1 (n.extBut _ _ I.1 e))) O λg4 n2 D=>?_
 apply wpAny_pure;have U:IsPair g4 h x N:=D.extBut _ _ d.to_i2 R;apply wpAny_bind;apply wpAny_seqItems U rfl;apply wpAny_bind;apply wpAny_updateSeq_pair U;intro i K F;have K:IsPair i h x x':=K;apply wpAny_bind;apply wpAny_letGo;apply wpAny_pure;apply wpAny_pure;apply wpAny_bind;apply wpAny_seqItems K rfl;apply wpAny_bind
 refine wpAny_newTuple ?_
 have W:i.objs.size=s.heap.objs.size:=by rw[F.1,D.1,B.1,u.1,n.1]
 have l:∀c o,c≠z->c≠h->c≠r->c≠t->s.heap.get? c=some o->i.get? c=some o:=λc o p1 T p3 p4 e=>F.extBut _ _ T (D.extBut _ _ p4 (B.extBut _ _ T (u.extBut _ _ p3 (n.extBut _ _ p1 e))))
 have Y:IsZip i z j h .ellipsis:=F.extBut _ _ d.z_to.symm (D.extBut _ _ d.z_i2.symm (B.extBut _ _ d.z_to.symm (u.extBut _ _ d.z_i1.symm L)))
 have m1:ItAt t1 i r a (k+1):=n1.stay λo e=>F.extBut _ _ d.to_i1.symm (D.extBut _ _ d.i1_i2 (B.extBut _ _ d.to_i1.symm e))
 have m2:ItAt t2 i t b (k+1):=n2.stay λo e=>F.extBut _ _ d.to_i2.symm e
 apply wpAny_bind (m:=Builtin.SmallTypes.ownedTupleHandOut (.ref z) (.ref i.objs.size));unfold Builtin.SmallTypes.ownedTupleHandOut;have z6:IsZip (i.push { cls:=.type "tuple",data:=.seq #[x,x'] }) z j h .ellipsis:=Heap.get?_push_of_some _ Y;apply wpAny_bind
 apply wpAny_setField_rec z6 (by simp)
 intro g7 M X;have M:IsZip g7 z j h (rawInt i.objs.size):=M
 apply wpAny_setField_rec M (by simp)
 intro H J Z;have J:IsZip H z j h (rawInt i.objs.size):=J
 have g:∀c o,c≠z->i.get? c=some o->H.get? c=some o:=λc o p e=>Z.extBut _ _ p (X.extBut _ _ p (Heap.get?_push_of_some _ e))
 have G:z<i.objs.size:=Heap.lt_size Y;have C:IsPair H i.objs.size x x':=Z.extBut _ _ (a_ G) (X.extBut _ _ (a_ G) (Heap.get?_push_size _ rfl));rw[W]at J C;apply wpAny_pure
 refine⟨_,rfl,?_⟩
 show Q (.ref i.objs.size) _
 rw[W]
 refine q H ⟨J,g _ _ d.z_ti (l _ _ d.z_ti d.ti_to d.ti_i1 d.ti_i2 y.ins),⟨x,x',g _ _ d.z_to K⟩,m1.stay λo e=>g _ _ d.z_i1 e,m2.stay λo e=>g _ _ d.z_i2 e⟩ C λc o p e=>?_
 simp at p
 exact g c o p.1 (l c o p.1 p.2.2.1 p.2.2.2.1 p.2.2.2.2 e)
theorem Bk1 (f:A.handled=none) (d:zK z l j v C a b) (y:A1c s.heap t1 t2 z l j v C a b .none k)
 (ha:SqA t1 s.heap a xs) (hb:SqA t2 s.heap b ys) (hx:xs[k]?=none\/ys[k]?=none)
 (q:∀h' e,(∀c o,c∉[z,l,j,v,C]->s.heap.get? c=some o->h'.get? c=some o)->(∃o,h'.get? e=some o/\o.cls=.type "StopIteration")->E (.ref e) { s with heap:=h' }) :
 wpAny (model P w) A (Builtin.«zip.__next__» ⟨[.ref z],[]⟩) F E s:=by
 obtain⟨T,V,S⟩:=y.outs;have I:=d.na;have B:=d.nb;simp only[au,bf,bh,not_or]at I B;apply wpAny_bind (m:=field (.ref z) 2);apply wpAny_field y.zip rfl (x:=.bool false) rfl;apply wpAny_bind (m:=field (.ref z) 3);apply wpAny_field y.zip rfl (x:=.ref l) rfl;apply wpAny_bind;apply wpAny_seqItems y.ins rfl;apply wpAny_bind (m:=Builtin.SmallTypes.ownedTupleIsFree (.ref z));unfold Builtin.SmallTypes.ownedTupleIsFree;apply wpAny_bind;apply wpAny_field y.zip rfl (x:=.none) rfl;apply wpAny_pure;simp only[aY];apply wpAny_bind;apply wpAny_rule;apply wpAny_bind;apply wpAny_field y.zip rfl (x:=.ref j) rfl;apply wpAny_bind
 apply wpAny_setField_rec y.zip (by simp)
 intro U u g;have u:IsZip U z l j .ellipsis:=u;apply wpAny_bind;simp only[List.zipIdx_cons,List.zipIdx_nil,gD,List.forIn_nil];apply wpAny_bind;apply wpAny_bind;apply wpAny_onRaise;apply wpAny_bind (m:=Builtin.SmallTypes.nextOf (.ref v))
 cases e1:xs[k]? with
 | none =>
  refine next_end f (y.one.stay λo e=>g.extBut _ _ d.z_i1 e) (ha.stay λo e=>g.extBut _ _ I.1 e) e1 λH x i K=>?_
  obtain⟨D,r,t⟩:=K;have Q:IsZip H z l j .ellipsis:=i _ _ d.z_i1.symm u
  have G:x≠z:=λe=>by subst e;rw[Q]at r;cases r;simp at t
  apply wpAny_setField_rec Q (by simp)
  intro N _ n
  refine q N x (λc o p e=>?_) ⟨D,n.extBut _ _ G r,t⟩
  simp only[au,bf,bh,not_or]at p;exact n.extBut _ _ p.1 (i _ _ p.2.2.2.1 (g.extBut _ _ p.1 e))
 | some x =>
  have Y:ys[k]?=none:=by
   rcases hx with h | h
   ·rw[e1]at h;cases h
   ·exact h
  refine next_item (y.one.stay λo e=>g.extBut _ _ d.z_i1 e) (ha.stay λo e=>g.extBut _ _ I.1 e) e1 λH n1 i=>?_
  apply wpAny_pure;have O:IsPair H j T V:=i.extBut _ _ d.to_i1 (g.extBut _ _ d.z_to S);apply wpAny_bind;apply wpAny_seqItems O rfl;apply wpAny_bind;apply wpAny_updateSeq_pair O;intro N Z n;apply wpAny_bind;apply wpAny_letGo;apply wpAny_pure;apply wpAny_bind;apply wpAny_bind;apply wpAny_onRaise;apply wpAny_bind (m:=Builtin.SmallTypes.nextOf (.ref C))
  refine next_end f (y.two.stay λo e=>n.extBut _ _ d.to_i2.symm (i.extBut _ _ d.i1_i2.symm (g.extBut _ _ d.z_i2 e))) (hb.stay λo e=>n.extBut _ _ B.2.2.1 (i.extBut _ _ B.2.2.2.1 (g.extBut _ _ B.1 e))) Y λW x M J=>?_
  obtain⟨D,r,t⟩:=J;have R:IsZip W z l j .ellipsis:=M _ _ d.z_i2.symm (n.extBut _ _ d.z_to.symm (i.extBut _ _ d.z_i1.symm u))
  have G:x≠z:=λe=>by subst e;rw[R]at r;cases r;simp at t
  apply wpAny_setField_rec R (by simp)
  intro X _ L
  refine q X x (λc o p e=>?_) ⟨D,L.extBut _ _ G r,t⟩
  simp only[au,bf,bh,not_or]at p;exact L.extBut _ _ p.1 (M _ _ p.2.2.2.2 (n.extBut _ _ p.2.2.1 (i.extBut _ _ p.2.2.2.1 (g.extBut _ _ p.1 e))))
end
section
variable {X:Cx}{pins:y_}{σ:St}{H:Hp}{s:o4}{h':Heap}
theorem Inv.turnLay {ch:u9}{p:Addr}{o:HO}{t':Nat}(I:Inv X pins σ H s)(hf:∀b∈ch,Qw X pins H b)(k:∀b u,b∉ch->s.heap.get? b=some u->h'.get? b=some u)(hp:s.heap.objs.size<=p)(w:zJ X.prog X.w (upd H p o) h' p o) :
 Inv X pins σ (upd H p o) { s with heap:=h',toks:=t' }:=by
 have g:H p=none:=I.hok.fresh hp
 have t:∀b u,H b=some u->b∉ch:=λb u e z=>by rw[(hf b z).1]at e;grind
 have d:∀b u,H b=some u->b≠p:=λb u e=>Cg e g
 have h:∀b u,s.heap.get? b=some u->b≠p:=λb u e z=>absurd (Heap.lt_size e) (by simp_all)
 refine I.step (g':=s.gens) (d':=s.drawn) (ch:=ch) (λb f=>?_) (λb u _ _ a e _=>k b u a e) (λb u _ _ a e _=>⟨u.slots,k b u a e⟩) (λb u _ e n=>?_) (λb u a e=>⟨u,k b u a e⟩)
  (λb i e=>?_) (λb o u e=>?_) (λb B e=>?_) (λm x=>?_) (λb u e=>?_) I.bare
 ·obtain⟨F,G,J,C,D,E⟩:=hf b f
  grind
 ·rw[Al (h b u e)];grind
 ·rw[Al (d b _ e)];grind
 ·rw[Al (d b _ e)];omega
 ·rw[Al (d b _ e)];grind
 ·obtain⟨j,y,A,l,r⟩:=x
  exact⟨j,y,A,k _ _ (λz=>(hf _ z).2.1 rfl) l,r⟩
 ·by_cases f:b=p
  ·subst f;rw[Be]at e;grind
  ·rw[Al f]at e
   refine (I.hok b u e).stay (λc v a q=>k c v ?_ q) λc q=>by rw[Al (d c _ q)];grind λc i q=>by rw[Al (d c _ q)];grind λc j i q=>by rw[Al (d c _ q)];grind
   grind
theorem Inv.turnL {ch:u9}{t':Nat}(I:Inv X pins σ H s)(hf:∀b∈ch,Qw X pins H b)(k:∀b u,b∉ch->s.heap.get? b=some u->h'.get? b=some u):Inv X pins σ H { s with heap:=h',toks:=t' }:=by
 have g:∀b u,H b=some u->b∉ch:=λb u e z=>by rw[(hf b z).1]at e;grind
 refine I.step (λb f=>?_) (λb u _ _ a e _=>k b u a e) (λb u _ _ a e _=>⟨u.slots,k b u a e⟩) (λb u _ e n=>n) (λb u a e=>⟨u,k b u a e⟩)
  (λb i e=>e) (λb o u e=>e) (λb t e=>e) (λm j=>?_) (λb u e=>?_) I.bare
 ·obtain⟨A,B,C,w,x,y⟩:=hf b f
  grind
 ·obtain⟨h,l,p,d,r⟩:=j
  exact⟨h,l,p,k _ _ (λz=>(hf _ z).2.1 rfl) d,r⟩
 ·refine (I.hok b u e).stay (λc v a q=>k c v ?_ q) (λc q=>q) λc i q=>q
  grind
end
def SqK (t:Bool)(H:Hp)(a:Addr)(xs:l_):Prop:=match t with
 | true=>H a=some (.tup xs)
 | false=>H a=some (.lst xs)
theorem SqK.one (x:SqK t H a xs) (y:SqK t H a ys):xs=ys:=by
 cases t
 ·have y:H a=some _:=y
  rw[x]at y;cases y;rfl
 ·have y:H a=some _:=y
  rw[x]at y;cases y;rfl
theorem SqK.some (x:SqK t H a xs):∃o,H a=some o:=by
 cases t
 ·exact⟨_,x⟩
 ·exact⟨_,x⟩
theorem SqK.its (I:Inv X pins d H s) (x:SqK t H a xs):∃b:v4,Vals xs b/\SqA t s.heap a b.toArray:=by
 cases t
 ·obtain⟨b,c,p,_⟩:=I.list (SqL.of x)
  exact⟨b,c,p.isList⟩
 ·obtain⟨b,c,p,_⟩:=I.tuple (SqT.of x)
  exact⟨b,c,(show s.heap.IsTuple a _ from p)⟩
def Itz (t1 t2:Bool)(a b:Addr):It :=
 ⟨
  λi H=>∃xs ys x y,SqK t1 H a xs/\SqK t2 H b ys/\xs[i]?=some x/\ys[i]?=some y,
  λi H v H'=>∃p x y,v=.ref p/\H p=none/\H'=upd H p (.tup [x,y])/\(∀xs,SqK t1 H a xs->xs[i]?=some x)/\∀ys,SqK t2 H b ys->ys[i]?=some y,
  λi H=>∃xs ys,SqK t1 H a xs/\SqK t2 H b ys/\(xs.length<=i\/ys.length<=i)⟩
theorem Bn5 {P:p7}{w:World}{K:q9}{t1 t2:Bool}{elts:q_}{kk:Nat}{pos:Pos}{z ti to i1 i2 a b:Addr}(nd:[z,ti,to,i1,i2].Nodup) :
 Turn P w K (.Tuple elts kk pos) (Itz t1 t2 a b) [z,ti,to,i1,i2] z (λi h=>A1c h t1 t2 z ti to i1 i2 a b .none i) where
 mem:=by simp
 obj:=λi h st c hc=>by
  simp only[au,bf,bh]at hc
  rcases hc with rfl | rfl | rfl | rfl | rfl
  ·exact⟨_,st.zip,λv e=>by cases e⟩
  ·exact⟨_,st.ins,λv e=>by cases e⟩
  ·obtain⟨u,v,e⟩:=st.outs;exact⟨_,e,λv e=>by cases e⟩
  ·obtain⟨o,e,q⟩:=st.one.obj;exact⟨o,e,λv e=>by rw[q]at e;cases e⟩
  ·obtain⟨o,e,q⟩:=st.two.obj;exact⟨o,e,λv e=>by rw[q]at e;cases e⟩
 keep:=λi h h' st k=>by
  obtain⟨u,v,e⟩:=st.outs
  exact⟨k z (by simp) _ st.zip,k ti (by simp) _ st.ins,⟨u,v,k to (by simp) _ e⟩,st.one.stay λo e=>k i1 (by simp) o e,st.two.stay λo e=>k i2 (by simp) o e⟩
 item:=by
  intro X hP hw hK hc i pins s σ H E I hf st hg;subst hP hw hK;obtain⟨xs,ys,x,y,ha,hb,hx,hy⟩:=hg;obtain⟨its,rv,pa⟩:=ha.its I;obtain⟨jts,rw',pb⟩:=hb.its I;obtain⟨u,hu,ru⟩:=rv.get hx;obtain⟨v,hv,rv'⟩:=rw'.get hy
  have off:zK z ti to i1 i2 a b:=⟨nd,λm=>by (obtain⟨o,e⟩:=ha.some;rw[(hf a m).1]at e;cases e),λm=>by (obtain⟨o,e⟩:=hb.some;rw[(hf b m).1]at e;cases e)⟩
  have ty:s.TypeIs (.ref z) "zip" := ⟨_,st.zip,rfl⟩;unfold pyNext;apply wpAny_bind;apply wpAny_attempt
  refine wpAny_callSpecial?_slot (name:="__next__") ty F.slot_zip_next ?_
  refine wpAny_call_entry F.slot_zip_next ty F.entry_zip_next ?_ (F.args_zip_next_1 _)
  refine Be6 off st pa pb (x:=u) (x':=v) (by simpa using hu) (by simpa using hv) λh1 z1 new kp=>?_
  refine wpAny_pure ⟨_,rfl,?_⟩
  apply wpAny_letOwnedTupleGo_zip z1.zip;intro h2 z2 sb;have nz:s.heap.objs.size≠z:=a_ (Heap.lt_size st.zip);have new2:IsPair h2 s.heap.objs.size u v:=sb.extBut _ _ nz new
  have ok:zJ X.prog X.w (upd H s.heap.objs.size (.tup [x,y])) h2 s.heap.objs.size (.tup [x,y]):=⟨(show 2<=sizeLine by decide),[u,v],.cons ru (.cons rv' .nil),⟨_,new2,rfl,⟨_,rfl⟩,rfl⟩⟩
  have I2:=I.turnLay (t':=s.toks) hf (h':=h2) (λc o m e=>sb.extBut _ _ (λe=>m (by simp[e])) (kp c o m e)) (ak _) ok
  obtain⟨u1,v1,e1⟩:=z1.outs;have zf:H s.heap.objs.size=none:=I.hok.fresh (ak _)
  refine⟨.ref s.heap.objs.size,_,I2,rfl,⟨_,x,y,rfl,zf,rfl,λxs' h=>?_,λys' h=>?_⟩,?_,λc hc=>?_⟩
  ·rw[h.one ha];exact hx
  ·rw[h.one hb];exact hy
  ·exact⟨z2,sb.extBut _ _ off.z_ti z1.ins,⟨u1,v1,sb.extBut _ _ off.z_to e1⟩,z1.one.stay λo e=>sb.extBut _ _ off.z_i1 e,z1.two.stay λo e=>sb.extBut _ _ off.z_i2 e⟩
  ·have lt:c<s.heap.objs.size:=by
    simp only[au,bf,bh]at hc
    rcases hc with rfl | rfl | rfl | rfl | rfl
    ·exact Heap.lt_size st.zip
    ·exact Heap.lt_size st.ins
    ·obtain⟨_,_,e⟩:=st.outs;exact Heap.lt_size e
    ·obtain⟨o,e,q⟩:=st.one.obj;exact Heap.lt_size e
    ·obtain⟨o,e,q⟩:=st.two.obj;exact Heap.lt_size e
   rw[Al (aJ lt)];exact(hf c hc).1
 done:=by
  intro X hP hw hK hc i pins s σ H E I hf st hg;subst hP hw hK;obtain⟨xs,ys,ha,hb,hl⟩:=hg;obtain⟨its,rv,pa⟩:=ha.its I;obtain⟨jts,rw',pb⟩:=hb.its I
  have off:zK z ti to i1 i2 a b:=⟨nd,λm=>by (obtain⟨o,e⟩:=ha.some;rw[(hf a m).1]at e;cases e),λm=>by (obtain⟨o,e⟩:=hb.some;rw[(hf b m).1]at e;cases e)⟩
  have ty:s.TypeIs (.ref z) "zip" := ⟨_,st.zip,rfl⟩;have l1:=rv.length;have l2:=rw'.length;unfold pyNext;apply wpAny_bind;apply wpAny_attempt
  refine wpAny_callSpecial?_slot (name:="__next__") ty F.slot_zip_next ?_
  refine wpAny_call_entry F.slot_zip_next ty F.entry_zip_next ?_ (F.args_zip_next_1 _)
  refine Bk1 (I.ok.hd hc) off st pa pb (by simp;omega) λh1 e kp he=>?_
  obtain⟨o,e1,e2⟩:=he;apply wpAny_bind
  refine wpAny_isInstance (T := "StopIteration") (b:=true) ⟨o,e1,e2⟩ isSubtype_stop ?_
  exact wpAny_pure ⟨rfl,I.turnL (t':=s.toks) hf λc o m e=>kp c o m e⟩
 self:=λ_ _ _ _ _ st h=>wpAny_pyIter_zip st.zip h
section
variable {P:p7}{w:World}{A:o6}{E:z_}{s:o4}
noncomputable abbrev itO (t:Bool) (u:Addr):Obj:={ cls:=.type (if t then "tuple_iterator" else "list_iterator"),data:=.fields #[.ref u,.int 0 0] }
abbrev zh1 (h:Heap)(t1:Bool)(a:Addr):Heap:=h.push (itO t1 a)
abbrev zh2 (h:Heap)(t1 t2:Bool)(a b:Addr):Heap:=(zh1 h t1 a).push (itO t2 b)
abbrev zh3 (h:Heap)(t1 t2:Bool)(a b:Addr):Heap:=(zh2 h t1 t2 a b).push { cls:=.type "tuple",data:=.seq #[.ref h.objs.size,.ref (zh1 h t1 a).objs.size] }
abbrev zh4 (h:Heap)(t1 t2:Bool)(a b:Addr):Heap:=(zh3 h t1 t2 a b).push { cls:=.type "tuple",data:=.seq #[.none,.none] }
abbrev zh5 (h:Heap)(t1 t2:Bool)(a b:Addr):Heap:=(zh4 h t1 t2 a b).push { cls:=.type "zip",data:=.fields #[.none,.bool false,.bool false,.ref (zh2 h t1 t2 a b).objs.size,.ref (zh3 h t1 t2 a b).objs.size] }
theorem Bo3 (t1 t2:Bool)(a b:Addr)(xs ys:u_) :
 Meets (Builtin.«zip.__new__» ⟨[.type "zip",.ref a,.ref b],[]⟩) (λ_ R s=>SqA t1 s.heap a xs/\SqA t2 s.heap b ys/\R (.ok (.ret (.ref (zh4 s.heap t1 t2 a b).objs.size))) { s with heap:=zh5 s.heap t1 t2 a b }) :=
 .of_wp λP w A R s h=>by
  obtain⟨e,g,d,c,f⟩:=s;obtain⟨k,l,h⟩:=h;have m:=sub_zip
  cases t1 <;> cases t2
  ·have j:Heap.IsList (Shared.heap ⟨e,g,d,c,f⟩) a xs:=k
   have i:Heap.IsList (Shared.heap ⟨e.push { cls:=.type "list_iterator",data:=.fields #[.ref a,.int 0 0] },g,d,c,f⟩) b ys:=Heap.IsList.push l _
   wp_walk using wpAny_pyIter_list j,wpAny_pyIter_list i
   exact⟨_,rfl,h⟩
  ·have j:Heap.IsList (Shared.heap ⟨e,g,d,c,f⟩) a xs:=k
   have i:Heap.IsTuple (Shared.heap ⟨e.push { cls:=.type "list_iterator",data:=.fields #[.ref a,.int 0 0] },g,d,c,f⟩) b ys:=Heap.IsTuple.push l _
   wp_walk using wpAny_pyIter_list j,wpAny_pyIter_tuple i
   exact⟨_,rfl,h⟩
  ·have j:Heap.IsTuple (Shared.heap ⟨e,g,d,c,f⟩) a xs:=k
   have i:Heap.IsList (Shared.heap ⟨e.push { cls:=.type "tuple_iterator",data:=.fields #[.ref a,.int 0 0] },g,d,c,f⟩) b ys:=Heap.IsList.push l _
   wp_walk using wpAny_pyIter_tuple j,wpAny_pyIter_list i
   exact⟨_,rfl,h⟩
  ·have j:Heap.IsTuple (Shared.heap ⟨e,g,d,c,f⟩) a xs:=k
   have i:Heap.IsTuple (Shared.heap ⟨e.push { cls:=.type "tuple_iterator",data:=.fields #[.ref a,.int 0 0] },g,d,c,f⟩) b ys:=Heap.IsTuple.push l _
   wp_walk using wpAny_pyIter_tuple j,wpAny_pyIter_tuple i
   exact⟨_,rfl,h⟩
theorem A3t (e:h.get? j=some (itO t u)):ItAt t h j u 0:=by
 cases t
 ·exact⟨_,e,rfl,rfl⟩
 ·exact⟨_,e,rfl,rfl⟩
theorem A4g (t:SqA t1 s.heap a xs) (u:SqA t2 s.heap b ys)
 (q:∀h',A1c h' t1 t2 (s.heap.objs.size+4) (s.heap.objs.size+2) (s.heap.objs.size+3) s.heap.objs.size (s.heap.objs.size+1) a b .none 0->(∀c o,s.heap.get? c=some o->h'.get? c=some o)->Q (.ref (s.heap.objs.size+4)) { s with heap:=h' }) :
 wpAny (model P w) A (call (.type "zip") [.ref a,.ref b]) Q E s:=by
 apply callType_new F.called_zip (by decide) (F.typeCall_zip_2 _ _) (F.newCall_zip_2 _ _) (λo=>F.args_object_init_3 o _ _) F.entry_zip_new (Bo3 t1 t2 a b xs ys)
 refine⟨t,u,?_⟩
 have i:(zh1 s.heap t1 a).objs.size=s.heap.objs.size+1:=Heap.size_push ..
 have g:(zh2 s.heap t1 t2 a b).objs.size=s.heap.objs.size+2:=by rw[Heap.size_push,i]
 have f:(zh3 s.heap t1 t2 a b).objs.size=s.heap.objs.size+3:=by rw[Heap.size_push,g]
 have k:(zh4 s.heap t1 t2 a b).objs.size=s.heap.objs.size+4:=by rw[Heap.size_push,f]
 have d:=λ{h:Heap} {c:Addr} {o:Obj} (n:Obj) (e:h.get? c=some o)=>Heap.get?_push_of_some n e
 have j:(zh5 s.heap t1 t2 a b).get? (zh4 s.heap t1 t2 a b).objs.size=some _:=Heap.get?_push_size _ rfl;have m:(zh5 s.heap t1 t2 a b).get? (zh3 s.heap t1 t2 a b).objs.size=some _:=d _ (Heap.get?_push_size _ rfl);have l:(zh5 s.heap t1 t2 a b).get? (zh2 s.heap t1 t2 a b).objs.size=some _:=d _ (d _ (Heap.get?_push_size _ rfl));have p:(zh5 s.heap t1 t2 a b).get? (zh1 s.heap t1 a).objs.size=some _:=d _ (d _ (d _ (Heap.get?_push_size _ rfl)));have r:(zh5 s.heap t1 t2 a b).get? s.heap.objs.size=some _:=d _ (d _ (d _ (d _ (Heap.get?_push_size _ rfl))));rw[g,f,k]at j;rw[i,g]at l;rw[f]at m;rw[i]at p;rw[k]
 exact⟨⟨_,j,rfl⟩,q _ ⟨j,l,⟨_,_,m⟩,A3t r,A3t p⟩ λc o e=>d _ (d _ (d _ (d _ (d _ e))))⟩
end
theorem A9n:bootBuiltins "zip" = some (.type "zip"):=by decide +kernel
section
variable {X:Cx}
def B6d (ta:TA):TI:=λσ H R=>ta σ H λvs H1=>∃a b,vs=[.ref a,.ref b]/\∃t1 t2 xs ys,SqK t1 H1 a xs/\SqK t2 H1 b ys/\R (Itz t1 t2 a b) H1
theorem B2u {p j e:Pos}{f:q_}{t:Nat}(hg:Gl X "zip") (hm:X.mg "zip" = none) (ha:QA X [a,b] m) (hs1:isStar a=false:=by rfl) (hs2:isStar b=false:=by rfl) :
 QI X (.Tuple f t e) (.Call (.Name "zip" p) [a,b] [] j) (B6d m):=by
 refine⟨?_⟩
 intro l s σ H R I h;have i:=G5 (es:=[b]) (env:=X.env) hs1
 refine Call_ (M6 I hg hm A9n (eE (thn (ha.1 _ _ s _ H _ I h) λus d ⟨vs,r,g,u,v⟩=>?_) i (by rw[(G5 (es:=[]) (env:=X.env) hs2)];rfl)))
 obtain⟨a',b',rfl,t1,t2,xs,ys,y,o,q⟩:=v;obtain⟨z,A,rfl,B,x⟩:=Vals.two u
 cases (show z=Value.ref _ from B)
 cases (show A=Value.ref _ from x)
 obtain⟨C,rv,w⟩:=y.its g;obtain⟨E,F,D⟩:=o.its g
 refine A4g w D λh' n G=>?_
 apply wpAny_pyIter_zip n.zip
 have J:[d.heap.objs.size+4,d.heap.objs.size+2,d.heap.objs.size+3,d.heap.objs.size,d.heap.objs.size+1].Nodup:=by simp
 refine⟨_,_,_,_,r,rfl,g.kept G,Bn5 J,n,λc hc=>?_,q⟩
 have k:d.heap.objs.size<=c:=by
  grind
 exact g.fpOk k (g.hok.fresh k)
end
def B0j:R2:=λx y H Q=>∃a b xs ys,x=.ref a/\y=.ref b/\H a=some (.tup xs)/\H b=some (.tup ys)/\xs.length+ys.length<=sizeLine/\∀p H',Same H H'->H' p=some (.tup (xs++ys))->Q (.ref p) H'
section
variable {X:Cx}
theorem Bj (h:H p=none) (o:HO):Same H (upd H p o):=λb u e=>by rw[Al (Cg e h)];grind
theorem Bv3:OpR X (binaryOp .Add) B0j:=by
 intro d s σ H x y v u Q I i f h;obtain⟨a,b,g,E,rfl,rfl,j,c,n,q⟩:=h
 by_cases e:g=[]
 ·cases i
  cases f
  subst e;obtain⟨o,r,t,_⟩:=I.tuple (SqT.of j);obtain⟨w,r2,A,_⟩:=I.tuple (SqT.of c);have C := r.nil_iff.mpr rfl;subst C;obtain⟨⟨c1,d1,D,s1⟩,k,F,n1,z⟩:=id t;obtain⟨⟨c2,d2,B,s2⟩,l,J,n2,G⟩:=id A;subst F z J G
  exact concat_meets ⟨_,k,rfl⟩ ⟨_,l,rfl⟩ noFill_tuple_add seq_tuple_add gZ g_ (h_ _ _)
   (tuple_addW0 a b _ _ _ _ _ _ _ _ (by simp)) ⟨k,l,⟨.ref b,H,I,rfl,q b H (λ_ _ e=>e) c⟩⟩
 ·refine Bq9 _ s _ H _ _ v u Q I i f ⟨a,b,g,E,rfl,rfl,SqT.of j,SqT.of c,e,n,λK=>?_,λK p m=>?_⟩
  ·exact q a H (λ_ _ e=>e) (by simp_all)
  ·exact q p _ (Bj m _) Be
end
section
variable {P:p7}{w:World}{A:o6}{E:z_}{s:o4}
theorem B3w (quiet:A.handled=none)(t:Bool)(j u:Addr)(ne:u≠j)(vs:u_):Draws P w A j [j,u] vs.size (λi v=>vs[i]?=some v) (λi h=>ItAt t h j u i/\SqA t h u vs) where
 live:=λi h x=>let ⟨o,e,_⟩:=x.1.obj; ⟨o,e⟩
 frame:=λi h h' x k=>⟨x.1.stay λo e=>k j (by simp) o e,x.2.stay λo e=>k u (by simp) o e⟩
 item:=λi s Q E hi x q=>next_item x.1 x.2 (x:=vs[i]) (by simp[hi]) λh' a b=>q _ h' s.toks (by simp[hi]) ⟨a,x.2.stay λo e=>b.extBut _ _ ne e⟩ b
 done:=λs Q E x q=>next_end quiet x.1 x.2 (by simp) q
end
theorem Ad2:bootBuiltins "enumerate" = some (.type "enumerate"):=by decide +kernel
section
variable {X:Cx}
def Bz4 (i j k:Nat)(ta:TA):TS:=λD σ H=>ta σ H λvs H1=>∃v w y,vs=[v,w,y]/\D.nx (((σ.set i (some v)).set j (some w)).set k (some y)) H1
theorem Br0 {i j k:Nat}{x y z:Str}{a b c:Expr}{M:TA}{t r B u:Pos}{C k2 f}(hc:X.calm=true)(hN:X.N.Nodup)(hi:X.N[i]?=some x)(hj:X.N[j]?=some y)(hk:X.N[k]?=some z)(hij:i≠j)(hik:i≠k)(hjk:j≠k)
 (hx:X.env.scope.names.lookup x=some .local) (hy:X.env.scope.names.lookup y=some .local) (hz:X.env.scope.names.lookup z=some .local) (ha:QA X [a,b,c] M)
 (hw:swappedStores [.Tuple [.Name x t,.Name y r,.Name z B] C u] (.Tuple [a,b,c] k2 f) X.env=pure (some [x,y,z]))
 (hs:swapsWithSole [.Tuple [.Name x t,.Name y r,.Name z B] C u] (.Tuple [a,b,c] k2 f) pos.line X.env=pure false:=by rfl) :
 QS X (.Assign [.Tuple [.Name x t,.Name y r,.Name z B] C u] (.Tuple [a,b,c] k2 f) pos) (Bz4 i j k M):=by
 refine⟨?_⟩
 intro d s N H D I h;rw[exec_Assign_arm]
 refine wpAny_bind (wpAny_standAt ?_)
 rw[hs]
 refine wpAny_bind (wpAny_pure ?_)
 rw[if_neg (by decide)]
 refine wpAny_bind (Tuple_ (thn (ha.1 _ d s N H _ I h) λW g ⟨vs,L,R,V,A⟩=>?_))
 obtain⟨v,w,y',P,A⟩:=A;subst P
 obtain⟨n,m,l,rfl,Q,F,S⟩:∃n m l,W=[n,m,l]/\RelV v n/\RelV w m/\RelV y' l:=by
  cases V with
  | cons p q =>
   cases q with
   | cons T U =>
    cases U with
    | cons E G =>
     cases G
     exact⟨_,_,_,rfl,p,T,E⟩
 refine wpAny_newObj_type ?_ (by show 3<=sizeLine;decide)
 have Y:Inv X d N L { g with heap:=g.heap.push { cls:=.type "tuple",data:=.seq [n,m,l].toArray } }:=R.kept (t':=g.toks) λb o e=>Heap.get?_push_of_some _ e
 rw[hw]
 refine wpAny_bind (wpAny_pure ?_)
 show wpAny (model X.prog X.w) X.A (do rule "assign.swapped-stores";let items <- unpackItems (.ref g.heap.objs.size) 3 none;assignInOrder [λv=>bindName X.env z v,λv=>bindName X.env y v,λv=>bindName X.env x v] items.reverse;pure Flow.next) _ _ _
 refine wpAny_bind (wpAny_rule (wpAny_bind (unpackItems_tuple (items:=#[n,m,l]) (I.ok.hd hc) (IsTup.new g.heap _) λO J=>?_)))
 show wpAny _ _ (assignInOrder [λv=>bindName X.env z v,λv=>bindName X.env y v,λv=>bindName X.env x v] [l,m,n] >>= λ_=>pure Flow.next) _ _ _
 refine wpAny_bind (assignInOrder_cons (wpAny_bindName (K8 (Y.kept (h':=O) (t':=g.toks) λb o e=>J b o (aJ (Heap.lt_size e)) e) hN hk (.inl hz) S (λs2 Z=>?_) (.inr hz))))
 refine assignInOrder_cons (wpAny_bindName (K8 Z hN hj (.inl hy) F (λs3 I5=>?_) (.inr hy)))
 refine assignInOrder_cons (wpAny_bindName (K8 I5 hN hi (.inl hx) Q (λs4 K=>assignInOrder_nil (wpAny_pure ?_)) (.inr hx)))
 rw[gA _ _ (aL hij),gA _ _ (aL hik),gA _ _ (aL hjk)]at K;exact⟨_,L,K,A⟩
end
section
variable {X:Cx}{a b:Expr}{ta tb:TE}{pos:Pos}
def B2o (neg:Bool):R2:=λx y H Q=>∃d ds,Tr H d x/\(Tr H (.list ds) y\/Tr H (.tuple ds) y)/\Flat d/\PyData.canLayAll0 ds=true/\Q (.bl (if neg then !ds.any (λe=>PyData.eqv e d) else ds.any λe=>PyData.eqv e d)) H
theorem O7 (hu:X.A.units+64<cLine)(ha:QE X a ta)(hb:QE X b tb)(hm:behindInMarks .NotIn b=false):QT X (.Compare a [.NotIn] [b] pos) (T7 (tOp (B2o true) ta tb)):=⟨Pj (A7p hu) ha.1 hb.1 hm⟩
end
end L2
set_option autoImplicit true
namespace L2
open PySem PySem.Spec PyProof.Rows
theorem Af : QE X (.Constant (.int i) j a) (tC (.int i)) :=
 ⟨Bp0 ⟩
theorem Mw : QE X (.Constant (.bool b) j a) (tC (.bl b)) :=
 ⟨Bz3 ⟩
theorem Le : QE X (.Constant .none j a) (tC .non) :=
 ⟨Bc3 ⟩
theorem Bd : QE X (.Constant (.str x) j a) (tC (.str x)) :=
 ⟨Bg7 ⟩
theorem Sx (hg:Gl X x) (hm:X.mg x=some u) (r:RelV v u) (hd:(x==("__debug__" : Str))=false:=by decide):QE X (.Name x a) (tC v) :=
 ⟨By2 (hg:=hg) (hm:=hm) (r:=r) (hd:=hd)⟩
theorem Ep {a:Pos}(hg:Gl X x) (hm:X.mg x=none) (hv:bootBuiltins x=some u) (r:RelV v u) (hn:x ≠ "__name__" := by decide) (hd:(x==("__debug__" : Str))=false:=by decide):QE X (.Name x a) (tC v) :=
 ⟨Bt8 (hg:=hg) (hm:=hm) (hv:=hv) (r:=r) (hn:=hn) (hd:=hd)⟩
theorem Km (h:QE X a t):QE X (.BoolOp op [a] pos) t :=
 ⟨B2b (h:=h.get)⟩
theorem Bt : QSs X [] Bh1 :=
 ⟨Bu0 ⟩
theorem Az1 : QS X stm A5d :=
 ⟨Ba9 ⟩
theorem Uq (a:X.K=Kq) {k:Nat} (hc:X.calm=true) (h:QGs X es t) (hn:(assignEach es X.env).length=n:=by rfl) (hst:(assignEach es X.env).findIdx? (·.1)=none:=by rfl):QG X (.Tuple es k pos) (Bl0 Kq n t):=by
 subst a;exact⟨B2f (hc:=hc) (h:=h.get) (hn:=hn) (hst:=hst)⟩
theorem Gq (a:X.K=Kq) (hl:QE X l b):QI X c l (B2h Kq b):=by
 subst a;exact⟨B1x (hl:=hl.get)⟩
theorem Ac : QA X [] Jb :=
 ⟨Af1 ⟩
theorem Ad (ha:QE X e te)(hr:QA X es t)(hs:isStar e=false:=by rfl):QA X (e::es) (Ej te t) :=
 ⟨Bq8 (ha:=ha.get) (hr:=hr.get) (hs:=hs)⟩
theorem Bm9 (F:FnOk X.prog X.w X.K X.mg X.base CX k f fd ps sp)(hr:Room k X.A)(hg:Gl X x)(hm:X.mg x=some (.ref f))(hk:PySem.W.keepIn X.K (.ref f)=true)(hb:Binds X.K fd ps ds)(hd:Vals dvs ds)(hx:Aa2 CX X E)(ha:QA X (e::es) t)(hdb:(x==("__debug__" : Str))=false:=by decide) (hn:noStar (e::es)=true:=by rfl):QE X (.Call (.Name x p) (e::es) [] pos) (Ay5 sp dvs E t) :=
 ⟨Bj9 (F:=F) (hr:=hr) (hg:=hg) (hm:=hm) (hk:=hk) (hb:=hb) (hd:=hd) (hx:=hx) (ha:=ha.get) (hdb:=hdb) (hn:=hn)⟩
theorem B0p (hr:IxR X r) (ha:QE X a ta) (hb:QE X b tb) (hs:Nx b):QE X (.Subscript a b pos) (tOp r ta tb) :=
 ⟨B0z (hr:=hr) (ha:=ha.get) (hb:=hb.get) (hs:=hs)⟩
theorem K1 (a:X.K=Kq) (pa:PlainAttrs T) (slot:Slot T name idn) (hty:typeOf (.builtin idn)=pure (.type "method_descriptor")) (hm:MtR X idn r) (ho:QE X o to) (ha:QA X (e::es) t) (hbase:attributeBase o name X.env (eval o X.env)=eval o X.env:=by rfl) (hfew:((backTo cpos (starEach (e::es) X.env)).all (λx=>!x.1)&&(backToKw cpos (keywordEach [] X.env)).all (λx=>x.1.isSome)
 && decide ((e::es).length+([]:List Keyword).length+(if ([]:List Keyword).isEmpty then 0 else 1)<30))=true:=by rfl) (hline:(apos.endLine==cpos.line)=true:=by rfl) (hs:starEach (e::es) X.env=(false,eval e X.env)::starEach es X.env:=by rfl) (hplain:(backTo cpos (starEach es X.env)).any (·.1)=false:=by rfl):QE X (.Call (.Attribute o name apos) (e::es) [] cpos) (tBM Kq T r to t):=by
 subst a;exact⟨By9 (pa:=pa) (slot:=slot) (hty:=hty) (hm:=hm) (ho:=ho.get) (ha:=ha.get) (hbase:=hbase) (hfew:=hfew) (hline:=hline) (hs:=hs) (hplain:=hplain)⟩
theorem Gu (b:X.K=Kq) (ho:QE X a ta) (hv:QE X e te) (hbase:attributeBase a "append" X.env (eval a X.env)=eval a X.env:=by rfl) (hfew:((backTo cpos (starEach [e] X.env)).all (λx=>!x.1)&&(backToKw cpos (keywordEach [] X.env)).all (λx=>x.1.isSome)
 && decide ([e].length+([]:List Keyword).length+(if ([]:List Keyword).isEmpty then 0 else 1)<30))=true:=by rfl) (hline:(apos.endLine==cpos.line)=true:=by rfl) (hns:isStar e=false:=by rfl):QE X (.Call (.Attribute a "append" apos) [e] [] cpos) (tBM Kq "list" rAppF ta (Ej te Jb)):=by
 subst b;exact⟨A8u (ho:=ho.get) (hv:=hv.get) (hbase:=hbase) (hfew:=hfew) (hline:=hline) (hns:=hns)⟩
theorem Br9 : QTs X [] Br6 :=
 ⟨Br7 ⟩
theorem qtN:∀a b c d e,QTs (G7 X N' scope a b c d e) [] Br6:=λ_ _ _ _ _=>Br9
theorem Jk (L:Nr X N' idx scope)(hc:X.calm=true)(hi:QI X tg iter wi)(hg:∀d C b a c,QG (G7 X N' scope d C b a c) tg g)(ht:∀d C b a c,QTs (G7 X N' scope d C b a c) ifs tc)(he:∀d C b a c,QE (G7 X N' scope d C b a c) elt te)(hs:∀x,foldedSetIterable iter X.env x=pure x:=by intro _;rfl):QE X (.ListComp elt [⟨tg,iter,ifs,0⟩] scope pos) (tLC idx wi g tc te) :=
 ⟨B6r (L:=L) (hc:=hc) (hi:=hi.get) (hg:=λd C b a c=>(hg _ C _ _ _).get) (ht:=λd C b a c=>(ht _ C _ _ _).get) (he:=λd C b a c=>(he _ C _ _ _).get) (hs:=hs)⟩
theorem Ae2 {f d:Pos}(hN:X.N.Nodup) (hi':X.N[i]?=some y) (hy:Loc X.env.scope y) (L:Nr X N' idx scope) (hc:X.calm=true) (hi:QI X tg iter wi) (hg:∀e C b a c,QG (G7 X N' scope e C b a c) tg g) (ht:∀e C b a c,QTs (G7 X N' scope e C b a c) ifs tc) (he:∀e C b a c,QE (G7 X N' scope e C b a c) elt te) (hsw:swapsWith (.ListComp elt [⟨tg,iter,ifs,0⟩] scope pos) (some (.Name y f)) d.line X.env=pure true:=by rfl) (hf:X.fn y=true\/X.env.scope.names.lookup y=some .local:=by first | exact .inl rfl | exact .inr rfl | assumption) (hs:∀x,foldedSetIterable iter X.env x=pure x:=by intro _;rfl):QS X (.Assign [.Name y f] (.ListComp elt [⟨tg,iter,ifs,0⟩] scope pos) d) (Xd (tLC idx wi g tc te) (J5 i)) :=
 ⟨Bi2 (hN:=hN) (hi':=hi') (hy:=hy) (L:=L) (hc:=hc) (hi:=hi.get) (hg:=λe C b a c=>(hg _ C _ _ _).get) (ht:=λe C b a c=>(ht _ C _ _ _).get) (he:=λe C b a c=>(he _ C _ _ _).get) (hsw:=hsw) (hs:=hs)⟩
theorem X5 (a:X.K=Kq) (hgl:Gl X "abs") (hm:X.mg "abs" = none) (ha:QA X (e::es) t) (hns:noStar (e::es)=true:=by rfl):QE X (.Call (.Name "abs" p) (e::es) [] pos) (tCB (Uy Kq) t):=by
 exact⟨A2d (hgl:=hgl) (hm:=hm) (ha:=ha.get) (hns:=hns)⟩
theorem Cd (a:X.K=Kq) (hgl:Gl X "isinstance") (hm:X.mg "isinstance" = none) (ha:QA X (e::es) t) (hns:noStar (e::es)=true:=by rfl):QE X (.Call (.Name "isinstance" p) (e::es) [] pos) (tCB (Uk Kq) t):=by
 exact⟨Ay7 (hgl:=hgl) (hm:=hm) (ha:=ha.get) (hns:=hns)⟩
theorem As0 (a:X.K=Kq) (hgl:Gl X "isinstance") (hm:X.mg "isinstance" = none) (ha:QA X (e::es) t) (hns:noStar (e::es)=true:=by rfl):QE X (.Call (.Name "isinstance" p) (e::es) [] pos) (tCB (Nv Kq) t):=by
 exact⟨At4 (hgl:=hgl) (hm:=hm) (ha:=ha.get) (hns:=hns)⟩
theorem Ig (a:X.K=Kq) (hc:X.calm=true) (hgl:Gl X "all") (hm:X.mg "all" = none) (ha:QA X (e::es) t) (hns:noStar (e::es)=true:=by rfl):QE X (.Call (.Name "all" p) (e::es) [] pos) (tCB (Q7 Kq) t):=by
 subst a;exact⟨At6 (hc:=hc) (hgl:=hgl) (hm:=hm) (ha:=ha.get) (hns:=hns)⟩
theorem Qa (a:X.K=Kq) (hgl:Gl X "int") (hm:X.mg "int" = none) (ha:QA X (e::es) t) (hns:noStar (e::es)=true:=by rfl):QE X (.Call (.Name "int" p) (e::es) [] pos) (tCB (Ro Kq) t):=by
 exact⟨Au1 (hgl:=hgl) (hm:=hm) (ha:=ha.get) (hns:=hns)⟩
theorem Bh (a:X.K=Kq) (hgl:Gl X "tuple") (hm:X.mg "tuple" = none) (ha:QA X (e::es) t) (hns:noStar (e::es)=true:=by rfl):QE X (.Call (.Name "tuple" p) (e::es) [] pos) (tCB (Li Kq) t):=by
 subst a;exact⟨Wy (hgl:=hgl) (hm:=hm) (ha:=ha.get) (hns:=hns)⟩
theorem Lk (a:X.K=Kq) (hgl:Gl X "list") (hm:X.mg "list" = none) (ha:QA X (e::es) t) (hns:noStar (e::es)=true:=by rfl):QE X (.Call (.Name "list" p) (e::es) [] pos) (tCB (Nh Kq) t):=by
 subst a;exact⟨Yi (hgl:=hgl) (hm:=hm) (ha:=ha.get) (hns:=hns)⟩
theorem Ap3 (a:X.K=Kq) (hc:X.calm=true) (hgl:Gl X "min") (hm:X.mg "min" = none) (ha:QA X (e::es) t) (hns:noStar (e::es)=true:=by rfl):QE X (.Call (.Name "min" p) (e::es) [] pos) (tCB (Rp Kq) t):=by
 exact⟨As9 (hc:=hc) (hgl:=hgl) (hm:=hm) (ha:=ha.get) (hns:=hns)⟩
theorem Al3 (h:Wk es=some vs):QA X es (tK vs):=⟨Al9 h⟩
theorem QW.qt (h:QW X e t):QT X e t:=⟨h.get.pt⟩
theorem qv (i:Nat) {a:Pos}(hN:X.N[i]?=some x:=by rfl) (hv:Vis X.env.scope x:=by first | exact Or.inl rfl | exact Or.inr (Or.inl rfl) | exact Or.inr (Or.inr rfl)) (hd:(x==("__debug__" : Str))=false:=by decide) (hcd:(x==("__classdict__" : Str))=false:=by decide):QE X (.Name x a) (Tp i):=⟨Bc6 hN hv hd hcd⟩
end L2
namespace L2
open PySem
theorem Gm (h:QSs X st t) (k:t D a H):∃t,PSs X st t/\t D a H:=⟨t,h.get,k⟩
theorem Yo:Gw "NoneType" "int" = some false:=by trivial
theorem Yg:Gw "NoneType" "str" = some false:=by trivial
theorem Xe:Gw "NoneType" "bool" = some false:=by trivial
theorem Xc:Gw "NoneType" "list" = some false:=by trivial
theorem Vx:Gw "NoneType" "tuple" = some false:=by trivial
theorem A1e:Gw "bool" "int" = some true:=by trivial
theorem Ay2:Gw "bool" "str" = some false:=by trivial
theorem At0:Gw "bool" "bool" = some true:=by trivial
theorem Ap1:Gw "bool" "list" = some false:=by trivial
theorem Ai9:Gw "bool" "tuple" = some false:=by trivial
theorem A2l:Gw "int" "int" = some true:=by trivial
theorem A3u:Gw "int" "str" = some false:=by trivial
theorem A2c:Gw "int" "bool" = some false:=by trivial
theorem A0e:Gw "int" "list" = some false:=by trivial
theorem Av8:Gw "int" "tuple" = some false:=by trivial
theorem A2g:Gw "str" "int" = some false:=by trivial
theorem A4i:Gw "str" "str" = some true:=by trivial
theorem A0s:Gw "str" "bool" = some false:=by trivial
theorem A0f:Gw "str" "list" = some false:=by trivial
theorem As8:Gw "str" "tuple" = some false:=by trivial
theorem A1j:Gw "list" "int" = some false:=by trivial
theorem A0z:Gw "list" "str" = some false:=by trivial
theorem Ax4:Gw "list" "bool" = some false:=by trivial
theorem Av4:Gw "list" "list" = some true:=by trivial
theorem Ai0:Gw "list" "tuple" = some false:=by trivial
theorem Av7:Gw "tuple" "int" = some false:=by trivial
theorem Av1:Gw "tuple" "str" = some false:=by trivial
theorem Ai7:Gw "tuple" "bool" = some false:=by trivial
theorem Ah6:Gw "tuple" "list" = some false:=by trivial
theorem Ab0:Gw "tuple" "tuple" = some true:=by trivial
section
variable {H:Hp}{i:Int}{a:Addr}
theorem B3b (h:H a=some (.lst xs)):Ub H (.ref a)=some "list" := by simp only[Ub,h]
theorem B1s (h:H a=some (.tup xs)):Ub H (.ref a)=some "tuple" := by simp only[Ub,h]
theorem Bp9 (h:H a=some (.lst xs)):A9m H (.ref a)=some xs.length:=by simp only[A9m,h]
theorem Bs0 (h:H a=some (.tup xs)):A9m H (.ref a)=some xs.length:=by simp only[A9m,h]
theorem Bs1 {xs:l_}(h:H a=some (.lst xs)):ixF H (.ref a) (.int i)=atI xs i:=by simp only[ixF,h]
theorem Br5 {xs:l_}(h:H a=some (.tup xs)):ixF H (.ref a) (.int i)=atI xs i:=by simp only[ixF,h]
end
abbrev g2 (K:q9)(i j:Nat):TG:=Bl0 K 2 (Aj4 (J5 i) (Aj4 (J5 j) Ba5))
mutual
noncomputable def noL:o5->Bool
 | .none=>true
 | .bool _=>true
 | .int _=>true
 | .str _=>true
 | .tuple ds=>Yp ds
 | .list _=>false
 | .dict _=>false
noncomputable def Yp:w6->Bool
 | []=>true
 | d::r=>noL d&&Yp r
end
theorem TrL.get {H:Hp}:∀{ds:w6}{vs:l_}{k:Nat}{v:V},TrL H ds vs->vs[k]?=some v->∃d,ds[k]?=some d/\Tr H d v
 | [],_,k,v,h,e=>by cases (show _=[] from h);simp at e
 | d::r,_,0,v,⟨_,_,rfl,q,_⟩,e=>by simp at e;subst e;exact⟨d,rfl,q⟩
 | d::r,_,k+1,v,⟨_,_,rfl,_,q⟩,e=>by simp at e;simpa using TrL.get q e
theorem TrL.got {H:Hp}:∀{ds:w6}{vs:l_}{k:Nat}{d:o5},TrL H ds vs->ds[k]?=some d->∃v,vs[k]?=some v/\Tr H d v
 | [],_,k,d,h,e=>by simp at e
 | d::r,_,0,_,⟨v,_,rfl,q,_⟩,e=>by simp at e;subst e;exact⟨v,rfl,q⟩
 | d::r,_,k+1,_,⟨_,_,rfl,_,q⟩,e=>by simp at e;simpa using TrL.got q e
theorem TrL.app {H:Hp}:∀{ds es:w6}{vs us:l_},TrL H ds vs->TrL H es us->TrL H (ds++es) (vs++us)
 | [],es,_,us,h,q=>by cases (show _=[] from h);exact q
 | d::r,es,_,us,⟨v,vr,rfl,q1,q2⟩,q=>⟨v,vr++us,rfl,q1,TrL.app q2 q⟩
theorem TrL.one (h:Tr H d v):TrL H [d] [v]:=⟨v,[],rfl,h,rfl⟩
end L2
namespace L2
open PySem PySem.Spec PyProof.Rows
noncomputable def sgn (c:Nat):V:=.str ⟨#[c]⟩
def Its (x:Str):It:=⟨λi _=>i<x.cps.size,λi H v H'=>H'=H/\∃c,x.cps[i]?=some c/\v=sgn c,λi _=>i=x.cps.size⟩
def B4c (it:Addr)(ty:String)(x:Str)(t:Tok)(i:Nat)(h:Heap):Prop:=h.IsStrIter it ty x t i
theorem Az9 {P:p7}{w:World}{K:q9}{tg:Expr}{it:Addr}{ty:String}{x:Str}{t:Tok}
 (W:∀A':o6,A'.handled=none->Walks P w A' it [it] [it] x.cps.size (SignAt x) (B4c it ty x t))
 (hs:∀(A:o6) (i:Nat) (s:o4) (Q:z_) (E:z_),B4c it ty x t i s.heap->Q (.ref it) s->wpAny (model P w) A (pyIter (.ref it)) Q E s)
 (hn:["enumerate", "zip", "dict_itemiterator", "dict_reverseitemiterator", "odict_iterator", "itertools.zip_longest", "itertools.pairwise"].contains ty=false):Turn P w K tg (Its x) [it] it (B4c it ty x t) where
 mem:=by simp
 obj:=λi h st b hb=>by
  have e:b=it:=by simpa using hb
  subst e;obtain⟨o,e,c,d⟩:=st
  exact⟨o,e,λv z=>by rw[d]at z;cases z⟩
 keep:=λi h h' st k=>by
  obtain⟨o,e,r⟩:=st
  exact⟨o,k it (by simp) o e,r⟩
 item:=by
  intro X hP hw hK hc i pins s σ H E I hf st hg;subst hP hw hK
  obtain⟨f0,f1,f2,f3,f4,f5⟩:=hf it (by simp)
  refine (W X.A (I.ok.hd hc)).item i s _ _ hg st λv h' tk hv st' kk=>?_
  obtain⟨c,u,hx,rfl⟩:=hv
  have I1:Inv X pins σ H { s with heap:=h',toks:=tk }:=I.turned (λb o hb e=>kk b o (by simpa using hb) e) f0 f1 f3 f4 f5
  obtain⟨o,e,c',d⟩:=id st'
  exact⟨_,rfl,Ay3 (s:={ s with heap:=h',toks:=tk }) e c' d hn ⟨sgn c,H,I1,⟨u,rfl⟩,⟨rfl,c,hx,rfl⟩,st',λb hb=>(hf b hb).1⟩⟩
 done:=by
  intro X hP hw hK hc i pins s σ H E I hf st hg;subst hP hw hK
  obtain⟨f0,f1,f2,f3,f4,f5⟩:=hf it (by simp)
  have e:i=x.cps.size:=hg;subst e
  exact(W X.A (I.ok.hd hc)).done s _ _ st λh' tk kk=>⟨rfl,I.turned (λb o hb e=>kk b o (by simpa using hb) e) f0 f1 f3 f4 f5⟩
 self:=hs
section
variable {X:Cx}{tg:Expr}
def B5d (tl:TE):TI:=λσ H R=>tl σ H λx H1=>∃y,x=.str y/\R (Its y) H1
theorem At5 {l:Expr}{k:TE}(hl:QE X l k):QI X tg l (B5d k):=by
 refine⟨?_⟩
 intro d s r H R I h
 refine thn (hl.1 d s r H _ I h) λv a ⟨x,m,c,u,n⟩=>?_
 obtain⟨y,e,q⟩:=n;subst e;obtain⟨t,rfl⟩:=u
 cases ha:y.cps.all (·<128)
 ·refine wpAny_pyIter_wide ha ?_
  refine⟨a.heap.objs.size,[a.heap.objs.size],_,_,m,rfl,c.kept (t':=a.toks) λb o e=>Heap.get?_push_of_some _ e,Az9 (ty := "str_iterator") (λp j=>Walks.strWide j _ y t) (λA i s Q E g h=>wpAny_pyIter_striter_wide g h) (by decide),⟨_,Heap.get?_push_size _ rfl,rfl,rfl⟩,λb f=>?_,q⟩
  have e:b=a.heap.objs.size:=by simpa using f
  subst e;exact c.fpOk (ak _) (c.hok.fresh (ak _))
 ·refine wpAny_pyIter_ascii ha ?_
  refine⟨a.heap.objs.size,[a.heap.objs.size],_,_,m,rfl,c.kept (t':=a.toks) λb o e=>Heap.get?_push_of_some _ e,Az9 (ty := "str_ascii_iterator") (λp j=>Walks.strAscii j _ y t) (λA i s Q E g h=>wpAny_pyIter_striter_ascii g h) (by decide),⟨_,Heap.get?_push_size _ rfl,rfl,rfl⟩,λb f=>?_,q⟩
  have e := by simpa using f
  subst e;exact c.fpOk (ak _) (c.hok.fresh (ak _))
end
end L2
namespace L2
open PySem
mutual
noncomputable def wt:o5->Nat
 | .none=>4
 | .bool _=>5
 | .int _=>1921
 | .str x=>10*x.length+2
 | .list xs=>Qt xs+4
 | .tuple xs=>Qt xs+4
 | .dict _=>0
noncomputable def Qt:w6->Nat
 | []=>0
 | x::xs=>wt x+2+Qt xs
end
end L2
namespace L2
open PySem PySem.Spec PyProof.Rows
section
variable {P:p7}{w:World}{A:o6}
theorem A0t {s:o4}{l:Addr}{c:v4}{ks:List Key}{Q:z_}{E:z_}(g:A.handled=none)(hl:s.heap.IsTuple l c.toArray)
 (is:∀(i:Nat) (v:Value),c[i]?=some v->∃k,ks[i]?=some k/\Wj k v=true/\v.scannable=true) (hlen:ks.length=c.length) (few:c.length+1<scanBound)
 (fin:∀d tk,Ah4 P w s.heap.objs.size (dst ks) d->(∀b o,s.heap.get? b=some o->d.get? b=some o)->Q (.ref s.heap.objs.size) { s with heap:=d,toks:=tk }) :
 wpAny (model P w) A (call (.type "set") [.ref l]) Q E s:=by
 refine Bo7 (λz=>∃d tk,z={ s with heap:=d,toks:=tk }/\Ah4 P w s.heap.objs.size (dst ks) d/\∀b o,s.heap.get? b=some o->d.get? b=some o) ?_ λa=>?_
 ·rintro z ⟨d,tk,rfl,q1,q2⟩
  exact fin d tk q1 q2
 have hl2:(Ml s a).heap.IsTuple l c.toArray:=hl.push _;obtain⟨ob,g1,g2,n,g3⟩:=hl2;obtain⟨_,dct,_,sls⟩:=ob
 dsimp only at g2 g3
 subst g2 g3;have w1:=F.sub_tuple_set;have w2:=F.sub_tuple_frozenset
 have w3:(Value.type "tuple" == Value.type "dict")=false:=by decide
 have hl3:(Ml s a).heap.IsTuple l c.toArray:=⟨_,g1,rfl,n,rfl⟩;unfold Builtin.«set.__init__» Builtin.Frozenset.updateFrom noKeywords;generalize walk:pyIter=itr
 wp_walk
 subst walk;apply wpAny_pyIter_tuple hl3;apply wpAny_bind;apply wpAny_runValue
 have lt:l<s.heap.objs.size:=by obtain⟨o,e,_⟩:=hl;exact Heap.lt_size e
 have sz:(Ml s a).heap.objs.size=s.heap.objs.size+1:=Heap.size_push _ _
 have f:A.in1.in1.in1.handled=none:=by simp[g]
 have h:l≠(Ml s a).heap.objs.size:=by rw[sz];exact aJ (fO lt)
 have wk:=(Walks.tuple (prog:=P) (w:=w) f _ l h c.toArray).toS
 refine fill wk (S:=s.heap.objs.size) ?_ ks (by simpa using hlen) (λi v p=>is i v (by simpa using p)) (by simpa using few) _ ?_ c.length 0 _ (by simp) ⟨⟨_,Heap.get?_push_size _ rfl,rfl,rfl⟩,hl3.push _⟩ (Moved.refl wk.grefl) ?_
 ·rw[sz]
  intro q
  rcases au.mp q with q | q
  ·exact aJ (bY _) q
  ·exact a_ lt (az.mp q)
 ·intro z mv sh
  obtain⟨d,g',d',t',o'⟩:=z;have e1:g'=s.gens:=mv.gens;have e2:d'=s.drawn:=mv.drawn;have e3:o'=s.os:=mv.os;subst e1 e2 e3;apply wpAny_pure
  show wpAny _ _ (ret Value.none) _ _ _
  refine wpAny_pure ⟨rfl,d,t',rfl,sh,λb o q=>mv.heap b o ?_ (Heap.get?_push_of_some _ (Heap.get?_push_of_some _ q))⟩
  have bl:=Heap.lt_size q;intro m
  rcases au.mp m with m | m
  ·exact aJ bl m
  ·have m:=az.mp m
   rw[sz]at m;exact aJ (fO bl) m
 ·have new:((Ml s a).heap.push { cls:=.type "tuple_iterator",data:=.fields #[.ref l,.int 0 0] }).get? s.heap.objs.size=some (bare a):=Heap.get?_push_of_some _ (Ae4 s a)
  have e:Tw ([]:List Key)=λ_=>false:=rfl
  show Heap.SetOf (Ge P w) _ _ (Tw []) 0
  rw[e]
  exact⟨_,_,_,_,new,⟨rfl,rfl,rfl⟩,rfl,λx m=>by simp at m,λk=>by simp,by decide,by cases a <;> rfl,rfl⟩
end
section
variable {X:Cx}
def Al7 (P:p7)(w:World)(K:q9):l_->Hp->VK->Prop:=λxs H Q=>∃(a:Addr) (vs:l_) (ks:List Key),xs=[.ref a]/\SqT K H a vs/\vs.map keyV=ks.map some/\vs.length<1000/\∀p,H p=none->Q (.ref p) (upd H p (Bv5 P w p (dst ks)))
theorem A7k (hc:X.calm=true):CallR X (.type "set") (Al7 X.prog X.w X.K):=by
 intro l s σ H xs us Q I r h;obtain⟨a,c,b,rfl,w,p,hv,q⟩:=h;obtain⟨u,rfl,f⟩:=vals1 r
 cases (show u=Value.ref a from f)
 obtain⟨j,d,t,hz⟩:=I.tuple w
 have g:b.length=c.length:=by have:=bj List.length p;grind
 refine A0t (ks:=b) (I.ok.hd hc) (show s.heap.IsTuple a j.toArray from t) (λi v e=>?_) (by rw[g,d.length]) (by rw[<- d.length];unfold scanBound;omega) λh' tk n A=>?_
 ·have C:i<c.length:=by have:=(bB.mp e).1;rw[d.length];exact this
  have B:i<b.length:=by omega
  obtain⟨u,m,f⟩:=d.get (i:=i) (x:=c[i]) (by simp[C])
  rw[e]at m
  cases m
  have D:keyV c[i]=some b[i]:=by
   have:=bj (λz=>z[i]?) p
   grind
  exact⟨b[i],by simp ,By3 D f⟩
 ·have k:zJ X.prog X.w (upd H s.heap.objs.size (Bv5 X.prog X.w s.heap.objs.size (dst b))) _ _ (Bv5 _ _ _ _) :=
   ⟨n,let ⟨o,_,_,_,e,_⟩:=n; ⟨o,e⟩,λh1 h2 x y=>Xb x y⟩
  exact⟨.ref _,_,I.laid A (ak _) k,rfl,q _ (I.hok.fresh (ak _))⟩
theorem A2s {e:Expr}{c:TE}{p d b a:Pos}(hc:X.calm=true)(hgs:Gl X "set") (hms:X.mg "set" = none) (hgl:Gl X "len") (hml:X.mg "len" = none) (he:PE X e c) (hns:isStar e=false:=by rfl) :
 PE X (.Call (.Name "len" p) [.Call (.Name "set" d) [e] [] a] [] b) (tCB (Wh X.prog X.w) (Ej (tCB (Al7 X.prog X.w X.K) (Ej c Jb)) Jb)) :=
 Jj Ax9 hgl hml A3y (Bq8 (Mt (A7k hc) hgs hms B3u (Bq8 he Af1 hns) (by decide) (by rfl) (by show !isStar e&&true=true;grind)) Af1 rfl) (by decide) (by rfl) rfl
theorem A5a {Kq:q9}(b:X.K=Kq){e:Expr}{d:TE}{p f c a:Pos}(hc:X.calm=true)(hgs:Gl X "set") (hms:X.mg "set" = none) (hgl:Gl X "len") (hml:X.mg "len" = none) (he:QE X e d) (hns:isStar e=false:=by rfl):QE X (.Call (.Name "len" p) [.Call (.Name "set" f) [e] [] a] [] c) (tCB (Wh X.prog X.w) (Ej (tCB (Al7 X.prog X.w Kq) (Ej d Jb)) Jb)):=by
 subst b;exact⟨A2s (hc:=hc) (hgs:=hgs) (hms:=hms) (hgl:=hgl) (hml:=hml) (he:=he.get) (hns:=hns)⟩
end
end L2
namespace HT
open PySem PySem.Spec PyProof.Rows
end HT
namespace L2
open PySem PySem.Spec PyProof.Rows
section
def B7b:R2:=λx y H Q=>∃i j,x=.str i/\y=.str j/\Q (.bl (!(Builtin.Str.occurrences j i 0 j.length 1).isEmpty)) H
end
end L2
namespace HT
open PySem PySem.Spec PyProof.Rows
section
variable {prog:p7}{w:World}{A:o6}{E:z_}{s:o4}
theorem Tu {lo hi:o7} (ht:IsTup s.heap t items) (hs:s.heap.IsSliceOf b g f .none) (pl:IsPart g lo) (i:IsPart f hi)
 (hw:sIx items.size 0 lo=0/\sIx items.size items.size hi=items.size) (h:Q (.ref t) s):wpAny (model prog w) A (getItem (.ref t) (.ref b)) Q E s:=by
 obtain⟨k,d,c,j⟩:=id hs;have e:s.TypeIs (.ref b) "slice" := ⟨k,d,c⟩;unfold getItem
 try with_reducible refine wpAny_holding ?_
 first | refine wpAny_bind (wpAny_pure ?_) | skip
 refine wpAny_bind (wpAny_sequenceKey ht.typeIs (by decide) ?_)
 refine wpAny_bind (wpAny_callSpecial?_slot (name:="__getitem__") ht.typeIs fJ
  (wpAny_call_entry fJ ht.typeIs entry_tuple_getitem ?_ (args_tuple_getitem _ _)))
 show wpAny _ _ (Builtin.Tuple.tupleItemsOf (.ref t) >>= _) _ _ s
 refine wpAny_bind (tupleItemsOf_ ht ?_)
 refine wpAny_bind (wpAny_typeOf e ?_)
 rw[if_pos (by decide)]
 refine wpAny_bind (Ox hs pl i ?_)
 show wpAny _ _ (if (((sIx items.size 0 lo:Nat):Int)==0&&(1:Int)==1&&(sIx _ _ _-sIx _ 0 _)==items.size)=true then _ else _) _ _ s
 have a:(((sIx items.size 0 lo):Int)==0&&(1:Int)==1&&sIx items.size items.size hi-sIx items.size 0 lo==items.size)=true:=by
  rw[hw.1,hw.2];simp
 rw[if_pos a]
 refine wpAny_bind (wpAny_bind (wpAny_typeOf ht.typeIs (wpAny_pure ?_)))
 refine wpAny_bind (wpAny_rule ?_)
 first
  | exact wpAny_pure ⟨_,rfl,wpAny_pure h⟩
  | exact wpAny_bind _
  | exact wpAny_bind _
  | trace_state
end
end HT
namespace L2
open PySem PySem.Spec PyProof.Rows
section
variable {X:Cx}
def B0u (K:q9):V->o7->o7->Hp->VK->Prop:=λx lo hi H Q=>∃a xs,x=.ref a/\SqT K H a xs /\
 (HT.sIx xs.length 0 lo=0/\HT.sIx xs.length xs.length hi=xs.length)/\Q (.ref a) H
theorem Bv8:SlR X (B0u X.K):=by
 intro d s σ H x v vl vu lo hi sl Q I k f g e h;obtain⟨a,xs,rfl,j,hw,q⟩:=h
 cases k
 obtain⟨i,r,c,hz⟩:=I.tuple j
 have b := by exact r.length.symm
 refine⟨"tuple",_,fJ.lookup,c.typeIs,?_⟩
 exact HT.Tu c f g e (by grind) ⟨.ref a,H,I,rfl,q⟩
end
theorem Ib:fillsNumberSlot (.type "tuple") "mul" = pure false :=
 PySem.fillsNumberSlot_seq (id := "tuple.__mul__") (r:=some (.builtin "tuple.__rmul__")) F.slot_tuple_mul.lookup (by decide +kernel) F.slot_tuple_rmul.lookup (by decide +kernel)
theorem Mi:seqRepeat? (.type "tuple")=pure (some (.builtin "tuple.__mul__")):=by
 unfold seqRepeat?
 rw[PySem.seqSlot_of (T := "tuple") (name := "__mul__") (id := "tuple.__mul__") F.slot_tuple_mul.lookup (by decide +kernel),PySem.seqSlot_of (T := "tuple") (name := "__rmul__") (id := "tuple.__rmul__") F.slot_tuple_rmul.lookup (by decide +kernel)]
 rfl
theorem Af4 (its:v4)(m:Nat):List.foldl (λx1 x2=>x1++x2) #[] (List.replicate m its.toArray)=(List.replicate m its).flatten.toArray:=by
 have:=foldl_rep its m [];rw[bx]at this;exact this
theorem A0a {α:Type}(l:List α)(m:Nat):(List.replicate m l).flatten.length=m*l.length:=by
 rw[List.length_flatten,List.map_replicate,List.sum_replicate_nat]
theorem Pa (a:Int)(t:Tok)(l:Addr)(items:u_)(n:Nat)(dd:Option Addr)(sl:Array (p_)) :
 Meets (Builtin.«int.__rmul__» ⟨[.int a t,.ref l],[]⟩) (λ_ R s=>s.heap.get? l=some { cls:=.type "tuple",dict:=dd,data:=.seq items n,slots:=sl }/\R (.ok (.ret Value.notImplemented)) s) :=
 .of_wp λprog w A R s h=>by obtain⟨hp,g,d,tk,os⟩:=s;obtain⟨hl,h⟩:=h;wp_walk;exact⟨_,rfl,h⟩
theorem A8c (l:Addr)(items:u_)(n:Nat)(dd:Option Addr)(sl:Array (p_))(k:Int)(t:Tok)(h2:2<=k)(hne:0<items.size)(hz:items.size*k.toNat<=16000000) :
 Meets (Builtin.«tuple.__mul__» ⟨[.ref l,.int k t],[]⟩)
  (λ_ R s=>s.heap.get? l=some { cls:=.type "tuple",dict:=dd,data:=.seq items n,slots:=sl }/\R (.ok (.ret (.ref s.heap.objs.size))) { s with heap:=s.heap.push { cls:=.type "tuple",data:=.seq ((List.replicate k.toNat items).foldl (·++·) #[]) } }) :=
 .of_wp λprog w A R s h=>by
  obtain⟨hp,g,d,tk,os⟩:=s;obtain⟨hl,h⟩:=h
  have hk:k<=16000000:=by
   have:1*k.toNat<=items.size*k.toNat:=Nat.mul_le_mul_right _ hne;omega
  have c1:¬ (k < -(2 ^ 63)||k≥2 ^ 63)=true:=by simp;omega
  have c2:¬ (items.isEmpty||k==1)=true:=by simp;constructor <;> (first | omega | (intro e;subst e;simp at hne))
  have c3:¬ (k<=0||items.isEmpty)=true:=by simp;constructor <;> (first | omega | (intro e;subst e;simp at hne))
  have e0:(items.size:Int)*k=((items.size*k.toNat:Nat):Int):=by
   rw[Int.natCast_mul,iw (by omega)]
  have c4:¬ ((items.size:Int)*k>(2 ^ 63-1) / 8):=by rw[e0];omega
  have c5:¬ Builtin.Tuple.tupleTooMany ((items.size:Int)*k)=true:=by rw[e0];unfold Builtin.Tuple.tupleTooMany;generalize items.size*k.toNat=z at hz;simp[sizeLine];omega
  wp_walk using wpAny_loadPart' hl
  rw[if_neg c1]
  wp_walk using wpAny_loadPart' hl
  rw[if_neg c4]
  wp_walk using wpAny_loadPart' hl
  rw[if_neg c5]
  show wpAny _ _ (Builtin.Tuple.tupleExact _ >>= λv=>ret v) _ _ _
  unfold Builtin.Tuple.tupleExact
  refine wpAny_bind (wpAny_newObj_type ?_ ?_)
  ·exact wpAny_pure ⟨_,rfl,h⟩
  ·rw[show items=items.toList.toArray by simp,Af4]
   show (List.replicate k.toNat items.toList).flatten.toArray.size<=sizeLine
   rw[bJ,A0a]
   have:items.toList.length=items.size:=by simp
   rw[this,Nat.mul_comm]
   exact ao hz (by decide)
section
variable {X:Cx}
def B0r:R2:=λx y H Q=>∃l k xs,x=.ref l/\y=.int k/\H l=some (.tup xs)/\2<=k/\0<xs.length/\xs.length*k.toNat<=16000000/\∀p,H p=none->Q (.ref p) (upd H p (.tup (List.replicate k.toNat xs).flatten))
theorem Bq4:OpR X (binaryOp .Mult) B0r:=by
 intro pins s σ H x y v u Q I rx ry h;obtain⟨l,k,xs,rfl,rfl,hH,h2,hp,hz,q⟩:=h
 cases rx
 obtain⟨t,rfl⟩:=ry;obtain⟨z,its,rt,o,e,hc,⟨n,hd⟩,hdn⟩:=I.hok l _ hH;obtain⟨c0,dd,dat,sl⟩:=o
 dsimp only at hc hd hdn
 subst hc hd hdn;have hl:its.length=xs.length:=rt.length.symm
 have hz':its.toArray.size*k.toNat<=16000000:=by rw[bJ,hl];exact hz
 refine wpAny_binaryOp_repeat_ref (T := "tuple") (U := "int") (by decide) ⟨_,e,rfl⟩ (λs'=>typeIs_int s' k t) Ib F.fills_int_mul F.slot_int_rmul Mi F.slot_int_index.lookup
  (call_meets F.slot_int_rmul (typeIs_int s k t) F.entry_int_rmul (F.args_int_rmul_2 _ _) (Pa k t l its.toArray n _ _)
   ⟨e,rfl,⟨_,e,rfl⟩,call_meets F.slot_tuple_mul ⟨_,e,rfl⟩ F.entry_tuple_mul (F.args_tuple_mul_2 _ _) (A8c l its.toArray n _ _ k t h2 (by rw[bJ,hl];exact hp) hz') ⟨e,?_⟩⟩)
 rw[Af4]
 refine⟨.ref _,_,I.laid (t':=s.toks) (λb o e=>Heap.get?_push_of_some _ e) (ak _) (show zJ X.prog X.w _ _ _ (.tup (List.replicate k.toNat xs).flatten) from ⟨?_,_,rt.rep k.toNat,yD.new _ _⟩),rfl,q _ I.fresh⟩
 rw[A0a,Nat.mul_comm]
 exact ao hz (by decide)
end
section
variable {X:Cx}
noncomputable def B7e:V->Option Str
 | .non=>some (Str.ofString "None")
 | .bl b=>some (if b then Str.ofString "True" else Str.ofString "False")
 | .str x=>some x
 | _=>none
def X3 (K:q9):l_->Hp->VK->Prop:=λxs H Q=>∃x z,xs=[x]/\B7e x=some z/\Q (.str z) H
theorem A8i:CallR X (.type "str") (X3 X.K):=by
 intro d s σ H xs us Q I r h;obtain⟨x,z,rfl,a,q⟩:=h;obtain⟨u,rfl,c⟩:=vals1 r
 cases x with
 | non=>cases a;cases (c);exact P.str_of_none ⟨.str _,H,I.tok _,⟨_,rfl⟩,q⟩
 | bl b=>cases a;cases (c);exact P.str_of_bool ⟨.str _,H,I.tok _,⟨_,by trivial⟩,q⟩
 | str y=>cases a;obtain⟨t,rfl⟩:=c;exact P.str_of_str ⟨.str _,H,I,⟨_,rfl⟩,q⟩
 | _=>cases a
end
section
def B7o (ks:v_)(xs:l_):List (Key×V):=(ks.zip xs).map λp=>((Sum.inr p.1:Key),p.2)
end
noncomputable def Jw (sep:Str):v_->Str
 | [x]=>x
 | l=>Builtin.Str.glued sep l
theorem Qh:∀{ss:v_}{us:v4},Vals (ss.map V.str) us->∃l:List (Str×Tok),us=strValues l/\l.map (·.1)=ss
 | [],us,h=>by cases h;exact⟨[],rfl,rfl⟩
 | x::ss,us,h=>by
  cases h with
  | cons r rs =>
   obtain⟨t,rfl⟩:=r;obtain⟨l,rfl,e⟩:=Qh rs
   exact⟨(x,t)::l,rfl,by rw[aK,e]⟩
section
variable {X:Cx}
def rJoin (K:q9):V->l_->Hp->VK->Prop:=λx vs H Q=>∃(sep:Str) (a:Addr) (ss:v_),x=.str sep/\vs=[.ref a]/\SqL K H a (ss.map V.str)/\ss.toArray.foldl (·+·.length+sep.length) 0<=sizeLine/\(Jw sep ss).length<=sizeLine/\Q (.str (Jw sep ss)) H
theorem Kv {Kq:q9}(hKq:X.K=Kq):MtM X "str.join" (rJoin Kq):=by
 subst hKq;intro pins s σ H x vs v us Q I rx rv h;obtain⟨sep,a,ss,rfl,rfl,hq,hz,hy,q⟩:=h;obtain⟨t,rfl⟩:=rx;obtain⟨u,rfl,ru⟩:=rv.one
 cases ru
 obtain⟨its,r,pl,hz'⟩:=I.list hq;obtain⟨l,rfl,e⟩:=Qh r
 refine call_meets F.slot_str_join (typeIs_str _ _ _) F.entry_str_join (F.args_str_join_2 _ _) (meets_str_join_list sep t a l ?_) ⟨pl.isList,?_⟩
 ·rw[e]
  exact aB (by omega)
 ·subst e
  match l,hy,q with
  | [],hy,q=>exact⟨hy,.str _,H,I.tok _,⟨_,rfl⟩,q⟩
  | [p],hy,q=>exact⟨.str _,H,I,⟨_,rfl⟩,q⟩
  | p::p2::r,hy,q=>exact⟨hy,.str _,H,I.tok _,⟨_,rfl⟩,q⟩
end
section
variable {X:Cx}
def B5y:V->o7->o7->Hp->VK->Prop:=λx lo hi H Q=>∃z:Str,x=.str z/\z.length<=sizeLine/\Q (.str (Txt.slice z lo hi)) H
theorem part_of (h:IsPart v o):∃p:Option (Int×Tok),v=partValue p/\p.map (·.1)=o:=by
 cases h with
 | none=>exact⟨none,rfl,rfl⟩
 | int i t=>exact⟨some (i,t),rfl,rfl⟩
theorem B2w:SlR X B5y:=by
 intro a s σ H x v vl vu lo hi sl Q I d c b e h;obtain⟨z,rfl,f,q⟩:=h;obtain⟨t,rfl⟩:=d;obtain⟨l,rfl,rfl⟩:=part_of b;obtain⟨u,rfl,rfl⟩:=part_of e
 refine⟨"str",_,F.slot_str_getitem.lookup,typeIs_str _ _ _,wpAny_getItem_str_slice (l:=l) (u:=u) (st:=none) c rfl ?_⟩
 exact post_val_or_str ⟨ao (Txt.slice_le z _ _) f,λt' k=>⟨.str _,H,I.tok _,⟨_,rfl⟩,q⟩⟩
end
section
variable {A:o6}{E:z_}{s:o4}
theorem A1f (e:s.heap.get? p=some o) (h:Q (some o) s):wpAny M A (loadIfAlive p) Q E s:=λb q a=>by
 show Sem.wp M _ (.loadIfAlive p _) _ _ q s
 simp_all
end
end L2
namespace L2
open PySem PySem.Spec PyProof.Rows PySem.W
section
variable {X:Cx}
noncomputable def B7d (a C:Addr) (d:Option Addr):HO:=.ext λh=>∃o,h.get? a=some o/\o.cls=.ref C/\o.dict=d/\∃vs,o.data=.fields vs
noncomputable def B7c (X:Cx) (a:Addr):Cx:={ X with A:=X.A.mark (some (.ref a)),calm:=false,xe:=λ_ _=>False }
end
end L2
namespace L2
open PySem PySem.Spec PyProof.Rows
def TabAt (K:q9)(h:Heap):Prop:=(∀p∈Hi K,h.get? p.1=some { cls:=.none,data:=.fields #[] }/\isCodeTable h p.1/\K.lookup p.1=none)/\∀p∈Hi K,(Hi K).lookup p.1=some p.2
theorem Ny {l:List (Addr×Str)} (h:l.lookup b=some q):(b,q)∈l:=by
 induction l with
 | nil=>grind
 | cons p r a =>
  grind
theorem A8p {K:q9}
 (KX:K.In c.heap) (hns:c.heap.Ns mainGlobals mg) (hb:c.heap.Ns builtinsNs U) (X:∀x:Str,x ≠ "__name__" -> U x=bootBuiltins x) (L:c.heap.NoLimit) (hg:c.gens=#[])
 (T:∃j o,mg "__builtins__" = some (.ref j)/\j≠builtinsNs/\c.heap.get? j=some o/\o.cls=.type "module" /\ o.dict=some builtinsNs/\o.data=.plain) (D:TabAt K c.heap)
 (ha:c.heap.get? a=some { cls:=.type "list",data:=.seq vs.toArray }) (hi:IntsAre vs ns) (hl:ns.length<=sizeLine) (hr:Room k callerA)
 (F:∀base:Heap,K.In base->base.Ns mainGlobals mg->FnOk P w K mg base CX k fa fd [x] sp) (C:∀(s:o4) (u:Value),BindsTo s fd ⟨[u],[]⟩ [(x,u)])
 (hsp:∀H:Hp,SqL K H a (ns.map V.int)->sp [.ref a] H (λv _=>v=.bl true) λ_ _ _=>False)
 (W:∀H e s',CX [] H c (λ_ _ _=>False) e s'->False) :
 codeAny (model P w) callerA (.call (.ref fa) ⟨[.ref a],[]⟩) (λr s'=>r=.ok (.ret (.bool true))/\OldK c.heap s'.heap/\s'.os=c.os/\AllBare s'.gens) c:=by
 have rv:=An2 hi;have E:=hi.length
 have Y:∀p∈Hi K,p.1≠a:=λp B z=>by
  have e:=(D.1 p B).1;rw[z,ha]at e;cases e
 have t:∀H:Hp,SqL K H a (ns.map V.int)->HOk P w H c.heap->(∀b u,H b=some u->(b=a/\K.lookup a=none/\∃o xs,u=.frz o (.lst xs))\/∃q,(b,q)∈Hi K/\u=.tbl q)->(∀p∈Hi K,H p.1=some (.tbl p.2)) ->
  codeAny (model P w) callerA (.call (.ref fa) ⟨[.ref a],[]⟩) (λr s'=>r=.ok (.ret (.bool true))/\OldK c.heap s'.heap/\s'.os=c.os/\AllBare s'.gens) c:=by
  intro H hS G hA hH
  have f:∀{b:Addr} {o:Obj},c.heap.get? b=some o->H b=none->(Ah5 c.heap H).get? b=some o:=λe n=>Bl9 e n
  have N:∀{b:Addr} {o:Obj},c.heap.get? b=some o->(∀x n,o.data≠.seq x n)->(∀x,o.data≠.fields x)->H b=none:=λ{b o} e d1 d2=>by
   cases q:H b with
   | none=>rfl
   | some u =>
    rcases hA b u q with ⟨z,_⟩ | ⟨y,O,_⟩
    ·rw[z,ha]at e;cases e;exact absurd rfl (d1 _ _)
    ·have g:=(D.1 _ O).1
     rw[e]at g;cases g;exact absurd rfl (d2 _)
  have l:∀{b:Addr} {m:x_},c.heap.Ns b m->(Ah5 c.heap H).Ns b m:=λ{b m} ⟨o,es,ep,e,d,r⟩=>⟨o,es,ep,f e (N e (λx n z=>by rw[d]at z;cases z) λx z=>by rw[d]at z;cases z),d,r⟩
  have I:K.In (Ah5 c.heap H):=λb o e=>f (KX b o e) (by
   cases q:H b with
   | none=>rfl
   | some u =>
    rcases hA b u q with ⟨z,z2,_⟩ | ⟨y,O,_⟩
    ·rw[z,z2]at e;cases e
    ·rw[(D.1 _ O).2.2]at e;cases e)
  have Z:∃j o,mg "__builtins__" = some (.ref j)/\j≠builtinsNs/\j≠mainGlobals/\(Ah5 c.heap H).get? j=some o/\o.cls=.type "module" /\ o.dict=some builtinsNs/\o.data=.plain:=by
   obtain⟨j,o,b1,b2,Q,b4,b5,M⟩:=T
   refine⟨j,o,b1,b2,λz=>?_,f Q (N Q (λx n z=>by rw[M]at z;cases z) λx z=>by rw[M]at z;cases z),b4,b5,M⟩
   obtain⟨og,es,ep,e,d,_⟩:=hns;rw[z,e]at Q;cases Q;rw[d]at M;cases M
  have hM:Mod K mg (Ah5 c.heap H):=⟨I,l hns,⟨U,l hb,X⟩,(let ⟨mc,h1,h2⟩:=L; ⟨mc,l h1,h2⟩),Z⟩
  have e0:Bs4 P w K mg (Ah5 c.heap H) callerA [] c H:=⟨rfl,hM,λb o e=>Bw7 e,fM (A8l _ _),trivial,λb hb=>absurd (show b∈([]:u9) from hb) (by simp),hH,G,.of_eq hg⟩
  refine codeAny_mono ((F _ I (l hns)).run callerA [] c H ⟨[.ref a],[]⟩ [.ref a] [.ref a] _ _ hr e0 (C c (.ref a)) (.cons rfl .nil) (hsp H hS)) λr s' h=>?_
  cases r with
  | error e=>exact(W H e s' h).elim
  | ok fl =>
   cases fl with
   | next=>exact False.elim h
   | brk=>exact False.elim h
   | cont=>exact False.elim h
   | ret u =>
    obtain⟨v,H',os,J,R,A,r',q⟩:=h;have q':v=.bl true:=q;subst q';obtain rfl:u=Value.bool true:=r'
    refine⟨rfl,⟨λb o e=>?_,λb o e=>R.there b o e (by simp)⟩,os,J⟩
    cases q:H b with
    | none=>exact .inl (R.keep b o e q (by intro z;exact absurd (show b∈([]:u9) from z) (by simp)) (by simp))
    | some u =>
     rcases hA b u q with ⟨_,_,ob,xs,rfl⟩ | ⟨y,O,rfl⟩
     ·obtain⟨g,_⟩:=G b _ q
      obtain⟨e2,_⟩:=A b _ (R.frzs b ob _ q);rw[e]at g;cases g;exact .inl e2
     ·obtain⟨ps,e2,_⟩:=A b _ (R.tbls b y q)
      obtain⟨t1,t2,_⟩:=D.1 _ O;rw[e]at t1;cases t1
      exact .inr (.inl ⟨t2,rfl,#[],ps,rfl,by rw[e2];simp⟩)
 have i:∀(H:Hp) (p:Addr×Str),p∈Hi K->zJ P w H _ _ (.tbl p.2):=λH p B=>⟨#[],(D.1 p B).1,trivial,λpos cv z=>by cases z⟩
 cases hk:K.lookup a with
 | some o =>
  have e:=KX a o hk;rw[ha]at e
  cases e
  refine t (λb=>((Hi K).lookup b).map .tbl) (.inr ⟨_,vs.toArray,_,hk,rfl,rfl,rfl,by rw[bJ,E];exact hl,by simpa using rv⟩) (λb u z=>?_) (λb u z=>?_) λp B=>?_
  ·obtain⟨q,g,rfl⟩:=bc.mp z
   exact i _ _ (Ny g)
  ·obtain⟨q,g,rfl⟩:=bc.mp z
   exact .inr ⟨q,Ny g,rfl⟩
  ·rw[D.2 p B];rfl
 | none =>
  refine t (λb=>if b=a then some (.frz { cls:=.type "list",data:=.seq vs.toArray } _) else ((Hi K).lookup b).map .tbl) (.inl (.inr ⟨{ cls:=.type _,data:=.seq _ },if_pos rfl⟩)) (λb u z=>?_) (λb u z=>?_) λp B=>?_
  ·by_cases hb:b=a
   ·have S:=(if_pos hb).symm.trans z
    cases S
    subst hb
    exact⟨ha,by rw[aj];exact hl,vs,_,rv,ha⟩
   ·obtain⟨q,g,rfl⟩:=bc.mp ((if_neg hb).symm.trans z)
    exact i _ _ (Ny g)
  ·by_cases hb:b=a
   ·have S:=(if_pos hb).symm.trans z
    cases S
    exact .inl ⟨hb,hk,_,_,rfl⟩
   ·obtain⟨q,g,rfl⟩:=bc.mp ((if_neg hb).symm.trans z)
    exact .inr ⟨q,Ny g,rfl⟩
  ·rw[if_neg (Y p B),D.2 p B];rfl
end L2
namespace L2
open PySem PySem.Spec PyProof.Rows PySem.W
noncomputable def Lg (o:Obj):Bool:=match o.data with
 | .cell _=>false
 | _=>true
def sel (h:Heap)(tabs:List (Addr×Addr×Str))(a:Addr):Option Obj:=(h.get? a).bind λo=>if (Lg o&&!(tabs.any λt=>t.2.1==a))=true then some o else none
def U8 (h:Heap)(tabs:List (Addr×Addr×Str)):Frag:=((List.range h.objs.size).filterMap λa=>(sel h tabs a).map λo=>(a,o))++tabs.map λt=>(t.1,A6e t.2.1 t.2.2)
theorem V2 {f:Nat->Option Obj}{b:Nat}:∀{l:List Nat},(l.filterMap λa=>(f a).map λo=>(a,o)).lookup b=if b∈l then f b else none
 | []=>by simp
 | a::l=>by
  rw[fG]
  by_cases e:b=a
  ·subst e
   rw[if_pos dq]
   cases q:f b with
   | none =>
    simp only[cJ];rw[V2]
    split
    ·exact q
    ·rfl
   | some o=>simp
  ·have h1:(b∈a::l)=(b∈l):=by simp[e]
   simp only[h1]
   cases q:f a with
   | none=>simp only[cJ];exact V2
   | some o =>
    simp only[bL];rw[aZ]
    have:(b==a)=false:=by simp[e]
    rw[this];exact V2
section
variable {h:Heap}{tabs:List (Addr×Addr×Str)}
theorem Vb (e:sel h tabs a=some o):h.get? a=some o/\Lg o=true/\∀t∈tabs,t.2.1≠a:=by
 obtain⟨c,d,b⟩:=eU.mp e
 grind
theorem B4g (e:h.get? a=some o) (hp:Lg o=true) (hn:∀t∈tabs,t.2.1≠a):sel h tabs a=some o:=by
 unfold sel
 grind
theorem Um (e:sel h tabs a=some o):(U8 h tabs).lookup a=some o:=by
 unfold U8;rw[iy,V2,if_pos (List.mem_range.mpr (Heap.lt_size (Vb e).1)),e];rfl
theorem Zt {a:Addr}{o:Obj}:∀{tabs:List (Addr×Addr×Str)},(tabs.map λt=>(t.1,A6e t.2.1 t.2.2)).lookup a=some o->∃t∈tabs,t.1=a
 | [],e=>by cases e
 | t::r,e=>by
  rw[aK,aZ]at e
  split at e
  ·rename_i z
   exact⟨t,dq,by simpa using (eq_comm.mp (by simpa using z))⟩
  ·obtain⟨t',h1,h2⟩:=Zt e
   exact⟨t',aU _ h1,h2⟩
theorem B6h (ht:∀t∈tabs,CodeHd h t.1 t.2.1/\h.get? t.2.1=some { cls:=.none,data:=.fields #[] })(D:∀t∈tabs,(tabs.map λt=>(t.2.1,t.2.2)).lookup t.2.1=some t.2.2) :
 (U8 h tabs).In h/\TabAt (U8 h tabs) h/\(∀t∈tabs,codeHdIn (U8 h tabs) t.1 t.2.1=true/\(t.2.1,t.2.2)∈Hi (U8 h tabs))/\∀a o,h.get? a=some o->Lg o=true->o.data≠.fields #[]->(U8 h tabs).lookup a=some o:=by
 have g:∀a o,h.get? a=some o->Lg o=true->o.data≠.fields #[]->sel h tabs a=some o:=λa o e d j=>B4g e d λt m z=>by
  have:=(ht t m).2;rw[z,e]at this;cases this;exact j rfl
 have code:∀t∈tabs,∃o i,h.get? t.1=some o/\o.cls=.type "code" /\ o.data=.fields i/\i[11]?=some (.ref t.2.1)/\sel h tabs t.1=some o:=λt m=>by
  obtain⟨o,i,_,_,_,_,_,_,_,w,v,l,u,_⟩:=(ht t m).1
  refine⟨o,i,w,v,l,u,g t.1 o w (by unfold Lg;rw[l]) λz=>?_⟩
  rw[l]at z
  injection z with z
  rw[z]at u;simp at u
 have c:∀{a:Addr} {o:Obj},(U8 h tabs).lookup a=some o->sel h tabs a=some o:=λ{a o} e=>by
  cases q:sel h tabs a with
  | some y=>rw[Um q]at e;exact e
  | none =>
   unfold U8 at e;rw[iy,V2]at e
   have F:(if a∈List.range h.objs.size then sel h tabs a else none)=none:=by
    split
    ·exact q
    ·rfl
   rw[F]at e
   obtain⟨t,m,z⟩:=Zt (show (tabs.map λt=>(t.1,A6e t.2.1 t.2.2)).lookup a=some o from e)
   obtain⟨_,_,_,_,_,_,s⟩:=code t m;rw[z,q]at s;cases s
 have k:Hi (U8 h tabs)=tabs.map λt=>(t.2.1,t.2.2):=by
  unfold Hi U8;rw[List.filterMap_append]
  have x:((List.range h.objs.size).filterMap λa=>(sel h tabs a).map λo=>(a,o)).filterMap (λp=>Ab4 p.2)=[]:=by
   rw[List.filterMap_eq_nil_iff];intro p d;obtain⟨a,_,e⟩:=List.mem_filterMap.mp d;obtain⟨o,x,rfl⟩:=bc.mp e;have j:=(Vb x).2.1
   show Ab4 o=none
   unfold Ab4;unfold Lg at j
   split
   ·rename_i z;rw[z]at j;cases j
   ·rfl
  have Q:(tabs.map λt=>(t.1,A6e t.2.1 t.2.2)).filterMap (λp=>Ab4 p.2)=tabs.map λt=>(t.2.1,t.2.2):=by
   clear g c code D ht x
   induction tabs with
   | nil=>rfl
   | cons t r S =>
    rw[aK,fG]
    show (t.2.1,t.2.2)::_=_
    rw[S];rfl
  rw[x,Q,bx]
 have B:(U8 h tabs).In h:=λa o e=>(Vb (c e)).1
 refine⟨B,⟨λp d=>?_,λp d=>?_⟩,λt m=>⟨?_,?_⟩,λa o e d j=>Um (g a o e d j)⟩
 ·rw[k]at d
  obtain⟨t,m,rfl⟩:=aA.mp d;obtain⟨o,i,w,v,l,u,_⟩:=code t m
  refine⟨(ht t m).2,⟨t.1,o,i,w,v,l,u⟩,?_⟩
  cases q:(U8 h _).lookup _ with
  | none=>rfl
  | some y=>exact absurd rfl ((Vb (c q)).2.2 t m)
 ·rw[k]at d ⊢
  obtain⟨t,m,rfl⟩:=aA.mp d;exact D t m
 ·obtain⟨o,i,_,v,l,_,s⟩:=code t m
  obtain⟨y,G,f,tf,fl,tg,b,n,tt,J,K,L,M,g5,I,N,H,P,A⟩:=(ht t m).1;have O := cG (J.symm.trans (Vb s).1);subst O;obtain⟨R,od,C,E⟩:=y
  cases (show R=Value.type _ from K)
  cases (show C=Data.fields _ from L)
  unfold codeHdIn;rw[(Um s)];simp only[M,I,N,H,P]
  simp[A]
 ·rw[k];exact aA.mpr ⟨t,m,rfl⟩
end
section
variable {q:p7}{loose:v_}{mean:ExcName->p_}{mg mb:x_}{h:Heap}{K:Frag}
theorem A9l (j:∀a o,h.get? a=some o->Lg o=true->o.data≠.fields #[]->K.lookup a=some o) (c:h.CodeRec f x):codeIn K f x=true:=by
 obtain⟨a,o,b,t,rfl,g,d,e⟩:=c
 have k:=j a o g (by unfold Lg;rw[d]) λz=>by grind
 obtain⟨oc,od,m,i⟩:=o
 show (match K.lookup a with
  | some ⟨_,_,.fields b,_⟩=>match b.toList with | _::.str n _::_=>n==x | _=>false
  | _=>false)=true
 obtain⟨l⟩:=b
 match l,e with
 | _::.str n u::_,e =>
  simp_all
theorem Bx2 (T:Top q loose mean mg mb h)(i:∀a o,h.get? a=some o->Lg o=true->o.data≠.fields #[]->K.lookup a=some o) {st:Stmt}(hd:d∈recsOf q) (w:d.params=Nu st) (l:d.body=Kw st) (m:d.scope=Ak st) :
 ∃f fd,Fun K d.name d.name st f fd/\mg d.name=some (.ref f):=by
 obtain⟨a,o,e,b,c,n,p,r,s⟩:=T.fn d hd
 have k:=i a o p (by unfold Lg;grind) λz=>by simp_all
 obtain⟨t,u,v,g⟩:=o
 cases (r)
 have j:PySem.Calls.docDef d.name d.params d.body d.scope e b c=fnOf d.name d.name (Nu st) (Kw st) (Ak st) .none .none c e none b .none:=by rw[w,l,m];rfl
 refine⟨a,_,⟨⟨t,u,.none,c,e,none,b,.none,g,j,k,A9l i s⟩,?_⟩,n⟩
 unfold keepIn
 grind
noncomputable def Bl4 (q:p7) (loose:v_) (RN:v_) (x:Str):Bool:=!startupNames.contains x&&!loose.contains x&&!RN.contains x&&!((litsOf q).map (·.1)).contains x&&!((clssOf q loose).map (·.name)).contains x
theorem Fx (T:Top q loose mean mg mb h){a bs:v_}(f:(recsOf q).map (·.name)=a)(hb:bs.all (Bl4 q loose a)=true) (hx:x∈bs):mg x=none:=by
 have:=aX.mp hb x hx;unfold Bl4 at this;simp only[fj,Bool.not_eq_true',List.contains_eq_mem,decide_eq_false_iff_not]at this;obtain⟨⟨⟨⟨d,c⟩,g⟩,e⟩,b⟩:=this
 exact T.free x d c (by grind) e b
end
theorem walk_ofH {l:OpenLaw}{n k:Nat}{q:p7}{loose:v_}{XP:(x_)->Heap->Prop}{YP:World->Heap->Prop}{d:DefRec}{sp:Frag->Sp}{x:Str}
 (hn:l.most=some n) (r:n<=sizeLine) (t:d.params.defaults=[]) (hr:Room k callerA)
 (F:∀(w:World) (g:ExcName->p_) (mg C:x_) (fa:Addr) (h:Heap),Top q (looseW q loose) g mg C h->mg d.name=some (.ref fa) ->
  ∃(K:Frag) (p:p6),K.In h/\TabAt K h/\(∀(s:o4) (u:Value),BindsTo s p ⟨[u],[]⟩ [(x,u)])/\∀base:Heap,K.In base->base.Ns mainGlobals mg->FnOk l.prog w K mg base CX0 k fa p [x] (sp K))
 (m:∀(K:Frag) (H:Hp) (a:Addr) (ns:List Int),ns.length<=n->SqL K H a (ns.map V.int)->sp K [.ref a] H (λv _=>v=.bl true) λ_ _ _=>False) :
 WalkO q loose XP YP l.row.toRowW d [] (λf vs=>PySem.call f vs):=by
 refine Att.A1x hn t λw D B mg C fa o P O J a vs ns G Y Q R E j i c b L=>?_
 obtain⟨K,p,y,A,I,M⟩:=F w _ _ _ _ _ G.T j
 exact A8p y G.T.g G.T.b G.T.builtins G.T.nolimit L G.T.bmain A i c (ao b r) hr M I (λH N=>m K H a _ b N) λH e S z=>z
theorem Bj8 (a:(recsOf q).map (λd=>(d.name,d.params,d.body,d.scope))=L) {i:Nat} (e:L[i]?=some x) :
 ∃d,d∈recsOf q/\d.name=x.1/\d.params=x.2.1/\d.body=x.2.2.1/\d.scope=x.2.2.2:=by
 grind
theorem Em (a:(recsOf q).map (λd=>(d.name,d.params,d.body,d.scope))=L):(recsOf q).map (·.name)=L.map (·.1):=by
 rw[<- a,aN];rfl
theorem Bf7 {K:Frag} {st:Stmt} (F:Fun K x qual st f c) (h:∀(d a e:Value) (i:Option Addr) (b g:Value) (s:o4) (u:Value),BindsTo s (fnOf x qual (Nu st) (Kw st) (Ak st) .none d a e i b g) ⟨[u],[]⟩ [(y,u)]):∀(s:o4) (u:Value),BindsTo s c ⟨[u],[]⟩ [(y,u)]:=by
 obtain⟨m,n,d,a,e,i,b,g,j,k,l,_⟩:=F.ex
 simp_all
theorem const_int {q:p7}{loose:v_}{a:ExcName->p_}{mg c:x_}{h:Heap}(T:Top q loose a mg c h){x:Str}{i:Int}(e:valOf q x=some (.int i)):∃t,mg x=some (.int i t):=by
 obtain⟨v,d,b⟩:=T.const x _ e
 cases b h with
 | int i t=>grind
theorem Ak8 {q:p7}{loose:v_}{a:ExcName->p_}{mg c:x_}{h:Heap}(T:Top q loose a mg c h){x y:Str}(e:valOf q x=some (.str y)):∃t,mg x=some (.str y t):=by
 obtain⟨v,d,b⟩:=T.const x _ e
 cases b h with
 | str y t=>grind
section
variable {prog:p7}{w:World}{A:o6}{s:o4}{R:Result->o4->Prop}
variable {I:Addr}{fp wr:u9}{G:Array GenState->Array GenState->Prop}{n:Nat}{P:Nat->Value->Prop}{St:Nat->o4->Prop}
theorem A8m:typeLookup (.type "list_reverseiterator") "__len__" = pure none:=by rw[typeLookup_type,builtinLookup_eq_fast];trivial
theorem Bl5:typeLookup (.type "list_reverseiterator") "__length_hint__" = pure (some (.builtin "list_reverseiterator.__length_hint__")):=by rw[typeLookup_type,builtinLookup_eq_fast];trivial
theorem A4d (W:WalksS prog w A.in1 I fp wr G n P St)(l:∀i s,St i s->s.TypeIs (.ref I) "list_reverseiterator") (S:Addr) (g:Value) (h:Nat) (hst:St 0 s) (d:S∉fp) (r:I∈fp)
 (t:s.heap.get? S=some { cls:=.type "list",data:=.seq #[] h })
 (q:∀s' a k,Moved (S::wr) G s s'->s'.heap.get? S=some { cls:=.type "list",dict:=none,data:=.seq a k,slots:=#[] }->ItemsOf P a n->R (.ok (.ret g)) s') (hn:n<=sizeLine) :
 wpAny (model prog w) A.in1 (Builtin.List.listExtendWith (.ref S) (.ref I) g)
  (λo s'=>match o with | .done f=>R (.ok f) s' | .again k=>k.quiet=true/\codeAny (model prog w) A k R s') (λe s'=>R (.error e) s') s:=by
 have m:S≠I:=λe=>d (e▸r)
 have v:Builtin.List.listSameRef (.ref S) (.ref I)=false:=by simp[Builtin.List.listSameRef,m]
 unfold Builtin.List.listExtendWith
 refine wpAny_bind (wpAny_typeOf (l 0 _ hst) ?_)
 rw[if_neg (by rw[v];decide)]
 refine wpAny_bind (W.self 0 _ _ _ hst ?_)
 refine wpAny_bind (wpAny_holding ?_)
 unfold Builtin.List.listLengthHint
 refine wpAny_bind (wpAny_specialOf (l 0 _ hst) A8m ?_)
 show wpAny _ A.in1 (specialOf (Value.ref I) (Str.ofString "__length_hint__") >>= _) _ _ _
 refine wpAny_bind (wpAny_specialOf (l 0 _ hst) Bl5 ?_)
 generalize hid:("list_reverseiterator.__length_hint__" : String)=id0
 wp_delta
 rw[show splitId id0=some ("list_reverseiterator", "__length_hint__") from by subst hid;decide +kernel]
 subst hid
 refine wpAny_bind (wpAny_isInstance (b:=true) (l 0 _ hst) (by rw[isSubtype_type];kernel_rfl) ?_)
 refine wpAny_pure ?_
 rw[if_neg (by decide)]
 refine wpAny_pure ⟨plainId_quiet F.plain_extend_loop _,codeAny_extend_loopS W hn _ d _ n 0 _ _ _ rfl (aD _) hst t (ItemsOf.nil P) λs' a k u p j=>?_⟩
 exact q _ _ _ u p j
end
end L2
namespace L2
open PySem PySem.Spec PyProof.Rows
section
variable {X:Cx}
theorem Az4 : QE X (.Dict [] [] a) At1:=⟨Bg9⟩
end
section
variable {P:p7}{w:World}{A:o6}{E:z_}{s:o4}
theorem A3s:((Manifest.find? "dict_keyiterator").elim "dict_keyiterator" λx=>x.tpName) = "dict_keyiterator" := by rfl
theorem Bi4 (f:s.heap.IsKeyIter it dd i es.size e) (u:s.heap.get? dd=some od) (a:od.data=.dict es e) (hi:i<es.size)
 (q:∀h',h'.IsKeyIter it dd (i+1) es.size e->Heap.SameBut it s.heap h'->Q (some es[i].key) { s with heap:=h' }):wpAny (model P w) A (pyNext (.ref it)) Q E s:=by
 obtain⟨k,g,d,z,r⟩:=s;obtain⟨⟨c,v,x,G⟩,l,m,h⟩:=f;obtain⟨C,j,o,t⟩:=od;simp only at m h a;subst m h a;have n:(⟨k,g,d,z,r⟩:o4).TypeIs (.ref it) "dict_keyiterator" := ⟨_,l,rfl⟩;have D:=mroOf_keyiter
 have p:Builtin.Dict_items.ownsTuple "dict_keyiterator" = false:=by decide
 have y:es[(i:Int).toNat]?=some es[i]:=by simp[hi]
 unfold pyNext
 refine wpAny_bind (wpAny_attempt (wpAny_callSpecial?_slot (name:="__next__") n F.slot_dict_keyiterator_next (wpAny_call_entry F.slot_dict_keyiterator_next n F.entry_dict_keyiterator_next ?_ (F.args_dict_keyiterator_next_1 _))))
 repeat any_goals first | assumption | wp_step
 simp only[A3s,p,bz,aW,fQ,List.take]
 have B:¬ ((i:Int)<0):=by omega
 simp only[B,aW,y]
 repeat any_goals first | assumption | wp_step
 simp only[A3s,p,bz,aW]
 have b:(k.update it (Obj.mapFields (·.setIfInBounds 1 (rawInt ((i:Int)+1))))).IsKeyIter it dd (i+1) es.size e :=
  ⟨_,Heap.get?_update_self _ l (Obj.isFreed_of_fields (Obj.data_mapFields rfl _)),Obj.cls_mapFields ..,by rw[Obj.data_mapFields rfl];simp[rawInt]⟩
 exact⟨_,rfl,wpAny_pure (q _ b (Heap.SameBut.update ..))⟩
theorem Bt4 (a:A.handled=none) (f:s.heap.IsKeyIter it dd i es.size j) (u:s.heap.get? dd=some od) (e:od.data=.dict es j) (hi:es.size<=i)
 (v:∀h',Heap.ExtBut it s.heap h'->Q none { s with heap:=h' }):wpAny (model P w) A (pyNext (.ref it)) Q E s:=by
 obtain⟨z,g,d,r,x⟩:=s;obtain⟨⟨c,p,q,D⟩,t,h,l⟩:=f;obtain⟨G,k,m,B⟩:=od;simp only at h l e;subst h l e;have n:(⟨z,g,d,r,x⟩:o4).TypeIs (.ref it) "dict_keyiterator" := ⟨_,t,rfl⟩;have H:=mroOf_keyiter
 have y:Builtin.Dict_items.ownsTuple "dict_keyiterator" = false:=by decide
 have C:es[(i:Int).toNat]?=none:=by simp[hi]
 unfold pyNext
 refine wpAny_bind (wpAny_attempt (wpAny_callSpecial?_slot (name:="__next__") n F.slot_dict_keyiterator_next (wpAny_call_entry F.slot_dict_keyiterator_next n F.entry_dict_keyiterator_next ?_ (F.args_dict_keyiterator_next_1 _))))
 repeat any_goals first | assumption | wp_step
 simp only[A3s,y,bz,aW,fQ,List.take]
 have o:¬ ((i:Int)<0):=by omega
 simp only[o,aW,C]
 repeat any_goals first | assumption | wp_step
 refine wpAny_raiseNew_none (show A.in1.handled=none from a) ?_
 refine wpAny_bind (wpAny_isInstance (T := "StopIteration") (b:=true) ⟨_,Heap.get?_push_size _ rfl,rfl⟩ isSubtype_stop ?_)
 exact wpAny_pure (v _ (((Heap.SameBut.update ..).extBut.push _).push _))
theorem Bd6 (q:(dd==sysModules)=false) (b:s.heap.get? dd=some od) (hx:od.ExactDict) (a:od.data=.dict es k)
 (m:Q (.ref s.heap.objs.size) { s with heap:=s.heap.push { cls:=.type "dict_keyiterator",data:=.fields #[.ref dd,.int 0 0,.int es.size 0,.int k 0] } }):wpAny (model P w) A (pyIter (.ref dd)) Q E s:=by
 obtain⟨o,g,d,p,l⟩:=s;obtain⟨t,f,e,n⟩:=od;obtain⟨i,h,j⟩:=hx;simp only at i h j a;subst i h j a;have c:(⟨o,g,d,p,l⟩:o4).TypeIs (.ref dd) "dict" := ⟨_,b,rfl⟩
 refine wpAny_pyIter_slot c F.slot_dict_iter (wpAny_call_entry F.slot_dict_iter c F.entry_dict_iter ?_ (F.args_dict_iter_1 _))
 unfold Builtin.«dict.__iter__» Builtin.Dict.dictSlotNone
 refine wpAny_bind (wpAny_bind (wpAny_notOrdered_dict c (wpAny_pure ?_)))
 have r:Builtin.Dict.showsAll dd=pure ():=by unfold Builtin.Dict.showsAll;rw[if_neg (by rw[q];exact aR)]
 show wpAny _ _ (Builtin.Dict.showsAll dd >>= _) _ _ _
 repeat any_goals first | assumption | wp_step
 exact⟨_,rfl, "dict_keyiterator",_,⟨_,Heap.get?_push_size _ rfl,rfl⟩,F.slot_dict_keyiterator_next.lookup,m⟩
end
section
variable {P:p7}{w:World}{A:o6}{E:z_}{s:o4}
theorem S5 {h:Heap} (e:h.get? it=some { cls:=.type "dict_itemiterator",data:=.fields vs }):(h.update it (Obj.mapFields f)).get? it=some { cls:=.type "dict_itemiterator",data:=.fields (f vs) } :=
 Heap.get?_update_self _ e (Obj.isFreed_of_fields (Obj.data_mapFields rfl _))
theorem Ac7:((Manifest.find? "dict_itemiterator").elim "dict_itemiterator" λx=>x.tpName) = "dict_itemiterator" := by rfl
theorem Ba8 (c:IsItemIter s.heap it dd i es.size k O G) (T:s.heap.get? dd=some od) (h:od.data=.dict es k) (hi:i<es.size)
 (W:∀h',IsItemIterOut h' it dd (i+1) es.size k es[i].key es[i].val s.heap.objs.size->h'.get? s.heap.objs.size=some { cls:=.type "tuple",data:=.seq #[es[i].key,es[i].val] }->h'.objs.size=s.heap.objs.size+1 ->
  (∀b o,b≠it->s.heap.get? b=some o->h'.get? b=some o)->Q (some (.ref s.heap.objs.size)) { s with heap:=h' }):wpAny (model P w) A (pyNext (.ref it)) Q E s:=by
 obtain⟨a,g,d,C,v⟩:=s;obtain⟨Z,H,z,U⟩:=od;simp only at h;subst h;have L:(⟨a,g,d,C,v⟩:o4).TypeIs (.ref it) "dict_itemiterator" := ⟨_,c,rfl⟩;have f1:=mroOf_itemiter
 have N:Builtin.Dict_items.ownsTuple "dict_itemiterator" = true:=by decide
 have Y:es[(i:Int).toNat]?=some es[i]:=by simp[hi]
 have S:¬ ((i:Int)<0):=by omega
 unfold pyNext
 refine wpAny_bind (wpAny_attempt (wpAny_callSpecial?_slot (name:="__next__") L F.slot_dict_itemiterator_next (wpAny_call_entry F.slot_dict_itemiterator_next L F.entry_dict_itemiterator_next ?_ (F.args_dict_itemiterator_next_1 _))))
 repeat any_goals first | assumption | wp_step
 simp only[Ac7,N,aY,List.drop,List.take]
 repeat any_goals first | assumption | wp_step
 simp only[S,aW,Y]
 repeat any_goals first | assumption | wp_step
 simp only[Ac7,N,aY]
 have m:Heap.SameBut it a (a.update it (Obj.mapFields λx=>x.setIfInBounds (2+1) (rawInt ((i:Int)+1)))):=Heap.SameBut.update ..
 have y:(a.update it (Obj.mapFields λx=>x.setIfInBounds (2+1) (rawInt ((i:Int)+1)))).get? it=some { cls:=.type "dict_itemiterator",data:=.fields #[.none,.bool false,.ref dd,rawInt ((i:Int)+1),.int es.size 0,.int k 0,O,G] }:=S5 c
 refine⟨_,rfl,wpAny_pure ?_⟩
 show Q (some (.ref (a.update it (Obj.mapFields λx=>x.setIfInBounds (2+1) (rawInt ((i:Int)+1)))).objs.size)) { heap:=(((((a.update it (Obj.mapFields λx=>x.setIfInBounds (2+1) (rawInt ((i:Int)+1)))).push { cls:=Value.type "tuple",data:=Data.seq #[es[i].key,es[i].val] }).update it (Obj.mapFields λx=>x.setIfInBounds 6 es[i].key)).update it (Obj.mapFields λx=>x.setIfInBounds (6+1) es[i].val)).update it (Obj.mapFields λx=>x.setIfInBounds 0 (rawInt (a.update it (Obj.mapFields λx=>x.setIfInBounds (2+1) (rawInt ((i:Int)+1)))).objs.size))).update it (Obj.mapFields λx=>x.setIfInBounds 1 (Value.bool false)),gens:=g,drawn:=d,toks:=C,os:=v }
 generalize a.update it (Obj.mapFields λx=>x.setIfInBounds (2+1) (rawInt ((i:Int)+1)))=h1 at m y ⊢
 have V:h1.objs.size=a.objs.size:=m.1;have B:=Heap.get?_push_of_some { cls:=Value.type "tuple",data:=Data.seq #[es[i].key,es[i].val] } y;have l:(h1.push { cls:=Value.type "tuple",data:=Data.seq #[es[i].key,es[i].val] }).get? h1.objs.size=some { cls:=.type "tuple",data:=.seq #[es[i].key,es[i].val] }:=Heap.get?_push_size _ rfl
 have D:∀b o,b≠it->a.get? b=some o->(h1.push { cls:=Value.type "tuple",data:=Data.seq #[es[i].key,es[i].val] }).get? b=some o:=λb o n e=>Heap.get?_push_of_some _ ((m.2 b n).trans e)
 have q:(h1.push { cls:=Value.type "tuple",data:=Data.seq #[es[i].key,es[i].val] }).objs.size=h1.objs.size+1:=Heap.size_push ..;generalize h1.push { cls:=Value.type "tuple",data:=Data.seq #[es[i].key,es[i].val] }=h2 at B l D q ⊢;rw[V]at l q ⊢;have X:a.objs.size≠it:=a_ (Heap.lt_size c)
 have r:=Heap.SameBut.update h2 it (Obj.mapFields λx=>x.setIfInBounds 6 es[i].key)
 have I:=S5 (f:=λx=>x.setIfInBounds 6 es[i].key) B
 generalize h2.update it (Obj.mapFields λx=>x.setIfInBounds 6 es[i].key)=h3 at r I ⊢
 have p:=Heap.SameBut.update h3 it (Obj.mapFields λx=>x.setIfInBounds (6+1) es[i].val)
 have K:=S5 (f:=λx=>x.setIfInBounds (6+1) es[i].val) I
 generalize h3.update it (Obj.mapFields λx=>x.setIfInBounds (6+1) es[i].val)=h4 at p K ⊢
 have u:=Heap.SameBut.update h4 it (Obj.mapFields λx=>x.setIfInBounds 0 (rawInt a.objs.size))
 have J:=S5 (f:=λx=>x.setIfInBounds 0 (rawInt a.objs.size)) K
 generalize h4.update it (Obj.mapFields λx=>x.setIfInBounds 0 (rawInt a.objs.size))=h5 at u J ⊢
 have t:=Heap.SameBut.update h5 it (Obj.mapFields λx=>x.setIfInBounds 1 (Value.bool false))
 have M:=S5 (f:=λx=>x.setIfInBounds 1 (Value.bool false)) J
 generalize h5.update it (Obj.mapFields λx=>x.setIfInBounds 1 (Value.bool false))=h6 at t M ⊢
 have j:∀b o,b≠it->h2.get? b=some o->h6.get? b=some o:=λb o n e=>(t.2 b n).trans ((u.2 b n).trans ((p.2 b n).trans ((r.2 b n).trans e)))
 refine W h6 ?_ (j _ _ X l) (by rw[show h6.objs.size=h2.objs.size from t.1.trans (u.1.trans (p.1.trans r.1))];exact q) λb o n e=>j b o n (D b o n e)
 have R:((i+1:Nat):Int)=(i:Int)+1:=by omega
 unfold IsItemIterOut;rw[R];exact M
end
theorem KT.get {H:Hp}:∀{kvs:List (PyData×V)}{xs:List (PyData×Addr×Value)}{i:Nat}{k:o5}{v:V},KT H kvs xs->kvs[i]?=some (k,v)->∃b u,xs[i]?=some (k,b,u)/\KAt H k b/\RelV v u
 | _,_,_,_,_,.nil,e=>by simp at e
 | _,_,0,k,v,.cons (a:=p) (b:=q) h t,e=>by
  cases (show some p=some (k,v) from e)
  obtain⟨h1,h2,h3⟩:=h;obtain⟨k',b,u⟩:=q
  cases (show k=k' from h1)
  exact⟨b,u,rfl,h2,h3⟩
 | _,_,i+1,k,v,.cons h t,e=>by
  obtain⟨b,u,e1,r⟩:=KT.get t (by simpa using e)
  exact⟨b,u,by simpa using e1,r⟩
section
variable {X:Cx}{pins:y_}{σ:St}{H:Hp}{s:o4}{a:Addr}{kvs:List (PyData×V)}
theorem Inv.still (I:Inv X pins σ H s)(e:H a=some (.dT kvs)):∃o,Inv X pins σ (upd H a (.frz o (.dT kvs))) s:=by
 obtain⟨z,y,h,r,o,f,g,b,c⟩:=I.hok a _ e
 refine⟨o,Ar3 I (by rw[e];trivial) (Heap.SameBut.refl _ _) ⟨o,b⟩ ⟨b,z,y,h,KT.keeps r λc i d=>?_,o,f,g,b,c⟩⟩
 rw[Al (B0l d e λz=>nomatch z)];grind
theorem Inv.seen (I:Inv X pins σ H s) (e:H a=some (.frz o (.dT kvs))):∃c b d,s.heap.get? a=some o/\(a==sysModules)=false/\o.ExactDict/\o.data=.dict b d/\b.toList=c.map (entryOfKey (Gv X.prog X.w))/\KT H kvs c/\kvs.length<=sizeLine:=by
 obtain⟨h,z,y,c,r,g,b,d,i,j,k,l,f⟩:=I.hok a _ e
 grind
theorem Aj1 {es:t_} (h:es.toList=xs.map (entryOfKey (Gv P w))) (r:KT H kvs xs):es.size=kvs.length:=by
 rw[<- eN,h,aj,Paired.length r]
theorem Bu7 {es:t_} (h:es.toList=xs.map (entryOfKey (Gv P w))) (r:KT H kvs xs) (e:kvs[i]?=some (k,v)) (hi:i<es.size) :
 ∃b u,es[i].key=.ref b/\es[i].val=u/\KAt H k b/\RelV v u:=by
 obtain⟨b,u,g,f,d⟩:=KT.get r e
 have a:es.toList[i]?=some (entryOfKey (Gv P w) (k,b,u)):=by grind
 rw[gG,fU hi]at a;have c:=cG a
 exact⟨b,u,by rw[c];rfl,by rw[c];rfl,f,d⟩
end
section
variable {P:p7}{w:World}{A:o6}{E:z_}{s:o4}
theorem A9v (b:(dd==sysModules)=false):MeetsIn P w (Builtin.«dict.items» ⟨[.ref dd],[]⟩) (λ_ R s=>s.TypeIs (.ref dd) "dict" /\ R (.ok (.ret (.ref s.heap.objs.size))) { s with heap:=s.heap.push { cls:=.type "dict_items",data:=.fields #[.ref dd] } }) :=
 .of_wp λA R s ⟨t,h⟩=>by
  refine wpAny_bind (wpAny_bind (wpAny_notOrdered_dict t (wpAny_pure ?_)))
  have a:Builtin.Dict.showsAll dd=pure ():=by unfold Builtin.Dict.showsAll;simp_all
  rw[a]
  refine wpAny_bind (wpAny_pure (wpAny_bind (wpAny_newObj_type (wpAny_pure ⟨_,rfl,h⟩))))
theorem Bi3 (b:(dd==sysModules)=false) (ty:s.TypeIs (.ref dd) "dict")
 (a:Q (.ref s.heap.objs.size) { s with heap:=s.heap.push { cls:=.type "dict_items",data:=.fields #[.ref dd] } }):wpAny (model P w) A (call (.builtin "dict.items") [.ref dd]) Q E s :=
 call_meetsIn PySem.F.slot_dict_items ty PySem.F.entry_dict_items (PySem.F.args_dict_items_1 _) (A9v b) ⟨ty,a⟩
theorem Bn7 (hv:s.heap.get? v=some { cls:=.type "dict_items",data:=.fields #[.ref dd] }) (l:s.heap.get? dd=some od) (a:od.data=.dict es c)
 (k:Q (.ref s.heap.objs.size) { s with heap:=s.heap.push { cls:=.type "dict_itemiterator",data:=.fields #[.none,.bool false,.ref dd,.int 0 0,.int es.size 0,.int c 0,.none,.none] } }):wpAny (model P w) A (pyIter (.ref v)) Q E s:=by
 obtain⟨n,g,d,i,j⟩:=s;obtain⟨o,b,e,m⟩:=od;simp only at a;subst a;have f:(⟨n,g,d,i,j⟩:o4).TypeIs (.ref v) "dict_items" := ⟨_,hv,rfl⟩
 have h:Builtin.Dict_items.ownsTuple "dict_itemiterator" = true:=by decide
 refine wpAny_pyIter_slot f F.slot_dict_items_iter (wpAny_call_entry F.slot_dict_items_iter f F.entry_dict_items_iter ?_ (F.args_dict_items_iter_1 _))
 repeat any_goals first | assumption | wp_step
 simp only[h,aY];exact⟨_,rfl, "dict_itemiterator",_,⟨_,Heap.get?_push_size _ rfl,rfl⟩,F.slot_dict_itemiterator_next.lookup,k⟩
end
section
variable {P:p7}{w:World}{A:o6}{E:z_}{s:o4}
theorem A9i (quiet:A.handled=none){it dd:Addr}(ne:dd≠it){es:t_}{ep:Nat}{o:Obj}(hd:o.data=.dict es ep) :
 Walks P w A it [it,dd] [it] es.size (λi v=>∃h:i<es.size,v=es[i].key) (λi h=>h.IsKeyIter it dd i es.size ep/\h.get? dd=some o) where
 sub:=λb hb=>by simp at hb;simp[hb]
 frame:=λ_ _ _ st hk=>⟨let ⟨o,e,r⟩:=st.1; ⟨o,hk it (by simp) o e,r⟩,hk dd (by simp) _ st.2⟩
 item:=λi s Q E hi st hQ=>Bi4 st.1 st.2 hd hi λh' it' sb=>hQ _ h' s.toks ⟨hi,rfl⟩ ⟨it',(sb.2 _ ne).trans st.2⟩ λb o hb e=>(sb.2 b (λh=>hb (by simp[h]))).trans e
 done:=λs Q E st hQ=>Bt4 quiet st.1 st.2 hd (ak _) λh' he=>hQ h' s.toks λb o hb e=>he b o (λh=>hb (by simp[h])) e
 self:=λ_ _ _ _ st hQ=>wpAny_pyIter_keyiter st.1 hQ
theorem Bb2:typeLookup (.type "dict") "__len__" = pure (some (.builtin "dict.__len__")):=by trivial
theorem Be5:isSubtype (.type "dict") (.type "dict")=pure true:=by rfl
theorem Au6 (f:A.handled=none) (T:(dd==sysModules)=false) (x:s.heap.get? dd=some o) (C:o.ExactDict) (hd:o.data=.dict es d) (hn:es.size<=sizeLine)
 (R:∀c acc,(∀b o,s.heap.get? b=some o->c.heap.get? b=some o)->c.gens=s.gens->c.drawn=s.drawn->c.os=s.os->ItemsOf (λi v=>∃h:i<es.size,v=es[i].key) acc es.size->Q acc.toList c):wpAny (model P w) A (collect (.ref dd)) Q E s:=by
 unfold collect
 refine wpAny_bind (wpAny_runValue (codeAny_builtin F.entry_proto_collect ?_))
 rw[Around.under_plainId F.plain_proto_collect _]
 show wpAny _ A.in1 (newList [] >>= λl=>again (.builtin "list.__iadd__" ⟨[l,.ref dd],[]⟩)) _ _ s
 refine wpAny_bind (wpAny_newObj_type ?_)
 refine wpAny_pure ⟨plainId_quiet F.plain_list_iadd _,codeAny_builtin F.entry_list_iadd ?_⟩
 rw[Around.under_plainId F.plain_list_iadd _];have B:s.heap.objs.size≠dd:=a_ (Heap.lt_size x)
 have N:Builtin.List.listSameRef (.ref s.heap.objs.size) (.ref dd)=false:=by simp[Builtin.List.listSameRef,B]
 have z:=Heap.get?_push_of_some { cls:=.type "list",data:=.seq ([]:v4).toArray } x;have S:(s.heap.push { cls:=.type "list",data:=.seq ([]:v4).toArray }).get? s.heap.objs.size=some { cls:=.type "list",data:=.seq ([]:v4).toArray }:=Heap.get?_push_size _ rfl
 show wpAny _ A.in1 (Builtin.List.listExtendWith (.ref s.heap.objs.size) (.ref dd) (.ref s.heap.objs.size)) _ _ _
 unfold Builtin.List.listExtendWith
 have U:({ s with heap:=s.heap.push { cls:=.type "list",data:=.seq ([]:v4).toArray } }:o4).TypeIs (.ref dd) "dict" := ⟨_,z,C.1⟩
 refine wpAny_bind (wpAny_typeOf U ?_)
 have k:(Value.type "dict" == Value.type "list")=false:=by decide
 have J:(Value.type "dict" == Value.type "tuple")=false:=by decide
 simp only[N,k,J,b_,bz,aW]
 refine wpAny_bind (Bd6 T z C hd ?_)
 have D:=Heap.get?_push_of_some { cls:=.type "dict_keyiterator",data:=.fields #[.ref dd,.int 0 0,.int es.size 0,.int d 0] } z;have q:=Heap.get?_push_of_some { cls:=.type "dict_keyiterator",data:=.fields #[.ref dd,.int 0 0,.int es.size 0,.int d 0] } S;have G:((s.heap.push { cls:=.type "list",data:=.seq ([]:v4).toArray }).push { cls:=.type "dict_keyiterator",data:=.fields #[.ref dd,.int 0 0,.int es.size 0,.int d 0] }).IsKeyIter (s.heap.push { cls:=.type "list",data:=.seq ([]:v4).toArray }).objs.size dd 0 es.size d:=⟨_,Heap.get?_push_size _ rfl,rfl,rfl⟩;have K:(s.heap.push { cls:=.type "list",data:=.seq ([]:v4).toArray }).objs.size=s.heap.objs.size+1:=Heap.size_push ..
 have O:∀b o,s.heap.get? b=some o->((s.heap.push { cls:=.type "list",data:=.seq ([]:v4).toArray }).push { cls:=.type "dict_keyiterator",data:=.fields #[.ref dd,.int 0 0,.int es.size 0,.int d 0] }).get? b=some o:=λb o e=>Heap.get?_push_of_some _ (Heap.get?_push_of_some _ e)
 rw[K]at G ⊢
 generalize ((s.heap.push { cls:=.type "list",data:=.seq ([]:v4).toArray }).push { cls:=.type "dict_keyiterator",data:=.fields #[.ref dd,.int 0 0,.int es.size 0,.int d 0] })=k at *
 have j:({ s with heap:=k }:o4).TypeIs (.ref dd) "dict" := ⟨_,D,C.1⟩
 refine wpAny_bind (wpAny_holding ?_)
 unfold Builtin.List.listLengthHint
 refine wpAny_bind (wpAny_specialOf j Bb2 ?_)
 wp_delta
 refine wpAny_bind (wpAny_isInstance (b:=true) j Be5 ?_)
 show wpAny _ A.in1 (typeOf (Value.ref dd) >>= _) _ _ _
 refine wpAny_bind (wpAny_typeOf j ?_)
 refine wpAny_pure ?_
 rw[if_pos (by decide)]
 refine wpAny_bind (wpAny_rule ?_)
 refine wpAny_bind (m:=Builtin.List.listTouch _) ?_
 unfold Builtin.List.listTouch
 refine wpAny_bind (wpAny_updateSeq q rfl ?_)
 have H:=Heap.get?_update_self (Obj.mapSeq (·.push Value.none)) q rfl
 refine wpAny_updateSeq H rfl ?_
 have Y:=Heap.get?_update_self (Obj.mapSeq (·.pop)) H rfl
 have g:∀b o,b≠s.heap.objs.size->k.get? b=some o->((k.update s.heap.objs.size (Obj.mapSeq (·.push Value.none))).update s.heap.objs.size (Obj.mapSeq (·.pop))).get? b=some o:=λb o n e=>(Heap.get?_update_other _ _ (aL n)).trans ((Heap.get?_update_other _ _ (aL n)).trans e)
 have L:=Heap.lt_size x;have M:dd≠s.heap.objs.size+1:=aJ (fO L)
 have W:=A9i (P:=P) (w:=w) (A:=A.in1) (show A.in1.handled=none from f) M hd
 refine wpAny_pure ⟨plainId_quiet F.plain_extend_loop _,codeAny_extend_loopS W.toS hn s.heap.objs.size (λm=>?_) _ es.size 0 _ _ _ rfl (aD _) ⟨?_,g _ _ (aL B) D⟩ Y (ItemsOf.nil _) λc r Z u y p=>?_⟩
 ·simp only[au,bf,bh]at m
  rcases m with m | m
  ·exact absurd m (aJ (bY _))
  ·exact B m
 ·obtain⟨t,X,V⟩:=G
  exact⟨t,g _ _ (a_ (bY _)) X,V⟩
 ·show wpAny _ A (load s.heap.objs.size >>= _) _ _ c
  refine wpAny_bind (wpAny_load y ?_)
  refine wpAny_pure (R c r (λb t e=>u.heap b t (λI=>?_) (g b t (aJ (Heap.lt_size e)) (O b t e))) u.gens u.drawn u.os p)
  have a:=Heap.lt_size e;simp only[au,bf,bh]at I
  rcases I with h | h
  ·rw[h]at a;exact absurd a (bA _)
  ·rw[h]at a;exact absurd a (Nat.not_lt.mpr (fK _))
theorem Ae0 (t:(dd==sysModules)=false) (j:o.ExactDict) (hd:o.data=.dict es m) (hn:es.size<=sizeLine) :
 Meets (Builtin.«tuple.__new__» ⟨[.type "tuple",.ref dd],[]⟩)
  (λA R s=>A.handled=none/\s.heap.get? dd=some o/\∀(s':o4) (acc:u_),(∀b o,s.heap.get? b=some o->s'.heap.get? b=some o)->s'.gens=s.gens->s'.drawn=s.drawn->s'.os=s.os->ItemsOf (λi v=>∃h:i<es.size,v=es[i].key) acc es.size ->
   R (.ok (.ret (.ref s'.heap.objs.size))) { s' with heap:=s'.heap.push { cls:=.type "tuple",data:=.seq acc } }) :=
 .of_wp λP w A R s h=>by
  obtain⟨p,k,h⟩:=h;have l:=sub_tuple_self;have c:=init_tuple_lookup;have u:=madeHere_tuple;have n:s.TypeIs (.ref dd) "dict" := ⟨_,k,j.1⟩;have f:A.in1.handled=none:=p
  wp_walk using wpAny_typeOf n,Au6 f t k j hd hn
  intro s' acc q r d g a
  refine wpAny_bind (wpAny_pure ?_)
  show wpAny _ _ (Builtin.Tuple.tupleExact acc.toList.toArray >>= λv=>ret v) _ _ _
  unfold Builtin.Tuple.tupleExact
  have e:acc.toList.toArray=acc:=by simp
  refine wpAny_bind (wpAny_newObj_type ?_ (by rw[e];show acc.size<=sizeLine;rw[a.1];exact hn))
  refine wpAny_pure ⟨_,rfl,?_⟩
  rw[e];exact h s' _ q r d g a
theorem Ah3 (a:A.handled=none) (e:(dd==sysModules)=false) (f:s.heap.get? dd=some o) (g:o.ExactDict) (hd:o.data=.dict es d) (hn:es.size<=sizeLine)
 (h:∀(h':Heap) (tk:Nat) (acc:u_),(∀b o,s.heap.get? b=some o->h'.get? b=some o)->ItemsOf (λi v=>∃h:i<es.size,v=es[i].key) acc es.size->Q (.ref h'.objs.size) { s with heap:=h'.push { cls:=.type "tuple",data:=.seq acc },toks:=tk }) :
 wpAny (model P w) A (call (.type "tuple") [.ref dd]) Q E s:=by
 refine callType_new F.called_tuple (by rfl) (F.typeCall_tuple_1 _) (F.newCall_tuple_1 _) (λk=>F.args_object_init_2 _ _) F.entry_tuple_new
  (Ae0 e g hd hn) ⟨a,f,λm acc n p j l c=>⟨⟨_,Heap.get?_push_size _ rfl,rfl⟩,?_⟩⟩
 grind
end
def Bx8 (H:Hp):w6->l_->Prop
 | [],vs=>vs=[]
 | k::ks,vs=>∃b r,vs=.ref b::r/\KAt H k b/\Bx8 H ks r
def B0a (td:TE):TE:=λσ H Q=>td σ H λx H1=>∃a o kvs,x=.ref a/\H1 a=some (.frz o (.dT kvs))/\∀vs p,Bx8 H1 (kvs.map (·.1)) vs->H1 p=none->Q (.ref p) (upd H1 p (.tup vs))
section
variable {X:Cx}
theorem B1l {H:Hp}{P:p7}{w:World}:∀{kvs:List (PyData×V)}{xs:List (PyData×Addr×Value)},KT H kvs xs->∃vs,Bx8 H (kvs.map (·.1)) vs/\Vals vs (xs.map λx=>Value.ref x.2.1)
 | _,_,.nil=>⟨[],rfl,.nil⟩
 | _,_,.cons (a:=p) (b:=q) h t=>by
  obtain⟨vs,h1,h2⟩:=B1l (P:=P) (w:=w) t;exact⟨.ref q.2.1::vs,⟨q.2.1,vs,rfl,h.2.1,h1⟩,.cons rfl h2⟩
theorem Br1 (hc:X.calm=true) (hg:Gl X "tuple") (hm:X.mg "tuple" = none) (he:QE X e m) (hs1:isStar e=false:=by rfl):QE X (.Call (.Name "tuple" p) [e] [] j) (B0a m):=by
 refine⟨?_⟩
 intro g s L H Q I h;have f:=G5 (es:=[]) (env:=X.env) hs1
 refine Call_ (M6 I hg hm K3 (eE ?_ f rfl))
 rw[f]
 show wpAny _ _ (spliced ((false,eval e X.env)::backTo j (starEach [] X.env))) _ _ s
 refine Calls.spliced_cons ?_
 refine thn (he.1 g s L H _ I h) λu T ⟨v,H1,n,D,W⟩=>?_
 refine Calls.spliced_nil ?_
 obtain⟨a,o,J,rfl,M,q⟩:=W
 cases (show u=Value.ref a from D)
 obtain⟨l,r,ep,K,E,F,G,t,k,y⟩:=n.seen M;have z:=Aj1 t k
 refine Ah3 (I.ok.hd hc) E K F G (by rw[z];exact y) λN O c S d=>?_
 obtain⟨vs,V,B⟩:=B1l (P:=X.prog) (w:=X.w) k
 have Y:c.toList=l.map λx=>Value.ref x.2.1:=by
  have Z:c.size=l.length:=d.1.trans (z.trans (Paired.length k));apply List.ext_getElem
  ·rw[eN,aj];exact Z
  ·intro i R U
   have hi:i<c.size:=by simpa using R
   have hx:i<l.length:=by simpa using U
   obtain⟨hs,e1⟩:=d.2 i c[i] (fU hi)
   have A:r.toList[i]?=some (entryOfKey (Gv X.prog X.w) l[i]):=by rw[t,bD,cj _];rfl
   rw[gG,fU hs]at A;rw[Array.getElem_toList,e1,cG A,List.getElem_map];rfl
 have C:Inv X _ _ _ { T with heap:=N,toks:=O }:=n.kept S
 refine⟨.ref _,upd _ _ _,C.laid (λb u e=>Heap.get?_push_of_some _ e) (ak _) ?_,rfl,q _ _ V (C.hok.fresh (ak _))⟩
 refine⟨by rw[B.length,aj,<- Paired.length k];exact y,c.toList,by rw[Y];exact B,_,Heap.get?_push_size _ rfl,rfl,⟨0,by simp⟩,rfl⟩
theorem A6b (hu:X.A.units+64<cLine) (ho:QE X o d) (hi:QE X i ty) (hv:QE X a e) (hs:swapsWith a (some (.Subscript o i b)) c.line X.env=pure false:=by rfl) :
 QS X (.Assign [.Subscript o i b] a c) (Al1 d ty e):=⟨Bs6 (bu (bT (by decide) _) hu) ho.get hi.get hv.get hs⟩
end
end L2
namespace U
open PySem L2
structure Xn where
 n:Str
 p:Option (Str×o5)
inductive Th where
 | nm (T:String)
 | dc (ks:v_) (ds:w6)
 | dt (ks ds:w6)
 | ds (ks ds:w6)
 | td (xs ks ds:w6)
 | xc (nm:Xn)
 | tc (ss:v_)
inductive O where
 | im (d:o5)
 | ls (b:Bool) (ds:w6)
 | sc (ns:List Int)
 | ty (T:Th)
abbrev m_:=Option O
abbrev m9:=List (m_)
abbrev Ev:=m9
inductive PV where
 | o (o:O)
 | sl (i:Nat)
inductive R (α:Type) where
 | ok (a:α) (c:Ev)
 | bad
abbrev m7:=Ev->R PV
abbrev m6:=Ev->R Bool
abbrev n8:=PV->Ev->R Unit
abbrev m5:=Ev->R (List PV)
abbrev n_:=Ev->R (w6)
noncomputable def R.bind {α β:Type} (r:R α) (k:α->Ev->R β):R β:=match r with
 | .ok a c=>k a c
 | .bad=>.bad
def R.sat {α:Type}(r:R α)(φ:α->Ev->Prop):Prop:=match r with
 | .ok a c=>φ a c
 | .bad=>False
theorem R.sat_bind {r:R d}{k:d->Ev->R e}{b:e->Ev->Prop}:(r.bind k).sat b↔r.sat λa c=>(k a c).sat b:=by cases r <;> exact Iff.rfl
theorem R.sat.mono {r:R d}{e b:d->Ev->Prop}(h:r.sat e) (f:∀a c,e a c->b a c):r.sat b:=by
 cases r with
 | ok a c=>exact f a c h
 | bad=>exact h
theorem R.sat.bnd {r:R d}{k:d->Ev->R e}{b:e->Ev->Prop}(h:(r.bind k).sat b):r.sat λa c=>(k a c).sat b:=R.sat_bind.mp h
noncomputable def O.bor:O->Bool
 | .ls b _=>b
 | _=>false
noncomputable def O.own:O->Bool
 | .ls _ _=>true
 | _=>false
noncomputable def O.dat:O->Option o5
 | .im d=>some d
 | .ls _ ds=>some (.list ds)
 | _=>none
noncomputable def O.flag (b:Bool):O->O
 | .ls _ ds=>.ls b ds
 | o=>o
noncomputable def nrm:PV->PV
 | .o (.ls _ ds)=>.o (.im (.list ds))
 | p=>p
noncomputable def rdP (c:Ev):PV->m_
 | .o o=>some o
 | .sl i=>(c[i]?).join
def Eo (c:Ev)(p:PV):Option o5:=(rdP c p).bind O.dat
structure Wo where
 Hf:Hp
 H:Hp
 fps:Nat->u9
def Wo.S (W:Wo):Addr->Prop:=λa=>∃i,a∈W.fps i
def B4u (Hf:Hp):Option (Str×o5)->Option Addr->Prop
 | none,d=>d=none
 | some q,d=>∃a v,d=some a/\Hf a=some (.xd [(q.1,v)])/\Tr Hf q.2 v
structure XAt (K:q9) (Hf:Hp) (nm:Xn) (C:Addr) (d:Option Addr):Prop where
 ns:PySem.W.nsIn K mainGlobals nm.n=some (some (.ref C))
 pay:B4u Hf nm.p d
theorem XAt.same {K:q9}{Hf Hf':Hp}{nm:Xn}{C:Addr}{d:Option Addr}(S:Same Hf Hf')(x:XAt K Hf nm C d):XAt K Hf' nm C d:=by
 refine⟨x.ns,?_⟩
 have q:=x.pay
 cases e:nm.p with
 | none=>rw[e]at q;exact q
 | some y=>rw[e]at q;obtain⟨a,v,h1,h2,h3⟩:=q;exact⟨a,v,h1,S _ _ h2,Tr.same S h3⟩
def RepT (K:q9)(Hf:Hp):Th->V->Prop
 | .nm T,v=>v=.ty T
 | .dc ks ds,v=>∃a xs,v=.ref a/\Hf a=some (.dK (B7o ks xs))/\TrL Hf ds xs
 | .dt ks ds,v=>∃a xs,v=.ref a/\Rd Hf a (.dT (ks.zip xs))/\TrL Hf ds xs/\ks.length=xs.length
 | .ds ks ds,v=>∃a o xs,v=.ref a/\Hf a=some (.frz o (.dT (ks.zip xs)))/\TrL Hf ds xs/\ks.length=xs.length
 | .td es ks ds,v=>∃a us b o xs,v=.ref a/\Hf a=some (.tup (us++[.ref b]))/\TrL Hf es us/\Hf b=some (.frz o (.dT (ks.zip xs)))/\TrL Hf ds xs/\ks.length=xs.length
 | .xc nm,v=>∃a C d,v=.ref a/\XAt K Hf nm C d/\Hf a=some (B7d a C d)
 | .tc ss,v=>∃p,v=.ref p/\∀H,SqT K H p (ss.map V.str)
theorem Av2 (S:Same Hf b) (h:Rd Hf a u):Rd b a u:=h.imp (λh=>S _ _ h) λ⟨o,h⟩=>⟨o,S _ _ h⟩
theorem RepT.same {K:q9}{Hf Hf':Hp}(S:Same Hf Hf'):∀{t:Th}{v:V},RepT K Hf t v->RepT K Hf' t v
 | .nm T,_,h=>h
 | .dc ks ds,_,⟨a,xs,e,h,t⟩=>⟨a,xs,e,S _ _ h,TrL.same S t⟩
 | .dt ks ds,_,⟨a,xs,e,h,t,l⟩=>⟨a,xs,e,Av2 S h,TrL.same S t,l⟩
 | .ds ks ds,_,⟨a,o,xs,e,h,t,l⟩=>⟨a,o,xs,e,S _ _ h,TrL.same S t,l⟩
 | .td es ks ds,_,⟨a,us,b,o,xs,e,h,t,h2,t2,l⟩=>⟨a,us,b,o,xs,e,S _ _ h,TrL.same S t,S _ _ h2,TrL.same S t2,l⟩
 | .xc nm,_,⟨a,C,d,e,n,h⟩=>⟨a,C,d,e,n.same S,S _ _ h⟩
 | .tc ss,_,h=>h
def RepN (K:q9)(Hf:Hp):O->V->Prop
 | .im d,v=>Tr Hf d v
 | .sc ns,v=>∃a,v=.ref a/\SqL K Hf a (ns.map V.int)
 | .ty T,v=>RepT K Hf T v
 | .ls _ _,_=>False
def RepO (K:q9)(Hf H:Hp)(o:O)(v:V)(fp:u9):Prop:=match o with
 | .ls _ ds=>∃a vs,v=.ref a/\fp=[a]/\Hf a=none/\H a=some (.lst vs)/\TrL Hf ds vs
 | o=>fp=[]/\RepN K Hf o v
structure Stp (S:Addr->Prop) (Hf H:Hp) (S':Addr->Prop) (Hf' H':Hp):Prop where
 fz:Same Hf Hf'
 kp:∀a o,H a=some o->¬ S a->H' a=some o
 nf:∀a o,H a=some o->Mut (some o)->¬ S a->Hf a=none->Hf' a=none
 fr:∀a,S' a->S a\/H a=none
structure Rep (K:q9) (β:Nat->V) (W:Wo) (c:Ev) (σ:St):Prop where
 sub:Same W.Hf W.H
 len:c.length=σ.length
 get:∀i o,c[i]?=some (some o)->∃v,σ[i]?=some (some v)/\RepO K W.Hf W.H o v (W.fps i)/\(o.bor=true->v=β i)
 dis:∀i j a,a∈W.fps i->a∈W.fps j->i=j
 own:∀i a,a∈W.fps i->W.Hf a=none/\∃o,W.H a=some o/\Mut (some o)
def Ii (K:q9)(W:Wo)(σ:St):PV->V->u9->Prop
 | .o o,v,fp=>RepO K W.Hf W.H o v fp/\∀a∈fp,¬ W.S a
 | .sl i,v,fp=>fp=[]/\σ[i]?=some (some v)
def RepA (K:q9)(Hf:Hp)(σ:St):PV->V->Prop
 | .o o,v=>RepN K Hf o v
 | .sl i,v=>σ[i]?=some (some v)
def yF (K:q9)(Hf:Hp)(σ:St):List PV->l_->Prop
 | [],vs=>vs=[]
 | p::ps,vs=>∃v r,vs=v::r/\RepA K Hf σ p v/\yF K Hf σ ps r
abbrev orS (S:Addr->Prop)(fp:u9):Addr->Prop:=λa=>S a\/a∈fp
section
variable {K:q9}{β:Nat->V}{W W':Wo}{c c':Ev}{σ:St}{Hf Hf' Hf2 H H' H2:Hp}{o:O}{v:V}{fp:u9}{S S' S2:Addr->Prop}{p:PV}{a:Addr}
theorem Stp.refl:Stp S Hf H S Hf H:=⟨λ_ _ h=>h,λ_ _ h _=>h,λ_ _ _ _ _ h=>h,λ_ h=>.inl h⟩
theorem Stp.trans (x:Stp S Hf H S' Hf' H')(y:Stp S' Hf' H' S2 Hf2 H2):Stp S Hf H S2 Hf2 H2:=by
 have b:∀a o,H a=some o->¬ S a->¬ S' a:=λa o h n z=>by
  rcases x.fr a z with q | q
  ·trivial
  simp_all
 refine⟨x.fz.trans y.fz,λa o h n=>y.kp a o (x.kp a o h n) (b a o h n),λa o h c n q=>y.nf a o (x.kp a o h n) c (b a o h n) (x.nf a o h c n q),λa h=>?_⟩
 rcases y.fr a h with q | q
 ·exact x.fr a q
 ·cases e:H a with
  | none=>simp_all
  | some o =>
   by_cases n:S a
   ·grind
   ·rw[x.kp a o e n]at q;grind
theorem Stp.less (x:Stp S Hf H S' Hf' H')(h:∀a,S2 a->S' a):Stp S Hf H S2 Hf' H':=⟨x.fz,x.kp,x.nf,λa q=>x.fr a (h a q)⟩
theorem Stp.more {F:Addr->Prop}(x:Stp S Hf H S' Hf' H'):Stp (λa=>S a\/F a) Hf H (λa=>S' a\/F a) Hf' H' :=
 ⟨x.fz,λa o h n=>x.kp a o h λz=>n (.inl z),λa o h b n q=>x.nf a o h b (λz=>n (.inl z)) q,λa q=>by
  rcases q with q | q
  ·rcases x.fr a q with z | z
   ·simp_all
   grind
  simp_all⟩
theorem Stp.up (x:Stp S Hf H S' Hf' H')(h:∀a,S a->S2 a):Stp S2 Hf H S' Hf' H' :=
 ⟨x.fz,λa o e n=>x.kp a o e λz=>n (h a z),λa o e b n q=>x.nf a o e b (λz=>n (h a z)) q,λa q=>(x.fr a q).imp (h a) id⟩
theorem RepN.same (S:Same Hf Hf'):∀{o:O}{v:V},RepN K Hf o v->RepN K Hf' o v
 | .im d,_,h=>Tr.same S h
 | .sc ns,_,⟨a,e,h⟩=>⟨a,e,Same.seq S h⟩
 | .ty T,_,h=>RepT.same S h
 | .ls _ _,_,h=>h
theorem RepA.same (S:Same Hf Hf'):∀{p:PV}{v:V},RepA K Hf σ p v->RepA K Hf' σ p v
 | .o _,_,h=>RepN.same S h
 | .sl _,_,h=>h
theorem yF.same (S:Same Hf Hf'):∀{ps:List PV}{vs:l_},yF K Hf σ ps vs->yF K Hf' σ ps vs
 | [],_,h=>h
 | p::ps,_,⟨v,r,e,h,t⟩=>⟨v,r,e,RepA.same S h,yF.same S t⟩
theorem RepO.mono (h:RepO K Hf H o v fp)(S:Same Hf Hf')(h1:∀a∈fp,Hf' a=none/\H' a=H a):RepO K Hf' H' o v fp:=by
 cases o with
 | ls b ds =>
  obtain⟨a,f,rfl,rfl,q,e,t⟩:=h;obtain⟨c,g⟩:=h1 a (.head _);exact⟨a,f,rfl,rfl,c,g.trans e,TrL.same S t⟩
 | im d=>exact⟨h.1,RepN.same S h.2⟩
 | sc ns=>exact⟨h.1,RepN.same S h.2⟩
 | ty T=>exact⟨h.1,RepN.same S h.2⟩
theorem Rep.frame (R:Rep K β W c σ)(S:Same W.Hf Hf')(sub:Same Hf' H')(h:∀a,W.S a->Hf' a=none/\H' a=W.H a):Rep K β ⟨Hf',H',W.fps⟩ c σ :=
 ⟨sub,R.len,λi o e=>by
  obtain⟨v,f,r,b⟩:=R.get i o e
  exact⟨v,f,r.mono S λa d=>h a ⟨i,d⟩,b⟩,R.dis,λi a d=>by
  obtain⟨_,o,q,j⟩:=R.own i a d;obtain⟨k,g⟩:=h a ⟨i,d⟩
  grind⟩
theorem Rep.notS (R:Rep K β W c σ)(h:W.H a=none):¬ W.S a:=λ⟨i,q⟩=>by
 obtain⟨_,o,e,_⟩:=R.own i a q
 grind
theorem Rep.notF (R:Rep K β W c σ)(h:W.H a=none):W.Hf a=none:=Same.free R.sub h
theorem Stp.rep (R:Rep K β W c σ)(x:Stp (λ_=>False) W.Hf W.H S' Hf' H')(sub:Same Hf' H'):Rep K β ⟨Hf',H',W.fps⟩ c σ :=
 R.frame x.fz sub λa d=>by
  obtain⟨i,f⟩:=d;obtain⟨z,o,e,b⟩:=R.own i a f
  exact⟨x.nf a o e b (λz=>z) z,(x.kp a o e λz=>z).trans e.symm⟩
theorem Bj {p:Addr}{o:HO}(h:H p=none):Same H (upd H p o):=λb u e=>by
 rw[Al];exact e
 grind
theorem Px {o:HO}(s:Same Hf H):Same (upd Hf a o) (upd H a o):=λb u e=>by
 unfold upd at e ⊢
 split
 ·grind
 ·rename_i z;rw[if_neg z]at e;exact s b u e
theorem Stp.newF {o:HO}(s:Same Hf H)(h:H a=none):Stp (λ_=>False) Hf H (λ_=>False) (upd Hf a o) (upd H a o) :=
 ⟨Bj (Same.free s h),λb u e _=>Bj h b u e,λb u e _ _ q=>by rw[Al (Cg e h)];grind,λ_ z=>z.elim⟩
theorem Stp.newL {o:HO}(s:Same Hf H)(h:H a=none):Stp (λ_=>False) Hf H (λb=>b∈[a]) Hf (upd H a o) :=
 ⟨Same.refl _,λb u e _=>Bj h b u e,λb u e _ _ q=>q,λb z=>by
  grind⟩
theorem Y7 {o:HO}(s:Same Hf H)(h:H a=none):Same Hf (upd H a o):=s.trans (Bj h)
def ME (K:q9)(T:TE)(f:m7):Prop:=∀(β:Nat->V) (W:Wo) (c:Ev) (σ:St) (Q:VK),Rep K β W c σ ->
 (f c).sat (λp c'=>∀v W' fp,Stp W.S W.Hf W.H (orS W'.S fp) W'.Hf W'.H->Rep K β W' c' σ->Ii K W' σ p v fp->Q v W'.H)->T σ W.H Q
def MV (K:q9)(T:TE)(f:m7):Prop:=∀(β:Nat->V) (W:Wo) (c:Ev) (σ:St) (Q:VK),Rep K β W c σ ->
 (f c).sat (λp c'=>∀v W',Stp W.S W.Hf W.H W'.S W'.Hf W'.H->Rep K β W' c' σ->RepA K W'.Hf σ (nrm p) v->Q v W'.H)->T σ W.H Q
def MA (K:q9)(T:TA)(f:m5):Prop:=∀(β:Nat->V) (W:Wo) (c:Ev) (σ:St) (Q:l_->Hp->Prop),Rep K β W c σ ->
 (f c).sat (λps c'=>∀vs W',Stp W.S W.Hf W.H W'.S W'.Hf W'.H->Rep K β W' c' σ->yF K W'.Hf σ ps vs->Q vs W'.H)->T σ W.H Q
def MT (K:q9)(T:TT)(f:m6):Prop:=∀(β:Nat->V) (W:Wo) (c:Ev) (σ:St) (Q:Bool->Hp->Prop),Rep K β W c σ ->
 (f c).sat (λb c'=>∀W',Stp W.S W.Hf W.H W'.S W'.Hf W'.H->Rep K β W' c' σ->Q b W'.H)->T σ W.H Q
theorem Vq (R:Rep K β W c σ) (hf:W.Hf a=none) (h:W.H a=some (.lst vs)) (hn:¬ W.S a):Rep K β ⟨upd W.Hf a (.lst vs),W.H,W.fps⟩ c σ :=
 R.frame (Bj hf) (λb u e=>by
  unfold upd at e
  split at e
  ·grind
  ·exact R.sub b u e) λb f=>by
   obtain⟨i,g⟩:=f
   have d:b≠a:=λz=>hn ⟨i,by simp_all⟩
   exact⟨by rw[Al d];exact(R.own i b g).1,rfl⟩
theorem B5l {Q:VK} (k:∀v c,Stp W.S W.Hf W.H c.S c.Hf c.H->Rep K β c c' σ->RepA K c.Hf σ (nrm p) v->Q v c.H) (v:V) (c:Wo) (fp:u9) (st:Stp W.S W.Hf W.H (orS c.S fp) c.Hf c.H) (g:Rep K β c c' σ) (f:Ii K c σ p v fp):Q v c.H:=by
 cases p with
 | sl i =>
  obtain⟨rfl,e⟩:=f
  exact k v _ (st.less λa z=>.inl z) g e
 | o o =>
  cases o with
  | im d =>
   obtain⟨⟨rfl,e⟩,_⟩:=f
   exact k v _ (st.less λa z=>.inl z) g e
  | sc d =>
   obtain⟨⟨rfl,e⟩,_⟩:=f
   exact k v _ (st.less λa z=>.inl z) g e
  | ty d =>
   obtain⟨⟨rfl,e⟩,_⟩:=f
   exact k v _ (st.less λa z=>.inl z) g e
  | ls b ds =>
   obtain⟨⟨a,l,rfl,rfl,h,r,t⟩,m⟩:=f
   refine k _ ⟨upd _ a _,c.H,c.fps⟩ ⟨st.fz.trans (Bj h),st.kp,λb o e s n q=>?_,λb z=>st.fr b (.inl z)⟩ (Vq g h r (m a (.head _))) ?_
   ·have j:b≠a:=λz=>by
     rcases st.fr a (.inr (.head _)) with y | y
     ·grind
     simp_all
    show upd _ a _ b=none
    rw[Al j];exact st.nf b o e s n q
   ·exact⟨a,l,rfl,Be,TrL.same (Bj h) t⟩
theorem ME.toV (h:ME K T f):MV K T f:=λe W c j Q R s=>h _ W c _ Q R (s.mono λp l k v g i a d b=>B5l k v _ _ a d b)
end
def RdV (Hf H:Hp):o5->V->Prop
 | .list ds,v=>∃a vs,v=.ref a/\H a=some (.lst vs)/\TrL Hf ds vs
 | d,v=>Tr Hf d v
section
variable {K:q9}{β:Nat->V}{W W':Wo}{c c':Ev}{σ:St}{Hf Hf' H H':Hp}{o:O}{v:V}{fp:u9}{S:Addr->Prop}{p:PV}{a:Addr}{d:o5}
theorem RdV.of (s:Same Hf H)(h:Tr Hf d v):RdV Hf H d v:=by
 cases d with
 | list f=>obtain⟨a,c,e,q,t⟩:=h;exact⟨a,c,e,s _ _ q,t⟩
 | none=>exact h
 | bool b=>exact h
 | int i=>exact h
 | str x=>exact h
 | tuple f=>exact h
 | dict k=>exact h
theorem RdV.tr (s:Same Hf H)(h:RdV Hf H d v):Tr H d v:=by
 cases d with
 | list f=>obtain⟨a,c,e,q,t⟩:=h;exact⟨a,c,e,q,TrL.same s t⟩
 | none=>exact h
 | bool b=>exact h
 | int i=>exact h
 | str x=>exact h
 | tuple f=>exact Tr.same s h
 | dict k=>trivial
theorem Ij (R:Rep K β W c σ)(h:RepA K W.Hf σ p v)(e:Eo c p=some d):RdV W.Hf W.H d v:=by
 cases p with
 | o o =>
  cases o with
  | im m=>cases e;exact .of R.sub h
  | ls b n=>trivial
  | sc k=>trivial
  | ty T=>trivial
 | sl i =>
  have l:c[i]?.join.bind _=some d:=e;obtain⟨o,g,f⟩:=eU.mp l
  have g:c[i]?=some (some o):=by
   grind
  obtain⟨u,s,r,_⟩:=R.get i o g
  cases s.symm.trans h
  cases o with
  | im m=>cases f;exact .of R.sub r.2
  | ls b n =>
   cases f
   obtain⟨a,j,e,_,_,q,t⟩:=r;exact⟨a,j,e,q,t⟩
  | sc k=>trivial
  | ty T=>trivial
def B2c (Hf H:Hp):w6->l_->Prop
 | [],vs=>vs=[]
 | d::ds,vs=>∃v r,vs=v::r/\RdV Hf H d v/\B2c Hf H ds r
def Vv (c:Ev):List PV->Option (w6)
 | []=>some []
 | p::ps=>(Eo c p).bind λd=>(Vv c ps).map (d::·)
abbrev New (K:q9)(Hf H:Hp)(o:O)(Q:VK):Prop:=∀v Hf' H' fp,Stp (λ_=>False) Hf H (λa=>a∈fp) Hf' H'->Same Hf' H'->RepO K Hf' H' o v fp->Q v H'
def OpS (K:q9)(r:R2)(op:o5->o5->m_):Prop:=∀(Hf H:Hp) (x y:V) (dx dy:o5) (o:O) (Q:VK),Same Hf H->RdV Hf H dx x->RdV Hf H dy y->op dx dy=some o->New K Hf H o Q->r x y H Q
def B5i (K:q9)(r:l_->Hp->VK->Prop)(op:w6->m_):Prop:=∀(Hf H:Hp) (xs:l_) (ds:w6) (o:O) (Q:VK),Same Hf H->B2c Hf H ds xs->op ds=some o->New K Hf H o Q->r xs H Q
theorem New.same (h:New K Hf H (.im d) Q) (s:Same Hf H) (t:Tr Hf d v):Q v H:=h v _ H [] (Stp.refl.less λa z=>nomatch z) s ⟨rfl,t⟩
theorem New.tup (h:New K Hf H (.im (.tuple ds)) Q) (s:Same Hf H) (t:TrL Hf ds vs) {p:Addr}(hp:H p=none):Q (.ref p) (upd H p (.tup vs)) :=
 h _ _ _ [] ((Stp.newF s hp).less λa z=>nomatch z) (Px s) ⟨rfl,p,vs,rfl,Be,TrL.same (Bj (Same.free s hp)) t⟩
theorem New.lst (h:New K Hf H (.ls false ds) Q) (s:Same Hf H) (t:TrL Hf ds vs) {p:Addr}(hp:H p=none):Q (.ref p) (upd H p (.lst vs)) :=
 h _ _ _ _ (Stp.newL s hp) (Y7 s hp) ⟨p,vs,rfl,rfl,Same.free s hp,Be,t⟩
theorem New.of (R:Rep K β W c σ) (k:∀v W' d,Stp W.S W.Hf W.H (orS W'.S d) W'.Hf W'.H->Rep K β W' c σ->Ii K W' σ (.o o) v d->Q v W'.H):New K W.Hf W.H o Q:=by
 intro v h j d b f r
 refine k v _ _ ⟨b.fz,λa o e _=>b.kp a o e λz=>z,λa o e i _ q=>b.nf a o e i (λz=>z) q,λa z=>?_⟩ (b.rep R f) ⟨r,λa g z=>?_⟩
 ·rcases z with z | z
  ·exact .inl z
  ·rcases b.fr a z with y | y
   ·trivial
   grind
 ·rcases b.fr a g with y | y
  ·omega
  ·exact R.notS y z
def cOp (op:o5->o5->m_)(fa fb:m7):m7:=λc=>(fa c).bind λp c=>(fb c).bind λq c =>
 match Eo c (nrm p),Eo c (nrm q) with
 | some x,some y=>match op x y with
  | some o=>.ok (.o o) c
  | none=>.bad
 | _,_=>.bad
theorem Cp (ha:ME K g fa) (hb:ME K f fb) (hr:OpS K r op):ME K (tOp r g f) (cOp op fa fb):=by
 intro β W c σ Q R s
 refine ha.toV _ W c _ _ R (s.bnd.mono λp c1 l v1 W1 d i j=>?_)
 refine hb.toV _ _ _ _ _ i (l.bnd.mono λq e a v2 W2 b R2 k=>?_)
 cases ex:Eo e (nrm p) with
 | none=>simp only[ex]at a;trivial
 | some x =>
  cases ey:Eo e (nrm q) with
  | none=>simp only[ex,ey]at a;trivial
  | some y =>
   simp only[ex,ey]at a
   cases eo:op x y with
   | none=>simp only[eo]at a;trivial
   | some o =>
    simp only[eo]at a
    exact hr _ _ _ _ x y o Q R2.sub (Ij R2 (RepA.same b.fz j) ex) (Ij R2 k ey) eo (New.of R2 λv W' fp m n h=>a v _ _ (d.trans (b.trans m)) n h)
noncomputable def Ag:m5:=λc=>.ok [] c
def Ab (f:m7)(fr:m5):m5:=λc=>(f c).bind λp c=>(fr c).bind λps c=>.ok (nrm p::ps) c
noncomputable def cK (ds:w6):m5:=λc=>.ok (ds.map λd=>.o (.im d)) c
theorem Ca:MA K Jb Ag:=λb W c a Q R s=>s _ W Stp.refl R rfl
theorem An {d:TE} (ha:ME K d fa) (hr:MA K e f):MA K (Ej d e) (Ab fa f):=by
 intro t W c v Q R s
 refine ha.toV _ W c _ _ R (s.bnd.mono λp o i j r b h g=>?_)
 refine hr _ _ _ _ _ h (i.bnd.mono λw q m l u a n k=>?_)
 exact m _ _ (b.trans a) n ⟨j,l,rfl,RepA.same a.fz g,k⟩
noncomputable def Aa (i:Nat):m7:=λc=>match c[i]? with
 | some (some (.ls _ _))=>.ok (.sl i) c
 | some (some o)=>.ok (.o o) c
 | _=>.bad
theorem Rep.here (R:Rep K β W c σ) (h:RepN K W.Hf o v) (n:o.own=false) {Q:VK}(s:∀v W' fp,Stp W.S W.Hf W.H (orS W'.S fp) W'.Hf W'.H->Rep K β W' c σ->Ii K W' σ (.o o) v fp->Q v W'.H):Q v W.H :=
 s
  v W [] (Stp.refl.less λa z=>by
  grind) R ⟨by
   cases o with
   | ls b e=>trivial
   | im d=>trivial
   | sc d=>trivial
   | ty d=>trivial,λa z=>nomatch z⟩
theorem Ai : ME K (Tp i) (Aa i):=by
 intro j W c h Q R s;unfold Aa at s
 cases e:c[i]? with
 | none=>simp only[e]at s;trivial
 | some x =>
  cases x with
  | none=>simp only[e]at s;trivial
  | some o =>
   obtain⟨v,f,r,_⟩:=R.get i o e
   refine⟨v,f,?_⟩
   simp only[e]at s
   cases o with
   | ls b g=>
    exact s v W _ (Stp.refl.less λa z=>by
     rcases z with z | z
     ·omega
     simp_all) R ⟨rfl,f⟩
   | im d=>exact R.here r.2 rfl s
   | sc d=>exact R.here r.2 rfl s
   | ty d=>exact R.here r.2 rfl s
noncomputable def cC (d:o5):m7:=λc=>.ok (.o (.im d)) c
noncomputable def cTy (T:String):m7:=λc=>.ok (.o (.ty (.nm T))) c
noncomputable def vD:V->Option o5
 | .non=>some .none
 | .bl b=>some (.bool b)
 | .int i=>some (.int i)
 | .str x=>some (.str x)
 | _=>none
theorem B0n:∀{v:V}{d:o5},vD v=some d->Tr H d v
 | .non,_,e=>by cases e;rfl
 | .bl b,_,e=>by cases e;rfl
 | .int i,_,e=>by cases e;rfl
 | .str x,_,e=>by cases e;rfl
 | .byt _,_,e=>nomatch e
 | .flt _,_,e=>nomatch e
 | .ref _,_,e=>nomatch e
 | .ty _,_,e=>nomatch e
theorem Dh (h:vD v=some d):ME K (tC v) (cC d):=λb W c a Q R s=>R.here (o:=.im d) (B0n h) rfl s
noncomputable def frz (p:PV) (c:Ev):R o5:=match p with
 | .o (.im d)=>.ok d c
 | .o _=>.bad
 | .sl i=>match c[i]? with
  | some (some (.im d))=>.ok d c
  | some (some (.ls false ds))=>.ok (.list ds) (c.set i (some (.im (.list ds))))
  | _=>.bad
noncomputable def clr (fps:Nat->u9) (i:Nat):Nat->u9:=λj=>if j=i then [] else fps j
theorem Hh (h:a∈clr b i j):a∈b j/\j≠i:=by
 unfold clr at h
 grind
theorem Rep.setN (R:Rep K β W c σ) (h:RepN K W.Hf o v) (n:o.own=false):Rep K β ⟨W.Hf,W.H,clr W.fps i⟩ (c.set i (some o)) (σ.set i (some v)):=by
 refine⟨R.sub,by rw[bM,bM];exact R.len,λj s e=>?_,λj k a m g=>R.dis j k a (Hh m).1 (Hh g).1,λj a h=>R.own j a (Hh h).1⟩
 by_cases z:j=i
 ·subst z
  by_cases l:j<c.length
  ·rw[bC l]at e
   cases e
   refine⟨v,by rw[bC (by rw[<- R.len];exact l)],?_,λb=>?_⟩
   ·show RepO K W.Hf W.H o v (clr _ j j)
    unfold clr;rw[if_pos rfl]
    cases o with
    | ls b f=>exact nomatch n
    | im d=>exact⟨rfl,h⟩
    | sc d=>trivial
    | ty d=>exact⟨rfl,h⟩
   ·cases o with
    | ls b f=>exact nomatch n
    | im d=>exact nomatch b
    | sc d=>exact nomatch b
    | ty d=>exact nomatch b
  grind
 ·rw[bI λy=>z y.symm]at e
  obtain⟨p,q,r,b⟩:=R.get j _ e
  refine⟨p,by grind,?_,b⟩
  unfold clr
  simp_all
theorem Rep.setO (R:Rep K β W c σ) (h:RepO K W.Hf W.H o v fp) (hn:∀a∈fp,¬ W.S a) (hb:o.bor=false):Rep K β ⟨W.Hf,W.H,λj=>if j=i then fp else W.fps j⟩ (c.set i (some o)) (σ.set i (some v)):=by
 refine⟨R.sub,by rw[bM,bM];exact R.len,λj o' e=>?_,λj k a f g=>?_,λj a f=>?_⟩
 ·by_cases z:j=i
  ·subst z
   by_cases l:j<c.length
   ·rw[bC l]at e
    cases e
    refine⟨v,by rw[bC (by rw[<- R.len];exact l)],?_,λb=>by rw[hb]at b;cases b⟩
    simp_all
   simp_all
  ·rw[bI λy=>z y.symm]at e
   obtain⟨v',e1,r,b⟩:=R.get j _ e
   grind
 ·have f:a∈if j=i then fp else W.fps j:=f
  have g:a∈if k=i then fp else W.fps k:=g
  split at f
  ·split at g
   ·omega
   ·exact absurd ⟨k,g⟩ (hn a f)
  ·split at g
   ·exact absurd ⟨j,f⟩ (hn a g)
   ·exact R.dis j k a f g
 ·have f:a∈if j=i then fp else W.fps j:=f
  split at f
  ·cases o with
   | ls b ds =>
    obtain⟨a',vs,_,rfl,n,m,_⟩:=h
    cases az.mp f
    exact⟨n,_,m,trivial⟩
   | im d=>rw[h.1]at f;cases f
   | sc d=>rw[h.1]at f;cases f
   | ty d=>rw[h.1]at f;cases f
  ·exact R.own j a f
theorem set_same {a:Type}{l:List a} {x:a}(h:l[i]?=some x):l.set i x=l:=by
 apply gH
 grind
theorem Rep.drop (R:Rep K β W c σ)(i:Nat):Rep K β ⟨W.Hf,W.H,clr W.fps i⟩ (c.set i none) σ:=by
 refine⟨R.sub,by rw[bM];exact R.len,λj m e=>?_,λj k a g f=>R.dis j k a (Hh g).1 (Hh f).1,λj a h=>R.own j a (Hh h).1⟩
 by_cases z:j=i
 ·grind
 ·rw[bI λy=>z y.symm]at e
  obtain⟨l,d,r,b⟩:=R.get j _ e
  refine⟨l,d,?_,b⟩
  unfold clr
  simp_all
theorem N8 (R:Rep K β W c σ)(h:RepA K W.Hf σ p v) (s:(frz p c).sat k) :
 ∃d c' W',frz p c=.ok d c'/\k d c'/\W'.H=W.H/\Stp W.S W.Hf W.H W'.S W'.Hf W'.H/\Rep K β W' c' σ/\Tr W'.Hf d v:=by
 cases p with
 | o o =>
  cases o with
  | im d=>exact⟨d,c,W,rfl,s,rfl,Stp.refl,R,h⟩
  | ls b w=>exact s.elim
  | sc d=>exact s.elim
  | ty d=>exact s.elim
 | sl i =>
  unfold frz at s ⊢
  cases e:c[i]? with
  | none=>simp only[e]at s;exact s.elim
  | some x =>
   cases x with
   | none=>simp only[e]at s;exact s.elim
   | some o =>
    obtain⟨v',u,r,_⟩:=R.get i o e
    cases (show some _=some _ from u.symm.trans h)
    cases o with
    | im d=>simp only[e]at s;exact⟨d,c,W,by simp only[e],s,rfl,Stp.refl,R,r.2⟩
    | sc d=>simp only[e]at s;exact s.elim
    | ty d=>simp only[e]at s;exact s.elim
    | ls b w =>
     cases b with
     | true=>simp only[e]at s;exact s.elim
     | false =>
      simp only[e]at s;obtain⟨a,m,rfl,l,f,A,t⟩:=r
      refine⟨.list _,c.set i _,⟨upd _ a _,W.H,clr W.fps i⟩,by simp only[e],s,rfl,⟨Bj f,λb o e _=>e,λb o e mu n q=>?_,λb z=>?_⟩,?_,⟨a,m,rfl,Be,TrL.same (Bj f) t⟩⟩
      ·have C:b≠a:=λz=>n ⟨i,by rw[z,l];exact .head _⟩
       show upd _ a _ b=none
       rw[Al C];exact q
      ·obtain⟨j,g⟩:=z
       exact .inl ⟨j,(Hh g).1⟩
      ·have B:¬ Wo.S ⟨W.Hf,W.H,clr W.fps i⟩ a:=λ⟨j,g⟩=>by
        obtain⟨E,D⟩:=Hh g
        exact D (R.dis j i a E (by rw[l];exact .head _))
       have y:=(Vq (R.drop i) f A B).setN (i:=i) (o:=.im (.list _)) ⟨a,m,rfl,Be,TrL.same (Bj f) t⟩ rfl;rw[set_same h]at y
       have z:clr (clr W.fps i) i=clr W.fps i:=by funext j;unfold clr;split <;> rfl
       simp_all
def vDs:l_->Option (w6)
 | []=>some []
 | v::vs=>(vD v).bind λd=>(vDs vs).map (d::·)
theorem A6l:∀{vs:l_}{ds:w6},vDs vs=some ds->yF K Hf σ (ds.map λd=>.o (.im d)) vs
 | [],_,e=>by cases (show some []=some _ from e);exact rfl
 | v::vs,ds,e=>by
  obtain⟨d,e1,e2⟩:=eU.mp (show ((vD v).bind λd=>(vDs vs).map (d::·))=some ds from e)
  obtain⟨ds',e3,rfl⟩:=bc.mp e2;exact⟨v,vs,rfl,B0n e1,A6l e3⟩
theorem B7f (h:vDs vs=some ds):MA K (tK vs) (cK ds):=λb W c a Q R s=>s _ W Stp.refl R (A6l h)
def frzs:List PV->Ev->R (w6)
 | [],c=>.ok [] c
 | p::ps,c=>(frz p c).bind λd c=>(frzs ps c).bind λds c=>.ok (d::ds) c
theorem Vn:∀{ps:List PV}{vs:l_}{W:Wo}{c:Ev}{φ:w6->Ev->Prop},Rep K β W c σ->yF K W.Hf σ ps vs->(frzs ps c).sat φ ->
 ∃ds c' W',φ ds c'/\W'.H=W.H/\Stp W.S W.Hf W.H W'.S W'.Hf W'.H/\Rep K β W' c' σ/\TrL W'.Hf ds vs
 | [],vs,W,c,φ,R,h,s=>⟨[],c,W,s,rfl,Stp.refl,R,h⟩
 | p::ps,_,W,c,φ,R,⟨v,r,rfl,h,t⟩,s=>by
  obtain⟨d,c1,W1,_,s1,e1,st1,R1,t1⟩:=N8 R h s.bnd;obtain⟨ds,c2,W2,s2,e2,st2,R2,t2⟩:=Vn R1 (yF.same st1.fz t) s1.bnd;exact⟨d::ds,c2,W2,s2,e2.trans e1,st1.trans st2,R2,v,r,rfl,Tr.same st2.fz t1,t2⟩
def El (f:m5):m7:=λc=>(f c).bind λps c=>(frzs ps c).bind λds c=>if ds.length<=1000 then .ok (.o (.im (.tuple ds))) c else .bad
def Gr (f:m5):m7:=λc=>(f c).bind λps c=>(frzs ps c).bind λds c=>if ds.length<=1000 then .ok (.o (.ls false ds)) c else .bad
theorem A6w (h:n<=1000):n<=sizeLine:=ao h (by decide)
theorem Ad8 (h:MA K t f):ME K (B4o t) (El f):=by
 intro w W c z Q R s
 refine h _ W c _ _ R (s.bnd.mono λx y k A F b o m=>?_)
 obtain⟨r,B,E,a,j,d,e,i⟩:=Vn o m k.bnd
 by_cases l:r.length<=1000
 ·rw[if_pos l]at a
  refine⟨by rw[<- i.length];exact A6w l,λp g=>?_⟩
  rw[<- j]at g ⊢
  exact New.tup (New.of e λv C D q u n=>a v _ _ (b.trans (d.trans q)) u n) e.sub i g
 ·rw[if_neg l]at a;trivial
theorem J0 (h:MA K t f):ME K (Bg3 t) (Gr f):=by
 intro w W c z Q R s
 refine h _ W c _ _ R (s.bnd.mono λx y k A F b o m=>?_)
 obtain⟨r,B,E,a,j,d,e,i⟩:=Vn o m k.bnd
 by_cases l:r.length<=1000
 ·rw[if_pos l]at a
  refine⟨by rw[<- i.length];exact A6w l,λp g=>?_⟩
  rw[<- j]at g ⊢
  exact New.lst (New.of e λv C D q u n=>a v _ _ (b.trans (d.trans q)) u n) e.sub i g
 ·rw[if_neg l]at a;trivial
end
noncomputable def Gx (cI:Ev):o_->Ev->Option Ev
 | [],c=>some c
 | (k,i)::m,c=>match c[i]? with
  | some (some (.ls b _))=>match cI[k]? with
   | some (some (.ls true ds))=>Gx cI m (c.set i (some (.ls b ds)))
   | _=>none
  | _=>Gx cI m c
noncomputable def inn (m:o_) (i:Nat):Option Nat:=(m.find? λp=>p.2==i).map (·.1)
noncomputable def A4a (m:o_) (k:Nat):Option Nat:=(m.find? λp=>p.1==k).map (·.2)
theorem M4 : inn ((k,j)::m) i=if j=i then some k else inn m i:=by
 unfold inn
 grind
theorem Ze (h:inn m i=some k):(k,i)∈m:=by
 induction m with
 | nil=>cases h
 | cons p m a =>
  rw[M4]at h
  grind
theorem Yz (b:(m.map (·.2)).Nodup) (h:(k,i)∈m):inn m i=some k:=by
 induction m with
 | nil=>grind
 | cons p m a =>
  rw[M4]
  grind
theorem A6o {m:o_} (b:(m.map (·.1)).Nodup) (h:(k,i)∈m) (h':(k,j)∈m):i=j:=by
 induction m with
 | nil=>grind
 | cons p m a =>
  grind
theorem Xj {cI:Ev}:∀{m:o_}{c cO:Ev},(m.map (·.2)).Nodup->Gx cI m c=some cO->cO.length=c.length/\∀i,
 (∃b ds0 k ds,c[i]?=some (some (.ls b ds0))/\inn m i=some k/\cI[k]?=some (some (.ls true ds))/\cO[i]?=some (some (.ls b ds))) \/
 (cO[i]?=c[i]?/\∀b ds,c[i]?=some (some (.ls b ds))->inn m i=none)
 | [],c,cO,nd,e=>by cases (show some c=some cO from e);exact⟨rfl,λi=>.inr ⟨rfl,λ_ _ _=>rfl⟩⟩
 | (k,j)::m,c,cO,nd,e=>by
  rw[aK,eF]at nd
  have nj:inn m j=none:=by
   cases q:inn m j with
   | none=>rfl
   | some k'=>exact absurd (aA.mpr ⟨(k',j),Ze q,rfl⟩) nd.1
  unfold Gx at e
  have other:Gx cI m c=some cO->(∀b ds,c[j]?≠some (some (.ls b ds)))->cO.length=c.length/\∀i,
   (∃b ds0 k' ds,c[i]?=some (some (.ls b ds0))/\inn ((k,j)::m) i=some k'/\cI[k']?=some (some (.ls true ds))/\cO[i]?=some (some (.ls b ds))) \/
   (cO[i]?=c[i]?/\∀b ds,c[i]?=some (some (.ls b ds))->inn ((k,j)::m) i=none):=λe hn=>by
   obtain⟨hl,hg⟩:=Xj nd.2 e
   refine⟨hl,λi=>?_⟩
   rcases hg i with ⟨b,ds0,k',ds,q1,q2,q3,q4⟩ | ⟨q1,q2⟩
   ·refine .inl ⟨b,ds0,k',ds,q1,?_,q3,q4⟩
    rw[M4,if_neg (λz=>hn b ds0 (by rw[z];exact q1))];exact q2
   ·refine .inr ⟨q1,λb ds q=>?_⟩
    rw[M4,if_neg (λz=>hn b ds (by rw[z];exact q))];exact q2 b ds q
  cases ec:c[j]? with
  | none=>simp only[ec]at e;exact other e λb ds z=>by rw[ec]at z;cases z
  | some x =>
   cases x with
   | none=>simp only[ec]at e;exact other e λb ds z=>by rw[ec]at z;cases z
   | some o =>
    cases o with
    | im d=>simp only[ec]at e;exact other e λb ds z=>by rw[ec]at z;cases z
    | sc d=>simp only[ec]at e;exact other e λb ds z=>by rw[ec]at z;cases z
    | ty d=>simp only[ec]at e;exact other e λb ds z=>by rw[ec]at z;cases z
    | ls b0 ds0 =>
     simp only[ec]at e
     cases ei:cI[k]? with
     | none=>simp only[ei]at e;cases e
     | some x =>
      cases x with
      | none=>simp only[ei]at e;cases e
      | some o =>
       cases o with
       | im d=>simp only[ei]at e;cases e
       | sc d=>simp only[ei]at e;cases e
       | ty d=>simp only[ei]at e;cases e
       | ls b1 ds1 =>
        cases b1 with
        | false=>simp only[ei]at e;cases e
        | true =>
         simp only[ei]at e
         have lj:j<c.length:=by
          rcases fV j c.length with q | q
          ·exact q
          ·rw[cu q]at ec;cases ec
         obtain⟨hl,hg⟩:=Xj nd.2 e;rw[bM]at hl
         refine⟨hl,λi=>?_⟩
         by_cases z:j=i
         ·subst z
          rcases hg j with ⟨b,ds0',k',ds,q1,q2,q3,q4⟩ | ⟨q1,q2⟩
          ·rw[nj]at q2;cases q2
          ·rw[bC lj]at q1
           exact .inl ⟨b0,ds0,k,ds1,ec,by rw[M4,if_pos rfl],ei,q1⟩
         ·have gs:(c.set j (some (.ls b0 ds1)))[i]?=c[i]?:=bI z
          rcases hg i with ⟨b,ds0',k',ds,q1,q2,q3,q4⟩ | ⟨q1,q2⟩
          ·rw[gs]at q1
           exact .inl ⟨b,ds0',k',ds,q1,by rw[M4,if_neg z];exact q2,q3,q4⟩
          ·rw[gs]at q1 q2
           exact .inr ⟨q1,λb ds q=>by rw[M4,if_neg z];exact q2 b ds q⟩
noncomputable def Lr:Option (m_)->Bool
 | some (some (.ls _ _))=>true
 | _=>false
def Yj (m:o_)(c:Ev)(fps:Nat->u9):Nat->u9:=λk=>match A4a m k with
 | some i=>if Lr c[i]? then fps i else []
 | none=>[]
theorem Ae5 (h:A4a m k=some i):(k,i)∈m:=by
 obtain⟨p,b,a⟩:=bc.mp h
 grind
theorem Js (h:a∈Yj m c b k):∃i,(k,i)∈m/\Lr c[i]?=true/\a∈b i:=by
 unfold Yj at h
 cases e:A4a m k with
 | none=>grind
 | some i =>
  rw[e]at h
  have h:a∈if Lr _ then b i else []:=h
  by_cases q:Lr c[i]?=true
  ·rw[if_pos q]at h;exact⟨i,Ae5 e,q,h⟩
  grind
theorem Bv0 (a:(m.map (·.1)).Nodup) (h:(k,i)∈m):A4a m k=some i:=by
 cases e:A4a m k with
 | none =>
  unfold A4a at e;rw[Option.map_eq_none_iff]at e
  grind
 | some j=>rw[A6o a h (Ae5 e)]
def A5f (m:o_)(c:Ev)(fps fpsJ:Nat->u9):Nat->u9:=λi=>if Lr c[i]? then (match inn m i with
 | some k=>fpsJ k
 | none=>fps i) else fps i
section
variable {K:q9}{β β':Nat->V}{W W':Wo}{c cI cI' cO:Ev}{σ σI σI':St}{m:o_}{fp:u9}
structure Lent (K:q9) (Hf:Hp) (m:o_) (c:Ev) (σ:St) (β':Nat->V) (cI:Ev) (σI:St):Prop where
 n1:(m.map (·.1)).Nodup
 n2:(m.map (·.2)).Nodup
 len:cI.length=σI.length
 at_:∀k o,cI[k]?=some (some o)->(o.own=false/\(∀i,(k,i)∈m->Lr c[i]?=false)/\(∃v,σI[k]?=some (some v)/\RepN K Hf o v))\/∃i b ds v,(k,i)∈m/\c[i]?=some (some (.ls b ds))/\o=.ls true ds/\σ[i]?=some (some v)/\σI[k]?=some (some v)/\β' k=v
theorem Lent.rep (L:Lent K W.Hf m c σ β' cI σI)(R:Rep K β W c σ):Rep K β' ⟨W.Hf,W.H,Yj m c W.fps⟩ cI σI:=by
 refine⟨R.sub,L.len,λk o e=>?_,λk l a B C=>?_,λk a h=>?_⟩
 ·rcases L.at_ k o e with ⟨n,s,v,p,r⟩ | ⟨i,b,x,v,E,w,rfl,J,p,A⟩
  ·refine⟨v,p,?_,λq=>?_⟩
   ·have g:∀t ,t=[]->RepO K _ W.H o v t:=λt z=>by
     cases o with
     | ls b x=>exact nomatch n
     | im d=>exact⟨z,r⟩
     | sc d=>exact⟨z,r⟩
     | ty d=>exact⟨z,r⟩
    refine g _ ?_
    show Yj m c _ k=[]
    unfold Yj
    cases q:A4a m k with
    | none=>rfl
    | some i =>
     show (if Lr _ then W.fps i else [])=[]
     rw[s i (Ae5 q)]
     rfl
   ·cases o with
    | ls b x=>exact nomatch n
    | im d=>exact nomatch q
    | sc d=>exact nomatch q
    | ty d=>exact nomatch q
  ·obtain⟨v',f,r,_⟩:=R.get i _ w
   cases (show some _=some _ from f.symm.trans J)
   refine⟨v,p,?_,λ_=>A.symm⟩
   obtain⟨a,F,G,D,I⟩:=r
   refine⟨a,F,G,?_,I⟩
   show Yj m c _ k=[a]
   unfold Yj;rw[Bv0 L.n1 E]
   show (if Lr _ then W.fps i else [])=[a]
   rw[w];exact D
 ·obtain⟨i,H,_,u⟩:=Js B
  obtain⟨j,M,_,y⟩:=Js C
  cases R.dis i j a u y
  have f:=Yz L.n2 M;rw[(Yz L.n2 H)]at f;exact cG f
 ·obtain⟨i,_,_,u⟩:=Js h
  exact R.own i a u
theorem Br4 (h:Lr x=true):∃b ds,x=some (some (.ls b ds)):=by
 match x,h with
 | some (some (.ls b _)),_=>grind
theorem Lent.back (L:Lent K W.Hf m c σ β' cI σI)(R:Rep K β W c σ)(I:Rep K β' W' cI' σI')(st:Stp (Wo.S ⟨W.Hf,W.H,Yj m c W.fps⟩) W.Hf W.H (orS W'.S fp) W'.Hf W'.H)(hb:Gx cI' m c=some cO)
 (H:∀k i b J v,(k,i)∈m->c[i]?=some (some (.ls b J))->σ[i]?=some (some v)->β' k=v) (Q:∀a∈fp,¬ W'.S a) :
 ∃W2:Wo,W2.Hf=W'.Hf/\W2.H=W'.H/\Rep K β W2 cO σ/\Stp W.S W.Hf W.H (orS W2.S fp) W'.Hf W'.H/\∀a∈fp,¬ W2.S a:=by
 obtain⟨hl,hg⟩:=Xj L.n2 hb
 have t:∀k a,a∈W'.fps k->(∃i,(∃l,(l,i)∈m)/\Lr c[i]?=true/\a∈W.fps i)\/W.H a=none:=λk a h=>by
  rcases st.fr a (.inl ⟨k,h⟩) with ⟨l,q⟩ | q
  ·obtain⟨i,s,x,g⟩:=Js q
   exact .inl ⟨i,⟨l,s⟩,x,g⟩
  ·exact .inr q
 have d:∀i a,a∈W.fps i->(Lr c[i]?=true->inn m i=none)->¬ Wo.S ⟨W.Hf,W.H,Yj m c W.fps⟩ a:=λi a h n ⟨k,q⟩=>by
  obtain⟨j,s,x,g⟩:=Js q
  cases (R.dis i j a h g)
  have:=n x;rw[Yz L.n2 s]at this;cases this
 have D:∀i a,a∈A5f m c W.fps W'.fps i->(∃k,inn m i=some k/\Lr c[i]?=true/\a∈W'.fps k)\/(a∈W.fps i/\(Lr c[i]?=true->inn m i=none)):=λi a h=>by
  have h:a∈if Lr c[i]? then (match inn m i with | some k=>W'.fps k | none=>W.fps i) else W.fps i:=h
  by_cases q:Lr c[i]?=true
  ·rw[if_pos q]at h
   cases e:inn m i with
   | none=>rw[e]at h;exact .inr ⟨h,λ_=>rfl⟩
   | some k=>rw[e]at h;exact .inl ⟨k,rfl,q,h⟩
  ·rw[if_neg q]at h;exact .inr ⟨h,λz=>absurd z q⟩
 have p:∀i k a,a∈W.fps i->(Lr c[i]?=true->inn m i=none)->a∈W'.fps k->False:=λi k a h n V=>by
  rcases t k a V with ⟨j,⟨l,s⟩,x,g⟩ | q
  ·cases (R.dis i j a h g)
   have:=n x;rw[Yz L.n2 s]at this;cases this
  ·obtain⟨_,o,e,_⟩:=R.own i a h
   rw[q]at e;cases e
 refine⟨⟨W'.Hf,W'.H,A5f m c W.fps W'.fps⟩,rfl,rfl,⟨I.sub,hl.trans R.len,λi o e=>?_,λi j a Z T=>?_,λi a h=>?_⟩,⟨st.fz,λa o e n=>st.kp a o e λ⟨k,q⟩=>?_,λa o e F n q=>st.nf a o e F (λzz=>?_) q,λa h=>?_⟩,λa C ⟨i,h⟩=>?_⟩
 ·rcases hg i with ⟨b,N,k,J,s,x,g,U⟩ | ⟨s,x⟩
  ·rw[U]at e;cases e
   obtain⟨v,M,r,P⟩:=R.get i _ s;obtain⟨X,e1',r',O⟩:=I.get k _ g;have S:=O rfl;rw[H k i b N v (Ze x) s M]at S;subst S
   refine⟨X,M,?_,P⟩
   obtain⟨a,Y,A,E,G⟩:=r'
   refine⟨a,Y,A,?_,G⟩
   show A5f m c W.fps W'.fps i=[a]
   unfold A5f;rw[s,x];exact E
  ·rw[s]at e
   obtain⟨v,M,r,P⟩:=R.get i _ e
   refine⟨v,M,?_,P⟩
   have n:Lr c[i]?=true->inn m i=none:=λz=>by
    obtain⟨b,J,z⟩:=Br4 z;exact x b J z
   have ef:A5f m c W.fps W'.fps i=W.fps i:=by
    unfold A5f
    by_cases q:Lr c[i]?=true
    ·rw[if_pos q,n q]
    ·rw[if_neg q]
   show RepO K W'.Hf W'.H o v (A5f m c W.fps W'.fps i)
   rw[ef]
   refine r.mono st.fz λa C=>?_
   obtain⟨z,u,y,F⟩:=R.own i a C;exact⟨st.nf a u y F (d i a C n) z,(st.kp a u y (d i a C n)).trans y.symm⟩
 ·rcases D i a Z with ⟨k,f,w,B⟩ | ⟨f,w⟩
  ·rcases D j a T with ⟨l,A,E,G⟩ | ⟨A,E⟩
   ·cases I.dis k l a B G
    exact A6o L.n1 (Ze f) (Ze A)
   ·exact(p j k a A E B).elim
  ·rcases D j a T with ⟨l,A,E,G⟩ | ⟨A,E⟩
   ·exact(p i l a f w G).elim
   ·exact R.dis i j a f A
 ·rcases D i a h with ⟨k,f,w,B⟩ | ⟨f,w⟩
  ·exact I.own k a B
  ·obtain⟨z,u,y,F⟩:=R.own i a f
   exact⟨st.nf a u y F (d i a f w) z,u,st.kp a u y (d i a f w),F⟩
 ·obtain⟨i,_,_,g⟩:=Js q
  exact n ⟨i,g⟩
 ·obtain⟨k,q'⟩:=zz
  obtain⟨i,_,_,g⟩:=Js q';exact n ⟨i,g⟩
 ·rcases h with ⟨i,h⟩ | h
  ·rcases D i a h with ⟨k,f,w,B⟩ | ⟨f,w⟩
   ·rcases t k a B with ⟨j,_,_,q⟩ | q
    ·exact .inl ⟨j,q⟩
    ·exact .inr q
   ·exact .inl ⟨i,f⟩
  ·rcases st.fr a (.inr h) with ⟨k,q⟩ | q
   ·obtain⟨i,_,_,g⟩:=Js q
    exact .inl ⟨i,g⟩
   ·exact .inr q
 ·rcases D i a h with ⟨k,f,w,B⟩ | ⟨f,w⟩
  ·exact Q a C ⟨k,B⟩
  ·rcases st.fr a (.inr C) with q | q
   ·exact d i a f w q
   ·obtain⟨_,u,y,_⟩:=R.own i a f
    rw[q]at y;cases y
end
inductive SR where
 | nx (c:Ev)
 | rt (p:PV) (c:Ev)
 | bk (c:Ev)
 | ct (c:Ev)
 | bad
def zU (K:q9)(β:Nat->V)(W:Wo)(D:Ends):SR->Prop
 | .nx c'=>∀σ' W',Stp W.S W.Hf W.H W'.S W'.Hf W'.H->Rep K β W' c' σ'->D.nx σ' W'.H
 | .bk c'=>∀σ' W',Stp W.S W.Hf W.H W'.S W'.Hf W'.H->Rep K β W' c' σ'->D.bk σ' W'.H
 | .ct c'=>∀σ' W',Stp W.S W.Hf W.H W'.S W'.Hf W'.H->Rep K β W' c' σ'->D.ct σ' W'.H
 | .rt p c'=>∀σ' v W' fp,Stp W.S W.Hf W.H (orS W'.S fp) W'.Hf W'.H->Rep K β W' c' σ'->Ii K W' σ' p v fp->D.rt v W'.H
 | .bad=>False
def MS (K:q9)(T:TS)(f:Ev->SR):Prop:=∀(β:Nat->V) (W:Wo) (c:Ev) (σ:St) (D:Ends),Rep K β W c σ->zU K β W D (f c)->T D σ W.H
def MG (K:q9)(g:TG)(cg:n8):Prop:=∀(β:Nat->V) (W:Wo) (c:Ev) (σ:St) (p:PV) (v:V) (fp:u9) (k:St->Hp->Prop),Rep K β W c σ->Ii K W σ p v fp ->
 (cg p c).sat (λ_ c'=>∀σ' W',Stp (orS W.S fp) W.Hf W.H W'.S W'.Hf W'.H->Rep K β W' c' σ'->k σ' W'.H)->g v σ W.H k
def MGs (K:q9)(g:TGs)(cg:w6->Ev->R Unit):Prop:=∀(β:Nat->V) (W:Wo) (c:Ev) (σ:St) (ds:w6) (vs:l_) (k:St->Hp->Prop),Rep K β W c σ->TrL W.Hf ds vs ->
 (cg ds c).sat (λ_ c'=>∀σ' W',Stp W.S W.Hf W.H W'.S W'.Hf W'.H->Rep K β W' c' σ'->k σ' W'.H)->g vs σ W.H k
noncomputable def R.toS {α:Type} (r:R α) (k:α->Ev->SR):SR:=match r with
 | .ok a c=>k a c
 | .bad=>.bad
section
variable {K:q9}{β:Nat->V}{W W':Wo}{c c' cI cO:Ev}{σ σ':St}{D:Ends}{Hf H:Hp}{o:O}{v:V}{fp:u9}
theorem Gd {r:R b}{k:b->Ev->SR}(h:zU K β W D (r.toS k)):r.sat λa c=>zU K β W D (k a c):=by
 cases r with
 | ok a c=>exact h
 | bad=>exact h
theorem zU.step (h:zU K β W D r) (st:Stp W.S W.Hf W.H W'.S W'.Hf W'.H):zU K β W' D r:=by
 cases r with
 | nx c=>exact λb d a R=>h _ _ (st.trans a) R
 | bk c=>exact λb d a R=>h _ _ (st.trans a) R
 | ct c=>exact λb d a R=>h _ _ (st.trans a) R
 | rt p c=>exact λb v d e a R r=>h _ v _ _ (st.trans a) R r
 | bad=>exact h
noncomputable def Ao (f g:Ev->SR):Ev->SR:=λc=>match f c with
 | .nx c=>g c
 | r=>r
theorem Dw (h1:MS K t f) (h2:MS K u g):MS K (U3 t u) (Ao f g):=by
 intro k W c i D R l
 refine h1 _ W c _ _ R ?_
 unfold Ao at l
 cases e:f c with
 | nx a=>rw[e]at l;exact λh j d b=>h2 _ _ _ _ D b (zU.step l d)
 | rt p a=>rw[e]at l;exact l
 | bk a=>rw[e]at l;exact l
 | ct a=>rw[e]at l;exact l
 | bad=>rw[e]at l;exact l
noncomputable def Ck:Ev->SR:=λc=>.nx c
theorem Qf:MS K Bh1 Ck:=λb W c a D R l=>l _ W Stp.refl R
noncomputable def Ko:Ev->SR:=λ_=>.bad
theorem Ay6:MS K A5d Ko:=λb W c a D R l=>l.elim
def En (f:m7):Ev->SR:=λc=>(f c).toS λ_ c=>.nx c
theorem Sv (h:ME K a f):MS K (Yd a) (En f):=λg W c i D R l =>
 h.toV _ W c _ _ R ((Gd l).mono λp k e v j d b _=>e _ _ d b)
def Cm (f:m7):Ev->SR:=λc=>(f c).toS λp c=>.rt p c
theorem Hn (h:ME K a f):MS K (Bx7 a) (Cm f):=λi W c n D R l =>
 h _ W c _ _ R ((Gd l).mono λp m e v j k d g b=>e _ v _ _ d g b)
noncomputable def Xy:Ev->SR:=λc=>.rt (.o (.im .none)) c
def cIf (t:m6)(f g:Ev->SR):Ev->SR:=λc=>(t c).toS λb c=>if b=true then f c else g c
theorem Z9 (h:MT K d ft) (h1:MS K t f) (h2:MS K u g):MS K (Bk9 d t u) (cIf ft f g):=λk W c j D R l =>
 h
  _ W c _ _ R ((Gd l).mono λb n i m e a=>by
  cases b with
  | true=>exact h1 _ _ _ _ D a (zU.step i e)
  | false=>exact h2 _ _ _ _ D a (zU.step i e))
def cgN (i:Nat):n8:=λp c=>match p with
 | .o (.ls _ ds)=>.ok () (c.set i (some (.ls false ds)))
 | .o o=>.ok () (c.set i (some o))
 | .sl j=>(frz (.sl j) c).bind λd c=>.ok () (c.set i (some (.im d)))
theorem B1u (h:Wo.S ⟨Hf,H,clr W.fps i⟩ a):W.S a:=by
 obtain⟨j,h⟩:=h;exact⟨j,(Hh h).1⟩
theorem Bk : MG K (J5 i) (cgN i):=by
 intro w W c x p v u k R r s
 have f:∀{o:O} {g:Wo} {m:Ev},Rep K w g m x->o.own=false->RepN K g.Hf o v->Stp (orS W.S u) W.Hf W.H g.S _ g.H->g.H=W.H->(∀σ' W',Stp _ _ _ W'.S W'.Hf W'.H->Rep K _ W' _ σ'->k σ' W'.H)->k _ W.H:=λ{o g m} h n r l e s=>by
  rw[<- e]
  exact s _ ⟨g.Hf,g.H,clr _ i⟩ (l.less λa z=>B1u z) (h.setN r n)
 cases p with
 | sl j =>
  obtain⟨rfl,e⟩:=r
  obtain⟨d,m,g,e1,A,y,l,h,t⟩:=N8 R (show RepA K _ _ (.sl j) v from e) s.bnd
  exact f h (o:=.im d) rfl t (l.up λa z=>.inl z) y A
 | o o =>
  cases o with
  | im d=>exact f R rfl r.1.2 (Stp.refl.up λa z=>.inl z) rfl s
  | sc d=>exact f R rfl r.1.2 (Stp.refl.up λa z=>.inl z) rfl s
  | ty d=>exact f R rfl r.1.2 (Stp.refl.up λa z=>.inl z) rfl s
  | ls b ds =>
   refine s _ ⟨W.Hf,W.H,λj=>if j=i then u else W.fps j⟩ ⟨Same.refl _,λa o e _=>e,λa o e _ _ q=>q,λa z=>?_⟩ (R.setO r.1 r.2 rfl)
   obtain⟨j,z⟩:=z
   have z:a∈if j=i then u else W.fps j:=z
   split at z
   ·grind
   ·exact .inl (.inl ⟨j,z⟩)
noncomputable def Gn:w6->Ev->R Unit:=λds c=>match ds with
 | []=>.ok () c
 | _=>.bad
def Br (g:n8)(gs:w6->Ev->R Unit):w6->Ev->R Unit:=λds c=>match ds with
 | d::ds=>(g (.o (.im d)) c).bind λ_ c=>gs ds c
 | []=>.bad
theorem U4:MGs K Ba5 Gn:=λf W c e a b k R t s=>by
 cases a with
 | nil=>cases (t);exact⟨rfl,s _ W Stp.refl R⟩
 | cons d r=>trivial
theorem Ha (h1:MG K t g) (h2:MGs K u f):MGs K (Aj4 t u) (Br g f):=λβ W c σ x vs k R j s=>by
 cases x with
 | nil=>trivial
 | cons d r =>
  obtain⟨v,l,rfl,m,n⟩:=j
  refine⟨v,l,rfl,h1 _ W c _ (.o (.im d)) v _ _ R ⟨⟨rfl,m⟩,λa z=>nomatch z⟩ (s.bnd.mono λ_ c1 o i W1 b q=>?_)⟩
  have b:=b.up (S2:=W.S) λa z=>by
   grind
  exact h2 _ _ _ _ r _ k q (TrL.same b.fz n) (o.mono λ_ c2 p w W2 e h=>p _ _ (b.trans e) h)
noncomputable def cgT (n:Nat) (gs:w6->Ev->R Unit):n8:=λp c=>match p with
 | .o (.im (.tuple ds))=>if ds.length=n then gs ds c else .bad
 | _=>.bad
theorem Ab1 (h:MGs K t d):MG K (Bl0 K n t) (cgT n d):=by
 intro u W c w p v q k R r s
 match p,r,s with
 | .o (.im (.tuple ds)),r,s =>
  obtain⟨⟨b,a,j,b,l,f⟩,_⟩:=r
  have s:(if ds.length=n then d _ c else .bad:U.R _).sat _:=s
  by_cases e:ds.length=n
  ·rw[if_pos e]at s
   refine⟨a,j,b,SqT.of (R.sub _ _ l),by rw[<- f.length];exact e,h _ W c _ _ _ k R f (s.mono λ_ y i m x o g=>i _ _ (o.up λa z=>.inl z) g)⟩
  ·rw[if_neg e]at s;trivial
 | .o (.im .none),r,s=>trivial
 | .o (.im (.bool _)),r,s=>trivial
 | .o (.im (.int _)),r,s=>trivial
 | .o (.im (.str _)),r,s=>trivial
 | .o (.im (.list _)),r,s=>trivial
 | .o (.im (.dict _)),r,s=>trivial
 | .o (.ls _ _),r,s=>exact s.elim
 | .o (.sc _),r,s=>exact s.elim
 | .o (.ty _),r,s=>exact s.elim
 | .sl _,r,s=>trivial
def Bo (f:m7)(g:n8):Ev->SR:=λc=>(f c).toS λp c=>(g p c).toS λ_ c=>.nx c
theorem G6 (h:ME K b f) (hg:MG K t g):MS K (Xd b t) (Bo f g):=λx W c o D R l =>
 h _ W c _ _ R ((Gd l).mono λp q j v s u k e i=>hg _ _ _ _ p v _ _ e i ((Gd j).mono λ_ r m n w a d=>m _ _ (k.trans a) d))
def Ar5 (J:It)(Hf:Hp)(ds:w6):Prop:=∀(i:Nat) (Hf' H:Hp),Same Hf Hf'->Same Hf' H->(i=ds.length->J.stop i H) /\
 ∀d,ds[i]?=some d->J.go i H/\∀x H',J.yld i H x H'->∃Hf2,Stp (λ_=>False) Hf' H (λ_=>False) Hf2 H'/\Same Hf2 H'/\Tr Hf2 d x
def MI (K:q9)(wi:TI)(fi:Ev->R (w6)):Prop:=∀(β:Nat->V) (W:Wo) (c:Ev) (σ:St) (k:It->Hp->Prop),Rep K β W c σ ->
 (fi c).sat (λds c'=>∀J W',Stp W.S W.Hf W.H W'.S W'.Hf W'.H->Rep K β W' c' σ->Ar5 J W'.Hf ds->k J W'.H)->wi σ W.H k
noncomputable def forL (g:n8) (body:Ev->SR):w6->Ev->SR
 | [],c=>.nx c
 | d::ds,c=>match g (.o (.im d)) c with
  | .bad=>.bad
  | .ok _ c=>match body c with
   | .nx c=>forL g body ds c
   | .ct c=>forL g body ds c
   | .bk c=>.nx c
   | .rt p c=>.rt p c
   | .bad=>.bad
def Nf (fi:Ev->R (w6))(g:n8)(body:Ev->SR):Ev->SR:=λc=>(fi c).toS λds c=>forL g body ds c
theorem Tf {a:Type}{l:List a} (h:i<l.length):l.drop i=l[i]::l.drop (i+1):=fY h
theorem Ar4 {V:TS} (hi:MI K X fi) (hg:MG K t g) (hb:MS K V body):MS K (By1 X t V) (Nf fi g body):=by
 intro C W c I D R l
 refine hi C W c I _ R ((Gd l).mono λk c1 l1 J T N R1 it=>?_)
 refine⟨λi m I H=>∃d y,d.H=H/\Rep K C d y I/\m=k.length-i/\i<=k.length/\Same T.Hf d.Hf/\zU K C d D (forL g body (k.drop i) y),⟨_,T,c1,rfl,R1,rfl,aD _,Same.refl _,zU.step l1 N⟩,?_⟩
 rintro i m I H ⟨d,y,rfl,O,rfl,hle,Y,h⟩
 obtain⟨A,Q⟩:=it i d.Hf d.H Y O.sub
 by_cases lt:i<k.length
 ·obtain⟨q1,q2⟩:=Q k[i] (cj lt)
  refine .inr ⟨q1,λM s=>∃d y,d.H=s/\Rep K C d y M/\Same T.Hf d.Hf/\zU K C d D (forL g body (k.drop (i+1)) y),λM s ⟨U,Z,e3,R3,s3,l3⟩=>⟨k.length-(i+1),by omega,U,Z,e3,R3,rfl,by omega,s3,l3⟩,λx s hy=>?_⟩
  obtain⟨n,j,G,tx⟩:=q2 x s hy
  have P:Stp d.S d.Hf d.H (Wo.S ⟨n,s,d.fps⟩) n s:=⟨j.fz,λa o e _=>j.kp a o e λz=>z,λa o e mu _ q=>j.nf a o e mu (λz=>z) q,λa z=>.inl z⟩
  rw[Tf lt]at h;unfold forL at h
  refine hg C ⟨n,s,d.fps⟩ y I (.o (.im _)) x _ _ (j.rep O G) ⟨⟨rfl,tx⟩,λa z=>nomatch z⟩ ?_
  cases eg:g _ _ with
  | bad=>rw[eg]at h;exact h.elim
  | ok u Z =>
   rw[eg]at h;intro σ3 U w S
   have w:=w.up λa z=>by
    rcases z with z | z
    ·exact z
    ·cases z
   have f:=P.trans w;have F := Y.trans f.fz
   refine hb _ _ _ _ _ S ?_
   cases ebd:body _ with
   | nx E=>simp only[ebd]at h;exact λr L b B=>⟨L,E,rfl,B,F.trans b.fz,zU.step h (f.trans b)⟩
   | ct E=>simp only[ebd]at h;exact λr L b B=>⟨L,E,rfl,B,F.trans b.fz,zU.step h (f.trans b)⟩
   | bk E=>simp only[ebd]at h;exact λr L b B=>h _ _ (f.trans b) B
   | rt p E=>simp only[ebd]at h;exact λr v L fp b B r4=>h _ v _ _ (f.trans b) B r4
   | bad=>simp only[ebd]at h;exact h.elim
 ·have e:i=k.length:=by omega
  subst e;rw[fZ]at h;exact .inl ⟨A rfl,h _ _ Stp.refl O⟩
def Gf (g:n8)(ft:m6)(fe:m7):w6->w6->Ev->R (w6)
 | [],acc,c=>.ok acc c
 | d::ds,acc,c=>(g (.o (.im d)) c).bind λ_ c=>(ft c).bind λb c=>if b=true then (fe c).bind λp c=>(frz (nrm p) c).bind λy c=>Gf g ft fe ds (acc++[y]) c else Gf g ft fe ds acc c
def cIn (idx:n6)(c:Ev):Ev:=idx.map λo=>o.bind λi=>((c[i]?).join).map (O.flag true)
noncomputable def pairsOf:Nat->n6->o_
 | _,[]=>[]
 | k,none::r=>pairsOf (k+1) r
 | k,some i::r=>(k,i)::pairsOf (k+1) r
def cLC (idx:n6)(fi:Ev->R (w6))(g:n8)(ft:m6)(fe:m7):m7:=λc=>(fi c).bind λds c =>
 if ds.length<=16000000 then match Gf g ft fe ds [] (cIn idx c) with
 | .bad=>.bad
 | .ok acc cI=>match Gx cI (pairsOf 0 idx) c with
  | none=>.bad
  | some c=>.ok (.o (.ls false acc)) c
 else .bad
theorem Bn0 (h:l+1<=k):k-(l+1)+1=k-l:=by omega
theorem Hy {k i:Nat}:∀{l:Nat}{idx:n6},(k,i)∈pairsOf l idx->l<=k/\idx[k-l]?=some (some i)
 | l,[],h=>by cases h
 | l,none::r,h=>by
  obtain⟨q1,q2⟩:=Hy (l:=l+1) (idx:=r) h
  refine⟨fB q1,?_⟩
  rw[show k-l=(k-(l+1))+1 from (Bn0 q1).symm,bO];exact q2
 | l,some j::r,h=>by
  rcases au.mp (show (k,i)∈(l,j)::pairsOf (l+1) r from h) with e | e
  ·cases e;exact⟨ak _,by rw[cA];rfl⟩
  ·obtain⟨q1,q2⟩:=Hy (l:=l+1) (idx:=r) e
   refine⟨fB q1,?_⟩
   rw[show k-l=(k-(l+1))+1 from (Bn0 q1).symm,bO];exact q2
theorem Tg {k i:Nat}:∀{l:Nat}{idx:n6},idx[k]?=some (some i)->(k+l,i)∈pairsOf l idx
 | l,[],h=>by simp at h
 | l,none::r,h=>by
  cases k with
  | zero=>simp at h
  | succ k =>
   rw[bO]at h;have:=Tg (l:=l+1) (idx:=r) h
   rw[show k+1+l=k+(l+1) by omega];exact this
 | l,some j::r,h=>by
  cases k with
  | zero=>simp at h;subst h;rw[aG];exact .head _
  | succ k =>
   rw[bO]at h;have:=Tg (l:=l+1) (idx:=r) h
   rw[show k+1+l=k+(l+1) by omega];exact .tail _ this
theorem Wa:∀{l:Nat}{idx:n6},((pairsOf l idx).map (·.1)).Nodup
 | l,[]=>eQ
 | l,none::r=>Wa (l:=l+1) (idx:=r)
 | l,some j::r=>by
  show (l::(pairsOf (l+1) r).map (·.1)).Nodup
  rw[eF]
  refine⟨λh=>?_,Wa⟩
  obtain⟨⟨k,i⟩,h1,h2⟩:=aA.mp h;have:=(Hy h1).1;have h2:k=l:=h2;omega
theorem B5c (h:x.join=some o):x=some (some o):=by
 cases x with
 | none=>grind
 | some y=>simp_all
theorem Bx9 {k:Nat} (h:(cIn idx c)[k]?=some (some o)):∃i a,idx[k]?=some (some i)/\c[i]?=some (some a)/\o=a.flag true:=by
 unfold cIn at h;rw[bD]at h;obtain⟨x,e,b⟩:=bc.mp h
 cases x with
 | none=>grind
 | some i =>
  obtain⟨a,f,d⟩:=bc.mp b
  grind
theorem A6f {k i:Nat} (h1:idx[k]?=some (some i)) (h2:a[i]?=some (some v)):(cst idx a)[k]?=some (some v):=by
 unfold cst
 grind
theorem Bs2 {idx:n6}(R:Rep K β W c σ)(hnd:((pairsOf 0 idx).map (·.2)).Nodup):Lent K W.Hf (pairsOf 0 idx) c σ (λk=>(((cst idx σ)[k]?).join).getD .non) (cIn idx c) (cst idx σ) where
 n1:=Wa
 n2:=hnd
 len:=by unfold cIn cst;rw[aj,aj]
 at_:=λk o h=>by
  obtain⟨i,o',h1,h2,rfl⟩:=Bx9 h;obtain⟨v,e,r,_⟩:=R.get i o' h2;have hs:=A6f h1 e
  have one:∀j,(k,j)∈pairsOf 0 idx->j=i:=λj hj=>by
   have:=(Hy hj).2;rw[fC,h1]at this;cases this;rfl
  have nol:Lr c[i]?=false->∀j,(k,j)∈pairsOf 0 idx->Lr c[j]?=false:=λq j hj=>by rw[one j hj];exact q
  cases o' with
  | im d=>exact .inl ⟨rfl,nol (by rw[h2];rfl),v,hs,r.2⟩
  | sc d=>exact .inl ⟨rfl,nol (by rw[h2];rfl),v,hs,r.2⟩
  | ty d=>exact .inl ⟨rfl,nol (by rw[h2];rfl),v,hs,r.2⟩
  | ls b ds=>exact .inr ⟨i,b,ds,v,Tg (l:=0) h1,h2,rfl,e,hs,by rw[hs];rfl⟩
theorem Bu2 (hnd:((pairsOf 0 idx).map (·.2)).Nodup) (hg:MG K t g) (ht:MT K tc ft) (he:ME K te fe)
 (st1:Stp W.S W.Hf W.H W1.S W1.Hf W1.H) (R1:Rep K β W1 c1 σ)
 (it:∀(i:Nat) (h:Wo),Stp (Wo.S ⟨W1.Hf,W1.H,Yj (pairsOf 0 idx) c1 W1.fps⟩) W1.Hf W1.H h.S h.Hf h.H->Same h.Hf h.H->(i=ds.length->J.stop i h.H) /\
  ∀d,ds[i]?=some d->J.go i h.H/\∀x E,J.yld i h.H x E->∃s,Stp (λ_=>False) h.Hf h.H (λ_=>False) s E/\Same s E/\Tr s d x)
 (s1:(if ds.length<=16000000 then match Gf g ft fe ds [] (cIn idx c1) with
  | .bad=>.bad
  | .ok f I=>match Gx I (pairsOf 0 idx) c1 with
   | none=>.bad
   | some c=>.ok (.o (.ls false f)) c
  else .bad:R PV).sat λp c'=>∀v j w,Stp W.S W.Hf W.H (orS j.S w) j.Hf j.H->Rep K β j c' σ->Ii K j σ p v w->Q v j.H):tLC idx (λ_ H k=>k J H) t tc te σ W1.H Q:=by
 unfold tLC
 dsimp only
 by_cases hl:ds.length<=16000000
 ·rw[if_pos hl]at s1
  have L:=Bs2 (idx:=idx) R1 hnd
  let C:Nat->V:=λk=>(((cst idx σ)[k]?).join).getD .non
  let F:Wo:=⟨W1.Hf,W1.H,Yj (pairsOf 0 idx) c1 W1.fps⟩
  let B:U.R (w6)->Prop:=λr=>match r with
   | .bad=>False
   | .ok f I=>match Gx I (pairsOf 0 idx) c1 with
    | none=>False
    | some c=>∀v j w,Stp W.S W.Hf W.H (orS j.S w) j.Hf j.H->Rep K β j c σ->Ii K j σ (.o (.ls false f)) v w->Q v j.H
  have s2:B (Gf g ft fe ds [] (cIn idx c1)):=by
   show match Gf g ft fe ds [] (cIn idx c1) with
    | .bad=>False
    | .ok f I=>match Gx I (pairsOf 0 idx) c1 with
     | none=>False
     | some c=>∀v j w,Stp W.S W.Hf W.H (orS j.S w) j.Hf j.H->Rep K β j c σ->Ii K j σ (.o (.ls false f)) v w->Q v j.H
   cases e1:Gf g ft fe ds [] (cIn idx c1) with
   | bad=>rw[e1]at s1;exact s1.elim
   | ok f I =>
    simp only[e1]at s1
    show match Gx I (pairsOf 0 idx) c1 with
     | none=>False
     | some c=>∀v j w,Stp W.S W.Hf W.H (orS j.S w) j.Hf j.H->Rep K β j c σ->Ii K j σ (.o (.ls false f)) v w->Q v j.H
    cases e2:Gx I (pairsOf 0 idx) c1 with
    | none=>simp only[e2]at s1;exact s1.elim
    | some D=>simp only[e2]at s1;exact s1
  refine⟨λi m A S H=>∃h D f,h.H=H/\Rep K C h D A/\m=ds.length-i/\i<=ds.length/\S.length<=i/\Stp F.S F.Hf F.H h.S h.Hf h.H/\TrL h.Hf f S/\B (Gf g ft fe (ds.drop i) f D),
   ⟨_,F,cIn idx c1,[],rfl,(L.rep R1),rfl,aD _,ak _,Stp.refl,rfl,s2⟩,?_⟩
  rintro i m A S H ⟨h,D,f,rfl,R2,rfl,hle,hvs,N,ta,l⟩
  obtain⟨P,hgo⟩:=it i h N R2.sub
  by_cases lt:i<ds.length
  ·obtain⟨q1,q2⟩:=hgo ds[i] (cj lt)
   refine .inr ⟨q1,aC (bu hvs (aC lt hl)) (by decide),λA S E=>∃h D f,h.H=E/\Rep K C h D A/\S.length<=i+1/\Stp F.S F.Hf F.H h.S h.Hf h.H/\TrL h.Hf f S/\B (Gf g ft fe (ds.drop (i+1)) f D),
    λA acc' E ⟨O,X,Y,e3,R3,h3,n,t3,f3⟩=>⟨ds.length-(i+1),by omega,O,X,Y,e3,R3,rfl,by omega,h3,n,t3,f3⟩,λx E hy=>?_⟩
   obtain⟨s,n,sub3,tx⟩:=q2 x E hy
   have stx:Stp h.S h.Hf h.H (Wo.S ⟨s,E,h.fps⟩) s E:=⟨n.fz,λa o e _=>n.kp a o e λz=>z,λa o e mu _ q=>n.nf a o e mu (λz=>z) q,λa z=>.inl z⟩
   rw[Tf lt]at l;unfold Gf at l
   refine hg C ⟨s,E,h.fps⟩ D A (.o (.im ds[i])) x [] _ (n.rep R2 sub3) ⟨⟨rfl,tx⟩,λa z=>nomatch z⟩ ?_
   cases eg:g (.o (.im ds[i])) D with
   | bad=>rw[eg]at l;exact l.elim
   | ok u X =>
    rw[eg]at l
    have l:B ((ft X).bind λb c=>if b=true then (fe c).bind λp c=>(frz (nrm p) c).bind λy c=>Gf g ft fe (ds.drop (i+1)) (f++[y]) c else Gf g ft fe (ds.drop (i+1)) f c):=l
    intro σ3 O G R4
    have G:=G.up (S2:=h.S) λa z=>by
     rcases z with z | z
     ·exact z
     ·cases z
    refine ht C O X σ3 _ R4 ?_
    cases et:ft X with
    | bad=>rw[et]at l;exact l.elim
    | ok b c4 =>
     rw[et]at l;intro T st5 R5;have M:Stp F.S F.Hf F.H T.S T.Hf T.H:=N.trans (stx.trans (G.trans st5));have Z:TrL T.Hf f S:=TrL.same (stx.trans (G.trans st5)).fz ta
     cases b with
     | false=>rw[if_neg (by decide)];exact⟨T,c4,f,rfl,R5,by omega,M,Z,l⟩
     | true =>
      rw[if_pos rfl]
      have l:B ((fe c4).bind λp c=>(frz (nrm p) c).bind λy c=>Gf g ft fe (ds.drop (i+1)) (f++[y]) c):=l
      refine he.toV C T c4 σ3 _ R5 ?_
      cases ee:fe c4 with
      | bad=>rw[ee]at l;exact l.elim
      | ok p c5 =>
       rw[ee]at l
       have l:B ((frz (nrm p) c5).bind λy c=>Gf g ft fe (ds.drop (i+1)) (f++[y]) c):=l
       intro y W5 st6 R6 r6
       have fz:(frz (nrm p) c5).sat λ_ _=>True:=by
        cases ef:frz (nrm p) c5 with
        | bad=>rw[ef]at l;exact l.elim
        | ok d c=>trivial
       obtain⟨d,c6,W6,e6,_,eH,st7,R7,t7⟩:=N8 R6 r6 fz;rw[e6]at l
       refine⟨W6,c6,f++[d],eH,R7,by rw[aM,fP];omega,M.trans (st6.trans st7),(TrL.same (st6.trans st7).fz Z).app (TrL.one t7),l⟩
  ·have e:i=ds.length:=by omega
   subst e;rw[fZ]at l
   refine .inl ⟨P rfl,λp hp=>?_⟩
   have l:match Gx D (pairsOf 0 idx) c1 with
    | none=>False
    | some c=>∀v j w,Stp W.S W.Hf W.H (orS _ _) _ _->Rep K _ j c _->Ii K _ _ _ v _->Q v _:=l
   cases eb:Gx D (pairsOf 0 idx) c1 with
   | none=>simp only[eb]at l
   | some cO =>
    simp only[eb]at l
    obtain⟨O,e1,e2,R3,n,_⟩:=L.back (fp:=[]) R1 R2 (N.less λa z=>by
     rcases z with z | z
     ·exact z
     ·cases z) eb (λk i b ds v hm _ hv=>by
      have:=(Hy hm).2;rw[fC]at this
      rw[A6f this hv];rfl) λa z=>nomatch z
    have n:Stp W1.S W1.Hf W1.H O.S O.Hf O.H:=by
     rw[e1,e2];exact n.less λa z=>.inl z
    rw[<- e2]at hp ⊢
    exact New.lst (New.of R3 λv j w st R' rp=>l v _ _ (st1.trans (n.trans st)) R' rp) R3.sub (by rw[e1];exact ta) hp
 ·rw[if_neg hl]at s1;exact s1.elim
theorem R8 (d:((pairsOf 0 idx).map (·.2)).Nodup) (hi:MI K f fi) (hg:MG K t g) (ht:MT K h ft) (he:ME K j fe) :
 ME K (tLC idx f t h j) (cLC idx fi g ft fe):=by
 intro n W c o Q R s
 refine hi _ W c _ _ R (s.bnd.mono λq p l J u a k m=>?_)
 exact Bu2 d hg ht he a k (λi r e b=>m i _ _ e.fz b) l
end
inductive FR where
 | ret (o:O) (as:List O)
 | bad
abbrev m8:=List O->FR
noncomputable def resolve (p:PV) (c:Ev):Option (O×Ev):=match p with
 | .o (.ls _ ds)=>some (.ls false ds,c)
 | .o o=>some (o,c)
 | .sl i=>match c[i]? with
  | some (some (.ls false ds))=>some (.ls false ds,c.set i none)
  | some (some (.im d))=>some (.im d,c)
  | _=>none
noncomputable def Fe:List O->Ev->Option (List O)
 | [],_=>some []
 | .ls true _::r,some (.ls true ds)::c=>(Fe r c).map (.ls true ds::·)
 | .ls _ _::_,_=>none
 | o::r,_::c=>(Fe r c).map (o::·)
 | _::_,[]=>none
def Vf (as:List O)(p:PV)(c:Ev):FR:=match resolve p c with
 | none=>.bad
 | some (o,c)=>match Fe as c with
  | none=>.bad
  | some as'=>.ret o as'
def Dj (n N:Nat)(body:Ev->SR):m8:=λas=>if as.length=n then match body (as.map some++List.replicate (N-n) none) with
 | .nx c=>Vf as (.o (.im .none)) c
 | .rt p c=>Vf as p c
 | _=>.bad
 else .bad
def spP (K:q9)(F:m8):Sp:=λvs H Q _=>∃(β:Nat->V) (W:Wo) (as:List O),W.H=H/\as.length=vs.length/\Rep K β W (as.map some) (vs.map some)/\match F as with
 | .bad=>False
 | .ret o as'=>∀v W' fp,Stp W.S W.Hf W.H (orS W'.S fp) W'.Hf W'.H->Rep K β W' (as'.map some) (vs.map some)->RepO K W'.Hf W'.H o v fp->(∀a∈fp,¬ W'.S a)->Q v W'.H
section
variable {K:q9}{β:Nat->V}{W W':Wo}{c c' cO:Ev}{σ:St}{D:Ends}{Hf H:Hp}{o:O}{v:V}{fp:u9}
theorem U6:∀{as:List O}{c:Ev}{as':List O},Fe as c=some as'->as'.length=as.length/\∀(i:Nat) (o':O),as'[i]?=some o'->(o'.own=false/\as[i]?=some o')\/(∃ds ds',o'=.ls true ds'/\as[i]?=some (.ls true ds)/\c[i]?=some (some (.ls true ds')))
 | [],c,as',e=>by cases (show some []=some as' from e);exact⟨rfl,λi o' h=>by simp at h⟩
 | o::r,[],as',e=>by
  cases o with
  | ls b ds=>cases b <;> cases e
  | im d=>cases e
  | sc d=>cases e
  | ty d=>cases e
 | o::r,x::c,as',e=>by
  have go:∀o1:O,(Fe r c).map (o1::·)=some as'->((o1.own=false/\o1=o)\/(∃ds ds',o1=.ls true ds'/\o=.ls true ds/\x=some (.ls true ds'))) ->
   as'.length=(o::r).length/\∀(i:Nat) (o':O),as'[i]?=some o'->(o'.own=false/\(o::r)[i]?=some o')\/(∃ds ds',o'=.ls true ds'/\(o::r)[i]?=some (.ls true ds)/\(x::c)[i]?=some (some (.ls true ds'))):=λo1 e1 h1=>by
   obtain⟨t,e2,rfl⟩:=bc.mp e1;obtain⟨l,g⟩:=U6 e2
   refine⟨by rw[aH,aH,l],λi o' h=>?_⟩
   cases i with
   | zero =>
    cases (show some o1=some o' from h)
    rcases h1 with ⟨z1,z2⟩ | ⟨ds,ds',z1,z2,z3⟩
    ·exact .inl ⟨z1,by rw[z2];rfl⟩
    ·exact .inr ⟨ds,ds',z1,by rw[z2];rfl,by rw[z3];rfl⟩
   | succ i=>exact g i o' (by simpa using h)
  cases o with
  | ls b ds =>
   cases b with
   | false=>cases e
   | true =>
    match x,e with
    | some (.ls true ds'),e=>exact go (.ls true ds') e (.inr ⟨ds,ds',rfl,rfl,rfl⟩)
    | some (.ls false ds'),e=>cases e
    | some (.im _),e=>cases e
    | some (.sc _),e=>cases e
    | some (.ty _),e=>cases e
    | none,e=>cases e
  | im d=>exact go (.im d) e (.inl ⟨rfl,rfl⟩)
  | sc d=>exact go (.sc d) e (.inl ⟨rfl,rfl⟩)
  | ty d=>exact go (.ty d) e (.inl ⟨rfl,rfl⟩)
theorem A2m (R:Rep K β W c σ) (r:Ii K W σ p v fp) (e:resolve p c=some (o,c')) :
 ∃W2 fp2,W2.Hf=W.Hf/\W2.H=W.H/\Rep K β W2 c' σ/\RepO K W2.Hf W2.H o v fp2/\(∀a∈fp2,¬ W2.S a)/\∀a,orS W2.S fp2 a->orS W.S fp a:=by
 cases p with
 | o f =>
  have g:o=f.flag false/\c'=c:=by
   cases f with
   | ls b h=>cases e;exact⟨rfl,rfl⟩
   | im d=>cases e;exact⟨rfl,rfl⟩
   | sc d=>cases e;exact⟨rfl,rfl⟩
   | ty d=>cases e;exact⟨rfl,rfl⟩
  obtain⟨rfl,rfl⟩:=g
  refine⟨W,fp,rfl,rfl,R,?_,r.2,λa z=>z⟩
  cases f with
  | ls b h=>exact r.1
  | im d=>exact r.1
  | sc d=>exact r.1
  | ty d=>exact r.1
 | sl i =>
  obtain⟨rfl,n⟩:=r;unfold resolve at e
  cases ec:c[i]? with
  | none=>simp_all
  | some x =>
   cases x with
   | none=>grind
   | some f =>
    obtain⟨v',g,k,_⟩:=R.get i _ ec
    cases (show some _=some _ from g.symm.trans n)
    cases f with
    | sc d=>simp_all
    | ty d=>simp_all
    | im d =>
     simp only[ec]at e
     cases e
     exact⟨W,[],rfl,rfl,R,⟨rfl,k.2⟩,(λa z=>by cases z),λa z=>z⟩
    | ls b h =>
     cases b with
     | true=>simp_all
     | false =>
      simp only[ec]at e
      cases e
      refine⟨⟨W.Hf,W.H,clr _ i⟩,W.fps i,rfl,rfl,R.drop i,k,λa q ⟨j,m⟩=>?_,λa z=>?_⟩
      ·obtain⟨s,l⟩:=Hh m
       exact l (R.dis j i a s q)
      ·rcases z with z | z
       ·exact .inl (B1u z)
       ·exact .inl ⟨i,z⟩
theorem Q8 {b a:Type}{l:List b}{f:b->a}{i:Nat}{y:a}(h:(l.map f)[i]?=some y):∃x,l[i]?=some x/\f x=y:=by
 grind
theorem Bp1 {vs:l_} (t:Rep K β z (p.map some) (vs.map some)) (R:Rep K β W c σ) (S:Same z.Hf W.Hf) (e:Fe p c=some k) :
 ∃W2:Wo,W2.Hf=W.Hf/\W2.H=W.H/\Rep K β W2 (k.map some) (vs.map some)/\∀a,W2.S a->W.S a:=by
 obtain⟨E,G⟩:=U6 e
 let f:Nat->u9:=λi=>if Lr ((k.map some)[i]?) then W.fps i else []
 have g:∀i a,a∈f i->a∈W.fps i:=λi a h=>by
  grind
 have m:p.length=vs.length:=by have:=t.len;rwa [aj,aj]at this
 refine⟨⟨W.Hf,W.H,f⟩,rfl,rfl,⟨R.sub,by rw[aj,aj,E,m],λi o h=>?_,λi j a u w=>R.dis i j a (g i a u) (g j a w),λi a h=>R.own i a (g i a h)⟩,λa ⟨i,h⟩=>⟨i,g i a h⟩⟩
 obtain⟨o',u,w⟩:=Q8 h
 cases w
 rcases G i o u with ⟨n,q⟩ | ⟨A,C,rfl,J,D⟩
 ·obtain⟨v,s,r,_⟩:=t.get i o (by rw[bD,q];rfl)
  have x:f i=[]:=by
   show (if Lr _ then W.fps i else [])=[]
   rw[h]
   cases o with
   | ls b A=>exact nomatch n
   | im d=>rfl
   | sc d=>rfl
   | ty d=>rfl
  refine⟨v,s,?_,?_⟩
  ·show RepO K W.Hf W.H o v (f i)
   rw[x]
   cases o with
   | ls b A=>exact nomatch n
   | im d=>exact⟨rfl,RepN.same S r.2⟩
   | sc d=>exact⟨rfl,RepN.same S r.2⟩
   | ty d=>exact⟨rfl,RepN.same S r.2⟩
  grind
 ·obtain⟨v,s,r,B⟩:=t.get i _ (by rw[bD,J];rfl)
  obtain⟨H,F,I,y⟩:=R.get i _ D;have l:=y rfl;rw[<- (B rfl)]at l;subst l
  refine⟨H,s,?_,B⟩
  have x:f i=W.fps i:=by
   show (if Lr _ then W.fps i else [])=_
   rw[h];rfl
  show RepO K _ _ _ _ (f i)
  rw[x];exact I
theorem Bw (h:MS K T body) (hs:spP K (Dj n N.length body) vs H Q E):T { nx:=λ_ H'=>Q .non H',rt:=Q } (start N vs) H:=by
 obtain⟨u,W,j,rfl,B,m,b⟩:=hs;unfold Dj at b
 by_cases hn:j.length=n
 ·rw[if_pos hn]at b
  let D:Ev:=j.map some++List.replicate (N.length-n) none
  have R:Rep K u W D (start N vs):=by
   refine⟨m.sub,?_,λi o e=>?_,m.dis,m.own⟩
   ·show (j.map some++List.replicate (N.length-n) none).length=(vs.map some++List.replicate (N.length-vs.length) none).length
    rw[aM,aM,aj,aj,gJ,gJ,<- B,hn]
   ·have e:(j.map some++List.replicate (N.length-n) none)[i]?=some (some o):=e
    by_cases li:i<j.length
    ·rw[List.getElem?_append_left (by rw[aj];exact li)]at e
     obtain⟨v,w,r⟩:=m.get i o e
     refine⟨v,?_,r⟩
     show (vs.map some++List.replicate (N.length-vs.length) none)[i]?=_
     rw[List.getElem?_append_left (by rw[aj,<- B];exact li)];exact w
    ·rw[iz (by rw[aj];exact ie li),List.getElem?_replicate]at e
     split at e <;> cases e
  refine h u W D (start N vs) _ R ?_
  have l:∀p f c v d g,(match Vf j p f with
   | .bad=>False
   | .ret o t=>∀v W' g,Stp W.S W.Hf W.H (orS W'.S g) W'.Hf W'.H->Rep K u W' (t.map some) (vs.map some)->RepO K W'.Hf W'.H o v g->(∀a∈g,¬ W'.S a)->Q v W'.H) ->
   Stp W.S W.Hf W.H (orS d.S g) d.Hf d.H->Rep K u d f c->Ii K d c p v g->Q v d.H:=λp f c v d g b k s x=>by
   unfold Vf at b
   cases er:resolve p f with
   | none=>simp only[er]at b
   | some q =>
    obtain⟨o,U⟩:=q;simp only[er]at b
    cases ea:Fe j U with
    | none=>simp only[ea]at b
    | some t =>
     simp only[ea]at b;obtain⟨W2,S,w,C,I,J,L,M⟩:=A2m s x er
     obtain⟨O,A,y,P,F⟩:=Bp1 m I (by rw[w];exact k.fz) ea
     rw[show d.H=O.H by rw[y,C]]
     refine b v _ _ ?_ P (by rw[A,y];exact J) λa G z=>L a G (F a z)
     rw[A,y,w,C]
     exact k.less λa z=>M a (by
      rcases z with z | z
      ·exact .inl (F a z)
      ·exact .inr z)
  cases eb:body _ with
  | nx f =>
   rw[show body _=.nx _ from eb]at b
   exact λc d k s=>l _ _ _ _ _ _ b (k.less λa z=>by
    rcases z with z | z
    ·exact z
    ·cases z) s ⟨⟨rfl,rfl⟩,λa z=>nomatch z⟩
  | rt p f =>
   rw[show body _=.rt p _ from eb]at b
   exact λc v d g k s x=>l p _ _ v _ _ b k s x
  | bk f=>rw[show body _=.bk _ from eb]at b;exact b.elim
  | ct f=>rw[show body _=.ct _ from eb]at b;exact b.elim
  | bad=>rw[show body _=.bad from eb]at b;exact b.elim
 ·rw[if_neg hn]at b;exact b.elim
theorem Bv (hs:spP K (Dj n N body) vs H Q E):vs.length=n:=by
 obtain⟨d,W,c,b,e,f,a⟩:=hs;unfold Dj at a
 grind
def Tv (c:Ev):List PV->Option (List O)
 | []=>some []
 | .o o::r=>(Tv c r).map (o::·)
 | .sl i::r=>match c[i]? with
  | some (some o)=>(Tv c r).map (o.flag true::·)
  | _=>none
noncomputable def slots:List PV->n6
 | []=>[]
 | .o _::r=>none::slots r
 | .sl i::r=>some i::slots r
noncomputable def ndB:List Nat->Bool
 | []=>true
 | x::r=>!r.contains x&&ndB r
theorem Bo8:∀{l:List Nat},ndB l=true->l.Nodup
 | [],_=>eQ
 | x::r,h=>by
  obtain⟨h1,h2⟩:=aF.mp (show (!r.contains x&&ndB r)=true from h)
  rw[eF]
  exact⟨λz=>by simp[z]at h1,Bo8 h2⟩
def Lx (F:m8)(ps:List PV)(c:Ev):R PV:=match Tv c ps with
 | none=>.bad
 | some as=>if ndB ((pairsOf 0 (slots ps)).map (·.2))=true then match F as with
  | .bad=>.bad
  | .ret o as'=>match Gx (as'.map some) (pairsOf 0 (slots ps)) c with
   | none=>.bad
   | some c=>.ok (.o o) c
  else .bad
def cF (F:m8)(fa:m5):m7:=λc=>(fa c).bind λps c=>Lx F ps c
theorem Ac5 {Hf:Hp}:∀{ps:List PV}{vs:l_}{as:List O},Tv c ps=some as->yF K Hf σ ps vs->as.length=vs.length/\∀(k:Nat) (o:O),as[k]?=some o->∃v,vs[k]?=some v /\
 ((RepN K Hf o v/\(slots ps)[k]?=some none)\/∃i o',(slots ps)[k]?=some (some i)/\c[i]?=some (some o')/\o=o'.flag true/\σ[i]?=some (some v))
 | [],vs,as,e,h=>by cases (show some []=some as from e);cases (show vs=[] from h);exact⟨rfl,λk o h=>by simp at h⟩
 | .o o1::r,_,as,e,⟨v,vr,rfl,h,t⟩=>by
  obtain⟨l,e2,rfl⟩:=bc.mp (show (Tv c r).map (o1::·)=some as from e)
  obtain⟨hl,hg⟩:=Ac5 e2 t
  refine⟨by rw[aH,aH,hl],λk o hk=>?_⟩
  cases k with
  | zero=>cases (show some o1=some o from hk);exact⟨v,rfl,.inl ⟨h,rfl⟩⟩
  | succ k=>exact hg k o (by simpa using hk)
 | .sl i::r,_,as,e,⟨v,vr,rfl,h,t⟩=>by
  unfold Tv at e
  cases ec:c[i]? with
  | none=>simp only[ec]at e;cases e
  | some x =>
   cases x with
   | none=>simp only[ec]at e;cases e
   | some o1 =>
    simp only[ec]at e;obtain⟨l,e2,rfl⟩:=bc.mp e;obtain⟨hl,hg⟩:=Ac5 e2 t
    refine⟨by rw[aH,aH,hl],λk o hk=>?_⟩
    cases k with
    | zero=>cases (show some (o1.flag true)=some o from hk);exact⟨v,rfl,.inr ⟨i,o1,rfl,ec,rfl,h⟩⟩
    | succ k=>exact hg k o (by simpa using hk)
theorem Xf {Hf:Hp}:∀{ps:List PV}{vs:l_}{k i:Nat}{v:V},yF K Hf σ ps vs->(slots ps)[k]?=some (some i)->σ[i]?=some (some v)->vs[k]?=some v
 | [],vs,k,i,v,h,e,q=>by simp[slots]at e
 | .o _::r,_,k,i,v,⟨v1,vr,rfl,h,t⟩,e,q=>by
  cases k with
  | zero=>simp[slots]at e
  | succ k=>have:=Xf (k:=k) t (by simpa[slots] using e) q;simpa using this
 | .sl j::r,_,k,i,v,⟨v1,vr,rfl,h,t⟩,e,q=>by
  cases k with
  | zero =>
   have:j=i:=by simpa[slots] using e
   subst this
   cases (show some (some v1)=some (some v) from (show σ[j]?=some (some v1) from h).symm.trans q)
   rfl
  | succ k=>have:=Xf (k:=k) t (by simpa[slots] using e) q;simpa using this
theorem A2v (g:Rep K β W1 c1 σ) (R:yF K W1.Hf σ ps vs)
 (s1:(Lx F ps c1).sat λp c'=>∀v e y,Stp W1.S W1.Hf W1.H (orS e.S y) e.Hf e.H->Rep K β e c' σ->Ii K e σ p v y->(∀j a,a∈W1.fps j->some j∉slots ps->e.H a=W1.H a)->Q v e.H):spP K F (vs++[]) W1.H Q E:=by
 unfold Lx at s1
 cases ea:Tv c1 ps with
 | none=>simp only[ea]at s1;exact s1.elim
 | some M =>
  simp only[ea]at s1
  by_cases nd:ndB ((pairsOf 0 (slots ps)).map (·.2))=true
  ·rw[if_pos nd]at s1
   obtain⟨P,hg⟩:=Ac5 ea R
   let m:=pairsOf 0 (slots ps)
   let l:Nat->V:=λk=>(vs[k]?).getD .non
   have L:Lent K W1.Hf m c1 σ l (M.map some) (vs.map some):=by
    refine⟨Wa,Bo8 nd,by rw[aj,aj];exact P,λk o B=>?_⟩
    obtain⟨o1,T,h2⟩:=Q8 B
    cases h2
    obtain⟨v,u,q⟩:=hg k o T
    have c:(vs.map some)[k]?=some (some v):=by rw[bD,u];rfl
    rcases q with ⟨I,t⟩ | ⟨i,H,t,n,rfl,G⟩
    ·refine .inl ⟨?_,λi Z=>?_,v,c,I⟩
     ·cases o with
      | ls b D=>exact I.elim
      | im d=>rfl
      | sc d=>rfl
      | ty d=>rfl
     ·have:=(Hy Z).2
      rw[fC,t]at this;cases this
    ·have f:Lr c1[i]?=false->∀j,(k,j)∈m->Lr c1[j]?=false:=λq j z=>by
      have:=(Hy z).2;rw[fC,t]at this;cases this;exact q
     obtain⟨v',w,r,_⟩:=g.get i H n
     cases (show some _=some _ from w.symm.trans G)
     cases H with
     | im d=>exact .inl ⟨rfl,f (by rw[n];rfl),v,c,r.2⟩
     | sc d=>exact .inl ⟨rfl,f (by rw[n];rfl),v,c,r.2⟩
     | ty d=>exact .inl ⟨rfl,f (by rw[n];rfl),v,c,r.2⟩
     | ls b D=>exact .inr ⟨i,b,D,v,Tg t,n,rfl,G,c,by show vs[k]?.getD _=v;rw[u];rfl⟩
   refine⟨l,⟨W1.Hf,W1.H,Yj m _ _⟩,M,rfl,by rw[bw];exact P,by rw[bw];exact(L.rep g),?_⟩
   cases ef:F _ with
   | bad=>simp only[ef]at s1;exact s1.elim
   | ret o A =>
    simp only[ef]at s1;intro v e y J U W X
    cases eb:Gx (A.map some) m c1 with
    | none=>simp only[m]at eb;simp only[eb]at s1;exact s1.elim
    | some cO =>
     have h:=eb;simp only[m]at h;simp only[h]at s1
     obtain⟨W2,w,x,R2,C,Y⟩:=L.back g U J eb (λk i b D v hm hc u=>by
      have:=(Hy hm).2;rw[fC]at this
      show vs[k]?.getD _=v
      rw[Xf R this u];rfl) X
     rw[<- x]
     refine s1 v _ _ (by rw[w,x];exact C) R2 ⟨by rw[w,x];exact W,Y⟩ λj a N z=>?_
     obtain⟨_,ob,s,_⟩:=g.own j a N;rw[x,s]
     refine J.kp a _ s λ⟨k,B⟩=>z ?_
     obtain⟨i,q1,_,S⟩:=Js B
     cases g.dis i j a S N
     have:=(Hy q1).2;exact eG this
  ·rw[if_neg nd]at s1;exact s1.elim
theorem A9r (d:Rep K β W1 c1 σ) (e:yF K W1.Hf σ ps vs)
 (s1:(Lx F ps c1).sat λp c'=>∀v a b,Stp W1.S W1.Hf W1.H (orS a.S b) a.Hf a.H->Rep K β a c' σ->Ii K a σ p v b->Q v a.H):spP K F (vs++[]) W1.H Q E :=
 A2v d e (s1.mono λp c' k v a b c R r _=>k v _ _ c R r)
theorem Df (ha:MA K t fa):ME K (Ay5 (spP K F) [] E t) (cF F fa):=by
 intro j W c h Q R s
 refine ha _ W c _ _ R (s.bnd.mono λl m f u i a e d=>?_)
 exact A9r e d (f.mono λp n k v o q g b r=>k v _ _ (a.trans g) b r)
def cFO (F:m8)(fa:m7)(fr:m5):m7:=λc=>(fa c).bind λp c=>(fr c).bind λps c=>match p with
 | .o (.ls _ ds)=>(Lx F (.sl c.length::ps) (c++[some (.ls false ds)])).bind λr c'=>match r with
  | .o o=>.ok (.o o) c'.dropLast
  | .sl _=>.bad
 | _=>.bad
end
noncomputable def T6 (c:Ev) (i:Nat):Option (w6):=match c[i]? with
 | some (some (.ls _ ds))=>some ds
 | _=>none
def Kl (c:Ev):List Bool->List PV->List PV
 | false::ks,.sl i::ps=>(match T6 c i with
  | some ds=>.o (.im (.list ds))
  | none=>.sl i)::Kl c ks ps
 | _::ks,p::ps=>p::Kl c ks ps
 | [],ps=>ps
 | _,[]=>[]
def shown:Ev->List Bool->List PV->List Nat
 | c,false::ks,.sl i::ps=>(match T6 c i with
  | some _=>i::shown c ks ps
  | none=>shown c ks ps)
 | c,_::ks,_::ps=>shown c ks ps
 | _,_,_=>[]
def At8:O->Bool
 | .im d=>noL d
 | .ls _ ds=>Yp ds
 | _=>false
def Ax0:PV->Bool
 | .o o=>At8 o
 | .sl _=>false
noncomputable def Nz (is:List Nat) (c:Ev):Ev:=is.foldl (λc i=>c.set i none) c
def Ac2 (c:Ev):n6->Bool
 | []=>true
 | none::r=>Ac2 c r
 | some i::r=>(match c[i]? with
  | some (some (.ls _ ds))=>Yp ds
  | _=>true)&&Ac2 c r
def Vu (F:m8)(ks:List Bool)(ps:List PV)(c:Ev):R PV :=
 if (shown c ks ps).isEmpty=true then Lx F ps c else
 if ((slots (Kl c ks ps)).all λo=>match o with
  | some i=>!(shown c ks ps).contains i
  | none=>true)=true then
 (Lx F (Kl c ks ps) c).bind λr c'=>if (Ax0 r&&Ac2 c' (slots (Kl c ks ps)))=true then .ok r c' else .bad
 else .bad
def cFV (F:m8)(ks:List Bool)(fa:m5):m7:=λc=>(fa c).bind λps c=>Vu F ks ps c
section
variable {K:q9}{X:Cx}{Hf H:Hp}{Q:VK}
theorem OpR.or (h:OpR X f r) (h':OpR X f b):OpR X f (λx y H Q=>r x y H Q\/b x y H Q):=by
 intro c s e H x y v u Q I d a q
 rcases q with q | q
 ·exact h _ s _ H x y v u Q I d a q
 ·exact h' _ s _ H x y v u Q I d a q
theorem CallR.or (h:CallR X f r) (h':CallR X f b):CallR X f (λxs H Q=>r xs H Q\/b xs H Q):=by
 intro c s d H xs e Q I a q
 rcases q with q | q
 ·exact h _ s _ H _ _ Q I a q
 ·exact h' _ s _ H _ _ Q I a q
theorem Dm (h:RdV Hf H (.int i) v):v=.int i:=h
theorem Fi (h:RdV Hf H (.str x) v):v=.str x:=h
theorem V4 (h:RdV Hf H (.bool b) v):v=.bl b:=h
theorem Zk (h:RdV Hf H .none v):v=.non:=h
theorem Jt (s:Same Hf H) (h:RdV Hf H (.tuple ds) v):∃a b,v=.ref a/\H a=some (.tup b)/\TrL Hf ds b:=by
 obtain⟨a,b,e,q,t⟩:=(show Tr _ _ v from h)
 exact⟨a,b,e,s _ _ q,t⟩
theorem Jq (h:RdV Hf H (.list ds) v):∃a vs,v=.ref a/\H a=some (.lst vs)/\TrL Hf ds vs:=h
theorem New.int (h:New K Hf H (.im (.int i)) Q) (s:Same Hf H):Q (.int i) H:=h.same s rfl
theorem New.bl (h:New K Hf H (.im (.bool b)) Q) (s:Same Hf H):Q (.bl b) H:=h.same s rfl
theorem New.str (h:New K Hf H (.im (.str x)) Q) (s:Same Hf H):Q (.str x) H:=h.same s rfl
theorem New.tupS (h:New K Hf H (.im (.tuple ds)) Q) (s:Same Hf H) (t:TrL Hf ds vs) (S:Same H H') (hp:H' p=some (.tup vs)):Q (.ref p) H':=by
 have c:Same _ (upd Hf p (.tup vs)):=λb u e=>by
  unfold upd
  split
  ·have:=S b u (s b u e)
   simp_all
  grind
 refine h _ _ _ [] ⟨c,λa o e _=>S a o e,λa o e d _ q=>?_,λa z=>nomatch z⟩ (λb u e=>?_) ⟨rfl,p,vs,rfl,Be,TrL.same c t⟩
 ·unfold upd
  split
  ·rename_i z
   have:=S a o e;rw[z,hp]at this
   cases this
   trivial
  omega
 ·unfold upd at e
  split at e
  ·simp_all
  ·exact S b u (s b u e)
def B4i:R2:=λx y H Q=>(rI0 (λi j=>.int (i+j)) x y H Q\/(∃i j,x=.str i/\y=.str j/\i.length+j.length<=sizeLine/\Q (.str (i++j)) H))\/(B6w x y H Q\/B0j x y H Q)
theorem B3a:OpR X (binaryOp .Add) B4i:=OpR.or (OpR.or B4a A3i) (OpR.or B4b Bv3)
noncomputable def Am:o5->o5->m_
 | .int i,.int j=>some (.im (.int (i+j)))
 | .str a,.str b=>if a.length+b.length<=16000000 then some (.im (.str (a++b))) else none
 | .list a,.list b=>if a.length+b.length<=16000000 then some (.ls false (a++b)) else none
 | .tuple a,.tuple b=>if a.length+b.length<=16000000 then some (.im (.tuple (a++b))) else none
 | _,_=>none
theorem lim (h:n<=16000000):n<=sizeLine:=ao h (by decide)
theorem Dr:OpS K B4i Am:=by
 intro C H x y A B o Q s g f e n;unfold Am at e
 split at e
 ·rename_i i j
  cases e
  exact .inl (.inl ⟨i,j,Dm g,Dm f,n.int s⟩)
 ·rename_i a b
  split at e
  ·rename_i l
   cases e
   exact .inl (.inr ⟨a,b,Fi g,Fi f,lim l,n.str s⟩)
  ·cases e
 ·have e := e
  split at e
  ·rename_i l
   cases e
   obtain⟨p,v,k,h,d⟩:=Jq g;obtain⟨q,t,u,m,c⟩:=Jq f
   exact .inr (.inl ⟨p,q,v,t,k,u,h,m,by rw[<- d.length,<- c.length];exact lim l,λr w=>n.lst s (d.app c) w⟩)
  ·cases e
 ·have e := e
  split at e
  ·rename_i l
   cases e
   obtain⟨p,v,k,h,d⟩:=Jt s g;obtain⟨q,t,u,m,c⟩:=Jt s f
   exact .inr (.inr ⟨p,q,v,t,k,u,h,m,by rw[<- d.length,<- c.length];exact lim l,λr z S w=>n.tupS s (d.app c) S w⟩)
  ·cases e
 ·cases e
noncomputable def opI (C:Int->Int->Bool) (g:Int->Int->Int):o5->o5->m_
 | .int i,.int j=>if C i j then some (.im (.int (g i j))) else none
 | _,_=>none
theorem A5t (hc:∀i j,C i j=true->a i j):OpS K (rI a λi j=>.int (g i j)) (opI C g):=by
 intro d H x y h f o Q s c b e n;unfold opI at e
 split at e
 ·rename_i i j
  split at e
  ·rename_i l
   cases e
   exact⟨i,j,Dm c,Dm b,hc i j l,n.int s⟩
  trivial
 grind
noncomputable def Qy (g:Int->Int->o5):o5->o5->m_
 | .int i,.int j=>some (.im (g i j))
 | _,_=>none
theorem Ax6 (hg:∀i j H,Tr H (g i j) (g' i j)):OpS K (rI0 g') (Qy g):=by
 intro c H x y f d o Q s a b e n;unfold Qy at e
 split at e
 ·rename_i i j
  cases e
  exact⟨i,j,Dm a,Dm b,n.same s (hg i j _)⟩
 trivial
noncomputable def Xv (i j:Int):Bool:=(decide (-(2 ^ 64)<i)&&decide (i<2 ^ 64))||(decide (-(2 ^ 64)<j)&&decide (j<2 ^ 64))
noncomputable def Br8 (ds:w6) (n:Nat):w6:=(List.replicate n ds).flatten
theorem A7g {a:w6}{vs:l_}(t:TrL Hf a vs):∀n:Nat,TrL Hf (Br8 a n) (List.replicate n vs).flatten
 | 0=>rfl
 | n+1=>by
  show TrL Hf (List.replicate (n+1) a).flatten (List.replicate (n+1) vs).flatten
  rw[cT,cT,fu,fu];exact t.app (A7g t n)
noncomputable def Ew (d:o5):Bool:=d.canLay0&&decide (d.depth<=40)
theorem Nq (h:Ew d=true):Flat d:=by
 obtain⟨b,a⟩:=aF.mp h;exact⟨b,aQ a⟩
noncomputable def Zi:o5->o5->Bool
 | .str _,.str _=>true
 | _,_=>false
def Bg (neg:Bool)(a b:o5):m_:=if (Ew a&&Ew b)||Zi a b then some (.im (.bool (if neg then !PyData.eqv a b else PyData.eqv a b))) else none
def rEQ:R2:=λx y H Q=>B7j x y H Q\/rEq x y H Q
def rNE:R2:=λx y H Q=>B7i x y H Q\/rNe x y H Q
theorem B1f (hu:X.A.units+64<cLine):OpR X (compareOp .Eq) rEQ:=OpR.or (B1o hu) B7a
theorem B0e (hu:X.A.units+64<cLine):OpR X (compareOp .NotEq) rNE:=OpR.or (B4e hu) B6e
theorem Q4 (x y:Str):PyData.eqv (.str x) (.str y)=decide (V.str x=V.str y):=by
 show (x==y)=_
 grind
theorem Z6:OpS K rEQ (Bg false):=by
 intro h H x y f d o Q s b a e n;unfold Bg at e
 split at e
 ·rename_i l
  cases e
  rcases Bool.or_eq_true_iff.mp l with l | l
  ·obtain⟨g,c⟩:=aF.mp l
   exact .inl ⟨f,d,b.tr s,a.tr s,Nq g,Nq c,n.bl s⟩
  ·unfold Zi at l
   split at l
   ·cases Fi b
    cases Fi a
    refine .inr ⟨rfl,?_⟩
    rw[<- Q4];exact n.bl s
   grind
 grind
theorem Bp5:OpS K rNE (Bg true):=by
 intro h H x y f d o Q s b a e n;unfold Bg at e
 split at e
 ·rename_i l
  cases e
  rcases Bool.or_eq_true_iff.mp l with l | l
  ·obtain⟨g,c⟩:=aF.mp l
   exact .inl ⟨f,d,b.tr s,a.tr s,Nq g,Nq c,n.bl s⟩
  ·unfold Zi at l
   split at l
   ·cases Fi b
    cases Fi a
    refine .inr ⟨rfl,?_⟩
    rw[<- Q4];exact n.bl s
   grind
 grind
def rLE:R2:=λx y H Q=>rI0 (λi j=>.bl (decide (i<=j))) x y H Q\/∃i j,x=.str i/\y=.str j/\Q (.bl (!decide (j.cps.toList<i.cps.toList))) H
theorem B5t:OpR X (compareOp .LtE) rLE:=OpR.or B4t A9c
noncomputable def Az7:o5->o5->m_
 | .int i,.int j=>some (.im (.bool (decide (i<=j))))
 | .str i,.str j=>some (.im (.bool (!decide (j.cps.toList<i.cps.toList))))
 | _,_=>none
theorem B4r:OpS K rLE Az7:=by
 intro c H x y f d o Q s a b e n;unfold Az7 at e
 split at e
 ·rename_i i j
  cases e
  exact .inl ⟨i,j,Dm a,Dm b,n.bl s⟩
 ·rename_i i j
  cases e
  exact .inr ⟨i,j,Fi a,Fi b,n.bl s⟩
 trivial
noncomputable def Fv (neg:Bool) (a b:o5):m_:=match b with
 | .none=>some (.im (.bool (match a with
  | .none=>!neg
  | _=>neg)))
 | _=>none
theorem Bt0 (h:RdV Hf H d v):decide (v=.non)=(match d with | .none=>true | _=>false):=by
 cases d with
 | none=>cases Zk h;rfl
 | bool b=>cases V4 h;rfl
 | int i=>cases Dm h;rfl
 | str x=>cases Fi h;rfl
 | list c=>obtain⟨a,e,rfl,_⟩:=Jq h;rfl
 | tuple c=>obtain⟨a,e,rfl,_⟩:=(show Tr _ _ v from h);rfl
 | dict k=>trivial
theorem Ax2:OpS K (λx y H Q=>y=.non/\Q (.bl (decide (x=.non))) H) (Fv false):=by
 intro f H x y c b o Q s d a e n
 match b,a,e with
 | .none,a,e =>
  refine⟨Zk a,?_⟩
  rw[Bt0 d]
  cases e
  cases c <;> exact n.bl s
def rIN:R2:=λx y H Q=>B2o false x y H Q\/B7b x y H Q
theorem B5q (hu:X.A.units+64<cLine):OpR X (compareOp .In) rIN:=OpR.or (B1n hu) A8n
def Ms (neg:Bool):o5->o5->m_
 | d,.list ds=>if Ew d&&PyData.canLayAll0 ds then some (.im (.bool (if neg then !(ds.any λe=>PyData.eqv e d) else ds.any λe=>PyData.eqv e d))) else none
 | d,.tuple ds=>if Ew d&&PyData.canLayAll0 ds then some (.im (.bool (if neg then !(ds.any λe=>PyData.eqv e d) else ds.any λe=>PyData.eqv e d))) else none
 | .str i,.str j=>if neg then none else some (.im (.bool (!(Builtin.Str.occurrences j i 0 j.length 1).isEmpty)))
 | _,_=>none
theorem A3l:OpS K rIN (Ms false):=by
 intro h H x y g k o Q s b d e n;unfold Ms at e
 split at e
 ·rename_i c
  have e := e
  split at e
  ·rename_i l
   obtain⟨f,a⟩:=aF.mp l
   cases e
   exact .inl ⟨g,c,b.tr s,.inl (d.tr s),Nq f,a,n.bl s⟩
  grind
 ·rename_i c
  have e := e
  split at e
  ·rename_i l
   obtain⟨f,a⟩:=aF.mp l
   cases e
   exact .inl ⟨g,c,b.tr s,.inr (d.tr s),Nq f,a,n.bl s⟩
  simp_all
 ·rename_i i j
  cases e
  exact .inr ⟨i,j,Fi b,Fi d,n.bl s⟩
 trivial
theorem Ak7:OpS K (B2o true) (Ms true):=by
 intro h H x y f i o Q s d g e n;unfold Ms at e
 split at e
 ·rename_i a
  have e := e
  split at e
  ·rename_i l
   obtain⟨c,b⟩:=aF.mp l
   cases e
   exact⟨f,a,d.tr s,.inl (g.tr s),Nq c,b,n.bl s⟩
  simp_all
 ·rename_i a
  have e := e
  split at e
  ·rename_i l
   obtain⟨c,b⟩:=aF.mp l
   cases e
   exact⟨f,a,d.tr s,.inr (g.tr s),Nq c,b,n.bl s⟩
  grind
 ·simp_all
 grind
def A1h:o5->o5->m_
 | .list ds,.int i=>(atI ds i).map .im
 | .tuple ds,.int i=>(atI ds i).map .im
 | .str z,.int i=>if z.length<=16000000 then (atI z.cps.toList i).map λc=>.im (.str ⟨#[c]⟩) else none
 | _,_=>none
theorem Au9 (t:TrL Hf ds vs) (h:atI ds i=some d):∃v,atI vs i=some v/\Tr Hf d v:=by
 unfold atI at h ⊢;rw[<- t.length];obtain⟨j,c,a⟩:=eU.mp h;obtain⟨v,e,b⟩:=t.got a
 grind
theorem Bm8:OpS K B2y A1h:=by
 intro Hf H x y dx dy o Q s rx ry e n;unfold A1h at e
 split at e
 ·rename_i ds i
  obtain⟨d,e1,rfl⟩:=bc.mp (show (atI ds i).map O.im=some o from e)
  obtain⟨a,vs,rfl,h1,t⟩:=Jq rx;obtain⟨v,h2,h3⟩:=Au9 t e1
  cases (Dm ry)
  exact⟨v,by rw[Bs1 h1];exact h2,n.same s h3⟩
 ·rename_i ds i
  obtain⟨d,e1,rfl⟩:=bc.mp (show (atI ds i).map O.im=some o from e)
  obtain⟨a,vs,rfl,h1,t⟩:=Jt s rx;obtain⟨v,h2,h3⟩:=Au9 t e1
  cases (Dm ry)
  exact⟨v,by rw[Br5 h1];exact h2,n.same s h3⟩
 ·rename_i z i
  have e:(if z.length<=16000000 then (atI z.cps.toList i).map λc=>O.im (.str ⟨#[c]⟩) else none)=some o:=e
  split at e
  ·rename_i l
   obtain⟨c,e1,rfl⟩:=bc.mp e
   cases (Dm ry)
   cases (Fi rx)
   refine⟨.str ⟨#[c]⟩,?_,n.str s⟩
   show (if z.length<=sizeLine then (atI z.cps.toList i).map λc=>V.str ⟨#[c]⟩ else none)=_
   rw[if_pos (lim l),e1];rfl
  ·cases e
 ·cases e
def cutD (ds:w6)(lo hi:o7):w6:=(ds.drop (HT.sIx ds.length 0 lo)).take (HT.sIx ds.length ds.length hi-HT.sIx ds.length 0 lo)
theorem TrL.drop':∀{ds:w6}{vs:l_}(n:Nat),TrL Hf ds vs->TrL Hf (ds.drop n) (vs.drop n)
 | ds,vs,0,h=>h
 | [],_,n+1,h=>by cases (show _=[] from h);exact rfl
 | d::ds,_,n+1,⟨v,r,rfl,_,t⟩=>TrL.drop' n t
theorem TrL.take':∀{ds:w6}{vs:l_}(n:Nat),TrL Hf ds vs->TrL Hf (ds.take n) (vs.take n)
 | ds,vs,0,h=>by rw[List.take_zero,List.take_zero];exact rfl
 | [],_,n+1,h=>by cases (show _=[] from h);exact rfl
 | d::ds,_,n+1,⟨v,r,rfl,q,t⟩=>⟨v,r.take n,rfl,q,TrL.take' n t⟩
theorem TrL.cut (t:TrL Hf ds vs):TrL Hf (cutD ds lo hi) (A7o vs lo hi):=by
 unfold cutD A7o;rw[<- t.length];exact TrL.take' _ (TrL.drop' _ t)
end
section
variable {K:q9}{X:Cx}{Hf H:Hp}{Q:VK}{β:Nat->V}{W W':Wo}{c c':Ev}{σ:St}{v:V}
theorem B3h (h:B2c Hf H [d] xs):∃x,xs=[x]/\RdV Hf H d x:=by
 obtain⟨v,r,b,c,a⟩:=h
 cases (a)
 grind
noncomputable def Gy:w6->m_
 | [.list ds]=>some (.im (.int ds.length))
 | [.tuple ds]=>some (.im (.int ds.length))
 | [.str z]=>if z.length<=16000000 then some (.im (.int z.length)) else none
 | _=>none
theorem A8e:B5i K (X7 K) Gy:=by
 intro Hf H xs ds o Q s d e n;unfold Gy at e
 split at e
 ·obtain⟨x,rfl,r⟩:=B3h d
  obtain⟨a,c,rfl,b,t⟩:=Jq r
  cases e
  refine⟨.ref a,c.length,rfl,Bp9 b,?_⟩
  rw[<- t.length];exact n.int s
 ·obtain⟨x,rfl,r⟩:=B3h d
  obtain⟨a,c,rfl,b,t⟩:=Jt s r
  cases e
  refine⟨.ref a,c.length,rfl,Bs0 b,?_⟩
  rw[<- t.length];exact n.int s
 ·rename_i z
  obtain⟨x,rfl,r⟩:=B3h d
  cases Fi r
  split at e
  ·rename_i l
   cases e
   refine⟨.str z,z.length,rfl,?_,n.int s⟩
   show (if z.length<=sizeLine then some _ else none)=_
   rw[if_pos (lim l)]
  trivial
 simp_all
def Bp7 (K:q9):l_->Hp->VK->Prop:=λxs H Q=>X7 K xs H Q\/A3c K xs H Q
theorem Bk7:CallR X (.builtin "len") (Bp7 X.K):=CallR.or A7l A1p
def Gh (f:m7):m7:=λc=>(f c).bind λp c=>match nrm p with
 | .o (.sc ns)=>.ok (.o (.im (.int ns.length))) c
 | p=>match Eo c p with
  | some d=>match Gy [d] with
   | some o=>.ok (.o o) c
   | none=>.bad
  | none=>.bad
theorem Bb3 (h:ME K t f):ME K (tCB (Bp7 K) (Ej t Jb)) (Gh f):=by
 intro A W c u Q R s
 refine h.toV A W c u _ R (s.bnd.mono λp w e v r n k g=>?_)
 have m:∀q:PV,RepA K r.Hf u q v->((match Eo w q with
  | some d=>(match Gy [d] with
   | some o=>.ok (.o o) w
   | none=>.bad)
  | none=>.bad:U.R PV)).sat (λp C=>∀v j l,Stp W.S W.Hf W.H (orS j.S l) j.Hf j.H->Rep K A j C u->Ii K j u p v l->Q v j.H)->Bp7 K [v] r.H Q:=λq g e=>by
  cases ex:Eo w q with
  | none=>simp only[ex]at e;exact e.elim
  | some d =>
   simp only[ex]at e
   cases eo:Gy [d] with
   | none=>simp only[eo]at e;exact e.elim
   | some o =>
    simp only[eo]at e
    exact .inl (A8e r.Hf r.H [v] [d] o Q k.sub ⟨v,[],rfl,Ij k g ex,rfl⟩ eo (New.of k λv j l z y x=>e v j l (n.trans z) y x))
 generalize nrm p=q at e g
 match q,g,e with
 | .o (.sc ns),g,e =>
  obtain⟨a,rfl,B⟩:=g;have e:∀v j l,Stp _ _ _ _ _ _->Rep K _ j _ _->Ii K _ _ _ v _->Q v _:=e
  refine .inr ⟨.ref a,ns.length,rfl,?_,(New.of k λv j l z y x=>e v _ _ (n.trans z) y x).int k.sub⟩
  exact .inl ⟨ns.map _,Same.seq k.sub B,by simp_all⟩
 | .o (.im d),g,e=>exact m _ g e
 | .o (.ls b d),g,e=>trivial
 | .o (.ty T),g,e=>trivial
 | .sl i,g,e=>exact m _ g e
inductive Ty5 where
 | int | str | bool | list | tuple
noncomputable def Ty5.nm:Ty5->String
 | .int => "int"
 | .str => "str"
 | .bool => "bool"
 | .list => "list"
 | .tuple => "tuple"
noncomputable def Gg:Ty5->o5->Bool
 | .int,.int _=>true
 | .int,.bool _=>true
 | .str,.str _=>true
 | .bool,.bool _=>true
 | .list,.list _=>true
 | .tuple,.tuple _=>true
 | _,_=>false
noncomputable def A6v:o5->String
 | .none => "NoneType"
 | .bool _ => "bool"
 | .int _ => "int"
 | .str _ => "str"
 | .list _ => "list"
 | .tuple _ => "tuple"
 | .dict _ => "dict"
theorem A7h (s:Same Hf H) (h:RdV Hf H d v):Ub H v=some (A6v d):=by
 cases d with
 | none=>cases Zk h;rfl
 | bool b=>cases V4 h;rfl
 | int i=>cases Dm h;rfl
 | str x=>cases Fi h;rfl
 | list c=>obtain⟨a,f,rfl,e,_⟩:=Jq h;exact B3b e
 | tuple c=>obtain⟨a,f,rfl,e,_⟩:=Jt s h;exact B1s e
 | dict k=>trivial
theorem A3r (h:RdV Hf H d v) (T:Ty5):Gw (A6v d) T.nm=some (Gg T d):=by
 cases d with
 | none=>cases T <;> first | exact Yo | exact Yg | exact Xe | exact Xc | exact Vx
 | bool b=>cases T <;> first | exact A1e | exact Ay2 | exact At0 | exact Ap1 | exact Ai9
 | int i=>cases T <;> first | exact A2l | exact A3u | exact A2c | exact A0e | exact Av8
 | str x=>cases T <;> first | exact A2g | exact A4i | exact A0s | exact A0f | exact As8
 | list a=>cases T <;> first | exact A1j | exact A0z | exact Ax4 | exact Av4 | exact Ai0
 | tuple a=>cases T <;> first | exact Av7 | exact Av1 | exact Ai7 | exact Ah6 | exact Ab0
 | dict k=>exact(h).elim
def cUn (op:o5->m_)(f:m7):m7:=λc=>(f c).bind λp c=>match Eo c (nrm p) with
 | some d=>match op d with
  | some o=>.ok (.o o) c
  | none=>.bad
 | none=>.bad
def UnS (K:q9)(r:V->Hp->VK->Prop)(op:o5->m_):Prop:=∀(Hf H:Hp) (x:V) (d:o5) (o:O) (Q:VK),Same Hf H->RdV Hf H d x->op d=some o->New K Hf H o Q->r x H Q
theorem X8 (h:ME K t f) (hr:UnS K r op):ME K (tUn r t) (cUn op f):=by
 intro u W c m Q R s
 refine h.toV _ W c _ _ R (s.bnd.mono λp j a v w e b k=>?_)
 cases ex:Eo j (nrm p) with
 | none=>simp only[ex]at a;trivial
 | some d =>
  simp only[ex]at a
  cases eo:op d with
  | none=>simp only[eo]at a;trivial
  | some o =>
   simp only[eo]at a
   exact hr _ _ v d o Q b.sub (Ij b k ex) eo (New.of b λv n q i l g=>a v _ _ (e.trans i) l g)
theorem K4 (h:ME K t f) (hr:UnS K (λx H Q=>r [x] H Q) op):ME K (tCB r (Ej t Jb)) (cUn op f):=X8 h hr
def By (T:Ty5)(d:o5):m_:=some (.im (.bool (Gg T d)))
def Rm (T1 T2:Ty5)(d:o5):m_:=some (.im (.bool (Gg T1 d||Gg T2 d)))
theorem Bh4 (T:Ty5) (h:ME K t f):ME K (tCB (Uk K) (Ej t (Ej (tC (.ty T.nm)) Jb))) (cUn (By T) f) :=
 X8 h λa H x d o Q s r e n=>by
  cases e
  exact⟨x,T.nm,A6v d,Gg T d,rfl,A7h s r,A3r r T,n.bl s⟩
theorem Bu6 (h1:Gw t A=some a) (h2:Gw t B=some b):Pz t [A,B]=some (a||b):=by
 unfold Pz;unfold Pz;unfold Pz
 grind
theorem Bt5 (g j:Ty5) (h:ME K t f):ME K (tCB (Nv K) (Ej t (Ej (B4o (Ej (tC (.ty g.nm)) (Ej (tC (.ty j.nm)) Jb))) Jb))) (cUn (Rm g j) f) :=
 X8 (r:=λx H Q=>2<=sizeLine/\∀p,H p=none->Nv K _ _ Q) h λv H x d o Q s r e n=>by
  cases e
  refine⟨by decide,λp c=>⟨x,p,[g.nm,j.nm],A6v d,Gg _ d||Gg _ d,rfl,Be,?_,Bu6 (A3r r _) (A3r r _),?_⟩⟩
  ·have l:Same _ (upd H p (.tup [.ty g.nm,.ty j.nm])):=Y7 s c
   refine A7h l ?_
   cases d with
   | list u=>obtain⟨a,m,e,q,t⟩:=r;exact⟨a,m,e,Bj c _ _ q,t⟩
   | none=>exact r
   | bool b=>exact r
   | int i=>exact r
   | str z=>exact r
   | tuple u=>exact r
   | dict k=>exact r
  ·exact n _ _ _ [] ((Stp.newL s c).less λa z=>nomatch z) (Y7 s c) ⟨rfl,rfl⟩
noncomputable def boolsOf:w6->Option (List Bool)
 | []=>some []
 | .bool b::r=>(boolsOf r).map (b::·)
 | _=>none
theorem A5r:∀{ds:w6}{bs:List Bool}{vs:l_},boolsOf ds=some bs->TrL Hf ds vs->vs=bs.map V.bl
 | [],bs,vs,e,t=>by cases (show some []=some bs from e);exact t
 | .bool b::r,bs,_,e,⟨v,vr,rfl,h,t⟩=>by
  obtain⟨l,e1,rfl⟩:=bc.mp (show (boolsOf r).map (b::·)=some bs from e)
  cases (show v=.bl b from h)
  rw[A5r e1 t];rfl
 | .none::r,bs,_,e,_=>nomatch e
 | .int _::r,bs,_,e,_=>nomatch e
 | .str _::r,bs,_,e,_=>nomatch e
 | .list _::r,bs,_,e,_=>nomatch e
 | .tuple _::r,bs,_,e,_=>nomatch e
 | .dict _::r,bs,_,e,_=>nomatch e
def Q6:o5->m_
 | .list ds=>(boolsOf ds).map λbs=>.im (.bool (bs.all id))
 | _=>none
theorem A5l:UnS K (λx H Q=>Q7 K [x] H Q) Q6:=by
 intro Hf H x d o Q s r e n
 match d,r,e with
 | .list _,r,e =>
  obtain⟨c,f,rfl⟩:=bc.mp (show (boolsOf _).map _=some o from e)
  obtain⟨a,vs,rfl,b,t⟩:=Jq r
  exact⟨a,c,rfl,by rw[<- A5r f t];exact SqL.of b,n.bl s⟩
noncomputable def Ua:o5->m_
 | .int i=>some (.im (.int i))
 | .bool b=>some (.im (.int (if b then 1 else 0)))
 | _=>none
theorem A6t:UnS K (λx H Q=>Ro K [x] H Q) Ua:=by
 intro a H x d o Q s r e n
 match d,r,e with
 | .int i,r,e=>cases e;cases Dm r;exact .inl ⟨i,rfl,n.int s⟩
 | .bool b,r,e=>cases e;cases V4 r;exact .inr ⟨b,rfl,n.int s⟩
noncomputable def A7c:o5->m_
 | .int i=>some (.im (.int (if i<0 then -i else i)))
 | _=>none
theorem Bw6:UnS K (λx H Q=>Uy K [x] H Q) A7c:=by
 intro a H x d o Q s r e n
 match d,r,e with
 | .int i,r,e=>cases e;cases Dm r;exact⟨i,rfl,n.int s⟩
noncomputable def Ag6:o5->m_
 | .int i=>some (.im (.int (-i)))
 | _=>none
theorem Ap2:UnS K (rU λi=>.int (-i)) Ag6:=by
 intro a H x d o Q s r e n
 match d,r,e with
 | .int i,r,e=>cases e;cases Dm r;exact⟨i,rfl,n.int s⟩
noncomputable def Z3:o5->m_
 | .list ds=>some (.ls false ds)
 | .tuple ds=>some (.ls false ds)
 | _=>none
theorem U7:UnS K (λx H Q=>Nh K [x] H Q) Z3:=by
 intro Hf H x d o Q s r e n
 match d,r,e with
 | .list _,r,e =>
  cases e
  obtain⟨a,c,rfl,f,t⟩:=Jq r
  exact⟨a,c,rfl,.inl (SqL.of f),λl b=>n.lst s t b⟩
 | .tuple _,r,e =>
  cases e
  obtain⟨a,c,rfl,f,t⟩:=Jt s r
  exact⟨a,c,rfl,.inr (SqT.of f),λl b=>n.lst s t b⟩
def B3o (K:q9):l_->Hp->VK->Prop:=λxs H Q=>(Ad4 K xs H Q\/A2f K xs H Q)\/X3 K xs H Q
noncomputable def isSeq:o5->Bool
 | .list _=>true
 | .tuple _=>true
 | _=>false
def A7i:o5->m_
 | .int i=>if i.natAbs.log2<1920 then some (.im (.str (toString i))) else none
 | .none=>some (.im (.str "None"))
 | .bool b=>some (.im (.str (if b then Str.ofString "True" else Str.ofString "False")))
 | .str x=>some (.im (.str x))
 | d=>if isSeq d&&(d.showable&&(!d.hasDict&&(decide (d.depth<=40)&&decide (d.shown.length<=sizeLine)))) then some (.im (.str d.shown)) else none
theorem Aw3:UnS K (λx H Q=>B3o K [x] H Q) A7i:=by
 intro h H x d o Q s r e n
 have c:∀d,RdV h H d x->(isSeq d=true->∃a,x=.ref a)->(if isSeq d&&(d.showable&&(!d.hasDict&&(decide (d.depth<=40)&&decide (d.shown.length<=sizeLine)))) then some (O.im (.str d.shown)) else none)=some o->B3o K [x] H Q:=λd r g e=>by
  split at e
  ·rename_i l
   simp at l
   cases e
   obtain⟨a,rfl⟩:=g l.1;exact .inl (.inr ⟨a,d,rfl,r.tr s,l.2.1,l.2.2.1,l.2.2.2.1,l.2.2.2.2,n.str s⟩)
  ·cases e
 match d,r,e with
 | .int i,r,e =>
  have e:(if i.natAbs.log2<1920 then some _ else none)=some o:=e
  split at e
  ·rename_i l
   cases e;cases Dm r;exact .inl (.inl ⟨i,rfl,l,n.str s⟩)
  ·cases e
 | .list _,r,e=>exact c _ r (λ_=>by obtain⟨b,f,e,_⟩:=Jq r;exact⟨b,e⟩) e
 | .tuple _,r,e=>exact c _ r (λ_=>by obtain⟨b,f,e,_⟩:=Jt s r;exact⟨b,e⟩) e
 | .none,r,e=>cases e;cases Zk r;exact .inr ⟨_,_,rfl,rfl,n.str s⟩
 | .bool b,r,e=>cases e;cases V4 r;exact .inr ⟨_,_,rfl,rfl,n.str s⟩
 | .str z,r,e=>cases e;cases Fi r;exact .inr ⟨_,_,rfl,rfl,n.str s⟩
 | .dict _,r,e=>exact c _ r (λz=>nomatch z) e
noncomputable def A4x:o5->o5->m_
 | .int i,.int j=>some (.im (.int (if j<i then j else i)))
 | _,_=>none
theorem Bw8 {c d:TE} (ha:ME K c fa) (hb:ME K d fb):ME K (tCB (Rp K) (Ej c (Ej d Jb))) (cOp A4x fa fb) :=
 Cp ha hb λh H x y g f o Q s a b e n=>by
  match g,f,a,b,e with
  | .int i,.int j,a,b,e=>cases e;cases Dm a;cases Dm b;exact⟨i,j,rfl,n.int s⟩
def MO (K:q9)(T:TO)(f:Ev->R (o7)):Prop:=∀(β:Nat->V) (W:Wo) (c:Ev) (σ:St) (Q:o7->Hp->Prop),Rep K β W c σ ->
 (f c).sat (λb c'=>∀W',Stp W.S W.Hf W.H W'.S W'.Hf W'.H->Rep K β W' c' σ->Q b W'.H)->T σ W.H Q
noncomputable def cON:Ev->R (o7):=λc=>.ok none c
theorem Zo:MO K A6u cON:=λb W c a Q R s=>s W Stp.refl R
def cOS (f:m7):Ev->R (o7):=λc=>(f c).bind λp c=>match Eo c (nrm p) with
 | some (.int i)=>.ok (some i) c
 | _=>.bad
theorem Zb (h:ME K t f):MO K (B1m t) (cOS f):=by
 intro g W c k Q R s
 refine h.toV _ W c _ _ R (s.bnd.mono λp l a v j b d e=>?_)
 match ex:Eo _ _,a with
 | some (.int i),a=>exact⟨i,Dm (Ij d e ex),a _ b d⟩
 | some .none,a=>exact a.elim
 | some (.bool _),a=>exact a.elim
 | some (.str _),a=>exact a.elim
 | some (.list _),a=>exact a.elim
 | some (.tuple _),a=>exact a.elim
 | some (.dict _),a=>exact a.elim
 | none,a=>exact a.elim
def SlS (K:q9)(r:V->o7->o7->Hp->VK->Prop)(op:o5->o7->o7->m_):Prop:=∀(Hf H:Hp) (x:V) (lo hi:o7) (d:o5) (o:O) (Q:VK),Same Hf H->RdV Hf H d x->op d lo hi=some o->New K Hf H o Q->r x lo hi H Q
def cSl (op:o5->o7->o7->m_)(f:m7)(fl fh:Ev->R (o7)):m7:=λc=>(f c).bind λp c=>(fl c).bind λlo c=>(fh c).bind λhi c=>match Eo c (nrm p) with
 | some d=>match op d lo hi with
  | some o=>.ok (.o o) c
  | none=>.bad
 | none=>.bad
theorem A5z (h:ME K j f) (hl:MO K l k) (u:MO K m n) (hr:SlS K r op):ME K (tSl r j l m) (cSl op f k n):=by
 intro P W c G Q R s
 refine h.toV _ W c _ _ R (s.bnd.mono λp I D v N g w x=>?_)
 refine hl _ _ _ _ _ w (D.bnd.mono λz F A J a B=>?_)
 refine u _ _ _ _ _ B (A.bnd.mono λt y b H e i=>?_)
 cases ex:Eo y (nrm p) with
 | none=>simp only[ex]at b;trivial
 | some d =>
  simp only[ex]at b
  cases eo:op d z t with
  | none=>simp only[eo]at b;trivial
  | some o =>
   simp only[eo]at b
   exact hr _ _ v _ _ d o Q i.sub (Ij i (RepA.same (a.trans e).fz x) ex) eo (New.of i λv L M C E q=>b v _ _ (g.trans (a.trans (e.trans C))) E q)
end
section
variable {K:q9}{X:Cx}{Hf H:Hp}{Q:VK}{β:Nat->V}{W:Wo}{c c':Ev}{σ:St}{v:V}
def rSL (K:q9):V->o7->o7->Hp->VK->Prop:=λx lo hi H Q=>(B5u K x lo hi H Q\/(B5m K x lo hi H Q\/B0u K x lo hi H Q))\/B5y x lo hi H Q
theorem B3z:SlR X (rSL X.K):=SlR.or (SlR.or By0 (SlR.or B2n Bv8)) B2w
def Dy:o5->o7->o7->m_
 | .list ds,lo,hi=>some (.ls false (cutD ds lo hi))
 | .tuple ds,lo,hi=>some (.im (.tuple (cutD ds lo hi)))
 | .str z,lo,hi=>if z.length<=16000000 then some (.im (.str (Txt.slice z lo hi))) else none
 | _,_,_=>none
theorem Yy:SlS K (rSL K) Dy:=by
 intro Hf H x f c d o Q s r e n
 match d,r,e with
 | .list ds,r,e =>
  cases e
  obtain⟨a,b,rfl,g,t⟩:=Jq r
  exact .inl (.inl ⟨a,b,rfl,SqL.of g,λp h=>n.lst s (TrL.cut t) h⟩)
 | .str z,r,e =>
  by_cases hz:z.length<=16000000
  ·rw[show Dy (.str z) f c=some (.im (.str (Txt.slice z f c))) by simp only[Dy];rw[if_pos hz]]at e
   cases e
   exact .inr ⟨z,r,ao hz (by decide),n.same s rfl⟩
  ·rw[show Dy (.str z) f c=none by simp only[Dy];rw[if_neg hz]]at e;cases e
 | .tuple ds,r,e =>
  cases e
  obtain⟨a,b,rfl,g,t⟩:=Jt s r
  by_cases w:HT.sIx b.length 0 f=0/\HT.sIx b.length b.length c=b.length
  ·refine .inl (.inr (.inr ⟨a,b,rfl,SqT.of g,w,?_⟩))
   have e:cutD ds f c=ds:=by
    unfold cutD;rw[t.length,w.1,w.2,fQ,fC,<- t.length,fX]
   rw[e]at n;exact n.same s r
  ·exact .inl (.inr (.inl ⟨a,b,rfl,SqT.of g,w,λp h=>n.tup s (TrL.cut t) h⟩))
def Aw (f:m7):m6:=λc=>(f c).bind λp c=>match Eo c (nrm p) with
 | some (.bool b)=>.ok b c
 | _=>.bad
theorem Hx (h:ME K t f):MT K (T7 t) (Aw f):=by
 intro g W c k Q R s
 refine h.toV _ W c _ _ R (s.bnd.mono λp l a v j b d e=>?_)
 match ex:Eo _ _,a with
 | some (.bool i),a=>exact⟨i,V4 (Ij d e ex),a _ b d⟩
 | some .none,a=>exact a.elim
 | some (.int _),a=>exact a.elim
 | some (.str _),a=>exact a.elim
 | some (.list _),a=>exact a.elim
 | some (.tuple _),a=>exact a.elim
 | some (.dict _),a=>exact a.elim
 | none,a=>exact a.elim
theorem Bd0 (h:ME K t f):MT K (tB t) (Aw f):=Hx h
noncomputable def Ax:m6:=λc=>.ok true c
theorem M7:MT K Br6 Ax:=λb W c a Q R s=>s W Stp.refl R
def Qx (f g:m6):m6:=λc=>(f c).bind λb c=>if b=true then g c else .ok false c
def cOr (f g:m6):m6:=λc=>(f c).bind λb c=>if b=true then .ok true c else g c
def My (f:m6):m6:=λc=>(f c).bind λb c=>.ok (!b) c
theorem Ba0 (h1:MT K t f) (h2:MT K u g):MT K (B4x t u) (Qx f g):=λn W c p Q R s =>
 h1 _ W c _ _ R (s.bnd.mono λb l h k a e=>by
  cases b with
  | true=>exact h2 _ _ _ _ _ e (h.mono λb m j o d i=>j _ (a.trans d) i)
  | false=>exact h _ a e)
theorem B6v (h1:MT K t f) (h2:MT K u g):MT K (tOr t u) (cOr f g):=λn W c p Q R s =>
 h1 _ W c _ _ R (s.bnd.mono λb l h k a e=>by
  cases b with
  | false=>exact h2 _ _ _ _ _ e (h.mono λb m j o d i=>j _ (a.trans d) i)
  | true=>exact h _ a e)
theorem B1t (h1:MT K t f):MT K (B6m t) (My f):=λh W c g Q R s =>
 h1 _ W c _ _ R (s.bnd.mono λb j e i a d=>e _ a d)
theorem Aq4 {d:Wo}(R:Rep K β W c σ) (st:Stp d.S d.Hf d.H W.S W.Hf W.H) (s:∀v a e,Stp d.S d.Hf d.H (orS a.S e) a.Hf a.H->Rep K β a c σ->Ii K a σ (.o (.im (.bool b))) v e->Q v a.H):Q (.bl b) W.H :=
 R.here (o:=.im (.bool b)) rfl rfl λv a e f g r=>s v _ _ (st.trans f) g r
def Hj (f g:m7):m7:=λc=>(Aw f c).bind λb c=>if b=true then g c else .ok (.o (.im (.bool false))) c
def Yk (f g:m7):m7:=λc=>(Aw f c).bind λb c=>if b=true then .ok (.o (.im (.bool true))) c else g c
def Ly (f:m7):m7:=λc=>(Aw f c).bind λb c=>.ok (.o (.im (.bool (!b)))) c
def Hs (ft:m6)(f g:m7):m7:=λc=>(ft c).bind λb c=>if b=true then f c else g c
theorem Ve {r:U.R PV}{b:Wo}(s:r.sat λp c'=>∀v a d,Stp b.S b.Hf b.H (orS a.S d) a.Hf a.H->Rep K β a c' σ->Ii K a σ p v d->Q v a.H)(st:Stp b.S b.Hf b.H W.S W.Hf W.H) :
 r.sat λp c'=>∀v a d,Stp W.S W.Hf W.H (orS a.S d) a.Hf a.H->Rep K β a c' σ->Ii K a σ p v d->Q v a.H:=s.mono λp c k v a d e R r=>k v _ _ (st.trans e) R r
theorem A5x (h1:ME K h f) (h2:ME K e g):ME K (B1d h e) (Hj f g):=by
 intro k W c j Q R s
 refine Hx h1 _ W c _ _ R (s.bnd.mono λb m i l a d=>?_)
 cases b with
 | true=>exact h2 _ _ _ _ _ d (Ve i a)
 | false=>exact Aq4 d a i
theorem Bo5 {h e:TE}{f g:m7}(h1:ME K h f)(h2:ME K e g):ME K (B6k h e) (Yk f g):=by
 intro k W c j Q R s
 refine Hx h1 _ W c _ _ R (s.bnd.mono λb m i l a d=>?_)
 cases b with
 | false=>exact h2 _ _ _ _ _ d (Ve i a)
 | true=>exact Aq4 d a i
theorem A5v (h1:ME K d f):ME K (B0q d) (Ly f):=by
 intro k W c h Q R s
 exact Hx h1 _ W c _ _ R (s.bnd.mono λb i g j a e=>Aq4 e a g)
theorem Ap5 (ht:MT K i ft) (h1:ME K e f) (h2:ME K h g):ME K (tIf i e h) (Hs ft f g):=by
 intro l W c k Q R s
 refine ht _ W c _ _ R (s.bnd.mono λb n j m a d=>?_)
 cases b with
 | true=>exact h1 _ _ _ _ _ d (Ve j a)
 | false=>exact h2 _ _ _ _ _ d (Ve j a)
def Bp (f:m7):Ev->R (w6):=λc=>(f c).bind λp c=>(frz (nrm p) c).bind λd c=>match d with
 | .list ds=>.ok ds c
 | .tuple ds=>.ok ds c
 | _=>.bad
theorem Bq3 (ha:Hf a=some (.lst vs)) (t:TrL Hf ds vs):Ar5 (Itl K a) Hf ds:=by
 intro i c H f g;have b:=g _ _ (f _ _ ha)
 refine⟨λe=>⟨vs,SqL.of b,by rw[<- t.length];omega⟩,λd j=>?_⟩
 obtain⟨v,h,k⟩:=t.got j
 refine⟨⟨vs,v,SqL.of b,h⟩,λx l ⟨e,q⟩=>?_⟩
 subst e;have:=q _ (SqL.of b);rw[h]at this
 cases this
 exact⟨c,Stp.refl,g,Tr.same f k⟩
theorem B2s (ha:Hf a=some (.tup vs)) (t:TrL Hf ds vs):Ar5 (Itt K a) Hf ds:=by
 intro i c H f g;have b:=g _ _ (f _ _ ha)
 refine⟨λe=>⟨vs,SqT.of b,by rw[<- t.length];omega⟩,λd j=>?_⟩
 obtain⟨v,h,k⟩:=t.got j
 refine⟨⟨vs,v,SqT.of b,h⟩,λx l ⟨e,q⟩=>?_⟩
 subst e;have:=q _ (SqT.of b);rw[h]at this
 cases this
 exact⟨c,Stp.refl,g,Tr.same f k⟩
theorem Oa (h:ME K t f):MI K (B2h K t) (Bp f):=by
 intro w W c B k R s
 refine h.toV _ W c _ _ R (s.bnd.mono λp A r v x l u q=>?_)
 obtain⟨d,y,z,_,b,o,i,m,e⟩:=N8 u q r.bnd;rw[<- o]
 match d,e,b with
 | .list _,e,b =>
  obtain⟨a,n,g,j,t⟩:=e;exact⟨a,g,.inl ⟨n,m.sub _ _ j,b _ _ (l.trans i) m (Bq3 j t)⟩⟩
 | .tuple _,e,b =>
  obtain⟨a,n,g,j,t⟩:=e;exact⟨a,g,.inr ⟨n,m.sub _ _ j,b _ _ (l.trans i) m (B2s j t)⟩⟩
 | .none,e,b=>exact b.elim
 | .bool _,e,b=>exact b.elim
 | .int _,e,b=>exact b.elim
 | .str _,e,b=>exact b.elim
 | .dict _,e,b=>trivial
noncomputable def Lp (lo:Int) (n:Nat):w6:=(List.range n).map λk=>.int (lo+(k:Nat))
theorem B2r : Ar5 (Itr lo n) Hf (Lp lo n):=by
 intro i b H g f
 have l:(Lp lo n).length=n:=by unfold Lp;simp_all
 refine⟨λe=>by show n<=i;omega,λd a=>?_⟩
 have c:i<n:=by
  grind
 refine⟨c,λx h ⟨e,q⟩=>?_⟩
 subst e;unfold Lp at a;rw[bD,gb c]at a
 cases a
 exact⟨b,Stp.refl,f,q⟩
def G9 (f:m7):Ev->R (w6):=λc=>(f c).bind λp c=>match Eo c (nrm p) with
 | some (.int j)=>if j<=16000000/\-16000000<=j then .ok (Lp 0 j.toNat) c else .bad
 | _=>.bad
theorem Y9 (h:ME K t f):MI K (B1j (Ej t Jb)) (G9 f):=by
 intro g W c m k R s
 refine h.toV _ W c _ _ R (s.bnd.mono λp n a v i b d e=>?_)
 match ex:Eo _ _,a with
 | some (.int j),a =>
  cases Dm (Ij d e ex)
  by_cases l:j<=16000000/\-16000000<=j
  ·have a:(if j<=16000000/\-16000000<=j then U.R.ok _ _ else .bad).sat _:=a
   rw[if_pos l]at a
   exact⟨j,rfl,by omega,by omega,a _ _ b d B2r⟩
  ·have a:(if j<=16000000/\-16000000<=j then U.R.ok _ _ else .bad).sat _:=a
   rw[if_neg l]at a;trivial
 | some .none,a=>exact a.elim
 | some (.bool _),a=>exact a.elim
 | some (.str _),a=>exact a.elim
 | some (.list _),a=>exact a.elim
 | some (.tuple _),a=>exact a.elim
 | some (.dict _),a=>exact a.elim
 | none,a=>exact a.elim
noncomputable def Lj (d:Option o5):o7:=match d with
 | some (.int i)=>some i
 | _=>none
theorem Sw (h:Lj d=some i):d=some (.int i):=by
 unfold Lj at h
 grind
def Ye (f g:m7):Ev->R (w6):=λc=>(f c).bind λp c=>(g c).bind λq c=>match Lj (Eo c (nrm p)),Lj (Eo c (nrm q)) with
 | some i,some j=>if (j<=16000000/\-16000000<=j)/\i<=16000000/\-16000000<=i then .ok (Lp i (j-i).toNat) c else .bad
 | _,_=>.bad
noncomputable def A2k:o5->Option (w6)
 | .list ds=>some ds
 | .tuple ds=>some ds
 | _=>none
theorem Bh2 (h:A2k d=some ds) (t:Tr Hf d v):∃b a c,v=.ref a/\SqK b Hf a c/\TrL Hf ds c:=by
 cases d with
 | list l=>cases h;obtain⟨a,c,e,f,t⟩:=t;exact⟨false,a,c,e,f,t⟩
 | tuple l=>cases h;obtain⟨a,c,e,f,t⟩:=t;exact⟨true,a,c,e,f,t⟩
 | none=>cases h
 | bool _=>cases h
 | int _=>cases h
 | str _=>cases h
 | dict _=>cases h
theorem Oz {c:Hp}(S:Same Hf c) (h:SqK b Hf a vs):SqK b c a vs:=by
 cases b
 ·exact S _ _ h
 ·exact S _ _ h
noncomputable def K9 (xs ys:w6):w6:=(xs.zip ys).map λp=>.tuple [p.1,p.2]
theorem B2q (ha:SqK t1 Hf a vs) (hb:SqK t2 Hf b us) (t:TrL Hf xs vs) (u:TrL Hf ys us):Ar5 (Itz t1 t2 a b) Hf (K9 xs ys):=by
 intro i B H j f;have m:=Oz (j.trans f) ha;have k:=Oz (j.trans f) hb
 have l:(K9 xs ys).length=min xs.length ys.length:=by unfold K9;simp_all
 refine⟨λe=>⟨vs,us,m,k,by rw[<- t.length,<- u.length,e];omega⟩,λd x=>?_⟩
 obtain⟨p,n,e⟩:=Q8 x;rw[ik]at n;obtain⟨h,r,v⟩:=t.got n.1;obtain⟨c,s,w⟩:=u.got n.2
 refine⟨⟨vs,us,h,c,m,k,r,s⟩,λz H' y=>?_⟩
 obtain⟨p,x',y',rfl,g,rfl,A,C⟩:=y;have:=A _ m;rw[r]at this;cases this;have:=C _ k;rw[s]at this;cases this;subst e;have q:=Bj (o:=.tup [h,c]) (Same.free f g);exact⟨upd _ p _,Stp.newF f g,Px f,p,[h,c],rfl,Be,h,[c],rfl,Tr.same q (Tr.same j v),c,[],rfl,Tr.same q (Tr.same j w),rfl⟩
def A8q (f g:m7):Ev->R (w6):=λc=>(f c).bind λp c=>(g c).bind λq c=>(frz (nrm p) c).bind λx c=>(frz (nrm q) c).bind λy c=>match A2k x,A2k y with
 | some xs,some ys=>.ok (K9 xs ys) c
 | _,_=>.bad
theorem B2a (h:ME K t f) (h':ME K u g):MI K (B6d (Ej t (Ej u Jb))) (A8q f g):=by
 intro β W c σ k R s
 refine h.toV _ W c _ _ R (s.bnd.mono λp c1 G v1 W1 l P v=>?_)
 refine h'.toV _ _ _ _ _ P (G.bnd.mono λq c2 w v2 W2 i A B=>?_)
 obtain⟨x,c3,W3,_,C,D,e,E,F⟩:=N8 A (RepA.same i.fz v) w.bnd;obtain⟨y,c4,W4,_,j,r,d,m,I⟩:=N8 E (RepA.same e.fz B) C.bnd
 cases ex:A2k x with
 | none=>simp only[ex]at j;trivial
 | some xs =>
  cases ey:A2k y with
  | none=>simp only[ex,ey]at j;trivial
  | some ys =>
   simp only[ex,ey]at j;obtain⟨J,a,L,rfl,H,N⟩:=Bh2 ex F;obtain⟨M,b,O,rfl,n,o⟩:=Bh2 ey I;rw[<- D,<- r];have z:=Oz d.fz H;exact⟨a,b,rfl,J,M,L,O,Oz m.sub z,Oz m.sub n,j _ _ (l.trans (i.trans (e.trans d))) m (B2q z n (TrL.same d.fz N) o)⟩
noncomputable def Z2 (xs:w6):w6:=(List.range xs.length).map λk=>.tuple [.int (k:Nat),xs.getD k .none]
noncomputable def O9 (x:Str):w6:=x.cps.toList.map λc=>.str ⟨#[c]⟩
def Vc (f:m7):Ev->R (w6):=λc=>(f c).bind λp c=>match Eo c (nrm p) with
 | some (.str x)=>.ok (O9 x) c
 | _=>.bad
theorem B3j {x:Str}:Ar5 (Its x) Hf (O9 x):=by
 intro i b H s1 g
 have l:(O9 x).length=x.cps.size:=by unfold O9;simp_all
 refine⟨λe=>by show i=x.cps.size;omega,λd h=>?_⟩
 obtain⟨c,f,e⟩:=Q8 h;rw[gG]at f
 have k:i<x.cps.size:=by
  grind
 refine⟨k,λz H' j=>?_⟩
 obtain⟨rfl,c',a,rfl⟩:=j;rw[f]at a;cases a;subst e;exact⟨b,Stp.refl,g,rfl⟩
theorem A4w {t:TE}{f:m7}(h:ME K t f):MI K (B5d t) (Vc f):=by
 intro g W c j k R s
 refine h.toV _ W c _ _ R (s.bnd.mono λp l a v i b d e=>?_)
 match ex:Eo _ _,a with
 | some (.str x),a=>exact⟨x,Fi (Ij d e ex),a _ _ b d B3j⟩
 | some (.int _),a=>exact a.elim
 | some .none,a=>exact a.elim
 | some (.bool _),a=>exact a.elim
 | some (.list _),a=>exact a.elim
 | some (.tuple _),a=>exact a.elim
 | some (.dict _),a=>exact a.elim
 | none,a=>exact a.elim
end
section
variable {K:q9}{X:Cx}{Hf H:Hp}{Q:VK}{β:Nat->V}{W W':Wo}{c:Ev}{σ:St}{v:V}{p:PV}{fp:u9}{i:Nat}{b:Bool}{ds:w6}
theorem B1y (R:Rep K β W c σ)(r:Ii K W σ p v fp):∃W',W'.H=W.H/\Stp (orS W.S fp) W.Hf W.H W'.S W'.Hf W'.H/\Rep K β W' c σ/\RepA K W'.Hf σ (nrm p) v:=by
 have f:Stp (orS W.S fp) W.Hf W.H _ _ _:=Stp.refl.up λa z=>.inl z
 cases p with
 | sl i=>exact⟨W,rfl,f,R,r.2⟩
 | o o =>
  cases o with
  | im d=>exact⟨W,rfl,f,R,r.1.2⟩
  | sc d=>exact⟨W,rfl,f,R,r.1.2⟩
  | ty d=>exact⟨W,rfl,f,R,r.1.2⟩
  | ls b ds =>
   obtain⟨⟨a,h,rfl,rfl,g,j,t⟩,l⟩:=r
   refine⟨⟨upd _ a _,W.H,W.fps⟩,rfl,⟨Bj g,λb o e _=>e,λb o e mu n q=>?_,λb z=>.inl (.inl z)⟩,Vq R g j (l a (.head _)),a,h,rfl,Be,TrL.same (Bj g) t⟩
   have k:b≠a:=λz=>n (.inr (by grind))
   show upd _ a _ b=none
   rw[Al k];grind
theorem Rep.mut (R:Rep K β W c σ)(hc:c[i]?=some (some (.ls b ds)))(hv:σ[i]?=some (some v)):∃a h,v=.ref a/\W.H a=some (.lst h)/\TrL W.Hf ds h /\
 ∀f d,TrL W.Hf f d->Rep K β ⟨W.Hf,upd W.H a (.lst d),W.fps⟩ (c.set i (some (.ls b f))) σ/\Stp W.S W.Hf W.H W.S W.Hf (upd W.H a (.lst d)):=by
 obtain⟨m,p,⟨a,h,rfl,w,A,H,t⟩,B⟩:=R.get i _ hc
 cases (show some _=some _ from p.symm.trans hv)
 have D:i<c.length:=by
  grind
 have s:a∈W.fps i:=by rw[w];exact .head _
 refine⟨a,h,rfl,H,t,λf d F=>⟨⟨λb u e=>?_,by rw[bM];exact R.len,λj o e=>?_,R.dis,λj x g=>?_⟩,⟨Same.refl _,λx o e n=>?_,λx o e r n q=>q,λx z=>.inl z⟩⟩⟩
 ·have E:b≠a:=λz=>by rw[z,A]at e;cases e
  show upd _ a _ b=_
  rw[Al E];exact R.sub b u e
 ·by_cases z:j=i
  ·subst z
   rw[bC D]at e
   cases e
   exact⟨.ref a,p,⟨a,d,rfl,w,A,Be,F⟩,B⟩
  ·rw[bI λy=>z y.symm]at e
   obtain⟨m,k,G,l⟩:=R.get j o e
   refine⟨m,k,G.mono (Same.refl _) λx g=>⟨(R.own j x g).1,?_⟩,l⟩
   show upd _ a _ x=_
   rw[Al];intro q;rw[q]at g;exact z (R.dis j i a g s)
 ·obtain⟨I,o,C,r⟩:=R.own j x g
  refine⟨I,?_⟩
  by_cases z:x=a
  ·exact⟨.lst _,by rw[z];exact Be,trivial⟩
  ·exact⟨o,by show upd _ a _ x=_;rw[Al z];exact C,r⟩
 ·rw[Al]
  ·exact e
  ·intro z;exact n ⟨i,by rw[z];exact s⟩
noncomputable def slL (c:Ev) (p:PV):Option (Nat×Bool×w6):=match p with
 | .sl i=>match c[i]? with
  | some (some (.ls b ds))=>some (i,b,ds)
  | _=>none
 | _=>none
theorem Aq0 (h:slL c p=some x):p=.sl x.1/\c[x.1]?=some (some (.ls x.2.1 x.2.2)):=by
 unfold slL at h
 grind
def Hd (fo fe:m7):m7:=λc=>(fo c).bind λp c=>if (slL c (nrm p)).isSome=true then (fe c).bind λq c=>(frz (nrm q) c).bind λd c=>match slL c (nrm p) with
 | some (i,b,ds)=>if ds.length<16000000 then .ok (.o (.im .none)) (c.set i (some (.ls b (ds++[d])))) else .bad
 | none=>.bad
 else .bad
theorem Bd3 {b:Wo}(R:Rep K β W c σ)(st:Stp b.S b.Hf b.H W.S W.Hf W.H)(s:∀v a d,Stp b.S b.Hf b.H (orS a.S d) a.Hf a.H->Rep K β a c σ->Ii K a σ (.o (.im .none)) v d->Q v a.H):Q .non W.H :=
 R.here (o:=.im .none) rfl rfl λv a d e f r=>s v _ _ (st.trans e) f r
theorem ty_list (R:Rep K β W c σ)(h:(slL c p).isSome=true)(r:RepA K W.Hf σ p v):tyV K "list" v W.H:=by
 obtain⟨x,d⟩:=Option.isSome_iff_exists.mp h;obtain⟨rfl,e⟩:=Aq0 d;obtain⟨a,f,rfl,b,_⟩:=R.mut e r;exact .inl ⟨rfl,f,SqL.of b⟩
theorem Aw8 {v fe:m7}(ho:ME K u v) (he:ME K o fe):ME K (tBM K "list" rAppF u (Ej o Jb)) (Hd v fe):=by
 intro β W c σ Q R s
 refine ho.toV _ W c _ _ R (s.bnd.mono λp y f v1 W1 h r j=>?_)
 by_cases hs:(slL y (nrm p)).isSome=true
 ·rw[if_pos hs]at f
  refine⟨ty_list r hs j,he.toV _ _ _ _ _ r (f.bnd.mono λq c2 D H W2 m z w=>?_)⟩
  obtain⟨d,A,W3,_,e,C,n,E,F⟩:=N8 z w D.bnd
  cases ex:slL A (nrm p) with
  | none=>simp only[ex]at e;exact e.elim
  | some x =>
   simp only[ex]at e;obtain⟨i,b,G⟩:=x;obtain⟨B,I⟩:=Aq0 ex;rw[B]at j;obtain⟨a,J,rfl,L,t,k⟩:=E.mut I j
   by_cases l:G.length<16000000
   ·rw[if_pos l]at e
    obtain⟨M,g⟩:=k _ _ (t.app (TrL.one F));rw[<- C]
    refine⟨a,H,J,rfl,rfl,L,by rw[<- t.length];exact gC l (by decide),?_⟩
    exact Bd3 M (h.trans (m.trans (n.trans g))) e
   ·rw[if_neg l]at e;exact e.elim
 ·rw[if_neg hs]at f;exact f.elim
def Ke (fo fe:m7):m7:=λc=>(fo c).bind λp c=>if (slL c (nrm p)).isSome=true then (fe c).bind λq c=>match slL c (nrm p),Lj (Eo c (nrm q)) with
 | some (i,b,ds),some k=>if ds.length<=16000000 then match ixN ds.length k with
  | some j=>match ds[j]? with
   | some d=>.ok (.o (.im d)) (c.set i (some (.ls b (ds.eraseIdx j))))
   | none=>.bad
  | none=>.bad
  else .bad
 | _,_=>.bad
 else .bad
theorem TrL.erase:∀{ds:w6}{vs:l_}(n:Nat),TrL Hf ds vs->TrL Hf (ds.eraseIdx n) (vs.eraseIdx n)
 | [],_,n,h=>by cases (show _=[] from h);exact rfl
 | d::ds,_,0,⟨v,r,rfl,_,t⟩=>t
 | d::ds,_,n+1,⟨v,r,rfl,q,t⟩=>⟨v,r.eraseIdx n,rfl,q,TrL.erase n t⟩
theorem TrL.setAt:∀{ds:w6}{vs:l_}(n:Nat) {d:o5}{v:V},TrL Hf ds vs->Tr Hf d v->TrL Hf (ds.set n d) (vs.set n v)
 | [],_,n,d,v,h,_=>by cases (show _=[] from h);exact rfl
 | e::ds,_,0,d,v,⟨u,r,rfl,_,t⟩,q=>⟨v,r,rfl,q,t⟩
 | e::ds,_,n+1,d,v,⟨u,r,rfl,h,t⟩,q=>⟨u,r.set n v,rfl,h,TrL.setAt n t q⟩
theorem Bc8 (ho:ME K z G) (he:ME K F fe):ME K (tBM K "list" rPopAt z (Ej F Jb)) (Ke G fe):=by
 intro B W c H Q R s
 refine ho.toV B W c H _ R (s.bnd.mono λp O g v1 W1 n A w=>?_)
 by_cases hs:(slL O (nrm p)).isSome=true
 ·rw[if_pos hs]at g
  refine⟨ty_list A hs w,he.toV B _ _ _ _ A (g.bnd.mono λq D e v2 W2 h E I=>?_)⟩
  cases ex:slL D (nrm p) with
  | none=>simp only[ex]at e;exact e.elim
  | some x =>
   obtain⟨i,b,l⟩:=x
   cases ey:Lj (Eo D (nrm q)) with
   | none=>simp only[ex,ey]at e;exact e.elim
   | some k =>
    simp only[ex,ey]at e
    by_cases hl:l.length<=16000000
    case neg=>rw[if_neg hl]at e;exact e.elim
    rw[if_pos hl]at e
    cases ej:ixN l.length k with
    | none=>simp only[ej]at e;exact e.elim
    | some j =>
     simp only[ej]at e
     cases ed:l[j]? with
     | none=>simp only[ed]at e;exact e.elim
     | some d =>
      simp only[ed]at e;obtain⟨L,N⟩:=Aq0 ex;rw[L]at w
      cases Dm (Ij E I (Sw ey))
      obtain⟨a,C,rfl,P,t,S⟩:=E.mut N w;obtain⟨y,M,U⟩:=t.got ed;obtain⟨T,q2,q3,q4⟩:=As6 ej;obtain⟨V,m⟩:=S _ _ (TrL.erase j t)
      have u:seqIndex? k C.length=some j:=by rw[<- t.length];exact T
      have f:-2 ^ 63<=k/\k<2 ^ 63:=by omega
      refine⟨a,C,k,j,y,rfl,rfl,P,f.1,f.2,u,M,?_⟩
      exact V.here (o:=.im d) U rfl λv W' fp X J r=>e v _ _ (n.trans (h.trans (m.trans X))) J r
 ·rw[if_neg hs]at g;exact g.elim
def A0d (fo:m7):m7:=λc=>(fo c).bind λp c=>match slL c (nrm p) with
 | some (i,b,ds)=>match ds[ds.length-1]? with
  | some d=>.ok (.o (.im d)) (c.set i (some (.ls b ds.dropLast)))
  | none=>.bad
 | none=>.bad
def Lb (fo:m7):m7:=λc=>(fo c).bind λp c=>match slL c (nrm p) with
 | some (i,b,ds)=>.ok (.o (.im .none)) (c.set i (some (.ls b ds.reverse)))
 | none=>.bad
def A1o (fo fe:m7):m7:=λc=>(fo c).bind λp c=>if (slL c (nrm p)).isSome=true then (fe c).bind λq c=>(frz (nrm q) c).bind λd c=>match slL c (nrm p),d with
 | some (i,b,ds),.list es=>if ds.length+es.length<=16000000 then .ok (.o (.im .none)) (c.set i (some (.ls b (ds++es)))) else .bad
 | _,_=>.bad
 else .bad
def Qn (fo fi:m7):n8:=λp c=>(frz (nrm p) c).bind λd c=>(fo c).bind λo c=>(fi c).bind λq c=>match slL c (nrm o),Lj (Eo c (nrm q)) with
 | some (i,b,ds),some k=>match ixN ds.length k with
  | some j=>.ok () (c.set i (some (.ls b (ds.set j d))))
  | none=>.bad
 | _,_=>.bad
theorem B2g (ho:ME K u A) (hi:ME K z fi):MG K (B5f u z Bz8) (Qn A fi):=by
 intro β W c σ p v fp k R r s;obtain⟨W0,M,l,C,F⟩:=B1y R r;obtain⟨d,c1,W1,_,D,E,n,G,I⟩:=N8 C F s.bnd;rw[<- M,<- E]
 refine ho.toV _ _ _ _ _ G (D.bnd.mono λo c2 J v2 W2 g L w=>?_)
 refine hi.toV _ _ _ _ _ L (J.bnd.mono λq y e v3 W3 f B N=>?_)
 cases ex:slL y (nrm o) with
 | none=>simp only[ex]at e;exact e.elim
 | some x =>
  obtain⟨i,b,O⟩:=x
  cases ey:Lj (Eo y (nrm q)) with
  | none=>simp only[ex,ey]at e;exact e.elim
  | some m =>
   simp only[ex,ey]at e
   cases ej:ixN O.length m with
   | none=>simp only[ej]at e;exact e.elim
   | some j =>
    simp only[ej]at e;obtain⟨H,Q⟩:=Aq0 ex;rw[H]at w
    cases Dm (Ij B N (Sw ey))
    obtain⟨a,S,rfl,P,t,T⟩:=B.mut Q w;obtain⟨U,h⟩:=T _ _ (TrL.setAt j t (Tr.same (g.trans f).fz I))
    refine⟨a,S,m,j,rfl,rfl,P,by rw[<- t.length];exact ej,?_⟩
    exact e _ _ (l.trans (n.trans (g.trans (f.trans h)))) U
def Rh (i j:Nat)(f:m5):Ev->SR:=λc=>(f c).toS λps c=>(frzs ps c).toS λds c=>match ds with
 | [x,y]=>.nx ((c.set i (some (.im x))).set j (some (.im y)))
 | _=>.bad
theorem Bc9 (h:Wo.S ⟨W.Hf,W.H,clr W.fps i⟩ a):W.S a:=B1u h
theorem B3i (h:MA K m f):MS K (B6f i j m) (Rh i j f):=by
 intro β W c σ D R l
 refine h _ W c _ _ R ((Gd l).mono λps c1 C vs W1 k t w=>?_)
 obtain⟨A,c2,n,b,s,g,q,d⟩:=Vn t w (Gd C)
 match A,d,b with
 | [x,y],d,b =>
  obtain⟨v,r,rfl,B,u,r',rfl,E,e⟩:=d
  cases (e)
  refine⟨v,u,rfl,?_⟩
  have p:=q.setN (i:=i) (o:=.im x) B rfl;rw[<- s]
  exact b _ ⟨n.Hf,n.H,clr _ j⟩ ((k.trans g).less λa z=>Bc9 (Bc9 z)) (p.setN (i:=j) (o:=.im y) E rfl)
 | [],d,b=>trivial
 | [_],d,b=>trivial
 | _::_::_::_,d,b=>exact b.elim
def Rg (i j m:Nat)(f:m5):Ev->SR:=λc=>(f c).toS λps c=>(frzs ps c).toS λds c=>match ds with
 | [x,y,z]=>.nx (((c.set i (some (.im x))).set j (some (.im y))).set m (some (.im z)))
 | _=>.bad
theorem Bt9 {i j m:Nat}{n:TA}{f:m5}(h:MA K n f):MS K (Bz4 i j m n) (Rg i j m f):=by
 intro β W c σ D R l
 refine h _ W c _ _ R ((Gd l).mono λps c1 s vs W1 k t A=>?_)
 obtain⟨B,c2,p,b,C,g,E,d⟩:=Vn t A (Gd s)
 match B,d,b with
 | [x,y,z],d,b =>
  obtain⟨v,r,rfl,G,u,r',rfl,F,w,H,rfl,I,e⟩:=d
  cases (e)
  refine⟨v,u,w,rfl,?_⟩
  have q:=(E.setN (i:=i) (o:=.im x) G rfl).setN (i:=j) (o:=.im y) F rfl;rw[<- C]
  exact b _ ⟨p.Hf,p.H,clr _ m⟩ ((k.trans g).less λa z=>Bc9 (Bc9 (Bc9 z))) (q.setN (i:=m) (o:=.im z) I rfl)
 | [],d,b=>trivial
 | [_],d,b=>trivial
 | [_,_],d,b=>trivial
 | _::_::_::_::_,d,b=>exact b.elim
end
end U
set_option autoImplicit true
namespace L2
open PySem U
theorem Bf (ha:QE X a ta)(hb:QE X b tb):QE X (.BinOp a .Add b pos) (tOp B4i ta tb):=⟨Xz B3a ha.get hb.get⟩
theorem J3 (hu:X.A.units+64<cLine)(ha:QE X a ta)(hb:QE X b tb):QE X (.Compare a [.Eq] [b] pos) (tOp rEQ ta tb):=⟨Qk (B1f hu) ha.get hb.get (Lf _)⟩
theorem Lz (hu:X.A.units+64<cLine)(ha:QE X a ta)(hb:QE X b tb):QT X (.Compare a [.Eq] [b] pos) (T7 (tOp rEQ ta tb)):=⟨Pj (B1f hu) ha.get hb.get (Lf _)⟩
theorem B6n (hu:X.A.units+64<cLine)(ha:QE X a ta)(hb:QE X b tb):QE X (.Compare a [.NotEq] [b] pos) (tOp rNE ta tb):=⟨Qk (B0e hu) ha.get hb.get (Lf _)⟩
theorem An7 (hu:X.A.units+64<cLine)(ha:QE X a ta)(hb:QE X b tb):QT X (.Compare a [.NotEq] [b] pos) (T7 (tOp rNE ta tb)):=⟨Pj (B0e hu) ha.get hb.get (Lf _)⟩
theorem B0s (ha:QE X a ta)(hb:QE X b tb):QE X (.Compare a [.LtE] [b] pos) (tOp rLE ta tb):=⟨Qk B5t ha.get hb.get (Lf _)⟩
theorem Bb0 (hu:X.A.units+64<cLine)(ha:QE X a ta)(hb:QE X b tb)(hm:behindInMarks .In b=false):QE X (.Compare a [.In] [b] pos) (tOp rIN ta tb):=⟨Qk (B5q hu) ha.get hb.get hm⟩
theorem Gk (a:X.K=Kq) (hgl:Gl X "len") (hm:X.mg "len" = none) (ha:QA X (e::es) t) (hns:noStar (e::es)=true:=by rfl):QE X (.Call (.Name "len" p) (e::es) [] pos) (tCB (Bp7 Kq) t):=by
 subst a
 exact⟨Jj Bk7 hgl hm A3y ha.get (by decide) (by rfl) hns⟩
theorem Bm7 (a:X.K=Kq) (hu:X.A.units+64<cLine) (hg:X.A.guards=some []) (hgl:Gl X "str") (hm:X.mg "str" = none) (ha:QA X (e::es) t) (hns:noStar (e::es)=true:=by rfl):QE X (.Call (.Name "str" p) (e::es) [] pos) (tCB (B3o Kq) t):=by
 exact⟨Mt (U.CallR.or (U.CallR.or Aq1 (A7r hu hg)) A8i) hgl hm Rx ha.get (by decide) (by rfl) hns⟩
theorem Io (a:X.K=Kq) (he:QE X e te) (hl:QO X low tl) (hu:QO X hi th):QE X (.Subscript e (.Slice low hi none p2) pos) (tSl (rSL Kq) te tl th):=by
 subst a;exact Bn4 B3z he hl hu
end L2
namespace U
open PySem L2
def Def (P:p7)(w:World)(K:q9)(mg:x_)(base:Heap)(x:Str)(k:Nat)(ps:v_)(sp:Sp):Prop :=
 ∃(f:Addr) (fd:p6),FnOk P w K mg base CX0 k f fd ps sp/\Binds K fd ps []/\PySem.W.keepIn K (.ref f)=true/\mg x=some (.ref f)
def Bd5 (K:q9):Sp:=λvs H Q _=>∃(a:Addr) (ns:List Int),vs=[.ref a]/\SqL K H a (ns.map V.int)/\ns.length<=63/\∀H',Q (.bl true) H'
theorem B4q (f:∀b:List Int,b.length<=63->F [.sc b]=.ret (.im (.bool true)) [.sc b]) (h:Bd5 K vs H Q E):spP K F vs H Q E:=by
 obtain⟨a,b,rfl,c,d,q⟩:=h
 refine⟨λ_=>.non,⟨H,H,λ_=>[]⟩,[.sc b],rfl,rfl,⟨Same.refl _,rfl,λi o e=>?_,λi j a h=>by grind,λi a h=>by grind⟩,?_⟩
 ·cases i with
  | zero =>
   cases (show some _=some _ from e)
   exact⟨.ref a,rfl,⟨rfl,a,rfl,c⟩,λz=>nomatch z⟩
  | succ i=>grind
 ·rw[f _ d]
  intro v W' fp st R r n
  cases (show v=.bl _ from r.2)
  grind
theorem Bg1 : FnOk P w K mg base CX0 n f c ps (spP K λ_=>.bad) :=
 ⟨λd H Q E h=>by obtain⟨_,_,_,_,_,_,h⟩:=h;simp_all,λA a s H b e d Q E _ _ _ _ h=>by obtain⟨_,_,_,_,_,_,h⟩:=h;simp_all⟩
noncomputable def A6j (i j:Int):Bool:=decide (0<j)&&decide (j<1073741824)
theorem Bh8 (i j:Int)(h:A6j i j=true):By5 i j:=by
 obtain⟨b,a⟩:=aF.mp h;exact⟨aQ b,aQ a⟩
noncomputable def Bk6 (i j:Int):Bool:=decide (0<j)
theorem Bb7 (i j:Int)(h:Bk6 i j=true):0<j:=aQ h
noncomputable def A1v (i j:Int):Bool:=decide (0<=j)&&(decide (j<=1000000)&&decide (i.natAbs<2 ^ 64))
theorem Bo4 (i j:Int)(h:A1v i j=true):Bs7 i j:=by
 obtain⟨c,a⟩:=aF.mp h;obtain⟨a,b⟩:=aF.mp a;exact⟨aQ c,aQ a,aQ b⟩
section
variable {K:q9}
abbrev J4:o5->o5->m_:=Qy λi j=>.int (i-j)
abbrev Tz:o5->o5->m_:=Qy λi j=>.bool (decide (j<i))
abbrev Xo:o5->o5->m_:=Qy λi j=>.bool (decide (j<=i))
theorem Bw9:OpS K (rI0 λi j=>.int (i-j)) J4:=Ax6 λ_ _ _=>rfl
theorem B3k:OpS K (rI0 λi j=>.bl (decide (j<i))) Tz:=Ax6 λ_ _ _=>rfl
theorem Bg2:OpS K (rI0 λi j=>.bl (decide (j<=i))) Xo:=Ax6 λ_ _ _=>rfl
abbrev Jv:o5->o5->m_:=opI A6j λi j=>i / j
abbrev K5:o5->o5->m_:=opI Bk6 λi j=>i % j
abbrev Ma:o5->o5->m_:=opI A1v λi j=>i ^ j.toNat
theorem A0p:OpS K (rI By5 λi j=>.int (i / j)) Jv:=A5t Bh8
theorem Bw0:OpS K (rI (λ_ j=>0<j) λi j=>.int (i % j)) K5:=A5t Bb7
theorem Bx6:OpS K (rI Bs7 λi j=>.int (i ^ j.toNat)) Ma:=A5t Bo4
def Ag5 (fa fb:m7):m7:=λc=>(fa c).bind λp c=>(fb c).bind λq c=>match nrm p,Lj (Eo c (nrm q)) with
 | .o (.sc ns),some k=>match atI ns k with
  | some i=>.ok (.o (.im (.int i))) c
  | none=>.bad
 | _,_=>.bad
theorem Bw2 (h:atI ns k=some i):atI (ns.map V.int) k=some (V.int i):=by
 unfold atI at h ⊢;obtain⟨j,b,a⟩:=eU.mp h
 simp_all
theorem B4l (ha:ME K h fa) (hb:ME K j fb):ME K (tOp (rIx K) h j) (Ag5 fa fb):=by
 intro β W c σ Q R s
 refine ha.toV _ W c _ _ R (s.bnd.mono λp c1 u v1 W1 f n d=>?_)
 refine hb.toV _ _ _ _ _ n (u.bnd.mono λq t b v2 W2 e g m=>?_)
 have d:=RepA.same e.fz d
 cases ey:Lj (Eo t (nrm q)) with
 | none =>
  simp only[ey]at b;generalize nrm p=np at b
  cases np with
  | sl i=>trivial
  | o o=>cases o <;> exact b.elim
 | some k =>
  simp only[ey]at b;generalize nrm p=np at b d
  match np,d,b with
  | .o (.sc ns),d,b =>
   have b:(match atI ns k with
    | some i=>U.R.ok _ _
    | none=>.bad).sat _:=b
   cases ei:atI _ k with
   | none=>rw[ei]at b;trivial
   | some i =>
    rw[ei]at b;obtain⟨a,rfl,w⟩:=d
    cases Dm (Ij g m (Sw ey))
    exact .inl ⟨a,_,k,.int i,rfl,rfl,Same.seq g.sub w,Bw2 ei,g.here (o:=.im (.int i)) rfl rfl λv W' fp x l r=>b v _ _ (f.trans (e.trans x)) l r⟩
  | .o (.im _),d,b=>exact b.elim
  | .o (.ls _ _),d,b=>exact b.elim
  | .o (.ty _),d,b=>exact b.elim
  | .sl _,d,b=>trivial
end
section
variable {P:p7}{w:World}{K:q9}{Hf H:Hp}{Q:VK}{W:Wo}{c:Ev}{v:V}
def cMt (isT:o5->Bool)(op:o5->o5->m_)(fa fb:m7):m7:=λc=>(fa c).bind λp c=>match Eo c (nrm p) with
 | some d=>if isT d=true then (fb c).bind λq c=>match Eo c (nrm p),Eo c (nrm q) with
  | some x,some y=>match op x y with
   | some o=>.ok (.o o) c
   | none=>.bad
  | _,_=>.bad
  else .bad
 | none=>.bad
theorem J2 (ha:ME K l fa) (hb:ME K m fb)
 (n:∀(Hf H:Hp) (d:o5) (v:V),a d=true->Same Hf H->RdV Hf H d v->tyV K T v H) (hr:OpS K (λx y H Q=>r x [y] H Q) op):ME K (tBM K T r l (Ej m Jb)) (cMt a op fa fb):=by
 intro E W c C Q R s
 refine ha.toV _ W c _ _ R (s.bnd.mono λp w e B D i h j=>?_)
 cases ed:Eo w (nrm p) with
 | none=>simp only[ed]at e;trivial
 | some d =>
  simp only[ed]at e
  by_cases it:a d=true
  case neg=>rw[if_neg it]at e;trivial
  rw[if_pos it]at e
  refine⟨n _ _ d _ it h.sub (Ij h j ed),?_⟩
  refine hb.toV _ _ _ _ _ h (e.bnd.mono λq k b I J f g u=>?_)
  cases ex:Eo k (nrm p) with
  | none=>simp only[ex]at b;trivial
  | some x =>
   cases ey:Eo k (nrm q) with
   | none=>simp only[ex,ey]at b;trivial
   | some y =>
    simp only[ex,ey]at b
    cases eo:op x y with
    | none=>simp only[eo]at b;trivial
    | some o =>
     simp only[eo]at b
     exact hr _ _ _ _ x y o Q g.sub (Ij g (RepA.same f.fz j) ex) (Ij g u ey) eo (New.of g λv F G z A t=>b v _ _ (i.trans (f.trans z)) A t)
noncomputable def strsOf:w6->Option (v_)
 | []=>some []
 | .str z::ds=>(strsOf ds).map (z::·)
 | _=>none
theorem Ae7:∀{ds:w6}{ss:v_}{vs:l_},strsOf ds=some ss->TrL Hf ds vs->vs=ss.map V.str
 | [],ss,vs,h,t=>by cases h;exact t
 | d::ds,ss,_,h,⟨v,r,rfl,h1,h2⟩=>by
  cases d with
  | str z =>
   have h:(strsOf ds).map (z::·)=some ss:=h
   cases e:strsOf ds with
   | none=>rw[e]at h;cases h
   | some ts =>
    rw[e]at h;cases h
    rw[Ae7 e h2,show v=V.str z from h1];rfl
  | _=>cases h
def V0:o5->m_
 | .tuple ds=>(strsOf ds).bind λss=>if ss.length<1000 then some (.im (.int ((dst (ss.map λx=>(Sum.inr x:Key))).length:Nat))) else none
 | _=>none
theorem A3w:UnS K (λx H Q=>Al7 P w K [x] H λy H=>Wh P w [y] H Q) V0:=by
 intro Hf H x d o Q s c e n
 match d,c,e with
 | .tuple ds,c,e =>
  have e:((strsOf _).bind _)=some o:=e;obtain⟨a,vs,rfl,i,t⟩:=Jt s c
  cases es:strsOf ds with
  | none=>simp_all
  | some g =>
   rw[es]at e
   have e:(if g.length<1000 then some _ else none)=some o:=e
   split at e
   ·cases e
    cases Ae7 es t
    refine⟨a,_,g.map λx=>(Sum.inr x),rfl,SqT.of i,?_,by simp_all,λp f=>⟨p,_,rfl,Be,?_,?_⟩⟩
    ·rw[aN,aN];rfl
    ·exact bu (Y4 _ _ rfl) (by simp_all)
    ·refine n _ _ _ [] ⟨λ_ _ h=>h,λb u e _=>?_,λ_ _ _ _ _ h=>h,λ_ h=>nomatch h⟩ (λb u e=>?_) ⟨rfl,rfl⟩
     ·exact Bj f b u e
     ·exact Bj f b u (s b u e)
   grind
theorem A8d {t:TE}{f:m7}(h:ME K t f):ME K (tCB (Wh P w) (Ej (tCB (Al7 P w K) (Ej t Jb)) Jb)) (cUn V0 f):=X8 (r:=λx H Q=>Al7 P w K _ H _) h A3w
end
end U
namespace U
open PySem L2 PySem.W
end U
namespace U
open PySem L2
section
variable {K:q9}{Hf H:Hp}
noncomputable def Dd:o5->Bool
 | .str _=>true
 | _=>false
theorem Hm (Hf H:Hp)(d:o5)(v:V)(h:Dd d=true)(s:Same Hf H)(r:RdV Hf H d v):tyV K "str" v H:=by
 cases d with
 | str x=>cases (show v=.str x from r);rfl
 | _=>cases h
def Iv:o5->o5->m_
 | .str sep,.list ds=>(strsOf ds).bind λss=>if ss.toArray.foldl (·+·.length+sep.length) 0<=16000000/\(Jw sep ss).length<=16000000 then some (.im (.str (Jw sep ss))) else none
 | _,_=>none
theorem Hq:OpS K (λx y H Q=>rJoin K x [y] H Q) Iv:=by
 intro Hf H x y dx dy o Q s rx ry e n
 match dx,dy,rx,ry,e with
 | .str z,.list ds,rx,ry,e =>
  obtain⟨ss,e1,e2⟩:=eU.mp (show ((strsOf ds).bind λss=>if ss.toArray.foldl (·+·.length+z.length) 0<=16000000/\(Jw z ss).length<=16000000 then some (O.im (.str (Jw z ss))) else none)=some o from e)
  by_cases hb:ss.toArray.foldl (·+·.length+z.length) 0<=16000000/\(Jw z ss).length<=16000000
  ·rw[if_pos hb]at e2
   cases e2
   obtain⟨a,vs,rfl,h1,t⟩:=Jq ry
   cases Ae7 e1 t
   exact⟨z,a,ss,rx,rfl,SqL.of h1,lim hb.1,lim hb.2,n.str s⟩
  ·rw[if_neg hb]at e2;cases e2
end
end U
set_option autoImplicit true
namespace U
open PySem L2
end U
set_option autoImplicit true
namespace U
open PySem L2
end U
set_option autoImplicit true
namespace U
open PySem L2
def Pr (ft:m6)(body:Ev->SR):Nat->Ev->SR
 | 0,_=>.bad
 | n
  + 1,c=>(ft c).toS λb c=>if b=true then match body c with
  | .nx c=>Pr ft body n c
  | .ct c=>Pr ft body n c
  | .bk c=>.nx c
  | .rt p c=>.rt p c
  | .bad=>.bad
  else .nx c
section
variable {K:q9}{β:Nat->V}{W:Wo}{c:Ev}{σ σ':St}{D:Ends}{H:Hp}{v:V}{fp:u9}
theorem A0m {tc:TT}{tb:TS}{ft:m6}{body:Ev->SR}{n:Nat}(h:MT K tc ft)(hb:MS K tb body):MS K (Bl6 tc tb) (Pr ft body n):=by
 intro β W c σ D R l
 refine⟨λm σ H=>∃W2 c2,W2.H=H/\Rep K β W2 c2 σ/\zU K β W2 D (Pr ft body m c2),⟨n,W,c,rfl,R,l⟩,?_⟩
 rintro m σ H ⟨W2,c2,rfl,R2,l2⟩
 cases m with
 | zero=>exact l2.elim
 | succ m =>
  refine h β W2 c2 σ _ R2 ((Gd l2).mono λb c3 l3 W3 st3 R3=>?_)
  cases b with
  | false=>rw[if_neg aR]at l3 ⊢;exact l3 σ W3 st3 R3
  | true =>
   rw[if_pos rfl]at l3 ⊢
   refine⟨λσ' H'=>∃W4 c4,W4.H=H'/\Rep K β W4 c4 σ'/\zU K β W4 D (Pr ft body m c4),λσ' H' q=>⟨m,bY m,q⟩,?_⟩
   refine hb β W3 c3 σ _ R3 ?_
   cases ebd:body c3 with
   | nx c4=>simp only[ebd]at l3;exact λσ4 W4 st4 R4=>⟨W4,c4,rfl,R4,zU.step l3 (st3.trans st4)⟩
   | ct c4=>simp only[ebd]at l3;exact λσ4 W4 st4 R4=>⟨W4,c4,rfl,R4,zU.step l3 (st3.trans st4)⟩
   | bk c4=>simp only[ebd]at l3;exact λσ4 W4 st4 R4=>l3 σ4 W4 (st3.trans st4) R4
   | rt p c4=>simp only[ebd]at l3;exact λσ4 v W4 fp st4 R4 r4=>l3 σ4 v W4 fp (st3.trans st4) R4 r4
   | bad=>simp only[ebd]at l3;exact l3.elim
end
def Qo:o5->o5->m_:=Qy λi j=>.bool (decide (i<j))
theorem A6m : OpS K (rI0 λi j=>.bl (decide (i<j))) Qo:=Ax6 λ_ _ _=>rfl
theorem B4w (l:Xv i j=true):CMul i j:=by
 unfold Xv at l;rw[Bool.or_eq_true_iff,aF,aF]at l
 rcases l with ⟨b,a⟩ | ⟨b,a⟩
 ·exact .inl ⟨aQ b,aQ a⟩
 ·exact .inr ⟨aQ b,aQ a⟩
def Ld:o5->o5->m_:=opI Xv λi j=>i*j
theorem Ba3 : OpS K (rI CMul λi j=>.int (i*j)) Ld:=A5t λ_ _=>B4w
noncomputable def Cq:o5->m_
 | .list ds=>some (.im (.tuple ds))
 | .tuple ds=>some (.im (.tuple ds))
 | _=>none
theorem Bk3 : UnS K (λx H Q=>Li K [x] H Q) Cq:=by
 intro Hf H x d o Q s r e n;unfold Cq at e
 split at e
 ·cases e
  obtain⟨a,b,rfl,c,t⟩:=Jq r
  exact⟨a,b,rfl,.inl ⟨SqL.of c,λl f=>n.tup s t f⟩⟩
 ·cases e
  obtain⟨a,b,rfl,c,t⟩:=Jt s r;exact⟨a,b,rfl,.inr ⟨SqT.of c,n.same s r⟩⟩
 grind
def B4k (K:q9):R2:=λx y H Q=>B3d K x y H Q\/B4d K x y H Q
def Ar:o5->o5->m_
 | .list ds,.int i=>(atI ds i).map O.im
 | .tuple ds,.int i=>(atI ds i).map O.im
 | _,_=>none
theorem G3 : OpS K (B4k K) Ar:=by
 intro Hf H x y dx dy o Q s i j e n;unfold Ar at e
 split at e
 ·obtain⟨d,g,rfl⟩:=bc.mp e
  obtain⟨a,c,rfl,f,t⟩:=Jq i;obtain⟨v,h,b⟩:=Au9 t g;exact .inl ⟨a,c,_,v,rfl,Dm j,SqL.of f,h,n.same s b⟩
 ·obtain⟨d,g,rfl⟩:=bc.mp e
  obtain⟨a,c,rfl,f,t⟩:=Jt s i;obtain⟨v,h,b⟩:=Au9 t g;exact .inr ⟨a,c,_,v,rfl,Dm j,SqT.of f,h,n.same s b⟩
 grind
end U
namespace L2
open PySem
section
variable {X:Cx}{a b:Expr}{ta tb:TE}{pos:Pos}
theorem Cj (c:X.K=Kq) (ha:QE X a ta) (hb:QE X b tb) (hs:Nx b):QE X (.Subscript a b pos) (tOp (U.B4k Kq) ta tb):=by
 subst c;exact B0p (IxR.or ix_list ix_tup) ha hb hs
end
end L2
namespace U
open PySem L2 PySem.W
section
variable {K:q9}{W:Wo}{c:Ev}
def cFz (f:m7):m7:=λc=>(f c).bind λp c=>(frz (nrm p) c).bind λd c=>.ok (.o (.im d)) c
theorem B6p (h:ME K t f):ME K t (cFz f):=by
 intro y W c x Q R s
 refine h.toV _ W c _ Q R (s.bnd.mono λp n j v u e i k=>?_)
 obtain⟨d,o,r,_,l,w,b,m,g⟩:=N8 i k j.bnd
 have q:=l v _ [] ((e.trans b).less λa z=>z.elim id λz=>nomatch z) m ⟨⟨rfl,g⟩,λa z=>nomatch z⟩
 grind
end
def Nm:o5->Bool
 | .tuple ds=>Im ds&&PyData.canLayAll0 ds&&decide (PyData.depthAll ds<=6)
 | _=>false
theorem Vp (h:Nm k=true):B0i k/\∃a,k=.tuple a:=by
 cases k with
 | tuple a =>
  obtain⟨c,d⟩:=aF.mp (show (Im _&&PyData.canLayAll0 _&&decide _)=true from h)
  obtain⟨e,b⟩:=aF.mp c;exact⟨⟨e,b,fL (aQ d)⟩,a,rfl⟩
 | _=>cases h
mutual
theorem Bj0 {H:Hp}:∀{d:o5}{v:V},keyB d=true->Tr H d v->KTr H d v
 | .none,_,_,h=>h
 | .int _,_,_,h=>h
 | .str _,_,_,h=>h
 | .tuple ds,_,k,⟨a,vs,e,ha,t⟩=>⟨a,vs,e,ha,A7a k t⟩
theorem A7a {H:Hp}:∀{ds:w6}{vs:l_},Im ds=true->TrL H ds vs->KTrL H ds vs
 | [],_,_,h=>h
 | d::ds,_,k,⟨v,r,e,h,t⟩=>by
  obtain⟨k1,k2⟩:=aF.mp (show (keyB d&&Im ds)=true from k)
  exact⟨v,r,e,Bj0 k1 h,A7a k2 t⟩
end
theorem A3o (h:Nm k=true) (t:Tr H k v):∃b,v=.ref b/\KAt H k b:=by
 obtain⟨c,ds,rfl⟩:=Vp h;obtain⟨a,d,rfl,f,e⟩:=t;exact⟨a,rfl,c,Bj0 c.1 ⟨a,d,rfl,f,e⟩⟩
inductive DE where
 | d (x:o5)
 | l (xs:w6)
inductive BR where
 | nx (c:Ev) (ks:w6) (es:List DE)
 | bad
noncomputable def N7 (k:o5):w6->Option Nat
 | []=>none
 | x::r=>if PyData.eqv x k=true then some 0 else (N7 k r).map (·+1)
def DX (a:Addr)(X:Nat->u9)(b:Addr):Prop:=b=a\/∃j,b∈X j
abbrev orX (S:Addr->Prop)(a:Addr)(X:Nat->u9):Addr->Prop:=λb=>S b\/DX a X b
section
variable {K:q9}{c:Ev}{σ σ':St}{H:Hp}{a:Addr}{d:Nat}
def GFr (d:Nat)(g:TG):Prop:=∀v σ H k,g v σ H (λσ' H'=>σ'[d]?=σ[d]?->k σ' H')->g v σ H k
def Bp8 (d:Nat)(g:TGs):Prop:=∀vs σ H k,g vs σ H (λσ' H'=>σ'[d]?=σ[d]?->k σ' H')->g vs σ H k
theorem Ju (h:i≠d):GFr d (J5 i):=λv a H k q=>q (bI h)
theorem Au4:Bp8 d Ba5:=λb a H k q=>⟨q.1,q.2 rfl⟩
def Ba4 (g:TG):Prop:=∀v σ H k k',g v σ H k->(∀σ' H',k σ' H'->k' σ' H')->g v σ H k'
def Au2 (g:TGs):Prop:=∀vs σ H k k',g vs σ H k->(∀σ' H',k σ' H'->k' σ' H')->g vs σ H k'
theorem Jc : Ba4 (J5 i):=λv b H k a h f=>f _ _ h
theorem Ot:Au2 Ba5:=λb c H k a h f=>⟨h.1,f _ _ h.2⟩
theorem Ul (h1:Ba4 t) (h2:Au2 u):Au2 (Aj4 t u):=λg c H k d ⟨v,r,e,q⟩ f=>⟨v,r,e,h1 _ _ _ _ _ q λa b q=>h2 _ _ _ _ _ q f⟩
theorem Sq (h1:GFr d t) (b:Ba4 t) (h2:Bp8 d u) (f:Au2 u):Bp8 d (Aj4 t u):=λi j H k ⟨v,r,e,q⟩ =>
 ⟨v,r,e,h1 v _ H _ (b _ _ _ _ _ q λg l q c=>h2 r _ _ k (f _ _ _ _ _ q λh m q a=>q (a.trans c)))⟩
theorem Ar2 (h:Bp8 d u):GFr d (Bl0 K n u):=λv b H k ⟨p,a,e,s,l,q⟩=>⟨p,a,e,s,l,h _ _ H k q⟩
end
theorem Ao4 {k:o5}(hk:Nm k=true):∀{ks:w6}{vs:l_}{j:Nat},(∀x∈ks,Nm x=true)->ks.length=vs.length->N7 k ks=some j->ks[j]?=some k/\Uj (ks.zip vs) k=vs[j]?
 | [],_,_,_,_,e=>nomatch e
 | x::ks,[],_,_,l,_=>nomatch l
 | x::ks,v::vs,j,hx,l,e=>by
  have b:=(Vp (hx x dq)).1.1;have b2:=(Vp hk).1.1
  have e:(if PyData.eqv x k=true then some 0 else (N7 k ks).map (·+1))=some j:=e
  by_cases h:PyData.eqv x k=true
  ·rw[if_pos h]at e;cases e
   have:=(S8 x k b b2).mp h;subst this;exact⟨rfl,Wc rfl⟩
  ·rw[if_neg h]at e
   obtain⟨i,e1,rfl⟩:=bc.mp e
   obtain⟨q1,q2⟩:=Ao4 hk (vs:=vs) (λy hy=>hx y (aU _ hy)) (Nat.succ.inj l) e1
   refine⟨by simpa using q1,?_⟩
   rw[iB,Ru (λq=>h ((S8 x k b b2).mpr q)),q2];rfl
theorem S9 {k:o5}(hk:Nm k=true):∀{ks:w6}{vs:l_},(∀x∈ks,Nm x=true)->N7 k ks=none->k∉ks/\Uj (ks.zip vs) k=none
 | [],vs,_,_=>⟨(λh=>nomatch h),rfl⟩
 | x::ks,vs,hx,e=>by
  have b:=(Vp (hx x dq)).1.1;have b2:=(Vp hk).1.1
  have e:(if PyData.eqv x k=true then some 0 else (N7 k ks).map (·+1))=none:=e
  by_cases h:PyData.eqv x k=true
  ·rw[if_pos h]at e;cases e
  ·rw[if_neg h]at e
   have e1:N7 k ks=none:=by
    cases q:N7 k ks with
    | none=>rfl
    | some i=>rw[q]at e;cases e
   have ne:x≠k:=λq=>h ((S8 x k b b2).mpr q)
   refine⟨λm=>?_,?_⟩
   ·rcases au.mp m with m | m
    ·exact ne m.symm
    ·exact(S9 (vs:=[]) hk (λy hy=>hx y (aU _ hy)) e1).1 m
   ·cases vs with
    | nil=>rfl
    | cons v vs =>
     rw[iB,Ru ne]
     exact(S9 hk (λy hy=>hx y (aU _ hy)) e1).2
theorem Bh6 {ks:w6} (hl:ks.length=vs.length) (hv:Uj (ks.zip vs) k=none):putK (ks.zip vs) k v=(ks++[k]).zip (vs++[v]):=by
 unfold putK;rw[Z8,hv,List.zip_append hl];rfl
section
variable {K:q9}{W W':Wo}{c:Ev}{Hf H:Hp}
noncomputable def Ai4 (Hf H:Hp):Hp:=λb=>match H b with
 | some (.tup xs)=>some (.tup xs)
 | _=>Hf b
theorem Zc (e:H b=some (.tup xs)):Ai4 Hf H b=some (.tup xs):=by unfold Ai4;rw[e]
theorem Ad7 (h:∀xs,H b≠some (.tup xs)):Ai4 Hf H b=Hf b:=by
 unfold Ai4
 grind
theorem Xm (s:Same Hf H):Same Hf (Ai4 Hf H):=λb u e=>by
 by_cases h:∃a,H b=some (.tup a)
 ·obtain⟨a,c⟩:=h
  rw[Zc c,<- c];exact s b u e
 ·rw[Ad7 λa q=>h ⟨a,q⟩];grind
theorem A0o (s:Same Hf H):Same (Ai4 Hf H) H:=λb u e=>by
 by_cases h:∃a,H b=some (.tup a)
 ·obtain⟨a,c⟩:=h
  rw[Zc c]at e;grind
 ·rw[Ad7 λa q=>h ⟨a,q⟩]at e;exact s b u e
theorem A2a (s:Same Hf H):Stp (λ_=>False) Hf H (λ_=>False) (Ai4 Hf H) H :=
 ⟨Xm s,λ_ _ e _=>e,λb o e a _ q=>by
  rw[Ad7 λc z=>by rw[e]at z;cases z;exact a];grind,λ_ z=>z.elim⟩
mutual
theorem A2j {H':Hp}(h:∀b xs,H b=some (.tup xs)->H' b=some (.tup xs)):∀{d:o5}{v:V},KTr H d v->Tr H' d v
 | .none,_,e=>e
 | .int _,_,e=>e
 | .str _,_,e=>e
 | .tuple _,_,⟨a,vs,e,ha,t⟩=>⟨a,vs,e,h _ _ ha,A5i h t⟩
theorem A5i {H':Hp}(h:∀b xs,H b=some (.tup xs)->H' b=some (.tup xs)):∀{ds:w6}{vs:l_},KTrL H ds vs->TrL H' ds vs
 | [],_,e=>e
 | _::_,_,⟨v,r,e,a,t⟩=>⟨v,r,e,A2j h a,A5i h t⟩
end
def Bc7 (fa:m7):m7:=λc=>(fa c).bind λp c=>match p with
 | .o (.ty (.ds ks _))=>.ok (.o (.im (.tuple ks))) c
 | _=>.bad
theorem Bb4 {H':Hp}(h:∀b xs,H b=some (.tup xs)->H' b=some (.tup xs)):∀{ks:w6}{vs:l_},Bx8 H ks vs->TrL H' ks vs
 | [],_,e=>e
 | k::ks,_,⟨b,r,e,kb,t⟩=>⟨.ref b,r,e,A2j h kb.2,Bb4 h t⟩
theorem A5h (ha:ME K l fa):ME K (B0a l) (Bc7 fa):=by
 intro B W c C Q R s
 refine ha B W c C _ R ((s.bnd).mono λp c1 d v1 j y g h f=>?_)
 match p,f,d with
 | .o (.ty (.ds ks ds)),f,d =>
  obtain⟨⟨rfl,a,o,r,rfl,u,t1,x⟩,_⟩:=f
  have g:Stp W.S W.Hf W.H j.S j.Hf j.H:=g.less λa z=>.inl z
  refine⟨a,o,ks.zip r,rfl,h.sub _ _ u,λm p n q=>?_⟩
  rw[List.map_fst_zip (fM x)]at n;have i:=A0o h.sub;have w := Same.free i q;have k:=(A2a h.sub).trans (Stp.newF (o:=.tup m) i q)
  exact New.of h (λv W' fp A D t=>d v _ _ (g.trans A) D t) _ _ _ [] (k.less λa z=>nomatch z) (Px i) ⟨rfl,p,m,rfl,Be,TrL.same (Bj w) (Bb4 (λb r e=>Zc e) n)⟩
 | .o (.ty (.nm _)),f,d=>trivial
 | .o (.ty (.tc _)),f,d=>trivial
 | .o (.ty (.xc _)),f,d=>trivial
 | .o (.ty (.dc _ _)),f,d=>trivial
 | .o (.ty (.dt _ _)),f,d=>trivial
 | .o (.ty (.td _ _ _)),f,d=>exact d.elim
 | .o (.im _),f,d=>exact d.elim
 | .o (.ls _ _),f,d=>exact d.elim
 | .o (.sc _),f,d=>exact d.elim
 | .sl _,f,d=>trivial
end
variable {K:q9}
theorem Aq {p a:Pos}(D:Def X.prog X.w X.K X.mg X.base x k ps sp) (hr:Room c X.A) (ha:QA X (e::es) t) (h:k<=c:=by omega) (hg:Gl X x:=by rfl)
 (hdb:(x==("__debug__" : Str))=false:=by decide) (hn:noStar (e::es)=true:=by rfl):QE X (.Call (.Name x p) (e::es) [] a) (Ay5 sp [] E0 t):=by
 obtain⟨f,g,G,b,d,m⟩:=D;exact Bm9 G (hr.mono h) hg m d b .nil B4z ha hdb hn
end U
namespace L2
open PySem PySem.Spec PyProof.Rows
section
variable {X:Cx}{e o:Expr}{to te:TE}
def PET (X:Cx)(e:Expr)(t:TE):Prop :=
 ∀(pins:y_) (s:o4) (σ:St) (H:Hp) (Q:VK),0<s.toks->Inv X pins σ H s->t σ H Q->wpAny (model X.prog X.w) X.A (eval e X.env) (EP X pins σ Q) X.xe s
structure QET (X:Cx) (e:Expr) (t:TE):Prop where
 get:PET X e t
theorem PE.pet (h:PE X e te):PET X e te:=λpins s σ H Q _ I q=>h pins s σ H Q I q
def Bo9 (y z:Str)(to:TE):TE:=λσ H Q=>to σ H λx H1=>∃v:Str,x=.str v/\v.length<=1048576/\Q (.str (Txt.replace v y z)) H1
theorem Bm1 {y z:Str}{k1 k2:Nat}{p1 p2 apos cpos:Pos}(ho:PET X o to)(hz:z.length<=14)(hyz:(y==z)=false)
 (hbase:attributeBase o "replace" X.env (eval o X.env)=eval o X.env:=by rfl)
 (hfew:((backTo cpos (starEach [.Constant (.str y) k1 p1,.Constant (.str z) k2 p2] X.env)).all (λx=>!x.1)&&(backToKw cpos (keywordEach [] X.env)).all (λx=>x.1.isSome)
  && decide (([.Constant (.str y) k1 p1,.Constant (.str z) k2 p2]:q_).length+([]:List Keyword).length+(if ([]:List Keyword).isEmpty then 0 else 1)<30))=true:=by rfl)
 (hline:(apos.endLine==cpos.line)=true:=by rfl) :
 PET X (.Call (.Attribute o "replace" apos) [.Constant (.str y) k1 p1,.Constant (.str z) k2 p2] [] cpos) (Bo9 y z to):=by
 intro pins s σ H Q ht I h
 refine wpAny_Call_method_late hbase hfew hline rfl (wpAny_mono (wpAny_toks_of ht (ho pins s σ H _ ht I h)) (λv s1 ⟨t1,x,H1,I1,r1,q1⟩=>?_) λ_ _ x=>x.2)
 obtain⟨v,rfl,hv,q⟩:=q1;obtain⟨t,rfl⟩:=r1
 refine⟨"str", "str.replace",F.plainAttrs_str,F.slot_str_replace,F.type_str_replace,typeIs_str _ _ _,(λ_ e=>by cases e),?_⟩
 refine Calls.callWith_builtin rfl (Calls.evalArgs_plain ?_)
 show wpAny _ _ (spliced ((false,eval (.Constant (.str y) k1 p1) X.env)::backTo cpos (starEach [.Constant (.str z) k2 p2] X.env))) _ _ s1
 refine Calls.spliced_cons (Calls.Constant_str ?_)
 show wpAny _ _ (spliced ((false,eval (.Constant (.str z) k2 p2) X.env)::backTo cpos (starEach [] X.env))) _ _ _
 refine Calls.spliced_cons (Calls.Constant_str (Calls.spliced_nil ?_))
 exact SC.replaceW (a_ t1) (Nat.succ_ne_zero _) (aJ (bY _)) hyz hv hz λt' k=>⟨.str _,H1,I1.tok _,⟨_,rfl⟩,q⟩
def PSsT (X:Cx)(st:List Stmt)(t:TS):Prop :=
 ∀(pins:y_) (s:o4) (σ:St) (H:Hp) (D:Ends),0<s.toks->Inv X pins σ H s->t D σ H->wpAny (model X.prog X.w) X.A (execs st X.env) (SP X pins D) X.xe s
structure B4y (X:Cx) (st:List Stmt) (t:TS):Prop where
 get:PSsT X st t
theorem PSsT.nox {st:List Stmt}{t:TS}(h:PSsT X.nox st t):PSsT X st t:=λpins s σ H D ht I hw =>
 wpAny_mono (h pins s σ H D ht (I.wish _) hw) (λ_ _ q=>q.unwish) λ_ _ z=>False.elim z
theorem A2b {i:Nat}{x:Str}{rest:List Stmt}{u:TS}{pos pos':Pos}(hN:X.N.Nodup)(hi:X.N[i]?=some x)(hx:Loc X.env.scope x)(he:QET X e te)(hr:QSs X rest u)(hs:swapsWith e (some (.Name x pos')) pos.line X.env=pure false:=by rfl)(hf:X.fn x=true\/X.env.scope.names.lookup x=some .local:=by first | exact .inl rfl | exact .inr rfl | assumption) :
 B4y X (.Assign [.Name x pos'] e pos::rest) (U3 (Xd te (J5 i)) u):=by
 obtain⟨hr⟩:=hr
 refine⟨?_⟩
 intro pins s σ H D ht I h
 have h1:wpAny (model X.prog X.w) X.A (exec (.Assign [.Name x pos'] e pos) X.env) (SP X pins { D with nx:=u D }) X.xe s:=by
  refine wpAny_Assign_Name (thn (he.1 pins s σ H _ ht I h) λv s1 ⟨y,H1,I1,r1,q1⟩=>?_) hs
  exact K8 I1 hN hi hx r1 (λs2 I2=>⟨_,H1,I2,q1⟩) hf
 refine wpAny_execs_cons (thn h1 λf s1 q=>?_)
 cases f with
 | next =>
  obtain⟨σ',H',I',q⟩:=q;exact hr pins s1 σ' H' D I' q
 | ret v=>exact q
 | brk=>exact q
 | cont=>exact q
end
section
variable {X:Cx}{e o:Expr}{to te:TE}
theorem QE.qet (h:QE X e te):QET X e te:=⟨h.get.pet⟩
theorem V7 {y z:Str}{k1 k2:Nat}{p1 p2 apos cpos:Pos}(ho:QET X o to)(hz:z.length<=14:=by decide)(hyz:(y==z)=false:=by decide)
 (hbase:attributeBase o "replace" X.env (eval o X.env)=eval o X.env:=by rfl)
 (hfew:((backTo cpos (starEach [.Constant (.str y) k1 p1,.Constant (.str z) k2 p2] X.env)).all (λx=>!x.1)&&(backToKw cpos (keywordEach [] X.env)).all (λx=>x.1.isSome)
  && decide (([.Constant (.str y) k1 p1,.Constant (.str z) k2 p2]:q_).length+([]:List Keyword).length+(if ([]:List Keyword).isEmpty then 0 else 1)<30))=true:=by rfl)
 (hline:(apos.endLine==cpos.line)=true:=by rfl) :
 QET X (.Call (.Attribute o "replace" apos) [.Constant (.str y) k1 p1,.Constant (.str z) k2 p2] [] cpos) (Bo9 y z to):=⟨Bm1 ho.get hz hyz hbase hfew hline⟩
theorem B1a {st:List Stmt}{t:TS}{D:Ends}{σ:St}{H:Hp}(h:B4y X st t)(k:t D σ H):∃t,PSsT X st t/\t D σ H:=⟨t,h.get,k⟩
end
theorem An6:∀{names:List (Str×NameKind)}{n:Nat}{acc:List (Str×Addr)},(∀x∈names,x.2≠.cell)->cellsFrom n names acc=acc
 | [],_,_,_=>rfl
 | (y,k)::r,n,acc,h=>by
  unfold cellsFrom
  rw[if_neg λe=>h _ (.head _) (eO e)]
  exact An6 λx m=>h x (.tail _ m)
theorem Am1 {ko:Str->Option NameKind}:∀{b:List (Str×Value)}{m:x_},(∀x∈b,ko x.1=some .local)->bindL ko b m=λx=>(b.reverse.lookup x).or (m x)
 | [],_,_=>rfl
 | (n,v)::r,m,h=>by
  unfold bindL
  rw[if_pos (h _ (.head _)),Am1 λx q=>h x (.tail _ q)]
  funext y
  rw[List.reverse_cons,iy]
  cases r.reverse.lookup y with
  | some z=>rfl
  | none =>
   by_cases e:y=n
   ·subst e
    simp
   ·simp[e,aZ,cH.mpr e]
theorem B2e {CX:CXT}{P:p7}{w:World}{K:q9}{mg:x_}{base:Heap}{k:Nat}{f:Addr}{name qual:Str}{params:Arguments}{body:List Stmt}{scope:Scope}{dV kV doc pm cdv ct oc:Value}{an od:Option Addr}
 {osl:Array (p_)} {N ps:v_} {sp:Sp} (lk:K.lookup f=some ⟨oc,od,.func (PySem.W.fnOf name qual params body scope dV kV doc pm an cdv ct),osl⟩) (hcd:PySem.W.codeIn K cdv qual=true) (S:Az N ps scope)
 (nc:∀x∈scope.names,x.2≠.cell) (np:0<ps.length)
 (len:∀vs H Q E,sp vs H Q E->vs.length=ps.length)
 (hbody:∀(A:o6) (outer:List Env) (s:o4) (H:Hp) (vs:l_) (Q:VK) (E:XK),Room k (A.deeper (envOfC qual scope s.heap.objs.size f cdv))->sp vs H Q E ->
  ∃t,PSsT (Ag8 CX P w K mg base N qual scope f cdv A outer s H E) body t/\t { nx:=λ_ H'=>Q .non H',rt:=Q } (start N vs) H) :
 FnOk P w K mg base CX (k+1) f (PySem.W.fnOf name qual params body scope dV kV doc pm an cdv ct) ps sp:=by
 refine⟨len,λA outer s H args us vs Q E hr e0 hb r hsp=>?_⟩
 have hl:=len _ _ _ _ hsp
 have KX:K.In s.heap:=e0.mod.kin.keeps λb o e=>(e0.bs b o e).1
 have lim:s.heap.NoLimit:=e0.mod.nolimit.keeps λb o e=>(e0.bs b o e).1
 have loc:∀y∈ps.zip us,scope.names.lookup y.1=some .local:=λ⟨n,v⟩ hy=>by
  rcases S.par n (gB hy).1 with q | q
  ·exact q
  ·exact absurd rfl (nc _ (fH q))
 refine codeAny_call_function hr.depth (KX _ _ lk) rfl S.co S.gen rfl (PySem.W.codeRec_of KX hcd) (hb _ _ _ _ ?_)
 refine wpAny_newFunctionEnv nc loc (λh' hns hsb=>?_) S.kind
 have kp:∀b o,s.heap.get? b=some o->h'.get? b=some o:=λb o e=>hsb.extBut b o (aJ (Heap.lt_size e)) (Heap.get?_push_of_some _ e)
 have cn:cellsFrom (s.heap.objs.size+1) scope.names []=[]:=An6 nc
 have x:InCallC s s.heap.objs.size (bindL (envOfC qual scope s.heap.objs.size f cdv).kindOf (ps.zip us) λ_=>none) (cellsFrom (s.heap.objs.size+1) scope.names []) (bindC (envOfC qual scope s.heap.objs.size f cdv).kindOf (ps.zip us) λ_=>none) { s with heap:=h',toks:=s.toks+(ps.zip us).length }:=by
  rw[cn,Am1 loc]
  refine⟨⟨⟨h',_,rfl⟩,?_,kp,ak _⟩,(λn c e=>by cases e),.nil,(λn c e=>by cases e)⟩
  have e:(λy=>((ps.zip us).reverse.lookup y).or none)=λy=>(ps.zip us).reverse.lookup y:=by
   funext y
   rw[Option.or_none]
  rw[e];exact hns
 have ev:newEnv scope s.heap.objs.size mainGlobals [] (qual ++ ".<locals>.") (some f) cdv none builtinsNs=envOfC qual scope s.heap.objs.size f cdv:=by
  show _=PySem.W.envX qual scope s.heap.objs.size f cdv (cellsFrom (s.heap.objs.size+1) scope.names [])
  rw[cn]
  rfl
 refine⟨lim.keeps kp,codeAny_func ?_⟩
 obtain⟨t,ht,hq⟩:=hbody A outer s H vs Q E (hr.deeper _) hsp
 have I:Inv (Ag8 CX P w K mg base N qual scope f cdv A outer s H E) [] (start N vs) H { s with heap:=h',toks:=s.toks+(ps.zip us).length }:=Ao3 S hr.hd e0 hl r x
 have tp:0<s.toks+(ps.zip us).length:=by
  rw[eV,<- r.length,hl,fW];omega
 have go:=ht [] _ (start N vs) H _ tp I hq
 have fin:∀{s':o4} {σ':St} {H':Hp} {v:V} {u:Value},Inv (Ag8 CX P w K mg base N qual scope f cdv A outer s H E) [] σ' H' s'->RelV v u->Q v H'->CE outer P w H s Q u s' :=
  λ{s' σ' H' v u} J rv q=>⟨v,H',J.os,J.bare,J.base,J.hok,rv,q⟩
 have go2:=wpAny_mono go (Q':=λfl s'=>CE outer P w H s Q (match fl with | .ret v=>v | _=>.none) s') (λfl s' hs=>by
  cases fl with
  | ret u =>
   obtain⟨v,σ',H',J,rv,q⟩:=hs;exact fin J rv q
  | next =>
   obtain⟨σ',H',J,q⟩:=hs;exact fin (v:=V.non) (u:=Value.none) J rfl q
  | brk =>
   obtain⟨_,_,_,q⟩:=hs;exact False.elim q
  | cont =>
   obtain⟨_,_,_,q⟩:=hs
   exact False.elim q) λe s' hs=>hs
 simp only[Ag8,<- ev]at go2;exact go2
theorem Fun.okT {P:p7}{w:World}{K:q9}{mg:x_}{base:Heap}{x qual:Str}{st:Stmt}{f:Addr}{fd:p6}{N ps:v_}{k:Nat}{sp:Sp}(F:Fun K x qual st f fd)(S:Az N ps (Ak st))
 (nc:∀x∈(Ak st).names,x.2≠.cell) (np:0<ps.length) (len:∀vs H Q E,sp vs H Q E->vs.length=ps.length)
 (hbody:∀(cdv:Value) (A:o6) (outer:List Env) (s:o4) (H:Hp) (vs:l_) (Q:VK) (E:XK),Room k (A.deeper (envOfC qual (Ak st) s.heap.objs.size f cdv))->sp vs H Q E ->
  ∃t,PSsT (Ag8 CX0 P w K mg base N qual (Ak st) f cdv A outer s H E).nox (Kw st) t/\t { nx:=λ_ H'=>Q .non H',rt:=Q } (start N vs) H):FnOk P w K mg base CX0 (k+1) f fd ps sp:=by
 obtain⟨oc,od,kV,doc,pm,an,cdv,ct,osl,rfl,lk,hcd⟩:=F.ex
 refine B2e lk hcd S nc np len λA outer s H vs Q E hr hsp=>?_
 obtain⟨t,h,q⟩:=hbody cdv A outer s H vs Q E hr hsp;exact⟨t,h.nox,q⟩
section
variable {X:Cx}
def rSw:V->l_->Hp->VK->Prop:=λx vs H Q=>∃s y:Str,x=.str s/\vs=[.str y]/\Q (.bl (Txt.startswith s y)) H
theorem A5p:MtM X "str.startswith" rSw:=by
 intro pins s σ H x vs v us Q I rx rv h;obtain⟨z,y,rfl,rfl,q⟩:=h;obtain⟨t,rfl⟩:=rx;obtain⟨u,rfl,t',rfl⟩:=rv.one;exact SC.startswith ⟨.bl _,H,I,rfl,q⟩
theorem Am3:∀{l:List (Str×Tok)},Vals ((l.map (·.1)).map V.str) (strValues l)
 | []=>.nil
 | p::l=>.cons ⟨p.2,rfl⟩ (Am3 (l:=l))
def rSplit:V->l_->Hp->VK->Prop:=λx vs H Q=>∃s y:Str,x=.str s/\vs=[.str y]/\y.length≠0/\s.length<=sizeLine/\(Txt.split s y).length<=sizeLine/\∀p,H p=none->Q (.ref p) (upd H p (.lst ((Txt.split s y).map V.str)))
theorem Bk0:MtM X "str.split" rSplit:=by
 intro pins s σ H x vs v us Q I rx rv h;obtain⟨z,y,rfl,rfl,hy,hz,hl,q⟩:=h;obtain⟨t,rfl⟩:=rx;obtain⟨u,rfl,t',rfl⟩:=rv.one;have hy0:(y.length==0)=false:=cH.mpr hy
 have one:Txt.split z y=[z]->EP X pins σ Q (.ref s.heap.objs.size) { s with heap:=s.heap.push { cls:=.type "list",data:=.seq #[.str z t] } }:=λe=>by
  have I2:=I.lnew (ys:=[V.str z]) (its:=[.str z t]) (t':=s.toks) (.cons ⟨t,rfl⟩ .nil) (by show 1<=sizeLine;decide)
  rw[e]at q;exact⟨.ref _,_,I2,rfl,q _ I.fresh⟩
 cases h1:(decide (z.length<y.length)||decide (Builtin.Str.strKind z<Builtin.Str.strKind y))
 ·cases hf:(Builtin.Str.occurrences z y 0 z.length (z.length+1)).isEmpty
  ·have e:Txt.split z y=Builtin.Str.partsBetween z (Builtin.Str.occurrences z y 0 z.length (z.length+1)) y.length:=(if_neg (by rw[h1];exact aR)).trans (if_neg (by rw[hf];exact aR))
   rw[e]at q hl
   refine call_meets F.slot_str_split (typeIs_str _ _ _) F.entry_str_split (F.args_str_split_2 _ _) (meets_str_split_sep z y t t' h1 hy0 hf hz hl) ?_
   show wants (EP X pins σ Q) X.xe _ { s with toks:=_,heap:=s.heap.push { cls:=.type "list",data:=.seq (strsFrom s.toks (Builtin.Str.partsBetween z (Builtin.Str.occurrences z y 0 z.length (z.length+1)) y.length)).toArray } }
   rw[strsFrom_eq];have nt:=numbered_texts s.toks (Builtin.Str.partsBetween z (Builtin.Str.occurrences z y 0 z.length (z.length+1)) y.length);have vv:=Am3 (l:=numbered s.toks (Builtin.Str.partsBetween z (Builtin.Str.occurrences z y 0 z.length (z.length+1)) y.length));rw[nt]at vv
   exact⟨.ref _,_,I.lnew (t':=_) vv (by rw[aj];exact hl),rfl,q _ I.fresh⟩
  ·exact call_meets F.slot_str_split (typeIs_str _ _ _) F.entry_str_split (F.args_str_split_2 _ _) (meets_str_split_not_found z y t t' h1 hy0 hf)
    (one ((if_neg (by rw[h1];exact aR)).trans (if_pos hf)))
 ·exact call_meets F.slot_str_split (typeIs_str _ _ _) F.entry_str_split (F.args_str_split_2 _ _) (meets_str_split_cannot_occur z y t t' h1) (one (if_pos h1))
def Rc:l_->Hp->VK->Prop:=λxs H Q=>∃(x:Str) (n:Int),xs=[.str x]/\PySem.intText? x=some n/\x.length<=640/\Q (.int n) H
theorem A7j:CallR X (.type "int") Rc:=by
 intro pins s σ H xs us Q I r h;obtain⟨x,n,rfl,hn,hl,q⟩:=h;obtain⟨u,rfl,t,rfl⟩:=vals1 r;exact PySem.W.KIN.call_text hn hl ⟨.int n,H,I.tok _,⟨_,rfl⟩,q⟩
theorem V1 {Kq:q9}{p pos:Pos}{e:Expr}{es:q_}{t:TA}(hKq:X.K=Kq)(hg:Gl X "int") (hm:X.mg "int" = none) (ha:QA X (e::es) t)
 (he:starEach (e::es) X.env=(false,eval e X.env)::starEach es X.env:=by rfl) (hpl:(backTo pos (starEach es X.env)).any (·.1)=false:=by rfl):QE X (.Call (.Name "int" p) (e::es) [] pos) (tCB Rc t) :=
 ⟨Ak4 A7j hg hm At7 ha.get (he:=he) (hpl:=hpl)⟩
def Bj2 (K:q9):V->l_->Hp->VK->Prop:=λx vs H Q=>∃(sep:Str) (a:Addr) (ss:v_),x=.str sep/\vs=[.ref a]/\SqT K H a (ss.map V.str)/\ss.toArray.foldl (·+·.length+sep.length) 0<=sizeLine/\(Jw sep ss).length<=sizeLine/\Q (.str (Jw sep ss)) H
theorem Be8 {Kq:q9}(hKq:X.K=Kq):MtM X "str.join" (Bj2 Kq):=by
 subst hKq;intro pins s σ H x vs v us Q I rx rv h;obtain⟨sep,a,ss,rfl,rfl,hq,hz,hy,q⟩:=h;obtain⟨t,rfl⟩:=rx;obtain⟨u,rfl,ru⟩:=rv.one
 cases ru
 obtain⟨its,r,pl,hz'⟩:=I.tuple hq;obtain⟨l,rfl,e⟩:=Qh r
 obtain⟨o,ho,hc,n,hd⟩:=(show s.heap.IsTuple a (strValues l).toArray from pl)
 refine call_meets F.slot_str_join (typeIs_str _ _ _) F.entry_str_join (F.args_str_join_2 _ _) (meets_str_join_tuple sep t a l ?_) ⟨⟨o,n,ho,hc,hd⟩,?_⟩
 ·rw[e]
  exact aB (by omega)
 ·subst e
  match l,hy,q with
  | [],hy,q=>exact⟨hy,.str _,H,I.tok _,⟨_,rfl⟩,q⟩
  | [p],hy,q=>exact⟨.str _,H,I,⟨_,rfl⟩,q⟩
  | p::p2::r,hy,q=>exact⟨hy,.str _,H,I.tok _,⟨_,rfl⟩,q⟩
end
section
open Builtin Builtin.Str Builtin.Int
variable {prog:p7}{w:World}{A:o6}{E:z_}{s:o4}
variable {I:Addr}{fp wr:u9}{G:Array GenState->Array GenState->Prop}{n:Nat}{P:Nat->Value->Prop}{St:Nat->o4->Prop}
theorem A1g {Q:v4->o4->Prop}(W:WalksS prog w A.in1 I fp wr G n P St)(hT:∀i s,St i s->s.TypeIs (.ref I) "list_reverseiterator") (hst:St 0 s) (hfp:∀b∈fp,b<s.heap.objs.size) (hI:I∈fp)
 (hQ:∀s' acc,Moved wr G s s'->ItemsOf P acc n->Q acc.toList s') (hn:n<=sizeLine):wpAny (model prog w) A (collect (.ref I)) Q E s:=by
 have hSf:s.heap.objs.size∉fp:=λhm=>bA _ (hfp _ hm)
 unfold collect
 refine wpAny_bind (wpAny_runValue (codeAny_builtin F.entry_proto_collect ?_))
 rw[Around.under_plainId F.plain_proto_collect _]
 show wpAny _ A.in1 (newList [] >>= λl=>again (.builtin "list.__iadd__" ⟨[l,.ref I],[]⟩)) _ _ s
 refine wpAny_bind (wpAny_newObj_type ?_)
 refine wpAny_pure ⟨plainId_quiet F.plain_list_iadd _,codeAny_builtin F.entry_list_iadd ?_⟩
 rw[Around.under_plainId F.plain_list_iadd _]
 have hst₁:=W.frame 0 s (s.heap.push { cls:=.type "list",data:=.seq ([]:v4).toArray }) s.toks hst (ak _) λb _ o e=>Heap.get?_push_of_some _ e
 have hS₁:(s.heap.push { cls:=.type "list",data:=.seq ([]:v4).toArray }).get? s.heap.objs.size=some { cls:=.type "list",data:=.seq ([]:v4).toArray }:=Heap.get?_push_size _ rfl
 show wpAny _ A.in1 (Builtin.List.listExtendWith (.ref s.heap.objs.size) (.ref I) (.ref s.heap.objs.size)) _ _ _
 refine A4d (R:=λr s'=>match r with | .ok (.ret v)=>wpAny (model prog w) A (match v with | .ref a=>(load a >>= λo=>match o.data with | .seq xs _=>pure xs.toList | _=>unsupported "internal:collect") | _=>unsupported "internal:collect") Q E s' | .ok _=>False | .error e=>E e s') (s:={ s with heap:=s.heap.push { cls:=.type "list",data:=.seq ([]:v4).toArray } }) W hT _ _ _ hst₁ hSf hI hS₁ (λs' acc' c' hm hS' hacc=>?_) hn
 show wpAny _ A (load s.heap.objs.size >>= _) _ _ s'
 refine wpAny_bind (wpAny_load hS' ?_)
 exact wpAny_pure (hQ s' acc' (Moved.drop_new (o:={ cls:=.type "list",data:=.seq ([]:v4).toArray }) (tk:=s.toks) hm (ak _)) hacc)
theorem Bj4 {x:Str}{t:Tok}{Q:z_}(W:WalksS prog w A.in1.in1 I fp wr G n P St)(hT:∀i s,St i s->s.TypeIs (.ref I) "list_reverseiterator") (hst:St 0 s) (hfp:∀b∈fp,b<s.heap.objs.size) (hI:I∈fp)
 (hstr:∀i v,P i v->∃y u,v=Value.str y u)
 (hq:∀s' (l:List (Str×Tok)),Moved wr G s s'->ItemsOf P (strValues l).toArray n->tooLong ((l.map (·.1)).toArray.foldl (·+·.length+x.length) 0)=false/\(joinMade x l).post Q s')
 (hn:n<=sizeLine):wpAny (model prog w) A (call (.builtin "str.join") [.str x t,.ref I]) Q E s:=by
 refine wpAny_call (codeAny_call_builtin F.slot_str_join.plain F.entry_str_join (F.slot_str_join.check _ _ _ _ _ _ _ _ (typeIs_str _ _ _) (F.args_str_join_2 _ _) ?_))
 rw[join_tree_other]
 refine wpAny_bind (wpAny_typeOf (hT 0 s hst) ?_)
 show wpAny _ A.in1 ((pyIter (.ref I)).tryCatch _ >>= λit=>collect it >>= λitems=>joinTail x items) _ _ s
 refine wpAny_bind (wpAny_tryCatch (W.of_in1.self 0 s _ _ hst ?_))
 refine wpAny_bind (A1g W hT hst hfp hI (λs' acc hm hacc=>?_) hn)
 obtain⟨l,hl⟩:=exists_strValues acc.toList λv hv=>by
  obtain⟨j,hj,rfl⟩:=Array.mem_iff_getElem.mp (Array.mem_toList_iff.mp hv);exact hstr j _ (hacc.2 j _ (fU hj))
 rw[<- hl]
 have hacc':ItemsOf P (strValues l).toArray n:=by rw[hl];simpa using hacc
 obtain⟨hok,hpost⟩:=hq s' l hm hacc'
 have g:Gives (joinTail x (strValues l)) (joinMade x l):=by
  have g0:=gives_joinTail x l hok
  cases l with
  | nil=>exact g0
  | cons p r=>
   cases r with
    | nil=>exact g0
    | cons q r'=>exact g0
 exact g prog w A (wants Q E) s' hpost
end
section
variable {X:Cx}{apos cpos p2 pos2:Pos}{o e:Expr}{to:TE}{t:TA}
def A5g (K:q9):V->l_->Hp->VK->Prop:=λx vs H Q=>∃(sep:Str) (a:Addr) (ss:v_),x=.str sep/\vs=[.ref a]/\SqL K H a (ss.map V.str)/\ss.reverse.toArray.foldl (·+·.length+sep.length) 0<=sizeLine/\(Jw sep ss.reverse).length<=sizeLine/\Q (.str (Jw sep ss.reverse)) H
theorem Bf3 (hc:X.calm=true)(hgr:Gl X "reversed") (hmr:X.mg "reversed" = none) (ho:PE X o to) (ha:PA X [e] t) (hns:isStar e=false:=by rfl)
 (hbase:attributeBase o "join" X.env (eval o X.env)=eval o X.env:=by rfl)
 (hfew:((backTo cpos (starEach [.Call (.Name "reversed" p2) [e] [] pos2] X.env)).all (λx=>!x.1)&&(backToKw cpos (keywordEach [] X.env)).all (λx=>x.1.isSome)
  && decide (([.Call (.Name "reversed" p2) [e] [] pos2]:q_).length+([]:List Keyword).length+(if ([]:List Keyword).isEmpty then 0 else 1)<30))=true:=by rfl)
 (hline:(apos.endLine==cpos.line)=true:=by rfl):PE X (.Call (.Attribute o "join" apos) [.Call (.Name "reversed" p2) [e] [] pos2] [] cpos) (tBM X.K "str" (A5g X.K) to t):=by
 intro pins s σ H Q I h
 refine wpAny_Call_method_late hbase hfew hline rfl (thn (ho pins s σ H _ I h) λv s0 ⟨x,H0,I0,r0,ty,q0⟩=>?_)
 obtain⟨h1,h2⟩:=Bl1 I0 r0 ty
 refine⟨"str", "str.join",F.plainAttrs_str,F.slot_str_join,F.type_str_join,h1,h2,?_⟩
 refine Calls.callWith_builtin rfl (Calls.evalArgs_plain ?_)
 show wpAny _ _ (spliced ((false,eval (.Call (.Name "reversed" p2) [e] [] pos2) X.env)::backTo cpos (starEach [] X.env))) _ _ s0
 refine Calls.spliced_cons ?_
 refine wpAny_Call_Name_kw (M6 I0 hgr hmr boot_reversed ?_ (by decide) (by decide))
 refine eE (thn (ha pos2 pins s0 σ H0 _ I0 q0) λus s1 ⟨xs,H1,I1,r1,q1⟩=>?_) (G5 hns) rfl
 obtain⟨sep,a,ss,rfl,rfl,hq,hz1,hz2,q⟩:=q1;obtain⟨tk,rfl⟩:=r0;obtain⟨u,rfl,ru⟩:=vals1 r1
 cases (show u=Value.ref a from ru)
 obtain⟨its,rv,pl,hz⟩:=I1.list hq;obtain⟨l0,rfl,el⟩:=Qh rv
 refine call_reversed_list pl.isList (Calls.spliced_nil ?_)
 obtain⟨oa,hoa,hoc⟩:=pl.isList;have hla:=Heap.lt_size hoa;have len:=rv.length
 have hsz:(strValues l0).toArray.size=(ss.map V.str).length:=by rw[bJ,len]
 have hp:=(Heap.get?_push_size s1.heap (o:=revObj a (((strValues l0).toArray.size:Int)-1)) rfl);have W:=(Walks.listRev (prog:=X.prog) (w:=X.w) (A:=X.A.in1.in1) (I1.ok.hd hc) s1.heap.objs.size a (aJ hla) (strValues l0).toArray).toS
 refine Bj4 W (λi s x=>x.2.1.typeIs) ⟨aD _,⟨_,hp,rfl,?_⟩,⟨oa,Heap.get?_push_of_some _ hoa,hoc⟩⟩ (λb hb=>?_) (by simp) (λi v h=>?_) (λs' l hm it=>?_) (by rw[hsz];exact hz)
 ·simp[revObj]
 ·have e1:(s1.heap.push (revObj a (((strValues l0).toArray.size:Int)-1))).objs.size=s1.heap.objs.size+1:=size_push' _ _
  show b<(s1.heap.push (revObj a (((strValues l0).toArray.size:Int)-1))).objs.size
  rw[e1]
  rcases au.mp hb with e | hb
  ·rw[e];exact bY _
  ·rw[az.mp hb];exact fO hla
 ·have m:v∈(strValues l0).toArray:=Array.mem_of_getElem? h
  rw[List.mem_toArray]at m;obtain⟨p,_,rfl⟩:=aA.mp m;exact⟨_,_,rfl⟩
 ·have kp:∀b u,s1.heap.get? b=some u->s'.heap.get? b=some u:=λb u e=>hm.heap b u (λz=>by
   have hl:=Heap.lt_size e;have z:b=s1.heap.objs.size:=az.mp z;rw[z]at hl
   exact absurd hl (bA _)) (Heap.get?_push_of_some _ e)
  have lr:strValues l=(strValues l0).reverse:=by
   obtain⟨hs,hi⟩:=it;apply gH;intro k
   by_cases hk:k<(strValues l0).length
   ·have hk2:k<(strValues l).toArray.size:=by rw[hs,bJ];exact hk
    have:=hi k (strValues l).toArray[k] (fU hk2);rw[List.getElem?_reverse hk]
    have e2:(strValues l)[k]?=some (strValues l).toArray[k]:=by rw[<- List.getElem?_toArray];exact fU hk2
    rw[e2,<- this];simp
   ·rw[cu (by have:=hs;rw[bJ,bJ]at this;omega),cu (by rw[List.length_reverse];omega)]
  have lt:l.map (·.1)=ss.reverse:=by
   have f:∀q:List (Str×Tok),(strValues q).map (λv=>match v with | .str x _=>x | _=>Str.empty)=q.map (·.1):=λq=>by unfold strValues;rw[aN];rfl
   rw[<- f l,lr,List.map_reverse,f l0,el]
  rw[Moved.eq_with hm]
  have Ik:∀k,Inv X pins σ H1 { s1 with heap:=s'.heap,toks:=k }:=λk=>I1.kept kp
  rw[<- lt]at hz1 hz2 q
  refine⟨aB (by omega),?_⟩
  match l,hz2,q with
  | [],hy,q=>exact⟨hy,.str _,H1,Ik _,⟨_,rfl⟩,q⟩
  | [p],hy,q=>exact⟨.str _,H1,Ik _,⟨_,rfl⟩,q⟩
  | p::p2::r,hy,q=>exact⟨hy,.str _,H1,Ik _,⟨_,rfl⟩,q⟩
theorem Bg4 {Kq:q9}(hKq:X.K=Kq)(hc:X.calm=true)(hgr:Gl X "reversed") (hmr:X.mg "reversed" = none) (ho:QE X o to) (ha:QA X [e] t) (hns:isStar e=false:=by rfl)
 (hbase:attributeBase o "join" X.env (eval o X.env)=eval o X.env:=by rfl)
 (hfew:((backTo cpos (starEach [.Call (.Name "reversed" p2) [e] [] pos2] X.env)).all (λx=>!x.1)&&(backToKw cpos (keywordEach [] X.env)).all (λx=>x.1.isSome)
  && decide (([.Call (.Name "reversed" p2) [e] [] pos2]:q_).length+([]:List Keyword).length+(if ([]:List Keyword).isEmpty then 0 else 1)<30))=true:=by rfl)
 (hline:(apos.endLine==cpos.line)=true:=by rfl):QE X (.Call (.Attribute o "join" apos) [.Call (.Name "reversed" p2) [e] [] pos2] [] cpos) (tBM Kq "str" (A5g Kq) to t):=by
 subst hKq;exact⟨Bf3 hc hgr hmr ho.get ha.get hns hbase hfew hline⟩
end
end L2
namespace L2
open PySem PySem.Spec PyProof.Rows
open PySem.AutoSeq1 (wpAny_loadPart')
def B3p (k:Nat)(n:Nat)(g:Nat->V->Prop):It :=
 ⟨λi H=>i<n,λi H v H'=>∃p x,v=.ref p/\H p=none/\H'=upd H p (.tup [.int ((i+k:Nat):Int),x])/\g i x,λi H=>i=n⟩
theorem Ac3 {P:p7}{w:World}{K:q9}{elts:q_}{kk:Nat}{pos:Pos}{e j:Addr}{k n:Nat}{fp:u9}{Pv:Nat->Value->Prop}{g:Nat->V->Prop}{St:Nat->Heap->Prop}
 (D:∀A':o6,A'.handled=none->Draws P w A' j fp n Pv St) (hg:∀i v,Pv i v->∃x,RelV x v/\g i x) (mj:j∈fp) (hc:∀i h,St i h->∀b∈fp,∃o,h.get? b=some o/\∀v,o.data≠.cell v) (ne:e≠j) (nf:e∉fp) :
 Turn P w K (.Tuple elts kk pos) (B3p k n g) (e::fp) e (λi h=>(∃old,IsEnum h e j ((i+k:Nat):Int) old)/\St i h) where
 mem:=by simp
 obj:=λi h st c hcm=>by
  rcases au.mp hcm with rfl | hcm
  ·obtain⟨old,q⟩:=st.1;exact⟨_,q,λv e=>by cases e⟩
  ·exact hc i h st.2 c hcm
 keep:=λi h h' st kp=>by
  obtain⟨⟨old,q⟩,r⟩:=st
  refine⟨⟨old,kp e (by simp) _ q⟩,?_⟩
  exact(D { handled:=none,frames:=none,depth:=0,units:=0 } rfl).frame i h h' r λb hb o x=>kp b (aU _ hb) o x
 item:=by
  intro X hP hw hK hcm i pins s σ H E I hf st hlt;subst hP hw hK;obtain⟨⟨old,en⟩,it⟩:=st
  have sh:Draws X.prog X.w X.A.in1 j fp (n+k) (λa v=>Pv (a-k) v) (λa h=>k<=a/\St (a-k) h) :=
   {
    live:=λa h x=>(D X.A.in1 (I.ok.hd hcm)).live _ h x.2
    frame:=λa h h' x kp=>⟨x.1,(D X.A.in1 (I.ok.hd hcm)).frame _ h h' x.2 kp⟩
    item:=λa s Q E ha x q=>(D X.A.in1 (I.ok.hd hcm)).item (a-k) s Q E (by have:=x.1;omega) x.2 λv h' tk a1 a2 a3=>q v h' tk a1 ⟨gf x.1,by rw[Nat.sub_add_comm x.1];exact a2⟩ a3
    done:=λs Q E x q=>(D X.A.in1 (I.ok.hd hcm)).done s Q E (by have:=x.2;rw[gh]at this;exact this) q }
  refine wpAny_pyNext_enum_itemD (i:=i+k) sh en ⟨Nat.le_add_left _ _,by rw[gh];exact it⟩ (Nat.add_lt_add_right hlt k) ne nf λu h1 tk pu ou st1 new _ kp=>?_
  rw[gh]at pu;obtain⟨x,ru,gx⟩:=hg i u pu
  refine⟨_,rfl,?_⟩
  apply wpAny_letOwnedTupleGo_enum ou;intro h2 en2 sb
  have lt:∀c∈e::fp,c<s.heap.objs.size:=λc m=>by
   rcases au.mp m with rfl | m
   ·exact Heap.lt_size en
   ·obtain⟨o,e,_⟩:=hc i s.heap it c m;exact Heap.lt_size e
  have new2:h2.get? s.heap.objs.size=some { cls:=.type "tuple",data:=.seq #[.int ((i+k:Nat):Int) tk,u] }:=sb.extBut _ _ (a_ (lt e (by simp))) new
  have ok:zJ X.prog X.w (upd H s.heap.objs.size (.tup [.int ((i+k:Nat):Int),x])) h2 s.heap.objs.size (.tup [.int ((i+k:Nat):Int),x]):=⟨(show 2<=sizeLine by decide),[.int ((i+k:Nat):Int) tk,u],.cons ⟨tk,rfl⟩ (.cons ru .nil),⟨_,new2,rfl,⟨_,rfl⟩,rfl⟩⟩
  have I2:=I.turnLay (t':=tk+1) hf (h':=h2) (λc o m q=>sb.extBut _ _ (λz=>m (by simp[z])) (kp c o (λz=>m (by simp[z])) (λz=>m (by rw[z];exact aU _ mj)) q)) (ak _) ok
  refine⟨.ref s.heap.objs.size,_,I2,rfl,⟨_,x,rfl,I.hok.fresh (ak _),rfl,gx⟩,⟨⟨u,?_⟩,?_⟩,λc m=>?_⟩
  ·have:IsEnum h2 e j (((i+k:Nat):Int)+1) u:=en2
   have z:((i+1+k:Nat):Int)=((i+k:Nat):Int)+1:=by omega
   rw[z];exact this
  ·have q:=st1.2
   rw[show i+k+1-k=i+1 by omega]at q
   exact(D { handled:=none,frames:=none,depth:=0,units:=0 } rfl).frame (i+1) _ _ q λb hb o y=>sb.extBut _ _ (λz=>nf (z▸hb)) y
  ·rw[Al (aJ (lt c m))]
   exact(hf c m).1
 done:=by
  intro X hP hw hK hcm i pins s σ H E I hf st hs;subst hP hw hK;obtain⟨⟨old,en⟩,it⟩:=st;have hs:i=n:=hs;subst hs
  exact wpAny_pyNext_enum_endD (D X.A.in1 (I.ok.hd hcm)) en it λh1 kp=>⟨rfl,I.turnL (t':=s.toks) hf λc o m q=>kp c o (λz=>m (by rw[z];exact aU _ mj)) q⟩
 self:=λ_ _ _ _ _ st h=>let ⟨_,q⟩:=st.1;wpAny_pyIter_enum q h
section
variable {X:Cx}
def Bi1 (ta:TA):TI:=λσ H R=>ta σ H λvs H1=>∃x,vs=[.str x]/\R (B3p 0 x.cps.size λi v=>∃c,x.cps[i]?=some c/\v=sgn c) H1
theorem Bc2 {a:Expr}{ta:TA}{p pos tpos:Pos}{elts:q_}{kk:Nat}(hg:Gl X "enumerate") (hm:X.mg "enumerate" = none) (ha:QA X [a] ta) (hs1:isStar a=false:=by rfl) :
 QI X (.Tuple elts kk tpos) (.Call (.Name "enumerate" p) [a] [] pos) (Bi1 ta):=by
 obtain⟨ha⟩:=ha
 refine⟨?_⟩
 intro pins s σ H R I h;have st1:=G5 (es:=[]) (env:=X.env) hs1
 refine Call_ (M6 I hg hm Ad2 (eE (thn (ha pos pins s σ H _ I h) λus s1 ⟨vs,H1,I1,r1,q1⟩=>?_) st1 rfl))
 obtain⟨x,rfl,q⟩:=q1;obtain⟨u1,rfl,t,rfl⟩:=vals1 r1
 refine call_enumerate_str λh' en it sz kp=>?_
 apply wpAny_pyIter_enum en
 have sg:∀(i:Nat) (v:Value),(∃(c:Nat) (u:Tok),x.cps[i]?=some c/\v=Value.str ⟨#[c]⟩ u)->∃y:V,RelV y v/\∃c,x.cps[i]?=some c/\y=sgn c:=λi v h=>by
  obtain⟨c,u,e,q⟩:=h;exact⟨sgn c,⟨u,q⟩,c,e,rfl⟩
 have oc:∀ty i (h:Heap),h.IsStrIter s1.heap.objs.size ty x t i->∀b∈[s1.heap.objs.size],∃o,h.get? b=some o/\∀v,o.data≠.cell v:=λty i h st b hb=>by
  rw[az.mp hb];obtain⟨o,e,_,d⟩:=st
  exact⟨o,e,λv z=>by rw[d]at z;cases z⟩
 have fpk:∀c∈[s1.heap.objs.size+1,s1.heap.objs.size],Qw X pins H1 c:=λc hc=>by
  have le:s1.heap.objs.size<=c:=by
   simp only[au,bf,bh]at hc
   rcases hc with rfl | rfl <;> simp
  exact I1.fpOk le (I1.hok.fresh le)
 have ne:s1.heap.objs.size+1≠s1.heap.objs.size:=a_ (bY _)
 cases ha:x.cps.all (·<128)
 ·have it:h'.IsStrIter s1.heap.objs.size "str_iterator" x t 0:=by simpa[strIterType,ha] using it
  exact⟨_,_,_,_,H1,rfl,I1.kept (t':=s1.toks) kp,Ac3 (k:=0) (λA' hA=>Draws.strWide hA _ x t) sg (by simp) (oc _) ne (by simpa using ne),⟨⟨_,en⟩,it⟩,fpk,q⟩
 ·have it:h'.IsStrIter s1.heap.objs.size "str_ascii_iterator" x t 0:=by simpa[strIterType,ha] using it
  exact⟨_,_,_,_,H1,rfl,I1.kept (t':=s1.toks) kp,Ac3 (k:=0) (λA' hA=>Draws.strAscii hA _ x t) sg (by simp) (oc _) ne (by simpa using ne),⟨⟨_,en⟩,it⟩,fpk,q⟩
end
noncomputable def B2j (lo c:Int) (n:Nat):It:=⟨λi _=>i<n,λi H x H'=>H'=H/\x=.int (lo+i*c),λi _=>n<=i⟩
theorem A0i {P:p7}{w:World}{K:q9}{tg:Expr}(it:Addr)(lo c:Int)(n:Nat):Turn P w K tg (B2j lo c n) [it] it (λi h=>IsRangeIter h it (lo+(i:Nat)*c) ((n:Int)-(i:Nat)) c) where
 mem:=by simp
 obj:=λi h st b hb=>by
  have e:b=it:=by simpa using hb
  subst e
  exact⟨_,st,λv z=>by
   have z':Data.fields _=Data.cell v:=z
   cases z'⟩
 keep:=λi h h' st k=>k it (by simp) _ st
 item:=by
  intro X hP hw hK hc i pins s σ H E I hf st hg;subst hP hw hK
  obtain⟨f0,f1,f2,f3,f4,f5⟩:=hf it (by simp)
  have W:=Walks.range (prog:=X.prog) (w:=X.w) (I.ok.hd hc) it lo c n
  refine W.item i s _ _ hg st λv h' tk hv st' kk=>?_
  obtain⟨t,rfl⟩:=hv
  have I1:Inv X pins σ H { s with heap:=h',toks:=tk }:=I.turned (λb o hb e=>kk b o (by simpa using hb) e) f0 f1 f3 f4 f5
  exact⟨_,rfl,Ay3 (s:={ s with heap:=h',toks:=tk }) (n := "range_iterator") st' rfl rfl (by decide) ⟨.int (lo+i*c),H,I1,⟨t,rfl⟩,⟨rfl,rfl⟩,st',λb hb=>(hf b hb).1⟩⟩
 done:=by
  intro X hP hw hK hc i pins s σ H E I hf st hg;subst hP hw hK
  obtain⟨f0,f1,f2,f3,f4,f5⟩:=hf it (by simp)
  exact wpAny_pyNext_range_end (I.ok.hd hc) st (by have:n<=i:=hg;omega) λh' eb=>⟨rfl,I.turned (t':=s.toks) (λb o hb e=>eb b o hb e) f0 f1 f3 f4 f5⟩
 self:=λ_ _ _ _ _ st h=>wpAny_pyIter_rangeiter st h
section
variable {X:Cx}{tg:Expr}
def B1g (ta:TA):TI:=λσ H R=>ta σ H λvs H1=>∃i j:Int,vs=[.int i,.int j,.int 64]/\(0<=i/\i<=640/\0<=j/\j<=640)/\R (B2j i 64 (if i<j then ((j-i-1) / 64+1).toNat else 0)) H1
theorem A9u {a b c:Expr}{ta:TA}{p pos:Pos}(hg:Gl X "range") (hm:X.mg "range" = none) (ha:QA X [a,b,c] ta) (hs:isStar a=false:=by rfl) (hs2:isStar b=false:=by rfl) (hs3:isStar c=false:=by rfl) :
 QI X tg (.Call (.Name "range" p) [a,b,c] [] pos) (B1g ta):=by
 refine⟨?_⟩
 intro pins s σ H R I h;have st1:=G5 (es:=[b,c]) (env:=X.env) hs;have st2:=G5 (es:=[c]) (env:=X.env) hs2;have st3:=G5 (es:=[]) (env:=X.env) hs3
 refine Call_ (M6 I hg hm boot_range (eE (thn (ha.1 pos pins s σ H _ I h) λus s1 ⟨vs,H1,I1,r1,q1⟩=>?_) st1 (by rw[st2,st3];rfl)))
 obtain⟨i,j,rfl,⟨q1,q2,q3,q4⟩,q⟩:=q1
 cases r1 with
 | cons r rr =>
  cases rr with
  | cons r' rr =>
   cases rr with
   | cons r3 rr =>
    cases rr
    obtain⟨t,rfl⟩:=r;obtain⟨t',rfl⟩:=r';obtain⟨t3,rfl⟩:=r3
    refine call_range_3 (by decide) ?_ (Or.inl (PyProof.noPylong_small (by omega)))
    have dv:0<=(j-i-1) / 64+1\/¬ i<j:=by
     by_cases z:i<j
     ·exact .inl (by omega)
     ·exact .inr z
    have sm:Builtin.Range.small i j 64=true:=by
     have e1:Builtin.Range.rangeSize i j 64<=11:=by unfold Builtin.Range.rangeSize;rw[if_pos (by decide)];split <;> omega
     have e0:0<=Builtin.Range.rangeSize i j 64:=by unfold Builtin.Range.rangeSize;rw[if_pos (by decide)];split <;> omega
     unfold Builtin.Range.small
     simp only[Builtin.Range.rangeFitsLong,fj,Bool.or_eq_true,gF,beq_iff_eq,show ((64:Int)>0) by decide,aY]
     omega
    refine wpAny_pyIter_range (IsRange.new ..) sm ?_
    have I2:Inv X pins σ H1 { s1 with heap:=s1.heap.push { cls:=.type "range",data:=.fields #[.int i t,.int j t',.int 64 t3] } }:=I1.kept (t':=s1.toks) λb o e=>Heap.get?_push_of_some _ e
    refine⟨(s1.heap.push { cls:=.type "range",data:=.fields #[.int i t,.int j t',.int 64 t3] }).objs.size,[(s1.heap.push { cls:=.type "range",data:=.fields #[.int i t,.int j t',.int 64 t3] }).objs.size],_,_,H1,rfl,
     I2.kept (t':=s1.toks) λb o e=>Heap.get?_push_of_some _ e,A0i _ i 64 (if i<j then ((j-i-1) / 64+1).toNat else 0),?_,λb hb=>?_,q⟩
    ·show IsRangeIter _ _ (i+((0:Nat):Int)*64) (((if i<j then ((j-i-1) / 64+1).toNat else 0:Nat):Int)-((0:Nat):Int)) 64
     have e1:i+((0:Nat):Int)*64=i:=by simp
     have e2:(((if i<j then ((j-i-1) / 64+1).toNat else 0:Nat):Int)-((0:Nat):Int))=Builtin.Range.rangeSize i j 64:=by
      unfold Builtin.Range.rangeSize
      rw[if_pos (show (64:Int)>0 by decide)]
      split <;> omega
     rw[e1,e2];exact Heap.get?_push_size _ rfl
    ·have e:b=(s1.heap.push { cls:=.type "range",data:=.fields #[.int i t,.int j t',.int 64 t3] }).objs.size:=by simpa using hb
     subst e;exact I2.fpOk (ak _) (I2.hok.fresh (ak _))
end
end L2
namespace L2
open PySem PySem.Spec PyProof.Rows PySem.Calls
open PySem.AutoSeq1 (wpAny_loadPart')
def B3f (t:Bool)(a:Addr):It :=
 ⟨
  λi H=>∃xs x,SqK t H a xs/\xs[i]?=some x,
  λi H v H'=>∃p x,v=.ref p/\H p=none/\H'=upd H p (.tup [.int ((i+1:Nat):Int),x])/\∀xs,SqK t H a xs->xs[i]?=some x,
  λi H=>∃xs,SqK t H a xs/\xs.length<=i⟩
theorem A3a {P:p7}{w:World}{K:q9}{t:Bool}{elts:q_}{kk:Nat}{pos:Pos}{e j a:Addr}(ne:e≠j) :
 Turn P w K (.Tuple elts kk pos) (B3f t a) [e,j] e (λi h=>(∃old,IsEnum h e j ((i+1:Nat):Int) old)/\ItAt t h j a i) where
 mem:=by simp
 obj:=λi h st c hc=>by
  simp only[au,bf,bh]at hc
  rcases hc with rfl | rfl
  ·obtain⟨old,q⟩:=st.1;exact⟨_,q,λv e=>by cases e⟩
  ·obtain⟨o,e,q⟩:=st.2.obj;exact⟨o,e,λv e=>by rw[q]at e;cases e⟩
 keep:=λi h h' st k=>by
  obtain⟨⟨old,q⟩,r⟩:=st
  exact⟨⟨old,k e (by simp) _ q⟩,r.stay λo e=>k j (by simp) o e⟩
 item:=by
  intro X hP hw hK hc i pins s σ H E I hf st hg;subst hP hw hK;obtain⟨xs,x,ha,hx⟩:=hg;obtain⟨⟨old,en⟩,it⟩:=st;obtain⟨its,rv,pa⟩:=ha.its I;obtain⟨u,hu,ru⟩:=rv.get hx
  have off:∀c∈[e,j],a≠c:=λc m z=>by obtain⟨o,q⟩:=ha.some;rw[z,(hf c m).1]at q;cases q
  have dr:=B3w (P:=X.prog) (w:=X.w) (A:=X.A.in1) (I.ok.hd hc) t j a (off j (by simp)) its.toArray
  have sh:Draws X.prog X.w X.A.in1 j [j,a] (its.toArray.size+1) (λk v=>its.toArray[k-1]?=some v) (λk h=>1<=k/\(ItAt t h j a (k-1)/\SqA t h a its.toArray)) :=
   {
    live:=λk h x=>dr.live _ h x.2
    frame:=λk h h' x kp=>⟨x.1,dr.frame _ h h' x.2 kp⟩
    item:=λk s Q E hk x q=>dr.item (k-1) s Q E (by have:=x.1;omega) x.2 λv h' tk a1 a2 a3=>q v h' tk a1 ⟨gf x.1,by rw[Nat.sub_add_comm x.1];exact a2⟩ a3
    done:=λs Q E x q=>dr.done s Q E (by have:=x.2;rw[gh]at this;exact this) q }
  have li:i<its.toArray.size:=by simpa using (bB.mp hu).1
  refine wpAny_pyNext_enum_itemD (i:=i+1) sh en ⟨Nat.le_add_left _ _,it,pa⟩ (Nat.succ_lt_succ li) ne (by simp;exact⟨ne,λz=>off e (by simp) z.symm⟩) λu' h1 tk pu ou st1 new _ kp=>?_
  have eu:u'=u:=by
   have pu:its.toArray[i]?=some u':=pu;rw[List.getElem?_toArray,hu]at pu;cases pu;rfl
  subst eu
  refine⟨_,rfl,?_⟩
  apply wpAny_letOwnedTupleGo_enum ou;intro h2 en2 sb
  have lt:∀c∈[e,j],c<s.heap.objs.size:=λc m=>by
   simp only[au,bf,bh]at m
   rcases m with rfl | rfl
   ·exact Heap.lt_size en
   ·obtain⟨o,e,_⟩:=it.obj;exact Heap.lt_size e
  have new2:h2.get? s.heap.objs.size=some { cls:=.type "tuple",data:=.seq #[.int ((i+1:Nat):Int) tk,u'] }:=sb.extBut _ _ (a_ (lt e (by simp))) new
  have ok:zJ X.prog X.w (upd H s.heap.objs.size (.tup [.int ((i+1:Nat):Int),x])) h2 s.heap.objs.size (.tup [.int ((i+1:Nat):Int),x]):=⟨(show 2<=sizeLine by decide),[.int ((i+1:Nat):Int) tk,u'],.cons ⟨tk,rfl⟩ (.cons ru .nil),⟨_,new2,rfl,⟨_,rfl⟩,rfl⟩⟩
  have I2:=I.turnLay (t':=tk+1) hf (h':=h2) (λc o m q=>sb.extBut _ _ (λz=>m (by simp[z])) (kp c o (λz=>m (by simp[z])) (λz=>m (by simp[z])) q)) (ak _) ok
  refine⟨.ref s.heap.objs.size,_,I2,rfl,⟨_,x,rfl,I.hok.fresh (ak _),rfl,λxs' h=>?_⟩,⟨⟨u',?_⟩,?_⟩,λc m=>?_⟩
  ·rw[h.one ha];exact hx
  ·have:IsEnum h2 e j (((i+1:Nat):Int)+1) u':=en2
   have z:((i+1+1:Nat):Int)=((i+1:Nat):Int)+1:=by omega
   rw[z];exact this
  ·exact st1.2.1.stay λo q=>sb.extBut _ _ (aL ne) q
  ·rw[Al (aJ (lt c m))]
   exact(hf c m).1
 done:=by
  intro X hP hw hK hc i pins s σ H E I hf st hg;subst hP hw hK;obtain⟨xs,ha,hl⟩:=hg;obtain⟨⟨old,en⟩,it⟩:=st;obtain⟨its,rv,pa⟩:=ha.its I
  have off:∀c∈[e,j],a≠c:=λc m z=>by obtain⟨o,q⟩:=ha.some;rw[z,(hf c m).1]at q;cases q
  have ty:s.TypeIs (.ref e) "enumerate" := ⟨_,en,rfl⟩;have ln:=rv.length;unfold pyNext;apply wpAny_bind;apply wpAny_attempt
  refine wpAny_callSpecial?_slot (name:="__next__") ty F.slot_enumerate_next ?_
  refine wpAny_call_entry F.slot_enumerate_next ty F.entry_enumerate_next ?_ (F.args_enumerate_next_1 _)
  apply wpAny_bind (m:=field (.ref e) 2);apply wpAny_field en rfl (x:=.ref j) rfl;apply wpAny_bind
  refine next_end (I.ok.hd hc) it pa (by simp;omega) λh1 x kp hx=>?_
  obtain⟨o,e1,e2⟩:=hx;apply wpAny_bind
  refine wpAny_isInstance (T := "StopIteration") (b:=true) ⟨o,e1,e2⟩ isSubtype_stop ?_
  exact wpAny_pure ⟨rfl,I.turnL (t':=s.toks) hf λc o m q=>kp c o (λz=>m (by simp[z])) q⟩
 self:=λ_ _ _ _ _ st h=>let ⟨_,q⟩:=st.1;wpAny_pyIter_enum q h
theorem Aa6 (a:Value)(t:Tok):checkTypeCall "enumerate" ⟨[a],[("start",.int 1 t)]⟩=pure ():=by kernel_rfl
theorem Ai2 (a:Value)(t:Tok):checkBuiltinCall "enumerate.__new__" ⟨[.type "enumerate",a],[("start",.int 1 t)]⟩=pure ():=by kernel_rfl
open PySem.F in
theorem Aw7 (o a:Value)(t:Tok):argsOk "object.__init__" ⟨[o,a],[("start",.int 1 t)]⟩:=by
 unfold argsOk;rw[signature?_of (id := "object.__init__") (n:=['_','_','t','i','n','i','_','_']) (o:=['t','c','e','j','b','o']) (by kernel_rfl) owner_object];kernel_rfl
theorem A2n (u:Addr)(vs:u_)(n:Nat)(dct:Option Addr)(sl:Array (p_))(t:Tok) :
 Meets (Builtin.«enumerate.__new__» ⟨[.type "enumerate",.ref u],[("start",.int 1 t)]⟩) (λ_ R s=>s.heap.get? u=some { cls:=.type "list",dict:=dct,data:=.seq vs n,slots:=sl } /\
  R (.ok (.ret (.ref (s.heap.push (itO false u)).objs.size))) { s with heap:=(s.heap.push (itO false u)).push { cls:=.type "enumerate",data:=.fields #[.none,.bool false,.ref s.heap.objs.size,rawInt 1,.none,.none] } }) :=
 .of_wp λP w A R s h=>by
  obtain⟨hp,g,d,tk,os⟩:=s;obtain⟨e,h⟩:=h;have sub:=sub_enumerate;have tu:Heap.IsList (Shared.heap ⟨hp,g,d,tk,os⟩) u vs:=⟨_,e,rfl,n,rfl⟩
  wp_walk using AutoSeq1.wpAny_loadPart' e
  refine wpAny_stack_any λst=>wpAny_pure ?_
  split
  ·rename_i c _ _ _ _ _
   cases (c==Value.type "enumerate")
   ·wp_walk using AutoSeq1.wpAny_loadPart' e,wpAny_pyIter_list tu
    exact⟨_,rfl,h⟩
   ·wp_walk using AutoSeq1.wpAny_loadPart' e,wpAny_pyIter_list tu
    exact⟨_,rfl,h⟩
  ·wp_walk using AutoSeq1.wpAny_loadPart' e,wpAny_pyIter_list tu
   exact⟨_,rfl,h⟩
section
variable {prog:p7}{w:World}{A:o6}{E:z_}{s:o4}
theorem A0v {o a:Value}{t:Tok}:Meets (Builtin.«object.__init__» ⟨[o,a],[("start",.int 1 t)]⟩) (λ_ R s=>s.TypeIs o "enumerate" /\ R (.ok (.ret .none)) s):=by
 refine Meets.of_wp λprog w A R s hs=>?_
 obtain⟨hT,hq⟩:=hs;have hl:=F.called_enumerate.init.lookup;have hm:=F.called_enumerate.made
 have hne:(some "enumerate.__new__" != some "object.__new__")=true:=by decide
 repeat (any_goals (first | assumption | wp_step))
 exact⟨_,rfl,hq⟩
theorem A4m {u:Addr}{vs:u_}{t:Tok}{Q:z_}(p:s.heap.IsList u vs)
 (q:∀h',IsEnum h' (s.heap.objs.size+1) s.heap.objs.size 1 .none->ItAt false h' s.heap.objs.size u 0->(∀c o,s.heap.get? c=some o->h'.get? c=some o)->Q (.ref (s.heap.objs.size+1)) { s with heap:=h' }) :
 wpAny (model prog w) A (call (.type "enumerate") [.ref u] [("start",.int 1 t)]) Q E s:=by
 obtain⟨⟨c,dct,dt,sl⟩,e,k,n,g⟩:=p;simp only at k g;subst k g;have ft:=F.called_enumerate;obtain⟨c,tl,hmro⟩:=ft.mro;have hmade:=ft.made;have hsub:=ft.sub;have z1:(s.heap.push (itO false u)).objs.size=s.heap.objs.size+1:=Heap.size_push ..;have en:IsEnum ((s.heap.push (itO false u)).push { cls:=.type "enumerate",data:=.fields #[.none,.bool false,.ref s.heap.objs.size,rawInt 1,.none,.none] }) (s.heap.push (itO false u)).objs.size s.heap.objs.size 1 .none:=Heap.get?_push_size _ rfl;rw[z1]at en
 have fin:=q _ en (A3t (Heap.get?_push_of_some _ (Heap.get?_push_size _ rfl))) λc o x=>Heap.get?_push_of_some _ (Heap.get?_push_of_some _ x)
 refine wpAny_call (codeAny_of_tree ?_)
 show wpAny _ _ (callAny (.type "enumerate") _) _ _ _
 refine wpAny_pure ⟨Code.quiet_builtin _ (by decide +kernel),codeAny_builtin F.entry_type_call ?_⟩
 rw[Around.under_plain (weight_type_call_type "enumerate" [.ref u] [("start",.int 1 t)]) (units_type_call_type "enumerate" [.ref u] [("start",.int 1 t)])];have h1:=ft.notType;have h2:=ft.canCreate;have hct:=Aa6 (.ref u) t;have hcn:=Ai2 (.ref u) t
 repeat (any_goals (first | assumption | wp_step))
 have c1:codeAny (model prog w) A.in1 (.call (.builtin "enumerate.__new__") ⟨[.type "enumerate",.ref u],[("start",.int 1 t)]⟩) (λr s1=>r=.ok (.ret (.ref (s.heap.objs.size+1)))/\s1={ s with heap:=(s.heap.push (itO false u)).push { cls:=.type "enumerate",data:=.fields #[.none,.bool false,.ref s.heap.objs.size,rawInt 1,.none,.none] } }) s :=
  codeAny_call_builtin ft.plain F.entry_enumerate_new (wpAny_of_eq hcn (A2n u vs n dct sl t prog w A.in1 (λr s1=>r=.ok (.ret (.ref (s.heap.objs.size+1)))/\s1={ s with heap:=(s.heap.push (itO false u)).push { cls:=.type "enumerate",data:=.fields #[.none,.bool false,.ref s.heap.objs.size,rawInt 1,.none,.none] } }) s ⟨e,by rw[z1],rfl⟩))
 refine codeAny_mono c1 λr s₁ hr=>?_
 obtain⟨rfl,rfl⟩:=hr
 have hT:Shared.TypeIs { s with heap:=(s.heap.push (itO false u)).push { cls:=.type "enumerate",data:=.fields #[.none,.bool false,.ref s.heap.objs.size,rawInt 1,.none,.none] } } (.ref (s.heap.objs.size+1)) "enumerate" := ⟨_,en,rfl⟩
 have hli:=ft.init.lookup;have hbi:=ft.init.bind (.ref (s.heap.objs.size+1))
 repeat (any_goals (first | assumption | wp_step))
 have c2:codeAny (model prog w) A.in1 (.call (.builtin "object.__init__") ⟨[.ref (s.heap.objs.size+1),.ref u],[("start",.int 1 t)]⟩) (λr s1=>r=.ok (.ret .none)/\s1={ s with heap:=(s.heap.push (itO false u)).push { cls:=.type "enumerate",data:=.fields #[.none,.bool false,.ref s.heap.objs.size,rawInt 1,.none,.none] } }) ({ s with heap:=(s.heap.push (itO false u)).push { cls:=.type "enumerate",data:=.fields #[.none,.bool false,.ref s.heap.objs.size,rawInt 1,.none,.none] } }) :=
  codeAny_call_builtin ft.init.plain F.entry_object_init (ft.init.check _ _ _ _ _ _ _ _ hT (Aw7 _ _ t) (A0v prog w A.in1 (λr s1=>r=.ok (.ret .none)/\s1={ s with heap:=(s.heap.push (itO false u)).push { cls:=.type "enumerate",data:=.fields #[.none,.bool false,.ref s.heap.objs.size,rawInt 1,.none,.none] } }) _ ⟨hT,rfl,rfl⟩))
 refine codeAny_mono c2 λr₂ s₂ hr₂=>?_
 obtain⟨rfl,rfl⟩:=hr₂
 repeat (any_goals (first | assumption | wp_step))
end
section
variable {M:Model}{A:o6}{E:z_}{s:o4}{env:Env}
theorem Ww {pos:Pos}{T:String}{e:Expr}{rest:q_}{kws:List Keyword}{Q:z_}
 (h:wpAny M A (spliced (backTo pos (starEach (e::rest) env))) (λvs s₁=>wpAny M A (evalAll ((backToKw pos (keywordEach kws env)).map (·.2)))
  (λkvs s₂=>wpAny M A (call (.type T) vs (((backToKw pos (keywordEach kws env)).filterMap (·.1)).zip kvs)) Q E s₂) E s₁) E s)
 (he:backTo pos (starEach (e::rest) env)=(false,eval e env)::backTo pos (starEach rest env))
 (hplain:(backTo pos (starEach (e::rest) env)).any (·.1)=false)
 (hall:(backToKw pos (keywordEach kws env)).all (·.1.isSome)=true)
 (hkw:(backToKw pos (keywordEach kws env)).any (·.1.isNone)=false) :
 wpAny M A (callWith pos (.type T) [] (backTo pos (starEach (e::rest) env)) (backToKw pos (keywordEach kws env))) Q E s:=by
 have h2:wpAny M A (evalArgs (.type T) true (backTo pos (starEach (e::rest) env)) (backToKw pos (keywordEach kws env))) (λa s₁=>wpAny M A (call (.type T) a.pos a.kw) Q E s₁) E s:=by
  rw[he]at h ⊢;exact evalArgs_kwB hall h
 unfold callWith
 refine wpAny_bind (wpAny_holding (wpAny_mono h2 (λa s₁ h₁=>wpAny_bind (wpAny_standAt ?_)) λ_ _ x=>x))
 simp only[hplain,hkw,b_]
 refine wpAny_bind (wpAny_pure ?_)
 exact wpAny_bind (wpAny_mono h₁ (λr s₂ hr=>wpAny_bind (wpAny_holding (wpAny_point (wpAny_pure hr)))) λ_ _ x=>x)
end
section
variable {X:Cx}
def A3n (K:q9)(ta:TA):TI:=λσ H R=>ta σ H λvs H1=>∃a,vs=[.ref a]/\∃xs,SqL K H1 a xs/\R (B3f false a) H1
theorem Bf4 {a:Expr}{ta:TA}{p pos tpos kp kpos:Pos}{elts:q_}{kk kc:Nat}(hg:Gl X "enumerate") (hm:X.mg "enumerate" = none) (ha:PA X [a] ta)
 (he:backTo pos (starEach [a] X.env)=(false,eval a X.env)::backTo pos (starEach [] X.env):=by rfl) (hplain:(backTo pos (starEach [a] X.env)).any (·.1)=false:=by rfl) :
 PI X (.Tuple elts kk tpos) (.Call (.Name "enumerate" p) [a] [⟨some "start",.Constant (.int 1) kc kp,kpos⟩] pos) (A3n X.K ta):=by
 intro pins s σ H R I h
 refine wpAny_Call_Name_kw (M6 I hg hm Ad2 ?_ (by decide) (by decide))
 refine Ww (thn (ha pos pins s σ H _ I h) λus s1 ⟨vs,H1,I1,r1,q1⟩=>?_) he hplain rfl rfl
 obtain⟨a',rfl,xs,h1,q⟩:=q1;obtain⟨u1,rfl,g1⟩:=vals1 r1
 cases (show u1=Value.ref a' from g1)
 refine PyProof.Rows.kws_cons (wpAny_Constant_int (PyProof.Rows.kws_nil ?_))
 have I2:=I1.tok (s1.toks+1);obtain⟨its,rv,pl,hz⟩:=I2.list h1
 refine A4m pl.isList λh' en it kp=>?_
 apply wpAny_pyIter_enum en
 refine⟨_,_,_,_,H1,rfl,I2.kept (t':=s1.toks+1) kp,A3a (a_ (bY _)),⟨⟨_,en⟩,it⟩,λc hc=>?_,q⟩
 have le:s1.heap.objs.size<=c:=by
  simp only[au,bf,bh]at hc
  rcases hc with rfl | rfl <;> simp
 exact I2.fpOk le (I2.hok.fresh le)
theorem Be0 {Kq:q9}{a:Expr}{ta:TA}{p pos tpos kp kpos:Pos}{elts:q_}{kk kc:Nat}(hKq:X.K=Kq)(hg:Gl X "enumerate") (hm:X.mg "enumerate" = none) (ha:QA X [a] ta)
 (he:backTo pos (starEach [a] X.env)=(false,eval a X.env)::backTo pos (starEach [] X.env):=by rfl) (hplain:(backTo pos (starEach [a] X.env)).any (·.1)=false:=by rfl) :
 QI X (.Tuple elts kk tpos) (.Call (.Name "enumerate" p) [a] [⟨some "start",.Constant (.int 1) kc kp,kpos⟩] pos) (A3n Kq ta):=by
 subst hKq;exact⟨Bf4 hg hm ha.get he hplain⟩
end
end L2
namespace L2
open PySem PySem.Spec PyProof.Rows
def B0t:R2:=λx y H Q=>∃(z:Str) (k:Int),x=.str z/\y=.int k/\0<=k/\k<=1000/\z.length<=1000/\Q (.str (Txt.mul z k)) H
theorem mulOk_of {z:Str}{k:Int}(h0:0<=k)(h1:k<=1000)(hz:z.length<=1000):MulOk z k:=by
 refine⟨by simp;omega,λh _=>?_,λh _=>?_⟩
 ·have:(1000:Int)*k<=2 ^ 63-1:=by omega
  have e:(1000:Int)<=(2 ^ 63-1) / k:=(Int.le_ediv_iff_mul_le (by omega)).mpr this
  omega
 ·have:z.length*k.toNat<=1000*1000:=gj hz (by omega)
  exact aB (Nat.not_lt.mpr (ao this (by decide)))
theorem A4f (l:Addr)(n:Nat)(dd:Option Addr)(sl:Array (p_))(k:Int)(t:Tok)(h2:2<=k)(h3:k<=1000) :
 Meets (Builtin.«tuple.__mul__» ⟨[.ref l,.int k t],[]⟩)
  (λ_ R s=>s.heap.get? l=some { cls:=.type "tuple",dict:=dd,data:=.seq #[] n,slots:=sl }/\R (.ok (.ret (.ref l))) s) :=
 .of_wp λprog w A R s h=>by
  obtain⟨hp,g,d,tk,os⟩:=s;obtain⟨hl,h⟩:=h
  have c1:¬ (k < -(2 ^ 63)||k≥2 ^ 63)=true:=by simp;omega
  have c2:((#[]:u_).isEmpty||k==1)=true:=rfl
  wp_walk using wpAny_loadPart' hl
  rw[if_neg c1]
  wp_walk using wpAny_loadPart' hl
  exact⟨_,rfl,h⟩
section
variable {X:Cx}
theorem Bt7:OpR X (binaryOp .Mult) B0t:=by
 intro pins s σ H x y v u Q I rx ry h;obtain⟨z,k,rfl,rfl,h0,h1,hz,q⟩:=h;obtain⟨t,rfl⟩:=rx;obtain⟨t',rfl⟩:=ry
 exact SB.mul (mulOk_of h0 h1 hz) λt' k=>⟨.str _,H,I.tok _,⟨_,rfl⟩,q⟩
def Bz0:R2:=λx y H Q=>∃l k,x=.ref l/\y=.int k/\H l=some (.tup [])/\2<=k/\k<=1000/\Q (.ref l) H
theorem Br3:OpR X (binaryOp .Mult) Bz0:=by
 intro pins s σ H x y v u Q I rx ry h;obtain⟨l,k,rfl,rfl,hH,h2,h3,q⟩:=h
 cases rx
 obtain⟨t,rfl⟩:=ry;obtain⟨z,its,rt,o,e,hc,⟨n,hd⟩,hdn⟩:=I.hok l _ hH;obtain⟨c0,dd,dat,sl⟩:=o
 dsimp only at hc hd hdn
 subst hc hd hdn
 cases rt
 exact wpAny_binaryOp_repeat_ref (T := "tuple") (U := "int") (by decide) ⟨_,e,rfl⟩ (λs'=>typeIs_int s' k t) Ib F.fills_int_mul F.slot_int_rmul Mi F.slot_int_index.lookup
  (call_meets F.slot_int_rmul (typeIs_int s k t) F.entry_int_rmul (F.args_int_rmul_2 _ _) (Pa k t l #[] n _ _)
   ⟨e,rfl,⟨_,e,rfl⟩,call_meets F.slot_tuple_mul ⟨_,e,rfl⟩ F.entry_tuple_mul (F.args_tuple_mul_2 _ _) (A4f l n _ _ k t h2 h3) ⟨e,.ref l,H,I,rfl,q⟩⟩)
def Bz5:R2:=λx y H Q=>(B0t x y H Q\/B0r x y H Q)\/Bz0 x y H Q
theorem A5o {a b:Expr}{ta tb:TE}{pos:Pos}(ha:QE X a ta)(hb:QE X b tb):QE X (.BinOp a .Mult b pos) (tOp Bz5 ta tb):=⟨Xz (OpR.or (OpR.or Bt7 Bq4) Br3) ha.get hb.get⟩
end
end L2
namespace U
open PySem L2
section
variable {K:q9}{Hf H:Hp}
noncomputable def Oi (y z:Str):o5->m_
 | .str s=>if s.length<=1048576 then some (.im (.str (Txt.replace s y z))) else none
 | _=>none
theorem Bs8 {y z:Str}{t:TE}{f:m7}(h:ME K t f):ME K (Bo9 y z t) (cUn (Oi y z) f) :=
 X8 (r:=λx H Q=>∃v:Str,x=.str v/\v.length<=1048576/\Q (.str (Txt.replace v y z)) H) h λHf H x d o Q s r e n=>by
  unfold Oi at e
  split at e
  ·split at e
   ·rename_i hz
    cases e;cases Fi r;exact⟨_,rfl,hz,n.str s⟩
   ·cases e
  ·cases e
noncomputable def Ws:o5->o5->m_
 | .str s,.str y=>some (.im (.bool (Txt.startswith s y)))
 | _,_=>none
theorem Ag9:OpS K (λx y H Q=>rSw x [y] H Q) Ws:=by
 intro Hf H x y dx dy o Q s rx ry e n;unfold Ws at e
 split at e
 ·cases e;cases Fi rx;cases Fi ry;exact⟨_,_,rfl,rfl,n.bl s⟩
 ·cases e
theorem A1q:∀{ss:v_},TrL Hf (ss.map PyData.str) (ss.map V.str)
 | []=>rfl
 | x::ss=>⟨_,_,rfl,rfl,A1q (ss:=ss)⟩
noncomputable def Vt:o5->o5->m_
 | .str s,.str y=>if y.length≠0/\s.length<=16000000/\(Txt.split s y).length<=16000000 then some (.ls false ((Txt.split s y).map .str)) else none
 | _,_=>none
theorem Ao9:OpS K (λx y H Q=>rSplit x [y] H Q) Vt:=by
 intro Hf H x y dx dy o Q s rx ry e n;unfold Vt at e
 split at e
 ·split at e
  ·rename_i hz
   cases e;cases Fi rx;cases Fi ry
   exact⟨_,_,rfl,rfl,hz.1,lim hz.2.1,lim hz.2.2,λp hp=>n.lst s A1q hp⟩
  ·cases e
 ·cases e
noncomputable def Sh:o5->m_
 | .str x=>if x.length<=640 then (PySem.intText? x).map λi=>.im (.int i) else none
 | _=>none
theorem Bm5:UnS K (λx H Q=>Rc [x] H Q) Sh:=by
 intro Hf H x d o Q s r e n;unfold Sh at e
 split at e
 ·split at e
  ·rename_i hz
   obtain⟨i,h1,h2⟩:=bc.mp e
   cases h2;cases Fi r
   exact⟨_,i,rfl,h1,hz,n.int s⟩
  ·cases e
 ·cases e
def Zh:o5->o5->m_
 | .str sep,.tuple ds=>(strsOf ds).bind λss=>if ss.toArray.foldl (·+·.length+sep.length) 0<=16000000/\(Jw sep ss).length<=16000000 then some (.im (.str (Jw sep ss))) else none
 | _,_=>none
theorem An5:OpS K (λx y H Q=>Bj2 K x [y] H Q) Zh:=by
 intro Hf H x y dx dy o Q s rx ry e n;unfold Zh at e
 split at e
 ·obtain⟨ss,e1,e2⟩:=eU.mp e
  split at e2
  ·rename_i hb
   cases e2
   obtain⟨a,vs,rfl,h1,t⟩:=Jt s ry
   cases Ae7 e1 t
   exact⟨_,a,ss,rx,rfl,SqT.of h1,lim hb.1,lim hb.2,n.str s⟩
  ·cases e2
 ·cases e
def Vd:o5->o5->m_
 | .str sep,.list ds=>(strsOf ds).bind λss=>if ss.reverse.toArray.foldl (·+·.length+sep.length) 0<=16000000/\(Jw sep ss.reverse).length<=16000000 then some (.im (.str (Jw sep ss.reverse))) else none
 | _,_=>none
theorem Ak1:OpS K (λx y H Q=>A5g K x [y] H Q) Vd:=by
 intro Hf H x y dx dy o Q s rx ry e n;unfold Vd at e
 split at e
 ·obtain⟨ss,e1,e2⟩:=eU.mp e
  split at e2
  ·rename_i hb
   cases e2
   obtain⟨a,vs,rfl,h1,t⟩:=Jq ry
   cases Ae7 e1 t
   exact⟨_,a,ss,rx,rfl,SqL.of h1,lim hb.1,lim hb.2,n.str s⟩
  ·cases e2
 ·cases e
def Ui:o5->o5->m_
 | .str z,.int k=>if (0<=k/\k<=1000)/\z.length<=1000 then some (.im (.str (Txt.mul z k))) else none
 | .tuple a,.int k=>if (2<=k/\k<=1000)/\a.length<=1000 then some (.im (.tuple (Br8 a k.toNat))) else none
 | _,_=>none
theorem Az3:OpS K Bz5 Ui:=by
 intro Hf H x y dx dy o Q s rx ry e n;unfold Ui at e
 split at e
 ·split at e
  ·rename_i z k hz
   cases e;cases Fi rx;cases Dm ry
   exact .inl (.inl ⟨z,k,rfl,rfl,hz.1.1,hz.1.2,hz.2,n.str s⟩)
  ·cases e
 ·split at e
  ·rename_i a k hz
   cases e;cases Dm ry
   obtain⟨p,vs,rfl,h1,t⟩:=Jt s rx
   cases vs with
   | nil =>
    cases a with
    | nil =>
     have er:Br8 [] k.toNat=[]:=by unfold Br8;rw[List.flatten_replicate_nil]
     rw[er]at n
     exact .inr ⟨p,k,rfl,rfl,h1,hz.1.1,hz.1.2,n.tupS s t (λ_ _ e=>e) h1⟩
    | cons d ds=>exact absurd t.length (by simp)
   | cons v vs =>
    refine .inl (.inr ⟨p,k,v::vs,rfl,rfl,h1,hz.1.1,by simp,?_,λq hq=>n.tup s (A7g t _) hq⟩)
    have:=gj (show (v::vs).length<=1000 by rw[<- t.length];exact hz.2) (show k.toNat<=1000 by omega)
    omega
  ·cases e
 ·cases e
def Ah2 (f:m7):Ev->R (w6):=λc=>(f c).bind λp c=>match Eo c (nrm p) with
 | some (.str x)=>.ok (Z2 (O9 x)) c
 | _=>.bad
theorem Bc5 {x:Str}:Ar5 (B3p 0 x.cps.size λi v=>∃c,x.cps[i]?=some c/\v=sgn c) Hf (Z2 (O9 x)):=by
 intro i Hf' H s1 s2
 have l0:(O9 x).length=x.cps.size:=by unfold O9;rw[aj,eN]
 have l:(Z2 (O9 x)).length=x.cps.size:=by unfold Z2;rw[aj,gK,l0]
 refine⟨λe=>by show i=x.cps.size;omega,λd hd=>?_⟩
 have hi:i<x.cps.size:=by
  rcases fV i x.cps.size with q | q
  ·exact q
  ·rw[cu (by omega)]at hd;cases hd
 unfold Z2 at hd
 rw[bD,gb (by omega)]at hd
 cases hd
 refine⟨hi,λz H' hy=>?_⟩
 obtain⟨p,x',rfl,hp',rfl,c,hc,rfl⟩:=hy
 have e:(O9 x).getD i .none=.str ⟨#[c]⟩:=by
  unfold O9;rw[gM,bD,gG,hc];rfl
 have e2:Tr (upd Hf' p (.tup [.int ((i+0:Nat):Int),sgn c])) ((O9 x).getD i .none) (sgn c):=by rw[e];rfl
 exact⟨upd Hf' p (.tup [.int ((i+0:Nat):Int),sgn c]),Stp.newF s2 hp',Px s2,p,[.int ((i+0:Nat):Int),sgn c],rfl,Be,.int i,[sgn c],rfl,rfl,sgn c,[],rfl,e2,rfl⟩
theorem Bf5 {t:TE}{f:m7}(h:ME K t f):MI K (Bi1 (Ej t Jb)) (Ah2 f):=by
 intro β W c σ k R s
 refine h.toV β W c σ _ R (s.bnd.mono λp c1 s1 v W1 st1 R1 r1=>?_)
 match ex:Eo c1 (nrm p),s1 with
 | some (.str x),s1=>cases Fi (Ij R1 r1 ex);exact⟨x,rfl,s1 _ W1 st1 R1 Bc5⟩
 | some (.int _),s1=>exact s1.elim
 | some .none,s1=>exact s1.elim
 | some (.bool _),s1=>exact s1.elim
 | some (.list _),s1=>exact s1.elim
 | some (.tuple _),s1=>exact s1.elim
 | some (.dict _),s1=>exact s1.elim
 | none,s1=>exact s1.elim
noncomputable def Oh (xs:w6):w6:=(List.range xs.length).map λk=>.tuple [.int ((k+1:Nat):Int),xs.getD k .none]
noncomputable def B5o:o5->Option (w6)
 | .list ds=>some ds
 | _=>none
def Zv (f:m7):Ev->R (w6):=λc=>(f c).bind λp c=>(frz (nrm p) c).bind λx c=>match B5o x with
 | some xs=>.ok (Oh xs) c
 | _=>.bad
theorem Bo6 {a:Addr}{vs:l_}{xs:w6}(ha:SqK false Hf a vs)(u:TrL Hf xs vs):Ar5 (B3f false a) Hf (Oh xs):=by
 intro i Hf' H s1 s2;have hA:=Oz (s1.trans s2) ha
 have l:(Oh xs).length=xs.length:=by unfold Oh;rw[aj,gK]
 refine⟨λe=>⟨vs,hA,by rw[<- u.length];omega⟩,λd hd=>?_⟩
 have hi:i<xs.length:=by
  rcases fV i xs.length with q | q
  ·exact q
  ·rw[cu (by omega)]at hd;cases hd
 unfold Oh at hd;rw[bD,gb hi]at hd
 cases hd
 have hx:xs[i]?=some (xs.getD i .none):=by rw[gM,cj hi];rfl
 obtain⟨v1,q1,w1⟩:=u.got hx
 refine⟨⟨vs,v1,hA,q1⟩,λz H' hy=>?_⟩
 obtain⟨p,x',rfl,hp',rfl,e1⟩:=hy;have:=e1 vs hA;rw[q1]at this;cases this;have sf:=Bj (o:=.tup [.int ((i+1:Nat):Int),v1]) (Same.free s2 hp');exact⟨upd Hf' p (.tup [.int ((i+1:Nat):Int),v1]),Stp.newF s2 hp',Px s2,p,[.int ((i+1:Nat):Int),v1],rfl,Be,.int ((i+1:Nat):Int),[v1],rfl,rfl,v1,[],rfl,Tr.same sf (Tr.same s1 w1),rfl⟩
theorem A0k {t:TE}{f:m7}(h:ME K t f):MI K (A3n K (Ej t Jb)) (Zv f):=by
 intro β W c σ k R s
 refine h.toV β W c σ _ R (s.bnd.mono λp c1 s1 v W1 st1 R1 r1=>?_)
 obtain⟨x,c3,W3,_,s3,e3,st3,R3,t3⟩:=N8 R1 r1 s1.bnd
 match x,s3,t3 with
 | .list xs,s3,t3 =>
  obtain⟨a,vs,rfl,h1,q1⟩:=t3;rw[<- e3];exact⟨a,rfl,vs,SqL.of (R3.sub _ _ h1),s3 _ W3 (st1.trans st3) R3 (Bo6 h1 q1)⟩
 | .int _,s3,_=>exact s3.elim
 | .none,s3,_=>exact s3.elim
 | .bool _,s3,_=>exact s3.elim
 | .str _,s3,_=>exact s3.elim
 | .tuple _,s3,_=>exact s3.elim
 | .dict _,s3,_=>exact s3.elim
noncomputable def An1 (i:Int) (n:Nat):w6:=(List.range n).map λ(k:Nat)=>.int (i+k*64)
noncomputable def A6c (i j:Int):Nat:=if i<j then ((j-i-1) / 64+1).toNat else 0
def A6n (f g:m7)(h:m7):Ev->R (w6):=λc=>(f c).bind λp c=>(g c).bind λq c=>(h c).bind λr c=>match Lj (Eo c (nrm p)),Lj (Eo c (nrm q)),Lj (Eo c (nrm r)) with
 | some i,some j,some 64=>if 0<=i/\i<=640/\0<=j/\j<=640 then .ok (An1 i (A6c i j)) c else .bad
 | _,_,_=>.bad
theorem Bu4 {i:Int}{n:Nat}:Ar5 (B2j i 64 n) Hf (An1 i n):=by
 intro k Hf' H s1 s2
 have l:(An1 i n).length=n:=by unfold An1;rw[aj,gK]
 refine⟨λe=>by show n<=k;omega,λd hd=>?_⟩
 have hi:k<n:=by
  rcases fV k n with q | q
  ·exact q
  ·rw[cu (by omega)]at hd;cases hd
 refine⟨hi,λx H' ⟨e,q⟩=>?_⟩
 subst e;unfold An1 at hd;rw[bD,gb hi]at hd
 cases hd
 exact⟨Hf',Stp.refl,s2,q⟩
theorem Bt3 {t u v:TE}{f g h:m7}(hf:ME K t f)(hg:ME K u g)(hh:ME K v h):MI K (B1g (Ej t (Ej u (Ej v Jb)))) (A6n f g h):=by
 intro β W c σ k R s
 refine hf.toV β W c σ _ R (s.bnd.mono λp c1 s1 v1 W1 st1 R1 r1=>?_)
 refine hg.toV β W1 c1 σ _ R1 (s1.bnd.mono λq c2 s2 v2 W2 st2 R2 r2=>?_)
 refine hh.toV β W2 c2 σ _ R2 (s2.bnd.mono λr c3 s3 v3 W3 st3 R3 r3=>?_)
 have r1:=RepA.same st3.fz (RepA.same st2.fz r1);have r2:=RepA.same st3.fz r2
 match ex:Lj (Eo c3 (nrm p)),ey:Lj (Eo c3 (nrm q)),ez:Lj (Eo c3 (nrm r)) with
 | none,_,_=>simp only[ex]at s3;exact s3.elim
 | some i,none,_=>simp only[ex,ey]at s3;exact s3.elim
 | some i,some j,none=>simp only[ex,ey,ez]at s3;exact s3.elim
 | some i,some j,some m =>
  by_cases hm:m=64
  ·subst hm
   simp only[ex,ey,ez]at s3
   cases (Dm (Ij R3 r1 (Sw ex)))
   cases (Dm (Ij R3 r2 (Sw ey)))
   cases (Dm (Ij R3 r3 (Sw ez)))
   split at s3
   ·rename_i l
    exact⟨i,j,rfl,l,s3 _ W3 (st1.trans (st2.trans st3)) R3 Bu4⟩
   ·exact s3.elim
  ·exfalso
   simp only[ex,ey,ez]at s3
   split at s3
   ·rename_i h3;cases h3;exact hm rfl
   ·exact s3.elim
end
end U
namespace U
open PySem L2 PySem.W
end U
namespace L2
open PySem PySem.Spec PyProof.Rows
abbrev A2q (h:Heap)(it d:Addr)(i n ep:Nat)(x:Value)(b:Bool)(ok ov:Value):Prop :=
 h.get? it=some { cls:=.type "dict_itemiterator",dict:=none,data:=.fields #[x,.bool b,.ref d,.int i 0,.int n 0,.int ep 0,ok,ov],slots:=#[] }
section
variable {P:p7}{w:World}{A:o6}{E:z_}{s:o4}
theorem A0j {it dd:Addr}{i ep:Nat}{x ok ov:Value}{b:Bool}{es:t_}{od:Obj}{Q:p_->o4->Prop}(quiet:A.handled=none)(hit:A2q s.heap it dd i es.size ep x b ok ov)(hod:s.heap.get? dd=some od)(hdd:od.data=.dict es ep)(hi:es.size<=i)
 (hQ:∀h',Heap.ExtBut it s.heap h'->Q none { s with heap:=h' }):wpAny (model P w) A (pyNext (.ref it)) Q E s:=by
 obtain⟨hp,g,d,tk,os⟩:=s;obtain⟨c2,dct2,dat2,sl2⟩:=od;simp only at hdd;subst hdd;have ty:(⟨hp,g,d,tk,os⟩:o4).TypeIs (.ref it) "dict_itemiterator" := ⟨_,hit,rfl⟩;have f1:=mroOf_itemiter
 have f2:Builtin.Dict_items.ownsTuple "dict_itemiterator" = true:=by decide
 have f3:es[(i:Int).toNat]?=none:=by simp[hi]
 have f4:¬ ((i:Int)<0):=by omega
 unfold pyNext
 refine wpAny_bind (wpAny_attempt (wpAny_callSpecial?_slot (name:="__next__") ty F.slot_dict_itemiterator_next (wpAny_call_entry F.slot_dict_itemiterator_next ty F.entry_dict_itemiterator_next ?_ (F.args_dict_itemiterator_next_1 _))))
 repeat any_goals first | assumption | wp_step
 simp only[Ac7,f2,aY,List.drop,List.take]
 repeat any_goals first | assumption | wp_step
 simp only[f4,aW,f3]
 repeat any_goals first | assumption | wp_step
 refine wpAny_raiseNew_none (show A.in1.handled=none from quiet) ?_
 refine wpAny_bind (wpAny_isInstance (T := "StopIteration") (b:=true) ⟨_,Heap.get?_push_size _ rfl,rfl⟩ isSubtype_stop ?_)
 exact wpAny_pure (hQ _ (((Heap.SameBut.update ..).extBut.push _).push _))
theorem A8g {it dd p0:Addr}{i ep:Nat}{ok ov:Value}{b:Bool}{es:t_}{od o0:Obj}{Q:p_->o4->Prop}(hit:A2q s.heap it dd i es.size ep (rawInt p0) b ok ov)(e0:s.heap.get? p0=some o0)(n0:p0≠it)(hod:s.heap.get? dd=some od)(hdd:od.data=.dict es ep)(hi:i<es.size)
 (hQ:∀h',A2q h' it dd (i+1) es.size ep (rawInt p0) true ok ov->h'.get? s.heap.objs.size=some { cls:=.type "tuple",data:=.seq #[es[i].key,es[i].val] }->h'.objs.size=s.heap.objs.size+1 ->
  (∀b o,b≠it->s.heap.get? b=some o->h'.get? b=some o)->Q (some (.ref s.heap.objs.size)) { s with heap:=h' }):wpAny (model P w) A (pyNext (.ref it)) Q E s:=by
 obtain⟨hp,g,d,tk,os⟩:=s;obtain⟨c2,dct2,dat2,sl2⟩:=od;simp only at hdd;subst hdd;have ty:(⟨hp,g,d,tk,os⟩:o4).TypeIs (.ref it) "dict_itemiterator" := ⟨_,hit,rfl⟩;have f1:=mroOf_itemiter
 have f2:Builtin.Dict_items.ownsTuple "dict_itemiterator" = true:=by decide
 have f3:es[(i:Int).toNat]?=some es[i]:=by simp[hi]
 have f4:¬ ((i:Int)<0):=by omega
 unfold pyNext
 refine wpAny_bind (wpAny_attempt (wpAny_callSpecial?_slot (name:="__next__") ty F.slot_dict_itemiterator_next (wpAny_call_entry F.slot_dict_itemiterator_next ty F.entry_dict_itemiterator_next ?_ (F.args_dict_itemiterator_next_1 _))))
 repeat any_goals first | assumption | wp_step
 simp only[Ac7,f2,aY,List.drop,List.take]
 repeat any_goals first | assumption | wp_step
 simp only[f4,aW,f3]
 repeat any_goals first | assumption | wp_step
 simp only[Ac7,f2,aY]
 have sb:Heap.SameBut it hp (hp.update it (Obj.mapFields λx=>x.setIfInBounds (2+1) (rawInt ((i:Int)+1)))):=Heap.SameBut.update ..
 have g1:(hp.update it (Obj.mapFields λx=>x.setIfInBounds (2+1) (rawInt ((i:Int)+1)))).get? it=some { cls:=.type "dict_itemiterator",data:=.fields #[rawInt p0,.bool b,.ref dd,rawInt ((i:Int)+1),.int es.size 0,.int ep 0,ok,ov] }:=S5 hit
 have e1:((i+1:Nat):Int)=(i:Int)+1:=by omega
 have ne:hp.objs.size≠it:=a_ (Heap.lt_size hit)
 refine A1f (o:=o0) (Heap.get?_push_of_some _ ((Heap.SameBut.update hp it _).extBut _ _ n0 (by simpa using e0))) ?_
 simp only[Option.isNone_some,bz,aW]
 show wpAny (model P w) A.in1 (field (.ref it) 1 >>= λx=>if (x != .bool true)=true then (setField (.ref it) 1 (.bool true) >>= λ_=>pure false) else pure false) _ _ { heap:=(hp.update it (Obj.mapFields λx=>x.setIfInBounds (2+1) (rawInt ((i:Int)+1)))).push { cls:=Value.type "tuple",data:=Data.seq #[es[i].key,es[i].val] },gens:=g,drawn:=d,toks:=tk,os:=os }
 have fin:∀h6,A2q h6 it dd (i+1) es.size ep (rawInt p0) true ok ov->Heap.SameBut it ((hp.update it (Obj.mapFields λx=>x.setIfInBounds (2+1) (rawInt ((i:Int)+1)))).push { cls:=Value.type "tuple",data:=Data.seq #[es[i].key,es[i].val] }) h6->Q (some (.ref (hp.update it (Obj.mapFields λx=>x.setIfInBounds (2+1) (rawInt ((i:Int)+1)))).objs.size)) { heap:=h6,gens:=g,drawn:=d,toks:=tk,os:=os }:=λh6 g6 s6=>by
  have sz:(hp.update it (Obj.mapFields λx=>x.setIfInBounds (2+1) (rawInt ((i:Int)+1)))).objs.size=hp.objs.size:=sb.1
  have t2:((hp.update it (Obj.mapFields λx=>x.setIfInBounds (2+1) (rawInt ((i:Int)+1)))).push { cls:=Value.type "tuple",data:=Data.seq #[es[i].key,es[i].val] }).get? (hp.update it (Obj.mapFields λx=>x.setIfInBounds (2+1) (rawInt ((i:Int)+1)))).objs.size=some { cls:=Value.type "tuple",data:=Data.seq #[es[i].key,es[i].val] }:=Heap.get?_push_size _ rfl
  rw[sz]at t2 ⊢
  refine hQ h6 g6 ((s6.2 _ ne).trans t2) (by rw[s6.1,Heap.size_push,sz]) λb o n e=>(s6.2 b n).trans (Heap.get?_push_of_some _ ((sb.2 b n).trans e))
 refine wpAny_bind (wpAny_field (x:=.bool b) (Heap.get?_push_of_some _ g1) rfl rfl ?_)
 cases b with
 | true =>
  refine wpAny_pure ?_
  simp only[bz,aW]
  refine wpAny_pure (wpAny_pure ⟨_,rfl,wpAny_pure ?_⟩)
  refine fin _ ?_ (Heap.SameBut.refl _ _)
  unfold A2q;rw[e1];exact Heap.get?_push_of_some _ g1
 | false =>
  rw[if_pos (by decide)]
  refine wpAny_bind (wpAny_setField_rec (Heap.get?_push_of_some _ g1) (by simp) λh3 z1 c1=>?_)
  refine wpAny_pure ?_
  simp only[bz,aW]
  refine wpAny_pure (wpAny_pure ⟨_,rfl,wpAny_pure ?_⟩)
  refine fin _ ?_ c1
  unfold A2q;rw[e1];exact z1
end
def LaidI (H0:Hp)(kvs:List (PyData×V)):Nat->l_->Hp->Prop
 | 0,ps,H=>ps=[]/\H=H0
 | i+1,ps,H=>∃r H' p k v b,LaidI H0 kvs i r H'/\kvs[i]?=some (k,v)/\KAt H' k b/\H' p=none/\ps=r++[.ref p]/\H=upd H' p (.tup [.ref b,v])
theorem LaidI.length {H0:Hp}{kvs:List (PyData×V)}:∀{i:Nat}{ps:l_}{H:Hp},LaidI H0 kvs i ps H->ps.length=i
 | 0,_,_,⟨e,_⟩=>by rw[e];rfl
 | i+1,_,_,⟨r,H',p,k,v,b,l,_,_,_,e,_⟩=>by rw[e,aM,l.length];rfl
def Is (h:Heap)(it d:Addr)(i n ep:Nat):Prop:=(∃ok ov,IsItemIter h it d i n ep ok ov)\/∃p0 b ok ov,p0≠it/\(∃o,h.get? p0=some o)/\A2q h it d i n ep (rawInt (p0:Nat)) b ok ov
section
variable {X:Cx}{pins:y_}{σ:St}{A:o6}{it a S:Addr}{kvs:List (PyData×V)}{o:Obj}{es:t_}{ep:Nat}
theorem Is.end {P:p7}{w:World}{E:z_}{s:o4}{i:Nat}{Q:p_->o4->Prop}(quiet:A.handled=none)(y:Is s.heap it a i es.size ep)(hod:s.heap.get? a=some o)(hdd:o.data=.dict es ep)(hi:es.size<=i)
 (hQ:∀h',Heap.ExtBut it s.heap h'->Q none { s with heap:=h' }):wpAny (model P w) A (pyNext (.ref it)) Q E s:=by
 rcases y with ⟨ok,ov,y⟩ | ⟨p0,b,ok,ov,n,_,y⟩
 ·exact A0j quiet y hod hdd hi hQ
 ·exact A0j quiet y hod hdd hi hQ
theorem Is.item {P:p7}{w:World}{E:z_}{s:o4}{i:Nat}{Q:p_->o4->Prop}(y:Is s.heap it a i es.size ep)(hod:s.heap.get? a=some o)(hdd:o.data=.dict es ep)(hi:i<es.size)
 (hQ:∀h',Is h' it a (i+1) es.size ep->h'.get? s.heap.objs.size=some { cls:=.type "tuple",data:=.seq #[es[i].key,es[i].val] }->(∀b o,b≠it->s.heap.get? b=some o->h'.get? b=some o)->Q (some (.ref s.heap.objs.size)) { s with heap:=h' }) :
 wpAny (model P w) A (pyNext (.ref it)) Q E s:=by
 rcases y with ⟨ok,ov,y⟩ | ⟨p0,b,ok,ov,n,⟨o0,e0⟩,y⟩
 ·exact Ba8 y hod hdd hi λh' st new _ kp=>hQ h' (.inr ⟨_,false,_,_,a_ (Heap.lt_size y),⟨_,new⟩,st⟩) new kp
 ·exact A8g y e0 n hod hdd hi λh' st new _ kp=>hQ h' (.inr ⟨p0,true,_,_,n,⟨o0,kp p0 o0 n e0⟩,st⟩) new kp
theorem Is.keep {i n:Nat}{h h':Heap}(y:Is h it a i n ep)(kp:∀b o,h.get? b=some o->b≠S->h'.get? b=some o)(al:∀o,h.get? S=some o->∃o',h'.get? S=some o')(n1:it≠S):Is h' it a i n ep:=by
 rcases y with ⟨ok,ov,y⟩ | ⟨p0,b,ok,ov,n,⟨o0,e0⟩,y⟩
 ·exact .inl ⟨ok,ov,kp _ _ y n1⟩
 ·refine .inr ⟨p0,b,ok,ov,n,?_,kp _ _ y n1⟩
  by_cases z:p0=S
  ·rw[z]at e0 ⊢;exact al o0 e0
  ·exact⟨o0,kp _ _ e0 z⟩
theorem Bv2 {H0:Hp}{R:Result->o4->Prop}{res:Value}(quiet:A.in1.handled=none)(nS:it≠S)(hd:o.data=.dict es ep)(hz:kvs.length<=sizeLine)(hn:es.size=kvs.length)
 (fin:∀H acc c ps s,Inv X pins σ H s->LaidI H0 kvs kvs.length ps H->Vals ps acc.toList->s.heap.get? S=some { cls:=.type "list",dict:=none,data:=.seq acc c,slots:=#[] }->R (.ok (.ret res)) s) :
 ∀
  (r i:Nat) (H:Hp) (s:o4) (acc:u_) (c:Nat) (ps:l_),i+r=kvs.length->Inv X pins σ H s->Qw X pins H it->Qw X pins H S->H a=some (.frz o (.dT kvs))->Is s.heap it a i es.size ep ->
  s.heap.get? S=some { cls:=.type "list",dict:=none,data:=.seq acc c,slots:=#[] }->acc.size=i->Vals ps acc.toList->LaidI H0 kvs i ps H->codeAny (model X.prog X.w) A (.builtin "list.extend.loop" ⟨[.ref S,.ref it,res],[]⟩) R s:=by
 intro r
 induction r with
 | zero =>
  intro i H s acc c ps e I hf fS ha y hS ea rv L
  have hi:i=kvs.length:=by omega
  subst hi;obtain⟨xs,es',ep',g1,g2,g3,g4,g5,g6,g7⟩:=I.seen ha
  refine codeAny_builtin F.entry_extend_loop ?_
  rw[Around.under_plainId F.plain_extend_loop _]
  show wpAny _ A.in1 (pyNext (.ref it) >>= _) _ _ s
  refine wpAny_bind (y.end quiet g1 hd (by omega) λh' kp=>?_)
  exact wpAny_pure (fin H acc c ps _ (I.turnL (t':=s.toks) (ch:=[it]) (λb hb=>by rw[az.mp hb];exact hf) λc o m e=>kp c o (λq=>m (by simp[q])) e) L rv (kp S _ (aL nS) hS))
 | succ r ih =>
  intro i H s acc c ps e I hf fS ha y hS ea rv L
  have hi:i<kvs.length:=by omega
  have hie:i<es.size:=by omega
  obtain⟨xs,es',ep',g1,g2,g3,g4,g5,g6,g7⟩:=I.seen ha;rw[hd]at g4
  cases g4
  obtain⟨⟨k,v⟩,hk⟩:∃x,kvs[i]?=some x:=⟨_,cj hi⟩;obtain⟨b,u,k1,k2,k3,k4⟩:=Bu7 g5 g6 hk hie
  refine codeAny_builtin F.entry_extend_loop ?_
  rw[Around.under_plainId F.plain_extend_loop _]
  show wpAny _ A.in1 (pyNext (.ref it) >>= _) _ _ s
  refine wpAny_bind (y.item g1 hd hie λh1 y1 new kp=>?_)
  have hS1:=kp S _ (aL nS) hS;have np:s.heap.objs.size≠S:=a_ (Heap.lt_size hS);have hp:H s.heap.objs.size=none:=I.hok.fresh (ak _)
  have I1:=I.turnLay (t':=s.toks) (h':=h1) (p:=s.heap.objs.size) (o:=.tup [.ref b,v]) (ch:=[it]) (λb hb=>by rw[az.mp hb];exact hf) (λc o m e=>kp c o (λq=>m (by simp[q])) e) (ak _) ⟨(show 2<=sizeLine by decide),[es[i].key,es[i].val],.cons (by rw[k1];rfl) (.cons (by rw[k2];exact k4) .nil),⟨_,new,rfl,⟨_,rfl⟩,rfl⟩⟩
  have nit:it≠s.heap.objs.size:=by
   rcases y with ⟨ok,ov,y⟩ | ⟨p0,b,ok,ov,n,_,y⟩
   ·exact aJ (Heap.lt_size y)
   ·exact aJ (Heap.lt_size y)
  have hf1:Qw X pins (upd H s.heap.objs.size (.tup [.ref b,v])) it:=⟨(Al nit).trans hf.1,hf.2⟩;have fS1:Qw X pins (upd H s.heap.objs.size (.tup [.ref b,v])) S:=⟨(Al (aL np)).trans fS.1,fS.2⟩
  show wpAny _ A.in1 (updateSeq S (·.push (.ref s.heap.objs.size)) >>= _) _ _ _
  have oth:∀b o,b≠S->h1.get? b=some o->(h1.update S (Obj.mapSeq (·.push (.ref s.heap.objs.size)))).get? b=some o:=λb o n e=>(Heap.get?_update_other _ _ (aL n)).trans e
  have ha1:upd H s.heap.objs.size (.tup [.ref b,v]) a=some (.frz o (.dT kvs)):=(Al (Cg ha hp)).trans ha
  refine wpAny_bind (wpAny_updateSeq hS1 rfl (wpAny_pure ⟨plainId_quiet F.plain_extend_loop _,ih (i+1) _ _ _ _ (ps++[.ref s.heap.objs.size]) (by omega)
   (I1.turnL (t':=s.toks) (ch:=[S]) (λb hb=>by rw[az.mp hb];exact fS1) λb o m e=>oth b o (λq=>m (by simp[q])) e) hf1 fS1 ha1 (y1.keep (S:=S) (λb o e n=>oth b o n e) (λo e=>⟨_,Heap.get?_update_self _ hS1 rfl⟩) nS) (Heap.get?_update_self _ hS1 rfl) ?_ ?_ ⟨ps,H,_,k,v,b,L,hk,k3,hp,rfl,rfl⟩⟩)
   (by rw[ea];omega) (by show (acc.push _).size<=sizeLine+1;rw[Array.size_push,ea];omega))
  ·rw[Array.size_push,ea]
  ·rw[Array.toList_push]
   exact rv.append (.cons rfl .nil)
theorem By6:typeLookup (.type "dict_items") "__len__" = pure (some (.builtin "dict_items.__len__")):=by rw[typeLookup_type,builtinLookup_eq_fast];kernel_rfl
theorem A7w:isSubtype (.type "dict_items") (.type "dict_items")=pure true:=by rw[isSubtype_type];kernel_rfl
theorem Ah7 {s:o4}{E:z_}{H:Hp}{v:Addr}{Q:v4->o4->Prop}(quiet:A.handled=none)(I:Inv X pins σ H s)(ha:H a=some (.frz o (.dT kvs)))
 (hv:s.heap.get? v=some { cls:=.type "dict_items",data:=.fields #[.ref a] })
 (hQ:∀H' vs ps s',Inv X pins σ H' s'->LaidI H kvs kvs.length ps H'->Vals ps vs->Q vs s'):wpAny (model X.prog X.w) A (collect (.ref v)) Q E s:=by
 obtain⟨xs,es,ep,g1,g2,g3,g4,g5,g6,hz⟩:=I.seen ha;have hn:=Aj1 g5 g6;unfold collect
 refine wpAny_bind (wpAny_runValue (codeAny_builtin F.entry_proto_collect ?_))
 rw[Around.under_plainId F.plain_proto_collect _]
 show wpAny _ A.in1 (newList [] >>= λl=>again (.builtin "list.__iadd__" ⟨[l,.ref v],[]⟩)) _ _ s
 refine wpAny_bind (wpAny_newObj_type ?_)
 refine wpAny_pure ⟨plainId_quiet F.plain_list_iadd _,codeAny_builtin F.entry_list_iadd ?_⟩
 rw[Around.under_plainId F.plain_list_iadd _];have hS0:(s.heap.push { cls:=.type "list",data:=.seq ([]:v4).toArray }).get? s.heap.objs.size=some { cls:=.type "list",data:=.seq ([]:v4).toArray }:=Heap.get?_push_size _ rfl;have nv:s.heap.objs.size≠v:=a_ (Heap.lt_size hv)
 have e1:Builtin.List.listSameRef (.ref s.heap.objs.size) (.ref v)=false:=by simp[Builtin.List.listSameRef,nv]
 have hv0:=Heap.get?_push_of_some { cls:=.type "list",data:=.seq ([]:v4).toArray } hv;have hg0:=Heap.get?_push_of_some { cls:=.type "list",data:=.seq ([]:v4).toArray } g1;have sz0:(s.heap.push { cls:=.type "list",data:=.seq ([]:v4).toArray }).objs.size=s.heap.objs.size+1:=Heap.size_push ..
 have up0:∀c o,s.heap.get? c=some o->(s.heap.push { cls:=.type "list",data:=.seq ([]:v4).toArray }).get? c=some o:=λc o e=>Heap.get?_push_of_some _ e
 generalize (s.heap.push { cls:=.type "list",data:=.seq ([]:v4).toArray })=h0 at *
 show wpAny _ A.in1 (Builtin.List.listExtendWith (.ref s.heap.objs.size) (.ref v) (.ref s.heap.objs.size)) _ _ _
 unfold Builtin.List.listExtendWith
 have ty0:({ s with heap:=h0 }:o4).TypeIs (.ref v) "dict_items" := ⟨_,hv0,rfl⟩
 refine wpAny_bind (wpAny_typeOf ty0 ?_)
 have e2:(Value.type "dict_items" == Value.type "list")=false:=by decide
 have e3:(Value.type "dict_items" == Value.type "tuple")=false:=by decide
 simp only[e1,e2,e3,b_,bz,aW]
 refine wpAny_bind (Bn7 (s:={ s with heap:=h0 }) hv0 hg0 g4 ?_)
 have hS:(h0.push { cls:=.type "dict_itemiterator",data:=.fields #[.none,.bool false,.ref a,.int 0 0,.int es.size 0,.int ep 0,.none,.none] }).get? s.heap.objs.size=some { cls:=.type "list",data:=.seq ([]:v4).toArray }:=Heap.get?_push_of_some _ hS0;have hit:(h0.push { cls:=.type "dict_itemiterator",data:=.fields #[.none,.bool false,.ref a,.int 0 0,.int es.size 0,.int ep 0,.none,.none] }).get? h0.objs.size=some { cls:=.type "dict_itemiterator",data:=.fields #[.none,.bool false,.ref a,.int 0 0,.int es.size 0,.int ep 0,.none,.none] }:=Heap.get?_push_size _ rfl;have hv1:=Heap.get?_push_of_some { cls:=.type "dict_itemiterator",data:=.fields #[.none,.bool false,.ref a,.int 0 0,.int es.size 0,.int ep 0,.none,.none] } hv0
 have up:∀c o,s.heap.get? c=some o->(h0.push { cls:=.type "dict_itemiterator",data:=.fields #[.none,.bool false,.ref a,.int 0 0,.int es.size 0,.int ep 0,.none,.none] }).get? c=some o:=λc o e=>Heap.get?_push_of_some _ (up0 c o e)
 rw[show ({ s with heap:=h0 }:o4).heap.objs.size=s.heap.objs.size+1 from sz0]
 rw[sz0]at hit
 show wpAny _ A.in1 _ _ _ { s with heap:=h0.push { cls:=.type "dict_itemiterator",data:=.fields #[.none,.bool false,.ref a,.int 0 0,.int es.size 0,.int ep 0,.none,.none] } }
 generalize (h0.push { cls:=.type "dict_itemiterator",data:=.fields #[.none,.bool false,.ref a,.int 0 0,.int es.size 0,.int ep 0,.none,.none] })=h1 at *
 have I1:Inv X pins σ H { s with heap:=h1 }:=I.kept (t':=s.toks) up
 have ty:({ s with heap:=h1 }:o4).TypeIs (.ref v) "dict_items" := ⟨_,hv1,rfl⟩
 refine wpAny_bind (wpAny_holding ?_)
 unfold Builtin.List.listLengthHint
 refine wpAny_bind (wpAny_specialOf ty By6 ?_)
 wp_delta
 refine wpAny_bind (wpAny_isInstance (b:=true) ty A7w ?_)
 show wpAny _ A.in1 (typeOf (Value.ref v) >>= _) _ _ _
 refine wpAny_bind (wpAny_typeOf ty ?_)
 refine wpAny_pure ?_
 rw[if_pos (by decide)]
 refine wpAny_bind (wpAny_rule ?_)
 refine wpAny_bind (m:=Builtin.List.listTouch _) ?_
 unfold Builtin.List.listTouch
 refine wpAny_bind (wpAny_updateSeq hS rfl ?_)
 have q2:=Heap.get?_update_self (Obj.mapSeq (·.push Value.none)) hS rfl
 refine wpAny_updateSeq q2 rfl ?_
 have q3:=Heap.get?_update_self (Obj.mapSeq (·.pop)) q2 rfl
 have oth:∀b o,b≠s.heap.objs.size->h1.get? b=some o->((h1.update s.heap.objs.size (Obj.mapSeq (·.push Value.none))).update s.heap.objs.size (Obj.mapSeq (·.pop))).get? b=some o:=λb o n e=>(Heap.get?_update_other _ _ (aL n)).trans ((Heap.get?_update_other _ _ (aL n)).trans e)
 have fr:∀b,s.heap.objs.size<=b->Qw X pins H b:=λb l=>I.fpOk l (I.hok.fresh l)
 have fS:=fr s.heap.objs.size (ak _)
 have I2:Inv X pins σ H { s with heap:=(h1.update s.heap.objs.size (Obj.mapSeq (·.push Value.none))).update s.heap.objs.size (Obj.mapSeq (·.pop)) }:=I1.turnL (t':=s.toks) (ch:=[s.heap.objs.size]) (λb hb=>by rw[az.mp hb];exact fS) λb o m e=>oth b o (λq=>m (by simp[q])) e
 refine wpAny_pure ⟨plainId_quiet F.plain_extend_loop _,Bv2 (X:=X) (pins:=pins) (σ:=σ) (H0:=H) (it:=s.heap.objs.size+1) (a:=a) (o:=o) (es:=es) (ep:=ep) (show A.in1.handled=none from quiet) (a_ (bY _)) g4 hz hn (λH' acc c ps s' I' L rv hS'=>?_) kvs.length 0 H _ _ _ [] (aG _) I2 (fr _ (fK _)) fS ha (.inl ⟨.none,.none,oth _ _ (a_ (bY _)) hit⟩) q3 rfl .nil ⟨rfl,rfl⟩⟩
 show wpAny _ A (load s.heap.objs.size >>= _) _ _ s'
 exact wpAny_bind (wpAny_load hS' (wpAny_pure (hQ H' _ ps s' I' L rv)))
theorem Yv {P:p7}{w:World}{v:Addr}:MeetsIn P w (Builtin.«tuple.__new__» ⟨[.type "tuple",.ref v],[]⟩)
 (λA R s=>s.TypeIs (.ref v) "dict_items" /\ wpAny (model P w) A.in1.in1 (collect (.ref v)) (λvs s'=>vs.length<=sizeLine/\R (.ok (.ret (.ref s'.heap.objs.size))) { s' with heap:=s'.heap.push { cls:=.type "tuple",data:=.seq vs.toArray } }) (λe s'=>R (.error e) s') s) :=
 .of_wp λA R s h=>by
  obtain⟨hT,hc⟩:=h;have hsub:=sub_tuple_self;have hinit:=init_tuple_lookup;have hmh:=madeHere_tuple
  have col:∀{Q:v4->o4->Prop},(∀vs s',vs.length<=sizeLine->R (.ok (.ret (.ref s'.heap.objs.size))) { s' with heap:=s'.heap.push { cls:=.type "tuple",data:=.seq vs.toArray } }->Q vs s')->wpAny (model P w) A.in1 (collect (.ref v)) Q (λe s'=>R (.error e) s') s:=λh=>wpAny_of_in1 (wpAny_mono hc (λvs s' q=>h vs s' q.1 q.2) λ_ _ q=>q)
  wp_walk using wpAny_typeOf hT,col
  intro vs s' hl hR
  refine wpAny_bind (wpAny_pure ?_)
  show wpAny _ _ (Builtin.Tuple.tupleExact vs.toArray >>= λv=>ret v) _ _ _
  unfold Builtin.Tuple.tupleExact
  refine wpAny_bind (wpAny_newObj_type ?_ (by show vs.toArray.size<=sizeLine;simpa using hl))
  exact wpAny_pure ⟨_,rfl,hR⟩
def By8 (td:TE):TE:=λσ H Q=>td σ H λx H1=>∃a o kvs,x=.ref a/\H1 a=some (.frz o (.dT kvs))/\∀ps p H2,LaidI H1 kvs kvs.length ps H2->H2 p=none->Q (.ref p) (upd H2 p (.tup ps))
theorem Bx5 {l:Expr}{tl:TE}{p pos apos cpos:Pos}(hc:X.calm=true)(hg:Gl X "tuple") (hm:X.mg "tuple" = none) (hl:QE X l tl) (hbase:attributeBase l "items" X.env (eval l X.env)=eval l X.env:=by rfl) (hline:(apos.endLine==cpos.line)=true:=by rfl) :
 QE X (.Call (.Name "tuple" p) [.Call (.Attribute l "items" apos) [] [] cpos] [] pos) (By8 tl):=by
 refine⟨?_⟩
 intro pins s σ H Q I h;have st1:starEach [.Call (.Attribute l "items" apos) [] [] cpos] X.env=(false,eval (.Call (.Attribute l "items" apos) [] [] cpos) X.env)::starEach [] X.env:=G5 rfl
 refine Call_ (M6 I hg hm K3 (eE ?_ st1 rfl))
 rw[st1]
 show wpAny _ _ (spliced ((false,eval (.Call (.Attribute l "items" apos) [] [] cpos) X.env)::backTo pos (starEach [] X.env))) _ _ s
 refine Calls.spliced_cons ?_
 refine wpAny_Call_method0_late hbase hline (thn (hl.1 pins s σ H _ I h) λu s1 ⟨x,H1,I1,r1,q1⟩=>?_)
 obtain⟨a,o,kvs,rfl,hq,q⟩:=q1
 cases (show u=Value.ref a from r1)
 obtain⟨t1,t2,_⟩:=B4j I1 (.inr ⟨kvs,.inr ⟨o,hq⟩⟩);obtain⟨xs,es,ep,g1,g2,g3,g4,g5,g6,g7⟩:=I1.seen hq
 refine⟨"dict", "dict.items",PySem.F.plainAttrs_dict,PySem.F.slot_dict_items,PySem.F.type_dict_items,t1,t2,Calls.callWith_builtin rfl (PySem.evalArgs_none (Bi3 g2 t1 ?_))⟩
 refine Calls.spliced_nil ?_
 have I2:Inv X pins σ H1 { s1 with heap:=s1.heap.push { cls:=.type "dict_items",data:=.fields #[.ref a] } }:=I1.kept (t':=s1.toks) λb o e=>Heap.get?_push_of_some _ e
 have hv:(s1.heap.push { cls:=.type "dict_items",data:=.fields #[.ref a] }).get? s1.heap.objs.size=some { cls:=.type "dict_items",data:=.fields #[.ref a] }:=Heap.get?_push_size _ rfl
 refine callType_newIn F.called_tuple (by decide) (F.typeCall_tuple_1 _) (F.newCall_tuple_1 _) (λobj=>F.args_object_init_2 obj _) F.entry_tuple_new Yv ⟨⟨_,hv,rfl⟩,?_⟩
 refine Ah7 (show _=none from I.ok.hd hc) I2 hq hv λH' ws ps s' I' L rv'=>?_
 have lp:ps.length=kvs.length:=L.length
 refine⟨by rw[<- rv'.length,lp];exact g7,⟨_,Heap.get?_push_size _ rfl,rfl⟩,?_⟩
 have hf:H' s'.heap.objs.size=none:=I'.hok.fresh (ak _)
 refine⟨.ref s'.heap.objs.size,upd H' s'.heap.objs.size (.tup ps),I'.laid (t':=s'.toks) (λb u e=>Heap.get?_push_of_some _ e) (ak _) ?_,rfl,q ps _ H' L hf⟩
 exact⟨by rw[lp];exact g7,ws,rv',_,Heap.get?_push_size _ rfl,rfl,⟨0,by simp⟩,rfl⟩
end
section
variable {P:p7}{w:World}{A:o6}{E:z_}{s:o4}
theorem Ad5 {d:Addr}{xs:List (PyData×Addr×Value)}(hd:(d==sysModules)=false) :
 MeetsIn P w (Builtin.«dict.__len__» ⟨[.ref d],[]⟩) (λ_ R s=>s.heap.DictOfH (Gv P w) d xs/\R (.ok (.ret (.int xs.length s.toks))) { s with toks:=s.toks+1 }) :=
 .of_wp λA R s ⟨hm,h⟩=>by
  obtain⟨o,es,ep,ho,hc,hdat,he,_,_⟩:=hm
  show wpAny _ _ (dictSize d >>= _) _ _ s
  unfold dictSize
  refine wpAny_bind (wpAny_bind (wpAny_dictEntries ho hdat (wpAny_pure ?_)))
  show wpAny _ _ (Builtin.Dict.pendingCount d >>= _) _ _ s
  refine wpAny_bind (wpAny_pendingCount_other hd ?_)
  refine wpAny_ret_mkInt ?_
  rw[Nat.add_zero,size_of_entries he];exact h
theorem Bo1 {d:Addr}{xs:List (PyData×Addr×Value)}{Q:z_}(hd:(d==sysModules)=false)(hm:s.heap.DictOfH (Gv P w) d xs)(hfit:(xs.length:Int)<2 ^ 63)
 (h:Q (.int xs.length (s.toks+1)) { s with toks:=s.toks+1+1 }):wpAny (model P w) A (call (.builtin "len") [.ref d]) Q E s:=by
 refine Calls.call_function_entry kind_len plain_len entry_len (args_len1 _) ?_
 unfold Builtin.«len»
 refine wpAny_bind (m:=oneArg "len" _) (wpAny_pure ?_)
 refine wpAny_bind (m:=callSpecial? (.ref d) (Str.ofString "__len__")) (wpAny_callSpecial?_slot (name:="__len__") hm.typeIs PySem.F.slot_dict_len
  (call_meetsIn PySem.F.slot_dict_len hm.typeIs PySem.F.entry_dict_len (PySem.F.args_dict_len_1 _) (Ad5 hd) ⟨hm,?_⟩))
 show wpAny _ _ _ _ _ { s with toks:=s.toks+1 }
 refine wpAny_bind (wpAny_holding (wpAny_pure ?_))
 refine wpAny_bind (wpAny_letGo ?_)
 show wpAny _ _ (if ((xs.length:Nat):Int)<0 then _ else _) _ _ _
 rw[if_neg (by omega)]
 show wpAny _ _ (if ((xs.length:Nat):Int)≥2 ^ 63 then _ else _) _ _ _
 rw[if_neg (by omega)]
 exact wpAny_bind (wpAny_mkInt (wpAny_pure ⟨_,rfl,h⟩))
end
section
variable {X:Cx}
def Bh7:l_->Hp->VK->Prop:=λxs H Q=>∃a kvs,xs=[V.ref a]/\Rd H a (.dT kvs)/\Q (.int (kvs.length:Nat)) H
theorem A9h:CallR X (.builtin "len") Bh7:=by
 intro pins s σ H xs us Q I r h;obtain⟨a,kvs,rfl,ha,q⟩:=h;obtain⟨u,rfl,ru⟩:=vals1 r
 cases (show u=Value.ref a from ru)
 obtain⟨z,hd,ys,rel,dd⟩:=A6z I.hok ha;have l:kvs.length=ys.length:=Paired.length rel
 refine Bo1 hd dd (by rw[<- l];rw[sizeLine_eq]at z;omega) ?_
 rw[<- l];exact⟨.int kvs.length,H,I.tok _,⟨_,rfl⟩,q⟩
theorem A6x {e:Expr}{es:q_}{t:TA}{p pos:Pos}(hgl:Gl X "len") (hm:X.mg "len" = none) (ha:QA X (e::es) t) (hns:noStar (e::es)=true:=by rfl):QE X (.Call (.Name "len" p) (e::es) [] pos) (tCB Bh7 t):=⟨Jj A9h hgl hm A3y ha.get (by decide) (by decide) hns⟩
theorem Ak3 {i o:Expr}{ty td:TE}{pos:Pos}(hu:X.A.units+64<cLine)(hi:QE X i ty)(ho:QE X o td)(hm:behindInMarks .NotIn o=false:=by rfl):QE X (.Compare i [.NotIn] [o] pos) (Aw2 ty td):=⟨B1w (A8z (bu (bT (by decide) _) hu) hi.get ho.get) hm⟩
end
theorem A4o (l:Addr)(items:u_)(n:Nat)(dd:Option Addr)(sl:Array (p_))(t:Tok) :
 Meets (Builtin.«tuple.__mul__» ⟨[.ref l,.int 1 t],[]⟩)
  (λ_ R s=>s.heap.get? l=some { cls:=.type "tuple",dict:=dd,data:=.seq items n,slots:=sl }/\R (.ok (.ret (.ref l))) s) :=
 .of_wp λprog w A R s h=>by
  obtain⟨hp,g,d,tk,os⟩:=s;obtain⟨hl,h⟩:=h
  have c1:¬ ((1:Int) < -(2 ^ 63)||(1:Int)≥2 ^ 63)=true:=by decide
  have c2:(items.isEmpty||(1:Int)==1)=true:=by simp
  wp_walk using wpAny_loadPart' hl
  exact⟨_,rfl,h⟩
theorem tuple_none (l:Addr)(items:u_)(n:Nat)(dd:Option Addr)(sl:Array (p_))(t:Tok)(hne:0<items.size) :
 Meets (Builtin.«tuple.__mul__» ⟨[.ref l,.int 0 t],[]⟩)
  (λ_ R s=>s.heap.get? l=some { cls:=.type "tuple",dict:=dd,data:=.seq items n,slots:=sl }/\R (.ok (.ret (.ref s.heap.objs.size))) { s with heap:=s.heap.push { cls:=.type "tuple",data:=.seq #[] } }) :=
 .of_wp λprog w A R s h=>by
  obtain⟨hp,g,d,tk,os⟩:=s;obtain⟨hl,h⟩:=h
  have c1:¬ ((0:Int) < -(2 ^ 63)||(0:Int)≥2 ^ 63)=true:=by decide
  have c2:(items.isEmpty||(0:Int)==1)=false:=by
   simp
   intro z;rw[z]at hne;exact absurd hne (bA _)
  wp_walk using wpAny_loadPart' hl
  rw[if_neg (by rw[c2];exact aR)]
  show wpAny _ _ (Builtin.Tuple.tupleExact #[] >>= λv=>ret v) _ _ _
  unfold Builtin.Tuple.tupleExact
  refine wpAny_bind (wpAny_newObj_type ?_ (aD _))
  exact wpAny_pure ⟨_,rfl,h⟩
section
variable {X:Cx}
def Bc4:R2:=λx y H Q=>∃l k xs,x=.ref l/\y=.int k/\H l=some (.tup xs)/\0<xs.length/\((k=1/\Q (.ref l) H)\/(k=0/\∀p,H p=none->Q (.ref p) (upd H p (.tup []))))
theorem Bq7:OpR X (binaryOp .Mult) Bc4:=by
 intro pins s σ H x y v u Q I rx ry h;obtain⟨l,k,xs,rfl,rfl,hH,hp,h⟩:=h
 cases rx
 obtain⟨t,rfl⟩:=ry;obtain⟨z,its,rt,o,e,hc,⟨n,hd⟩,hdn⟩:=I.hok l _ hH;obtain⟨c0,dd,dat,sl⟩:=o
 dsimp only at hc hd hdn
 subst hc hd hdn;have hl:its.length=xs.length:=rt.length.symm
 rcases h with ⟨rfl,q⟩ | ⟨rfl,q⟩
 ·exact wpAny_binaryOp_repeat_ref (T := "tuple") (U := "int") (by decide) ⟨_,e,rfl⟩ (λs'=>typeIs_int s' 1 t) Ib F.fills_int_mul F.slot_int_rmul Mi F.slot_int_index.lookup
   (call_meets F.slot_int_rmul (typeIs_int s 1 t) F.entry_int_rmul (F.args_int_rmul_2 _ _) (Pa 1 t l its.toArray n _ _)
    ⟨e,rfl,⟨_,e,rfl⟩,call_meets F.slot_tuple_mul ⟨_,e,rfl⟩ F.entry_tuple_mul (F.args_tuple_mul_2 _ _) (A4o l its.toArray n _ _ t) ⟨e,.ref l,H,I,rfl,q⟩⟩)
 ·exact wpAny_binaryOp_repeat_ref (T := "tuple") (U := "int") (by decide) ⟨_,e,rfl⟩ (λs'=>typeIs_int s' 0 t) Ib F.fills_int_mul F.slot_int_rmul Mi F.slot_int_index.lookup
   (call_meets F.slot_int_rmul (typeIs_int s 0 t) F.entry_int_rmul (F.args_int_rmul_2 _ _) (Pa 0 t l its.toArray n _ _)
    ⟨e,rfl,⟨_,e,rfl⟩,call_meets F.slot_tuple_mul ⟨_,e,rfl⟩ F.entry_tuple_mul (F.args_tuple_mul_2 _ _) (tuple_none l its.toArray n _ _ t (by rw[bJ,hl];exact hp))
     ⟨e,.ref s.heap.objs.size,upd H s.heap.objs.size (.tup []),I.laid (t':=s.toks) (λb u e=>Heap.get?_push_of_some _ e) (ak _) ⟨aD _,[],.nil,_,Heap.get?_push_size _ rfl,rfl,⟨0,rfl⟩,rfl⟩,rfl,q _ (I.hok.fresh (ak _))⟩⟩)
theorem Bx4 {a b:Expr}{ta tb:TE}{pos:Pos}(ha:QE X a ta)(hb:QE X b tb):QE X (.BinOp a .Mult b pos) (tOp Bc4 ta tb):=⟨Xz Bq7 ha.get hb.get⟩
end
end L2
namespace U
open PySem L2
noncomputable def Qz (m:Str):List (w6)->w6->w6->List (w6)
 | gs,cur,[]=>gs++[cur]
 | gs,cur,d::ds=>if PyData.eqv d (.str m)=true then Qz m (gs++[cur]) [] ds else Qz m gs (cur++[d]) ds
section
variable {K:q9}{β:Nat->V}{W W1:Wo}{c:Ev}{σ σ':St}{D:Ends}{k g e:Nat}{a p b:Addr}
theorem Rep.gone (R:Rep K β W c σ){v:V}:Rep K β W (c.set e none) (σ.set e (some v)):=by
 refine⟨R.sub,by rw[bM,bM];exact R.len,λj o' q=>?_,R.dis,R.own⟩
 have z:e≠j:=λz=>by
  subst z
  by_cases l:e<c.length
  ·rw[bC l]at q;cases q
  ·rw[cu (by rw[bM];omega)]at q;cases q
 rw[bI z]at q ⊢;exact R.get j o' q
theorem Rep.goneC (R:Rep K β W c σ):Rep K β W (c.set e none) σ:=by
 refine⟨R.sub,by rw[bM];exact R.len,λj o' q=>?_,R.dis,R.own⟩
 have z:e≠j:=λz=>by
  subst z
  by_cases l:e<c.length
  ·rw[bC l]at q;cases q
  ·rw[cu (by rw[bM];omega)]at q;cases q
 rw[bI z]at q;exact R.get j o' q
structure Ow (W:Wo) (a:Addr) (o:HO):Prop where
 at_:W.H a=some o
 fr:W.Hf a=none
 ns:¬ W.S a
theorem Ow.step {o:HO}(h:Ow W a o)(m:Mut (some o))(st:Stp W.S W.Hf W.H W1.S W1.Hf W1.H):Ow W1 a o :=
 ⟨st.kp a _ h.at_ h.ns,st.nf a _ h.at_ m h.ns h.fr,λz=>by
  rcases st.fr a z with q | q
  ·exact h.ns q
  ·rw[h.at_]at q;cases q⟩
theorem Ow.mk_new {o:HO}(R:Rep K β W c σ)(hp:W.H a=none):Rep K β ⟨W.Hf,upd W.H a o,W.fps⟩ c σ/\Ow ⟨W.Hf,upd W.H a o,W.fps⟩ a o :=
 ⟨R.frame (Same.refl _) (Y7 R.sub hp) λb ⟨i,hb⟩=>by
  obtain⟨z,u,q,_⟩:=R.own i b hb
  exact⟨z,Al (Cg q hp)⟩,Be,R.notF hp,R.notS hp⟩
theorem Ow.put {o u:HO}(R:Rep K β W c σ)(h:Ow W a o):Rep K β ⟨W.Hf,upd W.H a u,W.fps⟩ c σ/\Ow ⟨W.Hf,upd W.H a u,W.fps⟩ a u :=
 ⟨R.frame (Same.refl _) (λb w q=>by
  show upd W.H a u b=_
  rw[Al (λz=>by rw[z,h.fr]at q;cases q)];exact R.sub b w q) λb hb =>
  ⟨by obtain⟨i,hi⟩:=hb;exact(R.own i b hi).1,Al λz=>h.ns (z▸hb)⟩,Be,h.fr,h.ns⟩
theorem Ow.other {o u:HO}(h:Ow W a o)(n:a≠b):Ow ⟨W.Hf,upd W.H b u,W.fps⟩ a o:=⟨(Al n).trans h.at_,h.fr,h.ns⟩
theorem Vy {F:u9}{Hf H H':Hp}{S S':Addr->Prop}{Hf':Hp}{o:HO}(st:Stp S Hf H (orS S' F) Hf' H')(hp:H' a=none):Stp S Hf H (orS S' (a::F)) Hf' (upd H' a o) :=
 st.trans ⟨Same.refl _,λb u q _=>(Al (Cg q hp)).trans q,λ_ _ _ _ _ q=>q,λb z=>by
  rcases z with z | z
  ·exact .inl (.inl z)
  ·rcases au.mp z with rfl | z
   ·exact .inr hp
   ·exact .inl (.inr z)⟩
theorem Za {F:u9}{Hf H H':Hp}{S S':Addr->Prop}{Hf':Hp}{o:HO}(st:Stp S Hf H (orS S' F) Hf' H')(ha:a∈F):Stp S Hf H (orS S' F) Hf' (upd H' a o) :=
 st.trans ⟨Same.refl _,λb u q n=>(Al λz=>n (.inr (by rw[z];exact ha))).trans q,λ_ _ _ _ _ q=>q,λ_ z=>.inl z⟩
theorem Bi0 {F G:u9}{Hf H H':Hp}{S S':Addr->Prop}{Hf':Hp}{o:HO}(st:Stp S Hf H (orS S' F) Hf' H')(ha:a∈F)(hf:Hf' a=none)(hg:∀b∈G,b∈F):Stp S Hf H (orS S' G) (upd Hf' a o) H' :=
 st.trans ⟨Bj hf,λb u q _=>q,λb _ _ _ n q=>(Al λz=>n (.inr (by rw[z];exact ha))).trans q,λb z=>.inl (z.imp id (hg b))⟩
theorem Az8 {F:u9}{W2:Wo}(st:Stp W.S W.Hf W.H (orS W1.S F) W1.Hf W1.H)(x:Stp W1.S W1.Hf W1.H W2.S W2.Hf W2.H):Stp W.S W.Hf W.H (orS W2.S F) W2.Hf W2.H:=st.trans (Stp.more (F:=λb=>b∈F) x)
def B7p (K:q9)(k g e:Nat)(wi:TI):TS:=U3 (Xd (Bg3 (Ej (Bg3 Jb) Jb)) (J5 g))
 (U3 (By1 wi (J5 e) (Bk9 (T7 (tOp rEQ (Tp e) (Tp k))) (Yd (tBM K "list" rAppF (Tp g) (Ej (Bg3 Jb) Jb)))
  (Yd (tBM K "list" rAppF (tOp (B4k K) (Tp g) (tUn (rU λi=>.int (-i)) (tC (.int 1)))) (Ej (Tp e) Jb))))) (Bx7 (Tp g)))
def Be7 (k g e:Nat)(fi:Ev->R (w6)):Ev->SR:=λc=>if (g<c.length/\e<c.length)/\k≠g/\k≠e/\g≠e then match c[k]? with
 | some (some (.im (.str m)))=>(fi (c.set g none)).toS λds c1=>match c1[k]? with
  | some (some (.im (.str m')))=>if m'=m/\(ds.all Dd&&decide (ds.length<16000000))=true then .rt (.o (.ls false ((Qz m [] [] ds).map .list))) (c1.set e none) else .bad
  | _=>.bad
 | _=>.bad
 else .bad
structure BtI (W0 W:Wo) (p b:Addr) (σ:St) (g:Nat) (gs:List (w6)) (cur:w6) (vs us:l_):Prop where
 sg:σ[g]?=some (some (.ref p))
 op:Ow W p (.lst (vs++[.ref b]))
 ob:Ow W b (.lst us)
 ne:p≠b
 tv:TrL W.Hf (gs.map .list) vs
 tu:TrL W.Hf cur us
 st:Stp W0.S W0.Hf W0.H (orS W.S [p,b]) W.Hf W.H
theorem BtI.step {W0:Wo}{gs:List (w6)}{cur:w6}{vs us:l_}(h:BtI W0 W p b σ g gs cur vs us)(st:Stp W.S W.Hf W.H W1.S W1.Hf W1.H):BtI W0 W1 p b σ g gs cur vs us :=
 ⟨h.sg,h.op.step trivial st,h.ob.step trivial st,h.ne,TrL.same st.fz h.tv,TrL.same st.fz h.tu,Az8 h.st st⟩
theorem Va {Hf:Hp}{ds:w6}{vs:l_}{d:o5}{v:V}(t:TrL Hf ds vs)(h:Tr Hf d v):TrL Hf (ds++[d]) (vs++[v]):=t.app (TrL.one h)
theorem BtI.mark {W0:Wo}{gs:List (w6)}{cur:w6}{vs us:l_}(h:BtI W0 W p b σ g gs cur vs us)(R:Rep K β W c σ){q:Addr}(hq:W.H q=none) :
 ∃W2,W2.H=upd (upd W.H q (.lst [])) p (.lst (vs++[.ref b]++[.ref q]))/\Rep K β W2 c σ/\Same W.Hf W2.Hf/\BtI W0 W2 p q σ g (gs++[cur]) [] (vs++[.ref b]) []:=by
 have nqb:b≠q:=λz=>by rw[<- z,h.ob.at_]at hq;cases hq
 have npq:p≠q:=λz=>by rw[<- z,h.op.at_]at hq;cases hq
 have R1:=Vq R h.ob.fr h.ob.at_ h.ob.ns;obtain⟨R2,o2⟩:=Ow.mk_new (a:=q) (o:=.lst []) R1 hq;have op1:Ow ⟨upd W.Hf b (.lst us),W.H,W.fps⟩ p (.lst (vs++[.ref b])):=⟨h.op.at_,(Al h.ne).trans h.op.fr,h.op.ns⟩;obtain⟨R3,o3⟩:=Ow.put (u:=.lst (vs++[.ref b]++[.ref q])) R2 (op1.other npq)
 refine⟨_,rfl,R3,Bj h.ob.fr,h.sg,o3,o2.other (aL npq),npq,?_,rfl,?_⟩
 ·rw[aV]
  exact Va (TrL.same (Bj h.ob.fr) h.tv) ⟨b,us,rfl,Be,TrL.same (Bj h.ob.fr) h.tu⟩
 ·have s1:=Bi0 (G:=[p]) (o:=.lst us) h.st (aU _ (az.mpr rfl)) h.ob.fr λx hx=>by rw[az.mp hx];exact .head _
  have s2:=Za (a:=p) (o:=.lst (vs++[.ref b]++[.ref q])) (Vy (a:=q) (o:=.lst []) s1 hq) (aU _ (az.mpr rfl))
  exact s2.less λx z=>z.imp id λz=>by
   rcases au.mp z with rfl | z
   ·exact aU _ (az.mpr rfl)
   ·rw[az.mp z];exact .head _
theorem BtI.more {W0:Wo}{gs:List (w6)}{cur:w6}{vs us:l_}{d:o5}{v:V}(h:BtI W0 W p b σ g gs cur vs us)(R:Rep K β W c σ)(t:Tr W.Hf d v) :
 ∃W2,W2.H=upd W.H b (.lst (us++[v]))/\Rep K β W2 c σ/\Same W.Hf W2.Hf/\BtI W0 W2 p b σ g gs (cur++[d]) vs (us++[v]):=by
 obtain⟨R2,o2⟩:=Ow.put (u:=.lst (us++[v])) R h.ob;exact⟨_,rfl,R2,Same.refl _,h.sg,h.op.other h.ne,o2,h.ne,h.tv,Va h.tu t,Za h.st (aU _ (az.mpr rfl))⟩
theorem A1d {α:Type}{xs:List α}{x:α}:atI (xs++[x]) (-1)=some x:=by
 unfold atI ixN
 rw[aM,if_neg (by decide),if_pos (by simp;omega),bG,show (-1+((xs.length+[x].length:Nat):Int)).toNat=xs.length by simp;omega,iz (ak _),cA]
 rfl
theorem Bl7 {wi:TI}{fi:Ev->R (w6)}(hi:MI K wi fi):MS K (B7p K k g e wi) (Be7 k g e fi):=by
 intro β W c σ D R l;unfold Be7 at l
 by_cases hc:(g<c.length/\e<c.length)/\k≠g/\k≠e/\g≠e
 ·rw[if_pos hc]at l
  obtain⟨⟨hgl,hel⟩,nkg,nke,nge⟩:=hc
  split at l
  ·rename_i m hm
   show ([]:l_).length<=sizeLine/\∀q,W.H q=none->([V.ref q]:l_).length<=sizeLine/\∀p,upd W.H q (.lst []) p=none->wi (σ.set g (some (.ref p))) (upd (upd W.H q (.lst [])) p (.lst [.ref q])) _
   refine⟨aD _,λq hq=>⟨(by decide:1<=sizeLine),λp hp=>?_⟩⟩
   have npq:p≠q:=λz=>by rw[z,Be]at hp;cases hp
   obtain⟨R1,o1⟩:=Ow.mk_new (a:=q) (o:=.lst []) R hq;obtain⟨R2,o2⟩:=Ow.mk_new (a:=p) (o:=.lst [.ref q]) R1 hp
   have hs:(σ.set g (some (.ref p)))[g]?=some (some (V.ref p)):=bC (by rw[<- R.len];exact hgl)
   have st0:Stp W.S W.Hf W.H (orS W.S []) W.Hf W.H:=Stp.refl.less λ_ z=>z.elim id λz=>nomatch z
   have I0:BtI W _ p q (σ.set g (some (.ref p))) g [] [] [] []:=⟨hs,o2,o1.other (aL npq),npq,rfl,rfl,Vy (Vy st0 hq) hp⟩;have R0:=R2.gone (e:=g) (v:=.ref p)
   refine hi β _ _ _ _ R0 ((Gd l).mono λds c1 l1 J W1 st1 R1 it=>?_)
   split at l1
   ·rename_i m' hm'
    by_cases hb:m'=m/\(ds.all Dd&&decide (ds.length<16000000))=true
    ·rw[if_pos hb]at l1
     obtain⟨rfl,hb⟩:=hb;obtain⟨hk,hn⟩:=aF.mp hb;have hn:=aQ hn
     refine⟨λi n σ H=>∃W2 b gs cur vs us,W2.H=H/\Rep K β W2 (c1.set e none) σ/\n=ds.length-i/\i<=ds.length/\Same W1.Hf W2.Hf/\BtI W W2 p b σ g gs cur vs us/\gs.length<=i/\cur.length<=i/\Qz m' gs cur (ds.drop i)=Qz m' [] [] ds,
      ⟨_,W1,q,[],[],[],[],rfl,R1.goneC,rfl,aD _,Same.refl _,I0.step st1,aD _,aD _,rfl⟩,?_⟩
     rintro i n σ H ⟨W2,b,gs,cur,vs,us,rfl,R2,rfl,hle,sm,I2,lg,lc,ek⟩
     obtain⟨hstop,hgo⟩:=it i W2.Hf W2.H sm R2.sub
     by_cases lt:i<ds.length
     ·obtain⟨q1,q2⟩:=hgo ds[i] (cj lt)
      refine .inr ⟨q1,λσ' H'=>∃W2 b gs cur vs us,W2.H=H'/\Rep K β W2 (c1.set e none) σ'/\Same W1.Hf W2.Hf/\BtI W W2 p b σ' g gs cur vs us/\gs.length<=i+1/\cur.length<=i+1/\Qz m' gs cur (ds.drop (i+1))=Qz m' [] [] ds,
       λσ' H' ⟨W3,b3,g3,k3,v3,u3,y1,R3,s3,y2,y3,y4,y5⟩=>⟨ds.length-(i+1),by omega,W3,b3,g3,k3,v3,u3,y1,R3,rfl,by omega,s3,y2,y3,y4,y5⟩,λx H' hy=>?_⟩
      obtain⟨Hf2,stx,sub2,tx⟩:=q2 x H' hy;have R3:=stx.rep R2 sub2
      have sty:Stp W2.S W2.Hf W2.H (Wo.S ⟨Hf2,H',W2.fps⟩) Hf2 H':=⟨stx.fz,λa o e _=>stx.kp a o e λz=>z,λa o e mu _ q=>stx.nf a o e mu (λz=>z) q,λa z=>.inl z⟩
      have I3:=I2.step (W1:=⟨Hf2,H',W2.fps⟩) sty;have hst:=aX.mp hk ds[i] (ig lt);have R4:=R3.gone (e:=e) (v:=x);rw[List.set_set]at R4
      have hl4:e<σ.length:=by
       have z1:=R2.len;have z2:=R1.len;have z3:=R.len;rw[bM]at z1 z2;omega
      have hsg:(σ.set e (some x))[g]?=some (some (.ref p)):=by rw[bI (aL nge)];exact I2.sg
      have I4:BtI W ⟨Hf2,H',W2.fps⟩ p b (σ.set e (some x)) g gs cur vs us:=⟨hsg,I3.op,I3.ob,I3.ne,I3.tv,I3.tu,I3.st⟩
      have hmk:(σ.set e (some x))[k]?=some (some (V.str m')):=by
       have hm2:(c1.set e none)[k]?=some (some (.im (.str m'))):=by rw[bI (aL nke)];exact hm'
       obtain⟨v,e1,r,_⟩:=R2.get k _ hm2
       cases (show v=V.str m' from r.2)
       rw[bI (aL nke)];exact e1
      have ekd:=ek;rw[Tf lt]at ekd;generalize hdi:ds[i]=di at hst tx ekd
      match di,hst,tx,ekd with
      | .str y,_,tx,ekd =>
       cases (show x=V.str y from tx)
       show ∃v,(σ.set e (some (V.str y)))[e]?=some (some v)/\∃v',(σ.set e (some (V.str y)))[k]?=some (some v')/\rEQ v v' H' _
       refine⟨_,bC hl4,_,hmk,.inr ⟨rfl,_,rfl,?_⟩⟩
       have lgv:vs.length=gs.length:=by rw[<- I4.tv.length,aj]
       by_cases hq:y=m'
       ·have e1:PyData.eqv (.str y) (.str m')=true:=by rw[Q4,hq];exact aq rfl
        have hd:decide (V.str y=V.str m')=true:=aq (by rw[hq])
        rw[hd]
        dsimp only
        rw[if_pos rfl]
        refine⟨_,hsg,A1t I4.op.at_,aD _,λq hq2=>?_⟩
        obtain⟨W5,e5,R5,s5,I5⟩:=I4.mark R4 hq2
        have npq:p≠q:=λz=>by rw[<- z]at hq2;rw[show H' p=_ from I4.op.at_]at hq2;cases hq2
        refine⟨p,.ref q,_,rfl,rfl,(Al npq).trans I4.op.at_,?_,?_⟩
        ·rw[aM,lgv];exact aC (show gs.length+1<16000000+1 by omega) (by decide)
        ·refine⟨W5,q,_,_,_,_,e5,R5,(sm.trans stx.fz).trans s5,I5,?_,aD _,?_⟩
         ·rw[aM];exact fL lg
         ·rw[<- ekd,Qz,if_pos e1]
       ·have e1:¬ PyData.eqv (.str y) (.str m')=true:=by rw[Q4];intro z;exact hq (by have:=aQ z;injection this)
        have hd:decide (V.str y=V.str m')=false:=aB λz=>hq (by injection z)
        rw[hd]
        dsimp only
        rw[if_neg aR];obtain⟨W5,e5,R5,s5,I5⟩:=I4.more R4 (d:=.str y) (v:=.str y) rfl
        refine⟨_,hsg,1,rfl,.inl ⟨p,_,-1,.ref b,rfl,rfl,SqL.of I4.op.at_,?_,A1t I4.ob.at_,_,bC hl4,b,.str y,us,rfl,rfl,I4.ob.at_,?_,?_⟩⟩
        ·exact A1d
        ·rw[<- I4.tu.length];exact aC (show cur.length<16000000+1 by omega) (by decide)
        ·refine⟨W5,b,_,_,_,_,e5,R5,(sm.trans stx.fz).trans s5,I5,gf lg,?_,?_⟩
         ·rw[aM];exact fL lc
         ·rw[<- ekd,Qz,if_neg e1]
     ·have e1:i=ds.length:=by omega
      subst e1;rw[fZ]at ek
      refine .inl ⟨hstop rfl,_,I2.sg,?_⟩
      have R5:=Vq R2 I2.ob.fr I2.ob.at_ I2.ob.ns
      have s1:=Bi0 (G:=[p]) (o:=.lst us) I2.st (aU _ (az.mpr rfl)) I2.ob.fr λx hx=>by rw[az.mp hx];exact .head _
      refine l1 σ (.ref p) ⟨upd W2.Hf b (.lst us),W2.H,W2.fps⟩ [p] s1 R5 ⟨⟨p,_,rfl,rfl,(Al I2.ne).trans I2.op.fr,I2.op.at_,?_⟩,λa ha=>by rw[az.mp ha];exact I2.op.ns⟩
      rw[<- ek,Qz,aV];exact Va (TrL.same (Bj I2.ob.fr) I2.tv) ⟨b,us,rfl,Be,TrL.same (Bj I2.ob.fr) I2.tu⟩
    ·rw[if_neg hb]at l1;exact l1.elim
   ·exact l1.elim
  ·exact l.elim
 ·rw[if_neg hc]at l;exact l.elim
end
end U
namespace U
open PySem L2 PySem.W
section
variable {K:q9}{β:Nat->V}{W W' W1 W2:Wo}{c:Ev}{σ:St}{Hf H:Hp}{d e:Nat}{a b:Addr}
noncomputable def Ap7:o5->o5->m_
 | .tuple a,.int k=>if 0<a.length/\(k=0\/k=1) then some (.im (.tuple (if k=0 then [] else a))) else none
 | _,_=>none
theorem Bn1:OpS K Bc4 Ap7:=by
 intro Hf H x y dx dy o Q s rx ry e n;unfold Ap7 at e
 split at e
 ·split at e
  ·rename_i a k hz
   cases e;cases Dm ry
   obtain⟨p,vs,rfl,h1,t⟩:=Jt s rx
   refine⟨p,k,vs,rfl,rfl,h1,by rw[<- t.length];exact hz.1,?_⟩
   rcases hz.2 with rfl | rfl
   ·exact .inr ⟨rfl,λq hq=>n.tup s rfl hq⟩
   ·exact .inl ⟨rfl,n.tupS s t (λ_ _ e=>e) h1⟩
  ·cases e
 ·cases e
def Zy (fa:m7):m7:=λc=>(fa c).bind λp c=>match p with
 | .o (.ty (.dt ks _))=>.ok (.o (.im (.int (ks.length:Nat)))) c
 | _=>.bad
theorem Aw9 {ta:TE}{fa:m7}(ha:ME K ta fa):ME K (tCB Bh7 (Ej ta Jb)) (Zy fa):=by
 intro β W c σ Q R s
 refine ha β W c σ _ R ((s.bnd).mono λp c1 s1 v1 W1 fp1 st1 R1 r1=>?_)
 match p,r1,s1 with
 | .o (.ty (.dt ks ds)),r1,s1 =>
  obtain⟨⟨rfl,a,xs,rfl,h1,t1,l1⟩,_⟩:=r1
  have st1:Stp W.S W.Hf W.H W1.S W1.Hf W1.H:=st1.less λa z=>.inl z
  refine⟨a,ks.zip xs,rfl,Av2 R1.sub h1,?_⟩
  have e:(ks.zip xs).length=ks.length:=by rw[eV,<- l1,fW]
  rw[e]
  exact R1.here (o:=.im (.int (ks.length:Nat))) (v:=.int (ks.length:Nat)) rfl rfl λv W' fp st R' r=>s1 v W' fp (st1.trans st) R' r
 | .o (.ty (.nm _)),r1,s1=>exact s1.elim
 | .o (.ty (.tc _)),r1,s1=>exact s1.elim
 | .o (.ty (.xc _)),r1,s1=>exact s1.elim
 | .o (.ty (.dc _ _)),r1,s1=>exact s1.elim
 | .o (.ty (.ds _ _)),r1,s1=>exact s1.elim
 | .o (.ty (.td _ _ _)),r1,s1=>exact s1.elim
 | .o (.im _),r1,s1=>exact s1.elim
 | .o (.ls _ _),r1,s1=>exact s1.elim
 | .o (.sc _),r1,s1=>exact s1.elim
 | .sl _,r1,s1=>exact s1.elim
def Aa9 (fw fa:m7):m7:=λc=>(fw c).bind λq c=>match nrm q with
 | .o (.im k)=>(fa c).bind λp c=>match p with
  | .o (.ty (.dt ks _))=>if (Nm k&&ks.all Nm)=true then .ok (.o (.im (.bool (N7 k ks).isNone))) c else .bad
  | _=>.bad
 | _=>.bad
theorem Aw0 {tw ta:TE}{fw fa:m7}(hw:ME K tw fw)(ha:ME K ta fa):ME K (Aw2 tw ta) (Aa9 fw fa):=by
 intro β W c σ Q R s
 refine hw.toV β W c σ _ R ((s.bnd).mono λq c1 s1 v1 W1 st1 R1 r1=>?_)
 cases eq:nrm q with
 | sl i=>simp only[eq]at s1;exact s1.elim
 | o o =>
  rw[eq]at r1
  cases o with
  | im k =>
   simp only[eq]at s1
   refine ha β W1 c1 σ _ R1 ((s1.bnd).mono λp c2 s2 v2 W2 fp2 st2 R2 r2=>?_)
   match p,r2,s2 with
   | .o (.ty (.dt ks ds)),r2,s2 =>
    obtain⟨⟨rfl,a,xs,rfl,h1,t1,l1⟩,_⟩:=r2
    have st2:Stp W1.S W1.Hf W1.H W2.S W2.Hf W2.H:=st2.less λa z=>.inl z
    by_cases hb:(Nm k&&ks.all Nm)=true
    ·have s2:=(show U.R.sat (if (Nm k&&ks.all Nm)=true then U.R.ok (PV.o (.im (.bool (N7 k ks).isNone))) c2 else .bad) _ from s2)
     rw[if_pos hb]at s2;obtain⟨hk,hks⟩:=aF.mp hb;have hks:=aX.mp hks
     obtain⟨b,rfl,kb⟩:=A3o hk (Tr.same st2.fz (show Tr W1.Hf k v1 from r1))
     refine⟨a,Uj (ks.zip xs) k,rfl,.inr ⟨_,k,b,Av2 R2.sub h1,rfl,kb.stay λb xs q=>R2.sub _ _ q,rfl⟩,?_⟩
     have e:(!(Uj (ks.zip xs) k).isSome)=(N7 k ks).isNone:=by
      cases ei:N7 k ks with
      | none=>rw[(S9 (vs:=xs) hk hks ei).2];rfl
      | some j =>
       obtain⟨i1,i2⟩:=Ao4 hk hks l1 ei;have hj:j<ks.length:=(bB.mp i1).1
       rw[i2,cj (by omega)];rfl
     rw[e]
     exact R2.here (o:=.im (.bool (N7 k ks).isNone)) (v:=.bl (N7 k ks).isNone) rfl rfl λv W' fp st R' r=>s2 v W' fp ((st1.trans st2).trans st) R' r
    ·have s2:=(show U.R.sat (if (Nm k&&ks.all Nm)=true then U.R.ok (PV.o (.im (.bool (N7 k ks).isNone))) c2 else .bad) _ from s2)
     rw[if_neg hb]at s2;exact s2.elim
   | .o (.ty (.nm _)),r2,s2=>exact s2.elim
   | .o (.ty (.tc _)),r2,s2=>exact s2.elim
   | .o (.ty (.xc _)),r2,s2=>exact s2.elim
   | .o (.ty (.dc _ _)),r2,s2=>exact s2.elim
   | .o (.ty (.ds _ _)),r2,s2=>exact s2.elim
   | .o (.ty (.td _ _ _)),r2,s2=>exact s2.elim
   | .o (.im _),r2,s2=>exact s2.elim
   | .o (.ls _ _),r2,s2=>exact s2.elim
   | .o (.sc _),r2,s2=>exact s2.elim
   | .sl _,r2,s2=>exact s2.elim
  | ls b ds=>simp only[eq]at s1;exact s1.elim
  | sc ds=>simp only[eq]at s1;exact s1.elim
  | ty T=>simp only[eq]at s1;exact s1.elim
def Bg0 (fa:m7):m7:=λc=>(fa c).bind λp c=>match p with
 | .o (.ty (.ds ks ds))=>if ks.length=ds.length then .ok (.o (.im (.tuple (K9 ks ds)))) c else .bad
 | _=>.bad
theorem A0b {ks ds:w6}{xs:l_}(s:Same Hf H)(q2:TrL Hf ds xs):∀{i:Nat}{ps:l_}{H2:Hp},LaidI H (ks.zip xs) i ps H2->∃Hf2,Stp (λ_=>False) Hf H (λ_=>False) Hf2 H2/\Same Hf2 H2/\TrL Hf2 ((K9 ks ds).take i) ps
 | 0,_,_,⟨e1,e2⟩=>by subst e1 e2;exact⟨Hf,.refl,s,rfl⟩
 | i+1,_,_,⟨r,H',p,k,v,b,l,hk,kb,hp,e1,e2⟩=>by
  subst e1 e2;obtain⟨Hf',st,s',t⟩:=A0b s q2 l;obtain⟨hx,hy⟩:=List.getElem?_zip_eq_some.mp hk;obtain⟨dy,ey,ty⟩:=q2.get hy;have sF:=A0o (Hf:=Hf') s';have fr:Ai4 Hf' H' p=none:=sF.free hp
  have e:(K9 ks ds)[i]?=some (.tuple [k,dy]):=by
   unfold K9;rw[bD,(ik (l₁:=ks) (l₂:=ds) (z:=(k,dy))).mpr ⟨hx,ey⟩];rfl
  refine⟨upd (Ai4 Hf' H') p (.tup [.ref b,v]),(st.trans (A2a s')).trans (Stp.newF sF hp),Px sF,?_⟩
  rw[List.take_succ,e]
  have up:=λ{d:o5} {v:V} (t:Tr (Ai4 Hf' H') d v)=>Tr.same (Bj (o:=.tup [.ref b,v]) fr) t
  exact TrL.app (TrL.same (Bj fr) (TrL.same (Xm s') t)) (TrL.one ⟨p,_,rfl,Be,.ref b,_,rfl,Tr.same (Bj fr) (A2j (λb xs e=>Zc e) kb.2),v,[],rfl,Tr.same (Bj fr) (Tr.same (Xm s') (Tr.same st.fz ty)),rfl⟩)
theorem A6p {td:TE}{fa:m7}(ha:ME K td fa):ME K (By8 td) (Bg0 fa):=by
 intro β W c σ Q R s
 refine ha β W c σ _ R ((s.bnd).mono λp c1 s1 v1 W1 fp1 st1 R1 r1=>?_)
 match p,r1,s1 with
 | .o (.ty (.ds ks ds)),r1,s1 =>
  obtain⟨⟨rfl,a,o,xs,rfl,h1,t1,l1⟩,_⟩:=r1
  have st1:Stp W.S W.Hf W.H W1.S W1.Hf W1.H:=st1.less λa z=>.inl z
  have s1:=(show U.R.sat (if ks.length=ds.length then U.R.ok (PV.o (.im (.tuple (K9 ks ds)))) c1 else .bad) _ from s1)
  by_cases hl:ks.length=ds.length
  ·rw[if_pos hl]at s1
   refine⟨a,o,ks.zip xs,rfl,R1.sub _ _ h1,λps p H2 L hp=>?_⟩
   obtain⟨Hf2,st5,s5,t5⟩:=A0b R1.sub t1 L
   have lz:(K9 ks ds).length=(ks.zip xs).length:=by unfold K9;rw[aj,eV,eV,<- hl,<- l1]
   rw[gO (fM lz)]at t5;have fr:Hf2 p=none:=s5.free hp;have new:=st5.trans (Stp.newF (o:=.tup ps) s5 hp)
   exact New.of (o:=.im (.tuple (K9 ks ds))) R1 (λv W' fp st R' rp=>s1 v W' fp (st1.trans st) R' rp) (.ref p) (upd Hf2 p (.tup ps)) _ [] (new.less λa z=>nomatch z) (Px s5) ⟨rfl,p,ps,rfl,Be,TrL.same (Bj fr) t5⟩
  ·rw[if_neg hl]at s1;exact s1.elim
 | .o (.ty (.nm _)),r1,s1=>exact s1.elim
 | .o (.ty (.tc _)),r1,s1=>exact s1.elim
 | .o (.ty (.xc _)),r1,s1=>exact s1.elim
 | .o (.ty (.dc _ _)),r1,s1=>exact s1.elim
 | .o (.ty (.dt _ _)),r1,s1=>exact s1.elim
 | .o (.ty (.td _ _ _)),r1,s1=>exact s1.elim
 | .o (.im _),r1,s1=>exact s1.elim
 | .o (.ls _ _),r1,s1=>exact s1.elim
 | .o (.sc _),r1,s1=>exact s1.elim
 | .sl _,r1,s1=>exact s1.elim
end
end U
namespace L2
open PySem PySem.Spec PyProof.Rows
def B6u (d e:Nat)(t u:TS):TS:=λD σ H=>t { D with nx:=λσ' H'=>∃a kvs b lvs,σ'[d]?=some (some (.ref a))/\H' a=some (.dT kvs)/\σ'[e]?=some (some (.ref b))/\H' b=some (.dT lvs)/\a≠b/\∀o o',u D σ' (upd (upd H' a (.frz o (.dT kvs))) b (.frz o' (.dT lvs))) } σ H
section
variable {X:Cx}
theorem Bx3 {d e:Nat}{st:Stmt}{rest:List Stmt}{t u:TS}(h1:QS X st t)(h2:QSs X rest u):QSs X (st::rest) (B6u d e t u):=by
 obtain⟨h2⟩:=h2
 refine⟨?_⟩
 intro pins s σ H D I h
 refine wpAny_execs_cons (thn (h1.1 pins s σ H _ I h) λf s1 q=>?_)
 cases f with
 | next =>
  obtain⟨σ',H',I',a,kvs,b,lvs,hs,ha,hs2,hb,ne,k⟩:=q;obtain⟨o,I2⟩:=I'.still ha;obtain⟨o',I3⟩:=I2.still (a:=b) (kvs:=lvs) ((Al (aL ne)).trans hb);exact h2 pins s1 σ' _ D I3 (k o o')
 | brk=>exact q
 | cont=>exact q
 | ret v=>exact q
end
end L2
namespace U
open PySem L2 PySem.W
noncomputable def Kp:m_->Bool
 | none=>true
 | some (.im _)=>true
 | some (.ls _ _)=>true
 | _=>false
noncomputable def Zw (Hf:Hp) (p r:Addr):Hp:=λb=>if b=p\/b=r then none else Hf b
theorem Af8 {Hf:Hp}{p r b:Addr}(h1:b≠p)(h2:b≠r):Zw Hf p r b=Hf b:=if_neg λz=>z.elim h1 h2
theorem A9g {Hf:Hp}{p r b:Addr}{o:HO}(h:Zw Hf p r b=some o):Hf b=some o/\b≠p/\b≠r:=by
 unfold Zw at h
 split at h
 ·cases h
 ·rename_i n;exact⟨h,λz=>n (.inl z),λz=>n (.inr z)⟩
theorem Xk {Hf:Hp}{p r b:Addr}(h:Hf b=none):Zw Hf p r b=none:=by unfold Zw;rw[h,ite_self]
mutual
theorem Bi5 {Hf:Hp}{p r:Addr}{k l:List (PyData×V)}(hp:Hf p=some (.dT k))(hr:Hf r=some (.dT l)):∀{d:o5}{v:V},Tr Hf d v->Tr (Zw Hf p r) d v
 | .none,_,h=>h
 | .bool _,_,h=>h
 | .int _,_,h=>h
 | .str _,_,h=>h
 | .list ds,_,⟨a,vs,e,h,t⟩=>⟨a,vs,e,(Af8 (λz=>by rw[z,hp]at h;cases h) (λz=>by rw[z,hr]at h;cases h)).trans h,Y0 hp hr t⟩
 | .tuple ds,_,⟨a,vs,e,h,t⟩=>⟨a,vs,e,(Af8 (λz=>by rw[z,hp]at h;cases h) (λz=>by rw[z,hr]at h;cases h)).trans h,Y0 hp hr t⟩
 | .dict _,_,h=>h
theorem Y0 {Hf:Hp}{p r:Addr}{k l:List (PyData×V)}(hp:Hf p=some (.dT k))(hr:Hf r=some (.dT l)):∀{ds:w6}{vs:l_},TrL Hf ds vs->TrL (Zw Hf p r) ds vs
 | [],_,h=>h
 | d::ds,_,⟨v,r',e,h,t⟩=>⟨v,r',e,Bi5 hp hr h,Y0 hp hr t⟩
end
noncomputable def Vm (ks:w6):w6:=ks.map λ_=>.bool true
noncomputable def noD (dh dr:Nat) (c:Ev):Ev:=(c.set dh none).set dr none
def inD (dh dr:Nat)(hs rs rd:w6)(c:Ev):Ev:=(c.set dh (some (.ty (.dt hs (Vm hs))))).set dr (some (.ty (.dt rs rd)))
structure DD (W:Wo) (a:Addr) (ks ds:w6) (xs:l_):Prop where
 ow:Ow W a (.dT (ks.zip xs))
 tr:TrL W.Hf ds xs
 len:ks.length=xs.length
 ky:∀k∈ks,Nm k=true
section
variable {K:q9}{β:Nat->V}{W W0 W1 We:Wo}{c ce:Ev}{σ σe:St}{dh dr i:Nat}{p r:Addr}{hs rs rd:w6}{xs ys:l_}
structure WI (K:q9) (β:Nat->V) (W0 W:Wo) (c:Ev) (σ:St) (dh dr:Nat) (p r:Addr) (hs rs rd:w6) (xs ys:l_):Prop where
 R:Rep K β W c σ
 sh:σ[dh]?=some (some (.ref p))
 sr:σ[dr]?=some (some (.ref r))
 oh:DD W p hs (Vm hs) xs
 or_:DD W r rs rd ys
 ne:p≠r
 st:Stp W0.S W0.Hf W0.H (orS W.S [p,r]) W.Hf W.H
theorem DD.step {ks ds:w6}(h:DD W p ks ds xs)(st:Stp W.S W.Hf W.H W1.S W1.Hf W1.H):DD W1 p ks ds xs:=⟨h.ow.step trivial st,TrL.same st.fz h.tr,h.len,h.ky⟩
theorem Au7 {l:List (Option V)}{d:Nat}{x:Option V}(h:l[d]?=some x):l.set d x=l:=by
 apply gH;intro i
 by_cases q:i=d
 ·subst q
  rw[bC (by rcases fV i l.length with q | q;exact q;rw[cu q]at h;cases h),h]
 ·rw[bI (λy=>q y.symm)]
theorem WI.bake (h:WI K β W0 W c σ dh dr p r hs rs rd xs ys):∃Wf,Wf.H=W.H/\Wf.Hf=upd (upd W.Hf p (.dT (hs.zip xs))) r (.dT (rs.zip ys))/\(∀b,Wf.S b->W.S b)/\Rep K β Wf (inD dh dr hs rs rd c) σ:=by
 have f1:Same W.Hf (upd W.Hf p (.dT (hs.zip xs))):=Bj h.oh.ow.fr;have f2:Same (upd W.Hf p (.dT (hs.zip xs))) (upd (upd W.Hf p (.dT (hs.zip xs))) r (.dT (rs.zip ys))):=Bj ((Al (aL h.ne)).trans h.or_.ow.fr)
 have R1:Rep K β ⟨upd (upd W.Hf p (.dT (hs.zip xs))) r (.dT (rs.zip ys)),W.H,W.fps⟩ c σ:=h.R.frame (f1.trans f2) (λb u e=>by
  by_cases z:b=r
  ·subst z;rw[Be]at e;rw[h.or_.ow.at_];exact e
  ·rw[Al z]at e
   by_cases z:b=p
   ·subst z;rw[Be]at e;rw[h.oh.ow.at_];exact e
   ·rw[Al z]at e;exact h.R.sub b u e) λb hb=>⟨by
  have nr:b≠r:=λz=>h.or_.ow.ns (by rw[<- z];exact hb)
  have nh:b≠p:=λz=>h.oh.ow.ns (by rw[<- z];exact hb)
  rw[Al nr,Al nh];obtain⟨i,hi⟩:=hb
  exact(h.R.own i b hi).1,rfl⟩
 have R2:=R1.setN (i:=dh) (o:=.ty (.dt hs (Vm hs))) (v:=.ref p) ⟨p,xs,rfl,.inl ((Al h.ne).trans Be),TrL.same (f1.trans f2) h.oh.tr,h.oh.len⟩ rfl;rw[Au7 h.sh]at R2;have R3:=R2.setN (i:=dr) (o:=.ty (.dt rs rd)) (v:=.ref r) ⟨r,ys,rfl,.inl Be,TrL.same (f1.trans f2) h.or_.tr,h.or_.len⟩ rfl;rw[Au7 h.sr]at R3
 exact⟨⟨upd (upd W.Hf p (.dT (hs.zip xs))) r (.dT (rs.zip ys)),W.H,clr (clr W.fps dh) dr⟩,rfl,rfl,λb hb=>(let ⟨i,hi⟩:=hb; ⟨i,(Hh (Hh hi).1).1⟩),R3⟩
theorem WI.thaw {Wf:Wo}(h:WI K β W0 W c σ dh dr p r hs rs rd xs ys)(e1:Wf.H=W.H)(e2:Wf.Hf=upd (upd W.Hf p (.dT (hs.zip xs))) r (.dT (rs.zip ys)))(e3:∀b,Wf.S b->W.S b)(st:Stp Wf.S Wf.Hf Wf.H We.S We.Hf We.H)
 (Re:Rep K β We ce σe) (hp:(noD dh dr ce).all Kp=true) (sh:σe[dh]?=some (some (.ref p))) (sr:σe[dr]?=some (some (.ref r))) :
 ∃Wu,Wu.H=We.H/\WI K β W0 Wu (noD dh dr ce) σe dh dr p r hs rs rd xs ys/\(∀d v,Tr We.Hf d v->Tr Wu.Hf d v)/\Same W.Hf Wu.Hf:=by
 have fp:We.Hf p=some (.dT (hs.zip xs)):=st.fz _ _ (by rw[e2,Al h.ne];exact Be)
 have fr:We.Hf r=some (.dT (rs.zip ys)):=st.fz _ _ (by rw[e2];exact Be)
 have np:p≠r:=h.ne
 have nS:∀a,(a=p\/a=r)->¬ We.S a:=λa ha z=>by
  rcases st.fr a z with q | q
  ·rcases ha with rfl | rfl
   ·exact h.oh.ow.ns (e3 _ q)
   ·exact h.or_.ow.ns (e3 _ q)
  ·rw[e1]at q
   rcases ha with rfl | rfl
   ·rw[h.oh.ow.at_]at q;cases q
   ·rw[h.or_.ow.at_]at q;cases q
 have R2:Rep K β We (noD dh dr ce) σe:=Re.goneC.goneC
 have td:∀d v,Tr We.Hf d v->Tr (Zw We.Hf p r) d v:=λd v t=>Bi5 fp fr t
 have hW:∀b o,W.Hf b=some o->b≠p/\b≠r:=λb o e=>⟨λz=>(by rw[z,h.oh.ow.fr]at e;cases e),λz=>(by rw[z,h.or_.ow.fr]at e;cases e)⟩
 have sW:Same W.Hf (Zw We.Hf p r):=λb o e=>by
  obtain⟨n1,n2⟩:=hW b o e;rw[Af8 n1 n2]
  exact st.fz _ _ (by rw[e2,Al n2,Al n1];exact e)
 have kpH:∀a,(a=p\/a=r)->We.H a=W.H a:=λa ha=>by
  have n:¬ Wf.S a:=λz=>by
   rcases ha with rfl | rfl
   ·exact h.oh.ow.ns (e3 _ z)
   ·exact h.or_.ow.ns (e3 _ z)
  rcases ha with rfl | rfl
  ·rw[h.oh.ow.at_];exact st.kp _ _ (by rw[e1];exact h.oh.ow.at_) n
  ·rw[h.or_.ow.at_];exact st.kp _ _ (by rw[e1];exact h.or_.ow.at_) n
 have R3:Rep K β ⟨Zw We.Hf p r,We.H,We.fps⟩ (noD dh dr ce) σe:=by
  refine⟨λb u e=>R2.sub b u (A9g e).1,R2.len,λi o q=>?_,R2.dis,λi a ha=>?_⟩
  ·obtain⟨v,g1,g2,g3⟩:=R2.get i o q
   refine⟨v,g1,?_,g3⟩
   have pl:=aX.mp hp (some o) (eG q)
   cases o with
   | im d=>exact⟨g2.1,td _ _ g2.2⟩
   | ls b ds =>
    obtain⟨a,vs,x1,x2,x3,x4,x5⟩:=g2;exact⟨a,vs,x1,x2,Xk x3,x4,Y0 fp fr x5⟩
   | sc d=>cases pl
   | ty d=>cases pl
  ·obtain⟨q1,q2⟩:=R2.own i a ha
   exact⟨Xk q1,q2⟩
 refine⟨⟨Zw We.Hf p r,We.H,We.fps⟩,rfl,⟨R3,sh,sr,⟨⟨(kpH p (.inl rfl)).trans h.oh.ow.at_,if_pos (.inl rfl),nS p (.inl rfl)⟩,?_,h.oh.len,h.oh.ky⟩,⟨⟨(kpH r (.inr rfl)).trans h.or_.ow.at_,if_pos (.inr rfl),nS r (.inr rfl)⟩,?_,h.or_.len,h.or_.ky⟩,np,h.st.trans ⟨sW,λb o e n=>?_,λb o e mu n q=>?_,λb z=>?_⟩⟩,td,sW⟩
 ·exact TrL.same sW h.oh.tr
 ·exact TrL.same sW h.or_.tr
 ·exact st.kp b o (by rw[e1];exact e) λz=>n (.inl (e3 b z))
 ·by_cases z:b=p\/b=r
  ·exact if_pos z
  ·refine Xk (st.nf b o (by rw[e1];exact e) mu (λy=>n (.inl (e3 b y))) ?_)
   rw[e2,Al (λy=>z (.inr y)),Al (λy=>z (.inl y))];exact q
 ·rcases z with z | z
  ·rcases st.fr b z with q | q
   ·exact .inl (.inl (e3 b q))
   ·rw[e1]at q;exact .inr q
  ·exact .inl (.inr z)
end
section
variable {K:q9}{β:Nat->V}{W W0 W1 W2 We:Wo}{c c' ce:Ev}{σ σe:St}{D:Ends}{dh dr i j:Nat}{p r:Addr}{hs rs rd:w6}{xs ys:l_}
 {wi:TI} {gt:TG} {tc:TT} {t1 t2 t3 t4 t5 t6 tr:TE} {fi:Ev->R (w6)} {g:n8} {fc:m6} {f1 f2 f3 f4 f5 f6 fr:m7}
def wA (i:Nat)(f1 f2:m7):Ev->R o5:=λc=>(f1 c).bind λp c=>(cgN i p c).bind λ_ c=>(f2 c).bind λ_ c=>match c[i]? with
 | some (some (.im k))=>.ok k c
 | _=>.bad
def wB (j:Nat)(f3 f4 f5 f6:m7):Ev->R (PyData×o5):=λc=>(f3 c).bind λp c=>(cgN j p c).bind λ_ c=>(f4 c).bind λ_ c=>(f6 c).bind λq c=>match nrm q with
 | .o (.im v)=>(f5 c).bind λq c=>match nrm q with
  | .o (.im k)=>.ok (k,v) c
  | _=>.bad
 | _=>.bad
def okK (dh dr:Nat)(k:o5)(ks:w6)(c:Ev):Bool:=Nm k&&(N7 k ks).isNone&&decide (ks.length<16000000)&&(noD dh dr c).all Kp
abbrev WT:=Ev×List PyData×List PyData×w6
def B2v (dh dr:Nat)(a:R o5)(b:R (PyData×o5))(hs rs rd:w6):Bool->Option WT
 | true=>match a with
  | .ok k c=>if okK dh dr k hs c=true then some (noD dh dr c,hs++[k],rs,rd) else none
  | .bad=>none
 | false=>match b with
  | .ok kv c=>if okK dh dr kv.1 rs c=true then some (noD dh dr c,hs,rs++[kv.1],rd++[kv.2]) else none
  | .bad=>none
def wDo (dh dr:Nat)(A:Ev->R o5)(B:Ev->R (PyData×o5))(hs rs rd:w6):R Bool->Option WT
 | .ok b c=>B2v dh dr (A c) (B c) hs rs rd b
 | .bad=>none
def Ao7 (dh dr:Nat)(g:n8)(fc:m6)(A:Ev->R o5)(B:Ev->R (PyData×o5))(x:o5):WT->Option WT:=λ(c,hs,rs,rd)=>wDo dh dr A B hs rs rd ((g (.o (.im x)) c).bind λ_ c=>fc (inD dh dr hs rs rd c))
noncomputable def Ov (f:o5->WT->Option WT):w6->WT->Option WT
 | [],w=>some w
 | x::l,w=>match f x w with
  | some w=>Ov f l w
  | none=>none
def B6q (dh dr i j:Nat)(wi:TI)(gt:TG)(tc:TT)(t1 t2 t3 t4 t5 t6 tr:TE):TS:=U3 (Xd At1 (J5 dh)) (U3 (Xd At1 (J5 dr)) (B6u dh dr
 (By1 wi gt (Bk9 tc (U3 (Xd t1 (J5 i)) (U3 (Yd t2) (Al1 (Tp dh) (Tp i) (tC (.bl true))))) (U3 (Xd t3 (J5 j)) (U3 (Yd t4) (Al1 (Tp dr) t5 t6))))) (Bx7 tr)))
def A7d (dh dr i j:Nat)(fi:Ev->R (w6))(g:n8)(fc:m6)(f1 f2 f3 f4 f5 f6 fr:m7):Ev->SR:=λc =>
 if (dh<c.length/\dr<c.length/\dh≠dr)/\(i≠dh/\i≠dr)/\j≠dh/\j≠dr then (fi (noD dh dr c)).toS λds c=>match Ov (Ao7 dh dr g fc (wA i f1 f2) (wB j f3 f4 f5 f6)) ds (c,[],[],[]) with
  | some (c,hs,rs,rd)=>(fr ((c.set dh (some (.ty (.ds hs (Vm hs))))).set dr (some (.ty (.ds rs rd))))).toS λp c=>.rt p c
  | none=>.bad
 else .bad
theorem WI.other (h:WI K β W0 W c σ dh dr p r hs rs rd xs ys)(st:Stp W.S W.Hf W.H W2.S W2.Hf W2.H)(R:Rep K β W2 c' σe)(sh:σe[dh]?=some (some (.ref p)))(sr:σe[dr]?=some (some (.ref r))):WI K β W0 W2 c' σe dh dr p r hs rs rd xs ys :=
 ⟨R,sh,sr,h.oh.step st,h.or_.step st,h.ne,Az8 h.st st⟩
theorem Bp3 {W:Wo}{a:Addr}{ks ds:w6}{xs:l_}{k d:o5}{v:V}{H':Hp}(h:DD W a ks ds xs)(hk:Nm k=true)(ei:N7 k ks=none)(hv:Tr W.Hf d v) :
 putK (ks.zip xs) k v=(ks++[k]).zip (xs++[v])/\∀W',Ow W' a (.dT ((ks++[k]).zip (xs++[v])))->W'.Hf=W.Hf->DD W' a (ks++[k]) (ds++[d]) (xs++[v]):=by
 obtain⟨i1,i2⟩:=S9 (vs:=xs) hk h.ky ei
 refine⟨Bh6 h.len i2,λW' o e=>⟨o,?_,by rw[aM,aM,h.len];rfl,λx hx=>?_⟩⟩
 ·rw[e];exact Va h.tr hv
 ·rcases aP.mp hx with hx | hx
  ·exact h.ky x hx
  ·rw[az.mp hx];exact hk
theorem WI.putH (h:WI K β W0 W c σ dh dr p r hs rs rd xs ys){k:o5}(hk:Nm k=true)(ei:N7 k hs=none) :
 ∃W',W'.H=upd W.H p (.dT (putK (hs.zip xs) k (.bl true)))/\W'.Hf=W.Hf/\WI K β W0 W' c σ dh dr p r (hs++[k]) rs rd (xs++[.bl true]) ys:=by
 obtain⟨q1,q2⟩:=Bp3 (H':=W.H) (d:=.bool true) (v:=.bl true) h.oh hk ei rfl;obtain⟨R1,o1⟩:=Ow.put (u:=.dT ((hs++[k]).zip (xs++[.bl true]))) h.R h.oh.ow
 refine⟨⟨W.Hf,upd W.H p (.dT ((hs++[k]).zip (xs++[.bl true]))),W.fps⟩,by rw[q1],rfl,R1,h.sh,h.sr,?_,⟨h.or_.ow.other (aL h.ne),h.or_.tr,h.or_.len,h.or_.ky⟩,h.ne,Za h.st (.head _)⟩
 have e:Vm (hs++[k])=Vm hs++[.bool true]:=by unfold Vm;rw[aV];rfl
 rw[e];exact q2 _ o1 rfl
theorem WI.putR (h:WI K β W0 W c σ dh dr p r hs rs rd xs ys){k d:o5}{v:V}(hk:Nm k=true)(ei:N7 k rs=none)(hv:Tr W.Hf d v) :
 ∃W',W'.H=upd W.H r (.dT (putK (rs.zip ys) k v))/\W'.Hf=W.Hf/\WI K β W0 W' c σ dh dr p r hs (rs++[k]) (rd++[d]) xs (ys++[v]):=by
 obtain⟨q1,q2⟩:=Bp3 (H':=W.H) h.or_ hk ei hv;obtain⟨R1,o1⟩:=Ow.put (u:=.dT ((rs++[k]).zip (ys++[v]))) h.R h.or_.ow
 exact⟨⟨W.Hf,upd W.H r (.dT ((rs++[k]).zip (ys++[v]))),W.fps⟩,by rw[q1],rfl,R1,h.sh,h.sr,⟨h.oh.ow.other h.ne,h.oh.tr,h.oh.len,h.oh.ky⟩,q2 _ o1 rfl,h.ne,Za h.st (aU _ (az.mpr rfl))⟩
theorem Be9 {k:o5}{ks:w6}(h:okK dh dr k ks c=true):Nm k=true/\N7 k ks=none/\ks.length<16000000/\(noD dh dr c).all Kp=true:=by
 obtain⟨h,h4⟩:=aF.mp h;obtain⟨h,h3⟩:=aF.mp h;obtain⟨h1,h2⟩:=aF.mp h;exact⟨h1,Option.isNone_iff_eq_none.mp h2,aQ h3,h4⟩
theorem K6 {α γ:Type}{a:R α}{k:α->Ev->R γ}{x:γ}{c':Ev}(e:a.bind k=.ok x c'):a.sat λy c=>k y c=.ok x c':=by
 cases a with
 | ok y c=>exact e
 | bad=>cases e
theorem B5w {ks:w6}{vs:l_}(h:ks.length=vs.length)(l:ks.length<16000000):(ks.zip vs).length<sizeLine:=by
 rw[eV,<- h,fW];exact aC l (by decide)
theorem B3n {N:St->Hp->Prop}{bk:St->Hp->Prop}{w:WT}(ne:(i≠dh/\i≠dr)/\j≠dh/\j≠dr)(hc:MT K tc fc)(h1:ME K t1 f1)(h2:ME K t2 f2)(h3:ME K t3 f3)(h4:ME K t4 f4)(h5:ME K t5 f5)(h6:ME K t6 f6)
 (h:WI K β W0 W c σ dh dr p r hs rs rd xs ys) (L:wDo dh dr (wA i f1 f2) (wB j f3 f4 f5 f6) hs rs rd (fc (inD dh dr hs rs rd c))=some w)
 (hN:∀W2 σ' hs rs rd xs ys c,WI K β W0 W2 c σ' dh dr p r hs rs rd xs ys->Same W.Hf W2.Hf->w=(c,hs,rs,rd)->N σ' W2.H) :
 Bk9 tc (U3 (Xd t1 (J5 i)) (U3 (Yd t2) (Al1 (Tp dh) (Tp i) (tC (.bl true))))) (U3 (Xd t3 (J5 j)) (U3 (Yd t4) (Al1 (Tp dr) t5 t6))) { D with nx:=N,ct:=N,bk:=bk } σ W.H:=by
 obtain⟨⟨i1,i2⟩,j1,j2⟩:=ne;obtain⟨Wf,e1,e2,e3,Rf⟩:=h.bake;rw[<- e1]
 refine hc β Wf _ σ _ Rf ?_
 cases e0:fc (inD dh dr hs rs rd c) with
 | bad=>rw[e0]at L;cases L
 | ok b c4 =>
  rw[e0]at L;intro W4 st4 R4
  cases b with
  | true =>
   rw[if_pos rfl]
   have L:(match wA i f1 f2 c4 with | .ok k c=>if okK dh dr k hs c=true then some (noD dh dr c,hs++[k],rs,rd) else none | .bad=>none)=some w:=L
   cases eA:wA i f1 f2 c4 with
   | bad=>rw[eA]at L;cases L
   | ok k c8 =>
    rw[eA]at L;simp only[]at L
    by_cases hb:okK dh dr k hs c8=true
    ·rw[if_pos hb]at L
     obtain⟨hk,ei,hl,hp⟩:=Be9 hb
     refine h1 β W4 c4 σ _ R4 ((K6 eA).mono λq c5 l5 v W5 fp st5 R5 r5=>?_)
     refine Ju i1 _ _ _ _ (Ju i2 _ _ _ _ (Bk β W5 c5 σ q v fp _ R5 r5 ((K6 l5).mono λ_ c6 l6 σ6 W6 st6 R6 s6r s6h=>?_)))
     refine h2.toV β W6 c6 σ6 _ R6 ((K6 l6).mono λq c7 l7 v W7 st7 R7 _=>?_)
     split at l7
     ·rename_i k' hki
      cases l7
      obtain⟨y,y1,y2,_⟩:=R7.get i _ hki;have sh6:=s6h.trans h.sh;have sr6:=s6r.trans h.sr;obtain⟨Wu,u1,u2,u3,u4⟩:=h.thaw e1 e2 e3 (st4.trans ((st5.trans st6).trans st7)) R7 hp sh6 sr6
      obtain⟨b,rfl,kb⟩:=A3o hk (show Tr W7.Hf k y from y2.2)
      have kb':KAt W7.H k b:=kb.stay λb xs q=>R7.sub _ _ q
      refine⟨_,sh6,_,y1,p,_,rfl,DPut.t (by rw[<- u1];exact u2.oh.ow.at_) kb' (B5w h.oh.len hl),?_⟩
      obtain⟨W8,v1,v2,v3⟩:=u2.putH hk ei;rw[<- u1,<- v1]
      exact hN W8 σ6 _ _ _ _ _ _ v3 (by rw[v2];exact u4) (cG L).symm
     ·cases l7
    ·rw[if_neg hb]at L;cases L
  | false =>
   rw[if_neg aR]
   have L:(match wB j f3 f4 f5 f6 c4 with | .ok kv c=>if okK dh dr kv.1 rs c=true then some (noD dh dr c,hs,rs++[kv.1],rd++[kv.2]) else none | .bad=>none)=some w:=L
   cases eA:wB j f3 f4 f5 f6 c4 with
   | bad=>rw[eA]at L;cases L
   | ok kv c8 =>
    rw[eA]at L;simp only[]at L
    by_cases hb:okK dh dr kv.1 rs c8=true
    ·rw[if_pos hb]at L
     obtain⟨hk,ei,hl,hp⟩:=Be9 hb
     refine h3 β W4 c4 σ _ R4 ((K6 eA).mono λq c5 l5 v W5 fp st5 R5 r5=>?_)
     refine Ju j1 _ _ _ _ (Ju j2 _ _ _ _ (Bk β W5 c5 σ q v fp _ R5 r5 ((K6 l5).mono λ_ c6 l6 σ6 W6 st6 R6 s6r s6h=>?_)))
     refine h4.toV β W6 c6 σ6 _ R6 ((K6 l6).mono λq c7 l7 v W7 st7 R7 _=>?_)
     refine h6.toV β W7 c7 σ6 _ R7 ((K6 l7).mono λq c9 l9 v9 W9 st9 R9 r9=>?_)
     split at l9
     ·rename_i dv hdv
      rw[hdv]at r9;have sh6:=s6h.trans h.sh;have sr6:=s6r.trans h.sr
      refine⟨_,sr6,h5.toV β W9 c9 σ6 _ R9 ((K6 l9).mono λq c10 l10 y W10 st10 R10 r10=>?_)⟩
      split at l10
      ·rename_i dk hdk
       rw[hdk]at r10
       cases l10
       obtain⟨Wu,u1,u2,u3,u4⟩:=h.thaw e1 e2 e3 (st4.trans ((st5.trans st6).trans (st7.trans (st9.trans st10)))) R10 hp sh6 sr6
       obtain⟨b,rfl,kb⟩:=A3o hk (show Tr W10.Hf dk y from r10)
       have kb':KAt W10.H dk b:=kb.stay λb xs q=>R10.sub _ _ q
       refine⟨r,_,rfl,DPut.t (by rw[<- u1];exact u2.or_.ow.at_) kb' (B5w h.or_.len hl),?_⟩
       obtain⟨W8,v1,v2,v3⟩:=u2.putR hk ei (u3 _ _ (Tr.same st10.fz (show Tr W9.Hf dv v9 from r9)))
       rw[<- u1,<- v1]
       exact hN W8 σ6 _ _ _ _ _ _ v3 (by rw[v2];exact u4) (cG L).symm
      ·cases l10
     ·cases l9
    ·rw[if_neg hb]at L;cases L
theorem A5s (hi:MI K wi fi)(hg:MG K gt g)(hf1:GFr dh gt)(hf2:GFr dr gt)(hc:MT K tc fc)(h1:ME K t1 f1)(h2:ME K t2 f2)(h3:ME K t3 f3)(h4:ME K t4 f4)(h5:ME K t5 f5)(h6:ME K t6 f6)(hr:ME K tr fr) :
 MS K (B6q dh dr i j wi gt tc t1 t2 t3 t4 t5 t6 tr) (A7d dh dr i j fi g fc f1 f2 f3 f4 f5 f6 fr):=by
 intro β W c σ D R l;unfold A7d at l
 by_cases hcd:(dh<c.length/\dr<c.length/\dh≠dr)/\(i≠dh/\i≠dr)/\j≠dh/\j≠dr
 ·rw[if_pos hcd]at l
  obtain⟨⟨hh,hrl,hne⟩,nes⟩:=hcd
  show ∀p,W.H p=none->∀r,upd W.H p (.dT []) r=none->wi ((σ.set dh (some (.ref p))).set dr (some (.ref r))) (upd (upd W.H p (.dT [])) r (.dT [])) _
  intro p hp r hr0
  have npr:p≠r:=λz=>by rw[<- z,Be]at hr0;cases hr0
  obtain⟨R1,o1⟩:=Ow.mk_new (a:=p) (o:=.dT []) R hp;obtain⟨R2,o2⟩:=Ow.mk_new (a:=r) (o:=.dT []) R1 hr0;have R3:=(R2.gone (e:=dh) (v:=.ref p)).gone (e:=dr) (v:=.ref r)
  have st0:Stp W.S W.Hf W.H (orS W.S []) W.Hf W.H:=Stp.refl.less λ_ z=>z.elim id λz=>nomatch z
  have ls:c.length=σ.length:=R.len
  have I0:WI K β W _ (noD dh dr c) ((σ.set dh (some (.ref p))).set dr (some (.ref r))) dh dr p r [] [] [] [] [] :=
   ⟨R3,by rw[bI (aL hne)];exact bC (by omega),bC (by rw[bM];omega),⟨o1.other npr,rfl,rfl,λ_ h=>nomatch h⟩,⟨o2,rfl,rfl,λ_ h=>nomatch h⟩,npr,
    (Vy (Vy st0 hp) hr0).less λb z=>z.imp id λz=>by
     rcases au.mp z with rfl | z
     ·exact aU _ (.head _)
     ·rw[az.mp z];exact .head _⟩
  refine hi β _ _ _ _ R3 ((Gd l).mono λds c1 l1 J W1 st1 R1' it=>?_)
  have I1:=I0.other st1 R1' I0.sh I0.sr
  cases eL:Ov (Ao7 dh dr g fc (wA i f1 f2) (wB j f3 f4 f5 f6)) ds (c1,[],[],[]) with
  | none=>rw[eL]at l1;exact l1.elim
  | some z =>
   rw[eL]at l1;obtain⟨cz,hz,rz,dz⟩:=z
   refine⟨λn m σ H=>∃W2 c2 hs rs rd xs ys,W2.H=H/\WI K β W W2 c2 σ dh dr p r hs rs rd xs ys/\m=ds.length-n/\n<=ds.length/\Same W1.Hf W2.Hf/\Ov (Ao7 dh dr g fc (wA i f1 f2) (wB j f3 f4 f5 f6)) (ds.drop n) (c2,hs,rs,rd)=some (cz,hz,rz,dz),
    ⟨_,W1,c1,[],[],[],[],[],rfl,I1,rfl,aD _,Same.refl _,eL⟩,?_⟩
   rintro n m σ2 H ⟨W2,c2,hs,rs,rd,xs,ys,rfl,I2,rfl,hle,sm,L⟩
   obtain⟨hstop,hgo⟩:=it n W2.Hf W2.H sm I2.R.sub
   by_cases lt:n<ds.length
   ·obtain⟨q1,q2⟩:=hgo ds[n] (cj lt)
    refine .inr ⟨q1,λσ' H'=>∃W2 c2 hs rs rd xs ys,W2.H=H'/\WI K β W W2 c2 σ' dh dr p r hs rs rd xs ys/\Same W1.Hf W2.Hf/\Ov (Ao7 dh dr g fc (wA i f1 f2) (wB j f3 f4 f5 f6)) (ds.drop (n+1)) (c2,hs,rs,rd)=some (cz,hz,rz,dz),
     λσ' H' ⟨W3,c3,hs,rs,rd,xs,ys,y1,I3,s3,L3⟩=>⟨ds.length-(n+1),by omega,W3,c3,hs,rs,rd,xs,ys,y1,I3,rfl,by omega,s3,L3⟩,λx H' hy=>?_⟩
    obtain⟨Hf2,stx,sub2,tx⟩:=q2 x H' hy;have R3:=stx.rep I2.R sub2
    have sty:Stp W2.S W2.Hf W2.H (Wo.S ⟨Hf2,H',W2.fps⟩) Hf2 H':=⟨stx.fz,λa o e _=>stx.kp a o e λz=>z,λa o e mu _ q=>stx.nf a o e mu (λz=>z) q,λa z=>.inl z⟩
    rw[Tf lt]at L;unfold Ov at L
    cases ew:Ao7 dh dr g fc (wA i f1 f2) (wB j f3 f4 f5 f6) ds[n] (c2,hs,rs,rd) with
    | none=>rw[ew]at L;cases L
    | some w =>
    rw[ew]at L
    have ew:wDo dh dr (wA i f1 f2) (wB j f3 f4 f5 f6) hs rs rd ((g (.o (.im ds[n])) c2).bind λ_ c=>fc (inD dh dr hs rs rd c))=some w:=ew
    cases eg:g (.o (.im ds[n])) c2 with
    | bad=>rw[eg]at ew;cases ew
    | ok u c3 =>
     rw[eg]at ew
     refine hf1 _ _ _ _ (hf2 _ _ _ _ (hg β ⟨Hf2,H',W2.fps⟩ c2 σ2 (.o (.im ds[n])) x [] _ R3 ⟨⟨rfl,tx⟩,λa z=>nomatch z⟩ ?_))
     rw[eg];intro σ3 W3 st3 R3' s3r s3h
     have st3:=st3.up (S2:=W2.S) λa z=>by
      rcases z with z | z
      ·exact z
      ·cases z
     have I3:=I2.other (sty.trans st3) R3' (s3h.trans I2.sh) (s3r.trans I2.sr)
     refine B3n nes hc h1 h2 h3 h4 h5 h6 I3 ew λW4 σ4 hs rs rd xs ys c4 I4 s4 e4=>⟨W4,c4,hs,rs,rd,xs,ys,rfl,I4,(sm.trans (sty.trans st3).fz).trans s4,?_⟩
     rw[<- e4];exact L
   ·have e1:n=ds.length:=by omega
    subst e1;rw[fZ]at L
    cases (show some (c2,hs,rs,rd)=some (cz,hz,rz,dz) from L)
    refine .inl ⟨hstop rfl,p,_,r,_,I2.sh,I2.oh.ow.at_,I2.sr,I2.or_.ow.at_,npr,λo o'=>?_⟩
    have fh:Same W2.Hf (upd W2.Hf p (.frz o (.dT (hz.zip xs)))):=Bj I2.oh.ow.fr;have fr2:Same (upd W2.Hf p (.frz o (.dT (hz.zip xs)))) (upd (upd W2.Hf p (.frz o (.dT (hz.zip xs)))) r (.frz o' (.dT (rz.zip ys)))):=Bj ((Al (aL npr)).trans I2.or_.ow.fr)
    have RR:Rep K β ⟨upd (upd W2.Hf p (.frz o (.dT (hz.zip xs)))) r (.frz o' (.dT (rz.zip ys))),upd (upd W2.H p (.frz o (.dT (hz.zip xs)))) r (.frz o' (.dT (rz.zip ys))),W2.fps⟩ cz σ2:=I2.R.frame (fh.trans fr2) (λb u e=>by
     by_cases z:b=r
     ·subst z;rw[Be]at e ⊢;exact e
     ·rw[Al z]at e ⊢
      by_cases z:b=p
      ·subst z;rw[Be]at e ⊢;exact e
      ·rw[Al z]at e ⊢;exact I2.R.sub b u e) λb hb=>by
     have nr:b≠r:=λz=>I2.or_.ow.ns (by rw[<- z];exact hb)
     have nh:b≠p:=λz=>I2.oh.ow.ns (by rw[<- z];exact hb)
     obtain⟨k,hk⟩:=hb
     exact⟨by rw[Al nr,Al nh];exact(I2.R.own k b hk).1,by rw[Al nr,Al nh]⟩
    have R5:=RR.setN (i:=dh) (o:=.ty (.ds hz (Vm hz))) (v:=.ref p) ⟨p,o,xs,rfl,(Al npr).trans Be,TrL.same (fh.trans fr2) I2.oh.tr,I2.oh.len⟩ rfl;rw[Au7 I2.sh]at R5;have R6:=R5.setN (i:=dr) (o:=.ty (.ds rz dz)) (v:=.ref r) ⟨r,o',ys,rfl,Be,TrL.same (fh.trans fr2) I2.or_.tr,I2.or_.len⟩ rfl;rw[Au7 I2.sr]at R6
    have stF:Stp W.S W.Hf W.H (Wo.S ⟨upd (upd W2.Hf p (.frz o (.dT (hz.zip xs)))) r (.frz o' (.dT (rz.zip ys))),upd (upd W2.H p (.frz o (.dT (hz.zip xs)))) r (.frz o' (.dT (rz.zip ys))),clr (clr W2.fps dh) dr⟩) (upd (upd W2.Hf p (.frz o (.dT (hz.zip xs)))) r (.frz o' (.dT (rz.zip ys)))) (upd (upd W2.H p (.frz o (.dT (hz.zip xs)))) r (.frz o' (.dT (rz.zip ys)))) :=
     I2.st.trans ⟨fh.trans fr2,λb u e n=>by
      rw[Al (λz=>n (.inr (by rw[z];exact aU _ (.head _)))),Al (λz=>n (.inr (by rw[z];exact .head _)))];exact e,λb u _ _ n q=>by
      rw[Al (λz=>n (.inr (by rw[z];exact aU _ (.head _)))),Al (λz=>n (.inr (by rw[z];exact .head _)))];exact q,λb ⟨k,hb⟩=>.inl (.inl ⟨k,(Hh (Hh hb).1).1⟩)⟩
    exact hr β _ _ σ2 _ R6 ((Gd l1).mono λq c3 l3 v W3 fp st3 R3 r3=>l3 σ2 v W3 fp (stF.trans st3) R3 r3)
 ·rw[if_neg hcd]at l;exact l.elim
end
end U
namespace PS
open PySem PySem.W PyProof.Rows L2
end PS
namespace U
open PySem L2
theorem R.bind_ok {a:b} {k:b->Ev->R d}:(R.ok a c).bind k=k a c:=rfl
theorem R.bind_bad {α β:Type}{k:α->Ev->R β}:(R.bad:R α).bind k=.bad:=rfl
theorem R.toS_ok {a:b} {k:b->Ev->SR}:(R.ok a c).toS k=k a c:=rfl
theorem R.toS_bad {α:Type}{k:α->Ev->SR}:(R.bad:R α).toS k=.bad:=rfl
theorem H9 {a:Type}{x:Option a}:(some x).join=x:=rfl
theorem Rz (x:a) (r:List a):atI (x::r) 0=some x:=Pb rfl
theorem Vi (x y:a) (r:List a):atI (x::y::r) 1=some y:=Pb rfl
theorem V5 (x y z:a) (r:List a):atI (x::y::z::r) 2=some z:=Pb rfl
theorem Vk (x y z u:a) (r:List a):atI (x::y::z::u::r) 3=some u:=Pb rfl
theorem Wb (x y z u w:a) (r:List a):atI (x::y::z::u::w::r) 4=some w:=Pb rfl
theorem O8:ixN 3 0=some 0:=rfl
theorem Pk:ixN 3 1=some 1:=rfl
theorem P0:ixN 3 2=some 2:=rfl
def Fw (g:n8)(body:Ev->SR)(d:o5)(c:Ev):SR:=(g (.o (.im d)) c).toS λ_ c=>body c
theorem Hb (h:Fw g body d c=.nx c'\/Fw g body d c=.ct c'):forL g body (d::ds) c=forL g body ds c':=by
 unfold Fw at h;rw[forL]
 cases e:g _ c with
 | bad=>rw[e]at h;rcases h with h | h <;> cases h
 | ok u a =>
  rw[e]at h;have h:body _=.nx _\/body _=.ct _:=h
  grind
theorem K7 {g:n8}{body:Ev->SR}{P:Nat->Ev->Prop}:∀{items:w6}{n:Nat}{c:Ev},P n c ->
 (∀k d c,items[k]?=some d->P (n+k) c->∃c',(Fw g body d c=.nx c'\/Fw g body d c=.ct c')/\P (n+k+1) c')->∃c',forL g body items c=.nx c'/\P (n+items.length) c'
 | [],n,c,h0,_=>⟨c,rfl,h0⟩
 | d::ds,n,c,h0,hs=>by
  obtain⟨c1,e,h1⟩:=hs 0 d c rfl h0;rw[Hb e]
  obtain⟨c2,e2,h2⟩:=K7 (P:=P) (items:=ds) (n:=n+1) (c:=c1) h1 (λk d c hk hp=>by
   have:=hs (k+1) d c (by simpa using hk) (by rw[show n+(k+1)=n+1+k by omega];exact hp)
   rw[show n+(k+1)+1=n+1+k+1 by omega]at this
   exact this)
  exact⟨c2,e2,by rw[aH,show n+(ds.length+1)=n+1+ds.length by omega];exact h2⟩
def Il (g:n8)(ft:m6)(fe:m7)(d:o5)(c:Ev):R (Option o5) :=
 (g (.o (.im d)) c).bind λ_ c=>(ft c).bind λb c=>if b=true then (fe c).bind λp c=>(frz (nrm p) c).bind λy c=>.ok (some y) c else .ok none c
theorem Uu : Gf g ft fe (d::ds) acc c=(Il g ft fe d c).bind λo c=>Gf g ft fe ds (acc++o.toList) c:=by
 unfold Il;rw[Gf]
 cases e:g _ c with
 | bad=>rfl
 | ok u f =>
  simp only[R.bind_ok]
  cases e2:ft _ with
  | bad=>rfl
  | ok b h =>
   simp only[R.bind_ok]
   cases b with
   | false=>simp[R.bind_ok]
   | true =>
    cases e3:fe _ with
    | bad=>rfl
    | ok p i =>
     simp only[R.bind_ok]
     cases e4:frz _ _ with
     | bad=>rfl
     | ok y a=>rfl
theorem Kc {g:n8}{ft:m6}{fe:m7}{P:Nat->w6->Ev->Prop}:∀{items acc:w6}{n:Nat}{c:Ev},P n acc c ->
 (∀k d acc c,items[k]?=some d->P (n+k) acc c->∃o c',Il g ft fe d c=.ok o c'/\P (n+k+1) (acc++o.toList) c')->∃acc' c',Gf g ft fe items acc c=.ok acc' c'/\P (n+items.length) acc' c'
 | [],acc,n,c,h0,_=>⟨acc,c,rfl,h0⟩
 | d::ds,acc,n,c,h0,hs=>by
  obtain⟨o,c1,e,h1⟩:=hs 0 d acc c rfl h0;rw[Uu,e,R.bind_ok]
  obtain⟨acc2,c2,e2,h2⟩:=Kc (P:=P) (items:=ds) (n:=n+1) (c:=c1) h1 (λk d acc c hk hp=>by
   have:=hs (k+1) d acc c (by simpa using hk) (by rw[show n+(k+1)=n+1+k by omega];exact hp)
   rw[show n+(k+1)+1=n+1+k+1 by omega]at this
   exact this)
  exact⟨acc2,c2,e2,by rw[aH,show n+(ds.length+1)=n+1+ds.length by omega];exact h2⟩
theorem Ay4 {g:n8}{ft:m6}{fe:m7}{I:Ev->Prop}{F:o5->Option o5}:∀{items acc:w6}{c:Ev},I c ->
 (∀d c,d∈items->I c->∃c',Il g ft fe d c=.ok (F d) c'/\I c')->∃c',Gf g ft fe items acc c=.ok (acc++items.filterMap F) c'/\I c'
 | [],acc,c,h0,_=>⟨c,by simp[Gf],h0⟩
 | d::ds,acc,c,h0,hs=>by
  obtain⟨c1,e,h1⟩:=hs d c (.head _) h0;rw[Uu,e,R.bind_ok]
  obtain⟨c2,e2,h2⟩:=Ay4 (I:=I) (F:=F) (items:=ds) (acc:=acc++(F d).toList) h1 (λd c hd hi=>hs d c (.tail _ hd) hi)
  refine⟨c2,?_,h2⟩
  rw[e2,bW];rw[fG]
  cases F d <;> rfl
theorem Al6 {I:Ev->Prop} (b:I c)
 (hs:∀d c,d∈items->I c->∃a,Il g ft fe d c=.ok (some (F d)) a/\I a):∃a,Gf g ft fe items acc c=.ok (acc++items.map F) a/\I a:=by
 obtain⟨a,e,h⟩:=Ay4 (acc:=acc) b hs
 refine⟨a,?_,h⟩
 simp_all
theorem Al8 {α:Type}{g:n8}{ft:m6}{fe:m7}{I:Ev->Prop}{f:α->o5}{G:α->Option o5}:∀{xs:List α}{acc:w6}{c:Ev},I c ->
 (∀x c,x∈xs->I c->∃c',Il g ft fe (f x) c=.ok (G x) c'/\I c')->∃c',Gf g ft fe (xs.map f) acc c=.ok (acc++xs.filterMap G) c'/\I c'
 | [],acc,c,h0,_=>⟨c,by simp[Gf],h0⟩
 | x::xs,acc,c,h0,hs=>by
  obtain⟨c1,e,h1⟩:=hs x c (.head _) h0;rw[aK,Uu,e,R.bind_ok]
  obtain⟨c2,e2,h2⟩:=Al8 (I:=I) (f:=f) (G:=G) (xs:=xs) (acc:=acc++(G x).toList) h1 (λd c hd hi=>hs d c (.tail _ hd) hi)
  refine⟨c2,?_,h2⟩
  rw[e2,bW];rw[fG]
  cases G x <;> rfl
theorem Fp {b:Type} {I:Ev->Prop}{f:b->o5}{G:b->o5}{xs:List b} (d:I c)
 (hs:∀x c,x∈xs->I c->∃a,Il g ft fe (f x) c=.ok (some (G x)) a/\I a):∃a,Gf g ft fe (xs.map f) acc c=.ok (acc++xs.map G) a/\I a:=by
 obtain⟨a,e,h⟩:=Al8 (acc:=acc) d hs
 refine⟨a,?_,h⟩
 simp_all
theorem Gs (h1:fi c=.ok ds c1) (hl:ds.length<=16000000) (h2:Gf g ft fe ds [] (cIn idx c1)=.ok acc cI) (a:Gx cI (pairsOf 0 idx) c1=some c2) :
 cLC idx fi g ft fe c=.ok (.o (.ls false acc)) c2:=by
 unfold cLC;rw[h1,R.bind_ok]
 simp_all
theorem Np (h1:fi c=.ok ds c1):Nf fi g body c=forL g body ds c1:=by
 unfold Nf;rw[h1];rfl
theorem Cy (h:f c=.nx c'):Ao f g c=g c':=by unfold Ao;rw[h]
theorem Qd (h:body (a.map some++List.replicate (N-n) none)=.rt p c) (hl:a.length=n) (hf:Vf a p c=r):Dj n N body a=r:=by
 unfold Dj;grind
theorem A5k (h:f c=.ok p c1) (h2:g p c1=.ok () c2):Bo f g c=.nx c2:=by
 unfold Bo;rw[h,R.toS_ok,h2,R.toS_ok]
end U
namespace K
open PySem L2 U
structure Good (d:o5) (n w:Nat):Prop where
 lay:d.canLay0=true
 shw:d.showable=true
 dct:d.hasDict=false
 dep:d.depth<=n
 wgt:wt d<=w
structure Goods (ds:w6) (n w:Nat):Prop where
 lay:PyData.canLayAll0 ds=true
 shw:PyData.showableAll ds=true
 dct:PyData.hasDictAll ds=false
 dep:PyData.depthAll ds<=n
 wgt:Qt ds<=w*ds.length
theorem Goods.of {n w:Nat}:∀{ds:w6},(∀d∈ds,Good d n w)->Goods ds n (w+2)
 | [],_=>⟨rfl,rfl,rfl,aD _,aD _⟩
 | d::r,h=>by
  have a:=h d (.head _)
  have b:=Goods.of λe he=>h e (.tail _ he)
  refine⟨?_,?_,?_,?_,?_⟩
  ·show (d.canLay0&&PyData.canLayAll0 r)=true;rw[a.lay,b.lay];rfl
  ·show (d.showable&&PyData.showableAll r)=true;rw[a.shw,b.shw];rfl
  ·show (d.hasDict||PyData.hasDictAll r)=false;rw[a.dct,b.dct];rfl
  ·show max d.depth (PyData.depthAll r)<=n;have:=a.dep;have:=b.dep;omega
  ·show wt d+2+Qt r<=(w+2)*(r.length+1)
   have:=a.wgt;have:=b.wgt;rw[Nat.mul_succ];omega
theorem Good.tup (h:∀d∈ds,Good d n w) (hk:ds.length<=k):Good (.tuple ds) (n+1) ((w+2)*k+4):=by
 have g:=Goods.of h;have m:(w+2)*ds.length<=(w+2)*k:=du _ hk
 refine⟨g.lay,g.shw,g.dct,?_,?_⟩
 ·show PyData.depthAll _+1<=n+1;have:=g.dep;omega
 ·show Qt _+4<=(w+2)*k+4;have:=g.wgt;omega
theorem Good.mono (h:Good d n w) (a:n<=n') (b:w<=w'):Good d n' w':=⟨h.lay,h.shw,h.dct,ao h.dep a,ao h.wgt b⟩
theorem Good.flatB (h:Good d n w) (hn:n<=40):Ew d=true:=by
 unfold U.Ew;rw[h.lay,aq (ao h.dep hn)];rfl
theorem Xq (ha:Good a n w) (hb:Good b n' w') (hn:n<=40) (c:n'<=40):Bg neg a b=some (.im (.bool (if neg then !PyData.eqv a b else PyData.eqv a b))):=by
 unfold Bg;rw[ha.flatB hn,hb.flatB c];rfl
theorem Y6 (h:∀d∈ds,d.canLay0=true):PyData.canLayAll0 ds=true:=by
 induction ds with
 | nil=>rfl
 | cons d r a=>show (d.canLay0&&PyData.canLayAll0 r)=true;grind
theorem Fb : Bg neg (.str a) (.str b)=some (.im (.bool (if neg then !decide (a=b) else decide (a=b)))):=by
 unfold Bg
 rw[show Zi _ _=true from rfl]
 rw[Q4]
 simp
inductive Vl where
 | non
 | int (i:Int)
 | str (x:Str)
 deriving DecidableEq
abbrev j4:=List Vl
abbrev k_:=List (j4)
@[simp] theorem Vl.int.injEq (a b:Int):(Vl.int a=Vl.int b)=(a=b):=propext ⟨λh=>by cases h;rfl,λh=>by rw[h]⟩
@[simp] theorem Vl.str.injEq (a b:Str):(Vl.str a=Vl.str b)=(a=b):=propext ⟨λh=>by cases h;rfl,λh=>by rw[h]⟩
noncomputable def Vl.d:Vl->o5
 | .non=>.none
 | .int i=>.int i
 | .str x=>.str x
noncomputable def vb:Vl->Bool
 | .non=>true
 | .int i=>decide (-1000000000000<=i)&&decide (i<=1000000000000)
 | .str x=>decide (x.length<=40)&&x.cps.toList.all λc=>decide (32<=c)&&decide (c<=126)
abbrev VB (v:Vl):Prop:=vb v=true
abbrev VBs (vs:j4):Prop:=∀v∈vs,VB v
def tD (vs:j4):o5:=.tuple (vs.map Vl.d)
theorem Zf (x y:Str):PyData.eqv (.str x) (.str y)=decide (x=y):=by
 show (x==y)=_
 grind
theorem Bz9 (a b:Vl):PyData.eqv a.d b.d=decide (a=b):=by
 cases a with
 | non=>cases b <;> simp[Vl.d,PyData.eqv]
 | int i=>
  cases b with
   | int j =>
    show (i==j)=_
    grind
   | non=>rfl
   | str y=>trivial
 | str x=>
  cases b with
   | str y=>rw[show PyData.eqv (Vl.d (.str x)) (Vl.d (.str y))=_ from Zf x y];simp_all
   | non=>trivial
   | int y=>trivial
theorem A0r:∀as bs:j4,PyData.eqvAll (as.map Vl.d) (bs.map Vl.d)=decide (as=bs)
 | [],[]=>by simp[PyData.eqvAll]
 | [],b::bs=>by simp[PyData.eqvAll]
 | a::as,[]=>by simp[PyData.eqvAll]
 | a::as,b::bs=>by
  show (PyData.eqv a.d b.d&&PyData.eqvAll (as.map Vl.d) (bs.map Vl.d))=_
  rw[Bz9,A0r as bs]
  simp
theorem B1k (a bs:j4):PyData.eqv (tD a) (tD bs)=decide (a=bs):=by
 exact A0r _ _
theorem Sy (h:VB v):Good v.d 0 1921:=by
 cases v with
 | non=>exact⟨rfl,rfl,rfl,ak _,by decide⟩
 | int i =>
  obtain⟨a,b⟩:=aF.mp (show (decide _&&decide _)=true from h)
  have a:=aQ a;have b:=aQ b
  refine⟨rfl,?_,rfl,ak _,ak _⟩
  have c:i.natAbs<2 ^ 41:=by omega
  have:i.natAbs.log2<1920:=by
   by_cases hz:i.natAbs=0
   ·rw[hz];decide
   ·exact aC ((Nat.log2_lt hz).mpr c) (by decide)
  simpa[Vl.d,PyData.showable] using this
 | str x =>
  obtain⟨a,b⟩:=aF.mp (show (decide _&&x.cps.toList.all _)=true from h)
  have a:=aQ a
  refine⟨?_,rfl,rfl,ak _,?_⟩
  ·show x.cps.all _=true
   grind
  ·show 10*x.length+2<=1921
   omega
theorem Mh (h:VBs vs) (hk:vs.length<=k):Good (tD vs) 1 (1923*k+4) :=
 Good.tup (λd a=>by obtain⟨v,b,rfl⟩:=aA.mp a;exact Sy (h v b)) (by simp_all)
theorem VBs.app (h:VBs a) (k:VBs b):VBs (a++b):=λv c=>by
 grind
theorem B6j (v:Vl)(vs:j4):((vs.map Vl.d).any λe=>PyData.eqv e v.d)=decide (v∈vs):=by
 induction vs with
 | nil=>simp
 | cons a r b =>
  rw[aK,List.any_cons,Bz9]
  grind
theorem B4v (v:j4)(vs:k_):((vs.map tD).any λe=>PyData.eqv e (tD v))=decide (v∈vs):=by
 induction vs with
 | nil=>simp
 | cons a r b =>
  rw[aK,List.any_cons,B1k]
  grind
theorem A4p (h:VB v) (hs:VBs vs):Ms neg v.d (.list (vs.map Vl.d))=some (.im (.bool (if neg then !decide (v∈vs) else decide (v∈vs)))):=by
 have e:Ms neg v.d (.list (vs.map Vl.d))=if Ew v.d&&PyData.canLayAll0 (vs.map Vl.d) then some (.im (.bool (if neg then !(vs.map Vl.d).any λe=>PyData.eqv e v.d else (vs.map Vl.d).any λe=>PyData.eqv e v.d))) else none:=by rfl
 rw[e,(Sy h).flatB (by decide),Y6 λd a=>by obtain⟨u,b,rfl⟩:=aA.mp a;exact(Sy (hs u b)).lay,B6j];rfl
theorem Bk2 {vs:k_}(h:VBs v) (hs:∀u∈vs,VBs u):Ms neg (tD v) (.list (vs.map tD))=some (.im (.bool (if neg then !decide (v∈vs) else decide (v∈vs)))):=by
 show (if Ew _&&PyData.canLayAll0 _ then some _ else none)=_
 rw[(Mh h (ak _)).flatB (by decide),Y6 λd a=>by obtain⟨u,b,rfl⟩:=aA.mp a;exact(Mh (hs u b) (ak _)).lay,B4v];rfl
theorem Xh {l:List a}{r:Int}(b:0<=r) (h1:r<l.length):∃d,atI l r=some d/\d∈l/\l[r.toNat]?=some d:=by
 obtain⟨k,rfl⟩:=bQ b
 exact⟨l[k],Pb (cj _),ig _,by grind⟩
def Jf:Ev->SR :=
 (Cm (cUn Q6 (cLC [none] (Vc (Aa 0)) (cgN 0) Ax (Hj (cOp Az7 (cC (.str " ")) (Aa 0)) (cOp Az7 (Aa 0) (cC (.str "~")))))))
def Fq:m8:=Dj 1 1 Jf
def Fz:Ev->SR :=
 (Ao
  (cIf (Aw (cUn (By .bool) (Aa 0))) (Cm (cC (.bool false))) Ck)
  (Ao (cIf (Aw (cUn (By .str) (Aa 0))) (Cm (cF Fq (Ab (Aa 0) Ag))) Ck)
  (Cm (Yk (cOp (Fv false) (Aa 0) (cC (.none))) (cUn (By .int) (Aa 0))))))
def Es:m8:=Dj 1 1 Fz
def Fl:Ev->SR :=
 (Ao
  (cIf (cOr (My (Aw (cUn (By .str) (Aa 0)))) (cOr (Aw (cOp (Bg false) (Aa 0) (cC (.str "")))) (Aw (cOp Tz (Gh (Aa 0)) (cC (.int 8)))))) (Cm (cC (.bool false))) Ck)
  (Cm (cUn Q6 (cLC [none] (Vc (Aa 0)) (cgN 0) Ax (cOp (Ms false) (Aa 0) (cC (.str "abcdefghijklmnopqrstuvwxyz")))))))
def Ea:m8:=Dj 1 1 Fl
def Cu:Ev->SR :=
 (Ao
  (cIf (cOr (My (Aw (cUn (By .tuple) (Aa 0)))) (Aw (cOp (Bg false) (Gh (Aa 0)) (cC (.int 0))))) (Cm (cC (.bool false))) Ck)
  (Ao (cIf (My (Aw (cUn Q6 (cLC [none] (Bp (Aa 0)) (cgN 0) Ax (cF Ea (Ab (Aa 0) Ag)))))) (Cm (cC (.bool false))) Ck)
  (Cm (cOp (Bg false) (cUn V0 (Aa 0)) (Gh (Aa 0))))))
def Bq:m8:=Dj 1 1 Cu
def Iu:Ev->SR :=
 (Ao
  (cIf (My (Aw (cUn Q6 (cLC [none] (Bp (El (Ab (Aa 0) (Ab (Aa 1) (Ab (Aa 2) Ag))))) (cgN 0) Ax (cUn (By .tuple) (Aa 0)))))) (Cm (cC (.bool false))) Ck)
  (Cm (Hj (cOp Tz (Gh (Aa 2)) (cC (.int 0))) (cF Bq (Ab (cOp Am (cOp Am (Aa 0) (Aa 1)) (Aa 2)) Ag)))))
def Fd:m8:=Dj 3 3 Iu
def Iw:Ev->SR :=
 (Cm (cUn Sh (cOp Am (cC (.str "1")) (cOp Ui (cC (.str "0")) (Aa 0)))))
def Bs:m8:=Dj 1 1 Iw
def Fy (pr:m8):Ev->SR :=
 (Ao
  (cIf (Aw (cOp Qo (Aa 0) (cC (.int 0)))) (Cm (cOp Am (cC (.str "-")) (cF pr (Ab (cUn Ag6 (Aa 0)) Ag)))) Ck)
  (Ao (Bo (cF Bs (Ab (cC (.int 64)) Ag)) (cgN 1))
  (Ao (Bo (Gr Ag) (cgN 2))
  (Ao (Bo (Aa 0) (cgN 3))
  (Ao (Pr (Aw (cOp Xo (Aa 3) (Aa 1))) (Ao Ko
  (Bo (cOp Jv (Aa 3) (Aa 1)) (cgN 3))) 4)
  (Ao (En (Hd (Aa 2) (cUn A7i (Aa 3))))
  (Cm (cMt Dd Vd (cC (.str "")) (Aa 2)))))))))
def Ce:Nat->List O->FR
 | 0=>λ_=>.bad
 | k+1=>Dj 1 4 (Fy (Ce k))
def Ln:Ev->SR :=
 (Ao
  (Bo (cUn (Oi (Str.ofString "'") (Str.ofString "\\'")) (cUn (Oi (Str.ofString "\\") (Str.ofString "\\\\")) (Aa 0))) (cgN 1))
  (Cm (cOp Am (cOp Am (cC (.str "'")) (Aa 1)) (cC (.str "'")))))
def Ez:m8:=Dj 1 2 Ln
def Gp:Ev->SR :=
 (Ao
  (cIf (Aw (cOp (Fv false) (Aa 0) (cC (.none)))) (Cm (cC (.str "-"))) Ck)
  (Ao (cIf (Aw (cUn (By .str) (Aa 0))) (Cm (cF Ez (Ab (Aa 0) Ag))) Ck)
  (Cm (cF (Ce 2) (Ab (Aa 0) Ag)))))
def Du:m8:=Dj 1 1 Gp
def Rq:Ev->SR :=
 (Cm (cMt Dd Iv (cC (.str " ")) (cOp Am (Gr (Ab (Aa 0) Ag)) (cLC [none] (Bp (Aa 1)) (cgN 0) Ax (cF Du (Ab (Aa 0) Ag))))))
def Dp:m8:=Dj 2 2 Rq
def Iz:Ev->SR :=
 (Cm (Hs (Aw (cOp (Fv false) (Aa 0) (cC (.none)))) (cC (.str ": _")) (cF Dp (Ab (cC (.str ":")) (Ab (Aa 0) Ag)))))
def Ds:m8:=Dj 1 1 Iz
def Qu:Ev->SR :=
 (Cm (cMt Dd Iv (cC (.str " ")) (cOp Am (Gr (Ab (cF Dp (Ab (cC (.str "part")) (Ab (Aa 0) Ag))) Ag)) (cLC [none] (Bp (Aa 1)) (cgN 0) Ax (cF Ds (Ab (Aa 0) Ag))))))
def Ey:m8:=Dj 2 2 Qu
def V6:Ev->SR :=
 (Ao
  (Bo (cMt Dd Zh (cC (.str " ")) (cOp Am (cOp Am (cOp Am (cOp Am (cOp Am (El (Ab (cC (.str "wide")) Ag)) (cOp Ar (Aa 0) (cC (.int 0)))) (El (Ab (cC (.str "/")) Ag))) (cOp Ar (Aa 0) (cC (.int 1)))) (El (Ab (cC (.str "/")) Ag))) (cOp Ar (Aa 0) (cC (.int 2))))) (cgN 1))
  (Ao (Bo (cLC [none] (Bp (cOp Ar (Aa 0) (cC (.int 3)))) (cgN 0) Ax (cF Dp (Ab (cC (.str "head")) (Ab (Aa 0) Ag)))) (cgN 2))
  (Cm (cMt Dd Iv (cC (.str "\n")) (cOp Am (cOp Am (Gr (Ab (Aa 1) Ag)) (Aa 2)) (cLC [none,none] (Bp (cOp Ar (Aa 0) (cC (.int 4)))) (cgT 2 (Br (cgN 0) (Br (cgN 1) Gn))) Ax (cF Ey (Ab (Aa 0) (Ab (Aa 1) Ag)))))))))
def De:m8:=Dj 1 3 V6
def Pn:Ev->SR :=
 (cIf (My (Aw (Aa 0))) Ko Ck)
def Bl:m8:=Dj 2 2 Pn
def Pu:Ev->SR :=
 (Ao
  (Bo (Gr Ag) (cgN 1))
  (Ao (Bo (cC (.int 0)) (cgN 2))
  (Ao (Bo (cC (.bool false)) (cgN 3))
  (Ao (Bo (cC (.bool false)) (cgN 4))
  (Ao (Nf (Ah2 (Aa 0)) (cgT 2 (Br (cgN 5) (Br (cgN 6) Gn))) (Ao (cIf (Qx (Aw (cOp (Bg false) (Aa 6) (cC (.str " ")))) (My (Aw (Aa 3)))) (Ao (En (Hd (Aa 1) (cSl Dy (Aa 0) (cOS (Aa 2)) (cOS (Aa 5)))))
  (Bo (cOp Am (Aa 5) (cC (.int 1))) (cgN 2))) (cIf (Qx (Aw (cOp (Bg false) (Aa 6) (cC (.str "'")))) (My (Aw (Aa 4)))) (Bo (Ly (Aa 3)) (cgN 3)) Ck))
  (Bo (Hj (cOp (Bg false) (Aa 6) (cC (.str "\\"))) (Ly (Aa 4))) (cgN 4))))
  (Ao (En (Hd (Aa 1) (cSl Dy (Aa 0) (cOS (Aa 2)) cON)))
  (Cm (Aa 1))))))))
def G4:m8:=Dj 1 7 Pu
def Qe:Ev->SR :=
 (Ao
  (Bo (cUn (Oi (Str.ofString "\\\\") (Str.ofString "\\")) (cUn (Oi (Str.ofString "\\'") (Str.ofString "'")) (cSl Dy (Aa 0) (cOS (cC (.int 1))) (cOS (cUn Ag6 (cC (.int 1))))))) (cgN 2))
  (Ao (En (cF Bl (Ab (Hj (cF Es (Ab (Aa 2) Ag)) (cOp (Bg false) (cF Ez (Ab (Aa 2) Ag)) (Aa 0))) (Ab (Aa 1) Ag))))
  (Cm (Aa 2))))
def Jp:m8:=Dj 2 3 Qe
def Hv:Ev->SR :=
 (Ao
  (Bo (cC (.int 0)) (cgN 1))
  (Ao (Nf (A6n (cC (.int 0)) (Gh (Aa 0)) (cC (.int 64))) (cgN 2) (Ao (Bo (cSl Dy (Aa 0) (cOS (Aa 2)) (cOS (cOp Am (Aa 2) (cC (.int 64))))) (cgN 3))
  (Bo (cOp Am (cOp Ld (Aa 1) (cF Bs (Ab (Gh (Aa 3)) Ag))) (cUn Sh (Aa 3))) (cgN 1))))
  (Cm (Aa 1))))
def Et:m8:=Dj 1 4 Hv
def Jo:Ev->SR :=
 (Ao
  (Bo (Hs (Aw (cMt Dd Ws (Aa 0) (cC (.str "-")))) (cSl Dy (Aa 0) (cOS (cC (.int 1))) cON) (Aa 0)) (cgN 2))
  (Ao (En (cF Bl (Ab (Hj (cOp (Bg true) (Aa 2) (cC (.str ""))) (cUn Q6 (cLC [none] (Vc (Aa 2)) (cgN 0) Ax (cOp (Ms false) (Aa 0) (cC (.str "0123456789")))))) (Ab (Aa 1) Ag))))
  (Ao (En (cF Bl (Ab (Yk (cOp (Bg false) (Aa 0) (cC (.str "0"))) (Ly (cMt Dd Ws (Aa 2) (cC (.str "0"))))) (Ab (Aa 1) Ag))))
  (Ao (Bo (cF Et (Ab (Aa 2) Ag)) (cgN 3))
  (Cm (Hs (Aw (cMt Dd Ws (Aa 0) (cC (.str "-")))) (cUn Ag6 (Aa 3)) (Aa 3)))))))
def Ft:m8:=Dj 2 4 Jo
def Ku:Ev->SR :=
 (Ao
  (cIf (Aw (cOp (Bg false) (Aa 0) (cC (.str "-")))) (Cm (cC (.none))) Ck)
  (Ao (cIf (Aw (cMt Dd Ws (Aa 0) (cC (.str "'")))) (Cm (cF Jp (Ab (Aa 0) (Ab (Aa 1) Ag)))) Ck)
  (Cm (cF Ft (Ab (Aa 0) (Ab (Aa 1) Ag))))))
def Dn:m8:=Dj 2 2 Ku
def Mu:Ev->SR :=
 (Ao
  (En (cF Bl (Ab (cOp (Bg false) (Gh (Aa 0)) (Aa 1)) (Ab (Aa 2) Ag))))
  (Cm (cUn Cq (cLC [none,some 2] (Bp (Aa 0)) (cgN 0) Ax (cF Dn (Ab (Aa 0) (Ab (Aa 1) Ag)))))))
def Cv:m8:=Dj 3 3 Mu
def N6:Ev->SR :=
 (Cm (cLC [none] (Bp (cMt Dd Vt (Aa 0) (cC (.str "\n")))) (cgN 0) Ax (cF G4 (Ab (Aa 0) Ag))))
def Ga:m8:=Dj 1 1 N6
def Aa7:Ev->SR :=
 (Be7 1 2 3 (Bp (Aa 0)))
def Hu:m8:=Dj 2 4 Aa7
def Hr:Ev->SR :=
 (Ao
  (Bo (cLC [none] (Bp (cF Hu (Ab (cSl Dy (Aa 0) (cOS (cC (.int 1))) cON) (Ab (cC (.str "/")) Ag)))) (cgN 0) Ax (cUn Cq (Aa 0))) (cgN 1))
  (Ao (En (cF Bl (Ab (Hj (cOp (Bg false) (cOp Ar (Aa 0) (cC (.int 0))) (cC (.str "wide"))) (cOp (Bg false) (Gh (cFz (Aa 1))) (cC (.int 3)))) (Ab (cC (.int 0)) Ag))))
  (Ao (En (cF Bl (Ab (cF Fd (Ab (cOp Ar (cFz (Aa 1)) (cC (.int 0))) (Ab (cOp Ar (cFz (Aa 1)) (cC (.int 1))) (Ab (cOp Ar (cFz (Aa 1)) (cC (.int 2))) Ag)))) (Ab (cC (.int 0)) Ag))))
  (Cm (cFz (Aa 1))))))
def Eu:m8:=Dj 1 2 Hr
def Mg:Ev->SR :=
 (Cm (Hs (Aw (cOp (Bg false) (Aa 0) (Gr (Ab (cC (.str "_")) Ag)))) (cC (.none)) (cF Cv (Ab (Aa 0) (Ab (Aa 1) (Ab (Aa 2) Ag))))))
def Ff:m8:=Dj 3 3 Mg
def O4:Ev->SR :=
 (Ao
  (Bo (cF Hu (Ab (cSl Dy (Aa 0) (cOS (cC (.int 1))) cON) (Ab (cC (.str ":")) Ag))) (cgN 4))
  (Ao (En (cF Bl (Ab (Hj (cOp (Bg false) (cOp Ar (Aa 0) (cC (.int 0))) (cC (.str "part"))) (cOp (Bg false) (Gh (Aa 4)) (cOp Am (cC (.int 1)) (Aa 2)))) (Ab (Aa 3) Ag))))
  (Ao (Bo (cF Cv (Ab (cOp Ar (Aa 4) (cC (.int 0))) (Ab (Gh (cOp Ar (Aa 1) (cC (.int 0)))) (Ab (Aa 3) Ag)))) (cgN 5))
  (Ao (Bo (cLC [none,some 3,some 1] (Bp (cSl Dy (Aa 4) (cOS (cC (.int 1))) cON)) (cgN 0) Ax (cF Ff (Ab (Aa 0) (Ab (Gh (cOp Ar (Aa 2) (cC (.int 2)))) (Ab (Aa 1) Ag))))) (cgN 6))
  (Cm (El (Ab (Aa 5) (Ab (cUn Cq (Aa 6)) Ag))))))))
def Ih:m8:=Dj 4 7 O4
def Qg:Ev->SR :=
 (Ao
  (Bo (cF Ga (Ab (Aa 0) Ag)) (cgN 1))
  (Ao (Bo (cF Eu (Ab (cOp Ar (Aa 1) (cC (.int 0))) Ag)) (cgN 2))
  (A7d 3 4 7 8 (Zv (cSl Dy (Aa 1) (cOS (cC (.int 1))) cON)) (cgT 2 (Br (cgN 5) (Br (cgN 6) Gn))) (Qx (Aw (cOp (Bg false) (cOp Ar (Aa 6) (cC (.int 0))) (cC (.str "head")))) (Aw (cOp (Bg false) (Zy (Aa 4)) (cC (.int 0))))) (cF Cv (Ab (cSl Dy (Aa 6) (cOS (cC (.int 1))) cON) (Ab (Gh (cOp Ar (Aa 2) (cC (.int 1)))) (Ab (Aa 5) Ag)))) (cF Bl (Ab (Aa9 (Aa 7) (Aa 3)) (Ab (Aa 5) Ag))) (cF Ih (Ab (Aa 6) (Ab (Aa 2) (Ab (Zy (Aa 3)) (Ab (Aa 5) Ag))))) (cF Bl (Ab (Aa9 (cOp Ar (Aa 8) (cC (.int 0))) (Aa 4)) (Ab (Aa 5) Ag))) (cOp Ar (Aa 8) (cC (.int 0))) (cOp Ar (Aa 8) (cC (.int 1))) (El (Ab (cOp Ar (Aa 2) (cC (.int 0))) (Ab (cOp Ar (Aa 2) (cC (.int 1))) (Ab (cOp Ar (Aa 2) (cC (.int 2))) (Ab (Bc7 (Aa 3)) (Ab (Bg0 (Aa 4)) Ag)))))))))
def Hz:m8:=Dj 1 9 Qg
def Mf:Ev->SR :=
 (Ao
  (cIf (Aw (cOp Qo (Aa 1) (Gh (Aa 0)))) (Cm (Ag5 (Aa 0) (Aa 1))) Ck)
  (Cm (cC (.int 0))))
def Hw:m8:=Dj 2 2 Mf
def Ag2:Ev->SR :=
 (Ao
  (Bo (cF Hw (Ab (Aa 0) (Ab (Aa 1) Ag))) (cgN 2))
  (Cm (Gr (Ab (cOp Ld (cUn A7c (Aa 2)) (cUn Ua (cOp Xo (cUn A7c (Aa 2)) (cOp Ma (cC (.int 10)) (cC (.int 18)))))) (Ab (cOp Am (cOp Am (cOp K5 (Aa 2) (cC (.int 2305843009213693951))) (cOp Ld (cC (.int 39373)) (Aa 1))) (cC (.int 17))) (Ab (cC (.int 0)) Ag))))))
def Ri:m8:=Dj 2 3 Ag2
def Te:Ev->SR :=
 (Ao
  (cIf (Aw (cOp Tz (cOp Ar (Aa 0) (cC (.int 0))) (cC (.int 0)))) (Ao (Bo (cOp K5 (cOp Ar (Aa 0) (cC (.int 0))) (Aa 1)) (cgN 2))
  (Ao (Bo (cOp Jv (cOp Ar (Aa 0) (cC (.int 0))) (Aa 1)) (Qn (Aa 0) (cC (.int 0))))
  (Cm (Aa 2)))) Ck)
  (Ao (Bo (cOp Am (cOp Ar (Aa 0) (cC (.int 2))) (cC (.int 1))) (Qn (Aa 0) (cC (.int 2))))
  (Ao (Bo (cOp K5 (cOp Ld (cOp Am (cOp Ar (Aa 0) (cC (.int 1))) (cOp Ld (cC (.int 48271)) (cOp Ar (Aa 0) (cC (.int 2))))) (cOp Am (cC (.int 39373)) (cOp Ar (Aa 0) (cC (.int 2))))) (cC (.int 2147483647))) (cgN 3))
  (Ao (Bo (cOp K5 (cOp Ld (cOp Am (Aa 3) (cOp Ar (Aa 0) (cC (.int 2)))) (cOp Am (cOp K5 (Aa 3) (cC (.int 40009))) (cC (.int 7)))) (cC (.int 2147483629))) (cgN 4))
  (Cm (cOp K5 (cOp Jv (cOp K5 (cOp Am (cOp Ld (Aa 4) (cC (.int 48271))) (Aa 3)) (cC (.int 2147483587))) (cC (.int 64))) (Aa 1)))))))
def Aj:m8:=Dj 2 5 Te
def Td:Ev->SR :=
 (Ao
  (cIf (Aw (cOp (Bg false) (cF Aj (Ab (Aa 0) (Ab (cC (.int 8)) Ag))) (cC (.int 0)))) (Cm (cOp Am (cC (.int 7)) (cF Aj (Ab (Aa 0) (Ab (cOp J4 (Aa 3) (cC (.int 6))) Ag))))) Ck)
  (Cm (cOp Am (Aa 1) (cF Aj (Ab (Aa 0) (Ab (cOp Am (cOp J4 (Aa 2) (Aa 1)) (cC (.int 1))) Ag))))))
def Kd:m8:=Dj 4 4 Td
def U0:Ev->SR :=
 (Ao
  (Bo (Gr (cK [.str "b",.str "a",.str "year",.str "z",.str "ab",.str "month",.str "aa",.str "quantity",.str "c",.str "town",.str "zz",.str "ba"])) (cgN 2))
  (Cm (cLC [none,some 2,some 0] (G9 (Aa 1)) (cgN 0) Ax (Ke (Aa 1) (cF Aj (Ab (Aa 2) (Ab (Gh (Aa 1)) Ag)))))))
def J9:m8:=Dj 2 3 U0
def Ka:Ev->SR :=
 (Ao
  (Bo (cF Aj (Ab (Aa 0) (Ab (cC (.int 9)) Ag))) (cgN 1))
  (Ao (cIf (Aw (cOp Qo (Aa 1) (cC (.int 4)))) (Cm (cOp J4 (cF Aj (Ab (Aa 0) (Ab (cC (.int 13)) Ag))) (cC (.int 3)))) Ck)
  (Ao (cIf (Aw (cOp (Bg false) (Aa 1) (cC (.int 4)))) (Cm (cOp Ar (Gr (Ab (cOp J4 (cOp Ma (cC (.int 10)) (cC (.int 12))) (cC (.int 1))) (Ab (cOp J4 (cC (.int 0)) (cOp Ma (cC (.int 10)) (cC (.int 11)))) (Ab (cC (.int 100)) (Ab (cC (.int 10)) Ag))))) (cF Aj (Ab (Aa 0) (Ab (cC (.int 4)) Ag))))) Ck)
  (Ao (cIf (Aw (cOp (Bg false) (Aa 1) (cC (.int 5)))) (Cm (cC (.none))) Ck)
  (Cm (cOp Ar (Gr (cK [.str "",.str "a",.str "b",.str "B",.str "10",.str "9",.str "-",.str "a b",.str "it's",.str "\\",.str "/",.str "_",.str ":",.str "None",.str "ab"])) (cF Aj (Ab (Aa 0) (Ab (cC (.int 15)) Ag)))))))))
def Dc:m8:=Dj 1 2 Ka
def Nt:Ev->SR :=
 (Ao
  (cIf (Aw (cOp (Bg false) (cF Aj (Ab (Aa 0) (Ab (cC (.int 9)) Ag))) (cC (.int 0)))) (Cm (cOp Ar (Gr (Ab (cOp J4 (cOp Ma (cC (.int 10)) (cC (.int 12))) (cC (.int 1))) (Ab (cOp J4 (cC (.int 1)) (cOp Ma (cC (.int 10)) (cC (.int 12)))) (Ab (cOp Ma (cC (.int 10)) (cC (.int 11))) (Ab (cC (.int 0)) Ag))))) (cF Aj (Ab (Aa 0) (Ab (cC (.int 4)) Ag))))) Ck)
  (Cm (cOp J4 (cF Aj (Ab (Aa 0) (Ab (cC (.int 25)) Ag))) (cC (.int 7)))))
def Eg:m8:=Dj 1 1 Nt
def Wl:Ev->SR :=
 (Ao
  (Bo (Gr Ag) (cgN 2))
  (Ao (Nf (G9 (Aa 1)) (cgN 3) (Ao (Bo (cF Dc (Ab (Aa 0) Ag)) (cgN 4))
  (cIf (Aw (cOp (Ms true) (Aa 4) (Aa 2))) (En (Hd (Aa 2) (Aa 4))) Ck)))
  (Cm (Aa 2))))
def Mq:m8:=Dj 2 5 Wl
def Q9:Ev->SR :=
 (Ao
  (Bo (cF Mq (Ab (Aa 0) (Ab (cC (.int 6)) Ag))) (cgN 3))
  (Ao (Bo (Gr Ag) (cgN 4))
  (Ao (Nf (G9 (Aa 2)) (cgN 5) (Ao (Bo (cUn Cq (cLC [none,some 3,some 0] (G9 (Aa 1)) (cgN 0) Ax (cOp Ar (Aa 1) (cF Aj (Ab (Aa 2) (Ab (Gh (Aa 1)) Ag)))))) (cgN 6))
  (cIf (Aw (cOp (Ms true) (Aa 6) (Aa 4))) (En (Hd (Aa 4) (Aa 6))) Ck)))
  (Cm (Aa 4)))))
def Jh:m8:=Dj 3 7 Q9
def S7:Ev->SR :=
 (Ao
  (Bo (cF J9 (Ab (Aa 0) (Ab (cC (.int 9)) Ag))) (cgN 2))
  (Ao (Rg 3 4 5 (Ab (cF Aj (Ab (Aa 0) (Ab (cC (.int 3)) Ag))) (Ab (cF Aj (Ab (Aa 0) (Ab (cC (.int 3)) Ag))) (Ab (cOp Am (cC (.int 1)) (cF Aj (Ab (Aa 0) (Ab (cC (.int 2)) Ag)))) Ag))))
  (Ao (cIf (Aw (cOp (Bg false) (cF Aj (Ab (Aa 0) (Ab (cC (.int 8)) Ag))) (cC (.int 0)))) (Bo (cOp Am (cC (.int 3)) (cF Aj (Ab (Aa 0) (Ab (cC (.int 3)) Ag)))) (cgN 5)) Ck)
  (Ao (Rh 6 7 (Ab (cSl Dy (Aa 2) cON (cOS (Aa 3))) (Ab (cSl Dy (Aa 2) (cOS (Aa 3)) (cOS (cOp Am (Aa 3) (Aa 4)))) Ag)))
  (Ao (Bo (cSl Dy (Aa 2) (cOS (cOp Am (Aa 3) (Aa 4))) (cOS (cOp Am (cOp Am (Aa 3) (Aa 4)) (Aa 5)))) (cgN 8))
  (Ao (Bo (cF Jh (Ab (Aa 0) (Ab (Aa 4) (Ab (cF Kd (Ab (Aa 0) (Ab (cC (.int 0)) (Ab (cC (.int 5)) (Ab (cC (.int 12)) Ag))))) Ag)))) (cgN 9))
  (Ao (Bo (cOp Ar (Gr (Ab (cC (.int 9)) (Ab (cC (.int 2)) (Ab (cC (.int 3)) Ag)))) (cF Aj (Ab (Aa 0) (Ab (cC (.int 3)) Ag)))) (cgN 10))
  (Ao (Bo (Gr Ag) (cgN 11))
  (Ao (Nf (Bp (cF Jh (Ab (Aa 0) (Ab (Aa 3) (Ab (cF Kd (Ab (Aa 0) (Ab (cC (.int 0)) (Ab (cC (.int 5)) (Ab (cC (.int 12)) Ag))))) Ag))))) (cgN 12) (Ao (Bo (Gr Ag) (cgN 13))
  (Ao (Nf (Bp (Aa 9)) (cgN 14) (Ao (Bo (cUn Cq (cLC [none,some 1,some 0] (Bp (Aa 8)) (cgN 0) Ax (Hs (Aw (Aa 1)) (cF Eg (Ab (Aa 2) Ag)) (cF Dc (Ab (Aa 2) Ag))))) (cgN 15))
  (En (Hd (Aa 13) (Hs (Aw (cOp (Bg false) (cF Aj (Ab (Aa 0) (Ab (Aa 10) Ag))) (cC (.int 0)))) (cC (.none)) (Aa 15))))))
  (En (Hd (Aa 11) (El (Ab (Aa 12) (Ab (cUn Cq (Aa 13)) Ag))))))))
  (Cm (El (Ab (cUn Cq (Aa 6)) (Ab (cUn Cq (Aa 7)) (Ab (cUn Cq (Aa 8)) (Ab (cUn Cq (Aa 9)) (Ab (cUn Cq (Aa 11)) Ag))))))))))))))))
def O2:m8:=Dj 2 16 S7
def Ja:Ev->SR :=
 (Ao
  (cIf (Aw (cOp (Fv false) (Aa 0) (cC (.none)))) (Cm (cC (.str "-"))) Ck)
  (Ao (cIf (Aw (cUn (By .str) (Aa 0))) (Cm (cOp Am (cOp Am (cC (.str "'")) (cMt Dd Iv (cC (.str "")) (cLC [none] (Vc (Aa 0)) (cgN 0) Ax (cOp Am (cOp Ui (cC (.str "\\")) (cUn Ua (cOp (Ms false) (Aa 0) (cC (.str "'\\"))))) (Aa 0))))) (cC (.str "'")))) Ck)
  (Cm (cUn A7i (Aa 0)))))
def Ef:m8:=Dj 1 1 Ja
def Ud:Ev->SR :=
 (Cm (cLC [none] (Bp (Aa 0)) (cgN 0) Ax (cF Ef (Ab (Aa 0) Ag))))
def Fo:m8:=Dj 1 1 Ud
def Mx:Ev->SR :=
 (Ao
  (Bo (Aa 0) (cgT 5 (Br (cgN 1) (Br (cgN 2) (Br (cgN 3) (Br (cgN 4) (Br (cgN 5) Gn)))))))
  (Ao (Bo (Gr (Ab (cMt Dd Iv (cC (.str " ")) (cOp Am (cOp Am (cOp Am (cOp Am (cOp Am (Gr (Ab (cC (.str "wide")) Ag)) (cUn Z3 (Aa 1))) (Gr (Ab (cC (.str "/")) Ag))) (cUn Z3 (Aa 2))) (Gr (Ab (cC (.str "/")) Ag))) (cUn Z3 (Aa 3)))) Ag)) (cgN 6))
  (Ao (Bo (cOp Am (Aa 6) (cLC [none] (Bp (Aa 4)) (cgN 0) Ax (cMt Dd Iv (cC (.str " ")) (cOp Am (Gr (Ab (cC (.str "head")) Ag)) (cF Fo (Ab (Aa 0) Ag)))))) (cgN 6))
  (Ao (Nf (Bp (Aa 5)) (cgT 2 (Br (cgN 7) (Br (cgN 8) Gn))) (Ao (Bo (cOp Am (Gr (Ab (cC (.str "part")) Ag)) (cF Fo (Ab (Aa 7) Ag))) (cgN 9))
  (Ao (Nf (Bp (Aa 8)) (cgN 10) (Bo (cOp Am (cOp Am (Aa 9) (Gr (Ab (cC (.str ":")) Ag))) (Hs (Aw (cOp (Fv false) (Aa 10) (cC (.none)))) (Gr (Ab (cC (.str "_")) Ag)) (cF Fo (Ab (Aa 10) Ag)))) (cgN 9)))
  (En (Hd (Aa 6) (cMt Dd Iv (cC (.str " ")) (Aa 9)))))))
  (Cm (cMt Dd Iv (cC (.str "\n")) (Aa 6)))))))
def Jy:m8:=Dj 1 11 Mx
def Ie (pr:m8):Ev->SR :=
 (Ao
  (cIf (Aw (cUn (Rm .list .tuple) (Aa 1))) (Ao (cIf (cOr (Aw (cOp (Bg true) (cUn (By .list) (Aa 0)) (cUn (By .list) (Aa 1)))) (Aw (cOp (Bg true) (cUn (By .tuple) (Aa 0)) (cUn (By .tuple) (Aa 1))))) (Cm (cC (.bool false))) Ck)
  (Cm (Hj (cOp (Bg false) (Gh (Aa 0)) (Gh (Aa 1))) (cUn Q6 (cLC [none,none] (A8q (Aa 0) (Aa 1)) (cgT 2 (Br (cgN 0) (Br (cgN 1) Gn))) Ax (cF pr (Ab (Aa 0) (Ab (Aa 1) Ag)))))))) Ck)
  (Ao (cIf (cOr (Aw (cOp (Fv false) (Aa 1) (cC (.none)))) (Aw (cUn (By .str) (Aa 1)))) (Cm (Hj (cOp (Bg false) (Aa 0) (Aa 1)) (cOp (Bg false) (cUn (By .str) (Aa 0)) (cUn (By .str) (Aa 1))))) Ck)
  (Ao (cIf (Aw (cUn (By .bool) (Aa 1))) (Cm (Hj (cUn (By .bool) (Aa 0)) (cOp (Bg false) (Aa 0) (Aa 1)))) Ck)
  (Cm (Hj (cUn (By .int) (Aa 0)) (Hj (Ly (cUn (By .bool) (Aa 0))) (cOp (Bg false) (Aa 0) (Aa 1))))))))
def Cz:Nat->List O->FR
 | 0=>λ_=>.bad
 | k+1=>Dj 2 2 (Ie (Cz k))
def Wm:Ev->SR :=
 (Ao
  (Bo (cC (.str " !\"#$&'()*+,-./0123456789:;<=>?@ABCDEFGHIJKLMNOPQRSTUVWXYZ[\\]^_`")) (cgN 1))
  (Ao (Bo (cOp Am (Aa 1) (cC (.str "abcdefghijklmnopqrstuvwxyz{|}~"))) (cgN 1))
  (Cm (cOp A1h (Aa 1) (cF Aj (Ab (Aa 0) (Ab (Gh (Aa 1)) Ag)))))))
def Kr:m8:=Dj 1 2 Wm
def T9:Ev->SR :=
 (Cm (cMt Dd Iv (cC (.str "")) (cLC [none,some 0] (G9 (cF Aj (Ab (Aa 0) (Ab (cC (.int 13)) Ag)))) (cgN 0) Ax (cF Kr (Ab (Aa 1) Ag)))))
def Dq:m8:=Dj 1 1 T9
def M5:Ev->SR :=
 (Ao
  (Bo (cC (.str "abcdefghijklmnopqrstuvwxyz")) (cgN 2))
  (Ao (Bo (Gr Ag) (cgN 3))
  (Ao (Nf (G9 (Aa 1)) (cgN 4) (Ao (Bo (cMt Dd Iv (cC (.str "")) (cLC [none,some 2,some 0] (G9 (cOp Am (cC (.int 1)) (cF Aj (Ab (Aa 0) (Ab (cC (.int 8)) Ag))))) (cgN 0) Ax (cOp A1h (Aa 1) (cF Aj (Ab (Aa 2) (Ab (cC (.int 26)) Ag)))))) (cgN 5))
  (cIf (Aw (cOp (Ms true) (Aa 5) (Aa 3))) (En (Hd (Aa 3) (Aa 5))) Ck)))
  (Cm (Aa 3)))))
def Hl:m8:=Dj 2 6 M5
def Kz:Ev->SR :=
 (Ao
  (Bo (cF Hl (Ab (Aa 0) (Ab (cC (.int 4)) Ag))) (cgN 1))
  (Ao (Bo (cSl Dy (El (Ab (El (Ab (cF Dq (Ab (Aa 0) Ag)) Ag)) (Ab (El (Ab (cC (.int 7)) Ag)) Ag))) cON (cOS (cOp Am (cUn Ua (cOp Tz (Gh (Aa 1)) (cC (.int 1)))) (cC (.int 1))))) (cgN 2))
  (Ao (Rh 3 4 (Ab (cUn Cq (cSl Dy (Aa 1) (cOS (cC (.int 1))) (cOS (cC (.int 2))))) (Ab (cUn Cq (cSl Dy (Aa 1) cON (cOS (cC (.int 1))))) Ag)))
  (Ao (cIf (Aw (cOp (Bg false) (Aa 3) (El Ag))) (Bo (El (Ab (El Ag) Ag)) (cgN 2)) Ck)
  (Ao (Bo (cUn Cq (cLC [none,some 0] (Bp (Aa 2)) (cgN 0) Ax (El (Ab (cF Dq (Ab (Aa 1) Ag)) Ag)))) (cgN 5))
  (Cm (El (Ab (cUn Cq (cSl Dy (Aa 1) (cOS (cC (.int 2))) (cOS (cC (.int 3))))) (Ab (Aa 3) (Ab (Aa 4) (Ab (Aa 2) (Ab (El (Ab (El (Ab (cOp Ap7 (El (Ab (cF Dq (Ab (Aa 0) Ag)) Ag)) (Gh (cSl Dy (Aa 1) (cOS (cC (.int 2))) (cOS (cC (.int 3)))))) (Ab (Aa 5) Ag))) Ag)) Ag))))))))))))
def Ks:m8:=Dj 1 6 Kz
def Jr:Ev->SR :=
 (Ao
  (Bo (cF Jy (Ab (Aa 6) Ag)) (cgN 7))
  (cIf (cOr (My (Aw (cF (Cz 6) (Ab (cF De (Ab (Aa 6) Ag)) (Ab (Aa 7) Ag))))) (My (Aw (cF (Cz 6) (Ab (cF Hz (Ab (Aa 7) Ag)) (Ab (Aa 6) Ag)))))) (Cm (cC (.bool false))) Ck))
def Vh:Ev->SR :=
 (Ao
  (Bo (cF Ri (Ab (Aa 0) (Ab (Aa 1) Ag))) (cgN 2))
  (Ao (Rh 3 4 (Ab (cF O2 (Ab (Aa 2) (Ab (cC (.bool false)) Ag))) (Ab (cF O2 (Ab (Aa 2) (Ab (cOp (Bg false) (cF Aj (Ab (Aa 2) (Ab (cC (.int 2)) Ag))) (cC (.int 0))) Ag))) Ag)))
  (Ao (Bo (cF Ks (Ab (Aa 2) Ag)) (cgN 5))
  (Ao (Nf (Bp (El (Ab (Aa 3) (Ab (Aa 4) (Ab (Aa 3) (Ab (cOp Am (cSl Dy (Aa 3) cON (cOS (cC (.int 4)))) (El (Ab (El Ag) Ag))) (Ab (Aa 5) Ag))))))) (cgN 6) Jr)
  (Ao (cIf (Aw (cOp (Bg true) (cOp (Bg false) (cF De (Ab (Aa 3) Ag)) (cF De (Ab (Aa 4) Ag))) (cOp (Bg false) (Aa 3) (Aa 4)))) (Cm (cC (.bool false))) Ck)
  (cIf (Qx (Aw (cOp (Bg true) (cOp Ar (Aa 3) (cC (.int 3))) (El Ag))) (Aw (cOp (Bg true) (cOp Ar (Aa 3) (cC (.int 4))) (El Ag)))) (Ao (Bo (cOp Ar (cOp Ar (Aa 3) (cC (.int 4))) (cC (.int 0))) (cgT 2 (Br (cgN 8) (Br (cgN 9) Gn))))
  (Ao (Bo (cOp Am (cSl Dy (Aa 3) cON (cOS (cC (.int 4)))) (El (Ab (cOp Am (El (Ab (El (Ab (Aa 8) (Ab (cOp Am (El (Ab (cC (.none)) Ag)) (cSl Dy (Aa 9) (cOS (cC (.int 1))) cON)) Ag))) Ag)) (cSl Dy (cOp Ar (Aa 3) (cC (.int 4))) (cOS (cC (.int 1))) cON)) Ag))) (cgN 10))
  (Ao (cIf (Aw (cOp (Bg true) (cOp (Bg false) (cF De (Ab (Aa 10) Ag)) (cF De (Ab (Aa 3) Ag))) (cOp (Fv false) (cOp Ar (Aa 9) (cC (.int 0))) (cC (.none))))) (Cm (cC (.bool false))) Ck)
  (cIf (My (Aw (cF (Cz 6) (Ab (cF Hz (Ab (cF De (Ab (Aa 10) Ag)) Ag)) (Ab (Aa 10) Ag))))) (Cm (cC (.bool false))) Ck)))) Ck))))))
def Ap4:Ev->SR :=
 (Ao
  (Nf (G9 (cOp Am (cC (.int 1)) (cOp A4x (cC (.int 12)) (Gh (Aa 0))))) (cgN 1) Vh)
  (Cm (cC (.bool true))))
def A5c:m8:=Dj 1 11 Ap4
abbrev sI (x:PyData):Option O:=some (.im x)
abbrev sT (x:List PyData):Option O:=some (.ls true x)
abbrev sFa (x:List PyData):Option O:=some (.ls false x)
local macro_rules | `(tactic| wp_walk using $ts,*)=>`(tactic| simp only [sI,sT,sFa,Ao,Bo,cgN,cgT,Br,Gn,Aa,cC,cOp,cUn,Gh,cF,cFz,dB,Lx,Tv,slots,pairsOf,ndB,Gx,Ag,Ab,cK,nrm,Eo,rdP,O.dat,O.flag,O.bor,frz,frzs,El,Gr,cIf,Aw,Ax,Qx,cOr,My,Hj,Yk,Ly,Hs,Cm,En,Ck,Ko,Hd,slL,Ke,Qn,Rh,Rg,cSl,cON,cOS,G9,cIn,R.bind_ok,R.toS_ok,Dj,Vf,resolve,Fe,Lj,U.opI,U.Qy,Tz,Xo,J4,Jv,K5,Ma,Fw,Il,Ag5,dC,bO,cL,cM,aK,bN,aH,cZ,List.replicate,cN,bx,bw,dD,bL,cJ,bG,dF,cW,aY,aW,dG,dH,dI,bR,dJ,dM,dN,b_,cV,cX,cA,List.dropLast,dO,dR,dU,dW,cB,dX,reduceCtorEq,Rz,Vi,V5,Vk,Wb,O8,Pk,P0,U.H9,aG,Nat.reduceAdd,Nat.reduceSub,Nat.reduceLeDiff,Nat.reduceLT,Nat.reduceEqDiff,Int.reduceAdd,Int.reduceSub,Int.reduceNeg,Int.reduceLT,Int.reduceLE,Int.reducePow,Int.reduceToNat,Int.reduceMul,dY,dZ,aO,bz,cY,$[$ts:term],*])
def Bx (n:Nat)(ds:w6):Prop:=∃x y z:Int,ds=[.int x,.int y,.int z]/\0<=x/\0<=y/\y<2 ^ 62/\0<=z/\z<=n
theorem Bx.mono (h:Bx n ds) (l:n<=m):Bx m ds:=by
 obtain⟨x,y,z,e,b,c,a,d,f⟩:=h
 exact⟨x,y,z,e,b,c,a,d,by omega⟩
theorem mod_lt {x m:Int}(h:0<m):0<=x % m/\x % m<m:=⟨Int.emod_nonneg _ (by omega),Int.emod_lt_of_pos _ h⟩
theorem A3v (h:-(2 ^ 64)<i/\i<2 ^ 64):Xv i j=true:=by
 unfold Xv;grind
theorem Ap0 (h:-(2 ^ 64)<j/\j<2 ^ 64):Xv i j=true:=by
 unfold Xv;grind
theorem A2h (h:0<j):Bk6 i j=true:=aq h
theorem B5z (h:0<j/\j<1073741824):A6j i j=true:=by
 unfold A6j;grind
theorem B6l:A1v 10 18=true:=by rfl
theorem B1b:A1v 10 12=true:=by rfl
theorem B0g:A1v 10 11=true:=by rfl
theorem Dv (hb:Bx n ds) (hn:n<2 ^ 40) (a:0<m) (h1:m<16000000) :
 ∃r ds',Bx (n+1) ds'/\0<=r/\r<m/\Aj [.ls true ds,.im (.int m)]=.ret (.im (.int r)) [.ls true ds',.im (.int m)]:=by
 obtain⟨x,y,z,rfl,d,e,b,g,z1⟩:=hb
 by_cases c:0<x
 ·refine⟨x % m,[.int (x / m),.int y,.int z],⟨_,_,_,rfl,Int.ediv_nonneg d (by omega),e,b,g,by omega⟩,(mod_lt a).1,(mod_lt a).2,?_⟩
  wp_walk using Aj,Te,Ar,aq c,A2h a,B5z ⟨a,(by omega:m<1073741824)⟩
 ·have h:=mod_lt (x:=(y+48271*(z+1))*(39373+(z+1))) (m:=2147483647) (by decide)
  generalize e1:(y+48271*(z+1))*(39373+(z+1)) % 2147483647=once at h
  have g2:=mod_lt (x:=once) (m:=40009) (by decide)
  have f:=mod_lt (x:=(once+(z+1))*(once % 40009+7)) (m:=2147483629) (by decide)
  generalize e2:(once+(z+1))*(once % 40009+7) % 2147483629=twice at f
  refine⟨(twice*48271+once) % 2147483587 / 64 % m,[.int x,.int y,.int (z+1)],⟨_,_,_,rfl,d,e,b,by omega,by omega⟩,(mod_lt a).1,(mod_lt a).2,?_⟩
  wp_walk using Aj,Te,Ar,Ld,Am,aB c,A2h a,B5z (i:=(twice*48271+once) % 2147483587) (j:=64) ⟨by decide,by decide⟩,A3v (i:=48271) (j:=z+1) ⟨by decide,by decide⟩,Ap0 (i:=y+48271*(z+1)) (j:=39373+(z+1)) ⟨by omega,by omega⟩,A2h (i:=(y+48271*(z+1))*(39373+(z+1))) (j:=2147483647) (by decide),e1,A2h (i:=once) (j:=40009) (by decide),Ap0 (i:=once+(z+1)) (j:=once % 40009+7) ⟨by omega,by omega⟩,A2h (i:=(once+(z+1))*(once % 40009+7)) (j:=2147483629) (by decide),e2,Ap0 _,A2h (j:=2147483587) (by decide)
theorem A4c {k:Nat}:∃i:Int,Hw [.sc ns,.im (.int k)]=.ret (.im (.int i)) [.sc ns,.im (.int k)]:=by
 by_cases c:k<ns.length
 ·refine⟨ns[k],?_⟩
  have e:atI ns (k:Int)=some ns[k]:=Pb (cj c)
  wp_walk using Hw,Mf,Qo,Ew,PyData.canLay0,PyData.depth,A2i,aq (show (k:Int)<ns.length by omega),e,aD
 ·refine⟨0,?_⟩
  wp_walk using Hw,Mf,Qo,Ew,PyData.canLay0,PyData.depth,A2i,aB (show ¬ (k:Int)<ns.length by omega),aD
theorem B3c {k:Nat}(hk:k<=63):∃ds,Bx 0 ds/\Ri [.sc ns,.im (.int k)]=.ret (.ls false ds) [.sc ns,.im (.int k)]:=by
 obtain⟨i,e⟩:=A4c (ns:=ns) (k:=k)
 have a:(0:Int)<=(if i<0 then -i else i):=by grind
 have c:=mod_lt (x:=i) (m:=2305843009213693951) (by decide)
 generalize ea:(if i<0 then -i else i)=ab at a
 have b:(0:Int)<=(if decide ((1000000000000000000:Int)<=ab)=true then 1 else 0)/\(if decide ((1000000000000000000:Int)<=ab)=true then (1:Int) else 0)<=1:=by omega
 generalize eo:(if decide ((1000000000000000000:Int)<=ab)=true then (1:Int) else 0)=on at b
 refine⟨[.int _,.int (i % 2305843009213693951+39373*k+17),.int 0],⟨_,_,_,rfl,Int.mul_nonneg a b.1,by omega,by omega,by omega,by omega⟩,?_⟩
 wp_walk using Ri,Ag2,e,A7c,ea,Ua,Ld,Am,eo,B6l,A2h (j:=2305843009213693951) (by decide),Ap0 (j:=on) ⟨by omega,by omega⟩,A3v _
theorem A5q (hb:Bx n ds) (hn:n<2 ^ 39) (j:0<=l) (h1:l<=7) (h2:l<=f) (t:f<=m) (o:7<=m) (p:m<1000) :
 ∃r ds',Bx (n+2) ds'/\l<=r/\r<=m/\Kd [.ls true ds,.im (.int l),.im (.int f),.im (.int m)]=.ret (.im (.int r)) [.ls true ds',.im (.int l),.im (.int f),.im (.int m)]:=by
 obtain⟨r,s,g,u,k,e⟩:=Dv (m:=8) hb (by omega) (by decide) (by decide)
 by_cases c:r=0
 ·subst c
  obtain⟨q,a,d,h,i,b⟩:=Dv (m:=m-6) g (by omega) (by omega) (by omega)
  refine⟨7+q,a,d,by omega,by omega,?_⟩
  wp_walk using Kd,Td,e,b,Bg,Ew,PyData.canLay0,PyData.depth,PyData.eqv,Am,aD,cD
 ·obtain⟨q,a,d,h,i,b⟩:=Dv (m:=f-l+1) g (by omega) (by omega) (by omega)
  refine⟨l+q,a,d,by omega,by omega,?_⟩
  wp_walk using Kd,Td,e,b,Bg,Ew,PyData.canLay0,PyData.depth,PyData.eqv,Am,aD,cH.mpr c
theorem A8x (hb:Bx n ds) (hn:n<2 ^ 39):∃(i:Int) (ds':w6),Bx (n+2) ds'/\VB (.int i)/\Eg [.ls true ds]=.ret (.im (.int i)) [.ls true ds']:=by
 obtain⟨r,d1,k,r0,r1,j⟩:=Dv (m:=9) hb (by omega) (by decide) (by decide)
 by_cases c:r=0
 ·subst c
  obtain⟨q,b,e,f,h,a⟩:=Dv (m:=4) k (by omega) (by decide) (by decide)
  obtain⟨d,s,g,_⟩:=Xh (l:=[PyData.int 999999999999,.int (-999999999999),.int 100000000000,.int 0]) (r:=q) f h
  have p:∃i:Int,d=.int i/\VB (.int i):=by
   simp only[au,bf,bh]at g
   rcases g with rfl | rfl | rfl | rfl <;> exact⟨_,rfl,by decide⟩
  obtain⟨i,rfl,o⟩:=p
  refine⟨i,b,e,o,?_⟩
  wp_walk using Eg,Nt,j,a,Bg,Ew,PyData.canLay0,PyData.depth,PyData.eqv,Am,aD,cD,B1b,B0g,Ar,s
 ·obtain⟨q,b,e,f,h,a⟩:=Dv (m:=25) k (by omega) (by decide) (by decide)
  refine⟨q-7,b,e,?_,?_⟩
  ·show (decide (-1000000000000<=q-7)&&decide _)=true
   rw[aq (by omega),aq (by omega)];rfl
  wp_walk using Eg,Nt,j,a,Bg,Ew,PyData.canLay0,PyData.depth,PyData.eqv,Am,aD,cH.mpr c
theorem A1y (hb:Bx n ds) (hn:n<2 ^ 39):∃(v:Vl) (ds':w6),Bx (n+2) ds'/\VB v/\Dc [.ls true ds]=.ret (.im v.d) [.ls true ds']:=by
 obtain⟨r,t,k,r0,r1,j⟩:=Dv (m:=9) hb (by omega) (by decide) (by decide)
 by_cases c4:r<4
 ·obtain⟨q,e,g,h,i,c⟩:=Dv (m:=13) k (by omega) (by decide) (by decide)
  refine⟨.int (q-3),e,g,?_,?_⟩
  ·show (decide (-1000000000000<=q-3)&&decide (q-3<=1000000000000))=true
   rw[aq (by omega),aq (by omega)];rfl
  wp_walk using Dc,Ka,j,c,Qo,A2i,Ew,PyData.canLay0,PyData.depth,aD,aq c4,Vl.d
 by_cases c5:r=4
 ·subst c5
  obtain⟨q,e,g,h,i,c⟩:=Dv (m:=4) k (by omega) (by decide) (by decide)
  obtain⟨d,s,f,_⟩:=Xh (l:=[PyData.int 999999999999,.int (-100000000000),.int 100,.int 10]) (r:=q) h i
  have p:∃v:Vl,d=v.d/\VB v:=by
   simp only[au,bf,bh]at f
   rcases f with rfl | rfl | rfl | rfl <;> exact⟨.int _,rfl,by decide⟩
  obtain⟨v,rfl,o⟩:=p
  refine⟨v,e,g,o,?_⟩
  wp_walk using Dc,Ka,j,c,Qo,A2i,Bg,Ew,PyData.canLay0,PyData.depth,PyData.eqv,aD,aB c4,cD,B1b,B0g,Ar,s
 by_cases c6:r=5
 ·subst c6
  refine⟨.non,t,k.mono (by omega),rfl,?_⟩
  wp_walk using Dc,Ka,j,Qo,A2i,Bg,Ew,PyData.canLay0,PyData.depth,PyData.eqv,aD,aB c4,cD,cH.mpr c5,Vl.d
 ·obtain⟨q,e,g,h,i,c⟩:=Dv (m:=15) k (by omega) (by decide) (by decide)
  obtain⟨d,s,f,_⟩:=Xh (l:=[PyData.str "",.str "a",.str "b",.str "B",.str "10",.str "9",.str "-",.str "a b",.str "it's",.str "\\",.str "/",.str "_",.str ":",.str "None",.str "ab"]) (r:=q) h i
  have p:∃v:Vl,d=v.d/\VB v:=by
   simp only[au,bf,bh]at f
   rcases f with rfl | rfl | rfl | rfl | rfl | rfl | rfl | rfl | rfl | rfl | rfl | rfl | rfl | rfl | rfl <;> exact⟨.str _,rfl,by decide⟩
  obtain⟨v,rfl,o⟩:=p
  refine⟨v,e,g,o,?_⟩
  wp_walk using Dc,Ka,j,c,Qo,A2i,Bg,Ew,PyData.canLay0,PyData.depth,PyData.eqv,aD,aB c4,cH.mpr c5,cH.mpr c6,Ar,s
noncomputable def names12:v_:=[Str.ofString "b",Str.ofString "a",Str.ofString "year",Str.ofString "z",Str.ofString "ab",Str.ofString "month",Str.ofString "aa",Str.ofString "quantity",Str.ofString "c",Str.ofString "town",Str.ofString "zz",Str.ofString "ba"]
theorem A3p {m:Nat}(h:m<=1000):(m:Int)<=16000000/\-16000000<=(m:Int):=by omega
theorem upN {n k a b c:Nat}(hn:n<a)(hk:k<=b)(h:a+b<=c):n+k<c:=aC (gk hn hk) h
theorem Bq1 {n:Nat}{r:Int}(a:0<=r)(h1:r<n):ixN n r=some r.toNat:=by
 unfold ixN;grind
theorem Jz : (Lp lo n).length=n:=by unfold Lp;grind
theorem N5 (h:(Lp lo n)[k]?=some d):d=.int (lo+k)/\k<n:=by
 unfold Lp at h
 grind
theorem Ak6 {α β:Type}(f:α->β):∀(l:List α) (j:Nat),(l.map f).eraseIdx j=(l.eraseIdx j).map f
 | [],j=>rfl
 | a::l,0=>rfl
 | a::l,j+1=>by rw[aK,iC,iC,aK,Ak6 f l j]
theorem Af9 {α:Type}:∀(l:List α) {j:Nat}(h:j<l.length),(l[j]::l.eraseIdx j).Perm l
 | a::l,0,h=>gP _
 | a::l,j+1,h=>by
  rw[iC,List.getElem_cons_succ]
  exact(List.Perm.swap a _ _).trans (List.Perm.cons a (Af9 l (by simpa using h)))
structure Names (ns:v_):Prop where
 nd:ns.Nodup
 sub:∀x∈ns,x∈names12
theorem Bj5 (hb:Bx n ds) (hn:n<2 ^ 38) (hm:m<=12) :
 ∃b ds',b.length=m/\Names b/\Bx (n+m) ds'/\J9 [.ls true ds,.im (.int m)]=.ret (.ls false (b.map PyData.str)) [.ls true ds',.im (.int m)]:=by
 have i:=Kc (g:=cgN 0) (ft:=Ax) (fe:=Ke (Aa 1) (cF Aj (Ab (Aa 2) (Ab (Gh (Aa 1)) Ag)))) (items:=Lp 0 m) (acc:=[]) (n:=0) (c:=[none,sT (names12.map PyData.str),sT ds])
  (P:=λk f c=>∃a h t b,c=[t,sT (a.map PyData.str),sT h]/\Bx (n+k) h/\f=b.map PyData.str/\(b++a).Perm names12/\b.length=k)
  ⟨names12,ds,none,[],rfl,hb,rfl,gP _,rfl⟩ (λk d f c C w=>by
   rw[aG]at w ⊢;obtain⟨a,h,t,b,rfl,o,rfl,j,l⟩:=w;obtain⟨rfl,hk⟩:=N5 C
   have ll:a.length+k=12:=by have:=j.length_eq;rw[aM,l]at this;have e:names12.length=12:=rfl;omega
   obtain⟨r,v,A,z,y,B⟩:=Dv (m:=(a.length:Int)) o (by omega) (by omega) (by omega)
   have u:r.toNat<a.length:=by omega
   have q:(a.map PyData.str)[r.toNat]?=some (.str a[r.toNat]):=by simp[u]
   have p:ixN a.length r=some r.toNat:=Bq1 z y
   refine⟨some (.str a[r.toNat]),[sI (.int (0+(k:Int))),sT ((a.eraseIdx r.toNat).map PyData.str),sT v],?_,a.eraseIdx r.toNat,v,_,b++[a[r.toNat]],rfl,A.mono (by omega),by simp,?_,by simp[l]⟩
   ·wp_walk using Gy,aj,B,p,q,Ak6,show a.length<=16000000 by omega
   ·rw[bW]
    exact(List.Perm.append_left b (Af9 a u)).trans j)
 obtain⟨f,cI,e,a,h,t,b,rfl,o,rfl,j,l⟩:=i;rw[aG,Jz]at o l
 have D:(b++a).Nodup:=j.nodup_iff.mpr (by decide)
 refine⟨b,h,l,⟨(List.nodup_append.mp D).1,λx q=>j.mem_iff.mp (gW _ q)⟩,o,?_⟩
 have s:cLC [none,some 2,some 0] (G9 (Aa 1)) (cgN 0) Ax (Ke (Aa 1) (cF Aj (Ab (Aa 2) (Ab (Gh (Aa 1)) Ag)))) [sT ds,sI (.int m),sFa (names12.map PyData.str)]=.ok (.o (.ls false (b.map PyData.str))) [sT h,sI (.int m),sFa (a.map PyData.str)] :=
  Gs (ds:=Lp 0 m) (c1:=[sT ds,sI (.int m),sFa _]) (by wp_walk using A3p (ao hm (by decide)),bZ) (by rw[Jz];exact ao hm (by decide)) e (by wp_walk using aO)
 unfold J9 U0;simp only[names12,aK,bN]at s
 wp_walk using s
theorem A7z {k:Nat}{vs:j4} (h:v∉vs) (a:vs.Nodup):(vs++[v]).Nodup:=by
 grind
theorem Br2 (hb:Bx n ds) (hn:n<2 ^ 38) (hm:m<=1000) :
 ∃a ds',VBs a/\a.Nodup/\a.length<=m/\(0<m->a≠[])/\Bx (n+2*m) ds'/\Mq [.ls true ds,.im (.int m)]=.ret (.ls false (a.map Vl.d)) [.ls true ds',.im (.int m)]:=by
 have i:=K7 (g:=cgN 3) (body:=Ao (Bo (cF Dc (Ab (Aa 0) Ag)) (cgN 4)) (cIf (Aw (cOp (Ms true) (Aa 4) (Aa 2))) (En (Hd (Aa 2) (Aa 4))) Ck)) (items:=Lp 0 m) (n:=0) (c:=[sT ds,sI (.int m),sFa [],none,none])
  (P:=λk c=>∃j a x y,c=[sT j,sI (.int m),sFa (a.map Vl.d),x,y]/\Bx (n+2*k) j/\VBs a/\a.Nodup/\a.length<=k/\(0<k->a≠[]))
  ⟨ds,[],none,none,rfl,hb,(λv b=>by cases b),eQ,ak _,λh=>absurd h (by decide)⟩ (λk d c B s=>by
   rw[aG]at s ⊢;obtain⟨j,a,x,y,rfl,p,b,o,l,f⟩:=s;obtain⟨rfl,w⟩:=N5 B
   obtain⟨v,q,t,r,A⟩:=A1y p (upN hn (du 2 (ao (cR w) hm)) (by decide))
   by_cases c:v∈a
   ·refine⟨[sT q,sI (.int m),sFa (a.map Vl.d),sI (.int (0+(k:Int))),sI v.d],.inl ?_,q,a,_,_,rfl,t,b,o,gf l,λ_ z=>by rw[z]at c;cases c⟩
    wp_walk using A,A4p r b,aq c
   ·refine⟨[sT q,sI (.int m),sFa ((a++[v]).map Vl.d),sI (.int (0+(k:Int))),sI v.d],.inl ?_,q,a++[v],_,_,rfl,t,VBs.app b (λu C=>by rw[az.mp C];exact r),A7z (k:=k) c o,by rw[aM,fP];omega,λ_=>by simp⟩
    wp_walk using A,A4p r b,aB c,aj,show a.length<16000000 from bu l (aC w (ao hm (by decide))),aV)
 obtain⟨c',e,j,a,x,y,rfl,p,b,o,l,f⟩:=i;rw[aG,Jz]at p l f
 refine⟨a,j,b,o,l,f,p,?_⟩
 unfold Mq Wl
 wp_walk using Nf,A3p hm,bZ,e
theorem Bi9 {n:Nat}{ds:w6}{vs:j4}{w:Nat}(hb:Bx n ds)(hn:n<2 ^ 38)(hw:w<=1000)(hv:VBs vs)(j:vs≠[])(hl:vs.length<=1000) :
 ∃
  a f t,a.length=w/\VBs a/\(∀u∈a,u∈vs)/\Bx (n+w) f /\
  Gf (cgN 0) Ax (cOp Ar (Aa 1) (cF Aj (Ab (Aa 2) (Ab (Gh (Aa 1)) Ag)))) (Lp 0 w) [] [none,sT (vs.map Vl.d),sT ds]=.ok (a.map Vl.d) [t,sT (vs.map Vl.d),sT f]:=by
 have i:=Kc (g:=cgN 0) (ft:=Ax) (fe:=cOp Ar (Aa 1) (cF Aj (Ab (Aa 2) (Ab (Gh (Aa 1)) Ag)))) (items:=Lp 0 w) (acc:=[]) (n:=0) (c:=[none,sT (vs.map Vl.d),sT ds])
  (P:=λk b c=>∃f t a,c=[t,sT (vs.map Vl.d),sT f]/\Bx (n+k) f/\b=a.map Vl.d/\a.length=k/\VBs a/\∀u∈a,u∈vs)
  ⟨ds,none,[],rfl,hb,rfl,rfl,(λv hv=>by cases hv),λv hv=>by cases hv⟩ (λk d b c B s=>by
   rw[aG]at s ⊢;obtain⟨f,t,a,rfl,p,rfl,q,y,z⟩:=s;obtain⟨rfl,o⟩:=N5 B;have C:0<vs.length:=List.length_pos_iff.mpr j
   obtain⟨r,D,E,A,r1,G⟩:=Dv (m:=(vs.length:Int)) p (upN hn (ao (cR o) hw) (by decide)) (Int.natCast_pos.mpr C) (Int.ofNat_lt.mpr (bu hl (by decide)))
   obtain⟨x,F,H,_⟩:=Xh (l:=vs.map Vl.d) (r:=r) A (by simp_all)
   obtain⟨v,I,rfl⟩:=aA.mp H
   refine⟨some v.d,[sI (.int (0+k)),some _,some _],?_,D,_,a++[v],rfl,E,by simp,by grind,VBs.app y λu h=>by grind,λu h=>by
    grind⟩
   wp_walk using Gy,aj,G,Ar,F)
 obtain⟨b,cI,e,f,t,a,rfl,p,rfl,q,y,z⟩:=i;rw[Jz]at p q
 grind
theorem Aj5 {n:Nat}{ds:w6}{w m:Nat}(hb:Bx n ds)(hn:n<2 ^ 37)(hw:w<=100)(hm:m<=1000) :
 ∃(f:k_) (ds':w6),f.Nodup/\(∀t∈f,t.length=w/\VBs t)/\f.length<=m/\Bx (n+12+w*m) ds'/\Jh [.ls true ds,.im (.int w),.im (.int m)]=.ret (.ls false (f.map tD)) [.ls true ds',.im (.int w),.im (.int m)]:=by
 obtain⟨i,E,F,s,H,C,Q,D⟩:=Br2 (m:=6) hb (gC hn (by decide)) (by decide)
 have D:Mq [.ls true ds,.im (.int 6)]=.ret (.ls false (i.map Vl.d)) [.ls true E,.im (.int 6)]:=D
 have z:=K7 (g:=cgN 5) (body:=Ao (Bo (cUn Cq (cLC [none,some 3,some 0] (G9 (Aa 1)) (cgN 0) Ax (cOp Ar (Aa 1) (cF Aj (Ab (Aa 2) (Ab (Gh (Aa 1)) Ag)))))) (cgN 6)) (cIf (Aw (cOp (Ms true) (Aa 6) (Aa 4))) (En (Hd (Aa 4) (Aa 6))) Ck)) (items:=Lp 0 m) (n:=0)
  (c:=[sT E,sI (.int w),sI (.int m),sFa (i.map Vl.d),sFa [],none,none])
  (P:=λk c=>∃l f x y,c=[sT l,sI (.int w),sI (.int m),sFa (i.map Vl.d),sFa (f.map tD),x,y]/\Bx (n+12+w*k) l/\f.Nodup/\(∀t∈f,t.length=w/\VBs t)/\f.length<=k)
  ⟨E,[],none,none,rfl,Q,eQ,(λv F=>by cases F),ak _⟩ (λk d c N J=>by
   rw[aG]at J ⊢;obtain⟨l,f,x,y,rfl,B,s,o,q⟩:=J;obtain⟨rfl,L⟩:=N5 N;have r:w*k<=100*1000:=gj hw (cR (aC L hm))
   obtain⟨j,p,t,R,G,_,S,O⟩:=Bi9 (w:=w) (vs:=i) B (upN (upN hn (ak 12) (show 2 ^ 37+12<=2 ^ 37+100 by decide)) r (by decide)) (ao hw (by decide)) F (C (by decide)) (ao H (by decide))
   have K:cLC [none,some 3,some 0] (G9 (Aa 1)) (cgN 0) Ax (cOp Ar (Aa 1) (cF Aj (Ab (Aa 2) (Ab (Gh (Aa 1)) Ag)))) [sT l,sI (.int w),sI (.int m),sFa (i.map Vl.d),sFa (f.map tD),sI (.int (0+(k:Int))),y]=.ok (.o (.ls false (j.map Vl.d))) [sT p,sI (.int w),sI (.int m),sFa (i.map Vl.d),sFa (f.map tD),sI (.int (0+(k:Int))),y] :=
    Gs (ds:=Lp 0 w) (c1:=[sT l,sI (.int w),sI (.int m),sFa (i.map Vl.d),sFa (f.map tD),sI (.int (0+(k:Int))),y]) (by wp_walk using A3p (m:=w) (ao hw (by decide)),bZ) (by rw[Jz];omega) O (by wp_walk using aO)
   have A:Bx (n+12+w*(k+1)) p:=S.mono (fM (d_ _ _ _));have M:PyData.tuple (j.map Vl.d)=tD j:=rfl
   by_cases c:j∈f
   ·refine⟨[sT p,sI (.int w),sI (.int m),sFa (i.map Vl.d),sFa (f.map tD),sI (.int (0+(k:Int))),sI (tD j)],.inl ?_,p,f,_,_,rfl,A,s,o,gf q⟩
    wp_walk using K,Cq,M,Bk2 G (λu I=>(o u I).2),aq c
   ·refine⟨[sT p,sI (.int w),sI (.int m),sFa (i.map Vl.d),sFa ((f++[j]).map tD),sI (.int (0+(k:Int))),sI (tD j)],.inl ?_,p,f++[j],_,_,rfl,A,?_,λt h=>?_,by rw[aM,fP];exact fL q⟩
    ·wp_walk using K,Cq,M,Bk2 G (λu I=>(o u I).2),aB c,aj,show f.length<16000000 from bu q (aC L (ao hm (by decide))),aV
    ·rw[gm]
     exact⟨s,by simp,λa T b hb e=>by rw[az.mp hb]at e;exact c (e▸T)⟩
    ·rcases aP.mp h with h | h
     ·exact o t h
     ·rw[az.mp h];exact⟨R,G⟩)
 obtain⟨c',e,l,f,x,y,rfl,B,s,o,q⟩:=z;rw[aG,Jz]at B q
 refine⟨f,l,s,o,q,B,?_⟩
 unfold Jh Q9
 wp_walk using D,Nf,A3p hm,bZ,e
structure Wd where
 key:v_
 names:v_
 vals:v_
 heads:k_
 rows:List (List Vl×List (Option (j4)))
noncomputable def nD (ns:v_):o5:=.tuple (ns.map PyData.str)
def Ba:Option (j4)->o5
 | none=>.none
 | some c=>tD c
def Dz (r:List Vl×List (Option (j4))):o5:=.tuple [tD r.1,.tuple (r.2.map Ba)]
def Wd.ps (w:Wd):w6:=[nD w.key,nD w.names,nD w.vals,.tuple (w.heads.map tD),.tuple (w.rows.map Dz)]
def Wd.d (w:Wd):o5:=.tuple w.ps
def Mv (n:Nat)(c:Option (j4)):Prop:=∀vs,c=some vs->vs.length=n/\VBs vs
structure A1w (k h v:Nat) (r:List Vl×List (Option (j4))):Prop where
 plen:r.1.length=k
 part:VBs r.1
 clen:r.2.length=h
 cells:∀c∈r.2,Mv v c
structure Wd.Ok (w:Wd):Prop where
 nms:Names (w.key++w.names++w.vals)
 klen:w.key.length<=2
 nlen:w.names.length<=2
 vlen:w.vals.length<=5
 vpos:1<=w.vals.length
 heads:∀h∈w.heads,h.length=w.names.length/\VBs h
 hnd:w.heads.Nodup
 hlen:w.heads.length<=12
 rows:∀r∈w.rows,A1w w.key.length w.heads.length w.vals.length r
 rnd:(w.rows.map (·.1)).Nodup
 rlen:w.rows.length<=12
def Wd.Num (w:Wd):Prop:=∀r∈w.rows,∀c∈r.2,∀vs,c=some vs->∀v∈vs,∃i,v=Vl.int i
theorem A4e {b:Nat}:cutD ds none (some (b:Int))=ds.take b:=by
 unfold cutD;rw[HT.A1k,HT.Zg]
 grind
theorem Bi8 {ds:w6}{a b:Nat}(h:a<=b)(hb:b<=ds.length):cutD ds (some (a:Int)) (some (b:Int))=(ds.drop a).take (b-a):=by
 unfold cutD;rw[HT.Zg,HT.Zg,fD hb,fD (ao h hb)]
theorem By7 {n:Nat}{ds:w6}{items:w6}{num:Bool}(hb:Bx n ds)(hn:n<2 ^ 38)(hl:items.length<=1000) :
 ∃
  a f t,a.length=items.length/\VBs a/\(num=true->∀u∈a,∃i,u=Vl.int i)/\Bx (n+2*items.length) f /\
  Gf (cgN 0) Ax (Hs (Aw (Aa 1)) (cF Eg (Ab (Aa 2) Ag)) (cF Dc (Ab (Aa 2) Ag))) items [] [none,sI (.bool num),sT ds]=.ok (a.map Vl.d) [t,sI (.bool num),sT f]:=by
 have p:=Kc (g:=cgN 0) (ft:=Ax) (fe:=Hs (Aw (Aa 1)) (cF Eg (Ab (Aa 2) Ag)) (cF Dc (Ab (Aa 2) Ag))) (items:=items) (acc:=[]) (n:=0) (c:=[none,sI (.bool num),sT ds])
  (P:=λk e c=>∃f t a,c=[t,sI (.bool num),sT f]/\k<=items.length/\Bx (n+2*k) f/\e=a.map Vl.d/\a.length=k/\VBs a/\(num=true->∀u∈a,∃i,u=Vl.int i))
  ⟨ds,none,[],rfl,aD _,hb,rfl,rfl,(λv o=>by cases o),λ_ v o=>by cases o⟩ (λk d e c hd s=>by
   rw[aG]at s ⊢;obtain⟨f,t,a,rfl,x,q,rfl,r,w,hs⟩:=s
   have b:k<items.length:=by
    grind
   cases num with
   | true =>
    obtain⟨i,j,m,y,l⟩:=A8x q (upN hn (du 2 (ao (cR b) hl)) (by decide))
    refine⟨some (.int i),[sI d,sI (.bool true),sT j],?_,j,_,a++[.int i],rfl,b,m,by simp[Vl.d],by simp[r],VBs.app w λu h=>by grind,λ_ u h=>by
     grind⟩
    wp_walk using l
   | false =>
    obtain⟨v,j,m,y,l⟩:=A1y q (upN hn (du 2 (ao (cR b) hl)) (by decide))
    refine⟨some v.d,[sI d,some _,some _],?_,j,_,a++[v],rfl,b,m,by simp,by simp[r],VBs.app w λu h=>by grind,λz=>nomatch z⟩
    wp_walk using l)
 grind
def isL (o:O)(ds:w6):Prop:=o=.ls false ds\/o=.im (.list ds)
theorem Bs5 {n:Nat}{ds:w6}{num:Bool}{s2 s3 s4 s5 s6 s7 o8 o9 s11 s12:m_}{often:Int}{vals:w6}{heads:k_}(hb:Bx n ds)(hn:n<2 ^ 37)(L:0<often)(h1:often<1000)(hv:vals.length<=5)(E:heads.length<=12){x14 x15:m_}
 (Q:∃o,o8=some o/\isL o vals) :
 ∃
  (a:List (Option (j4))) (l:w6) (o8' j b:m_),a.length=heads.length/\(∀c∈a,Mv vals.length c)/\(num=true->∀c∈a,∀p,c=some p->∀v∈p,∃i,v=Vl.int i)/\Bx (n+11*heads.length) l/\(∃o,o8'=some o/\isL o vals) /\
  forL (cgN 14) (Ao (Bo (cUn Cq (cLC [none,some 1,some 0] (Bp (Aa 8)) (cgN 0) Ax (Hs (Aw (Aa 1)) (cF Eg (Ab (Aa 2) Ag)) (cF Dc (Ab (Aa 2) Ag))))) (cgN 15))
   (En (Hd (Aa 13) (Hs (Aw (cOp (Bg false) (cF Aj (Ab (Aa 0) (Ab (Aa 10) Ag))) (cC (.int 0)))) (cC (.none)) (Aa 15))))) (heads.map tD)
   [sT ds,sI (.bool num),s2,s3,s4,s5,s6,s7,o8,o9,sI (.int often),s11,s12,sFa [],x14,x15] =
  .nx [sT l,sI (.bool num),s2,s3,s4,s5,s6,s7,o8',o9,sI (.int often),s11,s12,sFa (a.map Ba),j,b]:=by
 have y:=K7 (g:=cgN 14) (body:=Ao (Bo (cUn Cq (cLC [none,some 1,some 0] (Bp (Aa 8)) (cgN 0) Ax (Hs (Aw (Aa 1)) (cF Eg (Ab (Aa 2) Ag)) (cF Dc (Ab (Aa 2) Ag))))) (cgN 15))
  (En (Hd (Aa 13) (Hs (Aw (cOp (Bg false) (cF Aj (Ab (Aa 0) (Ab (Aa 10) Ag))) (cC (.int 0)))) (cC (.none)) (Aa 15))))) (items:=heads.map tD) (n:=0)
  (c:=[sT ds,sI (.bool num),s2,s3,s4,s5,s6,s7,o8,o9,sI (.int often),s11,s12,sFa [],x14,x15])
  (P:=λk c=>∃l C j b a,c=[sT l,sI (.bool num),s2,s3,s4,s5,s6,s7,C,o9,sI (.int often),s11,s12,sFa (a.map Ba),j,b]/\k<=heads.length/\Bx (n+11*k) l/\(∃o,C=some o/\isL o vals) /\
   a.length=k/\(∀c∈a,Mv vals.length c)/\(num=true->∀c∈a,∀p,c=some p->∀v∈p,∃i,v=Vl.int i))
  ⟨ds,o8,_,_,[],rfl,aD _,hb,Q,rfl,(λc s=>by cases s),λ_ c s=>by cases s⟩ (λk d c K J=>by
   rw[aG]at J ⊢;obtain⟨l,C,j,b,a,rfl,S,D,⟨o,rfl,F⟩,u,s,f⟩:=J
   have x:k<heads.length:=by
    rcases fV k heads.length with q | q
    ·exact q
    ·rw[cu (by rw[aj];exact q)]at K;cases K
   obtain⟨w,V,t,U,W,M,N,R⟩:=By7 (items:=vals) (num:=num) D (upN hn (du 11 (ao (cR x) E)) (by decide)) (ao hv (by decide))
   have G:cLC [none,some 1,some 0] (Bp (Aa 8)) (cgN 0) Ax (Hs (Aw (Aa 1)) (cF Eg (Ab (Aa 2) Ag)) (cF Dc (Ab (Aa 2) Ag)))
    [sT l,sI (.bool num),s2,s3,s4,s5,s6,s7,some o,o9,sI (.int often),s11,s12,sFa (a.map Ba),sI d,b] =
    .ok (.o (.ls false (w.map Vl.d))) [sT V,sI (.bool num),s2,s3,s4,s5,s6,s7,sI (.list vals),o9,sI (.int often),s11,s12,sFa (a.map Ba),sI d,b]:=by
    refine Gs (ds:=vals) (c1:=[sT l,sI (.bool num),s2,s3,s4,s5,s6,s7,sI (.list vals),o9,sI (.int often),s11,s12,sFa (a.map Ba),sI d,b]) ?_ (ao hv (by decide)) R (by wp_walk using aO)
    rcases F with rfl | rfl <;> wp_walk using Bp
   obtain⟨r,A,T,r0,r1,I⟩:=Dv (m:=often) N (upN (upN hn (du 11 (ao (cR x) E)) (show 2 ^ 37+11*12<=2 ^ 38 by decide)) (du 2 hv) (by decide)) L (Int.lt_trans h1 (by decide))
   have H:PyData.tuple (w.map Vl.d)=tD w:=rfl;have B:Bx (n+11*(k+1)) A:=T.mono (bT (fL (du 2 hv)) (n+11*k))
   by_cases c:r=0
   ·subst c
    refine⟨[sT A,sI (.bool num),s2,s3,s4,s5,s6,s7,sI (.list vals),o9,sI (.int often),s11,s12,sFa ((a++[none]).map Ba),sI d,sI (tD w)],.inl ?_,A,_,_,_,a++[none],rfl,x,B,⟨_,rfl,.inr rfl⟩,by simp[u],λc h=>?_,λz c h p e=>?_⟩
    ·wp_walk using G,Cq,H,I,Bg,Ew,PyData.canLay0,PyData.depth,PyData.eqv,aD,cD,aj,show a.length<16000000 from u▸aC x (ao E (by decide)),aV,Ba
    ·rcases aP.mp h with h | h
     ·exact s c h
     ·rw[az.mp h];exact λp e=>nomatch e
    ·rcases aP.mp h with h | h
     ·exact f z c h p e
     ·rw[az.mp h]at e;cases e
   ·refine⟨[sT A,sI (.bool num),s2,s3,s4,s5,s6,s7,sI (.list vals),o9,sI (.int often),s11,s12,sFa ((a++[some w]).map Ba),sI d,sI (tD w)],.inl ?_,A,_,_,_,a++[some _],rfl,x,B,⟨_,rfl,.inr rfl⟩,by simp[u],λc h=>?_,λz c h p e=>?_⟩
    ·wp_walk using G,Cq,H,I,Bg,Ew,PyData.canLay0,PyData.depth,PyData.eqv,aD,cH.mpr c,aj,show a.length<16000000 from u▸aC x (ao E (by decide)),aV,Ba
    ·rcases aP.mp h with h | h
     ·exact s c h
     ·rw[az.mp h];exact λp e=>by cases e;exact⟨U,W⟩
    ·rcases aP.mp h with h | h
     ·exact f z c h _ e
     ·rw[az.mp h]at e;cases e;exact M z)
 obtain⟨c',e,l,C,j,b,a,rfl,_,D,F,u,s,f⟩:=y;rw[aG,aj]at D u;exact⟨a,l,C,j,b,u,s,f,D,F,e⟩
abbrev A9y:Ev->SR:=Ao (Bo (cUn Cq (cLC [none,some 1,some 0] (Bp (Aa 8)) (cgN 0) Ax (Hs (Aw (Aa 1)) (cF Eg (Ab (Aa 2) Ag)) (cF Dc (Ab (Aa 2) Ag))))) (cgN 15))
 (En (Hd (Aa 13) (Hs (Aw (cOp (Bg false) (cF Aj (Ab (Aa 0) (Ab (Aa 10) Ag))) (cC (.int 0)))) (cC (.none)) (Aa 15))))
abbrev Ad1:Ev->SR:=Ao (Bo (Gr Ag) (cgN 13)) (Ao (Nf (Bp (Aa 9)) (cgN 14) A9y) (En (Hd (Aa 11) (El (Ab (Aa 12) (Ab (cUn Cq (Aa 13)) Ag))))))
theorem Bn2 {n:Nat}{ds:w6}{num:Bool}{s2 s3 s4 s5 s6 s7 o8 o9:m_}{often:Int}{vals:w6}{heads parts:k_}(hb:Bx n ds)(hn:n<2 ^ 36)(h0:0<often)(h1:often<1000)(hv:vals.length<=5)(hh:heads.length<=12)(hp:parts.length<=12)
 (h8:∃o,o8=some o/\isL o vals) (h9:∃o,o9=some o/\isL o (heads.map tD)) {x12 x13 x14 x15:m_} {kl:Nat} (hpk:∀t∈parts,t.length=kl/\VBs t) :
 ∃
  (rows:List (List Vl×List (Option (j4)))) (d1:w6) (p8 p9 y12 y13 y14 y15:m_),rows.map (·.1)=parts/\(∀r∈rows,A1w kl heads.length vals.length r)/\(num=true->∀r∈rows,∀c∈r.2,∀vs,c=some vs->∀v∈vs,∃i,v=Vl.int i)/\Bx (n+132*parts.length) d1/\(∃o,p8=some o/\isL o vals)/\(∃o,p9=some o/\isL o (heads.map tD)) /\
  forL (cgN 12) Ad1 (parts.map tD) [sT ds,sI (.bool num),s2,s3,s4,s5,s6,s7,o8,o9,sI (.int often),sFa [],x12,x13,x14,x15] =
  .nx [sT d1,sI (.bool num),s2,s3,s4,s5,s6,s7,p8,p9,sI (.int often),sFa (rows.map Dz),y12,y13,y14,y15]:=by
 have loop:=K7 (g:=cgN 12) (body:=Ad1) (items:=parts.map tD) (n:=0) (c:=[sT ds,sI (.bool num),s2,s3,s4,s5,s6,s7,o8,o9,sI (.int often),sFa [],x12,x13,x14,x15])
  (P:=λk c=>∃d1 p8 p9 y12 y13 y14 y15 rows,c=[sT d1,sI (.bool num),s2,s3,s4,s5,s6,s7,p8,p9,sI (.int often),sFa (rows.map Dz),y12,y13,y14,y15]/\k<=parts.length/\Bx (n+132*k) d1/\(∃o,p8=some o/\isL o vals)/\(∃o,p9=some o/\isL o (heads.map tD)) /\
   rows.map (·.1)=parts.take k/\(∀r∈rows,A1w kl heads.length vals.length r)/\(num=true->∀r∈rows,∀c∈r.2,∀vs,c=some vs->∀v∈vs,∃i,v=Vl.int i))
  ⟨ds,o8,o9,_,_,_,_,[],rfl,aD _,hb,h8,h9,rfl,(λr hr=>by cases hr),λ_ r hr=>by cases hr⟩ (λk d c hd hP=>by
   rw[aG]at hP ⊢;obtain⟨d1,p8,p9,y12,y13,y14,y15,rows,rfl,hk0,b1,h8,⟨o,rfl,ho⟩,hr,hro,hnum⟩:=hP;obtain⟨t,ht,e⟩:=Q8 hd;subst e;have hk:k<parts.length:=(bB.mp ht).1
   obtain⟨cells,d2,q8,z14,z15,cl,cc,cn,b2,g8,e2⟩:=Bs5 (num:=num) (s2:=s2) (s3:=s3) (s4:=s4) (s5:=s5) (s6:=s6) (s7:=s7) (o8:=p8) (o9:=sI (.list (heads.map tD))) (s11:=sFa (rows.map Dz)) (s12:=sI (tD t)) (x14:=y14) (x15:=y15) (heads:=heads) b1 (by omega) h0 h1 hv hh h8
   have rl:rows.length=k:=by have:=bj List.length hr;rw[aj,bK]at this;exact this.trans (fD hk0)
   refine⟨[sT d2,sI (.bool num),s2,s3,s4,s5,s6,s7,q8,sI (.list (heads.map tD)),sI (.int often),sFa ((rows++[(t,cells)]).map Dz),sI (tD t),sFa (cells.map Ba),z14,z15],.inl ?_,d2,q8,_,_,_,_,_,rows++[(t,cells)],rfl,hk,b2.mono (by omega),g8,⟨_,rfl,.inr rfl⟩,?_,λr h=>?_,λz r h=>?_⟩
   ·have en:(rows.map Dz).length<16000000:=by rw[aj,rl];exact aC hk (ao hp (by decide))
    rcases ho with rfl | rfl <;> wp_walk using Ad1,Nf,Bp,e2,Cq,en,aV,Dz
   ·rw[aV,hr,aK,bN,List.take_succ,ht];rfl
   ·rcases aP.mp h with h | h
    ·exact hro r h
    ·rw[az.mp h]
     have:=hpk t (eG ht);exact⟨this.1,this.2,cl,cc⟩
   ·rcases aP.mp h with h | h
    ·exact hnum z r h
    ·rw[az.mp h];exact cn z)
 obtain⟨c',e,d1,p8,p9,y12,y13,y14,y15,rows,rfl,_,b1,h8,h9,hr,hro,hnum⟩:=loop;rw[aG,aj]at b1 hr;rw[fX]at hr;exact⟨rows,d1,p8,p9,y12,y13,y14,y15,hr,hro,hnum,b1,h8,h9,e⟩
theorem Ql {ns:v_}{a:Nat}:(ns.map PyData.str).take a=(ns.take a).map PyData.str:=List.map_take.symm
theorem Vs {ns:v_}{a:Nat}:(ns.map PyData.str).drop a=(ns.drop a).map PyData.str:=List.map_drop.symm
theorem Names.sublist {a b:v_}(h:Names b)(s:a.Sublist b):Names a:=⟨h.nd.sublist s,λx c=>h.sub x (s.subset c)⟩
theorem Bf2 {o:O}{ds:w6}{i:Nat}{c:Ev}(h:isL o ds)(hc:c[i]?=some (some o)):cUn Cq (Aa i) c=.ok (.o (.im (.tuple ds))) c:=by
 rcases h with rfl | rfl <;> wp_walk using hc,Cq
theorem B7l {b d e f g:m7}{c:Ev}{h a j k i:o5}(h1:b c=.ok (.o (.im h)) c)(h2:d c=.ok (.o (.im a)) c)(m:e c=.ok (.o (.im j)) c)(n:f c=.ok (.o (.im k)) c)(l:g c=.ok (.o (.im i)) c) :
 Cm (El (Ab b (Ab d (Ab e (Ab f (Ab g Ag)))))) c=.rt (.o (.im (.tuple [h,a,j,k,i]))) c:=by
 wp_walk using h1,h2,m,n,l
theorem A7b {n:Nat}{ds:w6}{num:Bool}(hb:Bx n ds)(hn:n<2 ^ 35) :
 ∃(W:Wd) (ds':w6),W.Ok/\(num=true->W.Num)/\Bx (n+3000) ds'/\O2 [.ls true ds,.im (.bool num)]=.ret (.im W.d) [.ls true ds',.im (.bool num)]:=by
 have u:∀k,k<=5000->n+k<2 ^ 40:=λk F=>aC (gk hn F) (by decide)
 have K:∀k,k<=5000->n+k<2 ^ 39:=λk F=>aC (gk hn F) (by decide)
 have J:∀k,k<=5000->n+k<2 ^ 37:=λk F=>aC (gk hn F) (by decide)
 have V:∀k,k<=5000->n+k<2 ^ 36:=λk F=>aC (gk hn F) (by decide)
 obtain⟨o,d1,L,nms,b1,X⟩:=Bj5 (m:=9) hb (gC hn (by decide)) (by decide)
 have X:J9 [.ls true ds,.im (.int 9)]=.ret (.ls false (o.map PyData.str)) [.ls true d1,.im (.int 9)]:=X
 obtain⟨a,d2,b2,a0,a1,e2⟩:=Dv (m:=3) b1 (u 9 (by decide)) (by decide) (by decide)
 obtain⟨b,d3,b3,bb0,T,e3⟩:=Dv (m:=3) b2 (u 10 (by decide)) (by decide) (by decide)
 obtain⟨c,d4,b4,c0,c1,e4⟩:=Dv (m:=2) b3 (u 11 (by decide)) (by decide) (by decide)
 obtain⟨q,d5,b5,q0,q1,e5⟩:=Dv (m:=8) b4 (u 12 (by decide)) (by decide) (by decide)
 obtain⟨a,rfl⟩:=bQ a0;obtain⟨b,rfl⟩:=bQ bb0;have G:a<=2:=gQ.mp (Int.le_of_lt_add_one a1);have y:b<=2:=gQ.mp (Int.le_of_lt_add_one T)
 have hc:∃(v:Nat) (E:w6),1<=v/\v<=5/\Bx (n+14) E /\
  cIf (Aw (cOp (Bg false) (cF Aj (Ab (Aa 0) (Ab (cC (.int 8)) Ag))) (cC (.int 0)))) (Bo (cOp Am (cC (.int 3)) (cF Aj (Ab (Aa 0) (Ab (cC (.int 3)) Ag)))) (cgN 5)) Ck
   [sT d4,sI (.bool num),sFa (o.map PyData.str),sI (.int a),sI (.int b),sI (.int (1+c)),none,none,none,none,none,none,none,none,none,none] =
  .nx [sT E,sI (.bool num),sFa (o.map PyData.str),sI (.int a),sI (.int b),sI (.int (v:Int)),none,none,none,none,none,none,none,none,none,none]:=by
  by_cases z:q=0
  ·subst z
   obtain⟨k,E,Z,k0,k1,e6⟩:=Dv (m:=3) b5 (u 13 (by decide)) (by decide) (by decide)
   refine⟨(3+k).toNat,E,by omega,by omega,Z.mono (ak _),?_⟩
   wp_walk using e5,e6,Bg,Ew,PyData.canLay0,PyData.depth,PyData.eqv,aD,cD,Am,iw (show 0<=3+k by omega)
  ·refine⟨(1+c).toNat,d5,by omega,by omega,b5.mono (fK _),?_⟩
   wp_walk using e5,Bg,Ew,PyData.canLay0,PyData.depth,PyData.eqv,aD,cH.mpr z,iw (show 0<=1+c by omega)
 obtain⟨v,E,v1,v5,Z,e6⟩:=hc
 obtain⟨S,d7,b7,m10,m11,e7⟩:=A5q (l:=0) (f:=5) (m:=12) Z (K 14 (by decide)) (by decide) (by decide) (by decide) (by decide) (by decide) (by decide)
 obtain⟨S,rfl⟩:=bQ m10;have D:S<=12:=gQ.mp m11
 obtain⟨d,d8,hnd,hh,hl,b8,e8⟩:=Aj5 (w:=b) (m:=S) b7 (J 16 (by decide)) (ao y (by decide)) (ao D (by decide))
 obtain⟨f,d9,b9,f0,f1,e9⟩:=Dv (m:=3) (b8.mono (m:=n+52) (bT (show b*S<=24 from gj y D) (n+28))) (u 52 (by decide)) (by decide) (by decide)
 obtain⟨fo,hfo,M,_⟩:=Xh (l:=[PyData.int 9,.int 2,.int 3]) (r:=f) f0 f1
 have hof:∃i:Int,fo=.int i/\0<i/\i<1000:=by
  simp only[au,bf,bh]at M
  rcases M with rfl | rfl | rfl <;> exact⟨_,rfl,by decide,by decide⟩
 obtain⟨i,rfl,U,of1⟩:=hof
 obtain⟨R,d10,b10,m20,m21,Y⟩:=A5q (l:=0) (f:=5) (m:=12) b9 (K 53 (by decide)) (by decide) (by decide) (by decide) (by decide) (by decide) (by decide)
 obtain⟨R,rfl⟩:=bQ m20;have B:R<=12:=gQ.mp m21
 obtain⟨s,d11,pnd,hp,pl,b11,e11⟩:=Aj5 (w:=a) (m:=R) b10 (J 55 (by decide)) (ao G (by decide)) (ao B (by decide))
 have x:s.length<=12:=ao pl B;have A:d.length<=12:=ao hl D;have I:a+b<=4:=Nat.add_le_add G y;have O:a+b+v<=9:=Nat.add_le_add I v5
 let j:=o.take a
 let g:=(o.drop a).take b
 let e:=(o.drop (a+b)).take v
 have kl:j.length=a:=by show (o.take a).length=a;rw[bK,L];exact fD (ao G (by decide))
 have ol:g.length=b:=by show ((o.drop a).take b).length=b;rw[bK,bV,L];exact fD (Nat.le_sub_of_add_le (ao (Nat.add_le_add y G) (by decide)))
 have vl:e.length=v:=by show ((o.drop (a+b)).take v).length=v;rw[bK,bV,L];exact fD (Nat.le_sub_of_add_le (Nat.add_comm v (a+b)▸O))
 have C:j++g++e=o.take (a+b+v):=by
  show o.take a++(o.drop a).take b++(o.drop (a+b)).take v=_
  rw[<- List.take_add,<- List.take_add]
 have c1:cutD (o.map PyData.str) none (some (a:Int))=j.map PyData.str:=by rw[A4e,Ql]
 have c2:cutD (o.map PyData.str) (some (a:Int)) (some ((a:Int)+(b:Int)))=g.map PyData.str:=by
  rw[<- Int.natCast_add,Bi8 (e_ _ _) (by rw[aj,L];exact ao I (by decide)),Vs,Ql,Nat.add_sub_cancel_left]
 have c3:cutD (o.map PyData.str) (some ((a:Int)+(b:Int))) (some ((a:Int)+(b:Int)+(v:Int)))=e.map PyData.str:=by
  rw[<- Int.natCast_add,<- Int.natCast_add,Bi8 (e_ _ _) (by rw[aj,L];exact O),Vs,Ql,Nat.add_sub_cancel_left]
 obtain⟨t,N,p8,p9,y12,y13,y14,y15,hr,hro,P,b12,⟨o8,rfl,g8⟩,⟨o9,rfl,g9⟩,e12⟩:=Bn2 (num:=num) (s2:=sFa (o.map PyData.str)) (s3:=sI (.int a)) (s4:=sI (.int b)) (s5:=sI (.int v)) (s6:=sI (.list (j.map PyData.str))) (s7:=sI (.list (g.map PyData.str))) (o8:=sFa (e.map PyData.str)) (o9:=sFa (d.map tD)) (often:=i) (vals:=e.map PyData.str) (heads:=d) (parts:=s) (b11.mono (m:=n+91) (bT (show a*R<=24 from gj G B) (n+67))) (V 91 (by decide)) U of1 (by rw[aj,vl];exact v5) A x ⟨_,rfl,.inl rfl⟩ ⟨_,rfl,.inl rfl⟩ (x12:=none) (x13:=none) (x14:=none) (x15:=none) (kl:=a) hp
 have Q:Names (j++g++e):=by rw[C];exact nms.sublist (gY _ _)
 refine⟨⟨j,g,e,d,t⟩,N,⟨Q,by rw[kl];exact G,by rw[ol];exact y,by rw[vl];exact v5,by rw[vl];exact v1,λh H=>⟨by rw[ol];exact(hh h H).1,(hh h H).2⟩,hnd,A,λr h=>?_,by show (t.map (·.1)).Nodup;rw[hr];exact pnd,?_⟩,P,b12.mono (ao (bT (du 132 x) (n+91)) (bT (show 91+132*12<=3000 by decide) n)),?_⟩
 ·have:=hro r h
  rw[aj]at this
  show A1w j.length d.length e.length r
  rw[kl];exact this
 ·show t.length<=12
  have:=bj List.length hr;rw[aj]at this;exact ao (fM this) x
 refine Qd (p:=.o (.im (Wd.d ⟨j,g,e,d,t⟩))) (c:=[sT N,sI (.bool num),sFa (o.map PyData.str),sI (.int a),sI (.int b),sI (.int v),sI (.list (j.map PyData.str)),sI (.list (g.map PyData.str)),some o8,some o9,sI (.int i),sFa (t.map Dz),y12,y13,y14,y15]) ?_ rfl (by wp_walk using aO)
 show S7 [sT ds,sI (.bool num),none,none,none,none,none,none,none,none,none,none,none,none,none,none]=_
 unfold S7
 refine (Cy (c':=[sT d1,sI (.bool num),sFa (o.map PyData.str),none,none,none,none,none,none,none,none,none,none,none,none,none]) (by wp_walk using X)).trans ?_
 refine (Cy (c':=[sT d4,sI (.bool num),sFa (o.map PyData.str),sI (.int a),sI (.int b),sI (.int (1+c)),none,none,none,none,none,none,none,none,none,none]) (by wp_walk using e2,e3,e4,Am)).trans ?_
 refine (Cy e6).trans ?_
 refine (Cy (c':=[sT E,sI (.bool num),sFa (o.map PyData.str),sI (.int a),sI (.int b),sI (.int v),sI (.list (j.map PyData.str)),sI (.list (g.map PyData.str)),none,none,none,none,none,none,none,none]) (by wp_walk using Dy,Am,c1,c2)).trans ?_
 refine (Cy (c':=[sT E,sI (.bool num),sFa (o.map PyData.str),sI (.int a),sI (.int b),sI (.int v),sI (.list (j.map PyData.str)),sI (.list (g.map PyData.str)),sFa (e.map PyData.str),none,none,none,none,none,none,none]) (by wp_walk using Dy,Am,c3)).trans ?_
 refine (Cy (c':=[sT d8,sI (.bool num),sFa (o.map PyData.str),sI (.int a),sI (.int b),sI (.int v),sI (.list (j.map PyData.str)),sI (.list (g.map PyData.str)),sFa (e.map PyData.str),sFa (d.map tD),none,none,none,none,none,none]) (by wp_walk using e7,e8)).trans ?_
 refine (Cy (c':=[sT d9,sI (.bool num),sFa (o.map PyData.str),sI (.int a),sI (.int b),sI (.int v),sI (.list (j.map PyData.str)),sI (.list (g.map PyData.str)),sFa (e.map PyData.str),sFa (d.map tD),sI (.int i),none,none,none,none,none]) (by wp_walk using e9,Ar,hfo)).trans ?_
 refine (Cy (c':=[sT d9,sI (.bool num),sFa (o.map PyData.str),sI (.int a),sI (.int b),sI (.int v),sI (.list (j.map PyData.str)),sI (.list (g.map PyData.str)),sFa (e.map PyData.str),sFa (d.map tD),sI (.int i),sFa [],none,none,none,none]) (by wp_walk using aO)).trans ?_
 refine (Cy ((Np (ds:=s.map tD) (c1:=[sT d11,sI (.bool num),sFa (o.map PyData.str),sI (.int a),sI (.int b),sI (.int v),sI (.list (j.map PyData.str)),sI (.list (g.map PyData.str)),sFa (e.map PyData.str),sFa (d.map tD),sI (.int i),sFa [],none,none,none,none]) (by wp_walk using Bp,Y,e11)).trans e12)).trans ?_
 exact B7l (Bf2 (.inr rfl) rfl) (Bf2 (.inr rfl) rfl) (Bf2 g8 rfl) (Bf2 g9 rfl) (Bf2 (.inl rfl) rfl)
mutual
noncomputable def sm:o5->Bool
 | .str x=>decide (x.length<=100)&&x.cps.toList.all (λc=>decide (c<128))
 | .list ds=>decide (ds.length<=900)&&Ao8 ds
 | .tuple ds=>decide (ds.length<=900)&&Ao8 ds
 | _=>true
noncomputable def Ao8:w6->Bool
 | []=>true
 | d::r=>sm d&&Ao8 r
end
theorem Aj7:∀{ds:w6},Ao8 ds=true↔∀d∈ds,sm d=true
 | []=>⟨λ_ d h=>(nomatch h),λ_=>rfl⟩
 | d::r=>by
  show (sm d&&Ao8 r)=true↔_
  rw[aF,Aj7]
  exact⟨λh e he=>by rcases au.mp he with rfl | he;exact h.1;exact h.2 e he,λh=>⟨h d (.head _),λe he=>h e (.tail _ he)⟩⟩
theorem sm_tup {ds:w6}:sm (.tuple ds)=true↔ds.length<=900/\∀d∈ds,sm d=true:=by
 show (decide (ds.length<=900)&&Ao8 ds)=true↔_
 rw[aF,Aj7,gF]
theorem Bf1 {x:Str}(h:sm (.str x)=true):x.length<=100/\∀c∈x.cps.toList,c<128:=by
 obtain⟨h1,h2⟩:=aF.mp (show (decide (x.length<=100)&&x.cps.toList.all (λc=>decide (c<128)))=true from h)
 exact⟨aQ h1,λc hc=>aQ (aX.mp h2 c hc)⟩
theorem X4 {α:Type}(F:α->Bool):∀xs:List α,boolsOf (xs.map λx=>PyData.bool (F x))=some (xs.map F)
 | []=>rfl
 | x::xs=>by show (boolsOf (xs.map λx=>PyData.bool (F x))).map (F x::·)=_;rw[X4 F xs];rfl
theorem B1v {a:Type}(f:a->Bool)(xs:List a):(xs.map f).all id=xs.all f:=by simp_all
theorem Mm {a:Type}(F:a->Bool)(xs:List a):Q6 (.list (xs.map λx=>PyData.bool (F x)))=sI (.bool (xs.all F)):=by
 show (boolsOf _).map _=_
 rw[X4 F,bL,B1v]
theorem Ad9 {fe:m7}{x:Str}{F:Nat->Bool}{c:Ev}{i:Nat}(hx:c[i]?=some (sI (.str x)))(hl:x.length<=100)
 (hs:∀n∈x.cps.toList,∀t:m_,Il (cgN 0) Ax fe (.str ⟨#[n]⟩) [t]=.ok (some (.bool (F n))) [sI (.str ⟨#[n]⟩)]) :
 cLC [none] (Vc (Aa i)) (cgN 0) Ax fe c=.ok (.o (.ls false (x.cps.toList.map λn=>PyData.bool (F n)))) c:=by
 obtain⟨b,e,d⟩:=Fp (g:=cgN 0) (ft:=Ax) (fe:=fe) (I:=λc=>∃t,c=[t]) (f:=λn=>PyData.str ⟨#[n]⟩) (G:=λn=>PyData.bool (F n)) (xs:=x.cps.toList) ⟨none,rfl⟩
  λn c h a=>by grind
 refine Gs (ds:=O9 x) (c1:=c) ?_ ?_ (by assumption) ?_
 ·unfold Vc Aa
  simp only[hx,R.bind_ok,nrm,Eo,rdP,bG,O.dat]
 ·unfold O9;rw[aj];exact ao hl (by decide)
 rfl
theorem B3r {fe:m7}{ds:w6}{F:o5->Bool}{c:Ev}{i:Nat}(hx:c[i]?=some (sI (.tuple ds)))(hl:ds.length<=16000000)
 (hs:∀d∈ds,∀t:m_,Il (cgN 0) Ax fe d [t]=.ok (some (.bool (F d))) [sI d]) :
 cLC [none] (Bp (Aa i)) (cgN 0) Ax fe c=.ok (.o (.ls false (ds.map λd=>PyData.bool (F d)))) c:=by
 obtain⟨cI,e,hI⟩:=Al6 (g:=cgN 0) (ft:=Ax) (fe:=fe) (I:=λc=>∃t,c=[t]) (F:=λd=>PyData.bool (F d)) (items:=ds) (acc:=[]) (c:=[none]) ⟨none,rfl⟩
  (λn c hn hc=>by obtain⟨t,rfl⟩:=hc;exact⟨_,hs n hn t,_,rfl⟩)
 obtain⟨t,rfl⟩:=hI
 refine Gs (ds:=ds) (c1:=c) ?_ hl (by simpa[cIn] using e) ?_
 ·unfold Bp Aa
  simp only[hx,R.bind_ok,nrm,frz]
 ·rfl
noncomputable def Tt (c:Nat):Bool:=decide (97<=c)&&decide (c<=122)
noncomputable def okC (c:Nat):Bool:=decide (32<=c)&&decide (c<=126)
noncomputable def lettersS:Str:=Str.ofString "abcdefghijklmnopqrstuvwxyz"
theorem Bq2:∀c,c<128->(!(Builtin.Str.occurrences lettersS ⟨#[c]⟩ 0 lettersS.length 1).isEmpty)=Tt c:=by decide +kernel
theorem B5r (c:Nat):(!decide ([c]<(Str.ofString " ").cps.toList))=decide (32<=c):=by
 have:[c]<(Str.ofString " ").cps.toList↔c<32:=by
  have e:(Str.ofString " ").cps.toList=[32]:=by trivial
  rw[e]
  constructor
  ·intro h
   cases h with
   | rel h=>omega
   | cons h=>cases h
  ·intro h;exact .rel h
 grind
theorem B3l (c:Nat):(!decide ((Str.ofString "~").cps.toList<[c]))=decide (c<=126):=by
 have:(Str.ofString "~").cps.toList<[c]↔126<c:=by
  have e:(Str.ofString "~").cps.toList=[126]:=by trivial
  rw[e]
  constructor
  ·intro h
   cases h with
   | rel h=>omega
   | cons h=>cases h
  ·intro h;exact .rel h
 grind
theorem A6r (c:Nat):Az7 (.str " ") (.str ⟨#[c]⟩)=sI (.bool (decide (32<=c))):=by
 show some _=_
 rw[B5r]
theorem Ay9 (c:Nat):Az7 (.str ⟨#[c]⟩) (.str "~")=sI (.bool (decide (c<=126))):=by
 show some _=_
 rw[B3l]
theorem Bb8 {c:Nat}(h:c<128):Ms false (.str ⟨#[c]⟩) (.str "abcdefghijklmnopqrstuvwxyz")=sI (.bool (Tt c)):=by
 show some (O.im (.bool (!(Builtin.Str.occurrences lettersS _ 0 lettersS.length 1).isEmpty)))=_
 rw[Bq2 c h]
theorem A9x {x:Str}(hs:sm (.str x)=true):Fq [.im (.str x)]=.ret (.im (.bool (x.cps.toList.all okC))) [.im (.str x)]:=by
 obtain⟨hl,hc⟩:=Bf1 hs
 have e:=Ad9 (fe:=Hj (cOp Az7 (cC (.str " ")) (Aa 0)) (cOp Az7 (Aa 0) (cC (.str "~")))) (x:=x) (F:=okC) (c:=[sI (.str x)]) (i:=0) rfl hl (λn hn t=>by
  by_cases h:32<=n
  ·wp_walk using A6r,Ay9,aq h,okC
  ·wp_walk using A6r,Ay9,aB h,okC)
 wp_walk using Fq,Jf,e,Mm
def Py:o5->Bool
 | .str x=>x.cps.toList.all okC
 | .none=>true
 | .int _=>true
 | _=>false
theorem Bi6 {d:o5}(hs:sm d=true):Es [.im d]=.ret (.im (.bool (Py d))) [.im d]:=by
 cases d with
 | str x=>wp_walk using Es,Fz,By,Gg,A9x hs,Py
 | none=>wp_walk using Es,Fz,By,Gg,Fv,Py
 | int i=>wp_walk using Es,Fz,By,Gg,Fv,Py
 | bool b=>wp_walk using Es,Fz,By,Gg,Fv,Py
 | tuple ds=>wp_walk using Es,Fz,By,Gg,Fv,Py
 | list ds=>wp_walk using Es,Fz,By,Gg,Fv,Py
 | dict kv=>wp_walk using Es,Fz,By,Gg,Fv,Py
def Ci:o5->Bool
 | .str x=>decide (0<x.length)&&(decide (x.length<9)&&x.cps.toList.all Tt)
 | _=>false
theorem Bp6 {d:o5}(hs:sm d=true):Ea [.im d]=.ret (.im (.bool (Ci d))) [.im d]:=by
 cases d with
 | str x =>
  obtain⟨hl,hc⟩:=Bf1 hs
  have e:=Ad9 (fe:=cOp (Ms false) (Aa 0) (cC (.str "abcdefghijklmnopqrstuvwxyz"))) (x:=x) (F:=Tt) (c:=[sI (.str x)]) (i:=0) rfl hl (λn hn t=>by
   wp_walk using Bb8 (hc n hn))
  by_cases h0:x=Str.ofString ""
  ·subst h0
   wp_walk using Ea,Fl,By,Gg,Fb,Ci
   rfl
  ·have hp:0<x.length:=by
    rcases Nat.eq_zero_or_pos x.length with h | h
    ·exfalso;apply h0
     obtain⟨cps⟩:=x;have:cps=#[]:=Array.eq_empty_of_size_eq_zero h;subst this;rfl
    ·exact h
   by_cases h8:x.length<9
   ·wp_walk using Ea,Fl,By,Gg,Fb,Ci,aB h0,Gy,show x.length<=16000000 by omega,aB (show ¬ (8:Int)<(x.length:Int) by omega),e,Mm,aq hp,aq h8
   ·wp_walk using Ea,Fl,By,Gg,Fb,Ci,aB h0,Gy,show x.length<=16000000 by omega,aq (show (8:Int)<(x.length:Int) by omega),aq hp,aB h8
 | none=>wp_walk using Ea,Fl,By,Gg,Ci
 | int i=>wp_walk using Ea,Fl,By,Gg,Ci
 | bool b=>wp_walk using Ea,Fl,By,Gg,Ci
 | tuple ds=>wp_walk using Ea,Fl,By,Gg,Ci
 | list ds=>wp_walk using Ea,Fl,By,Gg,Ci
 | dict kv=>wp_walk using Ea,Fl,By,Gg,Ci
theorem Jx : Bg neg (.int a) (.int b)=sI (.bool (if neg then !decide (a=b) else decide (a=b))):=by
 have e:PyData.eqv (.int a) (.int b)=decide (a=b):=by
  rfl
 unfold Bg
 rw[show Ew _=true from rfl,show Ew _=true from rfl,e]
 simp
theorem Ap8 {α:Type}[DecidableEq α](x:α):∀(n:Nat) (xs:List α),xs.length=n->(x∈dst xs↔x∈xs)
 | 0,xs,h=>by cases xs with | nil=>exact Iff.rfl | cons a r=>cases h
 | n+1,xs,h=>by
  rcases il xs with rfl | ⟨ys,y,rfl⟩
  ·cases h
  ·rw[ir]at h ⊢
   have hy:ys.length=n:=by simpa using h
   have ih:=Ap8 x n ys hy;rw[Vg];unfold Aa3
   split
   ·rename_i hm
    rw[ih,aP,List.mem_singleton]
    refine⟨.inl,λq=>?_⟩
    rcases q with q | rfl
    ·exact q
    ·exact ih.mp (memB_iff.mp hm)
   ·rw[aP,aP,ih]
theorem Aj6 {α:Type}[DecidableEq α]:∀(n:Nat) (xs:List α),xs.length=n->((dst xs).length=xs.length↔xs.Nodup)
 | 0,xs,h=>by cases xs with | nil=>exact⟨λ_=>eQ,λ_=>rfl⟩ | cons a r=>cases h
 | n+1,xs,h=>by
  rcases il xs with rfl | ⟨ys,y,rfl⟩
  ·cases h
  ·rw[ir]at h ⊢
   have hy:ys.length=n:=by simpa using h
   have ih:=Aj6 n ys hy;have le:=Y4 n ys hy
   have hnd:(ys++[y]).Nodup↔ys.Nodup/\y∉ys:=by
    rw[gm]
    constructor
    ·intro ⟨a,_,c⟩;exact⟨a,λq=>c y q y (az.mpr rfl) rfl⟩
    ·intro ⟨a,b⟩;exact⟨a,by simp,λu hu v hv e=>by rw[az.mp hv]at e;exact b (e▸hu)⟩
   rw[Vg,hnd];unfold Aa3
   split
   ·rename_i hm
    have:y∈ys:=(Ap8 y n ys hy).mp (memB_iff.mp hm);rw[aM,fP]
    constructor
    ·intro q;omega
    ·intro q;exact absurd this q.2
   ·rename_i hm
    have:y∉ys:=λq=>hm (memB_iff.mpr ((Ap8 y n ys hy).mpr q))
    rw[aM,aM,fP]
    constructor
    ·intro q;exact⟨ih.mp (by omega),this⟩
    ·intro q;have:=ih.mpr q.1;omega
theorem dst_inr {ss:v_}:(dst (ss.map λx=>(Sum.inr x:Key))).length=ss.length↔ss.Nodup:=by
 have h:=Aj6 _ (ss.map λx=>(Sum.inr x:Key)) rfl
 grind
theorem A0w:∀{ds:w6},ds.all Ci=true->∃ss,ds=ss.map PyData.str/\strsOf ds=some ss
 | [],_=>⟨[],rfl,rfl⟩
 | d::ds,h=>by
  obtain⟨h1,h2⟩:=aF.mp (show (Ci d&&ds.all Ci)=true from h)
  obtain⟨ss,e1,e2⟩:=A0w h2
  cases d with
  | str x=>exact⟨x::ss,by rw[e1];rfl,by show (strsOf ds).map (x::·)=_;rw[e2];rfl⟩
  | _=>cases h1
theorem M9:∀ss:v_,strsOf (ss.map PyData.str)=some ss
 | []=>rfl
 | x::ss=>by show (strsOf (ss.map PyData.str)).map (x::·)=_;rw[M9 ss];rfl
def Qs:o5->Bool
 | .tuple ds=>decide (0<ds.length)&&(ds.all Ci&&(match strsOf ds with | some ss=>decide ss.Nodup | none=>false))
 | _=>false
theorem A3z {d:o5}(hs:sm d=true):Bq [.im d]=.ret (.im (.bool (Qs d))) [.im d]:=by
 cases d with
 | tuple ds =>
  obtain⟨hl,hd⟩:=sm_tup.mp hs
  have e:=B3r (fe:=cF Ea (Ab (Aa 0) Ag)) (ds:=ds) (F:=Ci) (c:=[sI (.tuple ds)]) (i:=0) rfl (ao hl (by decide)) (λd h t=>by
   wp_walk using Bp6 (hd d h))
  by_cases h:0<ds.length
  ·have e0:=aB (show ¬ (ds.length:Int)=0 by omega)
   cases ha:ds.all Ci with
   | false=>wp_walk using Bq,Cu,By,Gg,Gy,Jx,e0,e,Mm,ha,Qs,aq h
   | true =>
    obtain⟨ss,e1,e2⟩:=A0w ha
    have l1:ds.length=ss.length:=by rw[e1,aj]
    have eS:V0 (.tuple ds)=sI (.int ((dst (ss.map λx=>(Sum.inr x:Key))).length:Nat)):=by
     show ((strsOf ds).bind _)=_
     rw[e2,bG,if_pos (by omega)]
    by_cases nd:ss.Nodup
    ·have ed:=aq (show (((dst (ss.map λx=>(Sum.inr x:Key))).length:Nat):Int)=(ds.length:Int) by rw[dst_inr.mpr nd,l1])
     wp_walk using Bq,Cu,By,Gg,Gy,Jx,e0,e,Mm,ha,Qs,aq h,eS,ed,e2,aq nd
    ·have ed:=aB (show ¬ (((dst (ss.map λx=>(Sum.inr x:Key))).length:Nat):Int)=(ds.length:Int) by rw[l1];exact λq=>nd (dst_inr.mp (by omega)))
     wp_walk using Bq,Cu,By,Gg,Gy,Jx,e0,e,Mm,ha,Qs,aq h,eS,ed,e2,aB nd
  ·have e0:=aq (show (ds.length:Int)=0 by omega)
   wp_walk using Bq,Cu,By,Gg,Gy,Jx,e0,Qs,aB h
 | none=>wp_walk using Bq,Cu,By,Gg,Qs
 | int i=>wp_walk using Bq,Cu,By,Gg,Qs
 | bool b=>wp_walk using Bq,Cu,By,Gg,Qs
 | str x=>wp_walk using Bq,Cu,By,Gg,Qs
 | list ds=>wp_walk using Bq,Cu,By,Gg,Qs
 | dict kv=>wp_walk using Bq,Cu,By,Gg,Qs
theorem A1i : (List.replicate n true).all id=true:=by simp
theorem Q5:∀n:Nat,boolsOf (List.replicate n (PyData.bool true))=some (List.replicate n true)
 | 0=>rfl
 | n+1=>by rw[cT,cT];show (boolsOf (List.replicate n (PyData.bool true))).map (true::·)=_;rw[Q5 n];rfl
theorem Qp (ha:Ew a=true) (hb:Ew b=true):Bg neg a b=sI (.bool (if neg then !PyData.eqv a b else PyData.eqv a b)):=by unfold Bg;grind
theorem Bx0 (h:x∈K9 ds ds):∃d∈ds,x=.tuple [d,d]:=by
 obtain⟨⟨a,b⟩,f,c⟩:=aA.mp h;obtain⟨i,g,e⟩:=List.getElem_of_mem f
 grind
theorem Aq8 {d:o5}:∀{ds:w6},d∈ds->d.depth<=PyData.depthAll ds
 | a::r,h=>by
  show d.depth<=max a.depth (PyData.depthAll r)
  rcases au.mp h with rfl | h
  ·exact Nat.le_max_left _ _
  ·exact ao (Aq8 h) (Nat.le_max_right _ _)
theorem Ar7 {d:o5}:∀{ds:w6},d∈ds->PyData.canLayAll0 ds=true->d.canLay0=true
 | a::r,h,l=>by
  obtain⟨l1,l2⟩:=aF.mp (show (a.canLay0&&PyData.canLayAll0 r)=true from l)
  rcases au.mp h with rfl | h
  ·exact l1
  ·exact Ar7 h l2
def Short:Nat->o5->Prop
 | 0,_=>True
 | n+1,.list ds=>ds.length<=16000000/\∀d∈ds,Short n d
 | n+1,.tuple ds=>ds.length<=16000000/\∀d∈ds,Short n d
 | _+1,_=>True
theorem A4j:∀ds:w6,2*ds.length<=Qt ds
 | []=>ak _
 | d::r=>by have:=A4j r;show 2*(r.length+1)<=wt d+2+Qt r;omega
theorem A4b {d:o5}:∀{ds:w6},d∈ds->wt d<=Qt ds
 | a::r,h=>by
  show wt d<=wt a+2+Qt r
  rcases au.mp h with rfl | h
  ·exact ao (e_ _ 2) (e_ _ _)
  ·exact ao (A4b h) (Nat.le_add_left _ _)
theorem Ac9:∀(n:Nat) (d:o5),wt d<=16000000->Short n d
 | 0,d,h=>trivial
 | n+1,.list ds,h=>by
  have h:Qt ds<=16000000:=ao (e_ _ 4) h
  exact⟨ao (ao (Nat.le_mul_of_pos_left _ (by decide)) (A4j ds)) h,λd hd=>Ac9 n d (ao (A4b hd) h)⟩
 | n+1,.tuple ds,h=>by
  have h:Qt ds<=16000000:=ao (e_ _ 4) h
  exact⟨ao (ao (Nat.le_mul_of_pos_left _ (by decide)) (A4j ds)) h,λd hd=>Ac9 n d (ao (A4b hd) h)⟩
 | n+1,.none,h=>trivial
 | n+1,.bool _,h=>trivial
 | n+1,.int _,h=>trivial
 | n+1,.str _,h=>trivial
 | n+1,.dict _,h=>trivial
theorem Au0:∀(n:Nat) (d:o5),d.depth<n->n<=40->d.canLay0=true->Short n d->Cz n [.im d,.im d]=.ret (.im (.bool true)) [.im d,.im d]
 | 0,d,h,_,_,_=>absurd h (Nat.not_lt_zero _)
 | n+1,d,h,hn,hl,hs=>by
  have fb:∀b:Bool,Ew (.bool b)=true:=λb=>rfl
  have fl:Ew d=true:=by unfold Ew;rw[hl,aq (show d.depth<=40 from ao (Nat.le_of_lt_succ h) (fB hn))];rfl
  have fi:∀k:Nat,Ew (.int (k:Int))=true:=λk=>rfl
  have loop:∀ds:w6,(∀e∈ds,Cz n [.im e,.im e]=.ret (.im (.bool true)) [.im e,.im e])->∃c',Gf (cgT 2 (Br (cgN 0) (Br (cgN 1) Gn))) Ax (cF (Cz n) (Ab (Aa 0) (Ab (Aa 1) Ag))) (K9 ds ds) [] [none,none]=.ok ((K9 ds ds).map λ_=>.bool true) c'/\∃a b,c'=[a,b]:=λds hds=>by
   have:=Al6 (g:=cgT 2 (Br (cgN 0) (Br (cgN 1) Gn))) (ft:=Ax) (fe:=cF (Cz n) (Ab (Aa 0) (Ab (Aa 1) Ag))) (I:=λc=>∃a b,c=[a,b]) (F:=λ_=>.bool true) (items:=K9 ds ds) (acc:=[]) (c:=[none,none]) ⟨none,none,rfl⟩ (λx c hx ⟨a,b,hc⟩=>by
    subst hc;obtain⟨e,he,rfl⟩:=Bx0 hx
    refine⟨[sI e,sI e],?_,_,_,rfl⟩
    wp_walk using hds e he)
   simpa using this
  have fin:∀ds:w6,(K9 ds ds).map (λ_=>PyData.bool true)=List.replicate ds.length (.bool true):=λds=>by
   rw[List.map_const'];unfold K9;rw[aj,eV,fW]
  show Dj 2 2 (Ie (Cz n)) _=_
  cases d with
  | none=>wp_walk using Ie,Rm,By,Gg,Fv,Qp fl fl,Qp (fb _) (fb _),PyData.eqv,cD
  | bool b=>wp_walk using Ie,Rm,By,Gg,Fv,Qp fl fl,Qp (fb _) (fb _),PyData.eqv,cD
  | int i=>wp_walk using Ie,Rm,By,Gg,Fv,Qp fl fl,Qp (fb _) (fb _),PyData.eqv,cD
  | str x=>wp_walk using Ie,Rm,By,Gg,Fv,Qp fl fl,Qp (fb _) (fb _),PyData.eqv,cD
  | dict k=>cases hl
  | list ds =>
   have hd:∀e∈ds,Cz n [.im e,.im e]=.ret (.im (.bool true)) [.im e,.im e]:=λe he=>Au0 n e (bu (Aq8 he) (Nat.lt_of_succ_lt_succ h)) (fB hn) (Ar7 he hl) (hs.2 e he)
   obtain⟨c',e1,a,b,rfl⟩:=loop ds hd;rw[fin]at e1
   have e2:cLC [none,none] (A8q (Aa 0) (Aa 1)) (cgT 2 (Br (cgN 0) (Br (cgN 1) Gn))) Ax (cF (Cz n) (Ab (Aa 0) (Ab (Aa 1) Ag))) [sI (.list ds),sI (.list ds)]=.ok (.o (.ls false (List.replicate ds.length (.bool true)))) [sI (.list ds),sI (.list ds)] :=
    Gs (ds:=K9 ds ds) (c1:=[sI (.list ds),sI (.list ds)]) (by wp_walk using A8q,A2k) (by unfold K9;rw[aj,eV,fW];exact hs.1) e1 rfl
   wp_walk using Ie,Rm,By,Gg,Qp (fb _) (fb _),Gy,Qp (fi _) (fi _),PyData.eqv,cD,e2,Q6,Q5,A1i
  | tuple ds =>
   have hd:∀e∈ds,Cz n [.im e,.im e]=.ret (.im (.bool true)) [.im e,.im e]:=λe he=>Au0 n e (bu (Aq8 he) (Nat.lt_of_succ_lt_succ h)) (fB hn) (Ar7 he hl) (hs.2 e he)
   obtain⟨c',e1,a,b,rfl⟩:=loop ds hd;rw[fin]at e1
   have e2:cLC [none,none] (A8q (Aa 0) (Aa 1)) (cgT 2 (Br (cgN 0) (Br (cgN 1) Gn))) Ax (cF (Cz n) (Ab (Aa 0) (Ab (Aa 1) Ag))) [sI (.tuple ds),sI (.tuple ds)]=.ok (.o (.ls false (List.replicate ds.length (.bool true)))) [sI (.tuple ds),sI (.tuple ds)] :=
    Gs (ds:=K9 ds ds) (c1:=[sI (.tuple ds),sI (.tuple ds)]) (by wp_walk using A8q,A2k) (by unfold K9;rw[aj,eV,fW];exact hs.1) e1 rfl
   wp_walk using Ie,Rm,By,Gg,Qp (fb _) (fb _),Gy,Qp (fi _) (fi _),PyData.eqv,cD,e2,Q6,Q5,A1i
theorem Xa {n:Nat}{d:o5}{k w:Nat}(h:Good d k w)(hk:k<n)(hn:n<=40)(hw:w<=16000000):Cz n [.im d,.im d]=.ret (.im (.bool true)) [.im d,.im d] :=
 Au0 n d (bu h.dep hk) hn h.lay (Ac9 n d (ao h.wgt hw))
abbrev sg (x:Str):List Nat:=x.cps.toList
noncomputable def mkS (l:List Nat):Str:=⟨l.toArray⟩
theorem Ky {x y:Str}(h:sg x=sg y):x=y:=Str.ext' (Array.toList_inj.mp h)
theorem Am8 (x:Str):mkS (sg x)=x:=Ky rfl
theorem Pq (x y:Str):sg (x++y)=sg x++sg y:=by rw[sg,Str.cps_append,Array.toList_append]
theorem Eh (x:Str):(sg x).length=x.length:=eN
noncomputable def inter (s:List Nat):List (List Nat)->List Nat
 | []=>[]
 | [x]=>x
 | x::y::r=>x++s++inter s (y::r)
theorem Gz (s:Str):∀l:v_,sg (Str.join s l)=inter (sg s) (l.map sg)
 | []=>rfl
 | [x]=>rfl
 | x::y::r=>by
  show sg (x++s++Str.join s (y::r))=sg x++sg s++inter (sg s) ((y::r).map sg)
  rw[Pq,Pq,Gz s (y::r)]
theorem Zu (s:Str):∀l:v_,Jw s l=Str.join s l
 | []=>StrLaws.glued_eq_join s []
 | [x]=>rfl
 | x::y::r=>StrLaws.glued_eq_join s (x::y::r)
noncomputable def Su (c:Nat):List Nat->List (List Nat)
 | []=>[[]]
 | x::r=>if x=c then []::Su c r else match Su c r with
  | []=>[[x]]
  | h::t=>(x::h)::t
theorem A5y {c:Nat}:∀l:List Nat,∃h t,Su c l=h::t
 | []=>⟨_,_,rfl⟩
 | x::r=>by
  obtain⟨h,t,e⟩:=A5y (c:=c) r;unfold Su;rw[e]
  split
  ·exact⟨_,_,rfl⟩
  ·exact⟨_,_,rfl⟩
theorem Zr {c x:Nat}{r h:List Nat}{t:List (List Nat)}(n:x≠c)(e:Su c r=h::t):Su c (x::r)=(x::h)::t:=by
 unfold Su;rw[if_neg n,e]
theorem A0x {c:Nat}{r:List Nat}:Su c (c::r)=[]::Su c r:=by
 conv=>lhs;unfold Su
 rw[if_pos rfl]
theorem Aj8 {c:Nat}:∀{p:List Nat},c∉p->Su c p=[p]
 | [],_=>rfl
 | x::r,h=>Zr (λe=>h (e▸.head _)) (Aj8 λq=>h (.tail _ q))
theorem Ak2 {c:Nat}:∀{p r:List Nat},c∉p->Su c (p++c::r)=p::Su c r
 | [],r,_=>A0x
 | x::p,r,h=>Zr (λe=>h (e▸.head _)) (Ak2 λq=>h (.tail _ q))
theorem Uh {c:Nat}:∀{ls:List (List Nat)},ls≠[]->(∀p∈ls,c∉p)->Su c (inter [c] ls)=ls
 | [],h,_=>absurd rfl h
 | [x],_,h=>Aj8 (h x (.head _))
 | x::y::r,_,h=>by
  show Su c (x++[c]++inter [c] (y::r))=_
  rw[bW,List.singleton_append,Ak2 (h x (.head _)),Uh (by simp) λp hp=>h p (.tail _ hp)]
theorem Bd2 (x y:Str):Txt.split x y≠[]:=by
 unfold Txt.split
 split
 ·simp
 ·split
  ·simp
  ·rw[StrLaws.partsBetween_eq]
   obtain⟨p,r,e⟩:=StrLaws.partsFrom_ne x y.length 0 (Builtin.Str.occurrences x y 0 x.length (x.length+1));rw[e]
   simp
theorem Az6 (x:Str)(c:Nat):(Txt.split x ⟨#[c]⟩).map sg=Su c (sg x):=by
 have e:=Uh (c:=c) (ls:=(Txt.split x ⟨#[c]⟩).map sg) (by rw[ne_eq,List.map_eq_nil_iff];exact Bd2 _ _) (λp hp=>by
  obtain⟨q,hq,rfl⟩:=aA.mp hp
  exact StrLaws.split_free x c q hq)
 have j:=Gz ⟨#[c]⟩ (Txt.split x ⟨#[c]⟩);rw[StrLaws.join_split]at j;rw[<- e,j]
theorem B4h {a b:v_}(h:a.map sg=b.map sg):a=b:=by
 have f:∀l:v_,(l.map sg).map mkS=l:=λl=>by
  rw[aN]
  exact(gn (λx _=>Am8 x)).trans (List.map_id _)
 rw[<- f a,h,f b]
theorem A3h {c:Nat}{ls:v_}(hn:ls≠[])(h:∀p∈ls,c∉sg p):Txt.split (Str.join ⟨#[c]⟩ ls) ⟨#[c]⟩=ls:=by
 apply B4h;rw[Az6,Gz]
 exact Uh (by simpa using hn) λp hp=>by
  obtain⟨q,hq,rfl⟩:=aA.mp hp;exact h q hq
theorem A2w {z:List Nat}:∀{h:List Nat}{t:List (List Nat)}{x:Nat},inter z ((x::h)::t)=x::inter z (h::t)
 | _,[],_=>rfl
 | _,_::_,_=>rfl
theorem An0 {c:Nat}{z:List Nat}:∀l:List Nat,inter z (Su c l)=l.flatMap λa=>if a=c then z else [a]
 | []=>rfl
 | x::r=>by
  have ih:=An0 (c:=c) (z:=z) r;obtain⟨h,t,e⟩:=A5y (c:=c) r;rw[gq,<- ih]
  by_cases n:x=c
  ·subst n
   rw[A0x,if_pos rfl,e]
   show []++z++inter z (h::t)=_
   simp
  ·rw[Zr n e,if_neg n,e]
   exact A2w
theorem B0m (x z:Str)(c:Nat):sg (Txt.replace x ⟨#[c]⟩ z)=(sg x).flatMap λa=>if a=c then sg z else [a]:=by
 rw[StrLaws.replace_one,Gz,Az6,An0]
noncomputable def rep2 (a b:Nat) (z:List Nat):List Nat->List Nat
 | []=>[]
 | [x]=>[x]
 | x::y::r=>if x=a/\y=b then z++rep2 a b z r else x::rep2 a b z (y::r)
theorem Ak5 {a b:Nat}{z:List Nat}:∀l:List Nat,(∀k,¬ (l[k]?=some a/\l[k+1]?=some b))->rep2 a b z l=l
 | [],_=>rfl
 | [x],_=>rfl
 | x::y::r,h=>by
  rw[rep2,if_neg λq=>h 0 ⟨by rw[q.1];rfl,by rw[q.2];rfl⟩,Ak5 (y::r) λk q=>h (k+1) q]
theorem A6i {a b:Nat}{z:List Nat}:∀(p r:List Nat),(∀k,k<p.length->¬ ((p++a::b::r)[k]?=some a/\(p++a::b::r)[k+1]?=some b))->rep2 a b z (p++a::b::r)=p++(z++rep2 a b z r)
 | [],r,_=>by
  show rep2 a b z (a::b::r)=_
  rw[rep2,if_pos ⟨rfl,rfl⟩];rfl
 | x::p,r,h=>by
  have ih:=A6i (z:=z) p r λk hk q=>h (k+1) (Nat.succ_lt_succ hk) q
  obtain⟨y,t,e⟩:∃y t,p++a::b::r=y::t:=by cases p <;> exact⟨_,_,rfl⟩
  have h0:=h 0 (Nat.succ_pos _)
  show rep2 a b z (x::(p++a::b::r))=x::(p++(z++rep2 a b z r))
  rw[<- ih,e,rep2,if_neg];intro q
  refine h0 ⟨by rw[q.1];rfl,?_⟩
  show (p++a::b::r)[0]?=_
  rw[e,q.2];rfl
theorem at2 {x:Str}{a b k:Nat}:StrLaws.At x ⟨#[a,b]⟩ x.length k↔(sg x)[k]?=some a/\(sg x)[k+1]?=some b:=by
 show k+2<=x.length/\Builtin.Str.subAt x ⟨#[a,b]⟩ k=true↔_
 rw[StrLaws.subAt_eq]
 show k+2<=x.length/\(((sg x).drop k).take 2==[a,b])=true↔_
 rw[beq_iff_eq,<- Eh]
 constructor
 ·intro ⟨h,e⟩
  have e0:(((sg x).drop k).take 2)[0]?=some a:=by rw[e];rfl
  have e1:(((sg x).drop k).take 2)[1]?=some b:=by rw[e];rfl
  rw[List.getElem?_take_of_lt (by decide),gw]at e0 e1
  exact⟨e0,e1⟩
 ·intro ⟨h0,h1⟩
  have l1:=(bB.mp h1).1
  refine⟨by omega,?_⟩
  rw[fY (by omega),fY (by omega)]
  show [(sg x)[k],(sg x)[k+1]]=_
  rw[(bB.mp h0).2,(bB.mp h1).2]
theorem Bw1 {α:Type}{l:List α}{k:Nat}{a b:α}(h0:l[k]?=some a)(h1:l[k+1]?=some b):l.drop k=a::b::l.drop (k+2):=by
 obtain⟨q0,e0⟩:=bB.mp h0;obtain⟨q1,e1⟩:=bB.mp h1;rw[fY q0,fY q1,e0,e1]
theorem Bl8 (x:Str)(i j:Nat):sg (Builtin.Str.strSub x i j)=((sg x).drop i).take (j-i):=StrLaws.strSub_toList x i j
theorem A9w {z p:List Nat}:∀{t:List (List Nat)},t≠[]->inter z (p::t)=p++(z++inter z t)
 | [],h=>absurd rfl h
 | _::_,_=>bW _ _ _
theorem A0u {x:Str}{a b:Nat}{z:List Nat}:∀(cuts:List Nat) (s f:Nat),StrLaws.ChainG x ⟨#[a,b]⟩ x.length s cuts f->(∀k,f<=k->¬ StrLaws.At x ⟨#[a,b]⟩ x.length k) ->
 inter z ((StrLaws.partsFrom x 2 s cuts).map sg)=rep2 a b z ((sg x).drop s)
 | [],s,f,h,hn=>by
  have e:f=s:=h;subst e
  show sg (Builtin.Str.strSub x f x.length)=_
  rw[Bl8,<- Eh,gO (by rw[bV];omega),Ak5]
  intro k q;rw[gw,gw]at q
  exact hn (f+k) (by omega) (at2.mpr q)
 | c::r,s,f,h,hn=>by
  obtain⟨h1,h2,h3,h4⟩:=h;have ih:=A0u (z:=z) r (c+2) f h4 hn;obtain⟨q0,q1⟩:=at2.mp h2;have l1:=(bB.mp q1).1
  show inter z (sg (Builtin.Str.strSub x s c)::(StrLaws.partsFrom x 2 (c+2) r).map sg)=_
  obtain⟨p,t,e⟩:=StrLaws.partsFrom_ne x 2 (c+2) r
  rw[A9w (by rw[e];simp),ih,Bl8]
  have ed:(sg x).drop s=((sg x).drop s).take (c-s)++a::b::(sg x).drop (c+2):=by
   rw[<- Bw1 q0 q1];have:=(List.take_append_drop (c-s) ((sg x).drop s)).symm
   rw[List.drop_drop,show s+(c-s)=c by omega]at this
   exact this
  have lt:(((sg x).drop s).take (c-s)).length=c-s:=by rw[bK,bV];omega
  conv=>rhs;rw[ed]
  rw[A6i];intro k hk q;rw[lt]at hk;rw[<- ed,gw,gw]at q
  exact h3 (s+k) (by omega) (by omega) (at2.mpr q)
theorem B0d (x z:Str)(a b:Nat):sg (Txt.replace x ⟨#[a,b]⟩ z)=rep2 a b (sg z) (sg x):=by
 obtain⟨f,h,hn⟩:=StrLaws.occ_tight x ⟨#[a,b]⟩ (show 1<=2 by decide)
 have g:=A0u (z:=sg z) _ 0 f h hn;rw[fQ]at g;rw[<- g];unfold Txt.replace
 cases he:(Builtin.Str.occurrences x ⟨#[a,b]⟩ 0 x.length (x.length+1)) with
 | nil =>
  show sg x=sg (Builtin.Str.strSub x 0 x.length)
  rw[StrLaws.sub_whole]
 | cons i r =>
  show sg (Builtin.Str.glued z (Builtin.Str.partsBetween x (i::r) 2))=_
  rw[StrLaws.glued_eq_join,Gz,StrLaws.partsBetween_eq]
noncomputable def Oo (c:Nat):List Nat:=if c=92 then [92,92] else if c=39 then [92,39] else [c]
def esc (l:List Nat):List Nat:=l.flatMap Oo
noncomputable def un1 (l:List Nat):List Nat:=l.flatMap λc=>if c=92 then [92,92] else [c]
theorem Wi (c:Nat)(l:List Nat):esc (c::l)=Oo c++esc l:=gq
theorem A0l (c:Nat)(l:List Nat):un1 (c::l)=(if c=92 then [92,92] else [c])++un1 l:=gq
theorem A6d:∀l:List Nat,(l.flatMap λc=>if c=92 then [92,92] else [c]).flatMap (λc=>if c=39 then [92,39] else [c])=esc l
 | []=>rfl
 | c::l=>by
  rw[Wi,<- A6d l,gq,List.flatMap_append]
  congr 1
  unfold Oo
  by_cases h:c=92
  ·subst h;rfl
  ·rw[if_neg h,if_neg h]
   simp
theorem Ba7:∀l:List Nat,(esc l)[0]?≠some 39
 | []=>by simp[esc]
 | c::l=>by
  rw[Wi];unfold Oo
  split
  ·simp
  ·split
   ·simp
   ·simp;assumption
theorem Tc {a b x:Nat}{z:List Nat}:∀{l:List Nat},¬ (x=a/\l[0]?=some b)->rep2 a b z (x::l)=x::rep2 a b z l
 | [],_=>rfl
 | y::r,h=>by
  rw[rep2,if_neg];intro q
  exact h ⟨q.1,by rw[q.2];rfl⟩
theorem Bg6:∀l:List Nat,rep2 92 39 [39] (esc l)=un1 l
 | []=>rfl
 | c::l=>by
  have ih:=Bg6 l;rw[Wi,A0l];unfold Oo
  by_cases h:c=92
  ·subst h
   rw[if_pos rfl,if_pos rfl]
   show rep2 92 39 [39] (92::92::esc l)=92::92::un1 l
   rw[Tc (by simp),Tc λq=>Ba7 l q.2,ih]
  ·by_cases h2:c=39
   ·subst h2
    rw[if_neg h,if_pos rfl,if_neg h]
    show rep2 92 39 [39] (92::39::esc l)=39::un1 l
    rw[rep2,if_pos ⟨rfl,rfl⟩,ih];rfl
   ·rw[if_neg h,if_neg h2,if_neg h]
    show rep2 92 39 [39] (c::esc l)=c::un1 l
    rw[Tc λq=>h q.1,ih]
theorem Bf6:∀l:List Nat,rep2 92 92 [92] (un1 l)=l
 | []=>rfl
 | c::l=>by
  have ih:=Bf6 l;rw[A0l]
  by_cases h:c=92
  ·subst h
   rw[if_pos rfl]
   show rep2 92 92 [92] (92::92::un1 l)=_
   rw[rep2,if_pos ⟨rfl,rfl⟩,ih];rfl
  ·rw[if_neg h]
   show rep2 92 92 [92] (c::un1 l)=_
   rw[Tc λq=>h q.1,ih]
local macro_rules | `(tactic| wp_walk using $ts,*)=>`(tactic| simp only [sI,sT,sFa,Ao,Bo,cgN,cgT,Br,Gn,Aa,cC,cTy,cOp,cUn,Gh,cF,cFO,cFV,cFz,Vu,shown,Kl,T6,Ax0,At8,Ac2,Nz,noL,Yp,cU,eX,eY,eZ,dj,dm,dB,Lx,Tv,slots,pairsOf,ndB,Gx,Ag,Ab,cK,nrm,Eo,Vv,rdP,O.dat,O.flag,O.own,O.bor,frz,frzs,El,Gr,cIf,Aw,Ax,Qx,cOr,My,Hj,Yk,Ly,Hs,Cm,Xy,En,Ck,Ko,Hd,slL,Ke,A0d,A1o,Lb,Qn,Rh,Rg,cSl,cON,cOS,G9,Ye,cIn,R.bind_ok,R.toS_ok,R.bind_bad,R.toS_bad,Dj,Vf,resolve,Fe,Lj,U.opI,U.Qy,Tz,Xo,J4,Jv,K5,Ma,Fw,Il,Ag5,dC,bO,cL,cM,aK,bN,aH,cZ,List.replicate,cN,bx,bw,dD,bL,cJ,bG,dF,cW,aY,aW,dG,dH,dI,bR,dJ,dM,dN,b_,cV,cX,cA,List.dropLast,dO,dR,dU,dW,cB,dX,reduceCtorEq,Rz,Vi,V5,Vk,Wb,O8,Pk,P0,U.H9,aG,Nat.reduceAdd,Nat.reduceSub,Nat.reduceLeDiff,Nat.reduceLT,Nat.reduceEqDiff,Int.reduceAdd,Int.reduceSub,Int.reduceNeg,Int.reduceLT,Int.reduceLE,Int.reducePow,Int.reduceToNat,Int.reduceMul,dY,dZ,aO,bz,cY,cMt,Dd,Hs,cSl,cOS,cON,Hd,$[$ts:term],*])
theorem Am5 {s:List Nat}:∀ls:List (List Nat),(inter s ls).length<=(ls.map List.length).sum+ls.length*s.length
 | []=>aD _
 | [x]=>by simp[inter]
 | x::y::r=>by
  have ih:=Am5 (s:=s) (y::r)
  show (x++s++inter s (y::r)).length<=_
  rw[aM,aM,aK,List.sum_cons,aH,Nat.succ_mul];omega
theorem Af6 (s:Str)(l:v_):(Str.join s l).length<=(l.map (·.length)).sum+l.length*s.length:=by
 have h:=Am5 (s:=sg s) (l.map sg);rw[<- Gz,Eh,Eh,aj,aN]at h
 have e:l.map (List.length ∘ sg)=l.map (·.length):=gn λx _=>Eh x
 rw[e]at h;exact h
theorem Al2 {sep:Str}{ss:v_}{B:Nat}(hB:∀x∈ss,x.length<=B)(h:ss.length*(B+sep.length)<=16000000) :
 ss.toArray.foldl (·+·.length+sep.length) 0<=16000000/\(Jw sep ss).length<=16000000:=by
 have h1:=StrLaws.sumLen_le (B:=B) ss hB;have h2:=Af6 sep ss;rw[StrLaws.joinTotal,Zu];rw[Nat.mul_add]at h
 exact⟨by omega,by omega⟩
theorem Hc {sep:Str}{ss:v_}{B:Nat}(hB:∀x∈ss,x.length<=B)(h:ss.length*(B+sep.length)<=16000000):Iv (.str sep) (.list (ss.map PyData.str))=sI (.str (Str.join sep ss)):=by
 show (strsOf (ss.map PyData.str)).bind _=_
 rw[M9,bG,if_pos (Al2 hB h),Zu]
theorem A3f {sep:Str}{ss:v_}{B:Nat}(hB:∀x∈ss,x.length<=B)(h:ss.length*(B+sep.length)<=16000000):Zh (.str sep) (.tuple (ss.map PyData.str))=sI (.str (Str.join sep ss)):=by
 show (strsOf (ss.map PyData.str)).bind _=_
 rw[M9,bG,if_pos (Al2 hB h),Zu]
theorem A3d (sep:Str)(ds:w6):Vd (.str sep) (.list ds)=(strsOf ds).bind λss=>if ss.reverse.toArray.foldl (·+·.length+sep.length) 0<=16000000/\(Jw sep ss.reverse).length<=16000000 then some (.im (.str (Jw sep ss.reverse))) else none:=rfl
theorem A9p {x:Str}(h:x.length<=1000):Vd (.str "") (.list [.str x])=sI (.str x):=by
 have e:strsOf [PyData.str x]=some [x]:=M9 [x];rw[A3d,e,bG,if_pos]
 ·rfl
 ·exact⟨by show 0+x.length+0<=16000000;omega,by show x.length<=16000000;omega⟩
theorem s92:Str.ofString "\\" = ⟨#[92]⟩:=by decide +kernel
theorem s39:Str.ofString "'" = ⟨#[39]⟩:=by decide +kernel
theorem B0y:Str.ofString "\\\\" = ⟨#[92,92]⟩:=by decide +kernel
theorem B0v:Str.ofString "\\'" = ⟨#[92,39]⟩:=by decide +kernel
def qt (l:List Nat):Str:=mkS (39::(esc l++[39]))
theorem Vw {f:Nat->List Nat}(h:∀c,(f c).length<=2):∀l:List Nat,(l.flatMap f).length<=2*l.length
 | []=>ak _
 | c::l=>by
  rw[gq,aM,aH];have:=Vw h l;have:=h c;omega
theorem Wg (l:List Nat):(esc l).length<=2*l.length:=Vw (λc=>by unfold Oo;split;exact ak _;split <;> simp) l
theorem B1h (x:Str):sg (Txt.replace x (Str.ofString "\\") (Str.ofString "\\\\"))=un1 (sg x):=by
 rw[s92,B0y,B0m];rfl
theorem B5v (x:Str):Txt.replace (Txt.replace x (Str.ofString "\\") (Str.ofString "\\\\")) (Str.ofString "'") (Str.ofString "\\'")=mkS (esc (sg x)):=by
 apply Ky;rw[s39,B0v,B0m,B1h];exact A6d (sg x)
theorem B2z (x:Str):(Txt.replace x (Str.ofString "\\") (Str.ofString "\\\\")).length<=2*x.length:=by
 rw[<- Eh,B1h,<- Eh x]
 exact Vw (λc=>by split <;> simp) (sg x)
theorem Bn3 (l:List Nat):Str.ofString "'" ++ mkS (esc l)++Str.ofString "'" = qt l:=by
 apply Ky;rw[Pq,Pq,s39]
 rfl
theorem Kh (l:List Nat):(mkS l).length=l.length:=by rw[<- Eh];rfl
theorem Qq {x:Str}(hl:x.length<=1000):Ez [.im (.str x)]=.ret (.im (.str (qt (sg x)))) [.im (.str x)]:=by
 have l1:=B2z x;have l2:=Wg (sg x);rw[Eh]at l2
 have e1:Oi (Str.ofString "\\") (Str.ofString "\\\\") (.str x)=sI (.str (Txt.replace x (Str.ofString "\\") (Str.ofString "\\\\"))):=if_pos (by omega)
 have e2:Oi (Str.ofString "'") (Str.ofString "\\'") (.str (Txt.replace x (Str.ofString "\\") (Str.ofString "\\\\")))=sI (.str (mkS (esc (sg x)))):=by rw[<- B5v];exact if_pos (by omega)
 have e3:Am (.str "'") (.str (mkS (esc (sg x))))=sI (.str (Str.ofString "'" ++ mkS (esc (sg x)))):=if_pos (by rw[Kh,s39];show 1+_<=_;omega)
 have e4:Am (.str (Str.ofString "'" ++ mkS (esc (sg x)))) (.str "'")=sI (.str (qt (sg x))):=by
  rw[<- Bn3]
  exact if_pos (by rw[Str.length_append,Kh,s39];show 1+_+1<=_;omega)
 generalize mkS (esc (sg x))=z at *
 generalize Txt.replace x (Str.ofString "\\") (Str.ofString "\\\\")=y at *
 wp_walk using Ez,Ln,e1,e2,e3,e4
open PySem.NumText in
theorem Bx1 (k:Nat):digitsVal (49::List.replicate k 48)=10 ^ k:=by
 induction k with
 | zero=>rfl
 | succ k ih =>
  rw[List.replicate_succ',<- cN,digitsVal_snoc,ih,Nat.pow_succ];omega
theorem B7m {k:Nat}(h:1<=k):Txt.mul (Str.ofString "0") (k:Int)=mkS (List.replicate k 48):=by
 have e0:Str.ofString "0" = ⟨#[48]⟩:=by decide +kernel
 unfold Txt.mul
 rw[if_neg (by omega)]
 by_cases h1:k=1
 ·subst h1
  exact e0
 ·have hb:((k:Int)==1||(Str.ofString "0").length==0)=false:=by
   rw[cH.mpr (show (k:Int)≠1 by omega),e0];rfl
  rw[hb,if_neg aR,e0,bZ]
  have f:∀(n:Nat) (acc:Array Nat),(List.replicate n (#[48]:Array Nat)).foldl (·++·) acc=acc++(List.replicate n 48).toArray:=λn=>by
   induction n with
   | zero=>intro acc;simp
   | succ n ih=>intro acc;rw[cT,cU,ih,cT];apply Array.toList_inj.mp;simp
  show Str.mk ((List.replicate k (#[48]:Array Nat)).foldl (·++·) #[])=_
  rw[f]
  simp[mkS]
open PySem.NumText in
theorem A5m {l:List Nat}(h:∀c∈l,48<=c/\c<=57)(hn:l≠[])(hl:l.length<=640):Sh (.str (mkS l))=sI (.int (digitsVal l:Nat)):=by
 have e:PySem.intText? (mkS l)=some ((digitsVal l:Nat):Int):=intText_digits (x:=mkS l) h hn (by rw[Kh];omega)
 show (if (mkS l).length<=640 then _ else none)=_
 rw[if_pos (by rw[Kh];exact hl),e];rfl
theorem Ag3 {k:Nat}(h1:1<=k)(h2:k<=600):Bs [.im (.int (k:Int))]=.ret (.im (.int ((10 ^ k:Nat):Int))) [.im (.int (k:Int))]:=by
 have e1:Ui (.str "0") (.int (k:Int))=sI (.str (mkS (List.replicate k 48))):=by
  rw[<- B7m h1]
  exact if_pos ⟨⟨by omega,by omega⟩,by decide +kernel⟩
 have e2:Am (.str "1") (.str (mkS (List.replicate k 48)))=sI (.str (mkS (49::List.replicate k 48))):=by
  have e0:Str.ofString "1" = ⟨#[49]⟩:=by decide +kernel
  have e:Str.ofString "1" ++ mkS (List.replicate k 48)=mkS (49::List.replicate k 48):=Ky (by rw[Pq,e0];rfl)
  rw[<- e]
  exact if_pos (by rw[Kh,gJ,e0];show 1+k<=_;omega)
 have e3:Sh (.str (mkS (49::List.replicate k 48)))=sI (.int ((10 ^ k:Nat):Int)):=by
  rw[<- Bx1]
  refine A5m (λc hc=>?_) (by simp) (by rw[aH,gJ];omega)
  rcases au.mp hc with rfl | hc
  ·omega
  ·rw[List.eq_of_mem_replicate hc];omega
 wp_walk using Bs,Iw,e1,e2,e3
noncomputable def nS (i:Int):Str:=Str.ofString (toString i)
def dg (m:Nat):List Nat:=sg (nS m)
theorem A2e (m:Nat):dg m=(Nat.toDigits 10 m).map Char.toNat:=PySem.W.KIN.signs_num m
theorem Uo {m c:Nat}(h:c∈dg m):48<=c/\c<=57:=by
 rw[A2e]at h;obtain⟨ch,hch,e⟩:=aA.mp h
 have r:=PyProof.Rows.digit_range (Nat.isDigit_of_mem_toDigits (by decide) (by decide) hch)
 rw[<- e];exact r
open PySem.NumText in
theorem B3v (m:Nat):digitsVal (dg m)=m:=by rw[A2e];exact PySem.W.KIN.val_back m
theorem Am2 (m:Nat):dg m≠[]:=by
 rw[A2e,ne_eq,List.map_eq_nil_iff]
 by_cases h:m<10
 ·rw[iD h];simp
 ·intro e
  have t:=Nat.toDigits_append_toDigits (b:=10) (n:=m / 10) (d:=m % 10) (by decide) (by omega) (Nat.mod_lt _ (by decide))
  rw[Nat.div_add_mod,e,iD (Nat.mod_lt _ (by decide))]at t
  simp at t
theorem As7:∀m:Nat,m≠0->(dg m)[0]?≠some 48:=by
 intro m;rw[A2e]
 induction m using Nat.strongRecOn with
 | _ m ih =>
  intro hm
  by_cases h:m<10
  ·rw[iD h]
   have:∀d:Nat,d<10->d≠0->(Nat.digitChar d).toNat≠48:=by decide
   simpa using this m h hm
  ·have t:=Nat.toDigits_append_toDigits (b:=10) (n:=m / 10) (d:=m % 10) (by decide) (by omega) (Nat.mod_lt _ (by decide))
   rw[Nat.div_add_mod]at t;rw[<- t,aV]
   have i2:=ih (m / 10) (by omega) (by omega)
   have ne:=Am2 (m / 10);rw[A2e]at ne
   cases e:(Nat.toDigits 10 (m / 10)).map Char.toNat with
   | nil=>exact absurd e ne
   | cons x r=>rw[e]at i2;exact i2
theorem Xr {i:Int}(h:i.natAbs<10 ^ 13):(nS i).length<=14:=by
 have e:=PySem.int_text_length_le10 (k:=13) (by decide) h
 rw[<- Eh]
 show (Str.ofString (toString i)).cps.toList.length<=14
 rw[gR,aj];exact e
theorem Aa0 {m:Nat}(h:m≠0):nS (-(m:Int))=Str.ofString "-" ++ nS m:=by
 obtain⟨k,rfl⟩:=Nat.exists_eq_succ_of_ne_zero h;apply Ky;rw[Pq]
 show (Str.ofString (toString (Int.negSucc k))).cps.toList=(Str.ofString "-").cps.toList++(Str.ofString (toString (Int.ofNat (k+1)))).cps.toList
 rw[gR,gR,gR]
 show (("-" ++ (Nat.repr (k+1))).toList.map Char.toNat) = "-".toList.map Char.toNat++(Nat.repr (k+1)).toList.map Char.toNat
 rw[String.toList_append,aV]
theorem Bo0 {ft:m6}{body:Ev->SR}{n:Nat}{c c1:Ev}(h:ft c=.ok false c1):Pr ft body (n+1) c=.nx c1:=by
 unfold Pr;rw[h];rfl
theorem Ao5 {i:Int}(h:i.natAbs<10 ^ 13):A7i (.int i)=sI (.str (nS i)):=by
 have:i.natAbs.log2<1920:=by
  by_cases hz:i.natAbs=0
  ·rw[hz];decide
  ·exact aC ((Nat.log2_lt hz).mpr (aC h (by decide:10 ^ 13<=2 ^ 44))) (by decide)
 exact if_pos this
theorem Ra {n m:Nat}(h:m<10 ^ 13):Ce (n+1) [.im (.int m)]=.ret (.im (.str (nS m))) [.im (.int m)]:=by
 have hb:(m:Int).natAbs<10 ^ 13:=by omega
 have e1:=Ao5 hb
 have e2:=A9p (x:=nS m) (by have:=Xr hb;omega)
 have e3:=Ag3 (k:=64) (by decide) (by decide)
 have e4:(decide (((10 ^ 64:Nat):Int)<=(m:Int)))=false:=aB (by omega)
 have e5:(decide ((m:Int)<0))=false:=aB (by omega)
 generalize ((10 ^ 64:Nat):Int)=z at *
 show Dj 1 4 (Fy (Ce n)) [.im (.int m)]=_
 have ew:∀c:Ev,c=[sI (.int m),sI (.int z),sFa [],sI (.int m)]->Pr (Aw (cOp Xo (Aa 3) (Aa 1))) (Ao Ko (Bo (cOp Jv (Aa 3) (Aa 1)) (cgN 3))) 4 c=.nx c:=λc hc=>by
  subst hc
  exact Bo0 (by wp_walk using e4)
 have ew:=ew _ rfl;have e3:Bs [.im (.int 64)]=.ret (.im (.int z)) [.im (.int 64)]:=e3
 wp_walk using Fy,Qo,e5,e3,ew,e1,e2,Nat.zero_lt_succ
theorem Vz {i:Int}(h:i.natAbs<10 ^ 13):Ce 2 [.im (.int i)]=.ret (.im (.str (nS i))) [.im (.int i)]:=by
 by_cases hi:i<0
 ·obtain⟨m,hm⟩:=bQ (show 0<=-i by omega)
  have e1:=Ra (n:=0) (m:=m) (by omega)
  have e2:=Aa0 (m:=m) (by omega)
  rw[show -(m:Int)=i by omega]at e2
  have l:=Xr (i:=m) (by omega)
  have e3:Am (.str "-") (.str (nS m))=sI (.str (nS i)):=by
   rw[e2]
   exact if_pos (by rw[show (Str.ofString "-").length=1 by decide +kernel];omega)
  show Dj 1 4 (Fy (Ce 1)) [.im (.int i)]=_
  wp_walk using Fy,Qo,aq hi,Ag6,hm,e1,e3
 ·obtain⟨m,rfl⟩:=bQ (show 0<=i by omega)
  exact Ra (n:=1) (by omega)
def wS:Vl->Str
 | .non=>Str.ofString "-"
 | .int i=>nS i
 | .str x=>qt (sg x)
theorem Aw4 {i:Int}(h:VB (.int i)):i.natAbs<10 ^ 13:=by
 obtain⟨h0,h1⟩:=aF.mp (show (decide (-1000000000000<=i)&&decide (i<=1000000000000))=true from h)
 have h0:=aQ h0;have h1:=aQ h1;omega
theorem Ae3 {x:Str}(h:VB (.str x)):x.length<=40/\∀c∈sg x,32<=c/\c<=126:=by
 obtain⟨h0,h1⟩:=aF.mp (show (decide (x.length<=40)&&x.cps.toList.all λc=>decide (32<=c)&&decide (c<=126))=true from h)
 refine⟨aQ h0,λc hc=>?_⟩
 have:=aX.mp h1 c hc
 simpa using this
theorem B3e (l:List Nat):(qt l).length<=2*l.length+2:=by
 unfold qt;rw[Kh,aH,aM];have:=Wg l
 show _+1+1<=_
 omega
theorem A2z {v:Vl}(h:VB v):(wS v).length<=82:=by
 cases v with
 | non=>decide +kernel
 | int i=>exact ao (Xr (Aw4 h)) (by decide)
 | str x =>
  have:=B3e (sg x);have l:=(Ae3 h).1;rw[Eh]at this
  show (qt (sg x)).length<=82
  omega
theorem Xl {v:Vl}(h:VB v):Du [.im v.d]=.ret (.im (.str (wS v))) [.im v.d]:=by
 cases v with
 | non=>wp_walk using Du,Gp,Vl.d,Fv,wS
 | int i=>wp_walk using Du,Gp,Vl.d,Fv,By,Gg,Vz (Aw4 h),wS
 | str x=>wp_walk using Du,Gp,Vl.d,Fv,By,Gg,Qq (x:=x) (by have:=(Ae3 h).1;omega),wS
theorem A5j {fe:m7}{vs:j4}{F:Vl->o5}{c:Ev}{i:Nat}(hx:c[i]?=some (sI (tD vs)))(hl:vs.length<=1000)
 (hs:∀v∈vs,∀t:m_,Il (cgN 0) Ax fe v.d [t]=.ok (some (F v)) [sI v.d]) :
 cLC [none] (Bp (Aa i)) (cgN 0) Ax fe c=.ok (.o (.ls false (vs.map F))) c:=by
 obtain⟨cI,e,hI⟩:=Fp (g:=cgN 0) (ft:=Ax) (fe:=fe) (I:=λc=>∃t,c=[t]) (f:=Vl.d) (G:=F) (xs:=vs) (acc:=[]) (c:=[none]) ⟨none,rfl⟩
  (λv c hv hc=>by obtain⟨t,rfl⟩:=hc;exact⟨_,hs v hv t,_,rfl⟩)
 obtain⟨t,rfl⟩:=hI
 refine Gs (ds:=vs.map Vl.d) (c1:=c) ?_ (by rw[aj];omega) (by simpa[cIn] using e) ?_
 ·unfold Bp Aa
  simp only[hx,R.bind_ok,nrm,frz,tD]
 ·rfl
def Qv (w:Str)(vs:j4):Str:=Str.join (Str.ofString " ") (w::vs.map wS)
theorem strs_map (vs:j4):(vs.map λv=>PyData.str (wS v))=(vs.map wS).map PyData.str:=by rw[aN];rfl
theorem Af0 {w:Str}{vs:j4}(hw:w.length<=10)(h:VBs vs)(hl:vs.length<=12):(∀x∈w::vs.map wS,x.length<=82)/\(w::vs.map wS).length*(82+(Str.ofString " ").length)<=16000000:=by
 refine⟨λx hx=>?_,?_⟩
 ·rcases au.mp hx with rfl | hx
  ·omega
  ·obtain⟨v,hv,rfl⟩:=aA.mp hx
   exact A2z (h v hv)
 ·rw[aH,aj,show (Str.ofString " ").length=1 by decide +kernel]
  omega
theorem Nb {w:Str}{vs:j4}(hw:w.length<=10)(h:VBs vs)(hl:vs.length<=12) :
 Dp [.im (.str w),.im (tD vs)]=.ret (.im (.str (Qv w vs))) [.im (.str w),.im (tD vs)]:=by
 have e1:=A5j (fe:=cF Du (Ab (Aa 0) Ag)) (F:=λv=>.str (wS v)) (c:=[sI (.str w),sI (tD vs)]) (i:=1) rfl (by omega) (λv hv t=>by
  wp_walk using Xl (h v hv))
 rw[strs_map]at e1
 have e2:Am (.list [.str w]) (.list ((vs.map wS).map PyData.str))=sFa ((w::vs.map wS).map PyData.str):=if_pos (by rw[aj,aj];show 1+_<=_;omega)
 obtain⟨f1,f2⟩:=Af0 hw h hl;have e3:=Hc f1 f2
 generalize (w::vs.map wS).map PyData.str=L at *
 generalize (vs.map wS).map PyData.str=L2 at *
 wp_walk using Dp,Rq,e1,e2,e3,Qv
theorem O1 {c:Str}(h:Ci (.str c)=true):0<c.length/\c.length<9/\∀x∈sg c,Tt x=true:=by
 obtain⟨h0,h1⟩:=aF.mp (show (decide (0<c.length)&&(decide (c.length<9)&&c.cps.toList.all Tt))=true from h)
 obtain⟨h1,h2⟩:=aF.mp h1;exact⟨aQ h0,aQ h1,aX.mp h2⟩
theorem sum_bound {ss:v_}{B:Nat}(hB:∀x∈ss,x.length<=B):(Str.join (Str.ofString " ") ss).length<=ss.length*B+ss.length:=by
 have h1:=StrLaws.sumLen_le (B:=B) ss hB;have h2:=Af6 (Str.ofString " ") ss
 rw[show (Str.ofString " ").length=1 by decide +kernel]at h2
 omega
theorem A6y {fe:m7}{fi:Ev->R (w6)}{rs:k_}{F:j4->o5}{c:Ev}(hi:fi c=.ok (rs.map tD) c)(hl:rs.length<=1000)
 (hs:∀r∈rs,∀t:m_,Il (cgN 0) Ax fe (tD r) [t]=.ok (some (F r)) [sI (tD r)]) :
 cLC [none] fi (cgN 0) Ax fe c=.ok (.o (.ls false (rs.map F))) c:=by
 obtain⟨cI,e,hI⟩:=Fp (g:=cgN 0) (ft:=Ax) (fe:=fe) (I:=λc=>∃t,c=[t]) (f:=tD) (G:=F) (xs:=rs) (acc:=[]) (c:=[none]) ⟨none,rfl⟩
  (λv c hv hc=>by obtain⟨t,rfl⟩:=hc;exact⟨_,hs v hv t,_,rfl⟩)
 obtain⟨t,rfl⟩:=hI
 exact Gs (ds:=rs.map tD) (c1:=c) hi (by rw[aj];omega) (by simpa[cIn] using e) rfl
structure Wx (w:Wd):Prop where
 nms:∀c∈w.key++w.names++w.vals,Ci (.str c)=true
 nod:(w.key++w.names++w.vals).Nodup
 vpos:1<=w.vals.length
 klen:w.key.length<=2
 nlen:w.names.length<=2
 vlen:w.vals.length<=5
 heads:∀h∈w.heads,h.length=w.names.length/\VBs h
 hnd:w.heads.Nodup
 hlen:w.heads.length<=12
 rows:∀r∈w.rows,A1w w.key.length w.heads.length w.vals.length r
 rnd:(w.rows.map (·.1)).Nodup
 rlen:w.rows.length<=12
def Eb:Option (j4)->v_
 | none=>[Str.ofString "_"]
 | some c=>c.map wS
def J8 (cs:List (Option (j4))):v_:=(cs.map λc=>Str.ofString ":" :: Eb c).flatten
noncomputable def Di (w:Wd):v_:=Str.ofString "wide" :: (w.key++Str.ofString "/" :: (w.names++Str.ofString "/" :: w.vals))
def Cr (r:List Vl×List (Option (j4))):v_:=Str.ofString "part" :: (r.1.map wS++J8 r.2)
def Gi (w:Wd):List (v_):=Di w::(w.heads.map (λh=>Str.ofString "head" :: h.map wS)++w.rows.map Cr)
noncomputable def jn (ws:v_):Str:=Str.join (Str.ofString " ") ws
def Fg (w:Wd):v_:=(Gi w).map jn
def Bm (w:Wd):Str:=Str.join (Str.ofString "\n") (Fg w)
theorem An3 {s:List Nat}:∀{a b:List (List Nat)},a≠[]->b≠[]->inter s (a++b)=inter s a++s++inter s b
 | [],_,h,_=>absurd rfl h
 | [x],[],_,h=>absurd rfl h
 | [x],y::r,_,_=>rfl
 | x::y::r,b,_,h=>by
  show x++s++inter s (y::r++b)=x++s++inter s (y::r)++s++inter s b
  rw[An3 (by simp) h];simp[bW]
theorem Xw {s:List Nat}:∀ls:List (List (List Nat)),(∀l∈ls,l≠[])->inter s (ls.map (inter s))=inter s ls.flatten
 | [],_=>rfl
 | [l],_=>by simp[inter]
 | l::m::r,h=>by
  show inter s l++s++inter s ((m::r).map (inter s))=_
  have:=h m (.tail _ (.head _))
  rw[Xw (m::r) λx hx=>h x (.tail _ hx)]
  exact(An3 (h l (.head _)) (by simp[this])).symm
theorem B5a (wss:List (v_))(h:∀ws∈wss,ws≠[]):jn (wss.map jn)=jn wss.flatten:=by
 apply Ky;unfold jn;rw[Gz,Gz,aN,List.map_flatten]
 have:(wss.map (sg ∘ λws=>Str.join (Str.ofString " ") ws))=(wss.map (List.map sg)).map (inter (sg (Str.ofString " "))):=by
  rw[aN]
  exact gn λws _=>Gz _ _
 rw[this]
 exact Xw _ λl hl=>by
  obtain⟨ws,hws,rfl⟩:=aA.mp hl
  simpa using h ws hws
def Ls:Option (j4)->Str
 | none=>Str.ofString ": _"
 | some c=>Qv (Str.ofString ":") c
theorem Bp4:∀c:Option (j4),Ls c=jn (Str.ofString ":" :: Eb c)
 | none=>by decide +kernel
 | some c=>rfl
theorem Bq0 (r:List Vl×List (Option (j4))):jn (Qv (Str.ofString "part") r.1::r.2.map Ls)=jn (Cr r):=by
 have e:Qv (Str.ofString "part") r.1::r.2.map Ls=((Str.ofString "part" :: r.1.map wS)::r.2.map λc=>Str.ofString ":" :: Eb c).map jn:=by
  rw[aK,aN]
  exact bj _ (gn λc _=>Bp4 c)
 rw[e,B5a _ λws h=>by
  rcases au.mp h with rfl | h
  ·simp
  ·obtain⟨c,_,rfl⟩:=aA.mp h;simp]
 rfl
structure A7n (ws:v_):Prop where
 ne:ws≠[]
 len:ws.length<=80
 sz:∀x∈ws,x.length<=82
theorem Ay1 {c:Option (j4)}(h:Mv n c)(hn:n<=5):(Eb c).length<=5/\∀x∈Eb c,x.length<=82:=by
 cases c with
 | none=>exact⟨by decide,λx hx=>by rw[az.mp hx];decide +kernel⟩
 | some vs =>
  obtain⟨hl,hv⟩:=h vs rfl
  refine⟨by show (vs.map wS).length<=5;rw[aj];omega,λx hx=>?_⟩
  obtain⟨v,hm,rfl⟩:=aA.mp hx;exact A2z (hv v hm)
theorem An9 {n:Nat}(hn:n<=5):∀{cs:List (Option (j4))},(∀c∈cs,Mv n c)->(J8 cs).length<=6*cs.length/\∀x∈J8 cs,x.length<=82
 | [],_=>⟨ak _,λx hx=>nomatch hx⟩
 | c::cs,h=>by
  obtain⟨a1,a2⟩:=Ay1 (h c (.head _)) hn
  obtain⟨b1,b2⟩:=An9 hn (cs:=cs) λc hc=>h c (.tail _ hc)
  have e:J8 (c::cs)=Str.ofString ":" :: Eb c++J8 cs:=rfl;rw[e]
  refine⟨by simp;omega,λx hx=>?_⟩
  rcases aP.mp hx with hx | hx
  ·rcases au.mp hx with rfl | hx
   ·decide +kernel
   ·exact a2 x hx
  ·exact b2 x hx
theorem Ap6 {vs:j4}(h:VBs vs):∀x∈vs.map wS,x.length<=82:=λx hx=>by
 obtain⟨v,hm,rfl⟩:=aA.mp hx;exact A2z (h v hm)
theorem Aa1 {w:Wd}(h:Wx w){r:List Vl×List (Option (j4))}(hr:r∈w.rows):A7n (Cr r):=by
 have g:=h.rows r hr;obtain⟨b1,b2⟩:=An9 h.vlen g.cells;have h1:=h.klen;have h2:=h.hlen;have h3:=g.plen;have h4:=g.clen
 refine⟨by unfold Cr;simp,by unfold Cr;simp;omega,λx hx=>?_⟩
 rcases au.mp hx with rfl | hx
 ·decide +kernel
 ·rcases aP.mp hx with hx | hx
  ·exact Ap6 g.part x hx
  ·exact b2 x hx
theorem B5p {w:Wd}(h:Wx w){x:Str}(hx:x∈w.key++w.names++w.vals):x.length<=82:=by
 have:=(O1 (h.nms x hx)).2.1;omega
theorem An8 {w:Wd}{x:Str}(hx:x∈Di w):x=Str.ofString "wide" \/ x=Str.ofString "/" \/ x∈w.key++w.names++w.vals:=by
 unfold Di at hx;simp only[au,aP]at hx ⊢
 rcases hx with h | h | h | h | h | h
 ·exact .inl h
 ·exact .inr (.inr (.inl (.inl h)))
 ·exact .inr (.inl h)
 ·exact .inr (.inr (.inl (.inr h)))
 ·exact .inr (.inl h)
 ·exact .inr (.inr (.inr h))
theorem Af2 {w:Wd}(h:Wx w):A7n (Di w):=by
 have h1:=h.klen;have h2:=h.nlen;have h3:=h.vlen
 refine⟨by unfold Di;simp,by unfold Di;simp;omega,λx hx=>?_⟩
 rcases An8 hx with rfl | rfl | hx
 ·decide +kernel
 ·decide +kernel
 ·exact B5p h hx
theorem Am9 {w:Wd}(h:Wx w):∀ws∈Gi w,A7n ws:=λws hws=>by
 rcases au.mp hws with rfl | hws
 ·exact Af2 h
 ·rcases aP.mp hws with hws | hws
  ·obtain⟨hd,hm,rfl⟩:=aA.mp hws
   obtain⟨g1,g2⟩:=h.heads hd hm;have:=h.nlen
   refine⟨by simp,by simp;omega,λx hx=>?_⟩
   rcases au.mp hx with rfl | hx
   ·decide +kernel
   ·exact Ap6 g2 x hx
  ·obtain⟨r,hr,rfl⟩:=aA.mp hws
   exact Aa1 h hr
theorem Bj6 {ws:v_}(h:A7n ws):(jn ws).length<=7000:=by
 have:=sum_bound h.sz;have l:=h.len;unfold jn;omega
theorem Up {w:Wd}(h:Wx w):(Fg w).length<=25:=by
 have h1:=h.hlen;have h2:=h.rlen;unfold Fg Gi
 simp
 omega
theorem Uv {w:Wd}(h:Wx w):(∀x∈Fg w,x.length<=7000)/\(Fg w).length*(7000+(Str.ofString "\n").length)<=16000000:=by
 refine⟨λx hx=>?_,?_⟩
 ·obtain⟨ws,hws,rfl⟩:=aA.mp hx
  exact Bj6 (Am9 h ws hws)
 ·have:=Up h
  rw[show (Str.ofString "\n").length=1 by decide +kernel]
  omega
theorem Y5 {ws:v_}(h:A7n ws):ws.length*(82+(Str.ofString " ").length)<=16000000:=by
 have:=h.len
 rw[show (Str.ofString " ").length=1 by decide +kernel]
 omega
theorem Yq {n:Nat}{c:Option (j4)}(h:Mv n c)(hn:n<=5):Ds [.im (Ba c)]=.ret (.im (.str (Ls c))) [.im (Ba c)]:=by
 cases c with
 | none=>wp_walk using Ds,Iz,Ba,Fv,Ls
 | some vs =>
  obtain⟨hl,hv⟩:=h vs rfl
  have e1:=Nb (w:=Str.ofString ":") (by decide +kernel) hv (by omega)
  have e2:Fv false (tD vs) .none=sI (.bool false):=rfl
  show Ds [.im (tD vs)]=.ret (.im (.str (Qv (Str.ofString ":") vs))) [.im (tD vs)]
  generalize Qv (Str.ofString ":") vs=z at *
  generalize tD vs=d at *
  wp_walk using Ds,Iz,e2,e1
theorem Yx {w:Wd}(h:Wx w){r:List Vl×List (Option (j4))}(hr:r∈w.rows) :
 Ey [.im (tD r.1),.im (.tuple (r.2.map Ba))]=.ret (.im (.str (jn (Cr r)))) [.im (tD r.1),.im (.tuple (r.2.map Ba))]:=by
 have g:=h.rows r hr;have h1:=h.klen;have h2:=h.hlen;have h3:=g.plen;have h4:=g.clen
 have e1:=Nb (w:=Str.ofString "part") (vs:=r.1) (by decide +kernel) g.part (by omega)
 obtain⟨cI,e2,t,rfl⟩:=Fp (g:=cgN 0) (ft:=Ax) (fe:=cF Ds (Ab (Aa 0) Ag)) (I:=λc=>∃t,c=[t]) (f:=Ba) (G:=λc=>PyData.str (Ls c)) (xs:=r.2) (acc:=[]) (c:=[none]) ⟨none,rfl⟩
  (λv c hv hc=>by
   obtain⟨t,rfl⟩:=hc
   refine⟨[sI (Ba v)],?_,_,rfl⟩
   have e:=Yq (g.cells v hv) h.vlen
   generalize Ba v=d at *
   generalize Ls v=z at *
   wp_walk using e)
 have es:(r.2.map λc=>PyData.str (Ls c))=(r.2.map Ls).map PyData.str:=by rw[aN];rfl
 rw[es]at e2
 have e3:cLC [none] (Bp (Aa 1)) (cgN 0) Ax (cF Ds (Ab (Aa 0) Ag)) [sI (tD r.1),sI (.tuple (r.2.map Ba))]=.ok (.o (.ls false ((r.2.map Ls).map PyData.str))) [sI (tD r.1),sI (.tuple (r.2.map Ba))] :=
  Gs (ds:=r.2.map Ba) (c1:=[sI (tD r.1),sI (.tuple (r.2.map Ba))]) (by
   generalize r.2.map Ba=L at *
   wp_walk using Bp) (by rw[aj];omega) (by simpa[cIn] using e2) rfl
 have e4:Am (.list [.str (Qv (Str.ofString "part") r.1)]) (.list ((r.2.map Ls).map PyData.str))=sFa ((Qv (Str.ofString "part") r.1::r.2.map Ls).map PyData.str):=if_pos (by rw[aj,aj];show 1+_<=_;omega)
 have sz:∀x∈Qv (Str.ofString "part") r.1::r.2.map Ls,x.length<=1200:=λx hx=>by
  rcases au.mp hx with rfl | hx
  ·have:=sum_bound (Af0 (w:=Str.ofString "part") (by decide +kernel) g.part (by omega:r.1.length<=12)).1
   rw[aH,aj]at this;unfold Qv;omega
  ·obtain⟨c,hc,rfl⟩:=aA.mp hx
   cases c with
   | none=>decide +kernel
   | some vs =>
    obtain⟨hl,hv⟩:=g.cells _ hc vs rfl;have hvl:=h.vlen
    have:=sum_bound (Af0 (w:=Str.ofString ":") (by decide +kernel) hv (by omega)).1
    rw[aH,aj]at this
    show (Qv (Str.ofString ":") vs).length<=_
    unfold Qv;omega
 have e5:=Hc (sep:=Str.ofString " ") sz (by rw[aH,aj,show (Str.ofString " ").length=1 by decide +kernel];omega)
 rw[show Str.join (Str.ofString " ") (Qv (Str.ofString "part") r.1::r.2.map Ls)=jn (Cr r) from Bq0 r]at e5
 generalize (Qv (Str.ofString "part") r.1::r.2.map Ls).map PyData.str=L1 at *
 generalize (r.2.map Ls).map PyData.str=L2 at *
 generalize Qv (Str.ofString "part") r.1=z1 at *
 generalize jn (Cr r)=z2 at *
 generalize r.2.map Ba=L3 at *
 generalize tD r.1=d at *
 wp_walk using Ey,Qu,e1,e3,e4,e5
theorem Ur {a b:v_}(h:a.length+b.length<=16000000):Am (nD a) (nD b)=sI (nD (a++b)):=by
 show (if (a.map PyData.str).length+(b.map PyData.str).length<=16000000 then some (O.im (.tuple (a.map PyData.str++b.map PyData.str))) else none)=_
 rw[aj,aj,if_pos h,<- aV];rfl
theorem G8 {w:Wd}(h:Wx w):De [.im w.d]=.ret (.im (.str (Bm w))) [.im w.d]:=by
 have h1:=h.klen;have h2:=h.nlen;have h3:=h.vlen;have h4:=h.hlen;have h5:=h.rlen
 have a1:=Ur (a:=[Str.ofString "wide"]) (b:=w.key) (by simp;omega)
 have a2:=Ur (a:=[Str.ofString "wide"]++w.key) (b:=[Str.ofString "/"]) (by simp;omega)
 have a3:=Ur (a:=[Str.ofString "wide"]++w.key++[Str.ofString "/"]) (b:=w.names) (by simp;omega)
 have a4:=Ur (a:=[Str.ofString "wide"]++w.key++[Str.ofString "/"]++w.names) (b:=[Str.ofString "/"]) (by simp;omega)
 have a5:=Ur (a:=[Str.ofString "wide"]++w.key++[Str.ofString "/"]++w.names++[Str.ofString "/"]) (b:=w.vals) (by simp;omega)
 have ew:[Str.ofString "wide"]++w.key++[Str.ofString "/"]++w.names++[Str.ofString "/"]++w.vals=Di w:=by unfold Di;simp
 rw[ew]at a5;have g0:=Af2 h;have a6:=A3f (sep:=Str.ofString " ") g0.sz (Y5 g0)
 rw[show Str.join (Str.ofString " ") (Di w)=jn (Di w) from rfl,show PyData.tuple ((Di w).map PyData.str)=nD (Di w) from rfl]at a6
 have e3:=A6y (fe:=cF Dp (Ab (cC (.str "head")) (Ab (Aa 0) Ag))) (fi:=Bp (cOp Ar (Aa 0) (cC (.int 3)))) (rs:=w.heads) (F:=λr=>.str (Qv (Str.ofString "head") r)) (c:=[sI w.d,sI (.str (jn (Di w))),none]) (by wp_walk using Bp,Wd.d,Wd.ps,Ar) (by omega) (λr q u=>by
  have g:=h.heads r q
  wp_walk using Nb (w:=Str.ofString "head") (by decide +kernel) g.2 (by omega))
 have er:(w.heads.map λr=>PyData.str (Qv (Str.ofString "head") r))=(w.heads.map λh=>jn (Str.ofString "head" :: h.map wS)).map PyData.str:=by rw[aN];rfl
 rw[er]at e3
 obtain⟨cI,e6,t,u,rfl⟩:=Fp (g:=cgT 2 (Br (cgN 0) (Br (cgN 1) Gn))) (ft:=Ax) (fe:=cF Ey (Ab (Aa 0) (Ab (Aa 1) Ag))) (I:=λc=>∃t u,c=[t,u]) (f:=Dz) (G:=λr=>PyData.str (jn (Cr r))) (xs:=w.rows) (acc:=[]) (c:=[none,none]) ⟨none,none,rfl⟩
  (λr c hr hc=>by
   obtain⟨t,u,rfl⟩:=hc
   refine⟨[sI (tD r.1),sI (.tuple (r.2.map Ba))],?_,_,_,rfl⟩
   have e:=Yx h hr
   show Il _ _ _ (.tuple [tD r.1,.tuple (r.2.map Ba)]) _=_
   generalize r.2.map Ba=L at *
   generalize tD r.1=d at *
   generalize jn (Cr r)=z at *
   wp_walk using e)
 have ep:(w.rows.map λr=>PyData.str (jn (Cr r)))=((w.rows.map Cr).map jn).map PyData.str:=by rw[aN,aN];rfl
 rw[ep]at e6
 have e7:∀x y,cLC [none,none] (Bp (cOp Ar (Aa 0) (cC (.int 4)))) (cgT 2 (Br (cgN 0) (Br (cgN 1) Gn))) Ax (cF Ey (Ab (Aa 0) (Ab (Aa 1) Ag))) [sI w.d,x,y]=.ok (.o (.ls false (((w.rows.map Cr).map jn).map PyData.str))) [sI w.d,x,y]:=λx y =>
  Gs (ds:=w.rows.map Dz) (c1:=[sI w.d,x,y]) (by wp_walk using Bp,Wd.d,Wd.ps,Ar) (by rw[aj];omega) (by simpa[cIn] using e6) rfl
 have e8:Am (.list [.str (jn (Di w))]) (.list ((w.heads.map λh=>jn (Str.ofString "head" :: h.map wS)).map PyData.str))=sFa ((jn (Di w)::w.heads.map λh=>jn (Str.ofString "head" :: h.map wS)).map PyData.str):=if_pos (by rw[aj,aj];show 1+_<=_;omega)
 have e9:Am (.list ((jn (Di w)::w.heads.map λh=>jn (Str.ofString "head" :: h.map wS)).map PyData.str)) (.list (((w.rows.map Cr).map jn).map PyData.str))=sFa ((Fg w).map PyData.str):=by
  have e:Fg w=(jn (Di w)::w.heads.map λh=>jn (Str.ofString "head" :: h.map wS))++(w.rows.map Cr).map jn:=by
   unfold Fg Gi;rw[aK,aV,aN];rfl
  rw[e,aV]
  exact if_pos (by simp;omega)
 obtain⟨g1,g2⟩:=Uv h;have e10:=Hc g1 g2
 rw[show Str.join (Str.ofString "\n") (Fg w)=Bm w from rfl]at e10
 have i0:Ar w.d (.int 0)=sI (nD w.key):=rfl;have i1:Ar w.d (.int 1)=sI (nD w.names):=rfl;have i2:Ar w.d (.int 2)=sI (nD w.vals):=rfl
 rw[show nD [Str.ofString "wide"]=.tuple [.str "wide"] from rfl]at a1
 rw[show nD [Str.ofString "/"]=.tuple [.str "/"] from rfl]at a2 a4
 generalize (Fg w).map PyData.str=L1 at *
 generalize (jn (Di w)::w.heads.map λh=>jn (Str.ofString "head" :: h.map wS)).map PyData.str=L2 at *
 generalize (w.heads.map λh=>jn (Str.ofString "head" :: h.map wS)).map PyData.str=L3 at *
 generalize ((w.rows.map Cr).map jn).map PyData.str=L4 at *
 generalize jn (Di w)=z1 at *
 generalize Bm w=z2 at *
 generalize nD (Di w)=d6 at *
 generalize nD ([Str.ofString "wide"]++w.key++[Str.ofString "/"]++w.names++[Str.ofString "/"])=d5 at *
 generalize nD ([Str.ofString "wide"]++w.key++[Str.ofString "/"]++w.names)=d4 at *
 generalize nD ([Str.ofString "wide"]++w.key++[Str.ofString "/"])=d3 at *
 generalize nD ([Str.ofString "wide"]++w.key)=d2 at *
 generalize nD w.key=k1 at *
 generalize nD w.names=k2 at *
 generalize nD w.vals=k3 at *
 generalize w.d=D at *
 wp_walk using De,V6,i0,i1,i2,a1,a2,a3,a4,a5,a6,e3,e7,e8,e9,e10
local macro_rules | `(tactic| wp_walk using $ts,*)=>`(tactic| simp only [sI,sT,sFa,Ao,Bo,cgN,cgT,Br,Gn,Aa,cC,cTy,cOp,cUn,Gh,cF,cFO,cFV,cFz,Vu,shown,Kl,T6,Ax0,At8,Ac2,Nz,noL,Yp,cU,eX,eY,eZ,dj,dm,dB,Lx,Tv,slots,pairsOf,ndB,Gx,Ag,Ab,cK,nrm,Eo,Vv,rdP,O.dat,O.flag,O.own,O.bor,frz,frzs,El,Gr,cIf,Aw,Ax,Qx,cOr,My,Hj,Yk,Ly,Hs,Cm,Xy,En,Ck,Ko,Hd,slL,Ke,A0d,A1o,Lb,Qn,Rh,Rg,cSl,cON,cOS,G9,Ye,cIn,R.bind_ok,R.toS_ok,R.bind_bad,R.toS_bad,Dj,Vf,resolve,Fe,Lj,U.opI,U.Qy,Tz,Xo,J4,Jv,K5,Ma,Fw,Il,Ag5,dC,bO,cL,cM,aK,bN,aH,cZ,List.replicate,cN,bx,bw,dD,bL,cJ,bG,dF,cW,aY,aW,dG,dH,dI,bR,dJ,dM,dN,b_,cV,cX,cA,List.dropLast,dO,dR,dU,dW,cB,dX,reduceCtorEq,Rz,Vi,V5,Vk,Wb,O8,Pk,P0,U.H9,aG,Nat.reduceAdd,Nat.reduceSub,Nat.reduceLeDiff,Nat.reduceLT,Nat.reduceEqDiff,Int.reduceAdd,Int.reduceSub,Int.reduceNeg,Int.reduceLT,Int.reduceLE,Int.reducePow,Int.reduceToNat,Int.reduceMul,dY,dZ,aO,bz,cY,cMt,Dd,Hs,cSl,cOS,cON,Hd,$[$ts:term],*])
theorem A8f {fe:m7}{x:Str}{F:Nat->o5}{c:Ev}{i:Nat}(hx:c[i]?=some (sI (.str x)))(hl:x.length<=1000)
 (hs:∀n∈x.cps.toList,∀t:m_,Il (cgN 0) Ax fe (.str ⟨#[n]⟩) [t]=.ok (some (F n)) [sI (.str ⟨#[n]⟩)]) :
 cLC [none] (Vc (Aa i)) (cgN 0) Ax fe c=.ok (.o (.ls false (x.cps.toList.map F))) c:=by
 obtain⟨cI,e,hI⟩:=Fp (g:=cgN 0) (ft:=Ax) (fe:=fe) (I:=λc=>∃t,c=[t]) (f:=λn=>PyData.str ⟨#[n]⟩) (G:=F) (xs:=x.cps.toList) (acc:=[]) (c:=[none]) ⟨none,rfl⟩
  (λn c hn hc=>by obtain⟨t,rfl⟩:=hc;exact⟨_,hs n hn t,_,rfl⟩)
 obtain⟨t,rfl⟩:=hI
 refine Gs (ds:=O9 x) (c1:=c) ?_ ?_ (by simpa[O9,cIn] using e) ?_
 ·unfold Vc Aa
  simp only[hx,R.bind_ok,nrm,Eo,rdP,bG,O.dat]
 ·unfold O9;rw[aj,eN];exact ao hl (by decide)
 ·rfl
noncomputable def marks:Str:=Str.ofString "'\\"
noncomputable def Al0 (c:Nat):Bool:=decide (c=39)||decide (c=92)
theorem Bm6:∀c,c<128->(!(Builtin.Str.occurrences marks ⟨#[c]⟩ 0 marks.length 1).isEmpty)=Al0 c:=by decide +kernel
theorem A7t {c:Nat}(h:c<128):Ms false (.str ⟨#[c]⟩) (.str "'\\")=sI (.bool (Al0 c)):=by
 show some (O.im (.bool (!(Builtin.Str.occurrences marks ⟨#[c]⟩ 0 marks.length 1).isEmpty)))=_
 rw[Bm6 c h]
theorem Bp2 (b:Bool):Ui (.str "\\") (.int (if b then 1 else 0))=sI (.str (mkS (if b then [92] else []))):=by
 cases b
 ·have e:Txt.mul (Str.ofString "\\") 0=mkS []:=by decide +kernel
  show (if (0<=(0:Int)/\(0:Int)<=1000)/\(Str.ofString "\\").length<=1000 then some (O.im (.str (Txt.mul (Str.ofString "\\") 0))) else none)=_
  rw[if_pos (by decide +kernel),e];rfl
 ·have e:Txt.mul (Str.ofString "\\") 1=mkS [92]:=by decide +kernel
  show (if (0<=(1:Int)/\(1:Int)<=1000)/\(Str.ofString "\\").length<=1000 then some (O.im (.str (Txt.mul (Str.ofString "\\") 1))) else none)=_
  rw[if_pos (by decide +kernel),e];rfl
theorem Bb6 {c:Nat}:Am (.str (mkS (if Al0 c then [92] else []))) (.str ⟨#[c]⟩)=sI (.str (mkS (Oo c))):=by
 have e:mkS (if Al0 c then [92] else [])++⟨#[c]⟩=mkS (Oo c):=Ky (by
  rw[Pq]
  show (if Al0 c then [92] else [])++[c]=Oo c
  unfold Al0 Oo
  by_cases h:c=92
  ·subst h;rfl
  ·by_cases h2:c=39
   ·subst h2;rfl
   ·simp[h,h2])
 rw[<- e]
 refine if_pos ?_
 show _+1<=_
 rw[Kh]
 split
 ·show 1+1<=_;omega
 ·show 0+1<=_;omega
theorem Ti:∀ls:List (List Nat),inter [] ls=ls.flatten
 | []=>rfl
 | [x]=>by simp[inter]
 | x::y::r=>by
  show x++[]++inter [] (y::r)=_
  rw[Ti (y::r)]
  simp
theorem Bn8 (l:List Nat):Str.join (Str.ofString "") (l.map λc=>mkS (Oo c))=mkS (esc l):=by
 apply Ky;rw[Gz,aN]
 show inter [] (l.map Oo)=esc l
 rw[Ti]
 rfl
theorem Ar9 {v:Vl}(h:VB v):Ef [.im v.d]=.ret (.im (.str (wS v))) [.im v.d]:=by
 cases v with
 | non=>wp_walk using Ef,Ja,Vl.d,Fv,wS
 | int i=>wp_walk using Ef,Ja,Vl.d,Fv,By,Gg,Ao5 (Aw4 h),wS
 | str x =>
  obtain⟨hl,hc⟩:=Ae3 h
  have e1:=A8f (fe:=cOp Am (cOp Ui (cC (.str "\\")) (cUn Ua (cOp (Ms false) (Aa 0) (cC (.str "'\\"))))) (Aa 0)) (x:=x) (F:=λc=>.str (mkS (Oo c))) (c:=[sI (.str x)]) (i:=0) rfl (by omega) (λn hn t=>by
   have:=(hc n hn).2
   wp_walk using A7t (c:=n) (by omega),Ua,Bp2,Bb6)
  have el:(x.cps.toList.map λc=>PyData.str (mkS (Oo c)))=(x.cps.toList.map λc=>mkS (Oo c)).map PyData.str:=by rw[aN];rfl
  rw[el]at e1
  have e2:=Hc (sep:=Str.ofString "") (ss:=x.cps.toList.map λc=>mkS (Oo c)) (B:=2) (λy hy=>by
   obtain⟨c,_,rfl⟩:=aA.mp hy;rw[Kh];unfold Oo
   split
   ·exact ak _
   ·split <;> simp) (by rw[aj,eN,show (Str.ofString "").length=0 by decide +kernel];show x.length*2<=_;omega)
  rw[Bn8]at e2;have l2:=Wg (sg x);rw[Eh]at l2
  have e3:Am (.str "'") (.str (mkS (esc (sg x))))=sI (.str (Str.ofString "'" ++ mkS (esc (sg x)))):=if_pos (by rw[Kh,s39];show 1+_<=_;omega)
  have e4:Am (.str (Str.ofString "'" ++ mkS (esc (sg x)))) (.str "'")=sI (.str (qt (sg x))):=by
   rw[<- Bn3]
   exact if_pos (by rw[Str.length_append,Kh,s39];show 1+_+1<=_;omega)
  generalize (x.cps.toList.map λc=>mkS (Oo c)).map PyData.str=L at *
  generalize mkS (esc (sg x))=z at *
  wp_walk using Ef,Ja,Vl.d,Fv,By,Gg,e1,e2,e3,e4,wS
theorem Qj {vs:j4}(h:VBs vs)(hl:vs.length<=12):Fo [.im (tD vs)]=.ret (.ls false ((vs.map wS).map PyData.str)) [.im (tD vs)]:=by
 have e1:=A5j (fe:=cF Ef (Ab (Aa 0) Ag)) (F:=λv=>.str (wS v)) (c:=[sI (tD vs)]) (i:=0) rfl (by omega) (λv hv t=>by
  wp_walk using Ar9 (h v hv))
 rw[strs_map]at e1
 generalize (vs.map wS).map PyData.str=L at *
 wp_walk using Fo,Ud,e1
theorem V8 {c d:Nat}:Bg false (.str ⟨#[c]⟩) (.str ⟨#[d]⟩)=sI (.bool (decide (c=d))):=by
 rw[Fb]
 have:((⟨#[c]⟩:Str)=⟨#[d]⟩)=(c=d):=propext ⟨λh=>by cases h;rfl,λh=>by rw[h]⟩
 simp only[this]
 rfl
noncomputable def en:Nat->List Nat->w6
 | _,[]=>[]
 | k,c::r=>.tuple [.int (k:Nat),.str ⟨#[c]⟩]::en (k+1) r
theorem Bl2:∀(a b:List Nat) (k:Nat),en k (a++b)=en k a++en (k+a.length) b
 | [],_,_=>rfl
 | c::a,b,k=>by
  show _::en (k+1) (a++b)=_::(en (k+1) a++_)
  rw[Bl2 a b (k+1),aH,show k+1+a.length=k+(a.length+1) by omega]
theorem B0c:∀(l pre:List Nat),(List.range l.length).map (λj=>PyData.tuple [.int ((pre.length+j:Nat):Int),((pre++l).map λc=>PyData.str ⟨#[c]⟩).getD (pre.length+j) .none])=en pre.length l
 | [],_=>rfl
 | c::l,pre=>by
  rw[aH,List.range_succ_eq_map,aK,aN];have ih:=B0c l (pre++[c]);rw[aM]at ih
  show _::_=_::en (pre.length+1) l
  rw[<- show (pre.length+[c].length)=pre.length+1 from rfl,<- ih]
  congr 1
  ·rw[Nat.add_zero]
   congr 3
   rw[gM,bD,iz (ak _),cA]
   rfl
  ·refine gn λj _=>?_
   show PyData.tuple [.int ((pre.length+(j+1):Nat):Int),_]=PyData.tuple [.int ((pre.length+1+j:Nat):Int),_]
   rw[show pre.length+(j+1)=pre.length+1+j by omega,bW]
   rfl
theorem Bv7 (x:Str):Z2 (O9 x)=en 0 (sg x):=by
 have h:=B0c (sg x) [];unfold Z2 O9;rw[aj];simp only[cZ,aG,bx]at h;exact h
theorem add_sl {a b:v_}(h:a.length+b.length<=16000000):Am (.list (a.map PyData.str)) (.list (b.map PyData.str))=sFa ((a++b).map PyData.str):=by
 show (if (a.map PyData.str).length+(b.map PyData.str).length<=16000000 then some (O.ls false (a.map PyData.str++b.map PyData.str)) else none)=_
 rw[aj,aj,if_pos h,<- aV]
abbrev lcB:Ev->SR:=Bo (cOp Am (cOp Am (Aa 9) (Gr (Ab (cC (.str ":")) Ag))) (Hs (Aw (cOp (Fv false) (Aa 10) (cC (.none)))) (Gr (Ab (cC (.str "_")) Ag)) (cF Fo (Ab (Aa 10) Ag)))) (cgN 9)
theorem Vj {n:Nat}(hn:n<=5){s0 s1 s2 s3 s4 s5 s6 s7 s8:m_}:∀(cs:List (Option (j4))) (ws:v_) (x:m_),(∀c∈cs,Mv n c)->ws.length+6*cs.length<=1000 ->
 ∃y,forL (cgN 10) lcB (cs.map Ba) [s0,s1,s2,s3,s4,s5,s6,s7,s8,sFa (ws.map PyData.str),x]=.nx [s0,s1,s2,s3,s4,s5,s6,s7,s8,sFa ((ws++J8 cs).map PyData.str),y]
 | [],ws,x,_,_=>⟨x,by rw[show ws++J8 []=ws by show ws++[]=ws;simp];rfl⟩
 | c::cs,ws,x,h,hl=>by
  have hc:=h c (.head _);obtain⟨l1,_⟩:=Ay1 hc hn;rw[aH]at hl
  obtain⟨y,e⟩:=Vj (n:=n) hn (s0:=s0) (s1:=s1) (s2:=s2) (s3:=s3) (s4:=s4) (s5:=s5) (s6:=s6) (s7:=s7) (s8:=s8) cs (ws++[Str.ofString ":"]++Eb c) (sI (Ba c)) (λc hc=>h c (.tail _ hc)) (by simp;omega)
  have a1:=add_sl (a:=ws) (b:=[Str.ofString ":"]) (by simp;omega)
  have a2:=add_sl (a:=ws++[Str.ofString ":"]) (b:=Eb c) (by simp;omega)
  have ee:ws++[Str.ofString ":"]++Eb c++J8 cs=ws++J8 (c::cs):=by
   show _=ws++(Str.ofString ":" :: Eb c++J8 cs)
   simp
  rw[ee]at e
  refine⟨y,?_⟩
  rw[aK,Hb (c':=[s0,s1,s2,s3,s4,s5,s6,s7,s8,sFa ((ws++[Str.ofString ":"]++Eb c).map PyData.str),sI (Ba c)]) (.inl ?_)]
  ·exact e
  ·cases c with
   | none =>
    rw[show (Eb none).map PyData.str=[.str "_"] from rfl]at a2
    rw[show [Str.ofString ":"].map PyData.str=[.str ":"] from rfl]at a1
    generalize (ws++[Str.ofString ":"]++Eb none).map PyData.str=L1 at *
    generalize (ws++[Str.ofString ":"]).map PyData.str=L2 at *
    generalize ws.map PyData.str=L3 at *
    wp_walk using lcB,Ba,Fv,a1,a2
   | some vs =>
    obtain⟨hvl,hv⟩:=hc vs rfl
    have e1:=Qj hv (by omega)
    have e2:Fv false (tD vs) .none=sI (.bool false):=rfl
    rw[show [Str.ofString ":"].map PyData.str=[.str ":"] from rfl]at a1
    rw[show Eb (some vs)=vs.map wS from rfl]at a2 ⊢
    generalize (ws++[Str.ofString ":"]++vs.map wS).map PyData.str=L1 at *
    generalize (vs.map wS).map PyData.str=L4 at *
    generalize (ws++[Str.ofString ":"]).map PyData.str=L2 at *
    generalize ws.map PyData.str=L3 at *
    show Fw _ _ (tD vs) _=.nx [s0,s1,s2,s3,s4,s5,s6,s7,s8,sFa L1,sI (tD vs)]
    generalize tD vs=d at *
    wp_walk using lcB,e2,a1,a2,e1
abbrev lpG:n8:=cgT 2 (Br (cgN 7) (Br (cgN 8) Gn))
abbrev lpB:Ev->SR:=Ao (Bo (cOp Am (Gr (Ab (cC (.str "part")) Ag)) (cF Fo (Ab (Aa 7) Ag))) (cgN 9))
 (Ao (Nf (Bp (Aa 8)) (cgN 10) lcB)
 (En (Hd (Aa 6) (cMt Dd Iv (cC (.str " ")) (Aa 9)))))
theorem Az2 {w:Wd}(h:Wx w){r:List Vl×List (Option (j4))}(hr:r∈w.rows){fs:v_}(hf:fs.length<=1000){s0 s1 s2 s3 s4 s5 s7 s8 s9 s10:m_} :
 ∃y7 y8 y9 y10,Fw lpG lpB (Dz r) [s0,s1,s2,s3,s4,s5,sFa (fs.map PyData.str),s7,s8,s9,s10]=.nx [s0,s1,s2,s3,s4,s5,sFa ((fs++[jn (Cr r)]).map PyData.str),y7,y8,y9,y10]:=by
 have g:=h.rows r hr;have h1:=h.klen;have h2:=h.hlen;have h3:=g.plen;have h4:=g.clen
 have e1:=Qj g.part (by omega)
 have a1:=add_sl (a:=[Str.ofString "part"]) (b:=r.1.map wS) (by simp;omega)
 obtain⟨y,e2⟩:=Vj (n:=w.vals.length) h.vlen (s0:=s0) (s1:=s1) (s2:=s2) (s3:=s3) (s4:=s4) (s5:=s5) (s6:=sFa (fs.map PyData.str)) (s7:=sI (tD r.1)) (s8:=sI (.tuple (r.2.map Ba))) r.2 ([Str.ofString "part"]++r.1.map wS) s10 g.cells (by simp;omega)
 rw[show [Str.ofString "part"]++r.1.map wS++J8 r.2=Cr r by unfold Cr;simp]at e2
 have g0:=Aa1 h hr;have e3:=Hc (sep:=Str.ofString " ") g0.sz (Y5 g0)
 rw[show Str.join (Str.ofString " ") (Cr r)=jn (Cr r) from rfl]at e3
 refine⟨some (.im (tD r.1)),sI (.tuple (r.2.map Ba)),sFa ((Cr r).map PyData.str),y,?_⟩
 show Fw lpG lpB (.tuple [tD r.1,.tuple (r.2.map Ba)]) _=_
 have ef:(fs++[jn (Cr r)]).map PyData.str=fs.map PyData.str++[.str (jn (Cr r))]:=by rw[aV];rfl
 rw[ef]
 have lf:(fs.map PyData.str).length<16000000:=by rw[aj];omega
 rw[show [Str.ofString "part"].map PyData.str=[.str "part"] from rfl]at a1
 have e4:forL (cgN 10) lcB (r.2.map Ba) [s0,s1,s2,s3,s4,s5,sFa (fs.map PyData.str),sI (tD r.1),sI (.tuple (r.2.map Ba)),sFa (([Str.ofString "part"]++r.1.map wS).map PyData.str),s10]=.nx [s0,s1,s2,s3,s4,s5,sFa (fs.map PyData.str),sI (tD r.1),sI (.tuple (r.2.map Ba)),sFa ((Cr r).map PyData.str),y]:=e2
 generalize (Cr r).map PyData.str=L1 at *
 generalize ([Str.ofString "part"]++r.1.map wS).map PyData.str=L2 at *
 generalize (r.1.map wS).map PyData.str=L3 at *
 generalize fs.map PyData.str=L4 at *
 generalize jn (Cr r)=z at *
 generalize r.2.map Ba=L5 at *
 generalize tD r.1=d at *
 have e5:=(Np (fi:=Bp (Aa 8)) (ds:=L5) (c:=[s0,s1,s2,s3,s4,s5,sFa L4,sI d,sI (.tuple L5),sFa L2,s10]) (c1:=[s0,s1,s2,s3,s4,s5,sFa L4,sI d,sI (.tuple L5),sFa L2,s10]) (by wp_walk using Bp)).trans e4
 show Fw _ _ _ _=_
 unfold Fw
 refine Eq.trans (b:=(Ao (Bo (cOp Am (Gr (Ab (cC (.str "part")) Ag)) (cF Fo (Ab (Aa 7) Ag))) (cgN 9)) (Ao (Nf (Bp (Aa 8)) (cgN 10) lcB) (En (Hd (Aa 6) (cMt Dd Iv (cC (.str " ")) (Aa 9)))))) [s0,s1,s2,s3,s4,s5,sFa L4,sI d,sI (.tuple L5),s9,s10]) (by wp_walk using lpG) ?_
 refine (Cy (c':=[s0,s1,s2,s3,s4,s5,sFa L4,sI d,sI (.tuple L5),sFa L2,s10]) (by wp_walk using e1,a1)).trans ?_
 refine (Cy e5).trans ?_
 wp_walk using e3,lf
theorem Wz {w:Wd}(h:Wx w):Jy [.im w.d]=.ret (.im (.str (Bm w))) [.im w.d]:=by
 have h1:=h.klen;have h2:=h.nlen;have h3:=h.vlen;have h4:=h.hlen;have h5:=h.rlen
 have a1:=add_sl (a:=[Str.ofString "wide"]) (b:=w.key) (by simp;omega)
 have a2:=add_sl (a:=[Str.ofString "wide"]++w.key) (b:=[Str.ofString "/"]) (by simp;omega)
 have a3:=add_sl (a:=[Str.ofString "wide"]++w.key++[Str.ofString "/"]) (b:=w.names) (by simp;omega)
 have a4:=add_sl (a:=[Str.ofString "wide"]++w.key++[Str.ofString "/"]++w.names) (b:=[Str.ofString "/"]) (by simp;omega)
 have a5:=add_sl (a:=[Str.ofString "wide"]++w.key++[Str.ofString "/"]++w.names++[Str.ofString "/"]) (b:=w.vals) (by simp;omega)
 have ew:[Str.ofString "wide"]++w.key++[Str.ofString "/"]++w.names++[Str.ofString "/"]++w.vals=Di w:=by unfold Di;simp
 rw[ew]at a5;have g0:=Af2 h;have a6:=Hc (sep:=Str.ofString " ") g0.sz (Y5 g0)
 rw[show Str.join (Str.ofString " ") (Di w)=jn (Di w) from rfl]at a6
 have e3:∀x0 x1 x2 x3 x5 x6 x7 x8 x9 x10,cLC [none] (Bp (Aa 4)) (cgN 0) Ax (cMt Dd Iv (cC (.str " ")) (cOp Am (Gr (Ab (cC (.str "head")) Ag)) (cF Fo (Ab (Aa 0) Ag)))) [x0,x1,x2,x3,sI (.tuple (w.heads.map tD)),x5,x6,x7,x8,x9,x10]=.ok (.o (.ls false (w.heads.map λr=>PyData.str (jn (Str.ofString "head" :: r.map wS))))) [x0,x1,x2,x3,sI (.tuple (w.heads.map tD)),x5,x6,x7,x8,x9,x10]:=λx0 x1 x2 x3 x5 x6 x7 x8 x9 x10 =>
  A6y (rs:=w.heads) (F:=λr=>.str (jn (Str.ofString "head" :: r.map wS))) (by
   generalize w.heads.map tD=L at *
   wp_walk using Bp) (by omega) (λr q u=>by
   have g:=h.heads r q
   have b1:=Qj g.2 (by omega)
   have b2:=add_sl (a:=[Str.ofString "head"]) (b:=r.map wS) (by simp;omega)
   have b0:A7n (Str.ofString "head" :: r.map wS):=⟨by simp,by simp;omega,λx hx=>by
    rcases au.mp hx with rfl | hx
    ·decide +kernel
    ·exact Ap6 g.2 x hx⟩
   have b3:=Hc (sep:=Str.ofString " ") b0.sz (Y5 b0)
   rw[show Str.join (Str.ofString " ") (Str.ofString "head" :: r.map wS)=jn (Str.ofString "head" :: r.map wS) from rfl]at b3
   rw[show [Str.ofString "head"]++r.map wS=Str.ofString "head" :: r.map wS from rfl,show [Str.ofString "head"].map PyData.str=[.str "head"] from rfl]at b2
   generalize jn (Str.ofString "head" :: r.map wS)=z at *
   generalize (Str.ofString "head" :: r.map wS).map PyData.str=L at *
   generalize (r.map wS).map PyData.str=L2 at *
   generalize tD r=d at *
   wp_walk using b1,b2,b3)
 let hd:v_:=jn (Di w)::w.heads.map λr=>jn (Str.ofString "head" :: r.map wS)
 have a7:Am (.list [.str (jn (Di w))]) (.list (w.heads.map λr=>PyData.str (jn (Str.ofString "head" :: r.map wS))))=sFa (hd.map PyData.str):=by
  have e:hd.map PyData.str=.str (jn (Di w))::w.heads.map λr=>PyData.str (jn (Str.ofString "head" :: r.map wS)):=by show (_::_).map _=_;rw[aK,aN];rfl
  rw[e]
  exact if_pos (by rw[aj];show 1+_<=_;omega)
 have loop:=K7 (g:=lpG) (body:=lpB) (items:=w.rows.map Dz) (n:=0) (c:=[sI w.d,sI (nD w.key),sI (nD w.names),sI (nD w.vals),sI (.tuple (w.heads.map tD)),sI (.tuple (w.rows.map Dz)),sFa (hd.map PyData.str),none,none,none,none])
  (P:=λk c=>∃y7 y8 y9 y10,c=[sI w.d,sI (nD w.key),sI (nD w.names),sI (nD w.vals),sI (.tuple (w.heads.map tD)),sI (.tuple (w.rows.map Dz)),sFa ((hd++((w.rows.take k).map Cr).map jn).map PyData.str),y7,y8,y9,y10])
  ⟨none,none,none,none,by rw[List.take_zero,bN,bN,bw]⟩ (λk d c hd' hP=>by
   rw[aG]at hP ⊢;obtain⟨y7,y8,y9,y10,rfl⟩:=hP;rw[bD]at hd';obtain⟨r,hr,rfl⟩:=bc.mp hd'
   obtain⟨z7,z8,z9,z10,e⟩:=Az2 h (eG hr) (fs:=hd++((w.rows.take k).map Cr).map jn) (by
    show (hd++_).length<=_
    rw[aM,aj,aj,bK]
    show (_::_).length+_<=_
    rw[aH,aj];omega) (s0:=sI w.d) (s1:=sI (nD w.key)) (s2:=sI (nD w.names)) (s3:=sI (nD w.vals)) (s4:=sI (.tuple (w.heads.map tD))) (s5:=sI (.tuple (w.rows.map Dz))) (s7:=y7) (s8:=y8) (s9:=y9) (s10:=y10)
   refine⟨_,.inl e,z7,z8,z9,z10,?_⟩
   rw[List.take_succ,hr]
   simp[bW])
 obtain⟨c',e8,y7,y8,y9,y10,rfl⟩:=loop;rw[aG,aj,fX]at e8
 have el:hd++(w.rows.map Cr).map jn=Fg w:=by
  unfold Fg Gi;simp only[aK,aV,aN]
  rfl
 rw[el]at e8;obtain⟨g1,g2⟩:=Uv h;have e10:=Hc g1 g2
 rw[show Str.join (Str.ofString "\n") (Fg w)=Bm w from rfl]at e10
 have i0:∀l:v_,Z3 (nD l)=sFa (l.map PyData.str):=λl=>rfl
 rw[show [Str.ofString "wide"].map PyData.str=[.str "wide"] from rfl]at a1
 rw[show [Str.ofString "/"].map PyData.str=[.str "/"] from rfl]at a2 a4
 have j1:=i0 w.key;have j2:=i0 w.names;have j3:=i0 w.vals
 have e9:=λx0 x1 x2 x3 x4 x6=>Np (fi:=Bp (Aa 5)) (g:=lpG) (body:=lpB) (ds:=w.rows.map Dz) (c:=[x0,x1,x2,x3,x4,sI (.tuple (w.rows.map Dz)),x6,none,none,none,none]) (c1:=[x0,x1,x2,x3,x4,sI (.tuple (w.rows.map Dz)),x6,none,none,none,none]) (by
  generalize w.rows.map Dz=L at *
  wp_walk using Bp)
 have dd:w.d=.tuple [nD w.key,nD w.names,nD w.vals,.tuple (w.heads.map tD),.tuple (w.rows.map Dz)]:=rfl
 show Dj 1 11 Mx _=_
 unfold Mx
 refine Qd (p:=.o (.im (.str (Bm w)))) (c:=[sI w.d,sI (nD w.key),sI (nD w.names),sI (nD w.vals),sI (.tuple (w.heads.map tD)),sI (.tuple (w.rows.map Dz)),sFa ((Fg w).map PyData.str),y7,y8,y9,y10]) ?_ rfl (by wp_walk using aO)
 refine (Cy (c':=[sI w.d,sI (nD w.key),sI (nD w.names),sI (nD w.vals),sI (.tuple (w.heads.map tD)),sI (.tuple (w.rows.map Dz)),none,none,none,none,none]) ?_).trans ?_
 ·rw[dd]
  generalize nD w.key=k1 at *
  generalize nD w.names=k2 at *
  generalize nD w.vals=k3 at *
  generalize w.heads.map tD=L6 at *
  generalize w.rows.map Dz=L7 at *
  wp_walk using aO
 refine (Cy (c':=[sI w.d,sI (nD w.key),sI (nD w.names),sI (nD w.vals),sI (.tuple (w.heads.map tD)),sI (.tuple (w.rows.map Dz)),sFa [.str (jn (Di w))],none,none,none,none]) ?_).trans ?_
 ·generalize jn (Di w)=z1 at *
  generalize (Di w).map PyData.str=d6 at *
  generalize ([Str.ofString "wide"]++w.key++[Str.ofString "/"]++w.names++[Str.ofString "/"]).map PyData.str=d5 at *
  generalize ([Str.ofString "wide"]++w.key++[Str.ofString "/"]++w.names).map PyData.str=d4 at *
  generalize ([Str.ofString "wide"]++w.key++[Str.ofString "/"]).map PyData.str=d3 at *
  generalize ([Str.ofString "wide"]++w.key).map PyData.str=d2 at *
  generalize w.key.map PyData.str=d1 at *
  generalize w.names.map PyData.str=d7 at *
  generalize w.vals.map PyData.str=d8 at *
  generalize nD w.key=k1 at *
  generalize nD w.names=k2 at *
  generalize nD w.vals=k3 at *
  generalize w.heads.map tD=L6 at *
  generalize w.rows.map Dz=L7 at *
  generalize w.d=D at *
  wp_walk using j1,j2,j3,a1,a2,a3,a4,a5,a6
 refine (Cy (c':=[sI w.d,sI (nD w.key),sI (nD w.names),sI (nD w.vals),sI (.tuple (w.heads.map tD)),sI (.tuple (w.rows.map Dz)),sFa (hd.map PyData.str),none,none,none,none]) ?_).trans ?_
 ·generalize hd.map PyData.str=L8 at *
  generalize (w.heads.map λr=>PyData.str (jn (Str.ofString "head" :: r.map wS)))=L9 at *
  generalize jn (Di w)=z1 at *
  generalize nD w.key=k1 at *
  generalize nD w.names=k2 at *
  generalize nD w.vals=k3 at *
  generalize w.heads.map tD=L6 at *
  generalize w.rows.map Dz=L7 at *
  generalize w.d=D at *
  wp_walk using e3,a7
 refine (Cy ((e9 _ _ _ _ _ _).trans e8)).trans ?_
 generalize (Fg w).map PyData.str=L1 at *
 generalize Bm w=z2 at *
 wp_walk using e10
local macro_rules | `(tactic| wp_walk using $ts,*)=>`(tactic| simp only [sI,sT,sFa,Ao,Bo,cgN,cgT,Br,Gn,Aa,cC,cTy,cOp,cUn,Gh,cF,cFO,cFV,cFz,Vu,shown,Kl,T6,Ax0,At8,Ac2,Nz,noL,Yp,cU,eX,eY,eZ,dj,dm,dB,Lx,Tv,slots,pairsOf,ndB,Gx,Ag,Ab,cK,nrm,Eo,Vv,rdP,O.dat,O.flag,O.own,O.bor,frz,frzs,El,Gr,cIf,Aw,Ax,Qx,cOr,My,Hj,Yk,Ly,Hs,Cm,Xy,En,Ck,Ko,Hd,slL,Ke,A0d,A1o,Lb,Qn,Rh,Rg,cSl,cON,cOS,G9,Ye,cIn,R.bind_ok,R.toS_ok,R.bind_bad,R.toS_bad,Dj,Vf,resolve,Fe,Lj,U.opI,U.Qy,Tz,Xo,J4,Jv,K5,Ma,Fw,Il,Ag5,dC,bO,cL,cM,aK,bN,aH,cZ,List.replicate,cN,bx,bw,dD,bL,cJ,bG,dF,cW,aY,aW,dG,dH,dI,bR,dJ,dM,dN,b_,cV,cX,cA,List.dropLast,dO,dR,dU,dW,cB,dX,reduceCtorEq,Rz,Vi,V5,Vk,Wb,O8,Pk,P0,U.H9,aG,Nat.reduceAdd,Nat.reduceSub,Nat.reduceLeDiff,Nat.reduceLT,Nat.reduceEqDiff,Int.reduceAdd,Int.reduceSub,Int.reduceNeg,Int.reduceLT,Int.reduceLE,Int.reducePow,Int.reduceToNat,Int.reduceMul,dY,dZ,aO,bz,cY,cMt,Dd,Hs,cSl,cOS,cON,Hd,$[$ts:term],*])
theorem Bi7 (x:Str)(l u:o7):Txt.slice x l u=StrLaws.sliceText x l u:=rfl
theorem A3q {x:Str}{a b:Nat}(h1:a<=b)(h2:b<=x.length):Txt.slice x (some (a:Int)) (some (b:Int))=mkS (((sg x).drop a).take (b-a)):=StrLaws.sliceText_nat x h1 h2
theorem A6k {x:Str}{a:Nat}(h:a<=x.length):Txt.slice x (some (a:Int)) none=mkS ((sg x).drop a):=by
 have h:a<=x.cps.toList.length:=by rw[eN];exact h
 rw[Bi7,StrLaws.sliceText_from ⟨by omega,by omega⟩,bZ]
 show mkS _=_
 rw[gO];rw[bV];omega
theorem S6 {ds:w6}{a:Nat}:cutD ds (some (a:Int)) none=ds.drop a:=by
 unfold cutD;rw[HT.A1k,HT.Zg]
 rcases Nat.le_total a ds.length with q | q
 ·rw[fD q,gO (by rw[bV];exact ak _)]
 ·rw[Nat.min_eq_right q,fZ,List.drop_of_length_le q,List.take_nil]
abbrev pcG:n8:=cgT 2 (Br (cgN 5) (Br (cgN 6) Gn))
abbrev pcB:Ev->SR:=Ao (cIf (Qx (Aw (cOp (Bg false) (Aa 6) (cC (.str " ")))) (My (Aw (Aa 3)))) (Ao (En (Hd (Aa 1) (cSl Dy (Aa 0) (cOS (Aa 2)) (cOS (Aa 5)))))
 (Bo (cOp Am (Aa 5) (cC (.int 1))) (cgN 2))) (cIf (Qx (Aw (cOp (Bg false) (Aa 6) (cC (.str "'")))) (My (Aw (Aa 4)))) (Bo (Ly (Aa 3)) (cgN 3)) Ck))
 (Bo (Hj (cOp (Bg false) (Aa 6) (cC (.str "\\"))) (Ly (Aa 4))) (cgN 4))
def pcS (row:Str)(ps:v_)(s:Nat)(wi ma:Bool)(u v:m_):Ev:=[sI (.str row),sFa (ps.map PyData.str),sI (.int (s:Nat)),sI (.bool wi),sI (.bool ma),u,v]
theorem s32:Str.ofString " " = ⟨#[32]⟩:=by decide +kernel
theorem A2p {row:Str}{ps:v_}{s k c:Nat}{wi ma:Bool}{u v:m_}(h:c=32->wi=true) :
 Fw pcG pcB (.tuple [.int (k:Nat),.str ⟨#[c]⟩]) (pcS row ps s wi ma u v)=.nx (pcS row ps s (if c=39/\ma=false then !wi else wi) (decide (c=92)&&!ma) (sI (.int (k:Nat))) (sI (.str ⟨#[c]⟩))):=by
 have e1:Bg false (.str ⟨#[c]⟩) (.str " ")=sI (.bool (decide (c=32))):=by rw[s32];exact V8
 have e2:Bg false (.str ⟨#[c]⟩) (.str "'")=sI (.bool (decide (c=39))):=by rw[s39];exact V8
 have e3:Bg false (.str ⟨#[c]⟩) (.str "\\")=sI (.bool (decide (c=92))):=by rw[s92];exact V8
 by_cases h39:c=39
 ·subst h39
  cases ma
  ·rw[if_pos ⟨rfl,rfl⟩]
   wp_walk using pcB,pcS,e1,e2,e3,show decide (39=32)=false from rfl,cB,show decide (39=92)=false from rfl
  ·rw[if_neg λq=>Bool.noConfusion q.2]
   wp_walk using pcB,pcS,e1,e2,e3,show decide (39=32)=false from rfl,cB,show decide (39=92)=false from rfl
 ·rw[if_neg λq=>h39 q.1]
  have d39:=aB h39
  by_cases h32:c=32
  ·obtain rfl:=h h32
   have d32:=aq h32
   have d92:=aB (show ¬ c=92 by omega)
   generalize decide (c=32)=x at *
   generalize decide (c=39)=y at *
   generalize decide (c=92)=z at *
   subst d32 d39 d92
   wp_walk using pcB,pcS,e1,e2,e3
  ·have d32:=aB h32
   generalize decide (c=32)=x at *
   generalize decide (c=39)=y at *
   generalize decide (c=92)=z at *
   subst d32 d39
   cases z
   ·wp_walk using pcB,pcS,e1,e2,e3
   ·cases ma <;> wp_walk using pcB,pcS,e1,e2,e3
theorem Bb1 {row:Str}{ps:v_}{s k:Nat}{u v:m_}(h1:s<=k)(h2:k<=row.length)(h3:row.length<=1000000)(h4:ps.length<=1000) :
 Fw pcG pcB (.tuple [.int (k:Nat),.str ⟨#[32]⟩]) (pcS row ps s false false u v)=.nx (pcS row (ps++[mkS (((sg row).drop s).take (k-s))]) (k+1) false false (sI (.int (k:Nat))) (sI (.str ⟨#[32]⟩))):=by
 have e1:Bg false (.str ⟨#[32]⟩) (.str " ")=sI (.bool true):=by rw[s32];exact V8
 have e3:Bg false (.str ⟨#[32]⟩) (.str "\\")=sI (.bool false):=by rw[s92];exact V8
 have e4:Dy (.str row) (some (s:Int)) (some (k:Int))=sI (.str (mkS (((sg row).drop s).take (k-s)))):=by
  rw[<- A3q h1 h2]
  exact if_pos (by omega)
 have e5:(ps++[mkS (((sg row).drop s).take (k-s))]).map PyData.str=ps.map PyData.str++[.str (mkS (((sg row).drop s).take (k-s)))]:=by rw[aV];rfl
 have e6:(((k+1:Nat):Int))=(k:Int)+1:=by omega
 have e7:(ps.map PyData.str).length<16000000:=by rw[aj];omega
 generalize mkS (((sg row).drop s).take (k-s))=z at *
 unfold pcS;rw[e5,e6]
 generalize ps.map PyData.str=L at *
 wp_walk using pcB,e1,e3,e4,e7,Am
noncomputable def Ou:List Nat->Bool->Bool->Option (Bool×Bool)
 | [],wi,ma=>some (wi,ma)
 | c::r,wi,ma=>if c=32/\wi=false then none else Ou r (if c=39/\ma=false then !wi else wi) (decide (c=92)&&!ma)
theorem Ao6 (c:Nat)(r:List Nat)(wi ma:Bool):Ou (c::r) wi ma=if c=32/\wi=false then none else Ou r (if c=39/\ma=false then !wi else wi) (decide (c=92)&&!ma):=rfl
theorem Ab5:∀(a b:List Nat) (wi ma:Bool),Ou (a++b) wi ma=(Ou a wi ma).bind λq=>Ou b q.1 q.2
 | [],_,_,_=>rfl
 | c::a,b,wi,ma=>by
  rw[cN,Ao6,Ao6]
  split
  ·rfl
  ·exact Ab5 a b _ _
theorem Ux:∀{l:List Nat},(∀c∈l,c≠32/\c≠39/\c≠92)->Ou l false false=some (false,false)
 | [],_=>rfl
 | c::l,h=>by
  obtain⟨h1,h2,h3⟩:=h c (.head _);unfold Ou
  rw[if_neg (λq=>h1 q.1),if_neg (λq=>h2 q.1),aB h3]
  exact Ux λx hx=>h x (.tail _ hx)
theorem A1r:∀l:List Nat,Ou (esc l) true false=some (true,false)
 | []=>rfl
 | c::l=>by
  rw[Wi,Ab5]
  have e:Ou (Oo c) true false=some (true,false):=by
   unfold Oo
   by_cases h:c=92
   ·subst h;rfl
   ·by_cases h2:c=39
    ·subst h2;rfl
    ·rw[if_neg h,if_neg h2]
     unfold Ou
     rw[if_neg (by simp),if_neg (λq=>h2 q.1),aB h];rfl
  rw[e];exact A1r l
theorem Bv1 (l:List Nat):Ou (sg (qt l)) false false=some (false,false):=by
 show Ou (39::(esc l++[39])) false false=_
 unfold Ou
 rw[if_neg (by simp)]
 show Ou (esc l++[39]) true false=_
 rw[Ab5,A1r]
 rfl
abbrev Wq (x:Str):Prop:=Ou (sg x) false false=some (false,false)
theorem Bt6 {c:Str}(h:Ci (.str c)=true):Wq c:=Ux λx hx=>by
 have q:=(O1 h).2.2 x hx;unfold Tt at q
 simp at q
 omega
theorem V9 {i:Int}{c:Nat}(h:c∈sg (nS i)):c=45\/(48<=c/\c<=57):=by
 by_cases hi:i<0
 ·obtain⟨m,hm⟩:=bQ (show 0<=-i by omega)
  have e:=Aa0 (m:=m) (by omega)
  rw[show -(m:Int)=i by omega]at e
  rw[e,Pq]at h
  rcases aP.mp h with h | h
  ·have e0:sg (Str.ofString "-")=[45]:=by decide +kernel
   rw[e0]at h;exact .inl (az.mp h)
  ·exact .inr (Uo h)
 ·obtain⟨m,rfl⟩:=bQ (show 0<=i by omega)
  exact .inr (Uo h)
theorem B6y (v:Vl):Wq (wS v):=by
 cases v with
 | non=>decide +kernel
 | int i=>exact Ux λc hc=>by have:=V9 hc;omega
 | str x=>exact Bv1 (sg x)
theorem Ac0 {row:Str}{ps:v_}{s:Nat}{rest:w6}:∀(l:List Nat) (k:Nat) (wi ma wi' ma':Bool) (u v:m_),Ou l wi ma=some (wi',ma') ->
 ∃u' v',forL pcG pcB (en k l++rest) (pcS row ps s wi ma u v)=forL pcG pcB rest (pcS row ps s wi' ma' u' v')
 | [],k,wi,ma,wi',ma',u,v,h=>by
  cases h
  exact⟨u,v,rfl⟩
 | c::l,k,wi,ma,wi',ma',u,v,h=>by
  have hc:¬ (c=32/\wi=false):=λq=>by
   unfold Ou at h;rw[if_pos q]at h
   cases h
  have h:Ou l (if c=39/\ma=false then !wi else wi) (decide (c=92)&&!ma)=some (wi',ma'):=by
   unfold Ou at h;rw[if_neg hc]at h;exact h
  obtain⟨u',v',e⟩:=Ac0 (row:=row) (ps:=ps) (s:=s) (rest:=rest) l (k+1) _ _ wi' ma' (sI (.int (k:Nat))) (sI (.str ⟨#[c]⟩)) h
  refine⟨u',v',?_⟩
  rw[<- e]
  show forL pcG pcB (.tuple [.int (k:Nat),.str ⟨#[c]⟩]::(en (k+1) l++rest)) _=_
  exact Hb (.inl (A2p λq=>by
   cases wi
   ·exact absurd ⟨q,rfl⟩ hc
   ·rfl))
theorem Aa5 {row:Str}(hr:row.length<=1000000):∀(ws:v_) (k:Nat) (ps:v_) (u v:m_),ws≠[]->(∀w∈ws,Wq w)->ps.length+ws.length<=1000->k<=row.length->(sg row).drop k=inter [32] (ws.map sg) ->
 ∃k2 ps2 u' v',forL pcG pcB (en k (inter [32] (ws.map sg))) (pcS row ps k false false u v)=.nx (pcS row ps2 k2 false false u' v')/\k2<=row.length/\ps2.length<=1000/\ps2++[mkS ((sg row).drop k2)]=ps++ws
 | [],_,_,_,_,h,_,_,_,_=>absurd rfl h
 | [w],k,ps,u,v,_,hw,hl,hk,hd=>by
  obtain⟨u',v',e⟩:=Ac0 (row:=row) (ps:=ps) (s:=k) (rest:=[]) (sg w) k false false false false u v (hw w (.head _));rw[bw]at e
  refine⟨k,ps,u',v',e,hk,by simp at hl;omega,?_⟩
  have hd:(sg row).drop k=sg w:=hd;rw[hd,Am8]
 | w::w2::r,k,ps,u,v,_,hw,hl,hk,hd=>by
  have hd:(sg row).drop k=sg w++32::inter [32] ((w2::r).map sg):=by
   rw[hd]
   show sg w++[32]++inter [32] ((w2::r).map sg)=_
   rw[bW];rfl
  have hlen:=bj List.length hd;rw[bV,aM,aH,Eh,Eh]at hlen;obtain⟨u',v',e⟩:=Ac0 (row:=row) (ps:=ps) (s:=k) (rest:=.tuple [.int ((k+(sg w).length:Nat):Int),.str ⟨#[32]⟩]::en (k+(sg w).length+1) (inter [32] ((w2::r).map sg))) (sg w) k false false false false u v (hw w (.head _))
  have hcut:=Bb1 (row:=row) (ps:=ps) (s:=k) (k:=k+(sg w).length) (u:=u') (v:=v') (by omega) (by rw[Eh];omega) hr (by simp at hl;omega)
  have hw1:mkS (((sg row).drop k).take (k+(sg w).length-k))=w:=by
   rw[hd,show k+(sg w).length-k=(sg w).length by omega,List.take_left',Am8]
   rfl
  rw[hw1]at hcut
  have hd2:(sg row).drop (k+(sg w).length+1)=inter [32] ((w2::r).map sg):=by
   have:=bj (List.drop ((sg w).length+1)) hd;rw[List.drop_drop,<- d_]at this
   rw[this,show sg w++32::inter [32] ((w2::r).map sg)=(sg w++[32])++inter [32] ((w2::r).map sg) by rw[bW];rfl]
   exact List.drop_left' (by rw[aM];rfl)
  obtain⟨k2,ps2,u2,v2,e2,q1,q2,q3⟩:=Aa5 hr (w2::r) (k+(sg w).length+1) (ps++[w]) (sI (.int ((k+(sg w).length:Nat):Int))) (sI (.str ⟨#[32]⟩)) (by simp) (λx hx=>hw x (.tail _ hx)) (by simp at hl ⊢;omega) (by rw[Eh];omega) hd2
  refine⟨k2,ps2,u2,v2,?_,q1,q2,by rw[q3];simp⟩
  show forL pcG pcB (en k (sg w++[32]++inter [32] ((w2::r).map sg))) _=_
  rw[bW,Bl2]
  show forL pcG pcB (en k (sg w)++(.tuple [.int ((k+(sg w).length:Nat):Int),.str ⟨#[32]⟩]::en (k+(sg w).length+1) (inter [32] ((w2::r).map sg)))) _=_
  rw[e,Hb (.inl hcut),e2]
theorem A9a {ws:v_}(hn:ws≠[])(hw:∀w∈ws,Wq w)(hl:ws.length<=1000)(hz:(Str.join (Str.ofString " ") ws).length<=1000000) :
 G4 [.im (.str (Str.join (Str.ofString " ") ws))]=.ret (.ls false (ws.map PyData.str)) [.im (.str (Str.join (Str.ofString " ") ws))]:=by
 have hs:sg (Str.join (Str.ofString " ") ws)=inter [32] (ws.map sg):=by rw[Gz,s32]
 generalize Str.join (Str.ofString " ") ws=row at *
 obtain⟨k2,ps2,u,v,e,q1,q2,q3⟩:=Aa5 hz ws 0 [] none none hn hw (by simpa using hl) (aD _) (by rw[fQ];exact hs)
 have e1:Nf (Ah2 (Aa 0)) pcG pcB (pcS row [] 0 false false none none)=.nx (pcS row ps2 k2 false false u v):=by
  rw[<- e,<- hs]
  refine Np ?_
  rw[<- Bv7]
  wp_walk using pcS,Ah2
 have e2:Dy (.str row) (some (k2:Int)) none=sI (.str (mkS ((sg row).drop k2))):=by
  rw[<- A6k q1]
  exact if_pos (by omega)
 have e3:ps2.map PyData.str++[.str (mkS ((sg row).drop k2))]=ws.map PyData.str:=by
  have:=bj (List.map PyData.str) q3;rw[aV,bx]at this;exact this
 have e4:(ps2.map PyData.str).length<16000000:=by rw[aj];omega
 unfold pcS at e1
 generalize mkS ((sg row).drop k2)=z at *
 generalize ps2.map PyData.str=L at *
 have e1:Nf (Ah2 (Aa 0)) pcG pcB [sI (.str row),sFa [],sI (.int 0),sI (.bool false),sI (.bool false),none,none]=_:=e1
 wp_walk using G4,Pu,e1,e2,e4,e3
local macro_rules | `(tactic| wp_walk using $ts,*)=>`(tactic| simp only [sI,sT,sFa,Ao,Bo,cgN,cgT,Br,Gn,Aa,cC,cTy,cOp,cUn,Gh,cF,cFO,cFV,cFz,Vu,shown,Kl,T6,Ax0,At8,Ac2,Nz,noL,Yp,cU,eX,eY,eZ,dj,dm,dB,Lx,Tv,slots,pairsOf,ndB,Gx,Ag,Ab,cK,nrm,Eo,Vv,rdP,O.dat,O.flag,O.own,O.bor,frz,frzs,El,Gr,cIf,Aw,Ax,Qx,cOr,My,Hj,Yk,Ly,Hs,Cm,Xy,En,Ck,Ko,Hd,slL,Ke,A0d,A1o,Lb,Qn,Rh,Rg,cSl,cON,cOS,G9,Ye,cIn,R.bind_ok,R.toS_ok,R.bind_bad,R.toS_bad,Dj,Vf,resolve,Fe,Lj,U.opI,U.Qy,Tz,Xo,J4,Jv,K5,Ma,Fw,Il,Ag5,dC,bO,cL,cM,aK,bN,aH,cZ,List.replicate,cN,bx,bw,dD,bL,cJ,bG,dF,cW,aY,aW,dG,dH,dI,bR,dJ,dM,dN,b_,cV,cX,cA,List.dropLast,dO,dR,dU,dW,cB,dX,reduceCtorEq,Rz,Vi,V5,Vk,Wb,O8,Pk,P0,U.H9,aG,Nat.reduceAdd,Nat.reduceSub,Nat.reduceLeDiff,Nat.reduceLT,Nat.reduceEqDiff,Int.reduceAdd,Int.reduceSub,Int.reduceNeg,Int.reduceLT,Int.reduceLE,Int.reducePow,Int.reduceToNat,Int.reduceMul,dY,dZ,aO,bz,cY,cMt,Dd,Hs,cSl,cOS,cON,Hd,$[$ts:term],*])
theorem Nk {r:o5}:Bl [.im (.bool true),.im r]=.ret (.im .none) [.im (.bool true),.im r]:=by
 wp_walk using Bl,Pn
theorem Aq9 {x:Str}{c:Nat}:Ws (.str x) (.str ⟨#[c]⟩)=sI (.bool (decide ((sg x)[0]?=some c))):=by
 show some (O.im (.bool (Txt.startswith x ⟨#[c]⟩)))=_
 have h:=StrLaws.subAt_one x c 0
 have e:Txt.startswith x ⟨#[c]⟩=decide ((sg x)[0]?=some c):=by
  unfold Txt.startswith
  by_cases q:(sg x)[0]?=some c
  ·obtain⟨h1,h2⟩:=h.mpr q
   rw[aq h1,h2,aq q];rfl
  ·rw[aB q]
   cases h1:decide (0+(⟨#[c]⟩:Str).length<=x.length) with
   | false=>rfl
   | true =>
    cases h2:Builtin.Str.subAt x ⟨#[c]⟩ 0 with
    | false=>rfl
    | true=>exact absurd (h.mp ⟨aQ h1,h2⟩) q
 rw[e]
theorem B5s (l:List Nat):sg (qt l)=39::(esc l++[39]):=rfl
theorem Ba6 (l:List Nat)(hl:l.length<=1000):Dy (.str (qt l)) (some 1) (some (-1))=sI (.str (mkS (esc l))):=by
 have ln:(qt l).length=(esc l).length+2:=by unfold qt;rw[Kh,aH,aM];rfl
 have le:=Wg l
 have e1:Txt.slice (qt l) (some 1) (some (-1))=Txt.slice (qt l) (some ((1:Nat):Int)) (some (((esc l).length+1:Nat):Int)):=by
  rw[Bi7,StrLaws.sliceText_neg_hi _ _ (by decide) (by omega),<- Bi7]
  congr 2
  omega
 have e2:Txt.slice (qt l) (some 1) (some (-1))=mkS (esc l):=by
  rw[e1,A3q (by omega) (by omega),B5s]
  congr 1
  show ((esc l++[39]).take ((esc l).length+1-1))=_
  rw[gh,List.take_left']
  rfl
 rw[<- e2]
 exact if_pos (by omega)
theorem Ar6 {x:Str}{r:o5}(h:VB (.str x)):Jp [.im (.str (qt (sg x))),.im r]=.ret (.im (.str x)) [.im (.str (qt (sg x))),.im r]:=by
 obtain⟨hl,hc⟩:=Ae3 h;have le:=Wg (sg x);rw[Eh]at le
 have e1:=Ba6 (sg x) (by rw[Eh];omega)
 have e2:Oi (Str.ofString "\\'") (Str.ofString "'") (.str (mkS (esc (sg x))))=sI (.str (mkS (un1 (sg x)))):=by
  have e:Txt.replace (mkS (esc (sg x))) (Str.ofString "\\'") (Str.ofString "'")=mkS (un1 (sg x)):=Ky (by rw[B0v,s39,B0d];exact Bg6 (sg x))
  rw[<- e]
  exact if_pos (by rw[Kh];omega)
 have e3:Oi (Str.ofString "\\\\") (Str.ofString "\\") (.str (mkS (un1 (sg x))))=sI (.str x):=by
  have e:Txt.replace (mkS (un1 (sg x))) (Str.ofString "\\\\") (Str.ofString "\\")=x:=Ky (by rw[B0y,s92,B0d];exact Bf6 (sg x))
  have l:(un1 (sg x)).length<=2*(sg x).length:=Vw (λc=>by split <;> simp) (sg x)
  rw[Eh]at l
  show (if (mkS (un1 (sg x))).length<=1048576 then some (O.im (.str (Txt.replace (mkS (un1 (sg x))) (Str.ofString "\\\\") (Str.ofString "\\")))) else none)=_
  rw[e,if_pos (by rw[Kh];omega)]
 have hs:sm (.str x)=true:=by
  show (decide (x.length<=100)&&x.cps.toList.all (λc=>decide (c<128)))=true
  rw[aq (by omega),bR]
  exact aX.mpr λc q=>aq (by have:=(hc c q).2;omega)
 have e4:=Bi6 hs
 have e5:Py (.str x)=true:=aX.mpr λc q=>by
  obtain⟨a,b⟩:=hc c q;unfold okC;rw[aq a,aq b];rfl
 rw[e5]at e4
 have e6:=Qq (x:=x) (by omega)
 have e7:Bg false (.str (qt (sg x))) (.str (qt (sg x)))=sI (.bool true):=by rw[Fb,aq rfl];rfl
 have e8:=Nk (r:=r)
 generalize qt (sg x)=z at *
 generalize mkS (esc (sg x))=y at *
 generalize mkS (un1 (sg x))=w at *
 wp_walk using Jp,Qe,Ag6,e1,e2,e3,e4,e6,e7,e8
noncomputable def figS:Str:=Str.ofString "0123456789"
noncomputable def Ay0 (c:Nat):Bool:=decide (48<=c)&&decide (c<=57)
theorem Bv6:∀c,c<128->(!(Builtin.Str.occurrences figS ⟨#[c]⟩ 0 figS.length 1).isEmpty)=Ay0 c:=by decide +kernel
theorem Bj1 {c:Nat}(h:c<128):Ms false (.str ⟨#[c]⟩) (.str "0123456789")=sI (.bool (Ay0 c)):=by
 show some (O.im (.bool (!(Builtin.Str.occurrences figS ⟨#[c]⟩ 0 figS.length 1).isEmpty)))=_
 rw[Bv6 c h]
theorem Be3 (m:Nat):1<=(nS m).length:=by
 have:=Am2 m;rw[<- Eh];exact List.length_pos_iff.mpr this
theorem Bh5 {x:Str}(h:x.length<=64):Dy (.str x) (some 0) (some 64)=sI (.str x):=by
 have e1:Builtin.Str.strSliceIndices (some 0) (some 64) 1 x.length=Builtin.Str.strSliceIndices (some ((0:Nat):Int)) (some ((x.length:Nat):Int)) 1 x.length:=by
  have a:min (64:Int) (x.length:Int)=(x.length:Int):=by omega
  have b:¬ ((x.length:Int)<0):=by omega
  simp[Builtin.Str.strSliceIndices,a,b]
 have e2:Txt.slice x (some 0) (some 64)=x:=by
  have e3:Txt.slice x (some 0) (some 64)=Txt.slice x (some ((0:Nat):Int)) (some ((x.length:Nat):Int)):=by
   unfold Txt.slice;rw[e1]
  rw[e3,A3q (aD _) (ak _),fQ,fC,<- Eh,fX,Am8]
 show (if x.length<=16000000 then some (O.im (.str (Txt.slice x (some 0) (some 64)))) else none)=_
 rw[e2,if_pos (by omega)]
theorem A3j {m:Nat}(h:m<10 ^ 13):Et [.im (.str (nS m))]=.ret (.im (.int m)) [.im (.str (nS m))]:=by
 have l1:=Be3 m
 have l2:=Xr (i:=(m:Int)) (by omega)
 have e1:=Bh5 (x:=nS m) (by omega)
 have e2:=Ag3 (k:=(nS m).length) l1 (by omega)
 have e3:Sh (.str (nS m))=sI (.int (m:Int)):=by
  have:=A5m (l:=dg m) (λc hc=>Uo hc) (Am2 m) (by show (sg (nS m)).length<=640;rw[Eh];omega)
  rw[B3v]at this
  rw[show mkS (dg m)=nS m from Am8 (nS m)]at this
  exact this
 have e4:An1 0 (A6c 0 ((nS m).length:Int))=[.int 0]:=by
  have:A6c 0 ((nS m).length:Int)=1:=by
   unfold A6c
   rw[if_pos (by omega)]
   omega
  rw[this];rfl
 have e5:Gy [.str (nS m)]=sI (.int (nS m).length):=if_pos (by omega)
 have e6:(0:Int)<=((nS m).length:Int)/\((nS m).length:Int)<=640:=by omega
 have eb:Xv 0 ((10 ^ (nS m).length:Nat):Int)=true:=A3v (by decide)
 have ef:Nf (A6n (cC (.int 0)) (Gh (Aa 0)) (cC (.int 64))) (cgN 2) (Ao (Bo (cSl Dy (Aa 0) (cOS (Aa 2)) (cOS (cOp Am (Aa 2) (cC (.int 64))))) (cgN 3))
  (Bo (cOp Am (cOp Ld (Aa 1) (cF Bs (Ab (Gh (Aa 3)) Ag))) (cUn Sh (Aa 3))) (cgN 1))) [sI (.str (nS m)),sI (.int 0),none,none]=.nx [sI (.str (nS m)),sI (.int m),sI (.int 0),sI (.str (nS m))]:=by
  rw[Np (ds:=[.int 0]) (c1:=[sI (.str (nS m)),sI (.int 0),none,none]) (by rw[<- e4];wp_walk using A6n,e5,if_pos e6)]
  generalize ((10 ^ (nS m).length:Nat):Int)=z at *
  generalize nS m=x at *
  refine (Hb (c':=[sI (.str x),sI (.int m),sI (.int 0),sI (.str x)]) (.inl ?_)).trans rfl
  wp_walk using e1,e5,e2,Am,Ld,eb,e3,Int.zero_mul,Int.zero_add
 generalize nS m=x at *
 wp_walk using Et,Hv,ef
theorem Ab7 {i:Int}{r:o5}(h:i.natAbs<10 ^ 13):Ft [.im (.str (nS i)),.im r]=.ret (.im (.int i)) [.im (.str (nS i)),.im r]:=by
 obtain⟨m,hm⟩:∃m:Nat,i.natAbs=m:=⟨_,rfl⟩;have hk:=Nk (r:=r)
 have ne0:Bg true (.str (nS m)) (.str "")=sI (.bool true):=by
  rw[Fb]
  have:¬ nS m=Str.ofString "" := λq=>Am2 m (by unfold dg;rw[q];decide +kernel)
  rw[aB this];rfl
 have l2:=Xr (i:=(m:Int)) (by omega)
 have eA:=Ad9 (fe:=cOp (Ms false) (Aa 0) (cC (.str "0123456789"))) (x:=nS m) (F:=Ay0) (c:=[sI (.str (nS i)),sI r,sI (.str (nS m)),none]) (i:=2) rfl (by omega) (λn hn t=>by
  have:=Uo (m:=m) hn
  wp_walk using Bj1 (c:=n) (by omega))
 have eB:(nS m).cps.toList.all Ay0=true:=aX.mpr λc hc=>by
  obtain⟨a,b⟩:=Uo (m:=m) hc;unfold Ay0;rw[aq a,aq b];rfl
 have eC:=Mm Ay0 (nS m).cps.toList;rw[eB]at eC
 have eD:=A3j (m:=m) (by omega)
 have s45:Str.ofString "-" = ⟨#[45]⟩:=by decide +kernel
 have s48:Str.ofString "0" = ⟨#[48]⟩:=by decide +kernel
 have eL:Ws (.str (nS m)) (.str "0")=sI (.bool (decide ((dg m)[0]?=some 48))):=by rw[s48];exact Aq9
 have eM:Ws (.str (nS i)) (.str "-")=sI (.bool (decide ((sg (nS i))[0]?=some 45))):=by rw[s45];exact Aq9
 by_cases hi:i<0
 ·have e0:i=-(m:Int):=by omega
  have m0:m≠0:=by omega
  have en:=Aa0 m0;rw[<- e0]at en
  have es:sg (nS i)=45::sg (nS m):=by rw[en,Pq,s45];rfl
  rw[es]at eM;have eM:Ws (.str (nS i)) (.str "-")=sI (.bool true):=eM;rw[aB (As7 m m0)]at eL
  have ez:Bg false (.str (nS i)) (.str "0")=sI (.bool false):=by
   rw[Fb]
   have:¬ nS i=Str.ofString "0" := λq=>by
    have:=bj sg q;rw[es,s48]at this
    cases this
   rw[aB this];rfl
  have eS:Dy (.str (nS i)) (some 1) none=sI (.str (nS m)):=by
   have ln:(nS i).length<=14:=Xr (by omega)
   have l1:1<=(nS i).length:=by rw[<- Eh,es];simp
   have:=A6k (x:=nS i) (a:=1) l1;rw[es,List.drop_one,List.tail_cons,Am8]at this
   show (if (nS i).length<=16000000 then some (O.im (.str (Txt.slice (nS i) (some 1) none))) else none)=_
   rw[if_pos (by omega)]
   exact bj (λz=>some (O.im (PyData.str z))) this
  rw[e0];rw[<- e0]
  generalize (nS m).cps.toList.map (λn=>PyData.bool (Ay0 n))=L at *
  have e0:-(m:Int)=i:=by omega
  generalize nS i=x at *
  generalize nS m=y at *
  wp_walk using Ft,Jo,eM,eS,ne0,eA,eC,hk,ez,eL,eD,Ag6,e0
 ·have e0:(m:Int)=i:=by omega
  have ef:(sg (nS i))[0]?≠some 45:=λq=>by
   have:=Uo (m:=m) (c:=45) (eG (i:=0) (by unfold dg;rw[e0];exact q))
   omega
  rw[aB ef]at eM
  have hz:(Bg false (.str (nS i)) (.str "0")=sI (.bool true))\/(Bg false (.str (nS i)) (.str "0")=sI (.bool false)/\decide ((dg m)[0]?=some 48)=false):=by
   by_cases m0:m=0
   ·refine .inl ?_
    rw[Fb,aq (show nS i=Str.ofString "0" by rw[<- e0,m0];decide +kernel)];rfl
   ·refine .inr ⟨?_,aB (As7 m m0)⟩
    have:¬ nS i=Str.ofString "0" := λq=>by
     apply As7 m m0;unfold dg;rw[e0,q];decide +kernel
    rw[Fb,aB this];rfl
  rw[e0]at ne0 eA eC eD eL
  generalize (nS i).cps.toList.map (λn=>PyData.bool (Ay0 n))=L at *
  generalize decide ((dg m)[0]?=some 48)=b at *
  generalize nS i=x at *
  rcases hz with ez | ⟨ez,rfl⟩
  ·wp_walk using Ft,Jo,eM,ne0,eA,eC,hk,ez,eD
  ·wp_walk using Ft,Jo,eM,ne0,eA,eC,hk,ez,eL,eD
theorem Ah9 {v:Vl}{r:o5}(h:VB v):Dn [.im (.str (wS v)),.im r]=.ret (.im v.d) [.im (.str (wS v)),.im r]:=by
 have s45:Str.ofString "-" = ⟨#[45]⟩:=by decide +kernel
 have eM:Ws (.str (wS v)) (.str "'")=sI (.bool (decide ((sg (wS v))[0]?=some 39))):=by rw[s39];exact Aq9
 cases v with
 | non =>
  have e1:Bg false (.str "-") (.str "-")=sI (.bool true):=by rw[Fb,aq rfl];rfl
  wp_walk using Dn,Ku,wS,e1,Vl.d
 | str x =>
  have e1:Bg false (.str (qt (sg x))) (.str "-")=sI (.bool false):=by
   have:¬ qt (sg x)=Str.ofString "-" := λq=>by
    have:=bj sg q;rw[s45]at this
    cases this
   rw[Fb,aB this];rfl
  have eM:Ws (.str (qt (sg x))) (.str "'")=sI (.bool true):=eM;have e2:=Ar6 (r:=r) h
  show Dn [.im (.str (qt (sg x))),.im r]=.ret (.im (.str x)) [.im (.str (qt (sg x))),.im r]
  generalize qt (sg x)=z at *
  wp_walk using Dn,Ku,e1,eM,e2
 | int i =>
  have hf:∀c,(sg (nS i))[0]?=some c->c=45\/(48<=c/\c<=57):=λc q=>V9 (eG q)
  have e1:Bg false (.str (nS i)) (.str "-")=sI (.bool false):=by
   have:¬ nS i=Str.ofString "-" := λq=>by
    by_cases hi:i<0
    ·obtain⟨m,hm⟩:=bQ (show 0<=-i by omega)
     have e:=Aa0 (m:=m) (by omega)
     rw[show -(m:Int)=i by omega,q]at e
     have:=bj Str.length e;rw[Str.length_append]at this;have:=Be3 m;omega
    ·obtain⟨m,rfl⟩:=bQ (show 0<=i by omega)
     have:=Uo (m:=m) (c:=45) (by unfold dg;rw[q];decide +kernel)
     omega
   rw[Fb,aB this];rfl
  have e3:¬ (sg (nS i))[0]?=some 39:=λq=>by have:=hf 39 q;omega
  have eM:Ws (.str (nS i)) (.str "'")=sI (.bool false):=by
   rw[<- aB e3];exact eM
  have e2:=Ab7 (r:=r) (Aw4 h)
  show Dn [.im (.str (nS i)),.im r]=.ret (.im (.int i)) [.im (.str (nS i)),.im r]
  generalize nS i=z at *
  wp_walk using Dn,Ku,e1,eM,e2
local macro_rules | `(tactic| wp_walk using $ts,*)=>`(tactic| simp only [sI,sT,sFa,Ao,Bo,cgN,cgT,Br,Gn,Aa,cC,cTy,cOp,cUn,Gh,cF,cFO,cFV,cFz,Vu,shown,Kl,T6,Ax0,At8,Ac2,Nz,noL,Yp,cU,eX,eY,eZ,dj,dm,dB,Lx,Tv,slots,pairsOf,ndB,Gx,Ag,Ab,cK,nrm,Eo,Vv,rdP,O.dat,O.flag,O.own,O.bor,frz,frzs,El,Gr,cIf,Aw,Ax,Qx,cOr,My,Hj,Yk,Ly,Hs,Cm,Xy,En,Ck,Ko,Hd,slL,Ke,A0d,A1o,Lb,Qn,Rh,Rg,cSl,cON,cOS,G9,Ye,cIn,R.bind_ok,R.toS_ok,R.bind_bad,R.toS_bad,Dj,Vf,resolve,Fe,Lj,U.opI,U.Qy,Tz,Xo,J4,Jv,K5,Ma,Fw,Il,Ag5,dC,bO,cL,cM,aK,bN,aH,cZ,List.replicate,cN,bx,bw,dD,bL,cJ,bG,dF,cW,aY,aW,dG,dH,dI,bR,dJ,dM,dN,b_,cV,cX,cA,List.dropLast,dO,dR,dU,dW,cB,dX,reduceCtorEq,Rz,Vi,V5,Vk,Wb,O8,Pk,P0,U.H9,aG,Nat.reduceAdd,Nat.reduceSub,Nat.reduceLeDiff,Nat.reduceLT,Nat.reduceEqDiff,Int.reduceAdd,Int.reduceSub,Int.reduceNeg,Int.reduceLT,Int.reduceLE,Int.reducePow,Int.reduceToNat,Int.reduceMul,dY,dZ,aO,bz,cY,cMt,Dd,Hs,cSl,cOS,cON,Hd,$[$ts:term],*])
theorem Ao0 (x:o5)(r:w6):Ar (.list (x::r)) (.int 0)=sI x:=by
 show (atI (x::r) 0).map O.im=_
 rw[Rz];rfl
theorem Mr {vs:j4}{r:o5}(h:VBs vs)(hl:vs.length<=12) :
 Cv [.im (.list ((vs.map wS).map PyData.str)),.im (.int (vs.length:Nat)),.im r]=.ret (.im (tD vs)) [.im (.list ((vs.map wS).map PyData.str)),.im (.int (vs.length:Nat)),.im r]:=by
 have hk:=Nk (r:=r)
 obtain⟨cI,e,u,rfl⟩:=Fp (g:=cgN 0) (ft:=Ax) (fe:=cF Dn (Ab (Aa 0) (Ab (Aa 1) Ag))) (I:=λc=>∃u,c=[u,sI r]) (f:=λv=>PyData.str (wS v)) (G:=Vl.d) (xs:=vs) (acc:=[]) (c:=[none,sI r]) ⟨none,rfl⟩
  (λv c hv hI=>by
   obtain⟨u,rfl⟩:=hI
   refine⟨[sI (.str (wS v)),sI r],?_,_,rfl⟩
   have e:=Ah9 (r:=r) (h v hv)
   generalize wS v=z at *
   wp_walk using e)
 rw[strs_map]at e
 have el:((vs.map wS).map PyData.str).length=vs.length:=by rw[aj,aj]
 have e1:cLC [none,some 2] (Bp (Aa 0)) (cgN 0) Ax (cF Dn (Ab (Aa 0) (Ab (Aa 1) Ag))) [sI (.list ((vs.map wS).map PyData.str)),sI (.int (vs.length:Nat)),sI r]=.ok (.o (.ls false (vs.map Vl.d))) [sI (.list ((vs.map wS).map PyData.str)),sI (.int (vs.length:Nat)),sI r] :=
  Gs (ds:=(vs.map wS).map PyData.str) (c1:=[sI (.list ((vs.map wS).map PyData.str)),sI (.int (vs.length:Nat)),sI r]) (by wp_walk using Bp) (by rw[el];omega) (by simpa[cIn,O.flag] using e) rfl
 have e2:Gy [.list ((vs.map wS).map PyData.str)]=sI (.int (vs.length:Nat)):=by show some (O.im (.int (((vs.map wS).map PyData.str).length:Nat)))=_;rw[el]
 generalize (vs.map wS).map PyData.str=L at *
 wp_walk using Cv,Mu,e2,Jx,cB,hk,e1,Cq,tD
theorem Wt {s:List Nat}{c:Nat}:∀{ls:List (List Nat)},c∈inter s ls->c∈s\/∃l∈ls,c∈l
 | [],h=>nomatch h
 | [x],h=>.inr ⟨x,.head _,h⟩
 | x::y::r,h=>by
  have h:c∈x++s++inter s (y::r):=h
  rcases aP.mp h with h | h
  ·rcases aP.mp h with h | h
   ·exact .inr ⟨x,.head _,h⟩
   ·exact .inl h
  ·rcases Wt h with h | ⟨l,hl,h⟩
   ·exact .inl h
   ·exact .inr ⟨l,.tail _ hl,h⟩
theorem Bw5 {c:Nat}{l:List Nat}(h:c∈esc l):c=92\/c∈l:=by
 obtain⟨x,hx,hc⟩:=List.mem_flatMap.mp h;unfold Oo at hc
 split at hc
 ·simp at hc;exact .inl hc
 ·split at hc
  ·rename_i h2
   simp at hc
   rcases hc with hc | hc
   ·exact .inl hc
   ·exact .inr (by rw[hc,<- h2];exact hx)
  ·rw[az.mp hc];exact .inr hx
theorem s10:Str.ofString "\n" = ⟨#[10]⟩:=by decide +kernel
noncomputable def pcL (ws:v_):o5:=.list (ws.map PyData.str)
theorem A1l:∀as bs:v_,PyData.eqvAll (as.map PyData.str) (bs.map PyData.str)=decide (as=bs)
 | [],[]=>by simp[PyData.eqvAll]
 | [],b::bs=>by simp[PyData.eqvAll]
 | a::as,[]=>by simp[PyData.eqvAll]
 | a::as,b::bs=>by
  show (PyData.eqv (.str a) (.str b)&&PyData.eqvAll (as.map PyData.str) (bs.map PyData.str))=_
  rw[Zf,A1l as bs]
  simp
theorem A4l {vs:j4}(h:VBs vs):Nm (tD vs)=true:=by
 show (Im (vs.map Vl.d)&&PyData.canLayAll0 (vs.map Vl.d)&&decide (PyData.depthAll (vs.map Vl.d)<=6))=true
 have k:∀l:j4,Im (l.map Vl.d)=true:=λl=>by
  induction l with
  | nil=>rfl
  | cons v r ih=>show (keyB v.d&&Im (r.map Vl.d))=true;rw[ih];cases v <;> rfl
 have g:=Mh (vs:=vs) (k:=vs.length) h (ak _);have d:=g.dep
 rw[k,show PyData.canLayAll0 (vs.map Vl.d)=true from Y6 λd hd=>by obtain⟨v,hv,rfl⟩:=aA.mp hd;exact(Sy (h v hv)).lay]
 have:PyData.depthAll (vs.map Vl.d)<=6:=by
  have d':PyData.depthAll (vs.map Vl.d)+1<=1:=d;omega
 rw[aq this];rfl
theorem At2 {m:Str}{rest:w6}{gs:List (w6)}:∀(xs:v_) (cur:w6),(∀x∈xs,x≠m)->Qz m gs cur (xs.map PyData.str++rest)=Qz m gs (cur++xs.map PyData.str) rest
 | [],cur,_=>by simp
 | x::xs,cur,h=>by
  show Qz m gs cur (.str x::(xs.map PyData.str++rest))=_
  rw[Qz,if_neg (by rw[Zf];simpa using h x (.head _)),At2 xs _ λy hy=>h y (.tail _ hy)]
  simp
theorem Ac6 {m:Str}:∀(gs:List (v_)) (g:v_) (done:List (w6)),(∀x∈g,x≠m)->(∀l∈gs,∀x∈l,x≠m) ->
 Qz m done [] ((g++(gs.map (m::·)).flatten).map PyData.str)=done++(g::gs).map (·.map PyData.str)
 | [],g,done,h,_=>by
  have:=At2 (m:=m) (rest:=[]) (gs:=done) g [] h;simp only[bN,List.flatten_nil,bw,bx]at this ⊢;rw[this];rfl
 | l::gs,g,done,h,hs=>by
  rw[aV,At2 g [] h]
  show Qz m done ([]++g.map PyData.str) (.str m::((l++(gs.map (m::·)).flatten).map PyData.str))=_
  rw[Qz,if_pos (by rw[Zf];exact aq rfl),Ac6 gs l _ (hs l (.head _)) λk hk=>hs k (.tail _ hk)]
  simp
theorem Ab8 {m:Str}{g:v_}{gs:List (v_)}(h:∀x∈g,x≠m)(hs:∀l∈gs,∀x∈l,x≠m)(hl:(g++(gs.map (m::·)).flatten).length<=1000) :
 Hu [.im (pcL (g++(gs.map (m::·)).flatten)),.im (.str m)]=.ret (.ls false ((g::gs).map pcL)) [.im (pcL (g++(gs.map (m::·)).flatten)),.im (.str m)]:=by
 have e:=Ac6 gs g [] h hs
 have ha:((g++(gs.map (m::·)).flatten).map PyData.str).all Dd=true:=aX.mpr λd hd=>by obtain⟨x,_,rfl⟩:=aA.mp hd;rfl
 have hn:((g++(gs.map (m::·)).flatten).map PyData.str).length<16000000:=by rw[aj];omega
 have er:((g::gs).map (·.map PyData.str)).map PyData.list=(g::gs).map pcL:=by rw[aN];rfl
 unfold pcL at *
 rw[bx]at e
 generalize (g++(gs.map (m::·)).flatten).map PyData.str=L at *
 show Dj 2 4 Aa7 _=_
 refine Qd (p:=.o (.ls false ((g::gs).map λws=>PyData.list (ws.map PyData.str)))) (c:=[sI (.list L),sI (.str m),none,none]) ?_ rfl (by wp_walk using aO)
 show Be7 1 2 3 (Bp (Aa 0)) [sI (.list L),sI (.str m),none,none]=_
 have e1:Bp (Aa 0) [sI (.list L),sI (.str m),none,none]=.ok L [sI (.list L),sI (.str m),none,none]:=by wp_walk using Bp
 unfold Be7
 rw[if_pos (by show (2<4/\3<4)/\1≠2/\1≠3/\2≠3;decide)]
 show (Bp (Aa 0) [sI (.list L),sI (.str m),none,none]).toS _=_
 rw[e1]
 show (if m=m/\(L.all Dd&&decide (L.length<16000000))=true then SR.rt (.o (.ls false ((Qz m [] [] L).map .list))) [sI (.list L),sI (.str m),none,none] else .bad)=_
 rw[if_pos ⟨rfl,by rw[ha,aq hn];rfl⟩,e,er]
theorem Bh3 {l:v_}(hn:∀c∈l,Ci (.str c)=true)(nd:l.Nodup)(hp:1<=l.length)(hl:l.length<=12):Bq [.im (nD l)]=.ret (.im (.bool true)) [.im (nD l)]:=by
 have hs:sm (nD l)=true:=sm_tup.mpr ⟨by rw[aj];omega,λd hd=>by
  obtain⟨c,hc,rfl⟩:=aA.mp hd;obtain⟨_,q,g⟩:=O1 (hn c hc)
  show (decide (c.length<=100)&&c.cps.toList.all (λc=>decide (c<128)))=true
  rw[aq (by omega),bR]
  exact aX.mpr λx hx=>aq (by
   have q:=g x hx;unfold Tt at q
   simp at q
   omega)⟩
 have e:=A3z hs
 have ec:Qs (nD l)=true:=by
  show (decide (0<(l.map PyData.str).length)&&((l.map PyData.str).all Ci&&(match strsOf (l.map PyData.str) with | some ss=>decide ss.Nodup | none=>false)))=true
  rw[M9,aj,aq (show 0<l.length from hp)]
  have ha:(l.map PyData.str).all Ci=true:=aX.mpr λd hd=>by
   obtain⟨c,hc,rfl⟩:=aA.mp hd;exact hn c hc
  rw[ha]
  show decide l.Nodup=true
  exact aq nd
 rw[ec]at e;exact e
def Ek (w:Wd):w6:=[nD w.key,nD w.names,nD w.vals]
theorem As5 {w:Wd}(h:Wx w):Fd [.im (nD w.key),.im (nD w.names),.im (nD w.vals)]=.ret (.im (.bool true)) [.im (nD w.key),.im (nD w.names),.im (nD w.vals)]:=by
 have h1:=h.klen;have h2:=h.nlen;have h3:=h.vlen;have h4:=h.vpos
 have e1:=Bh3 h.nms h.nod (by simp;omega) (by simp;omega)
 have a1:=Ur (a:=w.key) (b:=w.names) (by omega)
 have a2:=Ur (a:=w.key++w.names) (b:=w.vals) (by simp;omega)
 obtain⟨cI,e2,t,rfl⟩:=Fp (g:=cgN 0) (ft:=Ax) (fe:=cUn (By .tuple) (Aa 0)) (I:=λc=>∃t,c=[t]) (f:=nD) (G:=λ_=>PyData.bool true) (xs:=[w.key,w.names,w.vals]) (acc:=[]) (c:=[none]) ⟨none,rfl⟩
  (λl c hv hc=>by
   obtain⟨t,rfl⟩:=hc
   refine⟨[sI (nD l)],?_,_,rfl⟩
   wp_walk using By,Gg,nD)
 have e3:cLC [none] (Bp (El (Ab (Aa 0) (Ab (Aa 1) (Ab (Aa 2) Ag))))) (cgN 0) Ax (cUn (By .tuple) (Aa 0)) [sI (nD w.key),sI (nD w.names),sI (nD w.vals)]=.ok (.o (.ls false [.bool true,.bool true,.bool true])) [sI (nD w.key),sI (nD w.names),sI (nD w.vals)] :=
  Gs (ds:=[nD w.key,nD w.names,nD w.vals]) (c1:=[sI (nD w.key),sI (nD w.names),sI (nD w.vals)]) (by
   generalize nD w.key=k1 at *
   generalize nD w.names=k2 at *
   generalize nD w.vals=k3 at *
   wp_walk using Bp) (by show 3<=16000000;decide) (by simpa[cIn] using e2) rfl
 have e4:Q6 (.list [.bool true,.bool true,.bool true])=sI (.bool true):=rfl
 have e5:Gy [nD w.vals]=sI (.int (w.vals.length:Nat)):=by show some (O.im (.int ((w.vals.map PyData.str).length:Nat)))=_;rw[aj]
 have e6:decide ((0:Int)<(w.vals.length:Nat))=true:=aq (by omega)
 generalize nD (w.key++w.names++w.vals)=d2 at *
 generalize nD (w.key++w.names)=d1 at *
 generalize nD w.key=k1 at *
 generalize nD w.names=k2 at *
 generalize nD w.vals=k3 at *
 wp_walk using Fd,Iu,e3,e4,e5,Tz,e6,a1,a2,e1
theorem A7x {m c:Str}(hm:m.length=1/\∀x∈sg m,Tt x=false)(h:Ci (.str c)=true):c≠m:=λe=>by
 obtain⟨h0,_,h2⟩:=O1 h;subst e
 have:(sg c)≠[]:=λz=>by rw[<- Eh,z]at h0;exact absurd h0 (by decide)
 obtain⟨x,hx⟩:=List.exists_mem_of_ne_nil _ this;have:=h2 x hx;rw[hm.2 x hx]at this
 cases this
theorem Z7 (w:Wd):Di w=Str.ofString "wide" :: (w.key++([w.names,w.vals].map (Str.ofString "/" :: ·)).flatten):=by
 unfold Di;simp
theorem A4v {x:Str}{ws:v_}:Dy (pcL (x::ws)) (some 1) none=sFa (ws.map PyData.str):=by
 show some (O.ls false (cutD ((x::ws).map PyData.str) (some ((1:Nat):Int)) none))=_
 rw[S6];rfl
theorem Au5 {x:Str}:Bg false (.str x) (.str x)=sI (.bool true):=by rw[Fb,aq rfl];rfl
theorem Yt {w:Wd}(h:Wx w):Eu [.im (pcL (Di w))]=.ret (.im (.list (Ek w))) [.im (pcL (Di w))]:=by
 have h1:=h.klen;have h2:=h.nlen;have h3:=h.vlen
 have hm:(Str.ofString "/").length=1/\∀x∈sg (Str.ofString "/"),Tt x=false:=by decide +kernel
 have hn:∀c,c∈w.key\/c∈w.names\/c∈w.vals->c≠Str.ofString "/" := λc hc=>A7x hm (h.nms c (by simpa[or_assoc] using hc))
 have e1:=Ab8 (m:=Str.ofString "/") (g:=w.key) (gs:=[w.names,w.vals]) (λx hx=>hn x (.inl hx)) (λl hl x hx=>by
  rcases au.mp hl with rfl | hl
  ·exact hn x (.inr (.inl hx))
  ·rw[az.mp hl]at hx;exact hn x (.inr (.inr hx))) (by simp;omega)
 have e2:Dy (pcL (Di w)) (some 1) none=sFa ((w.key++([w.names,w.vals].map (Str.ofString "/" :: ·)).flatten).map PyData.str):=by rw[Z7];exact A4v
 have e3:Ar (pcL (Di w)) (.int 0)=sI (.str "wide"):=by rw[Z7];exact Ao0 _ _
 obtain⟨cI,e4,t,rfl⟩:=Fp (g:=cgN 0) (ft:=Ax) (fe:=cUn Cq (Aa 0)) (I:=λc=>∃t,c=[t]) (f:=pcL) (G:=nD) (xs:=[w.key,w.names,w.vals]) (acc:=[]) (c:=[none]) ⟨none,rfl⟩
  (λl c hv hc=>by
   obtain⟨t,rfl⟩:=hc
   refine⟨[sI (pcL l)],?_,_,rfl⟩
   wp_walk using Cq,nD,pcL)
 have e5:∀u,cLC [none] (Bp (cF Hu (Ab (cSl Dy (Aa 0) (cOS (cC (.int 1))) cON) (Ab (cC (.str "/")) Ag)))) (cgN 0) Ax (cUn Cq (Aa 0)) [sI (pcL (Di w)),u]=.ok (.o (.ls false (Ek w))) [sI (pcL (Di w)),u]:=λu =>
  Gs (ds:=[w.key,w.names,w.vals].map pcL) (c1:=[sI (pcL (Di w)),u]) (by
   unfold pcL at *
   generalize (w.key::[w.names,w.vals]).map (λws=>PyData.list (ws.map PyData.str))=L1 at *
   generalize (w.key++([w.names,w.vals].map (Str.ofString "/" :: ·)).flatten).map PyData.str=L2 at *
   generalize PyData.list ((Di w).map PyData.str)=D at *
   wp_walk using Bp,e1,e2) (by show 3<=16000000;decide) (by simpa[cIn,Ek] using e4) rfl
 have e6:=As5 h;have hk:=Nk (r:=.int 0);have e7:Gy [.list (Ek w)]=sI (.int 3):=rfl;have i0:Ar (.list (Ek w)) (.int 0)=sI (nD w.key):=rfl;have i1:Ar (.list (Ek w)) (.int 1)=sI (nD w.names):=rfl;have i2:Ar (.list (Ek w)) (.int 2)=sI (nD w.vals):=rfl
 have e8:Bg false (.int 3) (.int 3)=sI (.bool true):=by rw[Jx];rfl
 have e9:=Au5 (x:=Str.ofString "wide")
 generalize pcL (Di w)=D at *
 generalize Ek w=C at *
 generalize nD w.key=k1 at *
 generalize nD w.names=k2 at *
 generalize nD w.vals=k3 at *
 wp_walk using Eu,Hr,cFz,e5,e3,e9,e7,e8,hk,i0,i1,i2,e6
theorem Bv9 {v:Vl}:∃c r,sg (wS v)=c::r/\(c=39\/c=45\/(48<=c/\c<=57)):=by
 cases v with
 | non=>exact⟨45,[],by decide +kernel,.inr (.inl rfl)⟩
 | int i =>
  have ne:sg (nS i)≠[]:=λz=>by
   have h0:=Am2 i.natAbs
   cases i with
   | ofNat m=>exact Am2 m z
   | negSucc m =>
    have e:=Aa0 (m:=m+1) (by omega)
    rw[show (-((m+1:Nat):Int))=Int.negSucc m from rfl]at e
    rw[e]at z;have:=bj List.length z;rw[Eh,Str.length_append]at this
    rw[show (Str.ofString "-").length=1 by decide +kernel]at this
    simp at this
  obtain⟨c,r,e⟩:=List.exists_cons_of_ne_nil ne
  exact⟨c,r,e,.inr (V9 (by rw[e];exact .head _))⟩
 | str x=>exact⟨39,esc (sg x)++[39],rfl,.inl rfl⟩
theorem B0x {v:Vl}{m:Str}{k:Nat}(e:sg m=[k])(h:k≠39/\k≠45/\¬ (48<=k/\k<=57)):wS v≠m:=λz=>by
 obtain⟨c,r,e1,h1⟩:=Bv9 (v:=v);rw[z,e]at e1
 injection e1 with e1 _
 subst e1
 rcases h1 with h1 | h1 | h1
 ·exact h.1 h1
 ·exact h.2.1 h1
 ·exact h.2.2 h1
theorem Bb5 {c:Option (j4)}{n:Nat}(h:Mv n c)(hn:1<=n):decide (Eb c=[Str.ofString "_"])=c.isNone:=by
 cases c with
 | none=>exact aq rfl
 | some vs =>
  obtain⟨hl,_⟩:=h vs rfl
  refine aB λz=>?_
  have z:vs.map wS=[Str.ofString "_"]:=z
  cases vs with
  | nil=>cases z
  | cons v r=>injection z with z _;exact B0x (k:=95) (by decide +kernel) (by decide) z
def Ag0 (x:Str):Prop:=∀c∈sg x,32<=c/\c<=126
theorem Av6 {x:Str}(h:(sg x).all (λc=>decide (32<=c)&&decide (c<=126))=true):Ag0 x:=λc hc=>by simpa using aX.mp h c hc
theorem B0w {v:Vl}(h:VB v):Ag0 (wS v):=by
 cases v with
 | non=>exact Av6 (by decide +kernel)
 | int i=>exact λc hc=>by have:=V9 hc;omega
 | str x =>
  intro c hc;have hc:c∈39::(esc (sg x)++[39]):=hc
  rcases au.mp hc with rfl | hc
  ·omega
  ·rcases aP.mp hc with hc | hc
   ·rcases Bw5 hc with rfl | hc
    ·omega
    ·exact(Ae3 h).2 c hc
   ·rw[az.mp hc];omega
theorem Bu8 {c:Str}(h:Ci (.str c)=true):Ag0 c:=λx hx=>by
 have q:=(O1 h).2.2 x hx;unfold Tt at q
 simp at q
 omega
theorem B1p {x:Str}(h:Ag0 x):(PyData.str x).canLay0=true:=by
 show x.cps.all (·<0x110000)=true
 rw[<- Array.all_toList]
 exact aX.mpr λc hc=>aq (by have:=(h c hc).2;omega)
theorem Bf9 {c:Option (j4)}{n:Nat}(h:Mv n c):∀x∈Eb c,Ag0 x:=λx hx=>by
 cases c with
 | none=>rw[az.mp hx];exact Av6 (by decide +kernel)
 | some vs =>
  obtain⟨v,hv,rfl⟩:=aA.mp (show x∈vs.map wS from hx)
  exact B0w ((h vs rfl).2 v hv)
theorem At9 {c:Option (j4)}{n:Nat}{j:o5}(h:Mv n c)(h1:1<=n)(h5:n<=5):Ff [.im (pcL (Eb c)),.im (.int (n:Nat)),.im j]=.ret (.im (Ba c)) [.im (pcL (Eb c)),.im (.int (n:Nat)),.im j]:=by
 have fl:∀l:v_,(∀x∈l,Ag0 x)->Ew (.list (l.map PyData.str))=true:=λl hx=>by
  have a:PyData.canLayAll0 (l.map PyData.str)=true:=Y6 λd hd=>by obtain⟨x,hm,rfl⟩:=aA.mp hd;exact B1p (hx x hm)
  have d:∀l:v_,PyData.depthAll (l.map PyData.str)=0:=λl=>by
   induction l with
   | nil=>rfl
   | cons x r ih=>show max 0 (PyData.depthAll (r.map PyData.str))=0;rw[ih];rfl
  show (PyData.canLayAll0 (l.map PyData.str)&&decide (PyData.depthAll (l.map PyData.str)+1<=40))=true
  rw[a,d];rfl
 have e1:Bg false (pcL (Eb c)) (.list [.str "_"])=sI (.bool c.isNone):=by
  rw[<- Bb5 h h1,<- A1l];have f1:=fl (Eb c) (Bf9 h)
  have f2:=fl [Str.ofString "_"] λx hx=>by rw[az.mp hx];exact Av6 (by decide +kernel)
  unfold Bg
  rw[show Ew (pcL (Eb c))=true from f1,show Ew (.list [.str "_"])=true from f2]
  rfl
 cases c with
 | none =>
  generalize pcL (Eb none)=D at *
  wp_walk using Ff,Mg,e1,Option.isNone,Ba
 | some vs =>
  obtain⟨hl,hv⟩:=h vs rfl
  have e2:=Mr (r:=j) hv (by omega)
  rw[hl]at e2;have e2:Cv [.im (pcL (Eb (some vs))),.im (.int (n:Nat)),.im j]=.ret (.im (tD vs)) [.im (pcL (Eb (some vs))),.im (.int (n:Nat)),.im j]:=e2
  show Ff _=.ret (.im (tD vs)) _
  generalize pcL (Eb (some vs))=D at *
  generalize tD vs=d at *
  wp_walk using Ff,Mg,e1,e2,Option.isNone
theorem A8j (cs:List (Option (j4))):J8 cs=((cs.map Eb).map (Str.ofString ":" :: ·)).flatten:=by
 unfold J8;rw[aN];rfl
theorem Au8 {w:Wd}(h:Wx w){r:List Vl×List (Option (j4))}(hr:r∈w.rows){j:o5} :
 Ih [.im (pcL (Cr r)),.im (.list (Ek w)),.im (.int (w.heads.length:Nat)),.im j]=.ret (.im (Dz r)) [.im (pcL (Cr r)),.im (.list (Ek w)),.im (.int (w.heads.length:Nat)),.im j]:=by
 have g:=h.rows r hr;have h1:=h.klen;have h2:=h.hlen;have h3:=g.plen;have h4:=g.clen;have hv5:=h.vlen
 have hmk:∀v:Vl,wS v≠Str.ofString ":" := λv=>B0x (k:=58) (by decide +kernel) (by decide)
 have pl:=(Aa1 h hr).len
 have ep:Cr r=Str.ofString "part" :: (r.1.map wS++((r.2.map Eb).map (Str.ofString ":" :: ·)).flatten):=by unfold Cr;rw[A8j]
 have e1:=Ab8 (m:=Str.ofString ":") (g:=r.1.map wS) (gs:=r.2.map Eb) (λx hx=>by
  obtain⟨v,_,rfl⟩:=aA.mp hx;exact hmk v) (λl hl x hx=>by
  obtain⟨c,_,rfl⟩:=aA.mp hl
  cases c with
  | none=>rw[az.mp hx];decide +kernel
  | some vs =>
   obtain⟨v,_,rfl⟩:=aA.mp (show x∈vs.map wS from hx)
   exact hmk v) (by rw[ep,aH]at pl;omega)
 have e2:Dy (pcL (Cr r)) (some 1) none=sFa ((r.1.map wS++((r.2.map Eb).map (Str.ofString ":" :: ·)).flatten).map PyData.str):=by rw[ep];exact A4v
 have e3:Ar (pcL (Cr r)) (.int 0)=sI (.str "part"):=by rw[ep];exact Ao0 _ _
 have e4:=Au5 (x:=Str.ofString "part");have hk:=Nk (r:=j)
 let gs:w6:=(r.2.map Eb).map pcL
 have lg:gs.length=w.heads.length:=by show ((r.2.map Eb).map pcL).length=_;rw[aj,aj,h4]
 have e5:Gy [.list (pcL (r.1.map wS)::gs)]=sI (.int ((1:Int)+(w.heads.length:Nat))):=by
  show some (O.im (.int ((gs.length+1:Nat):Int)))=_
  rw[lg];congr 3;omega
 have e6:Bg false (.int ((1:Int)+(w.heads.length:Nat))) (.int ((1:Int)+(w.heads.length:Nat)))=sI (.bool true):=by rw[Jx,aq rfl];rfl
 have e7:Ar (.list (pcL (r.1.map wS)::gs)) (.int 0)=sI (pcL (r.1.map wS)):=Ao0 _ _
 have e8:=Mr (r:=j) g.part (by omega)
 rw[h3]at e8;have e8:Cv [.im (pcL (r.1.map wS)),.im (.int (w.key.length:Nat)),.im j]=.ret (.im (tD r.1)) [.im (pcL (r.1.map wS)),.im (.int (w.key.length:Nat)),.im j]:=e8;have i0:Ar (.list (Ek w)) (.int 0)=sI (nD w.key):=rfl;have i2:Ar (.list (Ek w)) (.int 2)=sI (nD w.vals):=rfl
 have l0:Gy [nD w.key]=sI (.int (w.key.length:Nat)):=by show some (O.im (.int ((w.key.map PyData.str).length:Nat)))=_;rw[aj]
 have l2:Gy [nD w.vals]=sI (.int (w.vals.length:Nat)):=by show some (O.im (.int ((w.vals.map PyData.str).length:Nat)))=_;rw[aj]
 have e9:Dy (.list (pcL (r.1.map wS)::gs)) (some 1) none=sFa gs:=by
  show some (O.ls false (cutD (pcL (r.1.map wS)::gs) (some ((1:Nat):Int)) none))=_
  rw[S6];rfl
 obtain⟨cI,e10,t,rfl⟩:=Fp (g:=cgN 0) (ft:=Ax) (fe:=cF Ff (Ab (Aa 0) (Ab (Gh (cOp Ar (Aa 2) (cC (.int 2)))) (Ab (Aa 1) Ag)))) (I:=λc=>∃t,c=[t,sI j,sI (.list (Ek w))]) (f:=λc=>pcL (Eb c)) (G:=Ba) (xs:=r.2) (acc:=[]) (c:=[none,sI j,sI (.list (Ek w))]) ⟨none,rfl⟩
  (λv c hv hc=>by
   obtain⟨t,rfl⟩:=hc
   refine⟨[sI (pcL (Eb v)),sI j,sI (.list (Ek w))],?_,_,rfl⟩
   have e:=At9 (j:=j) (g.cells v hv) h.vpos h.vlen
   generalize pcL (Eb v)=D at *
   generalize Ba v=d at *
   generalize Ek w=C at *
   generalize nD w.vals=k3 at *
   wp_walk using i2,l2,e)
 have eg:(r.2.map λc=>pcL (Eb c))=gs:=by show _=(r.2.map Eb).map pcL;rw[aN];rfl
 rw[eg]at e10
 have e11:∀x5 x6,cLC [none,some 3,some 1] (Bp (cSl Dy (Aa 4) (cOS (cC (.int 1))) cON)) (cgN 0) Ax (cF Ff (Ab (Aa 0) (Ab (Gh (cOp Ar (Aa 2) (cC (.int 2)))) (Ab (Aa 1) Ag)))) [sI (pcL (Cr r)),sI (.list (Ek w)),sI (.int (w.heads.length:Nat)),sI j,sFa (pcL (r.1.map wS)::gs),x5,x6]=.ok (.o (.ls false (r.2.map Ba))) [sI (pcL (Cr r)),sI (.list (Ek w)),sI (.int (w.heads.length:Nat)),sI j,sFa (pcL (r.1.map wS)::gs),x5,x6]:=λx5 x6 =>
  Gs (ds:=gs) (c1:=[sI (pcL (Cr r)),sI (.list (Ek w)),sI (.int (w.heads.length:Nat)),sI j,sFa (pcL (r.1.map wS)::gs),x5,x6]) (by
   generalize pcL (r.1.map wS)::gs=L1 at *
   wp_walk using Bp,e9) (by rw[lg];omega) (by simpa[cIn,O.flag] using e10) rfl
 have er:Dz r=.tuple [tD r.1,.tuple (r.2.map Ba)]:=rfl;rw[er]
 have e1:Hu [.im (.list ((r.1.map wS++((r.2.map Eb).map (Str.ofString ":" :: ·)).flatten).map PyData.str)),.im (.str ":")]=.ret (.ls false (pcL (r.1.map wS)::gs)) [.im (.list ((r.1.map wS++((r.2.map Eb).map (Str.ofString ":" :: ·)).flatten).map PyData.str)),.im (.str ":")]:=e1
 generalize (r.1.map wS++((r.2.map Eb).map (Str.ofString ":" :: ·)).flatten).map PyData.str=L2 at *
 generalize pcL (r.1.map wS)=d1 at *
 generalize gs=G at *
 generalize pcL (Cr r)=D at *
 generalize Ek w=C at *
 generalize nD w.key=k1 at *
 generalize nD w.vals=k3 at *
 generalize r.2.map Ba=L3 at *
 generalize tD r.1=d2 at *
 wp_walk using Ih,O4,e2,e1,e3,e4,e5,Am,e6,hk,e7,i0,l0,e8,e11,Cq
local macro_rules | `(tactic| wp_walk using $ts,*)=>`(tactic| simp only [sI,sT,sFa,Ao,Bo,cgN,cgT,Br,Gn,Aa,cC,cTy,cOp,cUn,Gh,cF,cFO,cFV,cFz,Vu,shown,Kl,T6,Ax0,At8,Ac2,Nz,noL,Yp,cU,eX,eY,eZ,dj,dm,dB,Lx,Tv,slots,pairsOf,ndB,Gx,Ag,Ab,cK,nrm,Eo,Vv,rdP,O.dat,O.flag,O.own,O.bor,frz,frzs,El,Gr,cIf,Aw,Ax,Qx,cOr,My,Hj,Yk,Ly,Hs,Cm,Xy,En,Ck,Ko,Hd,slL,Ke,A0d,A1o,Lb,Qn,Rh,Rg,cSl,cON,cOS,G9,Ye,cIn,R.bind_ok,R.toS_ok,R.bind_bad,R.toS_bad,Dj,Vf,resolve,Fe,Lj,U.opI,U.Qy,Tz,Xo,J4,Jv,K5,Ma,Fw,Il,Ag5,dC,bO,cL,cM,aK,bN,aH,cZ,List.replicate,cN,bx,bw,dD,bL,cJ,bG,dF,cW,aY,aW,dG,dH,dI,bR,dJ,dM,dN,b_,cV,cX,cA,List.dropLast,dO,dR,dU,dW,cB,dX,reduceCtorEq,Rz,Vi,V5,Vk,Wb,O8,Pk,P0,U.H9,aG,Nat.reduceAdd,Nat.reduceSub,Nat.reduceLeDiff,Nat.reduceLT,Nat.reduceEqDiff,Int.reduceAdd,Int.reduceSub,Int.reduceNeg,Int.reduceLT,Int.reduceLE,Int.reducePow,Int.reduceToNat,Int.reduceMul,dY,dZ,aO,bz,cY,cMt,Dd,Hs,cSl,cOS,cON,Hd,$[$ts:term],*])
theorem Ag7 {w:Wd}(h:Wx w):∀ws∈Gi w,∀x∈ws,Wq x/\Ag0 x:=λws hws x hx=>by
 have fx:∀s:Str,Wq s->(sg s).all (λc=>decide (32<=c)&&decide (c<=126))=true->Wq s/\Ag0 s:=λs a b=>⟨a,Av6 b⟩
 have vl:∀{vs:j4},VBs vs->∀x∈vs.map wS,Wq x/\Ag0 x:=λhv x hx=>by
  obtain⟨v,hm,rfl⟩:=aA.mp hx;exact⟨B6y v,B0w (hv v hm)⟩
 rcases au.mp hws with rfl | hws
 ·rcases An8 hx with rfl | rfl | hx
  ·exact fx _ (by decide +kernel) (by decide +kernel)
  ·exact fx _ (by decide +kernel) (by decide +kernel)
  ·exact⟨Bt6 (h.nms x hx),Bu8 (h.nms x hx)⟩
 ·rcases aP.mp hws with hws | hws
  ·obtain⟨hd,hm,rfl⟩:=aA.mp hws
   rcases au.mp hx with rfl | hx
   ·exact fx _ (by decide +kernel) (by decide +kernel)
   ·exact vl (h.heads hd hm).2 x hx
  ·obtain⟨r,hr,rfl⟩:=aA.mp hws
   have g:=h.rows r hr
   rcases au.mp hx with rfl | hx
   ·exact fx _ (by decide +kernel) (by decide +kernel)
   ·rcases aP.mp hx with hx | hx
    ·exact vl g.part x hx
    ·obtain⟨l,hl,hx⟩:=List.mem_flatten.mp hx
     obtain⟨c,hc,rfl⟩:=aA.mp hl
     rcases au.mp hx with rfl | hx
     ·exact fx _ (by decide +kernel) (by decide +kernel)
     ·cases c with
      | none=>rw[az.mp hx];exact fx _ (by decide +kernel) (by decide +kernel)
      | some vs=>exact vl (g.cells _ hc vs rfl).2 x hx
theorem B0o {ws:v_}(h:∀x∈ws,Ag0 x):Ag0 (jn ws):=λc hc=>by
 unfold jn at hc;rw[Gz,s32]at hc
 rcases Wt hc with hc | ⟨l,hl,hc⟩
 ·have:=az.mp hc;omega
 ·obtain⟨w,hw,rfl⟩:=aA.mp hl
  exact h w hw c hc
theorem A5e {w:Wd}(h:Wx w):Txt.split (Bm w) (Str.ofString "\n")=Fg w:=by
 unfold Bm;rw[s10]
 refine A3h (by unfold Fg Gi;simp) λx hx hc=>?_
 obtain⟨ws,hws,rfl⟩:=aA.mp hx
 have:=B0o (λx hx=>(Ag7 h ws hws x hx).2) 10 hc
 omega
theorem Ak9 {w:Wd}(h:Wx w):(Bm w).length<=200000:=by
 obtain⟨g1,g2⟩:=Uv h;have h1:=StrLaws.sumLen_le (B:=7000) (Fg w) g1;have h2:=Af6 (Str.ofString "\n") (Fg w);have hr:=Up h
 rw[show (Str.ofString "\n").length=1 by decide +kernel]at h2
 unfold Bm;omega
theorem Ah1 {w:Wd}(h:Wx w):Ga [.im (.str (Bm w))]=.ret (.ls false ((Gi w).map pcL)) [.im (.str (Bm w))]:=by
 have hl:=Ak9 h;have hr:=Up h
 have e1:Vt (.str (Bm w)) (.str "\n")=sFa ((Fg w).map PyData.str):=by
  show (if (Str.ofString "\n").length≠0/\(Bm w).length<=16000000/\(Txt.split (Bm w) (Str.ofString "\n")).length<=16000000 then some (O.ls false ((Txt.split (Bm w) (Str.ofString "\n")).map .str)) else none)=_
  rw[A5e h,if_pos ⟨by decide +kernel,by omega,by omega⟩]
 obtain⟨cI,e2,u,rfl⟩:=Fp (g:=cgN 0) (ft:=Ax) (fe:=cF G4 (Ab (Aa 0) Ag)) (I:=λc=>∃u,c=[u]) (f:=λws=>PyData.str (jn ws)) (G:=pcL) (xs:=Gi w) (acc:=[]) (c:=[none]) ⟨none,rfl⟩
  (λws c hws hI=>by
   obtain⟨u,rfl⟩:=hI;have g:=Am9 h ws hws
   refine⟨[sI (.str (jn ws))],?_,_,rfl⟩
   have hz:=Bj6 g
   have e:=A9a g.ne (λx hx=>(Ag7 h ws hws x hx).1) (by have:=g.len;omega) (show (Str.join (Str.ofString " ") ws).length<=1000000 from ao hz (by decide))
   rw[show Str.join (Str.ofString " ") ws=jn ws from rfl]at e
   generalize jn ws=z at *
   wp_walk using e,pcL)
 have el:((Gi w).map λws=>PyData.str (jn ws))=(Fg w).map PyData.str:=by unfold Fg;rw[aN];rfl
 rw[el]at e2
 have e3:cLC [none] (Bp (cMt Dd Vt (Aa 0) (cC (.str "\n")))) (cgN 0) Ax (cF G4 (Ab (Aa 0) Ag)) [sI (.str (Bm w))]=.ok (.o (.ls false ((Gi w).map pcL))) [sI (.str (Bm w))] :=
  Gs (ds:=(Fg w).map PyData.str) (c1:=[sI (.str (Bm w))]) (by
   generalize (Fg w).map PyData.str=L at *
   generalize Bm w=z at *
   wp_walk using Bp,e1) (by rw[aj];omega) (by simpa[cIn,O.flag] using e2) rfl
 generalize Bm w=z at *
 generalize (Gi w).map pcL=W at *
 wp_walk using Ga,N6,e3
abbrev wfG:n8:=cgT 2 (Br (cgN 5) (Br (cgN 6) Gn))
abbrev wfC:m6:=Qx (Aw (cOp (Bg false) (cOp Ar (Aa 6) (cC (.int 0))) (cC (.str "head")))) (Aw (cOp (Bg false) (Zy (Aa 4)) (cC (.int 0))))
abbrev wf1:m7:=cF Cv (Ab (cSl Dy (Aa 6) (cOS (cC (.int 1))) cON) (Ab (Gh (cOp Ar (Aa 2) (cC (.int 1)))) (Ab (Aa 5) Ag)))
abbrev wf2:m7:=cF Bl (Ab (Aa9 (Aa 7) (Aa 3)) (Ab (Aa 5) Ag))
abbrev wf3:m7:=cF Ih (Ab (Aa 6) (Ab (Aa 2) (Ab (Zy (Aa 3)) (Ab (Aa 5) Ag))))
abbrev wf4:m7:=cF Bl (Ab (Aa9 (cOp Ar (Aa 8) (cC (.int 0))) (Aa 4)) (Ab (Aa 5) Ag))
abbrev wf5:m7:=cOp Ar (Aa 8) (cC (.int 0))
abbrev wf6:m7:=cOp Ar (Aa 8) (cC (.int 1))
abbrev wf:o5->WT->Option WT:=Ao7 3 4 wfG wfC (wA 7 wf1 wf2) (wB 8 wf3 wf4 wf5 wf6)
theorem Ar0 {vs:j4}:∀{l:k_},vs∉l->N7 (tD vs) (l.map tD)=none
 | [],_=>rfl
 | a::l,h=>by
  show (if PyData.eqv (tD a) (tD vs)=true then some 0 else (N7 (tD vs) (l.map tD)).map (·+1))=none
  rw[B1k,if_neg (by simp;intro z;exact h (by rw[z];exact .head _)),Ar0 λm=>h (.tail _ m)];rfl
theorem Bz7 {l:k_}(h:∀v∈l,VBs v):(l.map tD).all Nm=true:=aX.mpr λd hd=>by
 obtain⟨v,hv,rfl⟩:=aA.mp hd;exact A4l (h v hv)
theorem A9q {w:Wd}(h:Wx w){vs:j4}{dn:k_}(hv:VBs vs)(hl:vs.length=w.names.length)(hd:∀v∈dn,VBs v)(hn:vs∉dn)(hdl:dn.length<=100){x:o5}{W:w6}{j:Int}{u5 u6 u7 u8:m_}(h8:Kp u8=true) :
 wf (.tuple [.int j,pcL (Str.ofString "head" :: vs.map wS)]) ([sI x,sFa W,sI (.list (Ek w)),none,none,u5,u6,u7,u8],dn.map tD,[],[]) =
  some ([sI x,sFa W,sI (.list (Ek w)),none,none,sI (.int j),sI (pcL (Str.ofString "head" :: vs.map wS)),sI (tD vs),u8],(dn++[vs]).map tD,[],[]):=by
 have e1:=Mr (r:=.int j) hv (by have:=h.nlen;omega)
 rw[hl]at e1;have e2:Dy (pcL (Str.ofString "head" :: vs.map wS)) (some 1) none=sFa ((vs.map wS).map PyData.str):=A4v;have e3:Ar (pcL (Str.ofString "head" :: vs.map wS)) (.int 0)=sI (.str "head"):=Ao0 _ _;have e4:=Au5 (x:=Str.ofString "head");have i1:Ar (.list (Ek w)) (.int 1)=sI (nD w.names):=rfl
 have l1:Gy [nD w.names]=sI (.int (w.names.length:Nat)):=by show some (O.im (.int ((w.names.map PyData.str).length:Nat)))=_;rw[aj]
 have k1:=A4l hv;have k2:=Bz7 hd;have k3:=Ar0 hn
 have kl:(dn.map tD).length<16000000:=by rw[aj];omega
 have hk:=Nk (r:=.int j)
 have e0:Bg false (.int ((0:Nat):Int)) (.int 0)=sI (.bool true):=by rw[Jx];rfl
 have ed:(dn++[vs]).map tD=dn.map tD++[tD vs]:=by rw[aV];rfl
 rw[ed]
 generalize (vs.map wS).map PyData.str=L at *
 generalize pcL (Str.ofString "head" :: vs.map wS)=D at *
 generalize nD w.names=d1 at *
 generalize Ek w=C at *
 generalize dn.map tD=M at *
 generalize tD vs=d at *
 have kt:=aq kl;unfold Kp at h8
 show wDo 3 4 _ _ _ _ _ _=_
 wp_walk using wfG,wfC,wDo,B2v,wA,inD,noD,Zy,Aa9,okK,dj,dm,Kp,h8,e3,e4,e0,e2,i1,l1,e1,k1,k2,k3,hk,kt,kl,Option.isNone
theorem A7s {w:Wd}(h:Wx w){r:List Vl×List (Option (j4))}(hr:r∈w.rows){dn:List (List Vl×List (Option (j4)))}(hd:∀v∈dn,VBs v.1)(hn:r.1∉dn.map (·.1))(hdl:dn.length<=100){x:o5}{W:w6}{j:Int}{u5 u6 u7 u8:m_}(h7:Kp u7=true) :
 wf (.tuple [.int j,pcL (Cr r)]) ([sI x,sFa W,sI (.list (Ek w)),none,none,u5,u6,u7,u8],w.heads.map tD,(dn.map (·.1)).map tD,dn.map λr=>PyData.tuple (r.2.map Ba)) =
  some ([sI x,sFa W,sI (.list (Ek w)),none,none,sI (.int j),sI (pcL (Cr r)),u7,sI (Dz r)],w.heads.map tD,((dn++[r]).map (·.1)).map tD,(dn++[r]).map λr=>PyData.tuple (r.2.map Ba)):=by
 have g:=h.rows r hr;have e1:=Au8 h hr (j:=.int j);have e3:Ar (pcL (Cr r)) (.int 0)=sI (.str "part"):=Ao0 _ _
 have e4:Bg false (.str "part") (.str "head")=sI (.bool false):=by rw[Fb,aB (by decide +kernel)];rfl
 have i0:Ar (Dz r) (.int 0)=sI (tD r.1):=rfl;have i1:Ar (Dz r) (.int 1)=sI (.tuple (r.2.map Ba)):=rfl;have k1:=A4l g.part
 have k2:((dn.map (·.1)).map tD).all Nm=true:=Bz7 λv hv=>by obtain⟨q,hq,rfl⟩:=aA.mp hv;exact hd q hq
 have k3:=Ar0 hn
 have kl:((dn.map (·.1)).map tD).length<16000000:=by rw[aj,aj];omega
 have hk:=Nk (r:=.int j)
 have ed:((dn++[r]).map (·.1)).map tD=(dn.map (·.1)).map tD++[tD r.1]:=by rw[aV,aV];rfl
 have ee:((dn++[r]).map λr=>PyData.tuple (r.2.map Ba))=(dn.map λr=>PyData.tuple (r.2.map Ba))++[.tuple (r.2.map Ba)]:=by rw[aV];rfl
 rw[ed,ee];have lh:((w.heads.map tD).length:Nat)=w.heads.length:=aj _;rw[<- lh]at e1
 generalize pcL (Cr r)=D at *
 generalize Ek w=C at *
 generalize w.heads.map tD=HH at *
 generalize (dn.map (·.1)).map tD=M at *
 generalize (dn.map λr=>PyData.tuple (r.2.map Ba))=M2 at *
 generalize PyData.tuple (r.2.map Ba)=d2 at *
 generalize tD r.1=d at *
 generalize Dz r=rr at *
 have kt:=aq kl;unfold Kp at h7
 show wDo 3 4 _ _ _ _ _ _=_
 wp_walk using wfG,wfC,wDo,B2v,wB,inD,noD,Zy,Aa9,okK,dj,dm,Kp,h7,e3,e4,e1,i0,i1,k1,k2,k3,hk,kt,kl,Option.isNone
def hdW (h:j4):v_:=Str.ofString "head" :: h.map wS
def en1:Nat->List (v_)->w6
 | _,[]=>[]
 | k,l::r=>.tuple [.int ((k+1:Nat):Int),pcL l]::en1 (k+1) r
theorem A5u:∀(L:List (v_)) (k i:Nat),(en1 k L)[i]?=(L[i]?).map λl=>PyData.tuple [.int ((k+i+1:Nat):Int),pcL l]
 | [],_,_=>by simp[en1]
 | l::r,k,0=>by simp[en1]
 | l::r,k,i+1=>by
  show (en1 (k+1) r)[i]?=(r[i]?).map _
  rw[A5u r (k+1) i,show k+1+i+1=k+(i+1)+1 by omega]
theorem Bh0 (L:List (v_)):Oh (L.map pcL)=en1 0 L:=by
 apply gH;intro i;rw[A5u];unfold Oh;rw[bD,aj]
 by_cases h:i<L.length
 ·rw[gb h,cj h,bL,bL,gM,bD,cj h,aG];rfl
 ·rw[cu (by rw[gK];omega),cu (ie h)];rfl
theorem A6s:∀(a b:List (v_)) (k:Nat),en1 k (a++b)=en1 k a++en1 (k+a.length) b
 | [],b,k=>rfl
 | x::a,b,k=>by
  show _::en1 (k+1) (a++b)=_::(en1 (k+1) a++_)
  rw[A6s a b (k+1),aH,show k+1+a.length=k+(a.length+1) by omega]
theorem Ad6 {w:Wd}(h:Wx w){x:o5}{W:w6}{u8:m_}(h8:Kp u8=true){rest:w6}:∀(todo dn:k_) (k:Nat) (u5 u6 u7:m_),Kp u7=true->(dn++todo).Nodup->(∀v∈dn++todo,v.length=w.names.length/\VBs v)->(dn++todo).length<=100 ->
 ∃
  v5 v6 v7,Kp v7=true/\Ov wf (en1 k (todo.map hdW)++rest) ([sI x,sFa W,sI (.list (Ek w)),none,none,u5,u6,u7,u8],dn.map tD,[],[]) =
  Ov wf rest ([sI x,sFa W,sI (.list (Ek w)),none,none,v5,v6,v7,u8],(dn++todo).map tD,[],[])
 | [],dn,k,u5,u6,u7,h7,_,_,_=>⟨u5,u6,u7,h7,by rw[bw];rfl⟩
 | v::todo,dn,k,u5,u6,u7,h7,nd,hv,hl=>by
  have e:dn++v::todo=dn++[v]++todo:=by simp
  have hm:=hv v (by simp)
  have t:=A9q h (W:=W) (x:=x) (dn:=dn) (j:=((k+1:Nat):Int)) (u5:=u5) (u6:=u6) (u7:=u7) hm.2 hm.1 (λy hy=>(hv y (by simp[hy])).2) (λz=>by
   rw[gm]at nd
   exact nd.2.2 v z v (.head _) rfl) (by rw[aM]at hl;omega) h8
  obtain⟨v5,v6,v7,g7,ih⟩:=Ad6 h (x:=x) (W:=W) h8 (rest:=rest) todo (dn++[v]) (k+1) (sI (.int ((k+1:Nat):Int))) (sI (pcL (Str.ofString "head" :: v.map wS))) (sI (tD v)) rfl (by rw[<- e];exact nd) (by rw[<- e];exact hv) (by rw[<- e];exact hl)
  refine⟨v5,v6,v7,g7,?_⟩
  rw[e,<- ih]
  show (match wf (.tuple [.int ((k+1:Nat):Int),pcL (Str.ofString "head" :: v.map wS)]) _ with | some w=>Ov wf _ w | none=>none)=_
  rw[t]
  rfl
theorem Ad0 {w:Wd}(h:Wx w){x:o5}{W:w6}{u7:m_}(h7:Kp u7=true):∀(todo dn:List (List Vl×List (Option (j4)))) (k:Nat) (u5 u6 u8:m_),((dn++todo).map (·.1)).Nodup->(∀r∈dn++todo,r∈w.rows)->(dn++todo).length<=100 ->
 ∃
  v5 v6 v8,Ov wf (en1 k (todo.map Cr)) ([sI x,sFa W,sI (.list (Ek w)),none,none,u5,u6,u7,u8],w.heads.map tD,(dn.map (·.1)).map tD,dn.map λr=>PyData.tuple (r.2.map Ba)) =
  some ([sI x,sFa W,sI (.list (Ek w)),none,none,v5,v6,u7,v8],w.heads.map tD,((dn++todo).map (·.1)).map tD,(dn++todo).map λr=>PyData.tuple (r.2.map Ba))
 | [],dn,k,u5,u6,u8,_,_,_=>⟨u5,u6,u8,by rw[bw];rfl⟩
 | r::todo,dn,k,u5,u6,u8,nd,hv,hl=>by
  have e:dn++r::todo=dn++[r]++todo:=by simp
  have hm:=hv r (by simp)
  have t:=A7s h hm (W:=W) (x:=x) (dn:=dn) (j:=((k+1:Nat):Int)) (u5:=u5) (u6:=u6) (u8:=u8) (λy hy=>(h.rows y (hv y (by simp[hy]))).part) (λz=>by
   rw[aV,gm]at nd
   exact nd.2.2 r.1 z r.1 (.head _) rfl) (by rw[aM]at hl;omega) h7
  obtain⟨v5,v6,v8,ih⟩:=Ad0 h (x:=x) (W:=W) h7 todo (dn++[r]) (k+1) (sI (.int ((k+1:Nat):Int))) (sI (pcL (Cr r))) (sI (Dz r)) (by rw[<- e];exact nd) (by rw[<- e];exact hv) (by rw[<- e];exact hl)
  refine⟨v5,v6,v8,?_⟩
  rw[e,<- ih]
  show (match wf (.tuple [.int ((k+1:Nat):Int),pcL (Cr r)]) _ with | some w=>Ov wf _ w | none=>none)=_
  rw[t]
theorem zip_rows (rs:List (List Vl×List (Option (j4)))):K9 ((rs.map (·.1)).map tD) (rs.map λr=>PyData.tuple (r.2.map Ba))=rs.map Dz:=by
 unfold K9
 induction rs with
 | nil=>rfl
 | cons r l ih=>simp only[aK,iB];rw[ih];rfl
theorem Mj {w:Wd}(h:Wx w):Hz [.im (.str (Bm w))]=.ret (.im w.d) [.im (.str (Bm w))]:=by
 have h2:=h.hlen;have h3:=h.rlen;have e1:=Ah1 h;have e2:=Yt h;have lw:(Gi w).map pcL=pcL (Di w)::(w.heads.map hdW++w.rows.map Cr).map pcL:=rfl
 have e4:Dy (.list ((Gi w).map pcL)) (some 1) none=sFa ((w.heads.map hdW++w.rows.map Cr).map pcL):=by
  show some (O.ls false (cutD ((Gi w).map pcL) (some ((1:Nat):Int)) none))=_
  rw[S6];rfl
 have e5:Ar (.list ((Gi w).map pcL)) (.int 0)=sI (pcL (Di w)):=Ao0 _ _
 obtain⟨v5,v6,v7,g7,l1⟩:=Ad6 h (x:=.str (Bm w)) (W:=(Gi w).map pcL) (u8:=none) rfl (rest:=en1 w.heads.length (w.rows.map Cr)) w.heads [] 0 none none none rfl h.hnd h.heads (by rw[bx];omega)
 obtain⟨z5,z6,z8,l2⟩:=Ad0 h (x:=.str (Bm w)) (W:=(Gi w).map pcL) (u7:=v7) g7 w.rows [] w.heads.length v5 v6 none h.rnd (λr hr=>hr) (by rw[bx];omega)
 have e6:Ov wf (Oh ((w.heads.map hdW++w.rows.map Cr).map pcL)) ([sI (.str (Bm w)),sFa ((Gi w).map pcL),sI (.list (Ek w)),none,none,none,none,none,none],[],[],[]) =
  some ([sI (.str (Bm w)),sFa ((Gi w).map pcL),sI (.list (Ek w)),none,none,z5,z6,v7,z8],w.heads.map tD,(w.rows.map (·.1)).map tD,w.rows.map λr=>PyData.tuple (r.2.map Ba)):=by
  rw[Bh0,A6s,aj,aG];exact l1.trans l2
 have dd:w.d=.tuple [nD w.key,nD w.names,nD w.vals,.tuple (w.heads.map tD),.tuple (K9 ((w.rows.map (·.1)).map tD) (w.rows.map λr=>PyData.tuple (r.2.map Ba)))]:=by rw[zip_rows];rfl
 have i0:Ar (.list (Ek w)) (.int 0)=sI (nD w.key):=rfl;have i1:Ar (.list (Ek w)) (.int 1)=sI (nD w.names):=rfl;have i2:Ar (.list (Ek w)) (.int 2)=sI (nD w.vals):=rfl
 have ll:((w.rows.map (·.1)).map tD).length=(w.rows.map λr=>PyData.tuple (r.2.map Ba)).length:=by rw[aj,aj,aj]
 rw[dd]
 generalize (w.rows.map λr=>PyData.tuple (r.2.map Ba))=R2 at *
 generalize (w.rows.map (·.1)).map tD=R1 at *
 generalize w.heads.map tD=HH at *
 generalize (w.heads.map hdW++w.rows.map Cr).map pcL=LL at *
 generalize (Gi w).map pcL=W at *
 generalize pcL (Di w)=H0 at *
 generalize Bm w=z at *
 generalize Ek w=C at *
 generalize nD w.key=k1 at *
 generalize nD w.names=k2 at *
 generalize nD w.vals=k3 at *
 show Dj 1 9 Qg _=_
 unfold Qg
 refine Qd (p:=.o (.im (.tuple [k1,k2,k3,.tuple HH,.tuple (K9 R1 R2)]))) (c:=[sI (.str z),sFa W,sI (.list C),some (.ty (.ds HH (Vm HH))),some (.ty (.ds R1 R2)),z5,z6,v7,z8]) ?_ rfl (by wp_walk using aO)
 refine (Cy (c':=[sI (.str z),sFa W,none,none,none,none,none,none,none]) (by wp_walk using e1)).trans ?_
 refine (Cy (c':=[sI (.str z),sFa W,sI (.list C),none,none,none,none,none,none]) (by wp_walk using e5,e2)).trans ?_
 unfold A7d
 rw[if_pos (by show ((3<9/\4<9/\3≠4)/\(7≠3/\7≠4)/\8≠3/\8≠4);decide)]
 have e7:Zv (cSl Dy (Aa 1) (cOS (cC (.int 1))) cON) [sI (.str z),sFa W,sI (.list C),none,none,none,none,none,none]=.ok (Oh LL) [sI (.str z),sFa W,sI (.list C),none,none,none,none,none,none]:=by wp_walk using e4,Zv,B5o
 show (Zv (cSl Dy (Aa 1) (cOS (cC (.int 1))) cON) [sI (.str z),sFa W,sI (.list C),none,none,none,none,none,none]).toS _=_
 rw[e7]
 show (match Ov wf (Oh LL) ([sI (.str z),sFa W,sI (.list C),none,none,none,none,none,none],[],[],[]) with | some (c,hs,rs,rd)=>_ | none=>_)=_
 rw[e6]
 wp_walk using i0,i1,i2,Bc7,Bg0,ll
local macro_rules | `(tactic| wp_walk using $ts,*)=>`(tactic| simp only [sI,sT,sFa,Ao,Bo,cgN,cgT,Br,Gn,Aa,cC,cTy,cOp,cUn,Gh,cF,cFO,cFV,cFz,Vu,shown,Kl,T6,Ax0,At8,Ac2,Nz,noL,Yp,cU,eX,eY,eZ,dj,dm,dB,Lx,Tv,slots,pairsOf,ndB,Gx,Ag,Ab,cK,nrm,Eo,Vv,rdP,O.dat,O.flag,O.own,O.bor,frz,frzs,El,Gr,cIf,Aw,Ax,Qx,cOr,My,Hj,Yk,Ly,Hs,Cm,Xy,En,Ck,Ko,Hd,slL,Ke,A0d,A1o,Lb,Qn,Rh,Rg,cSl,cON,cOS,G9,Ye,cIn,R.bind_ok,R.toS_ok,R.bind_bad,R.toS_bad,Dj,Vf,resolve,Fe,Lj,U.opI,U.Qy,Tz,Xo,J4,Jv,K5,Ma,Fw,Il,Ag5,dC,bO,cL,cM,aK,bN,aH,cZ,List.replicate,cN,bx,bw,dD,bL,cJ,bG,dF,cW,aY,aW,dG,dH,dI,bR,dJ,dM,dN,b_,cV,cX,cA,List.dropLast,dO,dR,dU,dW,cB,dX,reduceCtorEq,Rz,Vi,V5,Vk,Wb,O8,Pk,P0,U.H9,aG,Nat.reduceAdd,Nat.reduceSub,Nat.reduceLeDiff,Nat.reduceLT,Nat.reduceEqDiff,Int.reduceAdd,Int.reduceSub,Int.reduceNeg,Int.reduceLT,Int.reduceLE,Int.reducePow,Int.reduceToNat,Int.reduceMul,dY,dZ,aO,bz,cY,cMt,Dd,Hs,cSl,cOS,cON,Hd,$[$ts:term],*])
noncomputable def allS:Str:=Str.ofString " !\"#$&'()*+,-./0123456789:;<=>?@ABCDEFGHIJKLMNOPQRSTUVWXYZ[\\]^_`" ++ Str.ofString "abcdefghijklmnopqrstuvwxyz{|}~"
theorem Bt2:∀c∈sg allS,32<=c/\c<=126:=λc hc=>by
 have:=aX.mp (by decide +kernel:(sg allS).all (λc=>decide (32<=c)&&decide (c<=126))=true) c hc
 simpa using this
theorem Zq:allS.length=94:=by decide +kernel
theorem A7q {a b:Str}(h:a.length+b.length<=16000000):Am (.str a) (.str b)=sI (.str (a++b)):=if_pos h
theorem Az0 {z:Str}{q:Int}(hz:z.length<=1000)(h0:0<=q)(h1:q<z.length):∃c∈sg z,A1h (.str z) (.int q)=sI (.str ⟨#[c]⟩):=by
 obtain⟨c,e,hm,_⟩:=Xh (l:=sg z) (r:=q) h0 (by rw[Eh];exact h1)
 refine⟨c,hm,?_⟩
 show (if z.length<=16000000 then (atI z.cps.toList q).map (λc=>O.im (.str ⟨#[c]⟩)) else none)=_
 rw[if_pos (by omega),e];rfl
theorem Bu3 {n:Nat}{ds:w6}(hb:Bx n ds)(hn:n<2 ^ 38):∃(c:Nat) (d1:w6),(32<=c/\c<=126)/\Bx (n+1) d1/\Kr [.ls true ds]=.ret (.im (.str ⟨#[c]⟩)) [.ls true d1]:=by
 obtain⟨q,d1,b1,q0,q1,e1⟩:=Dv (m:=(94:Int)) hb (by omega) (by decide) (by decide)
 obtain⟨c,hc,e2⟩:=Az0 (z:=allS) (q:=q) (by rw[Zq];decide) q0 (by rw[Zq];omega)
 refine⟨c,d1,Bt2 c hc,b1,?_⟩
 have e3:Am (.str " !\"#$&'()*+,-./0123456789:;<=>?@ABCDEFGHIJKLMNOPQRSTUVWXYZ[\\]^_`") (.str "abcdefghijklmnopqrstuvwxyz{|}~")=sI (.str allS):=A7q (by decide +kernel)
 have e4:Gy [.str allS]=sI (.int 94):=by
  show (if allS.length<=16000000 then some (O.im (.int allS.length)) else none)=_
  rw[Zq];rfl
 generalize allS=z at *
 wp_walk using Kr,Wm,e3,e4,e1,e2
theorem Rk {n:Nat}{ds:w6}(hb:Bx n ds)(hn:n<2 ^ 37):∃(x:Str) (d1:w6),VB (.str x)/\Bx (n+14) d1/\Dq [.ls true ds]=.ret (.im (.str x)) [.ls true d1]:=by
 obtain⟨q,d0,b0,q0,q1,e0⟩:=Dv (m:=(13:Int)) hb (by omega) (by decide) (by decide)
 obtain⟨m,rfl⟩:=bQ q0
 have hm:m<=12:=by omega
 have loop:=Kc (g:=cgN 0) (ft:=Ax) (fe:=cF Kr (Ab (Aa 1) Ag)) (items:=Lp 0 m) (acc:=[]) (n:=0) (c:=[none,sT d0])
  (P:=λk acc c=>∃d1 t cs,c=[t,sT d1]/\k<=m/\Bx (n+1+k) d1/\acc=(cs.map λc=>(⟨#[c]⟩:Str)).map PyData.str/\cs.length=k/\∀c∈cs,32<=c/\c<=126)
  ⟨d0,none,[],rfl,aD _,b0,rfl,rfl,λv hv=>by cases hv⟩ (λk d acc c hd hP=>by
   rw[aG]at hP ⊢;obtain⟨d1,t,cs,rfl,hk0,b1,rfl,hl,hc⟩:=hP;obtain⟨rfl,hk⟩:=N5 hd
   obtain⟨c,d2,c1,b2,e1⟩:=Bu3 b1 (by omega)
   refine⟨some (.str ⟨#[c]⟩),[sI (.int (0+(k:Int))),sT d2],?_,d2,_,cs++[c],rfl,hk,b2.mono (by omega),by simp,by simp[hl],λx hx=>?_⟩
   ·wp_walk using e1
   ·rcases aP.mp hx with hx | hx
    ·exact hc x hx
    ·rw[az.mp hx];exact c1)
 obtain⟨acc,cI,e,d1,t,cs,rfl,_,b1,rfl,hl,hc⟩:=loop;rw[aG,Jz]at b1 hl
 have e1:cLC [none,some 0] (G9 (cF Aj (Ab (Aa 0) (Ab (cC (.int 13)) Ag)))) (cgN 0) Ax (cF Kr (Ab (Aa 1) Ag)) [sT ds]=.ok (.o (.ls false ((cs.map λc=>(⟨#[c]⟩:Str)).map PyData.str))) [sT d1] :=
  Gs (ds:=Lp 0 m) (c1:=[sT d0]) (by wp_walk using e0,A3p (m:=m) (by omega),bZ) (by rw[Jz];omega) e (by wp_walk using aO)
 have e2:=Hc (sep:=Str.ofString "") (ss:=cs.map λc=>(⟨#[c]⟩:Str)) (B:=1) (λy hy=>by
  obtain⟨c,_,rfl⟩:=aA.mp hy
  exact ak _) (by rw[aj,show (Str.ofString "").length=0 by decide +kernel];omega)
 have es:sg (Str.join (Str.ofString "") (cs.map λc=>(⟨#[c]⟩:Str)))=cs:=by
  rw[Gz,aN]
  show inter [] (cs.map λc=>[c])=cs
  rw[Ti]
  have:∀l:List Nat,(l.map λc=>[c]).flatten=l:=λl=>by induction l with | nil=>rfl | cons c l ih=>rw[aK,fu,ih];rfl
  exact this cs
 refine⟨Str.join (Str.ofString "") (cs.map λc=>(⟨#[c]⟩:Str)),d1,?_,b1.mono (by omega),?_⟩
 ·have ln:(Str.join (Str.ofString "") (cs.map λc=>(⟨#[c]⟩:Str))).length=cs.length:=by rw[<- Eh,es]
  show (decide ((Str.join (Str.ofString "") (cs.map λc=>(⟨#[c]⟩:Str))).length<=40)&&(sg (Str.join (Str.ofString "") (cs.map λc=>(⟨#[c]⟩:Str)))).all λc=>decide (32<=c)&&decide (c<=126))=true
  rw[es,ln,aq (by omega),bR]
  exact aX.mpr λc q=>by
   obtain⟨a,b⟩:=hc c q;rw[aq a,aq b];rfl
 ·generalize (cs.map λc=>(⟨#[c]⟩:Str)).map PyData.str=L at *
  wp_walk using Dq,T9,e1,e2
theorem A2t:∀c∈sg lettersS,Tt c=true:=λc hc=>aX.mp (by decide +kernel:(sg lettersS).all Tt=true) c hc
abbrev nmE:m7:=cMt Dd Iv (cC (.str "")) (cLC [none,some 2,some 0] (G9 (cOp Am (cC (.int 1)) (cF Aj (Ab (Aa 0) (Ab (cC (.int 8)) Ag))))) (cgN 0) Ax (cOp A1h (Aa 1) (cF Aj (Ab (Aa 2) (Ab (cC (.int 26)) Ag)))))
theorem Aw6 {n:Nat}{ds:w6}{s1 s3 s4 s5:m_}(hb:Bx n ds)(hn:n<2 ^ 37):∃(x:Str) (d1:w6),Ci (.str x)=true/\Bx (n+9) d1 /\
 nmE [sT ds,s1,sI (.str lettersS),s3,s4,s5]=.ok (.o (.im (.str x))) [sT d1,s1,sI (.str lettersS),s3,s4,s5]:=by
 obtain⟨q,d0,b0,q0,q1,e0⟩:=Dv (m:=(8:Int)) hb (by omega) (by decide) (by decide)
 obtain⟨m',rfl⟩:=bQ q0
 obtain⟨m,hm⟩:∃m:Nat,(1:Int)+(m':Int)=(m:Int):=⟨1+m',by omega⟩
 have hm1:1<=m/\m<=8:=by omega
 have loop:=Kc (g:=cgN 0) (ft:=Ax) (fe:=cOp A1h (Aa 1) (cF Aj (Ab (Aa 2) (Ab (cC (.int 26)) Ag)))) (items:=Lp 0 m) (acc:=[]) (n:=0) (c:=[none,sI (.str lettersS),sT d0])
  (P:=λk acc c=>∃d1 t cs,c=[t,sI (.str lettersS),sT d1]/\k<=m/\Bx (n+1+k) d1/\acc=(cs.map λc=>(⟨#[c]⟩:Str)).map PyData.str/\cs.length=k/\∀c∈cs,Tt c=true)
  ⟨d0,none,[],rfl,aD _,b0,rfl,rfl,λv hv=>by cases hv⟩ (λk d acc c hd hP=>by
   rw[aG]at hP ⊢;obtain⟨d1,t,cs,rfl,hk0,b1,rfl,hl,hc⟩:=hP;obtain⟨rfl,hk⟩:=N5 hd
   obtain⟨r,d2,b2,r0,r1,e1⟩:=Dv (m:=(26:Int)) b1 (by omega) (by decide) (by decide)
   obtain⟨c,c1,e2⟩:=Az0 (z:=lettersS) (q:=r) (by decide +kernel) r0 (by rw[show lettersS.length=26 by decide +kernel];omega)
   refine⟨some (.str ⟨#[c]⟩),[sI (.int (0+(k:Int))),sI (.str lettersS),sT d2],?_,d2,_,cs++[c],rfl,hk,b2.mono (by omega),by simp,by simp[hl],λx hx=>?_⟩
   ·wp_walk using e1,e2
   ·rcases aP.mp hx with hx | hx
    ·exact hc x hx
    ·rw[az.mp hx];exact A2t c c1)
 obtain⟨acc,cI,e,d1,t,cs,rfl,_,b1,rfl,hl,hc⟩:=loop;rw[aG,Jz]at b1 hl
 have e1:cLC [none,some 2,some 0] (G9 (cOp Am (cC (.int 1)) (cF Aj (Ab (Aa 0) (Ab (cC (.int 8)) Ag))))) (cgN 0) Ax (cOp A1h (Aa 1) (cF Aj (Ab (Aa 2) (Ab (cC (.int 26)) Ag)))) [sT ds,s1,sI (.str lettersS),s3,s4,s5]=.ok (.o (.ls false ((cs.map λc=>(⟨#[c]⟩:Str)).map PyData.str))) [sT d1,s1,sI (.str lettersS),s3,s4,s5] :=
  Gs (ds:=Lp 0 m) (c1:=[sT d0,s1,sI (.str lettersS),s3,s4,s5]) (by wp_walk using e0,Am,hm,A3p (m:=m) (by omega),bZ) (by rw[Jz];omega) e (by wp_walk using aO)
 have e2:=Hc (sep:=Str.ofString "") (ss:=cs.map λc=>(⟨#[c]⟩:Str)) (B:=1) (λy hy=>by
  obtain⟨c,_,rfl⟩:=aA.mp hy
  exact ak _) (by rw[aj,show (Str.ofString "").length=0 by decide +kernel];omega)
 have es:sg (Str.join (Str.ofString "") (cs.map λc=>(⟨#[c]⟩:Str)))=cs:=by
  rw[Gz,aN]
  show inter [] (cs.map λc=>[c])=cs
  rw[Ti]
  have:∀l:List Nat,(l.map λc=>[c]).flatten=l:=λl=>by induction l with | nil=>rfl | cons c l ih=>rw[aK,fu,ih];rfl
  exact this cs
 refine⟨Str.join (Str.ofString "") (cs.map λc=>(⟨#[c]⟩:Str)),d1,?_,b1.mono (by omega),?_⟩
 ·have ln:(Str.join (Str.ofString "") (cs.map λc=>(⟨#[c]⟩:Str))).length=cs.length:=by rw[<- Eh,es]
  show (decide (0<(Str.join (Str.ofString "") (cs.map λc=>(⟨#[c]⟩:Str))).length)&&(decide ((Str.join (Str.ofString "") (cs.map λc=>(⟨#[c]⟩:Str))).length<9)&&(sg (Str.join (Str.ofString "") (cs.map λc=>(⟨#[c]⟩:Str)))).all Tt))=true
  rw[es,ln,aq (by omega),aq (by omega)]
  simpa using hc
 ·generalize (cs.map λc=>(⟨#[c]⟩:Str)).map PyData.str=L at *
  wp_walk using e1,e2
theorem Zj {x:Str}(h:Ci (.str x)=true):VB (.str x):=by
 obtain⟨_,l,g⟩:=O1 h
 show (decide (x.length<=40)&&x.cps.toList.all λc=>decide (32<=c)&&decide (c<=126))=true
 rw[aq (by omega),bR]
 exact aX.mpr λc q=>by
  have:=g c q;unfold Tt at this
  simp at this ⊢
  omega
theorem A3k {x:Str}{ns:v_}(h:Ci (.str x)=true)(hs:∀c∈ns,Ci (.str c)=true):Ms true (.str x) (.list (ns.map PyData.str))=sI (.bool (!decide (x∈ns))):=by
 have e:=A4p (neg:=true) (v:=.str x) (vs:=ns.map Vl.str) (Zj h) (λv hv=>by
  obtain⟨c,hc,rfl⟩:=aA.mp hv
  exact Zj (hs c hc))
 rw[aN]at e
 have em:decide (Vl.str x∈ns.map Vl.str)=decide (x∈ns):=decide_eq_decide.mpr ⟨λh=>by
  obtain⟨c,hc,e⟩:=aA.mp h
  cases e;exact hc,λh=>List.mem_map_of_mem h⟩
 rw[em]at e;exact e
theorem A3b {x:Str}{ns:v_}(h:x∉ns)(nd:ns.Nodup):(ns++[x]).Nodup:=by
 rw[gm]
 exact⟨nd,by simp,λa ha b hb e=>by rw[az.mp hb]at e;exact h (e▸ha)⟩
theorem Ar8 {n:Nat}{ds:w6}{m:Nat}(hb:Bx n ds)(hn:n<2 ^ 36)(h1:1<=m)(hm:m<=4):∃(ns:v_) (d1:w6),(∀c∈ns,Ci (.str c)=true)/\ns.Nodup/\1<=ns.length/\ns.length<=4/\Bx (n+36) d1 /\
 Hl [.ls true ds,.im (.int (m:Int))]=.ret (.ls false (ns.map PyData.str)) [.ls true d1,.im (.int (m:Int))]:=by
 have loop:=K7 (g:=cgN 4) (body:=Ao (Bo nmE (cgN 5)) (cIf (Aw (cOp (Ms true) (Aa 5) (Aa 3))) (En (Hd (Aa 3) (Aa 5))) Ck)) (items:=Lp 0 m) (n:=0) (c:=[sT ds,sI (.int (m:Int)),sI (.str lettersS),sFa [],none,none])
  (P:=λj c=>∃d3 ns u v,c=[sT d3,sI (.int (m:Int)),sI (.str lettersS),sFa (ns.map PyData.str),u,v]/\j<=m/\Bx (n+9*j) d3/\(∀c∈ns,Ci (.str c)=true)/\ns.Nodup/\ns.length<=j/\(1<=j->1<=ns.length))
  ⟨ds,[],none,none,rfl,aD _,hb,(λc hc=>nomatch hc),eQ,ak _,λh=>absurd h (by decide)⟩ (λj d c hd hP=>by
   rw[aG]at hP ⊢;obtain⟨d3,ns,u,v,rfl,hj0,b3,hs,nd,hl,hp⟩:=hP;obtain⟨rfl,hj⟩:=N5 hd
   obtain⟨x,d4,hx,b4,e4⟩:=Aw6 (s1:=sI (.int (m:Int))) (s3:=sFa (ns.map PyData.str)) (s4:=sI (.int (0+(j:Int)))) (s5:=v) b3 (by omega)
   have e5:=A3k hx hs
   by_cases hm:x∈ns
   ·rw[aq hm]at e5
    refine⟨_,.inl ?_,d4,ns,sI (.int (0+(j:Int))),sI (.str x),rfl,hj,b4.mono (by omega),hs,nd,by omega,λ_=>List.length_pos_of_mem hm⟩
    generalize ns.map PyData.str=L at *
    show Fw (cgN 4) _ _ _=_
    unfold Fw;simp only[cgN,R.toS_ok,cM,cL]
    refine (Cy (A5k e4 rfl)).trans ?_
    wp_walk using e5
   ·rw[aB hm]at e5
    refine⟨_,.inl ?_,d4,ns++[x],sI (.int (0+(j:Int))),sI (.str x),rfl,hj,b4.mono (by omega),λc hc=>?_,A3b hm nd,by simp;omega,λ_=>by simp⟩
    ·have lL:(ns.map PyData.str).length<16000000:=by rw[aj];omega
     have eL:(ns++[x]).map PyData.str=ns.map PyData.str++[.str x]:=by rw[aV];rfl
     rw[eL]
     generalize ns.map PyData.str=L at *
     show Fw (cgN 4) _ _ _=_
     unfold Fw;simp only[cgN,R.toS_ok,cM,cL]
     refine (Cy (A5k e4 rfl)).trans ?_
     wp_walk using e5,lL
    ·rcases aP.mp hc with hc | hc
     ·exact hs c hc
     ·rw[az.mp hc];exact hx)
 obtain⟨c',e,d3,ns,u,v,rfl,_,b3,hs,nd,hl,hp⟩:=loop;rw[aG,Jz]at b3 hl hp
 refine⟨ns,d3,hs,nd,hp h1,by omega,b3.mono (by omega),?_⟩
 have ef:=(Np (fi:=G9 (Aa 1)) (ds:=Lp 0 m) (c:=[sT ds,sI (.int (m:Int)),sI (.str lettersS),sFa [],none,none]) (c1:=[sT ds,sI (.int (m:Int)),sI (.str lettersS),sFa [],none,none]) (by wp_walk using A3p (m:=m) (by omega),bZ)).trans e
 generalize ns.map PyData.str=L at *
 show Dj 2 6 M5 _=_
 unfold M5
 refine Qd (p:=.sl 3) (c:=[sT d3,sI (.int (m:Int)),sI (.str lettersS),sFa L,u,v]) ?_ rfl (by wp_walk using aO)
 refine (Cy (c':=[sT ds,sI (.int (m:Int)),sI (.str lettersS),none,none,none]) (by wp_walk using aO;rfl)).trans ?_
 refine (Cy (c':=[sT ds,sI (.int (m:Int)),sI (.str lettersS),sFa [],none,none]) (by wp_walk using aO)).trans ?_
 refine (Cy ef).trans ?_
 wp_walk using aO
local macro_rules | `(tactic| wp_walk using $ts,*)=>`(tactic| simp only [sI,sT,sFa,Ao,Bo,cgN,cgT,Br,Gn,Aa,cC,cTy,cOp,cUn,Gh,cF,cFO,cFV,cFz,Vu,shown,Kl,T6,Ax0,At8,Ac2,Nz,noL,Yp,cU,eX,eY,eZ,dj,dm,dB,Lx,Tv,slots,pairsOf,ndB,Gx,Ag,Ab,cK,nrm,Eo,Vv,rdP,O.dat,O.flag,O.own,O.bor,frz,frzs,El,Gr,cIf,Aw,Ax,Qx,cOr,My,Hj,Yk,Ly,Hs,Cm,Xy,En,Ck,Ko,Hd,slL,Ke,A0d,A1o,Lb,Qn,Rh,Rg,cSl,cON,cOS,G9,Ye,cIn,R.bind_ok,R.toS_ok,R.bind_bad,R.toS_bad,Dj,Vf,resolve,Fe,Lj,U.opI,U.Qy,Tz,Xo,J4,Jv,K5,Ma,Fw,Il,Ag5,dC,bO,cL,cM,aK,bN,aH,cZ,List.replicate,cN,bx,bw,dD,bL,cJ,bG,dF,cW,aY,aW,dG,dH,dI,bR,dJ,dM,dN,b_,cV,cX,cA,List.dropLast,dO,dR,dU,dW,cB,dX,reduceCtorEq,Rz,Vi,V5,Vk,Wb,O8,Pk,P0,U.H9,aG,Nat.reduceAdd,Nat.reduceSub,Nat.reduceLeDiff,Nat.reduceLT,Nat.reduceEqDiff,Int.reduceAdd,Int.reduceSub,Int.reduceNeg,Int.reduceLT,Int.reduceLE,Int.reducePow,Int.reduceToNat,Int.reduceMul,dY,dZ,aO,bz,cY,cMt,Dd,Hs,cSl,cOS,cON,Hd,$[$ts:term],*])
theorem A4h {n:Nat}{ds:w6}{items:w6}(hb:Bx n ds)(hn:n<2 ^ 36)(hl:items.length<=4) :
 ∃
  (us:v_) (d1:w6) (t:m_),us.length=items.length/\(∀x∈us,VB (.str x))/\Bx (n+14*items.length) d1 /\
  Gf (cgN 0) Ax (El (Ab (cF Dq (Ab (Aa 1) Ag)) Ag)) items [] [none,sT ds]=.ok (us.map λx=>tD [.str x]) [t,sT d1]:=by
 have loop:=Kc (g:=cgN 0) (ft:=Ax) (fe:=El (Ab (cF Dq (Ab (Aa 1) Ag)) Ag)) (items:=items) (acc:=[]) (n:=0) (c:=[none,sT ds])
  (P:=λk acc c=>∃d1 t us,c=[t,sT d1]/\k<=items.length/\Bx (n+14*k) d1/\acc=us.map (λx=>tD [.str x])/\us.length=k/\∀x∈us,VB (.str x))
  ⟨ds,none,[],rfl,aD _,hb,rfl,rfl,λv hv=>by cases hv⟩ (λk d acc c hd hP=>by
   rw[aG]at hP ⊢;obtain⟨d1,t,us,rfl,hk0,b1,rfl,hk,hu⟩:=hP;have hk':k<items.length:=(bB.mp hd).1
   obtain⟨x,d2,hx,b2,e2⟩:=Rk b1 (by omega)
   refine⟨some (tD [.str x]),[sI d,sT d2],?_,d2,_,us++[x],rfl,hk',b2.mono (by omega),by simp,by simp[hk],λu h=>by
    rcases aP.mp h with h | h
    ·exact hu u h
    ·rw[az.mp h];exact hx⟩
   show _=R.ok (some (PyData.tuple [.str x])) _
   wp_walk using e2)
 obtain⟨acc,cI,e,d1,t,us,rfl,_,b1,rfl,hk,hu⟩:=loop;rw[aG]at b1 hk;exact⟨us,d1,t,hk,hu,b1,e⟩
theorem Ba1:∀ns:v_,1<=ns.length->ns.length<=4->Dy (.list (ns.map PyData.str)) (some 1) (some 2)=sFa (((ns.drop 1).take 1).map PyData.str)/\Dy (.list (ns.map PyData.str)) none (some 1)=sFa ((ns.take 1).map PyData.str) /\
 Dy (.list (ns.map PyData.str)) (some 2) (some 3)=sFa (((ns.drop 2).take 1).map PyData.str)
 | [],h,_=>absurd h (by decide)
 | [a],_,_=>⟨rfl,rfl,rfl⟩
 | [a,b],_,_=>⟨rfl,rfl,rfl⟩
 | [a,b,c],_,_=>⟨rfl,rfl,rfl⟩
 | [a,b,c,d],_,_=>⟨rfl,rfl,rfl⟩
 | _::_::_::_::_::_,_,h=>absurd h (by simp)
theorem Be4 {ns:v_}(hl:ns.length<=4):(((ns.drop 2).take 1++(ns.drop 1).take 1++ns.take 1).Perm (ns.take 3)):=by
 rcases ns with _ | ⟨a,_ | ⟨b,_ | ⟨c,r⟩⟩⟩
 ·exact gP _
 ·exact gP _
 ·exact List.Perm.swap _ _ _
 ·show [c,b,a].Perm [a,b,c]
  exact(List.reverse_perm [a,b,c])
theorem A0h {n:Nat}{ds:w6}(hb:Bx n ds)(hn:n<2 ^ 35):∃(w:Wd) (d1:w6),Wx w/\Bx (n+400) d1/\Ks [.ls true ds]=.ret (.im w.d) [.ls true d1]:=by
 obtain⟨ns,d1,hs,nd,l1,l4,b1,e1⟩:=Ar8 (m:=4) hb (by omega) (by decide) (by decide)
 have e1:Hl [.ls true ds,.im (.int 4)]=.ret (.ls false (ns.map PyData.str)) [.ls true d1,.im (.int 4)]:=e1
 obtain⟨x0,d2,v0,b2,e2⟩:=Rk b1 (by omega)
 obtain⟨s1,s2,s3⟩:=Ba1 ns l1 l4
 have ln:Gy [.list (ns.map PyData.str)]=sI (.int (ns.length:Nat)):=by show some (O.im (.int ((ns.map PyData.str).length:Nat)))=_;rw[aj]
 have hp:=Be4 l4
 have nms:∀c∈(ns.drop 2).take 1++(ns.drop 1).take 1++ns.take 1,Ci (.str c)=true:=λc hc=>hs c (List.mem_of_mem_take (hp.mem_iff.mp hc))
 have nod:((ns.drop 2).take 1++(ns.drop 1).take 1++ns.take 1).Nodup:=hp.nodup_iff.mpr (nd.sublist (gY _ _))
 have lv:(ns.take 1).length=1:=by rw[bK];omega
 obtain⟨hds,hh⟩:∃hds:k_,hds.length<=2/\hds.Nodup/\(∀h∈hds,h.length=((ns.drop 1).take 1).length/\VBs h) /\
  ∀
   s3 s5,Ao (Bo (cSl Dy (El (Ab (El (Ab (cF Dq (Ab (Aa 0) Ag)) Ag)) (Ab (El (Ab (cC (.int 7)) Ag)) Ag))) cON (cOS (cOp Am (cUn Ua (cOp Tz (Gh (Aa 1)) (cC (.int 1)))) (cC (.int 1))))) (cgN 2))
   (Ao (Rh 3 4 (Ab (cUn Cq (cSl Dy (Aa 1) (cOS (cC (.int 1))) (cOS (cC (.int 2))))) (Ab (cUn Cq (cSl Dy (Aa 1) cON (cOS (cC (.int 1))))) Ag)))
   (cIf (Aw (cOp (Bg false) (Aa 3) (El Ag))) (Bo (El (Ab (El Ag) Ag)) (cgN 2)) Ck)) [sT d1,sFa (ns.map PyData.str),none,s3,none,s5] =
  .nx [sT d2,sFa (ns.map PyData.str),sI (.tuple (hds.map tD)),sI (nD ((ns.drop 1).take 1)),sI (nD (ns.take 1)),s5]:=by
  by_cases ho:ns.length=1
  ·refine⟨[[]],by decide,by simp,λh hm=>?_,λs3 s5=>?_⟩
   ·rw[az.mp hm]
    exact⟨by rw[bK,bV];simp;omega,λv hv=>nomatch hv⟩
   ·have hd:(ns.drop 1).take 1=[]:=by rw[List.drop_eq_nil_of_le (by omega)];rfl
    rw[ho]at ln;have c1:Dy (.tuple [.tuple [.str x0],.tuple [.int 7]]) none (some 1)=sI (.tuple [.tuple [.str x0]]):=rfl;have q1:decide ((1:Int)<((1:Nat):Int))=false:=rfl;have q2:Ua (.bool false)=sI (.int 0):=rfl;have q3:Am (.int 0) (.int 1)=sI (.int 1):=rfl;have q4:Bg false (.tuple []) (.tuple [])=sI (.bool true):=rfl;rw[hd]at s1 ⊢;have t1:([]:v_).map PyData.str=[]:=rfl;rw[t1]at s1
    show _=SR.nx [_,_,sI (.tuple [.tuple []]),sI (.tuple []),sI (.tuple ((ns.take 1).map PyData.str)),s5]
    generalize (ns.take 1).map PyData.str=L1 at *
    generalize ns.map PyData.str=L at *
    wp_walk using Rh,e2,ln,q1,q2,q3,c1,s1,s2,Cq,q4
  ·refine⟨[[.str x0],[.int 7]],by show 2<=2;decide,by simp,λh hm=>?_,λs3 s5=>?_⟩
   ·have hl:((ns.drop 1).take 1).length=1:=by rw[bK,bV];omega
    rw[hl];simp only[au,bf,bh]at hm
    rcases hm with rfl | rfl
    ·exact⟨rfl,λv hv=>by rw[az.mp hv];exact v0⟩
    ·exact⟨rfl,λv hv=>by rw[az.mp hv];decide⟩
   ·obtain⟨b,hd⟩:∃b,(ns.drop 1).take 1=[b]:=by
     rcases ns with _ | ⟨a,_ | ⟨b,r⟩⟩
     ·exact absurd l1 (by decide)
     ·exact absurd rfl ho
     ·exact⟨b,rfl⟩
    have c1:Dy (.tuple [.tuple [.str x0],.tuple [.int 7]]) none (some 2)=sI (.tuple [.tuple [.str x0],.tuple [.int 7]]):=rfl
    have q1:decide ((1:Int)<(ns.length:Nat))=true:=aq (by omega)
    have q2:Ua (.bool true)=sI (.int 1):=rfl;have q3:Am (.int 1) (.int 1)=sI (.int 2):=rfl;have hbn:=Zj (hs b (List.mem_of_mem_drop (List.mem_of_mem_take (hd▸az.mpr rfl:b∈(ns.drop 1).take 1))))
    have q4:Bg false (.tuple [.str b]) (.tuple [])=sI (.bool false):=by
     have g:Good (.tuple [.str b]) 1 _:=Mh (vs:=[.str b]) (λv hv=>by rw[az.mp hv];exact hbn) (ak _)
     have g0:Good (.tuple []) 1 _:=Mh (vs:=[]) (λv hv=>nomatch hv) (ak _)
     rw[Xq g g0 (by decide) (by decide)];rfl
    rw[hd]at s1 ⊢;have t1:[b].map PyData.str=[.str b]:=rfl;rw[t1]at s1
    show _=SR.nx [_,_,sI (.tuple [.tuple [.str x0],.tuple [.int 7]]),sI (.tuple [.str b]),sI (.tuple ((ns.take 1).map PyData.str)),s5]
    generalize (ns.take 1).map PyData.str=L1 at *
    generalize ns.map PyData.str=L at *
    wp_walk using Rh,e2,ln,q1,q2,q3,c1,s1,s2,Cq,q4
 obtain⟨hl2,hnd,hhd,eh⟩:=hh
 obtain⟨us,d3,t,ul,uv,b3,e3⟩:=A4h (items:=hds.map tD) b2 (by omega) (by rw[aj];omega)
 rw[aj]at ul b3
 have e4:∀s3 s4,cLC [none,some 0] (Bp (Aa 2)) (cgN 0) Ax (El (Ab (cF Dq (Ab (Aa 1) Ag)) Ag)) [sT d2,sFa (ns.map PyData.str),sI (.tuple (hds.map tD)),s3,s4,none]=.ok (.o (.ls false (us.map λx=>tD [.str x]))) [sT d3,sFa (ns.map PyData.str),sI (.tuple (hds.map tD)),s3,s4,none]:=λs3 s4 =>
  Gs (ds:=hds.map tD) (c1:=[sT d2,sFa (ns.map PyData.str),sI (.tuple (hds.map tD)),s3,s4,none]) (by
   generalize hds.map tD=L at *
   wp_walk using Bp) (by rw[aj];omega) e3 (by wp_walk using aO)
 obtain⟨x1,d4,v1,b4,e5⟩:=Rk b3 (by omega)
 let part:j4:=if ns.length<=2 then [] else [.str x1]
 have lk:((ns.drop 2).take 1).length=if ns.length<=2 then 0 else 1:=by
  rw[bK,bV];split <;> omega
 have e6:Ap7 (.tuple [.str x1]) (.int (((ns.drop 2).take 1).length:Nat))=sI (tD part):=by
  rw[lk]
  show _=some (O.im (tD (if ns.length<=2 then [] else [.str x1])))
  split <;> rfl
 have lp:Gy [.list (((ns.drop 2).take 1).map PyData.str)]=sI (.int (((ns.drop 2).take 1).length:Nat)):=by show some (O.im (.int (((((ns.drop 2).take 1)).map PyData.str).length:Nat)))=_;rw[aj]
 have cm:(us.map λx=>some [Vl.str x]).map Ba=us.map λx=>tD [.str x]:=by rw[aN];rfl
 have pv:VBs part:=λv hv=>by
  have hv:v∈(if ns.length<=2 then [] else [Vl.str x1]):=hv
  split at hv
  ·cases hv
  ·rw[az.mp hv];exact v1
 have pl:part.length=((ns.drop 2).take 1).length:=by
  rw[lk]
  show (if ns.length<=2 then [] else [Vl.str x1]).length=_
  split <;> rfl
 refine⟨⟨(ns.drop 2).take 1,(ns.drop 1).take 1,ns.take 1,hds,[(part,us.map λx=>some [.str x])]⟩,d4,⟨nms,nod,by show 1<=(ns.take 1).length;omega,by show ((ns.drop 2).take 1).length<=2;rw[lk];split <;> omega,by show ((ns.drop 1).take 1).length<=2;rw[bK];omega,by show (ns.take 1).length<=5;omega,hhd,hnd,by show hds.length<=12;omega,λr hr=>?_,by simp,by show 1<=12;decide⟩,b4.mono (by omega),?_⟩
 ·rw[az.mp hr]
  refine⟨pl,pv,by show (us.map _).length=hds.length;rw[aj];exact ul,λc hc=>?_⟩
  obtain⟨x,hx,rfl⟩:=aA.mp hc;intro vs e
  cases e
  exact⟨lv.symm,λv hv=>by rw[az.mp hv];exact uv x hx⟩
 ·show _=FR.ret (.im (.tuple [nD ((ns.drop 2).take 1),nD ((ns.drop 1).take 1),nD (ns.take 1),.tuple (hds.map tD),.tuple [.tuple [tD part,.tuple ((us.map λx=>some [Vl.str x]).map Ba)]]])) _
  rw[cm]
  rw[show nD ((ns.drop 2).take 1)=.tuple (((ns.drop 2).take 1).map PyData.str) from rfl]
  generalize (us.map λx=>tD [.str x])=CL at *
  generalize hds.map tD=HH at *
  generalize tD part=PP at *
  generalize nD ((ns.drop 1).take 1)=k2 at *
  generalize nD (ns.take 1)=k3 at *
  generalize ((ns.drop 2).take 1).map PyData.str=L3 at *
  generalize ns.map PyData.str=L at *
  show Dj 1 6 Kz _=_
  unfold Kz
  refine Qd (p:=.o (.im (.tuple [.tuple L3,k2,k3,.tuple HH,.tuple [.tuple [PP,.tuple CL]]]))) (c:=[sT d4,sFa L,sI (.tuple HH),sI k2,sI k3,sI (.tuple CL)]) ?_ rfl (by wp_walk using aO)
  refine (Cy (c':=[sT d1,sFa L,none,none,none,none]) (by wp_walk using e1)).trans ?_
  have eh:=eh none none
  have ass:∀(f g h k:Ev->SR) (c c':Ev),Ao f (Ao g h) c=.nx c'->Ao f (Ao g (Ao h k)) c=k c':=λf g h k c c' e=>by
   unfold Ao at e ⊢
   cases ef:f c with
   | nx c1 =>
    rw[ef]at e;simp only[]at e ⊢
    cases eg:g c1 with
    | nx c2=>rw[eg]at e;simp only[]at e ⊢;rw[e]
    | rt p c=>rw[eg]at e;cases e
    | bk c=>rw[eg]at e;cases e
    | ct c=>rw[eg]at e;cases e
    | bad=>rw[eg]at e;cases e
   | rt p c=>rw[ef]at e;cases e
   | bk c=>rw[ef]at e;cases e
   | ct c=>rw[ef]at e;cases e
   | bad=>rw[ef]at e;cases e
  refine (ass _ _ _ _ _ _ eh).trans ?_
  refine (Cy (c':=[sT d3,sFa L,sI (.tuple HH),sI k2,sI k3,sI (.tuple CL)]) (by wp_walk using e4,Cq)).trans ?_
  wp_walk using s3,Cq,e5,lp,e6
theorem B2i {x:Str}(h:Ci (.str x)=true):Good (.str x) 0 1921:=Sy (v:=.str x) (Zj h)
theorem Ax5 {l:v_}{k:Nat}(h:∀c∈l,Ci (.str c)=true)(hk:l.length<=k):Good (nD l) 1 (1923*k+4):=Good.tup (λd hd=>by
 obtain⟨c,hc,rfl⟩:=aA.mp hd
 exact B2i (h c hc)) (by rw[aj];exact hk)
theorem A4n {c:Option (j4)}{n:Nat}(h:Mv n c)(hn:n<=5):Good (Ba c) 1 9619:=by
 cases c with
 | none=>exact(Sy (v:=.non) (by decide)).mono (by decide) (by decide)
 | some vs =>
  obtain⟨hl,hv⟩:=h vs rfl
  exact Mh (k:=5) hv (by omega)
theorem Bg8 {w:Wd}(h:Wx w){r:List Vl×List (Option (j4))}(hr:r∈w.rows):Good (Dz r) 3 230920:=by
 have g:=h.rows r hr;have h1:=h.klen;have h2:=h.hlen;have h3:=g.plen;have h4:=g.clen
 have g2:Good (.tuple (r.2.map Ba)) 2 115456:=Good.tup (n:=1) (w:=9619) (k:=12) (λd hd=>by
  obtain⟨c,hc,rfl⟩:=aA.mp hd
  exact A4n (g.cells c hc) h.vlen) (by rw[aj];omega)
 refine Good.tup (n:=2) (w:=115456) (k:=2) (ds:=[tD r.1,.tuple (r.2.map Ba)]) (λd hd=>?_) (ak _)
 rcases au.mp hd with rfl | hd
 ·exact(Mh (k:=2) g.part (by omega)).mono (by decide) (by decide)
 ·rw[az.mp hd];exact g2
theorem Ao1 {w:Wd}(h:Wx w):Good (.tuple (w.rows.map Dz)) 4 2771068:=Good.tup (n:=3) (w:=230920) (k:=12) (λd hd=>by
 obtain⟨r,hr,rfl⟩:=aA.mp hd
 exact Bg8 h hr) (by rw[aj];exact h.rlen)
theorem Ah0 {w:Wd}(h:Wx w):Good (.tuple (w.heads.map tD)) 2 46228:=(Good.tup (n:=1) (w:=3850) (k:=12) (λd hd=>by
 obtain⟨r,hr,rfl⟩:=aA.mp hd
 exact Mh (k:=2) (h.heads r hr).2 (by have:=h.nlen;have:=(h.heads r hr).1;omega)) (by rw[aj];exact h.hlen)).mono (ak _) (by decide)
theorem Zm {w:Wd}(h:Wx w):Good w.d 5 13855354:=by
 refine Good.tup (n:=4) (w:=2771068) (k:=5) (ds:=w.ps) (λd hd=>?_) (ak _)
 unfold Wd.ps at hd;simp only[au,bf,bh]at hd
 rcases hd with rfl | rfl | rfl | rfl | rfl
 ·exact(Ax5 (k:=2) (λc hc=>h.nms c (by simp[hc])) h.klen).mono (by decide) (by decide)
 ·exact(Ax5 (k:=2) (λc hc=>h.nms c (by simp[hc])) h.nlen).mono (by decide) (by decide)
 ·exact(Ax5 (k:=5) (λc hc=>h.nms c (by simp[hc])) h.vlen).mono (by decide) (by decide)
 ·exact(Ah0 h).mono (by decide) (by decide)
 ·exact Ao1 h
theorem A8w {w:Wd}(h:Wx w):Good (.str (Bm w)) 0 4000000:=by
 have l:=Ak9 h
 refine⟨?_,rfl,rfl,ak _,?_⟩
 ·show (Bm w).cps.all (·<0x110000)=true
  rw[<- Array.all_toList]
  exact aX.mpr λc hc=>aq (by
   have hc:c∈sg (Bm w):=hc;unfold Bm at hc;rw[Gz,s10]at hc
   rcases Wt hc with hc | ⟨l,hl,hc⟩
   ·have:=az.mp hc;omega
   ·obtain⟨x,hx,rfl⟩:=aA.mp hl
    obtain⟨ws,hws,rfl⟩:=aA.mp hx
    have:=B0o (λx hx=>(Ag7 h ws hws x hx).2) c hc
    omega)
 ·show 10*(Bm w).length+2<=4000000
  omega
theorem La:∀{ds:w6},(∀d∈ds,keyB d=true)->Im ds=true
 | [],_=>rfl
 | d::ds,h=>by show (keyB d&&Im ds)=true;rw[h d (.head _),La λe he=>h e (.tail _ he)];rfl
theorem Bc1 (vs:j4):keyB (tD vs)=true:=La λd hd=>by
 obtain⟨v,_,rfl⟩:=aA.mp hd
 cases v <;> rfl
theorem Bf0 (l:v_):keyB (nD l)=true:=La λd hd=>by obtain⟨v,_,rfl⟩:=aA.mp hd;rfl
theorem Bd7 (w:Wd):keyB w.d=true:=La λd hd=>by
 unfold Wd.ps at hd;simp only[au,bf,bh]at hd
 rcases hd with rfl | rfl | rfl | rfl | rfl
 ·exact Bf0 _
 ·exact Bf0 _
 ·exact Bf0 _
 ·exact La λd hd=>by obtain⟨v,_,rfl⟩:=aA.mp hd;exact Bc1 v
 ·refine La λd hd=>?_
  obtain⟨r,_,rfl⟩:=aA.mp hd
  refine La λd hd=>?_
  simp only[au,bf,bh]at hd
  rcases hd with rfl | rfl
  ·exact Bc1 _
  ·refine La λd hd=>?_
   obtain⟨c,_,rfl⟩:=aA.mp hd
   cases c with
   | none=>rfl
   | some vs=>exact Bc1 vs
theorem A4k {a b:Wd}(ha:Wx a)(hb:Wx b):Bm a=Bm b↔a.d=b.d:=by
 constructor
 ·intro e
  have e1:=Mj ha;rw[e,Mj hb]at e1
  injection e1 with e1
  injection e1 with e1
  exact e1.symm
 ·intro e
  have e1:=G8 ha;rw[e,G8 hb]at e1
  injection e1 with e1
  injection e1 with e1
  injection e1 with e1
  exact e1.symm
theorem A7u {a b:Wd}(ha:Wx a)(hb:Wx b):PyData.eqv a.d b.d=decide (Bm a=Bm b):=by
 have e:=S8 a.d b.d (Bd7 a) (Bd7 b)
 by_cases h:Bm a=Bm b
 ·rw[aq h];exact e.mpr ((A4k ha hb).mp h)
 ·rw[aB h]
  exact Bool.eq_false_iff.mpr λz=>h ((A4k ha hb).mpr (e.mp z))
theorem Au3 {w:Wd}{s0 s1 s2 s3 s4 s5 s6 s7 s8 s9 s10:m_}(h:Wx w):Fw (cgN 6) Jr w.d [s0,s1,s2,s3,s4,s5,s6,s7,s8,s9,s10]=.nx [s0,s1,s2,s3,s4,s5,sI w.d,sI (.str (Bm w)),s8,s9,s10]:=by
 have e1:=Wz h;have e2:=G8 h;have e3:=Mj h
 have e4:=Xa (n:=6) (A8w h) (by decide) (by decide) (by decide)
 have e5:=Xa (n:=6) (Zm h) (by decide) (by decide) (by decide)
 generalize Bm w=z at *
 generalize w.d=D at *
 wp_walk using Jr,e1,e2,e3,e4,e5
theorem B0h {w:Wd}(h:w.Ok):Wx w:=⟨λc hc=>by
 have:=h.nms.sub c hc
 exact aX.mp (by decide +kernel:names12.all (λc=>Ci (.str c))=true) c this,h.nms.nd,h.vpos,h.klen,h.nlen,h.vlen,h.heads,h.hnd,h.hlen,h.rows,h.rnd,h.rlen⟩
theorem A6h (b:Bool):Bg true (.bool b) (.bool b)=sI (.bool false):=by cases b <;> rfl
theorem Ao2 {ds:w6}{n k:Nat}(g:Good (.tuple ds) n k)(hn:n<=40):Bg true (.tuple ds) (.tuple [])=sI (.bool (!decide (ds=[]))):=by
 have g0:Good (.tuple []) 1 _:=Mh (vs:=[]) (λv hv=>nomatch hv) (ak _)
 rw[Xq g g0 hn (by decide)]
 cases ds with
 | nil=>rfl
 | cons d r=>rfl
theorem Bz6 (x:o5)(r:w6):Ar (.tuple (x::r)) (.int 0)=sI x:=by
 show (atI (x::r) 0).map O.im=_
 rw[Rz];rfl
theorem B0k (x:o5)(r:w6):Dy (.tuple (x::r)) (some 1) none=sI (.tuple r):=by
 show some (O.im (.tuple (cutD (x::r) (some ((1:Nat):Int)) none)))=_
 rw[S6];rfl
abbrev A5n:Ev->SR:=cIf (Qx (Aw (cOp (Bg true) (cOp Ar (Aa 3) (cC (.int 3))) (El Ag))) (Aw (cOp (Bg true) (cOp Ar (Aa 3) (cC (.int 4))) (El Ag)))) (Ao (Bo (cOp Ar (cOp Ar (Aa 3) (cC (.int 4))) (cC (.int 0))) (cgT 2 (Br (cgN 8) (Br (cgN 9) Gn))))
 (Ao (Bo (cOp Am (cSl Dy (Aa 3) cON (cOS (cC (.int 4)))) (El (Ab (cOp Am (El (Ab (El (Ab (Aa 8) (Ab (cOp Am (El (Ab (cC (.none)) Ag)) (cSl Dy (Aa 9) (cOS (cC (.int 1))) cON)) Ag))) Ag)) (cSl Dy (cOp Ar (Aa 3) (cC (.int 4))) (cOS (cC (.int 1))) cON)) Ag))) (cgN 10))
 (Ao (cIf (Aw (cOp (Bg true) (cOp (Bg false) (cF De (Ab (Aa 10) Ag)) (cF De (Ab (Aa 3) Ag))) (cOp (Fv false) (cOp Ar (Aa 9) (cC (.int 0))) (cC (.none))))) (Cm (cC (.bool false))) Ck)
 (cIf (My (Aw (cF (Cz 6) (Ab (cF Hz (Ab (cF De (Ab (Aa 10) Ag)) Ag)) (Ab (Aa 10) Ag))))) (Cm (cC (.bool false))) Ck)))) Ck
theorem Bk5 {w:Wd}(h:Wx w){s0 s1 s2 s4 s5 s6 s7 s8 s9 s10:m_}:∃y8 y9 y10,A5n [s0,s1,s2,sI w.d,s4,s5,s6,s7,s8,s9,s10]=.nx [s0,s1,s2,sI w.d,s4,s5,s6,s7,y8,y9,y10]:=by
 have i3:Ar w.d (.int 3)=sI (.tuple (w.heads.map tD)):=rfl;have i4:Ar w.d (.int 4)=sI (.tuple (w.rows.map Dz)):=rfl
 have q3:=Ao2 (Ah0 h) (by decide)
 have q4:=Ao2 (Ao1 h) (by decide)
 cases eh:w.heads with
 | nil =>
  rw[eh]at i3 q3;have q3:Bg true (.tuple []) (.tuple [])=sI (.bool false):=q3;have i3:Ar w.d (.int 3)=sI (.tuple []):=i3
  refine⟨s8,s9,s10,?_⟩
  generalize w.d=D at *
  wp_walk using A5n,i3,q3
 | cons h0 hr =>
  cases er:w.rows with
  | nil =>
   rw[eh]at i3 q3;rw[er]at i4 q4;have q3:Bg true (.tuple ((h0::hr).map tD)) (.tuple [])=sI (.bool true):=q3;have q4:Bg true (.tuple []) (.tuple [])=sI (.bool false):=q4;have i4:Ar w.d (.int 4)=sI (.tuple []):=i4
   refine⟨s8,s9,s10,?_⟩
   generalize (h0::hr).map tD=L at *
   generalize w.d=D at *
   wp_walk using A5n,i3,q3,i4,q4
  | cons r rr =>
   have hr0:r∈w.rows:=by rw[er];exact .head _
   have g0:=h.rows r hr0
   cases ec:r.2 with
   | nil=>have:=g0.clen;rw[ec,eh]at this;cases this
   | cons c0 cr =>
    let gr:List Vl×List (Option (j4)):=(r.1,none::cr)
    let g:Wd:=⟨w.key,w.names,w.vals,w.heads,gr::rr⟩
    have Hg:Wx g:=by
     refine⟨h.nms,h.nod,h.vpos,h.klen,h.nlen,h.vlen,h.heads,h.hnd,h.hlen,λq hq=>?_,?_,?_⟩
     ·rcases au.mp hq with rfl | hq
      ·refine⟨g0.plen,g0.part,?_,λc hc=>?_⟩
       ·have:=g0.clen;rw[ec]at this;exact this
       ·rcases au.mp hc with rfl | hc
        ·exact λvs e=>nomatch e
        ·exact g0.cells c (by rw[ec];exact .tail _ hc)
      ·exact h.rows q (by rw[er];exact .tail _ hq)
     ·have:=h.rnd;rw[er]at this;exact this
     ·have:=h.rlen;rw[er]at this;exact this
    have dw:Dz r=.tuple [tD r.1,.tuple (Ba c0::cr.map Ba)]:=by unfold Dz;rw[ec];rfl
    have same:decide (Bm g=Bm w)=c0.isNone:=by
     have iff:=A4k Hg h
     cases c0 with
     | none =>
      refine aq (iff.mpr ?_)
      show PyData.tuple [nD w.key,nD w.names,nD w.vals,.tuple (w.heads.map tD),.tuple (Dz gr::rr.map Dz)]=PyData.tuple [nD w.key,nD w.names,nD w.vals,.tuple (w.heads.map tD),.tuple (w.rows.map Dz)]
      rw[er,aK,dw];rfl
     | some vs =>
      refine aB λz=>?_
      have e:=iff.mp z;have e:PyData.tuple [nD w.key,nD w.names,nD w.vals,.tuple (w.heads.map tD),.tuple (Dz gr::rr.map Dz)]=PyData.tuple [nD w.key,nD w.names,nD w.vals,.tuple (w.heads.map tD),.tuple (w.rows.map Dz)]:=e;rw[er,aK,dw]at e;have e:PyData.tuple [nD w.key,nD w.names,nD w.vals,.tuple (w.heads.map tD),.tuple (.tuple [tD r.1,.tuple (.none::cr.map Ba)]::rr.map Dz)]=PyData.tuple [nD w.key,nD w.names,nD w.vals,.tuple (w.heads.map tD),.tuple (.tuple [tD r.1,.tuple (tD vs::cr.map Ba)]::rr.map Dz)]:=e
      injection e with e
      injection e with _ e
      injection e with _ e
      injection e with _ e
      injection e with _ e
      injection e with e _
      injection e with e
      injection e with e _
      injection e with e
      injection e with _ e
      injection e with e _
      injection e with e
      injection e with e _
      cases e
    have hcl:cr.length<=12:=by have:=g0.clen;have:=h.hlen;rw[ec]at *;simp at *;omega
    have hrl:rr.length<=12:=by have:=h.rlen;rw[er]at this;simp at this;omega
    rw[eh]at q3;have q3:Bg true (.tuple ((h0::hr).map tD)) (.tuple [])=sI (.bool true):=q3;rw[<- eh]at q3;rw[er]at q4;have q4:Bg true (.tuple ((r::rr).map Dz)) (.tuple [])=sI (.bool true):=q4
    have i4:Ar w.d (.int 4)=sI (.tuple (Dz r::rr.map Dz)):=by rw[er]at i4;exact i4
    have q4:Bg true (.tuple (Dz r::rr.map Dz)) (.tuple [])=sI (.bool true):=q4;have j0:=Bz6 (Dz r) (rr.map Dz);have j1:=B0k (Dz r) (rr.map Dz);have j2:=B0k (Ba c0) (cr.map Ba);have j3:=Bz6 (Ba c0) (cr.map Ba)
    have s4':Dy w.d none (some 4)=sI (.tuple [nD w.key,nD w.names,nD w.vals,.tuple (w.heads.map tD)]):=by
     show some (O.im (.tuple (cutD w.ps none (some ((4:Nat):Int)))))=_
     rw[A4e];rfl
    have a1:Am (.tuple [.none]) (.tuple (cr.map Ba))=sI (.tuple (.none::cr.map Ba)):=if_pos (by rw[aj];show 1+_<=_;omega)
    have a2:Am (.tuple [.tuple [tD r.1,.tuple (.none::cr.map Ba)]]) (.tuple (rr.map Dz))=sI (.tuple (.tuple [tD r.1,.tuple (.none::cr.map Ba)]::rr.map Dz)):=if_pos (by rw[aj];show 1+_<=_;omega)
    have a3:Am (.tuple [nD w.key,nD w.names,nD w.vals,.tuple (w.heads.map tD)]) (.tuple [.tuple (.tuple [tD r.1,.tuple (.none::cr.map Ba)]::rr.map Dz)])=sI g.d:=rfl;have z1:=G8 Hg;have z2:=G8 h;have z3:=Mj Hg
    have z4:=Xa (n:=6) (Zm Hg) (by decide) (by decide) (by decide)
    have z5:Bg false (.str (Bm g)) (.str (Bm w))=sI (.bool c0.isNone):=by rw[<- same];exact Fb
    have z6:Fv false (Ba c0) .none=sI (.bool c0.isNone):=by cases c0 <;> rfl
    have z7:=A6h c0.isNone
    refine⟨some (.im (tD r.1)),sI (.tuple (Ba c0::cr.map Ba)),sI g.d,?_⟩
    rw[dw]at i4 j0 j1 q4
    generalize c0.isNone=B at *
    generalize Bm g=T1 at *
    generalize Bm w=T2 at *
    generalize g.d=Dg at *
    generalize PyData.tuple [nD w.key,nD w.names,nD w.vals,.tuple (w.heads.map tD)]=D4 at *
    generalize w.d=D at *
    generalize w.heads.map tD=L1 at *
    generalize rr.map Dz=L2 at *
    generalize cr.map Ba=L3 at *
    generalize Ba c0=d0 at *
    generalize tD r.1=d1 at *
    wp_walk using A5n,i3,q3,i4,q4,j0,s4',j2,a1,j1,a2,a3,z1,z2,z5,j3,z6,z7,z3,z4
theorem Bq6 {ns:List Int}{k:Nat}{x1 x2 x3 x4 x5 x6 x7 x8 x9 x10:m_}(hk:k<=63):∃a b c d e f y8 y9 y10,Fw (cgN 1) Vh (.int (0+(k:Int))) [some (.sc ns),x1,x2,x3,x4,x5,x6,x7,x8,x9,x10]=.nx [some (.sc ns),sI (.int (0+(k:Int))),a,b,c,d,e,f,y8,y9,y10]:=by
 obtain⟨db,bb,e1⟩:=B3c (ns:=ns) (k:=k) hk
 obtain⟨t,d2,ht,_,b2,e2⟩:=A7b (num:=false) bb (by decide)
 obtain⟨q,d3,b3,q0,q1,e3⟩:=Dv (m:=(2:Int)) b2 (by decide) (by decide) (by decide)
 obtain⟨o,d4,ho,_,b4,e4⟩:=A7b (num:=decide (q=0)) b3 (by decide)
 obtain⟨l,d5,hl,b5,e5⟩:=A0h b4 (by decide)
 have eq0:Bg false (.int q) (.int 0)=sI (.bool (decide (q=0))):=Jx;have Ht:=B0h ht;have Ho:=B0h ho
 let t0:Wd:=⟨t.key,t.names,t.vals,t.heads,[]⟩
 have H0:Wx t0:=⟨Ht.nms,Ht.nod,Ht.vpos,Ht.klen,Ht.nlen,Ht.vlen,Ht.heads,Ht.hnd,Ht.hlen,(λr hr=>nomatch hr),eQ,aD _⟩
 have s4':Dy t.d none (some 4)=sI (.tuple [nD t.key,nD t.names,nD t.vals,.tuple (t.heads.map tD)]):=by
  show some (O.im (.tuple (cutD t.ps none (some ((4:Nat):Int)))))=_
  rw[A4e];rfl
 have a3:Am (.tuple [nD t.key,nD t.names,nD t.vals,.tuple (t.heads.map tD)]) (.tuple [.tuple []])=sI t0.d:=rfl;have z1:=G8 Ht;have z2:=G8 Ho
 have z3:Bg false t.d o.d=sI (.bool (decide (Bm t=Bm o))):=by
  rw[Xq (Zm Ht) (Zm Ho) (by decide) (by decide),A7u Ht Ho];rfl
 have z4:Bg false (.str (Bm t)) (.str (Bm o))=sI (.bool (decide (Bm t=Bm o))):=Fb;have z5:=A6h (decide (Bm t=Bm o))
 have w1:∀s0 s1 s2 s3 s4 s5 s6 s7 s8 s9 s10,Fw (cgN 6) Jr t.d [s0,s1,s2,s3,s4,s5,s6,s7,s8,s9,s10]=.nx [s0,s1,s2,s3,s4,s5,sI t.d,sI (.str (Bm t)),s8,s9,s10]:=λ_ _ _ _ _ _ _ _ _ _ _=>Au3 Ht
 have w2:∀s0 s1 s2 s3 s4 s5 s6 s7 s8 s9 s10,Fw (cgN 6) Jr o.d [s0,s1,s2,s3,s4,s5,s6,s7,s8,s9,s10]=.nx [s0,s1,s2,s3,s4,s5,sI o.d,sI (.str (Bm o)),s8,s9,s10]:=λ_ _ _ _ _ _ _ _ _ _ _=>Au3 Ho
 have w4:∀s0 s1 s2 s3 s4 s5 s6 s7 s8 s9 s10,Fw (cgN 6) Jr t0.d [s0,s1,s2,s3,s4,s5,s6,s7,s8,s9,s10]=.nx [s0,s1,s2,s3,s4,s5,sI t0.d,sI (.str (Bm t0)),s8,s9,s10]:=λ_ _ _ _ _ _ _ _ _ _ _=>Au3 H0
 have w5:∀s0 s1 s2 s3 s4 s5 s6 s7 s8 s9 s10,Fw (cgN 6) Jr l.d [s0,s1,s2,s3,s4,s5,s6,s7,s8,s9,s10]=.nx [s0,s1,s2,s3,s4,s5,sI l.d,sI (.str (Bm l)),s8,s9,s10]:=λ_ _ _ _ _ _ _ _ _ _ _=>Au3 hl
 obtain⟨y8,y9,y10,eg⟩:=Bk5 Ht (s0:=some (.sc ns)) (s1:=sI (.int (0+(k:Int)))) (s2:=sFa d5) (s4:=sI o.d) (s5:=sI l.d) (s6:=sI l.d) (s7:=sI (.str (Bm l))) (s8:=x8) (s9:=x9) (s10:=x10)
 generalize decide (Bm t=Bm o)=B at *
 generalize Bm t=T1 at *
 generalize Bm o=T2 at *
 generalize Bm t0=T4 at *
 generalize Bm l=T5 at *
 generalize t0.d=D0 at *
 generalize o.d=Do at *
 generalize l.d=Dl at *
 generalize PyData.tuple [nD t.key,nD t.names,nD t.vals,.tuple (t.heads.map tD)]=D4 at *
 generalize t.d=Dt at *
 generalize decide (q=0)=num at *
 have ef:forL (cgN 6) Jr [Dt,Do,Dt,D0,Dl] [some (.sc ns),sI (.int (0+(k:Int))),sFa d5,sI Dt,sI Do,sI Dl,x6,x7,x8,x9,x10]=.nx [some (.sc ns),sI (.int (0+(k:Int))),sFa d5,sI Dt,sI Do,sI Dl,sI Dl,sI (.str T5),x8,x9,x10]:=by
  rw[Hb (.inl (w1 _ _ _ _ _ _ _ _ _ _ _)),Hb (.inl (w2 _ _ _ _ _ _ _ _ _ _ _)),Hb (.inl (w1 _ _ _ _ _ _ _ _ _ _ _)),Hb (.inl (w4 _ _ _ _ _ _ _ _ _ _ _)),Hb (.inl (w5 _ _ _ _ _ _ _ _ _ _ _))]
  rfl
 refine⟨some (.ls false d5),sI Dt,sI Do,sI Dl,sI Dl,sI (.str T5),y8,y9,y10,?_⟩
 show Ao _ _ _=_
 refine (Cy (c':=[some (.sc ns),sI (.int (0+(k:Int))),sFa db,x3,x4,x5,x6,x7,x8,x9,x10]) (by wp_walk using show (0:Int)+(k:Int)=(k:Int) by omega,e1)).trans ?_
 refine (Cy (c':=[some (.sc ns),sI (.int (0+(k:Int))),sFa d4,sI Dt,sI Do,x5,x6,x7,x8,x9,x10]) (by wp_walk using Rh,e2,e3,eq0,e4)).trans ?_
 refine (Cy (c':=[some (.sc ns),sI (.int (0+(k:Int))),sFa d5,sI Dt,sI Do,sI Dl,x6,x7,x8,x9,x10]) (by wp_walk using e5)).trans ?_
 refine (Cy ((Np (ds:=[Dt,Do,Dt,D0,Dl]) (c1:=[some (.sc ns),sI (.int (0+(k:Int))),sFa d5,sI Dt,sI Do,sI Dl,x6,x7,x8,x9,x10]) (by wp_walk using Bp,s4',a3)).trans ef)).trans ?_
 refine (Cy (c':=[some (.sc ns),sI (.int (0+(k:Int))),sFa d5,sI Dt,sI Do,sI Dl,sI Dl,sI (.str T5),x8,x9,x10]) (by wp_walk using z1,z2,z3,z4,z5)).trans ?_
 exact eg
theorem Bj7 (ns:List Int)(_:ns.length<=63):A5c [.sc ns]=.ret (.im (.bool true)) [.sc ns]:=by
 obtain⟨m,hm,em⟩:∃m:Nat,m<=13/\(1:Int)+(if (ns.length:Int)<12 then (ns.length:Int) else 12)=(m:Int):=by
  split
  ·exact⟨1+ns.length,by omega,by omega⟩
  ·exact⟨13,by omega,by omega⟩
 have loop:=K7 (g:=cgN 1) (body:=Vh) (items:=Lp 0 m) (n:=0) (c:=[some (.sc ns),none,none,none,none,none,none,none,none,none,none])
  (P:=λ_ c=>∃a b x y z u v y8 y9 y10,c=[some (.sc ns),a,b,x,y,z,u,v,y8,y9,y10]) ⟨_,_,_,_,_,_,_,_,_,_,rfl⟩ (λk d c hd hP=>by
   obtain⟨a,b,x,y,z,u,v,y8,y9,y10,rfl⟩:=hP;obtain⟨rfl,hk⟩:=N5 hd
   obtain⟨a1,b1,c1,d1,e1,f1,z8,z9,z10,e⟩:=Bq6 (ns:=ns) (k:=k) (x1:=a) (x2:=b) (x3:=x) (x4:=y) (x5:=z) (x6:=u) (x7:=v) (x8:=y8) (x9:=y9) (x10:=y10) (by omega)
   exact⟨_,.inl e,_,_,_,_,_,_,_,_,_,_,rfl⟩)
 obtain⟨c',e,a,b,x,y,z,u,v,y8,y9,y10,rfl⟩:=loop
 refine Qd (p:=.o (.im (.bool true))) (c:=[some (.sc ns),a,b,x,y,z,u,v,y8,y9,y10]) ?_ rfl (by wp_walk using aO)
 show Ap4 [some (.sc ns),none,none,none,none,none,none,none,none,none,none]=_
 unfold Ap4
 refine (Cy ((Np (ds:=Lp 0 m) (c1:=[some (.sc ns),none,none,none,none,none,none,none,none,none,none]) ?_).trans e)).trans ?_
 ·wp_walk using A4x,Am,em,show (m:Int)<=16000000/\-16000000<=(m:Int) by omega,bZ
 ·wp_walk using aO
local macro_rules | `(tactic| walk_at "m")=>`(tactic| repeat' first | rfl | apply A8d | (with_reducible first | apply Ai | apply An | apply Dh | apply Cp | apply Ca | apply Dw | apply Bk | apply Df | apply Hn | apply G6 | apply Dr | apply G3 | apply Z9 | apply Qf) | apply Bh4 | apply Bt5 | (with_reducible first | apply Hx | apply Z6 | apply K4 | apply Zb | apply Ad8 | apply J0 | apply R8 | apply M7 | apply Yy | apply A5z | apply Bd0 | apply Bb3 | apply Oa | apply Ha | apply J2 | apply Sv | apply Bk3 | apply Zo | apply A5x | apply Ar4 | apply Hq | apply B1t | apply Aw8 | apply Bw9 | apply Y9 | apply Ab1 | apply Bp5 | apply Bw0 | apply U4 | apply Ba3 | apply Ap5 | apply Ax2 | apply Jc | apply Bx6 | apply A5l | apply B6v | apply B6p | apply Bs8 | apply Sq | apply Ot | apply Ag9 | apply B3k | apply Ju | apply A4w | apply A5v | apply Ba0 | apply B3i | apply X8 | apply A6m | apply A3l | apply A0p | apply U7 | apply Ak7 | apply A6t | apply Ap2 | apply Bw6 | apply Bm8 | apply Aw9 | apply Bo5 | apply Az3 | apply Au4 | apply Ay6 | apply B4r | apply B7f | apply B2g | apply Ar2 | apply Bm5 | apply Aw0 | apply Ul | apply Aw3 | apply Bg2 | apply Bl7 | apply A6p | apply B2a | apply A5s | apply A0k | apply Ak1 | apply A0m | apply Bf5 | apply A5h | apply Ao9 | apply Bn1 | apply B4l | apply Bw8 | apply Bc8 | apply Bt9 | apply An5 | apply Bt3) | decide | assumption)
noncomputable def top (i:Nat):Stmt:=PySem.Challenge.pw_pivotfold_k58_folded_tables_written.main.body.getD i (.Pass ⟨0,0,0,0⟩)
abbrev J1:Stmt:=top 4
abbrev lH:Str:="_law_box_here"
abbrev lJ:Str:="_law_many_here"
abbrev lK:Str:="_law_script"
abbrev lM:Str:="_law_wide_here"
abbrev lN:Str:="_law_found"
abbrev lP:Str:="_law_value_here"
abbrev lQ:Str:="_law_k"
abbrev lR:Str:="_law_same"
theorem Uz:Az ["text"] ["text"] (Ak J1):={}
abbrev Uc:Stmt:=top 5
theorem Ay8:Az ["thing"] ["thing"] (Ak Uc):={}
abbrev Wn:Stmt:=top 9
theorem A4y:Az ["thing"] ["thing"] (Ak Wn):={}
abbrev Om:Stmt:=top 10
theorem Z0:Az ["thing"] ["thing"] (Ak Om):={}
abbrev Je:Stmt:=top 12
theorem Tn:Az ["key", "names", "values"] ["key", "names", "values"] (Ak Je):={}
abbrev Jd:Stmt:=top 16
theorem T3:Az ["many"] ["many"] (Ak Jd):={}
abbrev Ia:Stmt:=top 17
theorem zT:Az ["number", "base", "pieces", "left"] ["number"] (Ak Ia):={}
abbrev M3:Stmt:=top 18
theorem yO:Az ["text", "marked"] ["text"] (Ak M3):={}
abbrev Lq:Stmt:=top 19
theorem Wv:Az ["value"] ["value"] (Ak Lq):={}
abbrev Og:Stmt:=top 20
theorem Ad3:Az ["word", "values"] ["word", "values"] (Ak Og):={}
abbrev Mz:Stmt:=top 21
theorem Yn:Az ["cell"] ["cell"] (Ak Mz):={}
abbrev M8:Stmt:=top 22
theorem Ym:Az ["part", "cells"] ["part", "cells"] (Ak M8):={}
abbrev Rt:Stmt:=top 23
theorem yN:Az ["wide", "first", "heads"] ["wide"] (Ak Rt):={}
abbrev Q3:Stmt:=top 24
theorem Aq2:Az ["right", "row_number"] ["right", "row_number"] (Ak Q3):={}
abbrev Rr:Stmt:=top 25
theorem zM:Az ["row", "pieces", "start", "within", "marked", "place", "sign"] ["row"] (Ak Rr):={}
abbrev Q0:Stmt:=top 26
theorem yS:Az ["piece", "row_number", "text"] ["piece", "row_number"] (Ak Q0):={}
abbrev Ir:Stmt:=top 27
theorem zP:Az ["figures", "told", "start", "piece"] ["figures"] (Ak Ir):={}
abbrev Oj:Stmt:=top 28
theorem yK:Az ["piece", "row_number", "figures", "told"] ["piece", "row_number"] (Ak Oj):={}
abbrev O6:Stmt:=top 29
theorem Ai5:Az ["piece", "row_number"] ["piece", "row_number"] (Ak O6):={}
abbrev Ob:Stmt:=top 30
theorem Ag4:Az ["pieces", "width", "row_number"] ["pieces", "width", "row_number"] (Ak Ob):={}
abbrev Kg:Stmt:=top 31
theorem V3:Az ["text"] ["text"] (Ak Kg):={}
abbrev Wr:Stmt:=top 32
theorem yR:Az ["pieces", "mark", "groups", "piece"] ["pieces", "mark"] (Ak Wr):={}
abbrev Ip:Stmt:=top 33
theorem yI:Az ["pieces", "groups"] ["pieces"] (Ak Ip):={}
abbrev Sg:Stmt:=top 34
theorem As3:Az ["pieces", "width", "row_number"] ["pieces", "width", "row_number"] (Ak Sg):={}
abbrev Sd:Stmt:=top 35
theorem yJ:Az ["pieces", "columns", "many", "row_number", "groups", "part", "cells"] ["pieces", "columns", "many", "row_number"] (Ak Sd):={}
abbrev Rw:Stmt:=top 36
theorem zQ:Az ["text", "lines", "columns", "heads", "rows", "row_number", "pieces", "head", "row"] ["text"] (Ak Rw):={}
abbrev Ss:Stmt:=top 38
theorem Aw1:Az [lK, lQ] [lK, lQ] (Ak Ss):={}
abbrev As1:Stmt:=top 39
theorem xF:Az [lK, lQ, "_law_number_here"] [lK, lQ] (Ak As1):={}
abbrev Ag1:Stmt:=top 40
theorem yP:Az [lH, lJ, lN, "_law_once", "_law_twice"] [lH, lJ] (Ak Ag1):={}
abbrev Ac1:Stmt:=top 41
theorem A8o:Az [lH, "_law_least", "_law_few", "_law_most"] [lH, "_law_least", "_law_few", "_law_most"] (Ak Ac1):={}
abbrev Xi:Stmt:=top 42
theorem yW:Az [lH, lJ, "_law_some"] [lH, lJ] (Ak Xi):={}
abbrev Xg:Stmt:=top 43
theorem yX:Az [lH, "_law_way"] [lH] (Ak Xg):={}
abbrev Ug:Stmt:=top 44
theorem A0g:Az [lH] [lH] (Ak Ug):={}
abbrev Af5:Stmt:=top 45
theorem yQ:Az [lH, lJ, lN, "_law_turn", lP] [lH, lJ] (Ak Af5):={}
abbrev Ue:Stmt:=top 46
theorem yG:Az [lH, lM, lJ, "_law_pool_here", lN, "_law_turn", "_law_one"] [lH, lM, lJ] (Ak Ue):={}
abbrev Zx:Stmt:=top 47
theorem zN:Az [lH, "_law_numbers", "_law_names_here", "_law_a", "_law_b", "_law_c", "_law_stem", "_law_over", "_law_values", "_law_heads", "_law_often", "_law_rows", "_law_part", "_law_cells", "_law_head", "_law_one"] [lH, "_law_numbers"] (Ak Zx):={}
abbrev Ni:Stmt:=top 48
theorem Yh:Az [lP] [lP] (Ak Ni):={}
abbrev Xp:Stmt:=top 49
theorem A2r:Az ["_law_values"] ["_law_values"] (Ak Xp):={}
abbrev Oc:Stmt:=top 50
theorem zG:Az [lM, "_law_stem", "_law_names_here", "_law_values", "_law_heads", "_law_rows", lN, "_law_part", "_law_cells", "_law_words_here", "_law_one"] [lM] (Ak Oc):={}
abbrev U9:Stmt:=top 51
theorem A8a:Az [lN, "_law_due"] [lN, "_law_due"] (Ak U9):={}
abbrev Ae8:Stmt:=top 52
theorem yU:Az [lH, "_law_some"] [lH] (Ak Ae8):={}
abbrev Qi:Stmt:=top 53
theorem Ai3:Az [lH] [lH] (Ak Qi):={}
abbrev Oe:Stmt:=top 54
theorem zW:Az [lH, lJ, "_law_letters", lN, "_law_turn", "_law_name"] [lH, lJ] (Ak Oe):={}
abbrev Pg:Stmt:=top 55
theorem zV:Az [lH, "_law_names_here", "_law_heads", "_law_over", "_law_values", "_law_cells"] [lH] (Ak Pg):={}
abbrev Bk4:Stmt:=top 56
theorem yH:Az [lK, lQ, lH, lM, "_law_other", "_law_lettered_here", "_law_one", "_law_text", "_law_part", "_law_cells", "_law_gap"] [lK] (Ak Bk4):={}
section
variable {P:p7}{w:World}{K:q9}{mg:x_}{base:Heap}
theorem Ut (F:Fun K "has_plain_signs" "has_plain_signs" J1 f fd) (zR:mg "all" = none):FnOk P w K mg base CX0 1 f fd ["text"] (spP K Fq):=by
 refine F.ok Uz (λ_ _ _ _=>Bv) (λcdv A outer s H vs Q E hr h=>?_)
 have hu:=hr.units;have hgd:=hr.gd
 refine Gm (Ah (Av (Ig (Kq:=K) rfl rfl rfl zR (Ad (by exact(Jk (N':=["sign"]) (idx:=[none]) Fj rfl (At5 (qv 0)) (λ_ _ _ _ _=>by exact(Bc (i:=0) (by show (["sign"]:v_).Nodup;decide +kernel))) qtN (λ_ _ _ _ _=>by exact(Lh (B0s Bd (qv 0)) (Km (B0s (qv 0) Bd)))))) Ac)))) ?_
 exact Bw (by unfold Jf;walk_at "m") h
theorem A1b (F:Fun K "is_value" "is_value" Uc f fd) (d0:Def P w K mg base "has_plain_signs" 1 ["text"] (spP K Fq)) (yC:mg "bool" = none) (zO:mg "int" = none) (zA:mg "isinstance" = none) (zL:mg "str" = none):FnOk P w K mg base CX0 2 f fd ["thing"] (spP K Es):=by
 refine F.ok Ay8 (λ_ _ _ _=>Bv) (λcdv A outer s H vs Q E hr h=>?_)
 have hu:=hr.units;have hgd:=hr.gd
 refine Gm (Ae (Ed (Gj (Cd (Kq:=K) rfl rfl zA (Ad (qv 0) (Ad (Ep (v:=.ty "bool") rfl yC Y8 rfl) Ac)))) (Ah (Av Mw)) Bt)
  (Ae (Ed (Gj (Cd (Kq:=K) rfl rfl zA (Ad (qv 0) (Ad (Ep (v:=.ty "str") rfl zL Rx rfl) Ac)))) (Ah (Av (Aq d0 hr (Ad (qv 0) Ac)))) Bt)
  (Ah (Av (B1e (Am7 (qv 0) Le) (Km (Cd (Kq:=K) rfl rfl zA (Ad (qv 0) (Ad (Ep (v:=.ty "int") rfl zO At7 rfl) Ac))))))))) ?_
 exact Bw (by unfold Fz;walk_at "m") h
theorem A2o (F:Fun K "is_name" "is_name" Wn f fd) (zR:mg "all" = none) (zA:mg "isinstance" = none) (zE:mg "len" = none) (zL:mg "str" = none) (yL:∃t,mg "LETTERS" = some (Value.str "abcdefghijklmnopqrstuvwxyz" t)) (zX:∃t,mg "LONGEST_NAME" = some (Value.int 8 t)):FnOk P w K mg base CX0 1 f fd ["thing"] (spP K Ea):=by
 obtain⟨t_LETTERS,i6⟩:=yL;obtain⟨t_LONGEST_NAME,i5⟩:=zX
 refine F.ok A4y (λ_ _ _ _=>Bv) (λcdv A outer s H vs Q E hr h=>?_)
 have hu:=hr.units;have hgd:=hr.gd
 refine Gm (Ae (Ed (QW.qt (Am6 (Od (Gj (Cd (Kq:=K) rfl rfl zA (Ad (qv 0) (Ad (Ep (v:=.ty "str") rfl zL Rx rfl) Ac))))) (Am6 (Lz hu (qv 0) Bd) (Aa8 (A1s (Gk (Kq:=K) rfl rfl zE (Ad (qv 0) Ac)) (Sx (v:=.int 8) rfl i5 ⟨t_LONGEST_NAME,rfl⟩)))))) (Ah (Av Mw)) Bt)
  (Ah (Av (Ig (Kq:=K) rfl rfl rfl zR (Ad (by exact(Jk (N':=["sign"]) (idx:=[none]) Fj rfl (At5 (qv 0)) (λ_ _ _ _ _=>by exact(Bc (i:=0) (by show (["sign"]:v_).Nodup;decide +kernel))) qtN (λ_ _ _ _ _=>by exact(Bb0 hu (qv 0) (Sx (v:=.str "abcdefghijklmnopqrstuvwxyz") rfl i6 ⟨t_LETTERS,rfl⟩) (by with_unfolding_all rfl))))) Ac))))) ?_
 exact Bw (by unfold Fl;walk_at "m") h
theorem Ae1 (F:Fun K "are_columns" "are_columns" Om f fd) (d2:Def P w K mg base "is_name" 1 ["thing"] (spP K Ea)) (zR:mg "all" = none) (zA:mg "isinstance" = none) (zE:mg "len" = none) (xG:mg "set" = none) (zB:mg "tuple" = none):FnOk P w K mg base CX0 2 f fd ["thing"] (spP K Bq):=by
 refine F.ok Z0 (λ_ _ _ _=>Bv) (λcdv A outer s H vs Q E hr h=>?_)
 have hu:=hr.units;have hgd:=hr.gd
 refine Gm (Ae (Ed (QW.qt (Am6 (Od (Gj (Cd (Kq:=K) rfl rfl zA (Ad (qv 0) (Ad (Ep (v:=.ty "tuple") rfl zB K3 rfl) Ac))))) (Aa8 (Lz hu (Gk (Kq:=K) rfl rfl zE (Ad (qv 0) Ac)) Af)))) (Ah (Av Mw)) Bt)
  (Ae (Ed (Od (Gj (Ig (Kq:=K) rfl rfl rfl zR (Ad (by exact(Jk (N':=["name"]) (idx:=[none]) Fj rfl (Gq (Kq:=K) rfl (qv 0)) (λ_ _ _ _ _=>by exact(Bc (i:=0) (by show (["name"]:v_).Nodup;decide +kernel))) qtN (λ_ _ _ _ _=>by exact(Aq d2 hr (Ad (qv 0) Ac))))) Ac)))) (Ah (Av Mw)) Bt)
  (Ah (Av (J3 hu (A5a (Kq:=K) rfl rfl rfl xG rfl zE (qv 0)) (Gk (Kq:=K) rfl rfl zE (Ad (qv 0) Ac))))))) ?_
 exact Bw (by unfold Cu;walk_at "m") h
theorem Tq (F:Fun K "are_wide_columns" "are_wide_columns" Je f fd) (d3:Def P w K mg base "are_columns" 2 ["thing"] (spP K Bq)) (zR:mg "all" = none) (zA:mg "isinstance" = none) (zE:mg "len" = none) (zB:mg "tuple" = none):FnOk P w K mg base CX0 3 f fd ["key", "names", "values"] (spP K Fd):=by
 refine F.ok Tn (λ_ _ _ _=>Bv) (λcdv A outer s H vs Q E hr h=>?_)
 have hu:=hr.units;have hgd:=hr.gd
 refine Gm (Ae (Ed (Od (Gj (Ig (Kq:=K) rfl rfl rfl zR (Ad (by exact(Jk (N':=["some"]) (idx:=[none]) Fj rfl (Gq (Kq:=K) rfl (Ec (Ad (qv 0) (Ad (qv 1) (Ad (qv 2) Ac))))) (λ_ _ _ _ _=>by exact(Bc (i:=0) (by show (["some"]:v_).Nodup;decide +kernel))) qtN (λ_ _ _ _ _=>by exact(Cd (Kq:=K) rfl rfl zA (Ad (qv 0) (Ad (Ep (v:=.ty "tuple") rfl zB K3 rfl) Ac)))))) Ac)))) (Ah (Av Mw)) Bt)
  (Ah (Av (Lh (A1u (Gk (Kq:=K) rfl rfl zE (Ad (qv 2) Ac)) Af) (Km (Aq d3 hr (Ad (Bf (Bf (qv 0) (qv 1)) (qv 2)) Ac))))))) ?_
 exact Bw (by unfold Iu;walk_at "m") h
theorem Tj (F:Fun K "one_with_noughts" "one_with_noughts" Jd f fd) (zO:mg "int" = none):FnOk P w K mg base CX0 1 f fd ["many"] (spP K Bs):=by
 refine F.ok T3 (λ_ _ _ _=>Bv) (λcdv A outer s H vs Q E hr h=>?_)
 have hu:=hr.units;have hgd:=hr.gd
 refine Gm (Ah (Av (V1 (Kq:=K) rfl rfl zO (Ad (Bf Bd (A5o Bd (qv 0))) Ac)))) ?_
 exact Bw (by unfold Iw;walk_at "m") h
abbrev yT2 (P w K mg base):=Def P w K mg base "one_with_noughts" 1 ["many"] (spP K Bs)
theorem U5 {n:Nat}(F:Fun K "number_written" "number_written" Ia f fd) (d6:Def P w K mg base "number_written" (n+1) ["number"] (spP K (Ce n))) (d5:yT2 P w K mg base) (yE:mg "reversed" = none) (zL:mg "str" = none) (zF:∃t,mg "FIGURES_AT_ONCE" = some (Value.int 64 t)):FnOk P w K mg base CX0 (n+1+1) f fd ["number"] (spP K (Ce (n+1))):=by
 obtain⟨t_FIGURES_AT_ONCE,a8⟩:=zF
 refine F.ok zT (λ_ _ _ _=>Bv) (λcdv A outer s H vs Q E hr h=>?_)
 have hu:=hr.units;have hgd:=hr.gd
 refine Gm (Ae (Ed (Z1 (qv 0) Af) (Ah (Av (Bf Bd (Aq d6 hr (Ad (As2 (qv 0)) Ac))))) Bt)
  (Ae (Bb (i:=1) zT.nd (Aq d5 hr (Ad (Sx (v:=.int 64) rfl a8 ⟨t_FIGURES_AT_ONCE,rfl⟩) Ac)))
  (Ae (Bb (i:=2) zT.nd (Ei Ac))
  (Ae (Bb (i:=3) zT.nd (qv 0))
  (Ae (Bd8 PassesOwn.never (Bd9 (qv 3) (qv 1)) (Ae Az1
  (Ah (Bb (i:=3) zT.nd (Uw (qv 3) (qv 1))))))
  (Ae (Ex (Gu (Kq:=K) rfl (qv 2) (Bm7 (Kq:=K) rfl hu hgd rfl zL (Ad (qv 3) Ac))))
  (Ah (Av (Bg4 (Kq:=K) rfl rfl rfl yE Bd (Ad (qv 2) Ac)))))))))) ?_
 exact Bw (Dw (Z9 (Hx (Cp Ai (Dh rfl) A6m)) (Hn (Cp (Dh rfl) (Df (An (X8 Ai Ap2) Ca)) Dr)) Qf)
  (Dw (G6 (Df (An (Dh rfl) Ca)) Bk)
  (Dw (G6 (J0 Ca) Bk)
  (Dw (G6 Ai Bk)
  (Dw (A0m (Hx (Cp Ai Ai Bg2)) (Dw Ay6
  (G6 (Cp Ai Ai A0p) Bk)))
  (Dw (Sv (Aw8 Ai (K4 Ai Aw3)))
  (Hn (J2 (Dh rfl) Ai Hm Ak1)))))))) h
theorem Ng (F:Fun K "number_written" "number_written" Ia f fd) (bF:Binds K fd ["number"] []) (mF:mg "number_written" = some (.ref f)) (d5:yT2 P w K mg base) (yE:mg "reversed" = none) (zL:mg "str" = none) (zF:∃t,mg "FIGURES_AT_ONCE" = some (Value.int 64 t)):∀n:Nat,FnOk P w K mg base CX0 (n+1) f fd ["number"] (spP K (Ce n))
 | 0=>Bg1
 | n+1=>U5 F ⟨f,fd,Ng F bF mF d5 yE zL zF n,bF,F.kp,mF⟩ d5 yE zL zF
theorem Yr (F:Fun K "text_written" "text_written" M3 f fd):FnOk P w K mg base CX0 1 f fd ["text"] (spP K Ez):=by
 refine F.okT yO (by decide +kernel) (by decide) (λ_ _ _ _=>Bv) (λcdv A outer s H vs Q E hr h=>?_)
 have hu:=hr.units;have hgd:=hr.gd
 refine B1a (A2b (i:=1) yO.nd rfl (Or.inl rfl) (V7 (V7 (QE.qet (qv 0))))
  (Ah (Av (Bf (Bf Bd (qv 1)) Bd)))) ?_
 exact Bw (by unfold Ln;walk_at "m") h
abbrev yT5 (P w K mg base):=Def P w K mg base "text_written" 1 ["text"] (spP K Ez)
theorem Xu (F:Fun K "value_written" "value_written" Lq f fd) (d6:Def P w K mg base "number_written" 3 ["number"] (spP K (Ce 2))) (d7:yT5 P w K mg base) (zA:mg "isinstance" = none) (zL:mg "str" = none):FnOk P w K mg base CX0 4 f fd ["value"] (spP K Du):=by
 refine F.ok Wv (λ_ _ _ _=>Bv) (λcdv A outer s H vs Q E hr h=>?_)
 have hu:=hr.units;have hgd:=hr.gd
 refine Gm (Ae (Ed (Oq (qv 0) Le) (Ah (Av Bd)) Bt)
  (Ae (Ed (Gj (Cd (Kq:=K) rfl rfl zA (Ad (qv 0) (Ad (Ep (v:=.ty "str") rfl zL Rx rfl) Ac)))) (Ah (Av (Aq d7 hr (Ad (qv 0) Ac)))) Bt)
  (Ah (Av (Aq d6 hr (Ad (qv 0) Ac)))))) ?_
 exact Bw (by unfold Gp;walk_at "m") h
theorem Af7 (F:Fun K "row_written" "row_written" Og f fd) (d8:Def P w K mg base "value_written" 4 ["value"] (spP K Du)):FnOk P w K mg base CX0 5 f fd ["word", "values"] (spP K Dp):=by
 refine F.ok Ad3 (λ_ _ _ _=>Bv) (λcdv A outer s H vs Q E hr h=>?_)
 have hu:=hr.units;have hgd:=hr.gd
 refine Gm (Ah (Av (K1 (Kq:=K) rfl bH cP cQ (Kv rfl) Bd (Ad (Bf (Ei (Ad (qv 0) Ac)) (by exact(Jk (N':=["value"]) (idx:=[none]) Fj rfl (Gq (Kq:=K) rfl (qv 1)) (λ_ _ _ _ _=>by exact(Bc (i:=0) (by show (["value"]:v_).Nodup;decide +kernel))) qtN (λ_ _ _ _ _=>by exact(Aq d8 hr (Ad (qv 0) Ac)))))) Ac)))) ?_
 exact Bw (Hn (J2 (Dh rfl) (Cp (J0 (An Ai Ca)) (R8 (by decide) (Oa Ai) Bk M7 (Df (An Ai Ca))) Dr) Hm Hq)) h
abbrev yT3 (P w K mg base):=Def P w K mg base "row_written" 5 ["word", "values"] (spP K Dp)
theorem Yu (F:Fun K "cell_written" "cell_written" Mz f fd) (d9:yT3 P w K mg base):FnOk P w K mg base CX0 6 f fd ["cell"] (spP K Ds):=by
 refine F.ok Yn (λ_ _ _ _=>Bv) (λcdv A outer s H vs Q E hr h=>?_)
 have hu:=hr.units;have hgd:=hr.gd
 refine Gm (Ah (Av (Nj (Oq (qv 0) Le) Bd (Aq d9 hr (Ad Bd (Ad (qv 0) Ac)))))) ?_
 exact Bw (by unfold Iz;walk_at "m") h
theorem Yw (F:Fun K "part_written" "part_written" M8 f fd) (d9:yT3 P w K mg base) (d10:Def P w K mg base "cell_written" 6 ["cell"] (spP K Ds)):FnOk P w K mg base CX0 7 f fd ["part", "cells"] (spP K Ey):=by
 refine F.ok Ym (λ_ _ _ _=>Bv) (λcdv A outer s H vs Q E hr h=>?_)
 have hu:=hr.units;have hgd:=hr.gd
 refine Gm (Ah (Av (K1 (Kq:=K) rfl bH cP cQ (Kv rfl) Bd (Ad (Bf (Ei (Ad (Aq d9 hr (Ad Bd (Ad (qv 0) Ac))) Ac)) (by exact(Jk (N':=["cell"]) (idx:=[none]) Fj rfl (Gq (Kq:=K) rfl (qv 1)) (λ_ _ _ _ _=>by exact(Bc (i:=0) (by show (["cell"]:v_).Nodup;decide +kernel))) qtN (λ_ _ _ _ _=>by exact(Aq d10 hr (Ad (qv 0) Ac)))))) Ac)))) ?_
 exact Bw (Hn (J2 (Dh rfl) (Cp (J0 (An (Df (An (Dh rfl) (An Ai Ca))) Ca)) (R8 (by decide) (Oa Ai) Bk M7 (Df (An Ai Ca))) Dr) Hm Hq)) h
theorem Ax3 (F:Fun K "wide_text" "wide_text" Rt f fd) (d9:yT3 P w K mg base) (d11:Def P w K mg base "part_written" 7 ["part", "cells"] (spP K Ey)):FnOk P w K mg base CX0 8 f fd ["wide"] (spP K De):=by
 refine F.ok yN (λ_ _ _ _=>Bv) (λcdv A outer s H vs Q E hr h=>?_)
 have hu:=hr.units;have hgd:=hr.gd
 refine Gm (Ae (Bb (i:=1) yN.nd (K1 (Kq:=K) rfl bH cP cQ (Be8 rfl) Bd (Ad (Bf (Bf (Bf (Bf (Bf (Ec (Ad Bd Ac)) (Cj (Kq:=K) rfl (qv 0) Af Ay)) (Ec (Ad Bd Ac))) (Cj (Kq:=K) rfl (qv 0) Af Ay)) (Ec (Ad Bd Ac))) (Cj (Kq:=K) rfl (qv 0) Af Ay)) Ac)))
  (Ae (by exact(Ae2 (i:=2) yN.nd rfl (Or.inl rfl) (N':=["head"]) (idx:=[none]) Fj rfl (Gq (Kq:=K) rfl (Cj (Kq:=K) rfl (qv 0) Af Ay)) (λ_ _ _ _ _=>by exact(Bc (i:=0) (by show (["head"]:v_).Nodup;decide +kernel))) qtN (λ_ _ _ _ _=>by exact(Aq d9 hr (Ad Bd (Ad (qv 0) Ac))))))
  (Ah (Av (K1 (Kq:=K) rfl bH cP cQ (Kv rfl) Bd (Ad (Bf (Bf (Ei (Ad (qv 1) Ac)) (qv 2)) (by exact(Jk (N':=["part", "cells"]) (idx:=[none,none]) Fj rfl (Gq (Kq:=K) rfl (Cj (Kq:=K) rfl (qv 0) Af Ay)) (λ_ _ _ _ _=>by exact(Uq (Kq:=K) rfl (n:=2) rfl (Er (Bc (i:=0) (by show (["part", "cells"]:v_).Nodup;decide +kernel)) (Er (Bc (i:=1) (by show (["part", "cells"]:v_).Nodup;decide +kernel)) Qm)))) qtN (λ_ _ _ _ _=>by exact(Aq d11 hr (Ad (qv 0) (Ad (qv 1) Ac))))))) Ac)))))) ?_
 exact Bw (Dw (G6 (J2 (Dh rfl) (Cp (Cp (Cp (Cp (Cp (Ad8 (An (Dh rfl) Ca)) (Cp Ai (Dh rfl) G3) Dr) (Ad8 (An (Dh rfl) Ca)) Dr) (Cp Ai (Dh rfl) G3) Dr) (Ad8 (An (Dh rfl) Ca)) Dr) (Cp Ai (Dh rfl) G3) Dr) Hm An5) Bk)
  (Dw (G6 (R8 (by decide) (Oa (Cp Ai (Dh rfl) G3)) Bk M7 (Df (An (Dh rfl) (An Ai Ca)))) Bk)
  (Hn (J2 (Dh rfl) (Cp (Cp (J0 (An Ai Ca)) Ai Dr) (R8 (by decide) (Oa (Cp Ai (Dh rfl) G3)) (Ab1 (Ha Bk (Ha Bk U4))) M7 (Df (An Ai (An Ai Ca)))) Dr) Hm Hq)))) h
theorem Aq3 (F:Fun K "check_row" "check_row" Q3 f fd):FnOk P w K mg base CX0 3 f fd ["right", "row_number"] (spP K Bl):=by
 refine F.ok Aq2 (λ_ _ _ _=>Bv) (λcdv A outer s H vs Q E hr h=>?_)
 have hu:=hr.units;have hgd:=hr.gd
 refine Gm (Ah (Ed (Od (Gj (qv 0))) (Ah Az1) Bt)) ?_
 exact Bw (by unfold Pn;walk_at "m") h
theorem Ax1 (F:Fun K "pieces_of" "pieces_of" Rr f fd) (zZ:mg "enumerate" = none):FnOk P w K mg base CX0 1 f fd ["row"] (spP K G4):=by
 refine F.ok zM (λ_ _ _ _=>Bv) (λcdv A outer s H vs Q E hr h=>?_)
 have hu:=hr.units;have hgd:=hr.gd
 refine Gm (Ae (Bb (i:=1) zM.nd (Ei Ac))
  (Ae (Bb (i:=2) zM.nd Af)
  (Ae (Bb (i:=3) zM.nd Mw)
  (Ae (Bb (i:=4) zM.nd Mw)
  (Ae (Kf PassesOwn.never rfl (Bc2 rfl zZ (Ad (qv 0) Ac)) (Uq (Kq:=K) rfl (n:=2) rfl (Er (Bc (i:=5) zM.nd) (Er (Bc (i:=6) zM.nd) Qm))) (Ae (Ed (QW.qt (Av3 (Lz hu (qv 6) Bd) (Zn (Od (Gj (qv 3)))))) (Ae (Ex (Gu (Kq:=K) rfl (qv 1) (Io (Kq:=K) rfl (qv 0) (Cw (qv 2)) (Cw (qv 5)))))
  (Ah (Bb (i:=2) zM.nd (Bf (qv 5) Af)))) (Ah (Ed (QW.qt (Av3 (Lz hu (qv 6) Bd) (Zn (Od (Gj (qv 4)))))) (Ah (Bb (i:=3) zM.nd (Aq6 (qv 3)))) Bt)))
  (Ah (Bb (i:=4) zM.nd (Lh (J3 hu (qv 6) Bd) (Km (Aq6 (qv 4))))))))
  (Ae (Ex (Gu (Kq:=K) rfl (qv 1) (Io (Kq:=K) rfl (qv 0) (Cw (qv 2)) Hk)))
  (Ah (Av (qv 1))))))))) ?_
 exact Bw (by unfold Pu;walk_at "m") h
abbrev yT1 (P w K mg base):=Def P w K mg base "check_row" 3 ["right", "row_number"] (spP K Bl)
theorem Av5 (F:Fun K "text_read" "text_read" Q0 f fd) (d1:Def P w K mg base "is_value" 2 ["thing"] (spP K Es)) (d7:yT5 P w K mg base) (d13:yT1 P w K mg base):FnOk P w K mg base CX0 4 f fd ["piece", "row_number"] (spP K Jp):=by
 refine F.okT yS (by decide +kernel) (by decide) (λ_ _ _ _=>Bv) (λcdv A outer s H vs Q E hr h=>?_)
 have hu:=hr.units;have hgd:=hr.gd
 refine B1a (A2b (i:=2) yS.nd rfl (Or.inl rfl) (V7 (V7 (QE.qet (Io (Kq:=K) rfl (qv 0) (Cw Af) (Cw (As2 Af))))))
  (Ae (Ex (Aq d13 hr (Ad (Lh (Aq d1 hr (Ad (qv 2) Ac)) (Km (J3 hu (Aq d7 hr (Ad (qv 2) Ac)) (qv 0)))) (Ad (qv 1) Ac))))
  (Ah (Av (qv 2))))) ?_
 exact Bw (by unfold Qe;walk_at "m") h
theorem Rv (F:Fun K "number_of_figures" "number_of_figures" Ir f fd) (d5:yT2 P w K mg base) (zO:mg "int" = none) (zE:mg "len" = none) (zH:mg "range" = none) (zF:∃t,mg "FIGURES_AT_ONCE" = some (Value.int 64 t)):FnOk P w K mg base CX0 2 f fd ["figures"] (spP K Et):=by
 obtain⟨t_FIGURES_AT_ONCE,a8⟩:=zF
 refine F.ok zP (λ_ _ _ _=>Bv) (λcdv A outer s H vs Q E hr h=>?_)
 have hu:=hr.units;have hgd:=hr.gd
 refine Gm (Ae (Bb (i:=1) zP.nd Af)
  (Ae (Kf PassesOwn.never rfl (A9u rfl zH (Ad Af (Ad (Gk (Kq:=K) rfl rfl zE (Ad (qv 0) Ac)) (Ad (Sx (v:=.int 64) rfl a8 ⟨t_FIGURES_AT_ONCE,rfl⟩) Ac)))) (Bc (i:=2) zP.nd) (Ae (Bb (i:=3) zP.nd (Io (Kq:=K) rfl (qv 0) (Cw (qv 2)) (Cw (Bf (qv 2) (Sx (v:=.int 64) rfl a8 ⟨t_FIGURES_AT_ONCE,rfl⟩)))))
  (Ah (Bb (i:=1) zP.nd (Bf (J6 (qv 1) (Aq d5 hr (Ad (Gk (Kq:=K) rfl rfl zE (Ad (qv 3) Ac)) Ac))) (V1 (Kq:=K) rfl rfl zO (Ad (qv 3) Ac)))))))
  (Ah (Av (qv 1))))) ?_
 exact Bw (by unfold Hv;walk_at "m") h
theorem Af3 (F:Fun K "number_read" "number_read" Oj f fd) (d13:yT1 P w K mg base) (d16:Def P w K mg base "number_of_figures" 2 ["figures"] (spP K Et)) (zR:mg "all" = none) (yM:∃t,mg "FIGURES" = some (Value.str "0123456789" t)):FnOk P w K mg base CX0 4 f fd ["piece", "row_number"] (spP K Ft):=by
 obtain⟨t_FIGURES,a9⟩:=yM
 refine F.ok yK (λ_ _ _ _=>Bv) (λcdv A outer s H vs Q E hr h=>?_)
 have hu:=hr.units;have hgd:=hr.gd
 refine Gm (Ae (Bb (i:=2) yK.nd (Nj (Gj (K1 (Kq:=K) rfl bH gU gV A5p (qv 0) (Ad Bd Ac))) (Io (Kq:=K) rfl (qv 0) (Cw Af) Hk) (qv 0)))
  (Ae (Ex (Aq d13 hr (Ad (Lh (B6n hu (qv 2) Bd) (Km (Ig (Kq:=K) rfl rfl rfl zR (Ad (by exact(Jk (N':=["sign"]) (idx:=[none]) Fj rfl (At5 (qv 2)) (λ_ _ _ _ _=>by exact(Bc (i:=0) (by show (["sign"]:v_).Nodup;decide +kernel))) qtN (λ_ _ _ _ _=>by exact(Bb0 hu (qv 0) (Sx (v:=.str "0123456789") rfl a9 ⟨t_FIGURES,rfl⟩) (by with_unfolding_all rfl))))) Ac)))) (Ad (qv 1) Ac))))
  (Ae (Ex (Aq d13 hr (Ad (B1e (J3 hu (qv 0) Bd) (Km (Aq6 (K1 (Kq:=K) rfl bH gU gV A5p (qv 2) (Ad Bd Ac))))) (Ad (qv 1) Ac))))
  (Ae (Bb (i:=3) yK.nd (Aq d16 hr (Ad (qv 2) Ac)))
  (Ah (Av (Nj (Gj (K1 (Kq:=K) rfl bH gU gV A5p (qv 0) (Ad Bd Ac))) (As2 (qv 3)) (qv 3)))))))) ?_
 exact Bw (Dw (G6 (Ap5 (Bd0 (J2 Ai (Dh rfl) Hm Ag9)) (A5z Ai (Zb (Dh rfl)) Zo Yy) Ai) Bk)
  (Dw (Sv (Df (An (A5x (Cp Ai (Dh rfl) Bp5) (K4 (R8 (by decide) (A4w Ai) Bk M7 (Cp Ai (Dh rfl) A3l)) A5l)) (An Ai Ca))))
  (Dw (Sv (Df (An (Bo5 (Cp Ai (Dh rfl) Z6) (A5v (J2 Ai (Dh rfl) Hm Ag9))) (An Ai Ca))))
  (Dw (G6 (Df (An Ai Ca)) Bk)
  (Hn (Ap5 (Bd0 (J2 Ai (Dh rfl) Hm Ag9)) (X8 Ai Ap2) Ai)))))) h
theorem Aj0 (F:Fun K "value_read" "value_read" O6 f fd) (d15:Def P w K mg base "text_read" 4 ["piece", "row_number"] (spP K Jp)) (d17:Def P w K mg base "number_read" 4 ["piece", "row_number"] (spP K Ft)):FnOk P w K mg base CX0 5 f fd ["piece", "row_number"] (spP K Dn):=by
 refine F.ok Ai5 (λ_ _ _ _=>Bv) (λcdv A outer s H vs Q E hr h=>?_)
 have hu:=hr.units;have hgd:=hr.gd
 refine Gm (Ae (Ed (Lz hu (qv 0) Bd) (Ah (Av Le)) Bt)
  (Ae (Ed (Gj (K1 (Kq:=K) rfl bH gU gV A5p (qv 0) (Ad Bd Ac))) (Ah (Av (Aq d15 hr (Ad (qv 0) (Ad (qv 1) Ac))))) Bt)
  (Ah (Av (Aq d17 hr (Ad (qv 0) (Ad (qv 1) Ac))))))) ?_
 exact Bw (Dw (Z9 (Hx (Cp Ai (Dh rfl) Z6)) (Hn (Dh rfl)) Qf)
  (Dw (Z9 (Bd0 (J2 Ai (Dh rfl) Hm Ag9)) (Hn (Df (An Ai (An Ai Ca)))) Qf)
  (Hn (Df (An Ai (An Ai Ca)))))) h
theorem Z5 (F:Fun K "values_read" "values_read" Ob f fd) (d13:yT1 P w K mg base) (d18:Def P w K mg base "value_read" 5 ["piece", "row_number"] (spP K Dn)) (zE:mg "len" = none) (zB:mg "tuple" = none):FnOk P w K mg base CX0 6 f fd ["pieces", "width", "row_number"] (spP K Cv):=by
 refine F.ok Ag4 (λ_ _ _ _=>Bv) (λcdv A outer s H vs Q E hr h=>?_)
 have hu:=hr.units;have hgd:=hr.gd
 refine Gm (Ae (Ex (Aq d13 hr (Ad (J3 hu (Gk (Kq:=K) rfl rfl zE (Ad (qv 0) Ac)) (qv 1)) (Ad (qv 2) Ac))))
  (Ah (Av (Bh (Kq:=K) rfl rfl zB (Ad (by exact(Jk (N':=["piece", "row_number"]) (idx:=[none,some 2]) Fj rfl (Gq (Kq:=K) rfl (qv 0)) (λ_ _ _ _ _=>by exact(Bc (i:=0) (by show (["piece", "row_number"]:v_).Nodup;decide +kernel))) qtN (λ_ _ _ _ _=>by exact(Aq d18 hr (Ad (qv 0) (Ad (qv 1) Ac)))))) Ac))))) ?_
 exact Bw (by unfold Mu;walk_at "m") h
theorem Vr (F:Fun K "rows_in_pieces" "rows_in_pieces" Kg f fd) (d14:Def P w K mg base "pieces_of" 1 ["row"] (spP K G4)):FnOk P w K mg base CX0 2 f fd ["text"] (spP K Ga):=by
 refine F.ok V3 (λ_ _ _ _=>Bv) (λcdv A outer s H vs Q E hr h=>?_)
 have hu:=hr.units;have hgd:=hr.gd
 refine Gm (Ah (Av (by exact(Jk (N':=["row"]) (idx:=[none]) Fj rfl (Gq (Kq:=K) rfl (K1 (Kq:=K) rfl bH PySem.F.slot_str_split PySem.F.type_str_split Bk0 (qv 0) (Ad Bd Ac))) (λ_ _ _ _ _=>by exact(Bc (i:=0) (by show (["row"]:v_).Nodup;decide +kernel))) qtN (λ_ _ _ _ _=>by exact(Aq d14 hr (Ad (qv 0) Ac))))))) ?_
 exact Bw (Hn (R8 (by decide) (Oa (J2 Ai (Dh rfl) Hm Ao9)) Bk M7 (Df (An Ai Ca)))) h
theorem A3g (F:Fun K "between" "between" Wr f fd):FnOk P w K mg base CX0 1 f fd ["pieces", "mark"] (spP K Hu):=by
 refine F.ok yR (λ_ _ _ _=>Bv) (λcdv A outer s H vs Q E hr h=>?_)
 have hu:=hr.units;have hgd:=hr.gd
 refine Gm (Ae (Bb (i:=2) yR.nd (Ei (Ad (Ei Ac) Ac)))
  (Ae (Kf PassesOwn.never rfl (Gq (Kq:=K) rfl (qv 0)) (Bc (i:=3) yR.nd) (Ah (Ed (Lz hu (qv 3) (qv 1)) (Ah (Ex (Gu (Kq:=K) rfl (qv 2) (Ei Ac)))) (Ah (Ex (Gu (Kq:=K) rfl (Cj (Kq:=K) rfl (qv 2) (As2 Af) Bj3) (qv 3)))))))
  (Ah (Av (qv 2))))) ?_
 exact Bw (Bl7 (Oa Ai)) h
abbrev yT6 (P w K mg base):=Def P w K mg base "between" 1 ["pieces", "mark"] (spP K Hu)
theorem Rb (F:Fun K "wide_columns_read" "wide_columns_read" Ip f fd) (d4:Def P w K mg base "are_wide_columns" 3 ["key", "names", "values"] (spP K Fd)) (d13:yT1 P w K mg base) (d21:yT6 P w K mg base) (zE:mg "len" = none) (zB:mg "tuple" = none):FnOk P w K mg base CX0 4 f fd ["pieces"] (spP K Eu):=by
 refine F.ok yI (λ_ _ _ _=>Bv) (λcdv A outer s H vs Q E hr h=>?_)
 have hu:=hr.units;have hgd:=hr.gd
 refine Gm (Ae (by exact(Ae2 (i:=1) yI.nd rfl (Or.inl rfl) (N':=["group"]) (idx:=[none]) Fj rfl (Gq (Kq:=K) rfl (Aq d21 hr (Ad (Io (Kq:=K) rfl (qv 0) (Cw Af) Hk) (Ad Bd Ac)))) (λ_ _ _ _ _=>by exact(Bc (i:=0) (by show (["group"]:v_).Nodup;decide +kernel))) qtN (λ_ _ _ _ _=>by exact(Bh (Kq:=K) rfl rfl zB (Ad (qv 0) Ac)))))
  (Ae (Ex (Aq d13 hr (Ad (Lh (J3 hu (Cj (Kq:=K) rfl (qv 0) Af Ay) Bd) (Km (J3 hu (Gk (Kq:=K) rfl rfl zE (Ad (qv 1) Ac)) Af))) (Ad Af Ac))))
  (Ae (Ex (Aq d13 hr (Ad (Aq d4 hr (Ad (Cj (Kq:=K) rfl (qv 1) Af Ay) (Ad (Cj (Kq:=K) rfl (qv 1) Af Ay) (Ad (Cj (Kq:=K) rfl (qv 1) Af Ay) Ac)))) (Ad Af Ac))))
  (Ah (Av (qv 1)))))) ?_
 exact Bw (by unfold Hr;walk_at "m") h
abbrev yT4 (P w K mg base):=Def P w K mg base "values_read" 6 ["pieces", "width", "row_number"] (spP K Cv)
theorem Aq5 (F:Fun K "cell_read" "cell_read" Sg f fd) (d19:yT4 P w K mg base):FnOk P w K mg base CX0 7 f fd ["pieces", "width", "row_number"] (spP K Ff):=by
 refine F.ok As3 (λ_ _ _ _=>Bv) (λcdv A outer s H vs Q E hr h=>?_)
 have hu:=hr.units;have hgd:=hr.gd
 refine Gm (Ah (Av (Nj (Lz hu (qv 0) (Ei (Ad Bd Ac))) Le (Aq d19 hr (Ad (qv 0) (Ad (qv 1) (Ad (qv 2) Ac))))))) ?_
 exact Bw (by unfold Mg;walk_at "m") h
theorem As4 (F:Fun K "part_read" "part_read" Sd f fd) (d13:yT1 P w K mg base) (d19:yT4 P w K mg base) (d21:yT6 P w K mg base) (d23:Def P w K mg base "cell_read" 7 ["pieces", "width", "row_number"] (spP K Ff)) (zE:mg "len" = none) (zB:mg "tuple" = none):FnOk P w K mg base CX0 8 f fd ["pieces", "columns", "many", "row_number"] (spP K Ih):=by
 refine F.ok yJ (λ_ _ _ _=>Bv) (λcdv A outer s H vs Q E hr h=>?_)
 have hu:=hr.units;have hgd:=hr.gd
 refine Gm (Ae (Bb (i:=4) yJ.nd (Aq d21 hr (Ad (Io (Kq:=K) rfl (qv 0) (Cw Af) Hk) (Ad Bd Ac))))
  (Ae (Ex (Aq d13 hr (Ad (Lh (J3 hu (Cj (Kq:=K) rfl (qv 0) Af Ay) Bd) (Km (J3 hu (Gk (Kq:=K) rfl rfl zE (Ad (qv 4) Ac)) (Bf Af (qv 2))))) (Ad (qv 3) Ac))))
  (Ae (Bb (i:=5) yJ.nd (Aq d19 hr (Ad (Cj (Kq:=K) rfl (qv 4) Af Ay) (Ad (Gk (Kq:=K) rfl rfl zE (Ad (Cj (Kq:=K) rfl (qv 1) Af Ay) Ac)) (Ad (qv 3) Ac)))))
  (Ae (by exact(Ae2 (i:=6) yJ.nd rfl (Or.inl rfl) (N':=["group", "row_number", "columns"]) (idx:=[none,some 3,some 1]) Fj rfl (Gq (Kq:=K) rfl (Io (Kq:=K) rfl (qv 4) (Cw Af) Hk)) (λ_ _ _ _ _=>by exact(Bc (i:=0) (by show (["group", "row_number", "columns"]:v_).Nodup;decide +kernel))) qtN (λ_ _ _ _ _=>by exact(Aq d23 hr (Ad (qv 0) (Ad (Gk (Kq:=K) rfl rfl zE (Ad (Cj (Kq:=K) rfl (qv 2) Af Ay) Ac)) (Ad (qv 1) Ac)))))))
  (Ah (Av (Ec (Ad (qv 5) (Ad (Bh (Kq:=K) rfl rfl zB (Ad (qv 6) Ac)) Ac))))))))) ?_
 exact Bw (by unfold O4;walk_at "m") h
theorem Aw5 (F:Fun K "wide_from" "wide_from" Rw f fd) (d13:yT1 P w K mg base) (d19:yT4 P w K mg base) (d20:Def P w K mg base "rows_in_pieces" 2 ["text"] (spP K Ga)) (d22:Def P w K mg base "wide_columns_read" 4 ["pieces"] (spP K Eu)) (d24:Def P w K mg base "part_read" 8 ["pieces", "columns", "many", "row_number"] (spP K Ih)) (zZ:mg "enumerate" = none) (zE:mg "len" = none) (zB:mg "tuple" = none):FnOk P w K mg base CX0 9 f fd ["text"] (spP K Hz):=by
 refine F.ok zQ (λ_ _ _ _=>Bv) (λcdv A outer s H vs Q E hr h=>?_)
 have hu:=hr.units;have hgd:=hr.gd
 refine Gm (Ae (Bb (i:=1) zQ.nd (Aq d20 hr (Ad (qv 0) Ac)))
  (Ae (Bb (i:=2) zQ.nd (Aq d22 hr (Ad (Cj (Kq:=K) rfl (qv 1) Af Ay) Ac)))
  (Ae (Bb (i:=3) zQ.nd Az4) (Ae (Bb (i:=4) zQ.nd Az4) (Bx3 (d:=3) (e:=4) (Kf PassesOwn.never rfl (Be0 (Kq:=K) rfl rfl zZ (Ad (Io (Kq:=K) rfl (qv 1) (Cw Af) Hk) Ac)) (Uq (Kq:=K) rfl (n:=2) rfl (Er (Bc (i:=5) zQ.nd) (Er (Bc (i:=6) zQ.nd) Qm))) (Ah (Ed (QW.qt (Av3 (Lz hu (Cj (Kq:=K) rfl (qv 6) Af Ay) Bd) (Zn (Lz hu (A6x rfl zE (Ad (qv 4) Ac)) Af)))) (Ae (Bb (i:=7) zQ.nd (Aq d19 hr (Ad (Io (Kq:=K) rfl (qv 6) (Cw Af) Hk) (Ad (Gk (Kq:=K) rfl rfl zE (Ad (Cj (Kq:=K) rfl (qv 2) Af Ay) Ac)) (Ad (qv 5) Ac))))) (Ae (Ex (Aq d13 hr (Ad (Ak3 hu (qv 7) (qv 3)) (Ad (qv 5) Ac)))) (Ah (A6b hu (qv 3) (qv 7) Mw)))) (Ae (Bb (i:=8) zQ.nd (Aq d24 hr (Ad (qv 6) (Ad (qv 2) (Ad (A6x rfl zE (Ad (qv 3) Ac)) (Ad (qv 5) Ac)))))) (Ae (Ex (Aq d13 hr (Ad (Ak3 hu (Cj (Kq:=K) rfl (qv 8) Af Ay) (qv 4)) (Ad (qv 5) Ac)))) (Ah (A6b hu (qv 4) (Cj (Kq:=K) rfl (qv 8) Af Ay) (Cj (Kq:=K) rfl (qv 8) Af Ay)))))))) (Ah (Av (Ec (Ad (Cj (Kq:=K) rfl (qv 2) Af Ay) (Ad (Cj (Kq:=K) rfl (qv 2) Af Ay) (Ad (Cj (Kq:=K) rfl (qv 2) Af Ay) (Ad (Br1 rfl rfl zB (qv 3)) (Ad (Bx5 rfl rfl zB (qv 4)) Ac))))))))))))) ?_
 exact Bw (Dw (G6 (Df (An Ai Ca)) Bk)
  (Dw (G6 (Df (An (Cp Ai (Dh rfl) G3) Ca)) Bk)
  (A5s (A0k (A5z Ai (Zb (Dh rfl)) Zo Yy)) (Ab1 (Ha Bk (Ha Bk U4))) (Ar2 (Sq (Ju (by decide)) Jc (Sq (Ju (by decide)) Jc Au4 Ot) (Ul Jc Ot))) (Ar2 (Sq (Ju (by decide)) Jc (Sq (Ju (by decide)) Jc Au4 Ot) (Ul Jc Ot))) (Ba0 (Hx (Cp (Cp Ai (Dh rfl) G3) (Dh rfl) Z6)) (Hx (Cp (Aw9 Ai) (Dh rfl) Z6))) (Df (An (A5z Ai (Zb (Dh rfl)) Zo Yy) (An (Bb3 (Cp Ai (Dh rfl) G3)) (An Ai Ca)))) (Df (An (Aw0 Ai Ai) (An Ai Ca))) (Df (An Ai (An Ai (An (Aw9 Ai) (An Ai Ca))))) (Df (An (Aw0 (Cp Ai (Dh rfl) G3) Ai) (An Ai Ca))) (Cp Ai (Dh rfl) G3) (Cp Ai (Dh rfl) G3) (Ad8 (An (Cp Ai (Dh rfl) G3) (An (Cp Ai (Dh rfl) G3) (An (Cp Ai (Dh rfl) G3) (An (A5h Ai) (An (A6p Ai) Ca))))))))) h
theorem Ap9 (F:Fun K "_law_cell_at" "_law_cell_at" Ss f fd) (zE:mg "len" = none):FnOk P w K mg base CX0 1 f fd [lK, lQ] (spP K Hw):=by
 refine F.ok Aw1 (λ_ _ _ _=>Bv) (λcdv A outer s H vs Q E hr h=>?_)
 have hu:=hr.units;have hgd:=hr.gd
 refine Gm (Ae (Ed (Z1 (qv 1) (Gk (Kq:=K) rfl rfl zE (Ad (qv 0) Ac))) (Ah (Av (B0p (show IxR _ (rIx K) from B2t) (qv 0) (qv 1) A4t))) Bt)
  (Ah (Av Af))) ?_
 exact Bw (by unfold Mf;walk_at "m") h
theorem Bc0 (F:Fun K "_law_box" "_law_box" As1 f fd) (d26:Def P w K mg base "_law_cell_at" 1 [lK, lQ] (spP K Hw)) (yZ:mg "abs" = none) (zO:mg "int" = none):FnOk P w K mg base CX0 2 f fd [lK, lQ] (spP K Ri):=by
 refine F.ok xF (λ_ _ _ _=>Bv) (λcdv A outer s H vs Q E hr h=>?_)
 have hu:=hr.units;have hgd:=hr.gd
 refine Gm (Ae (Bb (i:=2) xF.nd (Aq d26 hr (Ad (qv 0) (Ad (qv 1) Ac))))
  (Ah (Av (Ei (Ad (J6 (X5 (Kq:=K) rfl rfl yZ (Ad (qv 2) Ac)) (Qa (Kq:=K) rfl rfl zO (Ad (Bk8 (X5 (Kq:=K) rfl rfl yZ (Ad (qv 2) Ac)) (Mp Af Af)) Ac))) (Ad (Bf (Bf (J7 (qv 2) Af) (J6 Af (qv 1))) Af) (Ad Af Ac))))))) ?_
 exact Bw (by unfold Ag2;walk_at "m") h
theorem A9f (F:Fun K "_law_take" "_law_take" Ag1 f fd):FnOk P w K mg base CX0 1 f fd [lH, lJ] (spP K Aj):=by
 refine F.ok yP (λ_ _ _ _=>Bv) (λcdv A outer s H vs Q E hr h=>?_)
 have hu:=hr.units;have hgd:=hr.gd
 refine Gm (Ae (Ed (A1s (Cj (Kq:=K) rfl (qv 0) Af Ay) Af) (Ae (Bb (i:=2) yP.nd (J7 (Cj (Kq:=K) rfl (qv 0) Af Ay) (qv 1)))
  (Ae (Ar1 (Uw (Cj (Kq:=K) rfl (qv 0) Af Ay) (qv 1)) (Bb9 (qv 0) Af set_list))
  (Ah (Av (qv 2))))) Bt)
  (Ae (Ar1 (Bf (Cj (Kq:=K) rfl (qv 0) Af Ay) Af) (Bb9 (qv 0) Af set_list))
  (Ae (Bb (i:=3) yP.nd (J7 (J6 (Bf (Cj (Kq:=K) rfl (qv 0) Af Ay) (J6 Af (Cj (Kq:=K) rfl (qv 0) Af Ay))) (Bf Af (Cj (Kq:=K) rfl (qv 0) Af Ay))) Af))
  (Ae (Bb (i:=4) yP.nd (J7 (J6 (Bf (qv 3) (Cj (Kq:=K) rfl (qv 0) Af Ay)) (Bf (J7 (qv 3) Af) Af)) Af))
  (Ah (Av (J7 (Uw (J7 (Bf (J6 (qv 4) Af) (qv 3)) Af) Af) (qv 1)))))))) ?_
 exact Bw (by unfold Te;walk_at "m") h
abbrev yT0 (P w K mg base):=Def P w K mg base "_law_take" 1 [lH, lJ] (spP K Aj)
theorem A8y (F:Fun K "_law_many" "_law_many" Ac1 f fd) (d28:yT0 P w K mg base):FnOk P w K mg base CX0 2 f fd [lH, "_law_least", "_law_few", "_law_most"] (spP K Kd):=by
 refine F.ok A8o (λ_ _ _ _=>Bv) (λcdv A outer s H vs Q E hr h=>?_)
 have hu:=hr.units;have hgd:=hr.gd
 refine Gm (Ae (Ed (Lz hu (Aq d28 hr (Ad (qv 0) (Ad Af Ac))) Af) (Ah (Av (Bf Af (Aq d28 hr (Ad (qv 0) (Ad (Ji (qv 3) Af) Ac)))))) Bt)
  (Ah (Av (Bf (qv 1) (Aq d28 hr (Ad (qv 0) (Ad (Bf (Ji (qv 2) (qv 1)) Af) Ac))))))) ?_
 exact Bw (by unfold Td;walk_at "m") h
theorem A2u (F:Fun K "_law_names" "_law_names" Xi f fd) (d28:yT0 P w K mg base) (zE:mg "len" = none) (zH:mg "range" = none):FnOk P w K mg base CX0 2 f fd [lH, lJ] (spP K J9):=by
 refine F.ok yW (λ_ _ _ _=>Bv) (λcdv A outer s H vs Q E hr h=>?_)
 have hu:=hr.units;have hgd:=hr.gd
 refine Gm (Ae (Bb (i:=2) yW.nd (Ei (Al3 (vs:=[.str "b",.str "a",.str "year",.str "z",.str "ab",.str "month",.str "aa",.str "quantity",.str "c",.str "town",.str "zz",.str "ba"]) rfl)))
  (Ah (Av (by exact(Jk (N':=["_law_turn", "_law_some", lH]) (idx:=[none,some 2,some 0]) Fj rfl (Jl rfl zH (Ad (qv 1) Ac)) (λ_ _ _ _ _=>by exact(Bc (i:=0) (by show (["_law_turn", "_law_some", lH]:v_).Nodup;decide +kernel))) qtN (λ_ _ _ _ _=>by exact(K1 (Kq:=K) rfl PySem.F.plainAttrs_list PySem.F.slot_list_pop PySem.F.type_list_pop Bo2 (qv 1) (Ad (Aq d28 hr (Ad (qv 2) (Ad (Gk (Kq:=K) rfl rfl zE (Ad (qv 1) Ac)) Ac))) Ac)))))))) ?_
 exact Bw (by unfold U0;walk_at "m") h
theorem A4r (F:Fun K "_law_value" "_law_value" Xg f fd) (d28:yT0 P w K mg base):FnOk P w K mg base CX0 2 f fd [lH] (spP K Dc):=by
 refine F.ok yX (λ_ _ _ _=>Bv) (λcdv A outer s H vs Q E hr h=>?_)
 have hu:=hr.units;have hgd:=hr.gd
 refine Gm (Ae (Bb (i:=1) yX.nd (Aq d28 hr (Ad (qv 0) (Ad Af Ac))))
  (Ae (Ed (Z1 (qv 1) Af) (Ah (Av (Ji (Aq d28 hr (Ad (qv 0) (Ad Af Ac))) Af))) Bt)
  (Ae (Ed (Lz hu (qv 1) Af) (Ah (Av (Cj (Kq:=K) rfl (Ei (Ad (Ji (Mp Af Af) Af) (Ad (Ji Af (Mp Af Af)) (Ad Af (Ad Af Ac))))) (Aq d28 hr (Ad (qv 0) (Ad Af Ac))) Jg))) Bt)
  (Ae (Ed (Lz hu (qv 1) Af) (Ah (Av Le)) Bt)
  (Ah (Av (Cj (Kq:=K) rfl (Ei (Al3 (vs:=[.str "",.str "a",.str "b",.str "B",.str "10",.str "9",.str "-",.str "a b",.str "it's",.str "\\",.str "/",.str "_",.str ":",.str "None",.str "ab"]) rfl)) (Aq d28 hr (Ad (qv 0) (Ad Af Ac))) Jg))))))) ?_
 exact Bw (by unfold Ka;walk_at "m") h
theorem A0q (F:Fun K "_law_number" "_law_number" Ug f fd) (d28:yT0 P w K mg base):FnOk P w K mg base CX0 2 f fd [lH] (spP K Eg):=by
 refine F.ok A0g (λ_ _ _ _=>Bv) (λcdv A outer s H vs Q E hr h=>?_)
 have hu:=hr.units;have hgd:=hr.gd
 refine Gm (Ae (Ed (Lz hu (Aq d28 hr (Ad (qv 0) (Ad Af Ac))) Af) (Ah (Av (Cj (Kq:=K) rfl (Ei (Ad (Ji (Mp Af Af) Af) (Ad (Ji Af (Mp Af Af)) (Ad (Mp Af Af) (Ad Af Ac))))) (Aq d28 hr (Ad (qv 0) (Ad Af Ac))) Jg))) Bt)
  (Ah (Av (Ji (Aq d28 hr (Ad (qv 0) (Ad Af Ac))) Af)))) ?_
 exact Bw (by unfold Nt;walk_at "m") h
abbrev yT7 (P w K mg base):=Def P w K mg base "_law_value" 2 [lH] (spP K Dc)
theorem A8v (F:Fun K "_law_pool" "_law_pool" Af5 f fd) (d31:yT7 P w K mg base) (zH:mg "range" = none):FnOk P w K mg base CX0 3 f fd [lH, lJ] (spP K Mq):=by
 refine F.ok yQ (λ_ _ _ _=>Bv) (λcdv A outer s H vs Q E hr h=>?_)
 have hu:=hr.units;have hgd:=hr.gd
 refine Gm (Ae (Bb (i:=2) yQ.nd (Ei Ac))
  (Ae (Kf PassesOwn.never rfl (Jl rfl zH (Ad (qv 1) Ac)) (Bc (i:=3) yQ.nd) (Ae (Bb (i:=4) yQ.nd (Aq d31 hr (Ad (qv 0) Ac)))
  (Ah (Ed (O7 hu (qv 4) (qv 2) (by with_unfolding_all rfl)) (Ah (Ex (Gu (Kq:=K) rfl (qv 2) (qv 4)))) Bt))))
  (Ah (Av (qv 2))))) ?_
 exact Bw (by unfold Wl;walk_at "m") h
theorem A1a (F:Fun K "_law_tuples" "_law_tuples" Ue f fd) (d28:yT0 P w K mg base) (d33:Def P w K mg base "_law_pool" 3 [lH, lJ] (spP K Mq)) (zE:mg "len" = none) (zH:mg "range" = none) (zB:mg "tuple" = none):FnOk P w K mg base CX0 4 f fd [lH, lM, lJ] (spP K Jh):=by
 refine F.ok yG (λ_ _ _ _=>Bv) (λcdv A outer s H vs Q E hr h=>?_)
 have hu:=hr.units;have hgd:=hr.gd
 refine Gm (Ae (Bb (i:=3) yG.nd (Aq d33 hr (Ad (qv 0) (Ad Af Ac))))
  (Ae (Bb (i:=4) yG.nd (Ei Ac))
  (Ae (Kf PassesOwn.never rfl (Jl rfl zH (Ad (qv 2) Ac)) (Bc (i:=5) yG.nd) (Ae (Bb (i:=6) yG.nd (Bh (Kq:=K) rfl rfl zB (Ad (by exact(Jk (N':=[lQ, "_law_pool_here", lH]) (idx:=[none,some 3,some 0]) Fj rfl (Jl rfl zH (Ad (qv 1) Ac)) (λ_ _ _ _ _=>by exact(Bc (i:=0) (by show ([lQ, "_law_pool_here", lH]:v_).Nodup;decide +kernel))) qtN (λ_ _ _ _ _=>by exact(Cj (Kq:=K) rfl (qv 1) (Aq d28 hr (Ad (qv 2) (Ad (Gk (Kq:=K) rfl rfl zE (Ad (qv 1) Ac)) Ac))) Jg)))) Ac)))
  (Ah (Ed (O7 hu (qv 6) (qv 4) (by with_unfolding_all rfl)) (Ah (Ex (Gu (Kq:=K) rfl (qv 4) (qv 6)))) Bt))))
  (Ah (Av (qv 4)))))) ?_
 exact Bw (by unfold Q9;walk_at "m") h
theorem A8k (F:Fun K "_law_wide" "_law_wide" Zx f fd) (d28:yT0 P w K mg base) (d29:Def P w K mg base "_law_many" 2 [lH, "_law_least", "_law_few", "_law_most"] (spP K Kd)) (d30:Def P w K mg base "_law_names" 2 [lH, lJ] (spP K J9)) (d31:yT7 P w K mg base) (d32:Def P w K mg base "_law_number" 2 [lH] (spP K Eg)) (d34:Def P w K mg base "_law_tuples" 4 [lH, lM, lJ] (spP K Jh)) (zB:mg "tuple" = none):FnOk P w K mg base CX0 5 f fd [lH, "_law_numbers"] (spP K O2):=by
 refine F.ok zN (λ_ _ _ _=>Bv) (λcdv A outer s H vs Q E hr h=>?_)
 have hu:=hr.units;have hgd:=hr.gd
 refine Gm (Ae (Bb (i:=2) zN.nd (Aq d30 hr (Ad (qv 0) (Ad Af Ac))))
  (Ae (Br0 (i:=3) (j:=4) (k:=5) rfl zN.nd rfl rfl rfl (by decide) (by decide) (by decide) rfl rfl rfl (Ad (Aq d28 hr (Ad (qv 0) (Ad Af Ac))) (Ad (Aq d28 hr (Ad (qv 0) (Ad Af Ac))) (Ad (Bf Af (Aq d28 hr (Ad (qv 0) (Ad Af Ac)))) Ac))) rfl)
  (Ae (Ed (Lz hu (Aq d28 hr (Ad (qv 0) (Ad Af Ac))) Af) (Ah (Bb (i:=5) zN.nd (Bf Af (Aq d28 hr (Ad (qv 0) (Ad Af Ac)))))) Bt)
  (Ae (A4s (i:=6) (j:=7) rfl zN.nd rfl rfl (by decide) rfl rfl (Ad (Io (Kq:=K) rfl (qv 2) Hk (Cw (qv 3))) (Ad (Io (Kq:=K) rfl (qv 2) (Cw (qv 3)) (Cw (Bf (qv 3) (qv 4)))) Ac)) rfl)
  (Ae (Bb (i:=8) zN.nd (Io (Kq:=K) rfl (qv 2) (Cw (Bf (qv 3) (qv 4))) (Cw (Bf (Bf (qv 3) (qv 4)) (qv 5)))))
  (Ae (Bb (i:=9) zN.nd (Aq d34 hr (Ad (qv 0) (Ad (qv 4) (Ad (Aq d29 hr (Ad (qv 0) (Ad Af (Ad Af (Ad Af Ac))))) Ac)))))
  (Ae (Bb (i:=10) zN.nd (Cj (Kq:=K) rfl (Ei (Ad Af (Ad Af (Ad Af Ac)))) (Aq d28 hr (Ad (qv 0) (Ad Af Ac))) Jg))
  (Ae (Bb (i:=11) zN.nd (Ei Ac))
  (Ae (Kf PassesOwn.never rfl (Gq (Kq:=K) rfl (Aq d34 hr (Ad (qv 0) (Ad (qv 3) (Ad (Aq d29 hr (Ad (qv 0) (Ad Af (Ad Af (Ad Af Ac))))) Ac))))) (Bc (i:=12) zN.nd) (Ae (Bb (i:=13) zN.nd (Ei Ac))
  (Ae (Kf PassesOwn.never rfl (Gq (Kq:=K) rfl (qv 9)) (Bc (i:=14) zN.nd) (Ae (Bb (i:=15) zN.nd (Bh (Kq:=K) rfl rfl zB (Ad (by exact(Jk (N':=["_law_name", "_law_numbers", lH]) (idx:=[none,some 1,some 0]) Fj rfl (Gq (Kq:=K) rfl (qv 8)) (λ_ _ _ _ _=>by exact(Bc (i:=0) (by show (["_law_name", "_law_numbers", lH]:v_).Nodup;decide +kernel))) qtN (λ_ _ _ _ _=>by exact(Nj (Gj (qv 1)) (Aq d32 hr (Ad (qv 2) Ac)) (Aq d31 hr (Ad (qv 2) Ac)))))) Ac)))
  (Ah (Ex (Gu (Kq:=K) rfl (qv 13) (Nj (Lz hu (Aq d28 hr (Ad (qv 0) (Ad (qv 10) Ac))) Af) Le (qv 15)))))))
  (Ah (Ex (Gu (Kq:=K) rfl (qv 11) (Ec (Ad (qv 12) (Ad (Bh (Kq:=K) rfl rfl zB (Ad (qv 13) Ac)) Ac)))))))))
  (Ah (Av (Ec (Ad (Bh (Kq:=K) rfl rfl zB (Ad (qv 6) Ac)) (Ad (Bh (Kq:=K) rfl rfl zB (Ad (qv 7) Ac)) (Ad (Bh (Kq:=K) rfl rfl zB (Ad (qv 8) Ac)) (Ad (Bh (Kq:=K) rfl rfl zB (Ad (qv 9) Ac)) (Ad (Bh (Kq:=K) rfl rfl zB (Ad (qv 11) Ac)) Ac))))))))))))))))) ?_
 exact Bw (by unfold S7;walk_at "m") h
theorem Yl (F:Fun K "_law_value_text" "_law_value_text" Ni f fd) (zO:mg "int" = none) (zA:mg "isinstance" = none) (zL:mg "str" = none):FnOk P w K mg base CX0 1 f fd [lP] (spP K Ef):=by
 refine F.ok Yh (λ_ _ _ _=>Bv) (λcdv A outer s H vs Q E hr h=>?_)
 have hu:=hr.units;have hgd:=hr.gd
 refine Gm (Ae (Ed (Oq (qv 0) Le) (Ah (Av Bd)) Bt)
  (Ae (Ed (Gj (Cd (Kq:=K) rfl rfl zA (Ad (qv 0) (Ad (Ep (v:=.ty "str") rfl zL Rx rfl) Ac)))) (Ah (Av (Bf (Bf Bd (K1 (Kq:=K) rfl bH cP cQ (Kv rfl) Bd (Ad (by exact(Jk (N':=["_law_sign_here"]) (idx:=[none]) Fj rfl (At5 (qv 0)) (λ_ _ _ _ _=>by exact(Bc (i:=0) (by show (["_law_sign_here"]:v_).Nodup;decide +kernel))) qtN (λ_ _ _ _ _=>by exact(Bf (A5o Bd (Qa (Kq:=K) rfl rfl zO (Ad (Bb0 hu (qv 0) Bd (by with_unfolding_all rfl)) Ac))) (qv 0))))) Ac))) Bd))) Bt)
  (Ah (Av (Bm7 (Kq:=K) rfl hu hgd rfl zL (Ad (qv 0) Ac)))))) ?_
 exact Bw (Dw (Z9 (Hx (Cp Ai (Dh rfl) Ax2)) (Hn (Dh rfl)) Qf)
  (Dw (Z9 (Bd0 (Bh4 .str Ai)) (Hn (Cp (Cp (Dh rfl) (J2 (Dh rfl) (R8 (by decide) (A4w Ai) Bk M7 (Cp (Cp (Dh rfl) (K4 (Cp Ai (Dh rfl) A3l) A6t) Az3) Ai Dr)) Hm Hq) Dr) (Dh rfl) Dr)) Qf)
  (Hn (K4 Ai Aw3)))) h
theorem A3m (F:Fun K "_law_words" "_law_words" Xp f fd) (d36:Def P w K mg base "_law_value_text" 1 [lP] (spP K Ef)):FnOk P w K mg base CX0 2 f fd ["_law_values"] (spP K Fo):=by
 refine F.ok A2r (λ_ _ _ _=>Bv) (λcdv A outer s H vs Q E hr h=>?_)
 have hu:=hr.units;have hgd:=hr.gd
 refine Gm (Ah (Av (by exact(Jk (N':=[lP]) (idx:=[none]) Fj rfl (Gq (Kq:=K) rfl (qv 0)) (λ_ _ _ _ _=>by exact(Bc (i:=0) (by show ([lP]:v_).Nodup;decide +kernel))) qtN (λ_ _ _ _ _=>by exact(Aq d36 hr (Ad (qv 0) Ac))))))) ?_
 exact Bw (by unfold Ud;walk_at "m") h
theorem Ae6 (F:Fun K "_law_wide_text" "_law_wide_text" Oc f fd) (d37:Def P w K mg base "_law_words" 2 ["_law_values"] (spP K Fo)) (zY:mg "list" = none):FnOk P w K mg base CX0 3 f fd [lM] (spP K Jy):=by
 refine F.ok zG (λ_ _ _ _=>Bv) (λcdv A outer s H vs Q E hr h=>?_)
 have hu:=hr.units;have hgd:=hr.gd
 refine Gm (Ae (Ar1 (qv 0) (Uq (Kq:=K) rfl (n:=5) rfl (Er (Bc (i:=1) zG.nd) (Er (Bc (i:=2) zG.nd) (Er (Bc (i:=3) zG.nd) (Er (Bc (i:=4) zG.nd) (Er (Bc (i:=5) zG.nd) Qm)))))))
  (Ae (Bb (i:=6) zG.nd (Ei (Ad (K1 (Kq:=K) rfl bH cP cQ (Kv rfl) Bd (Ad (Bf (Bf (Bf (Bf (Bf (Ei (Ad Bd Ac)) (Lk (Kq:=K) rfl rfl zY (Ad (qv 1) Ac))) (Ei (Ad Bd Ac))) (Lk (Kq:=K) rfl rfl zY (Ad (qv 2) Ac))) (Ei (Ad Bd Ac))) (Lk (Kq:=K) rfl rfl zY (Ad (qv 3) Ac))) Ac)) Ac)))
  (Ae (Bb (i:=6) zG.nd (Bf (qv 6) (by exact(Jk (N':=["_law_head"]) (idx:=[none]) Fj rfl (Gq (Kq:=K) rfl (qv 4)) (λ_ _ _ _ _=>by exact(Bc (i:=0) (by show (["_law_head"]:v_).Nodup;decide +kernel))) qtN (λ_ _ _ _ _=>by exact(K1 (Kq:=K) rfl bH cP cQ (Kv rfl) Bd (Ad (Bf (Ei (Ad Bd Ac)) (Aq d37 hr (Ad (qv 0) Ac))) Ac)))))))
  (Ae (Kf PassesOwn.never rfl (Gq (Kq:=K) rfl (qv 5)) (Uq (Kq:=K) rfl (n:=2) rfl (Er (Bc (i:=7) zG.nd) (Er (Bc (i:=8) zG.nd) Qm))) (Ae (Bb (i:=9) zG.nd (Bf (Ei (Ad Bd Ac)) (Aq d37 hr (Ad (qv 7) Ac))))
  (Ae (Kf PassesOwn.never rfl (Gq (Kq:=K) rfl (qv 8)) (Bc (i:=10) zG.nd) (Ah (Bb (i:=9) zG.nd (Bf (Bf (qv 9) (Ei (Ad Bd Ac))) (Nj (Oq (qv 10) Le) (Ei (Ad Bd Ac)) (Aq d37 hr (Ad (qv 10) Ac)))))))
  (Ah (Ex (Gu (Kq:=K) rfl (qv 6) (K1 (Kq:=K) rfl bH cP cQ (Kv rfl) Bd (Ad (qv 9) Ac))))))))
  (Ah (Av (K1 (Kq:=K) rfl bH cP cQ (Kv rfl) Bd (Ad (qv 6) Ac)))))))) ?_
 exact Bw (Dw (G6 Ai (Ab1 (Ha Bk (Ha Bk (Ha Bk (Ha Bk (Ha Bk U4)))))))
  (Dw (G6 (J0 (An (J2 (Dh rfl) (Cp (Cp (Cp (Cp (Cp (J0 (An (Dh rfl) Ca)) (K4 Ai U7) Dr) (J0 (An (Dh rfl) Ca)) Dr) (K4 Ai U7) Dr) (J0 (An (Dh rfl) Ca)) Dr) (K4 Ai U7) Dr) Hm Hq) Ca)) Bk)
  (Dw (G6 (Cp Ai (R8 (by decide) (Oa Ai) Bk M7 (J2 (Dh rfl) (Cp (J0 (An (Dh rfl) Ca)) (Df (An Ai Ca)) Dr) Hm Hq)) Dr) Bk)
  (Dw (Ar4 (Oa Ai) (Ab1 (Ha Bk (Ha Bk U4))) (Dw (G6 (Cp (J0 (An (Dh rfl) Ca)) (Df (An Ai Ca)) Dr) Bk)
  (Dw (Ar4 (Oa Ai) Bk (G6 (Cp (Cp Ai (J0 (An (Dh rfl) Ca)) Dr) (Ap5 (Hx (Cp Ai (Dh rfl) Ax2)) (J0 (An (Dh rfl) Ca)) (Df (An Ai Ca))) Dr) Bk))
  (Sv (Aw8 Ai (J2 (Dh rfl) Ai Hm Hq))))))
  (Hn (J2 (Dh rfl) Ai Hm Hq)))))) h
theorem A8s {n:Nat}(F:Fun K "_law_same" "_law_same" U9 f fd) (d39:Def P w K mg base "_law_same" (n) [lN, "_law_due"] (spP K (Cz n))) (zR:mg "all" = none) (yC:mg "bool" = none) (zO:mg "int" = none) (zA:mg "isinstance" = none) (zE:mg "len" = none) (zY:mg "list" = none) (zL:mg "str" = none) (zB:mg "tuple" = none) (yV:mg "zip" = none):FnOk P w K mg base CX0 (n+1) f fd [lN, "_law_due"] (spP K (Cz (n+1))):=by
 refine F.ok A8a (λ_ _ _ _=>Bv) (λcdv A outer s H vs Q E hr h=>?_)
 have hu:=hr.units;have hgd:=hr.gd
 refine Gm (Ae (Ed (Gj (As0 (Kq:=K) rfl rfl zA (Ad (qv 1) (Ad (Ec (Ad (Ep (v:=.ty "list") rfl zY Zd rfl) (Ad (Ep (v:=.ty "tuple") rfl zB K3 rfl) Ac))) Ac)))) (Ae (Ed (QW.qt (Am6 (An7 hu (Cd (Kq:=K) rfl rfl zA (Ad (qv 0) (Ad (Ep (v:=.ty "list") rfl zY Zd rfl) Ac))) (Cd (Kq:=K) rfl rfl zA (Ad (qv 1) (Ad (Ep (v:=.ty "list") rfl zY Zd rfl) Ac)))) (Aa8 (An7 hu (Cd (Kq:=K) rfl rfl zA (Ad (qv 0) (Ad (Ep (v:=.ty "tuple") rfl zB K3 rfl) Ac))) (Cd (Kq:=K) rfl rfl zA (Ad (qv 1) (Ad (Ep (v:=.ty "tuple") rfl zB K3 rfl) Ac))))))) (Ah (Av Mw)) Bt)
  (Ah (Av (Lh (J3 hu (Gk (Kq:=K) rfl rfl zE (Ad (qv 0) Ac)) (Gk (Kq:=K) rfl rfl zE (Ad (qv 1) Ac))) (Km (Ig (Kq:=K) rfl rfl rfl zR (Ad (by exact(Jk (N':=["_law_one", "_law_other"]) (idx:=[none,none]) Fj rfl (B2u rfl yV (Ad (qv 0) (Ad (qv 1) Ac))) (λ_ _ _ _ _=>by exact(Uq (Kq:=K) rfl (n:=2) rfl (Er (Bc (i:=0) (by show (["_law_one", "_law_other"]:v_).Nodup;decide +kernel)) (Er (Bc (i:=1) (by show (["_law_one", "_law_other"]:v_).Nodup;decide +kernel)) Qm)))) qtN (λ_ _ _ _ _=>by exact(Aq d39 hr (Ad (qv 0) (Ad (qv 1) Ac)))))) Ac))))))) Bt)
  (Ae (Ed (QW.qt (Am6 (Oq (qv 1) Le) (Aa8 (Gj (Cd (Kq:=K) rfl rfl zA (Ad (qv 1) (Ad (Ep (v:=.ty "str") rfl zL Rx rfl) Ac))))))) (Ah (Av (Lh (J3 hu (qv 0) (qv 1)) (Km (J3 hu (Cd (Kq:=K) rfl rfl zA (Ad (qv 0) (Ad (Ep (v:=.ty "str") rfl zL Rx rfl) Ac))) (Cd (Kq:=K) rfl rfl zA (Ad (qv 1) (Ad (Ep (v:=.ty "str") rfl zL Rx rfl) Ac)))))))) Bt)
  (Ae (Ed (Gj (Cd (Kq:=K) rfl rfl zA (Ad (qv 1) (Ad (Ep (v:=.ty "bool") rfl yC Y8 rfl) Ac)))) (Ah (Av (Lh (Cd (Kq:=K) rfl rfl zA (Ad (qv 0) (Ad (Ep (v:=.ty "bool") rfl yC Y8 rfl) Ac))) (Km (J3 hu (qv 0) (qv 1)))))) Bt)
  (Ah (Av (Lh (Cd (Kq:=K) rfl rfl zA (Ad (qv 0) (Ad (Ep (v:=.ty "int") rfl zO At7 rfl) Ac))) (Lh (Aq6 (Cd (Kq:=K) rfl rfl zA (Ad (qv 0) (Ad (Ep (v:=.ty "bool") rfl yC Y8 rfl) Ac)))) (Km (J3 hu (qv 0) (qv 1)))))))))) ?_
 exact Bw (by unfold Ie;walk_at "m") h
theorem Aa4 (F:Fun K "_law_same" "_law_same" U9 f fd) (bF:Binds K fd [lN, "_law_due"] []) (mF:mg "_law_same" = some (.ref f)) (zR:mg "all" = none) (yC:mg "bool" = none) (zO:mg "int" = none) (zA:mg "isinstance" = none) (zE:mg "len" = none) (zY:mg "list" = none) (zL:mg "str" = none) (zB:mg "tuple" = none) (yV:mg "zip" = none):∀n:Nat,FnOk P w K mg base CX0 (n) f fd [lN, "_law_due"] (spP K (Cz n))
 | 0=>Bg1
 | n+1=>A8s F ⟨f,fd,Aa4 F bF mF zR yC zO zA zE zY zL zB yV n,bF,F.kp,mF⟩ zR yC zO zA zE zY zL zB yV
theorem A7y (F:Fun K "_law_sign" "_law_sign" Ae8 f fd) (d28:yT0 P w K mg base) (zE:mg "len" = none):FnOk P w K mg base CX0 2 f fd [lH] (spP K Kr):=by
 refine F.ok yU (λ_ _ _ _=>Bv) (λcdv A outer s H vs Q E hr h=>?_)
 have hu:=hr.units;have hgd:=hr.gd
 refine Gm (Ae (Bb (i:=1) yU.nd Bd)
  (Ae (Bb (i:=1) yU.nd (Bf (qv 1) Bd))
  (Ah (Av (Bg5 (qv 1) (Aq d28 hr (Ad (qv 0) (Ad (Gk (Kq:=K) rfl rfl zE (Ad (qv 1) Ac)) Ac))) Jg))))) ?_
 exact Bw (by unfold Wm;walk_at "m") h
theorem Ai1 (F:Fun K "_law_any_text" "_law_any_text" Qi f fd) (d28:yT0 P w K mg base) (d40:Def P w K mg base "_law_sign" 2 [lH] (spP K Kr)) (zH:mg "range" = none):FnOk P w K mg base CX0 3 f fd [lH] (spP K Dq):=by
 refine F.ok Ai3 (λ_ _ _ _=>Bv) (λcdv A outer s H vs Q E hr h=>?_)
 have hu:=hr.units;have hgd:=hr.gd
 refine Gm (Ah (Av (K1 (Kq:=K) rfl bH cP cQ (Kv rfl) Bd (Ad (by exact(Jk (N':=["_law_turn", lH]) (idx:=[none,some 0]) Fj rfl (Jl rfl zH (Ad (Aq d28 hr (Ad (qv 0) (Ad Af Ac))) Ac)) (λ_ _ _ _ _=>by exact(Bc (i:=0) (by show (["_law_turn", lH]:v_).Nodup;decide +kernel))) qtN (λ_ _ _ _ _=>by exact(Aq d40 hr (Ad (qv 1) Ac))))) Ac)))) ?_
 exact Bw (Hn (J2 (Dh rfl) (R8 (by decide) (Y9 (Df (An Ai (An (Dh rfl) Ca)))) Bk M7 (Df (An Ai Ca))) Hm Hq)) h
theorem Ae9 (F:Fun K "_law_any_names" "_law_any_names" Oe f fd) (d28:yT0 P w K mg base) (zH:mg "range" = none):FnOk P w K mg base CX0 2 f fd [lH, lJ] (spP K Hl):=by
 refine F.ok zW (λ_ _ _ _=>Bv) (λcdv A outer s H vs Q E hr h=>?_)
 have hu:=hr.units;have hgd:=hr.gd
 refine Gm (Ae (Bb (i:=2) zW.nd Bd)
  (Ae (Bb (i:=3) zW.nd (Ei Ac))
  (Ae (Kf PassesOwn.never rfl (Jl rfl zH (Ad (qv 1) Ac)) (Bc (i:=4) zW.nd) (Ae (Bb (i:=5) zW.nd (K1 (Kq:=K) rfl bH cP cQ (Kv rfl) Bd (Ad (by exact(Jk (N':=[lQ, "_law_letters", lH]) (idx:=[none,some 2,some 0]) Fj rfl (Jl rfl zH (Ad (Bf Af (Aq d28 hr (Ad (qv 0) (Ad Af Ac)))) Ac)) (λ_ _ _ _ _=>by exact(Bc (i:=0) (by show ([lQ, "_law_letters", lH]:v_).Nodup;decide +kernel))) qtN (λ_ _ _ _ _=>by exact(Bg5 (qv 1) (Aq d28 hr (Ad (qv 2) (Ad Af Ac))) Jg)))) Ac)))
  (Ah (Ed (O7 hu (qv 5) (qv 3) (by with_unfolding_all rfl)) (Ah (Ex (Gu (Kq:=K) rfl (qv 3) (qv 5)))) Bt))))
  (Ah (Av (qv 3)))))) ?_
 exact Bw (Dw (G6 (Dh rfl) Bk)
  (Dw (G6 (J0 Ca) Bk)
  (Dw (Ar4 (Y9 Ai) Bk (Dw (G6 (J2 (Dh rfl) (R8 (by decide) (Y9 (Cp (Dh rfl) (Df (An Ai (An (Dh rfl) Ca))) Dr)) Bk M7 (Cp Ai (Df (An Ai (An (Dh rfl) Ca))) Bm8)) Hm Hq) Bk)
  (Z9 (Hx (Cp Ai Ai Ak7)) (Sv (Aw8 Ai Ai)) Qf)))
  (Hn Ai)))) h
theorem Ah8 (F:Fun K "_law_lettered" "_law_lettered" Pg f fd) (d41:Def P w K mg base "_law_any_text" 3 [lH] (spP K Dq)) (d42:Def P w K mg base "_law_any_names" 2 [lH, lJ] (spP K Hl)) (zO:mg "int" = none) (zE:mg "len" = none) (zB:mg "tuple" = none):FnOk P w K mg base CX0 4 f fd [lH] (spP K Ks):=by
 refine F.ok zV (λ_ _ _ _=>Bv) (λcdv A outer s H vs Q E hr h=>?_)
 have hu:=hr.units;have hgd:=hr.gd
 refine Gm (Ae (Bb (i:=1) zV.nd (Aq d42 hr (Ad (qv 0) (Ad Af Ac))))
  (Ae (Bb (i:=2) zV.nd (Io (Kq:=K) rfl (Ec (Ad (Ec (Ad (Aq d41 hr (Ad (qv 0) Ac)) Ac)) (Ad (Ec (Ad Af Ac)) Ac))) Hk (Cw (Bf (Qa (Kq:=K) rfl rfl zO (Ad (A1u (Gk (Kq:=K) rfl rfl zE (Ad (qv 1) Ac)) Af) Ac)) Af))))
  (Ae (A4s (i:=3) (j:=4) rfl zV.nd rfl rfl (by decide) rfl rfl (Ad (Bh (Kq:=K) rfl rfl zB (Ad (Io (Kq:=K) rfl (qv 1) (Cw Af) (Cw Af)) Ac)) (Ad (Bh (Kq:=K) rfl rfl zB (Ad (Io (Kq:=K) rfl (qv 1) Hk (Cw Af)) Ac)) Ac)) rfl)
  (Ae (Ed (Lz hu (qv 3) (Ec Ac)) (Ah (Bb (i:=2) zV.nd (Ec (Ad (Ec Ac) Ac)))) Bt)
  (Ae (Bb (i:=5) zV.nd (Bh (Kq:=K) rfl rfl zB (Ad (by exact(Jk (N':=["_law_head", lH]) (idx:=[none,some 0]) Fj rfl (Gq (Kq:=K) rfl (qv 2)) (λ_ _ _ _ _=>by exact(Bc (i:=0) (by show (["_law_head", lH]:v_).Nodup;decide +kernel))) qtN (λ_ _ _ _ _=>by exact(Ec (Ad (Aq d41 hr (Ad (qv 1) Ac)) Ac))))) Ac)))
  (Ah (Av (Ec (Ad (Bh (Kq:=K) rfl rfl zB (Ad (Io (Kq:=K) rfl (qv 1) (Cw Af) (Cw Af)) Ac)) (Ad (qv 3) (Ad (qv 4) (Ad (qv 2) (Ad (Ec (Ad (Ec (Ad (Bx4 (Ec (Ad (Aq d41 hr (Ad (qv 0) Ac)) Ac)) (Gk (Kq:=K) rfl rfl zE (Ad (Io (Kq:=K) rfl (qv 1) (Cw Af) (Cw Af)) Ac))) (Ad (qv 5) Ac))) Ac)) Ac))))))))))))) ?_
 exact Bw (by unfold Kz;walk_at "m") h
theorem B3y (F:Fun K "law" "law" Bk4 f fd) (d12:Def P w K mg base "wide_text" 8 ["wide"] (spP K De)) (d25:Def P w K mg base "wide_from" 9 ["text"] (spP K Hz)) (d27:Def P w K mg base "_law_box" 2 [lK, lQ] (spP K Ri)) (d28:yT0 P w K mg base) (d35:Def P w K mg base "_law_wide" 5 [lH, "_law_numbers"] (spP K O2)) (d38:Def P w K mg base "_law_wide_text" 3 [lM] (spP K Jy)) (d39:Def P w K mg base "_law_same" 6 [lN, "_law_due"] (spP K (Cz 6))) (d43:Def P w K mg base "_law_lettered" 4 [lH] (spP K Ks)) (zE:mg "len" = none) (xH:mg "min" = none) (zH:mg "range" = none):FnOk P w K mg base CX0 10 f fd [lK] (spP K A5c):=by
 refine F.ok yH (λ_ _ _ _=>Bv) (λcdv A outer s H vs Q E hr h=>?_)
 have hu:=hr.units;have hgd:=hr.gd
 refine Gm (Ae (Kf PassesOwn.never rfl (Jl rfl zH (Ad (Bf Af (Ap3 (Kq:=K) rfl rfl rfl xH (Ad Af (Ad (Gk (Kq:=K) rfl rfl zE (Ad (qv 0) Ac)) Ac)))) Ac)) (Bc (i:=1) yH.nd) (Ae (Bb (i:=2) yH.nd (Aq d27 hr (Ad (qv 0) (Ad (qv 1) Ac))))
  (Ae (A4s (i:=3) (j:=4) rfl yH.nd rfl rfl (by decide) rfl rfl (Ad (Aq d35 hr (Ad (qv 2) (Ad Mw Ac))) (Ad (Aq d35 hr (Ad (qv 2) (Ad (J3 hu (Aq d28 hr (Ad (qv 2) (Ad Af Ac))) Af) Ac))) Ac)) rfl)
  (Ae (Bb (i:=5) yH.nd (Aq d43 hr (Ad (qv 2) Ac)))
  (Ae (Kf PassesOwn.never rfl (Gq (Kq:=K) rfl (Ec (Ad (qv 3) (Ad (qv 4) (Ad (qv 3) (Ad (Bf (Io (Kq:=K) rfl (qv 3) Hk (Cw Af)) (Ec (Ad (Ec Ac) Ac))) (Ad (qv 5) Ac))))))) (Bc (i:=6) yH.nd) (Ae (Bb (i:=7) yH.nd (Aq d38 hr (Ad (qv 6) Ac)))
  (Ah (Ed (QW.qt (Am6 (Od (Gj (Aq d39 hr (Ad (Aq d12 hr (Ad (qv 6) Ac)) (Ad (qv 7) Ac))))) (Aa8 (Od (Gj (Aq d39 hr (Ad (Aq d25 hr (Ad (qv 7) Ac)) (Ad (qv 6) Ac)))))))) (Ah (Av Mw)) Bt))))
  (Ae (Ed (An7 hu (J3 hu (Aq d12 hr (Ad (qv 3) Ac)) (Aq d12 hr (Ad (qv 4) Ac))) (J3 hu (qv 3) (qv 4))) (Ah (Av Mw)) Bt)
  (Ah (Ed (QW.qt (Av3 (An7 hu (Cj (Kq:=K) rfl (qv 3) Af Ay) (Ec Ac)) (Zn (An7 hu (Cj (Kq:=K) rfl (qv 3) Af Ay) (Ec Ac))))) (Ae (Ar1 (Cj (Kq:=K) rfl (Cj (Kq:=K) rfl (qv 3) Af Ay) Af Ay) (Uq (Kq:=K) rfl (n:=2) rfl (Er (Bc (i:=8) yH.nd) (Er (Bc (i:=9) yH.nd) Qm))))
  (Ae (Bb (i:=10) yH.nd (Bf (Io (Kq:=K) rfl (qv 3) Hk (Cw Af)) (Ec (Ad (Bf (Ec (Ad (Ec (Ad (qv 8) (Ad (Bf (Ec (Ad Le Ac)) (Io (Kq:=K) rfl (qv 9) (Cw Af) Hk)) Ac))) Ac)) (Io (Kq:=K) rfl (Cj (Kq:=K) rfl (qv 3) Af Ay) (Cw Af) Hk)) Ac))))
  (Ae (Ed (An7 hu (J3 hu (Aq d12 hr (Ad (qv 10) Ac)) (Aq d12 hr (Ad (qv 3) Ac))) (Am7 (Cj (Kq:=K) rfl (qv 9) Af Ay) Le)) (Ah (Av Mw)) Bt)
  (Ah (Ed (Od (Gj (Aq d39 hr (Ad (Aq d25 hr (Ad (Aq d12 hr (Ad (qv 10) Ac)) Ac)) (Ad (qv 10) Ac))))) (Ah (Av Mw)) Bt))))) Bt))))))))
  (Ah (Av Mw))) ?_
 exact Bw (by unfold Ap4;unfold Vh;unfold Jr;walk_at "m") h
end
theorem lnS {us:v4}(h:us.length=n+1):∃x r,us=x::r/\r.length=n:=by
 cases us with
 | nil=>grind
 | cons x r=>grind
theorem ln1 {us:v4}(h:us.length=1):∃x0,us=[x0]:=by
 obtain⟨x,r,a,b⟩:=lnS h
 simp_all
theorem ln2 {us:v4}(h:us.length=2):∃c b,us=[c,b]:=by
 obtain⟨c,r,a,d⟩:=lnS h;obtain⟨b,a⟩:=ln1 d
 grind
theorem ln3 {us:v4}(h:us.length=3):∃c d b,us=[c,d,b]:=by
 obtain⟨c,r,a,e⟩:=lnS h;obtain⟨d,b,a⟩:=ln2 e
 grind
theorem ln4 {us:v4}(h:us.length=4):∃c d e b,us=[c,d,e,b]:=by
 obtain⟨c,r,a,f⟩:=lnS h;obtain⟨d,e,b,a⟩:=ln3 f
 grind
theorem _root_.bi {st:Stmt}(F:L2.Fun K x qual st f d)(ps:v_)(h:∀(i b e:Value) (g:Option Addr) (a c:Value) (us:v4),us.length=ps.length->bindArgs (PySem.W.fnOf x qual (Nu st) (Kw st) (Ak st) .none i b e g a c) ⟨us,[]⟩=pure (ps.zip us):=by intro _ _ _ _ _ _ us hl;first | (obtain⟨_,rfl⟩:=ln1 hl;rfl) | (obtain⟨_,_,rfl⟩:=ln2 hl;rfl) | (obtain⟨_,_,_,rfl⟩:=ln3 hl;rfl) | (obtain⟨_,_,_,_,rfl⟩:=ln4 hl;rfl)):L2.Binds K d ps []:=F.binds h
theorem mkD (a:FnOk P w K mg base CX0 k f d ps sp) (b:Binds K d ps []) (c:PySem.W.keepIn K (.ref f)=true) (g:mg x=some (.ref f)):Def P w K mg base x k ps sp:=⟨f,d,a,b,c,g⟩
theorem Bu (T:PyProof.Rows.Top q loose g mg j h) (k:∀a o,h.get? a=some o->Lg o=true->o.data≠.fields #[]->K.lookup a=some o) (l:(PyProof.Rows.recsOf q).map (λd=>(d.name,d.params,d.body,d.scope))=L) {i:Nat} (e:L[i]?=some (x,Nu st,Kw st,Ak st)):∃f fd,Fun K x x st f fd/\mg x=some (.ref f):=by
 obtain⟨d,m,rfl,a,b,c⟩:=Bj8 l e;exact Bx2 T k m a b c
abbrev rr (x:Str)(i:Nat):Str×Arguments×List Stmt×Scope:=(x,Nu (top i),Kw (top i),Ak (top i))
theorem B3t {l:PySem.W.OpenLaw}{w:World}{q:p7}{loose:v_}{mean:ExcName->p_}{mg mb:x_}{h:Heap}{fa:Addr}(T:PyProof.Rows.Top q loose mean mg mb h)(hfa:mg "law" = some (.ref fa))
 (hlaw:∀ns:List Int,ns.length<=63->A5c [.sc ns]=.ret (.im (.bool true)) [.sc ns])
 (hR:(PyProof.Rows.recsOf q).map (λd=>(d.name,d.params,d.body,d.scope))=[rr "has_plain_signs" 4,rr "is_value" 5,rr "is_name" 9,rr "are_columns" 10,rr "are_wide_columns" 12,rr "one_with_noughts" 16,rr "number_written" 17,rr "text_written" 18,rr "value_written" 19,rr "row_written" 20,rr "cell_written" 21,rr "part_written" 22,rr "wide_text" 23,rr "check_row" 24,rr "pieces_of" 25,rr "text_read" 26,rr "number_of_figures" 27,rr "number_read" 28,rr "value_read" 29,rr "values_read" 30,rr "rows_in_pieces" 31,rr "between" 32,rr "wide_columns_read" 33,rr "cell_read" 34,rr "part_read" 35,rr "wide_from" 36,rr "_law_cell_at" 38,rr "_law_box" 39,rr "_law_take" 40,rr "_law_many" 41,rr "_law_names" 42,rr "_law_value" 43,rr "_law_number" 44,rr "_law_pool" 45,rr "_law_tuples" 46,rr "_law_wide" 47,rr "_law_value_text" 48,rr "_law_words" 49,rr "_law_wide_text" 50,rr "_law_same" 51,rr "_law_sign" 52,rr "_law_any_text" 53,rr "_law_any_names" 54,rr "_law_lettered" 55,rr "law" 56])
 (hB:(["abs", "all", "bool", "enumerate", "int", "isinstance", "len", "list", "min", "range", "reversed", "set", "str", "tuple", "zip"]:v_).all (Bl4 q loose [("has_plain_signs" : Str),("is_value" : Str),("is_name" : Str),("are_columns" : Str),("are_wide_columns" : Str),("one_with_noughts" : Str),("number_written" : Str),("text_written" : Str),("value_written" : Str),("row_written" : Str),("cell_written" : Str),("part_written" : Str),("wide_text" : Str),("check_row" : Str),("pieces_of" : Str),("text_read" : Str),("number_of_figures" : Str),("number_read" : Str),("value_read" : Str),("values_read" : Str),("rows_in_pieces" : Str),("between" : Str),("wide_columns_read" : Str),("cell_read" : Str),("part_read" : Str),("wide_from" : Str),("_law_cell_at" : Str),("_law_box" : Str),("_law_take" : Str),("_law_many" : Str),("_law_names" : Str),("_law_value" : Str),("_law_number" : Str),("_law_pool" : Str),("_law_tuples" : Str),("_law_wide" : Str),("_law_value_text" : Str),("_law_words" : Str),("_law_wide_text" : Str),("_law_same" : Str),("_law_sign" : Str),("_law_any_text" : Str),("_law_any_names" : Str),("_law_lettered" : Str),("law" : Str)])=true)
 (hc_FIGURES:PyProof.Rows.valOf q "FIGURES" = some (PyData.str "0123456789"))
 (hc_FIGURES_AT_ONCE:PyProof.Rows.valOf q "FIGURES_AT_ONCE" = some (PyData.int 64))
 (hc_LETTERS:PyProof.Rows.valOf q "LETTERS" = some (PyData.str "abcdefghijklmnopqrstuvwxyz"))
 (hc_LONGEST_NAME:PyProof.Rows.valOf q "LONGEST_NAME" = some (PyData.int 8)) :
 ∃(K:q9) (fd:p6),K.In h/\TabAt K h/\(∀(s:o4) (v:Value),BindsTo s fd ⟨[v],[]⟩ [("_law_script",v)])/\∀base:Heap,K.In base->base.Ns mainGlobals mg->FnOk l.prog w K mg base CX0 10 fa fd [lK] (Bd5 K):=by
 obtain⟨kin,tab,_,hK⟩:=B6h (h:=h) (tabs:=[]) (λt m=>nomatch m) (λt m=>nomatch m)
 generalize U8 h []=K at *
 obtain⟨f1,fd1,F1,g1⟩:=Bu T hK hR (st:=J1) (i:=0) rfl;have b1:=bi F1 ["text"];obtain⟨f2,fd2,F2,g2⟩:=Bu T hK hR (st:=Uc) (i:=1) rfl;have b2:=bi F2 ["thing"];obtain⟨f3,fd3,F3,g3⟩:=Bu T hK hR (st:=Wn) (i:=2) rfl;have b3:=bi F3 ["thing"];obtain⟨f4,fd4,F4,g4⟩:=Bu T hK hR (st:=Om) (i:=3) rfl;have b4:=bi F4 ["thing"];obtain⟨f5,fd5,F5,g5⟩:=Bu T hK hR (st:=Je) (i:=4) rfl;have b5:=bi F5 ["key", "names", "values"];obtain⟨f6,fd6,F6,g6⟩:=Bu T hK hR (st:=Jd) (i:=5) rfl;have b6:=bi F6 ["many"];obtain⟨f7,fd7,F7,g7⟩:=Bu T hK hR (st:=Ia) (i:=6) rfl;have b7:=bi F7 ["number"];obtain⟨f8,fd8,F8,g8⟩:=Bu T hK hR (st:=M3) (i:=7) rfl;have b8:=bi F8 ["text"];obtain⟨f9,fd9,F9,g9⟩:=Bu T hK hR (st:=Lq) (i:=8) rfl;have b9:=bi F9 ["value"];obtain⟨f10,fd10,F10,g10⟩:=Bu T hK hR (st:=Og) (i:=9) rfl;have b10:=bi F10 ["word", "values"];obtain⟨f11,fd11,F11,g11⟩:=Bu T hK hR (st:=Mz) (i:=10) rfl;have b11:=bi F11 ["cell"];obtain⟨f12,fd12,F12,g12⟩:=Bu T hK hR (st:=M8) (i:=11) rfl;have b12:=bi F12 ["part", "cells"];obtain⟨f13,fd13,F13,g13⟩:=Bu T hK hR (st:=Rt) (i:=12) rfl;have b13:=bi F13 ["wide"];obtain⟨f14,fd14,F14,g14⟩:=Bu T hK hR (st:=Q3) (i:=13) rfl;have b14:=bi F14 ["right", "row_number"];obtain⟨f15,fd15,F15,g15⟩:=Bu T hK hR (st:=Rr) (i:=14) rfl;have b15:=bi F15 ["row"];obtain⟨f16,fd16,F16,g16⟩:=Bu T hK hR (st:=Q0) (i:=15) rfl;have b16:=bi F16 ["piece", "row_number"];obtain⟨f17,fd17,F17,g17⟩:=Bu T hK hR (st:=Ir) (i:=16) rfl;have b17:=bi F17 ["figures"];obtain⟨f18,fd18,F18,g18⟩:=Bu T hK hR (st:=Oj) (i:=17) rfl;have b18:=bi F18 ["piece", "row_number"];obtain⟨f19,fd19,F19,g19⟩:=Bu T hK hR (st:=O6) (i:=18) rfl;have b19:=bi F19 ["piece", "row_number"];obtain⟨f20,fd20,F20,g20⟩:=Bu T hK hR (st:=Ob) (i:=19) rfl;have b20:=bi F20 ["pieces", "width", "row_number"];obtain⟨f21,fd21,F21,g21⟩:=Bu T hK hR (st:=Kg) (i:=20) rfl;have b21:=bi F21 ["text"];obtain⟨f22,fd22,F22,g22⟩:=Bu T hK hR (st:=Wr) (i:=21) rfl;have b22:=bi F22 ["pieces", "mark"];obtain⟨f23,fd23,F23,g23⟩:=Bu T hK hR (st:=Ip) (i:=22) rfl;have b23:=bi F23 ["pieces"];obtain⟨f24,fd24,F24,g24⟩:=Bu T hK hR (st:=Sg) (i:=23) rfl;have b24:=bi F24 ["pieces", "width", "row_number"];obtain⟨f25,fd25,F25,g25⟩:=Bu T hK hR (st:=Sd) (i:=24) rfl;have b25:=bi F25 ["pieces", "columns", "many", "row_number"];obtain⟨f26,fd26,F26,g26⟩:=Bu T hK hR (st:=Rw) (i:=25) rfl;have b26:=bi F26 ["text"];obtain⟨f27,fd27,F27,g27⟩:=Bu T hK hR (st:=Ss) (i:=26) rfl;have b27:=bi F27 [lK, lQ];obtain⟨f28,fd28,F28,g28⟩:=Bu T hK hR (st:=As1) (i:=27) rfl;have b28:=bi F28 [lK, lQ];obtain⟨f29,fd29,F29,g29⟩:=Bu T hK hR (st:=Ag1) (i:=28) rfl;have b29:=bi F29 [lH, lJ];obtain⟨f30,fd30,F30,g30⟩:=Bu T hK hR (st:=Ac1) (i:=29) rfl;have b30:=bi F30 [lH, "_law_least", "_law_few", "_law_most"];obtain⟨f31,fd31,F31,g31⟩:=Bu T hK hR (st:=Xi) (i:=30) rfl;have b31:=bi F31 [lH, lJ];obtain⟨f32,fd32,F32,g32⟩:=Bu T hK hR (st:=Xg) (i:=31) rfl;have b32:=bi F32 [lH];obtain⟨f33,fd33,F33,g33⟩:=Bu T hK hR (st:=Ug) (i:=32) rfl;have b33:=bi F33 [lH];obtain⟨f34,fd34,F34,g34⟩:=Bu T hK hR (st:=Af5) (i:=33) rfl;have b34:=bi F34 [lH, lJ];obtain⟨f35,fd35,F35,g35⟩:=Bu T hK hR (st:=Ue) (i:=34) rfl;have b35:=bi F35 [lH, lM, lJ];obtain⟨f36,fd36,F36,g36⟩:=Bu T hK hR (st:=Zx) (i:=35) rfl;have b36:=bi F36 [lH, "_law_numbers"];obtain⟨f37,fd37,F37,g37⟩:=Bu T hK hR (st:=Ni) (i:=36) rfl;have b37:=bi F37 [lP];obtain⟨f38,fd38,F38,g38⟩:=Bu T hK hR (st:=Xp) (i:=37) rfl;have b38:=bi F38 ["_law_values"];obtain⟨f39,fd39,F39,g39⟩:=Bu T hK hR (st:=Oc) (i:=38) rfl;have b39:=bi F39 [lM];obtain⟨f40,fd40,F40,g40⟩:=Bu T hK hR (st:=U9) (i:=39) rfl;have b40:=bi F40 [lN, "_law_due"];obtain⟨f41,fd41,F41,g41⟩:=Bu T hK hR (st:=Ae8) (i:=40) rfl;have b41:=bi F41 [lH];obtain⟨f42,fd42,F42,g42⟩:=Bu T hK hR (st:=Qi) (i:=41) rfl;have b42:=bi F42 [lH];obtain⟨f43,fd43,F43,g43⟩:=Bu T hK hR (st:=Oe) (i:=42) rfl;have b43:=bi F43 [lH, lJ];obtain⟨f44,fd44,F44,g44⟩:=Bu T hK hR (st:=Pg) (i:=43) rfl;have b44:=bi F44 [lH];obtain⟨f45,fd45,F45,g45⟩:=Bu T hK hR (st:=Bk4) (i:=44) rfl;have b45:=bi F45 [lK]
 have yZ:=Fx (x := "abs") T (Em hR) hB (by simp)
 have zR:=Fx (x := "all") T (Em hR) hB (by simp)
 have yC:=Fx (x := "bool") T (Em hR) hB (by simp)
 have zZ:=Fx (x := "enumerate") T (Em hR) hB (by simp)
 have zO:=Fx (x := "int") T (Em hR) hB (by simp)
 have zA:=Fx (x := "isinstance") T (Em hR) hB (by simp)
 have zE:=Fx (x := "len") T (Em hR) hB (by simp)
 have zY:=Fx (x := "list") T (Em hR) hB (by simp)
 have xH:=Fx (x := "min") T (Em hR) hB (by simp)
 have zH:=Fx (x := "range") T (Em hR) hB (by simp)
 have yE:=Fx (x := "reversed") T (Em hR) hB (by simp)
 have xG:=Fx (x := "set") T (Em hR) hB (by simp)
 have zL:=Fx (x := "str") T (Em hR) hB (by simp)
 have zB:=Fx (x := "tuple") T (Em hR) hB (by simp)
 have yV:=Fx (x := "zip") T (Em hR) hB (by simp)
 have yM:∃t,mg "FIGURES" = some (Value.str "0123456789" t):=Ak8 T hc_FIGURES;have zF:∃t,mg "FIGURES_AT_ONCE" = some (Value.int 64 t):=const_int T hc_FIGURES_AT_ONCE;have yL:∃t,mg "LETTERS" = some (Value.str "abcdefghijklmnopqrstuvwxyz" t):=Ak8 T hc_LETTERS;have zX:∃t,mg "LONGEST_NAME" = some (Value.int 8 t):=const_int T hc_LONGEST_NAME;have e:=hfa.symm.trans g45
 cases e
 refine⟨K,fd45,kin,tab,Bf7 F45 (λkV dc pm an cd ct s v=>.of_eq rfl),λbase _ _=>?_⟩
 have M:∀{k f fd x ps sp},FnOk l.prog w K mg base CX0 k f fd ps sp->Binds K fd ps []->PySem.W.keepIn K (.ref f)=true->mg x=some (.ref f)->Def l.prog w K mg base x k ps sp:=mkD;have d0:=M (Ut F1 zR) b1 F1.kp g1;have d1:=M (A1b F2 d0 yC zO zA zL) b2 F2.kp g2;have d2:=M (A2o F3 zR zA zE zL yL zX) b3 F3.kp g3;have d3:=M (Ae1 F4 d2 zR zA zE xG zB) b4 F4.kp g4;have d4:=M (Tq F5 d3 zR zA zE zB) b5 F5.kp g5;have d5:=M (Tj F6 zO) b6 F6.kp g6;have d6:Def l.prog w K mg base "number_written" 3 ["number"] (spP K (Ce 2)):=mkD (Ng F7 b7 g7 d5 yE zL zF 2) b7 F7.kp g7;have d7:=M (Yr F8 ) b8 F8.kp g8;have d8:=M (Xu F9 d6 d7 zA zL) b9 F9.kp g9;have d9:=M (Af7 F10 d8) b10 F10.kp g10;have d10:=M (Yu F11 d9) b11 F11.kp g11;have d11:=M (Yw F12 d9 d10) b12 F12.kp g12;have d12:=M (Ax3 F13 d9 d11) b13 F13.kp g13;have d13:=M (Aq3 F14 ) b14 F14.kp g14;have d14:=M (Ax1 F15 zZ) b15 F15.kp g15;have d15:=M (Av5 F16 d1 d7 d13) b16 F16.kp g16;have d16:=M (Rv F17 d5 zO zE zH zF) b17 F17.kp g17;have d17:=M (Af3 F18 d13 d16 zR yM) b18 F18.kp g18;have d18:=M (Aj0 F19 d15 d17) b19 F19.kp g19;have d19:=M (Z5 F20 d13 d18 zE zB) b20 F20.kp g20;have d20:=M (Vr F21 d14) b21 F21.kp g21;have d21:=M (A3g F22 ) b22 F22.kp g22;have d22:=M (Rb F23 d4 d13 d21 zE zB) b23 F23.kp g23;have d23:=M (Aq5 F24 d19) b24 F24.kp g24;have d24:=M (As4 F25 d13 d19 d21 d23 zE zB) b25 F25.kp g25;have d25:=M (Aw5 F26 d13 d19 d20 d22 d24 zZ zE zB) b26 F26.kp g26;have d26:=M (Ap9 F27 zE) b27 F27.kp g27;have d27:=M (Bc0 F28 d26 yZ zO) b28 F28.kp g28;have d28:=M (A9f F29 ) b29 F29.kp g29;have d29:=M (A8y F30 d28) b30 F30.kp g30;have d30:=M (A2u F31 d28 zE zH) b31 F31.kp g31;have d31:=M (A4r F32 d28) b32 F32.kp g32;have d32:=M (A0q F33 d28) b33 F33.kp g33;have d33:=M (A8v F34 d31 zH) b34 F34.kp g34;have d34:=M (A1a F35 d28 d33 zE zH zB) b35 F35.kp g35;have d35:=M (A8k F36 d28 d29 d30 d31 d32 d34 zB) b36 F36.kp g36;have d36:=M (Yl F37 zO zA zL) b37 F37.kp g37;have d37:=M (A3m F38 d36) b38 F38.kp g38;have d38:=M (Ae6 F39 d37 zY) b39 F39.kp g39;have d39:Def l.prog w K mg base "_law_same" 6 [lN, "_law_due"] (spP K (Cz 6)):=mkD (Aa4 F40 b40 g40 zR yC zO zA zE zY zL zB yV 6) b40 F40.kp g40;have d40:=M (A7y F41 d28 zE) b41 F41.kp g41;have d41:=M (Ai1 F42 d28 d40 zH) b42 F42.kp g42;have d42:=M (Ae9 F43 d28 zH) b43 F43.kp g43;have d43:=M (Ah8 F44 d41 d42 zO zE zB) b44 F44.kp g44
 exact(B3y F45 d12 d25 d27 d28 d35 d38 d39 d43 zE xH zH).imp λvs H Q E h=>B4q hlaw h
theorem walk {l:PySem.W.OpenLaw}{q:p7}{loose:v_}{XP:(x_)->Heap->Prop}{YP:World->Heap->Prop}{d:DefRec}(hn:l.most=some 63)(hdf:d.params.defaults=[])
 (F:∀(w:World) (mean:ExcName->p_) (mg mb:x_) (fa:Addr) (h:Heap),PyProof.Rows.Top q (PySem.W.looseW q loose) mean mg mb h->mg d.name=some (.ref fa) ->
  ∃(K:q9) (fd:p6),K.In h/\TabAt K h/\(∀(s:o4) (u:Value),BindsTo s fd ⟨[u],[]⟩ [("_law_script",u)])/\∀base:Heap,K.In base->base.Ns mainGlobals mg->FnOk l.prog w K mg base CX0 10 fa fd [lK] (Bd5 K)) :
 PySem.W.WalkO q loose XP YP l.row.toRowW d [] (λf vs=>PySem.call f vs) :=
 L2.walk_ofH hn (by decide) hdf ⟨rfl,by decide,by decide,rfl⟩ F λ_ _ a ns hl hS=>⟨a,ns,rfl,hS,hl,λ_=>rfl⟩
end K
open PySem PySem.W PyProof.Rows
set_option maxHeartbeats 0
namespace K
noncomputable def dOf:Stmt->DefRec
 | .FunctionDef _ a b _ _ _ s _ _ p=>⟨"law",a,b,s,p⟩
 | _=>⟨"law",⟨[],[],none,[],[],none,[]⟩,[],default,default⟩
def dL:DefRec:=⟨"law",(dOf (top 56)).params,(dOf (top 56)).body,(dOf (top 56)).scope,(dOf (top 56)).pos⟩
theorem B6z:rwT.wellSaid=true:=by kernel_rfl
theorem B7k:defOf qT rwT.row.name=some (dL,[]):=by kernel_rfl
theorem B7g:rwT.row.prog.theDef rwT.row.name=some (dL.params,dL.body,dL.scope):=by trivial
theorem kwT:kwWritten? dL.params.kwonlyargs dL.params.kw_defaults=some []:=by trivial
theorem okT:(chainsOk qT&&opensWell rwT.row.prog&&(frees rwT.row.toRowW&&rwT.row.within.isEmpty))=true:=by trivial
theorem dfT:dL.params.defaults=[]:=by rfl
theorem B6g:rwT.row.prog.bare:=⟨rfl,rfl,rfl,rfl,rfl,by decide +kernel⟩
theorem B6o:rwT.row.toRowW.promised:=by w_witness2
end K
theorem PySem.Challenge.cw_pivotfold_k58_folded_tables_written_holds : PySem.Challenge.rw_pivotfold_k58_folded_tables_written.Holds := by
 refine holds_law K.B6z λsaid=>?_
 refine holds_open (q:=K.qT) (loose:=[]) (Xt:=K.xtT) (XP:=XL K.qT []) (Yf:=Hook.none.obs) (Ya:=Hook.none.val) (YP:=Hook.none.says) (N:=20000) K.B5g Hook.none.of Hook.none.keeps (λs e=>xl_of s (aF.mp e).1) XL.keeps K.B7k K.B7g K.kwT (λs e=>recFacts_of (aF.mp e).2) rfl said K.okT K.B6g K.B6o ?_
 refine K.walk (l:=PySem.Challenge.rw_pivotfold_k58_folded_tables_written) rfl K.dfT ?F
 case F =>
  intro w mean mg mb fa h T hmg
  refine K.B3t T hmg K.Bj7 ?R ?B ?yM ?zF ?yL ?zX
  (case R=>kernel_rfl); (case B=>kernel_rfl); (case yM=>kernel_rfl); (case zF=>kernel_rfl); (case yL=>kernel_rfl); (case zX=>kernel_rfl)
end
