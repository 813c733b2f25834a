import PyProof.Rows.All
import PyProof.FactsAll.NoneType_1
import Wide.All
import OpenK.AllK
import Wide.FinOn
import Lean
import PyProof.EqAt
import PyProof.EqKinds
import PyProof.TupleCall
import PyProof.StrWalks
import PyProof.StrLawsRepr
import PyProof.ListMulRoad
import PyProof.StrOps2
import PyProof.CallStr
import PyProof.CollectStr
import PyProof.TupleOfSeq
import PyProof.DictTable
import KE.KSortTup
import PyProof.MeetsStr
import PyProof.FactsAll.str_5
import PyProof.StrBlockG
import PyProof.AttrMiss
import PyProof.FactsAll.zip_1
import KE.KDictOf
import PyProof.AttrMissHeap
import KE.KTryMore
import KE.KRevIter
import PyProof.ListRange
import PyProof.FactsAll.dict_3
import PyProof.MeetsDict
import PyProof.FactsAll.dict_keyiterator
import PyProof.DictItems
import PyProof.DictValues
import KE.KPairComp
import PyProof.TupleOfStr
import PyProof.TupleOfGen
import PyProof.DictWalks
import PySem.Challenge.RW_pivotfold_k18_doubles_put_together
set_option genInjectivity false
set_option genSizeOf false
set_option Elab.async false
set_option linter.all false
set_option maxRecDepth 100000
noncomputable section
open PySem renaming wpAny_bind→aj,wpAny_pure→ak,wpAny_mono→aU,wpAny_loadPart'→bj,wpAny_field→bw,wpAny_holding→bB,wpAny_call_entry→bQ,plainId_quiet→bT,wpAny_seqItems→bY,codeAny_builtin→bZ,wpAny_rule→cA,wpAny_newObj_type→cD,wpAny_callSpecial?_slot→cP,wpAny_letGo→cQ,wpAny_updateSeq→cU,wpAny_attempt→dg,wpAny_pyIter_list→dw,wpAny_specialOf→dD,wpAny_isInstance→dF,wpAny_truthy_bool→dH,wpAny_typeOf→dI,call_meets→dO,wpAny_tryCatch→dW,wpAny_pyIter_tuple→dX,codeAny_mono→eN,wpAny_setField_rec→eV,eqIsQuiet_byValue→fc,wpAny_Call_Name_kw→fu,isSubtype_stop→fL,wpAny_forIn_list→fX,wpAny_standAt→fY,wpAny_passesOwn→fZ,mem_of_lookup→gf,strLen_append→gw,call_meetsIn→gR,pushCells_keeps→gU,wpAny_newList→gY,wpAny_onRaise→g_,wpAny_execs_cons→iI,wpAny_pyNext_list_item→iK,wpAny_pyNext_list_end→iM,noFill_tuple_add→iQ,wpAny_updateSeq_pair→jf,wpAny_pyIter_zip→jg,wpAny_notOrdered_dict→jm,wpAny_callSpecialIfBoundUnlessNone?_slot→jw
open List renaming length_map→ao,mem_append_right→aA,mem_cons→aB,mem_map→aD,map_cons→aH,length_cons→aP,mem_cons_self→aQ,mem_singleton→aV,length_append→aX,mem_cons_of_mem→aY,getElem?_eq_some_iff→aZ,mem_of_getElem?→bc,not_mem_nil→bf,lookup_cons→bz,map_append→bA,mem_append→bC,getElem?_map→bD,getElem?_eq_getElem→bG,mem_append_left→bJ,zip_cons_cons→bL,length_set→bV,nodup_cons→c7,map_map→cz,getElem?_set_self→cB,all_eq_true→cG,getD_eq_getElem?_getD→cJ,getElem?_set_ne→cL,size_toArray→cM,append_nil→cN,mem_range→cX,map_nil→dh,mem_filter→dq,take_length→dz,length_nil→dB,replicate_succ→dM,length_take→eO,forIn_cons→eQ,getElem?_append_right→eY,length_zip→eZ,filterMap_cons→fj,append_assoc→fC,nodup_nil→fG,getElem?_cons_succ→fP,getElem?_append_left→fQ,take_succ→fU,length_range→fV,any_cons→gj,flatten_cons→gk,forIn_nil→gq,nil_append→gA,length_singleton→gV,zip_nil_left→gW,drop_eq_nil_iff→ik,drop_zero→iy,drop_length→iD,length_pos_iff→iG,pairwise_cons→iH,length_drop→iV,getElem_mem→j0,getElem_of_mem→j6,getElem?_zip_eq_some→jc,countP_cons→ji,drop_eq_getElem_cons→jj,map_snd_zip→jk,nodup_append→jl,getElem?_eq_none→jn,eraseIdx_cons_succ→jq
open Nat renaming le_refl→aq,le_trans→au,ne_of_lt→aL,zero_add→aM,lt_of_lt_of_le→aN,zero_le→aO,lt_irrefl→bI,ne_of_gt→bK,lt_or_ge→bO,lt_of_le_of_lt→bR,sub_self→dC,add_le_add_left→dG,le_succ→dN,lt_succ_self→dR,lt_succ_of_lt→dU,le_of_succ_le→eU,sub_zero→eX,add_assoc→e_,le_of_eq→fD,min_self→fM,le_add_right→gJ,le_of_lt→gO,min_le_right→j7,le_succ_of_le→j9,mul_le_mul_left→jo
open PySem.Heap renaming lt_size→az,get?_push_of_some→aF,get?_push_size→aJ,get?_update_other→bH,size_push→bN,get?_update_self→cT
open Bool renaming and_eq_true_iff→aC,false_ne_true→bu,false_eq_true→cV,and_eq_true→dJ,not_eq_true→j8
open Ne renaming symm→aG
open Option renaming map_eq_some_iff→a_,bind_eq_some_iff→cH,bind_some→cW,map_some→fH
open PySem.Heap.SameBut renaming update→bU
open PySem.PassesOwn renaming never→b_
open PySem.Around renaming under_plainId→cu
open Option.some renaming inj→cR
open LawfulBEq renaming eq_of_beq→cZ
open PySem.F renaming slot_zip_next→dY,plain_min_loop→fJ,plain_max_loop→fK,plain_extend_loop→gB,slot_NoneType_hash→gH,slot_tuple_hash→gK,plainAttrs_list→gZ,entry_zip_next→h_,args_zip_next_1→ie,slot_dict_keyiterator_next→iw,slot_dict_itemiterator_next→iz,plain_list_iadd→iC,slot_tuple_add→iR,entry_tuple_add→iT,args_tuple_add_2→iU,slot_dict_get→iZ,plainAttrs_dict→i_,args_object_init_2→jh,plainAttrs_tuple→jr,slot_tuple_index→jt,type_tuple_index→ju,entry_dict_keyiterator_next→jy,args_dict_keyiterator_next_1→jz,entry_dict_itemiterator_next→jA,args_dict_itemiterator_next_1→jB
open PySem.Paired renaming length→dZ
open PyProof.Rows renaming callWith_type1→d_,slot_tuple_getitem→fB,listUpdate_at→iu,assignInOrder_cons→iJ,callWith_kw→jb
open PySem.Calls renaming spliced_cons→eG,spliced_nil→gb,callWith_builtin→gP,evalArgs_plain→iY
open Array renaming getElem?_toList→fO,forIn_toList→fW,length_toList→gh,getElem?_eq_getElem→iB
open Int renaming toNat_natCast→gm,eq_ofNat_of_zero_le→gG
open PySem.Obj renaming data_mapFields→gn,isFreed_of_fields→je
open Nat.succ renaming inj→gC
open Array.Perm renaming refl→gF
open PySem.SeqAt renaming eqAt_reads→gM
open PySem.IsL renaming update→gQ
open PySem.AutoSeq1 renaming wpAny_loadPart'→ig
open PySem.MeetsSeq3 renaming plain_eq_loop→ir
open PySem.SeqAt.EqAt renaming str_str→iW
open PyProof.Rows.F renaming plain_set_update_loop→jd,entry_set_update_loop→jx
section
open PySem
abbrev u_:=Shared
abbrev t6:=PyData
abbrev t_:=Around
abbrev u5:=Program
abbrev v4:=List Str
abbrev v_:=FuncData
abbrev v5:=List Addr
abbrev v9:=List Expr
abbrev w6:=List Value
abbrev q9:=Option Int
abbrev w5:=List t6
abbrev v6:=Array Value
abbrev v8:=PySem.W.Frag
abbrev u6:=Option Value
abbrev q_:=List (Nat×Nat)
abbrev p7:=Nat->v5
abbrev y_:=List (Addr×Obj)
abbrev v7:=Array DictEntry
abbrev x_:=Str->u6
abbrev p6:=List (Option Nat)
abbrev z_:=Value->u_->Prop
end
section
open PySem PySem.Spec PyProof.Rows PySem.W PySem.Calls PySem.MeetsSeq PySem.MeetsSeq2 PySem.MeetsSeq3 PySem.SeqAt
abbrev aK:=@decide_eq_true
abbrev aR:=@decide_eq_false
abbrev aW:=@of_decide_eq_true
abbrev bh:=@or_false
abbrev bM:=@if_false
abbrev bW:=@true_and
abbrev cj:=@if_true
abbrev cY:=@congrArg
abbrev dm:=@beq_self_eq_true
abbrev du:=@beq_eq_false_iff_ne
end
namespace L2
open PySem PySem.Spec PyProof.Rows PySem.W
noncomputable def U8:v4->w6->Bool
 | [],[]=>true
 | s::ss,.str z _::us=>s==z&&U8 ss us
 | _,_=>false
def A8c (h:Heap)(q:Str×v4):Bool:=match h.nsMap mainGlobals q.1 with
 | some (.ref a)=>match h.get? a with
  | some o=>match o.cls,o.data with
   | .type c,.seq its _=>c == "tuple" && decide (its.size<=sizeLine)&&U8 q.2 its.toList
   | _,_=>false
  | none=>false
 | _=>false
end L2
namespace K
open PySem PySem.W PyProof.Rows
noncomputable abbrev W7:v4:=[Str.ofString "first",Str.ofString "last",Str.ofString "sum",Str.ofString "count",Str.ofString "least",Str.ofString "greatest",Str.ofString "unlike"]
def tcT:List (Str×v4):=[("ORDERS",[Str.ofString "seen",Str.ofString "rising"]),("WAYS",W7)]
abbrev pwT:=PySem.Challenge.pw_pivotfold_k18_doubles_put_together
abbrev rwT:=PySem.Challenge.rw_pivotfold_k18_doubles_put_together
noncomputable def B4v:Stmt->Bool
 | .Assign [.Name n _] _ _=>!(["__name__", "ORDERS", "WAYS"]:v4).contains n
 | _=>true
def qT:u5:={ pwT with main:={ pwT.main with body:=pwT.main.body.filter B4v } }
abbrev xtT:u_->Bool:=fun s=>xlAt qT [] s&&recOk (RowW.records rwT.row.toRowW) s&&tcT.all (L2.A8c s.heap)
set_option maxHeartbeats 0 in
theorem B5r:LeftO rwT.row.prog qT ["ORDERS", "WAYS"] xtT Hook.none.obs Hook.none.val 20000:=fun w=>by kernel_rfl
end K
namespace L2
open PySem PySem.Spec PyProof.Rows
abbrev Key:=Sum Int Str
noncomputable def Qs:Key->Value->Bool
 | .inl k,v=>Value.isInt k v
 | .inr x,v=>Value.isStrOf x v
noncomputable def Bx1 (w:World):Key->Int
 | .inl k=>hashInt k
 | .inr x=>hashStr w x
theorem Ef:∀{k:Key}{v:Value},Qs k v=true->(∃i t,k=Sum.inl i/\v=Value.int i t)\/(∃x t,k=Sum.inr x/\v=Value.str x t)
 | .inl i,v,h=>by
  obtain⟨t,e⟩:=Value.isInt_shape (k:=i) (v:=v) h;exact .inl ⟨i,t,rfl,e⟩
 | .inr x,v,h=>by
  obtain⟨t,e⟩:=Value.isStrOf_shape (x:=x) (v:=v) h;exact .inr ⟨x,t,rfl,e⟩
theorem Zb (i:Int)(t:Tok):Qs (.inl i) (.int i t)=true:=by simp[Qs,Value.isInt]
theorem Zc (x:Str)(t:Tok):Qs (.inr x) (.str x t)=true:=by simp[Qs,Value.isStrOf]
theorem Bx5 (a b:Int):decide ((Sum.inl a:Key)=Sum.inl b)=(a==b):=by
 grind
theorem B0k (a b:Str):decide ((Sum.inr a:Key)=Sum.inr b)=decide (a=b):=by
 grind
theorem B1w (a:Int)(b:Str):decide ((Sum.inl a:Key)=Sum.inr b)=false:=aR fun q=>nomatch q
theorem Bz9 (a:Str)(b:Int):decide ((Sum.inr a:Key)=Sum.inl b)=false:=aR fun q=>nomatch q
def Du (prog:u5)(w:World):PySem.KeyKind prog w Key where
 is:=Qs
 hash:=Bx1 w
 inj:=fun v a b ha hb=>by
  rcases Ef ha with ⟨i,t,rfl,rfl⟩ | ⟨x,t,rfl,rfl⟩
  ·rcases Ef hb with ⟨j,u,rfl,e⟩ | ⟨y,u,rfl,e⟩
   ·injection e with e1 _;rw[e1]
   ·exact nomatch e
  ·rcases Ef hb with ⟨j,u,rfl,e⟩ | ⟨y,u,rfl,e⟩
   ·exact nomatch e
   ·injection e with e1 _;rw[e1]
 byValue:=fun k v h=>by
  rcases Ef h with ⟨i,t,rfl,rfl⟩ | ⟨x,t,rfl,rfl⟩ <;> rfl
 pyHash:=fun hv h=>by
  rcases Ef hv with ⟨i,t,rfl,rfl⟩ | ⟨x,t,rfl,rfl⟩
  ·exact wpAny_pyHash_int h
  ·exact wpAny_pyHash_str h
 eqBool:=fun hu hv h=>by
  rcases Ef hu with ⟨i,t,rfl,rfl⟩ | ⟨x,t,rfl,rfl⟩
  ·rcases Ef hv with ⟨j,u,rfl,rfl⟩ | ⟨y,u,rfl,rfl⟩
   ·rw[Bx5]at h;exact wpAny_eqBool_int h
   ·rw[B1w]at h;exact SeqAt.EqAt.int_str i t y u _ _ _ _ h
  ·rcases Ef hv with ⟨j,u,rfl,rfl⟩ | ⟨y,u,rfl,rfl⟩
   ·rw[Bz9]at h;exact SeqAt.EqAt.str_int x t j u _ _ _ _ h
   ·rw[B0k]at h;exact wpAny_eqBool_str h
 «strs»:=fun k x t v h=>by
  rcases Ef h with ⟨i,u,rfl,e⟩ | ⟨y,u,rfl,e⟩
  ·exact nomatch e
  ·injection e with e1 _
   subst e1
   cases v <;> rfl
theorem Oe (prog:u5)(w:World)(i:Int)(t:Tok):(Du prog w).is (.inl i) (.int i t)=true:=Zb i t
theorem Og (prog:u5)(w:World)(x:Str)(t:Tok):(Du prog w).is (.inr x) (.str x t)=true:=Zc x t
noncomputable instance B7e:DecidableEq t6:=fun a b=>Classical.propDecidable (a=b)
mutual
noncomputable def keyB:t6->Bool
 | .none=>true
 | .int _=>true
 | .str _=>true
 | .tuple ds=>Gj ds
 | _=>false
noncomputable def Gj:w5->Bool
 | []=>true
 | d::ds=>keyB d&&Gj ds
end
mutual
theorem Kl:∀(x y:t6),keyB x=true->keyB y=true->(PyData.eqv x y=true↔x=y)
 | .none,y,_,hy=>by cases y <;> simp_all [PyData.eqv,keyB]
 | .int _,y,_,hy=>by cases y <;> simp_all [PyData.eqv,keyB]
 | .str _,y,_,hy=>by cases y <;> simp_all [PyData.eqv,keyB]
 | .tuple xs,.tuple ys,hx,hy=>by
  have:=Al1 xs ys hx hy
  show PyData.eqvAll xs ys=true↔_
  rw[this]
  exact⟨fun e=>by rw[e],fun e=>by cases e;rfl⟩
 | .tuple xs,.none,hx,hy=>⟨(fun e=>nomatch e),fun e=>nomatch e⟩
 | .tuple xs,.int _,hx,hy=>⟨(fun e=>nomatch e),fun e=>nomatch e⟩
 | .tuple xs,.str _,hx,hy=>⟨(fun e=>nomatch e),fun e=>nomatch e⟩
theorem Al1:∀(xs ys:w5),Gj xs=true->Gj ys=true->(PyData.eqvAll xs ys=true↔xs=ys)
 | [],[],_,_=>⟨fun _=>rfl,fun _=>rfl⟩
 | [],_::_,_,_=>⟨(fun e=>nomatch e),fun e=>nomatch e⟩
 | _::_,[],_,_=>⟨(fun e=>nomatch e),fun e=>nomatch e⟩
 | x::xs,y::ys,hx,hy=>by
  obtain⟨a,b⟩:=aC.mp (show (keyB x&&Gj xs)=true from hx)
  obtain⟨c,d⟩:=aC.mp (show (keyB y&&Gj ys)=true from hy)
  show (PyData.eqv x y&&PyData.eqvAll xs ys)=true↔_
  rw[aC,Kl x y a c,Al1 xs ys b d,List.cons.injEq]
end
mutual
theorem Vw {h h':Heap}{d:Addr}{o:Obj}{es:v7}{ep:Nat}(ho:h.get? d=some o)(hd:o.data=.dict es ep)(hs:Heap.SameBut d h h'):∀(k:t6),keyB k=true->∀(v:Value) (as:v5),Reads h v k as->Reads h' v k as
 | .none,_,_,_,r=>by cases r;exact .none
 | .int i,_,_,_,r=>by cases r;exact .int _ _
 | .str x,_,_,_,r=>by cases r;exact .str _ _
 | .tuple ds,hk,_,_,r=>by
  cases r with
  | @tuple a o' vs n xs as h1 h2 h3 h4 =>
   refine .tuple ((hs.2 a ?_).trans h1) h2 h3 (Ul ho hd hs ds hk _ _ h4)
   intro e;rw[e,ho]at h1;cases h1;rw[hd]at h3;cases h3
theorem Ul {h h':Heap}{d:Addr}{o:Obj}{es:v7}{ep:Nat}(ho:h.get? d=some o)(hd:o.data=.dict es ep)(hs:Heap.SameBut d h h'):∀(ks:w5),Gj ks=true->∀(vs:w6) (as:v5),ReadsAll h vs ks as->ReadsAll h' vs ks as
 | [],_,_,_,r=>by cases r;exact .nil
 | k::ks,hk,_,_,r=>by
  obtain⟨a,b⟩:=aC.mp (show (keyB k&&Gj ks)=true from hk)
  cases r with
  | cons r1 r2=>exact .cons (Vw ho hd hs k a _ _ r1) (Ul ho hd hs ks b _ _ r2)
end
mutual
noncomputable def Al5 (w:World):t6->Int
 | .none=>hashInt 0xFCA86420
 | .int i=>Bx1 w (.inl i)
 | .str x=>Bx1 w (.inr x)
 | .tuple ds=>reduceHash (Builtin.Tuple.tupleHashOf (Lx w ds))
 | _=>0
noncomputable def Lx (w:World):w5->List Int
 | []=>[]
 | d::ds=>Al5 w d::Lx w ds
end
mutual
noncomputable def Xm:t6->Nat
 | .tuple ds=>Nh ds+1
 | _=>1
noncomputable def Nh:w5->Nat
 | []=>0
 | d::ds=>Xm d+Nh ds
end
section
variable {prog:u5}{w:World}
theorem Yv (h:Q (hashInt 0xFCA86420) { s with toks:=s.toks+1 }):wpAny (model prog w) A (pyHash .none) Q E s:=by
 have a:s.TypeIs Value.none "NoneType" := rfl;unfold pyHash
 first | unfold pyHashByItsType | skip
 have b:[Value.none].any Value.onHeap=false:=rfl
 refine aj ?_
 rw[cRoomFor,if_neg (by rw[b];exact bu)];refine ak ?_
 refine aj (dD a gH.lookup ?_)
 show wpAny _ _ (if (some (Value.builtin "NoneType.__hash__")==some Value.none)=true then _ else _) Q E s
 rw[if_neg (by rw[beq_builtin_none];exact bu)]
 refine aj (dD a gH.lookup ?_)
 show wpAny _ _ (callSpecialIfBoundUnlessNone? .none "__hash__" _ >>= _) Q E s
 refine aj (jw a gH
  (bQ gH a F.entry_NoneType_hash
   (show wpAny _ _ (do ret (<- mkInt _)) _ _ s from wpAny_ret_mkInt ?_) (F.args_NoneType_hash_1 _)))
 exact ak h
theorem A2c:∀(n:Nat) (d:t6),d.depth<=n->keyB d=true->∀(A:t_) (E:z_) (s:u_) (v:Value) (y:v5) (Q:Int->u_->Prop),A.units+n<cLine->Reads s.heap v d y ->
 Q (Al5 w d) { s with toks:=s.toks+Xm d }->wpAny (model prog w) A (pyHash v) Q E s:=by
 intro n
 induction n with
 | zero =>
  intro d M j A E s v y Q C r h
  cases r with
  | none=>exact Yv h
  | int i t=>exact(Du prog w).pyHash (k:=.inl i) (v:=.int i t) (Oe prog w i t) h
  | str x t=>exact(Du prog w).pyHash (k:=.inr x) (v:=.str x t) (Og prog w x t) h
  | tuple=>exact absurd M (by simp[PyData.depth])
  | bool b=>cases j
  | list=>cases j
  | dict=>cases j
 | succ n Y =>
  intro d M j A E s v y Q C r h
  cases r with
  | none=>exact Yv h
  | int i t=>exact(Du prog w).pyHash (k:=.inl i) (v:=.int i t) (Oe prog w i t) h
  | str x t=>exact(Du prog w).pyHash (k:=.inr x) (v:=.str x t) (Og prog w x t) h
  | bool b=>cases j
  | list=>cases j
  | dict=>cases j
  | @tuple a o N n' g y R hc J U =>
   have G:s.TypeIs (.ref a) "tuple" := ⟨o,R,hc⟩
   have H:PyData.depthAll g<=n:=Nat.le_of_succ_le_succ (show PyData.depthAll g+1<=n+1 from M)
   have I:Gj g=true:=j;unfold pyHash
   first | unfold pyHashByItsType | skip
   first | refine aj (wpAny_cRoomFor_or (.inr (bR (gJ _ _) C)) ?_) | skip
   refine aj (dD G gK.lookup ?_)
   show wpAny _ _ (if (some (Value.builtin "tuple.__hash__")==some Value.none)=true then _ else _) Q E s
   rw[if_neg (by rw[beq_builtin_none];exact bu)]
   refine aj (dD G gK.lookup ?_)
   show wpAny _ _ (callSpecialIfBoundUnlessNone? (.ref a) "__hash__" _ >>= _) Q E s
   refine aj (jw G gK (bQ gK G F.entry_tuple_hash ?_ (F.args_tuple_hash_1 _)))
   show wpAny _ _ (Builtin.Tuple.tupleItemsOf (.ref a) >>= _) _ _ s
   refine aj (wpAny_tupleItemsOf R J ?_)
   refine aj ?_
   rw[<- fW]
   refine fX _
    (fun m (b:Array Int) O=>∃c e K,Lx w g=c++Lx w e/\ReadsAll s.heap m e K/\Gj e=true/\PyData.depthAll e<=n/\b.toList=c/\∃k,k+Nh e=Nh g/\O={ s with toks:=s.toks+k })
    _ ?_ ?_ _ _ ⟨[],g,_,rfl,U,I,H,rfl,0,aM _,rfl⟩
   ·rintro x m b O ⟨c,e,K,z,L,q,p,B,k,D,rfl⟩
    cases L with
    | @cons _ _ l f V W X u =>
     obtain⟨Z,S⟩:=aC.mp (show (keyB l&&Gj f)=true from q)
     have P:l.depth<=n/\PyData.depthAll f<=n:=by
      have:max l.depth (PyData.depthAll f)<=n:=p;lia
     refine aj (Y l P.1 Z _ _ _ _ _ _ (by first | exact bR (by simp;lia) C | (have:=C;simp at *;lia)) X ?_)
     first
      | exact ak ⟨c++[Al5 w l],f,_,by rw[z];simp[Lx],u,S,P.2,by simp[B],k+Xm l,by rw[<- D];simp[Nh,e_],by simp[e_]⟩
      | exact aj (ak (ak ⟨c++[Al5 w l],f,_,by rw[z];simp[Lx],u,S,P.2,by simp[B],k+Xm l,by rw[<- D];simp[Nh,e_],by simp[e_]⟩))
   ·rintro b O ⟨c,e,K,z,L,q,p,B,k,D,rfl⟩
    cases L
    have e2:Lx w g=c:=by rw[z];simp[Lx]
    have T:k=Nh g:=D
    have h:Q (reduceHash (Builtin.Tuple.tupleHashOf (Lx w g))) { s with toks:=s.toks+(Nh g+1) }:=h
    rw[e2]at h;subst T
    show wpAny _ _ (retInt (Builtin.Tuple.tupleHashOf b.toList)) _ _ _
    rw[B]
    refine wpAny_ret_mkInt ?_
    show wpAny _ _ (if (decide (-(2:Int) ^ 63<=Builtin.Tuple.tupleHashOf c)&&decide (Builtin.Tuple.tupleHashOf c<2 ^ 63))=true then _ else _) Q E _
    unfold reduceHash at h
    by_cases hr:(decide (-(2:Int) ^ 63<=Builtin.Tuple.tupleHashOf c)&&decide (Builtin.Tuple.tupleHashOf c<2 ^ 63))=true
    ·rw[if_pos hr]
     rw[if_pos hr]at h
     exact ak (by simpa[e_] using h)
    ·rw[if_neg hr]
     rw[if_neg hr]at h
     exact aj (cA (ak (by simpa[e_] using h)))
theorem Ar1:∀(m:Nat) (d:t6),d.depth<=m->keyB d=true->∀(A:t_) (E:z_) (s:u_) (v:Value) (j:v5) (Q:Bool->u_->Prop),Reads s.heap v d j->Q true s->wpAny (model prog w) A (eqIsQuiet (m+1) v) Q E s:=by
 intro m
 induction m with
 | zero =>
  intro d q f A E s v j Q r h
  cases r with
  | none=>rw[fc _ rfl];exact ak h
  | int i t=>rw[fc _ rfl];exact ak h
  | str x t=>rw[fc _ rfl];exact ak h
  | tuple=>exact absurd q (by simp[PyData.depth])
  | bool b=>cases f
  | list=>cases f
  | dict=>cases f
 | succ n O =>
  intro d q f A E s v j Q r h
  cases r with
  | none=>rw[fc _ rfl];exact ak h
  | int i t=>rw[fc _ rfl];exact ak h
  | str x t=>rw[fc _ rfl];exact ak h
  | bool b=>cases f
  | list=>cases f
  | dict=>cases f
  | @tuple a o y n' M j G L l U =>
   have D:s.TypeIs (.ref a) _:=⟨o,G,L⟩
   have p := Nat.le_of_succ_le_succ (show PyData.depthAll _+1<=n+1 from q)
   unfold eqIsQuiet
   refine aj (dD D F.slot_tuple_eq.lookup ?_)
   refine aj (dF D isSubtype_tuple_tuple ?_)
   refine aj (bY G l ?_)
   refine aj ?_
   rw[<- fW]
   refine fX _ (fun e r u=>r.1=none/\u=s/\∃c H,ReadsAll _ e c H/\Gj c=true/\PyData.depthAll c<=n) _ ?_ ?_ _ _ ⟨rfl,rfl,M,_,U,f,p⟩
   ·rintro v e r u ⟨C,rfl,c,H,J,k,z⟩
    cases J with
    | @cons _ _ N g P R K B =>
     obtain⟨S,T⟩:=aC.mp (show (keyB _&&Gj _)=true from k)
     have I:N.depth<=n/\PyData.depthAll g<=n:=by
      have:max _ _<=n:=z;lia
     refine aj (O _ I.1 S _ _ _ _ _ _ K ?_)
     exact ak ⟨rfl,rfl,g,_,B,T,I.2⟩
   ·rintro⟨r1,r2⟩ u ⟨C,rfl,_⟩
    subst C;exact ak h
def Bx8 (h:Heap)(k:t6)(a:Addr):Prop:=(keyB k=true/\k.canLay0=true/\k.depth<=7)/\∃as,Reads h (.ref a) k as
def Em (prog:u5)(w:World):HeapKind prog w t6 where
 is:=Bx8
 hash:=Al5 w
 draws:=Xm
 room:=fun A=>A.units+8<cLine
 inj:=fun hx hy=>let ⟨⟨_,l,_⟩,_,r⟩:=hx;let ⟨_,_,r'⟩:=hy; SeqAt.Reads.unique _ _ _ _ _ l r r'
 keeps:=fun x ho hd hs=>let ⟨c,_,r⟩:=x; ⟨c,_,Vw ho hd hs _ c.1 _ _ r⟩
 pyHash:=fun hu hk h=>let ⟨c,_,r⟩:=hk; A2c 7 _ c.2.2 c.1 _ _ _ _ _ _ (bR (dG (by decide) _) hu) r h
 eqBool:=fun {A E s x y a b Q} hu hx hy h=>by
  obtain⟨c,_,r⟩:=hx;obtain⟨d,_,r'⟩:=hy
  refine gM x y A s _ _ _ _ r r' c.2.1 d.2.1 (bR (dG (au (Nat.min_le_left _ _) (au c.2.2 (by decide))) _) hu) prog w E Q ?_
  have e:PyData.eqv x y=decide (x=y):=by
   have:=Kl x y c.1 d.1
   by_cases z:x=y
   ·rw[aK z];exact this.mpr z
   ·rw[aR z]
    cases q:PyData.eqv x y with
    | false=>rfl
    | true=>exact absurd (this.mp q) z
  rw[e];exact h
 quiet:=fun hk h=>let ⟨c,_,r⟩:=hk; Ar1 7 _ c.2.2 c.1 _ _ _ _ _ _ r h
end
inductive V where
 | non | bl (b:Bool) | int (i:Int) | str (x:Str) | byt (b:Array UInt8) | flt (b:UInt64) | ref (a:Addr) | ty (n:String)
 deriving DecidableEq
abbrev n7:=List V
@[simp] theorem V.bl.injEq (a b:Bool):(V.bl a=V.bl b)=(a=b):=propext ⟨fun h=>by cases h;rfl,fun h=>by rw[h]⟩
@[simp] theorem V.int.injEq (a b:Int):(V.int a=V.int b)=(a=b):=propext ⟨fun h=>by cases h;rfl,fun h=>by rw[h]⟩
@[simp] theorem V.str.injEq (a b:Str):(V.str a=V.str b)=(a=b):=propext ⟨fun h=>by cases h;rfl,fun h=>by rw[h]⟩
@[simp] theorem V.byt.injEq (a b:Array UInt8):(V.byt a=V.byt b)=(a=b):=propext ⟨fun h=>by cases h;rfl,fun h=>by rw[h]⟩
@[simp] theorem V.ref.injEq (a b:Addr):(V.ref a=V.ref b)=(a=b):=propext ⟨fun h=>by cases h;rfl,fun h=>by rw[h]⟩
noncomputable def RelV:V->Value->Prop
 | .non,u=>u=Value.none
 | .bl b,u=>u=Value.bool b
 | .int i,u=>∃t,u=Value.int i t
 | .str x,u=>∃t,u=Value.str x t
 | .byt b,u=>∃t,u=Value.bytes b t
 | .flt b,u=>∃t,u=Value.float b t
 | .ref a,u=>u=Value.ref a
 | .ty n,u=>u=Value.type n
abbrev Vals:n7->w6->Prop:=Paired RelV
theorem Vals.length (r:Vals xs us):xs.length=us.length:=dZ r
theorem Vals.get:∀{xs:n7}{us:w6}{i:Nat}{x:V},Vals xs us->xs[i]?=some x->∃u,us[i]?=some u/\RelV x u
 | _,_,_,_,.nil,e=>by simp at e
 | _,_,0,_,.cons r _,e=>by simp at e;subst e;exact⟨_,rfl,r⟩
 | _,_,i+1,x,.cons _ t,e=>by
  obtain⟨u,h1,h2⟩:=Vals.get (i:=i) (x:=x) t (by simpa using e)
  exact⟨u,by simpa using h1,h2⟩
theorem Vals.set {x:V}{u:Value}(r:RelV x u):∀{xs:n7}{us:w6}(i:Nat),Vals xs us->Vals (xs.set i x) (us.set i u)
 | _,_,_,.nil=>.nil
 | _,_,0,.cons _ t=>.cons r t
 | _,_,i+1,.cons q t=>.cons q (Vals.set r i t)
theorem Vals.append:∀{xs ys:n7}{us ws:w6},Vals xs us->Vals ys ws->Vals (xs++ys) (us++ws)
 | _,_,_,_,.nil,s=>s
 | _,_,_,_,.cons r t,s=>.cons r (Vals.append t s)
theorem Vals.take:∀{xs:n7}{us:w6}(n:Nat),Vals xs us->Vals (xs.take n) (us.take n)
 | _,_,0,_=>.nil
 | _,_,_+1,.nil=>.nil
 | _,_,n+1,.cons r t=>.cons r (Vals.take n t)
theorem Vals.drop:∀{xs:n7}{us:w6}(n:Nat),Vals xs us->Vals (xs.drop n) (us.drop n)
 | _,_,0,r=>r
 | _,_,_+1,.nil=>.nil
 | _,_,n+1,.cons _ t=>Vals.drop n t
noncomputable def RelO:Option V->u6->Prop
 | some v,some u=>RelV v u
 | none,none=>True
 | _,_=>False
def KV {κ:Type}:List (κ×V)->List (κ×Value)->Prop:=Paired fun (p:κ×V) (q:κ×Value)=>p.1=q.1/\RelV p.2 q.2
noncomputable def kV:Key->V
 | .inl i=>.int i
 | .inr x=>.str x
inductive HO where
 | lst (xs:n7)
 | tup (xs:n7)
 | dK (kvs:List (Key×V)) | dT (kvs:List (PyData×V))
 | set (S:Int->Bool) (n:Nat)
 | ins (C dx:Addr) (fs:List (Str×V))
 | own (x:Addr)
 | xd (fs:List (Str×V))
 | met (f x:Addr)
 | rng (lo hi:Int)
 | frz (o:Obj) (u:HO)
 | tbl (q:Str)
 | ext (φ:Heap->Prop)
abbrev Hp:=Addr->Option HO
noncomputable def upd (H:Hp)(a:Addr)(o:HO):Hp:=fun b=>if b=a then some o else H b
theorem Ay : upd H a o a=some o:=by unfold upd;simp_all
theorem Ai (h:b≠a):upd H a o b=H b:=by unfold upd;simp_all
theorem Bg1 {H:Hp} (h:H a=some o) (h':H b=some u) (d:o≠u):a≠b:=by
 grind
theorem Bq {H:Hp} (h:H a=some o) (h':H b=none):a≠b:=by
 grind
mutual
noncomputable def KTr (H:Hp):t6->V->Prop
 | .none,v=>v=.non
 | .int i,v=>v=.int i
 | .str x,v=>v=.str x
 | .tuple ds,v=>∃a vs,v=.ref a/\H a=some (.tup vs)/\KTrL H ds vs
 | _,_=>False
noncomputable def KTrL (H:Hp):w5->n7->Prop
 | [],vs=>vs=[]
 | d::ds,vs=>∃v r,vs=v::r/\KTr H d v/\KTrL H ds r
end
mutual
theorem KTr.stay {H H':Hp}(ht:∀b xs,H b=some (.tup xs)->H' b=some (.tup xs)):∀{d:t6}{v:V},KTr H d v->KTr H' d v
 | .none,_,h=>h
 | .int _,_,h=>h
 | .str _,_,h=>h
 | .tuple _,_,⟨a,vs,e,ha,t⟩=>⟨a,vs,e,ht _ _ ha,KTrL.stay ht t⟩
theorem KTrL.stay {H H':Hp}(ht:∀b xs,H b=some (.tup xs)->H' b=some (.tup xs)):∀{ds:w5}{vs:n7},KTrL H ds vs->KTrL H' ds vs
 | [],_,h=>h
 | _::_,_,⟨v,r,e,h,t⟩=>⟨v,r,e,KTr.stay ht h,KTrL.stay ht t⟩
end
def Bt3 (k:t6):Prop:=keyB k=true/\k.canLay0=true/\k.depth<=7
def KAt (H:Hp)(k:t6)(a:Addr):Prop:=Bt3 k/\KTr H k (.ref a)
theorem KAt.stay (ht:∀b xs,H b=some (.tup xs)->H' b=some (.tup xs)) (h:KAt H k a):KAt H' k a:=⟨h.1,KTr.stay ht h.2⟩
def zV (h:Heap)(a:Addr)(items:v6):Prop:=∃o,h.get? a=some o/\o.cls=.type "tuple" /\ (∃n,o.data=.seq items n)/\o.dict=none
theorem zV.tup (x:zV h a items):IsTup h a items:=let ⟨o,h1,h2,h3,_⟩:=x; ⟨o,h1,h2,h3⟩
theorem zV.lt (x:zV h a items):a<h.objs.size:=x.tup.lt
theorem zV.new (h:Heap)(items:v6):zV (h.push { cls:=.type "tuple",data:=.seq items }) h.objs.size items:=⟨_,aJ _ rfl,rfl,⟨_,rfl⟩,rfl⟩
section
variable (P:u5)(w:World)
def z9 (H:Hp)(h:Heap)(a:Addr):HO->Prop
 | .lst xs=>xs.length<=sizeLine/\∃(its:w6) (n:Nat),Vals xs its/\h.get? a=some { cls:=.type "list",data:=.seq its.toArray n }
 | .tup xs=>xs.length<=sizeLine/\∃its:w6,Vals xs its/\zV h a its.toArray
 | .dK kvs=>kvs.length<=sizeLine/\(a==sysModules)=false/\∃vs,KV kvs vs/\h.DictOf (Du P w) a vs
 | .dT kvs=>kvs.length<=sizeLine/\(a==sysModules)=false/\∃xs:List (PyData×Addr×Value),
  Paired (fun (p:PyData×V) (q:PyData×Addr×Value)=>p.1=q.1/\KAt H p.1 q.2.1/\RelV p.2 q.2.2) kvs xs /\
  ∃o es ep,h.get? a=some o/\o.ExactDict/\o.data=.dict es ep/\es.toList=xs.map (entryOfKey (Em P w))/\(xs.map (·.1)).Nodup
 | .set S n=>h.SetOf (intKind P w) a S n
 | .ins C dx fs=>H dx=some (.own a)/\fs.length<=1000/\dx≠a/\h.get? a=some (PySem.W.instObj C dx) /\
  ∃mA,h.Ns1 dx mA/\(∀f,RelO (fs.lookup f) (mA f))/\PySem.Within mA (fs.map (·.1))
 | .own _=>∃o,h.get? a=some o
 | .xd fs=>∃mA,h.Ns1 a mA/\∀f,RelO (fs.lookup f) (mA f)
 | .rng lo hi=>∃t u v,h.get? a=some { cls:=.type "range",data:=.fields #[.int lo t,.int hi u,.int 1 v] }
 | .frz o u=>h.get? a=some o/\z9 H h a u
 | .tbl q=>∃ps:v6,h.get? a=some { cls:=.none,data:=.fields ps }/\TriplesOk ps.toList/\∀pos cv,codeAmong pos ps.toList=some cv->∃c o vs t,cv=.ref c/\H c=some (.frz o (.own 0))/\o.data=.fields vs/\vs[1]?=some (.str q t)
 | .met f x=>h.get? a=some (PySem.W.methodObj (.ref f) (.ref x))
 | .ext φ=>φ h/\(∃o,h.get? a=some o)/\∀h1 h2:Heap,φ h1->(∀o,h1.get? a=some o->h2.get? a=some o)->φ h2
def HOk (H:Hp)(h:Heap):Prop:=∀a o,H a=some o->z9 P w H h a o
end
section
variable {P:u5}{w:World}{H H':Hp}{h h':Heap}{a:Addr}{o:HO}
theorem z9.lt (x:z9 P w H h a o):a<h.objs.size:=by
 cases o with
 | lst d=>obtain⟨_,_,_,_,e⟩:=x;exact az e
 | tup d=>obtain⟨_,_,_,p⟩:=x;exact p.lt
 | dK b=>obtain⟨_,_,_,_,o,_,_,e,_⟩:=x;exact az e
 | dT b=>obtain⟨_,_,_,_,o,_,_,e,_⟩:=x;exact az e
 | set S n=>obtain⟨o,_,_,_,e,_⟩:=x;exact az e
 | ins C g c=>obtain⟨_,_,_,e,_⟩:=x;exact az e
 | own y=>obtain⟨_,e⟩:=x;exact az e
 | xd c=>obtain⟨_,⟨_,_,_,e,_⟩,_⟩:=x;exact az e
 | rng j k=>obtain⟨_,_,_,e⟩:=x;exact az e
 | frz l u=>obtain⟨e,_⟩:=x;exact az e
 | tbl q=>obtain⟨_,e,_⟩:=x;exact az e
 | met f y=>exact az (x)
 | ext i=>obtain⟨_,⟨_,e⟩,_⟩:=x;exact az e
theorem Paired.mapP {α β:Type}{F G:α->β->Prop}:∀{l₁:List α}{l₂:List β},Paired F l₁ l₂->(∀a b,F a b->G a b)->Paired G l₁ l₂
 | _,_,.nil,_=>.nil
 | _,_,.cons r t,f=>.cons (f _ _ r) (Paired.mapP t f)
theorem z9.stay (x:z9 P w H h a o)(k:∀b u,(b=a\/H b=some (.own a))->h.get? b=some u->h'.get? b=some u)
 (ho:∀b,H b=some (.own a)->H' b=some (.own a)) (ht:∀b m,H b=some (.tup m)->H' b=some (.tup m)) (hz:∀b o u,H b=some (.frz o u)->H' b=some (.frz o u):=by exact fun _ _ _ q=>q):z9 P w H' h' a o:=by
 induction o with
 | lst m=>obtain⟨z,l,n,r,e⟩:=x;exact⟨z,l,n,r,k _ _ (.inl rfl) e⟩
 | tup m=>obtain⟨z,l,r,g,e,c⟩:=x;exact⟨z,l,r,g,k _ _ (.inl rfl) e,c⟩
 | dK A=>obtain⟨z,y,D,r,g,i,j,e,c⟩:=x;exact⟨z,y,D,r,g,i,j,k _ _ (.inl rfl) e,c⟩
 | dT A =>
  obtain⟨z,y,m,r,g,i,j,e,c⟩:=x
  exact⟨z,y,m,Paired.mapP r fun p q z=>⟨z.1,z.2.1.stay ht,z.2.2⟩,g,i,j,k _ _ (.inl rfl) e,c⟩
 | set S n=>obtain⟨g,i,j,t,e,c⟩:=x;exact⟨g,i,j,t,k _ _ (.inl rfl) e,c⟩
 | ins C M J =>
  obtain⟨d,z,G,e,s,⟨B,i,j,E,c⟩,r⟩:=x;exact⟨ho _ d,z,G,k _ _ (.inl rfl) e,s,⟨B,i,j,k _ _ (.inr d) E,c⟩,r⟩
 | own y=>obtain⟨g,e⟩:=x;exact⟨g,k _ _ (.inl rfl) e⟩
 | xd J=>obtain⟨s,⟨B,i,j,e,c⟩,r⟩:=x;exact⟨s,⟨B,i,j,k _ _ (.inl rfl) e,c⟩,r⟩
 | rng O N=>obtain⟨t,u,v,e⟩:=x;exact⟨t,u,v,k _ _ (.inl rfl) e⟩
 | frz g u K=>obtain⟨e,q⟩:=x;exact⟨k _ _ (.inl rfl) e,K q⟩
 | tbl q =>
  obtain⟨I,e,t,f⟩:=x
  exact⟨I,k a _ (.inl rfl) e,t,fun L Q z=>let ⟨c,g,D,tk,e1,E,e3⟩:=f _ _ z; ⟨c,g,D,tk,e1,hz _ _ _ E,e3⟩⟩
 | met f y =>
  have e:h.get? a=some _:=x
  show h'.get? a=some _
  grind
 | ext R=>obtain⟨p,⟨o,e⟩,F⟩:=x;exact⟨F _ _ p fun o q=>k _ _ (.inl rfl) q,⟨o,k _ _ (.inl rfl) e⟩,F⟩
theorem HOk.lt (x:HOk P w H h)(e:H a=some o):a<h.objs.size:=(x a o e).lt
theorem HOk.fresh (x:HOk P w H h)(e:h.objs.size<=a):H a=none:=by
 cases q:H a with
 | none=>rfl
 | some u=>exact absurd (aN (x.lt q) e) (bI _)
theorem HOk.kept (x:HOk P w H h)(k:∀b u,h.get? b=some u->h'.get? b=some u):HOk P w H h':=fun a o e =>
 (x a o e).stay (fun b u _ q=>k b u q) (fun _ q=>q) fun _ _ q=>q
theorem HOk.laid (x:HOk P w H h)(k:∀b u,h.get? b=some u->h'.get? b=some u)(hp:h.objs.size<=a)(f:z9 P w (upd H a o) h' a o):HOk P w (upd H a o) h':=fun b u e=>by
 have d:=x.fresh hp
 by_cases hb:b=a
 ·subst hb;rw[Ay]at e;simp_all
 ·rw[Ai hb]at e
  exact(x b u e).stay (fun c v _ q=>k c v q) fun c q=>by rw[Ai (Bq q d)];grind fun c g q=>by rw[Ai (Bq q d)];grind fun c i g q=>by rw[Ai (Bq q d)];grind
end
def Rd (H:Hp)(a:Addr)(u:HO):Prop:=H a=some u\/∃o,H a=some (.frz o u)
theorem Rd.ok (r:Rd H a u) (x:HOk P w H h):z9 P w H h a u:=by
 rcases r with r | ⟨o,r⟩
 ·exact x a u r
 ·obtain⟨_,q⟩:=x a _ r
  lia
noncomputable def Mut:Option HO->Prop
 | some (.lst _)=>True
 | some (.dK _)=>True
 | some (.dT _)=>True
 | some (.set _ _)=>True
 | some (.ins _ _ _)=>True
 | some (.ext _)=>True
 | _=>False
section
variable {P:u5}{w:World}{H:Hp}{h h':Heap}{x e:Addr}{o':HO}
theorem HOk.write (s:HOk P w H h)(f:Mut (H x))(he:e=x\/H e=some (.own x))(k:∀b u,b≠e->h.get? b=some u->h'.get? b=some u)(m:∃u,h'.get? e=some u)
 (l:z9 P w (upd H x o') h' x o'):HOk P w (upd H x o') h':=fun b u q=>by
 have a:∀c y,H c=some (.own y)->c≠x:=fun c y r z=>by subst z;rw[r]at f;exact f
 have i:∀c d,H c=some (.tup d)->c≠x:=fun c d r z=>by subst z;rw[r]at f;exact f
 have g:∀c n d,H c=some (.frz n d)->c≠x:=fun c n d r z=>by subst z;rw[r]at f;exact f
 by_cases hb:b=x
 ·subst hb;rw[Ay]at q;cases q;exact l
 ·rw[Ai hb]at q
  by_cases hbe:b=e
  ·have o:H b=some (.own x):=by
    simp_all
   rw[q]at o;cases o;obtain⟨v,p⟩:=m
   exact⟨v,by rw[hbe];exact p⟩
  ·refine (s b u q).stay (fun c v j r=>k c v ?_ r) (fun c r=>by rw[Ai (a c b r)];exact r) (fun c d r=>by rw[Ai (i c _ r)];exact r) fun c n d r=>by rw[Ai (g c _ _ r)];exact r
   rcases j with rfl | j
   ·exact hbe
   ·rintro rfl
    rcases he with z | z
    ·exact a c b j z
    ·rw[j]at z;cases z;exact hb rfl
end
structure Un (fs ex:v5) (H H':Hp) (h h':Heap):Prop where
 keep:∀b o,h.get? b=some o->H b=none->b∉fs->b∉ex->h'.get? b=some o
 slot:∀b o,h.get? b=some o->H b=none->b∈fs->b∉ex->∃sl,h'.get? b=some { o with slots:=sl }
 free:∀b o,h.get? b=some o->H b=none->b∉ex->H' b=none
 there:∀b o,h.get? b=some o->b∉ex->∃o',h'.get? b=some o'
 tups:∀b xs,H b=some (.tup xs)->H' b=some (.tup xs)
 frzs:∀b o u,H b=some (.frz o u)->H' b=some (.frz o u)
 tbls:∀b q,H b=some (.tbl q)->H' b=some (.tbl q)
section
variable {fs ex:v5}{H H1:Hp}{h h1 h':Heap}{a x e:Addr}{o:HO}
theorem Un.any (u:Un fs ex H H1 h h1) (q:h.get? b=some ob) (n:H b=none) (hx:b∉ex):∃sl,h1.get? b=some { ob with slots:=sl }:=by
 by_cases hb:b∈fs
 ·exact u.slot b _ q n hb hx
 ·exact⟨ob.slots,u.keep b _ q n hb hx⟩
theorem Un.kept (k:∀b u,h.get? b=some u->h'.get? b=some u):Un fs ex H H h h' :=
 ⟨fun b a q _ _ _=>k b _ q,fun b a q _ _ _=>⟨a.slots,k b a q⟩,fun _ _ _ n _=>n,fun b a q _=>⟨a,k b _ q⟩,fun _ _ q=>q,fun _ _ _ q=>q,fun _ _ q=>q⟩
theorem Un.refl:Un fs ex H H h h:=Un.kept fun _ _ q=>q
theorem Un.laid (k:∀b u,h.get? b=some u->h'.get? b=some u)(hp:h.objs.size<=a)(hn:H a=none):Un fs ex H (upd H a o) h h' where
 keep:=fun b u q _ _ _=>k b u q
 slot:=fun b u q _ _ _=>⟨u.slots,k b u q⟩
 free:=fun b u q n _=>by rw[Ai (aL (aN (az q) hp))];exact n
 there:=fun b u q _=>⟨u,k b u q⟩
 tups:=fun b xs q=>by rw[Ai (Bq q hn)];exact q
 frzs:=fun b u xs q=>by rw[Ai (Bq q hn)];exact q
 tbls:=fun b ps q=>by rw[Ai (Bq q hn)];exact q
theorem Un.write (d:Mut (H x))(he:e=x\/H e=some (.own x))(k:∀b u,b≠e->h.get? b=some u->h'.get? b=some u)(f:∃u,h'.get? e=some u):Un fs ex H (upd H x o) h h':=by
 have i:∀b,H b=none->b≠x:=fun b n z=>by subst z;rw[n]at d;exact d
 have c:∀b,H b=none->b≠e:=fun b n z=>by
  grind
 have a:∀b u,H b=some u->¬ Mut (some u)->b≠x:=fun b u q l z=>by simp_all
 refine⟨fun b u q n _ _=>k b u (c b n) q,fun b u q n _ _=>⟨u.slots,k b u (c b n) q⟩,fun b u q n _=>by rw[Ai (i b n)];grind,fun b u q _=>?_,
  fun b g q=>by rw[Ai (a b _ q fun z=>z)];grind,fun b u g q=>by rw[Ai (a b _ q fun z=>z)];grind,fun b j q=>by rw[Ai (a b _ q fun z=>z)];grind⟩
 grind
end
noncomputable def trk (h:Heap)(H:Hp):v5:=(List.range h.objs.size).filter fun a=>(H a).isSome
def Xv (h:Heap)(H:Hp):Heap:=PySem.W.hideAll h (trk h H)
theorem A3y (h:Heap)(H:Hp):(Xv h H).objs.size=h.objs.size:=PySem.W.hideAll_size _ _
theorem Bf9 (e:h.get? b=some o) (n:H b=none):(Xv h H).get? b=some o :=
 PySem.W.hideAll_get _ e fun a=>by
  have q := (dq.mp a).2
  grind
theorem Bl9 (e:(Xv h H).get? b=some o):h.get? b=some o/\H b=none:=by
 have a := PySem.W.of_hideAll _ e
 refine⟨a,?_⟩
 cases q:H b with
 | none=>rfl
 | some x =>
  have c:b∈trk h H:=dq.mpr ⟨cX.mpr (az a),by grind⟩
  have z:(Xv h H).get? b=none:=PySem.W.hideAll_none _ c
  simp_all
noncomputable def Bg4 (g h:Heap)(L:Addr):y_:=(List.range h.objs.size).filterMap fun a=>if a=L\/(g.get? a).isSome=true then none else (h.get? a).map fun o=>(a,o)
def rest (g h:Heap)(L d:Addr):y_:=(Bg4 g h L).filter fun p=>decide (p.1≠d)
noncomputable def A1g (T:Addr)(q:Str):Obj:={ cls:=.str q 0,data:=.cell (some (.ref T)) }
noncomputable def V7 (o:Obj):Option (Addr×Str):=match o.data with
 | .cell (some (.ref T))=>(match o.cls with
  | .str q _=>some (T,q)
  | _=>none)
 | _=>none
def Fp (K:v8):List (Addr×Str):=K.filterMap fun p=>V7 p.2
structure Mod (K:v8) (mg:x_) (base:Heap):Prop where
 kin:K.In base
 glob:base.Ns mainGlobals mg
 blt:∃mb,base.Ns builtinsNs mb/\∀x:Str,x ≠ "__name__" -> mb x=bootBuiltins x
 nolimit:base.NoLimit
 bmod:∃bm o,mg "__builtins__" = some (.ref bm)/\bm≠builtinsNs/\bm≠mainGlobals/\base.get? bm=some o/\o.cls=.type "module" /\ o.dict=some builtinsNs/\o.data=.plain
structure Cx where
 prog:u5
 w:World
 K:v8
 mg:x_
 base:Heap
 A:t_
 N:v4
 s₀:u_
 H₀:Hp
 env:Env
 outer:List Env
 stack:List Env
 ex:v5
 fn:Str->Bool
 calm:Bool
 pn:y_
 xe:z_
noncomputable def frs (l:List Env):v5:=l.filterMap (·.frame)
abbrev Cx.fs (X:Cx):v5:=frs X.outer
def Vis (sc:Scope)(x:Str):Prop:=sc.names.lookup x=some .local\/sc.names.lookup x=some .cell\/sc.names.lookup x=some .free
def Loc (sc:Scope)(x:Str):Prop:=sc.names.lookup x=some .local\/sc.names.lookup x=some .cell
def Look (env:Env)(h:Heap)(m:x_)(x:Str)(u:Value):Prop :=
 (env.kindOf x=some .local/\m x=some u)\/((env.kindOf x=some .cell\/env.kindOf x=some .free)/\∃c,env.cells.lookup x=some c/\h.IsCell c (some u))
structure Cx.Ok (X:Cx):Prop where
 mod:Mod X.K X.mg X.base
 kind:X.env.scope.kind=.function
 glob:X.env.globals=mainGlobals
 blt:X.env.builtins=builtinsNs
 above:X.s₀.heap.objs.size<=X.env.locals
 inj:∀x y c,X.env.cells.lookup x=some c->X.env.cells.lookup y=some c->x=y
 has:∀x,(X.env.kindOf x=some .cell\/X.env.kindOf x=some .free)->∃c,X.env.cells.lookup x=some c
 cab:∀x c,X.fn x=true->X.env.cells.lookup x=some c->X.s₀.heap.objs.size<=c
 hd:X.calm=true->X.A.handled=none
 frames:X.A.frames=some X.stack
 stk:X.stack=X.outer\/(X.stack=X.env::X.outer/\X.env.frame=some X.env.locals)
 exf:∀b∈X.ex,b≠X.env.locals/\∀x c,X.env.cells.lookup x=some c->c≠b
 bs:∀b o,X.base.get? b=some o->X.s₀.heap.get? b=some o/\X.H₀ b=none
 bsz:X.base.objs.size<=X.s₀.heap.objs.size
 noex:∀b o,X.base.get? b=some o->b∉X.ex
 exfs:∀b∈X.ex,b∉X.fs
 funs:X.s₀.heap.FunFrames X.base X.outer
 frf:∀b∈X.fs,X.H₀ b=none
 tab:∀p∈Fp X.K,X.H₀ p.1=some (.tbl p.2)
structure Inv (X:Cx) (pins:y_) (σ:List (Option V)) (H:Hp) (s:u_):Prop where
 ok:X.Ok
 os:s.os=X.s₀.os
 bare:AllBare s.gens
 base:Un X.fs X.ex X.H₀ H X.s₀.heap s.heap
 loc:∃m,s.heap.Ns X.env.locals m/\∀(i:Nat) (x:Str) (v:V),X.N[i]?=some x->σ[i]?=some (some v)->Vis X.env.scope x->∃u,RelV v u/\Look X.env s.heap m x u
 cell:∀x c,X.env.cells.lookup x=some c->∃v,s.heap.IsCell c v
 free:H X.env.locals=none
 freeC:∀x c,X.env.cells.lookup x=some c->H c=none
 pin:∀p∈X.pn++pins,s.heap.get? p.1=some p.2/\H p.1=none/\p.1≠X.env.locals/\p.1∉X.fs/\∀v,p.2.data≠.cell v
 hok:HOk X.prog X.w H s.heap
 len:σ.length=X.N.length
section
variable {X:Cx}{pins:y_}{σ:List (Option V)}{H H':Hp}{s:u_}{h':Heap}
theorem Cx.Ok.nofr (c:X.Ok) (e:X.base.get? b=some o):b∉X.fs:=fun a=>by
 have:=(c.funs.mem a).1
 simp_all
theorem Inv.bs (I:Inv X pins σ H s):∀b o,X.base.get? b=some o->s.heap.get? b=some o/\H b=none:=fun b o e =>
 ⟨I.base.keep b o (I.ok.bs b o e).1 (I.ok.bs b o e).2 (I.ok.nofr e) (I.ok.noex b o e),I.base.free b o (I.ok.bs b o e).1 (I.ok.bs b o e).2 (I.ok.noex b o e)⟩
theorem Inv.bk (I:Inv X pins σ H s):∀b o,X.base.get? b=some o->s.heap.get? b=some o:=fun b o e=>(I.bs b o e).1
theorem Inv.mod (I:Inv X pins σ H s):Mod X.K X.mg X.base:=I.ok.mod
theorem Inv.kIn (I:Inv X pins σ H s):X.K.In s.heap:=I.ok.mod.kin.keeps I.bk
theorem Inv.fr (I:Inv X pins σ H s):∃m,Fr X.base X.env.locals s.heap m :=
 let ⟨m,hn,_⟩:=I.loc
 ⟨m,hn,I.bk,au I.ok.bsz I.ok.above⟩
theorem Inv.lt (I:Inv X pins σ H s):X.env.locals<s.heap.objs.size:=let ⟨_,hn,_⟩:=I.loc;hn.lt
theorem Inv.sz (I:Inv X pins σ H s):X.s₀.heap.objs.size<=s.heap.objs.size:=au I.ok.above (gO I.lt)
theorem Inv.nofs (I:Inv X pins σ H s) (h:s.heap.objs.size<=a):a∉X.fs:=fun c=>by
 obtain⟨_,o,b,_⟩:=I.ok.funs.mem c;exact absurd (aN (az b) (au I.sz h)) (bI _)
theorem Inv.cne (I:Inv X pins σ H s):∀x c,X.env.cells.lookup x=some c->c≠X.env.locals:=fun x c e z=>by
 obtain⟨v,o,d,i⟩:=I.cell x c e;obtain⟨m,⟨f,g,h,a,b,_⟩,_⟩:=I.loc
 simp_all
theorem Inv.funs (I:Inv X pins σ H s):s.heap.FunFrames X.base X.outer:=by
 have d:∀(l:List _),(∀b∈frs l,b∈X.fs)->X.s₀.heap.FunFrames X.base l->s.heap.FunFrames X.base l:=by
  intro l
  induction l with
  | nil=>intro _ _;trivial
  | cons h r j =>
   intro g q;obtain⟨i,⟨L,o,f,k,m,n⟩,p⟩:=q
   have c := g L (by unfold frs;simp_all)
   obtain⟨t,e⟩:=I.base.slot L o m (I.ok.frf L c) c fun z=>I.ok.exfs L z c
   exact⟨i,⟨L,_,f,k,e,n⟩,j (fun b a=>g b (by unfold frs;rw[fj,f];exact aY _ a)) p⟩
 exact d _ (fun _ a=>a) I.ok.funs
theorem Inv.stack (I:Inv X pins σ H s):s.heap.FunFrames X.base X.stack:=by
 rcases I.ok.stk with e | ⟨e,b⟩
 ·rw[e];exact I.funs
 ·rw[e]
  obtain⟨m,a,_⟩:=I.loc
  refine .cons (by rw[I.ok.kind];decide) b a ?_ I.funs
  exact Heap.get?_none_of_le (au I.ok.bsz I.ok.above)
theorem Inv.stkSub (I:Inv X pins σ H s):∀b∈frs X.stack,b∈X.env.locals::X.fs:=fun b a=>by
 rcases I.ok.stk with e | ⟨e,c⟩
 ·simp_all
 ·rw[e]at a
  unfold frs at a;rw[fj,c]at a;exact a
theorem Inv.stkFree (I:Inv X pins σ H s):∀b∈frs X.stack,H b=none:=fun b a=>by
 rcases aB.mp (I.stkSub b a) with e | a
 ·rw[e];exact I.free
 ·obtain⟨_,o,c,_⟩:=I.ok.funs.mem a
  exact I.base.free b o c (I.ok.frf b a) fun z=>I.ok.exfs b z a
theorem Inv.step {ch:v5}(I:Inv X pins σ H s)
 (j:∀b∈ch,(b∈X.ex\/X.s₀.heap.objs.size<=b)/\b≠X.env.locals/\(∀x c,X.env.cells.lookup x=some c->c≠b)/\∀p∈X.pn++pins,p.1≠b)
 (t:∀b o,b≠X.env.locals->b∉X.fs->b∉ch->s.heap.get? b=some o->H b=none->h'.get? b=some o)
 (slot:∀b o,b≠X.env.locals->b∈X.fs->b∉ch->s.heap.get? b=some o->H b=none->∃L,h'.get? b=some { o with slots:=L }) (f:∀b o,b∉ch->s.heap.get? b=some o->H b=none->H' b=none)
 (w:∀b o,b∉ch->s.heap.get? b=some o->∃O,h'.get? b=some O)
 (D:∀b J,H b=some (.tup J)->H' b=some (.tup J)) (F:∀b o u,H b=some (.frz o u)->H' b=some (.frz o u)) (C:∀b q,H b=some (.tbl q)->H' b=some (.tbl q))
 (ns:∀m,s.heap.Ns X.env.locals m->h'.Ns X.env.locals m) (N:HOk X.prog X.w H' h') (hg:AllBare g') :
 Inv X pins σ H' { s with heap:=h',gens:=g',drawn:=d',toks:=t' }:=by
 have G:∀b o,X.s₀.heap.get? b=some o->b≠X.env.locals:=fun b o e=>aL (aN (az e) I.ok.above)
 have h:∀b o,X.s₀.heap.get? b=some o->b∉X.ex->b∉ch:=fun b o e a A=>by
  rcases (j b A).1 with z | z
  ·exact a z
  ·exact absurd (aN (az e) z) (bI _)
 have g:∀x c,X.env.cells.lookup x=some c->∀v,s.heap.IsCell c v->h'.IsCell c v:=fun x c e v ⟨o,B,K⟩=>by
  have E:c∉ch:=fun z=>(j c z).2.2.1 x c e rfl
  by_cases hc:c∈X.fs
  ·obtain⟨L,q⟩:=slot c o (I.cne x c e) hc E B (I.freeC x c e)
   exact⟨_,q,K⟩
  ·exact⟨o,t c o (I.cne x c e) hc E B (I.freeC x c e),K⟩
 refine⟨I.ok,I.os,hg,⟨fun b o e n A a=>?_,fun b o e n A a=>?_,fun b o e n a=>?_,fun b o e a=>?_,fun b J e=>D b _ (I.base.tups b _ e),fun b o J e=>F b o _ (I.base.frzs b o _ e),fun b V e=>?_⟩,?_,fun x c e=>?_,?_,fun x c e=>?_,fun p Q=>?_,N,I.len⟩
 ·exact t b o (G b o e) A (h b o e a) (I.base.keep b o e n A a) (I.base.free b o e n a)
 ·obtain⟨L,y⟩:=I.base.slot b o e n A a
  obtain⟨P,M⟩:=slot b _ (G b o e) A (h b o e a) y (I.base.free b o e n a);exact⟨P,M⟩
 ·obtain⟨O,y⟩:=I.base.there b o e a
  exact f b _ (h b o e a) y (I.base.free b o e n a)
 ·obtain⟨O,y⟩:=I.base.there b o e a
  exact w b _ (h b o e a) y
 ·exact C b _ (I.base.tbls b _ e)
 ·obtain⟨m,R,S⟩:=I.loc
  refine⟨m,ns m R,fun i x v y M T=>?_⟩
  obtain⟨u,r,l⟩:=S i x v y M T
  refine⟨u,r,?_⟩
  rcases l with l | ⟨k,c,e,z⟩
  ·exact .inl l
  ·exact .inr ⟨k,c,e,g x c e _ z⟩
 ·obtain⟨v,z⟩:=I.cell x c e
  exact⟨v,g x c e v z⟩
 ·obtain⟨m,⟨o,_,_,B,_⟩,_⟩:=I.loc
  exact f _ o (fun z=>(j _ z).2.1 rfl) B I.free
 ·obtain⟨v,o,B,K⟩:=I.cell x c e
  exact f c o (fun z=>(j c z).2.2.1 x c e rfl) B (I.freeC x c e)
 ·obtain⟨e,n,W,U,d⟩:=I.pin p Q
  grind
theorem Inv.un (I:Inv X pins σ H s) (u:Un X.fs [] H H' s.heap h') (g:HOk X.prog X.w H' h'):Inv X pins σ H' { s with heap:=h',toks:=t' }:=by
 obtain⟨m,⟨o,l,v,h,r⟩,_⟩:=id I.loc
 obtain⟨q,j⟩:=u.any h I.free (by simp)
 exact I.step (ch:=[]) (fun _ z=>nomatch z) (fun b o _ c _ e n=>u.keep b o e n c (by simp)) (fun b o _ c _ e n=>u.slot b o e n c (by simp)) (fun b o _ e n=>u.free b o e n (by simp)) (fun b o _ e=>u.there b o e (by simp)) u.tups u.frzs u.tbls (fun t i=>by
  obtain⟨p,d,f,a,k⟩:=i;rw[h]at a;cases a
  exact⟨_,d,f,j,k⟩) g I.bare
theorem Inv.call (I:Inv X pins σ H s) (u:Un (frs X.stack) ch H H' s.heap h') (g:HOk X.prog X.w H' h') (hg:AllBare g')
 (d:∀b∈ch,(b∈X.ex\/X.s₀.heap.objs.size<=b)/\b≠X.env.locals/\(∀x c,X.env.cells.lookup x=some c->c≠b)/\∀p∈X.pn++pins,p.1≠b) :
 Inv X pins σ H' { s with heap:=h',gens:=g',drawn:=d',toks:=t' }:=by
 obtain⟨m,⟨o,v,A,k,r⟩,_⟩:=id I.loc
 obtain⟨y,h⟩:=u.any k I.free fun z=>(d _ z).2.1 rfl
 exact I.step d (fun b o h q a e n=>u.keep b o e n (fun z=>(aB.mp (I.stkSub b z)).elim h q) a) (fun b o _ _ a e n=>u.any e n a) (fun b o a e n=>u.free b o e n a) (fun b o a e=>u.there b o e a) u.tups u.frzs u.tbls (fun B t=>by
  obtain⟨w,j,i,f,l⟩:=t;rw[k]at f;cases f
  exact⟨_,j,i,h,l⟩) g hg
theorem Inv.turned (I:Inv X pins σ H s) (k:∀b o,b≠it->s.heap.get? b=some o->h'.get? b=some o) (hn:H it=none) (h:it≠X.env.locals)
 (h1:it∈X.ex\/X.s₀.heap.objs.size<=it) (h2:∀x c,X.env.cells.lookup x=some c->c≠it) (j:∀p∈X.pn++pins,p.1≠it):Inv X pins σ H { s with heap:=h',toks:=t' }:=by
 refine I.step (ch:=[it]) (fun b t=>?_) (fun b o _ _ a e _=>k b o (fun z=>a (by grind)) e) (fun b o _ _ a e _=>⟨o.slots,k b o (fun z=>a (by grind)) e⟩) (fun _ _ _ _ n=>n)
  (fun b o a e=>⟨o,k b o (fun z=>a (by grind)) e⟩) (fun _ _ e=>e) (fun _ _ _ e=>e) (fun b l e=>e) (fun m g=>?_) (fun b u e=>?_) I.bare
 ·grind
 ·obtain⟨o,f,i,d,r⟩:=g
  exact⟨o,f,i,k _ o (aG h) d,r⟩
 ·refine (I.hok b u e).stay (fun c v a q=>k c v ?_ q) (fun _ q=>q) fun _ _ q=>q
  grind
theorem Inv.tok (I:Inv X pins σ H s)(t:Nat):Inv X pins σ H { s with toks:=t }:=I.un Un.refl I.hok
theorem Inv.kept (I:Inv X pins σ H s) (k:∀b u,s.heap.get? b=some u->h'.get? b=some u):Inv X pins σ H { s with heap:=h',toks:=t' }:=I.un (Un.kept k) (I.hok.kept k)
theorem Inv.laid (I:Inv X pins σ H s) (k:∀b u,s.heap.get? b=some u->h'.get? b=some u) (hp:s.heap.objs.size<=a) (c:z9 X.prog X.w (upd H a o) h' a o) :
 Inv X pins σ (upd H a o) { s with heap:=h',toks:=t' }:=I.un (Un.laid k hp (I.hok.fresh hp)) (I.hok.laid k hp c)
theorem Inv.write (I:Inv X pins σ H s) (d:Mut (H x)) (he:e=x\/H e=some (.own x)) (k:∀b u,b≠e->s.heap.get? b=some u->h'.get? b=some u) (a:∃u,h'.get? e=some u)
 (c:z9 X.prog X.w (upd H x o) h' x o):Inv X pins σ (upd H x o) { s with heap:=h',toks:=t' }:=I.un (Un.write d he k a) (I.hok.write d he k a c)
theorem Inv.pins_of (I:Inv X pins σ H s) (h:∀p∈a,s.heap.get? p.1=some p.2/\H p.1=none/\p.1≠X.env.locals/\p.1∉X.fs/\∀v,p.2.data≠.cell v):Inv X a σ H s :=
 ⟨I.ok,I.os,I.bare,I.base,I.loc,I.cell,I.free,I.freeC,fun p b=>(bC.mp b).elim (fun z=>I.pin p (bJ _ z)) (h p),I.hok,I.len⟩
theorem An6 {N:v4}(hN:N.Nodup){i j:Nat} (a:N[i]?=some x) (b:N[j]?=some x):i=j:=by
 obtain⟨e,d⟩:=aZ.mp a;obtain⟨f,c⟩:=aZ.mp b;exact(List.getElem_inj hN).mp (d.trans c.symm)
noncomputable abbrev Fv (X:Cx)(x:Str):=X.fn x=true\/X.env.scope.names.lookup x=some .local
theorem Zk (I:Inv X pins σ H s) (hN:X.N.Nodup) (hi:X.N[i]?=some x) (hx:Loc X.env.scope x) (r:RelV v u)
 (h:∀s',Inv X pins (σ.set i (some v)) H s'->(∃a,Heap.SameBut a s.heap s'.heap/\(a=X.env.locals\/X.env.cells.lookup x=some a))->Q () s') (hf:Fv X x:=by first | exact .inl rfl | exact .inr rfl | assumption):wpAny M A (storeName X.env x u) Q E s:=by
 obtain⟨m,S,hl⟩:=id I.loc
 have K:(X.env.scope.kind==.class||(X.env.scope.kind==.module&&X.env.locals != X.env.globals))=false:=by rw[I.ok.kind];rfl
 have C:i<σ.length:=by rw[I.len];exact(aZ.mp hi).1
 have J:=I.cne
 have g:∀{a:Addr} {L:Heap},(∃o,s.heap.get? a=some o/\H a=none)->Heap.SameBut a s.heap L->HOk X.prog X.w H L:=fun {a L} ha f b ob e=>by
  obtain⟨_,_,w⟩:=ha
  refine (I.hok b ob e).stay (fun c w' t q=>(f.2 c ?_).trans q) (fun _ q=>q) fun _ _ q=>q
  rintro rfl
  rcases t with rfl | t
  ·rw[w]at e;cases e
  ·rw[w]at t;cases t
 rcases hx with D | D
 ·refine wpAny_storeName_local D S (fun L hn' f=>?_) K
  obtain⟨oL,_,_,hoL,_⟩:=id S
  refine h _ ⟨I.ok,I.os,I.bare,⟨fun b o e n F hx=>?_,fun b o e n F hx=>?_,I.base.free,fun b o e hx=>?_,I.base.tups,I.base.frzs,I.base.tbls⟩,⟨_,hn',fun j y v' l B T=>?_⟩,fun y c e=>?_,I.free,I.freeC,fun p U=>?_,g ⟨oL,hoL,I.free⟩ f,by simpa using I.len⟩ ⟨_,f,.inl rfl⟩
  ·exact(f.2 b (aL (aN (az e) I.ok.above))).trans (I.base.keep b o e n F hx)
  ·obtain⟨W,l⟩:=I.base.slot b o e n F hx
   exact⟨W,(f.2 b (aL (aN (az e) I.ok.above))).trans l⟩
  ·obtain⟨Y,l⟩:=I.base.there b o e hx
   exact⟨Y,(f.2 b (aL (aN (az e) I.ok.above))).trans l⟩
  ·by_cases hj:j=i
   ·subst hj
    rw[hi]at l;cases l;rw[cB C]at B
    cases B
    exact⟨u,r,.inl ⟨D,by simp⟩⟩
   ·rw[cL (aG hj)]at B
    obtain⟨Z,r',q⟩:=hl j y _ l B T
    refine⟨Z,r',?_⟩
    rcases q with ⟨k,e⟩ | ⟨k,c,e,z⟩
    ·refine .inl ⟨k,?_⟩
     have:y≠x:=fun e=>hj (An6 hN l (e▸hi))
     simp[this,e]
    ·exact .inr ⟨k,c,e,z.sameBut f (J y c e)⟩
  ·obtain⟨w',z⟩:=I.cell y c e
   exact⟨w',z.sameBut f (J y c e)⟩
  ·obtain⟨e,n,R,nf,d⟩:=I.pin p U
   exact⟨(f.2 _ R).trans e,n,R,nf,d⟩
 ·have G:X.fn x=true:=by
   rcases hf with z | z
   ·exact z
   ·rw[z]at D;cases D
  obtain⟨c,t⟩:=I.ok.has x (.inl D);obtain⟨w',z⟩:=I.cell x c t
  refine wpAny_storeName_cell I.ok.kind D t z fun L N f=>?_
  obtain⟨oc,P,O⟩:=id z
  refine h _ ⟨I.ok,I.os,I.bare,⟨fun b o e n F hx=>?_,fun b o e n F hx=>?_,I.base.free,fun b o e hx=>?_,I.base.tups,I.base.frzs,I.base.tbls⟩,⟨m,S.sameBut f (aG (J x c t)),fun j y v' l B T=>?_⟩,fun y c' e=>?_,I.free,I.freeC,fun p U=>?_,g ⟨oc,P,I.freeC x c t⟩ f,by simpa using I.len⟩ ⟨c,f,.inr t⟩
  ·exact(f.2 b (aL (aN (az e) (I.ok.cab x c G t)))).trans (I.base.keep b o e n F hx)
  ·obtain⟨W,l⟩:=I.base.slot b o e n F hx
   exact⟨W,(f.2 b (aL (aN (az e) (I.ok.cab x c G t)))).trans l⟩
  ·obtain⟨Y,l⟩:=I.base.there b o e hx
   exact⟨Y,(f.2 b (aL (aN (az e) (I.ok.cab x c G t)))).trans l⟩
  ·by_cases hj:j=i
   ·subst hj
    rw[hi]at l;cases l;rw[cB C]at B
    cases B
    exact⟨u,r,.inr ⟨.inl D,c,t,N⟩⟩
   ·rw[cL (aG hj)]at B
    obtain⟨Z,r',q⟩:=hl j y _ l B T
    refine⟨Z,r',?_⟩
    rcases q with q | ⟨k,c',e,z'⟩
    ·exact .inl q
    ·refine .inr ⟨k,c',e,z'.sameBut f ?_⟩
     rintro rfl
     exact hj (An6 hN l (I.ok.inj _ _ _ e t▸hi))
  ·by_cases hcc:c'=c
   ·subst hcc;exact⟨_,N⟩
   ·obtain⟨w2,z2⟩:=I.cell y _ e
    exact⟨w2,z2.sameBut f hcc⟩
  ·obtain⟨e,n,R,nf,d⟩:=I.pin p U
   refine⟨(f.2 _ ?_).trans e,n,R,nf,d⟩
   intro q;rw[q,P]at e
   exact d _ (by rw[<- (cR e)];exact O)
theorem Qu (I:Inv X pins σ H s) (hN:X.N.Nodup) (hi:X.N[i]?=some x) (hx:Loc X.env.scope x) (r:RelV v u)
 (h:∀a,Inv X pins (σ.set i (some v)) H a->Q () a) (hf:Fv X x:=by first | exact .inl rfl | exact .inr rfl | assumption):wpAny M A (storeName X.env x u) Q E s :=
 Zk I hN hi hx r (fun a b _=>h _ b) hf
theorem Inv.call' (I:Inv X pins σ H s) (ho:s'.os=s.os) (u:Un (frs X.stack) ch H H' s.heap s'.heap) (d:HOk X.prog X.w H' s'.heap) (hg:AllBare s'.gens)
 (a:∀b∈ch,(b∈X.ex\/X.s₀.heap.objs.size<=b)/\b≠X.env.locals/\(∀x c,X.env.cells.lookup x=some c->c≠b)/\∀p∈X.pn++pins,p.1≠b):Inv X pins σ H' s':=by
 obtain⟨f,g,h,i,e⟩:=s';subst ho;exact I.call u d hg a
end
abbrev XK:=Value->Option Addr->Hp->Prop
abbrev St:=List (Option V)
abbrev VK:=V->Hp->Prop
abbrev TE:=St->Hp->VK->Prop
abbrev TT:=St->Hp->(Bool->Hp->Prop)->Prop
abbrev TA:=St->Hp->(n7->Hp->Prop)->Prop
structure Ends where
 nx:St->Hp->Prop
 rt:VK
 bk:St->Hp->Prop:=fun _ _=>False
 ct:St->Hp->Prop:=fun _ _=>False
abbrev TS:=Ends->St->Hp->Prop
def EP (X:Cx)(pins:y_)(σ:St)(Q:VK)(u:Value)(s':u_):Prop:=∃v H',Inv X pins σ H' s'/\RelV v u/\Q v H'
def TP (X:Cx)(pins:y_)(σ:St)(Q:Bool->Hp->Prop)(b:Bool)(s':u_):Prop:=∃H',Inv X pins σ H' s'/\Q b H'
def AP (X:Cx)(pins:y_)(σ:St)(Q:n7->Hp->Prop)(us:w6)(s':u_):Prop:=∃vs H',Inv X pins σ H' s'/\Vals vs us/\Q vs H'
def SP (X:Cx)(pins:y_)(D:Ends)(f:Flow)(s':u_):Prop :=
 match f with
 | .next=>∃σ' H',Inv X pins σ' H' s'/\D.nx σ' H'
 | .brk=>∃σ' H',Inv X pins σ' H' s'/\D.bk σ' H'
 | .cont=>∃σ' H',Inv X pins σ' H' s'/\D.ct σ' H'
 | .ret u=>∃v σ' H',Inv X pins σ' H' s'/\RelV v u/\D.rt v H'
def PE (X:Cx)(e:Expr)(t:TE):Prop :=
 ∀(pins:y_) (s:u_) (σ:St) (H:Hp) (Q:VK),Inv X pins σ H s->t σ H Q->wpAny (model X.prog X.w) X.A (eval e X.env) (EP X pins σ Q) X.xe s
structure QE (X:Cx) (e:Expr) (t:TE):Prop where
 get:PE X e t
def PT (X:Cx)(e:Expr)(t:TT):Prop :=
 ∀(pins:y_) (s:u_) (σ:St) (H:Hp) (Q:Bool->Hp->Prop),Inv X pins σ H s->t σ H Q->wpAny (model X.prog X.w) X.A (isTrue e X.env (eval e X.env)) (TP X pins σ Q) X.xe s
structure QT (X:Cx) (e:Expr) (t:TT):Prop where
 get:PT X e t
def PW (X:Cx)(e:Expr)(t:TT):Prop :=
 ∀(whole:Sem Value) (pins:y_) (s:u_) (σ:St) (H:Hp) (Q:Bool->Hp->Prop),Inv X pins σ H s->t σ H Q->wpAny (model X.prog X.w) X.A (isTrue e X.env whole) (TP X pins σ Q) X.xe s
structure QW (X:Cx) (e:Expr) (t:TT):Prop where
 get:PW X e t
theorem PW.pt (h:PW X e t):PT X e t:=h _
def PA (X:Cx)(es:v9)(t:TA):Prop :=
 ∀(pos:Pos) (pins:y_) (s:u_) (σ:St) (H:Hp) (Q:n7->Hp->Prop),Inv X pins σ H s->t σ H Q->wpAny (model X.prog X.w) X.A (spliced (backTo pos (starEach es X.env))) (AP X pins σ Q) X.xe s
structure QA (X:Cx) (e:(v9)) (t:TA):Prop where
 get:PA X e t
def PS (X:Cx)(st:Stmt)(t:TS):Prop :=
 ∀(pins:y_) (s:u_) (σ:St) (H:Hp) (D:Ends),Inv X pins σ H s->t D σ H->wpAny (model X.prog X.w) X.A (exec st X.env) (SP X pins D) X.xe s
structure QS (X:Cx) (st:Stmt) (t:TS):Prop where
 get:PS X st t
def PSs (X:Cx)(st:List Stmt)(t:TS):Prop :=
 ∀(pins:y_) (s:u_) (σ:St) (H:Hp) (D:Ends),Inv X pins σ H s->t D σ H->wpAny (model X.prog X.w) X.A (execs st X.env) (SP X pins D) X.xe s
structure QSs (X:Cx) (st:(List Stmt)) (t:TS):Prop where
 get:PSs X st t
theorem thn {t:Sem c}{Q b:c->u_->Prop} (h:wpAny M A t Q E s) (d:∀a s,Q a s->b a s):wpAny M A t b E s:=aU h d fun _ _ x=>x
section
variable {X:Cx}
def Aq7 (i:Nat):TE:=fun σ H Q=>∃v,σ[i]?=some (some v)/\Q v H
def tC (v:V):TE:=fun _ H Q=>Q v H
theorem Be4 {f:Pos}(hN:X.N[i]?=some x) (hv:Vis X.env.scope x) (hd:(x==("__debug__" : Str))=false:=by decide) (hcd:(x==("__classdict__" : Str))=false:=by decide):PE X (.Name x f) (Aq7 i):=by
 intro j s p H Q I h;obtain⟨v,e,h⟩:=h;obtain⟨m,k,n⟩:=I.loc;obtain⟨u,r,l⟩:=n i x v hN e hv;have b:EP X _ _ Q u s:=⟨v,H,I,r,h⟩
 rcases l with ⟨d,o⟩ | ⟨d,c,g,a⟩
 ·exact wpAny_Name (wpAny_loadName_local I.ok.kind d k o b) hd
 ·rcases d with d | d
  ·exact wpAny_Name (wpAny_loadName_cell I.ok.kind d g a b) hd
  ·exact wpAny_Name (wpAny_loadName_free I.ok.kind d g a b hcd) hd
theorem A6i : PE X (.Constant (.int i) j a) (tC (.int i)):=fun _ _ _ H _ I h=>wpAny_Constant_int ⟨.int i,H,I.tok _,⟨_,rfl⟩,h⟩
theorem Bv5 : PE X (.Constant (.bool b) j a) (tC (.bl b)):=fun _ _ _ H _ I h=>Constant_bool ⟨.bl b,H,I,rfl,h⟩
theorem A9u : PE X (.Constant .none j a) (tC .non):=fun _ _ _ H _ I h=>Constant_none ⟨.non,H,I,rfl,h⟩
theorem A8q : PE X (.Constant (.str x) j a) (tC (.str x)):=fun _ _ _ H _ I h=>Calls.Constant_str ⟨.str x,H,I.tok _,⟨_,rfl⟩,h⟩
def Gl (X:Cx)(x:Str):Prop:=X.env.kindOf x=some .globalImplicit
theorem A1x (I:Inv X pins b H s) (hg:Gl X x) (hm:X.mg x=some u) (h:Q u s)
 (hd:(x==("__debug__" : Str))=false:=by decide):wpAny (model X.prog X.w) X.A (eval (.Name x a) X.env) Q E s :=
 Calls.Name_function_global I.ok.kind hg (Calls.loadGlobal_global (by rw[I.ok.glob];exact I.mod.glob.keeps I.bk) hm h) hd
theorem Jf {E:z_} {a:Pos} (I:Inv X pins c H s) (hg:Gl X x) (hm:X.mg x=none) (hv:bootBuiltins x=some u) (h:Q u s)
 (hn:x ≠ "__name__" := by decide) (hd:(x==("__debug__" : Str))=false:=by decide):wpAny (model X.prog X.w) X.A (eval (.Name x a) X.env) Q E s:=by
 obtain⟨e,d,b⟩:=I.mod.blt
 exact Calls.Name_function_global I.ok.kind hg (Calls.loadGlobal_builtin (by rw[I.ok.glob];exact I.mod.glob.keeps I.bk) hm (by rw[I.ok.blt];exact d.keeps I.bk) ((b x hn).trans hv) h) hd
theorem Bq4 (hg:Gl X x) (hm:X.mg x=some u) (r:RelV v u) (hd:(x==("__debug__" : Str))=false:=by decide):PE X (.Name x a) (tC v) :=
 fun _ _ _ H _ I h=>A1x I hg hm ⟨v,H,I,r,h⟩ hd
theorem Bi2 {a:Pos}(hg:Gl X x) (hm:X.mg x=none) (hv:bootBuiltins x=some u) (r:RelV v u) (hn:x ≠ "__name__" := by decide) (hd:(x==("__debug__" : Str))=false:=by decide):PE X (.Name x a) (tC v) :=
 fun _ _ _ H _ I h=>Jf I hg hm hv ⟨v,H,I,r,h⟩ hn hd
variable {a b:Expr}{ta tb:TE}{pos:Pos}
def tB (t:TE):TT:=fun σ H Q=>t σ H fun x H1=>∃c,x=.bl c/\Q c H1
theorem Jy (h:QE X e t) (he:∀whole,isTrue e X.env whole=(do let v <- whole;standAt e.pos;holding [v] (truthy v)):=by intro _;rfl):QT X e (tB t):=by
 refine⟨?_⟩
 intro a s σ H Q I f
 refine isTrue_plain (thn (h.1 _ s _ H _ I f) fun v s1 ⟨x,g,b,c,i⟩=>?_) (he _)
 obtain⟨d,rfl,q⟩:=i
 cases c
 exact dH ⟨g,b,q⟩
variable {tA tB':TT}{rest:v9}
def B5x (t u:TT):TT:=fun σ H Q=>t σ H fun c H1=>if c=true then u σ H1 Q else Q false H1
def tOr (t u:TT):TT:=fun σ H Q=>t σ H fun c H1=>if c=true then Q true H1 else u σ H1 Q
def B6g (t:TT):TT:=fun σ H Q=>t σ H fun c H1=>Q (!c) H1
theorem A0v (ha:QT X a tA):QW X (.BoolOp .And [a] pos) tA:=by
 refine⟨?_⟩
 intro f b s g H Q I h
 refine isTrue_and (thn (ha.1 _ s _ H Q I h) fun c d e=>?_)
 cases c with
 | true=>exact isTrue_and_nil e
 | false=>exact e
theorem Vm (ha:QT X a tA):QW X (.BoolOp .Or [a] pos) tA:=by
 refine⟨?_⟩
 intro f b s g H Q I h
 refine isTrue_or (thn (ha.1 _ s _ H Q I h) fun c d e=>?_)
 cases c with
 | false=>exact isTrue_or_nil e
 | true=>exact e
theorem A8p (ha:QT X a tA)(hb:QW X (.BoolOp .And (b::rest) pos) tB'):QW X (.BoolOp .And (a::b::rest) pos) (B5x tA tB'):=by
 obtain⟨hb⟩:=hb
 refine⟨?_⟩
 intro g d s k H Q I h
 refine isTrue_and (thn (ha.1 _ s _ H _ I h) fun c i ⟨j,f,e⟩=>?_)
 cases c with
 | true=>exact hb _ _ _ _ _ Q f e
 | false=>trivial
theorem Ao5 (ha:QT X a tA)(hb:QW X (.BoolOp .Or (b::rest) pos) tB'):QW X (.BoolOp .Or (a::b::rest) pos) (tOr tA tB'):=by
 obtain⟨hb⟩:=hb
 refine⟨?_⟩
 intro g d s k H Q I h
 refine isTrue_or (thn (ha.1 _ s _ H _ I h) fun c i ⟨j,f,e⟩=>?_)
 cases c with
 | true=>assumption
 | false=>exact hb _ _ _ _ _ Q f e
theorem A6s (ha:QT X a tA):QT X (.UnaryOp .Not a pos) (B6g tA):=by
 refine⟨?_⟩
 intro b s c H Q I h;exact isTrue_not (ha.1 _ s _ H _ I h)
def Bt9 (ta tb:TE):TE:=fun σ H Q=>ta σ H fun x H1=>∃c,x=.bl c/\if c=true then tb σ H1 Q else Q (.bl false) H1
def Bv8 (ta:TE):TE:=fun σ H Q=>ta σ H fun x H1=>∃c,x=.bl c/\Q (.bl (!c)) H1
theorem Bz5 (h:PE X a t):PE X (.BoolOp op [a] pos) t:=fun b s d H Q I c=>BoolOp_one (h _ s _ H Q I c)
theorem Xd (ha:QE X a ta)(hb:QE X (.BoolOp .And (b::rest) pos) tb):QE X (.BoolOp .And (a::b::rest) pos) (Bt9 ta tb):=by
 obtain⟨hb⟩:=hb
 refine⟨?_⟩
 intro e s σ H Q I h
 refine BoolOp_and (thn (ha.1 _ s _ H _ I h) fun v s1 ⟨x,i,f,g,d⟩=>?_)
 obtain⟨c,rfl,d⟩:=d
 cases g
 refine dH ?_
 cases c with
 | true=>exact hb _ _ _ _ Q f d
 | false=>exact⟨.bl _,i,f,rfl,d⟩
theorem B0j (ha:QE X a ta):QE X (.UnaryOp .Not a pos) (Bv8 ta):=by
 refine⟨?_⟩
 intro d s σ H Q I h
 refine UnaryOp_ (thn (ha.1 _ s _ H _ I h) fun v s1 ⟨x,f,g,e,b⟩=>?_)
 obtain⟨c,rfl,b⟩:=b
 cases e
 exact not_of (dH ⟨.bl _,f,g,rfl,b⟩)
def tIf (t:TT)(ta tb:TE):TE:=fun σ H Q=>t σ H fun c H1=>if c=true then ta σ H1 Q else tb σ H1 Q
theorem Am9 (hc:QT X c tA) (ha:QE X a ta) (hb:QE X b tb):QE X (.IfExp c a b pos) (tIf tA ta tb):=by
 obtain⟨ha⟩:=ha;obtain⟨hb⟩:=hb
 refine⟨?_⟩
 intro g s i H Q I h
 refine wpAny_IfExp (thn (hc.1 _ s _ H _ I h) fun d k ⟨j,f,e⟩=>?_)
 cases d with
 | true=>exact ha _ _ _ _ Q f e
 | false=>exact hb _ _ _ _ Q f e
end
def SqL (K:v8)(H:Hp)(a:Addr)(xs:n7):Prop :=
 Rd H a (.lst xs) \/
  ∃(o:Obj) (its:v6) (n:Nat),K.lookup a=some o/\o.cls=.type "list" /\ o.dict=none/\o.data=.seq its n/\its.size<=sizeLine/\Vals xs its.toList
def SqT (K:v8)(H:Hp)(a:Addr)(xs:n7):Prop :=
 Rd H a (.tup xs) \/
  ∃(o:Obj) (its:v6) (n:Nat),K.lookup a=some o/\o.cls=.type "tuple" /\ o.data=.seq its n/\its.size<=sizeLine/\Vals xs its.toList
noncomputable def B6w:Value->Option V
 | .none=>some .non
 | .bool b=>some (.bl b)
 | .int i _=>some (.int i)
 | .str x _=>some (.str x)
 | .bytes b _=>some (.byt b)
 | .float b _=>some (.flt b)
 | .ref a=>some (.ref a)
 | .type n=>some (.ty n)
 | _=>none
theorem RelV.abs (r:RelV x u):B6w u=some x:=by
 cases x with
 | non=>cases r;rfl
 | bl _=>cases r;rfl
 | int _=>obtain⟨t,rfl⟩:=r;rfl
 | str _=>obtain⟨t,rfl⟩:=r;rfl
 | byt _=>obtain⟨t,rfl⟩:=r;rfl
 | flt _=>obtain⟨t,rfl⟩:=r;rfl
 | ref _=>cases r;rfl
 | ty _=>cases r;rfl
theorem RelV.inj (r:RelV x u) (q:RelV y u):x=y:=cR (r.abs.symm.trans q.abs)
theorem Vals.inj:∀{xs ys:n7}{us:w6},Vals xs us->Vals ys us->xs=ys
 | _,_,_,.nil,.nil=>rfl
 | _,_,_,.cons r t,.cons r' t'=>by rw[r.inj r',Vals.inj t t']
section
variable {X:Cx}{pins:y_}{σ:St}{H:Hp}{s:u_}{a:Addr}{xs ys:n7}
theorem SqL.of {K:v8}(h:H a=some (.lst xs)):SqL K H a xs:=.inl (.inl h)
theorem SqT.of {K:v8}(h:H a=some (.tup xs)):SqT K H a xs:=.inl (.inl h)
theorem Inv.list (I:Inv X pins σ H s)(h:SqL X.K H a xs):∃b:w6,Vals xs b/\PlainL s.heap a b.toArray/\xs.length<=sizeLine:=by
 rcases h with h | ⟨o,b,n,d,c,f,i,g,r⟩
 ·obtain⟨z,b,n,r,e⟩:=h.ok I.hok
  exact⟨b,r,⟨_,n,e,rfl,rfl,rfl⟩,z⟩
 ·refine⟨b.toList,r,⟨o,n,I.kIn a o d,c,f,by trivial⟩,?_⟩
  have e:=r.length
  simp_all
theorem Inv.tuple (I:Inv X pins σ H s)(h:SqT X.K H a xs):∃b:w6,Vals xs b/\IsTup s.heap a b.toArray/\xs.length<=sizeLine:=by
 rcases h with h | ⟨o,b,n,d,c,g,f,r⟩
 ·obtain⟨z,b,r,p⟩:=h.ok I.hok
  exact⟨b,r,p.tup,z⟩
 ·refine⟨b.toList,r,⟨o,I.kIn a o d,c,n,by trivial⟩,?_⟩
  have e:=r.length
  simp_all
theorem Inv.list_inj (I:Inv X pins σ H s)(h:SqL X.K H a xs)(h':SqL X.K H a ys):xs=ys:=by
 obtain⟨c,r,⟨o,n,e,_,_,d⟩,_⟩:=I.list h;obtain⟨b,f,⟨i,j,k,_,_,g⟩,_⟩:=I.list h'
 have:c=b:=by simp_all
 subst this;exact r.inj f
theorem Inv.tuple_inj (I:Inv X pins σ H s)(h:SqT X.K H a xs)(h':SqT X.K H a ys):xs=ys:=by
 obtain⟨c,r,⟨o,e,_,n,d⟩,_⟩:=I.tuple h;obtain⟨b,f,⟨i,j,_,k,g⟩,_⟩:=I.tuple h'
 have:c=b:=by simp_all
 subst this;exact r.inj f
end
noncomputable abbrev Cx.wish (X:Cx)(E:z_):Cx:={ X with xe:=E }
abbrev Cx.nox (X:Cx):Cx:=X.wish fun _ _=>False
theorem Cx.Ok.wish {X:Cx}(a:X.Ok)(E:z_):(X.wish E).Ok :=
 ⟨a.mod,a.kind,a.glob,a.blt,a.above,a.inj,a.has,a.cab,a.hd,a.frames,a.stk,a.exf,a.bs,a.bsz,a.noex,a.exfs,a.funs,a.frf,a.tab⟩
theorem Cx.Ok.unwish {X:Cx} (a:(X.wish E).Ok):X.Ok :=
 ⟨a.mod,a.kind,a.glob,a.blt,a.above,a.inj,a.has,a.cab,a.hd,a.frames,a.stk,a.exf,a.bs,a.bsz,a.noex,a.exfs,a.funs,a.frf,a.tab⟩
section
variable {X:Cx}{pins:y_}{σ:St}{H:Hp}{s:u_}{E:z_}
theorem Inv.wish (I:Inv X pins σ H s)(E:z_):Inv (X.wish E) pins σ H s:=⟨I.ok.wish E,I.os,I.bare,I.base,I.loc,I.cell,I.free,I.freeC,I.pin,I.hok,I.len⟩
theorem Inv.unwish (I:Inv (X.wish E) pins σ H s):Inv X pins σ H s:=⟨I.ok.unwish,I.os,I.bare,I.base,I.loc,I.cell,I.free,I.freeC,I.pin,I.hok,I.len⟩
theorem SP.unwish (h:SP (X.wish E) pins D f s'):SP X pins D f s':=by
 cases f with
 | next=>obtain⟨a,b,I,q⟩:=h;exact⟨a,b,I.unwish,q⟩
 | brk=>obtain⟨a,b,I,q⟩:=h;exact⟨a,b,I.unwish,q⟩
 | cont=>obtain⟨a,b,I,q⟩:=h;exact⟨a,b,I.unwish,q⟩
 | ret u=>obtain⟨v,a,b,I,r,q⟩:=h;exact⟨v,a,b,I.unwish,r,q⟩
theorem PSs.nox {st:List Stmt} (h:PSs X.nox st t):PSs X st t:=fun a s c H D I b =>
 aU (h _ s _ H D (I.wish _) b) (fun _ _ q=>q.unwish) fun _ _ z=>False.elim z
end
section
variable {X:Cx}{st:Stmt}{rest:List Stmt}{t u:TS}{e:Expr}{te:TE}{pos:Pos}
def Bd2:TS:=fun D σ H=>D.nx σ H
def Bm9 (t u:TS):TS:=fun D σ H=>t { D with nx:=u D } σ H
theorem Bn0:PSs X [] Bd2:=fun _ _ a H _ I h=>wpAny_execs_nil ⟨a,H,I,h⟩
theorem Ae (h1:QS X st t)(h2:QSs X rest u):QSs X (st::rest) (Bm9 t u):=by
 obtain⟨h2⟩:=h2
 refine⟨?_⟩
 intro a s d H D I h
 refine iI (thn (h1.1 _ s _ H _ I h) fun f e q=>?_)
 cases f with
 | next =>
  obtain⟨c,g,b,q⟩:=q;exact h2 _ _ _ _ D b q
 | ret v=>exact q
 | brk=>exact q
 | cont=>exact q
theorem Af (h1:QS X st t):QSs X [st] t:=by
 refine⟨?_⟩
 intro a s c H D I h
 refine iI (thn (h1.1 _ s _ H D I h) fun f b q=>?_)
 cases f with
 | next=>exact wpAny_execs_nil q
 | ret v=>grind
 | brk=>grind
 | cont=>grind
theorem Inv.quiet (I:Inv X pins a H s):interactive X.env=false:=by simp[interactive,I.ok.kind]
def A8j (te:TE):TS:=fun D σ H=>te σ H fun _ H1=>D.nx σ H1
theorem Ij (he:QE X e te)(hs:swapsWith e none pos.line X.env=pure false:=by rfl):QS X (.Expr e pos) (A8j te):=by
 refine⟨?_⟩
 intro a s c H D I h
 exact wpAny_Expr_any (thn (he.1 _ s _ H _ I h) fun v g ⟨x,f,d,i,b⟩=>⟨c,f,d,b⟩) I.quiet hs
def B5z (te:TE):TS:=fun D σ H=>te σ H D.rt
theorem Aq (he:QE X e te):QS X (.Return (some e) pos) (B5z te):=by
 refine⟨?_⟩
 intro a s c H D I h
 exact wpAny_Return_some (thn (he.1 _ s _ H _ I h) fun v i ⟨x,f,d,g,b⟩=>⟨x,c,f,d,g,b⟩)
def B6l (c:TT)(t u:TS):TS:=fun D σ H=>c σ H fun b H1=>if b=true then t D σ H1 else u D σ H1
theorem Cg (hc:QT X c f) (ha:QSs X a t) (hb:QSs X b u):QS X (.If c a b pos) (B6l f t u):=by
 obtain⟨ha⟩:=ha;obtain⟨hb⟩:=hb
 refine⟨?_⟩
 intro i s j H D I h
 refine wpAny_If (thn (hc.1 _ s _ H _ I h) fun d l ⟨k,g,e⟩=>?_)
 cases d with
 | true=>exact ha _ _ _ _ D g e
 | false=>exact hb _ _ _ _ D g e
def Ax4:TS:=fun _ _ _=>False
theorem Be0:PS X st Ax4:=fun _ _ _ _ _ _ h=>h.elim
end
abbrev TG:=V->St->Hp->(St->Hp->Prop)->Prop
abbrev TGs:=n7->St->Hp->(St->Hp->Prop)->Prop
def PG (X:Cx)(target:Expr)(t:TG):Prop :=
 ∀
  (pins:y_) (s:u_) (σ:St) (H:Hp) (v:V) (u:Value) (Q:St->Hp->Prop),Inv X pins σ H s->RelV v u->t v σ H Q ->
  wpAny (model X.prog X.w) X.A (assign target X.env u) (fun _ s'=>∃σ' H',Inv X pins σ' H' s'/\Q σ' H') X.xe s
structure QG (X:Cx) (e:Expr) (t:TG):Prop where
 get:PG X e t
def PGs (X:Cx)(ts:v9)(t:TGs):Prop :=
 ∀
  (pins:y_) (s:u_) (σ:St) (H:Hp) (vs:n7) (us:w6) (Q:St->Hp->Prop),Inv X pins σ H s->Vals vs us->t vs σ H Q ->
  wpAny (model X.prog X.w) X.A (assignInOrder ((assignEach ts X.env).map (·.2)) us) (fun _ s'=>∃σ' H',Inv X pins σ' H' s'/\Q σ' H') X.xe s
structure QGs (X:Cx) (e:(v9)) (t:TGs):Prop where
 get:PGs X e t
abbrev B5p:=V->V->V->Hp->(Hp->Prop)->Prop
def B5f (X:Cx)(t:B5p):Prop :=
 ∀
  (pins:y_) (s:u_) (σ:St) (H:Hp) (o i v:V) (ov iv u:Value) (Q:Hp->Prop),Inv X pins σ H s->RelV o ov->RelV i iv->RelV v u->t o i v H Q ->
  wpAny (model X.prog X.w) X.A (setItem ov iv u) (fun _ s'=>∃H',Inv X pins σ H' s'/\Q H') X.xe s
section
variable {X:Cx}{pos:Pos}
def Lk (i:Nat):TG:=fun v σ H Q=>Q (σ.set i (some v)) H
theorem Am (hN:X.N.Nodup) (hi:X.N[i]?=some x:=by exact rfl) (hx:Loc X.env.scope x:=by first | exact Or.inl rfl | exact Or.inr rfl) (hf:Fv X x:=by first | exact .inl rfl | exact .inr rfl | assumption):QG X (.Name x pos) (Lk i):=by
 refine⟨?_⟩
 intro a s c H v u Q I r h
 exact wpAny_assign_Name (Qu I hN hi hx r (fun d b=>⟨_,H,b,h⟩) hf)
noncomputable def A5g:TGs:=fun vs σ H Q=>vs=[]/\Q σ H
noncomputable def Rf (t:TG)(u:TGs):TGs:=fun vs σ H Q=>∃v r,vs=v::r/\t v σ H fun σ' H'=>u r σ' H' Q
theorem Gy:QGs X [] A5g:=by
 refine⟨?_⟩
 intro a s b H d c Q I r h;obtain⟨e,h⟩:=h;exact assignInOrder_nil ⟨b,H,I,h⟩
theorem Bf (h1:QG X e t) (h2:QGs X es u)
 (hs:(assignEach (e::es) X.env).map (·.2)=assign e X.env::(assignEach es X.env).map (·.2):=by rfl):QGs X (e::es) (Rf t u):=by
 obtain⟨h2⟩:=h2
 refine⟨?_⟩
 intro a s i H j n Q I r h;obtain⟨v,l,f,h⟩:=h;subst f
 cases r with
 | cons r d =>
  rw[hs]
  refine iJ (thn (h1.1 _ s _ H _ _ _ I r h) fun _ k ⟨c,m,g,b⟩=>?_)
  exact h2 _ _ _ _ _ _ Q g d b
def A5i (K:v8)(n:Nat)(t:TGs):TG:=fun v σ H Q=>∃a xs,v=.ref a/\SqT K H a xs/\xs.length=n/\t xs σ H Q
theorem B2x {k:Nat} (hc:X.calm=true) (h:PGs X es t)
 (hn:(assignEach es X.env).length=n:=by rfl) (hst:(assignEach es X.env).findIdx? (·.1)=none:=by rfl):PG X (.Tuple es k pos) (A5i X.K n t):=by
 intro d s x H v u Q I r c;obtain⟨a,y,j,l,m,c⟩:=c;subst j
 cases r
 obtain⟨g,i,q,z⟩:=I.tuple l
 refine assign_Tuple_tuple (I.ok.hd hc) q (by simp[hn,<- m,i.length]) hst fun p w=>?_
 have f:Inv X _ _ H { s with heap:=p }:=I.kept fun b o e=>w b o (aL (az e)) e
 exact h _ _ _ H _ _ Q f (by trivial) c
def B5m (to ti:TE)(t:B5p):TG:=fun v σ H Q=>to σ H fun o H1=>ti σ H1 fun i H2=>t o i v H2 fun H3=>Q σ H3
theorem Av0 (ho:QE X o e) (hi:QE X i d) (hs:B5f X t)
 (ha:∀v,assign (.Subscript o i pos) X.env v=(do
  let a <- holding [v] (eval o X.env)
  let b <- holding [v,a] (eval i X.env)
  standAt pos
  holding [v,a,b] (setItem a b v)
  release [v,a,b] []):=by intro _;rfl):QG X (.Subscript o i pos) (B5m e d t):=by
 refine⟨?_⟩
 intro c s m H v u Q I r h;rw[ha]
 refine aj (bB (thn (ho.1 _ s _ H _ I h) fun a z ⟨x,C,j,k,l⟩=>?_))
 refine aj (bB (thn (hi.1 _ _ _ _ _ j l) fun b D ⟨y,A,g,p,n⟩=>?_))
 refine aj (fY (aj (bB (thn (hs _ _ _ _ x y v _ _ u _ g k p r n) fun _ B ⟨q,w,f⟩=>?_))))
 exact wpAny_release ⟨m,q,w,f⟩
def As6 (te:TE)(g:TG):TS:=fun D σ H=>te σ H fun x H1=>g x σ H1 D.nx
theorem S5 (he:QE X e b) (hg:QG X a g) (hs:swapsWithSole [a] e pos.line X.env=pure false:=by rfl) (hw:swappedStores [a] e X.env=pure none:=by rfl)
 (h1:(assignEach [a] X.env).map (·.2)=[assign a X.env]:=by rfl):QS X (.Assign [a] e pos) (As6 b g):=by
 refine⟨?_⟩
 intro c s k H D I h
 refine wpAny_Assign_stores (thn (he.1 _ s _ H _ I h) fun v l ⟨x,m,d,i,f⟩=>?_) hs hw
 rw[h1]
 exact thn (hg.1 _ _ _ _ x v _ d i f) fun _ j q=>q
theorem Bc (hN:X.N.Nodup) (he:QE X e b) (hi:X.N[i]?=some x:=by exact rfl) (hx:Loc X.env.scope x:=by first | exact Or.inl rfl | exact Or.inr rfl) (hs:swapsWith e (some (.Name x a)) pos.line X.env=pure false:=by rfl) (hf:Fv X x:=by first | exact .inl rfl | exact .inr rfl | assumption) :
 QS X (.Assign [.Name x a] e pos) (As6 b (Lk i)):=by
 refine⟨?_⟩
 intro c s l H D I h
 refine wpAny_Assign_Name (thn (he.1 _ s _ H _ I h) fun v m ⟨y,j,f,g,k⟩=>?_) hs
 exact Qu f hN hi hx g (fun n d=>⟨_,j,d,k⟩) hf
def Bx6 (i j:Nat)(ta:TA):TS:=fun D σ H=>ta σ H fun vs H1=>∃v w,vs=[v,w]/\D.nx ((σ.set i (some v)).set j (some w)) H1
theorem A8r (hc:X.calm=true) (hN:X.N.Nodup) (hi:X.N[i]?=some x) (hj:X.N[j]?=some y) (hij:i≠j)
 (hx:X.env.scope.names.lookup x=some .local) (hy:X.env.scope.names.lookup y=some .local) (ha:QA X [a,b] C)
 (hw:swappedStores [.Tuple [.Name x m,.Name y r] n t] (.Tuple [a,b] k2 d) X.env=pure (some [x,y]))
 (hs:swapsWithSole [.Tuple [.Name x m,.Name y r] n t] (.Tuple [a,b] k2 d) pos.line X.env=pure false:=by rfl) :
 QS X (.Assign [.Tuple [.Name x m,.Name y r] n t] (.Tuple [a,b] k2 d) pos) (Bx6 i j C):=by
 refine⟨?_⟩
 intro c s B H D I h;rw[exec_Assign_arm]
 refine aj (fY ?_)
 rw[hs]
 refine aj (ak ?_)
 rw[if_neg (by decide)]
 refine aj (Tuple_ (thn (ha.1 _ c s B H _ I h) fun L f ⟨vs,E,M,F,l⟩=>?_))
 obtain⟨v,w,G,l⟩:=l;subst G
 obtain⟨k,g,rfl,K,u⟩:∃k g,L=[k,g]/\RelV v k/\RelV w g:=by
  cases F with
  | cons p q =>
   cases q with
   | cons p' O =>
    cases O
    grind
 refine cD ?_ (by show 2<=sizeLine;decide)
 have J:Inv X c B E { f with heap:=f.heap.push { cls:=.type "tuple",data:=.seq [k,g].toArray } }:=M.kept (t':=f.toks) fun b o e=>aF _ e
 rw[hw]
 refine aj (ak ?_)
 show wpAny (model X.prog X.w) X.A (do rule "assign.swapped-stores";let items <- unpackItems (.ref f.heap.objs.size) 2 none;assignInOrder [fun v=>bindName X.env y v,fun v=>bindName X.env x v] items.reverse;pure Flow.next) _ _ _
 refine aj (cA (aj (unpackItems_tuple (items:=#[k,g]) (I.ok.hd hc) (IsTup.new _ _) fun h' z=>?_)))
 refine aj (iJ (wpAny_bindName (Qu (J.kept (t':=f.toks) fun b o e=>z b o (aL (az e)) e) hN hj (.inl hy) u (fun s2 N=>?_) (.inr hy))))
 refine iJ (wpAny_bindName (Qu N hN hi (.inl hx) K (fun s3 A=>assignInOrder_nil (ak ?_)) (.inr hx)))
 rw[List.set_comm _ _ (aG hij)]at A;exact⟨_,E,A,l⟩
end
structure It where
 go:Nat->Hp->Prop
 yld:Nat->Hp->V->Hp->Prop
 stop:Nat->Hp->Prop
def Mp (X:Cx)(pins:y_)(H:Hp)(b:Addr):Prop :=
 H b=none/\b≠X.env.locals/\b∉X.fs/\(b∈X.ex\/X.s₀.heap.objs.size<=b)/\(∀x c,X.env.cells.lookup x=some c->c≠b)/\∀p∈X.pn++pins,p.1≠b
theorem Inv.fpOk (I:Inv X pins d H s) (hb:s.heap.objs.size<=b) (hn:H' b=none):Mp X pins H' b:=by
 refine⟨hn,bK (aN I.lt hb),I.nofs hb,.inr (au I.sz hb),fun x c e z=>?_,fun p a z=>?_⟩
 ·obtain⟨v,q⟩:=I.cell x c e
  exact absurd (aN q.lt (by simp_all)) (bI _)
 ·exact absurd (aN (az (I.pin p a).1) (by simp_all)) (bI _)
structure Turn (P:u5) (w:World) (K:v8) (tg:Expr) (J:It) (fp:v5) (it:Addr) (tn:Nat->Heap->Prop):Prop where
 mem:it∈fp
 obj:∀i h,tn i h->∀b∈fp,∃o,h.get? b=some o/\∀v,o.data≠.cell v
 keep:∀i h h',tn i h->(∀b∈fp,∀o,h.get? b=some o->h'.get? b=some o)->tn i h'
 item:∀(X:Cx),X.prog=P->X.w=w->X.K=K->X.calm=true->∀(i:Nat) (pins:y_) (s:u_) (σ:St) (H:Hp) (E:z_),Inv X pins σ H s->(∀b∈fp,Mp X pins H b)->tn i s.heap->J.go i H ->
  wpAny (model P w) X.A (pyNext (.ref it)) (fun r s1=>∃u,r=some u /\
   wpAny (model P w) X.A (letOwnedTupleGo tg (.ref it) u) (fun _ s2=>∃x H',Inv X pins σ H' s2/\RelV x u/\J.yld i H x H'/\tn (i+1) s2.heap/\∀b∈fp,H' b=none) E s1) E s
 done:∀(X:Cx),X.prog=P->X.w=w->X.K=K->X.calm=true->∀(i:Nat) (pins:y_) (s:u_) (σ:St) (H:Hp) (E:z_),Inv X pins σ H s->(∀b∈fp,Mp X pins H b)->tn i s.heap->J.stop i H ->
  wpAny (model P w) X.A (pyNext (.ref it)) (fun r s1=>r=none/\Inv X pins σ H s1) E s
 self:∀(A:t_) (i:Nat) (s:u_) (Q:z_) (E:z_),tn i s.heap->Q (.ref it) s->wpAny (model P w) A (pyIter (.ref it)) Q E s
abbrev TI:=St->Hp->(It->Hp->Prop)->Prop
def PIE (X:Cx)(pins:y_)(σ:St)(tg:Expr)(R:It->Hp->Prop)(itv:Value)(s2:u_):Prop :=
 ∃(it:Addr) (fp:v5) (tn:Nat->Heap->Prop) (J:It) (H':Hp),itv=.ref it/\Inv X pins σ H' s2/\Turn X.prog X.w X.K tg J fp it tn/\tn 0 s2.heap/\(∀b∈fp,Mp X pins H' b)/\R J H'
def PI (X:Cx)(tg iter:Expr)(wi:TI):Prop :=
 ∀
  (pins:y_) (s:u_) (σ:St) (H:Hp) (R:It->Hp->Prop),Inv X pins σ H s->wi σ H R ->
  wpAny (model X.prog X.w) X.A (eval iter X.env) (fun v s1=>wpAny (model X.prog X.w) X.A (pyIter v) (PIE X pins σ tg R) X.xe s1) X.xe s
structure QI (X:Cx) (tg iter:Expr) (wi:TI):Prop where
 get:PI X tg iter wi
theorem Az4 (ho:s.heap.get? it=some o) (hc:o.cls=.type n) (hd:o.data=.fields vs)
 (hn:["enumerate", "zip", "dict_itemiterator", "dict_reverseitemiterator", "odict_iterator", "itertools.zip_longest", "itertools.pairwise"].contains n=false) (a:Q () s):wpAny M A (letOwnedTupleGo b (.ref it) u) Q E s:=by
 cases b <;> first
  | exact ak a
  | (cases u <;> first
   | exact ak a
   | (
    refine aj (wpAny_load ho ?_)
    rw[hc,hd]
    show wpAny M A (if (["enumerate", "zip", "dict_itemiterator", "dict_reverseitemiterator", "odict_iterator", "itertools.zip_longest", "itertools.pairwise"].contains n&&vs[0]?==some _)=true then _ else _) Q E s
    rw[if_neg (by intro h;rw[hn]at h;cases h)]
    exact ak a))
noncomputable def Itl (K:v8)(a:Addr):It :=
 ⟨fun i H=>∃xs x,SqL K H a xs/\xs[i]?=some x,fun i H x H'=>H'=H/\∀xs,SqL K H a xs->xs[i]?=some x,fun i H=>∃xs,SqL K H a xs/\xs.length<=i⟩
noncomputable def Itt (K:v8)(a:Addr):It :=
 ⟨fun i H=>∃xs x,SqT K H a xs/\xs[i]?=some x,fun i H x H'=>H'=H/\∀xs,SqT K H a xs->xs[i]?=some x,fun i H=>∃xs,SqT K H a xs/\xs.length<=i⟩
noncomputable def Itr (lo:Int)(n:Nat):It:=⟨fun i _=>i<n,fun i H x H'=>H'=H/\x=.int (lo+i),fun i _=>n<=i⟩
theorem A3h {P:u5}{w:World}{K:v8}{tg:Expr}(a it:Addr):Turn P w K tg (Itl K a) [it] it (fun i h=>h.IsListIter it a i) where
 mem:=by simp
 obj:=fun i h st b hb=>by
  have e:b=it:=by simpa using hb
  subst e;obtain⟨o,e,c,d⟩:=st
  exact⟨o,e,fun v z=>by rw[d]at z;cases z⟩
 keep:=fun i h h' st k=>st.at fun o e=>k it (by simp) o e
 item:=by
  intro X hP hw hK hc i pins s σ H E I hf st hg;subst hP hw hK;obtain⟨xs,x,hq,hx⟩:=hg;obtain⟨its,rv,p,hz⟩:=I.list hq;obtain⟨u,hu,ru⟩:=rv.get hx
  obtain⟨f0,f1,f2,f3,f4,f5⟩:=hf it (by simp)
  refine iK st p.isList (x:=u) (by simpa using hu) fun h' st' sb=>?_
  have I1:Inv X pins σ H { s with heap:=h' }:=I.turned (t':=s.toks) (fun b o hb e=>(sb.2 b hb).trans e) f0 f1 f3 f4 f5
  obtain⟨o,e,c,d⟩:=id st'
  exact⟨u,rfl,Az4 (s:={ s with heap:=h' }) e c d (by decide) ⟨x,H,I1,ru,⟨rfl,fun ys hy=>by rw[I.list_inj hy hq];exact hx⟩,st',fun b hb=>(hf b hb).1⟩⟩
 done:=by
  intro X hP hw hK hc i pins s σ H E I hf st hg;subst hP hw hK;obtain⟨xs,hq,hx⟩:=hg;obtain⟨its,rv,p,hz⟩:=I.list hq
  obtain⟨f0,f1,f2,f3,f4,f5⟩:=hf it (by simp)
  have hl:=rv.length
  exact iM (I.ok.hd hc) st p.isList (by simp;lia) fun h' eb=>⟨rfl,I.turned (t':=s.toks) (fun b o hb e=>eb b o hb e) f0 f1 f3 f4 f5⟩
 self:=fun _ _ _ _ _ st h=>wpAny_pyIter_listiter st h
theorem Av1 {P:u5}{w:World}{K:v8}{tg:Expr}(a it:Addr):Turn P w K tg (Itt K a) [it] it (fun i h=>h.IsTupleIter it a i) where
 mem:=by simp
 obj:=fun i h st b hb=>by
  have e:b=it:=by simpa using hb
  subst e;obtain⟨o,e,c,d⟩:=st
  exact⟨o,e,fun v z=>by rw[d]at z;cases z⟩
 keep:=fun i h h' st k=>st.at fun o e=>k it (by simp) o e
 item:=by
  intro X hP hw hK hc i pins s σ H E I hf st hg;subst hP hw hK;obtain⟨xs,x,hq,hx⟩:=hg;obtain⟨its,rv,p,hz⟩:=I.tuple hq;obtain⟨u,hu,ru⟩:=rv.get hx
  obtain⟨f0,f1,f2,f3,f4,f5⟩:=hf it (by simp)
  refine wpAny_pyNext_tuple_item st (show s.heap.IsTuple a its.toArray from p) (x:=u) (by simpa using hu) fun h' st' sb=>?_
  have I1:Inv X pins σ H { s with heap:=h' }:=I.turned (t':=s.toks) (fun b o hb e=>(sb.2 b hb).trans e) f0 f1 f3 f4 f5
  obtain⟨o,e,c,d⟩:=id st'
  exact⟨u,rfl,Az4 (s:={ s with heap:=h' }) e c d (by decide) ⟨x,H,I1,ru,⟨rfl,fun ys hy=>by rw[I.tuple_inj hy hq];exact hx⟩,st',fun b hb=>(hf b hb).1⟩⟩
 done:=by
  intro X hP hw hK hc i pins s σ H E I hf st hg;subst hP hw hK;obtain⟨xs,hq,hx⟩:=hg;obtain⟨its,rv,p,hz⟩:=I.tuple hq
  obtain⟨f0,f1,f2,f3,f4,f5⟩:=hf it (by simp)
  have hl:=rv.length
  exact wpAny_pyNext_tuple_end (I.ok.hd hc) st (show s.heap.IsTuple a its.toArray from p) (by simp;lia) fun h' eb=>⟨rfl,I.turned (t':=s.toks) (fun b o hb e=>eb b o hb e) f0 f1 f3 f4 f5⟩
 self:=fun _ _ _ _ _ st h=>wpAny_pyIter_tupleiter st h
theorem Ar0 {P:u5}{w:World}{K:v8}{tg:Expr}(it:Addr)(lo:Int)(n:Nat):Turn P w K tg (Itr lo n) [it] it (fun i h=>IsRangeIter h it (lo+(i:Nat)*1) ((n:Int)-(i:Nat)) 1) where
 mem:=by simp
 obj:=fun i h st b hb=>by
  have e:b=it:=by simpa using hb
  subst e
  exact⟨_,st,fun v z=>by
   have z':Data.fields _=Data.cell v:=z
   cases z'⟩
 keep:=fun i h h' st k=>k it (by simp) _ st
 item:=by
  intro X hP hw hK hc i pins s σ H E I hf st hg;subst hP hw hK
  obtain⟨f0,f1,f2,f3,f4,f5⟩:=hf it (by simp)
  have W:=Walks.range (prog:=X.prog) (w:=X.w) (I.ok.hd hc) it lo 1 n
  refine W.item i s _ _ hg st fun v h' tk hv st' kk=>?_
  obtain⟨t,rfl⟩:=hv
  have I1:Inv X pins σ H { s with heap:=h',toks:=tk }:=I.turned (fun b o hb e=>kk b o (by simpa using hb) e) f0 f1 f3 f4 f5
  refine⟨_,rfl,Az4 (s:={ s with heap:=h',toks:=tk }) (n := "range_iterator") st' rfl rfl (by decide) ⟨.int (lo+i),H,I1,⟨t,?_⟩,⟨rfl,rfl⟩,st',fun b hb=>(hf b hb).1⟩⟩
  rw[Int.mul_one]
 done:=by
  intro X hP hw hK hc i pins s σ H E I hf st hg;subst hP hw hK
  obtain⟨f0,f1,f2,f3,f4,f5⟩:=hf it (by simp)
  exact wpAny_pyNext_range_end (I.ok.hd hc) st (by have:n<=i:=hg;lia) fun h' eb=>⟨rfl,I.turned (t':=s.toks) (fun b o hb e=>eb b o hb e) f0 f1 f3 f4 f5⟩
 self:=fun _ _ _ _ _ st h=>wpAny_pyIter_rangeiter st h
section
variable {X:Cx}{tg:Expr}
theorem Be1 {lo hi:Int} (I:Inv X pins c H s) (h1:-(2 ^ 62)<=lo) (h2:lo<2 ^ 62) (d:-(2 ^ 62)<=hi) (f:hi<2 ^ 62)
 (q:R (Itr lo (hi-lo).toNat) H):wpAny (model X.prog X.w) X.A (pyIter (.ref s.heap.objs.size)) (PIE X pins c tg R) E { s with heap:=s.heap.push { cls:=.type "range",data:=.fields #[.int lo t,.int hi u,.int 1 v] },toks:=tk }:=by
 refine wpAny_pyIter_range (IsRange.new ..) (small_one h1 h2 d f) ?_
 have a:Inv X _ _ H { s with heap:=s.heap.push { cls:=.type "range",data:=.fields #[.int lo t,.int hi u,.int 1 v] },toks:=tk }:=I.kept fun b o e=>aF _ e
 refine⟨(s.heap.push _).objs.size,[(s.heap.push _).objs.size],_,_,H,rfl,
  a.kept fun b o e=>aF _ e,Ar0 _ _ _,?_,fun b i=>?_,q⟩
 ·have h:lo+((0:Nat))*1=lo:=by simp
  have g:(((hi-lo).toNat):Int)-((0:Nat))=Builtin.Range.rangeSize lo hi 1:=by rw[rangeSize_one];grind
  rw[h,g];exact aJ _ rfl
 ·have e:b=(s.heap.push { cls:=.type "range",data:=.fields #[.int lo t,.int hi u,.int 1 v] }).objs.size:=by grind
  subst e;exact a.fpOk (aq _) (a.hok.fresh (aq _))
def Bv9 (ta:TA):TI:=fun σ H R=>ta σ H fun vs H1=>∃j:Int,vs=[.int j]/\-(2 ^ 62)<=j/\j<2 ^ 62/\R (Itr 0 j.toNat) H1
theorem Oj (hg:Gl X "range") (hm:X.mg "range" = none) (ha:QA X [a] d) (hs:starEach [a] X.env=[(false,eval a X.env)]:=by rfl):QI X tg (.Call (.Name "range" p) [a] [] b) (Bv9 d):=by
 refine⟨?_⟩
 intro f s σ H R I h
 refine Call_ (Jf I hg hm boot_range (d_ (thn (ha.1 _ _ s _ H _ I h) fun us s1 ⟨vs,H1,g,i,c⟩=>?_) hs rfl))
 obtain⟨j,e,c,k,q⟩:=c;subst e
 cases i with
 | cons r l =>
  cases l
  obtain⟨t,rfl⟩:=r
  exact call_range_1 (Be1 g (by lia) (by lia) c k (by grind))
def B2h (wi:TI)(g:TG)(tb:TS):TS:=fun D σ H=>wi σ H fun J H1=>∃W:Nat->Nat->St->Hp->Prop,(∃m,W 0 m σ H1)/\∀i m σ H,W i m σ H ->
 (J.stop i H/\D.nx σ H)\/(J.go i H/\∃N:St->Hp->Prop,(∀σ' H',N σ' H'->∃m',m'<m/\W (i+1) m' σ' H')/\∀x H',J.yld i H x H'->g x σ H' fun σ2 H2=>tb { D with nx:=N,ct:=N,bk:=D.nx } σ2 H2)
noncomputable def Xj (fp:v5)(h:Heap):y_:=fp.filterMap fun b=>(h.get? b).map fun o=>(b,o)
theorem Mm (hb:b∈fp) (e:h.get? b=some o):(b,o)∈Xj fp h:=List.mem_filterMap.mpr ⟨b,hb,by grind⟩
theorem A4a (hp:p∈Xj fp h):p.1∈fp/\h.get? p.1=some p.2:=by
 obtain⟨b,a,e⟩:=List.mem_filterMap.mp hp
 cases q:h.get? b with
 | none=>simp_all
 | some o =>
  grind
theorem Inv.pinned (I:Inv X pins a H s) (hf:∀b∈fp,Mp X pins H b) (ho:∀b∈fp,∃o,s.heap.get? b=some o/\∀v,o.data≠.cell v):Inv X (pins++Xj fp s.heap) a H s :=
 I.pins_of fun p d=>(bC.mp d).elim (fun z=>I.pin p (aA _ z)) fun z=>by
  obtain⟨c,e⟩:=A4a z;obtain⟨g,h,f,_⟩:=hf _ c
  grind
theorem Inv.unpinned (I:Inv X (pins++pl) a H s):Inv X pins a H s:=I.pins_of fun p b=>I.pin p (aA _ (bJ _ b))
theorem G6 (hp:PassesOwn (model X.prog X.w) X.A X.env X.xe) (hc:X.calm=true) (hi:QI X tg p Z) (hg:QG X tg g) (hb:QSs X body tb)
 (hs:∀x,foldedSetIterable p X.env x=pure x:=by intro _;rfl):QS X (.For tg p body [] P) (B2h Z g tb):=by
 obtain⟨hb⟩:=hb
 refine⟨?_⟩
 intro a s σ H D I h
 refine wpAny_For (thn (hi.1 a s σ H _ I h) fun v s1 h1=>thn h1 fun itv s2 h2=>?_) hs
 obtain⟨it,C,tn,J,H2,e,I2,T,Q,Y,W,⟨m0,w0⟩,E⟩:=h2;subst e
 have k:∀{t:Hp},(∀b∈C,t b=none)->∀b∈C,Mp X a t b:=fun hn b hb=>⟨hn b hb,(Y b hb).2⟩
 refine codeAny_forLoop_any (fun n U=>∃i σ' t,Inv X a σ' t U/\tn i U.heap/\(∀b∈C,t b=none)/\W i n σ' t) ?_ m0 ⟨0,σ,H2,I2,Q,fun b hb=>(Y b hb).1,w0⟩
 rintro n V ⟨i,j,L,I3,B,F,w3⟩
 rcases E i n j L w3 with ⟨A,qn⟩ | ⟨go,N,hN,K⟩
 ·refine fZ hp (thn (T.done X rfl rfl rfl hc i a V j L X.xe I3 (k F) B A) fun r s4 ⟨M,I4⟩=>?_)
  subst M;exact wpAny_execs_nil ⟨j,L,I4,qn⟩
 ·refine fZ hp (thn (T.item X rfl rfl rfl hc i a V j L X.xe I3 (k F) B go) fun r s4 ⟨u,M,h4⟩=>?_)
  subst M
  refine fZ hp (thn h4 fun _ s5 ⟨x,S,I5,r5,y5,z,O⟩=>?_)
  refine fZ hp (thn (hg.1 _ s5 j S x u _ (I5.pinned (k O) (T.obj _ _ z)) r5 (K x S y5)) fun _ s6 ⟨R,H6,I6,q6⟩=>?_)
  refine fZ hp (thn (hb _ s6 R H6 _ I6 q6) fun f s7 y=>?_)
  have l:∀{c:St} {w:Hp},Inv X (a++Xj C s5.heap) c w s7->N c w->∃m,m<n/\∃i σ' t,Inv X a σ' t _/\tn i _/\(∀b∈C,t b=none)/\W i m σ' t:=fun {c w} q G=>by
   obtain⟨m',hm,w7⟩:=hN _ _ G
   refine⟨m',hm,i+1,c,w,q.unpinned,T.keep _ _ _ z fun b hb o e=>(q.pin _ (aA _ (aA _ (Mm hb e)))).1,fun b hb=>?_,w7⟩
   obtain⟨o,e,d⟩:=T.obj _ _ z b hb;exact(q.pin _ (aA _ (aA _ (Mm hb e)))).2.1
  cases f with
  | next=>obtain⟨c,w,q,G⟩:=y;exact l q G
  | cont=>obtain⟨c,w,q,G⟩:=y;exact l q G
  | brk=>obtain⟨c,w,q,y⟩:=y;exact⟨c,w,q.unpinned,y⟩
  | ret v=>obtain⟨x7,c,w,q,r7,y⟩:=y;exact⟨x7,c,w,q.unpinned,r7,y⟩
end
abbrev R2:=V->V->Hp->VK->Prop
def OpR (X:Cx)(f:Value->Value->Sem Value)(r:R2):Prop :=
 ∀
  (pins:y_) (s:u_) (σ:St) (H:Hp) (x y:V) (v u:Value) (Q:VK),Inv X pins σ H s->RelV x v->RelV y u->r x y H Q ->
  wpAny (model X.prog X.w) X.A (f v u) (EP X pins σ Q) X.xe s
def UnR (X:Cx)(f:Value->Sem Value)(r:V->Hp->VK->Prop):Prop :=
 ∀
  (pins:y_) (s:u_) (σ:St) (H:Hp) (x:V) (v:Value) (Q:VK),Inv X pins σ H s->RelV x v->r x H Q ->
  wpAny (model X.prog X.w) X.A (f v) (EP X pins σ Q) X.xe s
def CallR (X:Cx)(f:Value)(r:n7->Hp->VK->Prop):Prop :=
 ∀
  (pins:y_) (s:u_) (σ:St) (H:Hp) (xs:n7) (us:w6) (Q:VK),Inv X pins σ H s->Vals xs us->r xs H Q ->
  wpAny (model X.prog X.w) X.A (call f us) (EP X pins σ Q) X.xe s
def tOp (r:R2)(ta tb:TE):TE:=fun σ H Q=>ta σ H fun x H1=>tb σ H1 fun y H2=>r x y H2 Q
def tUn (r:V->Hp->VK->Prop)(ta:TE):TE:=fun σ H Q=>ta σ H fun x H1=>r x H1 Q
def rI (C:Int->Int->Prop)(g:Int->Int->V):R2:=fun x y H Q=>∃i j,x=.int i/\y=.int j/\C i j/\Q (g i j) H
def rI0 (g:Int->Int->V):R2:=fun x y H Q=>∃i j,x=.int i/\y=.int j/\Q (g i j) H
def rU (g:Int->V):V->Hp->VK->Prop:=fun x H Q=>∃i,x=.int i/\Q (g i) H
section
variable {X:Cx}{a b c:Expr}{ta tb:TE}{pos:Pos}
theorem B0y (ha:PE X a ta)(hb:PE X b tb) {R:V->V->Hp->Prop}(I:Inv X pins g H s)
 (h:ta g H fun x j=>tb g j fun y c=>R x y c) {f:Value->Value->Sem Value}
 (hf:∀v u i x y c,Inv X pins g c i->RelV x v->RelV y u->R x y c->wpAny (model X.prog X.w) X.A (f v u) Q X.xe i) :
 wpAny (model X.prog X.w) X.A (eval a X.env) (fun v d=>wpAny (model X.prog X.w) X.A (eval b X.env) (fun u e=>wpAny (model X.prog X.w) X.A (f v u) Q X.xe e) X.xe d) X.xe s:=by
 refine thn (ha _ s _ H _ I h) fun v o ⟨x,j,k,n,l⟩=>?_
 refine thn (hb _ _ _ _ _ k l) fun u i ⟨y,c,p,q,m⟩=>?_
 grind
theorem Xq (ho:OpR X (binaryOp op) r) (ha:PE X a ta) (hb:PE X b tb):PE X (.BinOp a op b pos) (tOp r ta tb):=by
 intro c s g H Q I h
 exact wpAny_BinOp (B0y ha hb I h fun v u i x y j f e d q=>ho _ _ _ _ x y v u Q f e d q)
theorem B3y (ho:UnR X (unaryOp op) r) (ha:PE X a ta):PE X (.UnaryOp op a pos) (tUn r ta):=by
 intro b s f H Q I h
 exact UnaryOp_ (thn (ha _ s _ H _ I h) fun v g ⟨x,i,e,d,c⟩=>ho _ _ _ _ x v Q e d c)
theorem opI {g:Int->Int->Int}
 (a:∀(i j:Int) (t u:Tok) (s:u_) (Q:z_) (E:z_),C i j->Q (.int (g i j) s.toks) { s with toks:=s.toks+1 }->wpAny (model X.prog X.w) X.A (f (.int i t) (.int j u)) Q E s) :
 OpR X f (rI C fun i j=>.int (g i j)):=by
 intro b s σ H x y v u Q I c e h;obtain⟨i,j,rfl,rfl,d,q⟩:=h;obtain⟨t,rfl⟩:=c;obtain⟨t',rfl⟩:=e;exact a i j t _ s _ _ d ⟨.int _,H,I.tok _,⟨_,rfl⟩,q⟩
theorem Yg {g:Int->Int->Int}
 (a:∀(i j:Int) (t u:Tok) (s:u_) (Q:z_) (E:z_),Q (.int (g i j) s.toks) { s with toks:=s.toks+1 }->wpAny (model X.prog X.w) X.A (f (.int i t) (.int j u)) Q E s) :
 OpR X f (rI0 fun i j=>.int (g i j)):=by
 intro b s σ H x y v u Q I c d h;obtain⟨i,j,rfl,rfl,q⟩:=h;obtain⟨t,rfl⟩:=c;obtain⟨t',rfl⟩:=d;exact a i j t _ s _ _ ⟨.int _,H,I.tok _,⟨_,rfl⟩,q⟩
theorem B1o {g:Int->Int->Bool}
 (a:∀(i j:Int) (t u:Tok) (s:u_) (Q:z_) (E:z_),Q (.bool (g i j)) s->wpAny (model X.prog X.w) X.A (f (.int i t) (.int j u)) Q E s) :
 OpR X f (rI0 fun i j=>.bl (g i j)):=by
 intro b s σ H x y v u Q I c d h;obtain⟨i,j,rfl,rfl,q⟩:=h;obtain⟨t,rfl⟩:=c;obtain⟨t',rfl⟩:=d;exact a i j t _ s _ _ ⟨.bl _,H,I,rfl,q⟩
def Br1 (i j:Int):Prop:=0<j/\j<1073741824
def Bk3 (i j:Int):Prop:=0<=j/\j<=1000000/\i.natAbs<2 ^ 64
def CMul (i j:Int):Prop:=(-(2 ^ 64)<i/\i<2 ^ 64)\/(-(2 ^ 64)<j/\j<2 ^ 64)
theorem CMul.ok (h:CMul i j):IntMulOk i j:=by
 rcases h with ⟨b,a⟩ | ⟨b,a⟩
 ·exact .of_left (intBits_le_64 b a)
 ·exact .of_right (intBits_le_64 b a)
theorem B1i:OpR X (binaryOp .Add) (rI0 fun i j=>.int (i+j)):=Yg fun _ _ _ _ _ _ _ q=>add_int q
theorem B1l:OpR X (binaryOp .Sub) (rI0 fun i j=>.int (i-j)):=Yg fun _ _ _ _ _ _ _ q=>sub_int q
theorem B1y:OpR X (binaryOp .Mult) (rI CMul fun i j=>.int (i*j)):=opI fun _ _ _ _ _ _ _ a q=>mul_int q a.ok
theorem Bp5:OpR X (binaryOp .FloorDiv) (rI Br1 fun i j=>.int (i / j)):=opI fun i j _ _ _ _ _ a q=>by
 have c:(0:Int)<j:=a.1;have b:j<1073741824:=a.2
 exact floordiv_int (by lia) (by rw[Int.fdiv_eq_ediv_of_nonneg i (by lia)];exact q) (.inl (PyProof.noPylong_small (by lia)))
theorem By0:OpR X (binaryOp .Mod) (rI (fun _ j=>0<j) fun i j=>.int (i % j)):=opI fun i j _ _ _ _ _ a q=>by
 have b:(0:Int)<j:=a
 exact mod_int' (by lia) (by rw[Int.fmod_eq_emod_of_nonneg i (by lia)];exact q)
theorem B0n:OpR X (binaryOp .Pow) (rI Bk3 fun i j=>.int (i ^ j.toNat)):=opI fun _ _ _ _ _ _ _ a q=>pow_int_small a.1 a.2.1 a.2.2 q
theorem unI {g:Int->Int}
 (a:∀(i:Int) (t:Tok) (s:u_) (Q:z_) (E:z_),Q (.int (g i) s.toks) { s with toks:=s.toks+1 }->wpAny (model X.prog X.w) X.A (f (.int i t)) Q E s) :
 UnR X f (rU fun i=>.int (g i)):=by
 intro b s σ H x v Q I c h;obtain⟨i,rfl,q⟩:=h;obtain⟨t,rfl⟩:=c;exact a i t s _ _ ⟨.int _,H,I.tok _,⟨_,rfl⟩,q⟩
theorem B3b:UnR X (unaryOp .USub) (rU fun i=>.int (-i)):=unI fun _ _ _ _ _ q=>neg_int q
end
noncomputable def B5u:V->V->Bool
 | .non,.non=>true | .non,.int _=>true | .int _,.non=>true | .non,.bl _=>true | .bl _,.non=>true | .non,.str _=>true | .str _,.non=>true
 | .int _,.int _=>true | .bl _,.bl _=>true | .str _,.str _=>true | .byt _,.byt _=>true
 | .int _,.str _=>true | .str _,.int _=>true | .bl _,.str _=>true | .str _,.bl _=>true
 | _,_=>false
def rEq:R2:=fun x y H Q=>B5u x y=true/\Q (.bl (decide (x=y))) H
def rNe:R2:=fun x y H Q=>B5u x y=true/\Q (.bl (!decide (x=y))) H
theorem Az7 : decide (V.int i=V.int j)=(i==j):=by
 grind
theorem A6m : decide (V.bl i=V.bl j)=(i==j):=by
 grind
theorem A1e : decide (V.str i=V.str j)=(i==j):=by
 grind
theorem A0m : decide (V.byt i=V.byt j)=(i.toList==j.toList):=by
 rw[Bool.eq_iff_iff]
 simp_all
section
variable {X:Cx}{a b c:Expr}{ta tb:TE}{pos:Pos}
theorem By {b:St} {k a:Bool}(I:Inv X pins b H s) (q:Q (.bl k) H) (e:k=a):EP X pins b Q (.bool a) s:=by
 subst e;exact⟨.bl k,H,I,rfl,q⟩
theorem B5c:OpR X (compareOp .Eq) rEq:=by
 intro e s σ H x y v u Q I d a h;obtain⟨c,q⟩:=h
 cases x with
 | non =>
  cases d
  cases y with
  | non=>cases a;exact PySem.EqNone.eq_none_none (By I q (by simp))
  | bl j=>cases a;exact PySem.EqNone.eq_none_bool (By I q (by simp))
  | int j=>obtain⟨b,rfl⟩:=a;exact PySem.EqNone.eq_none_int (By I q (by simp))
  | str j=>obtain⟨b,rfl⟩:=a;exact PySem.EqNone.eq_none_str (By I q (by simp))
  | _=>exact absurd (show false=true from c) bu
 | bl i =>
  cases d
  cases y with
  | non=>cases a;exact PySem.EqNone.eq_bool_none (By I q (by simp))
  | bl j=>cases a;exact eq_bool (By I q A6m)
  | str j=>obtain⟨b,rfl⟩:=a;exact PySem.EqMixed.eq_bool_str (By I q (by simp))
  | _=>exact absurd (show false=true from c) bu
 | int i =>
  obtain⟨t,rfl⟩:=d
  cases y with
  | non=>cases a;exact PySem.EqNone.eq_int_none (By I q (by simp))
  | int j=>obtain⟨b,rfl⟩:=a;exact eq_int (By I q Az7)
  | str j=>obtain⟨b,rfl⟩:=a;exact PySem.EqMixed.eq_int_str (By I q (by simp))
  | _=>exact absurd (show false=true from c) bu
 | str i =>
  obtain⟨t,rfl⟩:=d
  cases y with
  | non=>cases a;exact PySem.EqNone.eq_str_none (By I q (by simp))
  | bl j=>cases a;exact PySem.EqMixed.eq_str_bool (By I q (by simp))
  | int j=>obtain⟨b,rfl⟩:=a;exact PySem.EqMixed.eq_str_int (By I q (by simp))
  | str j=>obtain⟨b,rfl⟩:=a;exact eq_str (By I q A1e)
  | _=>exact absurd (show false=true from c) bu
 | byt i =>
  obtain⟨t,rfl⟩:=d
  cases y with
  | byt j=>obtain⟨b,rfl⟩:=a;exact PySem.W.eq_bytes (By I q A0m)
  | _=>exact absurd (c) bu
 | _=>cases y <;> exact absurd (show false=true from c) bu
theorem B4s:OpR X (compareOp .NotEq) rNe:=by
 intro e s σ H x y v u Q I d a h;obtain⟨c,q⟩:=h
 cases x with
 | non =>
  cases d
  cases y with
  | non=>cases a;exact PySem.EqNone.ne_none_none (By I q (by simp))
  | bl j=>cases a;exact PySem.EqNone.ne_none_bool (By I q (by simp))
  | int j=>obtain⟨b,rfl⟩:=a;exact PySem.EqNone.ne_none_int (By I q (by simp))
  | str j=>obtain⟨b,rfl⟩:=a;exact PySem.EqNone.ne_none_str (By I q (by simp))
  | _=>exact absurd (show false=true from c) bu
 | bl i =>
  cases d
  cases y with
  | non=>cases a;exact PySem.EqNone.ne_bool_none (By I q (by simp))
  | bl j=>cases a;exact ne_bool (By I q (cY not A6m))
  | str j=>obtain⟨b,rfl⟩:=a;exact PySem.EqMixed.ne_bool_str (By I q (by simp))
  | _=>exact absurd (show false=true from c) bu
 | int i =>
  obtain⟨t,rfl⟩:=d
  cases y with
  | non=>cases a;exact PySem.EqNone.ne_int_none (By I q (by simp))
  | int j=>obtain⟨b,rfl⟩:=a;exact ne_int (By I q (cY not Az7))
  | str j=>obtain⟨b,rfl⟩:=a;exact PySem.EqMixed.ne_int_str (By I q (by simp))
  | _=>exact absurd (show false=true from c) bu
 | str i =>
  obtain⟨t,rfl⟩:=d
  cases y with
  | non=>cases a;exact PySem.EqNone.ne_str_none (By I q (by simp))
  | bl j=>cases a;exact PySem.EqMixed.ne_str_bool (By I q (by simp))
  | int j=>obtain⟨b,rfl⟩:=a;exact PySem.EqMixed.ne_str_int (By I q (by simp))
  | str j=>obtain⟨b,rfl⟩:=a;exact ne_str (By I q (cY not A1e))
  | _=>exact absurd (show false=true from c) bu
 | byt i =>
  obtain⟨t,rfl⟩:=d
  cases y with
  | byt j=>obtain⟨b,rfl⟩:=a;exact PySem.W.ne_bytes (By I q (cY not A0m))
  | _=>exact absurd (c) bu
 | _=>cases y <;> exact absurd (show false=true from c) bu
theorem B5h:OpR X (compareOp .Lt) (rI0 fun i j=>.bl (decide (i<j))):=B1o fun _ _ _ _ _ _ _ q=>lt_int q
theorem Bt7:OpR X (compareOp .Gt) (rI0 fun i j=>.bl (decide (j<i))):=B1o fun _ _ _ _ _ _ _ q=>gt_int q
theorem B5a:OpR X (compareOp .GtE) (rI0 fun i j=>.bl (decide (j<=i))):=B1o fun _ _ _ _ _ _ _ q=>ge_int q
theorem A4x:OpR X (compareOp .In) (fun x y H Q=>∃i j,x=.str i/\y=.str j/\Q (.bl (!(Builtin.Str.occurrences j i 0 j.length 1).isEmpty)) H):=by
 intro a s σ H x y v u Q I b c h;obtain⟨i,j,rfl,rfl,q⟩:=h;obtain⟨t,rfl⟩:=b;obtain⟨t',rfl⟩:=c;exact in_str (By I q rfl)
theorem By5:OpR X (compareOp .Is) (fun x y H Q=>y=.non/\Q (.bl (decide (x=.non))) H):=by
 intro a s σ H x y v u Q I c b h;obtain⟨rfl,q⟩:=h
 cases b
 refine is_none_gen (By I q ?_)
 cases x <;> first
  | lia
  | (obtain⟨t,rfl⟩:=c;rfl)
theorem Bn5:OpR X (compareOp .IsNot) (fun x y H Q=>y=.non/\Q (.bl (!decide (x=.non))) H):=by
 intro a s σ H x y v u Q I c b h;obtain⟨rfl,q⟩:=h
 cases b
 refine isnot_none_gen (By I q ?_)
 cases x <;> first
  | rfl
  | (obtain⟨t,rfl⟩:=c;rfl)
theorem OpR.or {r b:R2}(h:OpR X f r) (h':OpR X f b):OpR X f (fun x y H Q=>r x y H Q\/b x y H Q):=by
 intro c s e H x y v u Q I d a q
 rcases q with q | q
 ·exact h _ s _ H x y v u Q I d a q
 ·exact h' _ s _ H x y v u Q I d a q
theorem Ku (b:Expr) (h:op≠.In:=by decide) (h2:op≠.NotIn:=by decide):behindInMarks op b=false:=by
 have c:(op==CmpOp.In)=false:=by grind
 have a:(op==CmpOp.NotIn)=false:=by grind
 cases b <;> simp[behindInMarks,c,a]
theorem Qy (ho:OpR X (compareOp op) r) (ha:PE X a ta) (hb:PE X b tb) (hm:behindInMarks op b=false):PE X (.Compare a [op] [b] pos) (tOp r ta tb):=by
 intro c s g H Q I h
 exact wpAny_Compare1 (B0y ha hb I h fun v u i x y j f e d q=>ho _ _ _ _ x y v u Q f e d q) hm
def N5 (t:TE):TT:=fun σ H Q=>t σ H fun x H'=>∃k,x=.bl k/\Q k H'
theorem Jo (ho:OpR X (compareOp op) r) (ha:PE X a ta) (hb:PE X b tb) (hm:behindInMarks op b=false):PT X (.Compare a [op] [b] pos) (N5 (tOp r ta tb)):=by
 intro d s t H Q I h
 refine wpAny_isTrue_Compare1 (thn (ha _ s _ H _ I h) fun v C ⟨x,D,j,l,m⟩=>thn (hb _ _ _ _ _ j m) fun u w ⟨y,B,i,g,o⟩ =>
  thn (ho _ _ _ _ x y v u _ i l g o) fun c A ⟨z,n,p,q,k,e,f⟩=>?_) hm
 subst e
 cases q
 exact dH ⟨n,p,f⟩
theorem Wz:(sizeLine:Nat)<2 ^ 63:=by decide
theorem At5:OpR X (binaryOp .Add) (fun x y H Q=>∃i j,x=.str i/\y=.str j/\i.length+j.length<=sizeLine/\Q (.str (i++j)) H):=by
 intro a s σ H x y v u Q I c b h;obtain⟨i,j,rfl,rfl,e,q⟩:=h;obtain⟨t,rfl⟩:=c;obtain⟨d,rfl⟩:=b
 exact add_str (fun d tk=>⟨.str _,H,I.tok _,⟨_,rfl⟩,q⟩) e
theorem vals1 (r:Vals [x] us):∃u,us=[u]/\RelV x u:=by
 cases r with
 | cons b a=>cases a;grind
theorem vals2 (r:Vals [x,y] us):∃u w',us=[u,w']/\RelV x u/\RelV y w':=by
 cases r with
 | cons c b =>
  cases b with
  | cons d a=>cases a;grind
theorem Be7:CallR X (.builtin "abs") (fun xs H Q=>∃i,xs=[.int i]/\Q (.int (if i<0 then -i else i)) H):=by
 intro a s σ H xs us Q I r h;obtain⟨i,rfl,q⟩:=h;obtain⟨u,rfl,t,rfl⟩:=vals1 r
 exact call_abs_int fun u tk=>⟨.int _,H,I.tok _,⟨_,rfl⟩,q⟩
theorem A4p (hc:X.calm=true):CallR X (.builtin "min") (fun xs H Q=>∃i j,xs=[.int i,.int j]/\Q (.int (if j<i then j else i)) H):=by
 intro a s σ H xs us Q I r h;obtain⟨i,j,rfl,q⟩:=h;obtain⟨u,w',rfl,⟨t,rfl⟩,⟨t',rfl⟩⟩:=vals2 r
 refine min_two_ints (I.ok.hd hc) fun h' tk k=>⟨_,H,I.kept k,?_,q⟩
 by_cases hj:j<i
 ·rw[if_pos hj,if_pos hj];exact⟨_,rfl⟩
 ·rw[if_neg hj,if_neg hj];exact⟨_,rfl⟩
theorem A4f:CallR X (.type "int") (fun xs H Q=>(∃i,xs=[.int i]/\Q (.int i) H)\/∃k,xs=[.bl k]/\Q (.int (if k then 1 else 0)) H):=by
 intro a s σ H xs us Q I r h
 rcases h with ⟨i,rfl,q⟩ | ⟨k,rfl,q⟩
 ·obtain⟨u,rfl,t,rfl⟩:=vals1 r
  exact call_int_int ⟨.int i,H,I,⟨_,rfl⟩,q⟩
 ·obtain⟨u,rfl,b⟩:=vals1 r
  cases b
  exact call_int_bool ⟨.int _,H,I.tok _,⟨_,rfl⟩,q⟩
theorem Ad0:CallR X (.type "str") (fun xs H Q=>∃i,xs=[.int i]/\i.natAbs.log2<1920/\Q (.str (toString i)) H):=by
 intro a s σ H xs us Q I r h;obtain⟨i,rfl,b,q⟩:=h;obtain⟨u,rfl,t,rfl⟩:=vals1 r;exact PySem.P.str_of_int b ⟨.str _,H,I.tok _,⟨_,rfl⟩,q⟩
def B4e (K:v8)(x:V)(H:Hp)(n:Nat):Prop :=
 match x with
 | .str y=>y.length<=sizeLine/\n=y.length
 | .byt y=>y.size<=sizeLine/\n=y.size
 | .ref p=>(∃xs,SqL K H p xs/\n=xs.length)\/∃xs,SqT K H p xs/\n=xs.length
 | _=>False
theorem Aq1:CallR X (.builtin "len") (fun xs H Q=>∃x n,xs=[x]/\B4e X.K x H n/\Q (.int n) H):=by
 intro j s σ H xs us Q I r h;obtain⟨x,n,rfl,e,q⟩:=h;obtain⟨u,rfl,d⟩:=vals1 r;have hl:=Wz;have hs:sizeLine=16777216:=sizeLine_eq
 cases x with
 | str y =>
  obtain⟨t,rfl⟩:=d;obtain⟨l,b⟩:y.length<=sizeLine/\n=y.length:=e;subst b
  exact len_str (by lia) ⟨.int _,H,I.tok _,⟨_,rfl⟩,q⟩
 | byt y =>
  obtain⟨t,rfl⟩:=d;obtain⟨l,b⟩:y.size<=sizeLine/\n=y.size:=e;subst b
  exact PySem.W.len_bytes (by lia) ⟨.int _,H,I.tok _,⟨_,rfl⟩,q⟩
 | ref p =>
  cases d
  have b := e
  rcases b with ⟨xs,c,b⟩ | ⟨xs,c,b⟩
  ·subst b
   obtain⟨g,f,i,k⟩:=I.list c;have a:=f.length
   exact Calls.call_len_list i.isList (by grind) ⟨.int _,H,I.tok _,⟨_,by simp only[cM];rw[a]⟩,q⟩
  ·subst b
   obtain⟨g,f,i,k⟩:=I.tuple c;have a:=f.length
   exact len_tuple i (by grind) ⟨.int _,H,I.tok _,⟨_,by simp only[cM];rw[a]⟩,q⟩
 | _=>trivial
end
structure ObjM (h:Heap) (x dx C:Addr) (mA:x_):Prop where
 obj:h.get? x=some (PySem.W.instObj C dx)
 ns:h.Ns1 dx mA
 ne:dx≠x
theorem A5l {h:Heap} (n:h.Ns1 d f):∃od,h.get? d=some od/\∀b,PySem.W.lookIn b od=some (f b):=by
 obtain⟨o,g,p,i,j,k,_,l⟩:=n
 refine⟨o,i,fun b=>?_⟩
 have e:=l b;unfold nsFind findBy at e;unfold PySem.W.lookIn;rw[j]
 dsimp only
 split
 ·grind
 ·have a:g.toList.any (·.refKey)=false:=by
   rw[List.any_eq_false];intro y m;obtain⟨z,t,c⟩:=k y (Array.mem_toList_iff.mp m)
   simp[DictEntry.refKey,c]
  grind
theorem ObjM.look (I:ObjM h x b C a):∃od,PySem.W.InstAt h x (PySem.W.instObj C b) C (some od)/\∀name,PySem.W.lookIn name od=some (a name) :=
 let ⟨od,ho,hl⟩:=A5l I.ns
 ⟨od,⟨I.obj,rfl,rfl,ho⟩,hl⟩
section
variable {prog:u5}{w:World}{A:t_}{E:z_}{s:u_}{K:v8}{x dx C f:Addr}{mA:x_}{name:Str}{v:Value}
theorem A0n (X:K.In s.heap) (I:ObjM s.heap x dx C mA) (hg:PySem.W.plainGet K C name=true) (c:PySem.W.hasDictIn K C=true)
 (ha:PySem.W.findIn K (.ref C) name=some none) (hv:mA name=some v) (b:PySem.W.handedIn v=true) (h:Q v { s with toks:=s.toks+1 }) :
 wpAny (model prog w) A (getAttr (.ref x) name a) Q E s:=by
 obtain⟨e,J,d⟩:=I.look
 exact PySem.W.get_value X J (PySem.W.plainGet_of hg).1 (PySem.W.findObj_own c ha rfl (by grind)) b h
theorem Uw (X:K.In s.heap) (I:ObjM s.heap x dx C mA)
 (hs:PySem.W.findIn K (.ref C) "__setattr__" = some (some (.builtin "object.__setattr__"))) (hp:PySem.W.plainOver K C=true) (ht:PySem.W.takerIn K C name=some none) (k:PySem.W.hasDictIn K C=true)
 (hw:PySem.Within mA ns) (hsz:ns.length<=sizeLine)
 (h:∀d,ObjM d x dx C (fun y=>if y=name then some v else mA y)->Heap.SameBut dx s.heap d->Q () { s with heap:=d,toks:=s.toks+2 }) :
 wpAny (model prog w) A (setAttr (.ref x) name v) Q E s:=by
 obtain⟨r,J,p⟩:=I.look
 refine PySem.W.set_plain X J hs (PySem.W.osa_open X J hp ht fun b=>?_)
 obtain⟨o,l,g⟩:=PySem.W.any_some k;have n := I.obj
 refine aj (ak (aj (aj (wpAny_loadPart n (aj (PySem.W.Looks.here (PySem.W.looks_clsIn X l) ?_))))))
 rw[g]
 refine ak (aj (ak (aj ?_)))
 refine wpAny_nsSet1 I.ns fun d c a=>?_
 obtain⟨q,j,m,f,i,e⟩:=c.count (PySem.Within.cons _ v hw)
 refine aj (wpAny_lookBehind f (by rw[i];exact pastItsLine_dict (au e (by simp_all))) ?_)
 exact ak (h _ ⟨(a.2 _ (aG I.ne)).trans I.obj,c,I.ne⟩ a)
end
structure Room (k:Nat) (A:t_):Prop where
 hd:A.handled=none
 dp:A.depth+3*k+5<recursionLimit
 un:A.units+16*k+200<cLine
 gd:A.guards=some []
theorem Room.mono (r:Room k A) (h:j<=k):Room j A:=⟨r.hd,by have:=r.dp;lia,by have:=r.un;lia,r.gd⟩
theorem Room.deeper (r:Room (k+1) A) (env:Env):Room k (A.deeper env) :=
 ⟨r.hd,by have:=r.dp;show A.depth+1+3*k+5<_;lia,by have:=r.un;show A.units+3+16*k+200<_;lia,r.gd⟩
theorem Room.in1 (r:Room (k+1) A):Room k A.in1 :=
 ⟨r.hd,by have:=r.dp;grind,by have:=r.un;grind,r.gd⟩
theorem Room.depth (r:Room k A):A.depth<recursionLimit:=by have:=r.dp;lia
theorem Room.units (r:Room k A):A.units+64<cLine:=by have:=r.un;lia
def Gm:TA:=fun _ H Q=>Q [] H
def Cm (ta:TE)(tr:TA):TA:=fun σ H Q=>ta σ H fun x H1=>tr σ H1 fun xs H2=>Q (x::xs) H2
section
variable {X:Cx}{e:Expr}{es:v9}{te:TE}{t:TA}{pos:Pos}
theorem Wl:PA X [] Gm:=fun _ _ _ _ H Q I h=>gb ⟨[],H,I,.nil,h⟩
theorem A1p (ha:PE X e te)(hr:PA X es t)(hs:starEach (e::es) X.env=(false,eval e X.env)::starEach es X.env:=by rfl):PA X (e::es) (Cm te t):=by
 intro d a s m H Q I h;rw[hs]
 refine eG (thn (ha _ s _ H _ I h) fun u o ⟨x,n,f,g,i⟩=>?_)
 exact thn (hr _ _ _ _ _ _ f i) fun p q ⟨c,k,j,l,b⟩=>⟨x::c,k,j,.cons g l,b⟩
def Bq1 (t:TA):TE:=fun σ H Q=>t σ H fun xs H1=>xs.length<=sizeLine/\∀p,H1 p=none->Q (.ref p) (upd H1 p (.tup xs))
def B0b (t:TA):TE:=fun σ H Q=>t σ H fun xs H1=>xs.length<=sizeLine/\∀p,H1 p=none->Q (.ref p) (upd H1 p (.lst xs))
theorem Cz (h:QA X es t):QE X (.Tuple es d pos) (Bq1 t):=by
 refine⟨?_⟩
 intro a s i H Q I g
 refine wpAny_Tuple_spliced (thn (h.1 _ _ s _ H _ I g) fun f j ⟨k,l,c,r,z,q⟩=>⟨by rw[<- r.length];grind,?_⟩)
 refine⟨.ref _,upd _ _ _,c.laid (fun b u e=>aF _ e) (aq _) ?_,rfl,q _ (c.hok.fresh (aq _))⟩
 exact⟨z,f,r,⟨_,aJ _ rfl,rfl,⟨_,rfl⟩,rfl⟩⟩
theorem Dk (h:QA X es t):QE X (.List es pos) (B0b t):=by
 refine⟨?_⟩
 intro c s g H Q I d
 refine wpAny_List_spliced (thn (h.1 _ _ s _ H _ I d) fun f i ⟨j,k,a,r,z,q⟩=>⟨by rw[<- r.length];grind,?_⟩)
 refine⟨.ref _,upd _ _ _,a.laid (fun b u e=>aF _ e) (aq _) ?_,rfl,q _ (a.hok.fresh (aq _))⟩
 exact⟨z,f,0,r,aJ _ rfl⟩
end
abbrev Sp:=n7->Hp->VK->XK->Prop
abbrev CXT:=List Env->Hp->u_->XK->Value->u_->Prop
structure Env0 (P:u5) (w:World) (K:v8) (mg:x_) (base:Heap) (A:t_) (outer:List Env) (s:u_) (H:Hp):Prop where
 frames:A.frames=some outer
 mod:Mod K mg base
 bs:∀b o,base.get? b=some o->s.heap.get? b=some o/\H b=none
 bsz:base.objs.size<=s.heap.objs.size
 funs:s.heap.FunFrames base outer
 frf:∀b∈frs outer,H b=none
 tab:∀p∈Fp K,H p.1=some (.tbl p.2)
 hok:HOk P w H s.heap
 bare:AllBare s.gens
def CE (outer:List Env)(P:u5)(w:World)(H:Hp)(s:u_)(Q:VK)(u:Value)(s':u_):Prop :=
 ∃v H',s'.os=s.os/\AllBare s'.gens/\Un (frs outer) [] H H' s.heap s'.heap/\HOk P w H' s'.heap/\RelV v u/\Q v H'
def CR (CX:CXT)(outer:List Env)(P:u5)(w:World)(H:Hp)(s:u_)(Q:VK)(E:XK)(r:Result)(s':u_):Prop :=
 match r with
 | .ok (.ret u)=>CE outer P w H s Q u s'
 | .ok _=>False
 | .error e=>CX outer H s E e s'
structure FnOk (P:u5) (w:World) (K:v8) (mg:x_) (base:Heap) (CX:CXT) (k:Nat) (f:Addr) (fd:v_) (ps:v4) (sp:Sp):Prop where
 len:∀vs H Q E,sp vs H Q E->vs.length=ps.length
 run:∀(A:t_) (outer:List Env) (s:u_) (H:Hp) (args:Args) (us:w6) (vs:n7) (Q:VK) (E:XK),Room k A->Env0 P w K mg base A outer s H->BindsTo s fd args (ps.zip us)->Vals vs us->sp vs H Q E ->
  codeAny (model P w) A (.call (.ref f) args) (CR CX outer P w H s Q E) s
theorem FnOk.imp {K:v8} (F:FnOk P w K mg base CX k f d ps sp)
 (h:∀b H Q E,a b H Q E->sp b H Q E):FnOk P w K mg base CX k f d ps a :=
 ⟨fun b H Q E q=>F.len _ H Q E (h _ _ _ _ q),fun A c s H e n b Q E j l i m g=>F.run A _ s H _ _ _ Q E j l i m (h _ _ _ _ g)⟩
theorem Env0.in1 {K:v8} (e:Env0 P w K mg base A a s H) :
 Env0 P w K mg base A.in1 a s H:=⟨e.frames,e.mod,e.bs,e.bsz,e.funs,e.frf,e.tab,e.hok,e.bare⟩
section
variable {X:Cx}{pins:y_}{σ:St}{H:Hp}{s s':u_}
theorem Inv.env0 (I:Inv X pins σ H s):Env0 X.prog X.w X.K X.mg X.base X.A X.stack s H :=
 ⟨I.ok.frames,I.ok.mod,I.bs,au I.ok.bsz I.sz,I.stack,I.stkFree,fun p a=>I.base.tbls _ _ (I.ok.tab p a),I.hok,I.bare⟩
theorem Inv.after (I:Inv X pins σ H s) (h:CE X.stack X.prog X.w H s Q u s'):EP X pins σ Q u s':=by
 obtain⟨v,j,i,a,f,c,r,q⟩:=h;obtain⟨hh,g,d,t,e⟩:=s';obtain rfl:e=s.os:=i
 exact⟨v,j,I.call f c a fun b z=>absurd z (by simp),r,q⟩
end
def Al0 (sp:Sp)(dvs:n7)(E:XK)(t:TA):TE:=fun σ H Q=>t σ H fun vs H1=>sp (vs++dvs) H1 Q E
def Binds (K:v8)(fd:v_)(ps:v4)(ds:w6):Prop :=
 ∀(s:u_) (us:w6),K.In s.heap->(us++ds).length=ps.length->BindsTo s fd ⟨us,[]⟩ (ps.zip (us++ds))
theorem Binds.all {K:v8} (h:∀a:w6,a.length=ps.length->bindArgs c ⟨a,[]⟩=pure (ps.zip a)):Binds K c ps []:=fun s a _ b=>by
 rw[cN]at b ⊢;exact .of_eq (h _ b)
def Vy (CX:CXT)(X:Cx)(E:XK):Prop:=∀(pins:y_) (σ:St) (H:Hp) (s:u_) (e:Value) (s':u_),Inv X pins σ H s->CX X.stack H s E e s'->X.xe e s'
section
variable {X:Cx}{CX:CXT}{k:Nat}{f:Addr}{fd:v_}{ps:v4}{sp:Sp}{dvs:n7}{ds:w6}{E:XK}{x:Str}{p pos:Pos}{e:Expr}{es:v9}{t:TA}
theorem B0w (F:FnOk X.prog X.w X.K X.mg X.base CX k f fd ps sp) (hr:Room k X.A) (hb:Binds X.K fd ps ds) (hd:Vals dvs ds) (hx:Vy CX X E)
 (I:Inv X pins b H s) (r:Vals vs us) (h:sp (vs++dvs) H Q E):wpAny (model X.prog X.w) X.A (call (.ref f) us) (EP X pins b Q) X.xe s:=by
 have a := r.append hd
 have g:(us++ds).length=ps.length:=by rw[<- a.length];exact F.len _ _ _ _ h
 refine wpAny_call (eN (F.run _ _ s H _ _ _ Q E hr I.env0 (hb s _ I.kIn g) a h) fun r i c=>?_)
 cases r with
 | error e=>exact hx _ _ H s e _ I c
 | ok d =>
  cases d with
  | ret u=>exact I.after c
  | next=>assumption
  | brk=>assumption
  | cont=>trivial
theorem Bs5 (F:FnOk X.prog X.w X.K X.mg X.base CX k f fd ps sp)(hr:Room k X.A)(hg:Gl X x)(hm:X.mg x=some (.ref f))(hk:PySem.W.keepIn X.K (.ref f)=true)(hb:Binds X.K fd ps ds)(hd:Vals dvs ds)(hx:Vy CX X E)
 (ha:PA X (e::es) t) (hdb:(x==("__debug__" : Str))=false:=by decide) (he:starEach (e::es) X.env=(false,eval e X.env)::starEach es X.env:=by rfl) (hpl:(backTo pos (starEach es X.env)).any (·.1)=false:=by rfl) :
 PE X (.Call (.Name x p) (e::es) [] pos) (Al0 sp dvs E t):=by
 intro b s c H Q I h
 refine fu (A1x I hg hm ?_ hdb)
 refine PySem.W.callWith_K I.ok.mod.kin hk (thn (ha _ _ s _ H _ I h) fun d g ⟨i,j,a,r,q⟩=>⟨a.kIn,?_⟩) he hpl
 exact B0w F hr hb hd hx a r q
end
def PK (X:Cx)(kws:List Keyword)(t:TA):Prop :=
 ∀(pos:Pos) (pins:y_) (s:u_) (σ:St) (H:Hp) (Q:n7->Hp->Prop),Inv X pins σ H s->t σ H Q->wpAny (model X.prog X.w) X.A (evalAll ((backToKw pos (keywordEach kws X.env)).map (·.2))) (AP X pins σ Q) X.xe s
structure QK (X:Cx) (e:(List Keyword)) (t:TA):Prop where
 get:PK X e t
section
variable {X:Cx}{k:Nat}{f:Addr}{x m:Str}{p kpos:Pos}{e o:Expr}{kws:List Keyword}{te:TE}{t:TA}{nm:Option Str}
theorem B0p:PK X [] Gm:=fun _ _ _ _ H Q I h=>wpAny_evalAll_nil ⟨[],H,I,.nil,h⟩
theorem Om (ha:QE X e te)(hr:QK X kws t):QK X (⟨nm,e,kpos⟩::kws) (Cm te t):=by
 refine⟨?_⟩
 intro d a s m H Q I h
 refine wpAny_evalAll_cons (aj (thn (ha.1 _ s _ H _ I h) fun u o ⟨x,n,f,g,i⟩=>aj (fY (ak ?_))))
 exact thn (hr.1 _ _ _ _ _ _ f i) fun p q ⟨c,k,j,l,b⟩=>⟨x::c,k,j,.cons g l,b⟩
end
structure Ax (N P:v4) (sc:Scope):Prop where
 kind:sc.kind=.function:=by rfl
 co:sc.isCoroutine=false:=by rfl
 gen:sc.isGenerator=false:=by rfl
 nd:N.Nodup:=by decide +kernel
 pre:N.take P.length=P:=by rfl
 par:∀x∈P,sc.names.lookup x=some .local\/sc.names.lookup x=some .cell:=by decide +kernel
 nofree:∀y∈sc.names,y.2≠.free:=by decide +kernel
theorem Yr {kindOf:Str->Option NameKind}{x:Str}:∀{binds:List (Str×Value)}{m:x_},(∀v,(x,v)∉binds)->bindL kindOf binds m x=m x
 | [],_,_=>rfl
 | (n,v)::r,m,h=>by
  unfold bindL
  rw[Yr fun w hw=>h w (aY _ hw)]
  split
  ·have:x≠n:=by rintro rfl;exact h v aQ
   simp[this]
  ·rfl
theorem Yy {kindOf:Str->Option NameKind}{x:Str}:∀{binds:List (Str×Value)}{m:x_},(∀v,(x,v)∉binds)->bindC kindOf binds m x=m x
 | [],_,_=>rfl
 | (n,v)::r,m,h=>by
  unfold bindC
  rw[Yy fun w hw=>h w (aY _ hw)]
  split
  ·rfl
  ·have:x≠n:=by rintro rfl;exact h v aQ
   simp[this]
theorem Y4 {kindOf:Str->Option NameKind}{x:Str}{v:Value}:∀{P:v4}{vs:w6}{i:Nat}{m:x_},P.Nodup->P[i]?=some x->vs[i]?=some v->kindOf x=some .local ->
 bindL kindOf (P.zip vs) m x=some v
 | [],_,_,_,_,h,_,_=>by simp at h
 | _::_,[],_,_,_,_,h,_=>by simp at h
 | p::P,w::vs,0,m,nd,h1,h2,hk=>by
  simp at h1 h2;subst h1;subst h2
  show bindL kindOf ((p,w)::P.zip vs) m p=_
  unfold bindL
  rw[Yr fun v hv=>(c7.mp nd).1 (List.of_mem_zip hv).1,if_pos hk]
  simp
 | p::P,w::vs,i+1,m,nd,h1,h2,hk=>by
  show bindL kindOf ((p,w)::P.zip vs) m x=_
  unfold bindL
  exact Y4 (i:=i) (c7.mp nd).2 (by simpa using h1) (by simpa using h2) hk
theorem Zo {kindOf:Str->Option NameKind}{x:Str}{v:Value}:∀{P:v4}{vs:w6}{i:Nat}{m:x_},P.Nodup->P[i]?=some x->vs[i]?=some v->kindOf x≠some .local ->
 bindC kindOf (P.zip vs) m x=some v
 | [],_,_,_,_,h,_,_=>by simp at h
 | _::_,[],_,_,_,_,h,_=>by simp at h
 | p::P,w::vs,0,m,nd,h1,h2,hk=>by
  simp at h1 h2;subst h1;subst h2
  show bindC kindOf ((p,w)::P.zip vs) m p=_
  unfold bindC
  rw[Yy fun v hv=>(c7.mp nd).1 (List.of_mem_zip hv).1,if_neg hk]
  simp
 | p::P,w::vs,i+1,m,nd,h1,h2,hk=>by
  show bindC kindOf ((p,w)::P.zip vs) m x=_
  unfold bindC
  exact Zo (i:=i) (c7.mp nd).2 (by simpa using h1) (by simpa using h2) hk
noncomputable def start (N:v4)(vs:n7):St:=vs.map some++List.replicate (N.length-vs.length) none
noncomputable def A4h (CX:CXT)(P:u5)(w:World)(K:v8)(mg:x_)(base:Heap)(N:v4)(qual:Str)(scope:Scope)(f:Addr)(cd:Value)(A:t_)(outer:List Env)(s:u_)(H:Hp)(E:XK):Cx where
 prog:=P
 w:=w
 K:=K
 mg:=mg
 base:=base
 A:=A.deeper (envOfC qual scope s.heap.objs.size f cd)
 N:=N
 s₀:=s
 H₀:=H
 env:=envOfC qual scope s.heap.objs.size f cd
 outer:=outer
 stack:=envOfC qual scope s.heap.objs.size f cd::outer
 ex:=[]
 calm:=true
 fn:=fun _=>true
 pn:=[]
 xe:=fun e s'=>wpAny (model P w) (A.deeper (envOfC qual scope s.heap.objs.size f cd)) (leaving (envOfC qual scope s.heap.objs.size f cd) e) (fun _ s''=>CX outer H s E e s'') (fun e' s''=>CX outer H s E e' s'') s'
theorem Aj5 {a:Scope} (h:a.names.lookup x=some .cell):∃c,(cellsFrom n a.names []).lookup x=some c:=by
 exact Option.isSome_iff_exists.mp (PySem.W.cellsFrom_some _ n [] (.inl h))
theorem A3g {K:v8} 
 (S:Ax N ps scope) (hd:A.handled=none) (d:Env0 P w K mg base A a s H) (hl:vs.length=ps.length) (r:Vals vs us)
 (x:InCallC s s.heap.objs.size (bindL (envOfC qual scope s.heap.objs.size f t).kindOf (ps.zip us) fun _=>none) (cellsFrom (s.heap.objs.size+1) scope.names []) (bindC (envOfC qual scope s.heap.objs.size f t).kindOf (ps.zip us) fun _=>none) s1) :
 Inv (A4h CX P w K mg base N qual scope f t A a s H E) [] (start N vs) H s1:=by
 have D:ps.length<=N.length:=by have:=cY List.length S.pre;rw[eO]at this;lia
 obtain⟨o,tk,rfl,B⟩:=x.done
 have g:∀b:Addr,b∉(A4h CX P w K mg base N qual scope f t A a s H E).ex:=fun b z=>absurd (show b∈([]:v5) from z) (by simp)
 refine⟨⟨d.mod,S.kind,rfl,rfl,aq _,fun y z c o n=>?_,fun y j=>?_,fun y c _ h=>?_,fun _=>hd,Around.frames_deeper d.frames,.inr ⟨rfl,rfl⟩,fun b z=>absurd z (g b),d.bs,d.bsz,fun b _ _=>g b,fun b z=>absurd z (g b),d.funs,d.frf,d.tab⟩,
  rfl,d.bare,Un.kept B,⟨_,x.toInCall.ns,fun i y v o n h3=>?_⟩,fun y c h=>⟨_,x.cell y c h⟩,d.hok.fresh (aq _),fun y c h=>?_,fun p m=>absurd (show p∈([]:y_) from m) (by simp),d.hok.kept B,?_⟩
 ·exact name_of_addr x.apart (gf o) (gf n)
 ·have j:scope.names.lookup y=some .cell\/scope.names.lookup y=some .free:=j
  rcases j with j | j
  ·exact Aj5 j
  ·exact absurd rfl (S.nofree _ (gf j))
 ·exact gO (x.above y c (gf h))
 ·have hi:i<vs.length:=by
   unfold start at n
   grind
  have F:vs[i]?=some v:=by
   unfold start at n
   grind
  obtain⟨u,C,G⟩:=r.get F
  have m:ps[i]?=some y:=by
   rw[<- S.pre,List.getElem?_take_of_lt (by lia)];exact o
  have l:ps.Nodup:=by rw[<- S.pre];exact S.nd.sublist (List.take_sublist _ _)
  refine⟨u,G,?_⟩
  rcases S.par y (bc m) with k | k
  ·exact .inl ⟨k,Y4 l m C k⟩
  ·obtain⟨c,e⟩:=Aj5 k
   refine .inr ⟨.inl k,c,e,?_⟩
   have q:=x.cell y c e
   rw[Zo l m C (by show scope.names.lookup y≠_;rw[k];decide)]at q
   exact q
 ·exact d.hok.fresh (gO (x.above y c (gf h)))
 ·unfold start
  show _=N.length
  simp_all
theorem B6e {K:v8} 
 (lk:K.lookup f=some ⟨oc,od,.func (PySem.W.fnOf name qual d body scope U O z R M a W),F⟩) (hcd:PySem.W.codeIn K a qual=true) (S:Ax N ps scope)
 (p:∀vs H Q E,sp vs H Q E->vs.length=ps.length)
 (i:∀(A:t_) (c:List Env) (s:u_) (H:Hp) (vs:n7) (Q:VK) (E:XK),Room k (A.deeper (envOfC qual scope s.heap.objs.size f a))->sp vs H Q E ->
  ∃t,PSs (A4h CX P w K mg base N qual scope f a A c s H E) body t/\t { nx:=fun _ H'=>Q .non H',rt:=Q } (start N vs) H) :
 FnOk P w K mg base CX (k+1) f (PySem.W.fnOf name qual d body scope U O z R M a W) ps sp:=by
 refine⟨p,fun A c s H T X vs Q E C l hb r m=>?_⟩
 have hl:=p _ _ _ _ m
 have G := l.mod.kin.keeps fun b o e=>(l.bs b o e).1
 have h:∀y∈ps.zip X,scope.names.lookup y.1=some .local\/(scope.names.lookup y.1=some _/\((cellsFrom (s.heap.objs.size+1) _ []).lookup y.1).isSome=true):=fun⟨n,v⟩ Y=>by
  rcases S.par n (List.of_mem_zip Y).1 with q | q
  ·grind
  ·exact .inr ⟨q,PySem.W.cellsFrom_some _ _ _ (.inl q)⟩
 refine codeAny_call_function C.depth (G _ _ lk) rfl S.co S.gen rfl (PySem.W.codeRec_of G hcd) (hb _ _ _ _ ?_)
 refine wpAny_newFunctionEnv_cells S.kind h fun Z he s1 x=>?_
 subst he
 refine⟨(l.mod.nolimit.keeps fun b o e=>(l.bs b o e).1).keeps x.toInCall.keep,codeAny_func ?_⟩
 obtain⟨t,ht,hq⟩:=i A _ s H _ Q E (C.deeper _) m;have I:Inv (A4h CX P w K _ _ N qual _ f a A _ s H E) _ _ H _:=A3g S C.hd l hl r x
 refine aU (ht _ _ _ H _ I hq) (fun fl L j=>?_) fun e L j=>j
 have B:∀{g:St} {H':Hp} {v:V} {u:Value},Inv (A4h CX P w K mg base N qual scope f a A c s H E) [] g _ L->RelV v u->Q v _->CE _ P w H s Q u _ :=
  fun {g H' v u} J D q=>⟨v,H',J.os,J.bare,J.base,J.hok,D,q⟩
 cases fl with
 | ret u =>
  obtain⟨v,g,H',J,D,q⟩:=j;exact B J D q
 | next =>
  obtain⟨g,H',J,q⟩:=j;exact B (v:=V.non) J rfl q
 | brk =>
  obtain⟨_,_,_,q⟩:=j
  trivial
 | cont =>
  obtain⟨_,_,_,q⟩:=j
  trivial
section
variable {X:Cx}{x:Str}{p pos:Pos}{e:Expr}{es:v9}{t:TA}{id T:String}{r:n7->Hp->VK->Prop}
def tCB (r:n7->Hp->VK->Prop)(t:TA):TE:=fun σ H Q=>t σ H fun vs H1=>r vs H1 Q
theorem Ba3 (hc:CallR X (.builtin id) r)(hg:Gl X x)(hm:X.mg x=none)(hv:bootBuiltins x=some (.builtin id))(ha:PA X (e::es) t)(hn:x ≠ "__name__" := by decide) (hdb:(x==("__debug__" : Str))=false:=by decide)
 (he:starEach (e::es) X.env=(false,eval e X.env)::starEach es X.env:=by rfl) (hpl:(backTo pos (starEach es X.env)).any (·.1)=false:=by rfl):PE X (.Call (.Name x p) (e::es) [] pos) (tCB r t):=by
 intro a s f H Q I h
 refine fu (Jf I hg hm hv ?_ hn hdb)
 exact PyProof.Rows.callWith_builtin1 (thn (ha _ _ s _ H _ I h) fun j k ⟨g,i,d,c,b⟩=>hc _ _ _ _ _ _ Q d c b) he hpl
theorem A4q (hc:CallR X (.type T) r)(hg:Gl X x)(hm:X.mg x=none)(hv:bootBuiltins x=some (.type T))(ha:PA X (e::es) t)(hn:x ≠ "__name__" := by decide) (hdb:(x==("__debug__" : Str))=false:=by decide)
 (he:starEach (e::es) X.env=(false,eval e X.env)::starEach es X.env:=by rfl) (hpl:(backTo pos (starEach es X.env)).any (·.1)=false:=by rfl):PE X (.Call (.Name x p) (e::es) [] pos) (tCB r t):=by
 intro a s f H Q I h
 refine fu (Jf I hg hm hv ?_ hn hdb)
 exact d_ (thn (ha _ _ s _ H _ I h) fun j k ⟨g,i,d,c,b⟩=>hc _ _ _ _ _ _ Q d c b) he hpl
end
end L2
namespace HT
open PySem PyProof.Rows
section
variable {prog:u5}{w:World}{A:t_}{E:z_}{s:u_}
theorem Bo4 (ht:IsTup s.heap t vs.toArray) (hb:IsTup s.heap b c.toArray) (hv:vs≠[])
 (h1:c=[]->Q (.ref t) s) (h2:c≠[]->Q (.ref s.heap.objs.size) { s with heap:=s.heap.push { cls:=.type "tuple",data:=.seq (vs++c).toArray } })
 (hsz:vs.length+c.length<=sizeLine):wpAny (model prog w) A (binaryOp .Add (.ref t) (.ref b)) Q E s:=by
 obtain⟨⟨g,q,d,p⟩,e,o,n,l⟩:=id ht;obtain⟨⟨j,k,i,m⟩,a,h,r,f⟩:=id hb;subst o l h f
 by_cases hw:c=[]
 ·exact concat_meets ⟨_,e,rfl⟩ ⟨_,a,rfl⟩ iQ seq_tuple_add iR iT (iU _ _)
   (tuple_addW1 t b _ _ n _ _ _ _ _ (by simp_all) (by grind)) ⟨e,a,h1 hw⟩
 ·refine concat_meets ⟨_,e,rfl⟩ ⟨_,a,rfl⟩ iQ seq_tuple_add iR iT (iU _ _)
   (tuple_addW2 t b _ _ n _ _ _ _ _ (by grind) (by simp_all) (by simp_all)) ⟨e,a,?_⟩
  grind
noncomputable def sIx (n d:Nat):q9->Nat
 | none=>d
 | some v=>if v<0 then (v+(n:Int)).toNat else min v.toNat n
theorem Ao7 (n d:Nat):sIx n d none=d:=rfl
theorem A2b (n d k:Nat):sIx n d (some (k:Int))=min k n:=by
 show (if k<0 then ((k:Int)+n).toNat else min _ n)=min k n
 grind
theorem B1n (n d:Nat)(hd:d<=n)(o:q9):sIx n d o<=n:=by
 cases o with
 | none=>exact hd
 | some v =>
  show (if v<0 then (v+n).toNat else min _ n)<=n
  grind
theorem A0q (v:Int)(n d:Nat):(if v<0 then max (v+(n:Int)) 0 else min v (n:Int))=((sIx n d (some v):Nat):Int):=by
 show (if v<0 then max _ 0 else min v _)=(((if v<0 then (v+n).toNat else min _ n):Nat):Int)
 grind
theorem Aw0 (lo hi:q9)(n:Nat):Builtin.Slice.sliceAdjust lo hi 1 (n:Int)=(((sIx n 0 lo:Nat):Int),((sIx n n hi:Nat):Int)):=by
 refine Prod.ext ?_ ?_
 ·cases lo with
  | none=>rfl
  | some v=>exact A0q v n 0
 ·cases hi with
  | none=>rfl
  | some v=>exact A0q v n n
theorem Aw7 (i j:Nat):Builtin.Slice.slicePlaces (i:Int) (j:Int) 1=j-i:=by
 unfold Builtin.Slice.slicePlaces
 have h1:(1:Int)>0:=by lia
 simp only[h1,cj,Int.ediv_one]
 split <;> lia
theorem Wt (p:IsPart v o) (h:Q o s):wpAny (model prog w) A (Builtin.Slice.slicePartIndex v) Q E s:=by
 cases p with
 | none=>exact slicePart_none h
 | int i t=>exact slicePart_int h
theorem Lf {lo hi:q9}{n:Nat} (hs:s.heap.IsSliceOf e d c .none) (pl:IsPart d lo) (g:IsPart c hi)
 (h:Q (((sIx n 0 lo:Nat):Int),1,sIx n n hi-sIx n 0 lo) s):wpAny (model prog w) A (Builtin.Slice.sliceApplied (.ref e) (pure (n:Int))) Q E s:=by
 obtain⟨i,a,f,b⟩:=id hs
 refine aj (aj (bw a b (x:=d) rfl (aj (bw a b (x:=c) rfl (aj (bw a b rfl (ak ?_)))))))
 refine aj (slicePart_none ?_)
 refine aj (Wt pl (aj (Wt g (aj (ak ?_)))))
 show wpAny _ _ (match Builtin.Slice.sliceAdjust _ _ 1 _ with | (lo,hi)=>pure (lo,(1:Int),Builtin.Slice.slicePlaces lo hi 1)) _ _ s
 rw[Aw0 _ _ n]
 show wpAny _ _ (pure _) _ _ s
 rw[Aw7];exact ak h
theorem A7n (xs:v6)(i k:Nat):((List.range k).filterMap fun (m:Nat)=>xs[((i:Int)+(m:Int)*1).toNat]?).toArray=((xs.toList.drop i).take k).toArray:=by
 have e:(fun (m:Nat)=>xs[((i:Int)+m*1).toNat]?)=fun m=>xs[i+m]?:=by
  funext m
  have:((i:Int)+m*1).toNat=i+m:=by lia
  rw[this]
 rw[e];have:=pick_run xs i k;rw[List.filterMap_map]at this
 have a:((fun x=>xs[x]?) ∘ fun x=>i+x)=fun m=>xs[i+m]?:=rfl
 rw[a]at this;rw[this]
theorem Qt {lo hi:q9} (ht:IsTup s.heap t items) (hs:s.heap.IsSliceOf sl vl vu .none) (pl:IsPart vl lo) (pu:IsPart vu hi)
 (hw:¬ (sIx items.size 0 lo=0/\sIx items.size items.size hi=items.size))
 (h:Q (.ref s.heap.objs.size) { s with heap:=s.heap.push { cls:=.type "tuple",data:=.seq ((items.toList.drop (sIx items.size 0 lo)).take (sIx items.size items.size hi-sIx items.size 0 lo)).toArray } })
 (hsz:items.size<=sizeLine):wpAny (model prog w) A (getItem (.ref t) (.ref sl)) Q E s:=by
 have htake:sizeOk (.seq ((items.toList.drop (sIx items.size 0 lo)).take (sIx items.size items.size hi-sIx items.size 0 lo)).toArray):=by
  show ((items.toList.drop (sIx items.size 0 lo)).take (sIx items.size items.size hi-sIx items.size 0 lo)).toArray.size<=sizeLine
  rw[cM,eO,iV,gh];lia
 have hj:sIx items.size items.size hi<=items.size:=B1n _ _ (aq _) hi;obtain⟨os,hos,hcs,hds⟩:=id hs;have hTs:s.TypeIs (.ref sl) "slice" := ⟨os,hos,hcs⟩;unfold getItem
 try with_reducible refine bB ?_
 first | refine aj (ak ?_) | skip
 refine aj (wpAny_sequenceKey ht.typeIs (by decide) ?_)
 refine aj (cP (name:="__getitem__") ht.typeIs fB
  (bQ fB ht.typeIs entry_tuple_getitem ?_ (args_tuple_getitem _ _)))
 show wpAny _ _ (Builtin.Tuple.tupleItemsOf (.ref t) >>= _) _ _ s
 refine aj (tupleItemsOf_ ht ?_)
 refine aj (dI hTs ?_)
 rw[if_pos (by decide)]
 refine aj (Lf hs pl pu ?_)
 have hno:¬ ((((sIx items.size 0 lo:Nat):Int)==0&&(1:Int)==1&&(sIx items.size items.size hi-sIx items.size 0 lo)==items.size)=true):=by
  intro q;rw[dJ,dJ]at q;have q1:((sIx items.size 0 lo:Nat):Int)=0:=cZ q.1.1;have q2:sIx items.size items.size hi-sIx items.size 0 lo=items.size:=cZ q.2
  exact hw ⟨by lia,by lia⟩
 show wpAny _ _ (if (((sIx items.size 0 lo:Nat):Int)==0&&(1:Int)==1&&(sIx items.size items.size hi-sIx items.size 0 lo)==items.size)=true then _ else _) _ _ s
 rw[if_neg hno,A7n]
 first
  | exact aj (m:=Builtin.Tuple.tupleExact _) (cD (ak ⟨_,rfl,ak h⟩) htake)
  | exact aj (m:=Builtin.Tuple.tupleExact _) (cD (aj (ak (ak ⟨_,rfl,ak h⟩))) htake)
  | exact aj (aj (m:=Builtin.Tuple.tupleExact _) (cD (ak (ak ⟨_,rfl,ak h⟩)) htake))
  | exact aj (aj (m:=Builtin.Tuple.tupleExact _) (cD (ak ⟨_,rfl,ak h⟩) htake))
end
end HT
namespace L2
open PySem PySem.Spec PyProof.Rows
abbrev TO:=St->Hp->(q9->Hp->Prop)->Prop
def PO (X:Cx)(e:Option Expr)(t:TO):Prop :=
 ∀
  (pins:y_) (s:u_) (σ:St) (H:Hp) (Q:q9->Hp->Prop),Inv X pins σ H s->t σ H Q ->
  wpAny (model X.prog X.w) X.A (evalPart e X.env) (fun u s'=>∃o H',Inv X pins σ H' s'/\IsPart u o/\Q o H') X.xe s
structure QO (X:Cx) (e:(Option Expr)) (t:TO):Prop where
 get:PO X e t
noncomputable def A1k:TO:=fun _ H Q=>Q none H
noncomputable def Bt5 (t:TE):TO:=fun σ H Q=>t σ H fun x H1=>∃i,x=.int i/\Q (some i) H1
section
variable {X:Cx}{e:Expr}{te:TE}{lo hi:Option Expr}{tl th:TO}{pos p2:Pos}
theorem U9:QO X none A1k:=by
 refine⟨?_⟩
 intro a s b H Q I h;exact ak ⟨none,H,I,.none,h⟩
theorem U6 (h:QE X e te):QO X (some e) (Bt5 te):=by
 refine⟨?_⟩
 intro a s σ H Q I d
 refine thn (h.1 _ s _ H _ I d) fun u s1 ⟨x,f,b,c,g⟩=>?_
 obtain⟨i,rfl,q⟩:=g;obtain⟨t,rfl⟩:=c;exact⟨some i,f,b,.int i t,q⟩
def SlR (X:Cx)(r:V->q9->q9->Hp->VK->Prop):Prop :=
 ∀
  (pins:y_) (s:u_) (σ:St) (H:Hp) (x:V) (v vl vu:Value) (lo hi:q9) (sl:Addr) (Q:VK),Inv X pins σ H s->RelV x v->s.heap.IsSliceOf sl vl vu .none->IsPart vl lo->IsPart vu hi->r x lo hi H Q ->
  ∃T id,typeLookup (.type T) "__getitem__" = pure (some (.builtin id))/\s.TypeIs v T/\wpAny (model X.prog X.w) X.A (getItem v (.ref sl)) (EP X pins σ Q) X.xe s
theorem SlR.or (h:SlR X r) (h':SlR X b):SlR X (fun x lo hi H Q=>r x lo hi H Q\/b x lo hi H Q):=by
 intro d s g H x v i j lo hi k Q I e c f a q
 rcases q with q | q
 ·exact h _ s _ H x v _ _ _ _ _ Q I e c f a q
 ·exact h' _ s _ H x v _ _ _ _ _ Q I e c f a q
def tSl (r:V->q9->q9->Hp->VK->Prop)(te:TE)(tl th:TO):TE:=fun σ H Q=>te σ H fun x H1=>tl σ H1 fun l H2=>th σ H2 fun u H3=>r x l u H3 Q
theorem A6v (hr:SlR X r) (he:QE X e te) (hl:QO X lo tl) (hu:QO X hi th):QE X (.Subscript e (.Slice lo hi none p2) pos) (tSl r te tl th):=by
 refine⟨?_⟩
 intro c s E H Q I h
 refine Subscript_ (thn (he.1 _ s _ H _ I h) fun v B ⟨x,D,i,j,k⟩=>?_)
 refine wpAny_Slice (thn (hl.1 _ _ _ _ _ i k) fun m C ⟨l,K,n,o,f⟩=>thn (hu.1 _ _ _ _ _ n f) fun g a ⟨u,J,t,w,p⟩=>?_)
 refine ak ?_
 have z:Inv X _ _ _ { a with heap:=a.heap.push { cls:=.type "slice",data:=.fields #[m,g,.none] } }:=t.kept  fun b F q=>aF _ q
 obtain⟨T,G,y,A,d⟩:=hr _ _ _ _ x v _ _ l u _ Q z j (Heap.IsSliceOf.new ..) o w p
 exact tail_any A y d (by trivial)
def A3q (xs:n7)(lo hi:q9):n7:=(xs.drop (HT.sIx xs.length 0 lo)).take (HT.sIx xs.length xs.length hi-HT.sIx xs.length 0 lo)
theorem T6 (xs:n7)(lo hi:q9):(A3q xs lo hi).length<=xs.length:=by
 unfold A3q;rw[eO,iV];lia
def B4d (K:v8):V->q9->q9->Hp->VK->Prop:=fun x lo hi H Q=>∃a xs,x=.ref a/\SqT K H a xs /\
 ¬ (HT.sIx xs.length 0 lo=0/\HT.sIx xs.length xs.length hi=xs.length)/\∀p,H p=none->Q (.ref p) (upd H p (.tup (A3q xs lo hi)))
theorem Bx0:SlR X (B4d X.K):=by
 intro e s σ H x v vl vu lo hi sl Q I j k g l h;obtain⟨a,i,rfl,m,hw,q⟩:=h
 cases j
 obtain⟨d,r,f,n⟩:=I.tuple m
 have c:d.toArray.size=i.length:=by exact r.length.symm
 refine⟨"tuple",_,fB.lookup,f.typeIs,?_⟩
 refine HT.Qt f k g l (by grind) ?_ (by simp_all)
 rw[c]
 refine⟨.ref _,_,I.laid (fun b ob q=>aF _ q) (aq _) ?_,rfl,q _ (I.hok.fresh (aq _))⟩
 exact⟨au (T6 _ _ _) n,_,(r.drop _).take _,zV.new _ _⟩
def B4h (K:v8):R2:=fun x y H Q=>∃a b xs ys,x=.ref a/\y=.ref b/\SqT K H a xs/\SqT K H b ys/\xs≠[]/\xs.length+ys.length<=sizeLine /\
 (ys=[]->Q (.ref a) H)/\(ys≠[]->∀p,H p=none->Q (.ref p) (upd H p (.tup (xs++ys))))
theorem Vals.nil_iff (r:Vals xs us):us=[]↔xs=[]:=by
 cases r with
 | nil=>simp
 | cons _ _=>simp
theorem Bl3:OpR X (binaryOp .Add) (B4h X.K):=by
 intro e s σ H x y v u Q I o p h;obtain⟨a,b,xs,ys,rfl,rfl,k,l,g,hz,m,j⟩:=h
 cases o
 cases p
 obtain⟨i,d,n,_⟩:=I.tuple k;obtain⟨f,c,r,_⟩:=I.tuple l
 refine HT.Bo4 n r (fun z=>g (d.nil_iff.mp z)) (fun z=>⟨.ref a,H,I,rfl,m (c.nil_iff.mp z)⟩) (fun z=>?_) (by rw[<- d.length,<- c.length];grind)
 refine⟨.ref _,_,I.laid (fun b ob q=>aF _ q) (aq _) ?_,rfl,j (fun w=>z (c.nil_iff.mpr w)) _ (I.hok.fresh (aq _))⟩
 exact⟨by simp_all,_,d.append c,zV.new _ _⟩
end
noncomputable def ixN (n:Nat)(i:Int):Option Nat:=if 0<=i then (if i<n then some i.toNat else none) else if -(n:Int)<=i then some (i+n).toNat else none
def atI {α:Type}(xs:List α)(i:Int):Option α:=(ixN xs.length i).bind fun j=>xs[j]?
theorem Aa2 (h:ixN n i=some j):seqIndex? i n=some j/\j<n/\-(n:Int)<=i/\i<n:=by
 unfold ixN at h
 by_cases h0:0<=i
 ·rw[if_pos h0]at h
  by_cases h1:i<n
  ·rw[if_pos h1]at h
   have e := cR h
   exact⟨by rw[seqIndex_of h0 h1,e],by lia,by lia,h1⟩
  simp_all
 ·rw[if_neg h0]at h
  by_cases h1:-n<=i
  ·rw[if_pos h1]at h
   have e := cR h
   exact⟨by rw[seqIndex_neg (by lia) h1,e],by lia,h1,by lia⟩
  simp_all
theorem Ae1 {xs:List a} {v:a}(h:atI xs i=some v):∃j,seqIndex? i xs.length=some j/\xs[j]?=some v/\j<xs.length/\-(xs.length:Int)<=i/\i<xs.length:=by
 unfold atI at h
 cases e:ixN xs.length i with
 | none=>simp_all
 | some j =>
  obtain⟨c,d,f,b⟩:=Aa2 e
  grind
theorem Gz {xs:List a}{j:Nat}{v:a}(h:xs[j]?=some v):atI xs (j:Int)=some v:=by
 have b := (aZ.mp h).1
 have e:ixN xs.length j=some j:=by
  unfold ixN
  simp_all
 unfold atI;grind
def Mu (b:Expr):Prop:=∀o i,subscripted b false o i=operate [o,i] (getItem o i)
def IxR (X:Cx)(r:R2):Prop :=
 ∀
  (value slice:Expr) (pins:y_) (s:u_) (σ:St) (H:Hp) (x y:V) (v u:Value) (Q:VK),Inv X pins σ H s->RelV x v->RelV y u->r x y H Q ->
  subscripted slice false v u=operate [v,u] (getItem v u)->wpAny (model X.prog X.w) X.A (subscriptTail value slice v u) (EP X pins σ Q) X.xe s
def MtR (X:Cx)(id:String)(r:V->n7->Hp->VK->Prop):Prop :=
 ∀
  (pins:y_) (s:u_) (σ:St) (H:Hp) (x:V) (xs:n7) (v:Value) (us:w6) (Q:VK),Inv X pins σ H s->RelV x v->Vals xs us->r x xs H Q ->
  wpAny (model X.prog X.w) X.A (call (.builtin id) (v::us)) (EP X pins σ Q) X.xe s
section
variable {X:Cx}{a b:Expr}{ta tb:TE}{pos:Pos}
theorem IxR.or (h:IxR X r) (h':IxR X d):IxR X (fun x y H Q=>r x y H Q\/d x y H Q):=by
 intro b a e s i H x y v u Q I f g q c
 rcases q with q | q
 ·exact h _ _ _ s _ H x y v u Q I f g q c
 ·exact h' _ _ _ s _ H x y v u Q I f g q c
theorem Bv6 (hr:IxR X r) (ha:QE X a ta) (hb:QE X b tb) (hs:Mu b):QE X (.Subscript a b pos) (tOp r ta tb):=by
 obtain⟨ha⟩:=ha;obtain⟨hb⟩:=hb
 refine⟨?_⟩
 intro c s g H Q I h
 exact Subscript_ (B0y ha hb I h fun v u i x y j f e d q=>hr a b _ _ _ _ x y v u Q f e d q (hs _ _))
def B0f (K:v8):R2:=fun x y H Q=>∃p xs i v,x=.ref p/\y=.int i/\SqL K H p xs/\atI xs i=some v/\Q v H
def B3q (K:v8):R2:=fun x y H Q=>∃p xs i v,x=.ref p/\y=.int i/\SqT K H p xs/\atI xs i=some v/\Q v H
def B6j:R2:=fun x y H Q=>∃z i c,x=.str z/\y=.int i/\z.length<=sizeLine/\atI z.cps.toList i=some c/\Q (.str ⟨#[c]⟩) H
theorem ix_list:IxR X (B0f X.K):=by
 intro g f a s m H x y v u Q I C F h l;obtain⟨p,xs,i,z,rfl,rfl,E,n,q⟩:=h
 cases C
 obtain⟨t,rfl⟩:=F;obtain⟨e,r,c,hz⟩:=I.list E;obtain⟨j,k,D,h3,o,B⟩:=Ae1 n;obtain⟨w,ew,d⟩:=r.get D;have hl:=r.length;have hn:=Wz;have b:EP X a m Q w s:=⟨z,H,I,d,q⟩
 by_cases h0:0<=i
 ·have A:i.toNat=j:=by
   rw[seqIndex_of h0 B]at k
   simp_all
  exact item_listR c.isList h0 (by lia) (by grind) b l
 ·have A:(i+e.toArray.size).toNat=j:=by
   rw[seqIndex_neg (by lia) o]at k
   simp_all
  exact subscriptTail_builtinR c.isList.typeIs slot_list_getitem.lookup
   (wpAny_getItem_list_neg c.isList (by lia) (by simp_all) (by lia) (by grind) ⟨rfl,b⟩) l
theorem ix_tup:IxR X (B3q X.K):=by
 intro b c e s σ H x y v u Q I A g h o;obtain⟨p,xs,i,z,rfl,rfl,m,n,q⟩:=h
 cases A
 obtain⟨t,rfl⟩:=g;obtain⟨k,r,f,hz⟩:=I.tuple m;obtain⟨j,h1,l,h3,h4,h5⟩:=Ae1 n;obtain⟨w,ew,d⟩:=r.get l;have hl:=r.length;have hn:=Wz;have a:EP X _ _ Q w s:=⟨z,H,I,d,q⟩
 exact subscriptTail_builtinR f.typeIs slot_tuple_getitem.lookup
  (getItem_tuple (j:=j) f (by lia) (by lia) (by simp_all) (by grind) ⟨rfl,a⟩) o
theorem B1u:IxR X B6j:=by
 intro a b d s σ H x y v u Q I f m h g;obtain⟨z,i,c,rfl,rfl,hz,l,q⟩:=h;obtain⟨t,rfl⟩:=f;obtain⟨t',rfl⟩:=m;obtain⟨j,e,k,h3,o,n⟩:=Ae1 l
 have p:z.cps.toList.length=z.length:=by simp[Str.length]
 rw[p]at e o n;have hn:=Wz
 exact tail_any (typeIs_str s z t) slot_str_getitem.lookup (getItem_str (by
  grind) (by rw[e];simpa using k) ⟨.str _,H,I.tok _,⟨_,rfl⟩,q⟩) g
def rIx (K:v8):R2:=fun x y H Q=>B0f K x y H Q\/B3q K x y H Q\/B6j x y H Q
theorem By4:IxR X (rIx X.K):=ix_list.or (ix_tup.or B1u)
theorem Aw8 (a:w6)(n j:Nat)(u:Value):Obj.mapSeq (·.setIfInBounds j u) { cls:=.type "list",data:=.seq a.toArray n }={ cls:=.type "list",data:=.seq (a.set j u).toArray n }:=by
 simp[Obj.mapSeq]
theorem Inv.lst {b:St} (I:Inv X pins b H s) (h:H p=some (.lst xs)) :
 ∃(a:w6) (n:Nat),Vals xs a/\s.heap.get? p=some { cls:=.type "list",data:=.seq a.toArray n }/\xs.length<=sizeLine:=by
 obtain⟨z,a,n,r,e⟩:=I.hok p _ h
 grind
theorem Inv.lstUpd {a its':w6} (I:Inv X pins c H s) (h:H p=some (.lst xs))
 (ho:s.heap.get? p=some { cls:=.type "list",data:=.seq a.toArray n }) (hf:f { cls:=.type "list",data:=.seq a.toArray n }={ cls:=.type "list",data:=.seq its'.toArray n' }) (r:Vals ys its') (hz:ys.length<=sizeLine) (t:Nat) :
 Inv X pins c (upd H p (.lst ys)) { s with heap:=s.heap.update p f,toks:=t }:=by
 have e:(s.heap.update p f).get? p=some { cls:=.type "list",data:=.seq its'.toArray n' }:=by
  rw[cT f ho (by rw[hf] <;> rfl),hf]
 refine I.write (by rw[h];trivial) (.inl rfl) (fun b u d q=>(bH _ _ (aG d)).trans q) ⟨_,e⟩ ?_
 exact⟨hz,its',n',r,e⟩
def Bu0:V->V->V->Hp->(Hp->Prop)->Prop:=fun o i v H Q=>∃p xs k j,o=.ref p/\i=.int k/\H p=some (.lst xs)/\ixN xs.length k=some j/\Q (upd H p (.lst (xs.set j v)))
theorem set_list:B5f X Bu0:=by
 intro a s w H o i v ov iv u Q I y m g h;obtain⟨p,l,k,j,rfl,rfl,d,x,q⟩:=h
 cases y
 obtain⟨t,rfl⟩:=m;obtain⟨b,n,r,c,hz⟩:=I.lst d;obtain⟨e,h2,z,A⟩:=Aa2 x;have hl:=r.length;have hn:=Wz
 have I':Inv X a w (upd H p (.lst (l.set j v))) { s with heap:=s.heap.update p (Obj.mapSeq (·.setIfInBounds j u)) } :=
  I.lstUpd d c (Aw8 _ n j u) (r.set g j) (by grind) _
 by_cases h0:0<=k
 ·have f:k.toNat=j:=by
   rw[seqIndex_of h0 A]at e
   grind
  exact PySem.W.ki_setAt c h0 (by lia) (by grind) (by grind)
 ·have f:(k+b.toArray.size).toNat=j:=by
   rw[seqIndex_neg (by lia) z]at e
   simp_all
  exact PySem.W.ki_setBack c (by lia) (by simp_all) (by lia) (by grind)
theorem Ad9 (lo hi:q9)(n:Nat):(sliceBounds lo hi none n).1=((HT.sIx n 0 lo:Nat):Int)/\(sliceBounds lo hi none n).2.1=((HT.sIx n n hi:Nat):Int)/\(sliceBounds lo hi none n).2.2=1:=by
 refine⟨?_,?_,rfl⟩
 ·cases lo with
  | none=>simp[sliceBounds,HT.sIx]
  | some i =>
   simp only[sliceBounds,HT.sIx,Option.getD_none,show (1:Int)>0 by decide,cj]
   by_cases h:i<0
   ·simp only[h,cj] <;> lia
   ·simp only[h,bM] <;> lia
 ·cases hi with
  | none=>simp[sliceBounds,HT.sIx]
  | some i =>
   simp only[sliceBounds,HT.sIx,Option.getD_none,show (1:Int)>0 by decide,cj]
   by_cases h:i<0
   ·simp only[h,cj] <;> lia
   ·simp only[h,bM] <;> lia
theorem Yk (a:w6)(lo hi:q9):slicePick a.toArray lo hi none=((a.drop (HT.sIx a.length 0 lo)).take (HT.sIx a.length a.length hi-HT.sIx a.length 0 lo)).toArray:=by
 obtain⟨c,d,b⟩:=Ad9 _ _ _;unfold slicePick;rw[c,d,b]
 simp only[sliceRange_one,pick_run] <;> rfl
def B5o (K:v8):V->q9->q9->Hp->VK->Prop:=fun x lo hi H Q=>∃a xs,x=.ref a/\SqL K H a xs/\∀p,H p=none->Q (.ref p) (upd H p (.lst (A3q xs lo hi)))
theorem Br2:SlR X (B5o X.K):=by
 intro e s σ H x v vl vu lo hi sl Q I i j f k h;obtain⟨a,xs,rfl,g,q⟩:=h
 cases i
 obtain⟨l,r,d,m⟩:=I.list g;have c:=r.length
 refine⟨"list",_,slot_list_getitem.lookup,d.isList.typeIs,?_⟩
 refine wpAny_getItem_list_slice d.isList j f k .none (by simp) ?_ (by simp_all)
 rw[Yk,<- c]
 refine⟨.ref _,_,I.laid (fun b ob q=>aF _ q) (aq _) ?_,rfl,q _ (I.hok.fresh (aq _))⟩
 exact⟨au (T6 _ _ _) m,_,0,(r.drop _).take _,aJ _ rfl⟩
noncomputable def Rc:V->Bool
 | .non=>true
 | .bl _=>true
 | .int _=>true
 | .str _=>true
 | _=>false
noncomputable def eqV:V->V->Bool
 | .non,.non=>true
 | .bl a,.bl b=>a==b
 | .bl a,.int b=>(if a then 1 else 0)==b
 | .int a,.bl b=>a==(if b then 1 else 0)
 | .int a,.int b=>a==b
 | .str a,.str b=>a==b
 | _,_=>false
theorem B3p (e:RelV y u) (c:RelV x v) (f:Rc y=true) (fx:Rc x=true):SeqAt.EqAt A s u v (eqV y x):=by
 cases y with
 | non =>
  cases e
  cases x with
  | non=>cases c;exact SeqAt.EqAt.same _
  | bl b=>cases c;exact SeqAt.EqAt.none_bool b
  | int b=>obtain⟨t,rfl⟩:=c;exact SeqAt.EqAt.none_int b t
  | str b=>obtain⟨t,rfl⟩:=c;exact SeqAt.EqAt.none_str b t
  | _=>exact absurd (show false=true from fx) bu
 | bl a =>
  cases e
  cases x with
  | non=>cases c;exact SeqAt.EqAt.bool_none a
  | bl b=>cases c;exact SeqAt.EqAt.bool_bool a b
  | int b=>obtain⟨t,rfl⟩:=c;exact SeqAt.EqAt.bool_int a b t
  | str b=>obtain⟨t,rfl⟩:=c;exact SeqAt.EqAt.bool_str a b t
  | _=>exact absurd (show false=true from fx) bu
 | int a =>
  obtain⟨d,rfl⟩:=e
  cases x with
  | non=>cases c;exact SeqAt.EqAt.int_none a d
  | bl b=>cases c;exact SeqAt.EqAt.int_bool a d b
  | int b=>obtain⟨t,rfl⟩:=c;exact SeqAt.EqAt.int_int a d b t
  | str b=>obtain⟨t,rfl⟩:=c;exact SeqAt.EqAt.int_str a d b t
  | _=>exact absurd (show false=true from fx) bu
 | str a =>
  obtain⟨d,rfl⟩:=e
  cases x with
  | non=>cases c;exact SeqAt.EqAt.str_none a d
  | bl b=>cases c;exact SeqAt.EqAt.str_bool a d b
  | int b=>obtain⟨t,rfl⟩:=c;exact SeqAt.EqAt.str_int a d b t
  | str b=>obtain⟨t,rfl⟩:=c;exact iW a _ b t
  | _=>exact absurd (fx) bu
 | _=>exact absurd f bu
def eqU (x:V)(u:Value):Bool:=match u with
 | .none=>eqV .non x
 | .bool b=>eqV (.bl b) x
 | .int i _=>eqV (.int i) x
 | .str z _=>eqV (.str z) x
 | _=>false
theorem A7i (r:RelV y u) (f:Rc y=true):eqU x u=eqV y x:=by
 cases y with
 | non=>cases r;rfl
 | bl b=>cases r;rfl
 | int i=>obtain⟨t,rfl⟩:=r;rfl
 | str z=>obtain⟨t,rfl⟩:=r;rfl
 | _=>trivial
theorem Ad7 {x:V}:∀{xs:n7}{us:w6},Vals xs us->xs.all Rc=true->us.any (eqU x)=xs.any fun y=>eqV y x
 | _,_,.nil,_=>rfl
 | y::xs,u::us,.cons r t,f=>by
  rw[List.all_cons,dJ]at f;rw[gj,gj,A7i r f.1,Ad7 t f.2]
theorem Ww {A:t_}{s:u_}{x:V}{v:Value}(rx:RelV x v)(fx:Rc x=true):∀{xs:n7}{us:w6},Vals xs us->xs.all Rc=true->∀u∈us,SeqAt.EqAt A s u v (eqU x u)
 | _,_,.nil,_=>fun u hu=>by cases hu
 | y::xs,u::us,.cons r t,f=>fun u' hu=>by
  rw[List.all_cons,dJ]at f
  rcases aB.mp hu with rfl | hu
  ·rw[A7i r f.1];exact B3p r rx f.1 fx
  ·exact Ww rx fx t f.2 u' hu
def inV (x:V)(xs:n7):Bool:=xs.any fun y=>eqV y x
def rIn (K:v8)(neg:Bool):R2:=fun x y H Q=>∃p xs,y=.ref p/\(SqL K H p xs\/SqT K H p xs)/\Rc x=true/\xs.all Rc=true/\Q (.bl (if neg then !inV x xs else inV x xs)) H
theorem Ad8:OpR X (compareOp .NotIn) (rIn X.K true):=by
 intro e s σ H x y v u Q I f i h;obtain⟨p,xs,rfl,b,g,c,q⟩:=h
 cases i
 rcases b with b | b
 ·obtain⟨a,r,d,j⟩:=I.list b
  refine SeqAt.notIn_listAt _ d.isList (fun w k=>Ww f g r c w (by grind)) ⟨.bl _,H,I,rfl,?_⟩
  rw[show a.toArray.any _=a.any (eqU x) by simp,Ad7 r c]
  exact q
 ·obtain⟨a,r,d,j⟩:=I.tuple b
  refine SeqAt.notIn_tupleAt _ d (fun w k=>Ww f g r c w (by grind)) ⟨.bl _,H,I,rfl,?_⟩
  rw[show a.toArray.any _=a.any (eqU x) by simp,Ad7 r c]
  exact q
theorem CallR.or {r b:n7->Hp->VK->Prop}(h:CallR X f r) (h':CallR X f b):CallR X f (fun xs H Q=>r xs H Q\/b xs H Q):=by
 intro c s d H xs e Q I a q
 rcases q with q | q
 ·exact h _ s _ H _ _ Q I a q
 ·exact h' _ s _ H _ _ Q I a q
theorem Ad4:CallR X (.type "list") (fun xs H Q=>∃p k,xs=[.ref p]/\(SqL X.K H p k\/SqT X.K H p k)/\∀l,H l=none->Q (.ref l) (upd H l (.lst k))):=by
 intro z s σ H xs us Q I r h;obtain⟨p,k,rfl,f,q⟩:=h;obtain⟨u,rfl,A⟩:=vals1 r
 cases A
 have g:∀(a:List _),Vals _ _->k.length<=sizeLine->∀(d:Heap) (t:Nat),(∀b o',s.heap.get? b=some _->d.get? b=some _) ->
  d.get? _=some _->EP X _ _ Q _ { s with heap:=d }:=fun a c j d t i e =>
  ⟨.ref _,_,I.laid i (aq _) (show z9 _ _ _ _ _ (.lst _) from ⟨j,a,t,c,e⟩),rfl,q _ (I.hok.fresh (aq _))⟩
 rcases f with f | f
 ·obtain⟨a,c,y,j⟩:=I.list f
  have m:=c.length;obtain⟨o,w,x,n,v⟩:=y.isList
  exact call_list_seq p (.inl rfl) w x v (fun d t i e=>g _ c j _ _ i e) (by simp_all)
 ·obtain⟨a,c,y,j⟩:=I.tuple f
  have m:=c.length;obtain⟨o,w,x,n,v⟩:=y
  exact call_list_seq p (.inr rfl) w x v (fun d t i e=>g _ c j _ _ i e) (by simp_all)
theorem Xw:CallR X (.type "tuple") (fun xs H Q=>∃p c,xs=[.ref p]/\((SqL X.K H p c/\∀l,H l=none->Q (.ref l) (upd H l (.tup c)))\/(SqT X.K H p c/\Q (.ref p) H))):=by
 intro i s σ H xs us Q I r h;obtain⟨p,c,rfl,h⟩:=h;obtain⟨u,rfl,w⟩:=vals1 r
 cases w
 rcases h with ⟨d,q⟩ | ⟨d,q⟩
 ·obtain⟨a,g,f,m⟩:=I.list d
  have k:=g.length
  refine call_tuple_list f.isList (fun j v=>?_) (by simp_all)
  have n:Inv X _ _ H { s with heap:=j }:=I.kept v
  have t:Inv X _ _ (upd H _ (.tup _)) { s with heap:=j.push _ } :=
   n.laid (fun b o e=>aF _ e) (aq _) (show z9 _ _ _ _ _ _ from ⟨m,a,g,zV.new _ _⟩)
  exact⟨.ref _,_,t,rfl,q _ (n.hok.fresh (aq _))⟩
 ·obtain⟨a,g,f,m⟩:=I.tuple d
  exact call_tuple_same f ⟨.ref p,H,I,rfl,q⟩
def tyV (K:v8)(T:String)(x:V)(H:Hp):Prop:=match x with
 | .str _=>T = "str"
 | .int _=>T = "int"
 | .ref p=>(T = "list" /\ ∃xs,SqL K H p xs)\/(T = "tuple" /\ ∃o,K.lookup p=some o/\o.cls=.type "tuple" /\ o.dict=none) \/
  (T = "dict" /\ ((∃kvs,H p=some (.dK kvs))\/∃kvs,H p=some (.dT kvs)))\/(T = "set" /\ ∃S n,H p=some (.set S n))\/(T = "tuple" /\ ∃xs,H p=some (.tup xs))
 | _=>False
theorem B2t (I:Inv X pins l H s) (r:RelV x v) (ty:tyV X.K T x H) :
 s.TypeIs v T/\∀a,v=.ref a->∃ob,s.heap.get? a=some ob/\ob.dict=none:=by
 cases x with
 | str z =>
  obtain⟨t,rfl⟩:=r
  cases (ty)
  exact⟨typeIs_str s z t,fun _ e=>nomatch e⟩
 | int i =>
  obtain⟨t,rfl⟩:=r
  cases (ty)
  exact⟨typeIs_int s i t,fun _ e=>nomatch e⟩
 | ref p =>
  cases r
  rcases ty with ⟨rfl,m,u⟩ | ⟨rfl,o,b,q,k⟩ | ⟨rfl,b⟩ | ⟨rfl,S,n,b⟩ | ⟨rfl,m,b⟩
  ·obtain⟨h,_,j,_⟩:=I.list u
   refine⟨j.isList.typeIs,fun a e=>?_⟩
   obtain⟨o,n,e,c,k,_⟩:=j
   grind
  ·refine⟨⟨o,I.kIn p o b,q⟩,fun a e=>?_⟩
   cases e
   exact⟨o,I.kIn _ o b,k⟩
  ·have z:∃o,s.heap.get? p=some o/\o.ExactDict:=by
    rcases b with ⟨g,b⟩ | ⟨g,b⟩
    ·obtain⟨_,_,_,_,o,_,_,e,d,_⟩:=I.hok p _ b
     grind
    ·obtain⟨_,_,_,_,o,_,_,e,d,_⟩:=I.hok p _ b
     grind
   obtain⟨o,e,d⟩:=z
   refine⟨⟨o,e,d.1⟩,fun a f=>?_⟩
   cases f
   exact⟨o,e,d.2.1⟩
  ·obtain⟨o,_,_,_,e,d,_⟩:=I.hok p _ b
   refine⟨⟨o,e,d.1⟩,fun a f=>?_⟩
   cases f
   exact⟨o,e,d.2.1⟩
  ·obtain⟨_,h,_,o,e,c,_,dn⟩:=I.hok p _ b
   refine⟨⟨o,e,c⟩,fun a f=>?_⟩
   grind
 | _=>exact False.elim ty
def tBM (K:v8)(T:String)(r:V->n7->Hp->VK->Prop)(to:TE)(t:TA):TE:=fun σ H Q=>to σ H fun x H1=>tyV K T x H1/\t σ H1 fun xs H2=>r x xs H2 Q
variable {o e:Expr}{es:v9}{to:TE}{t:TA}{name:Str}{apos cpos:Pos}{T id:String}{r:V->n7->Hp->VK->Prop}
theorem Bw1 (pa:PlainAttrs T)(slot:Slot T name id)(hty:typeOf (.builtin id)=pure (.type "method_descriptor")) (hm:MtR X id r) (ho:PE X o to) (ha:PA X (e::es) t)
 (hbase:attributeBase o name X.env (eval o X.env)=eval o X.env:=by rfl)
 (hfew:((backTo cpos (starEach (e::es) X.env)).all (fun x=>!x.1)&&(backToKw cpos (keywordEach [] X.env)).all (fun x=>x.1.isSome)
  && decide ((e::es).length+([]:List Keyword).length+(if ([]:List Keyword).isEmpty then 0 else 1)<30))=true:=by rfl)
 (hline:(apos.endLine==cpos.line)=true:=by rfl) (hs:starEach (e::es) X.env=(false,eval e X.env)::starEach es X.env:=by rfl) (hplain:(backTo cpos (starEach es X.env)).any (·.1)=false:=by rfl) :
 PE X (.Call (.Attribute o name apos) (e::es) [] cpos) (tBM X.K T r to t):=by
 intro b s p H Q I h
 refine wpAny_Call_method_late hbase hfew hline rfl (thn (ho _ s _ H _ I h) fun v z ⟨x,y,c,a,j,k⟩=>?_)
 obtain⟨g,m⟩:=B2t c a j
 refine⟨T,id,pa,slot,hty,g,m,?_⟩
 have d:=ha cpos _ _ _ _ _ c k;rw[hs]at d ⊢
 refine gP (by grind) (iY ?_)
 exact thn d fun i q ⟨u,w,l,n,f⟩=>hm _ _ _ _ x _ v i Q l a n f
end
def MtM (X:Cx)(id:String)(r:V->n7->Hp->VK->Prop):Prop :=
 ∀
  (pins:y_) (s:u_) (σ:St) (H:Hp) (x:V) (xs:n7) (v:Value) (us:w6) (Q:VK),Inv X pins σ H s->RelV x v->Vals xs us->r x xs H Q ->
  wpAny (model X.prog X.w) X.A (call (.builtin id) (v::us)) (EP X pins σ Q) X.xe s
theorem Vals.one:∀{x:V}{us:w6},Vals [x] us->∃u,us=[u]/\RelV x u
 | _,_,h=>by
  cases h with
  | cons r t=>cases t;exact⟨_,rfl,r⟩
theorem Vals.two:∀{x y:V}{us:w6},Vals [x,y] us->∃u v,us=[u,v]/\RelV x u/\RelV y v
 | _,_,_,h=>by
  cases h with
  | cons r t =>
   cases t with
   | cons q t=>cases t;exact⟨_,_,rfl,r,q⟩
theorem Vals.eraseIdx:∀{xs:n7}{us:w6}(i:Nat),Vals xs us->Vals (xs.eraseIdx i) (us.eraseIdx i)
 | _,_,_,.nil=>.nil
 | _,_,0,.cons _ t=>t
 | _,_,i+1,.cons r t=>.cons r (Vals.eraseIdx i t)
theorem Vals.rep {xs:n7}{us:w6}(h:Vals xs us):∀k:Nat,Vals (List.replicate k xs).flatten (List.replicate k us).flatten
 | 0=>.nil
 | k+1=>by
  rw[dM,dM,gk,gk];exact Vals.append h (Vals.rep h k)
theorem A2p {α:Type}:∀(l:List α) (i:Nat),(l.eraseIdx i).length<=l.length
 | [],_=>aq _
 | _::_,0=>dN _
 | _::r,i+1=>Nat.succ_le_succ (A2p r i)
theorem foldl_rep (its:w6):∀(k:Nat) (acc:w6),
 List.foldl (fun x1 x2=>x1++x2) acc.toArray (List.replicate k its.toArray)=(acc++(List.replicate k its).flatten).toArray
 | 0,acc=>by simp
 | k+1,acc=>by
  have e:acc.toArray++its.toArray=(acc++its).toArray:=by simp
  have e2:(acc++its)++(List.replicate k its).flatten=acc++(List.replicate (k+1) its).flatten:=by
   rw[dM,gk,fC]
  rw[<- e2,<- foldl_rep its k (acc++its),<- e,dM,List.foldl_cons]
section
variable {X:Cx}{pins:y_}{σ:St}{H:Hp}{s:u_}{l b:Addr}{xs ys:n7}
theorem Inv.lset {a its':w6} (I:Inv X pins σ H s) (c:H l=some (.lst xs))
 (e:s.heap.get? l=some { cls:=.type "list",data:=.seq a.toArray n }) (hf:f a.toArray=its'.toArray) (hv:Vals ys its') (hz:ys.length<=sizeLine) :
 Inv X pins σ (upd H l (.lst ys)) { s with heap:=s.heap.update l (Obj.mapSeq f),toks:=t' }:=by
 have q:=gQ e f;rw[hf]at q
 refine I.write (by rw[c];trivial) (.inl rfl) (fun g u d b=>(bH _ _ (aG d)).trans b) ⟨_,q⟩ ?_
 exact⟨hz,its',_,hv,q⟩
theorem Inv.lnew (I:Inv X pins σ H s) (hv:Vals ys a) (hz:ys.length<=sizeLine) :
 Inv X pins σ (upd H s.heap.objs.size (.lst ys)) { s with heap:=s.heap.push { cls:=.type "list",data:=.seq a.toArray },toks:=t' } :=
 I.laid (fun _ _ q=>aF _ q) (aq _) ⟨hz,a,0,hv,aJ _ rfl⟩
theorem Inv.fresh (I:Inv X pins σ H s):H s.heap.objs.size=none:=I.hok.fresh (aq _)
theorem Inv.lstM (I:Inv X pins σ H s)(b:H l=some (.lst xs)):xs.length<=sizeLine/\∃(a:w6) (n:Nat),Vals xs a/\xs.length=a.length/\s.heap.get? l=some { cls:=.type "list",data:=.seq a.toArray n }:=by
 obtain⟨z,a,n,r,e⟩:=I.hok l _ b;exact⟨z,a,n,r,r.length,e⟩
theorem Bd4 (h:n<=sizeLine):Builtin.List.listTooLong n=false:=by
 unfold Builtin.List.listTooLong
 grind
end
section
variable {X:Cx}
def rAppend:V->n7->Hp->VK->Prop:=fun x vs H Q=>∃l xs y,x=.ref l/\vs=[y]/\H l=some (.lst xs)/\xs.length<sizeLine/\Q .non (upd H l (.lst (xs++[y])))
theorem A3j:MtM X "list.append" rAppend:=by
 intro a s σ H x vs v us Q I c f h;obtain⟨l,xs,y,rfl,rfl,b,hz,q⟩:=h
 cases c
 obtain⟨u,rfl,d⟩:=f.one;obtain⟨z,g,n,r,hl,e⟩:=I.lstM b
 refine dO F.slot_list_append ⟨_,e,rfl⟩ F.entry_list_append (F.args_list_append_2 _ _) (PySem.list_append l _ n u (by simp_all)) ⟨e,?_⟩
 refine⟨.non,_,I.lset b e (by simp) (r.append (.cons d .nil)) ?_,rfl,q⟩
 grind
def rPopAt:V->n7->Hp->VK->Prop:=fun x vs H Q=>∃l xs i k y,x=.ref l/\vs=[.int i]/\H l=some (.lst xs)/\-(2 ^ 63)<=i/\i<2 ^ 63/\seqIndex? i xs.length=some k/\xs[k]?=some y/\Q y (upd H l (.lst (xs.eraseIdx k)))
theorem Am5:MtM X "list.pop" rPopAt:=by
 intro b s σ H x vs v us Q I f g h;obtain⟨l,xs,i,k,y,rfl,rfl,c,d,j,hk,o,q⟩:=h
 cases f
 obtain⟨u,rfl,m⟩:=g.one;obtain⟨t,rfl⟩:=m;obtain⟨z,p,n,r,hl,e⟩:=I.lstM c;obtain⟨w,hw,a⟩:=r.get o
 refine dO F.slot_list_pop ⟨_,e,rfl⟩ F.entry_list_pop (F.args_list_pop_2 _ _)
  (MeetsSeq.list_pop_at l _ n i t k w (fitsIndex_both d j) (by simp_all) (by simp_all) (by simp_all)) ⟨e,?_⟩
 refine⟨y,_,I.lset c e ?_ (r.eraseIdx k) ?_,a,q⟩
 ·simp_all
 grind
def B3u:R2:=fun x y H Q=>∃l b xs zs,x=.ref l/\y=.ref b/\H l=some (.lst xs)/\H b=some (.lst zs)/\xs.length+zs.length<=sizeLine/\∀p,H p=none->Q (.ref p) (upd H p (.lst (xs++zs)))
theorem By3:OpR X (binaryOp .Add) B3u:=by
 intro d s σ H x y v u Q I k g h;obtain⟨l,b,xs,zs,rfl,rfl,i,j,hz,q⟩:=h
 cases k
 cases g
 obtain⟨z,c,n,r,hl,e⟩:=I.lstM i;obtain⟨z2,a,n2,o,m,p⟩:=I.lstM j
 refine PySem.P.add_list e p ?_ (by grind)
 have f:c.toArray++a.toArray=(c++a).toArray:=by simp
 rw[f]
 exact⟨.ref _,_,I.lnew (r.append o) (by simp_all),rfl,q _ I.fresh⟩
def B2g:R2:=fun x y H Q=>∃l k xs,x=.ref l/\y=.int k/\H l=some (.lst xs)/\-(2 ^ 63)<=k/\k<2 ^ 63/\xs.length*k.toNat<=sizeLine /\
 ∀p,H p=none->Q (.ref p) (upd H p (.lst (List.replicate k.toNat xs).flatten))
theorem len_rep {a:Type}(xs:List a)(k:Nat):(List.replicate k xs).flatten.length=k*xs.length:=by
 simp_all
theorem Bw6:OpR X (binaryOp .Mult) B2g:=by
 intro p s σ H x y v u Q I A B h;obtain⟨l,k,xs,rfl,rfl,C,w,D,hz,q⟩:=h
 cases A
 obtain⟨t,rfl⟩:=B;obtain⟨z,b,n,r,hl,e⟩:=I.lstM C
 have i:b.toArray.size*k.toNat<=sizeLine:=by simp_all
 have f:¬ b.toArray.size*k.toNat>(2 ^ 63-1) / 8:=by
  have:(sizeLine:Nat)<=(2 ^ 63-1) / 8:=by decide
  lia
 have d:¬ (!Builtin.List.listFitsIndex k)=true:=by
  rw[fitsIndex_both w D]
  grind
 have c:¬ Builtin.List.listTooLong (b.toArray.size*k.toNat)=true:=by
  rw[Bd4 i]
  trivial
 have g:List.foldl (fun j o=>j++o) #[] (List.replicate (if b.toArray.isEmpty=true then 0 else k.toNat) b.toArray)=(List.replicate k.toNat b).flatten.toArray:=by
  have E:∀m:Nat,List.foldl (fun j o=>j++o) #[] (List.replicate m b.toArray)=(List.replicate m b).flatten.toArray:=fun m=>by
   have:=foldl_rep b m []
   simp_all
  rw[E]
  cases b with
  | nil=>simp
  | cons a r'=>rfl
 refine wpAny_binaryOp_repeat_ref (by rfl) ⟨_,e,rfl⟩ (fun s'=>typeIs_int _ k t) noFill_list_mul F.fills_int_mul F.slot_int_rmul repeat_list F.slot_int_index.lookup
  (dO F.slot_int_rmul (typeIs_int s k t) F.entry_int_rmul (F.args_int_rmul_2 _ _) (int___rmul___int_list k t l _ n)
   ⟨e,rfl,⟨_,e,rfl⟩,dO F.slot_list_mul ⟨_,e,rfl⟩ F.entry_list_mul (F.args_list_mul_2 _ _) (AutoListH.list___mul___list_int_3 l _ n k t d f c) ⟨e,?_⟩⟩)
 rw[g]
 exact⟨.ref _,_,I.lnew (r.rep _) (by rw[len_rep];grind),rfl,q _ I.fresh⟩
end
section
variable {κ:Type}[DecidableEq κ]
noncomputable def J9 (kvs:List (κ×V))(k:κ):Option V:=(kvs.find? fun kv=>decide (kv.1=k)).map (·.2)
noncomputable def putK (kvs:List (κ×V))(k:κ)(v:V):List (κ×V) :=
 if (kvs.any fun kv=>decide (kv.1=k))=true then kvs.map (fun kv=>if kv.1=k then (kv.1,v) else kv) else kvs++[(k,v)]
theorem Nz {p:κ×V} (e:p.1=k):J9 (p::r) k=some p.2:=by simp[J9,e]
theorem J0 {p:κ×V} (e:¬ p.1=k):J9 (p::r) k=J9 r k:=by simp[J9,e]
theorem Q7 (k:κ):∀kvs:List (κ×V),(kvs.any fun kv=>decide (kv.1=k))=(J9 kvs k).isSome
 | []=>rfl
 | p::r=>by
  rw[gj]
  by_cases e:p.1=k
  ·simp only[Nz e,aK e,Bool.true_or,Option.isSome_some]
  ·rw[J0 e,aR e,Bool.false_or];exact Q7 k r
theorem Ua (a:List (κ×V))(k:κ)(v:V):(putK a k v).length<=a.length+1:=by
 unfold putK
 grind
theorem RelO.isSome_eq (r:RelO o u):o.isSome=u.isSome:=by
 cases o with
 | none=>
  cases u with
   | none=>rfl
   | some _=>trivial
 | some _=>
  cases u with
   | none=>trivial
   | some _=>rfl
theorem RelO.getD (r:RelO o u) (a:RelV d d'):RelV (o.getD d) (u.getD d'):=by
 cases o with
 | none=>
  cases u with
   | none=>grind
   | some _=>trivial
 | some _=>
  cases u with
   | none=>trivial
   | some _=>exact r
theorem KV.val (r:KV a vs) (k:κ):RelO (J9 a k) (valueAt vs k):=by
 induction r with
 | nil=>trivial
 | @cons p q j c h t i =>
  obtain⟨d,g⟩:=h
  by_cases e:p.1=k
  ·have b:valueAt (q::c) k=some q.2:=by simp[valueAt,(d.symm.trans e)]
   rw[Nz e,b];exact g
  ·have f:¬ q.1=k:=fun z=>e (d.trans z)
   have b:valueAt (q::c) k=valueAt c k:=by simp[valueAt,f]
   rw[J0 e];grind
theorem KV.any (r:KV a vs) (k:κ):(a.any fun b=>decide (b.1=k))=vs.any fun b=>decide (b.1=k):=by
 induction r with
 | nil=>rfl
 | cons h t c=>simp_all
theorem KV.repl (r:KV b vs) (k:κ) (d:RelV y u) :
 KV (b.map fun a=>if a.1=k then (a.1,y) else a) (vs.map fun a=>if a.1=k then (a.1,u) else a):=by
 induction r with
 | nil=>exact .nil
 | @cons p q e f h t c =>
  refine .cons ?_ c
  grind
theorem KV.put (r:KV a vs) (k:κ) (b:RelV y u):KV (putK a k y) (stored vs k u):=by
 unfold putK stored;rw[r.any k]
 by_cases e:(vs.any fun c=>decide (c.1=k))=true
 ·rw[if_pos e,if_pos e];exact r.repl k b
 ·rw[if_neg e,if_neg e];exact Paired.snoc r ⟨rfl,b⟩
theorem KV.length {a:List (κ×V)} (r:KV a vs):a.length=vs.length:=dZ r
end
theorem Bu8 (r:RelV (kV k) u):(Du P w).is k u=true:=by
 cases k with
 | inl i=>obtain⟨t,e⟩:=(r);subst e;exact Oe P w i t
 | inr x=>obtain⟨t,e⟩:=(r);subst e;exact Og P w x t
theorem A6y {A:t_}(hu:A.units+9<cLine):A.in1.units+8<cLine:=bR (fD (rfl)) hu
abbrev KT (H:Hp):List (PyData×V)->List (PyData×Addr×Value)->Prop:=Paired fun p q=>p.1=q.1/\KAt H p.1 q.2.1/\RelV p.2 q.2.2
theorem KT.val (r:KT H a xs) (k:t6):RelO (J9 a k) ((atKey xs k).map (·.2)):=by
 induction r with
 | nil=>trivial
 | @cons p q j c h t i =>
  obtain⟨d,_,g⟩:=h
  by_cases e:p.1=k
  ·have b:atKey (q::c) k=some q.2:=by simp[atKey,(d.symm.trans e)]
   rw[Nz e,b];exact g
  ·have f:¬ q.1=k:=fun z=>e (d.trans z)
   have b:atKey (q::c) k=atKey c k:=by simp[atKey,f]
   rw[J0 e];grind
theorem KT.repl (r:KT H a xs) (k:t6) (d:RelV y u) :
 KT H (a.map fun b=>if b.1=k then (b.1,y) else b) (xs.map (putAt k u)):=by
 induction r with
 | nil=>exact .nil
 | @cons p q e f h t c =>
  refine .cons ?_ c
  unfold putAt
  grind
theorem KT.put (r:KT H a xs) (k:t6) (hb:KAt H k b) (c:RelV y u) :
 KT H (putK a k y) (storedH xs k b u):=by
 have e:(a.any fun d=>decide (d.1=k))=(atKey xs k).isSome:=by
  rw[Q7,(r.val k).isSome_eq,Option.isSome_map]
 unfold putK storedH;rw[e]
 by_cases q:(atKey xs k).isSome=true
 ·rw[if_pos q,if_pos q];exact r.repl k c
 ·rw[if_neg q,if_neg q];exact Paired.snoc r ⟨rfl,hb,c⟩
theorem KT.keeps (r:KT H a xs) (ht:∀b ys,H b=some (.tup ys)->H' b=some (.tup ys)):KT H' a xs :=
 Paired.mapP r fun _ _ z=>⟨z.1,z.2.1.stay ht,z.2.2⟩
section
variable {P:u5}{w:World}{H:Hp}{h:Heap}{a:Addr}
theorem Fd (b:HOk P w H h) (e:Rd H a u):z9 P w H h a u:=e.ok b
theorem Be6 (c:HOk P w H h) (e:Rd H a (.dK b)):b.length<=sizeLine/\(a==sysModules)=false/\∃vs,KV b vs/\h.DictOf (Du P w) a vs :=
 show z9 P w H h a _ from Fd c e
theorem B4r (c:HOk P w H h) (e:H a=some (.dK b)):b.length<=sizeLine/\(a==sysModules)=false/\∃vs,KV b vs/\h.DictOf (Du P w) a vs:=Be6 c (.inl e)
mutual
theorem Zt (ok:HOk P w H h):∀{d:t6}{v:V}{u:Value},KTr H d v->RelV v u->∃as,Reads h u d as
 | .none,_,u=>fun e r=>by
  cases (show _=V.non from e)
  cases (show u=Value.none from r)
  exact⟨_,.none⟩
 | .int i,_,u=>fun e r=>by
  cases (show _=V.int i from e)
  obtain⟨t,rfl⟩:=r;exact⟨_,.int i t⟩
 | .str x,_,u=>fun e r=>by
  cases (show _=V.str x from e)
  obtain⟨t,rfl⟩:=r;exact⟨_,.str x t⟩
 | .tuple ds,_,u=>fun e r=>by
  obtain⟨a,vs,rfl,ha,t⟩:=e
  cases (show u=Value.ref a from r)
  obtain⟨z,its,rv,o,e,c,⟨n,dt⟩,_⟩:=ok a _ ha;obtain⟨as,q⟩:=Wr ok t rv
  exact⟨_,.tuple e c dt (by simpa using q)⟩
 | .bool _,_,_=>fun e _=>False.elim e
 | .list _,_,_=>fun e _=>False.elim e
 | .dict _,_,_=>fun e _=>False.elim e
theorem Wr (ok:HOk P w H h):∀{ds:w5}{vs:n7}{us:w6},KTrL H ds vs->Vals vs us->∃as,ReadsAll h us ds as
 | [],_,us=>fun e r=>by
  cases (show _=[] from e)
  cases r
  exact⟨_,.nil⟩
 | d::ds,_,us=>fun e r=>by
  obtain⟨v,vs,rfl,hv,t⟩:=e
  cases r with
  | cons r1 r2 =>
   obtain⟨as,q⟩:=Zt ok hv r1;obtain⟨bs,p⟩:=Wr ok t r2;exact⟨_,.cons q p⟩
end
theorem Af0 (b:HOk P w H h) (e:KAt H k a):(Em P w).is h k a:=⟨e.1,Zt b e.2 (show RelV _ _ from rfl)⟩
theorem A7v (f:HOk P w H h) (e:Rd H a (.dT b)):b.length<=sizeLine/\(a==sysModules)=false /\
 ∃c,KT H b c/\h.DictOfH (Em P w) a c:=by
 obtain⟨z,y,c,r,o,v,i,j,k,g,s,u⟩:=(show z9 P w H h a _ from Fd f e)
 refine⟨z,y,c,r,o,v,i,j,k,g,s,fun x d=>?_,u⟩
 have n:∀{l:List _} {m:List _},KT H l m->∀x∈m,(Em P w).is h x.1 x.2.1:=by
  intro l m q
  induction q with
  | nil=>simp_all
  | @cons p q B C D t A =>
   intro x d
   rcases aB.mp d with e | d
   ·exact Af0 f (by grind)
   grind
 grind
theorem Bu6 (c:HOk P w H h) (e:H a=some (.dT b)):b.length<=sizeLine/\(a==sysModules)=false /\
 ∃xs,KT H b xs/\h.DictOfH (Em P w) a xs:=A7v c (.inl e)
end
def B6d (H:Hp)(a:Addr)(y:V)(r:Option V):Prop :=
 (∃kvs k,Rd H a (.dK kvs)/\y=kV k/\r=J9 kvs k)\/∃kvs k b,Rd H a (.dT kvs)/\y=.ref b/\KAt H k b/\r=J9 kvs k
def DPut (H:Hp)(a:Addr)(y v:V)(H':Hp):Prop :=
 (∃kvs k,H a=some (.dK kvs)/\y=kV k/\kvs.length<sizeLine/\H'=upd H a (.dK (putK kvs k v))) \/
 ∃kvs k b,H a=some (.dT kvs)/\y=.ref b/\KAt H k b/\kvs.length<sizeLine/\H'=upd H a (.dT (putK kvs k v))
theorem DPut.t (e:H a=some (.dT c)) (d:KAt H k b) (hl:c.length<sizeLine) :
 DPut H a (.ref b) v (upd H a (.dT (putK c k v))):=.inr ⟨c,k,b,e,rfl,d,hl,rfl⟩
section
variable {X:Cx}{pins:y_}{σ:St}{H:Hp}{s:u_}{a:Addr}{y v:V}{u r:Value}{o:Option V}{A:t_}{E:z_}
theorem Inv.big (I:Inv X pins σ H s):sysModules<s.heap.objs.size:=by
 exact Nat.lt_trans (by decide) ((I.mod.glob.keeps I.bk).lt)
theorem Uy (I:Inv X pins σ H s) (e:Mut (H a)) (hs:Heap.SameBut a s.heap h') (he:∃q,h'.get? a=some q) (c:z9 X.prog X.w (upd H a ob) h' a ob) :
 Inv X pins σ (upd H a ob) { s with heap:=h',toks:=t' } :=
 I.write e (.inl rfl) (fun b q d z=>(hs.2 b d).trans z) he c
theorem B2z (z:b.length<=sizeLine) (hd:(a==sysModules)=false) (c:KV b vs) (dd:h'.DictOf (Du P w) a vs) :
 z9 P w H' h' a (.dK b):=⟨z,hd,vs,c,dd⟩
theorem A2e (hu:A.units+9<cLine) (I:Inv X pins σ H s) (g:DPut H a y v H') (C:RelV y u) (D:RelV v r) (h:∀s',Inv X pins σ H' s'->Q () s') :
 wpAny (model X.prog X.w) A (setItem (.ref a) u r) Q E s:=by
 rcases g with ⟨f,k,e,n,l,o⟩ | ⟨f,k,b,e,n,F,l,o⟩
 ·subst n o
  obtain⟨z,w,N,d,m⟩:=B4r I.hok e
  have B:N.length<=sizeLine:=by rw[<- d.length];lia
  have p:(putK f k v).length<=sizeLine:=by have:=Ua f k v;lia
  refine wpAny_setItem_pairs (hsz:=B) (Bu8 C) m fun x i t=>h _ ?_
  have J:∃q,x.get? a=some q:=let ⟨q,_,_,j,_⟩:=i; ⟨q,j⟩
  exact Uy I (by rw[e];trivial) t J (B2z p w (d.put k D) i)
 ·subst n o
  cases (show u=Value.ref b from C)
  obtain⟨z,w,K,d,m⟩:=Bu6 I.hok e
  have B:K.length<=sizeLine:=by rw[<- dZ d];grind
  have p:(putK f k v).length<=sizeLine:=by have:=Ua f k v;lia
  refine wpAny_setItem_heap ((A6y hu)) (Af0 I.hok F) m fun x i t=>h _ ?_
  obtain⟨q,L,M,j,O,P,R,_,S⟩:=i
  refine Uy I (by rw[e];trivial) t ⟨q,j⟩ ⟨p,w,_,(d.put k F D).keeps fun c T G=>?_,q,L,M,j,O,P,R,S⟩
  rw[Ai (Bg1 G e fun z=>nomatch z)]
  grind
end
def Bf8 (td ty tv:TE):TS:=fun D σ H=>tv σ H fun v H1=>td σ H1 fun x H2=>ty σ H2 fun y H3=>∃a H4,x=.ref a/\DPut H3 a y v H4/\D.nx σ H4
section
variable {X:Cx}{o i e value:Expr}{pos pos':Pos}{td ty tv:TE}
theorem Bp3 (hu:X.A.units+9<cLine)(ho:PE X o td)(hi:PE X i ty)(hv:PE X value tv)(hs:swapsWith value (some (.Subscript o i pos')) pos.line X.env=pure false) :
 PS X (.Assign [.Subscript o i pos'] value pos) (Bf8 td ty tv):=by
 intro b s e H D I h
 refine wpAny_Assign_Subscript (thn (hv _ s _ H _ I h) fun r s1 ⟨v,H1,f,j,k⟩=>thn (ho _ _ _ _ _ f k) fun u s2 ⟨x,H2,l,m,d⟩=>thn (hi _ _ _ _ _ l d) fun iv s3 ⟨y,H3,p,q,a,n,w,g,t⟩=>?_) hs
 subst w;obtain rfl:u=Value.ref a:=m
 exact A2e hu p g q j fun s4 c=>⟨e,n,c,t⟩
end
theorem A7b (h:Heap) (hb:sysModules<h.objs.size):z9 P w H (h.push { cls:=.type "dict",data:=.dict #[] }) h.objs.size (.dT []) :=
 ⟨aO _,du.mpr (aG (aL hb)),[],.nil,_,#[],0,aJ _ rfl,⟨rfl,rfl,rfl⟩,rfl,rfl,fG⟩
def As9:TE:=fun _ H Q=>∀p,H p=none->Q (.ref p) (upd H p (.dT []))
section
variable {X:Cx}{pos:Pos}
theorem Bb7:PE X (.Dict [] [] pos) As9:=fun a s b H Q I h =>
 wpAny_Dict_empty ⟨.ref _,_,I.laid (fun _ _ q=>aF _ q) (aq _) (A7b _ I.big),rfl,h _ (I.hok.fresh (aq _))⟩
end
structure M2 (X:Cx) (o:Expr) (m:Str) (apos:Pos) (e f:Expr) (cpos:Pos):Prop where
 base:attributeBase o m X.env (eval o X.env)=eval o X.env
 few:((backTo cpos (starEach [e,f] X.env)).all (fun x=>!x.1)&&(backToKw cpos (keywordEach [] X.env)).all (fun x=>x.1.isSome)
  && decide (([e,f]:v9).length+([]:List Keyword).length+(if ([]:List Keyword).isEmpty then 0 else 1)<30))=true
 line:(apos.endLine==cpos.line)=true
 trees:backTo cpos (starEach [e,f] X.env)=[(false,eval e X.env),(false,eval f X.env)]
def IsD (H:Hp)(a:Addr):Prop:=(∃kvs,Rd H a (.dK kvs))\/∃kvs,Rd H a (.dT kvs)
theorem Aq9 (I:Inv X pins k H s) (d:IsD H a) :
 s.TypeIs (.ref a) "dict" /\ (∀b,Value.ref a=.ref b->∃c,s.heap.get? b=some c/\c.dict=none)/\(a==sysModules)=false:=by
 rcases d with ⟨g,e⟩ | ⟨g,e⟩
 ·obtain⟨_,h,m,_,f⟩:=Be6 I.hok e
  refine⟨f.typeIs,fun b q=>?_,h⟩
  cases q
  obtain⟨c,_,_,i,j,_⟩:=f;exact⟨c,i,j.2.1⟩
 ·obtain⟨_,h,l,_,f⟩:=A7v I.hok e
  refine⟨f.typeIs,fun b q=>?_,h⟩
  cases q
  obtain⟨c,_,_,i,j,_⟩:=f;exact⟨c,i,j.2.1⟩
section
variable {X:Cx}{pins:y_}{σ:St}{H:Hp}{s:u_}{a:Addr}{y d:V}{u r:Value}{o:Option V}{A:t_}{E:z_}
theorem B3k (hu:A.units+9<cLine) (I:Inv X pins σ H s) (g:B6d H a y o) (n:RelV y u) (p:RelV d r) (h:∀w' s',Inv X pins σ H s'->RelV (o.getD d) w'->Q w' s') :
 wpAny (model X.prog X.w) A (call (.builtin "dict.get") [.ref a,u,r]) Q E s:=by
 rcases g with ⟨j,k,e,m,l⟩ | ⟨j,k,b,e,m,t,l⟩
 ·subst m
  obtain⟨z,i,v,c,f⟩:=Be6 I.hok e
  refine gR iZ f.typeIs PySem.F.entry_dict_get (PySem.F.args_dict_get_3 _ _ _) (meets_dict_get_default (Du X.prog X.w) a (Bu8 n) i r) ⟨_,f.mapOf,h _ _ (I.tok _) ?_⟩
  rw[l];exact(c.val k).getD p
 ·subst m
  cases n
  obtain⟨z,i,q,c,f⟩:=A7v I.hok e
  refine gR iZ f.typeIs PySem.F.entry_dict_get (PySem.F.args_dict_get_3 _ _ _) (meetsH_dict_get_default _ a b i r) ⟨A6y hu,k,q,Af0 I.hok t,f,h _ _ (I.tok _) ?_⟩
  rw[l];exact(c.val k).getD p
end
def Aa3 (td ty tx:TE):TE:=fun σ H Q=>td σ H fun x H1=>∃a,x=.ref a/\IsD H1 a/\ty σ H1 fun y H2=>tx σ H2 fun z H3=>∃o,B6d H3 a y o/\Q (o.getD z) H3
section
variable {X:Cx}{o e f:Expr}{apos cpos:Pos}{td ty tx:TE}
theorem Bc2 (hu:X.A.units+9<cLine)(ho:PE X o td)(he:PE X e ty)(hf:PE X f tx)(m:M2 X o "get" apos e f cpos):PE X (.Call (.Attribute o "get" apos) [e,f] [] cpos) (Aa3 td ty tx):=by
 intro c s σ H Q I h
 refine wpAny_Call_method m.base m.few m.line i_ iZ PySem.F.type_dict_get (thn (ho _ s _ H _ I h) fun u s1 ⟨x,H1,i,l,a,n,d,p⟩=>?_)
 subst n;obtain rfl:u=Value.ref a:=l;obtain⟨q,r,_⟩:=Aq9 i d
 refine⟨q,r,?_⟩
 rw[m.trees]
 refine gP rfl (iY (eG (thn (he _ _ _ _ _ i p) fun iv s2 ⟨y,H2,j,k,v⟩ =>
  eG (thn (hf _ _ _ _ _ j v) fun fv s3 ⟨z,w,t,B,ov,g,A⟩=>gb ?_))))
 exact B3k hu t g k B fun w' s4 C b=>⟨_,w,C,b,A⟩
end
end L2
namespace Att
open PySem PySem.W PySem.Calls PyProof.Rows
theorem Ur : ∀(ns:List Int) (vs:w6),WellAll P h vs (ns.map WData.int)->IntsAre vs ns:=by
 intro ns
 induction ns with
 | nil =>
  intro vs w
  cases w
  exact .nil
 | cons n ns c =>
  intro vs w
  cases w with
  | cons a b =>
   cases a
   exact .cons _ _ (c _ b)
theorem A5v {l:OpenLaw} (hn:l.most=some n) 
 (hpre:l.row.toRowW.claim.pre args=true) (hwl:WellAll P h vals args) :
 ∃a vs ns,vals=[Value.ref a]/\args=[WData.list (ns.map WData.int)]/\h.get? a=some { cls:=.type "list",data:=.seq vs.toArray }/\IntsAre vs ns/\ns.length<=n:=by
 have hsh:WShape.hasAll [] args [.list .int]=true:=(pre_splitW hpre).1;have hc:l.pre.holds [] { args:=args }=true:=(pre_splitW hpre).2;obtain⟨d,r,rfl,h1,h2⟩:=hasAllW_cons hsh;obtain rfl:=hasAllW_nil h2;obtain⟨xs,rfl,h3⟩:=hasW_list h1;obtain⟨ns,rfl⟩:=items_int h3
 have hlen:ns.length<=n:=by
  unfold OpenLaw.pre at hc
  have h4:(WTm.not (.lt (.lit (.int (n:Int))) (.len (.arg 0)))).holds [] { args:=[.list (ns.map .int)] }=true:=by
   have h4:=(holds_andW hc).1;rw[hn]at h4;exact h4
  have h5:=condW_of h4 (w_not (w_lt w_lit (w_len_list (w_arg rfl))));rw[ao]at h5
  refine Nat.le_of_not_lt fun q=>?_
  have q':(n:Int)<((ns.length:Nat):Int):=by lia
  first
   | (rw[aK q']at h5;exact absurd h5 (by decide))
   | (simp at h5;lia)
 cases hwl with
 | cons w1 w2 =>
  cases w2
  cases w1 with
  | list ho hall=>exact⟨_,_,ns,rfl,rfl,ho,Ur ns _ hall,hlen⟩
theorem A3a (l:OpenLaw)(args:List WData):l.row.toRowW.claim.post args (.bool true) args=true :=
 postW_of 
  (show WShape.has _ _ _=true by rfl)
  (show (WTm.eq _ _).value _ _=some _ from w_eq_bool (w_res rfl) w_lit) rfl
theorem Am6 {l:OpenLaw} 
 (hn:l.most=some n) (t:d.params.defaults=[])
 (i:∀(w:World) (c b:u_) (mg B:x_) (fa:Addr) (o:Obj) (z v h:Value) (a:Addr) (vs:w6) (ns:List Int),
  Ground q loose [] XP w c mg B b.heap->YP w b.heap ->
  b.heap.get? fa=some o->o.data=.func (docDef d.name d.params d.body d.scope z v h)->b.heap.CodeRec v d.name->mg d.name=some (.ref fa) ->
  b.heap.get? a=some { cls:=.type "list",data:=.seq vs.toArray }->IntsAre vs ns->ns.length<=n->b.gens=#[] ->
  codeAny (model l.prog w) callerA (.call (.ref fa) ⟨[.ref a],[]⟩) (fun r s'=>r=.ok (.ret (.bool true))/\OldK b.heap s'.heap/\s'.os=b.os/\AllBare s'.gens) b) :
 WalkO q loose XP YP l.row.toRowW d [] (fun f vs=>PySem.call f vs):=by
 intro w c b mg B G Y fa o z v h M H J K u C m D x A as g y F p I;obtain rfl:M=.none:=Dflts.none C t;obtain rfl:H=.none:=Dflts.noKw C;obtain⟨a,vs,ns,rfl,rfl,j,e,k⟩:=A5v hn g p
 refine enter_call (eN (i w _ _ _ _ _ o _ _ _ a _ _ G Y J (fd_plain K) u m j e k D) fun r s' N=>?_)
 obtain⟨rfl,L,O,P⟩:=N
 exact⟨.inl ⟨.bool _,.bool _,[],rfl,fun _=>rfl,.bool _,A3a l _,fun _=>⟨List.Pairwise.nil,fun _ E=>nomatch E⟩⟩,L,O,P⟩
end Att
namespace L2
open PySem PySem.Spec PyProof.Rows
theorem Zw:∀{vs:w6}{ns:List Int},IntsAre vs ns->Vals (ns.map V.int) vs
 | _,_,.nil=>.nil
 | _,_,.cons n t h=>.cons ⟨t,rfl⟩ (Zw h)
noncomputable def Kh (s:Stmt):Arguments:=match s with
 | .FunctionDef _ a _ _ _ _ _ _ _ _=>a
 | _=>{ posonlyargs:=[],args:=[],vararg:=none,kwonlyargs:=[],kw_defaults:=[],kwarg:=none,defaults:=[] }
noncomputable def Jm (s:Stmt):List Stmt:=match s with
 | .FunctionDef _ _ b _ _ _ _ _ _ _=>b
 | _=>[]
noncomputable def Al (s:Stmt):Scope:=match s with
 | .FunctionDef _ _ _ _ _ _ sc _ _ _=>sc
 | _=>{ kind:=.function,names:=[],isGenerator:=false,isCoroutine:=false }
noncomputable abbrev CX0:CXT:=fun _ _ _ _ _ _=>False
abbrev E0:XK:=fun _ _ _=>False
theorem B5j : Vy CX0 X E0:=fun _ _ _ _ _ _ _ h=>h.elim
structure Fun (K:v8) (x qual:Str) (st:Stmt) (f:Addr) (fd:v_):Prop where
 ex:∃(oc:Value) (od:Option Addr) (kV doc pm:Value) (an:Option Addr) (cdv ct:Value) (osl:Array (u6)),
  fd=PySem.W.fnOf x qual (Kh st) (Jm st) (Al st) .none kV doc pm an cdv ct/\K.lookup f=some ⟨oc,od,.func fd,osl⟩/\PySem.W.codeIn K cdv qual=true
 kp:PySem.W.keepIn K (.ref f)=true
section
variable {P:u5}{w:World}{K:v8}{mg:x_}{base:Heap}
theorem Fun.ok {st:Stmt} (F:Fun K x qual st f i) (S:Ax N ps (Al st)) (g:∀vs H Q E,sp vs H Q E->vs.length=ps.length)
 (b:∀(c:Value) (A:t_) (a:List Env) (s:u_) (H:Hp) (vs:n7) (Q:VK) (E:XK),Room k (A.deeper (envOfC qual (Al st) s.heap.objs.size f c))->sp vs H Q E ->
  ∃t,PSs (A4h CX0 P w K mg base N qual (Al st) f c A a s H E).nox (Jm st) t/\t { nx:=fun _ H'=>Q .non H',rt:=Q } (start N vs) H):FnOk P w K mg base CX0 (k+1) f i ps sp:=by
 obtain⟨oc,od,kV,l,pm,an,c,ct,j,rfl,m,e⟩:=F.ex
 refine B6e m e S g fun A a s H vs Q E n d=>?_
 obtain⟨t,h,q⟩:=b _ A _ s H _ Q E n d;exact⟨t,h.nox,q⟩
theorem Fun.binds {st:Stmt} (F:Fun K x qual st f d)
 (h:∀(i b e:Value) (g:Option Addr) (a c:Value) (us:w6),us.length=ps.length->bindArgs (PySem.W.fnOf x qual (Kh st) (Jm st) (Al st) .none i b e g a c) ⟨us,[]⟩=pure (ps.zip us)):Binds K d ps []:=by
 obtain⟨oc,od,i,b,e,g,a,c,k,rfl,lk,j⟩:=F.ex;exact .all (h _ _ _ _ _ _)
end
section
variable {X:Cx}
theorem pv (i:Nat)  {a:Pos}(hN:X.N[i]?=some x:=by rfl) (hv:Vis X.env.scope x:=by first | exact Or.inl rfl | exact Or.inr (Or.inl rfl) | exact Or.inr (Or.inr rfl)) (hd:(x==("__debug__" : Str))=false:=by decide)
 (hcd:(x==("__classdict__" : Str))=false:=by decide):PE X (.Name x a) (Aq7 i):=Be4 hN hv hd hcd
end
def Same (H H':Hp):Prop:=∀b o,H b=some o->H' b=some o
theorem Same.refl (H:Hp):Same H H:=fun _ _ h=>h
theorem Same.trans (a:Same H e) (b:Same e d):Same H d:=fun c o h=>b c o (a c o h)
theorem Same.free (e:Same H H') (h:H' l=Option.none):H l=Option.none:=by
 cases q:H l with
 | none=>rfl
 | some o =>
  rw[e l o q]at h
  grind
theorem Same.seq {K:v8} (e:Same H H') (h:SqL K H a xs):SqL K H' a xs:=by
 rcases h with (h | ⟨o,h⟩) | h
 ·exact .inl (.inl (e _ _ h))
 ·exact .inl (.inr ⟨o,e _ _ h⟩)
 ·exact .inr h
end L2
set_option maxHeartbeats 4000000
namespace L2
open PySem PySem.Spec PyProof.Rows
noncomputable abbrev Ez (X:Cx)(N':v4)(scope:Scope)(cl:List (Str×Addr))(C:Addr)(s₀:u_)(H₀:Hp)(ex:v5):Cx :=
 { X with N:=N',env:=compEnvC scope cl C X.env,s₀:=s₀,H₀:=H₀,outer:=X.stack,stack:=X.stack,ex:=ex,fn:=fun x=>decide (scope.names.lookup x=some .local\/scope.names.lookup x=some .cell),pn:=[],xe:=fun _ _=>False }
noncomputable def cst (idx:p6)(σ:St):St:=idx.map fun o=>o.bind fun i=>(σ[i]?).join
structure Km (X:Cx) (N':v4) (idx:p6) (scope:Scope):Prop where
 kind:scope.kind=.function
 nod:(scope.names.map (·.1)).Nodup
 free:∀y∈scope.names,y.2=.free->X.env.kindOf y.1=some .cell\/X.env.kindOf y.1=some .free
 len:idx.length=N'.length
 at':∀(j i:Nat) (x:Str),N'[j]?=some x->idx[j]?=some (some i)->X.N[i]?=some x/\scope.names.lookup x=some .free
theorem Kz (env:Env):∀(names:List (Str×NameKind)) (acc:List (Str×Addr)),(∀y∈names,y.2=.free->∃c,env.cells.lookup y.1=some c) ->
 ∃
  cl,(forIn names acc fun (p:Str×NameKind) (r:List (Str×Addr))=>(if (p.2==NameKind.free)=true then (do let c <- cellOf env p.1;pure (ForInStep.yield ((p.1,c)::r))) else pure (ForInStep.yield r):Sem (ForInStep (List (Str×Addr)))))=(pure cl:Sem (List (Str×Addr))) /\
  (∀x c,cl.lookup x=some c->acc.lookup x=some c\/(env.cells.lookup x=some c/\(x,NameKind.free)∈names))/\(∀x,((∃c,acc.lookup x=some c)\/(x,NameKind.free)∈names)->∃c,cl.lookup x=some c)
 | [],acc,_=>⟨acc,rfl,fun x c e=>.inl e,fun x h=>by
  rcases h with h | h
  ·exact h
  ·simp at h⟩
 | (n,k)::r,acc,h=>by
  by_cases hk:k=NameKind.free
  ·subst hk
   obtain⟨c,hc⟩:=h (n,.free) (by simp) rfl
   obtain⟨cl,e,a,b⟩:=Kz env r ((n,c)::acc) fun y hy=>h y (aY _ hy)
   refine⟨cl,?_,fun x c' e'=>?_,fun x hx=>?_⟩
   ·rw[eQ]
    simp only[cellOf,hc];exact e
   ·rcases a x c' e' with z | ⟨z1,z2⟩
    ·rw[bz]at z
     split at z
     ·rename_i hxe
      have:x=n:=by simpa using hxe
      subst this
      cases z
      exact .inr ⟨hc,by simp⟩
     ·exact .inl z
    ·exact .inr ⟨z1,aY _ z2⟩
   ·refine b x ?_
    rcases hx with ⟨c',z⟩ | z
    ·left
     rw[bz]
     split
     ·exact⟨_,rfl⟩
     ·exact⟨_,z⟩
    ·rcases aB.mp z with z | z
     ·left
      cases z
      exact⟨c,by simp⟩
     ·exact .inr z
  ·obtain⟨cl,e,a,b⟩:=Kz env r acc fun y hy=>h y (aY _ hy)
   refine⟨cl,?_,fun x c' e'=>?_,fun x hx=>?_⟩
   ·rw[eQ]
    have:(k==NameKind.free)=false:=by cases k <;> first | rfl | exact absurd rfl hk
    simp only[this];exact e
   ·rcases a x c' e' with z | ⟨z1,z2⟩
    ·exact .inl z
    ·exact .inr ⟨z1,aY _ z2⟩
   ·refine b x ?_
    rcases hx with z | z
    ·exact .inl z
    ·rcases aB.mp z with z | z
     ·cases z;exact absurd rfl hk
     ·exact .inr z
theorem V8 (h:∀y∈scope.names,y.2=.free->∃c,env.cells.lookup y.1=some c) :
 ∃d,closureFor scope env=pure d/\(∀x c,d.lookup x=some c->env.cells.lookup x=some c/\(x,NameKind.free)∈scope.names)/\(∀x,(x,NameKind.free)∈scope.names->∃c,d.lookup x=some c):=by
 obtain⟨d,e,a,b⟩:=Kz _ _ [] h
 refine⟨d,?_,fun x c g=>?_,fun x f=>b x (.inr f)⟩
 ·unfold closureFor
  grind
 simp_all
noncomputable abbrev Bj5 (ifs:v9)(env:Env):Sem Bool:=forIn ifs true fun c r=>if r=true then do let ok <- isTrue c env (eval c env);pure (ForInStep.yield ok) else pure (ForInStep.yield r)
def B1s (M:Model)(A:t_)(E:z_)(tg elt:Expr)(ifs:v9)(env:Env)(it acc v:Value)(Z:u_->Prop)(s:u_):Prop :=
 wpAny M A (letOwnedTupleGo tg it v) (fun _ a=>wpAny M A (assign tg env v) (fun _ b=>wpAny M A (Bj5 ifs env) (fun ok c=>match ok with
  | true=>wpAny M A (eval elt env) (fun x d=>wpAny M A (call (.builtin "list.append") [acc,x]) (fun _ z=>Z z) E d) E c
  | false=>Z c) E b) E a) E s
theorem Bs0 (C:E=notedBy (model P w) A env fun x z=>R (.error x) z) (Wd:Nat->u_->Prop)
 (step:∀n z,Wd n z->wpAny (model P w) A (pyNext it) (fun r a=>match r with
  | none=>R (.ok .next) a
  | some v=>B1s (model P w) A E o i j env it acc v (fun y=>∃m,m<n/\Wd m y) a) E z) (n:Nat) (h:Wd n s) :
 codeAny (model P w) A (.compLoop (.ListComp i [⟨o,f,j,0⟩] p l) 0 it acc env) R s:=by
 subst C
 refine codeAny_loop (I:=Wd) rfl (turn:=?_) n h
 intro k z G
 show wpAny (model P w) A (Sem.onRaise (compTurn (.ListComp i [⟨o,f,j,0⟩] p l) 0 it acc env) fun x=>do noteFrame x env;theTreesLotGoes x) _ _ z
 apply wpAny_noted;rw[compTurn_list];apply aj;apply fY;apply aj
 refine aU (step k z G) ?_ fun _ _ q=>q
 rintro (_ | v) a u
 ·exact ak u
 apply aj
 refine aU u ?_ fun _ _ q=>q
 intro _ b D;apply aj
 refine aU D ?_ fun _ _ q=>q
 intro _ c F;apply aj
 refine aU F ?_ fun _ _ q=>q
 rintro (_ | _) d t
 ·exact ak (And.intro rfl t)
 apply aj;apply aj
 refine aU t ?_ fun _ _ q=>q
 intro y e H;apply aj
 refine aU H ?_ fun _ _ q=>q
 intro _ g B;exact ak (ak (And.intro rfl B))
def PTs (X:Cx)(ifs:v9)(t:TT):Prop :=
 ∀
  (pins:y_) (s:u_) (σ:St) (H:Hp) (Q:Bool->Hp->Prop),Inv X pins σ H s->t σ H Q ->
  wpAny (model X.prog X.w) X.A (forIn ifs true fun c r=>if r=true then do let ok <- isTrue c X.env (eval c X.env);pure (ForInStep.yield ok) else pure (ForInStep.yield r)) (TP X pins σ Q) X.xe s
structure QTs (X:Cx) (e:(v9)) (t:TT):Prop where
 get:PTs X e t
def Bo1:TT:=fun _ H Q=>Q true H
theorem Bk8 : PTs X [] Bo1:=fun _ _ _ H _ I h=>wpAny_tests_nil ⟨H,I,h⟩
theorem Bn3 (h:PT X c t):PTs X [c] t:=fun a s b H Q I q=>wpAny_tests_one (h _ s _ H Q I q)
def tLC (idx:p6)(wi:TI)(g:TG)(tc:TT)(te:TE):TE:=fun σ H Q=>wi σ H fun J H1 =>
 ∃
  W:Nat->Nat->St->n7->Hp->Prop,(∃m,W 0 m (cst idx σ) [] H1)/\∀i m σ' acc H,W i m σ' acc H ->
  (J.stop i H/\∀p,H p=none->Q (.ref p) (upd H p (.lst acc))) \/
  (J.go i H/\acc.length<sizeLine/\∃N:St->n7->Hp->Prop,(∀σ' acc' H',N σ' acc' H'->∃m',m'<m/\W (i+1) m' σ' acc' H')/\∀x H',J.yld i H x H'->g x σ' H' fun σ2 H2=>tc σ2 H2 fun b H3 =>
   if b=true then te σ2 H3 fun y H4=>N σ2 (acc++[y]) H4 else N σ2 acc H3)
theorem HOk.track (x:HOk P w H h) (hn:H a=none) (f:z9 P w (upd H a o) h a o):HOk P w (upd H a o) h:=fun b u e=>by
 by_cases hb:b=a
 ·subst hb;rw[Ay]at e;simp_all
 ·rw[Ai hb]at e
  exact(x b u e).stay (fun c v _ q=>q) fun c q=>by rw[Ai (Bq q hn)];grind fun c d q=>by rw[Ai (Bq q hn)];grind fun c g d q=>by rw[Ai (Bq q hn)];grind
theorem Jk {env:Env}:∀{names:List (Str×NameKind)}{x:Str},names.lookup x=some .free ->
 (names.map fun (n,k)=>if (k==NameKind.free&&env.scope.kind==.function&&env.kindOf n==some .cell) then (n,NameKind.cell) else (n,k)).lookup x=some .free \/
 (names.map fun (n,k)=>if (k==NameKind.free&&env.scope.kind==.function&&env.kindOf n==some .cell) then (n,NameKind.cell) else (n,k)).lookup x=some .cell
 | [],_,h=>by simp at h
 | (n,k)::r,x,h=>by
  have ih:=@Jk env r x;simp only[aH]
  cases hx:x==n with
  | true =>
   simp only[bz,hx]at h
   cases h
   split
   ·right;simp[bz,hx]
   ·left;simp[bz,hx]
  | false =>
   simp only[bz,hx]at h
   split
   ·simp only[bz,hx];exact ih h
   ·simp only[bz,hx];exact ih h
theorem Mv {env:Env}:∀{names:List (Str×NameKind)}{x:Str}{k:NameKind},
 (names.map fun (n,k)=>if (k==NameKind.free&&env.scope.kind==.function&&env.kindOf n==some .cell) then (n,NameKind.cell) else (n,k)).lookup x=some k ->
 names.lookup x=some k\/(k=.cell/\names.lookup x=some .free)
 | [],_,_,h=>by simp at h
 | (n,k')::r,x,k,h=>by
  have ih:=@Mv env r x k;simp only[aH]at h
  cases hx:x==n with
  | true =>
   by_cases hc:(k'==NameKind.free&&env.scope.kind==.function&&env.kindOf n==some .cell)=true
   ·rw[if_pos hc]at h
    simp only[bz,hx]at h
    cases h
    right
    refine⟨rfl,?_⟩
    simp only[bz,hx]
    have:k'=.free:=by
     simp only[dJ]at hc;exact cZ hc.1.1
    rw[this]
   ·rw[if_neg hc]at h
    simp only[bz,hx]at h ⊢;exact .inl h
  | false =>
   simp only[bz,hx]
   refine ih ?_
   by_cases hc:(k'==NameKind.free&&env.scope.kind==.function&&env.kindOf n==some .cell)=true
   ·rw[if_pos hc]at h;simpa only[bz,hx] using h
   ·rw[if_neg hc]at h;simpa only[bz,hx] using h
theorem lookup_mem {α:Type}:∀{l:List (Str×α)}{x:Str}{k:α},l.lookup x=some k->(x,k)∈l
 | [],_,_,h=>by simp at h
 | (n,k')::r,x,k,h=>by
  rw[bz]at h
  split at h
  ·rename_i e
   have:x=n:=by simpa using e
   subst this
   cases h
   simp
  ·exact aY _ (lookup_mem h)
theorem mem_lookup {α:Type}:∀{l:List (Str×α)}{x:Str}{k:α},(l.map (·.1)).Nodup->(x,k)∈l->l.lookup x=some k
 | [],_,_,_,h=>by simp at h
 | (n,k')::r,x,k,hn,h=>by
  have hn:(n::r.map (·.1)).Nodup:=hn
  obtain⟨h1,h2⟩:=c7.mp hn
  rcases aB.mp h with h | hr
  ·cases h;simp
  ·rw[bz]
   split
   ·rename_i e
    have:x=n:=by simpa using e
    subst this
    exact absurd (show x∈r.map (·.1) from aD.mpr ⟨(x,k),hr,rfl⟩) h1
   ·exact mem_lookup h2 hr
section
variable {X:Cx}{N':v4}{idx:p6}{scope:Scope}
theorem Bm4 {pins:y_}{σ:St}{H:Hp}{s:u_}{fp:v5}{cl:List (Str×Addr)}{C:Addr}(L:Km X N' idx scope)(I:Inv X pins σ H s)(hf:∀b∈fp,Mp X pins H b)(hfs:∀b∈fp,b<s.heap.objs.size)
 (hC:s.heap.objs.size<=C) (c1:∀x c,cl.lookup x=some c->(X.env.cells.lookup x=some c/\(x,NameKind.free)∈scope.names)\/(s.heap.objs.size<=c/\(x,NameKind.cell)∈scope.names)) (c2:∀x,((x,NameKind.free)∈scope.names\/(x,NameKind.cell)∈scope.names)->∃c,cl.lookup x=some c) (c3:∀x y c,cl.lookup x=some c->cl.lookup y=some c->x=y) :
 (Ez X N' scope cl C s H fp).Ok where
 mod:=I.ok.mod
 kind:=L.kind
 glob:=I.ok.glob
 blt:=I.ok.blt
 above:=hC
 inj:=c3
 has:=fun x h=>by
  refine c2 x ?_
  have h':(relabel scope X.env).names.lookup x=some .cell\/(relabel scope X.env).names.lookup x=some .free:=h
  rcases h' with h | h
  ·rcases Mv h with z | ⟨_,z⟩
   ·exact .inr (lookup_mem z)
   ·exact .inl (lookup_mem z)
  ·rcases Mv h with z | ⟨z,_⟩
   ·exact .inl (lookup_mem z)
   ·cases z
 cab:=fun x c hx hc=>by
  have hx':scope.names.lookup x=some .local\/scope.names.lookup x=some .cell:=aW hx
  rcases c1 x c hc with ⟨_,z⟩ | ⟨z,_⟩
  ·have z:=mem_lookup L.nod z
   rw[z]at hx'
   rcases hx' with hx' | hx' <;> cases hx'
  ·exact z
 hd:=I.ok.hd
 frames:=I.ok.frames
 stk:=.inl rfl
 exf
  := fun b hb=>⟨aL (aN (hfs b hb) hC),fun x c e=>by
  rcases c1 x c e with ⟨z,_⟩ | ⟨z,_⟩
  ·exact(hf b hb).2.2.2.2.1 x c z
  ·exact bK (aN (hfs b hb) z)⟩
 bs:=I.bs
 bsz:=au I.ok.bsz I.sz
 noex:=fun b o e hb=>by
  rcases (hf b hb).2.2.2.1 with z | z
  ·exact I.ok.noex b o e z
  ·exact absurd (aN (az e) (au I.ok.bsz z)) (bI _)
 exfs:=fun b hb z=>by
  rcases aB.mp (I.stkSub b z) with q | q
  ·exact(hf b hb).2.1 q
  ·exact(hf b hb).2.2.1 q
 funs:=I.stack
 frf:=I.stkFree
 tab:=fun p hp=>I.base.tbls p.1 p.2 (I.ok.tab p hp)
theorem Bc0 {pins:y_}{σ:St}{H:Hp}{s s':u_}{fp:v5}{cl:List (Str×Addr)}{C:Addr}{m:x_}(L:Km X N' idx scope)(I:Inv X pins σ H s)(hf:∀b∈fp,Mp X pins H b)(hfs:∀b∈fp,b<s.heap.objs.size)
 (hC:s.heap.objs.size<=C) (c1:∀x c,cl.lookup x=some c->(X.env.cells.lookup x=some c/\(x,NameKind.free)∈scope.names)\/(s.heap.objs.size<=c/\(x,NameKind.cell)∈scope.names)) (c2:∀x,((x,NameKind.free)∈scope.names\/(x,NameKind.cell)∈scope.names)->∃c,cl.lookup x=some c) (c3:∀x y c,cl.lookup x=some c->cl.lookup y=some c->x=y) (c4:∀x c,cl.lookup x=some c->(x,NameKind.cell)∈scope.names->s'.heap.IsCell c none)
 (ho:s'.os=s.os) (hg:s'.gens=s.gens) (k:∀b o,s.heap.get? b=some o->s'.heap.get? b=some o) (hn:s'.heap.Ns C m):Inv (Ez X N' scope cl C s H fp) [] (cst idx σ) H s' where
 ok:=Bm4 L I hf hfs hC c1 c2 c3
 os:=ho
 bare:=by rw[hg];exact I.bare
 base:=Un.kept k
 loc:=by
  refine⟨m,hn,fun j x v e1 e2 e3=>?_⟩
  obtain⟨m0,hn0,hl⟩:=I.loc
  have e2':(idx.map fun o=>o.bind fun i=>(σ[i]?).join)[j]?=some (some v):=e2
  rw[bD]at e2'
  cases ei:idx[j]? with
  | none=>rw[ei]at e2';cases e2'
  | some o =>
   rw[ei]at e2';simp only[fH,Option.some.injEq]at e2'
   cases o with
   | none=>cases e2'
   | some i =>
    have e2'':(σ[i]?).join=some v:=e2';obtain⟨hNi,hfr⟩:=L.at' j i x e1 ei
    have hσ:σ[i]?=some (some v):=by
     cases q:σ[i]? with
     | none=>rw[q]at e2'';cases e2''
     | some z=>rw[q]at e2'';rw[show z=some v from e2'']
    have hk:=L.free _ (lookup_mem hfr) rfl
    have hvis:Vis X.env.scope x:=by
     rcases hk with z | z
     ·exact .inr (.inl z)
     ·exact .inr (.inr z)
    obtain⟨u,r,lk⟩:=hl i x v hNi hσ hvis
    refine⟨u,r,.inr ?_⟩
    rcases lk with ⟨z,_⟩ | ⟨_,c,hc,hcl⟩
    ·exfalso
     have z':X.env.kindOf x=some .local:=z
     rcases hk with q | q
     ·rw[show X.env.kindOf x=_ from q]at z';cases z'
     ·rw[show X.env.kindOf x=_ from q]at z';cases z'
    ·obtain⟨c',hc'⟩:=c2 x (.inl (lookup_mem hfr))
     have:c'=c:=by
      rcases c1 x c' hc' with ⟨q,_⟩ | ⟨_,q⟩
      ·rw[hc]at q;exact(cR q).symm
      ·rw[mem_lookup L.nod q]at hfr;cases hfr
     subst this
     refine⟨?_,c',hc',let ⟨o,e,d⟩:=hcl; ⟨o,k _ o e,d⟩⟩
     rcases Jk (env:=X.env) hfr with q | q
     ·exact .inr q
     ·exact .inl q
 cell:=fun x c e=>by
  rcases c1 x c e with ⟨q,_⟩ | ⟨_,q⟩
  ·obtain⟨v,z⟩:=I.cell x c q
   exact⟨v,let ⟨o,e,d⟩:=z; ⟨o,k _ o e,d⟩⟩
  ·exact⟨none,c4 x c e q⟩
 free:=I.hok.fresh hC
 freeC:=fun x c e=>by
  rcases c1 x c e with ⟨q,_⟩ | ⟨q,_⟩
  ·exact I.freeC x c q
  ·exact I.hok.fresh q
 pin:=fun p hp=>by simp at hp
 hok:=I.hok.kept k
 len:=by
  show (idx.map _).length=N'.length
  rw[ao];exact L.len
end
section
variable {X:Cx}{N':v4}{idx:p6}{scope:Scope}{elt tg iter:Expr}{ifs:v9}{pos:Pos}{wi:TI}{g:TG}{tc:TT}{te:TE}
theorem Ql:∀(names:List (Str×NameKind)) (h:Heap) (acc:List (Str×Addr)),(∀x y c,acc.lookup x=some c->acc.lookup y=some c->x=y)->(∀x c,acc.lookup x=some c->c<h.objs.size) ->
 (∀x c,(cellsFrom h.objs.size names acc).lookup x=some c->acc.lookup x=some c\/(h.objs.size<=c/\(x,NameKind.cell)∈names/\(pushCells h names).IsCell c none)) /\
 (∀x,((∃c,acc.lookup x=some c)\/(x,NameKind.cell)∈names)->∃c,(cellsFrom h.objs.size names acc).lookup x=some c) /\
 (∀x y c,(cellsFrom h.objs.size names acc).lookup x=some c->(cellsFrom h.objs.size names acc).lookup y=some c->x=y)
 | [],h,acc,hi,hl=>by
  refine⟨fun x c e=>.inl e,fun x z=>?_,hi⟩
  rcases z with z | z
  ·exact z
  ·exact nomatch z
 | (n,k)::r,h,acc,hi,hl=>by
  unfold cellsFrom pushCells
  by_cases hk:(k==NameKind.cell)=true
  ·rw[if_pos hk,if_pos hk]
   have hk':k=.cell:=cZ hk;subst hk';have sz:(h.push { cls:=.type "cell",data:=.cell none }).objs.size=h.objs.size+1:=bN ..
   have ih:=Ql r (h.push { cls:=.type "cell",data:=.cell none }) ((n,h.objs.size)::acc) (fun x y c e1 e2=>?_) (fun x c e=>?_)
   ·rw[sz]at ih
    obtain⟨i1,i2,i3⟩:=ih
    refine⟨fun x c e=>?_,fun x z=>?_,i3⟩
    ·rcases i1 x c e with q | ⟨q1,q2,q3⟩
     ·rw[bz]at q
      split at q
      ·rename_i hb
       cases q
       have:x=n:=cZ hb;subst this;exact .inr ⟨aq _,aQ,_,gU _ _ _ _ (aJ _ rfl),rfl⟩
      ·exact .inl q
     ·exact .inr ⟨eU q1,aY _ q2,q3⟩
    ·refine i2 x ?_
     by_cases hx:x=n
     ·subst hx;exact .inl ⟨h.objs.size,by simp⟩
     ·rcases z with ⟨c,z⟩ | z
      ·exact .inl ⟨c,by rw[bz,beq_false_of_ne hx];exact z⟩
      ·rcases aB.mp z with z | z
       ·cases z;exact absurd rfl hx
       ·exact .inr z
   ·rw[bz]at e1 e2
    split at e1
    ·rename_i hb1
     cases e1
     split at e2
     ·rename_i hb2
      exact(cZ hb1).trans (cZ hb2).symm
     ·exact absurd (hl _ _ e2) (bI _)
    ·split at e2
     ·cases e2
      exact absurd (hl _ _ e1) (bI _)
     ·exact hi x y c e1 e2
   ·rw[sz]
    rw[bz]at e
    split at e
    ·cases e;exact dR _
    ·exact dU (hl x c e)
  ·rw[if_neg hk,if_neg hk]
   have ih:=Ql r h acc hi hl;obtain⟨i1,i2,i3⟩:=ih
   refine⟨fun x c e=>?_,fun x z=>i2 x ?_,i3⟩
   ·rcases i1 x c e with q | ⟨q1,q2,q3⟩
    ·exact .inl q
    ·exact .inr ⟨q1,aY _ q2,q3⟩
   ·rcases z with z | z
    ·exact .inl z
    ·rcases aB.mp z with z | z
     ·cases z;exact absurd rfl hk
     ·exact .inr z
theorem Bs3 
 (h:Q (newEnv scope s.heap.objs.size a (cellsFrom (s.heap.objs.size+1) scope.names d) qual none .none (some b) builtinsNs) { s with heap:=pushCells (s.heap.push { cls:=.type "dict",data:=.dict #[] }) scope.names }) :
 wpAny M A (newFunctionEnv scope a d [] qual none .none (some b)) Q E s:=by
 refine aj (wpAny_alloc ?_)
 refine aj (wpAny_layCells _ fun e f c=>by trivial _ _ _ _ ?_)
 rw[show ({ s with heap:=s.heap.push _ }:u_).heap.objs.size=s.heap.objs.size+1 from bN ..]
 exact aj (ak (ak h))
theorem Ah7 {K:List (Str×Addr)} {RR:Value->Addr->Result->u_->Prop}{F:n7->Hp->Prop}
 (L:Km X N' idx scope) (hc:X.calm=true)
 (hg:∀K C s₀ H₀ ex,PG (Ez X N' scope K C s₀ H₀ ex) tg g) (ht:∀K C s₀ H₀ ex,PTs (Ez X N' scope K C s₀ H₀ ex) ifs tc) (he:∀K C s₀ H₀ ex,PE (Ez X N' scope K C s₀ H₀ ex) elt te)
 (c1:∀x c,K.lookup x=some c->X.env.cells.lookup x=some c/\(x,NameKind.free)∈scope.names) (c2:∀x,(x,NameKind.free)∈scope.names->∃c,K.lookup x=some c)
 (I2:Inv X pins σ R s2) (T:Turn X.prog X.w X.K tg J fp it tn) (st2:tn 0 s2.heap) (f2:∀b∈fp,Mp X pins R b) (W:Nat->Nat->St->n7->Hp->Prop) (w0:∃m,W 0 m (cst idx σ) [] R)
 (turn:∀i m t acc H,W i m t acc H->(J.stop i H/\F acc H) \/
  (J.go i H/\acc.length<sizeLine/\∃N:St->n7->Hp->Prop,(∀t acc' H',N t acc' H'->∃m',m'<m/\W (i+1) m' t acc' H')/\∀x H',J.yld i H x H'->g x t H' fun Z R=>tc Z R fun b H3 =>
   if b=true then te Z H3 fun y H4=>N Z (acc++[y]) H4 else N Z acc H3))
 (hR:∀(D C:Addr) (s':u_) (acc:n7) (a:w6) (n:Nat) (H':Hp) (m:x_),s2.heap.objs.size<=D->s2.heap.objs.size<=C->D≠C->s'.heap.Ns C m->s'.heap.get? D=some { cls:=.type "list",data:=.seq a.toArray n }->Vals acc a->acc.length<=sizeLine ->
  H' D=none->H' C=none->s'.os=s2.os->AllBare s'.gens->Un (frs X.stack) fp R H' s2.heap s'.heap->HOk X.prog X.w H' s'.heap->F acc H'->RR (.ref D) C (.ok .next) s') :
 wpAny (model X.prog X.w) X.A (newList []) (fun acc B=>wpAny (model X.prog X.w) X.A (newFunctionEnv scope X.env.globals K [] X.env.qual none .none (some X.env)) (fun cenv s₄ =>
  codeAny (model X.prog X.w) X.A (.compStart (.ListComp elt [⟨tg,iter,ifs,0⟩] scope pos) 0 (.ref it) acc { cenv with scope:=relabel scope X.env }) (RR acc cenv.locals) s₄) E B) E s2:=by
 have U:∀b∈fp,b<s2.heap.objs.size:=fun b w=>let ⟨o,e,_⟩:=T.obj _ _ st2 b w; az e
 refine cD (Bs3 ?_)
 dsimp only
 generalize hH2:s2.heap.push { cls:=.type "list",dict:=none,data:=.seq ([]:w6).toArray }=G
 have hC:G.objs.size=s2.heap.objs.size+1:=by rw[<- hH2,bN]
 have hDC:s2.heap.objs.size≠G.objs.size:=by rw[hC];exact aL (dR _)
 have A:s2.heap.objs.size<=G.objs.size:=by rw[hC];exact dN _
 obtain⟨j,l⟩:∃j,j=pushCells (G.push { cls:=.type "dict",data:=.dict #[] }) scope.names:=⟨_,rfl⟩;rw[<- l]
 have S:j.Ns G.objs.size (fun _=>none):=by rw[l];exact(Heap.Ns.new G (.type "dict")).keeps (gU _ _)
 have old:∀b o,s2.heap.get? b=some o->j.get? b=some o:=fun b o e=>by rw[l];exact gU _ _ b o (aF _ (hH2▸aF _ e))
 have hacc:j.get? s2.heap.objs.size=some { cls:=.type "list",dict:=none,data:=.seq ([]:w6).toArray }:=by rw[l];exact gU _ _ _ _ (aF _ (hH2▸aJ _ rfl))
 have szD:(G.push { cls:=.type "dict",data:=.dict #[] }).objs.size=G.objs.size+1:=bN ..
 obtain⟨k1,k2,k3⟩:=Ql scope.names (G.push { cls:=.type "dict",data:=.dict #[] }) K (fun x y c e1 e2=>I2.ok.inj x y c (c1 x c e1).1 (c1 y c e2).1) (fun x c e=>by
  obtain⟨v,o,ho,_⟩:=I2.cell x c (c1 x c e).1
  rw[szD];exact dU (aN (az ho) A))
 rw[szD,<- l]at k1;rw[szD]at k2 k3;obtain⟨cl0,hcl0⟩:∃cl0,cl0=K:=⟨_,rfl⟩;have c1o:=c1;have c2o:=c2;rw[<- hcl0]at k1 k2 k3 c1o c2o;rw[<- hcl0]
 clear c1 c2
 generalize cellsFrom (G.objs.size+1) scope.names cl0=K at k1 k2 k3 ⊢
 have c1:∀x c,K.lookup x=some c->(X.env.cells.lookup x=some c/\(x,NameKind.free)∈scope.names)\/(s2.heap.objs.size<=c/\(x,NameKind.cell)∈scope.names):=fun x c e=>by
  rcases k1 x c e with q | ⟨q1,q2,_⟩
  ·exact .inl (c1o x c q)
  ·exact .inr ⟨au A (eU q1),q2⟩
 have c2:∀x,((x,NameKind.free)∈scope.names\/(x,NameKind.cell)∈scope.names)->∃c,K.lookup x=some c:=fun x z=>k2 x (z.imp (fun z=>c2o x z) id)
 have c4:∀x c,K.lookup x=some c->(x,NameKind.cell)∈scope.names->j.IsCell c none:=fun x c e z=>by
  rcases k1 x c e with q | ⟨_,_,q⟩
  ·have:=mem_lookup L.nod (c1o x c q).2
   rw[mem_lookup L.nod z]at this;cases this
  ·exact q
 let X':Cx:=Ez X N' scope K G.objs.size s2 R fp
 have I1:Inv X' [] (cst idx σ) R { s2 with heap:=j }:=Bc0 L I2 f2 U A c1 c2 k3 c4 rfl rfl old S
 have hD2:R s2.heap.objs.size=none:=I2.hok.fresh (aq _)
 have hDfs:s2.heap.objs.size∉X'.fs:=fun z=>by
  obtain⟨_,o,ho,_⟩:=I2.stack.mem z;exact absurd (az ho) (bI _)
 have hDfp:s2.heap.objs.size∉fp:=fun z=>absurd (U _ z) (bI _)
 have P:∀{H':Hp} {pl:y_},(∀b∈fp,H' b=none)->(∀p∈pl,p.1∉fp)->∀b∈fp,Mp X' pl H' b:=fun {H' pl} hn M b w =>
  ⟨hn b w,aL (aN (U b w) A),fun z=>by
   rcases aB.mp (I2.stkSub b z) with q | q
   ·exact(f2 b w).2.1 q
   ·exact(f2 b w).2.2.1 q,.inl w,fun x c e=>by
    rcases c1 x c e with ⟨z,_⟩ | ⟨z,_⟩
    ·exact(f2 b w).2.2.2.2.1 x c z
    ·exact bK (aN (U b w) z),fun p Q z=>M p (by have hp':p∈[]++pl:=Q;simpa using hp') (z▸w)⟩
 have loop:∀B:u_,B={ s2 with heap:=j } ->
  codeAny (model X.prog X.w) X.A (.compLoop (.ListComp elt [⟨tg,iter,ifs,0⟩] scope pos) 0 (.ref it) (.ref s2.heap.objs.size) (compEnvC scope K G.objs.size X.env)) (RR (.ref s2.heap.objs.size) G.objs.size) B:=by
  rintro B rfl
  obtain⟨m0,w0⟩:=w0
  refine Bs0 rfl (Wd:=fun n s'=>∃i t acc a k H',Inv X' [(s2.heap.objs.size,{ cls:=.type "list",data:=.seq a.toArray k })] t H' s'/\Vals acc a/\acc.length<=sizeLine/\tn i s'.heap/\(∀b∈fp,H' b=none)/\W i n t acc H') (step:=?_) m0
   ⟨0,cst idx σ,[],[],0,R,I1.pins_of (fun p Q=>?_),.nil,aO _,T.keep _ _ _ st2 fun b _ o e=>old b o e,fun b w=>(f2 b w).1,w0⟩
  ·rintro n s3 ⟨i,Y,acc,a,k,H3,I3,rv,hz,st3,fr3,w3⟩
   have M:∀p∈[((s2.heap.objs.size,{ cls:=.type "list",data:=.seq a.toArray k }):Addr×Obj)],p.1∉fp:=fun p Q=>by
    rcases aV.mp Q with rfl;exact hDfp
   rcases turn i n Y acc H3 w3 with ⟨stop,q⟩ | ⟨go,hlt,N,hN,step⟩
   ·refine aU (T.done X' rfl rfl rfl hc i _ s3 Y H3 (fun _ _=>False) I3 (P fr3 M) st3 stop) (fun r s4 ⟨hr,I4⟩=>?_) fun _ _ f=>f.elim
    subst hr;obtain⟨p1,p2,p3,p4,p5⟩:=I4.pin (s2.heap.objs.size,{ cls:=.type "list",data:=.seq a.toArray k }) (aA _ aQ);obtain⟨m4,hn4,_⟩:=I4.loc;exact hR _ _ s4 acc a k H3 m4 (aq _) A hDC hn4 p1 rv hz p2 I4.free I4.os I4.bare I4.base I4.hok q
   ·refine aU (T.item X' rfl rfl rfl hc i _ s3 Y H3 (fun _ _=>False) I3 (P fr3 M) st3 go) (fun r s4 ⟨u,hr,h4⟩=>?_) fun _ _ f=>f.elim
    subst hr
    refine aU h4 (fun _ s5 ⟨x,H5,I5,r5,y5,st5,fr5⟩=>?_) fun _ _ f=>f.elim
    refine aU (hg _ _ _ _ _ _ s5 Y H5 x u _ (I5.pinned (P fr5 M) (T.obj _ _ st5)) r5 (step x H5 y5)) (fun _ s6 ⟨O,H6,I6,q6⟩=>?_) fun _ _ f=>f.elim
    refine aU (ht _ _ _ _ _ _ s6 O H6 _ I6 q6) (fun ok s7 ⟨H7,I7,q7⟩=>?_) fun _ _ f=>f.elim
    have tnk:∀{t:St} {H':Hp} {s':u_},Inv X' ([(s2.heap.objs.size,{ cls:=.type "list",data:=.seq a.toArray k })]++Xj fp s5.heap) t H' s'->tn (i+1) s'.heap/\∀b∈fp,H' b=none:=fun {t H' s'} I=>by
     refine⟨T.keep _ _ _ st5 fun b w o e=>(I.pin (b,o) (aA _ (aA _ (Mm w e)))).1,fun b w=>?_⟩
     obtain⟨o,e,d⟩:=T.obj _ _ st5 b w;exact(I.pin (b,o) (aA _ (aA _ (Mm w e)))).2.1
    cases ok with
    | false =>
     rw[if_neg (by decide)]at q7
     obtain⟨m',hm,w7⟩:=hN _ _ _ q7;exact⟨m',hm,i+1,O,acc,a,k,H7,I7.unpinned,rv,hz,(tnk I7).1,(tnk I7).2,w7⟩
    | true =>
     rw[if_pos rfl]at q7
     refine aU (he _ _ _ _ _ _ s7 O H7 _ I7 q7) (fun y s8 ⟨yv,H8,I8,r8,q8⟩=>?_) fun _ _ f=>f.elim
     obtain⟨m',hm,w8⟩:=hN _ _ _ q8;obtain⟨p1,p2,p3,p4,p5⟩:=I8.pin (s2.heap.objs.size,{ cls:=.type "list",data:=.seq a.toArray k }) (aA _ aQ)
     refine dO PySem.F.slot_list_append ⟨_,p1,rfl⟩ PySem.F.entry_list_append (PySem.F.args_list_append_2 _ _) (PySem.list_append s2.heap.objs.size a.toArray k y (by have:=rv.length;rw[cM];lia)) ⟨p1,?_⟩
     have hz':=rv.length;obtain⟨t8,f8⟩:=tnk I8
     have I8':Inv X' [] O H8 s8:=I8.pins_of fun p Q=>nomatch Q
     have q:=gQ p1 (·.push y)
     have e':(a.toArray.push y)=(a++[y]).toArray:=by simp
     rw[e']at q
     obtain⟨k9,q⟩:∃k9,(s8.heap.update s2.heap.objs.size (Obj.mapSeq (·.push y))).get? _=some { cls:=.type _,data:=.seq _ k9 }:=⟨_,q⟩
     have I9:Inv _ _ _ _ { s8 with heap:=s8.heap.update _ (Obj.mapSeq (·.push y)) } :=
      I8'.turned (fun b o w e=>(bH _ _ (aG w)).trans e) p2 p3 (.inr (aq _)) (fun x c e z=>by
       obtain⟨v,o,ho,hd⟩:=I8'.cell x c e
       rw[z,p1]at ho;cases ho;cases hd) (fun p Q=>by have hp':p∈([]:List _)++[]:=Q;simp at hp')
     refine⟨m',hm,i+1,O,acc++[yv],a++[y],k9,H8,I9.pins_of fun p Q=>?_,rv.append (.cons r8 .nil),by rw[aX,gV];lia,T.keep _ _ _ t8 fun b w o e=>(bH _ _ (fun z=>hDfp (by rw[z];exact w))).trans e,f8,w8⟩
     rcases aV.mp Q with rfl
     exact⟨q,p2,p3,p4,fun v z=>by cases z⟩
  ·rcases aV.mp Q with rfl
   exact⟨hacc,hD2,hDC,hDfs,fun v z=>by cases z⟩
 exact codeAny_compStart_list (loop _ rfl) (T.self _ 0 _ _ _ (T.keep _ _ _ st2 fun b _ o e=>old b o e) (loop _ rfl))
theorem B4f (L:Km X N' idx scope)(hc:X.calm=true)(hi:PI X tg iter wi)
 (hg:∀t C s₀ H₀ ex,PG (Ez X N' scope t C s₀ H₀ ex) tg g) (ht:∀t C s₀ H₀ ex,PTs (Ez X N' scope t C s₀ H₀ ex) ifs tc) (he:∀t C s₀ H₀ ex,PE (Ez X N' scope t C s₀ H₀ ex) elt te)
 (hs:∀x,foldedSetIterable iter X.env x=pure x:=by intro _;rfl) :
 PE X (.ListComp elt [⟨tg,iter,ifs,0⟩] scope pos) (tLC idx wi g tc te):=by
 intro j s Z H Q I h
 obtain⟨t,l,c1,c2⟩:=V8 (env:=X.env) (scope:=scope) fun y hy hf=>I.ok.has y.1 (L.free y hy hf)
 rw[eval_ListComp]
 refine wpAny_comprehension_free (use:=none) rfl hs l L.kind (fun y hy hl=>mem_lookup L.nod (by grind)) (aU (hi j s Z H _ I h) (fun v s1 h1=>aU h1 (fun itv V h2=>?_) fun _ _ e=>e) fun _ _ e=>e)
 obtain⟨it,fp,tn,J,H2,rfl,I2,T,M,z,W,w0,A⟩:=h2
 refine Ah7 (F:=fun a H=>∀p,H p=none->Q (.ref p) (upd H p (.lst a))) (RR:=fun a C=>compPost (model X.prog X.w) X.A X.xe none (EP X j Z Q) a C) L hc hg ht he c1 c2 I2 T M z W w0 A ?_
 intro D C s' a w n N m hD hC O hn P rv hz d hC' ho K i hk q
 refine⟨m,hn,fun G f=>?_⟩
 have eD:G.get? D=some { cls:=.type "list",data:=.seq w.toArray n }:=f.extBut _ _ O P
 have S:HOk X.prog X.w N G:=fun b u e=>by
  refine (hk b u e).stay (fun c v hc q=>f.extBut c v ?_ q) (fun _ q=>q) fun _ _ q=>q
  grind
 have U:HOk X.prog X.w (upd N D (.lst a)) G:=S.track d ⟨hz,w,n,rv,eD⟩
 have k:∀b o,V.heap.get? b=some o->b≠C:=fun b o e=>aL (aN (az e) hC)
 have R:∀b o,V.heap.get? b=some o->b≠D:=fun b o e=>aL (aN (az e) hD)
 have u2:Un (frs X.stack) fp H2 (upd N D (.lst a)) V.heap G :=
  ⟨
   fun b o e r B Y=>f.extBut b o (k b o e) (i.keep b o e r B Y),fun b o e r B Y=>let ⟨sl,q⟩:=i.slot b o e r B Y; ⟨sl,f.extBut b _ (k b o e) q⟩,
   fun b o e r B=>by rw[Ai (R b o e)];exact i.free b o e r B,fun b o e r=>let ⟨o',q⟩:=i.there b o e r; ⟨o',f.extBut b _ (k b o e) q⟩,
   fun b xs e=>by rw[Ai (Bq (i.tups b _ e) d)];exact i.tups b _ e,fun b o u e=>by rw[Ai (Bq (i.frzs b o u e) d)];exact i.frzs b o u e,
   fun b ps e=>by rw[Ai (Bq (i.tbls b _ e) d)];exact i.tbls b _ e⟩
 refine⟨.ref D,upd _ D _,I2.call' ho u2 U K fun b E=>⟨(z b E).2.2.2.1,(z b E).2.1,(z b E).2.2.2.2.1,(z b E).2.2.2.2.2⟩,rfl,q D d⟩
end
section
variable {X:Cx}{N':v4}{idx:p6}{scope:Scope}{elt tg iter:Expr}{ifs:v9}{pos:Pos}{wi:TI}{g:TG}{tc:TT}{te:TE}
theorem Bb5 {K t:Pos}(hN:X.N.Nodup) (hi':X.N[i]?=some y) (hy:Loc X.env.scope y) (L:Km X N' idx scope) (hc:X.calm=true) (hi:PI X tg iter wi)
 (hg:∀B C s₀ H₀ ex,PG (Ez X N' scope B C s₀ H₀ ex) tg g) (ht:∀B C s₀ H₀ ex,PTs (Ez X N' scope B C s₀ H₀ ex) ifs tc) (he:∀B C s₀ H₀ ex,PE (Ez X N' scope B C s₀ H₀ ex) elt te)
 (hsw:swapsWith (.ListComp elt [⟨tg,iter,ifs,0⟩] scope pos) (some (.Name y K)) t.line X.env=pure true:=by rfl)
 (hf:X.fn y=true\/X.env.scope.names.lookup y=some .local:=by first | exact .inl rfl | exact .inr rfl | assumption)
 (hs:∀x,foldedSetIterable iter X.env x=pure x:=by intro _;rfl) :
 PS X (.Assign [.Name y K] (.ListComp elt [⟨tg,iter,ifs,0⟩] scope pos) t) (As6 (tLC idx wi g tc te) (Lk i)):=by
 intro d s M H j I h
 have h:tLC idx wi g tc te M H fun x H1=>j.nx (M.set i (some x)) H1:=h
 obtain⟨B,A,c1,c2⟩:=V8 (env:=X.env) (scope:=scope) fun y hy hf=>I.ok.has y.1 (L.free y hy hf)
 rw[exec_Assign_Name_used _ _ _ _ hsw]
 refine aj (fY (aj ?_))
 show wpAny _ X.A (do let _ <- comprehension (.ListComp elt [⟨tg,iter,ifs,0⟩] scope pos) scope X.env _ (newList []) false (eval iter X.env) (some (assign (.Name y K) X.env))) _ _ s
 refine aj (aU (wpAny_comprehension_free (use:=some (assign (.Name y K) X.env)) (Q:=fun _ r=>SP X d j .next r) rfl hs A L.kind (fun y hy hl=>mem_lookup L.nod (by rw[<- hl];exact hy))
  (aU (hi d s M H _ I h) (fun v s1 h1=>aU h1 (fun itv s2 h2=>?_) fun _ _ e=>e) fun _ _ e=>e)) (fun _ r hq=>ak (ak hq)) fun _ _ e=>e)
 obtain⟨it,fp,tn,J,H2,rfl,G,T,U,N,W,w0,O⟩:=h2
 refine Ah7 (F:=fun f H=>∀p,H p=none->j.nx (M.set i (some (.ref p))) (upd H p (.lst f))) (RR:=fun f C=>compPost (model X.prog X.w) X.A X.xe (some (assign (.Name y K) X.env)) (fun _ r=>SP X d j .next r) f C) L hc hg ht he c1 c2 G T U N W w0 O ?_
 intro D C r f V n Y m hD P Z hn hDo rv hz k hC' ho hg' l hk q;have S:HOk X.prog X.w (upd Y D (.lst f)) r.heap:=hk.track k ⟨hz,V,n,rv,hDo⟩
 have neD:∀b o,s2.heap.get? b=some o->b≠D:=fun b o e=>aL (aN (az e) hD)
 have u2:Un (frs X.stack) fp H2 (upd Y D (.lst f)) s2.heap r.heap :=
  ⟨
   l.keep,l.slot,fun b o e n1 n2=>by rw[Ai (neD b o e)];exact l.free b o e n1 n2,l.there,
   fun b xs e=>by rw[Ai (Bq (l.tups b xs e) k)];exact l.tups b xs e,fun b o u e=>by rw[Ai (Bq (l.frzs b o u e) k)];exact l.frzs b o u e,
   fun b ps e=>by rw[Ai (Bq (l.tbls b ps e) k)];exact l.tbls b ps e⟩
 have I3:Inv X d M (upd Y D (.lst f)) r:=G.call' ho u2 S hg' (fun b E=>⟨(N b E).2.2.2.1,(N b E).2.1,(N b E).2.2.2.2.1,(N b E).2.2.2.2.2⟩)
 have hCL:C≠X.env.locals:=bK (aN G.lt P)
 have hCc:∀x c,X.env.cells.lookup x=some c->c≠C:=fun x c e z=>by
  obtain⟨v,w⟩:=G.cell x c e
  exact absurd (aN w.lt (by rw[z];exact P)) (bI _)
 have hCp:∀p∈X.pn++d,p.1≠C:=fun p hp z=>absurd (aN (az (G.pin p hp).1) (by rw[z];exact P)) (bI _)
 refine wpAny_assign_Name (Zk (v:=.ref D) I3 hN hi' hy rfl (fun s4 I4 ⟨a,sb,ha⟩=>?_) hf)
 have hCa:C≠a:=by
  grind
 refine⟨m,hn.sameBut sb hCa,fun h' R=>?_⟩
 refine⟨_,_,I4.turned (fun b o E e=>R.extBut b o E e) ?_ hCL (.inr (au G.sz P)) hCc hCp,q D k⟩
 rw[Ai (aG Z)];exact hC'
end
section
variable {X:Cx}
noncomputable def Pb (H:Hp):V->Option String
 | .non=>some "NoneType" | .bl _=>some "bool" | .int _=>some "int" | .str _=>some "str"
 | .ref a=>match H a with
  | some (.lst _)=>some "list"
  | some (.tup _)=>some "tuple"
  | some (.dK _)=>some "dict"
  | some (.dT _)=>some "dict"
  | _=>none
 | _=>none
section
variable {X:Cx}{pins:y_}{σ:St}{H:Hp}{s:u_}
theorem A7r (I:Inv X pins σ H s) (f:RelV x u) (h:Pb H x=some t):∃hp:Heap->Prop,PySem.W.KitX X.K u (.type t) hp/\hp s.heap/\u≠.builtin "__main__.__loader__#opaque" := by
 cases x with
 | non=>cases h;cases (f);exact⟨_,PySem.W.kitx_none,True.intro,fun z=>nomatch z⟩
 | bl b=>cases h;cases (f);exact⟨_,PySem.W.kitx_bool,True.intro,fun z=>nomatch z⟩
 | int i=>cases h;obtain⟨t,rfl⟩:=f;exact⟨_,PySem.W.kitx_int,True.intro,fun z=>nomatch z⟩
 | str y=>cases h;obtain⟨t,rfl⟩:=f;exact⟨_,PySem.W.kitx_str,True.intro,fun z=>nomatch z⟩
 | ref a =>
  cases (f)
  have c:∀T,PySem.W.KitX X.K (.ref a) (.type T) (PySem.W.KitAt a T)->PySem.W.KitAt a T s.heap->some T=some t->∃hp:Heap->Prop,PySem.W.KitX X.K (.ref a) (.type t) hp/\hp s.heap/\Value.ref a≠.builtin "__main__.__loader__#opaque" := fun T k p q=>by grind
  have h:(match H a with | some (.lst _)=>some _ | some (.tup _)=>some _ | some (.dK _)=>some _ | some (.dT _)=>some _ | _=>none)=some t:=h
  split at h
  ·rename_i l e
   obtain⟨_,_,n,_,d⟩:=(show z9 _ _ H _ a _ from I.hok a _ e)
   exact c _ PySem.W.kitx_list ⟨_,d,rfl⟩ h
  ·rename_i l e
   obtain⟨_,_,_,o,d,g,_⟩:=(show z9 _ _ H _ a _ from I.hok a _ e)
   exact c _ PySem.W.kitx_tuple ⟨o,d,g⟩ h
  ·rename_i j e
   obtain⟨_,_,vs,_,o,r,m,d,g,_⟩:=(show z9 _ _ H _ a _ from I.hok a _ e)
   exact c _ PySem.W.kitx_dict ⟨o,d,g.1⟩ h
  ·rename_i j e
   obtain⟨_,_,l,_,o,r,m,d,g,_⟩:=(show z9 _ _ H _ a _ from I.hok a _ e)
   exact c _ PySem.W.kitx_dict ⟨o,d,g.1⟩ h
  grind
 | byt b=>cases h
 | flt b=>cases h
 | ty n=>cases h
end
noncomputable def Es (t T:String):Option Bool:=if ["NoneType", "bool", "int", "str", "list", "tuple", "dict"].contains t&&["int", "str", "bool", "list", "tuple"].contains T then some (t==T||(t == "bool" && T == "int")) else none
theorem Ap3 {K:v8} (h:Es t T=some b):PySem.W.kitOne K (.type t) (.type T)=some b:=by
 unfold Es at h
 split at h
 ·rename_i a
  cases h
  simp only[dJ,List.contains_iff_mem,aB,bf,bh]at a;obtain⟨c,d⟩:=a
  rcases c with rfl | rfl | rfl | rfl | rfl | rfl | rfl <;> rcases d with rfl | rfl | rfl | rfl | rfl <;> with_unfolding_all rfl
 ·cases h
theorem Bd7:CallR X (.builtin "isinstance") (fun xs H Q=>∃x T t b,xs=[x,.ty T]/\Pb H x=some t/\Es t T=some b/\Q (.bl b) H):=by
 intro a s σ H xs us Q I r h;obtain⟨x,T,t,b,rfl,f,c,q⟩:=h;obtain⟨u,v,rfl,e,d⟩:=Vals.two r
 cases (d)
 obtain⟨hp,z,p,g⟩:=A7r I e f
 exact PySem.W.kia_one z I.kIn p (Ap3 c) g fun tk=>⟨.bl b,H,I.tok _,rfl,q⟩
theorem walk_seq (m:A.handled=none) (I:Inv X pins d H s) (h:SqL X.K H a xs)
 (k:∀(c:w6) (J:Addr) (s2:u_),Vals xs c->Walks X.prog X.w A J [J,a] [J] c.length (fun i v=>c[i]?=some v) (fun i h=>h.IsListIter J a i/\h.IsList a c.toArray)->s2.heap.IsListIter J a 0/\s2.heap.IsList a c.toArray->(∀b∈[J,a],b<s2.heap.objs.size) ->
  Inv X pins d H s2->(∀f l,(∀b o,b∉[J]->s2.heap.get? b=some o->f.get? b=some o)->Inv X pins d H { s2 with heap:=f,toks:=l })->R (.ref J) s2) :
 wpAny (model X.prog X.w) A (pyIter (.ref a)) R E s:=by
 obtain⟨c,n,p,D⟩:=I.list h
 refine dw p.isList ?_
 have u:a<s.heap.objs.size:=let ⟨_,e,_⟩:=p.isList; az e
 have g:a≠s.heap.objs.size:=aL u;have W:=Walks.list (prog:=X.prog) (w:=X.w) (A:=A) m s.heap.objs.size a g c.toArray;rw[cM]at W
 have j:Inv X pins d H { s with heap:=s.heap.push { cls:=.type "list_iterator",data:=.fields #[.ref a,.int 0 0] } }:=I.kept (t':=s.toks) fun b o e=>aF _ e
 refine k c s.heap.objs.size _ n (by simp_all) ⟨⟨_,aJ _ rfl,rfl,rfl⟩,let ⟨o,e,r⟩:=p.isList; ⟨o,aF _ e,r⟩⟩ ?_ j fun f l x=>?_
 ·intro b z
  have e:=bN s.heap { cls:=.type "list_iterator",data:=.fields #[.ref a,.int 0 0] }
  grind
 ·obtain⟨q,B,F,y,C,t⟩:=(I.fpOk (b:=s.heap.objs.size) (aq _) (I.hok.fresh (aq _)))
  exact j.turned (fun b o z e=>x b o (by simp_all) e) q B y C t
theorem T5 {bs:List Bool}(r:Vals (bs.map V.bl) a):TruthOf X.prog X.w A (fun i v=>a[i]?=some v) (fun i=>bs.getD i false):=by
 intro i v s Q E c b;have h := (aZ.mp c).1
 have g:i<bs.length:=by have:=r.length;simp_all
 obtain⟨u,d,f⟩:=r.get (i:=i) (x:=V.bl bs[i]) (by simp_all)
 rw[c]at d
 cases d
 cases (show v=Value.bool _ from f)
 have e:bs.getD i false=bs[i]:=by simp_all
 have b:Q (bs.getD i _) s:=b;rw[e]at b;exact dH b
theorem range_any (bs:List Bool):(List.range bs.length).any (fun i=>bs.getD i false)=bs.any id:=by
 rw[Bool.eq_iff_iff];simp only[List.any_eq_true,cX]
 constructor
 ·rintro⟨i,a,e⟩
  exact⟨bs[i],j0 _,by grind⟩
 ·rintro⟨b,d,e⟩
  obtain⟨i,a,c⟩:=j6 d
  exact⟨i,a,by grind⟩
theorem range_all (bs:List Bool):(List.range bs.length).all (fun i=>bs.getD i false)=bs.all id:=by
 rw[Bool.eq_iff_iff];simp only[cG,cX]
 constructor
 ·intro h b d
  obtain⟨i,a,c⟩:=j6 d
  simp_all
 ·intro h i a
  simpa[a] using h _ (j0 _)
theorem A2g (hc:X.calm=true):CallR X (.builtin "any") (fun xs H Q=>∃(a:Addr) (b:List Bool),xs=[.ref a]/\SqL X.K H a (b.map V.bl)/\Q (.bl (b.any id)) H):=by
 intro d s σ H xs us Q I r h;obtain⟨a,b,rfl,i,q⟩:=h;obtain⟨u,rfl,g⟩:=vals1 r
 cases g
 refine call_any_walk (walk_seq (I.ok.hd hc) I i fun c J s2 f W l hb I2 k=>⟨J,_,_,_,_,_,_,rfl,W,l,T5 f,fun h' tk j=>?_⟩)
 have e:c.length=b.length:=by rw[<- f.length,ao]
 rw[e,range_any];exact⟨.bl _,H,k _ _ j,rfl,q⟩
theorem A2z (hc:X.calm=true):CallR X (.builtin "all") (fun xs H Q=>∃(a:Addr) (b:List Bool),xs=[.ref a]/\SqL X.K H a (b.map V.bl)/\Q (.bl (b.all id)) H):=by
 intro d s σ H xs us Q I r h;obtain⟨a,b,rfl,i,q⟩:=h;obtain⟨u,rfl,g⟩:=vals1 r
 cases (g)
 refine call_all_walk (walk_seq (I.ok.hd hc) I i fun c J s2 f W l hb I2 k=>⟨J,_,_,_,_,_,_,rfl,W,l,T5 f,fun h' tk j=>?_⟩)
 have e:c.length=b.length:=by rw[<- f.length,ao]
 rw[e,range_all];exact⟨.bl _,H,k _ _ j,rfl,q⟩
theorem Ug (ns:List Int):∀n,n<=ns.length->preSum (fun i=>ns.getD i 0) n=(ns.take n).sum
 | 0,_=>by simp[preSum]
 | n+1,h=>by
  have ih:=Ug ns n (by lia)
  have e:ns.take (n+1)=ns.take n++[ns[n]'(by lia)]:=by rw[List.take_add_one,bG (by lia)];rfl
  rw[e,List.sum_append,preSum,ih]
  simp[List.getD,show n<ns.length by lia]
theorem A5a (hc:X.calm=true):CallR X (.builtin "sum") (fun xs H Q=>∃(a:Addr) (b:List Int),xs=[.ref a]/\SqL X.K H a (b.map V.int)/\Q (.int b.sum) H):=by
 intro l s σ H xs us Q I r h;obtain⟨a,b,rfl,o,q⟩:=h;obtain⟨u,rfl,d⟩:=vals1 r
 cases (show u=Value.ref a from d)
 refine call_sum_walkAnyS (walk_seq (A:=X.A.in1) (I.ok.hd hc) I o fun c J s2 g W p w I2 k=>⟨J,_,_,_,_,_,_,fun i=>b.getD i 0,rfl,W.toS,p,w,fun i v f=>?_,fun m y n=>?_⟩)
 ·have f:c[i]?=some v:=f
  have hl := (aZ.mp f).1
  have j:i<b.length:=by have:=g.length;grind
  obtain⟨u,hu,d⟩:=g.get (i:=i) (x:=V.int b[i]) (by simp[j])
  obtain⟨t,e⟩:=d
  grind
 ·have e:c.length=b.length:=by rw[<- g.length,ao]
  rw[e,Ug _ _ (aq _),dz];obtain⟨h',g',d',t2,o'⟩:=m;obtain⟨B,z,C,D,m5⟩:=n;subst z C D;exact⟨.int _,H,k _ _ B,⟨y,rfl⟩,q⟩
end
mutual
noncomputable def Tr (H:Hp):t6->V->Prop
 | .none,v=>v=.non
 | .bool b,v=>v=.bl b
 | .int i,v=>v=.int i
 | .str x,v=>v=.str x
 | .list ds,v=>∃a vs,v=.ref a/\H a=some (.lst vs)/\TrL H ds vs
 | .tuple ds,v=>∃a vs,v=.ref a/\H a=some (.tup vs)/\TrL H ds vs
 | .dict _,_=>False
noncomputable def TrL (H:Hp):w5->n7->Prop
 | [],vs=>vs=[]
 | d::ds,vs=>∃v r,vs=v::r/\Tr H d v/\TrL H ds r
end
theorem TrL.length {H:Hp}:∀{ds:w5}{vs:n7},TrL H ds vs->ds.length=vs.length
 | [],_,h=>by cases (show _=[] from h);rfl
 | d::ds,_,h=>by
  obtain⟨v,r,rfl,_,t⟩:=h;rw[aP,aP,TrL.length t]
mutual
theorem Tr.same {H H':Hp}(S:Same H H'):∀{d:t6}{v:V},Tr H d v->Tr H' d v
 | .none,_,h=>h
 | .bool _,_,h=>h
 | .int _,_,h=>h
 | .str _,_,h=>h
 | .list ds,_,⟨a,vs,e,ha,t⟩=>⟨a,vs,e,S _ _ ha,TrL.same S t⟩
 | .tuple ds,_,⟨a,vs,e,ha,t⟩=>⟨a,vs,e,S _ _ ha,TrL.same S t⟩
theorem TrL.same {H H':Hp}(S:Same H H'):∀{ds:w5}{vs:n7},TrL H ds vs->TrL H' ds vs
 | [],_,h=>h
 | d::ds,_,⟨v,r,e,h,t⟩=>⟨v,r,e,Tr.same S h,TrL.same S t⟩
end
def B7f (H H':Hp):Prop:=∀b xs,H b=some (.tup xs)->H' b=some (.tup xs)
section
variable {X:Cx}{pins:y_}{σ:St}{H:Hp}{s:u_}
mutual
theorem Tr.reads (I:Inv X pins σ H s):∀{d:t6}{v:V}{u:Value},Tr H d v->RelV v u->∃as,Reads s.heap u d as
 | .none,_,u=>fun h r=>by
  cases (show _=V.non from h)
  cases (show u=Value.none from r)
  exact⟨_,.none⟩
 | .bool b,_,u=>fun h r=>by
  cases (show _=V.bl b from h)
  cases (show u=Value.bool b from r)
  exact⟨_,.bool b⟩
 | .int i,_,u=>fun h r=>by
  cases (show _=V.int i from h)
  obtain⟨t,rfl⟩:=r;exact⟨_,.int i t⟩
 | .str x,_,u=>fun h r=>by
  cases (show _=V.str x from h)
  obtain⟨t,rfl⟩:=r;exact⟨_,.str x t⟩
 | .list ds,_,u=>fun h r=>by
  obtain⟨a,vs,rfl,ha,t⟩:=h
  cases (show u=Value.ref a from r)
  obtain⟨z,its,n,rv,e⟩:=I.hok a _ ha;obtain⟨as,q⟩:=TrL.reads I t rv
  exact⟨_,.list e rfl rfl (by simpa using q)⟩
 | .tuple ds,_,u=>fun h r=>by
  obtain⟨a,vs,rfl,ha,t⟩:=h
  cases (show u=Value.ref a from r)
  obtain⟨z,its,rv,o,e,c,⟨n,dt⟩,_⟩:=I.hok a _ ha;obtain⟨as,q⟩:=TrL.reads I t rv
  exact⟨_,.tuple e c dt (by simpa using q)⟩
 | .dict k,_,u=>fun h r=>False.elim h
theorem TrL.reads (I:Inv X pins σ H s):∀{ds:w5}{vs:n7}{us:w6},TrL H ds vs->Vals vs us->∃as,ReadsAll s.heap us ds as
 | [],_,us=>fun h r=>by
  cases (show _=[] from h)
  cases r
  exact⟨_,.nil⟩
 | d::ds,_,us=>fun h r=>by
  obtain⟨v,vs,rfl,hv,t⟩:=h
  cases r with
  | cons r1 r2 =>
   obtain⟨as,q⟩:=Tr.reads I hv r1;obtain⟨bs,p⟩:=TrL.reads I t r2;exact⟨_,.cons q p⟩
end
end
def Flat (d:t6):Prop:=d.canLay0=true/\d.depth<=40
section
variable {X:Cx}
theorem Bw5 (hu:u+64<c) (hb:b<=40):u+min a b<c:=bR (dG (au (j7 a b) (au hb (by decide))) u) hu
theorem Ad3 (hu:u+64<c) (hb:b<=40):u+1+min a b<c:=bR (au (dG (au (j7 a b) hb) _) (dG (show 1+40<=64 by decide) u)) hu
theorem B2v (hu:X.A.units+64<cLine):OpR X (compareOp .Eq) (fun x y H Q=>∃a b,Tr H a x/\Tr H b y/\Flat a/\Flat b/\Q (.bl (PyData.eqv a b)) H):=by
 intro c s n H x y v u Q I g f h;obtain⟨a,b,i,j,k,d,q⟩:=h;obtain⟨m,l⟩:=i.reads I g;obtain⟨o,e⟩:=j.reads I f;exact SeqAt.compareEq_reads l e k.1 d.1 (Bw5 hu d.2) ⟨.bl _,H,I,rfl,q⟩
theorem Bw9 (hu:X.A.units+64<cLine):OpR X (compareOp .NotEq) (fun x y H Q=>∃a b,Tr H a x/\Tr H b y/\Flat a/\Flat b/\Q (.bl (!PyData.eqv a b)) H):=by
 intro c s n H x y v u Q I g f h;obtain⟨a,b,i,j,k,d,q⟩:=h;obtain⟨m,l⟩:=i.reads I g;obtain⟨o,e⟩:=j.reads I f;exact SeqAt.compareNe_reads l e k.1 d.1 (Bw5 hu d.2) ⟨.bl _,H,I,rfl,q⟩
theorem B3j (hu:X.A.units+64<cLine):OpR X (compareOp .In) (fun x y H Q=>∃d a,Tr H d x/\(Tr H (.list a) y\/Tr H (.tuple a) y)/\Flat d/\PyData.canLayAll0 a=true/\Q (.bl (a.any fun e=>PyData.eqv e d)) H):=by
 intro i s o H x y v u Q I n g h;obtain⟨d,a,l,b,c,j,q⟩:=h;obtain⟨p,k⟩:=l.reads I n
 rcases b with b | b
 ·obtain⟨m,f⟩:=b.reads I g
  exact SeqAt.in_list_reads f k j c.1 (Ad3 hu c.2) ⟨.bl _,H,I,rfl,q⟩
 ·obtain⟨m,f⟩:=b.reads I g
  exact SeqAt.in_tuple_reads f k j c.1 (Ad3 hu c.2) ⟨.bl _,H,I,rfl,q⟩
theorem Yp (hu:X.A.units+64<cLine):OpR X (compareOp .NotIn) (fun x y H Q=>∃d ds,Tr H d x/\(Tr H (.list ds) y\/Tr H (.tuple ds) y)/\Flat d/\PyData.canLayAll0 ds=true/\Q (.bl (!ds.any fun e=>PyData.eqv e d)) H):=by
 intro g s σ H x y v u Q I m f h;obtain⟨d,ds,k,a,b,i,q⟩:=h;obtain⟨as,j⟩:=k.reads I m
 rcases a with a | a
 ·obtain⟨l,c⟩:=a.reads I f
  exact SeqAt.notIn_list_reads c j i b.1 (Ad3 hu b.2) ⟨.bl _,H,I,rfl,q⟩
 ·obtain⟨l,c⟩:=a.reads I f
  exact SeqAt.notIn_tuple_reads c j i b.1 (Ad3 hu b.2) ⟨.bl _,H,I,rfl,q⟩
theorem A4t (hu:X.A.units+64<cLine)(hg:X.A.guards=some []):CallR X (.type "str") (fun xs H Q=>∃a d,xs=[.ref a]/\Tr H d (.ref a)/\d.showable=true/\d.hasDict=false/\d.depth<=40/\d.shown.length<=sizeLine/\Q (.str d.shown) H):=by
 intro b s σ H xs us Q I r h;obtain⟨a,d,rfl,i,j,h2,h3,g,q⟩:=h;obtain⟨u,rfl,c⟩:=vals1 r
 cases show u=Value.ref a from c
 obtain⟨as,k⟩:=i.reads I c
 exact str_of_reads k j fun z=>by simp_all hg (by lia) (fun _ _ e=>e) (fun h' t tk f=>⟨.str _,H,I.kept f,⟨t,rfl⟩,q⟩) g
end
mutual
noncomputable def Hi (gt:Bool):t6->t6->Option Bool
 | .int i,.int j=>some (if gt then decide (j<i) else decide (i<j))
 | .str i,.str j=>some (if gt then decide (j.cps.toList<i.cps.toList) else decide (i.cps.toList<j.cps.toList))
 | .tuple xs,.tuple ys=>Nx gt xs ys
 | _,_=>none
noncomputable def Nx (gt:Bool):w5->w5->Option Bool
 | [],[]=>some false
 | [],_::_=>some (!gt)
 | _::_,[]=>some gt
 | x::xs,y::ys=>if PyData.eqv x y=true then Nx gt xs ys else Hi gt x y
end
noncomputable abbrev opG (gt:Bool):CmpOp:=if gt then .Gt else .Lt
def B0o (gt:Bool)(A:t_)(s:u_)(a b:Value)(r:Bool):Prop :=
 ∀(prog:u5) (w:World) (E:z_) (Q:z_),Q (.bool r) s->wpAny (model prog w) A (richCompare (opG gt) a b) Q E s
inductive O6 (gt:Bool) (A:t_) (s:u_):w6->w6->Bool->Prop
 | nn:O6 gt A s [] [] false
 | nc {y ys}:O6 gt A s [] (y::ys) (!gt)
 | cn {x xs}:O6 gt A s (x::xs) [] gt
 | eq {x xs y ys r}:SeqAt.EqAt A s x y true->O6 gt A s xs ys r->O6 gt A s (x::xs) (y::ys) r
 | ne {x xs y ys r}:SeqAt.EqAt A s x y false->B0o gt A s x y r->O6 gt A s (x::xs) (y::ys) r
section
open PySem.SeqAt
open PySem.AutoSeq1 (wpAny_loadPart')
open PySem.MeetsSeq PySem.MeetsSeq2 PySem.MeetsSeq3
theorem Z4 (l b:Addr)(items a:v6)(n n2:Nat)(dd dd2:Option Addr)(sl sl2:Array (u6))(r:Bool) :
 Meets (Builtin.«tuple.__lt__» ⟨[.ref l,.ref b],[]⟩)
  (fun A R s=>s.heap.get? l=some { cls:=.type "tuple",dict:=dd,data:=.seq items n,slots:=sl }/\s.heap.get? b=some { cls:=.type "tuple",dict:=dd2,data:=.seq a n2,slots:=sl2 } /\
   O6 false A.in1 s items.toList a.toList r/\R (.ok (.ret (.bool r))) s) :=
 .of_wp fun f w A R s h=>by
  obtain⟨hp,g,d,tk,os⟩:=s;obtain⟨hl,hb,hx,h⟩:=h;have f2:=AutoSeq1.sub_tuple_tuple
  wp_walk using bj hl,bj hb,fX _ (fun rest b s'=>b.1=none/\s'=⟨hp,g,d,tk,os⟩/\∃(vs ws:w6),rest=vs.zip ws /\
   vs.length+a.size=ws.length+items.size/\O6 false A.in1 ⟨hp,g,d,tk,os⟩ vs ws r) _
  case turn =>
   rintro⟨y,x⟩ rest b s' ⟨hb',rfl,vs,ws,e,c,hR⟩
   cases hR with
   | nn=>rw[gW]at e;cases e
   | nc=>rw[gW]at e;cases e
   | cn=>rw[List.zip_nil_right]at e;cases e
   | eq he hr =>
    rw[bL]at e
    injection e with hyx hrest
    injection hyx with hy hx
    subst hy hx;simp only[aP]at c
    refine aj (he f w _ _ ?_)
    wp_walk
    exact⟨rfl,rfl,_,_,hrest,by lia,hr⟩
   | ne he hr =>
    rw[bL]at e
    injection e with hyx hrest
    injection hyx with hy hx
    subst hy hx
    refine aj (he f w _ _ ?_)
    have hri:∀(E:z_) (Q:z_),Q (.bool r) ⟨hp,g,d,tk,os⟩->wpAny (model f w) A.in1 (richCompare .Lt y x) Q E ⟨hp,g,d,tk,os⟩:=hr f w
    wp_walk using hri
    exact⟨_,rfl,by simpa using h⟩
  case fin =>
   rintro⟨b1,b2⟩ s' ⟨hb',rfl,vs,ws,e,c,hR⟩
   simp only at hb';subst hb'
   have hv:r=decide (items.size<a.size):=by
    cases hR with
    | nn=>exact(aR (by simp only[dB]at c;lia)).symm
    | nc=>simp only[dB,aP]at c;exact(aK (by lia)).symm
    | cn=>simp only[dB,aP]at c;exact(aR (by lia)).symm
    | eq=>rw[bL]at e;cases e
    | ne=>rw[bL]at e;cases e
   rw[hv]at h
   wp_walk
   exact⟨_,rfl,by simpa[Builtin.Tuple.tupleCompareSizes] using h⟩
  case h =>
   exact⟨rfl,rfl,items.toList,a.toList,rfl,by simp;lia,hx⟩
theorem Z2 (l b:Addr)(items a:v6)(n n2:Nat)(dd dd2:Option Addr)(sl sl2:Array (u6))(r:Bool) :
 Meets (Builtin.«tuple.__gt__» ⟨[.ref l,.ref b],[]⟩)
  (fun A R s=>s.heap.get? l=some { cls:=.type "tuple",dict:=dd,data:=.seq items n,slots:=sl }/\s.heap.get? b=some { cls:=.type "tuple",dict:=dd2,data:=.seq a n2,slots:=sl2 } /\
   O6 true A.in1 s items.toList a.toList r/\R (.ok (.ret (.bool r))) s) :=
 .of_wp fun f w A R s h=>by
  obtain⟨hp,g,d,tk,os⟩:=s;obtain⟨hl,hb,hx,h⟩:=h;have f2:=AutoSeq1.sub_tuple_tuple
  wp_walk using bj hl,bj hb,fX _ (fun rest b s'=>b.1=none/\s'=⟨hp,g,d,tk,os⟩/\∃(vs ws:w6),rest=vs.zip ws /\
   vs.length+a.size=ws.length+items.size/\O6 true A.in1 ⟨hp,g,d,tk,os⟩ vs ws r) _
  case turn =>
   rintro⟨y,x⟩ rest b s' ⟨hb',rfl,vs,ws,e,c,hR⟩
   cases hR with
   | nn=>rw[gW]at e;cases e
   | nc=>rw[gW]at e;cases e
   | cn=>rw[List.zip_nil_right]at e;cases e
   | eq he hr =>
    rw[bL]at e
    injection e with hyx hrest
    injection hyx with hy hx
    subst hy hx;simp only[aP]at c
    refine aj (he f w _ _ ?_)
    wp_walk
    exact⟨rfl,rfl,_,_,hrest,by lia,hr⟩
   | ne he hr =>
    rw[bL]at e
    injection e with hyx hrest
    injection hyx with hy hx
    subst hy hx
    refine aj (he f w _ _ ?_)
    have hri:∀(E:z_) (Q:z_),Q (.bool r) ⟨hp,g,d,tk,os⟩->wpAny (model f w) A.in1 (richCompare .Gt y x) Q E ⟨hp,g,d,tk,os⟩:=hr f w
    wp_walk using hri
    exact⟨_,rfl,by simpa using h⟩
  case fin =>
   rintro⟨b1,b2⟩ s' ⟨hb',rfl,vs,ws,e,c,hR⟩
   simp only at hb';subst hb'
   have hv:r=decide (a.size<items.size):=by
    cases hR with
    | nn=>exact(aR (by simp only[dB]at c;lia)).symm
    | nc=>simp only[dB,aP]at c;exact(aR (by lia)).symm
    | cn=>simp only[dB,aP]at c;exact(aK (by lia)).symm
    | eq=>rw[bL]at e;cases e
    | ne=>rw[bL]at e;cases e
   rw[hv]at h
   wp_walk
   exact⟨_,rfl,by simpa[Builtin.Tuple.tupleCompareSizes] using h⟩
  case h =>
   exact⟨rfl,rfl,items.toList,a.toList,rfl,by simp;lia,hx⟩
end
theorem B1z (hl:s.heap.IsTuple l items) (hb:s.heap.IsTuple b a) (hx:O6 f A.in1 s items.toList a.toList r) (hu:A.units<cLine):B0o f A s (.ref l) (.ref b) r:=by
 intro m w E Q h;obtain⟨⟨o,y,k,v⟩,d,p,n,u⟩:=id hl;obtain⟨⟨j,t,g,q⟩,c,i,z,e⟩:=id hb;subst p u i e
 cases f with
 | false =>
  exact richCompare_meets_room ⟨_,d,rfl⟩ ⟨_,c,rfl⟩ PySem.F.slot_tuple_lt PySem.F.entry_tuple_lt (PySem.F.args_tuple_lt_2 _ _) (Z4 l b _ _ n _ _ _ _ _ r)
   ⟨d,c,hx,show Value.bool r≠Value.notImplemented/\Q _ s from ⟨(fun x=>nomatch x),h⟩⟩ hu
 | true =>
  exact richCompare_meets_room ⟨_,d,rfl⟩ ⟨_,c,rfl⟩ PySem.F.slot_tuple_gt PySem.F.entry_tuple_gt (PySem.F.args_tuple_gt_2 _ _) (Z2 l b _ _ n _ _ _ _ _ r)
   ⟨d,c,hx,show Value.bool r≠Value.notImplemented/\Q _ s from ⟨(fun x=>nomatch x),h⟩⟩ hu
mutual
theorem Ri (gt:Bool):∀(da db:t6) (A:t_) (s:u_) (a b:Value) (as bs:v5) (r:Bool),Reads s.heap a da as->Reads s.heap b db bs->da.canLay0=true->db.canLay0=true->A.units+da.depth<cLine->Hi gt da db=some r->B0o gt A s a b r
 | .int i,db,A,s,a,b,as,bs,r,ra,rb,ca,cb,hu,h=>by
  cases db with
  | int j =>
   cases ra
   cases rb
   cases h
   intro prog w E Q q
   cases gt with
   | false=>exact(PyProof.Rows.lt_int q:wpAny (model prog w) A (compareOp .Lt _ _) Q E s)
   | true=>exact(PyProof.Rows.gt_int q:wpAny (model prog w) A (compareOp .Gt _ _) Q E s)
  | _=>cases h
 | .str i,db,A,s,a,b,as,bs,r,ra,rb,ca,cb,hu,h=>by
  cases db with
  | str j =>
   cases ra
   cases rb
   cases h
   intro prog w E Q q
   cases gt with
   | false=>exact(PyProof.Rows.lt_str q:wpAny (model prog w) A (compareOp .Lt _ _) Q E s)
   | true=>exact(PySem.P.gt_str q:wpAny (model prog w) A (compareOp .Gt _ _) Q E s)
  | _=>cases h
 | .tuple xs,db,A,s,a,b,as,bs,r,ra,rb,ca,cb,hu,h=>by
  cases db with
  | tuple ys =>
   cases ra with
   | tuple h1 h2 h3 h4 =>
    cases rb with
    | tuple g1 g2 g3 g4 =>
     have hu':A.units+(PyData.depthAll xs+1)<cLine:=hu
     exact B1z ⟨_,h1,h2,_,h3⟩ ⟨_,g1,g2,_,g3⟩ (Qj gt xs ys A.in1 s _ _ _ _ r h4 g4 ca cb (by show A.units+1+PyData.depthAll xs<cLine;lia) h) (by lia)
  | _=>cases h
 | .none,db,A,s,a,b,as,bs,r,ra,rb,ca,cb,hu,h=>by cases db <;> cases h
 | .bool _,db,A,s,a,b,as,bs,r,ra,rb,ca,cb,hu,h=>by cases db <;> cases h
 | .list _,db,A,s,a,b,as,bs,r,ra,rb,ca,cb,hu,h=>by cases db <;> cases h
 | .dict _,db,A,s,a,b,as,bs,r,ra,rb,ca,cb,hu,h=>by cases db <;> cases h
theorem Qj (gt:Bool):∀(xs ys:w5) (A:t_) (s:u_) (vs ws:w6) (as bs:v5) (r:Bool),ReadsAll s.heap vs xs as->ReadsAll s.heap ws ys bs->PyData.canLayAll0 xs=true->PyData.canLayAll0 ys=true->A.units+PyData.depthAll xs<cLine->Nx gt xs ys=some r->O6 gt A s vs ws r
 | [],[],A,s,vs,ws,as,bs,r,ra,rb,ca,cb,hu,h=>by cases ra;cases rb;cases h;exact .nn
 | [],y::ys,A,s,vs,ws,as,bs,r,ra,rb,ca,cb,hu,h=>by cases ra;cases rb;cases h;exact .nc
 | x::xs,[],A,s,vs,ws,as,bs,r,ra,rb,ca,cb,hu,h=>by cases ra;cases rb;cases h;exact .cn
 | x::xs,y::ys,A,s,vs,ws,as,bs,r,ra,rb,ca,cb,hu,h=>by
  cases ra with
  | cons r1 r2 =>
   cases rb with
   | cons q1 q2 =>
    have ca':=aC.mp ca;have cb':=aC.mp cb;have hu':A.units+max x.depth (PyData.depthAll xs)<cLine:=hu
    have e:=gM x y A s _ _ _ _ r1 q1 ca'.1 cb'.1 (by lia)
    rw[Nx]at h
    by_cases he:PyData.eqv x y=true
    ·rw[if_pos he]at h
     rw[he]at e
     exact .eq e (Qj gt xs ys A s _ _ _ _ r r2 q2 ca'.2 cb'.2 (by lia) h)
    ·rw[if_neg he]at h
     rw[j8 _ |>.mp he]at e
     exact .ne e (Ri gt x y A s _ _ _ _ r r1 q1 ca'.1 cb'.1 (by lia) h)
end
section
variable {X:Cx}
theorem B2j (hu:X.A.units+64<cLine):OpR X (compareOp .Lt) (fun x y H Q=>∃a b r,Tr H a x/\Tr H b y/\Flat a/\Flat b/\Hi false a b=some r/\Q (.bl r) H):=by
 intro c s o H x y v u Q I i l h;obtain⟨a,b,r,j,k,d,g,e,q⟩:=h;obtain⟨n,m⟩:=j.reads I i;obtain⟨p,f⟩:=k.reads I l
 exact(Ri _ _ _ X.A s v u _ _ r m f d.1 g.1 (by have:=d.2;lia) e _ _ _ (EP X _ _ Q) ⟨.bl _,H,I,rfl,q⟩)
end
section
variable {X:Cx}{pins:y_}{σ:St}{H:Hp}{s:u_}
theorem Inv.recS (I:Inv X (pins++(S,o)::pl) σ H s) (hS:X.s₀.heap.objs.size<=S) (hp:∀p∈pins++pl,p.1≠S) (hpn:∀p∈X.pn,p.1≠S)
 (hu:(s.heap.update S f).get? S=some o') (hd:∀v,o'.data≠.cell v):Inv X (pins++(S,o')::pl) σ H { s with heap:=s.heap.update S f }:=by
 obtain⟨p1,p2,p3,p4,p5⟩:=I.pin (S,o) (aA _ (aA _ aQ))
 have I0:Inv X [] σ H s:=I.pins_of fun p hp=>nomatch hp
 have I1:Inv X [] σ H { s with heap:=s.heap.update S f }:=I0.turned (t':=s.toks) (fun b u hb e=>(bH s.heap f (aG hb)).trans e) p2 p3 (.inr hS) (fun x c e z=>by
  obtain⟨v,ob,ho,hdc⟩:=I.cell x c e
  rw[z,p1]at ho;cases ho;exact p5 v hdc) (fun p hp' z=>by
   have hp':p∈X.pn++[]:=hp';rw[cN]at hp'
   exact hpn p hp' z)
 refine I1.pins_of fun p hpp=>?_
 have keep:∀p∈pins++pl,(s.heap.update S f).get? p.1=some p.2/\H p.1=none/\p.1≠X.env.locals/\p.1∉X.fs/\∀v,p.2.data≠.cell v:=fun p hpm=>by
  have hpm':p∈X.pn++(pins++(S,o)::pl):=aA _ (by
   rcases bC.mp hpm with z | z
   ·exact bJ _ z
   ·exact aA _ (aY _ z))
  obtain⟨q1,q2,q3,q4,q5⟩:=I.pin p hpm';exact⟨(bH s.heap f (aG (hp p hpm))).trans q1,q2,q3,q4,q5⟩
 rcases bC.mp hpp with z | z
 ·exact keep p (bJ _ z)
 ·rcases aB.mp z with rfl | z
  ·exact⟨hu,p2,p3,p4,hd⟩
  ·exact keep p (aA _ z)
theorem A1y (F:FnOk X.prog X.w X.K X.mg X.base CX0 k f a ps sp) (hr:Room (k+1) X.A) (hb:Binds X.K a ps [])
 (I:Inv X pins σ H s) (r:Vals vs us) (h:sp vs H Q E0):wpAny (model X.prog X.w) X.A.in1 (call (.ref f) us) (EP X pins σ Q) E s:=by
 have c:(us++[]).length=ps.length:=by rw[cN,<- r.length];exact F.len _ _ _ _ h
 refine wpAny_call (eN (F.run _ _ s H _ _ _ Q _ hr.in1 I.env0.in1 (hb s _ I.kIn c) (by grind) h) fun r g d=>?_)
 cases r with
 | error e=>trivial
 | ok b =>
  cases b with
  | ret u=>exact I.after d
  | next=>trivial
  | brk=>trivial
  | cont=>trivial
end
noncomputable def Bt6:Option (V×V)->w6->Prop
 | none,us=>us=[]
 | some (x,k),us=>∃u t,us=[u,t]/\RelV x u/\RelV k t
def MmW (gt:Bool)(K:v8)(sp:Sp)(a:Addr)(vs:n7)(d:V)(H:Hp)(Q:VK):Prop :=
 ∃
  W:Nat->Option (V×V)->Hp->Prop,W 0 none H/\(∀i best H,W i best H->SqL K H a vs) /\
  (∀i x best H,vs[i]?=some x->W i best H->sp [x] H (fun kv H1=>match best with
   | none=>W (i+1) (some (x,kv)) H1
   | some (bx,bk)=>∃dk db r,Tr H1 dk kv/\Tr H1 db bk/\Flat dk/\Flat db/\Hi gt dk db=some r/\W (i+1) (if r=true then some (x,kv) else some (bx,bk)) H1) E0) /\
  (∀best H,W vs.length best H->Q (match best with | some (x,_)=>x | none=>d) H)
section
variable {X:Cx}
theorem An7 (a v d:Value):argsOk "min" ⟨[a],[(Str.ofString "key",v),(Str.ofString "default",d)]⟩:=by rfl
theorem A8v {E:z_} (hc:X.calm=true)
 (F:FnOk X.prog X.w X.K X.mg X.base CX0 k f fd ps sp) (hr:Room (k+1) X.A) (hb:Binds X.K fd ps []) (rd:RelV d ud) (hS:X.s₀.heap.objs.size<=S) (hJ:X.s₀.heap.objs.size<=J) (M:S≠J) (haJ:a≠J)
 (hp:∀p∈X.pn++pins,p.1≠S/\p.1≠J)
 (W:Nat->Option (V×V)->Hp->Prop) (w1:∀i g H,W i g H->SqL X.K H a vs)
 (w2:∀i x g H,vs[i]?=some x->W i g H->sp [x] H (fun l H1=>match g with
  | none=>W (i+1) (some (x,l)) H1
  | some (bx,bk)=>∃dk db r,Tr H1 dk l/\Tr H1 db bk/\Flat dk/\Flat db/\Hi false dk db=some r/\W (i+1) (if r=true then some (x,l) else some (bx,bk)) H1) E0)
 (w3:∀g H,W vs.length g H->Q (match g with | some (x,_)=>x | none=>d) H) :
 ∀
  (r i:Nat) (g:Option (V×V)) (j:w6) (n:Nat) (oJ:Obj) (H:Hp) (s:u_),vs.length-i=r->i<=vs.length->Bt6 g j->W i g H ->
  Inv X (pins++[(S,{ cls:=.type "list",data:=.seq j.toArray n }),(J,oJ)]) σ H s->s.heap.IsListIter J a i ->
  codeAny (model X.prog X.w) X.A (.builtin "min.loop" ⟨[.ref J,.ref f,.ref S],[(Str.ofString "default",ud)]⟩) (fun r s'=>match r with | .ok (.ret v)=>EP X pins σ Q v s' | .ok _=>False | .error e=>E e s') s:=by
 have m:(toString "min" ++ toString ".loop" : String) = "min.loop" := by decide
 have hu:X.A.units+100<cLine:=by have:=hr.un;lia
 intro r
 induction r with
 | zero =>
  intro i g j n oJ H s hri hi h hw I hit
  have e:i=vs.length:=by lia
  subst e;obtain⟨B,ps2,ps3,ps4,U⟩:=I.pin (S,{ cls:=.type "list",data:=.seq j.toArray n }) (aA _ (aA _ aQ));obtain⟨T,L,N,pj4,Z⟩:=I.pin (J,oJ) (aA _ (aA _ (aY _ aQ)));obtain⟨us,rv,pl,hz⟩:=I.list (w1 _ _ _ hw);have hlen:=rv.length
  have I0:Inv X pins σ H s:=I.pins_of fun p hp=>I.pin p (aA _ (bJ _ hp))
  refine bZ PySem.F.entry_min_loop ?_
  rw[cu fJ _]
  show wpAny _ X.A.in1 (seqItems? (.ref S) >>= _) _ _ _
  refine aj (bY B rfl ?_)
  show wpAny _ X.A.in1 (tryCatch (pyNext (.ref J)) _ >>= _) _ _ _
  refine aj (dW (iM (A:=X.A.in1) (I.ok.hd hc) hit pl.isList (by simp;lia) fun h' eb=>?_))
  have I1:Inv X pins σ H { s with heap:=h' }:=I0.turned (t':=s.toks) (fun b o hb e=>eb b o hb e) L N (.inr hJ) (fun x c e z=>by
   obtain⟨v,ob,P,C⟩:=I.cell x c e
   rw[z,T]at P;cases P;exact Z v C) (fun p G=>(hp p G).2)
  cases g with
  | none =>
   cases (show j=[] from h)
   show wpAny _ X.A.in1 (rule _ >>= _) _ _ _
   refine aj (cA (ak ?_))
   exact⟨d,H,I1,rd,w3 none H hw⟩
  | some b =>
   obtain⟨bx,bk⟩:=b;obtain⟨u,t,rfl,ru,rt⟩:=h;have ps1':=eb S _ M B
   show wpAny _ X.A.in1 (updateSeq S (fun _=>#[]) >>= _) _ _ _
   refine aj (cU ps1' rfl (aj (cQ (ak ?_))))
   refine⟨bx,H,I1.turned (t':=s.toks) (fun b o hb e=>(bH h' _ (aG hb)).trans e) ps2 ps3 (.inr hS) (fun x c e z=>?_) (fun p G=>(hp p G).1),ru,w3 (some (bx,bk)) H hw⟩
   obtain⟨v,ob,P,C⟩:=I.cell x c e;rw[z,B]at P;cases P;exact U v C
 | succ r ih =>
  intro i g j n oJ H s hri hi h hw I hit
  have D:i<vs.length:=by lia
  obtain⟨B,ps2,ps3,ps4,U⟩:=I.pin (S,{ cls:=.type "list",data:=.seq j.toArray n }) (aA _ (aA _ aQ));obtain⟨T,L,N,pj4,Z⟩:=I.pin (J,oJ) (aA _ (aA _ (aY _ aQ)));obtain⟨us,rv,pl,hz⟩:=I.list (w1 _ _ _ hw);have hlen:=rv.length
  obtain⟨u,hu1,ru⟩:=rv.get (i:=i) (x:=vs[i]) (by simp[D])
  have I0:Inv X pins σ H s:=I.pins_of fun p hp=>I.pin p (aA _ (bJ _ hp))
  refine bZ PySem.F.entry_min_loop ?_
  rw[cu fJ _]
  show wpAny _ X.A.in1 (seqItems? (.ref S) >>= _) _ _ _
  refine aj (bY B rfl ?_)
  show wpAny _ X.A.in1 (tryCatch (pyNext (.ref J)) _ >>= _) _ _ _
  refine aj (dW (iK (A:=X.A.in1) hit pl.isList (x:=u) (by simpa using hu1) fun h' hit' sb=>?_))
  have I1:Inv X pins σ H { s with heap:=h' }:=I0.turned (t':=s.toks) (fun b o hb e=>(sb.2 b hb).trans e) L N (.inr hJ) (fun x c e z=>by
   obtain⟨v,ob,P,C⟩:=I.cell x c e
   rw[z,T]at P;cases P;exact Z v C) (fun p G=>(hp p G).2)
  obtain⟨w,hoJ',hoc,Y⟩:=id hit'
  have I2:Inv X (pins++[(S,{ cls:=.type "list",data:=.seq j.toArray n }),(J,w)]) σ H { s with heap:=h' }:=I1.pins_of fun p K=>by
   rcases bC.mp K with z | z
   ·exact I1.pin p (aA _ z)
   ·rcases aB.mp z with rfl | z
    ·exact⟨(sb.2 S M).trans B,ps2,ps3,ps4,U⟩
    ·rw[aV.mp z]
     exact⟨hoJ',L,N,pj4,fun v q=>by rw[Y]at q;cases q⟩
  show wpAny _ X.A.in1 (tryCatch (holding [u] (call (.ref f) [u])) _ >>= _) _ _ _
  refine aj (dW (bB (aU (A1y (E:=fun _ _=>False) F hr hb I2 (.cons ru .nil) (w2 i vs[i] g H (by simp[D]) hw)) (fun l s3 h3=>?_) fun _ _ z=>z.elim)))
  obtain⟨kx,H3,I3,rk,q3⟩:=h3;obtain⟨t1,t2,t3,t4,t5⟩:=I3.pin (S,{ cls:=.type "list",data:=.seq j.toArray n }) (aA _ (aA _ aQ));obtain⟨j1,j2,j3,j4,j5⟩:=I3.pin (J,w) (aA _ (aA _ (aY _ aQ)));have hit3:s3.heap.IsListIter J a (i+1):=⟨w,j1,hoc,Y⟩
  have O:∀(y:w6),∃n',Inv X (pins++[(S,{ cls:=.type "list",data:=.seq y.toArray n' }),(J,w)]) σ H3 { s3 with heap:=s3.heap.update S (Obj.mapSeq fun _=>y.toArray) }:=fun y=>by
   have q:=gQ t1 (fun _=>y.toArray)
   refine⟨_,I3.recS hS (fun p K=>?_) (fun p K=>(hp p (bJ _ K)).1) q fun v z=>by cases z⟩
   rcases bC.mp K with z | z
   ·exact(hp p (aA _ z)).1
   ·rw[aV.mp z];exact aG M
  have R:∀y:w6,(s3.heap.update S (Obj.mapSeq fun _=>y.toArray)).IsListIter J a (i+1):=fun y=>⟨w,(bH s3.heap _ M).trans j1,hoc,Y⟩
  cases g with
  | none =>
   cases (show j=[] from h)
   obtain⟨n',I4⟩:=O [u,l]
   show wpAny _ X.A.in1 (updateSeq S (fun _=>#[u,l]) >>= _) _ _ _
   refine aj (cU t1 rfl ?_)
   rw[m]
   exact ak ⟨bT fJ _,ih (i+1) (some (vs[i],kx)) [u,l] n' w H3 _ (by lia) D ⟨u,l,rfl,ru,rk⟩ q3 I4 (R [u,l])⟩
  | some b =>
   obtain⟨bx,bk⟩:=b;obtain⟨ub,tb,rfl,rub,rtb⟩:=h;obtain⟨dk,db,r',tk,tdb,fk,fb,ecmp,wn⟩:=q3;obtain⟨as,rdk⟩:=tk.reads I3 rk;obtain⟨bs,rdb⟩:=tdb.reads I3 rtb
   show wpAny _ X.A.in1 (tryCatch (holding [u,l] (richCompare .Lt l tb >>= _)) _ >>= _) _ _ _
   refine aj (dW (bB (aj (Ri false dk db X.A.in1 s3 l tb as bs r' rdk rdb fk.1 fb.1 (by show X.A.units+1+dk.depth<cLine;have:=fk.2;lia) ecmp X.prog X.w _ _ ?_))))
   refine aj (bB (dH ?_))
   refine aj (cQ (ak ?_))
   cases r' with
   | true =>
    obtain⟨n',I4⟩:=O [u,l];simp only[cj]
    refine aj (cU t1 rfl (aj (cQ ?_)))
    rw[m]
    exact ak ⟨bT fJ _,ih (i+1) (some (vs[i],kx)) [u,l] n' w H3 _ (by lia) D ⟨u,l,rfl,ru,rk⟩ wn I4 (R [u,l])⟩
   | false =>
    simp only[cV,bM]
    refine aj (cQ ?_)
    rw[m]
    exact ak ⟨bT fJ _,ih _ (some _) _ n _ _ _ (by lia) D ⟨ub,tb,rfl,rub,rtb⟩ (by simpa using wn) I3 hit3⟩
theorem Av6 (hc:X.calm=true)
 (F:FnOk X.prog X.w X.K X.mg X.base CX0 k f q ps sp) (hr:Room (k+1) X.A) (hb:Binds X.K q ps []) (I:Inv X pins j H s) (B:SqL X.K H a vs) (D:RelV d i) (h:MmW false X.K sp a vs d H Q) :
 wpAny (model X.prog X.w) X.A (call (.builtin "min") [.ref a] [(Str.ofString "key",.ref f),(Str.ofString "default",i)]) (EP X pins j Q) E s:=by
 have c:(toString "min" ++ toString ".loop" : String) = "min.loop" := by decide
 obtain⟨W,K,M,w,G⟩:=h;obtain⟨us,rv,r,hz⟩:=I.list B
 have C:a<s.heap.objs.size:=let ⟨_,e,_⟩:=r.isList; az e
 refine kmk_tree PySem.F.kind_min PySem.F.plain_min PySem.F.entry_min (An7 _ _ _) ?_
 show wpAny _ X.A.in1 (Builtin.Builtins.bindParams "min" ["key", "default"] 0 ⟨[],[(Str.ofString "key",.ref f),(Str.ofString "default",i)]⟩ >>= _) _ _ s
 refine aj (wpAny_of_eq (show Builtin.Builtins.bindParams "min" ["key", "default"] 0 ⟨[],[(Str.ofString "key",.ref f),(Str.ofString "default",i)]⟩=pure [some (.ref f),some i] from rfl) ?_)
 refine aj (ak ?_)
 refine aj (dw r.isList ?_)
 refine aj (gY ?_ (aO _))
 rw[c]
 refine ak ⟨bT fJ _,?_⟩
 generalize hh1:s.heap.push { cls:=.type "list_iterator",data:=.fields #[.ref a,.int 0 0] }=h1
 have g:h1.objs.size=s.heap.objs.size+1:=by rw[<- hh1,bN]
 have t:Inv X pins j H { s with heap:=h1.push { cls:=.type "list",data:=.seq ([]:w6).toArray } }:=I.kept (t':=s.toks) fun b o e=>aF _ (by rw[<- hh1];exact aF _ e)
 have A:∀b o,s.heap.get? b=some o->b≠s.heap.objs.size/\b≠h1.objs.size:=fun b o e=>by have:=az e;rw[g];exact⟨aL this,aL (dU this)⟩
 have m:=I.fpOk (b:=s.heap.objs.size) (aq _) (I.hok.fresh (aq _))
 have l:=I.fpOk (b:=h1.objs.size) (by rw[g];exact dN _) (I.hok.fresh (by rw[g];exact dN _))
 have u:(h1.push { cls:=.type "list",data:=.seq ([]:w6).toArray }).get? s.heap.objs.size=some { cls:=.type "list_iterator",data:=.fields #[.ref a,.int 0 0] }:=aF _ (by rw[<- hh1];exact aJ _ rfl)
 have J:(h1.push { cls:=.type "list",data:=.seq ([]:w6).toArray }).get? h1.objs.size=some { cls:=.type "list",data:=.seq ([]:w6).toArray }:=aJ _ rfl
 refine A8v (S:=h1.objs.size) hc F hr hb D (by rw[g];exact j9 I.sz) I.sz (by rw[g];exact bK (dR _)) (aL C)
  (fun p L=>let ⟨x,y⟩:=A _ _ (I.pin p L).1; ⟨y,x⟩) W M w G _ 0 none _ 0 { cls:=.type "list_iterator",data:=.fields #[.ref a,.int 0 0] } H _ rfl (aO _) rfl K (t.pins_of fun p n=>?_) ⟨_,u,rfl,rfl⟩
 rcases bC.mp n with z | z
 ·exact t.pin p (aA _ z)
 ·rcases aB.mp z with rfl | z
  ·exact⟨J,l.1,l.2.1,l.2.2.1,fun v z=>by cases z⟩
  ·rw[aV.mp z]
   exact⟨u,m.1,m.2.1,m.2.2.1,fun v z=>by cases z⟩
end
section
variable {X:Cx}
theorem Ah1 (a v d:Value):argsOk "max" ⟨[a],[(Str.ofString "key",v),(Str.ofString "default",d)]⟩:=by rfl
theorem Be5 {E:z_} (hc:X.calm=true)
 (F:FnOk X.prog X.w X.K X.mg X.base CX0 k f fd ps sp) (hr:Room (k+1) X.A) (hb:Binds X.K fd ps []) (rd:RelV d ud) (hS:X.s₀.heap.objs.size<=S) (hJ:X.s₀.heap.objs.size<=J) (M:S≠J) (haJ:a≠J)
 (hp:∀p∈X.pn++pins,p.1≠S/\p.1≠J)
 (W:Nat->Option (V×V)->Hp->Prop) (w1:∀i g H,W i g H->SqL X.K H a vs)
 (w2:∀i x g H,vs[i]?=some x->W i g H->sp [x] H (fun l H1=>match g with
  | none=>W (i+1) (some (x,l)) H1
  | some (bx,bk)=>∃dk db r,Tr H1 dk l/\Tr H1 db bk/\Flat dk/\Flat db/\Hi true dk db=some r/\W (i+1) (if r=true then some (x,l) else some (bx,bk)) H1) E0)
 (w3:∀g H,W vs.length g H->Q (match g with | some (x,_)=>x | none=>d) H) :
 ∀
  (r i:Nat) (g:Option (V×V)) (j:w6) (n:Nat) (oJ:Obj) (H:Hp) (s:u_),vs.length-i=r->i<=vs.length->Bt6 g j->W i g H ->
  Inv X (pins++[(S,{ cls:=.type "list",data:=.seq j.toArray n }),(J,oJ)]) O H s->s.heap.IsListIter J a i ->
  codeAny (model X.prog X.w) X.A (.builtin "max.loop" ⟨[.ref J,.ref f,.ref S],[(Str.ofString "default",ud)]⟩) (fun r s'=>match r with | .ok (.ret v)=>EP X pins O Q v s' | .ok _=>False | .error e=>E e s') s:=by
 have m:(toString "max" ++ toString ".loop" : String) = "max.loop" := by decide
 have hu:X.A.units+100<cLine:=by have:=hr.un;lia
 intro r
 induction r with
 | zero =>
  intro i g j n oJ H s hri hi h hw I hit
  have e:i=vs.length:=by lia
  subst e;obtain⟨B,ps2,ps3,ps4,Y⟩:=I.pin (S,{ cls:=.type "list",data:=.seq j.toArray n }) (aA _ (aA _ aQ));obtain⟨U,L,N,pj4,pj5⟩:=I.pin (J,oJ) (aA _ (aA _ (aY _ aQ)));obtain⟨us,rv,pl,hz⟩:=I.list (w1 _ _ _ hw);have hlen:=rv.length
  have I0:Inv X pins O H s:=I.pins_of fun p hp=>I.pin p (aA _ (bJ _ hp))
  refine bZ PySem.F.entry_max_loop ?_
  rw[cu fK _]
  show wpAny _ X.A.in1 (seqItems? (.ref S) >>= _) _ _ _
  refine aj (bY B rfl ?_)
  show wpAny _ X.A.in1 (tryCatch (pyNext (.ref J)) _ >>= _) _ _ _
  refine aj (dW (iM (A:=X.A.in1) (I.ok.hd hc) hit pl.isList (by simp;lia) fun h' eb=>?_))
  have I1:Inv X pins O H { s with heap:=h' }:=I0.turned (t':=s.toks) (fun b o hb e=>eb b o hb e) L N (.inr hJ) (fun x c e z=>by
   obtain⟨v,ob,R,C⟩:=I.cell x c e
   rw[z,U]at R;cases R;exact pj5 v C) (fun p G=>(hp p G).2)
  cases g with
  | none =>
   cases (show j=[] from h)
   show wpAny _ X.A.in1 (rule _ >>= _) _ _ _
   refine aj (cA (ak ?_))
   exact⟨d,H,I1,rd,w3 none H hw⟩
  | some b =>
   obtain⟨bx,bk⟩:=b;obtain⟨u,t,rfl,ru,rt⟩:=h;have ps1':=eb S _ M B
   show wpAny _ X.A.in1 (updateSeq S (fun _=>#[]) >>= _) _ _ _
   refine aj (cU ps1' rfl (aj (cQ (ak ?_))))
   refine⟨bx,H,I1.turned (t':=s.toks) (fun b o hb e=>(bH h' _ (aG hb)).trans e) ps2 ps3 (.inr hS) (fun x c e z=>?_) (fun p G=>(hp p G).1),ru,w3 (some (bx,bk)) H hw⟩
   obtain⟨v,ob,R,C⟩:=I.cell x c e;rw[z,B]at R;cases R;exact Y v C
 | succ r ih =>
  intro i g j n oJ H s hri hi h hw I hit
  have D:i<vs.length:=by lia
  obtain⟨B,ps2,ps3,ps4,Y⟩:=I.pin (S,{ cls:=.type "list",data:=.seq j.toArray n }) (aA _ (aA _ aQ));obtain⟨U,L,N,pj4,pj5⟩:=I.pin (J,oJ) (aA _ (aA _ (aY _ aQ)));obtain⟨us,rv,pl,hz⟩:=I.list (w1 _ _ _ hw);have hlen:=rv.length
  obtain⟨u,hu1,ru⟩:=rv.get (i:=i) (x:=vs[i]) (by simp[D])
  have I0:Inv X pins O H s:=I.pins_of fun p hp=>I.pin p (aA _ (bJ _ hp))
  refine bZ PySem.F.entry_max_loop ?_
  rw[cu fK _]
  show wpAny _ X.A.in1 (seqItems? (.ref S) >>= _) _ _ _
  refine aj (bY B rfl ?_)
  show wpAny _ X.A.in1 (tryCatch (pyNext (.ref J)) _ >>= _) _ _ _
  refine aj (dW (iK (A:=X.A.in1) hit pl.isList (x:=u) (by simpa using hu1) fun h' hit' sb=>?_))
  have I1:Inv X pins O H { s with heap:=h' }:=I0.turned (t':=s.toks) (fun b o hb e=>(sb.2 b hb).trans e) L N (.inr hJ) (fun x c e z=>by
   obtain⟨v,ob,R,C⟩:=I.cell x c e
   rw[z,U]at R;cases R;exact pj5 v C) (fun p G=>(hp p G).2)
  obtain⟨w,hoJ',hoc,Z⟩:=id hit'
  have I2:Inv X (pins++[(S,{ cls:=.type "list",data:=.seq j.toArray n }),(J,w)]) O H { s with heap:=h' }:=I1.pins_of fun p K=>by
   rcases bC.mp K with z | z
   ·exact I1.pin p (aA _ z)
   ·rcases aB.mp z with rfl | z
    ·exact⟨(sb.2 S M).trans B,ps2,ps3,ps4,Y⟩
    ·rw[aV.mp z]
     exact⟨hoJ',L,N,pj4,fun v q=>by rw[Z]at q;cases q⟩
  show wpAny _ X.A.in1 (tryCatch (holding [u] (call (.ref f) [u])) _ >>= _) _ _ _
  refine aj (dW (bB (aU (A1y (E:=fun _ _=>False) F hr hb I2 (.cons ru .nil) (w2 i vs[i] g H (by simp[D]) hw)) (fun l s3 h3=>?_) fun _ _ z=>z.elim)))
  obtain⟨kx,H3,I3,rk,q3⟩:=h3;obtain⟨t1,t2,t3,t4,t5⟩:=I3.pin (S,{ cls:=.type "list",data:=.seq j.toArray n }) (aA _ (aA _ aQ));obtain⟨j1,j2,j3,j4,j5⟩:=I3.pin (J,w) (aA _ (aA _ (aY _ aQ)));have hit3:s3.heap.IsListIter J a (i+1):=⟨w,j1,hoc,Z⟩
  have P:∀(y:w6),∃n',Inv X (pins++[(S,{ cls:=.type "list",data:=.seq y.toArray n' }),(J,w)]) O H3 { s3 with heap:=s3.heap.update S (Obj.mapSeq fun _=>y.toArray) }:=fun y=>by
   have q:=gQ t1 (fun _=>y.toArray)
   refine⟨_,I3.recS hS (fun p K=>?_) (fun p K=>(hp p (bJ _ K)).1) q fun v z=>by cases z⟩
   rcases bC.mp K with z | z
   ·exact(hp p (aA _ z)).1
   ·rw[aV.mp z];exact aG M
  have T:∀y:w6,(s3.heap.update S (Obj.mapSeq fun _=>y.toArray)).IsListIter J a (i+1):=fun y=>⟨w,(bH s3.heap _ M).trans j1,hoc,Z⟩
  cases g with
  | none =>
   cases (show j=[] from h)
   obtain⟨n',I4⟩:=P [u,l]
   show wpAny _ X.A.in1 (updateSeq S (fun _=>#[u,l]) >>= _) _ _ _
   refine aj (cU t1 rfl ?_)
   rw[m]
   exact ak ⟨bT fK _,ih (i+1) (some (vs[i],kx)) [u,l] n' w H3 _ (by lia) D ⟨u,l,rfl,ru,rk⟩ q3 I4 (T [u,l])⟩
  | some b =>
   obtain⟨bx,bk⟩:=b;obtain⟨ub,tb,rfl,rub,rtb⟩:=h;obtain⟨dk,db,r',tk,tdb,fk,fb,ecmp,wn⟩:=q3;obtain⟨as,rdk⟩:=tk.reads I3 rk;obtain⟨bs,rdb⟩:=tdb.reads I3 rtb
   show wpAny _ X.A.in1 (tryCatch (holding [u,l] (richCompare .Gt l tb >>= _)) _ >>= _) _ _ _
   refine aj (dW (bB (aj (Ri true dk db X.A.in1 s3 l tb as bs r' rdk rdb fk.1 fb.1 (by show X.A.units+1+dk.depth<cLine;have:=fk.2;lia) ecmp X.prog X.w _ _ ?_))))
   refine aj (bB (dH ?_))
   refine aj (cQ (ak ?_))
   cases r' with
   | true =>
    obtain⟨n',I4⟩:=P [u,l];simp only[cj]
    refine aj (cU t1 rfl (aj (cQ ?_)))
    rw[m]
    exact ak ⟨bT fK _,ih (i+1) (some (vs[i],kx)) [u,l] n' w H3 _ (by lia) D ⟨u,l,rfl,ru,rk⟩ wn I4 (T [u,l])⟩
   | false =>
    simp only[cV,bM]
    refine aj (cQ ?_)
    rw[m]
    exact ak ⟨bT fK _,ih _ (some _) _ n _ _ _ (by lia) D ⟨ub,tb,rfl,rub,rtb⟩ (by simpa using wn) I3 hit3⟩
theorem Au4 (hc:X.calm=true)
 (F:FnOk X.prog X.w X.K X.mg X.base CX0 k f q ps sp) (hr:Room (k+1) X.A) (hb:Binds X.K q ps []) (I:Inv X pins j H s) (B:SqL X.K H a vs) (D:RelV d i) (h:MmW true X.K sp a vs d H Q) :
 wpAny (model X.prog X.w) X.A (call (.builtin "max") [.ref a] [(Str.ofString "key",.ref f),(Str.ofString "default",i)]) (EP X pins j Q) E s:=by
 have c:(toString "max" ++ toString ".loop" : String) = "max.loop" := by decide
 obtain⟨W,K,M,w,G⟩:=h;obtain⟨us,rv,r,hz⟩:=I.list B
 have C:a<s.heap.objs.size:=let ⟨_,e,_⟩:=r.isList; az e
 refine kmk_tree PySem.F.kind_max PySem.F.plain_max PySem.F.entry_max (Ah1 _ _ _) ?_
 show wpAny _ X.A.in1 (Builtin.Builtins.bindParams "max" ["key", "default"] 0 ⟨[],[(Str.ofString "key",.ref f),(Str.ofString "default",i)]⟩ >>= _) _ _ s
 refine aj (wpAny_of_eq (show Builtin.Builtins.bindParams "max" ["key", "default"] 0 ⟨[],[(Str.ofString "key",.ref f),(Str.ofString "default",i)]⟩=pure [some (.ref f),some i] from rfl) ?_)
 refine aj (ak ?_)
 refine aj (dw r.isList ?_)
 refine aj (gY ?_ (aO _))
 rw[c]
 refine ak ⟨bT fK _,?_⟩
 generalize hh1:s.heap.push { cls:=.type "list_iterator",data:=.fields #[.ref a,.int 0 0] }=h1
 have g:h1.objs.size=s.heap.objs.size+1:=by rw[<- hh1,bN]
 have t:Inv X pins j H { s with heap:=h1.push { cls:=.type "list",data:=.seq ([]:w6).toArray } }:=I.kept (t':=s.toks) fun b o e=>aF _ (by rw[<- hh1];exact aF _ e)
 have A:∀b o,s.heap.get? b=some o->b≠s.heap.objs.size/\b≠h1.objs.size:=fun b o e=>by have:=az e;rw[g];exact⟨aL this,aL (dU this)⟩
 have m:=I.fpOk (b:=s.heap.objs.size) (aq _) (I.hok.fresh (aq _))
 have l:=I.fpOk (b:=h1.objs.size) (by rw[g];exact dN _) (I.hok.fresh (by rw[g];exact dN _))
 have u:(h1.push { cls:=.type "list",data:=.seq ([]:w6).toArray }).get? s.heap.objs.size=some { cls:=.type "list_iterator",data:=.fields #[.ref a,.int 0 0] }:=aF _ (by rw[<- hh1];exact aJ _ rfl)
 have J:(h1.push { cls:=.type "list",data:=.seq ([]:List _).toArray }).get? _=some _:=aJ _ rfl
 refine Be5 hc F hr hb D (by rw[g];exact j9 I.sz) I.sz (by rw[g];exact bK (dR _)) (aL C)
  (fun p L=>let ⟨x,y⟩:=A _ _ (I.pin p L).1; ⟨y,x⟩) W M w G _ 0 none _ 0 { cls:=.type "list_iterator",data:=.fields #[.ref a,.int 0 0] } H _ rfl (aO _) rfl K (t.pins_of fun p n=>?_) ⟨_,u,rfl,rfl⟩
 rcases bC.mp n with z | z
 ·exact t.pin p (aA _ z)
 ·rcases aB.mp z with rfl | z
  ·exact⟨J,l.1,l.2.1,l.2.2.1,fun v z=>by cases z⟩
  ·rw[aV.mp z]
   exact⟨u,m.1,m.2.1,m.2.2.1,fun v z=>by cases z⟩
end
section
variable {X:Cx}{p pos:Pos}{e:Expr}{t tk:TA}{kws:List Keyword}
def tMM (gt:Bool)(K:v8)(f:Addr)(sp:Sp)(t tk:TA):TE:=fun σ H Q=>t σ H fun vs H1=>tk σ H1 fun zs H2=>∃a xs d,vs=[.ref a]/\zs=[.ref f,d]/\SqL K H2 a xs/\MmW gt K sp a xs d H2 Q
theorem A9j (hc:X.calm=true) (F:FnOk X.prog X.w X.K X.mg X.base CX0 k f c ps sp) (hr:Room (k+1) X.A) (hb:Binds X.K c ps []) (hg:Gl X "min") (hm:X.mg "min" = none)
 (ha:PA X [e] t) (hkw:PK X kws tk) (hall:(backToKw pos (keywordEach kws X.env)).all (·.1.isSome)=true:=by rfl) (hks:(backToKw pos (keywordEach kws X.env)).filterMap (·.1)=[Str.ofString "key",Str.ofString "default"]:=by rfl)
 (he:backTo pos (starEach [e] X.env)=(false,eval e X.env)::backTo pos (starEach [] X.env):=by rfl) (hpl:(backTo pos (starEach [e] X.env)).any (·.1)=false:=by rfl) (hno:(backToKw pos (keywordEach kws X.env)).any (·.1.isNone)=false:=by rfl) :
 PE X (.Call (.Name "min" p) [e] kws pos) (tMM false X.K f sp t tk):=by
 intro b s σ H Q I h
 refine fu (Jf I hg hm boot_min ?_ (by decide) (by rfl))
 refine jb (thn (ha _ _ s _ H _ I h) fun us s1 ⟨vs,H1,l,r,q⟩=>?_) he hpl hall hno
 refine thn (hkw _ _ _ _ _ _ l q) fun ws s2 ⟨zs,H2,m,j,n⟩=>?_
 obtain⟨a,xs,d,rfl,rfl,i,v⟩:=n;obtain⟨u,rfl,o⟩:=vals1 r
 cases o
 obtain⟨uf,ud,rfl,w,g⟩:=Vals.two j
 cases w
 rw[hks];exact Av6 hc F hr hb m i g v
theorem Bf6 (hc:X.calm=true) (F:FnOk X.prog X.w X.K X.mg X.base CX0 k f c ps sp) (hr:Room (k+1) X.A) (hb:Binds X.K c ps []) (hg:Gl X "max") (hm:X.mg "max" = none)
 (ha:PA X [e] t) (hkw:PK X kws tk) (hall:(backToKw pos (keywordEach kws X.env)).all (·.1.isSome)=true:=by rfl) (hks:(backToKw pos (keywordEach kws X.env)).filterMap (·.1)=[Str.ofString "key",Str.ofString "default"]:=by rfl)
 (he:backTo pos (starEach [e] X.env)=(false,eval e X.env)::backTo pos (starEach [] X.env):=by rfl) (hpl:(backTo pos (starEach [e] X.env)).any (·.1)=false:=by rfl) (hno:(backToKw pos (keywordEach kws X.env)).any (·.1.isNone)=false:=by rfl) :
 PE X (.Call (.Name "max" p) [e] kws pos) (tMM true X.K f sp t tk):=by
 intro b s σ H Q I h
 refine fu (Jf I hg hm boot_max ?_ (by decide) (by rfl))
 refine jb (thn (ha _ _ s _ H _ I h) fun us s1 ⟨vs,H1,l,r,q⟩=>?_) he hpl hall hno
 refine thn (hkw _ _ _ _ _ _ l q) fun ws s2 ⟨zs,H2,m,j,n⟩=>?_
 obtain⟨a,xs,d,rfl,rfl,i,v⟩:=n;obtain⟨u,rfl,o⟩:=vals1 r
 cases o
 obtain⟨uf,ud,rfl,w,g⟩:=Vals.two j
 cases w
 rw[hks];exact Au4 hc F hr hb m i g v
end
noncomputable def A4j (H:Hp):V->Option Nat
 | .ref p=>match H p with
  | some (.lst xs)=>some xs.length
  | some (.tup xs)=>some xs.length
  | _=>none
 | .str z=>if z.length<=sizeLine then some z.length else none
 | _=>none
def rAppF:V->n7->Hp->VK->Prop:=fun x vs H Q=>∃l y xs,x=.ref l/\vs=[y]/\H l=some (.lst xs)/\xs.length<sizeLine/\Q .non (upd H l (.lst (xs++[y])))
def B3d (K:v8)(tl:TE):TI:=fun σ H R=>tl σ H fun x H1=>∃a,x=.ref a/\((∃xs,H1 a=some (.lst xs)/\R (Itl K a) H1)\/(∃xs,H1 a=some (.tup xs)/\R (Itt K a) H1))
section
variable {X:Cx}
theorem A3t:CallR X (.builtin "len") (fun xs H Q=>∃x n,xs=[x]/\A4j H x=some n/\Q (.int (n:Nat)) H):=by
 intro a s σ H xs us Q I r h;obtain⟨x,n,rfl,e,q⟩:=h
 refine Aq1 _ s _ H _ _ Q I r ⟨x,n,rfl,?_,q⟩
 cases x with
 | ref p =>
  have e:(match H p with | some (.lst _)=>some _ | some (.tup _)=>some _ | _=>none)=some n:=e
  cases hp:H p with
  | none=>simp_all
  | some o =>
   rw[hp]at e
   cases o with
   | lst xs=>cases e;exact .inl ⟨xs,SqL.of hp,rfl⟩
   | tup xs=>cases e;exact .inr ⟨xs,SqT.of hp,rfl⟩
   | _=>grind
 | str z =>
  have e:(if z.length<=sizeLine then some _ else none)=some n:=e
  split at e
  ·cases e;trivial
  trivial
 | _=>cases e
theorem Bm2:MtM X "list.append" rAppF:=by
 intro a s j H x k v m Q I e f h;obtain⟨l,y,d,c,g,i,b,q⟩:=h;exact A3j _ s _ H x _ v _ Q I e f ⟨l,d,y,c,g,i,b,q⟩
theorem By7 (hl:PE X l j):PI X u l (B3d X.K j):=by
 intro k s z H R I h
 refine thn (hl _ s _ H _ I h) fun v d ⟨x,m,c,r,f⟩=>?_
 obtain⟨a,e,f⟩:=f;subst e
 cases r
 rcases f with ⟨t,i,q⟩ | ⟨t,i,q⟩
 ·obtain⟨g,w,p,y⟩:=c.list (SqL.of i)
  refine dw p.isList ?_
  refine⟨d.heap.objs.size,[d.heap.objs.size],_,_,m,rfl,c.kept fun b o e=>aF _ e,A3h a _,⟨_,aJ _ rfl,rfl,rfl⟩,fun b n=>?_,q⟩
  have e:b=d.heap.objs.size:=by grind
  subst e;exact c.fpOk (aq _) (c.hok.fresh (aq _))
 ·obtain⟨g,w,p,y⟩:=c.tuple (SqT.of i)
  refine dX (show d.heap.IsTuple a _ from p) ?_
  refine⟨d.heap.objs.size,[d.heap.objs.size],_,_,m,rfl,c.kept fun b o e=>aF _ e,Av1 a _,⟨_,aJ _ rfl,rfl,rfl⟩,fun b n=>?_,q⟩
  have e:b=d.heap.objs.size:=by grind
  subst e;exact c.fpOk (aq _) (c.hok.fresh (aq _))
noncomputable def Mr (t:String):List String->Option Bool
 | []=>some false
 | T::r=>match Es t T with
  | some true=>some true
  | some false=>Mr t r
  | none=>none
theorem Wm {K:v8}{t:String}:∀{Ts:List String}{b:Bool},Mr t Ts=some b->PySem.W.kitAny K (.type t) (Ts.map Value.type)=some b
 | [],b,h=>h
 | T::r,b,h=>by
  have h:(match Es t T with | some true=>some true | some false=>Mr t r | none=>none)=some b:=h
  show (match PySem.W.kitOne K (.type t) (.type T) with | some true=>some true | some false=>PySem.W.kitAny K (.type t) (r.map Value.type) | none=>none)=some b
  cases e:Es t T with
  | none=>rw[e]at h;cases h
  | some k =>
   rw[e]at h;rw[Ap3 e]
   cases k with
   | true=>exact h
   | false=>exact Wm h
theorem Ao8:∀{Ts:List String}{us:w6},Vals (Ts.map V.ty) us->us=Ts.map Value.type
 | [],_,.nil=>rfl
 | T::r,_,.cons h t=>by
  cases (show _=Value.type T from h)
  rw[Ao8 t]
  rfl
theorem A3c:CallR X (.builtin "isinstance") (fun xs H Q=>∃x p a t b,xs=[x,.ref p]/\H p=some (.tup (a.map V.ty))/\Pb H x=some t/\Mr t a=some b/\Q (.bl b) H):=by
 intro e s σ H xs us Q I r h;obtain⟨x,p,a,t,b,rfl,d,E,j,q⟩:=h;obtain⟨u,v,rfl,k,l⟩:=Vals.two r
 cases (l)
 obtain⟨z,m,w,o,y,A,⟨n,B⟩,C⟩:=I.hok p _ d;have D:=Ao8 w;subst D;obtain⟨F,dd,f,sl⟩:=o;subst A B
 have c:∀g,EP X _ _ Q _ { s with toks:=g }:=fun g=>⟨.bl b,H,I.tok _,rfl,q⟩
 obtain⟨d,z,p,i⟩:=A7r I k E;exact PySem.W.kia_tup z I.kIn p y (Wm j) i c
end
theorem A8h:bootBuiltins "len" = some (.builtin "len"):=by decide +kernel
theorem By6:bootBuiltins "abs" = some (.builtin "abs"):=by decide +kernel
theorem O9:bootBuiltins "isinstance" = some (.builtin "isinstance"):=by decide +kernel
theorem B0v:bootBuiltins "any" = some (.builtin "any"):=by decide +kernel
theorem B0u:bootBuiltins "all" = some (.builtin "all"):=by decide +kernel
theorem B0l:bootBuiltins "sum" = some (.builtin "sum"):=by decide +kernel
theorem Bz7:bootBuiltins "min" = some (.builtin "min"):=by decide +kernel
theorem Au3:bootBuiltins "int" = some (.type "int"):=by decide +kernel
theorem Mx:bootBuiltins "str" = some (.type "str"):=by decide +kernel
theorem Af2:bootBuiltins "bool" = some (.type "bool"):=by decide +kernel
theorem Ve:bootBuiltins "list" = some (.type "list"):=by decide +kernel
theorem Lh:bootBuiltins "tuple" = some (.type "tuple"):=by decide +kernel
theorem B2d:bootBuiltins "set" = some (.type "set"):=by decide +kernel
theorem Dc {X:Cx}{N':v4}{idx:p6}{scope:Scope}(h1:scope.kind=.function:=by exact rfl)(h3:(scope.names.map (·.1)).Nodup:=by decide +kernel)
 (h4:(scope.names.all fun y=>decide (y.2≠.free)||decide (X.env.kindOf y.1=some .cell)||decide (X.env.kindOf y.1=some .free))=true:=by exact rfl) (h5:idx.length=N'.length:=by exact rfl)
 (h6:((idx.zip N').all fun p=>match p.1 with | none=>true | some i=>decide (X.N[i]?=some p.2)&&decide (scope.names.lookup p.2=some .free))=true:=by exact rfl):Km X N' idx scope where
 kind:=h1
 nod:=h3
 free:=fun y hy hf=>by
  have h:=cG.mp h4 y hy;simp only[Bool.or_eq_true,decide_eq_true_eq]at h
  rcases h with (h | h) | h
  ·exact absurd hf h
  ·exact .inl h
  ·exact .inr h
 len:=h5
 at':=fun j i x e1 e2=>by
  have hz:(some i,x)∈idx.zip N':=by
   have:(idx.zip N')[j]?=some (some i,x):=by simp[jc,e1,e2]
   exact bc this
  have h:=cG.mp h6 _ hz;simp only[dJ,decide_eq_true_eq]at h;exact h
noncomputable def Vr:Expr->Option V
 | .Constant (.int i) _ _=>some (.int i)
 | .Constant (.str x) _ _=>some (.str x)
 | .Constant (.bool b) _ _=>some (.bl b)
 | .Constant .none _ _=>some .non
 | _=>none
noncomputable def Ro:v9->Option (n7)
 | []=>some []
 | e::es=>match Vr e,Ro es with
  | some v,some vs=>some (v::vs)
  | _,_=>none
def tK (vs:n7):TA:=fun _ H Q=>Q vs H
theorem A8m (h:Vr e=some v):PE X e (tC v)/\∀es,starEach (e::es) X.env=(false,eval e X.env)::starEach es X.env:=by
 unfold Vr at h
 split at h <;> first
  | (cases h;exact⟨A6i,fun _=>rfl⟩)
  | (cases h;exact⟨A8q,fun _=>rfl⟩)
  | (cases h;exact⟨Bv5,fun _=>rfl⟩)
  | (cases h;exact⟨A9u,fun _=>rfl⟩)
  | cases h
theorem Y8 {X:Cx}:∀{es:v9}{vs:n7},Ro es=some vs->PA X es (tK vs)
 | [],vs,h=>by cases h;exact Wl
 | e::es,vs,h=>by
  have h:(match Vr e,Ro es with | some v,some vs=>some (v::vs) | _,_=>none)=some vs:=h
  cases e1:Vr e with
  | none=>rw[e1]at h;cases h
  | some v =>
   cases e2:Ro es with
   | none=>rw[e1,e2]at h;cases h
   | some r =>
    rw[e1,e2]at h
    cases h
    obtain⟨p1,p2⟩:=A8m (X:=X) e1;exact A1p p1 (Y8 e2) (p2 es)
noncomputable def isStar:Expr->Bool
 | .Starred ..=>true
 | _=>false
noncomputable def noStar:v9->Bool
 | []=>true
 | e::es=>!isStar e&&noStar es
theorem Ge (h:isStar e=false):starEach (e::es) env=(false,eval e env)::starEach es env:=by
 cases e <;> first | rfl | cases h
theorem Lw {pos:Pos}{env:Env}:∀{es:v9},noStar es=true->(backTo pos (starEach es env)).any (·.1)=false
 | [],_=>rfl
 | e::es,h=>by
  obtain⟨h1,h2⟩:=aC.mp h
  rw[Ge (by simpa using h1)]
  show (false||(backTo pos (starEach es env)).any (·.1))=false
  rw[Lw h2]
  rfl
theorem Hg (h:noStar (e::es)=true):isStar e=false/\noStar es=true:=by
 obtain⟨b,a⟩:=aC.mp h
 simp_all
section
variable {X:Cx}{CX:CXT}{k:Nat}{f:Addr}{fd:v_}{ps:v4}{sp:Sp}{dvs:n7}{ds:w6}{E:XK}{x:Str}{p pos:Pos}{e:Expr}{es:v9}{te:TE}{t:TA}{id T:String}{r:n7->Hp->VK->Prop}
theorem Bp9 (ha:PE X e te)(hr:PA X es t)(hs:isStar e=false:=by rfl):PA X (e::es) (Cm te t):=A1p ha hr (Ge hs)
theorem A9k (F:FnOk X.prog X.w X.K X.mg X.base CX k f fd ps sp)(hr:Room k X.A)(hg:Gl X x)(hm:X.mg x=some (.ref f))(hk:PySem.W.keepIn X.K (.ref f)=true)(hb:Binds X.K fd ps ds)(hd:Vals dvs ds)(hx:Vy CX X E)
 (ha:PA X (e::es) t) (hdb:(x==("__debug__" : Str))=false:=by decide) (hn:noStar (e::es)=true:=by rfl):PE X (.Call (.Name x p) (e::es) [] pos) (Al0 sp dvs E t) :=
 Bs5 F hr hg hm hk hb hd hx ha hdb (Ge (Hg hn).1) (Lw (Hg hn).2)
theorem Gg (hc:CallR X (.builtin id) r)(hg:Gl X x)(hm:X.mg x=none)(hv:bootBuiltins x=some (.builtin id))(ha:PA X (e::es) t)(hn:x ≠ "__name__" := by decide) (hdb:(x==("__debug__" : Str))=false:=by decide)
 (hns:noStar (e::es)=true:=by rfl):PE X (.Call (.Name x p) (e::es) [] pos) (tCB r t):=Ba3 hc hg hm hv ha hn hdb (Ge (Hg hns).1) (Lw (Hg hns).2)
theorem J8 (hc:CallR X (.type T) r)(hg:Gl X x)(hm:X.mg x=none)(hv:bootBuiltins x=some (.type T))(ha:PA X (e::es) t)(hn:x ≠ "__name__" := by decide) (hdb:(x==("__debug__" : Str))=false:=by decide)
 (hns:noStar (e::es)=true:=by rfl):PE X (.Call (.Name x p) (e::es) [] pos) (tCB r t):=A4q hc hg hm hv ha hn hdb (Ge (Hg hns).1) (Lw (Hg hns).2)
end
section
variable {X:Cx}{a b e:Expr}{es:v9}{ta tb te:TE}{t:TA}{p pos apos cpos:Pos}
theorem Dj {b:List Keyword}{a:Pos}:Mu (.Call f args b a):=fun _ _=>rfl
theorem G4 {a:Pos}:Mu (.Name x a):=fun _ _=>rfl
theorem Bj {a:Pos}:Mu (.Constant (.int i) j a):=fun _ _=>rfl
theorem A3l : Mu (.Subscript a b c):=fun _ _=>rfl
theorem A7m {b:Pos}:Mu (.UnaryOp op a b):=fun _ _=>rfl
theorem Gd (ha:QE X a ta)(hb:QE X b tb):QE X (.BinOp a .Sub b pos) (tOp (rI0 fun i j=>.int (i-j)) ta tb):=⟨Xq B1l ha.1 hb.1⟩
theorem Js (ha:QE X a ta)(hb:QE X b tb):QE X (.BinOp a .Mult b pos) (tOp (rI CMul fun i j=>.int (i*j)) ta tb):=⟨Xq B1y ha.1 hb.1⟩
theorem Xr (ha:QE X a ta)(hb:QE X b tb):QE X (.BinOp a .FloorDiv b pos) (tOp (rI Br1 fun i j=>.int (i / j)) ta tb):=⟨Xq Bp5 ha.1 hb.1⟩
theorem Ih (ha:QE X a ta)(hb:QE X b tb):QE X (.BinOp a .Mod b pos) (tOp (rI (fun _ j=>0<j) fun i j=>.int (i % j)) ta tb):=⟨Xq By0 ha.1 hb.1⟩
theorem Jv (ha:QE X a ta)(hb:QE X b tb):QE X (.BinOp a .Pow b pos) (tOp (rI Bk3 fun i j=>.int (i ^ j.toNat)) ta tb):=⟨Xq B0n ha.1 hb.1⟩
theorem Tc (ha:QE X a ta)(hb:QE X b tb):QE X (.BinOp a .Mult b pos) (tOp (B2g) ta tb):=⟨Xq Bw6 ha.1 hb.1⟩
def B7a:R2:=fun x y H Q=>∃da db,Tr H da x/\Tr H db y/\Flat da/\Flat db/\Q (.bl (PyData.eqv da db)) H
def B6x:R2:=fun x y H Q=>∃da db,Tr H da x/\Tr H db y/\Flat da/\Flat db/\Q (.bl (!PyData.eqv da db)) H
def B3z:R2:=fun x y H Q=>∃da db r,Tr H da x/\Tr H db y/\Flat da/\Flat db/\Hi false da db=some r/\Q (.bl r) H
theorem Aj2 (ha:QE X a ta)(hb:QE X b tb):QT X (.Compare a [.Lt] [b] pos) (N5 (tOp (rI0 fun i j=>.bl (decide (i<j))) ta tb)):=⟨Jo B5h ha.1 hb.1 (Ku _)⟩
theorem A8b (ha:QE X a ta)(hb:QE X b tb):QE X (.Compare a [.Gt] [b] pos) (tOp (rI0 fun i j=>.bl (decide (j<i))) ta tb):=⟨Qy Bt7 ha.1 hb.1 (Ku _)⟩
theorem A8l (ha:QE X a ta)(hb:QE X b tb):QT X (.Compare a [.Gt] [b] pos) (N5 (tOp (rI0 fun i j=>.bl (decide (j<i))) ta tb)):=⟨Jo Bt7 ha.1 hb.1 (Ku _)⟩
theorem Ba2 (ha:QE X a ta)(hb:QE X b tb):QE X (.Compare a [.GtE] [b] pos) (tOp (rI0 fun i j=>.bl (decide (j<=i))) ta tb):=⟨Qy B5a ha.1 hb.1 (Ku _)⟩
theorem Ow (ha:QE X a ta)(hb:QE X b tb):QT X (.Compare a [.Is] [b] pos) (N5 (tOp (fun x y H Q=>y=.non/\Q (.bl (decide (x=.non))) H) ta tb)):=⟨Jo By5 ha.1 hb.1 (Ku _)⟩
theorem Xf (ha:QE X a ta)(hb:QE X b tb):QT X (.Compare a [.IsNot] [b] pos) (N5 (tOp (fun x y H Q=>y=.non/\Q (.bl (!decide (x=.non))) H) ta tb)):=⟨Jo Bn5 ha.1 hb.1 (Ku _)⟩
theorem A4c (hu:X.A.units+64<cLine)(ha:QE X a ta)(hb:QE X b tb):QE X (.Compare a [.Lt] [b] pos) (tOp (B3z) ta tb):=⟨Qy (B2j hu) ha.1 hb.1 (Ku _)⟩
theorem B3e (ha:QE X a ta):QE X (.UnaryOp .USub a pos) (tUn (rU fun i=>.int (-i)) ta):=⟨B3y B3b ha.1⟩
def Uk (K:v8):n7->Hp->VK->Prop:=fun xs H Q=>∃x n,xs=[x]/\A4j H x=some n/\Q (.int (n:Nat)) H
def As0 (K:v8):n7->Hp->VK->Prop:=fun xs H Q=>∃x n,xs=[x]/\B4e K x H n/\Q (.int n) H
def Qe (K:v8):n7->Hp->VK->Prop:=fun xs H Q=>∃i,xs=[.int i]/\Q (.int (if i<0 then -i else i)) H
theorem Am2 (hgl:Gl X "abs") (hm:X.mg "abs" = none) (ha:PA X (e::es) t) (hns:noStar (e::es)=true:=by rfl):PE X (.Call (.Name "abs" p) (e::es) [] pos) (tCB (Qe X.K) t):=Gg Be7 hgl hm By6 ha (by decide) (by rfl) hns
def Py (K:v8):n7->Hp->VK->Prop:=fun xs H Q=>∃x T t b,xs=[x,.ty T]/\Pb H x=some t/\Es t T=some b/\Q (.bl b) H
theorem Ao3 (hgl:Gl X "isinstance") (hm:X.mg "isinstance" = none) (ha:PA X (e::es) t) (hns:noStar (e::es)=true:=by rfl):PE X (.Call (.Name "isinstance" p) (e::es) [] pos) (tCB (Py X.K) t):=Gg Bd7 hgl hm O9 ha (by decide) (by rfl) hns
def Kc (K:v8):n7->Hp->VK->Prop:=fun xs H Q=>∃x p Ts t b,xs=[x,.ref p]/\H p=some (.tup (Ts.map V.ty))/\Pb H x=some t/\Mr t Ts=some b/\Q (.bl b) H
theorem Ab9 (hgl:Gl X "isinstance") (hm:X.mg "isinstance" = none) (ha:PA X (e::es) t) (hns:noStar (e::es)=true:=by rfl):PE X (.Call (.Name "isinstance" p) (e::es) [] pos) (tCB (Kc X.K) t):=Gg A3c hgl hm O9 ha (by decide) (by rfl) hns
def Nq (K:v8):n7->Hp->VK->Prop:=fun xs H Q=>∃(a:Addr) (bs:List Bool),xs=[.ref a]/\SqL K H a (bs.map V.bl)/\Q (.bl (bs.any id)) H
theorem Af7 (hc:X.calm=true)(hgl:Gl X "any") (hm:X.mg "any" = none) (ha:PA X (e::es) t) (hns:noStar (e::es)=true:=by rfl):PE X (.Call (.Name "any" p) (e::es) [] pos) (tCB (Nq X.K) t):=Gg (A2g hc) hgl hm B0v ha (by decide) (by rfl) hns
def Nj (K:v8):n7->Hp->VK->Prop:=fun xs H Q=>∃(a:Addr) (bs:List Bool),xs=[.ref a]/\SqL K H a (bs.map V.bl)/\Q (.bl (bs.all id)) H
theorem Ae9 (hc:X.calm=true)(hgl:Gl X "all") (hm:X.mg "all" = none) (ha:PA X (e::es) t) (hns:noStar (e::es)=true:=by rfl):PE X (.Call (.Name "all" p) (e::es) [] pos) (tCB (Nj X.K) t):=Gg (A2z hc) hgl hm B0u ha (by decide) (by rfl) hns
def M8 (K:v8):n7->Hp->VK->Prop:=fun xs H Q=>∃(a:Addr) (ns:List Int),xs=[.ref a]/\SqL K H a (ns.map V.int)/\Q (.int ns.sum) H
theorem Zx (hc:X.calm=true)(hgl:Gl X "sum") (hm:X.mg "sum" = none) (ha:PA X (e::es) t) (hns:noStar (e::es)=true:=by rfl):PE X (.Call (.Name "sum" p) (e::es) [] pos) (tCB (M8 X.K) t):=Gg (A5a hc) hgl hm B0l ha (by decide) (by rfl) hns
def N7 (K:v8):n7->Hp->VK->Prop:=fun xs H Q=>(∃i,xs=[.int i]/\Q (.int i) H)\/∃k,xs=[.bl k]/\Q (.int (if k then 1 else 0)) H
theorem Ab3 (hgl:Gl X "int") (hm:X.mg "int" = none) (ha:PA X (e::es) t) (hns:noStar (e::es)=true:=by rfl):PE X (.Call (.Name "int" p) (e::es) [] pos) (tCB (N7 X.K) t):=J8 A4f hgl hm Au3 ha (by decide) (by rfl) hns
def Vq (K:v8):n7->Hp->VK->Prop:=fun xs H Q=>∃i:Int,xs=[.int i]/\i.natAbs.log2<1920/\Q (.str (toString i)) H
def Al6 (K:v8):n7->Hp->VK->Prop:=fun xs H Q=>∃a d,xs=[.ref a]/\Tr H d (.ref a)/\d.showable=true/\d.hasDict=false/\d.depth<=40/\d.shown.length<=sizeLine/\Q (.str d.shown) H
def Jb (K:v8):n7->Hp->VK->Prop:=fun xs H Q=>∃p ys,xs=[.ref p]/\((SqL K H p ys/\∀l,H l=none->Q (.ref l) (upd H l (.tup ys)))\/(SqT K H p ys/\Q (.ref p) H))
theorem S6 (hgl:Gl X "tuple") (hm:X.mg "tuple" = none) (ha:PA X (e::es) t) (hns:noStar (e::es)=true:=by rfl):PE X (.Call (.Name "tuple" p) (e::es) [] pos) (tCB (Jb X.K) t):=J8 Xw hgl hm Lh ha (by decide) (by rfl) hns
def J7 (K:v8):n7->Hp->VK->Prop:=fun xs H Q=>∃p ys,xs=[.ref p]/\(SqL K H p ys\/SqT K H p ys)/\∀l,H l=none->Q (.ref l) (upd H l (.lst ys))
theorem Um (hgl:Gl X "list") (hm:X.mg "list" = none) (ha:PA X (e::es) t) (hns:noStar (e::es)=true:=by rfl):PE X (.Call (.Name "list" p) (e::es) [] pos) (tCB (J7 X.K) t):=J8 Ad4 hgl hm Ve ha (by decide) (by rfl) hns
def Nm (K:v8):n7->Hp->VK->Prop:=fun xs H Q=>∃i j,xs=[.int i,.int j]/\Q (.int (if j<i then j else i)) H
theorem Af6 (hc:X.calm=true)(hgl:Gl X "min") (hm:X.mg "min" = none) (ha:PA X (e::es) t) (hns:noStar (e::es)=true:=by rfl):PE X (.Call (.Name "min" p) (e::es) [] pos) (tCB (Nm X.K) t):=Gg (A4p hc) hgl hm Bz7 ha (by decide) (by rfl) hns
theorem A3s (ho:PE X a ta)(hv:PE X e te)(hbase:attributeBase a "append" X.env (eval a X.env)=eval a X.env:=by rfl)
 (hfew:((backTo cpos (starEach [e] X.env)).all (fun x=>!x.1)&&(backToKw cpos (keywordEach [] X.env)).all (fun x=>x.1.isSome)
  && decide ([e].length+([]:List Keyword).length+(if ([]:List Keyword).isEmpty then 0 else 1)<30))=true:=by rfl)
 (hline:(apos.endLine==cpos.line)=true:=by rfl) (hns:isStar e=false:=by rfl) :
 PE X (.Call (.Attribute a "append" apos) [e] [] cpos) (tBM X.K "list" rAppF ta (Cm te Gm)) :=
 Bw1 gZ PySem.F.slot_list_append PySem.F.type_list_append Bm2 ho (Bp9 hv Wl hns) hbase hfew hline (Ge hns) rfl
end
noncomputable def O7 {α:Type}[DecidableEq α](ks:List α)(k:α):Bool:=ks.any fun x=>decide (x=k)
theorem memB_iff [DecidableEq a] {ks:List a}{k:a}:O7 ks k=true↔k∈ks:=by simp[O7]
theorem memB_snoc [DecidableEq b] {ks:List b}{k a:b}:O7 (ks++[k]) a=(O7 ks a||decide (a=k)):=by
 unfold O7
 grind
def Zu {α:Type}[DecidableEq α](acc:List α)(x:α):List α:=if O7 acc x=true then acc else acc++[x]
def dst {α:Type}[DecidableEq α](xs:List α):List α:=xs.foldl Zu []
theorem Xe [DecidableEq a] (xs:List a) (x:a):dst (xs++[x])=Zu (dst xs) x:=by
 unfold dst;grind
theorem Ab6 {α:Type}[DecidableEq α]:∀(n:Nat) (xs:List α),xs.length=n->(dst xs).length<=n
 | 0,xs,h=>by cases xs with | nil=>exact aq _ | cons a r=>cases h
 | n+1,xs,h=>by
  rcases List.eq_nil_or_concat xs with rfl | ⟨ys,y,rfl⟩
  ·cases h
  ·rw[List.concat_eq_append]at h ⊢
   have hy:ys.length=n:=by simpa using h
   have ih:=Ab6 n ys hy;rw[Xe];unfold Zu;split
   ·lia
   ·simp;lia
noncomputable def keyV:V->Option Key
 | .int i=>some (.inl i)
 | .str x=>some (.inr x)
 | _=>none
theorem Bs8 (h:keyV v=some k) (r:RelV v u):Qs k u=true/\u.scannable=true:=by
 cases v with
 | int i=>cases h;obtain⟨t,rfl⟩:=r;exact⟨Zb i t,rfl⟩
 | str x=>cases h;obtain⟨t,rfl⟩:=r;exact⟨Zc x t,rfl⟩
 | _=>cases h
def Yo (P:u5)(w:World)(a:Addr)(ks:List Key)(h:Heap):Prop:=h.SetOf (Du P w) a (O7 ks) ks.length
noncomputable def Bl4 (P:u5)(w:World)(a:Addr)(ks:List Key):HO:=.ext (Yo P w a ks)
theorem Tz (hs:Yo P w a ks h) (k:∀o,h.get? a=some o->h'.get? a=some o):Yo P w a ks h':=by
 obtain⟨o,c,d,t,e,b⟩:=hs;exact⟨o,c,d,t,k o e,b⟩
theorem A5k 
 (x:h.SetOf (Du P w) a (fun b=>O7 ks b||decide (b=k)) (if O7 ks k then ks.length else ks.length+1)):Yo P w a (Zu ks k) h:=by
 unfold Yo Zu
 by_cases hk:O7 ks k=true
 ·have e:(fun b=>O7 ks b||decide (b=k))=O7 ks:=by
   grind
  simp_all
 ·have e:(fun b=>O7 ks b||decide (b=k))=O7 (ks++[k]):=by
   funext b
   exact memB_snoc.symm
  simp_all
section
variable {P:u5}{w:World}{A:t_}
theorem fill (W:WalksS P w A.in1 J fp h j n Pv E) (p:S∉fp)
 (ks:List Key) (g:ks.length=n) (is:∀i v,Pv i v->∃k,ks[i]?=some k/\Qs k v=true/\v.scannable=true) (Q:n+1<scanBound) (z:u_)
 (G:∀s,Moved (S::h) j z s->Yo P w S (dst ks) s.heap->R (.ok (.ret .none)) s) :
 ∀(m i:Nat) (s:u_),i+m=n->E i s->Moved (S::h) j z s->Yo P w S (dst (ks.take i)) s.heap->codeAny (model P w) A (.builtin "set.update.loop" ⟨[.ref S,.ref J],[]⟩) R s:=by
 have c:S∉h:=fun q=>p (W.sub S q)
 have f:∀b,b∈h->b∈S::h:=fun b q=>.tail _ q
 intro m
 induction m with
 | zero =>
  intro i s e K D r;have e:i=n:=e;subst e;apply bZ jx;rw[cu jd _];apply aj (m:=pyNext (.ref J));apply W.done s _ _ K;intro d a;apply ak
  refine G d (Moved.trans W.gtrans D (a.mono f)) ?_
  have t:ks.take i=ks:=by rw[<- g];exact dz
  rw[t]at r
  exact Tz r fun o q=>a.heap S o c q
 | succ m ih =>
  intro i s e K D r
  have V:i<n:=by lia
  apply bZ jx;rw[cu jd _];apply aj (m:=pyNext (.ref J));apply W.item i s _ _ V K;intro v d Z F a;obtain⟨k,U,O,X⟩:=is i v Z;have H:Moved (S::h) j z d:=Moved.trans W.gtrans D (a.mono f)
  show wpAny _ A.in1 (holding [v] (setAdd S v) >>= _) _ _ d
  apply aj;apply bB;unfold setAdd;apply bB;apply aj
  refine (Du P w).pyHash (k:=k) O ?_
  have l:(dst (ks.take i)).length+1<scanBound:=by
   have:=Ab6 _ (ks.take i) rfl
   have:(ks.take i).length<=n:=by rw[<- g];exact List.length_take_le' _ _
   lia
  have tk:ks.take (i+1)=ks.take i++[k]:=by rw[List.take_add_one,U];rfl
  have T:∀(B:Nat),d.toks<=B->wpAny (model P w) A.in1 (setAddHashed S v ((Du P w).hash k)) (fun _ u=>Moved (S::h) j z u/\Yo P w S (dst (ks.take (i+1))) u.heap/\E (i+1) u) (fun _ _=>False) { d with toks:=B }:=by
   intro B N
   refine wpAny_setAddHashed_of (knd:=Du P w) (s:={ d with toks:=B }) O X (Tz r fun o q=>a.heap S o c q) l fun Y M so=>?_
   refine⟨Moved.then_heap H N fun b o q x=>?_,?_,W.frame (i+1) d Y _ F N fun b q o x=>?_⟩
   ·rw[M.2 b fun y=>q (y▸.head _)];exact x
   ·rw[tk,Xe];exact A5k so
   ·rw[M.2 b fun y=>p (y▸q)];exact x
  refine aU (T _ (dN _)) (fun b u y=>?_) fun _ _ q=>q.elim
  obtain⟨I,L,C⟩:=y
  exact ak ⟨bT jd _,ih _ _ (by lia) C I L⟩
noncomputable abbrev bare (led:Bool):Obj:={ cls:=.type "set",dict:=none,data:=.set #[] 0 (.fresh 0 0 led) }
abbrev Jp (s:u_)(led:Bool):u_:={ s with heap:=s.heap.push (bare led) }
theorem Wv (s:u_)(led:Bool):(Jp s led).heap.get? s.heap.objs.size=some (bare led):=aJ _ rfl
abbrev A8g (P:u5)(w:World)(A:t_)(R:Result->u_->Prop)(f:Fin)(z:u_):Prop:=match f with
 | .done f=>R (.ok f) z
 | .again c=>c.quiet=true/\codeAny (model P w) A c R z
theorem A7u (Z:u_->Prop) (hZ:∀z,Z z->Q (.ref s.heap.objs.size) z)
 (body:∀b:Bool,wpAny (model P w) A.in1.in1 (Builtin.«set.__init__» ⟨[.ref s.heap.objs.size,a],[]⟩) (A8g P w A.in1 (wants (fun r z=>r=.none/\Z z) E)) (fun e z=>wants (fun r z=>r=.none/\Z z) E (.error e) z) (Jp s b)) :
 wpAny (model P w) A (call (.type "set") [a]) Q E s:=by
 have tc:=F.called_set;obtain⟨c0,cs,mro⟩:=tc.mro;have f1:=tc.made;have f2:=tc.sub;have f3:=tc.notType;have f4:=tc.canCreate;have f5:=F.typeCall_set_1 a;apply wpAny_call;apply codeAny_of_tree
 show wpAny _ _ (callAny (.type "set") ⟨[a],[]⟩) _ _ _
 refine ak (And.intro (Code.quiet_builtin _ (by decide +kernel)) (bZ F.entry_type_call ?_))
 rw[Around.under_plain (weight_type_call_type "set" [a] []) rfl]
 repeat any_goals first | wp_step | assumption
 have made:=code_set_new_1 (prog:=P) (w:=w) (A:=A.in1) (E:=E) (s:=s) a (Q₁:=fun o z=>∃b,o=.ref s.heap.objs.size/\z=Jp s b) fun b=>⟨b,rfl,rfl⟩
 refine eN made fun r z hz=>?_
 rcases r with (_ | f)
 ·exact hz
 cases f with
 | ret o =>
  obtain⟨b,rfl,rfl⟩:=hz;have ty:Shared.TypeIs (Jp s b) (.ref s.heap.objs.size) "set" := ⟨_,Wv s b,rfl⟩;have f6:=tc.init.lookup;have f7:=tc.init.bind (.ref s.heap.objs.size)
  repeat any_goals first | wp_step | assumption
  refine eN (codeAny_call_builtin (R:=wants (fun r z=>r=.none/\Z z) E) tc.init.plain F.entry_set_init (check_set_init_1 (a:=a) ty (body b))) fun r z hz=>?_
  rcases r with (_ | f)
  ·exact hz
  cases f with
  | ret o =>
   obtain⟨rfl,hz⟩:=hz
   repeat any_goals first | wp_step | assumption
   exact hZ _ hz
  | _=>exact hz.elim
 | _=>exact hz.elim
theorem Au0 {a:w6} (g:A.handled=none) (hl:s.heap.IsList l a.toArray)
 (is:∀(i:Nat) (v:Value),a[i]?=some v->∃k,ks[i]?=some k/\Qs k v=true/\v.scannable=true) (hlen:ks.length=a.length) (few:a.length+1<scanBound)
 (fin:∀d tk,Yo P w s.heap.objs.size (dst ks) d->(∀b o,s.heap.get? b=some o->d.get? b=some o)->Q (.ref s.heap.objs.size) { s with heap:=d,toks:=tk }) :
 wpAny (model P w) A (call (.type "set") [.ref l]) Q E s:=by
 refine A7u (fun z=>∃d tk,z={ s with heap:=d,toks:=tk }/\Yo P w s.heap.objs.size (dst ks) d/\∀b o,s.heap.get? b=some o->d.get? b=some o) ?_ fun c=>?_
 ·rintro z ⟨d,tk,rfl,q1,q2⟩
  exact fin d tk q1 q2
 have here:=Wv s c;have hl2:(Jp s c).heap.IsList l a.toArray:=hl.push _;obtain⟨ob,g1,g2,n,g3⟩:=hl2;obtain⟨_,dct,_,sls⟩:=ob
 dsimp only at g2 g3
 subst g2 g3;have w1:=F.sub_list_set;have w2:=F.sub_list_frozenset
 have w3:(Value.type "list" == Value.type "dict")=false:=by decide
 have hl3:(Jp s c).heap.IsList l a.toArray:=⟨_,g1,rfl,n,rfl⟩;unfold Builtin.«set.__init__» Builtin.Frozenset.updateFrom noKeywords;generalize walk:pyIter=itr
 wp_walk
 subst walk;apply dw hl3;apply aj;apply wpAny_runValue
 have lt:l<s.heap.objs.size:=by obtain⟨o,e,_⟩:=hl;exact az e
 have sz:(Jp s c).heap.objs.size=s.heap.objs.size+1:=bN _ _
 have f:A.in1.in1.in1.handled=none:=by simp[g]
 have apart:l≠(Jp s c).heap.objs.size:=by rw[sz];exact aL (dU lt)
 have wk:=(Walks.list (prog:=P) (w:=w) f _ l apart a.toArray).toS
 refine fill wk (S:=s.heap.objs.size) ?_ ks (by simpa using hlen) (fun i v p=>is i v (by simpa using p)) (by simpa using few) _ ?_ a.length 0 _ (by simp) ⟨⟨_,aJ _ rfl,rfl,rfl⟩,hl3.push _⟩ (Moved.refl wk.grefl) ?_
 ·rw[sz]
  intro q
  rcases aB.mp q with q | q
  ·exact aL (dR _) q
  ·exact bK lt (aV.mp q)
 ·intro z mv sh
  obtain⟨d,g',d',t',o'⟩:=z;have e1:g'=s.gens:=mv.gens;have e2:d'=s.drawn:=mv.drawn;have e3:o'=s.os:=mv.os;subst e1 e2 e3;apply ak
  show wpAny _ _ (ret Value.none) _ _ _
  refine ak ⟨rfl,d,t',rfl,sh,fun b o q=>mv.heap b o ?_ (aF _ (aF _ q))⟩
  have bl:=az q;intro m
  rcases aB.mp m with m | m
  ·exact aL bl m
  ·have m:=aV.mp m
   rw[sz]at m;exact aL (dU bl) m
 ·have new:((Jp s c).heap.push { cls:=.type "list_iterator",data:=.fields #[.ref l,.int 0 0] }).get? s.heap.objs.size=some (bare c):=aF _ here
  have e:O7 ([]:List Key)=fun _=>false:=rfl
  show Heap.SetOf (Du P w) _ _ (O7 []) 0
  rw[e]
  exact⟨_,_,_,_,new,⟨rfl,rfl,rfl⟩,rfl,fun x m=>by simp at m,fun k=>by simp,by decide,by cases c <;> rfl,rfl⟩
end
section
variable {X:Cx}
def Zr (P:u5)(w:World)(K:v8):n7->Hp->VK->Prop:=fun xs H Q=>∃(a:Addr) (vs:n7) (ks:List Key),xs=[.ref a]/\SqL K H a vs/\vs.map keyV=ks.map some/\vs.length<1000/\∀p,H p=none->Q (.ref p) (upd H p (Bl4 P w p (dst ks)))
def Rn (P:u5)(w:World):n7->Hp->VK->Prop:=fun xs H Q=>∃(p:Addr) (ks:List Key),xs=[.ref p]/\H p=some (Bl4 P w p ks)/\ks.length<1000/\Q (.int (ks.length:Nat)) H
theorem A3r (hc:X.calm=true):CallR X (.type "set") (Zr X.prog X.w X.K):=by
 intro l s σ H xs us Q I r h;obtain⟨a,d,b,rfl,B,p,hv,q⟩:=h;obtain⟨u,rfl,f⟩:=vals1 r
 cases (show u=Value.ref a from f)
 obtain⟨D,c,t,hz⟩:=I.list B
 have j:b.length=d.length:=by have:=cY List.length p;simpa using this.symm
 refine Au0 (ks:=b) (I.ok.hd hc) t.isList (fun i v e=>?_) (by rw[j,c.length]) (by rw[<- c.length];unfold scanBound;lia) fun h' tk m A=>?_
 ·have w:i<d.length:=by have:=(aZ.mp e).1;rw[c.length];exact this
  have g:i<b.length:=by lia
  obtain⟨u,n,f⟩:=c.get (i:=i) (x:=d[i]) (by simp[w])
  rw[e]at n
  cases n
  have C:keyV d[i]=some b[i]:=by
   have:=cY (fun z=>z[i]?) p
   grind
  exact⟨b[i],by simp[g],Bs8 C f⟩
 ·have k:z9 X.prog X.w (upd H s.heap.objs.size (Bl4 X.prog X.w s.heap.objs.size (dst b))) _ _ (Bl4 _ _ _ _) :=
   ⟨m,let ⟨o,_,_,_,e,_⟩:=m; ⟨o,e⟩,fun h1 h2 x y=>Tz x y⟩
  exact⟨.ref _,_,I.laid A (aq _) k,rfl,q _ (I.hok.fresh (aq _))⟩
theorem Aj0:CallR X (.builtin "len") (Rn X.prog X.w):=by
 intro a s σ H xs us Q I r h;obtain⟨p,ks,rfl,d,hn,q⟩:=h;obtain⟨u,rfl,f⟩:=vals1 r
 cases (f)
 obtain⟨⟨o,es,ep,t,e,c,g,x3,x4,x5,i,b⟩,_⟩:=I.hok p _ d
 refine call_len_set e c g i (by lia) ?_
 rw[b];exact⟨.int _,H,I.tok _ |>.tok _,⟨_,rfl⟩,q⟩
theorem A3n (hc:X.calm=true) (hgs:Gl X "set") (hms:X.mg "set" = none) (hgl:Gl X "len") (hml:X.mg "len" = none) (he:PE X e c) (hns:isStar e=false:=by rfl) :
 PE X (.Call (.Name "len" p) [.Call (.Name "set" d) [e] [] a] [] b) (tCB (Rn X.prog X.w) (Cm (tCB (Zr X.prog X.w X.K) (Cm c Gm)) Gm)) :=
 Gg Aj0 hgl hml A8h (Bp9 (J8 (A3r hc) hgs hms B2d (Bp9 he Wl hns) (by decide) (by rfl) (by show !isStar e&&true=true;grind)) Wl rfl) (by decide) (by rfl) rfl
end
section
variable {P:u5}{w:World}{A:t_}{E:z_}{s:u_}
theorem Ue (a:s.heap.IsTupleIter j u k)
 (body:wpAny (model P w) A.in1 (Builtin.«tuple_iterator.__next__» ⟨[.ref j],[]⟩) (fun f z=>∃v,f=.done (.ret v)/\Q v z) E s) :
 wpAny (model P w) A (Builtin.SmallTypes.nextOf (.ref j)) Q E s:=by
 apply aj
 refine cP a.typeIs F.slot_tuple_iterator_next ?_
 refine bQ F.slot_tuple_iterator_next a.typeIs F.entry_tuple_iterator_next ?_ (F.args_tuple_iterator_next_1 _)
 refine aU body (fun f z c=>?_) fun _ _ q=>q
 obtain⟨v,b,q⟩:=c;exact⟨v,b,ak q⟩
theorem Aw6 (c:s.heap.IsTupleIter j u k) (g:s.heap.IsTuple u vs) (hx:vs[k]?=some x)
 (q:∀h',h'.IsTupleIter j u (k+1)->Heap.SameBut j s.heap h'->Q x { s with heap:=h' }):wpAny (model P w) A (Builtin.SmallTypes.nextOf (.ref j)) Q E s:=by
 refine Ue c ?_
 obtain⟨o,d,f,b⟩:=c;obtain⟨i,h,_,n,e⟩:=g;apply aj (m:=field _ 0);apply bw d b rfl;apply aj ;apply bw d b rfl;apply aj ;apply bY h e;simp only[hx,gm];apply aj
 apply wpAny_setField d b (by simp)
 apply ak
 refine⟨x,rfl,q _ ⟨_,(cT (Obj.mapFields fun a=>a.setIfInBounds 1 (rawInt (k+1))) d (je (gn b _))),(Obj.cls_mapFields ..).trans f,?_⟩ (bU ..)⟩
 rw[gn b]
 trivial
theorem A4l (c:A.handled=none) (d:s.heap.IsTupleIter j u k) (h:s.heap.IsTuple u vs) (hx:vs[k]?=none)
 (q:∀h' e,Heap.ExtBut j s.heap h'->(∃o,h'.get? e=some o/\o.cls=.type "StopIteration")->E (.ref e) { s with heap:=h' }):wpAny (model P w) A (Builtin.SmallTypes.nextOf (.ref j)) Q E s:=by
 refine Ue d ?_
 obtain⟨o,f,r,g⟩:=d;obtain⟨t,i,_,n,l⟩:=h;apply aj (m:=field (.ref j) 0);apply bw f g (x:=.ref u) rfl;have p:¬ ((Value.ref u==Value.none)=true):=bu
 show wpAny _ _ (if (Value.ref u==.none)=true then _ else _) _ _ _
 rw[if_neg p];apply aj (m:=field (.ref j) 1);apply bw f g (x:=.int k 0) rfl;apply aj (m:=seqItems? (.ref u));apply bY i l;simp only[hx,gm];apply aj;apply cA;apply aj
 apply wpAny_setField f g (by simp)
 apply aj (m:=newExc (.type "StopIteration") []);unfold newExc newTuple;apply aj
 refine cD ?_ (by size_fits )
 apply aj (m:=firstArgMember _ _)
 refine wpAny_of_eq (a:=Value.none) (by simp only[firstArgMember];rfl) ?_
 refine cD ?_ (by size_fits )
 unfold raiseNew;apply aj;apply wpAny_handled;have b:A.in1.handled=none:=c;rw[b]
 refine aj (ak ?_)
 apply wpAny_throw;exact q _ _ (((bU ..).extBut.push _).push _) ⟨_,aJ _ rfl,rfl⟩
def ItAt (t:Bool)(h:Heap)(j u:Addr)(k:Nat):Prop:=match t with
 | true=>h.IsTupleIter j u k
 | false=>h.IsListIter j u k
def SqA (t:Bool)(h:Heap)(u:Addr)(vs:v6):Prop:=match t with
 | true=>h.IsTuple u vs
 | false=>h.IsList u vs
theorem ItAt.stay (x:ItAt t h j u k) (q:∀o,h.get? j=some o->h'.get? j=some o):ItAt t h' j u k:=by
 cases t <;> (obtain⟨o,e,r⟩:=x;exact⟨o,q o e,r⟩)
theorem ItAt.obj (x:ItAt t h j u k):∃o,h.get? j=some o/\o.data=.fields #[.ref u,.int k 0]:=by
 cases t <;> (obtain⟨o,e,_,r⟩:=x;grind)
theorem SqA.stay (x:SqA t h u vs) (q:∀o,h.get? u=some o->h'.get? u=some o):SqA t h' u vs:=by
 cases t <;> (obtain⟨o,e,r⟩:=x;exact⟨o,q o e,r⟩)
theorem next_item (a:ItAt t s.heap j u k) (b:SqA t s.heap u vs) (hx:vs[k]?=some x)
 (q:∀h',ItAt t h' j u (k+1)->Heap.SameBut j s.heap h'->Q x { s with heap:=h' }):wpAny (model P w) A (Builtin.SmallTypes.nextOf (.ref j)) Q E s:=by
 cases t
 ·exact wpAny_nextOf_list_item a b hx q
 ·exact Aw6 a b hx q
theorem next_end (c:A.handled=none) (a:ItAt t s.heap j u k) (b:SqA t s.heap u vs) (hx:vs[k]?=none)
 (q:∀h' e,Heap.ExtBut j s.heap h'->(∃o,h'.get? e=some o/\o.cls=.type "StopIteration")->E (.ref e) { s with heap:=h' }):wpAny (model P w) A (Builtin.SmallTypes.nextOf (.ref j)) Q E s:=by
 cases t
 ·exact wpAny_nextOf_list_end c a b hx q
 ·exact A4l c a b hx q
structure ZipAt (h:Heap) (t1 t2:Bool) (z ti to i1 i2 a b:Addr) (f0:Value) (k:Nat):Prop where
 zip:IsZip h z ti to f0
 ins:IsPair h ti (.ref i1) (.ref i2)
 outs:∃u v,IsPair h to u v
 one:ItAt t1 h i1 a k
 two:ItAt t2 h i2 b k
structure z7 (z ti to i1 i2 a b:Addr):Prop where
 nd:[z,ti,to,i1,i2].Nodup
 na:a∉[z,ti,to,i1,i2]
 nb:b∉[z,ti,to,i1,i2]
theorem z7.z_ti (x:z7 z ti to i1 i2 a b):ti≠z:=by have:=x.nd;grind
theorem z7.z_to (x:z7 z ti to i1 i2 a b):to≠z:=by have:=x.nd;grind
theorem z7.z_i1 (x:z7 z ti to i1 i2 a b):i1≠z:=by have:=x.nd;grind
theorem z7.z_i2 (x:z7 z ti to i1 i2 a b):i2≠z:=by have:=x.nd;grind
theorem z7.to_i1 (x:z7 z ti to i1 i2 a b):to≠i1:=by have:=x.nd;simp_all
theorem z7.to_i2 (x:z7 z ti to i1 i2 a b):to≠i2:=by have:=x.nd;simp_all
theorem z7.i1_i2 (x:z7 z ti to i1 i2 a b):i1≠i2:=by have:=x.nd;simp_all
theorem z7.ti_to (x:z7 z ti to i1 i2 a b):ti≠to:=by have:=x.nd;simp_all
theorem z7.ti_i1 (x:z7 z ti to i1 i2 a b):ti≠i1:=by have:=x.nd;simp_all
theorem z7.ti_i2 (x:z7 z ti to i1 i2 a b):ti≠i2:=by have:=x.nd;simp_all
theorem Ai2 {Q:z_}(d:z7 z j h r t a b) (y:ZipAt s.heap t1 t2 z j h r t a b .none k)
 (ha:SqA t1 s.heap a xs) (hb:SqA t2 s.heap b ys) (hx:xs[k]?=some x) (O:ys[k]?=some x')
 (q:∀h',ZipAt h' t1 t2 z j h r t a b (rawInt s.heap.objs.size) (k+1)->IsPair h' s.heap.objs.size x x'->(∀c o,c∉[z,j,h,r,t]->s.heap.get? c=some o->h'.get? c=some o)->Q (.ref s.heap.objs.size) { s with heap:=h' }) :
 wpAny (model P w) A (Builtin.«zip.__next__» ⟨[.ref z],[]⟩) (fun f z=>∃v,f=.done (.ret v)/\Q v z) E s:=by
 obtain⟨u0,N,o0⟩:=y.outs;have S:=d.na;have I:=d.nb;simp only[aB,bf,bh,not_or]at S I;apply aj (m:=field (.ref z) 2);apply bw y.zip rfl (x:=.bool false) rfl;apply aj (m:=field (.ref z) 3);apply bw y.zip rfl (x:=.ref j) rfl;apply aj;apply bY y.ins rfl;apply aj (m:=Builtin.SmallTypes.ownedTupleIsFree (.ref z));unfold Builtin.SmallTypes.ownedTupleIsFree;apply aj;apply bw y.zip rfl (x:=.none) rfl;apply ak;simp only[cj];apply aj;apply cA;apply aj;apply bw y.zip rfl (x:=.ref h) rfl;apply aj
 apply eV y.zip (by simp)
 intro g1 L n;have L:IsZip g1 z j h .ellipsis:=L;apply aj;simp only[List.zipIdx_cons,List.zipIdx_nil,eQ,gq];apply aj;apply aj;apply g_;apply aj (m:=Builtin.SmallTypes.nextOf (.ref r))
 refine next_item (y.one.stay fun o e=>n.extBut _ _ d.z_i1 e) (ha.stay fun o e=>n.extBut _ _ S.1 e) hx fun g2 n1 u=>?_
 apply ak;have V:IsPair g2 h u0 N:=u.extBut _ _ d.to_i1 (n.extBut _ _ d.z_to o0);apply aj;apply bY V rfl;apply aj;apply jf V;intro g3 R B;have R:IsPair g3 h x N:=R;apply aj;apply cQ;apply ak;apply aj;apply aj;apply g_;apply aj (m:=Builtin.SmallTypes.nextOf (.ref t))
 refine next_item (y.two.stay fun o e=>B.extBut _ _ d.to_i2.symm (u.extBut _ _ d.i1_i2.symm (n.extBut _ _ d.z_i2 e))) (hb.stay fun o e=>B.extBut _ _ I.2.2.1 (u.extBut _ _ I.2.2.2.1 (n.extBut _ _ I.1 e))) O fun g4 n2 D=>?_
 apply ak;have U:IsPair g4 h x N:=D.extBut _ _ d.to_i2 R;apply aj;apply bY U rfl;apply aj;apply jf U;intro i K F;have K:IsPair i h x x':=K;apply aj;apply cQ;apply ak;apply ak;apply aj;apply bY K rfl;apply aj
 refine wpAny_newTuple ?_
 have W:i.objs.size=s.heap.objs.size:=by rw[F.1,D.1,B.1,u.1,n.1]
 have l:∀c o,c≠z->c≠h->c≠r->c≠t->s.heap.get? c=some o->i.get? c=some o:=fun c o p1 T p3 p4 e=>F.extBut _ _ T (D.extBut _ _ p4 (B.extBut _ _ T (u.extBut _ _ p3 (n.extBut _ _ p1 e))))
 have Y:IsZip i z j h .ellipsis:=F.extBut _ _ d.z_to.symm (D.extBut _ _ d.z_i2.symm (B.extBut _ _ d.z_to.symm (u.extBut _ _ d.z_i1.symm L)))
 have m1:ItAt t1 i r a (k+1):=n1.stay fun o e=>F.extBut _ _ d.to_i1.symm (D.extBut _ _ d.i1_i2 (B.extBut _ _ d.to_i1.symm e))
 have m2:ItAt t2 i t b (k+1):=n2.stay fun o e=>F.extBut _ _ d.to_i2.symm e
 apply aj (m:=Builtin.SmallTypes.ownedTupleHandOut (.ref z) (.ref i.objs.size));unfold Builtin.SmallTypes.ownedTupleHandOut;have z6:IsZip (i.push { cls:=.type "tuple",data:=.seq #[x,x'] }) z j h .ellipsis:=aF _ Y;apply aj
 apply eV z6 (by simp)
 intro g7 M X;have M:IsZip g7 z j h (rawInt i.objs.size):=M
 apply eV M (by simp)
 intro H J Z;have J:IsZip H z j h (rawInt i.objs.size):=J
 have g:∀c o,c≠z->i.get? c=some o->H.get? c=some o:=fun c o p e=>Z.extBut _ _ p (X.extBut _ _ p (aF _ e))
 have G:z<i.objs.size:=az Y;have C:IsPair H i.objs.size x x':=Z.extBut _ _ (bK G) (X.extBut _ _ (bK G) (aJ _ rfl));rw[W]at J C;apply ak
 refine⟨_,rfl,?_⟩
 show Q (.ref i.objs.size) _
 rw[W]
 refine q H ⟨J,g _ _ d.z_ti (l _ _ d.z_ti d.ti_to d.ti_i1 d.ti_i2 y.ins),⟨x,x',g _ _ d.z_to K⟩,m1.stay fun o e=>g _ _ d.z_i1 e,m2.stay fun o e=>g _ _ d.z_i2 e⟩ C fun c o p e=>?_
 simp at p
 exact g c o p.1 (l c o p.1 p.2.2.1 p.2.2.2.1 p.2.2.2.2 e)
theorem Aj4 (f:A.handled=none) (d:z7 z l j v C a b) (y:ZipAt s.heap t1 t2 z l j v C a b .none k)
 (ha:SqA t1 s.heap a xs) (hb:SqA t2 s.heap b ys) (hx:xs[k]?=none\/ys[k]?=none)
 (q:∀h' e,(∀c o,c∉[z,l,j,v,C]->s.heap.get? c=some o->h'.get? c=some o)->(∃o,h'.get? e=some o/\o.cls=.type "StopIteration")->E (.ref e) { s with heap:=h' }) :
 wpAny (model P w) A (Builtin.«zip.__next__» ⟨[.ref z],[]⟩) F E s:=by
 obtain⟨T,V,S⟩:=y.outs;have I:=d.na;have B:=d.nb;simp only[aB,bf,bh,not_or]at I B;apply aj (m:=field (.ref z) 2);apply bw y.zip rfl (x:=.bool false) rfl;apply aj (m:=field (.ref z) 3);apply bw y.zip rfl (x:=.ref l) rfl;apply aj;apply bY y.ins rfl;apply aj (m:=Builtin.SmallTypes.ownedTupleIsFree (.ref z));unfold Builtin.SmallTypes.ownedTupleIsFree;apply aj;apply bw y.zip rfl (x:=.none) rfl;apply ak;simp only[cj];apply aj;apply cA;apply aj;apply bw y.zip rfl (x:=.ref j) rfl;apply aj
 apply eV y.zip (by simp)
 intro U u g;have u:IsZip U z l j .ellipsis:=u;apply aj;simp only[List.zipIdx_cons,List.zipIdx_nil,eQ,gq];apply aj;apply aj;apply g_;apply aj (m:=Builtin.SmallTypes.nextOf (.ref v))
 cases e1:xs[k]? with
 | none =>
  refine next_end f (y.one.stay fun o e=>g.extBut _ _ d.z_i1 e) (ha.stay fun o e=>g.extBut _ _ I.1 e) e1 fun H x i K=>?_
  obtain⟨D,r,t⟩:=K;have Q:IsZip H z l j .ellipsis:=i _ _ d.z_i1.symm u
  have G:x≠z:=fun e=>by subst e;rw[Q]at r;cases r;simp at t
  apply eV Q (by simp)
  intro N _ n
  refine q N x (fun c o p e=>?_) ⟨D,n.extBut _ _ G r,t⟩
  simp only[aB,bf,bh,not_or]at p;exact n.extBut _ _ p.1 (i _ _ p.2.2.2.1 (g.extBut _ _ p.1 e))
 | some x =>
  have Y:ys[k]?=none:=by
   rcases hx with h | h
   ·rw[e1]at h;cases h
   ·exact h
  refine next_item (y.one.stay fun o e=>g.extBut _ _ d.z_i1 e) (ha.stay fun o e=>g.extBut _ _ I.1 e) e1 fun H n1 i=>?_
  apply ak;have O:IsPair H j T V:=i.extBut _ _ d.to_i1 (g.extBut _ _ d.z_to S);apply aj;apply bY O rfl;apply aj;apply jf O;intro N Z n;apply aj;apply cQ;apply ak;apply aj;apply aj;apply g_;apply aj (m:=Builtin.SmallTypes.nextOf (.ref C))
  refine next_end f (y.two.stay fun o e=>n.extBut _ _ d.to_i2.symm (i.extBut _ _ d.i1_i2.symm (g.extBut _ _ d.z_i2 e))) (hb.stay fun o e=>n.extBut _ _ B.2.2.1 (i.extBut _ _ B.2.2.2.1 (g.extBut _ _ B.1 e))) Y fun W x M J=>?_
  obtain⟨D,r,t⟩:=J;have R:IsZip W z l j .ellipsis:=M _ _ d.z_i2.symm (n.extBut _ _ d.z_to.symm (i.extBut _ _ d.z_i1.symm u))
  have G:x≠z:=fun e=>by subst e;rw[R]at r;cases r;simp at t
  apply eV R (by simp)
  intro X _ L
  refine q X x (fun c o p e=>?_) ⟨D,L.extBut _ _ G r,t⟩
  simp only[aB,bf,bh,not_or]at p;exact L.extBut _ _ p.1 (M _ _ p.2.2.2.2 (n.extBut _ _ p.2.2.1 (i.extBut _ _ p.2.2.2.1 (g.extBut _ _ p.1 e))))
end
section
variable {X:Cx}{pins:y_}{σ:St}{H:Hp}{s:u_}{h':Heap}
theorem Inv.turnLay {ch:v5}{p:Addr}{o:HO}{t':Nat}(I:Inv X pins σ H s)(hf:∀b∈ch,Mp X pins H b)(k:∀b u,b∉ch->s.heap.get? b=some u->h'.get? b=some u)(hp:s.heap.objs.size<=p)(w:z9 X.prog X.w (upd H p o) h' p o) :
 Inv X pins σ (upd H p o) { s with heap:=h',toks:=t' }:=by
 have g:H p=none:=I.hok.fresh hp
 have t:∀b u,H b=some u->b∉ch:=fun b u e z=>by rw[(hf b z).1]at e;grind
 have d:∀b u,H b=some u->b≠p:=fun b u e=>Bq e g
 have h:∀b u,s.heap.get? b=some u->b≠p:=fun b u e z=>absurd (az e) (by simp_all)
 refine I.step (g':=s.gens) (d':=s.drawn) (ch:=ch) (fun b f=>?_) (fun b u _ _ a e _=>k b u a e) (fun b u _ _ a e _=>⟨u.slots,k b u a e⟩) (fun b u _ e n=>?_) (fun b u a e=>⟨u,k b u a e⟩)
  (fun b i e=>?_) (fun b o u e=>?_) (fun b B e=>?_) (fun m x=>?_) (fun b u e=>?_) I.bare
 ·obtain⟨F,G,J,C,D,E⟩:=hf b f
  grind
 ·rw[Ai (h b u e)];grind
 ·rw[Ai (d b _ e)];grind
 ·rw[Ai (d b _ e)];lia
 ·rw[Ai (d b _ e)];grind
 ·obtain⟨j,y,A,l,r⟩:=x
  exact⟨j,y,A,k _ _ (fun z=>(hf _ z).2.1 rfl) l,r⟩
 ·by_cases f:b=p
  ·subst f;rw[Ay]at e;grind
  ·rw[Ai f]at e
   refine (I.hok b u e).stay (fun c v a q=>k c v ?_ q) fun c q=>by rw[Ai (d c _ q)];grind fun c i q=>by rw[Ai (d c _ q)];grind fun c j i q=>by rw[Ai (d c _ q)];grind
   grind
theorem Inv.turnL {ch:v5}{t':Nat}(I:Inv X pins σ H s)(hf:∀b∈ch,Mp X pins H b)(k:∀b u,b∉ch->s.heap.get? b=some u->h'.get? b=some u):Inv X pins σ H { s with heap:=h',toks:=t' }:=by
 have g:∀b u,H b=some u->b∉ch:=fun b u e z=>by rw[(hf b z).1]at e;grind
 refine I.step (fun b f=>?_) (fun b u _ _ a e _=>k b u a e) (fun b u _ _ a e _=>⟨u.slots,k b u a e⟩) (fun b u _ e n=>n) (fun b u a e=>⟨u,k b u a e⟩)
  (fun b i e=>e) (fun b o u e=>e) (fun b t e=>e) (fun m j=>?_) (fun b u e=>?_) I.bare
 ·obtain⟨A,B,C,w,x,y⟩:=hf b f
  grind
 ·obtain⟨h,l,p,d,r⟩:=j
  exact⟨h,l,p,k _ _ (fun z=>(hf _ z).2.1 rfl) d,r⟩
 ·refine (I.hok b u e).stay (fun c v a q=>k c v ?_ q) (fun c q=>q) fun c i q=>q
  grind
end
def SqK (t:Bool)(H:Hp)(a:Addr)(xs:n7):Prop:=match t with
 | true=>H a=some (.tup xs)
 | false=>H a=some (.lst xs)
theorem SqK.one (x:SqK t H a xs) (y:SqK t H a ys):xs=ys:=by
 cases t
 ·have y:H a=some _:=y
  rw[x]at y;cases y;rfl
 ·have y:H a=some _:=y
  rw[x]at y;cases y;rfl
theorem SqK.some (x:SqK t H a xs):∃o,H a=some o:=by
 cases t
 ·exact⟨_,x⟩
 ·exact⟨_,x⟩
theorem SqK.its (I:Inv X pins d H s) (x:SqK t H a xs):∃b:w6,Vals xs b/\SqA t s.heap a b.toArray:=by
 cases t
 ·obtain⟨b,c,p,_⟩:=I.list (SqL.of x)
  exact⟨b,c,p.isList⟩
 ·obtain⟨b,c,p,_⟩:=I.tuple (SqT.of x)
  exact⟨b,c,(show s.heap.IsTuple a _ from p)⟩
def Itz (t1 t2:Bool)(a b:Addr):It :=
 ⟨
  fun i H=>∃xs ys x y,SqK t1 H a xs/\SqK t2 H b ys/\xs[i]?=some x/\ys[i]?=some y,
  fun i H v H'=>∃p x y,v=.ref p/\H p=none/\H'=upd H p (.tup [x,y])/\(∀xs,SqK t1 H a xs->xs[i]?=some x)/\∀ys,SqK t2 H b ys->ys[i]?=some y,
  fun i H=>∃xs ys,SqK t1 H a xs/\SqK t2 H b ys/\(xs.length<=i\/ys.length<=i)⟩
theorem Bg2 {P:u5}{w:World}{K:v8}{t1 t2:Bool}{elts:v9}{kk:Nat}{pos:Pos}{z ti to i1 i2 a b:Addr}(nd:[z,ti,to,i1,i2].Nodup) :
 Turn P w K (.Tuple elts kk pos) (Itz t1 t2 a b) [z,ti,to,i1,i2] z (fun i h=>ZipAt h t1 t2 z ti to i1 i2 a b .none i) where
 mem:=by simp
 obj:=fun i h st c hc=>by
  simp only[aB,bf,bh]at hc
  rcases hc with rfl | rfl | rfl | rfl | rfl
  ·exact⟨_,st.zip,fun v e=>by cases e⟩
  ·exact⟨_,st.ins,fun v e=>by cases e⟩
  ·obtain⟨u,v,e⟩:=st.outs;exact⟨_,e,fun v e=>by cases e⟩
  ·obtain⟨o,e,q⟩:=st.one.obj;exact⟨o,e,fun v e=>by rw[q]at e;cases e⟩
  ·obtain⟨o,e,q⟩:=st.two.obj;exact⟨o,e,fun v e=>by rw[q]at e;cases e⟩
 keep:=fun i h h' st k=>by
  obtain⟨u,v,e⟩:=st.outs
  exact⟨k z (by simp) _ st.zip,k ti (by simp) _ st.ins,⟨u,v,k to (by simp) _ e⟩,st.one.stay fun o e=>k i1 (by simp) o e,st.two.stay fun o e=>k i2 (by simp) o e⟩
 item:=by
  intro X hP hw hK hc i pins s σ H E I hf st hg;subst hP hw hK;obtain⟨xs,ys,x,y,ha,hb,hx,hy⟩:=hg;obtain⟨its,rv,pa⟩:=ha.its I;obtain⟨jts,rw',pb⟩:=hb.its I;obtain⟨u,hu,ru⟩:=rv.get hx;obtain⟨v,hv,rv'⟩:=rw'.get hy
  have off:z7 z ti to i1 i2 a b:=⟨nd,fun m=>by (obtain⟨o,e⟩:=ha.some;rw[(hf a m).1]at e;cases e),fun m=>by (obtain⟨o,e⟩:=hb.some;rw[(hf b m).1]at e;cases e)⟩
  have ty:s.TypeIs (.ref z) "zip" := ⟨_,st.zip,rfl⟩;unfold pyNext;apply aj;apply dg
  refine cP (name:="__next__") ty dY ?_
  refine bQ dY ty h_ ?_ (ie _)
  refine Ai2 off st pa pb (x:=u) (x':=v) (by simpa using hu) (by simpa using hv) fun h1 z1 new kp=>?_
  refine ak ⟨_,rfl,?_⟩
  apply wpAny_letOwnedTupleGo_zip z1.zip;intro h2 z2 sb;have nz:s.heap.objs.size≠z:=bK (az st.zip);have new2:IsPair h2 s.heap.objs.size u v:=sb.extBut _ _ nz new
  have ok:z9 X.prog X.w (upd H s.heap.objs.size (.tup [x,y])) h2 s.heap.objs.size (.tup [x,y]):=⟨(show 2<=sizeLine by decide),[u,v],.cons ru (.cons rv' .nil),⟨_,new2,rfl,⟨_,rfl⟩,rfl⟩⟩
  have I2:=I.turnLay (t':=s.toks) hf (h':=h2) (fun c o m e=>sb.extBut _ _ (fun e=>m (by simp[e])) (kp c o m e)) (aq _) ok
  obtain⟨u1,v1,e1⟩:=z1.outs;have zf:H s.heap.objs.size=none:=I.hok.fresh (aq _)
  refine⟨.ref s.heap.objs.size,_,I2,rfl,⟨_,x,y,rfl,zf,rfl,fun xs' h=>?_,fun ys' h=>?_⟩,?_,fun c hc=>?_⟩
  ·rw[h.one ha];exact hx
  ·rw[h.one hb];exact hy
  ·exact⟨z2,sb.extBut _ _ off.z_ti z1.ins,⟨u1,v1,sb.extBut _ _ off.z_to e1⟩,z1.one.stay fun o e=>sb.extBut _ _ off.z_i1 e,z1.two.stay fun o e=>sb.extBut _ _ off.z_i2 e⟩
  ·have lt:c<s.heap.objs.size:=by
    simp only[aB,bf,bh]at hc
    rcases hc with rfl | rfl | rfl | rfl | rfl
    ·exact az st.zip
    ·exact az st.ins
    ·obtain⟨_,_,e⟩:=st.outs;exact az e
    ·obtain⟨o,e,q⟩:=st.one.obj;exact az e
    ·obtain⟨o,e,q⟩:=st.two.obj;exact az e
   rw[Ai (aL lt)];exact(hf c hc).1
 done:=by
  intro X hP hw hK hc i pins s σ H E I hf st hg;subst hP hw hK;obtain⟨xs,ys,ha,hb,hl⟩:=hg;obtain⟨its,rv,pa⟩:=ha.its I;obtain⟨jts,rw',pb⟩:=hb.its I
  have off:z7 z ti to i1 i2 a b:=⟨nd,fun m=>by (obtain⟨o,e⟩:=ha.some;rw[(hf a m).1]at e;cases e),fun m=>by (obtain⟨o,e⟩:=hb.some;rw[(hf b m).1]at e;cases e)⟩
  have ty:s.TypeIs (.ref z) "zip" := ⟨_,st.zip,rfl⟩;have l1:=rv.length;have l2:=rw'.length;unfold pyNext;apply aj;apply dg
  refine cP (name:="__next__") ty dY ?_
  refine bQ dY ty h_ ?_ (ie _)
  refine Aj4 (I.ok.hd hc) off st pa pb (by simp;lia) fun h1 e kp he=>?_
  obtain⟨o,e1,e2⟩:=he;apply aj
  refine dF (T := "StopIteration") (b:=true) ⟨o,e1,e2⟩ fL ?_
  exact ak ⟨rfl,I.turnL (t':=s.toks) hf fun c o m e=>kp c o m e⟩
 self:=fun _ _ _ _ _ st h=>jg st.zip h
section
variable {P:u5}{w:World}{A:t_}{E:z_}{s:u_}
noncomputable abbrev itO (t:Bool)(u:Addr):Obj:={ cls:=.type (if t then "tuple_iterator" else "list_iterator"),data:=.fields #[.ref u,.int 0 0] }
abbrev zh1 (h:Heap)(t1:Bool)(a:Addr):Heap:=h.push (itO t1 a)
abbrev zh2 (h:Heap)(t1 t2:Bool)(a b:Addr):Heap:=(zh1 h t1 a).push (itO t2 b)
abbrev zh3 (h:Heap)(t1 t2:Bool)(a b:Addr):Heap:=(zh2 h t1 t2 a b).push { cls:=.type "tuple",data:=.seq #[.ref h.objs.size,.ref (zh1 h t1 a).objs.size] }
abbrev zh4 (h:Heap)(t1 t2:Bool)(a b:Addr):Heap:=(zh3 h t1 t2 a b).push { cls:=.type "tuple",data:=.seq #[.none,.none] }
abbrev zh5 (h:Heap)(t1 t2:Bool)(a b:Addr):Heap:=(zh4 h t1 t2 a b).push { cls:=.type "zip",data:=.fields #[.none,.bool false,.bool false,.ref (zh2 h t1 t2 a b).objs.size,.ref (zh3 h t1 t2 a b).objs.size] }
theorem A7p (t1 t2:Bool)(a b:Addr)(xs ys:v6) :
 Meets (Builtin.«zip.__new__» ⟨[.type "zip",.ref a,.ref b],[]⟩) (fun _ R s=>SqA t1 s.heap a xs/\SqA t2 s.heap b ys/\R (.ok (.ret (.ref (zh4 s.heap t1 t2 a b).objs.size))) { s with heap:=zh5 s.heap t1 t2 a b }) :=
 .of_wp fun P w A R s h=>by
  obtain⟨e,g,d,c,f⟩:=s;obtain⟨k,l,h⟩:=h;have m:=sub_zip
  cases t1 <;> cases t2
  ·have j:Heap.IsList (Shared.heap ⟨e,g,d,c,f⟩) a xs:=k
   have i:Heap.IsList (Shared.heap ⟨e.push { cls:=.type "list_iterator",data:=.fields #[.ref a,.int 0 0] },g,d,c,f⟩) b ys:=Heap.IsList.push l _
   wp_walk using dw j,dw i
   exact⟨_,rfl,h⟩
  ·have j:Heap.IsList (Shared.heap ⟨e,g,d,c,f⟩) a xs:=k
   have i:Heap.IsTuple (Shared.heap ⟨e.push { cls:=.type "list_iterator",data:=.fields #[.ref a,.int 0 0] },g,d,c,f⟩) b ys:=Heap.IsTuple.push l _
   wp_walk using dw j,dX i
   exact⟨_,rfl,h⟩
  ·have j:Heap.IsTuple (Shared.heap ⟨e,g,d,c,f⟩) a xs:=k
   have i:Heap.IsList (Shared.heap ⟨e.push { cls:=.type "tuple_iterator",data:=.fields #[.ref a,.int 0 0] },g,d,c,f⟩) b ys:=Heap.IsList.push l _
   wp_walk using dX j,dw i
   exact⟨_,rfl,h⟩
  ·have j:Heap.IsTuple (Shared.heap ⟨e,g,d,c,f⟩) a xs:=k
   have i:Heap.IsTuple (Shared.heap ⟨e.push { cls:=.type "tuple_iterator",data:=.fields #[.ref a,.int 0 0] },g,d,c,f⟩) b ys:=Heap.IsTuple.push l _
   wp_walk using dX j,dX i
   exact⟨_,rfl,h⟩
theorem Au8 (e:h.get? j=some (itO t u)):ItAt t h j u 0:=by
 cases t
 ·exact⟨_,e,rfl,rfl⟩
 ·exact⟨_,e,rfl,rfl⟩
theorem Wj (t:SqA t1 s.heap a xs) (u:SqA t2 s.heap b ys)
 (q:∀h',ZipAt h' t1 t2 (s.heap.objs.size+4) (s.heap.objs.size+2) (s.heap.objs.size+3) s.heap.objs.size (s.heap.objs.size+1) a b .none 0->(∀c o,s.heap.get? c=some o->h'.get? c=some o)->Q (.ref (s.heap.objs.size+4)) { s with heap:=h' }) :
 wpAny (model P w) A (call (.type "zip") [.ref a,.ref b]) Q E s:=by
 apply callType_new F.called_zip (by decide) (F.typeCall_zip_2 _ _) (F.newCall_zip_2 _ _) (fun o=>F.args_object_init_3 o _ _) F.entry_zip_new (A7p t1 t2 a b xs ys)
 refine⟨t,u,?_⟩
 have i:(zh1 s.heap t1 a).objs.size=s.heap.objs.size+1:=bN ..
 have g:(zh2 s.heap t1 t2 a b).objs.size=s.heap.objs.size+2:=by rw[bN,i]
 have f:(zh3 s.heap t1 t2 a b).objs.size=s.heap.objs.size+3:=by rw[bN,g]
 have k:(zh4 s.heap t1 t2 a b).objs.size=s.heap.objs.size+4:=by rw[bN,f]
 have d:=fun {h:Heap} {c:Addr} {o:Obj} (n:Obj) (e:h.get? c=some o)=>aF n e
 have j:(zh5 s.heap t1 t2 a b).get? (zh4 s.heap t1 t2 a b).objs.size=some _:=aJ _ rfl;have m:(zh5 s.heap t1 t2 a b).get? (zh3 s.heap t1 t2 a b).objs.size=some _:=d _ (aJ _ rfl);have l:(zh5 s.heap t1 t2 a b).get? (zh2 s.heap t1 t2 a b).objs.size=some _:=d _ (d _ (aJ _ rfl));have p:(zh5 s.heap t1 t2 a b).get? (zh1 s.heap t1 a).objs.size=some _:=d _ (d _ (d _ (aJ _ rfl)));have r:(zh5 s.heap t1 t2 a b).get? s.heap.objs.size=some _:=d _ (d _ (d _ (d _ (aJ _ rfl))));rw[g,f,k]at j;rw[i,g]at l;rw[f]at m;rw[i]at p;rw[k]
 exact⟨⟨_,j,rfl⟩,q _ ⟨j,l,⟨_,_,m⟩,Au8 r,Au8 p⟩ fun c o e=>d _ (d _ (d _ (d _ (d _ e))))⟩
end
theorem Zj:bootBuiltins "zip" = some (.type "zip"):=by decide +kernel
section
variable {X:Cx}
def B3v (ta:TA):TI:=fun σ H R=>ta σ H fun vs H1=>∃a b,vs=[.ref a,.ref b]/\∃t1 t2 xs ys,SqK t1 H1 a xs/\SqK t2 H1 b ys/\R (Itz t1 t2 a b) H1
theorem A7s {p j e:Pos}{f:v9}{t:Nat}(hg:Gl X "zip") (hm:X.mg "zip" = none) (ha:QA X [a,b] m) (hs1:isStar a=false:=by rfl) (hs2:isStar b=false:=by rfl) :
 QI X (.Tuple f t e) (.Call (.Name "zip" p) [a,b] [] j) (B3v m):=by
 refine⟨?_⟩
 intro l s σ H R I h;have i:=Ge (es:=[b]) (env:=X.env) hs1
 refine Call_ (Jf I hg hm Zj (d_ (thn (ha.1 _ _ s _ H _ I h) fun us d ⟨vs,r,g,u,v⟩=>?_) i (by rw[(Ge (es:=[]) (env:=X.env) hs2)];rfl)))
 obtain⟨a',b',rfl,t1,t2,xs,ys,y,o,q⟩:=v;obtain⟨z,A,rfl,B,x⟩:=Vals.two u
 cases (show z=Value.ref _ from B)
 cases (show A=Value.ref _ from x)
 obtain⟨C,rv,w⟩:=y.its g;obtain⟨E,F,D⟩:=o.its g
 refine Wj w D fun h' n G=>?_
 apply jg n.zip
 have J:[d.heap.objs.size+4,d.heap.objs.size+2,d.heap.objs.size+3,d.heap.objs.size,d.heap.objs.size+1].Nodup:=by simp
 refine⟨_,_,_,_,r,rfl,g.kept G,Bg2 J,n,fun c hc=>?_,q⟩
 have k:d.heap.objs.size<=c:=by
  grind
 exact g.fpOk k (g.hok.fresh k)
end
def Bu9:R2:=fun x y H Q=>∃a b xs ys,x=.ref a/\y=.ref b/\H a=some (.tup xs)/\H b=some (.tup ys)/\xs.length+ys.length<=sizeLine/\∀p H',Same H H'->H' p=some (.tup (xs++ys))->Q (.ref p) H'
section
variable {X:Cx}
theorem Bo (h:H p=none) (o:HO):Same H (upd H p o):=fun b u e=>by rw[Ai (Bq e h)];grind
theorem Bq7:OpR X (binaryOp .Add) Bu9:=by
 intro d s σ H x y v u Q I i f h;obtain⟨a,b,g,E,rfl,rfl,j,c,n,q⟩:=h
 by_cases e:g=[]
 ·cases i
  cases f
  subst e;obtain⟨o,r,t,_⟩:=I.tuple (SqT.of j);obtain⟨w,r2,A,_⟩:=I.tuple (SqT.of c);have C := r.nil_iff.mpr rfl;subst C;obtain⟨⟨c1,d1,D,s1⟩,k,F,n1,z⟩:=id t;obtain⟨⟨c2,d2,B,s2⟩,l,J,n2,G⟩:=id A;subst F z J G
  exact concat_meets ⟨_,k,rfl⟩ ⟨_,l,rfl⟩ iQ seq_tuple_add iR iT (iU _ _)
   (tuple_addW0 a b _ _ _ _ _ _ _ _ (by simp)) ⟨k,l,⟨.ref b,H,I,rfl,q b H (fun _ _ e=>e) c⟩⟩
 ·refine Bl3 _ s _ H _ _ v u Q I i f ⟨a,b,g,E,rfl,rfl,SqT.of j,SqT.of c,e,n,fun K=>?_,fun K p m=>?_⟩
  ·exact q a H (fun _ _ e=>e) (by simp_all)
  ·exact q p _ (Bo m _) Ay
end
section
variable {P:u5}{w:World}{A:t_}{E:z_}{s:u_}
theorem B3g (quiet:A.handled=none)(t:Bool)(j u:Addr)(ne:u≠j)(vs:v6):Draws P w A j [j,u] vs.size (fun i v=>vs[i]?=some v) (fun i h=>ItAt t h j u i/\SqA t h u vs) where
 live:=fun i h x=>let ⟨o,e,_⟩:=x.1.obj; ⟨o,e⟩
 frame:=fun i h h' x k=>⟨x.1.stay fun o e=>k j (by simp) o e,x.2.stay fun o e=>k u (by simp) o e⟩
 item:=fun i s Q E hi x q=>next_item x.1 x.2 (x:=vs[i]) (by simp[hi]) fun h' a b=>q _ h' s.toks (by simp[hi]) ⟨a,x.2.stay fun o e=>b.extBut _ _ ne e⟩ b
 done:=fun s Q E x q=>next_end quiet x.1 x.2 (by simp) q
theorem Aw9 (u:Addr)(vs:v6)(n:Nat)(b:Option Addr)(l:Array (u6)) :
 Meets (Builtin.«enumerate.__new__» ⟨[.type "enumerate",.ref u],[]⟩) (fun _ R s=>s.heap.get? u=some { cls:=.type "tuple",dict:=b,data:=.seq vs n,slots:=l } /\
  R (.ok (.ret (.ref (s.heap.push (itO true u)).objs.size))) { s with heap:=(s.heap.push (itO true u)).push { cls:=.type "enumerate",data:=.fields #[.none,.bool false,.ref s.heap.objs.size,rawInt 0,.none,.none] } }) :=
 .of_wp fun P w A R s h=>by
  obtain⟨i,g,d,f,k⟩:=s;obtain⟨e,h⟩:=h;have j:=sub_enumerate;have a:Heap.IsTuple (Shared.heap ⟨i,g,d,f,k⟩) u vs:=⟨_,e,rfl,n,rfl⟩
  wp_walk using ig e
  refine wpAny_stack_any fun m=>ak ?_
  split
  ·rename_i c _ _ _ _ _
   cases (c==Value.type "enumerate")
   ·wp_walk using ig e,dX a
    exact⟨_,rfl,h⟩
   ·wp_walk using ig e,dX a
    exact⟨_,rfl,h⟩
  ·wp_walk using ig e,dX a
   exact⟨_,rfl,h⟩
theorem Ai5 (p:SqA t s.heap u vs)
 (q:∀f,IsEnum f (s.heap.objs.size+1) s.heap.objs.size 0 .none->ItAt t f s.heap.objs.size u 0->(∀c o,s.heap.get? c=some o->f.get? c=some o)->Q (.ref (s.heap.objs.size+1)) { s with heap:=f }) :
 wpAny (model P w) A (call (.type "enumerate") [.ref u]) Q E s:=by
 cases t
 ·exact call_enumerate_list p fun f a b c d=>q f a b d
 ·obtain⟨⟨c,i,m,l⟩,e,k,n,g⟩:=p
  simp only at k g;subst k g
  apply callType_new F.called_enumerate (by decide) (F.typeCall_enumerate_1 _) (F.newCall_enumerate_1 _) (fun o=>jh o _) F.entry_enumerate_new (Aw9 u vs n i l)
  refine⟨e,?_⟩
  have j:(s.heap.push (itO true u)).objs.size=s.heap.objs.size+1:=bN ..;have h:IsEnum ((s.heap.push (itO true u)).push { cls:=.type "enumerate",data:=.fields #[.none,.bool false,.ref s.heap.objs.size,rawInt 0,.none,.none] }) (s.heap.push (itO _ u)).objs.size _ 0 _:=aJ _ rfl;rw[j]at h;rw[j]
  exact⟨⟨_,h,rfl⟩,q _ h (Au8 (aF _ (aJ _ rfl))) fun c o x=>aF _ (aF _ x)⟩
end
def Ite (t:Bool)(a:Addr):It :=
 ⟨
  fun i H=>∃xs x,SqK t H a xs/\xs[i]?=some x,
  fun i H v H'=>∃p x,v=.ref p/\H p=none/\H'=upd H p (.tup [.int i,x])/\∀xs,SqK t H a xs->xs[i]?=some x,
  fun i H=>∃xs,SqK t H a xs/\xs.length<=i⟩
theorem A5m {P:u5}{w:World}{K:v8}{t:Bool}{elts:v9}{kk:Nat}{pos:Pos}{e j a:Addr}(ne:e≠j) :
 Turn P w K (.Tuple elts kk pos) (Ite t a) [e,j] e (fun i h=>(∃old,IsEnum h e j i old)/\ItAt t h j a i) where
 mem:=by simp
 obj:=fun i h st c hc=>by
  simp only[aB,bf,bh]at hc
  rcases hc with rfl | rfl
  ·obtain⟨old,q⟩:=st.1;exact⟨_,q,fun v e=>by cases e⟩
  ·obtain⟨o,e,q⟩:=st.2.obj;exact⟨o,e,fun v e=>by rw[q]at e;cases e⟩
 keep:=fun i h h' st k=>by
  obtain⟨⟨old,q⟩,r⟩:=st
  exact⟨⟨old,k e (by simp) _ q⟩,r.stay fun o e=>k j (by simp) o e⟩
 item:=by
  intro X hP hw hK hc i pins s σ H E I hf st hg;subst hP hw hK;obtain⟨xs,x,ha,hx⟩:=hg;obtain⟨⟨old,en⟩,it⟩:=st;obtain⟨its,rv,pa⟩:=ha.its I;obtain⟨u,hu,ru⟩:=rv.get hx
  have off:∀c∈[e,j],a≠c:=fun c m z=>by obtain⟨o,q⟩:=ha.some;rw[z,(hf c m).1]at q;cases q
  have dr:=B3g (P:=X.prog) (w:=X.w) (A:=X.A.in1) (I.ok.hd hc) t j a (off j (by simp)) its.toArray
  have li:i<its.toArray.size:=by simpa using (aZ.mp hu).1
  refine wpAny_pyNext_enum_itemD dr en ⟨it,pa⟩ li ne (by simp;exact⟨ne,fun z=>off e (by simp) z.symm⟩) fun u' h1 tk pu ou st1 new _ kp=>?_
  have eu:u'=u:=by
   have pu:its.toArray[i]?=some u':=pu;rw[List.getElem?_toArray,hu]at pu;cases pu;rfl
  subst eu
  refine⟨_,rfl,?_⟩
  apply wpAny_letOwnedTupleGo_enum ou;intro h2 en2 sb
  have lt:∀c∈[e,j],c<s.heap.objs.size:=fun c m=>by
   simp only[aB,bf,bh]at m
   rcases m with rfl | rfl
   ·exact az en
   ·obtain⟨o,e,_⟩:=it.obj;exact az e
  have new2:h2.get? s.heap.objs.size=some { cls:=.type "tuple",data:=.seq #[.int i tk,u'] }:=sb.extBut _ _ (bK (lt e (by simp))) new
  have ok:z9 X.prog X.w (upd H s.heap.objs.size (.tup [.int i,x])) h2 s.heap.objs.size (.tup [.int i,x]):=⟨(show 2<=sizeLine by decide),[.int i tk,u'],.cons ⟨tk,rfl⟩ (.cons ru .nil),⟨_,new2,rfl,⟨_,rfl⟩,rfl⟩⟩
  have I2:=I.turnLay (t':=tk+1) hf (h':=h2) (fun c o m q=>sb.extBut _ _ (fun z=>m (by simp[z])) (kp c o (fun z=>m (by simp[z])) (fun z=>m (by simp[z])) q)) (aq _) ok
  refine⟨.ref s.heap.objs.size,_,I2,rfl,⟨_,x,rfl,I.hok.fresh (aq _),rfl,fun xs' h=>?_⟩,⟨⟨u',?_⟩,?_⟩,fun c m=>?_⟩
  ·rw[h.one ha];exact hx
  ·have:IsEnum h2 e j ((i:Int)+1) u':=en2
   simpa using this
  ·exact st1.1.stay fun o q=>sb.extBut _ _ (aG ne) q
  ·rw[Ai (aL (lt c m))]
   exact(hf c m).1
 done:=by
  intro X hP hw hK hc i pins s σ H E I hf st hg;subst hP hw hK;obtain⟨xs,ha,hl⟩:=hg;obtain⟨⟨old,en⟩,it⟩:=st;obtain⟨its,rv,pa⟩:=ha.its I
  have off:∀c∈[e,j],a≠c:=fun c m z=>by obtain⟨o,q⟩:=ha.some;rw[z,(hf c m).1]at q;cases q
  have ty:s.TypeIs (.ref e) "enumerate" := ⟨_,en,rfl⟩;have ln:=rv.length;unfold pyNext;apply aj;apply dg
  refine cP (name:="__next__") ty F.slot_enumerate_next ?_
  refine bQ F.slot_enumerate_next ty F.entry_enumerate_next ?_ (F.args_enumerate_next_1 _)
  apply aj (m:=field (.ref e) 2);apply bw en rfl (x:=.ref j) rfl;apply aj
  refine next_end (I.ok.hd hc) it pa (by simp;lia) fun h1 x kp hx=>?_
  obtain⟨o,e1,e2⟩:=hx;apply aj
  refine dF (T := "StopIteration") (b:=true) ⟨o,e1,e2⟩ fL ?_
  exact ak ⟨rfl,I.turnL (t':=s.toks) hf fun c o m q=>kp c o (fun z=>m (by simp[z])) q⟩
 self:=fun _ _ _ _ _ st h=>let ⟨_,q⟩:=st.1;wpAny_pyIter_enum q h
theorem Av9:bootBuiltins "enumerate" = some (.type "enumerate"):=by decide +kernel
section
variable {X:Cx}
def Bu4 (ta:TA):TI:=fun σ H R=>ta σ H fun vs H1=>∃a,vs=[.ref a]/\∃t xs,SqK t H1 a xs/\R (Ite t a) H1
theorem Uv (hg:Gl X "enumerate") (hm:X.mg "enumerate" = none) (ha:QA X [a] i) (hs1:isStar a=false:=by rfl) :
 QI X (.Tuple d v b) (.Call (.Name "enumerate" p) [a] [] f) (Bu4 i):=by
 refine⟨?_⟩
 intro j s σ H R I h
 refine Call_ (Jf I hg hm Av9 (d_ (thn (ha.1 _ _ s _ H _ I h) fun us x ⟨vs,o,e,r,u⟩=>?_) (Ge (es:=[]) (env:=X.env) hs1) rfl))
 obtain⟨a',rfl,t,xs,l,q⟩:=u;obtain⟨w,rfl,m⟩:=vals1 r
 cases (show w=Value.ref _ from m)
 obtain⟨n,rv,y⟩:=l.its e
 refine Ai5 y fun h' k z A=>?_
 apply wpAny_pyIter_enum k
 refine⟨_,_,_,_,o,rfl,e.kept A,A5m (bK (dR _)),⟨⟨_,k⟩,z⟩,fun c hc=>?_,q⟩
 have g:x.heap.objs.size<=c:=by
  grind
 exact e.fpOk g (e.hok.fresh g)
end
section
variable {X:Cx}{a b:Expr}{ta tb:TE}{pos:Pos}
def Bj6 (neg:Bool):R2:=fun x y H Q=>∃d ds,Tr H d x/\(Tr H (.list ds) y\/Tr H (.tuple ds) y)/\Flat d/\PyData.canLayAll0 ds=true/\Q (.bl (if neg then !ds.any (fun e=>PyData.eqv e d) else ds.any fun e=>PyData.eqv e d)) H
theorem Mg (hu:X.A.units+64<cLine)(ha:QE X a ta)(hb:QE X b tb)(hm:behindInMarks .NotIn b=false):QE X (.Compare a [.NotIn] [b] pos) (tOp (Bj6 true) ta tb):=⟨Qy (Yp hu) ha.1 hb.1 hm⟩
theorem Rb (hu:X.A.units+64<cLine)(ha:QE X a ta)(hb:QE X b tb)(hm:behindInMarks .NotIn b=false):QT X (.Compare a [.NotIn] [b] pos) (N5 (tOp (Bj6 true) ta tb)):=⟨Jo (Yp hu) ha.1 hb.1 hm⟩
end
end L2
namespace L2
open PySem PySem.Spec PyProof.Rows
theorem Ag : QE X (.Constant (.int i) j a) (tC (.int i)) :=
 ⟨A6i ⟩
theorem Ai3 : QE X (.Constant (.bool b) j a) (tC (.bl b)) :=
 ⟨Bv5 ⟩
theorem Ie : QE X (.Constant .none j a) (tC .non) :=
 ⟨A9u ⟩
theorem Dy : QE X (.Constant (.str x) j a) (tC (.str x)) :=
 ⟨A8q ⟩
theorem Oo (hg:Gl X x) (hm:X.mg x=some u) (r:RelV v u) (hd:(x==("__debug__" : Str))=false:=by decide):QE X (.Name x a) (tC v) :=
 ⟨Bq4 (hg:=hg) (hm:=hm) (r:=r) (hd:=hd)⟩
theorem Dp {a:Pos}(hg:Gl X x) (hm:X.mg x=none) (hv:bootBuiltins x=some u) (r:RelV v u) (hn:x ≠ "__name__" := by decide) (hd:(x==("__debug__" : Str))=false:=by decide):QE X (.Name x a) (tC v) :=
 ⟨Bi2 (hg:=hg) (hm:=hm) (hv:=hv) (r:=r) (hn:=hn) (hd:=hd)⟩
theorem Zz (h:QE X a t):QE X (.BoolOp op [a] pos) t :=
 ⟨Bz5 (h:=h.get)⟩
theorem Bb : QSs X [] Bd2 :=
 ⟨Bn0 ⟩
theorem Iz : QS X stm Ax4 :=
 ⟨Be0 ⟩
theorem Je (a:X.K=Kq) {k:Nat} (hc:X.calm=true) (h:QGs X es t) (hn:(assignEach es X.env).length=n:=by rfl) (hst:(assignEach es X.env).findIdx? (·.1)=none:=by rfl):QG X (.Tuple es k pos) (A5i Kq n t):=by
 subst a;exact⟨B2x (hc:=hc) (h:=h.get) (hn:=hn) (hst:=hst)⟩
theorem Cp (a:X.K=Kq) (hl:QE X l b):QI X c l (B3d Kq b):=by
 subst a;exact⟨By7 (hl:=hl.get)⟩
theorem Ac : QA X [] Gm :=
 ⟨Wl ⟩
theorem Ad (ha:QE X e te)(hr:QA X es t)(hs:isStar e=false:=by rfl):QA X (e::es) (Cm te t) :=
 ⟨Bp9 (ha:=ha.get) (hr:=hr.get) (hs:=hs)⟩
theorem A7y (F:FnOk X.prog X.w X.K X.mg X.base CX k f fd ps sp)(hr:Room k X.A)(hg:Gl X x)(hm:X.mg x=some (.ref f))(hk:PySem.W.keepIn X.K (.ref f)=true)(hb:Binds X.K fd ps ds)(hd:Vals dvs ds)(hx:Vy CX X E)(ha:QA X (e::es) t)(hdb:(x==("__debug__" : Str))=false:=by decide) (hn:noStar (e::es)=true:=by rfl):QE X (.Call (.Name x p) (e::es) [] pos) (Al0 sp dvs E t) :=
 ⟨A9k (F:=F) (hr:=hr) (hg:=hg) (hm:=hm) (hk:=hk) (hb:=hb) (hd:=hd) (hx:=hx) (ha:=ha.get) (hdb:=hdb) (hn:=hn)⟩
theorem Ac4 : QK X [] Gm :=
 ⟨B0p ⟩
theorem Zm (a:X.K=Kq) (pa:PlainAttrs T) (slot:Slot T name idn) (hty:typeOf (.builtin idn)=pure (.type "method_descriptor")) (hm:MtR X idn r) (ho:QE X o to) (ha:QA X (e::es) t) (hbase:attributeBase o name X.env (eval o X.env)=eval o X.env:=by rfl) (hfew:((backTo cpos (starEach (e::es) X.env)).all (fun x=>!x.1)&&(backToKw cpos (keywordEach [] X.env)).all (fun x=>x.1.isSome)
 && decide ((e::es).length+([]:List Keyword).length+(if ([]:List Keyword).isEmpty then 0 else 1)<30))=true:=by rfl) (hline:(apos.endLine==cpos.line)=true:=by rfl) (hs:starEach (e::es) X.env=(false,eval e X.env)::starEach es X.env:=by rfl) (hplain:(backTo cpos (starEach es X.env)).any (·.1)=false:=by rfl):QE X (.Call (.Attribute o name apos) (e::es) [] cpos) (tBM Kq T r to t):=by
 subst a;exact⟨Bw1 (pa:=pa) (slot:=slot) (hty:=hty) (hm:=hm) (ho:=ho.get) (ha:=ha.get) (hbase:=hbase) (hfew:=hfew) (hline:=hline) (hs:=hs) (hplain:=hplain)⟩
theorem Jt (b:X.K=Kq) (ho:QE X a ta) (hv:QE X e te) (hbase:attributeBase a "append" X.env (eval a X.env)=eval a X.env:=by rfl) (hfew:((backTo cpos (starEach [e] X.env)).all (fun x=>!x.1)&&(backToKw cpos (keywordEach [] X.env)).all (fun x=>x.1.isSome)
 && decide ([e].length+([]:List Keyword).length+(if ([]:List Keyword).isEmpty then 0 else 1)<30))=true:=by rfl) (hline:(apos.endLine==cpos.line)=true:=by rfl) (hns:isStar e=false:=by rfl):QE X (.Call (.Attribute a "append" apos) [e] [] cpos) (tBM Kq "list" rAppF ta (Cm te Gm)):=by
 subst b;exact⟨A3s (ho:=ho.get) (hv:=hv.get) (hbase:=hbase) (hfew:=hfew) (hline:=hline) (hns:=hns)⟩
theorem Br5 : QTs X [] Bo1 :=
 ⟨Bk8 ⟩
theorem qtN:∀a b c d e,QTs (Ez X N' scope a b c d e) [] Bo1:=fun _ _ _ _ _=>Br5
theorem A1q (h:QT X c t):QTs X [c] t :=
 ⟨Bn3 (h:=h.get)⟩
theorem Hh (L:Km X N' idx scope)(hc:X.calm=true)(hi:QI X tg iter wi)(hg:∀d C b a c,QG (Ez X N' scope d C b a c) tg g)(ht:∀d C b a c,QTs (Ez X N' scope d C b a c) ifs tc)(he:∀d C b a c,QE (Ez X N' scope d C b a c) elt te)(hs:∀x,foldedSetIterable iter X.env x=pure x:=by intro _;rfl):QE X (.ListComp elt [⟨tg,iter,ifs,0⟩] scope pos) (tLC idx wi g tc te) :=
 ⟨B4f (L:=L) (hc:=hc) (hi:=hi.get) (hg:=fun d C b a c=>(hg _ C _ _ _).get) (ht:=fun d C b a c=>(ht _ C _ _ _).get) (he:=fun d C b a c=>(he _ C _ _ _).get) (hs:=hs)⟩
theorem J5 {f d:Pos}(hN:X.N.Nodup) (hi':X.N[i]?=some y) (hy:Loc X.env.scope y) (L:Km X N' idx scope) (hc:X.calm=true) (hi:QI X tg iter wi) (hg:∀e C b a c,QG (Ez X N' scope e C b a c) tg g) (ht:∀e C b a c,QTs (Ez X N' scope e C b a c) ifs tc) (he:∀e C b a c,QE (Ez X N' scope e C b a c) elt te) (hsw:swapsWith (.ListComp elt [⟨tg,iter,ifs,0⟩] scope pos) (some (.Name y f)) d.line X.env=pure true:=by rfl) (hf:X.fn y=true\/X.env.scope.names.lookup y=some .local:=by first | exact .inl rfl | exact .inr rfl | assumption) (hs:∀x,foldedSetIterable iter X.env x=pure x:=by intro _;rfl):QS X (.Assign [.Name y f] (.ListComp elt [⟨tg,iter,ifs,0⟩] scope pos) d) (As6 (tLC idx wi g tc te) (Lk i)) :=
 ⟨Bb5 (hN:=hN) (hi':=hi') (hy:=hy) (L:=L) (hc:=hc) (hi:=hi.get) (hg:=fun e C b a c=>(hg _ C _ _ _).get) (ht:=fun e C b a c=>(ht _ C _ _ _).get) (he:=fun e C b a c=>(he _ C _ _ _).get) (hsw:=hsw) (hs:=hs)⟩
theorem A9y (a:X.K=Kq)      (hc:X.calm=true) (F:FnOk X.prog X.w X.K X.mg X.base CX0 k f b ps sp) (hr:Room (k+1) X.A) (hb:Binds X.K b ps []) (hg:Gl X "min") (hm:X.mg "min" = none) (ha:QA X [e] t) (hkw:QK X kws tk) (hall:(backToKw pos (keywordEach kws X.env)).all (·.1.isSome)=true:=by rfl) (hks:(backToKw pos (keywordEach kws X.env)).filterMap (·.1)=[Str.ofString "key",Str.ofString "default"]:=by rfl) (he:backTo pos (starEach [e] X.env)=(false,eval e X.env)::backTo pos (starEach [] X.env):=by rfl) (hpl:(backTo pos (starEach [e] X.env)).any (·.1)=false:=by rfl) (hno:(backToKw pos (keywordEach kws X.env)).any (·.1.isNone)=false:=by rfl):QE X (.Call (.Name "min" p) [e] kws pos) (tMM false Kq f sp t tk):=by
 subst a;exact⟨A9j (hc:=hc) (F:=F) (hr:=hr) (hb:=hb) (hg:=hg) (hm:=hm) (ha:=ha.get) (hkw:=hkw.get) (hall:=hall) (hks:=hks) (he:=he) (hpl:=hpl) (hno:=hno)⟩
theorem A6u (a:X.K=Kq)      (hc:X.calm=true) (F:FnOk X.prog X.w X.K X.mg X.base CX0 k f b ps sp) (hr:Room (k+1) X.A) (hb:Binds X.K b ps []) (hg:Gl X "max") (hm:X.mg "max" = none) (ha:QA X [e] t) (hkw:QK X kws tk) (hall:(backToKw pos (keywordEach kws X.env)).all (·.1.isSome)=true:=by rfl) (hks:(backToKw pos (keywordEach kws X.env)).filterMap (·.1)=[Str.ofString "key",Str.ofString "default"]:=by rfl) (he:backTo pos (starEach [e] X.env)=(false,eval e X.env)::backTo pos (starEach [] X.env):=by rfl) (hpl:(backTo pos (starEach [e] X.env)).any (·.1)=false:=by rfl) (hno:(backToKw pos (keywordEach kws X.env)).any (·.1.isNone)=false:=by rfl):QE X (.Call (.Name "max" p) [e] kws pos) (tMM true Kq f sp t tk):=by
 subst a;exact⟨Bf6 (hc:=hc) (F:=F) (hr:=hr) (hb:=hb) (hg:=hg) (hm:=hm) (ha:=ha.get) (hkw:=hkw.get) (hall:=hall) (hks:=hks) (he:=he) (hpl:=hpl) (hno:=hno)⟩
theorem Ub (a:X.K=Kq) (hgl:Gl X "abs") (hm:X.mg "abs" = none) (ha:QA X (e::es) t) (hns:noStar (e::es)=true:=by rfl):QE X (.Call (.Name "abs" p) (e::es) [] pos) (tCB (Qe Kq) t):=by
 exact⟨Am2 (hgl:=hgl) (hm:=hm) (ha:=ha.get) (hns:=hns)⟩
theorem Bp (a:X.K=Kq) (hgl:Gl X "isinstance") (hm:X.mg "isinstance" = none) (ha:QA X (e::es) t) (hns:noStar (e::es)=true:=by rfl):QE X (.Call (.Name "isinstance" p) (e::es) [] pos) (tCB (Py Kq) t):=by
 exact⟨Ao3 (hgl:=hgl) (hm:=hm) (ha:=ha.get) (hns:=hns)⟩
theorem Ac9 (a:X.K=Kq) (hgl:Gl X "isinstance") (hm:X.mg "isinstance" = none) (ha:QA X (e::es) t) (hns:noStar (e::es)=true:=by rfl):QE X (.Call (.Name "isinstance" p) (e::es) [] pos) (tCB (Kc Kq) t):=by
 exact⟨Ab9 (hgl:=hgl) (hm:=hm) (ha:=ha.get) (hns:=hns)⟩
theorem Qq (a:X.K=Kq) (hc:X.calm=true) (hgl:Gl X "any") (hm:X.mg "any" = none) (ha:QA X (e::es) t) (hns:noStar (e::es)=true:=by rfl):QE X (.Call (.Name "any" p) (e::es) [] pos) (tCB (Nq Kq) t):=by
 subst a;exact⟨Af7 (hc:=hc) (hgl:=hgl) (hm:=hm) (ha:=ha.get) (hns:=hns)⟩
theorem Q5 (a:X.K=Kq) (hc:X.calm=true) (hgl:Gl X "all") (hm:X.mg "all" = none) (ha:QA X (e::es) t) (hns:noStar (e::es)=true:=by rfl):QE X (.Call (.Name "all" p) (e::es) [] pos) (tCB (Nj Kq) t):=by
 subst a;exact⟨Ae9 (hc:=hc) (hgl:=hgl) (hm:=hm) (ha:=ha.get) (hns:=hns)⟩
theorem Q8 (a:X.K=Kq) (hc:X.calm=true) (hgl:Gl X "sum") (hm:X.mg "sum" = none) (ha:QA X (e::es) t) (hns:noStar (e::es)=true:=by rfl):QE X (.Call (.Name "sum" p) (e::es) [] pos) (tCB (M8 Kq) t):=by
 subst a;exact⟨Zx (hc:=hc) (hgl:=hgl) (hm:=hm) (ha:=ha.get) (hns:=hns)⟩
theorem Fb (a:X.K=Kq) (hgl:Gl X "int") (hm:X.mg "int" = none) (ha:QA X (e::es) t) (hns:noStar (e::es)=true:=by rfl):QE X (.Call (.Name "int" p) (e::es) [] pos) (tCB (N7 Kq) t):=by
 exact⟨Ab3 (hgl:=hgl) (hm:=hm) (ha:=ha.get) (hns:=hns)⟩
theorem Ak (a:X.K=Kq) (hgl:Gl X "tuple") (hm:X.mg "tuple" = none) (ha:QA X (e::es) t) (hns:noStar (e::es)=true:=by rfl):QE X (.Call (.Name "tuple" p) (e::es) [] pos) (tCB (Jb Kq) t):=by
 subst a;exact⟨S6 (hgl:=hgl) (hm:=hm) (ha:=ha.get) (hns:=hns)⟩
theorem Eb (a:X.K=Kq) (hgl:Gl X "list") (hm:X.mg "list" = none) (ha:QA X (e::es) t) (hns:noStar (e::es)=true:=by rfl):QE X (.Call (.Name "list" p) (e::es) [] pos) (tCB (J7 Kq) t):=by
 subst a;exact⟨Um (hgl:=hgl) (hm:=hm) (ha:=ha.get) (hns:=hns)⟩
theorem Ac5 (a:X.K=Kq) (hc:X.calm=true) (hgl:Gl X "min") (hm:X.mg "min" = none) (ha:QA X (e::es) t) (hns:noStar (e::es)=true:=by rfl):QE X (.Call (.Name "min" p) (e::es) [] pos) (tCB (Nm Kq) t):=by
 exact⟨Af6 (hc:=hc) (hgl:=hgl) (hm:=hm) (ha:=ha.get) (hns:=hns)⟩
theorem A2q (b:X.K=Kq)    (hc:X.calm=true) (hgs:Gl X "set") (hms:X.mg "set" = none) (hgl:Gl X "len") (hml:X.mg "len" = none) (he:QE X e d) (hns:isStar e=false:=by rfl):QE X (.Call (.Name "len" p) [.Call (.Name "set" f) [e] [] a] [] c) (tCB (Rn X.prog X.w) (Cm (tCB (Zr X.prog X.w Kq) (Cm d Gm)) Gm)):=by
 subst b;exact⟨A3n (hc:=hc) (hgs:=hgs) (hms:=hms) (hgl:=hgl) (hml:=hml) (he:=he.get) (hns:=hns)⟩
theorem O2 (h:Ro es=some vs):QA X es (tK vs):=⟨Y8 h⟩
theorem QW.qt (h:QW X e t):QT X e t:=⟨h.get.pt⟩
theorem qv (i:Nat)  {a:Pos}(hN:X.N[i]?=some x:=by rfl) (hv:Vis X.env.scope x:=by first | exact Or.inl rfl | exact Or.inr (Or.inl rfl) | exact Or.inr (Or.inr rfl)) (hd:(x==("__debug__" : Str))=false:=by decide) (hcd:(x==("__classdict__" : Str))=false:=by decide):QE X (.Name x a) (Aq7 i):=⟨Be4 hN hv hd hcd⟩
end L2
namespace L2
open PySem
theorem El (h:QSs X st t) (k:t D a H):∃t,PSs X st t/\t D a H:=⟨t,h.get,k⟩
theorem Up:Es "NoneType" "int" = some false:=by trivial
theorem Uq:Es "NoneType" "str" = some false:=by trivial
theorem Te:Es "NoneType" "bool" = some false:=by trivial
theorem S8:Es "NoneType" "list" = some false:=by trivial
theorem Rq:Es "NoneType" "tuple" = some false:=by trivial
theorem Al8:Es "bool" "int" = some true:=by trivial
theorem Am8:Es "bool" "str" = some false:=by trivial
theorem Ag0:Es "bool" "bool" = some true:=by trivial
theorem Ag7:Es "bool" "list" = some false:=by trivial
theorem Yi:Es "bool" "tuple" = some false:=by trivial
theorem At2:Es "int" "int" = some true:=by trivial
theorem Au2:Es "int" "str" = some false:=by trivial
theorem An3:Es "int" "bool" = some false:=by trivial
theorem Ap9:Es "int" "list" = some false:=by trivial
theorem Z9:Es "int" "tuple" = some false:=by trivial
theorem Aq8:Es "str" "int" = some false:=by trivial
theorem Aw4:Es "str" "str" = some true:=by trivial
theorem Ak8:Es "str" "bool" = some false:=by trivial
theorem Ah5:Es "str" "list" = some false:=by trivial
theorem Ae6:Es "str" "tuple" = some false:=by trivial
theorem Ao6:Es "list" "int" = some false:=by trivial
theorem Aj9:Es "list" "str" = some false:=by trivial
theorem Ad5:Es "list" "bool" = some false:=by trivial
theorem Aa6:Es "list" "list" = some true:=by trivial
theorem X7:Es "list" "tuple" = some false:=by trivial
theorem Ae3:Es "tuple" "int" = some false:=by trivial
theorem Z1:Es "tuple" "str" = some false:=by trivial
theorem Yb:Es "tuple" "bool" = some false:=by trivial
theorem X8:Es "tuple" "list" = some false:=by trivial
theorem V5:Es "tuple" "tuple" = some true:=by trivial
section
variable {H:Hp}{a:Addr}
theorem B2m (h:H a=some (.lst xs)):Pb H (.ref a)=some "list" := by simp only[Pb,h]
theorem B1c (h:H a=some (.tup xs)):Pb H (.ref a)=some "tuple" := by simp only[Pb,h]
theorem Bl1 (h:H a=some (.lst xs)):A4j H (.ref a)=some xs.length:=by simp only[A4j,h]
theorem Bh9 (h:H a=some (.tup xs)):A4j H (.ref a)=some xs.length:=by simp only[A4j,h]
end
abbrev g2 (K:v8)(i j:Nat):TG:=A5i K 2 (Rf (Lk i) (Rf (Lk j) A5g))
mutual
noncomputable def noL:t6->Bool
 | .none=>true
 | .bool _=>true
 | .int _=>true
 | .str _=>true
 | .tuple ds=>Tn ds
 | .list _=>false
 | .dict _=>false
noncomputable def Tn:w5->Bool
 | []=>true
 | d::r=>noL d&&Tn r
end
theorem TrL.get {H:Hp}:∀{ds:w5}{vs:n7}{k:Nat}{v:V},TrL H ds vs->vs[k]?=some v->∃d,ds[k]?=some d/\Tr H d v
 | [],_,k,v,h,e=>by cases (show _=[] from h);simp at e
 | d::r,_,0,v,⟨_,_,rfl,q,_⟩,e=>by simp at e;subst e;exact⟨d,rfl,q⟩
 | d::r,_,k+1,v,⟨_,_,rfl,_,q⟩,e=>by simp at e;simpa using TrL.get q e
theorem TrL.got {H:Hp}:∀{ds:w5}{vs:n7}{k:Nat}{d:t6},TrL H ds vs->ds[k]?=some d->∃v,vs[k]?=some v/\Tr H d v
 | [],_,k,d,h,e=>by simp at e
 | d::r,_,0,_,⟨v,_,rfl,q,_⟩,e=>by simp at e;subst e;exact⟨v,rfl,q⟩
 | d::r,_,k+1,_,⟨_,_,rfl,_,q⟩,e=>by simp at e;simpa using TrL.got q e
theorem TrL.app {H:Hp}:∀{ds es:w5}{vs us:n7},TrL H ds vs->TrL H es us->TrL H (ds++es) (vs++us)
 | [],es,_,us,h,q=>by cases (show _=[] from h);exact q
 | d::r,es,_,us,⟨v,vr,rfl,q1,q2⟩,q=>⟨v,vr++us,rfl,q1,TrL.app q2 q⟩
theorem TrL.one (h:Tr H d v):TrL H [d] [v]:=⟨v,[],rfl,h,rfl⟩
theorem Ac6 (h:∀d∈ds,noL d=true):Tn ds=true:=by
 induction ds with
 | nil=>rfl
 | cons a r b=>show (noL a&&Tn r)=true;grind
mutual
noncomputable def wt:t6->Nat
 | .none=>4
 | .bool _=>5
 | .int _=>1921
 | .str x=>10*x.length+2
 | .list xs=>La xs+4
 | .tuple xs=>La xs+4
 | .dict _=>0
noncomputable def La:w5->Nat
 | []=>0
 | x::xs=>wt x+2+La xs
end
theorem Ak5:∀(ts:v4) (k:Nat) (acc:Str),(textFrom k acc ts).length<=acc.length+(ts.map fun t=>t.length+2).sum
 | [],k,acc=>aq _
 | t::r,k,acc=>by
  have ih:=Ak5 r (k+1) (acc++(if k>0 then ", " else "" : String)++t)
  have e:(acc++(if k>0 then ", " else "" : String)++t).length<=acc.length+2+t.length:=by
   rw[gw,gw]
   split
   ·exact aq _
   ·show acc.length+0+t.length<=_;lia
  show (textFrom (k+1) (acc++(if k>0 then ", " else "" : String)++t) r).length<=_
  rw[aH,List.sum_cons];lia
theorem A9s (ts:v4):(listText ts).length<=(ts.map fun t=>t.length+2).sum+4:=by
 unfold listText;rw[gw]
 have:=Ak5 ts 0 "["
 have b:("[" : Str).length=1:=rfl
 have a:("]" : Str).length=1:=rfl
 lia
theorem Zn:∀ts:v4,piled ts=(ts.map fun t=>t.length+2).sum
 | []=>rfl
 | t::r=>by rw[piled_cons,aH,List.sum_cons,Zn r]
theorem A2t (ts:v4):(tupleText ts).length<=(ts.map fun t=>t.length+2).sum+4:=by
 unfold tupleText;rw[gw,gw]
 have b:("(" : Str).length=1:=rfl
 have c:(if ts.length==1 then (",)" : Str) else (")" : Str)).length<=2:=by split <;> decide
 have a:((if ts.length==1 then ",)" else ")" : String):Str).length<=2:=by grind
 by_cases h:ts=[]
 ·subst h;show 1+0+_<=_;grind
 ·have:=join_length_add _ h
  rw[Zn]at this;lia
mutual
theorem Aj8:∀d:t6,d.canLay0=true->d.showable=true->d.shown.length<=wt d
 | .none,_,_=>by decide
 | .bool b,_,_=>by cases b <;> decide
 | .int i,_,h=>PyProof.Rows.int_text_len_1921 (by simpa[PyData.showable] using h)
 | .str x,h,_=>StrLaws.reprText_len x fun c hc=>by
  have h:x.cps.all (·<0x110000)=true:=h
  have:=Array.all_eq_true_iff_forall_mem.mp h c (Array.mem_toList_iff.mp hc);have:=aW this;lia
 | .list xs,h,s=>au (A9s _) (Nat.add_le_add_right (Oc xs h s) 4)
 | .tuple xs,h,s=>au (A2t _) (Nat.add_le_add_right (Oc xs h s) 4)
 | .dict kv,h,_=>nomatch h
theorem Oc:∀ds:w5,PyData.canLayAll0 ds=true->PyData.showableAll ds=true->((PyData.shownAll ds).map fun t=>t.length+2).sum<=La ds
 | [],_,_=>aq _
 | d::r,h,s=>by
  obtain⟨h1,h2⟩:=aC.mp (show (d.canLay0&&PyData.canLayAll0 r)=true from h)
  obtain⟨s1,s2⟩:=aC.mp (show (d.showable&&PyData.showableAll r)=true from s)
  have a:=Aj8 d h1 s1;have b:=Oc r h2 s2
  show (((d.shown::PyData.shownAll r).map fun t=>t.length+2).sum)<=wt d+2+La r
  rw[aH,List.sum_cons];lia
end
end L2
namespace HT
open PySem PySem.Spec PyProof.Rows
end HT
namespace L2
open PySem PySem.Spec PyProof.Rows
section
def B6v:R2:=fun x y H Q=>∃i j,x=.str i/\y=.str j/\Q (.bl (!(Builtin.Str.occurrences j i 0 j.length 1).isEmpty)) H
end
section
noncomputable def A0c (y:Str):Value->Bool
 | .str z _=>z==y
 | _=>false
theorem Ab5:∀{ss:v4}{us:w6},Vals (ss.map V.str) us->∀u∈us,∃z t,u=.str z t
 | [],_,r,u,hu=>by cases r;cases hu
 | s::ss,_,r,u,hu=>by
  cases r with
  | cons r1 r2 =>
   rcases aB.mp hu with rfl | hu
   ·obtain⟨t,rfl⟩:=r1;exact⟨s,t,rfl⟩
   ·exact Ab5 r2 u hu
theorem Y7 (y:Str):∀{ss:v4}{us:w6},Vals (ss.map V.str) us->us.countP (A0c y)=ss.countP fun z=>z==y
 | [],_,r=>by cases r;rfl
 | s::ss,_,r=>by
  cases r with
  | cons r1 r2 =>
   obtain⟨t,rfl⟩:=r1;rw[ji,ji,Y7 y r2];rfl
end
end L2
namespace HT
open PySem PySem.Spec PyProof.Rows
section
variable {prog:u5}{w:World}{A:t_}{E:z_}{s:u_}
theorem O5 {lo hi:q9} (ht:IsTup s.heap t items) (hs:s.heap.IsSliceOf b g f .none) (pl:IsPart g lo) (i:IsPart f hi)
 (hw:sIx items.size 0 lo=0/\sIx items.size items.size hi=items.size) (h:Q (.ref t) s):wpAny (model prog w) A (getItem (.ref t) (.ref b)) Q E s:=by
 obtain⟨k,d,c,j⟩:=id hs;have e:s.TypeIs (.ref b) "slice" := ⟨k,d,c⟩;unfold getItem
 try with_reducible refine bB ?_
 first | refine aj (ak ?_) | skip
 refine aj (wpAny_sequenceKey ht.typeIs (by decide) ?_)
 refine aj (cP (name:="__getitem__") ht.typeIs fB
  (bQ fB ht.typeIs entry_tuple_getitem ?_ (args_tuple_getitem _ _)))
 show wpAny _ _ (Builtin.Tuple.tupleItemsOf (.ref t) >>= _) _ _ s
 refine aj (tupleItemsOf_ ht ?_)
 refine aj (dI e ?_)
 rw[if_pos (by decide)]
 refine aj (Lf hs pl i ?_)
 show wpAny _ _ (if (((sIx items.size 0 lo:Nat):Int)==0&&(1:Int)==1&&(sIx _ _ _-sIx _ 0 _)==items.size)=true then _ else _) _ _ s
 have a:(((sIx items.size 0 lo):Int)==0&&(1:Int)==1&&sIx items.size items.size hi-sIx items.size 0 lo==items.size)=true:=by
  rw[hw.1,hw.2];simp
 rw[if_pos a]
 refine aj (aj (dI ht.typeIs (ak ?_)))
 refine aj (cA ?_)
 first
  | exact ak ⟨_,rfl,ak h⟩
  | exact aj _
  | exact aj _
  | trace_state
end
end HT
namespace L2
open PySem PySem.Spec PyProof.Rows
section
variable {X:Cx}
def Bv4 (K:v8):V->q9->q9->Hp->VK->Prop:=fun x lo hi H Q=>∃a xs,x=.ref a/\SqT K H a xs /\
 (HT.sIx xs.length 0 lo=0/\HT.sIx xs.length xs.length hi=xs.length)/\Q (.ref a) H
theorem Bk7:SlR X (Bv4 X.K):=by
 intro d s σ H x v vl vu lo hi sl Q I k f g e h;obtain⟨a,xs,rfl,j,hw,q⟩:=h
 cases k
 obtain⟨i,r,c,hz⟩:=I.tuple j
 have b := by exact r.length.symm
 refine⟨"tuple",_,fB.lookup,c.typeIs,?_⟩
 exact HT.O5 c f g e (by grind) ⟨.ref a,H,I,rfl,q⟩
end
theorem Xx (l:Addr)(items:v6)(n:Nat)(dd:Option Addr)(sl:Array (u6))(x:Value)(e:Value->Bool)(j:Nat)(hj:j<items.size)
 (p:e items[j]=true) (hno:∀m (hm:m<items.size),m<j->e items[m]=false) :
 Meets (Builtin.«tuple.index» ⟨[.ref l,x],[]⟩)
  (fun A R s=>s.heap.get? l=some { cls:=.type "tuple",dict:=dd,data:=.seq items n,slots:=sl }/\(∀y,y∈items->SeqAt.EqAt A.in1 s y x (e y))/\R (.ok (.ret (.int j s.toks))) { s with toks:=s.toks+1 }) :=
 .of_wp fun f w A R s h=>by
  obtain⟨hp,g,d,tk,os⟩:=s;obtain⟨hl,he,h⟩:=h
  wp_walk using bj hl
  change wpAny _ _ (forIn (m:=Sem) [:min items.size items.size] ((none,()):Option Fin×Unit) _) _ _ _
  rw[Std.Legacy.Range.forIn_eq_forIn_range'];simp only[Std.Legacy.Range.size,eX,Nat.add_sub_cancel,Nat.div_one,fM]
  refine fX _ (fun a b s'=>b.1=none/\s'=⟨hp,g,d,tk,os⟩/\∃i,i<=j/\a=List.range' i (items.size-i)) _ ?_ ?_ _ _ ⟨rfl,rfl,0,aO _,rfl⟩
  ·rintro y a b s' ⟨hb,rfl,i,c,k⟩
   have o:i<items.size:=bR c hj;have hd:items.size-i=(items.size-(i+1))+1:=(Nat.succ_pred_eq_of_pos (Nat.sub_pos_of_lt o)).symm;rw[hd,List.range'_succ]at k
   cases k
   have hg:items[y]?=some items[y]:=by simp[o]
   simp only[hg]
   refine aj (he _ (Array.getElem_mem o) f w _ _ ?_)
   rcases Nat.lt_or_eq_of_le c with lt | rfl
   ·rw[hno y o lt]
    wp_walk
    exact⟨rfl,rfl,y+1,lt,rfl⟩
   ·rw[p]
    wp_walk
    exact⟨_,rfl,h⟩
  ·rintro⟨b1,b2⟩ s' ⟨hb,rfl,i,c,k⟩
   have hz:=cY List.length k
   simp at hz
   lia
section
variable {X:Cx}
theorem A8u (y:Str){ss:v4} (r:Vals (ss.map V.str) us) (hm:m<us.length) (h2:m<ss.length):A0c y us[m]=(ss[m]==y):=by
 obtain⟨u,a,b⟩:=r.get (i:=m) (x:=V.str ss[m]) (by grind)
 obtain⟨t,rfl⟩:=b;rw[bG hm]at a
 injection a with a
 rw[a];rfl
def Z6 (K:v8):V->n7->Hp->VK->Prop:=fun x vs H Q=>∃(a:Addr) (ss:v4) (y:Str) (j:Nat),x=.ref a/\vs=[.str y]/\SqT K H a (ss.map V.str)/\ss[j]?=some y/\(∀m<j,ss[m]?≠some y)/\Q (.int (j:Nat)) H
theorem A2r:MtM X "tuple.index" (Z6 X.K):=by
 intro i s σ H x vs v us Q I D A h;obtain⟨a,C,y,j,rfl,rfl,G,B,M,q⟩:=h
 cases D
 obtain⟨u,rfl,p⟩:=A.one;obtain⟨t,rfl⟩:=p;obtain⟨b,r,l,hz⟩:=I.tuple G
 obtain⟨o,e,k,n,f⟩:=(show s.heap.IsTuple a b.toArray from l)
 obtain⟨c0,dd,E,sl⟩:=o
 dsimp only at k f
 subst k f
 have c := by have:=r.length;simpa using this.symm
 obtain⟨g,ej⟩:=aZ.mp B
 refine dO F.slot_tuple_index ⟨_,e,rfl⟩ F.entry_tuple_index (F.args_tuple_index_2 _ _) (Xx a _ n _ _ _ (A0c y) j (by simpa[c] using g) ?_ ?_) ⟨e,fun w K=>?_,?_⟩
 ·have:=A8u y r (by lia) g
  simp_all
 ·intro m J L
  have:=A8u y r (by simpa using J) (by lia)
  grind
 ·obtain⟨z,t',rfl⟩:=Ab5 r w (by simpa using K)
  exact iW z _ y t
 ·exact⟨.int _,H,I.tok _,⟨_,rfl⟩,q⟩
theorem Pk (a:X.K=Kq):MtM X "tuple.index" (Z6 Kq):=by
 subst a;exact A2r
end
section
variable {X:Cx}
noncomputable def B6q:V->Option Str
 | .non=>some (Str.ofString "None")
 | .bl b=>some (if b then Str.ofString "True" else Str.ofString "False")
 | .str x=>some x
 | _=>none
def Ud (K:v8):n7->Hp->VK->Prop:=fun xs H Q=>∃x z,xs=[x]/\B6q x=some z/\Q (.str z) H
theorem A2u:CallR X (.type "str") (Ud X.K):=by
 intro d s σ H xs us Q I r h;obtain⟨x,z,rfl,a,q⟩:=h;obtain⟨u,rfl,c⟩:=vals1 r
 cases x with
 | non=>cases a;cases (c);exact P.str_of_none ⟨.str _,H,I.tok _,⟨_,rfl⟩,q⟩
 | bl b=>cases a;cases (c);exact P.str_of_bool ⟨.str _,H,I.tok _,⟨_,by trivial⟩,q⟩
 | str y=>cases a;obtain⟨t,rfl⟩:=c;exact P.str_of_str ⟨.str _,H,I,⟨_,rfl⟩,q⟩
 | _=>cases a
end
section
def B7d (ks:v4)(xs:n7):List (Key×V):=(ks.zip xs).map fun p=>((Sum.inr p.1:Key),p.2)
end
end L2
namespace L2
open PySem PySem.Spec PyProof.Rows PySem.W
section
open PySem.SeqAt
open PySem.AutoSeq1 (wpAny_loadPart')
open PySem.MeetsSeq PySem.MeetsSeq2 PySem.MeetsSeq3
theorem A2n (l b:Addr)(items c:v6)(n T:Nat)(dd D:Option Addr)(N G:Array (u6))(r:Bool)(k:Nat) :
 ∀
  (i:Nat) (vs z:w6),items.toList.drop i=vs->c.toList.drop i=z->i<=items.size->i<=c.size->vs.length=k->Meets (Builtin.«list.__eq__.loop» ⟨[.ref l,.ref b,rawInt i,rawInt 0],[]⟩)
  (fun A R s=>s.heap.get? l=some { cls:=.type "list",dict:=dd,data:=.seq items n,slots:=N }/\s.heap.get? b=some { cls:=.type "list",dict:=D,data:=.seq c T,slots:=G } /\
   O6 false A.in1 s vs z r/\R (.ok (.ret (.bool r))) s):=by
 have m:∀{f:v6} {i:Nat},f.toList.drop i=[]->f[((i:Nat):Int).toNat]?=none:=fun {f i} e=>by
  have:=ik.mp e
  simp at this ⊢;lia
 have a:∀{f:v6} {i:Nat} {x:Value} {r:w6},f.toList.drop i=x::r->f[((i:Nat):Int).toNat]?=some x/\f.toList.drop (i+1)=r/\i<f.size:=fun {f i x r} e=>by
  have J:i<f.size:=by
   rcases bO i f.size with h | h
   ·exact h
   ·rw[List.drop_eq_nil_of_le (by simpa using h)]at e;cases e
  rw[jj (by simpa using J)]at e
  injection e with e1 e2
  exact⟨by simp[J];simpa using e1,e2,J⟩
 induction k with
 | zero =>
  intro i vs z t q S P y j w A R s h;obtain⟨H,g,d,B,I⟩:=s;obtain⟨o,p,L,h⟩:=h;have C:vs=[]:=List.length_eq_zero_iff.mp y;subst C
  wp_walk using bj o,bj p
  rw[m t]
  have V:items.size=i:=by have:=ik.mp t;simp at this;lia
  wp_walk using bj o,bj p
  show R (.ok (.ret (.bool (decide (items.size<c.size))))) _
  have C:decide (items.size<c.size)=r:=by
   cases L with
   | nn=>have:=ik.mp q;simp at this;exact aR (by lia)
   | nc=>exact aK (by have:=(a q).2.2;lia)
  rw[C];exact h
 | succ k O =>
  intro i vs z t q S P y j w A R s h;obtain⟨H,g,d,B,I⟩:=s;obtain⟨o,p,L,h⟩:=h
  cases L with
  | nn=>cases y
  | nc=>cases y
  | cn =>
   wp_walk using bj o,bj p
   rw[(a t).1,m q]
   wp_walk using bj o,bj p
   show R (.ok (.ret (.bool (decide (items.size<c.size))))) _
   have:=(a t).2.2;have:=ik.mp q
   simp at this
   rw[aR (by lia)];exact h
  | eq K M =>
   have u:=a t;have v:=a q
   have U:((i:Int)+1)=((i+1:Nat):Int):=by push_cast;rfl
   wp_walk using bj o,bj p
   rw[u.1,v.1]
   refine aj (K j w _ _ ?_)
   wp_walk
   rw[U]
   exact⟨bT ir _,bZ entry_eq_loop (by
    rw[cu ir _]
    exact O (i+1) _ _ u.2.1 v.2.1 u.2.2 v.2.2 (by simpa using y) j w A R _ ⟨o,p,M,h⟩)⟩
  | ne K M =>
   have u:=a t;have v:=a q
   wp_walk using bj o,bj p
   rw[u.1,v.1]
   refine aj (K j w _ _ ?_)
   have F:∀(E:z_) (Q:z_),Q (.bool r) ⟨H,g,d,B,I⟩->wpAny (model j w) A.in1 (richCompare .Lt _ _) Q E ⟨H,g,d,B,I⟩:=M j w
   wp_walk using bj o,bj p
   rw[u.1,v.1]
   wp_walk using F
   simpa using h
theorem A3z (l b:Addr)(items a:v6)(n f:Nat)(dd e:Option Addr)(i c:Array (u6))(r:Bool) :
 Meets (Builtin.«list.__lt__» ⟨[.ref l,.ref b],[]⟩)
  (fun A R s=>s.heap.get? l=some { cls:=.type "list",dict:=dd,data:=.seq items n,slots:=i }/\s.heap.get? b=some { cls:=.type "list",dict:=e,data:=.seq a f,slots:=c } /\
   O6 false A.in1 s items.toList a.toList r/\R (.ok (.ret (.bool r))) s):=by
 intro k w A R s h;obtain⟨q,g,d,t,u⟩:=s;obtain⟨j,m,o,h⟩:=h;have p:=AutoSeq1.sub_list_list
 wp_walk using bj j,bj m
 exact⟨bT ir _,bZ entry_eq_loop (by
  rw[cu ir _]
  exact A2n l b items a n f dd e i c r _ 0 _ _ rfl rfl (aO _) (aO _) rfl _ w A R _ ⟨j,m,o,h⟩)⟩
end
noncomputable def kEv {α:Type}(B:Nat->Nat->Option Bool):KasT α->Option α
 | .ret a=>some a
 | .ask i j k=>(B i j).bind fun b=>kEv B (k b)
theorem A7w {α:Type}{cmp:Nat->Nat->(Bool->u_->Prop)->u_->Prop}{B:Nat->Nat->Option Bool}{s:u_}(hc:∀i j b C,B i j=some b->C b s->cmp i j C s){G:α->u_->Prop} :
 ∀(t:KasT α) (a:α),kEv B t=some a->G a s->t.kasWp cmp G s
 | .ret a,a',e,g=>by cases e;exact g
 | .ask i j k,a',e,g=>by
  obtain⟨b,e1,e2⟩:=cH.mp (show (B i j).bind (fun b=>kEv B (k b))=some a' from e)
  exact hc i j b _ e1 (A7w hc (k b) a' e2 g)
noncomputable def Au1 (b:Bool):t6->Bool
 | .tuple (.int _::_)=>b
 | .tuple (.tuple _::_)=>!b
 | _=>false
section
variable {prog:u5}{w:World}{A:t_}{E:z_}{s:u_}{b fin:Bool}{Q:Bool->u_->Prop}
theorem Ae5:∀{vs ws:w6}{r:Bool},O6 false A s vs ws r->∀i,(b&&i==0)=false->fin=decide (vs.length<ws.length)->Q r s->KatLex prog w A b fin Q (vs.zip ws) i s
 | _,_,_,.nn,i,_,hf,h=>by
  have e:fin=false:=hf;subst e;exact kat_nil h
 | _,_,_,.nc (y:=y) (ys:=ys),i,_,hf,h=>by
  have e:fin=true:=hf.trans (aK (by rw[dB,aP];lia))
  subst e;exact kat_nil h
 | _,_,_,.cn (x:=x) (xs:=xs),i,_,hf,h=>by
  have e:fin=false:=hf.trans (aR (by rw[dB,aP];lia))
  subst e;exact kat_nil h
 | _,_,_,.eq he hr,i,hi,hf,h=>kat_cons (he prog w _ _ (kat_yes (Ae5 hr (i+1) (by simp) (hf.trans (by simp)) h)))
 | _,_,_,.ne he hr,i,hi,hf,h=>kat_cons (he prog w _ _ (kat_no (by rw[hi];exact kat_one _ _ (hr prog w _ _ h))))
theorem B6u (m:ReadsAll s.heap us (.int i::xs) k) (o:ReadsAll s.heap vs (.int j::ys) bs) (p:PyData.canLayAll0 (.int i::xs)=true) (g:PyData.canLayAll0 (.int j::ys)=true)
 (hu:A.units+PyData.depthAll (.int i::xs)<cLine) (hc:Nx false (.int i::xs) (.int j::ys)=some r) (hf:fin=decide (us.length<vs.length)) (h:Q r s):KatLex prog w A true fin Q (us.zip vs) 0 s:=by
 cases m with
 | cons c l =>
  cases o with
  | cons d n =>
   have b:=aC.mp p;have a:=aC.mp g;have q:A.units+max (PyData.int i).depth (PyData.depthAll xs)<cLine:=hu
   have e:=gM (.int i) (.int j) A s _ _ _ _ c d b.1 a.1 (by lia)
   rw[Nx]at hc
   by_cases he:PyData.eqv (.int i) (.int j)=true
   ·rw[if_pos he]at hc
    rw[he]at e
    exact kat_cons (e prog w _ _ (kat_yes (Ae5 (Qj false xs ys A s _ _ _ _ r l n b.2 a.2 (by lia) hc) 1 (by simp) (hf.trans (by simp)) h)))
   ·rw[if_neg he]at hc
    rw[j8 _ |>.mp he]at e
    refine kat_cons (e _ w _ _ (kat_no ?_))
    cases c
    cases d
    have f := by simpa[Hi] using hc
    rw[<- f]at h;exact(kat_lt_int h:wpAny _ A _ Q _ s)
theorem Bf1 (t:Reads s.heap u a n) (x:Reads s.heap v d bs) (f:a.canLay0=true) (e:d.canLay0=true)
 (fa:Au1 b a=true) (fb:Au1 b d=true) (hu:A.units+a.depth<cLine) (hc:Hi false a d=some r) (h:Q r s):wpAny (model prog w) A (keyLt' (tuples' b) u v) Q E s:=by
 cases a with
 | tuple l =>
  cases d with
  | tuple m =>
   cases t with
   | tuple o B q g =>
    cases x with
    | tuple p z y k =>
     have c:A.units+(PyData.depthAll _+1)<cLine:=hu
     refine kat_lt o q p y ?_
     cases b with
     | false=>exact Ae5 (Qj _ _ _ A s _ _ _ _ r g k f e (by lia) hc) 0 rfl (by simp) h
     | true =>
      match l,m,fa,fb,g,k,f,e,c,hc with
      | .int i::l,.int j::m,_,_,g,k,f,e,c,hc=>exact B6u g k f e (by lia) hc (by simp) h
  | _=>cases fb
 | _=>cases fa
end
inductive Kd where
 | ti | tt | tl | ii | ll
noncomputable def Nt:Kd->t6->Bool
 | .ti,.tuple (.int _::_)=>true
 | .tt,.tuple (.tuple _::_)=>true
 | .tl,.tuple (.list _::_)=>true
 | .ii,.int _=>true
 | .ll,.list _=>true
 | _,_=>false
theorem Ju (h:Nt kd d=true):match kd with
 | .ti=>∃i xs,d=.tuple (.int i::xs)
 | .tt=>∃ys xs,d=.tuple (.tuple ys::xs)
 | .tl=>∃ys xs,d=.tuple (.list ys::xs)
 | .ii=>∃i,d=.int i
 | .ll=>∃xs,d=.list xs:=by
 unfold Nt at h
 split at h
 ·exact⟨_,_,rfl⟩
 ·exact⟨_,_,rfl⟩
 ·exact⟨_,_,rfl⟩
 ·exact⟨_,rfl⟩
 ·exact⟨_,rfl⟩
 ·cases h
noncomputable def kdK:Kd->SortKind
 | .ti=>tuples' true
 | .tt=>tuples' false
 | .tl=>tuples' true
 | .ii=>oneType'
 | .ll=>oneType'
def B5e (x y:t6):Option Bool:=match x,y with
 | .tuple (.list a::xs),.tuple (.list b::ys)=>if PyData.eqv (.list a) (.list b)=true then Nx false xs ys else Nx false a b
 | _,_=>none
def B4b (x y:t6):Option Bool:=match x,y with
 | .list a,.list b=>Nx false a b
 | _,_=>none
def Bp7 (kd:Kd)(x y:t6):Option Bool:=match kd with
 | .tl=>B5e x y
 | .ll=>B4b x y
 | _=>Hi false x y
def A4o (kd:Kd)(ds:w5)(i j:Nat):Option Bool:=match ds[i]?,ds[j]? with
 | some x,some y=>Bp7 kd x y
 | _,_=>none
section
variable {prog:u5}{w:World}{A:t_}{E:z_}{s:u_}{fin:Bool}{Q:Bool->u_->Prop}
theorem W8 (h1:s.heap.get? l=some o) (h2:o.cls=.type "list") (f:o.data=.seq items n) (g:s.heap.get? b=some c) (i:c.cls=.type "list") (k:c.data=.seq a p)
 (hx:O6 false A.in1 s items.toList a.toList r) (hu:A.units<cLine) (h:Q r s):wpAny (model prog w) A (oneLt' true (.ref l) (.ref b)) Q E s:=by
 obtain⟨q,u,m,v⟩:=o;obtain⟨t,j,d,e⟩:=c;subst h2 f i k
 refine aj (wpAny_cRoomFor hu ?_)
 refine aj (wpAny_callSpecialIfBound?_slot ⟨_,h1,rfl⟩ F.slot_list_lt (dO F.slot_list_lt ⟨_,h1,rfl⟩ F.entry_list_lt (F.args_list_lt_2 _ _) (A3z l b _ _ n _ _ _ _ _ r) ⟨h1,g,hx,?_⟩))
 exact dH h
theorem B6r (k:ReadsAll s.heap us (.list a::xs) p) (m:ReadsAll s.heap vs (.list b::ys) bs) (o:PyData.canLayAll0 (.list a::xs)=true) (j:PyData.canLayAll0 (.list b::ys)=true)
 (hu:A.units+PyData.depthAll (.list a::xs)<cLine) (hc:B5e (.tuple (.list a::xs)) (.tuple (.list b::ys))=some r) (hf:fin=decide (us.length<vs.length)) (h:Q r s):KatLex prog w A true fin Q (us.zip vs) 0 s:=by
 cases k with
 | cons g l =>
  cases m with
  | cons f n =>
   have c:=aC.mp o;have d:=aC.mp j;have q:A.units+max (PyData.list a).depth (PyData.depthAll xs)<cLine:=hu;have C:(PyData.list a).depth=PyData.depthAll a+1:=rfl
   have e:=gM (.list a) (.list b) A s _ _ _ _ g f c.1 d.1 (by lia)
   have hc:(if PyData.eqv (.list a) _=true then Nx _ _ _ else Nx _ a b)=some r:=hc
   by_cases he:PyData.eqv (.list a) (.list b)=true
   ·rw[if_pos he]at hc
    rw[he]at e
    exact kat_cons (e _ w _ _ (kat_yes (Ae5 (Qj _ _ _ A s _ _ _ _ r l n c.2 d.2 (by lia) hc) 1 (by simp) (hf.trans (by simp)) h)))
   ·rw[if_neg he]at hc
    rw[j8 _ |>.mp he]at e
    refine kat_cons (e _ w _ _ (kat_no ?_))
    cases g with
    | list u v x t =>
     cases f with
     | list z y B i=>exact W8 u v x z y B (Qj _ a b _ s _ _ _ _ r t i c.1 d.1 (by grind) hc) (by lia) h
theorem Bl5 (d:Reads s.heap u a F) (e:Reads s.heap v l bs) (m:a.canLay0=true) (k:l.canLay0=true)
 (fa:Nt kd a=true) (fb:Nt kd l=true) (hu:A.units+a.depth<cLine) (hc:Bp7 kd a l=some r) (h:Q r s):wpAny (model prog w) A (keyLt' (kdK kd) u v) Q E s:=by
 have c:=Ju fa;have f:=Ju fb
 cases kd with
 | ti =>
  obtain⟨i,g,rfl⟩:=c;obtain⟨j,n,rfl⟩:=f;exact Bf1 (b:=true) d e m k rfl rfl hu hc h
 | tt =>
  obtain⟨i,g,rfl⟩:=c;obtain⟨j,n,rfl⟩:=f;exact Bf1 (b:=false) d e m k rfl rfl hu hc h
 | tl =>
  obtain⟨i,g,rfl⟩:=c;obtain⟨j,n,rfl⟩:=f
  cases d with
  | tuple t B x o =>
   cases e with
   | tuple p C q y =>
    refine kat_lt t x p q (B6r o y m k ?_ hc (by simp) h)
    have z:A.units+(PyData.depthAll (.list i::g)+1)<cLine:=hu;lia
 | ii =>
  obtain⟨i,rfl⟩:=c;obtain⟨j,rfl⟩:=f
  cases d
  cases e
  have D:decide (i<j)=r:=by simpa[Bp7,Hi] using hc
  rw[<- D]at h;exact kat_lt_int h
 | ll =>
  obtain⟨g,rfl⟩:=c;obtain⟨n,rfl⟩:=f
  cases d with
  | list t B x o =>
   cases e with
   | list p C q y =>
    have z:A.units+(PyData.depthAll g+1)<cLine:=hu
    show wpAny (model prog w) A (keyLt' oneType' _ _) Q E s
    rw[keyLt'_oneType]
    exact W8 t B x p C q (Qj _ _ _ _ s _ _ _ _ r o y m k (by show A.units+1+_<_;lia) hc) (by lia) h
end
section
variable {M:Model}{A:t_}{E:z_}{s:u_}
noncomputable def tyK (b:Bool):Value:=if b then .type "int" else .type "tuple"
theorem Vz (r:ReadsAll h vs (d::ds) a):∃v as',vs[0]?=some v/\Reads h v d as':=by
 cases r with
 | cons c b=>grind
theorem Vi {h:Heap}{b:Bool}:∀{us:w6}{ds:w5}{as:v5},ReadsAll h us ds as->ds.all (Au1 b)=true->∃fs,KatTups h us fs/\fs.length=us.length/\∀v∈fs,Looks M h (typeOf v) (tyK b)
 | _,_,_,.nil,_=>⟨[],trivial,rfl,fun v z=>nomatch z⟩
 | _,_,_,.cons (d:=d) r1 r2,hb=>by
  obtain⟨h1,h2⟩:=aC.mp (show (Au1 b d&&_)=true from hb)
  obtain⟨fs,t,l,k⟩:=Vi r2 h2
  cases d with
  | tuple xs =>
   cases r1 with
   | tuple e1 e2 e3 e4 =>
    match xs,h1,e4 with
    | .int i::xs,h1,e4 =>
     obtain⟨v,as',f1,f2⟩:=Vz e4;have hb':b=true:=h1;subst hb'
     cases f2 with
     | int i t0=>
      exact⟨.int i t0::fs,KatTups.cons e1 e2 e3 (by rw[<- fO];exact f1) t,by rw[aP,aP,l],fun v hv=>by
       rcases aB.mp hv with rfl | hv
       ·exact Looks.now
       ·exact k v hv⟩
    | .tuple ys::xs,h1,e4 =>
     obtain⟨v,as',f1,f2⟩:=Vz e4
     have hb':b=false:=by simpa[Au1] using h1
     subst hb'
     cases f2 with
     | tuple g1 g2 g3 g4=>
      exact⟨_::fs,KatTups.cons e1 e2 e3 (by rw[<- fO];exact f1) t,by rw[aP,aP,l],fun v hv=>by
       rcases aB.mp hv with rfl | hv
       ·have q:=(Looks.ld (M:=M) (part:=none) g1).andThen (f:=fun o=>pure o.cls) .now
        rw[g2]at q;exact q
       ·exact k v hv⟩
  | _=>cases h1
theorem An2 (r:ReadsAll s.heap us ds a) (hb:ds.all (Au1 b)=true) (d:0<us.length) (h:Q (tuples' b) s):wpAny M A (keyKind' us.toArray) Q E s:=by
 obtain⟨c,t,l,k⟩:=Vi r hb
 refine kat_kind t (by lia) k (by simp_all) ?_
 cases b <;> exact h
theorem Al7 {h:Heap}:∀{us:w6}{ds:w5}{as:v5},ReadsAll h us ds as->ds.all (Nt .tl)=true->∃fs,KatTups h us fs/\fs.length=us.length/\∀v∈fs,Looks M h (typeOf v) (.type "list")
 | _,_,_,.nil,_=>⟨[],trivial,rfl,fun v z=>nomatch z⟩
 | _,_,_,.cons (d:=d) r1 r2,hb=>by
  obtain⟨h1,h2⟩:=aC.mp (show (Nt .tl d&&_)=true from hb)
  obtain⟨fs,t,l,k⟩:=Al7 r2 h2;obtain⟨_,_,rfl⟩:=Ju h1
  cases r1 with
  | tuple e1 e2 e3 e4 =>
   obtain⟨v,as',f1,f2⟩:=Vz e4
   cases f2 with
   | list g1 g2 g3 g4=>
    exact⟨_::fs,KatTups.cons e1 e2 e3 (by rw[<- fO];exact f1) t,by rw[aP,aP,l],fun v hv=>by
     rcases aB.mp hv with rfl | hv
     ·have q:=(Looks.ld (M:=M) (part:=none) g1).andThen (f:=fun o=>pure o.cls) .now
      rw[g2]at q;exact q
     ·exact k v hv⟩
theorem Ap1 {h:Heap}:∀{us:w6}{ds:w5}{as:v5},ReadsAll h us ds as->ds.all (Nt .ll)=true->∀v∈us,Looks M h (typeOf v) (.type "list")
 | _,_,_,.nil,_,v,z=>nomatch z
 | _,_,_,.cons (d:=d) r1 r2,hb,v,hv=>by
  obtain⟨h1,h2⟩:=aC.mp (show (Nt .ll d&&_)=true from hb)
  rcases aB.mp hv with rfl | hv
  ·obtain⟨_,rfl⟩:=Ju h1
   cases r1 with
   | list g1 g2 g3 g4 =>
    have q:=(Looks.ld (M:=M) (part:=none) g1).andThen (f:=fun o=>pure o.cls) .now
    rw[g2]at q;exact q
  ·exact Ap1 r2 h2 v hv
theorem ints_of {h:Heap}:∀{us:w6}{ds:w5}{as:v5},ReadsAll h us ds as->ds.all (Nt .ii)=true->∃ns,IntsAre us ns
 | _,_,_,.nil,_=>⟨[],.nil⟩
 | _,_,_,.cons (d:=d) r1 r2,hb=>by
  obtain⟨h1,h2⟩:=aC.mp (show (Nt .ii d&&_)=true from hb)
  obtain⟨ns,t⟩:=ints_of r2 h2;obtain⟨_,rfl⟩:=Ju h1
  cases r1 with
  | int i t0=>exact⟨_::ns,.cons _ _ t⟩
theorem A0p : ∀{ds:w5},ds.all (Nt (if b then .ti else .tt))=true->ds.all (Au1 b)=true:=fun {ds} h=>by
 rw[cG]at h ⊢;intro d a;have:=Ju (h d a)
 cases b
 ·obtain⟨_,_,rfl⟩:=this;rfl
 ·obtain⟨_,_,rfl⟩:=this;rfl
theorem A6o (r:ReadsAll s.heap us ds c) (hb:ds.all (Nt kd)=true) (a:2<=us.length) (h:Q (kdK kd) s):wpAny M A (keyKind' us.toArray) Q E s:=by
 cases kd with
 | ti=>exact An2 (b:=true) r (A0p hb) (by lia) h
 | tt=>exact An2 (b:=false) r (A0p hb) (by lia) h
 | tl =>
  obtain⟨e,t,l,k⟩:=Al7 r hb
  exact kat_kind t (by lia) k (by rfl) h
 | ii =>
  obtain⟨d,t⟩:=ints_of r hb
  rw[ksk_kind (by assumption) (by trivial)]
  exact ak h
 | ll=>exact kas_kind a (Ap1 r hb) (by rfl) (by rfl) h
theorem Zq {body:Value->PUnit->Sem (ForInStep PUnit)}{Iv:w6->u_->Prop}(step:∀x rest s,Iv (x::rest) s->wpAny M A (body x ⟨⟩) (fun r s'=>r=.yield ⟨⟩/\Iv rest s') E s) :
 ∀(l:w6) (s:u_),Iv l s->wpAny M A (forIn l PUnit.unit body) (fun _ s'=>Iv [] s') E s
 | [],s,h=>by rw[gq];exact ak h
 | x::l,s,h=>by
  rw[eQ]
  refine aj (aU (step x l s h) (fun q s' hq=>?_) fun _ _ z=>z)
  obtain⟨rfl,h'⟩:=hq;exact Zq step l s' h'
end
section
variable {X:Cx}{pins:y_}{σ:St}{H:Hp}{s:u_}{h':Heap}
theorem Inv.adopt (I:Inv X pins σ H s) (k:∀b u,b≠D->s.heap.get? b=some u->h'.get? b=some u) (hn:H D=none) (h:D≠X.env.locals) (h1:X.s₀.heap.objs.size<=D)
 (h2:∀x c,X.env.cells.lookup x=some c->c≠D) (A:∀p∈X.pn++pins,p.1≠D) (i:z9 X.prog X.w (upd H D o) h' D o):Inv X pins σ (upd H D o) { s with heap:=h',toks:=t' }:=by
 have a:∀b u,H b=some u->b≠D:=fun b u e z=>by simp_all
 refine I.step (g':=s.gens) (d':=s.drawn) (ch:=[D]) (fun b f=>?_) (fun b o _ _ d e _=>k b o (fun z=>d (by simp[z])) e) (fun b o _ _ d e _=>⟨o.slots,k b o (fun z=>d (by grind)) e⟩) (fun b o d e n=>by rw[Ai (fun z=>d (by simp[z]))];exact n)
  (fun b o d e=>⟨o,k b o (fun z=>d (by grind)) e⟩) (fun b g e=>by rw[Ai (a _ _ e)];exact e) (fun b _ _ e=>by rw[Ai (a _ _ e)];exact e) (fun b y e=>by rw[Ai (a _ _ e)];exact e) (fun m j=>?_) (fun b u e=>?_) I.bare
 ·grind
 ·obtain⟨o,t,l,w,r⟩:=j
  exact⟨o,t,l,k _ o (aG h) w,r⟩
 ·by_cases f:b=D
  ·subst f;rw[Ay]at e;grind
  ·rw[Ai f]at e
   refine (I.hok b u e).stay (fun c v d q=>k c v ?_ q) (fun c q=>by rw[Ai (a _ _ q)];exact q) (fun c g q=>by rw[Ai (a _ _ q)];exact q) fun c B g q=>by rw[Ai (a _ _ q)];exact q
   grind
theorem Bi7 (F:FnOk X.prog X.w X.K X.mg X.base CX0 k f a ps sp) (hr:Room (k+2) X.A) (hb:Binds X.K a ps [])
 (I:Inv X pins σ H s) (r:Vals vs us) (h:sp vs H Q E0):wpAny (model X.prog X.w) X.A.in1.in1 (call (.ref f) us) (EP X pins σ Q) E s:=by
 have c:(us++[]).length=ps.length:=by rw[cN,<- r.length];exact F.len _ _ _ _ h
 refine wpAny_call (eN (F.run _ _ s H _ _ _ Q _ hr.in1.in1 I.env0.in1.in1 (hb s _ I.kIn c) (by grind) h) fun r g d=>?_)
 cases r with
 | error e=>trivial
 | ok b =>
  cases b with
  | ret u=>exact I.after d
  | next=>assumption
  | brk=>assumption
  | cont=>trivial
end
noncomputable def Ao4 (Ky:V->Hp->VK->Prop):n7->n7->Hp->(n7->Hp->Prop)->Prop
 | [],ks,H,k=>k ks H
 | x::xs,ks,H,k=>Ky x H (fun kv H1=>Ao4 Ky xs (ks++[kv]) H1 k)
abbrev Ay3 (sp:Sp):n7->n7->Hp->(n7->Hp->Prop)->Prop:=Ao4 fun x H Q=>sp [x] H Q E0
def A4i (vs ks:n7)(H:Hp)(Q:VK):Prop :=
 (vs.length<2/\∀p,H p=none->Q (.ref p) (upd H p (.lst vs))) \/
 (2<=vs.length/\vs.length<64/\∃ds kd p,TrL H ds ks/\ds.all (Nt kd)=true/\(∀d∈ds,Flat d)/\kEv (A4o kd ds) (kas_sort vs.length)=some p/\∀l,H l=none->Q (.ref l) (upd H l (.lst (p.toList.map fun i=>vs.getD i .non))))
theorem Ay1:∀{vs:n7}{us:w6},Vals vs us->∀i,RelV (vs.getD i .non) (us.getD i Value.none)
 | _,_,.nil,i=>rfl
 | _,_,.cons r rs,0=>r
 | _,_,.cons r rs,i+1=>Ay1 rs i
theorem Yt {vs:n7}{us:w6}(r:Vals vs us):∀l:List Nat,Vals (l.map fun i=>vs.getD i .non) (l.map fun i=>us.getD i Value.none)
 | []=>.nil
 | i::l=>.cons (Ay1 r i) (Yt r l)
theorem Y6 {v:V}{u:Value}(h:RelV v u):∀{vs:n7}{us:w6},Vals vs us->Vals (vs++[v]) (us++[u])
 | _,_,.nil=>.cons h .nil
 | _,_,.cons r rs=>.cons r (Y6 h rs)
theorem Wx {h:Heap}:∀{us:w6}{ds:w5}{as:v5},ReadsAll h us ds as->∀{i:Nat}{d:t6},ds[i]?=some d->∃as',Reads h (us.getD i Value.none) d as'
 | _,_,_,.nil,i,d,e=>by simp at e
 | _,_,_,.cons r rs,0,d,e=>by simp at e;subst e;exact⟨_,r⟩
 | _,_,_,.cons r rs,i+1,d,e=>Wx rs (by simpa using e)
section
variable {X:Cx}{pins:y_}{σ:St}{H:Hp}{s:u_}{D S:Addr}{e1 n:Nat}{Q:VK}{P:PySem.Fin->u_->Prop}{E:z_}{A:t_}
theorem Yq {d ous:w6} {st:SortSt}(O:X.s₀.heap.objs.size<=D) (G:X.s₀.heap.objs.size<=S) (w:D≠S) (hp:∀p∈X.pn++pins,p.1≠S/\p.1≠D)
 (I:Inv X (pins++[(S,seqObj "list" d.toArray n),(D,seqObj "list" #[] e1)]) σ H s) (hz:outs.length<=sizeLine) (hk:d.length<=sizeLine)
 (ho:(arrOf st).map (·.2)=List.toArray ous) (hf:failedOf st=none) (B:Vals outs ous) (q:∀l,H l=none->Q (.ref l) (upd H l (.lst outs)))
 (F:∀s',EP X pins σ Q (.ref D) s'->P (.done (.ret .none)) s'):wpAny (model X.prog X.w) A (ksk_tail D false e1 (.ref S) st) P E s:=by
 obtain⟨j,k,m,J,N⟩:=I.pin (S,seqObj "list" d.toArray n) (aA _ (aA _ aQ));obtain⟨r,g,h,R,T⟩:=I.pin (D,seqObj "list" #[] e1) (aA _ (aA _ (aY _ aQ)))
 have f:∀x c,X.env.cells.lookup x=some c->c≠S/\c≠D:=fun x c e=>by
  obtain⟨v,U,ho,K⟩:=I.cell x c e
  grind
 have L:Inv X pins σ H s:=I.pins_of fun p hp=>I.pin p (aA _ (bJ _ hp))
 have M:Inv X pins σ H { s with heap:=s.heap.update S (Obj.mapSeq fun _=>#[]) }:=L.turned (t':=s.toks) (fun b o i e=>(bH s.heap _ (aG i)).trans e) k m (.inr G) (fun x c e=>(f x c e).1) (fun p a=>(hp p a).1)
 have t:(s.heap.update S (Obj.mapSeq fun _=>(#[]:v6))).get? D=some (seqObj "list" #[] e1):=(bH s.heap _ (aG w)).trans r
 obtain⟨C,y⟩:∃C,((s.heap.update S (Obj.mapSeq _)).update D (Obj.mapSeq fun _=>ous.toArray)).get? D=some _:=⟨_,get?_update_seq t _⟩
 have z:=B.length;unfold ksk_tail;rw[ho]
 refine aj (iu j rfl ?_ (by simp_all) (aO _))
 refine aj (cQ ?_)
 refine aj (seqEpoch_at t rfl ?_)
 refine aj (iu t rfl ?_ (aO _) (by grind))
 rw[hf]
 simp 
 refine ak (F _ ⟨.ref D,upd H D _,?_,rfl,q D g⟩)
 exact M.adopt (fun b u i e=>(bH _ _ (aG i)).trans e) g h O (fun x c e=>(f x c e).2) (fun p a=>(hp p a).2) ⟨hz,ous,C,B,y⟩
theorem Bd3 (hu:A.units+64<cLine) (R:X.s₀.heap.objs.size<=D) (M:X.s₀.heap.objs.size<=S) (h:D≠S) (hp:∀p∈X.pn++pins,p.1≠S/\p.1≠D)
 (I:Inv X (pins++[(S,seqObj "list" a.toArray n),(D,seqObj "list" #[] e1)]) σ H s) (hz:vs.length<=sizeLine) (m:Vals vs us) (rk:Vals ks a) (hl:a.length=us.length) (hw:A4i vs ks H Q)
 (L:∀d,EP X pins σ Q (.ref D) d->P (.done (.ret .none)) d):wpAny (model X.prog X.w) A (ksk_end D false us.toArray e1 (.ref S) a.toArray) P E s:=by
 have k:=m.length;unfold ksk_end;simp only[cV,bM]
 rcases hw with ⟨Z,q⟩ | ⟨Z,U,w,T,p,t,u,g,f,q⟩
 ·have b:us.toArray.size<2:=by rw[cM];lia
  rw[if_pos b,if_pos b]
  refine aj (ak ?_)
  rw[StateT.run_pure]
  refine aj (ak ?_)
  refine Yq R M h hp I hz (by lia) ?_ rfl m q L
  show (a.toArray.zip us.toArray).map (·.2)=us.toArray
  apply Array.ext';simp only[Array.toList_map,Array.toList_zip]
  exact jk (l₁:=a) (l₂:=us) (by lia)
 ·have b:¬ us.toArray.size<2:=by rw[cM];lia
  rw[if_neg b,if_neg b];obtain⟨as,v⟩:=t.reads I rk
  refine aj (A6o v u (by lia) ?_)
  have o:us.length<64:=by lia
  rw[k]at f
  refine aj (aU (kat_run (Q:=fun c d=>d=s/\arrOf c=p.map (kas_item (a.toArray.zip us.toArray))/\failedOf c=none/\p.size=us.length) (G:=fun F d=>F=p/\d=s) hl (by lia) o (fun F c d y K a3 a4=>?_) (A7w (B:=A4o T w) (fun i j r C e W=>?_) _ p f ⟨rfl,rfl⟩)) ?_ fun _ _ z=>z)
  ·obtain⟨rfl,rfl⟩:=a4
   exact⟨rfl,K,a3,y⟩
  ·unfold A4o at e
   cases ei:w[i]? with
   | none=>rw[ei]at e;cases e
   | some di =>
    cases ej:w[j]? with
    | none=>rw[ei,ej]at e;cases e
    | some dj =>
     rw[ei,ej]at e;obtain⟨y,r1⟩:=Wx v ei;obtain⟨K,r2⟩:=Wx v ej;have J := bc ei;have O := bc ej;have N:=g _ J
     exact Bl5 r1 r2 N.1 (g _ O).1 (cG.mp u _ J) (cG.mp u _ O) (by have:=N.2;lia) e W
  ·rintro⟨⟨⟩,c⟩ d ⟨rfl,x,hf,Y⟩
   refine Yq R M h hp I ?_ (by lia) (kat_snds hl x) hf (Yt m _) q L
   rw[ao,gh];lia
def B6m (X:Cx)(pins:y_)(σ:St)(f:Addr)(Z:Hp->Prop)(Ky:V->Hp->VK->Prop):Prop :=
 ∀(pins':y_) (s:u_) (H:Hp) (x:V) (u:Value) (Q':VK),Inv X (pins++pins') σ H s->Z H->RelV x u->Ky x H Q'->wpAny (model X.prog X.w) X.A.in1.in1 (call (.ref f) [u]) (EP X (pins++pins') σ fun v H'=>Z H'/\Q' v H') (fun _ _=>False) s
theorem A4r (q:B6m X pins σ f Z C) (hr:Room (k+2) X.A)
 (U:X.s₀.heap.objs.size<=D) (J:X.s₀.heap.objs.size<=S) (t:D≠S) (hp:∀p∈X.pn++pins,p.1≠S/\p.1≠D)
 (I:Inv X (pins++[(S,seqObj "list" #[] 0),(D,seqObj "list" #[] e1)]) σ H s) (hZ:Z H) (hz:vs.length<=sizeLine) (o:Vals vs us) (h:Ao4 C vs [] H (fun ks c=>A4i vs ks c Q))
 (hP:∀r,EP X pins σ Q (.ref D) r->P (.done (.ret .none)) r):wpAny (model X.prog X.w) X.A.in1.in1 (ksk_rest D (.ref f) false us.toArray e1 (.ref S)) P E s:=by
 have G:=o.length;unfold ksk_rest
 refine aj (cA ?_)
 rw[<- fW]
 refine aj (aU (Zq (Iv:=fun b s=>∃ks a n c i,Inv X (pins++[(S,seqObj "list" (List.toArray a) n),(D,seqObj "list" #[] e1)]) σ c s/\Vals ks a/\Vals i b/\a.length+b.length=us.length/\Z c/\Ao4 C i ks c (fun ks c=>A4i vs ks c Q)) ?_ us s ⟨[],[],0,H,vs,I,.nil,o,by simp,hZ,h⟩) (fun _ r T=>?_) fun _ _ z=>z)
 ·rintro x b s ⟨ks,a,n,c,i,g,u,w,K,e,m⟩
  rw[aP]at K
  cases w with
  | cons N Y =>
   refine aj (dg (aU (q _ s c _ x _ g e N m) (fun j s2 h2=>?_) fun _ _ z=>z.elim))
   obtain⟨O,R,L,A,B,y⟩:=h2;obtain⟨l,t2,t3,W,t5⟩:=L.pin (S,seqObj "list" a.toArray n) (aA _ (aA _ aQ))
   have ea:(List.toArray a).push j=List.toArray (a++[j]):=by simp
   dsimp only
   refine aj (iu l rfl ?_ (by rw[cM];lia) (by rw[Array.size_push,cM];lia))
   have M:=get?_update_seq l (·.push j)
   rw[ea]at M
   refine ak ⟨rfl,ks++[O],a++[j],_,R,_,L.recS J (fun p d=>?_) (fun p d=>(hp p (bJ _ d)).1) M (fun v z=>by cases z),Y6 A u,Y,?_,B,y⟩
   ·grind
   ·rw[aX,gV];lia
 ·obtain⟨ks,a,n,c,i,g,u,F,K,e,m⟩:=T
  cases F
  obtain⟨l,t2,t3,W,t5⟩:=g.pin _ (aA _ (aA _ aQ))
  refine aj (listItems_at l rfl ?_)
  have hu:X.A.in1.in1.units+64<cLine:=by have:=hr.un;show X.A.units+1+1+64<_;lia
  exact Bd3 hu U J t hp g hz o u (by omega) m hP
theorem Av4 (F:B6m X pins σ f Z N) (hr:Room (k+2) X.A)
 (I:Inv X pins σ H s) (hZ:Z H) (A:SqL X.K H a vs\/SqT X.K H a vs) (h:Ao4 N vs [] H (fun ks H1=>A4i vs ks H1 Q)) :
 wpAny (model X.prog X.w) X.A (call (.builtin "sorted") [.ref a] [(Str.ofString "key",.ref f)]) (EP X pins σ Q) E s:=by
 obtain⟨d,T,o,n,t,hT,ho,J,hd,w⟩:∃(d:w6) (T:String) (o:Obj) (n:Nat),Vals vs d/\(T = "list" \/ T = "tuple")/\s.heap.get? a=some o/\o.cls=.type T/\o.data=.seq d.toArray n/\vs.length<=sizeLine:=by
  rcases A with A | A
  ·obtain⟨d,t,⟨o,n,r,j,c,g4⟩,w⟩:=I.list A
   exact⟨d, "list",o,n,t,.inl rfl,r,j,by first | exact c | exact g4,w⟩
  ·obtain⟨d,t,it,w⟩:=I.tuple A
   obtain⟨o,r,j,n,c⟩:=it;exact⟨d, "tuple",o,n,t,.inr rfl,r,j,c,w⟩
 have O:=t.length
 refine call_function_entry_kw kind_sorted plain_sorted entry_sorted (ksk_s1 _ _) ?_
 unfold Builtin.«sorted»
 refine aj (m:=checkCount "sorted" 1 1 _) (ak ?_)
 refine aj (wpAny_collect_seq a hT ho J hd (fun g U=>?_) (by rw[cM];lia))
 refine aj (gY ?_ (by simp;lia))
 have l:Inv X pins σ H { s with heap:=g }:=I.kept (t':=s.toks) U
 have le:∀b o,s.heap.get? b=some o->b<g.objs.size:=fun b o e=>az (U b o e)
 have P:X.s₀.heap.objs.size<=g.objs.size:=l.sz;generalize hg1:g.push (seqObj "list" d.toArray 0)=r
 have W:r.objs.size=g.objs.size+1:=by rw[<- hg1,size_push']
 have B:r.get? g.objs.size=some (seqObj "list" d.toArray 0):=by rw[<- hg1];exact aJ _ rfl
 refine aj (bB (wpAny_call_entry_kw slot_list_sort ⟨_,B,rfl⟩ entry_list_sort ?_ (ksk_l1 _ _)))
 show wpAny (model X.prog X.w) X.A.in1.in1 (Builtin.«list.sort» ⟨[.ref g.objs.size],[(Str.ofString "key",.ref f)]⟩) _ _ _
 rw[ksk_t1];unfold ksk_tree
 refine aj (listItems_at B rfl ?_)
 refine aj (iu B rfl ?_ (by rw[cM];lia) (aO _))
 generalize hg2:r.update g.objs.size (Obj.mapSeq fun _=>(#[]:v6))=j
 obtain⟨C,x⟩:∃C,j.get? g.objs.size=some (seqObj "list" #[] C):=⟨_,by rw[<- hg2];exact get?_update_seq B fun _=>#[]⟩
 have Y:j.objs.size=g.objs.size+1:=by rw[<- hg2,Heap.size_update,W]
 refine aj (seqEpoch_at x rfl ?_)
 refine aj (wpAny_newTuple ?_ (by simp;lia))
 refine aj (gY ?_ (aO _))
 refine bB ?_
 generalize hg3:j.push { cls:=.type "tuple",data:=.seq d.toArray.toList.toArray }=c
 have e3:c.objs.size=g.objs.size+2:=by rw[<- hg3,bN,Y]
 have M:=l.fpOk (b:=g.objs.size) (aq _) (l.hok.fresh (aq _))
 have G:=l.fpOk (b:=c.objs.size) (by show g.objs.size<=_;lia) (l.hok.fresh (by show g.objs.size<=_;lia))
 have y:∀b u,g.get? b=some u->(c.push { cls:=.type "list",data:=.seq ([]:w6).toArray }).get? b=some u:=fun b u e=>by
  have K:b<g.objs.size:=az e
  have q1:r.get? b=some u:=by rw[<- hg1];exact aF _ e
  have q2:j.get? b=some u:=by rw[<- hg2];exact(bH _ _ (bK K)).trans q1
  have q3:c.get? b=some u:=by rw[<- hg3];exact aF _ q2
  exact aF _ q3
 have R:Inv X pins σ H { s with heap:=c.push { cls:=.type "list",data:=.seq ([]:w6).toArray } }:=l.kept (t':=s.toks) y
 have gS:(c.push { cls:=.type "list",data:=.seq ([]:w6).toArray }).get? c.objs.size=some (seqObj "list" #[] 0):=aJ _ rfl
 have L:(c.push { cls:=.type "list",data:=.seq ([]:w6).toArray }).get? g.objs.size=some (seqObj "list" #[] C):=aF _ (by rw[<- hg3];exact aF _ x)
 have I3:Inv X (pins++[(c.objs.size,seqObj "list" #[] 0),(g.objs.size,seqObj "list" #[] C)]) σ H { s with heap:=c.push { cls:=.type "list",data:=.seq ([]:w6).toArray } }:=R.pins_of fun p i=>by
  rcases bC.mp i with z | z
  ·exact R.pin p (aA _ z)
  ·rcases aB.mp z with rfl | z
   ·exact⟨gS,G.1,G.2.1,G.2.2.1,fun v z=>by cases z⟩
   ·rw[aV.mp z]
    exact⟨L,M.1,M.2.1,M.2.2.1,fun v z=>by cases z⟩
 refine A4r (us:=d) (D:=g.objs.size) (S:=c.objs.size) F hr P (au P (by lia)) (fun z=>by have z:g.objs.size=c.objs.size:=z;lia) (fun p i=>⟨fun z=>?_,fun z=>?_⟩) I3 hZ w t h fun s' q=>⟨_,rfl,ak ⟨_,rfl,q⟩⟩
 ·exact absurd (az (l.pin p i).1) (by rw[z];show ¬ c.objs.size<g.objs.size;lia)
 ·exact absurd (az (l.pin p i).1) (by rw[z];show ¬ g.objs.size<g.objs.size;lia)
theorem At7 (F:FnOk X.prog X.w X.K X.mg X.base CX0 k f c ps sp) (hr:Room (k+2) X.A) (hb:Binds X.K c ps [])
 (I:Inv X pins σ H s) (g:SqL X.K H a vs\/SqT X.K H a vs) (h:Ay3 sp vs [] H (fun ks e=>A4i vs ks e Q)) :
 wpAny (model X.prog X.w) X.A (call (.builtin "sorted") [.ref a] [(Str.ofString "key",.ref f)]) (EP X pins σ Q) E s :=
 Av4 (fun b s H x u m I _ r j=>aU (Bi7 F hr hb I (.cons r .nil) j) (fun _ _ ⟨v,i,l,d,q⟩=>⟨v,i,l,d,trivial,q⟩) fun _ _ z=>z) hr I trivial g h
end
section
variable {X:Cx}{p pos:Pos}{e:Expr}{t tk:TA}{kws:List Keyword}
def B1k (K:v8)(f:Addr)(sp:Sp)(t tk:TA):TE:=fun σ H Q=>t σ H fun vs H1=>tk σ H1 fun zs H2=>∃a xs,vs=[.ref a]/\zs=[.ref f]/\(SqL K H2 a xs\/SqT K H2 a xs)/\Ay3 sp xs [] H2 (fun ks H3=>A4i xs ks H3 Q)
theorem A6a (F:FnOk X.prog X.w X.K X.mg X.base CX0 k f c ps sp) (hr:Room (k+2) X.A) (hb:Binds X.K c ps []) (hg:Gl X "sorted") (hm:X.mg "sorted" = none)
 (ha:PA X [e] t) (hkw:PK X kws tk) (hall:(backToKw pos (keywordEach kws X.env)).all (·.1.isSome)=true:=by rfl) (hks:(backToKw pos (keywordEach kws X.env)).filterMap (·.1)=[Str.ofString "key"]:=by rfl)
 (he:backTo pos (starEach [e] X.env)=(false,eval e X.env)::backTo pos (starEach [] X.env):=by rfl) (hpl:(backTo pos (starEach [e] X.env)).any (·.1)=false:=by rfl) (hno:(backToKw pos (keywordEach kws X.env)).any (·.1.isNone)=false:=by rfl) :
 PE X (.Call (.Name "sorted" p) [e] kws pos) (B1k X.K f sp t tk):=by
 intro b s σ H Q I h
 refine fu (Jf I hg hm boot_sorted ?_ (by decide) (by rfl))
 refine jb (thn (ha _ _ s _ H _ I h) fun us s1 ⟨vs,H1,j,r,q⟩=>?_) he hpl hall hno
 refine thn (hkw _ _ _ _ _ _ j q) fun ws s2 ⟨zs,H2,i,l,g⟩=>?_
 obtain⟨a,xs,rfl,rfl,n,m⟩:=g;obtain⟨u,rfl,o⟩:=vals1 r
 cases (o)
 obtain⟨uf,rfl,d⟩:=vals1 l
 cases (d)
 rw[hks];exact At7 F hr hb i n m
theorem Ak3 (a:X.K=Kq)      (F:FnOk X.prog X.w X.K X.mg X.base CX0 k f b ps sp) (hr:Room (k+2) X.A) (hb:Binds X.K b ps []) (hg:Gl X "sorted") (hm:X.mg "sorted" = none)
 (ha:QA X [e] t) (hkw:QK X kws tk) (hall:(backToKw pos (keywordEach kws X.env)).all (·.1.isSome)=true:=by rfl) (hks:(backToKw pos (keywordEach kws X.env)).filterMap (·.1)=[Str.ofString "key"]:=by rfl)
 (he:backTo pos (starEach [e] X.env)=(false,eval e X.env)::backTo pos (starEach [] X.env):=by rfl) (hpl:(backTo pos (starEach [e] X.env)).any (·.1)=false:=by rfl) (hno:(backToKw pos (keywordEach kws X.env)).any (·.1.isNone)=false:=by rfl) :
 QE X (.Call (.Name "sorted" p) [e] kws pos) (B1k Kq f sp t tk):=by
 subst a;exact⟨A6a F hr hb hg hm ha.get hkw.get hall hks he hpl hno⟩
end
end L2
namespace L2
open PySem PySem.Spec PyProof.Rows
section
variable {X:Cx}
def B4m:V->q9->q9->Hp->VK->Prop:=fun x lo hi H Q=>∃z:Str,x=.str z/\z.length<=sizeLine/\Q (.str (Txt.slice z lo hi)) H
theorem part_of (h:IsPart v o):∃p:Option (Int×Tok),v=partValue p/\p.map (·.1)=o:=by
 cases h with
 | none=>exact⟨none,rfl,rfl⟩
 | int i t=>exact⟨some (i,t),rfl,rfl⟩
theorem By2:SlR X B4m:=by
 intro a s σ H x v vl vu lo hi sl Q I d c b e h;obtain⟨z,rfl,f,q⟩:=h;obtain⟨t,rfl⟩:=d;obtain⟨l,rfl,rfl⟩:=part_of b;obtain⟨u,rfl,rfl⟩:=part_of e
 refine⟨"str",_,F.slot_str_getitem.lookup,typeIs_str _ _ _,wpAny_getItem_str_slice (l:=l) (u:=u) (st:=none) c rfl ?_⟩
 exact post_val_or_str ⟨au (Txt.slice_le z _ _) f,fun t' k=>⟨.str _,H,I.tok _,⟨_,rfl⟩,q⟩⟩
end
section
variable {P:u5}{w:World}{A:t_}{E:z_}{s:u_}
structure Bk6 (h:Heap) (t1 t2:Bool) (z ti to i1 i2 a b p0:Addr) (b1:Bool) (k:Nat):Prop where
 zip:h.get? z=some { cls:=.type "zip",data:=.fields #[rawInt p0,.bool b1,.bool false,.ref ti,.ref to] }
 ins:IsPair h ti (.ref i1) (.ref i2)
 held:∃o,h.get? p0=some o
 one:ItAt t1 h i1 a k
 two:ItAt t2 h i2 b k
theorem Ao9 (e:s.heap.get? p=some o) (h:Q (some o) s):wpAny M A (loadIfAlive p) Q E s:=fun b q a=>by
 show Sem.wp M _ (.loadIfAlive p _) _ _ q s
 simp_all
theorem Ap0 {z c d b:Addr}    (hz:s.heap.get? z=some { cls:=.type "zip",data:=.fields #[rawInt b,.bool e,.bool false,.ref c,.ref d] }) (g:s.heap.get? b=some h)
 (q:∀a:Heap,a.get? z=some { cls:=.type "zip",data:=.fields #[rawInt b,.bool true,.bool false,.ref c,.ref d] }->Heap.SameBut z s.heap a->Q false { s with heap:=a }):wpAny (model P w) A (Builtin.SmallTypes.ownedTupleIsFree (.ref z)) Q E s:=by
 apply aj;apply bw hz rfl rfl
 refine aj (Ao9 (by simpa using g) ?_)
 refine aj ?_
 apply bw hz rfl rfl
 cases e with
 | true=>exact ak (q _ hz (Heap.SameBut.refl _ _))
 | false =>
  apply aj
  apply eV hz (by simp)
  intro a i f;exact ak (q _ i f)
theorem A3e {Q:z_}(d:z7 z l t i h a b) (y:Bk6 s.heap t1 t2 z l t i h a b C L k) (hp:C∉[z,l,t,i,h])
 (ha:SqA t1 s.heap a xs) (hb:SqA t2 s.heap b ys) (hx:xs[k]?=some x) (F:ys[k]?=some x')
 (q:∀h',Bk6 h' t1 t2 z l t i h a b C true (k+1)->IsPair h' s.heap.objs.size x x'->(∀c o,c∉[z,l,t,i,h]->s.heap.get? c=some o->h'.get? c=some o)->Q (.ref s.heap.objs.size) { s with heap:=h' }) :
 wpAny (model P w) A (Builtin.«zip.__next__» ⟨[.ref z],[]⟩) (fun f z=>∃v,f=.done (.ret v)/\Q v z) E s:=by
 have G:=d.na;have D:=d.nb;simp only[aB,bf,bh,not_or]at G D hp;obtain⟨M,I⟩:=y.held;apply aj (m:=field (.ref z) 2);apply bw y.zip rfl (x:=.bool false) rfl;apply aj (m:=field (.ref z) 3);apply bw y.zip rfl (x:=.ref l) rfl;apply aj;apply bY y.ins rfl;apply aj (m:=Builtin.SmallTypes.ownedTupleIsFree (.ref z))
 refine Ap0 y.zip I fun U K n=>?_
 simp only[cV,bM];apply aj;rw[<- fW];simp only[eQ,gq];apply aj;apply aj;apply bB;apply aj (m:=Builtin.SmallTypes.nextOf (.ref i))
 refine next_item (y.one.stay fun o e=>n.extBut _ _ d.z_i1 e) (ha.stay fun o e=>n.extBut _ _ G.1 e) hx fun T O u=>?_
 apply ak;apply ak;apply aj;apply aj;apply bB;apply aj (m:=Builtin.SmallTypes.nextOf (.ref h))
 refine next_item (y.two.stay fun o e=>u.extBut _ _ d.i1_i2.symm (n.extBut _ _ d.z_i2 e)) (hb.stay fun o e=>u.extBut _ _ D.2.2.2.1 (n.extBut _ _ D.1 e)) F fun r J B=>?_
 apply ak;apply ak;apply ak;apply aj
 refine wpAny_newTuple ?_ (show 2<=sizeLine by decide)
 have H:r.objs.size=s.heap.objs.size:=by rw[B.1,u.1,n.1]
 have g:∀c o,c≠z->c≠i->c≠h->s.heap.get? c=some o->r.get? c=some o:=fun c o N S R e=>B.extBut _ _ R (u.extBut _ _ S (n.extBut _ _ N e))
 refine ak ⟨_,rfl,?_⟩
 show Q (.ref r.objs.size) _
 rw[H]
 have j:∀{c:Addr} {o:Obj},r.get? c=some o->(r.push { cls:=.type "tuple",data:=.seq #[x,x'] }).get? c=some o:=fun e=>aF _ e
 refine q _ ⟨j (B.extBut _ _ d.z_i2.symm (u.extBut _ _ d.z_i1.symm K)),j (g _ _ d.z_ti d.ti_i1 d.ti_i2 y.ins),⟨M,j (g _ _ hp.1 hp.2.2.2.1 hp.2.2.2.2 I)⟩,(O.stay fun o e=>B.extBut _ _ d.i1_i2 e).stay fun o e=>j e,J.stay fun o e=>j e⟩ (by rw[<- H];exact aJ _ rfl) fun c o p e=>?_
 simp at p
 exact j (g c o p.1 p.2.2.2.1 p.2.2.2.2 e)
end
section
variable {P:u5}{w:World}{A:t_}{E:z_}{s:u_}{t1 t2:Bool}{z ti to i1 i2 a b p0:Addr}{b1:Bool}{k:Nat}{xs ys:v6}
theorem A4m (f:A.handled=none) (d:z7 z ti to i1 i2 a b) (y:Bk6 s.heap t1 t2 z ti to i1 i2 a b p0 b1 k) (ha:SqA t1 s.heap a xs) (hx:xs[k]?=none)
 (q:∀h' e,(∀c o,c∉[z,ti,to,i1,i2]->s.heap.get? c=some o->h'.get? c=some o)->(∃o,h'.get? e=some o/\o.cls=.type "StopIteration")->E (.ref e) { s with heap:=h' }) :
 wpAny (model P w) A (Builtin.«zip.__next__» ⟨[.ref z],[]⟩) F E s:=by
 have i:=d.na;simp only[aB,bf,bh,not_or]at i;obtain⟨n,j⟩:=y.held;apply aj (m:=field (.ref z) 2);apply bw y.zip rfl (x:=.bool false) rfl;apply aj (m:=field (.ref z) 3);apply bw y.zip rfl (x:=.ref ti) rfl;apply aj;apply bY y.ins rfl;apply aj (m:=Builtin.SmallTypes.ownedTupleIsFree (.ref z))
 refine Ap0 y.zip j fun r u h=>?_
 simp only[cV,bM];apply aj;rw[<- fW];simp only[eQ,gq];apply aj;apply aj;apply bB;apply aj (m:=Builtin.SmallTypes.nextOf (.ref i1))
 refine next_end f (y.one.stay fun o e=>h.extBut _ _ d.z_i1 e) (ha.stay fun o e=>h.extBut _ _ i.1 e) hx fun t x l g=>?_
 refine q _ x (fun c o p e=>?_) g
 simp at p
 exact l _ _ p.2.2.2.1 (h.extBut _ _ p.1 e)
def Zs (h:Heap)(t1 t2:Bool)(z ti to i1 i2 a b:Addr)(k:Nat):Prop:=(k=0/\ZipAt h t1 t2 z ti to i1 i2 a b .none 0)\/∃p0 b1,p0∉[z,ti,to,i1,i2]/\Bk6 h t1 t2 z ti to i1 i2 a b p0 b1 k
theorem Zs.ty (y:Zs s.heap t1 t2 z ti to i1 i2 a b k):s.TypeIs (.ref z) "zip" := by
 rcases y with ⟨_,y⟩ | ⟨_,_,_,y⟩
 ·exact⟨_,y.zip,rfl⟩
 ·exact⟨_,y.zip,rfl⟩
theorem Zs.lt (y:Zs s.heap t1 t2 z ti to i1 i2 a b k):∀c∈[z,ti,i1,i2],c<s.heap.objs.size:=by
 intro c d
 simp at d
 rcases y with ⟨_,y⟩ | ⟨_,_,_,y⟩
 ·rcases d with rfl | rfl | rfl | rfl
  ·exact az y.zip
  ·exact az y.ins
  ·obtain⟨o,e,_⟩:=y.one.obj;exact az e
  ·obtain⟨o,e,_⟩:=y.two.obj;exact az e
 ·rcases d with rfl | rfl | rfl | rfl
  ·exact az y.zip
  ·exact az y.ins
  ·obtain⟨o,e,_⟩:=y.one.obj;exact az e
  ·obtain⟨o,e,_⟩:=y.two.obj;exact az e
theorem Zs.keep (y:Zs h t1 t2 z ti to i1 i2 a b k) (hk:0<k) (d:D∉[z,ti,to,i1,i2]) (c:Heap.SameBut D h h') (j:∀o,h.get? D=some o->∃o',h'.get? D=some o'):Zs h' t1 t2 z ti to i1 i2 a b k:=by
 simp at d
 rcases y with ⟨e,_⟩ | ⟨f,i,g,y⟩
 ·lia
 ·refine .inr ⟨f,i,g,?_⟩
  obtain⟨o,e⟩:=y.held
  refine⟨c.extBut _ _ (aG d.1) y.zip,c.extBut _ _ (aG d.2.1) y.ins,?_,y.one.stay fun o e=>c.extBut _ _ (aG d.2.2.2.1) e,y.two.stay fun o e=>c.extBut _ _ (aG d.2.2.2.2) e⟩
  by_cases z:f=D
  ·grind
  ·exact⟨o,c.extBut _ _ z e⟩
theorem A5j (d:z7 z ti to i1 i2 a b) (n:to<s.heap.objs.size) (y:Zs s.heap t1 t2 z ti to i1 i2 a b k) (ha:SqA t1 s.heap a xs) (hb:SqA t2 s.heap b ys) (hx:xs[k]?=some x) (g:ys[k]?=some x')
 (q:∀h',Zs h' t1 t2 z ti to i1 i2 a b (k+1)->IsPair h' s.heap.objs.size x x'->s.heap.objs.size<h'.objs.size->(∀c o,c∉[z,ti,to,i1,i2]->s.heap.get? c=some o->h'.get? c=some o)->Q (some (.ref s.heap.objs.size)) { s with heap:=h' }) :
 wpAny (model P w) A (pyNext (.ref z)) Q E s:=by
 have j:=y.ty;unfold pyNext;apply aj;apply dg
 refine cP (name:="__next__") j dY ?_
 refine bQ dY j h_ ?_ (ie _)
 have p:s.heap.objs.size∉[z,ti,to,i1,i2]:=fun m=>by
  have l:=y.lt
  grind
 rcases y with ⟨rfl,y⟩ | ⟨t,b1,i,y⟩
 ·refine Ai2 d y ha hb hx g fun r f e h=>?_
  exact ak (q _ (.inr ⟨s.heap.objs.size,false,p,⟨f.zip,f.ins,⟨_,e⟩,f.one,f.two⟩⟩) e (az e) h)
 ·refine A3e d y i ha hb hx g fun r f e h=>?_
  exact ak (q _ (.inr ⟨t,true,i,f⟩) e (az e) h)
theorem ZipAt.kept (y:ZipAt h t1 t2 z ti to i1 i2 a b f k) (d:∀c o,h.get? c=some o->h'.get? c=some o):ZipAt h' t1 t2 z ti to i1 i2 a b f k:=by
 obtain⟨u,v,e⟩:=y.outs
 exact⟨d _ _ y.zip,d _ _ y.ins,⟨u,v,d _ _ e⟩,y.one.stay fun o e=>d _ _ e,y.two.stay fun o e=>d _ _ e⟩
end
end L2
namespace L2
open PySem PySem.Spec PyProof.Rows PySem.W
section
noncomputable def B6s (a C:Addr):HO:=.ext fun h=>∃o,h.get? a=some o/\o.cls=.ref C
end
end L2
namespace L2
open PySem PySem.Spec PyProof.Rows
def TabAt (K:v8)(h:Heap):Prop:=(∀p∈Fp K,h.get? p.1=some { cls:=.none,data:=.fields #[] }/\isCodeTable h p.1/\K.lookup p.1=none)/\∀p∈Fp K,(Fp K).lookup p.1=some p.2
theorem Kf {l:List (Addr×Str)} (h:l.lookup b=some q):(b,q)∈l:=by
 induction l with
 | nil=>grind
 | cons p r a =>
  grind
theorem A2x {K:v8} 
 (KX:K.In c.heap) (hns:c.heap.Ns mainGlobals mg) (hb:c.heap.Ns builtinsNs U) (X:∀x:Str,x ≠ "__name__" -> U x=bootBuiltins x) (L:c.heap.NoLimit) (hg:c.gens=#[])
 (T:∃j o,mg "__builtins__" = some (.ref j)/\j≠builtinsNs/\c.heap.get? j=some o/\o.cls=.type "module" /\ o.dict=some builtinsNs/\o.data=.plain) (D:TabAt K c.heap)
 (ha:c.heap.get? a=some { cls:=.type "list",data:=.seq vs.toArray }) (hi:IntsAre vs ns) (hl:ns.length<=sizeLine) (hr:Room k callerA)
 (F:∀base:Heap,K.In base->base.Ns mainGlobals mg->FnOk P w K mg base CX k fa fd [x] sp) (C:∀(s:u_) (u:Value),BindsTo s fd ⟨[u],[]⟩ [(x,u)])
 (hsp:∀H:Hp,SqL K H a (ns.map V.int)->sp [.ref a] H (fun v _=>v=.bl true) fun _ _ _=>False)
 (W:∀H e s',CX [] H c (fun _ _ _=>False) e s'->False) :
 codeAny (model P w) callerA (.call (.ref fa) ⟨[.ref a],[]⟩) (fun r s'=>r=.ok (.ret (.bool true))/\OldK c.heap s'.heap/\s'.os=c.os/\AllBare s'.gens) c:=by
 have rv:=Zw hi;have E:=hi.length
 have Y:∀p∈Fp K,p.1≠a:=fun p B z=>by
  have e:=(D.1 p B).1;rw[z,ha]at e;cases e
 have t:∀H:Hp,SqL K H a (ns.map V.int)->HOk P w H c.heap->(∀b u,H b=some u->(b=a/\K.lookup a=none/\∃o xs,u=.frz o (.lst xs))\/∃q,(b,q)∈Fp K/\u=.tbl q)->(∀p∈Fp K,H p.1=some (.tbl p.2)) ->
  codeAny (model P w) callerA (.call (.ref fa) ⟨[.ref a],[]⟩) (fun r s'=>r=.ok (.ret (.bool true))/\OldK c.heap s'.heap/\s'.os=c.os/\AllBare s'.gens) c:=by
  intro H hS G hA hH
  have f:∀{b:Addr} {o:Obj},c.heap.get? b=some o->H b=none->(Xv c.heap H).get? b=some o:=fun e n=>Bf9 e n
  have N:∀{b:Addr} {o:Obj},c.heap.get? b=some o->(∀x n,o.data≠.seq x n)->(∀x,o.data≠.fields x)->H b=none:=fun {b o} e d1 d2=>by
   cases q:H b with
   | none=>rfl
   | some u =>
    rcases hA b u q with ⟨z,_⟩ | ⟨y,O,_⟩
    ·rw[z,ha]at e;cases e;exact absurd rfl (d1 _ _)
    ·have g:=(D.1 _ O).1
     rw[e]at g;cases g;exact absurd rfl (d2 _)
  have l:∀{b:Addr} {m:x_},c.heap.Ns b m->(Xv c.heap H).Ns b m:=fun {b m} ⟨o,es,ep,e,d,r⟩=>⟨o,es,ep,f e (N e (fun x n z=>by rw[d]at z;cases z) fun x z=>by rw[d]at z;cases z),d,r⟩
  have I:K.In (Xv c.heap H):=fun b o e=>f (KX b o e) (by
   cases q:H b with
   | none=>rfl
   | some u =>
    rcases hA b u q with ⟨z,z2,_⟩ | ⟨y,O,_⟩
    ·rw[z,z2]at e;cases e
    ·rw[(D.1 _ O).2.2]at e;cases e)
  have Z:∃j o,mg "__builtins__" = some (.ref j)/\j≠builtinsNs/\j≠mainGlobals/\(Xv c.heap H).get? j=some o/\o.cls=.type "module" /\ o.dict=some builtinsNs/\o.data=.plain:=by
   obtain⟨j,o,b1,b2,Q,b4,b5,M⟩:=T
   refine⟨j,o,b1,b2,fun z=>?_,f Q (N Q (fun x n z=>by rw[M]at z;cases z) fun x z=>by rw[M]at z;cases z),b4,b5,M⟩
   obtain⟨og,es,ep,e,d,_⟩:=hns;rw[z,e]at Q;cases Q;rw[d]at M;cases M
  have hM:Mod K mg (Xv c.heap H):=⟨I,l hns,⟨U,l hb,X⟩,(let ⟨mc,h1,h2⟩:=L; ⟨mc,l h1,h2⟩),Z⟩
  have e0:Env0 P w K mg (Xv c.heap H) callerA [] c H:=⟨rfl,hM,fun b o e=>Bl9 e,fD (A3y _ _),trivial,fun b hb=>absurd (show b∈([]:v5) from hb) (by simp),hH,G,.of_eq hg⟩
  refine eN ((F _ I (l hns)).run callerA [] c H ⟨[.ref a],[]⟩ [.ref a] [.ref a] _ _ hr e0 (C c (.ref a)) (.cons rfl .nil) (hsp H hS)) fun r s' h=>?_
  cases r with
  | error e=>exact(W H e s' h).elim
  | ok fl =>
   cases fl with
   | next=>exact False.elim h
   | brk=>exact False.elim h
   | cont=>exact False.elim h
   | ret u =>
    obtain⟨v,H',os,J,R,A,r',q⟩:=h;have q':v=.bl true:=q;subst q';obtain rfl:u=Value.bool true:=r'
    refine⟨rfl,⟨fun b o e=>?_,fun b o e=>R.there b o e (by simp)⟩,os,J⟩
    cases q:H b with
    | none=>exact .inl (R.keep b o e q (by intro z;exact absurd (show b∈([]:v5) from z) (by simp)) (by simp))
    | some u =>
     rcases hA b u q with ⟨_,_,ob,xs,rfl⟩ | ⟨y,O,rfl⟩
     ·obtain⟨g,_⟩:=G b _ q
      obtain⟨e2,_⟩:=A b _ (R.frzs b ob _ q);rw[e]at g;cases g;exact .inl e2
     ·obtain⟨ps,e2,_⟩:=A b _ (R.tbls b y q)
      obtain⟨t1,t2,_⟩:=D.1 _ O;rw[e]at t1;cases t1
      exact .inr (.inl ⟨t2,rfl,#[],ps,rfl,by rw[e2];simp⟩)
 have i:∀(H:Hp) (p:Addr×Str),p∈Fp K->z9 P w H _ _ (.tbl p.2):=fun H p B=>⟨#[],(D.1 p B).1,trivial,fun pos cv z=>by cases z⟩
 cases hk:K.lookup a with
 | some o =>
  have e:=KX a o hk;rw[ha]at e
  cases e
  refine t (fun b=>((Fp K).lookup b).map .tbl) (.inr ⟨_,vs.toArray,_,hk,rfl,rfl,rfl,by rw[cM,E];exact hl,by simpa using rv⟩) (fun b u z=>?_) (fun b u z=>?_) fun p B=>?_
  ·obtain⟨q,g,rfl⟩:=a_.mp z
   exact i _ _ (Kf g)
  ·obtain⟨q,g,rfl⟩:=a_.mp z
   exact .inr ⟨q,Kf g,rfl⟩
  ·rw[D.2 p B];rfl
 | none =>
  refine t (fun b=>if b=a then some (.frz { cls:=.type "list",data:=.seq vs.toArray } _) else ((Fp K).lookup b).map .tbl) (.inl (.inr ⟨{ cls:=.type _,data:=.seq _ },if_pos rfl⟩)) (fun b u z=>?_) (fun b u z=>?_) fun p B=>?_
  ·by_cases hb:b=a
   ·have S:=(if_pos hb).symm.trans z
    cases S
    subst hb
    exact⟨ha,by rw[ao];exact hl,vs,_,rv,ha⟩
   ·obtain⟨q,g,rfl⟩:=a_.mp ((if_neg hb).symm.trans z)
    exact i _ _ (Kf g)
  ·by_cases hb:b=a
   ·have S:=(if_pos hb).symm.trans z
    cases S
    exact .inl ⟨hb,hk,_,_,rfl⟩
   ·obtain⟨q,g,rfl⟩:=a_.mp ((if_neg hb).symm.trans z)
    exact .inr ⟨q,Kf g,rfl⟩
  ·rw[if_neg (Y p B),D.2 p B];rfl
end L2
namespace L2
open PySem PySem.Spec PyProof.Rows PySem.W
noncomputable def Hm (o:Obj):Bool:=match o.data with
 | .cell _=>false
 | _=>true
def sel (h:Heap)(tabs:List (Addr×Addr×Str))(a:Addr):Option Obj:=(h.get? a).bind fun o=>if (Hm o&&!(tabs.any fun t=>t.2.1==a))=true then some o else none
def Qv (h:Heap)(tabs:List (Addr×Addr×Str)):Frag:=((List.range h.objs.size).filterMap fun a=>(sel h tabs a).map fun o=>(a,o))++tabs.map fun t=>(t.1,A1g t.2.1 t.2.2)
theorem Rk {f:Nat->Option Obj}{b:Nat}:∀{l:List Nat},(l.filterMap fun a=>(f a).map fun o=>(a,o)).lookup b=if b∈l then f b else none
 | []=>by simp
 | a::l=>by
  rw[fj]
  by_cases e:b=a
  ·subst e
   rw[if_pos aQ]
   cases q:f b with
   | none =>
    simp only[Option.map_none];rw[Rk]
    split
    ·exact q
    ·rfl
   | some o=>simp
  ·have h1:(b∈a::l)=(b∈l):=by simp[e]
   simp only[h1]
   cases q:f a with
   | none=>simp only[Option.map_none];exact Rk
   | some o =>
    simp only[fH];rw[bz]
    have:(b==a)=false:=by simp[e]
    rw[this];exact Rk
section
variable {h:Heap}{tabs:List (Addr×Addr×Str)}
theorem Ra (e:sel h tabs a=some o):h.get? a=some o/\Hm o=true/\∀t∈tabs,t.2.1≠a:=by
 obtain⟨c,d,b⟩:=cH.mp e
 grind
theorem B0z (e:h.get? a=some o) (hp:Hm o=true) (hn:∀t∈tabs,t.2.1≠a):sel h tabs a=some o:=by
 unfold sel
 grind
theorem P0 (e:sel h tabs a=some o):(Qv h tabs).lookup a=some o:=by
 unfold Qv;rw[List.lookup_append,Rk,if_pos (cX.mpr (az (Ra e).1)),e];rfl
theorem Vv {a:Addr}{o:Obj}:∀{tabs:List (Addr×Addr×Str)},(tabs.map fun t=>(t.1,A1g t.2.1 t.2.2)).lookup a=some o->∃t∈tabs,t.1=a
 | [],e=>by cases e
 | t::r,e=>by
  rw[aH,bz]at e
  split at e
  ·rename_i z
   exact⟨t,aQ,by simpa using (eq_comm.mp (by simpa using z))⟩
  ·obtain⟨t',h1,h2⟩:=Vv e
   exact⟨t',aY _ h1,h2⟩
theorem B5n (ht:∀t∈tabs,CodeHd h t.1 t.2.1/\h.get? t.2.1=some { cls:=.none,data:=.fields #[] })(D:∀t∈tabs,(tabs.map fun t=>(t.2.1,t.2.2)).lookup t.2.1=some t.2.2) :
 (Qv h tabs).In h/\TabAt (Qv h tabs) h/\(∀t∈tabs,codeHdIn (Qv h tabs) t.1 t.2.1=true/\(t.2.1,t.2.2)∈Fp (Qv h tabs))/\∀a o,h.get? a=some o->Hm o=true->o.data≠.fields #[]->(Qv h tabs).lookup a=some o:=by
 have g:∀a o,h.get? a=some o->Hm o=true->o.data≠.fields #[]->sel h tabs a=some o:=fun a o e d j=>B0z e d fun t m z=>by
  have:=(ht t m).2;rw[z,e]at this;cases this;exact j rfl
 have code:∀t∈tabs,∃o i,h.get? t.1=some o/\o.cls=.type "code" /\ o.data=.fields i/\i[11]?=some (.ref t.2.1)/\sel h tabs t.1=some o:=fun t m=>by
  obtain⟨o,i,_,_,_,_,_,_,_,w,v,l,u,_⟩:=(ht t m).1
  refine⟨o,i,w,v,l,u,g t.1 o w (by unfold Hm;rw[l]) fun z=>?_⟩
  rw[l]at z
  injection z with z
  rw[z]at u;simp at u
 have c:∀{a:Addr} {o:Obj},(Qv h tabs).lookup a=some o->sel h tabs a=some o:=fun {a o} e=>by
  cases q:sel h tabs a with
  | some y=>rw[P0 q]at e;exact e
  | none =>
   unfold Qv at e;rw[List.lookup_append,Rk]at e
   have F:(if a∈List.range h.objs.size then sel h tabs a else none)=none:=by
    split
    ·exact q
    ·rfl
   rw[F]at e
   obtain⟨t,m,z⟩:=Vv (show (tabs.map fun t=>(t.1,A1g t.2.1 t.2.2)).lookup a=some o from e)
   obtain⟨_,_,_,_,_,_,s⟩:=code t m;rw[z,q]at s;cases s
 have k:Fp (Qv h tabs)=tabs.map fun t=>(t.2.1,t.2.2):=by
  unfold Fp Qv;rw[List.filterMap_append]
  have x:((List.range h.objs.size).filterMap fun a=>(sel h tabs a).map fun o=>(a,o)).filterMap (fun p=>V7 p.2)=[]:=by
   rw[List.filterMap_eq_nil_iff];intro p d;obtain⟨a,_,e⟩:=List.mem_filterMap.mp d;obtain⟨o,x,rfl⟩:=a_.mp e;have j:=(Ra x).2.1
   show V7 o=none
   unfold V7;unfold Hm at j
   split
   ·rename_i z;rw[z]at j;cases j
   ·rfl
  have Q:(tabs.map fun t=>(t.1,A1g t.2.1 t.2.2)).filterMap (fun p=>V7 p.2)=tabs.map fun t=>(t.2.1,t.2.2):=by
   clear g c code D ht x
   induction tabs with
   | nil=>rfl
   | cons t r S =>
    rw[aH,fj]
    show (t.2.1,t.2.2)::_=_
    rw[S];rfl
  rw[x,Q,gA]
 have B:(Qv h tabs).In h:=fun a o e=>(Ra (c e)).1
 refine⟨B,⟨fun p d=>?_,fun p d=>?_⟩,fun t m=>⟨?_,?_⟩,fun a o e d j=>P0 (g a o e d j)⟩
 ·rw[k]at d
  obtain⟨t,m,rfl⟩:=aD.mp d;obtain⟨o,i,w,v,l,u,_⟩:=code t m
  refine⟨(ht t m).2,⟨t.1,o,i,w,v,l,u⟩,?_⟩
  cases q:(Qv h _).lookup _ with
  | none=>rfl
  | some y=>exact absurd rfl ((Ra (c q)).2.2 t m)
 ·rw[k]at d ⊢
  obtain⟨t,m,rfl⟩:=aD.mp d;exact D t m
 ·obtain⟨o,i,_,v,l,_,s⟩:=code t m
  obtain⟨y,G,f,tf,fl,tg,b,n,tt,J,K,L,M,g5,I,N,H,P,A⟩:=(ht t m).1;have O := cR (J.symm.trans (Ra s).1);subst O;obtain⟨R,od,C,E⟩:=y
  cases (show R=Value.type _ from K)
  cases (show C=Data.fields _ from L)
  unfold codeHdIn;rw[(P0 s)];simp only[M,I,N,H,P]
  simp[A]
 ·rw[k];exact aD.mpr ⟨t,m,rfl⟩
end
section
variable {q:u5}{loose:v4}{mean:ExcName->u6}{mg mb:x_}{h:Heap}{K:Frag}
theorem A4u (j:∀a o,h.get? a=some o->Hm o=true->o.data≠.fields #[]->K.lookup a=some o) (c:h.CodeRec f x):codeIn K f x=true:=by
 obtain⟨a,o,b,t,rfl,g,d,e⟩:=c
 have k:=j a o g (by unfold Hm;rw[d]) fun z=>by grind
 obtain⟨oc,od,m,i⟩:=o
 show (match K.lookup a with
  | some ⟨_,_,.fields b,_⟩=>match b.toList with | _::.str n _::_=>n==x | _=>false
  | _=>false)=true
 obtain⟨l⟩:=b
 match l,e with
 | _::.str n u::_,e =>
  simp_all
theorem Bt0 (T:Top q loose mean mg mb h)(i:∀a o,h.get? a=some o->Hm o=true->o.data≠.fields #[]->K.lookup a=some o) {st:Stmt}(hd:d∈recsOf q) (w:d.params=Kh st) (l:d.body=Jm st) (m:d.scope=Al st) :
 ∃f fd,Fun K d.name d.name st f fd/\mg d.name=some (.ref f):=by
 obtain⟨a,o,e,b,c,n,p,r,s⟩:=T.fn d hd
 have k:=i a o p (by unfold Hm;grind) fun z=>by simp_all
 obtain⟨t,u,v,g⟩:=o
 cases (r)
 have j:PySem.Calls.docDef d.name d.params d.body d.scope e b c=fnOf d.name d.name (Kh st) (Jm st) (Al st) .none .none c e none b .none:=by rw[w,l,m];rfl
 refine⟨a,_,⟨⟨t,u,.none,c,e,none,b,.none,g,j,k,A4u i s⟩,?_⟩,n⟩
 unfold keepIn
 grind
noncomputable def A6w (q:u5)(loose:v4)(RN:v4)(x:Str):Bool:=!startupNames.contains x&&!loose.contains x&&!RN.contains x&&!((litsOf q).map (·.1)).contains x&&!((clssOf q loose).map (·.name)).contains x
theorem Cy (T:Top q loose mean mg mb h){a bs:v4}(f:(recsOf q).map (·.name)=a)(hb:bs.all (A6w q loose a)=true) (hx:x∈bs):mg x=none:=by
 have:=cG.mp hb x hx;unfold A6w at this;simp only[dJ,Bool.not_eq_true',List.contains_eq_mem,decide_eq_false_iff_not]at this;obtain⟨⟨⟨⟨d,c⟩,g⟩,e⟩,b⟩:=this
 exact T.free x d c (by grind) e b
end
theorem A7e (a:(recsOf q).map (fun d=>(d.name,d.params,d.body,d.scope))=L) {i:Nat} (e:L[i]?=some x) :
 ∃d,d∈recsOf q/\d.name=x.1/\d.params=x.2.1/\d.body=x.2.2.1/\d.scope=x.2.2.2:=by
 grind
theorem Ca (a:(recsOf q).map (fun d=>(d.name,d.params,d.body,d.scope))=L):(recsOf q).map (·.name)=L.map (·.1):=by
 rw[<- a,cz];rfl
theorem Ba7 {K:Frag} {st:Stmt} (F:Fun K x qual st f c) (h:∀(d a e:Value) (i:Option Addr) (b g:Value) (s:u_) (u:Value),BindsTo s (fnOf x qual (Kh st) (Jm st) (Al st) .none d a e i b g) ⟨[u],[]⟩ [(y,u)]):∀(s:u_) (u:Value),BindsTo s c ⟨[u],[]⟩ [(y,u)]:=by
 obtain⟨m,n,d,a,e,i,b,g,j,k,l,_⟩:=F.ex
 simp_all
end L2
namespace L2
open PySem PySem.Spec PyProof.Rows
section
variable {prog:u5}{w:World}{K:Type}[DecidableEq K]{knd:HeapKind prog w K}{A:t_}{E:z_}{s:u_}
theorem A3k (hu:knd.room A) (hk:knd.is s.heap k a) (hm:s.heap.DictOfH knd d xs) (hsz:xs.length<=sizeLine)
 (l:∀p,atKey xs k=some p->Q p.2 { s with toks:=s.toks+knd.draws k })
 (m:atKey xs k=none->∀h',h'.DictOfH knd d (xs++[(k,a,v)])->Heap.SameBut d s.heap h'->Q v { s with heap:=h',toks:=s.toks+knd.draws k }) :
 wpAny (model prog w) A (dictSetDefault d (.ref a) v) Q E s:=by
 obtain⟨o,r,t,f,u,c,i,g,n⟩:=hm;unfold dictSetDefault
 refine bB ?_
 refine aj (knd.pyHash hu hk ?_)
 refine aj (wpAny_dictFind_heap (s:={ s with toks:=s.toks+knd.draws k }) hu hk f c i g n ?_ ?_)
 ·intro h
  refine aj (cA (aj (wpAny_updateDictKeys (hz:=by have e:=size_of_entries i;lia) (s:={ s with toks:=s.toks+knd.draws k }) f c (ak (m (atKey_none_of_get h) _
   ⟨_,_,t+1,cT _ f (Obj.isFreed_of_dict (Obj.data_mapDictKeys c _)),u.mapDictKeys _,Obj.data_mapDictKeys c _,?_,?_,?_⟩ (bU ..))))))
  ·simp[i,entryOfKey]
  ·intro x b
   rcases bC.mp b with b | b
   ·exact knd.keeps (g x b) f c (bU ..)
   ·cases aV.mp b
    exact knd.keeps hk f c (bU ..)
  ·rw[bA,jl]
   refine⟨n,by simp,fun x b y z e=>?_⟩
   cases aV.mp z
   have B:x=k:=e;exact not_mem_keys_of_get h (B▸b)
 ·intro j p q
  refine aj (wpAny_dictEntries f c ?_)
  have C:r[j]?=some (entryOfKey knd (k,p)):=by
   rw[<- fO,i,bD,q];rfl
  rw[C];exact aj (cA (ak (l p (atKey_of_get n q))))
end
section
variable {X:Cx}{pins:y_}{σ:St}{H:Hp}{s:u_}{a b:Addr}{E:z_}{A:t_}
theorem Ak1 (hd:(a==sysModules)=false) (hz:xs.length<=sizeLine) :
 MeetsIn P w (Builtin.«dict.setdefault» ⟨[.ref a,.ref b,r],[]⟩) (fun A R s=>A.units+9<cLine/\s.heap.DictOfH (Em P w) a xs/\(Em P w).is s.heap k b/\(∀p,atKey xs k=some p->R (.ok (.ret p.2)) { s with toks:=s.toks+Xm k }) /\
  (atKey xs k=none->∀c,c.DictOfH (Em P w) a (xs++[(k,b,r)])->Heap.SameBut a s.heap c->R (.ok (.ret r)) { s with heap:=c,toks:=s.toks+Xm k })) :=
 .of_wp fun A R s ⟨l,e,m,g,h⟩=>by
  refine aj ?_
  refine aj (jm e.typeIs ?_)
  refine ak ?_
  show wpAny _ _ (if (a==sysModules)=true then _ else dictSetDefault a _ r >>= _) _ _ s
  rw[if_neg (by grind)]
  exact aj (A3k (A6y l) m e hz (fun p i=>ak ⟨_,rfl,g p i⟩) fun j c d f=>ak ⟨_,rfl,h j _ d f⟩)
theorem B0i (hu:A.units+9<cLine) (I:Inv X pins σ H s) (e:H a=some (.dT d)) (n:KAt H k b) (hl:d.length<sizeLine) (B:RelV z r)
 (i:∀v w' s',J9 d k=some v->Inv X pins σ H s'->RelV v w'->Q w' s') (g:∀s',J9 d k=none->Inv X pins σ (upd H a (.dT (d++[(k,z)]))) s'->Q r s') :
 wpAny (model X.prog X.w) A (call (.builtin "dict.setdefault") [.ref a,.ref b,r]) Q E s:=by
 obtain⟨u,m,D,f,l⟩:=Bu6 I.hok e
 have y:D.length<=sizeLine:=by rw[<- dZ f];exact u
 refine gR PySem.F.slot_dict_setdefault l.typeIs PySem.F.entry_dict_setdefault (PySem.F.args_dict_setdefault_3 _ _ _) (Ak1 m y) ⟨hu,l,Af0 I.hok n,fun p w=>?_,fun x N h C=>?_⟩
 ·have q:=f.val k
  rw[w]at q
  cases ev:J9 _ k with
  | none=>rw[ev]at q;exact False.elim q
  | some v=>rw[ev]at q;exact i v _ _ ev (I.tok _) q
 ·have q:=f.val k
  rw[x]at q
  cases ev:J9 _ k with
  | some v=>rw[ev]at q;exact False.elim q
  | none =>
   refine g _ ev ?_
   obtain⟨o,F,G,t,K,L,J,_,M⟩:=h
   refine Uy I (by rw[e];exact True.intro) C ⟨o,t⟩ ⟨by grind,m,_,KT.keeps (Paired.snoc f ⟨rfl,n,B⟩) fun c O j=>?_,o,F,G,t,K,L,J,M⟩
   rw[Ai (Bg1 j e fun z=>nomatch z)]
   exact j
end
def Bv3 (td ty tx:TE):TE:=fun σ H Q=>td σ H fun x H1=>∃a,x=.ref a/\IsD H1 a/\ty σ H1 fun y H2=>tx σ H2 fun z H3=>∃kvs k b,y=.ref b/\H3 a=some (.dT kvs)/\KAt H3 k b/\kvs.length<sizeLine /\
 (∀v,J9 kvs k=some v->Q v H3)/\(J9 kvs k=none->Q z (upd H3 a (.dT (kvs++[(k,z)]))))
section
variable {X:Cx}{o e f:Expr}{td ty tx:TE}{apos cpos:Pos}
theorem Bg6 (hu:X.A.units+64<cLine)(ho:QE X o td)(he:QE X e ty)(hf:QE X f tx)(m:M2 X o "setdefault" apos e f cpos):QE X (.Call (.Attribute o "setdefault" apos) [e,f] [] cpos) (Bv3 td ty tx):=by
 refine⟨?_⟩
 intro c s σ H Q I h
 refine wpAny_Call_method m.base m.few m.line i_ PySem.F.slot_dict_setdefault PySem.F.type_dict_setdefault (thn (ho.1 c s _ H _ I h) fun u s1 ⟨x,H1,n,O,a,D,d,N⟩=>?_)
 subst D;obtain rfl:u=Value.ref a:=O;obtain⟨q,r,_⟩:=Aq9 n d
 refine⟨q,r,?_⟩
 rw[m.trees]
 refine gP rfl (iY (eG (thn (he.1 _ _ _ _ _ n N) fun iv s2 ⟨y,H2,t,w,A⟩ =>
  eG (thn (hf.1 _ _ _ _ _ t A) fun fv s3 ⟨z,B,p,l,E,k,b,F,G,J,C,L,M⟩=>gb ?_))))
 subst F
 cases (w)
 exact B0i (bR (dG (by decide) _) hu) p G J C l (fun v w' K i j g=>⟨v,B,j,g,L v i⟩) fun K i j=>⟨z,_,j,l,M i⟩
theorem Xa (hu:X.A.units+64<cLine)(ho:QE X o td)(he:QE X e ty)(hf:QE X f tx)(m:M2 X o "get" apos e f cpos):QE X (.Call (.Attribute o "get" apos) [e,f] [] cpos) (Aa3 td ty tx):=⟨Bc2 (bR (dG (by decide) _) hu) ho.get he.get hf.get m⟩
theorem Ru : QE X (.Dict [] [] a) As9:=⟨Bb7⟩
end
section
variable {P:u5}{w:World}{A:t_}{E:z_}{s:u_}
theorem Ar8:((Manifest.find? "dict_keyiterator").elim "dict_keyiterator" fun x=>x.tpName) = "dict_keyiterator" := by rfl
theorem Ai9 (f:s.heap.IsKeyIter it dd i es.size e) (u:s.heap.get? dd=some od) (a:od.data=.dict es e) (hi:i<es.size)
 (q:∀h',h'.IsKeyIter it dd (i+1) es.size e->Heap.SameBut it s.heap h'->Q (some es[i].key) { s with heap:=h' }):wpAny (model P w) A (pyNext (.ref it)) Q E s:=by
 obtain⟨k,g,d,z,r⟩:=s;obtain⟨⟨c,v,x,G⟩,l,m,h⟩:=f;obtain⟨C,j,o,t⟩:=od;simp only at m h a;subst m h a;have n:(⟨k,g,d,z,r⟩:u_).TypeIs (.ref it) "dict_keyiterator" := ⟨_,l,rfl⟩;have D:=mroOf_keyiter
 have p:Builtin.Dict_items.ownsTuple "dict_keyiterator" = false:=by decide
 have y:es[(i:Int).toNat]?=some es[i]:=by simp[hi]
 unfold pyNext
 refine aj (dg (cP (name:="__next__") n iw (bQ iw n jy ?_ (jz _))))
 repeat any_goals first | assumption | wp_step
 simp only[Ar8,p,cV,bM,iy,List.take]
 have B:¬ ((i:Int)<0):=by lia
 simp only[B,bM,y]
 repeat any_goals first | assumption | wp_step
 simp only[Ar8,p,cV,bM]
 have b:(k.update it (Obj.mapFields (·.setIfInBounds 1 (rawInt ((i:Int)+1))))).IsKeyIter it dd (i+1) es.size e :=
  ⟨_,cT _ l (je (gn rfl _)),Obj.cls_mapFields ..,by rw[gn rfl];simp[rawInt]⟩
 exact⟨_,rfl,ak (q _ b (bU ..))⟩
theorem A0h (a:A.handled=none) (f:s.heap.IsKeyIter it dd i es.size j) (u:s.heap.get? dd=some od) (e:od.data=.dict es j) (hi:es.size<=i)
 (v:∀h',Heap.ExtBut it s.heap h'->Q none { s with heap:=h' }):wpAny (model P w) A (pyNext (.ref it)) Q E s:=by
 obtain⟨z,g,d,r,x⟩:=s;obtain⟨⟨c,p,q,D⟩,t,h,l⟩:=f;obtain⟨G,k,m,B⟩:=od;simp only at h l e;subst h l e;have n:(⟨z,g,d,r,x⟩:u_).TypeIs (.ref it) "dict_keyiterator" := ⟨_,t,rfl⟩;have H:=mroOf_keyiter
 have y:Builtin.Dict_items.ownsTuple "dict_keyiterator" = false:=by decide
 have C:es[(i:Int).toNat]?=none:=by simp[hi]
 unfold pyNext
 refine aj (dg (cP (name:="__next__") n iw (bQ iw n jy ?_ (jz _))))
 repeat any_goals first | assumption | wp_step
 simp only[Ar8,y,cV,bM,iy,List.take]
 have o:¬ ((i:Int)<0):=by lia
 simp only[o,bM,C]
 repeat any_goals first | assumption | wp_step
 refine wpAny_raiseNew_none (show A.in1.handled=none from a) ?_
 refine aj (dF (T := "StopIteration") (b:=true) ⟨_,aJ _ rfl,rfl⟩ fL ?_)
 exact ak (v _ (((bU ..).extBut.push _).push _))
theorem Ap7 (q:(dd==sysModules)=false) (b:s.heap.get? dd=some od) (hx:od.ExactDict) (a:od.data=.dict es k)
 (m:Q (.ref s.heap.objs.size) { s with heap:=s.heap.push { cls:=.type "dict_keyiterator",data:=.fields #[.ref dd,.int 0 0,.int es.size 0,.int k 0] } }):wpAny (model P w) A (pyIter (.ref dd)) Q E s:=by
 obtain⟨o,g,d,p,l⟩:=s;obtain⟨t,f,e,n⟩:=od;obtain⟨i,h,j⟩:=hx;simp only at i h j a;subst i h j a;have c:(⟨o,g,d,p,l⟩:u_).TypeIs (.ref dd) "dict" := ⟨_,b,rfl⟩
 refine wpAny_pyIter_slot c F.slot_dict_iter (bQ F.slot_dict_iter c F.entry_dict_iter ?_ (F.args_dict_iter_1 _))
 unfold Builtin.«dict.__iter__» Builtin.Dict.dictSlotNone
 refine aj (aj (jm c (ak ?_)))
 have r:Builtin.Dict.showsAll dd=pure ():=by unfold Builtin.Dict.showsAll;rw[if_neg (by rw[q];exact bu)]
 show wpAny _ _ (Builtin.Dict.showsAll dd >>= _) _ _ _
 repeat any_goals first | assumption | wp_step
 exact⟨_,rfl, "dict_keyiterator",_,⟨_,aJ _ rfl,rfl⟩,F.slot_dict_keyiterator_next.lookup,m⟩
end
section
variable {P:u5}{w:World}{A:t_}{E:z_}{s:u_}
theorem Rg {h:Heap}    (e:h.get? it=some { cls:=.type "dict_itemiterator",data:=.fields vs }):(h.update it (Obj.mapFields f)).get? it=some { cls:=.type "dict_itemiterator",data:=.fields (f vs) } :=
 cT _ e (je (gn rfl _))
theorem At0:((Manifest.find? "dict_itemiterator").elim "dict_itemiterator" fun x=>x.tpName) = "dict_itemiterator" := by rfl
theorem Bf2 (c:IsItemIter s.heap it dd i es.size k O G) (T:s.heap.get? dd=some od) (h:od.data=.dict es k) (hi:i<es.size)
 (W:∀h',IsItemIterOut h' it dd (i+1) es.size k es[i].key es[i].val s.heap.objs.size->h'.get? s.heap.objs.size=some { cls:=.type "tuple",data:=.seq #[es[i].key,es[i].val] }->h'.objs.size=s.heap.objs.size+1 ->
  (∀b o,b≠it->s.heap.get? b=some o->h'.get? b=some o)->Q (some (.ref s.heap.objs.size)) { s with heap:=h' }):wpAny (model P w) A (pyNext (.ref it)) Q E s:=by
 obtain⟨a,g,d,C,v⟩:=s;obtain⟨Z,H,z,U⟩:=od;simp only at h;subst h;have L:(⟨a,g,d,C,v⟩:u_).TypeIs (.ref it) "dict_itemiterator" := ⟨_,c,rfl⟩;have f1:=mroOf_itemiter
 have N:Builtin.Dict_items.ownsTuple "dict_itemiterator" = true:=by decide
 have Y:es[(i:Int).toNat]?=some es[i]:=by simp[hi]
 have S:¬ ((i:Int)<0):=by lia
 unfold pyNext
 refine aj (dg (cP (name:="__next__") L iz (bQ iz L jA ?_ (jB _))))
 repeat any_goals first | assumption | wp_step
 simp only[At0,N,cj,List.drop,List.take]
 repeat any_goals first | assumption | wp_step
 simp only[S,bM,Y]
 repeat any_goals first | assumption | wp_step
 simp only[At0,N,cj]
 have m:Heap.SameBut it a (a.update it (Obj.mapFields fun x=>x.setIfInBounds (2+1) (rawInt ((i:Int)+1)))):=bU ..
 have y:(a.update it (Obj.mapFields fun x=>x.setIfInBounds (2+1) (rawInt ((i:Int)+1)))).get? it=some { cls:=.type "dict_itemiterator",data:=.fields #[.none,.bool false,.ref dd,rawInt ((i:Int)+1),.int es.size 0,.int k 0,O,G] }:=Rg c
 refine⟨_,rfl,ak ?_⟩
 show Q (some (.ref (a.update it (Obj.mapFields fun x=>x.setIfInBounds (2+1) (rawInt ((i:Int)+1)))).objs.size)) { heap:=(((((a.update it (Obj.mapFields fun x=>x.setIfInBounds (2+1) (rawInt ((i:Int)+1)))).push { cls:=Value.type "tuple",data:=Data.seq #[es[i].key,es[i].val] }).update it (Obj.mapFields fun x=>x.setIfInBounds 6 es[i].key)).update it (Obj.mapFields fun x=>x.setIfInBounds (6+1) es[i].val)).update it (Obj.mapFields fun x=>x.setIfInBounds 0 (rawInt (a.update it (Obj.mapFields fun x=>x.setIfInBounds (2+1) (rawInt ((i:Int)+1)))).objs.size))).update it (Obj.mapFields fun x=>x.setIfInBounds 1 (Value.bool false)),gens:=g,drawn:=d,toks:=C,os:=v }
 generalize a.update it (Obj.mapFields fun x=>x.setIfInBounds (2+1) (rawInt ((i:Int)+1)))=h1 at m y ⊢
 have V:h1.objs.size=a.objs.size:=m.1;have B:=aF { cls:=Value.type "tuple",data:=Data.seq #[es[i].key,es[i].val] } y;have l:(h1.push { cls:=Value.type "tuple",data:=Data.seq #[es[i].key,es[i].val] }).get? h1.objs.size=some { cls:=.type "tuple",data:=.seq #[es[i].key,es[i].val] }:=aJ _ rfl
 have D:∀b o,b≠it->a.get? b=some o->(h1.push { cls:=Value.type "tuple",data:=Data.seq #[es[i].key,es[i].val] }).get? b=some o:=fun b o n e=>aF _ ((m.2 b n).trans e)
 have q:(h1.push { cls:=Value.type "tuple",data:=Data.seq #[es[i].key,es[i].val] }).objs.size=h1.objs.size+1:=bN ..;generalize h1.push { cls:=Value.type "tuple",data:=Data.seq #[es[i].key,es[i].val] }=h2 at B l D q ⊢;rw[V]at l q ⊢;have X:a.objs.size≠it:=bK (az c)
 have r:=bU h2 it (Obj.mapFields fun x=>x.setIfInBounds 6 es[i].key)
 have I:=Rg (f:=fun x=>x.setIfInBounds 6 es[i].key) B
 generalize h2.update it (Obj.mapFields fun x=>x.setIfInBounds 6 es[i].key)=h3 at r I ⊢
 have p:=bU h3 it (Obj.mapFields fun x=>x.setIfInBounds (6+1) es[i].val)
 have K:=Rg (f:=fun x=>x.setIfInBounds (6+1) es[i].val) I
 generalize h3.update it (Obj.mapFields fun x=>x.setIfInBounds (6+1) es[i].val)=h4 at p K ⊢
 have u:=bU h4 it (Obj.mapFields fun x=>x.setIfInBounds 0 (rawInt a.objs.size))
 have J:=Rg (f:=fun x=>x.setIfInBounds 0 (rawInt a.objs.size)) K
 generalize h4.update it (Obj.mapFields fun x=>x.setIfInBounds 0 (rawInt a.objs.size))=h5 at u J ⊢
 have t:=bU h5 it (Obj.mapFields fun x=>x.setIfInBounds 1 (Value.bool false))
 have M:=Rg (f:=fun x=>x.setIfInBounds 1 (Value.bool false)) J
 generalize h5.update it (Obj.mapFields fun x=>x.setIfInBounds 1 (Value.bool false))=h6 at t M ⊢
 have j:∀b o,b≠it->h2.get? b=some o->h6.get? b=some o:=fun b o n e=>(t.2 b n).trans ((u.2 b n).trans ((p.2 b n).trans ((r.2 b n).trans e)))
 refine W h6 ?_ (j _ _ X l) (by rw[show h6.objs.size=h2.objs.size from t.1.trans (u.1.trans (p.1.trans r.1))];exact q) fun b o n e=>j b o n (D b o n e)
 have R:((i+1:Nat):Int)=(i:Int)+1:=by lia
 unfold IsItemIterOut;rw[R];exact M
end
theorem KT.get {H:Hp}:∀{kvs:List (PyData×V)}{xs:List (PyData×Addr×Value)}{i:Nat}{k:t6}{v:V},KT H kvs xs->kvs[i]?=some (k,v)->∃b u,xs[i]?=some (k,b,u)/\KAt H k b/\RelV v u
 | _,_,_,_,_,.nil,e=>by simp at e
 | _,_,0,k,v,.cons (a:=p) (b:=q) h t,e=>by
  cases (show some p=some (k,v) from e)
  obtain⟨h1,h2,h3⟩:=h;obtain⟨k',b,u⟩:=q
  cases (show k=k' from h1)
  exact⟨b,u,rfl,h2,h3⟩
 | _,_,i+1,k,v,.cons h t,e=>by
  obtain⟨b,u,e1,r⟩:=KT.get t (by simpa using e)
  exact⟨b,u,by simpa using e1,r⟩
section
variable {X:Cx}{pins:y_}{σ:St}{H:Hp}{s:u_}{a:Addr}{kvs:List (PyData×V)}
theorem Inv.still (I:Inv X pins σ H s)(e:H a=some (.dT kvs)):∃o,Inv X pins σ (upd H a (.frz o (.dT kvs))) s:=by
 obtain⟨z,y,h,r,o,f,g,b,c⟩:=I.hok a _ e
 refine⟨o,Uy I (by rw[e];trivial) (Heap.SameBut.refl _ _) ⟨o,b⟩ ⟨b,z,y,h,KT.keeps r fun c i d=>?_,o,f,g,b,c⟩⟩
 rw[Ai (Bg1 d e fun z=>nomatch z)];grind
theorem Inv.seen (I:Inv X pins σ H s) (e:H a=some (.frz o (.dT kvs))):∃c b d,s.heap.get? a=some o/\(a==sysModules)=false/\o.ExactDict/\o.data=.dict b d/\b.toList=c.map (entryOfKey (Em X.prog X.w))/\KT H kvs c/\kvs.length<=sizeLine:=by
 obtain⟨h,z,y,c,r,g,b,d,i,j,k,l,f⟩:=I.hok a _ e
 grind
theorem Li {es:v7} (h:es.toList=xs.map (entryOfKey (Em P w))) (r:KT H kvs xs):es.size=kvs.length:=by
 rw[<- gh,h,ao,dZ r]
theorem A1t {es:v7} (h:es.toList=xs.map (entryOfKey (Em P w))) (r:KT H kvs xs) (e:kvs[i]?=some (k,v)) (hi:i<es.size) :
 ∃b u,es[i].key=.ref b/\es[i].val=u/\KAt H k b/\RelV v u:=by
 obtain⟨b,u,g,f,d⟩:=KT.get r e
 have a:es.toList[i]?=some (entryOfKey (Em P w) (k,b,u)):=by grind
 rw[fO,iB hi]at a;have c:=cR a
 exact⟨b,u,by rw[c];rfl,by rw[c];rfl,f,d⟩
end
noncomputable def Itk (a:Addr)(o:Obj):It :=
 ⟨fun i H=>∃kvs,H a=some (.frz o (.dT kvs))/\i<kvs.length,fun i H x H'=>H'=H/\∃kvs k v b,H a=some (.frz o (.dT kvs))/\kvs[i]?=some (k,v)/\x=.ref b/\KAt H k b,fun i H=>∃kvs,H a=some (.frz o (.dT kvs))/\kvs.length<=i⟩
def Iti (a:Addr)(o:Obj):It :=
 ⟨fun i H=>∃kvs,H a=some (.frz o (.dT kvs))/\i<kvs.length,fun i H x H'=>∃p kvs k v b,x=.ref p/\H p=none/\H'=upd H p (.tup [.ref b,v])/\H a=some (.frz o (.dT kvs))/\kvs[i]?=some (k,v)/\KAt H k b,fun i H=>∃kvs,H a=some (.frz o (.dT kvs))/\kvs.length<=i⟩
theorem A3o {P:u5}{w:World}{K:v8}{tg:Expr}{a it:Addr}{o:Obj}{es:v7}{ep:Nat}(hd:o.data=.dict es ep):Turn P w K tg (Itk a o) [it] it (fun i h=>h.IsKeyIter it a i es.size ep) where
 mem:=by simp
 obj:=fun i h st b hb=>by
  have e:b=it:=by simpa using hb
  subst e;obtain⟨o,e,c,d⟩:=st
  exact⟨o,e,fun v z=>by rw[d]at z;cases z⟩
 keep:=fun i h h' st k=>let ⟨o,e,r⟩:=st; ⟨o,k it (by simp) o e,r⟩
 item:=by
  intro X hP hw hK hc i pins s σ H E I hf st hg;subst hP hw hK;obtain⟨kvs,ha,hi⟩:=hg;obtain⟨xs,es',ep',g1,g2,g3,g4,g5,g6,g7⟩:=I.seen ha;rw[hd]at g4
  cases g4
  have li:i<es.size:=by rw[Li g5 g6];exact hi
  obtain⟨⟨k,v⟩,hk⟩:∃x,kvs[i]?=some x:=⟨_,bG hi⟩;obtain⟨b,u,k1,k2,k3,k4⟩:=A1t g5 g6 hk li
  obtain⟨f0,f1,f2,f3,f4,f5⟩:=hf it (by simp)
  refine Ai9 st g1 hd li fun h' st' sb=>?_
  have I1:Inv X pins σ H { s with heap:=h' }:=I.turned (t':=s.toks) (fun b o hb e=>(sb.2 b hb).trans e) f0 f1 f3 f4 f5
  obtain⟨o',e,c,d⟩:=id st'
  exact⟨_,rfl,Az4 (s:={ s with heap:=h' }) e c d (by decide) ⟨.ref b,H,I1,by rw[k1];rfl,⟨rfl,kvs,k,v,b,ha,hk,rfl,k3⟩,st',fun b hb=>(hf b hb).1⟩⟩
 done:=by
  intro X hP hw hK hc i pins s σ H E I hf st hg;subst hP hw hK;obtain⟨kvs,ha,hi⟩:=hg;obtain⟨xs,es',ep',g1,g2,g3,g4,g5,g6,g7⟩:=I.seen ha;rw[hd]at g4
  cases g4
  obtain⟨f0,f1,f2,f3,f4,f5⟩:=hf it (by simp)
  exact A0h (I.ok.hd hc) st g1 hd (by rw[Li g5 g6];exact hi) fun h' eb=>⟨rfl,I.turned (t':=s.toks) (fun b o hb e=>eb b o hb e) f0 f1 f3 f4 f5⟩
 self:=fun _ _ _ _ _ st h=>wpAny_pyIter_keyiter st h
def iDK (td:TE):TI:=fun σ H R=>td σ H fun x H1=>∃a o kvs,x=.ref a/\H1 a=some (.frz o (.dT kvs))/\R (Itk a o) H1
section
variable {X:Cx}
theorem An1 (hl:QE X l f):QI X w l (iDK f):=by
 refine⟨?_⟩
 intro i s y H R I h
 refine thn (hl.1 _ s _ H _ I h) fun v d ⟨x,m,c,n,p⟩=>?_
 obtain⟨a,o,r,e,j,q⟩:=p;subst e
 cases n
 obtain⟨A,B,C,k,u,t,g,D,E,F⟩:=c.seen j
 refine Ap7 u k t g ?_
 refine⟨d.heap.objs.size,[d.heap.objs.size],_,_,m,rfl,c.kept fun b o e=>aF _ e,A3o g,⟨_,aJ _ rfl,rfl,rfl⟩,fun b z=>?_,q⟩
 have e:b=d.heap.objs.size:=by grind
 subst e;exact c.fpOk (aq _) (c.hok.fresh (aq _))
def tFz (d:Nat)(t u:TS):TS:=fun D σ H=>t { D with nx:=fun σ' H'=>∃a kvs,σ'[d]?=some (some (.ref a))/\H' a=some (.dT kvs)/\∀o,u D σ' (upd H' a (.frz o (.dT kvs))) } σ H
theorem Aa7 {st:Stmt}{rest:List Stmt} (h1:QS X st t) (h2:QSs X rest u):QSs X (st::rest) (tFz d t u):=by
 obtain⟨h2⟩:=h2
 refine⟨?_⟩
 intro b s k H D I h
 refine iI (thn (h1.1 _ s _ H _ I h) fun f n q=>?_)
 cases f with
 | next =>
  obtain⟨i,l,g,a,e,m,j,q⟩:=q;obtain⟨o,c⟩:=g.still j;exact h2 _ _ _ _ D c (q o)
 | ret v=>exact q
 | brk=>exact q
 | cont=>exact q
end
section
variable {P:u5}{w:World}{A:t_}{E:z_}{s:u_}
theorem Bh3 (a:A.handled=none) (e:IsItemIter s.heap it dd i es.size f q r) (t:s.heap.get? dd=some od) (c:od.data=.dict es f) (hi:es.size<=i)
 (m:∀h',Heap.ExtBut it s.heap h'->Q none { s with heap:=h' }):wpAny (model P w) A (pyNext (.ref it)) Q E s:=by
 obtain⟨n,g,d,o,p⟩:=s;obtain⟨z,j,h,u⟩:=od;simp only at c;subst c;have k:(⟨n,g,d,o,p⟩:u_).TypeIs (.ref it) "dict_itemiterator" := ⟨_,e,rfl⟩;have y:=mroOf_itemiter
 have x:Builtin.Dict_items.ownsTuple "dict_itemiterator" = true:=by decide
 have v:es[(i:Int).toNat]?=none:=by simp[hi]
 have l:¬ ((i:Int)<0):=by lia
 unfold pyNext
 refine aj (dg (cP (name:="__next__") k iz (bQ iz k jA ?_ (jB _))))
 repeat any_goals first | assumption | wp_step
 simp only[At0,x,cj,List.drop,List.take]
 repeat any_goals first | assumption | wp_step
 simp only[l,bM,v]
 repeat any_goals first | assumption | wp_step
 refine wpAny_raiseNew_none (show A.in1.handled=none from a) ?_
 refine aj (dF (T := "StopIteration") (b:=true) ⟨_,aJ _ rfl,rfl⟩ fL ?_)
 exact ak (m _ (((bU ..).extBut.push _).push _))
theorem A5f (b:(dd==sysModules)=false):MeetsIn P w (Builtin.«dict.items» ⟨[.ref dd],[]⟩) (fun _ R s=>s.TypeIs (.ref dd) "dict" /\ R (.ok (.ret (.ref s.heap.objs.size))) { s with heap:=s.heap.push { cls:=.type "dict_items",data:=.fields #[.ref dd] } }) :=
 .of_wp fun A R s ⟨t,h⟩=>by
  refine aj (aj (jm t (ak ?_)))
  have a:Builtin.Dict.showsAll dd=pure ():=by unfold Builtin.Dict.showsAll;simp_all
  rw[a]
  refine aj (ak (aj (cD (ak ⟨_,rfl,h⟩))))
theorem A6g (b:(dd==sysModules)=false) (ty:s.TypeIs (.ref dd) "dict")
 (a:Q (.ref s.heap.objs.size) { s with heap:=s.heap.push { cls:=.type "dict_items",data:=.fields #[.ref dd] } }):wpAny (model P w) A (call (.builtin "dict.items") [.ref dd]) Q E s :=
 gR PySem.F.slot_dict_items ty PySem.F.entry_dict_items (PySem.F.args_dict_items_1 _) (A5f b) ⟨ty,a⟩
theorem A9q (hv:s.heap.get? v=some { cls:=.type "dict_items",data:=.fields #[.ref dd] }) (l:s.heap.get? dd=some od) (a:od.data=.dict es c)
 (k:Q (.ref s.heap.objs.size) { s with heap:=s.heap.push { cls:=.type "dict_itemiterator",data:=.fields #[.none,.bool false,.ref dd,.int 0 0,.int es.size 0,.int c 0,.none,.none] } }):wpAny (model P w) A (pyIter (.ref v)) Q E s:=by
 obtain⟨n,g,d,i,j⟩:=s;obtain⟨o,b,e,m⟩:=od;simp only at a;subst a;have f:(⟨n,g,d,i,j⟩:u_).TypeIs (.ref v) "dict_items" := ⟨_,hv,rfl⟩
 have h:Builtin.Dict_items.ownsTuple "dict_itemiterator" = true:=by decide
 refine wpAny_pyIter_slot f F.slot_dict_items_iter (bQ F.slot_dict_items_iter f F.entry_dict_items_iter ?_ (F.args_dict_items_iter_1 _))
 repeat any_goals first | assumption | wp_step
 simp only[h,cj];exact⟨_,rfl, "dict_itemiterator",_,⟨_,aJ _ rfl,rfl⟩,F.slot_dict_itemiterator_next.lookup,k⟩
end
theorem Ax2 {P:u5}{w:World}{K:v8}{elts:v9}{kk:Nat}{pos:Pos}{a it:Addr}{o:Obj}{es:v7}{ep:Nat}(hd:o.data=.dict es ep):Turn P w K (.Tuple elts kk pos) (Iti a o) [it] it (fun i h=>∃ok ov,IsItemIter h it a i es.size ep ok ov) where
 mem:=by simp
 obj:=fun i h st b hb=>by
  have e:b=it:=by simpa using hb
  subst e;obtain⟨ok,ov,e⟩:=st
  exact⟨_,e,fun v z=>by cases z⟩
 keep:=fun i h h' st k=>let ⟨ok,ov,e⟩:=st; ⟨ok,ov,k it (by simp) _ e⟩
 item:=by
  intro X hP hw hK hc i pins s σ H E I hf st hg;subst hP hw hK;obtain⟨kvs,ha,hi⟩:=hg;obtain⟨ok,ov,st⟩:=st;obtain⟨xs,es',ep',g1,g2,g3,g4,g5,g6,g7⟩:=I.seen ha;rw[hd]at g4
  cases g4
  have li:i<es.size:=by rw[Li g5 g6];exact hi
  obtain⟨⟨k,v⟩,hk⟩:∃x,kvs[i]?=some x:=⟨_,bG hi⟩;obtain⟨b,u,k1,k2,k3,k4⟩:=A1t g5 g6 hk li
  obtain⟨f0,f1,f2,f3,f4,f5⟩:=hf it (by simp)
  refine Bf2 st g1 hd li fun h' st' new sz kp=>?_
  refine⟨_,rfl,?_⟩
  apply wpAny_letOwnedTupleGo_items st';intro h2 st2 sb2;have ne:s.heap.objs.size≠it:=bK (az st);have hp:H s.heap.objs.size=none:=I.hok.fresh (aq _);have new2:h2.get? s.heap.objs.size=some { cls:=.type "tuple",data:=.seq #[es[i].key,es[i].val] }:=(sb2.2 _ ne).trans new
  refine⟨.ref s.heap.objs.size,upd H s.heap.objs.size (.tup [.ref b,v]),?_,rfl,⟨_,kvs,k,v,b,rfl,hp,rfl,ha,hk,k3⟩,⟨_,_,st2⟩,fun c hc=>?_⟩
  ·refine I.turnLay (t':=s.toks) (h':=h2) (p:=s.heap.objs.size) (o:=.tup [.ref b,v]) (ch:=[it]) hf (fun c o m e=>(sb2.2 c (by simpa using m)).trans (kp c o (by simpa using m) e)) (aq _) ?_
   refine⟨show 2<=sizeLine by decide,[es[i].key,es[i].val],.cons (by rw[k1];rfl) (.cons (by rw[k2];exact k4) .nil),_,new2,rfl,⟨_,rfl⟩,rfl⟩
  ·have e:c=it:=by simpa using hc
   subst e;rw[Ai (aG ne)];exact f0
 done:=by
  intro X hP hw hK hc i pins s σ H E I hf st hg;subst hP hw hK;obtain⟨kvs,ha,hi⟩:=hg;obtain⟨ok,ov,st⟩:=st;obtain⟨xs,es',ep',g1,g2,g3,g4,g5,g6,g7⟩:=I.seen ha;rw[hd]at g4
  cases g4
  obtain⟨f0,f1,f2,f3,f4,f5⟩:=hf it (by simp)
  exact Bh3 (I.ok.hd hc) st g1 hd (by rw[Li g5 g6];exact hi) fun h' eb=>⟨rfl,I.turned (t':=s.toks) (fun b o hb e=>eb b o hb e) f0 f1 f3 f4 f5⟩
 self:=fun A i s Q E st h=>by
  obtain⟨ok,ov,st⟩:=st;exact PySem.W.kcp_self st h
def iDI (td:TE):TI:=fun σ H R=>td σ H fun x H1=>∃a o kvs,x=.ref a/\H1 a=some (.frz o (.dT kvs))/\R (Iti a o) H1
section
variable {X:Cx}
theorem A2k {d c k:Pos}{i:v9}{y:Nat}(hl:QE X l r) (hbase:attributeBase l "items" X.env (eval l X.env)=eval l X.env:=by rfl) (hline:(d.endLine==c.line)=true:=by rfl) :
 QI X (.Tuple i y k) (.Call (.Attribute l "items" d) [] [] c) (iDI r):=by
 refine⟨?_⟩
 intro g s K H R I h
 refine wpAny_Call_method0_late hbase hline (thn (hl.1 g s K H _ I h) fun v f ⟨x,z,j,A,C⟩=>?_)
 obtain⟨a,o,m,e,t,q⟩:=C;subst e
 cases (show v=Value.ref a from A)
 obtain⟨p,B,_⟩:=Aq9 j (.inr ⟨m,.inr ⟨o,t⟩⟩);obtain⟨O,D,E,F,J,L,u,P,M,N⟩:=j.seen t
 refine⟨"dict", "dict.items",i_,PySem.F.slot_dict_items,PySem.F.type_dict_items,p,B,gP rfl (PySem.evalArgs_none (A6g J p ?_))⟩
 refine A9q (aJ _ rfl) (aF _ F) u ?_
 have G:∀b w,f.heap.get? b=some w->((f.heap.push { cls:=.type "dict_items",data:=.fields #[.ref a] }).push { cls:=.type "dict_itemiterator",data:=.fields #[.none,.bool false,.ref a,.int 0 0,.int D.size 0,.int E 0,.none,.none] }).get? b=some _:=fun b w e=>aF _ (aF _ e)
 refine⟨_,[(f.heap.push _).objs.size],_,_,z,rfl,j.kept G,Ax2 u,⟨_,_,aJ _ rfl⟩,fun b Q=>?_,q⟩
 have e:b=(f.heap.push { cls:=.type "dict_items",data:=.fields #[.ref a] }).objs.size:=by grind
 subst e
 have n:f.heap.objs.size<=(f.heap.push { cls:=.type "dict_items",data:=.fields #[.ref a] }).objs.size:=by simp_all
 exact j.fpOk n (j.hok.fresh n)
end
section
variable {P:u5}{w:World}{A:t_}{E:z_}{s:u_}
theorem A4y (quiet:A.handled=none){it dd:Addr}(ne:dd≠it){es:v7}{ep:Nat}{o:Obj}(hd:o.data=.dict es ep) :
 Walks P w A it [it,dd] [it] es.size (fun i v=>∃h:i<es.size,v=es[i].key) (fun i h=>h.IsKeyIter it dd i es.size ep/\h.get? dd=some o) where
 sub:=fun b hb=>by simp at hb;simp[hb]
 frame:=fun _ _ _ st hk=>⟨let ⟨o,e,r⟩:=st.1; ⟨o,hk it (by simp) o e,r⟩,hk dd (by simp) _ st.2⟩
 item:=fun i s Q E hi st hQ=>Ai9 st.1 st.2 hd hi fun h' it' sb=>hQ _ h' s.toks ⟨hi,rfl⟩ ⟨it',(sb.2 _ ne).trans st.2⟩ fun b o hb e=>(sb.2 b (fun h=>hb (by simp[h]))).trans e
 done:=fun s Q E st hQ=>A0h quiet st.1 st.2 hd (aq _) fun h' he=>hQ h' s.toks fun b o hb e=>he b o (fun h=>hb (by simp[h])) e
 self:=fun _ _ _ _ st hQ=>wpAny_pyIter_keyiter st.1 hQ
theorem A7h:typeLookup (.type "dict") "__len__" = pure (some (.builtin "dict.__len__")):=by trivial
theorem Ba1:isSubtype (.type "dict") (.type "dict")=pure true:=by rfl
theorem Aa9 (f:A.handled=none) (T:(dd==sysModules)=false) (x:s.heap.get? dd=some o) (C:o.ExactDict) (hd:o.data=.dict es d) (hn:es.size<=sizeLine)
 (R:∀c acc,(∀b o,s.heap.get? b=some o->c.heap.get? b=some o)->c.gens=s.gens->c.drawn=s.drawn->c.os=s.os->ItemsOf (fun i v=>∃h:i<es.size,v=es[i].key) acc es.size->Q acc.toList c):wpAny (model P w) A (collect (.ref dd)) Q E s:=by
 unfold collect
 refine aj (wpAny_runValue (bZ F.entry_proto_collect ?_))
 rw[cu F.plain_proto_collect _]
 show wpAny _ A.in1 (newList [] >>= fun l=>again (.builtin "list.__iadd__" ⟨[l,.ref dd],[]⟩)) _ _ s
 refine aj (cD ?_)
 refine ak ⟨bT iC _,bZ F.entry_list_iadd ?_⟩
 rw[cu iC _];have B:s.heap.objs.size≠dd:=bK (az x)
 have N:Builtin.List.listSameRef (.ref s.heap.objs.size) (.ref dd)=false:=by simp[Builtin.List.listSameRef,B]
 have z:=aF { cls:=.type "list",data:=.seq ([]:w6).toArray } x;have S:(s.heap.push { cls:=.type "list",data:=.seq ([]:w6).toArray }).get? s.heap.objs.size=some { cls:=.type "list",data:=.seq ([]:w6).toArray }:=aJ _ rfl
 show wpAny _ A.in1 (Builtin.List.listExtendWith (.ref s.heap.objs.size) (.ref dd) (.ref s.heap.objs.size)) _ _ _
 unfold Builtin.List.listExtendWith
 have U:({ s with heap:=s.heap.push { cls:=.type "list",data:=.seq ([]:w6).toArray } }:u_).TypeIs (.ref dd) "dict" := ⟨_,z,C.1⟩
 refine aj (dI U ?_)
 have k:(Value.type "dict" == Value.type "list")=false:=by decide
 have J:(Value.type "dict" == Value.type "tuple")=false:=by decide
 simp only[N,k,J,Bool.or_false,cV,bM]
 refine aj (Ap7 T z C hd ?_)
 have D:=aF { cls:=.type "dict_keyiterator",data:=.fields #[.ref dd,.int 0 0,.int es.size 0,.int d 0] } z;have q:=aF { cls:=.type "dict_keyiterator",data:=.fields #[.ref dd,.int 0 0,.int es.size 0,.int d 0] } S;have G:((s.heap.push { cls:=.type "list",data:=.seq ([]:w6).toArray }).push { cls:=.type "dict_keyiterator",data:=.fields #[.ref dd,.int 0 0,.int es.size 0,.int d 0] }).IsKeyIter (s.heap.push { cls:=.type "list",data:=.seq ([]:w6).toArray }).objs.size dd 0 es.size d:=⟨_,aJ _ rfl,rfl,rfl⟩;have K:(s.heap.push { cls:=.type "list",data:=.seq ([]:w6).toArray }).objs.size=s.heap.objs.size+1:=bN ..
 have O:∀b o,s.heap.get? b=some o->((s.heap.push { cls:=.type "list",data:=.seq ([]:w6).toArray }).push { cls:=.type "dict_keyiterator",data:=.fields #[.ref dd,.int 0 0,.int es.size 0,.int d 0] }).get? b=some o:=fun b o e=>aF _ (aF _ e)
 rw[K]at G ⊢
 generalize ((s.heap.push { cls:=.type "list",data:=.seq ([]:w6).toArray }).push { cls:=.type "dict_keyiterator",data:=.fields #[.ref dd,.int 0 0,.int es.size 0,.int d 0] })=k at *
 have j:({ s with heap:=k }:u_).TypeIs (.ref dd) "dict" := ⟨_,D,C.1⟩
 refine aj (bB ?_)
 unfold Builtin.List.listLengthHint
 refine aj (dD j A7h ?_)
 wp_delta
 refine aj (dF (b:=true) j Ba1 ?_)
 show wpAny _ A.in1 (typeOf (Value.ref dd) >>= _) _ _ _
 refine aj (dI j ?_)
 refine ak ?_
 rw[if_pos (by decide)]
 refine aj (cA ?_)
 refine aj (m:=Builtin.List.listTouch _) ?_
 unfold Builtin.List.listTouch
 refine aj (cU q rfl ?_)
 have H:=cT (Obj.mapSeq (·.push Value.none)) q rfl
 refine cU H rfl ?_
 have Y:=cT (Obj.mapSeq (·.pop)) H rfl
 have g:∀b o,b≠s.heap.objs.size->k.get? b=some o->((k.update s.heap.objs.size (Obj.mapSeq (·.push Value.none))).update s.heap.objs.size (Obj.mapSeq (·.pop))).get? b=some o:=fun b o n e=>(bH _ _ (aG n)).trans ((bH _ _ (aG n)).trans e)
 have L:=az x;have M:dd≠s.heap.objs.size+1:=aL (dU L)
 have W:=A4y (P:=P) (w:=w) (A:=A.in1) (show A.in1.handled=none from f) M hd
 refine ak ⟨bT gB _,codeAny_extend_loopS W.toS hn s.heap.objs.size (fun m=>?_) _ es.size 0 _ _ _ rfl (aO _) ⟨?_,g _ _ (aG B) D⟩ Y (ItemsOf.nil _) fun c r Z u y p=>?_⟩
 ·simp only[aB,bf,bh]at m
  rcases m with m | m
  ·exact absurd m (aL (dR _))
  ·exact B m
 ·obtain⟨t,X,V⟩:=G
  exact⟨t,g _ _ (bK (dR _)) X,V⟩
 ·show wpAny _ A (load s.heap.objs.size >>= _) _ _ c
  refine aj (wpAny_load y ?_)
  refine ak (R c r (fun b t e=>u.heap b t (fun I=>?_) (g b t (aL (az e)) (O b t e))) u.gens u.drawn u.os p)
  have a:=az e;simp only[aB,bf,bh]at I
  rcases I with h | h
  ·rw[h]at a;exact absurd a (bI _)
  ·rw[h]at a;exact absurd a (Nat.not_lt.mpr (dN _))
theorem W9 (t:(dd==sysModules)=false) (j:o.ExactDict) (hd:o.data=.dict es m) (hn:es.size<=sizeLine) :
 Meets (Builtin.«tuple.__new__» ⟨[.type "tuple",.ref dd],[]⟩)
  (fun A R s=>A.handled=none/\s.heap.get? dd=some o/\∀(s':u_) (acc:v6),(∀b o,s.heap.get? b=some o->s'.heap.get? b=some o)->s'.gens=s.gens->s'.drawn=s.drawn->s'.os=s.os->ItemsOf (fun i v=>∃h:i<es.size,v=es[i].key) acc es.size ->
   R (.ok (.ret (.ref s'.heap.objs.size))) { s' with heap:=s'.heap.push { cls:=.type "tuple",data:=.seq acc } }) :=
 .of_wp fun P w A R s h=>by
  obtain⟨p,k,h⟩:=h;have l:=sub_tuple_self;have c:=init_tuple_lookup;have u:=madeHere_tuple;have n:s.TypeIs (.ref dd) "dict" := ⟨_,k,j.1⟩;have f:A.in1.handled=none:=p
  wp_walk using dI n,Aa9 f t k j hd hn
  intro s' acc q r d g a
  refine aj (ak ?_)
  show wpAny _ _ (Builtin.Tuple.tupleExact acc.toList.toArray >>= fun v=>ret v) _ _ _
  unfold Builtin.Tuple.tupleExact
  have e:acc.toList.toArray=acc:=by simp
  refine aj (cD ?_ (by rw[e];show acc.size<=sizeLine;rw[a.1];exact hn))
  refine ak ⟨_,rfl,?_⟩
  rw[e];exact h s' _ q r d g a
theorem Xy (a:A.handled=none) (e:(dd==sysModules)=false) (f:s.heap.get? dd=some o) (g:o.ExactDict) (hd:o.data=.dict es d) (hn:es.size<=sizeLine)
 (h:∀(h':Heap) (tk:Nat) (acc:v6),(∀b o,s.heap.get? b=some o->h'.get? b=some o)->ItemsOf (fun i v=>∃h:i<es.size,v=es[i].key) acc es.size->Q (.ref h'.objs.size) { s with heap:=h'.push { cls:=.type "tuple",data:=.seq acc },toks:=tk }) :
 wpAny (model P w) A (call (.type "tuple") [.ref dd]) Q E s:=by
 refine callType_new F.called_tuple (by rfl) (F.typeCall_tuple_1 _) (F.newCall_tuple_1 _) (fun k=>jh _ _) F.entry_tuple_new
  (W9 e g hd hn) ⟨a,f,fun m acc n p j l c=>⟨⟨_,aJ _ rfl,rfl⟩,?_⟩⟩
 grind
end
noncomputable def Br4 (H:Hp):w5->n7->Prop
 | [],vs=>vs=[]
 | k::ks,vs=>∃b r,vs=.ref b::r/\KAt H k b/\Br4 H ks r
def Bv7 (td:TE):TE:=fun σ H Q=>td σ H fun x H1=>∃a o kvs,x=.ref a/\H1 a=some (.frz o (.dT kvs))/\∀vs p,Br4 H1 (kvs.map (·.1)) vs->H1 p=none->Q (.ref p) (upd H1 p (.tup vs))
section
variable {X:Cx}
theorem Bw4 {H:Hp}{P:u5}{w:World}:∀{kvs:List (PyData×V)}{xs:List (PyData×Addr×Value)},KT H kvs xs->∃vs,Br4 H (kvs.map (·.1)) vs/\Vals vs (xs.map fun x=>Value.ref x.2.1)
 | _,_,.nil=>⟨[],rfl,.nil⟩
 | _,_,.cons (a:=p) (b:=q) h t=>by
  obtain⟨vs,h1,h2⟩:=Bw4 (P:=P) (w:=w) t;exact⟨.ref q.2.1::vs,⟨q.2.1,vs,rfl,h.2.1,h1⟩,.cons rfl h2⟩
theorem Bn9 (hc:X.calm=true) (hg:Gl X "tuple") (hm:X.mg "tuple" = none) (he:QE X e m) (hs1:isStar e=false:=by rfl):QE X (.Call (.Name "tuple" p) [e] [] j) (Bv7 m):=by
 refine⟨?_⟩
 intro g s L H Q I h;have f:=Ge (es:=[]) (env:=X.env) hs1
 refine Call_ (Jf I hg hm Lh (d_ ?_ f rfl))
 rw[f]
 show wpAny _ _ (spliced ((false,eval e X.env)::backTo j (starEach [] X.env))) _ _ s
 refine eG ?_
 refine thn (he.1 g s L H _ I h) fun u T ⟨v,H1,n,D,W⟩=>?_
 refine gb ?_
 obtain⟨a,o,J,rfl,M,q⟩:=W
 cases (show u=Value.ref a from D)
 obtain⟨l,r,ep,g1,E,F,G,t,k,y⟩:=n.seen M;have z:=Li t k
 refine Xy (I.ok.hd hc) E g1 F G (by rw[z];exact y) fun N O c S d=>?_
 obtain⟨vs,V,B⟩:=Bw4 (P:=X.prog) (w:=X.w) k
 have Y:c.toList=l.map fun x=>Value.ref x.2.1:=by
  have Z:c.size=l.length:=d.1.trans (z.trans (dZ k));apply List.ext_getElem
  ·rw[gh,ao];exact Z
  ·intro i R U
   have hi:i<c.size:=by simpa using R
   have hx:i<l.length:=by simpa using U
   obtain⟨hs,e1⟩:=d.2 i c[i] (iB hi)
   have A:r.toList[i]?=some (entryOfKey (Em X.prog X.w) l[i]):=by rw[t,bD,bG _];rfl
   rw[fO,iB hs]at A;rw[Array.getElem_toList,e1,cR A,List.getElem_map];rfl
 have C:Inv X _ _ _ { T with heap:=N,toks:=O }:=n.kept S
 have K := C.hok.fresh (aq _)
 refine⟨.ref _,upd _ _ _,C.laid (fun b u e=>aF _ e) (aq _) ?_,rfl,q _ _ V K⟩
 refine⟨by rw[B.length,ao,<- dZ k];exact y,c.toList,by rw[Y];exact B,_,aJ _ rfl,rfl,⟨0,by simp⟩,rfl⟩
theorem Ae4 (hu:X.A.units+64<cLine) (ho:QE X o d) (hi:QE X i ty) (hv:QE X a e) (hs:swapsWith a (some (.Subscript o i b)) c.line X.env=pure false:=by rfl) :
 QS X (.Assign [.Subscript o i b] a c) (Bf8 d ty e):=⟨Bp3 (bR (dG (by decide) _) hu) ho.get hi.get hv.get hs⟩
end
end L2
namespace L2
open PySem PySem.Spec PyProof.Rows PySem.W
section
variable {X:Cx}
def A1h (K:v8):V->n7->Hp->VK->Prop:=fun x vs H Q=>∃(a:Addr) (ss:v4) (y:Str),x=.ref a/\vs=[.str y]/\SqL K H a (ss.map V.str)/\Q (.int ((ss.countP fun z=>z==y):Nat)) H
theorem A4s (b:X.K=Kq):MtM X "list.count" (A1h Kq):=by
 subst b;intro d s σ H x vs v us Q I i k h;obtain⟨a,ss,y,rfl,rfl,l,q⟩:=h
 cases i
 obtain⟨u,rfl,m⟩:=k.one;obtain⟨t,rfl⟩:=m;obtain⟨j,r,A,hz⟩:=I.list l;obtain⟨o,n,e,g,c,p⟩:=A;obtain⟨c0,dd,B,sl⟩:=o;subst g p c
 refine dO F.slot_list_count ⟨_,e,rfl⟩ F.entry_list_count (F.args_list_count_2 _ _) (SeqAt.list_countAt a _ n _ _ _ (A0c y)) ⟨e,fun w hw=>?_,?_⟩
 ·obtain⟨z,t',rfl⟩:=Ab5 r w (by grind)
  exact iW z _ y t
 ·rw[(Y7 y r)]
  exact⟨.int _,H,I.tok _,⟨_,rfl⟩,q⟩
end
def A5h (tc:List (Str×v4))(mg:x_)(h:Heap):Prop:=∀q∈tc,∃a o its n,mg q.1=some (.ref a)/\h.get? a=some o/\o.cls=.type "tuple" /\ o.data=.seq its n/\its.size<=sizeLine/\Vals (q.2.map V.str) its.toList
theorem Ry:∀{ss:v4}{us:w6},U8 ss us=true->Vals (ss.map V.str) us
 | [],[],_=>.nil
 | s::ss,.str z t::us,e=>by
  obtain⟨e1,e2⟩:=aC.mp (show (s==z&&U8 ss us)=true from e)
  cases cZ e1
  exact .cons ⟨t,rfl⟩ (Ry e2)
theorem B6a {s:u_}(e:d.all (A8c s.heap)=true):A5h d (s.heap.nsMap mainGlobals) s.heap:=fun q m=>by
 have e:=cG.mp e q m;unfold A8c at e
 split at e
 ·rename_i a h
  split at e
  ·rename_i o g
   split at e
   ·rename_i c b n i j
    obtain⟨e,k⟩:=aC.mp e;obtain⟨l,f⟩:=aC.mp e
    exact⟨a,o,b,n,h,g,by rw[i,cZ l],j,aW f,Ry k⟩
   ·cases e
  ·cases e
 ·cases e
theorem Bf7 (mg:x_) (h h':Heap) (x:A5h c mg h) (hk:∀b o,h.get? b=some o->h'.get? b=some o):A5h c mg h':=fun q m=>by
 obtain⟨a,o,d,n,f,e,r⟩:=x q m
 grind
theorem Ay6 {K:v8}(x:A5h c mg h) (f:∀a o,h.get? a=some o->Hm o=true->o.data≠.fields #[]->K.lookup a=some o) {i:Nat} (e:c[i]?=some (y,ss)):∃p,mg y=some (.ref p)/\∀H,SqT K H p (ss.map V.str):=by
 obtain⟨a,o,b,n,g,j,k,l,m,d⟩:=x _ (bc e)
 exact⟨a,g,fun H=>.inr ⟨o,b,n,f a o j (by unfold Hm;grind) (by grind),k,l,m,d⟩⟩
theorem walk_ofX {l:OpenLaw} {sp:Frag->Sp} 
 (hn:l.most=some n) (r:n<=sizeLine) (t:d.params.defaults=[]) (hr:Room k callerA)
 (F:∀(w:World) (g:ExcName->u6) (mg C:x_) (fa:Addr) (h:Heap),Top q (looseW q loose) g mg C h->XP mg h->mg d.name=some (.ref fa) ->
  ∃(K:Frag) (p:v_),K.In h/\TabAt K h/\(∀(s:u_) (u:Value),BindsTo s p ⟨[u],[]⟩ [(x,u)])/\∀base:Heap,K.In base->base.Ns mainGlobals mg->FnOk l.prog w K mg base CX0 k fa p [x] (sp K))
 (m:∀(K:Frag) (H:Hp) (a:Addr) (ns:List Int),ns.length<=n->SqL K H a (ns.map V.int)->sp K [.ref a] H (fun v _=>v=.bl true) fun _ _ _=>False) :
 WalkO q loose XP YP l.row.toRowW d [] (fun f vs=>PySem.call f vs):=by
 refine Att.Am6 hn t fun w D B mg C fa o P O J a vs ns G Y Q R E j i c b L=>?_
 obtain⟨K,p,y,A,I,M⟩:=F w _ _ _ _ _ G.T G.X j
 exact A2x y G.T.g G.T.b G.T.builtins G.T.nolimit L G.T.bmain A i c (au b r) hr M I (fun H N=>m K H a _ b N) fun H e S z=>z
end L2
namespace L2
open PySem PySem.Spec PyProof.Rows
noncomputable def LaidS (H0:Hp)(xs ys:n7):Nat->n7->Hp->Prop
 | 0,ps,H=>ps=[]/\H=H0
 | i+1,ps,H=>∃r H' p x y,LaidS H0 xs ys i r H'/\xs[i]?=some x/\ys[i]?=some y/\H' p=none/\ps=r++[.ref p]/\H=upd H' p (.tup [x,y])
theorem SqK.upd (x:SqK t H a xs) (h:H p=none):SqK t (upd H p o) a xs:=by
 obtain⟨u,e⟩:=x.some;have b := Bq e h
 cases t
 ·exact(Ai b).trans x
 ·exact(Ai b).trans x
theorem Ar4:typeLookup (.type "zip") "__len__" = pure none:=by rw[typeLookup_type,builtinLookup_eq_fast];trivial
theorem Aq0:typeLookup (.type "zip") "__length_hint__" = pure none:=by rw[typeLookup_type,builtinLookup_eq_fast];trivial
section
variable {X:Cx}{pins:y_}{σ:St}{A:t_}{t1 t2:Bool}{z ti to i1 i2 a b S:Addr}{xs ys:n7}
theorem As2 (f:A.handled=none) (d:z7 z ti to i1 i2 a b) (y:Zs s.heap t1 t2 z ti to i1 i2 a b k) (ha:SqA t1 s.heap a us) (hb:SqA t2 s.heap b vs) (hx:us[k]?=none)
 (q:∀h',(∀c o,c∉[z,ti,to,i1,i2]->s.heap.get? c=some o->h'.get? c=some o)->Q none { s with heap:=h' }):wpAny (model P w) A (pyNext (.ref z)) Q E s:=by
 have l:=y.ty;unfold pyNext
 refine aj (dg (cP l dY (bQ dY l h_ ?_ (ie _))))
 rcases y with ⟨rfl,y⟩ | ⟨p0,b1,hp,y⟩
 ·refine Aj4 f d y ha hb (.inl hx) fun m e h i=>?_
  obtain⟨o,j,g⟩:=i;exact aj (dF ⟨o,j,g⟩ fL (ak (q _ h)))
 ·refine A4m f d y ha hx fun m e h i=>?_
  obtain⟨o,j,g⟩:=i;exact aj (dF ⟨o,j,g⟩ fL (ak (q _ h)))
theorem Bo2 (k:A.in1.handled=none) (nd:[z,ti,to,i1,i2].Nodup) (Q:S∉[z,ti,to,i1,i2]) (hl:xs.length=ys.length) (hz:xs.length<=sizeLine)
 (U:∀H acc c ps s,Inv X pins σ H s->LaidS H0 xs ys xs.length ps H->Vals ps acc.toList->s.heap.get? S=some { cls:=.type "list",dict:=none,data:=.seq acc c,slots:=#[] }->R (.ok (.ret B)) s) :
 ∀
  (r i:Nat) (H:Hp) (s:u_) (acc:v6) (c:Nat) (ps:n7),i+r=xs.length->Inv X pins σ H s->(∀b∈[z,ti,to,i1,i2],Mp X pins H b)->Mp X pins H S->to<s.heap.objs.size->SqK t1 H a xs->SqK t2 H b ys->Zs s.heap t1 t2 z ti to i1 i2 a b i ->
  s.heap.get? S=some { cls:=.type "list",dict:=none,data:=.seq acc c,slots:=#[] }->acc.size=i->Vals ps acc.toList->LaidS H0 xs ys i ps H->codeAny (model X.prog X.w) A (.builtin "list.extend.loop" ⟨[.ref S,.ref z,B],[]⟩) R s:=by
 have C:∀{H:Hp},(∀b∈[z,ti,to,i1,i2],Mp X pins H b)->SqK t1 H a xs->SqK t2 H b ys->z7 z ti to i1 i2 a b:=fun d h f =>
  ⟨nd,fun m=>by (obtain⟨o,e⟩:=h.some;rw[(d a m).1]at e;cases e),fun m=>by (obtain⟨o,e⟩:=f.some;rw[(d b m).1]at e;cases e)⟩
 intro r
 induction r with
 | zero =>
  intro i H s acc c ps e I d Z g h f y G N rv L
  have J:i=xs.length:=by lia
  subst J;obtain⟨its,M,K⟩:=h.its I;obtain⟨O,rb,P⟩:=f.its I
  refine bZ F.entry_extend_loop ?_
  rw[cu gB _]
  show wpAny _ A.in1 (pyNext (.ref z) >>= _) _ _ s
  refine aj (As2 k (C d h f) y K P (by simp[M.length]) fun h' D=>?_)
  exact ak (U H acc c ps _ (I.turnL (t':=s.toks) d fun c o m e=>D c o m e) L rv (D S _ Q G))
 | succ r ih =>
  intro i H s acc c ps e I d Z g h f y G N rv L
  have J:i<xs.length:=by lia
  have hj:i<ys.length:=by lia
  obtain⟨its,M,K⟩:=h.its I;obtain⟨O,rb,P⟩:=f.its I;obtain⟨u,hu,ru⟩:=M.get (bG J);obtain⟨v,hv,T⟩:=rb.get (bG hj)
  refine bZ F.entry_extend_loop ?_
  rw[cu gB _]
  show wpAny _ A.in1 (pyNext (.ref z) >>= _) _ _ s
  refine aj (A5j (x:=u) (x':=v) (C d h f) g y K P (by simpa using hu) (by simpa using hv) fun t z1 W Y D=>?_)
  have j:=D S _ Q G;have np:s.heap.objs.size≠S:=bK (az G);have hp:H s.heap.objs.size=none:=I.hok.fresh (aq _)
  have I1:=I.turnLay (t':=s.toks) (h':=t) (p:=s.heap.objs.size) (o:=.tup [xs[i],ys[i]]) d (fun c o m e=>D c o m e) (aq _) ⟨(show 2<=sizeLine by decide),[u,v],.cons ru (.cons T .nil),⟨_,W,rfl,⟨_,rfl⟩,rfl⟩⟩
  have lts:∀c∈[z,ti,to,i1,i2],c≠s.heap.objs.size:=fun c w=>by
   have l:=y.lt;simp only[aB,bf,bh]at w
   rcases w with rfl | rfl | rfl | rfl | rfl
   ·exact aL (l _ (by simp))
   ·exact aL (l _ (by simp))
   ·exact aL g
   ·exact aL (l _ (by simp))
   ·exact aL (l _ (by simp))
  have hf1:∀c∈[z,ti,to,i1,i2],Mp X pins (upd H s.heap.objs.size (.tup [xs[i],ys[i]])) c:=fun c w=>⟨(Ai (lts c w)).trans (d c w).1,(d c w).2⟩
  have E:Mp X pins (upd H s.heap.objs.size (.tup [xs[i],ys[i]])) S:=⟨(Ai (aG np)).trans Z.1,Z.2⟩
  show wpAny _ A.in1 (updateSeq S (·.push (.ref s.heap.objs.size)) >>= _) _ _ _
  have oth:∀b o,b≠S->t.get? b=some o->(t.update S (Obj.mapSeq (·.push (.ref s.heap.objs.size)))).get? b=some o:=fun b o n e=>(bH _ _ (aG n)).trans e
  have sb:Heap.SameBut S t (t.update S (Obj.mapSeq (·.push (.ref s.heap.objs.size)))):=bU ..
  refine aj (cU j rfl (ak ⟨bT gB _,ih (i+1) _ _ _ _ (ps++[.ref s.heap.objs.size]) (by lia)
   (I1.turnL (t':=s.toks) (ch:=[S]) (fun b f=>by rw[aV.mp f];exact E) fun b o m e=>oth b o (fun q=>m (by simp[q])) e) hf1 E ?_ (h.upd hp) (f.upd hp) (z1.keep (Nat.succ_pos _) Q sb fun o e=>⟨_,cT _ j rfl⟩) (cT _ j rfl) ?_ ?_ ⟨ps,H,_,_,_,L,bG J,bG hj,hp,rfl,rfl⟩⟩)
   (by rw[N];lia) (by show (acc.push _).size<=sizeLine+1;rw[Array.size_push];lia))
  ·rw[sb.1]
   exact Nat.lt_trans g Y
  ·rw[Array.size_push,N]
  ·rw[Array.toList_push]
   exact rv.append (.cons rfl .nil)
theorem Ap6 (g:A.handled=none) (I:Inv X pins σ H s) (G:[z,ti,to,i1,i2].Nodup) (hl:xs.length=ys.length) (hz:xs.length<=sizeLine)
 (hf:∀b∈[z,ti,to,i1,i2],Mp X pins H b) (i:to<s.heap.objs.size) (ha:SqK t1 H a xs) (hb:SqK t2 H b ys) (x:ZipAt s.heap t1 t2 z ti to i1 i2 a b .none 0)
 (N:∀k vs j p,Inv X pins σ k p->LaidS H xs ys xs.length j k->Vals j vs->Q vs p):wpAny (model X.prog X.w) A (collect (.ref z)) Q E s:=by
 unfold collect
 refine aj (wpAny_runValue (bZ F.entry_proto_collect ?_))
 rw[cu F.plain_proto_collect _]
 show wpAny _ A.in1 (newList [] >>= fun l=>again (.builtin "list.__iadd__" ⟨[l,.ref z],[]⟩)) _ _ s
 refine aj (cD ?_)
 refine ak ⟨bT iC _,bZ F.entry_list_iadd ?_⟩
 rw[cu iC _]
 have C:∀c o,s.heap.get? c=some o->(s.heap.push { cls:=.type "list",data:=.seq ([]:w6).toArray }).get? c=some o:=fun c o e=>aF _ e
 have D:(s.heap.push { cls:=.type "list",data:=.seq ([]:w6).toArray }).get? s.heap.objs.size=some { cls:=.type "list",data:=.seq ([]:w6).toArray }:=aJ _ rfl;have W:(s.heap.push { cls:=.type "list",data:=.seq ([]:w6).toArray }).objs.size=s.heap.objs.size+1:=bN ..;have y:Zs s.heap t1 t2 z ti to i1 i2 a b 0:=.inl ⟨rfl,x⟩;have h:=x.kept C
 generalize (s.heap.push { cls:=.type "list",data:=.seq ([]:w6).toArray })=h1 at *
 have T:Inv X pins σ H { s with heap:=h1 }:=I.kept (t':=s.toks) C
 have f:s.heap.objs.size∉[z,ti,to,i1,i2]:=fun m=>by
  have l:=y.lt;simp only[aB,bf,bh]at m
  rcases m with m | m | m | m | m
  ·exact absurd (l z (by simp)) (by rw[<- m];exact bI _)
  ·exact absurd (l ti (by simp)) (by rw[<- m];exact bI _)
  ·exact absurd i (by rw[<- m];exact bI _)
  ·exact absurd (l i1 (by simp)) (by rw[<- m];exact bI _)
  ·exact absurd (l i2 (by simp)) (by rw[<- m];exact bI _)
 have K:s.heap.objs.size≠z:=fun e=>f (by simp[e])
 have P:Builtin.List.listSameRef (.ref s.heap.objs.size) (.ref z)=false:=by simp[Builtin.List.listSameRef,K]
 show wpAny _ A.in1 (Builtin.List.listExtendWith (.ref s.heap.objs.size) (.ref z) (.ref s.heap.objs.size)) _ _ _
 unfold Builtin.List.listExtendWith
 have t:({ s with heap:=h1 }:u_).TypeIs (.ref z) "zip" := ⟨_,h.zip,rfl⟩
 refine aj (dI t ?_)
 have V:(Value.type "zip" == Value.type "list")=false:=by decide
 have J:(Value.type "zip" == Value.type "tuple")=false:=by decide
 simp only[P,V,J,Bool.or_false,cV,bM]
 refine aj (jg h.zip ?_)
 refine aj (bB ?_)
 unfold Builtin.List.listLengthHint
 refine aj (dD t Ar4 ?_)
 show wpAny _ A.in1 (specialOf (Value.ref z) (Str.ofString "__length_hint__") >>= _) _ _ _
 refine aj (dD t Aq0 ?_)
 refine ak ?_
 show wpAny _ A.in1 (rule "list.extend.makes-room" >>= fun _=>Builtin.List.listTouch (.ref s.heap.objs.size) >>= fun _ =>
  again (.builtin "list.extend.loop" ⟨[.ref s.heap.objs.size,.ref z,.ref s.heap.objs.size],[]⟩)) _ _ _
 refine aj (cA ?_)
 refine aj ?_
 show wpAny _ A.in1 (updateSeq s.heap.objs.size (·.push .none) >>= fun _=>updateSeq s.heap.objs.size (·.pop)) _ _ _
 refine aj (cU D rfl ?_)
 have B:=cT (Obj.mapSeq (·.push Value.none)) D rfl
 refine cU B rfl ?_
 have M:=cT (Obj.mapSeq (·.pop)) B rfl
 have d:∀b o,b≠s.heap.objs.size->h1.get? b=some o->((h1.update s.heap.objs.size (Obj.mapSeq (·.push Value.none))).update s.heap.objs.size (Obj.mapSeq (·.pop))).get? b=some o:=fun b o n e=>(bH _ _ (aG n)).trans ((bH _ _ (aG n)).trans e)
 have O:((h1.update s.heap.objs.size (Obj.mapSeq (·.push Value.none))).update s.heap.objs.size (Obj.mapSeq (·.pop))).objs.size=h1.objs.size:=(show Heap.SameBut s.heap.objs.size _ _ from bU ..).1.trans (show Heap.SameBut s.heap.objs.size h1 _ from bU ..).1
 have w:Mp X pins H s.heap.objs.size:=I.fpOk (aq _) (I.hok.fresh (aq _))
 have R:Inv X pins σ H { s with heap:=(h1.update s.heap.objs.size (Obj.mapSeq (·.push Value.none))).update s.heap.objs.size (Obj.mapSeq (·.pop)) }:=T.turnL (t':=s.toks) (ch:=[s.heap.objs.size]) (fun b hb=>by rw[aV.mp hb];exact w) fun b o m e=>d b o (fun q=>m (by simp[q])) e
 have S:ZipAt ((h1.update s.heap.objs.size (Obj.mapSeq (·.push Value.none))).update s.heap.objs.size (Obj.mapSeq (·.pop))) t1 t2 z ti to i1 i2 a b .none 0:=by
  simp only[aB,bf,bh,not_or]at f;obtain⟨u,v,e⟩:=h.outs
  exact⟨d _ _ (aG f.1) h.zip,d _ _ (aG f.2.1) h.ins,⟨u,v,d _ _ (aG f.2.2.1) e⟩,h.one.stay fun o e=>d _ _ (aG f.2.2.2.1) e,h.two.stay fun o e=>d _ _ (aG f.2.2.2.2) e⟩
 refine ak ⟨bT gB _,Bo2 (X:=X) (pins:=pins) (σ:=σ) (H0:=H) (show A.in1.handled=none from g) G f hl hz (fun k U c j p Y L Z r=>?_) xs.length 0 H _ _ _ [] (aM _) R hf w ?_ ha hb (.inl ⟨rfl,S⟩) M rfl .nil ⟨rfl,rfl⟩⟩
 ·show wpAny _ A (load s.heap.objs.size >>= _) _ _ p
  exact aj (wpAny_load r (ak (N k _ j _ Y L Z)))
 ·rw[O,W]
  exact dU i
theorem LaidS.length {H0:Hp}:∀{i:Nat}{ps:n7}{H:Hp},LaidS H0 xs ys i ps H->ps.length=i
 | 0,_,_,⟨e,_⟩=>by rw[e];rfl
 | i+1,_,_,⟨r,H',p,x,y,l,_,_,_,e,_⟩=>by rw[e,aX,l.length];rfl
theorem Ym : MeetsIn P w (Builtin.«tuple.__new__» ⟨[.type "tuple",.ref z],[]⟩)
 (fun A R s=>s.TypeIs (.ref z) "zip" /\ wpAny (model P w) A.in1.in1 (collect (.ref z)) (fun vs s'=>vs.length<=sizeLine/\R (.ok (.ret (.ref s'.heap.objs.size))) { s' with heap:=s'.heap.push { cls:=.type "tuple",data:=.seq vs.toArray } }) (fun e s'=>R (.error e) s') s) :=
 .of_wp fun A R s h=>by
  obtain⟨f,i⟩:=h;have c:=sub_tuple_self;have b:=init_tuple_lookup;have g:=madeHere_tuple
  have a:∀{Q:w6->u_->Prop},(∀vs s',vs.length<=sizeLine->R (.ok (.ret (.ref s'.heap.objs.size))) { s' with heap:=s'.heap.push { cls:=.type "tuple",data:=.seq vs.toArray } }->Q vs s')->wpAny (model P w) A.in1 (collect (.ref z)) Q (fun e s'=>R (.error e) s') s:=fun h=>wpAny_of_in1 (aU i (fun vs s' q=>h vs s' q.1 q.2) fun _ _ q=>q)
  wp_walk using dI f,a
  intro vs s' j d
  refine aj (ak ?_)
  show wpAny _ _ (Builtin.Tuple.tupleExact vs.toArray >>= fun v=>ret v) _ _ _
  unfold Builtin.Tuple.tupleExact
  refine aj (cD ?_ (by show vs.toArray.size<=sizeLine;simpa using j))
  exact ak ⟨_,rfl,d⟩
def Bt4 (ta:TA):TE:=fun σ H Q=>ta σ H fun vs H1=>∃a b,vs=[.ref a,.ref b]/\∃t1 t2 xs ys,SqK t1 H1 a xs/\SqK t2 H1 b ys/\xs.length=ys.length/\∀ps p H2,LaidS H1 xs ys xs.length ps H2->H2 p=none->Q (.ref p) (upd H2 p (.tup ps))
theorem Bi0 {p n l a:Pos}(hc:X.calm=true) (t:Gl X "tuple") (r:X.mg "tuple" = none) (hg:Gl X "zip") (hm:X.mg "zip" = none) (ha:QA X [e,f] B) (hs1:isStar e=false:=by rfl) (hs2:isStar f=false:=by rfl) :
 QE X (.Call (.Name "tuple" p) [.Call (.Name "zip" n) [e,f] [] a] [] l) (Bt4 B):=by
 refine⟨?_⟩
 intro g s D H Q I h;have v:=Ge (es:=[f]) (env:=X.env) hs1;have w:=Ge (es:=[]) (env:=X.env) hs2;have j:starEach [.Call (.Name "zip" n) [e,f] [] a] X.env=(false,eval (.Call (.Name "zip" n) [e,f] [] a) X.env)::starEach [] X.env:=Ge rfl
 refine Call_ (Jf I t r Lh (d_ ?_ j rfl))
 rw[j]
 show wpAny _ _ (spliced ((false,eval (.Call (.Name "zip" n) [e,f] [] a) X.env)::backTo l (starEach [] X.env))) _ _ s
 refine eG ?_
 refine Call_ (Jf I hg hm Zj (d_ (thn (ha.1 a g s D H _ I h) fun us d ⟨vs,H1,i,r1,q1⟩=>?_) v (by rw[w];rfl)))
 obtain⟨a',b',rfl,t1,t2,E,ys,m,G,hl,q⟩:=q1
 have o:E.length<=sizeLine:=by
  cases t1
  ·obtain⟨_,_,_,z⟩:=i.list (SqL.of m);exact z
  ·obtain⟨_,_,_,z⟩:=i.tuple (SqT.of m);exact z
 obtain⟨u1,u2,rfl,g1,g2⟩:=Vals.two r1
 cases (show u1=Value.ref a' from g1)
 cases (show u2=Value.ref b' from g2)
 obtain⟨its,rv,pa⟩:=m.its i;obtain⟨jts,rw',pb⟩:=G.its i
 refine Wj pa pb fun J x kp=>gb ?_
 have I2:Inv X g D H1 { d with heap:=J }:=i.kept (t':=d.toks) kp
 have y:[d.heap.objs.size+4,d.heap.objs.size+2,d.heap.objs.size+3,d.heap.objs.size,d.heap.objs.size+1].Nodup:=by simp
 have C:∀c∈[d.heap.objs.size+4,d.heap.objs.size+2,d.heap.objs.size+3,d.heap.objs.size,d.heap.objs.size+1],d.heap.objs.size<=c:=fun c hc=>by
  simp only[aB,bf,bh]at hc
  rcases hc with rfl | rfl | rfl | rfl | rfl <;> simp
 obtain⟨u0,v0,o0⟩:=x.outs
 refine callType_newIn F.called_tuple (by decide) (F.typeCall_tuple_1 _) (F.newCall_tuple_1 _) (fun A=>jh A _) F.entry_tuple_new Ym ⟨⟨_,x.zip,rfl⟩,?_⟩
 refine Ap6 (s:={ d with heap:=J }) (show _=none from I.ok.hd hc) I2 y hl o (fun c hc=>i.fpOk (C c hc) (i.hok.fresh (C c hc))) (az o0) m G x fun H' ws ps s' I' L k=>?_
 have lp:ps.length=E.length:=L.length
 refine⟨by rw[<- k.length,lp];exact o,⟨_,aJ _ rfl,rfl⟩,?_⟩
 have hf:H' s'.heap.objs.size=none:=I'.hok.fresh (aq _)
 refine⟨.ref s'.heap.objs.size,upd _ _ _,I'.laid (fun b u e=>aF _ e) (aq _) ?_,rfl,q _ _ _ L hf⟩
 exact⟨by rw[lp];exact o,ws,k,_,aJ _ rfl,rfl,⟨0,by simp⟩,rfl⟩
end
end L2
namespace U
open PySem L2
inductive Th where
 | nm (T:String)
 | dc (ks:v4) (ds:w5)
 | dt (ks ds:w5)
 | ds (ks ds:w5)
 | td (xs ks ds:w5)
 | xc (nm:Str)
 | tc (ss:v4)
inductive O where
 | im (d:t6)
 | ls (b:Bool) (ds:w5)
 | sc (ns:List Int)
 | ty (T:Th)
abbrev n6:=Option O
abbrev o_:=List (n6)
abbrev Ev:=o_
inductive PV where
 | o (o:O)
 | sl (i:Nat)
inductive R (α:Type) where
 | ok (a:α) (c:Ev)
 | bad
abbrev o8:=Ev->R PV
abbrev o7:=Ev->R Bool
abbrev p8:=PV->Ev->R Unit
abbrev o6:=Ev->R (List PV)
abbrev p_:=Ev->R (w5)
noncomputable def R.bind {α β:Type}(r:R α)(k:α->Ev->R β):R β:=match r with
 | .ok a c=>k a c
 | .bad=>.bad
def R.sat {α:Type}(r:R α)(φ:α->Ev->Prop):Prop:=match r with
 | .ok a c=>φ a c
 | .bad=>False
theorem R.sat_bind {r:R d}{k:d->Ev->R e}{b:e->Ev->Prop}:(r.bind k).sat b↔r.sat fun a c=>(k a c).sat b:=by cases r <;> exact Iff.rfl
theorem R.sat.mono {r:R d}{e b:d->Ev->Prop}(h:r.sat e) (f:∀a c,e a c->b a c):r.sat b:=by
 cases r with
 | ok a c=>exact f a c h
 | bad=>exact h
theorem R.sat.bnd {r:R d}{k:d->Ev->R e}{b:e->Ev->Prop}(h:(r.bind k).sat b):r.sat fun a c=>(k a c).sat b:=R.sat_bind.mp h
noncomputable def O.bor:O->Bool
 | .ls b _=>b
 | _=>false
noncomputable def O.own:O->Bool
 | .ls _ _=>true
 | _=>false
noncomputable def O.dat:O->Option t6
 | .im d=>some d
 | .ls _ ds=>some (.list ds)
 | _=>none
noncomputable def O.flag (b:Bool):O->O
 | .ls _ ds=>.ls b ds
 | o=>o
noncomputable def nrm:PV->PV
 | .o (.ls _ ds)=>.o (.im (.list ds))
 | p=>p
noncomputable def rdP (c:Ev):PV->n6
 | .o o=>some o
 | .sl i=>(c[i]?).join
def Dl (c:Ev)(p:PV):Option t6:=(rdP c p).bind O.dat
structure Wo where
 Hf:Hp
 H:Hp
 fps:Nat->v5
def Wo.S (W:Wo):Addr->Prop:=fun a=>∃i,a∈W.fps i
noncomputable def RepT (K:v8)(Hf:Hp):Th->V->Prop
 | .nm T,v=>v=.ty T
 | .dc ks ds,v=>∃a xs,v=.ref a/\Hf a=some (.dK (B7d ks xs))/\TrL Hf ds xs
 | .dt ks ds,v=>∃a xs,v=.ref a/\Rd Hf a (.dT (ks.zip xs))/\TrL Hf ds xs/\ks.length=xs.length
 | .ds ks ds,v=>∃a o xs,v=.ref a/\Hf a=some (.frz o (.dT (ks.zip xs)))/\TrL Hf ds xs/\ks.length=xs.length
 | .td es ks ds,v=>∃a us b o xs,v=.ref a/\Hf a=some (.tup (us++[.ref b]))/\TrL Hf es us/\Hf b=some (.frz o (.dT (ks.zip xs)))/\TrL Hf ds xs/\ks.length=xs.length
 | .xc nm,v=>∃a C,v=.ref a/\PySem.W.nsIn K mainGlobals nm=some (some (.ref C))/\Hf a=some (B6s a C)
 | .tc ss,v=>∃p,v=.ref p/\∀H,SqT K H p (ss.map V.str)
theorem Bh1 (S:Same Hf b) (h:Rd Hf a u):Rd b a u:=h.imp (fun h=>S _ _ h) fun⟨o,h⟩=>⟨o,S _ _ h⟩
theorem RepT.same {K:v8}{Hf Hf':Hp}(S:Same Hf Hf'):∀{t:Th}{v:V},RepT K Hf t v->RepT K Hf' t v
 | .nm T,_,h=>h
 | .dc ks ds,_,⟨a,xs,e,h,t⟩=>⟨a,xs,e,S _ _ h,TrL.same S t⟩
 | .dt ks ds,_,⟨a,xs,e,h,t,l⟩=>⟨a,xs,e,Bh1 S h,TrL.same S t,l⟩
 | .ds ks ds,_,⟨a,o,xs,e,h,t,l⟩=>⟨a,o,xs,e,S _ _ h,TrL.same S t,l⟩
 | .td es ks ds,_,⟨a,us,b,o,xs,e,h,t,h2,t2,l⟩=>⟨a,us,b,o,xs,e,S _ _ h,TrL.same S t,S _ _ h2,TrL.same S t2,l⟩
 | .xc nm,_,⟨a,C,e,n,h⟩=>⟨a,C,e,n,S _ _ h⟩
 | .tc ss,_,h=>h
noncomputable def RepN (K:v8)(Hf:Hp):O->V->Prop
 | .im d,v=>Tr Hf d v
 | .sc ns,v=>∃a,v=.ref a/\SqL K Hf a (ns.map V.int)
 | .ty T,v=>RepT K Hf T v
 | .ls _ _,_=>False
def RepO (K:v8)(Hf H:Hp)(o:O)(v:V)(fp:v5):Prop:=match o with
 | .ls _ ds=>∃a vs,v=.ref a/\fp=[a]/\Hf a=none/\H a=some (.lst vs)/\TrL Hf ds vs
 | o=>fp=[]/\RepN K Hf o v
structure Stp (S:Addr->Prop) (Hf H:Hp) (S':Addr->Prop) (Hf' H':Hp):Prop where
 fz:Same Hf Hf'
 kp:∀a o,H a=some o->¬ S a->H' a=some o
 nf:∀a o,H a=some o->Mut (some o)->¬ S a->Hf a=none->Hf' a=none
 fr:∀a,S' a->S a\/H a=none
structure Rep (K:v8) (β:Nat->V) (W:Wo) (c:Ev) (σ:St):Prop where
 sub:Same W.Hf W.H
 len:c.length=σ.length
 get:∀i o,c[i]?=some (some o)->∃v,σ[i]?=some (some v)/\RepO K W.Hf W.H o v (W.fps i)/\(o.bor=true->v=β i)
 dis:∀i j a,a∈W.fps i->a∈W.fps j->i=j
 own:∀i a,a∈W.fps i->W.Hf a=none/\∃o,W.H a=some o/\Mut (some o)
noncomputable def Gi (K:v8)(W:Wo)(σ:St):PV->V->v5->Prop
 | .o o,v,fp=>RepO K W.Hf W.H o v fp/\∀a∈fp,¬ W.S a
 | .sl i,v,fp=>fp=[]/\σ[i]?=some (some v)
noncomputable def RepA (K:v8)(Hf:Hp)(σ:St):PV->V->Prop
 | .o o,v=>RepN K Hf o v
 | .sl i,v=>σ[i]?=some (some v)
noncomputable def zU (K:v8)(Hf:Hp)(σ:St):List PV->n7->Prop
 | [],vs=>vs=[]
 | p::ps,vs=>∃v r,vs=v::r/\RepA K Hf σ p v/\zU K Hf σ ps r
abbrev orS (S:Addr->Prop)(fp:v5):Addr->Prop:=fun a=>S a\/a∈fp
section
variable {K:v8}{β:Nat->V}{W W':Wo}{c c':Ev}{σ:St}{Hf Hf' Hf2 H H' H2:Hp}{o:O}{v:V}{fp:v5}{S S' S2:Addr->Prop}{p:PV}{a:Addr}
theorem Stp.refl:Stp S Hf H S Hf H:=⟨fun _ _ h=>h,fun _ _ h _=>h,fun _ _ _ _ _ h=>h,fun _ h=>.inl h⟩
theorem Stp.trans (x:Stp S Hf H S' Hf' H')(y:Stp S' Hf' H' S2 Hf2 H2):Stp S Hf H S2 Hf2 H2:=by
 have b:∀a o,H a=some o->¬ S a->¬ S' a:=fun a o h n z=>by
  rcases x.fr a z with q | q
  ·trivial
  simp_all
 refine⟨x.fz.trans y.fz,fun a o h n=>y.kp a o (x.kp a o h n) (b a o h n),fun a o h c n q=>y.nf a o (x.kp a o h n) c (b a o h n) (x.nf a o h c n q),fun a h=>?_⟩
 rcases y.fr a h with q | q
 ·exact x.fr a q
 ·cases e:H a with
  | none=>simp_all
  | some o =>
   by_cases n:S a
   ·grind
   ·rw[x.kp a o e n]at q;grind
theorem Stp.less (x:Stp S Hf H S' Hf' H')(h:∀a,S2 a->S' a):Stp S Hf H S2 Hf' H':=⟨x.fz,x.kp,x.nf,fun a q=>x.fr a (h a q)⟩
theorem Stp.more {F:Addr->Prop}(x:Stp S Hf H S' Hf' H'):Stp (fun a=>S a\/F a) Hf H (fun a=>S' a\/F a) Hf' H' :=
 ⟨x.fz,fun a o h n=>x.kp a o h fun z=>n (.inl z),fun a o h b n q=>x.nf a o h b (fun z=>n (.inl z)) q,fun a q=>by
  rcases q with q | q
  ·rcases x.fr a q with z | z
   ·simp_all
   grind
  simp_all⟩
theorem Stp.up (x:Stp S Hf H S' Hf' H')(h:∀a,S a->S2 a):Stp S2 Hf H S' Hf' H' :=
 ⟨x.fz,fun a o e n=>x.kp a o e fun z=>n (h a z),fun a o e b n q=>x.nf a o e b (fun z=>n (h a z)) q,fun a q=>(x.fr a q).imp (h a) id⟩
theorem RepN.same (S:Same Hf Hf'):∀{o:O}{v:V},RepN K Hf o v->RepN K Hf' o v
 | .im d,_,h=>Tr.same S h
 | .sc ns,_,⟨a,e,h⟩=>⟨a,e,Same.seq S h⟩
 | .ty T,_,h=>RepT.same S h
 | .ls _ _,_,h=>h
theorem RepA.same (S:Same Hf Hf'):∀{p:PV}{v:V},RepA K Hf σ p v->RepA K Hf' σ p v
 | .o _,_,h=>RepN.same S h
 | .sl _,_,h=>h
theorem zU.same (S:Same Hf Hf'):∀{ps:List PV}{vs:n7},zU K Hf σ ps vs->zU K Hf' σ ps vs
 | [],_,h=>h
 | p::ps,_,⟨v,r,e,h,t⟩=>⟨v,r,e,RepA.same S h,zU.same S t⟩
theorem RepO.mono (h:RepO K Hf H o v fp)(S:Same Hf Hf')(h1:∀a∈fp,Hf' a=none/\H' a=H a):RepO K Hf' H' o v fp:=by
 cases o with
 | ls b ds =>
  obtain⟨a,f,rfl,rfl,q,e,t⟩:=h;obtain⟨c,g⟩:=h1 a (.head _);exact⟨a,f,rfl,rfl,c,g.trans e,TrL.same S t⟩
 | im d=>exact⟨h.1,RepN.same S h.2⟩
 | sc ns=>exact⟨h.1,RepN.same S h.2⟩
 | ty T=>exact⟨h.1,RepN.same S h.2⟩
theorem Rep.frame (R:Rep K β W c σ)(S:Same W.Hf Hf')(sub:Same Hf' H')(h:∀a,W.S a->Hf' a=none/\H' a=W.H a):Rep K β ⟨Hf',H',W.fps⟩ c σ :=
 ⟨sub,R.len,fun i o e=>by
  obtain⟨v,f,r,b⟩:=R.get i o e
  exact⟨v,f,r.mono S fun a d=>h a ⟨i,d⟩,b⟩,R.dis,fun i a d=>by
  obtain⟨_,o,q,j⟩:=R.own i a d;obtain⟨k,g⟩:=h a ⟨i,d⟩
  grind⟩
theorem Rep.notS (R:Rep K β W c σ)(h:W.H a=none):¬ W.S a:=fun⟨i,q⟩=>by
 obtain⟨_,o,e,_⟩:=R.own i a q
 grind
theorem Rep.notF (R:Rep K β W c σ)(h:W.H a=none):W.Hf a=none:=Same.free R.sub h
theorem Stp.rep (R:Rep K β W c σ)(x:Stp (fun _=>False) W.Hf W.H S' Hf' H')(sub:Same Hf' H'):Rep K β ⟨Hf',H',W.fps⟩ c σ :=
 R.frame x.fz sub fun a d=>by
  obtain⟨i,f⟩:=d;obtain⟨z,o,e,b⟩:=R.own i a f
  exact⟨x.nf a o e b (fun z=>z) z,(x.kp a o e fun z=>z).trans e.symm⟩
theorem Bo {p:Addr}{o:HO}(h:H p=none):Same H (upd H p o):=fun b u e=>by
 rw[Ai];exact e
 grind
theorem Kp {o:HO}(s:Same Hf H):Same (upd Hf a o) (upd H a o):=fun b u e=>by
 unfold upd at e ⊢
 split
 ·grind
 ·rename_i z;rw[if_neg z]at e;exact s b u e
theorem Stp.newF {o:HO}(s:Same Hf H)(h:H a=none):Stp (fun _=>False) Hf H (fun _=>False) (upd Hf a o) (upd H a o) :=
 ⟨Bo (Same.free s h),fun b u e _=>Bo h b u e,fun b u e _ _ q=>by rw[Ai (Bq e h)];grind,fun _ z=>z.elim⟩
theorem Stp.newL {o:HO}(s:Same Hf H)(h:H a=none):Stp (fun _=>False) Hf H (fun b=>b∈[a]) Hf (upd H a o) :=
 ⟨Same.refl _,fun b u e _=>Bo h b u e,fun b u e _ _ q=>q,fun b z=>by
  grind⟩
theorem Vd {o:HO}(s:Same Hf H)(h:H a=none):Same Hf (upd H a o):=s.trans (Bo h)
def ME (K:v8)(T:TE)(f:o8):Prop:=∀(β:Nat->V) (W:Wo) (c:Ev) (σ:St) (Q:VK),Rep K β W c σ ->
 (f c).sat (fun p c'=>∀v W' fp,Stp W.S W.Hf W.H (orS W'.S fp) W'.Hf W'.H->Rep K β W' c' σ->Gi K W' σ p v fp->Q v W'.H)->T σ W.H Q
def MV (K:v8)(T:TE)(f:o8):Prop:=∀(β:Nat->V) (W:Wo) (c:Ev) (σ:St) (Q:VK),Rep K β W c σ ->
 (f c).sat (fun p c'=>∀v W',Stp W.S W.Hf W.H W'.S W'.Hf W'.H->Rep K β W' c' σ->RepA K W'.Hf σ (nrm p) v->Q v W'.H)->T σ W.H Q
def MA (K:v8)(T:TA)(f:o6):Prop:=∀(β:Nat->V) (W:Wo) (c:Ev) (σ:St) (Q:n7->Hp->Prop),Rep K β W c σ ->
 (f c).sat (fun ps c'=>∀vs W',Stp W.S W.Hf W.H W'.S W'.Hf W'.H->Rep K β W' c' σ->zU K W'.Hf σ ps vs->Q vs W'.H)->T σ W.H Q
def MT (K:v8)(T:TT)(f:o7):Prop:=∀(β:Nat->V) (W:Wo) (c:Ev) (σ:St) (Q:Bool->Hp->Prop),Rep K β W c σ ->
 (f c).sat (fun b c'=>∀W',Stp W.S W.Hf W.H W'.S W'.Hf W'.H->Rep K β W' c' σ->Q b W'.H)->T σ W.H Q
theorem Aa8 (R:Rep K β W c σ) (hf:W.Hf a=none) (h:W.H a=some (.lst vs)) (hn:¬ W.S a):Rep K β ⟨upd W.Hf a (.lst vs),W.H,W.fps⟩ c σ :=
 R.frame (Bo hf) (fun b u e=>by
  unfold upd at e
  split at e
  ·grind
  ·exact R.sub b u e) fun b f=>by
   obtain⟨i,g⟩:=f
   have d:b≠a:=fun z=>hn ⟨i,by simp_all⟩
   exact⟨by rw[Ai d];exact(R.own i b g).1,rfl⟩
theorem Bw2 {Q:VK} (k:∀v c,Stp W.S W.Hf W.H c.S c.Hf c.H->Rep K β c c' σ->RepA K c.Hf σ (nrm p) v->Q v c.H) (v:V) (c:Wo) (fp:v5) (st:Stp W.S W.Hf W.H (orS c.S fp) c.Hf c.H) (g:Rep K β c c' σ) (f:Gi K c σ p v fp):Q v c.H:=by
 cases p with
 | sl i =>
  obtain⟨rfl,e⟩:=f
  exact k v _ (st.less fun a z=>.inl z) g e
 | o o =>
  cases o with
  | im d =>
   obtain⟨⟨rfl,e⟩,_⟩:=f
   exact k v _ (st.less fun a z=>.inl z) g e
  | sc d =>
   obtain⟨⟨rfl,e⟩,_⟩:=f
   exact k v _ (st.less fun a z=>.inl z) g e
  | ty d =>
   obtain⟨⟨rfl,e⟩,_⟩:=f
   exact k v _ (st.less fun a z=>.inl z) g e
  | ls b ds =>
   obtain⟨⟨a,l,rfl,rfl,h,r,t⟩,m⟩:=f
   refine k _ ⟨upd _ a _,c.H,c.fps⟩ ⟨st.fz.trans (Bo h),st.kp,fun b o e s n q=>?_,fun b z=>st.fr b (.inl z)⟩ (Aa8 g h r (m a (.head _))) ?_
   ·have j:b≠a:=fun z=>by
     rcases st.fr a (.inr (.head _)) with y | y
     ·grind
     simp_all
    show upd _ a _ b=none
    rw[Ai j];exact st.nf b o e s n q
   ·exact⟨a,l,rfl,Ay,TrL.same (Bo h) t⟩
theorem ME.toV (h:ME K T f):MV K T f:=fun e W c j Q R s=>h _ W c _ Q R (s.mono fun p l k v g i a d b=>Bw2 k v _ _ a d b)
end
noncomputable def RdV (Hf H:Hp):t6->V->Prop
 | .list ds,v=>∃a vs,v=.ref a/\H a=some (.lst vs)/\TrL Hf ds vs
 | d,v=>Tr Hf d v
section
variable {K:v8}{β:Nat->V}{W W':Wo}{c c':Ev}{σ:St}{Hf Hf' H H':Hp}{o:O}{v:V}{fp:v5}{S:Addr->Prop}{p:PV}{a:Addr}{d:t6}
theorem RdV.of (s:Same Hf H)(h:Tr Hf d v):RdV Hf H d v:=by
 cases d with
 | list f=>obtain⟨a,c,e,q,t⟩:=h;exact⟨a,c,e,s _ _ q,t⟩
 | none=>exact h
 | bool b=>exact h
 | int i=>exact h
 | str x=>exact h
 | tuple f=>exact h
 | dict k=>exact h
theorem RdV.tr (s:Same Hf H)(h:RdV Hf H d v):Tr H d v:=by
 cases d with
 | list f=>obtain⟨a,c,e,q,t⟩:=h;exact⟨a,c,e,q,TrL.same s t⟩
 | none=>exact h
 | bool b=>exact h
 | int i=>exact h
 | str x=>exact h
 | tuple f=>exact Tr.same s h
 | dict k=>trivial
theorem Fd (R:Rep K β W c σ)(h:RepA K W.Hf σ p v)(e:Dl c p=some d):RdV W.Hf W.H d v:=by
 cases p with
 | o o =>
  cases o with
  | im m=>cases e;exact .of R.sub h
  | ls b n=>trivial
  | sc k=>trivial
  | ty T=>trivial
 | sl i =>
  have l:c[i]?.join.bind _=some d:=e;obtain⟨o,g,f⟩:=cH.mp l
  have g:c[i]?=some (some o):=by
   grind
  obtain⟨u,s,r,_⟩:=R.get i o g
  cases s.symm.trans h
  cases o with
  | im m=>cases f;exact .of R.sub r.2
  | ls b n =>
   cases f
   obtain⟨a,j,e,_,_,q,t⟩:=r;exact⟨a,j,e,q,t⟩
  | sc k=>trivial
  | ty T=>trivial
noncomputable def B0e (Hf H:Hp):w5->n7->Prop
 | [],vs=>vs=[]
 | d::ds,vs=>∃v r,vs=v::r/\RdV Hf H d v/\B0e Hf H ds r
abbrev New (K:v8)(Hf H:Hp)(o:O)(Q:VK):Prop:=∀v Hf' H' fp,Stp (fun _=>False) Hf H (fun a=>a∈fp) Hf' H'->Same Hf' H'->RepO K Hf' H' o v fp->Q v H'
def OpS (K:v8)(r:R2)(op:t6->t6->n6):Prop:=∀(Hf H:Hp) (x y:V) (dx dy:t6) (o:O) (Q:VK),Same Hf H->RdV Hf H dx x->RdV Hf H dy y->op dx dy=some o->New K Hf H o Q->r x y H Q
def B4q (K:v8)(r:n7->Hp->VK->Prop)(op:w5->n6):Prop:=∀(Hf H:Hp) (xs:n7) (ds:w5) (o:O) (Q:VK),Same Hf H->B0e Hf H ds xs->op ds=some o->New K Hf H o Q->r xs H Q
theorem New.same (h:New K Hf H (.im d) Q) (s:Same Hf H) (t:Tr Hf d v):Q v H:=h v _ H [] (Stp.refl.less fun a z=>nomatch z) s ⟨rfl,t⟩
theorem New.tup (h:New K Hf H (.im (.tuple ds)) Q) (s:Same Hf H) (t:TrL Hf ds vs) {p:Addr}(hp:H p=none):Q (.ref p) (upd H p (.tup vs)) :=
 h _ _ _ [] ((Stp.newF s hp).less fun a z=>nomatch z) (Kp s) ⟨rfl,p,vs,rfl,Ay,TrL.same (Bo (Same.free s hp)) t⟩
theorem New.lst (h:New K Hf H (.ls false ds) Q) (s:Same Hf H) (t:TrL Hf ds vs) {p:Addr}(hp:H p=none):Q (.ref p) (upd H p (.lst vs)) :=
 h _ _ _ _ (Stp.newL s hp) (Vd s hp) ⟨p,vs,rfl,rfl,Same.free s hp,Ay,t⟩
theorem New.of (R:Rep K β W c σ) (k:∀v W' d,Stp W.S W.Hf W.H (orS W'.S d) W'.Hf W'.H->Rep K β W' c σ->Gi K W' σ (.o o) v d->Q v W'.H):New K W.Hf W.H o Q:=by
 intro v h j d b f r
 refine k v _ _ ⟨b.fz,fun a o e _=>b.kp a o e fun z=>z,fun a o e i _ q=>b.nf a o e i (fun z=>z) q,fun a z=>?_⟩ (b.rep R f) ⟨r,fun a g z=>?_⟩
 ·rcases z with z | z
  ·exact .inl z
  ·rcases b.fr a z with y | y
   ·trivial
   grind
 ·rcases b.fr a g with y | y
  ·lia
  ·exact R.notS y z
def cOp (op:t6->t6->n6)(fa fb:o8):o8:=fun c=>(fa c).bind fun p c=>(fb c).bind fun q c =>
 match Dl c (nrm p),Dl c (nrm q) with
 | some x,some y=>match op x y with
  | some o=>.ok (.o o) c
  | none=>.bad
 | _,_=>.bad
theorem A9d (ha:ME K g fa) (hb:ME K f fb) (hr:OpS K r op):ME K (tOp r g f) (cOp op fa fb):=by
 intro β W c σ Q R s
 refine ha.toV _ W c _ _ R (s.bnd.mono fun p c1 l v1 W1 d i j=>?_)
 refine hb.toV _ _ _ _ _ i (l.bnd.mono fun q e a v2 W2 b R2 k=>?_)
 cases ex:Dl e (nrm p) with
 | none=>simp only[ex]at a;trivial
 | some x =>
  cases ey:Dl e (nrm q) with
  | none=>simp only[ex,ey]at a;trivial
  | some y =>
   simp only[ex,ey]at a
   cases eo:op x y with
   | none=>simp only[eo]at a;trivial
   | some o =>
    simp only[eo]at a
    exact hr _ _ _ _ x y o Q R2.sub (Fd R2 (RepA.same b.fz j) ex) (Fd R2 k ey) eo (New.of R2 fun v W' fp m n h=>a v _ _ (d.trans (b.trans m)) n h)
noncomputable def Ah:o6:=fun c=>.ok [] c
def Ab (f:o8)(fr:o6):o6:=fun c=>(f c).bind fun p c=>(fr c).bind fun ps c=>.ok (nrm p::ps) c
noncomputable def cK (ds:w5):o6:=fun c=>.ok (ds.map fun d=>.o (.im d)) c
theorem B2e:MA K Gm Ah:=fun b W c a Q R s=>s _ W Stp.refl R rfl
theorem Bm3 {d:TE} (ha:ME K d fa) (hr:MA K e f):MA K (Cm d e) (Ab fa f):=by
 intro t W c v Q R s
 refine ha.toV _ W c _ _ R (s.bnd.mono fun p o i j r b h g=>?_)
 refine hr _ _ _ _ _ h (i.bnd.mono fun w q m l u a n k=>?_)
 exact m _ _ (b.trans a) n ⟨j,l,rfl,RepA.same a.fz g,k⟩
noncomputable def Aa (i:Nat):o8:=fun c=>match c[i]? with
 | some (some (.ls _ _))=>.ok (.sl i) c
 | some (some o)=>.ok (.o o) c
 | _=>.bad
theorem Rep.here (R:Rep K β W c σ) (h:RepN K W.Hf o v) (n:o.own=false) {Q:VK}(s:∀v W' fp,Stp W.S W.Hf W.H (orS W'.S fp) W'.Hf W'.H->Rep K β W' c σ->Gi K W' σ (.o o) v fp->Q v W'.H):Q v W.H :=
 s
  v W [] (Stp.refl.less fun a z=>by
  grind) R ⟨by
   cases o with
   | ls b e=>trivial
   | im d=>trivial
   | sc d=>trivial
   | ty d=>trivial,fun a z=>nomatch z⟩
theorem me_var : ME K (Aq7 i) (Aa i):=by
 intro j W c h Q R s;unfold Aa at s
 cases e:c[i]? with
 | none=>simp only[e]at s;trivial
 | some x =>
  cases x with
  | none=>simp only[e]at s;trivial
  | some o =>
   obtain⟨v,f,r,_⟩:=R.get i o e
   refine⟨v,f,?_⟩
   simp only[e]at s
   cases o with
   | ls b g=>
    exact s v W _ (Stp.refl.less fun a z=>by
     rcases z with z | z
     ·lia
     simp_all) R ⟨rfl,f⟩
   | im d=>exact R.here r.2 rfl s
   | sc d=>exact R.here r.2 rfl s
   | ty d=>exact R.here r.2 rfl s
noncomputable def cC (d:t6):o8:=fun c=>.ok (.o (.im d)) c
noncomputable def vD:V->Option t6
 | .non=>some .none
 | .bl b=>some (.bool b)
 | .int i=>some (.int i)
 | .str x=>some (.str x)
 | _=>none
theorem Bu5:∀{v:V}{d:t6},vD v=some d->Tr H d v
 | .non,_,e=>by cases e;rfl
 | .bl b,_,e=>by cases e;rfl
 | .int i,_,e=>by cases e;rfl
 | .str x,_,e=>by cases e;rfl
 | .byt _,_,e=>nomatch e
 | .flt _,_,e=>nomatch e
 | .ref _,_,e=>nomatch e
 | .ty _,_,e=>nomatch e
theorem B6h (h:vD v=some d):ME K (tC v) (cC d):=fun b W c a Q R s=>R.here (o:=.im d) (Bu5 h) rfl s
noncomputable def frz (p:PV)(c:Ev):R t6:=match p with
 | .o (.im d)=>.ok d c
 | .o _=>.bad
 | .sl i=>match c[i]? with
  | some (some (.im d))=>.ok d c
  | some (some (.ls false ds))=>.ok (.list ds) (c.set i (some (.im (.list ds))))
  | _=>.bad
noncomputable def clr (fps:Nat->v5)(i:Nat):Nat->v5:=fun j=>if j=i then [] else fps j
theorem Ey (h:a∈clr b i j):a∈b j/\j≠i:=by
 unfold clr at h
 grind
theorem Rep.setN (R:Rep K β W c σ) (h:RepN K W.Hf o v) (n:o.own=false):Rep K β ⟨W.Hf,W.H,clr W.fps i⟩ (c.set i (some o)) (σ.set i (some v)):=by
 refine⟨R.sub,by rw[bV,bV];exact R.len,fun j s e=>?_,fun j k a m g=>R.dis j k a (Ey m).1 (Ey g).1,fun j a h=>R.own j a (Ey h).1⟩
 by_cases z:j=i
 ·subst z
  by_cases l:j<c.length
  ·rw[cB l]at e
   cases e
   refine⟨v,by rw[cB (by rw[<- R.len];exact l)],?_,fun b=>?_⟩
   ·show RepO K W.Hf W.H o v (clr _ j j)
    unfold clr;rw[if_pos rfl]
    cases o with
    | ls b f=>exact nomatch n
    | im d=>exact⟨rfl,h⟩
    | sc d=>trivial
    | ty d=>exact⟨rfl,h⟩
   ·cases o with
    | ls b f=>exact nomatch n
    | im d=>exact nomatch b
    | sc d=>exact nomatch b
    | ty d=>exact nomatch b
  grind
 ·rw[cL fun y=>z y.symm]at e
  obtain⟨p,q,r,b⟩:=R.get j _ e
  refine⟨p,by grind,?_,b⟩
  unfold clr
  simp_all
theorem Rep.setO (R:Rep K β W c σ) (h:RepO K W.Hf W.H o v fp) (hn:∀a∈fp,¬ W.S a) (hb:o.bor=false):Rep K β ⟨W.Hf,W.H,fun j=>if j=i then fp else W.fps j⟩ (c.set i (some o)) (σ.set i (some v)):=by
 refine⟨R.sub,by rw[bV,bV];exact R.len,fun j o' e=>?_,fun j k a f g=>?_,fun j a f=>?_⟩
 ·by_cases z:j=i
  ·subst z
   by_cases l:j<c.length
   ·rw[cB l]at e
    cases e
    refine⟨v,by rw[cB (by rw[<- R.len];exact l)],?_,fun b=>by rw[hb]at b;cases b⟩
    simp_all
   simp_all
  ·rw[cL fun y=>z y.symm]at e
   obtain⟨v',e1,r,b⟩:=R.get j _ e
   grind
 ·have f:a∈if j=i then fp else W.fps j:=f
  have g:a∈if k=i then fp else W.fps k:=g
  split at f
  ·split at g
   ·lia
   ·exact absurd ⟨k,g⟩ (hn a f)
  ·split at g
   ·exact absurd ⟨j,f⟩ (hn a g)
   ·exact R.dis j k a f g
 ·have f:a∈if j=i then fp else W.fps j:=f
  split at f
  ·cases o with
   | ls b ds =>
    obtain⟨a',vs,_,rfl,n,m,_⟩:=h
    cases aV.mp f
    exact⟨n,_,m,trivial⟩
   | im d=>rw[h.1]at f;cases f
   | sc d=>rw[h.1]at f;cases f
   | ty d=>rw[h.1]at f;cases f
  ·exact R.own j a f
theorem set_same {a:Type}{l:List a} {x:a}(h:l[i]?=some x):l.set i x=l:=by
 apply List.ext_getElem?
 grind
theorem Rep.drop (R:Rep K β W c σ)(i:Nat):Rep K β ⟨W.Hf,W.H,clr W.fps i⟩ (c.set i none) σ:=by
 refine⟨R.sub,by rw[bV];exact R.len,fun j m e=>?_,fun j k a g f=>R.dis j k a (Ey g).1 (Ey f).1,fun j a h=>R.own j a (Ey h).1⟩
 by_cases z:j=i
 ·grind
 ·rw[cL fun y=>z y.symm]at e
  obtain⟨l,d,r,b⟩:=R.get j _ e
  refine⟨l,d,?_,b⟩
  unfold clr
  simp_all
theorem Fj (R:Rep K β W c σ)(h:RepA K W.Hf σ p v) (s:(frz p c).sat k) :
 ∃d c' W',frz p c=.ok d c'/\k d c'/\W'.H=W.H/\Stp W.S W.Hf W.H W'.S W'.Hf W'.H/\Rep K β W' c' σ/\Tr W'.Hf d v:=by
 cases p with
 | o o =>
  cases o with
  | im d=>exact⟨d,c,W,rfl,s,rfl,Stp.refl,R,h⟩
  | ls b w=>exact s.elim
  | sc d=>exact s.elim
  | ty d=>exact s.elim
 | sl i =>
  unfold frz at s ⊢
  cases e:c[i]? with
  | none=>simp only[e]at s;exact s.elim
  | some x =>
   cases x with
   | none=>simp only[e]at s;exact s.elim
   | some o =>
    obtain⟨v',u,r,_⟩:=R.get i o e
    cases (show some _=some _ from u.symm.trans h)
    cases o with
    | im d=>simp only[e]at s;exact⟨d,c,W,by simp only[e],s,rfl,Stp.refl,R,r.2⟩
    | sc d=>simp only[e]at s;exact s.elim
    | ty d=>simp only[e]at s;exact s.elim
    | ls b w =>
     cases b with
     | true=>simp only[e]at s;exact s.elim
     | false =>
      simp only[e]at s;obtain⟨a,m,rfl,l,f,A,t⟩:=r
      refine⟨.list _,c.set i _,⟨upd _ a _,W.H,clr W.fps i⟩,by simp only[e],s,rfl,⟨Bo f,fun b o e _=>e,fun b o e mu n q=>?_,fun b z=>?_⟩,?_,⟨a,m,rfl,Ay,TrL.same (Bo f) t⟩⟩
      ·have C:b≠a:=fun z=>n ⟨i,by rw[z,l];exact .head _⟩
       show upd _ a _ b=none
       rw[Ai C];exact q
      ·obtain⟨j,g⟩:=z
       exact .inl ⟨j,(Ey g).1⟩
      ·have B:¬ Wo.S ⟨W.Hf,W.H,clr W.fps i⟩ a:=fun⟨j,g⟩=>by
        obtain⟨E,D⟩:=Ey g
        exact D (R.dis j i a E (by rw[l];exact .head _))
       have y:=(Aa8 (R.drop i) f A B).setN (i:=i) (o:=.im (.list _)) ⟨a,m,rfl,Ay,TrL.same (Bo f) t⟩ rfl;rw[set_same h]at y
       have z:clr (clr W.fps i) i=clr W.fps i:=by funext j;unfold clr;split <;> rfl
       simp_all
noncomputable def vDs:n7->Option (w5)
 | []=>some []
 | v::vs=>(vD v).bind fun d=>(vDs vs).map (d::·)
theorem A0o:∀{vs:n7}{ds:w5},vDs vs=some ds->zU K Hf σ (ds.map fun d=>.o (.im d)) vs
 | [],_,e=>by cases (show some []=some _ from e);exact rfl
 | v::vs,ds,e=>by
  obtain⟨d,e1,e2⟩:=cH.mp (show ((vD v).bind fun d=>(vDs vs).map (d::·))=some ds from e)
  obtain⟨ds',e3,rfl⟩:=a_.mp e2;exact⟨v,vs,rfl,Bu5 e1,A0o e3⟩
theorem B7b (h:vDs vs=some ds):MA K (tK vs) (cK ds):=fun b W c a Q R s=>s _ W Stp.refl R (A0o h)
noncomputable def frzs:List PV->Ev->R (w5)
 | [],c=>.ok [] c
 | p::ps,c=>(frz p c).bind fun d c=>(frzs ps c).bind fun ds c=>.ok (d::ds) c
theorem Oz:∀{ps:List PV}{vs:n7}{W:Wo}{c:Ev}{φ:w5->Ev->Prop},Rep K β W c σ->zU K W.Hf σ ps vs->(frzs ps c).sat φ ->
 ∃ds c' W',φ ds c'/\W'.H=W.H/\Stp W.S W.Hf W.H W'.S W'.Hf W'.H/\Rep K β W' c' σ/\TrL W'.Hf ds vs
 | [],vs,W,c,φ,R,h,s=>⟨[],c,W,s,rfl,Stp.refl,R,h⟩
 | p::ps,_,W,c,φ,R,⟨v,r,rfl,h,t⟩,s=>by
  obtain⟨d,c1,W1,_,s1,e1,st1,R1,t1⟩:=Fj R h s.bnd;obtain⟨ds,c2,W2,s2,e2,st2,R2,t2⟩:=Oz R1 (zU.same st1.fz t) s1.bnd;exact⟨d::ds,c2,W2,s2,e2.trans e1,st1.trans st2,R2,v,r,rfl,Tr.same st2.fz t1,t2⟩
def Ei (f:o6):o8:=fun c=>(f c).bind fun ps c=>(frzs ps c).bind fun ds c=>if ds.length<=1000 then .ok (.o (.im (.tuple ds))) c else .bad
def Ek (f:o6):o8:=fun c=>(f c).bind fun ps c=>(frzs ps c).bind fun ds c=>if ds.length<=1000 then .ok (.o (.ls false ds)) c else .bad
theorem A0y (h:n<=1000):n<=sizeLine:=au h (by decide)
theorem B2u (h:MA K t f):ME K (Bq1 t) (Ei f):=by
 intro w W c z Q R s
 refine h _ W c _ _ R (s.bnd.mono fun x y k A F b o m=>?_)
 obtain⟨r,B,E,a,j,d,e,i⟩:=Oz o m k.bnd
 by_cases l:r.length<=1000
 ·rw[if_pos l]at a
  refine⟨by rw[<- i.length];exact A0y l,fun p g=>?_⟩
  rw[<- j]at g ⊢
  exact New.tup (New.of e fun v C D q u n=>a v _ _ (b.trans (d.trans q)) u n) e.sub i g
 ·rw[if_neg l]at a;trivial
theorem By1 (h:MA K t f):ME K (B0b t) (Ek f):=by
 intro w W c z Q R s
 refine h _ W c _ _ R (s.bnd.mono fun x y k A F b o m=>?_)
 obtain⟨r,B,E,a,j,d,e,i⟩:=Oz o m k.bnd
 by_cases l:r.length<=1000
 ·rw[if_pos l]at a
  refine⟨by rw[<- i.length];exact A0y l,fun p g=>?_⟩
  rw[<- j]at g ⊢
  exact New.lst (New.of e fun v C D q u n=>a v _ _ (b.trans (d.trans q)) u n) e.sub i g
 ·rw[if_neg l]at a;trivial
end
noncomputable def Hu (cI:Ev):q_->Ev->Option Ev
 | [],c=>some c
 | (k,i)::m,c=>match c[i]? with
  | some (some (.ls b _))=>match cI[k]? with
   | some (some (.ls true ds))=>Hu cI m (c.set i (some (.ls b ds)))
   | _=>none
  | _=>Hu cI m c
noncomputable def inn (m:q_)(i:Nat):Option Nat:=(m.find? fun p=>p.2==i).map (·.1)
noncomputable def Ar2 (m:q_)(k:Nat):Option Nat:=(m.find? fun p=>p.1==k).map (·.2)
theorem J4 : inn ((k,j)::m) i=if j=i then some k else inn m i:=by
 unfold inn
 grind
theorem Ux (h:inn m i=some k):(k,i)∈m:=by
 induction m with
 | nil=>cases h
 | cons p m a =>
  rw[J4]at h
  grind
theorem Vg (b:(m.map (·.2)).Nodup) (h:(k,i)∈m):inn m i=some k:=by
 induction m with
 | nil=>grind
 | cons p m a =>
  rw[J4]
  grind
theorem A0u {m:q_} (b:(m.map (·.1)).Nodup) (h:(k,i)∈m) (h':(k,j)∈m):i=j:=by
 induction m with
 | nil=>grind
 | cons p m a =>
  grind
theorem Sh {cI:Ev}:∀{m:q_}{c cO:Ev},(m.map (·.2)).Nodup->Hu cI m c=some cO->cO.length=c.length/\∀i,
 (∃b ds0 k ds,c[i]?=some (some (.ls b ds0))/\inn m i=some k/\cI[k]?=some (some (.ls true ds))/\cO[i]?=some (some (.ls b ds))) \/
 (cO[i]?=c[i]?/\∀b ds,c[i]?=some (some (.ls b ds))->inn m i=none)
 | [],c,cO,nd,e=>by cases (show some c=some cO from e);exact⟨rfl,fun i=>.inr ⟨rfl,fun _ _ _=>rfl⟩⟩
 | (k,j)::m,c,cO,nd,e=>by
  rw[aH,c7]at nd
  have nj:inn m j=none:=by
   cases q:inn m j with
   | none=>rfl
   | some k'=>exact absurd (aD.mpr ⟨(k',j),Ux q,rfl⟩) nd.1
  unfold Hu at e
  have other:Hu cI m c=some cO->(∀b ds,c[j]?≠some (some (.ls b ds)))->cO.length=c.length/\∀i,
   (∃b ds0 k' ds,c[i]?=some (some (.ls b ds0))/\inn ((k,j)::m) i=some k'/\cI[k']?=some (some (.ls true ds))/\cO[i]?=some (some (.ls b ds))) \/
   (cO[i]?=c[i]?/\∀b ds,c[i]?=some (some (.ls b ds))->inn ((k,j)::m) i=none):=fun e hn=>by
   obtain⟨hl,hg⟩:=Sh nd.2 e
   refine⟨hl,fun i=>?_⟩
   rcases hg i with ⟨b,ds0,k',ds,q1,q2,q3,q4⟩ | ⟨q1,q2⟩
   ·refine .inl ⟨b,ds0,k',ds,q1,?_,q3,q4⟩
    rw[J4,if_neg (fun z=>hn b ds0 (by rw[z];exact q1))];exact q2
   ·refine .inr ⟨q1,fun b ds q=>?_⟩
    rw[J4,if_neg (fun z=>hn b ds (by rw[z];exact q))];exact q2 b ds q
  cases ec:c[j]? with
  | none=>simp only[ec]at e;exact other e fun b ds z=>by rw[ec]at z;cases z
  | some x =>
   cases x with
   | none=>simp only[ec]at e;exact other e fun b ds z=>by rw[ec]at z;cases z
   | some o =>
    cases o with
    | im d=>simp only[ec]at e;exact other e fun b ds z=>by rw[ec]at z;cases z
    | sc d=>simp only[ec]at e;exact other e fun b ds z=>by rw[ec]at z;cases z
    | ty d=>simp only[ec]at e;exact other e fun b ds z=>by rw[ec]at z;cases z
    | ls b0 ds0 =>
     simp only[ec]at e
     cases ei:cI[k]? with
     | none=>simp only[ei]at e;cases e
     | some x =>
      cases x with
      | none=>simp only[ei]at e;cases e
      | some o =>
       cases o with
       | im d=>simp only[ei]at e;cases e
       | sc d=>simp only[ei]at e;cases e
       | ty d=>simp only[ei]at e;cases e
       | ls b1 ds1 =>
        cases b1 with
        | false=>simp only[ei]at e;cases e
        | true =>
         simp only[ei]at e
         have lj:j<c.length:=by
          rcases bO j c.length with q | q
          ·exact q
          ·rw[jn q]at ec;cases ec
         obtain⟨hl,hg⟩:=Sh nd.2 e;rw[bV]at hl
         refine⟨hl,fun i=>?_⟩
         by_cases z:j=i
         ·subst z
          rcases hg j with ⟨b,ds0',k',ds,q1,q2,q3,q4⟩ | ⟨q1,q2⟩
          ·rw[nj]at q2;cases q2
          ·rw[cB lj]at q1
           exact .inl ⟨b0,ds0,k,ds1,ec,by rw[J4,if_pos rfl],ei,q1⟩
         ·have gs:(c.set j (some (.ls b0 ds1)))[i]?=c[i]?:=cL z
          rcases hg i with ⟨b,ds0',k',ds,q1,q2,q3,q4⟩ | ⟨q1,q2⟩
          ·rw[gs]at q1
           exact .inl ⟨b,ds0',k',ds,q1,by rw[J4,if_neg z];exact q2,q3,q4⟩
          ·rw[gs]at q1 q2
           exact .inr ⟨q1,fun b ds q=>by rw[J4,if_neg z];exact q2 b ds q⟩
noncomputable def Jg:Option (n6)->Bool
 | some (some (.ls _ _))=>true
 | _=>false
def Uo (m:q_)(c:Ev)(fps:Nat->v5):Nat->v5:=fun k=>match Ar2 m k with
 | some i=>if Jg c[i]? then fps i else []
 | none=>[]
theorem V9 (h:Ar2 m k=some i):(k,i)∈m:=by
 obtain⟨p,b,a⟩:=a_.mp h
 grind
theorem Hk (h:a∈Uo m c b k):∃i,(k,i)∈m/\Jg c[i]?=true/\a∈b i:=by
 unfold Uo at h
 cases e:Ar2 m k with
 | none=>grind
 | some i =>
  rw[e]at h
  have h:a∈if Jg _ then b i else []:=h
  by_cases q:Jg c[i]?=true
  ·rw[if_pos q]at h;exact⟨i,V9 e,q,h⟩
  grind
theorem Bs6 (a:(m.map (·.1)).Nodup) (h:(k,i)∈m):Ar2 m k=some i:=by
 cases e:Ar2 m k with
 | none =>
  unfold Ar2 at e;rw[Option.map_eq_none_iff]at e
  grind
 | some j=>rw[A0u a h (V9 e)]
def Au6 (m:q_)(c:Ev)(fps fpsJ:Nat->v5):Nat->v5:=fun i=>if Jg c[i]? then (match inn m i with
 | some k=>fpsJ k
 | none=>fps i) else fps i
section
variable {K:v8}{β β':Nat->V}{W W':Wo}{c cI cI' cO:Ev}{σ σI σI':St}{m:q_}{fp:v5}
structure Lent (K:v8) (Hf:Hp) (m:q_) (c:Ev) (σ:St) (β':Nat->V) (cI:Ev) (σI:St):Prop where
 n1:(m.map (·.1)).Nodup
 n2:(m.map (·.2)).Nodup
 len:cI.length=σI.length
 at_:∀k o,cI[k]?=some (some o)->(o.own=false/\(∀i,(k,i)∈m->Jg c[i]?=false)/\(∃v,σI[k]?=some (some v)/\RepN K Hf o v))\/∃i b ds v,(k,i)∈m/\c[i]?=some (some (.ls b ds))/\o=.ls true ds/\σ[i]?=some (some v)/\σI[k]?=some (some v)/\β' k=v
theorem Lent.rep (L:Lent K W.Hf m c σ β' cI σI)(R:Rep K β W c σ):Rep K β' ⟨W.Hf,W.H,Uo m c W.fps⟩ cI σI:=by
 refine⟨R.sub,L.len,fun k o e=>?_,fun k l a B C=>?_,fun k a h=>?_⟩
 ·rcases L.at_ k o e with ⟨n,s,v,p,r⟩ | ⟨i,b,x,v,E,w,rfl,J,p,A⟩
  ·refine⟨v,p,?_,fun q=>?_⟩
   ·have g:∀t ,t=[]->RepO K _ W.H o v t:=fun t z=>by
     cases o with
     | ls b x=>exact nomatch n
     | im d=>exact⟨z,r⟩
     | sc d=>exact⟨z,r⟩
     | ty d=>exact⟨z,r⟩
    refine g _ ?_
    show Uo m c _ k=[]
    unfold Uo
    cases q:Ar2 m k with
    | none=>rfl
    | some i =>
     show (if Jg _ then W.fps i else [])=[]
     rw[s i (V9 q)]
     rfl
   ·cases o with
    | ls b x=>exact nomatch n
    | im d=>exact nomatch q
    | sc d=>exact nomatch q
    | ty d=>exact nomatch q
  ·obtain⟨v',f,r,_⟩:=R.get i _ w
   cases (show some _=some _ from f.symm.trans J)
   refine⟨v,p,?_,fun _=>A.symm⟩
   obtain⟨a,F,G,D,I⟩:=r
   refine⟨a,F,G,?_,I⟩
   show Uo m c _ k=[a]
   unfold Uo;rw[Bs6 L.n1 E]
   show (if Jg _ then W.fps i else [])=[a]
   rw[w];exact D
 ·obtain⟨i,H,_,u⟩:=Hk B
  obtain⟨j,M,_,y⟩:=Hk C
  cases R.dis i j a u y
  have f:=Vg L.n2 M;rw[(Vg L.n2 H)]at f;exact cR f
 ·obtain⟨i,_,_,u⟩:=Hk h
  exact R.own i a u
theorem Bl6 (h:Jg x=true):∃b ds,x=some (some (.ls b ds)):=by
 match x,h with
 | some (some (.ls b _)),_=>grind
theorem Lent.back (L:Lent K W.Hf m c σ β' cI σI)(R:Rep K β W c σ)(I:Rep K β' W' cI' σI')(st:Stp (Wo.S ⟨W.Hf,W.H,Uo m c W.fps⟩) W.Hf W.H (orS W'.S fp) W'.Hf W'.H)(hb:Hu cI' m c=some cO)
 (H:∀k i b J v,(k,i)∈m->c[i]?=some (some (.ls b J))->σ[i]?=some (some v)->β' k=v) (Q:∀a∈fp,¬ W'.S a) :
 ∃W2:Wo,W2.Hf=W'.Hf/\W2.H=W'.H/\Rep K β W2 cO σ/\Stp W.S W.Hf W.H (orS W2.S fp) W'.Hf W'.H/\∀a∈fp,¬ W2.S a:=by
 obtain⟨hl,hg⟩:=Sh L.n2 hb
 have t:∀k a,a∈W'.fps k->(∃i,(∃l,(l,i)∈m)/\Jg c[i]?=true/\a∈W.fps i)\/W.H a=none:=fun k a h=>by
  rcases st.fr a (.inl ⟨k,h⟩) with ⟨l,q⟩ | q
  ·obtain⟨i,s,x,g⟩:=Hk q
   exact .inl ⟨i,⟨l,s⟩,x,g⟩
  ·exact .inr q
 have d:∀i a,a∈W.fps i->(Jg c[i]?=true->inn m i=none)->¬ Wo.S ⟨W.Hf,W.H,Uo m c W.fps⟩ a:=fun i a h n ⟨k,q⟩=>by
  obtain⟨j,s,x,g⟩:=Hk q
  cases (R.dis i j a h g)
  have:=n x;rw[Vg L.n2 s]at this;cases this
 have D:∀i a,a∈Au6 m c W.fps W'.fps i->(∃k,inn m i=some k/\Jg c[i]?=true/\a∈W'.fps k)\/(a∈W.fps i/\(Jg c[i]?=true->inn m i=none)):=fun i a h=>by
  have h:a∈if Jg c[i]? then (match inn m i with | some k=>W'.fps k | none=>W.fps i) else W.fps i:=h
  by_cases q:Jg c[i]?=true
  ·rw[if_pos q]at h
   cases e:inn m i with
   | none=>rw[e]at h;exact .inr ⟨h,fun _=>rfl⟩
   | some k=>rw[e]at h;exact .inl ⟨k,rfl,q,h⟩
  ·rw[if_neg q]at h;exact .inr ⟨h,fun z=>absurd z q⟩
 have p:∀i k a,a∈W.fps i->(Jg c[i]?=true->inn m i=none)->a∈W'.fps k->False:=fun i k a h n V=>by
  rcases t k a V with ⟨j,⟨l,s⟩,x,g⟩ | q
  ·cases (R.dis i j a h g)
   have:=n x;rw[Vg L.n2 s]at this;cases this
  ·obtain⟨_,o,e,_⟩:=R.own i a h
   rw[q]at e;cases e
 refine⟨⟨W'.Hf,W'.H,Au6 m c W.fps W'.fps⟩,rfl,rfl,⟨I.sub,hl.trans R.len,fun i o e=>?_,fun i j a Z T=>?_,fun i a h=>?_⟩,⟨st.fz,fun a o e n=>st.kp a o e fun⟨k,q⟩=>?_,fun a o e F n q=>st.nf a o e F (fun zz=>?_) q,fun a h=>?_⟩,fun a C ⟨i,h⟩=>?_⟩
 ·rcases hg i with ⟨b,N,k,J,s,x,g,U⟩ | ⟨s,x⟩
  ·rw[U]at e;cases e
   obtain⟨v,M,r,P⟩:=R.get i _ s;obtain⟨X,e1',r',O⟩:=I.get k _ g;have S:=O rfl;rw[H k i b N v (Ux x) s M]at S;subst S
   refine⟨X,M,?_,P⟩
   obtain⟨a,Y,A,E,G⟩:=r'
   refine⟨a,Y,A,?_,G⟩
   show Au6 m c W.fps W'.fps i=[a]
   unfold Au6;rw[s,x];exact E
  ·rw[s]at e
   obtain⟨v,M,r,P⟩:=R.get i _ e
   refine⟨v,M,?_,P⟩
   have n:Jg c[i]?=true->inn m i=none:=fun z=>by
    obtain⟨b,J,z⟩:=Bl6 z;exact x b J z
   have ef:Au6 m c W.fps W'.fps i=W.fps i:=by
    unfold Au6
    by_cases q:Jg c[i]?=true
    ·rw[if_pos q,n q]
    ·rw[if_neg q]
   show RepO K W'.Hf W'.H o v (Au6 m c W.fps W'.fps i)
   rw[ef]
   refine r.mono st.fz fun a C=>?_
   obtain⟨z,u,y,F⟩:=R.own i a C;exact⟨st.nf a u y F (d i a C n) z,(st.kp a u y (d i a C n)).trans y.symm⟩
 ·rcases D i a Z with ⟨k,f,w,B⟩ | ⟨f,w⟩
  ·rcases D j a T with ⟨l,A,E,G⟩ | ⟨A,E⟩
   ·cases I.dis k l a B G
    exact A0u L.n1 (Ux f) (Ux A)
   ·exact(p j k a A E B).elim
  ·rcases D j a T with ⟨l,A,E,G⟩ | ⟨A,E⟩
   ·exact(p i l a f w G).elim
   ·exact R.dis i j a f A
 ·rcases D i a h with ⟨k,f,w,B⟩ | ⟨f,w⟩
  ·exact I.own k a B
  ·obtain⟨z,u,y,F⟩:=R.own i a f
   exact⟨st.nf a u y F (d i a f w) z,u,st.kp a u y (d i a f w),F⟩
 ·obtain⟨i,_,_,g⟩:=Hk q
  exact n ⟨i,g⟩
 ·obtain⟨k,q'⟩:=zz
  obtain⟨i,_,_,g⟩:=Hk q';exact n ⟨i,g⟩
 ·rcases h with ⟨i,h⟩ | h
  ·rcases D i a h with ⟨k,f,w,B⟩ | ⟨f,w⟩
   ·rcases t k a B with ⟨j,_,_,q⟩ | q
    ·exact .inl ⟨j,q⟩
    ·exact .inr q
   ·exact .inl ⟨i,f⟩
  ·rcases st.fr a (.inr h) with ⟨k,q⟩ | q
   ·obtain⟨i,_,_,g⟩:=Hk q
    exact .inl ⟨i,g⟩
   ·exact .inr q
 ·rcases D i a h with ⟨k,f,w,B⟩ | ⟨f,w⟩
  ·exact Q a C ⟨k,B⟩
  ·rcases st.fr a (.inr C) with q | q
   ·exact d i a f w q
   ·obtain⟨_,u,y,_⟩:=R.own i a f
    rw[q]at y;cases y
end
inductive SR where
 | nx (c:Ev)
 | rt (p:PV) (c:Ev)
 | bk (c:Ev)
 | ct (c:Ev)
 | bad
noncomputable def zN (K:v8)(β:Nat->V)(W:Wo)(D:Ends):SR->Prop
 | .nx c'=>∀σ' W',Stp W.S W.Hf W.H W'.S W'.Hf W'.H->Rep K β W' c' σ'->D.nx σ' W'.H
 | .bk c'=>∀σ' W',Stp W.S W.Hf W.H W'.S W'.Hf W'.H->Rep K β W' c' σ'->D.bk σ' W'.H
 | .ct c'=>∀σ' W',Stp W.S W.Hf W.H W'.S W'.Hf W'.H->Rep K β W' c' σ'->D.ct σ' W'.H
 | .rt p c'=>∀σ' v W' fp,Stp W.S W.Hf W.H (orS W'.S fp) W'.Hf W'.H->Rep K β W' c' σ'->Gi K W' σ' p v fp->D.rt v W'.H
 | .bad=>False
def MS (K:v8)(T:TS)(f:Ev->SR):Prop:=∀(β:Nat->V) (W:Wo) (c:Ev) (σ:St) (D:Ends),Rep K β W c σ->zN K β W D (f c)->T D σ W.H
def MG (K:v8)(g:TG)(cg:p8):Prop:=∀(β:Nat->V) (W:Wo) (c:Ev) (σ:St) (p:PV) (v:V) (fp:v5) (k:St->Hp->Prop),Rep K β W c σ->Gi K W σ p v fp ->
 (cg p c).sat (fun _ c'=>∀σ' W',Stp (orS W.S fp) W.Hf W.H W'.S W'.Hf W'.H->Rep K β W' c' σ'->k σ' W'.H)->g v σ W.H k
def MGs (K:v8)(g:TGs)(cg:w5->Ev->R Unit):Prop:=∀(β:Nat->V) (W:Wo) (c:Ev) (σ:St) (ds:w5) (vs:n7) (k:St->Hp->Prop),Rep K β W c σ->TrL W.Hf ds vs ->
 (cg ds c).sat (fun _ c'=>∀σ' W',Stp W.S W.Hf W.H W'.S W'.Hf W'.H->Rep K β W' c' σ'->k σ' W'.H)->g vs σ W.H k
noncomputable def R.toS {α:Type}(r:R α)(k:α->Ev->SR):SR:=match r with
 | .ok a c=>k a c
 | .bad=>.bad
section
variable {K:v8}{β:Nat->V}{W W':Wo}{c c' cI cO:Ev}{σ σ':St}{D:Ends}{Hf H:Hp}{o:O}{v:V}{fp:v5}
theorem Iw {r:R b}{k:b->Ev->SR}(h:zN K β W D (r.toS k)):r.sat fun a c=>zN K β W D (k a c):=by
 cases r with
 | ok a c=>exact h
 | bad=>exact h
theorem zN.step (h:zN K β W D r) (st:Stp W.S W.Hf W.H W'.S W'.Hf W'.H):zN K β W' D r:=by
 cases r with
 | nx c=>exact fun b d a R=>h _ _ (st.trans a) R
 | bk c=>exact fun b d a R=>h _ _ (st.trans a) R
 | ct c=>exact fun b d a R=>h _ _ (st.trans a) R
 | rt p c=>exact fun b v d e a R r=>h _ v _ _ (st.trans a) R r
 | bad=>exact h
noncomputable def Aw (f g:Ev->SR):Ev->SR:=fun c=>match f c with
 | .nx c=>g c
 | r=>r
theorem A9t (h1:MS K t f) (h2:MS K u g):MS K (Bm9 t u) (Aw f g):=by
 intro k W c i D R l
 refine h1 _ W c _ _ R ?_
 unfold Aw at l
 cases e:f c with
 | nx a=>rw[e]at l;exact fun h j d b=>h2 _ _ _ _ D b (zN.step l d)
 | rt p a=>rw[e]at l;exact l
 | bk a=>rw[e]at l;exact l
 | ct a=>rw[e]at l;exact l
 | bad=>rw[e]at l;exact l
noncomputable def Br:Ev->SR:=fun c=>.nx c
theorem Af1:MS K Bd2 Br:=fun b W c a D R l=>l _ W Stp.refl R
noncomputable def Jx:Ev->SR:=fun _=>.bad
theorem Ai1:MS K Ax4 Jx:=fun b W c a D R l=>l.elim
def Jl (f:o8):Ev->SR:=fun c=>(f c).toS fun _ c=>.nx c
theorem Bn6 (h:ME K a f):MS K (A8j a) (Jl f):=fun g W c i D R l =>
 h.toV _ W c _ _ R ((Iw l).mono fun p k e v j d b _=>e _ _ d b)
def Bv (f:o8):Ev->SR:=fun c=>(f c).toS fun p c=>.rt p c
theorem Ae7 (h:ME K a f):MS K (B5z a) (Bv f):=fun i W c n D R l =>
 h _ W c _ _ R ((Iw l).mono fun p m e v j k d g b=>e _ v _ _ d g b)
def cIf (t:o7)(f g:Ev->SR):Ev->SR:=fun c=>(t c).toS fun b c=>if b=true then f c else g c
theorem Bf0 (h:MT K d ft) (h1:MS K t f) (h2:MS K u g):MS K (B6l d t u) (cIf ft f g):=fun k W c j D R l =>
 h
  _ W c _ _ R ((Iw l).mono fun b n i m e a=>by
  cases b with
  | true=>exact h1 _ _ _ _ D a (zN.step i e)
  | false=>exact h2 _ _ _ _ D a (zN.step i e))
def cgN (i:Nat):p8:=fun p c=>match p with
 | .o (.ls _ ds)=>.ok () (c.set i (some (.ls false ds)))
 | .o o=>.ok () (c.set i (some o))
 | .sl j=>(frz (.sl j) c).bind fun d c=>.ok () (c.set i (some (.im d)))
theorem B0g (h:Wo.S ⟨Hf,H,clr W.fps i⟩ a):W.S a:=by
 obtain⟨j,h⟩:=h;exact⟨j,(Ey h).1⟩
theorem U3 : MG K (Lk i) (cgN i):=by
 intro w W c x p v u k R r s
 have f:∀{o:O} {g:Wo} {m:Ev},Rep K w g m x->o.own=false->RepN K g.Hf o v->Stp (orS W.S u) W.Hf W.H g.S _ g.H->g.H=W.H->(∀σ' W',Stp _ _ _ W'.S W'.Hf W'.H->Rep K _ W' _ σ'->k σ' W'.H)->k _ W.H:=fun {o g m} h n r l e s=>by
  rw[<- e]
  exact s _ ⟨g.Hf,g.H,clr _ i⟩ (l.less fun a z=>B0g z) (h.setN r n)
 cases p with
 | sl j =>
  obtain⟨rfl,e⟩:=r
  obtain⟨d,m,g,e1,A,y,l,h,t⟩:=Fj R (show RepA K _ _ (.sl j) v from e) s.bnd
  exact f h (o:=.im d) rfl t (l.up fun a z=>.inl z) y A
 | o o =>
  cases o with
  | im d=>exact f R rfl r.1.2 (Stp.refl.up fun a z=>.inl z) rfl s
  | sc d=>exact f R rfl r.1.2 (Stp.refl.up fun a z=>.inl z) rfl s
  | ty d=>exact f R rfl r.1.2 (Stp.refl.up fun a z=>.inl z) rfl s
  | ls b ds =>
   refine s _ ⟨W.Hf,W.H,fun j=>if j=i then u else W.fps j⟩ ⟨Same.refl _,fun a o e _=>e,fun a o e _ _ q=>q,fun a z=>?_⟩ (R.setO r.1 r.2 rfl)
   obtain⟨j,z⟩:=z
   have z:a∈if j=i then u else W.fps j:=z
   split at z
   ·grind
   ·exact .inl (.inl ⟨j,z⟩)
noncomputable def Dg:w5->Ev->R Unit:=fun ds c=>match ds with
 | []=>.ok () c
 | _=>.bad
def Ao (g:p8)(gs:w5->Ev->R Unit):w5->Ev->R Unit:=fun ds c=>match ds with
 | d::ds=>(g (.o (.im d)) c).bind fun _ c=>gs ds c
 | []=>.bad
theorem Bs9:MGs K A5g Dg:=fun f W c e a b k R t s=>by
 cases a with
 | nil=>cases (t);exact⟨rfl,s _ W Stp.refl R⟩
 | cons d r=>trivial
theorem A5y (h1:MG K t g) (h2:MGs K u f):MGs K (Rf t u) (Ao g f):=fun β W c σ x vs k R j s=>by
 cases x with
 | nil=>trivial
 | cons d r =>
  obtain⟨v,l,rfl,m,n⟩:=j
  refine⟨v,l,rfl,h1 _ W c _ (.o (.im d)) v _ _ R ⟨⟨rfl,m⟩,fun a z=>nomatch z⟩ (s.bnd.mono fun _ c1 o i W1 b q=>?_)⟩
  have b:=b.up (S2:=W.S) fun a z=>by
   grind
  exact h2 _ _ _ _ r _ k q (TrL.same b.fz n) (o.mono fun _ c2 p w W2 e h=>p _ _ (b.trans e) h)
noncomputable def cgT (n:Nat)(gs:w5->Ev->R Unit):p8:=fun p c=>match p with
 | .o (.im (.tuple ds))=>if ds.length=n then gs ds c else .bad
 | _=>.bad
theorem Bz0 (h:MGs K t d):MG K (A5i K n t) (cgT n d):=by
 intro u W c w p v q k R r s
 match p,r,s with
 | .o (.im (.tuple ds)),r,s =>
  obtain⟨⟨b,a,j,b,l,f⟩,_⟩:=r
  have s:(if ds.length=n then d _ c else .bad:U.R _).sat _:=s
  by_cases e:ds.length=n
  ·rw[if_pos e]at s
   refine⟨a,j,b,SqT.of (R.sub _ _ l),by rw[<- f.length];exact e,h _ W c _ _ _ k R f (s.mono fun _ y i m x o g=>i _ _ (o.up fun a z=>.inl z) g)⟩
  ·rw[if_neg e]at s;trivial
 | .o (.im .none),r,s=>trivial
 | .o (.im (.bool _)),r,s=>trivial
 | .o (.im (.int _)),r,s=>trivial
 | .o (.im (.str _)),r,s=>trivial
 | .o (.im (.list _)),r,s=>trivial
 | .o (.im (.dict _)),r,s=>trivial
 | .o (.ls _ _),r,s=>exact s.elim
 | .o (.sc _),r,s=>exact s.elim
 | .o (.ty _),r,s=>exact s.elim
 | .sl _,r,s=>trivial
def Bt (f:o8)(g:p8):Ev->SR:=fun c=>(f c).toS fun p c=>(g p c).toS fun _ c=>.nx c
theorem B2w (h:ME K b f) (hg:MG K t g):MS K (As6 b t) (Bt f g):=fun x W c o D R l =>
 h _ W c _ _ R ((Iw l).mono fun p q j v s u k e i=>hg _ _ _ _ p v _ _ e i ((Iw j).mono fun _ r m n w a d=>m _ _ (k.trans a) d))
def A4d (J:It)(Hf:Hp)(ds:w5):Prop:=∀(i:Nat) (Hf' H:Hp),Same Hf Hf'->Same Hf' H->(i=ds.length->J.stop i H) /\
 ∀d,ds[i]?=some d->J.go i H/\∀x H',J.yld i H x H'->∃Hf2,Stp (fun _=>False) Hf' H (fun _=>False) Hf2 H'/\Same Hf2 H'/\Tr Hf2 d x
def MI (K:v8)(wi:TI)(fi:Ev->R (w5)):Prop:=∀(β:Nat->V) (W:Wo) (c:Ev) (σ:St) (k:It->Hp->Prop),Rep K β W c σ ->
 (fi c).sat (fun ds c'=>∀J W',Stp W.S W.Hf W.H W'.S W'.Hf W'.H->Rep K β W' c' σ->A4d J W'.Hf ds->k J W'.H)->wi σ W.H k
noncomputable def forL (g:p8)(body:Ev->SR):w5->Ev->SR
 | [],c=>.nx c
 | d::ds,c=>match g (.o (.im d)) c with
  | .bad=>.bad
  | .ok _ c=>match body c with
   | .nx c=>forL g body ds c
   | .ct c=>forL g body ds c
   | .bk c=>.nx c
   | .rt p c=>.rt p c
   | .bad=>.bad
def K5 (fi:Ev->R (w5))(g:p8)(body:Ev->SR):Ev->SR:=fun c=>(fi c).toS fun ds c=>forL g body ds c
theorem T3 {a:Type}{l:List a} (h:i<l.length):l.drop i=l[i]::l.drop (i+1):=jj h
theorem Bw8 {V:TS} (hi:MI K X fi) (hg:MG K t g) (hb:MS K V body):MS K (B2h X t V) (K5 fi g body):=by
 intro C W c I D R l
 refine hi C W c I _ R ((Iw l).mono fun k c1 l1 J T N R1 it=>?_)
 refine⟨fun i m I H=>∃d y,d.H=H/\Rep K C d y I/\m=k.length-i/\i<=k.length/\Same T.Hf d.Hf/\zN K C d D (forL g body (k.drop i) y),⟨_,T,c1,rfl,R1,rfl,aO _,Same.refl _,zN.step l1 N⟩,?_⟩
 rintro i m I H ⟨d,y,rfl,O,rfl,hle,Y,h⟩
 obtain⟨A,Q⟩:=it i d.Hf d.H Y O.sub
 by_cases lt:i<k.length
 ·obtain⟨q1,q2⟩:=Q k[i] (bG lt)
  refine .inr ⟨q1,fun M s=>∃d y,d.H=s/\Rep K C d y M/\Same T.Hf d.Hf/\zN K C d D (forL g body (k.drop (i+1)) y),fun M s ⟨U,Z,e3,R3,s3,l3⟩=>⟨k.length-(i+1),by lia,U,Z,e3,R3,rfl,by lia,s3,l3⟩,fun x s hy=>?_⟩
  obtain⟨n,j,G,tx⟩:=q2 x s hy
  have P:Stp d.S d.Hf d.H (Wo.S ⟨n,s,d.fps⟩) n s:=⟨j.fz,fun a o e _=>j.kp a o e fun z=>z,fun a o e mu _ q=>j.nf a o e mu (fun z=>z) q,fun a z=>.inl z⟩
  rw[T3 lt]at h;unfold forL at h
  refine hg C ⟨n,s,d.fps⟩ y I (.o (.im _)) x _ _ (j.rep O G) ⟨⟨rfl,tx⟩,fun a z=>nomatch z⟩ ?_
  cases eg:g _ _ with
  | bad=>rw[eg]at h;exact h.elim
  | ok u Z =>
   rw[eg]at h;intro σ3 U w S
   have w:=w.up fun a z=>by
    rcases z with z | z
    ·exact z
    ·cases z
   have f:=P.trans w;have F := Y.trans f.fz
   refine hb _ _ _ _ _ S ?_
   cases ebd:body _ with
   | nx E=>simp only[ebd]at h;exact fun r L b B=>⟨L,E,rfl,B,F.trans b.fz,zN.step h (f.trans b)⟩
   | ct E=>simp only[ebd]at h;exact fun r L b B=>⟨L,E,rfl,B,F.trans b.fz,zN.step h (f.trans b)⟩
   | bk E=>simp only[ebd]at h;exact fun r L b B=>h _ _ (f.trans b) B
   | rt p E=>simp only[ebd]at h;exact fun r v L fp b B r4=>h _ v _ _ (f.trans b) B r4
   | bad=>simp only[ebd]at h;exact h.elim
 ·have e:i=k.length:=by lia
  subst e;rw[iD]at h;exact .inl ⟨A rfl,h _ _ Stp.refl O⟩
noncomputable def Dv (g:p8)(ft:o7)(fe:o8):w5->w5->Ev->R (w5)
 | [],acc,c=>.ok acc c
 | d::ds,acc,c=>(g (.o (.im d)) c).bind fun _ c=>(ft c).bind fun b c=>if b=true then (fe c).bind fun p c=>(frz (nrm p) c).bind fun y c=>Dv g ft fe ds (acc++[y]) c else Dv g ft fe ds acc c
def cIn (idx:p6)(c:Ev):Ev:=idx.map fun o=>o.bind fun i=>((c[i]?).join).map (O.flag true)
noncomputable def pairsOf:Nat->p6->q_
 | _,[]=>[]
 | k,none::r=>pairsOf (k+1) r
 | k,some i::r=>(k,i)::pairsOf (k+1) r
def cLC (idx:p6)(fi:Ev->R (w5))(g:p8)(ft:o7)(fe:o8):o8:=fun c=>(fi c).bind fun ds c =>
 if ds.length<=16000000 then match Dv g ft fe ds [] (cIn idx c) with
 | .bad=>.bad
 | .ok acc cI=>match Hu cI (pairsOf 0 idx) c with
  | none=>.bad
  | some c=>.ok (.o (.ls false acc)) c
 else .bad
theorem Bb2 (h:l+1<=k):k-(l+1)+1=k-l:=by lia
theorem Gb {k i:Nat}:∀{l:Nat}{idx:p6},(k,i)∈pairsOf l idx->l<=k/\idx[k-l]?=some (some i)
 | l,[],h=>by cases h
 | l,none::r,h=>by
  obtain⟨q1,q2⟩:=Gb (l:=l+1) (idx:=r) h
  refine⟨eU q1,?_⟩
  rw[show k-l=(k-(l+1))+1 from (Bb2 q1).symm,fP];exact q2
 | l,some j::r,h=>by
  rcases aB.mp (show (k,i)∈(l,j)::pairsOf (l+1) r from h) with e | e
  ·cases e;exact⟨aq _,by rw[dC];rfl⟩
  ·obtain⟨q1,q2⟩:=Gb (l:=l+1) (idx:=r) e
   refine⟨eU q1,?_⟩
   rw[show k-l=(k-(l+1))+1 from (Bb2 q1).symm,fP];exact q2
theorem Ol {k i:Nat}:∀{l:Nat}{idx:p6},idx[k]?=some (some i)->(k+l,i)∈pairsOf l idx
 | l,[],h=>by simp at h
 | l,none::r,h=>by
  cases k with
  | zero=>simp at h
  | succ k =>
   rw[fP]at h;have:=Ol (l:=l+1) (idx:=r) h
   rw[show k+1+l=k+(l+1) by lia];exact this
 | l,some j::r,h=>by
  cases k with
  | zero=>simp at h;subst h;rw[aM];exact .head _
  | succ k =>
   rw[fP]at h;have:=Ol (l:=l+1) (idx:=r) h
   rw[show k+1+l=k+(l+1) by lia];exact .tail _ this
theorem Rm:∀{l:Nat}{idx:p6},((pairsOf l idx).map (·.1)).Nodup
 | l,[]=>fG
 | l,none::r=>Rm (l:=l+1) (idx:=r)
 | l,some j::r=>by
  show (l::(pairsOf (l+1) r).map (·.1)).Nodup
  rw[c7]
  refine⟨fun h=>?_,Rm⟩
  obtain⟨⟨k,i⟩,h1,h2⟩:=aD.mp h;have:=(Gb h1).1;have h2:k=l:=h2;lia
theorem B5d (h:x.join=some o):x=some (some o):=by
 cases x with
 | none=>grind
 | some y=>simp_all
theorem Bh2 {k:Nat} (h:(cIn idx c)[k]?=some (some o)):∃i a,idx[k]?=some (some i)/\c[i]?=some (some a)/\o=a.flag true:=by
 unfold cIn at h;rw[bD]at h;obtain⟨x,e,b⟩:=a_.mp h
 cases x with
 | none=>grind
 | some i =>
  obtain⟨a,f,d⟩:=a_.mp b
  grind
theorem Ax7 {k i:Nat} (h1:idx[k]?=some (some i)) (h2:a[i]?=some (some v)):(cst idx a)[k]?=some (some v):=by
 unfold cst
 grind
theorem Bm7 {idx:p6}(R:Rep K β W c σ)(hnd:((pairsOf 0 idx).map (·.2)).Nodup):Lent K W.Hf (pairsOf 0 idx) c σ (fun k=>(((cst idx σ)[k]?).join).getD .non) (cIn idx c) (cst idx σ) where
 n1:=Rm
 n2:=hnd
 len:=by unfold cIn cst;rw[ao,ao]
 at_:=fun k o h=>by
  obtain⟨i,o',h1,h2,rfl⟩:=Bh2 h;obtain⟨v,e,r,_⟩:=R.get i o' h2;have hs:=Ax7 h1 e
  have one:∀j,(k,j)∈pairsOf 0 idx->j=i:=fun j hj=>by
   have:=(Gb hj).2;rw[eX,h1]at this;cases this;rfl
  have nol:Jg c[i]?=false->∀j,(k,j)∈pairsOf 0 idx->Jg c[j]?=false:=fun q j hj=>by rw[one j hj];exact q
  cases o' with
  | im d=>exact .inl ⟨rfl,nol (by rw[h2];rfl),v,hs,r.2⟩
  | sc d=>exact .inl ⟨rfl,nol (by rw[h2];rfl),v,hs,r.2⟩
  | ty d=>exact .inl ⟨rfl,nol (by rw[h2];rfl),v,hs,r.2⟩
  | ls b ds=>exact .inr ⟨i,b,ds,v,Ol (l:=0) h1,h2,rfl,e,hs,by rw[hs];rfl⟩
theorem Bq9 (hnd:((pairsOf 0 idx).map (·.2)).Nodup) (hg:MG K t g) (ht:MT K tc ft) (he:ME K te fe)
 (st1:Stp W.S W.Hf W.H W1.S W1.Hf W1.H) (R1:Rep K β W1 c1 σ)
 (it:∀(i:Nat) (h:Wo),Stp (Wo.S ⟨W1.Hf,W1.H,Uo (pairsOf 0 idx) c1 W1.fps⟩) W1.Hf W1.H h.S h.Hf h.H->Same h.Hf h.H->(i=ds.length->J.stop i h.H) /\
  ∀d,ds[i]?=some d->J.go i h.H/\∀x E,J.yld i h.H x E->∃s,Stp (fun _=>False) h.Hf h.H (fun _=>False) s E/\Same s E/\Tr s d x)
 (s1:(if ds.length<=16000000 then match Dv g ft fe ds [] (cIn idx c1) with
  | .bad=>.bad
  | .ok f I=>match Hu I (pairsOf 0 idx) c1 with
   | none=>.bad
   | some c=>.ok (.o (.ls false f)) c
  else .bad:R PV).sat fun p c'=>∀v j w,Stp W.S W.Hf W.H (orS j.S w) j.Hf j.H->Rep K β j c' σ->Gi K j σ p v w->Q v j.H):tLC idx (fun _ H k=>k J H) t tc te σ W1.H Q:=by
 unfold tLC
 dsimp only
 by_cases hl:ds.length<=16000000
 ·rw[if_pos hl]at s1
  have L:=Bm7 (idx:=idx) R1 hnd
  let C:Nat->V:=fun k=>(((cst idx σ)[k]?).join).getD .non
  let F:Wo:=⟨W1.Hf,W1.H,Uo (pairsOf 0 idx) c1 W1.fps⟩
  let B:U.R (w5)->Prop:=fun r=>match r with
   | .bad=>False
   | .ok f I=>match Hu I (pairsOf 0 idx) c1 with
    | none=>False
    | some c=>∀v j w,Stp W.S W.Hf W.H (orS j.S w) j.Hf j.H->Rep K β j c σ->Gi K j σ (.o (.ls false f)) v w->Q v j.H
  have s2:B (Dv g ft fe ds [] (cIn idx c1)):=by
   show match Dv g ft fe ds [] (cIn idx c1) with
    | .bad=>False
    | .ok f I=>match Hu I (pairsOf 0 idx) c1 with
     | none=>False
     | some c=>∀v j w,Stp W.S W.Hf W.H (orS j.S w) j.Hf j.H->Rep K β j c σ->Gi K j σ (.o (.ls false f)) v w->Q v j.H
   cases e1:Dv g ft fe ds [] (cIn idx c1) with
   | bad=>rw[e1]at s1;exact s1.elim
   | ok f I =>
    simp only[e1]at s1
    show match Hu I (pairsOf 0 idx) c1 with
     | none=>False
     | some c=>∀v j w,Stp W.S W.Hf W.H (orS j.S w) j.Hf j.H->Rep K β j c σ->Gi K j σ (.o (.ls false f)) v w->Q v j.H
    cases e2:Hu I (pairsOf 0 idx) c1 with
    | none=>simp only[e2]at s1;exact s1.elim
    | some D=>simp only[e2]at s1;exact s1
  refine⟨fun i m A S H=>∃h D f,h.H=H/\Rep K C h D A/\m=ds.length-i/\i<=ds.length/\S.length<=i/\Stp F.S F.Hf F.H h.S h.Hf h.H/\TrL h.Hf f S/\B (Dv g ft fe (ds.drop i) f D),
   ⟨_,F,cIn idx c1,[],rfl,(L.rep R1),rfl,aO _,aq _,Stp.refl,rfl,s2⟩,?_⟩
  rintro i m A S H ⟨h,D,f,rfl,R2,rfl,hle,hvs,N,ta,l⟩
  obtain⟨P,hgo⟩:=it i h N R2.sub
  by_cases lt:i<ds.length
  ·obtain⟨q1,q2⟩:=hgo ds[i] (bG lt)
   refine .inr ⟨q1,aN (bR hvs (aN lt hl)) (by decide),fun A S E=>∃h D f,h.H=E/\Rep K C h D A/\S.length<=i+1/\Stp F.S F.Hf F.H h.S h.Hf h.H/\TrL h.Hf f S/\B (Dv g ft fe (ds.drop (i+1)) f D),
    fun A acc' E ⟨O,X,Y,e3,R3,h3,n,t3,f3⟩=>⟨ds.length-(i+1),by lia,O,X,Y,e3,R3,rfl,by lia,h3,n,t3,f3⟩,fun x E hy=>?_⟩
   obtain⟨s,n,sub3,tx⟩:=q2 x E hy
   have stx:Stp h.S h.Hf h.H (Wo.S ⟨s,E,h.fps⟩) s E:=⟨n.fz,fun a o e _=>n.kp a o e fun z=>z,fun a o e mu _ q=>n.nf a o e mu (fun z=>z) q,fun a z=>.inl z⟩
   rw[T3 lt]at l;unfold Dv at l
   refine hg C ⟨s,E,h.fps⟩ D A (.o (.im ds[i])) x [] _ (n.rep R2 sub3) ⟨⟨rfl,tx⟩,fun a z=>nomatch z⟩ ?_
   cases eg:g (.o (.im ds[i])) D with
   | bad=>rw[eg]at l;exact l.elim
   | ok u X =>
    rw[eg]at l
    have l:B ((ft X).bind fun b c=>if b=true then (fe c).bind fun p c=>(frz (nrm p) c).bind fun y c=>Dv g ft fe (ds.drop (i+1)) (f++[y]) c else Dv g ft fe (ds.drop (i+1)) f c):=l
    intro σ3 O G R4
    have G:=G.up (S2:=h.S) fun a z=>by
     rcases z with z | z
     ·exact z
     ·cases z
    refine ht C O X σ3 _ R4 ?_
    cases et:ft X with
    | bad=>rw[et]at l;exact l.elim
    | ok b c4 =>
     rw[et]at l;intro T st5 R5;have M:Stp F.S F.Hf F.H T.S T.Hf T.H:=N.trans (stx.trans (G.trans st5));have Z:TrL T.Hf f S:=TrL.same (stx.trans (G.trans st5)).fz ta
     cases b with
     | false=>rw[if_neg (by decide)];exact⟨T,c4,f,rfl,R5,by lia,M,Z,l⟩
     | true =>
      rw[if_pos rfl]
      have l:B ((fe c4).bind fun p c=>(frz (nrm p) c).bind fun y c=>Dv g ft fe (ds.drop (i+1)) (f++[y]) c):=l
      refine he.toV C T c4 σ3 _ R5 ?_
      cases ee:fe c4 with
      | bad=>rw[ee]at l;exact l.elim
      | ok p c5 =>
       rw[ee]at l
       have l:B ((frz (nrm p) c5).bind fun y c=>Dv g ft fe (ds.drop (i+1)) (f++[y]) c):=l
       intro y W5 st6 R6 r6
       have fz:(frz (nrm p) c5).sat fun _ _=>True:=by
        cases ef:frz (nrm p) c5 with
        | bad=>rw[ef]at l;exact l.elim
        | ok d c=>trivial
       obtain⟨d,c6,W6,e6,_,eH,st7,R7,t7⟩:=Fj R6 r6 fz;rw[e6]at l
       refine⟨W6,c6,f++[d],eH,R7,by rw[aX,gV];lia,M.trans (st6.trans st7),(TrL.same (st6.trans st7).fz Z).app (TrL.one t7),l⟩
  ·have e:i=ds.length:=by lia
   subst e;rw[iD]at l
   refine .inl ⟨P rfl,fun p hp=>?_⟩
   have l:match Hu D (pairsOf 0 idx) c1 with
    | none=>False
    | some c=>∀v j w,Stp W.S W.Hf W.H (orS _ _) _ _->Rep K _ j c _->Gi K _ _ _ v _->Q v _:=l
   cases eb:Hu D (pairsOf 0 idx) c1 with
   | none=>simp only[eb]at l
   | some cO =>
    simp only[eb]at l
    obtain⟨O,e1,e2,R3,n,_⟩:=L.back (fp:=[]) R1 R2 (N.less fun a z=>by
     rcases z with z | z
     ·exact z
     ·cases z) eb (fun k i b ds v hm _ hv=>by
      have:=(Gb hm).2;rw[eX]at this
      rw[Ax7 this hv];rfl) fun a z=>nomatch z
    have n:Stp W1.S W1.Hf W1.H O.S O.Hf O.H:=by
     rw[e1,e2];exact n.less fun a z=>.inl z
    rw[<- e2]at hp ⊢
    exact New.lst (New.of R3 fun v j w st R' rp=>l v _ _ (st1.trans (n.trans st)) R' rp) R3.sub (by rw[e1];exact ta) hp
 ·rw[if_neg hl]at s1;exact s1.elim
theorem B5t (d:((pairsOf 0 idx).map (·.2)).Nodup) (hi:MI K f fi) (hg:MG K t g) (ht:MT K h ft) (he:ME K j fe) :
 ME K (tLC idx f t h j) (cLC idx fi g ft fe):=by
 intro n W c o Q R s
 refine hi _ W c _ _ R (s.bnd.mono fun q p l J u a k m=>?_)
 exact Bq9 d hg ht he a k (fun i r e b=>m i _ _ e.fz b) l
end
inductive FR where
 | ret (o:O) (as:List O)
 | bad
abbrev o9:=List O->FR
noncomputable def resolve (p:PV)(c:Ev):Option (O×Ev):=match p with
 | .o (.ls _ ds)=>some (.ls false ds,c)
 | .o o=>some (o,c)
 | .sl i=>match c[i]? with
  | some (some (.ls false ds))=>some (.ls false ds,c.set i none)
  | some (some (.im d))=>some (.im d,c)
  | _=>none
noncomputable def Iu:List O->Ev->Option (List O)
 | [],_=>some []
 | .ls true _::r,some (.ls true ds)::c=>(Iu r c).map (.ls true ds::·)
 | .ls _ _::_,_=>none
 | o::r,_::c=>(Iu r c).map (o::·)
 | _::_,[]=>none
def A2s (as:List O)(p:PV)(c:Ev):FR:=match resolve p c with
 | none=>.bad
 | some (o,c)=>match Iu as c with
  | none=>.bad
  | some as'=>.ret o as'
def Dm (n N:Nat)(body:Ev->SR):o9:=fun as=>if as.length=n then match body (as.map some++List.replicate (N-n) none) with
 | .nx c=>A2s as (.o (.im .none)) c
 | .rt p c=>A2s as p c
 | _=>.bad
 else .bad
def spP (K:v8)(F:o9):Sp:=fun vs H Q _=>∃(β:Nat->V) (W:Wo) (as:List O),W.H=H/\as.length=vs.length/\Rep K β W (as.map some) (vs.map some)/\match F as with
 | .bad=>False
 | .ret o as'=>∀v W' fp,Stp W.S W.Hf W.H (orS W'.S fp) W'.Hf W'.H->Rep K β W' (as'.map some) (vs.map some)->RepO K W'.Hf W'.H o v fp->(∀a∈fp,¬ W'.S a)->Q v W'.H
section
variable {K:v8}{β:Nat->V}{W W':Wo}{c c' cO:Ev}{σ:St}{D:Ends}{Hf H:Hp}{o:O}{v:V}{fp:v5}
theorem Rj:∀{as:List O}{c:Ev}{as':List O},Iu as c=some as'->as'.length=as.length/\∀(i:Nat) (o':O),as'[i]?=some o'->(o'.own=false/\as[i]?=some o')\/(∃ds ds',o'=.ls true ds'/\as[i]?=some (.ls true ds)/\c[i]?=some (some (.ls true ds')))
 | [],c,as',e=>by cases (show some []=some as' from e);exact⟨rfl,fun i o' h=>by simp at h⟩
 | o::r,[],as',e=>by
  cases o with
  | ls b ds=>cases b <;> cases e
  | im d=>cases e
  | sc d=>cases e
  | ty d=>cases e
 | o::r,x::c,as',e=>by
  have go:∀o1:O,(Iu r c).map (o1::·)=some as'->((o1.own=false/\o1=o)\/(∃ds ds',o1=.ls true ds'/\o=.ls true ds/\x=some (.ls true ds'))) ->
   as'.length=(o::r).length/\∀(i:Nat) (o':O),as'[i]?=some o'->(o'.own=false/\(o::r)[i]?=some o')\/(∃ds ds',o'=.ls true ds'/\(o::r)[i]?=some (.ls true ds)/\(x::c)[i]?=some (some (.ls true ds'))):=fun o1 e1 h1=>by
   obtain⟨t,e2,rfl⟩:=a_.mp e1;obtain⟨l,g⟩:=Rj e2
   refine⟨by rw[aP,aP,l],fun i o' h=>?_⟩
   cases i with
   | zero =>
    cases (show some o1=some o' from h)
    rcases h1 with ⟨z1,z2⟩ | ⟨ds,ds',z1,z2,z3⟩
    ·exact .inl ⟨z1,by rw[z2];rfl⟩
    ·exact .inr ⟨ds,ds',z1,by rw[z2];rfl,by rw[z3];rfl⟩
   | succ i=>exact g i o' (by simpa using h)
  cases o with
  | ls b ds =>
   cases b with
   | false=>cases e
   | true =>
    match x,e with
    | some (.ls true ds'),e=>exact go (.ls true ds') e (.inr ⟨ds,ds',rfl,rfl,rfl⟩)
    | some (.ls false ds'),e=>cases e
    | some (.im _),e=>cases e
    | some (.sc _),e=>cases e
    | some (.ty _),e=>cases e
    | none,e=>cases e
  | im d=>exact go (.im d) e (.inl ⟨rfl,rfl⟩)
  | sc d=>exact go (.sc d) e (.inl ⟨rfl,rfl⟩)
  | ty d=>exact go (.ty d) e (.inl ⟨rfl,rfl⟩)
theorem Ar9 (R:Rep K β W c σ) (r:Gi K W σ p v fp) (e:resolve p c=some (o,c')) :
 ∃W2 fp2,W2.Hf=W.Hf/\W2.H=W.H/\Rep K β W2 c' σ/\RepO K W2.Hf W2.H o v fp2/\(∀a∈fp2,¬ W2.S a)/\∀a,orS W2.S fp2 a->orS W.S fp a:=by
 cases p with
 | o f =>
  have g:o=f.flag false/\c'=c:=by
   cases f with
   | ls b h=>cases e;exact⟨rfl,rfl⟩
   | im d=>cases e;exact⟨rfl,rfl⟩
   | sc d=>cases e;exact⟨rfl,rfl⟩
   | ty d=>cases e;exact⟨rfl,rfl⟩
  obtain⟨rfl,rfl⟩:=g
  refine⟨W,fp,rfl,rfl,R,?_,r.2,fun a z=>z⟩
  cases f with
  | ls b h=>exact r.1
  | im d=>exact r.1
  | sc d=>exact r.1
  | ty d=>exact r.1
 | sl i =>
  obtain⟨rfl,n⟩:=r;unfold resolve at e
  cases ec:c[i]? with
  | none=>simp_all
  | some x =>
   cases x with
   | none=>grind
   | some f =>
    obtain⟨v',g,k,_⟩:=R.get i _ ec
    cases (show some _=some _ from g.symm.trans n)
    cases f with
    | sc d=>simp_all
    | ty d=>simp_all
    | im d =>
     simp only[ec]at e
     cases e
     exact⟨W,[],rfl,rfl,R,⟨rfl,k.2⟩,(fun a z=>by cases z),fun a z=>z⟩
    | ls b h =>
     cases b with
     | true=>simp_all
     | false =>
      simp only[ec]at e
      cases e
      refine⟨⟨W.Hf,W.H,clr _ i⟩,W.fps i,rfl,rfl,R.drop i,k,fun a q ⟨j,m⟩=>?_,fun a z=>?_⟩
      ·obtain⟨s,l⟩:=Ey m
       exact l (R.dis j i a s q)
      ·rcases z with z | z
       ·exact .inl (B0g z)
       ·exact .inl ⟨i,z⟩
theorem Cw {b a:Type}{l:List b}{f:b->a}{i:Nat}{y:a}(h:(l.map f)[i]?=some y):∃x,l[i]?=some x/\f x=y:=by
 grind
theorem Bc7 {vs:n7} (t:Rep K β z (p.map some) (vs.map some)) (R:Rep K β W c σ) (S:Same z.Hf W.Hf) (e:Iu p c=some k) :
 ∃W2:Wo,W2.Hf=W.Hf/\W2.H=W.H/\Rep K β W2 (k.map some) (vs.map some)/\∀a,W2.S a->W.S a:=by
 obtain⟨E,G⟩:=Rj e
 let f:Nat->v5:=fun i=>if Jg ((k.map some)[i]?) then W.fps i else []
 have g:∀i a,a∈f i->a∈W.fps i:=fun i a h=>by
  grind
 have m:p.length=vs.length:=by have:=t.len;rwa [ao,ao]at this
 refine⟨⟨W.Hf,W.H,f⟩,rfl,rfl,⟨R.sub,by rw[ao,ao,E,m],fun i o h=>?_,fun i j a u w=>R.dis i j a (g i a u) (g j a w),fun i a h=>R.own i a (g i a h)⟩,fun a ⟨i,h⟩=>⟨i,g i a h⟩⟩
 obtain⟨o',u,w⟩:=Cw h
 cases w
 rcases G i o u with ⟨n,q⟩ | ⟨A,C,rfl,J,D⟩
 ·obtain⟨v,s,r,_⟩:=t.get i o (by rw[bD,q];rfl)
  have x:f i=[]:=by
   show (if Jg _ then W.fps i else [])=[]
   rw[h]
   cases o with
   | ls b A=>exact nomatch n
   | im d=>rfl
   | sc d=>rfl
   | ty d=>rfl
  refine⟨v,s,?_,?_⟩
  ·show RepO K W.Hf W.H o v (f i)
   rw[x]
   cases o with
   | ls b A=>exact nomatch n
   | im d=>exact⟨rfl,RepN.same S r.2⟩
   | sc d=>exact⟨rfl,RepN.same S r.2⟩
   | ty d=>exact⟨rfl,RepN.same S r.2⟩
  grind
 ·obtain⟨v,s,r,B⟩:=t.get i _ (by rw[bD,J];rfl)
  obtain⟨H,F,I,y⟩:=R.get i _ D;have l:=y rfl;rw[<- (B rfl)]at l;subst l
  refine⟨H,s,?_,B⟩
  have x:f i=W.fps i:=by
   show (if Jg _ then W.fps i else [])=_
   rw[h];rfl
  show RepO K _ _ _ _ (f i)
  rw[x];exact I
theorem Bl (h:MS K T body) (hs:spP K (Dm n N.length body) vs H Q E):T { nx:=fun _ H'=>Q .non H',rt:=Q } (start N vs) H:=by
 obtain⟨u,W,j,rfl,B,m,b⟩:=hs;unfold Dm at b
 by_cases hn:j.length=n
 ·rw[if_pos hn]at b
  let D:Ev:=j.map some++List.replicate (N.length-n) none
  have R:Rep K u W D (start N vs):=by
   refine⟨m.sub,?_,fun i o e=>?_,m.dis,m.own⟩
   ·show (j.map some++List.replicate (N.length-n) none).length=(vs.map some++List.replicate (N.length-vs.length) none).length
    rw[aX,aX,ao,ao,List.length_replicate,List.length_replicate,<- B,hn]
   ·have e:(j.map some++List.replicate (N.length-n) none)[i]?=some (some o):=e
    by_cases li:i<j.length
    ·rw[fQ (by rw[ao];exact li)]at e
     obtain⟨v,w,r⟩:=m.get i o e
     refine⟨v,?_,r⟩
     show (vs.map some++List.replicate (N.length-vs.length) none)[i]?=_
     rw[fQ (by rw[ao,<- B];exact li)];exact w
    ·rw[eY (by rw[ao];exact Nat.le_of_not_lt li),List.getElem?_replicate]at e
     split at e <;> cases e
  refine h u W D (start N vs) _ R ?_
  have l:∀p f c v d g,(match A2s j p f with
   | .bad=>False
   | .ret o t=>∀v W' g,Stp W.S W.Hf W.H (orS W'.S g) W'.Hf W'.H->Rep K u W' (t.map some) (vs.map some)->RepO K W'.Hf W'.H o v g->(∀a∈g,¬ W'.S a)->Q v W'.H) ->
   Stp W.S W.Hf W.H (orS d.S g) d.Hf d.H->Rep K u d f c->Gi K d c p v g->Q v d.H:=fun p f c v d g b k s x=>by
   unfold A2s at b
   cases er:resolve p f with
   | none=>simp only[er]at b
   | some q =>
    obtain⟨o,U⟩:=q;simp only[er]at b
    cases ea:Iu j U with
    | none=>simp only[ea]at b
    | some t =>
     simp only[ea]at b;obtain⟨W2,S,w,C,I,J,L,M⟩:=Ar9 s x er
     obtain⟨O,A,y,P,F⟩:=Bc7 m I (by rw[w];exact k.fz) ea
     rw[show d.H=O.H by rw[y,C]]
     refine b v _ _ ?_ P (by rw[A,y];exact J) fun a G z=>L a G (F a z)
     rw[A,y,w,C]
     exact k.less fun a z=>M a (by
      rcases z with z | z
      ·exact .inl (F a z)
      ·exact .inr z)
  cases eb:body _ with
  | nx f =>
   rw[show body _=.nx _ from eb]at b
   exact fun c d k s=>l _ _ _ _ _ _ b (k.less fun a z=>by
    rcases z with z | z
    ·exact z
    ·cases z) s ⟨⟨rfl,rfl⟩,fun a z=>nomatch z⟩
  | rt p f =>
   rw[show body _=.rt p _ from eb]at b
   exact fun c v d g k s x=>l p _ _ v _ _ b k s x
  | bk f=>rw[show body _=.bk _ from eb]at b;exact b.elim
  | ct f=>rw[show body _=.ct _ from eb]at b;exact b.elim
  | bad=>rw[show body _=.bad from eb]at b;exact b.elim
 ·rw[if_neg hn]at b;exact b.elim
theorem Bm (hs:spP K (Dm n N body) vs H Q E):vs.length=n:=by
 obtain⟨d,W,c,b,e,f,a⟩:=hs;unfold Dm at a
 grind
def Ac8 (c:Ev):List PV->Option (List O)
 | []=>some []
 | .o o::r=>(Ac8 c r).map (o::·)
 | .sl i::r=>match c[i]? with
  | some (some o)=>(Ac8 c r).map (o.flag true::·)
  | _=>none
noncomputable def slots:List PV->p6
 | []=>[]
 | .o _::r=>none::slots r
 | .sl i::r=>some i::slots r
noncomputable def ndB:List Nat->Bool
 | []=>true
 | x::r=>!r.contains x&&ndB r
theorem A6f:∀{l:List Nat},ndB l=true->l.Nodup
 | [],_=>fG
 | x::r,h=>by
  obtain⟨h1,h2⟩:=aC.mp (show (!r.contains x&&ndB r)=true from h)
  rw[c7]
  exact⟨fun z=>by simp[z]at h1,A6f h2⟩
def Xn (F:o9)(ps:List PV)(c:Ev):R PV:=match Ac8 c ps with
 | none=>.bad
 | some as=>if ndB ((pairsOf 0 (slots ps)).map (·.2))=true then match F as with
  | .bad=>.bad
  | .ret o as'=>match Hu (as'.map some) (pairsOf 0 (slots ps)) c with
   | none=>.bad
   | some c=>.ok (.o o) c
  else .bad
def cF (F:o9)(fa:o6):o8:=fun c=>(fa c).bind fun ps c=>Xn F ps c
theorem Wn {Hf:Hp}:∀{ps:List PV}{vs:n7}{as:List O},Ac8 c ps=some as->zU K Hf σ ps vs->as.length=vs.length/\∀(k:Nat) (o:O),as[k]?=some o->∃v,vs[k]?=some v /\
 ((RepN K Hf o v/\(slots ps)[k]?=some none)\/∃i o',(slots ps)[k]?=some (some i)/\c[i]?=some (some o')/\o=o'.flag true/\σ[i]?=some (some v))
 | [],vs,as,e,h=>by cases (show some []=some as from e);cases (show vs=[] from h);exact⟨rfl,fun k o h=>by simp at h⟩
 | .o o1::r,_,as,e,⟨v,vr,rfl,h,t⟩=>by
  obtain⟨l,e2,rfl⟩:=a_.mp (show (Ac8 c r).map (o1::·)=some as from e)
  obtain⟨hl,hg⟩:=Wn e2 t
  refine⟨by rw[aP,aP,hl],fun k o hk=>?_⟩
  cases k with
  | zero=>cases (show some o1=some o from hk);exact⟨v,rfl,.inl ⟨h,rfl⟩⟩
  | succ k=>exact hg k o (by simpa using hk)
 | .sl i::r,_,as,e,⟨v,vr,rfl,h,t⟩=>by
  unfold Ac8 at e
  cases ec:c[i]? with
  | none=>simp only[ec]at e;cases e
  | some x =>
   cases x with
   | none=>simp only[ec]at e;cases e
   | some o1 =>
    simp only[ec]at e;obtain⟨l,e2,rfl⟩:=a_.mp e;obtain⟨hl,hg⟩:=Wn e2 t
    refine⟨by rw[aP,aP,hl],fun k o hk=>?_⟩
    cases k with
    | zero=>cases (show some (o1.flag true)=some o from hk);exact⟨v,rfl,.inr ⟨i,o1,rfl,ec,rfl,h⟩⟩
    | succ k=>exact hg k o (by simpa using hk)
theorem Tt {Hf:Hp}:∀{ps:List PV}{vs:n7}{k i:Nat}{v:V},zU K Hf σ ps vs->(slots ps)[k]?=some (some i)->σ[i]?=some (some v)->vs[k]?=some v
 | [],vs,k,i,v,h,e,q=>by simp[slots]at e
 | .o _::r,_,k,i,v,⟨v1,vr,rfl,h,t⟩,e,q=>by
  cases k with
  | zero=>simp[slots]at e
  | succ k=>have:=Tt (k:=k) t (by simpa[slots] using e) q;simpa using this
 | .sl j::r,_,k,i,v,⟨v1,vr,rfl,h,t⟩,e,q=>by
  cases k with
  | zero =>
   have:j=i:=by simpa[slots] using e
   subst this
   cases (show some (some v1)=some (some v) from (show σ[j]?=some (some v1) from h).symm.trans q)
   rfl
  | succ k=>have:=Tt (k:=k) t (by simpa[slots] using e) q;simpa using this
theorem Aw2 (g:Rep K β W1 c1 σ) (R:zU K W1.Hf σ ps vs)
 (s1:(Xn F ps c1).sat fun p c'=>∀v e y,Stp W1.S W1.Hf W1.H (orS e.S y) e.Hf e.H->Rep K β e c' σ->Gi K e σ p v y->(∀j a,a∈W1.fps j->some j∉slots ps->e.H a=W1.H a)->Q v e.H):spP K F (vs++[]) W1.H Q E:=by
 unfold Xn at s1
 cases ea:Ac8 c1 ps with
 | none=>simp only[ea]at s1;exact s1.elim
 | some M =>
  simp only[ea]at s1
  by_cases nd:ndB ((pairsOf 0 (slots ps)).map (·.2))=true
  ·rw[if_pos nd]at s1
   obtain⟨P,hg⟩:=Wn ea R
   let m:=pairsOf 0 (slots ps)
   let l:Nat->V:=fun k=>(vs[k]?).getD .non
   have L:Lent K W1.Hf m c1 σ l (M.map some) (vs.map some):=by
    refine⟨Rm,A6f nd,by rw[ao,ao];exact P,fun k o B=>?_⟩
    obtain⟨o1,T,h2⟩:=Cw B
    cases h2
    obtain⟨v,u,q⟩:=hg k o T
    have c:(vs.map some)[k]?=some (some v):=by rw[bD,u];rfl
    rcases q with ⟨I,t⟩ | ⟨i,H,t,n,rfl,G⟩
    ·refine .inl ⟨?_,fun i Z=>?_,v,c,I⟩
     ·cases o with
      | ls b D=>exact I.elim
      | im d=>rfl
      | sc d=>rfl
      | ty d=>rfl
     ·have:=(Gb Z).2
      rw[eX,t]at this;cases this
    ·have f:Jg c1[i]?=false->∀j,(k,j)∈m->Jg c1[j]?=false:=fun q j z=>by
      have:=(Gb z).2;rw[eX,t]at this;cases this;exact q
     obtain⟨v',w,r,_⟩:=g.get i H n
     cases (show some _=some _ from w.symm.trans G)
     cases H with
     | im d=>exact .inl ⟨rfl,f (by rw[n];rfl),v,c,r.2⟩
     | sc d=>exact .inl ⟨rfl,f (by rw[n];rfl),v,c,r.2⟩
     | ty d=>exact .inl ⟨rfl,f (by rw[n];rfl),v,c,r.2⟩
     | ls b D=>exact .inr ⟨i,b,D,v,Ol t,n,rfl,G,c,by show vs[k]?.getD _=v;rw[u];rfl⟩
   refine⟨l,⟨W1.Hf,W1.H,Uo m _ _⟩,M,rfl,by rw[cN];exact P,by rw[cN];exact(L.rep g),?_⟩
   cases ef:F _ with
   | bad=>simp only[ef]at s1;exact s1.elim
   | ret o A =>
    simp only[ef]at s1;intro v e y J U W X
    cases eb:Hu (A.map some) m c1 with
    | none=>simp only[m]at eb;simp only[eb]at s1;exact s1.elim
    | some cO =>
     have h:=eb;simp only[m]at h;simp only[h]at s1
     obtain⟨W2,w,x,R2,C,Y⟩:=L.back g U J eb (fun k i b D v hm hc u=>by
      have:=(Gb hm).2;rw[eX]at this
      show vs[k]?.getD _=v
      rw[Tt R this u];rfl) X
     rw[<- x]
     refine s1 v _ _ (by rw[w,x];exact C) R2 ⟨by rw[w,x];exact W,Y⟩ fun j a N z=>?_
     obtain⟨_,ob,s,_⟩:=g.own j a N;rw[x,s]
     refine J.kp a _ s fun⟨k,B⟩=>z ?_
     obtain⟨i,q1,_,S⟩:=Hk B
     cases g.dis i j a S N
     have:=(Gb q1).2;exact bc this
  ·rw[if_neg nd]at s1;exact s1.elim
theorem Zg (d:Rep K β W1 c1 σ) (e:zU K W1.Hf σ ps vs)
 (s1:(Xn F ps c1).sat fun p c'=>∀v a b,Stp W1.S W1.Hf W1.H (orS a.S b) a.Hf a.H->Rep K β a c' σ->Gi K a σ p v b->Q v a.H):spP K F (vs++[]) W1.H Q E :=
 Aw2 d e (s1.mono fun p c' k v a b c R r _=>k v _ _ c R r)
theorem Bs4 (ha:MA K t fa):ME K (Al0 (spP K F) [] E t) (cF F fa):=by
 intro j W c h Q R s
 refine ha _ W c _ _ R (s.bnd.mono fun l m f u i a e d=>?_)
 exact Zg e d (f.mono fun p n k v o q g b r=>k v _ _ (a.trans g) b r)
end
noncomputable def B6o (is:List Nat)(c:Ev):Ev:=is.foldl (fun c i=>c.set i none) c
section
variable {K:v8}{X:Cx}{Hf H:Hp}{Q:VK}
theorem OpR.or (h:OpR X f r) (h':OpR X f b):OpR X f (fun x y H Q=>r x y H Q\/b x y H Q):=by
 intro c s e H x y v u Q I d a q
 rcases q with q | q
 ·exact h _ s _ H x y v u Q I d a q
 ·exact h' _ s _ H x y v u Q I d a q
theorem CallR.or (h:CallR X f r) (h':CallR X f b):CallR X f (fun xs H Q=>r xs H Q\/b xs H Q):=by
 intro c s d H xs e Q I a q
 rcases q with q | q
 ·exact h _ s _ H _ _ Q I a q
 ·exact h' _ s _ H _ _ Q I a q
theorem Dz (h:RdV Hf H (.int i) v):v=.int i:=h
theorem Gn (h:RdV Hf H (.str x) v):v=.str x:=h
theorem Qo (h:RdV Hf H (.bool b) v):v=.bl b:=h
theorem Sg (h:RdV Hf H .none v):v=.non:=h
theorem Ja (s:Same Hf H) (h:RdV Hf H (.tuple ds) v):∃a b,v=.ref a/\H a=some (.tup b)/\TrL Hf ds b:=by
 obtain⟨a,b,e,q,t⟩:=(show Tr _ _ v from h)
 exact⟨a,b,e,s _ _ q,t⟩
theorem Fo (h:RdV Hf H (.list ds) v):∃a vs,v=.ref a/\H a=some (.lst vs)/\TrL Hf ds vs:=h
theorem New.int (h:New K Hf H (.im (.int i)) Q) (s:Same Hf H):Q (.int i) H:=h.same s rfl
theorem New.bl (h:New K Hf H (.im (.bool b)) Q) (s:Same Hf H):Q (.bl b) H:=h.same s rfl
theorem New.str (h:New K Hf H (.im (.str x)) Q) (s:Same Hf H):Q (.str x) H:=h.same s rfl
theorem New.tupS (h:New K Hf H (.im (.tuple ds)) Q) (s:Same Hf H) (t:TrL Hf ds vs) (S:Same H H') (hp:H' p=some (.tup vs)):Q (.ref p) H':=by
 have c:Same _ (upd Hf p (.tup vs)):=fun b u e=>by
  unfold upd
  split
  ·have:=S b u (s b u e)
   simp_all
  grind
 refine h _ _ _ [] ⟨c,fun a o e _=>S a o e,fun a o e d _ q=>?_,fun a z=>nomatch z⟩ (fun b u e=>?_) ⟨rfl,p,vs,rfl,Ay,TrL.same c t⟩
 ·unfold upd
  split
  ·rename_i z
   have:=S a o e;rw[z,hp]at this
   cases this
   trivial
  lia
 ·unfold upd at e
  split at e
  ·simp_all
  ·exact S b u (s b u e)
def B2o:R2:=fun x y H Q=>(rI0 (fun i j=>.int (i+j)) x y H Q\/(∃i j,x=.str i/\y=.str j/\i.length+j.length<=sizeLine/\Q (.str (i++j)) H))\/(B3u x y H Q\/Bu9 x y H Q)
theorem Bz6:OpR X (binaryOp .Add) B2o:=OpR.or (OpR.or B1i At5) (OpR.or By3 Bq7)
noncomputable def Cq:t6->t6->n6
 | .int i,.int j=>some (.im (.int (i+j)))
 | .str a,.str b=>if a.length+b.length<=16000000 then some (.im (.str (a++b))) else none
 | .list a,.list b=>if a.length+b.length<=16000000 then some (.ls false (a++b)) else none
 | .tuple a,.tuple b=>if a.length+b.length<=16000000 then some (.im (.tuple (a++b))) else none
 | _,_=>none
theorem lim (h:n<=16000000):n<=sizeLine:=au h (by decide)
theorem Bl0:OpS K B2o Cq:=by
 intro C H x y A B o Q s g f e n;unfold Cq at e
 split at e
 ·rename_i i j
  cases e
  exact .inl (.inl ⟨i,j,Dz g,Dz f,n.int s⟩)
 ·rename_i a b
  split at e
  ·rename_i l
   cases e
   exact .inl (.inr ⟨a,b,Gn g,Gn f,lim l,n.str s⟩)
  ·cases e
 ·have e := e
  split at e
  ·rename_i l
   cases e
   obtain⟨p,v,k,h,d⟩:=Fo g;obtain⟨q,t,u,m,c⟩:=Fo f
   exact .inr (.inl ⟨p,q,v,t,k,u,h,m,by rw[<- d.length,<- c.length];exact lim l,fun r w=>n.lst s (d.app c) w⟩)
  ·cases e
 ·have e := e
  split at e
  ·rename_i l
   cases e
   obtain⟨p,v,k,h,d⟩:=Ja s g;obtain⟨q,t,u,m,c⟩:=Ja s f
   exact .inr (.inr ⟨p,q,v,t,k,u,h,m,by rw[<- d.length,<- c.length];exact lim l,fun r z S w=>n.tupS s (d.app c) S w⟩)
  ·cases e
 ·cases e
noncomputable def opI (C:Int->Int->Bool)(g:Int->Int->Int):t6->t6->n6
 | .int i,.int j=>if C i j then some (.im (.int (g i j))) else none
 | _,_=>none
theorem A1m (hc:∀i j,C i j=true->a i j):OpS K (rI a fun i j=>.int (g i j)) (opI C g):=by
 intro d H x y h f o Q s c b e n;unfold opI at e
 split at e
 ·rename_i i j
  split at e
  ·rename_i l
   cases e
   exact⟨i,j,Dz c,Dz b,hc i j l,n.int s⟩
  trivial
 grind
noncomputable def Yg (g:Int->Int->t6):t6->t6->n6
 | .int i,.int j=>some (.im (g i j))
 | _,_=>none
theorem Z8 (hg:∀i j H,Tr H (g i j) (g' i j)):OpS K (rI0 g') (Yg g):=by
 intro c H x y f d o Q s a b e n;unfold Yg at e
 split at e
 ·rename_i i j
  cases e
  exact⟨i,j,Dz a,Dz b,n.same s (hg i j _)⟩
 trivial
noncomputable def Ws (i j:Int):Bool:=(decide (-(2 ^ 64)<i)&&decide (i<2 ^ 64))||(decide (-(2 ^ 64)<j)&&decide (j<2 ^ 64))
noncomputable def B6k (ds:w5)(n:Nat):w5:=(List.replicate n ds).flatten
theorem Ay4 {a:w5}{vs:n7}(t:TrL Hf a vs):∀n:Nat,TrL Hf (B6k a n) (List.replicate n vs).flatten
 | 0=>rfl
 | n+1=>by
  show TrL Hf (List.replicate (n+1) a).flatten (List.replicate (n+1) vs).flatten
  rw[dM,dM,gk,gk];exact t.app (Ay4 t n)
noncomputable def Bu (d:t6):Bool:=d.canLay0&&decide (d.depth<=40)
theorem Ga (h:Bu d=true):Flat d:=by
 obtain⟨b,a⟩:=aC.mp h;exact⟨b,aW a⟩
noncomputable def U4:t6->t6->Bool
 | .str _,.str _=>true
 | _,_=>false
def Be (neg:Bool)(a b:t6):n6:=if (Bu a&&Bu b)||U4 a b then some (.im (.bool (if neg then !PyData.eqv a b else PyData.eqv a b))) else none
def rEQ:R2:=fun x y H Q=>B7a x y H Q\/rEq x y H Q
def rNE:R2:=fun x y H Q=>B6x x y H Q\/rNe x y H Q
theorem Bv2 (hu:X.A.units+64<cLine):OpR X (compareOp .Eq) rEQ:=OpR.or (B2v hu) B5c
theorem B4i (hu:X.A.units+64<cLine):OpR X (compareOp .NotEq) rNE:=OpR.or (Bw9 hu) B4s
theorem Xk (x y:Str):PyData.eqv (.str x) (.str y)=decide (V.str x=V.str y):=by
 show (x==y)=_
 grind
theorem B1m:OpS K rEQ (Be false):=by
 intro h H x y f d o Q s b a e n;unfold Be at e
 split at e
 ·rename_i l
  cases e
  rcases Bool.or_eq_true_iff.mp l with l | l
  ·obtain⟨g,c⟩:=aC.mp l
   exact .inl ⟨f,d,b.tr s,a.tr s,Ga g,Ga c,n.bl s⟩
  ·unfold U4 at l
   split at l
   ·cases Gn b
    cases Gn a
    refine .inr ⟨rfl,?_⟩
    rw[<- Xk];exact n.bl s
   grind
 grind
theorem By8:OpS K rNE (Be true):=by
 intro h H x y f d o Q s b a e n;unfold Be at e
 split at e
 ·rename_i l
  cases e
  rcases Bool.or_eq_true_iff.mp l with l | l
  ·obtain⟨g,c⟩:=aC.mp l
   exact .inl ⟨f,d,b.tr s,a.tr s,Ga g,Ga c,n.bl s⟩
  ·unfold U4 at l
   split at l
   ·cases Gn b
    cases Gn a
    refine .inr ⟨rfl,?_⟩
    rw[<- Xk];exact n.bl s
   grind
 grind
def A2v (a b:t6):n6:=if Bu a&&Bu b then (Hi false a b).map fun r=>.im (.bool r) else none
theorem B1q:OpS K B3z A2v:=by
 intro Hf H x y b c o Q s d a e n;unfold A2v at e
 split at e
 ·rename_i l
  obtain⟨g,f⟩:=aC.mp l;obtain⟨r,h,rfl⟩:=a_.mp e;exact⟨b,c,r,d.tr s,a.tr s,Ga g,Ga f,h,n.bl s⟩
 grind
noncomputable def Gk (neg:Bool)(a b:t6):n6:=match b with
 | .none=>some (.im (.bool (match a with
  | .none=>!neg
  | _=>neg)))
 | _=>none
theorem A0a (h:RdV Hf H d v):decide (v=.non)=(match d with | .none=>true | _=>false):=by
 cases d with
 | none=>cases Sg h;rfl
 | bool b=>cases Qo h;rfl
 | int i=>cases Dz h;rfl
 | str x=>cases Gn h;rfl
 | list c=>obtain⟨a,e,rfl,_⟩:=Fo h;rfl
 | tuple c=>obtain⟨a,e,rfl,_⟩:=(show Tr _ _ v from h);rfl
 | dict k=>trivial
theorem Bq3:OpS K (fun x y H Q=>y=.non/\Q (.bl (decide (x=.non))) H) (Gk false):=by
 intro f H x y c b o Q s d a e n
 match b,a,e with
 | .none,a,e =>
  refine⟨Sg a,?_⟩
  rw[A0a d]
  cases e
  cases c <;> exact n.bl s
theorem A7x:OpS K (fun x y H Q=>y=.non/\Q (.bl (!decide (x=.non))) H) (Gk true):=by
 intro f H x y c b o Q s d a e n
 match b,a,e with
 | .none,a,e =>
  refine⟨Sg a,?_⟩
  rw[A0a d]
  cases e
  cases c <;> exact n.bl s
def rIN:R2:=fun x y H Q=>Bj6 false x y H Q\/B6v x y H Q
theorem B5y (hu:X.A.units+64<cLine):OpR X (compareOp .In) rIN:=OpR.or (B3j hu) A4x
noncomputable def Kv (neg:Bool):t6->t6->n6
 | d,.list ds=>if Bu d&&PyData.canLayAll0 ds then some (.im (.bool (if neg then !(ds.any fun e=>PyData.eqv e d) else ds.any fun e=>PyData.eqv e d))) else none
 | d,.tuple ds=>if Bu d&&PyData.canLayAll0 ds then some (.im (.bool (if neg then !(ds.any fun e=>PyData.eqv e d) else ds.any fun e=>PyData.eqv e d))) else none
 | .str i,.str j=>if neg then none else some (.im (.bool (!(Builtin.Str.occurrences j i 0 j.length 1).isEmpty)))
 | _,_=>none
theorem Bx2:OpS K rIN (Kv false):=by
 intro h H x y g k o Q s b d e n;unfold Kv at e
 split at e
 ·rename_i c
  have e := e
  split at e
  ·rename_i l
   obtain⟨f,a⟩:=aC.mp l
   cases e
   exact .inl ⟨g,c,b.tr s,.inl (d.tr s),Ga f,a,n.bl s⟩
  grind
 ·rename_i c
  have e := e
  split at e
  ·rename_i l
   obtain⟨f,a⟩:=aC.mp l
   cases e
   exact .inl ⟨g,c,b.tr s,.inr (d.tr s),Ga f,a,n.bl s⟩
  simp_all
 ·rename_i i j
  cases e
  exact .inr ⟨i,j,Gn b,Gn d,n.bl s⟩
 trivial
theorem A5p:OpS K (Bj6 true) (Kv true):=by
 intro h H x y f i o Q s d g e n;unfold Kv at e
 split at e
 ·rename_i a
  have e := e
  split at e
  ·rename_i l
   obtain⟨c,b⟩:=aC.mp l
   cases e
   exact⟨f,a,d.tr s,.inl (g.tr s),Ga c,b,n.bl s⟩
  simp_all
 ·rename_i a
  have e := e
  split at e
  ·rename_i l
   obtain⟨c,b⟩:=aC.mp l
   cases e
   exact⟨f,a,d.tr s,.inr (g.tr s),Ga c,b,n.bl s⟩
  grind
 ·simp_all
 grind
theorem A7j (t:TrL Hf ds vs) (h:atI ds i=some d):∃v,atI vs i=some v/\Tr Hf d v:=by
 unfold atI at h ⊢;rw[<- t.length];obtain⟨j,c,a⟩:=cH.mp h;obtain⟨v,e,b⟩:=t.got a
 grind
def cutD (ds:w5)(lo hi:q9):w5:=(ds.drop (HT.sIx ds.length 0 lo)).take (HT.sIx ds.length ds.length hi-HT.sIx ds.length 0 lo)
theorem TrL.drop':∀{ds:w5}{vs:n7}(n:Nat),TrL Hf ds vs->TrL Hf (ds.drop n) (vs.drop n)
 | ds,vs,0,h=>h
 | [],_,n+1,h=>by cases (show _=[] from h);exact rfl
 | d::ds,_,n+1,⟨v,r,rfl,_,t⟩=>TrL.drop' n t
theorem TrL.take':∀{ds:w5}{vs:n7}(n:Nat),TrL Hf ds vs->TrL Hf (ds.take n) (vs.take n)
 | ds,vs,0,h=>by rw[List.take_zero,List.take_zero];exact rfl
 | [],_,n+1,h=>by cases (show _=[] from h);exact rfl
 | d::ds,_,n+1,⟨v,r,rfl,q,t⟩=>⟨v,r.take n,rfl,q,TrL.take' n t⟩
theorem TrL.cut (t:TrL Hf ds vs):TrL Hf (cutD ds lo hi) (A3q vs lo hi):=by
 unfold cutD A3q;rw[<- t.length];exact TrL.take' _ (TrL.drop' _ t)
end
section
variable {K:v8}{X:Cx}{Hf H:Hp}{Q:VK}{β:Nat->V}{W W':Wo}{c c':Ev}{σ:St}{v:V}
theorem B0r (h:B0e Hf H [d] xs):∃x,xs=[x]/\RdV Hf H d x:=by
 obtain⟨v,r,b,c,a⟩:=h
 cases (a)
 grind
noncomputable def G9:w5->n6
 | [.list ds]=>some (.im (.int ds.length))
 | [.tuple ds]=>some (.im (.int ds.length))
 | [.str z]=>if z.length<=16000000 then some (.im (.int z.length)) else none
 | _=>none
theorem A5s:B4q K (Uk K) G9:=by
 intro Hf H xs ds o Q s d e n;unfold G9 at e
 split at e
 ·obtain⟨x,rfl,r⟩:=B0r d
  obtain⟨a,c,rfl,b,t⟩:=Fo r
  cases e
  refine⟨.ref a,c.length,rfl,Bl1 b,?_⟩
  rw[<- t.length];exact n.int s
 ·obtain⟨x,rfl,r⟩:=B0r d
  obtain⟨a,c,rfl,b,t⟩:=Ja s r
  cases e
  refine⟨.ref a,c.length,rfl,Bh9 b,?_⟩
  rw[<- t.length];exact n.int s
 ·rename_i z
  obtain⟨x,rfl,r⟩:=B0r d
  cases Gn r
  split at e
  ·rename_i l
   cases e
   refine⟨.str z,z.length,rfl,?_,n.int s⟩
   show (if z.length<=sizeLine then some _ else none)=_
   rw[if_pos (lim l)]
  trivial
 simp_all
def Bl8 (K:v8):n7->Hp->VK->Prop:=fun xs H Q=>Uk K xs H Q\/As0 K xs H Q
theorem A5x:CallR X (.builtin "len") (Bl8 X.K):=CallR.or A3t Aq1
def Ht (f:o8):o8:=fun c=>(f c).bind fun p c=>match nrm p with
 | .o (.sc ns)=>.ok (.o (.im (.int ns.length))) c
 | p=>match Dl c p with
  | some d=>match G9 [d] with
   | some o=>.ok (.o o) c
   | none=>.bad
  | none=>.bad
theorem Bb0 (h:ME K t f):ME K (tCB (Bl8 K) (Cm t Gm)) (Ht f):=by
 intro A W c u Q R s
 refine h.toV A W c u _ R (s.bnd.mono fun p w e v r n k g=>?_)
 have m:∀q:PV,RepA K r.Hf u q v->((match Dl w q with
  | some d=>(match G9 [d] with
   | some o=>.ok (.o o) w
   | none=>.bad)
  | none=>.bad:U.R PV)).sat (fun p C=>∀v j l,Stp W.S W.Hf W.H (orS j.S l) j.Hf j.H->Rep K A j C u->Gi K j u p v l->Q v j.H)->Bl8 K [v] r.H Q:=fun q g e=>by
  cases ex:Dl w q with
  | none=>simp only[ex]at e;exact e.elim
  | some d =>
   simp only[ex]at e
   cases eo:G9 [d] with
   | none=>simp only[eo]at e;exact e.elim
   | some o =>
    simp only[eo]at e
    exact .inl (A5s r.Hf r.H [v] [d] o Q k.sub ⟨v,[],rfl,Fd k g ex,rfl⟩ eo (New.of k fun v j l z y x=>e v j l (n.trans z) y x))
 generalize nrm p=q at e g
 match q,g,e with
 | .o (.sc ns),g,e =>
  obtain⟨a,rfl,B⟩:=g;have e:∀v j l,Stp _ _ _ _ _ _->Rep K _ j _ _->Gi K _ _ _ v _->Q v _:=e
  refine .inr ⟨.ref a,ns.length,rfl,?_,(New.of k fun v j l z y x=>e v _ _ (n.trans z) y x).int k.sub⟩
  exact .inl ⟨ns.map _,Same.seq k.sub B,by simp_all⟩
 | .o (.im d),g,e=>exact m _ g e
 | .o (.ls b d),g,e=>trivial
 | .o (.ty T),g,e=>trivial
 | .sl i,g,e=>exact m _ g e
inductive Ty5 where
 | int | str | bool | list | tuple
noncomputable def Ty5.nm:Ty5->String
 | .int => "int"
 | .str => "str"
 | .bool => "bool"
 | .list => "list"
 | .tuple => "tuple"
noncomputable def Qa:Ty5->t6->Bool
 | .int,.int _=>true
 | .int,.bool _=>true
 | .str,.str _=>true
 | .bool,.bool _=>true
 | .list,.list _=>true
 | .tuple,.tuple _=>true
 | _,_=>false
noncomputable def Az1:t6->String
 | .none => "NoneType"
 | .bool _ => "bool"
 | .int _ => "int"
 | .str _ => "str"
 | .list _ => "list"
 | .tuple _ => "tuple"
 | .dict _ => "dict"
theorem Ay9 (s:Same Hf H) (h:RdV Hf H d v):Pb H v=some (Az1 d):=by
 cases d with
 | none=>cases Sg h;rfl
 | bool b=>cases Qo h;rfl
 | int i=>cases Dz h;rfl
 | str x=>cases Gn h;rfl
 | list c=>obtain⟨a,f,rfl,e,_⟩:=Fo h;exact B2m e
 | tuple c=>obtain⟨a,f,rfl,e,_⟩:=Ja s h;exact B1c e
 | dict k=>trivial
theorem As1 (h:RdV Hf H d v) (T:Ty5):Es (Az1 d) T.nm=some (Qa T d):=by
 cases d with
 | none=>cases T <;> first | exact Up | exact Uq | exact Te | exact S8 | exact Rq
 | bool b=>cases T <;> first | exact Al8 | exact Am8 | exact Ag0 | exact Ag7 | exact Yi
 | int i=>cases T <;> first | exact At2 | exact Au2 | exact An3 | exact Ap9 | exact Z9
 | str x=>cases T <;> first | exact Aq8 | exact Aw4 | exact Ak8 | exact Ah5 | exact Ae6
 | list a=>cases T <;> first | exact Ao6 | exact Aj9 | exact Ad5 | exact Aa6 | exact X7
 | tuple a=>cases T <;> first | exact Ae3 | exact Z1 | exact Yb | exact X8 | exact V5
 | dict k=>exact(h).elim
def cUn (op:t6->n6)(f:o8):o8:=fun c=>(f c).bind fun p c=>match Dl c (nrm p) with
 | some d=>match op d with
  | some o=>.ok (.o o) c
  | none=>.bad
 | none=>.bad
def UnS (K:v8)(r:V->Hp->VK->Prop)(op:t6->n6):Prop:=∀(Hf H:Hp) (x:V) (d:t6) (o:O) (Q:VK),Same Hf H->RdV Hf H d x->op d=some o->New K Hf H o Q->r x H Q
theorem Yz (h:ME K t f) (hr:UnS K r op):ME K (tUn r t) (cUn op f):=by
 intro u W c m Q R s
 refine h.toV _ W c _ _ R (s.bnd.mono fun p j a v w e b k=>?_)
 cases ex:Dl j (nrm p) with
 | none=>simp only[ex]at a;trivial
 | some d =>
  simp only[ex]at a
  cases eo:op d with
  | none=>simp only[eo]at a;trivial
  | some o =>
   simp only[eo]at a
   exact hr _ _ v d o Q b.sub (Fd b k ex) eo (New.of b fun v n q i l g=>a v _ _ (e.trans i) l g)
theorem A6z (h:ME K t f) (hr:UnS K (fun x H Q=>r [x] H Q) op):ME K (tCB r (Cm t Gm)) (cUn op f):=Yz h hr
def Dw (T:Ty5)(d:t6):n6:=some (.im (.bool (Qa T d)))
def Qh (T1 T2:Ty5)(d:t6):n6:=some (.im (.bool (Qa T1 d||Qa T2 d)))
theorem Bz1 (T:Ty5) (h:ME K t f):ME K (tCB (Py K) (Cm t (Cm (tC (.ty T.nm)) Gm))) (cUn (Dw T) f) :=
 Yz h fun a H x d o Q s r e n=>by
  cases e
  exact⟨x,T.nm,Az1 d,Qa T d,rfl,Ay9 s r,As1 r T,n.bl s⟩
theorem Bk1 (h1:Es t A=some a) (h2:Es t B=some b):Mr t [A,B]=some (a||b):=by
 unfold Mr;unfold Mr;unfold Mr
 grind
theorem Bl2 (g j:Ty5) (h:ME K t f):ME K (tCB (Kc K) (Cm t (Cm (Bq1 (Cm (tC (.ty g.nm)) (Cm (tC (.ty j.nm)) Gm))) Gm))) (cUn (Qh g j) f) :=
 Yz (r:=fun x H Q=>2<=sizeLine/\∀p,H p=none->Kc K _ _ Q) h fun v H x d o Q s r e n=>by
  cases e
  refine⟨by decide,fun p c=>⟨x,p,[g.nm,j.nm],Az1 d,Qa _ d||Qa _ d,rfl,Ay,?_,Bk1 (As1 r _) (As1 r _),?_⟩⟩
  ·have l:Same _ (upd H p (.tup [.ty g.nm,.ty j.nm])):=Vd s c
   refine Ay9 l ?_
   cases d with
   | list u=>obtain⟨a,m,e,q,t⟩:=r;exact⟨a,m,e,Bo c _ _ q,t⟩
   | none=>exact r
   | bool b=>exact r
   | int i=>exact r
   | str z=>exact r
   | tuple u=>exact r
   | dict k=>exact r
  ·exact n _ _ _ [] ((Stp.newL s c).less fun a z=>nomatch z) (Vd s c) ⟨rfl,rfl⟩
noncomputable def boolsOf:w5->Option (List Bool)
 | []=>some []
 | .bool b::r=>(boolsOf r).map (b::·)
 | _=>none
noncomputable def intsOf:w5->Option (List Int)
 | []=>some []
 | .int b::r=>(intsOf r).map (b::·)
 | _=>none
theorem Ae0:∀{ds:w5}{bs:List Bool}{vs:n7},boolsOf ds=some bs->TrL Hf ds vs->vs=bs.map V.bl
 | [],bs,vs,e,t=>by cases (show some []=some bs from e);exact t
 | .bool b::r,bs,_,e,⟨v,vr,rfl,h,t⟩=>by
  obtain⟨l,e1,rfl⟩:=a_.mp (show (boolsOf r).map (b::·)=some bs from e)
  cases (show v=.bl b from h)
  rw[Ae0 e1 t];rfl
 | .none::r,bs,_,e,_=>nomatch e
 | .int _::r,bs,_,e,_=>nomatch e
 | .str _::r,bs,_,e,_=>nomatch e
 | .list _::r,bs,_,e,_=>nomatch e
 | .tuple _::r,bs,_,e,_=>nomatch e
 | .dict _::r,bs,_,e,_=>nomatch e
theorem A8k:∀{ds:w5}{bs:List Int}{vs:n7},intsOf ds=some bs->TrL Hf ds vs->vs=bs.map V.int
 | [],bs,vs,e,t=>by cases (show some []=some bs from e);exact t
 | .int b::r,bs,_,e,⟨v,vr,rfl,h,t⟩=>by
  obtain⟨l,e1,rfl⟩:=a_.mp (show (intsOf r).map (b::·)=some bs from e)
  cases (show v=.int b from h)
  rw[A8k e1 t];rfl
 | .none::r,bs,_,e,_=>nomatch e
 | .bool _::r,bs,_,e,_=>nomatch e
 | .str _::r,bs,_,e,_=>nomatch e
 | .list _::r,bs,_,e,_=>nomatch e
 | .tuple _::r,bs,_,e,_=>nomatch e
 | .dict _::r,bs,_,e,_=>nomatch e
noncomputable def Ai7:t6->n6
 | .list ds=>(boolsOf ds).map fun bs=>.im (.bool (bs.any id))
 | _=>none
noncomputable def Ah6:t6->n6
 | .list ds=>(boolsOf ds).map fun bs=>.im (.bool (bs.all id))
 | _=>none
noncomputable def An5:t6->n6
 | .list ds=>(intsOf ds).map fun bs=>.im (.int bs.sum)
 | _=>none
theorem Bi4:UnS K (fun x H Q=>Nq K [x] H Q) Ai7:=by
 intro Hf H x d o Q s r e n
 match d,r,e with
 | .list _,r,e =>
  obtain⟨c,f,rfl⟩:=a_.mp (e);obtain⟨a,vs,rfl,b,t⟩:=Fo r
  exact⟨a,c,rfl,by rw[<- Ae0 f t];exact SqL.of b,n.bl s⟩
theorem Bq8:UnS K (fun x H Q=>Nj K [x] H Q) Ah6:=by
 intro Hf H x d o Q s r e n
 match d,r,e with
 | .list _,r,e =>
  obtain⟨c,f,rfl⟩:=a_.mp (show (boolsOf _).map _=some o from e)
  obtain⟨a,vs,rfl,b,t⟩:=Fo r
  exact⟨a,c,rfl,by rw[<- Ae0 f t];exact SqL.of b,n.bl s⟩
theorem Bk9:UnS K (fun x H Q=>M8 K [x] H Q) An5:=by
 intro Hf H x d o Q s r e n
 match d,r,e with
 | .list _,r,e =>
  obtain⟨c,f,rfl⟩:=a_.mp (e);obtain⟨a,vs,rfl,b,t⟩:=Fo r
  exact⟨a,c,rfl,by rw[<- A8k f t];exact SqL.of b,n.int s⟩
noncomputable def Gv:t6->n6
 | .int i=>some (.im (.int i))
 | .bool b=>some (.im (.int (if b then 1 else 0)))
 | _=>none
theorem Br7:UnS K (fun x H Q=>N7 K [x] H Q) Gv:=by
 intro a H x d o Q s r e n
 match d,r,e with
 | .int i,r,e=>cases e;cases Dz r;exact .inl ⟨i,rfl,n.int s⟩
 | .bool b,r,e=>cases e;cases Qo r;exact .inr ⟨b,rfl,n.int s⟩
noncomputable def Az9:t6->n6
 | .int i=>some (.im (.int (if i<0 then -i else i)))
 | _=>none
theorem Bn8:UnS K (fun x H Q=>Qe K [x] H Q) Az9:=by
 intro a H x d o Q s r e n
 match d,r,e with
 | .int i,r,e=>cases e;cases Dz r;exact⟨i,rfl,n.int s⟩
noncomputable def A7q:t6->n6
 | .int i=>some (.im (.int (-i)))
 | _=>none
theorem Bg8:UnS K (rU fun i=>.int (-i)) A7q:=by
 intro a H x d o Q s r e n
 match d,r,e with
 | .int i,r,e=>cases e;cases Dz r;exact⟨i,rfl,n.int s⟩
noncomputable def Hq:t6->n6
 | .list ds=>some (.ls false ds)
 | .tuple ds=>some (.ls false ds)
 | _=>none
theorem Ba5:UnS K (fun x H Q=>J7 K [x] H Q) Hq:=by
 intro Hf H x d o Q s r e n
 match d,r,e with
 | .list _,r,e =>
  cases e
  obtain⟨a,c,rfl,f,t⟩:=Fo r
  exact⟨a,c,rfl,.inl (SqL.of f),fun l b=>n.lst s t b⟩
 | .tuple _,r,e =>
  cases e
  obtain⟨a,c,rfl,f,t⟩:=Ja s r
  exact⟨a,c,rfl,.inr (SqT.of f),fun l b=>n.lst s t b⟩
def B1x (K:v8):n7->Hp->VK->Prop:=fun xs H Q=>(Vq K xs H Q\/Al6 K xs H Q)\/Ud K xs H Q
noncomputable def isSeq:t6->Bool
 | .list _=>true
 | .tuple _=>true
 | _=>false
noncomputable def Ay5:t6->n6
 | .int i=>if i.natAbs.log2<1920 then some (.im (.str (toString i))) else none
 | .none=>some (.im (.str "None"))
 | .bool b=>some (.im (.str (if b then Str.ofString "True" else Str.ofString "False")))
 | .str x=>some (.im (.str x))
 | d=>if isSeq d&&(d.showable&&(!d.hasDict&&(decide (d.depth<=40)&&decide (d.shown.length<=sizeLine)))) then some (.im (.str d.shown)) else none
theorem Bi6:UnS K (fun x H Q=>B1x K [x] H Q) Ay5:=by
 intro h H x d o Q s r e n
 have c:∀d,RdV h H d x->(isSeq d=true->∃a,x=.ref a)->(if isSeq d&&(d.showable&&(!d.hasDict&&(decide (d.depth<=40)&&decide (d.shown.length<=sizeLine)))) then some (O.im (.str d.shown)) else none)=some o->B1x K [x] H Q:=fun d r g e=>by
  split at e
  ·rename_i l
   simp at l
   cases e
   obtain⟨a,rfl⟩:=g l.1;exact .inl (.inr ⟨a,d,rfl,r.tr s,l.2.1,l.2.2.1,l.2.2.2.1,l.2.2.2.2,n.str s⟩)
  ·cases e
 match d,r,e with
 | .int i,r,e =>
  have e:(if i.natAbs.log2<1920 then some _ else none)=some o:=e
  split at e
  ·rename_i l
   cases e;cases Dz r;exact .inl (.inl ⟨i,rfl,l,n.str s⟩)
  ·cases e
 | .list _,r,e=>exact c _ r (fun _=>by obtain⟨b,f,e,_⟩:=Fo r;exact⟨b,e⟩) e
 | .tuple _,r,e=>exact c _ r (fun _=>by obtain⟨b,f,e,_⟩:=Ja s r;exact⟨b,e⟩) e
 | .none,r,e=>cases e;cases Sg r;exact .inr ⟨_,_,rfl,rfl,n.str s⟩
 | .bool b,r,e=>cases e;cases Qo r;exact .inr ⟨_,_,rfl,rfl,n.str s⟩
 | .str z,r,e=>cases e;cases Gn r;exact .inr ⟨_,_,rfl,rfl,n.str s⟩
 | .dict _,r,e=>exact c _ r (fun z=>nomatch z) e
noncomputable def Av8:t6->t6->n6
 | .int i,.int j=>some (.im (.int (if j<i then j else i)))
 | _,_=>none
theorem Br6 {c d:TE} (ha:ME K c fa) (hb:ME K d fb):ME K (tCB (Nm K) (Cm c (Cm d Gm))) (cOp Av8 fa fb) :=
 A9d ha hb fun h H x y g f o Q s a b e n=>by
  match g,f,a,b,e with
  | .int i,.int j,a,b,e=>cases e;cases Dz a;cases Dz b;exact⟨i,j,rfl,n.int s⟩
def MO (K:v8)(T:TO)(f:Ev->R (q9)):Prop:=∀(β:Nat->V) (W:Wo) (c:Ev) (σ:St) (Q:q9->Hp->Prop),Rep K β W c σ ->
 (f c).sat (fun b c'=>∀W',Stp W.S W.Hf W.H W'.S W'.Hf W'.H->Rep K β W' c' σ->Q b W'.H)->T σ W.H Q
noncomputable def cON:Ev->R (q9):=fun c=>.ok none c
theorem Bg7:MO K A1k cON:=fun b W c a Q R s=>s W Stp.refl R
def cOS (f:o8):Ev->R (q9):=fun c=>(f c).bind fun p c=>match Dl c (nrm p) with
 | some (.int i)=>.ok (some i) c
 | _=>.bad
theorem Bp8 (h:ME K t f):MO K (Bt5 t) (cOS f):=by
 intro g W c k Q R s
 refine h.toV _ W c _ _ R (s.bnd.mono fun p l a v j b d e=>?_)
 match ex:Dl _ _,a with
 | some (.int i),a=>exact⟨i,Dz (Fd d e ex),a _ b d⟩
 | some .none,a=>exact a.elim
 | some (.bool _),a=>exact a.elim
 | some (.str _),a=>exact a.elim
 | some (.list _),a=>exact a.elim
 | some (.tuple _),a=>exact a.elim
 | some (.dict _),a=>exact a.elim
 | none,a=>exact a.elim
def SlS (K:v8)(r:V->q9->q9->Hp->VK->Prop)(op:t6->q9->q9->n6):Prop:=∀(Hf H:Hp) (x:V) (lo hi:q9) (d:t6) (o:O) (Q:VK),Same Hf H->RdV Hf H d x->op d lo hi=some o->New K Hf H o Q->r x lo hi H Q
def cSl (op:t6->q9->q9->n6)(f:o8)(fl fh:Ev->R (q9)):o8:=fun c=>(f c).bind fun p c=>(fl c).bind fun lo c=>(fh c).bind fun hi c=>match Dl c (nrm p) with
 | some d=>match op d lo hi with
  | some o=>.ok (.o o) c
  | none=>.bad
 | none=>.bad
theorem B4a (h:ME K j f) (hl:MO K l k) (u:MO K m n) (hr:SlS K r op):ME K (tSl r j l m) (cSl op f k n):=by
 intro P W c G Q R s
 refine h.toV _ W c _ _ R (s.bnd.mono fun p I D v N g w x=>?_)
 refine hl _ _ _ _ _ w (D.bnd.mono fun z F A J a B=>?_)
 refine u _ _ _ _ _ B (A.bnd.mono fun t y b H e i=>?_)
 cases ex:Dl y (nrm p) with
 | none=>simp only[ex]at b;trivial
 | some d =>
  simp only[ex]at b
  cases eo:op d z t with
  | none=>simp only[eo]at b;trivial
  | some o =>
   simp only[eo]at b
   exact hr _ _ v _ _ d o Q i.sub (Fd i (RepA.same (a.trans e).fz x) ex) eo (New.of i fun v L M C E q=>b v _ _ (g.trans (a.trans (e.trans C))) E q)
end
section
variable {K:v8}{X:Cx}{Hf H:Hp}{Q:VK}{β:Nat->V}{W:Wo}{c c':Ev}{σ:St}{v:V}
def rSL (K:v8):V->q9->q9->Hp->VK->Prop:=fun x lo hi H Q=>(B5o K x lo hi H Q\/(B4d K x lo hi H Q\/Bv4 K x lo hi H Q))\/B4m x lo hi H Q
theorem B1t:SlR X (rSL X.K):=SlR.or (SlR.or Br2 (SlR.or Bx0 Bk7)) By2
noncomputable def Xz:t6->q9->q9->n6
 | .list ds,lo,hi=>some (.ls false (cutD ds lo hi))
 | .tuple ds,lo,hi=>some (.im (.tuple (cutD ds lo hi)))
 | .str z,lo,hi=>if z.length<=16000000 then some (.im (.str (Txt.slice z lo hi))) else none
 | _,_,_=>none
theorem Bq6:SlS K (rSL K) Xz:=by
 intro Hf H x f c d o Q s r e n
 match d,r,e with
 | .list ds,r,e =>
  cases e
  obtain⟨a,b,rfl,g,t⟩:=Fo r
  exact .inl (.inl ⟨a,b,rfl,SqL.of g,fun p h=>n.lst s (TrL.cut t) h⟩)
 | .str z,r,e =>
  by_cases hz:z.length<=16000000
  ·rw[show Xz (.str z) f c=some (.im (.str (Txt.slice z f c))) by simp only[Xz];rw[if_pos hz]]at e
   cases e
   exact .inr ⟨z,r,au hz (by decide),n.same s rfl⟩
  ·rw[show Xz (.str z) f c=none by simp only[Xz];rw[if_neg hz]]at e;cases e
 | .tuple ds,r,e =>
  cases e
  obtain⟨a,b,rfl,g,t⟩:=Ja s r
  by_cases w:HT.sIx b.length 0 f=0/\HT.sIx b.length b.length c=b.length
  ·refine .inl (.inr (.inr ⟨a,b,rfl,SqT.of g,w,?_⟩))
   have e:cutD ds f c=ds:=by
    unfold cutD;rw[t.length,w.1,w.2,iy,eX,<- t.length,dz]
   rw[e]at n;exact n.same s r
  ·exact .inl (.inr (.inl ⟨a,b,rfl,SqT.of g,w,fun p h=>n.tup s (TrL.cut t) h⟩))
def Az (f:o8):o7:=fun c=>(f c).bind fun p c=>match Dl c (nrm p) with
 | some (.bool b)=>.ok b c
 | _=>.bad
theorem Ou (h:ME K t f):MT K (N5 t) (Az f):=by
 intro g W c k Q R s
 refine h.toV _ W c _ _ R (s.bnd.mono fun p l a v j b d e=>?_)
 match ex:Dl _ _,a with
 | some (.bool i),a=>exact⟨i,Qo (Fd d e ex),a _ b d⟩
 | some .none,a=>exact a.elim
 | some (.int _),a=>exact a.elim
 | some (.str _),a=>exact a.elim
 | some (.list _),a=>exact a.elim
 | some (.tuple _),a=>exact a.elim
 | some (.dict _),a=>exact a.elim
 | none,a=>exact a.elim
theorem B6p (h:ME K t f):MT K (tB t) (Az f):=Ou h
noncomputable def Av:o7:=fun c=>.ok true c
theorem B1d:MT K Bo1 Av:=fun b W c a Q R s=>s W Stp.refl R
def A3f (f g:o7):o7:=fun c=>(f c).bind fun b c=>if b=true then g c else .ok false c
def cOr (f g:o7):o7:=fun c=>(f c).bind fun b c=>if b=true then .ok true c else g c
def Bk2 (f:o7):o7:=fun c=>(f c).bind fun b c=>.ok (!b) c
theorem B2r (h1:MT K t f) (h2:MT K u g):MT K (B5x t u) (A3f f g):=fun n W c p Q R s =>
 h1 _ W c _ _ R (s.bnd.mono fun b l h k a e=>by
  cases b with
  | true=>exact h2 _ _ _ _ _ e (h.mono fun b m j o d i=>j _ (a.trans d) i)
  | false=>exact h _ a e)
theorem B6f (h1:MT K t f) (h2:MT K u g):MT K (tOr t u) (cOr f g):=fun n W c p Q R s =>
 h1 _ W c _ _ R (s.bnd.mono fun b l h k a e=>by
  cases b with
  | false=>exact h2 _ _ _ _ _ e (h.mono fun b m j o d i=>j _ (a.trans d) i)
  | true=>exact h _ a e)
theorem B2q (h1:MT K t f):MT K (B6g t) (Bk2 f):=fun h W c g Q R s =>
 h1 _ W c _ _ R (s.bnd.mono fun b j e i a d=>e _ a d)
theorem A1w {d:Wo}(R:Rep K β W c σ) (st:Stp d.S d.Hf d.H W.S W.Hf W.H) (s:∀v a e,Stp d.S d.Hf d.H (orS a.S e) a.Hf a.H->Rep K β a c σ->Gi K a σ (.o (.im (.bool b))) v e->Q v a.H):Q (.bl b) W.H :=
 R.here (o:=.im (.bool b)) rfl rfl fun v a e f g r=>s v _ _ (st.trans f) g r
def Vn (f g:o8):o8:=fun c=>(Az f c).bind fun b c=>if b=true then g c else .ok (.o (.im (.bool false))) c
def Bg0 (f:o8):o8:=fun c=>(Az f c).bind fun b c=>.ok (.o (.im (.bool (!b)))) c
def Bk4 (ft:o7)(f g:o8):o8:=fun c=>(ft c).bind fun b c=>if b=true then f c else g c
theorem Wu {r:U.R PV}{b:Wo}(s:r.sat fun p c'=>∀v a d,Stp b.S b.Hf b.H (orS a.S d) a.Hf a.H->Rep K β a c' σ->Gi K a σ p v d->Q v a.H)(st:Stp b.S b.Hf b.H W.S W.Hf W.H) :
 r.sat fun p c'=>∀v a d,Stp W.S W.Hf W.H (orS a.S d) a.Hf a.H->Rep K β a c' σ->Gi K a σ p v d->Q v a.H:=s.mono fun p c k v a d e R r=>k v _ _ (st.trans e) R r
theorem Bt1 (h1:ME K h f) (h2:ME K e g):ME K (Bt9 h e) (Vn f g):=by
 intro k W c j Q R s
 refine Ou h1 _ W c _ _ R (s.bnd.mono fun b m i l a d=>?_)
 cases b with
 | true=>exact h2 _ _ _ _ _ d (Wu i a)
 | false=>exact A1w d a i
theorem Bk5 (h1:ME K d f):ME K (Bv8 d) (Bg0 f):=by
 intro k W c h Q R s
 exact Ou h1 _ W c _ _ R (s.bnd.mono fun b i g j a e=>A1w e a g)
theorem By9 (ht:MT K i ft) (h1:ME K e f) (h2:ME K h g):ME K (tIf i e h) (Bk4 ft f g):=by
 intro l W c k Q R s
 refine ht _ W c _ _ R (s.bnd.mono fun b n j m a d=>?_)
 cases b with
 | true=>exact h1 _ _ _ _ _ d (Wu j a)
 | false=>exact h2 _ _ _ _ _ d (Wu j a)
def Ar (f:o8):Ev->R (w5):=fun c=>(f c).bind fun p c=>(frz (nrm p) c).bind fun d c=>match d with
 | .list ds=>.ok ds c
 | .tuple ds=>.ok ds c
 | _=>.bad
theorem Bo9 (ha:Hf a=some (.lst vs)) (t:TrL Hf ds vs):A4d (Itl K a) Hf ds:=by
 intro i c H f g;have b:=g _ _ (f _ _ ha)
 refine⟨fun e=>⟨vs,SqL.of b,by rw[<- t.length];lia⟩,fun d j=>?_⟩
 obtain⟨v,h,k⟩:=t.got j
 refine⟨⟨vs,v,SqL.of b,h⟩,fun x l ⟨e,q⟩=>?_⟩
 subst e;have:=q _ (SqL.of b);rw[h]at this
 cases this
 exact⟨c,Stp.refl,g,Tr.same f k⟩
theorem B2l (ha:Hf a=some (.tup vs)) (t:TrL Hf ds vs):A4d (Itt K a) Hf ds:=by
 intro i c H f g;have b:=g _ _ (f _ _ ha)
 refine⟨fun e=>⟨vs,SqT.of b,by rw[<- t.length];lia⟩,fun d j=>?_⟩
 obtain⟨v,h,k⟩:=t.got j
 refine⟨⟨vs,v,SqT.of b,h⟩,fun x l ⟨e,q⟩=>?_⟩
 subst e;have:=q _ (SqT.of b);rw[h]at this
 cases this
 exact⟨c,Stp.refl,g,Tr.same f k⟩
theorem B0x (h:ME K t f):MI K (B3d K t) (Ar f):=by
 intro w W c B k R s
 refine h.toV _ W c _ _ R (s.bnd.mono fun p A r v x l u q=>?_)
 obtain⟨d,y,z,_,b,o,i,m,e⟩:=Fj u q r.bnd;rw[<- o]
 match d,e,b with
 | .list _,e,b =>
  obtain⟨a,n,g,j,t⟩:=e;exact⟨a,g,.inl ⟨n,m.sub _ _ j,b _ _ (l.trans i) m (Bo9 j t)⟩⟩
 | .tuple _,e,b =>
  obtain⟨a,n,g,j,t⟩:=e;exact⟨a,g,.inr ⟨n,m.sub _ _ j,b _ _ (l.trans i) m (B2l j t)⟩⟩
 | .none,e,b=>exact b.elim
 | .bool _,e,b=>exact b.elim
 | .int _,e,b=>exact b.elim
 | .str _,e,b=>exact b.elim
 | .dict _,e,b=>trivial
noncomputable def Rh (lo:Int)(n:Nat):w5:=(List.range n).map fun k=>.int (lo+(k:Nat))
theorem B3a : A4d (Itr lo n) Hf (Rh lo n):=by
 intro i b H g f
 have l:(Rh lo n).length=n:=by unfold Rh;simp_all
 refine⟨fun e=>by show n<=i;lia,fun d a=>?_⟩
 have c:i<n:=by
  grind
 refine⟨c,fun x h ⟨e,q⟩=>?_⟩
 subst e;unfold Rh at a;rw[bD,List.getElem?_range c]at a
 cases a
 exact⟨b,Stp.refl,f,q⟩
def Xg (f:o8):Ev->R (w5):=fun c=>(f c).bind fun p c=>match Dl c (nrm p) with
 | some (.int j)=>if j<=16000000/\-16000000<=j then .ok (Rh 0 j.toNat) c else .bad
 | _=>.bad
theorem Bo5 (h:ME K t f):MI K (Bv9 (Cm t Gm)) (Xg f):=by
 intro g W c m k R s
 refine h.toV _ W c _ _ R (s.bnd.mono fun p n a v i b d e=>?_)
 match ex:Dl _ _,a with
 | some (.int j),a =>
  cases Dz (Fd d e ex)
  by_cases l:j<=16000000/\-16000000<=j
  ·have a:(if j<=16000000/\-16000000<=j then U.R.ok _ _ else .bad).sat _:=a
   rw[if_pos l]at a
   exact⟨j,rfl,by lia,by lia,a _ _ b d B3a⟩
  ·have a:(if j<=16000000/\-16000000<=j then U.R.ok _ _ else .bad).sat _:=a
   rw[if_neg l]at a;trivial
 | some .none,a=>exact a.elim
 | some (.bool _),a=>exact a.elim
 | some (.str _),a=>exact a.elim
 | some (.list _),a=>exact a.elim
 | some (.tuple _),a=>exact a.elim
 | some (.dict _),a=>exact a.elim
 | none,a=>exact a.elim
noncomputable def Aa5 (d:Option t6):q9:=match d with
 | some (.int i)=>some i
 | _=>none
theorem Ab0 (h:Aa5 d=some i):d=some (.int i):=by
 unfold Aa5 at h
 grind
noncomputable def Fl:t6->Option (w5)
 | .list ds=>some ds
 | .tuple ds=>some ds
 | _=>none
theorem V3 (h:Fl d=some ds) (t:Tr Hf d v):∃b a c,v=.ref a/\SqK b Hf a c/\TrL Hf ds c:=by
 cases d with
 | list l=>cases h;obtain⟨a,c,e,f,t⟩:=t;exact⟨false,a,c,e,f,t⟩
 | tuple l=>cases h;obtain⟨a,c,e,f,t⟩:=t;exact⟨true,a,c,e,f,t⟩
 | none=>cases h
 | bool _=>cases h
 | int _=>cases h
 | str _=>cases h
 | dict _=>cases h
theorem Gr {c:Hp}(S:Same Hf c) (h:SqK b Hf a vs):SqK b c a vs:=by
 cases b
 ·exact S _ _ h
 ·exact S _ _ h
noncomputable def Io (xs ys:w5):w5:=(xs.zip ys).map fun p=>.tuple [p.1,p.2]
theorem B1f (ha:SqK t1 Hf a vs) (hb:SqK t2 Hf b us) (t:TrL Hf xs vs) (u:TrL Hf ys us):A4d (Itz t1 t2 a b) Hf (Io xs ys):=by
 intro i B H j f;have m:=Gr (j.trans f) ha;have k:=Gr (j.trans f) hb
 have l:(Io xs ys).length=min xs.length ys.length:=by unfold Io;simp_all
 refine⟨fun e=>⟨vs,us,m,k,by rw[<- t.length,<- u.length,e];lia⟩,fun d x=>?_⟩
 obtain⟨p,n,e⟩:=Cw x;rw[jc]at n;obtain⟨h,r,v⟩:=t.got n.1;obtain⟨c,s,w⟩:=u.got n.2
 refine⟨⟨vs,us,h,c,m,k,r,s⟩,fun z H' y=>?_⟩
 obtain⟨p,x',y',rfl,g,rfl,A,C⟩:=y;have:=A _ m;rw[r]at this;cases this;have:=C _ k;rw[s]at this;cases this;subst e;have q:=Bo (o:=.tup [h,c]) (Same.free f g);exact⟨upd _ p _,Stp.newF f g,Kp f,p,[h,c],rfl,Ay,h,[c],rfl,Tr.same q (Tr.same j v),c,[],rfl,Tr.same q (Tr.same j w),rfl⟩
def Ax3 (f g:o8):Ev->R (w5):=fun c=>(f c).bind fun p c=>(g c).bind fun q c=>(frz (nrm p) c).bind fun x c=>(frz (nrm q) c).bind fun y c=>match Fl x,Fl y with
 | some xs,some ys=>.ok (Io xs ys) c
 | _,_=>.bad
theorem B3m (h:ME K t f) (h':ME K u g):MI K (B3v (Cm t (Cm u Gm))) (Ax3 f g):=by
 intro β W c σ k R s
 refine h.toV _ W c _ _ R (s.bnd.mono fun p c1 G v1 W1 l P v=>?_)
 refine h'.toV _ _ _ _ _ P (G.bnd.mono fun q c2 w v2 W2 i A B=>?_)
 obtain⟨x,c3,W3,_,C,D,e,E,F⟩:=Fj A (RepA.same i.fz v) w.bnd;obtain⟨y,c4,W4,_,j,r,d,m,I⟩:=Fj E (RepA.same e.fz B) C.bnd
 cases ex:Fl x with
 | none=>simp only[ex]at j;trivial
 | some xs =>
  cases ey:Fl y with
  | none=>simp only[ex,ey]at j;trivial
  | some ys =>
   simp only[ex,ey]at j;obtain⟨J,a,L,rfl,H,N⟩:=V3 ex F;obtain⟨M,b,O,rfl,n,o⟩:=V3 ey I;rw[<- D,<- r];have z:=Gr d.fz H;exact⟨a,b,rfl,J,M,L,O,Gr m.sub z,Gr m.sub n,j _ _ (l.trans (i.trans (e.trans d))) m (B1f z n (TrL.same d.fz N) o)⟩
noncomputable def Hv (xs:w5):w5:=(List.range xs.length).map fun k=>.tuple [.int (k:Nat),xs.getD k .none]
theorem Bo0 (ha:SqK t Hf a vs) (u:TrL Hf xs vs):A4d (Ite t a) Hf (Hv xs):=by
 intro i v H j f;have h:=Gr (j.trans f) ha
 have l:(Hv xs).length=xs.length:=by unfold Hv;simp_all
 refine⟨fun e=>⟨vs,h,by rw[<- u.length];lia⟩,fun d g=>?_⟩
 have n:i<xs.length:=by
  grind
 unfold Hv at g;rw[bD,List.getElem?_range n]at g
 cases g
 have q:xs[i]?=some (xs.getD i .none):=by grind
 obtain⟨b,k,r⟩:=u.got q
 refine⟨⟨vs,b,h,k⟩,fun z H' s=>?_⟩
 obtain⟨p,x',rfl,c,rfl,m⟩:=s;have:=m _ h;rw[k]at this;cases this;exact⟨upd _ p _,Stp.newF f c,Kp f,p,[.int i,b],rfl,Ay,.int i,[b],rfl,rfl,b,[],rfl,Tr.same (Bo (o:=.tup [.int i,b]) (Same.free f c)) (Tr.same j r),rfl⟩
def Kg (f:o8):Ev->R (w5):=fun c=>(f c).bind fun p c=>(frz (nrm p) c).bind fun x c=>match Fl x with
 | some xs=>.ok (Hv xs) c
 | _=>.bad
theorem Bm5 (h:ME K t f):MI K (Bu4 (Cm t Gm)) (Kg f):=by
 intro β W c σ k R s
 refine h.toV _ W c _ _ R (s.bnd.mono fun p c1 u v1 W1 e n q=>?_)
 obtain⟨x,c3,W3,_,b,l,d,g,o⟩:=Fj n q u.bnd
 cases ex:Fl x with
 | none=>simp only[ex]at b;trivial
 | some xs =>
  simp only[ex]at b;obtain⟨m,a,r,rfl,i,j⟩:=V3 ex o;rw[<- l];exact⟨a,rfl,m,r,Gr g.sub i,b _ _ (e.trans d) g (Bo0 i j)⟩
end
section
variable {K:v8}{X:Cx}{Hf H:Hp}{Q:VK}{β:Nat->V}{W W':Wo}{c:Ev}{σ:St}{v:V}{p:PV}{fp:v5}{i:Nat}{b:Bool}{ds:w5}
theorem B2b (R:Rep K β W c σ)(r:Gi K W σ p v fp):∃W',W'.H=W.H/\Stp (orS W.S fp) W.Hf W.H W'.S W'.Hf W'.H/\Rep K β W' c σ/\RepA K W'.Hf σ (nrm p) v:=by
 have f:Stp (orS W.S fp) W.Hf W.H _ _ _:=Stp.refl.up fun a z=>.inl z
 cases p with
 | sl i=>exact⟨W,rfl,f,R,r.2⟩
 | o o =>
  cases o with
  | im d=>exact⟨W,rfl,f,R,r.1.2⟩
  | sc d=>exact⟨W,rfl,f,R,r.1.2⟩
  | ty d=>exact⟨W,rfl,f,R,r.1.2⟩
  | ls b ds =>
   obtain⟨⟨a,h,rfl,rfl,g,j,t⟩,l⟩:=r
   refine⟨⟨upd _ a _,W.H,W.fps⟩,rfl,⟨Bo g,fun b o e _=>e,fun b o e mu n q=>?_,fun b z=>.inl (.inl z)⟩,Aa8 R g j (l a (.head _)),a,h,rfl,Ay,TrL.same (Bo g) t⟩
   have k:b≠a:=fun z=>n (.inr (by grind))
   show upd _ a _ b=none
   rw[Ai k];grind
theorem Rep.mut (R:Rep K β W c σ)(hc:c[i]?=some (some (.ls b ds)))(hv:σ[i]?=some (some v)):∃a h,v=.ref a/\W.H a=some (.lst h)/\TrL W.Hf ds h /\
 ∀f d,TrL W.Hf f d->Rep K β ⟨W.Hf,upd W.H a (.lst d),W.fps⟩ (c.set i (some (.ls b f))) σ/\Stp W.S W.Hf W.H W.S W.Hf (upd W.H a (.lst d)):=by
 obtain⟨m,p,⟨a,h,rfl,w,A,H,t⟩,B⟩:=R.get i _ hc
 cases (show some _=some _ from p.symm.trans hv)
 have D:i<c.length:=by
  grind
 have s:a∈W.fps i:=by rw[w];exact .head _
 refine⟨a,h,rfl,H,t,fun f d F=>⟨⟨fun b u e=>?_,by rw[bV];exact R.len,fun j o e=>?_,R.dis,fun j x g=>?_⟩,⟨Same.refl _,fun x o e n=>?_,fun x o e r n q=>q,fun x z=>.inl z⟩⟩⟩
 ·have E:b≠a:=fun z=>by rw[z,A]at e;cases e
  show upd _ a _ b=_
  rw[Ai E];exact R.sub b u e
 ·by_cases z:j=i
  ·subst z
   rw[cB D]at e
   cases e
   exact⟨.ref a,p,⟨a,d,rfl,w,A,Ay,F⟩,B⟩
  ·rw[cL fun y=>z y.symm]at e
   obtain⟨m,k,G,l⟩:=R.get j o e
   refine⟨m,k,G.mono (Same.refl _) fun x g=>⟨(R.own j x g).1,?_⟩,l⟩
   show upd _ a _ x=_
   rw[Ai];intro q;rw[q]at g;exact z (R.dis j i a g s)
 ·obtain⟨I,o,C,r⟩:=R.own j x g
  refine⟨I,?_⟩
  by_cases z:x=a
  ·exact⟨.lst _,by rw[z];exact Ay,trivial⟩
  ·exact⟨o,by show upd _ a _ x=_;rw[Ai z];exact C,r⟩
 ·rw[Ai]
  ·exact e
  ·intro z;exact n ⟨i,by rw[z];exact s⟩
noncomputable def slL (c:Ev)(p:PV):Option (Nat×Bool×w5):=match p with
 | .sl i=>match c[i]? with
  | some (some (.ls b ds))=>some (i,b,ds)
  | _=>none
 | _=>none
theorem Aa4 (h:slL c p=some x):p=.sl x.1/\c[x.1]?=some (some (.ls x.2.1 x.2.2)):=by
 unfold slL at h
 grind
def Us (fo fe:o8):o8:=fun c=>(fo c).bind fun p c=>if (slL c (nrm p)).isSome=true then (fe c).bind fun q c=>(frz (nrm q) c).bind fun d c=>match slL c (nrm p) with
 | some (i,b,ds)=>if ds.length<16000000 then .ok (.o (.im .none)) (c.set i (some (.ls b (ds++[d])))) else .bad
 | none=>.bad
 else .bad
theorem A7c {b:Wo}(R:Rep K β W c σ)(st:Stp b.S b.Hf b.H W.S W.Hf W.H)(s:∀v a d,Stp b.S b.Hf b.H (orS a.S d) a.Hf a.H->Rep K β a c σ->Gi K a σ (.o (.im .none)) v d->Q v a.H):Q .non W.H :=
 R.here (o:=.im .none) rfl rfl fun v a d e f r=>s v _ _ (st.trans e) f r
theorem ty_list (R:Rep K β W c σ)(h:(slL c p).isSome=true)(r:RepA K W.Hf σ p v):tyV K "list" v W.H:=by
 obtain⟨x,d⟩:=Option.isSome_iff_exists.mp h;obtain⟨rfl,e⟩:=Aa4 d;obtain⟨a,f,rfl,b,_⟩:=R.mut e r;exact .inl ⟨rfl,f,SqL.of b⟩
theorem B3l {v fe:o8}(ho:ME K u v) (he:ME K o fe):ME K (tBM K "list" rAppF u (Cm o Gm)) (Us v fe):=by
 intro β W c σ Q R s
 refine ho.toV _ W c _ _ R (s.bnd.mono fun p y f v1 W1 h r j=>?_)
 by_cases hs:(slL y (nrm p)).isSome=true
 ·rw[if_pos hs]at f
  refine⟨ty_list r hs j,he.toV _ _ _ _ _ r (f.bnd.mono fun q c2 D H W2 m z w=>?_)⟩
  obtain⟨d,A,W3,_,e,C,n,E,F⟩:=Fj z w D.bnd
  cases ex:slL A (nrm p) with
  | none=>simp only[ex]at e;exact e.elim
  | some x =>
   simp only[ex]at e;obtain⟨i,b,G⟩:=x;obtain⟨B,I⟩:=Aa4 ex;rw[B]at j;obtain⟨a,J,rfl,L,t,k⟩:=E.mut I j
   by_cases l:G.length<16000000
   ·rw[if_pos l]at e
    obtain⟨M,g⟩:=k _ _ (t.app (TrL.one F));rw[<- C]
    refine⟨a,H,J,rfl,rfl,L,by rw[<- t.length];exact Nat.lt_trans l (by decide),?_⟩
    exact A7c M (h.trans (m.trans (n.trans g))) e
   ·rw[if_neg l]at e;exact e.elim
 ·rw[if_neg hs]at f;exact f.elim
def Pr (fo fe:o8):o8:=fun c=>(fo c).bind fun p c=>if (slL c (nrm p)).isSome=true then (fe c).bind fun q c=>match slL c (nrm p),Aa5 (Dl c (nrm q)) with
 | some (i,b,ds),some k=>if ds.length<=16000000 then match ixN ds.length k with
  | some j=>match ds[j]? with
   | some d=>.ok (.o (.im d)) (c.set i (some (.ls b (ds.eraseIdx j))))
   | none=>.bad
  | none=>.bad
  else .bad
 | _,_=>.bad
 else .bad
theorem TrL.erase:∀{ds:w5}{vs:n7}(n:Nat),TrL Hf ds vs->TrL Hf (ds.eraseIdx n) (vs.eraseIdx n)
 | [],_,n,h=>by cases (show _=[] from h);exact rfl
 | d::ds,_,0,⟨v,r,rfl,_,t⟩=>t
 | d::ds,_,n+1,⟨v,r,rfl,q,t⟩=>⟨v,r.eraseIdx n,rfl,q,TrL.erase n t⟩
theorem TrL.setAt:∀{ds:w5}{vs:n7}(n:Nat) {d:t6}{v:V},TrL Hf ds vs->Tr Hf d v->TrL Hf (ds.set n d) (vs.set n v)
 | [],_,n,d,v,h,_=>by cases (show _=[] from h);exact rfl
 | e::ds,_,0,d,v,⟨u,r,rfl,_,t⟩,q=>⟨v,r,rfl,q,t⟩
 | e::ds,_,n+1,d,v,⟨u,r,rfl,h,t⟩,q=>⟨u,r.set n v,rfl,h,TrL.setAt n t q⟩
theorem Bf4 (ho:ME K z G) (he:ME K F fe):ME K (tBM K "list" rPopAt z (Cm F Gm)) (Pr G fe):=by
 intro B W c H Q R s
 refine ho.toV B W c H _ R (s.bnd.mono fun p O g v1 W1 n A w=>?_)
 by_cases hs:(slL O (nrm p)).isSome=true
 ·rw[if_pos hs]at g
  refine⟨ty_list A hs w,he.toV B _ _ _ _ A (g.bnd.mono fun q D e v2 W2 h E I=>?_)⟩
  cases ex:slL D (nrm p) with
  | none=>simp only[ex]at e;exact e.elim
  | some x =>
   obtain⟨i,b,l⟩:=x
   cases ey:Aa5 (Dl D (nrm q)) with
   | none=>simp only[ex,ey]at e;exact e.elim
   | some k =>
    simp only[ex,ey]at e
    by_cases hl:l.length<=16000000
    case neg=>rw[if_neg hl]at e;exact e.elim
    rw[if_pos hl]at e
    cases ej:ixN l.length k with
    | none=>simp only[ej]at e;exact e.elim
    | some j =>
     simp only[ej]at e
     cases ed:l[j]? with
     | none=>simp only[ed]at e;exact e.elim
     | some d =>
      simp only[ed]at e;obtain⟨L,N⟩:=Aa4 ex;rw[L]at w
      cases Dz (Fd E I (Ab0 ey))
      obtain⟨a,C,rfl,P,t,S⟩:=E.mut N w;obtain⟨y,M,U⟩:=t.got ed;obtain⟨T,q2,q3,q4⟩:=Aa2 ej;obtain⟨V,m⟩:=S _ _ (TrL.erase j t)
      have u:seqIndex? k C.length=some j:=by rw[<- t.length];exact T
      have f:-2 ^ 63<=k/\k<2 ^ 63:=by lia
      refine⟨a,C,k,j,y,rfl,rfl,P,f.1,f.2,u,M,?_⟩
      exact V.here (o:=.im d) U rfl fun v W' fp X J r=>e v _ _ (n.trans (h.trans (m.trans X))) J r
 ·rw[if_neg hs]at g;exact g.elim
def Za (fo fi:o8):p8:=fun p c=>(frz (nrm p) c).bind fun d c=>(fo c).bind fun o c=>(fi c).bind fun q c=>match slL c (nrm o),Aa5 (Dl c (nrm q)) with
 | some (i,b,ds),some k=>match ixN ds.length k with
  | some j=>.ok () (c.set i (some (.ls b (ds.set j d))))
  | none=>.bad
 | _,_=>.bad
theorem B3c (ho:ME K u A) (hi:ME K z fi):MG K (B5m u z Bu0) (Za A fi):=by
 intro β W c σ p v fp k R r s;obtain⟨W0,M,l,C,F⟩:=B2b R r;obtain⟨d,c1,W1,_,D,E,n,G,I⟩:=Fj C F s.bnd;rw[<- M,<- E]
 refine ho.toV _ _ _ _ _ G (D.bnd.mono fun o c2 J v2 W2 g L w=>?_)
 refine hi.toV _ _ _ _ _ L (J.bnd.mono fun q y e v3 W3 f B N=>?_)
 cases ex:slL y (nrm o) with
 | none=>simp only[ex]at e;exact e.elim
 | some x =>
  obtain⟨i,b,O⟩:=x
  cases ey:Aa5 (Dl y (nrm q)) with
  | none=>simp only[ex,ey]at e;exact e.elim
  | some m =>
   simp only[ex,ey]at e
   cases ej:ixN O.length m with
   | none=>simp only[ej]at e;exact e.elim
   | some j =>
    simp only[ej]at e;obtain⟨H,Q⟩:=Aa4 ex;rw[H]at w
    cases Dz (Fd B N (Ab0 ey))
    obtain⟨a,S,rfl,P,t,T⟩:=B.mut Q w;obtain⟨U,h⟩:=T _ _ (TrL.setAt j t (Tr.same (g.trans f).fz I))
    refine⟨a,S,m,j,rfl,rfl,P,by rw[<- t.length];exact ej,?_⟩
    exact e _ _ (l.trans (n.trans (g.trans (f.trans h)))) U
def Bi3 (i j:Nat)(f:o6):Ev->SR:=fun c=>(f c).toS fun ps c=>(frzs ps c).toS fun ds c=>match ds with
 | [x,y]=>.nx ((c.set i (some (.im x))).set j (some (.im y)))
 | _=>.bad
theorem Bh0 (h:Wo.S ⟨W.Hf,W.H,clr W.fps i⟩ a):W.S a:=B0g h
theorem B1a (h:MA K m f):MS K (Bx6 i j m) (Bi3 i j f):=by
 intro β W c σ D R l
 refine h _ W c _ _ R ((Iw l).mono fun ps c1 C vs W1 k t w=>?_)
 obtain⟨A,c2,n,b,s,g,q,d⟩:=Oz t w (Iw C)
 match A,d,b with
 | [x,y],d,b =>
  obtain⟨v,r,rfl,B,u,r',rfl,E,e⟩:=d
  cases (e)
  refine⟨v,u,rfl,?_⟩
  have p:=q.setN (i:=i) (o:=.im x) B rfl;rw[<- s]
  exact b _ ⟨n.Hf,n.H,clr _ j⟩ ((k.trans g).less fun a z=>Bh0 (Bh0 z)) (p.setN (i:=j) (o:=.im y) E rfl)
 | [],d,b=>trivial
 | [_],d,b=>trivial
 | _::_::_::_,d,b=>exact b.elim
end
end U
namespace L2
open PySem U
theorem Ew (ha:QE X a ta)(hb:QE X b tb):QE X (.BinOp a .Add b pos) (tOp B2o ta tb):=⟨Xq Bz6 ha.get hb.get⟩
theorem Rt (hu:X.A.units+64<cLine)(ha:QE X a ta)(hb:QE X b tb):QE X (.Compare a [.Eq] [b] pos) (tOp rEQ ta tb):=⟨Qy (Bv2 hu) ha.get hb.get (Ku _)⟩
theorem G7 (hu:X.A.units+64<cLine)(ha:QE X a ta)(hb:QE X b tb):QT X (.Compare a [.Eq] [b] pos) (N5 (tOp rEQ ta tb)):=⟨Jo (Bv2 hu) ha.get hb.get (Ku _)⟩
theorem T9 (hu:X.A.units+64<cLine)(ha:QE X a ta)(hb:QE X b tb):QT X (.Compare a [.NotEq] [b] pos) (N5 (tOp rNE ta tb)):=⟨Jo (B4i hu) ha.get hb.get (Ku _)⟩
theorem B4t (hu:X.A.units+64<cLine)(ha:QE X a ta)(hb:QE X b tb)(hm:behindInMarks .In b=false):QT X (.Compare a [.In] [b] pos) (N5 (tOp rIN ta tb)):=⟨Jo (B5y hu) ha.get hb.get hm⟩
theorem Fi (a:X.K=Kq) (hgl:Gl X "len") (hm:X.mg "len" = none) (ha:QA X (e::es) t) (hns:noStar (e::es)=true:=by rfl):QE X (.Call (.Name "len" p) (e::es) [] pos) (tCB (Bl8 Kq) t):=by
 subst a
 exact⟨Gg A5x hgl hm A8h ha.get (by decide) (by rfl) hns⟩
theorem Bb8 (a:X.K=Kq) (hu:X.A.units+64<cLine) (hg:X.A.guards=some []) (hgl:Gl X "str") (hm:X.mg "str" = none) (ha:QA X (e::es) t) (hns:noStar (e::es)=true:=by rfl):QE X (.Call (.Name "str" p) (e::es) [] pos) (tCB (B1x Kq) t):=by
 exact⟨J8 (U.CallR.or (U.CallR.or Ad0 (A4t hu hg)) A2u) hgl hm Mx ha.get (by decide) (by rfl) hns⟩
theorem A1z (a:X.K=Kq) (he:QE X e te) (hl:QO X low tl) (hu:QO X hi th):QE X (.Subscript e (.Slice low hi none p2) pos) (tSl (rSL Kq) te tl th):=by
 subst a;exact A6v B1t he hl hu
end L2
namespace U
open PySem L2
def Def (P:u5)(w:World)(K:v8)(mg:x_)(base:Heap)(x:Str)(k:Nat)(ps:v4)(sp:Sp):Prop :=
 ∃(f:Addr) (fd:v_),FnOk P w K mg base CX0 k f fd ps sp/\Binds K fd ps []/\PySem.W.keepIn K (.ref f)=true/\mg x=some (.ref f)
def A1i (K:v8):Sp:=fun vs H Q _=>∃(a:Addr) (ns:List Int),vs=[.ref a]/\SqL K H a (ns.map V.int)/\ns.length<=63/\∀H',Q (.bl true) H'
theorem Bx9 (f:∀b:List Int,b.length<=63->F [.sc b]=.ret (.im (.bool true)) [.sc b]) (h:A1i K vs H Q E):spP K F vs H Q E:=by
 obtain⟨a,b,rfl,c,d,q⟩:=h
 refine⟨fun _=>.non,⟨H,H,fun _=>[]⟩,[.sc b],rfl,rfl,⟨Same.refl _,rfl,fun i o e=>?_,fun i j a h=>by grind,fun i a h=>by grind⟩,?_⟩
 ·cases i with
  | zero =>
   cases (show some _=some _ from e)
   exact⟨.ref a,rfl,⟨rfl,a,rfl,c⟩,fun z=>nomatch z⟩
  | succ i=>grind
 ·rw[f _ d]
  intro v W' fp st R r n
  cases (show v=.bl _ from r.2)
  grind
theorem A6b : FnOk P w K mg base CX0 n f c ps (spP K fun _=>.bad) :=
 ⟨fun d H Q E h=>by obtain⟨_,_,_,_,_,_,h⟩:=h;simp_all,fun A a s H b e d Q E _ _ _ _ h=>by obtain⟨_,_,_,_,_,_,h⟩:=h;simp_all⟩
noncomputable def A1v (i j:Int):Bool:=decide (0<j)&&decide (j<1073741824)
theorem A9e (i j:Int)(h:A1v i j=true):Br1 i j:=by
 obtain⟨b,a⟩:=aC.mp h;exact⟨aW b,aW a⟩
noncomputable def Bb6 (i j:Int):Bool:=decide (0<j)
theorem A9m (i j:Int)(h:Bb6 i j=true):0<j:=aW h
noncomputable def Aq5 (i j:Int):Bool:=decide (0<=j)&&(decide (j<=1000000)&&decide (i.natAbs<2 ^ 64))
theorem A9n (i j:Int)(h:Aq5 i j=true):Bk3 i j:=by
 obtain⟨c,a⟩:=aC.mp h;obtain⟨a,b⟩:=aC.mp a;exact⟨aW c,aW a,aW b⟩
section
variable {K:v8}
abbrev Od:t6->t6->n6:=Yg fun i j=>.int (i-j)
abbrev A3d:t6->t6->n6:=Yg fun i j=>.bool (decide (j<i))
abbrev Bw7:t6->t6->n6:=Yg fun i j=>.bool (decide (j<=i))
theorem Bp2:OpS K (rI0 fun i j=>.int (i-j)) Od:=Z8 fun _ _ _=>rfl
theorem B2s:OpS K (rI0 fun i j=>.bl (decide (j<i))) A3d:=Z8 fun _ _ _=>rfl
theorem B0q:OpS K (rI0 fun i j=>.bl (decide (j<=i))) Bw7:=Z8 fun _ _ _=>rfl
abbrev Ag3:t6->t6->n6:=opI A1v fun i j=>i / j
abbrev Rv:t6->t6->n6:=opI Bb6 fun i j=>i % j
abbrev Uj:t6->t6->n6:=opI Aq5 fun i j=>i ^ j.toNat
theorem Bc6:OpS K (rI Br1 fun i j=>.int (i / j)) Ag3:=A1m A9e
theorem Bh5:OpS K (rI (fun _ j=>0<j) fun i j=>.int (i % j)) Rv:=A1m A9m
theorem Br8:OpS K (rI Bk3 fun i j=>.int (i ^ j.toNat)) Uj:=A1m A9n
def B0h (fa fb:o8):o8:=fun c=>(fa c).bind fun p c=>(fb c).bind fun q c=>match nrm p,Aa5 (Dl c (nrm q)) with
 | .o (.sc ns),some k=>match atI ns k with
  | some i=>.ok (.o (.im (.int i))) c
  | none=>.bad
 | _,_=>.bad
theorem Bq5 (h:atI ns k=some i):atI (ns.map V.int) k=some (V.int i):=by
 unfold atI at h ⊢;obtain⟨j,b,a⟩:=cH.mp h
 simp_all
theorem Bd1 (ha:ME K h fa) (hb:ME K j fb):ME K (tOp (rIx K) h j) (B0h fa fb):=by
 intro β W c σ Q R s
 refine ha.toV _ W c _ _ R (s.bnd.mono fun p c1 u v1 W1 f n d=>?_)
 refine hb.toV _ _ _ _ _ n (u.bnd.mono fun q t b v2 W2 e g m=>?_)
 have d:=RepA.same e.fz d
 cases ey:Aa5 (Dl t (nrm q)) with
 | none =>
  simp only[ey]at b;generalize nrm p=np at b
  cases np with
  | sl i=>trivial
  | o o=>cases o <;> exact b.elim
 | some k =>
  simp only[ey]at b;generalize nrm p=np at b d
  match np,d,b with
  | .o (.sc ns),d,b =>
   have b:(match atI ns k with
    | some i=>U.R.ok _ _
    | none=>.bad).sat _:=b
   cases ei:atI _ k with
   | none=>rw[ei]at b;trivial
   | some i =>
    rw[ei]at b;obtain⟨a,rfl,w⟩:=d
    cases Dz (Fd g m (Ab0 ey))
    exact .inl ⟨a,_,k,.int i,rfl,rfl,Same.seq g.sub w,Bq5 ei,g.here (o:=.im (.int i)) rfl rfl fun v W' fp x l r=>b v _ _ (f.trans (e.trans x)) l r⟩
  | .o (.im _),d,b=>exact b.elim
  | .o (.ls _ _),d,b=>exact b.elim
  | .o (.ty _),d,b=>exact b.elim
  | .sl _,d,b=>trivial
end
section
variable {w:World}{K:v8}{Hf H:Hp}{Q:VK}{W:Wo}{c:Ev}{v:V}
def cMt (isT:t6->Bool)(op:t6->t6->n6)(fa fb:o8):o8:=fun c=>(fa c).bind fun p c=>match Dl c (nrm p) with
 | some d=>if isT d=true then (fb c).bind fun q c=>match Dl c (nrm p),Dl c (nrm q) with
  | some x,some y=>match op x y with
   | some o=>.ok (.o o) c
   | none=>.bad
  | _,_=>.bad
  else .bad
 | none=>.bad
theorem B5s (ha:ME K l fa) (hb:ME K m fb)
 (n:∀(Hf H:Hp) (d:t6) (v:V),a d=true->Same Hf H->RdV Hf H d v->tyV K T v H) (hr:OpS K (fun x y H Q=>r x [y] H Q) op):ME K (tBM K T r l (Cm m Gm)) (cMt a op fa fb):=by
 intro E W c C Q R s
 refine ha.toV _ W c _ _ R (s.bnd.mono fun p w e B D i h j=>?_)
 cases ed:Dl w (nrm p) with
 | none=>simp only[ed]at e;trivial
 | some d =>
  simp only[ed]at e
  by_cases it:a d=true
  case neg=>rw[if_neg it]at e;trivial
  rw[if_pos it]at e
  refine⟨n _ _ d _ it h.sub (Fd h j ed),?_⟩
  refine hb.toV _ _ _ _ _ h (e.bnd.mono fun q k b I J f g u=>?_)
  cases ex:Dl k (nrm p) with
  | none=>simp only[ex]at b;trivial
  | some x =>
   cases ey:Dl k (nrm q) with
   | none=>simp only[ex,ey]at b;trivial
   | some y =>
    simp only[ex,ey]at b
    cases eo:op x y with
    | none=>simp only[eo]at b;trivial
    | some o =>
     simp only[eo]at b
     exact hr _ _ _ _ x y o Q g.sub (Fd g (RepA.same f.fz j) ex) (Fd g u ey) eo (New.of g fun v F G z A t=>b v _ _ (i.trans (f.trans z)) A t)
noncomputable def J1:t6->Bool
 | .tuple _=>true
 | _=>false
theorem B0a (Hf H:Hp)(d:t6)(v:V)(h:J1 d=true)(s:Same Hf H)(r:RdV Hf H d v):tyV K "tuple" v H:=by
 cases d with
 | tuple ds =>
  obtain⟨a,c,rfl,b,t⟩:=Ja s r;exact .inr (.inr (.inr (.inr ⟨rfl,c,b⟩)))
 | _=>cases h
noncomputable def strsOf:w5->Option (v4)
 | []=>some []
 | .str z::ds=>(strsOf ds).map (z::·)
 | _=>none
theorem As7:∀{ds:w5}{ss:v4}{vs:n7},strsOf ds=some ss->TrL Hf ds vs->vs=ss.map V.str
 | [],ss,vs,h,t=>by cases h;exact t
 | d::ds,ss,_,h,⟨v,r,rfl,h1,h2⟩=>by
  cases d with
  | str z =>
   have h:(strsOf ds).map (z::·)=some ss:=h
   cases e:strsOf ds with
   | none=>rw[e]at h;cases h
   | some ts =>
    rw[e]at h;cases h
    rw[As7 e h2,show v=V.str z from h1];rfl
  | _=>cases h
noncomputable def X5 (y:Str):v4->Option Nat
 | []=>none
 | x::xs=>if x==y then some 0 else (X5 y xs).map (·+1)
theorem A0k {y:Str}:∀{xs:v4}{j:Nat},X5 y xs=some j->xs[j]?=some y/\∀m<j,xs[m]?≠some y
 | [],j,h=>by cases h
 | x::xs,j,h=>by
  unfold X5 at h
  by_cases q:(x==y)=true
  ·rw[if_pos q]at h;cases h
   exact⟨by simpa using q,fun m hm=>absurd hm (Nat.not_lt_zero _)⟩
  ·rw[if_neg q]at h
   cases e:X5 y xs with
   | none=>rw[e]at h;cases h
   | some k =>
    rw[e]at h;cases h;obtain⟨h1,h2⟩:=A0k e
    refine⟨by simpa using h1,fun m hm=>?_⟩
    cases m with
    | zero=>simpa using q
    | succ m=>simpa using h2 m (Nat.lt_of_succ_lt_succ hm)
noncomputable def Ik:t6->t6->n6
 | .tuple ds,.str y=>(strsOf ds).bind fun ss=>(X5 y ss).map fun j=>.im (.int (j:Nat))
 | _,_=>none
theorem A2f:OpS K (fun x y H Q=>Z6 K x [y] H Q) Ik:=by
 intro Hf H x y dx dy o Q s f g e n;unfold Ik at e
 split at e
 ·rename_i d z
  obtain⟨a,vs,rfl,i,t⟩:=Ja s f
  cases es:strsOf d with
  | none=>grind
  | some b =>
   rw[es]at e;have e:(X5 z _).map _=some o:=e
   cases ei:X5 z b with
   | none=>grind
   | some j =>
    rw[ei]at e;cases e
    cases Gn g
    cases As7 es t
    obtain⟨h,c⟩:=A0k ei;exact⟨a,b,z,j,rfl,rfl,SqT.of i,h,c,n.int s⟩
 grind
end
section
variable {K:v8}{H:Hp}{Q:VK}
noncomputable def T7 (neg:Bool)(ss:v4):t6->n6
 | .str y=>some (.im (.bool (if neg then !inV (.str y) (ss.map V.str) else inV (.str y) (ss.map V.str))))
 | _=>none
theorem Zd (ss:v4):(ss.map V.str).all Rc=true:=by
 induction ss with
 | nil=>rfl
 | cons a r b=>rw[aH,List.all_cons,b];rfl
theorem Bc1 (he:ME K a fe) (hp:∀H,SqT K H p (ss.map V.str)):ME K (tOp (rIn K neg) a (tC (.ref p))) (cUn (T7 neg ss) fe) :=
 Yz he fun b H x d o Q s r e n=>by
  match d,r,e with
  | .str y,r,e =>
   cases e
   cases Gn r
   exact⟨p,_,rfl,.inr (hp H),rfl,Zd _,n.bl s⟩
end
end U
namespace L2
open PySem U
theorem Y0 (d:X.K=Kq) (ha:QE X a e) (hb:QE X b f) (hm:behindInMarks .NotIn b=false):QT X (.Compare a [.NotIn] [b] c) (N5 (tOp (rIn Kq true) e f)):=by
 subst d;exact⟨Jo Ad8 ha.get hb.get hm⟩
end L2
namespace U
open PySem L2 PySem.W
noncomputable def B3t:O->Option t6
 | .im k=>some k
 | .ls false xs=>some (.list xs)
 | _=>none
def O4 (F:o9)(d:t6):Option t6:=match F [.im d] with
 | .ret o _=>B3t o
 | .bad=>none
noncomputable def Q3 (F:o9):w5->Option (w5)
 | []=>some []
 | d::ds=>(O4 F d).bind fun k=>(Q3 F ds).map (k::·)
noncomputable def kdOf:w5->Kd
 | .tuple (.tuple _::_)::_=>.tt
 | .tuple (.list _::_)::_=>.tl
 | .int _::_=>.ii
 | .list _::_=>.ll
 | _=>.ti
def Av7 (ds ks:w5):Option (w5):=if ds.length<2 then some ds else if ds.length<64&&(ks.all (Nt (kdOf ks))&&ks.all Bu) then (kEv (A4o (kdOf ks) ks) (kas_sort ds.length)).map fun p=>p.toList.map fun i=>ds.getD i .none else none
def Aw1 (F:o9)(fa:o8):o8:=fun c=>(fa c).bind fun p c=>match (Dl c (nrm p)).bind Fl with
 | none=>.bad
 | some ds=>match (Q3 F ds).bind (Av7 ds) with
  | none=>.bad
  | some out=>.ok (.o (.ls false out)) c
section
variable {K:v8}{β:Nat->V}{W W':Wo}{c:Ev}{σ:St}{Hf H:Hp}
theorem TrL.at_:∀{ds:w5}{vs:n7},TrL Hf ds vs->∀i,Tr Hf (ds.getD i .none) (vs.getD i .non)
 | [],_,h,i=>by cases (show _=[] from h);exact rfl
 | d::ds,_,⟨v,r,e,t,ts⟩,0=>by subst e;exact t
 | d::ds,_,⟨v,r,e,t,ts⟩,i+1=>by subst e;exact TrL.at_ ts i
theorem TrL.pick {ds:w5}{vs:n7}(t:TrL Hf ds vs):∀l:List Nat,TrL Hf (l.map fun i=>ds.getD i .none) (l.map fun i=>vs.getD i .non)
 | []=>rfl
 | i::l=>⟨_,_,rfl,TrL.at_ t i,TrL.pick t l⟩
theorem TrL.len':∀{ds:w5}{vs:n7},TrL Hf ds vs->ds.length=vs.length
 | [],_,h=>by cases (show _=[] from h);rfl
 | d::ds,_,⟨v,r,e,t,ts⟩=>by subst e;rw[aP,aP,TrL.len' ts]
theorem Aq3 (R:Rep K β W c σ) (t:Tr W.Hf d v) (m:O4 F d=some k) (h:∀e a,Stp W.S W.Hf W.H a.S a.Hf a.H->Rep K β a c σ->Tr a.Hf k e->Q e a.H):spP K F [v] W.H Q E0:=by
 have j:∃o b,F [.im d]=.ret o b/\B3t o=some k:=by
  unfold O4 at m
  grind
 obtain⟨o,b,j,f⟩:=j
 have p:nrm (.o o)=.o (.im k):=by
  unfold B3t at f
  split at f
  ·cases f;rfl
  ·cases f;rfl
  trivial
 have r:Xn F [.o (.im d)] c=.ok (.o o) c:=by
  unfold Xn;simp only[Ac8,fH,j]
  rfl
 refine (Zg (ps:=[.o (.im d)]) R ⟨v,[],rfl,t,rfl⟩ ?_:spP K F _ _ _ _)
 rw[r]
 exact fun x w n g q i=>Bw2 (fun e a u s l=>h e _ u s (by rw[p]at l;exact l)) _ _ _ g q i
theorem Aj6 {F:o9}{Q:n7->Hp->Prop}:∀(ds:w5) (vs:n7) (ks kd:w5) (kv:n7) (W:Wo),Rep K β W c σ->TrL W.Hf ds vs->Q3 F ds=some ks->TrL W.Hf kd kv ->
 (∀W' kv',Stp W.S W.Hf W.H W'.S W'.Hf W'.H->Rep K β W' c σ->TrL W'.Hf (kd++ks) kv'->Q kv' W'.H)->Ay3 (spP K F) vs kv W.H Q
 | [],vs,ks,kd,kv,W,R,t,e,tk,h=>by
  cases (show vs=[] from t)
  cases (show some []=some ks from e)
  exact h W kv Stp.refl R (by rw[cN];exact tk)
 | d::ds,vs,ks,kd,kv,W,R,⟨v,r,ev,t,ts⟩,e,tk,h=>by
  subst ev
  obtain⟨k,e1,e2⟩:=cH.mp (show (O4 F d).bind (fun k=>(Q3 F ds).map (k::·))=some ks from e)
  obtain⟨ks',e3,rfl⟩:=a_.mp e2
  show spP K F [v] W.H (fun kv1 H1=>Ay3 (spP K F) r (kv++[kv1]) H1 Q) E0
  refine Aq3 R t e1 fun v' W' st R' tv=>?_
  refine Aj6 ds r ks' (kd++[k]) (kv++[v']) W' R' (TrL.same st.fz ts) e3 ((TrL.same st.fz tk).app (TrL.one tv)) fun W2 kv' st2 R2 t2=>?_
  exact h W2 kv' (st.trans st2) R2 (by rw[fC]at t2;exact t2)
theorem A7z (ha:ME K C fa):ME K (B1k K f (spP K F) (Cm C Gm) (Cm (tC (.ref f)) Gm)) (Aw1 F fa):=by
 intro M W c σ Q R s
 refine ha.toV M W c σ _ R (s.bnd.mono fun p L i U r u n T=>?_)
 cases ed:(Dl L (nrm p)).bind Fl with
 | none=>simp only[ed]at i;exact i.elim
 | some l =>
  simp only[ed]at i
  cases ek:(Q3 F l).bind (Av7 l) with
  | none=>simp only[ek]at i;exact i.elim
  | some o =>
   simp only[ek]at i;obtain⟨d,Y,w⟩:=cH.mp ed;obtain⟨m,S,g⟩:=cH.mp ek;have B:=Fd n T Y
   obtain⟨a,b,rfl,G,t⟩:∃a b,U=.ref a/\(SqL K r.H a b\/SqT K r.H a b)/\TrL r.Hf l b:=by
    cases d with
    | list H =>
     cases w
     obtain⟨a,b,e,h,t⟩:=Fo B;exact⟨a,b,e,.inl (SqL.of h),t⟩
    | tuple H =>
     cases w
     obtain⟨a,b,e,h,t⟩:=Ja n.sub B;exact⟨a,b,e,.inr (SqT.of h),t⟩
    | _=>cases w
   refine⟨a,b,rfl,rfl,G,?_⟩
   refine Aj6 _ _ _ [] _ _ n t S rfl fun J kv j x N=>?_
   have t:=TrL.same j.fz t;have P:=TrL.len' t
   have k:∀(z:List _) (y:n7),z=o->TrL _ z y->∀q,J.H q=none->Q (.ref q) (upd _ q (.lst y)):=fun z y e X q I=>by
    subst e
    exact New.lst (New.of x fun v W' fp Z R' rp=>i v _ _ (u.trans (j.trans Z)) R' rp) x.sub X I
   unfold Av7 at g
   by_cases h2:l.length<2
   ·rw[if_pos h2]at g
    cases g
    exact .inl ⟨by lia,k _ _ rfl t⟩
   ·rw[if_neg h2]at g
    by_cases hb:(decide (l.length<64)&&(m.all (Nt (kdOf m))&&m.all Bu))=true
    ·rw[if_pos hb]at g
     obtain⟨D,A⟩:=aC.mp hb;obtain⟨A,b3⟩:=aC.mp A;have D:=aW D;obtain⟨pm,q1,q2⟩:=a_.mp g
     refine .inr ⟨by lia,by lia,m,kdOf _,pm,TrL.same x.sub N,A,fun d E=>Ga (cG.mp b3 d E),by rw[<- P];exact q1,k _ _ q2 (TrL.pick t _)⟩
    ·rw[if_neg hb]at g;cases g
end
end U
namespace U
open PySem L2
section
variable {K:v8}{Hf H:Hp}
noncomputable def Wb:t6->Bool
 | .list _=>true
 | _=>false
theorem B1g (Hf H:Hp)(d:t6)(v:V)(h:Wb d=true)(s:Same Hf H)(r:RdV Hf H d v):tyV K "list" v H:=by
 cases d with
 | list ds =>
  obtain⟨a,c,rfl,b,t⟩:=Fo r;exact .inl ⟨rfl,c,SqL.of b⟩
 | _=>cases h
end
section
theorem A0f (h:orS S [] a):S a:=by
 grind
end
end U
namespace U
open PySem L2
end U
namespace U
open PySem L2
def mmF (gt:Bool)(F:o9):w5->Option (PyData×t6)->Option (Option (PyData×t6))
 | [],best=>some best
 | d::ds,best=>(O4 F d).bind fun k=>match best with
  | none=>mmF gt F ds (some (d,k))
  | some (b,bk)=>if (Bu k&&Bu bk)=true then (Hi gt k bk).bind fun r=>mmF gt F ds (if r=true then some (d,k) else some (b,bk)) else none
noncomputable def mmD:Option (PyData×t6)->t6
 | some (d,_)=>d
 | none=>.none
def cMM (gt:Bool)(F:o9)(fa:o8):o8:=fun c=>(fa c).bind fun p c=>(frz (nrm p) c).bind fun d c=>match d with
 | .list ds=>match mmF gt F ds none with
  | some best=>.ok (.o (.im (mmD best))) c
  | none=>.bad
 | _=>.bad
section
variable {K:v8}{W:Wo}{c:Ev}{Hf H:Hp}
noncomputable def B5q (Hf:Hp):Option (V×V)->Option (PyData×t6)->Prop
 | none,none=>True
 | some (x,k),some (d,kd)=>Tr Hf d x/\Tr Hf kd k
 | _,_=>False
theorem TrL.back:∀{ds:w5}{vs:n7}{i:Nat}{x:V},TrL Hf ds vs->vs[i]?=some x->∃d,ds[i]?=some d/\Tr Hf d x
 | [],_,i,x,h,e=>by cases (show _=[] from h);simp at e
 | d::ds,_,0,x,⟨v,r,e1,t,ts⟩,e=>by subst e1;cases (show some v=some x from e);exact⟨d,rfl,t⟩
 | d::ds,_,i+1,x,⟨v,r,e1,t,ts⟩,e=>by subst e1;exact TrL.back (ds:=ds) (vs:=r) (i:=i) ts (show r[i]?=some x from e)
theorem B4g (ha:ME K S fa):ME K (tMM n K f (spP K F) (Cm S Gm) (Cm (tC (.ref f)) (Cm (tC .non) Gm))) (cMM n F fa):=by
 intro M W c T Q R s
 refine ha.toV M W c T _ R (s.bnd.mono fun p c1 Y v1 W1 C V r1=>?_)
 obtain⟨d,c2,A,_,j,e2,E,L,Z⟩:=Fj V r1 Y.bnd
 cases d with
 | list w =>
  cases em:mmF n F w none with
  | none=>simp only[em]at j;exact j.elim
  | some u =>
   simp only[em]at j;obtain⟨a,vs,rfl,N,t⟩:=id Z;rw[<- e2]
   refine⟨a,vs,.non,rfl,rfl,SqL.of (L.sub _ _ N),?_⟩
   refine⟨fun i e H=>∃m o,m.H=H/\Stp A.S A.Hf A.H m.S m.Hf m.H/\Rep K M m c2 T/\B5q m.Hf e o/\mmF n F (w.drop i) o=some u,?_,?_,?_,?_⟩
   ·exact⟨A,none,rfl,Stp.refl,L,trivial,em⟩
   ·rintro i e H ⟨m,o,rfl,g,v,_,_⟩
    exact SqL.of (v.sub _ _ (g.fz _ _ N))
   ·rintro i x e H X ⟨m,o,rfl,g,v,G,y⟩
    obtain⟨d,hd,D⟩:=TrL.back (TrL.same g.fz t) X
    have I:w.drop i=d::w.drop (i+1):=by
     obtain⟨hi,q⟩:=aZ.mp hd;rw[jj hi,q]
    rw[I]at y
    obtain⟨k,k1,l⟩:=cH.mp (show ((O4 F d).bind fun k=>match o with
     | none=>mmF n F (w.drop (i+1)) (some (d,k))
     | some (b,bk)=>if (Bu k&&Bu bk)=true then (Hi n k bk).bind fun r=>mmF n F (w.drop (i+1)) (if r=true then some (d,k) else some (b,bk)) else none)=some u from y)
    refine Aq3 v D k1 fun v' U h B J=>?_
    match e,o,G,l with
    | none,none,_,l=>exact⟨U,some _,rfl,g.trans h,B,⟨Tr.same h.fz D,J⟩,l⟩
    | some _,some (b,kb),⟨t3,t4⟩,l =>
     have l:(if (Bu k&&Bu _)=true then (Hi _ k _).bind _ else none)=some _:=l
     by_cases hfl:(Bu k&&Bu kb)=true
     ·rw[if_pos hfl]at l
      obtain⟨f1,f2⟩:=aC.mp hfl;obtain⟨r,q1,O⟩:=cH.mp l
      refine⟨k,kb,r,Tr.same B.sub J,Tr.same B.sub (Tr.same h.fz t4),Ga f1,Ga f2,q1,U,if r=true then some _ else some _,rfl,g.trans h,B,?_,O⟩
      cases r with
      | true=>exact⟨Tr.same h.fz D,J⟩
      | false=>exact⟨Tr.same h.fz t3,Tr.same h.fz t4⟩
     ·rw[if_neg hfl]at l;cases l
   ·rintro e H ⟨m,o,rfl,g,v,G,y⟩
    rw[<- TrL.len' t,iD]at y
    cases (y)
    have P:=C.trans (E.trans g)
    match e,u,G,j with
    | none,none,_,j=>exact j _ _ _ (P.less fun a z=>A0f z) v ⟨⟨rfl,rfl⟩,fun a z=>nomatch z⟩
    | some _,some _,⟨t3,t4⟩,j=>exact j _ _ _ (P.less fun a z=>A0f z) v ⟨⟨rfl,t3⟩,fun a z=>nomatch z⟩
 | none=>exact j.elim
 | bool _=>exact j.elim
 | int _=>exact j.elim
 | str _=>exact j.elim
 | tuple _=>exact j.elim
 | dict _=>exact j.elim
noncomputable def B4w:t6->Option Key
 | .int i=>some (.inl i)
 | .str x=>some (.inr x)
 | _=>none
noncomputable def Q6:w5->Option (List Key)
 | []=>some []
 | d::ds=>(B4w d).bind fun k=>(Q6 ds).map (k::·)
theorem Az6:∀{ds:w5}{ks:List Key}{vs:n7},Q6 ds=some ks->TrL Hf ds vs->vs.map keyV=ks.map some/\vs.length=ks.length
 | [],ks,vs,e,h=>by cases (show some []=some ks from e);cases (show vs=[] from h);exact⟨rfl,rfl⟩
 | d::ds,ks,_,e,⟨v,r,ev,t,ts⟩=>by
  subst ev
  obtain⟨k,e1,e2⟩:=cH.mp (show ((B4w d).bind fun k=>(Q6 ds).map (k::·))=some ks from e)
  obtain⟨ks',e3,rfl⟩:=a_.mp e2;obtain⟨q1,q2⟩:=Az6 e3 ts
  have hk:keyV v=some k:=by
   cases d with
   | int i=>cases e1;cases (show v=.int i from t);rfl
   | str x=>cases e1;cases (show v=.str x from t);rfl
   | _=>cases e1
  exact⟨by rw[aH,aH,hk,q1],by rw[aP,aP,q2]⟩
noncomputable def Oq:t6->n6
 | .list ds=>(Q6 ds).bind fun ks=>if ks.length<1000 then some (.im (.int ((dst ks).length:Nat))) else none
 | _=>none
theorem An4 : UnS K (fun x H Q=>Zr P w K [x] H fun y H=>Rn P w [y] H Q) Oq:=by
 intro Hf H x d o Q s i e n
 cases d with
 | list ds =>
  obtain⟨g,j,f⟩:=cH.mp (show (Q6 _).bind _=some o from e)
  obtain⟨a,k,rfl,l,t⟩:=Fo i
  by_cases hl:g.length<1000
  ·rw[if_pos hl]at f
   cases f
   obtain⟨m,q2⟩:=Az6 j t
   refine⟨a,k,g,rfl,SqL.of l,m,by grind,fun p c=>⟨p,_,rfl,Ay,?_,?_⟩⟩
   ·exact bR (Ab6 _ _ rfl) hl
   ·refine n _ _ _ [] ⟨fun _ _ h=>h,fun b u e _=>?_,fun _ _ _ _ _ h=>h,fun _ h=>nomatch h⟩ (fun b u e=>?_) ⟨rfl,rfl⟩
    ·exact Bo c b u e
    ·exact Bo c b u (s b u e)
  simp_all
 | _=>cases e
theorem As8 (h:ME K t f):ME K (tCB (Rn P w) (Cm (tCB (Zr P w K) (Cm t Gm)) Gm)) (cUn Oq f):=Yz (r:=fun x H Q=>Zr P w K _ H _) h An4
end
end U
namespace U
open PySem L2
def Rx:t6->t6->n6:=Yg fun i j=>.bool (decide (i<j))
theorem A1o : OpS K (rI0 fun i j=>.bl (decide (i<j))) Rx:=Z8 fun _ _ _=>rfl
theorem B5g (l:Ws i j=true):CMul i j:=by
 unfold Ws at l;rw[Bool.or_eq_true_iff,aC,aC]at l
 rcases l with ⟨b,a⟩ | ⟨b,a⟩
 ·exact .inl ⟨aW b,aW a⟩
 ·exact .inr ⟨aW b,aW a⟩
def Lz:t6->t6->n6:=opI Ws fun i j=>i*j
theorem A7t : OpS K (rI CMul fun i j=>.int (i*j)) Lz:=A1m fun _ _=>B5g
noncomputable def Bd:t6->n6
 | .list ds=>some (.im (.tuple ds))
 | .tuple ds=>some (.im (.tuple ds))
 | _=>none
theorem Be8 : UnS K (fun x H Q=>Jb K [x] H Q) Bd:=by
 intro Hf H x d o Q s r e n;unfold Bd at e
 split at e
 ·cases e
  obtain⟨a,b,rfl,c,t⟩:=Fo r
  exact⟨a,b,rfl,.inl ⟨SqL.of c,fun l f=>n.tup s t f⟩⟩
 ·cases e
  obtain⟨a,b,rfl,c,t⟩:=Ja s r;exact⟨a,b,rfl,.inr ⟨SqT.of c,n.same s r⟩⟩
 trivial
def B6n (K:v8):R2:=fun x y H Q=>B0f K x y H Q\/B3q K x y H Q
noncomputable def Aj:t6->t6->n6
 | .list ds,.int i=>(atI ds i).map O.im
 | .tuple ds,.int i=>(atI ds i).map O.im
 | _,_=>none
theorem Bi8 : OpS K (B6n K) Aj:=by
 intro Hf H x y dx dy o Q s i j e n;unfold Aj at e
 split at e
 ·obtain⟨d,g,rfl⟩:=a_.mp e
  obtain⟨a,c,rfl,f,t⟩:=Fo i;obtain⟨v,h,b⟩:=A7j t g;exact .inl ⟨a,c,_,v,rfl,Dz j,SqL.of f,h,n.same s b⟩
 ·obtain⟨d,g,rfl⟩:=a_.mp e
  obtain⟨a,c,rfl,f,t⟩:=Ja s i;obtain⟨v,h,b⟩:=A7j t g;exact .inr ⟨a,c,_,v,rfl,Dz j,SqT.of f,h,n.same s b⟩
 grind
end U
namespace L2
open PySem
section
variable {X:Cx}{a b:Expr}{ta tb:TE}{pos:Pos}
theorem Bg (c:X.K=Kq) (ha:QE X a ta) (hb:QE X b tb) (hs:Mu b):QE X (.Subscript a b pos) (tOp (U.B6n Kq) ta tb):=by
 subst c;exact Bv6 (IxR.or ix_list ix_tup) ha hb hs
end
end L2
namespace U
open PySem L2 PySem.W
section
variable {K:v8}{W:Wo}{c:Ev}
def cFz (f:o8):o8:=fun c=>(f c).bind fun p c=>(frz (nrm p) c).bind fun d c=>.ok (.o (.im d)) c
theorem B4c (h:ME K t f):ME K t (cFz f):=by
 intro y W c x Q R s
 refine h.toV _ W c _ Q R (s.bnd.mono fun p n j v u e i k=>?_)
 obtain⟨d,o,r,_,l,w,b,m,g⟩:=Fj i k j.bnd
 have q:=l v _ [] ((e.trans b).less fun a z=>z.elim id fun z=>nomatch z) m ⟨⟨rfl,g⟩,fun a z=>nomatch z⟩
 grind
end
noncomputable def Hx:t6->Bool
 | .tuple ds=>Gj ds&&PyData.canLayAll0 ds&&decide (PyData.depthAll ds<=6)
 | _=>false
noncomputable def Pa:w5->w5->t6->Option t6
 | k::ks,d::ds,z=>if PyData.eqv k z=true then some d else Pa ks ds z
 | _,_,_=>none
theorem Gf (h:Hx k=true):Bt3 k/\∃a,k=.tuple a:=by
 cases k with
 | tuple a =>
  obtain⟨c,d⟩:=aC.mp (show (Gj _&&PyData.canLayAll0 _&&decide _)=true from h)
  obtain⟨e,b⟩:=aC.mp c;exact⟨⟨e,b,Nat.succ_le_succ (aW d)⟩,a,rfl⟩
 | _=>cases h
mutual
theorem A8t {H:Hp}:∀{d:t6}{v:V},keyB d=true->Tr H d v->KTr H d v
 | .none,_,_,h=>h
 | .int _,_,_,h=>h
 | .str _,_,_,h=>h
 | .tuple ds,_,k,⟨a,vs,e,ha,t⟩=>⟨a,vs,e,ha,A1j k t⟩
theorem A1j {H:Hp}:∀{ds:w5}{vs:n7},Gj ds=true->TrL H ds vs->KTrL H ds vs
 | [],_,_,h=>h
 | d::ds,_,k,⟨v,r,e,h,t⟩=>by
  obtain⟨k1,k2⟩:=aC.mp (show (keyB d&&Gj ds)=true from k)
  exact⟨v,r,e,A8t k1 h,A1j k2 t⟩
end
theorem Ae8 (h:Hx k=true) (t:Tr H k v):∃b,v=.ref b/\KAt H k b:=by
 obtain⟨c,ds,rfl⟩:=Gf h;obtain⟨a,d,rfl,f,e⟩:=t;exact⟨a,rfl,c,A8t c.1 ⟨a,d,rfl,f,e⟩⟩
section
variable {Hf:Hp}
theorem A0b:∀{ks ds:w5}{xs:n7}{z d:t6},(∀k∈ks,Hx k=true)->Hx z=true->TrL Hf ds xs->Pa ks ds z=some d->∃v,J9 (ks.zip xs) z=some v/\Tr Hf d v
 | [],_,_,_,_,_,_,_,e=>nomatch e
 | _::_,[],_,_,_,_,_,_,e=>nomatch e
 | k::ks,d0::ds,_,z,d,hk,hz,⟨v,r,ev,t,ts⟩,e=>by
  subst ev;have b:=(Gf (hk k aQ)).1.1;have b2:=(Gf hz).1.1
  have e:(if PyData.eqv k z=true then some d0 else Pa ks ds z)=some d:=e
  by_cases h:PyData.eqv k z=true
  ·rw[if_pos h]at e
   cases e
   exact⟨v,Nz ((Kl k z b b2).mp h),t⟩
  ·rw[if_neg h]at e
   obtain⟨v',h1,h2⟩:=A0b (fun k m=>hk k (aY _ m)) hz ts e
   refine⟨v',?_,h2⟩
   rw[bL,J0 (fun q=>h ((Kl k z b b2).mpr q))];exact h1
end
inductive DE where
 | d (x:t6)
 | l (xs:w5)
noncomputable def DE.dat:DE->t6
 | .d x=>x
 | .l xs=>.list xs
inductive BR where
 | nx (c:Ev) (ks:w5) (es:List DE)
 | bad
abbrev BF:=Ev->w5->List DE->BR
noncomputable def Mz (k:t6):w5->Option Nat
 | []=>none
 | x::r=>if PyData.eqv x k=true then some 0 else (Mz k r).map (·+1)
noncomputable def Cr (d:Nat)(c:Ev):Bool:=match c[d]? with
 | some none=>true
 | _=>false
theorem Hb (h:Cr d c=true):c[d]?=some none:=by
 unfold Cr at h
 grind
noncomputable def R.toB {α:Type}(r:R α)(k:α->Ev->BR):BR:=match r with
 | .ok a c=>k a c
 | .bad=>.bad
noncomputable def DE1 (Hf H:Hp):DE->V->v5->Prop
 | .d x,v,fp=>fp=[]/\Tr Hf x v
 | .l xs,v,fp=>∃b us,v=.ref b/\fp=[b]/\H b=some (.lst us)/\TrL Hf xs us
def DX (a:Addr)(X:Nat->v5)(b:Addr):Prop:=b=a\/∃j,b∈X j
structure DB (W:Wo) (a:Addr) (ks:w5) (es:List DE) (X:Nat->v5):Prop where
 at_:∃vs,W.H a=some (.dT (ks.zip vs))/\ks.length=vs.length/\es.length=vs.length/\∀j e,es[j]?=some e->∃v,vs[j]?=some v/\DE1 W.Hf W.H e v (X j)
 fr:∀b,DX a X b->W.Hf b=none/\¬ W.S b
 dis:∀i j b,b∈X i->b∈X j->i=j
 na:∀j,a∉X j
 mu:∀b,DX a X b->∃o,W.H b=some o/\Mut (some o)
 out:∀j,es.length<=j->X j=[]
 ky:∀k∈ks,Hx k=true
 nd:ks.Nodup
abbrev orX (S:Addr->Prop)(a:Addr)(X:Nat->v5):Addr->Prop:=fun b=>S b\/DX a X b
noncomputable def zK (K:v8)(β:Nat->V)(W:Wo)(D:Ends)(d:Nat)(a:Addr)(X:Nat->v5):BR->Prop
 | .nx c' ks' es'=>∀σ' W' X',Stp (orX W.S a X) W.Hf W.H (orX W'.S a X') W'.Hf W'.H->Rep K β W' c' σ'->c'[d]?=some none->σ'[d]?=some (some (.ref a))->DB W' a ks' es' X'->D.nx σ' W'.H
 | .bad=>False
def MB (K:v8)(d:Nat)(T:TS)(F:BF):Prop:=∀(β:Nat->V) (W:Wo) (c:Ev) (σ:St) (D:Ends) (a:Addr) (ks:w5) (es:List DE) (X:Nat->v5),Rep K β W c σ->c[d]?=some none->σ[d]?=some (some (.ref a))->DB W a ks es X ->
 zK K β W D d a X (F c ks es)->T D σ W.H
section
variable {K:v8}{β:Nat->V}{W W1:Wo}{c:Ev}{σ σ':St}{Hf H:Hp}{a:Addr}{ks:w5}{es:List DE}{X X':Nat->v5}{d:Nat}{D:Ends}{fp:v5}
theorem DE1.step {a H':Hp}(h:DE1 Hf H e v fp) (s:Same Hf a) (k:∀b∈fp,H' b=H b):DE1 a H' e v fp:=by
 cases e with
 | d x=>exact⟨h.1,Tr.same s h.2⟩
 | l i =>
  obtain⟨b,c,g,f,j,t⟩:=h
  exact⟨b,c,g,f,by grind,TrL.same s t⟩
theorem DB.step (h:DB W a ks es X) (st:Stp W.S W.Hf W.H S2 W1.Hf W1.H) (g:∀b,W1.S b->S2 b):DB W1 a ks es X:=by
 have d:∀b,DX a X b->W1.H b=W.H b:=fun b c=>by
  obtain⟨o,e,_⟩:=h.mu b c;rw[e];exact st.kp b o e (h.fr b c).2
 obtain⟨i,s,l,m,k⟩:=h.at_
 refine⟨⟨i,by rw[d a (.inl rfl)];lia,l,m,fun j e p=>?_⟩,fun b c=>⟨?_,fun z=>?_⟩,h.dis,h.na,fun b c=>?_,h.out,h.ky,h.nd⟩
 ·obtain⟨v,n,r⟩:=k j e p
  exact⟨v,n,r.step st.fz fun b c=>d b (.inr ⟨j,c⟩)⟩
 ·obtain⟨o,e,f⟩:=h.mu b c
  exact st.nf b o e f (h.fr b c).2 (h.fr b c).1
 ·obtain⟨o,e,_⟩:=h.mu b c
  rcases st.fr b (g b z) with q | q
  ·exact(h.fr b c).2 q
  simp_all
 ·obtain⟨o,e,f⟩:=h.mu b c
  simp_all
theorem Stp.moreX (x:Stp S Hf H S' b H'):Stp (orX S a X) Hf H (orX S' a X) b H':=Stp.more x
theorem zK.step (h:zK K β W D d a X r) (st:Stp (orX W.S a X) W.Hf W.H (orX W1.S a X') W1.Hf W1.H):zK K β W1 D d a X' r:=by
 cases r with
 | nx c j k=>exact fun f l m b R g i e=>h _ _ _ (st.trans b) R g i e
 | bad=>exact h
theorem Fe {r:R b}{k:b->Ev->BR}(h:zK K β W D d a X (r.toB k)):r.sat fun x c=>zK K β W D d a X (k x c):=by
 cases r with
 | ok x c=>exact h
 | bad=>exact h
noncomputable def Yc (F G:BF):BF:=fun c ks es=>match F c ks es with
 | .nx c ks es=>G c ks es
 | .bad=>.bad
theorem Bz3 (h1:MB K d t F) (h2:MB K d u G):MB K d (Bm9 t u) (Yc F G):=by
 intro o W c q D a v w X R m n i l
 refine h1 _ W c _ _ a _ _ X R m n i ?_
 unfold Yc at l
 cases e:F c _ _ with
 | bad=>rw[e]at l;trivial
 | nx x y p =>
  rw[e]at l
  exact fun h r s k j b g f=>h2 _ _ _ _ D a _ _ _ j b g f (zK.step l k)
def GFr (d:Nat)(g:TG):Prop:=∀v σ H k,g v σ H (fun σ' H'=>σ'[d]?=σ[d]?->k σ' H')->g v σ H k
def Bg5 (d:Nat)(g:TGs):Prop:=∀vs σ H k,g vs σ H (fun σ' H'=>σ'[d]?=σ[d]?->k σ' H')->g vs σ H k
theorem A9r (h:i≠d):GFr d (Lk i):=fun v a H k q=>q (cL h)
theorem Bk0:Bg5 d A5g:=fun b a H k q=>⟨q.1,q.2 rfl⟩
def A8o (g:TG):Prop:=∀v σ H k k',g v σ H k->(∀σ' H',k σ' H'->k' σ' H')->g v σ H k'
def Ab7 (g:TGs):Prop:=∀vs σ H k k',g vs σ H k->(∀σ' H',k σ' H'->k' σ' H')->g vs σ H k'
theorem As3 : A8o (Lk i):=fun v b H k a h f=>f _ _ h
theorem A5o:Ab7 A5g:=fun b c H k a h f=>⟨h.1,f _ _ h.2⟩
theorem Aw3 (h1:A8o t) (h2:Ab7 u):Ab7 (Rf t u):=fun g c H k d ⟨v,r,e,q⟩ f=>⟨v,r,e,h1 _ _ _ _ _ q fun a b q=>h2 _ _ _ _ _ q f⟩
theorem A7g (h1:GFr d t) (b:A8o t) (h2:Bg5 d u) (f:Ab7 u):Bg5 d (Rf t u):=fun i j H k ⟨v,r,e,q⟩ =>
 ⟨v,r,e,h1 v _ H _ (b _ _ _ _ _ q fun g l q c=>h2 r _ _ k (f _ _ _ _ _ q fun h m q a=>q (a.trans c)))⟩
theorem Bh8 (h:Bg5 d u):GFr d (A5i K n u):=fun v b H k ⟨p,a,e,s,l,q⟩=>⟨p,a,e,s,l,h _ _ H k q⟩
def Pg (f:o8)(g:p8):BF:=fun c ks es=>(f c).toB fun p c=>(g p c).toB fun _ c=>if Cr d c=true then .nx c ks es else .bad
theorem B3h (h:ME K j f) (hg:MG K t g) (hf:GFr d t):MB K d (As6 j t) (Pg (d:=d) f g):=by
 intro C W c G D a y I X R A n o l
 refine h _ W c _ _ R ((Fe l).mono fun p H q v B E r m k=>hf _ _ _ _ (hg _ _ _ _ p v _ _ m k ((Fe q).mono fun _ u e s F i w x=>?_)))
 by_cases z:Cr d u=true
 ·rw[if_pos z]at e
  have b:=r.trans i
  exact e _ _ X b.moreX w (Hb z) (x.trans n) (o.step b fun _ z=>z)
 ·rw[if_neg z]at e;trivial
noncomputable def Xb (g:p8)(F:BF):w5->BF
 | [],c,ks,es=>.nx c ks es
 | x::xs,c,ks,es=>(g (.o (.im x)) c).toB fun _ c=>if Cr d c=true then match F c ks es with
  | .nx c ks es=>Xb g F xs c ks es
  | .bad=>.bad
  else .bad
def Al3 (fi:Ev->R (w5))(g:p8)(F:BF):BF:=fun c ks es=>(fi c).toB fun ds c=>if Cr d c=true then Xb (d:=d) g F ds c ks es else .bad
theorem Bx3 (hi:MI K wi fi) (hg:MG K t g) (hf:GFr d t) (hb:MB K d tb F):MB K d (B2h wi t tb) (Al3 (d:=d) fi g F):=by
 intro A W c C D a ks V X R hc hs hd l
 refine hi A W c C _ R ((Fe l).mono fun f c1 O J U L R1 it=>?_)
 by_cases z1:Cr d c1=true
 ·rw[if_pos z1]at O
  have Z:=hd.step L fun _ z=>z
  refine⟨fun i m C H=>∃b j B r u,b.H=H/\Rep K A b j C/\m=f.length-i/\i<=f.length/\Same U.Hf b.Hf/\j[d]?=some none/\C[d]?=some (some (.ref a))/\DB b a B r u/\zK K A b D d a u (Xb (d:=d) g F (f.drop i) j B r),
   ⟨_,U,c1,ks,V,X,rfl,R1,rfl,aO _,Same.refl _,Hb z1,hs,Z,zK.step O L.moreX⟩,?_⟩
  rintro i m C H ⟨b,j,B,r,u,rfl,R2,rfl,hle,sm,T,G,I,E⟩
  obtain⟨v,Y⟩:=it i b.Hf b.H sm R2.sub
  by_cases lt:i<f.length
  ·obtain⟨q1,q2⟩:=Y f[i] (bG lt)
   refine .inr ⟨q1,fun w p=>∃b j B r u,b.H=p/\Rep K A b j w/\Same U.Hf b.Hf/\j[d]?=some none/\w[d]?=some (some (.ref a))/\DB b a B r u/\zK K A b D d a u (Xb (d:=d) g F (f.drop (i+1)) j B r),
    fun w p ⟨W3,c3,k3,e3,X3,y1,S,s3,y2,y3,y4,k⟩=>⟨f.length-(i+1),by lia,W3,c3,k3,e3,X3,y1,S,rfl,by lia,s3,y2,y3,y4,k⟩,fun x p hy=>?_⟩
   obtain⟨s,n,M,tx⟩:=q2 x p hy;have S:=n.rep R2 M
   have Q:Stp b.S b.Hf b.H (Wo.S ⟨s,p,b.fps⟩) s p:=⟨n.fz,fun a o e _=>n.kp a o e fun z=>z,fun a o e mu _ q=>n.nf a o e mu (fun z=>z) q,fun a z=>.inl z⟩
   rw[T3 lt]at E
   have E:zK K A b D d a u ((g (.o (.im f[i])) j).toB fun _ c=>if Cr d c=true then match F c B r with
    | .nx c ks V=>Xb (d:=d) g F (f.drop (i+1)) c ks V
    | .bad=>.bad
    else .bad):=E
   refine hf _ _ _ _ (hg A ⟨s,p,b.fps⟩ j C (.o (.im f[i])) x [] _ S ⟨⟨rfl,tx⟩,fun a z=>nomatch z⟩ ((Fe E).mono fun _ c3 k σ3 W3 y R3' es3=>?_))
   have y:=y.up fun a z=>by
    rcases z with z | z
    ·exact z
    ·cases z
   have h:=Q.trans y
   by_cases z3:Cr d c3=true
   ·rw[if_pos z3]at k
    refine hb _ _ _ _ _ a _ _ _ R3' (Hb z3) (es3.trans G) (I.step h fun _ z=>z) ?_
    cases eb:F _ _ _ with
    | bad=>rw[eb]at k;exact k.elim
    | nx c4 k4 e4 =>
     rw[eb]at k
     exact fun σ4 W4 X4 N R4 hc4 hs4 P=>⟨W4,c4,k4,e4,X4,rfl,R4,sm.trans (h.fz.trans N.fz),hc4,hs4,P,zK.step k (h.moreX.trans N)⟩
   ·rw[if_neg z3]at k;exact k.elim
  ·have e:i=f.length:=by lia
   subst e;rw[iD]at E;exact .inl ⟨v rfl,E _ _ _ Stp.refl R2 T G I⟩
 ·rw[if_neg z1]at O;exact O.elim
end
theorem Lg {k:t6}(hk:Hx k=true):∀{ks:w5}{vs:n7}{j:Nat},(∀x∈ks,Hx x=true)->ks.length=vs.length->Mz k ks=some j->ks[j]?=some k/\J9 (ks.zip vs) k=vs[j]?
 | [],_,_,_,_,e=>nomatch e
 | x::ks,[],_,_,l,_=>nomatch l
 | x::ks,v::vs,j,hx,l,e=>by
  have b:=(Gf (hx x aQ)).1.1;have b2:=(Gf hk).1.1
  have e:(if PyData.eqv x k=true then some 0 else (Mz k ks).map (·+1))=some j:=e
  by_cases h:PyData.eqv x k=true
  ·rw[if_pos h]at e;cases e
   have:=(Kl x k b b2).mp h;subst this;exact⟨rfl,Nz rfl⟩
  ·rw[if_neg h]at e
   obtain⟨i,e1,rfl⟩:=a_.mp e
   obtain⟨q1,q2⟩:=Lg hk (vs:=vs) (fun y hy=>hx y (aY _ hy)) (gC l) e1
   refine⟨by simpa using q1,?_⟩
   rw[bL,J0 (fun q=>h ((Kl x k b b2).mpr q)),q2];rfl
theorem Jr {k:t6}(hk:Hx k=true):∀{ks:w5}{vs:n7},(∀x∈ks,Hx x=true)->Mz k ks=none->k∉ks/\J9 (ks.zip vs) k=none
 | [],vs,_,_=>⟨(fun h=>nomatch h),rfl⟩
 | x::ks,vs,hx,e=>by
  have b:=(Gf (hx x aQ)).1.1;have b2:=(Gf hk).1.1
  have e:(if PyData.eqv x k=true then some 0 else (Mz k ks).map (·+1))=none:=e
  by_cases h:PyData.eqv x k=true
  ·rw[if_pos h]at e;cases e
  ·rw[if_neg h]at e
   have e1:Mz k ks=none:=by
    cases q:Mz k ks with
    | none=>rfl
    | some i=>rw[q]at e;cases e
   have ne:x≠k:=fun q=>h ((Kl x k b b2).mpr q)
   refine⟨fun m=>?_,?_⟩
   ·rcases aB.mp m with m | m
    ·exact ne m.symm
    ·exact(Jr (vs:=[]) hk (fun y hy=>hx y (aY _ hy)) e1).1 m
   ·cases vs with
    | nil=>rfl
    | cons v vs =>
     rw[bL,J0 ne]
     exact(Jr hk (fun y hy=>hx y (aY _ hy)) e1).2
theorem A0d {k:t6}{v:V}:∀{ks:w5}{vs:n7},k∉ks->(ks.zip vs).map (fun kv=>if kv.1=k then (kv.1,v) else kv)=ks.zip vs
 | [],_,_=>rfl
 | _::_,[],_=>rfl
 | x::ks,u::vs,h=>by
  have ne:x≠k:=fun q=>h (q▸aQ)
  rw[bL,aH,A0d fun m=>h (aY _ m)]
  simp[ne]
theorem A9a {k:t6}{v:V}:∀{ks:w5}{vs:n7}{j:Nat},ks.Nodup->ks[j]?=some k->(ks.zip vs).map (fun kv=>if kv.1=k then (kv.1,v) else kv)=ks.zip (vs.set j v)
 | [],_,_,_,e=>by simp at e
 | _::_,[],_,_,_=>rfl
 | x::ks,u::vs,0,nd,e=>by
  cases (show some x=some k from e)
  rw[bL,aH,A0d (c7.mp nd).1]
  simp
 | x::ks,u::vs,j+1,nd,e=>by
  have e:ks[j]?=some k:=by simpa using e
  have ne:x≠k:=fun q=>(c7.mp nd).1 (q▸bc e)
  rw[bL,aH,A9a (c7.mp nd).2 e]
  simp[ne]
theorem Bn4 {ks:w5} (a:ks.Nodup) (e:ks[j]?=some k) (hv:J9 (ks.zip vs) k=some u):putK (ks.zip vs) k v=ks.zip (vs.set j v):=by
 unfold putK
 rw[Q7,hv,if_pos (by rfl),A9a a e]
theorem Bc9 {ks:w5} (hl:ks.length=vs.length) (hv:J9 (ks.zip vs) k=none):putK (ks.zip vs) k v=(ks++[k]).zip (vs++[v]):=by
 unfold putK;rw[Q7,hv,List.zip_append hl];rfl
section
variable {K:v8}{β:Nat->V}{W W' W1:Wo}{c c':Ev}{σ:St}{Hf H:Hp}{a:Addr}{ks:w5}{es:List DE}{X X':Nat->v5}{d:Nat}{D:Ends}
theorem Vp (R:Rep K β W c σ)(hd:DB W a ks es X) (f:∀b,H' b=W.H b\/DX a X b\/W.H b=none) (h:∀b,DX a X' b->DX a X b\/W.H b=none) :
 Rep K β ⟨W.Hf,H',W.fps⟩ c σ/\Stp (orX W.S a X) W.Hf W.H (orX (Wo.S ⟨W.Hf,H',W.fps⟩) a X') W.Hf H':=by
 refine⟨R.frame (Same.refl _) (fun b u e=>?_) fun b g=>?_,⟨Same.refl _,fun b o e n=>?_,fun b o _ _ _ q=>q,fun b z=>?_⟩⟩
 ·rcases f b with q | q | q
  ·rw[q];exact R.sub b u e
  ·rw[(hd.fr b q).1]at e;grind
  ·rw[R.notF q]at e;grind
 ·obtain⟨i,d⟩:=g
  obtain⟨z,o,e,_⟩:=R.own i b d
  refine⟨z,?_⟩
  rcases f b with q | q | q
  ·lia
  ·exact absurd ⟨i,d⟩ (hd.fr b q).2
  grind
 ·grind
 ·rcases z with z | z
  ·exact .inl (.inl z)
  grind
theorem Be2 (h:b∈(fun i=>if i=j then [] else X i) i):b∈X i/\i≠j:=by
 grind
def A3v (ks:w5)(es:List DE)(k x:t6):List PyData×List DE:=match Mz k ks with
 | some j=>(ks,es.set j (.d x))
 | none=>(ks++[k],es++[.d x])
def MVB (K:v8)(d:Nat)(T:TE)(f:w5->List DE->Ev->R PV):Prop:=∀(β:Nat->V) (W:Wo) (c:Ev) (σ:St) (Q:VK) (a:Addr) (ks:w5) (es:List DE) (X:Nat->v5),Rep K β W c σ->σ[d]?=some (some (.ref a))->DB W a ks es X ->
 (f ks es c).sat (fun p c'=>∀v W',Stp W.S W.Hf W.H W'.S W'.Hf W'.H->Rep K β W' c' σ->RepA K W'.Hf σ (nrm p) v->Q v W'.H)->T σ W.H Q
theorem B2k (h:ME K b f):MVB K d b (fun _ _=>f):=fun g W c i Q a j k X R l e s=>h.toV _ W c _ Q R s
def Yh (fk:o8)(fv:w5->List DE->Ev->R PV):BF:=fun c ks es=>(fv ks es c).toB fun q c=>(frz (nrm q) c).toB fun x c=>(fk c).toB fun p c=>match Dl c (nrm p) with
 | some k=>if (Hx k&&decide (ks.length<16000000)&&Cr d c)=true then .nx c (A3v ks es k x).1 (A3v ks es k x).2 else .bad
 | none=>.bad
theorem B1b (hk:ME K ty fk) (hv:MVB K d tv fv):MB K d (Bf8 (Aq7 d) ty tv) (Yh (d:=d) fk fv):=by
 intro L W c Q D a t E X R hc P hd l
 refine hv L W c Q _ a t E X R P hd ((Fe l).mono fun q c1 l1 v W1 S R1 r1=>⟨_,P,?_⟩)
 obtain⟨x,c2,W2,_,l2,e2,V,R2,t2⟩:=Fj R1 r1 (Fe l1);rw[<- e2]
 refine hk.toV L W2 c2 Q _ R2 ((Fe l2).mono fun p N h y r H O r3=>?_)
 have t3:Tr r.Hf x v:=Tr.same H.fz t2;have U:=S.trans (V.trans H)
 have f:=hd.step U fun _ z=>z
 cases ek:Dl N (nrm p) with
 | none=>simp only[ek]at h;exact h.elim
 | some k =>
  simp only[ek]at h
  by_cases s:(Hx k&&decide (t.length<16000000)&&Cr d N)=true
  ·rw[if_pos s]at h
   obtain⟨s,J⟩:=aC.mp s;obtain⟨m,A⟩:=aC.mp s;have A:=aW A;obtain⟨_,kd,ekd⟩:=Gf m
   have tk:Tr r.Hf k y:=by rw[ekd]at ek ⊢;exact Fd O r3 ek
   obtain⟨b,rfl,kb⟩:=Ae8 m tk;obtain⟨w,q1,G,Z,q4⟩:=f.at_
   have zl:(t.zip w).length<sizeLine:=by rw[eZ,<- G,fM];exact aN A (by decide)
   have Y:KAt r.H k b:=kb.stay fun b xs q=>O.sub _ _ q
   refine⟨a,_,rfl,DPut.t q1 Y zl,?_⟩
   cases ei:Mz k t with
   | some j =>
    have h:zK K L W D d a X (.nx N t (E.set j (.d x))):=by unfold A3v at h;simp only[ei]at h;exact h
    obtain⟨M,T⟩:=Lg m f.ky G ei;have hj:j<t.length:=(aZ.mp M).1
    have F:j<w.length:=by lia
    rw[Bn4 f.nd M (T.trans (bG F))]
    have n:=Vp (X':=fun i=>if i=j then [] else X i) O f (H':=upd r.H a (.dT (t.zip (w.set j v)))) (fun b=>by
     by_cases z:b=a
     ·exact .inr (.inl (.inl z))
     ·exact .inl (Ai z)) (fun b z=>by
     rcases z with z | ⟨i,z⟩
     ·exact .inl (.inl z)
     ·have z:=Be2 z
      exact .inl (.inr ⟨i,z.1⟩))
    have I:∀b,DX a (fun i=>if i=j then [] else X i) b->DX a X b:=fun b z=>by
     rcases z with z | ⟨i,z⟩
     ·exact .inl z
     ·exact .inr ⟨i,(Be2 z).1⟩
    refine h Q ⟨r.Hf,_,r.fps⟩ _ (U.moreX.trans n.2) n.1 (Hb J) P ⟨⟨w.set j v,Ay,by rw[bV];exact G,by rw[bV,bV];exact Z,fun i e g=>?_⟩,fun b z=>f.fr b (I b z),fun i i' b z z'=>?_,fun i z=>?_,fun b z=>?_,fun i C=>?_,f.ky,f.nd⟩
    ·by_cases z:i=j
     ·subst z
      rw[cB (by lia)]at g
      cases g
      exact⟨v,cB F,by rw[if_pos rfl],t3⟩
     ·rw[cL (aG z)]at g
      obtain⟨u,f1,f2⟩:=q4 i e g
      refine⟨u,by rw[cL (aG z)];exact f1,?_⟩
      rw[if_neg z]
      exact f2.step (Same.refl _) fun b s=>Ai (fun q=>f.na i (q▸s))
    ·exact f.dis i i' b (Be2 z).1 (Be2 z').1
    ·exact f.na i (Be2 z).1
    ·by_cases q:b=a
     ·rw[q];exact⟨_,Ay,trivial⟩
     ·obtain⟨o,e,mu⟩:=f.mu b (I b z)
      exact⟨o,by show upd r.H a _ b=_;rw[Ai q];exact e,mu⟩
    ·rw[bV]at C
     show (if i=j then [] else X i)=[]
     split
     ·rfl
     ·exact f.out i C
   | none =>
    have h:zK K L W D d a X (.nx N (t++[k]) (E++[.d x])):=by unfold A3v at h;simp only[ei]at h;exact h
    obtain⟨M,T⟩:=Jr (vs:=w) m f.ky ei;rw[Bc9 G T]
    have n:=Vp (X':=X) O f (H':=upd r.H a (.dT ((t++[k]).zip (w++[v])))) (fun b=>by
     by_cases z:b=a
     ·exact .inr (.inl (.inl z))
     ·exact .inl (Ai z)) (fun b z=>.inl z)
    refine h Q ⟨r.Hf,_,r.fps⟩ X (U.moreX.trans n.2) n.1 (Hb J) P ⟨⟨w++[v],Ay,by rw[aX,aX,G];rfl,by rw[aX,aX,Z];rfl,fun i e g=>?_⟩,f.fr,f.dis,f.na,fun b z=>?_,fun i C=>f.out i (by rw[aX]at C;exact eU C),fun x B=>?_,?_⟩
    ·by_cases z:i<E.length
     ·rw[fQ z]at g
      obtain⟨u,f1,f2⟩:=q4 i e g
      refine⟨u,by rw[fQ (by lia)];exact f1,?_⟩
      exact f2.step (Same.refl _) fun b s=>Ai (fun q=>f.na i (q▸s))
     ·rw[eY (by lia)]at g
      have C:i=E.length:=by
       rcases bO (i-E.length) 1 with q | q
       ·lia
       ·rw[jn (by simpa using q)]at g;cases g
      subst C;rw[dC]at g
      cases g
      refine⟨v,by rw[Z,eY (aq _),dC];rfl,f.out _ (aq _),t3⟩
    ·by_cases q:b=a
     ·rw[q];exact⟨_,Ay,trivial⟩
     ·obtain⟨o,e,mu⟩:=f.mu b z
      exact⟨o,by show upd _ a _ b=_;rw[Ai q];exact e,mu⟩
    ·rcases bC.mp B with B | B
     ·exact f.ky x B
     ·rw[aV.mp B];exact m
    ·rw[jl]
     refine⟨f.nd,by simp,fun x B y hy e=>?_⟩
     rw[aV.mp hy]at e;exact M (e▸B)
  ·rw[if_neg s]at h;exact h.elim
end
section
variable {K:v8}{β:Nat->V}{W W1:Wo}{c:Ev}{σ:St}{Hf H:Hp}{a:Addr}{ks:w5}{es:List DE}{X X':Nat->v5}{d:Nat}{D:Ends}
noncomputable def B4o:Option DE->Option (w5)
 | some (.l xs)=>some xs
 | _=>none
def S7 (ks:w5)(es:List DE)(k:t6):List PyData×List DE×Nat:=match Mz k ks with
 | some j=>(ks,es,j)
 | none=>(ks++[k],es++[.l []],ks.length)
def A9l (fk fv:o8):BF:=fun c ks es=>(fk c).toB fun p c=>match Dl c (nrm p) with
 | some k=>if (Hx k&&decide (ks.length<16000000))=true then match B4o ((S7 ks es k).2.1[(S7 ks es k).2.2]?) with
  | some xs=>(fv c).toB fun q c=>(frz (nrm q) c).toB fun x c=>if (decide (xs.length<16000000)&&Cr d c)=true then .nx c (S7 ks es k).1 ((S7 ks es k).2.1.set (S7 ks es k).2.2 (.l (xs++[x]))) else .bad
  | none=>.bad
  else .bad
 | none=>.bad
theorem Al2 (he:ME K P fe) (R:Rep K β W c σ) (hs:σ[d]?=some (some (.ref a))) (hd:DB W a ks es X) (H:es[j]?=some (.l xs)) (hl:X j=[l])
 (L:zK K β W D d a X ((fe c).toB fun q c=>(frz (nrm q) c).toB fun x c=>if (decide (xs.length<16000000)&&Cr d c)=true then .nx c ks (es.set j (.l (xs++[x]))) else .bad)) :
 tyV K "list" (.ref l) W.H/\Cm P Gm σ W.H fun xs H2=>rAppF (.ref l) xs H2 fun _ C=>D.nx σ C:=by
 have g:∀{W:Wo},DB W a ks es X->∃h,W.H l=some (.lst h)/\TrL W.Hf xs h:=fun {W} hd=>by
  obtain⟨Q,O,T,J,s⟩:=hd.at_;obtain⟨v,y,b,h,rfl,k,N,I⟩:=s j _ H;rw[hl]at k
  cases k
  exact⟨h,N,I⟩
 obtain⟨E,h0,_⟩:=g hd
 refine⟨.inl ⟨rfl,E,SqL.of h0⟩,?_⟩
 refine he.toV β W c σ _ R ((Fe L).mono fun q c1 V v W1 A R1 r1=>?_)
 obtain⟨x,c2,G,_,r,e2,B,Y,Z⟩:=Fj R1 r1 (Fe V);have M:=A.trans B
 have f:=hd.step M fun _ z=>z
 obtain⟨h,h2,t⟩:=g f
 by_cases p:(decide (xs.length<16000000)&&Cr d c2)=true
 ·rw[if_pos p]at r
  obtain⟨m,F⟩:=aC.mp p;have m:=aW m
  show rAppF (.ref l) [v] W1.H fun _ C=>D.nx σ C
  rw[<- e2]
  refine⟨l,v,h,rfl,rfl,h2,by rw[<- t.length];exact aN m (by decide),?_⟩
  have lX:DX a X l:=.inr ⟨j,by rw[hl];exact .head _⟩
  have la:l≠a:=fun z=>f.na j (by rw[hl,<- z];exact .head _)
  have n:=Vp (X':=X) Y f (H':=upd G.H l (.lst (h++[v]))) (fun b=>by
   by_cases z:b=l
   ·rw[z];exact .inr (.inl lX)
   ·exact .inl (Ai z)) (fun b z=>.inl z)
  obtain⟨Q,O,T,J,s⟩:=f.at_;have hj:j<es.length:=(aZ.mp H).1
  refine r σ ⟨G.Hf,_,G.fps⟩ X (M.moreX.trans n.2) n.1 (Hb F) hs ⟨⟨Q,by show upd _ l _ a=_;rw[Ai (aG la)];exact O,T,by rw[bV];exact J,fun i e w=>?_⟩,f.fr,f.dis,f.na,fun b z=>?_,fun i S=>f.out i (by rw[bV]at S;exact S),f.ky,f.nd⟩
  ·by_cases z:i=j
   ·subst z
    rw[cB hj]at w
    cases w
    obtain⟨v0,y,b,us1,rfl,k,N,I⟩:=s i _ H;rw[hl]at k
    cases k
    exact⟨_,y,l,h++[v],rfl,hl,Ay,t.app (TrL.one Z)⟩
   ·rw[cL (aG z)]at w
    obtain⟨u,y,k⟩:=s i e w
    exact⟨u,y,k.step (Same.refl _) fun b p=>Ai fun q=>z (f.dis i j b p (by rw[hl,q];exact .head _))⟩
  ·by_cases q:b=l
   ·rw[q];exact⟨_,Ay,trivial⟩
   ·obtain⟨o,e,U⟩:=f.mu b z
    exact⟨o,by show upd _ l _ b=_;rw[Ai q];exact e,U⟩
 ·rw[if_neg p]at r;exact r.elim
theorem B1e (hk:ME K ty fk) (he:ME K te fe):MB K d (A8j (tBM K "list" rAppF (Bv3 (Aq7 d) ty (B0b Gm)) (Cm te Gm))) (A9l (d:=d) fk fe):=by
 intro β W c σ D a m F X R hc hs hd l
 refine⟨_,hs,a,rfl,.inr (let ⟨C,q,_⟩:=hd.at_; ⟨_,.inl q⟩),?_⟩
 refine hk.toV β W c σ _ R ((Fe l).mono fun p c1 r y s J P r1=>?_)
 refine⟨show 0<=sizeLine from aO _,fun g n=>?_⟩
 have f:=hd.step J fun _ z=>z
 cases ek:Dl c1 (nrm p) with
 | none=>simp only[ek]at r;exact r.elim
 | some k =>
  simp only[ek]at r
  by_cases I:(Hx k&&decide (m.length<16000000))=true
  ·rw[if_pos I]at r
   obtain⟨t,N⟩:=aC.mp I;have N:=aW N;obtain⟨_,kd,ekd⟩:=Gf t
   have tk:Tr s.Hf k y:=by rw[ekd]at ek ⊢;exact Fd P r1 ek
   obtain⟨b,rfl,kb⟩:=Ae8 t tk;obtain⟨C,q1,B,q3,q4⟩:=f.at_
   have zl:(m.zip C).length<sizeLine:=by rw[eZ,<- B,fM];exact aN N (by decide)
   have S:a≠g:=fun z=>by rw[<- z,q1]at n;cases n
   have A:∀b,DX a X b->b≠g:=fun b z q=>by
    obtain⟨o,e,_⟩:=f.mu b z;rw[q,n]at e;cases e
   have G:=Vp (X':=X) P f (H':=upd s.H g (.lst [])) (fun b=>by
    by_cases z:b=g
    ·rw[z];exact .inr (.inr n)
    ·exact .inl (Ai z)) (fun b z=>.inl z)
   have hd2:DB ⟨s.Hf,upd s.H g (.lst []),s.fps⟩ a m F X :=
    ⟨⟨
     C,by show upd s.H g _ a=_;rw[Ai S];exact q1,B,q3,fun i e E=>by
     obtain⟨u,V,U⟩:=q4 i e E
     exact⟨u,V,U.step (Same.refl _) fun b I=>Ai (A b (.inr ⟨i,I⟩))⟩⟩,f.fr,f.dis,f.na,fun b z=>by
     obtain⟨o,e,mu⟩:=f.mu b z
     exact⟨o,by show upd s.H g _ b=_;rw[Ai (A b z)];exact e,mu⟩,f.out,f.ky,f.nd⟩
   have kb':KAt (upd s.H g (.lst [])) k b:=kb.stay fun b xs q=>by
    have:=P.sub _ _ q;rw[Ai];exact this;intro z;rw[z,n]at this;cases this
   refine⟨m.zip C,k,b,rfl,by rw[Ai S];exact q1,kb',zl,fun v L=>?_,fun L=>?_⟩
   ·-- there
    cases E:Mz k m with
    | none=>rw[(Jr (vs:=C) t f.ky E).2]at L;cases L
    | some j =>
     unfold S7 at r;simp only[E]at r;obtain⟨Y,i2⟩:=Lg t f.ky B E
     cases eE:F[j]? with
     | none=>rw[eE]at r;exact r.elim
     | some en =>
      rw[eE]at r
      cases en with
      | d x=>exact r.elim
      | l xs =>
       obtain⟨u,V,lb,us,rfl,U,f3,f4⟩:=q4 j _ eE;rw[i2,V]at L
       cases L
       exact Al2 he G.1 hs hd2 eE U (zK.step r (J.moreX.trans G.2))
   ·-- not there
    cases E:Mz k m with
    | some j =>
     obtain⟨Y,i2⟩:=Lg t f.ky B E;have hj:j<m.length:=(aZ.mp Y).1
     rw[i2,bG (by lia)]at L;cases L
    | none =>
     unfold S7 at r;simp only[E]at r;obtain⟨Y,i2⟩:=Jr (vs:=C) t f.ky E;have T:m.length=F.length:=B.trans q3.symm
     have ej:(F++[DE.l []])[m.length]?=some (.l []):=by rw[T,eY (aq _),dC];rfl
     rw[ej]at r
     have M:∀i b,b∈(fun i=>if i=m.length then [g] else X i) i->(i=m.length/\b=g)\/(i≠m.length/\b∈X i):=fun i b h=>by
      have h:b∈if i=m.length then [g] else X i:=h
      split at h
      ·rename_i q;exact .inl ⟨q,aV.mp h⟩
      ·rename_i q;exact .inr ⟨q,h⟩
     have H:=Vp (X':=fun i=>if i=m.length then [g] else X i) P f (H':=upd (upd s.H g (.lst [])) a (.dT (m.zip C++[(k,.ref g)]))) (fun b=>by
      by_cases z:b=a
      ·exact .inr (.inl (.inl z))
      ·by_cases z2:b=g
       ·rw[z2];exact .inr (.inr n)
       ·exact .inl (by rw[Ai z,Ai z2])) (fun b z=>by
      rcases z with z | ⟨i,z⟩
      ·exact .inl (.inl z)
      ·rcases M i b z with ⟨_,q⟩ | ⟨_,q⟩
       ·rw[q];exact .inr n
       ·exact .inl (.inr ⟨i,q⟩))
     have hd3:DB ⟨s.Hf,upd (upd s.H g (.lst [])) a (.dT (m.zip C++[(k,.ref g)])),s.fps⟩ a (m++[k]) (F++[.l []]) (fun i=>if i=m.length then [g] else X i):=by
      refine⟨⟨C++[.ref g],?_,by rw[aX,aX,B];rfl,by rw[aX,aX,q3];rfl,fun i e w=>?_⟩,fun b z=>?_,fun i i' b z z'=>?_,fun i z=>?_,fun b z=>?_,fun i Z=>?_,fun x O=>?_,?_⟩
      ·show upd _ a _ a=_
       rw[Ay,List.zip_append B];rfl
      ·by_cases z:i<F.length
       ·rw[fQ z]at w
        obtain⟨u,V,U⟩:=q4 i e w
        refine⟨u,by rw[fQ (by lia)];exact V,?_⟩
        rw[if_neg (by lia)]
        exact U.step (Same.refl _) fun b I=>by
         show upd (upd s.H g _) a _ b=_
         have na:b≠a:=fun q=>f.na i (q▸I)
         rw[Ai na,Ai (A b (.inr ⟨i,I⟩))]
       ·rw[eY (by lia)]at w
        have Z:i=F.length:=by
         rcases bO (i-F.length) 1 with q | q
         ·lia
         ·rw[jn (by simpa using q)]at w;cases w
        subst Z;rw[dC]at w
        cases w
        refine⟨.ref g,by rw[q3,eY (aq _),dC];rfl,g,[],rfl,by rw[if_pos T.symm],?_,rfl⟩
        show upd (upd s.H g _) a _ g=_
        rw[Ai (aG S),Ay]
      ·rcases z with z | ⟨i,z⟩
       ·exact f.fr b (.inl z)
       ·rcases M i b z with ⟨_,q⟩ | ⟨_,q⟩
        ·rw[q];exact⟨P.notF n,P.notS n⟩
        ·exact f.fr b (.inr ⟨i,q⟩)
      ·rcases M i b z with ⟨q,p1⟩ | ⟨q,p1⟩
       ·rcases M i' b z' with ⟨q',Q⟩ | ⟨q',Q⟩
        ·rw[q,q']
        ·exact absurd p1 (A b (.inr ⟨i',Q⟩))
       ·rcases M i' b z' with ⟨q',Q⟩ | ⟨q',Q⟩
        ·exact absurd Q (A b (.inr ⟨i,p1⟩))
        ·exact f.dis i i' b p1 Q
      ·rcases M i a z with ⟨_,q⟩ | ⟨_,q⟩
       ·exact S q
       ·exact f.na i q
      ·by_cases q:b=a
       ·rw[q];exact⟨_,Ay,trivial⟩
       ·by_cases B:b=g
        ·rw[B];exact⟨.lst [],by show upd (upd s.H g _) a _ g=_;rw[Ai (aG S),Ay],trivial⟩
        ·have zX:DX a X b:=by
          rcases z with z | ⟨i,z⟩
          ·exact .inl z
          ·rcases M i b z with ⟨_,q⟩ | ⟨_,q⟩
           ·exact absurd q B
           ·exact .inr ⟨i,q⟩
         obtain⟨o,e,mu⟩:=f.mu b zX
         exact⟨o,by show upd (upd s.H g _) a _ b=_;rw[Ai q,Ai B];exact e,mu⟩
      ·rw[aX]at Z
       show (if i=m.length then [g] else X i)=[]
       have:F.length+1<=i:=Z
       rw[if_neg (by lia)]
       exact f.out i (by lia)
      ·rcases bC.mp O with O | O
       ·exact f.ky x O
       ·rw[aV.mp O];exact t
      ·rw[jl]
       refine⟨f.nd,by simp,fun x O y hy e=>?_⟩
       rw[aV.mp hy]at e;exact Y (e▸O)
     exact Al2 he H.1 hs hd3 ej (by rw[if_pos rfl]) (zK.step r (J.moreX.trans H.2))
  ·rw[if_neg I]at r;exact r.elim
end
theorem Ay2 {H:Hp}:∀{ds:w5}{vs:n7},ds.length=vs.length->(∀(j:Nat) (x:t6) (v:V),ds[j]?=some x->vs[j]?=some v->Tr H x v)->TrL H ds vs
 | [],[],_,_=>rfl
 | [],_::_,l,_=>nomatch l
 | _::_,[],l,_=>nomatch l
 | x::ds,v::vs,l,h=>⟨v,vs,rfl,h 0 x v rfl rfl,Ay2 (gC l) fun j y u e1 e2=>h (j+1) y u (by simpa using e1) (by simpa using e2)⟩
section
variable {K:v8}{β:Nat->V}{W:Wo}{c:Ev}{σ:St}{Hf H:Hp}{a:Addr}{ks:w5}{es:List DE}{X:Nat->v5}{d:Nat}{D:Ends}
open Classical in
noncomputable def Ut (W:Wo)(a:Addr)(u:HO)(X:Nat->v5):Hp:=fun b=>if b=a then some u else if ∃j,b∈X j then W.H b else W.Hf b
theorem A7o : Ut W a u X a=some u:=by unfold Ut;grind
theorem A1l (n:b≠a) (h:b∈X j):Ut W a u X b=W.H b:=by unfold Ut;rw[if_neg n,if_pos ⟨j,h⟩]
theorem R9 (h:¬ DX a X b):Ut W a u X b=W.Hf b:=by unfold Ut;rw[if_neg fun z=>h (.inl z),if_neg fun z=>h (.inr z)]
theorem DB.same (hd:DB W a ks es X):Same W.Hf (Ut W a u X):=fun b u e=>by
 rw[R9];exact e;intro z;rw[(hd.fr b z).1]at e;grind
theorem DB.sub (hd:DB W a ks es X) (R:Rep K β W c σ):Same (Ut W a u X) (upd W.H a u):=fun b v e=>by
 by_cases z0:b=a
 ·subst z0;rw[A7o]at e;rw[Ay];lia
 ·rw[Ai z0]
  by_cases z:DX a X b
  ·rcases z with z | ⟨j,z⟩
   ·grind
   ·rw[A1l z0 z]at e;grind
  ·rw[R9 z]at e;exact R.sub b v e
theorem DB.done (hd:DB W a ks es X) (hv:W.H a=some (.dT (ks.zip vs))) (hl:ks.length=vs.length):RepT K (Ut W a (.frz o (.dT (ks.zip vs))) X) (.ds ks (es.map DE.dat)) (.ref a):=by
 obtain⟨c,f,g,q3,s⟩:=hd.at_
 have n:c=vs:=by
  rw[hv]at f
  have e:=cY (fun x => x.map (·.2)) (show ks.zip _=ks.zip _ from by injection cR f)
  simp only[jk (fD hl.symm),jk (fD g.symm)]at e
  simp_all
 subst n
 refine⟨a,o,c,rfl,A7o,Ay2 (by grind) fun j x v i w=>?_,g⟩
 rw[bD]at i;obtain⟨e,p,rfl⟩:=a_.mp i;obtain⟨u,h,k⟩:=s j e p;rw[w]at h
 cases h
 cases e with
 | d x=>exact Tr.same hd.same k.2
 | l xs =>
  obtain⟨b,q,rfl,g1,g2,t⟩:=k
  have m:b∈X j:=by simp_all
  have r:b≠a:=fun z=>hd.na j (z▸m)
  exact⟨b,q,rfl,by rw[A1l r m];grind,TrL.same hd.same t⟩
theorem Rep.hide (R:Rep K β W c σ) (hp:W.H p=none):Rep K β ⟨W.Hf,upd W.H p o,clr W.fps d⟩ (c.set d none) (σ.set d (some v)):=by
 refine⟨Vd R.sub hp,by rw[bV,bV];exact R.len,fun j f e=>?_,fun j k a m n=>R.dis j k a (Ey m).1 (Ey n).1,fun j a h=>?_⟩
 ·have z:j≠d:=fun z=>by
   grind
  rw[cL (fun y=>z y.symm)]at e
  obtain⟨g,w,r,b⟩:=R.get j f e
  refine⟨g,by grind,?_,b⟩
  show RepO K W.Hf (upd W.H p o) f g (clr W.fps d j)
  have s:clr W.fps d j=W.fps j:=by unfold clr;rw[if_neg z]
  rw[s]
  exact r.mono (Same.refl _) fun a i=>⟨(R.own j a i).1,Ai fun q=>by obtain⟨_,o,e,_⟩:=R.own j a i;rw[q,hp]at e;cases e⟩
 ·obtain⟨t,f,u,l⟩:=R.own j a (Ey h).1
  exact⟨t,f,by show upd _ p o a=_;rw[Ai fun q=>by simp_all];exact u,l⟩
def Ny (d:Nat)(F:BF)(g:Ev->SR):Ev->SR:=fun c=>if Cr d (c.set d none)=true then match F (c.set d none) [] [] with
 | .nx c ks es=>g (c.set d (some (.ty (.ds ks (es.map DE.dat)))))
 | .bad=>.bad
 else .bad
theorem A9o (h1:MB K d T F) (h2:MS K u g):MS K (Bm9 (As6 As9 (Lk d)) (tFz d T u)) (Ny d F g):=by
 intro C W c J D R l
 show ∀p,W.H p=none->T { D with nx:=fun w M=>∃a kvs,w[d]?=some (some (.ref a))/\M a=some (.dT kvs)/\∀o,u D w (upd M a (.frz o (.dT kvs))) } (J.set d (some (.ref p))) (upd W.H p (.dT []))
 intro p A;unfold Ny at l
 by_cases z:Cr d (c.set d none)=true
 ·rw[if_pos z]at l
  have hc:=Hb z
  have H:d<c.length:=by
   grind
  have Z:(J.set d (some (.ref p)))[d]?=some (some (V.ref p)):=cB (by rw[<- R.len];exact H)
  have R1:Rep K C ⟨W.Hf,upd W.H p (.dT []),clr W.fps d⟩ (c.set d none) (J.set d (some (.ref p))):=R.hide A
  have x:∀b,DX p (fun _=>[]) b->b=p:=fun b z=>by
   rcases z with z | ⟨_,z⟩
   ·exact z
   ·cases z
  have U:∀b,Wo.S ⟨W.Hf,upd W.H p (.dT []),clr W.fps d⟩ b->W.S b:=fun b ⟨j,h⟩=>⟨j,(Ey h).1⟩
  have S:DB ⟨W.Hf,upd W.H p (.dT []),clr W.fps d⟩ p [] [] (fun _=>[]) :=
   ⟨⟨[],Ay,rfl,rfl,fun j e ej=>by simp at ej⟩,fun b z=>by rw[x b z];exact⟨R.notF A,fun q=>R.notS A (U p q)⟩,fun i j b z=>(by cases z),fun j z=>(by cases z),fun b z=>by rw[x b z];exact⟨_,Ay,trivial⟩,fun _ _=>rfl,fun k Y=>(by cases Y),fG⟩
  have I:Stp W.S W.Hf W.H (orX (Wo.S ⟨W.Hf,upd W.H p (.dT []),clr W.fps d⟩) p (fun _=>[])) W.Hf (upd W.H p (.dT [])) :=
   ⟨Same.refl _,fun b o e _=>by rw[Ai (fun q=>by rw[q,A]at e;cases e)];exact e,fun _ _ _ _ _ q=>q,fun b z=>by
    grind⟩
  refine h1 C _ _ _ _ p [] [] _ R1 hc Z S ?_
  cases eF:F (c.set d none) [] [] with
  | bad=>rw[eF]at l;exact l.elim
  | nx c2 r es =>
   rw[eF]at l;intro s m y st G X E f;obtain⟨t,N,q2,_,_⟩:=f.at_
   refine⟨p,r.zip t,E,N,fun o=>?_⟩
   have R3:Rep K C ⟨Ut m p (.frz o (.dT (r.zip t))) y,upd m.H p (.frz o (.dT (r.zip t))),m.fps⟩ c2 s:=G.frame f.same (f.sub G) fun b O=>by
    have P:¬ DX p y b:=fun z=>(f.fr b z).2 O
    obtain⟨i,hi⟩:=O
    exact⟨by rw[R9 P];exact(G.own i b hi).1,Ai (fun z=>P (.inl z))⟩
   have Q:=R3.setN (i:=d) (o:=.ty (.ds r (es.map DE.dat))) (v:=.ref p) (f.done (K:=K) N q2) rfl
   have L:s.set d (some (.ref p))=s:=by
    apply List.ext_getElem?
    grind
   rw[L]at Q
   have B:Stp (orX m.S p y) m.Hf m.H (Wo.S ⟨Ut m p (.frz o (.dT (r.zip t))) y,upd m.H p (.frz o (.dT (r.zip t))),clr m.fps d⟩) (Ut m p (.frz o (.dT (r.zip t))) y) (upd m.H p (.frz o (.dT (r.zip t)))) :=
    ⟨f.same,fun b o e n=>by rw[Ai fun z=>n (.inr (.inl z))];exact e,fun b o _ _ n q=>by rw[R9 fun z=>n (.inr z)];exact q,fun b ⟨j,h⟩=>.inl (.inl ⟨j,(Ey h).1⟩)⟩
   exact h2 _ _ _ _ D Q (zN.step l (I.trans (st.trans B)))
 ·rw[if_neg z]at l;exact l.elim
def Mf (fa fw fx:o8):o8:=fun c=>(fa c).bind fun p c=>match p with
 | .o (.ty (.ds ks ds))=>(fw c).bind fun q c=>(fx c).bind fun r c=>(frz (nrm r) c).bind fun x c=>match Dl c (nrm q) with
  | some k=>if (Hx k&&ks.all Hx)=true then .ok (.o (.im ((Pa ks ds k).getD x))) c else .bad
  | none=>.bad
 | _=>.bad
theorem Xo:∀{ks ds:w5}{xs:n7}{z:t6},(∀k∈ks,Hx k=true)->Hx z=true->ds.length=xs.length->ks.length=xs.length->Pa ks ds z=none->J9 (ks.zip xs) z=none
 | [],_,_,_,_,_,_,_,_=>rfl
 | _::_,[],[],_,_,_,_,h,_=>nomatch h
 | _::_,[],_::_,_,_,_,h,_,_=>nomatch h
 | _::_,_::_,[],_,_,_,h,_,_=>nomatch h
 | k::ks,d0::ds,v::xs,z,hk,hz,l1,l2,e=>by
  have b:=(Gf (hk k aQ)).1.1;have b2:=(Gf hz).1.1
  have e:(if PyData.eqv k z=true then some d0 else Pa ks ds z)=none:=e
  by_cases h:PyData.eqv k z=true
  ·rw[if_pos h]at e;cases e
  ·rw[if_neg h]at e
   rw[bL,J0 (fun q=>h ((Kl k z b b2).mpr q))]
   exact Xo (fun k m=>hk k (aY _ m)) hz (gC l1) (gC l2) e
theorem Bc5 {H N L:TE} (ha:ME K H fa) (hw:ME K N fw) (hx:ME K L fx):ME K (Aa3 H N L) (Mf fa fw fx):=by
 intro G W c F Q R s
 refine ha G W c F _ R ((s.bnd).mono fun p c1 f v1 A Y l M g=>?_)
 match p,g,f with
 | .o (.ty (.ds ks ds)),g,f =>
  obtain⟨⟨rfl,a,I,P,rfl,O,S,T⟩,_⟩:=g
  have l:Stp W.S W.Hf W.H A.S A.Hf A.H:=l.less fun a z=>.inl z
  refine⟨a,rfl,.inr ⟨_,.inr ⟨I,M.sub _ _ O⟩⟩,?_⟩
  refine hw.toV G A c1 F _ M ((f.bnd).mono fun q c2 s2 V W2 C R2 B=>?_)
  refine hx.toV G W2 c2 F _ R2 ((s2.bnd).mono fun r c3 U v3 W3 n Z r3=>?_)
  obtain⟨x,c4,J,_,j,e4,u,y,X⟩:=Fj Z r3 U.bnd;have D:=C.trans (n.trans u);have B:=RepA.same (n.fz.trans u.fz) B;rw[<- e4]
  cases ed:Dl c4 (nrm q) with
  | none=>simp only[ed]at j;exact j.elim
  | some k =>
   simp only[ed]at j
   by_cases hb:(Hx k&&ks.all Hx)=true
   ·rw[if_pos hb]at j
    obtain⟨w,i⟩:=aC.mp hb
    have i:∀k∈ks,Hx k=true:=fun k m=>cG.mp i k m
    obtain⟨_,kd,E⟩:=Gf w
    have tz:Tr J.Hf k V:=by rw[E]at ed ⊢;exact Fd y B ed
    obtain⟨b,rfl,kb⟩:=Ae8 w tz;have e2:Rd J.H a (.dT _):=.inr ⟨I,y.sub _ _ (D.fz _ _ O)⟩
    have o:∀d v,Tr _ d v->(Pa _ _ k).getD x=d->Q v _:=fun d v t e=>by
     rw[e]at j
     exact j v _ _ ((l.trans D).less fun a h=>by
      rcases h with h | h
      ·exact h
      ·cases h) y ⟨⟨rfl,t⟩,fun a h=>nomatch h⟩
    refine⟨_,.inr ⟨_,_,b,e2,rfl,kb.stay fun b P q=>y.sub _ _ q,rfl⟩,?_⟩
    cases el:Pa _ _ k with
    | some d =>
     obtain⟨v,q1,q2⟩:=A0b i w (TrL.same D.fz S) el;rw[q1]
     exact o d v q2 (by rw[el];rfl)
    | none =>
     rw[Xo i w S.length T el]
     exact o x _ X (by rw[el];rfl)
   ·rw[if_neg hb]at j;exact j.elim
 | .o (.ty (.nm _)),g,f=>exact f.elim
 | .o (.ty (.tc _)),g,f=>exact f.elim
 | .o (.ty (.xc _)),g,f=>exact f.elim
 | .o (.ty (.dc _ _)),g,f=>exact f.elim
 | .o (.ty (.dt _ _)),g,f=>exact f.elim
 | .o (.ty (.td _ _ _)),g,f=>exact f.elim
 | .o (.im _),g,f=>exact f.elim
 | .o (.ls _ _),g,f=>exact f.elim
 | .o (.sc _),g,f=>exact f.elim
 | .sl _,g,f=>exact f.elim
end
section
variable {K:v8}{W W':Wo}{c:Ev}{Hf H:Hp}
noncomputable def Yd (Hf H:Hp):Hp:=fun b=>match H b with
 | some (.tup xs)=>some (.tup xs)
 | _=>Hf b
theorem Q0 (e:H b=some (.tup xs)):Yd Hf H b=some (.tup xs):=by unfold Yd;rw[e]
theorem Vo (h:∀xs,H b≠some (.tup xs)):Yd Hf H b=Hf b:=by
 unfold Yd
 grind
theorem Ys (s:Same Hf H):Same Hf (Yd Hf H):=fun b u e=>by
 by_cases h:∃a,H b=some (.tup a)
 ·obtain⟨a,c⟩:=h
  rw[Q0 c,<- c];exact s b u e
 ·rw[Vo fun a q=>h ⟨a,q⟩];grind
theorem Wq (s:Same Hf H):Same (Yd Hf H) H:=fun b u e=>by
 by_cases h:∃a,H b=some (.tup a)
 ·obtain⟨a,c⟩:=h
  rw[Q0 c]at e;grind
 ·rw[Vo fun a q=>h ⟨a,q⟩]at e;exact s b u e
theorem V0 (s:Same Hf H):Stp (fun _=>False) Hf H (fun _=>False) (Yd Hf H) H :=
 ⟨Ys s,fun _ _ e _=>e,fun b o e a _ q=>by
  rw[Vo fun c z=>by rw[e]at z;cases z;exact a];grind,fun _ z=>z.elim⟩
mutual
theorem Ag5 {H':Hp}(h:∀b xs,H b=some (.tup xs)->H' b=some (.tup xs)):∀{d:t6}{v:V},KTr H d v->Tr H' d v
 | .none,_,e=>e
 | .int _,_,e=>e
 | .str _,_,e=>e
 | .tuple _,_,⟨a,vs,e,ha,t⟩=>⟨a,vs,e,h _ _ ha,Ax8 h t⟩
theorem Ax8 {H':Hp}(h:∀b xs,H b=some (.tup xs)->H' b=some (.tup xs)):∀{ds:w5}{vs:n7},KTrL H ds vs->TrL H' ds vs
 | [],_,e=>e
 | _::_,_,⟨v,r,e,a,t⟩=>⟨v,r,e,Ag5 h a,Ax8 h t⟩
end
theorem A9h {ks:w5}{xs:n7}{i:Nat} (e:(ks.zip xs)[i]?=some (k,v)):ks[i]?=some k/\xs[i]?=some v:=by
 grind
def Ac1 (fa:o8):Ev->R (w5):=fun c=>(fa c).bind fun p c=>match p with
 | .o (.ty (.ds ks _))=>.ok ks c
 | _=>.bad
theorem Bc4 (ha:ME K r fa):MI K (iDK r) (Ac1 fa):=by
 intro D W c w k R s
 refine ha D W c w _ R ((s.bnd).mono fun p c1 f v1 m y h t g=>?_)
 match p,g,f with
 | .o (.ty (.ds ks ds)),g,f =>
  obtain⟨⟨rfl,a,o,j,rfl,n,t1,l1⟩,_⟩:=g
  have h:Stp W.S W.Hf W.H m.S m.Hf m.H:=h.less fun a z=>.inl z
  have lz:(ks.zip j).length=ks.length:=by simp_all
  refine⟨a,o,ks.zip j,rfl,t.sub _ _ n,f (Itk a o) m h t fun i C H q l=>⟨fun e=>⟨ks.zip j,l _ _ (q _ _ n),by simp_all⟩,fun d B=>⟨⟨ks.zip j,l _ _ (q _ _ n),by grind⟩,fun x H' E=>?_⟩⟩⟩
  obtain⟨rfl,A,k',v,b,G,F,rfl,I⟩:=E
  cases (G.symm.trans (l _ _ (q _ _ n)))
  obtain⟨u,_⟩:=A9h F
  cases B.symm.trans u
  exact⟨Yd _ _,V0 l,Wq l,Ag5 (fun b j e=>Q0 e) I.2⟩
 | .o (.ty (.nm _)),g,f=>trivial
 | .o (.ty (.tc _)),g,f=>trivial
 | .o (.ty (.xc _)),g,f=>exact f.elim
 | .o (.ty (.dc _ _)),g,f=>exact f.elim
 | .o (.ty (.dt _ _)),g,f=>exact f.elim
 | .o (.ty (.td _ _ _)),g,f=>exact f.elim
 | .o (.im _),g,f=>exact f.elim
 | .o (.ls _ _),g,f=>exact f.elim
 | .o (.sc _),g,f=>exact f.elim
 | .sl _,g,f=>trivial
noncomputable def Jd:w5->w5->w5
 | k::ks,d::ds=>.tuple [k,d]::Jd ks ds
 | _,_=>[]
theorem Px:∀{ks ds:w5},ks.length=ds.length->(Jd ks ds).length=ks.length
 | [],[],_=>rfl
 | [],_::_,h=>nomatch h
 | _::_,[],h=>nomatch h
 | _::ks,_::ds,h=>by
  show (Jd ks ds).length+1=_
  rw[Px (gC h)];rfl
theorem Y5:∀{ks ds:w5}{i:Nat}{x:t6},(Jd ks ds)[i]?=some x->∃k d,ks[i]?=some k/\ds[i]?=some d/\x=.tuple [k,d]
 | [],_,_,_,e=>by simp[Jd]at e
 | _::_,[],_,_,e=>by simp[Jd]at e
 | k::ks,d::ds,0,x,e=>by
  cases (show some (PyData.tuple [k,d])=some x from e)
  exact⟨k,d,rfl,rfl,rfl⟩
 | k::ks,d::ds,i+1,x,e=>by
  obtain⟨k',d',h1,h2,h3⟩:=Y5 (show (Jd ks ds)[i]?=some x by simpa[Jd] using e)
  exact⟨k',d',by simpa using h1,by simpa using h2,h3⟩
theorem TrL.at {H:Hp}:∀{ds:w5}{vs:n7}{i:Nat}{d:t6}{v:V},TrL H ds vs->ds[i]?=some d->vs[i]?=some v->Tr H d v
 | [],_,_,_,_,_,e,_=>by simp at e
 | x::ds,_,0,d,v,⟨u,r,e0,t,_⟩,e1,e2=>by
  subst e0
  cases (show some x=some d from e1)
  cases (show some u=some v from e2)
  exact t
 | x::ds,_,i+1,d,v,⟨u,r,e0,_,ts⟩,e1,e2=>by
  subst e0
  exact TrL.at ts (by simpa using e1) (by simpa using e2)
def Vb (fa:o8):Ev->R (w5):=fun c=>(fa c).bind fun p c=>match p with
 | .o (.ty (.ds ks ds))=>if ks.length=ds.length then .ok (Jd ks ds) c else .bad
 | _=>.bad
theorem A2h (ha:ME K B fa):MI K (iDI B) (Vb fa):=by
 intro F W c P k R s
 refine ha F W c P _ R ((s.bnd).mono fun p Y f v1 r X h y g=>?_)
 match p,g,f with
 | .o (.ty (.ds ks ds)),g,f =>
  obtain⟨⟨rfl,a,o,m,rfl,q,A,I⟩,_⟩:=g
  have h:Stp W.S W.Hf W.H r.S r.Hf r.H:=h.less fun a z=>.inl z
  have C:(ks.zip m).length=ks.length:=by simp_all
  have w:ks.length=ds.length:=I.trans A.length.symm
  have f:(if ks.length=ds.length then U.R.ok (Jd ks ds) Y else .bad:U.R (w5)).sat _:=f
  rw[if_pos w]at f
  refine⟨a,o,ks.zip m,rfl,y.sub _ _ q,f (Iti a o) r h y fun i j H n l=>⟨fun e=>⟨ks.zip m,l _ _ (n _ _ q),by rw[C,e,Px w];lia⟩,fun d J=>⟨⟨ks.zip m,l _ _ (n _ _ q),by rw[C,<- Px w];grind⟩,fun x H' M=>?_⟩⟩⟩
  obtain⟨p,G,k',v,b,rfl,D,rfl,Q,S,N⟩:=M
  cases (Q.symm.trans (l _ _ (n _ _ q)))
  obtain⟨L,O⟩:=A9h S;obtain⟨k2,d2,V,T,rfl⟩:=Y5 J
  cases (V.symm.trans L)
  have u:=Wq (Hf:=j) l;have E:Yd j H p=none:=Same.free u D;have t:=Stp.newF (o:=.tup [.ref b,v]) u D
  refine⟨upd (Yd j H) p _,(V0 l).trans t,Kp u,p,_,rfl,Ay,.ref b,_,rfl,Tr.same (Bo E) (Ag5 (fun b m e=>Q0 e) N.2),v,[],rfl,Tr.same (Bo E) (Tr.same (Ys l) (Tr.same n (TrL.at A T O))),rfl⟩
 | .o (.ty (.nm _)),g,f=>exact f.elim
 | .o (.ty (.tc _)),g,f=>exact f.elim
 | .o (.ty (.xc _)),g,f=>exact f.elim
 | .o (.ty (.dc _ _)),g,f=>exact f.elim
 | .o (.ty (.dt _ _)),g,f=>exact f.elim
 | .o (.ty (.td _ _ _)),g,f=>exact f.elim
 | .o (.im _),g,f=>exact f.elim
 | .o (.ls _ _),g,f=>exact f.elim
 | .o (.sc _),g,f=>exact f.elim
 | .sl _,g,f=>trivial
def Ax6 (fa:o8):o8:=fun c=>(fa c).bind fun p c=>match p with
 | .o (.ty (.ds ks _))=>.ok (.o (.im (.tuple ks))) c
 | _=>.bad
theorem A6c {H':Hp}(h:∀b xs,H b=some (.tup xs)->H' b=some (.tup xs)):∀{ks:w5}{vs:n7},Br4 H ks vs->TrL H' ks vs
 | [],_,e=>e
 | k::ks,_,⟨b,r,e,kb,t⟩=>⟨.ref b,r,e,Ag5 h kb.2,A6c h t⟩
theorem Bj8 (ha:ME K l fa):ME K (Bv7 l) (Ax6 fa):=by
 intro B W c C Q R s
 refine ha B W c C _ R ((s.bnd).mono fun p c1 d v1 j y g h f=>?_)
 match p,f,d with
 | .o (.ty (.ds ks ds)),f,d =>
  obtain⟨⟨rfl,a,o,r,rfl,u,t1,x⟩,_⟩:=f
  have g:Stp W.S W.Hf W.H j.S j.Hf j.H:=g.less fun a z=>.inl z
  refine⟨a,o,ks.zip r,rfl,h.sub _ _ u,fun m p n q=>?_⟩
  rw[List.map_fst_zip (fD x)]at n;have i:=Wq h.sub;have w := Same.free i q;have k:=(V0 h.sub).trans (Stp.newF (o:=.tup m) i q)
  exact New.of h (fun v W' fp A D t=>d v _ _ (g.trans A) D t) _ _ _ [] (k.less fun a z=>nomatch z) (Kp i) ⟨rfl,p,m,rfl,Ay,TrL.same (Bo w) (A6c (fun b r e=>Q0 e) n)⟩
 | .o (.ty (.nm _)),f,d=>trivial
 | .o (.ty (.tc _)),f,d=>trivial
 | .o (.ty (.xc _)),f,d=>trivial
 | .o (.ty (.dc _ _)),f,d=>trivial
 | .o (.ty (.dt _ _)),f,d=>trivial
 | .o (.ty (.td _ _ _)),f,d=>exact d.elim
 | .o (.im _),f,d=>exact d.elim
 | .o (.ls _ _),f,d=>exact d.elim
 | .o (.sc _),f,d=>exact d.elim
 | .sl _,f,d=>trivial
end
section
variable {K:v8}{β:Nat->V}{W W1:Wo}{c:Ev}{σ:St}{Hf H:Hp}{a:Addr}{ks:w5}{es:List DE}{X:Nat->v5}{d:Nat}{D:Ends}{fp:v5}
def Zf (f:o6):o8:=fun c=>(f c).bind fun ps c=>match ps with
 | [p,q,.o (.ty (.ds ks ds))]=>(frzs [p,q] c).bind fun xs c=>.ok (.o (.ty (.td xs ks ds))) c
 | _=>.bad
theorem Bn2 (h:MA K t f):ME K (Bq1 t) (Zf f):=by
 intro n W c B Q R s
 refine h n W c B _ R (s.bnd.mono fun L c1 m N W1 l S r=>?_)
 split at m
 ·rename_i p q x y
  obtain⟨v,_,rfl,i,u,_,rfl,C,w,_,rfl,⟨b,o,D,rfl,E,F,G⟩,e⟩:=r
  cases (show _=[] from e)
  obtain⟨H,c2,J,A,M,d,g,I⟩:=Oz (ps:=[p,q]) (vs:=[v,u]) S ⟨v,[u],rfl,i,u,[],rfl,C,rfl⟩ m.bnd
  refine⟨by show (3:Nat)<=_;decide,fun p j=>?_⟩
  rw[<- M]at j ⊢;have k:=Bo (o:=.tup ([v,u]++[.ref b])) (Same.free g.sub j)
  exact New.of (o:=.ty (.td H x y)) g (fun v P O T U i=>A v P O (l.trans (d.trans T)) U i) (.ref p) (upd J.Hf p (.tup ([v,u]++[.ref b]))) _ [] ((Stp.newF g.sub j).less fun a (z:a∈[])=>nomatch z) (Kp g.sub)
   ⟨rfl,p,[v,u],b,o,D,rfl,Ay,TrL.same k I,k _ _ (d.fz _ _ E),TrL.same k (TrL.same d.fz F),G⟩
 trivial
def Bj7 (i j k:Nat):p8:=fun p c=>match p with
 | .o (.ty (.td [x,y] ks ds))=>(cgN i (.o (.im x)) c).bind fun _ c=>(cgN j (.o (.im y)) c).bind fun _ c=>cgN k (.o (.ty (.ds ks ds))) c
 | _=>.bad
theorem B4k : MG K (A5i K 3 (Rf (Lk i) (Rf (Lk j) (Rf (Lk k) A5g)))) (Bj7 i j k):=by
 intro β W c σ p v fp φ R r s;unfold Bj7 at s
 split at s
 ·rename_i x y ks ds
  obtain⟨⟨rfl,a,us,b,o,u,rfl,w,A,B,C,l⟩,_⟩:=r;obtain⟨D,_,rfl,E,F,_,rfl,G,e⟩:=A
  cases (e)
  have m:∀{W:Wo} {g:Wo},Stp (orS W.S []) W.Hf W.H g.S g.Hf g.H->Stp W.S _ _ _ _ _:=fun J=>J.up fun a z=>by
   grind
  refine⟨a,_,rfl,SqT.of (R.sub _ _ w),rfl,D,_,rfl,U3 _ W c _ (.o (.im x)) _ _ _ R ⟨⟨rfl,E⟩,fun a z=>nomatch z⟩ (s.bnd.mono fun _ c1 L t g d M=>?_)⟩
  have d:=m d
  refine⟨F,_,rfl,U3 _ _ _ _ (.o (.im y)) _ _ _ M ⟨⟨rfl,Tr.same d.fz G⟩,fun a z=>nomatch z⟩ (L.bnd.mono fun _ c2 H I W2 f O=>?_)⟩
  have f:=m f;have n:=d.fz.trans f.fz
  refine⟨.ref b,_,rfl,U3 _ _ _ _ (.o (.ty (.ds _ _))) _ _ _ O ⟨⟨rfl,b,o,u,rfl,n _ _ B,TrL.same n C,l⟩,fun a z=>nomatch z⟩ (H.mono fun _ c3 N P W3 h q=>?_)⟩
  exact⟨rfl,N _ _ ((d.trans (f.trans (m h))).up fun a z=>.inl z) q⟩
 trivial
def Bs1 (ks:w5)(es:List DE)(k x:t6):Option t6:=match Mz k ks with
 | some j=>match es[j]? with
  | some (.d y)=>some y
  | _=>none
 | none=>some x
def Bj0 (fw fx:o8):w5->List DE->Ev->R PV:=fun ks es c=>(fw c).bind fun q c=>(fx c).bind fun r c=>(frz (nrm r) c).bind fun x c=>match Dl c (nrm q) with
 | some k=>if Hx k=true then match Bs1 ks es k x with
  | some y=>.ok (.o (.im y)) c
  | none=>.bad
  else .bad
 | none=>.bad
theorem Bn7 (hw:ME K w fw) (hx:ME K B fx):MVB K d (Aa3 (Aq7 d) w B) (Bj0 fw fx):=by
 intro A W c C Q a F P X R hs g s;obtain⟨J,p,_⟩:=g.at_
 refine⟨_,hs,a,rfl,.inr ⟨_,.inl p⟩,?_⟩
 refine hw.toV A W c C _ R ((s.bnd).mono fun q T U G Y o E n=>?_)
 refine hx.toV A Y T C _ E ((U.bnd).mono fun r c3 I v3 W3 i L M=>?_)
 obtain⟨x,N,O,_,f,S,h,m,H⟩:=Fj L M I.bnd;have t:=o.trans (i.trans h)
 have g:=g.step t fun _ z=>z
 rw[<- S]
 cases ed:Dl N (nrm q) with
 | none=>simp only[ed]at f;exact f.elim
 | some k =>
  simp only[ed]at f
  by_cases hk:Hx k=true
  ·rw[if_pos hk]at f
   obtain⟨_,kd,u⟩:=Gf hk
   have Z:Tr O.Hf k G:=by rw[u]at ed ⊢;exact Fd m (RepA.same (i.fz.trans h.fz) n) ed
   obtain⟨b,rfl,kb⟩:=Ae8 hk Z;obtain⟨vs,V,q2,q3,q4⟩:=g.at_
   refine⟨_,.inr ⟨_,_,b,.inl V,rfl,kb.stay fun b xs q=>m.sub _ _ q,rfl⟩,?_⟩
   unfold Bs1 at f
   cases ei:Mz k F with
   | none =>
    simp only[ei]at f;rw[(Jr hk g.ky ei).2];exact f _ _ t m H
   | some j =>
    simp only[ei]at f;obtain⟨i1,i2⟩:=Lg hk g.ky q2 ei;rw[i2]
    cases ee:P[j]? with
    | none=>rw[ee]at f;exact f.elim
    | some e =>
     rw[ee]at f
     cases e with
     | l xs=>exact f.elim
     | d y =>
      obtain⟨v,f1,D⟩:=q4 j _ ee;rw[f1];exact f v _ t m D.2
  ·rw[if_neg hk]at f;exact f.elim
noncomputable def imO:n6->n6
 | some (.im x)=>some (.im x)
 | _=>none
theorem Bx4 (ha:MVB K d h fa) (hb:ME K i fb) (hr:OpS K r op):MVB K d (tOp r h i) (fun ks es=>cOp (fun x y=>imO (op x y)) (fa ks es) fb):=by
 intro j W c w Q a ks es X R A l s
 refine ha j W c w _ a _ _ X R A l (s.bnd.mono fun p J t F G g m f=>?_)
 refine hb.toV j _ _ _ _ m (t.bnd.mono fun q k b H I e D u=>?_)
 cases ex:Dl k (nrm p) with
 | none=>simp only[ex]at b;exact b.elim
 | some x =>
  cases ey:Dl k (nrm q) with
  | none=>simp only[ex,ey]at b;exact b.elim
  | some y =>
   simp only[ex,ey]at b
   cases eo:op x y with
   | none=>simp only[eo]at b;exact b.elim
   | some o =>
    simp only[eo]at b
    cases o with
    | im z =>
     exact hr _ _ _ _ x y _ Q D.sub (Fd D (RepA.same e.fz f) ex) (Fd D u ey) eo (New.of D fun v L E B C n=>b v _ ((g.trans (e.trans B)).less fun a z=>.inl z) C n.1.2)
    | ls _ _=>exact b.elim
    | sc _=>exact b.elim
    | ty _=>exact b.elim
def Bo8 (i j:Nat)(f:o6):BF:=fun c ks es=>(f c).toB fun ps c=>(frzs ps c).toB fun ds c=>match ds with
 | [x,y]=>if Cr d ((c.set i (some (.im x))).set j (some (.im y)))=true then .nx ((c.set i (some (.im x))).set j (some (.im y))) ks es else .bad
 | _=>.bad
theorem B2y (h:MA K p f) (hi:i≠d) (hj:j≠d):MB K d (Bx6 i j p) (Bo8 (d:=d) i j f):=by
 intro w W c E D a ks es X R hc hs s l
 refine h w W c E _ R ((Fe l).mono fun ps c1 t vs W1 k A B=>?_)
 obtain⟨ds,C,g,b,q,m,G,H⟩:=Oz A B (Fe t)
 split at b
 ·rename_i x y
  obtain⟨v,r,rfl,I,u,F,rfl,L,e⟩:=H
  cases (show F=[] from e)
  refine⟨v,u,rfl,?_⟩
  have J:=G.setN (i:=i) (o:=.im x) I rfl;have M:=J.setN (i:=j) (o:=.im y) (v:=u) L rfl
  by_cases z:Cr d ((C.set i (some (.im x))).set j (some (.im y)))=true
  ·rw[if_pos z]at b
   rw[<- q]
   have n:Stp _ _ _ (Wo.S ⟨g.Hf,g.H,clr (clr _ i) j⟩) _ _:=(k.trans m).less fun a z=>Bh0 (Bh0 z)
   exact b _ ⟨g.Hf,g.H,clr _ j⟩ X n.moreX M (Hb z) (by simp_all) (s.step n fun _ z=>z)
  ·rw[if_neg z]at b;exact b.elim
 ·exact b.elim
end
variable {K:v8}
noncomputable def Le:t6->t6->n6
 | .list ds,.str y=>(strsOf ds).map fun ss=>.im (.int ((ss.countP fun z=>z==y:Nat)))
 | _,_=>none
theorem Ar7:OpS K (fun x y H Q=>A1h K x [y] H Q) Le:=by
 intro Hf H x y dx dy o Q s f c e n;unfold Le at e
 split at e
 ·rename_i d z
  obtain⟨a,vs,rfl,g,t⟩:=Fo f
  cases es:strsOf d with
  | none=>grind
  | some b =>
   rw[es]at e;cases e
   cases Gn c
   cases As7 es t
   exact⟨a,b,z,rfl,rfl,SqL.of g,n.int s⟩
 grind
noncomputable def Jc:t6->t6->n6
 | .list a,.int k=>if a.length*k.toNat<=16000000&&(decide (-16000000<=k)&&decide (k<=16000000)) then some (.ls false (B6k a k.toNat)) else none
 | _,_=>none
theorem A8y:OpS K B2g Jc:=by
 intro k H x y i j o Q s f h e n;unfold Jc at e
 split at e
 ·split at e
  ·rename_i l
   cases e
   simp at l
   obtain⟨p,d,c,g,a⟩:=Fo f
   exact⟨p,_,d,c,Dz h,g,by lia,by lia,by rw[<- a.length];exact lim l.1,fun r b=>n.lst s (Ay4 a _) b⟩
  ·cases e
 grind
theorem Ba {p a:Pos}(D:Def X.prog X.w X.K X.mg X.base x k ps sp) (hr:Room c X.A) (ha:QA X (e::es) t) (h:k<=c:=by lia) (hg:Gl X x:=by rfl)
 (hdb:(x==("__debug__" : Str))=false:=by decide) (hn:noStar (e::es)=true:=by rfl):QE X (.Call (.Name x p) (e::es) [] a) (Al0 sp [] E0 t):=by
 obtain⟨f,g,G,b,d,m⟩:=D;exact A7y G (hr.mono h) hg m d b .nil B5j ha hdb hn
variable {K:v8}{W W':Wo}{c:Ev}{Hf H:Hp}
theorem Az3 {vs us:n7}{xs ys:w5}(s:Same Hf H)(q1:TrL Hf xs vs)(q2:TrL Hf ys us):∀{i:Nat}{ps:n7}{H2:Hp},LaidS H vs us i ps H2->∃Hf2,Stp (fun _=>False) Hf H (fun _=>False) Hf2 H2/\Same Hf2 H2/\TrL Hf2 ((Io xs ys).take i) ps
 | 0,_,_,⟨e1,e2⟩=>by subst e1 e2;exact⟨Hf,.refl,s,rfl⟩
 | i+1,_,_,⟨r,H',p,x,y,l,hx,hy,hp,e1,e2⟩=>by
  subst e1 e2;obtain⟨Hf',st,s',t⟩:=Az3 s q1 q2 l;obtain⟨dx,ex,tx⟩:=q1.get hx;obtain⟨dy,ey,ty⟩:=q2.get hy;have fr:Hf' p=none:=s'.free hp
  have e:(Io xs ys)[i]?=some (.tuple [dx,dy]):=by
   unfold Io;rw[bD,(jc (l₁:=xs) (l₂:=ys) (z:=(dx,dy))).mpr ⟨ex,ey⟩];rfl
  refine⟨upd Hf' p (.tup [x,y]),st.trans (Stp.newF s' hp),Kp s',?_⟩
  rw[fU,e]
  have up:=fun {d:t6} {v:V} (t:Tr Hf d v)=>Tr.same (Bo (o:=.tup [x,y]) fr) (Tr.same st.fz t)
  exact TrL.app (TrL.same (Bo fr) t) (TrL.one ⟨p,_,rfl,Ay,x,_,rfl,up tx,y,[],rfl,up ty,rfl⟩)
def A6x (f g:o8):o8:=fun c=>(f c).bind fun p c=>(g c).bind fun q c=>(frz (nrm p) c).bind fun x c=>(frz (nrm q) c).bind fun y c=>match Fl x,Fl y with
 | some xs,some ys=>if xs.length=ys.length then .ok (.o (.im (.tuple (Io xs ys)))) c else .bad
 | _,_=>.bad
theorem Bs2 (h:ME K t f) (h':ME K u g):ME K (Bt4 (Cm t (Cm u Gm))) (A6x f g):=by
 intro A W c C Q R s
 refine h.toV A W c C _ R (s.bnd.mono fun p T Y v1 O m R1 r1=>?_)
 refine h'.toV A O T C _ R1 (Y.bnd.mono fun q c2 s2 v2 W2 k U X=>?_)
 obtain⟨x,c3,W3,_,s3,e3,j,R3,M⟩:=Fj U (RepA.same k.fz r1) s2.bnd;obtain⟨y,c4,W4,_,d,N,e,l,S⟩:=Fj R3 (RepA.same j.fz X) s3.bnd
 cases ex:Fl x with
 | none=>simp only[ex]at d;exact d.elim
 | some D =>
  cases ey:Fl y with
  | none=>simp only[ex,ey]at d;exact d.elim
  | some E =>
   simp only[ex,ey]at d
   by_cases hl:D.length=E.length
   ·rw[if_pos hl]at d
    obtain⟨V,a,F,rfl,J,Z⟩:=V3 ex M;obtain⟨t2,b,us,rfl,h2,B⟩:=V3 ey S;rw[<- e3,<- N];have z:=Gr e.fz J;have i:=TrL.same e.fz Z
    refine⟨a,b,rfl,V,t2,F,us,Gr l.sub z,Gr l.sub h2,by rw[<- i.length,<- B.length];exact hl,fun H p H2 L G=>?_⟩
    obtain⟨Hf2,r,n,I⟩:=Az3 l.sub i B L
    have lz:(Io D E).length=F.length:=by unfold Io;rw[ao,eZ,<- hl,fM,i.length]
    rw[List.take_of_length_le (fD lz)]at I;have fr := n.free G
    exact New.of l (fun v W' fp st w P=>d v _ _ ((m.trans (k.trans (j.trans e))).trans st) w P) _ _ _ [] ((r.trans (Stp.newF (o:=.tup H) n G)).less fun a z=>nomatch z) (Kp n) ⟨rfl,p,H,rfl,Ay,TrL.same (Bo fr) I⟩
   ·rw[if_neg hl]at d;exact d.elim
def A3x (j:Nat)(fi:Ev->R (w5)):Ev->R (w5):=fun c=>(Aa j c).bind fun p c=>(frz (nrm p) c).bind fun _ c=>fi c
theorem B3r (h:MI K b fi):MI K b (A3x j fi):=by
 intro z W c i k R s
 obtain⟨_,_,q⟩:=me_var.toV _ W c _ (fun _ u=>u=W.H->b i W.H k) R (s.bnd.mono fun p x l v H e m n A=>by
  obtain⟨d,E,G,_,o,y,a,t,B⟩:=Fj m n l.bnd
  have q:=h _ _ _ _ k t (o.mono fun C D r J F f w g=>r J _ (e.trans (a.trans f)) w g)
  grind)
 grind
end U
namespace U
open PySem L2
noncomputable def cTC (ss:v4):o8:=fun c=>.ok (.o (.ty (.tc ss))) c
noncomputable def Bc8:n6->Option (v4)
 | some (.ty (.tc ss))=>some ss
 | _=>none
def Am0 (op:v4->t6->n6)(fe fy:o8):o8:=fun c=>(fe c).bind fun p c=>(fy c).bind fun q c=>match Dl c (nrm p) with
 | some d=>(match Bc8 (rdP c (nrm q)) with
  | some ss=>(match op ss d with
   | some o=>.ok (.o o) c
   | none=>.bad)
  | none=>.bad)
 | none=>.bad
section
variable {K:v8}{β:Nat->V}{W:Wo}{c:Ev}{σ:St}{p:Addr}{ss:v4}
theorem B5w (h:∀H,SqT K H p (ss.map V.str)):ME K (tC (.ref p)) (cTC ss):=fun b W c a Q R s=>R.here (o:=.ty (.tc _)) ⟨p,rfl,h⟩ rfl s
theorem Bj9 (e:Bc8 o=some ss):o=some (.ty (.tc ss)):=by
 unfold Bc8 at e
 grind
theorem B5i (R:Rep K β W c σ) (r:RepA K W.Hf σ q v) (e:rdP c q=some (.ty (.tc ss))):∃p,v=.ref p/\∀H,SqT K H p (ss.map V.str):=by
 cases q with
 | o f=>cases e;exact r
 | sl i =>
  have e:c[i]?.join=some _:=e
  have b:c[i]?=some (some (.ty (.tc ss))):=by
   grind
  obtain⟨g,a,d,_⟩:=R.get i _ b;rw[r]at a;cases a;exact d.2
theorem Bq0 (he:ME K l fe) (hy:ME K ty m):ME K (tOp (rIn K neg) l ty) (Am0 (T7 neg) fe m):=by
 intro j W c k Q R s
 refine he.toV j W c k _ R ((s.bnd).mono fun p w t v1 r f z g=>?_)
 refine hy.toV j r w k _ z ((t.bnd).mono fun q i b v2 W2 d e A=>?_)
 have g:=RepA.same d.fz g
 cases ex:Dl i (nrm p) with
 | none=>simp only[ex]at b;trivial
 | some x =>
  cases ey:Bc8 (rdP i (nrm q)) with
  | none=>simp only[ex,ey]at b;exact b.elim
  | some C =>
   simp only[ex,ey]at b
   cases eo:T7 neg C x with
   | none=>simp only[eo]at b;exact b.elim
   | some o =>
    obtain⟨a,rfl,u⟩:=B5i e A (Bj9 ey);have h:=Fd e g ex
    match x,h,eo with
    | .str y,h,eo =>
     cases Gn h
     exact⟨a,_,rfl,.inr (u _),rfl,Zd _,(New.of e fun v W' fp B D n=>b v _ _ (f.trans (d.trans B)) D n).bl e.sub⟩
end
end U
namespace PS
open PySem PySem.W PyProof.Rows L2
theorem Ln {α β:Type}{B:Nat->Nat->Option Bool}{f:α->KasT β}:∀t:KasT α,kEv B (t.bind f)=(kEv B t).bind fun a=>kEv B (f a)
 | .ret a=>rfl
 | .ask i j k=>by
  show (B i j).bind (fun b=>kEv B ((k b).bind f))=((B i j).bind fun b=>kEv B (k b)).bind fun a=>kEv B (f a)
  rw[Option.bind_assoc]
  congr 1;funext b
  exact Ln (k b)
structure Ord (lt:Nat->Nat->Bool):Prop where
 irr:∀a,lt a a=false
 tr:∀a b c,lt a b=true->lt b c=true->lt a c=true
 neg:∀a b c,lt a c=true->lt a b=true\/lt b c=true
def Rr (lt:Nat->Nat->Bool)(x y:Nat):Prop:=lt x y=true\/(lt y x=false/\x<y)
section
variable {lt:Nat->Nat->Bool}{B:Nat->Nat->Option Bool}{n:Nat}{p:Array Nat}
theorem Ord.no (O:Ord lt) (h:lt a b=true):lt b a=false:=by
 cases e:lt b a with
 | false=>rfl
 | true=>have:=O.tr _ _ _ h e;rw[O.irr]at this;trivial
theorem Rr.trans (O:Ord lt) (h:Rr lt a b) (k:Rr lt b c):Rr lt a c:=by
 rcases h with h | ⟨h,f⟩
 ·rcases k with k | ⟨k,d⟩
  ·exact .inl (O.tr _ _ _ h k)
  ·rcases O.neg _ c _ h with z | z
   ·exact .inl z
   simp_all
 ·rcases k with k | ⟨k,d⟩
  ·rcases O.neg _ a _ k with z | z
   ·simp_all
   ·exact .inl z
  ·refine .inr ⟨?_,by lia⟩
   cases e:lt c a with
   | false=>rfl
   | true =>
    rcases O.neg _ b _ e with z | z
    ·simp_all
    simp_all
def Eq' (lt:Nat->Nat->Bool)(x y:Nat):Prop:=lt x y=false/\lt y x=false
theorem Eq'.lt_of (O:Ord lt) (h:Eq' lt a b) (k:lt b c=true):lt a c=true:=by
 rcases O.neg _ a _ k with z | z
 ·rw[h.2]at z;grind
 trivial
theorem Eq'.lt_to (O:Ord lt) (h:Eq' lt a b) (k:lt c b=true):lt c a=true:=by
 rcases O.neg _ a _ k with z | z
 ·grind
 ·rw[h.1]at z;grind
theorem Eq'.trans (O:Ord lt) (h:Eq' lt a b) (k:Eq' lt b c):Eq' lt a c:=by
 refine⟨?_,?_⟩
 ·cases e:lt a c with
  | false=>rfl
  | true=>
   rcases O.neg _ b _ e with z | z
   ·rw[h.1]at z;grind
   ·rw[k.1]at z;grind
 ·cases e:lt c a with
  | false=>rfl
  | true=>
   rcases O.neg _ b _ e with z | z
   ·rw[k.2]at z;grind
   ·rw[h.2]at z;grind
theorem gD (p:Array Nat)(k:Nat):p.getD k 0=(p[k]?).getD 0:=by
 simp_all
theorem K8 (hj:j<=p.size) (k:Nat):(kas_rev p i j).getD k 0=if i<=k/\k<j then p.getD (i+j-1-k) 0 else p.getD k 0:=by
 rw[gD,gD,gD,kas_rev,getElem?_mirror_all hj]
 grind
theorem B3f (hs:src<p.size) (hd:d<=src) (k:Nat):(bubble p src d).getD k 0=if k=src-d then p.getD src 0 else if src-d<k/\k<=src then p.getD (k-1) 0 else p.getD k 0:=by
 rw[gD,gD,gD,gD,getElem?_bubble hs d hd]
 grind
structure Fx (n:Nat) (p:Array Nat) (k:Nat):Prop where
 sz:p.size=n
 lo:∀i,i<k->p.getD i 0<k
 hi:∀i,k<=i->i<n->p.getD i 0=i
theorem Fx.rev (F:Fx n p k) (hj:j<=k) (hk:k<=n):Fx n (kas_rev p i j) k:=by
 have b:j<=p.size:=by rw[F.sz];lia
 refine⟨(mirror_size _ _ _ _).trans F.sz,fun a d=>?_,fun a e c=>?_⟩
 ·rw[K8 b]
  split
  ·exact F.lo _ (by lia)
  ·exact F.lo _ d
 ·rw[K8 b,if_neg (by lia)]
  exact F.hi a e c
theorem Fx.up (F:Fx n p k) (hk:k<n):Fx n p (k+1):=by
 refine⟨F.sz,fun i b=>?_,fun i c a=>F.hi i (by lia) a⟩
 rcases bO i k with h | h
 ·have:=F.lo i h;lia
 ·rw[show i=k by lia,F.hi k (aq _) hk];lia
theorem Fx.bound (F:Fx n p k) (hk:k<=n) (hi:i<n):p.getD i 0<n:=by
 rcases bO i k with h | h
 ·have:=F.lo i h;lia
 ·rw[F.hi i h hi];lia
def So (lt:Nat->Nat->Bool)(p:Array Nat)(k:Nat):Prop:=∀i j,i<j->j<k->Rr lt (p.getD i 0) (p.getD j 0)
theorem So.up (O:Ord lt) (S:So lt p k) (F:Fx n p k) (hk:k<n) (d:0<k) (h:lt (p.getD k 0) (p.getD (k-1) 0)=false):So lt p (k+1):=by
 have a:Rr _ _ _:=.inr ⟨h,by rw[F.hi k (aq _) hk];exact F.lo _ (by lia)⟩
 intro i j b c
 rcases bO j k with z | z
 ·exact S i j b z
 ·have e:j=k:=by lia
  subst e
  rcases bO i _ with y | y
  ·exact(S i _ y (by lia)).trans O a
  grind
theorem As4 (O:Ord lt)(hB:∀i j,i<n->j<n->B i j=some (lt i j)):∀(f k:Nat),0<k->k+f=n->Fx n p k->So lt p k->∃m,kEv B (kas_asc p f k)=some m/\k<=m/\m<=n/\Fx n p m/\So lt p m/\(m<n->lt (p.getD m 0) (p.getD (m-1) 0)=true)
 | 0,k,h0,hk,F,S=>⟨k,rfl,aq _,by lia,F,S,fun z=>by lia⟩
 | f+1,k,h0,hk,F,S=>by
  have e:kEv B (kas_asc p (f+1) k)=kEv B (if lt (p.getD k 0) (p.getD (k-1) 0)=true then .ret k else kas_asc p f (k+1)):=by
   show (B _ _).bind _=_
   rw[hB _ _ (F.bound (by lia) (by lia)) (F.bound (by lia) (by lia))];rfl
  rw[e]
  cases c:lt (p.getD k 0) (p.getD (k-1) 0) with
  | true=>exact⟨k,rfl,aq _,by lia,F,S,fun _=>c⟩
  | false =>
   obtain⟨m,h1,h2,h3⟩:=As4 O hB f (k+1) (by lia) (by lia) (F.up (by lia)) (S.up O F (by lia) h0 c)
   exact⟨m,h1,by lia,h3⟩
structure De (lt:Nat->Nat->Bool) (p:Array Nat) (k q:Nat):Prop where
 hq:q<k
 al:∀i,k-(q+1)<=i->i<k->Eq' lt (p.getD i 0) (p.getD (k-1) 0)
 asc:∀i j,k-(q+1)<=i->i<j->j<k->p.getD i 0<p.getD j 0
 dec:∀i j,i<j->j<k->i<k-(q+1)->Rr lt (p.getD j 0) (p.getD i 0)
 str:∀i j,i<k-(q+1)->k-(q+1)<=j->j<k->lt (p.getD j 0) (p.getD i 0)=true
def Dn (lt:Nat->Nat->Bool)(p:Array Nat)(k:Nat):Prop:=∀i j,i<j->j<k->Rr lt (p.getD j 0) (p.getD i 0)
theorem De.flat (D:De lt p k 0):Dn lt p k:=fun i j a b=>D.dec i j a b (by lia)
theorem Eq'.symm (h:Eq' lt a b):Eq' lt b a:=⟨h.2,h.1⟩
theorem Eq'.refl (O:Ord lt)(a:Nat):Eq' lt a a:=⟨O.irr a,O.irr a⟩
theorem Rr.not (O:Ord lt) (h:Rr lt a b):lt b a=false:=by
 rcases h with h | h
 ·exact O.no h
 grind
theorem De.flush (O:Ord lt) (D:De lt p k q) (hs:k<=p.size):Dn lt (kas_rev p (k-(q+1)) k) k:=by
 have e:=D.hq;intro i j a b;have d:=K8 (i:=k-(q+1)) hs i;rw[d,(K8 (i:=k-(q+1)) hs j)]
 by_cases hi:k-(q+1)<=i
 ·rw[if_pos (⟨by lia,by lia⟩:k-(q+1)<=i/\i<k),if_pos (⟨by lia,by lia⟩:k-(q+1)<=j/\j<k)]
  have c:=D.al (k-(q+1)+k-1-i) (by lia) (by lia)
  exact .inr ⟨(c.trans O (D.al (k-(q+1)+k-1-j) (by lia) (by lia)).symm).1,D.asc _ _ (by lia) (by lia) (by lia)⟩
 ·rw[if_neg (by lia:¬ (k-(q+1)<=i/\i<k))]
  by_cases hj':k-(q+1)<=j
  ·rw[if_pos (⟨hj',b⟩)]
   exact .inl (D.str i _ (by lia) (by lia) (by lia))
  ·rw[if_neg (by lia)]
   exact D.dec i j a b (by lia)
theorem Dn.next (O:Ord lt) (D:Dn lt p k) (e:0<k) (h:lt (p.getD k 0) (p.getD (k-1) 0)=true):De lt p (k+1) 0:=by
 have a:∀i,i<k->lt (p.getD k 0) (p.getD i 0)=true:=fun i f=>by
  rcases bO i (k-1) with y | y
  ·rcases D i _ y (by lia) with z | ⟨z,_⟩
   ·exact O.tr _ _ _ h z
   ·rcases O.neg _ _ _ h with x | x
    ·exact x
    ·rw[z]at x;cases x
  ·rw[show i=k-1 by lia];exact h
 refine⟨by lia,fun i b c=>?_,fun i j b c d=>by lia,fun i j b c d=>?_,fun i j b c d=>?_⟩
 ·rw[show i=k+1-1 by lia];exact Eq'.refl O _
 ·rcases bO j k with z | z
  ·exact D i j b z
  ·rw[show j=k by lia];exact .inl (a i (by lia))
 ·rw[show j=k by lia];exact a i (by lia)
theorem De.more (O:Ord lt) (D:De lt p k q) (F:Fx n p k) (hk:k<n) (h1:lt (p.getD k 0) (p.getD (k-1) 0)=false) (h2:lt (p.getD (k-1) 0) (p.getD k 0)=false):De lt p (k+1) (q+1):=by
 have d:=D.hq;have e:Eq' lt (p.getD (k-1) 0) (p.getD k 0):=⟨h2,h1⟩
 refine⟨by lia,fun i b a=>?_,fun i j b a c=>?_,fun i j b a c=>?_,fun i j b a c=>?_⟩
 ·show Eq' lt (p.getD i 0) (p.getD k 0)
  rcases bO i k with z | z
  ·exact(D.al i (by lia) z).trans O e
  ·rw[show i=k by lia];exact Eq'.refl O _
 ·rcases bO j k with z | z
  ·exact D.asc i j (by lia) a z
  ·rw[show j=k by lia,F.hi k (aq _) hk];exact F.lo i (by lia)
 ·rcases bO j k with z | z
  ·exact D.dec i j b z (by lia)
  ·rw[show j=k by lia]
   exact .inl (e.symm.lt_of O (D.str i _ (by lia) (by lia) (by lia)))
 ·rcases bO j k with z | z
  ·exact D.str i j (by lia) (by lia) z
  ·rw[show j=k by lia]
   exact e.symm.lt_of O (D.str i _ (by lia) (by lia) (by lia))
theorem Uz (O:Ord lt)(hB:∀i j,i<n->j<n->B i j=some (lt i j)):∀(f:Nat) (p:Array Nat) (k q:Nat),k+f=n->Fx n p k->De lt p k q ->
 ∃p' m q',kEv B (kas_desc f p k q)=some (p',m,q')/\0<m/\m<=n/\Fx n p' m/\De lt p' m q'/\p'.Perm p
 | 0,p,k,q,hk,F,D=>⟨p,k,q,rfl,by have:=D.hq;lia,by lia,F,D,gF _⟩
 | f+1,p,k,q,hk,F,D=>by
  have hq:=D.hq
  have hkn:k<n:=by lia
  have b1:=F.bound (i:=k) (by lia) (by lia)
  have b2:=F.bound (i:=k-1) (by lia) (by lia)
  have e:kEv B (kas_desc (f+1) p k q)=kEv B (if lt (p.getD k 0) (p.getD (k-1) 0)=true then (if q>0 then kas_desc f (kas_rev p (k-(q+1)) k) (k+1) 0 else kas_desc f p (k+1) 0)
   else .ask (p.getD (k-1) 0) (p.getD k 0) fun d=>if d=true then .ret (p,k,q) else kas_desc f p (k+1) (q+1)):=by
   show (B _ _).bind _=_
   rw[hB _ _ b1 b2];rfl
  rw[e]
  cases c:lt (p.getD k 0) (p.getD (k-1) 0) with
  | true =>
   rw[if_pos rfl]
   by_cases h0:q>0
   ·rw[if_pos h0]
    have hs:k<=p.size:=by rw[F.sz];lia
    have g1:(kas_rev p (k-(q+1)) k).getD k 0=p.getD k 0:=by rw[K8 hs,if_neg (by lia)]
    have g2:(kas_rev p (k-(q+1)) k).getD (k-1) 0=p.getD (k-(q+1)) 0:=by rw[K8 hs,if_pos (by lia)];congr 1;lia
    have D2:=(D.flush O hs).next O (by lia) (by rw[g1,g2];exact(D.al (k-(q+1)) (by lia) (by lia)).lt_to O c)
    obtain⟨p',m,q',a1,a2,a3,a4,a5,a6⟩:=Uz O hB f _ (k+1) 0 (by lia) ((F.rev (by lia) (by lia)).up hkn) D2
    exact⟨p',m,q',a1,a2,a3,a4,a5,a6.trans (mirror_perm _ _ _ _)⟩
   ·rw[if_neg h0]
    have hq0:q=0:=by lia
    subst hq0
    exact Uz O hB f p (k+1) 0 (by lia) (F.up hkn) (D.flat.next O (by lia) c)
  | false =>
   rw[if_neg (by decide)]
   have e2:kEv B (.ask (p.getD (k-1) 0) (p.getD k 0) fun d=>if d=true then .ret (p,k,q) else kas_desc f p (k+1) (q+1))=kEv B (if lt (p.getD (k-1) 0) (p.getD k 0)=true then .ret (p,k,q) else kas_desc f p (k+1) (q+1)):=by
    show (B _ _).bind _=_
    rw[hB _ _ b2 b1];rfl
   rw[e2]
   cases d:lt (p.getD (k-1) 0) (p.getD k 0) with
   | true=>exact⟨p,k,q,rfl,by lia,by lia,F,D,gF _⟩
   | false=>exact Uz O hB f p (k+1) (q+1) (by lia) (F.up hkn) (D.more O F hkn c d)
theorem Ah8 (O:Ord lt)(hB:∀i j,i<n->j<n->B i j=some (lt i j)) (c:0<k) (hk:k<=n) (F:Fx n p k) (D:Dn lt p k):∃m p',kEv B (kas_tail3 k n p)=some (m,p')/\0<m/\m<=n/\Fx n p' m/\So lt p' m/\p'.Perm p:=by
 have a:k<=p.size:=by rw[F.sz];lia
 have S:So _ (kas_rev p 0 k) k:=fun i j e h=>by
  rw[K8 a i,K8 a j,if_pos (⟨by lia,by lia⟩),if_pos (⟨by lia,by lia⟩)]
  exact D _ _ (by lia) (by lia)
 obtain⟨m,f,l,d,g,b,_⟩:=As4 O hB (n-k) k c (by lia) (F.rev (aq _) hk) S
 refine⟨m,kas_rev p 0 k,?_,by lia,d,g,b,mirror_perm _ _ _ _⟩
 rw[kas_tail3,Ln,f];rfl
theorem Uh (O:Ord lt)(hB:∀i j,i<n->j<n->B i j=some (lt i j)) (hk:k<n) (F:Fx n p (k+1)) (D:De lt p (k+1) 0):∃m a,kEv B (kas_descPart k n p)=some (m,a)/\0<m/\m<=n/\Fx n a m/\So lt a m/\a.Perm p:=by
 obtain⟨u,m,q,x,t,f,g,v,w⟩:=Uz O hB (n-(k+1)) p _ 0 (by lia) F D
 have e:kEv B (kas_descPart k n p)=kEv B (if q>0 then kas_tail3 m n (kas_rev u (m-(q+1)) m) else kas_tail3 m n u):=by
  rw[kas_descPart,Ln,x];rfl
 rw[e]
 by_cases h0:q>0
 ·rw[if_pos h0]
  obtain⟨d,a,h,c,o,l,r,s⟩:=Ah8 O hB t f (g.rev (aq _) f) (v.flush O (by rw[g.sz];grind))
  exact⟨d,a,h,c,o,l,r,(s.trans (mirror_perm _ _ _ _)).trans w⟩
 ·have b:q=0:=by lia
  subst b;obtain⟨d,a,h,c,o,l,r,s⟩:=Ah8 O hB t f g v.flat;exact⟨d,a,h,c,o,l,r,s.trans w⟩
theorem A6r (O:Ord lt)(hB:∀i j,i<n->j<n->B i j=some (lt i j))(h1:1<=n)(F:Fx n p 1):∃m f,kEv B (kas_count n p)=some (m,f)/\0<m/\m<=n/\Fx n f m/\So lt f m/\f.Perm p:=by
 obtain⟨m,v,K,l,b,k,u⟩:=As4 O hB (n-1) 1 (by lia) (by lia) F (fun i j h o=>by lia)
 have e:kEv B (kas_count n p)=kEv B (if (m==n)=true then .ret (m,p) else if m>1 then .ask (p.getD 0 0) (p.getD (m-1) 0) fun c=>if c=true then .ret (m,p) else kas_descPart m n (kas_rev p 0 m) else kas_descPart m n p):=by
  rw[kas_count,Ln,v];rfl
 rw[e]
 by_cases hmn:m=n
 ·rw[if_pos (by simp[hmn])];exact⟨m,p,rfl,by lia,l,b,k,gF _⟩
 ·rw[if_neg (by simp[hmn])]
  have a:m<n:=by lia
  have c:=u a
  by_cases hm:m>1
  ·rw[if_pos hm]
   have E:kEv B (.ask (p.getD 0 0) (p.getD (m-1) 0) fun c=>if c=true then .ret (m,p) else kas_descPart m n (kas_rev p 0 m))=kEv B (if lt (p.getD 0 0) (p.getD (m-1) 0)=true then .ret (m,p) else kas_descPart m n (kas_rev p 0 m)):=by
    show (B _ _).bind _=_
    rw[hB _ _ (b.bound l (by lia)) (b.bound l (by lia))];rfl
   rw[E]
   cases d:lt (p.getD 0 0) (p.getD (m-1) 0) with
   | true=>exact⟨m,p,rfl,by lia,l,b,k,gF _⟩
   | false =>
    rw[if_neg (by decide)]
    have s:m<=p.size:=by rw[b.sz];lia
    have g:∀i,i<m->(kas_rev p 0 m).getD i 0=p.getD (m-1-i) 0:=fun i q=>by
     rw[K8 s,if_pos (⟨by lia,q⟩:0<=i/\i<m)];congr 1;lia
    have w:(kas_rev p 0 m).getD m 0=p.getD m 0:=by rw[K8 s,if_neg (by lia)]
    have A:∀i,i<m->Eq' lt (p.getD i 0) (p.getD (m-1) 0):=fun i q=>by
     refine⟨?_,?_⟩
     ·cases x:lt (p.getD i 0) (p.getD (m-1) 0) with
      | false=>rfl
      | true =>
       rcases O.neg _ (p.getD 0 0) _ x with z | z
       ·rcases Nat.eq_zero_or_pos i with y | y
        ·rw[y,O.irr]at z;cases z
        ·rw[(k 0 i y q).not O]at z;cases z
       ·rw[d]at z;cases z
     ·rcases bO i (m-1) with y | y
      ·exact(k i (m-1) y (by lia)).not O
      ·rw[show i=m-1 by lia];exact O.irr _
    have r:Dn lt (kas_rev p 0 m) m:=fun i j h o=>by
     rw[g i (by lia),g j o];exact k _ _ (by lia) (by lia)
    obtain⟨D,f,G,C,I,H,J,t⟩:=Uh O hB a ((b.rev (aq _) l).up a) (r.next O (by lia) (by rw[w,g _ (by lia)];exact(A _ (by lia)).lt_to O c))
    exact⟨D,f,G,C,I,H,J,t.trans (mirror_perm _ _ _ _)⟩
  ·rw[if_neg hm]
   have r:Dn lt p m:=fun i j h o=>by lia
   exact Uh O hB a (b.up a) (r.next O (by lia) c)
theorem N6 (O:Ord lt)(hB:∀i j,i<n->j<n->B i j=some (lt i j)){k:Nat}(hk:k<n)(F:Fx n p k)(S:So lt p k):∀(f l r:Nat),l<=r->r<=k->r-l<=f->(∀i,i<l->lt (p.getD k 0) (p.getD i 0)=false)->(∀i,r<=i->i<k->lt (p.getD k 0) (p.getD i 0)=true) ->
 ∃m,kEv B (kas_place p k f l r)=some m/\m<=k/\(∀i,i<m->lt (p.getD k 0) (p.getD i 0)=false)/\(∀i,m<=i->i<k->lt (p.getD k 0) (p.getD i 0)=true)
 | 0,l,r,h1,h2,h3,a,b=>⟨l,rfl,by lia,a,fun i x y=>b i (by lia) y⟩
 | f+1,l,r,h1,h2,h3,a,b=>by
  by_cases h:l≥r
  ·refine⟨l,?_,by lia,a,fun i x y=>b i (by lia) y⟩
   rw[kas_place,if_pos h];rfl
  ·have e:kEv B (kas_place p k (f+1) l r)=kEv B (if lt (p.getD k 0) (p.getD ((l+r) / 2) 0)=true then kas_place p k f l ((l+r) / 2) else kas_place p k f ((l+r) / 2+1) r):=by
    rw[kas_place,if_neg h]
    show (B _ _).bind _=_
    rw[hB _ _ (F.bound (by lia) (by lia)) (F.bound (by lia) (by lia))];rfl
   rw[e]
   cases c:lt (p.getD k 0) (p.getD ((l+r) / 2) 0) with
   | true =>
    rw[if_pos rfl]
    refine N6 O hB hk F S f l _ (by lia) (by lia) (by lia) a fun i x y=>?_
    rcases bO ((l+r) / 2) i with z | z
    ·rcases S _ i z y with q | ⟨q,_⟩
     ·exact O.tr _ _ _ c q
     ·rcases O.neg _ (p.getD i 0) _ c with w | w
      ·exact w
      ·rw[q]at w;cases w
    ·rw[show i=(l+r) / 2 by lia];exact c
   | false =>
    rw[if_neg (by decide)]
    refine N6 O hB hk F S f _ r (by lia) h2 (by lia) (fun i x=>?_) b
    rcases bO i ((l+r) / 2) with z | z
    ·have q:=S i _ z (by lia)
     cases w:lt (p.getD k 0) (p.getD i 0) with
     | false=>rfl
     | true =>
      rcases O.neg _ (p.getD ((l+r) / 2) 0) _ w with y | y
      ·rw[c]at y;cases y
      ·rw[q.not O]at y;cases y
    ·rw[show i=(l+r) / 2 by lia];exact c
theorem A6j (O:Ord lt)(hB:∀i j,i<n->j<n->B i j=some (lt i j)):∀(f:Nat) (p:Array Nat) (k:Nat),k+f=n->Fx n p k->So lt p k->∃p',kEv B (kas_bin f p k)=some p'/\Fx n p' n/\So lt p' n/\p'.Perm p
 | 0,p,k,hk,F,S=>by
  have e:k=n:=by lia
  subst e;exact⟨p,rfl,F,S,gF _⟩
 | f+1,p,k,hk,F,S=>by
  have hkn:k<n:=by lia
  obtain⟨l,a1,a2,a3,a4⟩:=N6 O hB hkn F S k 0 k (by lia) (aq _) (by lia) (fun i x=>by lia) (fun i x y=>by lia)
  have hs:k<p.size:=by rw[F.sz];exact hkn
  have g:=fun i=>B3f (p:=p) (src:=k) (d:=k-l) hs (by lia) i
  have kl:k-(k-l)=l:=by lia
  rw[kl]at g
  have e:kEv B (kas_bin (f+1) p k)=kEv B (kas_bin f (bubble p k (k-l)) (k+1)):=by
   rw[kas_bin,Ln,a1];rfl
  have F2:Fx n (bubble p k (k-l)) (k+1):=by
   have U:=F.up hkn
   refine⟨(bubble_size _ _ _).trans F.sz,fun i hi=>?_,fun i h1 h2=>?_⟩
   ·rw[g i]
    by_cases c1:i=l
    ·rw[if_pos c1];exact U.lo _ (by lia)
    ·rw[if_neg c1]
     by_cases c2:l<i/\i<=k
     ·rw[if_pos c2];exact U.lo _ (by lia)
     ·rw[if_neg c2];exact U.lo _ hi
   ·rw[g i,if_neg (by lia),if_neg (by lia)]
    exact F.hi i (by lia) h2
  have new:∀i,i<l->Rr lt (p.getD i 0) (p.getD k 0):=fun i hi=>.inr ⟨a3 i hi,by rw[F.hi k (aq _) hkn];exact F.lo i (by lia)⟩
  have S2:So lt (bubble p k (k-l)) (k+1):=fun i j hij hj=>by
   rw[g i,g j]
   by_cases c1:j=l
   ·rw[if_pos c1,if_neg (by lia),if_neg (by lia)]
    exact new i (by lia)
   ·rw[if_neg c1]
    by_cases c2:l<j/\j<=k
    ·rw[if_pos c2]
     by_cases c3:i=l
     ·rw[if_pos c3];exact .inl (a4 _ (by lia) (by lia))
     ·rw[if_neg c3]
      by_cases c4:l<i/\i<=k
      ·rw[if_pos c4];exact S _ _ (by lia) (by lia)
      ·rw[if_neg c4];exact S _ _ (by lia) (by lia)
    ·rw[if_neg c2,if_neg (by lia),if_neg (by lia)];exact S _ _ hij (by lia)
  rw[e]
  obtain⟨p',b1,b2,b3,b4⟩:=A6j O hB f _ (k+1) (by lia) F2 S2
  exact⟨p',b1,b2,b3,b4.trans (bubble_perm _ _ _)⟩
theorem Bs7 (O:Ord lt)(hB:∀i j,i<n->j<n->B i j=some (lt i j))(h1:1<=n):∃p,kEv B (kas_sort n)=some p/\p.size=n/\So lt p n/\p.toList.Perm (List.range n):=by
 have F:Fx n (List.toArray (List.range n)) 1:=by
  have q:∀i,i<n->(List.toArray (List.range n)).getD i 0=i:=fun i a=>by
   rw[gD];simp[a]
  exact⟨by simp,fun i a=>by rw[q i (by lia)];exact a,fun i _ a=>q i a⟩
 obtain⟨m,p,g,t,u,c,f,b⟩:=A6r O hB h1 F
 have e:kEv B (kas_sort n)=kEv B (if m<n then kas_bin (n-max m 1) p (max m 1) else .ret p):=by
  rw[kas_sort,Ln,g];rfl
 rw[e]
 have d:∀q:Array _,q.Perm (List.toArray (List.range n))->q.toList.Perm _:=fun q h=>by
  have:=Array.perm_iff_toList_perm.mp h
  simpa using this
 by_cases h:m<n
 ·rw[if_pos h,show max m 1=m by lia]
  obtain⟨r,k,l,s,o⟩:=A6j O hB (n-m) p m (by lia) c f
  exact⟨r,k,l.sz,s,d _ (o.trans b)⟩
 ·rw[if_neg h]
  have e:m=n:=by lia
  subst e;exact⟨p,rfl,c.sz,f,d _ b⟩
end
end PS
namespace U
open PySem L2
theorem R.bind_ok {a:b} {k:b->Ev->R d}:(R.ok a c).bind k=k a c:=rfl
theorem R.toS_ok {a:b} {k:b->Ev->SR}:(R.ok a c).toS k=k a c:=rfl
theorem A3m {a:Type}{x:Option a}:(some x).join=x:=rfl
theorem Bv1 (x:a) (r:List a):atI (x::r) 0=some x:=Gz rfl
theorem B4z (x y:a) (r:List a):atI (x::y::r) 1=some y:=Gz rfl
theorem B4x (x y z:a) (r:List a):atI (x::y::z::r) 2=some z:=Gz rfl
theorem B3w (x y z u:a) (r:List a):atI (x::y::z::u::r) 3=some u:=Gz rfl
theorem B3x (x y z u w:a) (r:List a):atI (x::y::z::u::w::r) 4=some w:=Gz rfl
theorem B3o:ixN 3 0=some 0:=rfl
theorem B2f:ixN 3 1=some 1:=rfl
theorem B2i:ixN 3 2=some 2:=rfl
def My (g:p8)(body:Ev->SR)(d:t6)(c:Ev):SR:=(g (.o (.im d)) c).toS fun _ c=>body c
theorem Td (h:My g body d c=.nx c'\/My g body d c=.ct c'):forL g body (d::ds) c=forL g body ds c':=by
 unfold My at h;rw[forL]
 cases e:g _ c with
 | bad=>rw[e]at h;rcases h with h | h <;> cases h
 | ok u a =>
  rw[e]at h;have h:body _=.nx _\/body _=.ct _:=h
  grind
theorem A9b : forL g body [] c=.nx c:=rfl
theorem Fz {g:p8}{body:Ev->SR}{P:Nat->Ev->Prop}:∀{items:w5}{n:Nat}{c:Ev},P n c ->
 (∀k d c,items[k]?=some d->P (n+k) c->∃c',(My g body d c=.nx c'\/My g body d c=.ct c')/\P (n+k+1) c')->∃c',forL g body items c=.nx c'/\P (n+items.length) c'
 | [],n,c,h0,_=>⟨c,rfl,h0⟩
 | d::ds,n,c,h0,hs=>by
  obtain⟨c1,e,h1⟩:=hs 0 d c rfl h0;rw[Td e]
  obtain⟨c2,e2,h2⟩:=Fz (P:=P) (items:=ds) (n:=n+1) (c:=c1) h1 (fun k d c hk hp=>by
   have:=hs (k+1) d c (by simpa using hk) (by rw[show n+(k+1)=n+1+k by lia];exact hp)
   rw[show n+(k+1)+1=n+1+k+1 by lia]at this
   exact this)
  exact⟨c2,e2,by rw[aP,show n+(ds.length+1)=n+1+ds.length by lia];exact h2⟩
def O8 (g:p8)(ft:o7)(fe:o8)(d:t6)(c:Ev):R (Option t6) :=
 (g (.o (.im d)) c).bind fun _ c=>(ft c).bind fun b c=>if b=true then (fe c).bind fun p c=>(frz (nrm p) c).bind fun y c=>.ok (some y) c else .ok none c
theorem G3 : Dv g ft fe (d::ds) acc c=(O8 g ft fe d c).bind fun o c=>Dv g ft fe ds (acc++o.toList) c:=by
 unfold O8;rw[Dv]
 cases e:g _ c with
 | bad=>rfl
 | ok u f =>
  simp only[R.bind_ok]
  cases e2:ft _ with
  | bad=>rfl
  | ok b h =>
   simp only[R.bind_ok]
   cases b with
   | false=>simp[R.bind_ok]
   | true =>
    cases e3:fe _ with
    | bad=>rfl
    | ok p i =>
     simp only[R.bind_ok]
     cases e4:frz _ _ with
     | bad=>rfl
     | ok y a=>rfl
theorem Jq {g:p8}{ft:o7}{fe:o8}{P:Nat->w5->Ev->Prop}:∀{items acc:w5}{n:Nat}{c:Ev},P n acc c ->
 (∀k d acc c,items[k]?=some d->P (n+k) acc c->∃o c',O8 g ft fe d c=.ok o c'/\P (n+k+1) (acc++o.toList) c')->∃acc' c',Dv g ft fe items acc c=.ok acc' c'/\P (n+items.length) acc' c'
 | [],acc,n,c,h0,_=>⟨acc,c,rfl,h0⟩
 | d::ds,acc,n,c,h0,hs=>by
  obtain⟨o,c1,e,h1⟩:=hs 0 d acc c rfl h0;rw[G3,e,R.bind_ok]
  obtain⟨acc2,c2,e2,h2⟩:=Jq (P:=P) (items:=ds) (n:=n+1) (c:=c1) h1 (fun k d acc c hk hp=>by
   have:=hs (k+1) d acc c (by simpa using hk) (by rw[show n+(k+1)=n+1+k by lia];exact hp)
   rw[show n+(k+1)+1=n+1+k+1 by lia]at this
   exact this)
  exact⟨acc2,c2,e2,by rw[aP,show n+(ds.length+1)=n+1+ds.length by lia];exact h2⟩
theorem Ak9 {g:p8}{ft:o7}{fe:o8}{I:Ev->Prop}{F:t6->Option t6}:∀{items acc:w5}{c:Ev},I c ->
 (∀d c,d∈items->I c->∃c',O8 g ft fe d c=.ok (F d) c'/\I c')->∃c',Dv g ft fe items acc c=.ok (acc++items.filterMap F) c'/\I c'
 | [],acc,c,h0,_=>⟨c,by simp[Dv],h0⟩
 | d::ds,acc,c,h0,hs=>by
  obtain⟨c1,e,h1⟩:=hs d c (.head _) h0;rw[G3,e,R.bind_ok]
  obtain⟨c2,e2,h2⟩:=Ak9 (I:=I) (F:=F) (items:=ds) (acc:=acc++(F d).toList) h1 (fun d c hd hi=>hs d c (.tail _ hd) hi)
  refine⟨c2,?_,h2⟩
  rw[e2,fC];rw[fj]
  cases F d <;> rfl
theorem A2l {I:Ev->Prop} (b:I c)
 (hs:∀d c,d∈items->I c->∃a,O8 g ft fe d c=.ok (some (F d)) a/\I a):∃a,Dv g ft fe items acc c=.ok (acc++items.map F) a/\I a:=by
 obtain⟨a,e,h⟩:=Ak9 (acc:=acc) b hs
 refine⟨a,?_,h⟩
 simp_all
theorem T4 {α:Type}{g:p8}{ft:o7}{fe:o8}{I:Ev->Prop}{f:α->t6}{G:α->Option t6}:∀{xs:List α}{acc:w5}{c:Ev},I c ->
 (∀x c,x∈xs->I c->∃c',O8 g ft fe (f x) c=.ok (G x) c'/\I c')->∃c',Dv g ft fe (xs.map f) acc c=.ok (acc++xs.filterMap G) c'/\I c'
 | [],acc,c,h0,_=>⟨c,by simp[Dv],h0⟩
 | x::xs,acc,c,h0,hs=>by
  obtain⟨c1,e,h1⟩:=hs x c (.head _) h0;rw[aH,G3,e,R.bind_ok]
  obtain⟨c2,e2,h2⟩:=T4 (I:=I) (f:=f) (G:=G) (xs:=xs) (acc:=acc++(G x).toList) h1 (fun d c hd hi=>hs d c (.tail _ hd) hi)
  refine⟨c2,?_,h2⟩
  rw[e2,fC];rw[fj]
  cases G x <;> rfl
theorem Cj {b:Type} {I:Ev->Prop}{f:b->t6}{G:b->t6}{xs:List b} (d:I c)
 (hs:∀x c,x∈xs->I c->∃a,O8 g ft fe (f x) c=.ok (some (G x)) a/\I a):∃a,Dv g ft fe (xs.map f) acc c=.ok (acc++xs.map G) a/\I a:=by
 obtain⟨a,e,h⟩:=T4 (acc:=acc) d hs
 refine⟨a,?_,h⟩
 simp_all
theorem Dq (h1:fi c=.ok ds c1) (hl:ds.length<=16000000) (h2:Dv g ft fe ds [] (cIn idx c1)=.ok acc cI) (a:Hu cI (pairsOf 0 idx) c1=some c2) :
 cLC idx fi g ft fe c=.ok (.o (.ls false acc)) c2:=by
 unfold cLC;rw[h1,R.bind_ok]
 simp_all
theorem Hl (h1:fi c=.ok ds c1):K5 fi g body c=forL g body ds c1:=by
 unfold K5;rw[h1];rfl
theorem Bh (h:f c=.nx c'):Aw f g c=g c':=by unfold Aw;rw[h]
theorem Qz (h:body (a.map some++List.replicate (N-n) none)=.rt p c) (hl:a.length=n) (hf:A2s a p c=r):Dm n N body a=r:=by
 unfold Dm;grind
theorem Rp (h:f c=.ok p c1) (h2:g p c1=.ok () c2):Bt f g c=.nx c2:=by
 unfold Bt;rw[h,R.toS_ok,h2,R.toS_ok]
end U
namespace K
open PySem L2 U
structure Good (d:t6) (n w:Nat):Prop where
 lay:d.canLay0=true
 shw:d.showable=true
 dct:d.hasDict=false
 dep:d.depth<=n
 wgt:wt d<=w
structure Goods (ds:w5) (n w:Nat):Prop where
 lay:PyData.canLayAll0 ds=true
 shw:PyData.showableAll ds=true
 dct:PyData.hasDictAll ds=false
 dep:PyData.depthAll ds<=n
 wgt:La ds<=w*ds.length
theorem Goods.of {n w:Nat}:∀{ds:w5},(∀d∈ds,Good d n w)->Goods ds n (w+2)
 | [],_=>⟨rfl,rfl,rfl,aO _,aO _⟩
 | d::r,h=>by
  have a:=h d (.head _)
  have b:=Goods.of fun e he=>h e (.tail _ he)
  refine⟨?_,?_,?_,?_,?_⟩
  ·show (d.canLay0&&PyData.canLayAll0 r)=true;rw[a.lay,b.lay];rfl
  ·show (d.showable&&PyData.showableAll r)=true;rw[a.shw,b.shw];rfl
  ·show (d.hasDict||PyData.hasDictAll r)=false;rw[a.dct,b.dct];rfl
  ·show max d.depth (PyData.depthAll r)<=n;have:=a.dep;have:=b.dep;lia
  ·show wt d+2+La r<=(w+2)*(r.length+1)
   have:=a.wgt;have:=b.wgt;rw[Nat.mul_succ];lia
theorem Good.tup (h:∀d∈ds,Good d n w) (hk:ds.length<=k):Good (.tuple ds) (n+1) ((w+2)*k+4):=by
 have g:=Goods.of h;have m:(w+2)*ds.length<=(w+2)*k:=jo _ hk
 refine⟨g.lay,g.shw,g.dct,?_,?_⟩
 ·show PyData.depthAll _+1<=n+1;have:=g.dep;lia
 ·show La _+4<=(w+2)*k+4;have:=g.wgt;lia
theorem Good.lst (h:∀d∈ds,Good d n w) (hk:ds.length<=k):Good (.list ds) (n+1) ((w+2)*k+4):=by
 have g:=Goods.of h;have m:(w+2)*ds.length<=(w+2)*k:=jo _ hk
 refine⟨g.lay,g.shw,g.dct,?_,?_⟩
 ·show PyData.depthAll _+1<=n+1;have:=g.dep;lia
 ·show La _+4<=(w+2)*k+4;have:=g.wgt;lia
theorem Good.mono (h:Good d n w) (a:n<=n') (b:w<=w'):Good d n' w':=⟨h.lay,h.shw,h.dct,au h.dep a,au h.wgt b⟩
theorem Good.flatB (h:Good d n w) (hn:n<=40):Bu d=true:=by
 unfold U.Bu;rw[h.lay,aK (au h.dep hn)];rfl
theorem Tp (ha:Good a n w) (hb:Good b n' w') (hn:n<=40) (c:n'<=40):Be neg a b=some (.im (.bool (if neg then !PyData.eqv a b else PyData.eqv a b))):=by
 unfold Be;rw[ha.flatB hn,hb.flatB c];rfl
theorem Vu (h:Good d n w) (hn:n<=40) (hw:w<=16000000) (hs:isSeq d=true):Ay5 d=some (.im (.str d.shown)):=by
 have l:d.shown.length<=sizeLine:=au (Aj8 d h.lay h.shw) (au h.wgt (au hw (by decide)))
 cases d with
 | int i=>cases hs
 | none=>rfl
 | bool b=>rfl
 | str x=>cases hs
 | dict k=>cases hs
 | list a =>
  show (if isSeq _&&_ then _ else _)=_
  rw[h.shw,h.dct,aK (au h.dep hn),aK l];rfl
 | tuple a =>
  show (if isSeq _&&_ then _ else _)=_
  rw[h.shw,h.dct,aK (au h.dep hn),aK l];rfl
theorem Qn (h:∀d∈ds,d.canLay0=true):PyData.canLayAll0 ds=true:=by
 induction ds with
 | nil=>rfl
 | cons d r a=>show (d.canLay0&&PyData.canLayAll0 r)=true;grind
theorem Wh : Be neg (.str a) (.str b)=some (.im (.bool (if neg then !decide (a=b) else decide (a=b)))):=by
 unfold Be
 rw[show U4 _ _=true from rfl]
 rw[Xk]
 simp
inductive Vl where
 | non
 | int (i:Int)
 | str (x:Str)
 deriving DecidableEq
abbrev n_:=List Vl
abbrev n8:=List (n_)
@[simp] theorem Vl.int.injEq (a b:Int):(Vl.int a=Vl.int b)=(a=b):=propext ⟨fun h=>by cases h;rfl,fun h=>by rw[h]⟩
@[simp] theorem Vl.str.injEq (a b:Str):(Vl.str a=Vl.str b)=(a=b):=propext ⟨fun h=>by cases h;rfl,fun h=>by rw[h]⟩
noncomputable def Vl.d:Vl->t6
 | .non=>.none
 | .int i=>.int i
 | .str x=>.str x
noncomputable def vb:Vl->Bool
 | .non=>true
 | .int i=>decide (-1000000000000<=i)&&decide (i<=1000000000000)
 | .str x=>decide (x.length<=40)&&x.cps.toList.all fun c=>decide (32<=c)&&decide (c<=126)
abbrev VB (v:Vl):Prop:=vb v=true
abbrev VBs (vs:n_):Prop:=∀v∈vs,VB v
def tD (vs:n_):t6:=.tuple (vs.map Vl.d)
theorem A0w (x y:Str):PyData.eqv (.str x) (.str y)=decide (x=y):=by
 show (x==y)=_
 grind
theorem Bv0 (a b:Vl):PyData.eqv a.d b.d=decide (a=b):=by
 cases a with
 | non=>cases b <;> simp[Vl.d,PyData.eqv]
 | int i=>
  cases b with
   | int j =>
    show (i==j)=_
    grind
   | non=>rfl
   | str y=>trivial
 | str x=>
  cases b with
   | str y=>rw[show PyData.eqv (Vl.d (.str x)) (Vl.d (.str y))=_ from A0w x y];simp_all
   | non=>trivial
   | int y=>trivial
theorem Ah4:∀as bs:n_,PyData.eqvAll (as.map Vl.d) (bs.map Vl.d)=decide (as=bs)
 | [],[]=>by simp[PyData.eqvAll]
 | [],b::bs=>by simp[PyData.eqvAll]
 | a::as,[]=>by simp[PyData.eqvAll]
 | a::as,b::bs=>by
  show (PyData.eqv a.d b.d&&PyData.eqvAll (as.map Vl.d) (bs.map Vl.d))=_
  rw[Bv0,Ah4 as bs]
  simp
theorem Ai0 (a bs:n_):PyData.eqv (tD a) (tD bs)=decide (a=bs):=by
 exact Ah4 _ _
theorem Dt (h:VB v):Good v.d 0 1921:=by
 cases v with
 | non=>exact⟨rfl,rfl,rfl,aq _,by decide⟩
 | int i =>
  obtain⟨a,b⟩:=aC.mp (show (decide _&&decide _)=true from h)
  have a:=aW a;have b:=aW b
  refine⟨rfl,?_,rfl,aq _,aq _⟩
  have c:i.natAbs<2 ^ 41:=by lia
  have:i.natAbs.log2<1920:=by
   by_cases hz:i.natAbs=0
   ·rw[hz];decide
   ·exact aN ((Nat.log2_lt hz).mpr c) (by decide)
  simpa[Vl.d,PyData.showable] using this
 | str x =>
  obtain⟨a,b⟩:=aC.mp (show (decide _&&x.cps.toList.all _)=true from h)
  have a:=aW a
  refine⟨?_,rfl,rfl,aq _,?_⟩
  ·show x.cps.all _=true
   grind
  ·show 10*x.length+2<=1921
   lia
theorem Ke (h:VBs vs) (hk:vs.length<=k):Good (tD vs) 1 (1923*k+4) :=
 Good.tup (fun d a=>by obtain⟨v,b,rfl⟩:=aD.mp a;exact Dt (h v b)) (by simp_all)
theorem VBs.app (h:VBs a) (k:VBs b):VBs (a++b):=fun v c=>by
 grind
theorem B4p (v:Vl)(vs:n_):((vs.map Vl.d).any fun e=>PyData.eqv e v.d)=decide (v∈vs):=by
 induction vs with
 | nil=>simp
 | cons a r b =>
  rw[aH,gj,Bv0]
  grind
theorem B6b (v:n_)(vs:n8):((vs.map tD).any fun e=>PyData.eqv e (tD v))=decide (v∈vs):=by
 induction vs with
 | nil=>simp
 | cons a r b =>
  rw[aH,gj,Ai0]
  grind
theorem At9 (h:VB v) (hs:VBs vs):Kv neg v.d (.list (vs.map Vl.d))=some (.im (.bool (if neg then !decide (v∈vs) else decide (v∈vs)))):=by
 have e:Kv neg v.d (.list (vs.map Vl.d))=if Bu v.d&&PyData.canLayAll0 (vs.map Vl.d) then some (.im (.bool (if neg then !(vs.map Vl.d).any fun e=>PyData.eqv e v.d else (vs.map Vl.d).any fun e=>PyData.eqv e v.d))) else none:=by rfl
 rw[e,(Dt h).flatB (by decide),Qn fun d a=>by obtain⟨u,b,rfl⟩:=aD.mp a;exact(Dt (hs u b)).lay,B4p];rfl
theorem B2c {vs:n8}(h:VBs v) (hs:∀u∈vs,VBs u):Kv neg (tD v) (.list (vs.map tD))=some (.im (.bool (if neg then !decide (v∈vs) else decide (v∈vs)))):=by
 show (if Bu _&&PyData.canLayAll0 _ then some _ else none)=_
 rw[(Ke h (aq _)).flatB (by decide),Qn fun d a=>by obtain⟨u,b,rfl⟩:=aD.mp a;exact(Ke (hs u b) (aq _)).lay,B6b];rfl
theorem Pj {l:List a}{r:Int}(b:0<=r) (h1:r<l.length):∃d,atI l r=some d/\d∈l/\l[r.toNat]?=some d:=by
 obtain⟨k,rfl⟩:=gG b
 exact⟨l[k],Gz (bG _),j0 _,by grind⟩
def Af3 (pr:o9):Ev->SR :=
 (Aw
  (cIf (Az (cOp (Gk false) (Aa 0) (cC (.none)))) (Bv (Ei (Ab (cC (.int 0)) (Ab (cC (.int 0)) Ah)))) Br)
  (Aw (cIf (Az (cUn (Dw .int) (Aa 0))) (Bv (Ei (Ab (cC (.int 1)) (Ab (Aa 0) Ah)))) Br)
  (Aw (cIf (Az (cUn (Dw .str) (Aa 0))) (Bv (Ei (Ab (cC (.int 2)) (Ab (Aa 0) Ah)))) Br)
  (Bv (Ei (Ab (cC (.int 3)) (Ab (cUn Bd (cLC [none] (Ar (Aa 0)) (cgN 0) Av (cF pr (Ab (Aa 0) Ah)))) Ah)))))))
noncomputable def Ck:Nat->List O->FR
 | 0=>fun _=>.bad
 | k+1=>Dm 1 1 (Af3 (Ck k))
def Am4:Ev->SR :=
 (Bv (Aw1 (Ck 2) (Aa 0)))
def M5:o9:=Dm 1 1 Am4
def Nb:Ev->SR :=
 (Aw
  (Bt (cOp Aj (Aa 0) (cC (.int 0))) (cgN 2))
  (Aw (cIf (Az (cOp (Kv true) (Aa 1) (Aa 2))) Jx Br)
  (Bv (cMt J1 Ik (Aa 2) (Aa 1)))))
def Hd:o9:=Dm 2 3 Nb
def Ms:Ev->SR :=
 (Bv (cLC [none,some 0] (Ar (Aa 1)) (cgN 0) Av (cF Hd (Ab (Aa 1) (Ab (Aa 0) Ah)))))
def Ed:o9:=Dm 2 2 Ms
def Lr:Ev->SR :=
 (Bv (cUn Bd (cLC [none,some 0] (Ar (Aa 1)) (cgN 0) Av (cOp Aj (Aa 1) (Aa 0)))))
def Cd:o9:=Dm 2 2 Lr
def Ft:Ev->SR :=
 (Aw
  (Bt (cOp Cq (cOp Cq (cUn Hq (Aa 1)) (cUn Hq (Aa 2))) (cUn Hq (Aa 3))) (cgN 4))
  (Aw (cIf (cOr (Az (cOp (Be true) (Ht (Aa 4)) (Ht (Aa 0)))) (Bk2 (Az (cUn Ah6 (cLC [none,some 4] (Ar (Aa 0)) (cgN 0) Av (cOp (Be false) (cMt Wb Le (Aa 1) (Aa 0)) (cC (.int 1)))))))) Jx Br)
  (cIf (Az (cOp (Be false) (Ht (Aa 3)) (cC (.int 0)))) Jx Br)))
def Df:o9:=Dm 4 5 Ft
def Wc:Ev->SR :=
 (cIf (Az (cUn (T7 true [Str.ofString "seen",Str.ofString "rising"]) (Aa 0))) Jx Br)
def Hj:o9:=Dm 1 1 Wc
def Eu:BF :=
 (Yc
  (Pg (d:=5) (Ei (Ab (cF Cd (Ab (Aa 7) (Ab (cFz (Aa 3)) Ah))) (Ab (cF Cd (Ab (Aa 7) (Ab (cFz (Aa 4)) Ah))) Ah))) (cgN 8))
  (A9l (d:=5) (Aa 8) (Aa 6)))
def Ii:Ev->SR :=
 (Aw
  (Bt (cF Ed (Ab (Aa 0) (Ab (Aa 1) Ah))) (cgN 3))
  (Aw (Bt (cF Ed (Ab (Aa 0) (Ab (Aa 2) Ah))) (cgN 4))
  (Ny 5 (Al3 (d:=5) (Kg (cOp Aj (Aa 0) (cC (.int 1)))) (cgT 2 (Ao (cgN 6) (Ao (cgN 7) Dg))) Eu)
  (Bv (Aa 5)))))
def Ep:o9:=Dm 3 9 Ii
def Gx:BF :=
 (Yh (d:=1) (Aa 2) (fun _ _=>(cC (.bool true))))
def K4:Ev->SR :=
 (Ny
  1 (Al3 (d:=1) (Ar (Aa 0)) (cgN 2) Gx)
  (Bv (Ax6 (Aa 1))))
def Eh:o9:=Dm 1 3 K4
def Kw:Ev->SR :=
 (Bv (cF Eh (Ab (cLC [none,none] (Ac1 (Aa 0)) (cgT 2 (Ao (cgN 0) (Ao (cgN 1) Dg))) Av (Aa 0)) Ah)))
def Gu:o9:=Dm 1 1 Kw
def Im:Ev->SR :=
 (Aw
  (Bt (cF Eh (Ab (cLC [none,none] (Ac1 (Aa 0)) (cgT 2 (Ao (cgN 0) (Ao (cgN 1) Dg))) Av (Aa 1)) Ah)) (cgN 2))
  (Bv (Bk4 (Az (cOp (Be false) (Aa 1) (cC (.str "rising")))) (cUn Bd (cF M5 (Ab (Aa 2) Ah))) (Aa 2))))
def Ff:o9:=Dm 2 3 Im
def M4:Ev->SR :=
 (Bv (cUn Bd (cLC [none,some 3,some 2,some 0] (Ar (Aa 1)) (cgN 0) Av (Mf (Aa 2) (Ei (Ab (Aa 3) (Ab (Aa 0) Ah))) (Aa 1)))))
def Fw:o9:=Dm 4 4 M4
def Nr:Ev->SR :=
 (Bv (cUn Bd (cLC [none,some 1,some 2,some 3] (Ar (Aa 0)) (cgN 0) Av (cF Fw (Ab (Aa 0) (Ab (Aa 1) (Ab (Aa 2) (Ab (Aa 3) Ah))))))))
def Ir:o9:=Dm 4 4 Nr
def Ia:Ev->SR :=
 (Bv (A6x (Aa 0) (cF Ir (Ab (Aa 0) (Ab (Aa 1) (Ab (Aa 2) (Ab (cC (.none)) Ah)))))))
def Eo:o9:=Dm 3 3 Ia
def K1:Ev->SR :=
 (Aw
  (cIf (Az (cOp (Be true) (Ht (Aa 0)) (Aa 1))) Jx Br)
  (K5 (Ar (Aa 0)) (cgN 3) (cIf (Az (Am0 (T7 true) (Aa 3) (Aa 2))) Jx Br)))
def Gq:o9:=Dm 3 4 K1
def Tf:Ev->SR :=
 (Aw
  (cIf (Az (cUn Ai7 (cLC [none] (Ar (Aa 0)) (cgN 0) Av (cUn (Dw .str) (Aa 0))))) Jx Br)
  (Bv (cUn An5 (Aa 0))))
def Ld:o9:=Dm 1 1 Tf
def Ce:Ev->SR :=
 (Aw
  (cIf (Az (cOp (Be false) (Aa 1) (cC (.str "first")))) (Bv (cOp Aj (Aa 0) (cC (.int 0)))) Br)
  (Aw (cIf (Az (cOp (Be false) (Aa 1) (cC (.str "last")))) (Bv (cOp Aj (Aa 0) (cUn A7q (cC (.int 1))))) Br)
  (Aw (Bt (cLC [none] (Ar (Aa 0)) (cgN 0) (Az (cOp (Gk true) (Aa 0) (cC (.none)))) (Aa 0)) (cgN 2))
  (Aw (cIf (Az (cOp (Be false) (Aa 1) (cC (.str "sum")))) (Bv (cF Ld (Ab (cFz (Aa 2)) Ah))) Br)
  (Aw (cIf (Az (cOp (Be false) (Aa 1) (cC (.str "count")))) (Bv (Ht (cFz (Aa 2)))) Br)
  (Aw (cIf (Az (cOp (Be false) (Aa 1) (cC (.str "least")))) (Bv (cMM false (Ck 2) (cFz (Aa 2)))) Br)
  (Aw (cIf (Az (cOp (Be false) (Aa 1) (cC (.str "greatest")))) (Bv (cMM true (Ck 2) (cFz (Aa 2)))) Br)
  (Aw (cIf (Az (cOp (Be false) (Aa 1) (cC (.str "unlike")))) (Bv (cUn Oq (cFz (Aa 2)))) Br)
  Jx))))))))
def Bs:o9:=Dm 2 3 Ce
def G5:Ev->SR :=
 (Bv (cF Bs (Ab (cLC [none,some 1] (Ar (Aa 0)) (cgN 0) Av (cOp Aj (Aa 0) (Aa 1))) (Ab (Aa 2) Ah))))
def Ci:o9:=Dm 3 3 G5
def Hr:Ev->SR :=
 (Bv (cUn Bd (cLC [none,none,some 0] (Kg (Aa 1)) (cgT 2 (Ao (cgN 0) (Ao (cgN 1) Dg))) Av (cF Ci (Ab (Aa 2) (Ab (Aa 0) (Ab (Aa 1) Ah)))))))
def Di:o9:=Dm 2 2 Hr
def Ig:Ev->SR :=
 (Aw
  (Jl (cF Df (Ab (Aa 0) (Ab (Aa 1) (Ab (Aa 2) (Ab (Aa 3) Ah))))))
  (Aw (Jl (cF Hj (Ab (Aa 5) Ah)))
  (Jl (cF Gq (Ab (Aa 4) (Ab (Ht (Aa 3)) (Ab (cTC [Str.ofString "first",Str.ofString "last",Str.ofString "sum",Str.ofString "count",Str.ofString "least",Str.ofString "greatest",Str.ofString "unlike"]) Ah)))))))
def En:o9:=Dm 6 6 Ig
def Do:BF :=
 (Yc
  (Pg (d:=5) (cLC [none,some 4,some 0] (A3x 4 (Ar (Aa 7))) (cgN 0) Av (cF Cd (Ab (cOp Aj (cOp Aj (Aa 2) (cC (.int 1))) (Aa 0)) (Ab (Aa 1) Ah)))) (cgN 8))
  (Yh (d:=5) (Aa 6) (fun _ _=>(cF Di (Ab (cFz (Aa 8)) (Ab (Aa 2) Ah))))))
def Hs:Ev->SR :=
 (Aw
  (Bt (cF Ed (Ab (Aa 0) (Ab (Aa 1) Ah))) (cgN 4))
  (Ny 5 (Al3 (d:=5) (Vb (Aa 3)) (cgT 2 (Ao (cgN 6) (Ao (cgN 7) Dg))) Do)
  (Bv (Aa 5))))
def Ec:o9:=Dm 4 9 Hs
def Ma:Ev->SR :=
 (Aw
  (Jl (cF En (Ab (cOp Aj (Aa 0) (cC (.int 0))) (Ab (Aa 1) (Ab (Aa 2) (Ab (Aa 3) (Ab (Aa 4) (Ab (Aa 5) Ah))))))))
  (Aw (Bt (cF Ep (Ab (Aa 0) (Ab (Aa 1) (Ab (Aa 2) Ah)))) (cgN 6))
  (Aw (Bt (cF Ff (Ab (Aa 6) (Ab (Aa 5) Ah))) (cgN 7))
  (Aw (Bt (cF Eo (Ab (cF Gu (Ab (Aa 6) Ah)) (Ab (Aa 7) (Ab (cF Ec (Ab (Aa 0) (Ab (Aa 3) (Ab (Aa 4) (Ab (Aa 6) Ah))))) Ah)))) (cgN 8))
  (Bv (Ei (Ab (cUn Bd (Aa 1)) (Ab (cUn Bd (Aa 2)) (Ab (cUn Bd (Aa 3)) (Ab (Aa 7) (Ab (Aa 8) Ah)))))))))))
def Eg:o9:=Dm 6 9 Ma
def Mt:Ev->SR :=
 (Aw
  (cIf (Az (cOp Rx (Aa 1) (Ht (Aa 0)))) (Bv (B0h (Aa 0) (Aa 1))) Br)
  (Bv (cC (.int 0))))
def Gh:o9:=Dm 2 2 Mt
def Xh:Ev->SR :=
 (Aw
  (Bt (cF Gh (Ab (Aa 0) (Ab (Aa 1) Ah))) (cgN 2))
  (Bv (Ek (Ab (cOp Lz (cUn Az9 (Aa 2)) (cUn Gv (cOp Bw7 (cUn Az9 (Aa 2)) (cOp Uj (cC (.int 10)) (cC (.int 18)))))) (Ab (cOp Cq (cOp Cq (cOp Rv (Aa 2) (cC (.int 2305843009213693951))) (cOp Lz (cC (.int 39373)) (Aa 1))) (cC (.int 17))) (Ab (cC (.int 0)) Ah))))))
def M6:o9:=Dm 2 3 Xh
def O1:Ev->SR :=
 (Aw
  (cIf (Az (cOp A3d (cOp Aj (Aa 0) (cC (.int 0))) (cC (.int 0)))) (Aw (Bt (cOp Rv (cOp Aj (Aa 0) (cC (.int 0))) (Aa 1)) (cgN 2))
  (Aw (Bt (cOp Ag3 (cOp Aj (Aa 0) (cC (.int 0))) (Aa 1)) (Za (Aa 0) (cC (.int 0))))
  (Bv (Aa 2)))) Br)
  (Aw (Bt (cOp Cq (cOp Aj (Aa 0) (cC (.int 2))) (cC (.int 1))) (Za (Aa 0) (cC (.int 2))))
  (Aw (Bt (cOp Rv (cOp Lz (cOp Cq (cOp Aj (Aa 0) (cC (.int 1))) (cOp Lz (cC (.int 48271)) (cOp Aj (Aa 0) (cC (.int 2))))) (cOp Cq (cC (.int 39373)) (cOp Aj (Aa 0) (cC (.int 2))))) (cC (.int 2147483647))) (cgN 3))
  (Aw (Bt (cOp Rv (cOp Lz (cOp Cq (Aa 3) (cOp Aj (Aa 0) (cC (.int 2)))) (cOp Cq (cOp Rv (Aa 3) (cC (.int 40009))) (cC (.int 7)))) (cC (.int 2147483629))) (cgN 4))
  (Bv (cOp Rv (cOp Ag3 (cOp Rv (cOp Cq (cOp Lz (Aa 4) (cC (.int 48271))) (Aa 3)) (cC (.int 2147483587))) (cC (.int 64))) (Aa 1)))))))
def An:o9:=Dm 2 5 O1
def Ox:Ev->SR :=
 (Aw
  (cIf (Az (cOp (Be false) (cF An (Ab (Aa 0) (Ab (cC (.int 8)) Ah))) (cC (.int 0)))) (Bv (cOp Cq (cC (.int 7)) (cF An (Ab (Aa 0) (Ab (cOp Od (Aa 3) (cC (.int 6))) Ah))))) Br)
  (Bv (cOp Cq (Aa 1) (cF An (Ab (Aa 0) (Ab (cOp Cq (cOp Od (Aa 2) (Aa 1)) (cC (.int 1))) Ah))))))
def Hw:o9:=Dm 4 4 Ox
def Pq:Ev->SR :=
 (Aw
  (Bt (Ek (cK [.str "b",.str "a",.str "year",.str "z",.str "ab",.str "month",.str "aa",.str "quantity",.str "c",.str "town",.str "zz",.str "ba"])) (cgN 2))
  (Bv (cLC [none,some 2,some 0] (Xg (Aa 1)) (cgN 0) Av (Pr (Aa 1) (cF An (Ab (Aa 2) (Ab (Ht (Aa 1)) Ah)))))))
def Jw:o9:=Dm 2 3 Pq
def Hy:Ev->SR :=
 (Aw
  (Bt (cF An (Ab (Aa 0) (Ab (cC (.int 9)) Ah))) (cgN 1))
  (Aw (cIf (Az (cOp Rx (Aa 1) (cC (.int 4)))) (Bv (cOp Od (cF An (Ab (Aa 0) (Ab (cC (.int 13)) Ah))) (cC (.int 3)))) Br)
  (Aw (cIf (Az (cOp (Be false) (Aa 1) (cC (.int 4)))) (Bv (cOp Aj (Ek (Ab (cOp Od (cOp Uj (cC (.int 10)) (cC (.int 12))) (cC (.int 1))) (Ab (cOp Od (cC (.int 0)) (cOp Uj (cC (.int 10)) (cC (.int 11)))) (Ab (cC (.int 100)) (Ab (cC (.int 10)) Ah))))) (cF An (Ab (Aa 0) (Ab (cC (.int 4)) Ah))))) Br)
  (Aw (cIf (Az (cOp (Be false) (Aa 1) (cC (.int 5)))) (Bv (cC (.none))) Br)
  (Bv (cOp Aj (Ek (cK [.str "",.str "a",.str "b",.str "B",.str "10",.str "9",.str "-",.str "a b",.str "it's",.str "\\",.str "/",.str "_",.str ":",.str "None",.str "ab"])) (cF An (Ab (Aa 0) (Ab (cC (.int 15)) Ah)))))))))
def Ex:o9:=Dm 1 2 Hy
def Tw:Ev->SR :=
 (Aw
  (Bt (Ek Ah) (cgN 2))
  (Aw (K5 (Xg (Aa 1)) (cgN 3) (Aw (Bt (cF Ex (Ab (Aa 0) Ah)) (cgN 4))
  (cIf (Az (cOp (Kv true) (Aa 4) (Aa 2))) (Jl (Us (Aa 2) (Aa 4))) Br)))
  (Bv (Aa 2))))
def G8:o9:=Dm 2 5 Tw
def Mw:Ev->SR :=
 (Aw
  (Bt (cF Jw (Ab (Aa 0) (Ab (Aa 1) Ah))) (cgN 3))
  (Aw (Bt (cLC [none,some 0] (Ar (Aa 3)) (cgN 0) Av (cF G8 (Ab (Aa 1) (Ab (cOp Aj (Ek (cK [.int 2,.int 3,.int 3,.int 5,.int 12])) (cF An (Ab (Aa 1) (Ab (cC (.int 5)) Ah)))) Ah)))) (cgN 4))
  (Aw (Bt (Ek Ah) (cgN 5))
  (Aw (K5 (Xg (Aa 2)) (cgN 6) (Aw (Bt (cUn Bd (cLC [none,some 0] (Ar (Aa 4)) (cgN 0) Av (cOp Aj (Aa 0) (cF An (Ab (Aa 1) (Ab (Ht (Aa 0)) Ah)))))) (cgN 7))
  (Aw (cIf (A3f (Az (cOp (Be true) (Aa 5) (Ek Ah))) (Az (cOp (Be false) (cF An (Ab (Aa 0) (Ab (cC (.int 9)) Ah))) (cC (.int 0))))) (Bt (cOp Aj (Aa 5) (cF An (Ab (Aa 0) (Ab (Ht (Aa 5)) Ah)))) (cgN 7)) Br)
  (Jl (Us (Aa 5) (Aa 7))))))
  (Bv (Ei (Ab (cUn Bd (Aa 3)) (Ab (cUn Bd (Aa 5)) Ah))))))))
def Lq:o9:=Dm 3 8 Mw
def Jz:Ev->SR :=
 (Bv (cF Lq (Ab (Aa 0) (Ab (cF Hw (Ab (Aa 0) (Ab (cC (.int 2)) (Ab (cC (.int 5)) (Ab (cC (.int 12)) Ah))))) (Ab (cF Hw (Ab (Aa 0) (Ab (cC (.int 0)) (Ab (cC (.int 8)) (Ab (cC (.int 24)) Ah))))) Ah)))))
def Fy:o9:=Dm 1 1 Jz
def M7:Ev->SR :=
 (Aw
  (Bt (cUn Hq (Aa 1)) (cgN 2))
  (Aw (Bt (cLC [none,some 2,some 0] (Ar (Aa 1)) (cgN 0) Av (Pr (Aa 1) (cF An (Ab (Aa 2) (Ab (Ht (Aa 1)) Ah))))) (cgN 3))
  (Aw (Bt (cOp Cq (cC (.int 1)) (cF An (Ab (Aa 0) (Ab (cOp Av8 (cOp Aj (Ek (Ab (cC (.int 3)) (Ab (cC (.int 9)) Ah))) (cUn Gv (cOp (Be false) (cF An (Ab (Aa 0) (Ab (cC (.int 8)) Ah))) (cC (.int 0))))) (Ht (Aa 3))) Ah)))) (cgN 4))
  (Aw (Bt (cSl Xz (Aa 3) (cOS (Aa 4)) cON) (cgN 5))
  (Aw (Bt (cF An (Ab (Aa 0) (Ab (cOp Cq (Ht (Aa 5)) (cC (.int 1))) Ah))) (cgN 6))
  (Bv (Ei (Ab (cSl Xz (Aa 5) cON (cOS (Aa 6))) (Ab (cSl Xz (Aa 5) (cOS (Aa 6)) cON) (Ab (cSl Xz (Aa 3) cON (cOS (Aa 4))) Ah))))))))))
def Ip:o9:=Dm 2 7 M7
def Z3:Ev->SR :=
 (Bv (cUn Bd (cLC [none,some 1,some 0] (Ar (Aa 2)) (cgN 0) Av (cOp Aj (Aa 1) (cMt J1 Ik (cOp Aj (Aa 2) (cC (.int 0))) (Aa 0))))))
def Gw:o9:=Dm 3 3 Z3
def Ko:Ev->SR :=
 (Aw
  (cIf (Az (cOp (Be false) (cF An (Ab (Aa 0) (Ab (cC (.int 9)) Ah))) (cC (.int 0)))) (Bv (cOp Aj (Ek (Ab (cOp Od (cOp Uj (cC (.int 10)) (cC (.int 12))) (cC (.int 1))) (Ab (cOp Od (cC (.int 1)) (cOp Uj (cC (.int 10)) (cC (.int 12)))) (Ab (cOp Uj (cC (.int 10)) (cC (.int 11))) (Ab (cC (.int 0)) Ah))))) (cF An (Ab (Aa 0) (Ab (cC (.int 4)) Ah))))) Br)
  (Bv (cOp Od (cF An (Ab (Aa 0) (Ab (cC (.int 25)) Ah))) (cC (.int 7)))))
def Fq:o9:=Dm 1 1 Ko
def Ot:Ev->SR :=
 (Aw
  (cIf (Az (cOp (Gk false) (Aa 0) (cC (.none)))) (Bv (Ei (Ab (cC (.int 0)) (Ab (cC (.int 0)) (Ab (cC (.str "")) Ah))))) Br)
  (Aw (cIf (Az (cUn (Dw .str) (Aa 0))) (Bv (Ei (Ab (cC (.int 2)) (Ab (cC (.int 0)) (Ab (Aa 0) Ah))))) Br)
  (Bv (Ei (Ab (cC (.int 1)) (Ab (Aa 0) (Ab (cC (.str "")) Ah)))))))
def Ea:o9:=Dm 1 1 Ot
def Pn:Ev->SR :=
 (Bv (cLC [none] (Ar (Aa 0)) (cgN 0) Av (cF Ea (Ab (Aa 0) Ah))))
def Ej:o9:=Dm 1 1 Pn
def Ha (pr:o9):Ev->SR :=
 (Aw
  (cIf (Az (cUn (Qh .list .tuple) (Aa 1))) (Aw (cIf (cOr (Az (cOp (Be true) (cUn (Dw .list) (Aa 0)) (cUn (Dw .list) (Aa 1)))) (Az (cOp (Be true) (cUn (Dw .tuple) (Aa 0)) (cUn (Dw .tuple) (Aa 1))))) (Bv (cC (.bool false))) Br)
  (Bv (Vn (cOp (Be false) (Ht (Aa 0)) (Ht (Aa 1))) (cUn Ah6 (cLC [none,none] (Ax3 (Aa 0) (Aa 1)) (cgT 2 (Ao (cgN 0) (Ao (cgN 1) Dg))) Av (cF pr (Ab (Aa 0) (Ab (Aa 1) Ah)))))))) Br)
  (Aw (cIf (cOr (Az (cOp (Gk false) (Aa 1) (cC (.none)))) (Az (cUn (Dw .str) (Aa 1)))) (Bv (Vn (cOp (Be false) (Aa 0) (Aa 1)) (cOp (Be false) (cUn (Dw .str) (Aa 0)) (cUn (Dw .str) (Aa 1))))) Br)
  (Aw (cIf (Az (cUn (Dw .bool) (Aa 1))) (Bv (Vn (cUn (Dw .bool) (Aa 0)) (cOp (Be false) (Aa 0) (Aa 1)))) Br)
  (Bv (Vn (cUn (Dw .int) (Aa 0)) (Vn (Bg0 (cUn (Dw .bool) (Aa 0))) (cOp (Be false) (Aa 0) (Aa 1))))))))
noncomputable def Dd:Nat->List O->FR
 | 0=>fun _=>.bad
 | k+1=>Dm 2 2 (Ha (Dd k))
def Hn:Ev->SR :=
 (Aw
  (Bt (cLC [none] (Ar (Aa 0)) (cgN 0) (Az (cOp (Gk true) (Aa 0) (cC (.none)))) (Aa 0)) (cgN 2))
  (Aw (cIf (Az (cOp (Kv false) (Aa 1) (Ei (Ab (cC (.str "first")) (Ab (cC (.str "last")) Ah))))) (Bv (cOp Aj (Aa 0) (cOp Aj (Ek (Ab (cC (.int 0)) (Ab (cOp Od (Ht (Aa 0)) (cC (.int 1))) Ah))) (cUn Gv (cOp (Be false) (Aa 1) (cC (.str "last"))))))) Br)
  (Aw (cIf (Az (cOp (Be false) (Aa 1) (cC (.str "sum")))) (Bv (Bk4 (Az (cUn Ai7 (cLC [none] (Ar (Aa 2)) (cgN 0) Av (cUn (Dw .str) (Aa 0))))) (cC (.str "text")) (cUn An5 (Aa 2)))) Br)
  (Aw (cIf (Az (cOp (Be false) (Aa 1) (cC (.str "count")))) (Bv (Ht (Aa 2))) Br)
  (Aw (cIf (Az (cOp (Be false) (Aa 1) (cC (.str "unlike")))) (Aw (Bt (Ek Ah) (cgN 3))
  (Aw (K5 (Ar (Aa 2)) (cgN 4) (Bt (cOp Cq (Aa 3) (cOp Jc (Ek (Ab (Aa 4) Ah)) (cUn Gv (cOp (Kv true) (Aa 4) (Aa 3))))) (cgN 3)))
  (Bv (Ht (Aa 3))))) Br)
  (Aw (Bt (cC (.none)) (cgN 5))
  (Aw (K5 (Ar (Aa 2)) (cgN 4) (cIf (cOr (Az (cOp (Gk false) (Aa 5) (cC (.none)))) (Az (cOp (Be false) (cOp A2v (cF Ea (Ab (Aa 4) Ah)) (cF Ea (Ab (Aa 5) Ah))) (cOp (Be false) (Aa 1) (cC (.str "least")))))) (Bt (Aa 4) (cgN 5)) Br))
  (Bv (Aa 5)))))))))
def Er:o9:=Dm 2 6 Hn
def Oi:Ev->SR :=
 (Aw
  (Bt (cF Fy (Ab (Aa 0) Ah)) (cgN 1))
  (Aw (Bt (cF Ip (Ab (Aa 0) (Ab (cOp Aj (Aa 1) (cC (.int 0))) Ah))) (cgT 3 (Ao (cgN 2) (Ao (cgN 3) (Ao (cgN 4) Dg)))))
  (Aw (Bt (Ek (cK [.str "first",.str "last",.str "sum",.str "count",.str "least",.str "greatest",.str "unlike"])) (cgN 5))
  (Aw (Bt (cLC [none,some 5,some 0] (Ar (Aa 4)) (cgN 0) Av (cOp Aj (Aa 1) (cF An (Ab (Aa 2) (Ab (cC (.int 7)) Ah))))) (cgN 6))
  (Aw (Bt (Ek Ah) (cgN 7))
  (Aw (K5 (Ar (cOp Aj (Aa 1) (cC (.int 1)))) (cgN 8) (Aw (Bt (cUn Hq (Aa 8)) (cgN 9))
  (Aw (K5 (Ax3 (Aa 4) (Aa 6)) (cgT 2 (Ao (cgN 10) (Ao (cgN 11) Dg))) (Aw (Bt (cMt J1 Ik (cOp Aj (Aa 1) (cC (.int 0))) (Aa 10)) (cgN 12))
  (cIf (A3f (Az (cOp (Be false) (Aa 11) (cC (.str "sum")))) (Az (cUn (Dw .str) (cOp Aj (Aa 8) (Aa 12))))) (Bt (cOp Aj (Ek (Ab (cC (.none)) (Ab (cF Fq (Ab (Aa 0) Ah)) Ah))) (cUn Gv (cOp A3d (cF An (Ab (Aa 0) (Ab (cC (.int 4)) Ah))) (cC (.int 0))))) (Za (Aa 9) (Aa 12))) Br)))
  (Jl (Us (Aa 7) (cUn Bd (Aa 9)))))))
  (Bv (Ei (Ab (Ei (Ab (cOp Aj (Aa 1) (cC (.int 0))) (Ab (cUn Bd (Aa 7)) Ah))) (Ab (Aa 2) (Ab (Aa 3) (Ab (Aa 4) (Ab (Aa 6) Ah)))))))))))))
def Ov:o9:=Dm 1 13 Oi
def Ds:BF :=
 (Yc
  (Bo8 (d:=6) 9 10 (Ab (cF Gw (Ab (Aa 0) (Ab (Aa 8) (Ab (Aa 1) Ah)))) (Ab (cF Gw (Ab (Aa 0) (Ab (Aa 8) (Ab (Aa 2) Ah)))) Ah)))
  (Yc (Pg (d:=6) (cOp Cq (Aa 4) (cOp Jc (Ek (Ab (Aa 9) Ah)) (cUn Gv (cOp (Kv true) (Aa 9) (Aa 4))))) (cgN 4))
  (Yc (Pg (d:=6) (cOp Cq (Aa 5) (cOp Jc (Ek (Ab (Aa 10) Ah)) (cUn Gv (cOp (Kv true) (Aa 10) (Aa 5))))) (cgN 5))
  (Yh (d:=6) (Ei (Ab (Aa 9) (Ab (Aa 10) Ah))) (fun ks es=>cOp (fun x y=>imO (Cq x y)) ((Bj0 (Ei (Ab (Aa 9) (Ab (Aa 10) Ah))) (Ei Ah)) ks es) (Ei (Ab (Aa 7) Ah)))))))
def Oh:Ev->SR :=
 (Aw
  (Bi3 4 5 (Ab (Ek Ah) (Ab (Ek Ah) Ah)))
  (Ny 6 (Al3 (d:=6) (Kg (cOp Aj (Aa 0) (cC (.int 1)))) (cgT 2 (Ao (cgN 7) (Ao (cgN 8) Dg))) Ds)
  (Aw (cIf (Az (cOp (Be false) (Aa 3) (cC (.str "rising")))) (Bt (Aw1 Ej (Aa 5)) (cgN 5)) Br)
  (Bv (Zf (Ab (Aa 4) (Ab (Aa 5) (Ab (Aa 6) Ah))))))))
def Lj:o9:=Dm 4 11 Oh
def Q4:Ev->SR :=
 (Aw
  (Bt (cF Lj (Ab (Aa 0) (Ab (Aa 1) (Ab (Aa 2) (Ab (Aa 5) Ah))))) (Bj7 6 7 8))
  (Aw (Bt (Ek Ah) (cgN 9))
  (Aw (K5 (Ar (Aa 6)) (cgN 10) (Aw (Bt (Ek Ah) (cgN 11))
  (Aw (K5 (Ar (Aa 7)) (cgN 12) (Aw (Bt (cLC [none,some 0,some 3] (Ar (Mf (Aa 8) (Ei (Ab (Aa 10) (Ab (Aa 12) Ah))) (Ei Ah))) (cgN 0) Av (cF Gw (Ab (Aa 1) (Ab (cOp Aj (cOp Aj (Aa 1) (cC (.int 1))) (Aa 0)) (Ab (Aa 2) Ah))))) (cgN 13))
  (Aw (Bt (cC (.none)) (cgN 14))
  (Aw (cIf (Az (cOp (Be true) (Aa 13) (Ek Ah))) (Bt (cUn Bd (cLC [none,none,some 13] (A3x 13 (Kg (Aa 4))) (cgT 2 (Ao (cgN 0) (Ao (cgN 1) Dg))) Av (cF Er (Ab (cLC [none,some 0] (Ar (Aa 2)) (cgN 0) Av (cOp Aj (Aa 0) (Aa 1))) (Ab (Aa 1) Ah))))) (cgN 14)) Br)
  (Jl (Us (Aa 11) (Aa 14)))))))
  (Jl (Us (Aa 9) (Ei (Ab (Aa 10) (Ab (cUn Bd (Aa 11)) Ah))))))))
  (Bv (Ei (Ab (cUn Bd (Aa 1)) (Ab (cUn Bd (Aa 2)) (Ab (cUn Bd (Aa 3)) (Ab (cUn Bd (Aa 7)) (Ab (cUn Bd (Aa 9)) Ah))))))))))
def Nu:o9:=Dm 6 15 Q4
def M9:Ev->SR :=
 (Aw
  (Bt (cF Nu (Ab (Aa 3) (Ab (Aa 4) (Ab (Aa 5) (Ab (Aa 6) (Ab (Aa 7) (Ab (Aa 9) Ah))))))) (cgN 10))
  (Aw (cIf (Bk2 (Az (cF (Dd 8) (Ab (cF Eg (Ab (Aa 3) (Ab (Aa 4) (Ab (Aa 5) (Ab (Aa 6) (Ab (Aa 7) (Ab (Aa 9) Ah))))))) (Ab (Aa 10) Ah))))) (Bv (cC (.bool false))) Br)
  (Aw (Bt (cLC [none,some 2] (Ar (Ei (Ab (Aa 4) (Ab (Aa 5) (Ab (Aa 6) (Ab (Aa 7) Ah)))))) (cgN 0) Av (cOp Aj (Ek (Ab (cUn Hq (Aa 0)) (Ab (cUn Bd (Aa 0)) Ah))) (cF An (Ab (Aa 1) (Ab (cC (.int 2)) Ah))))) (cgN 11))
  (Aw (Bt (cF Eg (Ab (Aa 3) (Ab (cOp Aj (Aa 11) (cC (.int 0))) (Ab (cOp Aj (Aa 11) (cC (.int 1))) (Ab (cOp Aj (Aa 11) (cC (.int 2))) (Ab (cOp Aj (Aa 11) (cC (.int 3))) (Ab (Aa 9) Ah))))))) (cgN 12))
  (cIf (cOr (Az (cOp (Be true) (Aa 12) (Aa 10))) (Az (cOp (Be true) (cUn Ay5 (Aa 3)) (Aa 8)))) (Bv (cC (.bool false))) Br)))))
def N8:Ev->SR :=
 (Aw
  (Bt (cF M6 (Ab (Aa 0) (Ab (Aa 1) Ah))) (cgN 2))
  (Aw (Bt (cF Ov (Ab (Aa 2) Ah)) (cgT 5 (Ao (cgN 3) (Ao (cgN 4) (Ao (cgN 5) (Ao (cgN 6) (Ao (cgN 7) Dg)))))))
  (Aw (Bt (cUn Ay5 (Aa 3)) (cgN 8))
  (K5 (Ar (Ei (Ab (cC (.str "seen")) (Ab (cC (.str "rising")) Ah)))) (cgN 9) M9))))
def A9f:Ev->SR :=
 (Aw
  (K5 (Xg (cC (.int 7))) (cgN 1) N8)
  (Bv (cC (.bool true))))
def Au9:o9:=Dm 1 13 A9f
local macro_rules | `(tactic| wp_walk using $ts,*)=>`(tactic| simp only [Aw,Bt,cgN,cgT,Ao,Dg,Aa,cC,cOp,cUn,Ht,cF,cFz,List.contains_cons,Xn,Ac8,slots,pairsOf,ndB,Hu,Ah,Ab,cK,nrm,Dl,rdP,O.dat,O.flag,O.bor,frz,frzs,Ei,Ek,cIf,Az,Av,A3f,cOr,Bk2,Vn,Bg0,Bk4,Bv,Jl,Br,Jx,Us,slL,Pr,Za,Bi3,cSl,cON,cOS,Xg,cIn,R.bind_ok,R.toS_ok,Dm,A2s,resolve,Iu,Aa5,U.opI,U.Yg,A3d,Bw7,Od,Ag3,Rv,Uj,My,O8,B0h,List.getElem?_cons_zero,fP,List.set_cons_zero,List.set_cons_succ,aH,dh,aP,dB,List.replicate,List.cons_append,gA,cN,List.contains_nil,fH,Option.map_none,cW,Option.join_some,Option.isSome_some,cj,bM,Bool.not_true,Bool.not_false,Bool.and_true,Bool.true_and,Bool.and_false,Bool.false_and,Bool.or_true,Bool.or_false,Bool.true_or,Bool.false_or,dC,List.dropLast,List.any_nil,List.flatMap_nil,ite_true,ite_false,decide_true,decide_false,reduceCtorEq,Bv1,B4z,B4x,B3w,B3x,B3o,B2f,B2i,U.A3m,aM,Nat.reduceAdd,Nat.reduceSub,Nat.reduceLeDiff,Nat.reduceLT,Nat.reduceEqDiff,Int.reduceAdd,Int.reduceSub,Int.reduceNeg,Int.reduceLT,Int.reduceLE,Int.reducePow,Int.reduceToNat,Int.reduceMul,and_self,and_true,bW,cV,Option.some.injEq,$[$ts:term],*])
def Bx (n:Nat)(ds:w5):Prop:=∃x y z:Int,ds=[.int x,.int y,.int z]/\0<=x/\0<=y/\y<2 ^ 62/\0<=z/\z<=n
theorem Bx.mono (h:Bx n ds) (l:n<=m):Bx m ds:=by
 obtain⟨x,y,z,e,b,c,a,d,f⟩:=h
 exact⟨x,y,z,e,b,c,a,d,by lia⟩
theorem mod_lt {x m:Int}(h:0<m):0<=x % m/\x % m<m:=⟨Int.emod_nonneg _ (by lia),Int.emod_lt_of_pos _ h⟩
theorem Ba0 (h:-(2 ^ 64)<i/\i<2 ^ 64):Ws i j=true:=by
 unfold Ws;grind
theorem Ab4 (h:-(2 ^ 64)<j/\j<2 ^ 64):Ws i j=true:=by
 unfold Ws;grind
theorem Ar3 (h:0<j):Bb6 i j=true:=aK h
theorem B5k (h:0<j/\j<1073741824):A1v i j=true:=by
 unfold A1v;grind
theorem B4j:Aq5 10 18=true:=by rfl
theorem Bu2:Aq5 10 12=true:=by rfl
theorem Bu7:Aq5 10 11=true:=by rfl
theorem Cu (hb:Bx n ds) (hn:n<2 ^ 40) (a:0<m) (h1:m<16000000) :
 ∃r ds',Bx (n+1) ds'/\0<=r/\r<m/\An [.ls true ds,.im (.int m)]=.ret (.im (.int r)) [.ls true ds',.im (.int m)]:=by
 obtain⟨x,y,z,rfl,d,e,b,g,z1⟩:=hb
 by_cases c:0<x
 ·refine⟨x % m,[.int (x / m),.int y,.int z],⟨_,_,_,rfl,Int.ediv_nonneg d (by lia),e,b,g,by lia⟩,(mod_lt a).1,(mod_lt a).2,?_⟩
  wp_walk using An,O1,Aj,aK c,Ar3 a,B5k ⟨a,(by lia:m<1073741824)⟩
 ·have h:=mod_lt (x:=(y+48271*(z+1))*(39373+(z+1))) (m:=2147483647) (by decide)
  generalize e1:(y+48271*(z+1))*(39373+(z+1)) % 2147483647=once at h
  have g2:=mod_lt (x:=once) (m:=40009) (by decide)
  have f:=mod_lt (x:=(once+(z+1))*(once % 40009+7)) (m:=2147483629) (by decide)
  generalize e2:(once+(z+1))*(once % 40009+7) % 2147483629=twice at f
  refine⟨(twice*48271+once) % 2147483587 / 64 % m,[.int x,.int y,.int (z+1)],⟨_,_,_,rfl,d,e,b,by lia,by lia⟩,(mod_lt a).1,(mod_lt a).2,?_⟩
  wp_walk using An,O1,Aj,Lz,Cq,aR c,Ar3 a,B5k (i:=(twice*48271+once) % 2147483587) (j:=64) ⟨by decide,by decide⟩,Ba0 (i:=48271) (j:=z+1) ⟨by decide,by decide⟩,Ab4 (i:=y+48271*(z+1)) (j:=39373+(z+1)) ⟨by lia,by lia⟩,Ar3 (i:=(y+48271*(z+1))*(39373+(z+1))) (j:=2147483647) (by decide),e1,Ar3 (i:=once) (j:=40009) (by decide),Ab4 (i:=once+(z+1)) (j:=once % 40009+7) ⟨by lia,by lia⟩,Ar3 (i:=(once+(z+1))*(once % 40009+7)) (j:=2147483629) (by decide),e2,Ab4 (i:=twice) _,Ar3 (j:=2147483587) (by decide)
theorem At4 {k:Nat}:∃i:Int,Gh [.sc ns,.im (.int k)]=.ret (.im (.int i)) [.sc ns,.im (.int k)]:=by
 by_cases c:k<ns.length
 ·refine⟨ns[k],?_⟩
  have e:atI ns (k:Int)=some ns[k]:=Gz (bG c)
  wp_walk using Gh,Mt,Rx,Bu,PyData.canLay0,PyData.depth,Hi,aK (show (k:Int)<ns.length by lia),e,aO
 ·refine⟨0,?_⟩
  wp_walk using Gh,Mt,Rx,Bu,PyData.canLay0,PyData.depth,Hi,aR (show ¬ (k:Int)<ns.length by lia),aO
theorem B0s {k:Nat}(hk:k<=63):∃ds,Bx 0 ds/\M6 [.sc ns,.im (.int k)]=.ret (.ls false ds) [.sc ns,.im (.int k)]:=by
 obtain⟨i,e⟩:=At4 (ns:=ns) (k:=k)
 have a:(0:Int)<=(if i<0 then -i else i):=by grind
 have c:=mod_lt (x:=i) (m:=2305843009213693951) (by decide)
 generalize ea:(if i<0 then -i else i)=ab at a
 have b:(0:Int)<=(if decide ((1000000000000000000:Int)<=ab)=true then 1 else 0)/\(if decide ((1000000000000000000:Int)<=ab)=true then (1:Int) else 0)<=1:=by lia
 generalize eo:(if decide ((1000000000000000000:Int)<=ab)=true then (1:Int) else 0)=on at b
 refine⟨[.int (ab*on),.int (i % 2305843009213693951+39373*(k:Int)+17),.int 0],⟨_,_,_,rfl,Int.mul_nonneg a b.1,by lia,by lia,by lia,by lia⟩,?_⟩
 wp_walk using M6,Xh,e,Az9,ea,Gv,Lz,Cq,eo,B4j,Ar3 (i:=i) (j:=2305843009213693951) (by decide),Ab4 (j:=on) ⟨by lia,by lia⟩,Ba0 _
theorem A1c (hb:Bx n ds) (hn:n<2 ^ 39) (j:0<=l) (h1:l<=7) (h2:l<=f) (t:f<=m) (o:7<=m) (p:m<1000) :
 ∃r ds',Bx (n+2) ds'/\l<=r/\r<=m/\Hw [.ls true ds,.im (.int l),.im (.int f),.im (.int m)]=.ret (.im (.int r)) [.ls true ds',.im (.int l),.im (.int f),.im (.int m)]:=by
 obtain⟨r,s,g,u,k,e⟩:=Cu (m:=8) hb (by lia) (by decide) (by decide)
 by_cases c:r=0
 ·subst c
  obtain⟨q,a,d,h,i,b⟩:=Cu (m:=m-6) g (by lia) (by lia) (by lia)
  refine⟨7+q,a,d,by lia,by lia,?_⟩
  wp_walk using Hw,Ox,e,b,Be,Bu,PyData.canLay0,PyData.depth,PyData.eqv,Cq,aO,dm
 ·obtain⟨q,a,d,h,i,b⟩:=Cu (m:=f-l+1) g (by lia) (by lia) (by lia)
  refine⟨l+q,a,d,by lia,by lia,?_⟩
  wp_walk using Hw,Ox,e,b,Be,Bu,PyData.canLay0,PyData.depth,PyData.eqv,Cq,aO,du.mpr c
theorem A2i (hb:Bx n ds) (hn:n<2 ^ 39):∃(i:Int) (ds':w5),Bx (n+2) ds'/\VB (.int i)/\Fq [.ls true ds]=.ret (.im (.int i)) [.ls true ds']:=by
 obtain⟨r,d1,k,r0,r1,j⟩:=Cu (m:=9) hb (by lia) (by decide) (by decide)
 by_cases c:r=0
 ·subst c
  obtain⟨q,b,e,f,h,a⟩:=Cu (m:=4) k (by lia) (by decide) (by decide)
  obtain⟨d,s,g,_⟩:=Pj (l:=[PyData.int 999999999999,.int (-999999999999),.int 100000000000,.int 0]) (r:=q) f h
  have p:∃i:Int,d=.int i/\VB (.int i):=by
   simp only[aB,bf,bh]at g
   rcases g with rfl | rfl | rfl | rfl <;> exact⟨_,rfl,by decide⟩
  obtain⟨i,rfl,o⟩:=p
  refine⟨i,b,e,o,?_⟩
  wp_walk using Fq,Ko,j,a,Be,Bu,PyData.canLay0,PyData.depth,PyData.eqv,Cq,aO,dm,Bu2,Bu7,Aj,s
 ·obtain⟨q,b,e,f,h,a⟩:=Cu (m:=25) k (by lia) (by decide) (by decide)
  refine⟨q-7,b,e,?_,?_⟩
  ·show (decide (-1000000000000<=q-7)&&decide _)=true
   rw[aK (by lia),aK (by lia)];rfl
  wp_walk using Fq,Ko,j,a,Be,Bu,PyData.canLay0,PyData.depth,PyData.eqv,Cq,aO,du.mpr c
theorem Ba4 (hb:Bx n ds) (hn:n<2 ^ 39):∃(v:Vl) (ds':w5),Bx (n+2) ds'/\VB v/\Ex [.ls true ds]=.ret (.im v.d) [.ls true ds']:=by
 obtain⟨r,t,k,r0,r1,j⟩:=Cu (m:=9) hb (by lia) (by decide) (by decide)
 by_cases c4:r<4
 ·obtain⟨q,e,g,h,i,c⟩:=Cu (m:=13) k (by lia) (by decide) (by decide)
  refine⟨.int (q-3),e,g,?_,?_⟩
  ·show (decide (-1000000000000<=q-3)&&decide (q-3<=1000000000000))=true
   rw[aK (by lia),aK (by lia)];rfl
  wp_walk using Ex,Hy,j,c,Rx,Hi,Bu,PyData.canLay0,PyData.depth,aO,aK c4,Vl.d
 by_cases c5:r=4
 ·subst c5
  obtain⟨q,e,g,h,i,c⟩:=Cu (m:=4) k (by lia) (by decide) (by decide)
  obtain⟨d,s,f,_⟩:=Pj (l:=[PyData.int 999999999999,.int (-100000000000),.int 100,.int 10]) (r:=q) h i
  have p:∃v:Vl,d=v.d/\VB v:=by
   simp only[aB,bf,bh]at f
   rcases f with rfl | rfl | rfl | rfl <;> exact⟨.int _,rfl,by decide⟩
  obtain⟨v,rfl,o⟩:=p
  refine⟨v,e,g,o,?_⟩
  wp_walk using Ex,Hy,j,c,Rx,Hi,Be,Bu,PyData.canLay0,PyData.depth,PyData.eqv,aO,aR c4,dm,Bu2,Bu7,Aj,s
 by_cases c6:r=5
 ·subst c6
  refine⟨.non,t,k.mono (by lia),rfl,?_⟩
  wp_walk using Ex,Hy,j,Rx,Hi,Be,Bu,PyData.canLay0,PyData.depth,PyData.eqv,aO,aR c4,dm,du.mpr c5,Vl.d
 ·obtain⟨q,e,g,h,i,c⟩:=Cu (m:=15) k (by lia) (by decide) (by decide)
  obtain⟨d,s,f,_⟩:=Pj (l:=[PyData.str "",.str "a",.str "b",.str "B",.str "10",.str "9",.str "-",.str "a b",.str "it's",.str "\\",.str "/",.str "_",.str ":",.str "None",.str "ab"]) (r:=q) h i
  have p:∃v:Vl,d=v.d/\VB v:=by
   simp only[aB,bf,bh]at f
   rcases f with rfl | rfl | rfl | rfl | rfl | rfl | rfl | rfl | rfl | rfl | rfl | rfl | rfl | rfl | rfl <;> exact⟨.str _,rfl,by decide⟩
  obtain⟨v,rfl,o⟩:=p
  refine⟨v,e,g,o,?_⟩
  wp_walk using Ex,Hy,j,c,Rx,Hi,Be,Bu,PyData.canLay0,PyData.depth,PyData.eqv,aO,aR c4,du.mpr c5,du.mpr c6,Aj,s
noncomputable def names12:v4:=[Str.ofString "b",Str.ofString "a",Str.ofString "year",Str.ofString "z",Str.ofString "ab",Str.ofString "month",Str.ofString "aa",Str.ofString "quantity",Str.ofString "c",Str.ofString "town",Str.ofString "zz",Str.ofString "ba"]
theorem B4y {m:Nat}(h:m<=1000):(m:Int)<=16000000/\-16000000<=(m:Int):=by lia
theorem upN {n k a b c:Nat}(hn:n<a)(hk:k<=b)(h:a+b<=c):n+k<c:=aN (Nat.add_lt_add_of_lt_of_le hn hk) h
theorem Z7 {n:Nat}{r:Int}(a:0<=r)(h1:r<n):ixN n r=some r.toNat:=by
 unfold ixN;simp_all
theorem U7 : (Rh lo n).length=n:=by unfold Rh;simp_all
theorem U5 (h:(Rh lo n)[k]?=some d):d=.int (lo+k)/\k<n:=by
 unfold Rh at h
 grind
theorem S9 {α β:Type}(f:α->β):∀(l:List α) (j:Nat),(l.map f).eraseIdx j=(l.eraseIdx j).map f
 | [],j=>rfl
 | a::l,0=>rfl
 | a::l,j+1=>by rw[aH,jq,jq,aH,S9 f l j]
theorem Qg {α:Type}:∀(l:List α) {j:Nat}(h:j<l.length),(l[j]::l.eraseIdx j).Perm l
 | a::l,0,h=>List.Perm.refl _
 | a::l,j+1,h=>by
  rw[jq,List.getElem_cons_succ]
  exact(List.Perm.swap a _ _).trans (List.Perm.cons a (Qg l (by simpa using h)))
structure Names (ns:v4):Prop where
 nd:ns.Nodup
 sub:∀x∈ns,x∈names12
theorem A8n (hb:Bx n ds) (hn:n<2 ^ 38) (hm:m<=12) :
 ∃b ds',b.length=m/\Names b/\Bx (n+m) ds'/\Jw [.ls true ds,.im (.int m)]=.ret (.ls false (b.map PyData.str)) [.ls true ds',.im (.int m)]:=by
 have i:=Jq (g:=cgN 0) (ft:=Av) (fe:=Pr (Aa 1) (cF An (Ab (Aa 2) (Ab (Ht (Aa 1)) Ah)))) (items:=Rh 0 m) (acc:=[]) (n:=0) (c:=[none,some (.ls true (names12.map PyData.str)),some (.ls true ds)])
  (P:=fun k f c=>∃a h t b,c=[t,some (.ls true (a.map PyData.str)),some (.ls true h)]/\Bx (n+k) h/\f=b.map PyData.str/\(b++a).Perm names12/\b.length=k)
  ⟨names12,ds,none,[],rfl,hb,rfl,List.Perm.refl _,rfl⟩ (fun k d f c C w=>by
   rw[aM]at w ⊢;obtain⟨a,h,t,b,rfl,o,rfl,j,l⟩:=w;obtain⟨rfl,hk⟩:=U5 C
   have ll:a.length+k=12:=by have:=j.length_eq;rw[aX,l]at this;have e:names12.length=12:=rfl;lia
   obtain⟨r,v,A,z,y,B⟩:=Cu (m:=(a.length:Int)) o (by lia) (by lia) (by lia)
   have u:r.toNat<a.length:=by lia
   have q:(a.map PyData.str)[r.toNat]?=some (.str a[r.toNat]):=by simp[u]
   have p:ixN a.length r=some r.toNat:=Z7 z y
   refine⟨some (.str a[r.toNat]),[some (.im (.int (0+(k:Int)))),some (.ls true ((a.eraseIdx r.toNat).map PyData.str)),some (.ls true v)],?_,a.eraseIdx r.toNat,v,_,b++[a[r.toNat]],rfl,A.mono (by lia),by simp,?_,by simp[l]⟩
   ·wp_walk using G9,ao,B,p,q,S9,show a.length<=16000000 by lia
   ·rw[fC]
    exact(List.Perm.append_left b (Qg a u)).trans j)
 obtain⟨f,cI,e,a,h,t,b,rfl,o,rfl,j,l⟩:=i;rw[aM,U7]at o l
 have D:(b++a).Nodup:=j.nodup_iff.mpr (by decide)
 refine⟨b,h,l,⟨(List.nodup_append.mp D).1,fun x q=>j.mem_iff.mp (bJ _ q)⟩,o,?_⟩
 have s:cLC [none,some 2,some 0] (Xg (Aa 1)) (cgN 0) Av (Pr (Aa 1) (cF An (Ab (Aa 2) (Ab (Ht (Aa 1)) Ah)))) [some (.ls true ds),some (.im (.int m)),some (.ls false (names12.map PyData.str))]=.ok (.o (.ls false (b.map PyData.str))) [some (.ls true h),some (.im (.int m)),some (.ls false (a.map PyData.str))] :=
  Dq (ds:=Rh 0 m) (c1:=[some (.ls true ds),some (.im (.int m)),some (.ls false (names12.map PyData.str))]) (by wp_walk using B4y (au hm (by decide)),gm) (by rw[U7];exact au hm (by decide)) e (by wp_walk using bW)
 unfold Jw Pq;simp only[names12,aH,dh]at s
 wp_walk using s
theorem A2o {k:Nat}{vs:n_} (h:v∉vs) (a:vs.Nodup):(vs++[v]).Nodup:=by
 grind
theorem Bi9 (hb:Bx n ds) (hn:n<2 ^ 38) (hm:m<=1000) :
 ∃a ds',VBs a/\a.Nodup/\a.length<=m/\(0<m->a≠[])/\Bx (n+2*m) ds'/\G8 [.ls true ds,.im (.int m)]=.ret (.ls false (a.map Vl.d)) [.ls true ds',.im (.int m)]:=by
 have i:=Fz (g:=cgN 3) (body:=Aw (Bt (cF Ex (Ab (Aa 0) Ah)) (cgN 4)) (cIf (Az (cOp (Kv true) (Aa 4) (Aa 2))) (Jl (Us (Aa 2) (Aa 4))) Br)) (items:=Rh 0 m) (n:=0) (c:=[some (.ls true ds),some (.im (.int m)),some (.ls false []),none,none])
  (P:=fun k c=>∃j a x y,c=[some (.ls true j),some (.im (.int m)),some (.ls false (a.map Vl.d)),x,y]/\Bx (n+2*k) j/\VBs a/\a.Nodup/\a.length<=k/\(0<k->a≠[]))
  ⟨ds,[],none,none,rfl,hb,(fun v b=>by cases b),fG,aq _,fun h=>absurd h (by decide)⟩ (fun k d c B s=>by
   rw[aM]at s ⊢;obtain⟨j,a,x,y,rfl,p,b,o,l,f⟩:=s;obtain⟨rfl,w⟩:=U5 B
   obtain⟨v,q,t,r,A⟩:=Ba4 p (upN hn (jo 2 (au (gO w) hm)) (by decide))
   by_cases c:v∈a
   ·refine⟨[some (.ls true q),some (.im (.int m)),some (.ls false (a.map Vl.d)),some (.im (.int (0+(k:Int)))),some (.im v.d)],.inl ?_,q,a,_,_,rfl,t,b,o,j9 l,fun _ z=>by rw[z]at c;cases c⟩
    wp_walk using A,At9 r b,aK c
   ·refine⟨[some (.ls true q),some (.im (.int m)),some (.ls false ((a++[v]).map Vl.d)),some (.im (.int (0+(k:Int)))),some (.im v.d)],.inl ?_,q,a++[v],_,_,rfl,t,VBs.app b (fun u C=>by rw[aV.mp C];exact r),A2o (k:=k) c o,by rw[aX,gV];lia,fun _=>by simp⟩
    wp_walk using A,At9 r b,aR c,ao,show a.length<16000000 from bR l (aN w (au hm (by decide))),bA)
 obtain⟨c',e,j,a,x,y,rfl,p,b,o,l,f⟩:=i;rw[aM,U7]at p l f
 refine⟨a,j,b,o,l,f,p,?_⟩
 unfold G8 Tw
 wp_walk using K5,B4y hm,gm,e
structure Tb where
 cols:v4
 rows:n8
def Tb.d (t:Tb):t6:=.tuple [.tuple (t.cols.map PyData.str),.tuple (t.rows.map tD)]
structure Tb.Ok (t:Tb):Prop where
 nms:Names t.cols
 cpos:2<=t.cols.length
 clen:t.cols.length<=12
 rows:∀r∈t.rows,r.length=t.cols.length/\VBs r
 rlen:t.rows.length<=24
def plD (vs:n_):t6:=.list (vs.map Vl.d)
structure Ax9 (n:Nat) (ps:n8):Prop where
 len:ps.length=n
 each:∀p∈ps,VBs p/\p≠[]/\p.length<=12
theorem Bd9 (hb:Bx n ds) (hn:n<2 ^ 37) (hl:items.length<=100) :
 ∃
  b f t,Ax9 items.length b/\Bx (n+25*items.length) f /\
  Dv (cgN 0) Av (cF G8 (Ab (Aa 1) (Ab (cOp Aj (Ek (cK [.int 2,.int 3,.int 3,.int 5,.int 12])) (cF An (Ab (Aa 1) (Ab (cC (.int 5)) Ah)))) Ah))) items [] [none,some (.ls true ds)]=.ok (b.map plD) [t,some (.ls true f)]:=by
 have j:=Jq (g:=cgN 0) (ft:=Av) (fe:=cF G8 (Ab (Aa 1) (Ab (cOp Aj (Ek (cK [.int 2,.int 3,.int 3,.int 5,.int 12])) (cF An (Ab (Aa 1) (Ab (cC (.int 5)) Ah)))) Ah))) (items:=items) (acc:=[]) (n:=0) (c:=[none,some (.ls true ds)])
  (P:=fun k a c=>∃f t b,c=[t,some (.ls true f)]/\k<=items.length/\Bx (n+25*k) f/\a=b.map plD/\Ax9 k b)
  ⟨ds,none,[],rfl,aO _,hb,rfl,rfl,fun p i=>nomatch i⟩ (fun k d a c E v=>by
   rw[aM]at v ⊢;obtain⟨f,t,b,rfl,F,o,rfl,i⟩:=v;have s:k<items.length:=(aZ.mp E).1
   obtain⟨r,d2,G,B,z,C⟩:=Cu (m:=5) o (by lia) (by decide) (by decide)
   obtain⟨x,D,w,_⟩:=Pj (l:=[PyData.int 2,.int 3,.int 3,.int 5,.int 12]) (r:=r) B z
   have q:∃m:Nat,x=.int m/\0<m/\m<=12:=by
    simp only[aB,bf,bh]at w
    rcases w with rfl | rfl | rfl | rfl | rfl
    ·exact⟨2,rfl,by decide,by decide⟩
    ·exact⟨3,rfl,by decide,by decide⟩
    ·exact⟨3,rfl,by decide,by decide⟩
    ·exact⟨5,rfl,by decide,by decide⟩
    ·exact⟨12,rfl,by decide,by decide⟩
   obtain⟨m,rfl,A,m1⟩:=q
   obtain⟨y,H,q,nd,I,u,J,K⟩:=Bi9 (m:=m) G (by lia) (by lia)
   refine⟨some (plD y),[some (.im d),some _],?_,H,_,b++[y],rfl,s,J.mono (by lia),by simp,by simp[i.len],fun p h=>by
    rcases bC.mp h with h | h
    ·exact i.each p h
    ·rw[aV.mp h];exact⟨q,u A,by lia⟩⟩
   wp_walk using C,Aj,D,K,plD)
 obtain⟨a,cI,e,f,t,b,rfl,_,o,rfl,i⟩:=j;rw[aM]at o i;exact⟨b,f,t,i,o,e⟩
theorem A2d (hb:Bx n ds) (hn:n<2 ^ 37) (hp:Ax9 w ps) (hw:w<=100) :
 ∃
  a f t,a.length=w/\VBs a/\Bx (n+w) f /\
  Dv (cgN 0) Av (cOp Aj (Aa 0) (cF An (Ab (Aa 1) (Ab (Ht (Aa 0)) Ah)))) (ps.map plD) [] [none,some (.ls true ds)]=.ok (a.map Vl.d) [t,some (.ls true f)]:=by
 have o:=Jq (g:=cgN 0) (ft:=Av) (fe:=cOp Aj (Aa 0) (cF An (Ab (Aa 1) (Ab (Ht (Aa 0)) Ah)))) (items:=ps.map plD) (acc:=[]) (n:=0) (c:=[none,some (.ls true ds)])
  (P:=fun k b c=>∃f t a,c=[t,some (.ls true f)]/\k<=w/\Bx (n+k) f/\b=a.map Vl.d/\a.length=k/\VBs a)
  ⟨ds,none,[],rfl,aO _,hb,rfl,rfl,fun v C=>by cases C⟩ (fun k d b c F B=>by
   rw[aM]at B ⊢;obtain⟨f,t,a,rfl,M,s,rfl,q,A⟩:=B;obtain⟨p,j,e⟩:=Cw F;subst e;have i:k<ps.length:=(aZ.mp j).1;rw[hp.len]at i;obtain⟨E,y,pl⟩:=hp.each p (bc j);have lp:0<p.length:=iG.mpr y
   obtain⟨r,I,J,D,H,G⟩:=Cu (m:=(p.length:Int)) s (by lia) (by lia) (by lia)
   obtain⟨x,L,K,_⟩:=Pj (l:=p.map Vl.d) (r:=r) D (by rw[ao];exact H)
   obtain⟨v,z,rfl⟩:=aD.mp K
   refine⟨some v.d,[some (.im (plD p)),some _],?_,I,_,a++[v],rfl,i,J.mono (by lia),by simp,by simp[q],VBs.app A fun u h=>by rw[aV.mp h];exact E v z⟩
   wp_walk using plD,G9,ao,G,Aj,L)
 obtain⟨b,cI,e,f,t,a,rfl,_,s,rfl,q,A⟩:=o;rw[aM,ao,hp.len]at s q;exact⟨a,f,t,q,A,s,e⟩
abbrev Qp:Ev->SR:=Aw (Bt (cUn Bd (cLC [none,some 0] (Ar (Aa 4)) (cgN 0) Av (cOp Aj (Aa 0) (cF An (Ab (Aa 1) (Ab (Ht (Aa 0)) Ah)))))) (cgN 7))
 (Aw (cIf (A3f (Az (cOp (Be true) (Aa 5) (Ek Ah))) (Az (cOp (Be false) (cF An (Ab (Aa 0) (Ab (cC (.int 9)) Ah))) (cC (.int 0))))) (Bt (cOp Aj (Aa 5) (cF An (Ab (Aa 0) (Ab (Ht (Aa 5)) Ah)))) (cgN 7)) Br)
 (Jl (Us (Aa 5) (Aa 7))))
theorem A4w {rows:n8} (h:∀r∈rows,r.length=w/\VBs r) (hw:w<=12) (hl:rows.length<=100):Good (.list (rows.map tD)) 2 2400000:=by
 refine (Good.lst (n:=1) (w:=1923*12+4) (k:=100) (fun d a=>?_) (by grind)).mono (by decide) (by decide)
 obtain⟨r,b,rfl⟩:=aD.mp a
 exact Ke (h r b).2 (by grind)
theorem A6e (h:∀r∈rows,r.length=w/\VBs r) (hw:w<=12) (hl:rows.length<=100):Be true (.list (rows.map tD)) (.list [])=some (.im (.bool (decide (rows≠[])))):=by
 rw[Tp (A4w h hw hl) (n':=1) (w':=4) ⟨rfl,rfl,rfl,by decide,by decide⟩ (by decide) (by decide)]
 cases rows with
 | nil=>rfl
 | cons a r=>rfl
def M3 (o:O)(ds:w5):Prop:=o=.ls false ds\/o=.im (.list ds)
theorem Av3 (hb:Bx n ds) (hn:n<2 ^ 36) (hp:Ax9 w ps) (hw:w<=12) (p:M3 d (ps.map plD)) (hr:∀r∈rows,r.length=w/\VBs r) (hl:rows.length<=50) :
 ∃a h,a.length=w/\VBs a/\Bx (n+14) h/\My (cgN 6) Qp i [some (.ls true ds),s1,s2,s3,some d,some (.ls false (rows.map tD)),s6,s7]=.nx [some (.ls true h),s1,s2,s3,some (.im (.list (ps.map plD))),some (.ls false ((rows++[a]).map tD)),some (.im i),some (.im (tD a))]:=by
 obtain⟨g,h,t,q,v,y,C⟩:=A2d hb (by lia) hp (by lia)
 have f:∀d,M3 d (ps.map plD)->cLC [none,some 0] (Ar (Aa 4)) (cgN 0) Av (cOp Aj (Aa 0) (cF An (Ab (Aa 1) (Ab (Ht (Aa 0)) Ah)))) [some (.ls true ds),s1,s2,s3,some d,some (.ls false (rows.map tD)),some (.im i),s7]=.ok (.o (.ls false (g.map Vl.d))) [some (.ls true h),s1,s2,s3,some (.im (.list (ps.map plD))),some (.ls false (rows.map tD)),some (.im i),s7]:=fun d p=>by
  refine Dq (ds:=ps.map plD) (c1:=[some (.ls true ds),s1,s2,s3,some (.im (.list (ps.map plD))),some (.ls false (rows.map tD)),some (.im i),s7]) ?_ (by rw[ao,hp.len];lia) C (by wp_walk using bW)
  rcases p with rfl | rfl <;> wp_walk using Ar
 have f:=f d p;have o:PyData.tuple (g.map Vl.d)=tD g:=rfl
 have s:(rows.map tD).length<16000000:=by rw[ao];lia
 have e:=A6e hr hw (by lia)
 by_cases hne:rows=[]
 ·subst hne
  refine⟨g,h,q,v,y.mono (by lia),?_⟩
  simp only[dh]at f e s
  wp_walk using Qp,f,Bd,o,e,ne_eq,not_true_eq_false
 ·obtain⟨r,B,z,r0,r1,u⟩:=Cu (m:=9) y (by lia) (by decide) (by decide)
  have e:Be true (.list (rows.map tD)) (.list [])=some (.im (.bool true)):=by rw[e,aK hne]
  by_cases c:r=0
  ·subst c
   have lp:0<rows.length:=iG.mpr hne
   obtain⟨k,G,D,F,E,H⟩:=Cu (m:=(rows.length:Int)) z (by lia) (by lia) (by lia)
   obtain⟨x,hx,A,_⟩:=Pj (l:=rows.map tD) (r:=k) F (by rw[ao];exact E)
   obtain⟨a,b,rfl⟩:=aD.mp A
   refine⟨a,G,(hr a b).1,(hr a b).2,D.mono (by lia),?_⟩
   have j:Be false (.int 0) (.int 0)=some (.im (.bool true)):=rfl
   wp_walk using Qp,f,Bd,o,e,u,j,G9,ao,H,Aj,hx,s,bA,show rows.length<16000000 by lia
  ·refine⟨g,B,q,v,z.mono (by lia),?_⟩
   have j:Be false (.int r) (.int 0)=some (.im (.bool false)):=by
    wp_walk using Be,Bu,PyData.canLay0,PyData.depth,PyData.eqv,aO,du.mpr c
   wp_walk using Qp,f,Bd,o,e,u,j,ao,bA,show rows.length<16000000 by lia
theorem A6d (hb:Bx n ds) (hn:n<2 ^ 35) (h2:2<=m) (hm:m<=12) (hk:k<=24) :
 ∃t l,Tb.Ok t/\t.cols.length=m/\t.rows.length=k/\Bx (n+1000) l/\Lq [.ls true ds,.im (.int m),.im (.int k)]=.ret (.im t.d) [.ls true l,.im (.int m),.im (.int k)]:=by
 obtain⟨b,l,B,z,U,K⟩:=A8n (m:=m) hb (by lia) hm
 obtain⟨o,q,t,E,F,J⟩:=Bd9 (items:=b.map PyData.str) U (by lia) (by rw[ao];lia)
 rw[ao,B]at E F
 have L:cLC [none,some 0] (Ar (Aa 3)) (cgN 0) Av (cF G8 (Ab (Aa 1) (Ab (cOp Aj (Ek (cK [.int 2,.int 3,.int 3,.int 5,.int 12])) (cF An (Ab (Aa 1) (Ab (cC (.int 5)) Ah)))) Ah))) [some (.ls true l),some (.im (.int m)),some (.im (.int k)),some (.ls false (b.map PyData.str)),none,none,none,none]=.ok (.o (.ls false (o.map plD))) [some (.ls true q),some (.im (.int m)),some (.im (.int k)),some (.im (.list (b.map PyData.str))),none,none,none,none] :=
  Dq (ds:=b.map PyData.str) (c1:=[some (.ls true l),some (.im (.int m)),some (.im (.int k)),some (.im (.list (b.map PyData.str))),none,none,none,none]) (by wp_walk using Ar) (by rw[ao];lia) J (by wp_walk using bW)
 have u:=Fz (g:=cgN 6) (body:=Qp) (items:=Rh 0 k) (n:=0) (c:=[some (.ls true q),some (.im (.int m)),some (.im (.int k)),some (.im (.list (b.map PyData.str))),some (.ls false (o.map plD)),some (.ls false []),none,none])
  (P:=fun j c=>∃e s a x y,c=[some (.ls true e),some (.im (.int m)),some (.im (.int k)),some (.im (.list (b.map PyData.str))),some s,some (.ls false (a.map tD)),x,y]/\j<=k/\Bx (n+m+25*m+14*j) e/\M3 s (o.map plD)/\(∀r∈a,r.length=m/\VBs r)/\a.length=j)
  ⟨q,_,[],none,none,rfl,aO _,F,.inl rfl,(fun r f=>nomatch f),rfl⟩ (fun j d c N G=>by
   rw[aM]at G ⊢;obtain⟨e,s,a,x,y,rfl,I,v,D,f,w⟩:=G;obtain⟨rfl,M⟩:=U5 N
   obtain⟨A,O,Q,R,S,T⟩:=Av3 (s1:=some (.im (.int m))) (s2:=some (.im (.int k))) (s3:=some (.im (.list (b.map PyData.str)))) (s6:=x) (s7:=y) (i:=.int (0+(j:Int))) v (by lia) E hm D f (by lia)
   exact⟨_,.inl T,O,_,a++[A],_,_,rfl,M,S.mono (by lia),.inr rfl,fun r h=>by
    rcases bC.mp h with h | h
    ·exact f r h
    ·rw[aV.mp h];exact⟨Q,R⟩,by simp[w]⟩)
 obtain⟨C,H,e,s,a,x,y,rfl,_,v,D,f,w⟩:=u;rw[aM,U7]at v w
 refine⟨⟨b,a⟩,e,⟨z,by show 2<=b.length;lia,by show b.length<=12;lia,fun r h=>by show r.length=b.length/\_;rw[B];exact f r h,by show a.length<=24;lia⟩,B,w,v.mono (by lia),?_⟩
 refine Qz (p:=.o (.im (Tb.d ⟨b,a⟩))) (c:=[some (.ls true e),some (.im (.int m)),some (.im (.int k)),some (.im (.list (b.map PyData.str))),some s,some (.ls false (a.map tD)),x,y]) ?_ rfl (by wp_walk using bW)
 show Mw [some (.ls true ds),some (.im (.int m)),some (.im (.int k)),none,none,none,none,none]=_
 unfold Mw
 refine (Bh (c':=[some (.ls true l),some (.im (.int m)),some (.im (.int k)),some (.ls false (b.map PyData.str)),none,none,none,none]) (by wp_walk using K)).trans ?_
 refine (Bh (c':=[some (.ls true q),some (.im (.int m)),some (.im (.int k)),some (.im (.list (b.map PyData.str))),some (.ls false (o.map plD)),none,none,none]) (by wp_walk using L)).trans ?_
 refine (Bh (c':=[some (.ls true q),some (.im (.int m)),some (.im (.int k)),some (.im (.list (b.map PyData.str))),some (.ls false (o.map plD)),some (.ls false []),none,none]) (by wp_walk using bW)).trans ?_
 refine (Bh ((Hl (by wp_walk using show (k:Int)<=16000000/\-16000000<=(k:Int) by lia,gm)).trans H)).trans ?_
 wp_walk using Bd,Tb.d
theorem Ac0 (hb:Bx n ds) (hn:n<2 ^ 34) :
 ∃t c,Tb.Ok t/\Bx (n+1004) c/\Fy [.ls true ds]=.ret (.im t.d) [.ls true c]:=by
 obtain⟨a,c,e,a0,a1,h⟩:=A1c (l:=2) (f:=5) (m:=12) hb (by lia) (by decide) (by decide) (by decide) (by decide) (by decide) (by decide)
 obtain⟨b,d2,i,j,c1,g⟩:=A1c (l:=0) (f:=8) (m:=24) e (by lia) (by decide) (by decide) (by decide) (by decide) (by decide) (by decide)
 obtain⟨o,rfl⟩:=gG (show 0<=a by lia)
 obtain⟨q,rfl⟩:=gG j
 obtain⟨t,p,r,_,_,s,d⟩:=A6d (m:=o) (k:=q) i (by lia) (by lia) (by lia) (by lia)
 refine⟨t,p,r,s.mono (by lia),?_⟩
 wp_walk using Fy,Jz,h,g,d
mutual
theorem A0r:∀d:t6,d.canLay0=true->PyData.eqv d d=true
 | .none,_=>rfl
 | .bool b,_=>by show (b==b)=true;simp
 | .int i,_=>by show (i==i)=true;simp
 | .str x,_=>by show (x==x)=true;simp
 | .tuple ds,h=>Xl ds h
 | .list ds,h=>Xl ds h
 | .dict kv,h=>nomatch h
theorem Xl:∀ds:w5,PyData.canLayAll0 ds=true->PyData.eqvAll ds ds=true
 | [],_=>rfl
 | d::r,h=>by
  obtain⟨n1,n2⟩:=aC.mp (show (d.canLay0&&PyData.canLayAll0 r)=true from h)
  show (PyData.eqv d d&&PyData.eqvAll r r)=true
  rw[A0r d n1,Xl r n2]
  rfl
end
theorem Bm6 (i:Int):PyData.eqv (.int i) (.int i)=true:=by show (i==i)=true;simp
theorem Ao0 : (List.replicate n true).all id=true:=by simp
theorem Nk:∀n:Nat,boolsOf (List.replicate n (PyData.bool true))=some (List.replicate n true)
 | 0=>rfl
 | n+1=>by rw[dM,dM];show (boolsOf (List.replicate n (PyData.bool true))).map (true::·)=_;rw[Nk n];rfl
theorem Lp (ha:Bu a=true) (hb:Bu b=true):Be neg a b=some (.im (.bool (if neg then !PyData.eqv a b else PyData.eqv a b))):=by unfold Be;grind
theorem Bp6 (h:x∈Io ds ds):∃d∈ds,x=.tuple [d,d]:=by
 obtain⟨⟨a,b⟩,f,c⟩:=aD.mp h;obtain⟨i,g,e⟩:=j6 f
 grind
theorem A1r {d:t6}:∀{ds:w5},d∈ds->d.depth<=PyData.depthAll ds
 | a::r,h=>by
  show d.depth<=max a.depth (PyData.depthAll r)
  rcases aB.mp h with rfl | h
  ·exact Nat.le_max_left _ _
  ·exact au (A1r h) (Nat.le_max_right _ _)
theorem A0l {d:t6}:∀{ds:w5},d∈ds->PyData.canLayAll0 ds=true->d.canLay0=true
 | a::r,h,l=>by
  obtain⟨l1,l2⟩:=aC.mp (show (a.canLay0&&PyData.canLayAll0 r)=true from l)
  rcases aB.mp h with rfl | h
  ·exact l1
  ·exact A0l h l2
noncomputable def Short:Nat->t6->Prop
 | 0,_=>True
 | _+1,.list _=>False
 | n+1,.tuple ds=>ds.length<=16000000/\∀d∈ds,Short n d
 | _+1,_=>True
theorem Bc3:∀ds:w5,2*ds.length<=La ds
 | []=>aq _
 | d::r=>by have:=Bc3 r;show 2*(r.length+1)<=wt d+2+La r;lia
theorem A9g {d:t6}:∀{ds:w5},d∈ds->wt d<=La ds
 | a::r,h=>by
  show wt d<=wt a+2+La r
  rcases aB.mp h with rfl | h
  ·exact au (gJ _ 2) (gJ _ _)
  ·exact au (A9g h) (Nat.le_add_left _ _)
theorem Ab8:∀vs:n_,Tn (vs.map Vl.d)=true
 | []=>rfl
 | v::vs=>by
  show (noL v.d&&Tn (vs.map Vl.d))=true
  rw[Ab8 vs]
  cases v <;> rfl
theorem Ap2:∀a:v4,Tn (a.map PyData.str)=true
 | []=>rfl
 | x::a=>by show (true&&Tn (a.map PyData.str))=true;rw[Ap2 a];rfl
theorem Ac6 (h:∀d∈ds,noL d=true):Tn ds=true:=by
 induction ds with
 | nil=>rfl
 | cons d r a=>show (noL d&&Tn r)=true;grind
theorem A1d {d:t6}:∀{ds:w5},d∈ds->Tn ds=true->noL d=true
 | a::r,h,l=>by
  obtain⟨l1,l2⟩:=aC.mp (show (noL a&&Tn r)=true from l)
  rcases aB.mp h with rfl | h
  ·exact l1
  ·exact A1d h l2
theorem Xp (n:Nat):∀(d:t6),wt d<=16000000->noL d=true->Short n d:=by
 induction n with
 | zero=>intro d _ _;trivial
 | succ n c =>
  intro d h b
  cases d with
  | tuple e =>
   have h := au (gJ _ 4) h
   exact⟨au (au (Nat.le_mul_of_pos_left _ (by decide)) (Bc3 _)) h,fun d a=>c d (au (A9g a) h) (A1d a b)⟩
  | list e=>cases b
  | _=>trivial
theorem Az0:∀(n:Nat) (d:t6),d.depth<n->n<=40->d.canLay0=true->Short n d->Dd n [.im d,.im d]=.ret (.im (.bool true)) [.im d,.im d]
 | 0,d,h,_,_,_=>absurd h (Nat.not_lt_zero _)
 | n+1,d,h,hn,hl,hs=>by
  have fb:∀b:Bool,Bu (.bool b)=true:=fun b=>rfl
  have fl:Bu d=true:=by unfold Bu;rw[hl,aK (show d.depth<=40 from au (Nat.le_of_lt_succ h) (eU hn))];rfl
  have fi:∀k:Nat,Bu (.int (k:Int))=true:=fun k=>rfl
  have loop:∀ds:w5,(∀e∈ds,Dd n [.im e,.im e]=.ret (.im (.bool true)) [.im e,.im e])->∃c',Dv (cgT 2 (Ao (cgN 0) (Ao (cgN 1) Dg))) Av (cF (Dd n) (Ab (Aa 0) (Ab (Aa 1) Ah))) (Io ds ds) [] [none,none]=.ok ((Io ds ds).map fun _=>.bool true) c'/\∃a b,c'=[a,b]:=fun ds hds=>by
   have:=A2l (g:=cgT 2 (Ao (cgN 0) (Ao (cgN 1) Dg))) (ft:=Av) (fe:=cF (Dd n) (Ab (Aa 0) (Ab (Aa 1) Ah))) (I:=fun c=>∃a b,c=[a,b]) (F:=fun _=>.bool true) (items:=Io ds ds) (acc:=[]) (c:=[none,none]) ⟨none,none,rfl⟩ (fun x c hx ⟨a,b,hc⟩=>by
    subst hc;obtain⟨e,he,rfl⟩:=Bp6 hx
    refine⟨[some (.im e),some (.im e)],?_,_,_,rfl⟩
    wp_walk using hds e he)
   simpa using this
  have fin:∀ds:w5,(Io ds ds).map (fun _=>PyData.bool true)=List.replicate ds.length (.bool true):=fun ds=>by
   rw[List.map_const'];unfold Io;rw[ao,eZ,fM]
  show Dm 2 2 (Ha (Dd n)) _=_
  cases d with
  | none=>wp_walk using Ha,Qh,Dw,Qa,Gk,Lp fl fl,Lp (fb _) (fb _),PyData.eqv,dm
  | bool b=>wp_walk using Ha,Qh,Dw,Qa,Gk,Lp fl fl,Lp (fb _) (fb _),PyData.eqv,dm
  | int i=>wp_walk using Ha,Qh,Dw,Qa,Gk,Lp fl fl,Lp (fb _) (fb _),PyData.eqv,dm
  | str x=>wp_walk using Ha,Qh,Dw,Qa,Gk,Lp fl fl,Lp (fb _) (fb _),PyData.eqv,dm
  | dict k=>cases hl
  | list ds=>exact hs.elim
  | tuple ds =>
   have hd:∀e∈ds,Dd n [.im e,.im e]=.ret (.im (.bool true)) [.im e,.im e]:=fun e he=>Az0 n e (bR (A1r he) (Nat.lt_of_succ_lt_succ h)) (eU hn) (A0l he hl) (hs.2 e he)
   obtain⟨c',e1,a,b,rfl⟩:=loop ds hd;rw[fin]at e1
   have e2:cLC [none,none] (Ax3 (Aa 0) (Aa 1)) (cgT 2 (Ao (cgN 0) (Ao (cgN 1) Dg))) Av (cF (Dd n) (Ab (Aa 0) (Ab (Aa 1) Ah))) [some (.im (.tuple ds)),some (.im (.tuple ds))]=.ok (.o (.ls false (List.replicate ds.length (.bool true)))) [some (.im (.tuple ds)),some (.im (.tuple ds))] :=
    Dq (ds:=Io ds ds) (c1:=[some (.im (.tuple ds)),some (.im (.tuple ds))]) (by wp_walk using Ax3,Fl) (by unfold Io;rw[ao,eZ,fM];exact hs.1) e1 rfl
   wp_walk using Ha,Qh,Dw,Qa,Lp (fb _) (fb _),G9,Lp (fi _) (fi _),PyData.eqv,dm,e2,Ah6,Nk,Ao0
theorem Bd8:∀d:t6,d.canLay0=true->PyData.eqv d d=true:=A0r
noncomputable def vlt:Vl->Vl->Bool
 | .non,.non=>false
 | .non,_=>true
 | .int i,.int j=>decide (i<j)
 | .int _,.str _=>true
 | .str x,.str y=>decide (x.cps.toList<y.cps.toList)
 | _,_=>false
noncomputable def Dr:Vl->t6
 | .non=>.tuple [.int 0,.int 0]
 | .int i=>.tuple [.int 1,.int i]
 | .str x=>.tuple [.int 2,.str x]
noncomputable def Fg:Vl->t6
 | .non=>.tuple [.int 0,.int 0,.str ""]
 | .int i=>.tuple [.int 1,.int i,.str ""]
 | .str x=>.tuple [.int 2,.int 0,.str x]
theorem A2a : Ck (k+1) [.im v.d]=.ret (.im (Dr v)) [.im v.d]:=by
 cases v with
 | non=>rfl
 | int i=>rfl
 | str x=>trivial
theorem Xi : Ea [.im v.d]=.ret (.im (Fg v)) [.im v.d]:=by
 cases v with
 | non=>wp_walk using Ea,Ot,Vl.d,Gk,Dw,Qa,Fg
 | int i=>wp_walk using Ea,Ot,Vl.d,Gk,Dw,Qa,Fg
 | str x=>trivial
theorem Zh (h:VB v):Bu (Dr v)=true:=by
 have g:=(Dt h).lay
 cases v with
 | non=>rfl
 | int i=>rfl
 | str x =>
  show ((PyData.int 2).canLay0&&(PyData.str x).canLay0&&true&&decide _)=true
  rw[show (PyData.str x).canLay0=true from g];rfl
theorem Xc (h:VB v):Bu (Fg v)=true:=by
 have g:=(Dt h).lay
 cases v with
 | non=>decide +kernel
 | int i =>
  show (((PyData.int 1).canLay0&&((PyData.int i).canLay0&&(PyData.str _).canLay0&&true))&&decide _)=true
  rw[show (PyData.str _).canLay0=true by decide +kernel];rfl
 | str x =>
  show (((PyData.int 2).canLay0&&(PyData.int 0).canLay0&&(PyData.str x).canLay0&&true)&&decide _)=true
  rw[show (PyData.str x).canLay0=true from g];rfl
theorem B0c (l:List Nat):¬ l<l:=List.lt_irrefl l
theorem Bb9 (a b:Vl):Hi false (Dr a) (Dr b)=some (vlt a b):=by
 cases a with
 | non=>cases b <;> rfl
 | int i=>
  cases b with
   | non=>rfl
   | int j =>
    show (if (i==j)=true then some _ else some _)=some (decide _)
    simp_all
   | str y=>rfl
 | str x=>
  cases b with
   | non=>rfl
   | int j=>rfl
   | str y =>
    show (if (x==y)=true then some _ else some _)=some (decide _)
    simp_all
theorem Y9 (c:Bool)(a b:Vl):Hi c (Fg a) (Fg b)=some (if c then vlt b a else vlt a b):=by
 have d:PyData.eqv (.str "") (.str "")=true:=by decide +kernel
 cases a with
 | non=>
  cases b with
   | non =>
    show (if PyData.eqv (.str "") (.str "")=true then some false else Hi c (.str "") (.str ""))=_
    rw[if_pos d];cases c <;> rfl
   | int j=>cases c <;> rfl
   | str y=>cases c <;> rfl
 | int i=>
  cases b with
   | non=>cases c <;> rfl
   | int j =>
    show (if (i==j)=true then (if PyData.eqv (.str "") (.str _)=true then some _ else Hi c _ _) else some _)=_
    by_cases h:i=j
    ·subst h;rw[if_pos d];cases c <;> simp[vlt]
    ·rw[if_neg (by simpa using h)];cases c <;> rfl
   | str y=>cases c <;> rfl
 | str x=>
  cases b with
   | non=>cases c <;> rfl
   | int j=>cases c <;> rfl
   | str y =>
    show (if (x==y)=true then some _ else some _)=_
    by_cases h:x=y
    ·subst h;cases c <;> simp[vlt]
    ·rw[if_neg (by simpa using h)];cases c <;> rfl
theorem Be9 (ha:VB a) (hb:VB b):A2v (Fg a) (Fg b)=some (.im (.bool (vlt a b))):=by
 unfold A2v;rw[Xc ha,Xc hb,Y9];rfl
theorem A5d (a b:Vl):PyData.eqv (Fg a) (Fg b)=decide (a=b):=by
 have c:PyData.eqv (.str "") (.str "")=true:=by rfl
 cases a with
 | non=>
  cases b with
   | non=>assumption
   | int j=>trivial
   | str y=>trivial
 | int i=>
  cases b with
   | non=>rfl
   | int j =>
    show (true&&i==j&&(PyData.eqv _ _&&true))=_
    grind
   | str y=>trivial
 | str x=>
  cases b with
   | non=>trivial
   | int j=>rfl
   | str y =>
    show (true&&(true&&x==y&&true))=_
    grind
theorem Bm0 {x y:Str}(h:x.cps.toList=y.cps.toList):x=y:=by
 obtain⟨a⟩:=x
 simp_all
theorem Ay8 (a:Vl):vlt a a=false:=by
 cases a with
 | non=>rfl
 | int i=>exact aR (by lia)
 | str x=>exact aR (B0c _)
theorem A7f (h:vlt a b=true) (k:vlt b c=true):vlt a c=true:=by
 cases a with
 | non=>
  cases b with
   | non=>grind
   | int j=>
    cases c with
     | non=>cases k
     | int l=>rfl
     | str z=>rfl
   | str y=>
    cases c with
     | non=>cases k
     | int l=>rfl
     | str z=>rfl
 | int i=>
  cases b with
   | non=>cases h
   | int j=>
    cases c with
     | non=>cases k
     | int l=>exact aK (Int.lt_trans (aW h) (aW k))
     | str z=>rfl
   | str y=>
    cases c with
     | non=>cases k
     | int l=>cases k
     | str z=>rfl
 | str x=>
  cases b with
   | non=>cases h
   | int j=>cases h
   | str y=>
    cases c with
     | non=>cases k
     | int l=>cases k
     | str z=>exact aK (List.lt_trans (aW h) (aW k))
theorem A0s (a b:Vl):vlt a b=true\/a=b\/vlt b a=true:=by
 cases a with
 | non=>
  cases b with
   | non=>grind
   | int j=>exact .inl rfl
   | str y=>exact .inl rfl
 | int i=>
  cases b with
   | non=>exact .inr (.inr rfl)
   | int j =>
    rcases Int.lt_trichotomy i j with h | h | h
    ·exact .inl (aK h)
    ·grind
    ·exact .inr (.inr (aK h))
   | str y=>exact .inl rfl
 | str x=>
  cases b with
   | non=>exact .inr (.inr rfl)
   | int j=>exact .inr (.inr rfl)
   | str y =>
    by_cases h1:x.cps.toList<y.cps.toList
    ·exact .inl (aK h1)
    ·by_cases h2:y.cps.toList<x.cps.toList
     ·exact .inr (.inr (aK h2))
     ·exact .inr (.inl (by rw[Bm0 (List.le_antisymm (List.not_lt.mp h2) (List.not_lt.mp h1))]))
theorem Ak2 : Be neg (.int a) (.int b)=some (.im (.bool (if neg then !decide (a=b) else decide (a=b)))):=by
 have e:PyData.eqv (.int a) (.int b)=decide (a=b):=by
  show (a==b)=_
  grind
 unfold Be
 rw[show Bu _=true from rfl,show Bu _=true from rfl,e]
 simp
abbrev VG (v:Vl):Prop:=Good v.d 0 1921
abbrev VGs (vs:n_):Prop:=∀v∈vs,VG v
theorem Aj7 (h:VGs vs) (hk:vs.length<=k):Good (tD vs) 1 (1923*k+4) :=
 Good.tup fun d a=>by
  grind (by simp_all)
noncomputable def rlt:n_->n_->Bool
 | [],[]=>false
 | [],_::_=>true
 | _::_,[]=>false
 | x::xs,y::ys=>if x=y then rlt xs ys else vlt x y
theorem Ab2:∀a:n_,rlt a a=false
 | []=>rfl
 | x::xs=>by rw[rlt,if_pos rfl];exact Ab2 xs
theorem Ar5:∀{a b c:n_},rlt a b=true->rlt b c=true->rlt a c=true
 | [],[],c,h,k=>nomatch h
 | [],_::_,[],h,k=>nomatch k
 | [],_::_,_::_,h,k=>rfl
 | _::_,[],c,h,k=>nomatch h
 | _::_,_::_,[],h,k=>nomatch k
 | x::xs,y::ys,z::zs,h,k=>by
  rw[rlt]at h k ⊢
  by_cases e1:x=y
  ·subst e1
   rw[if_pos rfl]at h
   by_cases e2:x=z
   ·rw[if_pos e2]at k ⊢;exact Ar5 h k
   ·rw[if_neg e2]at k ⊢;exact k
  ·rw[if_neg e1]at h
   by_cases e2:y=z
   ·subst e2;rw[if_neg e1];exact h
   ·rw[if_neg e2]at k
    have q:=A7f h k
    rw[if_neg (fun e=>by subst e;rw[Ay8]at q;cases q)]
    exact q
theorem A0z:∀a b:n_,rlt a b=true\/a=b\/rlt b a=true
 | [],[]=>.inr (.inl rfl)
 | [],_::_=>.inl rfl
 | _::_,[]=>.inr (.inr rfl)
 | x::xs,y::ys=>by
  rw[rlt,rlt]
  by_cases e:x=y
  ·subst e
   rw[if_pos rfl,if_pos rfl]
   rcases A0z xs ys with h | h | h
   ·exact .inl h
   ·exact .inr (.inl (by rw[h]))
   ·exact .inr (.inr h)
  ·rw[if_neg e,if_neg (fun z=>e z.symm)]
   rcases A0s x y with h | h | h
   ·exact .inl h
   ·exact absurd h e
   ·exact .inr (.inr h)
def Rz (r:n_):t6:=.tuple [.int 3,.tuple (r.map Dr)]
theorem A5e (h:VG v):Good (Dr v) 1 3850:=by
 have q:∀a b ,VG a->VG b->Good (tD [a,b]) 1 3850:=fun a b d e=>Aj7 (k:=2) fun v c=>by
  grind (by simp)
 cases v with
 | non=>exact q (.int 0) (.int 0) (Dt (by rfl)) (Dt (by rfl))
 | int i=>exact q (.int 1) _ (Dt (by rfl)) h
 | str x=>exact q (.int 2) _ (Dt (by rfl)) h
theorem Aq6 (h:VGs r) (hl:r.length<=30):Good (Rz r) 3 300000:=by
 have g1:Good _ 2 (3852*30+4):=Good.tup (fun d a=>by
  obtain⟨v,b,rfl⟩:=aD.mp a
  exact A5e (h v b)) (by simp_all)
 refine (Good.tup (n:=2) (w:=3852*30+4) (k:=2) (fun d a=>?_) (by simp)).mono (by decide) (by decide)
 simp at a
 rcases a with rfl | rfl
 ·exact(Dt (v:=.int 3) (by rfl)).mono (by decide) (by decide)
 simp_all
theorem Ai8 (a b:Vl):PyData.eqv (Dr a) (Dr b)=decide (a=b):=by
 have c:∀p q e d ,PyData.eqv (tD [p,q]) (tD [e,d])=decide _:=fun p q e d=>Ai0 _ _
 cases a with
 | non=>
  cases b with
   | non=>rfl
   | int j=>rfl
   | str y=>rfl
 | int i=>
  cases b with
   | non=>rfl
   | int j=>exact(c (.int 1) (.int i) (.int 1) (.int j)).trans (by simp)
   | str y=>rfl
 | str x=>
  cases b with
   | non=>rfl
   | int j=>rfl
   | str y=>exact(c (.int 2) (.str x) (.int 2) (.str y)).trans (by simp)
theorem Yx:∀a b:n_,PyData.eqvAll (a.map Dr) (b.map Dr)=decide (a=b)
 | [],[]=>rfl
 | [],_::_=>rfl
 | _::_,[]=>rfl
 | x::xs,y::ys=>by
  show (PyData.eqv (Dr x) (Dr y)&&PyData.eqvAll (xs.map Dr) (ys.map Dr))=_
  rw[Ai8,Yx xs ys]
  by_cases h:x=y <;> by_cases k:xs=ys <;> simp[h,k]
theorem Ai6:∀a b:n_,Nx false (a.map Dr) (b.map Dr)=some (rlt a b)
 | [],[]=>rfl
 | [],_::_=>rfl
 | _::_,[]=>rfl
 | x::xs,y::ys=>by
  show (if PyData.eqv (Dr x) (Dr y)=true then Nx false (xs.map Dr) (ys.map Dr) else Hi false (Dr x) (Dr y))=some (if x=y then rlt xs ys else vlt x y)
  rw[Ai8,Ai6 xs ys,Bb9]
  by_cases h:x=y
  ·rw[if_pos (aK h),if_pos h]
  ·rw[if_neg (by simp[h]),if_neg h]
theorem Bg9 (a b:n_):Hi false (Rz a) (Rz b)=some (rlt a b):=by
 show (if PyData.eqvAll _ _=true then some _ else Nx _ _ _)=_
 rw[Yx,Ai6]
 by_cases h:a=b
 ·subst h;rw[if_pos (by simp),Ab2]
 simp_all
theorem A9w (hl:r.length<=30):Ck 2 [.im (tD r)]=.ret (.im (Rz r)) [.im (tD r)]:=by
 obtain⟨cI,d,u,rfl⟩:=Cj (g:=cgN 0) (ft:=Av) (fe:=cF (Ck 1) (Ab (Aa 0) Ah)) (I:=fun c=>∃u,c=[u]) (f:=Vl.d) (G:=Dr) (xs:=r) (acc:=[]) (c:=[none]) ⟨none,rfl⟩
  (fun v c hv b=>by
   obtain⟨u,rfl⟩:=b
   refine⟨[some (.im v.d)],?_,_,rfl⟩
   wp_walk using A2a (v:=v) (k:=0))
 have a:cLC [none] (Ar (Aa 0)) (cgN 0) Av (cF (Ck 1) (Ab (Aa 0) Ah)) [some (.im (tD r))]=.ok (.o (.ls false (r.map Dr))) [some (.im (tD r))]:=by
  refine Dq (ds:=r.map Vl.d) (c1:=[some (.im (tD r))]) ?_ (by rw[ao];lia) (by simpa[cIn] using d) (by wp_walk using bW)
  wp_walk using Ar,tD
 show Dm 1 1 _ _=_
 unfold tD at a ⊢
 wp_walk using Af3,Gk,Dw,Qa,a,Bd,Rz
section
variable {α:Type}[DecidableEq α]
noncomputable def fnd (x:α):List α->Nat
 | []=>0
 | y::l=>if y=x then 0 else fnd x l+1
theorem Mh {x:α}:∀{l:List α},x∈l->l[fnd x l]?=some x
 | y::l,h=>by
  unfold fnd
  by_cases e:y=x
  ·rw[if_pos e,e];rfl
  ·rw[if_neg e]
   rcases aB.mp h with h | h
   ·exact absurd h.symm e
   ·rw[fP];exact Mh h
theorem A6l {x:α} (h:x∈l):fnd x l<l.length:=(aZ.mp (Mh h)).1
def atP (d:α)(l:List α)(p:List Nat):List α:=p.map fun i=>l.getD i d
theorem Br0 {d:α} (h:∀i∈p,i<l.length) (hx:x∈atP d l p):x∈l:=by
 obtain⟨i,hi,rfl⟩:=aD.mp (show x∈p.map _ from hx)
 simp_all
theorem Af5 {p:List Nat} (h:p.Perm (List.range n)):∀i∈p,i<n:=fun i a=>cX.mp (h.mem_iff.mp a)
end
theorem Ak6 {R:Nat->Nat->Prop}(anti:∀a b,R a b->R b a->False):∀{p q:List Nat},p.Perm q->p.Pairwise R->q.Pairwise R->p=q
 | [],q,h,_,_=>(List.Perm.eq_nil h.symm).symm
 | a::p,[],h,_,_=>absurd h.length_eq (by simp)
 | a::p,b::q,h,wp,wq=>by
  have e:a=b:=by
   by_cases e:a=b
   ·exact e
   ·have ha:a∈q:=(aB.mp (h.mem_iff.mp (.head _))).resolve_left e
    have hb:b∈p:=(aB.mp (h.symm.mem_iff.mp (.head _))).resolve_left (aG e);exact(anti a b ((iH.mp wp).1 b hb) ((iH.mp wq).1 a ha)).elim
  subst e;rw[Ak6 anti (List.Perm.cons_inv h) (iH.mp wp).2 (iH.mp wq).2]
def klt (ks:n8)(i j:Nat):Bool:=rlt (ks.getD i []) (ks.getD j [])
theorem Ag4 (ks:n8):PS.Ord (klt ks):=⟨fun a=>Ab2 _,fun a b c h k=>Ar5 h k,fun a b c h=>by
 rcases A0z _ _ with q | q | q
 ·exact .inl q
 ·exact .inr (by unfold klt at h ⊢;grind)
 ·exact .inr (Ar5 q h)⟩
theorem Bj3 (O:PS.Ord lt) (a b:Nat) (h:PS.Rr lt a b) (k:PS.Rr lt b a):False:=by
 rcases h with h | ⟨h,d⟩
 ·rcases k with k | ⟨k,c⟩
  ·have:=O.tr _ _ _ h k;rw[O.irr]at this;grind
  grind
 ·rcases k with k | ⟨k,c⟩
  ·grind
  lia
theorem range_getD (ds:w5):((List.range ds.length).map fun i=>ds.getD i .none)=ds:=by
 apply List.ext_getElem
 ·simp
 simp_all
theorem A0j (O:PS.Ord lt) (hk:ks.length=ds.length) (h:ds.length<64) (b:0<ks.length->kdOf ks=kd) (hf:∀k∈ks,Nt kd k=true/\Bu k=true)
 (hB:∀i j x y,ks[i]?=some x->ks[j]?=some y->Bp7 kd x y=some (lt i j)) :
 ∃p:List Nat,p.Perm (List.range ds.length)/\p.Pairwise (PS.Rr lt)/\Av7 ds ks=some (p.map fun i=>ds.getD i .none):=by
 unfold Av7
 by_cases h2:ds.length<2
 ·rw[if_pos h2]
  refine⟨List.range ds.length,.refl _,?_,?_⟩
  ·rw[List.pairwise_iff_getElem]
   grind
  ·rw[range_getD]
 ·rw[if_neg h2,b (by lia)]
  have m:(decide (ds.length<64)&&(ks.all (Nt kd)&&ks.all Bu))=true:=by
   simp_all
  rw[if_pos m]
  obtain⟨p,e,o,g,f⟩:=PS.Bs7 (B:=A4o kd ks) O (n:=ds.length) fun i j l c=>by
   unfold A4o
   grind (by lia)
  rw[e]
  refine⟨p.toList,f,?_,rfl⟩
  rw[List.pairwise_iff_getElem];intro i j l c a
  have d := by rw[gh,o]at c;exact c
  have q:=g i j a d
  have r:p.getD i 0=p.toList[i]:=by simp[iB (show i<p.size by lia)]
  simp_all
theorem Ah0 [DecidableEq a] (f:a->t6) (d:a) (l:List a) (h:∀i∈p,i<l.length):(p.map fun i=>(l.map f).getD i .none)=(atP d l p).map f:=by
 unfold atP
 simp_all
structure HK (hs:n8):Prop where
 nd:hs.Nodup
 vb:∀h∈hs,VBs h/\h.length<=12
 len:hs.length<=60
theorem Bo3 (h:VBs vs):VGs vs:=fun v a=>Dt (h v a)
theorem A5b {hs:n8}:(∀h∈hs,h.length<=12)->Q3 (Ck 2) (hs.map tD)=some (hs.map Rz):=by
 induction hs with
 | nil=>intro _;rfl
 | cons h hs c =>
  intro a
  have b:O4 (Ck 2) (tD h)=some (Rz h):=by unfold O4;rw[(A9w (au (a h (.head _)) (by decide)))];rfl
  show (O4 _ _).bind _=_
  grind
theorem Ba6 (H:HK hs):∃p:List Nat,p.Perm (List.range hs.length)/\p.Pairwise (PS.Rr (klt hs))/\M5 [.im (.tuple (hs.map tD))]=.ret (.ls false ((atP [] hs p).map tD)) [.im (.tuple (hs.map tD))]:=by
 have l:=H.len
 obtain⟨p,d,m,e⟩:=A0j (ds:=hs.map tD) (ks:=hs.map Rz) (kd:=.ti) (Ag4 hs) (by simp_all) (by grind) (fun h0=>by
  cases hs with
  | nil=>trivial
  | cons h hs=>rfl) (fun k g=>by
  obtain⟨h,c,rfl⟩:=aD.mp g
  exact⟨rfl,(Aq6 (Bo3 (H.vb h c).1) (au (H.vb h c).2 (by decide))).flatB (by decide)⟩) (fun i j x y o f=>by
  obtain⟨a,r,rfl⟩:=Cw o;obtain⟨b,q,rfl⟩:=Cw f
  show Hi _ _ (Rz b)=_
  unfold klt
  rw[Bg9,cJ,cJ,r,q];rfl)
 rw[ao]at d;rw[Ah0 _ [] _ (Af5 d)]at e
 refine⟨p,d,m,?_⟩
 have ek:=A5b fun h c=>(H.vb h c).2
 have n:(Q3 (Ck 2) (hs.map tD)).bind (Av7 (hs.map tD))=some ((atP [] hs p).map tD):=by simp_all
 wp_walk using M5,Am4,Aw1,U.Fl,n
theorem Zi:∀a b:n_,Nx false (a.map Fg) (b.map Fg)=some (rlt a b)
 | [],[]=>rfl
 | [],_::_=>rfl
 | _::_,[]=>rfl
 | x::xs,y::ys=>by
  rw[aH,aH,Nx,rlt,A5d]
  by_cases e:x=y
  ·rw[aK e,if_pos rfl,if_pos e];exact Zi xs ys
  ·rw[aR e,if_neg (by decide),if_neg e,Y9];rfl
theorem Aw5 (h:VB v):Good (Fg v) 1 5800:=by
 have g:=Dt h
 cases v with
 | non=>exact⟨by decide +kernel,rfl,rfl,by decide,by decide +kernel⟩
 | int i=>
  exact(Good.tup (n:=0) (w:=1921) (k:=3) (fun d a=>by
   simp at a
   rcases a with rfl | rfl | rfl
   ·exact⟨rfl,rfl,rfl,by decide,by trivial⟩
   ·exact g
   ·exact⟨by decide +kernel,rfl,rfl,by decide,by trivial⟩) (aq _)).mono (by decide) (by decide)
 | str x=>
  exact(Good.tup (n:=0) (w:=1921) (k:=3) (fun d a=>by
   simp at a
   rcases a with rfl | rfl | rfl
   ·exact⟨rfl,rfl,rfl,by decide,by decide +kernel⟩
   ·exact⟨rfl,rfl,rfl,by decide,by decide +kernel⟩
   ·exact g) (aq _)).mono (by decide) (by decide)
theorem Bb1 (hl:h.length<=12):Ej [.im (tD h)]=.ret (.ls false (h.map Fg)) [.im (tD h)]:=by
 obtain⟨cI,e,u,rfl⟩:=Cj (g:=cgN 0) (ft:=Av) (fe:=cF Ea (Ab (Aa 0) Ah)) (I:=fun c=>∃u,c=[u]) (f:=Vl.d) (G:=Fg) (xs:=h) (acc:=[]) (c:=[none]) ⟨none,rfl⟩
  (fun x c hx b=>by
   obtain⟨u,rfl⟩:=b
   refine⟨[some (.im x.d)],?_,_,rfl⟩
   wp_walk using Xi)
 have a:cLC [none] (Ar (Aa 0)) (cgN 0) Av (cF _ _) [some (.im (tD h))]=.ok _ _ :=
  Dq (by trivial) (by grind) (by simpa[cIn] using e) rfl
 wp_walk using Ej,Pn,a
section
variable {α β:Type}[DecidableEq α]
noncomputable def ins (qs:List α)(q:α):List α:=if q∈qs then qs else qs++[q]
def fs (l:List α):List α:=l.foldl ins []
noncomputable def upF (g:α->β)(q:α)(v:β):α->β:=fun x=>if x=q then v else g x
theorem J6 {qs:List α} (h:q∈qs):ins qs q=qs:=if_pos h
theorem Il {qs:List α} (h:q∉qs):ins qs q=qs++[q]:=if_neg h
theorem Bh7 {qs:List α} : x∈ins qs q↔x∈qs\/x=q:=by
 by_cases h:q∈qs
 ·rw[J6 h]
  grind
 ·rw[Il h,bC,aV]
theorem Mq {l:List α} : fs (l++[x])=ins (fs l) x:=by unfold fs;grind
theorem Qw {P:List α->Prop}(b:P [])(h1:∀l x,P l->P (l++[x]))(l:List α):P l:=by
 rw[<- l.reverse_reverse];generalize l.reverse=m
 induction m with
 | nil=>grind
 | cons x m a=>grind
theorem z8 {l:List α} : x∈fs l↔x∈l:=by
 refine Qw (P:=fun l=>∀{x},x∈fs l↔x∈l) Iff.rfl (fun l y a x=>?_) l
 rw[Mq,Bh7,a,bC,aV]
theorem Zv (l:List α):(fs l).Nodup:=by
 refine Qw (P:=fun l=>(fs l).Nodup) fG (fun l y a=>?_) l
 rw[Mq]
 by_cases h:y∈fs l
 ·rw[J6 h];grind
 ·rw[Il h]
  grind
theorem Ib (l:List α):(fs l).length<=l.length:=by
 refine Qw (P:=fun l=>(fs l).length<=l.length) (aq _) (fun l y a=>?_) l
 rw[Mq]
 by_cases h:y∈fs l
 ·rw[J6 h,aX];lia
 ·rw[Il h];grind
theorem R8 {l:List α} (h:l[k]?=some x):fs (l.take (k+1))=ins (fs (l.take k)) x:=by
 rw[fU,h];exact Mq
theorem A6p [DecidableEq β](f:α->β)(l:List α):fs ((fs l).map f)=fs (l.map f):=by
 refine Qw (P:=fun l=>fs ((fs l).map f)=fs _) rfl (fun l x a=>?_) l
 rw[Mq,bA,aH,dh,Mq]
 by_cases h:x∈fs l
 ·rw[J6 h,a,J6]
  rw[z8];exact aD.mpr ⟨x,z8.mp h,rfl⟩
 ·rw[Il h,bA,aH,dh,Mq,a]
theorem Ay7 {g:α->β} : upF g q v q=v:=if_pos rfl
theorem As5 {g:α->β} (h:x≠q):upF g q v x=g x:=if_neg h
theorem Pu {g:α->β} {qs:List α}(h:q∉qs):qs.map (upF g q v)=qs.map g:=List.map_congr_left fun x a=>As5 fun e=>h (e▸a)
theorem Uw {g:α->β}{q:α}{v:β}:∀{qs:List α},qs.Nodup->q∈qs->(qs.map g).set (fnd q qs) v=qs.map (upF g q v)
 | x::qs,nd,h=>by
  obtain⟨n1,n2⟩:=c7.mp nd;unfold fnd
  by_cases e:x=q
  ·rw[if_pos e,aH,List.set_cons_zero,aH,Pu (e▸n1),e,Ay7]
  ·rw[if_neg e,aH,List.set_cons_succ,aH,As5 e,Uw n2 ((aB.mp h).resolve_left fun z=>e z.symm)]
variable {key:α->t6}(he:∀a b,PyData.eqv (key a) (key b)=decide (a=b))
include he
theorem Ag1 {q:α}:∀{qs:List α},q∈qs->Mz (key q) (qs.map key)=some (fnd q qs)
 | x::qs,h=>by
  rw[aH];unfold Mz fnd;rw[he]
  by_cases e:x=q
  ·rw[aK e,if_pos rfl,if_pos e]
  ·rw[aR e,if_neg (by decide),if_neg e,Ag1 ((aB.mp h).resolve_left fun z=>e z.symm)];rfl
theorem U0 {q:α}:∀{qs:List α},q∉qs->Mz (key q) (qs.map key)=none
 | [],_=>rfl
 | x::qs,h=>by
  have e:x≠q:=fun z=>h (z▸aQ)
  rw[aH];unfold Mz
  rw[he,aR e,if_neg (by decide),U0 fun z=>h (aY _ z)];rfl
theorem A0g (a:qs.Nodup):A3v (qs.map key) (qs.map g) (key q) x=((ins qs q).map key,(ins qs q).map (upF g q (.d x))):=by
 unfold A3v
 by_cases h:q∈qs
 ·simp only[Ag1 he h];rw[J6 h,Uw a h]
 ·simp only[U0 he h];rw[Il h,bA,bA,aH,dh,aH,dh,Pu h,Ay7]
theorem A0n {g:α->t6} {qs:List α}:Bs1 (qs.map key) (qs.map fun a=>DE.d (g a)) (key q) x=some (if q∈qs then g q else x):=by
 unfold Bs1
 by_cases h:q∈qs
 ·simp only[Ag1 he h]
  rw[bD,Mh h,if_pos h];rfl
 ·simp only[U0 he h];simp_all
theorem Br9 (c:qs.Nodup) (d:q∉qs->g q=[]) :
 B4o ((S7 (qs.map key) (qs.map fun a=>DE.l (g a)) (key q)).2.1[(S7 (qs.map key) (qs.map fun a=>DE.l (g a)) (key q)).2.2]?)=some (g q) /\
 (S7 (qs.map key) (qs.map fun a=>DE.l (g a)) (key q)).1=(ins qs q).map key /\
 (S7 (qs.map key) (qs.map fun a=>DE.l (g a)) (key q)).2.1.set (S7 (qs.map key) (qs.map fun a=>DE.l (g a)) (key q)).2.2 (.l (g q++[x]))=(ins qs q).map fun a=>DE.l (upF g q (g q++[x]) a):=by
 have b:(fun a=>DE.l (upF g q (g q++[x]) a))=upF _ q _:=funext fun a=>by unfold upF;split <;> rfl
 unfold S7
 by_cases h:q∈qs
 ·simp only[Ag1 he h]
  refine⟨?_,by rw[J6 h],by rw[J6 h,b,Uw c h]⟩
  rw[bD,Mh h];rfl
 ·simp only[U0 he h]
  refine⟨?_,by rw[Il h,bA];rfl,?_⟩
  ·rw[eY (by simp),ao,ao,dC,d h];rfl
  ·rw[Il h,b,bA,Pu h,aH,Ay7,List.set_append_right _ _ (by simp),ao,ao,dC];rfl
theorem Al9 {g:α->t6}{q:α}:∀{qs:List α},Pa (qs.map key) (qs.map g) (key q)=if q∈qs then some (g q) else none
 | []=>rfl
 | x::qs=>by
  rw[aH,aH];unfold Pa;rw[he]
  by_cases e:x=q
  ·rw[aK e,if_pos rfl,if_pos (by rw[e];exact aQ),e]
  ·rw[aR e,if_neg (by decide),Al9]
   have:q∈x::qs↔q∈qs:=by rw[aB];exact⟨fun z=>z.resolve_left fun z=>e z.symm,.inr⟩
   by_cases m:q∈qs
   ·rw[if_pos m,if_pos (this.mpr m)]
   ·rw[if_neg m,if_neg fun z=>m (this.mp z)]
omit he
theorem Yw {g:α->t6}:∀{qs:List α},Jd (qs.map key) (qs.map g)=qs.map fun a=>.tuple [key a,g a]
 | []=>rfl
 | x::qs=>by rw[aH,aH,Jd,Yw];rfl
noncomputable def nmK (l:List α)(k:Nat)(q:α):w5:=((List.range k).filter fun i=>decide (l[i]?=some q)).map fun i=>PyData.int (i:Nat)
theorem Al4 {l:List α} (h:l[k]?=some x):nmK l (k+1)=upF (nmK l k) x (nmK l k x++[.int (k:Nat)]):=funext fun q=>by
 have e:nmK l (k+1) q=nmK l k q++if l[k]?=some q then [.int (k:Nat)] else []:=by
  unfold nmK;rw[List.range_succ,List.filter_append,bA]
  congr 1
  by_cases z:l[k]?=some q
  ·rw[if_pos z];simp[z]
  ·rw[if_neg z];simp[z]
 rw[e]
 by_cases z:q=x
 ·subst z;rw[if_pos h,Ay7]
 ·rw[if_neg (fun y=>z (cR (y.symm.trans h))),cN,As5 z]
theorem A0i {l:List α} (h:q∉l.take k):nmK l k q=[]:=by
 unfold nmK;rw[List.filter_eq_nil_iff.mpr,dh];intro i a e
 exact h (bc (i:=i) (by grind))
theorem A1n (l:List α)(k:Nat)(q:α):(nmK l k q).length<=k:=by
 unfold nmK
 grind
end
theorem Lb {d:Nat}{g:p8}{F:BF}{P:Nat->Ev->w5->List DE->Prop}:∀{items:w5}{n:Nat}{c:Ev}{ks:w5}{es:List DE},P n c ks es ->
 (∀k x c ks es,items[k]?=some x->P (n+k) c ks es->∃c1 c' ks' es',g (.o (.im x)) c=.ok () c1/\Cr d c1=true/\F c1 ks es=.nx c' ks' es'/\P (n+k+1) c' ks' es')->∃c' ks' es',Xb (d:=d) g F items c ks es=.nx c' ks' es'/\P (n+items.length) c' ks' es'
 | [],n,c,ks,es,h0,_=>⟨c,ks,es,rfl,h0⟩
 | x::xs,n,c,ks,es,h0,hs=>by
  obtain⟨c1,c2,ks2,es2,e1,e2,e3,h1⟩:=hs 0 x c ks es rfl h0
  obtain⟨c3,ks3,es3,e4,h2⟩:=Lb (d:=d) (g:=g) (F:=F) (P:=P) (items:=xs) (n:=n+1) h1 (fun k d c ks es hk hp=>by
   have:=hs (k+1) d c ks es (by simpa using hk) (by rw[show n+(k+1)=n+1+k by lia];exact hp)
   rw[show n+(k+1)+1=n+1+k+1 by lia]at this
   exact this)
  refine⟨c3,ks3,es3,?_,by rw[aP,show n+(xs.length+1)=n+1+xs.length by lia];exact h2⟩
  show (g (.o (.im x)) c).toB _=_
  rw[e1]
  show (if Cr d c1=true then _ else _)=_
  rw[if_pos e2,e3];exact e4
theorem Va (h1:fi c=.ok ds c1) (h2:Cr d c1=true):Al3 (d:=d) fi g F c ks es=Xb (d:=d) g F ds c1 ks es:=by
 unfold Al3;rw[h1]
 show (if Cr d _=true then _ else _)=_
 grind
theorem O3 (h1:Cr d (c.set d none)=true) (h2:F (c.set d none) [] []=.nx c' ks es):Ny d F g c=g (c'.set d (some (.ty (.ds ks (es.map DE.dat))))):=by
 unfold Ny
 grind
theorem Aa1:∀vs:n_,Gj (vs.map Vl.d)=true
 | []=>rfl
 | v::vs=>by
  rw[aH,Gj,Aa1 vs]
  cases v <;> rfl
theorem Bb3 (vs:n_):keyB (tD vs)=true:=Aa1 _
theorem Af8:∀vs:n_,PyData.depthAll (vs.map Vl.d)=0
 | []=>rfl
 | v::vs=>by
  show max v.d.depth (PyData.depthAll (vs.map Vl.d))=0
  rw[Af8 vs]
  cases v <;> rfl
theorem Au5 (h:VBs vs):PyData.canLayAll0 (vs.map Vl.d)=true:=Qn fun d a=>by
 obtain⟨v,b,rfl⟩:=aD.mp a;exact(Dt (h v b)).lay
theorem B1p (h:VBs vs):Hx (tD vs)=true:=by
 show (Gj _&&PyData.canLayAll0 _&&decide _)=true
 rw[Aa1,Au5 h,Af8];rfl
abbrev PH:=List Vl×n_
def kD (q:PH):t6:=.tuple [tD q.1,tD q.2]
theorem Am1 (a b:PH):PyData.eqv (kD a) (kD b)=decide (a=b):=by
 show (PyData.eqv _ _&&(PyData.eqv _ _&&true))=_
 rw[Ai0,Ai0]
 grind
theorem Sy (h1:VBs q.1) (h2:VBs q.2):Hx (kD q)=true:=by
 show (Gj _&&PyData.canLayAll0 _&&decide _)=true
 have e1:Gj [tD q.1,tD q.2]=true:=by
  show (keyB _&&(keyB _&&true))=true
  rw[Bb3,Bb3];rfl
 have e2:PyData.canLayAll0 [tD _,tD _]=true:=Qn fun d a=>by
  simp at a
  rcases a with rfl | rfl
  ·exact Au5 h1
  ·exact Au5 h2
 have e3:PyData.depthAll [tD q.1,tD q.2]=1:=by
  show max (PyData.depthAll _+1) (max (PyData.depthAll _+1) 0)=1
  rw[Af8,Af8];rfl
 grind
theorem A1f:∀{cols:v4}{i:Nat}{x:Str},cols.Nodup->cols[i]?=some x->X5 x cols=some i
 | [],i,x,_,h=>by simp at h
 | y::r,0,x,_,h=>by
  have e:y=x:=by simpa using h
  unfold X5;rw[if_pos (by simpa using e)]
 | y::r,i+1,x,nd,h=>by
  have h':r[i]?=some x:=by simpa using h
  obtain⟨n1,n2⟩:=c7.mp nd
  have ne:¬ y=x:=fun e=>n1 (by rw[e];exact bc h')
  unfold X5;rw[if_neg (by simpa using ne),A1f n2 h'];rfl
theorem Ap4:∀x∈names12,(PyData.str x).canLay0=true:=fun x a=>cG.mp (show names12.all (fun x=>(PyData.str x).canLay0)=true by decide +kernel) x a
theorem Np:∀ss:v4,strsOf (ss.map PyData.str)=some ss
 | []=>rfl
 | x::ss=>by show (strsOf (ss.map PyData.str)).map (x::·)=_;rw[Np ss];rfl
theorem Bo6 {cols:v4}(hx:x∈cols) (hs:∀y∈cols,y∈names12):Kv true (.str x) (.tuple (cols.map PyData.str))=some (.im (.bool false)):=by
 show (if Bu _&&PyData.canLayAll0 _ then some _ else none)=_
 have a:Bu (.str x)=true:=by unfold Bu;rw[Ap4 x (hs x hx)];rfl
 rw[a,Qn fun d b=>by obtain⟨u,c,rfl⟩:=aD.mp b;exact Ap4 u (hs u c),List.any_eq_true.mpr ⟨.str x,aD.mpr ⟨x,hx,rfl⟩,by rw[A0w];simp⟩]
 rfl
theorem Qi {cols:v4}{i:Nat}(a:cols.Nodup) (h:cols[i]?=some x):Ik (.tuple (cols.map PyData.str)) (.str x)=some (.im (.int i)):=by
 show (strsOf _).bind _=_
 rw[Np,cW,A1f a h];rfl
noncomputable def sqD (b:Bool)(l:w5):t6:=if b then .tuple l else .list l
theorem A1a (h:c[i]?=some (some (.im (sqD b l)))):Ar (Aa i) c=.ok l c:=by
 unfold Ar Aa;simp only[h]
 cases b <;> rfl
theorem R.toB_ok {a:b} {k:b->Ev->BR}:(U.R.ok a c).toB k=k a c:=rfl
def vAt (cols:v4)(r:n_)(x:Str):Vl:=r.getD (fnd x cols) .non
def pick (cols:v4)(r:n_)(ns:v4):n_:=ns.map (vAt cols r)
theorem Mj (h:VBs r):VBs (pick cols r ns):=fun v a=>by
 obtain⟨x,_,rfl⟩:=aD.mp a;unfold vAt;rw[cJ]
 cases e:r[fnd x _]? with
 | none=>rfl
 | some v=>grind
theorem A8f (hx:x∈cols) (hr:r.length=cols.length):Aj (tD r) (.int (fnd x cols:Nat))=some (.im (vAt cols r x).d):=by
 have l:=A6l hx
 have e:(r.map Vl.d)[fnd x cols]?=some (vAt cols r x).d:=by
  unfold vAt
  grind
 show (atI _ _).map _=_
 rw[Gz e];rfl
theorem N6 (ht:Tb.Ok t) (hx:x∈t.cols):Hd [.im t.d,.im (.str x)]=.ret (.im (.int (fnd x t.cols:Nat))) [.im t.d,.im (.str x)]:=by
 wp_walk using Hd,Nb,Tb.d,Aj,(Bo6 hx ht.nms.sub),cMt,J1,Qi ht.nms.nd (Mh hx)
abbrev Gs (cols ns:v4):w5:=ns.map fun x=>PyData.int (fnd x cols:Nat)
theorem Sq (ht:Tb.Ok t) (hn:∀x∈ns,x∈t.cols) (hl:ns.length<=12):Ed [.im t.d,.im (sqD b (ns.map PyData.str))]=.ret (.ls false (Gs t.cols ns)) [.im t.d,.im (sqD b (ns.map PyData.str))]:=by
 obtain⟨cI,e,u,rfl⟩:=Cj (g:=cgN 0) (ft:=Av) (fe:=cF Hd (Ab (Aa 1) (Ab (Aa 0) Ah))) (I:=fun c=>∃u,c=[u,some (.im t.d)]) (f:=PyData.str) (G:=fun x=>PyData.int (fnd x t.cols:Nat)) (xs:=ns) (acc:=[]) (c:=[none,some (.im t.d)]) ⟨none,rfl⟩
  (fun x c d h=>by
   obtain⟨u,rfl⟩:=h
   refine⟨[some (.im (.str x)),some (.im t.d)],?_,_,rfl⟩
   wp_walk using N6 ht (hn x d))
 have a:cLC [none,some 0] (Ar (Aa 1)) (cgN 0) Av (cF _ _) [some (.im _),some (.im (sqD b (ns.map _)))]=.ok _ _ :=
  Dq (A1a rfl) (by grind) (by trivial) rfl
 wp_walk using Ed,Ms,a
theorem Ss (hn:∀x∈ns,x∈cols) (hr:r.length=cols.length) (hl:ns.length<=12):Cd [.im (tD r),.im (.list (Gs cols ns))]=.ret (.im (tD (pick cols r ns))) [.im (tD r),.im (.list (Gs cols ns))]:=by
 obtain⟨cI,e,u,rfl⟩:=Cj (g:=cgN 0) (ft:=Av) (fe:=cOp Aj (Aa 1) (Aa 0)) (I:=fun c=>∃u,c=[u,some (.im (tD r))]) (f:=fun x=>PyData.int (fnd x cols:Nat)) (G:=fun x=>(vAt cols r x).d) (xs:=ns) (acc:=[]) (c:=[none,some (.im (tD r))]) ⟨none,rfl⟩
  (fun x c b d=>by
   obtain⟨u,rfl⟩:=d
   refine⟨[some (.im (.int (fnd x cols:Nat))),some (.im (tD r))],?_,_,rfl⟩
   wp_walk using A8f (hn x b) hr)
 have h:cLC [none,some 0] (Ar (Aa 1)) (cgN 0) Av (cOp Aj (Aa 1) (Aa 0)) [some (.im (tD r)),some (.im (.list (Gs cols ns)))]=.ok (.o (.ls false (ns.map fun x=>(vAt cols r x).d))) [some (.im (tD r)),some (.im (.list (Gs cols ns)))] :=
  Dq (ds:=Gs cols ns) (c1:=[some (.im (tD r)),some (.im _)]) (by wp_walk using Ar,Fl) (by rw[ao];lia) (by simpa[cIn,O.flag] using e) rfl
 have a:PyData.tuple (ns.map fun x=>(vAt cols r x).d)=tD (pick cols r ns):=by unfold tD pick;rw[cz];rfl
 wp_walk using Cd,Lr,h,Bd,a
section
variable {α:Type}[DecidableEq α]{key:α->t6}(he:∀a b,PyData.eqv (key a) (key b)=decide (a=b)){d:Nat}{c:Ev}{qs:List α}{q:α}
include he
theorem Am3 (h1:fv (qs.map key) (qs.map g) c=.ok (.o (.im x)) c) (h2:fk c=.ok (.o (.im (key q))) c) (a:qs.Nodup) (hk:Hx (key q)=true) (hl:qs.length<=1000) (hn:Cr d c=true) :
 Yh (d:=d) fk fv c (qs.map key) (qs.map g)=.nx c ((ins qs q).map key) ((ins qs q).map (upF g q (.d x))):=by
 unfold Yh;simp only[h1,R.toB_ok,nrm,frz,h2,Dl,rdP,cW,O.dat]
 rw[if_pos (by grind),A0g he a]
theorem A8x (h1:fk c=.ok (.o (.im (key q))) c) (h2:fv c=.ok (.o (.im x)) c) (e:qs.Nodup) (hk:Hx (key q)=true) (hl:qs.length<=1000) (hg:(g q).length<=1000) (b:q∉qs->g q=[]) (hn:Cr d c=true) :
 A9l (d:=d) fk fv c (qs.map key) (qs.map fun a=>.l (g a))=.nx c ((ins qs q).map key) ((ins qs q).map fun a=>.l (upF g q (g q++[x]) a)):=by
 obtain⟨h,i,f⟩:=Br9 (x:=x) he e b;unfold A9l;simp only[h1,R.toB_ok,nrm,Dl,rdP,cW,O.dat];simp only[h2,R.toB_ok,frz]
 grind
end
theorem A0x [DecidableEq a] {g:a->b}{q:a}:upF g q (g q)=g:=funext fun x=>by
 unfold upF
 grind
theorem Aq2 {b:Type}{f:b->t6}{xs:List b}{k:Nat} (h:(Hv (xs.map f))[k]?=some x):∃a,xs[k]?=some a/\x=.tuple [.int (k:Nat),f a]:=by
 unfold Hv at h
 grind
def prs (t:Tb)(ks ns:v4):List PH:=t.rows.map fun r=>(pick t.cols r ks,pick t.cols r ns)
structure Cs (t:Tb) (ns:v4):Prop where
 sub:∀x∈ns,x∈t.cols
 len:ns.length<=12
theorem K7 (ht:Tb.Ok t) (h:q∈prs t ks ns):VBs q.1/\VBs q.2:=by
 obtain⟨r,a,rfl⟩:=aD.mp h;exact⟨Mj (ht.rows r a).2,Mj (ht.rows r a).2⟩
theorem Kr (ht:Tb.Ok t) : (prs t ks ns).length<=24:=by unfold prs;rw[ao];exact ht.rlen
abbrev grD (l:List PH):O:=.ty (.ds ((fs l).map kD) ((fs l).map fun q=>PyData.list (nmK l l.length q)))
theorem Wf {a:Type}{l:List a} {x:a}(h:x∈l.take k):x∈l:=(List.take_sublist k l).subset h
theorem J3 [DecidableEq a] {l:List a} (h:l.length<=n):(fs (l.take k)).length<=n:=au (Ib _) (au (by grind) h)
abbrev rev (t:Tb)(x y:t6)(rest:o_):Ev:=some (.im t.d)::some (.im x)::some (.im y)::rest
theorem Bp0 (ht:Tb.Ok t) (hk:Cs t ks) (hn:Cs t ns) :
 Ep [.im t.d,.im (sqD a (ks.map PyData.str)),.im (sqD b (ns.map PyData.str))]=.ret (grD (prs t ks ns)) [.im t.d,.im (sqD a (ks.map PyData.str)),.im (sqD b (ns.map PyData.str))]:=by
 have X:=Sq ht (b:=a) hk.sub hk.len;have W:=Sq ht (b:=b) hn.sub hn.len;have S:=Kr ht (ks:=ks) (ns:=ns)
 have v:(prs t ks ns).length=t.rows.length:=by unfold prs;rw[ao]
 have i:∀{k:Nat} {r:n_},t.rows[k]?=some r->(prs t ks ns)[k]?=some (pick t.cols r ks,pick t.cols r ns):=fun {k r} m=>by unfold prs;rw[bD,m];rfl
 generalize sqD a (ks.map PyData.str)=x at *
 generalize sqD b (ns.map PyData.str)=y at *
 generalize prs t ks ns=l at *
 obtain⟨c',K,N,D,e,f,s,u,j,rfl,_,_,rfl,rfl⟩:=Lb (d:=5) (g:=cgT 2 (Ao (cgN 6) (Ao (cgN 7) Dg))) (F:=Eu) (items:=Hv (t.rows.map tD)) (n:=0) (ks:=[]) (es:=[])
  (c:=rev t x y [some (.ls false (Gs t.cols ks)),some (.ls false (Gs t.cols ns)),none,none,none,none])
  (P:=fun k c C E=>∃e f s u j,c=rev t x y [some e,some f,none,s,u,j]/\M3 e (Gs t.cols ks)/\M3 f (Gs t.cols ns) /\
   C=(fs (l.take k)).map kD/\E=(fs (l.take k)).map fun q=>DE.l (nmK l k q)) ⟨_,_,none,none,none,rfl,.inl rfl,.inl rfl,rfl,rfl⟩
  (fun k z c C E J G=>by
   rw[aM]at G ⊢;obtain⟨e,f,s,u,j,rfl,L,M,rfl,rfl⟩:=G;obtain⟨r,m,rfl⟩:=Aq2 J;have o:=ht.rows r (bc m);have i:=i m;have O:=Ss (r:=r) hk.sub o.1 hk.len;have Q:=Ss (r:=r) hn.sub o.1 hn.len;have I:VBs (pick t.cols r ks):=Mj o.2;have T:VBs (pick t.cols r ns):=Mj o.2
   generalize pick t.cols r ks=p at *
   generalize pick t.cols r ns=h at *
   have U:∀A w,Pg (d:=5) (Ei (Ab (cF Cd (Ab (Aa 7) (Ab (cFz (Aa 3)) Ah))) (Ab (cF Cd (Ab (Aa 7) (Ab (cFz (Aa 4)) Ah))) Ah))) (cgN 8) (rev t x y [some e,some f,none,some (.im (.int (k:Nat))),some (.im (tD r)),j]) A w =
    .nx (rev t x y [some (.im (.list (Gs t.cols ks))),some (.im (.list (Gs t.cols ns))),none,some (.im (.int (k:Nat))),some (.im (tD r)),some (.im (kD (p,h)))]) A w:=fun A w=>by
    rcases L with rfl | rfl <;> rcases M with rfl | rfl <;> wp_walk using rev,Pg,R.toB_ok,O,Q,Cr,kD
   refine⟨rev t x y [some e,some f,none,some (.im (.int (k:Nat))),some (.im (tD r)),j],rev t x y [some (.im (.list (Gs t.cols ks))),some (.im (.list (Gs t.cols ns))),none,some (.im (.int (k:Nat))),some (.im (tD r)),some (.im (kD (p,h)))],_,_,(by wp_walk using rev),rfl,?_,_,_,_,_,_,rfl,.inr rfl,.inr rfl,rfl,rfl⟩
   unfold Eu Yc;rw[U]
   show A9l (d:=5) (Aa 8) (Aa 6) _ _ _=_
   rw[A8x (x:=.int (k:Nat)) (q:=(p,h)) Am1 (by wp_walk using bW) (by wp_walk using bW) (Zv _) (Sy I T) (J3 (au S (by decide))) (au (A1n _ _ _) (by have:=(aZ.mp i).1;lia)) (fun z=>A0i fun y=>z (z8.mpr y)) rfl]
   rw[<- R8 i,<- Al4 i])
 have V:(Hv (t.rows.map tD)).length=t.rows.length:=by unfold Hv;rw[ao,fV,ao]
 rw[V,aM,<- v,dz]at D
 have B:=O3 (d:=5) (g:=Bv (Aa 5)) (c:=rev t x y [some (.ls false (Gs t.cols ks)),some (.ls false (Gs t.cols ns)),none,none,none,none]) rfl ((Va (fi:=Kg (cOp Aj (Aa 0) (cC (.int 1)))) (c1:=rev t x y [some (.ls false (Gs t.cols ks)),some (.ls _ _),none,none,none,none]) (by wp_walk using rev,Kg,Aj,Tb.d,Fl) rfl).trans D)
 rw[cz]at B
 have H:(DE.dat ∘ fun q=>DE.l (nmK l l.length q))=fun q=>PyData.list _:=rfl
 rw[H]at B
 wp_walk using Ep,Ii,X,W,B
inductive Wy where
 | fst | lst | sum | cnt | lea | gre | unl
deriving DecidableEq
noncomputable def Wy.s:Wy->Str
 | .fst=>Str.ofString "first"
 | .lst=>Str.ofString "last"
 | .sum=>Str.ofString "sum"
 | .cnt=>Str.ofString "count"
 | .lea=>Str.ofString "least"
 | .gre=>Str.ofString "greatest"
 | .unl=>Str.ofString "unlike"
theorem Uc {α:Type}(F:α->Bool):∀xs:List α,boolsOf (xs.map fun x=>PyData.bool (F x))=some (xs.map F)
 | []=>rfl
 | x::xs=>by show (boolsOf (xs.map fun x=>PyData.bool (F x))).map (F x::·)=_;rw[Uc F xs];rfl
theorem B2p {a:Type}(f:a->Bool)(xs:List a):(xs.map f).any id=xs.any f:=by simp_all
theorem A4v {a:Type}(F:a->Bool)(xs:List a):Ai7 (.list (xs.map fun x=>PyData.bool (F x)))=some (.im (.bool (xs.any F))):=by
 show (boolsOf _).map _=_
 rw[Uc F,fH,B2p]
noncomputable def isB (o:n6)(b:Bool):Bool:=match o with
 | some (.im (.bool c))=>c==b
 | _=>false
theorem A5z (h:isB o b=true):o=some (.im (.bool b)):=by
 unfold isB at h
 grind
noncomputable def isS:Vl->Bool
 | .str _=>true
 | _=>false
noncomputable def isN:Vl->Bool
 | .non=>true
 | _=>false
def thr (xs:n_):n_:=xs.filter fun v=>!isN v
theorem Bh4 (xs:n_):(xs.filterMap fun v=>if isN v=true then none else some v.d)=(thr xs).map Vl.d:=by
 induction xs with
 | nil=>rfl
 | cons v r a =>
  unfold thr at a ⊢
  grind
theorem An0 (xs:n_){rest:o_}(hl:xs.length<=1000):cLC [none] (Ar (Aa 0)) (cgN 0) (Az (cOp (Gk true) (Aa 0) (cC (.none)))) (Aa 0) (some (.im (.list (xs.map Vl.d)))::rest)
 = .ok (.o (.ls false ((thr xs).map Vl.d))) (some (.im (.list (xs.map Vl.d)))::rest):=by
 obtain⟨cI,e,a⟩:=T4 (g:=cgN 0) (ft:=Az (cOp (Gk true) (Aa 0) (cC (.none)))) (fe:=Aa 0) (I:=fun c=>∃t,c=[t]) (f:=Vl.d) (G:=fun v=>if isN v=true then none else some v.d) (xs:=xs) (acc:=[]) (c:=[none]) ⟨none,rfl⟩
  (fun v c hv b=>by
   obtain⟨t,rfl⟩:=b
   refine⟨[some (.im v.d)],?_,_,rfl⟩
   cases v with
   | non=>wp_walk using Vl.d,Gk,isN
   | int i=>wp_walk using Vl.d,Gk,isN
   | str x=>wp_walk using Vl.d,Gk,isN)
 rw[Bh4]at e
 exact Dq (by wp_walk using Ar,U.Fl) (by rw[ao];lia) e rfl
theorem B6c : ∀v∈thr xs,isN v=false:=fun v a=>by
 have:=(dq.mp a).2
 grind
theorem Vf : (thr xs).length<=xs.length:=List.length_filter_le _ _
theorem eqW (a b:Wy):Be false (.str a.s) (.str b.s)=some (.im (.bool (decide (a=b)))):=by
 rw[Wh]
 cases a <;> cases b <;> exact cY (fun b=>some (O.im _)) (by decide +kernel)
theorem An8 (v:Vl):O4 (Ck 2) v.d=some (Dr v):=by
 unfold O4;rw[A2a ]
 rfl
theorem A4g (c:Bool)(a b:Vl):Hi c (Dr a) (Dr b)=some (if c then vlt b a else vlt a b):=by
 cases a with
 | non=>cases b <;> cases c <;> rfl
 | int i=>
  cases b with
   | non=>cases c <;> rfl
   | int j =>
    show (if (i==j)=true then some _ else some _)=_
    by_cases h:i=j
    ·subst h;cases c <;> simp[vlt]
    ·rw[if_neg (by simpa using h)];cases c <;> rfl
   | str y=>cases c <;> rfl
 | str x=>
  cases b with
   | non=>cases c <;> rfl
   | int j=>cases c <;> rfl
   | str y =>
    show (if (x==y)=true then some _ else some _)=_
    by_cases h:x=y
    ·subst h;cases c <;> simp[vlt]
    ·rw[if_neg (by simpa using h)];cases c <;> rfl
def bt (gt:Bool)(b v:Vl):Bool:=if gt then vlt b v else vlt v b
def nxt (gt:Bool)(b v:Vl):Vl:=if b=.non then v else if bt gt b v=true then v else b
def Nf (gt:Bool)(ts:n_):Vl:=ts.foldl (nxt gt) .non
theorem A6t (hb:VB b) (hv:VB v):VB (nxt a b v):=by
 unfold nxt
 grind
theorem Bl7 (hv:v≠.non):nxt a b v≠.non:=by
 unfold nxt
 grind
theorem A3b {ts:n_} (h:ts[k]?=some v):Nf a (ts.take (k+1))=nxt a (Nf a (ts.take k)) v:=by
 unfold Nf;rw[fU,h,List.foldl_append];rfl
theorem Ay0 {gt:Bool}:∀{ts:n_}{b:Vl},VBs ts->VB b->VB (ts.foldl (nxt gt) b)
 | [],b,_,h=>h
 | v::r,b,h1,h=>Ay0 (ts:=r) (fun u hu=>h1 u (.tail _ hu)) (A6t h (h1 v (.head _)))
theorem Ad2 (h:VBs ts):VB (Nf a ts):=Ay0 h rfl
def prR (v:Vl):PyData×t6:=(v.d,Dr v)
theorem Bu1 (gt:Bool):∀(ts:n_) (b:Vl),b≠.non->VB b->VBs ts->(∀v∈ts,v≠.non)->mmF gt (Ck 2) (ts.map Vl.d) (some (prR b))=some (some (prR (ts.foldl (nxt gt) b)))
 | [],b,_,_,_,_=>rfl
 | v::r,b,h0,hb,h1,h2=>by
  have hv:=h1 v (.head _)
  have ih:=Bu1 gt r (nxt gt b v) (Bl7 (h2 v (.head _))) (A6t hb hv) (fun u hu=>h1 u (.tail _ hu)) fun u hu=>h2 u (.tail _ hu)
  show ((O4 (Ck 2) v.d).bind fun k=>if (Bu k&&Bu (Dr b))=true then (Hi gt k (Dr b)).bind fun r'=>mmF gt (Ck 2) (r.map Vl.d) (if r'=true then some (v.d,k) else some (b.d,Dr b)) else none)=_
  rw[An8,cW,Zh hv,Zh hb,A4g,List.foldl_cons,<- ih,show (if gt=true then vlt b v else vlt v b)=bt gt b v from rfl]
  have en:nxt gt b v=if bt gt b v=true then v else b:=if_neg h0
  rw[en]
  show mmF gt (Ck 2) (r.map Vl.d) _=_
  split <;> rfl
theorem Bw3 (b:Bool) (h1:VBs ts) (h2:∀v∈ts,v≠.non):∃o,mmF b (Ck 2) (ts.map Vl.d) none=some o/\mmD o=(Nf b ts).d:=by
 cases ts with
 | nil=>exact⟨none,rfl,rfl⟩
 | cons v r =>
  refine⟨some (prR _),?_,rfl⟩
  show ((O4 _ _).bind fun k=>mmF _ _ _ _)=_
  rw[An8]
  exact Bu1 _ r v (h2 v (.head _)) (h1 v (.head _)) (fun u a=>h1 u (.tail _ a)) fun u a=>h2 u (.tail _ a)
noncomputable def keyOf:Vl->Key
 | .int i=>.inl i
 | .str x=>.inr x
 | .non=>.inl 0
theorem Ah2:∀{ts:n_},(∀v∈ts,v≠.non)->Q6 (ts.map Vl.d)=some (ts.map keyOf)
 | [],_=>rfl
 | v::r,h=>by
  have e:=Ah2 (ts:=r) fun u hu=>h u (.tail _ hu)
  have hv:=h v (.head _)
  cases v with
  | non=>exact absurd rfl hv
  | int i=>show (Q6 (r.map Vl.d)).map ((Sum.inl i:Key)::·)=_;rw[e];rfl
  | str x=>show (Q6 (r.map Vl.d)).map ((Sum.inr x:Key)::·)=_;rw[e];rfl
theorem Bd5 (ts:n_):(∀v∈ts,v≠.non)->dst (ts.map keyOf)=(fs ts).map keyOf:=by
 refine Qw (P:=fun ts=>(∀v∈ts,v≠.non)->dst (ts.map keyOf)=(fs ts).map _) (fun _=>rfl) (fun l x b h=>?_) _
 rw[bA,aH,dh,Xe,(b fun v c=>h v (bJ _ c)),Mq]
 have a:keyOf x∈(fs l).map keyOf↔x∈fs l:=by
  refine⟨fun m=>?_,fun m=>aD.mpr ⟨x,m,rfl⟩⟩
  obtain⟨y,d,e⟩:=aD.mp m;have g:=h y (bJ _ (z8.mp d));have f:=h x (aA _ (.head _))
  cases x with
  | non=>simp_all
  | int i=>
   cases y with
    | non=>simp_all
    | int j=>cases e;grind
    | str z=>cases e
  | str z=>
   cases y with
    | non=>trivial
    | int j=>cases e
    | str w=>cases e;grind
 unfold Zu
 by_cases m:x∈fs l
 ·rw[if_pos (memB_iff.mpr (a.mpr m)),J6 m]
 ·rw[if_neg fun q=>m (a.mp (memB_iff.mp q)),Il m,bA];rfl
noncomputable def intOf:Vl->q9
 | .int i=>some i
 | _=>none
def Ag8 (ts:n_):Int:=(ts.filterMap intOf).sum
theorem ints_of:∀{ts:n_},(∀v∈ts,v≠.non/\isS v=false)->intsOf (ts.map Vl.d)=some (ts.filterMap intOf)
 | [],_=>rfl
 | v::r,h=>by
  have e:=ints_of (ts:=r) fun u hu=>h u (.tail _ hu)
  have hv:=h v (.head _)
  cases v with
  | non=>exact absurd rfl hv.1
  | str x=>cases hv.2
  | int i=>show (intsOf (r.map Vl.d)).map (i::·)=_;rw[e];rfl
noncomputable def B1v:Vl->Int
 | .int i=>i
 | _=>0
theorem sum_cons (v:Vl)(r:n_):Ag8 (v::r)=B1v v+Ag8 r:=by
 cases v with
 | non=>exact(Int.zero_add _).symm
 | str x=>exact(Int.zero_add _).symm
 | int i=>rfl
theorem B1h (h:VB v):-1000000000000<=B1v v/\B1v v<=1000000000000:=by
 cases v with
 | non=>trivial
 | str x=>exact⟨by show -1000000000000<=0;decide,by show 0<=1000000000000;decide⟩
 | int i =>
  obtain⟨b,a⟩:=aC.mp (h);exact⟨aW b,aW a⟩
theorem A9p:∀{ts:n_},VBs ts->-(1000000000000*(ts.length:Int))<=Ag8 ts/\Ag8 ts<=1000000000000*(ts.length:Int)
 | [],_=>⟨by decide,by decide⟩
 | v::r,h=>by
  have ih:=A9p (ts:=r) fun u hu=>h u (.tail _ hu)
  have b:=B1h (h v (.head _));rw[sum_cons,aP];lia
theorem Vx (b:-100000000000000<=i) (h1:i<=100000000000000):Good (.int i) 0 1921:=by
 refine⟨rfl,?_,rfl,aq _,aq _⟩
 have a:i.natAbs<2 ^ 60:=by lia
 have:i.natAbs.log2<1920:=by
  by_cases hz:i.natAbs=0
  ·rw[hz];decide
  ·exact aN ((Nat.log2_lt hz).mpr a) (by decide)
 simpa[PyData.showable] using this
def Ks (w:Wy)(xs:n_):Vl:=match w with
 | .fst=>xs.getD 0 .non
 | .lst=>xs.getD (xs.length-1) .non
 | .sum=>.int (Ag8 (thr xs))
 | .cnt=>.int ((thr xs).length:Nat)
 | .lea=>Nf false (thr xs)
 | .gre=>Nf true (thr xs)
 | .unl=>.int ((fs (thr xs)).length:Nat)
theorem Au7 (h:VBs xs):VB (xs.getD i .non):=by
 rw[cJ]
 cases e:xs[i]? with
 | none=>rfl
 | some v=>grind
theorem A6n (h:VBs xs) (hl:xs.length<=24):Good (Ks w xs).d 0 1921:=by
 have a:VBs (thr _):=fun v b=>h v (dq.mp b).1
 have l := au Vf hl;have c:=Ib (thr xs)
 cases w with
 | fst=>exact Dt (Au7 h)
 | lst=>exact Dt (Au7 h)
 | sum=>have:=A9p a;exact Vx (by lia) (by lia)
 | cnt=>exact Vx (by lia) (by lia)
 | lea=>exact Dt (Ad2 a)
 | gre=>exact Dt (Ad2 a)
 | unl=>exact Vx (by lia) (by lia)
structure Pt (w:Wy) (xs:n_):Prop where
 vb:VBs xs
 ne:xs≠[]
 len:xs.length<=24
 num:w=.sum->∀v∈xs,isS v=false
theorem Pt.thr_vb (h:Pt w xs):VBs (thr xs):=fun v a=>h.vb v (dq.mp a).1
theorem Pt.thr_ne : ∀v∈thr xs,v≠.non:=fun v a e=>by
 have:=B6c v a;rw[e]at this;trivial
theorem Bu3 (v:Vl):Dw .str v.d=some (.im (.bool (isS v))):=by cases v <;> rfl
theorem Az8 {ts:n_} (hi:fi c=.ok (ts.map Vl.d) c1) (hl:ts.length<=1000) :
 cLC [none] fi (cgN 0) Av (cUn (Dw .str) (Aa 0)) c=.ok (.o (.ls false (ts.map fun v=>PyData.bool (isS v)))) c1:=by
 obtain⟨cI,e,u,rfl⟩:=Cj (g:=cgN 0) (ft:=Av) (fe:=cUn (Dw .str) (Aa 0)) (I:=fun c=>∃t,c=[t]) (f:=Vl.d) (G:=fun v=>PyData.bool (isS v)) ⟨none,rfl⟩
  fun v c hv a=>by
   obtain⟨t,rfl⟩:=a
   refine⟨[some (.im v.d)],?_,_,rfl⟩
   wp_walk using Bu3
 exact Dq hi (by grind) (by trivial) rfl
theorem B5v {ts:n_}(h:∀v∈ts,isS v=false):Ai7 (.list (ts.map fun v=>PyData.bool (isS v)))=some (.im (.bool false)):=by
 rw[A4v,List.any_eq_false.mpr fun v a=>by grind]
theorem A7l (h:∀v∈ts,v≠.non/\isS v=false) (hl:ts.length<=1000):Ld [.im (.list (ts.map Vl.d))]=.ret (.im (.int (Ag8 ts))) [.im (.list (ts.map Vl.d))]:=by
 have e:=Az8 (fi:=Ar (Aa 0)) (c:=[some (.im (.list _))]) (by rfl) hl
 have b:An5 (.list (ts.map Vl.d))=some (.im (.int (Ag8 ts))):=by
  show (intsOf _).map _=_
  rw[ints_of h];rfl
 wp_walk using Ld,Tf,e,B5v fun v a=>(h v a).2,b
theorem Bj1 (h:xs≠[]):atI (xs.map Vl.d) (-1)=some (xs.getD (xs.length-1) .non).d:=by
 have a:0<xs.length:=iG.mpr h;unfold atI ixN
 rw[if_neg (by decide),ao]
 rw[if_pos (by lia),cW,bD]
 rw[show (-1+(xs.length:Int)).toNat=xs.length-1 by lia,cJ,bG (show xs.length-1<xs.length by lia)];rfl
theorem Ak4 (h:xs≠[]):Aj (.list (xs.map Vl.d)) (.int 0)=some (.im (xs.getD 0 .non).d):=by
 cases xs with
 | nil=>grind
 | cons v r =>
  show (atI (v.d::r.map _) 0).map _=_
  rw[Bv1];rfl
theorem B3i (h:Pt w xs):Bs [.im (.list (xs.map Vl.d)),.im (.str w.s)]=.ret (.im (Ks w xs).d) [.im (.list (xs.map Vl.d)),.im (.str w.s)]:=by
 have k:xs.length<=1000:=au h.len (by decide)
 have e:=An0 (rest:=[some (.im (.str w.s)),none]) xs k;have m:(thr xs).length<=1000:=au Vf k;have E:=eqW w;have a:Be false (.str w.s) (.str "first")=some (.im (.bool (decide (w=.fst)))):=E .fst;have b:Be false (.str w.s) (.str "last")=some (.im (.bool (decide (w=.lst)))):=E .lst;have c:Be false (.str w.s) (.str "sum")=some (.im (.bool (decide (w=.sum)))):=E .sum;have d:Be false (.str w.s) (.str "count")=some (.im (.bool (decide (w=.cnt)))):=E .cnt;have i:Be false (.str w.s) (.str "least")=some (.im (.bool (decide (w=.lea)))):=E .lea;have j:Be false (.str w.s) (.str "greatest")=some (.im (.bool (decide (w=.gre)))):=E .gre;have n:Be false (.str w.s) (.str "unlike")=some (.im (.bool (decide (w=.unl)))):=E .unl
 generalize hs:PyData.str w.s=S at *
 cases w with
 | fst=>wp_walk using Bs,Ce,a,Ak4 h.ne,Ks
 | lst =>
  have z:Aj (.list (xs.map Vl.d)) (.int (-1))=some (.im (xs.getD (xs.length-1) .non).d):=by
   show (atI (xs.map Vl.d) (-1)).map O.im=_
   rw[Bj1 h.ne];rfl
  wp_walk using Bs,Ce,a,b,A7q,z,Ks
 | sum =>
  have z:=A7l (ts:=thr xs) (fun v l=>⟨Pt.thr_ne v l,h.num rfl v (dq.mp l).1⟩) m
  wp_walk using Bs,Ce,e,a,b,c,z,Ks,Vl.d
 | cnt=>wp_walk using Bs,Ce,e,a,b,c,d,G9,Ks,Vl.d,ao
 | lea =>
  obtain⟨o,g,f⟩:=Bw3 false h.thr_vb Pt.thr_ne
  wp_walk using Bs,Ce,e,a,b,c,d,i,cMM,g,f,Ks
 | gre =>
  obtain⟨o,g,f⟩:=Bw3 true h.thr_vb Pt.thr_ne
  wp_walk using Bs,Ce,e,a,b,c,d,i,j,cMM,g,f,Ks
 | unl =>
  have z:Oq (.list ((thr xs).map Vl.d))=some (.im (.int ((fs (thr xs)).length:Nat))):=by
   show ((Q6 ((thr xs).map Vl.d)).bind _)=_
   rw[Ah2 Pt.thr_ne,cW,if_pos (by rw[ao];have:=Vf (xs:=xs);have:=h.len;lia),Bd5 _ Pt.thr_ne,ao]
  wp_walk using Bs,Ce,e,a,b,c,d,i,j,n,z,Ks,Vl.d
abbrev Sd:Ev->SR:=cIf (cOr (Az (cOp (Gk false) (Aa 5) (cC (.none)))) (Az (cOp (Be false) (cOp A2v (cF Ea (Ab (Aa 4) Ah)) (cF Ea (Ab (Aa 5) Ah))) (cOp (Be false) (Aa 1) (cC (.str "least")))))) (Bt (Aa 4) (cgN 5)) Br
theorem Bz4 (v:Vl):Gk false v.d .none=some (.im (.bool (decide (v=.non)))):=by cases v <;> rfl
theorem eqB (a b:Bool):Be false (.bool a) (.bool b)=some (.im (.bool (decide (a=b)))):=by rfl
theorem B6z (h:vlt a b=true):vlt b a=false:=by
 cases e:vlt b a with
 | false=>rfl
 | true=>have:=A7f h e;rw[Ay8]at this;grind
theorem A5u (hb:VB b) (hv:VB v) (h:Be false S (.str "least")=some (.im (.bool (!gt)))) :
 Sd [s0,some (.im S),s2,s3,some (.im v.d),some (.im b.d)]=.nx [s0,some (.im S),s2,s3,some (.im v.d),some (.im (nxt gt b v).d)]:=by
 have a:=Bz4 b
 by_cases z:b=.non
 ·have f:nxt gt b v=v:=if_pos z
  rw[aK z]at a;rw[f]
  wp_walk using Sd,a
 ·rw[aR z]at a
  have g:=Be9 hv hb;have c:=eqB (vlt v b) (!gt)
  have f:nxt gt b v=if bt gt b v=true then v else b:=if_neg z
  have i:(decide (vlt v b=(!gt))=true/\nxt gt b v=v)\/(decide (vlt v b=(!gt))=false/\nxt gt b v=b):=by
   rw[f]
   cases gt with
   | false =>
    cases q:vlt v b with
    | true=>exact .inl ⟨rfl,by rw[show bt false b v=vlt v b from rfl,q];rfl⟩
    | false=>exact .inr ⟨rfl,by rw[show bt false b v=vlt v b from rfl,q];rfl⟩
   | true =>
    cases q:vlt v b with
    | true=>exact .inr ⟨rfl,by rw[show bt true b v=vlt b v from rfl,B6z q];rfl⟩
    | false =>
     refine .inl ⟨rfl,?_⟩
     rw[show bt true b v=vlt b v from rfl]
     rcases A0s b v with p | p | p
     ·rw[p];rfl
     ·rw[p];split <;> rfl
     ·rw[q]at p;cases p
  rcases i with ⟨e,d⟩ | ⟨e,d⟩
  ·rw[e]at c
   rw[d]
   wp_walk using Sd,a,Xi,g,h,c
  ·rw[e]at c
   rw[d]
   wp_walk using Sd,a,Xi,g,h,c
theorem Ze (ht:VBs ts) (j:Be false S (.str "least")=some (.im (.bool (!gt)))) :
 ∃a,forL (cgN 4) Sd (ts.map Vl.d) [s0,some (.im S),s2,s3,s4,some (.im .none)]=.nx [s0,some (.im S),s2,s3,a,some (.im (Nf gt ts).d)]:=by
 obtain⟨c',e,a,rfl⟩:=Fz (g:=cgN 4) (body:=Sd) (items:=ts.map _) (n:=0) (c:=[s0,some (.im S),s2,s3,s4,some (.im .none)])
  (P:=fun k c=>∃a,c=[s0,some _,s2,s3,a,some (.im (Nf gt (ts.take k)).d)]) ⟨s4,rfl⟩ (fun k d c h f=>by
   rw[aM]at f ⊢;obtain⟨a,rfl⟩:=f;obtain⟨v,b,rfl⟩:=Cw h
   refine⟨[s0,some _,s2,s3,some (.im v.d),some _],.inl ?_,_,rfl⟩
   rw[A3b b]
   exact A5u (Ad2 fun u i=>ht u (List.mem_of_mem_take i)) (ht v (bc b)) j)
 grind
theorem A6q (ho:M3 o (vs.map Vl.d)) (hi:c[3]?=some (some o)) (hj:c[4]?=some (some (.im v.d))) (hv:VB v) (hs:VBs vs) (hl:vs.length<=100) :
 cOp Cq (Aa 3) (cOp Jc (Ek (Ab (Aa 4) Ah)) (cUn Gv (cOp (Kv true) (Aa 4) (Aa 3)))) c=.ok (.o (.ls false ((ins vs v).map Vl.d))) c:=by
 have b:=At9 (neg:=true) hv hs
 have a:∃k:Int,Gv (.bool (!decide (v∈vs)))=some (.im (.int k))/\Jc (.list [v.d]) (.int k)=some (.ls false (if v∈vs then [] else [v.d])):=by
  by_cases m:v∈vs
  ·rw[if_pos m,aK m]
   exact⟨0,rfl,rfl⟩
  ·rw[if_neg m,aR m]
   exact⟨1,rfl,rfl⟩
 obtain⟨k,a,d⟩:=a
 have e:Cq (.list (vs.map Vl.d)) (.list (if v∈vs then [] else [v.d]))=some (.ls false ((ins vs v).map Vl.d)):=by
  show (if _ then _ else _)=_
  by_cases m:v∈vs
  ·rw[if_pos m,J6 m,if_pos (by rw[ao];simp;lia),cN]
  ·rw[if_neg m,Il m,if_pos (by simp;lia),bA];rfl
 rcases ho with rfl | rfl <;> wp_walk using hi,hj,b,a,d,e
abbrev A3w:Ev->SR:=Bt (cOp Cq (Aa 3) (cOp Jc (Ek (Ab (Aa 4) Ah)) (cUn Gv (cOp (Kv true) (Aa 4) (Aa 3))))) (cgN 3)
theorem A7a (ht:VBs ts) (hl:ts.length<=100):∃a o,M3 o ((fs ts).map Vl.d)/\forL (cgN 4) A3w (ts.map Vl.d) [s0,s1,s2,some (.ls false []),s4,s5]=.nx [s0,s1,s2,some o,a,s5]:=by
 obtain⟨c',e,a,o,b,rfl⟩:=Fz (g:=cgN 4) (body:=A3w) (n:=0) (c:=[s0,s1,s2,some (.ls _ _),s4,s5])
  (P:=fun k c=>∃a o,M3 o ((fs (ts.take k)).map _)/\c=[s0,s1,s2,some o,a,s5]) ⟨s4,_,.inl rfl,rfl⟩ (fun k d c j h=>by
   rw[aM]at h ⊢;obtain⟨a,o,b,rfl⟩:=h;obtain⟨v,f,rfl⟩:=Cw j
   have z:=A6q (c:=[s0,s1,s2,some o,some _,s5]) b rfl rfl (ht v (bc f)) (fun u i=>ht u (Wf (z8.mp i))) (J3 hl)
   refine⟨[s0,s1,s2,some _,some (.im v.d),s5],.inl ?_,_,_,.inl rfl,rfl⟩
   show A3w [s0,s1,s2,some o,some _,s5]=_
   unfold A3w Bt
   rw[z,R8 f];rfl)
 grind
theorem inW (w:Wy):Kv false (.str w.s) (.tuple [.str "first",.str "last"])=some (.im (.bool (decide (w=.fst\/w=.lst)))):=by
 cases w <;> exact A5z (by decide +kernel)
theorem Bg3 (h:Pt w xs):Er [.im (.list (xs.map Vl.d)),.im (.str w.s)]=.ret (.im (Ks w xs).d) [.im (.list (xs.map Vl.d)),.im (.str w.s)]:=by
 have q:xs.length<=1000:=au h.len (by decide)
 have e:=An0 (rest:=[some (.im (.str w.s)),none,none,none,none]) xs q;have lt:(thr xs).length<=24:=au Vf h.len;have E:=eqW w;have b:=inW w;have p:Be false (.str w.s) (.str "last")=some (.im (.bool (decide (w=.lst)))):=E .lst;have d:Be false (.str w.s) (.str "sum")=some (.im (.bool (decide (w=.sum)))):=E .sum;have g:Be false (.str w.s) (.str "count")=some (.im (.bool (decide (w=.cnt)))):=E .cnt;have n:Be false (.str w.s) (.str "least")=some (.im (.bool (decide (w=.lea)))):=E .lea;have j:Be false (.str w.s) (.str "unlike")=some (.im (.bool (decide (w=.unl)))):=E .unl
 have l:G9 [.list (xs.map Vl.d)]=some (.im (.int (xs.length:Nat))):=by show some (O.im (.int ((xs.map Vl.d).length:Nat)))=_;rw[ao]
 generalize hs:PyData.str w.s=S at *
 have r:Gv (.bool false)=some (.im (.int 0)):=rfl;have s:Gv (.bool true)=some (.im (.int 1)):=rfl;have hp:0<xs.length:=iG.mpr h.ne
 cases w with
 | fst =>
  have z:Aj (.list [.int 0,.int ((xs.length:Int)-1)]) (.int 0)=some (.im (.int 0)):=rfl
  wp_walk using Er,Hn,e,b,p,l,true_or,r,z,Ak4 h.ne,Ks
 | lst =>
  have z:Aj (.list [.int 0,.int ((xs.length:Int)-1)]) (.int 1)=some (.im (.int ((xs.length:Int)-1))):=rfl
  have a:Aj (.list (xs.map Vl.d)) (.int ((xs.length:Int)-1))=some (.im (xs.getD (xs.length-1) .non).d):=by
   rw[show (xs.length:Int)-1=((xs.length-1:Nat):Int) by lia]
   show (atI (xs.map Vl.d) _).map O.im=_
   rw[cJ,bG (show xs.length-1<xs.length by lia),Gz (by rw[bD,bG (show xs.length-1<xs.length by lia)];rfl)];rfl
  wp_walk using Er,Hn,e,b,p,l,or_true,s,z,a,Ks
 | sum =>
  have m:∀v∈thr xs,v≠.non/\isS v=false:=fun v i=>⟨Pt.thr_ne v i,h.num rfl v (dq.mp i).1⟩
  have z:=Az8 (ts:=thr xs) (fi:=Ar (Aa 2)) (c:=[some (.im (.list (xs.map Vl.d))),some (.im S),some (.ls false ((thr xs).map Vl.d)),none,none,none]) (c1:=[some (.im (.list (xs.map Vl.d))),some (.im S),some (.im (.list ((thr xs).map Vl.d))),none,none,none]) (by wp_walk using Ar,U.Fl) (by lia)
  have k:=B5v fun v i=>(m v i).2
  have a:An5 (.list ((thr xs).map Vl.d))=some (.im (.int (Ag8 (thr xs)))):=by
   show (intsOf ((thr xs).map Vl.d)).map _=_
   rw[ints_of m];rfl
  wp_walk using Er,Hn,e,b,or_self,d,z,k,a,Ks,Vl.d
 | cnt=>wp_walk using Er,Hn,e,b,or_self,d,g,G9,Ks,Vl.d,ao
 | unl =>
  obtain⟨f,o,t,z⟩:=A7a (ts:=thr xs) (s0:=some (.im (.list (xs.map Vl.d)))) (s1:=some (.im S)) (s2:=some (.im (.list ((thr xs).map Vl.d)))) (s4:=none) (s5:=none) h.thr_vb (by lia)
  have a:K5 (Ar (Aa 2)) (cgN 4) A3w [some (.im (.list (xs.map Vl.d))),some (.im S),some (.ls false ((thr xs).map Vl.d)),some (.ls false []),none,none]=.nx [some (.im (.list (xs.map Vl.d))),some (.im S),some (.im (.list ((thr xs).map Vl.d))),some o,f,none] :=
   (Hl (ds:=(thr xs).map Vl.d) (c1:=[some (.im (.list (xs.map Vl.d))),some (.im S),some (.im (.list ((thr xs).map Vl.d))),some (.ls false []),none,none]) (by wp_walk using Ar,U.Fl)).trans z
  unfold A3w at a
  have k:G9 [.list ((fs (thr xs)).map Vl.d)]=some (.im (.int ((fs (thr xs)).length:Nat))):=by show some (O.im (.int (((fs (thr xs)).map Vl.d).length:Nat)))=_;rw[ao]
  rcases t with rfl | rfl <;> wp_walk using Er,Hn,e,b,or_self,d,g,j,a,k,Ks,Vl.d
 | lea =>
  obtain⟨f,z⟩:=Ze (gt:=false) (ts:=thr xs) (S:=S) (s0:=some (.im (.list (xs.map Vl.d)))) (s2:=some (.im (.list ((thr xs).map Vl.d)))) (s3:=none) (s4:=none) h.thr_vb (by rw[n];rfl)
  have a:K5 (Ar (Aa 2)) (cgN 4) Sd [some (.im (.list (xs.map Vl.d))),some (.im S),some (.ls false ((thr xs).map Vl.d)),none,none,some (.im .none)]=.nx [some (.im (.list (xs.map Vl.d))),some (.im S),some (.im (.list ((thr xs).map Vl.d))),none,f,some (.im (Nf false (thr xs)).d)] :=
   (Hl (ds:=(thr xs).map Vl.d) (c1:=[some (.im (.list (xs.map Vl.d))),some (.im S),some (.im (.list ((thr xs).map Vl.d))),none,none,some (.im .none)]) (by wp_walk using Ar,U.Fl)).trans z
  unfold Sd at a
  wp_walk using Er,Hn,e,b,or_self,d,g,j,a,Ks
 | gre =>
  obtain⟨f,z⟩:=Ze (gt:=true) (ts:=thr xs) (S:=S) (s0:=some (.im (.list (xs.map Vl.d)))) (s2:=some (.im (.list ((thr xs).map Vl.d)))) (s3:=none) (s4:=none) h.thr_vb (by rw[n];rfl)
  have a:K5 (Ar (Aa 2)) (cgN 4) Sd [some (.im (.list (xs.map Vl.d))),some (.im S),some (.ls false ((thr xs).map Vl.d)),none,none,some (.im .none)]=.nx [some (.im (.list (xs.map Vl.d))),some (.im S),some (.im (.list ((thr xs).map Vl.d))),none,f,some (.im (Nf true (thr xs)).d)] :=
   (Hl (ds:=(thr xs).map Vl.d) (c1:=[some (.im (.list (xs.map _))),some _,some _,none,none,some _]) (by wp_walk using Ar,U.Fl)).trans z
  wp_walk using Er,Hn,e,b,or_self,d,g,j,a,Ks
noncomputable def nD (ns:v4):t6:=.tuple (ns.map PyData.str)
theorem Wg {α β:Type}(f:α->t6)(g:β->t6):∀(as:List α) (bs:List β),Io (as.map f) (bs.map g)=(as.zip bs).map fun q=>.tuple [f q.1,g q.2]
 | [],bs=>by simp[Io]
 | a::as,[]=>by simp[Io]
 | a::as,b::bs=>by
  have:=Wg f g as bs;unfold Io at this ⊢;rw[aH,aH,bL,aH,this,bL,aH]
theorem Ah3 (hv:∀x∈l,VBs x) (hl:l.length<=100):Eh [.im (.list (l.map tD))]=.ret (.im (.tuple ((fs l).map tD))) [.im (.list (l.map tD))]:=by
 obtain⟨c',j,o,b,u,rfl,rfl,rfl⟩:=Lb (d:=1) (g:=cgN 2) (F:=Gx) (items:=l.map tD) (n:=0) (ks:=[]) (es:=[]) (c:=[some (.im (.list (l.map tD))),none,none])
  (P:=fun k c e a=>∃u,c=[some (.im (.list (l.map tD))),none,u]/\e=(fs (l.take k)).map tD/\a=(fs (l.take k)).map fun _=>DE.d (.bool true)) ⟨none,rfl,rfl,rfl⟩
  (fun k x c e a m f=>by
   rw[aM]at f ⊢;obtain⟨u,rfl,rfl,rfl⟩:=f;obtain⟨r,h,rfl⟩:=Cw m
   refine⟨[some (.im (.list (l.map tD))),none,some (.im (tD r))],[some (.im (.list (l.map tD))),none,some (.im (tD r))],_,_,(by rfl),rfl,?_,_,rfl,rfl,rfl⟩
   have:=Am3 (d:=1) (c:=[some (.im (.list (l.map tD))),none,some (.im (tD r))]) (fk:=Aa 2) (fv:=fun _ _=>cC (.bool true)) (g:=fun _=>DE.d (.bool true)) (q:=r) (x:=.bool true) Ai0 (by trivial) (by trivial) (Zv (l.take k)) (B1p (hv r (bc h))) (J3 (au hl (by decide))) rfl
   rw[A0x ,<- R8 h]at this
   trivial)
 rw[ao,aM,dz]at b
 have p:=Va (d:=1) (fi:=Ar (Aa 0)) (g:=cgN 2) (F:=Gx) (ds:=l.map tD) (ks:=[]) (es:=[]) (c:=[some (.im (.list _)),none,none]) (by rfl) rfl
 wp_walk using Eh,K4,(O3 (d:=1) (g:=Bv (Ax6 (Aa 1))) (c:=[some _,none,none]) rfl (p.trans b)),Ax6
theorem Az2 {qs:List PH} {rest:o_}{sel:o8} (hs:∀q:PH,sel [some (.im (tD q.1)),some (.im (tD q.2))]=.ok (.o (.im (tD (f q)))) [some (.im (tD q.1)),some (.im (tD q.2))]) (hl:qs.length<=100) :
 cLC [none,none] (Ac1 (Aa 0)) (cgT 2 (Ao (cgN 0) (Ao (cgN 1) Dg))) Av sel (some (.ty (.ds (qs.map kD) ds))::rest)=.ok (.o (.ls false ((qs.map f).map tD))) (some (.ty (.ds (qs.map kD) ds))::rest):=by
 obtain⟨cI,e,u,v,rfl⟩:=Cj (g:=cgT 2 (Ao (cgN 0) (Ao (cgN 1) Dg))) (ft:=Av) (fe:=sel) (I:=fun c=>∃u v,c=[u,v]) (f:=kD) (G:=fun q=>tD (f q)) ⟨none,none,rfl⟩
  fun q c hx a=>by
   obtain⟨u,v,rfl⟩:=a
   refine⟨[some (.im (tD q.1)),some (.im (tD q.2))],?_,_,_,rfl⟩
   unfold kD
   wp_walk using hs q
 refine Dq (by rfl) (by grind) (by rw[cz];exact e) rfl
theorem A9z {qs:List PH} (hv:∀q∈qs,VBs q.1/\VBs q.2) (hl:qs.length<=100):Gu [.ty (.ds (qs.map kD) ds)]=.ret (.im (.tuple ((fs (qs.map (·.1))).map tD))) [.ty (.ds (qs.map kD) ds)]:=by
 have a:=Az2 (ds:=ds) (rest:=[]) (sel:=Aa 0) fun q=>by trivial hl
 have b:=Ah3 (fun x c=>by obtain⟨q,d,rfl⟩:=aD.mp c;exact(hv q d).1) (by simp_all)
 wp_walk using Gu,Kw,a,b
noncomputable def Et (b:Bool):Str:=if b then "rising" else "seen"
def Srt (b:Bool)(hs out:n8):Prop:=if b=true then ∃p:List Nat,p.Perm (List.range hs.length)/\p.Pairwise (PS.Rr (klt hs))/\out=atP [] hs p else out=hs
theorem Srt.one (h1:Srt b hs x) (h2:Srt b hs y):x=y:=by
 cases b with
 | false=>exact h1.trans h2.symm
 | true =>
  obtain⟨p,d,c,rfl⟩:=h1;obtain⟨q,e,a,rfl⟩:=h2;rw[Ak6 (Bj3 (Ag4 _)) (d.trans e.symm) c a]
theorem Srt.sub (h:Srt b hs x):(∀a∈x,a∈hs)/\x.length=hs.length:=by
 cases b with
 | false=>rw[h];grind
 | true =>
  obtain⟨p,c,p2,rfl⟩:=h
  refine⟨fun a d=>Br0 (Af5 c) d,?_⟩
  unfold atP;rw[ao,c.length_eq,fV]
theorem Yu (b:Bool):Be false (.str (Et b)) (.str "rising")=some (.im (.bool b)):=by
 rw[Wh]
 cases b
 ·rfl
 rfl
theorem A8a {qs:List PH} (hv:∀q∈qs,VBs q.1/\VBs q.2) (hl:qs.length<=60) (hw:∀q∈qs,q.2.length<=12):∃out,Srt b (fs (qs.map (·.2))) out /\
 Ff [.ty (.ds (qs.map kD) ds),.im (.str (Et b))]=.ret (.im (.tuple (out.map tD))) [.ty (.ds (qs.map kD) ds),.im (.str (Et b))]:=by
 have c:=Az2 (qs:=qs) (ds:=ds) (rest:=[some (.im (.str (Et b))),none]) (sel:=Aa 1) (f:=(·.2)) (fun q=>by wp_walk using bW) (au hl (by decide))
 have e:=Ah3 (l:=qs.map (·.2)) (fun x g=>by obtain⟨q,a,rfl⟩:=aD.mp g;exact(hv q a).2) (by rw[ao];lia)
 have d:=Yu b
 have H:HK (fs (qs.map (·.2))):=⟨Zv _,fun h j=>by
  obtain⟨q,a,rfl⟩:=aD.mp (z8.mp j)
  exact⟨(hv q a).2,hw q a⟩,au (Ib _) (by rw[ao];exact hl)⟩
 cases b with
 | false =>
  refine⟨_,rfl,?_⟩
  wp_walk using Ff,Im,c,e,d
 | true =>
  obtain⟨p,k,m,i⟩:=Ba6 H
  refine⟨_,⟨p,k,m,rfl⟩,?_⟩
  wp_walk using Ff,Im,c,e,d,i,Bd
theorem Ba9 {qs:List PH} (hv:∀q∈qs,VBs q.1/\VBs q.2) (hp:VBs p) (d:VBs h) (ha:fa c=.ok (.o (.ty (.ds (qs.map kD) (qs.map g)))) c) (hw:fw c=.ok (.o (.im (kD (p,h)))) c) (hx:fx c=.ok (.o (.im x)) c) :
 Mf fa fw fx c=.ok (.o (.im (if (p,h)∈qs then g (p,h) else x))) c:=by
 unfold Mf;simp only[ha,R.bind_ok,hw,hx,nrm,frz,Dl,rdP,cW,O.dat]
 rw[if_pos (by
  rw[Sy hp d,Bool.true_and,cG];intro k b;obtain⟨q,a,rfl⟩:=aD.mp b
  exact Sy (hv q a).1 (hv q a).2),Al9 Am1]
 grind
noncomputable abbrev Ka (qs:List PH)(g:PH->t6)(x:t6)(hs:n8)(p:n_):t6:=.tuple (hs.map fun h=>if (p,h)∈qs then g (p,h) else x)
theorem Bm1 (hv:∀q∈qs,VBs q.1/\VBs q.2) (hp:VBs p) (d:∀h∈hs,VBs h) (hl:hs.length<=100) :
 Fw [.im (tD p),.im (.tuple (hs.map tD)),.ty (.ds (qs.map kD) (qs.map g)),.im x]=.ret (.im (Ka qs g x hs p)) [.im (tD p),.im (.tuple (hs.map tD)),.ty (.ds (qs.map kD) (qs.map g)),.im x]:=by
 obtain⟨cI,e,u,rfl⟩:=Cj (g:=cgN 0) (ft:=Av) (fe:=Mf (Aa 2) (Ei (Ab (Aa 3) (Ab (Aa 0) Ah))) (Aa 1)) (I:=fun c=>∃u,c=[u,some (.im x),some (.ty (.ds (qs.map kD) (qs.map g))),some (.im (tD p))]) (f:=tD) (G:=fun h=>if (p,h)∈qs then g (p,h) else x) (xs:=hs) (acc:=[]) (c:=[none,some (.im x),some (.ty (.ds (qs.map kD) (qs.map g))),some (.im (tD p))]) ⟨none,rfl⟩
  (fun h c b i=>by
   obtain⟨u,rfl⟩:=i
   refine⟨[some (.im (tD h)),some (.im x),some (.ty (.ds (qs.map kD) (qs.map g))),some (.im (tD p))],?_,_,rfl⟩
   have e:=Ba9 (x:=x) (g:=g) hv hp (d h b) (c:=[some (.im (tD h)),some (.im x),some (.ty (.ds (qs.map kD) (qs.map g))),some (.im (tD p))]) (fa:=Aa 2) (fw:=Ei (Ab (Aa 3) (Ab (Aa 0) Ah))) (fx:=Aa 1) (by rfl) (by rfl) (by rfl)
   unfold O8
   rw[show cgN 0 (.o (.im (tD h))) [u,some (.im x),some (.ty (.ds (qs.map kD) (qs.map g))),some (.im (tD p))]=.ok () [some (.im (tD h)),some (.im x),some (.ty (.ds (qs.map kD) (qs.map g))),some (.im (tD p))] from rfl]
   show ((Mf _ _ _ _).bind _)=_
   rw[e];rfl)
 have a:cLC [none,some 3,some 2,some 0] (Ar (Aa 1)) (cgN 0) Av _ [some (.im _),some (.im (.tuple (hs.map _))),some (.ty _),some (.im x)]=.ok _ _ :=
  Dq (by rfl) (by grind) ((e)) rfl
 wp_walk using Fw,M4,a,Bd
theorem Bj2 {ps hs:n8}(hv:∀q∈qs,VBs q.1/\VBs q.2) (hp:∀p∈ps,VBs p) (i:∀h∈hs,VBs h) (hl:hs.length<=100) (b:ps.length<=100) :
 Ir [.im (.tuple (ps.map tD)),.im (.tuple (hs.map tD)),.ty (.ds (qs.map kD) (qs.map g)),.im x]=.ret (.im (.tuple (ps.map (Ka qs g x hs)))) [.im (.tuple (ps.map tD)),.im (.tuple (hs.map tD)),.ty (.ds (qs.map kD) (qs.map g)),.im x]:=by
 obtain⟨cI,e,u,rfl⟩:=Cj (g:=cgN 0) (ft:=Av) (fe:=cF Fw (Ab (Aa 0) (Ab (Aa 1) (Ab (Aa 2) (Ab (Aa 3) Ah))))) (I:=fun c=>∃u,c=[u,some (.im (.tuple (hs.map tD))),some (.ty (.ds (qs.map kD) (qs.map g))),some (.im x)]) (f:=tD) (G:=Ka qs g x hs) (xs:=ps) (acc:=[]) (c:=[none,some (.im (.tuple (hs.map tD))),some (.ty (.ds (qs.map kD) (qs.map g))),some (.im x)]) ⟨none,rfl⟩
  (fun p c d j=>by
   obtain⟨u,rfl⟩:=j
   refine⟨[some (.im (tD p)),some (.im (.tuple (hs.map tD))),some (.ty (.ds (qs.map kD) (qs.map g))),some (.im x)],?_,_,rfl⟩
   wp_walk using Bm1 (g:=g) (x:=x) hv (hp p d) i hl)
 have a:cLC [none,some 1,some 2,some 3] (Ar (Aa 0)) (cgN 0) Av (cF Fw (Ab (Aa 0) (Ab (Aa 1) (Ab (Aa 2) (Ab (Aa 3) Ah))))) [some (.im (.tuple (ps.map tD))),some (.im (.tuple (hs.map tD))),some (.ty (.ds (qs.map kD) (qs.map g))),some (.im x)]=.ok (.o (.ls _ _)) _ :=
  Dq (by trivial) (by grind) ((e)) rfl
 wp_walk using Ir,Nr,a,Bd
theorem A9v (b:Bool):Hj [.im (.str (Et b))]=.ret (.im .none) [.im (.str (Et b))]:=by cases b <;> rfl
theorem B5l {x:Str}:∀{ns:v4},ns.Nodup->x∈ns->ns.countP (fun z=>z==x)=1
 | y::ns,nd,h=>by
  obtain⟨n1,n2⟩:=c7.mp nd;rw[ji]
  by_cases e:y=x
  ·have:ns.countP (fun z=>z==x)=0:=List.countP_eq_zero.mpr fun z hz q=>n1 (by rw[e,<- cZ q];exact hz)
   rw[this,if_pos (by rw[e];exact dm x)]
  ·rw[if_neg (by rw[du.mpr e];decide),B5l n2 ((aB.mp h).resolve_left fun z=>e z.symm)]
theorem A5q {ns:v4}(a:ns.Nodup) (hx:x∈ns):Le (.list (ns.map PyData.str)) (.str x)=some (.im (.int 1)):=by
 show (strsOf _).map _=_
 rw[Np,fH,B5l a hx];rfl
theorem Ad1 (h:l.length<=16000000):Hq (sqD b l)=some (.ls false l):=by
 cases b <;> simp[sqD,Hq]
theorem At1 : G9 [sqD b l]=some (.im (.int l.length)):=by cases b <;> rfl
theorem B0t (ht:Tb.Ok t) {ks ns vs:v4}(h:(ks++ns++vs).Perm t.cols) (hv:1<=vs.length) :
 Df [.im (.tuple (t.cols.map PyData.str)),.im (sqD a (ks.map PyData.str)),.im (sqD b (ns.map PyData.str)),.im (sqD c (vs.map PyData.str))]=.ret (.im .none) [.im (.tuple (t.cols.map PyData.str)),.im (sqD a (ks.map PyData.str)),.im (sqD b (ns.map PyData.str)),.im (sqD c (vs.map PyData.str))]:=by
 have D:=h.length_eq;have cl:=ht.clen;rw[aX,aX]at D
 have i:=Ad1 (b:=a) (l:=ks.map PyData.str) (by rw[ao];lia)
 have k:=Ad1 (b:=b) (l:=ns.map PyData.str) (by rw[ao];lia)
 have m:=Ad1 (b:=c) (l:=vs.map PyData.str) (by rw[ao];lia)
 have n:Cq (.list (ks.map PyData.str)) (.list (ns.map PyData.str))=some (.ls false ((ks++ns).map PyData.str)):=by
  show (if _ then _ else _)=_
  rw[if_pos (by rw[ao,ao];lia),bA]
 have o:Cq (.list ((ks++ns).map PyData.str)) (.list (vs.map PyData.str))=some (.ls false ((ks++ns++vs).map PyData.str)):=by
  show (if _ then _ else _)=_
  rw[if_pos (by rw[ao,ao,aX];lia),<- bA]
 have p:=h.nodup_iff.mpr ht.nms.nd
 have q:Be false (.int 1) (.int 1)=some (.im (.bool true)):=by rw[Lp rfl rfl];rfl
 obtain⟨cI,e,u,rfl⟩:=Cj (g:=cgN 0) (ft:=Av) (fe:=cOp (Be false) (cMt Wb Le (Aa 1) (Aa 0)) (cC (.int 1))) (I:=fun c=>∃u,c=[u,some (.ls true ((ks++ns++vs).map PyData.str))]) (f:=PyData.str) (G:=fun _=>PyData.bool true) (xs:=t.cols) (acc:=[]) (c:=[none,some (.ls true ((ks++ns++vs).map PyData.str))]) ⟨none,rfl⟩
  (fun x c v w=>by
   obtain⟨u,rfl⟩:=w
   refine⟨[some (.im (.str x)),some (.ls true ((ks++ns++vs).map PyData.str))],?_,_,rfl⟩
   wp_walk using cMt,Wb,A5q p (h.mem_iff.mpr v),q)
 rw[gA,List.map_const']at e
 have y:((ks++ns++vs).map PyData.str).length=(t.cols.map PyData.str).length:=by rw[ao,ao];exact h.length_eq
 have s:Be true (.int ((t.cols.map PyData.str).length:Nat)) (.int ((t.cols.map PyData.str).length:Nat))=some (.im (.bool false)):=by
  rw[Lp rfl rfl,Bm6];rfl
 have r:Be false (.int ((vs.map PyData.str).length:Nat)) (.int 0)=some (.im (.bool false)):=by
  rw[Lp rfl rfl]
  show some (O.im (.bool (((vs.map PyData.str).length:Int)==0)))=_
  rw[du.mpr (by rw[ao];lia)]
 generalize hA:sqD a (ks.map PyData.str)=A at *
 generalize hB:sqD b (ns.map PyData.str)=B at *
 have d:=At1 (b:=c) (l:=vs.map PyData.str)
 generalize hC:sqD c (vs.map PyData.str)=C at *
 generalize (ks++ns++vs).map PyData.str=L at *
 have z:G9 [.tuple (t.cols.map PyData.str)]=some (.im (.int (t.cols.map PyData.str).length)):=rfl;have E:G9 [.list L]=some (.im (.int L.length)):=rfl
 have j:cLC [none,some 4] (Ar (Aa 0)) (cgN 0) Av (cOp (Be false) (cMt Wb Le (Aa 1) (Aa 0)) (cC (.int 1))) [some (.im (.tuple (t.cols.map PyData.str))),some (.im A),some (.im B),some (.im C),some (.ls false L)]=.ok (.o (.ls false (List.replicate t.cols.length (.bool true)))) [some (.im (.tuple (t.cols.map PyData.str))),some (.im A),some (.im B),some (.im C),some (.ls false L)] :=
  Dq (c1:=[some _,some _,some _,some _,some (.ls _ L)]) (by wp_walk using Ar,Fl) (by rw[ao];lia) e rfl
 wp_walk using Df,Ft,i,k,m,n,o,j,Ah6,Nk,Ao0,z,E,y,s,d,r
theorem Ao2 {α:Type}:∀ps:List α,ps.zip ps=ps.map fun p=>(p,p)
 | []=>rfl
 | p::ps=>by rw[bL,aH,Ao2 ps]
theorem Bz8 {ps hs:n8}(hv:∀q∈qs,VBs q.1/\VBs q.2) (hp:∀p∈ps,VBs p) (c:∀h∈hs,VBs h) (hl:hs.length<=100) (a:ps.length<=100) :
 Eo [.im (.tuple (ps.map tD)),.im (.tuple (hs.map tD)),.ty (.ds (qs.map kD) (qs.map g))]=.ret (.im (.tuple (ps.map fun p=>.tuple [tD p,Ka qs g .none hs p]))) [.im (.tuple (ps.map tD)),.im (.tuple (hs.map tD)),.ty (.ds (qs.map kD) (qs.map g))]:=by
 have e:=Bj2 (g:=g) (x:=.none) hv hp c hl a
 have d:Io (ps.map tD) (ps.map (Ka qs g .none hs))=ps.map fun p=>.tuple [tD p,Ka qs g .none hs p]:=by
  rw[Wg,Ao2,cz];rfl
 have b:(ps.map tD).length=(ps.map (Ka qs g .none hs)).length:=by grind
 wp_walk using Eo,Ia,e,A6x,Fl,b,d
theorem A5c [DecidableEq f] {e:f->t6}(he:∀a b,PyData.eqv (e a) (e b)=decide (a=b)) {qs:List f}{q:f} {g:f->DE} (h1:fv (qs.map e) (qs.map g) c=.ok (.o (.im x)) c1) (h2:fk c1=.ok (.o (.im (e q))) c1) (h:qs.Nodup) (hk:Hx (e q)=true) (hl:qs.length<=1000) (hn:Cr d c1=true) :
 Yh (d:=d) fk fv c (qs.map e) (qs.map g)=.nx c1 ((ins qs q).map e) ((ins qs q).map (upF g q (.d x))):=by
 unfold Yh;simp only[h1,R.toB_ok,nrm,frz,h2,Dl,rdP,cW,O.dat]
 rw[if_pos (by grind),A0g he h]
theorem Av2 : Bd (sqD b (ns.map PyData.str))=some (.im (nD ns)):=by
 cases b <;> simp[sqD,Bd,nD]
structure Cv (t:Tb) (ks ns vs:v4):Prop where
 pm:(ks++ns++vs).Perm t.cols
 pos:1<=vs.length
theorem Cv.cs (h:Cv t ks ns vs) (ht:Tb.Ok t):Cs t ks/\Cs t ns/\Cs t vs:=by
 have b:=h.pm.length_eq;have c:=ht.clen;rw[aX,aX]at b
 exact⟨⟨fun x a=>h.pm.mem_iff.mp (bJ _ (bJ _ a)),by lia⟩,⟨fun x a=>h.pm.mem_iff.mp (bJ _ (aA _ a)),by lia⟩,⟨fun x a=>h.pm.mem_iff.mp (aA _ a),by lia⟩⟩
theorem B4n [DecidableEq a] (l:List a):fs (fs l)=fs l:=by
 have:=A6p id l
 simp_all
theorem Bh6 (h:f c=.ok (.o (.im (sqD b l))) c):Kg f c=.ok (Hv l) c:=by
 cases b <;> wp_walk using Kg,h,sqD,U.Fl
abbrev wD (ws:List Wy):w5:=ws.map fun w=>PyData.str w.s
def A5t (cs:n8)(ws:List Wy):n_:=(List.range ws.length).map fun i=>Ks (ws.getD i .fst) (cs.map fun c=>c.getD i .non)
structure Tg (cs:n8) (ws:List Wy):Prop where
 ne:cs≠[]
 len:cs.length<=24
 row:∀c∈cs,c.length=ws.length/\VBs c
 wl:ws.length<=12
 num:∀i,ws[i]?=some .sum->∀c∈cs,isS (c.getD i .non)=false
theorem A1s {a:Type}{l:List a}{d:a} (h:i<l.length):l[i]?=some (l.getD i d):=by grind
theorem Tg.pt {cs:n8}{ws:List Wy}(h:Tg cs ws){i:Nat}(hi:i<ws.length):Pt (ws.getD i .fst) (cs.map fun c=>c.getD i .non) where
 vb:=fun v hv=>by obtain⟨c,hc,rfl⟩:=aD.mp hv;exact Au7 (h.row c hc).2
 ne:=fun e=>h.ne (List.map_eq_nil_iff.mp e)
 len:=by rw[ao];exact h.len
 num:=fun e v hv=>by
  obtain⟨c,hc,rfl⟩:=aD.mp hv
  exact h.num i (by rw[<- e];exact A1s hi) c hc
theorem Bw0 (h:i<c.length):Aj (tD c) (.int (i:Nat))=some (.im (c.getD i .non).d):=by
 show (atI _ i).map _=_
 rw[Gz (by rw[bD,A1s (d:=.non) h];rfl)];rfl
theorem Bt8 {cs:n8} (h:∀c∈cs,i<c.length):∃u,Dv (cgN 0) Av (cOp Aj (Aa 0) (Aa 1)) (cs.map tD) [] [none,some (.im (.int (i:Nat)))]=.ok ((cs.map fun c=>c.getD i .non).map Vl.d) [u,some (.im (.int (i:Nat)))]:=by
 obtain⟨cI,e,u,rfl⟩:=Cj (g:=cgN 0) (ft:=Av) (fe:=cOp Aj (Aa 0) (Aa 1)) (I:=fun c=>∃u,c=[u,some (.im (.int i))]) (f:=tD) (G:=fun c=>(c.getD i .non).d) ⟨none,rfl⟩
  fun x c b a=>by
   obtain⟨u,rfl⟩:=a
   refine⟨[some (.im (tD x)),some _],?_,_,rfl⟩
   wp_walk using Bw0 (h x b)
 exact⟨u,by rw[cz];exact e⟩
theorem B3s (h:Tg cs a) (hi:i<a.length):Ci [.im (.list (cs.map tD)),.im (.int (i:Nat)),.im (.str (a.getD i .fst).s)]=.ret (.im (Ks (a.getD i .fst) (cs.map fun c=>c.getD i .non)).d) [.im (.list (cs.map tD)),.im (.int (i:Nat)),.im (.str (a.getD i .fst).s)]:=by
 obtain⟨u,e⟩:=Bt8 (cs:=cs) (i:=i) fun c d=>by rw[(h.row c d).1];lia
 have f:=B3i (h.pt hi)
 have b:cLC [none,some 1] (Ar (Aa 0)) _ _ _ [some (.im (.list _)),some _,some (.im (.str (a.getD i .fst).s))]=.ok _ _ :=
  Dq (c1:=[some _,some (.im _),some _]) (by rfl) (by rw[ao];exact au h.len (by decide)) e rfl
 wp_walk using Ci,G5,b,f
theorem Ac3 (a:List Wy):Hv (wD a)=(List.range a.length).map fun k=>.tuple [.int (k:Nat),.str (a.getD k .fst).s]:=by
 unfold Hv
 simp_all
theorem B0d (h:Tg cs a):Di [.im (.list (cs.map tD)),.im (sqD b (wD a))]=.ret (.im (tD (A5t cs a))) [.im (.list (cs.map tD)),.im (sqD b (wD a))]:=by
 obtain⟨d,e,u,v,rfl⟩:=Cj (g:=cgT 2 (Ao (cgN 0) (Ao (cgN 1) Dg))) (ft:=Av) (fe:=cF Ci (Ab (Aa 2) (Ab (Aa 0) (Ab (Aa 1) Ah)))) (I:=fun c=>∃u v,c=[u,v,some (.im (.list (cs.map tD)))]) (f:=fun k:Nat=>.tuple [.int (k:Nat),.str (a.getD k .fst).s]) (G:=fun i=>(Ks (a.getD i .fst) (cs.map fun c=>c.getD i .non)).d) (xs:=List.range a.length) (acc:=[]) (c:=[none,none,some (.im (.list (cs.map tD)))]) ⟨none,none,rfl⟩
  (fun i c m n=>by
   obtain⟨u,v,rfl⟩:=n
   refine⟨[some (.im (.int (i:Nat))),some (.im (.str (a.getD i .fst).s)),some (.im (.list (cs.map tD)))],?_,_,_,rfl⟩
   wp_walk using B3s h (cX.mp m))
 rw[gA]at e;have l:=h.wl
 have j:cLC [none,none,some 0] (Kg (Aa 1)) (cgT 2 (Ao (cgN 0) (Ao (cgN 1) Dg))) Av (cF Ci (Ab (Aa 2) (Ab (Aa 0) (Ab (Aa 1) Ah)))) [some (.im (.list (cs.map tD))),some (.im (sqD b (wD a)))]=.ok (.o (.ls false ((A5t cs a).map Vl.d))) [some (.im (.list (cs.map tD))),some (.im (sqD b (wD a)))]:=by
  refine Dq (ds:=Hv (wD _)) (cI:=[u,v,some (.im (.list (cs.map tD)))]) (Bh6 (by rfl)) (by rw[Ac3,ao,fV];lia) ?_ rfl
  rw[Ac3]
  refine e.trans ?_
  unfold A5t;rw[cz];rfl
 wp_walk using Di,Hr,j,Bd
 rfl
theorem B7c (w:Wy):T7 true W7 (.str w.s)=some (.im (.bool false)):=by cases w <;> exact A5z (by rfl)
theorem Bi1 : Gq [.im (sqD b (wD a)),.im (.int (a.length:Nat)),.ty (.tc W7)]=.ret (.im .none) [.im (sqD b (wD a)),.im (.int (a.length:Nat)),.ty (.tc W7)]:=by
 obtain⟨c',e,u,rfl⟩:=Fz (g:=cgN 3) (body:=cIf (Az (Am0 (T7 true) (Aa 3) (Aa 2))) Jx Br) (items:=wD a) (n:=0) (c:=[some (.im (sqD b (wD a))),some (.im (.int (a.length:Nat))),some (.ty (.tc W7)),none])
  (P:=fun _ c=>∃u,c=[some (.im (sqD b (wD a))),some (.im (.int (a.length:Nat))),some (.ty (.tc W7)),u]) ⟨none,rfl⟩ (fun k d c i h=>by
   obtain⟨u,rfl⟩:=h;obtain⟨w,hw,rfl⟩:=Cw i
   refine⟨[some (.im (sqD b (wD a))),some (.im (.int (a.length:Nat))),some (.ty (.tc W7)),some (.im (.str w.s))],.inl ?_,_,rfl⟩
   wp_walk using Am0,Bc8,B7c)
 have j:G9 [sqD b (wD a)]=some (.im (.int (a.length:Nat))):=by rw[At1,ao]
 have f:=(Hl (g:=cgN 3) (body:=cIf (Az (Am0 (T7 true) _ _)) _ _) (fi:=Ar (Aa 0)) (A1a rfl)).trans e
 wp_walk using Gq,K1,j,Ak2,f
theorem At3 {t:Tb}(ht:Tb.Ok t){a b c e r:Bool}{ks ns vs:v4}{d:List Wy}(cv:Cv t ks ns vs)(hw:d.length=vs.length) :
 En [.im (.tuple (t.cols.map PyData.str)),.im (sqD a (ks.map PyData.str)),.im (sqD b (ns.map PyData.str)),.im (sqD c (vs.map PyData.str)),.im (sqD e (wD d)),.im (.str (Et r))]=.ret (.im .none) [.im (.tuple (t.cols.map PyData.str)),.im (sqD a (ks.map PyData.str)),.im (sqD b (ns.map PyData.str)),.im (sqD c (vs.map PyData.str)),.im (sqD e (wD d)),.im (.str (Et r))]:=by
 have g:=B0t ht (a:=a) (b:=b) (c:=c) cv.pm cv.pos;have h:=A9v r
 have f:G9 [sqD c (vs.map PyData.str)]=some (.im (.int d.length)):=by rw[At1,ao,hw]
 wp_walk using En,Ig,cTC,g,h,f,(Bi1 (a:=d) (b:=e))
noncomputable def Hc (l:List PH)(q:PH):List Nat:=(List.range l.length).filter fun i=>decide (l[i]?=some q)
theorem Ba8 (l:List PH)(q:PH):nmK l l.length q=(Hc l q).map fun i=>PyData.int (i:Nat):=rfl
def Dh (t:Tb)(l:List PH)(vs:v4)(q:PH):n8:=(Hc l q).map fun i=>pick t.cols (t.rows.getD i []) vs
abbrev Bw (t:Tb)(l:List PH)(vs:v4)(ws:List Wy)(q:PH):t6:=tD (A5t (Dh t l vs q) ws)
structure So (t:Tb) (vs:v4) (ws:List Wy):Prop where
 len:ws.length=vs.length
 num:∀(i:Nat) (x:Str),vs[i]?=some x->ws[i]?=some Wy.sum->∀r∈t.rows,isS (vAt t.cols r x)=false
theorem Ab1 (h:i∈Hc l q):i<l.length:=cX.mp (dq.mp h).1
theorem Vh (l:List PH)(q:PH):(Hc l q).length<=l.length:=au (List.length_filter_le _ _) (by grind)
theorem A8z (ht:Tb.Ok t) (hw:Cs t vs) (d:So t vs g) (k:q∈prs t ks ns):Tg (Dh t (prs t ks ns) vs q) g:=by
 have l:=Kr ht (ks:=ks) (ns:=ns)
 have h:(prs t ks ns).length=t.rows.length:=by unfold prs;rw[ao]
 have b:∀i∈Hc (prs t ks ns) q,t.rows.getD i []∈t.rows:=fun i a=>by
  have:=Ab1 a;rw[h]at this
  simp[this]
 refine⟨fun e=>?_,?_,fun c f=>?_,by rw[d.len];exact hw.len,fun i a c f=>?_⟩
 ·obtain⟨i,a⟩:=List.getElem?_of_mem k
  have:i∈Hc (prs t ks ns) q:=dq.mpr ⟨cX.mpr (aZ.mp a).1,aK a⟩;rw[List.map_eq_nil_iff.mp e]at this
  cases this
 ·unfold Dh
  rw[ao];exact au (Vh _ _) l
 ·obtain⟨i,a,rfl⟩:=aD.mp f
  refine⟨?_,Mj (ht.rows _ (b i a)).2⟩
  unfold pick;rw[ao,d.len]
 ·obtain⟨j,m,rfl⟩:=aD.mp f
  have il:i<vs.length:=by rw[<- d.len];grind
  have e:(pick t.cols (t.rows.getD j []) vs).getD i .non=vAt t.cols (t.rows.getD j []) vs[i]:=by
   unfold pick
   grind
  rw[e];exact d.num i _ (bG _) a _ (b j m)
abbrev bev (t:Tb)(A B:t6)(gr:O)(rest:o_):Ev:=some (.im t.d)::some (.im A)::some (.im B)::some gr::rest
abbrev someE:o8:=cLC [none,some 4,some 0] (A3x 4 (Ar (Aa 7))) (cgN 0) Av (cF Cd (Ab (cOp Aj (cOp Aj (Aa 2) (cC (.int 1))) (Aa 0)) (Ab (Aa 1) Ah)))
theorem Bn1 (ht:Tb.Ok t) (hw:Cs t vs) {is:List Nat}(hi:∀i∈is,i<t.rows.length) (hl:is.length<=24) (j:M3 b (Gs t.cols vs)) :
 someE (bev t A B a [some b,none,s6,some (.im (.list (is.map fun i=>PyData.int (i:Nat)))),s8])=.ok (.o (.ls false ((is.map fun i=>pick t.cols (t.rows.getD i []) vs).map tD))) (bev t A B a [some (.im (.list (Gs t.cols vs))),none,s6,some (.im (.list (is.map fun i=>PyData.int (i:Nat)))),s8]):=by
 obtain⟨m,e,u,rfl⟩:=Cj (g:=cgN 0) (ft:=Av) (fe:=cF Cd (Ab (cOp Aj (cOp Aj (Aa 2) (cC (.int 1))) (Aa 0)) (Ab (Aa 1) Ah))) (I:=fun c=>∃u,c=[u,some (.im (.list (Gs t.cols vs))),some (.im t.d)]) (f:=fun i:Nat=>PyData.int (i:Nat)) (G:=fun i=>tD (pick t.cols (t.rows.getD i []) vs)) (xs:=is) (acc:=[]) (c:=[none,some (.im (.list (Gs t.cols vs))),some (.im t.d)]) ⟨none,rfl⟩
  (fun i c k l=>by
   obtain⟨u,rfl⟩:=l;have d:t.rows[i]?=some (t.rows.getD i []):=A1s (hi i k);have n:=ht.rows _ (bc d);have o:Aj t.d (.int 1)=some (.im (.tuple (t.rows.map tD))):=rfl
   have z:Aj (.tuple (t.rows.map tD)) (.int (i:Nat))=some (.im (tD (t.rows.getD i []))):=by
    show (atI (t.rows.map tD) (i:Nat)).map O.im=_
    rw[Gz (by rw[bD,d];rfl)];rfl
   have h:=Ss (r:=t.rows.getD i []) hw.sub n.1 hw.len
   refine⟨[some (.im (.int (i:Nat))),some (.im (.list (Gs t.cols vs))),some (.im t.d)],?_,_,rfl⟩
   generalize t.rows.getD i []=row at *
   wp_walk using o,z,h)
 rw[gA]at e
 refine Dq (ds:=is.map fun i=>PyData.int (i:Nat)) (c1:=bev t A B a [some (.im (.list (Gs t.cols vs))),none,s6,some _,s8]) (cI:=[u,some (.im (.list (Gs t.cols vs))),some (.im t.d)]) ?_ (by rw[ao];lia) ?_ rfl
 ·rcases j with rfl | rfl <;> wp_walk using bev,A3x,Ar,U.Fl
 ·rw[cz];exact e
theorem B2n {t:Tb}(ht:Tb.Ok t){ks ns vs:v4}{a:List Wy}(hw:Cs t vs)(so:So t vs a){c e:Bool} :
 Ec [.im t.d,.im (sqD c (vs.map PyData.str)),.im (sqD e (wD a)),grD (prs t ks ns)]=.ret (.ty (.ds ((fs (prs t ks ns)).map kD) ((fs (prs t ks ns)).map (Bw t (prs t ks ns) vs a)))) [.im t.d,.im (sqD c (vs.map PyData.str)),.im (sqD e (wD a)),grD (prs t ks ns)]:=by
 have K:=Sq ht (b:=c) hw.sub hw.len;have D:=Kr ht (ks:=ks) (ns:=ns)
 have N:(prs t ks ns).length=t.rows.length:=by unfold prs;rw[ao]
 have O:∀q∈prs t ks ns,VBs q.1/\VBs q.2:=fun q f=>K7 ht f
 have M:=fun {q:PH} (f:q∈prs t ks ns)=>A8z ht hw so f
 have Q:=fun {q:PH} (f:q∈prs t ks ns)=>B0d (b:=e) (M f)
 have Y:∀q,∀i∈Hc (prs t ks ns) q,i<t.rows.length:=fun q i hi=>by rw[<- N];exact Ab1 hi
 have L:∀q,(Hc (prs t ks ns) q).length<=24:=fun q=>au (Vh _ _) D
 generalize sqD c (vs.map PyData.str)=A at *
 generalize sqD e (wD a)=B at *
 generalize prs t ks ns=l at *
 have v:=B4n l
 have R:∀{q:PH},q∈fs l->q∈l:=fun h=>z8.mp h
 have S:(fs l).length<=24:=au (Ib _) D
 generalize hgr:grD l=gr at *
 obtain⟨c',V,Z,I,o,w,s,p,rfl,J,rfl,rfl⟩:=Lb (d:=5) (g:=cgT 2 (Ao (cgN 6) (Ao (cgN 7) Dg))) (F:=Do) (items:=(fs l).map fun q=>PyData.tuple [kD q,.list (nmK l l.length q)]) (n:=0) (ks:=[]) (es:=[]) (c:=bev t A B gr [some (.ls false (Gs t.cols vs)),none,none,none,none])
  (P:=fun k c C E=>∃o w s p,c=bev t A B gr [some o,none,w,s,p]/\M3 o (Gs t.cols vs)/\C=(fs ((fs l).take k)).map kD/\E=(fs ((fs l).take k)).map fun q=>DE.d (Bw t l vs a q)) ⟨_,none,none,none,rfl,.inl rfl,rfl,rfl⟩
  (fun k x c C E T G=>by
   rw[aM]at G ⊢;obtain⟨o,w,s,p,rfl,J,rfl,rfl⟩:=G;obtain⟨q,f,rfl⟩:=Cw T;have H:=R (bc f);have m:=O q H;rw[Ba8];have W:=Bn1 ht hw (Y q) (L q) (A:=A) (B:=B) (a:=gr) (s6:=some (.im (kD q))) (s8:=p) J;have X:=Q H
   have U:∀u y,Pg (d:=5) someE (cgN 8) (bev t A B gr [some o,none,some (.im (kD q)),some (.im (.list ((Hc l q).map fun i=>PyData.int (i:Nat)))),p]) u y=.nx (bev t A B gr [some (.im (.list (Gs t.cols vs))),none,some (.im (kD q)),some (.im (.list ((Hc l q).map fun i=>PyData.int (i:Nat)))),some (.ls false ((Dh t l vs q).map tD))]) u y:=fun u y=>by
    unfold Pg;rw[W];rfl
   refine⟨bev t A B gr [some o,none,some (.im (kD q)),some (.im (.list ((Hc l q).map fun i=>PyData.int (i:Nat)))),p],bev t A B gr [some (.im (.list (Gs t.cols vs))),none,some (.im (kD q)),some (.im (.list ((Hc l q).map fun i=>PyData.int (i:Nat)))),some (.im (.list ((Dh t l vs q).map tD)))],_,_,(by wp_walk using bev),rfl,?_,_,_,_,_,rfl,.inr rfl,rfl,rfl⟩
   unfold Do Yc;rw[U]
   show Yh (d:=5) _ _ _ _ _=_
   have:=A5c (d:=5) (c:=bev t A B gr [some (.im (.list (Gs t.cols vs))),none,some (.im (kD q)),some (.im (.list ((Hc l q).map fun i=>PyData.int (i:Nat)))),some (.ls false ((Dh t l vs q).map tD))]) (c1:=bev t A B gr [some (.im (.list (Gs t.cols vs))),none,some (.im (kD q)),some (.im (.list ((Hc l q).map fun i=>PyData.int (i:Nat)))),some (.im (.list ((Dh t l vs q).map tD)))]) (fk:=Aa 6) (fv:=fun _ _=>cF Di (Ab (cFz (Aa 8)) (Ab (Aa 2) Ah))) (g:=fun q=>DE.d (Bw t l vs a q)) (q:=q) (x:=Bw t l vs a q) Am1 (by wp_walk using bev,X) (by wp_walk using bev) (Zv ((fs l).take k)) (Sy m.1 m.2) (J3 (au S (by decide))) rfl
   rw[A0x (g:=fun q:PH=>DE.d (Bw t l vs a q)),<- R8 f]at this
   exact this)
 rw[ao,aM,dz,v]at I
 have z:=Va (d:=5) (fi:=Vb (Aa 3)) (g:=cgT 2 (Ao (cgN 6) (Ao (cgN 7) Dg))) (F:=Do) (ds:=(fs l).map fun q=>PyData.tuple [kD q,.list (nmK l l.length q)]) (ks:=[]) (es:=[]) (c:=bev t A B gr [some (.ls false (Gs t.cols vs)),none,none,none,none]) (c1:=bev t A B gr [some (.ls false (Gs t.cols vs)),none,none,none,none]) (by
  subst hgr
  wp_walk using bev,grD,Vb,ao,Yw) rfl
 have j:=O3 (d:=5) (g:=Bv (Aa 5)) (c:=bev t A B _ [some _,none,none,none,none]) rfl (z.trans I);rw[cz]at j
 have r:(DE.dat ∘ fun q=>DE.d (Bw t l vs a q))=Bw t l _ _:=rfl
 rw[r]at j;subst hgr
 wp_walk using Ec,Hs,K,j
def fbD (t:Tb)(l:List PH)(ks ns vs:v4)(ws:List Wy)(hs:n8):t6:=.tuple [nD ks,nD ns,nD vs,.tuple (hs.map tD),.tuple ((fs (l.map (·.1))).map fun p=>.tuple [tD p,Ka (fs l) (Bw t l vs ws) .none hs p])]
theorem A5w (ht:Tb.Ok t) (cv:Cv t ks ns vs) (s:So t vs f):∃h,Srt r (fs ((prs t ks ns).map (·.2))) h /\
 Eg [.im t.d,.im (sqD a (ks.map PyData.str)),.im (sqD b (ns.map PyData.str)),.im (sqD c (vs.map PyData.str)),.im (sqD e (wD f)),.im (.str (Et r))]=.ret (.im (fbD t (prs t ks ns) ks ns vs f h)) [.im t.d,.im (sqD a (ks.map PyData.str)),.im (sqD b (ns.map PyData.str)),.im (sqD c (vs.map PyData.str)),.im (sqD e (wD f)),.im (.str (Et r))]:=by
 obtain⟨v,n,H⟩:=cv.cs ht;have I:=At3 ht (a:=a) (b:=b) (c:=c) (e:=e) (r:=r) cv s.len;have K:=Bp0 ht (a:=a) (b:=b) v n;have w:=B2n ht (ks:=ks) (ns:=ns) H s (c:=c) (e:=e);have F:=Kr ht (ks:=ks) (ns:=ns)
 have i:∀q∈fs (prs t ks ns),VBs q.1/\VBs q.2:=fun q d=>K7 ht (z8.mp d)
 have j:∀q∈fs (prs t ks ns),q.2.length<=12:=fun q d=>by
  obtain⟨x,_,rfl⟩:=aD.mp (z8.mp d)
  show (pick _ _ _).length<=12
  unfold pick;rw[ao];exact n.len
 have y:=Av2 (b:=a) (ns:=ks);have z:=Av2 (b:=b) (ns:=ns);have D:=Av2 (b:=c) (ns:=vs);have E:Aj t.d (.int 0)=some (.im (.tuple (t.cols.map PyData.str))):=rfl;have o:(fs (prs t ks ns)).length<=24:=au (Ib _) F;unfold fbD
 generalize Bw t (prs t ks ns) vs f=G at *
 generalize sqD a (ks.map PyData.str)=A at *
 generalize sqD b (ns.map PyData.str)=B at *
 generalize sqD c (vs.map PyData.str)=C at *
 generalize sqD e (wD f)=W at *
 generalize prs t ks ns=l at *
 obtain⟨h,k,J⟩:=A8a (b:=r) (ds:=(fs l).map fun q=>PyData.list (nmK l l.length q)) i (au o (by decide)) j
 have u:=A9z (ds:=(fs l).map fun q=>PyData.list (nmK l l.length q)) i (au o (by decide))
 rw[A6p]at k u;obtain⟨L,M⟩:=k.sub
 refine⟨h,k,?_⟩
 have N:=Bz8 (g:=G) (ps:=fs (l.map (·.1))) (hs:=h) i (fun p m=>by obtain⟨q,d,rfl⟩:=aD.mp (z8.mp m);exact(i q (z8.mpr d)).1) (fun p m=>by obtain⟨q,d,rfl⟩:=aD.mp (z8.mp (L p m));exact(i q (z8.mpr d)).2) (by rw[M];exact au (Ib _) (by rw[ao];lia)) (au (Ib _) (by rw[ao];lia))
 wp_walk using Eg,Ma,E,I,K,J,u,w,N,y,z,D
theorem A8w (ht:Tb.Ok t) (hn:∀x∈ns,x∈t.cols) (hr:r.length=t.cols.length) (hl:ns.length<=12) :
 Gw [.im t.d,.im (tD r),.im (.list (ns.map PyData.str))]=.ret (.im (tD (pick t.cols r ns))) [.im t.d,.im (tD r),.im (.list (ns.map PyData.str))]:=by
 have h:Aj t.d (.int 0)=some (.im (.tuple (t.cols.map PyData.str))):=rfl
 obtain⟨cI,e,u,rfl⟩:=Cj (g:=cgN 0) (ft:=Av) (fe:=cOp Aj (Aa 1) (cMt J1 Ik (cOp Aj (Aa 2) (cC (.int 0))) (Aa 0))) (I:=fun c=>∃u,c=[u,some (.im (tD r)),some (.im t.d)]) (f:=PyData.str) (G:=fun x=>(vAt t.cols r x).d) (xs:=ns) (acc:=[]) (c:=[none,some (.im (tD r)),some (.im t.d)]) ⟨none,rfl⟩
  (fun x c a d=>by
   obtain⟨u,rfl⟩:=d
   refine⟨[some (.im (.str x)),some (.im (tD r)),some (.im t.d)],?_,_,rfl⟩
   wp_walk using h,cMt,J1,Qi ht.nms.nd (Mh (hn x a)),A8f (hn x a) hr)
 have i:cLC [none,some 1,some 0] (Ar (Aa 2)) (cgN 0) Av (cOp Aj (Aa 1) (cMt J1 Ik (cOp Aj (Aa 2) (cC (.int 0))) (Aa 0))) [some (.im t.d),some (.im (tD r)),some (.im (.list (ns.map PyData.str)))]=.ok (.o (.ls false (ns.map fun x=>(vAt t.cols r x).d))) [some (.im t.d),some (.im (tD r)),some (.im (.list (ns.map PyData.str)))] :=
  Dq (ds:=ns.map PyData.str) (c1:=[some (.im t.d),some (.im _),some _]) (by wp_walk using Ar,Fl) (by grind) (by simpa[cIn,O.flag] using e) rfl
 have b:PyData.tuple (ns.map fun x=>(vAt t.cols r x).d)=tD (pick t.cols r ns):=by unfold tD pick;rw[cz];rfl
 wp_walk using Gw,Z3,i,Bd,b
theorem A0t (ho:M3 o (vs.map tD)) (hi:c[i]?=some (some o)) (hj:c[j]?=some (some (.im (tD v)))) (hv:VBs v) (hs:∀u∈vs,VBs u) (hl:vs.length<=100) :
 cOp Cq (Aa i) (cOp Jc (Ek (Ab (Aa j) Ah)) (cUn Gv (cOp (Kv true) (Aa j) (Aa i)))) c=.ok (.o (.ls false ((ins vs v).map tD))) c:=by
 have b:=B2c (neg:=true) hv hs
 have a:∃k:Int,Gv (.bool (!decide (v∈vs)))=some (.im (.int k))/\Jc (.list [tD v]) (.int k)=some (.ls false (if v∈vs then [] else [tD v])):=by
  by_cases m:v∈vs
  ·rw[if_pos m,aK m]
   exact⟨0,rfl,rfl⟩
  ·rw[if_neg m,aR m]
   exact⟨1,rfl,rfl⟩
 obtain⟨k,a,d⟩:=a
 have e:Cq (.list (vs.map tD)) (.list (if v∈vs then [] else [tD v]))=some (.ls false ((ins vs v).map tD)):=by
  show (if _ then _ else _)=_
  by_cases m:v∈vs
  ·rw[if_pos m,J6 m,if_pos (by rw[ao];simp;lia),cN]
  ·rw[if_neg m,Il m,if_pos (by simp;lia),bA];rfl
 rcases ho with rfl | rfl <;> wp_walk using hi,hj,b,a,d,e
theorem Bo7 [DecidableEq c] (f:b->d) {g:c->b}{q:c}{v:b}:upF (fun a=>f (g a)) q (f v)=fun a=>f (upF g q v a):=funext fun x=>by unfold upF;grind
theorem Bf3 (H:HK A):∃p:List Nat,p.Perm (List.range A.length)/\p.Pairwise (PS.Rr (klt A))/\(Q3 Ej (A.map tD)).bind (Av7 (A.map tD))=some ((atP [] A p).map tD):=by
 have l:=H.len
 obtain⟨p,f,o,e⟩:=A0j (ds:=A.map tD) (ks:=A.map fun h=>PyData.list (h.map Fg)) (kd:=.ll) (Ag4 A) (by simp_all) (by grind) (fun h0=>by
  cases A with
  | nil=>grind
  | cons h A=>rfl) (fun k m=>by
  obtain⟨h,c,rfl⟩:=aD.mp m
  exact⟨rfl,(Good.lst (n:=1) (w:=5800) (k:=12) (fun d r=>by obtain⟨v,g,rfl⟩:=aD.mp r;exact Aw5 ((H.vb _ c).1 v g)) (by rw[ao];exact(H.vb _ c).2)).flatB (by decide)⟩) (fun i j x y t z=>by
  obtain⟨a,q,rfl⟩:=Cw t;obtain⟨b,s,rfl⟩:=Cw z
  show Nx _ _ _=_
  unfold klt
  rw[Zi,cJ,cJ,q,s];rfl)
 rw[ao]at f;rw[Ah0 _ [] _ (Af5 f)]at e
 have ek:Q3 Ej (A.map tD)=some (A.map fun h=>PyData.list (h.map Fg)):=by
  have u:=fun h c=>(H.vb h c).2
  clear e o f H l
  induction A with
  | nil=>rfl
  | cons h A ih =>
   have e1:O4 Ej (tD h)=some (.list (h.map Fg)):=by unfold O4;rw[(Bb1 (u h (.head _)))];rfl
   show (O4 _ _).bind _=_
   simp_all
 grind
theorem Ai4 {l:List PH}{f:PH->n_} (h:l[k]?=some x):fs ((l.take (k+1)).map f)=ins (fs ((l.take k).map f)) (f x):=by
 rw[fU,h,bA];exact Mq
abbrev gev (t:Tb)(ks ns:v4)(r:Bool)(rest:o_):Ev:=some (.im t.d)::some (.im (.list (ks.map PyData.str)))::some (.im (.list (ns.map PyData.str)))::some (.im (.str (Et r)))::rest
theorem Bd6 (ht:Tb.Ok t) (hk:Cs t ks) (hn:Cs t ns) (hr:t.rows[k]?=some a) 
 (C:M3 h ((fs (((prs t ks ns).take k).map (·.1))).map tD)) (L:M3 o5 ((fs (((prs t ks ns).take k).map (·.2))).map tD)) :
 Ds (gev t ks ns r [some h,some o5,none,some (.im (.int (k:Nat))),some (.im (tD a)),u9,u10]) ((fs ((prs t ks ns).take k)).map kD) ((fs ((prs t ks ns).take k)).map fun q=>DE.d (.tuple (nmK (prs t ks ns) k q))) =
 .nx (gev t ks ns r [some (.ls false ((fs (((prs t ks ns).take (k+1)).map (·.1))).map tD)),some (.ls false ((fs (((prs t ks ns).take (k+1)).map (·.2))).map tD)),none,some (.im (.int (k:Nat))),some (.im (tD a)),some (.im (tD (pick t.cols a ks))),some (.im (tD (pick t.cols a ns)))])
  ((fs ((prs t ks ns).take (k+1))).map kD) ((fs ((prs t ks ns).take (k+1))).map fun q=>DE.d (.tuple (nmK (prs t ks ns) (k+1) q))):=by
 have n:=ht.rows a (bc hr)
 have l:(prs t ks ns)[k]?=some (pick t.cols a ks,pick t.cols a ns):=by unfold prs;rw[bD,hr];rfl
 have M:=Kr ht (ks:=ks) (ns:=ns);have D:k<(prs t ks ns).length:=(aZ.mp l).1;have E:=A8w ht hk.sub n.1 hk.len;have H:=A8w ht hn.sub n.1 hn.len;have p:VBs (pick t.cols a ks):=Mj n.2;have v:VBs (pick t.cols a ns):=Mj n.2
 have T:∀u∈fs (((prs t ks ns).take k).map (·.1)),VBs u:=fun u o=>by
  obtain⟨q,s,rfl⟩:=aD.mp (z8.mp o);exact(K7 ht (Wf s)).1
 have G:∀u∈fs (((prs t ks ns).take k).map (·.2)),VBs u:=fun u o=>by
  obtain⟨q,s,rfl⟩:=aD.mp (z8.mp o);exact(K7 ht (Wf s)).2
 have w:∀f:PH->n_,(fs (((prs t ks ns).take k).map f)).length<=100:=fun f=>au (Ib _) (by rw[ao,eO];exact au (j7 _ _) (by lia))
 rw[Ai4 (f:=(·.1)) l,Ai4 (f:=(·.2)) l,R8 l,Al4 l]
 generalize hA:fs (((prs t ks ns).take k).map (·.1))=A at *
 generalize hB:fs (((prs t ks ns).take k).map (·.2))=B at *
 have I:=hA▸w (·.1)
 have J:=hB▸w (·.2)
 unfold Ds Yc
 have K:∀e b,Bo8 (d:=6) 9 10 (Ab (cF Gw (Ab (Aa 0) (Ab (Aa 8) (Ab (Aa 1) Ah)))) (Ab (cF Gw (Ab (Aa 0) (Ab (Aa 8) (Ab (Aa 2) Ah)))) Ah)) (gev t ks ns r [some h,some o5,none,some (.im (.int (k:Nat))),some (.im (tD a)),u9,u10]) e b =
  .nx (gev t ks ns r [some h,some o5,none,some (.im (.int (k:Nat))),some (.im (tD a)),some (.im (tD (pick t.cols a ks))),some (.im (tD (pick t.cols a ns)))]) e b:=fun e b=>by
  wp_walk using Bo8,R.toB_ok,gev,E,H,Cr
 have N:=A0t (c:=gev t ks ns r [some h,some o5,none,some (.im (.int (k:Nat))),some (.im (tD a)),some (.im (tD (pick t.cols a ks))),some (.im (tD (pick t.cols a ns)))]) (i:=4) (j:=9) C rfl rfl p T I;have P:=A0t (c:=gev t ks ns r [some (.ls false ((ins A (pick t.cols a ks)).map tD)),some o5,none,some (.im (.int (k:Nat))),some (.im (tD a)),some (.im (tD (pick t.cols a ks))),some (.im (tD (pick t.cols a ns)))]) (i:=5) (j:=10) L rfl rfl v G J;rw[K]
 show (match Pg (d:=6) _ _ _ _ _ with | .nx c ks es=>_ | .bad=>_)=_
 have Q:∀e b,Pg (d:=6) (cOp Cq (Aa 4) (cOp Jc (Ek (Ab (Aa 9) Ah)) (cUn Gv (cOp (Kv true) (Aa 9) (Aa 4))))) (cgN 4) (gev t ks ns r [some h,some o5,none,some (.im (.int (k:Nat))),some (.im (tD a)),some (.im (tD (pick t.cols a ks))),some (.im (tD (pick t.cols a ns)))]) e b =
  .nx (gev t ks ns r [some (.ls false ((ins A (pick t.cols a ks)).map tD)),some o5,none,some (.im (.int (k:Nat))),some (.im (tD a)),some (.im (tD (pick t.cols a ks))),some (.im (tD (pick t.cols a ns)))]) e b:=fun e b=>by
  unfold Pg;rw[N];rfl
 rw[Q]
 show (match Pg (d:=6) _ _ _ _ _ with | .nx c ks es=>_ | .bad=>_)=_
 have S:∀e b,Pg (d:=6) (cOp Cq (Aa 5) (cOp Jc (Ek (Ab (Aa 10) Ah)) (cUn Gv (cOp (Kv true) (Aa 10) (Aa 5))))) (cgN 5) (gev t ks ns r [some (.ls false ((ins A (pick t.cols a ks)).map tD)),some o5,none,some (.im (.int (k:Nat))),some (.im (tD a)),some (.im (tD (pick t.cols a ks))),some (.im (tD (pick t.cols a ns)))]) e b =
  .nx (gev t ks ns r [some (.ls false ((ins A (pick t.cols a ks)).map tD)),some (.ls false ((ins B (pick t.cols a ns)).map tD)),none,some (.im (.int (k:Nat))),some (.im (tD a)),some (.im (tD (pick t.cols a ks))),some (.im (tD (pick t.cols a ns)))]) e b:=fun e b=>by
  unfold Pg;rw[P];rfl
 rw[S]
 show Yh (d:=6) _ _ _ _ _=_
 generalize hC:gev t ks ns r [some (.ls false ((ins A (pick t.cols a ks)).map tD)),some (.ls false ((ins B (pick t.cols a ns)).map tD)),none,some (.im (.int (k:Nat))),some (.im (tD a)),some (.im (tD (pick t.cols a ks))),some (.im (tD (pick t.cols a ns)))]=c at *
 have z:Ei (Ab (Aa 9) (Ab (Aa 10) Ah)) c=.ok (.o (.im (kD (pick t.cols a ks,pick t.cols a ns)))) c:=by subst hC;wp_walk using gev,kD
 have U:Ei (Ab (Aa 7) Ah) c=.ok (.o (.im (.tuple [.int (k:Nat)]))) c:=by subst hC;wp_walk using gev
 have V:Ei Ah c=.ok (.o (.im (.tuple []))) c:=by wp_walk using bW
 have W:Bj0 (Ei (Ab (Aa 9) (Ab (Aa 10) Ah))) (Ei Ah) ((fs ((prs t ks ns).take k)).map kD) ((fs ((prs t ks ns).take k)).map fun q=>DE.d (.tuple (nmK (prs t ks ns) k q))) c=.ok (.o (.im (.tuple (nmK (prs t ks ns) k (pick t.cols a ks,pick t.cols a ns))))) c:=by
  unfold Bj0;simp only[z,V,R.bind_ok,nrm,frz,Dl,rdP,cW,O.dat]
  rw[if_pos (Sy (q:=(pick t.cols a ks,pick t.cols a ns)) p v),A0n (g:=fun q=>.tuple (nmK (prs t ks ns) k q)) Am1]
  by_cases m:(pick t.cols a ks,pick t.cols a ns)∈fs ((prs t ks ns).take k)
  ·rw[if_pos m]
  ·rw[if_neg m,A0i fun y=>m (z8.mpr y)]
 have F:Cq (.tuple (nmK (prs t ks ns) k (pick t.cols a ks,pick t.cols a ns))) (.tuple [.int (k:Nat)])=some (.im (.tuple (nmK (prs t ks ns) k (pick t.cols a ks,pick t.cols a ns)++[.int (k:Nat)]))):=by
  show (if _ then _ else _)=_
  rw[if_pos (by have:=A1n (prs t ks ns) k (pick t.cols a ks,pick t.cols a ns);simp;lia)]
 rw[
  Am3 (q:=(pick t.cols a ks,pick t.cols a ns)) (x:=.tuple (nmK (prs t ks ns) k (pick t.cols a ks,pick t.cols a ns)++[.int (k:Nat)])) Am1 (by
  show cOp _ _ _ c=_
  unfold cOp
  simp only[W,U,R.bind_ok,nrm,Dl,rdP,cW,O.dat,F,imO]) z (Zv _) (Sy p v) (J3 (au M (by decide))) (by subst hC;rfl)]
 rw[Bo7 fun x=>DE.d _]
theorem Bj4 (ht:Tb.Ok t) (hk:Cs t ks) (hn:Cs t ns):∃hs,Srt r (fs ((prs t ks ns).map (·.2))) hs /\
 Lj [.im t.d,.im (.list (ks.map PyData.str)),.im (.list (ns.map PyData.str)),.im (.str (Et r))]=.ret (.ty (.td [.list ((fs ((prs t ks ns).map (·.1))).map tD),.list (hs.map tD)] ((fs (prs t ks ns)).map kD) ((fs (prs t ks ns)).map fun q=>PyData.tuple (nmK (prs t ks ns) (prs t ks ns).length q)))) [.im t.d,.im (.list (ks.map PyData.str)),.im (.list (ns.map PyData.str)),.im (.str (Et r))]:=by
 obtain⟨c',ks',es',e3,o4,o5,u7,u8,u9,a,rfl,h4,h5,rfl,rfl⟩:=Lb (d:=6) (g:=cgT 2 (Ao (cgN 7) (Ao (cgN 8) Dg))) (F:=Ds) (items:=Hv (t.rows.map tD)) (n:=0) (ks:=[]) (es:=[])
  (c:=gev t ks ns r [some (.im (.list [])),some (.im (.list [])),none,none,none,none,none])
  (P:=fun k c K' E'=>∃o4 o5 u7 u8 u9 a,c=gev t ks ns r [some o4,some o5,none,u7,u8,u9,a]/\M3 o4 ((fs (((prs t ks ns).take k).map (·.1))).map tD)/\M3 o5 ((fs (((prs t ks ns).take k).map (·.2))).map tD) /\
   K'=(fs ((prs t ks ns).take k)).map kD/\E'=(fs ((prs t ks ns).take k)).map fun q=>DE.d (.tuple (nmK (prs t ks ns) k q))) ⟨_,_,none,none,none,none,rfl,.inr rfl,.inr rfl,rfl,rfl⟩
  (fun k x c K' E' hx hP=>by
   rw[aM]at hP ⊢;obtain⟨o4,o5,u7,u8,u9,a,rfl,h4,h5,rfl,rfl⟩:=hP;obtain⟨row,hr,rfl⟩:=Aq2 hx
   exact⟨gev t ks ns r [some o4,some o5,none,some (.im (.int (k:Nat))),some (.im (tD row)),u9,a],_,_,_,(by wp_walk using gev),rfl,Bd6 ht hk hn hr h4 h5,_,_,_,_,_,_,rfl,.inl rfl,.inl rfl,rfl,rfl⟩)
 have hz:(Hv (t.rows.map tD)).length=t.rows.length:=by unfold Hv;rw[ao,fV,ao]
 have hz2:(prs t ks ns).length=t.rows.length:=by unfold prs;rw[ao]
 rw[hz,aM,<- hz2,dz]at e3 h4 h5
 have e4:=Va (d:=6) (fi:=Kg (cOp Aj (Aa 0) (cC (.int 1)))) (g:=cgT 2 (Ao (cgN 7) (Ao (cgN 8) Dg))) (F:=Ds) (ds:=Hv (t.rows.map tD)) (ks:=[]) (es:=[])
  (c:=gev t ks ns r [some (.im (.list [])),some (.im (.list [])),none,none,none,none,none]) (c1:=gev t ks ns r [some (.im (.list [])),some (.im (.list [])),none,none,none,none,none]) (by wp_walk using gev,Kg,Aj,Tb.d,Fl) rfl
 have e5:=O3 (d:=6) (F:=Al3 (d:=6) (Kg (cOp Aj (Aa 0) (cC (.int 1)))) (cgT 2 (Ao (cgN 7) (Ao (cgN 8) Dg))) Ds)
  (g:=Aw (cIf (Az (cOp (Be false) (Aa 3) (cC (.str "rising")))) (Bt (Aw1 Ej (Aa 5)) (cgN 5)) Br) (Bv (Zf (Ab (Aa 4) (Ab (Aa 5) (Ab (Aa 6) Ah))))))
  (c:=gev t ks ns r [some (.im (.list [])),some (.im (.list [])),none,none,none,none,none]) rfl (e4.trans e3)
 rw[cz]at e5
 have e6:(DE.dat ∘ fun q=>DE.d (.tuple (nmK (prs t ks ns) (prs t ks ns).length q)))=fun q=>PyData.tuple (nmK (prs t ks ns) (prs t ks ns).length q):=rfl
 rw[e6]at e5;have er:=Yu r
 have H:HK (fs ((prs t ks ns).map (·.2))):=⟨Zv _,fun h hh=>by
  obtain⟨q,hq,rfl⟩:=aD.mp (z8.mp hh)
  refine⟨(K7 ht hq).2,?_⟩
  obtain⟨x,_,rfl⟩:=aD.mp hq
  show (pick _ _ _).length<=12
  unfold pick
  rw[ao];exact hn.len,au (Ib _) (by rw[ao];exact au (Kr ht) (by decide))⟩
 generalize hA:(fs ((prs t ks ns).map (·.1))).map tD=A at *
 generalize hD:Th.ds ((fs (prs t ks ns)).map kD) ((fs (prs t ks ns)).map fun q=>PyData.tuple (nmK (prs t ks ns) (prs t ks ns).length q))=D at *
 have fin:∀(o5:O) (B:w5),M3 o5 B->∃c,Bv (Zf (Ab (Aa 4) (Ab (Aa 5) (Ab (Aa 6) Ah)))) (gev t ks ns r [some o4,some o5,some (.ty D),u7,u8,u9,a])=.rt (.o (.ty (.td [.list A,.list B] ((fs (prs t ks ns)).map kD) ((fs (prs t ks ns)).map fun q=>PyData.tuple (nmK (prs t ks ns) (prs t ks ns).length q))))) (gev t ks ns r c):=fun o5 B h5=>by
  subst hD
  refine⟨[some (.im (.list A)),some (.im (.list B)),some (.ty (.ds ((fs (prs t ks ns)).map kD) ((fs (prs t ks ns)).map fun q=>PyData.tuple (nmK (prs t ks ns) (prs t ks ns).length q)))),u7,u8,u9,a],?_⟩
  rcases h4 with rfl | rfl <;> rcases h5 with rfl | rfl <;> wp_walk using gev,Zf
 have e7:Bi3 4 5 (Ab (Ek Ah) (Ab (Ek Ah) Ah)) (gev t ks ns r [none,none,none,none,none,none,none])=.nx (gev t ks ns r [some (.im (.list [])),some (.im (.list [])),none,none,none,none,none]):=by wp_walk using gev
 have run:∀{hs:n8} {c:o_},Aw (cIf (Az (cOp (Be false) (Aa 3) (cC (.str "rising")))) (Bt (Aw1 Ej (Aa 5)) (cgN 5)) Br) (Bv (Zf (Ab (Aa 4) (Ab (Aa 5) (Ab (Aa 6) Ah))))) (gev t ks ns r [some o4,some o5,some (.ty D),u7,u8,u9,a])=.rt (.o (.ty (.td [.list A,.list (hs.map tD)] ((fs (prs t ks ns)).map kD) ((fs (prs t ks ns)).map fun q=>PyData.tuple (nmK (prs t ks ns) (prs t ks ns).length q))))) (gev t ks ns r c) ->
  Lj [.im t.d,.im (.list (ks.map PyData.str)),.im (.list (ns.map PyData.str)),.im (.str (Et r))]=.ret (.ty (.td [.list A,.list (hs.map tD)] ((fs (prs t ks ns)).map kD) ((fs (prs t ks ns)).map fun q=>PyData.tuple (nmK (prs t ks ns) (prs t ks ns).length q)))) [.im t.d,.im (.list (ks.map PyData.str)),.im (.list (ns.map PyData.str)),.im (.str (Et r))]:=fun {hs c} h=>by
  refine Qz (p:=.o (.ty (.td [.list A,.list (hs.map tD)] ((fs (prs t ks ns)).map kD) ((fs (prs t ks ns)).map fun q=>PyData.tuple (nmK (prs t ks ns) (prs t ks ns).length q))))) (c:=gev t ks ns r c) ?_ rfl (by wp_walk using gev)
  show Oh (gev t ks ns r [none,none,none,none,none,none,none])=_
  unfold Oh;exact(Bh e7).trans (e5.trans h)
 cases r with
 | false =>
  obtain⟨c,e8⟩:=fin o5 _ h5
  refine⟨_,rfl,run (c:=c) ((Bh (c':=gev t ks ns false [some o4,some o5,some (.ty D),u7,u8,u9,a]) ?_).trans e8)⟩
  wp_walk using gev,er
 | true =>
  obtain⟨p,p1,p2,ek⟩:=Bf3 H
  obtain⟨c,e8⟩:=fin (.ls false ((atP [] (fs ((prs t ks ns).map (·.2))) p).map tD)) _ (.inl rfl)
  refine⟨_,⟨p,p1,p2,rfl⟩,run (c:=c) ((Bh (c':=gev t ks ns true [some o4,some (.ls false ((atP [] (fs ((prs t ks ns).map (·.2))) p).map tD)),some (.ty D),u7,u8,u9,a]) ?_).trans e8)⟩
  rcases h5 with rfl | rfl <;> wp_walk using gev,er,Aw1,U.Fl,ek
theorem B0m (h:ft c=.ok true c1):cIf ft f g c=f c1:=by
 unfold cIf;rw[h];rfl
abbrev dev (t:Tb)(ks ns vs:v4)(ws:List Wy)(r:Bool)(P hs:n8)(qs:List PH)(g:PH->t6)(rest:o_):Ev:=some (.im t.d)::some (.im (.list (ks.map PyData.str)))::some (.im (.list (ns.map PyData.str)))::some (.im (.list (vs.map PyData.str)))::some (.im (.list (wD ws)))::some (.im (.str (Et r)))::some (.im (.list (P.map tD)))::some (.im (.list (hs.map tD)))::some (.ty (.ds (qs.map kD) (qs.map g)))::rest
abbrev Bb4:o8:=cLC [none,some 0,some 3] (Ar (Mf (Aa 8) (Ei (Ab (Aa 10) (Ab (Aa 12) Ah))) (Ei Ah))) (cgN 0) Av (cF Gw (Ab (Aa 1) (Ab (cOp Aj (cOp Aj (Aa 1) (cC (.int 1))) (Aa 0)) (Ab (Aa 2) Ah))))
abbrev A9c:o8:=cLC [none,none,some 13] (A3x 13 (Kg (Aa 4))) (cgT 2 (Ao (cgN 0) (Ao (cgN 1) Dg))) Av (cF Er (Ab (cLC [none,some 0] (Ar (Aa 2)) (cgN 0) Av (cOp Aj (Aa 0) (Aa 1))) (Ab (Aa 1) Ah)))
abbrev T8:Ev->SR:=Aw (Bt Bb4 (cgN 13)) (Aw (Bt (cC (.none)) (cgN 14)) (Aw (cIf (Az (cOp (Be true) (Aa 13) (Ek Ah))) (Bt (cUn Bd A9c) (cgN 14)) Br) (Jl (Us (Aa 11) (Aa 14)))))
abbrev A1u:Ev->SR:=Aw (Bt (Ek Ah) (cgN 11)) (Aw (K5 (Ar (Aa 7)) (cgN 12) T8) (Jl (Us (Aa 9) (Ei (Ab (Aa 10) (Ab (cUn Bd (Aa 11)) Ah))))))
section
variable {t:Tb}{ks ns vs:v4}{ws:List Wy}{r:Bool}{P hs:n8}{qs:List PH}{g:PH->t6}
theorem A8i (ht:Tb.Ok t)(hw:Cs t vs){is:List Nat}(hi:∀i∈is,i<t.rows.length)(hl:is.length<=24) 
 (hg:Mf (Aa 8) (Ei (Ab (Aa 10) (Ab (Aa 12) Ah))) (Ei Ah) (dev t ks ns vs ws r P hs qs g [s9,s10,s11,s12,s13,s14])=.ok (.o (.im (.tuple (is.map fun i=>PyData.int (i:Nat))))) (dev t ks ns vs ws r P hs qs g [s9,s10,s11,s12,s13,s14])) :
 Bb4 (dev t ks ns vs ws r P hs qs g [s9,s10,s11,s12,s13,s14])=.ok (.o (.ls false ((is.map fun i=>pick t.cols (t.rows.getD i []) vs).map tD))) (dev t ks ns vs ws r P hs qs g [s9,s10,s11,s12,s13,s14]):=by
 obtain⟨j,e,u,rfl⟩:=Cj (g:=cgN 0) (ft:=Av) (fe:=cF Gw (Ab (Aa 1) (Ab (cOp Aj (cOp Aj (Aa 1) (cC (.int 1))) (Aa 0)) (Ab (Aa 2) Ah)))) (I:=fun c=>∃u,c=[u,some (.im t.d),some (.im (.list (vs.map PyData.str)))]) (f:=fun i:Nat=>PyData.int (i:Nat)) (G:=fun i=>tD (pick t.cols (t.rows.getD i []) vs)) (xs:=is) (acc:=[]) (c:=[none,some (.im t.d),some (.im (.list (vs.map PyData.str)))]) ⟨none,rfl⟩
  (fun i c d h=>by
   obtain⟨u,rfl⟩:=h;have a:t.rows[i]?=some (t.rows.getD i []):=A1s (hi i d);have k:=ht.rows _ (bc a);have l:Aj t.d (.int 1)=some (.im (.tuple (t.rows.map tD))):=rfl
   have z:Aj (.tuple (t.rows.map tD)) (.int (i:Nat))=some (.im (tD (t.rows.getD i []))):=by
    show (atI (t.rows.map tD) (i:Nat)).map O.im=_
    rw[Gz (by rw[bD,a];rfl)];rfl
   have b:=A8w (r:=t.rows.getD i []) ht hw.sub k.1 hw.len
   refine⟨[some (.im (.int (i:Nat))),some (.im t.d),some (.im (.list (vs.map PyData.str)))],?_,_,rfl⟩
   generalize t.rows.getD i _=row at *
   wp_walk using l,z,b)
 refine Dq (ds:=is.map fun i=>PyData.int (i:Nat)) (c1:=dev t _ _ _ _ r P _ _ g _) (cI:=[u,some (.im t.d),some (.im (.list (vs.map PyData.str)))]) ?_ (by grind) ?_ rfl
 ·unfold Ar
  rw[hg];rfl
 ·rw[cz];exact e
theorem Bp1 (h:Tg cs ws) :
 A9c (dev t ks ns vs ws r P hs qs g [s9,s10,s11,s12,some (.ls false (cs.map tD)),s14])=.ok (.o (.ls false ((A5t cs ws).map Vl.d))) (dev t ks ns vs ws r P hs qs g [s9,s10,s11,s12,some (.im (.list (cs.map tD))),s14]):=by
 obtain⟨b,e,u,v,rfl⟩:=Cj (g:=cgT 2 (Ao (cgN 0) (Ao (cgN 1) Dg))) (ft:=Av) (fe:=cF Er (Ab (cLC [none,some 0] (Ar (Aa 2)) (cgN 0) Av (cOp Aj (Aa 0) (Aa 1))) (Ab (Aa 1) Ah))) (I:=fun c=>∃u v,c=[u,v,some (.im (.list (cs.map tD)))]) (f:=fun k:Nat=>.tuple [.int (k:Nat),.str (ws.getD k .fst).s]) (G:=fun i=>(Ks (ws.getD i .fst) (cs.map fun c=>c.getD i .non)).d) (xs:=List.range ws.length) (acc:=[]) (c:=[none,none,some (.im (.list (cs.map tD)))]) ⟨none,none,rfl⟩
  (fun i c d j=>by
   obtain⟨u,v,rfl⟩:=j;have m:=cX.mp d
   obtain⟨u,e⟩:=Bt8 (cs:=cs) (i:=i) fun c n=>by rw[(h.row c n).1];grind
   have o:=Bg3 (h.pt m)
   have a:cLC [none,some 0] (Ar (Aa 2)) (cgN 0) Av (cOp Aj (Aa 0) (Aa 1)) [some (.im (.int (i:Nat))),some (.im (.str (ws.getD i .fst).s)),some (.im (.list (cs.map tD)))]=.ok (.o (.ls false ((cs.map fun c=>c.getD i .non).map Vl.d))) [some (.im (.int (i:Nat))),some (.im (.str (ws.getD i .fst).s)),some (.im (.list (cs.map tD)))] :=
    Dq (ds:=cs.map tD) (c1:=[some (.im (.int (i:Nat))),some (.im (.str (ws.getD i .fst).s)),some (.im (.list (cs.map tD)))]) (by trivial) (by rw[ao];exact au h.len (by decide)) e rfl
   refine⟨[some (.im (.int i)),some (.im (.str (ws.getD i .fst).s)),some _],?_,_,_,rfl⟩
   wp_walk using a,o)
 have l:=h.wl
 refine Dq (cI:=[u,v,some (.im (.list (cs.map tD)))]) (by rfl) (by rw[Ac3,ao,fV];lia) ?_ rfl
 rw[Ac3]
 refine e.trans ?_
 unfold A5t;rw[cz];rfl
theorem A0e (h:∀c∈cs,VBs c/\c.length<=12) (hl:cs.length<=24):Be true (.list (cs.map tD)) (.list [])=some (.im (.bool (!decide (cs=[])))):=by
 have g:Good _ 2 600000:=(Good.lst (k:=24) (fun d e=>by obtain⟨c,a,rfl⟩:=aD.mp e;exact Ke (h c a).1 (h c a).2) (by grind)).mono (by decide) (by decide)
 have b:Good (.list []) 2 600000:=⟨rfl,rfl,rfl,by decide,by decide⟩
 rw[Tp g b (by decide) (by decide)]
 cases cs with
 | nil=>rfl
 | cons c r=>rfl
end
theorem B2a (ht:Tb.Ok t) (cv:Cv t ks ns vs) (so:So t vs b):∃a,Srt r (fs ((prs t ks ns).map (·.2))) a /\
 Nu [.im t.d,.im (.list (ks.map PyData.str)),.im (.list (ns.map PyData.str)),.im (.list (vs.map PyData.str)),.im (.list (wD b)),.im (.str (Et r))]=.ret (.im (fbD t (prs t ks ns) ks ns vs b a)) [.im t.d,.im (.list (ks.map PyData.str)),.im (.list (ns.map PyData.str)),.im (.list (vs.map PyData.str)),.im (.list (wD b)),.im (.str (Et r))]:=by
 obtain⟨hk,hn,hw⟩:=cv.cs ht;obtain⟨a,Z,e1⟩:=Bj4 ht (r:=r) hk hn;obtain⟨s1,s2⟩:=Z.sub;have Q:=Kr ht (ks:=ks) (ns:=ns)
 have hz:(prs t ks ns).length=t.rows.length:=by unfold prs;rw[ao]
 have hv:∀q∈fs (prs t ks ns),VBs q.1/\VBs q.2:=fun q C=>K7 ht (z8.mp C)
 have tg:=fun {q:PH} (C:q∈prs t ks ns)=>A8z ht hw so C
 have il:∀q,∀i∈Hc (prs t ks ns) q,i<t.rows.length:=fun q i hi=>by rw[<- hz];exact Ab1 hi
 have nl:∀q,(Hc (prs t ks ns) q).length<=24:=fun q=>au (Vh _ _) Q
 have n0:∀q,q∉prs t ks ns->Hc (prs t ks ns) q=[]:=fun q C=>by
  refine List.filter_eq_nil_iff.mpr fun i _ z=>C ?_
  exact bc (aW z)
 have l2:(fs ((prs t ks ns).map (·.1))).length<=24:=au (Ib _) (by rw[ao];exact Q)
 have l3:a.length<=24:=by rw[s2];exact au (Ib _) (by rw[ao];exact Q)
 have V:∀p∈fs ((prs t ks ns).map (·.1)),VBs p:=fun p V=>by
  obtain⟨q,C,rfl⟩:=aD.mp (z8.mp V);exact(K7 ht C).1
 have M:∀h∈a,VBs h:=fun h M=>by
  obtain⟨q,C,rfl⟩:=aD.mp (z8.mp (s1 h M));exact(K7 ht C).2
 refine⟨a,Z,?_⟩
 unfold fbD
 generalize prs t ks ns=l at *
 generalize G:fs (l.map (·.1))=P at *
 have hg:(fun q=>PyData.tuple (nmK l l.length q))=fun q=>PyData.tuple ((Hc l q).map fun i=>PyData.int (i:Nat)):=rfl
 rw[hg]at e1
 generalize hG:(fun q=>PyData.tuple ((Hc l q).map fun i=>PyData.int (i:Nat)))=g at *
 have I:∀(p h:n_) (A:w5) (u y v s:n6),VBs p->VBs h->A.length<16000000->∃f j,My (cgN 12) T8 (tD h) (dev t ks ns vs b r P a (fs l) g [u,some (.im (tD p)),some (.ls false A),y,v,s])=.nx (dev t ks ns vs b r P a (fs l) g [u,some (.im (tD p)),some (.ls false (A++[if (p,h)∈fs l then Bw t l vs b (p,h) else .none])),some (.im (tD h)),f,j]):=fun p h A u y v s S vh L=>by
  have eg:=Ba9 (x:=.tuple []) (g:=g) hv S vh (c:=dev t ks ns vs b r P a (fs l) g [u,some (.im (tD p)),some (.ls false A),some (.im (tD h)),v,s]) (fa:=Aa 8) (fw:=Ei (Ab (Aa 10) (Ab (Aa 12) Ah))) (fx:=Ei Ah) (by wp_walk using dev) (by wp_walk using dev,kD) (by wp_walk using bW)
  have en:(if (p,h)∈fs l then g (p,h) else .tuple [])=.tuple ((Hc l (p,h)).map fun i=>PyData.int (i:Nat)):=by
   by_cases m:(p,h)∈fs l
   ·rw[if_pos m,<- hG]
   ·rw[if_neg m,n0 _ fun z=>m (z8.mpr z)];rfl
  rw[en]at eg;have sl:=A8i ht hw (il (p,h)) (nl (p,h)) eg;have el:A.length<16000000:=L
  by_cases m:(p,h)∈fs l
  ·have T:=tg (z8.mp m)
   have tl:=Bp1 (t:=t) (ks:=ks) (ns:=ns) (vs:=vs) (r:=r) (P:=P) (hs:=a) (qs:=fs l) (g:=g) (s9:=u) (s10:=some (.im (tD p))) (s11:=some (.ls false A)) (s12:=some (.im (tD h))) (s14:=some (.im .none)) T
   have H:=A0e (fun c K=>⟨(T.row c K).2,by rw[(T.row c K).1];exact T.wl⟩) T.len
   rw[aR T.ne]at H;rw[if_pos m]
   refine⟨some (.im (.list ((Dh t l vs (p,h)).map tD))),some (.im (Bw t l vs b (p,h))),?_⟩
   show T8 (dev t ks ns vs b r P a (fs l) g [u,some (.im (tD p)),some (.ls false A),some (.im (tD h)),v,s])=_
   unfold T8
   refine (Bh (c':=dev t ks ns vs b r P a (fs l) g [u,some (.im (tD p)),some (.ls false A),some (.im (tD h)),some (.ls false ((Dh t l vs (p,h)).map tD)),s]) (Rp sl rfl)).trans ?_
   refine (Bh (c':=dev t ks ns vs b r P a (fs l) g [u,some (.im (tD p)),some (.ls false A),some (.im (tD h)),some (.ls false ((Dh t l vs (p,h)).map tD)),some (.im .none)]) (by wp_walk using dev)).trans ?_
   have tt:cUn Bd A9c (dev t ks ns vs b r P a (fs l) g [u,some (.im (tD p)),some (.ls false A),some (.im (tD h)),some (.ls false ((Dh t l vs (p,h)).map tD)),some (.im .none)])=.ok (.o (.im (Bw t l vs b (p,h)))) (dev t ks ns vs b r P a (fs l) g [u,some (.im (tD p)),some (.ls false A),some (.im (tD h)),some (.im (.list ((Dh t l vs (p,h)).map tD))),some (.im .none)]):=by
    unfold cUn;rw[tl];rfl
   refine (Bh (c':=dev t ks ns vs b r P a (fs l) g [u,some (.im (tD p)),some (.ls false A),some (.im (tD h)),some (.im (.list ((Dh t l vs (p,h)).map tD))),some (.im (Bw t l vs b (p,h)))]) ?_).trans ?_
   ·have tc:Az (cOp (Be true) (Aa 13) (Ek Ah)) (dev t ks ns vs b r P a (fs l) g [u,some (.im (tD p)),some (.ls false A),some (.im (tD h)),some (.ls false ((Dh t l vs (p,h)).map tD)),some (.im .none)])=.ok true (dev t ks ns vs b r P a (fs l) g [u,some (.im (tD p)),some (.ls false A),some (.im (tD h)),some (.ls false ((Dh t l vs (p,h)).map tD)),some (.im .none)]):=by wp_walk using dev,H
    exact(B0m tc).trans (Rp tt rfl)
   ·wp_walk using dev,el
  ·have X:Dh t l vs (p,h)=[]:=by unfold Dh;rw[n0 _ fun z=>m (z8.mpr z)];rfl
   have H:=A0e (cs:=Dh t l vs (p,h)) (fun c K=>by rw[X]at K;cases K) (by rw[X];decide)
   rw[aK X]at H;rw[if_neg m]
   refine⟨some (.ls false ((Dh t l vs (p,h)).map tD)),some (.im .none),?_⟩
   show T8 (dev t ks ns vs b r P a (fs l) g [u,some (.im (tD p)),some (.ls false A),some (.im (tD h)),v,s])=_
   unfold T8
   refine (Bh (c':=dev t ks ns vs b r P a (fs l) g [u,some (.im (tD p)),some (.ls false A),some (.im (tD h)),some (.ls false ((Dh t l vs (p,h)).map tD)),s]) (Rp sl rfl)).trans ?_
   wp_walk using dev,H,el
 have W:∀(p:n_) (u y v s:n6),VBs p->∃o f j,forL (cgN 12) T8 (a.map tD) (dev t ks ns vs b r P a (fs l) g [u,some (.im (tD p)),some (.ls false []),y,v,s])=.nx (dev t ks ns vs b r P a (fs l) g [u,some (.im (tD p)),some (.ls false (a.map fun h=>if (p,h)∈fs l then Bw t l vs b (p,h) else .none)),o,f,j]):=fun p u y v s S=>by
  obtain⟨D,e,o,f,j,rfl⟩:=Fz (g:=cgN 12) (body:=T8) (items:=a.map tD) (n:=0) (c:=dev t ks ns vs b r P a (fs l) g [u,some (.im (tD p)),some (.ls false []),y,v,s])
   (P:=fun k c=>∃o f j,c=dev t ks ns vs b r P a (fs l) g [u,some (.im (tD p)),some (.ls false ((a.take k).map fun h=>if (p,h)∈fs l then Bw t l vs b (p,h) else .none)),o,f,j]) ⟨y,v,s,rfl⟩ (fun k d c N G=>by
    rw[aM]at G ⊢;obtain⟨o,f,j,rfl⟩:=G;obtain⟨h,hm,rfl⟩:=Cw N
    obtain⟨E,F,e⟩:=I p h ((a.take k).map fun h=>if (p,h)∈fs l then Bw t l vs b (p,h) else .none) u o f j S (M h (bc hm)) (by rw[ao,eO];lia)
    refine⟨_,.inl e,some (.im (tD h)),E,F,?_⟩
    rw[fU,hm,bA];rfl)
  rw[aM,ao,dz]at e;exact⟨o,f,j,e⟩
 have J:∃B w o f j,forL (cgN 10) A1u (P.map tD) (dev t ks ns vs b r P a (fs l) g [some (.ls false []),none,none,none,none,none])=.nx (dev t ks ns vs b r P a (fs l) g [some (.ls false (P.map fun p=>.tuple [tD p,Ka (fs l) (Bw t l vs b) .none a p])),B,w,o,f,j]):=by
  obtain⟨D,e,B,w,o,f,j,rfl⟩:=Fz (g:=cgN 10) (body:=A1u) (items:=P.map tD) (n:=0) (c:=dev t ks ns vs b r P a (fs l) g [some (.ls false []),none,none,none,none,none])
   (P:=fun k c=>∃B w o f j,c=dev t ks ns vs b r P a (fs l) g [some (.ls false ((P.take k).map fun p=>.tuple [tD p,Ka (fs l) (Bw t l vs b) .none a p])),B,w,o,f,j]) ⟨none,none,none,none,none,rfl⟩ (fun k d c N G=>by
    rw[aM]at G ⊢;obtain⟨B,w,o,f,j,rfl⟩:=G;obtain⟨p,pm,rfl⟩:=Cw N
    generalize L:((P.take k).map fun p=>PyData.tuple [tD p,Ka (fs l) (Bw t l vs b) .none a p])=A at *
    have la:A.length<16000000:=by rw[<- L,ao,eO];lia
    obtain⟨Y,E,F,e⟩:=W p (some (.ls false A)) o f j (V p (bc pm))
    have ea:((P.take (k+1)).map fun p=>PyData.tuple [tD p,Ka (fs l) (Bw t l vs b) .none a p])=A++[.tuple [tD p,Ka (fs l) (Bw t l vs b) .none a p]]:=by
     rw[fU,pm,bA,L];rfl
    rw[ea]
    refine⟨dev t ks ns vs b r P a (fs l) g [some (.ls false (A++[.tuple [tD p,Ka (fs l) (Bw t l vs b) .none a p]])),some (.im (tD p)),some (.ls false (a.map fun h=>if (p,h)∈fs l then Bw t l vs b (p,h) else .none)),Y,E,F],.inl ?_,_,_,_,_,_,rfl⟩
    show A1u (dev t ks ns vs b r P a (fs l) g [some (.ls false A),some (.im (tD p)),w,o,f,j])=_
    unfold A1u
    refine (Bh (c':=dev t ks ns vs b r P a (fs l) g [some (.ls false A),some (.im (tD p)),some (.ls false []),o,f,j]) (by wp_walk using dev)).trans ?_
    refine (Bh ((Hl (ds:=a.map tD) (c1:=dev t ks ns vs b r P a (fs l) g [some (.ls false A),some (.im (tD p)),some (.ls false []),o,f,j]) (by wp_walk using dev,Ar,U.Fl)).trans e)).trans ?_
    unfold Ka
    generalize (a.map fun h=>if (p,h)∈fs l then Bw t l vs b (p,h) else .none)=R
    wp_walk using dev,Bd,la)
  rw[aM,ao,dz]at e;exact⟨B,w,o,f,j,e⟩
 obtain⟨B,w,o,f,j,er⟩:=J
 refine Qz (p:=.o (.im (.tuple [nD ks,nD ns,nD vs,.tuple (a.map tD),.tuple (P.map fun p=>.tuple [tD p,Ka (fs l) (Bw t l vs b) .none a p])]))) (c:=dev t ks ns vs b r P a (fs l) g [some (.ls false (P.map fun p=>.tuple [tD p,Ka (fs l) (Bw t l vs b) .none a p])),B,w,o,f,j]) ?_ rfl (by wp_walk using dev)
 show Q4 [some (.im t.d),some (.im (.list (ks.map PyData.str))),some (.im (.list (ns.map PyData.str))),some (.im (.list (vs.map PyData.str))),some (.im (.list (wD b))),some (.im (.str (Et r))),none,none,none,none,none,none,none,none,none]=_
 unfold Q4
 refine (Bh (c':=dev t ks ns vs b r P a (fs l) g [none,none,none,none,none,none]) (by wp_walk using e1,Bj7)).trans ?_
 refine (Bh (c':=dev t ks ns vs b r P a (fs l) g [some (.ls false []),none,none,none,none,none]) (by wp_walk using dev)).trans ?_
 refine (Bh ((Hl (by wp_walk using dev,Ar,U.Fl)).trans er)).trans ?_
 wp_walk using dev,nD,Bd
theorem A8d {b:Nat}:cutD ds none (some (b:Int))=ds.take b:=by
 unfold cutD;rw[HT.Ao7,HT.A2b,iy]
 simp_all
theorem Aq4 {a:Nat}:cutD ds (some (a:Int)) none=ds.drop a:=by
 unfold cutD;rw[HT.Ao7,HT.A2b]
 rcases Nat.le_total a _ with q | q
 ·rw[Nat.min_eq_left q,List.take_of_length_le (by grind)]
 simp_all
abbrev B4l:o8:=Pr (Aa 1) (cF An (Ab (Aa 2) (Ab (Ht (Aa 1)) Ah)))
theorem An9 (hb:Bx n ds) (hn:n<2 ^ 38) (A:cols.length<=12) :
 ∃(os:v4) (f:w5),os.Perm cols/\Bx (n+12) f/\∀s p u q:n6,cLC [none,some 2,some 0] (Ar (Aa 1)) (cgN 0) Av B4l [some (.ls true ds),some (.im (.tuple (cols.map PyData.str))),some (.ls false (cols.map PyData.str)),s,p,u,q]=.ok (.o (.ls false (os.map PyData.str))) [some (.ls true f),some (.im (.tuple (cols.map PyData.str))),some (.ls false []),s,p,u,q]:=by
 have j:=Jq (g:=cgN 0) (ft:=Av) (fe:=B4l) (items:=cols.map PyData.str) (acc:=[]) (n:=0) (c:=[none,some (.ls true (cols.map PyData.str)),some (.ls true ds)])
  (P:=fun k b c=>∃a f t h,c=[t,some (.ls true (a.map PyData.str)),some (.ls true f)]/\Bx (n+k) f/\b=h.map PyData.str/\(h++a).Perm cols/\h.length=k)
  ⟨cols,ds,none,[],rfl,hb,rfl,List.Perm.refl _,rfl⟩ (fun k d b c F x=>by
   rw[aM]at x ⊢;obtain⟨a,f,t,h,rfl,o,rfl,i,l⟩:=x;obtain⟨z,E,rfl⟩:=Cw F;have hk:k<cols.length:=(aZ.mp E).1
   have ll:a.length+k=cols.length:=by have:=i.length_eq;rw[aX,l]at this;lia
   obtain⟨r,w,I,B,C,D⟩:=Cu (m:=(a.length:Int)) o (by lia) (by lia) (by lia)
   have y:r.toNat<a.length:=by lia
   have G:(a.map PyData.str)[r.toNat]?=some (.str a[r.toNat]):=by simp[y]
   have v:ixN a.length r=some r.toNat:=Z7 B C
   refine⟨some (.str a[r.toNat]),[some (.im (.str z)),some (.ls true ((a.eraseIdx r.toNat).map PyData.str)),some (.ls true w)],?_,a.eraseIdx r.toNat,w,_,h++[a[r.toNat]],rfl,I.mono (by lia),by simp,?_,by simp[l]⟩
   ·wp_walk using G9,ao,D,v,G,S9,show a.length<=16000000 by lia
   ·rw[fC]
    exact(List.Perm.append_left h (Qg a y)).trans i)
 obtain⟨b,cI,e,a,f,t,h,rfl,o,rfl,i,l⟩:=j;rw[aM,ao]at o l
 have H:a=[]:=by
  have:=i.length_eq;rw[aX,l]at this
  exact List.length_eq_zero_iff.mp (by lia)
 subst H;rw[cN]at i
 refine⟨h,f,i,o.mono (by lia),fun s p u q=>?_⟩
 exact Dq (ds:=cols.map PyData.str) (c1:=[some (.ls true ds),some (.im (.tuple (cols.map PyData.str))),some (.ls false _),s,p,u,q]) (by wp_walk using Ar,Fl) (by rw[ao];lia) e (by wp_walk using bW)
theorem A3i (hb:Bx n ds) (hn:n<2 ^ 37) (h2:2<=cols.length) (h12:cols.length<=12) :
 ∃(v a b:v4) (d1:w5),(v++(a++b)).Perm cols/\1<=v.length/\Bx (n+15) d1/\Ip [.ls true ds,.im (.tuple (cols.map PyData.str))]=.ret (.im (.tuple [.list (a.map PyData.str),.list (b.map PyData.str),.list (v.map PyData.str)])) [.ls true d1,.im (.tuple (cols.map PyData.str))]:=by
 obtain⟨os,d1,pm,b1,e1⟩:=An9 hb (by lia) h12
 have ol:=pm.length_eq
 obtain⟨q,d2,b2,q0,q1,e2⟩:=Cu (m:=8) b1 (by lia) (by decide) (by decide)
 have hw:∃w:Int,(w=3\/w=9)/\∃k:Int,Gv (.bool (decide (q=0)))=some (.im (.int k))/\Aj (.list [.int 3,.int 9]) (.int k)=some (.im (.int w)):=by
  by_cases c:q=0
  ·rw[aK c];exact⟨9,.inr rfl,1,rfl,rfl⟩
  ·rw[aR c];exact⟨3,.inl rfl,0,rfl,rfl⟩
 obtain⟨w,hw,k,ek,ew⟩:=hw
 have eq:Be false (.int q) (.int 0)=some (.im (.bool (decide (q=0)))):=by rw[Ak2];rfl
 obtain⟨m,hm⟩:∃m:Int,m=if (os.length:Int)<w then (os.length:Int) else w:=⟨_,rfl⟩
 have m0:0<m/\m<=os.length:=by rcases hw with rfl | rfl <;> (rw[hm];split <;> lia)
 obtain⟨f,d3,b3,f0,f1,e3⟩:=Cu (m:=m) b2 (by lia) m0.1 (by lia)
 obtain⟨f,rfl⟩:=gG f0
 have c1:cutD (os.map PyData.str) (some (1+(f:Int))) none=(os.drop (1+f)).map PyData.str:=by rw[show (1:Int)+(f:Int)=((1+f:Nat):Int) by lia,Aq4,List.map_drop]
 have c2:cutD (os.map PyData.str) none (some (1+(f:Int)))=(os.take (1+f)).map PyData.str:=by rw[show (1:Int)+(f:Int)=((1+f:Nat):Int) by lia,A8d,List.map_take]
 generalize hR:os.drop (1+f)=rs at *
 have rl:rs.length<=12:=by rw[<- hR,iV];lia
 obtain⟨g,d4,b4,g0,g1,e4⟩:=Cu (m:=(rs.length:Int)+1) b3 (by lia) (by lia) (by lia)
 obtain⟨g,rfl⟩:=gG g0
 have c3:cutD (rs.map PyData.str) (some (g:Int)) none=(rs.drop g).map PyData.str:=by rw[Aq4,List.map_drop]
 have c4:cutD (rs.map PyData.str) none (some (g:Int))=(rs.take g).map PyData.str:=by rw[A8d,List.map_take]
 refine⟨os.take (1+f),rs.take g,rs.drop g,d4,?_,by rw[eO];lia,b4.mono (by lia),?_⟩
 ·rw[List.take_append_drop,<- hR,List.take_append_drop];exact pm
 have p1:(os.map PyData.str).length=os.length:=ao _;have p2:(rs.map PyData.str).length=rs.length:=ao _
 have p3:os.length<=16000000:=by lia
 have p4:rs.length<=16000000:=by lia
 have em:Av8 (.int w) (.int (os.length:Nat))=some (.im (.int m)):=by rw[hm];rfl
 wp_walk using Ip,M7,Hq,e1,e2,eq,ek,ew,G9,p1,p2,p3,p4,em,e3,Cq,Xz,c1,c2,e4,c3,c4
theorem Az5:∀x∈names12,VB (.str x):=fun x hx=>cG.mp (show names12.all (fun x=>vb (.str x))=true by decide +kernel) x hx
theorem A1b (ht:Tb.Ok t):Good t.d 3 1300000:=by
 have h12:=ht.clen;have h24:=ht.rlen
 have g1:Good (.tuple (t.cols.map PyData.str)) 2 600000:=by
  have h:Good (tD (t.cols.map Vl.str)) 1 (1923*12+4):=Ke (fun v hv=>by
   obtain⟨x,hx,rfl⟩:=aD.mp hv
   exact Az5 x (ht.nms.sub x hx)) (by rw[ao];exact h12)
  have e:tD (t.cols.map Vl.str)=.tuple (t.cols.map PyData.str):=by show PyData.tuple ((t.cols.map Vl.str).map Vl.d)=_;rw[cz];rfl
  rw[e]at h
  exact h.mono (by decide) (by decide)
 have g2:Good (.tuple (t.rows.map tD)) 2 600000:=by
  refine (Good.tup (n:=1) (w:=1923*12+4) (k:=24) (fun d hd=>?_) (by rw[ao];exact h24)).mono (by decide) (by decide)
  obtain⟨r,hr,rfl⟩:=aD.mp hd;have h:=ht.rows r hr;have hl:=h.1
  exact Ke h.2 (by lia)
 have:Good (.tuple [.tuple (t.cols.map PyData.str),.tuple (t.rows.map tD)]) 3 ((600000+2)*2+4):=Good.tup (fun d hd=>by
  simp only[aB,bf,bh]at hd
  rcases hd with rfl | rfl
  ·exact g1
  ·exact g2) (by simp)
 exact this.mono (by decide) (by decide)
noncomputable abbrev lD (p:v4):t6:=.list (p.map PyData.str)
abbrev A8e:o8:=cOp Aj (Ek (Ab (cUn Hq (Aa 0)) (Ab (cUn Bd (Aa 0)) Ah))) (cF An (Ab (Aa 1) (Ab (cC (.int 2)) Ah)))
theorem Vc (hb:Bx n ds) (hn:n<2 ^ 38) (hl:l.length<=100):∃b d1,Bx (n+1) d1/\O8 (cgN 0) Av A8e (.list l) [u,some (.ls true ds)]=.ok (some (sqD b l)) [some (.im (.list l)),some (.ls true d1)]:=by
 obtain⟨r,d1,b1,r0,r1,e1⟩:=Cu (m:=2) hb (by lia) (by decide) (by decide)
 have:∃b,Aj (.list [.list l,.tuple l]) (.int r)=some (.im (sqD b l)):=by
  rcases (show r=0\/r=1 by lia) with rfl | rfl
  ·exact⟨false,rfl⟩
  ·exact⟨true,rfl⟩
 obtain⟨b,e2⟩:=this
 refine⟨b,d1,b1,?_⟩
 wp_walk using Hq,Bd,e1,e2
noncomputable def K9:List Wy:=[.fst,.lst,.sum,.cnt,.lea,.gre,.unl]
abbrev cev (d0:O)(t:Tb)(a b v:v4)(rest:o_):Ev:=some d0::some (.im t.d)::some (.im (lD a))::some (.im (lD b))::some (.im (lD v))::rest
abbrev B1j:o8:=cOp Aj (Aa 1) (cF An (Ab (Aa 2) (Ab (cC (.int 7)) Ah)))
theorem Ax5 (hb:Bx n ds) (hn:n<2 ^ 37) (hl:v.length<=12):∃(ws:List Wy) (d1:w5),ws.length=v.length/\Bx (n+12) d1 /\
 cLC [none,some 5,some 0] (Ar (Aa 4)) (cgN 0) Av B1j (cev (.ls true ds) t a b v (some (.ls false (wD K9))::r))=.ok (.o (.ls false (wD ws))) (cev (.ls true d1) t a b v (some (.ls false (wD K9))::r)):=by
 obtain⟨acc,cI,e,d1,u,ws,rfl,b1,rfl,hw⟩:=Jq (g:=cgN 0) (ft:=Av) (fe:=B1j) (items:=v.map PyData.str) (acc:=[]) (n:=0) (c:=[none,some (.ls true (wD K9)),some (.ls true ds)])
  (P:=fun k acc c=>∃d1 u ws,c=[u,some (.ls true (wD K9)),some (.ls true d1)]/\Bx (n+k) d1/\acc=wD ws/\ws.length=k)
  ⟨ds,none,[],rfl,hb,rfl,rfl⟩ (fun k d acc c hd hP=>by
   rw[aM]at hP ⊢;obtain⟨d1,u,ws,rfl,b1,rfl,hw⟩:=hP;have hk:k<(v.map PyData.str).length:=(aZ.mp hd).1;rw[ao]at hk
   obtain⟨q,d2,b2,q0,q1,e2⟩:=Cu (m:=7) b1 (by lia) (by decide) (by decide)
   obtain⟨x,hx,hm,_⟩:=Pj (l:=wD K9) (r:=q) q0 q1;obtain⟨w,_,rfl⟩:=aD.mp hm
   have z:Aj (.list (wD K9)) (.int q)=some (.im (.str w.s)):=by
    show (atI (wD K9) q).map O.im=_
    rw[hx];rfl
   refine⟨some (.str w.s),[some (.im d),some (.ls true (wD K9)),some (.ls true d2)],?_,d2,_,ws++[w],rfl,b2.mono (by lia),?_,by rw[aX,hw];rfl⟩
   ·generalize wD K9=L at *
    wp_walk using B1j,e2,z
   ·show _=(ws++[w]).map _
    rw[bA];rfl)
 rw[aM,ao]at b1 hw
 refine⟨ws,d1,hw,b1.mono (by lia),?_⟩
 refine Dq (ds:=v.map PyData.str) (c1:=cev (.ls true ds) t a b v (some (.ls false (wD K9))::r)) (cI:=[u,some (.ls true (wD K9)),some (.ls true d1)]) (by wp_walk using cev,lD,Ar,U.Fl) (by rw[ao];lia) e rfl
theorem B1r (w:Wy):Be false (.str w.s) (.str "sum")=some (.im (.bool (decide (w=.sum)))):=eqW w .sum
abbrev Ui:Ev->SR:=Aw (Bt (cMt J1 Ik (cOp Aj (Aa 1) (cC (.int 0))) (Aa 10)) (cgN 12))
 (cIf (A3f (Az (cOp (Be false) (Aa 11) (cC (.str "sum")))) (Az (cUn (Dw .str) (cOp Aj (Aa 8) (Aa 12))))) (Bt (cOp Aj (Ek (Ab (cC (.none)) (Ab (cF Fq (Ab (Aa 0) Ah)) Ah))) (cUn Gv (cOp A3d (cF An (Ab (Aa 0) (Ab (cC (.int 4)) Ah))) (cC (.int 0))))) (Za (Aa 9) (Aa 12))) Br)
structure Ch (row ch:n_):Prop where
 len:ch.length=row.length
 vb:VBs ch
 num:∀p,isS (row.getD p .non)=false->isS (ch.getD p .non)=false
theorem Ch.set {row ch:n_}{j:Nat}{x:Vl}(h:Ch row ch)(hx:VB x)(hs:isS x=false):Ch row (ch.set j x) where
 len:=by rw[bV];exact h.len
 vb:=fun v hv=>(List.mem_or_eq_of_mem_set hv).elim (h.vb v) fun e=>e▸hx
 num:=fun p hp=>by
  rw[cJ,List.getElem?_set]
  split
  ·split
   ·exact hs
   ·rfl
  ·rw[<- cJ];exact h.num p hp
theorem Bd0 (ch:n_)(j:Nat)(x:Vl):(ch.map Vl.d).set j x.d=(ch.set j x).map Vl.d:=by simp_all
section
variable {t:Tb}{a b v:v4}{ws:List Wy}
theorem A7k {w:Wy} (ht:Tb.Ok t) (hr:d.length=t.cols.length) (hx:x∈t.cols) (hb:Bx n ds) (hn:n<2 ^ 37) (hc:Ch d ch) :
 ∃
  ch' z s12',Ch d ch'/\(w=.sum->isS (ch'.getD (fnd x t.cols) .non)=false)/\(∀p,isS (ch.getD p .non)=false->isS (ch'.getD p .non)=false)/\Bx (n+3) z /\
  My (cgT 2 (Ao (cgN 10) (Ao (cgN 11) Dg))) Ui (.tuple [.str x,.str w.s]) (cev (.ls true ds) t a b v [o5,g,f,some (.im (tD d)),some (.ls false (ch.map Vl.d)),s10,s11,s12]) =
  .nx (cev (.ls true z) t a b v [o5,g,f,some (.im (tD d)),some (.ls false (ch'.map Vl.d)),some (.im (.str x)),some (.im (.str w.s)),s12']):=by
 have T:=Mh hx;have E:=A6l hx;have F:Aj t.d (.int 0)=some (.im (.tuple (t.cols.map PyData.str))):=rfl;have G:=Qi ht.nms.nd T
 have D:Aj (tD d) (.int (fnd x t.cols:Nat))=some (.im (d.getD (fnd x t.cols) .non).d):=Bw0 (by rw[hr];exact E)
 have o:=Bu3 (d.getD (fnd x t.cols) .non);have l:=B1r w
 have Q:My (cgT 2 (Ao (cgN 10) (Ao (cgN 11) Dg))) Ui (.tuple [.str x,.str w.s]) (cev (.ls true ds) t a b v [o5,g,f,some (.im (tD d)),some (.ls false (ch.map Vl.d)),s10,s11,s12])=Ui (cev (.ls true ds) t a b v [o5,g,f,some (.im (tD d)),some (.ls false (ch.map Vl.d)),some (.im (.str x)),some (.im (.str w.s)),s12]):=by
  unfold My
  rw[show cgT 2 (Ao (cgN 10) (Ao (cgN 11) Dg)) (.o (.im (.tuple [.str x,.str w.s]))) (cev (.ls true ds) t a b v [o5,g,f,some (.im (tD d)),some (.ls false (ch.map Vl.d)),s10,s11,s12])=.ok () (cev (.ls true ds) t a b v [o5,g,f,some (.im (tD d)),some (.ls false (ch.map Vl.d)),some (.im (.str x)),some (.im (.str w.s)),s12]) by wp_walk using cev]
  rfl
 rw[Q]
 generalize fnd x t.cols=j at *
 generalize PyData.str w.s=S at *
 generalize hy:d.getD j .non=y at *
 have A:Bt (cMt J1 Ik (cOp Aj (Aa 1) (cC (.int 0))) (Aa 10)) (cgN 12) (cev (.ls true ds) t a b v [o5,g,f,some (.im (tD d)),some (.ls false (ch.map Vl.d)),some (.im (.str x)),some (.im S),s12])=.nx (cev (.ls true ds) t a b v [o5,g,f,some (.im (tD d)),some (.ls false (ch.map Vl.d)),some (.im (.str x)),some (.im S),some (.im (.int (j:Nat)))]):=by
  wp_walk using cev,F,cMt,J1,G
 by_cases zw:w=.sum
 ·rw[aK zw]at l
  cases zs:isS y with
  | true =>
   rw[zs]at o
   obtain⟨i,z,H,I,J⟩:=A2i hb (by lia)
   obtain⟨q,K,L,V,U,P⟩:=Cu (m:=4) H (by lia) (by decide) (by decide)
   have s:∃(k:Int) (u:Vl),Gv (.bool (decide (q>0)))=some (.im (.int k))/\Aj (.list [.none,.int i]) (.int k)=some (.im u.d)/\VB u/\isS u=false:=by
    by_cases c:q>0
    ·rw[aK c];exact⟨1,.int i,rfl,rfl,I,rfl⟩
    ·rw[aR c];exact⟨0,.non,rfl,rfl,rfl,rfl⟩
   obtain⟨k,u,N,M,R,B⟩:=s
   have r:ixN (ch.map Vl.d).length ((j:Nat):Int)=some j:=by
    rw[ao,hc.len,hr,Z7 (by lia) (by lia)];rfl
   refine⟨ch.set j u,K,some (.im (.int (j:Nat))),hc.set R B,fun _=>?_,fun p s=>?_,L.mono (by lia),?_⟩
   ·rw[cJ,cB (by rw[hc.len,hr];exact E)];exact B
   ·rw[cJ,List.getElem?_set]
    split
    ·split
     ·exact B
     ·rfl
    ·rw[<- cJ];exact s
   ·unfold Ui
    refine (Bh A).trans ?_
    rw[<- Bd0]
    generalize ch.map Vl.d=C at *
    wp_walk using cev,l,D,o,J,P,A3d,N,M,r
  | false =>
   rw[zs]at o
   refine⟨ch,ds,some (.im (.int (j:Nat))),hc,fun _=>hc.num j (by rw[hy];exact zs),fun _ h=>h,hb.mono (by lia),?_⟩
   unfold Ui
   refine (Bh A).trans ?_
   wp_walk using cev,l,D,o
 ·rw[aR zw]at l
  refine⟨ch,ds,some (.im (.int j)),hc,fun e=>absurd e zw,fun _ h=>h,hb.mono (by lia),?_⟩
  refine (Bh A).trans ?_
  wp_walk using cev,l
theorem A8s {n:Nat}{ds:w5}{f:n_}{o5 j l s10 s11 s12:n6}(ht:Tb.Ok t)(hr:f.length=t.cols.length)(hv:VBs f)(hw:Cs t v)(hb:Bx n ds)(hn:n<2 ^ 36) :
 ∃
  G H s10' s11' I,Ch f G/\(∀(i:Nat) (x:Str),v[i]?=some x->ws[i]?=some Wy.sum->isS (G.getD (fnd x t.cols) .non)=false)/\Bx (n+36) H /\
  forL (cgT 2 (Ao (cgN 10) (Ao (cgN 11) Dg))) Ui (Io (v.map PyData.str) (wD ws)) (cev (.ls true ds) t a b v [o5,j,l,some (.im (tD f)),some (.ls false (f.map Vl.d)),s10,s11,s12]) =
  .nx (cev (.ls true H) t a b v [o5,j,l,some (.im (tD f)),some (.ls false (G.map Vl.d)),s10',s11',I]):=by
 have C:Io (v.map PyData.str) (wD ws)=(v.zip ws).map fun q=>.tuple [.str q.1,.str q.2.s]:=Wg PyData.str (fun w:Wy=>PyData.str w.s) v ws
 have s:=hw.len
 have lz:(v.zip ws).length<=12:=by rw[eZ];lia
 rw[C]
 obtain⟨c',e,G,H,D,E,F,rfl,p,o,m⟩:=Fz (g:=cgT 2 (Ao (cgN 10) (Ao (cgN 11) Dg))) (body:=Ui) (items:=(v.zip ws).map fun q=>.tuple [.str q.1,.str q.2.s]) (n:=0) (c:=cev (.ls true ds) t a b v [o5,j,l,some (.im (tD f)),some (.ls false (f.map Vl.d)),s10,s11,s12])
  (P:=fun k c=>∃G H D E F,c=cev (.ls true H) t a b v [o5,j,l,some (.im (tD f)),some (.ls false (G.map Vl.d)),D,E,F]/\Ch f G/\(∀(i:Nat) (x:Str),i<k->v[i]?=some x->ws[i]?=some Wy.sum->isS (G.getD (fnd x t.cols) .non)=false)/\Bx (n+3*k) H)
  ⟨f,ds,s10,s11,s12,rfl,⟨rfl,hv,fun _ h=>h⟩,fun i x h=>absurd h (by lia),hb⟩ (fun k d c B u=>by
   rw[aM]at u ⊢;obtain⟨G,H,D,E,F,rfl,p,o,m⟩:=u;obtain⟨⟨x,w⟩,J,rfl⟩:=Cw B;have hk:k<(v.zip ws).length:=(aZ.mp J).1;obtain⟨z,q2⟩:=List.getElem?_zip_eq_some.mp J
   obtain⟨A,d2,I,g1,g2,g3,b2,e⟩:=A7k (w:=w) (o5:=o5) (g:=j) (f:=l) (s10:=D) (s11:=E) (s12:=F) (a:=a) (b:=b) (v:=v) ht hr (hw.sub x (bc z)) m (by lia) p
   grind)
 rw[ao]at o m
 refine⟨G,H,D,E,F,p,fun i x y r=>o i x ?_ y r,m.mono (by lia),e⟩
 rw[eZ];have:=(aZ.mp y).1;have:=(aZ.mp r).1;lia
abbrev Ao1:Ev->SR:=Aw (Bt (cUn Hq (Aa 8)) (cgN 9)) (Aw (K5 (Ax3 (Aa 4) (Aa 6)) (cgT 2 (Ao (cgN 10) (Ao (cgN 11) Dg))) Ui) (Jl (Us (Aa 7) (cUn Bd (Aa 9)))))
theorem A4b {n:Nat}{ds:w5}{o5:n6}(ht:Tb.Ok t)(hw:Cs t v)(hb:Bx n ds)(hn:n<2 ^ 35) :
 ∃
  (f:n8) (p:w5) (o:O) (y s l j h:n6),f.length=t.rows.length/\(∀r∈f,r.length=t.cols.length/\VBs r)/\(∀(i:Nat) (x:Str),v[i]?=some x->ws[i]?=some Wy.sum->∀r∈f,isS (r.getD (fnd x t.cols) .non)=false)/\M3 o (wD ws)/\Bx (n+36*24) p /\
  forL (cgN 8) Ao1 (t.rows.map tD) (cev (.ls true ds) t a b v [o5,some (.ls false (wD ws)),some (.ls false []),none,none,none,none,none])=.nx (cev (.ls true p) t a b v [o5,some o,some (.ls false (f.map tD)),y,s,l,j,h]):=by
 have rl:=ht.rlen
 obtain⟨W,e,f,p,o,y,s,l,j,h,rfl,A,C,E,H,B⟩:=Fz (g:=cgN 8) (body:=Ao1) (items:=t.rows.map tD) (n:=0) (c:=cev (.ls true ds) t a b v [o5,some (.ls false (wD ws)),some (.ls false []),none,none,none,none,none])
  (P:=fun k c=>∃(f:n8) (p:w5) (o:O) (y s l j h:n6),c=cev (.ls true p) t a b v [o5,some o,some (.ls false (f.map tD)),y,s,l,j,h]/\f.length=k/\(∀r∈f,r.length=t.cols.length/\VBs r)/\(∀(i:Nat) (x:Str),v[i]?=some x->ws[i]?=some Wy.sum->∀r∈f,isS (r.getD (fnd x t.cols) .non)=false)/\M3 o (wD ws)/\Bx (n+36*k) p)
  ⟨[
   ],ds,_,none,none,none,none,none,rfl,rfl,(fun r w=>nomatch w),(fun i x _ _ r w=>nomatch w),.inl rfl,hb⟩ (fun k d c S K=>by
   rw[aM]at K ⊢;obtain⟨f,p,o,y,s,l,j,h,rfl,A,C,E,H,B⟩:=K;obtain⟨m,w,rfl⟩:=Cw S;have hk:k<t.rows.length:=(aZ.mp w).1;have F:=ht.rows m (bc w)
   obtain⟨z,J,G,D,I,L,T,V,e⟩:=A8s (a:=a) (b:=b) (v:=v) (ws:=ws) (o5:=o5) (j:=some (.im (.list (wD ws)))) (l:=some (.ls false (f.map tD))) (s10:=l) (s11:=j) (s12:=h) ht F.1 F.2 hw B (by lia)
   refine⟨cev (.ls true J) t a b v [o5,some (.im (.list (wD ws))),some (.ls false ((f++[z]).map tD)),some (.im (tD m)),some (.ls false (z.map Vl.d)),G,D,I],.inl ?_,f++[z],J,_,_,_,_,_,_,rfl,by rw[aX,A];rfl,fun r u=>?_,fun i x M N r u=>?_,.inr rfl,V.mono (by lia)⟩
   ·show Ao1 (cev (.ls true p) t a b v [o5,some o,some (.ls false (f.map tD)),some (.im (tD m)),s,l,j,h])=_
    unfold Ao1;have Y:Hq (tD m)=some (.ls false (m.map Vl.d)):=rfl
    refine (Bh (c':=cev (.ls true p) t a b v [o5,some o,some (.ls false (f.map tD)),some (.im (tD m)),some (.ls false (m.map Vl.d)),l,j,h]) (by wp_walk using cev,Y)).trans ?_
    refine (Bh ((Hl (ds:=Io (v.map PyData.str) (wD ws)) (c1:=cev (.ls true p) t a b v [o5,some (.im (.list (wD ws))),some (.ls false (f.map tD)),some (.im (tD m)),some (.ls false (m.map Vl.d)),l,j,h]) ?_).trans e)).trans ?_
    ·rcases H with rfl | rfl <;> wp_walk using cev,lD,Ax3,U.Fl
    ·have X:(f.map tD).length<16000000:=by rw[ao,A];lia
     have Q:Bd (.list (z.map Vl.d))=some (.im (tD z)):=rfl;rw[bA,aH,dh]
     generalize f.map tD=R at *
     wp_walk using cev,Q,X
   ·rcases bC.mp u with q | q
    ·exact C r q
    ·rw[aV.mp q];exact⟨by rw[L.len,F.1],L.vb⟩
   ·rcases bC.mp u with q | q
    ·exact E i x M N r q
    ·rw[aV.mp q];exact T i x M N)
 rw[aM,ao]at A B
 exact⟨f,p,o,y,s,l,j,h,A,C,E,H,B.mono (by lia),e⟩
end
theorem Bt2 (hb:Bx n ds) (hn:n<2 ^ 33):∃(t:Tb) (a b v:v4) (e:List Wy) (d1:w5),Tb.Ok t/\Cv t a b v/\So t v e/\Bx (n+3000) d1 /\
 Ov [.ls true ds]=.ret (.im (.tuple [t.d,lD a,lD b,lD v,.list (wD e)])) [.ls true d1]:=by
 obtain⟨t,D,f,H,z⟩:=Ac0 hb (by lia)
 obtain⟨v,a,b,u,A,B,F,G⟩:=A3i H (by lia) f.cpos f.clen
 have l:Cv t a b v:=⟨List.perm_append_comm.trans A,B⟩;obtain⟨_,_,y⟩:=l.cs f
 obtain⟨e,k,E,K,L⟩:=Ax5 (t:=t) (a:=a) (b:=b) (r:=[none,none,none,none,none,none,none]) F (by lia) y.len
 obtain⟨d,m,C,q,w,g,j,h,I,J,M,N,O,P⟩:=A4b (a:=a) (b:=b) (ws:=e) (o5:=some (.ls false (wD K9))) f y K (by lia)
 have s:Aj t.d (.int 0)=some (.im (.tuple (t.cols.map PyData.str))):=rfl;have Q:Aj t.d (.int 1)=some (.im (.tuple (t.rows.map tD))):=rfl
 have R:Tb.Ok ⟨t.cols,d⟩:=⟨f.nms,f.cpos,f.clen,J,by show d.length<=24;rw[I];exact f.rlen⟩
 refine⟨⟨t.cols,d⟩,a,b,v,e,m,R,⟨l.pm,l.pos⟩,⟨E,fun i x S T r V=>M i x S T r V⟩,O.mono (by lia),?_⟩
 have W:(⟨t.cols,d⟩:Tb).d=.tuple [.tuple (t.cols.map PyData.str),.tuple (d.map tD)]:=rfl
 have o:K5 (Ar (cOp Aj (Aa 1) (cC (.int 1)))) (cgN 8) Ao1 (cev (.ls true k) t a b v [some (.ls false (wD K9)),some (.ls false (wD e)),some (.ls false []),none,none,none,none,none])=.nx (cev (.ls true m) t a b v [some (.ls false (wD K9)),some C,some (.ls false (d.map tD)),q,w,g,j,h]) :=
  (Hl (ds:=t.rows.map tD) (c1:=cev (.ls true k) t a b v [some (.ls false (wD K9)),some (.ls false (wD e)),some (.ls false []),none,none,none,none,none]) (by wp_walk using cev,Ar,Q,U.Fl)).trans P
 refine Qz (p:=.o (.im (.tuple [.tuple [.tuple (t.cols.map PyData.str),.tuple (d.map tD)],lD a,lD b,lD v,.list (wD e)]))) (c:=cev (.ls true m) t a b v [some (.ls false (wD K9)),some (.im (.list (wD e))),some (.ls false (d.map tD)),q,w,g,j,h]) ?_ rfl (by wp_walk using cev,W)
 show Oi [some (.ls true ds),none,none,none,none,none,none,none,none,none,none,none,none]=_
 unfold Oi
 refine (Bh (c':=[some (.ls true D),some (.im t.d),none,none,none,none,none,none,none,none,none,none,none]) (by wp_walk using z)).trans ?_
 refine (Bh (c':=cev (.ls true u) t a b v [none,none,none,none,none,none,none,none]) (by wp_walk using s,G)).trans ?_
 refine (Bh (c':=cev (.ls true u) t a b v [some (.ls false (wD K9)),none,none,none,none,none,none,none]) (by wp_walk using cev,wD,K9,Wy.s)).trans ?_
 refine (Bh (c':=cev (.ls true k) t a b v [some (.ls false (wD K9)),some (.ls false (wD e)),none,none,none,none,none,none]) (Rp L rfl)).trans ?_
 refine (Bh (c':=cev (.ls true k) t a b v [some (.ls false (wD K9)),some (.ls false (wD e)),some (.ls false []),none,none,none,none,none]) (by wp_walk using cev)).trans ?_
 refine (Bh o).trans ?_
 rcases N with rfl | rfl <;> wp_walk using cev,s,Bd
theorem Bm8 (ht:Tb.Ok t) (cv:Cv t ks ns vs) (O:So t vs b) (M:Srt r (fs ((prs t ks ns).map (·.2))) hs):∃w,Good (fbD t (prs t ks ns) ks ns vs b hs) 5 w/\Short 8 (fbD t (prs t ks ns) ks ns vs b hs):=by
 obtain⟨C,A,H⟩:=cv.cs ht;obtain⟨I,N⟩:=M.sub;have B:=Kr ht (ks:=ks) (ns:=ns)
 have G:hs.length<=60:=by rw[N];exact au (Ib _) (by rw[ao];exact au B (by decide))
 have u:∀j:v4,Cs t j->Good (nD j) 4 200000000/\Short 7 (nD j):=fun j h=>by
  have g:Good (nD j) 1 (1923*12+4):=Good.tup (fun d a=>by obtain⟨x,K,rfl⟩:=aD.mp a;exact Dt (v:=.str x) (Az5 x (ht.nms.sub x (h.sub x K)))) (by rw[ao];exact h.len)
  exact⟨g.mono (by decide) (by decide),Xp 7 _ (au g.wgt (by decide)) (Ap2 _)⟩
 have o:∀{q:PH},q∈prs t ks ns->VBs q.1/\q.1.length<=12/\VBs q.2/\q.2.length<=12:=fun {q} e=>by
  refine⟨(K7 ht e).1,?_,(K7 ht e).2,?_⟩
  all_goals
   obtain⟨x,_,rfl⟩:=aD.mp e
   show (pick _ _ _).length<=12
   unfold pick;rw[ao]
  ·exact C.len
  ·exact A.len
 have U:∀{q:PH},q∈prs t ks ns->Good (Bw t (prs t ks ns) vs b q) 1 (1923*12+4):=fun {q} e=>by
  have T:=A8z ht H O e
  refine Aj7 (fun v V=>?_) (by show ((List.range b.length).map _).length<=12;rw[ao,fV];exact T.wl)
  obtain⟨i,J,rfl⟩:=aD.mp (show v∈(List.range b.length).map _ from V)
  have P:=T.pt (cX.mp J);exact A6n P.vb P.len
 have D:∀d∈hs.map tD,Good d 1 (1923*12+4)/\noL d=true:=fun d a=>by
  obtain⟨h,L,rfl⟩:=aD.mp a;obtain⟨q,e,rfl⟩:=aD.mp (z8.mp (I h L));exact⟨Ke (o e).2.2.1 (o e).2.2.2,Ab8 _⟩
 have E:=Good.tup (fun d a=>(D d a).1) (show (hs.map tD).length<=60 by rw[ao];exact G)
 unfold fbD
 generalize hl':prs t ks ns=l at *
 have s:∀p∈fs (l.map (·.1)),Good (.tuple [tD p,Ka (fs l) (Bw t l vs b) .none hs p]) 3 3000000/\noL (.tuple [tD p,Ka (fs l) (Bw t l vs b) .none hs p])=true:=fun p y=>by
  obtain⟨q,e,rfl⟩:=aD.mp (z8.mp y)
  have c:∀d∈hs.map (fun h=>if (q.1,h)∈fs l then Bw t l vs b (q.1,h) else .none),Good d 1 (1923*12+4)/\noL d=true:=fun d a=>by
   obtain⟨h,_,rfl⟩:=aD.mp a
   by_cases m:(q.1,h)∈fs l
   ·rw[if_pos m];exact⟨U (z8.mp m),Ab8 _⟩
   ·rw[if_neg m];exact⟨⟨rfl,rfl,rfl,by decide,by decide⟩,rfl⟩
  have Q:=Good.tup (fun d a=>(c d a).1) (show (hs.map _).length<=60 by rw[ao];exact G)
  have R:=Ac6 fun d a=>(c d a).2
  have S:=(Ke (o e).1 (o e).2.1).mono (show 1<=2 by decide) (show 1923*12+4<=1400000 by decide)
  refine⟨(Good.tup (n:=2) (w:=1400000) (k:=2) (fun d a=>?_) (aq _)).mono (by decide) (by decide),?_⟩
  ·simp only[aB,bf,bh]at a
   rcases a with rfl | rfl
   ·exact S
   ·exact Q.mono (by decide) (by decide)
  ·show (noL (tD q.1)&&(Tn _&&true))=true
   rw[R,show noL (tD q.1)=true from Ab8 _];rfl
 have F:((fs (l.map (·.1))).map fun p=>PyData.tuple [tD p,Ka (fs l) (Bw t l vs b) .none hs p]).length<=60:=by rw[ao];exact au (Ib _) (by rw[ao];exact au B (by decide))
 have z:∀d∈(fs (l.map (·.1))).map (fun p=>PyData.tuple [tD p,Ka (fs l) (Bw t l vs b) .none hs p]),Good d 3 3000000/\noL d=true:=fun d a=>by
  obtain⟨p,y,rfl⟩:=aD.mp a;exact s p y
 have f:∀d∈[nD ks,nD ns,nD vs,.tuple (hs.map tD),.tuple ((fs (l.map (·.1))).map fun p=>PyData.tuple [tD p,Ka (fs l) (Bw t l vs b) .none hs p])],Good d 4 _/\Short 7 d:=fun d a=>by
  simp at a
  rcases a with rfl | rfl | rfl | rfl | rfl
  ·exact u _ C
  ·exact u _ A
  ·exact u _ H
  ·exact⟨E.mono (by decide) (by decide),Xp 7 _ (au E.wgt (by decide)) (Ac6 fun d a=>(D d a).2)⟩
  ·exact⟨(Good.tup (fun d a=>(z d a).1) F).mono (by decide) (by decide),⟨au F (by decide),fun d a=>Xp 6 d (au (z d a).1.wgt (by decide)) (z d a).2⟩⟩
 exact⟨_,Good.tup (fun d a=>(f d a).1) (aq _),⟨by show 5<=16000000;decide,fun d a=>(f d a).2⟩⟩
theorem fold_same (ht:Tb.Ok t) (cv:Cv t ks ns vs) (f:So t vs d) (r:Bool):∃D:t6,Be true D D=some (.im (.bool false))/\Dd 8 [.im D,.im D]=.ret (.im (.bool true)) [.im D,.im D] /\
 Nu [.im t.d,.im (lD ks),.im (lD ns),.im (lD vs),.im (.list (wD d)),.im (.str (Et r))]=.ret (.im D) [.im t.d,.im (lD ks),.im (lD ns),.im (lD vs),.im (.list (wD d)),.im (.str (Et r))] /\
 ∀a b c e,Eg [.im t.d,.im (sqD a (ks.map PyData.str)),.im (sqD b (ns.map PyData.str)),.im (sqD c (vs.map PyData.str)),.im (sqD e (wD d)),.im (.str (Et r))]=.ret (.im D) [.im t.d,.im (sqD a (ks.map PyData.str)),.im (sqD b (ns.map PyData.str)),.im (sqD c (vs.map PyData.str)),.im (sqD e (wD d)),.im (.str (Et r))]:=by
 obtain⟨m,h,k⟩:=B2a ht cv f;obtain⟨w,g,j⟩:=Bm8 ht cv f h
 refine⟨fbD t _ _ _ _ _ _,by rw[Tp g g (by decide) (by decide),Bd8 _ g.lay];rfl,Az0 8 _ (bR g.dep (by decide)) (by decide) g.lay j,k,fun a b c e=>?_⟩
 obtain⟨n,l,i⟩:=A5w ht cv f;rw[l.one h]at i;omega
abbrev lev (s0 s1 s2:n6)(t:Tb)(p q v:v4)(ws:List Wy)(rest:o_):Ev:=s0::s1::s2::some (.im t.d)::some (.im (lD p))::some (.im (lD q))::some (.im (lD v))::some (.im (.list (wD ws)))::some (.im (.str t.d.shown))::rest
theorem We (ht:Tb.Ok t) (cv:Cv t p q v) (i:So t v d) (hb:Bx n ds) (hn:n<2 ^ 37) : ∃g u10 u11 u12,Bx (n+4) g /\
 My (cgN 9) M9 (.str (Et r)) (lev s0 s1 (some (.ls false ds)) t p q v d [s9,s10,s11,s12])=.nx (lev s0 s1 (some (.ls false g)) t p q v d [some (.im (.str (Et r))),u10,u11,u12]):=by
 obtain⟨J,s,h⟩:=cv.cs ht
 have G:(p.map PyData.str).length<=100:=by rw[ao];have:=J.len;lia
 have l:(q.map PyData.str).length<=100:=by rw[ao];have:=s.len;lia
 have m:(v.map PyData.str).length<=100:=by rw[ao];have:=h.len;lia
 have o:(wD d).length<=100:=by rw[ao,i.len];have:=h.len;lia
 obtain⟨a,g,w,x⟩:=Vc (u:=none) hb (by lia) G
 obtain⟨b,O,z,F⟩:=Vc (u:=some (.im (lD p))) w (by lia) l
 obtain⟨c,Z,H,I⟩:=Vc (u:=some (.im (lD q))) z (by lia) m
 obtain⟨e,f,K,L⟩:=Vc (u:=some (.im (lD v))) H (by lia) o
 obtain⟨D,M,N,y,j⟩:=fold_same ht cv i r;have S:Eg [.im t.d,.im (lD p),.im (lD q),.im (lD v),.im (.list (wD d)),.im (.str (Et r))]=.ret (.im D) [.im t.d,.im (lD p),.im (lD q),.im (lD v),.im (.list (wD d)),.im (.str (Et r))]:=j false false false false;have T:=j a b c e
 have U:Dv (cgN 0) Av A8e [lD p,lD q,lD v,.list (wD d)] [] [none,some (.ls true ds)]=.ok [sqD a (p.map PyData.str),sqD b (q.map PyData.str),sqD c (v.map PyData.str),sqD e (wD d)] [some (.im (.list (wD d))),some (.ls true f)]:=by
  rw[G3,x,R.bind_ok,G3,F,R.bind_ok,G3,I,R.bind_ok,G3,L,R.bind_ok];rfl
 have P:=Vu (A1b ht) (by decide) (by decide) rfl
 have Q:Be true (.str t.d.shown) (.str t.d.shown)=some (.im (.bool false)):=by rw[Wh];simp
 generalize sqD a (p.map PyData.str)=A at *
 generalize sqD b (q.map PyData.str)=B at *
 generalize sqD c (v.map PyData.str)=C at *
 generalize sqD e (wD d)=E at *
 have X:cLC [none,some 2] (Ar (Ei (Ab (Aa 4) (Ab (Aa 5) (Ab (Aa 6) (Ab (Aa 7) Ah)))))) (cgN 0) Av A8e (lev s0 s1 (some (.ls false ds)) t p q v d [some (.im (.str (Et r))),some (.im D),s11,s12])=.ok (.o (.ls false [A,B,C,E])) (lev s0 s1 (some (.ls false f)) t p q v d [some (.im (.str (Et r))),some (.im D),s11,s12]) :=
  Dq (ds:=[lD p,lD q,lD v,.list (wD d)]) (c1:=lev s0 s1 (some (.ls false ds)) t p q v d [some (.im (.str (Et r))),some (.im D),s11,s12]) (by wp_walk using lev,lD,Ar,Fl) (show (4:Nat)<=16000000 by decide) U (by wp_walk using lev,lD)
 refine⟨f,some (.im D),some (.ls false [A,B,C,E]),some (.im D),K,?_⟩
 show M9 (lev s0 s1 (some (.ls false ds)) t p q v d [some (.im (.str (Et r))),s10,s11,s12])=_
 unfold M9
 refine (Bh (c':=lev s0 s1 (some (.ls false ds)) t p q v d [some (.im (.str (Et r))),some (.im D),s11,s12]) (by wp_walk using lev,y)).trans ?_
 refine (Bh (c':=lev s0 s1 (some (.ls false ds)) t p q v d [some (.im (.str (Et r))),some (.im D),s11,s12]) (by wp_walk using lev,S,N)).trans ?_
 refine (Bh (c':=lev s0 s1 (some (.ls false f)) t p q v d [some (.im (.str (Et r))),some (.im D),some (.ls false [A,B,C,E]),s12]) (Rp X rfl)).trans ?_
 have W:Aj (.list [A,B,C,E]) (.int 0)=some (.im A):=rfl;have V:Aj (.list [A,B,C,E]) (.int 1)=some (.im B):=rfl;have Y:Aj (.list [A,B,C,E]) (.int 2)=some (.im C):=rfl;have k:Aj (.list [A,B,C,E]) (.int 3)=some (.im E):=rfl
 refine (Bh (c':=lev s0 s1 (some (.ls false f)) t p q v d [some (.im (.str (Et r))),some (.im D),some (.ls false [A,B,C,E]),some (.im D)]) (by wp_walk using lev,W,V,Y,k,T)).trans ?_
 wp_walk using lev,M,P,Q
theorem A6h (ns:List Int)(_:ns.length<=63):Au9 [.sc ns]=.ret (.im (.bool true)) [.sc ns]:=by
 have w:=Fz (g:=cgN 1) (body:=N8) (items:=Rh 0 7) (n:=0) (c:=[some (.sc ns),none,none,none,none,none,none,none,none,none,none,none,none])
  (P:=fun _ c=>∃z x o q s u m l j f h i,c=[some (.sc ns),z,x,o,q,s,u,m,l,j,f,h,i]) ⟨_,_,_,_,_,_,_,_,_,_,_,_,rfl⟩ (fun k d c M R=>by
   obtain⟨z,x,o,q,s,u,m,l,j,f,h,i,rfl⟩:=R;obtain⟨rfl,hk⟩:=U5 M
   obtain⟨T,S,W⟩:=B0s (ns:=ns) (k:=k) (by lia)
   obtain⟨t,a,b,v,y,C,D,L,K,X,N⟩:=Bt2 S (by decide)
   have O:=Vu (A1b D) (by decide) (by decide) rfl
   obtain⟨d4,A,H,G,U,V⟩:=We D L K X (by decide) (r:=false) (s0:=some (.sc ns)) (s1:=some (.im (.int (0+(k:Int))))) (s9:=j) (s10:=f) (s11:=h) (s12:=i)
   obtain⟨Q,E,I,J,b5,Y⟩:=We D L K U (by decide) (r:=true) (s0:=some (.sc ns)) (s1:=some (.im (.int (0+(k:Int))))) (s9:=some (.im (.str (Et false)))) (s10:=A) (s11:=H) (s12:=G)
   have F:=(Td (.inl V)).trans ((Td (.inl Y)).trans A9b)
   refine⟨lev (some (.sc ns)) (some (.im (.int (0+(k:Int))))) (some (.ls false Q)) t a b v y [some (.im (.str (Et true))),E,I,J],.inl ?_,_,_,_,_,_,_,_,_,_,_,_,_,rfl⟩
   show N8 [some (.sc ns),some (.im (.int (0+(k:Int)))),x,o,q,s,u,m,l,j,f,h,i]=_
   unfold N8
   refine (Bh (c':=[some (.sc ns),some (.im (.int (0+(k:Int)))),some (.ls false T),o,q,s,u,m,l,j,f,h,i]) (by wp_walk using show (0:Int)+(k:Int)=(k:Int) by lia,W)).trans ?_
   refine (Bh (c':=[some (.sc ns),some (.im (.int (0+(k:Int)))),some (.ls false C),some (.im t.d),some (.im (lD a)),some (.im (lD b)),some (.im (lD v)),some (.im (.list (wD y))),l,j,f,h,i]) (by wp_walk using N)).trans ?_
   refine (Bh (c':=lev (some (.sc ns)) (some (.im (.int (0+(k:Int))))) (some (.ls false C)) t a b v y [j,f,h,i]) (by wp_walk using O)).trans ?_
   exact(Hl (ds:=[.str (Et false),.str (Et true)]) (c1:=lev (some (.sc ns)) (some (.im (.int (0+(k:Int))))) (some (.ls false C)) t a b v y [j,f,h,i]) (by wp_walk using lev,Ar,Fl,Et)).trans F)
 obtain⟨B,e,z,x,o,q,s,u,m,l,j,f,h,i,rfl⟩:=w
 refine Qz (p:=.o (.im (.bool true))) (c:=[some (.sc ns),z,x,o,q,s,u,m,l,j,f,h,i]) ?_ rfl (by wp_walk using bW)
 refine (Bh ((Hl (by wp_walk using bW)).trans e)).trans ?_
 wp_walk using bW
noncomputable def top (i:Nat):Stmt:=PySem.Challenge.pw_pivotfold_k18_doubles_put_together.main.body.getD i (.Pass ⟨0,0,0,0⟩)
abbrev Ac2:Stmt:=top 8
theorem Br3:Ax ["value"] ["value"] (Al Ac2):={}
abbrev Ae2:Stmt:=top 9
theorem Be3:Ax ["values"] ["values"] (Al Ae2):={}
abbrev Ph:Stmt:=top 11
theorem yL:Ax ["table", "name", "columns"] ["table", "name"] (Al Ph):={}
abbrev Ob:Stmt:=top 12
theorem Z5:Ax ["table", "names"] ["table", "names"] (Al Ob):={}
abbrev Nv:Stmt:=top 13
theorem Zy:Ax ["row", "places"] ["row", "places"] (Al Nv):={}
abbrev Gp:Stmt:=top 16
theorem zW:Ax ["columns", "key", "names", "values", "together"] ["columns", "key", "names", "values"] (Al Gp):={}
abbrev K3:Stmt:=top 17
theorem Wi:Ax ["order"] ["order"] (Al K3):={}
abbrev Jj:Stmt:=top 18
theorem zE:Ax ["table", "key", "names", "key_places", "name_places", "groups", "number", "row", "place"] ["table", "key", "names"] (Al Jj):={}
abbrev Ls:Stmt:=top 19
theorem yD:Ax ["things", "seen", "thing"] ["things"] (Al Ls):={}
abbrev Ml:Stmt:=top 20
theorem Yn:Ax ["groups"] ["groups"] (Al Ml):={}
abbrev Mi:Stmt:=top 21
theorem yH:Ax ["groups", "order", "heads"] ["groups", "order"] (Al Mi):={}
abbrev Qc:Stmt:=top 22
theorem Aj1:Ax ["part", "heads", "things", "gap"] ["part", "heads", "things", "gap"] (Al Qc):={}
abbrev Qm:Stmt:=top 23
theorem Am7:Ax ["parts", "heads", "things", "gap"] ["parts", "heads", "things", "gap"] (Al Qm):={}
abbrev Jh:Stmt:=top 24
theorem Ti:Ax ["parts", "heads", "cells"] ["parts", "heads", "cells"] (Al Jh):={}
abbrev Ly:Stmt:=top 27
theorem yI:Ax ["ways", "many", "allowed", "way"] ["ways", "many", "allowed"] (Al Ly):={}
abbrev V6:Stmt:=top 28
theorem A2w:Ax ["numbers"] ["numbers"] (Al V6):={}
abbrev J2:Stmt:=top 29
theorem yE:Ax ["some", "way", "there"] ["some", "way"] (Al J2):={}
abbrev Ho:Stmt:=top 30
theorem Qd:Ax ["cells", "place", "way"] ["cells", "place", "way"] (Al Ho):={}
abbrev Hz:Stmt:=top 31
theorem Qx:Ax ["cells", "ways"] ["cells", "ways"] (Al Hz):={}
abbrev Ji:Stmt:=top 33
theorem Tq:Ax ["columns", "key", "names", "values", "ways", "order"] ["columns", "key", "names", "values", "ways", "order"] (Al Ji):={}
abbrev H9:Stmt:=top 34
theorem zG:Ax ["table", "values", "ways", "groups", "value_places", "cells", "place", "numbers", "some"] ["table", "values", "ways", "groups"] (Al H9):={}
abbrev Oa:Stmt:=top 35
theorem zY:Ax ["table", "key", "names", "values", "ways", "order", "groups", "heads", "rows"] ["table", "key", "names", "values", "ways", "order"] (Al Oa):={}
abbrev Ng:Stmt:=top 37
theorem Ad6:Ax ["_law_script", "_law_k"] ["_law_script", "_law_k"] (Al Ng):={}
abbrev Z0:Stmt:=top 38
theorem yQ:Ax ["_law_script", "_law_k", "_law_number_here"] ["_law_script", "_law_k"] (Al Z0):={}
abbrev Vj:Stmt:=top 39
theorem yF:Ax ["_law_box_here", "_law_many_here", "_law_found", "_law_once", "_law_twice"] ["_law_box_here", "_law_many_here"] (Al Vj):={}
abbrev Xu:Stmt:=top 40
theorem A2j:Ax ["_law_box_here", "_law_least", "_law_few", "_law_most"] ["_law_box_here", "_law_least", "_law_few", "_law_most"] (Al Xu):={}
abbrev Tj:Stmt:=top 41
theorem yM:Ax ["_law_box_here", "_law_many_here", "_law_some"] ["_law_box_here", "_law_many_here"] (Al Tj):={}
abbrev Sv:Stmt:=top 42
theorem yN:Ax ["_law_box_here", "_law_way"] ["_law_box_here"] (Al Sv):={}
abbrev Vs:Stmt:=top 43
theorem yG:Ax ["_law_box_here", "_law_many_here", "_law_found", "_law_turn", "_law_value_here"] ["_law_box_here", "_law_many_here"] (Al Vs):={}
abbrev Sx:Stmt:=top 44
theorem zM:Ax ["_law_box_here", "_law_many_here", "_law_rows", "_law_names_here", "_law_pools", "_law_found", "_law_turn", "_law_row"] ["_law_box_here", "_law_many_here", "_law_rows"] (Al Sx):={}
abbrev K6:Stmt:=top 45
theorem V1:Ax ["_law_box_here"] ["_law_box_here"] (Al K6):={}
abbrev Pz:Stmt:=top 46
theorem zO:Ax ["_law_box_here", "_law_columns", "_law_left", "_law_order", "_law_values", "_law_rest", "_law_cut"] ["_law_box_here", "_law_columns"] (Al Pz):={}
abbrev Ar6:Stmt:=top 47
theorem Bq2:Ax ["_law_table_here", "_law_row", "_law_names_here"] ["_law_table_here", "_law_row", "_law_names_here"] (Al Ar6):={}
abbrev Qf:Stmt:=top 48
theorem Ah9:Ax ["_law_box_here"] ["_law_box_here"] (Al Qf):={}
abbrev V2:Stmt:=top 49
theorem A4n:Ax ["_law_value_here"] ["_law_value_here"] (Al V2):={}
abbrev Tv:Stmt:=top 50
theorem At8:Ax ["_law_values"] ["_law_values"] (Al Tv):={}
abbrev Q9:Stmt:=top 51
theorem A2y:Ax ["_law_found", "_law_due_here"] ["_law_found", "_law_due_here"] (Al Q9):={}
abbrev Aa0:Stmt:=top 52
theorem zP:Ax ["_law_some", "_law_way", "_law_there", "_law_met", "_law_value_here", "_law_best"] ["_law_some", "_law_way"] (Al Aa0):={}
abbrev Wa:Stmt:=top 53
theorem zF:Ax ["_law_box_here", "_law_table_here", "_law_stem", "_law_names_here", "_law_values", "_law_words", "_law_ways", "_law_rows", "_law_row", "_law_changed", "_law_name", "_law_way", "_law_place"] ["_law_box_here"] (Al Wa):={}
abbrev Wk:Stmt:=top 54
theorem zJ:Ax ["_law_table_here", "_law_stem", "_law_names_here", "_law_order", "_law_parts", "_law_heads", "_law_found", "_law_number_here", "_law_row", "_law_part", "_law_head"] ["_law_table_here", "_law_stem", "_law_names_here", "_law_order"] (Al Wk):={}
abbrev Ag6:Stmt:=top 55
theorem zH:Ax ["_law_table_here", "_law_stem", "_law_names_here", "_law_values", "_law_ways", "_law_order", "_law_parts", "_law_heads", "_law_found", "_law_rows", "_law_part", "_law_cells", "_law_head", "_law_some", "_law_told"] ["_law_table_here", "_law_stem", "_law_names_here", "_law_values", "_law_ways", "_law_order"] (Al Ag6):={}
abbrev A9x:Stmt:=top 56
theorem zL:Ax ["_law_script", "_law_k", "_law_box_here", "_law_table_here", "_law_stem", "_law_names_here", "_law_values", "_law_ways", "_law_before", "_law_order", "_law_due_here", "_law_handed", "_law_again"] ["_law_script"] (Al A9x):={}
section
variable {P:u5}{w:World}{K:v8}{mg:x_}{base:Heap}
local macro_rules | `(tactic| walk_at "m")=>`(tactic| repeat' first | rfl | apply As8 | (with_reducible first | apply me_var | apply Bm3 | apply B6h | apply A9d | apply B2e | apply U3 | apply A9t | apply Bs4 | apply Ae7 | apply B2w | apply A6z | apply Bi8 | apply Bf0 | apply Af1) | apply Bz1 | apply Bl2 | apply A2f | apply B4g | apply Ar7 | apply A7z | (with_reducible first | apply Ou | apply B1m | apply B0x | apply B5t | apply A5y | apply B1d | apply B2u | apply By1 | apply Be8 | apply Bl0 | apply Bb0 | apply A9r | apply Bs9 | apply Bz0 | apply Bw8 | apply B6p | apply As3 | apply Bn6 | apply Bp2 | apply B4c | apply Ai1 | apply By8 | apply Bh5 | apply Br7 | apply Ba5 | apply Br8 | apply A7g | apply A7t | apply A5o | apply B6f | apply A5p | apply Bt1 | apply Bz3 | apply B3l | apply B7b | apply A9o | apply Bq6 | apply Bm5 | apply Bq3 | apply B4a | apply Bg7 | apply Bo5 | apply Bx3 | apply B5s | apply B3h | apply Bp8 | apply B3c | apply Bk0 | apply A8y | apply B1b | apply Bh8 | apply B0a | apply Aw3 | apply Bf4 | apply Bi6 | apply Bc6 | apply B2s | apply B2q | apply Bc4 | apply A1o | apply A7x | apply By9 | apply Bc5 | apply Bk9 | apply B2r | apply Bi4 | apply B2k | apply B3m | apply Bq8 | apply Bn8 | apply B3r | apply Bn7 | apply Bs2 | apply B4k | apply B5w | apply B1e | apply Bx4 | apply Bj8 | apply B2y | apply B1g | apply Bg8 | apply Bx2 | apply Bd1 | apply B0q | apply Bc1 | apply Bk5 | apply Br6 | apply Yz | apply B1a | apply Bn2 | apply A2h | apply B1q | apply Bq0) | decide | assumption)
abbrev Dd0 (P w K mg base):=Def P w K mg base "_law_take" 1 ["_law_box_here", "_law_many_here"] (spP K An)
theorem Bi5 (F:Fun K "rank" "rank" Ac2 f j) (d0:Def P w K mg base "rank" (n) ["value"] (spP K (Ck n))) (d:mg "int" = none) (a:mg "isinstance" = none) (c:mg "str" = none) (b:mg "tuple" = none):FnOk P w K mg base CX0 (n+1) f j ["value"] (spP K (Ck (n+1))):=by
 refine F.ok Br3 (fun _ _ _ _=>Bm) (fun m A e s H l Q E g h=>?_)
 have o:=g.units;have k:=g.gd
 refine El (Ae (Cg (Ow (qv 0) Ie) (Af (Aq (Cz (Ad Ag (Ad Ag Ac))))) Bb)
  (Ae (Cg (Jy (Bp (Kq:=K) rfl rfl a (Ad (qv 0) (Ad (Dp (v:=.ty "int") rfl d Au3 rfl) Ac)))) (Af (Aq (Cz (Ad Ag (Ad (qv 0) Ac))))) Bb)
  (Ae (Cg (Jy (Bp (Kq:=K) rfl rfl a (Ad (qv 0) (Ad (Dp (v:=.ty "str") rfl c Mx rfl) Ac)))) (Af (Aq (Cz (Ad Ag (Ad (qv 0) Ac))))) Bb)
  (Af (Aq (Cz (Ad Ag (Ad (Ak (Kq:=K) rfl rfl b (Ad (by exact(Hh (N':=["each"]) (idx:=[none]) Dc rfl (Cp (Kq:=K) rfl (qv 0)) (fun _ _ _ _ _=>by exact(Am (i:=0) (by grind))) qtN (fun _ _ _ _ _=>by exact(Ba d0 g (Ad (qv 0) Ac))))) Ac)) Ac)))))))) ?_
 exact Bl (by unfold Af3;walk_at "m") h
theorem Aj3 {f:Addr}{fd:v_}(F:Fun K "rank" "rank" Ac2 f fd) (bF:Binds K fd ["value"] []) (mF:mg "rank" = some (.ref f)) (zQ:mg "int" = none) (zA:mg "isinstance" = none) (zR:mg "str" = none) (zB:mg "tuple" = none):∀n:Nat,FnOk P w K mg base CX0 (n) f fd ["value"] (spP K (Ck n))
 | 0=>A6b
 | n+1=>Bi5 F ⟨f,fd,Aj3 F bF mF zQ zA zR zB n,bF,F.kp,mF⟩ zQ zA zR zB
theorem A6k (F:Fun K "risen" "risen" Ae2 f l) (d0:Def P w K mg base "rank" 2 ["value"] (spP K (Ck 2))) (a:mg "sorted" = none):FnOk P w K mg base CX0 5 f l ["values"] (spP K M5):=by
 obtain⟨i,g,c,b,e,d⟩:=d0
 refine F.ok Be3 (fun _ _ _ _=>Bm) (fun m A j s H o Q E k h=>?_)
 have p:=k.units;have n:=k.gd
 refine El (Af (Aq (Ak3 rfl c (k.mono (by lia)) b rfl a (Ad (qv 0) Ac) (Om (Oo (v:=.ref _) rfl d rfl) Ac4)))) ?_
 exact Bl (Ae7 (A7z me_var)) h
theorem Ap8 (F:Fun K "place_of" "place_of" Ph f b):FnOk P w K mg base CX0 1 f b ["table", "name"] (spP K Hd):=by
 refine F.ok yL (fun _ _ _ _=>Bm) (fun g A a s H d Q E c h=>?_)
 have j:=c.units;have e:=c.gd
 refine El (Ae (Bc (i:=2) yL.nd (Bg (Kq:=K) rfl (qv 0) Ag Bj))
  (Ae (Cg (Rb j (qv 1) (qv 2) (by trivial)) (Af Iz) Bb)
  (Af (Aq (Zm (Kq:=K) rfl jr jt ju (Pk rfl) (qv 2) (Ad (qv 1) Ac)))))) ?_
 exact Bl (by unfold Nb;walk_at "m") h
theorem Ag2 (F:Fun K "places_of" "places_of" Ob f c) (g:Def P w K mg base "place_of" 1 ["table", "name"] (spP K Hd)):FnOk P w K mg base CX0 2 f c ["table", "names"] (spP K Ed):=by
 refine F.ok Z5 (fun _ _ _ _=>Bm) (fun e A b s H j Q E a h=>?_)
 have k:=a.units;have d:=a.gd
 refine El (Af (Aq (by exact(Hh (N':=["name", "table"]) (idx:=[none,some 0]) Dc rfl (Cp (Kq:=K) rfl (qv 1)) (fun _ _ _ _ _=>by exact(Am (i:=0) (by show (["name", "table"]:v4).Nodup;decide +kernel))) qtN (fun _ _ _ _ _=>by exact(Ba g a (Ad (qv 1) (Ad (qv 0) Ac)))))))) ?_
 exact Bl (by unfold Ms;walk_at "m") h
theorem Af4 (F:Fun K "values_at" "values_at" Nv f c) (a:mg "tuple" = none):FnOk P w K mg base CX0 1 f c ["row", "places"] (spP K Cd):=by
 refine F.ok Zy (fun _ _ _ _=>Bm) (fun j A b s H g Q E d h=>?_)
 have k:=d.units;have e:=d.gd
 refine El (Af (Aq (Ak (Kq:=K) rfl rfl a (Ad (by exact(Hh (N':=["place", "row"]) (idx:=[none,some 0]) Dc rfl (Cp (Kq:=K) rfl (qv 1)) (fun _ _ _ _ _=>by exact(Am (i:=0) (by show (["place", "row"]:v4).Nodup;decide +kernel))) qtN (fun _ _ _ _ _=>by exact(Bg (Kq:=K) rfl (qv 1) (qv 0) G4)))) Ac)))) ?_
 exact Bl (by unfold Lr;walk_at "m") h
theorem Ni (F:Fun K "check_all_columns" "check_all_columns" Gp f g) (c:mg "all" = none) (b:mg "len" = none) (a:mg "list" = none):FnOk P w K mg base CX0 1 f g ["columns", "key", "names", "values"] (spP K Df):=by
 refine F.ok zW (fun _ _ _ _=>Bm) (fun l A d s H m Q E j h=>?_)
 have e:=j.units;have k:=j.gd
 refine El (Ae (Bc (i:=4) zW.nd (Ew (Ew (Eb (Kq:=K) rfl rfl a (Ad (qv 1) Ac)) (Eb (Kq:=K) rfl rfl a (Ad (qv 2) Ac))) (Eb (Kq:=K) rfl rfl a (Ad (qv 3) Ac))))
  (Ae (Cg (QW.qt (Ao5 (T9 e (Fi (Kq:=K) rfl rfl b (Ad (qv 4) Ac)) (Fi (Kq:=K) rfl rfl b (Ad (qv 0) Ac))) (Vm (A6s (Jy (Q5 (Kq:=K) rfl rfl rfl c (Ad (by exact(Hh (N':=["name", "together"]) (idx:=[none,some 4]) Dc rfl (Cp (Kq:=K) rfl (qv 0)) (fun _ _ _ _ _=>by exact(Am (i:=0) (by show (["name", "together"]:v4).Nodup;decide +kernel))) qtN (fun _ _ _ _ _=>by exact(Rt e (Zm (Kq:=K) rfl gZ PySem.F.slot_list_count PySem.F.type_list_count (A4s rfl) (qv 1) (Ad (qv 0) Ac)) Ag)))) Ac))))))) (Af Iz) Bb)
  (Af (Cg (G7 e (Fi (Kq:=K) rfl rfl b (Ad (qv 3) Ac)) Ag) (Af Iz) Bb)))) ?_
 exact Bl (by unfold Ft;walk_at "m") h
theorem Vt (F:Fun K "check_order" "check_order" K3 f g) (b:∃p,mg "ORDERS" = some (.ref p)/\∀H,SqT K H p ([Str.ofString "seen",Str.ofString "rising"].map V.str)):FnOk P w K mg base CX0 1 f g ["order"] (spP K Hj):=by
 obtain⟨d,c,a⟩:=b
 refine F.ok Wi (fun _ _ _ _=>Bm) fun j A e s H i Q E k h=>?_
 refine El (Af (Cg (Y0 rfl (qv 0) (Oo (v:=.ref _) rfl c rfl) (by trivial)) (Af Iz) Bb)) ?_
 exact Bl (Bf0 (Ou (Bc1 me_var a)) Ai1 Af1) h
theorem Tu (F:Fun K "rows_by_place" "rows_by_place" Jj f e) (j:Def P w K mg base "places_of" 2 ["table", "names"] (spP K Ed)) (g:Def P w K mg base "values_at" 1 ["row", "places"] (spP K Cd)) (a:mg "enumerate" = none):FnOk P w K mg base CX0 3 f e ["table", "key", "names"] (spP K Ep):=by
 refine F.ok zE (fun _ _ _ _=>Bm) (fun m A c s H l Q E b h=>?_)
 have o:=b.units;have k:=b.gd
 refine El (Ae (Bc (i:=3) zE.nd (Ba j b (Ad (qv 0) (Ad (qv 1) Ac))))
  (Ae (Bc (i:=4) zE.nd (Ba j b (Ad (qv 0) (Ad (qv 2) Ac))))
  (Ae (Bc (i:=5) zE.nd Ru) (Aa7 (d:=5) (G6 b_ rfl (Uv rfl a (Ad (Bg (Kq:=K) rfl (qv 0) Ag Bj) Ac)) (Je (Kq:=K) rfl (n:=2) rfl (Bf (Am (i:=6) zE.nd) (Bf (Am (i:=7) zE.nd) Gy))) (Ae (Bc (i:=8) zE.nd (Cz (Ad (Ba g b (Ad (qv 7) (Ad (qv 3) Ac))) (Ad (Ba g b (Ad (qv 7) (Ad (qv 4) Ac))) Ac))))
  (Af (Ij (Jt (Kq:=K) rfl (Bg6 o (qv 5) (qv 8) (Dk Ac) ⟨rfl,rfl,rfl,rfl⟩) (qv 6))))))
  (Af (Aq (qv 5))))))) ?_
 exact Bl (by unfold Ii;unfold Eu;walk_at "m") h
theorem Ye (F:Fun K "first_seen" "first_seen" Ls f c) (a:mg "tuple" = none):FnOk P w K mg base CX0 1 f c ["things"] (spP K Eh):=by
 refine F.ok yD (fun _ _ _ _=>Bm) (fun k A b s H j Q E e h=>?_)
 have l:=e.units;have g:=e.gd
 refine El (Ae (Bc (i:=1) yD.nd Ru) (Aa7 (d:=1) (G6 b_ rfl (Cp (Kq:=K) rfl (qv 0)) (Am (i:=2) yD.nd) (Af (Ae4 l (qv 1) (qv 2) Ai3)))
  (Af (Aq (Bn9 rfl rfl a (qv 1)))))) ?_
 exact Bl (by unfold K4;unfold Gx;walk_at "m") h
theorem Yj (F:Fun K "parts_seen" "parts_seen" Ml f c) (g:Def P w K mg base "first_seen" 1 ["things"] (spP K Eh)):FnOk P w K mg base CX0 2 f c ["groups"] (spP K Gu):=by
 refine F.ok Yn (fun _ _ _ _=>Bm) (fun e A b s H j Q E a h=>?_)
 have k:=a.units;have d:=a.gd
 refine El (Af (Aq (Ba g a (Ad (by exact(Hh (N':=["part", "head"]) (idx:=[none,none]) Dc rfl (An1 (qv 0)) (fun _ _ _ _ _=>by exact(Je (Kq:=K) rfl (n:=2) rfl (Bf (Am (i:=0) (by show (["part", "head"]:v4).Nodup;decide +kernel)) (Bf (Am (i:=1) (by show (["part", "head"]:v4).Nodup;decide +kernel)) Gy)))) qtN (fun _ _ _ _ _=>by exact(qv 0)))) Ac)))) ?_
 exact Bl (by unfold Kw;walk_at "m") h
theorem Yl (F:Fun K "heads_seen" "heads_seen" Mi f d) (l:Def P w K mg base "risen" 5 ["values"] (spP K M5)) (k:Def P w K mg base "first_seen" 1 ["things"] (spP K Eh)) (a:mg "tuple" = none):FnOk P w K mg base CX0 6 f d ["groups", "order"] (spP K Ff):=by
 refine F.ok yH (fun _ _ _ _=>Bm) (fun j A c s H g Q E b h=>?_)
 have m:=b.units;have e:=b.gd
 refine El (Ae (Bc (i:=2) yH.nd (Ba k b (Ad (by exact(Hh (N':=["part", "head"]) (idx:=[none,none]) Dc rfl (An1 (qv 0)) (fun _ _ _ _ _=>by exact(Je (Kq:=K) rfl (n:=2) rfl (Bf (Am (i:=0) (by show (["part", "head"]:v4).Nodup;decide +kernel)) (Bf (Am (i:=1) (by show (["part", "head"]:v4).Nodup;decide +kernel)) Gy)))) qtN (fun _ _ _ _ _=>by exact(qv 1)))) Ac)))
  (Af (Aq (Am9 (G7 m (qv 1) Dy) (Ak (Kq:=K) rfl rfl a (Ad (Ba l b (Ad (qv 2) Ac)) Ac)) (qv 2))))) ?_
 exact Bl (by unfold Im;walk_at "m") h
theorem Ap5 (F:Fun K "laid_row" "laid_row" Qc f c) (a:mg "tuple" = none):FnOk P w K mg base CX0 1 f c ["part", "heads", "things", "gap"] (spP K Fw):=by
 refine F.ok Aj1 (fun _ _ _ _=>Bm) (fun j A b s H g Q E d h=>?_)
 have k:=d.units;have e:=d.gd
 refine El (Af (Aq (Ak (Kq:=K) rfl rfl a (Ad (by exact(Hh (N':=["head", "gap", "things", "part"]) (idx:=[none,some 3,some 2,some 0]) Dc rfl (Cp (Kq:=K) rfl (qv 1)) (fun _ _ _ _ _=>by exact(Am (i:=0) (by show (["head", "gap", "things", "part"]:v4).Nodup;decide +kernel))) qtN (fun _ _ _ _ _=>by exact(Xa k (qv 2) (Cz (Ad (qv 3) (Ad (qv 0) Ac))) (qv 1) ⟨rfl,rfl,rfl,rfl⟩)))) Ac)))) ?_
 exact Bl (by unfold M4;walk_at "m") h
theorem Ak7 (F:Fun K "laid_out" "laid_out" Qm f e) (c:Def P w K mg base "laid_row" 1 ["part", "heads", "things", "gap"] (spP K Fw)) (a:mg "tuple" = none):FnOk P w K mg base CX0 2 f e ["parts", "heads", "things", "gap"] (spP K Ir):=by
 refine F.ok Am7 (fun _ _ _ _=>Bm) (fun k A b s H j Q E d h=>?_)
 have l:=d.units;have g:=d.gd
 refine El (Af (Aq (Ak (Kq:=K) rfl rfl a (Ad (by exact(Hh (N':=["part", "heads", "things", "gap"]) (idx:=[none,some 1,some 2,some 3]) Dc rfl (Cp (Kq:=K) rfl (qv 0)) (fun _ _ _ _ _=>by exact(Am (i:=0) (by show (["part", "heads", "things", "gap"]:v4).Nodup;decide +kernel))) qtN (fun _ _ _ _ _=>by exact(Ba c d (Ad (qv 0) (Ad (qv 1) (Ad (qv 2) (Ad (qv 3) Ac)))))))) Ac)))) ?_
 exact Bl (by unfold Nr;walk_at "m") h
theorem Su (F:Fun K "rows_laid_out" "rows_laid_out" Jh f g) (c:Def P w K mg base "laid_out" 2 ["parts", "heads", "things", "gap"] (spP K Ir)) (a:mg "tuple" = none) (b:mg "zip" = none):FnOk P w K mg base CX0 3 f g ["parts", "heads", "cells"] (spP K Eo):=by
 refine F.ok Ti (fun _ _ _ _=>Bm) (fun k A d s H j Q E e h=>?_)
 have l:=e.units;have i:=e.gd
 refine El (Af (Aq (Bi0 rfl rfl a rfl b (Ad (qv 0) (Ad (Ba c e (Ad (qv 0) (Ad (qv 1) (Ad (qv 2) (Ad Ie Ac))))) Ac))))) ?_
 exact Bl (by unfold Ia;walk_at "m") h
theorem X6 (F:Fun K "check_ways" "check_ways" Ly f c) (a:mg "len" = none):FnOk P w K mg base CX0 1 f c ["ways", "many", "allowed"] (spP K Gq):=by
 refine F.ok yI (fun _ _ _ _=>Bm) (fun j A b s H g Q E d h=>?_)
 have k:=d.units;have e:=d.gd
 refine El (Ae (Cg (T9 k (Fi (Kq:=K) rfl rfl a (Ad (qv 0) Ac)) (qv 1)) (Af Iz) Bb)
  (Af (G6 b_ rfl (Cp (Kq:=K) rfl (qv 0)) (Am (i:=3) yI.nd) (Af (Cg (Y0 (Kq:=K) rfl (qv 3) (qv 2) (by trivial)) (Af Iz) Bb))))) ?_
 exact Bl (by unfold K1;walk_at "m") h
theorem A2m (F:Fun K "sum_of" "sum_of" V6 f g) (c:mg "any" = none) (a:mg "isinstance" = none) (b:mg "str" = none) (d:mg "sum" = none):FnOk P w K mg base CX0 1 f g ["numbers"] (spP K Ld):=by
 refine F.ok A2w (fun _ _ _ _=>Bm) (fun m A e s H l Q E j h=>?_)
 have n:=j.units;have k:=j.gd
 refine El (Ae (Cg (Jy (Qq (Kq:=K) rfl rfl rfl c (Ad (by exact(Hh (N':=["number"]) (idx:=[none]) Dc rfl (Cp (Kq:=K) rfl (qv 0)) (fun _ _ _ _ _=>by exact(Am (i:=0) (by simp_all))) qtN (fun _ _ _ _ _=>by exact(Bp (Kq:=K) rfl rfl a (Ad (qv 0) (Ad (Dp (v:=.ty "str") rfl b Mx rfl) Ac)))))) Ac))) (Af Iz) Bb)
  (Af (Aq (Q8 (Kq:=K) rfl rfl rfl d (Ad (qv 0) Ac))))) ?_
 exact Bl (by unfold Tf;walk_at "m") h
theorem Uu (F:Fun K "put_together" "put_together" J2 f r) (d0:Def P w K mg base "rank" 2 ["value"] (spP K (Ck 2))) (q:Def P w K mg base "sum_of" 1 ["numbers"] (spP K Ld)) (e:mg "len" = none) (j:mg "max" = none) (k:mg "min" = none) (g:mg "set" = none):FnOk P w K mg base CX0 5 f r ["some", "way"] (spP K Bs):=by
 obtain⟨a,m,b,d,n,c⟩:=d0
 refine F.ok yE (fun _ _ _ _=>Bm) (fun x A p s H u Q E o h=>?_)
 have l:=o.units;have t:=o.gd
 refine El (Ae (Cg (G7 l (qv 1) Dy) (Af (Aq (Bg (Kq:=K) rfl (qv 0) Ag Bj))) Bb)
  (Ae (Cg (G7 l (qv 1) Dy) (Af (Aq (Bg (Kq:=K) rfl (qv 0) (B3e Ag) A7m))) Bb)
  (Ae (by exact(J5 (i:=2) yE.nd rfl (Or.inl rfl) (N':=["value"]) (idx:=[none]) Dc rfl (Cp (Kq:=K) rfl (qv 0)) (fun _ _ _ _ _=>by exact(Am (i:=0) (by grind))) (fun _ _ _ _ _=>by exact(A1q (Xf (qv 0) Ie))) (fun _ _ _ _ _=>by exact(qv 0))))
  (Ae (Cg (G7 l (qv 1) Dy) (Af (Aq (Ba q o (Ad (qv 2) Ac)))) Bb)
  (Ae (Cg (G7 l (qv 1) Dy) (Af (Aq (Fi (Kq:=K) rfl rfl e (Ad (qv 2) Ac)))) Bb)
  (Ae (Cg (G7 l (qv 1) Dy) (Af (Aq (A9y (Kq:=K) rfl rfl b (o.mono (by lia)) d rfl k (Ad (qv 2) Ac) (Om (Oo (v:=.ref a) rfl c rfl) (Om Ie Ac4))))) Bb)
  (Ae (Cg (G7 l (qv 1) Dy) (Af (Aq (A6u (Kq:=K) rfl rfl b (o.mono (by lia)) d rfl j (Ad (qv 2) Ac) (Om (Oo (v:=.ref a) rfl c rfl) (Om Ie Ac4))))) Bb)
  (Ae (Cg (G7 l (qv 1) Dy) (Af (Aq (A2q (Kq:=K) rfl rfl rfl g rfl e (qv 2)))) Bb)
  (Af Iz))))))))) ?_
 exact Bl (by unfold Ce;walk_at "m") h
theorem Qk (F:Fun K "column_together" "column_together" Ho f d) (a:Def P w K mg base "put_together" 5 ["some", "way"] (spP K Bs)):FnOk P w K mg base CX0 6 f d ["cells", "place", "way"] (spP K Ci):=by
 refine F.ok Qd (fun _ _ _ _=>Bm) (fun j A b s H g Q E c h=>?_)
 have k:=c.units;have e:=c.gd
 refine El (Af (Aq (Ba a c (Ad (by exact(Hh (N':=["cell", "place"]) (idx:=[none,some 1]) Dc rfl (Cp (Kq:=K) rfl (qv 0)) (fun _ _ _ _ _=>by exact(Am (i:=0) (by show (["cell", "place"]:v4).Nodup;decide +kernel))) qtN (fun _ _ _ _ _=>by exact(Bg (Kq:=K) rfl (qv 0) (qv 1) G4)))) (Ad (qv 2) Ac))))) ?_
 exact Bl (by unfold G5;walk_at "m") h
theorem Rw (F:Fun K "cells_together" "cells_together" Hz f g) (c:Def P w K mg base "column_together" 6 ["cells", "place", "way"] (spP K Ci)) (a:mg "enumerate" = none) (b:mg "tuple" = none):FnOk P w K mg base CX0 7 f g ["cells", "ways"] (spP K Di):=by
 refine F.ok Qx (fun _ _ _ _=>Bm) (fun l A d s H k Q E e h=>?_)
 have m:=e.units;have j:=e.gd
 refine El (Af (Aq (Ak (Kq:=K) rfl rfl b (Ad (by exact(Hh (N':=["place", "way", "cells"]) (idx:=[none,none,some 0]) Dc rfl (Uv rfl a (Ad (qv 1) Ac)) (fun _ _ _ _ _=>by exact(Je (Kq:=K) rfl (n:=2) rfl (Bf (Am (i:=0) (by show (["place", "way", "cells"]:v4).Nodup;decide +kernel)) (Bf (Am (i:=1) (by show (["place", "way", "cells"]:v4).Nodup;decide +kernel)) Gy)))) qtN (fun _ _ _ _ _=>by exact(Ba c e (Ad (qv 2) (Ad (qv 0) (Ad (qv 1) Ac))))))) Ac)))) ?_
 exact Bl (by unfold Hr;walk_at "m") h
theorem Sw (F:Fun K "check_folding" "check_folding" Ji f k) (l:Def P w K mg base "check_all_columns" 1 ["columns", "key", "names", "values"] (spP K Df)) (o:Def P w K mg base "check_order" 1 ["order"] (spP K Hj)) (j:Def P w K mg base "check_ways" 1 ["ways", "many", "allowed"] (spP K Gq)) (e:mg "len" = none) (c:∃p,mg "WAYS" = some (.ref p)/\∀H,SqT K H p (W7.map V.str)):FnOk P w K mg base CX0 2 f k ["columns", "key", "names", "values", "ways", "order"] (spP K En):=by
 obtain⟨b,d,a⟩:=c
 refine F.ok Tq (fun _ _ _ _=>Bm) (fun n A i s H m Q E g h=>?_)
 have r:=g.units;have q:=g.gd
 refine El (Ae (Ij (Ba l g (Ad (qv 0) (Ad (qv 1) (Ad (qv 2) (Ad (qv 3) Ac))))))
  (Ae (Ij (Ba o g (Ad (qv 5) Ac)))
  (Af (Ij (Ba j g (Ad (qv 4) (Ad (Fi (Kq:=K) rfl rfl e (Ad (qv 3) Ac)) (Ad (Oo (v:=.ref b) rfl d rfl) Ac)))))))) ?_
 exact Bl (by unfold Ig;walk_at "m") h
theorem R0 (F:Fun K "cells_by_place" "cells_by_place" H9 f e) (m:Def P w K mg base "places_of" 2 ["table", "names"] (spP K Ed)) (l:Def P w K mg base "values_at" 1 ["row", "places"] (spP K Cd)) (b:Def P w K mg base "cells_together" 7 ["cells", "ways"] (spP K Di)):FnOk P w K mg base CX0 8 f e ["table", "values", "ways", "groups"] (spP K Ec):=by
 refine F.ok zG (fun _ _ _ _=>Bm) (fun k A c s H j Q E a h=>?_)
 have o:=a.units;have g:=a.gd
 refine El (Ae (Bc (i:=4) zG.nd (Ba m a (Ad (qv 0) (Ad (qv 1) Ac))))
  (Ae (Bc (i:=5) zG.nd Ru) (Aa7 (d:=5) (G6 b_ rfl (A2k (qv 3)) (Je (Kq:=K) rfl (n:=2) rfl (Bf (Am (i:=6) zG.nd) (Bf (Am (i:=7) zG.nd) Gy))) (Ae (by exact(J5 (i:=8) zG.nd rfl (Or.inl rfl) (N':=["number", "value_places", "table"]) (idx:=[none,some 4,some 0]) Dc rfl (Cp (Kq:=K) rfl (qv 7)) (fun _ _ _ _ _=>by exact(Am (i:=0) (by show (["number", "value_places", "table"]:v4).Nodup;decide +kernel))) qtN (fun _ _ _ _ _=>by exact(Ba l a (Ad (Bg (Kq:=K) rfl (Bg (Kq:=K) rfl (qv 2) Ag Bj) (qv 0) G4) (Ad (qv 1) Ac))))))
  (Af (Ae4 o (qv 5) (qv 6) (Ba b a (Ad (qv 8) (Ad (qv 2) Ac)))))))
  (Af (Aq (qv 5)))))) ?_
 exact Bl (by unfold Hs;unfold Do;walk_at "m") h
theorem Af9 (F:Fun K "folded_by" "folded_by" Oa f k) (o:Def P w K mg base "rows_by_place" 3 ["table", "key", "names"] (spP K Ep)) (l:Def P w K mg base "parts_seen" 2 ["groups"] (spP K Gu)) (j:Def P w K mg base "heads_seen" 6 ["groups", "order"] (spP K Ff)) (d:Def P w K mg base "rows_laid_out" 3 ["parts", "heads", "cells"] (spP K Eo)) (c:Def P w K mg base "check_folding" 2 ["columns", "key", "names", "values", "ways", "order"] (spP K En)) (g:Def P w K mg base "cells_by_place" 8 ["table", "values", "ways", "groups"] (spP K Ec)) (a:mg "tuple" = none):FnOk P w K mg base CX0 9 f k ["table", "key", "names", "values", "ways", "order"] (spP K Eg):=by
 refine F.ok zY (fun _ _ _ _=>Bm) (fun n A e s H m Q E b h=>?_)
 have q:=b.units;have p:=b.gd
 refine El (Ae (Ij (Ba c b (Ad (Bg (Kq:=K) rfl (qv 0) Ag Bj) (Ad (qv 1) (Ad (qv 2) (Ad (qv 3) (Ad (qv 4) (Ad (qv 5) Ac))))))))
  (Ae (Bc (i:=6) zY.nd (Ba o b (Ad (qv 0) (Ad (qv 1) (Ad (qv 2) Ac)))))
  (Ae (Bc (i:=7) zY.nd (Ba j b (Ad (qv 6) (Ad (qv 5) Ac))))
  (Ae (Bc (i:=8) zY.nd (Ba d b (Ad (Ba l b (Ad (qv 6) Ac)) (Ad (qv 7) (Ad (Ba g b (Ad (qv 0) (Ad (qv 3) (Ad (qv 4) (Ad (qv 6) Ac))))) Ac)))))
  (Af (Aq (Cz (Ad (Ak (Kq:=K) rfl rfl a (Ad (qv 1) Ac)) (Ad (Ak (Kq:=K) rfl rfl a (Ad (qv 2) Ac)) (Ad (Ak (Kq:=K) rfl rfl a (Ad (qv 3) Ac)) (Ad (qv 7) (Ad (qv 8) Ac)))))))))))) ?_
 exact Bl (by unfold Ma;walk_at "m") h
theorem Ac7 (F:Fun K "_law_cell_at" "_law_cell_at" Ng f c) (a:mg "len" = none):FnOk P w K mg base CX0 1 f c ["_law_script", "_law_k"] (spP K Gh):=by
 refine F.ok Ad6 (fun _ _ _ _=>Bm) (fun i A b s H g Q E d h=>?_)
 have j:=d.units;have e:=d.gd
 refine El (Ae (Cg (Aj2 (qv 1) (Fi rfl rfl a (Ad (qv 0) Ac))) (Af (Aq (Bv6 (show IxR _ _ from By4) (qv 0) (qv 1) G4))) Bb)
  (Af (Aq Ag))) ?_
 exact Bl (A9t (Bf0 (Ou (A9d me_var (Bb0 me_var) A1o)) (Ae7 (Bd1 me_var me_var)) Af1)
  (Ae7 (B6h rfl))) h
theorem Bf5 (F:Fun K "_law_box" "_law_box" Z0 f g) (c:Def P w K mg base "_law_cell_at" 1 ["_law_script", "_law_k"] (spP K Gh)) (a:mg "abs" = none) (b:mg "int" = none):FnOk P w K mg base CX0 2 f g ["_law_script", "_law_k"] (spP K M6):=by
 refine F.ok yQ (fun _ _ _ _=>Bm) (fun l A d s H k Q E e h=>?_)
 have m:=e.units;have j:=e.gd
 refine El (Ae (Bc (i:=2) yQ.nd (Ba c e (Ad (qv 0) (Ad (qv 1) Ac))))
  (Af (Aq (Dk (Ad (Js (Ub (Kq:=K) rfl rfl a (Ad (qv 2) Ac)) (Fb (Kq:=K) rfl rfl b (Ad (Ba2 (Ub (Kq:=K) rfl rfl a (Ad (qv 2) Ac)) (Jv Ag Ag)) Ac))) (Ad (Ew (Ew (Ih (qv 2) Ag) (Js Ag (qv 1))) Ag) (Ad Ag Ac))))))) ?_
 exact Bl (by unfold Xh;walk_at "m") h
theorem A4z (F:Fun K "_law_take" "_law_take" Vj f b):FnOk P w K mg base CX0 1 f b ["_law_box_here", "_law_many_here"] (spP K An):=by
 refine F.ok yF (fun _ _ _ _=>Bm) (fun g A a s H d Q E c h=>?_)
 have j:=c.units;have e:=c.gd
 refine El (Ae (Cg (A8l (Bg (Kq:=K) rfl (qv 0) Ag Bj) Ag) (Ae (Bc (i:=2) yF.nd (Ih (Bg (Kq:=K) rfl (qv 0) Ag Bj) (qv 1)))
  (Ae (S5 (Xr (Bg (Kq:=K) rfl (qv 0) Ag Bj) (qv 1)) (Av0 (qv 0) Ag set_list))
  (Af (Aq (qv 2))))) Bb)
  (Ae (S5 (Ew (Bg (Kq:=K) rfl (qv 0) Ag Bj) Ag) (Av0 (qv 0) Ag set_list))
  (Ae (Bc (i:=3) yF.nd (Ih (Js (Ew (Bg (Kq:=K) rfl (qv 0) Ag Bj) (Js Ag (Bg (Kq:=K) rfl (qv 0) Ag Bj))) (Ew Ag (Bg (Kq:=K) rfl (qv 0) Ag Bj))) Ag))
  (Ae (Bc (i:=4) yF.nd (Ih (Js (Ew (qv 3) (Bg (Kq:=K) rfl (qv 0) Ag Bj)) (Ew (Ih (qv 3) Ag) Ag)) Ag))
  (Af (Aq (Ih (Xr (Ih (Ew (Js (qv 4) Ag) (qv 3)) Ag) Ag) (qv 1)))))))) ?_
 exact Bl (by unfold O1;walk_at "m") h
theorem A4e (F:Fun K "_law_many" "_law_many" Xu f d) (a:Dd0 P w K mg base):FnOk P w K mg base CX0 2 f d ["_law_box_here", "_law_least", "_law_few", "_law_most"] (spP K Hw):=by
 refine F.ok A2j (fun _ _ _ _=>Bm) (fun i A c s H g Q E b h=>?_)
 have j:=b.units;have e:=b.gd
 refine El (Ae (Cg (G7 j (Ba a b (Ad (qv 0) (Ad Ag Ac))) Ag) (Af (Aq (Ew Ag (Ba a b (Ad (qv 0) (Ad (Gd (qv 3) Ag) Ac)))))) Bb)
  (Af (Aq (Ew (qv 1) (Ba a b (Ad (qv 0) (Ad (Ew (Gd (qv 2) (qv 1)) Ag) Ac))))))) ?_
 exact Bl (by unfold Ox;walk_at "m") h
theorem Ax0 (F:Fun K "_law_names" "_law_names" Tj f m) (g:Dd0 P w K mg base) (e:mg "len" = none) (d:mg "range" = none):FnOk P w K mg base CX0 2 f m ["_law_box_here", "_law_many_here"] (spP K Jw):=by
 refine F.ok yM (fun _ _ _ _=>Bm) (fun n A k s H l Q E j h=>?_)
 have p:=j.units;have o:=j.gd
 refine El (Ae (Bc (i:=2) yM.nd (Dk (O2 (vs:=[.str "b",.str "a",.str "year",.str "z",.str "ab",.str "month",.str "aa",.str "quantity",.str "c",.str "town",.str "zz",.str "ba"]) rfl)))
  (Af (Aq (by exact(Hh (N':=["_law_turn", "_law_some", "_law_box_here"]) (idx:=[none,some 2,some 0]) Dc rfl (Oj rfl d (Ad (qv 1) Ac)) (fun _ _ _ _ _=>by exact(Am (i:=0) (by show (["_law_turn", "_law_some", "_law_box_here"]:v4).Nodup;decide +kernel))) qtN (fun _ _ _ _ _=>by exact(Zm (Kq:=K) rfl gZ PySem.F.slot_list_pop PySem.F.type_list_pop Am5 (qv 1) (Ad (Ba g j (Ad (qv 2) (Ad (Fi (Kq:=K) rfl rfl e (Ad (qv 1) Ac)) Ac))) Ac)))))))) ?_
 exact Bl (by unfold Pq;walk_at "m") h
theorem Av5 (F:Fun K "_law_value" "_law_value" Sv f g) (c:Dd0 P w K mg base):FnOk P w K mg base CX0 2 f g ["_law_box_here"] (spP K Ex):=by
 refine F.ok yN (fun _ _ _ _=>Bm) (fun m A e s H k Q E d h=>?_)
 have j:=d.units;have l:=d.gd
 refine El (Ae (Bc (i:=1) yN.nd (Ba c d (Ad (qv 0) (Ad Ag Ac))))
  (Ae (Cg (Aj2 (qv 1) Ag) (Af (Aq (Gd (Ba c d (Ad (qv 0) (Ad Ag Ac))) Ag))) Bb)
  (Ae (Cg (G7 j (qv 1) Ag) (Af (Aq (Bg (Kq:=K) rfl (Dk (Ad (Gd (Jv Ag Ag) Ag) (Ad (Gd Ag (Jv Ag Ag)) (Ad Ag (Ad Ag Ac))))) (Ba c d (Ad (qv 0) (Ad Ag Ac))) Dj))) Bb)
  (Ae (Cg (G7 j (qv 1) Ag) (Af (Aq Ie)) Bb)
  (Af (Aq (Bg (Kq:=K) rfl (Dk (O2 (vs:=[.str "",.str "a",.str "b",.str "B",.str "10",.str "9",.str "-",.str "a b",.str "it's",.str "\\",.str "/",.str "_",.str ":",.str "None",.str "ab"]) rfl)) (Ba c d (Ad (qv 0) (Ad Ag Ac))) Dj))))))) ?_
 exact Bl (by unfold Hy;walk_at "m") h
theorem A3u (F:Fun K "_law_pool" "_law_pool" Vs f e) (c:Def P w K mg base "_law_value" 2 ["_law_box_here"] (spP K Ex)) (a:mg "range" = none):FnOk P w K mg base CX0 3 f e ["_law_box_here", "_law_many_here"] (spP K G8):=by
 refine F.ok yG (fun _ _ _ _=>Bm) (fun k A b s H j Q E d h=>?_)
 have l:=d.units;have g:=d.gd
 refine El (Ae (Bc (i:=2) yG.nd (Dk Ac))
  (Ae (G6 b_ rfl (Oj rfl a (Ad (qv 1) Ac)) (Am (i:=3) yG.nd) (Ae (Bc (i:=4) yG.nd (Ba c d (Ad (qv 0) Ac)))
  (Af (Cg (Rb l (qv 4) (qv 2) (by trivial)) (Af (Ij (Jt (Kq:=K) rfl (qv 2) (qv 4)))) Bb))))
  (Af (Aq (qv 2))))) ?_
 exact Bl (by unfold Tw;walk_at "m") h
theorem Ax1 (F:Fun K "_law_table" "_law_table" Sx f l) (d:Dd0 P w K mg base) (j:Def P w K mg base "_law_names" 2 ["_law_box_here", "_law_many_here"] (spP K Jw)) (g:Def P w K mg base "_law_pool" 3 ["_law_box_here", "_law_many_here"] (spP K G8)) (b:mg "len" = none) (c:mg "range" = none) (a:mg "tuple" = none):FnOk P w K mg base CX0 4 f l ["_law_box_here", "_law_many_here", "_law_rows"] (spP K Lq):=by
 refine F.ok zM (fun _ _ _ _=>Bm) (fun o A k s H n Q E e h=>?_)
 have m:=e.units;have p:=e.gd
 refine El (Ae (Bc (i:=3) zM.nd (Ba j e (Ad (qv 0) (Ad (qv 1) Ac))))
  (Ae (by exact(J5 (i:=4) zM.nd rfl (Or.inl rfl) (N':=["_law_name", "_law_box_here"]) (idx:=[none,some 0]) Dc rfl (Cp (Kq:=K) rfl (qv 3)) (fun _ _ _ _ _=>by exact(Am (i:=0) (by show (["_law_name", "_law_box_here"]:v4).Nodup;decide +kernel))) qtN (fun _ _ _ _ _=>by exact(Ba g e (Ad (qv 1) (Ad (Bg (Kq:=K) rfl (Dk (O2 (vs:=[.int 2,.int 3,.int 3,.int 5,.int 12]) rfl)) (Ba d e (Ad (qv 1) (Ad Ag Ac))) Dj) Ac))))))
  (Ae (Bc (i:=5) zM.nd (Dk Ac))
  (Ae (G6 b_ rfl (Oj rfl c (Ad (qv 2) Ac)) (Am (i:=6) zM.nd) (Ae (Bc (i:=7) zM.nd (Ak (Kq:=K) rfl rfl a (Ad (by exact(Hh (N':=["_law_pool_here", "_law_box_here"]) (idx:=[none,some 0]) Dc rfl (Cp (Kq:=K) rfl (qv 4)) (fun _ _ _ _ _=>by exact(Am (i:=0) (by show (["_law_pool_here", "_law_box_here"]:v4).Nodup;decide +kernel))) qtN (fun _ _ _ _ _=>by exact(Bg (Kq:=K) rfl (qv 0) (Ba d e (Ad (qv 1) (Ad (Fi (Kq:=K) rfl rfl b (Ad (qv 0) Ac)) Ac))) Dj)))) Ac)))
  (Ae (Cg (QW.qt (A8p (T9 m (qv 5) (Dk Ac)) (A0v (G7 m (Ba d e (Ad (qv 0) (Ad Ag Ac))) Ag)))) (Af (Bc (i:=7) zM.nd (Bg (Kq:=K) rfl (qv 5) (Ba d e (Ad (qv 0) (Ad (Fi (Kq:=K) rfl rfl b (Ad (qv 5) Ac)) Ac))) Dj))) Bb)
  (Af (Ij (Jt (Kq:=K) rfl (qv 5) (qv 7)))))))
  (Af (Aq (Cz (Ad (Ak (Kq:=K) rfl rfl a (Ad (qv 3) Ac)) (Ad (Ak (Kq:=K) rfl rfl a (Ad (qv 5) Ac)) Ac))))))))) ?_
 exact Bl (by unfold Mw;walk_at "m") h
theorem V4 (F:Fun K "_law_any_table" "_law_any_table" K6 f e) (b:Def P w K mg base "_law_many" 2 ["_law_box_here", "_law_least", "_law_few", "_law_most"] (spP K Hw)) (d:Def P w K mg base "_law_table" 4 ["_law_box_here", "_law_many_here", "_law_rows"] (spP K Lq)):FnOk P w K mg base CX0 5 f e ["_law_box_here"] (spP K Fy):=by
 refine F.ok V1 (fun _ _ _ _=>Bm) (fun j A c s H i Q E a h=>?_)
 have k:=a.units;have g:=a.gd
 refine El (Af (Aq (Ba d a (Ad (qv 0) (Ad (Ba b a (Ad (qv 0) (Ad Ag (Ad Ag (Ad Ag Ac))))) (Ad (Ba b a (Ad (qv 0) (Ad Ag (Ad Ag (Ad Ag Ac))))) Ac)))))) ?_
 exact Bl (by unfold Jz;walk_at "m") h
theorem Ag9 (F:Fun K "_law_parted" "_law_parted" Pz f k) (b:Dd0 P w K mg base) (e:mg "int" = none) (a:mg "len" = none) (c:mg "list" = none) (d:mg "min" = none):FnOk P w K mg base CX0 2 f k ["_law_box_here", "_law_columns"] (spP K Ip):=by
 refine F.ok zO (fun _ _ _ _=>Bm) (fun l A j s H n Q E g h=>?_)
 have o:=g.units;have m:=g.gd
 refine El (Ae (Bc (i:=2) zO.nd (Eb (Kq:=K) rfl rfl c (Ad (qv 1) Ac)))
  (Ae (by exact(J5 (i:=3) zO.nd rfl (Or.inl rfl) (N':=["_law_one", "_law_left", "_law_box_here"]) (idx:=[none,some 2,some 0]) Dc rfl (Cp (Kq:=K) rfl (qv 1)) (fun _ _ _ _ _=>by exact(Am (i:=0) (by show (["_law_one", "_law_left", "_law_box_here"]:v4).Nodup;decide +kernel))) qtN (fun _ _ _ _ _=>by exact(Zm (Kq:=K) rfl gZ PySem.F.slot_list_pop PySem.F.type_list_pop Am5 (qv 1) (Ad (Ba b g (Ad (qv 2) (Ad (Fi (Kq:=K) rfl rfl a (Ad (qv 1) Ac)) Ac))) Ac)))))
  (Ae (Bc (i:=4) zO.nd (Ew Ag (Ba b g (Ad (qv 0) (Ad (Ac5 (Kq:=K) rfl rfl rfl d (Ad (Bg (Kq:=K) rfl (Dk (Ad Ag (Ad Ag Ac))) (Fb (Kq:=K) rfl rfl e (Ad (Rt o (Ba b g (Ad (qv 0) (Ad Ag Ac))) Ag) Ac)) Dj) (Ad (Fi (Kq:=K) rfl rfl a (Ad (qv 3) Ac)) Ac))) Ac)))))
  (Ae (Bc (i:=5) zO.nd (A1z (Kq:=K) rfl (qv 3) (U6 (qv 4)) U9))
  (Ae (Bc (i:=6) zO.nd (Ba b g (Ad (qv 0) (Ad (Ew (Fi (Kq:=K) rfl rfl a (Ad (qv 5) Ac)) Ag) Ac))))
  (Af (Aq (Cz (Ad (A1z (Kq:=K) rfl (qv 5) U9 (U6 (qv 6))) (Ad (A1z (Kq:=K) rfl (qv 5) (U6 (qv 6)) U9) (Ad (A1z (Kq:=K) rfl (qv 3) U9 (U6 (qv 4))) Ac))))))))))) ?_
 exact Bl (by unfold M7;walk_at "m") h
theorem Bp4 (F:Fun K "_law_in" "_law_in" Ar6 f c) (a:mg "tuple" = none):FnOk P w K mg base CX0 1 f c ["_law_table_here", "_law_row", "_law_names_here"] (spP K Gw):=by
 refine F.ok Bq2 (fun _ _ _ _=>Bm) (fun j A b s H g Q E d h=>?_)
 have k:=d.units;have e:=d.gd
 refine El (Af (Aq (Ak (Kq:=K) rfl rfl a (Ad (by exact(Hh (N':=["_law_name", "_law_row", "_law_table_here"]) (idx:=[none,some 1,some 0]) Dc rfl (Cp (Kq:=K) rfl (qv 2)) (fun _ _ _ _ _=>by exact(Am (i:=0) (by show (["_law_name", "_law_row", "_law_table_here"]:v4).Nodup;decide +kernel))) qtN (fun _ _ _ _ _=>by exact(Bg (Kq:=K) rfl (qv 1) (Zm (Kq:=K) rfl jr jt ju (Pk rfl) (Bg (Kq:=K) rfl (qv 2) Ag Bj) (Ad (qv 0) Ac)) Dj)))) Ac)))) ?_
 exact Bl (by unfold Z3;walk_at "m") h
theorem Ak0 (F:Fun K "_law_number" "_law_number" Qf f d) (a:Dd0 P w K mg base):FnOk P w K mg base CX0 2 f d ["_law_box_here"] (spP K Fq):=by
 refine F.ok Ah9 (fun _ _ _ _=>Bm) (fun i A c s H g Q E b h=>?_)
 have j:=b.units;have e:=b.gd
 refine El (Ae (Cg (G7 j (Ba a b (Ad (qv 0) (Ad Ag Ac))) Ag) (Af (Aq (Bg (Kq:=K) rfl (Dk (Ad (Gd (Jv Ag Ag) Ag) (Ad (Gd Ag (Jv Ag Ag)) (Ad (Jv Ag Ag) (Ad Ag Ac))))) (Ba a b (Ad (qv 0) (Ad Ag Ac))) Dj))) Bb)
  (Af (Aq (Gd (Ba a b (Ad (qv 0) (Ad Ag Ac))) Ag)))) ?_
 exact Bl (by unfold Ko;walk_at "m") h
theorem A5n (F:Fun K "_law_rank" "_law_rank" V2 f d) (a:mg "isinstance" = none) (b:mg "str" = none):FnOk P w K mg base CX0 1 f d ["_law_value_here"] (spP K Ea):=by
 refine F.ok A4n (fun _ _ _ _=>Bm) (fun j A c s H i Q E e h=>?_)
 have k:=e.units;have g:=e.gd
 refine El (Ae (Cg (Ow (qv 0) Ie) (Af (Aq (Cz (Ad Ag (Ad Ag (Ad Dy Ac)))))) Bb)
  (Ae (Cg (Jy (Bp (Kq:=K) rfl rfl a (Ad (qv 0) (Ad (Dp (v:=.ty "str") rfl b Mx rfl) Ac)))) (Af (Aq (Cz (Ad Ag (Ad Ag (Ad (qv 0) Ac)))))) Bb)
  (Af (Aq (Cz (Ad Ag (Ad (qv 0) (Ad Dy Ac)))))))) ?_
 exact Bl (by unfold Ot;walk_at "m") h
theorem At6 (F:Fun K "_law_ranks" "_law_ranks" Tv f d) (a:Def P w K mg base "_law_rank" 1 ["_law_value_here"] (spP K Ea)):FnOk P w K mg base CX0 2 f d ["_law_values"] (spP K Ej):=by
 refine F.ok At8 (fun _ _ _ _=>Bm) (fun j A b s H g Q E c h=>?_)
 have k:=c.units;have e:=c.gd
 refine El (Af (Aq (by exact(Hh (N':=["_law_value_here"]) (idx:=[none]) Dc rfl (Cp (Kq:=K) rfl (qv 0)) (fun _ _ _ _ _=>by exact(Am (i:=0) (by grind))) qtN (fun _ _ _ _ _=>by exact(Ba a c (Ad (qv 0) Ac))))))) ?_
 exact Bl (by unfold Pn;walk_at "m") h
theorem A3p (F:Fun K "_law_same" "_law_same" Q9 f r) (o:Def P w K mg base "_law_same" (n) ["_law_found", "_law_due_here"] (spP K (Dd n))) (j:mg "all" = none) (d:mg "bool" = none) (k:mg "int" = none) (a:mg "isinstance" = none) (g:mg "len" = none) (c:mg "list" = none) (e:mg "str" = none) (b:mg "tuple" = none) (l:mg "zip" = none):FnOk P w K mg base CX0 (n+1) f r ["_law_found", "_law_due_here"] (spP K (Dd (n+1))):=by
 refine F.ok A2y (fun _ _ _ _=>Bm) (fun x A p s H u Q E q h=>?_)
 have m:=q.units;have t:=q.gd
 refine El (Ae (Cg (Jy (Ac9 (Kq:=K) rfl rfl a (Ad (qv 1) (Ad (Cz (Ad (Dp (v:=.ty "list") rfl c Ve rfl) (Ad (Dp (v:=.ty "tuple") rfl b Lh rfl) Ac))) Ac)))) (Ae (Cg (QW.qt (Ao5 (T9 m (Bp (Kq:=K) rfl rfl a (Ad (qv 0) (Ad (Dp (v:=.ty "list") rfl c Ve rfl) Ac))) (Bp (Kq:=K) rfl rfl a (Ad (qv 1) (Ad (Dp (v:=.ty "list") rfl c Ve rfl) Ac)))) (Vm (T9 m (Bp (Kq:=K) rfl rfl a (Ad (qv 0) (Ad (Dp (v:=.ty "tuple") rfl b Lh rfl) Ac))) (Bp (Kq:=K) rfl rfl a (Ad (qv 1) (Ad (Dp (v:=.ty "tuple") rfl b Lh rfl) Ac))))))) (Af (Aq Ai3)) Bb)
  (Af (Aq (Xd (Rt m (Fi (Kq:=K) rfl rfl g (Ad (qv 0) Ac)) (Fi (Kq:=K) rfl rfl g (Ad (qv 1) Ac))) (Zz (Q5 (Kq:=K) rfl rfl rfl j (Ad (by exact(Hh (N':=["_law_one", "_law_other"]) (idx:=[none,none]) Dc rfl (A7s rfl l (Ad (qv 0) (Ad (qv 1) Ac))) (fun _ _ _ _ _=>by exact(Je (Kq:=K) rfl (n:=2) rfl (Bf (Am (i:=0) (by show (["_law_one", "_law_other"]:v4).Nodup;decide +kernel)) (Bf (Am (i:=1) (by show (["_law_one", "_law_other"]:v4).Nodup;decide +kernel)) Gy)))) qtN (fun _ _ _ _ _=>by exact(Ba o q (Ad (qv 0) (Ad (qv 1) Ac)))))) Ac))))))) Bb)
  (Ae (Cg (QW.qt (Ao5 (Ow (qv 1) Ie) (Vm (Jy (Bp (Kq:=K) rfl rfl a (Ad (qv 1) (Ad (Dp (v:=.ty "str") rfl e Mx rfl) Ac))))))) (Af (Aq (Xd (Rt m (qv 0) (qv 1)) (Zz (Rt m (Bp (Kq:=K) rfl rfl a (Ad (qv 0) (Ad (Dp (v:=.ty "str") rfl e Mx rfl) Ac))) (Bp (Kq:=K) rfl rfl a (Ad (qv 1) (Ad (Dp (v:=.ty "str") rfl e Mx rfl) Ac)))))))) Bb)
  (Ae (Cg (Jy (Bp (Kq:=K) rfl rfl a (Ad (qv 1) (Ad (Dp (v:=.ty "bool") rfl d Af2 rfl) Ac)))) (Af (Aq (Xd (Bp (Kq:=K) rfl rfl a (Ad (qv 0) (Ad (Dp (v:=.ty "bool") rfl d Af2 rfl) Ac))) (Zz (Rt m (qv 0) (qv 1)))))) Bb)
  (Af (Aq (Xd (Bp (Kq:=K) rfl rfl a (Ad (qv 0) (Ad (Dp (v:=.ty "int") rfl k Au3 rfl) Ac))) (Xd (B0j (Bp (Kq:=K) rfl rfl a (Ad (qv 0) (Ad (Dp (v:=.ty "bool") rfl d Af2 rfl) Ac)))) (Zz (Rt m (qv 0) (qv 1)))))))))) ?_
 exact Bl (by unfold Ha;walk_at "m") h
theorem Vk {f:Addr}{fd:v_}(F:Fun K "_law_same" "_law_same" Q9 f fd) (bF:Binds K fd ["_law_found", "_law_due_here"] []) (mF:mg "_law_same" = some (.ref f)) (yO:mg "all" = none) (yP:mg "bool" = none) (zQ:mg "int" = none) (zA:mg "isinstance" = none) (zT:mg "len" = none) (yC:mg "list" = none) (zR:mg "str" = none) (zB:mg "tuple" = none) (yJ:mg "zip" = none):∀n:Nat,FnOk P w K mg base CX0 (n) f fd ["_law_found", "_law_due_here"] (spP K (Dd n))
 | 0=>A6b
 | n+1=>A3p F ⟨f,fd,Vk F bF mF yO yP zQ zA zT yC zR zB yJ n,bF,F.kp,mF⟩ yO yP zQ zA zT yC zR zB yJ
theorem A9i (F:Fun K "_law_put" "_law_put" Aa0 f n) (k:Def P w K mg base "_law_rank" 1 ["_law_value_here"] (spP K Ea)) (j:mg "any" = none) (c:mg "int" = none) (a:mg "isinstance" = none) (b:mg "len" = none) (e:mg "str" = none) (g:mg "sum" = none):FnOk P w K mg base CX0 2 f n ["_law_some", "_law_way"] (spP K Er):=by
 refine F.ok zP (fun _ _ _ _=>Bm) (fun q A m s H p Q E l h=>?_)
 have d:=l.units;have o:=l.gd
 refine El (Ae (by exact(J5 (i:=2) zP.nd rfl (Or.inl rfl) (N':=["_law_value_here"]) (idx:=[none]) Dc rfl (Cp (Kq:=K) rfl (qv 0)) (fun _ _ _ _ _=>by exact(Am (i:=0) (by show (["_law_value_here"]:v4).Nodup;decide +kernel))) (fun _ _ _ _ _=>by exact(A1q (Xf (qv 0) Ie))) (fun _ _ _ _ _=>by exact(qv 0))))
  (Ae (Cg (B4t d (qv 1) (Cz (Ad Dy (Ad Dy Ac))) (by with_unfolding_all rfl)) (Af (Aq (Bg (Kq:=K) rfl (qv 0) (Bg (Kq:=K) rfl (Dk (Ad Ag (Ad (Gd (Fi (Kq:=K) rfl rfl b (Ad (qv 0) Ac)) Ag) Ac))) (Fb (Kq:=K) rfl rfl c (Ad (Rt d (qv 1) Dy) Ac)) Dj) A3l))) Bb)
  (Ae (Cg (G7 d (qv 1) Dy) (Af (Aq (Am9 (Jy (Qq (Kq:=K) rfl rfl rfl j (Ad (by exact(Hh (N':=["_law_value_here"]) (idx:=[none]) Dc rfl (Cp (Kq:=K) rfl (qv 2)) (fun _ _ _ _ _=>by exact(Am (i:=0) (by show (["_law_value_here"]:v4).Nodup;decide +kernel))) qtN (fun _ _ _ _ _=>by exact(Bp (Kq:=K) rfl rfl a (Ad (qv 0) (Ad (Dp (v:=.ty "str") rfl e Mx rfl) Ac)))))) Ac))) Dy (Q8 (Kq:=K) rfl rfl rfl g (Ad (qv 2) Ac))))) Bb)
  (Ae (Cg (G7 d (qv 1) Dy) (Af (Aq (Fi (Kq:=K) rfl rfl b (Ad (qv 2) Ac)))) Bb)
  (Ae (Cg (G7 d (qv 1) Dy) (Ae (Bc (i:=3) zP.nd (Dk Ac))
  (Ae (G6 b_ rfl (Cp (Kq:=K) rfl (qv 2)) (Am (i:=4) zP.nd) (Af (Bc (i:=3) zP.nd (Ew (qv 3) (Tc (Dk (Ad (qv 4) Ac)) (Fb (Kq:=K) rfl rfl c (Ad (Mg d (qv 4) (qv 3) (by with_unfolding_all rfl)) Ac)))))))
  (Af (Aq (Fi (Kq:=K) rfl rfl b (Ad (qv 3) Ac)))))) Bb)
  (Ae (Bc (i:=5) zP.nd Ie)
  (Ae (G6 b_ rfl (Cp (Kq:=K) rfl (qv 2)) (Am (i:=4) zP.nd) (Af (Cg (QW.qt (Ao5 (Ow (qv 5) Ie) (Vm (G7 d (A4c d (Ba k l (Ad (qv 4) Ac)) (Ba k l (Ad (qv 5) Ac))) (Rt d (qv 1) Dy))))) (Af (Bc (i:=5) zP.nd (qv 4))) Bb)))
  (Af (Aq (qv 5)))))))))) ?_
 exact Bl (by unfold Hn;walk_at "m") h
theorem A5r (F:Fun K "_law_case" "_law_case" Wa f q) (k:Dd0 P w K mg base) (m:Def P w K mg base "_law_any_table" 5 ["_law_box_here"] (spP K Fy)) (l:Def P w K mg base "_law_parted" 2 ["_law_box_here", "_law_columns"] (spP K Ip)) (p:Def P w K mg base "_law_number" 2 ["_law_box_here"] (spP K Fq)) (j:mg "int" = none) (a:mg "isinstance" = none) (c:mg "list" = none) (d:mg "str" = none) (b:mg "tuple" = none) (e:mg "zip" = none):FnOk P w K mg base CX0 6 f q ["_law_box_here"] (spP K Ov):=by
 refine F.ok zF (fun _ _ _ _=>Bm) (fun t A o s H r Q E g h=>?_)
 have x:=g.units;have u:=g.gd
 refine El (Ae (Bc (i:=1) zF.nd (Ba m g (Ad (qv 0) Ac)))
  (Ae (S5 (Ba l g (Ad (qv 0) (Ad (Bg (Kq:=K) rfl (qv 1) Ag Bj) Ac))) (Je (Kq:=K) rfl (n:=3) rfl (Bf (Am (i:=2) zF.nd) (Bf (Am (i:=3) zF.nd) (Bf (Am (i:=4) zF.nd) Gy)))))
  (Ae (Bc (i:=5) zF.nd (Dk (O2 (vs:=[.str "first",.str "last",.str "sum",.str "count",.str "least",.str "greatest",.str "unlike"]) rfl)))
  (Ae (by exact(J5 (i:=6) zF.nd rfl (Or.inl rfl) (N':=["_law_name", "_law_words", "_law_box_here"]) (idx:=[none,some 5,some 0]) Dc rfl (Cp (Kq:=K) rfl (qv 4)) (fun _ _ _ _ _=>by exact(Am (i:=0) (by show (["_law_name", "_law_words", "_law_box_here"]:v4).Nodup;decide +kernel))) qtN (fun _ _ _ _ _=>by exact(Bg (Kq:=K) rfl (qv 1) (Ba k g (Ad (qv 2) (Ad Ag Ac))) Dj))))
  (Ae (Bc (i:=7) zF.nd (Dk Ac))
  (Ae (G6 b_ rfl (Cp (Kq:=K) rfl (Bg (Kq:=K) rfl (qv 1) Ag Bj)) (Am (i:=8) zF.nd) (Ae (Bc (i:=9) zF.nd (Eb (Kq:=K) rfl rfl c (Ad (qv 8) Ac)))
  (Ae (G6 b_ rfl (A7s rfl e (Ad (qv 4) (Ad (qv 6) Ac))) (Je (Kq:=K) rfl (n:=2) rfl (Bf (Am (i:=10) zF.nd) (Bf (Am (i:=11) zF.nd) Gy))) (Ae (Bc (i:=12) zF.nd (Zm (Kq:=K) rfl jr jt ju (Pk rfl) (Bg (Kq:=K) rfl (qv 1) Ag Bj) (Ad (qv 10) Ac)))
  (Af (Cg (QW.qt (A8p (G7 x (qv 11) Dy) (A0v (Jy (Bp (Kq:=K) rfl rfl a (Ad (Bg (Kq:=K) rfl (qv 8) (qv 12) G4) (Ad (Dp (v:=.ty "str") rfl d Mx rfl) Ac))))))) (Af (S5 (Bg (Kq:=K) rfl (Dk (Ad Ie (Ad (Ba p g (Ad (qv 0) Ac)) Ac))) (Fb (Kq:=K) rfl rfl j (Ad (A8b (Ba k g (Ad (qv 0) (Ad Ag Ac))) Ag) Ac)) Dj) (Av0 (qv 9) (qv 12) set_list))) Bb))))
  (Af (Ij (Jt (Kq:=K) rfl (qv 7) (Ak (Kq:=K) rfl rfl b (Ad (qv 9) Ac))))))))
  (Af (Aq (Cz (Ad (Cz (Ad (Bg (Kq:=K) rfl (qv 1) Ag Bj) (Ad (Ak (Kq:=K) rfl rfl b (Ad (qv 7) Ac)) Ac))) (Ad (qv 2) (Ad (qv 3) (Ad (qv 4) (Ad (qv 6) Ac)))))))))))))) ?_
 exact Bl (by unfold Oi;walk_at "m") h
theorem A4k (F:Fun K "_law_grid" "_law_grid" Wk f x) (q:Def P w K mg base "_law_in" 1 ["_law_table_here", "_law_row", "_law_names_here"] (spP K Gw)) (u:Def P w K mg base "_law_ranks" 2 ["_law_values"] (spP K Ej)) (a:mg "enumerate" = none) (l:mg "int" = none) (k:mg "sorted" = none):FnOk P w K mg base CX0 5 f x ["_law_table_here", "_law_stem", "_law_names_here", "_law_order"] (spP K Lj):=by
 obtain⟨b,m,c,e,o,g⟩:=u
 refine F.ok zJ (fun _ _ _ _=>Bm) (fun B A t s H z Q E p h=>?_)
 have r:=p.units;have y:=p.gd
 refine El (Ae (A8r (i:=4) (j:=5) rfl zJ.nd rfl rfl (by decide) rfl rfl (Ad (Dk Ac) (Ad (Dk Ac) Ac)) rfl)
  (Ae (Bc (i:=6) zJ.nd Ru) (Aa7 (d:=6) (G6 b_ rfl (Uv rfl a (Ad (Bg (Kq:=K) rfl (qv 0) Ag Bj) Ac)) (Je (Kq:=K) rfl (n:=2) rfl (Bf (Am (i:=7) zJ.nd) (Bf (Am (i:=8) zJ.nd) Gy))) (Ae (A8r (i:=9) (j:=10) rfl zJ.nd rfl rfl (by decide) rfl rfl (Ad (Ba q p (Ad (qv 0) (Ad (qv 8) (Ad (qv 1) Ac)))) (Ad (Ba q p (Ad (qv 0) (Ad (qv 8) (Ad (qv 2) Ac)))) Ac)) rfl)
  (Ae (Bc (i:=4) zJ.nd (Ew (qv 4) (Tc (Dk (Ad (qv 9) Ac)) (Fb (Kq:=K) rfl rfl l (Ad (Mg r (qv 9) (qv 4) (by trivial)) Ac)))))
  (Ae (Bc (i:=5) zJ.nd (Ew (qv 5) (Tc (Dk (Ad (qv 10) Ac)) (Fb (Kq:=K) rfl rfl l (Ad (Mg r (qv 10) (qv 5) (by rfl)) Ac)))))
  (Af (Ae4 r (qv 6) (Cz (Ad (qv 9) (Ad (qv 10) Ac))) (Ew (Xa r (qv 6) (Cz (Ad (qv 9) (Ad (qv 10) Ac))) (Cz Ac) ⟨rfl,rfl,rfl,rfl⟩) (Cz (Ad (qv 7) Ac)))))))))
  (Ae (Cg (G7 r (qv 3) Dy) (Af (Bc (i:=5) zJ.nd (Ak3 (Kq:=K) rfl c (p.mono (by lia)) e rfl k (Ad (qv 5) Ac) (Om (Oo (v:=.ref b) rfl g rfl) Ac4)))) Bb)
  (Af (Aq (Cz (Ad (qv 4) (Ad (qv 5) (Ad (qv 6) Ac)))))))))) ?_
 exact Bl (by unfold Oh;unfold Ds;walk_at "m") h
theorem A7d (F:Fun K "_law_due" "_law_due" Ag6 f k) (g:Def P w K mg base "_law_in" 1 ["_law_table_here", "_law_row", "_law_names_here"] (spP K Gw)) (j:Def P w K mg base "_law_put" 2 ["_law_some", "_law_way"] (spP K Er)) (d:Def P w K mg base "_law_grid" 5 ["_law_table_here", "_law_stem", "_law_names_here", "_law_order"] (spP K Lj)) (b:mg "enumerate" = none) (a:mg "tuple" = none):FnOk P w K mg base CX0 6 f k ["_law_table_here", "_law_stem", "_law_names_here", "_law_values", "_law_ways", "_law_order"] (spP K Nu):=by
 refine F.ok zH (fun _ _ _ _=>Bm) (fun m A e s H o Q E c h=>?_)
 have l:=c.units;have p:=c.gd
 refine El (Ae (S5 (Ba d c (Ad (qv 0) (Ad (qv 1) (Ad (qv 2) (Ad (qv 5) Ac))))) (Je (Kq:=K) rfl (n:=3) rfl (Bf (Am (i:=6) zH.nd) (Bf (Am (i:=7) zH.nd) (Bf (Am (i:=8) zH.nd) Gy)))))
  (Ae (Bc (i:=9) zH.nd (Dk Ac))
  (Ae (G6 b_ rfl (Cp (Kq:=K) rfl (qv 6)) (Am (i:=10) zH.nd) (Ae (Bc (i:=11) zH.nd (Dk Ac))
  (Ae (G6 b_ rfl (Cp (Kq:=K) rfl (qv 7)) (Am (i:=12) zH.nd) (Ae (Bc (i:=13) zH.nd (by exact(Hh (N':=["_law_number_here", "_law_table_here", "_law_values"]) (idx:=[none,some 0,some 3]) Dc rfl (Cp (Kq:=K) rfl (Xa l (qv 8) (Cz (Ad (qv 10) (Ad (qv 12) Ac))) (Cz Ac) ⟨rfl,rfl,rfl,rfl⟩)) (fun _ _ _ _ _=>by exact(Am (i:=0) (by show (["_law_number_here", "_law_table_here", "_law_values"]:v4).Nodup;decide +kernel))) qtN (fun _ _ _ _ _=>by exact(Ba g c (Ad (qv 1) (Ad (Bg (Kq:=K) rfl (Bg (Kq:=K) rfl (qv 1) Ag Bj) (qv 0) G4) (Ad (qv 2) Ac))))))))
  (Ae (Bc (i:=14) zH.nd Ie)
  (Ae (Cg (T9 l (qv 13) (Dk Ac)) (Af (Bc (i:=14) zH.nd (Ak (Kq:=K) rfl rfl a (Ad (by exact(Hh (N':=["_law_place", "_law_way", "_law_some"]) (idx:=[none,none,some 13]) Dc rfl (Uv rfl b (Ad (qv 4) Ac)) (fun _ _ _ _ _=>by exact(Je (Kq:=K) rfl (n:=2) rfl (Bf (Am (i:=0) (by show (["_law_place", "_law_way", "_law_some"]:v4).Nodup;decide +kernel)) (Bf (Am (i:=1) (by show (["_law_place", "_law_way", "_law_some"]:v4).Nodup;decide +kernel)) Gy)))) qtN (fun _ _ _ _ _=>by exact(Ba j c (Ad (by exact(Hh (N':=["_law_one", "_law_place"]) (idx:=[none,some 0]) Dc rfl (Cp (Kq:=K) rfl (qv 2)) (fun _ _ _ _ _=>by exact(Am (i:=0) (by show (["_law_one", "_law_place"]:v4).Nodup;decide +kernel))) qtN (fun _ _ _ _ _=>by exact(Bg (Kq:=K) rfl (qv 0) (qv 1) G4)))) (Ad (qv 1) Ac)))))) Ac)))) Bb)
  (Af (Ij (Jt (Kq:=K) rfl (qv 11) (qv 14))))))))
  (Af (Ij (Jt (Kq:=K) rfl (qv 9) (Cz (Ad (qv 10) (Ad (Ak (Kq:=K) rfl rfl a (Ad (qv 11) Ac)) Ac)))))))))
  (Af (Aq (Cz (Ad (Ak (Kq:=K) rfl rfl a (Ad (qv 1) Ac)) (Ad (Ak (Kq:=K) rfl rfl a (Ad (qv 2) Ac)) (Ad (Ak (Kq:=K) rfl rfl a (Ad (qv 3) Ac)) (Ad (Ak (Kq:=K) rfl rfl a (Ad (qv 7) Ac)) (Ad (Ak (Kq:=K) rfl rfl a (Ad (qv 9) Ac)) Ac))))))))))) ?_
 exact Bl (by unfold Q4;walk_at "m") h
theorem B3n (F:Fun K "law" "law" A9x f t) (j:Def P w K mg base "folded_by" 9 ["table", "key", "names", "values", "ways", "order"] (spP K Eg)) (o:Def P w K mg base "_law_box" 2 ["_law_script", "_law_k"] (spP K M6)) (p:Dd0 P w K mg base) (q:Def P w K mg base "_law_same" 8 ["_law_found", "_law_due_here"] (spP K (Dd 8))) (l:Def P w K mg base "_law_case" 6 ["_law_box_here"] (spP K Ov)) (r:Def P w K mg base "_law_due" 6 ["_law_table_here", "_law_stem", "_law_names_here", "_law_values", "_law_ways", "_law_order"] (spP K Nu)) (d:mg "list" = none) (b:mg "range" = none) (a:mg "str" = none) (c:mg "tuple" = none):FnOk P w K mg base CX0 10 f t ["_law_script"] (spP K Au9):=by
 refine F.ok zL (fun _ _ _ _=>Bm) (fun u A m s H v Q E e h=>?_)
 have k:=e.units;have g:=e.gd
 refine El (Ae (G6 b_ rfl (Oj rfl b (Ad Ag Ac)) (Am (i:=1) zL.nd) (Ae (Bc (i:=2) zL.nd (Ba o e (Ad (qv 0) (Ad (qv 1) Ac))))
  (Ae (S5 (Ba l e (Ad (qv 2) Ac)) (Je (Kq:=K) rfl (n:=5) rfl (Bf (Am (i:=3) zL.nd) (Bf (Am (i:=4) zL.nd) (Bf (Am (i:=5) zL.nd) (Bf (Am (i:=6) zL.nd) (Bf (Am (i:=7) zL.nd) Gy)))))))
  (Ae (Bc (i:=8) zL.nd (Bb8 (Kq:=K) rfl k g rfl a (Ad (qv 3) Ac)))
  (Af (G6 b_ rfl (Cp (Kq:=K) rfl (Cz (Ad Dy (Ad Dy Ac)))) (Am (i:=9) zL.nd) (Ae (Bc (i:=10) zL.nd (Ba r e (Ad (qv 3) (Ad (qv 4) (Ad (qv 5) (Ad (qv 6) (Ad (qv 7) (Ad (qv 9) Ac))))))))
  (Ae (Cg (A6s (Jy (Ba q e (Ad (Ba j e (Ad (qv 3) (Ad (qv 4) (Ad (qv 5) (Ad (qv 6) (Ad (qv 7) (Ad (qv 9) Ac))))))) (Ad (qv 10) Ac))))) (Af (Aq Ai3)) Bb)
  (Ae (by exact(J5 (i:=11) zL.nd rfl (Or.inl rfl) (N':=["_law_some", "_law_box_here"]) (idx:=[none,some 2]) Dc rfl (Cp (Kq:=K) rfl (Cz (Ad (qv 4) (Ad (qv 5) (Ad (qv 6) (Ad (qv 7) Ac)))))) (fun _ _ _ _ _=>by exact(Am (i:=0) (by show (["_law_some", "_law_box_here"]:v4).Nodup;decide +kernel))) qtN (fun _ _ _ _ _=>by exact(Bg (Kq:=K) rfl (Dk (Ad (Eb (Kq:=K) rfl rfl d (Ad (qv 0) Ac)) (Ad (Ak (Kq:=K) rfl rfl c (Ad (qv 0) Ac)) Ac))) (Ba p e (Ad (qv 1) (Ad Ag Ac))) Dj))))
  (Ae (Bc (i:=12) zL.nd (Ba j e (Ad (qv 3) (Ad (Bg (Kq:=K) rfl (qv 11) Ag Bj) (Ad (Bg (Kq:=K) rfl (qv 11) Ag Bj) (Ad (Bg (Kq:=K) rfl (qv 11) Ag Bj) (Ad (Bg (Kq:=K) rfl (qv 11) Ag Bj) (Ad (qv 9) Ac))))))))
  (Af (Cg (QW.qt (Ao5 (T9 k (qv 12) (qv 10)) (Vm (T9 k (Bb8 (Kq:=K) rfl k g rfl a (Ad (qv 3) Ac)) (qv 8))))) (Af (Aq Ai3)) Bb))))))))))))
  (Af (Aq Ai3))) ?_
 exact Bl (by unfold A9f;unfold N8;unfold M9;walk_at "m") h
end
theorem lnS {us:w6}(h:us.length=n+1):∃x r,us=x::r/\r.length=n:=by
 cases us with
 | nil=>grind
 | cons x r=>grind
theorem ln1 {us:w6}(h:us.length=1):∃x0,us=[x0]:=by
 obtain⟨x,r,a,b⟩:=lnS h
 simp_all
theorem ln2 {us:w6}(h:us.length=2):∃c b,us=[c,b]:=by
 obtain⟨c,r,a,d⟩:=lnS h;obtain⟨b,a⟩:=ln1 d
 grind
theorem ln3 {us:w6}(h:us.length=3):∃c d b,us=[c,d,b]:=by
 obtain⟨c,r,a,e⟩:=lnS h;obtain⟨d,b,a⟩:=ln2 e
 grind
theorem ln4 {us:w6}(h:us.length=4):∃c d e b,us=[c,d,e,b]:=by
 obtain⟨c,r,a,f⟩:=lnS h;obtain⟨d,e,b,a⟩:=ln3 f
 grind
theorem ln5 {us:w6}(h:us.length=5):∃c e d f b,us=[c,e,d,f,b]:=by
 obtain⟨c,r,a,g⟩:=lnS h;obtain⟨e,d,f,b,a⟩:=ln4 g
 grind
theorem ln6 {us:w6}(h:us.length=6):∃c e d f g b,us=[c,e,d,f,g,b]:=by
 obtain⟨c,r,a,i⟩:=lnS h;obtain⟨e,d,f,g,b,a⟩:=ln5 i
 grind
theorem _root_.bi {st:Stmt}(F:L2.Fun K x qual st f d)(ps:v4)(h:∀(i b e:Value) (g:Option Addr) (a c:Value) (us:w6),us.length=ps.length->bindArgs (PySem.W.fnOf x qual (Kh st) (Jm st) (Al st) .none i b e g a c) ⟨us,[]⟩=pure (ps.zip us):=by intro _ _ _ _ _ _ us hl;first | (obtain⟨_,rfl⟩:=ln1 hl;rfl) | (obtain⟨_,_,rfl⟩:=ln2 hl;rfl) | (obtain⟨_,_,_,rfl⟩:=ln3 hl;rfl) | (obtain⟨_,_,_,_,rfl⟩:=ln4 hl;rfl) | (obtain⟨_,_,_,_,_,_,rfl⟩:=ln6 hl;rfl)):L2.Binds K d ps []:=F.binds h
theorem mkD (a:FnOk P w K mg base CX0 k f d ps sp) (b:Binds K d ps []) (c:PySem.W.keepIn K (.ref f)=true) (g:mg x=some (.ref f)):Def P w K mg base x k ps sp:=⟨f,d,a,b,c,g⟩
theorem Bk (T:PyProof.Rows.Top q loose g mg j h) (k:∀a o,h.get? a=some o->Hm o=true->o.data≠.fields #[]->K.lookup a=some o) (l:(PyProof.Rows.recsOf q).map (fun d=>(d.name,d.params,d.body,d.scope))=L) {i:Nat} (e:L[i]?=some (x,Kh st,Jm st,Al st)):∃f fd,Fun K x x st f fd/\mg x=some (.ref f):=by
 obtain⟨d,m,rfl,a,b,c⟩:=A7e l e;exact Bt0 T k m a b c
abbrev rr (x:Str)(i:Nat):Str×Arguments×List Stmt×Scope:=(x,Kh (top i),Jm (top i),Al (top i))
theorem Bx7 {l:PySem.W.OpenLaw}{w:World}{q:u5}{loose:v4}{mean:ExcName->u6}{mg mb:x_}{h:Heap}{fa:Addr}(T:PyProof.Rows.Top q loose mean mg mb h)(hfa:mg "law" = some (.ref fa))
 (hlaw:∀ns:List Int,ns.length<=63->Au9 [.sc ns]=.ret (.im (.bool true)) [.sc ns])
 (hR:(PyProof.Rows.recsOf q).map (fun d=>(d.name,d.params,d.body,d.scope))=[rr "rank" 8,rr "risen" 9,rr "place_of" 11,rr "places_of" 12,rr "values_at" 13,rr "check_all_columns" 16,rr "check_order" 17,rr "rows_by_place" 18,rr "first_seen" 19,rr "parts_seen" 20,rr "heads_seen" 21,rr "laid_row" 22,rr "laid_out" 23,rr "rows_laid_out" 24,rr "check_ways" 27,rr "sum_of" 28,rr "put_together" 29,rr "column_together" 30,rr "cells_together" 31,rr "check_folding" 33,rr "cells_by_place" 34,rr "folded_by" 35,rr "_law_cell_at" 37,rr "_law_box" 38,rr "_law_take" 39,rr "_law_many" 40,rr "_law_names" 41,rr "_law_value" 42,rr "_law_pool" 43,rr "_law_table" 44,rr "_law_any_table" 45,rr "_law_parted" 46,rr "_law_in" 47,rr "_law_number" 48,rr "_law_rank" 49,rr "_law_ranks" 50,rr "_law_same" 51,rr "_law_put" 52,rr "_law_case" 53,rr "_law_grid" 54,rr "_law_due" 55,rr "law" 56])
 (hB:(["abs", "all", "any", "bool", "enumerate", "int", "isinstance", "len", "list", "max", "min", "range", "set", "sorted", "str", "sum", "tuple", "zip"]:v4).all (A6w q loose [("rank" : Str),("risen" : Str),("place_of" : Str),("places_of" : Str),("values_at" : Str),("check_all_columns" : Str),("check_order" : Str),("rows_by_place" : Str),("first_seen" : Str),("parts_seen" : Str),("heads_seen" : Str),("laid_row" : Str),("laid_out" : Str),("rows_laid_out" : Str),("check_ways" : Str),("sum_of" : Str),("put_together" : Str),("column_together" : Str),("cells_together" : Str),("check_folding" : Str),("cells_by_place" : Str),("folded_by" : Str),("_law_cell_at" : Str),("_law_box" : Str),("_law_take" : Str),("_law_many" : Str),("_law_names" : Str),("_law_value" : Str),("_law_pool" : Str),("_law_table" : Str),("_law_any_table" : Str),("_law_parted" : Str),("_law_in" : Str),("_law_number" : Str),("_law_rank" : Str),("_law_ranks" : Str),("_law_same" : Str),("_law_put" : Str),("_law_case" : Str),("_law_grid" : Str),("_law_due" : Str),("law" : Str)])=true)
 (hX:A5h tcT mg h) :
 ∃(K:v8) (fd:v_),K.In h/\TabAt K h/\(∀(s:u_) (v:Value),BindsTo s fd ⟨[v],[]⟩ [("_law_script",v)])/\∀base:Heap,K.In base->base.Ns mainGlobals mg->FnOk l.prog w K mg base CX0 10 fa fd ["_law_script"] (A1i K):=by
 obtain⟨kin,tab,_,hK⟩:=B5n (h:=h) (tabs:=[]) (fun t m=>nomatch m) (fun t m=>nomatch m)
 generalize Qv h []=K at *
 obtain⟨f1,fd1,F1,g1⟩:=Bk T hK hR (st:=Ac2) (i:=0) rfl;have b1:=bi F1 ["value"];obtain⟨f2,fd2,F2,g2⟩:=Bk T hK hR (st:=Ae2) (i:=1) rfl;have b2:=bi F2 ["values"];obtain⟨f3,fd3,F3,g3⟩:=Bk T hK hR (st:=Ph) (i:=2) rfl;have b3:=bi F3 ["table", "name"];obtain⟨f4,fd4,F4,g4⟩:=Bk T hK hR (st:=Ob) (i:=3) rfl;have b4:=bi F4 ["table", "names"];obtain⟨f5,fd5,F5,g5⟩:=Bk T hK hR (st:=Nv) (i:=4) rfl;have b5:=bi F5 ["row", "places"];obtain⟨f6,fd6,F6,g6⟩:=Bk T hK hR (st:=Gp) (i:=5) rfl;have b6:=bi F6 ["columns", "key", "names", "values"];obtain⟨f7,fd7,F7,g7⟩:=Bk T hK hR (st:=K3) (i:=6) rfl;have b7:=bi F7 ["order"];obtain⟨f8,fd8,F8,g8⟩:=Bk T hK hR (st:=Jj) (i:=7) rfl;have b8:=bi F8 ["table", "key", "names"];obtain⟨f9,fd9,F9,g9⟩:=Bk T hK hR (st:=Ls) (i:=8) rfl;have b9:=bi F9 ["things"];obtain⟨f10,fd10,F10,g10⟩:=Bk T hK hR (st:=Ml) (i:=9) rfl;have b10:=bi F10 ["groups"];obtain⟨f11,fd11,F11,g11⟩:=Bk T hK hR (st:=Mi) (i:=10) rfl;have b11:=bi F11 ["groups", "order"];obtain⟨f12,fd12,F12,g12⟩:=Bk T hK hR (st:=Qc) (i:=11) rfl;have b12:=bi F12 ["part", "heads", "things", "gap"];obtain⟨f13,fd13,F13,g13⟩:=Bk T hK hR (st:=Qm) (i:=12) rfl;have b13:=bi F13 ["parts", "heads", "things", "gap"];obtain⟨f14,fd14,F14,g14⟩:=Bk T hK hR (st:=Jh) (i:=13) rfl;have b14:=bi F14 ["parts", "heads", "cells"];obtain⟨f15,fd15,F15,g15⟩:=Bk T hK hR (st:=Ly) (i:=14) rfl;have b15:=bi F15 ["ways", "many", "allowed"];obtain⟨f16,fd16,F16,g16⟩:=Bk T hK hR (st:=V6) (i:=15) rfl;have b16:=bi F16 ["numbers"];obtain⟨f17,fd17,F17,g17⟩:=Bk T hK hR (st:=J2) (i:=16) rfl;have b17:=bi F17 ["some", "way"];obtain⟨f18,fd18,F18,g18⟩:=Bk T hK hR (st:=Ho) (i:=17) rfl;have b18:=bi F18 ["cells", "place", "way"];obtain⟨f19,fd19,F19,g19⟩:=Bk T hK hR (st:=Hz) (i:=18) rfl;have b19:=bi F19 ["cells", "ways"];obtain⟨f20,fd20,F20,g20⟩:=Bk T hK hR (st:=Ji) (i:=19) rfl;have b20:=bi F20 ["columns", "key", "names", "values", "ways", "order"];obtain⟨f21,fd21,F21,g21⟩:=Bk T hK hR (st:=H9) (i:=20) rfl;have b21:=bi F21 ["table", "values", "ways", "groups"];obtain⟨f22,fd22,F22,g22⟩:=Bk T hK hR (st:=Oa) (i:=21) rfl;have b22:=bi F22 ["table", "key", "names", "values", "ways", "order"];obtain⟨f23,fd23,F23,g23⟩:=Bk T hK hR (st:=Ng) (i:=22) rfl;have b23:=bi F23 ["_law_script", "_law_k"];obtain⟨f24,fd24,F24,g24⟩:=Bk T hK hR (st:=Z0) (i:=23) rfl;have b24:=bi F24 ["_law_script", "_law_k"];obtain⟨f25,fd25,F25,g25⟩:=Bk T hK hR (st:=Vj) (i:=24) rfl;have b25:=bi F25 ["_law_box_here", "_law_many_here"];obtain⟨f26,fd26,F26,g26⟩:=Bk T hK hR (st:=Xu) (i:=25) rfl;have b26:=bi F26 ["_law_box_here", "_law_least", "_law_few", "_law_most"];obtain⟨f27,fd27,F27,g27⟩:=Bk T hK hR (st:=Tj) (i:=26) rfl;have b27:=bi F27 ["_law_box_here", "_law_many_here"];obtain⟨f28,fd28,F28,g28⟩:=Bk T hK hR (st:=Sv) (i:=27) rfl;have b28:=bi F28 ["_law_box_here"];obtain⟨f29,fd29,F29,g29⟩:=Bk T hK hR (st:=Vs) (i:=28) rfl;have b29:=bi F29 ["_law_box_here", "_law_many_here"];obtain⟨f30,fd30,F30,g30⟩:=Bk T hK hR (st:=Sx) (i:=29) rfl;have b30:=bi F30 ["_law_box_here", "_law_many_here", "_law_rows"];obtain⟨f31,fd31,F31,g31⟩:=Bk T hK hR (st:=K6) (i:=30) rfl;have b31:=bi F31 ["_law_box_here"];obtain⟨f32,fd32,F32,g32⟩:=Bk T hK hR (st:=Pz) (i:=31) rfl;have b32:=bi F32 ["_law_box_here", "_law_columns"];obtain⟨f33,fd33,F33,g33⟩:=Bk T hK hR (st:=Ar6) (i:=32) rfl;have b33:=bi F33 ["_law_table_here", "_law_row", "_law_names_here"];obtain⟨f34,fd34,F34,g34⟩:=Bk T hK hR (st:=Qf) (i:=33) rfl;have b34:=bi F34 ["_law_box_here"];obtain⟨f35,fd35,F35,g35⟩:=Bk T hK hR (st:=V2) (i:=34) rfl;have b35:=bi F35 ["_law_value_here"];obtain⟨f36,fd36,F36,g36⟩:=Bk T hK hR (st:=Tv) (i:=35) rfl;have b36:=bi F36 ["_law_values"];obtain⟨f37,fd37,F37,g37⟩:=Bk T hK hR (st:=Q9) (i:=36) rfl;have b37:=bi F37 ["_law_found", "_law_due_here"];obtain⟨f38,fd38,F38,g38⟩:=Bk T hK hR (st:=Aa0) (i:=37) rfl;have b38:=bi F38 ["_law_some", "_law_way"];obtain⟨f39,fd39,F39,g39⟩:=Bk T hK hR (st:=Wa) (i:=38) rfl;have b39:=bi F39 ["_law_box_here"];obtain⟨f40,fd40,F40,g40⟩:=Bk T hK hR (st:=Wk) (i:=39) rfl;have b40:=bi F40 ["_law_table_here", "_law_stem", "_law_names_here", "_law_order"];obtain⟨f41,fd41,F41,g41⟩:=Bk T hK hR (st:=Ag6) (i:=40) rfl;have b41:=bi F41 ["_law_table_here", "_law_stem", "_law_names_here", "_law_values", "_law_ways", "_law_order"];obtain⟨f42,fd42,F42,g42⟩:=Bk T hK hR (st:=A9x) (i:=41) rfl;have b42:=bi F42 ["_law_script"]
 have yZ:=Cy (x := "abs") T (Ca hR) hB (by simp)
 have yO:=Cy (x := "all") T (Ca hR) hB (by simp)
 have yU:=Cy (x := "any") T (Ca hR) hB (by simp)
 have yP:=Cy (x := "bool") T (Ca hR) hB (by simp)
 have zZ:=Cy (x := "enumerate") T (Ca hR) hB (by simp)
 have zQ:=Cy (x := "int") T (Ca hR) hB (by simp)
 have zA:=Cy (x := "isinstance") T (Ca hR) hB (by simp)
 have zT:=Cy (x := "len") T (Ca hR) hB (by simp)
 have yC:=Cy (x := "list") T (Ca hR) hB (by simp)
 have xF:=Cy (x := "max") T (Ca hR) hB (by simp)
 have yV:=Cy (x := "min") T (Ca hR) hB (by simp)
 have yK:=Cy (x := "range") T (Ca hR) hB (by simp)
 have xG:=Cy (x := "set") T (Ca hR) hB (by simp)
 have yR:=Cy (x := "sorted") T (Ca hR) hB (by simp)
 have zR:=Cy (x := "str") T (Ca hR) hB (by simp)
 have yW:=Cy (x := "sum") T (Ca hR) hB (by simp)
 have zB:=Cy (x := "tuple") T (Ca hR) hB (by simp)
 have yJ:=Cy (x := "zip") T (Ca hR) hB (by simp)
 have yS:=Ay6 hX hK (i:=0) (y := "ORDERS") (ss:=[Str.ofString "seen",Str.ofString "rising"]) rfl;have yX:=Ay6 hX hK (i:=1) (y := "WAYS") (ss:=W7) rfl;have e:=hfa.symm.trans g42
 cases e
 refine⟨K,fd42,kin,tab,Ba7 F42 (fun kV dc pm an cd ct s v=>.of_eq rfl),fun base _ _=>?_⟩
 have M:∀{k f fd x ps sp},FnOk l.prog w K mg base CX0 k f fd ps sp->Binds K fd ps []->PySem.W.keepIn K (.ref f)=true->mg x=some (.ref f)->Def l.prog w K mg base x k ps sp:=mkD;have d0:Def l.prog w K mg base "rank" 2 ["value"] (spP K (Ck 2)):=mkD (Aj3 F1 b1 g1 zQ zA zR zB 2) b1 F1.kp g1;have d1:=M (A6k F2 d0 yR) b2 F2.kp g2;have d2:=M (Ap8 F3 ) b3 F3.kp g3;have d3:=M (Ag2 F4 d2) b4 F4.kp g4;have d4:=M (Af4 F5 zB) b5 F5.kp g5;have d5:=M (Ni F6 yO zT yC) b6 F6.kp g6;have d6:=M (Vt F7 yS) b7 F7.kp g7;have d7:=M (Tu F8 d3 d4 zZ) b8 F8.kp g8;have d8:=M (Ye F9 zB) b9 F9.kp g9;have d9:=M (Yj F10 d8) b10 F10.kp g10;have d10:=M (Yl F11 d1 d8 zB) b11 F11.kp g11;have d11:=M (Ap5 F12 zB) b12 F12.kp g12;have d12:=M (Ak7 F13 d11 zB) b13 F13.kp g13;have d13:=M (Su F14 d12 zB yJ) b14 F14.kp g14;have d14:=M (X6 F15 zT) b15 F15.kp g15;have d15:=M (A2m F16 yU zA zR yW) b16 F16.kp g16;have d16:=M (Uu F17 d0 d15 zT xF yV xG) b17 F17.kp g17;have d17:=M (Qk F18 d16) b18 F18.kp g18;have d18:=M (Rw F19 d17 zZ zB) b19 F19.kp g19;have d19:=M (Sw F20 d5 d6 d14 zT yX) b20 F20.kp g20;have d20:=M (R0 F21 d3 d4 d18) b21 F21.kp g21;have d21:=M (Af9 F22 d7 d9 d10 d13 d19 d20 zB) b22 F22.kp g22;have d22:=M (Ac7 F23 zT) b23 F23.kp g23;have d23:=M (Bf5 F24 d22 yZ zQ) b24 F24.kp g24;have d24:=M (A4z F25 ) b25 F25.kp g25;have d25:=M (A4e F26 d24) b26 F26.kp g26;have d26:=M (Ax0 F27 d24 zT yK) b27 F27.kp g27;have d27:=M (Av5 F28 d24) b28 F28.kp g28;have d28:=M (A3u F29 d27 yK) b29 F29.kp g29;have d29:=M (Ax1 F30 d24 d26 d28 zT yK zB) b30 F30.kp g30;have d30:=M (V4 F31 d25 d29) b31 F31.kp g31;have d31:=M (Ag9 F32 d24 zQ zT yC yV) b32 F32.kp g32;have d32:=M (Bp4 F33 zB) b33 F33.kp g33;have d33:=M (Ak0 F34 d24) b34 F34.kp g34;have d34:=M (A5n F35 zA zR) b35 F35.kp g35;have d35:=M (At6 F36 d34) b36 F36.kp g36;have d36:Def l.prog w K mg base "_law_same" 8 ["_law_found", "_law_due_here"] (spP K (Dd 8)):=mkD (Vk F37 b37 g37 yO yP zQ zA zT yC zR zB yJ 8) b37 F37.kp g37;have d37:=M (A9i F38 d34 yU zQ zA zT zR yW) b38 F38.kp g38;have d38:=M (A5r F39 d24 d30 d31 d33 zQ zA yC zR zB yJ) b39 F39.kp g39;have d39:=M (A4k F40 d32 d35 zZ zQ yR) b40 F40.kp g40;have d40:=M (A7d F41 d32 d37 d39 zZ zB) b41 F41.kp g41
 exact(B3n F42 d21 d23 d24 d36 d38 d40 yC yK zR zB).imp fun vs H Q E h=>Bx9 hlaw h
theorem walk {l:PySem.W.OpenLaw}{q:u5}{loose:v4}{XP:(x_)->Heap->Prop}{YP:World->Heap->Prop}{d:DefRec}(hn:l.most=some 63)(hdf:d.params.defaults=[])
 (F:∀(w:World) (mean:ExcName->u6) (mg mb:x_) (fa:Addr) (h:Heap),PyProof.Rows.Top q (PySem.W.looseW q loose) mean mg mb h->XP mg h->mg d.name=some (.ref fa) ->
  ∃(K:v8) (fd:v_),K.In h/\TabAt K h/\(∀(s:u_) (u:Value),BindsTo s fd ⟨[u],[]⟩ [("_law_script",u)])/\∀base:Heap,K.In base->base.Ns mainGlobals mg->FnOk l.prog w K mg base CX0 10 fa fd ["_law_script"] (A1i K)) :
 PySem.W.WalkO q loose XP YP l.row.toRowW d [] (fun f vs=>PySem.call f vs) :=
 L2.walk_ofX (n:=63) (k:=10) (x := "_law_script") (sp:=A1i) hn (by decide) hdf ⟨rfl,by decide,by decide,rfl⟩ F fun _ _ a ns hl hS=>⟨a,ns,rfl,hS,hl,fun _=>rfl⟩
end K
open PySem PySem.W PyProof.Rows
set_option maxHeartbeats 0
namespace K
noncomputable def dOf:Stmt->DefRec
 | .FunctionDef _ a b _ _ _ s _ _ p=>⟨"law",a,b,s,p⟩
 | _=>⟨"law",⟨[],[],none,[],[],none,[]⟩,[],default,default⟩
def dL:DefRec:=⟨"law",(dOf (top 56)).params,(dOf (top 56)).body,(dOf (top 56)).scope,(dOf (top 56)).pos⟩
theorem B6i:rwT.wellSaid=true:=by kernel_rfl
theorem B6t:defOf qT rwT.row.name=some (dL,[]):=by kernel_rfl
theorem B6y:rwT.row.prog.theDef rwT.row.name=some (dL.params,dL.body,dL.scope):=by trivial
theorem kwT:kwWritten? dL.params.kwonlyargs dL.params.kw_defaults=some []:=by trivial
theorem okT:(chainsOk qT&&opensWell rwT.row.prog&&(frees rwT.row.toRowW&&rwT.row.within.isEmpty))=true:=by trivial
theorem dfT:dL.params.defaults=[]:=by rfl
theorem B4u:rwT.row.prog.bare:=⟨rfl,rfl,rfl,rfl,rfl,by decide +kernel⟩
theorem B5b:rwT.row.toRowW.promised:=by w_witness2
end K
theorem PySem.Challenge.cw_pivotfold_k18_doubles_put_together_holds : PySem.Challenge.rw_pivotfold_k18_doubles_put_together.Holds := by
 refine holds_law K.B6i fun said=>?_
 refine holds_open (q:=K.qT) (loose:=["ORDERS", "WAYS"]) (Xt:=K.xtT) (XP:=L2.A5h K.tcT) (Yf:=Hook.none.obs) (Ya:=Hook.none.val) (YP:=Hook.none.says) (N:=20000) K.B5r Hook.none.of Hook.none.keeps (fun s e=>L2.B6a (aC.mp e).2) L2.Bf7 K.B6t K.B6y K.kwT (fun s e=>recFacts_of (aC.mp (aC.mp e).1).2) rfl said K.okT K.B4u K.B5b ?_
 refine K.walk (l:=PySem.Challenge.rw_pivotfold_k18_doubles_put_together) rfl K.dfT ?F
 case F =>
  intro w mean mg mb fa h T X hmg
  refine K.Bx7 T hmg K.A6h ?R ?B X
  (case R=>kernel_rfl); (case B=>kernel_rfl)
end
