import PyProof.Rows.All
import Wide.All
import OpenK.AllK
import Wide.FinOn
import Lean
import PyProof.EqAt
import PyProof.EqKinds
import PyProof.TupleCall
import PyProof.NeKinds
import PyProof.ListMulRoad
import PyProof.AttrMissHeap
import KE.KDictOf
import KE.KRevIter
import PyProof.ListRange
import KE.KSortTup
import KE.KMinKey
import PyProof.MinMaxWalk
import PyProof.Rows.CallKwBuiltin
import PyProof.Rows.SetFrom
import PyProof.Rows.SeqMore
import PySem.Challenge.RW_turnweave_k52_whole_from_texts
open Option renaming some→aa,isSome_iff_exists→eY,map_some→fo,getD_some→gD,isSome_map→ij,isSome_some→lJ,getD_none→mD,some→m3
open PySem renaming Str→ah,Value→ai,Addr→aj,Shared→ao,wpAny_bind→av,wpAny→ax,starEach→ay,eval→aA,model→aC,Heap→aH,Obj→aJ,wpAny_pure→aK,mainGlobals→aO,World→aP,backTo→aR,Program→aY,Stmt→bg,Paired→bh,Pos→bi,Around→bn,compareOp→bD,Env→bM,wpAny_field→bT,Keyword→b9,IsPair→cb,NameKind→ce,assignEach→cg,attributeBase→ci,binaryOp→ck,Sem→cq,IsZip→cB,Builtin→cE,pyNext→cI,FuncData→cK,wpAny_mono→cL,backToKw→cM,keywordEach→cN,bootBuiltins→cO,tupleKind→c5,rawInt→da,wpAny_setField_rec→db,IsPart→dj,IsEnum→dw,codeAny→dD,swapsWith→dE,wpAny_seqItems→dF,wpAny_call_entry→dH,bindC→dI,foldedSetIterable→dN,pyIter→dS,wpAny_callSpecial?_slot→dU,bindL→dY,Code→d7,sizeLine_eq→d9,call_meets→ef,standAt→eB,atKey→eC,callerA→eD,sliceBounds→eK,wpAny_truthy_bool→eR,wpAny_holding→eS,getItem→eU,wpAny_passesOwn→eW,valueAt→fg,sysModules→fh,intText?→fj,wpAny_newObj_type→fv,PassesOwn→fB,BindsTo→fI,mem_of_lookup→fL,wpAny_pyIter_list→fQ,wpAny_rule→fS,wpAny_Call_Name_kw→fV,wpAny_typeOf→gh,behindInMarks→gi,typeOf→gn,getMethod→gv,storedH→gy,PlainAttrs→gC,letOwnedTupleGo→gN,wpAny_attempt→gQ,lastMarks→gV,wpAny_onRaise→gZ,Result→hU,wpAny_letGo→hV,wpAny_getItem_str_slice→ii,Within→ik,Comprehension→im,preSum→ir,setItem→iw,codeAny_mono→iD,post_val_or_str→iQ,wpAny_execs_nil→iU,seqIndex_neg→iX,pick_run→iZ,call→i0,storeName→i6,IsEnumOut→i7,ZipApart→i9,swappedStores→jd,wpAny_Name→je,wpAny_standAt→jh,concat_meets→jk,typeIs_int→jn,typeIs_str→jp,wpAny_updateSeq_pair→jq,builtinsNs→jA,callWith→jD,inplaceOp→jH,noFill_tuple_add→jS,typeLookup→jT,DictEntry→jU,tupleKind_room_in1→j5,seq_tuple_add→j6,sliceRange_one→j7,Operator→ke,cellsFrom→kf,bindArgs→kg,swapsWithSole→km,seqIndex_of→kz,wpAny_pyIter_enum→kQ,wpAny_execs_cons→kZ,getattributeRaised→k8,wpAny_isInstance→li,wpAny_setField→ll,wpAny_loadName_cell→lF,wpAny_pyIter_tuple→lG,isSubtype_stop→lK,wpAny_pyIter_zip→lM,codeAny_builtin→lN,slot_list_getitem→lP,wpAny_newTuple→lQ,wpAny_loadName_local→mq,wpAny_assign_Name→mz,wpAny_sequenceKey→mU,firstArgMember→m8,methodCallForm→nv
open PySem.W renaming Frag→am,nsIn→aX,findIn→bZ,keepIn→cX,kia_one→cY,fnOf→dC,instObj→d6,mg_of→fF,hideAll→gc,plainGet→gm,isFn→gq,kitOne→gz,codeIn→gA,makesIn→gI,hideAll_none→il,OpenLaw→iF,hasDictIn→iJ,lookIn→iL,exmOne→iW,takerIn→jr,of_hideAll→jC,callWith_K→jF,mroIn→jV,methodObj→j9,plainGet_of→ku,hideAll_get→kF,plainOver→kH,handedIn→kP,methodCall_KW→kX,cellsFrom_some→ln,WalkO→lp,kitx_list→md,excIn→mG,kitx_dict→nw
open PySem.Str renaming ofString→aq,length→cD,length_append→cH,join→c8,append_assoc→mX
open List renaming mem_cons→az,length_map→aD,map_cons→aG,mem_cons_of_mem→aI,mem_cons_self→aM,nil_append→aQ,length_cons→aS,getElem?_eq_getElem→aU,size_toArray→aV,length_append→aW,not_mem_nil→aZ,replicate→bf,mem_map→bp,range→bt,mem_append→bv,mem_singleton→bw,map_map→bB,append_nil→bC,getD_eq_getElem?_getD→bF,getElem?_map→bK,lookup_cons→bN,map_append→bU,lookup→bW,mem_of_getElem?→bX,cons_append→bY,append_assoc→b7,length_singleton→cj,find?_cons→cr,mem_append_right→cw,all_eq_true→cJ,mem_of_find?_eq_some→cZ,replicate_succ→c7,drop_zero→di,getElem?_eq_some_iff→dq,map_nil→dv,length_nil→dA,length→dB,isEmpty_iff→dJ,length_take→dL,getElem_mem→dQ,map_congr_left→dR,take_of_length_le→dZ,getElem?_cons_succ→d8,length_drop→d_,nodup_cons→eF,flatMap_cons→eG,flatten_cons→eI,range'→eP,isPrefixOf_iff_prefix→eT,mem_range→eV,length_replicate→e_,drop_eq_getElem_cons→fA,any_cons→fD,foldl_cons→fK,findSome?_cons→fO,of_mem_zip→fY,eq_nil_of_length_eq_zero→fZ,getElem?_eq_none→f_,mem_map_of_mem→gj,mem_append_left→gp,flatMap_nil→gF,all_map→gG,drop_of_length_le→gH,getElem?_range→gJ,exists_of_findSome?_eq_some→gK,findSome?_eq_none_iff→gM,take_length→gR,getElem?_append_right→gU,getElem_of_mem→hZ,getElem?_cons_zero→ic,range_succ_eq_map→ig,filterMap_cons→iy,zip_cons_cons→iS,mem_filter→iT,all_cons→iV,take_left→i8,range_succ→jb,getElem?_of_mem→jf,range'_succ→jg,mem_filterMap→jI,concat_eq_append→jL,sum_cons→jM,mem_of_mem_take→jP,map→jR,mem_of_mem_drop→jX,eq_nil_or_concat→jY,filter_cons→j4,foldl→j_,nodup_append→ki,drop_left→kr,forIn_cons→ky,isEmpty_nil→kC,mem_flatMap→kE,Nodup→kG,getElem?_replicate→kI,exists_cons_of_ne_nil→kK,getElem?_set_self→kN,length_eq_one_iff→kR,Pairwise→kT,forall_mem_cons→kU,getElem?_drop→kW,filter_append→kY,pairwise_map→lm,exists_cons_of_length_eq_add_one→ly,countP_cons→lD,forIn_nil→lH,drop_drop→lR,filter_cons_of_neg→lS,zipIdx_nil→lV,zipIdx_cons→lW,one_le_count_iff→lX,ext_getElem?→l_,getElem_map→ml,getElem?_append_left→mn,getElem?_set_ne→mx,length_pos_iff→mI,take_succ→mJ,take_sublist→mM,pairwise_singleton→mQ,extract_eq_take_drop→mR,take_append_drop→m5,take_zero→m9,take_add→m_,flatMap_append→nc,flatMap_def→ni,contains_iff_mem→ny
open Nat renaming le_refl→aE,zero_le→bc,le_trans→bI,le_of_ble_eq_true→bJ,ne_of_lt→bQ,lt_of_lt_of_le→b_,zero_add→ca,lt_irrefl→c_,ne_of_gt→dh,one_mul→dO,sub_zero→eA,add_mul→eJ,add_zero→eM,min_eq_left→fy,le_of_eq→fE,mul_add→fT,add_comm→fW,sub_self→ge,one_le_two_pow→gL,add_le_add_left→h_,mul_le_mul_left→ie,eq_zero_or_pos→iq,le_add_right→iR,add_sub_cancel_left→ja,reduceAdd→jx,succ→jB,le_of_lt→jW,mul_assoc→kJ,mul_le_mul_right→lC,succ_ne_self→lE,le_mul_of_pos_left→lI,lt_succ_self→mf,min_eq_right→mw,le_of_not_lt→mC
open Option.some renaming inj→aL,injEq→bS
open PySem.Heap renaming get?_push_of_some→aN,lt_size→aT,get?_push_size→bG,size_push→cP,SameBut→cR,ExtBut→jQ,get?_update_self→kM,get?_update_other→mK
open PySem.NameKind renaming free→bb,cell→cx
open PySem.Value renaming ref→bj,none→cV,str→eE,int→eH,bool→eX,type→g9,float→jc,isStrOf→mH
open Ne renaming symm→bE
open PySem.Txt renaming partition→bP,slice→cu,upper→eN
open Bool renaming and_eq_true→bV,false_eq_true→cA,eq_iff_iff→dc,false_ne_true→dy,and_false→eO,not_eq_true'→eZ,false_or→fN,false_and→iP,not_true→i_,or_false→jo,or_eq_true→jG,and_self→kc,true_and→mO,and_assoc→mW,or_assoc→nz
open False renaming elim→cp
open Int renaming toNat_natCast→cy,toNat_of_nonneg→dt,emod_nonneg→dG,emod_lt_of_pos→dX
open ToString renaming toString→cG
open PyProof.Rows renaming envOfC→cQ,AllBare→cS,slot_tuple_getitem→fH,callWith_type1→fM,IsTup→fU,IntsAre→gE,UnaryOp_→jE,slicePart_none→kL,boot_tuple→lg,entry_tuple_getitem→lx,boot_int→lA,boot_list→lL,subscriptTail_builtinR→mo,args_tuple_getitem→my
open PySem.Builtin.Str renaming occurrences→cW,strSliceIndices→gP,strSub→iY,subAt→mB
open PySem.Builtin.SmallTypes renaming nextOf→de,ownedTupleIsFree→fP,ownedTupleHandOut→iH
open True renaming intro→du
open Prod.mk renaming injEq→dM
open Sum renaming inr→dW
open PySem.Obj renaming mapSeq→fi,data_mapFields→ma
open ForInStep renaming yield→fu
open PySem.SeqAt renaming EqAt→fG,RcNeAt→gf,RcAt→gr
open Or renaming inr→fJ,inl→gO
open PySem.Builtin.List renaming listTooLong→fR
open PySem.Paired renaming length→gb
open List.cons renaming injEq→gd
open Eq renaming trans→gB
open LawfulMonad renaming pure_bind→gT
open LawfulBEq renaming eq_of_beq→gX
open PySem.Builtin.Slice renaming slicePlaces→g_,sliceAdjust→jN,sliceApplied→mV
open PySem.F renaming slot_zip_next→ib,slot_enumerate_next→iz,slot_tuple_iterator_next→iN,slot_list_getattribute→j',entry_tuple_add→jK,args_tuple_add_2→jO,slot_tuple_add→jZ,plainAttrs_list→j8,plainAttrs_str→kA,slot_int_rmul→kS,slot_list_extend→lq,entry_list_extend→lU,entry_enumerate_next→lZ,slot_str_partition→mh,entry_tuple_iterator_next→mj,args_tuple_iterator_next_1→mr,args_zip_next_1→mF,entry_zip_next→mS,excBase_ValueError→mY,args_list_extend_2→mZ,args_enumerate_next_1→nj
open Array renaming toList_append→ip,length_toList→jJ,mem_toList_iff→k9,toList_extract→lB,toList_inj→lO
open PySem.Builtin.Tuple renaming tupleExact→iu,tupleItemsOf→m4
open PyProof.Rows.IsTup renaming new→iE
open Function renaming comp→jm
open PySem.Around renaming under→ju,under_plainId→kO
open PySem.Walks renaming list→kh
open Lean.Syntax renaming Term→ko
open Lean renaming mkIdent→kq
open BEq renaming comm→kx
open Prod renaming snd→kB
open PySem.Code renaming isFrame→kD
open PySem.Builtin.Dict renaming updateFrom→k7
open PySem.Calls renaming callWith_builtin→k_,evalArgs_plain→lj,spliced_nil→lr,Name_function_global→lz,spliced_cons→m7
open PySem.Heap.SameBut renaming update→lT
open PySem.AutoSeq1 renaming wpAny_loadPart'→lY
set_option Elab.async false
set_option compiler.extract_closed false
set_option linter.all false
set_option maxRecDepth 100000
set_option maxHeartbeats 4000000
local macro_rules | `(tactic| lia) => `(tactic| first | exact (Nat.sub_add_cancel (Nat.le_trans (by decide) ‹_›)).symm | exact Nat.le_trans ‹_› (by decide) | exact Nat.le_trans (by decide) ‹_› | lia (config := {}) | omega)
section
local macro_rules(kind:=Lean.Parser.Term.quotedName)|x=>match x[0].isNameLit? with |some `l=>`(by lia) |some `d=>`(by decide) |some `s=>`(by simp) |_=>Lean.Macro.throwUnsupported
local macro_rules|`(tactic|left)=>`(tactic|walk_at "wp")
local macro_rules|`(tactic|right)=>`(tactic|obtain⟨$(Lean.mkIdent `r),$(Lean.mkIdent `rfl)⟩:∃r',$(Lean.mkIdent `r)=r'+1:=⟨$(Lean.mkIdent `r)-1,by lia⟩)
local macro_rules(kind:=scientific)|x=>match x.isScientificLit? with |some (m,_,1)=>`($(Lean.mkIdent `wC) (.int $(Lean.quote (m/10)))) |_=>Lean.Macro.throwUnsupported
local macro_rules(kind:=«term{_}»)|x=>do x[1].getSepArgs.foldrM (λx r=>`($(Lean.mkIdent `fX) $(⟨x⟩) $(⟨r⟩))) (←`($(Lean.mkIdent `ae)))
namespace L2
open PySem PySem.Spec PyProof.Rows
def wF{α:Sort _}{A B:α→Prop}{P:Prop}(h:∃a,A a∧B a) (k:∀a,A a→B a→P):P:=by obtain⟨a,hA,hB⟩:=h;exact k a hA hB
def oJ{α β:Sort _}{A B C:α→β→Prop}{P:Prop}(h:∃a b,A a b∧B a b∧C a b) (k:∀a b,A a b→B a b→C a b→P):P:=by obtain⟨a,b,hA,hB,hC⟩:=h;exact k a b hA hB hC
def Gs{α β:Sort _}{A B C D E:α→β→Prop}{P:Prop}(h:∃a b,A a b∧B a b∧C a b∧D a b∧E a b) (k:∀a b,A a b→B a b→C a b→D a b→E a b→P):P:=by obtain⟨a,b,hA,hB,hC,hD,hE⟩:=h;exact k a b hA hB hC hD hE
def oF{α β γ:Sort _}{A B C D:α→β→γ→Prop}{P:Prop}(h:∃a b c,A a b c∧B a b c∧C a b c∧D a b c) (k:∀a b c,A a b c→B a b c→C a b c→D a b c→P):P:=by obtain⟨a,b,c,hA,hB,hC,hD⟩:=h;exact k a b c hA hB hC hD
def MK{α β γ:Sort _}{A B C D E F G:α→β→γ→Prop}{P:Prop}(h:∃a b c,A a b c∧B a b c∧C a b c∧D a b c∧E a b c∧F a b c∧G a b c) (k:∀a b c,A a b c→B a b c→C a b c→D a b c→E a b c→F a b c→G a b c→P):P:=by obtain⟨a,b,c,hA,hB,hC,hD,hE,hF,hG⟩:=h;exact k a b c hA hB hC hD hE hF hG
def Kg{α β γ δ:Sort _}{A B C D:α→β→γ→δ→Prop}{P:Prop}(h:∃a b c d,A a b c d∧B a b c d∧C a b c d∧D a b c d) (k:∀a b c d,A a b c d→B a b c d→C a b c d→D a b c d→P):P:=by obtain⟨a,b,c,d,hA,hB,hC,hD⟩:=h;exact k a b c d hA hB hC hD
def A6{α β γ δ:Sort _}{A B C D E:α→β→γ→δ→Prop}{P:Prop}(h:∃a b c d,A a b c d∧B a b c d∧C a b c d∧D a b c d∧E a b c d) (k:∀a b c d,A a b c d→B a b c d→C a b c d→D a b c d→E a b c d→P):P:=by obtain⟨a,b,c,d,hA,hB,hC,hD,hE⟩:=h;exact k a b c d hA hB hC hD hE
def zIf{α β γ δ:Sort _}{A B C D E F:α→β→γ→δ→Prop}{P:Prop}(h:∃a b c d,A a b c d∧B a b c d∧C a b c d∧D a b c d∧E a b c d∧F a b c d) (k:∀a b c d,A a b c d→B a b c d→C a b c d→D a b c d→E a b c d→F a b c d→P):P:=by obtain⟨a,b,c,d,hA,hB,hC,hD,hE,hF⟩:=h;exact k a b c d hA hB hC hD hE hF
def LU{α β γ δ ε:Sort _}{A B C D E F:α→β→γ→δ→ε→Prop}{P:Prop}(h:∃a b c d e,A a b c d e∧B a b c d e∧C a b c d e∧D a b c d e∧E a b c d e∧F a b c d e) (k:∀a b c d e,A a b c d e→B a b c d e→C a b c d e→D a b c d e→E a b c d e→F a b c d e→P):P:=by obtain⟨a,b,c,d,e,hA,hB,hC,hD,hE,hF⟩:=h;exact k a b c d e hA hB hC hD hE hF
abbrev Key:=Sum Int ah
def ze:Key→ai→Bool
 | .inl k,v=>ai.isInt k v
 | .inr x,v=>mH x v
def zHI (w:aP):Key→Int
 | .inl k=>hashInt k
 | .inr x=>hashStr w x
theorem vh:∀{k:Key}{v:ai},ze k v=true→(∃i t,k=Sum.inl i∧v=eH i t)∨(∃x t,k=dW x∧v=eE x t)
 | .inl i,v,h=>by
  obtain⟨t,e⟩:=ai.isInt_shape (k:=i) (v:=v) h;exact .inl ⟨i,t,rfl,e⟩
 | .inr x,v,h=>by
  obtain⟨t,e⟩:=ai.isStrOf_shape (x:=x) (v:=v) h;exact .inr ⟨x,t,rfl,e⟩
def R9 (i:Int) (t:Tok):ze (.inl i) (.int i t)=true:=by simp [ze,ai.isInt]
def Yx (x:ah) (t:Tok):ze (.inr x) (.str x t)=true:=by simp [ze,mH]
def Ug (a b:Int):decide ((Sum.inl a:Key)=Sum.inl b)=(a == b):=by
 by_cases e:a=b
 ·subst e;simp
 ·have h:¬(Sum.inl a:Key)=Sum.inl b:=λq=>e (Sum.inl.inj q);rw[decide_eq_false h];exact(beq_eq_false_iff_ne.mpr e).symm
def Rx (a b:ah):decide ((dW a:Key)=dW b)=decide (a=b):=by
 by_cases e:a=b
 ·subst e;simp
 ·have h:¬(dW a:Key)=dW b:=λq=>e (dW.inj q);rw[decide_eq_false h,decide_eq_false e]
def Z' (a:Int) (b:ah):decide ((Sum.inl a:Key)=dW b)=false:=decide_eq_false (λq=>nomatch q)
def zDu (a:ah) (b:Int):decide ((dW a:Key)=Sum.inl b)=false:=decide_eq_false (λq=>nomatch q)
noncomputable def rQ (prog:aY) (w:aP):PySem.KeyKind prog w Key where
  is:=ze
  hash:=zHI w
  inj:=λv a b ha hb=>by
    obtain ⟨i,t,rfl,rfl⟩ |⟨x,t,rfl,rfl⟩:=vh ha
    · obtain ⟨j,u,rfl,e⟩ |⟨y,u,rfl,e⟩:=vh hb
      · injection e with e1 _;rw[e1]
      · exact nomatch e
    · obtain ⟨j,u,rfl,e⟩ |⟨y,u,rfl,e⟩:=vh hb
      · exact nomatch e
      · injection e with e1 _;rw[e1]
  byValue:=λk v h=>by
    rcases vh h with⟨i,t,rfl,rfl⟩ |⟨x,t,rfl,rfl⟩<;>rfl
  pyHash:=λhv h=>by
    obtain ⟨i,t,rfl,rfl⟩ |⟨x,t,rfl,rfl⟩:=vh hv
    · exact wpAny_pyHash_int h
    · exact wpAny_pyHash_str h
  eqBool:=λhu hv h=>by
    obtain ⟨i,t,rfl,rfl⟩ |⟨x,t,rfl,rfl⟩:=vh hu
    · obtain ⟨j,u,rfl,rfl⟩ |⟨y,u,rfl,rfl⟩:=vh hv
      · rw[Ug]at h;exact wpAny_eqBool_int h
      · rw[Z']at h;exact fG.int_str i t y u _ _ _ _ h
    · obtain ⟨j,u,rfl,rfl⟩ |⟨y,u,rfl,rfl⟩:=vh hv
      · rw[zDu]at h;exact fG.str_int x t j u _ _ _ _ h
      · rw[Rx]at h;exact wpAny_eqBool_str h
  «strs» :=λk x t v h=>by
    obtain ⟨i,u,rfl,e⟩ |⟨y,u,rfl,e⟩:=vh h
    · exact nomatch e
    · injection e with e1 _;subst e1;cases v<;>rfl
def Yf (prog:aY) (w:aP) (i:Int) (t:Tok):(rQ prog w).is (.inl i) (.int i t)=true:=R9 i t
def V6 (prog:aY) (w:aP) (x:ah) (t:Tok):(rQ prog w).is (.inr x) (.str x t)=true:=Yx x t
inductive V where
  |bR |bl (b:Bool) |int (i:Int) |str (x:ah) |byt (b:Array UInt8) |flt (b:UInt64) |ref (a:aj) |ty (n:String)
  deriving DecidableEq
def nH:V→ai→Prop
 | .bR,u=>u=cV
 | .bl b,u=>u=eX b
 | .int i,u=>∃t,u=eH i t
 | .str x,u=>∃t,u=eE x t
 | .byt b,u=>∃t,u=ai.bytes b t
 | .flt b,u=>∃t,u=jc b t
 | .ref a,u=>u=bj a
 | .ty n,u=>u=g9 n
abbrev nE:List V→List ai→Prop:=bh nH
def nE.length{xs:List V}{us:List ai}(r:nE xs us):xs.length=us.length:=gb r
theorem nE.get:∀{xs:List V}{us:List ai}{i:Nat}{x:V},nE xs us→xs[i]? =aa x→ ∃u,us[i]? =aa u∧nH x u
 |_,_,_,_, .nil,e=>by simp at e
 |_,_,0,_, .cons r _,e=>by simp at e;subst e;exact⟨_,rfl,r⟩
 |_,_,i+1,x, .cons _ t,e=>by
  obtain⟨u,h1,h2⟩:=nE.get (i:=i) (x:=x) t (by simpa using e);exact⟨u,by simpa using h1,h2⟩
theorem nE.set (r:nH x u):∀{xs:List V}{us:List ai}(i:Nat),nE xs us→nE (xs.set i x) (us.set i u)
 |_,_,_, .nil=> .nil
 |_,_,0, .cons _ t=> .cons r t
 |_,_,i+1, .cons q t=> .cons q (nE.set r i t)
def nE.append:∀{xs ys:List V}{us ws:List ai},nE xs us→nE ys ws→nE (xs++ys) (us++ws):=λ{xs ys us ws} h g=>by
 induction h with
 |nil=>exact g
 |cons r _ ih=>exact .cons r ih
theorem nE.take:∀{xs:List V}{us:List ai}(n:Nat),nE xs us→nE (xs.take n) (us.take n)
 |_,_,0,_=> .nil
 |_,_,_+1, .nil=> .nil
 |_,_,n+1, .cons r t=> .cons r (nE.take n t)
theorem nE.drop:∀{xs:List V}{us:List ai}(n:Nat),nE xs us→nE (xs.drop n) (us.drop n)
 |_,_,0,r=>r
 |_,_,_+1, .nil=> .nil
 |_,_,n+1, .cons _ t=>nE.drop n t
def pU:Option V→Option ai→Prop
 |some v,aa u=>nH v u
 |none,none=>True
 |_,_=>False
def KV {κ:Type}:List (κ×V)→List (κ×ai)→Prop:=bh λ(p:κ×V) (q:κ×ai)=>p.1=q.1∧nH p.2 q.2
noncomputable def kV:Key→V
 | .inl i=> .int i
 | .inr x=> .str x
inductive HO where
    |bx (xs:List V)
    |bH (xs:List V)
    |dK (dP:List (Key×V)) |dT (dP:List (List Key×V))
    |set (S:Int→Bool) (n:Nat)
    |ins (C dx:aj) (fs:List (ah×V))
    |own (x:aj)
    |xd (fs:List (ah×V))
    |met (f x:aj)
    |rng (lo hi:Int)
    |frz (o:aJ) (u:HO)
    |tbl (ps:Array ai)
    |ext (φ:aH→Prop)
abbrev Hp:=aj→Option HO
noncomputable def nY (H:Hp) (a:aj) (o:HO):Hp:=λb=>if b=a then aa o else H b
def pY:nY H a o a=aa o:=by unfold nY;rw[if_pos rfl]
def oV (h:b≠a):nY H a o b=H b:=by unfold nY;rw[if_neg h]
def B5{H:Hp}{a b:aj}{o u:HO}(h:H a=aa o) (h':H b=aa u) (d:o≠u):a≠b:=by
 intro e;subst e;rw[h]at h';exact d (aL h')
def qz{H:Hp}{a b:aj}{o:HO}(h:H a=aa o) (h':H b=none):a≠b:=by
 intro e;subst e;rw[h]at h';cases h'
section
variable (P:aY) (w:aP)
def nZ (H:Hp) (h:aH) (a:aj):HO→Prop
 | .bx xs=>xs.length≤sizeLine∧ ∃(c6:List ai) (n:Nat),nE xs c6∧h.get? a=aa { cls:= .type "list",data:= .seq c6.toArray n }
 | .bH xs=>xs.length≤sizeLine∧ ∃c6:List ai,nE xs c6∧fU h a c6.toArray
 | .dK dP=>dP.length≤sizeLine∧(a == fh)=false∧ ∃vs,KV dP vs∧h.DictOf (rQ P w) a vs
 | .dT dP=>dP.length≤sizeLine∧(a == fh)=false∧ ∃xs:List (List Key×aj×ai),
   bh (λ(p:List Key×V) (q:List Key×aj×ai)=>p.1=q.1∧H q.2.1=aa (.bH (p.1.map kV))∧nH p.2 q.2.2) dP xs∧
   ∃o es ep,h.get? a=aa o∧o.ExactDict∧o.data= .dict es ep∧es.toList=xs.map (entryOfKey (c5 (rQ P w)))∧(xs.map (·.1)).Nodup
 | .set S n=>h.SetOf (intKind P w) a S n
 | .ins C dx fs=>H dx=aa (.own a)∧fs.length≤1000∧dx≠a∧h.get? a=aa (d6 C dx)∧
   ∃mA,h.Ns1 dx mA∧(∀f,pU (fs.lookup f) (mA f))∧ik mA (fs.map (·.1))
 | .own _=>∃o,h.get? a=aa o
 | .xd fs=>∃mA,h.Ns1 a mA∧ ∀f,pU (fs.lookup f) (mA f)
 | .rng lo hi=>∃t u v,h.get? a=aa { cls:= .type "range",data:= .fields #[.int lo t, .int hi u, .int 1 v] }
 | .frz o u=>h.get? a=aa o∧nZ H h a u
 | .tbl ps=>h.get? a=aa { cls:= .none,data:= .fields ps }
 | .met f x=>h.get? a=aa (j9 (.ref f) (.ref x))
 | .ext φ=>φ h∧(∃o,h.get? a=aa o)∧ ∀h1 h2:aH,φ h1→(∀o,h1.get? a=aa o→h2.get? a=aa o)→φ h2
def ph (H:Hp) (h:aH):Prop:=∀a o,H a=aa o→nZ P w H h a o
end
section
variable {P:aY}{w:aP}{H H':Hp}{h h':aH}{a:aj}{o:HO}
def nZ.lt (x:nZ P w H h a o):a<h.objs.size:=by
 cases o with
 |bx xs=>obtain⟨_,_,_,_,e⟩:=x;exact aT e
 |bH xs=>obtain⟨_,_,_,p⟩:=x;exact p.lt
 |dK dP=>obtain⟨_,_,_,_,o,_,_,e,_⟩:=x;exact aT e
 |dT dP=>obtain⟨_,_,_,_,o,_,_,e,_⟩:=x;exact aT e
 |set S n=>obtain⟨o,_,_,_,e,_⟩:=x;exact aT e
 |ins C dx fs=>obtain⟨_,_,_,e,_⟩:=x;exact aT e
 |own y=>obtain⟨_,e⟩:=x;exact aT e
 |xd fs=>obtain⟨_,⟨_,_,_,e,_⟩,_⟩:=x;exact aT e
 |rng lo hi=>obtain⟨_,_,_,e⟩:=x;exact aT e
 |frz ob u=>obtain⟨e,_⟩:=x;exact aT e
 |tbl ps=>exact aT (show h.get? a=aa _ from x)
 |met f y=>exact aT (show h.get? a=aa _ from x)
 |ext φ=>obtain⟨_,⟨_,e⟩,_⟩:=x;exact aT e
def Paired.mapP{α β:Type}{F G:α→β→Prop}:∀{l₁:List α}{l₂:List β},bh F l₁ l₂→(∀a b,F a b→G a b)→bh G l₁ l₂:=λ{l₁ l₂} h f=>by
 induction h with
 |nil=>exact .nil
 |cons r _ ih=>exact .cons (f _ _ r) ih
def nZ.stay (x:nZ P w H h a o) (k:∀b u,(b=a∨H b=aa (.own a))→h.get? b=aa u→h'.get? b=aa u)
  (ho:∀b,H b=aa (.own a)→H' b=aa (.own a)) (ht:∀b xs,H b=aa (.bH xs)→H' b=aa (.bH xs)):nZ P w H' h' a o:=by
 induction o with
 |bx xs=>obtain⟨z,c6,n,r,e⟩:=x;exact⟨z,c6,n,r,k _ _ (.inl rfl) e⟩
 |bH xs=>obtain⟨z,c6,r,ob,e,c⟩:=x;exact⟨z,c6,r,ob,k _ _ (.inl rfl) e,c⟩
 |dK dP=>obtain⟨z,y,vs,r,ob,es,ep,e,c⟩:=x;exact⟨z,y,vs,r,ob,es,ep,k _ _ (.inl rfl) e,c⟩
 |dT dP=>
  obtain⟨z,y,xs,r,ob,es,ep,e,c⟩:=x;exact⟨z,y,xs,Paired.mapP r λp q z=>⟨z.1,ht _ _ z.2.1,z.2.2⟩,ob,es,ep,k _ _ (.inl rfl) e,c⟩
 |set S n=>obtain⟨ob,es,ep,t,e,c⟩:=x;exact⟨ob,es,ep,t,k _ _ (.inl rfl) e,c⟩
 |ins C dx fs=>
  obtain⟨d,z,ne,e,mA,⟨od,es,ep,e2,c⟩,r⟩:=x;exact⟨ho _ d,z,ne,k _ _ (.inl rfl) e,mA,⟨od,es,ep,k _ _ (.inr d) e2,c⟩,r⟩
 |own y=>obtain⟨ob,e⟩:=x;exact⟨ob,k _ _ (.inl rfl) e⟩
 |xd fs=>obtain⟨mA,⟨od,es,ep,e,c⟩,r⟩:=x;exact⟨mA,⟨od,es,ep,k _ _ (.inl rfl) e,c⟩,r⟩
 |rng lo hi=>obtain⟨t,u,v,e⟩:=x;exact⟨t,u,v,k _ _ (.inl rfl) e⟩
 |frz ob u ih=>obtain⟨e,q⟩:=x;exact⟨k _ _ (.inl rfl) e,ih q⟩
 |tbl ps=>
  have e:h.get? a=aa { cls:= .none,data:= .fields ps }:=x;show h'.get? a=aa { cls:= .none,data:= .fields ps };exact k a _ (.inl rfl) e
 |met f y=>
  have e:h.get? a=aa (j9 (.ref f) (.ref y)):=x;show h'.get? a=aa (j9 (.ref f) (.ref y));exact k a _ (.inl rfl) e
 |ext φ=>obtain⟨p,⟨o,e⟩,st⟩:=x;exact⟨st _ _ p λo q=>k _ _ (.inl rfl) q,⟨o,k _ _ (.inl rfl) e⟩,st⟩
def ph.lt (x:ph P w H h) (e:H a=aa o):a<h.objs.size:=(x a o e).lt
def ph.fresh (x:ph P w H h) (e:h.objs.size≤a):H a=none:=by
 cases q:H a with
 |none=>rfl
 |some u=>exact absurd (b_ (x.lt q) e) (c_ _)
def ph.kept (x:ph P w H h) (k:∀b u,h.get? b=aa u→h'.get? b=aa u):ph P w H h':=λa o e=>
 (x a o e).stay (λb u _ q=>k b u q) (λ_ q=>q) λ_ _ q=>q
def ph.laid (x:ph P w H h) (k:∀b u,h.get? b=aa u→h'.get? b=aa u) (hp:h.objs.size≤a) (new:nZ P w (nY H a o) h' a o):ph P w (nY H a o) h':=λb u e=>by
 have hn:=x.fresh hp;by_cases hb:b=a
 ·subst hb;rw[pY]at e;cases e;exact new
 ·rw[oV hb]at e;exact(x b u e).stay (λc v _ q=>k c v q) (λc q=>by rw[oV (qz q hn)];exact q) λc xs q=>by rw[oV (qz q hn)];exact q
end
def Rd (H:Hp) (a:aj) (u:HO):Prop:=H a=aa u∨ ∃o,H a=aa (.frz o u)
def Rd.ok (r:Rd H a u) (x:ph P w H h):nZ P w H h a u:=by
 obtain r |⟨o,r⟩:=r
 ·exact x a u r
 ·obtain⟨_,q⟩:=x a _ r;exact q
def Dl:Option HO→Prop
 |some (.bx _)=>True
 |some (.dK _)=>True
 |some (.dT _)=>True
 |some (.set _ _)=>True
 |some (.ins _ _ _)=>True
 |some (.ext _)=>True
 |_=>False
section
variable {P:aY}{w:aP}{H:Hp}{h h':aH}{x e:aj}{o':HO}
def ph.write (ok:ph P w H h) (mu:Dl (H x)) (he:e=x∨H e=aa (.own x)) (k:∀b u,b≠e→h.get? b=aa u→h'.get? b=aa u) (heo:∃u,h'.get? e=aa u)
  (new:nZ P w (nY H x o') h' x o'):ph P w (nY H x o') h':=λb u q=>by
 have nown:∀c y,H c=aa (.own y)→c≠x:=λc y r z=>by subst z;rw[r]at mu;exact mu
 have ntup:∀c xs,H c=aa (.bH xs)→c≠x:=λc xs r z=>by subst z;rw[r]at mu;exact mu
 by_cases hb:b=x
 ·subst hb;rw[pY]at q;cases q;exact new
 ·rw[oV hb]at q;by_cases hbe:b=e
  ·have q':H b=aa (.own x):=by
    obtain z |z:=he
    ·exact absurd (hbe.trans z) hb
    ·rw[hbe];exact z
   rw[q]at q';cases q';obtain⟨v,hv⟩:=heo;exact⟨v,by rw[hbe];exact hv⟩
  ·refine(ok b u q).stay (λc v hc r=>k c v ?_ r) (λc r=>by rw[oV (nown c b r)];exact r) λc xs r=>by rw[oV (ntup c xs r)];exact r
   obtain rfl |hc:=hc
   ·exact hbe
   ·rintro rfl;obtain z |z:=he
    ·exact nown c b hc z
    ·rw[hc]at z;cases z;exact hb rfl
end
structure Un (fs ex:List aj) (H H':Hp) (h h':aH):Prop where
  keep:∀b o,h.get? b=aa o→H b=none→b∉fs→b∉ex→h'.get? b=aa o
  slot:∀b o,h.get? b=aa o→H b=none→b∈fs→b∉ex→ ∃sl,h'.get? b=aa { o with slots:=sl }
  free:∀b o,h.get? b=aa o→H b=none→b∉ex→H' b=none
  there:∀b o,h.get? b=aa o→b∉ex→ ∃o',h'.get? b=aa o'
  tups:∀b xs,H b=aa (.bH xs)→H' b=aa (.bH xs)
  frzs:∀b o u,H b=aa (.frz o u)→H' b=aa (.frz o u)
  tbls:∀b ps,H b=aa (.tbl ps)→ ∃more,H' b=aa (.tbl (ps++more))
section
variable {fs ex:List aj}{H H1:Hp}{h h1 h':aH}{a x e:aj}{o:HO}
def Un.any (u:Un fs ex H H1 h h1) {b:aj}{ob:aJ}(q:h.get? b=aa ob) (n:H b=none) (hx:b∉ex):∃sl,h1.get? b=aa { ob with slots:=sl }:=by
 by_cases hb:b∈fs
 ·exact u.slot b ob q n hb hx
 ·exact⟨ob.slots,u.keep b ob q n hb hx⟩
def Un.kept (k:∀b u,h.get? b=aa u→h'.get? b=aa u):Un fs ex H H h h':=
 ⟨λb ob q _ _ _=>k b ob q,λb ob q _ _ _=>⟨ob.slots,k b ob q⟩,λ_ _ _ n _=>n,λb ob q _=>⟨ob,k b ob q⟩,λ_ _ q=>q,λ_ _ _ q=>q,λ_ ps q=>⟨#[],by rw[q];simp⟩⟩
def Un.refl:Un fs ex H H h h:=Un.kept λ_ _ q=>q
def Un.laid (k:∀b u,h.get? b=aa u→h'.get? b=aa u) (hp:h.objs.size≤a) (hn:H a=none):Un fs ex H (nY H a o) h h' where
  keep:=λb u q _ _ _=>k b u q
  slot:=λb u q _ _ _=>⟨u.slots,k b u q⟩
  free:=λb u q n _=>by rw[oV (bQ (b_ (aT q) hp))];exact n
  there:=λb u q _=>⟨u,k b u q⟩
  tups:=λb xs q=>by rw[oV (qz q hn)];exact q
  frzs:=λb u xs q=>by rw[oV (qz q hn)];exact q
  tbls:=λb ps q=>⟨#[],by rw[oV (qz q hn),q];simp⟩
def Un.write (mu:Dl (H x)) (he:e=x∨H e=aa (.own x)) (k:∀b u,b≠e→h.get? b=aa u→h'.get? b=aa u) (heo:∃u,h'.get? e=aa u):Un fs ex H (nY H x o) h h':=by
 have hx:∀b,H b=none→b≠x:=λb n z=>by subst z;rw[n]at mu;exact mu
 have hb:∀b,H b=none→b≠e:=λb n z=>by
  subst z;obtain r |r:=he
  ·exact hx b n r
  ·rw[n]at r;cases r
 have hm:∀b u,H b=aa u→ ¬Dl (aa u)→b≠x:=λb u q nm z=>by subst z;rw[q]at mu;exact nm mu
 refine⟨λb u q n _ _=>k b u (hb b n) q,λb u q n _ _=>⟨u.slots,k b u (hb b n) q⟩,λb u q n _=>by rw[oV (hx b n)];exact n,λb u q _=>?_,
  λb xs q=>by rw[oV (hm b _ q λz=>z)];exact q,λb u xs q=>by rw[oV (hm b _ q λz=>z)];exact q,λb ps q=>⟨#[],by rw[oV (hm b _ q λz=>z),q];simp⟩⟩
 by_cases hbe:b=e
 ·subst hbe;exact heo
 ·exact⟨u,k b u hbe q⟩
end
noncomputable def B6 (h:aH) (H:Hp):List aj:=(bt h.objs.size).filter λa=>(H a).isSome
noncomputable def vk (h:aH) (H:Hp):aH:=gc h (B6 h H)
def Y5 (h:aH) (H:Hp):(vk h H).objs.size=h.objs.size:=PySem.W.hideAll_size _ _
def YN (e:h.get? b=aa o) (n:H b=none):(vk h H).get? b=aa o:=
 kF _ e λhm=>by
  have q:(H b).isSome=true:=(iT.mp hm).2;rw[n]at q;simp at q
def RG (e:(vk h H).get? b=aa o):h.get? b=aa o∧H b=none:=by
 have e':h.get? b=aa o:=jC (B6 h H) e;refine⟨e',?_⟩;cases q:H b with
 |none=>rfl
 |some x=>
  have hm:b∈B6 h H:=iT.mpr ⟨eV.mpr (aT e'),by simp [q]⟩
  have z:(vk h H).get? b=none:=il (B6 h H) hm;rw[z]at e;cases e
noncomputable def zxT (g h:aH) (L:aj):List (aj×aJ):=(bt h.objs.size).filterMap λa=>if a=L∨(g.get? a).isSome=true then none else(h.get? a).map λo=>(a,o)
noncomputable def rest (g h:aH) (L d:aj):List (aj×aJ):=(zxT g h L).filter λp=>decide (p.1≠d)
structure Mod (K:am) (mg:ah→Option ai) (base:aH):Prop where
  kin:K.In base
  glob:base.Ns aO mg
  blt:∃mb,base.Ns jA mb∧ ∀x:ah,x≠ "__name__" →mb x=cO x
  nolimit:base.NoLimit
structure Cx where
  prog:aY
  w:aP
  K:am
  mg:ah→Option ai
  base:aH
  A:bn
  N:List ah
  s₀:ao
  H₀:Hp
  env:bM
  outer:List bM
  stack:List bM
  ex:List aj
  fn:ah→Bool
  calm:Bool
  pn:List (aj×aJ)
  xe:ai→ao→Prop
noncomputable def frs (l:List bM):List aj:=l.filterMap (·.frame)
noncomputable abbrev Cx.fs (X:Cx):List aj:=frs X.outer
def xT (sc:Scope) (x:ah):Prop:=sc.names.lookup x=aa .local∨sc.names.lookup x=aa .cell∨sc.names.lookup x=aa .free
def uk (sc:Scope) (x:ah):Prop:=sc.names.lookup x=aa .local∨sc.names.lookup x=aa .cell
def YY (env:bM) (h:aH) (m:ah→Option ai) (x:ah) (u:ai):Prop:=
 (env.kindOf x=aa .local∧m x=aa u)∨((env.kindOf x=aa .cell∨env.kindOf x=aa .free)∧ ∃c,env.cells.lookup x=aa c∧h.IsCell c (aa u))
structure Cx.Ok (X:Cx):Prop where
  mod:Mod X.K X.mg X.base
  kind:X.env.scope.kind= .function
  glob:X.env.globals=aO
  blt:X.env.builtins=jA
  above:X.s₀.heap.objs.size≤X.env.locals
  inj:∀x y c,X.env.cells.lookup x=aa c→X.env.cells.lookup y=aa c→x=y
  has:∀x,(X.env.kindOf x=aa .cell∨X.env.kindOf x=aa .free)→ ∃c,X.env.cells.lookup x=aa c
  cab:∀x c,X.fn x=true→X.env.cells.lookup x=aa c→X.s₀.heap.objs.size≤c
  hd:X.calm=true→X.A.handled=none
  frames:X.A.frames=aa X.stack
  stk:X.stack=X.outer∨(X.stack=X.env::X.outer∧X.env.frame=aa X.env.locals)
  exf:∀b∈X.ex,b≠X.env.locals∧ ∀x c,X.env.cells.lookup x=aa c→c≠b
  bs:∀b o,X.base.get? b=aa o→X.s₀.heap.get? b=aa o∧X.H₀ b=none
  bsz:X.base.objs.size≤X.s₀.heap.objs.size
  noex:∀b o,X.base.get? b=aa o→b∉X.ex
  exfs:∀b∈X.ex,b∉X.fs
  funs:X.s₀.heap.FunFrames X.base X.outer
  frf:∀b∈X.fs,X.H₀ b=none
structure nA (X:Cx) (ag:List (aj×aJ)) (σ:List (Option V)) (H:Hp) (s:ao):Prop where
  ok:X.Ok
  os:s.os=X.s₀.os
  bare:cS s.gens
  base:Un X.fs X.ex X.H₀ H X.s₀.heap s.heap
  loc:∃m,s.heap.Ns X.env.locals m∧ ∀(i:Nat) (x:ah) (v:V),X.N[i]? =aa x→σ[i]? =aa (aa v)→xT X.env.scope x→ ∃u,nH v u∧YY X.env s.heap m x u
  cell:∀x c,X.env.cells.lookup x=aa c→ ∃v,s.heap.IsCell c v
  free:H X.env.locals=none
  freeC:∀x c,X.env.cells.lookup x=aa c→H c=none
  pin:∀p∈X.pn++ag,s.heap.get? p.1=aa p.2∧H p.1=none∧p.1≠X.env.locals∧p.1∉X.fs∧ ∀v,p.2.data≠ .cell v
  b6:ph X.prog X.w H s.heap
  len:σ.length=X.N.length
section
variable {X:Cx}{ag:List (aj×aJ)}{σ:List (Option V)}{H H':Hp}{s:ao}{h':aH}
def Cx.Ok.nofr (ok:X.Ok) (e:X.base.get? b=aa o):b∉X.fs:=λhb=>by
 have:=(ok.funs.mem hb).1;rw[e]at this;cases this
def nA.bs (I:nA X ag σ H s):∀b o,X.base.get? b=aa o→s.heap.get? b=aa o∧H b=none:=λb o e=>
 ⟨I.base.keep b o (I.ok.bs b o e).1 (I.ok.bs b o e).2 (I.ok.nofr e) (I.ok.noex b o e),I.base.free b o (I.ok.bs b o e).1 (I.ok.bs b o e).2 (I.ok.noex b o e)⟩
def nA.bk (I:nA X ag σ H s):∀b o,X.base.get? b=aa o→s.heap.get? b=aa o:=λb o e=>(I.bs b o e).1
def nA.mod (I:nA X ag σ H s):Mod X.K X.mg X.base:=I.ok.mod
def nA.kIn (I:nA X ag σ H s):X.K.In s.heap:=I.ok.mod.kin.keeps I.bk
def nA.lt (I:nA X ag σ H s):X.env.locals<s.heap.objs.size:=let ⟨_,hn,_⟩:=I.loc;hn.lt
def nA.sz (I:nA X ag σ H s):X.s₀.heap.objs.size≤s.heap.objs.size:=bI I.ok.above (jW I.lt)
def nA.nofs (I:nA X ag σ H s) (h:s.heap.objs.size≤a):a∉X.fs:=λhb=>by
 obtain⟨_,o,ho,_⟩:=I.ok.funs.mem hb;exact absurd (b_ (aT ho) (bI I.sz h)) (c_ _)
def nA.cne (I:nA X ag σ H s):∀x c,X.env.cells.lookup x=aa c→c≠X.env.locals:=λx c e z=>by
 obtain⟨v,o,ho,hd⟩:=I.cell x c e;obtain⟨m,⟨o',es,ep,ho',hd',_⟩,_⟩:=I.loc;rw[z,ho']at ho;cases ho;rw[hd']at hd;cases hd
def nA.funs (I:nA X ag σ H s):s.heap.FunFrames X.base X.outer:=by
 have all:∀(l:List bM),(∀b∈frs l,b∈X.fs)→X.s₀.heap.FunFrames X.base l→s.heap.FunFrames X.base l:=by
  intro l
  induction l with
  |nil=>intro _ _;trivial
  |cons env r ih=>
   intro hs hl;obtain⟨hk,⟨L,o,hf,hn,ho,hd⟩,hr⟩:=hl;have hL:L∈X.fs:=hs L (by unfold frs;rw[iy,hf];exact aM);obtain⟨sl,e⟩:=I.base.slot L o ho (I.ok.frf L hL) hL λz=>I.ok.exfs L z hL;exact⟨hk,⟨L,_,hf,hn,e,hd⟩,ih (λb hb=>hs b (by unfold frs;rw[iy,hf];exact aI _ hb)) hr⟩
 exact all X.outer (λ_ hb=>hb) I.ok.funs
def nA.stack (I:nA X ag σ H s):s.heap.FunFrames X.base X.stack:=by
 obtain e |⟨e,hf⟩:=I.ok.stk
 ·rw[e];exact I.funs
 ·rw[e];obtain⟨m,hn,_⟩:=I.loc;refine .cons (by rw[I.ok.kind];decide) hf hn ?_ I.funs;exact aH.get?_none_of_le (bI I.ok.bsz I.ok.above)
def nA.stkSub (I:nA X ag σ H s):∀b∈frs X.stack,b∈X.env.locals::X.fs:=λb hb=>by
 obtain e |⟨e,hf⟩:=I.ok.stk
 ·rw[e]at hb;exact aI _ hb
 ·rw[e]at hb;unfold frs at hb;rw[iy,hf]at hb;exact hb
def nA.stkFree (I:nA X ag σ H s):∀b∈frs X.stack,H b=none:=λb hb=>by
 obtain e |hb:=az.mp (I.stkSub b hb)
 ·rw[e];exact I.free
 ·obtain⟨_,o,ho,_⟩:=I.ok.funs.mem hb;exact I.base.free b o ho (I.ok.frf b hb) λz=>I.ok.exfs b z hb
def nA.step{g':Array GenState}{t':Nat}{d':Drawn}{ch:List aj}(I:nA X ag σ H s)
  (hch:∀b∈ch,(b∈X.ex∨X.s₀.heap.objs.size≤b)∧b≠X.env.locals∧(∀x c,X.env.cells.lookup x=aa c→c≠b)∧ ∀p∈X.pn++ag,p.1≠b)
  (keep:∀b o,b≠X.env.locals→b∉X.fs→b∉ch→s.heap.get? b=aa o→H b=none→h'.get? b=aa o)
  (slot:∀b o,b≠X.env.locals→b∈X.fs→b∉ch→s.heap.get? b=aa o→H b=none→ ∃sl,h'.get? b=aa { o with slots:=sl }) (free:∀b o,b∉ch→s.heap.get? b=aa o→H b=none→H' b=none)
  (there:∀b o,b∉ch→s.heap.get? b=aa o→ ∃o',h'.get? b=aa o')
  (tups:∀b xs,H b=aa (.bH xs)→H' b=aa (.bH xs)) (frzs:∀b o u,H b=aa (.frz o u)→H' b=aa (.frz o u)) (tbls:∀b ps,H b=aa (.tbl ps)→ ∃more,H' b=aa (.tbl (ps++more)))
  (ns:∀m,s.heap.Ns X.env.locals m→h'.Ns X.env.locals m) (b6:ph X.prog X.w H' h') (hg:cS g') :
  nA X ag σ H' { s with heap:=h',gens:=g',drawn:=d',toks:=t' }:=by
 have neL:∀b o,X.s₀.heap.get? b=aa o→b≠X.env.locals:=λb o e=>bQ (b_ (aT e) I.ok.above);have neC:∀b o,X.s₀.heap.get? b=aa o→b∉X.ex→b∉ch:=λb o e hx hb=>by
  rcases(hch b hb).1 with z |z
  ·exact hx z
  ·exact absurd (b_ (aT e) z) (c_ _)
 have cellK:∀x c,X.env.cells.lookup x=aa c→ ∀v,s.heap.IsCell c v→h'.IsCell c v:=λx c e v ⟨o,ho,hd⟩=>by
  have nch:c∉ch:=λz=>(hch c z).2.2.1 x c e rfl;by_cases hc:c∈X.fs
  ·obtain⟨sl,q⟩:=slot c o (I.cne x c e) hc nch ho (I.freeC x c e);exact⟨_,q,hd⟩
  ·exact⟨o,keep c o (I.cne x c e) hc nch ho (I.freeC x c e),hd⟩
 refine⟨I.ok,I.os,hg,⟨λb o e n hb hx=>?_,λb o e n hb hx=>?_,λb o e n hx=>?_,λb o e hx=>?_,λb xs e=>tups b xs (I.base.tups b xs e),λb o xs e=>frzs b o xs (I.base.frzs b o xs e),λb ps e=>?_⟩,?_,λx c e=>?_,?_,λx c e=>?_,λp hp=>?_,b6,I.len⟩
 ·exact keep b o (neL b o e) hb (neC b o e hx) (I.base.keep b o e n hb hx) (I.base.free b o e n hx)
 ·obtain⟨sl,e1⟩:=I.base.slot b o e n hb hx;obtain⟨sl',e2⟩:=slot b _ (neL b o e) hb (neC b o e hx) e1 (I.base.free b o e n hx);exact⟨sl',e2⟩
 ·obtain⟨o',e1⟩:=I.base.there b o e hx;exact free b o' (neC b o e hx) e1 (I.base.free b o e n hx)
 ·obtain⟨o',e1⟩:=I.base.there b o e hx;exact there b o' (neC b o e hx) e1
 ·obtain⟨m1,e1⟩:=I.base.tbls b ps e;obtain⟨m2,e2⟩:=tbls b _ e1;exact⟨m1++m2,by rw[e2,Array.append_assoc]⟩
 ·obtain⟨m,hn,hl⟩:=I.loc;refine⟨m,ns m hn,λi x v e1 e2 e3=>?_⟩;obtain⟨u,r,l⟩:=hl i x v e1 e2 e3;refine⟨u,r,?_⟩;obtain l |⟨k,c,e,z⟩:=l
  ·exact .inl l
  ·exact .inr ⟨k,c,e,cellK x c e _ z⟩
 ·obtain⟨v,z⟩:=I.cell x c e;exact⟨v,cellK x c e v z⟩
 ·obtain⟨m,⟨o,_,_,ho,_⟩,_⟩:=I.loc;exact free _ o (λz=>(hch _ z).2.1 rfl) ho I.free
 ·obtain⟨v,o,ho,hd⟩:=I.cell x c e;exact free c o (λz=>(hch c z).2.2.1 x c e rfl) ho (I.freeC x c e)
 ·obtain⟨e,n,ne,nf,d⟩:=I.pin p hp;have nch:p.1∉ch:=λz=>(hch p.1 z).2.2.2 p hp rfl;exact⟨keep p.1 p.2 ne nf nch e n,free p.1 p.2 nch e n,ne,nf,d⟩
def nA.un{t':Nat}(I:nA X ag σ H s) (u:Un X.fs [] H H' s.heap h') (b6:ph X.prog X.w H' h'):nA X ag σ H' { s with heap:=h',toks:=t' }:=by
 obtain⟨m,⟨o,es,ep,ho,r⟩,_⟩:=id I.loc;obtain⟨sl,hL⟩:=u.any ho I.free `s;exact I.step (g':=s.gens) (d':=s.drawn) (ch:=[]) (λ_ z=>nomatch z) (λb o _ hb _ e n=>u.keep b o e n hb `s) (λb o _ hb _ e n=>u.slot b o e n hb `s) (λb o _ e n=>u.free b o e n `s) (λb o _ e=>u.there b o e `s) u.tups u.frzs u.tbls (λm' hm=>by
  obtain⟨o',es',ep',ho',r'⟩:=hm;rw[ho]at ho';cases ho';exact⟨_,es',ep',hL,r'⟩) b6 I.bare
def nA.call{g':Array GenState}{t':Nat}{d':Drawn}{ch:List aj}(I:nA X ag σ H s) (u:Un (frs X.stack) ch H H' s.heap h') (b6:ph X.prog X.w H' h') (hg:cS g')
  (hch:∀b∈ch,(b∈X.ex∨X.s₀.heap.objs.size≤b)∧b≠X.env.locals∧(∀x c,X.env.cells.lookup x=aa c→c≠b)∧ ∀p∈X.pn++ag,p.1≠b) :
  nA X ag σ H' { s with heap:=h',gens:=g',drawn:=d',toks:=t' }:=by
 obtain⟨m,⟨o,es,ep,ho,r⟩,_⟩:=id I.loc;obtain⟨sl,hL⟩:=u.any ho I.free λz=>(hch _ z).2.1 rfl;exact I.step (ch:=ch) hch (λb o hL hb hc e n=>u.keep b o e n (λz=>(az.mp (I.stkSub b z)).elim hL hb) hc) (λb o _ _ hc e n=>u.any e n hc) (λb o hc e n=>u.free b o e n hc) (λb o hc e=>u.there b o e hc) u.tups u.frzs u.tbls (λm' hm=>by
  obtain⟨o',es',ep',ho',r'⟩:=hm;rw[ho]at ho';cases ho';exact⟨_,es',ep',hL,r'⟩) b6 hg
def nA.turned{t':Nat}(I:nA X ag σ H s) (k:∀b o,b≠it→s.heap.get? b=aa o→h'.get? b=aa o) (hn:H it=none) (hL:it≠X.env.locals)
  (h1:it∈X.ex∨X.s₀.heap.objs.size≤it) (h2:∀x c,X.env.cells.lookup x=aa c→c≠it) (h3:∀p∈X.pn++ag,p.1≠it):nA X ag σ H { s with heap:=h',toks:=t' }:=by
 have nit:∀b u,H b=aa u→b≠it:=λb u e z=>by rw[z,hn]at e;cases e
 refine I.step (g':=s.gens) (d':=s.drawn) (ch:=[it]) (λb hb=>?_) (λb o _ _ hc e _=>k b o (λz=>hc (by simp [z])) e) (λb o _ _ hc e _=>⟨o.slots,k b o (λz=>hc (by simp [z])) e⟩) (λ_ _ _ _ n=>n)
  (λb o hc e=>⟨o,k b o (λz=>hc (by simp [z])) e⟩) (λ_ _ e=>e) (λ_ _ _ e=>e) (λb ps e=>⟨#[],by rw[e];simp⟩) (λm hm=>?_) (λb u e=>?_) I.bare
 ·have e:b=it:=by simpa using hb
  subst e;exact⟨h1,hL,h2,h3⟩
 ·obtain⟨o,es,ep,ho,r⟩:=hm;exact⟨o,es,ep,k _ o (bE hL) ho,r⟩
 ·refine(I.b6 b u e).stay (λc v hc q=>k c v ?_ q) (λ_ q=>q) λ_ _ q=>q;obtain z |z:=hc
  ·rw[z];exact nit b u e
  ·exact nit c _ z
def nA.tok (I:nA X ag σ H s) (t:Nat):nA X ag σ H { s with toks:=t }:=I.un (h':=s.heap) (t':=t) Un.refl I.b6
def nA.kept{t':Nat}(I:nA X ag σ H s) (k:∀b u,s.heap.get? b=aa u→h'.get? b=aa u):nA X ag σ H { s with heap:=h',toks:=t' }:=I.un (Un.kept k) (I.b6.kept k)
def nA.laid{t':Nat}(I:nA X ag σ H s) (k:∀b u,s.heap.get? b=aa u→h'.get? b=aa u) (hp:s.heap.objs.size≤a) (new:nZ X.prog X.w (nY H a o) h' a o) :
  nA X ag σ (nY H a o) { s with heap:=h',toks:=t' }:=I.un (Un.laid k hp (I.b6.fresh hp)) (I.b6.laid k hp new)
def nA.write{t':Nat}(I:nA X ag σ H s) (mu:Dl (H x)) (he:e=x∨H e=aa (.own x)) (k:∀b u,b≠e→s.heap.get? b=aa u→h'.get? b=aa u) (heo:∃u,h'.get? e=aa u)
  (new:nZ X.prog X.w (nY H x o) h' x o):nA X ag σ (nY H x o) { s with heap:=h',toks:=t' }:=I.un (Un.write mu he k heo) (I.b6.write mu he k heo new)
def nA.pins_of (I:nA X ag σ H s) (h:∀p∈pins',s.heap.get? p.1=aa p.2∧H p.1=none∧p.1≠X.env.locals∧p.1∉X.fs∧ ∀v,p.2.data≠ .cell v):nA X pins' σ H s:=
 ⟨I.ok,I.os,I.bare,I.base,I.loc,I.cell,I.free,I.freeC,λp hp=>(bv.mp hp).elim (λz=>I.pin p (gp _ z)) (h p),I.b6,I.len⟩
def L9{N:List ah}(hN:N.Nodup) {i j:Nat}{x:ah}(a:N[i]? =aa x) (b:N[j]? =aa x):i=j:=by
 obtain⟨h1,e1⟩:=dq.mp a;obtain⟨h2,e2⟩:=dq.mp b;exact(List.getElem_inj hN).mp (e1.trans e2.symm)
def HH{E:ai→ao→Prop}{Q:Unit→ao→Prop}(I:nA X ag σ H s) (hN:X.N.Nodup) (hi:X.N[i]? =aa x) (hx:uk X.env.scope x) (r:nH v u)
  (h:∀s',nA X ag (σ.set i (aa v)) H s'→(∃a,cR a s.heap s'.heap∧(a=X.env.locals∨X.env.cells.lookup x=aa a))→Q () s') (hf:X.fn x=true∨X.env.scope.names.lookup x=aa .local:=by first |exact .inl rfl |exact .inr rfl |assumption):ax M A (i6 X.env x u) Q E s:=by
 obtain⟨m,hn,hl⟩:=id I.loc;have hcls:(X.env.scope.kind == .class || (X.env.scope.kind == .module&&X.env.locals != X.env.globals))=false:=by rw[I.ok.kind];rfl
 have hiσ:i<σ.length:=by rw[I.len];exact(dq.mp hi).1
 have cne:=I.cne;have tracked:∀{a:aj}{h':aH},(∃o,s.heap.get? a=aa o∧H a=none)→cR a s.heap h'→ph X.prog X.w H h':=λ{a h'} ha hs b ob e=>by
  obtain⟨_,_,hfree⟩:=ha;refine(I.b6 b ob e).stay (λc w' hc q=>(hs.2 c ?_).trans q) (λ_ q=>q) λ_ _ q=>q;rintro rfl;obtain rfl |hc:=hc
  ·rw[hfree]at e;cases e
  ·rw[hfree]at hc;cases hc
 obtain hk |hk:=hx
 ·refine wpAny_storeName_local hk hn (λh' hn' hs=>?_) hcls;obtain⟨oL,_,_,hoL,_⟩:=id hn;refine h _ ⟨I.ok,I.os,I.bare,⟨λb o e n hb hx=>?_,λb o e n hb hx=>?_,I.base.free,λb o e hx=>?_,I.base.tups,I.base.frzs,I.base.tbls⟩,⟨_,hn',λj y v' e1 e2 e3=>?_⟩,λy c e=>?_,I.free,I.freeC,λp hp=>?_,tracked ⟨oL,hoL,I.free⟩ hs,by simpa using I.len⟩ ⟨_,hs, .inl rfl⟩
  ·exact(hs.2 b (bQ (b_ (aT e) I.ok.above))).trans (I.base.keep b o e n hb hx)
  ·obtain⟨sl,e1⟩:=I.base.slot b o e n hb hx;exact⟨sl,(hs.2 b (bQ (b_ (aT e) I.ok.above))).trans e1⟩
  ·obtain⟨o',e1⟩:=I.base.there b o e hx;exact⟨o',(hs.2 b (bQ (b_ (aT e) I.ok.above))).trans e1⟩
  ·by_cases hj:j=i
   ·subst hj;rw[hi]at e1;cases e1;rw[kN hiσ]at e2;cases e2;exact⟨u,r, .inl ⟨hk,`s⟩⟩
   ·rw[mx (bE hj)]at e2;obtain⟨u',r',q⟩:=hl j y v' e1 e2 e3;refine⟨u',r',?_⟩;obtain ⟨k,e⟩ |⟨k,c,e,z⟩:=q
    ·refine .inl ⟨k,?_⟩;have:y≠x:=λe=>hj (L9 hN e1 (e▸hi));simp [this,e]
    ·exact .inr ⟨k,c,e,z.sameBut hs (cne y c e)⟩
  ·obtain⟨w',z⟩:=I.cell y c e;exact⟨w',z.sameBut hs (cne y c e)⟩
  ·obtain⟨e,n,ne,nf,d⟩:=I.pin p hp;exact⟨(hs.2 p.1 ne).trans e,n,ne,nf,d⟩
 ·have hfn:X.fn x=true:=by
   obtain z |z:=hf
   ·exact z
   ·rw[z]at hk;cases hk
  obtain⟨c,hc⟩:=I.ok.has x (.inl hk);obtain⟨w',z⟩:=I.cell x c hc;refine wpAny_storeName_cell I.ok.kind hk hc z (λh' hc' hs=>?_);obtain⟨oc,hoc,hocd⟩:=id z;refine h { s with heap:=h' } ⟨I.ok,I.os,I.bare,⟨λb o e n hb hx=>?_,λb o e n hb hx=>?_,I.base.free,λb o e hx=>?_,I.base.tups,I.base.frzs,I.base.tbls⟩,⟨m,hn.sameBut hs (bE (cne x c hc)),λj y v' e1 e2 e3=>?_⟩,λy c' e=>?_,I.free,I.freeC,λp hp=>?_,tracked ⟨oc,hoc,I.freeC x c hc⟩ hs,by simpa using I.len⟩ ⟨c,hs, .inr hc⟩
  ·exact(hs.2 b (bQ (b_ (aT e) (I.ok.cab x c hfn hc)))).trans (I.base.keep b o e n hb hx)
  ·obtain⟨sl,e1⟩:=I.base.slot b o e n hb hx;exact⟨sl,(hs.2 b (bQ (b_ (aT e) (I.ok.cab x c hfn hc)))).trans e1⟩
  ·obtain⟨o',e1⟩:=I.base.there b o e hx;exact⟨o',(hs.2 b (bQ (b_ (aT e) (I.ok.cab x c hfn hc)))).trans e1⟩
  ·by_cases hj:j=i
   ·subst hj;rw[hi]at e1;cases e1;rw[kN hiσ]at e2;cases e2;exact⟨u,r, .inr ⟨.inl hk,c,hc,hc'⟩⟩
   ·rw[mx (bE hj)]at e2;obtain⟨u',r',q⟩:=hl j y v' e1 e2 e3;refine⟨u',r',?_⟩;obtain q |⟨k,c',e,z'⟩:=q
    ·exact .inl q
    ·refine .inr ⟨k,c',e,z'.sameBut hs ?_⟩;rintro rfl;exact hj (L9 hN e1 (I.ok.inj _ _ _ e hc▸hi))
  ·by_cases hcc:c'=c
   ·subst hcc;exact⟨_,hc'⟩
   ·obtain⟨w2,z2⟩:=I.cell y c' e;exact⟨w2,z2.sameBut hs hcc⟩
  ·obtain⟨e,n,ne,nf,d⟩:=I.pin p hp;refine⟨(hs.2 p.1 ?_).trans e,n,ne,nf,d⟩;intro q;rw[q,hoc]at e;have q':oc=p.2:=aL e;exact d w' (by rw[←q'];exact hocd)
def FI{E:ai→ao→Prop}{Q:Unit→ao→Prop}(I:nA X ag σ H s) (hN:X.N.Nodup) (hi:X.N[i]? =aa x) (hx:uk X.env.scope x) (r:nH v u)
  (h:∀s',nA X ag (σ.set i (aa v)) H s'→Q () s') (hf:X.fn x=true∨X.env.scope.names.lookup x=aa .local:=by first |exact .inl rfl |exact .inr rfl |assumption):ax M A (i6 X.env x u) Q E s:=
 HH I hN hi hx r (λs' I' _=>h s' I') hf
def nA.call' (I:nA X ag σ H s) (ho:s'.os=s.os) (u:Un (frs X.stack) ch H H' s.heap s'.heap) (b6:ph X.prog X.w H' s'.heap) (hg:cS s'.gens)
  (hch:∀b∈ch,(b∈X.ex∨X.s₀.heap.objs.size≤b)∧b≠X.env.locals∧(∀x c,X.env.cells.lookup x=aa c→c≠b)∧ ∀p∈X.pn++ag,p.1≠b):nA X ag σ H' s':=by
 obtain⟨h',g',d',t',o'⟩:=s';have e:o'=s.os:=ho;subst e;exact I.call (g':=g') (t':=t') (d':=d') u b6 hg hch
end
abbrev XK:=ai→Option aj→Hp→Prop
abbrev St:=List (Option V)
abbrev VK:=V→Hp→Prop
abbrev TE:=St→Hp→VK→Prop
abbrev TT:=St→Hp→(Bool→Hp→Prop)→Prop
abbrev TA:=St→Hp→(List V→Hp→Prop)→Prop
structure tw where
  nx:St→Hp→Prop
  rt:VK
  bk:St→Hp→Prop:=λ_ _=>False
  ct:St→Hp→Prop:=λ_ _=>False
abbrev TS:=tw→St→Hp→Prop
def EP (X:Cx) (ag:List (aj×aJ)) (σ:St) (Q:VK) (u:ai) (s':ao):Prop:=∃v H',nA X ag σ H' s'∧nH v u∧Q v H'
def TP (X:Cx) (ag:List (aj×aJ)) (σ:St) (Q:Bool→Hp→Prop) (b:Bool) (s':ao):Prop:=∃H',nA X ag σ H' s'∧Q b H'
def AP (X:Cx) (ag:List (aj×aJ)) (σ:St) (Q:List V→Hp→Prop) (us:List ai) (s':ao):Prop:=∃vs H',nA X ag σ H' s'∧nE vs us∧Q vs H'
def SP (X:Cx) (ag:List (aj×aJ)) (D:tw) (f:Flow) (s':ao):Prop:=
 match f with
 | .next=>∃σ' H',nA X ag σ' H' s'∧D.nx σ' H'
 | .brk=>∃σ' H',nA X ag σ' H' s'∧D.bk σ' H'
 | .cont=>∃σ' H',nA X ag σ' H' s'∧D.ct σ' H'
 | .ret u=>∃v σ' H',nA X ag σ' H' s'∧nH v u∧D.rt v H'
def PE (X:Cx) (e:Expr) (t:TE):Prop:=
 ∀(ag:List (aj×aJ)) (s:ao) (σ:St) (H:Hp) (Q:VK),nA X ag σ H s→t σ H Q→ax (aC X.prog X.w) X.A (aA e X.env) (EP X ag σ Q) X.xe s
def PT (X:Cx) (e:Expr) (t:TT):Prop:=
 ∀(ag:List (aj×aJ)) (s:ao) (σ:St) (H:Hp) (Q:Bool→Hp→Prop),nA X ag σ H s→t σ H Q→ax (aC X.prog X.w) X.A (isTrue e X.env (aA e X.env)) (TP X ag σ Q) X.xe s
def PW (X:Cx) (e:Expr) (t:TT):Prop:=
 ∀(whole:cq ai) (ag:List (aj×aJ)) (s:ao) (σ:St) (H:Hp) (Q:Bool→Hp→Prop),nA X ag σ H s→t σ H Q→ax (aC X.prog X.w) X.A (isTrue e X.env whole) (TP X ag σ Q) X.xe s
def PW.pt (h:PW X e t):PT X e t:=h _
def PA (X:Cx) (es:List Expr) (t:TA):Prop:=
 ∀(pos:bi) (ag:List (aj×aJ)) (s:ao) (σ:St) (H:Hp) (Q:List V→Hp→Prop),nA X ag σ H s→t σ H Q→ax (aC X.prog X.w) X.A (spliced (aR pos (ay es X.env))) (AP X ag σ Q) X.xe s
def PS (X:Cx) (st:bg) (t:TS):Prop:=
 ∀(ag:List (aj×aJ)) (s:ao) (σ:St) (H:Hp) (D:tw),nA X ag σ H s→t D σ H→ax (aC X.prog X.w) X.A (exec st X.env) (SP X ag D) X.xe s
def se (X:Cx) (st:List bg) (t:TS):Prop:=
 ∀(ag:List (aj×aJ)) (s:ao) (σ:St) (H:Hp) (D:tw),nA X ag σ H s→t D σ H→ax (aC X.prog X.w) X.A (execs st X.env) (SP X ag D) X.xe s
def oj{α:Type}{t:cq α}{Q Q':α→ao→Prop}{M:Model}{A:bn}{E:ai→ao→Prop}{s:ao}(h:ax M A t Q E s) (hQ:∀a s,Q a s→Q' a s):ax M A t Q' E s:=cL h hQ λ_ _ x=>x
section
variable {X:Cx}
def My (i:Nat):TE:=λσ H Q=>∃v,σ[i]? =aa (aa v)∧Q v H
def tC (v:V):TE:=λ_ H Q=>Q v H
def Iu (hN:X.N[i]? =aa x) (hv:xT X.env.scope x) (hd:(x == ("__debug__" :ah))=false) (hcd:(x == ("__classdict__" :ah))=false):PE X (.Name x pos) (My i):=by
 intro ag s σ H Q I h;obtain⟨v,e,h⟩:=h;obtain⟨m,hn,hl⟩:=I.loc;obtain⟨u,r,l⟩:=hl i x v hN e hv;have fin:EP X ag σ Q u s:=⟨v,H,I,r,h⟩;obtain ⟨hk,hm⟩ |⟨hk,c,hc,hcell⟩:=l
 ·exact je (mq I.ok.kind hk hn hm fin) hd
 ·obtain hk |hk:=hk
  ·exact je (lF I.ok.kind hk hc hcell fin) hd
  ·exact je (wpAny_loadName_free I.ok.kind hk hc hcell fin hcd) hd
def Vf{i j pos}:PE X (.Constant (.int i) j pos) (tC (.int i)):=λ_ _ _ H _ I h=>wpAny_Constant_int ⟨.int i,H,I.tok _,⟨_,rfl⟩,h⟩
def zFK{b j pos}:PE X (.Constant (.bool b) j pos) (tC (.bl b)):=λ_ _ _ H _ I h=>Constant_bool ⟨.bl b,H,I,rfl,h⟩
def X3{j pos}:PE X (.Constant .none j pos) (tC .bR):=λ_ _ _ H _ I h=>Constant_none ⟨.bR,H,I,rfl,h⟩
def YX{x j pos}:PE X (.Constant (.str x) j pos) (tC (.str x)):=λ_ _ _ H _ I h=>Calls.Constant_str ⟨.str x,H,I.tok _,⟨_,rfl⟩,h⟩
def Gl (X:Cx) (x:ah):Prop:=X.env.kindOf x=aa .globalImplicit
def Cp{E:ai→ao→Prop}{Q:ai→ao→Prop}(I:nA X ag σ H s) (hg:Gl X x) (hm:X.mg x=aa u) (h:Q u s)
  (hd:(x == ("__debug__" :ah))=false):ax (aC X.prog X.w) X.A (aA (.Name x pos) X.env) Q E s:=
 lz I.ok.kind hg (Calls.loadGlobal_global (by rw[I.ok.glob];exact I.mod.glob.keeps I.bk) hm h) hd
def wE{E:ai→ao→Prop}{Q:ai→ao→Prop}(I:nA X ag σ H s) (hg:Gl X x) (hm:X.mg x=none) (hv:cO x=aa u) (h:Q u s)
  (hn:x≠ "__name__" :=by decide) (hd:(x == ("__debug__" :ah))=false:=by decide):ax (aC X.prog X.w) X.A (aA (.Name x pos) X.env) Q E s:=by
 obtain⟨mb,h1,h2⟩:=I.mod.blt;exact lz I.ok.kind hg (Calls.loadGlobal_builtin (by rw[I.ok.glob];exact I.mod.glob.keeps I.bk) hm (by rw[I.ok.blt];exact h1.keeps I.bk) ((h2 x hn).trans hv) h) hd
def OI (hg:Gl X x) (hm:X.mg x=aa u) (r:nH v u) (hd:(x == ("__debug__" :ah))=false):PE X (.Name x pos) (tC v):=
 λ_ _ _ H _ I h=>Cp I hg hm ⟨v,H,I,r,h⟩ hd
def UN (hg:Gl X x) (hm:X.mg x=none) (hv:cO x=aa u) (r:nH v u) (hn:x≠ "__name__") (hd:(x == ("__debug__" :ah))=false):PE X (.Name x pos) (tC v):=
 λ_ _ _ H _ I h=>wE I hg hm hv ⟨v,H,I,r,h⟩ hn hd
variable {a b:Expr}{ta tb:TE}{pos:bi}
variable {tA tB':TT}{rest:List Expr}
def T9 (t u:TT):TT:=λσ H Q=>t σ H λc H1=>if c=true then u σ H1 Q else Q false H1
def UF (t u:TT):TT:=λσ H Q=>t σ H λc H1=>if c=true then Q true H1 else u σ H1 Q
def US (t:TT):TT:=λσ H Q=>t σ H λc H1=>Q (!c) H1
def TM (ha:PT X a tA):PW X (.BoolOp .And [a] pos) tA:=by
 intro wh ag s σ H Q I h;refine isTrue_and (oj (ha ag s σ H Q I h) λc s1 e=>?_);cases c with
 |true=>exact isTrue_and_nil e
 |false=>exact e
def UI (ha:PT X a tA):PW X (.BoolOp .Or [a] pos) tA:=by
 intro wh ag s σ H Q I h;refine isTrue_or (oj (ha ag s σ H Q I h) λc s1 e=>?_);cases c with
 |false=>exact isTrue_or_nil e
 |true=>exact e
def Yh (ha:PT X a tA) (hb:PW X (.BoolOp .And (b::rest) pos) tB'):PW X (.BoolOp .And (a::b::rest) pos) (T9 tA tB'):=by
 intro wh ag s σ H Q I h;refine isTrue_and (oj (ha ag s σ H _ I h) λc s1 zz=>wF zz λH1 I1 q1=>?_);cases c with
 |true=>exact hb wh ag s1 σ H1 Q I1 q1
 |false=>exact⟨H1,I1,q1⟩
def QG (ha:PT X a tA) (hb:PW X (.BoolOp .Or (b::rest) pos) tB'):PW X (.BoolOp .Or (a::b::rest) pos) (UF tA tB'):=by
 intro wh ag s σ H Q I h;refine isTrue_or (oj (ha ag s σ H _ I h) λc s1 zz=>wF zz λH1 I1 q1=>?_);cases c with
 |true=>exact⟨H1,I1,q1⟩
 |false=>exact hb wh ag s1 σ H1 Q I1 q1
def Zy (ha:PT X a tA):PT X (.UnaryOp .Not a pos) (US tA):=by
 intro ag s σ H Q I h;exact isTrue_not (ha ag s σ H (λc H1=>Q (!c) H1) I h)
def Yu (ta tb:TE):TE:=λσ H Q=>ta σ H λx H1=>∃c,x= .bl c∧if c=true then tb σ H1 Q else Q (.bl false) H1
def zIt (ta tb:TE):TE:=λσ H Q=>ta σ H λx H1=>∃c,x= .bl c∧if c=true then Q (.bl true) H1 else tb σ H1 Q
def RA (ta:TE):TE:=λσ H Q=>ta σ H λx H1=>∃c,x= .bl c∧Q (.bl (!c)) H1
def WR{op}(h:PE X a t):PE X (.BoolOp op [a] pos) t:=λag s σ H Q I hw=>BoolOp_one (h ag s σ H Q I hw)
def Q7 (ha:PE X a ta) (hb:PE X (.BoolOp .And (b::rest) pos) tb):PE X (.BoolOp .And (a::b::rest) pos) (Yu ta tb):=by
 intro ag s σ H Q I h;refine BoolOp_and (oj (ha ag s σ H _ I h) λv s1 zz=>oJ zz λx H1 I1 r1 q1=>?_);obtain⟨c,rfl,q1⟩:=q1;cases r1;refine eR ?_;cases c with
 |true=>exact hb ag s1 σ H1 Q I1 q1
 |false=>exact⟨.bl false,H1,I1,rfl,q1⟩
def zGV (ha:PE X a ta) (hb:PE X (.BoolOp .Or (b::rest) pos) tb):PE X (.BoolOp .Or (a::b::rest) pos) (zIt ta tb):=by
 intro ag s σ H Q I h;refine BoolOp_or (oj (ha ag s σ H _ I h) λv s1 zz=>oJ zz λx H1 I1 r1 q1=>?_);obtain⟨c,rfl,q1⟩:=q1;cases r1;refine eR ?_;cases c with
 |false=>exact hb ag s1 σ H1 Q I1 q1
 |true=>exact⟨.bl true,H1,I1,rfl,q1⟩
def Rr (ha:PE X a ta):PE X (.UnaryOp .Not a pos) (RA ta):=by
 intro ag s σ H Q I h;refine jE (oj (ha ag s σ H _ I h) λv s1 zz=>oJ zz λx H1 I1 r1 q1=>?_);obtain⟨c,rfl,q1⟩:=q1;cases r1;exact not_of (eR ⟨.bl (!c),H1,I1,rfl,q1⟩)
def Sb (t:TT) (ta tb:TE):TE:=λσ H Q=>t σ H λc H1=>if c=true then ta σ H1 Q else tb σ H1 Q
def zvK (hc:PT X c tA) (ha:PE X a ta) (hb:PE X b tb):PE X (.IfExp c a b pos) (Sb tA ta tb):=by
 intro ag s σ H Q I h;refine wpAny_IfExp (oj (hc ag s σ H _ I h) λd s1 zz=>wF zz λH1 I1 q1=>?_);cases d with
 |true=>exact ha ag s1 σ H1 Q I1 q1
 |false=>exact hb ag s1 σ H1 Q I1 q1
end
def pJ (K:am) (H:Hp) (a:aj) (xs:List V):Prop:=
 Rd H a (.bx xs)∨
  ∃(o:aJ) (c6:Array ai) (n:Nat),K.lookup a=aa o∧o.cls= .type "list" ∧o.dict=none∧o.data= .seq c6 n∧c6.size≤sizeLine∧nE xs c6.toList
def pV (K:am) (H:Hp) (a:aj) (xs:List V):Prop:=
 Rd H a (.bH xs)∨
  ∃(o:aJ) (c6:Array ai) (n:Nat),K.lookup a=aa o∧o.cls= .type "tuple" ∧o.data= .seq c6 n∧c6.size≤sizeLine∧nE xs c6.toList
noncomputable def Tc:ai→Option V
 | .none=>aa .bR
 | .bool b=>aa (.bl b)
 | .int i _=>aa (.int i)
 | .str x _=>aa (.str x)
 | .bytes b _=>aa (.byt b)
 | .float b _=>aa (.flt b)
 | .ref a=>aa (.ref a)
 | .type n=>aa (.ty n)
 |_=>none
def nH.abs (r:nH x u):Tc u=aa x:=by
 cases x with
 |bR=>cases r;rfl
 |bl _=>cases r;rfl
 |int _=>obtain⟨t,rfl⟩:=r;rfl
 |str _=>obtain⟨t,rfl⟩:=r;rfl
 |byt _=>obtain⟨t,rfl⟩:=r;rfl
 |flt _=>obtain⟨t,rfl⟩:=r;rfl
 |ref _=>cases r;rfl
 |ty _=>cases r;rfl
def nH.inj{x y:V}{u:ai}(r:nH x u) (q:nH y u):x=y:=aL (r.abs.symm.trans q.abs)
def nE.inj:∀{xs ys:List V}{us:List ai},nE xs us→nE ys us→xs=ys:=λ{xs ys us} h g=>by
 induction h generalizing ys with
 |nil=>cases g;rfl
 |cons r _ ih=>
  cases g with
  |cons r' t'=>rw[r.inj r',ih t']
section
variable {X:Cx}{ag:List (aj×aJ)}{σ:St}{H:Hp}{s:ao}{a:aj}{xs ys:List V}
def pJ.of{K:am}(h:H a=aa (.bx xs)):pJ K H a xs:= .inl (.inl h)
def pV.of{K:am}(h:H a=aa (.bH xs)):pV K H a xs:= .inl (.inl h)
def nA.list (I:nA X ag σ H s) (h:pJ X.K H a xs):∃c6:List ai,nE xs c6∧PlainL s.heap a c6.toArray∧xs.length≤sizeLine:=by
 obtain h |⟨o,c6,n,hk,hc,hd,hs,hz,r⟩:=h
 ·obtain⟨z,c6,n,r,e⟩:=h.ok I.b6;exact⟨c6,r,⟨_,n,e,rfl,rfl,rfl⟩,z⟩
 ·refine⟨c6.toList,r,⟨o,n,I.kIn a o hk,hc,hd,by simpa using hs⟩,?_⟩
  have e:=r.length;simp only[jJ]at e;lia
def nA.tuple (I:nA X ag σ H s) (h:pV X.K H a xs):∃c6:List ai,nE xs c6∧fU s.heap a c6.toArray∧xs.length≤sizeLine:=by
 obtain h |⟨o,c6,n,hk,hc,hs,hz,r⟩:=h
 ·obtain⟨z,c6,r,p⟩:=h.ok I.b6;exact⟨c6,r,p,z⟩
 ·refine⟨c6.toList,r,⟨o,I.kIn a o hk,hc,n,by simpa using hs⟩,?_⟩
  have e:=r.length;simp only[jJ]at e;lia
def nA.list_inj (I:nA X ag σ H s) (h:pJ X.K H a xs) (h':pJ X.K H a ys):xs=ys:=by
 obtain⟨c6,r,⟨o,n,e,_,_,d⟩,_⟩:=I.list h;obtain⟨its',r',⟨o',n',e',_,_,d'⟩,_⟩:=I.list h';rw[e]at e';cases e';rw[d]at d';injection d' with d1 _;have:c6=its':=by simpa using congrArg Array.toList d1
 subst this;exact r.inj r'
def nA.tuple_inj (I:nA X ag σ H s) (h:pV X.K H a xs) (h':pV X.K H a ys):xs=ys:=by
 obtain⟨c6,r,⟨o,e,_,n,d⟩,_⟩:=I.tuple h;obtain⟨its',r',⟨o',e',_,n',d'⟩,_⟩:=I.tuple h';rw[e]at e';cases e';rw[d]at d';injection d' with d1 _;have:c6=its':=by simpa using congrArg Array.toList d1
 subst this;exact r.inj r'
end
noncomputable abbrev Cx.wish (X:Cx) (E:ai→ao→Prop):Cx:={ X with xe:=E }
noncomputable abbrev Cx.nox (X:Cx):Cx:=X.wish λ_ _=>False
def Cx.Ok.wish{X:Cx}(ok:X.Ok) (E:ai→ao→Prop):(X.wish E).Ok:=
 ⟨ok.mod,ok.kind,ok.glob,ok.blt,ok.above,ok.inj,ok.has,ok.cab,ok.hd,ok.frames,ok.stk,ok.exf,ok.bs,ok.bsz,ok.noex,ok.exfs,ok.funs,ok.frf⟩
def Cx.Ok.unwish{X:Cx}{E:ai→ao→Prop}(ok:(X.wish E).Ok):X.Ok:=
 ⟨ok.mod,ok.kind,ok.glob,ok.blt,ok.above,ok.inj,ok.has,ok.cab,ok.hd,ok.frames,ok.stk,ok.exf,ok.bs,ok.bsz,ok.noex,ok.exfs,ok.funs,ok.frf⟩
section
variable {X:Cx}{ag:List (aj×aJ)}{σ:St}{H:Hp}{s:ao}{E:ai→ao→Prop}
def nA.wish (I:nA X ag σ H s) (E:ai→ao→Prop):nA (X.wish E) ag σ H s:=⟨I.ok.wish E,I.os,I.bare,I.base,I.loc,I.cell,I.free,I.freeC,I.pin,I.b6,I.len⟩
def nA.unwish (I:nA (X.wish E) ag σ H s):nA X ag σ H s:=⟨I.ok.unwish,I.os,I.bare,I.base,I.loc,I.cell,I.free,I.freeC,I.pin,I.b6,I.len⟩
def SP.unwish (h:SP (X.wish E) ag D f s'):SP X ag D f s':=by
 cases f with
 |next=>obtain⟨σ',H',I,q⟩:=h;exact⟨σ',H',I.unwish,q⟩
 |brk=>obtain⟨σ',H',I,q⟩:=h;exact⟨σ',H',I.unwish,q⟩
 |cont=>obtain⟨σ',H',I,q⟩:=h;exact⟨σ',H',I.unwish,q⟩
 |ret u=>obtain⟨v,σ',H',I,r,q⟩:=h;exact⟨v,σ',H',I.unwish,r,q⟩
def PE.nox (h:PE X.nox e t):PE X e t:=λag s σ H Q I hw=>
 cL (h ag s σ H Q (I.wish _) hw) (λ_ _ zz=>oJ zz λv H' I' r q=>⟨v,H',I'.unwish,r,q⟩) λ_ _ z=>cp z
def se.nox{st:List bg}(h:se X.nox st t):se X st t:=λag s σ H D I hw=>
 cL (h ag s σ H D (I.wish _) hw) (λ_ _ q=>q.unwish) λ_ _ z=>cp z
end
section
variable {X:Cx}{st:bg}{rest:List bg}{t u:TS}{e:Expr}{te:TE}{pos:bi}
def Pa:TS:=λD σ H=>D.nx σ H
def zIa (t u:TS):TS:=λD σ H=>t { D with nx:=u D } σ H
def vz:se X [] Pa:=λ_ _ σ H _ I h=>iU ⟨σ,H,I,h⟩
def YB (h1:PS X st t) (h2:se X rest u):se X (st::rest) (zIa t u):=by
 intro ag s σ H D I h;refine kZ (oj (h1 ag s σ H { D with nx:=u D } I h) λf s1 q=>?_);cases f with
 |next=>
  obtain⟨σ',H',I',q⟩:=q;exact h2 ag s1 σ' H' D I' q
 |ret v=>exact q
 |brk=>exact q
 |cont=>exact q
def UG (h1:PS X st t):se X [st] t:=by
 intro ag s σ H D I h;refine kZ (oj (h1 ag s σ H D I h) λf s1 q=>?_);cases f with
 |next=>exact iU q
 |ret v=>exact q
 |brk=>exact q
 |cont=>exact q
def vK:PS X (.Pass pos) Pa:=λ_ _ σ H _ I h=>wpAny_Pass ⟨σ,H,I,h⟩
def nA.cU (I:nA X ag σ H s):interactive X.env=false:=by simp [interactive,I.ok.kind]
def X_ (te:TE):TS:=λD σ H=>te σ H λ_ H1=>D.nx σ H1
def Y_ (he:PE X e te) (hs:dE e none pos.line X.env=pure false):PS X (.Expr e pos) (X_ te):=by
 intro ag s σ H D I h;exact wpAny_Expr_any (oj (he ag s σ H _ I h) λv s1 zz=>oJ zz λx H1 I1 r1 q1=>⟨σ,H1,I1,q1⟩) I.cU hs
def Uf (te:TE):TS:=λD σ H=>te σ H D.rt
def VU (he:PE X e te):PS X (.Return (aa e) pos) (Uf te):=by
 intro ag s σ H D I h;exact wpAny_Return_some (oj (he ag s σ H _ I h) λv s1 zz=>oJ zz λx H1 I1 r1 q1=>⟨x,σ,H1,I1,r1,q1⟩)
def Va:TS:=λD _ H=>D.rt .bR H
def vj:PS X (.Return none pos) Va:=λ_ _ σ H _ I h=>wpAny_Return_none ⟨.bR,σ,H,I,rfl,h⟩
def Zo (c:TT) (t u:TS):TS:=λD σ H=>c σ H λb H1=>if b=true then t D σ H1 else u D σ H1
def Z2 (hc:PT X c tc) (ha:se X a t) (hb:se X b u):PS X (.If c a b pos) (Zo tc t u):=by
 intro ag s σ H D I h;refine wpAny_If (oj (hc ag s σ H _ I h) λd s1 zz=>wF zz λH1 I1 q1=>?_);cases d with
 |true=>exact ha ag s1 σ H1 D I1 q1
 |false=>exact hb ag s1 σ H1 D I1 q1
def Z5:TS:=λ_ _ _=>False
def t5:PS X st Z5:=λ_ _ _ _ _ _ h=>h.elim
end
abbrev TG:=V→St→Hp→(St→Hp→Prop)→Prop
abbrev AK:=List V→St→Hp→(St→Hp→Prop)→Prop
def PG (X:Cx) (target:Expr) (t:TG):Prop:=
 ∀(ag:List (aj×aJ)) (s:ao) (σ:St) (H:Hp) (v:V) (u:ai) (Q:St→Hp→Prop),nA X ag σ H s→nH v u→t v σ H Q→
  ax (aC X.prog X.w) X.A (assign target X.env u) (λ_ s'=>∃σ' H',nA X ag σ' H' s'∧Q σ' H') X.xe s
def A1 (X:Cx) (ts:List Expr) (t:AK):Prop:=
 ∀(ag:List (aj×aJ)) (s:ao) (σ:St) (H:Hp) (vs:List V) (us:List ai) (Q:St→Hp→Prop),nA X ag σ H s→nE vs us→t vs σ H Q→
  ax (aC X.prog X.w) X.A (assignInOrder ((cg ts X.env).map (·.2)) us) (λ_ s'=>∃σ' H',nA X ag σ' H' s'∧Q σ' H') X.xe s
abbrev OL:=V→V→V→Hp→(Hp→Prop)→Prop
def Pk (X:Cx) (t:OL):Prop:=
 ∀(ag:List (aj×aJ)) (s:ao) (σ:St) (H:Hp) (o i v:V) (ov iv u:ai) (Q:Hp→Prop),nA X ag σ H s→nH o ov→nH i iv→nH v u→t o i v H Q→
  ax (aC X.prog X.w) X.A (iw ov iv u) (λ_ s'=>∃H',nA X ag σ H' s'∧Q H') X.xe s
abbrev Hk:=V→V→Hp→VK→Prop
def JH (X:Cx) (op:ke) (t:Hk):Prop:=
 ∀(ag:List (aj×aJ)) (s:ao) (σ:St) (H:Hp) (x y:V) (v u:ai) (Q:VK),nA X ag σ H s→nH x v→nH y u→t x y H Q→
  ax (aC X.prog X.w) X.A (jH op v u) (EP X ag σ Q) X.xe s
section
variable {X:Cx}{pos:bi}
def GV (i:Nat):TG:=λv σ H Q=>Q (σ.set i (aa v)) H
def VT (hN:X.N.Nodup) (hi:X.N[i]? =aa x) (hx:uk X.env.scope x) (hf:X.fn x=true∨X.env.scope.names.lookup x=aa .local:=by first |exact .inl rfl |exact .inr rfl |assumption):PG X (.Name x pos) (GV i):=by
 intro ag s σ H v u Q I r h;exact mz (FI I hN hi hx r (λs' I'=>⟨_,H,I',h⟩) hf)
def VG:AK:=λvs σ H Q=>vs=[]∧Q σ H
def YL (t:TG) (u:AK):AK:=λvs σ H Q=>∃v r,vs=v::r∧t v σ H λσ' H'=>u r σ' H' Q
def Xa:A1 X [] VG:=by
 intro ag s σ H vs us Q I r h;obtain⟨e,h⟩:=h;subst e;cases r;exact assignInOrder_nil ⟨σ,H,I,h⟩
def Rq (h1:PG X e t) (h2:A1 X es u)
  (hs:(cg (e::es) X.env).map (·.2)=assign e X.env::(cg es X.env).map (·.2)):A1 X (e::es) (YL t u):=by
 intro ag s σ H vs us Q I r h;obtain⟨v,vr,e1,h⟩:=h;subst e1;cases r with
 |cons r rr=>
  rw[hs];refine assignInOrder_cons (oj (h1 ag s σ H _ _ _ I r h) λ_ s1 ⟨σ1,H1,I1,q1⟩=>?_);exact h2 ag s1 σ1 H1 _ _ Q I1 rr q1
def Vl (K:am) (n:Nat) (t:AK):TG:=λv σ H Q=>∃a xs,v= .ref a∧pV K H a xs∧xs.length=n∧t xs σ H Q
def Q4 (hc:X.calm=true) (h:A1 X es t)
  (hn:(cg es X.env).length=n) (hst:(cg es X.env).findIdx? (·.1)=none):PG X (.Tuple es k pos) (Vl X.K n t):=by
 intro ag s σ H v u Q I r hw;obtain⟨a,xs,e1,hq,hl,hw⟩:=hw;subst e1;cases r;obtain⟨c6,rv,ht,hz⟩:=I.tuple hq;refine assign_Tuple_tuple (I.ok.hd hc) ht (by simp [hn,←hl,rv.length]) hst λh' hx=>?_;have I1:nA X ag σ H { s with heap:=h' }:=I.kept (t':=s.toks) λb o e=>hx b o (bQ (aT e)) e;exact h ag _ σ H xs _ Q I1 (by simpa using rv) hw
def YO (to ti:TE) (t:OL):TG:=λv σ H Q=>to σ H λo H1=>ti σ H1 λi H2=>t o i v H2 λH3=>Q σ H3
def zED (ho:PE X o to) (hi:PE X i ti) (hs:Pk X t)
    (ha:∀v,assign (.Subscript o i pos) X.env v=(do
      let ov ←holding [v] (aA o X.env)
      let iv ←holding [v,ov] (aA i X.env)
      eB pos
      holding [v,ov,iv] (iw ov iv v)
      release [v,ov,iv] [])):PG X (.Subscript o i pos) (YO to ti t):=by
  intro ag s σ H v u Q I r h;rw[ha];refine av (eS (oj (ho ag s σ H _ I h) λov s1 zz=>oJ zz λx H1 I1 r1 q1=>?_));refine av (eS (oj (hi ag s1 σ H1 _ I1 q1) λiv s2 zz=>oJ zz λy H2 I2 r2 q2=>?_));refine av (jh (av (eS (oj (hs ag s2 σ H2 x y v ov iv u _ I2 r1 r2 r q2) λ_ s3 zz=>wF zz λH3 I3 q3=>?_))));exact wpAny_release ⟨σ,H3,I3,q3⟩
def G9 (te:TE) (g:TG):TS:=λD σ H=>te σ H λx H1=>g x σ H1 D.nx
def zEs (he:PE X e te) (hg:PG X tg g) (hs:km [tg] e pos.line X.env=pure false) (hw:jd [tg] e X.env=pure none)
  (h1:(cg [tg] X.env).map (·.2)=[assign tg X.env]):PS X (.Assign [tg] e pos) (G9 te g):=by
 intro ag s σ H D I h;refine wpAny_Assign_stores (oj (he ag s σ H _ I h) λv s1 zz=>oJ zz λx H1 I1 r1 q1=>?_) hs hw;rw[h1];exact oj (hg ag s1 σ H1 x v _ I1 r1 q1) λ_ s2 q=>q
def zCM (hN:X.N.Nodup) (hi:X.N[i]? =aa x) (hx:uk X.env.scope x) (he:PE X e te) (hs:dE e (aa (.Name x pos')) pos.line X.env=pure false) (hf:X.fn x=true∨X.env.scope.names.lookup x=aa .local:=by first |exact .inl rfl |exact .inr rfl |assumption) :
  PS X (.Assign [.Name x pos'] e pos) (G9 te (GV i)):=by
 intro ag s σ H D I h;refine wpAny_Assign_Name (oj (he ag s σ H _ I h) λv s1 zz=>oJ zz λy H1 I1 r1 q1=>?_) hs;exact FI I1 hN hi hx r1 (λs2 I2=>⟨_,H1,I2,q1⟩) hf
def XI (i:Nat) (te:TE) (ti:Hk):TS:=λD σ H=>∃x,σ[i]? =aa (aa x)∧te σ H λy H1=>ti x y H1 λz H2=>D.nx (σ.set i (aa z)) H2
def zCF (hN:X.N.Nodup) (hi:X.N[i]? =aa x) (hx:uk X.env.scope x) (he:PE X e te) (ho:JH X op ti) (hf:X.fn x=true∨X.env.scope.names.lookup x=aa .local:=by first |exact .inl rfl |exact .inr rfl |assumption) :
  PS X (.AugAssign (.Name x pos') op e pos) (XI i te ti):=by
 intro ag s σ H D I h;obtain⟨v,e1,h⟩:=h;obtain⟨m,hn,hl⟩:=I.loc;have vis:xT X.env.scope x:=by obtain k |k:=hx;exact .inl k;exact .inr (.inl k)
 obtain⟨u,r,l⟩:=hl i x v hi e1 vis;refine wpAny_AugAssign_Name ?_;have go:ax (aC X.prog X.w) X.A (aA e X.env) (λw s₂=>ax (aC X.prog X.w) X.A (jH op u w) (λr s₃=>ax (aC X.prog X.w) X.A (i6 X.env x r) (λ_=>SP X ag D .next) X.xe s₃) X.xe s₂) X.xe s:=by
  refine oj (he ag s σ H _ I h) λw s1 zz=>oJ zz λy H1 I1 r1 q1=>?_;refine oj (ho ag s1 σ H1 v y u w _ I1 r r1 q1) λz s2 zz=>oJ zz λzv H2 I2 r2 q2=>?_;exact FI I2 hN hi hx r2 (λs3 I3=>⟨_,H2,I3,q2⟩) hf
 obtain ⟨hk,hm⟩ |⟨hk,c,hc,hcell⟩:=l
 ·exact mq I.ok.kind hk hn hm go
 ·obtain hk |hk:=hk
  ·exact lF I.ok.kind hk hc hcell go
  ·obtain k |k:=hx
   ·have:X.env.scope.names.lookup x=aa .free:=hk;rw[k]at this;cases this
   ·have:X.env.scope.names.lookup x=aa .free:=hk;rw[k]at this;cases this
noncomputable def TY (f:Int→Int→Int):Hk:=λx y H Q=>∃i j,x= .int i∧y= .int j∧Q (.int (f i j)) H
def XO:JH X .Add (TY λi j=>i+j):=by
 intro ag s σ H x y v u Q I r1 r2 h;obtain⟨i,j,e1,e2,q⟩:=h;subst e1;subst e2;obtain⟨t,rfl⟩:=r1;obtain⟨t',rfl⟩:=r2;exact iadd_int ⟨.int _,H,I.tok _,⟨_,rfl⟩,q⟩
end
section
variable {X:Cx}{pos:bi}
def zDe (c:TT) (tb:TS):TS:=λD σ H=>∃W:Nat→St→Hp→Prop,(∃m,W m σ H)∧ ∀m σ H,W m σ H→
 c σ H λb H1=>if b=true then ∃N:St→Hp→Prop,(∀σ' H',N σ' H'→ ∃m',m'<m∧W m' σ' H')∧tb { D with nx:=N,ct:=N,bk:=D.nx } σ H1 else D.nx σ H1
def WC (hp:fB (aC X.prog X.w) X.A X.env X.xe) (hc:PT X c tc) (hb:se X body tb):PS X (.While c body [] pos) (zDe tc tb):=by
 intro ag s σ H D I h;obtain⟨W,⟨m0,w0⟩,turn⟩:=h;refine wpAny_While (codeAny_whileLoop (λn s'=>∃σ' H',nA X ag σ' H' s'∧W n σ' H') ?_ m0 ⟨σ,H,I,w0⟩);rintro n s1 ⟨σ1,H1,I1,w1⟩;refine eW hp (oj (hc ag s1 σ1 H1 _ I1 (turn n σ1 H1 w1)) λb s2 zz=>wF zz λH2 I2 q2=>?_);cases b with
 |true=>
  obtain⟨N,hN,q2⟩:=q2;rw[if_pos rfl];refine eW hp (oj (hb ag s2 σ1 H2 _ I2 q2) λf s3 q3=>?_);cases f with
  |next=>
   obtain⟨σ3,H3,I3,n3⟩:=q3;obtain⟨m',hm,w3⟩:=hN σ3 H3 n3;exact⟨m',hm,σ3,H3,I3,w3⟩
  |cont=>
   obtain⟨σ3,H3,I3,n3⟩:=q3;obtain⟨m',hm,w3⟩:=hN σ3 H3 n3;exact⟨m',hm,σ3,H3,I3,w3⟩
  |brk=>exact q3
  |ret v=>exact q3
 |false=>
  rw[if_neg dy];exact iU ⟨σ1,H2,I2,q2⟩
end
structure It where
  go:Nat→Hp→Prop
  yld:Nat→Hp→V→Hp→Prop
  stop:Nat→Hp→Prop
def rT (X:Cx) (ag:List (aj×aJ)) (H:Hp) (b:aj):Prop:=
 H b=none∧b≠X.env.locals∧b∉X.fs∧(b∈X.ex∨X.s₀.heap.objs.size≤b)∧(∀x c,X.env.cells.lookup x=aa c→c≠b)∧ ∀p∈X.pn++ag,p.1≠b
def nA.fpOk (I:nA X ag σ H s) (hb:s.heap.objs.size≤b) (hn:H' b=none):rT X ag H' b:=by
 refine⟨hn,dh (b_ I.lt hb),I.nofs hb, .inr (bI I.sz hb),λx c e z=>?_,λp hp z=>?_⟩
 ·obtain⟨v,q⟩:=I.cell x c e;exact absurd (b_ q.lt (by rw[z];exact hb)) (c_ _)
 ·exact absurd (b_ (aT (I.pin p hp).1) (by rw[z];exact hb)) (c_ _)
structure sR (P:aY) (w:aP) (K:am) (tg:Expr) (J:It) (fp:List aj) (it:aj) (tn:Nat→aH→Prop):Prop where
  mem:it∈fp
  obj:∀i h,tn i h→ ∀b∈fp,∃o,h.get? b=aa o∧ ∀v,o.data≠ .cell v
  keep:∀i h h',tn i h→(∀b∈fp,∀o,h.get? b=aa o→h'.get? b=aa o)→tn i h'
  item:∀(X:Cx),X.prog=P→X.w=w→X.K=K→X.calm=true→ ∀(i:Nat) (ag:List (aj×aJ)) (s:ao) (σ:St) (H:Hp) (E:ai→ao→Prop),nA X ag σ H s→(∀b∈fp,rT X ag H b)→tn i s.heap→J.go i H→
    ax (aC P w) X.A (cI (.ref it)) (λr s1=>∃u,r=aa u∧
      ax (aC P w) X.A (gN tg (.ref it) u) (λ_ s2=>∃x H',nA X ag σ H' s2∧nH x u∧J.yld i H x H'∧tn (i+1) s2.heap∧ ∀b∈fp,H' b=none) E s1) E s
  done:∀(X:Cx),X.prog=P→X.w=w→X.K=K→X.calm=true→ ∀(i:Nat) (ag:List (aj×aJ)) (s:ao) (σ:St) (H:Hp) (E:ai→ao→Prop),nA X ag σ H s→(∀b∈fp,rT X ag H b)→tn i s.heap→J.stop i H→
    ax (aC P w) X.A (cI (.ref it)) (λr s1=>r=none∧nA X ag σ H s1) E s
  self:∀(A:bn) (i:Nat) (s:ao) (Q:ai→ao→Prop) (E:ai→ao→Prop),tn i s.heap→Q (.ref it) s→ax (aC P w) A (dS (.ref it)) Q E s
abbrev TI:=St→Hp→(It→Hp→Prop)→Prop
def Ow (X:Cx) (ag:List (aj×aJ)) (σ:St) (tg:Expr) (R:It→Hp→Prop) (itv:ai) (s2:ao):Prop:=
 ∃(it:aj) (fp:List aj) (tn:Nat→aH→Prop) (J:It) (H':Hp),itv= .ref it∧nA X ag σ H' s2∧sR X.prog X.w X.K tg J fp it tn∧tn 0 s2.heap∧(∀b∈fp,rT X ag H' b)∧R J H'
def PI (X:Cx) (tg iter:Expr) (wi:TI):Prop:=
 ∀(ag:List (aj×aJ)) (s:ao) (σ:St) (H:Hp) (R:It→Hp→Prop),nA X ag σ H s→wi σ H R→
  ax (aC X.prog X.w) X.A (aA iter X.env) (λv s1=>ax (aC X.prog X.w) X.A (dS v) (Ow X ag σ tg R) X.xe s1) X.xe s
def Dv{E:ai→ao→Prop}{Q:Unit→ao→Prop}(ho:s.heap.get? it=aa o) (hc:o.cls= .type n) (hd:o.data= .fields vs)
    (hn: ["enumerate", "zip", "dict_itemiterator", "dict_reverseitemiterator", "odict_iterator", "itertools.zip_longest", "itertools.pairwise"].contains n=false) (hQ:Q () s):ax M A (gN tg (.ref it) u) Q E s:=by
  unfold gN;cases tg<;>first
    |exact aK hQ
    | (cases u<;>first
        |exact aK hQ
        | (refine av (wpAny_load ho ?_)
           rw[hc,hd];show ax M A (if(["enumerate", "zip", "dict_itemiterator", "dict_reverseitemiterator", "odict_iterator", "itertools.zip_longest", "itertools.pairwise"].contains n&&vs[0]? == aa (da _))=true then _ else _) Q E s;rw[if_neg (by intro h;rw[hn,iP]at h;cases h)];exact aK hQ))
noncomputable def C1 (K:am) (a:aj):It:=
 ⟨λi H=>∃xs x,pJ K H a xs∧xs[i]? =aa x,λi H x H'=>H'=H∧ ∀xs,pJ K H a xs→xs[i]? =aa x,λi H=>∃xs,pJ K H a xs∧xs.length≤i⟩
noncomputable def FC (K:am) (a:aj):It:=
 ⟨λi H=>∃xs x,pV K H a xs∧xs[i]? =aa x,λi H x H'=>H'=H∧ ∀xs,pV K H a xs→xs[i]? =aa x,λi H=>∃xs,pV K H a xs∧xs.length≤i⟩
noncomputable def DS (lo:Int) (n:Nat):It:=⟨λi _=>i<n,λi H x H'=>H'=H∧x= .int (lo+i),λi _=>n≤i⟩
def MP{K:am}(a it:aj):sR P w K tg (C1 K a) [it] it (λi h=>h.IsListIter it a i) where
  mem:=by simp
  obj:=λi h st b hb=>by
    have e:b=it:=by simpa using hb
    subst e;obtain⟨o,e,c,d⟩:=st;exact⟨o,e,λv z=>by rw[d]at z;cases z⟩
  keep:=λi h h' st k=>st.at λo e=>k it `s o e
  item:=by
    intro X hP hw hK hc i ag s σ H E I hf st hg;subst hP hw hK;obtain⟨xs,x,hq,hx⟩:=hg;obtain⟨c6,rv,p,hz⟩:=I.list hq;obtain⟨u,hu,ru⟩:=rv.get hx;obtain⟨f0,f1,f2,f3,f4,f5⟩:=hf it `s;refine wpAny_pyNext_list_item st p.isList (x:=u) (by simpa using hu) λh' st' sb=>?_;have I1:nA X ag σ H { s with heap:=h' }:=I.turned (t':=s.toks) (λb o hb e=>(sb.2 b hb).trans e) f0 f1 f3 f4 f5;obtain⟨o,e,c,d⟩:=id st';exact⟨u,rfl,Dv (s:={ s with heap:=h' }) e c d `d ⟨x,H,I1,ru,⟨rfl,λys hy=>by rw[I.list_inj hy hq];exact hx⟩,st',λb hb=>(hf b hb).1⟩⟩
  done:=by
    intro X hP hw hK hc i ag s σ H E I hf st hg;subst hP hw hK;obtain⟨xs,hq,hx⟩:=hg;obtain⟨c6,rv,p,hz⟩:=I.list hq;obtain⟨f0,f1,f2,f3,f4,f5⟩:=hf it `s;have hl:=rv.length;exact wpAny_pyNext_list_end (I.ok.hd hc) st p.isList (by simp;lia) λh' eb=>⟨rfl,I.turned (t':=s.toks) (λb o hb e=>eb b o hb e) f0 f1 f3 f4 f5⟩
  self:=λ_ _ _ _ _ st h=>wpAny_pyIter_listiter st h
def zqM{K:am}(a it:aj):sR P w K tg (FC K a) [it] it (λi h=>h.IsTupleIter it a i) where
  mem:=by simp
  obj:=λi h st b hb=>by
    have e:b=it:=by simpa using hb
    subst e;obtain⟨o,e,c,d⟩:=st;exact⟨o,e,λv z=>by rw[d]at z;cases z⟩
  keep:=λi h h' st k=>st.at λo e=>k it `s o e
  item:=by
    intro X hP hw hK hc i ag s σ H E I hf st hg;subst hP hw hK;obtain⟨xs,x,hq,hx⟩:=hg;obtain⟨c6,rv,p,hz⟩:=I.tuple hq;obtain⟨u,hu,ru⟩:=rv.get hx;obtain⟨f0,f1,f2,f3,f4,f5⟩:=hf it `s;refine wpAny_pyNext_tuple_item st (show s.heap.IsTuple a c6.toArray from p) (x:=u) (by simpa using hu) λh' st' sb=>?_;have I1:nA X ag σ H { s with heap:=h' }:=I.turned (t':=s.toks) (λb o hb e=>(sb.2 b hb).trans e) f0 f1 f3 f4 f5;obtain⟨o,e,c,d⟩:=id st';exact⟨u,rfl,Dv (s:={ s with heap:=h' }) e c d `d ⟨x,H,I1,ru,⟨rfl,λys hy=>by rw[I.tuple_inj hy hq];exact hx⟩,st',λb hb=>(hf b hb).1⟩⟩
  done:=by
    intro X hP hw hK hc i ag s σ H E I hf st hg;subst hP hw hK;obtain⟨xs,hq,hx⟩:=hg;obtain⟨c6,rv,p,hz⟩:=I.tuple hq;obtain⟨f0,f1,f2,f3,f4,f5⟩:=hf it `s;have hl:=rv.length;exact wpAny_pyNext_tuple_end (I.ok.hd hc) st (show s.heap.IsTuple a c6.toArray from p) (by simp;lia) λh' eb=>⟨rfl,I.turned (t':=s.toks) (λb o hb e=>eb b o hb e) f0 f1 f3 f4 f5⟩
  self:=λ_ _ _ _ _ st h=>wpAny_pyIter_tupleiter st h
def QZ{K:am}(it:aj) (lo:Int) (n:Nat):sR P w K tg (DS lo n) [it] it (λi h=>IsRangeIter h it (lo+(i:Nat)*1) ((n:Int) - (i:Nat)) 1) where
  mem:=by simp
  obj:=λi h st b hb=>by
    have e:b=it:=by simpa using hb
    subst e;exact⟨_,st,λv z=>by
      have z':Data.fields _=Data.cell v:=z;cases z'⟩
  keep:=λi h h' st k=>k it `s _ st
  item:=by
    intro X hP hw hK hc i ag s σ H E I hf st hg;subst hP hw hK;obtain⟨f0,f1,f2,f3,f4,f5⟩:=hf it `s;have W:=Walks.range (prog:=X.prog) (w:=X.w) (I.ok.hd hc) it lo 1 n;refine W.item i s _ _ hg st λv h' tk hv st' kk=>?_;obtain⟨t,rfl⟩:=hv;have I1:nA X ag σ H { s with heap:=h',toks:=tk }:=I.turned (λb o hb e=>kk b o (by simpa using hb) e) f0 f1 f3 f4 f5;refine⟨_,rfl,Dv (s:={ s with heap:=h',toks:=tk }) (n:= "range_iterator") st' rfl rfl `d ⟨.int (lo+i),H,I1,⟨t,?_⟩,⟨rfl,rfl⟩,st',λb hb=>(hf b hb).1⟩⟩;rw[Int.mul_one]
  done:=by
    intro X hP hw hK hc i ag s σ H E I hf st hg;subst hP hw hK;obtain⟨f0,f1,f2,f3,f4,f5⟩:=hf it `s;exact wpAny_pyNext_range_end (I.ok.hd hc) st (by have:n≤i:=hg;lia) λh' eb=>⟨rfl,I.turned (t':=s.toks) (λb o hb e=>eb b o hb e) f0 f1 f3 f4 f5⟩
  self:=λ_ _ _ _ _ st h=>wpAny_pyIter_rangeiter st h
section
variable {X:Cx}{tg:Expr}
def SR (K:am) (tl:TE):TI:=λσ H R=>tl σ H λx H1=>∃a,x= .ref a∧(∃xs,pJ K H1 a xs)∧R (C1 K a) H1
def VW (hl:PE X l tl):PI X tg l (SR X.K tl):=by
 intro ag s σ H R I h;refine oj (hl ag s σ H _ I h) λv s1 zz=>oJ zz λx H1 I1 r1 q1=>?_;obtain⟨a,e,⟨xs,hq⟩,q⟩:=q1;subst e;cases r1;obtain⟨c6,rv,p,hz⟩:=I1.list hq;refine fQ p.isList ?_;refine⟨s1.heap.objs.size,[s1.heap.objs.size],_,_,H1,rfl,I1.kept (t':=s1.toks) λb o e=>aN _ e,MP a _,⟨_,bG _ rfl,rfl,rfl⟩,λb hb=>?_,q⟩;have e:b=s1.heap.objs.size:=by simpa using hb
 subst e;exact I1.fpOk (aE _) (I1.b6.fresh (aE _))
def Sn{R:It→Hp→Prop}{E:ai→ao→Prop}{lo hi:Int}{t u v:Tok}{tk:Nat}(I:nA X ag σ H s) (h1: -(2 ^ 62)≤lo) (h2:lo<2 ^ 62) (h3: -(2 ^ 62)≤hi) (h4:hi<2 ^ 62)
  (q:R (DS lo (hi - lo).toNat) H):ax (aC X.prog X.w) X.A (dS (.ref s.heap.objs.size)) (Ow X ag σ tg R) E { s with heap:=s.heap.push { cls:= .type "range",data:= .fields #[.int lo t, .int hi u, .int 1 v] },toks:=tk }:=by
 refine wpAny_pyIter_range (IsRange.new ..) (small_one h1 h2 h3 h4) ?_;have I1:nA X ag σ H { s with heap:=s.heap.push { cls:= .type "range",data:= .fields #[.int lo t, .int hi u, .int 1 v] },toks:=tk }:=I.kept λb o e=>aN _ e;refine⟨(s.heap.push { cls:= .type "range",data:= .fields #[.int lo t, .int hi u, .int 1 v] }).objs.size,[(s.heap.push { cls:= .type "range",data:= .fields #[.int lo t, .int hi u, .int 1 v] }).objs.size],_,_,H,rfl,
  I1.kept (t':=tk) λb o e=>aN _ e,QZ _ lo (hi - lo).toNat,?_,λb hb=>?_,q⟩
 ·have e1:lo+((0:Nat):Int)*1=lo:=by simp
  have e2:(((hi - lo).toNat:Nat):Int) - ((0:Nat):Int)=cE.Range.rangeSize lo hi 1:=by rw[rangeSize_one];split<;>lia
  show IsRangeIter _ _ (lo+((0:Nat):Int)*1) ((((hi - lo).toNat:Nat):Int) - ((0:Nat):Int)) 1;rw[e1,e2];exact bG _ rfl
 ·have e:b=(s.heap.push { cls:= .type "range",data:= .fields #[.int lo t, .int hi u, .int 1 v] }).objs.size:=by simpa using hb
  subst e;exact I1.fpOk (aE _) (I1.b6.fresh (aE _))
def Ro (ta:TA):TI:=λσ H R=>ta σ H λvs H1=>∃j:Int,vs=[.int j]∧ -(2 ^ 62)≤j∧j<2 ^ 62∧R (DS 0 j.toNat) H1
def zsq (hg:Gl X "range") (hm:X.mg "range" =none) (ha:PA X [a] ta) (hs:ay [a] X.env=[(false,aA a X.env)]):PI X tg (.Call (.Name "range" p) [a] [] pos) (Ro ta):=by
 intro ag s σ H R I h;refine Call_ (wE I hg hm boot_range (fM (oj (ha pos ag s σ H _ I h) λus s1 zz=>oJ zz λvs H1 I1 r1 q1=>?_) hs rfl));obtain⟨j,e,q1,q2,q⟩:=q1;subst e;cases r1 with
 |cons r rr=>
  cases rr;obtain⟨t,rfl⟩:=r;exact call_range_1 (Sn I1 `l `l q1 q2 (by simpa using q))
def zHL (wi:TI) (g:TG) (tb:TS):TS:=λD σ H=>wi σ H λJ H1=>∃W:Nat→Nat→St→Hp→Prop,(∃m,W 0 m σ H1)∧ ∀i m σ H,W i m σ H→
 (J.stop i H∧D.nx σ H)∨(J.go i H∧ ∃N:St→Hp→Prop,(∀σ' H',N σ' H'→ ∃m',m'<m∧W (i+1) m' σ' H')∧ ∀x H',J.yld i H x H'→g x σ H' λσ2 H2=>tb { D with nx:=N,ct:=N,bk:=D.nx } σ2 H2)
noncomputable def Bt (fp:List aj) (h:aH):List (aj×aJ):=fp.filterMap λb=>(h.get? b).map λo=>(b,o)
def Da (hb:b∈fp) (e:h.get? b=aa o):(b,o)∈Bt fp h:=jI.mpr ⟨b,hb,by rw[e];rfl⟩
def WY (hp:p∈Bt fp h):p.1∈fp∧h.get? p.1=aa p.2:=by
 obtain⟨b,hb,e⟩:=jI.mp hp;cases q:h.get? b with
 |none=>rw[q]at e;cases e
 |some o=>
  rw[q]at e;have e':(b,o)=p:=aL e;subst e';exact⟨hb,q⟩
def nA.pinned (I:nA X ag σ H s) (hf:∀b∈fp,rT X ag H b) (ho:∀b∈fp,∃o,s.heap.get? b=aa o∧ ∀v,o.data≠ .cell v):nA X (ag++Bt fp s.heap) σ H s:=
 I.pins_of λp hp=>(bv.mp hp).elim (λz=>I.pin p (cw _ z)) λz=>by
  obtain⟨hb,e⟩:=WY z;obtain⟨f0,f1,f2,_⟩:=hf p.1 hb;obtain⟨o,e',d⟩:=ho p.1 hb;rw[e]at e';cases e';exact⟨e,f0,f1,f2,d⟩
def nA.unpinned (I:nA X (ag++pl) σ H s):nA X ag σ H s:=I.pins_of λp hp=>I.pin p (cw _ (gp _ hp))
def Wd (hp:fB (aC X.prog X.w) X.A X.env X.xe) (hc:X.calm=true) (hi:PI X tg iter wi) (hg:PG X tg g) (hb:se X body tb)
  (hs:∀x,dN iter X.env x=pure x):PS X (.For tg iter body [] pos) (zHL wi g tb):=by
 intro ag s σ H D I h;refine wpAny_For (oj (hi ag s σ H _ I h) λv s1 h1=>oj h1 λitv s2 h2=>?_) hs;obtain⟨it,fp,tn,J,H2,e,I2,T,st2,f2,W,⟨m0,w0⟩,turn⟩:=h2;subst e;have stat:∀{H':Hp},(∀b∈fp,H' b=none)→ ∀b∈fp,rT X ag H' b:=λhn b hb=>⟨hn b hb,(f2 b hb).2⟩;refine codeAny_forLoop_any (λn s'=>∃i σ' H',nA X ag σ' H' s'∧tn i s'.heap∧(∀b∈fp,H' b=none)∧W i n σ' H') ?_ m0 ⟨0,σ,H2,I2,st2,λb hb=>(f2 b hb).1,w0⟩;rintro n s3 ⟨i,σ3,H3,I3,st3,fr3,w3⟩;obtain ⟨stop,qn⟩ |⟨go,N,hN,step⟩:=turn i n σ3 H3 w3
 ·refine eW hp (oj (T.done X rfl rfl rfl hc i ag s3 σ3 H3 X.xe I3 (stat fr3) st3 stop) λr s4 ⟨hr,I4⟩=>?_);subst hr;exact iU ⟨σ3,H3,I4,qn⟩
 ·refine eW hp (oj (T.item X rfl rfl rfl hc i ag s3 σ3 H3 X.xe I3 (stat fr3) st3 go) λr s4 ⟨u,hr,h4⟩=>?_);subst hr;refine eW hp (oj h4 λ_ s5 zz=>oJ zz λx H5 I5 r5 ⟨y5,st5,fr5⟩=>?_);have I5':=I5.pinned (stat fr5) (T.obj _ _ st5);refine eW hp (oj (hg _ s5 σ3 H5 x u _ I5' r5 (step x H5 y5)) λ_ s6 ⟨σ6,H6,I6,q6⟩=>?_);refine eW hp (oj (hb _ s6 σ6 H6 _ I6 q6) λf s7 q7=>?_);have again:∀{σ7:St}{H7:Hp},nA X (ag++Bt fp s5.heap) σ7 H7 s7→N σ7 H7→ ∃m,m<n∧ ∃i σ' H',nA X ag σ' H' s7∧tn i s7.heap∧(∀b∈fp,H' b=none)∧W i m σ' H':=λ{σ7 H7} I7 n7=>by
   obtain⟨m',hm,w7⟩:=hN σ7 H7 n7;refine⟨m',hm,i+1,σ7,H7,I7.unpinned,T.keep _ _ _ st5 λb hb o e=>(I7.pin (b,o) (cw _ (cw _ (Da hb e)))).1,λb hb=>?_,w7⟩;obtain⟨o,e,d⟩:=T.obj _ _ st5 b hb;exact(I7.pin (b,o) (cw _ (cw _ (Da hb e)))).2.1
  cases f with
  |next=>obtain⟨σ7,H7,I7,n7⟩:=q7;exact again I7 n7
  |cont=>obtain⟨σ7,H7,I7,n7⟩:=q7;exact again I7 n7
  |brk=>obtain⟨σ7,H7,I7,q7⟩:=q7;exact⟨σ7,H7,I7.unpinned,q7⟩
  |ret v=>obtain⟨x7,σ7,H7,I7,r7,q7⟩:=q7;exact⟨x7,σ7,H7,I7.unpinned,r7,q7⟩
end
abbrev R2:=V→V→Hp→VK→Prop
def o8 (X:Cx) (f:ai→ai→cq ai) (r:R2):Prop:=
 ∀(ag:List (aj×aJ)) (s:ao) (σ:St) (H:Hp) (x y:V) (v u:ai) (Q:VK),nA X ag σ H s→nH x v→nH y u→r x y H Q→
  ax (aC X.prog X.w) X.A (f v u) (EP X ag σ Q) X.xe s
def Eo (X:Cx) (f:ai→cq ai) (r:V→Hp→VK→Prop):Prop:=
 ∀(ag:List (aj×aJ)) (s:ao) (σ:St) (H:Hp) (x:V) (v:ai) (Q:VK),nA X ag σ H s→nH x v→r x H Q→
  ax (aC X.prog X.w) X.A (f v) (EP X ag σ Q) X.xe s
def oB (X:Cx) (f:ai) (r:List V→Hp→VK→Prop):Prop:=
 ∀(ag:List (aj×aJ)) (s:ao) (σ:St) (H:Hp) (xs:List V) (us:List ai) (Q:VK),nA X ag σ H s→nE xs us→r xs H Q→
  ax (aC X.prog X.w) X.A (call f us) (EP X ag σ Q) X.xe s
def RD (X:Cx) (r:V→Hp→(Bool→Hp→Prop)→Prop):Prop:=
 ∀(ag:List (aj×aJ)) (s:ao) (σ:St) (H:Hp) (x:V) (v:ai) (Q:Bool→Hp→Prop),nA X ag σ H s→nH x v→r x H Q→
  ax (aC X.prog X.w) X.A (truthy v) (TP X ag σ Q) X.xe s
def Df (r:R2) (ta tb:TE):TE:=λσ H Q=>ta σ H λx H1=>tb σ H1 λy H2=>r x y H2 Q
def UB (r:V→Hp→VK→Prop) (ta:TE):TE:=λσ H Q=>ta σ H λx H1=>r x H1 Q
def rI (C:Int→Int→Prop) (g:Int→Int→V):R2:=λx y H Q=>∃i j,x= .int i∧y= .int j∧C i j∧Q (g i j) H
def tq (g:Int→Int→V):R2:=λx y H Q=>∃i j,x= .int i∧y= .int j∧Q (g i j) H
def rU (g:Int→V):V→Hp→VK→Prop:=λx H Q=>∃i,x= .int i∧Q (g i) H
section
variable {X:Cx}{a b:Expr}{ta tb:TE}{pos:bi}
def EA (ha:PE X a ta) (hb:PE X b tb) {R:V→V→Hp→Prop}(I:nA X ag σ H s)
  (h:ta σ H λx H1=>tb σ H1 λy H2=>R x y H2) {Q:ai→ao→Prop}{f:ai→ai→cq ai}
  (hf:∀v u s2 x y H2,nA X ag σ H2 s2→nH x v→nH y u→R x y H2→ax (aC X.prog X.w) X.A (f v u) Q X.xe s2) :
  ax (aC X.prog X.w) X.A (aA a X.env) (λv s₁=>ax (aC X.prog X.w) X.A (aA b X.env) (λu s₂=>ax (aC X.prog X.w) X.A (f v u) Q X.xe s₂) X.xe s₁) X.xe s:=by
 refine oj (ha ag s σ H _ I h) λv s1 zz=>oJ zz λx H1 I1 r1 q1=>?_;refine oj (hb ag s1 σ H1 _ I1 q1) λu s2 zz=>oJ zz λy H2 I2 r2 q2=>?_;exact hf v u s2 x y H2 I2 r1 r2 q2
def Ay (ho:o8 X (ck op) r) (ha:PE X a ta) (hb:PE X b tb):PE X (.BinOp a op b pos) (Df r ta tb):=by
 intro ag s σ H Q I h;exact wpAny_BinOp (EA ha hb I h λv u s2 x y H2 I2 rx ry q=>ho ag s2 σ H2 x y v u Q I2 rx ry q)
def Ts{r:V→Hp→VK→Prop}(ho:Eo X (unaryOp op) r) (ha:PE X a ta):PE X (.UnaryOp op a pos) (UB r ta):=by
 intro ag s σ H Q I h;exact jE (oj (ha ag s σ H _ I h) λv s1 zz=>oJ zz λx H1 I1 r1 q1=>ho ag s1 σ H1 x v Q I1 r1 q1)
def DE{f:ai→ai→cq ai}{C:Int→Int→Prop}{g:Int→Int→Int}
  (rule:∀(i j:Int) (t u:Tok) (s:ao) (Q:ai→ao→Prop) (E:ai→ao→Prop),C i j→Q (.int (g i j) s.toks) { s with toks:=s.toks+1 }→ax (aC X.prog X.w) X.A (f (.int i t) (.int j u)) Q E s) :
  o8 X f (rI C λi j=> .int (g i j)):=by
 intro ag s σ H x y v u Q I rx ry h;obtain⟨i,j,rfl,rfl,hc,q⟩:=h;obtain⟨t,rfl⟩:=rx;obtain⟨t',rfl⟩:=ry;exact rule i j t t' s _ _ hc ⟨.int (g i j),H,I.tok _,⟨_,rfl⟩,q⟩
def LV{f:ai→ai→cq ai}{g:Int→Int→Int}
  (rule:∀(i j:Int) (t u:Tok) (s:ao) (Q:ai→ao→Prop) (E:ai→ao→Prop),Q (.int (g i j) s.toks) { s with toks:=s.toks+1 }→ax (aC X.prog X.w) X.A (f (.int i t) (.int j u)) Q E s) :
  o8 X f (tq λi j=> .int (g i j)):=by
 intro ag s σ H x y v u Q I rx ry h;obtain⟨i,j,rfl,rfl,q⟩:=h;obtain⟨t,rfl⟩:=rx;obtain⟨t',rfl⟩:=ry;exact rule i j t t' s _ _ ⟨.int (g i j),H,I.tok _,⟨_,rfl⟩,q⟩
def CS{f:ai→ai→cq ai}{g:Int→Int→Bool}
  (rule:∀(i j:Int) (t u:Tok) (s:ao) (Q:ai→ao→Prop) (E:ai→ao→Prop),Q (.bool (g i j)) s→ax (aC X.prog X.w) X.A (f (.int i t) (.int j u)) Q E s) :
  o8 X f (tq λi j=> .bl (g i j)):=by
 intro ag s σ H x y v u Q I rx ry h;obtain⟨i,j,rfl,rfl,q⟩:=h;obtain⟨t,rfl⟩:=rx;obtain⟨t',rfl⟩:=ry;exact rule i j t t' s _ _ ⟨.bl (g i j),H,I,rfl,q⟩
def sF (i j:Int):Prop:=0<j∧j<1073741824
def zE (i j:Int):Prop:=0≤j∧j≤1000000∧i.natAbs<2 ^ 64
def qO (i j:Int):Prop:=(-(2 ^ 64)<i∧i<2 ^ 64)∨(-(2 ^ 64)<j∧j<2 ^ 64)
def qO.ok (h:qO i j):IntMulOk i j:=by
 obtain ⟨h1,h2⟩ |⟨h1,h2⟩:=h
 ·exact .of_left (intBits_le_64 h1 h2)
 ·exact .of_right (intBits_le_64 h1 h2)
def wO:o8 X (ck .Add) (tq λi j=> .int (i+j)):=LV λ_ _ _ _ _ _ _ q=>add_int q
def Qn:o8 X (ck .Sub) (tq λi j=> .int (i - j)):=LV λ_ _ _ _ _ _ _ q=>sub_int q
def Xf:o8 X (ck .Mult) (rI qO λi j=> .int (i*j)):=DE λ_ _ _ _ _ _ _ hc q=>mul_int q hc.ok
def Wv:o8 X (ck .FloorDiv) (rI sF λi j=> .int (i / j)):=DE λi j _ _ _ _ _ hc q=>by
 have h1:(0:Int)<j:=hc.1;have h2:j<1073741824:=hc.2;exact floordiv_int `l (by rw[Int.fdiv_eq_ediv_of_nonneg i `l];exact q) (.inl (PyProof.noPylong_small `l))
def YQ:o8 X (ck .Mod) (rI (λ_ j=>0<j) λi j=> .int (i % j)):=DE λi j _ _ _ _ _ hc q=>by
 have h1:(0:Int)<j:=hc;exact mod_int' `l (by rw[Int.fmod_eq_emod_of_nonneg i `l];exact q)
def ZI:o8 X (ck .Pow) (rI zE λi j=> .int (i ^ j.toNat)):=DE λ_ _ _ _ _ _ _ hc q=>pow_int_small hc.1 hc.2.1 hc.2.2 q
def unI{f:ai→cq ai}{g:Int→Int}
  (rule:∀(i:Int) (t:Tok) (s:ao) (Q:ai→ao→Prop) (E:ai→ao→Prop),Q (.int (g i) s.toks) { s with toks:=s.toks+1 }→ax (aC X.prog X.w) X.A (f (.int i t)) Q E s) :
  Eo X f (rU λi=> .int (g i)):=by
 intro ag s σ H x v Q I rx h;obtain⟨i,rfl,q⟩:=h;obtain⟨t,rfl⟩:=rx;exact rule i t s _ _ ⟨.int (g i),H,I.tok _,⟨_,rfl⟩,q⟩
def zDR:Eo X (unaryOp .USub) (rU λi=> .int (-i)):=unI λ_ _ _ _ _ q=>neg_int q
end
section
variable {X:Cx}{a b c:Expr}{ta tb tc:TE}{pos:bi}
def AB (I:nA X ag σ H s) (q:Q (.bl k) H) (e:k=k'):EP X ag σ Q (.bool k') s:=by
 subst e;exact⟨.bl k,H,I,rfl,q⟩
def RH:o8 X (bD .Lt) (tq λi j=> .bl (decide (i<j))):=CS λ_ _ _ _ _ _ _ q=>lt_int q
def uv:o8 X (bD .LtE) (tq λi j=> .bl (decide (i≤j))):=CS λ_ _ _ _ _ _ _ q=>le_int q
def zFH:o8 X (bD .Gt) (tq λi j=> .bl (decide (j<i))):=CS λ_ _ _ _ _ _ _ q=>gt_int q
def Zw:o8 X (bD .GtE) (tq λi j=> .bl (decide (j≤i))):=CS λ_ _ _ _ _ _ _ q=>ge_int q
def tm:o8 X (bD .In) (λx y H Q=>∃i j,x= .str i∧y= .str j∧Q (.bl (!(cW j i 0 j.length 1).isEmpty)) H):=by
 intro ag s σ H x y v u Q I rx ry h;obtain⟨i,j,rfl,rfl,q⟩:=h;obtain⟨t,rfl⟩:=rx;obtain⟨t',rfl⟩:=ry;exact in_str (AB I q rfl)
def xJ:o8 X (bD .Is) (λx y H Q=>y= .bR∧Q (.bl (decide (x= .bR))) H):=by
 intro ag s σ H x y v u Q I rx ry h;obtain⟨rfl,q⟩:=h;cases ry;refine is_none_gen (AB I q ?_);cases x<;>first
  | (cases rx;rfl)
  | (obtain⟨t,rfl⟩:=rx;rfl)
def vN:o8 X (bD .IsNot) (λx y H Q=>y= .bR∧Q (.bl (!decide (x= .bR))) H):=by
 intro ag s σ H x y v u Q I rx ry h;obtain⟨rfl,q⟩:=h;cases ry;refine isnot_none_gen (AB I q ?_);cases x<;>first
  | (cases rx;rfl)
  | (obtain⟨t,rfl⟩:=rx;rfl)
def rj:o8 X (bD .NotIn) (λx y H Q=>∃i j,x= .str i∧y= .str j∧Q (.bl (!(!(cW j i 0 j.length 1).isEmpty))) H):=by
 intro ag s σ H x y v u Q I rx ry h;obtain⟨i,j,rfl,rfl,q⟩:=h;obtain⟨t,rfl⟩:=rx;obtain⟨t',rfl⟩:=ry;exact notIn_str (AB I q rfl)
def o8.or{f:ai→ai→cq ai}{r r':R2}(h:o8 X f r) (h':o8 X f r'):o8 X f (λx y H Q=>r x y H Q∨r' x y H Q):=by
 intro ag s σ H x y v u Q I rx ry q;obtain q |q:=q
 ·exact h ag s σ H x y v u Q I rx ry q
 ·exact h' ag s σ H x y v u Q I rx ry q
def T2 (ho:o8 X (bD op) r) (ha:PE X a ta) (hb:PE X b tb) (hm:gi op b=false):PE X (.Compare a [op] [b] pos) (Df r ta tb):=by
 intro ag s σ H Q I h;exact wpAny_Compare1 (EA ha hb I h λv u s2 x y H2 I2 rx ry q=>ho ag s2 σ H2 x y v u Q I2 rx ry q) hm
def RQ (t:TE):TT:=λσ H Q=>t σ H λx H'=>∃k,x= .bl k∧Q k H'
def Zg (ho:o8 X (bD op) r) (ha:PE X a ta) (hb:PE X b tb) (hm:gi op b=false):PT X (.Compare a [op] [b] pos) (RQ (Df r ta tb)):=by
 intro ag s σ H Q I h;refine wpAny_isTrue_Compare1 (oj (ha ag s σ H _ I h) λv s1 zz=>oJ zz λx H1 I1 r1 q1=>oj (hb ag s1 σ H1 _ I1 q1) λu s2 zz=>oJ zz λy H2 I2 r2 q2=>
  oj (ho ag s2 σ H2 x y v u _ I2 r1 r2 q2) λc s3 zz=>oJ zz λz H3 I3 r3 ⟨k,e,q3⟩=>?_) hm
 subst e;cases r3;exact eR ⟨H3,I3,q3⟩
def T_ (r r':R2) (ta tb tc:TE):TE:=λσ H Q=>ta σ H λx H1=>tb σ H1 λy H2=>r x y H2 λz H3=>∃k,z= .bl k∧
 (if k=true then tc σ H3 λw' H4=>r' y w' H4 Q else Q (.bl false) H3)
def Rb (ho:o8 X (bD op) r) (ho':o8 X (bD op') r') (ha:PE X a ta) (hb:PE X b tb) (hc:PE X c tc)
  (hm:gV [op,op'] [b,c]=false:=by with_unfolding_all rfl):PE X (.Compare a [op,op'] [b,c] pos) (T_ r r' ta tb tc):=by
 intro ag s σ H Q I h;refine Compare_chain (oj (ha ag s σ H _ I h) λv s1 zz=>oJ zz λx H1 I1 r1 q1=>chain_link (oj (hb ag s1 σ H1 _ I1 q1) λu s2 zz=>oJ zz λy H2 I2 r2 q2=>
  oj (ho ag s2 σ H2 x y v u _ I2 r1 r2 q2) λd s3 zz=>oJ zz λz H3 I3 r3 ⟨k,e,q3⟩=>?_)) hm
 subst e;cases r3;refine eR ?_;cases k with
 |false=>exact ite_ff ⟨.bl false,H3,I3,rfl,q3⟩
 |true=>exact ite_tt (chain_last (oj (hc ag s3 σ H3 _ I3 q3) λw' s4 zz=>oJ zz λz' H4 I4 r4 q4=>ho' ag s4 σ H4 y z' u w' Q I4 r2 r4 q4))
def BQ (K:am) (x:V) (H:Hp) (k:Bool):Prop:=
 match x with
 | .bR=>k=false
 | .bl b=>k=b
 | .int i=>k=(i != 0)
 | .str y=>y.length≤sizeLine∧k=((y.length:Int) != 0)
 | .byt y=>y.size≤sizeLine∧k=((y.size:Int) != 0)
 | .ref p=>(∃xs,pJ K H p xs∧k= !xs.isEmpty)∨(∃xs,pV K H p xs∧k= !xs.isEmpty)∨ ∃dP,H p=aa (.dK dP)∧k= !dP.isEmpty
 |_=>False
def zqn{κ:Type}{dP:List (κ×V)}{vs:List (κ×ai)}(r:KV dP vs):(!vs.isEmpty)= !dP.isEmpty:=by
 cases r<;>rfl
def Ka{xs:List V}{c6:List ai}(r:nE xs c6):(!c6.toArray.isEmpty)= !xs.isEmpty:=by
 cases r<;>simp
def xq:(sizeLine:Nat)<2 ^ 63:=by rw[d9];decide
def Jy:RD X (λx H Q=>∃k,BQ X.K x H k∧Q k H):=by
 intro ag s σ H x v Q I rx h;obtain⟨k,e,q⟩:=h;have hl:=xq;have hs:sizeLine=16777216:=d9;cases x with
 |bR=>
  cases rx;have e':k=false:=e;subst e';exact truthy_none ⟨H,I,q⟩
 |bl b=>
  cases rx;have e':k=b:=e;subst e';exact eR ⟨H,I,q⟩
 |int i=>
  obtain⟨t,rfl⟩:=rx;have e':k=(i != 0):=e;subst e';exact PySem.P.truthy_int ⟨H,I,q⟩
 |str y=>
  obtain⟨t,rfl⟩:=rx;obtain⟨hy,e'⟩:y.length≤sizeLine∧k=((y.length:Int) != 0):=e;subst e';exact PySem.P.truthy_str `l ⟨H,I.tok _,q⟩
 |byt y=>
  obtain⟨t,rfl⟩:=rx;obtain⟨hy,e'⟩:y.size≤sizeLine∧k=((y.size:Int) != 0):=e;subst e';exact PySem.W.truthy_bytes `l ⟨H,I.tok _,q⟩
 |ref p=>
  cases rx;have e':(∃xs,pJ X.K H p xs∧k= !xs.isEmpty)∨(∃xs,pV X.K H p xs∧k= !xs.isEmpty)∨ ∃dP,H p=aa (.dK dP)∧k= !dP.isEmpty:=e;obtain ⟨xs,hx,e'⟩ |⟨xs,hx,e'⟩ |⟨dP,hx,e'⟩:=e'
  ·subst e';obtain⟨c6,r,pl,hz⟩:=I.list hx;have hlen:=r.length;exact wpAny_truthy_list pl.isList (by simp only[aV];lia) ⟨H,I.tok _,by rw[Ka r];exact q⟩
  ·subst e';obtain⟨c6,r,pl,hz⟩:=I.tuple hx;have hlen:=r.length;exact truthy_tuple pl (by simp only[aV];lia) ⟨H,I.tok _,by rw[Ka r];exact q⟩
  ·subst e';obtain⟨hz,hS,vs,r,m⟩:dP.length≤sizeLine∧(p == fh)=false∧ ∃vs,KV dP vs∧s.heap.DictOf (rQ X.prog X.w) p vs:=I.b6 p _ hx;have hlen:dP.length=vs.length:=gb r;exact wpAny_truthy_dict hS m `l ⟨H,I.tok _,by rw[zqn r];exact q⟩
 |_=>exact(show False from e).elim
def T3 (ha:PE X a ta) (he:∀whole,isTrue a X.env whole=(do let v ←whole;eB a.pos;holding [v] (truthy v))) :
  PT X a (λσ H Q=>ta σ H λx H'=>∃k,BQ X.K x H' k∧Q k H'):=by
 intro ag s σ H Q I h;exact isTrue_plain (oj (ha ag s σ H _ I h) λv s1 zz=>oJ zz λx H1 I1 r1 q1=>Jy ag s1 σ H1 x v Q I1 r1 q1) (he _)
def sO:o8 X (ck .Add) (λx y H Q=>∃i j,x= .str i∧y= .str j∧i.length+j.length≤sizeLine∧Q (.str (i++j)) H):=by
 intro ag s σ H x y v u Q I rx ry h;obtain⟨i,j,rfl,rfl,hz,q⟩:=h;obtain⟨t,rfl⟩:=rx;obtain⟨t',rfl⟩:=ry;exact add_str (λt' tk=>⟨.str (i++j),H,I.tok _,⟨_,rfl⟩,q⟩) hz
def tJ (r:nE [x] us):∃u,us=[u]∧nH x u:=by
 cases r with
 |cons r1 r2=>cases r2;exact⟨_,rfl,r1⟩
def OY (r:nE [x,y] us):∃u w',us=[u,w']∧nH x u∧nH y w':=by
 cases r with
 |cons r1 r2=>
  cases r2 with
  |cons r3 r4=>cases r4;exact⟨_,_,rfl,r1,r3⟩
def Q1 (hc:X.calm=true):oB X (.builtin "min") (λxs H Q=>∃i j,xs=[.int i, .int j]∧Q (.int (if j<i then j else i)) H):=by
 intro ag s σ H xs us Q I r h;obtain⟨i,j,rfl,q⟩:=h;obtain⟨u,w',rfl,⟨t,rfl⟩,⟨t',rfl⟩⟩:=OY r;refine min_two_ints (I.ok.hd hc) λh' tk k=>⟨_,H,I.kept k,?_,q⟩;by_cases hj:j<i
 ·rw[if_pos hj,if_pos hj];exact⟨_,rfl⟩
 ·rw[if_neg hj,if_neg hj];exact⟨_,rfl⟩
def Ri:oB X (.type "int") (λxs H Q=>(∃i,xs=[.int i]∧Q (.int i) H)∨ ∃k,xs=[.bl k]∧Q (.int (if k then 1 else 0)) H):=by
 intro ag s σ H xs us Q I r h;obtain ⟨i,rfl,q⟩ |⟨k,rfl,q⟩:=h
 ·obtain⟨u,rfl,t,rfl⟩:=tJ r;exact call_int_int ⟨.int i,H,I,⟨_,rfl⟩,q⟩
 ·obtain⟨u,rfl,r1⟩:=tJ r;cases r1;exact call_int_bool ⟨.int (if k then 1 else 0),H,I.tok _,⟨_,rfl⟩,q⟩
def XR:oB X (.type "str") (λxs H Q=>∃i,xs=[.int i]∧i.natAbs.log2<1920∧Q (.str (cG i)) H):=by
 intro ag s σ H xs us Q I r h;obtain⟨i,rfl,hz,q⟩:=h;obtain⟨u,rfl,t,rfl⟩:=tJ r;exact PySem.P.str_of_int hz ⟨.str _,H,I.tok _,⟨_,rfl⟩,q⟩
end
structure sH (h:aH) (x dx C:aj) (mA:ah→Option ai):Prop where
  obj:h.get? x=aa (d6 C dx)
  ns:h.Ns1 dx mA
  ne:dx≠x
def Uy{h:aH}{dx:aj}{mA:ah→Option ai}(n:h.Ns1 dx mA):∃od,h.get? dx=aa od∧ ∀name,iL name od=aa (mA name):=by
 obtain⟨o,es,ep,ho,hd,hk,_,hm⟩:=n;refine⟨o,ho,λname=>?_⟩;have e:=hm name;unfold nsFind findBy at e;rw[←Array.find?_toList]at e;unfold iL;rw[hd];dsimp only;split
 ·rename_i y q;rw[q]at e;exact congrArg aa e
 ·rename_i q;rw[q]at e;have a:es.toList.any (·.refKey)=false:=by
   rw[List.any_eq_false];intro y hy;obtain⟨z,t,hkey⟩:=hk y (k9.mp hy);simp [jU.refKey,hkey]
  have a':¬es.toList.any (·.refKey)=true:=by rw[a];exact dy
  rw[if_neg a'];exact congrArg aa e
def sH.look{mA:ah→Option ai}(I:sH h x dx C mA):∃od,PySem.W.InstAt h x (d6 C dx) C (aa od)∧ ∀name,iL name od=aa (mA name):=
 let ⟨od,ho,hl⟩:=Uy I.ns
 ⟨od,⟨I.obj,rfl,rfl,ho⟩,hl⟩
section
variable {prog:aY}{w:aP}{A:bn}{E:ai→ao→Prop}{s:ao}{K:am}{x dx C f:aj}{mA:ah→Option ai}{name:ah}{v:ai}
def UP{Q:ai→ao→Prop}(X:K.In s.heap) (I:sH s.heap x dx C mA) (hg:gm K C name=true) (hh:iJ K C=true)
  (ha:bZ K (.ref C) name=aa none) (hv:mA name=aa v) (hv':kP v=true) (h:Q v { s with toks:=s.toks+1 }) :
  ax (aC prog w) A (getAttr (.ref x) name expr) Q E s:=by
 obtain⟨od,J,hl⟩:=I.look;exact PySem.W.get_value X J (ku hg).1 (PySem.W.findObj_own hh ha rfl (by rw[hl,hv])) hv' h
def SD{Q:ai×List ai→ao→Prop}(X:K.In s.heap) (I:sH s.heap x dx C mA) (hg:gm K C name=true)
  (hf:bZ K (.ref C) name=aa (aa (.ref f))) (ht:gq K (.ref f)=true) (hv:mA name=none) (h:Q (.ref f,[.ref x]) s) :
  ax (aC prog w) A (gv (.ref x) name pl) Q E s:=by
 obtain⟨od,J,hl⟩:=I.look;exact PySem.W.method_fn X J (ku hg).1 (ku hg).2 hf (beq_iff_eq.mp ht) (by show(iL name od).map (·.isSome)=aa false;rw[hl,hv];rfl) h
def Zb{Q:Unit→ao→Prop}(X:K.In s.heap) (I:sH s.heap x dx C mA)
  (hs:bZ K (.ref C) "__setattr__" =aa (aa (.builtin "object.__setattr__"))) (hp:kH K C=true) (ht:jr K C name=aa none) (hh:iJ K C=true)
  (hw:ik mA ns) (hsz:ns.length≤sizeLine)
  (h:∀h',sH h' x dx C (λy=>if y=name then aa v else mA y)→cR dx s.heap h'→Q () { s with heap:=h',toks:=s.toks+2 }) :
  ax (aC prog w) A (setAttr (.ref x) name v) Q E s:=by
 obtain⟨od,J,hl⟩:=I.look;refine PySem.W.set_plain X J hs (PySem.W.osa_open (s:={ s with toks:=s.toks+1 }) (r:=none) X J hp ht λb=>?_);obtain⟨cd,hc,hd'⟩:=PySem.W.any_some hh;have hx:s.heap.get? x=aa ⟨.ref C,aa dx, .plain, #[]⟩:=I.obj;refine av (aK (av (av (wpAny_loadPart hx (av (PySem.W.Looks.here (s:={ s with toks:=s.toks+1 }) (PySem.W.looks_clsIn X hc) ?_))))));rw[hd'];refine aK (a:=aa dx) (av (aK (av ?_)));refine wpAny_nsSet1 (s:={ s with toks:=s.toks+1 }) I.ns λh' hn2 hs2=>?_;obtain⟨oD,esD,epD,hoD,hdD,hcD⟩:=hn2.count (ik.cons name v hw);refine av (wpAny_lookBehind hoD (by rw[hdD];exact pastItsLine_dict (bI hcD (by rw[aS];lia))) ?_)
 exact aK (h _ ⟨(hs2.2 _ (bE I.ne)).trans I.obj,hn2,I.ne⟩ hs2)
def zvr{R:hU→ao→Prop}(X:K.In s.heap) (hm:gI K C=true)
  (hi:bZ K (.ref C) "__init__" =aa (aa (.ref f))) (hf:PySem.W.typeIn K (.ref f)=aa (.type "function"))
  (h:dD (aC prog w) (A.under (.builtin "type.__call__" ⟨.ref C::vs,kw⟩)) (.call (.ref f) ⟨.ref (s.heap.objs.size+1)::vs,kw⟩) (PySem.W.InitBack (s.heap.objs.size+1) R)
   { s with heap:=(s.heap.push PySem.W.emptyDict).push (d6 C s.heap.objs.size) }) :
  dD (aC prog w) A (.call (.ref C) ⟨vs,kw⟩) R s:=by
 obtain⟨hh,g,d,t,os⟩:=s;exact PySem.W.make_core (PySem.W.makes_of X hm) (PySem.W.looks_findIn X hi) (λself=>PySem.W.bind_fn X self hf) (.inl rfl) h
end
noncomputable def rm (f:ah) (v:V):List (ah×V)→List (ah×V)
 | []=>[(f,v)]
 | (g,x)::r=>if g=f then(g,v)::r else(g,x)::rm f v r
theorem Mj (f g:ah) (v:V):∀fs:List (ah×V),(rm f v fs).lookup g=if g=f then aa v else fs.lookup g
 | []=>by
  show bW g [(f,v)]=_;by_cases h:g=f
  ·have hb:(g == f)=true:=beq_iff_eq.mpr h;simp only[bW,hb,if_pos h]
  ·have hb:(g == f)=false:=beq_eq_false_iff_ne.mpr h;simp only[bW,hb,if_neg h]
 | (k,x)::r=>by
  have ih:=Mj f g v r;rw[show rm f v ((k,x)::r)=(if k=f then(k,v)::r else(k,x)::rm f v r) from rfl];by_cases hk:k=f
  ·rw[if_pos hk];by_cases h:g=k
   ·have hb:(g == k)=true:=beq_iff_eq.mpr h;simp only[bW,hb,if_pos (h.trans hk)]
   ·have hb:(g == k)=false:=beq_eq_false_iff_ne.mpr h;simp only[bW,hb,if_neg (λe:g=f=>h (e.trans hk.symm))]
  ·rw[if_neg hk];by_cases h:g=k
   ·have hb:(g == k)=true:=beq_iff_eq.mpr h;simp only[bW,hb,if_neg (λe:g=f=>hk (h.symm.trans e))]
   ·have hb:(g == k)=false:=beq_eq_false_iff_ne.mpr h;simp only[bW,hb];exact ih
theorem FR (f:ah) (v:V):∀fs:List (ah×V),f∈(rm f v fs).map (·.1)∧ ∀g,g∈fs.map (·.1)→g∈(rm f v fs).map (·.1)
 | []=>⟨by simp [rm],λg h=>by simp at h⟩
 | (k,x)::r=>by
  obtain⟨i1,i2⟩:=FR f v r;rw[show rm f v ((k,x)::r)=(if k=f then(k,v)::r else(k,x)::rm f v r) from rfl];by_cases hk:k=f
  ·rw[if_pos hk];subst hk;exact⟨`s,λg h=>by simpa using h⟩
  ·rw[if_neg hk];refine⟨?_,λg h=>?_⟩
   ·rw[aG];exact aI _ i1
   ·rw[aG]at h⊢;obtain e |e:=az.mp h
    ·exact az.mpr (.inl e)
    ·exact aI _ (i2 g e)
theorem IF (f:ah) (v:V):∀fs:List (ah×V),(rm f v fs).length≤fs.length+1
 | []=>by simp [rm]
 | (k,x)::r=>by
  have ih:=IF f v r;rw[show rm f v ((k,x)::r)=(if k=f then(k,v)::r else(k,x)::rm f v r) from rfl];by_cases hk:k=f
  ·rw[if_pos hk,aS,aS];lia
  ·rw[if_neg hk,aS,aS];lia
def pU.some_of (r:pU (aa v) o):∃u,o=aa u∧nH v u:=by
 cases o with
 |none=>exact(show False from r).elim
 |some u=>exact⟨u,rfl,r⟩
def pU.none_of (r:pU none o):o=none:=by
 cases o with
 |none=>rfl
 |some u=>exact(show False from r).elim
def XG (r:nH v u):kP u=true:=by
 cases v with
 |bR=>cases(show u=cV from r);rfl
 |bl b=>cases(show u=eX b from r);rfl
 |int i=>obtain⟨t,e⟩:=(show ∃t,u=eH i t from r);cases e;rfl
 |str x=>obtain⟨t,e⟩:=(show ∃t,u=eE x t from r);cases e;rfl
 |byt b=>obtain⟨t,e⟩:=(show ∃t,u=ai.bytes b t from r);cases e;rfl
 |flt b=>obtain⟨t,e⟩:=(show ∃t,u=jc b t from r);cases e;rfl
 |ref a=>cases(show u=bj a from r);rfl
 |ty n=>cases(show u=g9 n from r);rfl
section
variable {P:aY}{w:aP}{H:Hp}{h:aH}{a C dx:aj}{fs:List (ah×V)}
def DJ (b6:ph P w H h) (e:H a=aa (.ins C dx fs)):∃mA,sH h a dx C mA∧(∀f,pU (fs.lookup f) (mA f))∧ik mA (fs.map (·.1))∧fs.length≤1000∧H dx=aa (.own a):=by
 obtain⟨d,z,ne,ob,mA,n,r,q⟩:=(show nZ P w H h a (.ins C dx fs) from b6 a _ e);exact⟨mA,⟨ob,n,ne⟩,r,q,z,d⟩
end
structure rM (K:am) (C:aj):Prop where
  pg:gm K C ah.empty=true
  hd:iJ K C=true
  po:kH K C=true
  sa:bZ K (.ref C) "__setattr__" =aa (aa (.builtin "object.__setattr__"))
def rM.get{K:am}{C:aj}(c:rM K C) (f:ah):gm K C f=true:=c.pg
def oW (K:am) (C:aj) (f:ah):Prop:=bZ K (.ref C) f=aa none
def oW.taker{K:am}(n:oW K C f):jr K C f=aa none:=by
 unfold jr;rw[show bZ K (.ref C) f=aa none from n];rfl
structure vB (K:am) (C:aj) (m:ah) (f:aj):Prop where
  at_:bZ K (.ref C) m=aa (aa (.ref f))
  fn:gq K (.ref f)=true
  kp:cX K (.ref f)=true
section
variable {X:Cx}{ag:List (aj×aJ)}{σ:St}{H:Hp}{s:ao}{a C dx:aj}{fs:List (ah×V)}{f:ah}{v:V}{A:bn}{E:ai→ao→Prop}
def MT{Q:ai→ao→Prop}(I:nA X ag σ H s) (e:H a=aa (.ins C dx fs)) (c:rM X.K C) (n:oW X.K C f) (l:fs.lookup f=aa v)
  (h:∀u s',nA X ag σ H s'→nH v u→Q u s'):ax (aC X.prog X.w) A (getAttr (.ref a) f b) Q E s:=by
 obtain⟨mA,O,r,_,_,_⟩:=DJ I.b6 e;obtain⟨u,hu,ru⟩:=pU.some_of (v:=v) (o:=mA f) (by rw[←l];exact r f);exact UP I.kIn O (c.get f) c.hd n hu (XG ru) (h u _ (I.tok _) ru)
def Ko{Q:ai×List ai→ao→Prop}(I:nA X ag σ H s) (e:H a=aa (.ins C dx fs)) (c:rM X.K C) (k:vB X.K C m g) (l:fs.lookup m=none)
  (h:Q (.ref g,[.ref a]) s):ax (aC X.prog X.w) A (gv (.ref a) m pl) Q E s:=by
 obtain⟨mA,O,r,_,_,_⟩:=DJ I.b6 e;have hn:mA m=none:=pU.none_of (by rw[←l];exact r m);exact SD I.kIn O (c.get m) k.at_ k.fn hn h
def Nn{Q:Unit→ao→Prop}(I:nA X ag σ H s) (e:H a=aa (.ins C dx fs)) (c:rM X.K C) (n:oW X.K C f) (hl:fs.length<1000) (ry:nH y u)
  (h:∀s',nA X ag σ (nY H a (.ins C dx (rm f y fs))) s'→Q () s'):ax (aC X.prog X.w) A (setAttr (.ref a) f u) Q E s:=by
 obtain⟨mA,O,r,wi,_,ho⟩:=DJ I.b6 e;have hz:(fs.map (·.1)).length≤sizeLine:=by rw[aD,d9];lia
 refine Zb I.kIn O c.sa c.po n.taker c.hd wi hz λh' O' sb=>h _ ?_;have hd:∃o,h'.get? dx=aa o:=let ⟨o,_,_,e',_⟩:=O'.ns;⟨o,e'⟩;refine I.write (x:=a) (e:=dx) (by rw[e];exact du) (.inr ho) (λb q hb z=>(sb.2 b hb).trans z) hd ?_;refine⟨by rw[oV O.ne];exact ho,?_,O.ne,O'.obj,_,O'.ns,λg=>?_,λg hg=>?_⟩
 ·have:=IF f y fs;lia
 ·show pU ((rm f y fs).lookup g) (if g=f then aa u else mA g);rw[Mj];by_cases q:g=f
  ·rw[if_pos q,if_pos q];exact ry
  ·rw[if_neg q,if_neg q];exact r g
 ·by_cases q:g=f
  ·rw[q];exact(FR f y fs).1
  ·refine(FR f y fs).2 g (wi g λz=>hg ?_);show(if g=f then aa u else mA g)=none;rw[if_neg q];exact z
def nA.made (I:nA X ag σ H s):nA X ag σ (nY (nY H s.heap.objs.size (.own (s.heap.objs.size+1))) (s.heap.objs.size+1) (.ins C s.heap.objs.size []))
  { s with heap:=(s.heap.push PySem.W.emptyDict).push (d6 C s.heap.objs.size) }:=by
 have e1:(s.heap.push PySem.W.emptyDict).get? s.heap.objs.size=aa PySem.W.emptyDict:=bG s.heap rfl;have e2:((s.heap.push PySem.W.emptyDict).push (d6 C s.heap.objs.size)).get? (s.heap.objs.size+1)=aa (d6 C s.heap.objs.size):=by
  have:=bG (s.heap.push PySem.W.emptyDict) (o:=d6 C s.heap.objs.size) rfl;rwa [cP]at this
 have e3:(s.heap.push PySem.W.emptyDict).Ns s.heap.objs.size (λ_=>none):=⟨PySem.W.emptyDict, #[],_,e1,rfl,(λe he=>absurd he `s),λ_=>rfl⟩;have I1:=I.laid (a:=s.heap.objs.size) (o:= .own (s.heap.objs.size+1)) (h':=s.heap.push PySem.W.emptyDict) (t':=s.toks) (λb u q=>aN _ q) (aE _) ⟨_,e1⟩;refine I1.laid (a:=s.heap.objs.size+1) (o:= .ins C s.heap.objs.size []) (t':=s.toks) (λb u q=>aN _ q) (fE (cP _ _)) ?_;have ne:s.heap.objs.size≠s.heap.objs.size+1:=bQ (mf _);refine⟨by rw[oV ne,pY],bc _,ne,e2,λ_=>none,(aH.Ns1.of_empty e3).at λo q=>aN _ q,λ_=>du,λy hy=>absurd rfl hy⟩
def zyO{Q:ai→ao→Prop}(hb:ci e f env (aA e env)=aA e env)
  (h:ax (aC prog w) A (aA e env) (λo s₁=>ax (aC prog w) A (getAttr o f true) Q E s₁) E s):ax (aC prog w) A (aA (.Attribute e f pos) env) Q E s:=
 Attribute_any_ h (by rw[arm_eval_Attribute,hb])
end
def XV (K:am) (ta:TE) (f:ah):TE:=λσ H Q=>ta σ H λx H1=>∃a C dx fs v,x= .ref a∧H1 a=aa (.ins C dx fs)∧rM K C∧oW K C f∧fs.lookup f=aa v∧Q v H1
def Z7 (K:am) (ta tv:TE) (f:ah):TS:=λD σ H=>tv σ H λy H1=>ta σ H1 λx H2=>∃a C dx fs,x= .ref a∧H2 a=aa (.ins C dx fs)∧rM K C∧oW K C f∧fs.length<1000∧
 D.nx σ (nY H2 a (.ins C dx (rm f y fs)))
def Qi (X:Cx) (op:ke) (rd:V→V→Hp→VK→Prop):Prop:=
 ∀(ag:List (aj×aJ)) (s:ao) (σ:St) (H:Hp) (x y:V) (u v:ai) (Q:VK),nA X ag σ H s→nH x u→nH y v→rd x y H Q→ax (aC X.prog X.w) X.A (jH op u v) (EP X ag σ Q) X.xe s
def Se (K:am) (ta tv:TE) (rd:V→V→Hp→VK→Prop) (f:ah):TS:=λD σ H=>ta σ H λx H1=>∃a C dx fs v,x= .ref a∧H1 a=aa (.ins C dx fs)∧rM K C∧oW K C f∧fs.lookup f=aa v∧
 tv σ H1 λy H2=>rd v y H2 λz H3=>∃dx' fs',H3 a=aa (.ins C dx' fs')∧fs'.length<1000∧D.nx σ (nY H3 a (.ins C dx' (rm f z fs')))
section
variable {X:Cx}{o e value:Expr}{f:ah}{pos pos' tpos:bi}{ta tv:TE}
def Zc (he:PE X e ta) (hb:ci e f X.env (aA e X.env)=aA e X.env):PE X (.Attribute e f pos) (XV X.K ta f):=by
 intro ag s σ H Q I h;refine zyO hb (oj (he ag s σ H _ I h) λu s1 zz=>oJ zz λx H1 I1 rx zy=>LU zy λa C dx fs v ex ea c n l q=>?_);subst ex;obtain rfl:u=bj a:=rx;exact MT I1 ea c n l λu' s2 I2 ru=>⟨v,H1,I2,ru,q⟩
def Z6 (ha:PE X o ta) (hv:PE X value tv) (hs:dE value (aa (.Attribute o f pos')) pos.line X.env=pure false):PS X (.Assign [.Attribute o f pos'] value pos) (Z7 X.K ta tv f):=by
 intro ag s σ H D I h;refine plainObj_wpAny_Assign_Attribute (oj (hv ag s σ H _ I h) λu s1 zz=>oJ zz λy H1 I1 ry q=>oj (ha ag s1 σ H1 _ I1 q) λov s2 zz=>oJ zz λx H2 I2 rx zy=>zIf zy λa C dx fs ex ea c n l q2=>?_) hs;subst ex;obtain rfl:ov=bj a:=rx;exact Nn I2 ea c n l ry λs3 I3=>⟨σ,_,I3,q2⟩
def XA{rd:V→V→Hp→VK→Prop}(ha:PE X o ta) (hv:PE X value tv) (hop:Qi X op rd):PS X (.AugAssign (.Attribute o f tpos) op value pos) (Se X.K ta tv rd f):=by
 intro ag s σ H D I h;refine wpAny_AugAssign_AttributeAny (oj (ha ag s σ H _ I h) λov s1 zz=>oJ zz λx H1 I1 rx zy=>LU zy λa C dx fs v ex ea c n l q=>?_);subst ex;obtain rfl:ov=bj a:=rx;refine MT I1 ea c n l λu s2 I2 ru=>oj (hv ag s2 σ H1 _ I2 q) λw3 s3 zz=>oJ zz λy H2 I3 ry q3=>oj (hop ag s3 σ H2 v y u w3 _ I3 ru ry q3) λw4 s4 zz=>oJ zz λz H3 I4 rz zy=>oJ zy λdx' fs' ea' l' q4=>?_;exact Nn I4 ea' c n l' rz λs5 I5=>⟨σ,_,I5,q4⟩
def Vm:V→V→Hp→VK→Prop:=λx y H Q=>∃i j,x= .int i∧y= .int j∧Q (.int (i+j)) H
def zBf:Qi X .Add Vm:=by
 rintro ag s σ H x y u v Q I rx ry ⟨i,j,rfl,rfl,q⟩;obtain⟨t,rfl⟩:=(show ∃t,u=eH i t from rx);obtain⟨t',rfl⟩:=(show ∃t',v=eH j t' from ry);exact PyProof.Rows.iadd_int ⟨.int (i+j),H,I.tok _,⟨_,rfl⟩,q⟩
end
section
variable {X:Cx}{ag:List (aj×aJ)}{σ:St}{H:Hp}{s:ao}{A:bn}{E:ai→ao→Prop}{Q:ai→ao→Prop}{c:ai}{b:Bool}
inductive pZ (K:am) (H:Hp):V→ai→Prop where
  |bR:pZ K H .bR (.type "NoneType")
  |bl (x:Bool):pZ K H (.bl x) (.type "bool")
  |int (i:Int):pZ K H (.int i) (.type "int")
  |str (x:ah):pZ K H (.str x) (.type "str")
  |flt (x:UInt64):pZ K H (.flt x) (.type "float")
  |bx {a:aj}{xs:List V}(e:H a=aa (.bx xs)):pZ K H (.ref a) (.type "list")
  |frz {a:aj}{o:aJ}{xs:List V}(e:H a=aa (.frz o (.bx xs))):pZ K H (.ref a) (.type "list")
  |bH {a:aj}{xs:List V}(e:H a=aa (.bH xs)):pZ K H (.ref a) (.type "tuple")
  |dK {a:aj}{dP:List (Key×V)}(e:H a=aa (.dK dP)):pZ K H (.ref a) (.type "dict")
  |dT {a:aj}{dP:List (List Key×V)}(e:H a=aa (.dT dP)):pZ K H (.ref a) (.type "dict")
  |ins {a C dx:aj}{fs:List (ah×V)}(e:H a=aa (.ins C dx fs)) (cl:rM K C) (ha:bZ K (.ref C) "__class__" =aa (aa (.builtin "object.__class__")))
      (hn:PySem.W.specialIn K (.builtin "object.__class__") "__get__" =aa (aa (.builtin "getset_descriptor.__get__"))) (htk:PySem.W.takesIn K (.builtin "object.__class__")=aa true)
      (hm:jV K C (.type "object")=aa true):pZ K H (.ref a) (.ref C)
def zsY (I:nA X ag σ H s) (rx:nH x u) (ty:pZ X.K H x t) (e:gz X.K t c=aa b) (h:∀tk,Q (.bool b) { s with toks:=tk }) :
  ax (aC X.prog X.w) A (call (.builtin "isinstance") [u,c]) Q E s:=by
 cases ty with
 |bR=>cases(show u=cV from rx);exact cY PySem.W.kitx_none I.kIn du e (λz=>nomatch z) h
 |bl y=>cases(show u=eX y from rx);exact cY PySem.W.kitx_bool I.kIn du e (λz=>nomatch z) h
 |int i=>obtain⟨t,q⟩:=(show ∃t,u=eH i t from rx);cases q;exact cY PySem.W.kitx_int I.kIn du e (λz=>nomatch z) h
 |str y=>obtain⟨t,q⟩:=(show ∃t,u=eE y t from rx);cases q;exact cY PySem.W.kitx_str I.kIn du e (λz=>nomatch z) h
 |flt y=>obtain⟨t,q⟩:=(show ∃t,u=jc y t from rx);cases q;exact cY PySem.W.kitx_float I.kIn du e (λz=>nomatch z) h
 | @bx a xs ea=>
  cases(show u=bj a from rx);obtain⟨_,_,n,_,h1⟩:=(show nZ X.prog X.w H s.heap a (.bx xs) from I.b6 a _ ea);exact cY md I.kIn ⟨_,h1,rfl⟩ e (λz=>nomatch z) h
 | @frz a ob xs ea=>
  cases(show u=bj a from rx);obtain⟨_,_,_,n,_,h1⟩:=(show nZ X.prog X.w H s.heap a (.frz ob (.bx xs)) from I.b6 a _ ea);exact cY md I.kIn ⟨_,h1,rfl⟩ e (λz=>nomatch z) h
 | @bH a xs ea=>
  cases(show u=bj a from rx);obtain⟨_,_,_,p⟩:=(show nZ X.prog X.w H s.heap a (.bH xs) from I.b6 a _ ea);obtain⟨o,h1,h2,_⟩:=p;exact cY PySem.W.kitx_tuple I.kIn ⟨o,h1,h2⟩ e (λz=>nomatch z) h
 | @dK a dP ea=>
  cases(show u=bj a from rx);obtain⟨_,_,vs,_,p⟩:=(show nZ X.prog X.w H s.heap a (.dK dP) from I.b6 a _ ea);obtain⟨o,es,ep,h1,h2,_⟩:=p;exact cY nw I.kIn ⟨o,h1,h2.1⟩ e (λz=>nomatch z) h
 | @dT a dP ea=>
  cases(show u=bj a from rx);obtain⟨_,_,xs,_,o,es,ep,h1,h2,_⟩:=(show nZ X.prog X.w H s.heap a (.dT dP) from I.b6 a _ ea);exact cY nw I.kIn ⟨o,h1,h2.1⟩ e (λz=>nomatch z) h
 | @ins a C dx fs ea cl ha hn htk hm=>
  cases(show u=bj a from rx);obtain⟨mA,O,_⟩:=DJ I.b6 ea;obtain⟨od,J,_⟩:=O.look;exact cY (PySem.W.kitx_own (cl.get _) cl.hd ha hn htk hm) I.kIn J e (λz=>nomatch z) h
end
structure oK (k:Nat) (A:bn):Prop where
  hd:A.handled=none
  dp:A.depth+3*k+5<recursionLimit
  un:A.units+16*k+200<cLine
def oK.mono (r:oK k A) (h:j≤k):oK j A:=⟨r.hd,by have:=r.dp;lia,by have:=r.un;lia⟩
def oK.deeper (r:oK (k+1) A) (env:bM):oK k (A.deeper env):=
 ⟨r.hd,by have:=r.dp;show A.depth+1+3*k+5<_;lia,by have:=r.un;show A.units+3+16*k+200<_;lia⟩
def Si{A:bn}{C:aj}{us:List ai}{kw:List (ah×ai)}:(A.under (.builtin "type.__call__" ⟨.ref C::us,kw⟩)).depth=A.depth+1:=by
 first |rfl |simp [ju,d7.au,d7.isCreation,d7.isGuard,d7.isCaller,d7.frames,kD,guardIds]
def YR{A:bn}{C:aj}{us:List ai}{kw:List (ah×ai)}:(A.under (.builtin "type.__call__" ⟨.ref C::us,kw⟩)).units=A.units+1:=by
 first |rfl |simp [ju,d7.cUnits,d7.frames,kD]
def oK.make (r:oK (k+1) A) (C:aj) (us:List ai) (kw:List (ah×ai)):oK k (A.under (.builtin "type.__call__" ⟨.ref C::us,kw⟩)):=
 ⟨r.hd,by have:=r.dp;rw[Si];lia,by have:=r.un;rw[YR];lia⟩
def oK.depth (r:oK k A):A.depth<recursionLimit:=by have:=r.dp;lia
def oK.units (r:oK k A):A.units+64<cLine:=by have:=r.un;lia
def Q5:TA:=λ_ H Q=>Q [] H
def zFU (ta:TE) (tr:TA):TA:=λσ H Q=>ta σ H λx H1=>tr σ H1 λxs H2=>Q (x::xs) H2
section
variable {X:Cx}{e:Expr}{es:List Expr}{te:TE}{t:TA}{pos:bi}
def pE:PA X [] Q5:=λ_ _ _ _ H Q I h=>lr ⟨[],H,I, .nil,h⟩
def uh (ha:PE X e te) (hr:PA X es t) (hs:ay (e::es) X.env=(false,aA e X.env)::ay es X.env):PA X (e::es) (zFU te t):=by
 intro pos ag s σ H Q I h;rw[hs];show ax _ _ (spliced ((false,aA e X.env)::aR pos (ay es X.env))) _ _ s;refine m7 (oj (ha ag s σ H _ I h) λu s1 zz=>oJ zz λx H1 I1 r1 q1=>?_);exact oj (hr pos ag s1 σ H1 _ I1 q1) λus s2 zz=>oJ zz λxs H2 I2 r2 q2=>⟨x::xs,H2,I2, .cons r1 r2,q2⟩
def Vh (t:TA):TE:=λσ H Q=>t σ H λxs H1=>xs.length≤sizeLine∧ ∀p,H1 p=none→Q (.ref p) (nY H1 p (.bH xs))
def zIs (t:TA):TE:=λσ H Q=>t σ H λxs H1=>xs.length≤sizeLine∧ ∀p,H1 p=none→Q (.ref p) (nY H1 p (.bx xs))
def QD{x1}(h:PA X es t):PE X (.Tuple es x1 pos) (Vh t):=by
 intro ag s σ H Q I hq;refine wpAny_Tuple_spliced (oj (h pos ag s σ H _ I hq) λus s1 zz=>oJ zz λxs H1 I1 r ⟨z,q⟩=>⟨by rw[←r.length];exact z,?_⟩);have hf:H1 s1.heap.objs.size=none:=I1.b6.fresh (aE _);refine⟨.ref s1.heap.objs.size,nY H1 s1.heap.objs.size (.bH xs),I1.laid (t':=s1.toks) (λb u e=>aN _ e) (aE _) ?_,rfl,q _ hf⟩;exact⟨z,us,r,⟨_,bG _ rfl,rfl,_,rfl⟩⟩
def zCS (h:PA X es t):PE X (.List es pos) (zIs t):=by
 intro ag s σ H Q I hq;refine wpAny_List_spliced (oj (h pos ag s σ H _ I hq) λus s1 zz=>oJ zz λxs H1 I1 r ⟨z,q⟩=>⟨by rw[←r.length];exact z,?_⟩);have hf:H1 s1.heap.objs.size=none:=I1.b6.fresh (aE _);refine⟨.ref s1.heap.objs.size,nY H1 s1.heap.objs.size (.bx xs),I1.laid (t':=s1.toks) (λb u e=>aN _ e) (aE _) ?_,rfl,q _ hf⟩;exact⟨z,us,0,r,bG _ rfl⟩
end
abbrev Sp:=List V→Hp→VK→XK→Prop
abbrev yO:=List bM→Hp→ao→XK→ai→ao→Prop
structure rB (P:aY) (w:aP) (K:am) (mg:ah→Option ai) (base:aH) (A:bn) (outer:List bM) (s:ao) (H:Hp):Prop where
  frames:A.frames=aa outer
  mod:Mod K mg base
  bs:∀b o,base.get? b=aa o→s.heap.get? b=aa o∧H b=none
  bsz:base.objs.size≤s.heap.objs.size
  funs:s.heap.FunFrames base outer
  frf:∀b∈frs outer,H b=none
  b6:ph P w H s.heap
  bare:cS s.gens
def CE (outer:List bM) (P:aY) (w:aP) (H:Hp) (s:ao) (Q:VK) (u:ai) (s':ao):Prop:=
 ∃v H',s'.os=s.os∧cS s'.gens∧Un (frs outer) [] H H' s.heap s'.heap∧ph P w H' s'.heap∧nH v u∧Q v H'
def CR (CX:yO) (outer:List bM) (P:aY) (w:aP) (H:Hp) (s:ao) (Q:VK) (E:XK) (r:hU) (s':ao):Prop:=
 match r with
 | .ok (.ret u)=>CE outer P w H s Q u s'
 | .ok _=>False
 | .error e=>CX outer H s E e s'
structure pe (P:aY) (w:aP) (K:am) (mg:ah→Option ai) (base:aH) (CX:yO) (k:Nat) (f:aj) (fd:cK) (ps:List ah) (sp:Sp):Prop where
  len:∀vs H Q E,sp vs H Q E→vs.length=ps.length
  run:∀(A:bn) (outer:List bM) (s:ao) (H:Hp) (args:Args) (us:List ai) (vs:List V) (Q:VK) (E:XK),oK k A→rB P w K mg base A outer s H→fI s fd args (ps.zip us)→nE vs us→sp vs H Q E→
    dD (aC P w) A (.call (.ref f) args) (CR CX outer P w H s Q E) s
def pe.mono{K:am}{mg:ah→Option ai}(F:pe P w K mg base CX j f fd ps sp) (h:j≤k) :
  pe P w K mg base CX k f fd ps sp:=⟨F.len,λA outer s H args us vs Q E hr=>F.run A outer s H args us vs Q E (hr.mono h)⟩
def rB.make{K:am}{mg:ah→Option ai}(e:rB P w K mg base A outer s H) (C:aj) (us:List ai) (kw:List (ah×ai)) :
  rB P w K mg base (A.under (.builtin "type.__call__" ⟨.ref C::us,kw⟩)) outer s H:=⟨by first |exact e.frames | (simpa [ju,d7.envs,kD,pushEnvs]using e.frames),e.mod,e.bs,e.bsz,e.funs,e.frf,e.b6,e.bare⟩
section
variable {X:Cx}{ag:List (aj×aJ)}{σ:St}{H:Hp}{s:ao}
def nA.env0 (I:nA X ag σ H s):rB X.prog X.w X.K X.mg X.base X.A X.stack s H:=
 ⟨I.ok.frames,I.ok.mod,I.bs,bI I.ok.bsz I.sz,I.stack,I.stkFree,I.b6,I.bare⟩
end
def pf (K:am) (fd:cK) (ps:List ah) (ds:List ai):Prop:=
 ∀(s:ao) (us:List ai),K.In s.heap→(us++ds).length=ps.length→fI s fd ⟨us,[]⟩ (ps.zip (us++ds))
def pf.all{K:am}(h:∀us:List ai,us.length=ps.length→kg fd ⟨us,[]⟩=pure (ps.zip us)):pf K fd ps []:=λs us _ hl=>by
 rw[bC]at hl⊢;exact .of_eq (h us hl)
section
variable {f C:aj}
structure Mk (K:am) (C f:aj):Prop where
  makes:gI K C=true
  init:bZ K (.ref C) "__init__" =aa (aa (.ref f))
  fn:gq K (.ref f)=true
  kp:cX K (.ref C)=true
end
structure qb (N P:List ah) (sc:Scope):Prop where
  kind:sc.kind= .function
  co:sc.isCoroutine=false
  gen:sc.isGenerator=false
  nd:N.Nodup
  pre:N.take P.length=P
  par:∀x∈P,sc.names.lookup x=aa .local∨sc.names.lookup x=aa .cell
  nofree:∀y∈sc.names,y.2≠ .free
theorem LN{kindOf:ah→Option ce}:∀{binds:List (ah×ai)}{m:ah→Option ai},(∀v,(x,v)∉binds)→dY kindOf binds m x=m x
 | [],_,_=>rfl
 | (n,v)::r,m,h=>by
  unfold dY;rw[LN λw hw=>h w (aI _ hw)];split
  ·have:x≠n:=by rintro rfl;exact h v aM
   simp [this]
  ·rfl
theorem Ql{kindOf:ah→Option ce}:∀{binds:List (ah×ai)}{m:ah→Option ai},(∀v,(x,v)∉binds)→dI kindOf binds m x=m x
 | [],_,_=>rfl
 | (n,v)::r,m,h=>by
  unfold dI;rw[Ql λw hw=>h w (aI _ hw)];split
  ·rfl
  ·have:x≠n:=by rintro rfl;exact h v aM
   simp [this]
theorem II{kindOf:ah→Option ce}:∀{P:List ah}{vs:List ai}{i:Nat}{m:ah→Option ai},P.Nodup→P[i]? =aa x→vs[i]? =aa v→kindOf x=aa .local→
  dY kindOf (P.zip vs) m x=aa v
 | [],_,_,_,_,h,_,_=>by simp at h
 |_::_,[],_,_,_,_,h,_=>by simp at h
 |p::P,w::vs,0,m,nd,h1,h2,hk=>by
  simp at h1 h2;subst h1;subst h2;show dY kindOf ((p,w)::P.zip vs) m p=_;unfold dY;rw[LN λv hv=>(eF.mp nd).1 (fY hv).1,if_pos hk];simp
 |p::P,w::vs,i+1,m,nd,h1,h2,hk=>by
  show dY kindOf ((p,w)::P.zip vs) m x=_;unfold dY;exact II (i:=i) (eF.mp nd).2 (by simpa using h1) (by simpa using h2) hk
theorem LI{kindOf:ah→Option ce}:∀{P:List ah}{vs:List ai}{i:Nat}{m:ah→Option ai},P.Nodup→P[i]? =aa x→vs[i]? =aa v→kindOf x≠aa .local→
  dI kindOf (P.zip vs) m x=aa v
 | [],_,_,_,_,h,_,_=>by simp at h
 |_::_,[],_,_,_,_,h,_=>by simp at h
 |p::P,w::vs,0,m,nd,h1,h2,hk=>by
  simp at h1 h2;subst h1;subst h2;show dI kindOf ((p,w)::P.zip vs) m p=_;unfold dI;rw[Ql λv hv=>(eF.mp nd).1 (fY hv).1,if_neg hk];simp
 |p::P,w::vs,i+1,m,nd,h1,h2,hk=>by
  show dI kindOf ((p,w)::P.zip vs) m x=_;unfold dI;exact LI (i:=i) (eF.mp nd).2 (by simpa using h1) (by simpa using h2) hk
noncomputable def start (N:List ah) (vs:List V):St:=vs.map aa++bf (N.length - vs.length) none
noncomputable def vX (CX:yO) (P:aY) (w:aP) (K:am) (mg:ah→Option ai) (base:aH) (N:List ah) (qual:ah) (scope:Scope) (f:aj) (cd:ai) (A:bn) (outer:List bM) (s:ao) (H:Hp) (E:XK):Cx where
  prog:=P
  w:=w
  K:=K
  mg:=mg
  base:=base
  A:=A.deeper (cQ qual scope s.heap.objs.size f cd)
  N:=N
  s₀:=s
  H₀:=H
  env:=cQ qual scope s.heap.objs.size f cd
  outer:=outer
  stack:=cQ qual scope s.heap.objs.size f cd::outer
  ex:=[]
  calm:=true
  fn:=λ_=>true
  pn:=[]
  xe:=λe s'=>ax (aC P w) (A.deeper (cQ qual scope s.heap.objs.size f cd)) (leaving (cQ qual scope s.heap.objs.size f cd) e) (λ_ s''=>CX outer H s E e s'') (λe' s''=>CX outer H s E e' s'') s'
def Ps{sc:Scope}{n:Nat}{x:ah}(h:sc.names.lookup x=aa .cell):∃c,(kf n sc.names []).lookup x=aa c:=by
 have q:=ln sc.names n [] (.inl h);exact eY.mp q
def XM{K:am}{mg:ah→Option ai} 
  (S:qb N ps scope) (hd:A.handled=none) (e0:rB P w K mg base A outer s H) (hl:vs.length=ps.length) (r:nE vs us)
  (x:InCallC s s.heap.objs.size (dY (cQ qual scope s.heap.objs.size f cd).kindOf (ps.zip us) λ_=>none) (kf (s.heap.objs.size+1) scope.names []) (dI (cQ qual scope s.heap.objs.size f cd).kindOf (ps.zip us) λ_=>none) s1) :
  nA (vX CX P w K mg base N qual scope f cd A outer s H E) [] (start N vs) H s1:=by
 have hpl:ps.length≤N.length:=by have:=congrArg dB S.pre;rw[dL]at this;lia
 obtain⟨h1,tk,rfl,hk⟩:=x.done;have noA:∀b:aj,b∉(vX CX P w K mg base N qual scope f cd A outer s H E).ex:=λb z=>absurd (show b∈([]:List aj) from z) `s;refine⟨⟨e0.mod,S.kind,rfl,rfl,aE _,λy z c h1 h2=>?_,λy hy=>?_,λy c _ h=>?_,λ_=>hd,bn.frames_deeper e0.frames, .inr ⟨rfl,rfl⟩,λb z=>absurd z (noA b),e0.bs,e0.bsz,λb _ _=>noA b,λb z=>absurd z (noA b),e0.funs,e0.frf⟩,
  rfl,e0.bare,Un.kept hk,⟨_,x.toInCall.ns,λi y v h1 h2 h3=>?_⟩,λy c h=>⟨_,x.cell y c h⟩,e0.b6.fresh (aE _),λy c h=>?_,λp hp=>absurd (show p∈([]:List (aj×aJ)) from hp) `s,e0.b6.kept hk,?_⟩
 ·exact name_of_addr x.apart (fL h1) (fL h2)
 ·have hy:scope.names.lookup y=aa .cell∨scope.names.lookup y=aa .free:=hy;obtain hy |hy:=hy
  ·exact Ps hy
  ·exact absurd rfl (S.nofree _ (fL hy))
 ·exact jW (x.above y c (fL h))
 ·have hi:i<vs.length:=by
   unfold start at h2;by_cases hi:i<vs.length
   ·exact hi
   ·rw[gU (by simpa using hi)]at h2;rw[kI]at h2;split at h2<;>cases h2
  have ha:vs[i]? =aa v:=by
   unfold start at h2;rw[mn (by simpa using hi),bK]at h2;cases e:vs[i]? with
   |none=>rw[e]at h2;cases h2
   |some a=>rw[e]at h2;cases h2;rfl
  obtain⟨u,hu,rv⟩:=r.get ha;have hp:ps[i]? =aa y:=by
   rw[←S.pre,List.getElem?_take_of_lt `l];exact h1
  have ndP:ps.Nodup:=by rw[←S.pre];exact S.nd.sublist (mM _ _)
  refine⟨u,rv,?_⟩;obtain k |k:=S.par y (bX hp)
  ·exact .inl ⟨k,II ndP hp hu k⟩
  ·obtain⟨c,e⟩:=Ps (n:=s.heap.objs.size+1) k;refine .inr ⟨.inl k,c,e,?_⟩;have q:=x.cell y c e;rw[LI ndP hp hu (by show scope.names.lookup y≠_;rw[k];decide)]at q;exact q
 ·exact e0.b6.fresh (jW (x.above y c (fL h)))
 ·unfold start;show _=N.length;rw[aW,aD,e_];lia
def K9{K:am}{mg:ah→Option ai}{dV kV doc pm cdv ct oc:ai} 
  (lk:K.lookup f=aa ⟨oc,od, .func (dC name qual params body scope dV kV doc pm an cdv ct),osl⟩) (hcd:gA K cdv qual=true) (S:qb N ps scope)
  (len:∀vs H Q E,sp vs H Q E→vs.length=ps.length)
  (hbody:∀(A:bn) (outer:List bM) (s:ao) (H:Hp) (vs:List V) (Q:VK) (E:XK),oK k (A.deeper (cQ qual scope s.heap.objs.size f cdv))→sp vs H Q E→
   ∃t,se (vX CX P w K mg base N qual scope f cdv A outer s H E) body t∧t { nx:=λ_ H'=>Q .bR H',rt:=Q } (start N vs) H) :
  pe P w K mg base CX (k+1) f (dC name qual params body scope dV kV doc pm an cdv ct) ps sp:=by
 refine⟨len,λA outer s H args us vs Q E hr e0 hb r hsp=>?_⟩;have hl:=len _ _ _ _ hsp;have KX:K.In s.heap:=e0.mod.kin.keeps λb o e=>(e0.bs b o e).1;have lim:s.heap.NoLimit:=e0.mod.nolimit.keeps λb o e=>(e0.bs b o e).1;have hkind:∀y∈ps.zip us,scope.names.lookup y.1=aa .local∨(scope.names.lookup y.1=aa .cell∧((kf (s.heap.objs.size+1) scope.names []).lookup y.1).isSome=true):=λ⟨n,v⟩ hy=>by
  obtain q |q:=S.par n (fY hy).1
  ·exact .inl q
  ·exact .inr ⟨q,ln _ _ _ (.inl q)⟩
 refine codeAny_call_function hr.depth (KX _ _ lk) rfl S.co S.gen rfl (PySem.W.codeRec_of KX hcd) (hb _ _ _ _ ?_);refine wpAny_newFunctionEnv_cells S.kind hkind λenv he s1 x=>?_;subst he;refine⟨lim.keeps x.toInCall.keep,codeAny_func ?_⟩;obtain⟨t,ht,hq⟩:=hbody A outer s H vs Q E (hr.deeper _) hsp;have I:nA (vX CX P w K mg base N qual scope f cdv A outer s H E) [] (start N vs) H s1:=XM S hr.hd e0 hl r x;refine cL (ht [] s1 (start N vs) H _ I hq) (λfl s' hs=>?_) λe s' hs=>hs;have fin:∀{σ':St}{H':Hp}{v:V}{u:ai},nA (vX CX P w K mg base N qual scope f cdv A outer s H E) [] σ' H' s'→nH v u→Q v H'→CE outer P w H s Q u s':=
  λ{σ' H' v u} J rv q=>⟨v,H',J.os,J.bare,J.base,J.b6,rv,q⟩
 cases fl with
 |ret u=>
  obtain⟨v,σ',H',J,rv,q⟩:=hs;exact fin J rv q
 |next=>
  obtain⟨σ',H',J,q⟩:=hs;exact fin (v:=V.bR) (u:=cV) J rfl q
 |brk=>
  obtain⟨_,_,_,q⟩:=hs;exact cp q
 |cont=>
  obtain⟨_,_,_,q⟩:=hs;exact cp q
section
variable {X:Cx}{x:ah}{p pos:bi}{e:Expr}{es:List Expr}{t:TA}{id T:String}{r:List V→Hp→VK→Prop}
def Kr (r:List V→Hp→VK→Prop) (t:TA):TE:=λσ H Q=>t σ H λvs H1=>r vs H1 Q
def GD (hc:oB X (.builtin id) r) (hg:Gl X x) (hm:X.mg x=none) (hv:cO x=aa (.builtin id)) (ha:PA X (e::es) t) (hn:x≠ "__name__") (hdb:(x == ("__debug__" :ah))=false)
  (he:ay (e::es) X.env=(false,aA e X.env)::ay es X.env) (hpl:(aR pos (ay es X.env)).any (·.1)=false):PE X (.Call (.Name x p) (e::es) [] pos) (Kr r t):=by
 intro ag s σ H Q I h;refine fV (wE I hg hm hv ?_ hn hdb);exact PyProof.Rows.callWith_builtin1 (oj (ha pos ag s σ H _ I h) λus s1 zz=>oJ zz λvs H1 I1 r1 q1=>hc ag s1 σ H1 vs us Q I1 r1 q1) he hpl
def E2 (hc:oB X (.type T) r) (hg:Gl X x) (hm:X.mg x=none) (hv:cO x=aa (.type T)) (ha:PA X (e::es) t) (hn:x≠ "__name__") (hdb:(x == ("__debug__" :ah))=false)
  (he:ay (e::es) X.env=(false,aA e X.env)::ay es X.env) (hpl:(aR pos (ay es X.env)).any (·.1)=false):PE X (.Call (.Name x p) (e::es) [] pos) (Kr r t):=by
 intro ag s σ H Q I h;refine fV (wE I hg hm hv ?_ hn hdb);exact fM (oj (ha pos ag s σ H _ I h) λus s1 zz=>oJ zz λvs H1 I1 r1 q1=>hc ag s1 σ H1 vs us Q I1 r1 q1) he hpl
end
end L2
namespace HT
open PySem PyProof.Rows
section
variable {prog:aY}{w:aP}{A:bn}{E:ai→ao→Prop}{s:ao}
def cat_tup{Q:ai→ao→Prop}(ht:fU s.heap t vs.toArray) (hb:fU s.heap b ws.toArray) (hv:vs≠ [])
  (h1:ws=[]→Q (.ref t) s) (h2:ws≠ []→Q (.ref s.heap.objs.size) { s with heap:=s.heap.push { cls:= .type "tuple",data:= .seq (vs++ws).toArray } })
  (hsz:vs.length+ws.length≤sizeLine):ax (aC prog w) A (ck .Add (.ref t) (.ref b)) Q E s:=by
 obtain⟨⟨cls,dd,data,sl⟩,ho,hc,n,hd⟩:=id ht;obtain⟨⟨cls2,dd2,data2,sl2⟩,ho2,hc2,n2,hd2⟩:=id hb;simp only at hc hd hc2 hd2;subst hc hd hc2 hd2;have e:vs.toArray++ws.toArray=(vs++ws).toArray:=by simp
 by_cases hw:ws=[]
 ·exact jk ⟨_,ho,rfl⟩ ⟨_,ho2,rfl⟩ jS j6 jZ jK (jO _ _)
   (tuple_addW1 t b vs.toArray ws.toArray n n2 dd dd2 sl sl2 (by simpa using hv) (by simp [hw])) ⟨ho,ho2,h1 hw⟩
 ·refine jk ⟨_,ho,rfl⟩ ⟨_,ho2,rfl⟩ jS j6 jZ jK (jO _ _)
   (tuple_addW2 t b vs.toArray ws.toArray n n2 dd dd2 sl sl2 (by simpa using hv) (by simpa using hw) (by rw[aV,aV];exact hsz)) ⟨ho,ho2,?_⟩
  rw[e];exact h2 hw
def sIx (n d:Nat):Option Int→Nat
 |none=>d
 |some v=>if v<0 then(v+(n:Int)).toNat else min v.toNat n
theorem sIx_none (n d:Nat):sIx n d none=d:=rfl
def sIx_nat (n d k:Nat):sIx n d (aa (k:Int))=min k n:=by
 show(if(k:Int)<0 then((k:Int)+(n:Int)).toNat else min (k:Int).toNat n)=min k n;rw[if_neg `l,cy]
def sIx_le (n d:Nat) (hd:d≤n) (o:Option Int):sIx n d o≤n:=by
 cases o with
 |none=>exact hd
 |some v=>
  show(if v<0 then(v+(n:Int)).toNat else min v.toNat n)≤n;by_cases hv:v<0
  ·rw[if_pos hv];lia
  ·rw[if_neg hv];exact Nat.min_le_right _ _
def KB (v:Int) (n d:Nat):(if v<0 then max (v+(n:Int)) 0 else min v (n:Int))=((sIx n d (aa v):Nat):Int):=by
 show(if v<0 then max (v+(n:Int)) 0 else min v (n:Int))=(((if v<0 then(v+(n:Int)).toNat else min v.toNat n):Nat):Int);by_cases hv:v<0
 ·simp only[if_pos hv];lia
 ·simp only[if_neg hv];lia
def R4 (lo hi:Option Int) (n:Nat):jN lo hi 1 (n:Int)=(((sIx n 0 lo:Nat):Int),((sIx n n hi:Nat):Int)):=by
 have h1:¬((1:Int)<0):=by lia
 unfold jN;simp only[h1,if_false];refine Prod.ext ?_ ?_
 ·cases lo with
  |none=>rfl
  |some v=>exact KB v n 0
 ·cases hi with
  |none=>rfl
  |some v=>exact KB v n n
def QL (i j:Nat):g_ (i:Int) (j:Int) 1=j - i:=by
 unfold g_;have h1:(1:Int) > 0:=by lia
 simp only[h1,if_true,Int.ediv_one];split<;>lia
def K7{Q:Option Int→ao→Prop}(p:dj v o) (h:Q o s):ax (aC prog w) A (cE.Slice.slicePartIndex v) Q E s:=by
 cases p with
 |none=>exact kL h
 |int i t=>exact slicePart_int h
def sliceApplied_gen{lo hi:Option Int}{Q:Int×Int×Nat→ao→Prop}(hs:s.heap.IsSliceOf sl vl vu .none) (pl:dj vl lo) (pu:dj vu hi)
  (h:Q (((sIx n 0 lo:Nat):Int),1,sIx n n hi - sIx n 0 lo) s):ax (aC prog w) A (mV (.ref sl) (pure (n:Int))) Q E s:=by
 obtain⟨os,hos,hcs,hds⟩:=id hs;unfold mV cE.Slice.sliceFields;refine av (av (bT hos hds (x:=vl) rfl (av (bT hos hds (x:=vu) rfl (av (bT hos hds (x:= .none) rfl (aK ?_)))))));refine av (kL ?_);show ax _ _ (if((1:Int) == 0)=true then _ else _) _ _ s;rw[if_neg `d];refine av (K7 pl (av (K7 pu (av (aK ?_)))));show ax _ _ (match jN lo hi 1 (n:Int) with | (lo,hi)=>pure (lo,(1:Int),g_ lo hi 1)) _ _ s;rw[R4 lo hi n];show ax _ _ (pure (((sIx n 0 lo:Nat):Int),(1:Int),g_ ((sIx n 0 lo:Nat):Int) ((sIx n n hi:Nat):Int) 1)) _ _ s;rw[QL];exact aK h
def Wg (xs:Array ai) (i k:Nat):((bt k).filterMap λ(m:Nat)=>xs[((i:Int)+(m:Int)*1).toNat]?).toArray=((xs.toList.drop i).take k).toArray:=by
 have e:(λ(m:Nat)=>xs[((i:Int)+(m:Int)*1).toNat]?)=λm=>xs[i+m]? :=by
  funext m;have:((i:Int)+(m:Int)*1).toNat=i+m:=by lia
  rw[this]
 rw[e];have:=iZ xs i k;rw[List.filterMap_map]at this;have e2:((λx=>xs[x]?)∘λx=>i+x)=λm=>xs[i+m]? :=rfl;rw[e2]at this;rw[this]
def getItem_tuple_cut{lo hi:Option Int}{Q:ai→ao→Prop}(ht:fU s.heap t items) (hs:s.heap.IsSliceOf sl vl vu .none) (pl:dj vl lo) (pu:dj vu hi)
  (hw:¬(sIx items.size 0 lo=0∧sIx items.size items.size hi=items.size))
  (h:Q (.ref s.heap.objs.size) { s with heap:=s.heap.push { cls:= .type "tuple",data:= .seq ((items.toList.drop (sIx items.size 0 lo)).take (sIx items.size items.size hi - sIx items.size 0 lo)).toArray } })
  (hsz:items.size≤sizeLine):ax (aC prog w) A (eU (.ref t) (.ref sl)) Q E s:=by
 have htake:sizeOk (.seq ((items.toList.drop (sIx items.size 0 lo)).take (sIx items.size items.size hi - sIx items.size 0 lo)).toArray):=by
  show((items.toList.drop (sIx items.size 0 lo)).take (sIx items.size items.size hi - sIx items.size 0 lo)).toArray.size≤sizeLine;rw[aV,dL,d_,jJ];lia
 have hj:sIx items.size items.size hi≤items.size:=sIx_le _ _ (aE _) hi;obtain⟨os,hos,hcs,hds⟩:=id hs;have hTs:s.TypeIs (.ref sl) "slice" :=⟨os,hos,hcs⟩;unfold eU
 try with_reducible refine eS ?_
 first |refine av (aK ?_) |skip
 refine av (mU ht.typeIs `d ?_);refine av (dU (name:=aq "__getitem__") ht.typeIs fH
  (dH fH ht.typeIs lx ?_ (my _ _)))
 show ax _ _ (m4 (.ref t) >>= _) _ _ s;refine av (tupleItemsOf_ ht ?_);refine av (gh hTs ?_);rw[if_pos `d];refine av (sliceApplied_gen hs pl pu ?_);have hno:¬((((sIx items.size 0 lo:Nat):Int) == 0&&(1:Int) == 1&&(sIx items.size items.size hi - sIx items.size 0 lo) == items.size)=true):=by
  intro q;rw[bV,bV]at q;have q1:((sIx items.size 0 lo:Nat):Int)=0:=gX q.1.1;have q2:sIx items.size items.size hi - sIx items.size 0 lo=items.size:=gX q.2;exact hw ⟨`l,`l⟩
 show ax _ _ (if(((sIx items.size 0 lo:Nat):Int) == 0&&(1:Int) == 1&&(sIx items.size items.size hi - sIx items.size 0 lo) == items.size)=true then _ else _) _ _ s;rw[if_neg hno,Wg]
 first
  |exact av (m:=iu _) (fv (aK ⟨_,rfl,aK h⟩) htake)
  |exact av (m:=iu _) (fv (av (aK (aK ⟨_,rfl,aK h⟩))) htake)
  |exact av (av (m:=iu _) (fv (aK (aK ⟨_,rfl,aK h⟩)) htake))
  |exact av (av (m:=iu _) (fv (aK ⟨_,rfl,aK h⟩) htake))
end
end HT
namespace L2
open PySem PySem.Spec PyProof.Rows
abbrev TO:=St→Hp→(Option Int→Hp→Prop)→Prop
def PO (X:Cx) (e:Option Expr) (t:TO):Prop:=
 ∀(ag:List (aj×aJ)) (s:ao) (σ:St) (H:Hp) (Q:Option Int→Hp→Prop),nA X ag σ H s→t σ H Q→
  ax (aC X.prog X.w) X.A (evalPart e X.env) (λu s'=>∃o H',nA X ag σ H' s'∧dj u o∧Q o H') X.xe s
def Ue:TO:=λ_ H Q=>Q none H
def zGg (t:TE):TO:=λσ H Q=>t σ H λx H1=>∃i,x= .int i∧Q (aa i) H1
section
variable {X:Cx}{e:Expr}{te:TE}{lo hi:Option Expr}{tl th:TO}{pos p2:bi}
def vC:PO X none Ue:=by
 intro ag s σ H Q I h;rw[evalPart_none];exact aK ⟨none,H,I, .none,h⟩
def Sw (h:PE X e te):PO X (aa e) (zGg te):=by
 intro ag s σ H Q I hw;rw[evalPart_some];refine oj (h ag s σ H _ I hw) λu s1 zz=>oJ zz λx H1 I1 r1 q1=>?_;obtain⟨i,rfl,q⟩:=q1;obtain⟨t,rfl⟩:=r1;exact⟨aa i,H1,I1, .int i t,q⟩
def vM (X:Cx) (r:V→Option Int→Option Int→Hp→VK→Prop):Prop:=
 ∀(ag:List (aj×aJ)) (s:ao) (σ:St) (H:Hp) (x:V) (v vl vu:ai) (lo hi:Option Int) (sl:aj) (Q:VK),nA X ag σ H s→nH x v→s.heap.IsSliceOf sl vl vu .none→dj vl lo→dj vu hi→r x lo hi H Q→
  ∃T id,jT (.type T) "__getitem__" =pure (aa (.builtin id))∧s.TypeIs v T∧ax (aC X.prog X.w) X.A (eU v (.ref sl)) (EP X ag σ Q) X.xe s
def vM.or{r r':V→Option Int→Option Int→Hp→VK→Prop}(h:vM X r) (h':vM X r'):vM X (λx lo hi H Q=>r x lo hi H Q∨r' x lo hi H Q):=by
 intro ag s σ H x v vl vu lo hi sl Q I rx hs pl pu q;obtain q |q:=q
 ·exact h ag s σ H x v vl vu lo hi sl Q I rx hs pl pu q
 ·exact h' ag s σ H x v vl vu lo hi sl Q I rx hs pl pu q
def W0 (r:V→Option Int→Option Int→Hp→VK→Prop) (te:TE) (tl th:TO):TE:=λσ H Q=>te σ H λx H1=>tl σ H1 λl H2=>th σ H2 λu H3=>r x l u H3 Q
def Lk{r:V→Option Int→Option Int→Hp→VK→Prop}(hr:vM X r) (he:PE X e te) (hl:PO X lo tl) (hu:PO X hi th):PE X (.Subscript e (.Slice lo hi none p2) pos) (W0 r te tl th):=by
 intro ag s σ H Q I h;refine Subscript_ (oj (he ag s σ H _ I h) λv s1 zz=>oJ zz λx H1 I1 r1 q1=>?_);refine wpAny_Slice (oj (hl ag s1 σ H1 _ I1 q1) λvl s2 zz=>oJ zz λl H2 I2 pl q2=>oj (hu ag s2 σ H2 _ I2 q2) λvu s3 zz=>oJ zz λu H3 I3 pu q3=>?_);rw[evalPart_none];refine aK ?_;have I4:nA X ag σ H3 { s3 with heap:=s3.heap.push { cls:= .type "slice",data:= .fields #[vl,vu, .none] } }:=I3.kept (t':=s3.toks) λb ob q=>aN _ q;obtain⟨T,id,hT,ht,hg⟩:=hr ag { s3 with heap:=s3.heap.push { cls:= .type "slice",data:= .fields #[vl,vu, .none] } } σ H3 x v vl vu l u s3.heap.objs.size Q I4 r1 (aH.IsSliceOf.new ..) pl pu q3;show ax (aC X.prog X.w) X.A (subscriptTail e (.Slice lo hi none p2) v (.ref s3.heap.objs.size)) (EP X ag σ Q) X.xe { s3 with heap:=s3.heap.push { cls:= .type "slice",data:= .fields #[vl,vu, .none] } };exact tail_any (ops:=[.ref s3.heap.objs.size,v]) ht hT hg (by with_unfolding_all rfl)
noncomputable def ul (xs:List V) (lo hi:Option Int):List V:=(xs.drop (HT.sIx xs.length 0 lo)).take (HT.sIx xs.length xs.length hi - HT.sIx xs.length 0 lo)
def Io (xs:List V) (lo hi:Option Int):(ul xs lo hi).length≤xs.length:=by
 unfold ul;rw[dL,d_];lia
def TF (K:am):V→Option Int→Option Int→Hp→VK→Prop:=λx lo hi H Q=>∃a xs,x= .ref a∧pV K H a xs∧
 ¬(HT.sIx xs.length 0 lo=0∧HT.sIx xs.length xs.length hi=xs.length)∧ ∀p,H p=none→Q (.ref p) (nY H p (.bH (ul xs lo hi)))
def XH:vM X (TF X.K):=by
 intro ag s σ H x v vl vu lo hi sl Q I rx hs pl pu h;obtain⟨a,xs,rfl,hx,hw,q⟩:=h;cases rx;obtain⟨c6,r,ht,hz⟩:=I.tuple hx;have hlen:c6.toArray.size=xs.length:=by rw[aV];exact r.length.symm
 refine⟨"tuple",_,fH.lookup,ht.typeIs,?_⟩;refine HT.getItem_tuple_cut ht hs pl pu (by rw[hlen];exact hw) ?_ (by rw[hlen];exact hz);rw[hlen];refine⟨.ref s.heap.objs.size,_,I.laid (t':=s.toks) (o:= .bH (ul xs lo hi)) (λb ob q=>aN _ q) (aE _) ?_,rfl,q _ (I.b6.fresh (aE _))⟩;exact⟨bI (Io xs lo hi) hz,_,(r.drop (HT.sIx xs.length 0 lo)).take (HT.sIx xs.length xs.length hi - HT.sIx xs.length 0 lo),iE _ _⟩
def Fa (K:am):R2:=λx y H Q=>∃a b xs ys,x= .ref a∧y= .ref b∧pV K H a xs∧pV K H b ys∧xs≠ []∧xs.length+ys.length≤sizeLine∧
 (ys=[]→Q (.ref a) H)∧(ys≠ []→ ∀p,H p=none→Q (.ref p) (nY H p (.bH (xs++ys))))
def nE.nil_iff (r:nE xs us):us=[]↔xs=[]:=by
 cases r with
 |nil=>simp
 |cons _ _=>simp
def vH:o8 X (ck .Add) (Fa X.K):=by
 intro ag s σ H x y v u Q I rx ry h;obtain⟨a,b,xs,ys,rfl,rfl,ha,hb,hx,hz,q1,q2⟩:=h;cases rx;cases ry;obtain⟨c6,r1,p1,_⟩:=I.tuple ha;obtain⟨its2,r2,p2,_⟩:=I.tuple hb;refine HT.cat_tup p1 p2 (λz=>hx (r1.nil_iff.mp z)) (λz=>⟨.ref a,H,I,rfl,q1 (r2.nil_iff.mp z)⟩) (λz=>?_) (by rw[←r1.length,←r2.length];exact hz);refine⟨.ref s.heap.objs.size,_,I.laid (t':=s.toks) (o:= .bH (xs++ys)) (λb ob q=>aN _ q) (aE _) ?_,rfl,q2 (λw=>z (r2.nil_iff.mpr w)) _ (I.b6.fresh (aE _))⟩;exact⟨by rw[aW];exact hz,_,r1.append r2,iE _ _⟩
end
def tj (n:Nat) (i:Int):Option Nat:=if 0≤i then(if i<n then aa i.toNat else none) else if -(n:Int)≤i then aa (i+n).toNat else none
noncomputable def ow {α:Type}(xs:List α) (i:Int):Option α:=(tj xs.length i).bind λj=>xs[j]?
def Mb (h:tj n i=aa j):seqIndex? i n=aa j∧j<n∧ -(n:Int)≤i∧i<n:=by
 unfold tj at h;by_cases h0:0≤i
 ·rw[if_pos h0]at h;by_cases h1:i<n
  ·rw[if_pos h1]at h;have e:i.toNat=j:=aL h;exact⟨by rw[kz h0 h1,e],`l,`l,h1⟩
  ·rw[if_neg h1]at h;cases h
 ·rw[if_neg h0]at h;by_cases h1: -(n:Int)≤i
  ·rw[if_pos h1]at h;have e:(i+n).toNat=j:=aL h;exact⟨by rw[iX `l h1,e],`l,h1,`l⟩
  ·rw[if_neg h1]at h;cases h
def G6{α:Type}{xs:List α}{i:Int}{v:α}(h:ow xs i=aa v):∃j,seqIndex? i xs.length=aa j∧xs[j]? =aa v∧j<xs.length∧ -(xs.length:Int)≤i∧i<xs.length:=by
 unfold ow at h;cases e:tj xs.length i with
 |none=>rw[e]at h;cases h
 |some j=>
  rw[e]at h;obtain⟨h1,h2,h3,h4⟩:=Mb e;exact⟨j,h1,h,h2,h3,h4⟩
def Rk{α:Type}{xs:List α}{j:Nat}{v:α}(h:xs[j]? =aa v):ow xs (j:Int)=aa v:=by
 have hj:j<xs.length:=(dq.mp h).1;have e:tj xs.length (j:Int)=aa j:=by
  unfold tj;rw[if_pos `l,if_pos `l];simp
 unfold ow;rw[e];exact h
def B0 (b:Expr):Prop:=∀o i,subscripted b false o i=operate [o,i] (eU o i)
def vt (X:Cx) (r:R2):Prop:=
 ∀(value slice:Expr) (ag:List (aj×aJ)) (s:ao) (σ:St) (H:Hp) (x y:V) (v u:ai) (Q:VK),nA X ag σ H s→nH x v→nH y u→r x y H Q→
  subscripted slice false v u=operate [v,u] (eU v u)→ax (aC X.prog X.w) X.A (subscriptTail value slice v u) (EP X ag σ Q) X.xe s
def tZ (X:Cx) (id:String) (r:V→List V→Hp→VK→Prop):Prop:=
 ∀(ag:List (aj×aJ)) (s:ao) (σ:St) (H:Hp) (x:V) (xs:List V) (v:ai) (us:List ai) (Q:VK),nA X ag σ H s→nH x v→nE xs us→r x xs H Q→
  ax (aC X.prog X.w) X.A (call (.builtin id) (v::us)) (EP X ag σ Q) X.xe s
section
variable {X:Cx}{a b:Expr}{ta tb:TE}{pos:bi}
def vt.or{r r':R2}(h:vt X r) (h':vt X r'):vt X (λx y H Q=>r x y H Q∨r' x y H Q):=by
 intro value slice ag s σ H x y v u Q I rx ry q hs;obtain q |q:=q
 ·exact h value slice ag s σ H x y v u Q I rx ry q hs
 ·exact h' value slice ag s σ H x y v u Q I rx ry q hs
def tZ.or{id:String}{r r':V→List V→Hp→VK→Prop}(h:tZ X id r) (h':tZ X id r'):tZ X id (λx xs H Q=>r x xs H Q∨r' x xs H Q):=by
 intro ag s σ H x xs v us Q I rx rs q;obtain q |q:=q
 ·exact h ag s σ H x xs v us Q I rx rs q
 ·exact h' ag s σ H x xs v us Q I rx rs q
def N1 (hr:vt X r) (ha:PE X a ta) (hb:PE X b tb) (hs:B0 b):PE X (.Subscript a b pos) (Df r ta tb):=by
 intro ag s σ H Q I h;exact Subscript_ (EA ha hb I h λv u s2 x y H2 I2 rx ry q=>hr a b ag s2 σ H2 x y v u Q I2 rx ry q (hs _ _))
def Od (K:am):R2:=λx y H Q=>∃p xs i v,x= .ref p∧y= .int i∧pJ K H p xs∧ow xs i=aa v∧Q v H
def NN (K:am):R2:=λx y H Q=>∃p xs i v,x= .ref p∧y= .int i∧pV K H p xs∧ow xs i=aa v∧Q v H
def KZ:R2:=λx y H Q=>∃z i c,x= .str z∧y= .int i∧z.length≤sizeLine∧ow z.cps.toList i=aa c∧Q (.str ⟨#[c]⟩) H
def vQ:vt X (Od X.K):=by
 intro value slice ag s σ H x y v u Q I rx ry h hs;obtain⟨p,xs,i,z,rfl,rfl,hq,he,q⟩:=h;cases rx;obtain⟨t,rfl⟩:=ry;obtain⟨c6,r,pl,hz⟩:=I.list hq;obtain⟨j,h1,h2,h3,h4,h5⟩:=G6 he;obtain⟨w,ew,rw'⟩:=r.get h2;have hl:=r.length;have hn:=xq;have fin:EP X ag σ Q w s:=⟨z,H,I,rw',q⟩;by_cases h0:0≤i
 ·have hj:i.toNat=j:=by
   rw[kz h0 h5]at h1;exact aL h1
  exact item_listR pl.isList h0 `l (by rw[hj];simpa using ew) fin hs
 ·have hj:(i+(c6.toArray.size:Int)).toNat=j:=by
   rw[iX `l h4]at h1;rw[aV,←hl];exact aL h1
  exact mo (x:=w) pl.isList.typeIs lP.lookup
   (wpAny_getItem_list_neg (Q:=λr s'=>r=w∧EP X ag σ Q r s') pl.isList `l (by rw[aV]<;>lia) `l (by rw[hj];simpa using ew) ⟨rfl,fin⟩) hs
def xo:vt X (NN X.K):=by
 intro value slice ag s σ H x y v u Q I rx ry h hs;obtain⟨p,xs,i,z,rfl,rfl,hq,he,q⟩:=h;cases rx;obtain⟨t,rfl⟩:=ry;obtain⟨c6,r,pl,hz⟩:=I.tuple hq;obtain⟨j,h1,h2,h3,h4,h5⟩:=G6 he;obtain⟨w,ew,rw'⟩:=r.get h2;have hl:=r.length;have hn:=xq;have fin:EP X ag σ Q w s:=⟨z,H,I,rw',q⟩;exact mo (x:=w) pl.typeIs slot_tuple_getitem.lookup
  (getItem_tuple (j:=j) (Q:=λr s'=>r=w∧EP X ag σ Q r s') pl `l `l (by rw[aV,←hl];exact h1) (by simpa using ew) ⟨rfl,fin⟩) hs
def R7:vt X KZ:=by
 intro value slice ag s σ H x y v u Q I rx ry h hs;obtain⟨z,i,c,rfl,rfl,hz,he,q⟩:=h;obtain⟨t,rfl⟩:=rx;obtain⟨t',rfl⟩:=ry;obtain⟨j,h1,h2,h3,h4,h5⟩:=G6 he;have hl:z.cps.toList.length=z.length:=by simp [cD]
 rw[hl]at h1 h4 h5;have hn:=xq;exact tail_any (jp s z t) slot_str_getitem.lookup (getItem_str (c:=c) (by
  have e1:decide (i< -(2 ^ 63:Int))=false:=decide_eq_false `l;have e2:decide (i≥2 ^ 63)=false:=decide_eq_false `l;rw[e1,e2,jo]) (by rw[h1];simpa using h2) ⟨.str ⟨#[c]⟩,H,I.tok _,⟨_,rfl⟩,q⟩) hs
def PX (K:am):R2:=λx y H Q=>Od K x y H Q∨NN K x y H Q∨KZ x y H Q
def Kj:vt X (PX X.K):=vQ.or (xo.or R7)
def RI (c6:List ai) (n j:Nat) (u:ai):fi (·.setIfInBounds j u) { cls:= .type "list",data:= .seq c6.toArray n }={ cls:= .type "list",data:= .seq (c6.set j u).toArray n }:=by
 simp [fi]
def nA.bx (I:nA X ag σ H s) (h:H p=aa (.bx xs)) :
  ∃(c6:List ai) (n:Nat),nE xs c6∧s.heap.get? p=aa { cls:= .type "list",data:= .seq c6.toArray n }∧xs.length≤sizeLine:=by
 obtain⟨z,c6,n,r,e⟩:=I.b6 p _ h;exact⟨c6,n,r,e,z⟩
def nA.lstUpd{ag:List (aj×aJ)}{σ:St}{H:Hp}{s:ao}{p:aj}{xs ys:List V}{c6 its':List ai}{n n':Nat}{f:aJ→aJ}(I:nA X ag σ H s) (h:H p=aa (.bx xs))
  (ho:s.heap.get? p=aa { cls:= .type "list",data:= .seq c6.toArray n }) (hf:f { cls:= .type "list",data:= .seq c6.toArray n }={ cls:= .type "list",data:= .seq its'.toArray n' }) (r:nE ys its') (hz:ys.length≤sizeLine) (t:Nat) :
  nA X ag σ (nY H p (.bx ys)) { s with heap:=s.heap.update p f,toks:=t }:=by
 have e:(s.heap.update p f).get? p=aa { cls:= .type "list",data:= .seq its'.toArray n' }:=by
  rw[kM f ho (by rw[hf]<;>rfl),hf]
 refine I.write (x:=p) (e:=p) (by rw[h];trivial) (.inl rfl) (λb u hb q=>(mK _ _ (bE hb)).trans q) ⟨_,e⟩ ?_;exact⟨hz,its',n',r,e⟩
def Vy:V→V→V→Hp→(Hp→Prop)→Prop:=λo i v H Q=>∃p xs k j,o= .ref p∧i= .int k∧H p=aa (.bx xs)∧tj xs.length k=aa j∧Q (nY H p (.bx (xs.set j v)))
def Vw:Pk X Vy:=by
 intro ag s σ H o i v ov iv u Q I ro ri rv h;obtain⟨p,xs,k,j,rfl,rfl,hp,hj,q⟩:=h;cases ro;obtain⟨t,rfl⟩:=ri;obtain⟨c6,n,r,ho,hz⟩:=I.bx hp;obtain⟨h1,h2,h3,h4⟩:=Mb hj;have hl:=r.length;have hn:=xq;have I':nA X ag σ (nY H p (.bx (xs.set j v))) { s with heap:=s.heap.update p (fi (·.setIfInBounds j u)) }:=
  I.lstUpd hp ho (RI c6 n j u) (r.set rv j) (by rw[List.length_set];exact hz) s.toks
 by_cases h0:0≤k
 ·have hk:k.toNat=j:=by
   rw[kz h0 h4]at h1;exact aL h1
  exact PySem.W.ki_setAt ho h0 `l (by rw[aV,←hl];exact h4) (by rw[hk];exact⟨_,I',q⟩)
 ·have hk:(k+(c6.toArray.size:Int)).toNat=j:=by
   rw[iX `l h3]at h1;rw[aV,←hl];exact aL h1
  exact PySem.W.ki_setBack ho `l (by rw[aV,←hl];exact h3) `l (by rw[hk];exact⟨_,I',q⟩)
def Xh (lo hi:Option Int) (n:Nat):(eK lo hi none n).1=((HT.sIx n 0 lo:Nat):Int)∧(eK lo hi none n).2.1=((HT.sIx n n hi:Nat):Int)∧(eK lo hi none n).2.2=1:=by
 refine⟨?_,?_,rfl⟩
 ·cases lo with
  |none=>simp [eK,HT.sIx]
  |some i=>
   simp only[eK,HT.sIx,mD,show(1:Int) > 0 by decide,if_true]
   by_cases h:i<0
   ·simp only[h,if_true]<;>lia
   ·simp only[h,if_false]<;>lia
 ·cases hi with
  |none=>simp [eK,HT.sIx]
  |some i=>
   simp only[eK,HT.sIx,mD,show(1:Int) > 0 by decide,if_true]
   by_cases h:i<0
   ·simp only[h,if_true]<;>lia
   ·simp only[h,if_false]<;>lia
def Yp (c6:List ai) (lo hi:Option Int):slicePick c6.toArray lo hi none=((c6.drop (HT.sIx c6.length 0 lo)).take (HT.sIx c6.length c6.length hi - HT.sIx c6.length 0 lo)).toArray:=by
 obtain⟨h1,h2,h3⟩:=Xh lo hi c6.toArray.size;unfold slicePick;rw[h1,h2,h3];simp only[j7,iZ,aV]<;>rfl
def zId (K:am):V→Option Int→Option Int→Hp→VK→Prop:=λx lo hi H Q=>∃a xs,x= .ref a∧pJ K H a xs∧ ∀p,H p=none→Q (.ref p) (nY H p (.bx (ul xs lo hi)))
def MG:vM X (zId X.K):=by
 intro ag s σ H x v vl vu lo hi sl Q I rx hs pl pu h;obtain⟨a,xs,rfl,hx,q⟩:=h;cases rx;obtain⟨c6,r,ht,hz⟩:=I.list hx;have hlen:=r.length;refine⟨"list",_,lP.lookup,ht.isList.typeIs,?_⟩;refine wpAny_getItem_list_slice ht.isList hs pl pu .none `s ?_ (by rw[aV]<;>lia);rw[Yp,←hlen];refine⟨.ref s.heap.objs.size,_,I.laid (t':=s.toks) (o:= .bx (ul xs lo hi)) (λb ob q=>aN _ q) (aE _) ?_,rfl,q _ (I.b6.fresh (aE _))⟩;exact⟨bI (Io xs lo hi) hz,_,0,(r.drop (HT.sIx xs.length 0 lo)).take (HT.sIx xs.length xs.length hi - HT.sIx xs.length 0 lo),bG _ rfl⟩
def rG:oB X (.builtin "len") (λxs H Q=>∃p ys,xs=[.ref p]∧(pJ X.K H p ys∨pV X.K H p ys)∧Q (.int ys.length) H):=by
 intro ag s σ H xs us Q I r h;obtain⟨p,ys,rfl,hq,q⟩:=h;obtain⟨u,rfl,rx⟩:=tJ r;cases rx;have hn:=xq;obtain hq |hq:=hq
 ·obtain⟨c6,r',pl,hz⟩:=I.list hq;have hlen:=r'.length;exact Calls.call_len_list pl.isList (by simp only[aV]<;>lia) ⟨.int ys.length,H,I.tok _,⟨s.toks+1,by rw[aV,hlen]⟩,q⟩
 ·obtain⟨c6,r',pl,hz⟩:=I.tuple hq;have hlen:=r'.length;exact len_tuple pl (by simp only[aV]<;>lia) ⟨.int ys.length,H,I.tok _,⟨s.toks+1,by rw[aV,hlen]⟩,q⟩
def zls:oB X (.builtin "len") (λxs H Q=>∃z,xs=[.str z]∧z.length≤sizeLine∧Q (.int z.length) H):=by
 intro ag s σ H xs us Q I r h;obtain⟨z,rfl,hz,q⟩:=h;obtain⟨u,rfl,t,rfl⟩:=tJ r;have hn:=xq;exact len_str `l ⟨.int z.length,H,I.tok _,⟨_,rfl⟩,q⟩
def oB.or{f:ai}{r r':List V→Hp→VK→Prop}(h:oB X f r) (h':oB X f r'):oB X f (λxs H Q=>r xs H Q∨r' xs H Q):=by
 intro ag s σ H xs us Q I rs q;obtain q |q:=q
 ·exact h ag s σ H xs us Q I rs q
 ·exact h' ag s σ H xs us Q I rs q
def QM:oB X (.type "list") (λxs H Q=>∃p ys,xs=[.ref p]∧(pJ X.K H p ys∨pV X.K H p ys)∧ ∀l,H l=none→Q (.ref l) (nY H l (.bx ys))):=by
 intro ag s σ H xs us Q I r h;obtain⟨p,ys,rfl,hq,q⟩:=h;obtain⟨u,rfl,rx⟩:=tJ r;cases rx;have fin:∀(c6:List ai),nE ys c6→ys.length≤sizeLine→ ∀(h':aH) (c':Nat),(∀b o',s.heap.get? b=aa o'→h'.get? b=aa o')→
   h'.get? s.heap.objs.size=aa { cls:= .type "list",dict:=none,data:= .seq c6.toArray c',slots:= #[] }→EP X ag σ Q (.ref s.heap.objs.size) { s with heap:=h' }:=λc6 r' hz h' c' kp e=>
  ⟨.ref s.heap.objs.size,_,I.laid (t':=s.toks) kp (aE _) (show nZ X.prog X.w _ h' _ (.bx ys) from⟨hz,c6,c',r',e⟩),rfl,q _ (I.b6.fresh (aE _))⟩
 obtain hq |hq:=hq
 ·obtain⟨c6,r',pl,hz⟩:=I.list hq;have hlen:=r'.length;obtain⟨o,ho,hc,n,hd⟩:=pl.isList;exact call_list_seq p (.inl rfl) ho hc hd (λh' c' kp e=>fin c6 r' hz h' c' kp e) (by simp only[aV]<;>lia)
 ·obtain⟨c6,r',pl,hz⟩:=I.tuple hq;have hlen:=r'.length;obtain⟨o,ho,hc,n,hd⟩:=pl;exact call_list_seq p (.inr rfl) ho hc hd (λh' c' kp e=>fin c6 r' hz h' c' kp e) (by simp only[aV]<;>lia)
def N7:oB X (.type "tuple") (λxs H Q=>∃p ys,xs=[.ref p]∧((pJ X.K H p ys∧ ∀l,H l=none→Q (.ref l) (nY H l (.bH ys)))∨(pV X.K H p ys∧Q (.ref p) H))):=by
 intro ag s σ H xs us Q I r h;obtain⟨p,ys,rfl,h⟩:=h;obtain⟨u,rfl,rx⟩:=tJ r;cases rx;obtain ⟨hq,q⟩ |⟨hq,q⟩:=h
 ·obtain⟨c6,r',pl,hz⟩:=I.list hq;have hlen:=r'.length;refine call_tuple_list pl.isList (λh' kp=>?_) (by simp only[aV]<;>lia);have I1:nA X ag σ H { s with heap:=h' }:=I.kept (t':=s.toks) kp;have I2:nA X ag σ (nY H h'.objs.size (.bH ys)) { s with heap:=h'.push { cls:= .type "tuple",data:= .seq c6.toArray } }:=
   I1.laid (t':=s.toks) (λb o e=>aN _ e) (aE _) (show nZ X.prog X.w _ _ _ (.bH ys) from⟨hz,c6,r',iE _ _⟩)
  exact⟨.ref h'.objs.size,_,I2,rfl,q _ (I1.b6.fresh (aE _))⟩
 ·obtain⟨c6,r',pl,hz⟩:=I.tuple hq;exact call_tuple_same pl ⟨.ref p,H,I,rfl,q⟩
def D7 (K:am) (T:String) (x:V) (H:Hp):Prop:=match x with
 | .str _=>T= "str"
 | .int _=>T= "int"
 | .ref p=>(T= "list" ∧ ∃xs,pJ K H p xs)∨(T= "tuple" ∧ ∃o,K.lookup p=aa o∧o.cls= .type "tuple" ∧o.dict=none)∨
   (T= "dict" ∧((∃dP,H p=aa (.dK dP))∨ ∃dP,H p=aa (.dT dP)))∨(T= "set" ∧ ∃S n,H p=aa (.set S n))
 |_=>False
def Iq (I:nA X ag σ H s) (r:nH x v) (ty:D7 X.K T x H) :
  s.TypeIs v T∧ ∀a,v= .ref a→ ∃ob,s.heap.get? a=aa ob∧ob.dict=none:=by
 cases x with
 |str z=>
  obtain⟨t,rfl⟩:=r;cases(show T= "str" from ty);exact⟨jp s z t,λ_ e=>nomatch e⟩
 |int i=>
  obtain⟨t,rfl⟩:=r;cases(show T= "int" from ty);exact⟨jn s i t,λ_ e=>nomatch e⟩
 |ref p=>
  cases r;obtain ⟨rfl,xs,hq⟩ |⟨rfl,o,hk,hc,hd⟩ |⟨rfl,hk⟩ |⟨rfl,S,n,hk⟩:=ty
  ·obtain⟨c6,_,pl,_⟩:=I.list hq;refine⟨pl.isList.typeIs,λa e=>?_⟩;cases e;obtain⟨o,n,e,c,hd,_⟩:=pl;exact⟨o,e,hd⟩
  ·refine⟨⟨o,I.kIn p o hk,hc⟩,λa e=>?_⟩;cases e;exact⟨o,I.kIn _ o hk,hd⟩
  ·have z:∃o,s.heap.get? p=aa o∧o.ExactDict:=by
    obtain ⟨dP,hk⟩ |⟨dP,hk⟩:=hk
    ·obtain⟨_,_,_,_,o,_,_,e,ex,_⟩:=I.b6 p _ hk;exact⟨o,e,ex⟩
    ·obtain⟨_,_,_,_,o,_,_,e,ex,_⟩:=I.b6 p _ hk;exact⟨o,e,ex⟩
   obtain⟨o,e,ex⟩:=z;refine⟨⟨o,e,ex.1⟩,λa e2=>?_⟩;cases e2;exact⟨o,e,ex.2.1⟩
  ·obtain⟨o,_,_,_,e,ex,_⟩:=I.b6 p _ hk;refine⟨⟨o,e,ex.1⟩,λa e2=>?_⟩;cases e2;exact⟨o,e,ex.2.1⟩
 |_=>exact cp ty
def QJ (K:am) (T:String) (r:V→List V→Hp→VK→Prop) (to:TE):TE:=λσ H Q=>to σ H λx H1=>D7 K T x H1∧r x [] H1 Q
def XX (K:am) (T:String) (r:V→List V→Hp→VK→Prop) (to:TE) (t:TA):TE:=λσ H Q=>to σ H λx H1=>D7 K T x H1∧t σ H1 λxs H2=>r x xs H2 Q
variable {o e:Expr}{es:List Expr}{to:TE}{t:TA}{name:ah}{apos cpos:bi}{T id:String}{r:V→List V→Hp→VK→Prop}
def T5 (pa:gC T) (slot:Slot T name id) (hty:gn (.builtin id)=pure (.type "method_descriptor")) (hm:tZ X id r) (ho:PE X o to)
  (hbase:ci o name X.env (aA o X.env)=aA o X.env) (hline:(apos.endLine == cpos.line)=true):PE X (.Call (.Attribute o name apos) [] [] cpos) (QJ X.K T r to):=by
 intro ag s σ H Q I h;refine wpAny_Call_method0_late hbase hline (oj (ho ag s σ H _ I h) λv s1 zz=>oJ zz λx H1 I1 r1 ⟨ty,q1⟩=>?_);obtain⟨h1,h2⟩:=Iq I1 r1 ty;exact⟨T,id,pa,slot,hty,h1,h2,k_ rfl (PySem.evalArgs_none (hm ag s1 σ H1 x [] v [] Q I1 r1 .nil q1))⟩
def MH (pa:gC T) (slot:Slot T name id) (hty:gn (.builtin id)=pure (.type "method_descriptor")) (hm:tZ X id r) (ho:PE X o to) (ha:PA X (e::es) t)
  (hbase:ci o name X.env (aA o X.env)=aA o X.env)
  (hfew:((aR cpos (ay (e::es) X.env)).all (λx=> !x.1)&&(cM cpos (cN [] X.env)).all (λx=>x.1.isSome)
   &&decide ((e::es).length+([]:List b9).length+(if([]:List b9).isEmpty then 0 else 1)<30))=true)
  (hline:(apos.endLine == cpos.line)=true) (hs:ay (e::es) X.env=(false,aA e X.env)::ay es X.env) (hplain:(aR cpos (ay es X.env)).any (·.1)=false) :
  PE X (.Call (.Attribute o name apos) (e::es) [] cpos) (XX X.K T r to t):=by
 intro ag s σ H Q I h;refine wpAny_Call_method_late hbase hfew hline rfl (oj (ho ag s σ H _ I h) λv s1 zz=>oJ zz λx H1 I1 r1 ⟨ty,q1⟩=>?_);obtain⟨h1,h2⟩:=Iq I1 r1 ty;refine⟨T,id,pa,slot,hty,h1,h2,?_⟩;have hA:=ha cpos ag s1 σ H1 _ I1 q1;rw[hs]at hA⊢;refine k_ (by show(false || (aR cpos (ay es X.env)).any (·.1))=false;rw[hplain]<;>rfl) (lj ?_)
 exact oj hA λus s2 zz=>oJ zz λvs H2 I2 r2 q2=>hm ag s2 σ H2 x vs v us Q I2 r1 r2 q2
end
def zQ (X:Cx) (id:String) (r:V→List V→Hp→VK→Prop):Prop:=
 ∀(ag:List (aj×aJ)) (s:ao) (σ:St) (H:Hp) (x:V) (xs:List V) (v:ai) (us:List ai) (Q:VK),nA X ag σ H s→nH x v→nE xs us→r x xs H Q→
  ax (aC X.prog X.w) X.A (call (.builtin id) (v::us)) (EP X ag σ Q) X.xe s
def nE.one:∀{x:V}{us:List ai},nE [x] us→ ∃u,us=[u]∧nH x u:=λ{x us} h=>by
 cases h with
 |cons r t=>cases t;exact⟨_,rfl,r⟩
theorem nE.zero:∀{us:List ai},nE [] us→us=[]
 |_, .nil=>rfl
def nE.dropLast (h:nE xs us):nE xs.dropLast us.dropLast:=by
 induction h with
 |nil=>exact .nil
 |cons r t ih=>
  cases t with
  |nil=>exact .nil
  |cons q t'=>exact .cons r ih
theorem nE.rep (h:nE xs us):∀k:Nat,nE (bf k xs).flatten (bf k us).flatten
 |0=> .nil
 |k+1=>by
  rw[c7,c7,eI,eI];exact nE.append h (nE.rep h k)
def Tq{α:Type}(l:List α):l.eraseIdx (l.length - 1)=l.dropLast:=by
 induction l with
 |nil=>rfl
 |cons a r ih=>
  cases r with
  |nil=>rfl
  |cons b r=>
   have e:(a::b::r).length - 1=((b::r).length - 1)+1:=by
    have h1:(a::b::r).length=r.length+2:=rfl;have h2:(b::r).length=r.length+1:=rfl;lia
   rw[e,List.eraseIdx_cons_succ,ih]
   all_goals rfl
theorem N_ (c6:List ai):∀(k:Nat) (acc:List ai),
  j_ (λx1 x2=>x1++x2) acc.toArray (bf k c6.toArray)=(acc++(bf k c6).flatten).toArray
 |0,acc=>by simp
 |k+1,acc=>by
  have e:acc.toArray++c6.toArray=(acc++c6).toArray:=by simp
  have e2:(acc++c6)++(bf k c6).flatten=acc++(bf (k+1) c6).flatten:=by
   rw[c7,eI,b7]
  rw[←e2,←N_ c6 k (acc++c6),←e,c7,fK]
section
variable {X:Cx}{ag:List (aj×aJ)}{σ:St}{H:Hp}{s:ao}{l:aj}{xs ys:List V}
def nA.lset{c6 its':List ai}{n:Nat}{f:Array ai→Array ai}{t':Nat}(I:nA X ag σ H s) (hH:H l=aa (.bx xs))
  (e:s.heap.get? l=aa { cls:= .type "list",data:= .seq c6.toArray n }) (hf:f c6.toArray=its'.toArray) (hv:nE ys its') (hz:ys.length≤sizeLine) :
  nA X ag σ (nY H l (.bx ys)) { s with heap:=s.heap.update l (fi f),toks:=t' }:=by
 have q:=PySem.IsL.update e f;rw[hf]at q;refine I.write (x:=l) (e:=l) (by rw[hH];exact trivial) (.inl rfl) (λb' u hb hu=>(mK s.heap (fi f) (bE hb)).trans hu) ⟨_,q⟩ ?_;exact⟨hz,its',_,hv,q⟩
def nA.lnew{t':Nat}(I:nA X ag σ H s) (hv:nE ys c6) (hz:ys.length≤sizeLine) :
  nA X ag σ (nY H s.heap.objs.size (.bx ys)) { s with heap:=s.heap.push { cls:= .type "list",data:= .seq c6.toArray },toks:=t' }:=
 I.laid (λ_ _ q=>aN _ q) (aE _) ⟨hz,c6,0,hv,bG _ rfl⟩
def nA.fresh (I:nA X ag σ H s):H s.heap.objs.size=none:=I.b6.fresh (aE _)
def nA.lstM (I:nA X ag σ H s) (hH:H l=aa (.bx xs)):xs.length≤sizeLine∧ ∃(c6:List ai) (n:Nat),nE xs c6∧xs.length=c6.length∧s.heap.get? l=aa { cls:= .type "list",data:= .seq c6.toArray n }:=by
 obtain⟨z,c6,n,r,e⟩:=I.b6 l _ hH;exact⟨z,c6,n,r,r.length,e⟩
def GI (h:n≤sizeLine):fR n=false:=by
 unfold fR;exact decide_eq_false `l
end
section
variable {X:Cx}
def Kf:V→List V→Hp→VK→Prop:=λx vs H Q=>∃l xs y,x= .ref l∧vs=[y]∧H l=aa (.bx xs)∧xs.length<sizeLine∧Q .bR (nY H l (.bx (xs++[y])))
def J_:zQ X "list.append" Kf:=by
 intro ag s σ H x vs v us Q I rx rv h;obtain⟨l,xs,y,rfl,rfl,hH,hz,q⟩:=h;cases rx;obtain⟨u,rfl,ru⟩:=rv.one;obtain⟨z,c6,n,r,hl,e⟩:=I.lstM hH;refine ef F.slot_list_append ⟨_,e,rfl⟩ F.entry_list_append (F.args_list_append_2 _ _) (PySem.list_append l c6.toArray n u (by rw[aV];lia)) ⟨e,?_⟩;refine⟨.bR,_,I.lset (its':=c6++[u]) hH e `s (r.append (.cons ru .nil)) ?_,rfl,q⟩;rw[aW,cj];lia
def M7:V→List V→Hp→VK→Prop:=λx vs H Q=>∃l b xs zs,x= .ref l∧vs=[.ref b]∧H l=aa (.bx xs)∧H b=aa (.bx zs)∧xs.length+zs.length≤sizeLine∧Q .bR (nY H l (.bx (xs++zs)))
def VH:zQ X "list.extend" M7:=by
 intro ag s σ H x vs v us Q I rx rv h;obtain⟨l,b,xs,zs,rfl,rfl,hH,hB,hz,q⟩:=h;cases rx;obtain⟨u,rfl,ru⟩:=rv.one;cases ru;obtain⟨z,c6,n,r,hl,e⟩:=I.lstM hH;obtain⟨z2,its2,n2,r2,hl2,e2⟩:=I.lstM hB;have hsz:c6.toArray.size+its2.toArray.size≤sizeLine:=by rw[aV,aV];lia
 have hlong:¬(!c6.toArray.isEmpty&&fR (c6.toArray.size+its2.toArray.size))=true:=by
  rw[GI hsz,eO];exact dy
 refine ef lq ⟨_,e,rfl⟩ lU (mZ _ _)
  (AutoSeq1.list_extend_list_list_0 l c6.toArray n b its2.toArray n2 hlong (by rw[aV];lia) `l) ⟨e,e2,?_⟩
 refine⟨.bR,_,I.lset (its':=c6++its2) hH e `s (r.append r2) ?_,rfl,q⟩;rw[aW];lia
def Mx:V→List V→Hp→VK→Prop:=λx vs H Q=>∃l xs y,x= .ref l∧vs=[]∧H l=aa (.bx xs)∧xs[xs.length - 1]? =aa y∧Q y (nY H l (.bx xs.dropLast))
def Rl:zQ X "list.pop" Mx:=by
 intro ag s σ H x vs v us Q I rx rv h;obtain⟨l,xs,y,rfl,rfl,hH,hy,q⟩:=h;cases rx;have hus:=rv.zero;subst hus;obtain⟨z,c6,n,r,hl,e⟩:=I.lstM hH;obtain⟨u,hu,ru⟩:=r.get hy;have hy':c6.toArray[c6.toArray.size - 1]? =aa u:=by
  show c6.toArray[c6.length - 1]? =aa u;rw[←Array.getElem?_toList,←hl];exact hu
 refine ef F.slot_list_pop ⟨_,e,rfl⟩ F.entry_list_pop (F.args_list_pop_1 _) (MeetsSeq.list_pop_last l c6.toArray n u hy' (by rw[aV];lia)) ⟨e,?_⟩;refine⟨y,_,I.lset (its':=c6.dropLast) hH e ?_ r.dropLast ?_,ru,q⟩
 ·show c6.toArray.eraseIdxIfInBounds (c6.toArray.size - 1)=c6.dropLast.toArray;rw[aV,List.eraseIdxIfInBounds_toArray,Tq]
 ·rw[List.length_dropLast];lia
def FY:R2:=λx y H Q=>∃l b xs zs,x= .ref l∧y= .ref b∧H l=aa (.bx xs)∧H b=aa (.bx zs)∧xs.length+zs.length≤sizeLine∧ ∀p,H p=none→Q (.ref p) (nY H p (.bx (xs++zs)))
def CP:o8 X (ck .Add) FY:=by
 intro ag s σ H x y v u Q I rx ry h;obtain⟨l,b,xs,zs,rfl,rfl,hH,hB,hz,q⟩:=h;cases rx;cases ry;obtain⟨z,c6,n,r,hl,e⟩:=I.lstM hH;obtain⟨z2,its2,n2,r2,hl2,e2⟩:=I.lstM hB;refine PySem.P.add_list e e2 ?_ (by rw[aV,aV];lia);have ea:c6.toArray++its2.toArray=(c6++its2).toArray:=by simp
 rw[ea];exact⟨.ref _,_,I.lnew (t':=s.toks) (r.append r2) (by rw[aW];lia),rfl,q _ I.fresh⟩
def RJ:R2:=λx y H Q=>∃l k xs,x= .ref l∧y= .int k∧H l=aa (.bx xs)∧ -(2 ^ 63)≤k∧k<2 ^ 63∧xs.length*k.toNat≤sizeLine∧
 ∀p,H p=none→Q (.ref p) (nY H p (.bx (bf k.toNat xs).flatten))
def zyp{α:Type}(xs:List α) (k:Nat):(bf k xs).flatten.length=k*xs.length:=by
 induction k with
 |zero=>simp
 |succ k ih=>rw[c7,eI,aW,ih,Nat.succ_mul,fW]
def zEI:o8 X (ck .Mult) RJ:=by
 intro ag s σ H x y v u Q I rx ry h;obtain⟨l,k,xs,rfl,rfl,hH,h1,h2,hz,q⟩:=h;cases rx;obtain⟨t,rfl⟩:=ry;obtain⟨z,c6,n,r,hl,e⟩:=I.lstM hH;have hlen:c6.toArray.size*k.toNat≤sizeLine:=by rw[aV,←hl];exact hz
 have hcap:¬c6.toArray.size*k.toNat > (2 ^ 63 - 1) / 8:=by
  have:(sizeLine:Nat)≤(2 ^ 63 - 1) / 8:=by decide
  lia
 have hfit:¬(!Builtin.List.listFitsIndex k)=true:=by
  rw[fitsIndex_both h1 h2];exact dy
 have hlong:¬fR (c6.toArray.size*k.toNat)=true:=by
  rw[GI hlen];exact dy
 have hnew:j_ (λx1 x2=>x1++x2) #[] (bf (if c6.toArray.isEmpty=true then 0 else k.toNat) c6.toArray)=(bf k.toNat c6).flatten.toArray:=by
  have f0:∀m:Nat,j_ (λx1 x2=>x1++x2) #[] (bf m c6.toArray)=(bf m c6).flatten.toArray:=λm=>by
   have:=N_ c6 m [];rw[aQ]at this;exact this
  rw[f0];cases c6 with
  |nil=>simp
  |cons a r'=>rw[if_neg `s]
 refine wpAny_binaryOp_repeat_ref (T:= "list") (U:= "int") `d ⟨_,e,rfl⟩ (λs'=>jn s' k t) noFill_list_mul F.fills_int_mul kS repeat_list F.slot_int_index.lookup
  (ef kS (jn s k t) F.entry_int_rmul (F.args_int_rmul_2 _ _) (int___rmul___int_list k t l c6.toArray n)
   ⟨e,rfl,⟨_,e,rfl⟩,ef F.slot_list_mul ⟨_,e,rfl⟩ F.entry_list_mul (F.args_list_mul_2 _ _) (AutoListH.list___mul___list_int_3 l c6.toArray n k t hfit hcap hlong) ⟨e,?_⟩⟩)
 rw[hnew];exact⟨.ref _,_,I.lnew (t':=s.toks) (r.rep k.toNat) (by rw[zyp,Nat.mul_comm];exact hz),rfl,q _ I.fresh⟩
end
end L2
namespace Att
open PySem PySem.W PySem.Calls PyProof.Rows
def UW:∀(ns:List Int) (vs:List ai),WellAll P h vs (ns.map WData.int)→gE vs ns:=by
 intro ns
 induction ns with
 |nil=>
  intro vs w;rw[dv]at w;cases w;exact .nil
 |cons n ns ih=>
  intro vs w;rw[aG]at w;cases w with
  |cons a b=>
   cases a;exact .cons _ _ (ih _ b)
def Yg{l:OpenLaw}{n:Nat}(hn:l.most=aa n) {P:Params}{h:aH}{args:List WData}{vals:List ai}
  (hpre:l.row.toRowW.claim.pre args=true) (hwl:WellAll P h vals args) :
  ∃a vs ns,vals=[bj a]∧args=[WData.list (ns.map WData.int)]∧h.get? a=aa { cls:= .type "list",data:= .seq vs.toArray }∧gE vs ns∧ns.length≤n:=by
 have hsh:WShape.hasAll [] args [.list .int]=true:=(pre_splitW hpre).1;have hc:l.pre.holds [] { args:=args }=true:=(pre_splitW hpre).2;obtain⟨d,r,rfl,h1,h2⟩:=hasAllW_cons hsh;obtain rfl:=hasAllW_nil h2;obtain⟨xs,rfl,h3⟩:=hasW_list h1;obtain⟨ns,rfl⟩:=items_int h3;have hlen:ns.length≤n:=by
  unfold OpenLaw.pre at hc;have h4:(WTm.not (.lt (.lit (.int (n:Int))) (.len (.arg 0)))).holds [] { args:=[.list (ns.map .int)] }=true:=by
   have h4:=(holds_andW hc).1;rw[hn]at h4;exact h4
  have h5:=condW_of h4 (w_not (w_lt w_lit (w_len_list (w_arg rfl))));rw[aD]at h5;refine mC λq=>?_;have q':(n:Int)<((ns.length:Nat):Int):=by lia
  first
   | (rw[decide_eq_true q']at h5;exact absurd h5 `d)
   | (simp at h5;lia)
 cases hwl with
 |cons w1 w2=>
  cases w2;cases w1 with
  |list ho hall=>exact⟨_,_,ns,rfl,rfl,ho,UW ns _ hall,hlen⟩
def zqX (l:OpenLaw) (args:List WData):l.row.toRowW.claim.post args (.bool true) args=true:=
 postW_of (r:=l.row.toRowW) (X:=(true == true))
  (show WShape.has [] (.bool true) .bool=true by first |rfl |decide |simp [WShape.has,WShape.arms,WShape.armsAll])
  (show(WTm.eq .res (.lit (.bool true))).value [] { args:=args,res:=aa (.bool true),after:=args }=aa (.bool (true == true)) from w_eq_bool (w_res rfl) w_lit) rfl
def attach_call{l:OpenLaw}{n:Nat}{q:aY}{loose:List ah}{XP:(ah→Option ai)→aH→Prop}{YP:aP→aH→Prop}{d:DefRec}
  (hn:l.most=aa n) (hdf:d.params.defaults=[])
  (call:∀(w:aP) (s₀ s₁:ao) (mg mb:ah→Option ai) (fa:aj) (o:aJ) (pm cd doc:ai) (a:aj) (vs:List ai) (ns:List Int),
   Ground q loose [] XP w s₀ mg mb s₁.heap→YP w s₁.heap→
   s₁.heap.get? fa=aa o→o.data= .func (docDef d.name d.params d.body d.scope pm cd doc)→s₁.heap.CodeRec cd d.name→mg d.name=aa (.ref fa)→
   s₁.heap.get? a=aa { cls:= .type "list",data:= .seq vs.toArray }→gE vs ns→ns.length≤n→s₁.gens= #[]→
   dD (aC l.prog w) eD (.call (.ref fa) ⟨[.ref a],[]⟩) (λr s'=>r= .ok (.ret (.bool true))∧OldK s₁.heap s'.heap∧s'.os=s₁.os∧cS s'.gens) s₁) :
  WalkO q loose XP YP l.row.toRowW d [] (λf vs=>i0 f vs):=by
 intro w s₀ s₁ mg mb G Y fa o pm cd doc dV kV ho hd hcd hD hmg hg args vals as hpre hlay hrd hwl hlo;obtain rfl:dV= .none:=Dflts.none hD hdf;obtain rfl:kV= .none:=Dflts.noKw hD;obtain⟨a,vs,ns,rfl,rfl,hobj,hints,hlen⟩:=Yg hn hpre hwl;refine enter_call (iD (call w s₀ s₁ mg mb fa o pm cd doc a vs ns G Y ho (fd_plain hd) hcd hmg hobj hints hlen hg) λr s' hq=>?_);obtain⟨rfl,h2,h3,h4⟩:=hq;exact⟨.inl ⟨.bool true, .bool true,[],rfl,λ_=>rfl, .bool true,zqX l _,λ_=>⟨kT.nil,λ_ hm=>(nomatch hm)⟩⟩,h2,h3,h4⟩
end Att
namespace L2
open PySem PySem.Spec PyProof.Rows
def Xw:∀{vs:List ai}{ns:List Int},gE vs ns→nE (ns.map V.int) vs:=λ{vs ns} h=>by
 induction h with
 |nil=>exact .nil
 |cons n t _ ih=>exact .cons ⟨t,rfl⟩ ih
def Cz (H:Hp):Prop:=∀b,H b=none∨ ∃o xs,H b=aa (.frz o (.bx xs))
def Ur{K:am}{mg mb:ah→Option ai} 
  (KX:K.In s₁.heap) (hns:s₁.heap.Ns aO mg) (hb:s₁.heap.Ns jA mb) (hbb:∀x:ah,x≠ "__name__" →mb x=cO x) (hlim:s₁.heap.NoLimit) (hg:s₁.gens= #[])
  (ha:s₁.heap.get? a=aa { cls:= .type "list",data:= .seq vs.toArray }) (hi:gE vs ns) (hl:ns.length≤sizeLine) (hr:oK k eD)
  (F:∀base:aH,K.In base→base.Ns aO mg→pe P w K mg base CX k fa fd [x] sp) (hbind:∀(s:ao) (u:ai),fI s fd ⟨[u],[]⟩ [(x,u)])
  (hsp:∀H:Hp,Cz H→pJ K H a (ns.map V.int)→sp [.ref a] H (λv _=>v= .bl true) λ_ _ _=>False)
  (hCX:∀H e s',CX [] H s₁ (λ_ _ _=>False) e s'→False) :
  dD (aC P w) eD (.call (.ref fa) ⟨[.ref a],[]⟩) (λr s'=>r= .ok (.ret (.bool true))∧OldK s₁.heap s'.heap∧s'.os=s₁.os∧cS s'.gens) s₁:=by
 have rv:=Xw hi;have lenV:=hi.length;have core:∀H:Hp,Cz H→pJ K H a (ns.map V.int)→ph P w H s₁.heap→(∀b,H b≠none→b=a)→(H a≠none→K.lookup a=none)→
   dD (aC P w) eD (.call (.ref fa) ⟨[.ref a],[]⟩) (λr s'=>r= .ok (.ret (.bool true))∧OldK s₁.heap s'.heap∧s'.os=s₁.os∧cS s'.gens) s₁:=by
  intro H hO hS b6 hA hK;have base_of:∀{b:aj}{o:aJ},s₁.heap.get? b=aa o→H b=none→(vk s₁.heap H).get? b=aa o:=λe n=>YN e n;have noA:∀{b:aj}{o:aJ}{es:Array jU}{ep:Nat},s₁.heap.get? b=aa o→o.data= .dict es ep→H b=none:=λ{b o es ep} e d=>by
   cases q:H b with
   |none=>rfl
   |some u=>
    have e':b=a:=hA b (by rw[q];simp);subst e';rw[ha]at e;cases e;have d':Data.seq vs.toArray _=Data.dict es ep:=d;cases d'
  have nsK:∀{b:aj}{m:ah→Option ai},s₁.heap.Ns b m→(vk s₁.heap H).Ns b m:=λ{b m} ⟨o,es,ep,e,d,r⟩=>⟨o,es,ep,base_of e (noA e d),d,r⟩;have hKb:K.In (vk s₁.heap H):=λb o e=>base_of (KX b o e) (by
   cases q:H b with
   |none=>rfl
   |some u=>
    have e':b=a:=hA b (by rw[q];simp);subst e';rw[hK (by rw[q];simp)]at e;cases e)
  have hM:Mod K mg (vk s₁.heap H):=⟨hKb,nsK hns,⟨mb,nsK hb,hbb⟩,let ⟨mc,h1,h2⟩:=hlim;⟨mc,nsK h1,h2⟩⟩;have e0:rB P w K mg (vk s₁.heap H) eD [] s₁ H:=⟨rfl,hM,λb o e=>RG e,fE (Y5 _ _),trivial,λb hb=>absurd (show b∈([]:List aj) from hb) `s,b6, .of_eq hg⟩;refine iD ((F _ hKb (nsK hns)).run eD [] s₁ H ⟨[.ref a],[]⟩ [.ref a] [.ref a] _ _ hr e0 (hbind s₁ (.ref a)) (.cons rfl .nil) (hsp H hO hS)) λr s' h=>?_;cases r with
  |error e=>exact(hCX H e s' h).elim
  |ok fl=>
   cases fl with
   |next=>exact cp h
   |brk=>exact cp h
   |cont=>exact cp h
   |ret u=>
    obtain⟨v,H',os,bare,un,hok',r',q⟩:=h;have q':v= .bl true:=q;subst q';obtain rfl:u=eX true:=r';refine⟨rfl,OldK.of_keep λb o e=>?_,os,bare⟩;cases q:H b with
    |none=>exact un.keep b o e q (by intro z;exact absurd (show b∈([]:List aj) from z) `s) `s
    |some u=>
     obtain z |⟨ob,xs,z⟩:=hO b
     ·rw[q]at z;cases z
     ·have z2:=un.frzs b ob _ z;obtain⟨e1,_⟩:=b6 b _ z;obtain⟨e2,_⟩:=hok' b _ z2;rw[e]at e1;cases e1;exact e2
 cases hk:K.lookup a with
 |some o=>
  have e:=KX a o hk;rw[ha]at e;cases e;refine core (λ_=>none) (λ_=> .inl rfl) (.inr ⟨_,vs.toArray,_,hk,rfl,rfl,rfl,by rw[aV,lenV];exact hl,by simpa using rv⟩) (λb u z=>by have z':(none:Option HO)=aa u:=z;cases z') (λb z=>absurd rfl z) λz=>absurd rfl z
 |none=>
  refine core (λb=>if b=a then aa (.frz { cls:= .type "list",data:= .seq vs.toArray } (.bx (ns.map V.int))) else none) (λb=>?_) (.inl (.inr ⟨{ cls:= .type "list",data:= .seq vs.toArray },if_pos rfl⟩)) (λb u z=>?_) (λb z=>?_) λ_=>hk
  ·by_cases hb:b=a
   ·exact .inr ⟨_,_,if_pos hb⟩
   ·exact .inl (if_neg hb)
  ·by_cases hb:b=a
   ·have z':=(if_pos hb).symm.trans z;cases z';subst hb;exact⟨ha,by rw[aD];exact hl,vs,_,rv,ha⟩
   ·have z':=(if_neg hb).symm.trans z;cases z'
  ·by_cases hb:b=a
   ·exact hb
   ·exact absurd (if_neg hb) z
def UH{l:iF}{n k:Nat}{q:aY}{loose:List ah}{XP:(ah→Option ai)→aH→Prop}{YP:aP→aH→Prop}{d:DefRec}{K:Params→am}{CX:aP→yO}{sp:aP→Sp}{x:ah}
  (hn:l.most=aa n) (hn2:n≤sizeLine) (hdf:d.params.defaults=[]) (hr:oK k eD)
  (hY:∀(w:aP) (h:aH),YP w h→(K w.params).In h)
  (F:∀(w:aP) (mg:ah→Option ai) (fa:aj) (h:aH),(K w.params).In h→h.Ns aO mg→mg d.name=aa (.ref fa)→
   ∃fd:cK,(∀(s:ao) (u:ai),fI s fd ⟨[u],[]⟩ [(x,u)])∧
    ∀base:aH,(K w.params).In base→base.Ns aO mg→pe l.prog w (K w.params) mg base (CX w) k fa fd [x] (sp w))
  (hsp:∀(w:aP) (H:Hp) (a:aj) (ns:List Int),ns.length≤n→Cz H→pJ (K w.params) H a (ns.map V.int)→sp w [.ref a] H (λv _=>v= .bl true) λ_ _ _=>False)
  (hCX:∀(w:aP) (H:Hp) (s:ao) (e:ai) (s':ao),CX w [] H s (λ_ _ _=>False) e s'→False) :
  lp q loose XP YP l.row.toRowW d [] (λf vs=>i0 f vs):=by
 refine Att.attach_call hn hdf λw s₀ s₁ mg mb fa o pm cd doc a vs ns G Y ho hd hcd hmg hobj hints hlen hg=>?_;have KX:=hY w _ Y;obtain⟨fd,hb,hF⟩:=F w mg fa _ KX G.T.g hmg;exact Ur KX G.T.g G.T.b G.T.builtins G.T.nolimit hg hobj hints (bI hlen hn2) hr hF hb (λH hO hS=>hsp w H a ns hlen hO hS) λH e s'=>hCX w H s₁ e s'
noncomputable def zD (s:bg) (j:Nat):bg:=match s with
 | .ClassDef _ _ _ body _ _ _ _ _ _ _=>body.getD j (.Pass ⟨0,0,0,0⟩)
 |_=> .Pass ⟨0,0,0,0⟩
noncomputable def xB (s:bg):Arguments:=match s with
 | .FunctionDef _ a _ _ _ _ _ _ _ _=>a
 |_=>{ posonlyargs:=[],args:=[],vararg:=none,kwonlyargs:=[],kw_defaults:=[],kwarg:=none,defaults:=[] }
noncomputable def uE (s:bg):List bg:=match s with
 | .FunctionDef _ _ b _ _ _ _ _ _ _=>b
 |_=>[]
noncomputable def qQ (s:bg):Scope:=match s with
 | .FunctionDef _ _ _ _ _ _ sc _ _ _=>sc
 |_=>{ kind:= .function,names:=[],isGenerator:=false,isCoroutine:=false }
abbrev N8:yO:=λ_ _ _ _ _ _=>False
structure ue (K:am) (x qual:ah) (st:bg) (f:aj) (fd:cK):Prop where
  ex:∃(oc:ai) (od:Option aj) (kV doc pm:ai) (an:Option aj) (cdv ct:ai) (osl:Array (Option ai)),
    fd=dC x qual (xB st) (uE st) (qQ st) .none kV doc pm an cdv ct∧K.lookup f=aa ⟨oc,od, .func fd,osl⟩∧gA K cdv qual=true
  kp:cX K (.ref f)=true
section
variable {P:aY}{w:aP}{K:am}{mg:ah→Option ai}{base:aH}
def ue.ok{st:bg}(F:ue K x qual st f fd) (S:qb N ps (qQ st)) (len:∀vs H Q E,sp vs H Q E→vs.length=ps.length)
  (hbody:∀(cdv:ai) (A:bn) (outer:List bM) (s:ao) (H:Hp) (vs:List V) (Q:VK) (E:XK),oK k (A.deeper (cQ qual (qQ st) s.heap.objs.size f cdv))→sp vs H Q E→
   ∃t,se (vX N8 P w K mg base N qual (qQ st) f cdv A outer s H E).nox (uE st) t∧t { nx:=λ_ H'=>Q .bR H',rt:=Q } (start N vs) H):pe P w K mg base N8 (k+1) f fd ps sp:=by
 obtain⟨oc,od,kV,doc,pm,an,cdv,ct,osl,rfl,lk,hcd⟩:=F.ex;refine K9 lk hcd S len λA outer s H vs Q E hr hsp=>?_;obtain⟨t,h,q⟩:=hbody cdv A outer s H vs Q E hr hsp;exact⟨t,h.nox,q⟩
def ue.binds{st:bg}(F:ue K x qual st f fd)
  (h:∀(kV doc pm:ai) (an:Option aj) (cdv ct:ai) (us:List ai),us.length=ps.length→kg (dC x qual (xB st) (uE st) (qQ st) .none kV doc pm an cdv ct) ⟨us,[]⟩=pure (ps.zip us)):pf K fd ps []:=by
 obtain⟨oc,od,kV,doc,pm,an,cdv,ct,osl,rfl,lk,hcd⟩:=F.ex;exact .all (h kV doc pm an cdv ct)
def Pi{st:bg}{kV doc pm cdv ct:ai}(l:K.lookup f=aa ⟨oc,od, .func (dC x qual (xB st) (uE st) (qQ st) .none kV doc pm an cdv ct),osl⟩)
  (c:gA K cdv qual=true) (k:cX K (.ref f)=true):ue K x qual st f (dC x qual (xB st) (uE st) (qQ st) .none kV doc pm an cdv ct):=⟨⟨oc,od,kV,doc,pm,an,cdv,ct,osl,rfl,l,c⟩,k⟩
end
section
variable {X:Cx}
def pv (i:Nat) (hN:X.N[i]? =aa x) (hv:xT X.env.scope x:=by first |exact gO rfl |exact fJ (gO rfl) |exact fJ (fJ rfl)) (hd:(x == ("__debug__" :ah))=false:=by decide)
  (hcd:(x == ("__classdict__" :ah))=false:=by decide):PE X (.Name x pos) (My i):=Iu hN hv hd hcd
end
def SA{A B:Prop}(h:B):if false=true then A else B:=by
 rw[if_neg dy];exact h
def TC{A B:Prop}(h:A):if true=true then A else B:=by
 rw[if_pos rfl];exact h
section
variable {κ:Type} [DecidableEq κ]
noncomputable def sV (dP:List (κ×V)) (k:κ):Option V:=(dP.find? λkv=>decide (kv.1=k)).map (·.2)
noncomputable def ug (dP:List (κ×V)) (k:κ) (v:V):List (κ×V):=
 if(dP.any λkv=>decide (kv.1=k))=true then dP.map (λkv=>if kv.1=k then(kv.1,v) else kv) else dP++[(k,v)]
def DY{p:κ×V}{r:List (κ×V)}{k:κ}(e:p.1=k):sV (p::r) k=aa p.2:=by simp [sV,cr,e]
def DC{p:κ×V}{r:List (κ×V)}{k:κ}(e:¬p.1=k):sV (p::r) k=sV r k:=by simp [sV,cr,e]
theorem M4 (k:κ):∀dP:List (κ×V),(dP.any λkv=>decide (kv.1=k))=(sV dP k).isSome
 | []=>rfl
 |p::r=>by
  rw[fD];by_cases e:p.1=k
  ·simp only[DY e,decide_eq_true e,Bool.true_or,lJ]
  ·rw[DC e,decide_eq_false e,fN];exact M4 k r
def ZV (dP:List (κ×V)) (k:κ) (v:V):(ug dP k v).length≤dP.length+1:=by
 unfold ug;split
 ·rw[aD];lia
 ·rw[aW,aS,dA];lia
def pU.isSome_eq{o:Option V}{u:Option ai}(r:pU o u):o.isSome=u.isSome:=by
 cases o with
 |none=>cases u with
  |none=>rfl
  |some _=>exact(show False from r).elim
 |some _=>cases u with
  |none=>exact(show False from r).elim
  |some _=>rfl
def pU.getD{o:Option V}{u:Option ai}{d:V}{d':ai}(r:pU o u) (rd:nH d d'):nH (o.getD d) (u.getD d'):=by
 cases o with
 |none=>cases u with
  |none=>exact rd
  |some _=>exact(show False from r).elim
 |some _=>cases u with
  |none=>exact(show False from r).elim
  |some _=>exact r
def KV.val{dP:List (κ×V)}{vs:List (κ×ai)}(r:KV dP vs) (k:κ):pU (sV dP k) (fg vs k):=by
 unfold KV at r
 induction r with
 |nil=>exact du
 | @cons p q ps qs h t ih=>
  obtain⟨h1,h2⟩:=h;by_cases e:p.1=k
  ·have e':q.1=k:=h1.symm.trans e;have b:fg (q::qs) k=aa q.2:=by simp [fg,cr,e']
   rw[DY e,b];exact h2
  ·have e':¬q.1=k:=λz=>e (h1.trans z);have b:fg (q::qs) k=fg qs k:=by simp [fg,cr,e']
   rw[DC e,b];exact ih
def KV.length{dP:List (κ×V)}{vs:List (κ×ai)}(r:KV dP vs):dP.length=vs.length:=gb r
end
def Ef{P:aY}{w:aP}{k:Key}{u:ai}(r:nH (kV k) u):(rQ P w).is k u=true:=by
 cases k with
 |inl i=>obtain⟨t,e⟩:=(show ∃t,u=eH i t from r);subst e;exact Yf P w i t
 |inr x=>obtain⟨t,e⟩:=(show ∃t,u=eE x t from r);subst e;exact V6 P w x t
theorem K1{P:aY}{w:aP}:∀{ks:List Key}{us:List ai},nE (ks.map kV) us→ItemsAre (rQ P w) ks us
 | [],_,r=>by rw[dv]at r;cases r;exact .nil
 |k::ks,_,r=>by
  rw[aG]at r;cases r with
  |cons h t=>exact .cons (Ef h) (K1 t)
abbrev KT (H:Hp):List (List Key×V)→List (List Key×aj×ai)→Prop:=bh λp q=>p.1=q.1∧H q.2.1=aa (.bH (p.1.map kV))∧nH p.2 q.2.2
def KT.val{H:Hp}{dP:List (List Key×V)}{xs:List (List Key×aj×ai)}(r:KT H dP xs) (k:List Key):pU (sV dP k) ((eC xs k).map (·.2)):=by
 induction r with
 |nil=>exact du
 | @cons p q ps qs h t ih=>
  obtain⟨h1,_,h2⟩:=h;by_cases e:p.1=k
  ·have e':q.1=k:=h1.symm.trans e;have b:eC (q::qs) k=aa q.2:=by simp [eC,cr,e']
   rw[DY e,b];exact h2
  ·have e':¬q.1=k:=λz=>e (h1.trans z);have b:eC (q::qs) k=eC qs k:=by simp [eC,cr,e']
   rw[DC e,b];exact ih
def KT.repl{H:Hp}{dP:List (List Key×V)}{xs:List (List Key×aj×ai)}(r:KT H dP xs) (k:List Key) {y:V}{u:ai}(ry:nH y u) :
  KT H (dP.map λkv=>if kv.1=k then(kv.1,y) else kv) (xs.map (putAt k u)):=by
 induction r with
 |nil=>exact .nil
 | @cons p q ps qs h t ih=>
  rw[aG,aG];refine .cons ?_ ih;obtain⟨h1,h2,h3⟩:=h;unfold putAt;by_cases e:p.1=k
  ·rw[if_pos e,if_pos (h1.symm.trans e)];exact⟨h1,h2,ry⟩
  ·rw[if_neg e,if_neg (λz=>e (h1.trans z))];exact⟨h1,h2,h3⟩
def KT.bz{H:Hp}{dP:List (List Key×V)}{xs:List (List Key×aj×ai)}(r:KT H dP xs) (k:List Key) {b:aj}{y:V}{u:ai}(hb:H b=aa (.bH (k.map kV))) (ry:nH y u) :
  KT H (ug dP k y) (gy xs k b u):=by
 have e:(dP.any λkv=>decide (kv.1=k))=(eC xs k).isSome:=by
  rw[M4,(r.val k).isSome_eq,ij]
 unfold ug gy;rw[e];by_cases q:(eC xs k).isSome=true
 ·rw[if_pos q,if_pos q];exact r.repl k ry
 ·rw[if_neg q,if_neg q];exact bh.snoc r ⟨rfl,hb,ry⟩
def KT.keeps{H H':Hp}{dP:List (List Key×V)}{xs:List (List Key×aj×ai)}(r:KT H dP xs) (ht:∀b ys,H b=aa (.bH ys)→H' b=aa (.bH ys)):KT H' dP xs:=
 Paired.mapP r λ_ _ z=>⟨z.1,ht _ _ z.2.1,z.2.2⟩
def Ki{u:HO}(ok:ph P w H h) (e:Rd H a u):nZ P w H h a u:=e.ok ok
def NG{dP:List (Key×V)}(ok:ph P w H h) (e:Rd H a (.dK dP)):dP.length≤sizeLine∧(a == fh)=false∧ ∃vs,KV dP vs∧h.DictOf (rQ P w) a vs:=
 show nZ P w H h a (.dK dP) from Ki ok e
def Cb{ks:List Key}(ok:ph P w H h) (e:H a=aa (.bH (ks.map kV))):(c5 (rQ P w)).is h ks a:=by
 obtain⟨_,c6,r,o,h1,h2,n,h3⟩:=(show nZ P w H h a (.bH (ks.map kV)) from ok a _ e);exact⟨o,c6.toArray,n,h1,h2,h3,by simpa using K1 r⟩
def Jt{dP:List (List Key×V)}(ok:ph P w H h) (e:Rd H a (.dT dP)):dP.length≤sizeLine∧(a == fh)=false∧
  ∃xs,KT H dP xs∧h.DictOfH (c5 (rQ P w)) a xs:=by
 obtain⟨z,y,xs,r,o,es,ep,h1,h2,h3,h4,h5⟩:=(show nZ P w H h a (.dT dP) from Ki ok e);refine⟨z,y,xs,r,o,es,ep,h1,h2,h3,h4,λx hx=>?_,h5⟩;have all:∀{l:List (List Key×V)}{m:List (List Key×aj×ai)},KT H l m→ ∀x∈m,(c5 (rQ P w)).is h x.1 x.2.1:=by
  intro l m q
  induction q with
  |nil=>intro x hx;exact nomatch hx
  | @cons p q ps qs hq t ih=>
   intro x hx;obtain e |hx:=az.mp hx
   ·subst e;exact Cb ok (by rw[←hq.1];exact hq.2.1)
   ·exact ih x hx
 exact all r x hx
def tH (H:Hp) (a:aj) (y:V) (r:Option V):Prop:=
 (∃dP k,Rd H a (.dK dP)∧y=kV k∧r=sV dP k)∨ ∃dP k b,Rd H a (.dT dP)∧y= .ref b∧H b=aa (.bH (k.map kV))∧r=sV dP k
def tH.t{H:Hp}{a b:aj}{dP:List (List Key×V)}{k:List Key}(e:H a=aa (.dT dP)) (eb:H b=aa (.bH (k.map kV))):tH H a (.ref b) (sV dP k):= .inr ⟨dP,k,b, .inl e,rfl,eb,rfl⟩
section
variable {X:Cx}{ag:List (aj×aJ)}{σ:St}{H:Hp}{s:ao}{a:aj}{y:V}{u:ai}{o:Option V}{A:bn}{E:ai→ao→Prop}
def nA.big (I:nA X ag σ H s):fh<s.heap.objs.size:=by
 have h:aO<s.heap.objs.size:=(I.mod.glob.keeps I.bk).lt;exact Nat.lt_trans `d h
def Wu{Q:ai→ao→Prop}(hu:A.units+1<cLine) (I:nA X ag σ H s) (g:tH H a y o) (ry:nH y u) (h:∀s',nA X ag σ H s'→Q (.bool o.isSome) s') :
  ax (aC X.prog X.w) A (bD .In u (.ref a)) Q E s:=by
 obtain ⟨dP,k,e,ey,l⟩ |⟨dP,k,b,e,ey,eb,l⟩:=g
 ·subst ey;obtain⟨z,hd,vs,rel,dd⟩:=NG I.b6 e;refine wpAny_in_of (Ef ry) hd dd.mapOf ?_;rw[←(rel.val k).isSome_eq,←l];exact h _ (I.tok _)
 ·subst ey;cases(show u=bj b from ry);obtain⟨z,hd,xs,rel,dd⟩:=Jt I.b6 e;refine wpAny_in_heap (j5 hu) (Cb I.b6 eb) hd dd ?_;have q:=(rel.val k).isSome_eq;rw[ij]at q;rw[←q,←l];exact h _ (I.tok _)
def Tk{Q:ai→ao→Prop}(hu:A.units+1<cLine) (I:nA X ag σ H s) (g:tH H a y o) (ry:nH y u) (h:∀s',nA X ag σ H s'→Q (.bool (!o.isSome)) s') :
  ax (aC X.prog X.w) A (bD .NotIn u (.ref a)) Q E s:=by
 obtain ⟨dP,k,e,ey,l⟩ |⟨dP,k,b,e,ey,eb,l⟩:=g
 ·subst ey;obtain⟨z,hd,vs,rel,dd⟩:=NG I.b6 e;refine wpAny_notIn_of (Ef ry) hd dd.mapOf ?_;rw[←(rel.val k).isSome_eq,←l];exact h _ (I.tok _)
 ·subst ey;cases(show u=bj b from ry);obtain⟨z,hd,xs,rel,dd⟩:=Jt I.b6 e;refine wpAny_notIn_heap (j5 hu) (Cb I.b6 eb) hd dd ?_;have q:=(rel.val k).isSome_eq;rw[ij]at q;rw[←q,←l];exact h _ (I.tok _)
end
end L2
namespace Att
open PySem PySem.W PySem.Calls PyProof.Rows
end Att
namespace L2
open PySem PySem.Spec PyProof.Rows
section
variable {prog:aY}{w:aP}{A:bn}{R:hU→ao→Prop}{s:ao}
def XW (I:Nat→ao→Prop)
  (turn:∀n s,I n s→ax (aC prog w) A (cI it) (λr s₁=>match r with
   |none=>R (.ok .next) s₁
   |some v=>ax (aC prog w) A (gN target it v) (λ_ s₀=>ax (aC prog w) A (assign target env v) (λ_ s₂=>
     ax (aC prog w) A (forIn ifs true λc r=>if r=true then do let ok ←isTrue c env (aA c env);pure (fu ok) else pure (fu r)) (λok s₃=>
      if ok=true then ax (aC prog w) A (aA elt env) (λx s₄=>
       ax (aC prog w) A (call (.builtin "list.append") [acc,x]) (λ_ s₅=>∃m,m<n∧I m s₅) (λ_ _=>False) s₄) (λ_ _=>False) s₃
      else ∃m,m<n∧I m s₃) (λ_ _=>False) s₂) (λ_ _=>False) s₀) (λ_ _=>False) s₁) (λ_ _=>False) s)
  (n:Nat) (h:I n s) :
  dD (aC prog w) A (.compLoop (.ListComp elt [⟨target,iter,ifs,0⟩] scope pos) 0 it acc env) R s:=by
 refine codeAny_loop rfl I (λn s hI=>?_) n h;show ax _ A ((compTurn (.ListComp elt [⟨target,iter,ifs,0⟩] scope pos) 0 it acc env).onRaise (λx=>do noteFrame x env;theTreesLotGoes x)) _ _ s;refine wpAny_noted ?_;rw[compTurn_list];refine av (jh (av (cL (turn n s hI) (λr s₁ h₁=>?_) λ_ _ h'=>h'.elim)));cases r with
 |none=>exact aK h₁
 |some v=>
  refine av (cL h₁ (λ_ s₀ h₀=>?_) λ_ _ h'=>h'.elim);refine av (cL h₀ (λ_ s₂ h₂=>av (cL h₂ (λok s₃ h₃=>?_) λ_ _ h'=>h'.elim)) λ_ _ h'=>h'.elim);cases ok with
  |false=>exact aK ⟨rfl,h₃⟩
  |true=>
   exact av (av (cL h₃ (λx s₄ h₄=>av (cL h₄ (λ_ s₅ h₅=>aK (aK ⟨rfl,h₅⟩)) λ_ _ h'=>h'.elim)) λ_ _ h'=>h'.elim))
end
noncomputable def qK (cells:List (ah×aj)):List (ah×ce)→List (ah×aj)→List (ah×aj)
 | [],acc=>acc
 | (n,k)::r,acc=>if(k == bb)=true then qK cells r ((n,(cells.lookup n).getD 0)::acc) else qK cells r acc
def Z3 (h:∀y∈scope.names,y.2= .free→ ∃c,env.cells.lookup y.1=aa c) :
  closureFor scope env=pure (qK env.cells scope.names []):=by
 have go:∀(l:List (ah×ce)) (acc:List (ah×aj)),(∀y∈l,y.2= .free→ ∃c,env.cells.lookup y.1=aa c)→
   (forIn l acc λ(x:ah×ce) (cs:List (ah×aj))=>(if(x.2 == bb)=true then(do let a ←cellOf env x.1;pure (fu ((x.1,a)::cs))) else pure (fu cs):cq (ForInStep (List (ah×aj)))))=(pure (qK env.cells l acc):cq (List (ah×aj))):=by
  intro l
  induction l with
  |nil=>intro acc _;rfl
  |cons x l ih=>
   intro acc hl;obtain⟨n,k⟩:=x;have hr:=λy hy=>hl y (aI _ hy);rw[ky];by_cases hk:k= .free
   ·subst hk;obtain⟨c,hc⟩:=hl (n, .free) aM rfl;have hc':env.cells.lookup n=aa c:=hc;have e:cellOf env n=pure c:=by unfold cellOf;rw[hc']
    have e2:qK env.cells ((n,bb)::l) acc=qK env.cells l ((n,c)::acc):=by
     show(if(bb == bb)=true then qK env.cells l ((n,(env.cells.lookup n).getD 0)::acc) else qK env.cells l acc)=_;rw[if_pos (by rfl),hc'];rfl
    dsimp only;rw[if_pos (by rfl),e,gT,gT,e2];exact ih _ hr
   ·have hb:¬(k == bb)=true:=by simpa using hk
    have e2:qK env.cells ((n,k)::l) acc=qK env.cells l acc:=by
     show(if(k == bb)=true then qK env.cells l ((n,(env.cells.lookup n).getD 0)::acc) else qK env.cells l acc)=_;rw[if_neg hb]
    dsimp only;rw[if_neg hb,gT,e2];exact ih _ hr
 have q:=go scope.names [] h;unfold closureFor
 first
  |exact(bind_pure _).trans q
  | (simp only[bind_pure];exact q)
  | (simp only[gT,bind_assoc,bind_pure];exact q)
theorem FZ:∀(l:List (ah×ce)) (acc:List (ah×aj)),(∀y∈l,y.2= .free→ ∃c,cells.lookup y.1=aa c)→
  (qK cells l acc).lookup x=aa c→acc.lookup x=aa c∨cells.lookup x=aa c
 | [],acc,_,h=> .inl h
 | (n,k)::r,acc,hl,h=>by
  have hr:=λy hy=>hl y (aI (n,k) hy);by_cases hk:k= .free
  ·subst hk;have h':(qK cells r ((n,(cells.lookup n).getD 0)::acc)).lookup x=aa c:=h;obtain q |q:=FZ r _ hr h'
   ·rw[bN]at q;cases e:x == n with
    |true=>
     rw[e]at q;obtain⟨d,hd⟩:=hl (n, .free) aM rfl;have hd':cells.lookup n=aa d:=hd;have e1:x=n:=gX e;rw[hd']at q;have q':d=c:=aL q;exact .inr (by rw[e1,hd',q'])
    |false=>
     rw[e]at q;exact .inl q
   ·exact .inr q
  ·have hb:¬(k == bb)=true:=by simpa using hk
   have h':(if(k == bb)=true then qK cells r ((n,(cells.lookup n).getD 0)::acc) else qK cells r acc).lookup x=aa c:=h;rw[if_neg hb]at h';exact FZ r acc hr h'
theorem Dc:∀(l:List (ah×ce)) (acc:List (ah×aj)),((x,bb)∈l∨ ∃c,acc.lookup x=aa c)→ ∃c,(qK cells l acc).lookup x=aa c
 | [],acc,h=>by
  obtain h |h:=h
  ·cases h
  ·exact h
 | (n,k)::r,acc,h=>by
  by_cases hk:k= .free
  ·subst hk;refine Dc r ((n,(cells.lookup n).getD 0)::acc) ?_;cases e:x == n with
   |true=>exact .inr ⟨_,by rw[bN,e]⟩
   |false=>
    obtain h |⟨c,h⟩:=h
    ·obtain q |q:=az.mp h
     ·have:x=n:=congrArg Prod.fst q;rw[this]at e;simp at e
     ·exact .inl q
    ·exact .inr ⟨c,by rw[bN,e];exact h⟩
  ·have hb:¬(k == bb)=true:=by simpa using hk
   show ∃c,(if(k == bb)=true then qK cells r ((n,(cells.lookup n).getD 0)::acc) else qK cells r acc).lookup x=aa c;rw[if_neg hb];refine Dc r acc ?_;obtain h |h:=h
   ·obtain q |q:=az.mp h
    ·exact absurd (congrArg kB q).symm hk
    ·exact .inl q
   ·exact .inr h
theorem CW{env:bM}{x:ah}{k:ce}:∀{names:List (ah×ce)},(∀y∈names,y.2≠ .cell)→
  (names.map λ(n,k)=>if(k == bb&&env.scope.kind == .function&&env.kindOf n == aa .cell) then(n,cx) else(n,k)).lookup x=aa k→(k= .cell∨k= .free)→(x,bb)∈names
 | [],_,h,_=>by simp at h
 | (n,j)::r,hc,h,hk=>by
  have h':bW x ((if(j == bb&&env.scope.kind == .function&&env.kindOf n == aa .cell)=true then(n,cx) else(n,j)) ::
   (r.map λ(n,k)=>if(k == bb&&env.scope.kind == .function&&env.kindOf n == aa .cell) then(n,cx) else(n,k)))=aa k:=h
  have hr:=λy hy=>hc y (aI (n,j) hy);have hj:j≠ .cell:=hc (n,j) aM;cases e:x == n with
  |true=>
   have e1:x=n:=gX e;subst e1;by_cases c:(j == bb&&env.scope.kind == .function&&env.kindOf x == aa .cell)=true
   ·have c1:(j == bb)=true:=by
     cases q:(j == bb) with
     |true=>rfl
     |false=>rw[q]at c;simp at c
    have c2:j= .free:=by simpa using c1
    rw[c2];exact aM
   ·rw[if_neg c]at h';simp only[bN,beq_self_eq_true]at h';have h2:j=k:=aL h';obtain z |z:=hk
    ·exact absurd (h2.trans z) hj
    ·rw[h2,z];exact aM
  |false=>
   by_cases c:(j == bb&&env.scope.kind == .function&&env.kindOf n == aa .cell)=true
   ·rw[if_pos c]at h';simp only[bN,e]at h';exact aI _ (CW hr h' hk)
   ·rw[if_neg c]at h';simp only[bN,e]at h';exact aI _ (CW hr h' hk)
theorem HC{env:bM}{x:ah}:∀{names:List (ah×ce)},names.lookup x=aa .free→
  (names.map λ(n,k)=>if(k == bb&&env.scope.kind == .function&&env.kindOf n == aa .cell) then(n,cx) else(n,k)).lookup x=aa .cell∨
  (names.map λ(n,k)=>if(k == bb&&env.scope.kind == .function&&env.kindOf n == aa .cell) then(n,cx) else(n,k)).lookup x=aa .free
 | [],h=>by simp at h
 | (n,j)::r,h=>by
  show bW x ((if(j == bb&&env.scope.kind == .function&&env.kindOf n == aa .cell)=true then(n,cx) else(n,j)) ::
   (r.map λ(n,k)=>if(k == bb&&env.scope.kind == .function&&env.kindOf n == aa .cell) then(n,cx) else(n,k)))=_∨
   bW x ((if(j == bb&&env.scope.kind == .function&&env.kindOf n == aa .cell)=true then(n,cx) else(n,j)) ::
   (r.map λ(n,k)=>if(k == bb&&env.scope.kind == .function&&env.kindOf n == aa .cell) then(n,cx) else(n,k)))=_
  cases e:x == n with
  |true=>
   simp only[bN,e]at h;have h2:j= .free:=aL h;subst h2;by_cases c:(bb == bb&&env.scope.kind == .function&&env.kindOf n == aa .cell)=true
   ·rw[if_pos c];simp only[bN,e];exact .inl trivial
   ·rw[if_neg c];simp only[bN,e];exact .inr trivial
  |false=>
   simp only[bN,e]at h;by_cases c:(j == bb&&env.scope.kind == .function&&env.kindOf n == aa .cell)=true
   ·rw[if_pos c];simp only[bN,e];exact HC h
   ·rw[if_neg c];simp only[bN,e];exact HC h
noncomputable def qy (X:Cx) (scope:Scope) (N:List ah) (s:ao) (H:Hp) (fp:List aj) (ag:List (aj×aJ)):Cx:=
 { X with N:=N,s₀:=s,H₀:=H,env:=compEnvC scope (qK X.env.cells scope.names []) s.heap.objs.size X.env,outer:=X.stack,stack:=X.stack,ex:=fp,fn:=λ_=>false,pn:=X.pn++ag,xe:=λ_ _=>False }
structure ou (X:Cx) (scope:Scope) (N:List ah) (k:Nat) (fr:List Nat):Prop where
  kind:scope.kind= .function
  nd:N.Nodup
  len:N.length=k+fr.length
  cell:(scope.names.all λy=>y.2 != cx)=true
  loc:(scope.names.all λy=>y.2 != ce.local || scope.names.lookup y.1 == aa ce.local)=true
  free:(scope.names.all λy=>y.2 != bb || X.env.kindOf y.1 == aa cx || X.env.kindOf y.1 == aa bb)=true
  frs:((N.drop k).all λx=>scope.names.lookup x == aa bb)=true
  pl:N.drop k=fr.map λj=>X.N.getD j ah.empty
  plen:(fr.all λj=>decide (j<X.N.length))=true
noncomputable def xa (σ:St) (fr:List Nat):St:=fr.map λj=>(σ[j]?).join
noncomputable def BY (σ:St) (k:Nat) (fr:List Nat):St:=bf k none++xa σ fr
def ou.cell' (S:ou X scope N k fr):∀y∈scope.names,y.2≠ .cell:=λy hy=>by
 have q:=cJ.mp S.cell y hy;simpa using q
def ou.loc' (S:ou X scope N k fr):∀y∈scope.names,y.2= .local→scope.names.lookup y.1=aa .local:=λy hy e=>by
 have q:=cJ.mp S.loc y hy;rw[e]at q;simpa using q
def ou.kinds (S:ou X scope N k fr):∀y∈scope.names,y.2= .free→X.env.kindOf y.1=aa .cell∨X.env.kindOf y.1=aa .free:=λy hy e=>by
 have q:=cJ.mp S.free y hy;rw[e]at q;simpa using q
def ou.hasCell (S:ou X scope N k fr) (ok:X.Ok):∀y∈scope.names,y.2= .free→ ∃c,X.env.cells.lookup y.1=aa c:=λy hy e=>ok.has y.1 (S.kinds y hy e)
def ou.sub (S:ou X scope N k fr) (ok:X.Ok) (h:(qK X.env.cells scope.names []).lookup x=aa c):X.env.cells.lookup x=aa c:=by
 obtain q |q:=FZ scope.names [] (S.hasCell ok) h
 ·simp at q
 ·exact q
def Ym (I:nA X ag σ H s) (S:ou X scope N k fr) (hfp:∀b∈fp,rT X ag H b) (hob:∀b∈fp,∃o,s.heap.get? b=aa o):(qy X scope N s H fp ag).Ok where
  mod:=I.ok.mod
  kind:=S.kind
  glob:=I.ok.glob
  blt:=I.ok.blt
  above:=aE _
  inj:=λx y c h1 h2=>I.ok.inj x y c (S.sub I.ok h1) (S.sub I.ok h2)
  has:=λx hx=>Dc scope.names [] (.inl (by
    obtain hx |hx:=hx
    · exact CW S.cell' hx (.inl rfl)
    · exact CW S.cell' hx (.inr rfl)))
  cab:=λx c h _=>absurd h (by show ¬(false=true);decide)
  hd:=I.ok.hd
  frames:=I.ok.frames
  stk:= .inl rfl
  exf:=λb hb=>⟨by
    obtain⟨o,e⟩:=hob b hb;exact bQ (aT e),λx c h=>(hfp b hb).2.2.2.2.1 x c (S.sub I.ok h)⟩
  bs:=I.bs
  bsz:=bI I.ok.bsz I.sz
  noex:=λb o e hb=>by
    rcases(hfp b hb).2.2.2.1 with z |z
    · exact I.ok.noex b o e z
    · exact absurd (b_ (aT (I.ok.bs b o e).1) z) (c_ _)
  exfs:=λb hb z=>by
    obtain q |q:=az.mp (I.stkSub b z)
    · exact(hfp b hb).2.1 q
    · exact(hfp b hb).2.2.1 q
  funs:=I.stack
  frf:=I.stkFree
def UK (I:nA X ag σ H s) (S:ou X scope N k fr) (hb:b∈fp) (hf:rT X ag H b) (hob:∃o,s.heap.get? b=aa o) (hn:H' b=none):rT (qy X scope N s H fp ag) [] H' b:=by
 refine⟨hn,?_,λz=>?_, .inl hb,λx c h=>hf.2.2.2.2.1 x c (S.sub I.ok h),λp hp=>?_⟩
 ·obtain⟨o,e⟩:=hob;exact bQ (aT e)
 ·obtain q |q:=az.mp (I.stkSub b z)
  ·exact hf.2.1 q
  ·exact hf.2.2.1 q
 ·obtain z |z:=bv.mp hp
  ·exact hf.2.2.2.2.2 p z
  ·cases z
def Xo{j:Nat}{v:V}(h:(xa σ fr)[j]? =aa (aa v)):∃i,fr[j]? =aa i∧σ[i]? =aa (aa v):=by
 unfold xa at h;rw[bK]at h;cases e:fr[j]? with
 |none=>rw[e]at h;cases h
 |some i=>
  rw[e]at h;have h':(σ[i]?).join=aa v:=aL h;refine⟨i,rfl,?_⟩;cases q:σ[i]? with
  |none=>rw[q]at h';cases h'
  |some o=>
   rw[q]at h';have h2:o=aa v:=h';rw[h2]
def zvf (I:nA X ag σ H s) (S:ou X scope N k fr) (hfp:∀b∈fp,rT X ag H b) (hob:∀b∈fp,∃o,s.heap.get? b=aa o) {h1:aH}{tk:Nat}{m:ah→Option ai}
    (hns:h1.Ns s.heap.objs.size m) (hk:∀b o,s.heap.get? b=aa o→h1.get? b=aa o):nA (qy X scope N s H fp ag) [] (BY σ k fr) H { s with heap:=h1,toks:=tk } where
  ok:=Ym I S hfp hob
  os:=rfl
  bare:=I.bare
  base:=Un.kept hk
  loc:=⟨m,hns,λi x v e1 e2 e3=>by
    have e2':(bf k (none:Option V)++xa σ fr)[i]? =aa (aa v):=e2;have hi:k≤i:=by
      refine mC λz=>?_;rw[mn (by simpa using z),kI]at e2';split at e2'<;>cases e2'
    rw[gU (by simpa using hi),e_]at e2';obtain⟨j,f1,f2⟩:=Xo e2';have e1':N[i]? =aa x:=e1;have d1:(N.drop k)[i - k]? =aa x:=by
      rw[kW];have:k+(i - k)=i:=by lia
      rw[this];exact e1'
    have d2:=d1;rw[S.pl,bK,f1]at d2;have d3:X.N.getD j ah.empty=x:=aL d2;have jl:j<X.N.length:=of_decide_eq_true (cJ.mp S.plen j (bX f1));have d4:X.N[j]? =aa x:=by
      rw[bF,aU jl]at d3;rw[aU jl];exact congrArg aa d3
    have fk:scope.names.lookup x=aa .free:=by
      have q:=cJ.mp S.frs x (bX d1);simpa using q
    have hmem:(x,bb)∈scope.names:=fL fk;have kd:=S.kinds _ hmem rfl;have vis:xT X.env.scope x:=by
      obtain z |z:=kd
      · exact .inr (.inl z)
      · exact .inr (.inr z)
    obtain⟨m0,_,hl⟩:=I.loc;obtain⟨u,ru,lk⟩:=hl j x v d4 f2 vis;refine⟨u,ru, .inr ⟨HC fk,?_⟩⟩;have kd':X.env.kindOf x=aa .cell∨X.env.kindOf x=aa .free:=kd;obtain ⟨z,_⟩ |⟨_,c,hc,hcell⟩:=lk
    · rcases kd' with q |q<;>(rw[z]at q;cases q)
    · obtain⟨c',hc'⟩:=Dc (cells:=X.env.cells) scope.names [] (.inl hmem);have e:=S.sub I.ok hc';rw[hc]at e;cases e;exact⟨c,hc',hcell.keeps hk⟩⟩
  cell:=λx c h=>by
    obtain⟨v,z⟩:=I.cell x c (S.sub I.ok h);exact⟨v,z.keeps hk⟩
  free:=I.b6.fresh (aE _)
  freeC:=λx c h=>I.freeC x c (S.sub I.ok h)
  pin:=λp hp=>by
    have hp':p∈X.pn++ag:=by
      obtain z |z:=bv.mp hp
      · exact z
      · cases z
    obtain⟨e,n,ne,nf,d⟩:=I.pin p hp';refine⟨hk _ _ e,n,bQ (aT e),λz=>?_,d⟩;obtain q |q:=az.mp (I.stkSub p.1 z)
    · exact ne q
    · exact nf q
  b6:=I.b6.kept hk
  len:=by
    show(bf k (none:Option V)++xa σ fr).length=N.length;rw[aW,e_,S.len];unfold xa;rw[aD]
def NQ (I:nA X ag σ H s) (hfp:∀b∈fp,rT X ag H b) (J:nA (qy X scope N s H fp ag) [] σ' H' s') (sb:cR s.heap.objs.size s'.heap h'):nA X ag σ H' { s' with heap:=h' }:=by
 have neC:∀b o,s.heap.get? b=aa o→b≠s.heap.objs.size:=λb o e=>bQ (aT e);have frC:H' s.heap.objs.size=none:=J.free;refine nA.call' (s':={ s' with heap:=h' }) (ch:=fp) I J.os ⟨λb o e n hf hx=>?_,λb o e n hf hx=>?_,λb o e n hx=>J.base.free b o e n hx,λb o e hx=>?_,J.base.tups,J.base.frzs,J.base.tbls⟩ (λb o e=>?_) J.bare λb hb=>⟨(hfp b hb).2.2.2.1,(hfp b hb).2.1,(hfp b hb).2.2.2.2.1,(hfp b hb).2.2.2.2.2⟩
 ·exact(sb.2 b (neC b o e)).trans (J.base.keep b o e n hf hx)
 ·obtain⟨sl,q⟩:=J.base.slot b o e n hf hx;exact⟨sl,(sb.2 b (neC b o e)).trans q⟩
 ·obtain⟨o',q⟩:=J.base.there b o e hx;exact⟨o',(sb.2 b (neC b o e)).trans q⟩
 ·refine(J.b6 b o e).stay (λc v hc q=>(sb.2 c ?_).trans q) (λ_ q=>q) λ_ _ q=>q;rintro rfl;obtain rfl |hc:=hc
  ·rw[frC]at e;cases e
  ·rw[frC]at hc;cases hc
def Di (X:Cx) (ifs:List Expr) (t:TT):Prop:=
 ∀(ag:List (aj×aJ)) (s:ao) (σ:St) (H:Hp) (Q:Bool→Hp→Prop),nA X ag σ H s→t σ H Q→
  ax (aC X.prog X.w) X.A (forIn ifs true λc r=>if r=true then do let ok ←isTrue c X.env (aA c X.env);pure (fu ok) else pure (fu r)) (TP X ag σ Q) X.xe s
def Vx:TT:=λ_ H Q=>Q true H
def ZO:Di X [] Vx:=λ_ _ _ H _ I h=>wpAny_tests_nil ⟨H,I,h⟩
def ZQ (h:PT X c t):Di X [c] t:=λag s σ H Q I q=>wpAny_tests_one (h ag s σ H Q I q)
def RM (X:Cx) (scope:Scope) (N:List ah) (tg:Expr) (ifs:List Expr) (elt:Expr) (l:aj) (x:V) (σ:St) (H:Hp) (M:St→Hp→Prop):Prop:=
 ∀(s₀:ao) (H₀:Hp) (fp:List aj) (pn:List (aj×aJ)),∃(g:TG) (tt:TT) (te:TE),PG (qy X scope N s₀ H₀ fp pn) tg g∧Di (qy X scope N s₀ H₀ fp pn) ifs tt∧PE (qy X scope N s₀ H₀ fp pn) elt te∧
  g x σ H λσ2 H2=>tt σ2 H2 λb H3=>if b=true then te σ2 H3 λy H4=>∃ys,H4 l=aa (.bx ys)∧ys.length<sizeLine∧M σ2 (nY H4 l (.bx (ys++[y]))) else M σ2 H3
def Sq (X:Cx) (scope:Scope) (N:List ah) (k:Nat) (fr:List Nat) (tg:Expr) (ifs:List Expr) (elt:Expr) (σ:St) (Q:VK) (J:It) (H1:Hp):Prop:=∀l,H1 l=none→
 ∃W:Nat→Nat→St→Hp→Prop,(∃m,W 0 m (BY σ k fr) (nY H1 l (.bx [])))∧ ∀i m σ' H',W i m σ' H'→
  (J.stop i H'∧Q (.ref l) H')∨(J.go i H'∧ ∃M:St→Hp→Prop,(∀σ'' H'',M σ'' H''→ ∃m',m'<m∧W (i+1) m' σ'' H'')∧ ∀x H2,J.yld i H' x H2→RM X scope N tg ifs elt l x σ' H2 M)
def Dn (X:Cx) (scope:Scope) (N:List ah) (k:Nat) (fr:List Nat) (tg:Expr) (ifs:List Expr) (elt:Expr) (wi:TI):TE:=λσ H Q=>wi σ H λJ H1=>Sq X scope N k fr tg ifs elt σ Q J H1
def PZ{use:Option (ai→cq Unit)}{Qf:ai→ao→Prop}(hx:X.xe=λ_ _=>False) (hc:X.calm=true) (S:ou X scope N k fr) (hi:PI X tg iter wi) (I:nA X ag σ H s)
  (fin:∀{s3 s6:ao}{H3 H5:Hp}{fp:List aj}{σ5:St}{l:aj}{a:Flow},nA X ag σ H3 s3→(∀b∈fp,rT X ag H3 b)→nA (qy X scope N s3 H3 fp ag) [] σ5 H5 s6→Q (.ref l) H5→compPost (aC X.prog X.w) X.A X.xe use Qf (.ref l) s3.heap.objs.size (.ok a) s6)
  (h:Dn X scope N k fr tg ifs elt wi σ H Q)
  (hs:∀x,dN iter X.env x=pure x):ax (aC X.prog X.w) X.A (comprehension (.ListComp elt [⟨tg,iter,ifs,0⟩] scope pos) scope X.env (firstIterPos [⟨tg,iter,ifs,0⟩] pos) (newList []) (firstAsync [⟨tg,iter,ifs,0⟩]) (firstIter [⟨tg,iter,ifs,0⟩] X.env) use) Qf X.xe s:=by
 refine wpAny_comprehension_free (use:=use) rfl hs (Z3 (S.hasCell I.ok)) S.kind S.loc' (oj (hi ag s σ H _ I h) λv s1 h1=>oj h1 λitv s2 h2=>?_);obtain⟨it,fp,tn,J,H2,e,I2,T,st2,f2,h2⟩:=h2;subst e;have fr2:H2 s2.heap.objs.size=none:=I2.b6.fresh (aE _);obtain⟨W,⟨m0,w0⟩,turn⟩:=h2 s2.heap.objs.size fr2;refine wpAny_newList ?_ (by show 0≤sizeLine;exact bc _);have I3:nA X ag σ (nY H2 s2.heap.objs.size (.bx [])) { s2 with heap:=s2.heap.push { cls:= .type "list",data:= .seq ([]:List ai).toArray } }:=I2.lnew (t':=s2.toks) (ys:=[]) .nil (bc _);have old:∀b o,s2.heap.get? b=aa o→(s2.heap.push { cls:= .type "list",data:= .seq ([]:List ai).toArray }).get? b=aa o:=λb o e=>aN _ e;have fpo2:∀b∈fp,∃o,s2.heap.get? b=aa o:=λb hb=>by
  obtain⟨o,e,_⟩:=T.obj _ _ st2 b hb;exact⟨o,e⟩
 have fpo:∀b∈fp,∃o,(s2.heap.push { cls:= .type "list",data:= .seq ([]:List ai).toArray }).get? b=aa o:=λb hb=>by
  obtain⟨o,e⟩:=fpo2 b hb;exact⟨o,old b o e⟩
 have f3:∀b∈fp,rT X ag (nY H2 s2.heap.objs.size (.bx [])) b:=λb hb=>by
  obtain⟨o,e⟩:=fpo2 b hb;refine⟨?_,(f2 b hb).2⟩;rw[oV (bQ (aT e))];exact(f2 b hb).1
 generalize hs3:({ s2 with heap:=s2.heap.push { cls:= .type "list",data:= .seq ([]:List ai).toArray } }:ao)=s3 at I3⊢;have st3:tn 0 s3.heap:=by
  rw[←hs3];exact T.keep _ _ _ st2 λb _ o e=>old b o e
 have fpo3:∀b∈fp,∃o,s3.heap.get? b=aa o:=by rw[←hs3];exact fpo
 clear fpo old hs3;refine wpAny_newFunctionEnv S.cell' (by intro y hy;simp at hy) (λh1 hns1 hsb1=>?_) S.kind;have hk1:∀b o,s3.heap.get? b=aa o→h1.get? b=aa o:=λb o e=>hsb1.extBut b o (bQ (aT e)) (aN _ e);have I4:=zvf (tk:=s3.toks+([]:List (ah×ai)).length) I3 S f3 fpo3 hns1 hk1;have st4:tn 0 h1:=T.keep _ _ _ st3 λb _ o e=>hk1 b o e;have stat:∀{H':Hp},(∀b∈fp,H' b=none)→ ∀b∈fp,rT (qy X scope N s3 (nY H2 s2.heap.objs.size (.bx [])) fp ag) [] H' b:=λhn b hb=>UK I3 S hb (f3 b hb) (fpo3 b hb) (hn b hb);have loop:∀s4:ao,s4={ s3 with heap:=h1,toks:=s3.toks+([]:List (ah×ai)).length }→
   dD (aC X.prog X.w) X.A (.compLoop (.ListComp elt [⟨tg,iter,ifs,0⟩] scope pos) 0 (.ref it) (.ref s2.heap.objs.size) (compEnvC scope (qK X.env.cells scope.names []) s3.heap.objs.size X.env))
    (compPost (aC X.prog X.w) X.A X.xe use Qf (.ref s2.heap.objs.size) s3.heap.objs.size) s4:=by
  rintro s4 rfl;refine XW (λn s'=>∃i σ' H',nA (qy X scope N s3 (nY H2 s2.heap.objs.size (.bx [])) fp ag) [] σ' H' s'∧tn i s'.heap∧(∀b∈fp,H' b=none)∧W i n σ' H') ?_ m0 ⟨0,_,_,I4,st4,λb hb=>(f3 b hb).1,w0⟩;rintro n s5 ⟨i,σ5,H5,I5,st5,fr5,w5⟩;obtain ⟨stop,qn⟩ |⟨go,M,hM,step⟩:=turn i n σ5 H5 w5
  ·refine oj (T.done (qy X scope N s3 (nY H2 s2.heap.objs.size (.bx [])) fp ag) rfl rfl rfl hc i [] s5 σ5 H5 _ I5 (stat fr5) st5 stop) λr s6 ⟨hr,I6⟩=>?_;subst hr;exact fin I3 f3 I6 qn
  ·refine oj (T.item (qy X scope N s3 (nY H2 s2.heap.objs.size (.bx [])) fp ag) rfl rfl rfl hc i [] s5 σ5 H5 _ I5 (stat fr5) st5 go) λr s6 ⟨u,hr,h6⟩=>?_;subst hr;refine oj h6 λ_ s7 zz=>oJ zz λx H7 I7 r7 ⟨y7,st7,fr7⟩=>?_;have I7':=I7.pinned (stat fr7) (T.obj _ _ st7);obtain⟨g,tt,te,hg,ht,he,q⟩:=step x H7 y7 s3 (nY H2 s2.heap.objs.size (.bx [])) fp ag;have again:∀{s8:ao}{σ8:St}{H8:Hp},nA (qy X scope N s3 (nY H2 s2.heap.objs.size (.bx [])) fp ag) ([]++Bt fp s7.heap) σ8 H8 s8→M σ8 H8→
     ∃m,m<n∧ ∃i σ' H',nA (qy X scope N s3 (nY H2 s2.heap.objs.size (.bx [])) fp ag) [] σ' H' s8∧tn i s8.heap∧(∀b∈fp,H' b=none)∧W i m σ' H':=λ{s8 σ8 H8} I8 n8=>by
    obtain⟨m',hm,w8⟩:=hM σ8 H8 n8;refine⟨m',hm,i+1,σ8,H8,I8.unpinned,T.keep _ _ _ st7 λb hb o e=>(I8.pin (b,o) (cw _ (cw _ (Da hb e)))).1,λb hb=>?_,w8⟩;obtain⟨o,e,d⟩:=T.obj _ _ st7 b hb;exact(I8.pin (b,o) (cw _ (cw _ (Da hb e)))).2.1
   refine oj (hg _ s7 σ5 H7 x u _ I7' r7 q) λ_ s8 ⟨σ8,H8,I8,q8⟩=>?_;refine oj (ht _ s8 σ8 H8 _ I8 q8) λb s9 zz=>wF zz λH9 I9 q9=>?_;cases b with
   |false=>exact again I9 q9
   |true=>
    refine oj (he _ s9 σ8 H9 _ I9 q9) λy s10 zz=>oJ zz λyv H10 I10 r10 ⟨ys,hl,hz,qM⟩=>?_;exact oj (J_ _ s10 σ8 H10 (.ref s2.heap.objs.size) [yv] (.ref s2.heap.objs.size) [y] (λ_ H'=>M σ8 H') I10 rfl (.cons r10 .nil) ⟨_,ys,yv,rfl,rfl,hl,hz,qM⟩) λ_ s11 ⟨_,H11,I11,_,q11⟩=>again I11 q11
 exact codeAny_compStart_list (loop _ rfl) (T.self _ 0 _ _ _ st4 (loop _ rfl))
def U0 (hx:X.xe=λ_ _=>False) (hc:X.calm=true) (S:ou X scope N k fr) (hi:PI X tg iter wi)
  (hs:∀x,dN iter X.env x=pure x):PE X (.ListComp elt [⟨tg,iter,ifs,0⟩] scope pos) (Dn X scope N k fr tg ifs elt wi):=by
 intro ag s σ H Q I h;rw[eval_ListComp];refine PZ hx hc S hi I (λ{s3 s6 H3 H5 fp σ5 l a} I3 f3 I6 qn=>?_) h hs;obtain⟨m6,ns6,_⟩:=I6.loc;exact⟨m6,ns6,λh' sb=>⟨.ref l,H5,NQ I3 f3 I6 sb,rfl,qn⟩⟩
def RV (hx:X.xe=λ_ _=>False) (hc:X.calm=true) (S:ou X scope N k fr) (hi:PI X tg iter wi)
  (hN:X.N.Nodup) (hxi:X.N[i]? =aa x) (hxl:uk X.env.scope x) (hw:dE (.ListComp elt [⟨tg,iter,ifs,0⟩] scope pos) (aa (.Name x pos')) spos.line X.env=pure true) (hf:X.fn x=true∨X.env.scope.names.lookup x=aa .local)
  (hs:∀x,dN iter X.env x=pure x):PS X (.Assign [.Name x pos'] (.ListComp elt [⟨tg,iter,ifs,0⟩] scope pos) spos) (G9 (Dn X scope N k fr tg ifs elt wi) (GV i)):=by
 intro ag s σ H D I h;rw[exec_Assign_Name_used x pos' _ spos hw];refine av (jh (av ?_));rw[arm_evalThenUse_ListComp];refine av ?_;refine PZ (Qf:=λ_ s'=>ax (aC X.prog X.w) X.A (pure ()) (λ_ s2=>ax (aC X.prog X.w) X.A (pure Flow.next) (SP X ag D) X.xe s2) X.xe s') hx hc S hi I (λ{s3 s6 H3 H5 fp σ5 l a} I3 f3 I6 qn=>?_) h hs;have IX:nA X ag σ H5 s6:=NQ (h':=s6.heap) I3 f3 I6 ⟨rfl,λ_ _=>rfl⟩;obtain⟨m6,ns6,_⟩:=I6.loc;have ns6:s6.heap.Ns s3.heap.objs.size m6:=ns6;have frC:H5 s3.heap.objs.size=none:=I6.free;have fC:rT X ag H5 s3.heap.objs.size:=I3.fpOk (aE _) frC;refine mz (HH IX hN hxi hxl (v:= .ref l) rfl (λs7 I7 ⟨b,sb,hb⟩=>?_) hf);have hbC:s3.heap.objs.size≠b:=by
  obtain rfl |hb:=hb
  ·exact fC.2.1
  ·exact bE (fC.2.2.2.2.1 _ _ hb)
 refine⟨m6,ns6.sameBut sb hbC,λh' sb2=>aK (aK ⟨_,H5,?_,qn⟩)⟩;refine nA.call' (s':={ s7 with heap:=h' }) (ch:=[s3.heap.objs.size]) I7 rfl ⟨λc o e n hfs hex=>?_,λc o e n hfs hex=>?_,λc o e n _=>n,λc o e hex=>?_,λ_ _ q=>q,λ_ _ _ q=>q,λ_ ps q=>⟨#[],by simpa using q⟩⟩ (λc o e=>?_) I7.bare λc hcm=>?_
 ·exact(sb2.2 c (λz=>hex (by simp [z]))).trans e
 ·exact⟨o.slots,(sb2.2 c (λz=>hex (by simp [z]))).trans e⟩
 ·exact⟨o,(sb2.2 c (λz=>hex (by simp [z]))).trans e⟩
 ·refine(I7.b6 c o e).stay (λd v hd q=>(sb2.2 d ?_).trans q) (λ_ q=>q) λ_ _ q=>q;rintro rfl;obtain rfl |hd:=hd
  ·rw[frC]at e;cases e
  ·rw[frC]at hd;cases hd
 ·rw[bw.mp hcm];exact⟨fC.2.2.2.1,fC.2.1,fC.2.2.2.2.1,fC.2.2.2.2.2⟩
noncomputable def Eg (x:ah):It:=⟨λi _=>i<x.cps.size,λi H v H'=>H'=H∧ ∃c,x.cps[i]? =aa c∧v= .str ⟨#[c]⟩,λi _=>i=x.cps.size⟩
def JM{P:aY}{w:aP}{K:am}{tg:Expr}(it:aj) (x:ah) (t:Tok) (ty:String)
    (hn: ["enumerate", "zip", "dict_itemiterator", "dict_reverseitemiterator", "odict_iterator", "itertools.zip_longest", "itertools.pairwise"].contains ty=false)
    (hW:∀A':bn,A'.handled=none→Walks P w A' it [it] [it] x.cps.size (SignAt x) (λi h=>h.IsStrIter it ty x t i))
    (hself:∀(A:bn) (i:Nat) (s:ao) (Q:ai→ao→Prop) (E:ai→ao→Prop),s.heap.IsStrIter it ty x t i→Q (.ref it) s→ax (aC P w) A (dS (.ref it)) Q E s) :
    sR P w K tg (Eg x) [it] it (λi h=>h.IsStrIter it ty x t i) where
  mem:=by simp
  obj:=λi h st b hb=>by
    have e:b=it:=by simpa using hb
    subst e;obtain⟨o,e,c,d⟩:=st;exact⟨o,e,λv z=>by rw[d]at z;cases z⟩
  keep:=λi h h' st k=>by
    obtain⟨o,e,r⟩:=st;exact⟨o,k it `s o e,r⟩
  item:=by
    intro X hP hw hK hc i ag s σ H E I hf st hg;subst hP hw hK;obtain⟨f0,f1,f2,f3,f4,f5⟩:=hf it `s;refine(hW X.A (I.ok.hd hc)).item i s _ _ hg st λv h' tk hv st' kk=>?_;obtain⟨c,u,hc',rfl⟩:=hv;have I1:nA X ag σ H { s with heap:=h',toks:=tk }:=I.turned (λb o hb e=>kk b o (by simpa using hb) e) f0 f1 f3 f4 f5;obtain⟨o,e,c',d⟩:=id st';exact⟨_,rfl,Dv (s:={ s with heap:=h',toks:=tk }) e c' d hn ⟨.str ⟨#[c]⟩,H,I1,⟨u,rfl⟩,⟨rfl,c,hc',rfl⟩,st',λb hb=>(hf b hb).1⟩⟩
  done:=by
    intro X hP hw hK hc i ag s σ H E I hf st hg;subst hP hw hK;obtain⟨f0,f1,f2,f3,f4,f5⟩:=hf it `s;have hi:i=x.cps.size:=hg;subst hi;exact(hW X.A (I.ok.hd hc)).done s _ _ st λh' tk kk=>⟨rfl,I.turned (λb o hb e=>kk b o (by simpa using hb) e) f0 f1 f3 f4 f5⟩
  self:=hself
def GE:o8 X (bD .LtE) (λx y H Q=>∃i j,x= .str i∧y= .str j∧Q (.bl (!decide (j.cps.toList<i.cps.toList))) H):=by
 intro ag s σ H x y v u Q I rx ry h;obtain⟨i,j,rfl,rfl,q⟩:=h;obtain⟨t,rfl⟩:=rx;obtain⟨t',rfl⟩:=ry;exact PySem.P.le_str (AB I q rfl)
def C6 (a b:Nat):(([a]:List Nat)< [b])↔a<b:=by
 rw[List.cons_lt_cons_iff];constructor
 ·rintro(h |⟨_,h⟩)
  ·exact h
  ·exact absurd h (List.lt_irrefl _)
 ·exact .inl
def Fm:V→Option Int→Option Int→Hp→VK→Prop:=λx lo hi H Q=>∃z,x= .str z∧z.length≤sizeLine∧Q (.str (cu z lo hi)) H
def xX:vM X Fm:=by
 intro ag s σ H x v vl vu lo hi sl Q I rx hs pl pu h;obtain⟨z,rfl,hz,q⟩:=h;obtain⟨t,rfl⟩:=rx;refine⟨"str",_,F.slot_str_getitem.lookup,jp _ _ _,?_⟩;obtain⟨o,ho,hc,hd⟩:=hs;have fin:∀t' k,EP X ag σ Q (.str (cu z lo hi) t') { s with toks:=k }:=λt' k=>⟨.str _,H,I.tok _,⟨t',rfl⟩,q⟩;have le:=bI (Txt.slice_le z lo hi) hz;cases pl with
 |none=>
  cases pu with
  |none=>exact ii (l:=none) (u:=none) (st:=none) ⟨o,ho,hc,hd⟩ rfl (iQ ⟨le,fin⟩)
  |int j u=>exact ii (l:=none) (u:=aa (j,u)) (st:=none) ⟨o,ho,hc,hd⟩ rfl (iQ ⟨le,fin⟩)
 |int i w=>
  cases pu with
  |none=>exact ii (l:=aa (i,w)) (u:=none) (st:=none) ⟨o,ho,hc,hd⟩ rfl (iQ ⟨le,fin⟩)
  |int j u=>exact ii (l:=aa (i,w)) (u:=aa (j,u)) (st:=none) ⟨o,ho,hc,hd⟩ rfl (iQ ⟨le,fin⟩)
def xR (xs:List Nat) (lo hi:Option Int):List Nat:=(xs.drop (HT.sIx xs.length 0 lo)).take (HT.sIx xs.length xs.length hi - HT.sIx xs.length 0 lo)
def Jg (lo hi:Option Int) (n:Nat):gP lo hi 1 n=sliceRange ((HT.sIx n 0 lo:Nat):Int) ((HT.sIx n n hi:Nat):Int) 1:=by
 have one:(1:Int) > 0:=by decide
 have a:∀(v:Option Int) (d:Nat),(match v with |none=>(d:Int) |some i=>(if(1:Int) > 0 then max 0 (min (if i<0 then i+(n:Int) else i) (n:Int)) else max (-1) (min (if i<0 then i+(n:Int) else i) ((n:Int) - 1))))=((HT.sIx n d v:Nat):Int):=by
  intro v d;cases v with
  |none=>rfl
  |some i=>
   simp only[HT.sIx,one,if_true];by_cases h:i<0
   ·simp only[h,if_true];lia
   ·simp only[h,if_false];lia
 have l:=a lo 0;have u:=a hi n;unfold gP;simp only[one,if_true]at l u⊢
 first
  |rw[l,u]
  | (cases lo<;>cases hi<;>simp_all)
def DD (z:ah) (lo hi:Option Int):(cu z lo hi).cps.toList=xR z.cps.toList lo hi:=by
 have hn:z.length=z.cps.toList.length:=by simp [cD]
 have hp:(gP lo hi 1 z.length).filterMap (z.cps[·]?)=xR z.cps.toList lo hi:=by
  rw[Jg,j7,iZ,hn];rfl
 unfold cu;split
 ·rename_i h;have h1:(gP lo hi 1 z.length).length=z.length:=by simpa using h
  rw[Jg,j7,aD,List.length_range]at h1;have le1:=HT.sIx_le z.length z.length (aE _) hi;unfold xR;rw[←hn];have e0:HT.sIx z.length 0 lo=0∨z.length=0:=by lia
  have hz:z.cps.toList.length=z.length:=hn.symm;obtain e0 |e0:=e0
  ·rw[e0,di,dZ `l]
  ·have:z.cps.toList=[]:=fZ `l;rw[this];simp
 ·show(List.filterMap _ _).toArray.toList=_;rw[hp]
def zwe (hc:X.calm=true):oB X (.builtin "all") (λxs H Q=>∃(p:aj) (bs:List Bool),xs=[.ref p]∧pJ X.K H p (bs.map V.bl)∧Q (.bl (bs.all id)) H):=by
 intro ag s σ H xs us Q I r h;obtain⟨p,bs,rfl,hq,q⟩:=h;obtain⟨u,rfl,rx⟩:=tJ r;cases rx;obtain⟨c6,r',pl,hz⟩:=I.list hq;have hlen:bs.length=c6.length:=by have:=r'.length;rw[aD]at this;exact this
 have hp:p<s.heap.objs.size:=by obtain⟨o,n,e,_⟩:=pl;exact aT e
 have hd:X.A.in1.handled=none:=I.ok.hd hc;have get:∀(i:Nat) (v:ai),c6.toArray[i]? =aa v→v= .bool (bs.getD i false):=λi v e=>by
  have e':c6[i]? =aa v:=by simpa using e
  have hi:i<bs.length:=by rw[hlen];exact(dq.mp e').1
  obtain⟨u,hu,ru⟩:=r'.get (i:=i) (x:= .bl (bs.getD i false)) (by rw[bK,aU hi,bF,aU hi];rfl);rw[e']at hu;cases hu;exact ru
 refine call_all_walk (fQ pl.isList ?_);refine⟨s.heap.objs.size,_,_,_,_,_,λi=>bs.getD i false,rfl,kh hd _ p (bQ hp) c6.toArray,⟨⟨_,bG _ rfl,rfl,rfl⟩,pl.isList.push _⟩,λi v s' Q' E' hP hQ=>?_,λh' tk hk=>?_⟩
 ·rw[get i v hP];exact eR hQ
 ·have e:(bt c6.toArray.size).all (λi=>bs.getD i false)=bs.all id:=by
   rw[aV,←hlen];have:bs=(bt bs.length).map λi=>bs.getD i false:=by
    apply l_;intro i;rw[bK];by_cases hi:i<bs.length
    ·rw[gJ hi,aU hi];show aa bs[i]=aa (bs.getD i false);rw[bF,aU hi];rfl
    ·rw[f_ `l,f_ (by simpa using hi)];rfl
   conv=>rhs;rw[this]
   rw[gG];rfl
  have I1:nA X ag σ H { s with heap:=h',toks:=tk }:=I.kept λb o e=>hk b o (λz=>by
   have z':b=s.heap.objs.size:=by simpa using z
   rw[z']at e;exact absurd (aT e) (c_ _)) (aN _ e)
  exact⟨.bl _,H,I1,by rw[e];exact rfl,q⟩
def ZA:oB X (.builtin "isinstance") (λxs H Q=>∃x t c b,xs=[x, .ty c]∧pZ X.K H x t∧gz X.K t (.type c)=aa b∧Q (.bl b) H):=by
 intro ag s σ H xs us Q I r h;obtain⟨x,t,c,b,rfl,ty,e,q⟩:=h;obtain⟨u,v,rfl,rx,ry⟩:=OY r;cases(show v=g9 c from ry);exact zsY I rx ty e λtk=>⟨.bl b,H,I.tok _,rfl,q⟩
def W8 (l:aj) (items:Array ai) (n:Nat) (b:aj) (items2:Array ai) (n2:Nat) (dd:Option aj) (sl:Array (Option ai)) (hs0:¬(!items.isEmpty&&fR (items.size+items2.size))=true) (hs1:items.size≤sizeLine) (hs2:items.size+items2.size≤sizeLine+1) :
  Meets (cE.«list.extend» ⟨[.ref l, .ref b],[]⟩) (λ_ R s=>s.heap.get? l=aa { cls:= .type "list",dict:=none,data:= .seq items n,slots:= #[] }∧s.heap.get? b=aa { cls:= .type "tuple",dict:=dd,data:= .seq items2 n2,slots:=sl }∧R (.ok (.ret cV)) { s with heap:=s.heap.update l (fi λx=>x++items2),toks:=s.toks }):=
 .of_wp λprog w A R s h=>by
  obtain⟨hp,g,d,tk,os⟩:=s;obtain⟨hl,hb,h⟩:=h;have f1:=AutoSeq1.idx_int;have f2:=AutoSeq1.sub_tuple_tuple;have f3:=AutoSeq1.sub_list_list;have f4:=AutoSeq1.sub_tuple_list;have f5:=AutoSeq1.sub_list_tuple;have hz':(items++items2).size≤sizeLine+1:=by rw[Array.size_append];exact hs2
  wp_walk using(wpAny_updateSeq hl rfl (hz:=hs1) (_hz':=hz')),lY hl,lY hb;exact⟨_,rfl,h⟩
def LY (K:am):V→List V→Hp→VK→Prop:=λx vs H Q=>∃l b xs zs,x= .ref l∧vs=[.ref b]∧H l=aa (.bx xs)∧pV K H b zs∧xs.length+zs.length≤sizeLine∧Q .bR (nY H l (.bx (xs++zs)))
def Zf:zQ X "list.extend" (LY X.K):=by
 intro ag s σ H x vs v us Q I rx rv h;obtain⟨l,b,xs,zs,rfl,rfl,hH,hB,hz,q⟩:=h;cases rx;obtain⟨u,rfl,ru⟩:=rv.one;cases ru;obtain⟨z,c6,n,r,hl,e⟩:=I.lstM hH;obtain⟨its2,r2,ht,hz2⟩:=I.tuple hB;obtain⟨⟨cls,dd,data,sl⟩,e2,hc,n2,hd⟩:=ht;simp only at hc hd;subst hc hd;have hl2:=r2.length;have hsz:c6.toArray.size+its2.toArray.size≤sizeLine:=by rw[aV,aV];lia
 have hlong:¬(!c6.toArray.isEmpty&&fR (c6.toArray.size+its2.toArray.size))=true:=by
  rw[GI hsz,eO];exact dy
 refine ef lq ⟨_,e,rfl⟩ lU (mZ _ _)
  (W8 l c6.toArray n b its2.toArray n2 dd sl hlong (by rw[aV];lia) `l) ⟨e,e2,?_⟩
 refine⟨.bR,_,I.lset (its':=c6++its2) hH e `s (r.append r2) ?_,rfl,q⟩;rw[aW];lia
def Pr (K:am):V→List V→Hp→VK→Prop:=λx vs H Q=>∃(z:ah) (b:aj) (ys:List ah),x= .str z∧vs=[.ref b]∧pJ K H b (ys.map V.str)∧(ys.map (·.length)).sum+ys.length*z.length≤16777216∧Q (.str (c8 z ys)) H
def Zh:∀{us:List ai},nE (ys.map V.str) us→StrsAre us ys:=by
 induction ys with
 |nil=>
  intro us r;cases r;exact .nil
 |cons y ys ih=>
  intro us r;cases r with
  |cons a b=>
   obtain⟨t,rfl⟩:=a;exact .cons y t (ih b)
def zyD:zQ X "str.join" (Pr X.K):=by
 intro ag s σ H x vs v us Q I rx rv h;obtain⟨z,b,ys,rfl,rfl,hB,hz,q⟩:=h;obtain⟨t,rfl⟩:=rx;obtain⟨u,rfl,ru⟩:=rv.one;cases ru;obtain⟨c6,r,pl,_⟩:=I.list hB;refine join_list pl.isList (by simpa using Zh r) hz λt' k=>⟨.str (c8 z ys),H,I.tok _,⟨t',?_⟩,q⟩;show eE (cE.Str.glued z ys) t'=_;rw[StrLaws.glued_eq_join]
inductive W where
  |bR |bl (b:Bool) |int (i:Int) |str (x:ah) |bH (ws:List W) |ref (a:aj) |b8 (ns:List Int)
inductive Ob where
  |bx (ws:List W)
  |dct (dP:List (List Int×W))
  |dk (dP:List (Key×W))
  |ins (cl:ah) (fs:List (ah×W))
abbrev gY:=aj→Option Ob
noncomputable def bz (S:gY) (a:aj) (o:Ob):gY:=λb=>if b=a then aa o else S b
def yz (K:am) (H:Hp) (a:aj) (xs:List V):Prop:=
 (∃o,H a=aa (.frz o (.bx xs)))∨
  ∃(o:aJ) (c6:Array ai) (n:Nat),K.lookup a=aa o∧o.cls= .type "list" ∧o.dict=none∧o.data= .seq c6 n∧c6.size≤sizeLine∧nE xs c6.toList
mutual
inductive oz (K:am) (H:Hp):W→V→Prop
 |bR:oz K H .bR .bR
 |bl (b:Bool):oz K H (.bl b) (.bl b)
 |int (i:Int):oz K H (.int i) (.int i)
 |str (x:ah):oz K H (.str x) (.str x)
 |ref (a:aj):oz K H (.ref a) (.ref a)
 |b8 {a:aj}{ns:List Int}:yz K H a (ns.map V.int)→oz K H (.b8 ns) (.ref a)
 |bH {a:aj}{vs:List V}{ws:List W}:H a=aa (.bH vs)→mE K H ws vs→oz K H (.bH ws) (.ref a)
inductive mE (K:am) (H:Hp):List W→List V→Prop
 |nil:mE K H [] []
 |cons {w:W}{v:V}{ws:List W}{vs:List V}:oz K H w v→mE K H ws vs→mE K H (w::ws) (v::vs)
end
structure oA (H:Hp) (S:gY) (H':Hp) (S':gY):Prop where
  bH:∀b xs,H b=aa (.bH xs)→H' b=aa (.bH xs)
  frz:∀b o u,H b=aa (.frz o u)→H' b=aa (.frz o u)
  fr:∀b xs,H b=aa (.bx xs)→S b=none→H' b=aa (.bx xs)∧S' b=none
  all:∀b o,H b=aa o→ ∃o',H' b=aa o'
def Sub (S S':gY):Prop:=∀a o,S a=aa o→S' a=aa o
section
variable {K:am}{H H' H1 H2:Hp}{S S' S1 S2:gY}
def nJ:bz S a o a=aa o:=by unfold bz;rw[if_pos rfl]
def oQ (h:b≠a):bz S a o b=S b:=by unfold bz;rw[if_neg h]
def qa:bz (bz S a o) a o'=bz S a o':=by funext b;unfold bz;split<;>rfl
def oA.refl:oA H S H S:=⟨λ_ _ h=>h,λ_ _ _ h=>h,λ_ _ h g=>⟨h,g⟩,λ_ o h=>⟨o,h⟩⟩
def oA.trans (a:oA H S H1 S1) (b:oA H1 S1 H2 S2):oA H S H2 S2:=⟨λc xs h=>b.bH c xs (a.bH c xs h),λc o u h=>b.frz c o u (a.frz c o u h),
 λc o h g=>by
  obtain⟨h1,g1⟩:=a.fr c o h g;exact b.fr c o h1 g1,λc o h=>by
  obtain⟨o1,h1⟩:=a.all c o h;exact b.all c o1 h1⟩
def oA.new (h:H p=none):oA H S (nY H p o) S:=
  ⟨λb xs e=>by rw[oV (qz e h)];exact e,λb ob u e=>by rw[oV (qz e h)];exact e,
   λb ob e g=>⟨by rw[oV (qz e h)];exact e,g⟩,λb ob e=>⟨ob,by rw[oV (qz e h)];exact e⟩⟩
def oA.newS (h:H p=none):oA H S (nY H p o) (bz S p ob):=
  ⟨λb xs e=>by rw[oV (qz e h)];exact e,λb ob u e=>by rw[oV (qz e h)];exact e,
   λb ob e g=>⟨by rw[oV (qz e h)];exact e,by rw[oQ (qz e h)];exact g⟩,λb ob e=>⟨ob,by rw[oV (qz e h)];exact e⟩⟩
def oA.mut (h:H p=aa u) (hs:S p=aa ob0) (ht:∀xs,u≠ .bH xs) (hf:∀ob q,u≠ .frz ob q):oA H S (nY H p o) (bz S p ob):=
  ⟨λb xs e=>by rw[oV (B5 e h λz=>ht xs z.symm)];exact e,λb ob q e=>by rw[oV (B5 e h λz=>hf ob q z.symm)];exact e,
   λb ob e g=>by
     have hb:b≠p:=by rintro rfl;rw[hs]at g;cases g
     exact⟨by rw[oV hb];exact e,by rw[oQ hb];exact g⟩,λb ob e=>by
     by_cases hb:b=p
     · subst hb;exact⟨o,pY⟩
     · exact⟨ob,by rw[oV hb];exact e⟩⟩
def oA.bx (h:H p=aa (.bx xs)) (hs:S p=aa ob0):oA H S (nY H p o) (bz S p ob):= .mut h hs (λ_ z=>nomatch z) λ_ _ z=>nomatch z
def oA.drop (h:Sub S' S):oA H S H S':=⟨λ_ _ h=>h,λ_ _ _ h=>h,λb o e g=>⟨e,by
 cases q:S' b with
 |none=>rfl
 |some z=>rw[h b z q]at g;cases g⟩,λ_ o h=>⟨o,h⟩⟩
def oA.free (e:oA H S H' S') (h:H' p=none):H p=none:=by
 cases q:H p with
 |none=>rfl
 |some o=>obtain⟨o',z⟩:=e.all p o q;rw[h]at z;cases z
def oA.fz (e:oA H S H' S') (h:yz K H a xs):yz K H' a xs:=by
 obtain ⟨o,h⟩ |h:=h
 ·exact .inl ⟨o,e.frz _ _ _ h⟩
 ·exact .inr h
def yz.sq (h:yz K H a xs):pJ K H a xs:=by
 obtain ⟨o,h⟩ |h:=h
 ·exact .inl (.inr ⟨o,h⟩)
 ·exact .inr h
def oz.ext (e:oA H S H' S') (h:oz K H w v):oz K H' w v:= @oz.rec K H (λw v _=>oz K H' w v) (λws vs _=>mE K H' ws vs) .bR .bl .int .str .ref (λh=> .b8 (e.fz h)) (λh _ g=> .bH (e.bH _ _ h) g) .nil (λ_ _ a b=> .cons a b) _ _ h
def mE.ext (e:oA H S H' S') (h:mE K H ws vs):mE K H' ws vs:= @mE.rec K H (λw v _=>oz K H' w v) (λws vs _=>mE K H' ws vs) .bR .bl .int .str .ref (λh=> .b8 (e.fz h)) (λh _ g=> .bH (e.bH _ _ h) g) .nil (λ_ _ a b=> .cons a b) _ _ h
def mE.length:∀{ws:List W}{vs:List V},mE K H ws vs→ws.length=vs.length:=λ{ws vs} h=>by
 induction ws generalizing vs with
 |nil=>cases h;rfl
 |cons w ws ih=>
  cases h with
  |cons _ hs=>exact congrArg (· +1) (ih hs)
theorem mE.get:∀{ws:List W}{vs:List V}{i:Nat}{w:W},mE K H ws vs→ws[i]? =aa w→ ∃v,vs[i]? =aa v∧oz K H w v
 |_,_,_,_, .nil,e=>by simp at e
 |_,_,0,_, .cons h _,e=>by simp at e;subst e;exact⟨_,rfl,h⟩
 |_,_,i+1,w, .cons _ hs,e=>by
  obtain⟨v,h1,h2⟩:=mE.get (i:=i) (w:=w) hs (by simpa using e);exact⟨v,by simpa using h1,h2⟩
def mE.append:∀{ws us:List W}{vs xs:List V},mE K H ws vs→mE K H us xs→mE K H (ws++us) (vs++xs):=λ{ws us vs xs} h g=>by
 induction ws generalizing vs with
 |nil=>cases h;exact g
 |cons w ws ih=>
  cases h with
  |cons r t=>exact .cons r (ih t)
theorem mE.take:∀{ws:List W}{vs:List V}(n:Nat),mE K H ws vs→mE K H (ws.take n) (vs.take n)
 |_,_,0,_=> .nil
 |_,_,_+1, .nil=> .nil
 |_,_,n+1, .cons r t=> .cons r (mE.take n t)
theorem mE.drop:∀{ws:List W}{vs:List V}(n:Nat),mE K H ws vs→mE K H (ws.drop n) (vs.drop n)
 |_,_,0,r=>r
 |_,_,_+1, .nil=> .nil
 |_,_,n+1, .cons _ t=>mE.drop n t
def mE.one (h:oz K H w v):mE K H [w] [v]:= .cons h .nil
theorem mE.ofInts:∀(ns:List Int),mE K H (ns.map W.int) (ns.map V.int)
 | []=> .nil
 |n::ns=> .cons (.int n) (mE.ofInts ns)
def mE.dropLast:∀{ws:List W}{vs:List V},mE K H ws vs→mE K H ws.dropLast vs.dropLast:=λ{ws vs} h=>by
 induction ws generalizing vs with
 |nil=>cases h;exact .nil
 |cons w ws ih=>
  cases h with
  |cons h t=>
   cases t with
   |nil=>exact .nil
   |cons h1 hs=>exact .cons h (ih (.cons h1 hs))
theorem mE.set (h:oz K H w v):∀{ws:List W}{vs:List V}(i:Nat),mE K H ws vs→mE K H (ws.set i w) (vs.set i v)
 |_,_,_, .nil=> .nil
 |_,_,0, .cons _ t=> .cons h t
 |_,_,i+1, .cons q t=> .cons q (mE.set h i t)
end
def tD (K:am) (H:Hp) (a:aj):Ob→Prop
 | .bx ws=>∃vs,H a=aa (.bx vs)∧mE K H ws vs
 | .dct dP=>∃ps:List (List Key×V),H a=aa (.dT ps)∧bh (λq p=>p.1=q.1.map Sum.inl∧oz K H q.2 p.2) dP ps
 | .dk dP=>∃ps:List (Key×V),H a=aa (.dK ps)∧bh (λq p=>p.1=q.1∧oz K H q.2 p.2) dP ps
 | .ins cl fs=>∃(C dx:aj) (ps:List (ah×V)),aX K aO cl=aa (aa (.ref C))∧H a=aa (.ins C dx ps)∧bh (λq p=>p.1=q.1∧oz K H q.2 p.2) fs ps
def nB (K:am) (H:Hp) (S:gY):Prop:=∀a o,S a=aa o→tD K H a o
section
variable {K:am}{H H':Hp}{S S' S0 S0':gY}{a b p:aj}{o:Ob}
def Sub.refl:Sub S S:=λ_ _ h=>h
def Sub.trans (h:Sub S1 S2) (g:Sub S2 S3):Sub S1 S3:=λa o e=>g a o (h a o e)
def Sub.new (h:S a=none):Sub S (bz S a o):=λb u e=>by rw[oQ (by rintro rfl;rw[h]at e;cases e)];exact e
def nB.sub (h:nB K H S') (q:Sub S S'):nB K H S:=λa o e=>h a o (q a o e)
def tD.some (h:tD K H a o):∃u,H a=aa u:=by
 cases o with
 |bx ws=>obtain⟨vs,e,_⟩:=h;exact⟨_,e⟩
 |dct dP=>obtain⟨vs,e,_⟩:=h;exact⟨_,e⟩
 |dk dP=>obtain⟨vs,e,_⟩:=h;exact⟨_,e⟩
 |ins C fs=>obtain⟨_,_,vs,_,e,_⟩:=h;exact⟨_,e⟩
def nB.free (h:nB K H S) (e:H p=none):S p=none:=by
 cases q:S p with
 |none=>rfl
 |some o=>obtain⟨u,z⟩:=(h p o q).some;rw[e]at z;cases z
def tD.keep (e:oA H S0 H' S0') (k:∀u,H a=m3 u→H' a=m3 u) (h:tD K H a o):tD K H' a o:=by
 cases o with
 |bx ws=>obtain⟨vs,e1,r⟩:=h;exact⟨vs,k _ e1,r.ext e⟩
 |dct dP=>obtain⟨vs,e1,r⟩:=h;exact⟨vs,k _ e1,Paired.mapP r λ_ _ z=>⟨z.1,z.2.ext e⟩⟩
 |dk dP=>obtain⟨vs,e1,r⟩:=h;exact⟨vs,k _ e1,Paired.mapP r λ_ _ z=>⟨z.1,z.2.ext e⟩⟩
 |ins C fs=>obtain⟨C,dx,vs,e0,e1,r⟩:=h;exact⟨C,dx,vs,e0,k _ e1,Paired.mapP r λ_ _ z=>⟨z.1,z.2.ext e⟩⟩
def nB.new (h:nB K H S) (e:H p=none):nB K (nY H p u) S:=λa o q=>
 (h a o q).keep (.new (S:=S) e) λv z=>by rw[oV (qz z e)];exact z
def nB.put_lst (h:nB K H S) (e:H p=none) (r:mE K (nY H p (.bx vs)) ws vs):nB K (nY H p (.bx vs)) (bz S p (.bx ws)):=λa o q=>by
 by_cases ha:a=p
 ·subst ha;rw[nJ]at q;cases q;exact⟨vs,pY,r⟩
 ·rw[oQ ha]at q;exact h.new e a o q
def nB.set_lst (h:nB K H S) (e:S a=aa (.bx ws0)) (r:mE K H ws vs):oA H S (nY H a (.bx vs)) (bz S a (.bx ws))∧nB K (nY H a (.bx vs)) (bz S a (.bx ws)):=by
 obtain⟨vs0,e0,_⟩:=h a _ e;have x:oA H S (nY H a (.bx vs)) (bz S a (.bx ws)):= .bx e0 e;refine⟨x,λb o q=>?_⟩;by_cases hb:b=a
 ·subst hb;rw[nJ]at q;cases q;exact⟨vs,pY,r.ext x⟩
 ·rw[oQ hb]at q;exact(h b o q).keep x λu z=>by rw[oV hb];exact z
end
abbrev nK:=List (Option W)
abbrev WK:=W→gY→Prop
abbrev WX:=ah→nK→gY→Prop
abbrev WE:=WX→nK→gY→WK→Prop
abbrev WT:=WX→nK→gY→(Bool→gY→Prop)→Prop
abbrev WA:=WX→nK→gY→(List W→gY→Prop)→Prop
structure nQ where
  nx:nK→gY→Prop
  rt:WK
  bk:nK→gY→Prop:=λ_ _=>False
  ct:nK→gY→Prop:=λ_ _=>False
abbrev WS:=WX→nQ→nK→gY→Prop
abbrev WG:=W→nK→gY→(nK→gY→Prop)→Prop
abbrev nD:=List W→gY→WK→(ah→gY→Prop)→Prop
abbrev WI:=WX→nK→gY→(List W→(gY→Prop)→gY→Prop)→Prop
abbrev WL:=WX→nK→gY→(List W→gY→Prop)→Prop
def yi (K:am) (H:Hp):Option W→Option V→Prop
 |none,_=>True
 |some w,aa v=>oz K H w v
 |some _,none=>False
def n9 (K:am) (H:Hp) (σW:nK) (σ:St):Prop:=bh (yi K H) σW σ
section
variable {K:am}{H H':Hp}{S S':gY}
theorem yi.ext (e:oA H S H' S'):∀{w:Option W}{v:Option V},yi K H w v→yi K H' w v
 |none,_,_=>trivial
 |some _,aa _,h=>oz.ext e h
 |some _,none,h=>h.elim
def n9.ext (e:oA H S H' S') (h:n9 K H σW σ):n9 K H' σW σ:=Paired.mapP h λ_ _ r=>yi.ext e r
theorem n9.get:∀{σW:nK}{σ:St}{i:Nat}{w:W},n9 K H σW σ→σW[i]? =aa (aa w)→ ∃v,σ[i]? =aa (aa v)∧oz K H w v
 |_,_,_,_, .nil,e=>by simp at e
 |_,_,0,_, .cons (b:=b) h _,e=>by
  simp at e;subst e;cases b with
  |none=>exact(show False from h).elim
  |some v=>exact⟨v,rfl,h⟩
 |_,_,i+1,w, .cons _ hs,e=>by
  obtain⟨v,h1,h2⟩:=n9.get (i:=i) (w:=w) hs (by simpa using e);exact⟨v,by simpa using h1,h2⟩
theorem n9.set (h:oz K H w v):∀{σW:nK}{σ:St}(i:Nat),n9 K H σW σ→n9 K H (σW.set i (aa w)) (σ.set i (aa v))
 |_,_,_, .nil=> .nil
 |_,_,0, .cons _ t=> .cons h t
 |_,_,i+1, .cons q t=> .cons q (n9.set h i t)
end
def pj (K:am) (H:Hp) (S:gY) (QW:WK) (Q:VK):Prop:=∀w S' v H',oA H S H' S'→oz K H' w v→nB K H' S'→QW w S'→Q v H'
def CH (K:am) (t:nK→gY→WK→Prop):TE:=λσ H Q=>∃σW S QW,n9 K H σW σ∧nB K H S∧t σW S QW∧pj K H S QW Q
def EK (K:am) (t:nK→gY→(Bool→gY→Prop)→Prop):TT:=λσ H Q=>∃σW S QW,n9 K H σW σ∧nB K H S∧t σW S QW∧ ∀b S' H',oA H S H' S'→nB K H' S'→QW b S'→Q b H'
def TX (K:am) (t:nK→gY→(List W→gY→Prop)→Prop):TA:=λσ H Q=>∃σW S QW,n9 K H σW σ∧nB K H S∧t σW S QW∧ ∀ws S' vs H',oA H S H' S'→mE K H' ws vs→nB K H' S'→QW ws S'→Q vs H'
def qV (K:am) (H:Hp) (S:gY) (P:nK→gY→Prop) (Q:St→Hp→Prop):Prop:=∀σW S' σ H',oA H S H' S'→n9 K H' σW σ→nB K H' S'→P σW S'→Q σ H'
structure Meets (K:am) (H:Hp) (S:gY) (DW:nQ) (D:tw):Prop where
  nx:qV K H S DW.nx D.nx
  rt:pj K H S DW.rt D.rt
  bk:qV K H S DW.bk D.bk
  ct:qV K H S DW.ct D.ct
def LR (K:am) (t:nQ→nK→gY→Prop):TS:=λD σ H=>∃σW S DW,n9 K H σW σ∧nB K H S∧t DW σW S∧Meets K H S DW D
def Y9 (K:am) (t:WG):TG:=λv σ H Q=>∃w σW S P,oz K H w v∧n9 K H σW σ∧nB K H S∧t w σW S P∧qV K H S P Q
def xK (K:am) (J:It) (ws:List W) (G:gY→Prop) (H0:Hp) (S0:gY):Prop:=∀i S H,oA H0 S0 H S→nB K H S→G S→
 (∀w,ws[i]? =aa w→J.go i H∧ ∀x H',J.yld i H x H'→oA H S H' S∧nB K H' S∧oz K H' w x)∧(i=ws.length→J.stop i H)
def JJ (K:am) (t:nK→gY→(List W→(gY→Prop)→gY→Prop)→Prop):TI:=λσ H R=>∃σW S QW,n9 K H σW σ∧nB K H S∧t σW S QW∧
 ∀ws G S' J H',oA H S H' S'→nB K H' S'→G S'→xK K J ws G H' S'→QW ws G S'→R J H'
def J7 (K:am) (t:nK→gY→(List W→gY→Prop)→Prop):TE:=λσ H Q=>∃σW S QW,n9 K H σW σ∧nB K H S∧t σW S QW∧
 ∀ws S' vs a H',oA H S H' S'→H a=none→H' a=aa (.bx vs)→S' a=none→mE K H' ws vs→nB K H' S'→QW ws S'→Q (.ref a) H'
def rJ (K:am) (sp:nD):Sp:=λvs H Q E=>∃ws S QW EW,mE K H ws vs∧nB K H S∧sp ws S QW EW∧pj K H S QW Q∧
 ∀cl C S' H',aX K aO cl=aa (aa (.ref C))→nB K H' S'→EW cl S'→E (.ref C) none H'
def Ci (g h:aH) (H:Hp) (a C:aj):Prop:=g.get? a=none∧H a=none∧ ∃oe vs T oT ts,h.get? a=aa oe∧oe.cls= .ref C∧oe.data= .fields vs∧vs[1]? =aa (.ref T)∧
 g.get? T=none∧H T=none∧T≠a∧h.get? T=aa oT∧oT.data= .fields ts∧ts[3]? =aa .none
def rW (P:aY) (w:aP):yO:=λouter H s E e s'=>∃a C H',e= .ref a∧s'.os=s.os∧cS s'.gens∧Un (frs outer) [] H H' s.heap s'.heap∧ph P w H' s'.heap∧Ci s.heap s'.heap H' a C∧E (.ref C) none H'
structure pK (X:Cx) (E:WX):Prop where
  own:fB (aC X.prog X.w) X.A X.env X.xe
  far:∀(ag:List (aj×aJ)) (σ:St) (H:Hp) (s:ao) (σW:nK) (cl:ah) (C a:aj) (H':Hp) (S':gY) (s':ao),nA X ag σ H s→n9 X.K H σW σ→aX X.K aO cl=aa (aa (.ref C))→
    s'.os=s.os→cS s'.gens→Un (frs X.stack) [] H H' s.heap s'.heap→ph X.prog X.w H' s'.heap→Ci s.heap s'.heap H' a C→nB X.K H' S'→E cl σW S'→X.xe (.ref a) s'
  near:∀(ag:List (aj×aJ)) (σ:St) (H:Hp) (s:ao) (σW:nK) (cl:ah) (C a:aj) (S:gY) (h':aH) (args:List ai),nA X ag σ H s→n9 X.K H σW σ→aX X.K aO cl=aa (aa (.ref C))→
    aH.MadeExcOf s.heap h' a (.ref C) args→nB X.K H S→E cl σW S→X.xe (.ref a) { s with heap:=h' }
def JE (X:Cx) (e:Expr) (t:WE):Prop:=∀E,pK X E→PE X e (CH X.K (t E))
def JT (X:Cx) (e:Expr) (t:WT):Prop:=∀E,pK X E→PT X e (EK X.K (t E))
def JW (X:Cx) (e:Expr) (t:WT):Prop:=∀E,pK X E→PW X e (EK X.K (t E))
def JA (X:Cx) (es:List Expr) (t:WA):Prop:=∀E,pK X E→PA X es (TX X.K (t E))
def JS (X:Cx) (st:bg) (t:WS):Prop:=∀E,pK X E→PS X st (LR X.K (t E))
def uj (X:Cx) (st:List bg) (t:WS):Prop:=∀E,pK X E→se X st (LR X.K (t E))
def JG (X:Cx) (tg:Expr) (t:WG):Prop:=∀E,pK X E→PG X tg (Y9 X.K t)
def JI (X:Cx) (tg iter:Expr) (t:WI):Prop:=∀E,pK X E→PI X tg iter (JJ X.K (t E))
def JL (X:Cx) (e:Expr) (t:WL):Prop:=∀E,pK X E→PE X e (J7 X.K (t E))
def PE.mono (h:PE X e t) (q:∀σ H Q,t' σ H Q→t σ H Q):PE X e t':=λag s σ H Q I z=>h ag s σ H Q I (q σ H Q z)
def PT.mono (h:PT X e t) (q:∀σ H Q,t' σ H Q→t σ H Q):PT X e t':=λag s σ H Q I z=>h ag s σ H Q I (q σ H Q z)
def PW.mono (h:PW X e t) (q:∀σ H Q,t' σ H Q→t σ H Q):PW X e t':=λwh ag s σ H Q I z=>h wh ag s σ H Q I (q σ H Q z)
def PA.mono (h:PA X e t) (q:∀σ H Q,t' σ H Q→t σ H Q):PA X e t':=λpos ag s σ H Q I z=>h pos ag s σ H Q I (q σ H Q z)
def PS.mono (h:PS X e t) (q:∀D σ H,t' D σ H→t D σ H):PS X e t':=λag s σ H D I z=>h ag s σ H D I (q D σ H z)
def se.mono (h:se X e t) (q:∀D σ H,t' D σ H→t D σ H):se X e t':=λag s σ H D I z=>h ag s σ H D I (q D σ H z)
def PG.mono (h:PG X e t) (q:∀v σ H Q,t' v σ H Q→t v σ H Q):PG X e t':=λag s σ H v u Q I r z=>h ag s σ H v u Q I r (q v σ H Q z)
def PI.mono (h:PI X tg e t) (q:∀σ H R,t' σ H R→t σ H R):PI X tg e t':=λag s σ H R I z=>h ag s σ H R I (q σ H R z)
def eQ (i:Nat) (_:WX) (σ:nK) (S:gY) (Q:WK):Prop:=match σ[i]? with
 |some (aa w)=>Q w S
 |_=>False
def wC (w:W) (_:WX) (_:nK) (S:gY) (Q:WK):Prop:=Q w S
section
variable {X:Cx}
def jv (i:Nat) (hN:X.N[i]? =aa x) (hv:xT X.env.scope x:=by first |exact gO rfl |exact fJ (gO rfl) |exact fJ (fJ rfl)) (hd:(x == ("__debug__" :ah))=false:=by decide)
  (hcd:(x == ("__classdict__" :ah))=false:=by decide):JE X (.Name x pos) (eQ i):=λE hE=>(Iu hN hv hd hcd).mono λσ H Q zz=>oF zz λσW S QW hσ hS ht hQ=>by
 unfold eQ at ht;split at ht
 ·rename_i w e;obtain⟨v,e',r⟩:=hσ.get e;exact⟨v,e',hQ w S v H .refl r hS ht⟩
 ·exact ht.elim
def yn (h:PE X e (tC v)) (r:∀K H,oz K H w v):JE X e (wC w):=λE hE=>h.mono λσ H Q zz=>oF zz λσW S QW hσ hS ht hQ=>hQ w S v H .refl (r _ _) hS ht
def U6{i j pos}:JE X (.Constant (.int i) j pos) (wC (.int i)):=yn Vf λ_ _=> .int i
def UM{b j pos}:JE X (.Constant (.bool b) j pos) (wC (.bl b)):=yn zFK λ_ _=> .bl b
def V5{j pos}:JE X (.Constant .none j pos) (wC .bR):=yn X3 λ_ _=> .bR
def Vz{x j pos}:JE X (.Constant (.str x) j pos) (wC (.str x)):=yn YX λ_ _=> .str x
def Up (hg:Gl X x) (hm:X.mg x=aa (.int i u)) (hd:(x == ("__debug__" :ah))=false):JE X (.Name x pos) (wC (.int i)):=yn (v:= .int i) (OI hg hm ⟨u,rfl⟩ hd) λ_ _=> .int i
def Z8 (hg:Gl X x) (hm:X.mg x=aa (.str i u)) (hd:(x == ("__debug__" :ah))=false):JE X (.Name x pos) (wC (.str i)):=yn (v:= .str i) (OI hg hm ⟨u,rfl⟩ hd) λ_ _=> .str i
end
abbrev W2:=W→W→gY→WK→Prop
def wOp (r:W2) (a b:WE) (E:WX) (σ:nK) (S:gY) (Q:WK):Prop:=a E σ S λx S1=>b E σ S1 λy S2=>r x y S2 Q
def su (K:am) (r:R2) (wr:W2):Prop:=∀H x y wx wy S (Q:VK) (QW:WK),oz K H wx x→oz K H wy y→nB K H S→wr wx wy S QW→pj K H S QW Q→r x y H Q
def pj.from{K:am}{H H':Hp}{S S':gY}{QW:WK}{Q:VK}(h:pj K H S QW Q) (e:oA H S H' S'):pj K H' S' QW Q:=λw S v H'' e' r hS q=>h w S v H'' (e.trans e') r hS q
def qV.from{K:am}{H H':Hp}{S S':gY}{P:nK→gY→Prop}{Q:St→Hp→Prop}(h:qV K H S P Q) (e:oA H S H' S'):qV K H' S' P Q:=λσW S σ H'' e' r hS q=>h σW S σ H'' (e.trans e') r hS q
def Meets.from{K:am}{H H':Hp}{S S':gY}{DW:nQ}{D:tw}(h:Meets K H S DW D) (e:oA H S H' S'):Meets K H' S' DW D:=⟨h.nx.from e,h.rt.from e,h.bk.from e,h.ct.from e⟩
section
variable {X:Cx}{a b:Expr}{pos:bi}
def DP{K:am}{ta tb:nK→gY→WK→Prop}{wr:W→W→gY→WK→Prop}{σ:St}{H:Hp}{Q:VK}{R:V→V→Hp→Prop}
  (h:CH K (λσ S Q=>ta σ S λx S1=>tb σ S1 λy S2=>wr x y S2 Q) σ H Q)
  (hR:∀H2 x y wx wy S (QW:WK),oz K H2 wx x→oz K H2 wy y→nB K H2 S→wr wx wy S QW→pj K H2 S QW Q→R x y H2) :
  CH K ta σ H λx H1=>CH K tb σ H1 λy H2=>R x y H2:=by
 obtain⟨σW,S,QW,hσ,hS,ht,hQ⟩:=h;refine⟨σW,S,_,hσ,hS,ht,λw1 S1 v1 H1 e1 r1 d5 h1=>?_⟩;refine⟨σW,S1,_,hσ.ext e1,d5,h1,λw2 S2 v2 H2 e2 r2 hS2 h2=>?_⟩;exact hR H2 v1 v2 w1 w2 S2 QW (r1.ext e2) r2 hS2 h2 (hQ.from (e1.trans e2))
def zd (ho:o8 X (ck op) r) (hw:su X.K r wr) (ha:JE X a ta) (hb:JE X b tb):JE X (.BinOp a op b pos) (wOp wr ta tb):=λE hE=>
 (Ay ho (ha E hE) (hb E hE)).mono λσ H Q h=>DP h λH2 x y wx wy S QW rx ry hS q hQ=>hw H2 x y wx wy S Q QW rx ry hS q hQ
def zDz (ho:o8 X (bD op) r) (hw:su X.K r wr) (ha:JE X a ta) (hb:JE X b tb) (hm:gi op b=false):JE X (.Compare a [op] [b] pos) (wOp wr ta tb):=λE hE=>
 (T2 ho (ha E hE) (hb E hE) hm).mono λσ H Q h=>DP h λH2 x y wx wy S QW rx ry hS q hQ=>hw H2 x y wx wy S Q QW rx ry hS q hQ
end
def nZ.ex (x:nZ P w H h a o):∃u,h.get? a=aa u:=by
 cases o with
 |bx xs=>obtain⟨_,_,_,_,e⟩:=x;exact⟨_,e⟩
 |bH xs=>obtain⟨_,_,_,o,e,_⟩:=x;exact⟨_,e⟩
 |dK dP=>obtain⟨_,_,_,_,o,_,_,e,_⟩:=x;exact⟨_,e⟩
 |dT dP=>obtain⟨_,_,_,_,o,_,_,e,_⟩:=x;exact⟨_,e⟩
 |set S n=>obtain⟨o,_,_,_,e,_⟩:=x;exact⟨_,e⟩
 |ins C dx fs=>obtain⟨_,_,_,e,_⟩:=x;exact⟨_,e⟩
 |own y=>exact x
 |xd fs=>obtain⟨_,⟨_,_,_,e,_⟩,_⟩:=x;exact⟨_,e⟩
 |rng lo hi=>obtain⟨_,_,_,e⟩:=x;exact⟨_,e⟩
 |frz ob u=>obtain⟨e,_⟩:=x;exact⟨_,e⟩
 |tbl ps=>exact⟨_,show h.get? a=aa _ from x⟩
 |met f y=>exact⟨_,show h.get? a=aa _ from x⟩
 |ext φ=>exact x.2.1
noncomputable def unt (H:Hp) (S:gY):Hp:=λb=>match H b with
 |some (.bx xs)=>match S b with
  |none=>none
  |some _=>aa (.bx xs)
 |o=>o
noncomputable def qW (H:Hp) (S:gY) (H':Hp):Hp:=λb=>match unt H S b with
 |none=>match H b with
  |some o=>aa o
  |none=>H' b
 |some _=>match H' b with
  |some o=>aa o
  |none=>aa (.ext λh=>∃o,h.get? b=aa o)
section
variable {w:aP}{K:am}{H:Hp}{S:gY}{h:aH}{b:aj}{o:HO}
def NO (e:unt H S b=aa o):H b=aa o:=by
 unfold unt at e;split at e
 ·rename_i xs q;split at e
  ·cases e
  ·rw[q];exact e
 ·exact e
def uS (e:H b=none):unt H S b=none:=by unfold unt;rw[e]
def Ck (e:H b=aa o) (n:∀xs,o≠ .bx xs):unt H S b=aa o:=by
 unfold unt;rw[e];cases o<;>first |rfl |exact absurd rfl (n _)
def CV (e:H b=aa o) (hs:S b=aa u):unt H S b=aa o:=by
 unfold unt;rw[e];cases o<;>first |rfl | (dsimp only;rw[hs])
def Nm (e:H b=aa (.bx xs)) (hs:S b=none):unt H S b=none:=by
 unfold unt;rw[e];dsimp only;rw[hs]
def TD (e:unt H S b=none) (q:H b=aa o):(∃xs,o= .bx xs)∧S b=none:=by
 unfold unt at e;rw[q]at e;cases o<;>first |cases e |skip;rename_i xs;dsimp only at e;split at e
 ·exact⟨⟨xs,rfl⟩, ‹_›⟩
 ·cases e
mutual
theorem oz.mv{H1:Hp}(t:∀b xs,H b=aa (.bH xs)→H1 b=aa (.bH xs)) (f:∀b o u,H b=aa (.frz o u)→H1 b=aa (.frz o u)) {w:W}{v:V}:oz K H w v→oz K H1 w v
 | .bR=> .bR
 | .bl b=> .bl b
 | .int i=> .int i
 | .str x=> .str x
 | .ref a=> .ref a
 | .b8 h=> .b8 (by
  obtain ⟨o,h⟩ |h:=h
  ·exact .inl ⟨o,f _ _ _ h⟩
  ·exact .inr h)
 | .bH h hs=> .bH (t _ _ h) (mE.mv t f hs)
theorem mE.mv (t:∀b xs,H b=aa (.bH xs)→H1 b=aa (.bH xs)) (f:∀b o u,H b=aa (.frz o u)→H1 b=aa (.frz o u)):mE K H ws vs→mE K H1 ws vs
 | .nil=> .nil
 | .cons h hs=> .cons (oz.mv t f h) (mE.mv t f hs)
end
def wD:∀b xs,H b=aa (.bH xs)→unt H S b=aa (.bH xs):=λb xs e=>Ck e λ_ z=>nomatch z
def wN:∀b o u,H b=aa (.frz o u)→unt H S b=aa (.frz o u):=λb o u e=>Ck e λ_ z=>nomatch z
def nB.unt (r:nB K H S):nB K (unt H S) S:=λa o e=>by
 have q:=r a o e;cases o with
 |bx ws=>obtain⟨vs,z,rs⟩:=q;exact⟨vs,CV z e,mE.mv wD wN rs⟩
 |dct dP=>obtain⟨ps,z,rs⟩:=q;exact⟨ps,CV z e,Paired.mapP rs λ_ _ z=>⟨z.1,oz.mv wD wN z.2⟩⟩
 |dk dP=>obtain⟨ps,z,rs⟩:=q;exact⟨ps,CV z e,Paired.mapP rs λ_ _ z=>⟨z.1,oz.mv wD wN z.2⟩⟩
 |ins C fs=>obtain⟨C,dx,ps,z0,z,rs⟩:=q;exact⟨C,dx,ps,z0,CV z e,Paired.mapP rs λ_ _ z=>⟨z.1,oz.mv wD wN z.2⟩⟩
def ph.unt (x:ph P w H h):ph P w (unt H S) h:=λa o e=>
 (x a o (NO e)).stay (λ_ _ _ q=>q) (λb q=>Ck q λ_ z=>nomatch z) λb xs q=>wD b xs q
def uF (ok:ph P w H h) (un:Un fs [] (unt H S) H' h h') (e:H' b=aa o):qW H S H' b=aa o:=by
 unfold qW;split
 ·rename_i q;split
  ·rename_i u z;obtain⟨ob,eo⟩:=(ok b u z).ex;rw[un.free b ob eo q `s]at e;cases e
  ·exact e
 ·rw[e]
def zb (un:Un fs [] (unt H S) H' h h') (ok:ph P w H h):Un fs [] H (qW H S H') h h' where
  keep:=λb o e n hb hx=>un.keep b o e (uS n) hb hx
  slot:=λb o e n hb hx=>un.slot b o e (uS n) hb hx
  free:=λb o e n hx=>by
    unfold qW;rw[uS n,n];exact un.free b o e (uS n) hx
  there:=un.there
  tups:=λb xs e=>uF ok un (un.tups b xs (wD b xs e))
  frzs:=λb o u e=>uF ok un (un.frzs b o u (wN b o u e))
  tbls:=λb ps e=>by
    obtain⟨m,z⟩:=un.tbls b ps (Ck e λ_ z=>nomatch z);exact⟨m,uF ok un z⟩
def Dh (un:Un fs [] (unt H S) H' h h') (ok:ph P w H h) (ok':ph P w H' h') (hf:∀b∈fs,H b=none):ph P w (qW H S H') h':=λb o e=>by
 have back:∀{o},H' b=aa o→nZ P w (qW H S H') h' b o:=λ{o} q=>(ok' b o q).stay (λ_ _ _ z=>z) (λc z=>uF ok un z) λc xs z=>uF ok un z;unfold qW at e;split at e
 ·rename_i q;split at e
  ·rename_i u z;cases e;obtain⟨⟨xs,rfl⟩,_⟩:=TD q z;obtain⟨l,c6,n,r,g⟩:=ok b _ z;exact⟨l,c6,n,r,un.keep b _ g q (λhb=>by rw[hf b hb]at z;cases z) `s⟩
  ·exact back e
 ·rename_i u q;split at e
  ·rename_i u' z;cases e;exact back z
  ·rename_i z;cases e;obtain⟨ob,eo⟩:=(ok b u (NO q)).ex;obtain⟨ob',eo'⟩:=un.there b ob eo `s;exact⟨⟨ob',eo'⟩,⟨ob',eo'⟩,λh1 h2 ⟨o,z⟩ k=>⟨o,k o z⟩⟩
def Xx (e:H b=aa o):∃o',qW H S H' b=aa o':=by
 unfold qW;split
 ·rw[e];exact⟨_,rfl⟩
 ·split
  ·exact⟨_,rfl⟩
  ·exact⟨_,rfl⟩
def Gg (un:Un fs [] (unt H S) H' h h') (ok:ph P w H h) (r:nB K H' S'):oA H S (qW H S H') S' where
  bH:=λb xs e=>(zb un ok).tups b xs e
  frz:=λb o u e=>(zb un ok).frzs b o u e
  fr:=λb xs e hs=>by
    refine⟨?_,?_⟩
    · unfold qW;rw[Nm e hs,e]
    · cases q:S' b with
      |none=>rfl
      |some u=>
        obtain⟨v,z⟩:=(r b u q).some;obtain⟨ob,eo⟩:=(ok b _ e).ex;rw[un.free b ob eo (Nm e hs) `s]at z;cases z
  all:=λb o e=>Xx e
def Jb (un:Un fs [] (unt H S) H' h h') (ok:ph P w H h):oA H' S' (qW H S H') S' where
  bH:=λb xs e=>uF ok un e
  frz:=λb o u e=>uF ok un e
  fr:=λb xs e hs=>⟨uF ok un e,hs⟩
  all:=λb o e=>⟨o,uF ok un e⟩
def D8 (un:Un fs [] (unt H S) H' h h') (ok:ph P w H h) (r:nB K H' S'):nB K (qW H S H') S':=λa o e=>(r a o e).keep (Jb (S':=S') un ok) λu z=>uF ok un z
end
def TL{X:Cx}{k:Nat}{f:aj}{fd:cK}{ps:List ah}{c:nD}{E:WX}{ag:List (aj×aJ)}{σ:St}{σW:nK}{H:Hp}{S:gY}{s:ao}{Q:VK}{QW:WK}{us:List ai}{vs:List V}{ws:List W}
  (F:pe X.prog X.w X.K X.mg X.base (rW X.prog X.w) k f fd ps (rJ X.K c)) (hr:oK k X.A) (hb:pf X.K fd ps []) (I:nA X ag σ H s) (r:nE vs us) (rs:mE X.K H ws vs) (hσ:n9 X.K H σW σ) (hS:nB X.K H S)
  (h:c ws S QW λcl S'=>E cl σW S') (hQ:pj X.K H S QW Q)
  (hx:∀(cl:ah) (C a:aj) (H':Hp) (S':gY) (s':ao),aX X.K aO cl=aa (aa (.ref C))→s'.os=s.os→cS s'.gens→Un (frs X.stack) [] H H' s.heap s'.heap→ph X.prog X.w H' s'.heap→Ci s.heap s'.heap H' a C→oA H S H' S'→nB X.K H' S'→E cl σW S'→X.xe (.ref a) s'):ax (aC X.prog X.w) X.A (call (.ref f) us) (EP X ag σ Q) X.xe s:=by
 have e0:=I.env0;have sp:rJ X.K c vs (unt H S) (λv H'=>∃w S',oz X.K H' w v∧nB X.K H' S'∧QW w S') (λcv _ H'=>∃cl C S',cv= .ref C∧aX X.K aO cl=aa (aa (.ref C))∧nB X.K H' S'∧E cl σW S'):=
  ⟨ws,S,QW,_,mE.mv wD wN rs,hS.unt,h,λw S' v H' _ r1 r2 q=>⟨w,S',r1,r2,q⟩,λcl C S' H' hn hS' q=>⟨cl,C,S',rfl,hn,hS',q⟩⟩
 have e1:rB X.prog X.w X.K X.mg X.base X.A X.stack s (unt H S):=⟨e0.frames,e0.mod,λb o e=>⟨(e0.bs b o e).1,uS (e0.bs b o e).2⟩,e0.bsz,e0.funs,λb hb=>uS (e0.frf b hb),e0.b6.unt,e0.bare⟩;have hl:us.length=ps.length:=by rw[←r.length];exact F.len _ _ _ _ sp
 have hb':=hb s us I.kIn (by rw[bC];exact hl);rw[bC]at hb';refine wpAny_call (iD (F.run X.A X.stack s (unt H S) ⟨us,[]⟩ us vs _ _ hr e1 hb' r sp) λrr s' hq=>?_);cases rr with
 |error e=>
  obtain⟨a,C,H',rfl,os,bare,un,ok',fly,cl,C',S',ec,hn,hS',q⟩:=hq;cases ec;refine hx cl C a (qW H S H') S' s' hn os bare (zb un I.b6) (Dh un I.b6 ok' e0.frf) ?_ (Gg un I.b6 hS') (D8 un I.b6 hS') q;obtain⟨g1,g2,oe,vs',T,oT,ts,a1,a2,a3,a4,a5,a6,a7⟩:=fly;have free:∀{b:aj},s.heap.get? b=none→H' b=none→qW H S H' b=none:=λ{b} q1 q2=>by
   have hn:H b=none:=by
    cases z:H b with
    |none=>rfl
    |some u=>obtain⟨ob,eo⟩:=(I.b6 b u z).ex;rw[q1]at eo;cases eo
   unfold qW;rw[uS hn,hn];exact q2
  exact⟨g1,free g1 g2,oe,vs',T,oT,ts,a1,a2,a3,a4,a5,free a5 a6,a7⟩
 |ok fl=>
  cases fl with
  |ret u=>
   obtain⟨v,H',os,bare,un,ok',rv,w,S',r1,r2,q⟩:=hq;exact⟨v,qW H S H',I.call' os (zb un I.b6) (Dh un I.b6 ok' e0.frf) bare (λ_ z=>nomatch z),rv,hQ w S' v _ (Gg un I.b6 r2) (r1.ext (Jb (S':=S') un I.b6)) (D8 un I.b6 r2) q⟩
  |next=>exact cp hq
  |brk=>exact cp hq
  |cont=>exact cp hq
def F_ 
  (F:pe X.prog X.w X.K X.mg X.base (rW X.prog X.w) k f fd ps (rJ X.K c)) (hr:oK k X.A) (hb:pf X.K fd ps []) (hE:pK X E) (I:nA X ag σ H s) (r:nE vs us) (rs:mE X.K H ws vs) (hσ:n9 X.K H σW σ) (hS:nB X.K H S)
  (h:c ws S QW λcl S'=>E cl σW S') (hQ:pj X.K H S QW Q):ax (aC X.prog X.w) X.A (call (.ref f) us) (EP X ag σ Q) X.xe s:=
 TL (E:=E) F hr hb I r rs hσ hS h hQ λcl C a H' S' s' hn os bare un ok fly _ hS' q=>hE.far ag σ H s σW cl C a H' S' s' I hσ hn os bare un ok fly hS' q
def MX (I:nA X ag σ H' s') (hst:X.stack=X.env::X.outer) (hf:X.env.frame=aa X.env.locals) (hex:X.ex=[])
  (h0:∀b∈hid,X.s₀.heap.get? b=none∧H' b=none) (ha:a∈hid) (L:aH.Left (gc s'.heap (hid++frs X.stack)) X.stack a (.ref C) s'.heap h') :
  Un X.fs [] X.H₀ H' X.s₀.heap h'∧ph X.prog X.w H' h'∧Ci X.s₀.heap h' H' a C:=by
 obtain⟨st,ff,tr,sl⟩:=L;have keepB:∀b o,s'.heap.get? b=aa o→b∉hid→b∉frs X.stack→h'.get? b=aa o:=λb o e h1 h2=>st b o (kF _ e λz=>(bv.mp z).elim h1 h2);have nh:∀b o,X.s₀.heap.get? b=aa o→b∉hid:=λb o e hb=>by rw[(h0 b hb).1]at e;cases e
 have slotB:∀b o,b∈frs X.stack→s'.heap.get? b=aa o→ ∃sl,h'.get? b=aa { o with slots:=sl }:=λb o hb e=>by
  obtain⟨_,o',eo',nf⟩:=I.stack.mem hb;rw[e]at eo';cases eo';exact sl b o e nf
 have nx:∀b:aj,b∉X.ex:=λb=>by rw[hex];simp
 have fsS:∀b∈X.fs,b∈frs X.stack:=λb hb=>by
  rw[hst];unfold frs;rw[iy,hf];exact aI _ hb
 refine⟨⟨λb o e n hb _=>?_,λb o e n hb _=>?_,λb o e n _=>I.base.free b o e n (nx b),λb o e _=>?_,I.base.tups,I.base.frzs,I.base.tbls⟩,λb o e=>?_,(h0 a ha).1,(h0 a ha).2,?_⟩
 ·refine keepB b o (I.base.keep b o e n hb (nx b)) (nh b o e) λz=>?_;obtain q |q:=az.mp (I.stkSub b z)
  ·exact absurd (b_ (aT e) I.ok.above) (by rw[q];exact c_ _)
  ·exact hb q
 ·obtain⟨sl1,e1⟩:=I.base.slot b o e n hb (nx b);obtain⟨sl2,e2⟩:=slotB b _ (fsS b hb) e1;exact⟨sl2,e2⟩
 ·obtain⟨o',e1⟩:=I.base.there b o e (nx b);by_cases hb:b∈frs X.stack
  ·obtain⟨sl2,e2⟩:=slotB b _ hb e1;exact⟨_,e2⟩
  ·exact⟨o',keepB b o' e1 (nh b o e) hb⟩
 ·refine(I.b6 b o e).stay (λc u hc q=>?_) (λ_ q=>q) λ_ _ q=>q;have tk:∃v,H' c=aa v:=by
   obtain z |z:=hc
   ·exact⟨o,by rw[z];exact e⟩
   ·exact⟨_,z⟩
  obtain⟨v,tk⟩:=tk;exact keepB c u q (λz=>by rw[(h0 c z).2]at tk;cases tk) λz=>by rw[I.stkFree c z]at tk;cases tk
 ·obtain⟨oe,vs,T,oT,ts,e1,e2,e3,e4,e5,e6,e7,e8,e9⟩:=tr;have nf:T∉frs X.stack:=λhb=>by
   obtain⟨_,o,eo,nf⟩:=ff.mem hb;rw[e7]at eo;cases eo;exact nf ts e8
  have both:X.s₀.heap.get? T=none∧H' T=none:=by
   by_cases hT:T∈hid
   ·exact h0 T hT
   ·have z:s'.heap.get? T=none:=by
     cases q:s'.heap.get? T with
     |none=>rfl
     |some o=>
      rw[kF _ q λz=>(bv.mp z).elim hT nf]at e5;cases e5
    constructor
    ·cases q:X.s₀.heap.get? T with
     |none=>rfl
     |some o=>obtain⟨o',q'⟩:=I.base.there T o q (nx T);rw[z]at q';cases q'
    ·cases q:H' T with
     |none=>rfl
     |some u=>obtain⟨o',q'⟩:=(I.b6 T u q).ex;rw[z]at q';cases q'
  exact⟨oe,vs,T,oT,ts,e1,e2,e3,e4,both.1,both.2,e6,e7,e8,e9⟩
def P5{h base:aH}{l:List bM}{hid:List aj}(hl:h.FunFrames base l):h.FunFrames (gc h (hid++frs l)) l:=
 PySem.W.funFrames_hide hl λenv he a ha=>cw _ (jI.mpr ⟨env,he,ha⟩)
def RU{P:aY}{w:aP}{K:am}{mg:ah→Option ai}{base:aH}{N:List ah}{qual:ah}{scope:Scope}{f:aj}{cdv:ai}{A:bn}{outer:List bM}{s:ao}{H:Hp}{E:XK}{EW:ah→gY→Prop}
    (hEW:∀cl C S' H',aX K aO cl=aa (aa (.ref C))→nB K H' S'→EW cl S'→E (.ref C) none H'):pK (vX (rW P w) P w K mg base N qual scope f cdv A outer s H E) (λc _ S'=>EW c S') where
  own:=fB.leaving
  far:=λag σ H1 s1 σW cl C a H' S' s' I hσ hn os bare un ok fly hS q=>by
    have I':=I.call' os un ok bare (λ_ z=>nomatch z);obtain⟨g1,g2,oe,vs,T,oT,ts,e1,e2,e3,e4,g3,g4,e5,e6,e7,e8⟩:=fly;have s0:∀{b:aj},s1.heap.get? b=none→s.heap.get? b=none:=λ{b} z=>by
      cases q:s.heap.get? b with
      |none=>rfl
      |some o=>obtain⟨o',q'⟩:=I.base.there b o q (by exact λz=>nomatch z);rw[z]at q';cases q'
    refine wpAny_leaving_next (base:=gc s'.heap ([a,T]++frs (cQ qual scope s.heap.objs.size f cdv::outer))) I'.ok.frames (P5 I'.stack) rfl ⟨oe,vs,T,oT,ts,e1,e2,e3,e4,il _ `s,e5,e6,e7,e8⟩ (λb o z=>jC _ z) (il _ `s) λh' L=>?_;obtain⟨u1,u2,u3⟩:=MX (hid:=[a,T]) I' rfl rfl rfl (λb hb=>by
      obtain rfl |hb:=az.mp hb
      · exact⟨s0 g1,g2⟩
      · rw[bw.mp hb];exact⟨s0 g3,g4⟩) `s L
    exact⟨a,C,H',rfl,I'.os,I'.bare,u1,u2,u3,hEW cl C S' H' hn hS q⟩
  near:=λag σ H1 s1 σW cl C a S h' args I hσ hn me hS q=>by
    have I':=I.kept (t':=s1.toks) me.keeps;obtain⟨t,e1,_,_⟩:=me.there;have s0:s.heap.get? a=none:=by
      cases q:s.heap.get? a with
      |none=>rfl
      |some o=>obtain⟨o',q'⟩:=I.base.there a o q (by exact λz=>nomatch z);rw[me.new]at q';cases q'
    have h1:H1 a=none:=by
      cases q:H1 a with
      |none=>rfl
      |some u=>obtain⟨o',q'⟩:=(I.b6 a u q).ex;rw[me.new]at q';cases q'
    refine wpAny_leaving_first (base:=gc h' ([a]++frs (cQ qual scope s.heap.objs.size f cdv::outer))) (s:={ s1 with heap:=h' }) I'.ok.frames (P5 I'.stack) rfl e1 (λb o z=>jC _ z) (il _ `s) rfl rfl λh'' L=>?_;obtain⟨u1,u2,u3⟩:=MX (hid:=[a]) I' rfl rfl rfl (λb hb=>by rw[bw.mp hb];exact⟨s0,h1⟩) `s L
    exact⟨a,C,H1,rfl,I'.os,I'.bare,u1,u2,u3,hEW cl C S H1 hn hS q⟩
def oN (S:gY) (a:aj) (Q:List W→Prop):Prop:=match S a with
 |some (.bx ws)=>Q ws
 |_=>False
def nT{Q:List W→Prop}(h:S a=aa (.bx ws)):oN S a Q=Q ws:=by unfold oN;rw[h]
def qL{Q:List W→Prop}(h:oN S a Q):∃ws,S a=aa (.bx ws)∧Q ws:=by
 unfold oN at h;split at h
 ·exact⟨_, ‹_›,h⟩
 ·exact h.elim
def vR:W→gY→(Bool→gY→Prop)→Prop
 | .bR,S,Q=>Q false S
 | .bl b,S,Q=>Q b S
 | .int i,S,Q=>Q (i != 0) S
 | .str x,S,Q=>x.length≤sizeLine∧Q ((x.length:Int) != 0) S
 | .bH ws,S,Q=>Q (!ws.isEmpty) S
 | .ref a,S,Q=>oN S a λws=>Q (!ws.isEmpty) S
 | .b8 ns,S,Q=>Q (!ns.isEmpty) S
def oY (t:WE) (E:WX) (σ:nK) (S:gY) (Q:Bool→gY→Prop):Prop:=t E σ S λw S'=>vR w S' Q
def oo (t:WE) (E:WX) (σ:nK) (S:gY) (Q:Bool→gY→Prop):Prop:=t E σ S λw S'=>match w with
 | .bl b=>Q b S'
 |_=>False
def sx (t u:WT) (E:WX) (σ:nK) (S:gY) (Q:Bool→gY→Prop):Prop:=t E σ S λc S1=>if c=true then u E σ S1 Q else Q false S1
def rV (t u:WT) (E:WX) (σ:nK) (S:gY) (Q:Bool→gY→Prop):Prop:=t E σ S λc S1=>if c=true then Q true S1 else u E σ S1 Q
def qF (t:WT) (E:WX) (σ:nK) (S:gY) (Q:Bool→gY→Prop):Prop:=t E σ S λc S1=>Q (!c) S1
def sP (t u:WE) (E:WX) (σ:nK) (S:gY) (Q:WK):Prop:=t E σ S λw S1=>match w with
 | .bl true=>u E σ S1 Q
 | .bl false=>Q (.bl false) S1
 |_=>False
def BJ (t u:WE) (E:WX) (σ:nK) (S:gY) (Q:WK):Prop:=t E σ S λw S1=>match w with
 | .bl false=>u E σ S1 Q
 | .bl true=>Q (.bl true) S1
 |_=>False
def NC (t:WE):WE:=λE σ S Q=>t E σ S λw S1=>match w with
 | .bl b=>Q (.bl !b) S1
 |_=>False
def A8 (c:WT) (t u:WE) (E:WX) (σ:nK) (S:gY) (Q:WK):Prop:=c E σ S λb S1=>if b=true then t E σ S1 Q else u E σ S1 Q
def og (c:WT) (t u:WS) (E:WX) (D:nQ) (σ:nK) (S:gY):Prop:=c E σ S λb S1=>if b=true then t E D σ S1 else u E D σ S1
def oh (_:WX) (D:nQ) (σ:nK) (S:gY):Prop:=D.nx σ S
def kj (t u:WS) (E:WX) (D:nQ) (σ:nK) (S:gY):Prop:=t E { D with nx:=u E D } σ S
def nM (e:WE) (E:WX) (D:nQ) (σ:nK) (S:gY):Prop:=e E σ S D.rt
def KN:WS:=λ_ D _ S=>D.rt .bR S
def pX (e:WE) (E:WX) (D:nQ) (σ:nK) (S:gY):Prop:=e E σ S λ_ S1=>D.nx σ S1
def zDV:WS:=λ_ _ _ _=>False
def wGN (i:Nat) (w:W) (σ:nK) (S:gY) (Q:nK→gY→Prop):Prop:=Q (σ.set i (aa w)) S
def jj (e:WE) (g:WG) (E:WX) (D:nQ) (σ:nK) (S:gY):Prop:=e E σ S λw S1=>g w σ S1 D.nx
abbrev WGs:=List W→nK→gY→(nK→gY→Prop)→Prop
def qh (ws:List W) (σ:nK) (S:gY) (Q:nK→gY→Prop):Prop:=match ws with
 | []=>Q σ S
 |_=>False
def oU (g:WG) (u:WGs) (ws:List W) (σ:nK) (S:gY) (Q:nK→gY→Prop):Prop:=match ws with
 | []=>False
 |w::r=>g w σ S λσ' S'=>u r σ' S' Q
def qx (u:WGs) (w:W) (σ:nK) (S:gY) (Q:nK→gY→Prop):Prop:=match w with
 | .bH ws=>u ws σ S Q
 |_=>False
def Nr{K:am}{H:Hp}{w:W}{v:V}{S:gY}{QW:Bool→gY→Prop}(r:oz K H w v) (hS:nB K H S) (h:vR w S QW):∃k,BQ K v H k∧QW k S:=by
 cases r with
 |bR=>exact⟨false,rfl,h⟩
 |bl b=>exact⟨b,rfl,h⟩
 |int i=>exact⟨_,rfl,h⟩
 |str x=>exact⟨_,⟨h.1,rfl⟩,h.2⟩
 |ref a=>
  obtain⟨ws,e,h⟩:=qL h;obtain⟨vs,e1,r1⟩:=hS a _ e;refine⟨_, .inl ⟨vs, .of e1,rfl⟩,?_⟩;have q:vs.isEmpty=ws.isEmpty:=by cases r1<;>rfl
  rw[q];exact h
 | @b8 a ns f=>
  refine⟨_, .inl ⟨_,f.sq,rfl⟩,?_⟩;have q:(ns.map V.int).isEmpty=ns.isEmpty:=by cases ns<;>rfl
  rw[q];exact h
 | @bH a vs ws f hs=>
  refine⟨_, .inr (.inl ⟨vs, .of f,rfl⟩),?_⟩;have q:vs.isEmpty=ws.isEmpty:=by cases hs<;>rfl
  rw[q];exact h
def Td (ha:JE X a ta) (he:∀whole,isTrue a X.env whole=(do let v ←whole;eB a.pos;holding [v] (truthy v))):JT X a (oY ta):=λE hE=>
 (T3 (ha E hE) he).mono λσ H Q zz=>oF zz λσW S QW hσ hS ht hQ=>⟨σW,S,_,hσ,hS,ht,λw S1 v H1 e1 r1 d5 h1=>by
  obtain⟨k,hk,q⟩:=Nr r1 d5 h1;exact⟨k,hk,hQ k S1 H1 e1 d5 q⟩⟩
def Xr (ho:o8 X (bD op) r) (hw:su X.K r wr) (ha:JE X a ta) (hb:JE X b tb) (hm:gi op b=false):JT X (.Compare a [op] [b] pos) (oo (wOp wr ta tb)):=λE hE=>
 (Zg ho (ha E hE) (hb E hE) hm).mono λσ H Q zz=>oF zz λσW S QW hσ hS ht hQ=>by
  refine DP (Q:=λv H1=>∃k,v= .bl k∧Q k H1) ⟨σW,S,λw S'=>match w with
   | .bl b=>QW b S'
   |_=>False,hσ,hS,ht,λw S1 v H1 e1 r1 d5 h1=>?_⟩ λH2 x y wx wy S QW rx ry hS q hQ=>hw H2 x y wx wy S _ QW rx ry hS q hQ
  cases r1 with
  |bl k=>exact⟨k,rfl,hQ k S1 H1 e1 d5 h1⟩
  |_=>exact h1.elim
def UC (ha:JT X a tA):JT X (.UnaryOp .Not a pos) (qF tA):=λE hE=>
 (Zy (ha E hE)).mono λσ H Q zz=>oF zz λσW S QW hσ hS ht hQ=>⟨σW,S,_,hσ,hS,ht,λb S1 H1 e1 d5 h1=>hQ _ S1 H1 e1 d5 h1⟩
def JW.jt (h:JW X a tA):JT X a tA:=λE hE=>(h E hE).pt
def Ua (ha:JT X a tA):JW X (.BoolOp .And [a] pos) tA:=λE hE=>TM (ha E hE)
def Yb (ha:JT X a tA):JW X (.BoolOp .Or [a] pos) tA:=λE hE=>UI (ha E hE)
def zEe{rest:List Expr}(ha:JT X a tA) (hb:JW X (.BoolOp .And (b::rest) pos) tB'):JW X (.BoolOp .And (a::b::rest) pos) (sx tA tB'):=λE hE=>
 (Yh (ha E hE) (hb E hE)).mono λσ H Q zz=>oF zz λσW S QW hσ hS ht hQ=>⟨σW,S,_,hσ,hS,ht,λb S1 H1 e1 d5 h1=>by
  cases b with
  |true=>exact⟨σW,S1,_,hσ.ext e1,d5,h1,λb S2 H2 e2 hS2 h2=>hQ b S2 H2 (e1.trans e2) hS2 h2⟩
  |false=>exact hQ _ S1 H1 e1 d5 h1⟩
def Sk{rest:List Expr}(ha:JT X a tA) (hb:JW X (.BoolOp .Or (b::rest) pos) tB'):JW X (.BoolOp .Or (a::b::rest) pos) (rV tA tB'):=λE hE=>
 (QG (ha E hE) (hb E hE)).mono λσ H Q zz=>oF zz λσW S QW hσ hS ht hQ=>⟨σW,S,_,hσ,hS,ht,λb S1 H1 e1 d5 h1=>by
  cases b with
  |false=>exact⟨σW,S1,_,hσ.ext e1,d5,h1,λb S2 H2 e2 hS2 h2=>hQ b S2 H2 (e1.trans e2) hS2 h2⟩
  |true=>exact hQ _ S1 H1 e1 d5 h1⟩
def T4{op}(h:JE X a ta):JE X (.BoolOp op [a] pos) ta:=λE hE=>WR (h E hE)
def zBD{rest:List Expr}(ha:JE X a ta) (hb:JE X (.BoolOp .And (b::rest) pos) tb):JE X (.BoolOp .And (a::b::rest) pos) (sP ta tb):=λE hE=>
 (Q7 (ha E hE) (hb E hE)).mono λσ H Q zz=>oF zz λσW S QW hσ hS ht hQ=>⟨σW,S,_,hσ,hS,ht,λw S1 v H1 e1 r1 d5 h1=>by
  cases r1 with
  |bl k=>
   refine⟨k,rfl,?_⟩;cases k with
   |true=>exact⟨σW,S1,_,hσ.ext e1,d5,h1,hQ.from e1⟩
   |false=>exact hQ _ S1 _ H1 e1 (.bl false) d5 h1
  |_=>exact h1.elim⟩
def zFG{rest:List Expr}(ha:JE X a ta) (hb:JE X (.BoolOp .Or (b::rest) pos) tb):JE X (.BoolOp .Or (a::b::rest) pos) (BJ ta tb):=λE hE=>
 (zGV (ha E hE) (hb E hE)).mono λσ H Q zz=>oF zz λσW S QW hσ hS ht hQ=>⟨σW,S,_,hσ,hS,ht,λw S1 v H1 e1 r1 d5 h1=>by
  cases r1 with
  |bl k=>
   refine⟨k,rfl,?_⟩;cases k with
   |false=>exact⟨σW,S1,_,hσ.ext e1,d5,h1,hQ.from e1⟩
   |true=>exact hQ _ S1 _ H1 e1 (.bl true) d5 h1
  |_=>exact h1.elim⟩
def V1 (ha:JE X a ta):JE X (.UnaryOp .Not a pos) (NC ta):=λE hE=>
 (Rr (ha E hE)).mono λσ H Q zz=>oF zz λσW S QW hσ hS ht hQ=>⟨σW,S,_,hσ,hS,ht,λw S1 v H1 e1 r1 d5 h1=>by
  cases r1 with
  |bl k=>exact⟨k,rfl,hQ _ S1 _ H1 e1 (.bl _) d5 h1⟩
  |_=>exact h1.elim⟩
def Y7 (hc:JT X c tc) (ha:JE X a ta) (hb:JE X b tb):JE X (.IfExp c a b pos) (A8 tc ta tb):=λE hE=>
 (zvK (hc E hE) (ha E hE) (hb E hE)).mono λσ H Q zz=>oF zz λσW S QW hσ hS ht hQ=>⟨σW,S,_,hσ,hS,ht,λk S1 H1 e1 d5 h1=>by
  cases k with
  |true=>exact⟨σW,S1,_,hσ.ext e1,d5,h1,hQ.from e1⟩
  |false=>exact⟨σW,S1,_,hσ.ext e1,d5,h1,hQ.from e1⟩⟩
def To:uj X [] oh:=λE hE=>vz.mono λD σ H zz=>oF zz λσW S DW hσ hS ht hD=>hD.nx σW S σ H .refl hσ hS ht
def Wc{X:Cx}{st:bg}{rest:List bg}{t u:WS}(h1:JS X st t) (h2:uj X rest u):uj X (st::rest) (kj t u):=λE hE=>
 (YB (h1 E hE) (h2 E hE)).mono λD σ H zz=>oF zz λσW S DW hσ hS ht hD=>
  ⟨σW,S,{ DW with nx:=u E DW },hσ,hS,ht,⟨λσW' S' σ' H' e r hS' q=>⟨σW',S',DW,r,hS',q,hD.from e⟩,hD.rt,hD.bk,hD.ct⟩⟩
def UY{X:Cx}{st:bg}{t:WS}(h1:JS X st t):uj X [st] t:=λE hE=>UG (h1 E hE)
def Wo:JS X (.Pass pos) oh:=λE hE=>vK.mono λD σ H zz=>oF zz λσW S DW hσ hS ht hD=>hD.nx σW S σ H .refl hσ hS ht
def Q_{X:Cx}{st:bg}:JS X st zDV:=λE hE=>t5.mono λD σ H zz=>oF zz λσW S DW hσ hS ht hD=>ht
def Wp (he:JE X e ta) (hs:dE e none pos.line X.env=pure false):JS X (.Expr e pos) (pX ta):=λE hE=>
 (Y_ (he E hE) hs).mono λD σ H zz=>oF zz λσW S DW hσ hS ht hD=>⟨σW,S,_,hσ,hS,ht,λw S1 v H1 e1 r1 d5 h1=>hD.nx σW S1 σ H1 e1 (hσ.ext e1) d5 h1⟩
def RY (he:JE X e ta):JS X (.Return (aa e) pos) (nM ta):=λE hE=>
 (VU (he E hE)).mono λD σ H zz=>oF zz λσW S DW hσ hS ht hD=>⟨σW,S,_,hσ,hS,ht,hD.rt⟩
def QR:JS X (.Return none pos) KN:=λE hE=>vj.mono λD σ H zz=>oF zz λσW S DW hσ hS ht hD=>hD.rt .bR S .bR H .refl .bR hS ht
def Su{a b:List bg}(hc:JT X c tc) (ha:uj X a t) (hb:uj X b u):JS X (.If c a b pos) (og tc t u):=λE hE=>
 (Z2 (hc E hE) (ha E hE) (hb E hE)).mono λD σ H zz=>oF zz λσW S DW hσ hS ht hD=>⟨σW,S,_,hσ,hS,ht,λk S1 H1 e1 d5 h1=>by
  cases k with
  |true=>exact⟨σW,S1,DW,hσ.ext e1,d5,h1,hD.from e1⟩
  |false=>exact⟨σW,S1,DW,hσ.ext e1,d5,h1,hD.from e1⟩⟩
def VI (hN:X.N.Nodup) (hi:X.N[i]? =aa x) (hx:uk X.env.scope x) (hf:X.fn x=true∨X.env.scope.names.lookup x=aa .local:=by first |exact .inl rfl |exact .inr rfl |assumption):JG X (.Name x pos) (wGN i):=λE hE=>
 (VT hN hi hx hf).mono λv σ H Q zz=>A6 zz λw σW S P r hσ hS ht hP=>hP _ S _ H .refl (hσ.set r i) hS ht
def xl (X:Cx) (tgs:List Expr) (t:WGs):Prop:=∀E,pK X E→A1 X tgs (λvs σ H Q=>∃ws σW S P,mE X.K H ws vs∧n9 X.K H σW σ∧nB X.K H S∧t ws σW S P∧qV X.K H S P Q)
def Xb:xl X [] qh:=λE hE ag s σ H vs us Q I r h=>by
 obtain⟨ws,σW,S,P,rs,hσ,hS,ht,hP⟩:=h;unfold qh at ht;split at ht
 ·cases rs;exact Xa ag s σ H [] us Q I r ⟨rfl,hP σW S σ H .refl hσ hS ht⟩
 ·exact ht.elim
def VC (h1:JG X e g) (h2:xl X es gs)
  (hs:(cg (e::es) X.env).map (·.2)=assign e X.env::(cg es X.env).map (·.2)):xl X (e::es) (oU g gs):=λE hE ag s σ H vs us Q I r h=>by
 obtain⟨ws,σW,S,P,rs,hσ,hS,ht,hP⟩:=h;unfold oU at ht;split at ht
 ·exact ht.elim
 ·cases rs with
  |cons r1 r2=>
   refine Rq (h1 E hE) (h2 E hE) hs ag s σ H _ us Q I r ⟨_,_,rfl,⟨_,σW,S,_,r1,hσ,hS,ht,λσW' S' σ' H' e' rr hS' q=>?_⟩⟩;exact⟨_,σW',S',P,r2.ext e',rr,hS',q,hP.from e'⟩
def RN (h:xl X es gs) (hlen:∀ws σ S P,gs ws σ S P→ws.length=n)
  (hn:(cg es X.env).length=n) (hst:(cg es X.env).findIdx? (·.1)=none) (hcl:X.calm=true):JG X (.Tuple es k pos) (qx gs):=λE hE=>
 (Q4 hcl (h E hE) hn hst).mono λv σ H Q zz=>A6 zz λw σW S P r hσ hS ht hP=>by
  cases r with
  |bH f hs=>exact⟨_,_,rfl, .of f,by rw[←hs.length];exact hlen _ _ _ _ ht,⟨_,σW,S,P,hs,hσ,hS,ht,hP⟩⟩
  |_=>exact ht.elim
def KQ (he:JE X e ta) (hg:JG X tg g) (hs:km [tg] e pos.line X.env=pure false) (hw:jd [tg] e X.env=pure none)
  (h1:(cg [tg] X.env).map (·.2)=[assign tg X.env]):JS X (.Assign [tg] e pos) (jj ta g):=λE hE=>
 (zEs (he E hE) (hg E hE) hs hw h1).mono λD σ H zz=>oF zz λσW S DW hσ hS ht hD=>⟨σW,S,_,hσ,hS,ht,λw S1 v H1 e1 r1 d5 h1=>⟨w,σW,S1,_,r1,hσ.ext e1,d5,h1,hD.nx.from e1⟩⟩
def Ln (hN:X.N.Nodup) (hi:X.N[i]? =aa x) (hx:uk X.env.scope x) (he:JE X e ta) (hs:dE e (aa (.Name x pos')) pos.line X.env=pure false)
  (hf:X.fn x=true∨X.env.scope.names.lookup x=aa .local:=by first |exact .inl rfl |exact .inr rfl |assumption):JS X (.Assign [.Name x pos'] e pos) (jj ta (wGN i)):=λE hE=>
 (zCM hN hi hx (he E hE) hs hf).mono λD σ H zz=>oF zz λσW S DW hσ hS ht hD=>⟨σW,S,_,hσ,hS,ht,λw S1 v H1 e1 r1 d5 h1=>hD.nx _ S1 _ H1 e1 ((hσ.ext e1).set r1 i) d5 h1⟩
def ae (_:WX) (_:nK) (S:gY) (Q:List W→gY→Prop):Prop:=Q [] S
def fX (t:WE) (u:WA) (E:WX) (σ:nK) (S:gY) (Q:List W→gY→Prop):Prop:=t E σ S λw S1=>u E σ S1 λws S2=>Q (w::ws) S2
def nS (t:WA) (E:WX) (σ:nK) (S:gY) (Q:WK):Prop:=t E σ S λws S1=>ws.length≤sizeLine∧Q (.bH ws) S1
def oI (t:WA) (E:WX) (σ:nK) (S:gY) (Q:List W→gY→Prop):Prop:=t E σ S λws S1=>ws.length≤sizeLine∧Q ws S1
def ox (t:WL) (E:WX) (σ:nK) (S:gY) (Q:WK):Prop:=t E σ S λws S1=>∀a,S1 a=none→Q (.ref a) (bz S1 a (.bx ws))
def U9:JA X [] ae:=λE hE=>pE.mono λσ H Q zz=>oF zz λσW S QW hσ hS ht hQ=>hQ [] S [] H .refl .nil hS ht
def XQ (ha:JE X e te) (hr:JA X es ta) (hs:ay (e::es) X.env=(false,aA e X.env)::ay es X.env):JA X (e::es) (fX te ta):=λE hE=>
 (uh (ha E hE) (hr E hE) hs).mono λσ H Q zz=>oF zz λσW S QW hσ hS ht hQ=>⟨σW,S,_,hσ,hS,ht,λw S1 v H1 e1 r1 d5 h1=>⟨σW,S1,_,hσ.ext e1,d5,h1,λws S2 vs H2 e2 r2 hS2 h2=>
  hQ (w::ws) S2 (v::vs) H2 (e1.trans e2) (.cons (r1.ext e2) r2) hS2 h2⟩⟩
def WD{x1}(h:JA X es ta):JE X (.Tuple es x1 pos) (nS ta):=λE hE=>
 (QD (h E hE)).mono λσ H Q zz=>oF zz λσW S QW hσ hS ht hQ=>⟨σW,S,_,hσ,hS,ht,λws S1 vs H1 e1 r1 d5 h1=>by
  refine⟨by rw[←r1.length];exact h1.1,λp hp=>hQ (.bH ws) S1 _ _ (e1.trans (.new hp)) (.bH pY (r1.ext (.new (S:=S1) hp))) (d5.new hp) h1.2⟩⟩
def zEW (h:JA X es ta):JL X (.List es pos) (oI ta):=λE hE=>
 (zCS (h E hE)).mono λσ H Q zz=>oF zz λσW S QW hσ hS ht hQ=>⟨σW,S,_,hσ,hS,ht,λws S1 vs H1 e1 r1 d5 h1=>by
  refine⟨by rw[←r1.length];exact h1.1,λp hp=>hQ ws S1 vs p _ (e1.trans (.new hp)) (e1.free hp) pY (d5.free hp) (r1.ext (.new (S:=S1) hp)) (d5.new hp) h1.2⟩⟩
def Nt (h:JL X e tl):JE X e (ox tl):=λE hE=>
 (h E hE).mono λσ H Q zz=>oF zz λσW S QW hσ hS ht hQ=>⟨σW,S,_,hσ,hS,ht,λws S1 vs a H1 e1 fa ea na r1 d5 h1=>by
  refine hQ (.ref a) (bz S1 a (.bx ws)) (.ref a) H1 ⟨e1.bH,e1.frz,λb o q g=>by
   have hb:b≠a:=by rintro rfl;rw[fa]at q;cases q
   rw[oQ hb];exact e1.fr b o q g,e1.all⟩ (.ref a) (λb o q=>?_) (h1 a na)
  by_cases hb:b=a
  ·subst hb;rw[nJ]at q;cases q;exact⟨vs,ea,r1⟩
  ·rw[oQ hb]at q;exact d5 b o q⟩
def nF (c:nD) (t:WA) (E:WX) (σ:nK) (S:gY) (Q:WK):Prop:=t E σ S λws S1=>c ws S1 Q λcl S2=>E cl σ S2
def on (n k:Nat) (body:WS) (ws:List W) (S:gY) (Q:WK) (E:ah→gY→Prop):Prop:=ws.length=k∧body (λc _ S'=>E c S') { nx:=λ_ S'=>∃S'',Sub S'' S'∧Q .bR S'',rt:=λw S'=>∃S'',Sub S'' S'∧Q w S'' } (ws.map aa++bf (n - k) none) S
def zAH (F:pe X.prog X.w X.K X.mg X.base (rW X.prog X.w) k f fd ps (rJ X.K c)) (hr:oK k X.A) (hg:Gl X x) (hm:X.mg x=aa (.ref f)) (hk:cX X.K (.ref f)=true) (hb:pf X.K fd ps [])
  (ha:JA X (e::es) t) (hdb:(x == ("__debug__" :ah))=false) (he:ay (e::es) X.env=(false,aA e X.env)::ay es X.env) (hpl:(aR pos (ay es X.env)).any (·.1)=false) :
  JE X (.Call (.Name x p) (e::es) [] pos) (nF c t):=λE hE ag s σ H Q I h=>by
 obtain⟨σW,S,QW,hσ,hS,ht,hQ⟩:=h;refine fV (Cp I hg hm ?_ hdb);refine jF (h₀:=X.base) I.ok.mod.kin hk (oj (ha E hE pos ag s σ H (λvs H1=>∃ws S1,mE X.K H1 ws vs∧n9 X.K H1 σW σ∧nB X.K H1 S1∧c ws S1 QW (λcl S'=>E cl σW S')∧pj X.K H1 S1 QW Q) I
  ⟨σW,S,_,hσ,hS,ht,λws S1 vs H1 e1 r1 d5 h1=>⟨ws,S1,r1,hσ.ext e1,d5,h1,hQ.from e1⟩⟩) λus s1 zz=>oJ zz λvs H1 I1 r zy=>Gs zy λws S1 r1 hσ1 d5 h1 hQ1=>⟨I1.kIn,?_⟩) he hpl
 exact F_ F hr hb hE I1 r r1 hσ1 d5 h1 hQ1
def Z4{K:am}{H:Hp}{N:List ah}{ws:List W}{vs:List V}(h:mE K H ws vs):n9 K H (ws.map aa++bf (N.length - ws.length) none) (start N vs):=by
 have go:∀{ws:List W}{vs:List V}(m:Nat),mE K H ws vs→n9 K H (ws.map aa++bf m none) (vs.map aa++bf m none):=by
  intro ws
  induction ws with
  |nil=>
   intro vs m h;cases h
   induction m with
   |zero=>exact .nil
   |succ m ih=>exact .cons trivial ih
  |cons w ws ih=>
   intro vs m h;cases h with
   |cons r rs=>exact .cons r (ih m rs)
 unfold start;rw[←h.length];exact go _ h
def U1{P:aY}{w:aP}{K:am}{mg:ah→Option ai}{base:aH}{x qual:ah}{st:bg}{f:aj}{fd:cK}{N ps:List ah}{r n k:Nat}{body:WS}(F:ue K x qual st f fd) (S:qb N ps (qQ st)) (hn:N.length=n) (hk:ps.length=k)
  (hbody:∀(cdv:ai) (A:bn) (outer:List bM) (s:ao) (H:Hp) (E:XK),oK r (A.deeper (cQ qual (qQ st) s.heap.objs.size f cdv))→
   uj (vX (rW P w) P w K mg base N qual (qQ st) f cdv A outer s H E) (uE st) body):pe P w K mg base (rW P w) (r+1) f fd ps (rJ K (on n k body)):=by
 obtain⟨oc,od,kV,doc,pm,an,cdv,ct,osl,rfl,lk,hcd⟩:=F.ex;refine K9 lk hcd S (λvs H Q E h=>?_) λA outer s H vs Q E hr h=>?_
 ·obtain⟨ws,S,QW,EW,rs,_,h,_⟩:=h;rw[←rs.length,h.1,hk]
 ·obtain⟨ws,S',QW,EW,rs,hS,h,hQ,hEW⟩:=h;refine⟨_,hbody cdv A outer s H E hr (λc _ S'=>EW c S') (RU hEW),?_⟩;refine⟨_,S',{ nx:=λ_ S'=>∃S'',Sub S'' S'∧QW .bR S'',rt:=λw S'=>∃S'',Sub S'' S'∧QW w S'' },Z4 (N:=N) rs,hS,by rw[hn,h.1];exact h.2,⟨λσW S1 σ H1 e1 rr d5 q=>?_,λw S1 v H1 e1 rr d5 q=>?_,λ_ _ _ _ _ _ _ q=>q,λ_ _ _ _ _ _ _ q=>q⟩⟩
  ·obtain⟨S2,sb,q⟩:=q;exact hQ .bR S2 .bR H1 (e1.trans (.drop sb)) .bR (d5.sub sb) q
  ·obtain⟨S2,sb,q⟩:=q;exact hQ w S2 v H1 (e1.trans (.drop sb)) rr (d5.sub sb) q
def oZ (C:Int→Int→Prop) (g:Int→Int→W):W2
 | .int i, .int j,S,Q=>C i j∧Q (g i j) S
 |_,_,_,_=>False
def rK (g:Int→Int→W):W2
 | .int i, .int j,S,Q=>Q (g i j) S
 |_,_,_,_=>False
def Cf{K:am}{C:Int→Int→Prop}{g:Int→Int→Int}:su K (rI C λi j=> .int (g i j)) (oZ C λi j=> .int (g i j)):=λH x y wx wy S Q QW rx ry hS h hQ=>by
 cases rx<;>cases ry<;>first |exact⟨_,_,rfl,rfl,h.1,hQ _ S _ H .refl (.int _) hS h.2⟩ |exact h.elim
def Y'{K:am}{g:Int→Int→Int}:su K (tq λi j=> .int (g i j)) (rK λi j=> .int (g i j)):=λH x y wx wy S Q QW rx ry hS h hQ=>by
 cases rx<;>cases ry<;>first |exact⟨_,_,rfl,rfl,hQ _ S _ H .refl (.int _) hS h⟩ |exact h.elim
def HB{K:am}{g:Int→Int→Bool}:su K (tq λi j=> .bl (g i j)) (rK λi j=> .bl (g i j)):=λH x y wx wy S Q QW rx ry hS h hQ=>by
 cases rx<;>cases ry<;>first |exact⟨_,_,rfl,rfl,hQ _ S _ H .refl (.bl _) hS h⟩ |exact h.elim
def oX:W2
 | .int i, .int j,S,Q=>Q (.int (i+j)) S
 | .str x, .str y,S,Q=>x.length+y.length≤sizeLine∧Q (.str (x++y)) S
 | .bH xs, .bH ys,S,Q=>xs.length+ys.length≤sizeLine∧Q (.bH (xs++ys)) S
 | .ref a, .ref b,S,Q=>oN S a λxs=>oN S b λys=>xs.length+ys.length≤sizeLine∧ ∀p,S p=none→Q (.ref p) (bz S p (.bx (xs++ys)))
 |_,_,_,_=>False
def mE.nil_r{K:am}{H:Hp}{ws:List W}(h:mE K H ws []):ws=[]:=by cases h;rfl
def t4:o8 X (ck .Add) (λx y H Q=>∃a b ys,x= .ref a∧y= .ref b∧pV X.K H a []∧pV X.K H b ys∧Q (.ref b) H):=by
 intro ag s σ H x y v u Q I rx ry h;obtain⟨a,b,ys,rfl,rfl,ha,hb,q⟩:=h;cases rx;cases ry;obtain⟨c6,r1,p1,_⟩:=I.tuple ha;obtain⟨its2,r2,p2,_⟩:=I.tuple hb;cases r1;obtain⟨⟨cls,dd,data,sl⟩,ho,hc,n,hd⟩:=id p1;obtain⟨⟨cls2,dd2,data2,sl2⟩,ho2,hc2,n2,hd2⟩:=id p2;simp only at hc hd hc2 hd2;subst hc hd hc2 hd2;exact jk ⟨_,ho,rfl⟩ ⟨_,ho2,rfl⟩ jS j6 jZ jK (jO _ _)
   (tuple_addW0 a b _ _ n n2 dd dd2 sl sl2 `s) ⟨ho,ho2,⟨.ref b,H,I,rfl,q⟩⟩
def Sv:o8 X (ck .Add) (λx y H Q=>(tq λi j=> .int (i+j)) x y H Q∨(∃i j,x= .str i∧y= .str j∧i.length+j.length≤sizeLine∧Q (.str (i++j)) H)∨
  (∃a b ys,x= .ref a∧y= .ref b∧pV X.K H a []∧pV X.K H b ys∧Q (.ref b) H)∨Fa X.K x y H Q∨FY x y H Q):=wO.or (sO.or (t4.or (vH.or CP)))
def V4{K:am}:su K (λx y H Q=>(tq λi j=> .int (i+j)) x y H Q∨(∃i j,x= .str i∧y= .str j∧i.length+j.length≤sizeLine∧Q (.str (i++j)) H)∨
  (∃a b ys,x= .ref a∧y= .ref b∧pV K H a []∧pV K H b ys∧Q (.ref b) H)∨Fa K x y H Q∨FY x y H Q) oX:=λH x y wx wy S Q QW rx ry hS h hQ=>by
 cases rx with
 |int i=>
  cases ry with
  |int j=>exact .inl ⟨i,j,rfl,rfl,hQ _ S _ H .refl (.int _) hS h⟩
  |_=>exact h.elim
 |str i=>
  cases ry with
  |str j=>exact .inr (.inl ⟨i,j,rfl,rfl,h.1,hQ _ S _ H .refl (.str _) hS h.2⟩)
  |_=>exact h.elim
 | @bH a vs ws f hs=>
  cases ry with
  | @bH b us zs g ks=>
   cases hs with
   |nil=>exact .inr (.inr (.inl ⟨a,b,us,rfl,rfl, .of f, .of g,hQ (.bH zs) S _ H .refl (.bH g ks) hS h.2⟩))
   |cons h1 h2=>
    refine .inr (.inr (.inr (.inl ⟨a,b,_,us,rfl,rfl, .of f, .of g,`s,?_,λe=>?_,λe p hp=>?_⟩)))
    ·rw[←(mE.cons h1 h2).length,←ks.length];exact h.1
    ·subst e;have e':=ks.nil_r;subst e';have q:=h.2;rw[bC]at q;exact hQ _ S _ H .refl (.bH f (.cons h1 h2)) hS q
    ·exact hQ _ S _ _ (.new hp) (.bH pY (((mE.cons h1 h2).append ks).ext (.new (S:=S) hp))) (hS.new hp) h.2
  |_=>exact h.elim
 |ref a=>
  cases ry with
  |ref b=>
   obtain⟨xs,ea,h⟩:=qL h;obtain⟨ys,eb,h⟩:=qL h;obtain⟨vs,e1,r1⟩:=hS a _ ea;obtain⟨us,e2,r2⟩:=hS b _ eb;refine .inr (.inr (.inr (.inr ⟨a,b,vs,us,rfl,rfl,e1,e2,by rw[←r1.length,←r2.length];exact h.1,λp hp=>?_⟩)))
   exact hQ _ _ _ _ (.newS hp) (.ref p) (hS.put_lst hp ((r1.append r2).ext (.new (S:=S) hp))) (h.2 p (hS.free hp))
  |_=>exact h.elim
 |_=>exact h.elim
def RB (ha:JE X a ta) (hb:JE X b tb):JE X (.BinOp a .Add b pos) (wOp oX ta tb):=zd Sv V4 ha hb
def XU (ha:JE X a ta) (hb:JE X b tb):JE X (.BinOp a .Sub b pos) (wOp (rK λi j=> .int (i - j)) ta tb):=zd Qn Y' ha hb
def zDj (ha:JE X a ta) (hb:JE X b tb):JE X (.BinOp a .Mult b pos) (wOp (oZ qO λi j=> .int (i*j)) ta tb):=zd Xf Cf ha hb
def Sl (ha:JE X a ta) (hb:JE X b tb):JE X (.BinOp a .FloorDiv b pos) (wOp (oZ sF λi j=> .int (i / j)) ta tb):=zd Wv Cf ha hb
def RK (ha:JE X a ta) (hb:JE X b tb):JE X (.BinOp a .Mod b pos) (wOp (oZ (λ_ j=>0<j) λi j=> .int (i % j)) ta tb):=zd YQ Cf ha hb
def W9 (ha:JE X a ta) (hb:JE X b tb):JE X (.BinOp a .Pow b pos) (wOp (oZ zE λi j=> .int (i ^ j.toNat)) ta tb):=zd ZI Cf ha hb
def sk (t:WE) (E:WX) (σ:nK) (S:gY) (Q:WK):Prop:=t E σ S λw S1=>match w with
 | .int i=>Q (.int (-i)) S1
 |_=>False
def SN (ha:JE X a ta):JE X (.UnaryOp .USub a pos) (sk ta):=λE hE=>
 (Ts zDR (ha E hE)).mono λσ H Q zz=>oF zz λσW S QW hσ hS ht hQ=>⟨σW,S,_,hσ,hS,ht,λw S1 v H1 e1 r1 d5 h1=>by
  cases r1 with
  |int i=>exact⟨i,rfl,hQ _ S1 _ H1 e1 (.int _) d5 h1⟩
  |_=>exact h1.elim⟩
def Ud (t u:WE):WL:=λE σ S Q=>t E σ S λx S1=>u E σ S1 λy S2=>match x,y with
 | .ref a, .ref b=>oN S2 a λxs=>oN S2 b λys=>xs.length+ys.length≤sizeLine∧Q (xs++ys) S2
 |_,_=>False
noncomputable def pA (f:W→W→Option Bool):List W→List W→Option Bool
 | [],[]=>aa true
 | [],_=>aa false
 |_,[]=>aa false
 |x::xs,y::ys=>match f x y,pA f xs ys with
  |some a,aa b=>aa (a&&b)
  |_,_=>none
noncomputable def oH (S:gY):Nat→W→W→Option Bool
 |0,_,_=>none
 |n+1,w,u=>match w,u with
  | .bR, .bR=>aa true
  | .bl a, .bl b=>aa (a == b)
  | .int a, .int b=>aa (a == b)
  | .str a, .str b=>aa (a == b)
  | .bH _, .int _=>aa false
  | .int _, .bH _=>aa false
  | .bH xs, .bH ys=>pA (oH S n) xs ys
  | .ref a, .ref b=>match S a with
   |some (.bx xs)=>match S b with
    |some (.bx ys)=>pA (oH S n) xs ys
    |_=>none
   |_=>none
  |_,_=>none
theorem J0{f:W→W→Option Bool}:∀{xs ys:List W}{b:Bool},pA f xs ys=aa b→
  (∀j,j<xs.length→j<ys.length→ ∃c,f (xs.getD j .bR) (ys.getD j .bR)=aa c)∧
  ((bt (min xs.length ys.length)).all (λj=>(f (xs.getD j .bR) (ys.getD j .bR)).getD true)&&xs.length == ys.length)=b
 | [],[],b,h=>by
  have:true=b:=aL h;subst this;exact⟨λj h=>absurd h `s,`s⟩
 | [],y::ys,b,h=>by
  have:false=b:=aL h;subst this;exact⟨λj h=>absurd h `s,`s⟩
 |x::xs,[],b,h=>by
  have:false=b:=aL h;subst this;exact⟨λj _ h=>absurd h `s,`s⟩
 |x::xs,y::ys,b,h=>by
  unfold pA at h;split at h
  ·rename_i c d e1 e2;have hb:(c&&d)=b:=aL h;obtain⟨h1,h2⟩:=J0 e2;refine⟨λj j1 j2=>?_,?_⟩
   ·cases j with
    |zero=>exact⟨c,by simpa using e1⟩
    |succ j=>simpa using h1 j (by simpa using j1) (by simpa using j2)
   ·have hm:min (xs.length+1) (ys.length+1)=min xs.length ys.length+1:=by lia
    have hl:(xs.length+1 == ys.length+1)=(xs.length == ys.length):=by simp
    rw[aS,aS,hm,ig,iV,gG,hl];have q:((λj=>(f ((x::xs).getD j .bR) ((y::ys).getD j .bR)).getD true)∘jB)=λj=>(f (xs.getD j .bR) (ys.getD j .bR)).getD true:=by
     funext j;simp
    rw[q,mW,h2];have q0:(f ((x::xs).getD 0 .bR) ((y::ys).getD 0 .bR)).getD true=c:=by simp [e1]
    rw[q0,hb]
  ·cases h
theorem F6 (I:nA X ag σ H s):∀(n:Nat) {wx wy:W}{v:V}{b:Bool},oz X.K H wx v→oz X.K H wy v→nB X.K H S→oH S n wx wy=aa b→b=true
 |0,_,_,_,_,_,_,_,h=>by cases h
 |n+1,wx,wy,v,b,rx,ry,hS,h=>by
  have list:∀{ws us:List W}{vs:List V}{b:Bool},mE X.K H ws vs→mE X.K H us vs→pA (oH S n) ws us=aa b→b=true:=by
   intro ws
   induction ws with
   |nil=>
    intro us vs b r1 r2 e;cases r1;cases r2;exact(aL e).symm
   |cons w ws ih=>
    intro us vs b r1 r2 e;cases r1 with
    |cons a1 a2=>
     cases r2 with
     |cons c1 c2=>
      unfold pA at e;split at e
      ·rename_i c d e1 e2;have q1:=F6 I n a1 c1 hS e1;have q2:=ih a2 c2 e2;have:=aL e;rw[q1,q2]at this;exact this.symm
      ·cases e
  cases rx with
  |bR=>cases ry;exact(aL h).symm
  |bl k=>cases ry;have:=aL h;simpa using this.symm
  |int k=>cases ry;have:=aL h;simpa using this.symm
  |str k=>cases ry;have:=aL h;simpa using this.symm
  |ref a=>
   cases ry with
   |ref _=>
    have h':(match S a with
     |some (.bx xs)=>match S a with
      |some (.bx ys)=>pA (oH S n) xs ys
      |_=>none
     |_=>none)=aa b:=h
    cases e:S a with
    |none=>rw[e]at h';cases h'
    |some o=>
     rw[e]at h';cases o with
     |bx ws=>
      obtain⟨vs,_,r⟩:=hS a _ e;exact list r r h'
     |dct _=>cases h'
     |dk _=>cases h'
     |ins _ _=>cases h'
   |b8 _=>cases h
   |bH _ _=>cases h
  |b8 f=>cases ry<;>cases h
  |bH f hs=>
   cases ry with
   |ref _=>cases h
   |b8 _=>cases h
   |bH g ks=>
    have e:=I.tuple_inj (.of f) (.of g);subst e;exact list hs ks h
theorem Ju{A:bn}:A.in1.units=A.units+1:=rfl
theorem BZ (I:nA X ag σ H s) (hS:nB X.K H S):∀(n:Nat) {A:bn}{wx wy:W}{x y:V}{u v:ai}{b:Bool},A.units+n<cLine→oz X.K H wx x→oz X.K H wy y→nH x u→nH y v→oH S n wx wy=aa b→
  fG A s u v b∧gr A s u v b∧gf A s u v (!b)
 |0,_,_,_,_,_,_,_,_,_,_,_,_,_,h=>by cases h
 |n+1,A,wx,wy,x,y,u,v,b,hu,rx,ry,ru,rv,h=>by
  have hu0:A.units<cLine:=by lia
  have items:∀{ws zs:List W}{xs ys:List V}{us vs:List ai}{b:Bool},mE X.K H ws xs→mE X.K H zs ys→nE xs us→nE ys vs→pA (oH S n) ws zs=aa b→
    (∀j (h1:j<us.toArray.size) (h2:j<vs.toArray.size),fG A.in1 s us.toArray[j] vs.toArray[j] ((oH S n (ws.getD j .bR) (zs.getD j .bR)).getD true))∧
    ((bt (min us.toArray.size vs.toArray.size)).all (λj=>(oH S n (ws.getD j .bR) (zs.getD j .bR)).getD true)&&us.toArray.size == vs.toArray.size)=b:=by
   intro ws zs xs ys us vs b r1 r2 q1 q2 e;obtain⟨h1,h2⟩:=J0 e;have l1:=r1.length;have l2:=r2.length;have l3:=q1.length;have l4:=q2.length;refine⟨λj j1 j2=>?_,?_⟩
   ·rw[aV]at j1 j2;obtain⟨c,hc⟩:=h1 j `l `l;have jw:j<ws.length:=by lia
    have jz:j<zs.length:=by lia
    obtain⟨x',ex,rx'⟩:=r1.get (aU jw);obtain⟨y',ey,ry'⟩:=r2.get (aU jz);obtain⟨u',eu,ru'⟩:=q1.get ex;obtain⟨v',ev,rv'⟩:=q2.get ey;have e1:us.toArray[j]=u':=by
     obtain⟨_,e⟩:=dq.mp eu;simpa using e
    have e2:vs.toArray[j]=v':=by
     obtain⟨_,e⟩:=dq.mp ev;simpa using e
    have g1:ws.getD j .bR=ws[j]:=by rw[bF,aU jw];rfl
    have g2:zs.getD j .bR=zs[j]:=by rw[bF,aU jz];rfl
    rw[e1,e2,hc];rw[g1,g2]at hc;exact(BZ I hS n (by rw[Ju];lia) rx' ry' ru' rv' hc).1
   ·rw[aV,aV,←l3,←l4,←l1,←l2];exact h2
  cases rx with
  |bR=>
   cases(show u=cV from ru);cases ry with
   |bR=>cases(show v=cV from rv);cases h;exact⟨.same _, .none_none, .none_none⟩
   |_=>cases h
  |bl k=>
   cases(show u=eX k from ru);cases ry with
   |bl j=>cases(show v=eX j from rv);cases h;exact⟨.bool_bool _ _, .bool_bool _ _, .bool_bool _ _⟩
   |_=>cases h
  |int k=>
   obtain⟨t0,rfl⟩:=ru;cases ry with
   |int j=>obtain⟨t,rfl⟩:=rv;cases h;exact⟨.int_int _ _ _ _, .int_int _ _ _ _, .int_int _ _ _ _⟩
   |bH f hs=>cases(show v=bj _ from rv);cases h;obtain⟨c6,_,p,_⟩:=I.tuple (.of f);exact⟨.int_tuple _ _ p hu0, .int_tuple _ _ p hu0, .int_tuple _ _ p hu0⟩
   |_=>cases h
  |str k=>
   obtain⟨t0,rfl⟩:=ru;cases ry with
   |str j=>obtain⟨t,rfl⟩:=rv;cases h;exact⟨.str_str _ _ _ _, .str_str _ _ _ _, .str_str _ _ _ _⟩
   |_=>cases h
  | @bH a xs ws f hs=>
   cases(show u=bj a from ru);obtain⟨c6,q1,p,_⟩:=I.tuple (.of f);cases ry with
   |int j=>obtain⟨t,rfl⟩:=rv;cases h;exact⟨.tuple_int _ _ p hu0, .tuple_int _ _ p hu0, .tuple_int _ _ p hu0⟩
   | @bH c ys zs g ks=>
    cases(show v=bj c from rv);obtain⟨its2,q2,p2,_⟩:=I.tuple (.of g);obtain⟨h1,h2⟩:=items hs ks q1 q2 h;have rc:gr A s (.ref a) (.ref c) b:=by
     have:=gr.tuples p p2 hu0 h1;rw[h2]at this;exact this
    have rn:gf A s (.ref a) (.ref c) (!b):=by
     have:=gf.tuples p p2 hu0 h1;rw[h2]at this;exact this
    refine⟨?_,rc,rn⟩;by_cases e:a=c
    ·subst e;have:=F6 I (n+1) (.bH f hs) (.bH g ks) hS h;rw[this];exact .same _
    ·exact .of_refs e rc
   |_=>cases h
  |ref a=>
   cases(show u=bj a from ru);cases ry with
   |ref c=>
    cases(show v=bj c from rv);have h':(match S a with
     |some (.bx xs)=>match S c with
      |some (.bx ys)=>pA (oH S n) xs ys
      |_=>none
     |_=>none)=aa b:=h
    cases e:S a with
    |none=>rw[e]at h';cases h'
    |some o=>
     rw[e]at h';cases o with
     |dct _=>cases h'
     |dk _=>cases h'
     |ins _ _=>cases h'
     |bx ws=>
      cases e2:S c with
      |none=>rw[e2]at h';cases h'
      |some o2=>
       rw[e2]at h';cases o2 with
       |dct _=>cases h'
       |dk _=>cases h'
       |ins _ _=>cases h'
       |bx zs=>
        obtain⟨xs,f,hs⟩:=hS a _ e;obtain⟨ys,g,ks⟩:=hS c _ e2;obtain⟨c6,q1,p,_⟩:=I.list (.of f);obtain⟨its2,q2,p2,_⟩:=I.list (.of g);obtain⟨h1,h2⟩:=items hs ks q1 q2 h';have both:gr A s (.ref a) (.ref c) b∧gf A s (.ref a) (.ref c) (!b):=by
         by_cases hz:c6.toArray.size=its2.toArray.size
         ·have t1:=gr.lists p.isList p2.isList hz hu0 h1;have t2:=gf.lists p.isList p2.isList hz hu0 h1;rw[←hz,Nat.min_self,beq_self_eq_true,Bool.and_true]at h2;rw[h2]at t1 t2;exact⟨t1,t2⟩
         ·have hz':(c6.toArray.size != its2.toArray.size)=true:=by simpa using hz
          have hz2:(c6.toArray.size == its2.toArray.size)=false:=by simpa using hz
          rw[hz2,eO]at h2;subst h2;exact⟨.lists_lengths p.isList p2.isList hz' hu0, .lists_lengths p.isList p2.isList hz' hu0⟩
        refine⟨?_,both.1,both.2⟩;by_cases ee:a=c
        ·subst ee;have:=F6 I (n+1) (.ref a) (.ref a) hS h;rw[this];exact .same _
        ·exact .of_refs ee both.1
   |_=>cases h
  |b8 f=>cases ry<;>cases h
def o4 (neg:Bool) (x:W) (y:W) (S:gY) (Q:WK):Prop:=match oH S 60 x y with
 |some b=>Q (.bl (if neg then !b else b)) S
 |none=>False
def HF (K:am) (neg:Bool):R2:=λx y H Q=>∃wx wy S b,oz K H wx x∧oz K H wy y∧nB K H S∧oH S 60 wx wy=aa b∧Q (.bl (if neg then !b else b)) H
def zEN (hu:X.A.units+60<cLine):o8 X (bD .Eq) (HF X.K false):=by
 intro ag s σ H x y v u Q I rx ry h;obtain⟨wx,wy,S,b,r1,r2,hS,e,q⟩:=h;exact(BZ I hS 60 hu r1 r2 rx ry e).2.1 _ _ _ _ ⟨.bl b,H,I,rfl,q⟩
def zER (hu:X.A.units+60<cLine):o8 X (bD .NotEq) (HF X.K true):=by
 intro ag s σ H x y v u Q I rx ry h;obtain⟨wx,wy,S,b,r1,r2,hS,e,q⟩:=h;exact(BZ I hS 60 hu r1 r2 rx ry e).2.2 _ _ _ _ ⟨.bl (!b),H,I,rfl,q⟩
def OU{K:am}{neg:Bool}:su K (HF K neg) (o4 neg):=λH x y wx wy S Q QW rx ry hS h hQ=>by
 unfold o4 at h;split at h
 ·rename_i b e;exact⟨wx,wy,S,b,rx,ry,hS,e,hQ _ S _ H .refl (.bl _) hS h⟩
 ·exact h.elim
abbrev yK:W2:=rK λi j=> .bl (decide (i<j))
abbrev sZ:W2:=rK λi j=> .bl (decide (j<i))
abbrev IN:W2:=rK λi j=> .bl (decide (j≤i))
def rZ:W2
 | .int i, .int j,S,Q=>Q (.bl (decide (i≤j))) S
 | .str i, .str j,S,Q=>Q (.bl (!decide (j.cps.toList<i.cps.toList))) S
 |_,_,_,_=>False
def Gu{K:am}:su K (λx y H Q=>tq (λi j=> .bl (decide (i≤j))) x y H Q∨(∃i j,x= .str i∧y= .str j∧Q (.bl (!decide (j.cps.toList<i.cps.toList))) H)) rZ:=λH x y wx wy S Q QW rx ry hS h hQ=>by
 cases rx with
 |int i=>
  cases ry with
  |int j=>exact .inl ⟨i,j,rfl,rfl,hQ _ S _ H .refl (.bl _) hS h⟩
  |_=>exact h.elim
 |str i=>
  cases ry with
  |str j=>exact .inr ⟨i,j,rfl,rfl,hQ _ S _ H .refl (.bl _) hS h⟩
  |_=>exact h.elim
 |_=>exact h.elim
def uD (r r':W2) (a b c:WE) (E:WX) (σ:nK) (S:gY) (Q:WK):Prop:=a E σ S λx S1=>b E σ S1 λy S2=>r x y S2 λz S3=>match z with
 | .bl true=>c E σ S3 λu S4=>r' y u S4 Q
 | .bl false=>Q (.bl false) S3
 |_=>False
def p6 (neg:Bool):W2
 | .bR, .bR,S,Q=>Q (.bl (!neg)) S
 | .bl a, .bl b,S,Q=>Q (.bl (if neg then a != b else a == b)) S
 | .bl _, .bR,S,Q=>Q (.bl neg) S
 | .int _, .bR,S,Q=>Q (.bl neg) S
 | .str _, .bR,S,Q=>Q (.bl neg) S
 | .bH _, .bR,S,Q=>Q (.bl neg) S
 | .ref _, .bR,S,Q=>Q (.bl neg) S
 |_,_,_,_=>False
def ZT:o8 X (bD .Is) (λx y H Q=>(y= .bR∧Q (.bl (decide (x= .bR))) H)∨ ∃a b,x= .bl a∧y= .bl b∧Q (.bl (a == b)) H):=xJ.or (by
 intro ag s σ H x y v u Q I rx ry h;obtain⟨a,b,rfl,rfl,q⟩:=h;cases rx;cases ry;exact is_bool ⟨.bl _,H,I,rfl,q⟩)
def ztM:o8 X (bD .IsNot) (λx y H Q=>(y= .bR∧Q (.bl (!decide (x= .bR))) H)∨ ∃a b,x= .bl a∧y= .bl b∧Q (.bl (a != b)) H):=vN.or (by
 intro ag s σ H x y v u Q I rx ry h;obtain⟨a,b,rfl,rfl,q⟩:=h;cases rx;cases ry;exact isnot_bool ⟨.bl _,H,I,rfl,q⟩)
def zBg{K:am}:su K (λx y H Q=>(y= .bR∧Q (.bl (decide (x= .bR))) H)∨ ∃a b,x= .bl a∧y= .bl b∧Q (.bl (a == b)) H) (p6 false):=λH x y wx wy S Q QW rx ry hS h hQ=>by
 cases ry with
 |bR=>cases rx<;>first |exact .inl ⟨rfl,by simpa using hQ _ S _ H .refl (.bl _) hS h⟩ |exact h.elim
 |bl b=>
  cases rx with
  |bl a=>exact .inr ⟨a,b,rfl,rfl,hQ _ S _ H .refl (.bl _) hS h⟩
  |_=>exact h.elim
 |_=>cases rx<;>exact h.elim
def Xy{K:am}:su K (λx y H Q=>(y= .bR∧Q (.bl (!decide (x= .bR))) H)∨ ∃a b,x= .bl a∧y= .bl b∧Q (.bl (a != b)) H) (p6 true):=λH x y wx wy S Q QW rx ry hS h hQ=>by
 cases ry with
 |bR=>cases rx<;>first |exact .inl ⟨rfl,by simpa using hQ _ S _ H .refl (.bl _) hS h⟩ |exact h.elim
 |bl b=>
  cases rx with
  |bl a=>exact .inr ⟨a,b,rfl,rfl,hQ _ S _ H .refl (.bl _) hS h⟩
  |_=>exact h.elim
 |_=>cases rx<;>exact h.elim
noncomputable def qS (S:gY) (x:W):List W→Option Bool
 | []=>aa false
 |w::ws=>match oH S 59 w x with
  |some a=>match qS S x ws with
   |some b=>aa (a || b)
   |none=>none
  |none=>none
section
theorem Hy (I:nA X ag σ H s) (hS:nB X.K H S):∀(n:Nat) {w w' u:W}{v:V}{b b':Bool},oz X.K H w v→oz X.K H w' v→oH S n w u=aa b→oH S n w' u=aa b'→b=b'
 |0,_,_,_,_,_,_,_,_,h,_=>by cases h
 |n+1,w,w',u,v,b,b',r,r',h,h'=>by
  have list:∀{us ws zs:List W}{vs:List V}{b b':Bool},mE X.K H ws vs→mE X.K H zs vs→pA (oH S n) ws us=aa b→pA (oH S n) zs us=aa b'→b=b':=by
   intro us
   induction us with
   |nil=>
    intro ws zs vs b b' r1 r2 e1 e2;cases r1 with
    |nil=>cases r2;rw[e1]at e2;exact aL e2
    |cons _ _=>cases r2 with
     |cons _ _=>have:=aL e1;have:=aL e2;subst_vars;rfl
   |cons u us ih=>
    intro ws zs vs b b' r1 r2 e1 e2;cases r1 with
    |nil=>cases r2;rw[e1]at e2;exact aL e2
    |cons a1 a2=>
     cases r2 with
     |cons c1 c2=>
      unfold pA at e1 e2;split at e1
      ·rename_i p q f1 f2;split at e2
       ·rename_i p' q' g1 g2;have h1:=Hy I hS n a1 c1 f1 g1;have h2:=ih a2 c2 f2 g2;rw[←aL e1,←aL e2,h1,h2]
       ·cases e2
      ·cases e1
  have nolist:∀{a:aj}{vs:List V}{ws:List W},H a=aa (.bH vs)→S a=aa (.bx ws)→False:=λf e=>by
   obtain⟨_,g,_⟩:=hS _ _ e;rw[f]at g;cases g
  cases r with
  |bR=>cases r';rw[h]at h';exact aL h'
  |bl k=>cases r';rw[h]at h';exact aL h'
  |int k=>cases r';rw[h]at h';exact aL h'
  |str k=>cases r';rw[h]at h';exact aL h'
  |b8 f=>cases u<;>cases h
  | @bH a vs ws f hs=>
   cases r' with
   | @bH _ us zs g ks=>
    rw[f]at g;cases g;cases u with
    |bH us=>exact list hs ks h h'
    |int _=>have:=aL h;have:=aL h';subst_vars;rfl
    |_=>cases h
   |b8 _=>cases u<;>cases h'
   |ref _=>
    exfalso;cases u with
    |ref c=>
     have h2:(match S a with
      |some (.bx xs)=>match S c with
       |some (.bx ys)=>pA (oH S n) xs ys
       |_=>none
      |_=>none)=aa b':=h'
     split at h2
     ·exact nolist f ‹_›
     ·cases h2
    |_=>cases h'
  |ref a=>
   cases r' with
   |ref _=>rw[h]at h';exact aL h'
   |b8 _=>cases u<;>cases h'
   |bH f hs=>
    exfalso;cases u with
    |ref c=>
     have h2:(match S a with
      |some (.bx xs)=>match S c with
       |some (.bx ys)=>pA (oH S n) xs ys
       |_=>none
      |_=>none)=aa b:=h
     split at h2
     ·exact nolist f ‹_›
     ·cases h2
    |_=>cases h
open Classical in
def Cc (I:nA X ag σ H s) (hS:nB X.K H S) {A:bn}{ws:List W}{vs:List V}{us:List ai}{wx:W}{x:V}{u:ai}{b:Bool}(hu:A.units+60<cLine) (r:mE X.K H ws vs) (rv:nE vs us) (rx:oz X.K H wx x) (ru:nH x u) (h:qS S wx ws=aa b) :
  ∃e:ai→Bool,(∀y,y∈us.toArray→fG A.in1 s y u (e y))∧us.toArray.any e=b:=by
 refine⟨λy=>decide (∃w v,oz X.K H w v∧nH v y∧oH S 59 w wx=aa true),?_,?_⟩
 ·have go:∀{ws:List W}{vs:List V}{us:List ai}{b:Bool},mE X.K H ws vs→nE vs us→qS S wx ws=aa b→ ∀y∈us,fG A.in1 s y u (decide (∃w v,oz X.K H w v∧nH v y∧oH S 59 w wx=aa true)):=by
   intro ws
   induction ws with
   |nil=>intro vs us b r rv h y hy;cases r;cases rv;cases hy
   |cons w ws ih=>
    intro vs us b r rv h y hy;cases r with
    |cons r1 r2=>
     cases rv with
     |cons q1 q2=>
      unfold qS at h;split at h
      ·rename_i c e1;split at h
       ·rename_i d e2;obtain rfl |hy:=az.mp hy
        ·have ok:=(BZ I hS 59 (A:=A.in1) (by rw[Ju];lia) r1 rx q1 ru e1).1;have ec:c=decide (∃w v,oz X.K H w v∧nH v y∧oH S 59 w wx=aa true):=by
          cases c with
          |true=>exact(decide_eq_true ⟨w,_,r1,q1,e1⟩).symm
          |false=>
           symm;refine decide_eq_false λ⟨w',v',r',q',e'⟩=>?_;have:=nH.inj q' q1;subst this;exact absurd (Hy I hS 59 r1 r' e1 e') `s
         rw[←ec];exact ok
        ·exact ih r2 q2 e2 y hy
       ·cases h
      ·cases h
  intro y hy;exact go r rv h y (by simpa using hy)
 ·have go:∀{ws:List W}{vs:List V}{us:List ai}{b:Bool},mE X.K H ws vs→nE vs us→qS S wx ws=aa b→us.any (λy=>decide (∃w v,oz X.K H w v∧nH v y∧oH S 59 w wx=aa true))=b:=by
   intro ws
   induction ws with
   |nil=>intro vs us b r rv h;cases r;cases rv;exact aL h
   |cons w ws ih=>
    intro vs us b r rv h;cases r with
    |cons r1 r2=>
     cases rv with
     | @cons _ _ _ _ q1 q2=>
      rename_i y _;unfold qS at h;split at h
      ·rename_i c e1;split at h
       ·rename_i d e2;have ec:decide (∃w v,oz X.K H w v∧nH v y∧oH S 59 w wx=aa true)=c:=by
          cases c with
          |true=>exact decide_eq_true ⟨w,_,r1,q1,e1⟩
          |false=>
           refine decide_eq_false λ⟨w',v',r',q',e'⟩=>?_;have:=nH.inj q' q1;subst this;exact absurd (Hy I hS 59 r1 r' e1 e') `s
        rw[fD,ih r2 q2 e2,ec];exact aL h
       ·cases h
      ·cases h
  have:=go r rv h;simpa using this
end
def ud (neg:Bool):W2:=λx y S Q=>match y with
 | .str j=>match x with
  | .str i=>Q (.bl (if neg then !(!(cW j i 0 j.length 1).isEmpty) else !(cW j i 0 j.length 1).isEmpty)) S
  |_=>False
 | .bH ws=>match qS S x ws with
  |some b=>Q (.bl (if neg then !b else b)) S
  |none=>False
 | .ref a=>oN S a λws=>match qS S x ws with
  |some b=>Q (.bl (if neg then !b else b)) S
  |none=>False
 |_=>False
def HD (K:am) (neg:Bool):R2:=λx y H Q=>∃wx ws vs S p b,y= .ref p∧(pJ K H p vs∨pV K H p vs)∧mE K H ws vs∧oz K H wx x∧nB K H S∧qS S wx ws=aa b∧Q (.bl (if neg then !b else b)) H
def YZ (hu:X.A.units+60<cLine):o8 X (bD .In) (HD X.K false):=by
 intro ag s σ H x y v u Q I rx ry h;obtain⟨wx,ws,vs,S,p,b,rfl,hq,rs,r,hS,e,q⟩:=h;cases ry;obtain hq |hq:=hq
 ·obtain⟨c6,rv,p,_⟩:=I.list hq;obtain⟨f,h1,h2⟩:=Cc I hS hu rs rv r rx e;exact SeqAt.in_listAt f p.isList h1 (by rw[h2];exact⟨.bl b,H,I,rfl,q⟩)
 ·obtain⟨c6,rv,p,_⟩:=I.tuple hq;obtain⟨f,h1,h2⟩:=Cc I hS hu rs rv r rx e;exact SeqAt.in_tupleAt f p h1 (by rw[h2];exact⟨.bl b,H,I,rfl,q⟩)
def zsm (hu:X.A.units+60<cLine):o8 X (bD .NotIn) (HD X.K true):=by
 intro ag s σ H x y v u Q I rx ry h;obtain⟨wx,ws,vs,S,p,b,rfl,hq,rs,r,hS,e,q⟩:=h;cases ry;obtain hq |hq:=hq
 ·obtain⟨c6,rv,p,_⟩:=I.list hq;obtain⟨f,h1,h2⟩:=Cc I hS hu rs rv r rx e;exact SeqAt.notIn_listAt f p.isList h1 (by rw[h2];exact⟨.bl (!b),H,I,rfl,q⟩)
 ·obtain⟨c6,rv,p,_⟩:=I.tuple hq;obtain⟨f,h1,h2⟩:=Cc I hS hu rs rv r rx e;exact SeqAt.notIn_tupleAt f p h1 (by rw[h2];exact⟨.bl (!b),H,I,rfl,q⟩)
def OW{K:am}{neg:Bool}{H:Hp}{x y:V}{wx wy:W}{S:gY}{Q:VK}{QW:WK}(rx:oz K H wx x) (ry:oz K H wy y) (hS:nB K H S) (h:ud neg wx wy S QW) (hQ:pj K H S QW Q) :
  (∃i j,x= .str i∧y= .str j∧Q (.bl (if neg then !(!(cW j i 0 j.length 1).isEmpty) else !(cW j i 0 j.length 1).isEmpty)) H)∨HD K neg x y H Q:=by
 cases ry with
 |str j=>
  cases rx with
  |str i=>exact .inl ⟨i,j,rfl,rfl,hQ _ S _ H .refl (.bl _) hS h⟩
  |_=>exact h.elim
 |bH f hs=>
  refine .inr ?_;unfold ud at h;dsimp only at h;split at h
  ·exact⟨wx,_,_,S,_,_,rfl, .inr (.of f),hs,rx,hS, ‹_›,hQ _ S _ H .refl (.bl _) hS h⟩
  ·exact h.elim
 |ref a=>
  refine .inr ?_;obtain⟨ws,e,h⟩:=qL h;obtain⟨vs,f,hs⟩:=hS a _ e;split at h
  ·exact⟨wx,_,_,S,_,_,rfl, .inl (.of f),hs,rx,hS, ‹_›,hQ _ S _ H .refl (.bl _) hS h⟩
  ·exact h.elim
 |_=>exact h.elim
def nC:W2:=λx y S Q=>match y with
 | .int i=>match x with
  | .bH ws=>match ow ws i with
   |some w=>Q w S
   |none=>False
  | .ref a=>oN S a λws=>match ow ws i with
   |some w=>Q w S
   |none=>False
  | .b8 ns=>match ow ns i with
   |some n=>Q (.int n) S
   |none=>False
  | .str x=>x.length≤sizeLine∧match ow x.cps.toList i with
   |some c=>Q (.str ⟨#[c]⟩) S
   |none=>False
  |_=>False
 |_=>False
def Ee{K:am}{H:Hp}{ws:List W}{vs:List V}{i:Int}{w:W}(r:mE K H ws vs) (e:ow ws i=aa w):∃v,ow vs i=aa v∧oz K H w v:=by
 unfold ow at e⊢;rw[←r.length];cases q:tj ws.length i with
 |none=>rw[q]at e;cases e
 |some j=>rw[q]at e;exact r.get e
def Uo{α β:Type}{f:α→β}{xs:List α}{i:Int}{x:α}(e:ow xs i=aa x):ow (xs.map f) i=aa (f x):=by
 unfold ow at e⊢;rw[aD];cases q:tj xs.length i with
 |none=>rw[q]at e;cases e
 |some j=>
  rw[q]at e;show(xs.map f)[j]? =_;rw[bK,show xs[j]? =aa x from e];rfl
def zEo{K:am}:su K (PX K) nC:=λH x y wx wy S Q QW rx ry hS h hQ=>by
 cases ry with
 |int i=>
  cases rx with
  |bH f hs=>
   unfold nC at h;dsimp only at h;split at h
   ·obtain⟨v,ev,r⟩:=Ee hs ‹_›;exact .inr (.inl ⟨_,_,i,v,rfl,rfl, .of f,ev,hQ _ S _ H .refl r hS h⟩)
   ·exact h.elim
  |ref a=>
   obtain⟨ws,e,h⟩:=qL h;obtain⟨vs,f,hs⟩:=hS a _ e;split at h
   ·obtain⟨v,ev,r⟩:=Ee hs ‹_›;exact .inl ⟨_,_,i,v,rfl,rfl, .of f,ev,hQ _ S _ H .refl r hS h⟩
   ·exact h.elim
  |b8 f=>
   unfold nC at h;dsimp only at h;split at h
   ·exact .inl ⟨_,_,i,_,rfl,rfl,f.sq,Uo ‹_›,hQ _ S _ H .refl (.int _) hS h⟩
   ·exact h.elim
  |str z=>
   unfold nC at h;dsimp only at h;obtain⟨hz,h⟩:=h;split at h
   ·exact .inr (.inr ⟨z,i,_,rfl,rfl,hz, ‹_›,hQ _ S _ H .refl (.str _) hS h⟩)
   ·exact h.elim
  |_=>exact h.elim
 |_=>exact h.elim
section
variable {X:Cx}{a b e:Expr}{pos p2:bi}{ta tb te:WE}{lo hi:Option Expr}
def Yv (ha:JE X a ta) (hb:JE X b tb) (hs:B0 b:=by intro _ _;rfl):JE X (.Subscript a b pos) (wOp nC ta tb):=λE hE=>
 (N1 Kj (ha E hE) (hb E hE) hs).mono λσ H Q h=>DP h λH2 x y wx wy S QW rx ry hS q hQ=>zEo H2 x y wx wy S Q QW rx ry hS q hQ
abbrev WO:=WX→nK→gY→(Option Int→gY→Prop)→Prop
def ZH (K:am) (t:nK→gY→(Option Int→gY→Prop)→Prop):TO:=λσ H Q=>∃σW S QW,n9 K H σW σ∧nB K H S∧t σW S QW∧ ∀b S' H',oA H S H' S'→nB K H' S'→QW b S'→Q b H'
def JO (X:Cx) (e:Option Expr) (t:WO):Prop:=∀E,pK X E→PO X e (ZH X.K (t E))
def py (_:WX) (_:nK) (S:gY) (Q:Option Int→gY→Prop):Prop:=Q none S
def woS (t:WE) (E:WX) (σ:nK) (S:gY) (Q:Option Int→gY→Prop):Prop:=t E σ S λw S1=>match w with
 | .int i=>Q (aa i) S1
 |_=>False
def PO.mono{X:Cx}{e:Option Expr}{t t':TO}(h:PO X e t) (q:∀σ H Q,t' σ H Q→t σ H Q):PO X e t':=λag s σ H Q I z=>h ag s σ H Q I (q σ H Q z)
def SB:JO X none py:=λE hE=>vC.mono λσ H Q zz=>oF zz λσW S QW hσ hS ht hQ=>hQ none S H .refl hS ht
def zyZ (h:JE X e te):JO X (aa e) (woS te):=λE hE=>(Sw (h E hE)).mono λσ H Q zz=>oF zz λσW S QW hσ hS ht hQ=>⟨σW,S,_,hσ,hS,ht,λw S1 v H1 e1 r1 d5 h1=>by
 cases r1 with
 |int i=>exact⟨i,rfl,hQ _ S1 H1 e1 d5 h1⟩
 |_=>exact h1.elim⟩
noncomputable def pS {α:Type}(xs:List α) (lo hi:Option Int):List α:=(xs.drop (HT.sIx xs.length 0 lo)).take (HT.sIx xs.length xs.length hi - HT.sIx xs.length 0 lo)
def FP{K:am}{H:Hp}{ws:List W}{vs:List V}{lo hi:Option Int}(r:mE K H ws vs):mE K H (pS ws lo hi) (ul vs lo hi):=by
 unfold pS ul;rw[r.length];exact(r.drop _).take _
def Jh{α β:Type}{f:α→β}{xs:List α}{lo hi:Option Int}:pS (xs.map f) lo hi=(pS xs lo hi).map f:=by
 unfold pS;rw[aD,List.map_take,List.map_drop]
def We{prog:aY}{w:aP}{A:bn}{E:ai→ao→Prop}{s:ao}{t sl:aj}{items:Array ai}{vl vu:ai}{lo hi:Option Int}{Q:ai→ao→Prop}(ht:fU s.heap t items) (hs:s.heap.IsSliceOf sl vl vu .none) (pl:dj vl lo) (pu:dj vu hi)
  (hw:HT.sIx items.size 0 lo=0∧HT.sIx items.size items.size hi=items.size) (h:Q (.ref t) s):ax (aC prog w) A (eU (.ref t) (.ref sl)) Q E s:=by
 obtain⟨os,hos,hcs,hds⟩:=id hs;have hTs:s.TypeIs (.ref sl) "slice" :=⟨os,hos,hcs⟩;unfold eU
 try with_reducible refine eS ?_
 first |refine av (aK ?_) |skip
 refine av (mU ht.typeIs `d ?_);refine av (dU (name:=aq "__getitem__") ht.typeIs fH
  (dH fH ht.typeIs lx ?_ (my _ _)))
 show ax _ _ (m4 (.ref t) >>= _) _ _ s;refine av (tupleItemsOf_ ht ?_);refine av (gh hTs ?_);rw[if_pos `d];refine av (HT.sliceApplied_gen hs pl pu ?_);show ax _ _ (if(((HT.sIx items.size 0 lo:Nat):Int) == 0&&(1:Int) == 1&&(HT.sIx items.size items.size hi - HT.sIx items.size 0 lo) == items.size)=true then _ else _) _ _ s;rw[hw.1,hw.2,if_pos `s];unfold cE.Tuple.tupleIsExact;refine av (av (gh ht.typeIs (aK ?_)));rw[if_pos `d];exact av (fS (aK ⟨_,rfl,aK h⟩))
def vG:vM X (λx lo hi H Q=>∃a xs,x= .ref a∧pV X.K H a xs∧((HT.sIx xs.length 0 lo=0∧HT.sIx xs.length xs.length hi=xs.length)∧Q (.ref a) H∨ ¬(HT.sIx xs.length 0 lo=0∧HT.sIx xs.length xs.length hi=xs.length)∧ ∀p,H p=none→Q (.ref p) (nY H p (.bH (ul xs lo hi))))):=by
 intro ag s σ H x v vl vu lo hi sl Q I rx hs pl pu h;obtain⟨a,xs,rfl,hx,⟨hw,q⟩ |⟨hw,q⟩⟩:=h
 ·cases rx;obtain⟨c6,r,ht,hz⟩:=I.tuple hx;have hlen:c6.toArray.size=xs.length:=by rw[aV];exact r.length.symm
  refine⟨"tuple",_,fH.lookup,ht.typeIs,?_⟩;exact We ht hs pl pu (by rw[hlen];exact hw) ⟨.ref a,H,I,rfl,q⟩
 ·exact XH ag s σ H _ v vl vu lo hi sl Q I rx hs pl pu ⟨a,xs,rfl,hx,hw,q⟩
def A9:W→Option Int→Option Int→gY→WK→Prop
 | .bH ws,lo,hi,S,Q=>Q (.bH (pS ws lo hi)) S
 | .str z,lo,hi,S,Q=>z.length≤sizeLine∧Q (.str (cu z lo hi)) S
 | .ref a,lo,hi,S,Q=>oN S a λws=>∀p,S p=none→Q (.ref p) (bz S p (.bx (pS ws lo hi)))
 | .b8 ns,lo,hi,S,Q=>∀p,S p=none→Q (.ref p) (bz S p (.bx ((pS ns lo hi).map W.int)))
 |_,_,_,_,_=>False
def pD (t:WE) (l h:WO) (E:WX) (σ:nK) (S:gY) (Q:WK):Prop:=t E σ S λx S1=>l E σ S1 λlo S2=>h E σ S2 λhi S3=>A9 x lo hi S3 Q
def ZE{α:Type}{xs:List α}{lo hi:Option Int}(h:HT.sIx xs.length 0 lo=0∧HT.sIx xs.length xs.length hi=xs.length):pS xs lo hi=xs:=by
 unfold pS;rw[h.1,h.2,di,eA,gR]
def XB{tl th:WO}(he:JE X e te) (hl:JO X lo tl) (hh:JO X hi th):JE X (.Subscript e (.Slice lo hi none p2) pos) (pD te tl th):=λE hE=>
 (Lk (vG.or (xX.or MG)) (he E hE) (hl E hE) (hh E hE)).mono λσ H Q zz=>oF zz λσW S QW hσ hS ht hQ=>
  ⟨σW,S,_,hσ,hS,ht,λw S1 v H1 e1 r1 d5 h1=>⟨σW,S1,_,hσ.ext e1,d5,h1,λlo S2 H2 e2 hS2 h2=>⟨σW,S2,_,(hσ.ext e1).ext e2,hS2,h2,λhi S3 H3 e3 hS3 h3=>by
   have hQ':=hQ.from (e1.trans (e2.trans e3));have r3:=(r1.ext e2).ext e3;cases r3 with
   | @bH a vs ws f hs=>
    refine .inl ⟨a,vs,rfl, .of f,?_⟩;by_cases hw:HT.sIx vs.length 0 lo=0∧HT.sIx vs.length vs.length hi=vs.length
    ·refine .inl ⟨hw,hQ' (.bH ws) S3 _ H3 .refl (.bH f hs) hS3 ?_⟩;have:=ZE (xs:=ws) (lo:=lo) (hi:=hi) (by rw[hs.length];exact hw);have h3':QW (.bH (pS ws lo hi)) S3:=h3;rw[this]at h3';exact h3'
    ·exact .inr ⟨hw,λp hp=>hQ' _ S3 _ _ (.new hp) (.bH pY ((FP hs).ext (.new (S:=S3) hp))) (hS3.new hp) h3⟩
   |str z=>exact .inr (.inl ⟨z,rfl,h3.1,hQ' _ S3 _ H3 .refl (.str _) hS3 h3.2⟩)
   |ref a=>
    obtain⟨ws,ea,h⟩:=qL h3;obtain⟨vs,f,hs⟩:=hS3 a _ ea;exact .inr (.inr ⟨a,vs,rfl, .of f,λp hp=>hQ' _ _ _ _ (.newS hp) (.ref p) (hS3.put_lst hp ((FP hs).ext (.new (S:=S3) hp))) (h p (hS3.free hp))⟩)
   | @b8 a ns f=>
    refine .inr (.inr ⟨a,_,rfl,f.sq,λp hp=>hQ' _ _ _ _ (.newS hp) (.ref p) (hS3.put_lst hp ?_) (h3 p (hS3.free hp))⟩);have q:ul (ns.map V.int) lo hi=(pS ns lo hi).map V.int:=Jh;rw[q];exact mE.ofInts _
   |_=>exact h3.elim⟩⟩⟩
def ww (t:WE) (l h:WO) (E:WX) (σ:nK) (S:gY) (Q:List W→gY→Prop):Prop:=t E σ S λx S1=>l E σ S1 λlo S2=>h E σ S2 λhi S3=>match x with
 | .ref a=>oN S3 a λws=>Q (pS ws lo hi) S3
 | .b8 ns=>Q ((pS ns lo hi).map W.int) S3
 |_=>False
def RC{tl th:WO}(he:JE X e te) (hl:JO X lo tl) (hh:JO X hi th):JL X (.Subscript e (.Slice lo hi none p2) pos) (ww te tl th):=λE hE=>
 (Lk MG (he E hE) (hl E hE) (hh E hE)).mono λσ H Q zz=>oF zz λσW S QW hσ hS ht hQ=>
  ⟨σW,S,_,hσ,hS,ht,λw S1 v H1 e1 r1 d5 h1=>⟨σW,S1,_,hσ.ext e1,d5,h1,λlo S2 H2 e2 hS2 h2=>⟨σW,S2,_,(hσ.ext e1).ext e2,hS2,h2,λhi S3 H3 e3 hS3 h3=>by
   have e':=e1.trans (e2.trans e3);have r3:=(r1.ext e2).ext e3;cases r3 with
   |ref a=>
    obtain⟨ws,ea,h⟩:=qL h3;obtain⟨vs,f,hs⟩:=hS3 a _ ea;exact⟨a,vs,rfl, .of f,λp hp=>hQ _ S3 _ p _ (e'.trans (.new hp)) (e'.free hp) pY (hS3.free hp) ((FP hs).ext (.new (S:=S3) hp)) (hS3.new hp) h⟩
   | @b8 a ns f=>
    refine⟨a,_,rfl,f.sq,λp hp=>hQ _ S3 _ p _ (e'.trans (.new hp)) (e'.free hp) pY (hS3.free hp) ?_ (hS3.new hp) h3⟩;have q:ul (ns.map V.int) lo hi=(pS ns lo hi).map V.int:=Jh;rw[q];exact mE.ofInts _
   |_=>exact h3.elim⟩⟩⟩
end
abbrev WF:=List W→gY→WK→Prop
def wB (f:WF) (t:WA) (E:WX) (σ:nK) (S:gY) (Q:WK):Prop:=t E σ S λws S1=>f ws S1 Q
def vT (K:am) (r:List V→Hp→VK→Prop) (f:WF):Prop:=∀H vs ws S (Q:VK) (QW:WK),mE K H ws vs→nB K H S→f ws S QW→pj K H S QW Q→r vs H Q
def rN (f:WF) (t:WL) (E:WX) (σ:nK) (S:gY) (Q:WK):Prop:=t E σ S λws S1=>f ws S1 Q
def yc (K:am) (r:List V→Hp→VK→Prop) (f:WF):Prop:=∀H a vs ws S (Q:VK) (QW:WK),H a=aa (.bx vs)→S a=none→mE K H ws vs→nB K H S→f ws S QW→pj K H S QW Q→r [.ref a] H Q
section
variable {X:Cx}{x:ah}{p pos:bi}{e:Expr}{es:List Expr}{t:WA}{tl:WL}{id T:String}{r:List V→Hp→VK→Prop}{f:WF}
def OR (hc:oB X (.builtin id) r) (hw:vT X.K r f) (hg:Gl X x) (hm:X.mg x=none) (hv:cO x=aa (.builtin id)) (ha:JA X (e::es) t) (hn:x≠ "__name__") (hdb:(x == ("__debug__" :ah))=false)
  (he:ay (e::es) X.env=(false,aA e X.env)::ay es X.env) (hpl:(aR pos (ay es X.env)).any (·.1)=false):JE X (.Call (.Name x p) (e::es) [] pos) (wB f t):=λE hE=>
 (GD hc hg hm hv (ha E hE) hn hdb he hpl).mono λσ H Q zz=>oF zz λσW S QW hσ hS ht hQ=>⟨σW,S,_,hσ,hS,ht,λws S1 vs H1 e1 r1 d5 h1=>hw H1 vs ws S1 Q QW r1 d5 h1 (hQ.from e1)⟩
def B2 (hc:oB X (.type T) r) (hw:vT X.K r f) (hg:Gl X x) (hm:X.mg x=none) (hv:cO x=aa (.type T)) (ha:JA X (e::es) t) (hn:x≠ "__name__") (hdb:(x == ("__debug__" :ah))=false)
  (he:ay (e::es) X.env=(false,aA e X.env)::ay es X.env) (hpl:(aR pos (ay es X.env)).any (·.1)=false):JE X (.Call (.Name x p) (e::es) [] pos) (wB f t):=λE hE=>
 (E2 hc hg hm hv (ha E hE) hn hdb he hpl).mono λσ H Q zz=>oF zz λσW S QW hσ hS ht hQ=>⟨σW,S,_,hσ,hS,ht,λws S1 vs H1 e1 r1 d5 h1=>hw H1 vs ws S1 Q QW r1 d5 h1 (hQ.from e1)⟩
def IA (hc:oB X (.builtin id) r) (hw:yc X.K r f) (hg:Gl X x) (hm:X.mg x=none) (hv:cO x=aa (.builtin id)) (ha:JL X e tl) (hn:x≠ "__name__") (hdb:(x == ("__debug__" :ah))=false)
  (he:ay [e] X.env=(false,aA e X.env)::ay [] X.env) (hpl:(aR pos (ay [] X.env)).any (·.1)=false):JE X (.Call (.Name x p) [e] [] pos) (rN f tl):=λE hE=>
 (GD hc hg hm hv (uh (ha E hE) pE he) hn hdb he hpl).mono λσ H Q zz=>oF zz λσW S QW hσ hS ht hQ=>⟨σW,S,_,hσ,hS,ht,λws S1 vs a H1 e1 fa ea na r1 d5 h1=>hw H1 a vs ws S1 Q QW ea na r1 d5 h1 (hQ.from e1)⟩
def OK (hc:oB X (.type T) r) (hw:yc X.K r f) (hg:Gl X x) (hm:X.mg x=none) (hv:cO x=aa (.type T)) (ha:JL X e tl) (hn:x≠ "__name__") (hdb:(x == ("__debug__" :ah))=false)
  (he:ay [e] X.env=(false,aA e X.env)::ay [] X.env) (hpl:(aR pos (ay [] X.env)).any (·.1)=false):JE X (.Call (.Name x p) [e] [] pos) (rN f tl):=λE hE=>
 (E2 hc hg hm hv (uh (ha E hE) pE he) hn hdb he hpl).mono λσ H Q zz=>oF zz λσW S QW hσ hS ht hQ=>⟨σW,S,_,hσ,hS,ht,λws S1 vs a H1 e1 fa ea na r1 d5 h1=>hw H1 a vs ws S1 Q QW ea na r1 d5 h1 (hQ.from e1)⟩
def pq:WF:=λws S Q=>match ws with
 | [.bH us]=>Q (.int us.length) S
 | [.ref a]=>oN S a λus=>Q (.int us.length) S
 | [.b8 ns]=>Q (.int ns.length) S
 | [.str z]=>z.length≤sizeLine∧Q (.int z.length) S
 |_=>False
def X4{K:am}:vT K (λxs H Q=>(∃p ys,xs=[.ref p]∧(pJ K H p ys∨pV K H p ys)∧Q (.int ys.length) H)∨ ∃z,xs=[.str z]∧z.length≤sizeLine∧Q (.int z.length) H) pq:=λH vs ws S Q QW r hS h hQ=>by
 cases r with
 |nil=>exact h.elim
 |cons r1 r2=>
  cases r2 with
  |cons _ _=>cases r1<;>exact h.elim
  |nil=>
   cases r1 with
   |bH f hs=>exact .inl ⟨_,_,rfl, .inr (.of f),by rw[←hs.length];exact hQ _ S _ H .refl (.int _) hS h⟩
   |ref a=>
    obtain⟨us,e,h⟩:=qL h;obtain⟨vs,f,hs⟩:=hS a _ e;exact .inl ⟨_,_,rfl, .inl (.of f),by rw[←hs.length];exact hQ _ S _ H .refl (.int _) hS h⟩
   |b8 f=>exact .inl ⟨_,_,rfl, .inl f.sq,by rw[aD];exact hQ _ S _ H .refl (.int _) hS h⟩
   |str z=>exact .inr ⟨z,rfl,h.1,hQ _ S _ H .refl (.int _) hS h.2⟩
   |_=>exact h.elim
def Ub (hg:Gl X "len") (hm:X.mg "len" =none) (ha:JA X (e::es) t) 
  (he:ay (e::es) X.env=(false,aA e X.env)::ay es X.env) (hpl:(aR pos (ay es X.env)).any (·.1)=false):JE X (.Call (.Name "len" p) (e::es) [] pos) (wB pq t):=
 OR (rG.or zls) X4 hg hm PySem.boot_len ha `d `d he hpl
def sM:WF:=λws S Q=>match ws with
 | [.bH us]=>Q (.bH us) S
 | [.ref a]=>oN S a λus=>Q (.bH us) S
 |_=>False
def Rj{K:am}:vT K (λxs H Q=>∃p ys,xs=[.ref p]∧((pJ K H p ys∧ ∀l,H l=none→Q (.ref l) (nY H l (.bH ys)))∨(pV K H p ys∧Q (.ref p) H))) sM:=λH vs ws S Q QW r hS h hQ=>by
 cases r with
 |nil=>exact h.elim
 |cons r1 r2=>
  cases r2 with
  |cons _ _=>cases r1<;>exact h.elim
  |nil=>
   cases r1 with
   |bH f hs=>exact⟨_,_,rfl, .inr ⟨.of f,hQ _ S _ H .refl (.bH f hs) hS h⟩⟩
   |ref a=>
    obtain⟨us,e,h⟩:=qL h;obtain⟨vs,f,hs⟩:=hS a _ e;exact⟨_,_,rfl, .inl ⟨.of f,λl hl=>hQ _ S _ _ (.new hl) (.bH pY (hs.ext (.new (S:=S) hl))) (hS.new hl) h⟩⟩
   |_=>exact h.elim
def xC (ws:List W) (S:gY) (Q:WK):Prop:=Q (.bH ws) S
def Yl{K:am}:yc K (λxs H Q=>∃p ys,xs=[.ref p]∧((pJ K H p ys∧ ∀l,H l=none→Q (.ref l) (nY H l (.bH ys)))∨(pV K H p ys∧Q (.ref p) H))) xC:=λH a vs ws S Q QW ea na r hS h hQ=>
 ⟨a,vs,rfl, .inl ⟨.of ea,λl hl=>hQ _ S _ _ (.new hl) (.bH pY (r.ext (.new (S:=S) hl))) (hS.new hl) h⟩⟩
def yj (t:WE) (E:WX) (σ:nK) (S:gY) (Q:List W→gY→Prop):Prop:=t E σ S λw S1=>match w with
 | .bH ws=>Q ws S1
 | .ref a=>oN S1 a λws=>Q ws S1
 | .b8 ns=>Q (ns.map W.int) S1
 |_=>False
def zxX{te:WE}(hg:Gl X "list") (hm:X.mg "list" =none) (ha:JE X e te)
  (he:ay [e] X.env=(false,aA e X.env)::ay [] X.env) (hpl:(aR pos (ay [] X.env)).any (·.1)=false):JL X (.Call (.Name "list" p) [e] [] pos) (yj te):=λE hE=>
 (E2 QM hg hm lL (uh (ha E hE) pE he) `d `d he hpl).mono λσ H Q zz=>oF zz λσW S QW hσ hS ht hQ=>⟨σW,S,_,hσ,hS,ht,λw S1 v H1 e1 r1 d5 h1=>by
  cases r1 with
  |bH f hs=>exact⟨_,_,rfl, .inr (.of f),λl hl=>hQ _ S1 _ l _ (e1.trans (.new hl)) (e1.free hl) pY (d5.free hl) (hs.ext (.new (S:=S1) hl)) (d5.new hl) h1⟩
  |ref a=>
   obtain⟨ws,ea,h⟩:=qL h1;obtain⟨vs,f,hs⟩:=d5 a _ ea;exact⟨_,_,rfl, .inl (.of f),λl hl=>hQ _ S1 _ l _ (e1.trans (.new hl)) (e1.free hl) pY (d5.free hl) (hs.ext (.new (S:=S1) hl)) (d5.new hl) h⟩
  |b8 f=>exact⟨_,_,rfl, .inl f.sq,λl hl=>hQ _ S1 _ l _ (e1.trans (.new hl)) (e1.free hl) pY (d5.free hl) (mE.ofInts _) (d5.new hl) h1⟩
  |_=>exact h1.elim⟩
noncomputable def uJ:List W→Option (List Bool)
 | []=>aa []
 | .bl b::ws=>(uJ ws).map (b:: ·)
 |_=>none
def VV{K:am}{H:Hp}:∀{ws:List W}{vs:List V}{bs:List Bool},mE K H ws vs→uJ ws=aa bs→vs=bs.map V.bl:=λ{ws vs bs} h e=>by
 induction ws generalizing vs bs with
 |nil=>cases h;have:=aL e;subst this;rfl
 |cons w ws ih=>
  cases h with
  |cons r rs=>
   cases r with
   |bl b=>
    have e':(uJ ws).map (b:: ·)=aa _:=e;cases q:uJ ws with
    |none=>rw[q]at e';cases e'
    |some cs=>
     rw[q]at e';have:=aL e';subst this;rw[aG,ih rs q]
   |_=>cases e
def tR (ws:List W) (S:gY) (Q:WK):Prop:=match uJ ws with
 |some bs=>Q (.bl (bs.all _root_.id)) S
 |none=>False
def YE{K:am}:yc K (λxs H Q=>∃(p:aj) (bs:List Bool),xs=[.ref p]∧pJ K H p (bs.map V.bl)∧Q (.bl (bs.all _root_.id)) H) tR:=λH a vs ws S Q QW ea na r hS h hQ=>by
 unfold tR at h;split at h
 ·rename_i bs e;have:=VV r e;subst this;exact⟨a,bs,rfl, .of ea,hQ _ S _ H .refl (.bl _) hS h⟩
 ·exact h.elim
def wL:W→gY→(String→Prop)→Prop
 | .bR,_,Q=>Q "NoneType"
 | .bl _,_,Q=>Q "bool"
 | .int _,_,Q=>Q "int"
 | .str _,_,Q=>Q "str"
 | .bH _,_,Q=>Q "tuple"
 | .ref a,S,Q=>oN S a λ_=>Q "list"
 | .b8 _,_,_=>False
def p_ (A B:String):Bool:=A == B || (A == "bool" &&B == "int")
def rg (T:String) (t:WE) (E:WX) (σ:nK) (S:gY) (Q:WK):Prop:=t E σ S λw S1=>wL w S1 λA=>Q (.bl (p_ A T)) S1
def zBk{a:Expr}{ta:WE}{p2:bi}{T:ah}{T':String}(hg:Gl X "isinstance") (hm:X.mg "isinstance" =none) (hgT:Gl X T) (hmT:X.mg T=none) (hv:cO T=aa (.type T')) (ha:JE X a ta) (hn:T≠ "__name__") (hd:(T == ("__debug__" :ah))=false)
  (hk:∀A∈ ["NoneType", "bool", "int", "str", "tuple", "list"],gz X.K (.type A) (.type T')=aa (p_ A T'))
  (he:ay [a, .Name T p2] X.env=(false,aA a X.env)::ay [.Name T p2] X.env:=by rfl) (he2:ay [.Name T p2] X.env=(false,aA (.Name T p2) X.env)::ay [] X.env:=by rfl) (hpl:(aR pos (ay [.Name T p2] X.env)).any (·.1)=false:=by rfl) :
  JE X (.Call (.Name "isinstance" p) [a, .Name T p2] [] pos) (rg T' ta):=λE hE=>
 (GD ZA hg hm PyProof.Rows.boot_isinstance (uh (ha E hE) (uh (UN (v:= .ty T') hgT hmT hv rfl hn hd) pE he2) he) `d `d he hpl).mono λσ H Q zz=>oF zz λσW S QW hσ hS ht hQ=>⟨σW,S,_,hσ,hS,ht,λw S1 v H1 e1 r1 d5 h1=>by
  have fin:∀{t:ai}(A:String),t= .type A→A∈ ["NoneType", "bool", "int", "str", "tuple", "list"]→pZ X.K H1 v t→QW (.bl (p_ A T')) S1→ ∃x t c b,[v,V.ty T']=[x, .ty c]∧pZ X.K H1 x t∧gz X.K t (.type c)=aa b∧Q (.bl b) H1:=λA e hA ty q=>by
   subst e;exact⟨v,_,T',_,rfl,ty,hk A hA,hQ _ S1 _ H1 e1 (.bl _) d5 q⟩
  cases r1 with
  |bR=>exact fin _ rfl `s .bR h1
  |bl b=>exact fin _ rfl `s (.bl b) h1
  |int i=>exact fin _ rfl `s (.int i) h1
  |str z=>exact fin _ rfl `s (.str z) h1
  |bH f hs=>exact fin _ rfl `s (.bH f) h1
  |ref a=>
   obtain⟨ws,ea,h⟩:=qL h1;obtain⟨vs,f,hs⟩:=d5 a _ ea;exact fin _ rfl `s (.bx f) h
  |b8 f=>exact h1.elim⟩
end
abbrev sy:=W→List W→gY→WK→Prop
def qq:W→gY→Prop
 | .ref a,S=>oN S a λ_=>True
 |_,_=>False
def tF:W→gY→Prop
 | .str _,_=>True
 |_,_=>False
def wM (rv:W→gY→Prop) (f:sy) (to:WE) (t:WA) (E:WX) (σ:nK) (S:gY) (Q:WK):Prop:=to E σ S λw S1=>rv w S1∧t E σ S1 λws S2=>f w ws S2 Q
def wS (rv:W→gY→Prop) (f:sy) (to:WE) (t:WL) (E:WX) (σ:nK) (S:gY) (Q:WK):Prop:=to E σ S λw S1=>rv w S1∧t E σ S1 λws S2=>f w ws S2 Q
def xI (K:am) (r:V→List V→Hp→VK→Prop) (f:sy):Prop:=∀H x w vs ws S (Q:VK) (QW:WK),oz K H w x→mE K H ws vs→nB K H S→f w ws S QW→pj K H S QW Q→r x vs H Q
def HJ (K:am) (r:V→List V→Hp→VK→Prop) (f:sy):Prop:=∀H x w a vs ws S (Q:VK) (QW:WK),oz K H w x→H a=aa (.bx vs)→S a=none→mE K H ws vs→nB K H S→f w ws S QW→pj K H S QW Q→r x [.ref a] H Q
def Bs (K:am) (T:String) (rv:W→gY→Prop):Prop:=∀H w v S,oz K H w v→nB K H S→rv w S→D7 K T v H
def F9{K:am}:Bs K "list" qq:=λH w v S r hS h=>by
 cases r with
 |ref a=>
  obtain⟨ws,e,_⟩:=qL h;obtain⟨vs,f,_⟩:=hS a _ e;exact .inl ⟨rfl,vs, .of f⟩
 |_=>exact h.elim
def FD{K:am}:Bs K "str" tF:=λH w v S r hS h=>by
 cases r with
 |str x=>exact rfl
 |_=>exact h.elim
section
variable {X:Cx}{o e:Expr}{es:List Expr}{to:WE}{t:WA}{tl:WL}{name:ah}{apos cpos:bi}{id T:String}{r:V→List V→Hp→VK→Prop}{f:sy}{rv:W→gY→Prop}
def EU (pa:gC T) (slot:Slot T name id) (hty:gn (.builtin id)=pure (.type "method_descriptor")) (hrv:Bs X.K T rv) (hm:tZ X id r) (hw:xI X.K r f) (ho:JE X o to) (ha:JA X (e::es) t)
  (hbase:ci o name X.env (aA o X.env)=aA o X.env)
  (hfew:((aR cpos (ay (e::es) X.env)).all (λx=> !x.1)&&(cM cpos (cN [] X.env)).all (λx=>x.1.isSome)
   &&decide ((e::es).length+([]:List b9).length+(if([]:List b9).isEmpty then 0 else 1)<30))=true)
  (hline:(apos.endLine == cpos.line)=true) (hs:ay (e::es) X.env=(false,aA e X.env)::ay es X.env) (hplain:(aR cpos (ay es X.env)).any (·.1)=false) :
  JE X (.Call (.Attribute o name apos) (e::es) [] cpos) (wM rv f to t):=λE hE=>
 (MH pa slot hty hm (ho E hE) (ha E hE) hbase hfew hline hs hplain).mono λσ H Q zz=>oF zz λσW S QW hσ hS ht hQ=>⟨σW,S,_,hσ,hS,ht,λw S1 v H1 e1 r1 d5 h1=>
  ⟨hrv H1 w v S1 r1 d5 h1.1,σW,S1,_,hσ.ext e1,d5,h1.2,λws S2 vs H2 e2 r2 hS2 h2=>hw H2 v w vs ws S2 Q QW (r1.ext e2) r2 hS2 h2 (hQ.from (e1.trans e2))⟩⟩
def ZU (pa:gC T) (slot:Slot T name id) (hty:gn (.builtin id)=pure (.type "method_descriptor")) (hrv:Bs X.K T rv) (hm:tZ X id r) (hw:HJ X.K r f) (ho:JE X o to) (ha:JL X e tl)
  (hbase:ci o name X.env (aA o X.env)=aA o X.env)
  (hfew:((aR cpos (ay [e] X.env)).all (λx=> !x.1)&&(cM cpos (cN [] X.env)).all (λx=>x.1.isSome)
   &&decide ([e].length+([]:List b9).length+(if([]:List b9).isEmpty then 0 else 1)<30))=true)
  (hline:(apos.endLine == cpos.line)=true) (hs:ay [e] X.env=(false,aA e X.env)::ay [] X.env) (hplain:(aR cpos (ay [] X.env)).any (·.1)=false) :
  JE X (.Call (.Attribute o name apos) [e] [] cpos) (wS rv f to tl):=λE hE=>
 (MH pa slot hty hm (ho E hE) (uh (ha E hE) pE hs) hbase hfew hline hs hplain).mono λσ H Q zz=>oF zz λσW S QW hσ hS ht hQ=>⟨σW,S,_,hσ,hS,ht,λw S1 v H1 e1 r1 d5 h1=>
  ⟨hrv H1 w v S1 r1 d5 h1.1,σW,S1,_,hσ.ext e1,d5,h1.2,λws S2 vs a H2 e2 fa ea na r2 hS2 h2=>hw H2 v w a vs ws S2 Q QW (r1.ext e2) ea na r2 hS2 h2 (hQ.from (e1.trans e2))⟩⟩
def M3 (pa:gC T) (slot:Slot T name id) (hty:gn (.builtin id)=pure (.type "method_descriptor")) (hrv:Bs X.K T rv) (hm:tZ X id r) (hw:xI X.K r f) (ho:JE X o to)
  (hbase:ci o name X.env (aA o X.env)=aA o X.env) (hline:(apos.endLine == cpos.line)=true):JE X (.Call (.Attribute o name apos) [] [] cpos) (wM rv f to ae):=λE hE=>
 (T5 pa slot hty hm (ho E hE) hbase hline).mono λσ H Q zz=>oF zz λσW S QW hσ hS ht hQ=>⟨σW,S,_,hσ,hS,ht,λw S1 v H1 e1 r1 d5 h1=>
  ⟨hrv H1 w v S1 r1 d5 h1.1,hw H1 v w [] [] S1 Q QW r1 .nil d5 h1.2 (hQ.from e1)⟩⟩
def rO:sy:=λw ws S Q=>match w with
 | .ref a=>oN S a λxs=>match ws with
  | [y]=>xs.length<sizeLine∧Q .bR (bz S a (.bx (xs++[y])))
  |_=>False
 |_=>False
def zqw{K:am}:xI K Kf rO:=λH x w vs ws S Q QW r rs hS h hQ=>by
 cases r with
 |ref a=>
  obtain⟨xs,ea,h⟩:=qL h;obtain⟨us,f,hs⟩:=hS a _ ea;cases rs with
  |nil=>exact h.elim
  |cons r1 r2=>
   cases r2 with
   |cons _ _=>exact h.elim
   |nil=>
    obtain⟨e,hS'⟩:=hS.set_lst ea (hs.append (.one r1));exact⟨a,us,_,rfl,rfl,f,by rw[←hs.length];exact h.1,hQ _ _ _ _ e .bR hS' h.2⟩
 |_=>exact h.elim
def YI (ho:JE X o to) (ha:JA X (e::es) t)
  (hbase:ci o "append" X.env (aA o X.env)=aA o X.env)
  (hfew:((aR cpos (ay (e::es) X.env)).all (λx=> !x.1)&&(cM cpos (cN [] X.env)).all (λx=>x.1.isSome)
   &&decide ((e::es).length+([]:List b9).length+(if([]:List b9).isEmpty then 0 else 1)<30))=true)
  (hline:(apos.endLine == cpos.line)=true) (hs:ay (e::es) X.env=(false,aA e X.env)::ay es X.env) (hplain:(aR cpos (ay es X.env)).any (·.1)=false) :
  JE X (.Call (.Attribute o "append" apos) (e::es) [] cpos) (wM qq rO to t):=EU j8 PySem.F.slot_list_append PySem.F.type_list_append F9 J_ zqw ho ha hbase hfew hline hs hplain
def B':sy:=λw ws S Q=>match w with
 | .ref a=>oN S a λxs=>match ws with
  | []=>match xs[xs.length - 1]? with
   |some y=>Q y (bz S a (.bx xs.dropLast))
   |none=>False
  |_=>False
 |_=>False
def Xm{K:am}:xI K Mx B':=λH x w vs ws S Q QW r rs hS h hQ=>by
 cases r with
 |ref a=>
  obtain⟨xs,ea,h⟩:=qL h;obtain⟨us,f,hs⟩:=hS a _ ea;cases rs with
  |cons _ _=>exact h.elim
  |nil=>
   dsimp only at h;split at h
   ·rename_i y ey;obtain⟨v,ev,rv⟩:=hs.get ey;obtain⟨e,hS'⟩:=hS.set_lst ea hs.dropLast;exact⟨a,us,v,rfl,rfl,f,by rw[←hs.length];exact ev,hQ _ _ _ _ e (rv.ext e) hS' h⟩
   ·exact h.elim
 |_=>exact h.elim
def QK (ho:JE X o to) (hbase:ci o "pop" X.env (aA o X.env)=aA o X.env) (hline:(apos.endLine == cpos.line)=true):JE X (.Call (.Attribute o "pop" apos) [] [] cpos) (wM qq B' to ae):=
 M3 j8 PySem.F.slot_list_pop PySem.F.type_list_pop F9 Rl Xm ho hbase hline
def xr:sy:=λw ws S Q=>match w with
 | .ref a=>oN S a λxs=>match ws with
  | [.bH ys]=>xs.length+ys.length≤sizeLine∧Q .bR (bz S a (.bx (xs++ys)))
  | [.ref b]=>oN S b λys=>xs.length+ys.length≤sizeLine∧Q .bR (bz S a (.bx (xs++ys)))
  |_=>False
 |_=>False
def zqk{K:am}:xI K (λx vs H Q=>M7 x vs H Q∨LY K x vs H Q) xr:=λH x w vs ws S Q QW r rs hS h hQ=>by
 cases r with
 |ref a=>
  obtain⟨xs,ea,h⟩:=qL h;obtain⟨us,f,hs⟩:=hS a _ ea;cases rs with
  |nil=>exact h.elim
  |cons r1 r2=>
   cases r2 with
   |cons _ _=>cases r1<;>exact h.elim
   |nil=>
    cases r1 with
    |bH g ks=>
     obtain⟨e,hS'⟩:=hS.set_lst ea (hs.append ks);exact .inr ⟨a,_,us,_,rfl,rfl,f, .of g,by rw[←hs.length,←ks.length];exact h.1,hQ _ _ _ _ e .bR hS' h.2⟩
    |ref b=>
     obtain⟨ys,eb,h⟩:=qL h;obtain⟨zs,g,ks⟩:=hS b _ eb;obtain⟨e,hS'⟩:=hS.set_lst ea (hs.append ks);exact .inl ⟨a,b,us,zs,rfl,rfl,f,g,by rw[←hs.length,←ks.length];exact h.1,hQ _ _ _ _ e .bR hS' h.2⟩
    |_=>exact h.elim
 |_=>exact h.elim
def zrg (ho:JE X o to) (ha:JA X (e::es) t)
  (hbase:ci o "extend" X.env (aA o X.env)=aA o X.env)
  (hfew:((aR cpos (ay (e::es) X.env)).all (λx=> !x.1)&&(cM cpos (cN [] X.env)).all (λx=>x.1.isSome)
   &&decide ((e::es).length+([]:List b9).length+(if([]:List b9).isEmpty then 0 else 1)<30))=true)
  (hline:(apos.endLine == cpos.line)=true) (hs:ay (e::es) X.env=(false,aA e X.env)::ay es X.env) (hplain:(aR cpos (ay es X.env)).any (·.1)=false) :
  JE X (.Call (.Attribute o "extend" apos) (e::es) [] cpos) (wM qq xr to t):=EU j8 PySem.F.slot_list_extend PySem.F.type_list_extend F9 (tZ.or VH Zf) zqk ho ha hbase hfew hline hs hplain
def Yj:sy:=λw ws S Q=>match w with
 | .ref a=>oN S a λxs=>xs.length+ws.length≤sizeLine∧Q .bR (bz S a (.bx (xs++ws)))
 |_=>False
noncomputable def t6:List W→Option (List ah)
 | []=>aa []
 | .str b::ws=>(t6 ws).map (b:: ·)
 |_=>none
def zuB{K:am}{H:Hp}:∀{ws:List W}{vs:List V}{bs:List ah},mE K H ws vs→t6 ws=aa bs→vs=bs.map V.str:=λ{ws vs bs} h e=>by
 induction ws generalizing vs bs with
 |nil=>cases h;have:=aL e;subst this;rfl
 |cons w ws ih=>
  cases h with
  |cons r rs=>
   cases r with
   |str b=>
    have e':(t6 ws).map (b:: ·)=aa _:=e;cases q:t6 ws with
    |none=>rw[q]at e';cases e'
    |some cs=>
     rw[q]at e';have:=aL e';subst this;rw[aG,ih rs q]
   |_=>cases e
def xn:sy:=λw ws S Q=>match w with
 | .str z=>match t6 ws with
  |some ys=>(ys.map (·.length)).sum+ys.length*z.length≤16777216∧Q (.str (c8 z ys)) S
  |none=>False
 |_=>False
def Uv{K:am}:HJ K (Pr K) xn:=λH x w a vs ws S Q QW r ea na rs hS h hQ=>by
 cases r with
 |str z=>
  unfold xn at h;dsimp only at h;split at h
  ·rename_i ys e;have:=zuB rs e;subst this;exact⟨z,a,ys,rfl,rfl, .of ea,h.1,hQ _ S _ H .refl (.str _) hS h.2⟩
  ·exact h.elim
 |_=>exact h.elim
def zvk (ho:JE X o to) (ha:JL X e tl)
  (hbase:ci o "join" X.env (aA o X.env)=aA o X.env)
  (hfew:((aR cpos (ay [e] X.env)).all (λx=> !x.1)&&(cM cpos (cN [] X.env)).all (λx=>x.1.isSome)
   &&decide ([e].length+([]:List b9).length+(if([]:List b9).isEmpty then 0 else 1)<30))=true)
  (hline:(apos.endLine == cpos.line)=true) (hs:ay [e] X.env=(false,aA e X.env)::ay [] X.env) (hplain:(aR cpos (ay [] X.env)).any (·.1)=false) :
  JE X (.Call (.Attribute o "join" apos) [e] [] cpos) (wS tF xn to tl):=ZU kA PySem.F.slot_str_join PySem.F.type_str_join FD zyD Uv ho ha hbase hfew hline hs hplain
def VM:sy:=λw ws S Q=>match w with
 | .str z=>match ws with
  | [.str y]=>match cW z y 0 z.length 1 with
   |i::_=>Q (.int i) S
   | []=>False
  |_=>False
 |_=>False
end
def vZ (i:Nat) (g:Int→Int→Int) (e:WE) (E:WX) (D:nQ) (σ:nK) (S:gY):Prop:=match σ[i]? with
 |some (aa (.int a))=>e E σ S λw S1=>match w with
  | .int b=>D.nx (σ.set i (aa (.int (g a b)))) S1
  |_=>False
 |_=>False
def U4 (hN:X.N.Nodup) (hi:X.N[i]? =aa x) (hx:uk X.env.scope x) (he:JE X e te) (hf:X.fn x=true∨X.env.scope.names.lookup x=aa .local:=by first |exact .inl rfl |exact .inr rfl |assumption) :
  JS X (.AugAssign (.Name x pos') .Add e pos) (vZ i (λa b=>a+b) te):=λE hE=>
 (zCF hN hi hx (he E hE) XO hf).mono λD σ H zz=>oF zz λσW S DW hσ hS ht hD=>by
  unfold vZ at ht;split at ht
  ·rename_i a ea;obtain⟨v,ev,rv⟩:=hσ.get ea;cases rv;refine⟨_,ev,σW,S,_,hσ,hS,ht,λw S1 v H1 e1 r1 d5 h1=>?_⟩;cases r1 with
   |int b=>exact⟨a,b,rfl,rfl,hD.nx _ S1 _ H1 e1 ((hσ.ext e1).set (.int _) i) d5 h1⟩
   |_=>exact h1.elim
  ·exact ht.elim
def xy (c:WT) (b:WS):WS:=λE D σ S=>∃I:Nat→nK→gY→Prop,(∃m,I m σ S)∧ ∀m σ S,I m σ S→c E σ S λk S1=>if k=true then
 b E { D with nx:=λσ' S'=>∃m' S'',m'<m∧Sub S'' S'∧I m' σ' S'',ct:=λσ' S'=>∃m' S'',m'<m∧Sub S'' S'∧I m' σ' S'',bk:=D.nx } σ S1 else D.nx σ S1
def WH (hc:JT X c tc) (hb:uj X body tb):JS X (.While c body [] pos) (xy tc tb):=λE hE=>
 (WC hE.own (hc E hE) (hb E hE)).mono λD σ H ⟨σW,S,DW,hσ,hS,⟨J,⟨n,ht⟩,step⟩,hD⟩=>by
  refine⟨λm σ1 H1=>∃σW1 S1,oA H S H1 S1∧n9 X.K H1 σW1 σ1∧nB X.K H1 S1∧J m σW1 S1,⟨n,σW,S, .refl,hσ,hS,ht⟩,?_⟩;rintro m σ1 H1 ⟨σW1,S1,e1,hσ1,d5,h1⟩;refine⟨σW1,S1,_,hσ1,d5,step m σW1 S1 h1,λk S2 H2 e2 hS2 h2=>?_⟩;cases k with
  |false=>exact hD.nx σW1 S2 σ1 H2 (e1.trans e2) (hσ1.ext e2) hS2 h2
  |true=>
   rw[if_pos rfl]at h2⊢;refine⟨λσ' H'=>∃m',m'<m∧ ∃σW1 S1,oA H S H' S1∧n9 X.K H' σW1 σ'∧nB X.K H' S1∧J m' σW1 S1,λσ' H' n'=>n',σW1,S2,_,hσ1.ext e2,hS2,h2,?_⟩;have e12:=e1.trans e2;have go:qV X.K H2 S2 (λσ' S'=>∃m' S'',m'<m∧Sub S'' S'∧J m' σ' S'') (λσ' H'=>∃m',m'<m∧ ∃σW1 S1,oA H S H' S1∧n9 X.K H' σW1 σ'∧nB X.K H' S1∧J m' σW1 S1):=λσW3 S3 σ3 H3 e3 hσ3 hS3 ⟨m',S4,hm,sb,q⟩=>
    ⟨m',hm,σW3,S4,(e12.trans e3).trans (.drop sb),hσ3,hS3.sub sb,q⟩
   exact⟨go,hD.rt.from e12,hD.nx.from e12,go⟩
def nU (g:WG) (b:WS) (E:WX) (D:nQ) (G:gY→Prop):List W→nK→gY→Prop
 | [],σ,S=>D.nx σ S
 |w::ws,σ,S=>g w σ S λσ1 S1=>b E { D with nx:=λσ' S'=>∃S'',Sub S'' S'∧G S''∧nU g b E D G ws σ' S'',ct:=λσ' S'=>∃S'',Sub S'' S'∧G S''∧nU g b E D G ws σ' S'',bk:=D.nx } σ1 S1
def pR (q:WI) (g:WG) (b:WS) (E:WX) (D:nQ) (σ:nK) (S:gY):Prop:=q E σ S λws G S1=>nU g b E D G ws σ S1
def X6 (hi:JI X tg iter q) (hg:JG X tg g) (hb:uj X body tb) (hcl:X.calm=true)
  (hs:∀x,dN iter X.env x=pure x):JS X (.For tg iter body [] pos) (pR q g tb):=λE hE=>
 (Wd hE.own hcl (hi E hE) (hg E hE) (hb E hE) hs).mono λD σ H zz=>oF zz λσW S DW hσ hS ht hD=>by
  refine⟨σW,S,_,hσ,hS,ht,λws G S1 J H1 e1 d5 hG1 hJ h1=>?_⟩;refine⟨λi m σ2 H2=>∃σW2 S2,oA H1 S1 H2 S2∧n9 X.K H2 σW2 σ2∧nB X.K H2 S2∧G S2∧m=ws.length - i∧i≤ws.length∧nU g tb E DW G (ws.drop i) σW2 S2,
   ⟨ws.length,σW,S1, .refl,hσ.ext e1,d5,hG1,rfl,bc _,h1⟩,?_⟩
  rintro i m σ2 H2 ⟨σW2,S2,e2,hσ2,hS2,hG2,rfl,hi2,h2⟩;obtain⟨ji,js⟩:=hJ i S2 H2 e2 hS2 hG2;by_cases hlt:i<ws.length
  ·obtain⟨jgo,jy⟩:=ji ws[i] (aU hlt);refine .inr ⟨jgo,λσ' H'=>∃σW2 S2,oA H1 S1 H' S2∧n9 X.K H' σW2 σ'∧nB X.K H' S2∧G S2∧ws.length - (i+1)=ws.length - (i+1)∧i+1≤ws.length∧nU g tb E DW G (ws.drop (i+1)) σW2 S2,λσ' H' z=>⟨_,`l,z⟩,λx H3 y3=>?_⟩
   obtain⟨e3,hS3,r3⟩:=jy x H3 y3;rw[fA hlt]at h2;refine⟨_,σW2,S2,_,r3,hσ2.ext e3,hS3,h2,λσW4 S4 σ4 H4 e4 hσ4 hS4 h4=>?_⟩;have e14:oA H1 S1 H4 S4:=(e2.trans e3).trans e4;refine⟨σW4,S4,_,hσ4,hS4,h4,?_⟩;have go:qV X.K H4 S4 (λσ' S'=>∃S'',Sub S'' S'∧G S''∧nU g tb E DW G (ws.drop (i+1)) σ' S'') (λσ' H'=>∃σW2 S2,oA H1 S1 H' S2∧n9 X.K H' σW2 σ'∧nB X.K H' S2∧G S2∧ws.length - (i+1)=ws.length - (i+1)∧i+1≤ws.length∧nU g tb E DW G (ws.drop (i+1)) σW2 S2):=
    λσW5 S5 σ5 H5 e5 hσ5 hS5 ⟨S6,sb,hG6,q⟩=>⟨σW5,S6,(e14.trans e5).trans (.drop sb),hσ5,hS5.sub sb,hG6,rfl,hlt,q⟩
   exact⟨go,hD.rt.from (e1.trans e14),hD.nx.from (e1.trans e14),go⟩
  ·have hl:i=ws.length:=by lia
   rw[gH (fE hl.symm)]at h2;exact .inl ⟨js hl,hD.nx σW2 S2 σ2 H2 (e1.trans e2) hσ2 hS2 h2⟩
def Xl (K:am) (tl:TE):TI:=λσ H R=>tl σ H λx H1=>(∃a,x= .ref a∧(∃xs,pJ K H1 a xs)∧R (C1 K a) H1)∨(∃a,x= .ref a∧(∃xs,pV K H1 a xs)∧R (FC K a) H1)∨ ∃z,x= .str z∧R (Eg z) H1
def ZW (hl:PE X l tl):PI X tg l (Xl X.K tl):=by
 intro ag s σ H R I h;refine oj (hl ag s σ H _ I h) λv s1 zz=>oJ zz λx H1 I1 r1 q1=>?_;have fp:∀b∈ [s1.heap.objs.size],rT X ag H1 b:=λb hb=>by
  have e:b=s1.heap.objs.size:=by simpa using hb
  subst e;exact I1.fpOk (aE _) (I1.b6.fresh (aE _))
 obtain ⟨a,e,⟨xs,hq⟩,q⟩ |⟨a,e,⟨xs,hq⟩,q⟩ |⟨z,e,q⟩:=q1
 ·subst e;cases r1;obtain⟨c6,rv,p,hz⟩:=I1.list hq;refine fQ p.isList ?_;exact⟨s1.heap.objs.size,[s1.heap.objs.size],_,_,H1,rfl,I1.kept (t':=s1.toks) λb o e=>aN _ e,MP a _,⟨_,bG _ rfl,rfl,rfl⟩,fp,q⟩
 ·subst e;cases r1;obtain⟨c6,rv,p,hz⟩:=I1.tuple hq;refine lG (show s1.heap.IsTuple a c6.toArray from p) ?_;exact⟨s1.heap.objs.size,[s1.heap.objs.size],_,_,H1,rfl,I1.kept (t':=s1.toks) λb o e=>aN _ e,zqM a _,⟨_,bG _ rfl,rfl,rfl⟩,fp,q⟩
 ·subst e;obtain⟨t,rfl⟩:=r1;cases ha:z.cps.all (· <128)
  ·refine wpAny_pyIter_wide ha ?_;exact⟨s1.heap.objs.size,[s1.heap.objs.size],_,_,H1,rfl,I1.kept (t':=s1.toks) λb o e=>aN _ e,
    JM _ z t "str_iterator" `d (λA' hA=>Walks.strWide hA _ z t) (λ_ _ _ _ _ st h=>wpAny_pyIter_striter_wide st h),⟨_,bG _ rfl,rfl,rfl⟩,fp,q⟩
  ·refine wpAny_pyIter_ascii ha ?_;exact⟨s1.heap.objs.size,[s1.heap.objs.size],_,_,H1,rfl,I1.kept (t':=s1.toks) λb o e=>aN _ e,
    JM _ z t "str_ascii_iterator" `d (λA' hA=>Walks.strAscii hA _ z t) (λ_ _ _ _ _ st h=>wpAny_pyIter_striter_ascii st h),⟨_,bG _ rfl,rfl,rfl⟩,fp,q⟩
noncomputable def Ac (z:ah):List W:=z.cps.toList.map λc=> .str ⟨#[c]⟩
def px (t:WE) (E:WX) (σ:nK) (S:gY) (Q:List W→(gY→Prop)→gY→Prop):Prop:=t E σ S λw S1=>match w with
 | .bH ws=>Q ws (λ_=>True) S1
 | .ref a=>oN S1 a λws=>Q ws (λS'=>S' a=aa (.bx ws)) S1
 | .b8 ns=>Q (ns.map W.int) (λ_=>True) S1
 | .str z=>Q (Ac z) (λ_=>True) S1
 |_=>False
def EE{K:am}{a:aj}{ws:List W}{G:gY→Prop}{H0:Hp}{S0:gY}(h:∀S H,oA H0 S0 H S→nB K H S→G S→ ∃vs,pJ K H a vs∧mE K H ws vs):xK K (C1 K a) ws G H0 S0:=λi S H e hS hG=>by
 obtain⟨vs,hq,r⟩:=h S H e hS hG;refine⟨λw ew=>?_,λhl=>⟨vs,hq,by rw[←r.length,hl];exact aE _⟩⟩
 obtain⟨v,ev,rv⟩:=r.get ew;refine⟨⟨vs,v,hq,ev⟩,λx H' ⟨e1,e2⟩=>?_⟩;subst e1;have e3:=e2 vs hq;rw[ev]at e3;cases e3;exact⟨.refl,hS,rv⟩
def Sd{K:am}{a:aj}{ws:List W}{vs:List V}{H0:Hp}{S0:gY}(f:H0 a=aa (.bH vs)) (r:mE K H0 ws vs):xK K (FC K a) ws (λ_=>True) H0 S0:=λi S H e hS hG=>by
 have f':=e.bH _ _ f;have r':=r.ext e;refine⟨λw ew=>?_,λhl=>⟨vs, .of f',by rw[←r'.length,hl];exact aE _⟩⟩
 obtain⟨v,ev,rv⟩:=r'.get ew;refine⟨⟨vs,v, .of f',ev⟩,λx H' ⟨e1,e2⟩=>?_⟩;subst e1;have e3:=e2 vs (.of f');rw[ev]at e3;cases e3;exact⟨.refl,hS,rv⟩
def Xk{K:am}{z:ah}{H0:Hp}{S0:gY}:xK K (Eg z) (Ac z) (λ_=>True) H0 S0:=λi S H e hS hG=>by
 unfold Ac;refine⟨λw ew=>?_,λhl=>?_⟩
 ·rw[bK]at ew;cases ec:z.cps.toList[i]? with
  |none=>rw[ec]at ew;cases ew
  |some c=>
   rw[ec]at ew;have ew':=aL ew;subst ew';have hi:i<z.cps.size:=by
    have:=(dq.mp ec).1;simpa using this
   refine⟨hi,λx H' ⟨e1,c',e2,e3⟩=>?_⟩;subst e1 e3;have:c'=c:=by
    have q:z.cps.toList[i]? =aa c':=by rw[←e2];simp
    rw[ec]at q;exact(aL q).symm
   subst this;exact⟨.refl,hS, .str _⟩
 ·show i=z.cps.size;simpa using hl
def zCT{l:Expr}{tl:WE}(hl:JE X l tl):JI X tg l (px tl):=λE hE=>
 (ZW (hl E hE)).mono λσ H R zz=>oF zz λσW S QW hσ hS ht hR=>⟨σW,S,_,hσ,hS,ht,λw S1 v H1 e1 r1 d5 h1=>by
  cases r1 with
  |bH f hs=>exact .inr (.inl ⟨_,rfl,⟨_, .of f⟩,hR _ _ S1 _ H1 e1 d5 trivial (Sd f hs) h1⟩)
  |ref a=>
   obtain⟨ws,ea,h⟩:=qL h1;obtain⟨vs,f,hs⟩:=d5 a _ ea;refine .inl ⟨_,rfl,⟨_, .of f⟩,hR _ _ S1 _ H1 e1 d5 ea (EE λS2 H2 e2 hS2 g2=>?_) h⟩;obtain⟨vs2,f2,hs2⟩:=hS2 a _ g2;exact⟨vs2, .of f2,hs2⟩
  |b8 f=>exact .inl ⟨_,rfl,⟨_,f.sq⟩,hR _ _ S1 _ H1 e1 d5 trivial (EE λS2 H2 e2 hS2 g2=>⟨_,(e2.fz f).sq,mE.ofInts _⟩) h1⟩
  |str z=>exact .inr (.inr ⟨z,rfl,hR _ _ S1 _ H1 e1 d5 trivial Xk h1⟩)
  |_=>exact h1.elim⟩
def O3 (t:WL):WI:=λE σ S Q=>t E σ S λws S1=>Q ws (λ_=>True) S1
def VD (hl:JL X l tl):JI X tg l (O3 tl):=λE hE=>
 (VW (hl E hE)).mono λσ H R zz=>oF zz λσW S QW hσ hS ht hR=>⟨σW,S,_,hσ,hS,ht,λws S1 vs a H1 e1 fa ea na r1 d5 h1=>
  ⟨a,rfl,⟨vs, .of ea⟩,hR _ _ S1 _ H1 e1 d5 trivial (EE λS2 H2 e2 hS2 g2=>⟨vs, .of (e2.fr a _ ea na).1,r1.ext e2⟩) h1⟩⟩
noncomputable def rH (lo:Int) (n:Nat):List W:=(bt n).map λ(i:Nat)=> .int (lo+(i:Int))
def Ra{K:am}{lo:Int}{n:Nat}{H0:Hp}{S0:gY}:xK K (DS lo n) (rH lo n) (λ_=>True) H0 S0:=λi S H e hS hG=>by
 unfold rH;refine⟨λw ew=>?_,λhl=>by
  have:i=n:=by simpa using hl
  exact fE this.symm⟩
 rw[bK]at ew;by_cases hi:i<n
 ·rw[gJ hi]at ew;have ew':=aL ew;subst ew';refine⟨hi,λx H' ⟨e1,e2⟩=>?_⟩;subst e1 e2;exact⟨.refl,hS, .int _⟩
 ·rw[f_ (by simpa using hi)]at ew;cases ew
def ux (t:WA) (E:WX) (σ:nK) (S:gY) (Q:List W→(gY→Prop)→gY→Prop):Prop:=t E σ S λws S1=>match ws with
 | [.int j]=>(-(2 ^ 62)≤j∧j<2 ^ 62)∧Q (rH 0 j.toNat) (λ_=>True) S1
 |_=>False
def Tv (hg:Gl X "range") (hm:X.mg "range" =none) (ha:JA X [a] ta) (hs:ay [a] X.env=[(false,aA a X.env)]):JI X tg (.Call (.Name "range" p) [a] [] pos) (ux ta):=λE hE=>
 (zsq hg hm (ha E hE) hs).mono λσ H R zz=>oF zz λσW S QW hσ hS ht hR=>⟨σW,S,_,hσ,hS,ht,λws S1 vs H1 e1 r1 d5 h1=>by
  cases r1 with
  |nil=>exact h1.elim
  |cons r2 r3=>
   cases r3 with
   |cons _ _=>cases r2<;>exact h1.elim
   |nil=>
    cases r2 with
    |int j=>exact⟨j,rfl,h1.1.1,h1.1.2,hR _ _ S1 _ H1 e1 d5 trivial Ra h1.2⟩
    |_=>exact h1.elim⟩
def pP (_:WX) (_:nK) (S:gY) (Q:Bool→gY→Prop):Prop:=Q true S
def wa (X:Cx) (ifs:List Expr) (t:WT):Prop:=∀E,pK X E→Di X ifs (EK X.K (t E))
def Y6:wa X [] pP:=λE hE ag s σ H Q I zz=>oF zz λσW S QW hσ hS ht hQ=>ZO ag s σ H Q I (hQ true S H .refl hS ht)
def Vj (h:JT X c t):wa X [c] t:=λE hE=>ZQ (h E hE)
def sA (g:WG) (c:WT) (e:WE) (E:WX) (G:gY→Prop) (Q:List W→gY→Prop):List W→List W→nK→gY→Prop
 | [],acc,_,S=>Q acc S
 |w::ws,acc,σ,S=>g w σ S λσ1 S1=>c E σ1 S1 λb S2=>if b=true then e E σ1 S2 λy S3=>acc.length<sizeLine∧ ∃S4,Sub S4 S3∧G S4∧sA g c e E G Q ws (acc++[y]) σ1 S4
   else ∃S4,Sub S4 S2∧G S4∧sA g c e E G Q ws acc σ1 S4
abbrev tN:WX:=λ_ _ _=>False
def Fk (h:X.xe=λ_ _=>False):pK X tN:=⟨by rw[h];exact fB.never,λ_ _ _ _ _ _ _ _ _ _ _ _ _ _ _ _ _ _ _ _ z=>z.elim,λ_ _ _ _ _ _ _ _ _ _ _ _ _ _ _ _ z=>z.elim⟩
def PS.nox{X:Cx}{st:bg}{t:TS}(h:PS X.nox st t):PS X st t:=λag s σ H D I hw=>
 cL (h ag s σ H D (I.wish _) hw) (λ_ _ q=>q.unwish) λ_ _ z=>cp z
def pT (k:Nat) (fr:List Nat) (q:WI) (g:WG) (c:WT) (e:WE) (_:WX) (σ:nK) (S:gY) (Q:List W→gY→Prop):Prop:=q tN σ S λws G S1=>sA g c e tN G Q ws [] (bf k none++fr.map λj=>(σ[j]?).join) S1
def TZ{K:am}{H:Hp}{σW:nK}{σ:St}{k:Nat}{fr:List Nat}(h:n9 K H σW σ):n9 K H (bf k none++fr.map λj=>(σW[j]?).join) (BY σ k fr):=by
 have one:∀j:Nat,yi K H (σW[j]?).join (σ[j]?).join:=λj=>by
  cases e:σW[j]? with
  |none=>exact trivial
  |some w=>
   cases w with
   |none=>exact trivial
   |some w=>
    obtain⟨v,ev,r⟩:=h.get e;rw[ev];exact r
 have go:∀fr:List Nat,n9 K H (fr.map λj=>(σW[j]?).join) (xa σ fr):=by
  intro fr
  induction fr with
  |nil=>exact .nil
  |cons j fr ih=>exact .cons (one j) ih
 unfold BY
 induction k with
 |zero=>exact go fr
 |succ k ih=>exact .cons trivial ih
def oA.loose (a:∀b xs,H b=aa (.bH xs)→H' b=aa (.bH xs)) (b:∀c o u,H c=aa (.frz o u)→H' c=aa (.frz o u)) (d:∀b o,H b=aa o→ ∃o',H' b=aa o'):oA H (λ_=>aa (.bx [])) H' (λ_=>aa (.bx [])):=
 ⟨a,b,(λ_ _ _ g=>nomatch g),d⟩
def oA.over (e:oA H S H' S') (h:H l=none):oA H S (nY H' l o) S':=
 ⟨λb xs q=>by rw[oV (qz q h)];exact e.bH b xs q,λb ob u q=>by rw[oV (qz q h)];exact e.frz b ob u q,λb ob q z=>by rw[oV (qz q h)];exact e.fr b ob q z,λb ob q=>by rw[oV (qz q h)];exact e.all b ob q⟩
def PP (hg:∀s₀ H₀ fp pn,JG (qy X scope N s₀ H₀ fp pn) tg g) (hc:∀s₀ H₀ fp pn,wa (qy X scope N s₀ H₀ fp pn) ifs c) (he:∀s₀ H₀ fp pn,JE (qy X scope N s₀ H₀ fp pn) elt e)
  (σ:St) (H:Hp) (Q:VK):J7 X.K (pT k fr q g c e E) σ H Q→Dn X scope N k fr tg ifs elt (JJ X.K (q tN)) σ H Q:=λzz=>oF zz λσW S0 QW hσ hS ht hQ=>by
  refine⟨σW,S0,_,hσ,hS,ht,λws G S1 J H1 e1 d5 hG1 hJ h1 l hl=>?_⟩;have upl:∀{H':Hp}{vs us:List V}{S':gY},H' l=aa (.bx vs)→S' l=none→nB X.K H' S'→oA H' (λ_=>aa (.bx [])) (nY H' l (.bx us)) (λ_=>aa (.bx []))∧nB X.K (nY H' l (.bx us)) S':=λ{H' vs us S'} f n hS'=>by
   have x:oA H' (λ_=>aa (.bx [])) (nY H' l (.bx us)) (λ_=>aa (.bx [])):= .loose (λb xs q=>by rw[oV (B5 q f λz=>nomatch z)];exact q) (λb o u q=>by rw[oV (B5 q f λz=>nomatch z)];exact q) λb o q=>by
    by_cases hb:b=l
    ·subst hb;exact⟨_,pY⟩
    ·exact⟨o,by rw[oV hb];exact q⟩
   refine⟨x,λa o q=>(hS' a o q).keep x λu z=>?_⟩;have ha:a≠l:=by rintro rfl;rw[n]at q;cases q
   rw[oV ha];exact z
  refine⟨λi m σ' H'=>∃σW' S' acc vs,oA H1 S1 H' S'∧H' l=aa (.bx vs)∧S' l=none∧mE X.K H' acc vs∧n9 X.K H' σW' σ'∧nB X.K H' S'∧G S'∧m=ws.length - i∧i≤ws.length∧sA g c e tN G QW (ws.drop i) acc σW' S',
   ⟨ws.length,_,S1,[],[], .new hl,pY,d5.free hl, .nil,TZ (hσ.ext (e1.trans (.new (S:=S1) hl))),d5.new hl,hG1,rfl,bc _,h1⟩,?_⟩
  rintro i m σ' H' ⟨σW',S',acc,vs,e2,f2,n2,ra,hσ2,hS2,hG2,rfl,hi2,h2⟩;obtain⟨ji,js⟩:=hJ i S' H' e2 hS2 hG2;by_cases hlt:i<ws.length
  ·obtain⟨jgo,jy⟩:=ji ws[i] (aU hlt);refine .inr ⟨jgo,λσ'' H''=>∃σW' S' acc vs,oA H1 S1 H'' S'∧H'' l=aa (.bx vs)∧S' l=none∧mE X.K H'' acc vs∧n9 X.K H'' σW' σ''∧nB X.K H'' S'∧G S'∧ws.length - (i+1)=ws.length - (i+1)∧i+1≤ws.length∧sA g c e tN G QW (ws.drop (i+1)) acc σW' S',
    λσ'' H'' z=>⟨_,`l,z⟩,λx H3 y3=>?_⟩
   obtain⟨e3,hS3,r3⟩:=jy x H3 y3;rw[fA hlt]at h2;intro s₀ H₀ fp pn;have hk:pK (qy X scope N s₀ H₀ fp pn) tN:=Fk rfl;refine⟨_,_,_,hg s₀ H₀ fp pn tN hk,hc s₀ H₀ fp pn tN hk,he s₀ H₀ fp pn tN hk,?_⟩;refine⟨_,σW',S',_,r3,hσ2.ext e3,hS3,h2,λσW4 S4 σ4 H4 e4 hσ4 hS4 h4=>?_⟩;refine⟨σW4,S4,_,hσ4,hS4,h4,λb S5 H5 e5 hS5 h5=>?_⟩;have e15:oA H' S' H5 S5:=(e3.trans e4).trans e5;have hσ5:=hσ4.ext e5;obtain⟨f5,n5⟩:=e15.fr l _ f2 n2;cases b with
   |false=>
    have h5:∃S4,Sub S4 S5∧G S4∧sA g c e tN G QW (ws.drop (i+1)) acc σW4 S4:=h5;refine SA ?_;obtain⟨S6,sb,hG6,h6⟩:=h5;have e16:=e15.trans (.drop sb);exact⟨σW4,S6,acc,vs,e2.trans e16,f5,(e16.fr l _ f2 n2).2,ra.ext e15,hσ5,hS5.sub sb,hG6,rfl,hlt,h6⟩
   |true=>
    rw[if_pos rfl]at h5;refine TC ?_;refine⟨σW4,S5,_,hσ5,hS5,h5,λy S6 v H6 e6 r6 hS6 h6=>?_⟩;have e17:=e15.trans e6;obtain⟨f6,n6⟩:=e17.fr l _ f2 n2;obtain⟨hz,S7,sb,hG7,h7⟩:=h6;obtain⟨x6,hS6'⟩:=upl (us:=vs++[v]) f6 n6 hS6;have ra6:mE X.K H6 (acc++[y]) (vs++[v]):=(ra.ext e17).append (.one r6);refine⟨vs,f6,by rw[←ra.length];exact hz,σW4,S7,acc++[y],vs++[v],?_,pY,((e17.trans (.drop sb)).fr l _ f2 n2).2,ra6.ext x6,(hσ5.ext e6).ext x6,hS6'.sub sb,hG7,rfl,hlt,h7⟩
    exact(e2.trans (e17.trans (.drop sb))).over hl
  ·have hll:i=ws.length:=by lia
   rw[gH (fE hll.symm)]at h2;exact .inl ⟨js hll,hQ acc S' vs l H' (e1.trans e2) (e1.free hl) f2 n2 ra hS2 h2⟩
def Z_ (S:ou X.nox scope N k fr) (hi:JI X.nox tg iter q) (hg:∀s₀ H₀ fp pn,JG (qy X.nox scope N s₀ H₀ fp pn) tg g) (hc:∀s₀ H₀ fp pn,wa (qy X.nox scope N s₀ H₀ fp pn) ifs c) (he:∀s₀ H₀ fp pn,JE (qy X.nox scope N s₀ H₀ fp pn) elt e)
  (hs:∀x,dN iter X.env x=pure x) (hcl:X.calm=true):JL X (.ListComp elt [⟨tg,iter,ifs,0⟩] scope pos) (pT k fr q g c e):=λE hE=>
 (PE.nox (U0 rfl hcl S (hi tN (Fk rfl)) hs)).mono (PP (X:=X.nox) hg hc he)
def RZ{i:Nat}{x:ah}{pos' spos:bi}(hN:X.N.Nodup) (hxi:X.N[i]? =aa x) (hxl:uk X.env.scope x) (S:ou X.nox scope N k fr) (hi:JI X.nox tg iter q) (hg:∀s₀ H₀ fp pn,JG (qy X.nox scope N s₀ H₀ fp pn) tg g) (hc:∀s₀ H₀ fp pn,wa (qy X.nox scope N s₀ H₀ fp pn) ifs c) (he:∀s₀ H₀ fp pn,JE (qy X.nox scope N s₀ H₀ fp pn) elt e)
  (hw:dE (.ListComp elt [⟨tg,iter,ifs,0⟩] scope pos) (aa (.Name x pos')) spos.line X.env=pure true) (hf:X.fn x=true∨X.env.scope.names.lookup x=aa .local:=by first |exact .inl rfl |exact .inr rfl |assumption)
  (hs:∀x,dN iter X.env x=pure x:=by intro _;rfl) (hcl:X.calm=true:=by rfl):JS X (.Assign [.Name x pos'] (.ListComp elt [⟨tg,iter,ifs,0⟩] scope pos) spos) (jj (ox (pT k fr q g c e)) (wGN i)):=λE hE=>
 (PS.nox (RV (X:=X.nox) rfl hcl S (hi tN (Fk rfl)) hN hxi hxl hw hf hs)).mono λD σ H zz=>oF zz λσW S0 DW hσ hS ht hD=>
  PP (X:=X.nox) (E:=E) hg hc he σ H _ ⟨σW,S0,_,hσ,hS,ht,λws S1 vs a H1 e1 fa ea na r1 d5 h1=>by
   have ex:oA H S0 H1 (bz S1 a (.bx ws)):=⟨e1.bH,e1.frz,λb o q g=>by
    have hb:b≠a:=by rintro rfl;rw[fa]at q;cases q
    rw[oQ hb];exact e1.fr b o q g,e1.all⟩
   refine hD.nx _ (bz S1 a (.bx ws)) _ H1 ex ((hσ.ext ex).set (.ref a) i) (λb o q=>?_) (h1 a na);by_cases hb:b=a
   ·subst hb;rw[nJ]at q;cases q;exact⟨vs,ea,r1⟩
   ·rw[oQ hb]at q;exact d5 b o q⟩
def om (k:Bool) (h:aH) (it a:aj) (i:Nat):Prop:=if k=true then h.IsListIter it a i else h.IsTupleIter it a i
def oa (k:Bool) (h:aH) (a:aj) (c6:Array ai):Prop:=if k=true then h.IsList a c6 else h.IsTuple a c6
def om.at (x:om k h it a i) (e:∀o,h.get? it=aa o→h'.get? it=aa o):om k h' it a i:=by
 cases k with
 |true=>exact aH.IsListIter.at (show h.IsListIter it a i from x) e
 |false=>exact aH.IsTupleIter.at (show h.IsTupleIter it a i from x) e
def oa.at (x:oa k h a c6) (e:∀o,h.get? a=aa o→h'.get? a=aa o):oa k h' a c6:=by
 cases k with
 |true=>exact aH.IsList.at (show h.IsList a c6 from x) e
 |false=>obtain⟨o,ho,r⟩:=(show h.IsTuple a c6 from x);exact⟨o,e o ho,r⟩
def om.ob (x:om k h it a i):∃o vs,h.get? it=aa o∧o.data= .fields vs:=by
 cases k with
 |true=>obtain⟨o,ho,_,hd⟩:=(show h.IsListIter it a i from x);exact⟨o,_,ho,hd⟩
 |false=>obtain⟨o,ho,_,hd⟩:=(show h.IsTupleIter it a i from x);exact⟨o,_,ho,hd⟩
section
variable {prog:aY}{w:aP}{A:bn}{E:ai→ao→Prop}{s:ao}
def Yd{Q:ai→ao→Prop}(hit:s.heap.IsTupleIter it t i) (ht:s.heap.IsTuple t c6) (hx:c6[i]? =aa x)
  (hQ:∀g,g.IsTupleIter it t (i+1)→cR it s.heap g→Q x { s with heap:=g }):ax (aC prog w) A (de (.ref it)) Q E s:=by
 obtain⟨o,ho,hc,hd⟩:=id hit;obtain⟨ot,hot,_,nt,hdt⟩:=ht;unfold de;refine av (dU (name:=aq "__next__") hit.typeIs iN (dH iN hit.typeIs mj ?_ (mr _)));show ax _ _ (field (.ref it) 0 >>= _) _ _ s;refine av (bT ho hd (x:= .ref t) rfl ?_);show ax _ _ (if(bj t == cV)=true then _ else _) _ _ s;rw[if_neg (show ¬((bj t == cV)=true) from dy)];show ax _ _ (field (.ref it) 1 >>= _) _ _ s;refine av (bT ho hd (x:= .int i 0) rfl ?_);show ax _ _ (seqItems? (.ref t) >>= _) _ _ s;refine av (dF hot hdt ?_);simp only[cy,hx];refine av (ll ho hd `s (aK ⟨x,rfl,aK (hQ _ ?_ (lT ..))⟩));exact⟨_,kM _ ho (aJ.isFreed_of_fields (ma hd _)),(aJ.cls_mapFields ..).trans hc,by rw[ma hd];simp [da]⟩
def ZZ{Q:ai→ao→Prop}(hh:A.handled=none) (hit:s.heap.IsTupleIter it t i) (ht:s.heap.IsTuple t c6) (hx:c6[i]? =none)
  (hE:∀g e,jQ it s.heap g→(∃o,g.get? e=aa o∧o.cls= .type "StopIteration")→E (.ref e) { s with heap:=g }):ax (aC prog w) A (de (.ref it)) Q E s:=by
 obtain⟨o,ho,hc,hd⟩:=id hit;obtain⟨ot,hot,_,nt,hdt⟩:=ht;unfold de;refine av (dU (name:=aq "__next__") hit.typeIs iN (dH iN hit.typeIs mj ?_ (mr _)));show ax _ _ (field (.ref it) 0 >>= _) _ _ s;refine av (bT ho hd (x:= .ref t) rfl ?_);show ax _ _ (if(bj t == cV)=true then _ else _) _ _ s;rw[if_neg (show ¬((bj t == cV)=true) from dy)];show ax _ _ (field (.ref it) 1 >>= _) _ _ s;refine av (bT ho hd (x:= .int i 0) rfl ?_);show ax _ _ (seqItems? (.ref t) >>= _) _ _ s;refine av (dF hot hdt ?_);simp only[cy,hx];refine av (fS (av (ll ho hd `s ?_)));show ax _ _ (newExc (.type "StopIteration") [] >>= _) _ _ _;refine av ?_;simp only[newExc,newTuple];refine av (fv ?_ (by size_fits));refine av (m:=m8 _ _) (wpAny_of_eq (a:=cV) (by first |rfl | (simp only[m8];rfl)) ?_);refine fv ?_ (by size_fits);simp only[raiseNew];refine av (wpAny_handled ?_)
 first |rw[show A.in1.handled=none from hh] |rw[hh]
 refine av (aK (wpAny_throw ?_));exact hE _ _ (((lT ..).extBut.push _).push _) ⟨_,bG _ rfl,rfl⟩
def BO{Q:ai→ao→Prop}(hit:om k s.heap it t i) (ht:oa k s.heap t c6) (hx:c6[i]? =aa x)
  (hQ:∀g,om k g it t (i+1)→cR it s.heap g→Q x { s with heap:=g }):ax (aC prog w) A (de (.ref it)) Q E s:=by
 cases k with
 |true=>exact wpAny_nextOf_list_item hit ht hx hQ
 |false=>exact Yd hit ht hx hQ
def E6{Q:ai→ao→Prop}(hh:A.handled=none) (hit:om k s.heap it t i) (ht:oa k s.heap t c6) (hx:c6[i]? =none)
  (hE:∀g e,jQ it s.heap g→(∃o,g.get? e=aa o∧o.cls= .type "StopIteration")→E (.ref e) { s with heap:=g }):ax (aC prog w) A (de (.ref it)) Q E s:=by
 cases k with
 |true=>exact wpAny_nextOf_list_end hh hit ht hx hE
 |false=>exact ZZ hh hit ht hx hE
def UZ{k:Bool}{e it l:aj}{i:Nat}{c6:Array ai}{x old:ai}{Q:Option ai→ao→Prop}
  (he:dw s.heap e it i old) (hit:om k s.heap it l i) (hl:oa k s.heap l c6) (hx:c6[i]? =aa x) (hne:e≠it)
  (hQ:∀g,i7 g e it ((i:Int)+1) x s.heap.objs.size→om k g it l (i+1)→g.get? s.heap.objs.size=aa { cls:= .type "tuple",data:= .seq #[.int i s.toks,x] }→g.objs.size=s.heap.objs.size+1→
   (∀b o,b≠e→b≠it→s.heap.get? b=aa o→g.get? b=aa o)→Q (aa (.ref s.heap.objs.size)) { s with heap:=g,toks:=s.toks+1 }):ax (aC prog w) A (cI (.ref e)) Q E s:=by
 have hT:s.TypeIs (.ref e) "enumerate" :=⟨_,he,rfl⟩;unfold cI;refine av (gQ (dU (name:=aq "__next__") hT iz (dH iz hT lZ ?_ (nj _))));obtain⟨hp,g,d,tk,os⟩:=s;show ax _ _ (field (.ref e) 2 >>= _) _ _ _;refine av (bT he rfl (x:= .ref it) rfl ?_);refine av (BO hit hl hx λg1 hit1 hs1=>?_);replace hs1:cR it hp g1:=hs1;have he1:dw g1 e it i old:=(hs1.2 e hne).trans he;show ax _ _ (field (.ref e) 3 >>= _) _ _ ⟨g1,g,d,tk,os⟩;refine av (bT he1 rfl (x:=da i) rfl ?_);show ax _ _ (field (.ref e) 4 >>= _) _ _ ⟨g1,g,d,tk,os⟩;refine av (bT he1 rfl (x:= .none) rfl ?_);show ax _ _ (mkInt i >>= _) _ _ ⟨g1,g,d,tk,os⟩;refine av (wpAny_mkInt ?_);show ax _ _ (setField (.ref e) 3 (da ((i:Int)+1)) >>= _) _ _ ⟨g1,g,d,tk+1,os⟩;refine av (db he1 `s λg2 he2 hs2=>?_);replace hs2:cR e g1 g2:=hs2;replace he2:dw g2 e it ((i:Int)+1) old:=he2;show ax _ _ (setField (.ref e) 4 .none >>= _) _ _ ⟨g2,g,d,tk+1,os⟩;refine av (db he2 `s λg3 he3 hs3=>?_);replace hs3:cR e g2 g3:=hs3;replace he3:dw g3 e it ((i:Int)+1) old:=he3;show ax _ _ (newTuple [.int i tk,x] >>= _) _ _ ⟨g3,g,d,tk+1,os⟩;refine av (lQ ?_);have he4:dw (g3.push { cls:= .type "tuple",data:= .seq #[.int i tk,x] }) e it ((i:Int)+1) old:=aN _ he3;generalize hg4:g3.push { cls:= .type "tuple",data:= .seq #[.int i tk,x] }=g4 at he4;have hsz:g3.objs.size=hp.objs.size:=by rw[hs3.1,hs2.1,hs1.1]
 have hel:e<hp.objs.size:=aT he;have ht4:g4.get? hp.objs.size=aa { cls:= .type "tuple",data:= .seq #[.int i tk,x] }:=by rw[←hg4,←hsz];exact bG _ rfl
 have hz4:g4.objs.size=hp.objs.size+1:=by rw[←hg4,cP,hsz]
 have hk4:∀b o,b≠e→b≠it→hp.get? b=aa o→g4.get? b=aa o:=λb o hbe hbi hb=>by rw[←hg4];exact aN _ (hs3.extBut b o hbe (hs2.extBut b o hbe (hs1.extBut b o hbi hb)))
 have hit4:om k g4 it l (i+1):=by rw[←hg4];exact hit1.at λo ho=>aN _ (hs3.extBut it o (bE hne) (hs2.extBut it o (bE hne) ho))
 show ax _ _ (fP (.ref e) >>= _) _ _ ⟨g4,g,d,tk+1,os⟩;rw[hsz];clear hg4 he3 hs3 he2 hs2 he1 hs1 hit1 hsz g3 g2 g1;refine av ?_;unfold fP;refine av (bT he4 rfl (x:= .none) rfl (aK ?_));simp only[if_true];refine av (fS ?_);refine av (bT he4 rfl (x:=old) rfl ?_);refine av (db he4 `s λg5 he5 hs5=>?_);replace hs5:cR e g4 g5:=hs5;replace he5:dw g5 e it ((i:Int)+1) x:=he5;show ax _ _ (iH (.ref e) (.ref hp.objs.size) >>= _) _ _ ⟨g5,g,d,tk+1,os⟩;refine av ?_;unfold iH;refine av (db he5 `s λg6 he6 hs6=>?_);replace hs6:cR e g5 g6:=hs6;replace he6:i7 g6 e it ((i:Int)+1) x hp.objs.size:=he6;refine db he6 `s λg7 he7 hs7=>?_;replace hs7:cR e g6 g7:=hs7;replace he7:i7 g7 e it ((i:Int)+1) x hp.objs.size:=he7;refine av (hV (aK ⟨_,rfl,aK (hQ g7 he7 ?_ ?_ ?_ ?_)⟩))
 ·exact hit4.at λo ho=>hs7.extBut it o (bE hne) (hs6.extBut it o (bE hne) (hs5.extBut it o (bE hne) ho))
 ·exact hs7.extBut _ _ (dh hel) (hs6.extBut _ _ (dh hel) (hs5.extBut _ _ (dh hel) ht4))
 ·rw[hs7.1,hs6.1,hs5.1,hz4]
 ·exact λb o hbe hbi hb=>hs7.extBut b o hbe (hs6.extBut b o hbe (hs5.extBut b o hbe (hk4 b o hbe hbi hb)))
def Tz{k:Bool}{e it l:aj}{i:Nat}{c6:Array ai}{old:ai}{Q:Option ai→ao→Prop}(hh:A.handled=none)
  (he:dw s.heap e it i old) (hit:om k s.heap it l i) (hl:oa k s.heap l c6) (hx:c6[i]? =none) (hQ:∀g,jQ it s.heap g→Q none { s with heap:=g }):ax (aC prog w) A (cI (.ref e)) Q E s:=by
 have hT:s.TypeIs (.ref e) "enumerate" :=⟨_,he,rfl⟩;unfold cI;refine av (gQ (dU (name:=aq "__next__") hT iz (dH iz hT lZ ?_ (nj _))));show ax _ _ (field (.ref e) 2 >>= _) _ _ _;refine av (bT he rfl (x:= .ref it) rfl ?_);refine av (E6 hh hit hl hx λg x he' hx'=>?_);obtain⟨o,ho,hc⟩:=hx';refine av (li (T:= "StopIteration") (b:=true) ⟨o,ho,hc⟩ lK ?_);exact aK (hQ _ he')
end
noncomputable def sf (k:Bool) (a:aj):aJ:={ cls:= .type (if k=true then "list_iterator" else "tuple_iterator"),data:= .fields #[.ref a, .int 0 0] }
def Ev (e:h.get? it=aa (sf k a)):om k h it a 0:=by
 cases k with
 |true=>exact⟨_,e,rfl,rfl⟩
 |false=>exact⟨_,e,rfl,rfl⟩
def Et:(sf k a).isFreed=false:=by cases k<;>rfl
section
variable {prog:aY}{w:aP}{A:bn}{E:ai→ao→Prop}{s:ao}
def F5{Q:ai→ao→Prop}(ha:oa k s.heap a c6) (hQ:Q (.ref s.heap.objs.size) { s with heap:=s.heap.push (sf k a) }):ax (aC prog w) A (dS (.ref a)) Q E s:=by
 cases k with
 |true=>exact fQ ha hQ
 |false=>exact lG ha hQ
end
def oa.push (x:oa k h a c6) (o:aJ):oa k (h.push o) a c6:=x.at λ_ e=>aN _ e
def Qr (l:aj) (c6:Array ai) :
  PySem.Meets (cE.«enumerate.__new__» ⟨[.type "enumerate", .ref l],[]⟩) (λ_ R s=>oa k s.heap l c6∧
   R (.ok (.ret (.ref (s.heap.push (sf k l)).objs.size))) { s with heap:=(s.heap.push (sf k l)).push { cls:= .type "enumerate",data:= .fields #[.none, .bool false, .ref s.heap.objs.size,da 0, .none, .none] } }):=
 .of_wp λprog w A R s h=>by
  obtain⟨hp,g,d,tk,os⟩:=s;obtain⟨hl,h⟩:=h;have hsub:=sub_enumerate;have hL:oa k (ao.heap ⟨hp,g,d,tk,os⟩) l c6:=hl;have fin:∀{A:bn}{E:ai→ao→Prop}{Q:ai→ao→Prop},Q (.ref hp.objs.size) ⟨hp.push (sf k l),g,d,tk,os⟩→ax (aC prog w) A (dS (.ref l)) Q E ⟨hp,g,d,tk,os⟩:=λq=>F5 hL q
  wp_walk
  refine wpAny_stack_any λst=>aK ?_;split
  ·rename_i c _ _ _ _ _;cases(c == g9 "enumerate")
   ·wp_walk using fin
    exact⟨_,rfl,h⟩
   ·wp_walk using fin
    exact⟨_,rfl,h⟩
  ·wp_walk using fin
   exact⟨_,rfl,h⟩
section
variable {prog:aY}{w:aP}{A:bn}{E:ai→ao→Prop}{s:ao}
def zrQ{Q:ai→ao→Prop}(hL:oa k s.heap l c6)
  (h:∀g,dw g (s.heap.objs.size+1) s.heap.objs.size 0 .none→om k g s.heap.objs.size l 0→g.objs.size=s.heap.objs.size+2→(∀b o,s.heap.get? b=aa o→g.get? b=aa o)→Q (.ref (s.heap.objs.size+1)) { s with heap:=g }) :
  ax (aC prog w) A (call (.type "enumerate") [.ref l]) Q E s:=by
 refine callType_new PySem.F.called_enumerate `d (PySem.F.typeCall_enumerate_1 _) (PySem.F.newCall_enumerate_1 _) (λobj=>PySem.F.args_object_init_2 obj _) PySem.F.entry_enumerate_new (Qr (k:=k) l c6) ⟨hL,?_⟩;have hz:(s.heap.push (sf k l)).objs.size=s.heap.objs.size+1:=cP ..;show _∧_;rw[hz];have he:dw ((s.heap.push (sf k l)).push { cls:= .type "enumerate",data:= .fields #[.none, .bool false, .ref s.heap.objs.size,da 0, .none, .none] }) (s.heap.objs.size+1) s.heap.objs.size 0 .none:=by
  have:=bG (s.heap.push (sf k l)) (o:={ cls:= .type "enumerate",data:= .fields #[.none, .bool false, .ref s.heap.objs.size,da 0, .none, .none] }) rfl;rw[hz]at this;exact this
 exact⟨⟨_,he,rfl⟩,h _ he (Ev (aN _ (bG _ Et))) (by rw[cP,hz]) λb o x=>aN _ (aN _ x)⟩
end
section
variable {X:Cx}{ag:List (aj×aJ)}{σ:St}{H:Hp}{s:ao}{g:aH}{fp:List aj}
def nA.turnNew{t':Nat}(I:nA X ag σ H s) (hp:s.heap.objs.size≤p) (k:∀b u,b∉fp→s.heap.get? b=aa u→g.get? b=aa u) (hf:∀b∈fp,rT X ag H b) (new:nZ X.prog X.w (nY H p o) g p o) :
  nA X ag σ (nY H p o) { s with heap:=g,toks:=t' }:=by
 have hn:=I.b6.fresh hp;have lt:∀{b u},s.heap.get? b=aa u→b≠p:=λe=>bQ (b_ (aT e) hp);have nfp:∀{b u},H b=aa u→b∉fp:=λe z=>by rw[(hf _ z).1]at e;cases e
 refine I.call (g':=s.gens) (d':=s.drawn) (ch:=fp) ⟨λb u e _ _ hx=>k b u hx e,λb u e _ _ hx=>⟨u.slots,k b u hx e⟩,λb u e n _=>by rw[oV (lt e)];exact n,λb u e hx=>⟨u,k b u hx e⟩,
  λb xs e=>by rw[oV (qz e hn)];exact e,λb u xs e=>by rw[oV (qz e hn)];exact e,λb ps e=>⟨#[],by rw[oV (qz e hn),e];simp⟩⟩ (λb u e=>?_) I.bare λb hb=>⟨(hf b hb).2.2.2.1,(hf b hb).2.1,(hf b hb).2.2.2.2.1,(hf b hb).2.2.2.2.2⟩
 by_cases hb:b=p
 ·subst hb;rw[pY]at e;cases e;exact new
 ·rw[oV hb]at e;refine(I.b6 b u e).stay (λc v hc q=>k c v ?_ q) (λc q=>by rw[oV (qz q hn)];exact q) λc xs q=>by rw[oV (qz q hn)];exact q
  obtain rfl |hc:=hc
  ·exact nfp e
  ·exact nfp hc
def nA.turnedL{t':Nat}(I:nA X ag σ H s) (k:∀b u,b∉fp→s.heap.get? b=aa u→g.get? b=aa u) (hf:∀b∈fp,rT X ag H b):nA X ag σ H { s with heap:=g,toks:=t' }:=by
 have nfp:∀{b u},H b=aa u→b∉fp:=λe z=>by rw[(hf _ z).1]at e;cases e
 refine I.call (g':=s.gens) (d':=s.drawn) (ch:=fp) ⟨λb u e _ _ hx=>k b u hx e,λb u e _ _ hx=>⟨u.slots,k b u hx e⟩,λb u e n _=>n,λb u e hx=>⟨u,k b u hx e⟩,
  λb xs e=>e,λb u xs e=>e,λb ps e=>⟨#[],by rw[e];simp⟩⟩ (λb u e=>?_) I.bare λb hb=>⟨(hf b hb).2.2.2.1,(hf b hb).2.1,(hf b hb).2.2.2.2.1,(hf b hb).2.2.2.2.2⟩
 refine(I.b6 b u e).stay (λc v hc q=>k c v ?_ q) (λc q=>q) λc xs q=>q;obtain rfl |hc:=hc
 ·exact nfp e
 ·exact nfp hc
def uz (k:Bool) (K:am) (H:Hp) (a:aj) (xs:List V):Prop:=if k=true then pJ K H a xs else pV K H a xs
def nA.seq (I:nA X ag σ H s) (h:uz k X.K H a xs):∃c6:List ai,nE xs c6∧oa k s.heap a c6.toArray∧xs.length≤sizeLine:=by
 cases k with
 |true=>obtain⟨c6,r,p,z⟩:=I.list h;exact⟨c6,r,p.isList,z⟩
 |false=>obtain⟨c6,r,p,z⟩:=I.tuple h;exact⟨c6,r,p,z⟩
def nA.seq_inj (I:nA X ag σ H s) (h:uz k X.K H a xs) (h':uz k X.K H a ys):xs=ys:=by
 cases k with
 |true=>exact I.list_inj h h'
 |false=>exact I.tuple_inj h h'
end
noncomputable def Gc (k:Bool) (K:am) (a:aj):It:=
 ⟨λi H=>∃xs x,uz k K H a xs∧xs[i]? =aa x,λi H v H'=>∃p x,H p=none∧v= .ref p∧H'=nY H p (.bH [.int i,x])∧ ∀xs,uz k K H a xs→xs[i]? =aa x,λi H=>∃xs,uz k K H a xs∧xs.length≤i⟩
def RP{P:aY}{w:aP}{K:am}{es:List Expr}{x1:Nat}{pos:bi}(k:Bool) (a e it:aj) (hne:e≠it):sR P w K (.Tuple es x1 pos) (Gc k K a) [e,it] e (λi h=>(∃old,dw h e it (i:Nat) old)∧om k h it a i) where
  mem:=by simp
  obj:=λi h ⟨⟨old,he⟩,hit⟩ b hb=>by
    obtain rfl |hb:=az.mp hb
    · exact⟨_,he,λv z=>by cases z⟩
    · have q:b=it:=by simpa using hb
      subst q;obtain⟨o,vs,e,d⟩:=hit.ob;exact⟨o,e,λv z=>by rw[d]at z;cases z⟩
  keep:=λi h h' ⟨⟨old,he⟩,hit⟩ kk=>⟨⟨old,kk e `s _ he⟩,hit.at λo q=>kk it `s o q⟩
  item:=by
    intro X hP hw hK hc i ag s σ H E I hf st hg;subst hP hw hK;obtain⟨xs,x,hq,hx⟩:=hg;obtain⟨⟨old,he⟩,hit⟩:=st;obtain⟨c6,rv,p,hz⟩:=I.seq hq;obtain⟨u,hu,ru⟩:=rv.get hx;refine UZ he hit p (x:=u) (by simpa using hu) hne λg ho hit' ht hz' kk=>⟨_,rfl,?_⟩;refine wpAny_letOwnedTupleGo_enum ho λg2 he2 hs2=>?_;have hlt:s.heap.objs.size≠e:=dh (aT he);have kk2:∀b o,b∉ [e,it]→s.heap.get? b=aa o→g2.get? b=aa o:=λb o hb q=>by
      have h1:b≠e:=λz=>hb (by simp [z]);have h2:b≠it:=λz=>hb (by simp [z]);exact(hs2.2 b h1).trans (kk b o h1 h2 q)
    have hn:=I.b6.fresh (aE s.heap.objs.size);have ht2:g2.get? s.heap.objs.size=aa { cls:= .type "tuple",data:= .seq #[.int i s.toks,u] }:=(hs2.2 _ hlt).trans ht;refine⟨.ref s.heap.objs.size,nY H s.heap.objs.size (.bH [.int i,x]),I.turnNew (fp:=[e,it]) (t':=s.toks+1) (aE _) kk2 hf ⟨by show 2≤sizeLine;rw[d9];decide,[.int i s.toks,u], .cons ⟨_,rfl⟩ (.cons ru .nil),⟨_,ht2,rfl,_,rfl⟩⟩,rfl,
      ⟨_,x,hn,rfl,rfl,λys hy=>by rw[I.seq_inj hy hq];exact hx⟩,⟨⟨u,by simpa using he2⟩,hit'.at λo q=>(hs2.2 it (bE hne)).trans q⟩,λb hb=>?_⟩
    have hb':=(hf b hb).1;have:b≠s.heap.objs.size:=by
      obtain rfl |hb:=az.mp hb
      · exact bE hlt
      · have q:b=it:=by simpa using hb
        subst q;obtain⟨o,vs,e,d⟩:=hit.ob;exact bQ (aT e)
    rw[oV this];exact hb'
  done:=by
    intro X hP hw hK hc i ag s σ H E I hf st hg;subst hP hw hK;obtain⟨xs,hq,hx⟩:=hg;obtain⟨⟨old,he⟩,hit⟩:=st;obtain⟨c6,rv,p,hz⟩:=I.seq hq;have hl:=rv.length;exact Tz (I.ok.hd hc) he hit p (by simp;lia) λg eb=>⟨rfl,I.turnedL (fp:=[e,it]) (t':=s.toks) (λb o hb q=>eb b o (λz=>hb (by simp [z])) q) hf⟩
  self:=λA i s Q E ⟨⟨old,he⟩,hit⟩ h=>kQ he h
section
variable {X:Cx}{es:List Expr}{x1:Nat}{tpos:bi}
def Xv (K:am) (ta:TA):TI:=λσ H R=>ta σ H λvs H1=>∃k a xs,vs=[.ref a]∧uz k K H1 a xs∧R (Gc k K a) H1
def TN{a:Expr}{ta:TA}{p pos:bi}(hg:Gl X "enumerate") (hm:X.mg "enumerate" =none) (ha:PA X [a] ta) (hs:ay [a] X.env=[(false,aA a X.env)]):PI X (.Tuple es x1 tpos) (.Call (.Name "enumerate" p) [a] [] pos) (Xv X.K ta):=by
 intro ag s σ H R I h;refine Call_ (wE I hg hm boot_enumerate (fM (oj (ha pos ag s σ H _ I h) λus s1 zz=>oJ zz λvs H1 I1 r1 q1=>?_) hs rfl));obtain⟨k,a,xs,e,hq,q⟩:=q1;subst e;cases r1 with
 |cons r rr=>
  cases rr;cases(show _=bj a from r);obtain⟨c6,rv,pl,hz⟩:=I1.seq hq;refine zrQ pl λg he hit hz' kk=>kQ he ?_;have I2:nA X ag σ H1 { s1 with heap:=g }:=I1.kept (t':=s1.toks) kk;refine⟨s1.heap.objs.size+1,[s1.heap.objs.size+1,s1.heap.objs.size],_,_,H1,rfl,I2,RP k a _ _ (lE _),⟨⟨.none,he⟩,hit⟩,λb hb=>?_,q⟩;have hb':s1.heap.objs.size≤b:=by
   obtain rfl |hb:=az.mp hb
   ·exact Nat.le_succ _
   ·have q:b=s1.heap.objs.size:=by simpa using hb
    exact fE q.symm
  exact I1.fpOk hb' (I1.b6.fresh hb')
noncomputable def nums:Nat→List W→List W
 |_,[]=>[]
 |n,w::ws=> .bH [.int n,w]::nums (n+1) ws
theorem Fj:∀{ws:List W}{n i:Nat}{u:W},(nums n ws)[i]? =aa u→ ∃w,ws[i]? =aa w∧u= .bH [.int ((n+i:Nat):Int),w]
 | [],_,_,_,h=>by simp [nums]at h
 |w::ws,n,0,u,h=>by
  simp [nums]at h;exact⟨w,rfl,by rw[←h];rfl⟩
 |w::ws,n,i+1,u,h=>by
  obtain⟨w',e,q⟩:=Fj (ws:=ws) (n:=n+1) (i:=i) (u:=u) (by simpa [nums]using h);refine⟨w',by simpa using e,?_⟩
  rw[q,show n+1+i=n+(i+1) by lia]
theorem D_:∀{ws:List W}{n:Nat},(nums n ws).length=ws.length
 | [],_=>rfl
 |w::ws,n=>by simp [nums,D_ (ws:=ws)]
def Rm{K:am}{k:Bool}{a:aj}{ws:List W}{G:gY→Prop}{H0:Hp}{S0:gY}(h:∀S H,oA H0 S0 H S→nB K H S→G S→ ∃vs,uz k K H a vs∧mE K H ws vs):xK K (Gc k K a) (nums 0 ws) G H0 S0:=λi S H e hS hG=>by
 obtain⟨vs,hq,r⟩:=h S H e hS hG;refine⟨λu eu=>?_,λhl=>⟨vs,hq,by rw[←r.length,hl,D_];exact aE _⟩⟩
 obtain⟨w,ew,rfl⟩:=Fj eu;obtain⟨v,ev,rv⟩:=r.get ew;refine⟨⟨vs,v,hq,ev⟩,λx H' ⟨p,y,hp,e1,e2,e3⟩=>?_⟩;subst e1 e2;have e4:=e3 vs hq;rw[ev]at e4;cases e4;rw[ca];exact⟨.new hp,hS.new hp, .bH pY (.cons (.int _) (.cons (rv.ext (.new (S:=S) hp)) .nil))⟩
def vE:W→gY→(List W→(gY→Prop)→Prop)→Prop
 | .bH ws,_,Q=>Q ws λ_=>True
 | .ref a,S,Q=>oN S a λws=>Q ws λS'=>S' a=aa (.bx ws)
 | .b8 ns,_,Q=>Q (ns.map W.int) λ_=>True
 |_,_,_=>False
def zzA{K:am}{H:Hp}{S:gY}{w:W}{v:V}{Q:List W→(gY→Prop)→Prop}(r:oz K H w v) (hS:nB K H S) (h:vE w S Q) :
  ∃k a ws G,v= .ref a∧G S∧(∀S' H',oA H S H' S'→nB K H' S'→G S'→ ∃vs,uz k K H' a vs∧mE K H' ws vs)∧Q ws G:=by
 cases r with
 |bH f hs=>exact⟨false,_,_,_,rfl,trivial,λS' H' e hS' _=>⟨_, .of (e.bH _ _ f),hs.ext e⟩,h⟩
 |ref a=>
  obtain⟨ws,ea,h⟩:=qL h;exact⟨true,_,ws,_,rfl,ea,λS' H' e hS' g=>by
   obtain⟨vs,f,hs⟩:=hS' a _ g;exact⟨vs, .of f,hs⟩,h⟩
 |b8 f=>exact⟨true,_,_,_,rfl,trivial,λS' H' e hS' _=>⟨_,(e.fz f).sq,mE.ofInts _⟩,h⟩
 |_=>exact h.elim
def vv (t:WE) (E:WX) (σ:nK) (S:gY) (Q:List W→(gY→Prop)→gY→Prop):Prop:=t E σ S λw S1=>vE w S1 λws G=>Q (nums 0 ws) G S1
def Rt{a:Expr}{ta:WE}{p pos:bi}(hg:Gl X "enumerate") (hm:X.mg "enumerate" =none) (ha:JE X a ta) (hs:ay [a] X.env=[(false,aA a X.env)]) (hs2:ay [a] X.env=(false,aA a X.env)::ay [] X.env):JI X (.Tuple es x1 tpos) (.Call (.Name "enumerate" p) [a] [] pos) (vv ta):=λE hE=>
 (TN hg hm (uh (ha E hE) pE hs2) hs).mono λσ H R zz=>oF zz λσW S QW hσ hS ht hR=>⟨σW,S,_,hσ,hS,ht,λw S1 v H1 e1 r1 d5 h1=>by
  obtain⟨k,a,ws,G,rfl,hG,hq,h⟩:=zzA r1 d5 h1;obtain⟨vs,hv,_⟩:=hq S1 H1 .refl d5 hG;exact⟨k,a,vs,rfl,hv,hR _ _ S1 _ H1 e1 d5 hG (Rm hq) h⟩⟩
end
section
variable {prog:aY}{w:aP}{A:bn}{E:ai→ao→Prop}{s:ao}
def Tu{z TI TO i1 i2 l1 l2:aj}{n1 n2:Nat}{Q:Option ai→ao→Prop}(D:i9 z TI TO i1 i2 l1 l2)
  (hz:cB s.heap z TI TO .none) (hTI:cb s.heap TI (.ref i1) (.ref i2)) (hTO:cb s.heap TO a b) (h1:om k1 s.heap i1 l1 n1) (h2:om k2 s.heap i2 l2 n2) (hl1:oa k1 s.heap l1 xs) (hl2:oa k2 s.heap l2 ys) (hx:xs[n1]? =aa x) (hy:ys[n2]? =aa y)
  (hQ:∀g,cB g z TI TO (da s.heap.objs.size)→cb g TO x y→om k1 g i1 l1 (n1+1)→om k2 g i2 l2 (n2+1)→cb g s.heap.objs.size x y→g.objs.size=s.heap.objs.size+1→
   (∀c o,c≠z→c≠TO→c≠i1→c≠i2→s.heap.get? c=aa o→g.get? c=aa o)→Q (aa (.ref s.heap.objs.size)) { s with heap:=g }):ax (aC prog w) A (cI (.ref z)) Q E s:=by
 have hT:s.TypeIs (.ref z) "zip" :=⟨_,hz,rfl⟩;unfold cI;refine av (gQ (dU (name:=aq "__next__") hT ib (dH ib hT mS ?_ (mF _))));show ax _ _ (field (.ref z) 2 >>= _) _ _ _;refine av (bT hz rfl (x:= .bool false) rfl ?_);show ax _ _ (field (.ref z) 3 >>= _) _ _ _;refine av (bT hz rfl (x:= .ref TI) rfl ?_);refine av (dF hTI rfl ?_);show ax _ _ (fP (.ref z) >>= _) _ _ _;refine av ?_;unfold fP;refine av (bT hz rfl (x:= .none) rfl (aK ?_));simp only[if_true];refine av (fS ?_);refine av (bT hz rfl (x:= .ref TO) rfl ?_);refine av (db hz `s λg1 hz1 hs1=>?_);replace hz1:cB g1 z TI TO .ellipsis:=hz1;refine av ?_;simp only[lW,lV,ky,lH];refine av (av (gZ ?_));show ax _ _ (de (.ref i1) >>= _) _ _ _;refine av (BO (h1.at λo e=>hs1.extBut _ o D.i1z e) (hl1.at λo e=>hs1.extBut _ o D.l1z e) hx λg2 h12 hs2=>aK ?_);have hTO2:cb g2 TO a b:=hs2.extBut _ _ D.TOi1 (hs1.extBut _ _ D.TOz hTO);refine av (dF hTO2 rfl ?_);refine av (jq hTO2 λg3 hTO3 hs3=>?_);replace hTO3:cb g3 TO x b:=hTO3;refine av (hV (aK ?_));refine av (av (gZ ?_));show ax _ _ (de (.ref i2) >>= _) _ _ _;refine av (BO (h2.at λo e=>hs3.extBut _ o D.TOi2.symm (hs2.extBut _ o D.i12.symm (hs1.extBut _ o D.i2z e))) (hl2.at λo e=>hs3.extBut _ o D.l2TO (hs2.extBut _ o D.l2i1 (hs1.extBut _ o D.l2z e))) hy λg4 h24 hs4=>aK ?_);have hTO4:cb g4 TO x b:=hs4.extBut _ _ D.TOi2 hTO3;refine av (dF hTO4 rfl ?_);refine av (jq hTO4 λg5 hTO5 hs5=>?_);replace hTO5:cb g5 TO x y:=hTO5;refine av (hV (aK (aK ?_)));refine av (dF hTO5 rfl ?_);refine av (lQ ?_);have hsz:g5.objs.size=s.heap.objs.size:=by rw[hs5.1,hs4.1,hs3.1,hs2.1,hs1.1]
 have hz5:cB g5 z TI TO .ellipsis:=hs5.extBut _ _ D.TOz.symm (hs4.extBut _ _ D.i2z.symm (hs3.extBut _ _ D.TOz.symm (hs2.extBut _ _ D.i1z.symm hz1)));have hk5:∀c o,c≠z→c≠TO→c≠i1→c≠i2→s.heap.get? c=aa o→g5.get? c=aa o:=λc o c1 c2 c3 c4 e=>hs5.extBut _ _ c2 (hs4.extBut _ _ c4 (hs3.extBut _ _ c2 (hs2.extBut _ _ c3 (hs1.extBut _ _ c1 e))));have h15:om k1 g5 i1 l1 (n1+1):=h12.at λo e=>hs5.extBut _ o D.TOi1.symm (hs4.extBut _ o D.i12 (hs3.extBut _ o D.TOi1.symm e));have h25:om k2 g5 i2 l2 (n2+1):=h24.at λo e=>hs5.extBut _ o D.TOi2.symm e;have hzlt:z<g5.objs.size:=aT hz5;show ax _ _ (iH (.ref z) (.ref g5.objs.size) >>= _) _ _ _;refine av ?_;unfold iH;have hz6:cB (g5.push { cls:= .type "tuple",data:= .seq #[x,y] }) z TI TO .ellipsis:=aN _ hz5;refine av (db hz6 `s λg7 hz7 hs7=>?_);replace hz7:cB g7 z TI TO (da g5.objs.size):=hz7;refine db hz7 `s λg8 hz8 hs8=>?_;replace hz8:cB g8 z TI TO (da g5.objs.size):=hz8;have up:∀c o,c≠z→g5.get? c=aa o→g8.get? c=aa o:=λc o c1 e=>hs8.extBut _ _ c1 (hs7.extBut _ _ c1 (aN _ e));have hT8:cb g8 g5.objs.size x y:=hs8.extBut _ _ (dh hzlt) (hs7.extBut _ _ (dh hzlt) (bG _ rfl));have hzz:g8.objs.size=g5.objs.size+1:=by rw[hs8.1,hs7.1,cP]
 rw[hsz]at hz8 hT8 hzz;refine aK ⟨_,rfl,aK ?_⟩;show Q (aa (.ref g5.objs.size)) _;rw[hsz];exact hQ g8 hz8 (up _ _ D.TOz hTO5) (h15.at λo e=>up _ o D.i1z e) (h25.at λo e=>up _ o D.i2z e) hT8 hzz λc o c1 c2 c3 c4 e=>up c o c1 (hk5 c o c1 c2 c3 c4 e)
def Za{z TI TO i1 i2 l1 l2:aj}{n1 n2:Nat}{Q:Option ai→ao→Prop}(hh:A.handled=none) (D:i9 z TI TO i1 i2 l1 l2)
  (hz:cB s.heap z TI TO .none) (hTI:cb s.heap TI (.ref i1) (.ref i2)) (hTO:cb s.heap TO a b) (h1:om k1 s.heap i1 l1 n1) (h2:om k2 s.heap i2 l2 n2) (hl1:oa k1 s.heap l1 xs) (hl2:oa k2 s.heap l2 ys) (hend:xs[n1]? =none∨ys[n2]? =none)
  (hQ:∀g,(∀c o,c≠z→c≠TO→c≠i1→c≠i2→s.heap.get? c=aa o→g.get? c=aa o)→Q none { s with heap:=g }):ax (aC prog w) A (cI (.ref z)) Q E s:=by
 have hT:s.TypeIs (.ref z) "zip" :=⟨_,hz,rfl⟩;have fin:∀(g:aH) (e:aj),(∀c o,c≠z→c≠TO→c≠i1→c≠i2→s.heap.get? c=aa o→g.get? c=aa o)→(∃o,g.get? e=aa o∧o.cls= .type "StopIteration")→
   ax (aC prog w) A (do if(←isInstance (.ref e) (.type "StopIteration")) then pure none else throw (.ref e)) Q E { s with heap:=g }:=λg e hk ⟨o,ho,hc⟩=>
  av (li (T:= "StopIteration") (b:=true) ⟨o,ho,hc⟩ lK (aK (hQ _ hk)))
 unfold cI;refine av (gQ (dU (name:=aq "__next__") hT ib (dH ib hT mS ?_ (mF _))));show ax _ _ (field (.ref z) 2 >>= _) _ _ _;refine av (bT hz rfl (x:= .bool false) rfl ?_);show ax _ _ (field (.ref z) 3 >>= _) _ _ _;refine av (bT hz rfl (x:= .ref TI) rfl ?_);refine av (dF hTI rfl ?_);show ax _ _ (fP (.ref z) >>= _) _ _ _;refine av ?_;unfold fP;refine av (bT hz rfl (x:= .none) rfl (aK ?_));simp only[if_true];refine av (fS ?_);refine av (bT hz rfl (x:= .ref TO) rfl ?_);refine av (db hz `s λg1 hz1 hs1=>?_);replace hz1:cB g1 z TI TO .ellipsis:=hz1;refine av ?_;simp only[lW,lV,ky,lH];refine av (av (gZ ?_));show ax _ _ (de (.ref i1) >>= _) _ _ _;cases hx:xs[n1]? with
 |none=>
  refine av (E6 hh (h1.at λo e=>hs1.extBut _ o D.i1z e) (hl1.at λo e=>hs1.extBut _ o D.l1z e) hx λg2 e hs2 he=>?_);obtain⟨oe,hoe,hce⟩:=he;have hz2:cB g2 z TI TO .ellipsis:=hs2 _ _ D.i1z.symm hz1;have hez:e≠z:=λx=>by subst x;rw[hz2]at hoe;cases hoe;simp at hce
  refine db hz2 `s λg3 _ hs3=>fin g3 e (λc o c1 _ c3 _ x=>hs3.extBut _ _ c1 (hs2 _ _ c3 (hs1.extBut _ _ c1 x))) ⟨oe,hs3.extBut _ _ hez hoe,hce⟩
 |some x=>
  have hy:ys[n2]? =none:=by obtain h |h:=hend;rw[hx]at h;cases h;exact h
  refine av (BO (h1.at λo e=>hs1.extBut _ o D.i1z e) (hl1.at λo e=>hs1.extBut _ o D.l1z e) hx λg2 h12 hs2=>aK ?_);have hTO2:cb g2 TO a b:=hs2.extBut _ _ D.TOi1 (hs1.extBut _ _ D.TOz hTO);refine av (dF hTO2 rfl ?_);refine av (jq hTO2 λg3 hTO3 hs3=>?_);refine av (hV (aK ?_));refine av (av (gZ ?_));show ax _ _ (de (.ref i2) >>= _) _ _ _;refine av (E6 hh (h2.at λo e=>hs3.extBut _ o D.TOi2.symm (hs2.extBut _ o D.i12.symm (hs1.extBut _ o D.i2z e))) (hl2.at λo e=>hs3.extBut _ o D.l2TO (hs2.extBut _ o D.l2i1 (hs1.extBut _ o D.l2z e))) hy λg4 e hs4 he=>?_);obtain⟨oe,hoe,hce⟩:=he;have hz4:cB g4 z TI TO .ellipsis:=hs4 _ _ D.i2z.symm (hs3.extBut _ _ D.TOz.symm (hs2.extBut _ _ D.i1z.symm hz1));have hez:e≠z:=λx=>by subst x;rw[hz4]at hoe;cases hoe;simp at hce
  refine db hz4 `s λg5 _ hs5=>fin g5 e (λc o c1 c2 c3 c4 x=>hs5.extBut _ _ c1 (hs4 _ _ c4 (hs3.extBut _ _ c2 (hs2.extBut _ _ c3 (hs1.extBut _ _ c1 x))))) ⟨oe,hs5.extBut _ _ hez hoe,hce⟩
end
noncomputable abbrev Ce (k1:Bool) (h:aH) (l1:aj):aH:=h.push (sf k1 l1)
noncomputable abbrev Du (k1 k2:Bool) (h:aH) (l1 l2:aj):aH:=(Ce k1 h l1).push (sf k2 l2)
noncomputable abbrev BV (k1 k2:Bool) (h:aH) (l1 l2:aj):aH:=(Du k1 k2 h l1 l2).push { cls:= .type "tuple",data:= .seq #[.ref h.objs.size, .ref (Ce k1 h l1).objs.size] }
noncomputable abbrev CO (k1 k2:Bool) (h:aH) (l1 l2:aj):aH:=(BV k1 k2 h l1 l2).push { cls:= .type "tuple",data:= .seq #[.none, .none] }
noncomputable abbrev wU (k1 k2:Bool) (h:aH) (l1 l2:aj):aH:=(CO k1 k2 h l1 l2).push { cls:= .type "zip",data:= .fields #[.none, .bool false, .bool false, .ref (Du k1 k2 h l1 l2).objs.size, .ref (BV k1 k2 h l1 l2).objs.size] }
def zqv (l1 l2:aj) (xs ys:Array ai) :
  PySem.Meets (cE.«zip.__new__» ⟨[.type "zip", .ref l1, .ref l2],[]⟩) (λ_ R s=>oa k1 s.heap l1 xs∧oa k2 s.heap l2 ys∧R (.ok (.ret (.ref (CO k1 k2 s.heap l1 l2).objs.size))) { s with heap:=wU k1 k2 s.heap l1 l2 }):=
 .of_wp λprog w A R s h=>by
  obtain⟨hp,g,d,tk,os⟩:=s;obtain⟨hl1,hl2,h⟩:=h;have hsub:=sub_zip;have f1:∀{A:bn}{E:ai→ao→Prop}{Q:ai→ao→Prop},Q (.ref hp.objs.size) ⟨hp.push (sf k1 l1),g,d,tk,os⟩→ax (aC prog w) A (dS (.ref l1)) Q E ⟨hp,g,d,tk,os⟩:=λq=>F5 (s:=⟨hp,g,d,tk,os⟩) hl1 q;have f2:∀{A:bn}{E:ai→ao→Prop}{Q:ai→ao→Prop},Q (.ref (hp.push (sf k1 l1)).objs.size) ⟨(hp.push (sf k1 l1)).push (sf k2 l2),g,d,tk,os⟩→ax (aC prog w) A (dS (.ref l2)) Q E ⟨hp.push (sf k1 l1),g,d,tk,os⟩:=λq=>F5 (s:=⟨hp.push (sf k1 l1),g,d,tk,os⟩) (hl2.push _) q
  wp_walk using f1,f2
  exact⟨_,rfl,h⟩
section
variable {prog:aY}{w:aP}{A:bn}{E:ai→ao→Prop}{s:ao}
def Xq{Q:ai→ao→Prop}(hl1:oa k1 s.heap l1 xs) (hl2:oa k2 s.heap l2 ys)
  (h:∀g,cB g (s.heap.objs.size+4) (s.heap.objs.size+2) (s.heap.objs.size+3) .none→cb g (s.heap.objs.size+2) (.ref s.heap.objs.size) (.ref (s.heap.objs.size+1))→
   cb g (s.heap.objs.size+3) .none .none→om k1 g s.heap.objs.size l1 0→om k2 g (s.heap.objs.size+1) l2 0→g.objs.size=s.heap.objs.size+5→
   (∀c o,s.heap.get? c=aa o→g.get? c=aa o)→Q (.ref (s.heap.objs.size+4)) { s with heap:=g }):ax (aC prog w) A (call (.type "zip") [.ref l1, .ref l2]) Q E s:=by
 refine callType_new PySem.F.called_zip `d (PySem.F.typeCall_zip_2 _ _) (PySem.F.newCall_zip_2 _ _) (λobj=>PySem.F.args_object_init_3 obj _ _) PySem.F.entry_zip_new (zqv (k1:=k1) (k2:=k2) l1 l2 xs ys) ⟨hl1,hl2,?_⟩;have z1:(Ce k1 s.heap l1).objs.size=s.heap.objs.size+1:=cP ..;have z2:(Du k1 k2 s.heap l1 l2).objs.size=s.heap.objs.size+2:=by rw[cP,z1]
 have z3:(BV k1 k2 s.heap l1 l2).objs.size=s.heap.objs.size+3:=by rw[cP,z2]
 have z4:(CO k1 k2 s.heap l1 l2).objs.size=s.heap.objs.size+4:=by rw[cP,z3]
 have z5:(wU k1 k2 s.heap l1 l2).objs.size=s.heap.objs.size+5:=by rw[cP,z4]
 have g5:(wU k1 k2 s.heap l1 l2).get? (CO k1 k2 s.heap l1 l2).objs.size=aa _:=bG _ rfl;have g4:(wU k1 k2 s.heap l1 l2).get? (BV k1 k2 s.heap l1 l2).objs.size=aa _:=aN _ (bG _ rfl);have g3:(wU k1 k2 s.heap l1 l2).get? (Du k1 k2 s.heap l1 l2).objs.size=aa _:=aN _ (aN _ (bG _ rfl));have g2:(wU k1 k2 s.heap l1 l2).get? (Ce k1 s.heap l1).objs.size=aa _:=aN _ (aN _ (aN _ (bG _ Et)));have g1:(wU k1 k2 s.heap l1 l2).get? s.heap.objs.size=aa _:=aN _ (aN _ (aN _ (aN _ (bG _ Et))));show _∧_;rw[z2,z3,z4]at g5;rw[z1,z2]at g3;rw[z3]at g4;rw[z1]at g2;rw[z4];exact⟨⟨_,g5,rfl⟩,h _ g5 g3 g4 (Ev g1) (Ev g2) z5 λc o x=>aN _ (aN _ (aN _ (aN _ (aN _ x))))⟩
end
def sC (k:Bool) (K:am) (H:Hp) (a:aj) (xs:List V):Prop:=if k=true then pJ K H a xs else H a=aa (.bH xs)
def sC.sq{k:Bool}{K:am}{H:Hp}{a:aj}{xs:List V}(h:sC k K H a xs):uz k K H a xs:=by
 cases k with
 |true=>exact h
 |false=>exact .of h
def oa.ob (x:oa k h a c6):∃o n,h.get? a=aa o∧o.data= .seq c6 n∧(k=true→o.cls= .type "list"):=by
 cases k with
 |true=>obtain⟨o,ho,hc,n,hd⟩:=(show h.IsList a c6 from x);exact⟨o,n,ho,hd,λ_=>hc⟩
 |false=>obtain⟨o,ho,hc,n,hd⟩:=(show h.IsTuple a c6 from x);exact⟨o,n,ho,hd,λz=>by cases z⟩
def oa.ne_fields (x:oa k h a c6) (e:h.get? b=aa o) (d:o.data= .fields vs):a≠b:=λz=>by
 subst z;obtain⟨o',n,ho,hd,_⟩:=x.ob;rw[ho]at e;cases e;rw[hd]at d;cases d
noncomputable def EF (k1 k2:Bool) (K:am) (a b:aj):It:=
  ⟨λi H=>∃xs ys x y,sC k1 K H a xs∧sC k2 K H b ys∧xs[i]? =aa x∧ys[i]? =aa y,
   λi H v H'=>∃p x y,H p=none∧v= .ref p∧H'=nY H p (.bH [x,y])∧(∀xs,sC k1 K H a xs→xs[i]? =aa x)∧ ∀ys,sC k2 K H b ys→ys[i]? =aa y,
   λi H=>∃xs ys,sC k1 K H a xs∧sC k2 K H b ys∧(xs.length≤i∨ys.length≤i)⟩
structure sQ (z TI TO i1 i2:aj):Prop where
  TIz:TI≠z
  TOz:TO≠z
  i1z:i1≠z
  i2z:i2≠z
  TITO:TI≠TO
  TIi1:TI≠i1
  TIi2:TI≠i2
  TOi1:TO≠i1
  TOi2:TO≠i2
  i12:i1≠i2
def OG (k1 k2:Bool) (z TI TO i1 i2 a b:aj) (i:Nat) (h:aH):Prop:=cB h z TI TO .none∧cb h TI (.ref i1) (.ref i2)∧(∃u v,cb h TO u v)∧om k1 h i1 a i∧om k2 h i2 b i
def K2{z TI TO i1 i2 a b:aj}(I:nA X ag σ H s) (hTO:H TO=none) (D:sQ z TI TO i1 i2) (st:OG k1 k2 z TI TO i1 i2 a b i s.heap) (ha:sC k1 X.K H a xs) (hb:sC k2 X.K H b ys):i9 z TI TO i1 i2 a b:=by
 obtain⟨hz,hTI,⟨u,v,hTOo⟩,h1,h2⟩:=st;obtain⟨o1,v1,e1,d1⟩:=h1.ob;obtain⟨o2,v2,e2,d2⟩:=h2.ob;obtain⟨c6,_,pa,_⟩:=I.seq ha.sq;obtain⟨its2,_,pb,_⟩:=I.seq hb.sq;have nTO:∀{k:Bool}{c:aj}{zs:List V}{c6:Array ai},sC k X.K H c zs→oa k s.heap c c6→c≠TO:=λ{k c zs c6} hc pc e=>by
  subst e;cases k with
  |false=>rw[show H c=aa (.bH zs) from hc]at hTO;cases hTO
  |true=>
   obtain⟨o,n,ho,_,hcl⟩:=pc.ob;rw[hTOo]at ho;cases ho;have:=hcl rfl;simp at this
 exact⟨D.TIz,D.TOz,D.i1z,D.i2z,D.TITO,D.TIi1,D.TIi2,D.TOi1,D.TOi2,D.i12,pa.ne_fields hz rfl,nTO ha pa,pa.ne_fields e1 d1,pa.ne_fields e2 d2,pb.ne_fields hz rfl,nTO hb pb,pb.ne_fields e1 d1,pb.ne_fields e2 d2⟩
def QF{P:aY}{w:aP}{K:am}{es:List Expr}{x1:Nat}{pos:bi}(k1 k2:Bool) (a b z TI TO i1 i2:aj) (D:sQ z TI TO i1 i2):sR P w K (.Tuple es x1 pos) (EF k1 k2 K a b) [z,TI,TO,i1,i2] z (OG k1 k2 z TI TO i1 i2 a b) where
  mem:=by simp
  obj:=λi h ⟨hz,hTI,⟨u,v,hTO⟩,h1,h2⟩ c hc=>by
    obtain⟨o1,v1,e1,d1⟩:=h1.ob;obtain⟨o2,v2,e2,d2⟩:=h2.ob;simp only[az,aZ,or_false]at hc;obtain rfl |rfl |rfl |rfl |rfl:=hc
    · exact⟨_,hz,λv z=>by cases z⟩
    · exact⟨_,hTI,λv z=>by cases z⟩
    · exact⟨_,hTO,λv z=>by cases z⟩
    · exact⟨_,e1,λv z=>by rw[d1]at z;cases z⟩
    · exact⟨_,e2,λv z=>by rw[d2]at z;cases z⟩
  keep:=λi h h' ⟨hz,hTI,⟨u,v,hTO⟩,h1,h2⟩ kk=>⟨kk z `s _ hz,kk TI `s _ hTI,⟨u,v,kk TO `s _ hTO⟩,h1.at λo q=>kk i1 `s o q,h2.at λo q=>kk i2 `s o q⟩
  item:=by
    intro X hP hw hK hc i ag s σ H E I hf st hg;subst hP hw hK;obtain⟨xs,ys,x,y,ha,hb,hx,hy⟩:=hg;have Z:=K2 I (hf TO `s).1 D st ha hb;obtain⟨hz,hTI,⟨c0,d0,hTO⟩,h1,h2⟩:=st;obtain⟨c6,rv,pa,_⟩:=I.seq ha.sq;obtain⟨its2,rv2,pb,_⟩:=I.seq hb.sq;obtain⟨u,hu,ru⟩:=rv.get hx;obtain⟨u2,hu2,ru2⟩:=rv2.get hy;refine Tu Z hz hTI hTO h1 h2 pa pb (x:=u) (y:=u2) (by simpa using hu) (by simpa using hu2) λg hz1 hTO1 h11 h21 hp hz' kk=>⟨_,rfl,?_⟩;refine wpAny_letOwnedTupleGo_zip hz1 λg2 hz2 hs2=>?_;have hs2':∀c o,c≠z→g.get? c=aa o→g2.get? c=aa o:=λc o hc e=>(hs2.2 c hc).trans e;have kk2:∀c o,c∉ [z,TI,TO,i1,i2]→s.heap.get? c=aa o→g2.get? c=aa o:=λc o hc q=>by
      simp only[az,aZ,or_false,not_or]at hc;exact hs2' c o hc.1 (kk c o hc.1 hc.2.2.1 hc.2.2.2.1 hc.2.2.2.2 q)
    have hn:=I.b6.fresh (aE s.heap.objs.size);have hpz:s.heap.objs.size≠z:=dh (aT hz);have ht2:g2.get? s.heap.objs.size=aa { cls:= .type "tuple",data:= .seq #[u,u2] }:=hs2' _ _ hpz hp;refine⟨.ref s.heap.objs.size,nY H s.heap.objs.size (.bH [x,y]),I.turnNew (fp:=[z,TI,TO,i1,i2]) (t':=s.toks) (aE _) kk2 hf ⟨by show 2≤sizeLine;rw[d9];decide,[u,u2], .cons ru (.cons ru2 .nil),⟨_,ht2,rfl,_,rfl⟩⟩,rfl,
      ⟨_,x,y,hn,rfl,rfl,λzs hy=>by rw[I.seq_inj hy.sq ha.sq];exact hx,λzs hy'=>by rw[I.seq_inj hy'.sq hb.sq];exact hy⟩,
      ⟨hz2,hs2' _ _ D.TIz (kk _ _ D.TIz D.TITO D.TIi1 D.TIi2 hTI),⟨u,u2,hs2' _ _ D.TOz hTO1⟩,h11.at λo q=>hs2' _ o D.i1z q,h21.at λo q=>hs2' _ o D.i2z q⟩,λc hc=>?_⟩
    have hlt:∃o,s.heap.get? c=aa o:=by
      obtain⟨o1,v1,e1,d1⟩:=h1.ob;obtain⟨o2,v2,e2,d2⟩:=h2.ob;simp only[az,aZ,or_false]at hc;obtain rfl |rfl |rfl |rfl |rfl:=hc
      · exact⟨_,hz⟩
      · exact⟨_,hTI⟩
      · exact⟨_,hTO⟩
      · exact⟨_,e1⟩
      · exact⟨_,e2⟩
    obtain⟨o,ho⟩:=hlt;rw[oV (bQ (aT ho))];exact(hf c hc).1
  done:=by
    intro X hP hw hK hc i ag s σ H E I hf st hg;subst hP hw hK;obtain⟨xs,ys,ha,hb,hx⟩:=hg;have Z:=K2 I (hf TO `s).1 D st ha hb;obtain⟨hz,hTI,⟨c0,d0,hTO⟩,h1,h2⟩:=st;obtain⟨c6,rv,pa,_⟩:=I.seq ha.sq;obtain⟨its2,rv2,pb,_⟩:=I.seq hb.sq;have hl:=rv.length;have hl2:=rv2.length;refine Za (I.ok.hd hc) Z hz hTI hTO h1 h2 pa pb ?_ λg eb=>⟨rfl,I.turnedL (fp:=[z,TI,TO,i1,i2]) (t':=s.toks) (λc o hc q=>?_) hf⟩
    · obtain hx |hx:=hx
      · exact .inl (by simp;lia)
      · exact .inr (by simp;lia)
    · simp only[az,aZ,or_false,not_or]at hc;exact eb c o hc.1 hc.2.2.1 hc.2.2.2.1 hc.2.2.2.2 q
  self:=λA i s Q E st h=>lM st.1 h
def Wl (K:am) (ta:TA):TI:=λσ H R=>ta σ H λvs H1=>∃k1 k2 a b xs ys,vs=[.ref a, .ref b]∧sC k1 K H1 a xs∧sC k2 K H1 b ys∧R (EF k1 k2 K a b) H1
def QX (hg:Gl X "zip") (hm:X.mg "zip" =none) (ha:PA X [a,b] ta) (hs:ay [a,b] X.env=[(false,aA a X.env),(false,aA b X.env)]) (hs2:ay [b] X.env=[(false,aA b X.env)]):PI X (.Tuple es x1 tpos) (.Call (.Name "zip" p) [a,b] [] pos) (Wl X.K ta):=by
 intro ag s σ H R I h;refine Call_ (wE I hg hm boot_zip (fM (oj (ha pos ag s σ H _ I h) λus s1 zz=>oJ zz λvs H1 I1 r1 q1=>?_) (by rw[hs,hs2]) (by rw[hs2];rfl)));obtain⟨k1,k2,a,b,xs,ys,e,hq1,hq2,q⟩:=q1;subst e;cases r1 with
 |cons r rr=>
  cases rr with
  |cons r' rr=>
   cases rr;cases(show _=bj a from r);cases(show _=bj b from r');obtain⟨c6,rv,pl,_⟩:=I1.seq hq1.sq;obtain⟨its2,rv2,pl2,_⟩:=I1.seq hq2.sq;refine Xq pl pl2 λg hz hTI hTO h1 h2 hz' kk=>lM hz ?_;have I2:nA X ag σ H1 { s1 with heap:=g }:=I1.kept (t':=s1.toks) kk;have ne:∀(n i j:Nat),i≠j→n+i≠n+j:=λn i j h e=>h (Nat.add_left_cancel e);have D:sQ (s1.heap.objs.size+4) (s1.heap.objs.size+2) (s1.heap.objs.size+3) s1.heap.objs.size (s1.heap.objs.size+1):=
    ⟨ne _ 2 4 `d,ne _ 3 4 `d,ne _ 0 4 `d,ne _ 1 4 `d,ne _ 2 3 `d,ne _ 2 0 `d,ne _ 2 1 `d,ne _ 3 0 `d,ne _ 3 1 `d,ne _ 0 1 `d⟩
   refine⟨_,_,_,_,H1,rfl,I2,QF k1 k2 a b _ _ _ _ _ D,⟨hz,hTI,⟨_,_,hTO⟩,h1,h2⟩,λc hc=>?_,q⟩;have hb':s1.heap.objs.size≤c:=by
    simp only[az,aZ,or_false]at hc;obtain rfl |rfl |rfl |rfl |rfl:=hc
    ·exact iR _ _
    ·exact iR _ _
    ·exact iR _ _
    ·exact aE _
    ·exact iR _ _
   exact I1.fpOk hb' (I1.b6.fresh hb')
noncomputable def nP:List W→List W→List W
 |x::xs,y::ys=> .bH [x,y]::nP xs ys
 |_,_=>[]
theorem O9:∀{xs ys:List W}{i:Nat}{u:W},(nP xs ys)[i]? =aa u→ ∃x y,xs[i]? =aa x∧ys[i]? =aa y∧u= .bH [x,y]
 | [],_,_,_,h=>by simp [nP]at h
 |_::_,[],_,_,h=>by simp [nP]at h
 |x::xs,y::ys,0,u,h=>by
  simp [nP]at h;exact⟨x,y,rfl,rfl,h.symm⟩
 |x::xs,y::ys,i+1,u,h=>by simpa using O9 (xs:=xs) (ys:=ys) (i:=i) (u:=u) (by simpa [nP]using h)
theorem Lq:∀{xs ys:List W},(nP xs ys).length=min xs.length ys.length
 | [],_=>by simp [nP]
 |_::_,[]=>by simp [nP]
 |x::xs,y::ys=>by simp [nP,Lq (xs:=xs) (ys:=ys)]
def Ya{K:am}{k1 k2:Bool}{a b:aj}{ws us:List W}{G:gY→Prop}{H0:Hp}{S0:gY}(h:∀S H,oA H0 S0 H S→nB K H S→G S→(∃vs,sC k1 K H a vs∧mE K H ws vs)∧ ∃vs,sC k2 K H b vs∧mE K H us vs):xK K (EF k1 k2 K a b) (nP ws us) G H0 S0:=λi S H e hS hG=>by
 obtain⟨⟨xs,hq,r⟩,⟨ys,hq2,r2⟩⟩:=h S H e hS hG;refine⟨λu eu=>?_,λhl=>⟨xs,ys,hq,hq2,?_⟩⟩
 ·obtain⟨x,y,ex,ey,rfl⟩:=O9 eu;obtain⟨v,ev,rv⟩:=r.get ex;obtain⟨v2,ev2,rv2⟩:=r2.get ey;refine⟨⟨xs,ys,v,v2,hq,hq2,ev,ev2⟩,λx H' ⟨p,y1,y2,hp,e1,e2,e3,e4⟩=>?_⟩;subst e1 e2;have f1:=e3 xs hq;have f2:=e4 ys hq2;rw[ev]at f1;cases f1;rw[ev2]at f2;cases f2;exact⟨.new hp,hS.new hp, .bH pY (.cons (rv.ext (.new (S:=S) hp)) (.cons (rv2.ext (.new (S:=S) hp)) .nil))⟩
 ·rw[Lq]at hl;rw[←r.length,←r2.length];lia
def Il{K:am}{H:Hp}{S:gY}{w:W}{v:V}{Q:List W→(gY→Prop)→Prop}(r:oz K H w v) (hS:nB K H S) (h:vE w S Q) :
  ∃k a ws G,v= .ref a∧G S∧(∀S' H',oA H S H' S'→nB K H' S'→G S'→ ∃vs,sC k K H' a vs∧mE K H' ws vs)∧Q ws G:=by
 cases r with
 |bH f hs=>exact⟨false,_,_,_,rfl,trivial,λS' H' e hS' _=>⟨_,e.bH _ _ f,hs.ext e⟩,h⟩
 |ref a=>
  obtain⟨ws,ea,h⟩:=qL h;exact⟨true,_,ws,_,rfl,ea,λS' H' e hS' g=>by
   obtain⟨vs,f,hs⟩:=hS' a _ g;exact⟨vs, .of f,hs⟩,h⟩
 |b8 f=>exact⟨true,_,_,_,rfl,trivial,λS' H' e hS' _=>⟨_,(e.fz f).sq,mE.ofInts _⟩,h⟩
 |_=>exact h.elim
def t_ (t u:WE) (E:WX) (σ:nK) (S:gY) (Q:List W→(gY→Prop)→gY→Prop):Prop:=t E σ S λx S1=>u E σ S1 λy S2=>vE x S2 λxs G=>vE y S2 λys G'=>Q (nP xs ys) (λS'=>G S'∧G' S') S2
def Zn{a b:Expr}{ta tb:WE}{p pos:bi}(hg:Gl X "zip") (hm:X.mg "zip" =none) (ha:JE X a ta) (hb:JE X b tb) (hs:ay [a,b] X.env=[(false,aA a X.env),(false,aA b X.env)]) (hs2:ay [b] X.env=[(false,aA b X.env)])
  (h3:ay [a,b] X.env=(false,aA a X.env)::ay [b] X.env) (h4:ay [b] X.env=(false,aA b X.env)::ay [] X.env):JI X (.Tuple es x1 tpos) (.Call (.Name "zip" p) [a,b] [] pos) (t_ ta tb):=λE hE=>
 (QX hg hm (uh (ha E hE) (uh (hb E hE) pE h4) h3) hs hs2).mono λσ H R zz=>oF zz λσW S QW hσ hS ht hR=>⟨σW,S,_,hσ,hS,ht,λx S1 v H1 e1 r1 d5 h1=>⟨σW,S1,_,hσ.ext e1,d5,h1,λy S2 v2 H2 e2 r2 hS2 h2=>by
  obtain⟨k1,a,ws,G,rfl,hG,hq,h⟩:=Il (r1.ext e2) hS2 h2;obtain⟨k2,b,us,G',rfl,hG',hq',h⟩:=Il r2 hS2 h;obtain⟨vs,hv,_⟩:=hq S2 H2 .refl hS2 hG;obtain⟨vs',hv',_⟩:=hq' S2 H2 .refl hS2 hG';exact⟨k1,k2,a,b,vs,vs',rfl,hv,hv',hR _ _ S2 _ H2 (e1.trans e2) hS2 ⟨hG,hG'⟩ (Ya λS' H' e hS' g=>⟨hq S' H' e hS' g.1,hq' S' H' e hS' g.2⟩) h⟩⟩⟩
noncomputable def Yy (hi:Int) (n:Nat):List W:=(bt n).map λ(i:Nat)=> .int (hi - (i:Int))
def zIo (t:WA):WI:=λE σ S Q=>t E σ S λws S1=>match ws with
 | [.int i, .int j, .int c]=>c= -1∧(-(2 ^ 62)≤i∧i<2 ^ 62∧ -(2 ^ 62)≤j∧j<2 ^ 62)∧Q (Yy i (i - j).toNat) (λ_=>True) S1
 |_=>False
def Qx (ho:o8 X (bD op) r) (hw:su X.K r wr) (ho':o8 X (bD op') r') (hw':su X.K r' wr') (ha:JE X a ta) (hb:JE X b tb) (hc:JE X c tc)
  (hm:gV [op,op'] [b,c]=false:=by with_unfolding_all rfl):JE X (.Compare a [op,op'] [b,c] pos) (uD wr wr' ta tb tc):=λE hE=>
 (Rb ho ho' (ha E hE) (hb E hE) (hc E hE) hm).mono λσ H Q zz=>oF zz λσW S QW hσ hS ht hQ=>by
  refine⟨σW,S,_,hσ,hS,ht,λx S1 v1 H1 e1 r1 d5 h1=>⟨σW,S1,_,hσ.ext e1,d5,h1,λy S2 v2 H2 e2 r2 hS2 h2=>?_⟩⟩;refine hw H2 v1 v2 x y S2 _ _ (r1.ext e2) r2 hS2 h2 λz S3 v3 H3 e3 r3 hS3 h3=>?_;cases r3 with
  |bl k=>
   refine⟨k,rfl,?_⟩;cases k with
   |true=>
    refine⟨σW,S3,_,((hσ.ext e1).ext e2).ext e3,hS3,h3,λu S4 v4 H4 e4 r4 hS4 h4=>?_⟩;exact hw' H4 v2 v4 y u S4 Q QW ((r2.ext e3).ext e4) r4 hS4 h4 (hQ.from (((e1.trans e2).trans e3).trans e4))
   |false=>exact hQ _ S3 _ H3 ((e1.trans e2).trans e3) (.bl false) hS3 h3
  |_=>exact h3.elim
def YJ (ha:JE X a ta) (hb:JE X b tb) (hc:JE X c tc) (hm:gV [.LtE, .LtE] [b,c]=false:=by with_unfolding_all rfl):JE X (.Compare a [.LtE, .LtE] [b,c] pos) (uD rZ rZ ta tb tc):=Qx (uv.or GE) Gu (uv.or GE) Gu ha hb hc hm
def vY:WF:=λws S Q=>match ws with
 | [.int i]=>Q (.int i) S
 | [.bl b]=>Q (.int (if b then 1 else 0)) S
 |_=>False
def Sm{K:am}:vT K (λxs H Q=>(∃i,xs=[.int i]∧Q (.int i) H)∨ ∃k,xs=[.bl k]∧Q (.int (if k then 1 else 0)) H) vY:=λH vs ws S Q QW r hS h hQ=>by
 cases r with
 |nil=>exact h.elim
 |cons r1 r2=>
  cases r2 with
  |cons _ _=>cases r1<;>exact h.elim
  |nil=>
   cases r1 with
   |int i=>exact .inl ⟨i,rfl,hQ _ S _ H .refl (.int _) hS h⟩
   |bl b=>exact .inr ⟨b,rfl,hQ _ S _ H .refl (.int _) hS h⟩
   |_=>exact h.elim
def QQ (hg:Gl X "int") (hm:X.mg "int" =none) (ha:JA X (e::es) t)
  (he:ay (e::es) X.env=(false,aA e X.env)::ay es X.env) (hpl:(aR pos (ay es X.env)).any (·.1)=false):JE X (.Call (.Name "int" p) (e::es) [] pos) (wB vY t):=
 B2 Ri Sm hg hm lA ha `d `d he hpl
def Rn:WF:=λws S Q=>match ws with
 | [.int i, .int j]=>Q (.int (if j > i then j else i)) S
 |_=>False
def vc:WF:=λws S Q=>match ws with
 | [.int i, .int j]=>Q (.int (if j<i then j else i)) S
 |_=>False
def Tl{K:am}:vT K (λxs H Q=>∃i j,xs=[.int i, .int j]∧Q (.int (if j<i then j else i)) H) vc:=λH vs ws S Q QW r hS h hQ=>by
 unfold vc at h;split at h
 ·cases r with
  |cons r1 r2=>cases r2 with
   |cons r2 r3=>cases r3;cases r1;cases r2;exact⟨_,_,rfl,hQ _ S _ H .refl (.int _) hS h⟩
 ·exact h.elim
def zri{id:String}{r:List V→Hp→VK→Prop}{f:WF}{x:ah}(hc:X.calm=true→oB X (.builtin id) r) (hw:vT X.K r f) (hg:Gl X x) (hm:X.mg x=none) (hv:cO x=aa (.builtin id)) (ha:JA X (e::es) t) (hn:x≠ "__name__") (hdb:(x == ("__debug__" :ah))=false)
  (he:ay (e::es) X.env=(false,aA e X.env)::ay es X.env) (hpl:(aR pos (ay es X.env)).any (·.1)=false) (hcl:X.calm=true):JE X (.Call (.Name x p) (e::es) [] pos) (wB f t):=λE hE=>OR (hc hcl) hw hg hm hv ha hn hdb he hpl E hE
def YH (hg:Gl X "min") (hm:X.mg "min" =none) (ha:JA X (e::es) t)
  (he:ay (e::es) X.env=(false,aA e X.env)::ay es X.env) (hpl:(aR pos (ay es X.env)).any (·.1)=false) (hcl:X.calm=true):JE X (.Call (.Name "min" p) (e::es) [] pos) (wB vc t):=zri Q1 Tl hg hm PyProof.Rows.boot_min ha `d `d he hpl hcl
def zzh (hg:Gl X "all") (hm:X.mg "all" =none) (ha:JL X e tl)
  (he:ay [e] X.env=(false,aA e X.env)::ay [] X.env) (hpl:(aR pos (ay [] X.env)).any (·.1)=false) (hcl:X.calm=true):JE X (.Call (.Name "all" p) [e] [] pos) (rN tR tl):=λE hE=>IA (zwe hcl) YE hg hm PyProof.Rows.boot_all ha `d `d he hpl E hE
def ztv (hg:Gl X "tuple") (hm:X.mg "tuple" =none) (ha:JL X e tl)
  (he:ay [e] X.env=(false,aA e X.env)::ay [] X.env) (hpl:(aR pos (ay [] X.env)).any (·.1)=false):JE X (.Call (.Name "tuple" p) [e] [] pos) (rN xC tl):=OK N7 Yl hg hm lg ha `d `d he hpl
def zwb (hg:Gl X "tuple") (hm:X.mg "tuple" =none) (ha:JA X (e::es) t)
  (he:ay (e::es) X.env=(false,aA e X.env)::ay es X.env) (hpl:(aR pos (ay es X.env)).any (·.1)=false):JE X (.Call (.Name "tuple" p) (e::es) [] pos) (wB sM t):=B2 N7 Rj hg hm lg ha `d `d he hpl
def Av{K:am}:∀T∈ ["int", "bool", "str", "tuple", "list"],∀A∈ ["NoneType", "bool", "int", "str", "tuple", "list"],gz K (.type A) (.type T)=aa (p_ A T):=by
 intro T hT A hA;simp only[az,aZ,or_false]at hT hA;rcases hT with rfl |rfl |rfl |rfl |rfl<;>rcases hA with rfl |rfl |rfl |rfl |rfl |rfl<;>rfl
def nG:nD:=λ_ _ _ _=>False
def Oc{P:aY}{w:aP}{K:am}{mg:ah→Option ai}{base:aH}{f:aj}{fd:cK}{ps:List ah}{k:Nat}:pe P w K mg base (rW P w) k f fd ps (rJ K nG):=
 ⟨λvs H Q E zz=>Kg zz λ_ _ _ _ _ _ h _=>h.elim,λA outer s H args us vs Q E _ _ _ _ zz=>Kg zz λ_ _ _ _ _ _ h _=>h.elim⟩
def vL (t:WL) (u:WE) (E:WX) (σ:nK) (S:gY) (Q:WK):Prop:=t E σ S λws S1=>u E σ S1 λy S2=>match y with
 | .int i=>match ow ws i with
  |some w=>Q w S2
  |none=>False
 |_=>False
def Ws (ha:JL X a la) (hb:JE X b tb) (hs:B0 b:=by intro _ _;rfl):JE X (.Subscript a b pos) (vL la tb):=λE hE=>
 (N1 Kj (ha E hE) (hb E hE) hs).mono λσ H Q zz=>oF zz λσW S QW hσ hS ht hQ=>⟨σW,S,_,hσ,hS,ht,λws S1 vs p H1 e1 fp ep np r1 d5 h1=>⟨σW,S1,_,hσ.ext e1,d5,h1,λy S2 v2 H2 e2 r2 hS2 h2=>by
  cases r2 with
  |int i=>
   dsimp only at h2;split at h2
   ·obtain⟨v,ev,r⟩:=Ee (r1.ext e2) ‹_›;exact .inl ⟨p,vs,i,v,rfl,rfl, .of (e2.fr p _ ep np).1,ev,hQ _ S2 _ H2 (e1.trans e2) r hS2 h2⟩
   ·exact h2.elim
  |_=>exact h2.elim⟩⟩
def tf (t:WE) (u:WL) (E:WX) (σ:nK) (S:gY) (Q:List W→gY→Prop):Prop:=t E σ S λx S1=>u E σ S1 λys S2=>match x with
 | .ref a=>oN S2 a λxs=>xs.length+ys.length≤sizeLine∧Q (xs++ys) S2
 |_=>False
def ve (t u:WL) (E:WX) (σ:nK) (S:gY) (Q:List W→gY→Prop):Prop:=t E σ S λxs S1=>u E σ S1 λys S2=>xs.length+ys.length≤sizeLine∧Q (xs++ys) S2
def zl (t:WL) (u:WE) (E:WX) (σ:nK) (S:gY) (Q:List W→gY→Prop):Prop:=t E σ S λxs S1=>u E σ S1 λy S2=>match y with
 | .ref a=>oN S2 a λys=>xs.length+ys.length≤sizeLine∧Q (xs++ys) S2
 |_=>False
def Vu (ha:JE X a ta) (hb:JL X b lb):JL X (.BinOp a .Add b pos) (tf ta lb):=λE hE=>
 (Ay CP (ha E hE) (hb E hE)).mono λσ H Q zz=>oF zz λσW S QW hσ hS ht hQ=>⟨σW,S,_,hσ,hS,ht,λw1 S1 v1 H1 e1 r1 d5 h1=>⟨σW,S1,_,hσ.ext e1,d5,h1,λys S2 us q H2 e2 fq eq nq r2 hS2 h2=>by
  cases r1 with
  |ref p=>
   obtain⟨xs,ea,h⟩:=qL h2;obtain⟨vs,f1,q1⟩:=hS2 p _ ea;exact⟨p,q,vs,us,rfl,rfl,f1,eq,by rw[←q1.length,←r2.length];exact h.1,λp hp=>hQ _ S2 _ p _ ((e1.trans e2).trans (.new hp)) ((e1.trans e2).free hp) pY (hS2.free hp) ((q1.append r2).ext (.new (S:=S2) hp)) (hS2.new hp) h.2⟩
  |_=>exact h2.elim⟩⟩
def L6 (ha:JL X a la) (hb:JL X b lb):JL X (.BinOp a .Add b pos) (ve la lb):=λE hE=>
 (Ay CP (ha E hE) (hb E hE)).mono λσ H Q zz=>oF zz λσW S QW hσ hS ht hQ=>⟨σW,S,_,hσ,hS,ht,λxs S1 vs p H1 e1 fp ep np r1 d5 h1=>⟨σW,S1,_,hσ.ext e1,d5,h1,λys S2 us q H2 e2 fq eq nq r2 hS2 h2=>
  ⟨p,q,vs,us,rfl,rfl,(e2.fr p _ ep np).1,eq,by rw[←r1.length,←r2.length];exact h2.1,λz hz=>hQ _ S2 _ z _ ((e1.trans e2).trans (.new hz)) ((e1.trans e2).free hz) pY (hS2.free hz) (((r1.ext e2).append r2).ext (.new (S:=S2) hz)) (hS2.new hz) h2.2⟩⟩⟩
def SW (ha:JL X a la) (hb:JE X b tb):JL X (.BinOp a .Add b pos) (zl la tb):=λE hE=>
 (Ay CP (ha E hE) (hb E hE)).mono λσ H Q zz=>oF zz λσW S QW hσ hS ht hQ=>⟨σW,S,_,hσ,hS,ht,λxs S1 vs p H1 e1 fp ep np r1 d5 h1=>⟨σW,S1,_,hσ.ext e1,d5,h1,λy S2 v2 H2 e2 r2 hS2 h2=>by
  cases r2 with
  |ref q=>
   obtain⟨ys,ea,h⟩:=qL h2;obtain⟨us,f2,q2⟩:=hS2 q _ ea;exact⟨p,q,vs,us,rfl,rfl,(e2.fr p _ ep np).1,f2,by rw[←r1.length,←q2.length];exact h.1,λz hz=>hQ _ S2 _ z _ ((e1.trans e2).trans (.new hz)) ((e1.trans e2).free hz) pY (hS2.free hz) (((r1.ext e2).append q2).ext (.new (S:=S2) hz)) (hS2.new hz) h.2⟩
  |_=>exact h2.elim⟩⟩
def yU (t:WL) (u:WE) (E:WX) (σ:nK) (S:gY) (Q:List W→gY→Prop):Prop:=t E σ S λxs S1=>u E σ S1 λy S2=>match y with
 | .int k=>(-(2 ^ 63)≤k∧k<2 ^ 63∧xs.length*k.toNat≤sizeLine)∧Q (bf k.toNat xs).flatten S2
 |_=>False
theorem mE.rep{K:am}{H:Hp}{ws:List W}{vs:List V}(h:mE K H ws vs):∀k:Nat,mE K H (bf k ws).flatten (bf k vs).flatten
 |0=> .nil
 |k+1=>by
  rw[c7,c7,eI,eI];exact h.append (mE.rep h k)
def XS (ha:JL X a la) (hb:JE X b tb):JL X (.BinOp a .Mult b pos) (yU la tb):=λE hE=>
 (Ay zEI (ha E hE) (hb E hE)).mono λσ H Q zz=>oF zz λσW S QW hσ hS ht hQ=>⟨σW,S,_,hσ,hS,ht,λxs S1 vs p H1 e1 fp ep np r1 d5 h1=>⟨σW,S1,_,hσ.ext e1,d5,h1,λy S2 v2 H2 e2 r2 hS2 h2=>by
  cases r2 with
  |int k=>
   obtain⟨⟨k1,k2,k3⟩,h⟩:=h2;exact⟨p,k,vs,rfl,rfl,(e2.fr p _ ep np).1,k1,k2,by rw[←r1.length];exact k3,λz hz=>hQ _ S2 _ z _ ((e1.trans e2).trans (.new hz)) ((e1.trans e2).free hz) pY (hS2.free hz) (((r1.ext e2).rep k.toNat).ext (.new (S:=S2) hz)) (hS2.new hz) h⟩
  |_=>exact h2.elim⟩⟩
def XJ{K:am}{H:Hp}{a:aj}{ns:List Int}{c:nD}{E:XK}(hO:Cz H) (hS:pJ K H a (ns.map V.int)) (h:c [.b8 ns] (λ_=>none) (λw _=>w= .bl true) (λ_ _=>False)):rJ K c [.ref a] H (λv _=>v= .bl true) E:=by
 have fz:yz K H a (ns.map V.int):=by
  obtain (hS |⟨o,hS⟩) |hS:=hS
  ·obtain z |⟨o,xs,z⟩:=hO a
   ·rw[hS]at z;cases z
   ·rw[hS]at z;cases z
  ·exact .inl ⟨o,hS⟩
  ·exact .inr hS
 refine⟨[.b8 ns],λ_=>none,_,λ_ _=>False, .one (.b8 fz),(λa o e=>by cases e),h,λw S v H' e r hS' q=>?_,λ_ _ _ _ _ _ z=>z.elim⟩
 subst q;cases r;rfl
def SZ:W2
 | .bH xs, .int k,S,Q=>(xs≠ []∧ -(2 ^ 63)≤k∧k<2 ^ 63∧xs.length*k.toNat≤sizeLine)∧Q (.bH (bf k.toNat xs).flatten) S
 |_,_,_,_=>False
def zS (t:WE) (E:WX) (σ:nK) (S:gY) (Q:List W→gY→Prop):Prop:=t E σ S λw S1=>match w with
 | .int j=>(-(2 ^ 62)≤j∧j≤16777216)∧Q (rH 0 j.toNat) S1
 |_=>False
theorem Ir:∀(n k:Nat) (us:List ai),us.length=n→(∀(j:Nat) (v:ai),us[j]? =aa v→ ∃t,v= .int ((k+j:Nat):Int) t)→nE ((eP k n).map λ(i:Nat)=>V.int i) us
 |0,k,us,hl,h=>by
  have:us=[]:=fZ hl;subst this;exact .nil
 |n+1,k,u::us,hl,h=>by
  rw[jg,aG];refine .cons ?_ (Ir n (k+1) us (by simpa using hl) λj v e=>?_)
  ·obtain⟨t,e⟩:=h 0 u rfl;exact⟨t,by simpa using e⟩
  ·obtain⟨t,e⟩:=h (j+1) v (by simpa using e);exact⟨t,by rw[e];congr 2;lia⟩
def zqp (ta:TE):TE:=λσ H Q=>ta σ H λv H1=>∃j:Int,v= .int j∧ -(2 ^ 62)≤j∧j≤16777216∧ ∀l,H1 l=none→Q (.ref l) (nY H1 l (.bx ((eP 0 j.toNat).map λ(i:Nat)=>V.int i)))
def Zi (hc:X.calm=true) (hg:Gl X "list") (hm:X.mg "list" =none) (hg2:Gl X "range") (hm2:X.mg "range" =none) (ha:PE X a ta)
  (he:ay [.Call (.Name "range" p2) [a] [] pos2] X.env=[(false,aA (.Call (.Name "range" p2) [a] [] pos2) X.env)]) (hs:ay [a] X.env=[(false,aA a X.env)]):PE X (.Call (.Name "list" p) [.Call (.Name "range" p2) [a] [] pos2] [] pos) (zqp ta):=by
 intro ag s σ H Q I h;refine fV (wE I hg hm lL (fM ?_ he rfl));rw[he];show ax _ _ (spliced ((false,aA _ X.env)::aR pos [])) _ _ s;refine m7 ?_;refine fV (wE I hg2 hm2 boot_range (fM (oj (uh ha pE hs pos2 ag s σ H (λvs H1=>match vs with
  | [v]=>∃j:Int,v= .int j∧ -(2 ^ 62)≤j∧j≤16777216∧ ∀l,H1 l=none→Q (.ref l) (nY H1 l (.bx ((eP 0 j.toNat).map λ(i:Nat)=>V.int i)))
  |_=>False) I h) λus s1 zz=>oJ zz λvs H1 I1 r1 q1=>?_) hs rfl))
 match vs,q1 with
 | [v],q1=>
  obtain⟨j,rfl,h1,h2,q⟩:=q1;obtain⟨u,rfl,rx⟩:=tJ r1;obtain⟨t,rfl⟩:=rx;refine call_range_1 (lr ?_);have I2:nA X ag σ H1 { s1 with heap:=s1.heap.push { cls:= .type "range",data:= .fields #[.int 0 s1.toks, .int j t, .int 1 (s1.toks+1)] },toks:=s1.toks+1+1 }:=I1.kept λb o e=>aN _ e;refine call_list_range (n:=j.toNat) (I1.ok.hd hc) (IsRange.new ..) (small_one `d `d h1 `l) ?_ `l λh' tk acc c' kp e it=>?_
  ·rw[rangeSize_one];split<;>lia
  ·have rv:=Ir j.toNat 0 acc.toList (by simpa using it.1) λi v ev=>by
    obtain⟨t,e⟩:=it.2 i v (by simpa using ev);exact⟨t,by rw[e];congr 1;lia⟩
   refine⟨.ref _,_,I2.laid (t':=tk) (o:= .bx ((eP 0 j.toNat).map λ(i:Nat)=>V.int i)) kp (aE _) ⟨?_,acc.toList,c',rv,by simpa using e⟩,rfl,q _ (I2.b6.fresh (aE _))⟩
   rw[aD,List.length_range'];show _≤16777216;lia
theorem Lr{K:am}{H:Hp}:∀(k n:Nat),mE K H (rH (k:Int) n) ((eP k n).map λ(i:Nat)=>V.int i)
 |k,0=> .nil
 |k,n+1=>by
  have e:rH (k:Int) (n+1)= .int k::rH ((k+1:Nat):Int) n:=by
   unfold rH;rw[ig,aG,bB];congr 1
   ·simp;intro i _;lia
  rw[e,jg,aG];exact .cons (.int _) (Lr (k+1) n)
def Xg (hg:Gl X "list") (hm:X.mg "list" =none) (hg2:Gl X "range") (hm2:X.mg "range" =none) (ha:JE X a te)
  (he:ay [.Call (.Name "range" p2) [a] [] pos2] X.env=[(false,aA (.Call (.Name "range" p2) [a] [] pos2) X.env)]) (hs:ay [a] X.env=[(false,aA a X.env)]) (hcl:X.calm=true):JL X (.Call (.Name "list" p) [.Call (.Name "range" p2) [a] [] pos2] [] pos) (zS te):=λE hE=>
 (Zi hcl hg hm hg2 hm2 (ha E hE) he hs).mono λσ H Q zz=>oF zz λσW S QW hσ hS ht hQ=>⟨σW,S,_,hσ,hS,ht,λw S1 v H1 e1 r1 d5 h1=>by
  cases r1 with
  |int j=>exact⟨j,rfl,h1.1.1,h1.1.2,λl hl=>hQ _ S1 _ l _ (e1.trans (.new hl)) (e1.free hl) pY (d5.free hl) (Lr 0 j.toNat) (d5.new hl) h1.2⟩
  |_=>exact h1.elim⟩
noncomputable def qp (dP:List (List Int×W)) (k:List Int):Option W:=(dP.find? λkv=>decide (kv.1=k)).map (·.2)
noncomputable def wQ (dP:List (List Int×W)) (k:List Int) (v:W):List (List Int×W):=
 if(dP.any λkv=>decide (kv.1=k))=true then dP.map (λkv=>if kv.1=k then(kv.1,v) else kv) else dP++[(k,v)]
noncomputable def rR:List W→Option (List Int)
 | []=>aa []
 | .int i::ws=>(rR ws).map (i:: ·)
 |_=>none
noncomputable def uf:W→Option (List Int)
 | .bH ws=>rR ws
 |_=>none
def vw (S:gY) (a:aj) (P:List (List Int×W)→Prop):Prop:=match S a with
 |some (.dct dP)=>P dP
 |_=>False
def SY{P:List (List Int×W)→Prop}(h:vw S a P):∃dP,S a=aa (.dct dP)∧P dP:=by
 unfold vw at h;split at h
 ·exact⟨_, ‹_›,h⟩
 ·exact h.elim
def Hm{P:List (List Int×W)→Prop}(e:S a=aa (.dct dP)):vw S a P=P dP:=by unfold vw;rw[e]
section
variable {K:am}{H:Hp}
abbrev qc (K:am) (H:Hp):List (List Int×W)→List (List Key×V)→Prop:=bh λq p=>p.1=q.1.map Sum.inl∧oz K H q.2 p.2
theorem CT:∀{a b:List Int},a.map (Sum.inl:Int→Key)=b.map Sum.inl→a=b
 | [],[],_=>rfl
 | [],_::_,h=>by simp at h
 |_::_,[],h=>by simp at h
 |x::xs,y::ys,h=>by
  simp only[aG,gd,Sum.inl.injEq]at h;rw[h.1,CT h.2]
def qc.val (r:qc K H dP ps) (k:List Int):(∀w,qp dP k=aa w→ ∃v,sV ps (k.map Sum.inl)=aa v∧oz K H w v)∧(qp dP k=none→sV ps (k.map Sum.inl)=none):=by
 induction r with
 |nil=>exact⟨λw h=>by simp [qp]at h,λ_=>rfl⟩
 | @cons q p dP ps h t ih=>
  by_cases hk:q.1=k
  ·have e:p.1=k.map Sum.inl:=by rw[h.1,hk]
   rw[DY e];have ew:qp (q::dP) k=aa q.2:=by simp [qp,cr,hk]
   rw[ew];exact⟨λw z=>by cases z;exact⟨_,rfl,h.2⟩,λz=>by cases z⟩
  ·have e:¬p.1=k.map Sum.inl:=by rw[h.1];exact λz=>hk (CT z)
   rw[DC e];have ew:qp (q::dP) k=qp dP k:=by simp [qp,cr,hk]
   rw[ew];exact ih
def qc.any (r:qc K H dP ps) (k:List Int):(ps.any λkv=>decide (kv.1=k.map Sum.inl))=dP.any λkv=>decide (kv.1=k):=by
 induction r with
 |nil=>rfl
 | @cons q p dP ps h t ih=>
  rw[fD,fD,ih];congr 1;apply decide_eq_decide.mpr;rw[h.1];exact⟨CT,λz=>by rw[z]⟩
def qc.bz (r:qc K H dP ps) (k:List Int) (rw':oz K H w v):qc K H (wQ dP k w) (ug ps (k.map Sum.inl) v):=by
 unfold wQ ug;rw[r.any k];split
 ·rename_i hany;clear hany
  induction r with
  |nil=>exact .nil
  | @cons q p dP ps h t ih=>
   rw[aG,aG];refine .cons ?_ ih;by_cases hk:q.1=k
   ·rw[if_pos hk,if_pos (by rw[h.1,hk])];exact⟨h.1,rw'⟩
   ·rw[if_neg hk,if_neg (by rw[h.1];exact λz=>hk (CT z))];exact h
 ·rename_i hany;clear hany
  induction r with
  |nil=>exact .cons ⟨rfl,rw'⟩ .nil
  |cons h t ih=>exact .cons h ih
def qc.length (r:qc K H dP ps):dP.length=ps.length:=gb r
def TU:∀{ws:List W}{vs:List V}{k:List Int},mE K H ws vs→rR ws=aa k→vs=(k.map (Sum.inl:Int→Key)).map kV:=λ{ws vs k} h e=>by
 induction ws generalizing vs k with
 |nil=>cases h;cases e;rfl
 |cons w ws ih=>
  cases h with
  |cons r rs=>
   cases r with
   |int i=>
    cases q:rR ws with
    |none=>simp [rR,q]at e
    |some ks=>
     simp only[rR,q,fo,bS]at e;subst e;rw[ih rs q];rfl
   |_=>simp [rR]at e
def P1 (r:oz K H w v) (e:uf w=aa k):∃b,v= .ref b∧H b=aa (.bH ((k.map (Sum.inl:Int→Key)).map kV)):=by
 cases r with
 |bH f hs=>exact⟨_,rfl,by rw[f,TU hs e]⟩
 |_=>simp [uf]at e
def TK (hS:nB K H S) (e:S a=aa (.dct dP)) (ry:oz K H wy y) (ek:uf wy=aa k):∃o,tH H a y o∧(qp dP k=none→o=none)∧ ∀w,qp dP k=aa w→ ∃v,o=aa v∧oz K H w v:=by
 obtain⟨ps,e1,r⟩:=hS a _ e;obtain⟨b,rfl,eb⟩:=P1 ry ek;have rv:=qc.val r k;exact⟨sV ps (k.map Sum.inl), .t e1 eb,rv.2,rv.1⟩
end
def yA (neg:Bool):W2:=λy x S Q=>match x with
 | .ref a=>match uf y with
  |some k=>vw S a λdP=>Q (.bl (if neg then !(qp dP k).isSome else(qp dP k).isSome)) S
  |none=>False
 |_=>False
def V8:W2:=λx y S Q=>match x with
 | .ref a=>match uf y with
  |some k=>vw S a λdP=>match qp dP k with
   |some w=>Q w S
   |none=>False
  |none=>False
 |_=>False
section
variable {X:Cx}{a o:Expr}
def GT (neg:Bool):R2:=λy x H Q=>∃a o,x= .ref a∧tH H a y o∧Q (.bl (if neg then !o.isSome else o.isSome)) H
def Wa (hu:X.A.units+1<cLine):o8 X (bD .In) (GT false):=by
 intro ag s σ H x y v u Q I rx ry h;obtain⟨a,o,rfl,g,q⟩:=h;cases ry;exact Wu hu I g rx λs3 I3=>⟨.bl o.isSome,H,I3,rfl,q⟩
def Q2 (hu:X.A.units+1<cLine):o8 X (bD .NotIn) (GT true):=by
 intro ag s σ H x y v u Q I rx ry h;obtain⟨a,o,rfl,g,q⟩:=h;cases ry;exact Tk hu I g rx λs3 I3=>⟨.bl (!o.isSome),H,I3,rfl,q⟩
def J4{K:am}{neg:Bool}:su K (GT neg) (yA neg):=λH x y wx wy S Q QW rx ry hS h hQ=>by
 unfold yA at h;split at h
 ·split at h
  ·rename_i k ek;obtain⟨dP,ea,h⟩:=SY h;cases ry;obtain⟨o,g,g0,g1⟩:=TK hS ea rx ek;have eo:o.isSome=(qp dP k).isSome:=by
    cases q:qp dP k with
    |none=>rw[g0 q];rfl
    |some w=>obtain⟨v,ev,_⟩:=g1 w q;rw[ev];rfl
   exact⟨_,o,rfl,g,by rw[eo];exact hQ _ S _ H .refl (.bl _) hS h⟩
  ·exact h.elim
 ·exact h.elim
end
def MS:V→List V→Hp→VK→Prop:=λx vs H Q=>∃z:ah,x= .str z∧vs=[]∧z.length≤5592405∧Q (.str (eN z)) H
def Wr:tZ X "str.upper" MS:=by
 intro ag s σ H x vs v us Q I rx rv h;obtain⟨z,rfl,rfl,hz,q⟩:=h;obtain⟨t,rfl⟩:=rx;cases rv;exact SCL.upper hz λ_=>⟨.str (eN z),H,I.tok _,⟨_,rfl⟩,q⟩
def zH:sy:=λw ws S Q=>match w,ws with
 | .str z,[]=>z.length≤5592405∧Q (.str (eN z)) S
 |_,_=>False
def TR{K:am}:xI K MS zH:=λH x w vs ws S Q QW r rs hS h hQ=>by
 cases r with
 |str z=>
  cases rs with
  |nil=>exact⟨z,rfl,rfl,h.1,hQ _ S _ H .refl (.str _) hS h.2⟩
  |cons _ _=>exact h.elim
 |_=>exact h.elim
def WB (ho:JE X o to) (hbase:ci o "upper" X.env (aA o X.env)=aA o X.env) (hline:(apos.endLine == cpos.line)=true):JE X (.Call (.Attribute o "upper" apos) [] [] cpos) (wM tF zH to ae):=
 M3 kA PySem.F.slot_str_upper PySem.F.type_str_upper FD Wr TR ho hbase hline
theorem Kl:∀(ns:List Int) (n:Nat),n≤ns.length→ir (λi=>ns.getD i 0) n=(ns.take n).sum
 |ns,0,_=>by simp [ir]
 |ns,n+1,h=>by
  rw[ir,Kl ns n `l,mJ,List.sum_append];congr 1;rw[bF,aU `l];simp
def W7 (hc:X.calm=true):oB X (.builtin "sum") (λxs H Q=>∃(p:aj) (ns:List Int),xs=[.ref p]∧pJ X.K H p (ns.map V.int)∧Q (.int ns.sum) H):=by
 intro ag s σ H xs us Q I r h;obtain⟨p,ns,rfl,hq,q⟩:=h;obtain⟨u,rfl,rx⟩:=tJ r;cases rx;obtain⟨c6,r',pl,hz⟩:=I.list hq;have hlen:ns.length=c6.length:=by have:=r'.length;rw[aD]at this;exact this
 have hp:p<s.heap.objs.size:=by obtain⟨o,n,e,_⟩:=pl;exact aT e
 have hd:X.A.in1.handled=none:=I.ok.hd hc;have get:∀(i:Nat) (v:ai),c6.toArray[i]? =aa v→ ∃t,v= .int (ns.getD i 0) t:=λi v e=>by
  have e':c6[i]? =aa v:=by simpa using e
  have hi:i<ns.length:=by rw[hlen];exact(dq.mp e').1
  obtain⟨u,hu,ru⟩:=r'.get (i:=i) (x:= .int (ns.getD i 0)) (by rw[bK,aU hi,bF,aU hi];rfl);rw[e']at hu;cases hu;exact ru
 refine call_sum_walkG (fQ pl.isList ?_);refine⟨s.heap.objs.size,_,_,_,_,_,λi=>ns.getD i 0,rfl,kh hd _ p (bQ hp) c6.toArray,⟨⟨_,bG _ rfl,rfl,rfl⟩,pl.isList.push _⟩,?_,λi v hP=>get i v hP,λh' tk t' hk=>?_⟩
 ·intro b hb;have hsz:∀o:aJ,(s.heap.push o).objs.size=s.heap.objs.size+1:=λo=>cP ..;simp only[az,aZ,or_false]at hb;show b<(s.heap.push _).objs.size;rw[hsz];obtain rfl |rfl:=hb
  ·exact mf _
  ·exact Nat.lt_succ_of_lt hp
 ·have e:ir (λi=>ns.getD i 0) c6.toArray.size=ns.sum:=by
   rw[aV,←hlen,Kl ns _ (aE _),gR]
  have I1:nA X ag σ H { s with heap:=h',toks:=tk }:=I.kept λb o e=>hk b o (λz=>by
   have z':b=s.heap.objs.size:=by simpa using z
   rw[z']at e;exact absurd (aT e) (c_ _)) (aN _ e)
  exact⟨.int _,H,I1,⟨t',by rw[e]⟩,q⟩
def wX (ws:List W) (S:gY) (Q:WK):Prop:=match rR ws with
 |some ns=>Q (.int ns.sum) S
 |none=>False
def Xc{K:am}{H:Hp}:∀{ws:List W}{vs:List V}{ns:List Int},mE K H ws vs→rR ws=aa ns→vs=ns.map V.int:=λ{ws vs ns} h e=>by
 induction ws generalizing vs ns with
 |nil=>cases h;cases e;rfl
 |cons w ws ih=>
  cases h with
  |cons r rs=>
   cases r with
   |int i=>
    cases q:rR ws with
    |none=>simp [rR,q]at e
    |some ks=>
     simp only[rR,q,fo,bS]at e;subst e;rw[ih rs q];rfl
   |_=>simp [rR]at e
def QP{K:am}:yc K (λxs H Q=>∃(p:aj) (ns:List Int),xs=[.ref p]∧pJ K H p (ns.map V.int)∧Q (.int ns.sum) H) wX:=λH a vs ws S Q QW ea na r hS h hQ=>by
 unfold wX at h;split at h
 ·rename_i ns e;have:=Xc r e;subst this;exact⟨a,ns,rfl, .of ea,hQ _ S _ H .refl (.int _) hS h⟩
 ·exact h.elim
def Ss (hg:Gl X "sum") (hm:X.mg "sum" =none) (ha:JL X e tl)
  (he:ay [e] X.env=(false,aA e X.env)::ay [] X.env) (hpl:(aR pos (ay [] X.env)).any (·.1)=false) (hcl:X.calm=true):JE X (.Call (.Name "sum" p) [e] [] pos) (rN wX tl):=λE hE=>
 IA (W7 hcl) QP hg hm PyProof.Rows.boot_sum ha `d `d he hpl E hE
def ZF:jT (.type "list") "keys" =pure none:=by rw[typeLookup_type,builtinLookup_eq_fast];kernel_rfl
def Lg:entryFor table "dict.update.loop" =aa cE.«dict.update.loop» :=entryFor_of_tree (by kernel_rfl)
def Cd:plainId "dict.update.loop" =true:=by decide +kernel
section
variable {prog:aY}{w:aP}{A:bn}{E:ai→ao→Prop}{s:ao}
def Zp{Q:Option ai→ao→Prop}
  (hx : s.heap.get? a = aa o) (hc : o.cls = .type "list") (hdat : o.data = .seq xs k) (hd : o.dict = none) (hmiss : jT (.type "list") name = pure none) (hname : (["__module__", "__name__", "__qualname__", "__doc__", "__annotations__"] : List ah).contains name = false) (hA : A.handled = none)
  (h:∀h' tk,(∀b o,s.heap.get? b=aa o→h'.get? b=aa o)→Q none { s with heap:=h',toks:=tk }) (hsz:name.length+100≤sizeLine:=by size_fits) :
  ax (aC prog w) A (getAttr? (.ref a) name) Q E s:=by
 obtain⟨c,dct,dat,sl⟩:=o;simp only at hc hdat hd;subst hc hdat hd;obtain⟨hp,g,d,tk,os⟩:=s;have hT:∀tk',(⟨hp,g,d,tk',os⟩:ao).TypeIs (.ref a) "list" :=λ_=>⟨_,hx,rfl⟩;have f1:=sub_AttributeError;have f3:=j'.lookup;have f4:=j'.bind (.ref a);have f5:=am_list_getattr_none;unfold getAttr? getAttrBy? getAttrBy
 repeat (any_goals (first |assumption |exact hT _ | ((with_reducible show ax _ _ (call (ai.builtin "list.__getattribute__") _ _) _ _ _);refine ef j' (hT _) am_entry_list_getattribute (F.args_list_getattribute_2 _ _) (meets_getattribute_miss_list a xs k sl name _ hmiss hname hsz) ⟨hx,hA,λh' tk' e hx'=>?_⟩) |wp_step))
 obtain⟨t',u',he⟩:=hx'.there;have hTe:∀tk',(⟨h',g,d,tk',os⟩:ao).TypeIs (.ref e) "AttributeError" :=λ_=>⟨_,he,rfl⟩;show ax _ _ (k8 _ _ _ _ _ _ _) _ _ _;unfold k8
 repeat (any_goals (first |assumption |exact hTe _ |wp_step))
 exact h h' tk' hx'.keeps
end
section
variable {prog:aY}{w:aP}{A:bn}{R:hU→ao→Prop}{I l d:aj}{items:Array ai}
noncomputable def Fx (xs:List (List Key×aj×ai)) (ps:List (List Key×aj)):List (List Key×aj×ai):=ps.foldl (λxs p=>gy xs p.1 p.2 (.bool true)) xs
def zqm (hu:(c5 (rQ prog w)).room A.in1) (hh:A.in1.handled=none) (hne:l≠I) (hdI:d≠I) (hdl:d≠l) (h0:aH) (hd0:h0.get? d=none) (hI0:h0.get? I=none) (ps:List (List Key×aj)) (hps:ps.length=items.size)
  (hp:∀(i:Nat) (p:List Key×aj) (v:ai),ps[i]? =aa p→items[i]? =aa v→ ∃(t:aj) (o:aJ) (n:Nat),v= .ref t∧h0.get? t=aa o∧o.cls= .type "tuple" ∧o.data= .seq #[.ref p.2, .bool true] n)
  (hk:∀p∈ps,(c5 (rQ prog w)).is h0 p.1 p.2) :
  ∀(k i:Nat) (s:ao) (xs:List (List Key×aj×ai)),items.size - i=k→i≤items.size→s.heap.IsListIter I l i→s.heap.IsList l items→(∀b o,h0.get? b=aa o→s.heap.get? b=aa o)→s.heap.DictOfH (c5 (rQ prog w)) d xs→xs.length+(items.size - i)≤sizeLine→
  (∀h' tk,(∀b o,h0.get? b=aa o→h'.get? b=aa o)→h'.DictOfH (c5 (rQ prog w)) d (Fx xs (ps.drop i))→R (.ok (.ret .none)) { s with heap:=h',toks:=tk })→
  dD (aC prog w) A (.builtin "dict.update.loop" ⟨[.ref d, .ref I,da i, .none],[]⟩) R s:=by
 have W:=kh (prog:=prog) (w:=w) (A:=A.in1) hh I l hne items;intro k
 induction k with
 |zero=>
  intro i s xs hki hi hit hl hold hd hsz hR;have hin:i=items.size:=by lia
  subst hin;refine lN Lg ?_;rw[kO Cd _];show ax _ A.in1 (cI (.ref I) >>= _) _ _ s;refine av (W.done s _ _ ⟨hit,hl⟩ λh' tk hk'=>?_);have hd':h'.DictOfH (c5 (rQ prog w)) d xs:=by
   obtain⟨q,es,ep,q1,q2,q3,q4,q5,q6⟩:=hd;refine⟨q,es,ep,hk' d q (λz=>hdI (bw.mp z)) q1,q2,q3,q4,λx hx=>?_,q6⟩;obtain⟨ob,c6,m,k1,k2,k3,k4⟩:=q5 x hx;refine⟨ob,c6,m,hk' _ _ (λz=>?_) k1,k2,k3,k4⟩;obtain⟨oi,hi1,hi2,_⟩:=hit;rw[bw.mp z,hi1]at k1;cases k1;rw[k2]at hi2;exact absurd hi2 `d
  show ax _ A.in1 (cE.Dict.addKeywords d [] >>= _) _ _ _;refine av (aK (aK (hR h' tk (λb o e=>hk' b o (λz=>by rw[bw.mp z,hI0]at e;cases e) (hold b o e)) ?_)))
  rw[gH `l];exact hd'
 |succ k ih=>
  intro i s xs hki hi hit hl hold hd hsz hR;have hlt:i<items.size:=by lia
  refine lN Lg ?_;rw[kO Cd _];show ax _ A.in1 (cI (.ref I) >>= _) _ _ s;refine av (W.item i s _ _ hlt ⟨hit,hl⟩ λv h' tk hP hst' hk'=>?_);obtain⟨p,hpi⟩:∃p,ps[i]? =aa p:=⟨ps[i],aU `l⟩;obtain⟨t,o,n,rfl,ho,hc,hdat⟩:=hp i p v hpi hP;have ho':=hk' t o (λz=>by rw[bw.mp z]at ho;rw[hI0]at ho;cases ho) (hold t o ho)
  have hkey:(c5 (rQ prog w)).is h' p.1 p.2:=by
   obtain⟨ob,c6,m,k1,k2,k3,k4⟩:=hk p (bX hpi);exact⟨ob,c6,m,hk' _ _ (λz=>by rw[bw.mp z]at k1;rw[hI0]at k1;cases k1) (hold _ _ k1),k2,k3,k4⟩
  have hd':h'.DictOfH (c5 (rQ prog w)) d xs:=by
   obtain⟨q,es,ep,q1,q2,q3,q4,q5,q6⟩:=hd;refine⟨q,es,ep,hk' d q (λz=>hdI (bw.mp z)) q1,q2,q3,q4,λx hx=>?_,q6⟩;obtain⟨ob,c6,m,k1,k2,k3,k4⟩:=q5 x hx;refine⟨ob,c6,m,hk' _ _ (λz=>?_) k1,k2,k3,k4⟩;obtain⟨oi,hi1,hi2,_⟩:=hit;rw[bw.mp z,hi1]at k1;cases k1;rw[k2]at hi2;exact absurd hi2 `d
  show ax _ A.in1 (holding [.ref t] _ >>= _) _ _ _;refine av (eS ?_);refine av (wpAny_tryCatch ?_);unfold cE.Dict.pairItems;refine av (gh (T:= "tuple") ⟨o,ho',hc⟩ ?_);rw[if_pos `d];refine av (dF ho' hdat ?_);refine aK ?_;show ax _ A.in1 (holding [.ref p.2, .bool true] (dictSet d (.ref p.2) (.bool true))) _ _ _;refine eS (wpAny_dictSet_heap (hsz:=by lia) hu hkey hd' λh2 hd2 hs2=>?_)
  refine aK ⟨plainId_quiet Cd _,?_⟩;have ei:((i:Int)+1)=((i+1:Nat):Int):=by lia
  rw[ei];have hln:(gy xs p.1 p.2 (eX true)).length≤xs.length+1:=by
   unfold gy;split<;>simp
  have hst2:=W.frame (i+1) h' h2 hst' λb hb o e=>by
   have hbd:b≠d:=by
    obtain z |z:=az.mp hb
    ·rw[z];exact bE hdI
    ·rw[bw.mp z];exact bE hdl
   exact(hs2.2 b hbd).trans e
  refine ih (i+1) _ _ `l `l hst2.1 hst2.2 (λb o e=>?_) hd2 `l λh3 tk3 old3 hd3=>?_
  ·have hbd:b≠d:=λz=>by rw[z,hd0]at e;cases e
   have hbI:b∉ [I]:=λz=>by rw[bw.mp z,hI0]at e;cases e
   exact(hs2.2 b hbd).trans (hk' b o hbI (hold b o e))
  ·refine hR h3 tk3 old3 ?_;have ed:ps.drop i=p::ps.drop (i+1):=by
    have hi':i<ps.length:=by lia
    rw[fA hi'];rw[aU hi']at hpi;cases hpi;rfl
   rw[ed];exact hd3
end
def Dj (H:Hp) (q:List Key) (v:V):Prop:=∃t b,v= .ref t∧H t=aa (.bH [.ref b, .bl true])∧H b=aa (.bH (q.map kV))
noncomputable def yh (qs:List (List Key)):List (List Key×V):=qs.foldl (λdP q=>ug dP q (.bl true)) []
theorem Pq:∀(qs:List (List Key)) (dP:List (List Key×V)),(qs.foldl (λdP q=>ug dP q (V.bl true)) dP).length≤dP.length+qs.length
 | [],dP=>by simp
 |q::qs,dP=>by
  have h1:=ZV dP q (V.bl true);have h2:=Pq qs (ug dP q (.bl true));rw[fK,aS];lia
theorem KT.fold:∀(ps:List (List Key×aj)) {dP:List (List Key×V)}{xs:List (List Key×aj×ai)},KT H dP xs→(∀p∈ps,H p.2=aa (.bH (p.1.map kV)))→KT H ((ps.map λp=>p.1).foldl (λdP q=>ug dP q (.bl true)) dP) (Fx xs ps)
 | [],_,_,r,_=>r
 |p::ps,dP,xs,r,h=>by
  rw[aG,fK];exact KT.fold ps (r.bz p.1 (h p aM) rfl) λp' hp'=>h p' (aI _ hp')
theorem OM (ok:ph P w H h):∀{qs:List (List Key)}{vs:List V}{c6:List ai},bh (Dj H) qs vs→nE vs c6→ ∃ps:List (List Key×aj),(ps.map λp=>p.1)=qs∧
  (∀(i:Nat) (p:List Key×aj) (v:ai),ps[i]? =aa p→c6[i]? =aa v→ ∃(t:aj) (o:aJ) (n:Nat),v= .ref t∧h.get? t=aa o∧o.cls= .type "tuple" ∧o.data= .seq #[.ref p.2, .bool true] n)∧ ∀p∈ps,H p.2=aa (.bH (p.1.map kV))
 |_,_,_, .nil, .nil=>⟨[],rfl,(λi p v h=>by simp at h),λ_ h=>nomatch h⟩
 |_,_,_, .cons (a:=q) hq hs, .cons hv hvs=>by
  obtain⟨ps,e,h1,h2⟩:=OM ok hs hvs;obtain⟨t,b,rfl,ht,hb⟩:=hq;refine⟨(q,b)::ps,by rw[aG,e],λi p v hp hv'=>?_,λp hp=>?_⟩
  ·cases i with
   |zero=>
    simp only[ic,bS]at hp hv';subst hp hv';obtain⟨_,c6,r,o,g1,g2,n,g3⟩:=(show nZ P w H h t (.bH [.ref b, .bl true]) from ok t _ ht);cases r with
    |cons r1 r2=>
     cases r2 with
     |cons r3 r4=>
      cases r4;cases r1;cases r3;exact⟨t,o,n,hv,g1,g2,by simpa using g3⟩
   |succ i=>
    simp only[d8]at hp hv';exact h1 i p v hp hv'
  ·obtain rfl |hp:=az.mp hp
   ·exact hb
   ·exact h2 p hp
def WZ (hc:X.calm=true) (hu:X.A.units+2<cLine):oB X (.type "dict") (λxs H Q=>∃(l:aj) (vs:List V) (qs:List (List Key)),xs=[.ref l]∧pJ X.K H l vs∧bh (Dj H) qs vs∧qs.length≤sizeLine∧ ∀d,H d=none→Q (.ref d) (nY H d (.dT (yh qs)))):=by
 intro ag s σ H xs us Q I r h;obtain⟨l,vs,qs,rfl,hq,hp,hlen,q⟩:=h;obtain⟨u,rfl,rx⟩:=tJ r;cases rx;obtain⟨c6,r',pl,hz⟩:=I.list hq;have hd:X.A.in1.handled=none:=I.ok.hd hc;have hl:l<s.heap.objs.size:=by obtain⟨o,n,e,_⟩:=pl;exact aT e
 refine callType_codes (Q₁:=λobj s₁=>obj= .ref s.heap.objs.size∧s₁={ s with heap:=s.heap.push { cls:= .type "dict",data:= .dict #[] } }) F.kt_called_dict (F.kt_typeCall_dict_1 _) F.entry_dict_init (kt_code_dict_new _ ⟨rfl,rfl⟩) ?_;rintro obj s₁ ⟨rfl,rfl⟩;have hT:({ s with heap:=s.heap.push { cls:= .type "dict",data:= .dict #[] } }:ao).TypeIs (.ref s.heap.objs.size) "dict" :=⟨_,bG _ rfl,rfl⟩;refine⟨hT,F.args_dict_init_2 _ _,?_⟩;unfold cE.«dict.__init__»;refine av ?_;unfold cE.Dict.selfAndRest;refine av (wpAny_notOrdered_dict hT ?_);show ax _ _ (pure (s.heap.objs.size,[bj l])) _ _ _;refine aK ?_;show ax _ _ (k7 "dict.__init__" s.heap.objs.size (.ref l) [] .none) _ _ _;unfold k7;obtain⟨ol,nl,hol,hcl,hdl,hnl⟩:=pl;have hol1:=aN { cls:= .type "dict",data:= .dict #[] } hol;obtain⟨ps,eqs,hps,hks⟩:=OM I.b6 hp r';have hplen:ps.length=c6.toArray.size:=by
  have h1:=congrArg dB eqs;have h2:=gb hp;have h3:=r'.length;rw[aD]at h1;rw[aV];lia
 refine av (gh (T:= "list") ⟨ol,hol1,hcl⟩ ?_);dsimp only;rw[if_pos `d];refine av (Zp hol1 hcl hnl hdl ZF (by decide +kernel) hd λh1 tk1 kp1=>?_);rw[if_pos (show(none:Option ai).isNone=true from rfl)];refine av (fS ?_);have hl1:h1.IsList l c6.toArray:=⟨ol,kp1 _ _ hol1,hcl,nl,hnl⟩;refine av (fQ hl1 ?_);refine aK ⟨plainId_quiet Cd _,?_⟩;have hd1:h1.get? s.heap.objs.size=aa { cls:= .type "dict",data:= .dict #[] }:=kp1 _ _ (bG _ rfl);have hdlt:=aT hd1;have hI0:s.heap.get? h1.objs.size=none:=by
  cases z:s.heap.get? h1.objs.size with
  |none=>rfl
  |some ob=>exact absurd (aT (kp1 _ _ (aN _ z))) (c_ _)
 have hd0:s.heap.get? s.heap.objs.size=none:=by
  cases z:s.heap.get? s.heap.objs.size with
  |none=>rfl
  |some ob=>exact absurd (aT z) (c_ _)
 refine zqm (A:=X.A.in1) (I:=h1.objs.size) (l:=l) (d:=s.heap.objs.size) (items:=c6.toArray) ?_ hd (bQ (Nat.lt_trans hl hdlt)) (bQ hdlt) (dh hl) s.heap hd0 hI0 ps hplen (λi p v h1 h2=>hps i p v h1 (by simpa using h2)) (λp hp=>Cb I.b6 (hks p hp)) _ 0 _ [] rfl (bc _) ?_ ?_ ?_ ?_ ?_ λh' tk' old' hd'=>?_
 ·exact j5 (A:=X.A.in1) (show X.A.in1.units+1<cLine from by have:X.A.in1.units=X.A.units+1:=rfl;lia)
 ·exact⟨_,bG _ rfl,rfl,rfl⟩
 ·exact hl1.push _
 ·exact λb o e=>aN _ (kp1 _ _ (aN _ e))
 ·refine⟨_, #[],0,aN _ hd1,?_,rfl,rfl,(λx hx=>nomatch hx),List.nodup_nil⟩
  first |exact⟨rfl,rfl⟩ |exact rfl |exact .inl rfl | (unfold aJ.ExactDict;simp)
 ·rw[dA,←hplen];have h1:=congrArg dB eqs;rw[aD]at h1;lia
 ·rw[di]at hd';obtain⟨o',es,ep,g1,g2,g3,g4,g5,g6⟩:=hd';have hl0:=Pq qs [];have kt:KT H (yh qs) (Fx [] ps):=by
   have:=KT.fold ps (show KT H [] [] from .nil) hks;rw[eqs]at this;exact this
  refine⟨rfl, .ref s.heap.objs.size,_,I.laid (t':=tk') (o:= .dT (yh qs)) old' (aE _) ⟨?_,?_,_,kt.keeps λb ys eb=>?_,o',es,ep,g1,g2,g3,g4,g6⟩,rfl,q _ (I.b6.fresh (aE _))⟩
  ·simp only[dA,ca]at hl0;exact bI hl0 hlen
  ·have:=I.big;exact beq_eq_false_iff_ne.mpr (dh this)
  ·rw[oV (qz eb (I.b6.fresh (aE _)))];exact eb
noncomputable def sG:List W→Option (List (List Int))
 | []=>aa []
 | .bH [k, .bl true]::ws=>match uf k,sG ws with
  |some q,aa qs=>aa (q::qs)
  |_,_=>none
 |_=>none
noncomputable def u9 (qs:List (List Int)):List (List Int×W):=qs.foldl (λdP k=>wQ dP k (.bl true)) []
def xm (ws:List W) (S:gY) (Q:WK):Prop:=match sG ws with
 |some qs=>qs.length≤1000000∧ ∀a,S a=none→Q (.ref a) (bz S a (.dct (u9 qs)))
 |none=>False
theorem Ph{K:am}{H:Hp}:∀{ws:List W}{vs:List V}{qs:List (List Int)},mE K H ws vs→sG ws=aa qs→bh (Dj H) (qs.map λq=>q.map Sum.inl) vs
 | [],_,_, .nil,e=>by
  simp only[sG,bS]at e;subst e;exact .nil
 |w::ws,_,qs, .cons r rs,e=>by
  cases w with
  |bH us=>
   obtain _ |⟨k,_ |⟨b,_ |⟨x,us⟩⟩⟩:=us
   ·simp [sG]at e
   ·simp [sG]at e
   ·cases b with
    |bl b=>
     cases b with
     |true=>
      simp only[sG]at e;cases e1:uf k with
      |none=>rw[e1]at e;simp at e
      |some q=>
       cases e2:sG ws with
       |none=>rw[e1,e2]at e;simp at e
       |some qs'=>
        rw[e1,e2]at e;simp only[bS]at e;subst e;cases r with
        | @bH t vs' _ ft hs=>
         cases hs with
         |cons r1 r2=>
          cases r2 with
          |cons r3 r4=>
           cases r4;cases r3;obtain⟨b,rfl,eb⟩:=P1 r1 e1;exact .cons ⟨t,b,rfl,ft,eb⟩ (Ph rs e2)
     |false=>simp [sG]at e
    |_=>simp [sG]at e
   ·cases b<;>simp [sG]at e
  |_=>simp [sG]at e
theorem Oq{K:am}{H:Hp}:∀(qs:List (List Int)) {dP:List (List Int×W)}{ps:List (List Key×V)},qc K H dP ps→qc K H (qs.foldl (λdP k=>wQ dP k (.bl true)) dP) ((qs.map λq=>q.map Sum.inl).foldl (λdP q=>ug dP q (.bl true)) ps)
 | [],_,_,r=>r
 |q::qs,_,_,r=>by
  rw[aG,fK,fK];exact Oq qs (r.bz q (.bl true))
def X'{K:am}:yc K (λxs H Q=>∃(l:aj) (vs:List V) (qs:List (List Key)),xs=[.ref l]∧pJ K H l vs∧bh (Dj H) qs vs∧qs.length≤sizeLine∧ ∀d,H d=none→Q (.ref d) (nY H d (.dT (yh qs)))) xm:=λH a vs ws S Q QW ea na r hS h hQ=>by
 unfold xm at h;split at h
 ·rename_i qs e;have hp:=Ph r e;refine⟨a,vs,_,rfl, .of ea,hp,?_,λd hd=>?_⟩
  ·rw[aD,d9];lia
  ·have rd:qc K H (u9 qs) (yh (qs.map λq=>q.map Sum.inl)):=Oq qs (show qc K H [] [] from .nil);have x:oA H S (nY H d (.dT (yh (qs.map λq=>q.map Sum.inl)))) (bz S d (.dct (u9 qs))):= .newS hd;refine hQ (.ref d) (bz S d (.dct (u9 qs))) (.ref d) _ x (.ref d) (λb o q=>?_) (h.2 d (hS.free hd));by_cases hb:b=d
   ·subst hb;rw[nJ]at q;cases q;exact⟨_,pY,Paired.mapP rd λ_ _ z=>⟨z.1,z.2.ext x⟩⟩
   ·rw[oQ hb]at q;exact hS.new hd b o q
 ·exact h.elim
def Zv (hr:oK k X.A) (hg:Gl X "dict") (hm:X.mg "dict" =none) (ha:JL X e tl)
  (he:ay [e] X.env=(false,aA e X.env)::ay [] X.env) (hpl:(aR pos (ay [] X.env)).any (·.1)=false) (hcl:X.calm=true):JE X (.Call (.Name "dict" p) [e] [] pos) (rN xm tl):=λE hE=>
 OK (WZ hcl (by have:=hr.units;lia)) X' hg hm PyProof.Rows.boot_dict ha `d `d he hpl E hE
def _root_.pz{a b:Prop}(h:a→b) (g:b→a):a=b:=propext ⟨h,g⟩
def SI:=@xm.eq_def
theorem PV:∀ps:List (List Int),sG (ps.map λp=>W.bH [.bH (p.map W.int), .bl true])=aa ps
 | []=>rfl
 |p::ps=>by
  have e:uf (.bH (p.map W.int))=aa p:=by
   show rR (p.map W.int)=aa p
   induction p with
   |nil=>rfl
   |cons i p ih=>rw[aG,rR,ih];rfl
  rw[aG,sG,e,PV ps]
def Yo (dP:List (List Int×W)) (q k:List Int) (v:W):(qp (wQ dP q v) k).isSome=(decide (k=q) || (qp dP k).isSome):=by
 have e:∀dP:List (List Int×W),(qp dP k).isSome=dP.any λkv=>decide (kv.1=k):=λdP=>by
  unfold qp;rw[ij]
  induction dP with
  |nil=>rfl
  |cons a dP ih=>
   rw[cr,fD];cases decide (a.1=k) with
   |true=>rfl
   |false=>simpa using ih
 rw[e,e];unfold wQ;split
 ·rename_i h;have:(dP.map λkv=>if kv.1=q then(kv.1,v) else kv).any (λkv=>decide (kv.1=k))=dP.any λkv=>decide (kv.1=k):=by
   rw[List.any_map];congr 1;funext kv;simp only[jm];split<;>rfl
  rw[this];by_cases hk:k=q
  ·subst hk;rw[h];simp
  ·rw[decide_eq_false hk,fN]
 ·rw[List.any_append];simp only[fD,List.any_nil,jo];rw[Bool.or_comm];congr 1;apply decide_eq_decide.mpr;exact eq_comm
theorem Mr:∀(qs:List (List Int)) (dP:List (List Int×W)) (k:List Int),(qp (qs.foldl (λdP k=>wQ dP k (.bl true)) dP) k).isSome=(decide (k∈qs) || (qp dP k).isSome)
 | [],dP,k=>by simp
 |q::qs,dP,k=>by
  rw[fK,Mr qs,Yo,←nz];congr 1;rw[dc];simp only[jG,decide_eq_true_eq,az];exact or_comm
def PK (qs:List (List Int)) (k:List Int):(qp (u9 qs) k).isSome=decide (k∈qs):=by
 unfold u9;rw[Mr];simp [qp]
end L2
namespace L2
open PySem PySem.Spec PyProof.Rows PySem.W PySem.Calls Builtin Builtin.ObjectAttr Builtin.Getset_descriptor
structure Gp (K:Frag) (C:aj):Prop where
  ga:findIn K (.ref C) "__getattribute__" =aa (aa (.builtin "BaseException.__getattribute__"))
  gt:findIn K (.ref C) "__getattr__" =aa none
  cl:findIn K (.ref C) "__class__" =aa (aa (.builtin "object.__class__"))
  ob:mroIn K C (.type "object")=aa true
  be:mroIn K C (.type "BaseException")=aa true
noncomputable abbrev DX:List ai:=[.type "ValueError", .type "Exception", .type "BaseException", .type "object"]
structure r_ (K:am) (x:ah) (C:aj):Prop where
  nm:aX K aO x=aa (aa (.ref C))
  ex:mG K C DX "ValueError.__new__" =true
  xc:Gp K C
theorem Ng:∀l:List jU,∃L:List ah,∀x,x∉L→ ∀e∈l,¬e.key.isStr x=true
 | []=>⟨[],λ_ _ _ h=>nomatch h⟩
 |a::l=>by
  obtain⟨L,hL⟩:=Ng l;by_cases q:∃y,a.key.isStr y=true
  ·obtain⟨y,hy⟩:=q;exact⟨y::L,λx hx=>kU.2 ⟨λh=>hx (ai.isStr_inj _ _ _ h hy▸ .head _),hL x λh=>hx (.tail _ h)⟩⟩
  ·exact⟨L,λx hx=>kU.2 ⟨λh=>q ⟨x,h⟩,hL x hx⟩⟩
def r_.own{K:am}{x:ah}{C:aj}{h:aH}{mg:ah→Option ai}(O:r_ K x C) (p:aY) (M:Mod K mg h):OwnCls x C DX "ValueError.__new__" mg h:=by
 obtain⟨mb,hb,hm⟩:=M.blt;obtain⟨o,es,ep,ho,hd,hz,hf⟩:=M.glob;obtain⟨L,hL⟩:=Ng es.toList;refine PySem.W.own_of_in (p:=p) (loose:=L) M.kin ⟨M.glob,hb,M.nolimit,hm,λy _ hy _ _ _=>(hf y).symm.trans ?_⟩ O.nm O.ex;unfold nsFind findBy;rw[Array.find?_eq_none.2 λe he=>hL y hy e (k9.2 he)];rfl
def rk (x:ah) (t:WA):WS:=λE _ σ S=>t E σ S λws S1=>ws.length≤sizeLine∧E x σ S1
def UD{X:Cx}{x:ah}{C:aj}{e:Expr}{es:List Expr}{t:WA}{np cpos pos:bi}(O:r_ X.K x C) (hg:Gl X x) (hm:X.mg x=aa (.ref C)) (ha:JA X (e::es) t) (hcl:X.calm=true) (hdb:(x == ("__debug__" :ah))=false)
  (he:ay (e::es) X.env=(false,aA e X.env)::ay es X.env) (hpl:(aR cpos (ay es X.env)).any (·.1)=false) :
  JS X (.Raise (aa (.Call (.Name x np) (e::es) [] cpos)) none pos) (rk x t):=λE hE ag s σ H D I z=>by
 obtain⟨σW,S,DW,hσ,hS,ht,hD⟩:=z;have OC:=(O.own X.prog I.mod).keeps I.bk;obtain⟨tl,N,nm,q,bs,hdct,sn,sub,ab,col,dd,k0,k1,k2,k3,k5,mN,hC,hN,hni,T⟩:=(O.own X.prog I.mod).obj;refine wpAny_Raise_call_subT (C:=C) (nm:=nm) (q:=q) (N:=N) (bs:=bs) (bm:=tl) (hdct:=hdct) (sn:=sn) (sub:=sub) (ab:=ab) (col:=col) (dd:=dd) (k0:=k0) (k1:=k1) (k2:=k2) (k3:=k3) (k5:=k5)
  mY (mN:=mN) (T.hasType mY.hasBase) (I.ok.hd hcl) (by rw[he];show(false || (aR cpos (ay es X.env)).any (·.1))=false;rw[hpl];rfl) hni (Cp I hg hm ⟨rfl,?_⟩ hdb)
 have go:=ha E hE cpos ag s σ H (λvs H1=>∃ws S1,mE X.K H1 ws vs∧n9 X.K H1 σW σ∧nB X.K H1 S1∧ws.length≤sizeLine∧E x σW S1) I ⟨σW,S,_,hσ,hS,ht,λws S1 vs H1 e1 r1 d5 h1=>⟨ws,S1,r1,hσ.ext e1,d5,h1.1,h1.2⟩⟩;rw[he]at go⊢;refine lj (cL go (λus s2 z2=>?_) λ_ _ y=>y);obtain⟨vs,H1,I1,r,ws,S1,r1,hσ1,d5,hl,h1⟩:=z2;refine⟨rfl,by rw[←r.length,←r1.length];exact hl,I1.bk _ _ hC,hN.keeps I1.bk,T.keeps I1.bk,λh' a me=>?_⟩
 exact hE.near ag σ H1 s2 σW x C a S1 h' us I1 hσ1 O.nm me d5 h1
abbrev wJ:WX:=λ_ _ _=>False
def J1 (h:fB (aC X.prog X.w) X.A X.env X.xe):pK X wJ:=⟨h,λ_ _ _ _ _ _ _ _ _ _ _ _ _ _ _ _ _ _ _ _ z=>z.elim,λ_ _ _ _ _ _ _ _ _ _ _ _ _ _ _ _ z=>z.elim⟩
def Y0 (ha:PE X a ta):PE X (.UnaryOp .Not a pos) (λσ H Q=>ta σ H λx H1=>∃k,BQ X.K x H1 k∧Q (.bl (!k)) H1):=by
 intro ag s σ H Q I h;refine jE (oj (ha ag s σ H _ I h) λv s1 zz=>oJ zz λx H1 I1 r1 q1=>?_);obtain⟨k,hk,q1⟩:=q1;exact not_of (oj (Jy ag s1 σ H1 x v (λc H2=>Q (.bl (!c)) H2) I1 r1 ⟨k,hk,q1⟩) λc s2 zz=>wF zz λH2 I2 q2=>⟨.bl (!c),H2,I2,rfl,q2⟩)
def HZ (t:WE):WE:=λE σ S Q=>t E σ S λw S1=>vR w S1 λb S2=>Q (.bl !b) S2
def Rw (ha:JE X a ta):JE X (.UnaryOp .Not a pos) (HZ ta):=λE hE=>
 (Y0 (ha E hE)).mono λσ H Q zz=>oF zz λσW S QW hσ hS ht hQ=>⟨σW,S,_,hσ,hS,ht,λw S1 v H1 e1 r1 d5 h1=>by
  obtain⟨k,hk,q⟩:=Nr r1 d5 h1;exact⟨k,hk,hQ _ S1 _ H1 e1 (.bl _) d5 q⟩⟩
noncomputable def YF (σ:List ah) (v:ah):List ah:=if σ.any (· == v) then σ else σ++[v]
noncomputable def SU (xs:List ah):List ah:=xs.foldl YF []
def zGZ (t:WE):WE:=λE σ S Q=>t E σ S λw S1=>match w with
 | .ref l=>oN S1 l λws=>∃xs,t6 ws=aa xs∧xs.length≤100∧Q (.int (SU xs).length) S1
 |_=>False
def zU (to ti:WE):WG:=λw σ S P=>to wJ σ S λwo S1=>ti wJ σ S1 λwi S2=>match wo,wi with
 | .ref l, .int k=>oN S2 l λws=>∃j,tj ws.length k=aa j∧P σ (bz S2 l (.bx (ws.set j w)))
 |_,_=>False
def Z1 (ho:JE X o to) (hi:JE X i ti)
    (ha:∀v,assign (.Subscript o i pos) X.env v=(do
      let ov ←holding [v] (aA o X.env)
      let iv ←holding [v,ov] (aA i X.env)
      eB pos
      holding [v,ov,iv] (iw ov iv v)
      release [v,ov,iv] [])):JG X (.Subscript o i pos) (zU to ti):=λE hE=>
  (zED (ho wJ (J1 hE.own)) (hi wJ (J1 hE.own)) Vw ha).mono λv σ H Q zz=>A6 zz λw σW S P r hσ hS ht hP=>
    ⟨σW,S,_,hσ,hS,ht,λwo S1 vo H1 e1 r1 d5 h1=>⟨σW,S1,_,hσ.ext e1,d5,h1,λwi S2 vi H2 e2 r2 hS2 h2=>by
      split at h2
      · rename_i l k;obtain⟨ws,el,j,ej,h⟩:=qL h2;cases r1;cases r2;obtain⟨us,f,hs⟩:=hS2 l _ el;have r':=(r.ext e1).ext e2;obtain⟨x,hS'⟩:=hS2.set_lst el (hs.set r' j);exact⟨l,us,k,j,rfl,rfl,f,by rw[←hs.length];exact ej,hP _ _ _ _ ((e1.trans e2).trans x) (((hσ.ext e1).ext e2).ext x) hS' h⟩
      · exact h2.elim⟩⟩
def M1{P:nK→gY→Prop}:(zU to ti w σ S P)=(to wJ σ S λwo S1=>ti wJ σ S1 λwi S2=>match wo,wi with
 | .ref l, .int k=>oN S2 l λws=>∃j,tj ws.length k=aa j∧P σ (bz S2 l (.bx (ws.set j w)))
 |_,_=>False):=pz id id
inductive Tr where
  |bl (n:Int)
  |nd (s:ah) (ts:List Tr)
def Tr.cF:Tr→List Tr
 | .bl _=>[]
 | .nd _ ts=>ts
mutual
noncomputable def Tr.au:Tr→Nat
 | .bl _=>1
 | .nd _ ts=>1+nI ts
noncomputable def nI:List Tr→Nat
 | []=>0
 |t::ts=>t.au+nI ts
end
mutual
noncomputable def Tr.depth:Tr→Nat
 | .bl _=>1
 | .nd _ ts=>1+oy ts
noncomputable def oy:List Tr→Nat
 | []=>0
 |t::ts=>max t.depth (oy ts)
end
def Cy:nI []=0:=by unfold nI;rfl
def ur (t:Tr) (ts:List Tr):nI (t::ts)=t.au+nI ts:=by
 conv=>lhs;unfold nI
theorem xh:∀(ts us:List Tr),nI (ts++us)=nI ts+nI us
 | [],us=>by
  show nI us=nI []+nI us;rw[Cy];lia
 |t::ts,us=>by
  show nI (t::(ts++us))=_;rw[ur,ur,xh ts us];lia
def Ey:oy []=0:=by unfold oy;rfl
def AT (t:Tr) (ts:List Tr):oy (t::ts)=max t.depth (oy ts):=by
 conv=>lhs;unfold oy
def zF (t:Tr):t.au=1+nI t.cF:=by
 cases t with
 |bl n=>
  show Tr.au (.bl n)=1+nI [];unfold Tr.au nI;rfl
 |nd s ts=>
  show Tr.au (.nd s ts)=1+nI ts
  conv=>lhs;unfold Tr.au
def Co (t:Tr):t.depth=1+oy t.cF:=by
 cases t with
 |bl n=>
  show Tr.depth (.bl n)=1+oy [];unfold Tr.depth oy;rfl
 |nd s ts=>
  show Tr.depth (.nd s ts)=1+oy ts
  conv=>lhs;unfold Tr.depth
def uc (t:Tr):1≤t.au:=by rw[zF];lia
def sj (t:Tr):1≤t.depth:=by rw[Co];lia
theorem Qa:∀(ts us:List Tr),oy (ts++us)=max (oy ts) (oy us)
 | [],us=>by
  show oy us=max (oy []) (oy us);rw[Ey];lia
 |t::ts,us=>by
  show oy (t::(ts++us))=_;rw[AT,AT,Qa ts us];exact(Nat.max_assoc _ _ _).symm
theorem qJ:∀(ts:List Tr),ts.length≤nI ts
 | []=>bc _
 |t::ts=>by
  have:=qJ ts;have:=uc t;rw[ur,aS];lia
theorem qg:∀{ts:List Tr},t∈ts→t.au≤nI ts
 | [],h=>by cases h
 |u::ts,h=>by
  rw[ur];obtain e |h:=az.mp h
  ·rw[e];lia
  ·have:=qg h;lia
theorem Eu:∀{ts:List Tr},ts≠ []→oy ts=1+oy (ts.flatMap Tr.cF)
 | [],h=>absurd rfl h
 | [t],_=>by
  rw[eG,gF,bC,AT,Ey,Co];lia
 |t::u::r,_=>by
  have ih:=Eu (ts:=u::r) `s;have e:(t::u::r).flatMap Tr.cF=t.cF++(u::r).flatMap Tr.cF:=eG ..;rw[AT,ih,e,Qa,Co];lia
theorem Hh:∀(ts:List Tr),nI (ts.flatMap Tr.cF)+ts.length=nI ts
 | []=>by rw[gF,Cy];rfl
 |t::ts=>by
  have ih:=Hh ts;rw[eG,xh,ur,aS,zF];lia
mutual
theorem ut:∀t:Tr,t.depth≤t.au
 | .bl n=>by unfold Tr.depth Tr.au;exact aE _
 | .nd s ts=>by
  have:=Ov ts;rw[Co,zF];show 1+oy ts≤1+nI ts;lia
theorem Ov:∀ts:List Tr,oy ts≤nI ts
 | []=>by rw[Ey];exact bc _
 |t::ts=>by
  have:=ut t;have:=Ov ts;rw[AT,ur];lia
end
mutual
noncomputable def gS:Tr→W
 | .bl n=> .int n
 | .nd s ts=> .bH (.str s::af ts)
noncomputable def af:List Tr→List W
 | []=>[]
 |t::ts=>gS t::af ts
end
theorem qr:∀ts:List Tr,af ts=ts.map gS
 | []=>by simp [af]
 |t::ts=>by simp [af,qr ts]
def p9 (ts:List Tr):(af ts).length=ts.length:=by rw[qr,aD]
noncomputable def nW (p:List Int):W:= .bH (p.map W.int)
def OV:p_ "int" "int" =true:=by decide +kernel
def IZ:p_ "int" "bool" =false:=by decide +kernel
def L1:p_ "int" "str" =false:=by decide +kernel
def Kq:p_ "int" "tuple" =false:=by decide +kernel
def Qg:p_ "int" "list" =false:=by decide +kernel
def Ip:p_ "bool" "int" =true:=by decide +kernel
def Oo:p_ "bool" "bool" =true:=by decide +kernel
def LK:p_ "bool" "str" =false:=by decide +kernel
def LO:p_ "bool" "tuple" =false:=by decide +kernel
def Lu:p_ "bool" "list" =false:=by decide +kernel
def O5:p_ "str" "int" =false:=by decide +kernel
def Ni:p_ "str" "bool" =false:=by decide +kernel
def Kz:p_ "str" "str" =true:=by decide +kernel
def NJ:p_ "str" "tuple" =false:=by decide +kernel
def HV:p_ "str" "list" =false:=by decide +kernel
def Oz:p_ "tuple" "int" =false:=by decide +kernel
def L4:p_ "tuple" "bool" =false:=by decide +kernel
def Kc:p_ "tuple" "str" =false:=by decide +kernel
def pF:p_ "tuple" "tuple" =true:=by decide +kernel
def pO:p_ "tuple" "list" =false:=by decide +kernel
def LS:p_ "list" "int" =false:=by decide +kernel
def Lv:p_ "list" "bool" =false:=by decide +kernel
def P_:p_ "list" "str" =false:=by decide +kernel
def pM:p_ "list" "tuple" =false:=by decide +kernel
def pW:p_ "list" "list" =true:=by decide +kernel
section
variable {α:Type}{x:α}{xs:List α}
def HS (n:Nat):pS xs (aa (n:Int)) none=xs.drop n:=by
 unfold pS;rw[HT.sIx_nat,HT.sIx_none];by_cases h:n≤xs.length
 ·rw[fy h,dZ (by rw[d_];lia)]
 ·rw[mw `l,gH (aE _),gH `l,List.take_nil]
def Nu (n:Nat):pS xs none (aa (n:Int))=xs.take n:=by
 unfold pS;rw[HT.sIx_nat,HT.sIx_none,di,eA];by_cases h:n≤xs.length
 ·rw[fy h]
 ·rw[mw `l,gR,dZ `l]
def Lw:pS (x::xs) (aa 1) none=xs:=by rw[show(1:Int)=((1:Nat):Int) from rfl,HS];rfl
def Qd{n d k:Nat}(h:0<k):HT.sIx n d (aa (-(k:Int)))=n - k:=by
 show(if(-(k:Int))<0 then(-(k:Int)+(n:Int)).toNat else min (-(k:Int)).toNat n)=n - k;rw[if_pos `l];lia
def YC (k:Nat) (h:0<k):pS xs none (aa (-(k:Int)))=xs.take (xs.length - k):=by
 unfold pS;rw[Qd h,HT.sIx_none,di,eA]
def ztA (k:Nat) (h:0<k):pS xs (aa (-(k:Int))) none=xs.drop (xs.length - k):=by
 unfold pS;rw[Qd h,HT.sIx_none,dZ (by rw[d_];lia)]
def sW{n:Nat}:ow xs (n:Int)=xs[n]? :=by
 unfold ow tj;rw[if_pos `l];by_cases h:n<xs.length
 ·rw[if_pos `l];simp
 ·rw[if_neg `l];simp;lia
def zG:ow (x::xs) 0=aa x:=sW (n:=0)
end
section
variable {S S':gY}{a b:aj}{o:Ob}{Q:List W→Prop}{ws:List W}
def LH (h:b≠a):bz (bz S a o) b u=bz (bz S b u) a o:=by
 funext c;unfold bz;by_cases h1:c=b
 ·rw[if_pos h1,if_pos h1,if_neg (by rw[h1];exact h)]
 ·rw[if_neg h1,if_neg h1]
def Iy (h:b≠a):bz (bz (bz S a o) b u) a o'=bz (bz S a o') b u:=by rw[LH h,qa,LH h]
def Ag:oN (bz S a (.bx ws)) a Q=Q ws:=nT nJ
def uC (h:bz S a o b=none):S b=none∧b≠a:=by
 have hb:b≠a:=by rintro rfl;rw[nJ]at h;cases h
 rw[oQ hb]at h;exact⟨h,hb⟩
def yD (h:S a=aa u) (n:S b=none):a≠b:=by rintro rfl;rw[h]at n;cases n
def Sub.bz (h:Sub S S') (n:S a=none):Sub S (L2.bz S' a o):=λb u e=>by rw[oQ (yD e n)];exact h b u e
def Sub.put2 (h:Sub S S'):Sub (L2.bz S a u) (L2.bz S' a u):=λb w e=>by
 by_cases hb:b=a
 ·subst hb;rw[nJ]at e⊢;exact e
 ·rw[oQ hb]at e⊢;exact h b w e
end
def Ei (S:gY) (a b:Int):oH S 60 (.int a) (.int b)=aa (a == b):=by have h:oH S 60 (.int a) (.int b)=aa (a == b):=rfl;exact h
def JY (S:gY) (a b:ah):oH S 60 (.str a) (.str b)=aa (a == b):=by have h:oH S 60 (.str a) (.str b)=aa (a == b):=rfl;exact h
def HN (S:gY) (a b:Bool):oH S 60 (.bl a) (.bl b)=aa (a == b):=by have h:oH S 60 (.bl a) (.bl b)=aa (a == b):=rfl;exact h
def nL (h:n≤16777216):n≤sizeLine:=by rw[d9];exact h
def rA (h:n<16777216):n<sizeLine:=by rw[d9];exact h
section
variable {S:gY}{Q:WK}{QB:Bool→gY→Prop}{QS:List W→(gY→Prop)→Prop}{QT:String→Prop}
def sI (h:S a=aa o):bz S a o=S:=by
 funext b;unfold bz;split
 ·rename_i e;rw[e,h]
 ·rfl
theorem Br:vR (.bl b) S QB=QB b S:=rfl
def JX:=@Br
theorem AS:vR (.int i) S QB=QB (i != 0) S:=rfl
def Qt:=@AS
theorem zT:vR (.bH ws) S QB=QB (!ws.isEmpty) S:=rfl
def ZB:=@zT
theorem A_:vR (.ref a) S QB=oN S a λws=>QB (!ws.isEmpty) S:=rfl
def U_:=@A_
theorem BE:vR .bR S QB=QB false S:=rfl
def ztt:=@BE
theorem AG:vE (.bH ws) S QS=QS ws λ_=>True:=rfl
def K_:=@AG
theorem Bk:vE (.ref a) S QS=oN S a λws=>QS ws λS'=>S' a=aa (.bx ws):=rfl
def EM:=@Bk
theorem Ap:wL (.bl b) S QT=QT "bool" :=rfl
def Xt:=@Ap
theorem AO:wL (.int i) S QT=QT "int" :=rfl
def zvC:=@AO
theorem zM:wL (.str i) S QT=QT "str" :=rfl
def Sx:=@zM
theorem AE:wL (.bH i) S QT=QT "tuple" :=rfl
def zvs:=@AE
theorem zR:wL .bR S QT=QT "NoneType" :=rfl
def Tf:=@zR
theorem zu:wL (.ref a) S QT=oN S a λ_=>QT "list" :=rfl
def V9:=@zu
theorem AX:oX (.int i) (.int j) S Q=Q (.int (i+j)) S:=rfl
def WM:=@AX
theorem AU:oX (.str i) (.str j) S Q=(i.length+j.length≤sizeLine∧Q (.str (i++j)) S):=rfl
def Qp:=@AU
theorem Ah:oX (.bH i) (.bH j) S Q=(i.length+j.length≤sizeLine∧Q (.bH (i++j)) S):=rfl
def EC:=@Ah
theorem Aa:oX (.ref a) (.ref b) S Q=oN S a λxs=>oN S b λys=>xs.length+ys.length≤sizeLine∧ ∀p,S p=none→Q (.ref p) (bz S p (.bx (xs++ys))):=rfl
def UT:=@Aa
theorem zm{C:Int→Int→Prop}{g:Int→Int→W}:oZ C g (.int i) (.int j) S Q=(C i j∧Q (g i j) S):=rfl
def Wf:=@zm
theorem zJ{g:Int→Int→W}:rK g (.int i) (.int j) S Q=Q (g i j) S:=rfl
def Wh:=@zJ
theorem BB:rZ (.int i) (.int j) S Q=Q (.bl (decide (i≤j))) S:=rfl
def YT:=@BB
theorem zZ:rZ (.str i) (.str j) S Q=Q (.bl (!decide (j.cps.toList<i.cps.toList))) S:=rfl
def QH:=@zZ
theorem zp:pq [.bH us] S Q=Q (.int us.length) S:=rfl
def Yi:=@zp
theorem Aj:pq [.ref a] S Q=oN S a λus=>Q (.int us.length) S:=rfl
def Xz:=@Aj
theorem zV:pq [.b8 ns] S Q=Q (.int ns.length) S:=rfl
def Vb:=@zV
theorem Bp:pq [.str z] S Q=(z.length≤sizeLine∧Q (.int z.length) S):=rfl
def zth:=@Bp
theorem Ab:nC (.bH ws) (.int i) S Q=match ow ws i with
 |some w=>Q w S
 |none=>False:=rfl
def zvq:=@Ab
theorem A5:nC (.ref a) (.int i) S Q=oN S a λws=>match ow ws i with
 |some w=>Q w S
 |none=>False:=rfl
def IT:=@A5
theorem AI:nC (.b8 ns) (.int i) S Q=match ow ns i with
 |some n=>Q (.int n) S
 |none=>False:=rfl
def VN:=@AI
theorem Ax:nC (.str x) (.int i) S Q=(x.length≤sizeLine∧match ow x.cps.toList i with
 |some c=>Q (.str ⟨#[c]⟩) S
 |none=>False):=rfl
def Xi:=@Ax
theorem An{ws:List W}{lo hi:Option Int}:A9 (.bH ws) lo hi S Q=Q (.bH (pS ws lo hi)) S:=rfl
def Z0:=@An
theorem AZ{z:ah}{lo hi:Option Int}:A9 (.str z) lo hi S Q=(z.length≤sizeLine∧Q (.str (cu z lo hi)) S):=rfl
def ZD:=@AZ
theorem Bq{a:aj}{lo hi:Option Int}:A9 (.ref a) lo hi S Q=oN S a λws=>∀p,S p=none→Q (.ref p) (bz S p (.bx (pS ws lo hi))):=rfl
def SE:=@Bq
theorem zW{ns:List Int}{lo hi:Option Int}:A9 (.b8 ns) lo hi S Q= ∀p,S p=none→Q (.ref p) (bz S p (.bx ((pS ns lo hi).map W.int))):=rfl
def Th:=@zW
theorem Bz:sM [.bH us] S Q=Q (.bH us) S:=rfl
def znw:=@Bz
theorem Bu:sM [.ref a] S Q=oN S a λus=>Q (.bH us) S:=rfl
def TV:=@Bu
theorem Ai:rO (.ref a) [y] S Q=oN S a λxs=>xs.length<sizeLine∧Q .bR (bz S a (.bx (xs++[y]))):=rfl
def Vs:=@Ai
theorem Af:B' (.ref a) [] S Q=oN S a λxs=>match xs[xs.length - 1]? with
 |some y=>Q y (bz S a (.bx xs.dropLast))
 |none=>False:=rfl
def Uj:=@Af
theorem zI:xr (.ref a) [.bH ys] S Q=oN S a λxs=>xs.length+ys.length≤sizeLine∧Q .bR (bz S a (.bx (xs++ys))):=rfl
def Xu:=@zI
theorem Bx:xr (.ref a) [.ref b] S Q=oN S a λxs=>oN S b λys=>xs.length+ys.length≤sizeLine∧Q .bR (bz S a (.bx (xs++ys))):=rfl
def ZR:=@Bx
theorem Bl:Yj (.ref a) ws S Q=oN S a λxs=>xs.length+ws.length≤sizeLine∧Q .bR (bz S a (.bx (xs++ws))):=rfl
def zua:=@Bl
theorem zO:qq (.ref a) S=oN S a λ_=>True:=rfl
def Rf:=@zO
theorem AN:tF (.str x) S=True:=rfl
def X1:=@AN
theorem AW:vY [.bl b] S Q=Q (.int (if b then 1 else 0)) S:=rfl
def SS:=@AW
theorem A7:vY [.int i] S Q=Q (.int i) S:=rfl
def T8:=@A7
theorem AL:Rn [.int i, .int j] S Q=Q (.int (if j > i then j else i)) S:=rfl
def SH:=@AL
theorem zC:vc [.int i, .int j] S Q=Q (.int (if j<i then j else i)) S:=rfl
def Y3:=@zC
theorem zw:xn (.str z) ws S Q=match t6 ws with
 |some ys=>(ys.map (·.length)).sum+ys.length*z.length≤16777216∧Q (.str (c8 z ys)) S
 |none=>False:=rfl
def Qo:=@zw
theorem BF:VM (.str z) [.str y] S Q=match cW z y 0 z.length 1 with
 |i::_=>Q (.int i) S
 | []=>False:=rfl
def zAB:=@BF
theorem Ak:p6 neg .bR .bR S Q=Q (.bl (!neg)) S:=rfl
def zvV:=@Ak
theorem BA:p6 neg (.bl a) (.bl b) S Q=Q (.bl (if neg then a != b else a == b)) S:=rfl
def Rp:=@BA
theorem zA:p6 neg (.bl a) .bR S Q=Q (.bl neg) S:=rfl
def XD:=@zA
theorem BD:p6 neg (.bH ws) .bR S Q=Q (.bl neg) S:=rfl
def W_:=@BD
theorem Az:p6 neg (.ref a) .bR S Q=Q (.bl neg) S:=rfl
def zzj:=@Az
theorem z_:p6 neg (.int a) .bR S Q=Q (.bl neg) S:=rfl
def Yq:=@z_
theorem Al:ud neg x (.bH ws) S Q=match qS S x ws with
 |some b=>Q (.bl (if neg then !b else b)) S
 |none=>False:=rfl
def zwa:=@Al
theorem BH:ud neg x (.ref a) S Q=oN S a λws=>match qS S x ws with
 |some b=>Q (.bl (if neg then !b else b)) S
 |none=>False:=rfl
def Us:=@BH
theorem AJ:ud neg (.str i) (.str j) S Q=Q (.bl (if neg then !(!(cW j i 0 j.length 1).isEmpty) else !(cW j i 0 j.length 1).isEmpty)) S:=rfl
def SL:=@AJ
end
theorem GZ{G:gY→Prop}(I:List W→nK→gY→Prop)
  (step:∀w ws σ S (N:nK→gY→Prop),I (w::ws) σ S→(∀σ' S' S'',Sub S'' S'→G S''→I ws σ' S''→N σ' S')→g w σ S λσ1 S1=>b E { D with nx:=N,ct:=N,bk:=D.nx } σ1 S1)
  (done:∀σ S,I [] σ S→D.nx σ S):∀(ws:List W) (σ:nK) (S:gY),I ws σ S→nU g b E D G ws σ S
 | [],σ,S,h=>done σ S h
 |w::ws,σ,S,h=>step w ws σ S _ h λσ' S' S'' sb hG hI=>⟨S'',sb,hG,GZ I step done ws σ' S'' hI⟩
section
variable {E:WX}{σ:nK}{S:gY}{Q:WK}{QB:Bool→gY→Prop}{QA:List W→gY→Prop}{QI:List W→(gY→Prop)→gY→Prop}{QO:Option Int→gY→Prop}{P:nK→gY→Prop}{D:nQ}{w x y:W}{ws:List W}{EX:ah→gY→Prop}
def zB:=@eQ.eq_def
def GW:=@wC.eq_def
def Go:=@wOp.eq_def
def MF:=@oY.eq_def
def Pp:=@oo.eq_def
def Tt:=@sx.eq_def
def YS:=@rV.eq_def
def Sg:=@qF.eq_def
def Q9:=@sP.eq_def
def QU:=@BJ.eq_def
def SQ:=@A8.eq_def
def Zx:=@og.eq_def
def zAa:=@oh.eq_def
def UQ:=@kj.eq_def
def Mw:=@nM.eq_def
def QC:=@pX.eq_def
def uP:=@wGN.eq_def
def VX:=@jj.eq_def
def Pj:=@qh.eq_def
def Gn:=@oU.eq_def
def Je:=@qx.eq_def
def Zd:=@ae.eq_def
def Xd:=@fX.eq_def
def RW:=@nS.eq_def
def N':=@oI.eq_def
def J2:=@ox.eq_def
def VA:=@nF.eq_def
def wz:=@on.eq_def
def RL:=@sk.eq_def
def zGC:(Ud t u E σ S QA)=(t E σ S λx S1=>u E σ S1 λy S2=>match x,y with
 | .ref a, .ref b=>oN S2 a λxs=>oN S2 b λys=>xs.length+ys.length≤sizeLine∧QA (xs++ys) S2
 |_,_=>False):=pz id id
def MM:=@o4.eq_def
def QE:=@uD.eq_def
def Xe:=@py.eq_def
def QV:=@woS.eq_def
def Uu:=@pD.eq_def
def Tx:=@wB.eq_def
def TW:=@rN.eq_def
def ztr:=@xC.eq_def
def ZC:=@yj.eq_def
def VE:=@tR.eq_def
def zFa:=@rg.eq_def
def Ut:=@wM.eq_def
def VF:=@wS.eq_def
def Qu:=@vZ.eq_def
def YG:=@pR.eq_def
def WP:=@px.eq_def
def VQ:=@ux.eq_def
def RO:=@pP.eq_def
def Vo:=@pT.eq_def
def Ti:=@vv.eq_def
def zEL:=@t_.eq_def
def Vk:=@ww.eq_def
def Rc:=@vL.eq_def
def Kv:=@tf.eq_def
def VS:=@ve.eq_def
def SM:=@zl.eq_def
def T6:=@yU.eq_def
end
section
variable {E:WX}{σ:nK}{S:gY}{Q:WK}{QA:List W→gY→Prop}
theorem Bg:SZ (.bH xs) (.int k) S Q=((xs≠ []∧ -(2 ^ 63)≤k∧k<2 ^ 63∧xs.length*k.toNat≤sizeLine)∧Q (.bH (bf k.toNat xs).flatten) S):=rfl
def Vg:=@Bg
def Xn:=@zS.eq_def
theorem AY:yA neg y (.ref a) S Q=(match uf y with
 |some k=>vw S a λdP=>Q (.bl (if neg then !(qp dP k).isSome else(qp dP k).isSome)) S
 |none=>False):=rfl
def UR:=@AY
theorem By:V8 (.ref a) y S Q=(match uf y with
 |some k=>vw S a λdP=>match qp dP k with
  |some w=>Q w S
  |none=>False
 |none=>False):=rfl
def Ui:=@By
def WJ:=@wX.eq_def
theorem AM:zH (.str z) [] S Q=(z.length≤5592405∧Q (.str (eN z)) S):=rfl
def U7:=@AM
theorem GQ:∀p:List Int,rR (p.map W.int)=aa p
 | []=>rfl
 |i::p=>by rw[aG,rR,GQ p];rfl
def NZ (p:List Int):uf (nW p)=aa p:=GQ p
def O2{P:List (List Int×W)→Prop}:vw (bz S a (.dct dP)) a P=P dP:=Hm nJ
end
end L2
section
def L2.wZ (d:String):Lean.MacroM (Lean.TSyntax `tactic):=do
  let a:Array ko:=(("NU Oa MZ PR NM zB GW Go MF Pp Tt YS Sg Q9 QU SQ Zx zAa UQ Mw QC uP VX Pj Gn Je Zd Xd RW N' J2 VA wz RL MM QE Xe QV Uu Tx TW ztr ZC VE zFa Ut VF Qu YG WP VQ RO Vo Ti zEL Vk Rc Kv VS SM T6 Xn Vg UR Ui WJ SI U7 NZ O2 Ag qa Ei JY HN Lw zG OV IZ L1 Kq Qg Ip Oo LK LO Lu O5 Ni Kz NJ HV Oz L4 Kc pF pO LS Lv P_ pM pW JX Qt ZB U_ ztt K_ EM Xt zvC Sx zvs Tf V9 WM Qp EC UT Wf Wh YT QH Yi Xz Vb zth zvq IT VN Xi Z0 ZD SE Th znw TV Vs Uj Xu ZR zua Rf X1 SS T8 SH Y3 Qo zAB zvV Rp XD W_ zzj Yq zwa Us SL List.map_cons List.map_nil List.length_cons List.length_nil List.cons_append List.nil_append List.append_nil List.replicate List.getElem?_cons_zero List.getElem?_cons_succ List.getElem?_nil List.set_cons_zero List.set_cons_succ Nat.reduceAdd Nat.reduceSub true_and and_true if_true if_false Bool.false_eq_true reduceIte Bool.not_true Bool.not_false Option.join_some Option.join_none decide_eq_true_eq and_self".splitOn " ").filter (· != d)).toArray.map λs=>kq s.toName
  `(tactic| simp only [$[$a:term],*])
local macro_rules | `(tactic| walk_at "wp") => L2.wZ ""
def L2.wY:Lean.MacroM (Lean.TSyntax `tactic):=do
  let a:Array ko:=("eQ wC wOp oY oo sx rV qF sP BJ A8 og oh kj nM pX wGN jj qh oU qx ae fX nS oI ox nF on sk o4 uD py woS pD wB rN xC yj tR rg wM wS vZ pR px ux pP pT vv t_ ww vL tf ve zl yU zS Bg AY By wX xm AM Br AS zT A_ BE AG Bk Ap AO zM AE zR zu AX AU Ah Aa zm zJ BB zZ zp Aj zV Bp Ab A5 AI Ax An AZ Bq zW Bz Bu Ai Af zI Bx Bl zO AN AW A7 AL zC zw BF Ak BA zA BD Az z_ Al BH AJ List.map_cons List.map_nil List.length_cons List.length_nil List.cons_append List.nil_append List.append_nil List.replicate List.getElem?_cons_zero List.getElem?_cons_succ List.getElem?_nil List.set_cons_zero List.set_cons_succ Nat.reduceAdd Nat.reduceSub Option.join_some Option.join_none Bool.not_true Bool.not_false".splitOn " ").toArray.map λs=>kq s.toName
  let b:Array ko:=("NU Oa MZ PR NM NZ O2 Ag qa Ei JY HN Lw zG OV IZ L1 Kq Qg Ip Oo LK LO Lu O5 Ni Kz NJ HV Oz L4 Kc pF pO LS Lv P_ pM pW List.map_cons List.map_nil List.length_cons List.length_nil List.cons_append List.nil_append List.append_nil List.replicate List.getElem?_cons_zero List.getElem?_cons_succ List.getElem?_nil List.set_cons_zero List.set_cons_succ Nat.reduceAdd Nat.reduceSub true_and and_true if_true if_false Bool.false_eq_true reduceIte Bool.not_true Bool.not_false Option.join_some Option.join_none decide_eq_true_eq and_self".splitOn " ").toArray.map λs=>kq s.toName
  `(tactic| (first | (dsimp only [$[$a:term],*]; (try simp only [$[$b:term],*]); (try dsimp only [$[$a:term],*]); (try simp only [$[$b:term],*])) | (simp only [$[$b:term],*]; (try dsimp only [$[$a:term],*]); (try simp only [$[$b:term],*]))))
local macro_rules | `(tactic| ext) => L2.wY
namespace L2
open PySem PySem.Spec PyProof.Rows
def ya:(rk x t E D σ S)=(t E σ S λws S1=>ws.length≤sizeLine∧E x σ S1):=pz id id
def zx:WF:=λws S Q=>match ws with
 | [.int i]=>i.natAbs.log2<1920∧Q (.str (aq (cG i))) S
 |_=>False
def So{K:am}:vT K (λxs H Q=>∃i,xs=[.int i]∧i.natAbs.log2<1920∧Q (.str (cG i)) H) zx:=λH vs ws S Q QW r hS h hQ=>by
 cases r with
 |nil=>exact h.elim
 |cons r1 r2=>
  cases r2 with
  |cons _ _=>cases r1<;>exact h.elim
  |nil=>
   cases r1 with
   |int i=>exact⟨i,rfl,h.1,hQ _ S _ H .refl (.str _) hS h.2⟩
   |_=>exact h.elim
def Zq (hg:Gl X "str") (hm:X.mg "str" =none) (ha:JA X (e::es) t)
  (he:ay (e::es) X.env=(false,aA e X.env)::ay es X.env) (hpl:(aR pos (ay es X.env)).any (·.1)=false):JE X (.Call (.Name "str" p) (e::es) [] pos) (wB zx t):=by
 have h1:= @XR X;have h2:= @So X.K;have h3:=PyProof.Rows.boot_str;generalize (λxs H Q=>∃i,xs=[V.int i]∧i.natAbs.log2<1920∧Q (V.str (aq (cG i))) H:List V→Hp→VK→Prop)=rr at h1 h2;exact B2 h1 h2 hg hm h3 ha `d `d he hpl
def Xp:zx [.int i] S Q=(i.natAbs.log2<1920∧Q (.str (aq (cG i))) S):=pz id id
def zuF{k n:Nat}(hk:1≤k) (hn:n<10 ^ k):(aq (cG (n:Int))).length≤k:=by
 rw[ofString_len];show(Nat.repr n).length≤k;have:=digits10_le hk hn;rw[←String.length_toList,Nat.toList_repr];exact this
noncomputable def qB (f:ah) (v:W):List (ah×W)→List (ah×W)
 | []=>[(f,v)]
 | (g,x)::r=>if g=f then(g,v)::r else(g,x)::qB f v r
def sD (S:gY) (cl:ah) (a:aj) (P:List (ah×W)→Prop):Prop:=match S a with
 |some (.ins c fs)=>c=cl∧P fs
 |_=>False
def ye{cl:ah}{P:List (ah×W)→Prop}(h:sD S cl a P):∃fs,S a=aa (.ins cl fs)∧P fs:=by
 unfold sD at h;split at h
 ·obtain⟨rfl,h⟩:=h;exact⟨_, ‹_›,h⟩
 ·exact h.elim
def DU{cl:ah}{P:List (ah×W)→Prop}(e:S a=aa (.ins cl fs)):sD S cl a P=P fs:=by
 unfold sD;rw[e];exact propext ⟨λh=>h.2,λh=>⟨rfl,h⟩⟩
abbrev sE (K:am) (H:Hp):List (ah×W)→List (ah×V)→Prop:=bh λq p=>p.1=q.1∧oz K H q.2 p.2
def sE.look{K:am}{H:Hp}(r:sE K H fs ps) (f:ah):(∀w,fs.lookup f=aa w→ ∃v,ps.lookup f=aa v∧oz K H w v)∧(fs.lookup f=none→ps.lookup f=none):=by
 induction r with
 |nil=>exact⟨λw h=>by simp at h,λ_=>rfl⟩
 | @cons q p fs ps h t ih=>
  obtain⟨g,x⟩:=q;obtain⟨g',y⟩:=p;obtain⟨h1,h2⟩:=h;simp only at h1 h2;subst h1;rw[bN,bN];cases e:f == g' with
  |true=>exact⟨λw z=>by cases z;exact⟨_,rfl,h2⟩,λz=>by cases z⟩
  |false=>exact ih
def sE.bz{K:am}{H:Hp}(r:sE K H fs ps) (f:ah) (rw':oz K H w v):sE K H (qB f w fs) (rm f v ps):=by
 induction r with
 |nil=>exact .cons ⟨rfl,rw'⟩ .nil
 | @cons q p fs ps h t ih=>
  obtain⟨g,x⟩:=q;obtain⟨g',y⟩:=p;obtain⟨h1,h2⟩:=h;simp only at h1 h2;subst h1;rw[qB,rm];by_cases e:g'=f
  ·rw[if_pos e,if_pos e];exact .cons ⟨rfl,rw'⟩ t
  ·rw[if_neg e,if_neg e];exact .cons ⟨rfl,h2⟩ ih
def sE.len{K:am}{H:Hp}(r:sE K H fs ps):ps.length=fs.length:=by
 induction r with
 |nil=>rfl
 |cons h t ih=>rw[aS,aS,ih]
def nB.set_ins{K:am}{H:Hp}{cl:ah}(h:nB K H S) (hn:aX K aO cl=aa (aa (.ref C))) (e:S a=aa (.ins cl fs0)) (e0:H a=aa (.ins C dx ps0)) (r:sE K H fs ps) :
  oA H S (nY H a (.ins C dx ps)) (bz S a (.ins cl fs))∧nB K (nY H a (.ins C dx ps)) (bz S a (.ins cl fs)):=by
 have x:oA H S (nY H a (.ins C dx ps)) (bz S a (.ins cl fs)):= .mut e0 e (λ_ z=>nomatch z) λ_ _ z=>nomatch z;refine⟨x,λb o q=>?_⟩;by_cases hb:b=a
 ·subst hb;rw[nJ]at q;cases q;exact⟨C,dx,ps,hn,pY,Paired.mapP r λ_ _ z=>⟨z.1,z.2.ext x⟩⟩
 ·rw[oQ hb]at q;exact(h b o q).keep x λu z=>by rw[oV hb];exact z
def tY (cl f:ah) (ta:WE):WE:=λE σ S Q=>ta E σ S λx S1=>match x with
 | .ref a=>sD S1 cl a λfs=>match fs.lookup f with
  |some w=>Q w S1
  |none=>False
 |_=>False
def yq (cl f:ah) (ta tv:WE):WS:=λE D σ S=>tv E σ S λv S1=>ta E σ S1 λx S2=>match x with
 | .ref a=>sD S2 cl a λfs=>fs.length<1000∧D.nx σ (bz S2 a (.ins cl (qB f v fs)))
 |_=>False
def za (cl f:ah) (ta tv:WE):WS:=λE D σ S=>ta E σ S λx S1=>match x with
 | .ref a=>sD S1 cl a λfs=>match fs.lookup f with
  |some (.int i)=>tv E σ S1 λy S2=>match y with
   | .int j=>sD S2 cl a λfs'=>fs'.length<1000∧D.nx σ (bz S2 a (.ins cl (qB f (.int (i+j)) fs')))
   |_=>False
  |_=>False
 |_=>False
def tT (cl m:ah) (c:nD) (ta:WE) (t:WA):WE:=λE σ S Q=>ta E σ S λx S1=>match x with
 | .ref a=>sD S1 cl a λfs=>fs.lookup m=none∧t E σ S1 λws S2=>c (.ref a::ws) S2 Q λcl' S3=>E cl' σ S3
 |_=>False
def DF (cl:ah) (c:nD) (t:WA):WE:=λE σ S Q=>t E σ S λws S1=>∀a,S1 a=none→c (.ref a::ws) (bz S1 a (.ins cl [])) (λw S2=>w= .bR∧Q (.ref a) S2) λcl' S3=>E cl' σ S3
def zBs (hn:aX X.K aO cl=aa (aa (.ref C))) (c:rM X.K C) (n:oW X.K C f) (he:JE X e ta) (hb:ci e f X.env (aA e X.env)=aA e X.env):JE X (.Attribute e f pos) (tY cl f ta):=λE hE=>
 (Zc (he E hE) hb).mono λσ H Q zz=>oF zz λσW S QW hσ hS ht hQ=>⟨σW,S,_,hσ,hS,ht,λw S1 v H1 e1 r1 d5 h1=>by
  split at h1
  ·rename_i a;obtain⟨fs,ea,h1⟩:=ye h1;split at h1
   ·rename_i w el;obtain⟨C',dx,ps,hn',eh,rp⟩:=d5 a _ ea;rw[hn]at hn';cases hn';obtain⟨v',ev,rv⟩:=(sE.look rp f).1 w el;cases r1;exact⟨a,C,dx,ps,v',rfl,eh,c,n,ev,hQ _ S1 _ H1 e1 rv d5 h1⟩
   ·exact h1.elim
  ·exact h1.elim⟩
def U3{X:Cx}{o value:Expr}{f cl:ah}{C:aj}{pos pos':bi}{ta tv:WE}(hn:aX X.K aO cl=aa (aa (.ref C))) (c:rM X.K C) (n:oW X.K C f) (ha:JE X o ta) (hv:JE X value tv) (hs:dE value (aa (.Attribute o f pos')) pos.line X.env=pure false):JS X (.Assign [.Attribute o f pos'] value pos) (yq cl f ta tv):=λE hE=>
 (Z6 (ha E hE) (hv E hE) hs).mono λD σ H zz=>oF zz λσW S DW hσ hS ht hD=>⟨σW,S,_,hσ,hS,ht,λw S1 v H1 e1 r1 d5 h1=>⟨σW,S1,_,hσ.ext e1,d5,h1,λwx S2 x H2 e2 r2 hS2 h2=>by
  split at h2
  ·rename_i a;obtain⟨fs,ea,hl,h2⟩:=ye h2;obtain⟨C',dx,ps,hn',eh,rp⟩:=hS2 a _ ea;rw[hn]at hn';cases hn';cases r2;obtain⟨x3,s3⟩:=hS2.set_ins hn ea eh (sE.bz rp f (r1.ext e2));exact⟨a,C,dx,ps,rfl,eh,c,n,by rw[sE.len rp];exact hl,hD.nx σW _ σ _ ((e1.trans e2).trans x3) (((hσ.ext e1).ext e2).ext x3) s3 h2⟩
  ·exact h2.elim⟩⟩
def Wz{X:Cx}{o value:Expr}{f cl:ah}{C:aj}{pos tpos:bi}{ta tv:WE}(hn:aX X.K aO cl=aa (aa (.ref C))) (c:rM X.K C) (n:oW X.K C f) (ha:JE X o ta) (hv:JE X value tv):JS X (.AugAssign (.Attribute o f tpos) .Add value pos) (za cl f ta tv):=λE hE=>
 (XA (ha E hE) (hv E hE) zBf).mono λD σ H zz=>oF zz λσW S DW hσ hS ht hD=>⟨σW,S,_,hσ,hS,ht,λwx S1 x H1 e1 r1 d5 h1=>by
  split at h1
  ·rename_i a;obtain⟨fs,ea,h1⟩:=ye h1;split at h1
   ·rename_i i el;obtain⟨C',dx,ps,hn',eh,rp⟩:=d5 a _ ea;rw[hn]at hn';cases hn';obtain⟨v',ev,rv⟩:=(sE.look rp f).1 _ el;cases rv;cases r1;refine⟨a,C,dx,ps, .int i,rfl,eh,c,n,ev,σW,S1,_,hσ.ext e1,d5,h1,λwy S2 y H2 e2 r2 hS2 h2=>?_⟩;split at h2
    ·rename_i j;obtain⟨fs',ea',hl,h2⟩:=ye h2;obtain⟨C',dx',ps',hn',eh',rp'⟩:=hS2 a _ ea';rw[hn]at hn';cases hn';cases r2;obtain⟨x3,s3⟩:=hS2.set_ins hn ea' eh' (sE.bz rp' f (.int (i+j)));exact⟨i,j,rfl,rfl,dx',ps',eh',by rw[sE.len rp'];exact hl,hD.nx σW _ σ _ ((e1.trans e2).trans x3) (((hσ.ext e1).ext e2).ext x3) s3 h2⟩
    ·exact h2.elim
   ·exact h1.elim
  ·exact h1.elim⟩
def Yr{X:Cx}{k:Nat}{f C:aj}{fd:cK}{ps:List ah}{c:nD}{m cl:ah}{e o:Expr}{es:List Expr}{t:WA}{ta:WE}(hn:aX X.K aO cl=aa (aa (.ref C))) (cC:rM X.K C) (hm:vB X.K C m f) (F:pe X.prog X.w X.K X.mg X.base (rW X.prog X.w) k f fd ps (rJ X.K c)) (hr:oK k X.A) (hb:pf X.K fd ps []) (he:JE X o ta) (ha:JA X (e::es) t)
    (hst:ay (e::es) X.env=(false,aA e X.env)::ay es X.env) (hpl:(aR pos (ay es X.env)).any (·.1)=false)
    (ht:aA (.Call (.Attribute o m apos) (e::es) [] pos) X.env=(do
      let ov ←aA o X.env
      eB apos.atName
      let (f,first) ←holding [ov] (gv ov m pl)
      jD pos f first (aR pos (ay (e::es) X.env)) (cM pos (cN [] X.env)))) :
    JE X (.Call (.Attribute o m apos) (e::es) [] pos) (tT cl m c ta t):=λE hE ag s σ H Q I h=>by
  obtain⟨σW,S,QW,hσ,hS,h0,hQ⟩:=h;refine kX (pl:=pl) (oj (he E hE ag s σ H (λv H1=>∃a fs S1,v= .ref a∧n9 X.K H1 σW σ∧nB X.K H1 S1∧S1 a=aa (.ins cl fs)∧fs.lookup m=none∧pj X.K H1 S1 QW Q∧t E σW S1 λws S2=>c (.ref a::ws) S2 QW λcl' S3=>E cl' σW S3) I
    ⟨σW,S,_,hσ,hS,h0,λw S1 v H1 e1 r1 d5 h1=>by
      split at h1
      · obtain⟨fs,ea,hl,h1⟩:=ye h1;cases r1;exact⟨_,fs,S1,rfl,hσ.ext e1,d5,ea,hl,hQ.from e1,h1⟩
      · exact h1.elim⟩) λu s1 zz=>oJ zz λv H1 I1 rv zy=>MK zy λa fs S1 ev hσ1 d5 ea hl hQ1 h1=>?_) ht
  subst ev;obtain rfl:u=bj a:=rv;obtain⟨C',dx,ps',hn',eh,rp⟩:=d5 a _ ea;rw[hn]at hn';cases hn';refine Ko I1 eh cC hm ((sE.look rp m).2 hl) ?_;refine jF (first:=[.ref a]) (h₀:=X.base) I.ok.mod.kin hm.kp (oj (ha E hE pos ag s1 σ H1 (λvs H2=>∃ws S2,mE X.K H2 ws vs∧n9 X.K H2 σW σ∧nB X.K H2 S2∧c (.ref a::ws) S2 QW (λcl S'=>E cl σW S')∧pj X.K H2 S2 QW Q) I1
    ⟨σW,S1,_,hσ1,d5,h1,λws S2 vs H2 e2 r2 hS2 h2=>⟨ws,S2,r2,hσ1.ext e2,hS2,h2,hQ1.from e2⟩⟩) λus s2 zz=>oJ zz λvs H2 I2 r zy=>Gs zy λws S2 r2 hσ2 hS2 h2 hQ2=>⟨I2.kIn,?_⟩) hst hpl
  exact F_ (us:= .ref a::us) (vs:= .ref a::vs) (ws:= .ref a::ws) F hr hb hE I2 (.cons rfl r) (.cons (.ref a) r2) hσ2 hS2 h2 hQ2
def Vq{X:Cx}{k:Nat}{f C:aj}{fd:cK}{ps:List ah}{c:nD}{m cl:ah}{pos apos:bi}{o:Expr}{ta:WE}(hn:aX X.K aO cl=aa (aa (.ref C))) (cC:rM X.K C) (hm:vB X.K C m f) (F:pe X.prog X.w X.K X.mg X.base (rW X.prog X.w) k f fd ps (rJ X.K c)) (hr:oK k X.A) (hb:pf X.K fd ps []) (he:JE X o ta)
    (ht:aA (.Call (.Attribute o m apos) [] [] pos) X.env=(do
      let ov ←aA o X.env
      eB apos.atName
      let (f,first) ←holding [ov] (gv ov m pl)
      jD pos f first (aR pos (ay [] X.env)) (cM pos (cN [] X.env)))) :
    JE X (.Call (.Attribute o m apos) [] [] pos) (tT cl m c ta ae):=λE hE ag s σ H Q I h=>by
  obtain⟨σW,S,QW,hσ,hS,h0,hQ⟩:=h;refine kX (pl:=pl) (oj (he E hE ag s σ H (λv H1=>∃a fs S1,v= .ref a∧n9 X.K H1 σW σ∧nB X.K H1 S1∧S1 a=aa (.ins cl fs)∧fs.lookup m=none∧pj X.K H1 S1 QW Q∧c [.ref a] S1 QW λcl' S3=>E cl' σW S3) I
    ⟨σW,S,_,hσ,hS,h0,λw S1 v H1 e1 r1 d5 h1=>by
      split at h1
      · obtain⟨fs,ea,hl,h1⟩:=ye h1;cases r1;exact⟨_,fs,S1,rfl,hσ.ext e1,d5,ea,hl,hQ.from e1,h1⟩
      · exact h1.elim⟩) λu s1 zz=>oJ zz λv H1 I1 rv zy=>MK zy λa fs S1 ev hσ1 d5 ea hl hQ1 h1=>?_) ht
  subst ev;obtain rfl:u=bj a:=rv;obtain⟨C',dx,ps',hn',eh,rp⟩:=d5 a _ ea;rw[hn]at hn';cases hn';refine Ko I1 eh cC hm ((sE.look rp m).2 hl) ?_;exact PySem.W.callWith_K0 (first:=[.ref a]) I1.kIn hm.kp (F_ (us:=[.ref a]) (vs:=[.ref a]) (ws:=[.ref a]) F hr hb hE I1 (.cons rfl .nil) (.cons (.ref a) .nil) hσ1 d5 h1 hQ1)
def X0 (hn:aX X.K aO cl=aa (aa (.ref C))) (M:Mk X.K C f)
  (F:pe X.prog X.w X.K X.mg X.base (rW X.prog X.w) k f fd ps (rJ X.K c)) (hr:oK (k+1) X.A) (hb:pf X.K fd ps []) (hE:pK X E) (I:nA X ag σ H s) (r:nE vs us) (rs:mE X.K H ws vs) (hσ:n9 X.K H σW σ) (hS:nB X.K H S)
  (h:∀a,S a=none→c (.ref a::ws) (bz S a (.ins cl [])) (λw S'=>w= .bR∧QW (.ref a) S') λcl S'=>E cl σW S') (hQ:pj X.K H S QW Q):ax (aC X.prog X.w) X.A (call (.ref C) us) (EP X ag σ Q) X.xe s:=by
 have fx:H (s.heap.objs.size+1)=none:=I.b6.fresh (Nat.le_succ _);have fd0:H s.heap.objs.size=none:=I.b6.fresh (aE _);have nx:s.heap.objs.size+1≠s.heap.objs.size:=lE _;have hq:=h (s.heap.objs.size+1) (hS.free fx);have I2:=nA.made (C:=C) I;have x1:oA H S (nY H s.heap.objs.size (.own (s.heap.objs.size+1))) S:= .new fd0;have fx1:nY H s.heap.objs.size (.own (s.heap.objs.size+1)) (s.heap.objs.size+1)=none:=by rw[oV nx];exact fx
 have x2:oA (nY H s.heap.objs.size (.own (s.heap.objs.size+1))) S (nY (nY H s.heap.objs.size (.own (s.heap.objs.size+1))) (s.heap.objs.size+1) (.ins C s.heap.objs.size [])) (bz S (s.heap.objs.size+1) (.ins cl [])):= .newS fx1;have xx:=x1.trans x2;have hS2:nB X.K (nY (nY H s.heap.objs.size (.own (s.heap.objs.size+1))) (s.heap.objs.size+1) (.ins C s.heap.objs.size [])) (bz S (s.heap.objs.size+1) (.ins cl [])):=λb o q=>by
  by_cases hb:b=s.heap.objs.size+1
  ·subst hb;rw[nJ]at q;cases q;exact⟨C,s.heap.objs.size,[],hn,pY, .nil⟩
  ·rw[oQ hb]at q;exact(nB.new (nB.new hS fd0) fx1) b o q
 have hσ2:=hσ.ext xx;have rs2:mE X.K _ (.ref (s.heap.objs.size+1)::ws) (.ref (s.heap.objs.size+1)::vs):= .cons (.ref _) (rs.ext xx);have r2:nE (V.ref (s.heap.objs.size+1)::vs) (bj (s.heap.objs.size+1)::us):= .cons rfl r;have hQ2:=hQ.from xx;have e0:=I2.env0;generalize hH2:nY (nY H s.heap.objs.size (.own (s.heap.objs.size+1))) (s.heap.objs.size+1) (.ins C s.heap.objs.size [])=H2 at *;generalize hS2':bz S (s.heap.objs.size+1) (.ins cl [])=S2 at *;have sp:rJ X.K c (V.ref (s.heap.objs.size+1)::vs) (unt H2 S2) (λv H'=>∃w S',oz X.K H' w v∧nB X.K H' S'∧w= .bR∧QW (.ref (s.heap.objs.size+1)) S') (λcv _ H'=>∃cl C S',cv= .ref C∧aX X.K aO cl=aa (aa (.ref C))∧nB X.K H' S'∧E cl σW S'):=
  ⟨_,S2,_,_,mE.mv wD wN rs2,hS2.unt,hq,λw S' v H' _ r1 r2 q=>⟨w,S',r1,r2,q⟩,λcl C S' H' hn hS' q=>⟨cl,C,S',rfl,hn,hS',q⟩⟩
 have e1:rB X.prog X.w X.K X.mg X.base X.A X.stack _ (unt H2 S2):=⟨e0.frames,e0.mod,λb o e=>⟨(e0.bs b o e).1,uS (e0.bs b o e).2⟩,e0.bsz,e0.funs,λb hb=>uS (e0.frf b hb),e0.b6.unt,e0.bare⟩;have hl:(bj (s.heap.objs.size+1)::us).length=ps.length:=by rw[←r2.length];exact F.len _ _ _ _ sp
 have hb':=hb _ (bj (s.heap.objs.size+1)::us) I2.kIn (by rw[bC];exact hl);rw[bC]at hb';refine wpAny_call (zvr (f:=f) I.kIn M.makes M.init (beq_iff_eq.mp M.fn) (iD (F.run _ X.stack _ (unt H2 S2) ⟨bj (s.heap.objs.size+1)::us,[]⟩ (bj (s.heap.objs.size+1)::us) _ _ _ (hr.make C us []) (e1.make C us []) hb' r2 sp) λrr s' hq'=>?_));cases rr with
 |error e=>
  obtain⟨a,C',H',rfl,os,bare,un,ok',fly,cl',C'',S',ec,hn',hS',q⟩:=hq';cases ec;refine hE.far ag σ H2 _ σW cl' C' a (qW H2 S2 H') S' s' I2 hσ2 hn' os bare (zb un I2.b6) (Dh un I2.b6 ok' e0.frf) ?_ (D8 un I2.b6 hS') q;obtain⟨g1,g2,oe,vs',T,oT,ts,a1,a2,a3,a4,a5,a6,a7⟩:=fly;have free:∀{b:aj},aH.get? _ b=none→H' b=none→qW H2 S2 H' b=none:=λ{b} q1 q2=>by
   have hn:H2 b=none:=by
    cases z:H2 b with
    |none=>rfl
    |some u=>obtain⟨ob,eo⟩:=(I2.b6 b u z).ex;rw[q1]at eo;cases eo
   unfold qW;rw[uS hn,hn];exact q2
  exact⟨g1,free g1 g2,oe,vs',T,oT,ts,a1,a2,a3,a4,a5,free a5 a6,a7⟩
 |ok fl=>
  cases fl with
  |ret u=>
   obtain⟨v,H',os,bare,un,ok',rv,w,S',r1,r2',ew,q⟩:=hq';subst ew;cases r1;exact⟨rv,⟨.ref (s.heap.objs.size+1),qW H2 S2 H',I2.call' os (zb un I2.b6) (Dh un I2.b6 ok' e0.frf) bare (λ_ z=>nomatch z),rfl,hQ2 _ S' _ _ (Gg un I2.b6 r2') (.ref _) (D8 un I2.b6 r2') q⟩⟩
  |next=>exact cp hq'
  |brk=>exact cp hq'
  |cont=>exact cp hq'
def SF (hn:aX X.K aO x=aa (aa (.ref C))) (M:Mk X.K C f) (F:pe X.prog X.w X.K X.mg X.base (rW X.prog X.w) k f fd ps (rJ X.K c)) (hr:oK (k+1) X.A) (hg:Gl X x) (hm:X.mg x=aa (.ref C)) (hb:pf X.K fd ps [])
  (ha:JA X (e::es) t) (hdb:(x == ("__debug__" :ah))=false) (he:ay (e::es) X.env=(false,aA e X.env)::ay es X.env) (hpl:(aR pos (ay es X.env)).any (·.1)=false) :
  JE X (.Call (.Name x p) (e::es) [] pos) (DF x c t):=λE hE ag s σ H Q I h=>by
 obtain⟨σW,S,QW,hσ,hS,ht,hQ⟩:=h;refine fV (Cp I hg hm ?_ hdb);refine jF (h₀:=X.base) I.ok.mod.kin M.kp (oj (ha E hE pos ag s σ H (λvs H1=>∃ws S1,mE X.K H1 ws vs∧n9 X.K H1 σW σ∧nB X.K H1 S1∧(∀a,S1 a=none→c (.ref a::ws) (bz S1 a (.ins x [])) (λw S'=>w= .bR∧QW (.ref a) S') λcl S'=>E cl σW S')∧pj X.K H1 S1 QW Q) I
  ⟨σW,S,_,hσ,hS,ht,λws S1 vs H1 e1 r1 d5 h1=>⟨ws,S1,r1,hσ.ext e1,d5,h1,hQ.from e1⟩⟩) λus s1 zz=>oJ zz λvs H1 I1 r zy=>Gs zy λws S1 r1 hσ1 d5 h1 hQ1=>⟨I1.kIn,?_⟩) he hpl
 exact X0 hn M F hr hb hE I1 r r1 hσ1 d5 h1 hQ1
def NU:(tY cl f ta E σ S Q)=(ta E σ S λx S1=>match x with
 | .ref a=>sD S1 cl a λfs=>match fs.lookup f with
  |some w=>Q w S1
  |none=>False
 |_=>False):=pz id id
def Oa:(yq cl f ta tv E D σ S)=(tv E σ S λv S1=>ta E σ S1 λx S2=>match x with
 | .ref a=>sD S2 cl a λfs=>fs.length<1000∧D.nx σ (bz S2 a (.ins cl (qB f v fs)))
 |_=>False):=pz id id
def MZ:(za cl f ta tv E D σ S)=(ta E σ S λx S1=>match x with
 | .ref a=>sD S1 cl a λfs=>match fs.lookup f with
  |some (.int i)=>tv E σ S1 λy S2=>match y with
   | .int j=>sD S2 cl a λfs'=>fs'.length<1000∧D.nx σ (bz S2 a (.ins cl (qB f (.int (i+j)) fs')))
   |_=>False
  |_=>False
 |_=>False):=pz id id
def PR:(tT cl f c ta t E σ S Q)=(ta E σ S λx S1=>match x with
 | .ref a=>sD S1 cl a λfs=>fs.lookup f=none∧t E σ S1 λws S2=>c (.ref a::ws) S2 Q λcl' S3=>E cl' σ S3
 |_=>False):=pz id id
def NM:(DF cl c t E σ S Q)=(t E σ S λws S1=>∀a,S1 a=none→c (.ref a::ws) (bz S1 a (.ins cl [])) (λw S2=>w= .bR∧Q (.ref a) S2) λcl' S3=>E cl' σ S3):=pz id id
def Pb:V→List V→Hp→VK→Prop:=λx vs H Q=>∃z y:ah,x= .str z∧vs=[.str y]∧(y.length == 0)=false∧z.length≤100000∧ ∀l,H l=none→Q (.ref l) (nY H l (.bH [.str (bP z y).1, .str (bP z y).2.1, .str (bP z y).2.2]))
def zkJ:tZ X "str.partition" Pb:=by
 intro ag s σ H x vs v us Q I rx rv h;obtain⟨z,y,rfl,rfl,hy,hz,q⟩:=h;obtain⟨t,rfl⟩:=rx;obtain⟨u,rfl,ru⟩:=tJ rv;obtain⟨t',rfl⟩:=ru;refine ef mh (show s.TypeIs (eE z t) "str" from by first |rfl |trivial |exact⟨⟩) PySem.F.entry_str_partition (PySem.F.args_str_partition_2 _ _) (meets_str_partition z y t t' hy (bI hz `d)) ?_
 have hT:∀(c6:List ai) (k:Nat),nE [.str (bP z y).1, .str (bP z y).2.1, .str (bP z y).2.2] c6→EP X ag σ Q (bj s.heap.objs.size) { s with heap:=s.heap.push { cls:= .type "tuple",data:= .seq c6.toArray },toks:=k }:=λc6 k r=>by
  have I2:nA X ag σ (nY H s.heap.objs.size (.bH [.str (bP z y).1, .str (bP z y).2.1, .str (bP z y).2.2])) { s with heap:=s.heap.push { cls:= .type "tuple",data:= .seq c6.toArray },toks:=k }:=
   I.laid (t':=k) (λb o e=>aN _ e) (aE _) (show nZ X.prog X.w _ _ _ (.bH _) from⟨(by show 3≤sizeLine;decide),c6,r,iE _ _⟩)
  exact⟨.ref s.heap.objs.size,_,I2,rfl,q _ (I.b6.fresh (aE _))⟩
 show EP X ag σ Q (bj s.heap.objs.size) _;cases e:cW z y 0 z.length 1 with
 |nil=>
  have e2:bP z y=(z,ah.empty,ah.empty):=by unfold bP;rw[e]
  exact hT [.str z t, .str ah.empty s.toks, .str ah.empty s.toks] _ (by rw[e2];exact .cons ⟨_,rfl⟩ (.cons ⟨_,rfl⟩ (.cons ⟨_,rfl⟩ .nil)))
 |cons i is=>
  have e2:bP z y=(iY z 0 i,y,iY z (i+y.length) z.length):=by unfold bP;rw[e]
  exact hT [.str _ s.toks, .str y t', .str _ (s.toks+1)] _ (by rw[e2];exact .cons ⟨_,rfl⟩ (.cons ⟨_,rfl⟩ (.cons ⟨_,rfl⟩ .nil)))
def xS:sy:=λw ws S Q=>match w,ws with
 | .str z,[.str y]=>(y.length == 0)=false∧z.length≤100000∧Q (.bH [.str (bP z y).1, .str (bP z y).2.1, .str (bP z y).2.2]) S
 |_,_=>False
def XY{K:am}:xI K Pb xS:=λH x w vs ws S Q QW r rs hS h hQ=>by
 unfold xS at h;split at h
 ·rename_i z y;cases r;cases rs with
  |cons r1 rs=>
   cases rs;cases r1;refine⟨z,y,rfl,rfl,h.1,h.2.1,λl hl=>?_⟩;have x:oA H S (nY H l (.bH [.str (bP z y).1, .str (bP z y).2.1, .str (bP z y).2.2])) S:= .new hl;exact hQ _ S _ _ x (.bH pY (.cons (.str _) (.cons (.str _) (.cons (.str _) .nil)))) (hS.new hl) h.2.2
 ·exact h.elim
def Yz (ho:JE X o to) (ha:JA X (e::es) t) (hbase:ci o "partition" X.env (aA o X.env)=aA o X.env) (hfew:((aR cpos (ay (e::es) X.env)).all (λx=> !x.1)&&(cM cpos (cN [] X.env)).all (λx=>x.1.isSome)
   &&decide ((e::es).length+([]:List b9).length+(if([]:List b9).isEmpty then 0 else 1)<30))=true) (hline:(apos.endLine == cpos.line)=true) (hs:ay (e::es) X.env=(false,aA e X.env)::ay es X.env) (hplain:(aR cpos (ay es X.env)).any (·.1)=false) :
  JE X (.Call (.Attribute o "partition" apos) (e::es) [] cpos) (wM tF xS to t):=EU kA mh PySem.F.type_str_partition FD zkJ XY ho ha hbase hfew hline hs hplain
def X9:oB X (.type "int") (λxs H Q=>∃(x:ah) (n:Int),xs=[.str x]∧fj x=aa n∧x.length≤640∧Q (.int n) H):=by
 intro ag s σ H xs us Q I r h;obtain⟨x,n,rfl,e,hl,q⟩:=h;obtain⟨u,rfl,ru⟩:=tJ r;obtain⟨t,rfl⟩:=ru;exact PySem.W.KIN.call_text e hl ⟨.int n,H,I.tok _,⟨_,rfl⟩,q⟩
def yB:WF:=λws S Q=>match ws with
 | [.str x]=>match fj x with
  |some n=>x.length≤640∧Q (.int n) S
  |none=>False
 |_=>False
def zqD{K:am}:vT K (λxs H Q=>∃(x:ah) (n:Int),xs=[.str x]∧fj x=aa n∧x.length≤640∧Q (.int n) H) yB:=λH vs ws S Q QW r hS h hQ=>by
 unfold yB at h;split at h
 ·rename_i x;cases r with
  |cons r1 r2=>
   cases r2;cases r1;split at h
   ·rename_i n e;exact⟨x,n,rfl,e,h.1,hQ _ S _ H .refl (.int _) hS h.2⟩
   ·exact h.elim
 ·exact h.elim
def Uk (hg:Gl X "int") (hm:X.mg "int" =none) (ha:JA X (e::es) t)
  (he:ay (e::es) X.env=(false,aA e X.env)::ay es X.env) (hpl:(aR pos (ay es X.env)).any (·.1)=false):JE X (.Call (.Name "int" p) (e::es) [] pos) (wB yB t):=
 B2 X9 zqD hg hm lA ha `d `d he hpl
def Pz (hy:(y.length == 0)=false) (hz:z.length≤100000):(xS (.str z) [.str y] S Q)=Q (.bH [.str (bP z y).1, .str (bP z y).2.1, .str (bP z y).2.2]) S:=propext ⟨λh=>h.2.2,λh=>⟨hy,hz,h⟩⟩
def UO (h:fj z=aa n) (hl:z.length≤640):(yB [.str z] S Q)=Q (.int n) S:=by
 show(match fj z with
  |some n=>z.length≤640∧Q (.int n) S
  |none=>False)=_
 rw[h];exact propext ⟨λh=>h.2,λh=>⟨hl,h⟩⟩
def yw:Expr→Bool
 | .Starred .. =>false
 |_=>true
def rD (es:List Expr):Bool:=es.all yw
def xV:Expr→Bool
 | .ListComp .. =>false
 | .SetComp .. =>false
 | .DictComp .. =>false
 |_=>true
def xN:Expr→Bool
 | .Set .. =>false
 |_=>true
noncomputable def rb {α:Type}:List α→Option α
 | []=>none
 |a::r=>bif r.isEmpty then aa a else none
noncomputable def eNm:Expr→Option ah
 | .Name x _=>aa x
 |_=>none
noncomputable def Ba:Expr→Option (ah×List Expr)
 | .Call f es ks _=>(eNm f).bind λx=>bif ks.isEmpty&&es.all yw&& !es.isEmpty then aa (x,es) else none
 |_=>none
noncomputable def CI:Expr→Option (Option Expr×Option Expr)
 | .Slice lo hi st _=>bif st.isNone then aa (lo,hi) else none
 |_=>none
noncomputable def FW:Expr→Option (Expr×Scope×bi×im)
 | .ListComp e gs s p=>(rb gs).bind λg=>if g.is_async=0 then aa (e,s,p,g) else none
 |_=>none
def Cv:Expr→Bool
 | .Slice .. =>false
 |_=>true
def ym:Expr→Bool
 | .Call _ [] _ _=>false
 |_=>true
def qj (h:yw e=true):ay (e::es) env=(false,aA e env)::ay es env:=by
 cases e<;>first |rfl |cases h
def x_ (h:rD es=true):(aR pos (ay es env)).any (·.1)=false:=by
 induction es with
 |nil=>rfl
 |cons e es ih=>
  simp only[rD,iV,bV]at h;rw[qj h.1];exact ih h.2
def B8 (h:xV e=true):dE e tg n env=pure false:=by
 cases e<;>first |rfl |cases h
def Hi (h:xN e=true):gi op e=false:=by
 cases e<;>first |rfl |cases h
def Eb (h:xN e=true) (x:ai):dN e env x=pure x:=by
 cases e<;>first |rfl |cases h
def Ks (h:Cv e=true):B0 e:=λo i=>by
 cases e<;>first |rfl |cases h
def wq (h:ym e=true):ci e m env t=t:=by
 cases e with
 |Call f as ks p=>
  cases as with
  |nil=>cases h
  |cons a as=>cases f<;>rfl
 |_=>rfl
structure Tb where
  fn:ah→Option nD
  gl:ah→Option W
  bl:List ah
  xs:List ah
  ex:List (ah×ah)
  cn:bi→List ah
  dn:ah→Bool
  nt:ah→Bool
  cf:ah→Option ah
  me:ah→Option (ah×nD)
  mi:ah→Option nD
structure Cn where
  N:List ah
  sc:Scope
  fn:Bool
  calm:Bool
structure Rg where
  e:Cn→Expr→WE
  t:Cn→Expr→WT
  l:Cn→Expr→Option WL
  s:Cn→bg→WS
def o5 {α β γ δ:Type}:α→β→γ→δ→Prop:=λ_ _ _ _=>False
def vO (x:ah):List ah→Nat→Option Nat
 | [],_=>none
 |y::r,i=>if x=y then aa i else vO x r (i+1)
theorem M2:∀{N:List ah}{j i:Nat},vO x N j=aa i→j≤i∧N[i - j]? =aa x
 | [],_,_,h=>nomatch h
 |y::r,j,i,h=>by
  unfold vO at h;split at h
  ·cases h;subst x;exact⟨aE _,`s⟩
  ·obtain⟨h1,h2⟩:=M2 h;refine⟨`l,?_⟩;rw[show i - j=(i - (j+1))+1 by lia]
   exact h2
def Cn.vis (c:Cn) (x:ah):Bool:=(match c.sc.names.lookup x with
 |some .local |some .cell |some .free=>true
 |_=>false)&& !(x == ("__debug__" :ah))&& !(x == ("__classdict__" :ah))
def Cn.loc (c:Cn) (x:ah):Bool:=match c.sc.names.lookup x with
 |some .local=>true
 |some .cell=>c.fn
 |_=>false
def Cn.glo (c:Cn) (x:ah):Bool:=(match c.sc.names.lookup x with
 |some .globalImplicit=>true
 |_=>false)&& !(x == ("__debug__" :ah))
def pB {α β γ δ:Type}(b:Bool) (t:α→β→γ→δ→Prop):α→β→γ→δ→Prop:=bif b then t else o5
def iA (f:Expr→WE):List Expr→WA
 | []=>ae
 |e::es=>fX (f e) (iA f es)
def iO (f:Expr→WE) (o:Option Expr):WO:=o.elim py λe=>woS (f e)
def xG (f:bg→WS):List bg→WS
 | []=>oh
 |s::r=>bif r.isEmpty then f s else kj (f s) (xG f r)
def CL (o:BoolOp) (f:Expr→WE):List Expr→WE
 | []=>o5
 |e::r=>bif r.isEmpty then f e else match o with
  | .And=>sP (f e) (CL o f r)
  | .Or=>BJ (f e) (CL o f r)
def CU (o:BoolOp) (f:Expr→WT):List Expr→WT
 | []=>o5
 |e::r=>bif r.isEmpty then f e else match o with
  | .And=>sx (f e) (CU o f r)
  | .Or=>rV (f e) (CU o f r)
def C2 (c:Cn) (x:ah):WG:=(vO x c.N 0).elim o5 λk=>pB (c.loc x) (wGN k)
def DR (c:Cn):List Expr→WGs
 | []=>qh
 |e::r=>(eNm e).elim o5 λx=>oU (C2 c x) (DR c r)
def iG (c:Cn) (e:Expr):WG:=match e with
 | .Name x _=>C2 c x
 | .Tuple es _ _=>pB (rD es&&c.calm) (qx (DR c es))
 |_=>o5
noncomputable def isD (T:Tb) (e:Expr):Bool:=(eNm e).elim false T.dn
noncomputable def Xj (T:Tb):Expr→Bool
 | .Call f _ _ _=>(eNm f).elim false T.nt
 |_=>false
def As:Expr→Bool
 | .Tuple .. =>true
 |_=>false
def Fy:Expr→Bool
 | .Compare .. =>false
 | .UnaryOp o _ _=>decide (o≠ .Not)
 | .BoolOp .. =>false
 | .IfExp .. =>false
 |_=>true
noncomputable def R6 (es:List Expr):Bool:=(rb es).elim false fun
 | .Subscript _ b _=>(CI b).isSome
 |_=>false
noncomputable def iK:Const→Option W
 | .int n=>aa (.int n)
 | .bool b=>aa (.bl b)
 | .none=>aa .bR
 | .str x=>aa (.str x)
 |_=>none
noncomputable def Oj:ke→Option W2
 | .Add=>aa oX
 | .Sub=>aa (rK λi j=> .int (i - j))
 | .Mult=>aa (oZ qO λi j=> .int (i*j))
 | .FloorDiv=>aa (oZ sF λi j=> .int (i / j))
 | .Mod=>aa (oZ (λ_ j=>0<j) λi j=> .int (i % j))
 | .Pow=>aa (oZ zE λi j=> .int (i ^ j.toNat))
 |_=>none
noncomputable def NP (d:Bool):CmpOp→Option W2
 | .Eq=>aa (o4 false)
 | .NotEq=>aa (o4 true)
 | .Lt=>aa yK
 | .LtE=>aa rZ
 | .Gt=>aa sZ
 | .GtE=>aa IN
 | .Is=>aa (p6 false)
 | .IsNot=>aa (p6 true)
 | .In=>aa (if d then yA false else ud false)
 | .NotIn=>aa (if d then yA true else ud true)
noncomputable def bA:List (ah×WF):=[("len",pq),("tuple",sM),("int",vY),("min",vc),("str",zx)]
noncomputable def bL:List (ah×WF):=[("tuple",xC),("all",tR),("sum",wX),("dict",xm)]
noncomputable def mA:List (ah×(W→gY→Prop)×sy):=[("append",qq,rO),("extend",qq,xr),("partition",tF,xS)]
noncomputable def mL:List (ah×(W→gY→Prop)×sy):=[("join",tF,xn)]
noncomputable def m0:List (ah×(W→gY→Prop)×sy):=[("upper",tF,zH),("pop",qq,B')]
noncomputable def ND:List (ah×String):=[("int", "int"),("bool", "bool"),("str", "str"),("tuple", "tuple"),("list", "list")]
section
variable (T:Tb) (i:Rg) (c:Cn)
noncomputable def CN:Expr→Option WL
 | .Subscript a b _=>(CI b).map λq=>ww (i.e c a) (iO (i.e c) q.1) (iO (i.e c) q.2)
 |_=>none
def BW (a:Expr) (os:List CmpOp) (bs:List Expr):WE:=(rb os).elim (match bs with
 | []=>o5
 |b::r=>(rb r).elim o5 λd=>pB (decide (os=[.LtE, .LtE])&&xN d) (uD rZ rZ (i.e c a) (i.e c b) (i.e c d))) λo=>(rb bs).elim o5 λb=>(NP (isD T b) o).elim o5 λw=>pB (xN b&&c.calm) (wOp w (i.e c a) (i.e c b))
noncomputable def O1 (x:ah) (es:List Expr):Option WL:=(rb es).bind λa=>(i.l c a).elim (bif decide (x= "tuple") then CN i c a else none) aa
def NA:List Expr→WE
 | []=>o5
 |a::r=>((rb r).bind eNm).elim o5 λt=>(ND.lookup t).elim o5 λs=>pB (c.glo t&&T.bl.contains t) (rg s (i.e c a))
def iB (x:ah) (es:List Expr):WE:=bif decide (x= "isinstance") then NA T i c es else bif decide (x= "int")&&R6 es then wB yB (iA (i.e c) es) else((O1 i c x es).bind λl=>(bL.lookup x).map λf=>rN f l).elim ((bA.lookup x).elim o5 λf=>pB (!es.isEmpty) (wB f (iA (i.e c) es))) id
def iM (m:ah) (o:Expr):List Expr→WE
 | []=>(m0.lookup m).elim o5 λq=>wM q.1 q.2 (i.e c o) ae
 |a::r=>pB r.isEmpty (((i.l c a).bind λl=>(mL.lookup m).map λq=>wS q.1 q.2 (i.e c o) l).elim ((mA.lookup m).elim o5 λq=>wM q.1 q.2 (i.e c o) (iA (i.e c) [a])) id)
def JQ (f:Expr) (es:List Expr) (p:bi):WE:=match f with
 | .Name x _=>pB (c.glo x&&rD es&&c.calm) ((T.fn x).elim ((T.mi x).elim (pB (T.bl.contains x) (iB T i c x es)) λs=>pB (!es.isEmpty) (DF x s (iA (i.e c) es))) λs=>pB (!es.isEmpty) (nF s (iA (i.e c) es)))
 | .Attribute o m ap=>(T.me m).elim (pB (ym o&&rD es&&(ap.endLine == p.line)) (iM i c m o es)) λq=>pB (ym o&&rD es&&(ap.endLine == p.line)&&decide (es.length<20)&&c.calm) (tT q.1 m q.2 (i.e c o) (iA (i.e c) es))
 |_=>o5
def IG (e:Expr):WE:=(i.l c e).elim (match e with
  | .Name x _=>(vO x c.N 0).elim ((T.gl x).elim o5 λw=>pB (c.glo x) (wC w)) λk=>pB (c.vis x) (eQ k)
  | .Constant v _ _=>(iK v).elim o5 wC
  | .UnaryOp o a _=>(match o with
   | .Not=>bif Xj T a then HZ (i.e c a) else NC (i.e c a)
   | .USub=>sk (i.e c a)
   |_=>o5)
  | .BinOp a o b _=>(Oj o).elim o5 λw=>wOp w (i.e c a) (i.e c b)
  | .Compare a os bs _=>BW T i c a os bs
  | .BoolOp o es _=>CL o (i.e c) es
  | .IfExp t a b _=>A8 (i.t c t) (i.e c a) (i.e c b)
  | .Tuple es _ _=>pB (rD es) (nS (iA (i.e c) es))
  | .Subscript a b _=>(CI b).elim (pB (Cv b) ((i.l c a).elim (wOp nC (i.e c a) (i.e c b)) λl=>vL l (i.e c b))) λq=>pD (i.e c a) (iO (i.e c) q.1) (iO (i.e c) q.2)
  | .Call f es ks p=>pB ks.isEmpty (JQ T i c f es p)
  | .Attribute o f _=>(T.cf f).elim o5 λl=>pB (ym o) (tY l f (i.e c o))
  |_=>o5) ox
def Qb (e:Expr):WT:=match e with
 | .Compare a os bs _=>(rb os).elim o5 λ_=>oo (BW T i c a os bs)
 | .UnaryOp o a _=>bif decide (o= .Not) then qF (i.t c a) else pB (Fy e) (oY (i.e c e))
 | .BoolOp o es _=>CU o (i.t c) es
 |e=>pB (Fy e) (oY (i.e c e))
noncomputable def PQ (tg:Expr) (x:ah) (es:List Expr):Option WI:=bif decide (x= "range") then(rb es).map λa=>ux (iA (i.e c) [a]) else bif decide (x= "enumerate")&&As tg then(rb es).map λa=>vv (i.e c a) else bif decide (x= "zip")&&As tg then(match es with
 | []=>none
 |a::r=>(rb r).map λb=>t_ (i.e c a) (i.e c b)) else none
def iI (tg e:Expr):WI:=((Ba e).bind λq=>bif c.glo q.1&&T.bl.contains q.1 then PQ i c tg q.1 q.2 else none).elim ((i.l c e).elim (px (i.e c e)) O3) id
noncomputable def Ez (s:Scope) (c:Cn):Scope:={ s with names:=s.names.map λ(n,k)=>if(k == .free&&c.sc.kind == .function&&c.sc.names.lookup n == aa .cell) then(n, .cell) else(n,k) }
def Fw (s:Scope) (N:List ah) (k:Nat) (fr:List Nat):Bool:=decide (s.kind= .function)&&decide N.Nodup&&decide (N.length=k+fr.length)&&(s.names.all λy=>y.2 != cx)
 &&(s.names.all λy=>y.2 != ce.local || s.names.lookup y.1 == aa ce.local)&&(s.names.all λy=>y.2 != bb || c.sc.names.lookup y.1 == aa cx || c.sc.names.lookup y.1 == aa bb)
 &&((N.drop k).all λx=>s.names.lookup x == aa bb)&&decide (N.drop k=fr.map λj=>c.N.getD j ah.empty)&&(fr.all λj=>decide (j<c.N.length))
def iC (q:Expr×Scope×bi×im):WL:=
 let N:=T.cn q.2.2.1
 let fr:=(N.filter λx=>q.2.1.names.lookup x == aa bb).filterMap λx=>vO x c.N 0
 let d:Cn:=⟨N,Ez q.2.1 c,false,true⟩
 pB (Fw c q.2.1 N (N.length - fr.length) fr&&xN q.2.2.2.iter&&c.calm) (pT (N.length - fr.length) fr (iI T i c q.2.2.2.target q.2.2.2.iter) (iG d q.2.2.2.target) (match q.2.2.2.ifs with
  | []=>pP
  |t::r=>pB r.isEmpty (i.t d t)) (i.e d q.1))
noncomputable def Ld (e:Expr):Option WL:=match e with
 | .List es _=>bif rD es then aa (oI (iA (i.e c) es)) else none
 | .ListComp .. =>(FW e).map (iC T i c)
 | .BinOp a o b _=>(match o with
  | .Mult=>(i.l c a).map λl=>yU l (i.e c b)
  | .Add=>(i.l c a).elim ((i.l c b).map λm=>(CN i c a).elim (tf (i.e c a) m) λl=>ve l m) λl=>aa (((i.l c b).elim (CN i c b) aa).elim (zl l (i.e c b)) λm=>ve l m)
  |_=>none)
 | .Call .. =>(Ba e).bind λq=>bif decide (q.1= "list")&&c.glo q.1&&T.bl.contains q.1 then(rb q.2).map λa=>((Ba a).bind λz=>bif decide (z.1= "range")&&c.glo z.1&&T.bl.contains z.1&&c.calm then rb z.2 else none).elim (yj (i.e c a)) λb=>zS (i.e c b) else none
 |_=>none
def Ij (tg e:Expr):WS:=match tg with
 | .Name x _=>(vO x c.N 0).elim o5 λk=>pB (c.loc x) ((FW e).elim (pB (xV e) (jj (i.e c e) (wGN k))) λq=>jj (ox (iC T i c q)) (wGN k))
 | .Tuple .. =>pB (xV e&& !As e) (jj (i.e c e) (iG c tg))
 | .Subscript a b _=>pB (xV e&&Cv b) (jj (i.e c e) (zU (i.e c a) (i.e c b)))
 | .Attribute o f _=>(T.cf f).elim o5 λl=>pB (xV e) (yq l f (i.e c o) (i.e c e))
 |_=>o5
def iFA (t e:Expr):WS:=match t with
 | .Attribute o f _=>(T.cf f).elim o5 λl=>za l f (i.e c o) (i.e c e)
 |_=>o5
def M' (s:bg):WS:=match s with
 | .Return v _=>v.elim KN λe=>nM (i.e c e)
 | .Pass _=>oh
 | .Expr e _=>pB (xV e) (pX (i.e c e))
 | .If t a b _=>og (i.t c t) (xG (i.s c) a) (xG (i.s c) b)
 | .While t b os _=>pB os.isEmpty (xy (i.t c t) (xG (i.s c) b))
 | .For tg it b os _=>pB (os.isEmpty&&xN it&&c.calm) (pR (iI T i c tg it) (iG c tg) (xG (i.s c) b))
 | .AugAssign t o e _=>pB (decide (o= .Add)) ((eNm t).elim (iFA T i c t e) λx=>(vO x c.N 0).elim o5 λk=>pB (c.loc x) (vZ k (λa b=>a+b) (i.e c e)))
 | .Assign ts e _=>(rb ts).elim o5 λtg=>Ij T i c tg e
 | .Raise v cs _=>(v.bind Ba).elim o5 λq=>pB (cs.isNone&&T.xs.contains q.1&&c.glo q.1&&c.calm) (rk q.1 (iA (i.e c) q.2))
 |_=>o5
end
noncomputable def Ze (T:Tb) (i:Rg):Rg:=⟨IG T i,Qb T i,Ld T i,M' T i⟩
noncomputable def noI:Rg:=⟨λ_ _=>o5,λ_ _=>o5,λ_ _=>none,λ_ _=>o5⟩
noncomputable def Gk (T:Tb):Nat→Rg
 |0=>noI
 |n+1=>Ze T (Gk T n)
def Qs (T:Tb) (n k:Nat) (N:List ah) (st:bg):nD:=on n k (xG ((Gk T 40).s ⟨N,qQ st,true,true⟩) (uE st))
structure En where
  eNm:ah
  st:bg
  N:List ah
  k:Nat
  c:Nat→nD
noncomputable def En.ps (e:En):List ah:=e.N.take e.k
noncomputable def En.ok (e:En):Bool:=decide ((qQ e.st).kind= .function)&& !(qQ e.st).isCoroutine&& !(qQ e.st).isGenerator&&decide e.N.Nodup&&decide (e.N.take e.ps.length=e.ps)&&decide (e.ps.length=e.k)&&decide (e.k≤6)
 &&(e.ps.all λx=>decide ((qQ e.st).names.lookup x=aa .local) || decide ((qQ e.st).names.lookup x=aa .cell))&&(qQ e.st).names.all λy=>y.2 != .free
noncomputable def En.bq (e:En) (q:ah) (kV doc pm:ai) (an:Option aj) (cdv ct:ai) (vs:List ai):cq (List (ah×ai)):=kg (dC e.eNm q (xB e.st) (uE e.st) (qQ e.st) .none kV doc pm an cdv ct) ⟨vs.take e.k,[]⟩
noncomputable def En.bd (e:En):ai→ai→ai→Option aj→ai→ai→List ai→cq (List (ah×ai)):=e.bq e.eNm
def En.rd (e:En) (T:Tb):nD:=Qs T e.N.length e.k e.N e.st
structure Em where
  l:ah
  q:ah
  e:En
noncomputable def xv (mt:List Em) (r:Nat) (x:ah):Option (ah×nD):=(mt.map λy=>(y.e.eNm,y.l,y.e.c r)).lookup x
noncomputable def CF (mt:List Em) (r:Nat) (x:ah):Option nD:=((mt.filter λy=>y.e.eNm == ("__init__" :ah)).map λy=>(y.l,y.e.c r)).lookup x
noncomputable def lkT (tab:List En) (r:Nat) (x:ah):Option nD:=(tab.map λe=>(e.eNm,e.c r)).lookup x
structure Glb (T:Tb) (r:Nat) (X:Cx):Prop where
  fn:∀x s,T.fn x=aa s→ ∃f fd ps,pe X.prog X.w X.K X.mg X.base (rW X.prog X.w) r f fd ps (rJ X.K s)∧X.mg x=aa (.ref f)∧cX X.K (.ref f)=true∧pf X.K fd ps []
  gl:∀x w,T.gl x=aa w→(∃i u,w= .int i∧X.mg x=aa (.int i u))∨ ∃i u,w= .str i∧X.mg x=aa (.str i u)
  bl:∀x∈T.bl,X.mg x=none
  xs:∀x∈T.xs,∃C,r_ X.K x C∧X.mg x=aa (.ref C)
  ex:∀p∈T.ex,∃C D,r_ X.K p.1 C∧X.mg p.2=aa (.ref D)∧iW X.K (.ref C) (.ref D)=aa true
  cf:∀f l,T.cf f=aa l→ ∃C,aX X.K aO l=aa (aa (.ref C))∧rM X.K C∧oW X.K C f
  me:∀m q,T.me m=aa q→ ∃C f fd ps,aX X.K aO q.1=aa (aa (.ref C))∧rM X.K C∧vB X.K C m f∧pe X.prog X.w X.K X.mg X.base (rW X.prog X.w) r f fd ps (rJ X.K q.2)∧pf X.K fd ps []
  mi:∀x s,T.mi x=aa s→ ∃C f fd ps k,k+1≤r∧aX X.K aO x=aa (aa (.ref C))∧X.mg x=aa (.ref C)∧Mk X.K C f∧pe X.prog X.w X.K X.mg X.base (rW X.prog X.w) k f fd ps (rJ X.K s)∧pf X.K fd ps []
structure o6 (T:Tb) (r:Nat) (X:Cx) (c:Cn):Prop where
  g:Glb T r X
  N:X.N=c.N
  sc:X.env.scope=c.sc
  nd:c.N.Nodup
  fn:X.fn=λ_=>c.fn
  hr:c.calm=true→oK r X.A
  calm:X.calm=c.calm
  st:c.fn=true→X.stack=X.env::X.outer∧X.env.frame=aa X.env.locals
structure Rg.Ok (T:Tb) (r:Nat) (i:Rg):Prop where
  e:∀{X c e},o6 T r X c→JE X e (i.e c e)
  t:∀{X c e},o6 T r X c→JT X e (i.t c e)
  l:∀{X c e l},o6 T r X c→i.l c e=aa l→JL X e l
  s:∀{X c s},o6 T r X c→JS X s (i.s c s)
section
variable {T:Tb}{r:Nat}{X:Cx}{c:Cn}{i:Rg}{e a b:Expr}{es:List Expr}{x:ah}{pos p:bi}{k:Nat}
def tB:JE X e o5:=λ_ _ _ _ _ _ _ _ zz=>oF zz λ_ _ _ _ _ h _=>h.elim
def E5:JT X e o5:=λ_ _ _ _ _ _ _ _ zz=>oF zz λ_ _ _ _ _ h _=>h.elim
def ZL:JL X e o5:=λ_ _ _ _ _ _ _ _ zz=>oF zz λ_ _ _ _ _ h _=>h.elim
def DG:JG X e o5:=λ_ _ _ _ _ _ _ _ _ _ _ zz=>A6 zz λ_ _ _ _ _ _ _ h _=>h.elim
def yQ:JS X s o5:=Q_
def Tw:wa X es o5:=λ_ _ _ _ _ _ _ _ zz=>oF zz λ_ _ _ _ _ h _=>h.elim
def o6.at_ (F:o6 T r X c) (h:vO x c.N 0=aa k):X.N[k]? =aa x:=by rw[F.N];exact(M2 h).2
def o6.ndX (F:o6 T r X c):X.N.Nodup:=by rw[F.N];exact F.nd
def o6.vis (F:o6 T r X c) (h:c.vis x=true):xT X.env.scope x∧(x == ("__debug__" :ah))=false∧(x == ("__classdict__" :ah))=false:=by
 unfold Cn.vis at h;rw[bV,bV,eZ,eZ]at h;obtain⟨⟨h1,h2⟩,h3⟩:=h;refine⟨?_,h2,h3⟩;rw[F.sc];split at h1
 ·exact .inl ‹_›
 ·exact .inr (.inl ‹_›)
 ·exact .inr (.inr ‹_›)
 ·cases h1
def o6.loc (F:o6 T r X c) (h:c.loc x=true):uk X.env.scope x∧(X.fn x=true∨X.env.scope.names.lookup x=aa .local):=by
 unfold Cn.loc at h;rw[F.sc,F.fn];split at h
 ·exact⟨.inl ‹_›, .inr ‹_›⟩
 ·exact⟨.inr ‹_›, .inl h⟩
 ·cases h
def o6.glo (F:o6 T r X c) (h:c.glo x=true):Gl X x∧(x == ("__debug__" :ah))=false:=by
 unfold Cn.glo at h;rw[bV,eZ]at h;refine⟨?_,h.2⟩;unfold Gl bM.kindOf;rw[F.sc];have h1:=h.1;split at h1
 ·assumption
 ·cases h1
def o6.blt (F:o6 T r X c) (h:T.bl.contains x=true):X.mg x=none:=F.g.bl x (ny.mp h)
def qA (h:rD (e::es)=true):yw e=true∧rD es=true:=by
 simpa [rD]using h
section
variable {α β γ δ:Type}{b:Bool}
def uL{t:α→β→γ→δ→Prop}{P:(α→β→γ→δ→Prop)→Prop}(h0:P o5) (h:b=true→P t):P (pB b t):=by
 cases b with
 |true=>exact h rfl
 |false=>exact h0
def qe{f:α→β}{P:β→Prop}(h0:o=none→P d) (h:∀a,o=aa a→P (f a)):P (o.elim d f):=by
 cases o with
 |none=>exact h0 rfl
 |some a=>exact h a rfl
def xj{P:α→Prop}(h0:b=false→P u) (h:b=true→P t):P (bif b then t else u):=by
 cases b with
 |true=>exact h rfl
 |false=>exact h0 rfl
def u_{t:Option α}{a:α}(h:(bif b then t else none)=aa a):b=true∧t=aa a:=by
 cases b with
 |true=>exact⟨rfl,h⟩
 |false=>cases h
def uQ{f:α→β}(h:o.map f=aa y):∃a,o=aa a∧f a=y:=Option.map_eq_some_iff.mp h
def uT{o:Option α}{f:α→Option β}{y:β}(h:o.bind f=aa y):∃a,o=aa a∧f a=aa y:=Option.bind_eq_some_iff.mp h
def tS{l:List α}{a:α}(h:rb l=aa a):l=[a]:=by
 cases l with
 |nil=>cases h
 |cons x r=>
  obtain⟨h1,h2⟩:=u_ h;cases h2;rw[dJ.mp h1]
end
def vm{α:Type}{o:Option α}{f:α→WE}(h:∀a,o=aa a→JE X e (f a)):JE X e (o.elim o5 f):=qe (P:=JE X e) (λ_=>tB) h
def sB{b:Bool}{t:WE}(h:b=true→JE X e t):JE X e (pB b t):=uL (P:=JE X e) tB h
def zh{α:Type}{s:bg}{o:Option α}{f:α→WS}(h:∀a,o=aa a→JS X s (f a)):JS X s (o.elim o5 f):=qe (P:=JS X s) (λ_=>yQ) h
def ub{b:Bool}{s:bg}{t:WS}(h:b=true→JS X s t):JS X s (pB b t):=uL (P:=JS X s) yQ h
def xD{α:Type}{a:α}{P:Prop}(h:none=aa a):P:=nomatch h
def PM (h:As e=true):∃es k p,e= .Tuple es k p:=by
 cases e with
 |Tuple es k p=>exact⟨es,k,p,rfl⟩
 |_=>exact absurd h dy
def oM{a b:Bool}(h:(a&&b)=true):a=true∧b=true:=bV _ _▸h
def DV (h:eNm e=aa x):∃p,e= .Name x p:=by
 cases e with
 |Name y p=>cases h;exact⟨_,rfl⟩
 |_=>exact xD h
def D3{q:ah×List Expr}(h:Ba e=aa q):∃p p' a r,e= .Call (.Name q.1 p) (a::r) [] p'∧q.2=a::r∧rD (a::r)=true:=by
 cases e with
 |Call f es ks p'=>
  obtain⟨x,h1,h2⟩:=uT h;obtain⟨g2,h3⟩:=u_ h2;obtain⟨g3,h4⟩:=oM g2;obtain⟨p,rfl⟩:=DV h1;cases h3;cases es with
  |nil=>cases h4
  |cons a r=>exact⟨p,p',a,r,by rw[dJ.mp (oM g3).1],rfl,(oM g3).2⟩
 |_=>exact xD h
def Pm{q:Option Expr×Option Expr}(h:CI e=aa q):∃p,e= .Slice q.1 q.2 none p:=by
 cases e with
 |Slice lo hi st p=>
  obtain⟨h1,h2⟩:=u_ h;cases h2;cases st with
  |none=>exact⟨p,rfl⟩
  |some=>cases h1
 |_=>exact xD h
def Lm{q:Expr×Scope×bi×im}(h:FW e=aa q):e= .ListComp q.1 [⟨q.2.2.2.target,q.2.2.2.iter,q.2.2.2.ifs,0⟩] q.2.1 q.2.2.1:=by
 cases e with
 |ListComp e gs s p=>
  obtain⟨g,h1,h2⟩:=uT h;rw[tS h1];obtain⟨t,it,fs,n⟩:=g;dsimp only at h2;split at h2
  ·cases h2;subst n;rfl
  ·cases h2
 |_=>exact xD h
theorem s_ (ok:i.Ok T r) (F:o6 T r X c):∀{es:List Expr},rD es=true→JA X es (iA (i.e c) es)
 | [],_=>U9
 |_::_,h=>XQ (ok.e F) (s_ ok F (qA h).2) (qj (qA h).1)
def Cg (ok:i.Ok T r) (F:o6 T r X c):JO X o (iO (i.e c) o):=by
 cases o with
 |none=>exact SB
 |some=>exact zyZ (ok.e F)
theorem yT (ok:i.Ok T r) (F:o6 T r X c):∀{ss:List bg},uj X ss (xG (i.s c) ss)
 | []=>To
 |s::ss=>xj (P:=uj X (s::ss)) (λ_=>Wc (ok.s F) (yT ok F)) λh=>by rw[dJ.mp h];exact UY (ok.s F)
theorem EO (ok:i.Ok T r) (F:o6 T r X c):∀{es:List Expr},JE X (.BoolOp o es pos) (CL o (i.e c) es)
 | []=>tB
 | [_]=>T4 (ok.e F)
 |a::b::es=>by
  cases o
  ·exact zBD (ok.e F) (EO ok F)
  ·exact zFG (ok.e F) (EO ok F)
theorem EH (ok:i.Ok T r) (F:o6 T r X c):∀{o:BoolOp}{es:List Expr},JW X (.BoolOp o es pos) (CU o (i.t c) es)
 |_,[]=>λ_ _ _ _ _ _ _ _ _ zz=>oF zz λ_ _ _ _ _ h _=>h.elim
 | .And,[_]=>Ua (ok.t F)
 | .Or,[_]=>Yb (ok.t F)
 | .And,_::_::_=>zEe (ok.t F) (EH ok F)
 | .Or,_::_::_=>Sk (ok.t F) (EH ok F)
def BC (h:yw e=true):cg (e::es) env=(false,assign e env)::cg es env:=by
 cases e<;>first |rfl |cases h
def M8 (F:o6 T r X c):JG X (.Name x pos) (C2 c x):=qe (P:=JG X (.Name x pos)) (λ_=>DG) λk h=>uL DG λq=>VI F.ndX (F.at_ h) (F.loc q).1 (F.loc q).2
def S_{P:nK→gY→Prop}:C2 c x w σ S P→ ∃σ' S',P σ' S':=qe (P:=λ(t:WG)=>t w σ S P→ ∃σ' S',P σ' S') (λ_ h=>h.elim) λk _=>uL (P:=λ(t:WG)=>t w σ S P→ ∃σ' S',P σ' S') (λh=>h.elim) λ_ h=>⟨_,_,h⟩
def zBG:xl X es o5:=λ_ _ _ _ _ _ _ _ _ _ _ zz=>A6 zz λ_ _ _ _ _ _ _ h _=>h.elim
theorem HG (F:o6 T r X c):∀{es:List Expr},rD es=true→xl X es (DR c es)∧(cg es X.env).length=es.length∧(cg es X.env).findIdx? (·.1)=none∧ ∀ws σ S P,DR c es ws σ S P→ws.length=es.length
 | [],_=>⟨Xb,rfl,rfl,λws _ _ _ h=>by cases ws with |nil=>rfl |cons=>exact h.elim⟩
 |e::es,h=>by
  obtain⟨h1,h2⟩:=qA h;obtain⟨g1,g2,g3,g4⟩:=HG F h2;refine⟨qe (P:=xl X (e::es)) (λ_=>zBG) λx q=>?_,by rw[BC h1,aS,g2];rfl,by rw[BC h1,List.findIdx?_cons,g3];rfl,λws σ S P=>qe (P:=λ(t:WGs)=>t ws σ S P→ws.length=es.length+1) (λ_ h=>h.elim) λx q h=>?_⟩
  ·obtain⟨p,rfl⟩:=DV q;exact VC (M8 F) g1 (by rw[BC h1];rfl)
  ·cases ws with
   |nil=>exact h.elim
   |cons w ws=>obtain⟨σ',S',q⟩:=S_ h;rw[aS,g4 _ _ _ _ q]
def Cu (F:o6 T r X c):JG X e (iG c e):=by
 cases e with
 |Name=>exact M8 F
 |Tuple es k p=>
  refine uL (P:=JG X (.Tuple es k p)) DG λh=>?_;obtain⟨g1,g2,g3,g4⟩:=HG F (oM h).1;exact RN g1 g4 g2 g3 (F.calm.trans (oM h).2)
 |_=>exact DG
def zEw (h:Oj o=aa w) (ha:JE X a ta) (hb:JE X b tb):JE X (.BinOp a o b pos) (wOp w ta tb):=by
 cases o<;>cases h
 ·exact RB ha hb
 ·exact XU ha hb
 ·exact zDj ha hb
 ·exact RK ha hb
 ·exact W9 ha hb
 ·exact Sl ha hb
def Ru (F:o6 T r X c) (hc:c.calm=true) (h:NP d o=aa w):∃R,o8 X (bD o) R∧su X.K R w:=by
 have hu:=(F.hr hc).units;cases o<;>cases h
 ·exact⟨_,zEN `l,OU⟩
 ·exact⟨_,zER `l,OU⟩
 ·exact⟨_,RH,HB⟩
 ·exact⟨_,uv.or GE,Gu⟩
 ·exact⟨_,zFH,HB⟩
 ·exact⟨_,Zw,HB⟩
 ·exact⟨_,ZT,zBg⟩
 ·exact⟨_,ztM,Xy⟩
 ·cases d
  ·exact⟨_,tm.or (YZ `l),λH x y wx wy S Q QW rx ry hS h hQ=>OW rx ry hS h hQ⟩
  ·exact⟨_,Wa `l,J4⟩
 ·cases d
  ·exact⟨_,rj.or (zsm `l),λH x y wx wy S Q QW rx ry hS h hQ=>OW rx ry hS h hQ⟩
  ·exact⟨_,Q2 `l,J4⟩
def W6 (h:xN b=true):gV [.LtE, .LtE] [a,b]=false:=Hi (op:= .LtE) h
def OF (ok:i.Ok T r) (F:o6 T r X c) {os:List CmpOp}:JE X (.Compare a os bs pos) (BW T i c a os bs)∧ ∀o,rb os=aa o→JT X (.Compare a os bs pos) (oo (BW T i c a os bs)):=by
 have no:JT X (.Compare a os bs pos) (oo o5):=λ_ _ _ _ _ _ _ _ zz=>oF zz λ_ _ _ _ _ h _=>h.elim;refine qe (P:=λt=>JE X (.Compare a os bs pos) t∧ ∀o,rb os=aa o→JT X (.Compare a os bs pos) (oo t)) (λh=>⟨?_,λo q=>by rw[h]at q;cases q⟩) λo h=>?_
 ·cases bs with
  |nil=>exact tB
  |cons b s=>
   refine vm λd q=>sB λz=>?_;rw[tS q,of_decide_eq_true (oM z).1];exact YJ (ok.e F) (ok.e F) (ok.e F) (W6 (oM z).2)
 ·refine qe (P:=λt=>JE X (.Compare a os bs pos) t∧ ∀o,rb os=aa o→JT X (.Compare a os bs pos) (oo t)) (λ_=>⟨tB,λ_ _=>no⟩) λb q=>qe (P:=λt=>JE X (.Compare a os bs pos) t∧ ∀o,rb os=aa o→JT X (.Compare a os bs pos) (oo t)) (λ_=>⟨tB,λ_ _=>no⟩) λw z=>uL (P:=λt=>JE X (.Compare a os bs pos) t∧ ∀o,rb os=aa o→JT X (.Compare a os bs pos) (oo t)) ⟨tB,λ_ _=>no⟩ λy=>?_;obtain⟨R,h1,h2⟩:=Ru F (oM y).2 z;rw[tS h,tS q];exact⟨zDz h1 h2 (ok.e F) (ok.e F) (Hi (oM y).1),λ_ _=>Xr h1 h2 (ok.e F) (ok.e F) (Hi (oM y).1)⟩
def Gm (ok:i.Ok T r) (F:o6 T r X c) (h:CN i c e=aa l):JL X e l:=by
 cases e with
 |Subscript a b p=>
  obtain⟨q,h1,rfl⟩:=uQ h;obtain⟨p',rfl⟩:=Pm h1;exact RC (ok.e F) (Cg ok F) (Cg ok F)
 |_=>exact xD h
def ZY (ok:i.Ok T r) (F:o6 T r X c) (h:O1 i c x es=aa l):∃a,es=[a]∧JL X a l:=by
 obtain⟨a,h1,h2⟩:=uT h;refine⟨a,tS h1,?_⟩;cases q:i.l c a with
 |none=>rw[q]at h2;exact Gm ok F (u_ h2).2
 |some m=>rw[q]at h2;cases h2;exact ok.l F q
def uq{α:Type}{l:List (ah×α)}{y:α}(h:l.lookup x=aa y):(x,y)∈l:=by
 induction l with
 |nil=>cases h
 |cons p l ih=>
  obtain⟨z,w⟩:=p;rw[bN]at h;split at h
  ·cases h;rename_i e;rw[beq_iff_eq]at e;subst e;exact aM
  ·exact aI _ (ih h)
def zBi (ok:i.Ok T r) (F:o6 T r X c) (hg:Gl X "isinstance") (hm:X.mg "isinstance" =none) (hs:rD es=true):JE X (.Call (.Name "isinstance" p) es [] pos) (NA T i c es):=by
 cases es with
 |nil=>exact tB
 |cons a s=>
  refine vm λt q=>vm λs h1=>sB λh=>?_;obtain⟨b,q1,q2⟩:=uT q;obtain⟨p2,rfl⟩:=DV q2;rw[tS q1];have ha:=(qA hs).1;have hh:=uq h1;have k:=λT' hv hn hd hk=>zBk (T':=T') (p:=p) (pos:=pos) hg hm (F.glo (oM h).1).1 (F.blt (oM h).2) hv (ok.e F (e:=a)) hn hd hk (qj ha) (p2:=p2);simp only[ND,az,dM,aZ,or_false]at hh;obtain ⟨rfl,rfl⟩ |⟨rfl,rfl⟩ |⟨rfl,rfl⟩ |⟨rfl,rfl⟩ |⟨rfl,rfl⟩:=hh
  ·exact k _ boot_int `d `d (Av _ `s)
  ·exact k _ boot_bool `d `d (Av _ `s)
  ·exact k _ boot_str `d `d (Av _ `s)
  ·exact k _ boot_tuple `d `d (Av _ `s)
  ·exact k _ boot_list `d `d (Av _ `s)
def Sr (ok:i.Ok T r) (F:o6 T r X c) (hg:Gl X x) (hm:X.mg x=none) (hs:rD es=true) (hc:c.calm=true):JE X (.Call (.Name x p) es [] pos) (iB T i c x es):=by
 have cl:=F.calm.trans hc;refine xj (P:=JE X _) (λ_=>xj (P:=JE X _) (λ_=>qe (P:=JE X _) (λ_=>vm λf h2=>sB λq=>?_) λt h=>?_) λh=>?_) λh=>?_
 ·cases es with
  |nil=>cases q
  |cons a as=>
   obtain⟨ha,hb⟩:=qA hs;have hh:=uq h2;have ia:=s_ ok F hs;have sa:=qj (es:=as) (env:=X.env) ha;have sb:=x_ (pos:=pos) (env:=X.env) hb;simp only[bA,az,dM,aZ,or_false]at hh;obtain ⟨rfl,rfl⟩ |⟨rfl,rfl⟩ |⟨rfl,rfl⟩ |⟨rfl,rfl⟩ |⟨rfl,rfl⟩:=hh
   ·exact Ub hg hm ia sa sb
   ·exact zwb hg hm ia sa sb
   ·exact QQ hg hm ia sa sb
   ·exact YH hg hm ia sa sb cl
   ·exact Zq hg hm ia sa sb
 ·obtain⟨l,h1,h3⟩:=uT h;obtain⟨f,h2,rfl⟩:=uQ h3;obtain⟨a,rfl,hl⟩:=ZY ok F h1;have sa:=qj (es:=[]) (env:=X.env) (qA hs).1;have hh:=uq h2;simp only[bL,az,dM,aZ,or_false]at hh;obtain ⟨rfl,rfl⟩ |⟨rfl,rfl⟩ |⟨rfl,rfl⟩ |⟨rfl,rfl⟩:=hh
  ·exact ztv hg hm hl sa rfl
  ·exact zzh hg hm hl sa rfl cl
  ·exact Ss hg hm hl sa rfl cl
  ·exact Zv (F.hr hc) hg hm hl sa rfl cl
 ·obtain⟨h1,h2⟩:=oM h;cases of_decide_eq_true h1;cases es with
  |nil=>cases h2
  |cons a as=>exact Uk hg hm (s_ ok F hs) (qj (qA hs).1) (x_ (qA hs).2)
 ·cases of_decide_eq_true h;exact zBi ok F hg hm hs
def CK (h:yw a=true):((aR pos (ay [a] env)).all (λx=> !x.1)&&(cM pos (cN [] env)).all (λx=>x.1.isSome)&&decide ([a].length+([]:List b9).length+(if([]:List b9).isEmpty then 0 else 1)<30))=true:=by
 rw[qj h];rfl
def zFw (ok:i.Ok T r) (F:o6 T r X c) (hz:ym o=true) (hs:rD es=true) (hl:(ap.endLine == pos.line)=true):JE X (.Call (.Attribute o m ap) es [] pos) (iM i c m o es):=by
 cases es with
 |nil=>
  refine vm λq h=>?_;have hh:=uq h;simp only[m0,az,dM,aZ,or_false]at hh;obtain ⟨rfl,rfl⟩ |⟨rfl,rfl⟩:=hh
  ·exact WB (ok.e F) (wq hz) hl
  ·exact QK (ok.e F) (wq hz) hl
 |cons a as=>
  have ha:=(qA hs).1;refine sB λz=>?_;rw[dJ.mp z]at hs⊢;refine qe (P:=JE X _) (λ_=>vm λq h=>?_) λt h=>?_
  ·have hh:=uq h;simp only[mA,az,dM,aZ,or_false]at hh;obtain ⟨rfl,rfl⟩ |⟨rfl,rfl⟩ |⟨rfl,rfl⟩:=hh
   ·exact YI (ok.e F) (s_ ok F hs) (wq hz) (CK ha) hl (qj ha) rfl
   ·exact zrg (ok.e F) (s_ ok F hs) (wq hz) (CK ha) hl (qj ha) rfl
   ·exact Yz (ok.e F) (s_ ok F hs) (wq hz) (CK ha) hl (qj ha) rfl
  ·obtain⟨l,h1,h2⟩:=uT h;obtain⟨q,h3,rfl⟩:=uQ h2;have hh:=uq h3;simp only[mL,az,dM,aZ,or_false]at hh;obtain⟨rfl,rfl⟩:=hh;exact zvk (ok.e F) (ok.l F h1) (wq hz) (CK ha) hl (qj ha) rfl
def Uq{env:bM}(h:rD es=true):(aR pos (ay es env)).all (λx=> !x.1)=true:=by
 induction es with
 |nil=>rfl
 |cons e es ih=>
  rw[qj (qA h).1];exact ih (qA h).2
def SK{o:Expr}{m:ah}{ap:bi}{env:bM}(hz:ym o=true) (hs:rD es=true) (hl:(ap.endLine == pos.line)=true) (hn:decide (es.length<20)=true):aA (.Call (.Attribute o m ap) es [] pos) env=(do
      let ov ←aA o env
      eB ap.atName
      let (f,first) ←holding [ov] (gv ov m (do return (←importBound o env).getD true))
      jD pos f first (aR pos (ay es env)) (cM pos (cN [] env))):=by
  have hf:nv (es.length+([]:List b9).length) (aR pos (ay es env)) (cM pos (cN [] env))=true:=by
    unfold nv;rw[Uq hs];have:=of_decide_eq_true hn;exact decide_eq_true (by show es.length+0+0<30;lia)
  have hp:methodCallPos true o env ap pos=pure pos:=by unfold methodCallPos;rw[hl];rfl
  rw[arm_eval_Call,wq hz];simp only[methodCall,hf,hp];rfl
def Uc (ok:i.Ok T r) (F:o6 T r X c):JE X (.Call f es [] pos) (JQ T i c f es pos):=by
 cases f with
 |Name x p=>
  refine sB λh=>?_;obtain⟨h,h3⟩:=oM h;obtain⟨h1,h2⟩:=oM h;obtain⟨g1,g2⟩:=F.glo h1;refine qe (P:=JE X _) (λ_=>qe (P:=JE X _) (λ_=>sB λh=>Sr ok F g1 (F.blt h) h2 h3) λs q=>sB λh=>?_) λs q=>sB λh=>?_
  ·obtain⟨C,f,fd,ps,k,k1,k2,k3,k4,k5,k6⟩:=F.g.mi _ _ q;cases es with
   |nil=>cases h
   |cons a as=>exact SF k2 k4 k5 ((F.hr h3).mono k1) g1 k3 k6 (s_ ok F h2) g2 (qj (qA h2).1) (x_ (qA h2).2)
  obtain⟨f,fd,ps,k1,k2,k3,k4⟩:=F.g.fn _ _ q;cases es with
  |nil=>cases h
  |cons a as=>exact zAH k1 (F.hr h3) g1 k2 k3 k4 (s_ ok F h2) g2 (qj (qA h2).1) (x_ (qA h2).2)
 |Attribute o m ap=>
  refine qe (P:=JE X _) (λ_=>sB λh=>zFw ok F (oM (oM h).1).1 (oM (oM h).1).2 (oM h).2) λq z=>sB λh=>?_;obtain⟨h,h3⟩:=oM h;obtain⟨h,h4⟩:=oM h;obtain⟨h,h5⟩:=oM h;obtain⟨h1,h2⟩:=oM h;have ev:=SK (m:=m) (env:=X.env) h1 h2 h5 h4;obtain⟨C,f,fd,ps,k1,k2,k3,k4,k5⟩:=F.g.me _ _ z;cases es with
  |nil=>exact Vq k1 k2 k3 k4 (F.hr h3) k5 (ok.e F) ev
  |cons a as=>exact Yr k1 k2 k3 k4 (F.hr h3) k5 (ok.e F) (s_ ok F h2) (qj (qA h2).1) (x_ (qA h2).2) ev
 |_=>exact tB
def zBw (ok:i.Ok T r) (F:o6 T r X c):JE X e (IG T i c e):=by
 refine qe (P:=JE X e) (λ_=>?_) λl h=>Nt (ok.l F h);cases e with
 |Name x p=>
  refine qe (P:=JE X _) (λ_=>vm λw h=>sB λq=>?_) λk h=>sB λq=>?_
  ·obtain⟨h1,h2⟩:=F.glo q;obtain ⟨n,u,rfl,h3⟩ |⟨n,u,rfl,h3⟩:=F.g.gl _ _ h
   ·exact Up h1 h3 h2
   ·exact Z8 h1 h3 h2
  ·obtain⟨h1,h2,h3⟩:=F.vis q;exact jv _ (F.at_ h) h1 h2 h3
 |Constant v k p=>
  cases v with
  |int=>exact U6
  |bool=>exact UM
  |none=>exact V5
  |str=>exact Vz
  |_=>exact tB
 |UnaryOp o a p=>
  cases o with
  |Not=>exact xj (P:=JE X _) (λ_=>V1 (ok.e F)) λ_=>Rw (ok.e F)
  |USub=>exact SN (ok.e F)
  |_=>exact tB
 |BinOp a o b p=>exact vm λw h=>zEw h (ok.e F) (ok.e F)
 |Compare=>exact(OF ok F).1
 |BoolOp=>exact EO ok F
 |IfExp=>exact Y7 (ok.t F) (ok.e F) (ok.e F)
 |Tuple es k p=>exact sB λh=>WD (s_ ok F h)
 |Subscript a b p=>
  refine qe (P:=JE X _) (λ_=>sB λh=>qe (P:=JE X _) (λ_=>Yv (ok.e F) (ok.e F) (Ks h)) λl q=>Ws (ok.l F q) (ok.e F) (Ks h)) λq h=>?_;obtain⟨p',rfl⟩:=Pm h;exact XB (ok.e F) (Cg ok F) (Cg ok F)
 |Call f es ks p=>exact sB λh=>by rw[dJ.mp h];exact Uc ok F
 |Attribute o f p=>
  refine vm λl q=>sB λh=>?_;obtain⟨C,k1,k2,k3⟩:=F.g.cf _ _ q;exact zBs k1 k2 k3 (ok.e F) (wq h)
 |_=>exact tB
def NF (ok:i.Ok T r) (F:o6 T r X c):JT X e (pB (Fy e) (oY (i.e c e))):=uL (P:=JT X e) E5 λh=>Td (ok.e F) λw=>by
 cases e with
 |UnaryOp o a p=>cases o<;>first |rfl |cases h
 |_=>first |rfl |cases h
def Zj (ok:i.Ok T r) (F:o6 T r X c):JT X e (Qb T i c e):=by
 cases e with
 |Compare a os bs p=>exact qe (P:=JT X _) (λ_=>E5) λo h=>(OF ok F).2 o h
 |UnaryOp o a p=>exact xj (P:=JT X _) (λ_=>NF ok F) λh=>by cases of_decide_eq_true h;exact UC (ok.t F)
 |BoolOp=>exact(EH ok F).jt
 |_=>exact NF ok F
def GP (ok:i.Ok T r) (F:o6 T r X c):JI X tg e (iI T i c tg e):=by
 refine qe (P:=JI X tg e) (λ_=>qe (P:=JI X tg e) (λ_=>zCT (ok.e F)) λl h=>VD (ok.l F h)) λt h=>?_;obtain⟨⟨x,es⟩,h1,h2⟩:=uT h;obtain⟨p,p',a,s,rfl,rfl,h3⟩:=D3 h1;obtain⟨h2,h4⟩:=u_ h2;obtain⟨q1,q2⟩:=oM h2;obtain⟨q3,q5⟩:=qA h3;have g1:=(F.glo q1).1;have g2:=F.blt q2;unfold PQ at h4
 revert h4
 refine xj (P:=λo=>o=aa t→JI X tg _ t) (λ_=>xj (P:=λo=>o=aa t→JI X tg _ t) (λ_ h=>?_) λz h=>?_) λz h=>?_
 ·obtain⟨z,h⟩:=u_ h;obtain⟨z,z2⟩:=oM z;cases of_decide_eq_true z;obtain⟨b,y,rfl⟩:=uQ h;cases tS y;have q4:=(qA q5).1;obtain⟨_,_,_,rfl⟩:=PM z2;exact Zn g1 g2 (ok.e F) (ok.e F) (by rw[qj q3,qj q4];rfl) (qj q4) (qj q3) (qj q4)
 ·obtain⟨z,z2⟩:=oM z;cases of_decide_eq_true z;obtain⟨b,y,rfl⟩:=uQ h;cases tS y;obtain⟨_,_,_,rfl⟩:=PM z2;exact Rt g1 g2 (ok.e F) (qj q3) (qj q3)
 ·cases of_decide_eq_true z;obtain⟨b,y,rfl⟩:=uQ h;cases tS y;exact Tv g1 g2 (s_ ok F h3) (qj q3)
def Qh (F:o6 T r X c) (h:Fw c s N k fr=true):ou X.nox s N k fr:=by
 simp only[Fw,bV,decide_eq_true_eq]at h;obtain⟨⟨⟨⟨⟨⟨⟨⟨h1,h2⟩,h3⟩,h4⟩,h5⟩,h6⟩,h7⟩,h8⟩,h9⟩:=h;refine⟨h1,h2,h3,h4,h5,?_,h7,?_,?_⟩
 ·show(s.names.all λy=>y.2 != bb || X.env.scope.names.lookup y.1 == aa cx || X.env.scope.names.lookup y.1 == aa bb)=true;rw[F.sc];exact h6
 ·show N.drop k=fr.map λj=>X.N.getD j ah.empty;rw[F.N];exact h8
 ·show(fr.all λj=>decide (j<X.N.length))=true;rw[F.N];exact h9
def o6.nox (F:o6 T r X c):o6 T r X.nox c:=⟨⟨F.g.fn,F.g.gl,F.g.bl,F.g.xs,F.g.ex,F.g.cf,F.g.me,F.g.mi⟩,F.N,F.sc,F.nd,F.fn,F.hr,F.calm,F.st⟩
def o6.comp (F:o6 T r X c) {s:Scope}{N:List ah}(hN:N.Nodup) (hc:c.calm=true) (s₀:ao) (H₀:Hp) (fp:List aj) (pn:List (aj×aJ)):o6 T r (qy X.nox s N s₀ H₀ fp pn) ⟨N,Ez s c,false,true⟩:=
 ⟨⟨F.g.fn,F.g.gl,F.g.bl,F.g.xs,F.g.ex,F.g.cf,F.g.me,F.g.mi⟩,rfl,(by show relabel s X.env=_;unfold relabel Ez bM.kindOf;rw[F.sc]),hN,rfl,λ_=>F.hr hc,F.calm.trans hc,λh=>nomatch h⟩
def PD (ok:i.Ok T r) (F:o6 T r X c):wa X ifs (match ifs with
  | []=>pP
  |t::r=>pB r.isEmpty (i.t c t)):=by
 cases ifs with
 |nil=>exact Y6
 |cons t s=>exact uL (P:=wa X _) Tw λh=>by rw[dJ.mp h];exact Vj (ok.t F)
def M0 (ok:i.Ok T r) (F:o6 T r X c) (q:Expr×Scope×bi×im):JL X (.ListComp q.1 [⟨q.2.2.2.target,q.2.2.2.iter,q.2.2.2.ifs,0⟩] q.2.1 q.2.2.1) (iC T i c q):=by
 refine uL (P:=JL X _) ZL λh=>?_;have S:=Qh F (oM (oM h).1).1;have F':=F.comp (s:=q.2.1) S.nd (oM h).2;exact Z_ S (GP ok F.nox) (λ_ _ _ _=>Cu (F' _ _ _ _)) (λ_ _ _ _=>PD ok (F' _ _ _ _)) (λ_ _ _ _=>ok.e (F' _ _ _ _)) (Eb (oM (oM h).1).2) (F.calm.trans (oM h).2)
def R3 (ok:i.Ok T r) (F:o6 T r X c) (h:Ld T i c e=aa l):JL X e l:=by
 cases e with
 |List es p=>obtain⟨h1,h2⟩:=u_ h;cases h2;exact zEW (s_ ok F h1)
 |ListComp=>obtain⟨q,h1,rfl⟩:=uQ h;rw[Lm h1];exact M0 ok F q
 |BinOp a o b p=>
  cases o with
  |Mult=>obtain⟨m,h1,rfl⟩:=uQ h;exact XS (ok.l F h1) (ok.e F)
  |Add=>
   revert h
   refine qe (P:=λo=>o=aa l→JL X _ l) (λ_ h=>?_) λm q h=>?_
   ·obtain⟨m,h1,rfl⟩:=uQ h;exact qe (P:=JL X _) (λ_=>Vu (ok.e F) (ok.l F h1)) λn z=>L6 (Gm ok F z) (ok.l F h1)
   ·cases h;refine qe (P:=JL X _) (λ_=>SW (ok.l F q) (ok.e F)) λn z=>L6 (ok.l F q) ?_
    revert z
    exact qe (P:=λo=>o=aa n→JL X b n) (λ_ h=>Gm ok F h) λk y h=>by cases h;exact ok.l F y
  |_=>exact xD h
 |Call f es ks p=>
  obtain⟨⟨x,as⟩,h1,h2⟩:=uT h;obtain⟨p,p',a,s,e,rfl,h3⟩:=D3 h1;obtain⟨h2,h4⟩:=u_ h2;obtain⟨y,q2⟩:=oM h2;obtain⟨y,q1⟩:=oM y;cases of_decide_eq_true y;obtain⟨b,z,rfl⟩:=uQ h4;cases tS z;rw[e];refine qe (P:=JL X _) (λ_=>zxX (F.glo q1).1 (F.blt q2) (ok.e F) (qj (qA h3).1) rfl) λb z=>?_;obtain⟨u,z1,z2⟩:=uT z;obtain⟨p3,p4,a',s',rfl,h5,h6⟩:=D3 z1;obtain⟨z2,z3⟩:=u_ z2;obtain⟨z2,z4⟩:=oM z2;obtain⟨z2,z5⟩:=oM z2;obtain⟨z2,z6⟩:=oM z2;have z7:=of_decide_eq_true z2;have z8:=tS z3;rw[h5]at z8;cases z8;rw[z7]at z5 z6⊢;exact Xg (F.glo q1).1 (F.blt q2) (F.glo z6).1 (F.blt z5) (ok.e F) (qj (qA h3).1) (qj (qA h6).1) (F.calm.trans z4)
 |_=>exact xD h
def No (h:xV e=true):km [tg] e n env=pure false:=B8 h
def Qq (h:As e=false):jd [.Tuple ts n p] e env=pure none:=by
 cases e<;>first |rfl |cases h
def Vr:JS X s (jj (ox o5) g):=λ_ _ _ _ _ _ _ _ zz=>oF zz λ_ _ _ _ _ h _=>h.elim
def zAP{o:Expr}{env:bM}(h:Cv e=true):∀v,assign (.Subscript o e p) env v=(do
      let ov ←holding [v] (aA o env)
      let iv ←holding [v,ov] (aA e env)
      eB p
      holding [v,ov,iv] (iw ov iv v)
      release [v,ov,iv] []):=λv=>by
  cases e<;>first |rfl |cases h
def Vv (ok:i.Ok T r) (F:o6 T r X c):JS X (.Assign [tg] e pos) (Ij T i c tg e):=by
 cases tg with
 |Name x p=>
  refine zh λk l0=>ub λl=>qe (P:=JS X _) (λ_=>ub λh=>?_) λq h=>?_
  ·exact Ln F.ndX (F.at_ l0) (F.loc l).1 (ok.e F) (B8 h) (F.loc l).2
  ·rw[Lm h];cases b:(X.env.blockKind == .function&&X.env.kindOf x == aa .local&&p.line == q.2.2.1.line&& !(q.2.1.names.any λ(n,k)=>n == x&&(k == .local || k == .cell))) with
   |false=>exact Ln F.ndX (F.at_ l0) (F.loc l).1 (Nt (M0 ok F q)) (congrArg pure b) (F.loc l).2
   |true=>
    refine uL (P:=λt=>JS X _ (jj (ox t) (wGN k))) Vr λh=>?_;have S:=Qh F (oM (oM h).1).1;have F':=F.comp (s:=q.2.1) S.nd (oM h).2;exact RZ F.ndX (F.at_ l0) (F.loc l).1 S (GP ok F.nox) (λ_ _ _ _=>Cu (F' _ _ _ _)) (λ_ _ _ _=>PD ok (F' _ _ _ _)) (λ_ _ _ _=>ok.e (F' _ _ _ _)) (congrArg pure b) (F.loc l).2 (Eb (oM (oM h).1).2) (F.calm.trans (oM h).2)
 |Tuple es n p=>exact ub λh=>KQ (ok.e F) (Cu F) (No (oM h).1) (Qq (by have:=(oM h).2;simpa using this)) (by rw[BC rfl];rfl)
 |Subscript a b p=>exact ub λh=>KQ (ok.e F) (Z1 (ok.e F) (ok.e F) (zAP (oM h).2)) (No (oM h).1) rfl (by rw[BC rfl];rfl)
 |Attribute o f p=>
  refine zh λl q=>ub λh=>?_;obtain⟨C,k1,k2,k3⟩:=F.g.cf _ _ q;exact U3 k1 k2 k3 (ok.e F) (ok.e F) (B8 h)
 |_=>exact yQ
def zDG (ok:i.Ok T r) (F:o6 T r X c):JS X s (M' T i c s):=by
 cases s with
 |Return v p=>
  cases v with
  |none=>exact QR
  |some=>exact RY (ok.e F)
 |Pass=>exact Wo
 |Expr e p=>exact ub λh=>Wp (ok.e F) (B8 h)
 |If=>exact Su (ok.t F) (yT ok F) (yT ok F)
 |While t b os p=>exact ub λh=>by rw[dJ.mp h];exact WH (ok.t F) (yT ok F)
 |For tg it b os p=>exact ub λh=>by rw[dJ.mp (oM (oM h).1).1];exact X6 (GP ok F) (Cu F) (yT ok F) (F.calm.trans (oM h).2) (Eb (oM (oM h).1).2)
 |AugAssign t o e p=>
  refine ub λh=>qe (P:=JS X _) (λ_=>?_) λx q=>zh λk l0=>ub λl=>?_
  ·cases of_decide_eq_true h;cases t with
   |Attribute ob f p'=>
    refine zh λl q=>?_;obtain⟨C,k1,k2,k3⟩:=F.g.cf _ _ q;exact Wz k1 k2 k3 (ok.e F) (ok.e F)
   |_=>exact yQ
  obtain⟨p',rfl⟩:=DV q;cases of_decide_eq_true h;exact U4 F.ndX (F.at_ l0) (F.loc l).1 (ok.e F) (F.loc l).2
 |Assign ts e p=>exact zh λtg h=>by rw[tS h];exact Vv ok F
 |Raise v cs p=>
  refine zh λq h=>ub λz=>?_;obtain⟨e,rfl,h⟩:=uT h;obtain⟨p1,p2,a,s,rfl,h2,h3⟩:=D3 h;obtain⟨z,z4⟩:=oM z;obtain⟨z,z3⟩:=oM z;obtain⟨z,z2⟩:=oM z;obtain⟨C,x1,x2⟩:=F.g.xs _ (ny.mp z2);rw[h2,Option.isNone_iff_eq_none.mp z];exact UD x1 (F.glo z3).1 x2 (s_ ok F h3) (F.calm.trans z4) (F.glo z3).2 (qj (qA h3).1) (x_ (qA h3).2)
 |_=>exact yQ
theorem HW:∀n,(Gk T n).Ok T r
 |0=>⟨λ_=>tB,λ_=>E5,(λ_ h=>nomatch h),λ_=>yQ⟩
 |n+1=>have ok:=HW n;⟨zBw ok,Zj ok,λF h=>R3 ok F h,λF=>zDG ok F⟩
end
def En.sc{e:En}(h:e.ok=true):qb e.N e.ps (qQ e.st)∧e.ps.length=e.k∧e.k≤6:=by
 simp only[En.ok,bV,decide_eq_true_eq,eZ,cJ,jG,bne_iff_ne]at h;obtain⟨⟨⟨⟨⟨⟨⟨⟨h1,h2⟩,h3⟩,h4⟩,h5⟩,h6⟩,h7⟩,h8⟩,h9⟩:=h;exact⟨⟨h1,h2,h3,h4,h5,h8,h9⟩,h6,h7⟩
def Ye (us:List ai) (h:us.length≤6):∃a b c d e f:ai,us=[a,b,c,d,e,f].take us.length:=by
 match us,h with
 | [],_=>exact⟨.none, .none, .none, .none, .none, .none,rfl⟩
 | [a],_=>exact⟨a, .none, .none, .none, .none, .none,rfl⟩
 | [a,b],_=>exact⟨a,b, .none, .none, .none, .none,rfl⟩
 | [a,b,c],_=>exact⟨a,b,c, .none, .none, .none,rfl⟩
 | [a,b,c,d],_=>exact⟨a,b,c,d, .none, .none,rfl⟩
 | [a,b,c,d,e],_=>exact⟨a,b,c,d,e, .none,rfl⟩
 | [a,b,c,d,e,f],_=>exact⟨a,b,c,d,e,f,rfl⟩
 |_::_::_::_::_::_::_::_,h=>simp at h
theorem Jj{α β:Type}:∀(a:List α) (b:List β),a.zip (b.take a.length)=a.zip b
 | [],_=>rfl
 |_::_,[]=>rfl
 |_::a,_::b=>congrArg (_:: ·) (Jj a b)
def DB{α β:Type}{l:List α}{f g:α→β}(h:l.map f=l.map g):∀e∈l,f e=g e:=by
 induction l with
 |nil=>intro e h;cases h
 |cons a l ih=>
  rw[aG,aG,gd]at h;intro e he;obtain rfl |he:=az.mp he
  ·exact h.1
  ·exact ih h.2 e he
def JD (h:lkT tab r x=aa s):∃e∈tab,e.eNm=x∧s=e.c r:=by
 have:=uq h;obtain⟨e,he,q⟩:=bp.mp this;cases q;exact⟨e,he,rfl,rfl⟩
def Fq (K:am) (eNm:ah) (st:bg):Prop:=∃f d,aX K aO eNm=aa (aa (.ref f))∧ue K eNm eNm st f d
def dfn{K:am}{st:bg}{kV doc pm cdv ct:ai}(a:aX K aO x=aa (aa (.ref f))) (l:K.lookup f=aa ⟨oc,od, .func (dC x x (xB st) (uE st) (qQ st) .none kV doc pm an cdv ct),osl⟩) (c:gA K cdv x=true) (k:cX K (.ref f)=true):Fq K x st:=⟨f,_,a,Pi l c k⟩
def CQ (K:am) (l m q:ah) (st:bg):Prop:=∃C f d,aX K aO l=aa (aa (.ref C))∧bZ K (.ref C) m=aa (aa (.ref f))∧gq K (.ref f)=true∧ue K m q st f d
def dfM{K:am}{l m q:ah}{st:bg}{C f:aj}{oc:ai}{od an:Option aj}{osl:Array (Option ai)}{kV doc pm cdv ct:ai}(z:aX K aO l=aa (aa (.ref C))) (a:bZ K (.ref C) m=aa (aa (.ref f))) (i:gq K (.ref f)=true) (lk:K.lookup f=aa ⟨oc,od, .func (dC m q (xB st) (uE st) (qQ st) .none kV doc pm an cdv ct),osl⟩) (c:gA K cdv q=true) (k:cX K (.ref f)=true):CQ K l m q st:=⟨C,f,_,z,a,i,Pi lk c k⟩
def EY (K:am) (x:ah):Prop:=∃C,aX K aO x=aa (aa (.ref C))∧rM K C∧gI K C=true∧cX K (.ref C)=true
def klh{K:am}{x:ah}{C:aj}(a:aX K aO x=aa (aa (.ref C))) (b:gm K C ah.empty=true) (c:iJ K C=true) (d:kH K C=true) (e:bZ K (.ref C) "__setattr__" =aa (aa (.builtin "object.__setattr__"))) (f:gI K C=true) (g:cX K (.ref C)=true):EY K x:=⟨C,a,⟨b,c,d,e⟩,f,g⟩
def Hw (K:am) (f l:ah):Prop:=∃C,aX K aO l=aa (aa (.ref C))∧bZ K (.ref C) f=aa none
def nfh{K:am}{f l:ah}{C:aj}(a:aX K aO l=aa (aa (.ref C))) (b:bZ K (.ref C) f=aa none):Hw K f l:=⟨C,a,b⟩
section
variable {P:aY}{w:aP}{K:am}{mg:ah→Option ai}{base:aH}{tab:List En}{mt:List Em}{B:Tb}
structure FJ (tab:List En) (mt:List Em) (r:Nat) (F:ah→Option nD) (M:ah→Option (ah×nD)) (I:ah→Option nD):Prop where
  f:∀x s,F x=aa s→ ∃e∈tab,e.eNm=x∧ ∃j,j≤r∧s=e.c j
  m:∀x s,M x=aa s→ ∃y∈mt,y.e.eNm=x∧ ∃j,j≤r∧s=(y.l,y.e.c j)
  i:∀x s,I x=aa s→ ∃y∈mt,y.l=x∧y.e.eNm= "__init__" ∧ ∃j,j+1≤r∧s=y.e.c j
def DH (tab:List En) (mt:List Em) (B:Tb) (r:Nat) (e:En):Prop:=e.c (r+1)=nG∨ ∃F M I,FJ tab mt r F M I∧e.c (r+1)=e.rd { B with fn:=F,me:=M,mi:=I }
structure t8 (K:am) (mg:ah→Option ai) (tab:List En) (mt:List Em) (B:Tb):Prop where
  df:∀e∈tab,∃f d,mg e.eNm=aa (.ref f)∧ue K e.eNm e.eNm e.st f d
  dm:∀y∈mt,CQ K y.l y.e.eNm y.q y.e.st
  ok:∀e∈tab++mt.map Em.e,e.ok=true
  bd:∀kV doc pm an cdv ct a b c d e' f,∀e∈tab,e.bd kV doc pm an cdv ct [a,b,c,d,e',f]=pure (e.ps.zip [a,b,c,d,e',f])
  bm:∀kV doc pm an cdv ct a b c d e' f,∀y∈mt,y.e.bq y.q kV doc pm an cdv ct [a,b,c,d,e',f]=pure (y.e.ps.zip [a,b,c,d,e',f])
  c0:∀e∈tab++mt.map Em.e,e.c 0=nG
  rd:∀r,∀e∈tab++mt.map Em.e,DH tab mt B r e
  gl:∀x w,B.gl x=aa w→(∃i u,w= .int i∧mg x=aa (.int i u))∨ ∃i u,w= .str i∧mg x=aa (.str i u)
  bl:∀x∈B.bl,mg x=none
  xs:∀x∈B.xs,∃C,r_ K x C∧mg x=aa (.ref C)
  ex:∀p∈B.ex,∃C D,r_ K p.1 C∧mg p.2=aa (.ref D)∧iW K (.ref C) (.ref D)=aa true
  ks:∀y∈mt,∃C,aX K aO y.l=aa (aa (.ref C))∧rM K C∧gI K C=true∧cX K (.ref C)=true∧mg y.l=aa (.ref C)
  cf:∀f l,B.cf f=aa l→ ∃C,aX K aO l=aa (aa (.ref C))∧rM K C∧oW K C f
def Hf{e:En}{q:ah}(hk:e.ok=true) (h:∀kV doc pm an cdv ct a b c d e' f,e.bq q kV doc pm an cdv ct [a,b,c,d,e',f]=pure (e.ps.zip [a,b,c,d,e',f])) {f:aj}{d:cK}(F:ue K e.eNm q e.st f d):pf K d e.ps []:=F.binds λkV doc pm an cdv ct us hl=>by
 obtain⟨_,h1,h2⟩:=En.sc hk;obtain⟨a,b,c,d,e',f,z⟩:=Ye us `l;have:=h kV doc pm an cdv ct a b c d e' f;unfold En.bq at this;rw[←h1,←hl,←z]at this;rw[this,show e.ps.zip us=_ by rw[z,hl,Jj]]
theorem t8.fn (h:t8 K mg tab mt B):∀r,∀e∈tab++mt.map Em.e,∀f d q,ue K e.eNm q e.st f d→pe P w K mg base (rW P w) r f d e.ps (rJ K (e.c r)):=by
 intro r
 induction r using Nat.strongRecOn with
 |_ r ih=>
  intro e he f d qn F;cases r with
  |zero=>rw[h.c0 e he];exact Oc
  |succ r=>
   obtain q |⟨G,M,I,hG,q⟩:=h.rd r e he
   ·rw[q];exact Oc
   ·rw[q];obtain⟨S,h1,_⟩:=En.sc (h.ok e he);refine U1 F S rfl h1 λcdv A outer s H E hr=>yT (T:={ B with fn:=G,me:=M,mi:=I }) (r:=r) (HW 40) ⟨⟨λx s hx=>?_,h.gl,h.bl,h.xs,h.ex,h.cf,λx s hx=>?_,λx s hx=>?_⟩,rfl,rfl,S.nd,rfl,λ_=>hr,rfl,λ_=>⟨rfl,rfl⟩⟩
    ·obtain⟨e',he',rfl,j,hj,rfl⟩:=hG.f x s hx;obtain⟨f',d',m',F'⟩:=h.df e' he';have z:=gp (mt.map Em.e) he';exact⟨f',d',e'.ps,(ih j `l e' z f' d' _ F').mono hj,m',F'.kp,Hf (h.ok _ z) (λkV doc pm an cdv ct a b c d e0 f=>h.bd kV doc pm an cdv ct a b c d e0 f _ he') F'⟩
    ·obtain⟨y,hy,rfl,j,hj,rfl⟩:=hG.m x s hx;obtain⟨C,f',d',n',a',i',F'⟩:=h.dm y hy;obtain⟨C',n2,k2,_⟩:=h.ks y hy;cases n'.symm.trans n2;have z:=cw tab (gj (f:=Em.e) hy);exact⟨C,f',d',y.e.ps,n',k2,⟨a',i',F'.kp⟩,(ih j `l y.e z f' d' _ F').mono hj,Hf (h.ok _ z) (λkV doc pm an cdv ct a b c d e0 f=>h.bm kV doc pm an cdv ct a b c d e0 f _ hy) F'⟩
    ·obtain⟨y,hy,rfl,e0,j,hj,rfl⟩:=hG.i x s hx;obtain⟨C,f',d',n',a',i',F'⟩:=h.dm y hy;obtain⟨C',n2,k2,k3,k4,k5⟩:=h.ks y hy;cases n'.symm.trans n2;have z:=cw tab (gj (f:=Em.e) hy);exact⟨C,f',d',y.e.ps,j,hj,n',k5,⟨k3,e0▸a',i',k4⟩,ih j `l y.e z f' d' _ F',Hf (h.ok _ z) (λkV doc pm an cdv ct a b c d e0 f=>h.bm kV doc pm an cdv ct a b c d e0 f _ hy) F'⟩
def w6 (K:am):List En→Prop
 | []=>True
 |e::r=>Fq K e.eNm e.st∧w6 K r
def xP (K:am):List Em→Prop
 | []=>True
 |y::r=>CQ K y.l y.e.eNm y.q y.e.st∧xP K r
def xp (K:am):List ah→Prop
 | []=>True
 |y::r=>EY K y∧xp K r
def xi (K:am):List (ah×ah)→Prop
 | []=>True
 |p::r=>Hw K p.1 p.2∧xi K r
def xk (K:am):List ah→Prop
 | []=>True
 |x::r=>aX K aO x=aa none∧xk K r
def Ej (K:am) (x:ah) (w:W):Prop:=(∃i u,w= .int i∧aX K aO x=aa (aa (.int i u)))∨ ∃i u,w= .str i∧aX K aO x=aa (aa (.str i u))
def gln (h:aX K aO x=aa (aa (.int i u))):Ej K x (.int i):= .inl ⟨i,u,rfl,h⟩
def xO (K:am):List (ah×W)→Prop
 | []=>True
 |p::r=>Ej K p.1 p.2∧xO K r
def Er (K:am) (x:ah):Prop:=∃C,r_ K x C
def xch (a:aX K aO x=aa (aa (.ref C))) (b:mG K C DX "ValueError.__new__" =true) (c:bZ K (.ref C) "__getattribute__" =aa (aa (.builtin "BaseException.__getattribute__"))) (d:bZ K (.ref C) "__getattr__" =aa none) (e:bZ K (.ref C) "__class__" =aa (aa (.builtin "object.__class__"))) (f:jV K C (.type "object")=aa true) (g:jV K C (.type "BaseException")=aa true):Er K x:=⟨C,a,b,c,d,e,f,g⟩
def wP (K:am):List ah→Prop
 | []=>True
 |x::r=>Er K x∧wP K r
def Gb (K:am) (x y:ah):Prop:=∃C D,aX K aO x=aa (aa (.ref C))∧aX K aO y=aa (aa (.ref D))∧iW K (.ref C) (.ref D)=aa true
def exh (a:aX K aO x=aa (aa (.ref C))) (b:aX K aO y=aa (aa (.ref D))) (c:iW K (.ref C) (.ref D)=aa true):Gb K x y:=⟨C,D,a,b,c⟩
def xf (K:am):List (ah×ah)→Prop
 | []=>True
 |p::r=>Gb K p.1 p.2∧xf K r
theorem w6.at_:∀{tab:List En},w6 K tab→ ∀e∈tab,Fq K e.eNm e.st
 |e::_,h,z,m=>(az.mp m).elim (λq=>q▸h.1) (w6.at_ h.2 z)
theorem xP.at_:∀{mt:List Em},xP K mt→ ∀y∈mt,CQ K y.l y.e.eNm y.q y.e.st
 |e::_,h,z,m=>(az.mp m).elim (λq=>q▸h.1) (xP.at_ h.2 z)
theorem xp.at_:∀{l:List ah},xp K l→ ∀x∈l,EY K x
 |e::_,h,z,m=>(az.mp m).elim (λq=>q▸h.1) (xp.at_ h.2 z)
theorem xi.at_:∀{l:List (ah×ah)},xi K l→ ∀p∈l,Hw K p.1 p.2
 |e::_,h,z,m=>(az.mp m).elim (λq=>q▸h.1) (xi.at_ h.2 z)
theorem xk.at_:∀{l:List ah},xk K l→ ∀x∈l,aX K aO x=aa none
 |e::_,h,z,m=>(az.mp m).elim (λq=>q▸h.1) (xk.at_ h.2 z)
theorem xO.at_:∀{l:List (ah×W)},xO K l→ ∀p∈l,Ej K p.1 p.2
 |e::_,h,z,m=>(az.mp m).elim (λq=>q▸h.1) (xO.at_ h.2 z)
theorem wP.at_:∀{l:List ah},wP K l→ ∀x∈l,Er K x
 |e::_,h,z,m=>(az.mp m).elim (λq=>q▸h.1) (wP.at_ h.2 z)
theorem xf.at_:∀{l:List (ah×ah)},xf K l→ ∀p∈l,Gb K p.1 p.2
 |e::_,h,z,m=>(az.mp m).elim (λq=>q▸h.1) (xf.at_ h.2 z)
def Zr{l:iF}{h:aH}{fa:aj}{gs:List (ah×W)}{ks:List ah}{fs:List (ah×ah)}{e0:En}{cl:Nat→nD}{room:Nat}(X:K.In h) (G:h.Ns aO mg) (hfa:mg "law" =aa (.ref fa)) (h0:e0∈tab) (hn:e0.eNm= "law") (hp:e0.ps=([("script" :ah)]:List ah)) (hc:e0.c=cl)
  (ok:(tab++mt.map Em.e).all En.ok=true) (bd:∀kV doc pm an cdv ct a b c d e' f,(tab.map λe=>e.bd kV doc pm an cdv ct [a,b,c,d,e',f])=tab.map λe=>pure (e.ps.zip [a,b,c,d,e',f]))
  (bm:∀kV doc pm an cdv ct a b c d e' f,(mt.map λy=>y.e.bq y.q kV doc pm an cdv ct [a,b,c,d,e',f])=mt.map λy=>pure (y.e.ps.zip [a,b,c,d,e',f]))
  (c0:((tab++mt.map Em.e).map λe=>e.c 0)=(tab++mt.map Em.e).map λ_=>nG) (rd:∀r,∀e∈tab++mt.map Em.e,DH tab mt B r e)
  (hg:B.gl=λx=>gs.lookup x) (hf:B.cf=λx=>fs.lookup x) (hx:∀p∈B.ex,p.1∈B.xs) (hk:∀y∈mt,y.l∈ks) (hh:∀p∈fs,p.2∈ks) (df:w6 K tab) (bl:xk K B.bl) (gl:xO K gs) (xs:wP K B.xs) (ex:xf K B.ex) (dm:xP K mt) (kl:xp K ks) (nf:xi K fs) :
  ∃fd:cK,(∀(s:ao) (v:ai),fI s fd ⟨[v],[]⟩ [("script",v)])∧ ∀base:aH,K.In base→base.Ns aO mg→pe l.prog w K mg base (rW l.prog w) room fa fd ["script"] (rJ K (cl room)):=by
 have wh:t8 K mg tab mt B:=by
  refine⟨λe he=>?_,dm.at_,λe he=>cJ.mp ok e he,λkV doc pm an cdv ct a b c d e' f=>DB (bd kV doc pm an cdv ct a b c d e' f),λkV doc pm an cdv ct a b c d e' f=>DB (bm kV doc pm an cdv ct a b c d e' f),DB c0,rd,λx v e=>?_,λx m=>PySem.W.mg_none_of X G (bl.at_ x m),λx m=>?_,λp m=>?_,λy hy=>?_,λf l e=>?_⟩
  ·obtain⟨f,d,a,F⟩:=df.at_ e he;exact⟨f,d,fF X G a,F⟩
  ·rw[hg]at e;obtain ⟨i,u,q,a⟩ |⟨i,u,q,a⟩:=gl.at_ _ (uq e)
   ·exact .inl ⟨i,u,q,fF X G a⟩
   ·exact .inr ⟨i,u,q,fF X G a⟩
  ·obtain⟨C,a⟩:=xs.at_ x m;exact⟨C,a,fF X G a.nm⟩
  ·obtain⟨C,a⟩:=xs.at_ _ (hx p m);obtain⟨C',D,b,c,d⟩:=ex.at_ p m;have:=a.nm.symm.trans b;cases this;exact⟨C,D,a,fF X G c,d⟩
  ·obtain⟨C,a,b,c,d⟩:=kl.at_ _ (hk y hy);exact⟨C,a,b,c,d,fF X G a⟩
  ·rw[hf]at e;have:=uq e;obtain⟨C,a,b,_⟩:=kl.at_ _ (hh _ this);obtain⟨C',a',c⟩:=nf.at_ _ this;cases a.symm.trans a';exact⟨C,a,b,c⟩
 obtain⟨f,d,m,F⟩:=wh.df e0 h0;rw[hn]at m;cases hfa.symm.trans m;have h1:=gp (mt.map Em.e) h0;refine⟨d,λs v=>?_,λbase _ _=>?_⟩
 ·obtain⟨oc,od,kV,doc,pm,an,cdv,ct,osl,rfl,lkT,hcd⟩:=F.ex;have z:=wh.bd kV doc pm an cdv ct v v v v v v e0 h0;have k1:e0.k=1:=by have:=(En.sc (wh.ok e0 h1)).2.1;rw[hp]at this;exact this.symm
  unfold En.bd En.bq at z;rw[k1,hp]at z;exact .of_eq z
 ·have:=wh.fn (P:=l.prog) (w:=w) (base:=base) room e0 h1 fa d _ F;rw[hp,hc]at this;exact this
def Qm{r:Nat}{x:ah}{s:ah×nD}(h:xv mt r x=aa s):∃y∈mt,y.e.eNm=x∧s=(y.l,y.e.c r):=by
 obtain⟨e,he,q⟩:=bp.mp (uq h);cases q;exact⟨e,he,rfl,rfl⟩
def Tg{r:Nat}{x:ah}{s:nD}(h:CF mt r x=aa s):∃y∈mt,y.l=x∧y.e.eNm= "__init__" ∧s=y.e.c r:=by
 obtain⟨e,he,q⟩:=bp.mp (uq h);obtain⟨h1,h2⟩:=iT.mp he;cases q;exact⟨e,h1,rfl,beq_iff_eq.mp h2,rfl⟩
def Ww{r:Nat}:FJ tab mt r (lkT tab r) (xv mt r) λ_=>none:=⟨λx s q=>let ⟨a,b,c,d⟩:=JD q;⟨a,b,c,r,aE _,d⟩,λx s q=>let ⟨a,b,c,d⟩:=Qm q;⟨a,b,c,r,aE _,d⟩,λ_ _ q=>nomatch q⟩
def Mn{r:Nat}:FJ tab mt (r+1) (lkT tab (r+1)) (xv mt (r+1)) (CF mt r):=⟨λx s q=>let ⟨a,b,c,d⟩:=JD q;⟨a,b,c,r+1,aE _,d⟩,λx s q=>let ⟨a,b,c,d⟩:=Qm q;⟨a,b,c,r+1,aE _,d⟩,λx s q=>let ⟨a,b,c,d,e⟩:=Tg q;⟨a,b,c,d,r,aE _,e⟩⟩
def Md{u:List En}(r:Nat) (h:(u.map λe=>e.c (r+1))=u.map λe=>e.rd { B with fn:=lkT tab r,me:=xv mt r,mi:=λ_=>none }):∀e∈u,DH tab mt B r e:=λe he=> .inr ⟨_,_,_,Ww,DB h e he⟩
end
def xH:Nat→nD
 |0=>nG
 |r+1=>on 1 1 (kj (og (oY (rg "int" (eQ 0))) (nM (nS ae)) oh)
  (nM (pD (eQ 0) (woS 1.0) py)))
def LJ (r:Nat) (self:nD):WS:=(kj (vZ 1 (λa b=>a+b) 1.0)
  (kj (jj (wM qq B' (eQ 2) ae) (wGN 3))
  (pX (wM qq xr (eQ 2) {nF (xH r) {eQ 3}}))))
def Bw:Nat→nD
 |0=>nG
 |r+1=>on 4 1 (kj (jj 0.0 (wGN 1))
  (kj (jj (ox (oI {eQ 0})) (wGN 2))
  (kj (xy (oY (eQ 2)) (LJ r nG))
  (nM (eQ 1)))))
def Bb (r:Nat) (self:nD):WS:=(pX (wM qq xr (eQ 1) {nF (xH r) {eQ 2}}))
def yt:Nat→nD
 |0=>nG
 |r+1=>on 3 1 (kj (jj (ox (oI ae)) (wGN 1))
  (kj (pR (px (eQ 0)) (wGN 2) (Bb r nG))
  (nM (eQ 1))))
def Ge (r:Nat) (self:nD):WS:=(kj (vZ 1 (λa b=>a+b) (wB pq {eQ 3}))
  (kj (vZ 2 (λa b=>a+b) 1.0)
  (kj (og (rV (oo (wOp sZ (eQ 1) 400.0)) (oo (wOp sZ (eQ 2) 40.0))) (nM (wC (.bl false))) oh)
  (jj (nF (yt r) {eQ 3}) (wGN 3)))))
def xb:Nat→nD
 |0=>nG
 |r+1=>on 4 1 (kj (jj 0.0 (wGN 1))
  (kj (jj 0.0 (wGN 2))
  (kj (jj (ox (oI {eQ 0})) (wGN 3))
  (kj (xy (oY (eQ 3)) (Ge r nG))
  (nM (wC (.bl true)))))))
def Ea (r:Nat) (self:nD):WS:=(pX (nF self {eQ 4,wOp oX (eQ 1) (nS {eQ 3}),eQ 2}))
def xU:Nat→nD
 |0=>nG
 |r+1=>on 5 3 (kj (pX (wM qq rO (eQ 2) {eQ 1}))
  (pR (vv (nF (xH r) {eQ 0})) (qx (oU (wGN 3) (oU (wGN 4) qh))) (Ea r (xU r))))
def Be:Nat→nD
 |0=>nG
 |r+1=>on 2 1 (kj (jj (ox (oI ae)) (wGN 1))
  (kj (pX (nF (xU r) {eQ 0,nS ae,eQ 1}))
  (nM (eQ 1))))
def Ca:Nat→nD
 |0=>nG
 |r+1=>on 3 2 (kj (jj (nF (xH r) {eQ 0}) (wGN 2))
  (kj (og (rV (oo (wOp yK (eQ 1) 0.0)) (oo (wOp IN (eQ 1) (wB pq {eQ 2})))) (rk "NoPlace" {wC (.str "there is no such place")}) oh)
  (nM (wOp nC (eQ 2) (eQ 1)))))
def GH (r:Nat) (self:nD):WS:=(jj (nF (Ca r) {eQ 2,eQ 3}) (wGN 2))
def yr:Nat→nD
 |0=>nG
 |r+1=>on 4 2 (kj (jj (eQ 0) (wGN 2))
  (kj (pR (px (eQ 1)) (wGN 3) (GH r nG))
  (nM (eQ 2))))
def Qz (r:Nat) (self:nD):WE:=(eQ 0)
def Bv:Nat→nD
 |0=>nG
 |r+1=>on 1 1 (nM (ox (pT 1 [0] (px (nF (Be r) {eQ 0})) (wGN 0) (oY (rg "int" (nF (yr r) {eQ 1,eQ 0}))) (Qz r nG))))
def KM (r:Nat) (self:nD):WE:=(nF (yr r) {eQ 1,eQ 0})
def yN:Nat→nD
 |0=>nG
 |r+1=>on 1 1 (nM (ox (pT 1 [0] (px (nF (Bv r) {eQ 0})) (wGN 0) pP (KM r nG))))
def Oh (r:Nat) (self:nD):WE:=(nF self {eQ 0,eQ 1})
def v8:Nat→nD
 |0=>nG
 |r+1=>on 2 2 (kj (og (oY (rg "int" (eQ 0))) (nM (wOp nC (eQ 1) (eQ 0))) oh)
  (nM (wOp oX (nS {wOp nC (eQ 0) 0.0}) (rN xC (pT 1 [1] (px (pD (eQ 0) (woS 1.0) py)) (wGN 0) pP (Oh r (v8 r)))))))
def zK:Nat→nD
 |0=>nG
 |r+1=>on 2 2 (nM (sP (wOp (o4 false) (wOp nC (eQ 0) 0.0) (wOp nC (eQ 1) 0.0)) (wOp (o4 false) (wB pq {eQ 0}) (wB pq {eQ 1}))))
def Ew (r:Nat) (self:nD):WS:=(og (qF (oY (nF self {eQ 3,eQ 4,eQ 2}))) (nM (wC (.bl false))) oh)
def vV:Nat→nD
 |0=>nG
 |r+1=>on 5 3 (kj (og (oY (rg "int" (eQ 0))) (kj (pX (wM qq rO (eQ 2) {eQ 1}))
  (nM (wC (.bl true)))) oh)
  (kj (og (qF (oY (nF (zK r) {eQ 0,eQ 1}))) (nM (wC (.bl false))) oh)
  (kj (pR (t_ (pD (eQ 0) (woS 1.0) py) (pD (eQ 1) (woS 1.0) py)) (qx (oU (wGN 3) (oU (wGN 4) qh))) (Ew r (vV r)))
  (nM (wC (.bl true))))))
def vq:Nat→nD
 |0=>nG
 |r+1=>on 3 2 (kj (jj (ox (oI ae)) (wGN 2))
  (kj (og (oY (nF (vV r) {eQ 0,eQ 1,eQ 2})) (nM (eQ 2)) oh)
  (nM (wC .bR))))
def C5 (r:Nat) (self:nD):WE:=(nF self {eQ 0,eQ 1})
def uV:Nat→nD
 |0=>nG
 |r+1=>on 2 2 (kj (og (rV (oY (rg "int" (eQ 0))) (oY (rg "int" (eQ 1)))) (nM (wC (.bl true))) oh)
  (nM (sP (nF (zK r) {eQ 0,eQ 1}) (rN tR (pT 2 [] (t_ (pD (eQ 0) (woS 1.0) py) (pD (eQ 1) (woS 1.0) py)) (qx (oU (wGN 0) (oU (wGN 1) qh))) pP (C5 r (uV r)))))))
def Po (r:Nat) (self:nD):WE:=(uD rZ rZ (wC (.str "a")) (eQ 0) (wC (.str "z")))
def BI:Nat→nD
 |0=>nG
 |r+1=>on 1 1 (nM (rN tR (pT 1 [] (px (eQ 0)) (wGN 0) pP (Po r nG))))
def xg:Nat→nD
 |0=>nG
 |r+1=>on 1 1 (nM (sP (uD rZ rZ 1.0 (wB pq {eQ 0}) 8.0) (nF (BI r) {eQ 0})))
def y_:Nat→nD
 |0=>nG
 |r+1=>on 1 1 (nM (sP (uD rZ rZ 1.0 (wB pq {eQ 0}) 8.0) (sP (uD rZ rZ (wC (.str "A")) (wOp nC (eQ 0) 0.0) (wC (.str "Z"))) (nF (BI r) {pD (eQ 0) (woS 1.0) py}))))
def Dm:Nat→nD
 |0=>nG
 |r+1=>on 3 3 (kj (yq "Reader" "text" (eQ 0) (eQ 1))
  (kj (yq "Reader" "in_side" (eQ 0) (eQ 2))
  (yq "Reader" "at" (eQ 0) 0.0)))
def xz:Nat→nD
 |0=>nG
 |r+1=>on 1 1 (nM (pD (tY "Reader" "text" (eQ 0)) (woS (tY "Reader" "at" (eQ 0))) (woS (wOp oX (tY "Reader" "at" (eQ 0)) 1.0))))
def LZ (r:Nat) (self:nD):WS:=(za "Reader" "at" (eQ 0) 1.0)
def BM:Nat→nD
 |0=>nG
 |r+1=>on 2 1 (kj (jj (tY "Reader" "at" (eQ 0)) (wGN 1))
  (kj (xy (oo (wOp (ud true) (tT "Reader" "here" (xz r) (eQ 0) ae) (nS (fX (wC (.str "")) (fX (wC (.str "(")) (fX (wC (.str ",")) (fX (wC (.str ")")) ae))))))) (LZ r nG))
  (nM (pD (tY "Reader" "text" (eQ 0)) (woS (eQ 1)) (woS (tY "Reader" "at" (eQ 0)))))))
def Cs (r:Nat) (self:nD):WS:=(kj (za "Reader" "at" (eQ 0) 1.0)
  (pX (wM qq rO (eQ 2) {tT "Reader" "read_thing" self (eQ 0) {eQ 1}})))
def wG (cT:nD):Nat→nD
 |0=>nG
 |r+1=>on 3 2 (kj (og (oo (wOp (o4 true) (tT "Reader" "here" (xz r) (eQ 0) ae) (wC (.str "(")))) (nM (nS ae)) oh)
  (kj (jj (ox (oI ae)) (wGN 2))
  (kj (xy (rV (qF (oY (eQ 2))) (oo (wOp (o4 false) (tT "Reader" "here" (xz r) (eQ 0) ae) (wC (.str ","))))) (Cs r cT))
  (kj (og (oo (wOp (o4 true) (tT "Reader" "here" (xz r) (eQ 0) ae) (wC (.str ")")))) (rk "NoText" {wC (.str "a bracket is not closed")}) oh)
  (kj (za "Reader" "at" (eQ 0) 1.0)
  (nM (wB sM {eQ 2})))))))
def P6 (r:Nat) (self:nD):WE:=(uD rZ rZ (wC (.str "0")) (eQ 0) (wC (.str "9")))
def DN:Nat→nD
 |0=>nG
 |r+1=>on 1 1 (kj (og (qF (oY (rN tR (pT 1 [] (px (eQ 0)) (wGN 0) pP (P6 r nG))))) (nM (wC (.bl false))) oh)
  (nM (BJ (wOp (o4 false) (wB pq {eQ 0}) 1.0) (sP (wOp (o4 false) (wB pq {eQ 0}) 2.0) (wOp (o4 true) (wOp nC (eQ 0) 0.0) (wC (.str "0")))))))
def yV:Nat→nD
 |0=>nG
 |r+1=>on 1 1 (nM (sP (wOp (o4 false) (pD (eQ 0) py (woS 1.0)) (wC (.str "?"))) (nF (DN r) {pD (eQ 0) (woS 1.0) py})))
def tU:Nat→nD
 |0=>nG
 |1=>nG
 |r+2=>on 3 2 (kj (og (oo (wOp (o4 false) (eQ 1) 0.0)) (rk "NoText" {wC (.str "the text is nested too deep")}) oh)
  (kj (jj (tT "Reader" "read_word" (BM (r+1)) (eQ 0) ae) (wGN 2))
  (kj (og (sx (oY (tY "Reader" "in_side" (eQ 0))) (oY (nF (yV (r+1)) {eQ 2}))) (nM (wB yB {pD (eQ 2) (woS 1.0) py})) oh)
  (kj (og (sx (qF (oY (nF (xg (r+1)) {eQ 2}))) (rV (oY (tY "Reader" "in_side" (eQ 0))) (qF (oY (nF (y_ (r+1)) {eQ 2}))))) (rk "NoText" {wC (.str "a word of the text is none that may stand there")}) oh)
  (nM (wOp oX (nS {eQ 2}) (tT "Reader" "read_parts" (wG (tU r) (r+1)) (eQ 0) {wOp (rK λi j=> .int (i - j)) (eQ 1) 1.0})))))))
def Am:Nat→nD
 |0=>nG
 |r+1=>on 1 1 (kj (og (qF (oY (rg "str" (eQ 0)))) (rk "NoText" {wC (.str "this is no text")}) oh)
  (og (oo (wOp sZ (wB pq {eQ 0}) 4000.0)) (rk "NoText" {wC (.str "the text is too long")}) oh))
def yG:Nat→nD
 |0=>nG
 |1=>nG
 |r+2=>on 4 2 (kj (pX (nF (Am (r+1)) {eQ 0}))
  (kj (jj (DF "Reader" (Dm r) {eQ 0,eQ 1}) (wGN 2))
  (kj (jj (tT "Reader" "read_thing" (tU (r+1)) (eQ 2) {40.0}) (wGN 3))
  (kj (og (oo (wOp (o4 true) (tY "Reader" "at" (eQ 2)) (wB pq {eQ 0}))) (rk "NoText" {wC (.str "something stands behind the end")}) oh)
  (kj (og (qF (oY (nF (xb (r+1)) {eQ 3}))) (rk "NoText" {wC (.str "the text tells of a thing that is not small")}) oh)
  (nM (eQ 3)))))))
def yY:Nat→nD
 |0=>nG
 |r+1=>on 1 1 (nM (nF (yG r) {eQ 0,wC (.bl false)}))
def A4:Nat→nD
 |0=>nG
 |r+1=>on 1 1 (nM (nF (yG r) {eQ 0,wC (.bl true)}))
def C9:Nat→nD
 |0=>nG
 |r+1=>on 4 1 (kj (pX (nF (Am r) {eQ 0}))
  (kj (jj (wM tF xS (eQ 0) {wC (.str ": ")}) (wGN 1))
  (kj (jj (wOp nC (eQ 1) 0.0) (wGN 2))
  (kj (jj (wM tF xS (wOp nC (eQ 1) 2.0) {wC (.str " > ")}) (wGN 3))
  (kj (og (qF (oY (nF (y_ r) {eQ 2}))) (rk "NoText" {wC (.str "a turning's text begins with a title")}) oh)
  (nM (nS {eQ 2,nF (A4 r) {wOp nC (eQ 3) 0.0},nF (A4 r) {wOp nC (eQ 3) 2.0}})))))))
def Kn (r:Nat) (self:nD):WE:=(wOp (ud false) (eQ 0) (eQ 1))
def CZ:Nat→nD
 |0=>nG
 |r+1=>on 4 1 (kj (jj (wOp nC (eQ 0) 1.0) (wGN 1))
  (kj (jj (wOp nC (eQ 0) 2.0) (wGN 2))
  (kj (og (rV (qF (oY (nF (y_ r) {wOp nC (eQ 0) 0.0}))) (oY (rg "int" (eQ 1)))) (nM (wC (.bl false))) oh)
  (kj (og (rV (oo (wOp sZ (nF (Bw r) {eQ 1}) 12.0)) (oo (wOp sZ (nF (Bw r) {eQ 2}) 12.0))) (nM (wC (.bl false))) oh)
  (kj (jj (nF (yN r) {eQ 1}) (wGN 3))
  (nM (sP (wOp (o4 false) (eQ 3) (ox (zS (wB pq {eQ 3})))) (rN tR (pT 1 [3] (px (nF (yN r) {eQ 2})) (wGN 0) pP (Kn r nG))))))))))
def Ly (r:Nat) (self:nD):WS:=(kj (jj (sP (wOp (o4 false) (eQ 3) (nS ae)) (wOp (o4 false) (eQ 5) (eQ 1))) (wGN 7))
  (og (sx (qF (oY (rg "int" (eQ 4)))) (sx (qF (oY (eQ 7))) (oY (nF (uV r) {eQ 4,wOp nC (eQ 6) 1.0})))) (nM (nS {eQ 1,eQ 5,eQ 3})) oh))
def JK (r:Nat) (self:nD):WS:=(kj (jj (nF (yr r) {eQ 2,eQ 3}) (wGN 4))
  (pR (vv (eQ 0)) (qx (oU (wGN 5) (oU (wGN 6) qh))) (Ly r nG)))
def BU:Nat→nD
 |0=>nG
 |r+1=>on 8 2 (kj (jj (wOp nC (wOp nC (eQ 0) (eQ 1)) 1.0) (wGN 2))
  (kj (pR (px (nF (Be r) {eQ 2})) (wGN 3) (JK r nG))
  (nM (wC .bR))))
def K0 (r:Nat) (self:nD):WS:=(kj (jj (nF (BU r) {eQ 0,eQ 1}) (wGN 2))
  (og (oo (wOp (p6 true) (eQ 2) (wC .bR))) (nM (eQ 2)) oh))
def C7:Nat→nD
 |0=>nG
 |r+1=>on 3 1 (kj (pR (ux {wB pq {eQ 0}}) (wGN 1) (K0 r nG))
  (nM (wC .bR)))
def Hs (r:Nat) (self:nD):WS:=(kj (og (qF (oY (nF (CZ r) {eQ 2}))) (rk "NoTurning" {wC (.str "one of them is no turning")}) oh)
  (kj (og (oo (wOp (ud false) (wOp nC (eQ 2) 0.0) (eQ 1))) (rk "NoTurning" {wC (.str "a title comes twice")}) oh)
  (pX (wM qq rO (eQ 1) {wOp nC (eQ 2) 0.0}))))
def C8:Nat→nD
 |0=>nG
 |r+1=>on 3 1 (kj (og (oo (wOp sZ (wB pq {eQ 0}) 8.0)) (rk "NoTurning" {wC (.str "there are more turnings than a book holds")}) oh)
  (kj (jj (ox (oI ae)) (wGN 1))
  (kj (pR (px (eQ 0)) (wGN 2) (Hs r nG))
  (kj (og (oo (wOp (p6 true) (nF (C7 r) {eQ 0}) (wC .bR))) (rk "Clash" {wC (.str "a turning clashes with one")}) oh)
  (nM (ox (yj (eQ 0))))))))
def Jk (r:Nat) (self:nD):WS:=(og (oo (wOp (o4 false) (wOp nC (eQ 2) 0.0) (eQ 1))) (nM (eQ 2)) oh)
def uY:Nat→nD
 |0=>nG
 |r+1=>on 3 2 (kj (pR (px (eQ 0)) (wGN 2) (Jk r nG))
  (nM (wC .bR)))
def BR:Nat→nD
 |0=>nG
 |r+1=>on 3 2 (kj (jj (nF (uY r) {eQ 0,wOp nC (eQ 1) 0.0}) (wGN 2))
  (kj (og (oo (wOp (p6 false) (eQ 2) (wC .bR))) (nM (nF (xg r) {wOp nC (eQ 1) 0.0})) oh)
  (nM (wOp (o4 false) (wOp (rK λi j=> .int (i - j)) (wB pq {eQ 1}) 1.0) (wB pq {nF (yN r) {wOp nC (eQ 2) 1.0}})))))
def Qe (r:Nat) (self:nD):WE:=(nF self {eQ 1,eQ 0})
def yu:Nat→nD
 |0=>nG
 |r+1=>on 2 2 (nM (sP (nF (BR r) {eQ 0,eQ 1}) (rN tR (pT 1 [0] (px (pD (eQ 1) (woS 1.0) py)) (wGN 0) pP (Qe r (yu r))))))
def Aw:Nat→nD
 |0=>nG
 |r+1=>on 1 1 (kj (og (qF (oY (nF (xb r) {eQ 0}))) (rk "TooGreat" {wC (.str "the shape is not small")}) oh)
  (nM (eQ 0)))
def On (r:Nat) (self:nD):WE:=(nF self {eQ 1,eQ 0,eQ 2})
def Bf:Nat→nD
 |0=>nG
 |r+1=>on 5 3 (kj (jj (ox (pT 1 [0,2] (px (pD (eQ 1) (woS 1.0) py)) (wGN 0) pP (On r (Bf r)))) (wGN 3))
  (kj (jj (nF (uY r) {eQ 0,wOp nC (eQ 1) 0.0}) (wGN 4))
  (kj (og (oo (wOp (p6 false) (eQ 4) (wC .bR))) (nM (wOp oX (nS {wOp nC (eQ 1) 0.0}) (wB sM {eQ 3}))) oh)
  (nM (nF (v8 r) {wOp nC (eQ 4) (eQ 2),eQ 3})))))
def yH:Nat→nD
 |0=>nG
 |r+1=>on 2 2 (nM (nF (Aw r) {nF (Bf r) {eQ 0,eQ 1,2.0}}))
def LA (r:Nat) (self:nD):WE:=(nS {eQ 0})
def Bo:Nat→nD
 |0=>nG
 |r+1=>on 3 2 (kj (jj (nF (uY r) {eQ 0,wOp nC (eQ 1) 0.0}) (wGN 2))
  (kj (og (oo (wOp (p6 false) (eQ 2) (wC .bR))) (nM (ox (pT 1 [] (ux {wOp (rK λi j=> .int (i - j)) (wB pq {eQ 1}) 1.0}) (wGN 0) pP (LA r nG)))) oh)
  (nM (nF (Bv r) {wOp nC (eQ 2) 1.0}))))
def N0 (r:Nat) (self:nD):WS:=(og (oo (wOp (p6 true) (nF (vq r) {wOp nC (eQ 2) 1.0,eQ 1}) (wC .bR))) (nM (eQ 2)) oh)
def Bj:Nat→nD
 |0=>nG
 |r+1=>on 3 2 (kj (pR (px (eQ 0)) (wGN 2) (N0 r nG))
  (nM (wC .bR)))
def Fe (r:Nat) (self:nD):WS:=(pX (nF self {eQ 0,eQ 6,wOp oX (eQ 2) (nS {eQ 5}),eQ 3}))
def zi:Nat→nD
 |0=>nG
 |r+1=>on 7 4 (kj (jj (nF (Bj r) {eQ 0,eQ 1}) (wGN 4))
  (kj (og (oo (wOp (p6 true) (eQ 4) (wC .bR))) (pX (wM qq rO (eQ 3) {nS {eQ 2,wOp nC (eQ 4) 0.0}})) oh)
  (pR (vv (pD (eQ 1) (woS 1.0) py)) (qx (oU (wGN 5) (oU (wGN 6) qh))) (Fe r (zi r)))))
def Dk:Nat→nD
 |0=>nG
 |r+1=>on 3 2 (kj (jj (ox (oI ae)) (wGN 2))
  (kj (pX (nF (zi r) {eQ 0,eQ 1,nS ae,eQ 2}))
  (nM (eQ 2))))
def Lj (r:Nat) (self:nD):WE:=(wOp nC (eQ 0) 0.0)
def B9:Nat→nD
 |0=>nG
 |r+1=>on 1 1 (nM (ox (pT 1 [] (px (eQ 0)) (wGN 0) pP (Lj r nG))))
def Cm:Nat→nD
 |0=>nG
 |r+1=>on 3 2 (kj (jj (nF (Bj r) {eQ 0,eQ 1}) (wGN 2))
  (nM (wOp oX (nS {wOp nC (eQ 2) 0.0}) (wB sM {nF (vq r) {wOp nC (eQ 2) 1.0,eQ 1}}))))
def CG (r:Nat) (self:nD):WS:=(pX (wM qq rO (eQ 5) {nF self {eQ 0,eQ 7,wOp oX (eQ 2) (eQ 6),eQ 3}}))
def vy:Nat→nD
 |0=>nG
 |r+1=>on 8 4 (kj (jj (A8 (oo (wOp (yA false) (eQ 2) (eQ 3))) (nF (Cm r) {eQ 0,eQ 1}) (eQ 1)) (wGN 4))
  (kj (jj (ox (oI ae)) (wGN 5))
  (kj (pR (t_ (nF (Bo r) {eQ 0,eQ 4}) (pD (eQ 4) (woS 1.0) py)) (qx (oU (wGN 6) (oU (wGN 7) qh))) (CG r (vy r)))
  (nM (wOp oX (nS {wOp nC (eQ 4) 0.0}) (wB sM {eQ 5}))))))
def Qc (r:Nat) (self:nD):WE:=(nS {eQ 0,wC (.bl true)})
def DA:Nat→nD
 |0=>nG
 |r+1=>on 3 3 (nM (nF (vy r) {eQ 0,eQ 1,nS ae,rN xm (pT 1 [] (px (eQ 2)) (wGN 0) pP (Qc r nG))}))
def KA (r:Nat) (self:nD):WS:=(og (oo (wOp (ud true) (eQ 4) (eQ 3))) (rk "NoUse" {wC (.str "no use is open at one of the places")}) oh)
def zY:Nat→nD
 |0=>nG
 |r+1=>on 5 3 (kj (jj (nF (B9 r) {nF (Dk r) {eQ 0,eQ 1}}) (wGN 3))
  (kj (pR (px (eQ 2)) (wGN 4) (KA r nG))
  (nM (nF (DA r) {eQ 0,eQ 1,eQ 2}))))
def FU (r:Nat) (self:nD):WE:=(nF self {eQ 2,eQ 0,eQ 1})
def uI:Nat→nD
 |0=>nG
 |r+1=>on 8 3 (kj (jj (nF (uY r) {eQ 0,wOp nC (eQ 1) 0.0}) (wGN 3))
  (kj (jj (nF (uY r) {eQ 0,wOp nC (eQ 2) 0.0}) (wGN 4))
  (kj (jj (pD (eQ 1) (woS 1.0) py) (wGN 5))
  (kj (jj (pD (eQ 2) (woS 1.0) py) (wGN 6))
  (kj (og (sx (oo (wOp (p6 false) (eQ 3) (wC .bR))) (oo (wOp (p6 true) (eQ 4) (wC .bR)))) (jj (nF (vq r) {wOp nC (eQ 4) 1.0,eQ 1}) (wGN 5)) oh)
  (kj (og (sx (oo (wOp (p6 true) (eQ 3) (wC .bR))) (oo (wOp (p6 false) (eQ 4) (wC .bR)))) (jj (nF (vq r) {wOp nC (eQ 3) 1.0,eQ 2}) (wGN 6)) oh)
  (kj (jj (ox (pT 2 [0] (t_ (eQ 5) (eQ 6)) (qx (oU (wGN 0) (oU (wGN 1) qh))) pP (FU r (uI r)))) (wGN 7))
  (kj (og (oo (wOp (p6 false) (eQ 4) (wC .bR))) (nM (wOp oX (nS {wOp nC (eQ 1) 0.0}) (wB sM {eQ 7}))) oh)
  (nM (nF (v8 r) {wOp nC (eQ 4) 2.0,eQ 7}))))))))))
def Kt (r:Nat):WS:=(nM (nF (yH r) {eQ 0,wOp nC (wOp nC (eQ 1) 1.0) (sk 1.0)}))
def IM (r:Nat) (T:WS):WS:=(kj (og (qF (oY (wOp nC (eQ 1) 1.0))) (nM (wOp nC (eQ 1) 0.0)) oh) T)
def Dg:Nat→nD
 |0=>nG
 |r+1=>on 2 2 (IM r (Kt r))
def FG (r:Nat) (self:nD):WS:=(pX (nF (yH r) {eQ 0,eQ 2}))
def v7:Nat→nD
 |0=>nG
 |r+1=>on 3 2 (pR (px (eQ 1)) (wGN 2) (FG r nG))
def J9 (r:Nat):WS:=(nM (eQ 3))
def O7 (r:Nat):WS:=(pX (wM qq rO (eQ 3) {eQ 5}))
def LF (r:Nat) (T:WS):WS:=(kj (pX (nF (v7 r) {eQ 0,ox (oI {eQ 5})})) T)
def NS (r:Nat) (T:WS):WS:=(kj (jj (nF (uI r) {eQ 0,wOp nC (eQ 3) (sk 1.0),eQ 4}) (wGN 5)) T)
def Ga (r:Nat) (self:nD):WS:=(NS r (LF r (O7 r)))
def Nw (r:Nat) (T:WS):WS:=(kj (pR (px (eQ 2)) (wGN 4) (Ga r nG)) T)
def Kb (r:Nat) (T:WS):WS:=(kj (jj (ox (oI {eQ 1})) (wGN 3)) T)
def yE:Nat→nD
 |0=>nG
 |r+1=>on 6 3 (Kb r (Nw r (J9 r)))
def Ja (r:Nat):WS:=(nM (nS {eQ 3,eQ 5}))
def J8 (r:Nat) (self:nD):WE:=(nF (uI r) {eQ 2,eQ 0,eQ 1})
def FA (r:Nat):WS:=(pX (wM qq rO (eQ 5) {eQ 4}))
def Hj (r:Nat) (T:WS):WS:=(kj (pX (wM qq rO (eQ 3) {eQ 7})) T)
def FH (r:Nat) (T:WS):WS:=(kj (jj (ox (pT 2 [0] (t_ (eQ 4) (eQ 7)) (qx (oU (wGN 0) (oU (wGN 1) qh))) pP (J8 r nG))) (wGN 4)) T)
def OB (r:Nat) (T:WS):WS:=(kj (jj (nF (yE r) {eQ 0,eQ 6,eQ 4}) (wGN 7)) T)
def Fl (r:Nat) (self:nD):WS:=(OB r (FH r (Hj r (FA r))))
def HQ (r:Nat) (T:WS):WS:=(kj (pR (px (wOp nC (eQ 1) 1.0)) (wGN 6) (Fl r nG)) T)
def EZ (r:Nat) (T:WS):WS:=(kj (jj (ox (oI {eQ 4})) (wGN 5)) T)
def FS (r:Nat) (T:WS):WS:=(kj (jj (ox (yj (wOp nC (eQ 2) 1.0))) (wGN 4)) T)
def Ep (r:Nat) (T:WS):WS:=(kj (jj (ox (oI ae)) (wGN 3)) T)
def IK (r:Nat) (T:WS):WS:=(kj (pX (nF (v7 r) {eQ 0,wOp nC (eQ 2) 1.0})) T)
def K8 (r:Nat) (T:WS):WS:=(kj (pX (nF (v7 r) {eQ 0,wOp nC (eQ 1) 1.0})) T)
def GG (r:Nat) (T:WS):WS:=(kj (pX (nF (Aw r) {wOp nC (eQ 1) 0.0})) T)
def O0 (r:Nat) (T:WS):WS:=(kj (og (oo (wOp (o4 true) (wOp nC (eQ 1) 0.0) (wOp nC (eQ 2) 0.0))) (rk "Apart" {wC (.str "the roads are not from one shape")}) oh) T)
def D':Nat→nD
 |0=>nG
 |r+1=>on 8 3 (O0 r (GG r (K8 r (IK r (Ep r (FS r (EZ r (HQ r (Ja r)))))))))
def NE (r:Nat) (self:nD):WE:=(wOp nC (eQ 0) (sk 1.0))
def Ch:Nat→nD
 |0=>nG
 |r+1=>on 1 1 (nM (ox (pT 1 [] (px (wOp nC (eQ 0) 0.0)) (wGN 0) pP (NE r nG))))
def Mu (r:Nat):WS:=(nM (nS {nF (Dg r) {eQ 0,eQ 2},eQ 3}))
def KF (r:Nat) (T:WS):WS:=(kj (jj (nF (Ch r) {nF (D' r) {eQ 0,eQ 1,eQ 2}}) (wGN 3)) T)
def yP:Nat→nD
 |0=>nG
 |r+1=>on 4 3 (KF r (Mu r))
def ua:Nat→nD
 |0=>nG
 |r+1=>on 2 2 (kj (og (oo (wOp yK (eQ 1) (wB pq {eQ 0}))) (nM (wOp nC (eQ 0) (eQ 1))) oh)
  (nM 0.0))
def Jv (r:Nat) (self:nD):WE:=(wOp nC (eQ 1) (wOp (oZ (λ_ j=>0<j) λi j=> .int (i % j)) (wOp oX (wOp nC (eQ 2) (eQ 0)) (wOp (oZ qO λi j=> .int (i*j)) (eQ 3) (wB vY {wOp (o4 false) (eQ 0) (eQ 4)}))) 26.0))
def Ol (r:Nat) (self:nD):WS:=(kj (jj (wS tF xn (wC (.str "")) (pT 1 [3,5,6,7] (ux {wB pq {eQ 5}}) (wGN 0) pP (Jv r nG))) (wGN 9))
  (kj (og (oY (eQ 2)) (jj (wOp oX (wM tF zH (wOp nC (eQ 9) 0.0) ae) (pD (eQ 9) (woS 1.0) py)) (wGN 9)) oh)
  (pX (wM qq rO (eQ 8) {eQ 9}))))
def G4 (r:Nat) (self:nD):WS:=(kj (pX (wM qq rO (eQ 5) {wOp (oZ (λ_ j=>0<j) λi j=> .int (i % j)) (eQ 4) 26.0}))
  (jj (wOp (oZ sF λi j=> .int (i / j)) (eQ 4) 26.0) (wGN 4)))
def AV:Nat→nD
 |0=>nG
 |r+1=>on 10 3 (kj (jj (wC (.str "abcdefghijklmnopqrstuvwxyz")) (wGN 3))
  (kj (jj (wOp (oZ (λ_ j=>0<j) λi j=> .int (i % j)) (eQ 1) (wOp (oZ zE λi j=> .int (i ^ j.toNat)) 26.0 8.0)) (wGN 4))
  (kj (jj (ox (oI ae)) (wGN 5))
  (kj (pR (ux {wOp oX 1.0 (wOp (oZ (λ_ j=>0<j) λi j=> .int (i % j)) (eQ 0) 8.0)}) (wGN 6) (G4 r nG))
  (kj (jj (wOp (oZ (λ_ j=>0<j) λi j=> .int (i % j)) (wOp (oZ sF λi j=> .int (i / j)) (eQ 0) 8.0) (wB pq {eQ 5})) (wGN 7))
  (kj (jj (ox (oI ae)) (wGN 8))
  (kj (pR (ux {6.0}) (wGN 6) (Ol r nG))
  (kj (og (sx (oo (wOp (o4 false) (wOp (oZ (λ_ j=>0<j) λi j=> .int (i % j)) (wOp (oZ sF λi j=> .int (i / j)) (eQ 0) 64.0) 2.0) 1.0)) (qF (oY (eQ 2)))) (jj (ox (ve (ww (eQ 8) py (woS 3.0)) (oI {wOp nC (eQ 8) 2.0,wOp nC (eQ 8) 2.0,wOp nC (eQ 8) 5.0}))) (wGN 8)) oh)
  (nM (eQ 8))))))))))
def O6 (r:Nat) (self:nD):WE:=(nF self {eQ 0})
def wc:Nat→nD
 |0=>nG
 |r+1=>on 1 1 (kj (og (oY (rg "int" (eQ 0))) (nM 1.0) oh)
  (nM (rN wX (pT 1 [] (px (pD (eQ 0) (woS 1.0) py)) (wGN 0) pP (O6 r (wc r))))))
def MY (r:Nat) (self:nD):WE:=(nF self {eQ 0,eQ 1})
def xt:Nat→nD
 |0=>nG
 |r+1=>on 2 2 (kj (og (oY (rg "int" (eQ 0))) (nM (wOp nC (eQ 1) (eQ 0))) oh)
  (nM (wOp oX (pD (eQ 0) py (woS 1.0)) (rN xC (pT 1 [1] (px (pD (eQ 0) (woS 1.0) py)) (wGN 0) pP (MY r (xt r)))))))
def BT:Nat→nD
 |0=>nG
 |r+1=>on 4 4 (kj (og (oo (wOp (o4 false) (eQ 0) 0.0)) (nM (ox (oI {nS {eQ 1,0.0}}))) oh)
  (kj (og (oo (wOp (o4 false) (eQ 0) 1.0)) (nM (ox (oI {nS {eQ 1,0.0,1.0}}))) oh)
  (kj (og (oo (wOp (o4 false) (eQ 0) 2.0)) (nM (ox (oI {nS {eQ 1,nS {eQ 2}},nS {eQ 1,nS {eQ 3,0.0}}}))) oh)
  (kj (og (oo (wOp (o4 false) (eQ 0) 3.0)) (nM (ox (oI {nS {eQ 1,nS {eQ 2},0.0},nS {eQ 1,nS {eQ 3,0.0},1.0}}))) oh)
  (kj (og (oo (wOp (o4 false) (eQ 0) 4.0)) (nM (ox (oI {nS {eQ 1,nS {eQ 3,nS {eQ 3,0.0}},1.0,2.0},nS {eQ 1,nS {eQ 3,nS {eQ 2}},0.0,1.0}}))) oh)
  (nM (ox (oI {nS {eQ 1}}))))))))
def D2:Nat→nD
 |0=>nG
 |r+1=>on 4 3 (kj (og (oo (wOp (o4 false) (eQ 0) 0.0)) (nM (ox (oI {nS {wOp nC (eQ 1) 2.0},nS {wOp nC (eQ 1) 5.0},nS {wOp nC (eQ 1) 3.0,nS {wOp nC (eQ 1) 5.0}}}))) oh)
  (kj (og (oo (wOp (o4 false) (eQ 0) 1.0)) (kj (jj (ox (oI {0.0,nS {wOp nC (eQ 1) 3.0,0.0},nS {wOp nC (eQ 1) 4.0,0.0,0.0},nS {wOp nC (eQ 1) 4.0,nS {wOp nC (eQ 1) 3.0,0.0},nS {wOp nC (eQ 1) 2.0}}})) (wGN 3))
  (kj (og (oY (eQ 2)) (nM (ox (tf (eQ 3) (oI {nS {wOp nC (eQ 1) 0.0,0.0},nS {wOp nC (eQ 1) 1.0,nS {wOp nC (eQ 1) 3.0,0.0},0.0},nS {wOp nC (eQ 1) 3.0,nS {wOp nC (eQ 1) 0.0,0.0}}})))) oh)
  (nM (ox (tf (eQ 3) (oI {nS {wOp nC (eQ 1) 2.0},nS {wOp nC (eQ 1) 3.0,nS {wOp nC (eQ 1) 5.0}}})))))) oh)
  (kj (og (oo (wOp (o4 false) (eQ 0) 3.0)) (kj (jj (ox (oI {nS {wOp nC (eQ 1) 4.0,nS {wOp nC (eQ 1) 4.0,0.0,1.0},2.0},nS {wOp nC (eQ 1) 4.0,2.0,nS {wOp nC (eQ 1) 4.0,1.0,0.0}},nS {wOp nC (eQ 1) 4.0,nS {wOp nC (eQ 1) 4.0,0.0,0.0},nS {wOp nC (eQ 1) 4.0,1.0,2.0}}})) (wGN 3))
  (kj (og (oY (eQ 2)) (nM (ox (tf (eQ 3) (oI {nS {wOp nC (eQ 1) 0.0,nS {wOp nC (eQ 1) 4.0,nS {wOp nC (eQ 1) 4.0,2.0,0.0},1.0}},nS {wOp nC (eQ 1) 1.0,1.0,nS {wOp nC (eQ 1) 4.0,0.0,2.0}}})))) oh)
  (nM (ox (tf (eQ 3) (oI {0.0,2.0,nS {wOp nC (eQ 1) 4.0,1.0,1.0},nS {wOp nC (eQ 1) 5.0}})))))) oh)
  (kj (jj (ox (oI {nS {wOp nC (eQ 1) 4.0,0.0,1.0},nS {wOp nC (eQ 1) 4.0,1.0,0.0},nS {wOp nC (eQ 1) 4.0,nS {wOp nC (eQ 1) 3.0,0.0},1.0},nS {wOp nC (eQ 1) 4.0,nS {wOp nC (eQ 1) 4.0,0.0,0.0},1.0}})) (wGN 3))
  (kj (og (oY (eQ 2)) (nM (ox (tf (eQ 3) (oI {nS {wOp nC (eQ 1) 1.0,1.0,0.0},nS {wOp nC (eQ 1) 0.0,nS {wOp nC (eQ 1) 4.0,0.0,1.0}}})))) oh)
  (nM (ox (tf (eQ 3) (oI {0.0,1.0,nS {wOp nC (eQ 1) 3.0,1.0},nS {wOp nC (eQ 1) 5.0}})))))))))
def Es (r:Nat) (self:nD):WS:=(kj (jj (nF (D2 r) {nF (wc r) {eQ 9},eQ 2,eQ 4}) (wGN 10))
  (kj (jj (nF (ua r) {eQ 0,wOp oX (wOp oX (wOp oX (eQ 1) 2.0) (wOp (oZ qO λi j=> .int (i*j)) 2.0 (eQ 6))) (eQ 8)}) (wGN 11))
  (pX (wM qq rO (eQ 5) {nS {wOp nC (eQ 3) (wB pq {eQ 5}),eQ 9,wOp nC (eQ 10) (wOp (oZ (λ_ j=>0<j) λi j=> .int (i % j)) (eQ 11) (wB pq {eQ 10}))}}))))
def Ml (r:Nat) (self:nD):WS:=(kj (jj (nF (BT r) {wOp (oZ (λ_ j=>0<j) λi j=> .int (i % j)) (nF (ua r) {eQ 0,wOp oX (eQ 1) (eQ 6)}) 6.0,wOp nC (eQ 2) (eQ 6),wOp nC (eQ 2) 2.0,wOp nC (eQ 2) 3.0}) (wGN 7))
  (pR (vv (eQ 7)) (qx (oU (wGN 8) (oU (wGN 9) qh))) (Es r nG)))
def D4:Nat→nD
 |0=>nG
 |r+1=>on 12 5 (kj (jj (ox (oI ae)) (wGN 5))
  (kj (pR (ux {2.0}) (wGN 6) (Ml r nG))
  (nM (eQ 5))))
def KG (r:Nat) (self:nD):WS:=(jj (ox (ve (ww (eQ 4) py (woS (sk 2.0))) (oI {nS {sk 1.0,0.0,wOp nC (eQ 2) 4.0,pD (eQ 4) (woS (sk 2.0)) py}}))) (wGN 4))
def Oe (r:Nat) (self:nD):WS:=(kj (jj (wOp (oZ (λ_ j=>0<j) λi j=> .int (i % j)) (eQ 6) 8.0) (wGN 7))
  (kj (jj (vL (oI {0.0,0.0,1.0,2.0}) (wB vc {eQ 7,3.0})) (wGN 8))
  (kj (jj (nS {sk 1.0,0.0,wOp nC (eQ 2) (vL (oI {2.0,5.0,3.0,4.0}) (wB vc {eQ 7,3.0}))}) (wGN 9))
  (kj (og (oo (wOp sZ (eQ 7) 3.0)) (kj (jj (wOp (oZ (λ_ j=>0<j) λi j=> .int (i % j)) (wOp (oZ sF λi j=> .int (i / j)) (eQ 6) 8.0) (wB pq {eQ 1})) (wGN 10))
  (kj (jj (nF (wc r) {wOp nC (wOp nC (eQ 1) (eQ 10)) 1.0}) (wGN 8))
  (kj (jj (nS {eQ 10,wOp (oZ (λ_ j=>0<j) λi j=> .int (i % j)) (wOp (oZ sF λi j=> .int (i / j)) (eQ 6) 64.0) 8.0,wC (.str "")}) (wGN 9))
  (jj (wOp oX (eQ 5) 1.0) (wGN 5))))) oh)
  (og (sx (oo (wOp sZ (eQ 3) 0.0)) (oo (wOp yK (eQ 5) 5.0))) (kj (jj (wOp (rK λi j=> .int (i - j)) (eQ 3) 1.0) (wGN 3))
  (kj (jj (ox (zl (yU (oI {nS {sk 1.0,0.0,wOp nC (eQ 2) 2.0,ox (oI ae)}}) (wOp (rK λi j=> .int (i - j)) (eQ 8) (wB pq {eQ 4}))) (eQ 4))) (wGN 4))
  (kj (jj (wOp (rK λi j=> .int (i - j)) (wB pq {eQ 4}) (eQ 8)) (wGN 11))
  (jj (ox (ve (ww (eQ 4) py (woS (eQ 11))) (oI {wOp oX (eQ 9) (nS {pD (eQ 4) (woS (eQ 11)) py})}))) (wGN 4))))) oh)))))
def C3:Nat→nD
 |0=>nG
 |r+1=>on 12 4 (kj (jj (ox (oI ae)) (wGN 4))
  (kj (jj 0.0 (wGN 5))
  (kj (pR (px (eQ 0)) (wGN 6) (Oe r nG))
  (kj (xy (oo (wOp sZ (wB pq {eQ 4}) 1.0)) (KG r nG))
  (nM (vL (tf (eQ 4) (oI {nS {sk 1.0,0.0,wOp nC (eQ 2) 5.0,ox (oI ae)}})) 0.0))))))
def Mt (r:Nat) (self:nD):WE:=(nF self {eQ 0,eQ 1,eQ 2})
def zL:Nat→nD
 |0=>nG
 |r+1=>on 8 3 (kj (jj (eQ 0) (qx (oU (wGN 3) (oU (wGN 4) (oU (wGN 5) (oU (wGN 6) qh))))))
  (kj (jj (ox (pT 1 [1,2] (px (eQ 6)) (wGN 0) pP (Mt r (zL r)))) (wGN 7))
  (kj (og (oo (wOp yK (eQ 3) 0.0)) (nM (wOp oX (nS {eQ 5}) (wB sM {eQ 7}))) oh)
  (kj (og (oo (wOp (o4 false) (wOp (oZ (λ_ j=>0<j) λi j=> .int (i % j)) (wOp (oZ sF λi j=> .int (i / j)) (eQ 4) (eQ 2)) 2.0) 1.0)) (nM (wOp oX (nS {wOp nC (wOp nC (eQ 1) (eQ 3)) 0.0}) (wB sM {eQ 7}))) oh)
  (nM (nF (xt r) {wOp nC (wOp nC (eQ 1) (eQ 3)) 1.0,eQ 7}))))))
def JN (r:Nat) (self:nD):WS:=(og (oo (wOp (o4 false) (wOp nC (eQ 4) 0.0) (wOp nC (eQ 1) 0.0))) (nM (nF (xt r) {wOp nC (eQ 4) (eQ 2),eQ 3})) oh)
def Ny (r:Nat) (self:nD):WE:=(nF self {eQ 1,eQ 0,eQ 2})
def uN:Nat→nD
 |0=>nG
 |r+1=>on 5 3 (kj (jj (ox (pT 1 [0,2] (px (pD (eQ 1) (woS 1.0) py)) (wGN 0) pP (Ny r (uN r)))) (wGN 3))
  (kj (pR (px (eQ 0)) (wGN 4) (JN r nG))
  (nM (wOp oX (pD (eQ 1) py (woS 1.0)) (wB sM {eQ 3})))))
def Ik (r:Nat) (self:nD):WE:=(wOp oX (nS {eQ 1}) (eQ 0))
def Fu (r:Nat) (self:nD):WS:=(jj (ox (tf (eQ 1) (pT 1 [2] (px (nF self {eQ 3})) (wGN 0) pP (Ik r nG)))) (wGN 1))
def wA:Nat→nD
 |0=>nG
 |r+1=>on 4 1 (kj (jj (ox (oI {nS ae})) (wGN 1))
  (kj (og (qF (oY (rg "int" (eQ 0)))) (pR (vv (pD (eQ 0) (woS 1.0) py)) (qx (oU (wGN 2) (oU (wGN 3) qh))) (Fu r (wA r))) oh)
  (nM (eQ 1))))
def G0 (r:Nat) (self:nD):WS:=(jj (wOp nC (eQ 0) (wOp oX (eQ 2) 1.0)) (wGN 0))
def B_:Nat→nD
 |0=>nG
 |r+1=>on 3 2 (kj (pR (px (eQ 1)) (wGN 2) (G0 r nG))
  (nM (eQ 0)))
def PL (r:Nat) (self:nD):WE:=(nF self {eQ 0,eQ 1})
def xZ:Nat→nD
 |0=>nG
 |r+1=>on 2 2 (kj (og (oY (rg "int" (eQ 0))) (nM (wC (.bl true))) oh)
  (kj (og (rV (oo (wOp (o4 true) (wOp nC (eQ 0) 0.0) (wOp nC (eQ 1) 0.0))) (oo (wOp (o4 true) (wB pq {eQ 0}) (wB pq {eQ 1})))) (nM (wC (.bl false))) oh)
  (nM (rN tR (pT 2 [] (t_ (pD (eQ 0) (woS 1.0) py) (pD (eQ 1) (woS 1.0) py)) (qx (oU (wGN 0) (oU (wGN 1) qh))) pP (PL r (xZ r)))))))
def GN (r:Nat) (self:nD):WS:=(og (oY (nF (xZ r) {wOp nC (eQ 4) 1.0,nF (B_ r) {eQ 1,eQ 3}})) (pX (wM qq rO (eQ 2) {nS {eQ 3,wOp nC (eQ 4) 0.0}})) oh)
def Hc (r:Nat) (self:nD):WS:=(pR (px (eQ 0)) (wGN 4) (GN r nG))
def zo:Nat→nD
 |0=>nG
 |r+1=>on 5 2 (kj (jj (ox (oI ae)) (wGN 2))
  (kj (pR (px (nF (wA r) {eQ 1})) (wGN 3) (Hc r nG))
  (nM (eQ 2))))
def Jq (r:Nat):WS:=(nM (nS {eQ 2,eQ 5}))
def Gw (r:Nat):WS:=(jj (nF (uN r) {eQ 1,wOp nC (eQ 5) (sk 1.0),2.0}) (wGN 6))
def Hg (r:Nat) (T:WS):WS:=(kj (pX (wM qq rO (eQ 5) {nF (zY r) {eQ 1,eQ 6,pD (eQ 10) py (woS (wOp oX 1.0 (wOp (oZ (λ_ j=>0<j) λi j=> .int (i % j)) (wOp (oZ sF λi j=> .int (i / j)) (eQ 9) 5.0) 2.0)))}})) T)
def HE (r:Nat) (T:WS):WS:=(kj (jj (ox (oI {wOp nC (wOp nC (eQ 8) (wOp (oZ (λ_ j=>0<j) λi j=> .int (i % j)) (wOp (oZ sF λi j=> .int (i / j)) (eQ 9) 5.0) (wB pq {eQ 8}))) 0.0,wOp nC (wOp nC (eQ 8) (wOp (oZ (λ_ j=>0<j) λi j=> .int (i % j)) (wOp (oZ sF λi j=> .int (i / j)) (eQ 9) 320.0) (wB pq {eQ 8}))) 0.0})) (wGN 10)) T)
def L0 (r:Nat):WS:=(og (sx (oo (wOp sZ (wB pq {eQ 8}) 0.0)) (oo (wOp sZ (wOp (oZ (λ_ j=>0<j) λi j=> .int (i % j)) (eQ 9) 5.0) 0.0))) (HE r (Hg r (Gw r))) (og (oo (wOp (o4 false) (wOp (oZ (λ_ j=>0<j) λi j=> .int (i % j)) (eQ 9) 5.0) 0.0)) (pX (wM qq rO (eQ 5) {eQ 6})) oh))
def E3 (r:Nat) (T:WS):WS:=(kj (jj (wOp (oZ (λ_ j=>0<j) λi j=> .int (i % j)) (nF (ua r) {eQ 0,wOp oX (eQ 3) (eQ 7)}) (wOp (oZ zE λi j=> .int (i ^ j.toNat)) 10.0 12.0)) (wGN 9)) T)
def EV (r:Nat) (T:WS):WS:=(kj (jj (nF (zo r) {eQ 1,eQ 6}) (wGN 8)) T)
def PY (r:Nat) (self:nD):WS:=(EV r (E3 r (L0 r)))
def M6 (r:Nat) (T:WS):WS:=(kj (pR (ux {eQ 4}) (wGN 7) (PY r nG)) T)
def Of (r:Nat) (T:WS):WS:=(kj (jj (eQ 2) (wGN 6)) T)
def Om (r:Nat) (T:WS):WS:=(kj (jj (ox (oI ae)) (wGN 5)) T)
def yL:Nat→nD
 |0=>nG
 |r+1=>on 11 5 (Om r (Of r (M6 r (Jq r))))
def MV (r:Nat) (self:nD):WE:=(nF self {eQ 0})
def uG:Nat→nD
 |0=>nG
 |r+1=>on 1 1 (kj (og (oY (rg "int" (eQ 0))) (nM (wOp oX (wC (.str "?")) (wB zx {eQ 0}))) oh)
  (kj (og (oo (wOp (o4 false) (wB pq {eQ 0}) 1.0)) (nM (wOp nC (eQ 0) 0.0)) oh)
  (nM (wOp oX (wOp oX (wOp oX (wOp nC (eQ 0) 0.0) (wC (.str "("))) (wS tF xn (wC (.str ",")) (pT 1 [] (px (pD (eQ 0) (woS 1.0) py)) (wGN 0) pP (MV r (uG r))))) (wC (.str ")"))))))
def Fd (r:Nat) (self:nD):WS:=(kj (og (rV (oo (wOp (p6 true) (nF (yu r) {eQ 0,eQ 3}) (wC (.bl true)))) (oo (wOp (o4 true) (nF (uN r) {eQ 0,eQ 3,1.0}) (eQ 2)))) (nM (wC .bR)) oh)
  (jj (nF (uN r) {eQ 0,eQ 3,2.0}) (wGN 2)))
def AH:Nat→nD
 |0=>nG
 |r+1=>on 4 3 (kj (og (rV (qF (oY (rg "tuple" (eQ 1)))) (rV (oo (wOp (o4 true) (wB pq {eQ 1}) 2.0)) (rV (oo (wOp (o4 true) (wOp nC (eQ 1) 0.0) (eQ 2))) (qF (oY (rg "list" (wOp nC (eQ 1) 1.0))))))) (nM (wC .bR)) oh)
  (kj (pR (px (wOp nC (eQ 1) 1.0)) (wGN 3) (Fd r nG))
  (nM (eQ 2))))
def Og (r:Nat) (self:nD):WE:=(nF (yY r) {nF (uG r) {eQ 0}})
def u7:Nat→nD
 |0=>nG
 |r+1=>on 1 1 (nM (nS {nF (yY r) {nF (uG r) {wOp nC (eQ 0) 0.0}},ox (pT 1 [] (px (wOp nC (eQ 0) 1.0)) (wGN 0) pP (Og r nG))}))
def HY (r:Nat):WS:=(nM (sP (wOp (p6 true) (eQ 13) (wC .bR)) (wOp (o4 false) (eQ 13) (eQ 14))))
def G3 (r:Nat) (T:WS):WS:=(kj (jj (nF (AH r) {eQ 4,eQ 12,wOp nC (eQ 10) 0.0}) (wGN 14)) T)
def Fb (r:Nat) (T:WS):WS:=(kj (jj (nF (yP r) {eQ 9,nF (u7 r) {eQ 7},nF (u7 r) {eQ 6}}) (wGN 12)) T)
def Ec (r:Nat) (T:WS):WS:=(kj (jj (nF (AH r) {eQ 4,eQ 12,wOp nC (eQ 10) 1.0}) (wGN 13)) T)
def Hq (r:Nat) (T:WS):WS:=(kj (jj (nF (yP r) {eQ 9,nF (u7 r) {eQ 6},nF (u7 r) {eQ 7}}) (wGN 12)) T)
def FQ (r:Nat) (self:nD):WS:=(jj (nF (uN r) {eQ 4,eQ 11,2.0}) (zU (eQ 10) 1.0))
def E0 (r:Nat) (T:WS):WS:=(kj (pR (px (wOp nC (eQ 7) 1.0)) (wGN 11) (FQ r nG)) T)
def G_ (r:Nat) (self:nD):WS:=(jj (nF (uN r) {eQ 4,eQ 11,2.0}) (zU (eQ 10) 0.0))
def ER (r:Nat) (T:WS):WS:=(kj (pR (px (wOp nC (eQ 6) 1.0)) (wGN 11) (G_ r nG)) T)
def Gy (r:Nat) (T:WS):WS:=(kj (jj (ox (oI {eQ 5,eQ 5})) (wGN 10)) T)
def GB (r:Nat) (T:WS):WS:=(kj (og (rV (oo (wOp (o4 true) (eQ 9) (eQ 4))) (rV (oo (wOp (o4 true) (nF (u7 r) {eQ 6}) (eQ 6))) (oo (wOp (o4 true) (nF (u7 r) {eQ 7}) (eQ 7))))) (nM (wC (.bl false))) oh) T)
def Im (r:Nat) (self:nD):WE:=(nF (C9 r) {eQ 0})
def F3 (r:Nat) (T:WS):WS:=(kj (jj (nF (C8 r) {ox (pT 1 [] (px (eQ 8)) (wGN 0) pP (Im r nG))}) (wGN 9)) T)
def Ls (r:Nat) (self:nD):WE:=(wOp oX (wOp oX (wOp oX (wOp oX (wOp nC (eQ 0) 0.0) (wC (.str ": "))) (nF (uG r) {wOp nC (eQ 0) 1.0})) (wC (.str " > "))) (nF (uG r) {wOp nC (eQ 0) 2.0}))
def Gj (r:Nat) (T:WS):WS:=(kj (jj (ox (pT 1 [] (px (eQ 4)) (wGN 0) pP (Ls r nG))) (wGN 8)) T)
def EN (r:Nat) (T:WS):WS:=(kj (jj (nF (yL r) {eQ 0,eQ 4,eQ 5,14.0,wOp (rK λi j=> .int (i - j)) 3.0 (wOp (oZ qO λi j=> .int (i*j)) 2.0 (wB vY {eQ 3}))}) (wGN 7)) T)
def Hn (r:Nat) (T:WS):WS:=(kj (jj (nF (yL r) {eQ 0,eQ 4,eQ 5,11.0,wOp (rK λi j=> .int (i - j)) 3.0 (wOp (oZ qO λi j=> .int (i*j)) 2.0 (wB vY {eQ 3}))}) (wGN 6)) T)
def Gz (r:Nat) (T:WS):WS:=(kj (jj (nF (zL r) {nF (C3 r) {pD (eQ 0) (woS 18.0) py,eQ 4,eQ 1,7.0},eQ 4,8.0}) (wGN 5)) T)
def E1 (r:Nat) (T:WS):WS:=(kj (jj (nF (D4 r) {eQ 0,4.0,eQ 1,eQ 2,eQ 3}) (wGN 4)) T)
def FV (r:Nat) (T:WS):WS:=(kj (jj (wOp (o4 false) (wOp (oZ (λ_ j=>0<j) λi j=> .int (i % j)) (nF (ua r) {eQ 0,10.0}) 2.0) 1.0) (wGN 3)) T)
def Fs (r:Nat) (T:WS):WS:=(kj (jj (nF (AV r) {nF (ua r) {eQ 0,2.0},nF (ua r) {eQ 0,3.0},wC (.bl true)}) (wGN 2)) T)
def GA (r:Nat) (T:WS):WS:=(kj (jj (nF (AV r) {nF (ua r) {eQ 0,0.0},nF (ua r) {eQ 0,1.0},wC (.bl false)}) (wGN 1)) T)
def yF:Nat→nD
 |0=>nG
 |r+1=>on 15 1 (GA r (Fs r (FV r (E1 r (Gz r (Hn r (EN r (Gj r (F3 r (GB r (Gy r (ER r (E0 r (Hq r (Ec r (Fb r (G3 r (HY r))))))))))))))))))
def yR{E:ah→gY→Prop}(h:Q (.bH (af t.cF)) S):xH (r+1) [gS t] S Q E:=by
 rw[xH];cases t with
 |bl n=>
  simp only[gS];ext;exact⟨bc _,S, .refl,h⟩
 |nd s ts=>
  simp only[gS];ext;exact⟨S, .refl,h⟩
mutual
noncomputable def Tr.pl (p:List Int):Tr→List (List Int)
 | .bl _=>[p]
 | .nd _ ts=>p::rC p 0 ts
noncomputable def rC (p:List Int) (i:Nat):List Tr→List (List Int)
 | []=>[]
 |t::ts=>t.pl (p++[(i:Int)])++rC p (i+1) ts
end
mutual
theorem Kh:∀(t:Tr) (p:List Int),(t.pl p).length=t.au
 | .bl _,p=>by simp [Tr.pl,Tr.au]
 | .nd _ ts,p=>by simp [Tr.pl,Tr.au,OA ts p 0];lia
theorem OA:∀(ts:List Tr) (p:List Int) (i:Nat),(rC p i ts).length=nI ts
 | [],p,i=>by simp [rC,nI]
 |t::ts,p,i=>by simp [rC,nI,Kh t,OA ts p (i+1)]
end
def Mo:oX (nW p) (.bH [.int i]) S Q=(p.length+1≤sizeLine∧Q (nW (p++[i])) S):=by
 unfold nW;rw[EC];simp
mutual
theorem LQ:∀(t:Tr) {r:Nat}{p:List Int}{a:aj}{xs:List W}{S:gY}{Q:WK}{E:ah→gY→Prop},t.depth≤r→S a=aa (.bx xs)→xs.length+t.au≤1000000→p.length+t.depth≤1000000→
  Q .bR (bz S a (.bx (xs++(t.pl p).map nW)))→xU (r+1) [gS t,nW p, .ref a] S Q E
 | .bl n,r,p,a,xs,S,Q,E,hr,ha,hx,hp,h=>by
  obtain⟨r,rfl⟩:∃r',r=r'+1:=⟨r - 1,by simp [Tr.depth]at hr;lia⟩
  rw[xU];ext;simp only[nT ha,true_and];simp [Tr.au]at hx;refine⟨rA `l,?_⟩;refine yR ?_;simp only[Tr.cF,af,nums,nU];simp only[Tr.pl,aG,dv]at h;exact⟨_, .refl,h⟩
 | .nd s ts,r,p,a,xs,S,Q,E,hr,ha,hx,hp,h=>by
  simp only[Tr.depth]at hr hp;simp only[Tr.au]at hx;right
  rw[xU];ext;simp only[nT ha,true_and];refine⟨rA `l,?_⟩;refine yR ?_;dsimp only[Tr.cF];refine Jo ts (xs:=xs++[nW p]) `l nJ (by simp;lia) `l λx y=>?_;rw[qa];refine⟨_, .refl,?_⟩;simpa [Tr.pl,b7]using h
theorem Jo:∀(ts:List Tr) {r:Nat}{p:List Int}{i:Nat}{a:aj}{xs:List W}{S:gY}{E:WX}{D:nQ}{t0 x y:Option W},oy ts≤r→S a=aa (.bx xs)→xs.length+nI ts≤1000000→p.length+1+oy ts≤1000000→
  (∀x y,D.nx [t0,aa (nW p),aa (.ref a),x,y] (bz S a (.bx (xs++(rC p i ts).map nW))))→
  nU (qx (oU (wGN 3) (oU (wGN 4) qh))) (Ea (r+1) (xU (r+1))) E D (λ_=>True) (nums i (af ts)) [t0,aa (nW p),aa (.ref a),x,y] S
 | [],r,p,i,a,xs,S,E,D,t0,x,y,hr,ha,hx,hp,h=>by
  simp only[af,nums,nU];have:=h x y;simp only[rC,dv,bC,sI ha]at this;exact this
 |t::ts,r,p,i,a,xs,S,E,D,t0,x,y,hr,ha,hx,hp,h=>by
  simp only[oy]at hr hp;simp only[nI]at hx;simp only[af,nums,nU,Ea];ext;rw[Mo];refine⟨nL `l,nL `l,LQ t (p:=p++[(i:Int)]) `l ha `l (by simp;lia) ?_⟩;refine⟨_, .refl,Jo ts `l nJ (by simp [Kh];lia) `l λx y=>?_⟩;rw[qa];simpa [rC,b7]using h x y
end
def Mq{E:ah→gY→Prop}(hr:t.depth+1≤r) (hw:t.au≤100000) (hd:t.depth≤100000) (h:∀a,S a=none→Q (.ref a) (bz S a (.bx ((t.pl []).map nW)))):Be (r+1) [gS t] S Q E:=by
 right
 rw[Be];ext;refine⟨bc _,λa ha=>⟨bc _,LQ t (p:=[]) (xs:=[]) `l nJ (by simp;lia) (by simp;lia) ?_⟩⟩;rw[qa,aQ];exact⟨_, .refl,h a ha⟩
def Tr.at:Tr→List Int→Option Tr
 |t,[]=>aa t
 | .bl _,_::_=>none
 | .nd _ ts,i::p=>if i<0 then none else match ts[i.toNat]? with
  |some u=>u.at p
  |none=>none
def Sz{E:ah→gY→Prop}(hi:0≤i) (hu:t.cF[i.toNat]? =aa u) (h:Q (gS u) S):Ca (r+2) [gS t, .int i] S Q E:=by
 rw[Ca];ext;refine yR ?_;have hl:i.toNat<t.cF.length:=(dq.mp hu).1;ext;rw[p9];rw[if_neg `l,if_neg `l];have e:ow (af t.cF) i=aa (gS u):=by
  have q:=sW (xs:=af t.cF) (n:=i.toNat);rw[dt hi]at q;rw[q,qr,bK,hu];rfl
 rw[e];exact⟨S, .refl,h⟩
def RR:∀{t u:Tr}{r:Nat}{S:gY}{E:WX}{D:nQ}{x y z:Option W},t.at p=aa u→(∀z,D.nx [x,y,aa (gS u),z] S)→
  nU (wGN 3) (GH (r+2) nG) E D (λ_=>True) (p.map W.int) [x,y,aa (gS t),z] S:=by
 induction p with
 |nil=>
  intro t u r S E D x y z e h;unfold Tr.at at e;cases e;exact h z
 |cons i p ih=>
  intro t u r S E D x y z e h;cases t with
  |bl n=>cases e
  |nd s ts=>
   unfold Tr.at at e;split at e
   ·cases e
   ·rename_i hi;split at e
    ·rename_i v ev;simp only[aG,nU,GH];ext;refine Sz (t:= .nd s ts) (u:=v) `l ev ⟨S, .refl,?_⟩;exact ih e h
    ·cases e
def E9{E:ah→gY→Prop}(e:t.at p=aa u) (h:Q (gS u) S):yr (r+3) [gS t,nW p] S Q E:=by
 rw[yr];ext;unfold nW;dsimp only;exact RR e λz=>⟨S, .refl,h⟩
def qZ (c:Nat):Prop:=97≤c∧c≤122
def qm (x:ah):Prop:=1≤x.cps.toList.length∧x.cps.toList.length≤8∧ ∀c∈x.cps.toList,qZ c
def qR (x:ah):Prop:=∃c r,x.cps.toList=c::r∧65≤c∧c≤90∧r.length≤7∧ ∀d∈r,qZ d
def Yk:(aq "abcdefghijklmnopqrstuvwxyz").cps.toList=eP 97 26:=by decide +kernel
def R8:(aq "abcdefghijklmnopqrstuvwxyz").length=26:=by decide +kernel
theorem PU:∀cs:List Nat,(c8 (aq "") (cs.map λc=>(⟨#[c]⟩:ah))).cps.toList=cs
 | []=>rfl
 | [c]=>rfl
 |c::d::r=>by
  have ih:=PU (d::r);show((⟨#[c]⟩:ah)++aq "" ++c8 (aq "") ((d::r).map λc=>(⟨#[c]⟩:ah))).cps.toList=_;show(#[c]++(aq "").cps++(c8 (aq "") ((d::r).map λc=>(⟨#[c]⟩:ah))).cps).toList=_;rw[ip,ip,ih];rfl
def Z9 (cs:List Nat):((cs.map λc=>(⟨#[c]⟩:ah)).map (·.length)).sum=cs.length:=by
 induction cs with
 |nil=>rfl
 |cons c r ih=>
  rw[aG,aG,jM,ih,aS];show 1+r.length=r.length+1;lia
theorem Ma:∀cs:List Nat,t6 (cs.map λc=>W.str ⟨#[c]⟩)=aa (cs.map λc=>(⟨#[c]⟩:ah))
 | []=>rfl
 |c::cs=>by rw[aG,t6,Ma cs];rfl
def zrW (cs:List Nat) (h:cs.length≤1000):(jR (λx=>x.length) (cs.map λc=>(⟨#[c]⟩:ah))).sum+(cs.map λc=>(⟨#[c]⟩:ah)).length*(aq "").length≤16777216:=by
 have e:=Z9 cs;have z:(aq "").length=0:=by decide +kernel
 rw[e,z];lia
def MO{lo:Int}{n:Nat}:(rH lo n).length=n:=by simp [rH]
def ED{α:Type}{xs:List α}(n:Int) (h:xs≠ []):∃(i:Nat) (x:α),xs[i]? =aa x∧ow xs (n % (xs.length:Int))=aa x:=by
 have hp:0<xs.length:=mI.mpr h;have h0:0≤n % (xs.length:Int):=dG _ `l;have h1:n % (xs.length:Int)<(xs.length:Int):=dX _ `l;have hlt:(n % (xs.length:Int)).toNat<xs.length:=by lia
 refine⟨(n % (xs.length:Int)).toNat,xs[(n % (xs.length:Int)).toNat],aU hlt,?_⟩;have e:=Rk (xs:=xs) (j:=(n % (xs.length:Int)).toNat) (v:=xs[(n % (xs.length:Int)).toNat]) (aU hlt);rw[dt h0]at e;exact e
def yb (ts us:List Tr):af (ts++us)=af ts++af us:=by rw[qr,qr,qr,bU]
mutual
noncomputable def Tr.plt (p:List Int):Tr→List (List Int×Tr)
 | .bl n=>[(p, .bl n)]
 | .nd s ts=>(p, .nd s ts)::qi p 0 ts
noncomputable def qi (p:List Int) (i:Nat):List Tr→List (List Int×Tr)
 | []=>[]
 |t::ts=>t.plt (p++[(i:Int)])++qi p (i+1) ts
end
mutual
theorem wT:∀(t:Tr) (p:List Int),(t.plt p).map (·.1)=t.pl p
 | .bl _,p=>by simp [Tr.plt,Tr.pl]
 | .nd _ ts,p=>by simp [Tr.plt,Tr.pl,MB ts p 0]
theorem MB:∀(ts:List Tr) (p:List Int) (i:Nat),(qi p i ts).map (·.1)=rC p i ts
 | [],p,i=>by simp [qi,rC]
 |t::ts,p,i=>by simp [qi,rC,wT t,MB ts p (i+1)]
end
mutual
theorem wH:∀(t:Tr) (p:List Int),(t.plt p).length=t.au
 | .bl _,p=>by simp [Tr.plt,Tr.au]
 | .nd _ ts,p=>by simp [Tr.plt,Tr.au,PC ts p 0];lia
theorem PC:∀(ts:List Tr) (p:List Int) (i:Nat),(qi p i ts).length=nI ts
 | [],p,i=>by simp [qi,nI]
 |t::ts,p,i=>by simp [qi,nI,wH t,PC ts p (i+1)]
end
def IH{s:ah}{ts:List Tr}{i:Nat}{q:List Int}{u:Tr}(h:ts[i]? =aa u):(Tr.nd s ts).at ((i:Int)::q)=u.at q:=by
 rw[Tr.at,if_neg `l];simp [h]
mutual
theorem Bm:∀(t:Tr) (p q:List Int) (u:Tr),(q,u)∈t.plt p→ ∃r,q=p++r∧t.at r=aa u∧r.length<t.depth
 | .bl n,p,q,u,h=>by
  simp only[Tr.plt,bw,dM]at h;obtain⟨rfl,rfl⟩:=h;exact⟨[],`s,by simp [Tr.at],by simp [Tr.depth]⟩
 | .nd s ts,p,q,u,h=>by
  simp only[Tr.plt,az,dM]at h;obtain ⟨rfl,rfl⟩ |h:=h
  ·exact⟨[],`s,by simp [Tr.at],by simp [Tr.depth];lia⟩
  ·obtain⟨j,v,r,h1,h2,h3,h4⟩:=Me ts p 0 q u h;refine⟨(j:Int)::r,by rw[h2];simp,by rw[IH h1];exact h3,by simp [Tr.depth];lia⟩
theorem Me:∀(ts:List Tr) (p:List Int) (i:Nat) (q:List Int) (u:Tr),(q,u)∈qi p i ts→ ∃(j:Nat) (v:Tr) (r:List Int),ts[j]? =aa v∧q=p++[((i+j:Nat):Int)]++r∧v.at r=aa u∧r.length<oy ts
 | [],p,i,q,u,h=>by simp [qi]at h
 |t::ts,p,i,q,u,h=>by
  simp only[qi,bv]at h;obtain h |h:=h
  ·obtain⟨r,h1,h2,h3⟩:=Bm t _ q u h;exact⟨0,t,r,rfl,by simpa using h1,h2,by simp [oy];lia⟩
  ·obtain⟨j,v,r,h1,h2,h3,h4⟩:=Me ts p (i+1) q u h;refine⟨j+1,v,r,by simpa using h1,?_,h3,by simp [oy];lia⟩
   rw[h2,show i+1+j=i+(j+1) by lia]
end
def keep (f:S a=aa o) (h:S p=none):bz S p x a=aa o:=by rw[oQ (yD f h)];exact f
noncomputable def sw:List (List Int×Tr)→Nat
 | []=>0
 |x::xs=>x.2.au+sw xs
theorem so:∀{ts:List Tr},u∈ts→u.depth≤oy ts
 |t::ts,h=>by
  obtain rfl |h:=az.mp h
  ·simp [oy];lia
  ·have:=so h;simp [oy];lia
theorem HI:∀(p:List Int) {t u:Tr},t.at p=aa u→u.au≤t.au∧u.depth≤t.depth
 | [],t,u,h=>by
  unfold Tr.at at h;cases h;exact⟨aE _,aE _⟩
 |i::p, .bl n,u,h=>by cases h
 |i::p, .nd s ts,u,h=>by
  unfold Tr.at at h;split at h
  ·cases h
  ·split at h
   ·rename_i v ev;obtain⟨h1,h2⟩:=HI p h;have m:=bX ev;have:=qg m;have:=so m;simp only[Tr.au,Tr.depth];lia
   ·cases h
def zzi{α:Type}:ow xs 2=xs[2]? :=sW (n:=2)
theorem qw{α:Type}{G:gY→Prop}{Q:List W→gY→Prop}(I:nK→Prop) (k f:α→W) (hG:G S):∀(xs:List α) (acc:List W) (σ:nK),I σ→acc.length+xs.length≤1000000→
  (∀x∈xs,∀σ (R:nK→W→gY→Prop),I σ→(∀σ1 S3,I σ1→Sub S S3→R σ1 (f x) S3)→g (k x) σ S λσ1 S1=>e E σ1 S1 λy S3=>R σ1 y S3)→
  Q (acc++xs.map f) S→sA g pP e E G Q (xs.map k) acc σ S
 | [],acc,σ,hI,hl,step,hQ=>by simpa [sA]using hQ
 |x::xs,acc,σ,hI,hl,step,hQ=>by
  simp only[aG,sA,pP,if_true];simp only[aS]at hl;refine step x aM σ _ hI λσ1 S3 hI1 sb=>⟨rA `l,S,sb,hG,qw I k f hG xs (acc++[f x]) σ1 hI1 (by simp;lia) (λy hy=>step y (aI _ hy)) ?_⟩;simpa using hQ
theorem FO{α:Type}{G:gY→Prop}{Q:List W→gY→Prop}(I:nK→Prop) (k f:α→W) (P:α→Bool) (hG:G S):∀(xs:List α) (acc:List W) (σ:nK),I σ→acc.length+xs.length≤1000000→
  (∀x∈xs,∀σ (R1:nK→W→gY→Prop) (R0:nK→gY→Prop),I σ→(P x=true→ ∀σ1 S3,I σ1→Sub S S3→R1 σ1 (f x) S3)→(P x=false→ ∀σ1 S3,I σ1→Sub S S3→R0 σ1 S3)→
   g (k x) σ S λσ1 S1=>c E σ1 S1 λb S2=>if b=true then e E σ1 S2 λy S3=>R1 σ1 y S3 else R0 σ1 S2)→
  Q (acc++(xs.filter P).map f) S→sA g c e E G Q (xs.map k) acc σ S
 | [],acc,σ,hI,hl,step,hQ=>by simpa [sA]using hQ
 |x::xs,acc,σ,hI,hl,step,hQ=>by
  simp only[aG,sA];simp only[aS]at hl;refine step x aM σ _ _ hI (λhp σ1 S3 hI1 sb=>⟨rA `l,S,sb,hG,FO I k f P hG xs (acc++[f x]) σ1 hI1 (by simp;lia) (λy hy=>step y (aI _ hy)) ?_⟩)
   λhp σ1 S3 hI1 sb=>⟨S,sb,hG,FO I k f P hG xs acc σ1 hI1 `l (λy hy=>step y (aI _ hy)) ?_⟩
  ·rw[List.filter_cons_of_pos hp]at hQ;simpa using hQ
  ·rw[lS (by rw[hp];simp)]at hQ;exact hQ
def Tr.isBl:Tr→Bool
 | .bl _=>true
 | .nd _ _=>false
def Tr.num:Tr→Int
 | .bl n=>n
 | .nd _ _=>0
noncomputable def Tr.bls (t:Tr):List (List Int×Tr):=(t.plt []).filter λx=>x.2.isBl
def Hz{t:Tr}{x:List Int×Tr}(h:x∈t.bls):t.at x.1=aa x.2∧x.2= .bl x.2.num∧x.1.length<t.depth:=by
 obtain⟨h1,h2⟩:=iT.mp h;obtain⟨r,h3,h4,h5⟩:=Bm t [] x.1 x.2 h1;simp at h3;subst h3;refine⟨h4,?_,h5⟩;obtain⟨p,u⟩:=x;cases u with
 |bl n=>rfl
 |nd s ts=>simp [Tr.isBl]at h2
def Ex (t:Tr):t.bls.length≤t.au:=by
 unfold Tr.bls;exact bI (List.length_filter_le ..) (by rw[wH];exact aE _)
def KO{E:ah→gY→Prop}(hr:t.depth+4≤r) (hw:t.au≤90000) (h:∀a,S a=none→Q (.ref a) (bz S a (.bx (t.bls.map λx=>nW x.1)))):Bv (r+1) [gS t] S Q E:=by
 have hd:=ut t;obtain⟨r,rfl⟩:∃r',r=r'+3:=⟨r - 3,`l⟩
 rw[Bv];ext;refine Mq `l `l `l λa ha=>?_;ext;rw[←wT,bB];refine FO (λσ=>∃x,σ=[x,aa (gS t)]) (λx=>nW x.1) (λx=>nW x.1) (λx=>x.2.isBl) ?_ (t.plt []) [] _ ⟨none,rfl⟩ (by simp [wH];lia) (λx hx σ R1 R0 hI h1 h0=>?_) ?_
 ·exact nJ
 ·obtain⟨y,rfl⟩:=hI;obtain⟨q,h3,h4,h5⟩:=Bm t [] x.1 x.2 hx;simp at h3;subst h3;ext;refine E9 h4 ?_;obtain⟨p,u⟩:=x;cases u with
  |bl n=>
   simp only[gS];ext;exact h1 rfl _ _ ⟨_,rfl⟩ .refl
  |nd s ts=>
   simp only[gS];ext;exact h0 rfl _ _ ⟨_,rfl⟩ .refl
 ·rw[aQ];intro b hb;obtain⟨hb1,hb2⟩:=uC hb;exact⟨_, .put2 (.bz .refl ha),h b hb1⟩
def EQ{t:Tr}{r:Nat}{S:gY}{Q:WK}{E:ah→gY→Prop}(hr:t.depth+6≤r) (hw:t.au≤90000) (h:∀a,S a=none→Q (.ref a) (bz S a (.bx (t.bls.map λx=> .int x.2.num)))):yN (r+1) [gS t] S Q E:=by
 obtain⟨r,rfl⟩:∃r',r=r'+3:=⟨r - 3,`l⟩
 rw[yN];ext;refine KO `l hw λa ha=>?_;ext;have hl:=Ex t;refine qw (λσ=>∃x,σ=[x,aa (gS t)]) (λx=>nW x.1) (λx=> .int x.2.num) ?_ t.bls [] _ ⟨none,rfl⟩ (by simp;lia) (λx hx σ R hI hR=>?_) ?_
 ·exact nJ
 ·obtain⟨y,rfl⟩:=hI;obtain⟨h1,h2,h3⟩:=Hz hx;simp only[KM];ext;refine E9 h1 ?_;rw[h2];simp only[gS];exact hR _ _ ⟨_,rfl⟩ .refl
 ·rw[aQ];intro b hb;obtain⟨hb1,hb2⟩:=uC hb;exact⟨_, .put2 (.bz .refl ha),h b hb1⟩
mutual
noncomputable def Tr.aB (us:List Tr):Tr→Tr
 | .bl n=>us.getD n.toNat (.bl n)
 | .nd s ts=> .nd s (oG us ts)
noncomputable def oG (us:List Tr):List Tr→List Tr
 | []=>[]
 |t::ts=>t.aB us::oG us ts
end
mutual
def Tr.a_ (m:Nat):Tr→Prop
 | .bl n=>0≤n∧n<m
 | .nd _ ts=>nX m ts
def nX (m:Nat):List Tr→Prop
 | []=>True
 |t::ts=>t.a_ m∧nX m ts
end
theorem He (us:List Tr):∀ts:List Tr,oG us ts=ts.map (Tr.aB us)
 | []=>by simp [oG]
 |t::ts=>by simp [oG,He us ts]
theorem Au:∀{ts:List Tr},nX m ts→t∈ts→t.a_ m
 |u::ts,h,hm=>by
  simp only[nX]at h;obtain rfl |hm:=az.mp hm
  ·exact h.1
  ·exact Au h.2 hm
theorem Fo:∀(d:Nat) {t:Tr}{r:Nat}{S:gY}{Q:WK}{E:ah→gY→Prop},t.depth≤d→d≤r+1→S a=aa (.bx (af us))→t.a_ us.length→t.au≤90000→Q (gS (t.aB us)) S→v8 (r+1) [gS t, .ref a] S Q E
 |0,t,r,S,Q,E,hd,hr,ha,hf,hw,h=>by have:=sj t;lia
 |d+1, .bl n,r,S,Q,E,hd,hr,ha,hf,hw,h=>by
  simp only[Tr.a_]at hf;simp only[Tr.aB]at h;rw[v8];simp only[gS];ext;have e:ow (af us) n=aa (gS (us.getD n.toNat (.bl n))):=by
   have q:=sW (xs:=af us) (n:=n.toNat);rw[dt hf.1]at q;rw[q,qr,bK,bF,aU `l];rfl
  rw[nT ha,e];exact⟨S, .refl,h⟩
 |d+1, .nd s ts,r,S,Q,E,hd,hr,ha,hf,hw,h=>by
  simp only[Tr.a_]at hf;simp only[Tr.aB]at h;simp only[Tr.depth]at hd;simp only[Tr.au]at hw;have hk:=qJ ts;rw[v8];simp only[gS]at h⊢;ext;refine⟨nL `d,?_⟩;rw[qr];refine qw (λσ=>∃x,σ=[x,aa (.ref a)]) gS (λt=>gS (t.aB us)) trivial ts [] _ ⟨none,rfl⟩ (by simp;lia) (λx hx σ R hI hR=>?_) ?_
  ·obtain⟨y,rfl⟩:=hI;have hdx:=so hx;have hwx:=qg hx;have:=sj x;right
   simp only[Oh];ext;exact Fo d (t:=x) (r:=r) `l `l ha (Au hf hx) `l (hR _ _ ⟨_,rfl⟩ .refl)
  ·rw[aQ];refine⟨nL (by simp;lia),S, .refl,?_⟩;have e:af (oG us ts)=ts.map λt=>gS (t.aB us):=by rw[qr,He,bB];rfl
   rw[e]at h;exact h
noncomputable def Tr.bz:Tr→List Int→Tr→Tr
 |_,[],u=>u
 | .bl n,_::_,_=> .bl n
 | .nd s ts,i::p,u=>match ts[i.toNat]? with
  |some v=> .nd s (ts.set i.toNat (v.bz p u))
  |none=> .nd s ts
def Dd (t:Tr):t.at []=aa t:=by cases t<;>rfl
def Hb (h:(Tr.nd s ts).at (i::p)=aa u):∃v,0≤i∧ts[i.toNat]? =aa v∧v.at p=aa u:=by
 unfold Tr.at at h;split at h
 ·cases h
 ·split at h
  ·exact⟨_,`l, ‹_›,h⟩
  ·cases h
theorem L8:∀(q:List Int) {D t:Tr}(r:List Int),D.at q=aa t→D.at (q++r)=t.at r
 | [],D,t,r,h=>by rw[Dd]at h;cases h;rfl
 |i::q, .bl n,t,r,h=>by cases h
 |i::q, .nd s ts,t,r,h=>by
  obtain⟨v,h0,h1,h2⟩:=Hb h;rw[bY];have e:(i:Int)=((i.toNat:Nat):Int):=(dt h0).symm;rw[e,IH h1];exact L8 q r h2
def QN:oH S 60 (nW p) (.bH [])=aa p.isEmpty:=by
 cases p<;>rfl
mutual
noncomputable def Tr.same:Tr→Tr→Bool
 | .bl n, .bl m=>n == m
 | .nd s ts, .nd z us=>s == z&&tV ts us
 |_,_=>false
noncomputable def tV:List Tr→List Tr→Bool
 | [],[]=>true
 |t::ts,u::us=>t.same u&&tV ts us
 |_,_=>false
end
mutual
theorem EI:∀(t u:Tr),t.same u=true↔t=u
 | .bl n, .bl m=>by simp [Tr.same]
 | .nd s ts, .nd z us=>by simp [Tr.same,NL ts us]
 | .bl n, .nd z us=>by simp [Tr.same]
 | .nd s ts, .bl m=>by simp [Tr.same]
theorem NL:∀(ts us:List Tr),tV ts us=true↔ts=us
 | [],[]=>by simp [tV]
 |t::ts,u::us=>by simp [tV,EI t u,NL ts us]
 | [],u::us=>by simp [tV]
 |t::ts,[]=>by simp [tV]
end
def AC (t:Tr):t.same t=true:=(EI t t).mpr rfl
def D5{S:gY}{n:Nat}{xs ys:List W}:oH S (n+1) (.bH xs) (.bH ys)=pA (oH S n) xs ys:=gB (b:=pA (oH S n) xs ys) rfl rfl
def Hu{S:gY}{n:Nat}{x y:ah}:oH S (n+1) (.str x) (.str y)=aa (x == y):=gB (b:=aa (x == y)) rfl rfl
def C4{S:gY}{n:Nat}{x y:Int}:oH S (n+1) (.int x) (.int y)=aa (x == y):=gB (b:=aa (x == y)) rfl rfl
def zDX{S:gY}{n:Nat}{x:Int}{ys:List W}:oH S (n+1) (.int x) (.bH ys)=aa false:=gB (b:=aa false) rfl rfl
def Sj{S:gY}{n:Nat}{x:Int}{ys:List W}:oH S (n+1) (.bH ys) (.int x)=aa false:=gB (b:=aa false) rfl rfl
mutual
theorem xF{S:gY}:∀(n:Nat) (t u:Tr),t.depth<n→oH S n (gS t) (gS u)=aa (t.same u)
 |0,t,u,h=>by lia
 |n+1, .bl k, .bl m,h=>by simp only[gS,C4,Tr.same]
 |n+1, .nd s ts, .nd z us,h=>by
  simp only[Tr.depth]at h;obtain⟨n,rfl⟩:∃m,n=m+1:=⟨n - 1,`l⟩
  simp only[gS,D5,pA,Hu,Tr.same];rw[OD (n+1) ts us `l]
 |n+1, .bl k, .nd z us,h=>by simp only[gS,zDX,Tr.same]
 |n+1, .nd s ts, .bl m,h=>by simp only[gS,Sj,Tr.same]
theorem OD{S:gY}:∀(n:Nat) (ts us:List Tr),oy ts<n→pA (oH S n) (af ts) (af us)=aa (tV ts us)
 |n,[],[],h=>by simp only[af,pA,tV]
 |n,[],u::us,h=>by simp only[af,pA,tV]
 |n,t::ts,[],h=>by simp only[af,pA,tV]
 |n,t::ts,u::us,h=>by
  simp only[oy]at h;simp only[af,pA,tV,xF n t u `l,OD n ts us `l]
end
def M5 (j:Int) (m:Nat):rH j (m+1)= .int j::rH (j+1) m:=by
 unfold rH;rw[ig,aG,bB];congr 1
 ·simp
 ·apply dR;intro i _;simp only[jm,W.int.injEq];lia
def HL{α:Type}{xs:List α}{i:Int}(h0:0≤i) (h1:i<xs.length):∃x,ow xs i=aa x∧x∈xs:=by
 have q:=sW (xs:=xs) (n:=i.toNat);rw[dt h0,aU `l]at q;exact⟨_,q,dQ ..⟩
def U8{ss:List ah}{i:Int}(h0:0≤i) (h1:i<ss.length):∃x,ow (ss.map W.str) i=aa (.str x)∧x∈ss:=by
 obtain⟨w,h,m⟩:=HL (xs:=ss.map W.str) h0 (by simpa using h1);obtain⟨x,hx,rfl⟩:=bp.mp m;exact⟨x,h,hx⟩
def FT{g:WG}{b:WS}{E:WX}{D:nQ}(I:Nat→nK→gY→Prop) (n:Nat)
  (step:∀i,i<n→ ∀σ S (N:nK→gY→Prop),I i σ S→(∀σ' S' S'',Sub S'' S'→I (i+1) σ' S''→N σ' S')→g (.int i) σ S λσ1 S1=>b E { D with nx:=N,ct:=N,bk:=D.nx } σ1 S1)
  (done:∀σ S,I n σ S→D.nx σ S) {σ:nK}{S:gY}(h:I 0 σ S):nU g b E D (λ_=>True) (rH 0 n) σ S:=by
 refine GZ (λws σ S=>∃i,i≤n∧ws=rH (i:Int) (n - i)∧I i σ S) ?_ ?_ _ _ _ ⟨0,bc _,rfl,h⟩
 ·rintro w ws σ S N ⟨i,hi,e,hI⟩ hN;obtain⟨m,hm⟩:∃m,n - i=m+1:=by
   obtain z |z:=iq (n - i)
   ·rw[z]at e;cases e
   ·exact⟨n - i - 1,`l⟩
  rw[hm,M5]at e;cases e;exact step i `l σ S N hI λσ' S' S'' sb h'=>hN σ' S' S'' sb trivial ⟨i+1,`l,by rw[show n - (i+1)=m by lia];push_cast;rfl,h'⟩
 ·rintro σ S ⟨i,hi,e,hI⟩;have:n - i=0:=by
   obtain z |z:=iq (n - i)
   ·exact z
   ·obtain⟨m,hm⟩:∃m,n - i=m+1:=⟨n - i - 1,`l⟩
    rw[hm,M5]at e;cases e
  rw[show i=n by lia]at hI
  exact done σ S hI
theorem Pf{k:Nat}:∀{ts:List Tr},(∀t∈ts,t.depth≤k)→oy ts≤k
 | [],_=>by simp [oy]
 |t::ts,h=>by
  have:=h t aM;have:=Pf (ts:=ts) λu hu=>h u (aI _ hu);simp only[oy];lia
def rY{G:gY→Prop}(h:∀N:nK→gY→Prop,(∀σ S S',Sub S' S→G S'→nU g b E D G ws σ S'→N σ S)→g w σ S λσ1 S1=>b E { D with nx:=N,ct:=N,bk:=D.nx } σ1 S1):nU g b E D G (w::ws) σ S:=h _ λσ S S' a c d=>⟨S',a,c,d⟩
mutual
noncomputable def Tr.mt:Tr→Tr→Option (List Tr)
 | .bl _,t=>aa [t]
 | .nd s ls, .nd z us=>if s == z&&ls.length == us.length then oP ls us else none
 | .nd _ _, .bl _=>none
noncomputable def oP:List Tr→List Tr→Option (List Tr)
 | [],_=>aa []
 |_::_,[]=>aa []
 |l::ls,u::us=>match l.mt u with
  |none=>none
  |some xs=>match oP ls us with
   |none=>none
   |some ys=>aa (xs++ys)
end
def J3{E:ah→gY→Prop}(h:Q (.bl (s == z&&ls.length == us.length)) S):zK (r+1) [gS (.nd s ls),gS (.nd z us)] S Q E:=by
 rw[zK];simp only[gS];ext;cases e:s == z with
 |false=>
  rw[e]at h;exact⟨_, .refl,h⟩
 |true=>
  rw[e]at h;ext;refine⟨_, .refl,?_⟩;have:(((af ls).length+1:Nat):Int)=((af us).length+1:Nat)↔ls.length=us.length:=by rw[p9,p9];lia
  have e2:((((af ls).length+1:Nat):Int) == ((af us).length+1:Nat))=(ls.length == us.length):=by
   rw[dc,beq_iff_eq,beq_iff_eq];exact this
  rw[e2];simpa using h
mutual
theorem NR:∀(l t:Tr) (ys:List Tr),l.mt t=aa ys→ys.length≤l.au
 | .bl _,t,ys,h=>by simp only[Tr.mt,bS]at h;subst h;simp [Tr.au]
 | .nd s ls, .nd z us,ys,h=>by
  simp only[Tr.mt]at h;split at h
  ·have:=Ii ls us ys h;simp only[Tr.au];lia
  ·cases h
 | .nd _ _, .bl _,ys,h=>by simp [Tr.mt]at h
theorem Ii:∀(ls us ys:List Tr),oP ls us=aa ys→ys.length≤nI ls
 | [],us,ys,h=>by simp only[oP,bS]at h;subst h;simp
 |l::ls,[],ys,h=>by simp only[oP,bS]at h;subst h;simp
 |l::ls,u::us,ys,h=>by
  simp only[oP]at h;split at h
  ·cases h
  ·rename_i xs e1;split at h
   ·cases h
   ·rename_i zs e2;cases h;have:=NR l u xs e1;have:=Ii ls us zs e2;simp only[aW,nI];lia
end
theorem MJ:∀(ls us:List Tr)
  (one:∀l∈ls,∀{t:Tr}{S:gY}{xs:List W}{Q:WK}{E:ah→gY→Prop},t.a_ 0→S a=aa (.bx xs)→xs.length+l.au≤100000→(∀ys,l.mt t=aa ys→Q (.bl true) (bz S a (.bx (xs++af ys))))→(l.mt t=none→ ∀ys,Q (.bl false) (bz S a (.bx (xs++ys))))→vV r [gS l,gS t, .ref a] S Q E)
  {S:gY}{xs:List W}{x3 x4:Option W},nX 0 us→S a=aa (.bx xs)→xs.length+nI ls≤100000→
  (∀ys x3 x4,oP ls us=aa ys→D.nx [x0,x1,aa (.ref a),x3,x4] (bz S a (.bx (xs++af ys))))→(oP ls us=none→ ∀ys,D.rt (.bl false) (bz S a (.bx (xs++ys))))→
  nU (qx (oU (wGN 3) (oU (wGN 4) qh))) (Ew r (vV r)) E D (λ_=>True) (nP (af ls) (af us)) [x0,x1,aa (.ref a),x3,x4] S
 | [],us,one,S,xs,x3,x4,hf,ha,hl,h1,h0=>by
  have q:=h1 [] x3 x4 (by simp [oP]);simp only[af,bC,sI ha]at q;simpa [af,nP,nU]using q
 |l::ls,[],one,S,xs,x3,x4,hf,ha,hl,h1,h0=>by
  have q:=h1 [] x3 x4 (by simp [oP]);simp only[af,bC,sI ha]at q;simpa [af,nP,nU]using q
 |l::ls,u::us,one,S,xs,x3,x4,hf,ha,hl,h1,h0=>by
  simp only[nX]at hf;simp only[nI]at hl;simp only[af,nP];refine rY λN hN=>?_;simp only[Ew];ext;refine one l aM hf.1 ha `l (λys e=>?_) λe ys=>?_
  ·ext;have hyl:=NR l u ys e;refine hN _ _ _ .refl trivial (MJ ls us (λl' hl'=>one l' (aI _ hl')) hf.2 nJ (by rw[aW,p9];lia) (λzs x3 x4 e2=>?_) λe2 zs=>?_)
   ·rw[qa,b7,←yb];exact h1 _ _ _ (by simp only[oP,e,e2])
   ·rw[qa,b7];exact h0 (by simp only[oP,e,e2]) _
  ·ext;exact h0 (by simp only[oP,e]) ys
theorem Mf:∀(d:Nat) {l t:Tr}{r:Nat}{S:gY}{xs:List W}{Q:WK}{E:ah→gY→Prop},l.depth≤d→d≤r→t.a_ 0→S a=aa (.bx xs)→xs.length+l.au≤100000→
  (∀ys,l.mt t=aa ys→Q (.bl true) (bz S a (.bx (xs++af ys))))→(l.mt t=none→ ∀ys,Q (.bl false) (bz S a (.bx (xs++ys))))→vV (r+1) [gS l,gS t, .ref a] S Q E
 |0,l,t,r,S,xs,Q,E,hd,hr,hf,ha,hl,h1,h0=>by have:=sj l;lia
 |d+1, .bl n,t,r,S,xs,Q,E,hd,hr,hf,ha,hl,h1,h0=>by
  have hw:=uc (.bl n);rw[vV];simp only[gS];ext;simp only[nT ha,true_and];refine⟨rA `l,_, .refl,?_⟩;have:=h1 [t] (by simp [Tr.mt]);simpa only[af]using this
 |d+1, .nd s ls, .bl n,r,S,xs,Q,E,hd,hr,hf,ha,hl,h1,h0=>by
  simp only[Tr.a_]at hf;lia
 |d+1, .nd s ls, .nd z us,r,S,xs,Q,E,hd,hr,hf,ha,hl,h1,h0=>by
  simp only[Tr.a_]at hf;simp only[Tr.depth]at hd;simp only[Tr.au]at hl;right
  have en:∀s ts,gS (.nd s ts)= .bH (.str s::af ts):=λs ts=>by simp [gS]
  rw[vV];ext;rw[en,en];ext;rw[←en,←en];refine J3 ?_;rw[en,en];ext;simp only[Tr.mt]at h1 h0;cases e:(s == z&&ls.length == us.length) with
  |false=>
   rw[e]at h0;have:=h0 `s [];rw[bC,sI ha]at this;exact⟨_, .refl,this⟩
  |true=>
   rw[e]at h0 h1;simp only[if_true]at h0 h1;ext;refine MJ ls us (λl hl' {t S xs Q E} f1 f2 f3 f4 f5=>Mf d (by have:=so hl';lia) `l f1 f2 f3 f4 f5) hf ha `l (λys x3 x4 e=>?_) λe ys=>?_
   ·ext;exact⟨_, .refl,h1 ys e⟩
   ·exact⟨_, .refl,h0 e ys⟩
def BL{E:ah→gY→Prop}(hr:l.depth<r) (hf:t.a_ 0) (hw:l.au≤90000) (h1:∀ys,l.mt t=aa ys→ ∀a,S a=none→Q (.ref a) (bz S a (.bx (af ys)))) (h0:l.mt t=none→Q .bR S):vq (r+1) [gS l,gS t] S Q E:=by
 right
 rw[vq];ext;refine⟨bc _,λa ha=>Mf l.depth (aE _) `l hf nJ (by simpa using(by lia:l.au≤100000)) (λys e=>?_) λe ys=>?_⟩
 ·ext;exact⟨_, .refl,h1 ys e a ha⟩
 ·ext;exact⟨_, .bz .refl ha,h0 e⟩
mutual
theorem Jr:∀(l t:Tr) (ys:List Tr),l.mt t=aa ys→nI ys≤t.au
 | .bl _,t,ys,h=>by simp only[Tr.mt,bS]at h;subst h;simp [nI]
 | .nd s ls, .nd z us,ys,h=>by
  simp only[Tr.mt]at h;split at h
  ·have:=Ft ls us ys h;simp only[Tr.au];lia
  ·cases h
 | .nd _ _, .bl _,ys,h=>by simp [Tr.mt]at h
theorem Ft:∀(ls us ys:List Tr),oP ls us=aa ys→nI ys≤nI us
 | [],us,ys,h=>by simp only[oP,bS]at h;subst h;simp [nI]
 |l::ls,[],ys,h=>by simp only[oP,bS]at h;subst h;simp [nI]
 |l::ls,u::us,ys,h=>by
  simp only[oP]at h;split at h
  ·cases h
  ·rename_i xs e1;split at h
   ·cases h
   ·rename_i zs e2;cases h;have:=Jr l u xs e1;have:=Ft ls us zs e2;simp only[xh,nI];lia
end
def uU (c:Nat):Bool:=decide (97≤c)&&decide (c≤122)
noncomputable def aF (xs:List Nat):Bool:=xs.all uU
noncomputable def wb (xs:List Nat):Bool:=decide (1≤xs.length)&&(decide (xs.length≤8)&&(decide (65≤xs.headD 0)&&(decide (xs.headD 0≤90)&&aF (xs.drop 1))))
def Ho{s:ah}{a:Nat}(hs:s.cps.toList=[a]) (c:Nat):(!decide ((⟨#[c]⟩:ah).cps.toList<s.cps.toList))=decide (a≤c):=by
 rw[hs];show(!decide (([c]:List Nat)< [a]))=_;by_cases h:a≤c
 ·rw[decide_eq_true h,decide_eq_false (λz=>by have:=(C6 c a).mp z;lia)];rfl
 ·rw[decide_eq_false h,decide_eq_true ((C6 c a).mpr `l)];rfl
def E4{s:ah}{a:Nat}(hs:s.cps.toList=[a]) (c:Nat):(!decide (s.cps.toList<(⟨#[c]⟩:ah).cps.toList))=decide (c≤a):=by
 rw[hs];show(!decide (([a]:List Nat)< [c]))=_;by_cases h:c≤a
 ·rw[decide_eq_true h,decide_eq_false (λz=>by have:=(C6 a c).mp z;lia)];rfl
 ·rw[decide_eq_false h,decide_eq_true ((C6 a c).mpr `l)];rfl
def Te:(aq "a").cps.toList=[97]:=by decide +kernel
def zCA:(aq "z").cps.toList=[122]:=by decide +kernel
def Qw:(aq "A").cps.toList=[65]:=by decide +kernel
def zAR:(aq "Z").cps.toList=[90]:=by decide +kernel
def Dp (x:ah):(cu x (aa 1) none).cps.toList=x.cps.toList.drop 1:=by
 rw[DD];unfold xR;rw[HT.sIx_none];have ez:HT.sIx x.cps.toList.length 0 (aa 1)=min 1 x.cps.toList.length:=HT.sIx_nat x.cps.toList.length 0 1;rw[ez];by_cases h:1≤x.cps.toList.length
 ·rw[fy h,dZ (by rw[d_];exact aE _)]
 ·have:x.cps.toList=[]:=fZ `l;rw[this];rfl
def zf (x:ah):x.length=x.cps.toList.length:=by simp [cD]
def z9 (bs:List Bool):uJ (bs.map W.bl)=aa bs:=by
 induction bs with
 |nil=>rfl
 |cons b bs ih=>rw[aG,uJ,ih];rfl
def CM{α:Type}(xs:List α) (f:α→Bool):((xs.map f).all _root_.id)=xs.all f:=by rw[gG];rfl
def FE{E:ah→gY→Prop}(hx:x.length≤1000) (h:Q (.bl (aF x.cps.toList)) S):BI (r+1) [.str x] S Q E:=by
 rw[zf]at hx;rw[BI];left;unfold Ac;refine qw (λσ=>∃x,σ=[x]) (λc=> .str ⟨#[c]⟩) (λc=> .bl (uU c)) ?_ x.cps.toList [] _ ⟨none,rfl⟩ (by rw[dA];lia) (λc hc σ R hI hR=>?_) ?_
 ·exact trivial
 ·obtain⟨y,rfl⟩:=hI;simp only[Po];left;rw[Ho Te,E4 zCA];unfold uU at hR;cases e:decide (97≤c) with
  |false=>rw[e]at hR;exact hR _ _ ⟨_,rfl⟩ .refl
  |true=>rw[e]at hR;exact hR _ _ ⟨_,rfl⟩ .refl
 ·have e:x.cps.toList.map (λc=>W.bl (uU c))=(x.cps.toList.map uU).map W.bl:=by rw[bB];rfl
  rw[aQ,e,z9];dsimp only;rw[CM];exact⟨_, .refl,h⟩
def F0{E:ah→gY→Prop}(hx:x.length≤1000) (h:Q (.bl (wb x.cps.toList)) S):y_ (r+2) [.str x] S Q E:=by
 have hsl:=Txt.slice_le x (aa 1) none;have hxl:=zf x;rw[y_];left;unfold wb at h;rw[←hxl]at h;cases e1:decide (1≤x.length) with
 |false=>
  rw[e1]at h;have:¬1≤x.length:=by simpa using e1
  have e1':decide ((1:Int)≤(x.length:Int))=false:=by simp;lia
  rw[e1'];left;exact⟨nL `l,_, .refl,h⟩
 |true=>
  rw[e1]at h;have h1:1≤x.length:=by simpa using e1
  have e1':decide ((1:Int)≤(x.length:Int))=true:=by simp;lia
  rw[e1'];refine⟨nL `l,?_⟩;left;cases e2:decide (x.length≤8) with
  |false=>
   rw[e2]at h;have:¬x.length≤8:=by simpa using e2
   have e2':decide ((x.length:Int)≤8)=false:=by simp;lia
   rw[e2'];exact⟨_, .refl,h⟩
  |true=>
   rw[e2]at h;have h2:x.length≤8:=by simpa using e2
   have e2':decide ((x.length:Int)≤8)=true:=by simp;lia
   rw[e2'];left;obtain⟨c,rest,hc⟩:∃c rest,x.cps.toList=c::rest:=by
    cases e:x.cps.toList with
    |nil=>rw[e]at hxl;simp at hxl;lia
    |cons c rest=>exact⟨c,rest,rfl⟩
   rw[hc]at h⊢;replace h:Q (W.bl (decide (65≤c)&&(decide (c≤90)&&aF rest))) S:=h;left;rw[Ho Qw];refine⟨nL `l,?_⟩;cases e3:decide (65≤c) with
   |false=>rw[e3]at h;exact⟨_, .refl,h⟩
   |true=>
    rw[e3]at h;left;rw[E4 zAR];cases e4:decide (c≤90) with
    |false=>rw[e4]at h;exact⟨_, .refl,h⟩
    |true=>
     rw[e4]at h;left;refine⟨nL `l,FE `l ⟨_, .refl,?_⟩⟩;rw[Dp,hc];exact h
def Ox{E:ah→gY→Prop}(hw:t.au≤90000) (h:Q (.int t.au) S):Bw (r+2) [gS t] S Q E:=by
 rw[Bw];left;refine⟨nL `d,λa ha=>?_⟩;refine⟨λm σ S'=>∃(ts:List Tr) (k:Nat) (x3:Option W),m=nI ts∧k+nI ts=t.au∧S'=bz S a (.bx (af ts))∧σ=[aa (gS t),aa (.int k),aa (.ref a),x3],⟨_,[t],0,none,rfl,by simp [nI],by simp [af],rfl⟩,?_⟩
 rintro m σ S' ⟨ts,k,x3,rfl,hk,rfl,rfl⟩;left;have hl:=qJ ts;obtain rfl |⟨us,u,rfl⟩:=jY ts
 ·simp only[af,kC];left;simp only[nI,eM]at hk;subst hk;exact⟨_, .bz .refl ha,h⟩
 ·have hwu:=zF u;simp only[jL,xh,ur,Cy,eM]at hk hl⊢;have hne:(af (us++[u])).isEmpty=false:=by rw[yb];simp [af]
  rw[hne];simp only[LJ];left;rw[yb,aW];simp only[af,cj,Nat.add_sub_cancel,p9,List.dropLast_concat];rw[gU (by rw[p9];exact aE _),p9,ge];dsimp only[ic];refine yR ?_;left;simp only[p9,←yb];have hkl:=qJ u.cF;have hul:=qJ us;refine⟨nL `l,nI (us++u.cF),_,?_, .refl,us++u.cF,k+1,aa (gS u),rfl,?_,rfl,?_⟩
  ·rw[xh];lia
  ·rw[xh];lia
  ·push_cast;rfl
noncomputable def Tr.nums (t:Tr):List Int:=t.bls.map λx=>x.2.num
def KC (t:Tr):t.nums.length≤t.au:=by unfold Tr.nums;rw[aD];exact Ex t
def Iz (t:Tr):(t.bls.map λx=>W.int x.2.num)=t.nums.map W.int:=by unfold Tr.nums;rw[bB];rfl
theorem HP:∀xs ys:List Int,pA (oH S (n+1)) (xs.map W.int) (ys.map W.int)=aa (xs == ys)
 | [],[]=>rfl
 | [],y::ys=>rfl
 |x::xs,[]=>rfl
 |x::xs,y::ys=>by
  simp only[aG,pA,C4,HP xs ys];rfl
def Yc{S:gY}{n:Nat}{a b:aj}{xs ys:List Int}(ha:S a=aa (.bx (xs.map W.int))) (hb:S b=aa (.bx (ys.map W.int))):oH S (n+2) (.ref a) (.ref b)=aa (xs == ys):=by
 simp only[oH,ha,hb];exact HP (n:=n) xs ys
theorem Ke:∀xs:List Int,qS S (.int x) (xs.map W.int)=aa (xs.contains x)
 | []=>rfl
 |y::ys=>by
  simp only[aG,qS,C4,Ke ys,List.contains_cons];rw[show(y == x)=(x == y) from by rw[dc,beq_iff_eq,beq_iff_eq];exact eq_comm]
noncomputable def tM (n:Nat):List Int:=(bt n).map λ(i:Nat)=>(i:Int)
def ZJ (n:Nat):rH 0 n=(tM n).map W.int:=by
 unfold rH tM;rw[bB];apply dR;intro i _;simp
noncomputable def qC (x:ah) (l r:Tr):Bool:=wb x.cps.toList&&(!l.isBl&&(decide (l.au≤12)&&(decide (r.au≤12)&&((l.nums == tM l.nums.length)&&r.nums.all λn=>l.nums.contains n))))
def Qy{x:ah}{l u:Tr}{r:Nat}{S:gY}{Q:WK}{E:ah→gY→Prop}(hx:x.length≤1000) (hl:l.au≤80) (hu:u.au≤80) (hr:100≤r) (h:Q (.bl (qC x l u)) S):CZ (r+1) [.bH [.str x,gS l,gS u]] S Q E:=by
 obtain⟨r,rfl⟩:∃r',r=r'+4:=⟨r - 4,`l⟩
 have hdl:=ut l;have hdu:=ut u;have hnl:=KC l;have hnu:=KC u;unfold qC at h;rw[CZ];left;simp only[show ow [W.str x,gS l,gS u] 1=aa (gS l) from rfl,zzi,d8,ic];refine F0 hx ?_;left;cases e1:wb x.cps.toList with
 |false=>
  rw[e1]at h;left;exact⟨_, .refl,h⟩
 |true=>
  rw[e1]at h;left;cases l with
  |bl n=>
   simp only[gS];left;exact⟨_, .refl,h⟩
  |nd s ls=>
   have en:gS (.nd s ls)= .bH (.str s::af ls):=by simp [gS]
   have hb:(Tr.nd s ls).isBl=false:=rfl;rw[hb]at h;generalize hl':Tr.nd s ls=l at *;rw[en];left;rw[←en];clear en hb hl';refine Ox `l ?_;left;by_cases w1:l.au≤12
   ·rw[decide_eq_true w1]at h;rw[if_neg `l];refine Ox `l ?_;left;by_cases w2:u.au≤12
    ·rw[decide_eq_true w2]at h;rw[if_neg `l];refine EQ `l `l λa ha=>?_;rw[Iz];left;rw[aD,cy,ZJ];refine⟨⟨`l,`l⟩,λb hb=>?_⟩
     rw[Yc (xs:=l.nums) (ys:=tM l.nums.length) (keep nJ hb) nJ];have fa:=keep (x:=Ob.bx ((tM l.nums.length).map W.int)) (nJ (S:=S) (a:=a) (o:=Ob.bx (l.nums.map W.int))) hb;have sub:Sub S (bz (bz S a (Ob.bx (l.nums.map W.int))) b (Ob.bx ((tM l.nums.length).map W.int))):= .bz (.bz .refl ha) (uC hb).1;generalize bz (bz S a (Ob.bx (l.nums.map W.int))) b (Ob.bx ((tM l.nums.length).map W.int))=S2 at fa sub⊢;cases e3:l.nums == tM l.nums.length with
     |false=>
      rw[e3]at h;left;exact⟨_,sub,h⟩
     |true=>
      rw[e3]at h;left;refine EQ `l `l λc hc=>?_;rw[Iz];left;refine qw (λσ=>∃x,σ=[x,aa (.ref a)]) W.int (λn=> .bl (l.nums.contains n)) ?_ u.nums [] _ ⟨none,rfl⟩ (by rw[dA];lia) (λn hn σ R hI hR=>?_) ?_
      ·exact nJ
      ·obtain⟨y,rfl⟩:=hI;simp only[Kn];left;rw[nT (keep fa hc),Ke];exact hR _ _ ⟨_,rfl⟩ .refl
      ·have e:u.nums.map (λn=>W.bl (l.nums.contains n))=(u.nums.map λn=>l.nums.contains n).map W.bl:=by rw[bB];rfl
       rw[aQ,e,z9];dsimp only;rw[CM];exact⟨_, .trans sub (.bz .refl hc),h⟩
    ·rw[decide_eq_false w2]at h;rw[if_pos `l];exact⟨_, .refl,h⟩
   ·rw[decide_eq_false w1]at h;rw[if_pos `l];exact⟨_, .refl,h⟩
mutual
noncomputable def Tr.mee:Tr→Tr→Bool
 | .bl _,_=>true
 | .nd _ _, .bl _=>true
 | .nd s ls, .nd z us=>(s == z&&ls.length == us.length)&&tu ls us
noncomputable def tu:List Tr→List Tr→Bool
 |l::ls,u::us=>l.mee u&&tu ls us
 |_,_=>true
end
mutual
theorem JC:∀l u:Tr,l.mee u=u.mee l
 | .bl _, .bl _=>by simp [Tr.mee]
 | .bl _, .nd _ _=>by simp [Tr.mee]
 | .nd _ _, .bl _=>by simp [Tr.mee]
 | .nd s ls, .nd z us=>by
  simp only[Tr.mee,Nb ls us];rw[show(s == z)=(z == s) from by rw[dc,beq_iff_eq,beq_iff_eq];exact eq_comm,show(ls.length == us.length)=(us.length == ls.length) from by rw[dc,beq_iff_eq,beq_iff_eq];exact eq_comm]
theorem Nb:∀ls us:List Tr,tu ls us=tu us ls
 | [],[]=>by simp [tu]
 | [],_::_=>by simp [tu]
 |_::_,[]=>by simp [tu]
 |l::ls,u::us=>by simp only[tu,JC l u,Nb ls us]
end
theorem OT{Q:List W→gY→Prop}:∀(ls us:List Tr) (one:∀l∈ls,∀{u:Tr}{Q:WK}{E:ah→gY→Prop},Q (.bl (l.mee u)) S→uV r [gS l,gS u] S Q E) {acc:List Bool}{p q:Option W},acc.length+ls.length≤1000000→
  (∀bs:List Bool,bs.all _root_.id=(acc.all _root_.id&&tu ls us)→Q (bs.map W.bl) S)→
  sA (qx (oU (wGN 0) (oU (wGN 1) qh))) pP (C5 r (uV r)) E (λ_=>True) Q (nP (af ls) (af us)) (acc.map W.bl) [p,q] S
 | [],us,one,acc,p,q,hl,h=>by
  have:=h acc (by simp [tu]);simpa [af,nP,sA]using this
 |l::ls,[],one,acc,p,q,hl,h=>by
  have:=h acc (by simp [tu]);simpa [af,nP,sA]using this
 |l::ls,u::us,one,acc,p,q,hl,h=>by
  simp only[aS]at hl;simp only[af,nP,sA,C5];ext;refine one l aM ⟨rA (by rw[aD];lia),S, .refl,?_⟩;have:=OT (Q:=Q) (E:=E) ls us (λl' hl'=>one l' (aI _ hl')) (acc:=acc++[l.mee u]) (p:=aa (gS l)) (q:=aa (gS u)) (by simp;lia) λbs hb=>h bs (by rw[hb];simp [tu,mW]);simpa only[bU,aG,dv,C5]using this
theorem Jc:∀(d:Nat) {l u:Tr}{r:Nat}{Q:WK}{E:ah→gY→Prop},l.depth≤d→d≤r→l.au≤90000→Q (.bl (l.mee u)) S→uV (r+1) [gS l,gS u] S Q E
 |0,l,u,r,Q,E,hd,hr,hw,h=>by have:=sj l;lia
 |d+1, .bl n,u,r,Q,E,hd,hr,hw,h=>by
  rw[uV];simp only[gS];ext;simp only[Tr.mee]at h;exact⟨_, .refl,h⟩
 |d+1, .nd s ls, .bl n,r,Q,E,hd,hr,hw,h=>by
  rw[uV];simp only[gS];ext;simp only[Tr.mee]at h;exact⟨_, .refl,h⟩
 |d+1, .nd s ls, .nd z us,r,Q,E,hd,hr,hw,h=>by
  simp only[Tr.depth]at hd;simp only[Tr.au]at hw;have hk:=qJ ls;right
  have en:∀s ts,gS (.nd s ts)= .bH (.str s::af ts):=λs ts=>by simp [gS]
  rw[uV];rw[en,en];ext;rw[←en,←en];refine J3 ?_;simp only[Tr.mee]at h;cases e:(s == z&&ls.length == us.length) with
  |false=>
   rw[e]at h;exact⟨_, .refl,h⟩
  |true=>
   rw[e]at h;ext;refine OT ls us (λl hl {u Q E} q=>Jc d (by have:=so hl;lia) `l (by have:=qg hl;lia) q) (acc:=[]) (by simp;lia) λbs hb=>?_;rw[z9];dsimp only;rw[hb];exact⟨_, .refl,h⟩
mutual
theorem HU:∀(t:Tr) (p q:List Int) (u:Tr),t.at q=aa u→(p++q,u)∈t.plt p
 | .bl n,p,[],u,h=>by rw[Dd]at h;cases h;simp [Tr.plt]
 | .bl n,p,i::q,u,h=>by cases h
 | .nd s ts,p,[],u,h=>by rw[Dd]at h;cases h;simp [Tr.plt]
 | .nd s ts,p,i::q,u,h=>by
  obtain⟨v,h0,e1,e2⟩:=Hb h;simp only[Tr.plt,az];refine .inr ?_;have:=LG ts p 0 i.toNat q u v e1 e2;rw[ca,dt h0]at this;simpa using this
theorem LG:∀(ts:List Tr) (p:List Int) (i j:Nat) (q:List Int) (u v:Tr),ts[j]? =aa v→v.at q=aa u→(p++((i+j:Nat):Int)::q,u)∈qi p i ts
 | [],p,i,j,q,u,v,h1,h2=>by simp at h1
 |t::ts,p,i,0,q,u,v,h1,h2=>by
  simp at h1;subst h1;simp only[qi,bv];refine .inl ?_;have:=HU t (p++[(i:Int)]) q u h2;simpa using this
 |t::ts,p,i,j+1,q,u,v,h1,h2=>by
  simp only[qi,bv];refine .inr ?_;have:=LG ts p (i+1) j q u v (by simpa using h1) h2;rw[show i+1+j=i+(j+1) by lia]at this
  exact this
end
def Hl{t:Tr}{x:List Int×Tr}(h:x∈t.plt []):t.at x.1=aa x.2∧x.1.length<t.depth:=by
 obtain⟨q,h3,h4,h5⟩:=Bm t [] x.1 x.2 h;simp at h3;subst h3;exact⟨h4,h5⟩
theorem we{α:Type}{G:gY→Prop}(hG:G S) (I:nK→Prop) (key:α→W) (f:α→Option W):∀(xs:List α) (σ:nK),I σ→
  (∀x∈xs,∀σ (N:nK→gY→Prop),I σ→(f x=none→ ∀σ' S',I σ'→Sub S S'→N σ' S')→(∀w,f x=aa w→ ∀S',Sub S S'→D.rt w S')→g (key x) σ S λσ1 S1=>b E { D with nx:=N,ct:=N,bk:=D.nx } σ1 S1)→
  (xs.findSome? f=none→ ∀σ,I σ→D.nx σ S)→(∀w,xs.findSome? f=aa w→ ∀S',Sub S S'→D.rt w S')→nU g b E D G (xs.map key) σ S
 | [],σ,hI,step,done,ret=>by
  have:=done rfl σ hI;simpa [nU]using this
 |x::xs,σ,hI,step,done,ret=>by
  rw[aG];refine rY λN hN=>?_;refine step x aM σ N hI (λe σ' S' hI' sb=>?_) λw e S' sb=>ret w (by rw[fO,e]) S' sb;refine hN _ _ S sb hG (we hG I key f xs σ' hI' (λy hy=>step y (aI _ hy)) (λe2=>done (by rw[fO,e];exact e2)) λw e2=>ret w (by rw[fO,e];exact e2))
abbrev Tn:=ah×Tr×Tr
noncomputable def nN (t:Tn):W:= .bH [.str t.1,gS t.2.1,gS t.2.2]
def uO:Tn:=("", .bl 0, .bl 0)
def lf (ts:List Tn) (j:Nat):Tr:=(ts.getD j uO).2.1
def FB (h:j<ts.length):∃t∈ts,ts[j]? =aa t∧lf ts j=t.2.1:=by
 refine⟨ts[j],dQ ..,aU h,?_⟩;unfold lf;rw[bF,aU h];rfl
def Pv (n:Nat):rH 0 n=(bt n).map λ(i:Nat)=>W.int i:=by
 unfold rH;apply dR;intro i _;simp
def YD (ts:List Tn):nums 0 (ts.map nN)=(bt ts.length).map λj=> .bH [.int j,nN (ts.getD j uO)]:=by
 apply l_;intro i;rw[bK];by_cases hi:i<ts.length
 ·rw[gJ hi];have hl:i<(nums 0 (ts.map nN)).length:=by rw[D_,aD];exact hi
  obtain⟨w,ew,eu⟩:=Fj (aU hl);rw[aU hl,eu];rw[bK,aU hi]at ew;simp only[fo,bS]at ew;simp only[fo,ca,bF,aU hi,gD,ew]
 ·rw[f_ (by rw[D_,aD];lia),f_ (by simp;lia)];rfl
noncomputable def yo (ts:List Tn) (k:Nat) (x:List Int×Tr) (j:Nat):Option W:=if(!x.2.isBl&&(!(x.1.isEmpty&&j == k)&&x.2.mee (lf ts j)))=true then aa (.bH [.int k, .int j,nW x.1]) else none
noncomputable def Gf (ts:List Tn) (k:Nat) (x:List Int×Tr):Option W:=(bt ts.length).findSome? (yo ts k x)
noncomputable def xW (ts:List Tn) (k:Nat):Option W:=((lf ts k).plt []).findSome? (Gf ts k)
noncomputable def v5 (ts:List Tn):Option W:=(bt ts.length).findSome? (xW ts)
noncomputable def yZ:Option W→W
 |some w=>w
 |none=> .bR
def ZG{ts:List Tn}{a:aj}{k:Nat}{r:Nat}{S:gY}{Q:WK}{E:ah→gY→Prop}(ha:S a=aa (.bx (ts.map nN))) (hk:k<ts.length) (hw:∀t∈ts,t.2.1.au≤80) (hr:100≤r) (hn:ts.length≤100) (h:Q (yZ (xW ts k)) S):BU (r+1) [.ref a, .int k] S Q E:=by
 obtain⟨r,rfl⟩:∃r',r=r'+3:=⟨r - 3,`l⟩
 obtain⟨t,mt,et,el⟩:=FB hk;have hwl:(lf ts k).au≤80:=by rw[el];exact hw t mt
 have hdl:=ut (lf ts k);have e1:ow (ts.map nN) (k:Int)=aa (.bH [.str t.1,gS (lf ts k),gS t.2.2]):=by
  rw[sW,bK,et,el];rfl
 rw[BU];ext;rw[nT ha,e1];ext;rw[show ow [W.str t.1,gS (lf ts k),gS t.2.2] 1=aa (gS (lf ts k)) from rfl];ext;refine Mq `l `l `l λb hb=>?_;ext;rw[←wT,bB];have fa:=keep (x:=Ob.bx (((lf ts k).plt []).map (nW∘λx=>x.1))) ha hb;have fb:bz S b (Ob.bx (((lf ts k).plt []).map (nW∘λx=>x.1))) b=aa (.bx (((lf ts k).plt []).map (nW∘λx=>x.1))):=nJ;have sub:Sub S (bz S b (Ob.bx (((lf ts k).plt []).map (nW∘λx=>x.1)))):= .bz .refl hb;generalize bz S b (Ob.bx (((lf ts k).plt []).map (nW∘λx=>x.1)))=S1 at fa fb sub⊢;refine we ?_ (λσ=>∃x3 x4 x5 x6 x7,σ=[aa (.ref a),aa (.int k),aa (gS (lf ts k)),x3,x4,x5,x6,x7]) (nW∘λx=>x.1) (Gf ts k) _ _ ⟨_,_,_,_,_,rfl⟩ (λx hx σ N hI hno hret=>?_) (λe σ hI=>?_) λw e S' sb=>?_
 ·exact fb
 ·obtain⟨x3,x4,x5,x6,x7,rfl⟩:=hI;obtain⟨h4,h5⟩:=Hl hx;obtain⟨sw,sd⟩:=HI _ h4;simp only[JK,jm];ext;refine E9 h4 ?_
  try ext
  rw[nT fa,YD];refine we ?_ (λσ=>∃x5 x6 x7,σ=[aa (.ref a),aa (.int k),aa (gS (lf ts k)),aa (nW x.1),aa (gS x.2),x5,x6,x7]) (λ(j:Nat)=> .bH [.int j,nN (ts.getD j uO)]) (yo ts k x) _ _ ⟨_,_,_,rfl⟩ (λj hj σ N2 hI hno2 hret2=>?_) (λe σ hI=>?_) λw e S' sb=>hret w e S' sb
  ·exact fa
  ·obtain⟨x5,x6,x7,rfl⟩:=hI;have en:nN (ts.getD j uO)= .bH [.str (ts.getD j uO).1,gS (lf ts j),gS (ts.getD j uO).2.2]:=rfl;simp only[Ly];ext;rw[QN];rw[en];unfold yo at hno2 hret2;have ej:((j:Int) == (k:Int))=(j == k):=by rw[dc,beq_iff_eq,beq_iff_eq];lia
   rw[ej];obtain⟨p,u⟩:=x;dsimp only at *;refine⟨bc _,?_⟩;cases u with
   |bl n=>
    have no:=hno2 (by simp [Tr.isBl]);cases p.isEmpty<;>simp only[gS]at no⊢ <;>ext <;>exact no _ _ ⟨_,_,_,rfl⟩ .refl
   |nd s us=>
    have isb:(Tr.nd s us).isBl=false:=rfl;rw[isb]at hno2 hret2;have en2:gS (.nd s us)= .bH (.str s::af us):=by simp [gS]
    have tail:∀(x7:Option W),(p.isEmpty&&j == k)=false→uV (r+3) [gS (.nd s us),gS (lf ts j)] S1 (λw S'=>vR w S' λb S1=>if b=true then 3≤sizeLine∧ ∃S'',Sub S'' S1∧Q (W.bH [W.int ↑k,W.int ↑j,nW p]) S'' else N2 [aa (W.ref a),aa (W.int ↑k),aa (gS (lf ts k)),aa (nW p),aa (gS (.nd s us)),aa (W.int ↑j),aa (W.bH [W.str (ts.getD j uO).fst,gS (lf ts j),gS (ts.getD j uO).snd.snd]),x7] S1) (λcl S2=>E cl S2):=λx7 ec=>by
     rw[ec]at hno2 hret2;refine Jc (Tr.nd s us).depth (aE _) `l `l ?_;cases em:(Tr.nd s us).mee (lf ts j) with
     |true=>
      rw[em]at hret2;have:=hret2 (W.bH [W.int ↑k,W.int ↑j,nW p]) `s S1 .refl;ext;exact⟨nL `d,this⟩
     |false=>
      rw[em]at hno2;ext;exact hno2 `s _ _ ⟨_,_,_,rfl⟩ .refl
    have e1':ow [W.str (ts.getD j uO).fst,gS (lf ts j),gS (ts.getD j uO).snd.snd] 1=aa (gS (lf ts j)):=rfl;cases ep:p.isEmpty with
    |false=>
     have t7:=tail (aa (.bl false)) (by rw[ep];rfl);rw[en2]at t7⊢;ext;rw[e1'];exact t7
    |true=>
     cases ejk:j == k with
     |false=>
      have t7:=tail (aa (.bl false)) (by rw[ep,ejk];rfl);rw[en2]at t7⊢;ext;rw[e1'];exact t7
     |true=>
      have no:=hno2 (by rw[ep,ejk];simp);rw[en2]at no⊢;ext;exact no _ _ ⟨_,_,_,rfl⟩ .refl
  ·obtain⟨x5,x6,x7,rfl⟩:=hI;exact hno e _ _ ⟨_,_,_,_,_,rfl⟩ .refl
 ·obtain⟨x3,x4,x5,x6,x7,rfl⟩:=hI;ext;have e':xW ts k=none:=e;rw[e']at h;exact⟨S,sub,h⟩
 ·have e':xW ts k=aa w:=e;rw[e']at h;exact⟨S, .trans sub sb,h⟩
def Vc{ts:List Tn}{a:aj}{r:Nat}{S:gY}{Q:WK}{E:ah→gY→Prop}(ha:S a=aa (.bx (ts.map nN))) (hw:∀t∈ts,t.2.1.au≤80) (hr:101≤r) (hn:ts.length≤100) (h:Q (yZ (v5 ts)) S):C7 (r+1) [.ref a] S Q E:=by
 right
 rw[C7];ext;rw[nT ha,aD,cy,Pv];refine⟨⟨`l,`l⟩,?_⟩
 refine we ?_ (λσ=>∃x1 x2,σ=[aa (.ref a),x1,x2]) (λ(i:Nat)=>W.int i) (xW ts) _ _ ⟨_,_,rfl⟩ (λk hk σ N hI hno hret=>?_) (λe σ hI=>?_) λw e S' sb=>?_
 ·exact trivial
 ·obtain⟨x1,x2,rfl⟩:=hI;simp only[K0];ext;refine ZG ha (eV.mp hk) hw `l hn ?_;cases e:xW ts k with
  |none=>
   simp only[yZ];ext;exact hno e _ _ ⟨_,_,rfl⟩ .refl
  |some w=>
   obtain⟨x,_,ex⟩:=gK e;obtain⟨j,_,ej⟩:=gK ex;unfold yo at ej;split at ej
   ·cases ej;simp only[yZ];ext;exact hret _ e _ .refl
   ·cases ej
 ·obtain⟨x1,x2,rfl⟩:=hI;have e':v5 ts=none:=e;rw[e']at h;ext;exact⟨S, .refl,h⟩
 ·have e':v5 ts=aa w:=e;rw[e']at h;exact⟨S,sb,h⟩
def VJ (h1:t.2.1.depth<n) (h2:t.2.2.depth<n) (hn:1≤n):oH S (n+1) (nN t) (nN t)=aa true:=by
 obtain⟨m,rfl⟩:∃m,n=m+1:=⟨n - 1,`l⟩
 unfold nN;simp only[D5,pA,Hu,xF _ _ _ h1,xF _ _ _ h2,AC,beq_self_eq_true,kc]
theorem LW (hn:1≤n):∀ts:List Tn,(∀t∈ts,t.2.1.depth<n∧t.2.2.depth<n)→pA (oH S (n+1)) (ts.map nN) (ts.map nN)=aa true
 | [],_=>rfl
 |t::ts,h=>by
  obtain⟨h1,h2⟩:=h t aM;simp only[aG,pA,VJ h1 h2 hn,LW hn ts λu hu=>h u (aI _ hu),kc]
theorem Ll (hba:b≠a):∀(ts:List Tr) {S:gY}{us:List Tr}{x2:Option W},S a=aa (.bx (af us))→S b=aa (.bx ps)→us.length+nI ts≤200000→
  (∀x2,D.nx [x0,aa (.ref a),x2] (bz S a (.bx (af (us++ts.flatMap Tr.cF)))))→
  nU (wGN 2) (Bb (r+1) nG) E D (λS'=>S' b=aa (.bx ps)) (af ts) [x0,aa (.ref a),x2] S
 | [],S,us,x2,ha,hb,hl,h=>by
  have:=h x2;simp only[gF,bC,sI ha]at this;simpa [af,nU]using this
 |t::ts,S,us,x2,ha,hb,hl,h=>by
  simp only[nI]at hl;have hk:=qJ t.cF;have hw:=zF t;simp only[af];refine rY λN hN=>?_;simp only[Bb];ext;simp only[nT ha,true_and];refine yR ?_;ext;rw[nT ha];refine⟨nL (by rw[p9,p9];lia),hN _ _ _ .refl (by rw[oQ hba];exact hb) ?_⟩;rw[←yb];refine Ll hba ts nJ (by rw[oQ hba];exact hb) (by rw[aW];lia) λx2=>?_;rw[qa];have:=h x2;rw[eG,←b7]at this;exact this
def VP{E:ah→gY→Prop}(hb:S b=aa (.bx (af ts))) (hw:nI ts≤100000) (h:∀a,S a=none→Q (.ref a) (bz S a (.bx (af (ts.flatMap Tr.cF))))):yt (r+2) [.ref b] S Q E:=by
 rw[yt];ext;refine⟨bc _,λa ha=>?_⟩;have hba:=yD hb ha;rw[nT (keep hb ha)];refine Ll (us:=[]) hba ts (by simp [nJ,af]) (keep hb ha) (by simpa using(by lia:nI ts≤200000)) λx2=>?_;rw[qa];ext;exact⟨_, .refl,h a ha⟩
noncomputable def Tr.aF (t:Tr):Bool:=decide (t.au≤400)&&decide (t.depth≤40)
def ZX{E:ah→gY→Prop}(hw:t.au≤90000) (h:Q (.bl t.aF) S):xb (r+3) [gS t] S Q E:=by
 rw[xb];ext;refine⟨nL `d,λa ha=>?_⟩;refine⟨λm σ S'=>∃(ts:List Tr) (k d:Nat) (b:aj),m=nI ts∧k+nI ts=t.au∧d+oy ts=t.depth∧k≤400∧d≤40∧S b=none∧S'=bz S b (.bx (af ts))∧σ=[aa (gS t),aa (.int k),aa (.int d),aa (.ref b)],⟨_,[t],0,0,a,rfl,by simp [nI],by simp [oy],`d,`d,ha,by simp [af],rfl⟩,?_⟩
 rintro m σ S' ⟨ts,k,d,b,rfl,hwt,hk,hk4,hd4,hb,rfl,rfl⟩;ext;cases ts with
 |nil=>
  simp only[af,kC];ext;simp only[oy,nI,eM]at hk hwt;have e:t.aF=true:=by unfold Tr.aF;rw[decide_eq_true `l,decide_eq_true `l];rfl
  rw[e]at h;exact⟨_, .bz .refl hb,h⟩
 |cons u us=>
  have hne:(af (u::us)).isEmpty=false:=by simp [af]
  rw[hne];have hfl:=Hh (u::us);have hdf:=Eu (ts:=u::us) `s;have hlw:=qJ (u::us);simp only[Ge];ext;rw[p9];have no:400<t.au∨40<t.depth→ ∃S'',Sub S'' (bz S b (Ob.bx (af (u::us))))∧Q (W.bl false) S'':=λz=>by
   have e:t.aF=false:=by
    unfold Tr.aF;obtain z |z:=z
    ·rw[decide_eq_false `l];rfl
    ·rw[decide_eq_false (p:=t.depth≤40) `l,eO]
   rw[e]at h;exact⟨_, .bz .refl hb,h⟩
  split
  ·exact no (.inl `l)
  ·split
   ·exact no (.inr `l)
   ·refine VP nJ `l λc hc=>?_;obtain⟨hc1,hc2⟩:=uC hc;refine⟨nI ((u::us).flatMap Tr.cF),bz S c (.bx (af ((u::us).flatMap Tr.cF))),by simp only[aS]at hfl;lia, .put2 (.bz .refl hb),_,k+(u::us).length,d+1,c,rfl,`l,`l,`l,`l,hc1,rfl,?_⟩
    push_cast
    rfl
def v9{E:ah→gY→Prop}(h0:0≤k) (h:∀n:Int,Q (.int n) S):ua (r+1) [.b8 ns, .int k] S Q E:=by
 rw[ua];ext;split
 ·obtain⟨x,e,_⟩:=HL (xs:=ns) (i:=k) h0 `l;rw[e];exact⟨S, .refl,h _⟩
 ·exact⟨S, .refl,h _⟩
def lt (rs:List Int) (pos:Int) (k j:Nat):Nat:=97+((rs.getD j 0+(k:Int)*(if(0+(j:Int) == pos)=true then 1 else 0)) % 26).toNat
def sS (rs:List Int) (pos:Int) (k:Nat):List Nat:=(bt rs.length).map (lt rs pos k)
noncomputable def o_ (rs:List Int) (pos:Int) (k:Nat):ah:=c8 (aq "") ((sS rs pos k).map λc=>(⟨#[c]⟩:ah))
noncomputable def Db (rs:List Int) (pos:Int) (k:Nat):ah:=eN ⟨#[lt rs pos k 0]⟩++cu (o_ rs pos k) (aa 1) none
noncomputable def wd (great:Bool) (rs:List Int) (pos:Int) (k:Nat):ah:=if great then Db rs pos k else o_ rs pos k
def yJ (rs:List Int) (pos:Int) (k j:Nat):qZ (lt rs pos k j):=by
 have h0:=dG (rs.getD j 0+(k:Int)*(if(0+(j:Int) == pos)=true then 1 else 0)) (show(26:Int)≠0 by decide)
 have h1:=dX (rs.getD j 0+(k:Int)*(if(0+(j:Int) == pos)=true then 1 else 0)) (show(0:Int)<26 by decide)
 unfold lt qZ;lia
def U2 (h0:0≤n) (h1:n<26):ow (aq "abcdefghijklmnopqrstuvwxyz").cps.toList n=aa (97+n.toNat):=by
 have e:=sW (xs:=(aq "abcdefghijklmnopqrstuvwxyz").cps.toList) (n:=n.toNat);rw[dt h0]at e;rw[e,Yk,List.getElem?_range' `l];simp
def B4 (rs:List Int) (pos:Int) (k:Nat):(o_ rs pos k).cps.toList=sS rs pos k:=PU _
def Gq (rs:List Int) (pos:Int) (k:Nat):(sS rs pos k).length=rs.length:=by simp [sS]
def NX (h:c∈sS rs pos k):qZ c:=by
 obtain⟨j,_,rfl⟩:=bp.mp h;exact yJ rs pos k j
def zqj (pos:Int) (k:Nat) (h:1≤rs.length):sS rs pos k=lt rs pos k 0::(sS rs pos k).drop 1:=by
 unfold sS;obtain⟨n,hn⟩:∃n,rs.length=n+1:=⟨rs.length - 1,`l⟩
 rw[hn,ig];simp
def ML (h:qZ c):eN ⟨#[c]⟩=⟨#[c - 32]⟩:=by
 unfold qZ at h;rw[PySem.W.KOpn.upper_one `l,if_pos h]
def K' (pos:Int) (k:Nat):(Db rs pos k).cps.toList=(lt rs pos k 0 - 32)::(sS rs pos k).drop 1:=by
 unfold Db;rw[ML (yJ _ _ _ _)];show((#[lt rs pos k 0 - 32]:Array Nat)++(cu (o_ rs pos k) (aa 1) none).cps).toList=_;rw[ip,Dp,B4];rfl
structure tK (rs:List Int) (pos:Int):Prop where
  l1:1≤rs.length
  l8:rs.length≤8
  p0:0≤pos
  p1:pos<rs.length
def PJ (b:tK rs pos) (k:Nat):qm (o_ rs pos k):=by
 unfold qm;rw[B4,Gq];exact⟨b.l1,b.l8,λc hc=>NX hc⟩
def Zu (b:tK rs pos) (k:Nat):qR (Db rs pos k):=by
 have:=yJ rs pos k 0;have hl:=b.l8;unfold qZ at this;refine⟨_,_,K' pos k,`l,`l,by rw[d_,Gq];lia,λd hd=>NX (jX hd)⟩
def U' (b:tK rs pos) (hk:k<26) (hm:m<26) (h:k≠m):lt rs pos k pos.toNat≠lt rs pos m pos.toNat:=by
 have p0:=b.p0;have e:(0+((pos.toNat:Nat):Int) == pos)=true:=by rw[beq_iff_eq];lia
 unfold lt;rw[e,if_pos rfl];lia
def OE (b:tK rs pos) (hk:k<26) (hm:m<26) (h:k≠m):wd great rs pos k≠wd great rs pos m:=by
 have hn:=U' b hk hm h;have p0:=b.p0;have p1:=b.p1;intro e;have e':=congrArg (λx:ah=>x.cps.toList) e;cases great with
 |false=>
  simp only[wd,cA,if_false,B4]at e';have e2:=congrArg (λl=>l[pos.toNat]?) e';simp only[sS,bK,gJ (show pos.toNat<rs.length by lia),fo,bS]at e2
  exact hn e2
 |true=>
  simp only[wd,if_true,K']at e';have e2:=congrArg (λl=>l[pos.toNat]?) e';cases hp:pos.toNat with
  |zero=>
   rw[hp]at hn;have h1:=yJ rs pos k 0;have h2:=yJ rs pos m 0;unfold qZ at h1 h2;simp only[hp,ic,bS]at e2;lia
  |succ n=>
   rw[hp]at hn;simp only[hp,d8,kW,sS,bK]at e2;rw[show 1+n=n+1 by lia,gJ (show n+1<rs.length by lia)]at e2
   simp only[fo,bS]at e2;exact hn e2
def GC (great:Bool) (ws:List ah):Prop:=∃rs pos,tK rs pos∧(ws=(bt 6).map (wd great rs pos)∨(great=false∧ws=[o_ rs pos 0,o_ rs pos 1,o_ rs pos 2,o_ rs pos 2,o_ rs pos 2,o_ rs pos 5]))
structure p8 (w0 w1 w2 w3 w4 w5:ah):Prop where
  ok:∀x∈ [w0,w1,w2,w3,w4,w5],qm x
  n0:∀x∈ [w1,w2,w3,w4,w5],w0≠x
  n1:∀x∈ [w2,w3,w4,w5],w1≠x
  n5:∀x∈ [w2,w3,w4],w5≠x
def Y8 (h:GC false ws):∃w0 w1 w2 w3 w4 w5,ws=[w0,w1,w2,w3,w4,w5]∧p8 w0 w1 w2 w3 w4 w5:=by
 obtain⟨rs,pos,b,h⟩:=h;have hs:=λk=>PJ b k;have hn:∀k m:Nat,k<26→m<26→k≠m→o_ rs pos k≠o_ rs pos m:=λk m h1 h2 h3=>OE (great:=false) b h1 h2 h3;obtain rfl |⟨_,rfl⟩:=h
 ·refine⟨_,_,_,_,_,_,rfl,⟨?_,?_,?_,?_⟩⟩
  ·simp only[az,aZ,or_false,forall_eq_or_imp,forall_eq];exact⟨hs 0,hs 1,hs 2,hs 3,hs 4,hs 5⟩
  ·simp only[az,aZ,or_false,forall_eq_or_imp,forall_eq];exact⟨hn 0 1 `d `d `d,hn 0 2 `d `d `d,hn 0 3 `d `d `d,hn 0 4 `d `d `d,hn 0 5 `d `d `d⟩
  ·simp only[az,aZ,or_false,forall_eq_or_imp,forall_eq];exact⟨hn 1 2 `d `d `d,hn 1 3 `d `d `d,hn 1 4 `d `d `d,hn 1 5 `d `d `d⟩
  ·simp only[az,aZ,or_false,forall_eq_or_imp,forall_eq];exact⟨hn 5 2 `d `d `d,hn 5 3 `d `d `d,hn 5 4 `d `d `d⟩
 ·refine⟨_,_,_,_,_,_,rfl,⟨?_,?_,?_,?_⟩⟩
  ·simp only[az,aZ,or_false,forall_eq_or_imp,forall_eq];exact⟨hs 0,hs 1,hs 2,hs 2,hs 2,hs 5⟩
  ·simp only[az,aZ,or_false,forall_eq_or_imp,forall_eq];exact⟨hn 0 1 `d `d `d,hn 0 2 `d `d `d,hn 0 2 `d `d `d,hn 0 2 `d `d `d,hn 0 5 `d `d `d⟩
  ·simp only[az,aZ,or_false,forall_eq_or_imp,forall_eq];exact⟨hn 1 2 `d `d `d,hn 1 2 `d `d `d,hn 1 2 `d `d `d,hn 1 5 `d `d `d⟩
  ·simp only[az,aZ,or_false,forall_eq_or_imp,forall_eq];exact⟨hn 5 2 `d `d `d,hn 5 2 `d `d `d,hn 5 2 `d `d `d⟩
structure qE (ts:List ah):Prop where
  len:ts.length=6
  ok:∀x∈ts,qR x
  nd:ts.Nodup
def Zs (h:GC true ws):qE ws:=by
 obtain⟨rs,pos,b,h⟩:=h;obtain rfl |⟨e,_⟩:=h
 ·refine⟨`s,λx hx=>?_,?_⟩
  ·obtain⟨k,_,rfl⟩:=bp.mp hx;exact Zu b k
  ·rw[kG,lm];refine kT.imp_of_mem (λ{a c} ha hc hne=>?_) (List.nodup_range (n:=6));have ha:=eV.mp ha;have hc:=eV.mp hc;exact OE b `l `l hne
 ·cases e
theorem J':∀(ws:List W) {rs:List Int}{sp:Int}{a:aj}{r:Nat}{S:gY}{E:WX}{D:nQ}{x0 x1 x2 x3 x6 x7 x8 x9:Option W},S a=aa (.bx (rs.map W.int))→rs.length+ws.length≤1000→
  (∀(rs':List Int) sp' x6',rs'.length=rs.length+ws.length→D.nx [x0,x1,x2,x3,aa (.int sp'),aa (.ref a),x6',x7,x8,x9] (bz S a (.bx (rs'.map W.int))))→
  nU (wGN 6) (G4 r nG) E D (λ_=>True) ws [x0,x1,x2,x3,aa (.int sp),aa (.ref a),x6,x7,x8,x9] S
 | [],rs,sp,a,r,S,E,D,x0,x1,x2,x3,x6,x7,x8,x9,ha,hl,h=>by
  simp only[nU];have:=h rs sp x6 `s;rw[sI ha]at this;exact this
 |w::ws,rs,sp,a,r,S,E,D,x0,x1,x2,x3,x6,x7,x8,x9,ha,hl,h=>by
  simp only[nU,G4];ext;simp only[aS]at hl h;simp only[nT ha,true_and];refine⟨`d,rA (by simp;lia),⟨`d,`d⟩,_, .refl,?_⟩
  refine J' (r:=r) ws (rs:=rs++[sp % 26]) (by rw[nJ];simp) (by simp;lia) λrs' sp' x6' h1=>?_;rw[qa];exact h rs' sp' x6' (by simp at h1;lia)
def Bi{c:Prop} [Decidable c] {a b:Prop}(h1:c→a) (h2:¬c→b):if c then a else b:=by split<;>simp_all
def AA (h:∀T',T'=T→kj A T' E D σ S):kj A T E D σ S:=h T rfl
def Nz{E:ah→gY→Prop}(h:∀(a:aj) (ws:List ah),S a=none→GC great ws→Q (.ref a) (bz S a (.bx (ws.map W.str)))):AV (r+1) [.int one, .int two, .bl great] S Q E:=by
 rw[AV];ext;have o0:0≤one % 8:=dG _ `d;have o1:one % 8<8:=dX _ `d;refine⟨⟨`d,`d,`d⟩,`d,bc _,λa ha=>⟨`d,⟨`l,`l⟩,?_⟩⟩
 refine J' _ (rs:=[]) nJ (by simp [MO];lia) λrs sp x6 hl=>?_;rw[qa];simp only[dA,MO,ca]at hl;have hl':(rs.length:Int)=1+one % 8:=by rw[hl];lia
 have p0:0≤one / 8 % (rs.length:Int):=dG _ `l;have p1:one / 8 % (rs.length:Int)<(rs.length:Int):=dX _ `l;have B:tK rs (one / 8 % (rs.length:Int)):=⟨`l,`l,p0,p1⟩
 ext;simp only[aD];refine⟨⟨`d,`d⟩,`l,bc _,λb hb=>⟨⟨`d,`d⟩,?_⟩⟩
 obtain⟨hb1,hb2⟩:=uC hb;generalize hpos:one / 8 % (rs.length:Int)=pos at B p0 p1⊢;refine FT (λi σ S'=>∃x6 x9,S'=bz (bz S a (.bx (rs.map W.int))) b (.bx (((bt i).map (wd great rs pos)).map W.str))∧σ=[aa (.int one),aa (.int two),aa (.bl great),aa (.str (aq "abcdefghijklmnopqrstuvwxyz")),aa (.int sp),aa (.ref a),x6,aa (.int pos),aa (.ref b),x9]) 6 ?_ ?_ ⟨x6,none,rfl,rfl⟩
 ·rintro k hk σ S' N ⟨x6,x9,rfl,rfl⟩ hN;have ea:bz (bz S a (Ob.bx (rs.map W.int))) b (Ob.bx (((bt k).map (wd great rs pos)).map W.str)) a=aa (.bx (rs.map W.int)):=by rw[oQ (bE hb2),nJ]
  simp only[Ol];ext;rw[nT ea];simp only[aD];refine⟨⟨`l,`l⟩,?_⟩
  rw[cy];refine qw (λσ=>∃x,σ=[x,aa (.str (aq "abcdefghijklmnopqrstuvwxyz")),aa (.ref a),aa (.int (k:Int)),aa (.int pos)]) (λi:Nat=>W.int (0+(i:Int))) (λi=>W.str ⟨#[lt rs pos k i]⟩) trivial (bt rs.length) [] _ ⟨none,rfl⟩ (by simp;lia) (λi hi σ R hI hR=>?_) ?_
  ·obtain⟨x,rfl⟩:=hI;have hi:=eV.mp hi;simp only[Jv];ext;have e:=sW (xs:=rs.map W.int) (n:=i);rw[show(i:Int)=0+(i:Int) by lia,bK,aU hi]at e
   rw[nT ea,e];dsimp only[Option.map];ext;have ec:=U2 (n:=(rs[i]+(k:Int)*(if(0+(i:Int) == pos)=true then 1 else 0)) % 26) (dG _ `d) (dX _ `d);rw[ec];have el:lt rs pos k i=97+((rs[i]+(k:Int)*(if(0+(i:Int) == pos)=true then 1 else 0)) % 26).toNat:=by
    unfold lt;rw[bF,aU hi];rfl
   rw[←el];exact⟨.inl ⟨`l,`l⟩,`d,nL (by rw[R8];decide),hR _ _ ⟨_,rfl⟩ .refl⟩
  ·have es:(bt rs.length).map (λi=>W.str ⟨#[lt rs pos k i]⟩)=(sS rs pos k).map λc=>W.str ⟨#[c]⟩:=by
    unfold sS;rw[bB];rfl
   have hw:=PJ B k;rw[aQ,es,Ma];refine⟨zrW _ (by rw[Gq];lia),?_⟩;show _;have ew:c8 (aq "") ((sS rs pos k).map λc=>(⟨#[c]⟩:ah))=o_ rs pos k:=rfl;rw[ew];have hl8:(o_ rs pos k).length≤8:=by rw[zf];exact hw.2.1
   have fin:∀z:ah,z=wd great rs pos k→ ∀x9:Option W,N [aa (.int one),aa (.int two),aa (.bl great),aa (.str (aq "abcdefghijklmnopqrstuvwxyz")),aa (.int sp),aa (.ref a),aa (.int (k:Int)),aa (.int pos),aa (.ref b),x9] (bz (bz S a (.bx (rs.map W.int))) b (.bx (((bt k).map (wd great rs pos)).map W.str++[.str z]))):=λz hz x9=>by
    subst hz;refine hN _ _ _ .refl ⟨_,_,?_,rfl⟩;rw[jb,bU,bU];rfl
   have hxl:(((bt k).map (wd great rs pos)).map W.str).length<sizeLine:=rA (by simp;lia);cases great with
   |false=>
    try ext
    try simp only[Ag,qa,true_and]
    exact⟨hxl,fin _ rfl _⟩
   |true=>
    ext;rw[B4,zqj pos k B.l1,zG];dsimp only
    try ext
    try simp only[Ag,qa,true_and]
    refine⟨nL `l,?_⟩;have h1:(⟨#[lt rs pos k 0]⟩:ah).length=1:=rfl;have h2:(eN ⟨#[lt rs pos k 0]⟩).length=1:=by rw[ML (yJ _ _ _ _)];rfl
    have h3:(cu (o_ rs pos k) (aa 1) none).length≤8:=by
     rw[zf,Dp,d_,←zf];lia
    exact⟨`l,nL `l,nL `l,hxl,fin _ rfl _⟩
 ·rintro σ S' ⟨x6,x9,rfl,rfl⟩;have eb:bz (bz S a (Ob.bx (rs.map W.int))) b (Ob.bx (((bt 6).map (wd great rs pos)).map W.str)) b=aa (.bx (((bt 6).map (wd great rs pos)).map W.str)):=nJ;ext;cases great with
  |true=>
   ext;refine⟨⟨`d,`d⟩,`d,?_⟩
   split
   ·exact⟨_, .put2 (.bz .refl ha),h b _ hb1 ⟨rs,pos,B, .inl rfl⟩⟩
   ·exact⟨_, .put2 (.bz .refl ha),h b _ hb1 ⟨rs,pos,B, .inl rfl⟩⟩
  |false=>
   ext;refine⟨⟨`d,`d⟩,`d,?_⟩
   split
   ·have e6:((bt 6).map (wd false rs pos)).map W.str=[.str (o_ rs pos 0), .str (o_ rs pos 1), .str (o_ rs pos 2), .str (o_ rs pos 3), .str (o_ rs pos 4), .str (o_ rs pos 5)]:=rfl;simp only[e6]
    try ext
    have c3:pS [W.str (o_ rs pos 0), .str (o_ rs pos 1), .str (o_ rs pos 2), .str (o_ rs pos 3), .str (o_ rs pos 4), .str (o_ rs pos 5)] none (aa 3)=[.str (o_ rs pos 0), .str (o_ rs pos 1), .str (o_ rs pos 2)]:=rfl;have a2:ow [W.str (o_ rs pos 0), .str (o_ rs pos 1), .str (o_ rs pos 2), .str (o_ rs pos 3), .str (o_ rs pos 4), .str (o_ rs pos 5)] 2=aa (.str (o_ rs pos 2)):=rfl;have a5:ow [W.str (o_ rs pos 0), .str (o_ rs pos 1), .str (o_ rs pos 2), .str (o_ rs pos 3), .str (o_ rs pos 4), .str (o_ rs pos 5)] 5=aa (.str (o_ rs pos 5)):=rfl;simp only[c3,a2,a5]
    try ext
    refine⟨nL `d,nL `d,λc hc=>?_⟩;obtain⟨hc1,hc2⟩:=uC hc;obtain⟨hc1,hc3⟩:=uC hc1;exact⟨_, .put2 (.bz (.bz .refl ha) hb1),h c _ hc1 ⟨rs,pos,B, .inr ⟨rfl,rfl⟩⟩⟩
   ·exact⟨_, .put2 (.bz .refl ha),h b _ hb1 ⟨rs,pos,B, .inl rfl⟩⟩
mutual
noncomputable def Tr.nb:Tr→Nat
 | .bl _=>1
 | .nd _ ts=>nbs ts
noncomputable def nbs:List Tr→Nat
 | []=>0
 |t::ts=>t.nb+nbs ts
end
mutual
theorem Ig:∀(t:Tr) (p:List Int),((t.plt p).filter λx=>x.2.isBl).length=t.nb
 | .bl n,p=>by simp [Tr.plt,Tr.isBl,Tr.nb]
 | .nd s ts,p=>by
  have:=NI ts p 0;simpa [Tr.plt,Tr.isBl,Tr.nb]using this
theorem NI:∀(ts:List Tr) (p:List Int) (i:Nat),((qi p i ts).filter λx=>x.2.isBl).length=nbs ts
 | [],p,i=>by simp [qi,nbs]
 |t::ts,p,i=>by
  have h1:=Ig t (p++[(i:Int)]);have h2:=NI ts p (i+1);rw[qi,kY,aW,h1,h2,nbs]
end
def Lz (t:Tr):t.bls.length=t.nb:=Ig t []
theorem NW:∀ts:List Tr,(ts.map λt=>(t.nb:Int)).sum=(nbs ts:Int)
 | []=>by simp [nbs]
 |t::ts=>by
  rw[aG,jM,NW ts,nbs];lia
def Ve (ts:List Tr):rR (ts.map λt=>W.int (t.nb:Int))=aa (ts.map λt=>(t.nb:Int)):=by
 have:=GQ (ts.map λt=>(t.nb:Int));rw[bB]at this;exact this
theorem Ht:∀(d:Nat) {t:Tr}{r:Nat}{S:gY}{Q:WK}{E:ah→gY→Prop},t.depth≤d→d≤r+1→t.au≤90000→Q (.int t.nb) S→wc (r+1) [gS t] S Q E
 |0,t,r,S,Q,E,hd,hr,hw,h=>by have:=sj t;lia
 |d+1, .bl n,r,S,Q,E,hd,hr,hw,h=>by
  rw[wc];simp only[gS];ext;simp only[Tr.nb]at h;exact⟨S, .refl,h⟩
 |d+1, .nd s ts,r,S,Q,E,hd,hr,hw,h=>by
  simp only[Tr.depth]at hd;simp only[Tr.au]at hw;have hk:=qJ ts;rw[wc];simp only[gS];ext;rw[qr];refine qw (λσ=>∃x,σ=[x]) gS (λt=> .int (t.nb:Int)) trivial ts [] _ ⟨none,rfl⟩ (by simp;lia) (λx hx σ R hI hR=>?_) ?_
  ·obtain⟨y,rfl⟩:=hI;have hdx:=so hx;have hwx:=qg hx;have:=sj x;right
   simp only[O6];ext;exact Ht d (t:=x) (r:=r) `l `l `l (hR _ _ ⟨_,rfl⟩ .refl)
  ·rw[aQ,Ve];dsimp only;rw[NW];simp only[Tr.nb]at h;exact⟨S, .refl,h⟩
def I0{w:W}{ws:List W}:pS (w::ws) none (aa 1)=[w]:=by
 rw[show(1:Int)=((1:Nat):Int) from rfl,Nu];rfl
theorem F2{us:List Tr}{a:aj}:∀(d:Nat) {t:Tr}{r:Nat}{S:gY}{Q:WK}{E:ah→gY→Prop},t.depth≤d→d≤r+1→S a=aa (.bx (af us))→t.a_ us.length→t.au≤90000→Q (gS (t.aB us)) S→xt (r+1) [gS t, .ref a] S Q E
 |0,t,r,S,Q,E,hd,hr,ha,hf,hw,h=>by have:=sj t;lia
 |d+1, .bl n,r,S,Q,E,hd,hr,ha,hf,hw,h=>by
  simp only[Tr.a_]at hf;simp only[Tr.aB]at h;rw[xt];simp only[gS];ext;have e:ow (af us) n=aa (gS (us.getD n.toNat (.bl n))):=by
   have q:=sW (xs:=af us) (n:=n.toNat);rw[dt hf.1]at q;rw[q,qr,bK,bF,aU `l];rfl
  rw[nT ha,e];exact⟨S, .refl,h⟩
 |d+1, .nd s ts,r,S,Q,E,hd,hr,ha,hf,hw,h=>by
  simp only[Tr.a_]at hf;simp only[Tr.aB]at h;simp only[Tr.depth]at hd;simp only[Tr.au]at hw;have hk:=qJ ts;rw[xt];simp only[gS]at h⊢;ext;rw[I0];rw[qr];refine qw (λσ=>∃x,σ=[x,aa (.ref a)]) gS (λt=>gS (t.aB us)) trivial ts [] _ ⟨none,rfl⟩ (by simp;lia) (λx hx σ R hI hR=>?_) ?_
  ·obtain⟨y,rfl⟩:=hI;have hdx:=so hx;have hwx:=qg hx;have:=sj x;right
   simp only[MY];ext;exact F2 d (t:=x) (r:=r) `l `l ha (Au hf hx) `l (hR _ _ ⟨_,rfl⟩ .refl)
  ·rw[aQ];ext;refine⟨nL (by simp;lia),S, .refl,?_⟩;have e:af (oG us ts)=ts.map λt=>gS (t.aB us):=by rw[qr,He,bB];rfl
   rw[e]at h;exact h
def bu (n:Nat) (h c d:ah):List Tr:=
 match n with
 |0=>[.nd h [.bl 0]]
 |1=>[.nd h [.bl 0, .bl 1]]
 |2=>[.nd h [.nd c []], .nd h [.nd d [.bl 0]]]
 |3=>[.nd h [.nd c [], .bl 0], .nd h [.nd d [.bl 0], .bl 1]]
 |4=>[.nd h [.nd d [.nd d [.bl 0]], .bl 1, .bl 2], .nd h [.nd d [.nd c []], .bl 0, .bl 1]]
 |_=>[.nd h []]
section
variable {w0 w1 w2 w3 w4 w5:ah}{r:Nat}{S:gY}{Q:WK}{E:ah→gY→Prop}
noncomputable abbrev re (w0 w1 w2 w3 w4 w5:ah):List W:=[.str w0, .str w1, .str w2, .str w3, .str w4, .str w5]
theorem qX:ow (re w0 w1 w2 w3 w4 w5) 0=aa (.str w0):=rfl
theorem qU:ow (re w0 w1 w2 w3 w4 w5) 1=aa (.str w1):=rfl
theorem qv:ow (re w0 w1 w2 w3 w4 w5) 2=aa (.str w2):=rfl
theorem qD:ow (re w0 w1 w2 w3 w4 w5) 3=aa (.str w3):=rfl
theorem qH:ow (re w0 w1 w2 w3 w4 w5) 4=aa (.str w4):=rfl
theorem qI:ow (re w0 w1 w2 w3 w4 w5) 5=aa (.str w5):=rfl
def UE{n:Int}{h c d:ah}(H:∀(p:aj) (k:Nat),S p=none→Q (.ref p) (bz S p (.bx (af (bu k h c d))))):BT (r+1) [.int n, .str h, .str c, .str d] S Q E:=by
 rw[BT,wz];refine⟨rfl,?_⟩;have l1:1≤sizeLine:=nL `d;have l2:2≤sizeLine:=nL `d;have l3:3≤sizeLine:=nL `d;have l4:4≤sizeLine:=nL `d;refine AA λT hT=>?_;ext;refine Bi (λ_=>⟨l2,l1,λp hp=>⟨_, .refl,by simpa only[bu,gS,af]using H p 0 hp⟩⟩) λ_=>?_
 subst hT;refine AA λT hT=>?_;ext;refine Bi (λ_=>⟨l3,l1,λp hp=>⟨_, .refl,by simpa only[bu,gS,af]using H p 1 hp⟩⟩) λ_=>?_
 subst hT;refine AA λT hT=>?_;ext;refine Bi (λ_=>⟨l1,l2,l2,l2,l2,λp hp=>⟨_, .refl,by simpa only[bu,gS,af]using H p 2 hp⟩⟩) λ_=>?_
 subst hT;refine AA λT hT=>?_;ext;refine Bi (λ_=>⟨l1,l3,l2,l3,l2,λp hp=>⟨_, .refl,by simpa only[bu,gS,af]using H p 3 hp⟩⟩) λ_=>?_
 subst hT;refine AA λT hT=>?_;ext;refine Bi (λ_=>⟨l2,l2,l4,l1,l2,l4,l2,λp hp=>⟨_, .refl,by simpa only[bu,gS,af]using H p 4 hp⟩⟩) λ_=>?_
 subst hT;ext;exact⟨l1,l1,λp hp=>⟨_, .refl,by simpa only[bu,gS,af]using H p 5 hp⟩⟩
end
section
variable {w0 w1:ah}{j:Int}
def CJ (n:Nat) (h c d:ah):1≤(bu n h c d).length∧(bu n h c d).length≤2:=by
 unfold bu;split<;>simp
noncomputable def tI (w0 w1:ah) (j:Nat):ah:=if j=0 then w0 else w1
end
noncomputable def AQ (x:ah):Bool:=decide (1≤x.cps.toList.length)&&(decide (x.cps.toList.length≤8)&&aF x.cps.toList)
def Zm (xs:List Nat):aF xs=true↔ ∀c∈xs,qZ c:=by
 unfold aF;rw[cJ];simp only[uU,qZ,bV,decide_eq_true_eq]
def N4 (x:ah):AQ x=true↔qm x:=by
 unfold AQ qm;rw[bV,bV,decide_eq_true_eq,decide_eq_true_eq,Zm]
def Ct (h:qm x) (g:qR y):x≠y:=by
 rintro rfl;obtain⟨c,r,e,h1,h2,_⟩:=g;have:=h.2.2 c (by rw[e];exact aM);unfold qZ at this;lia
mutual
def Tr.hd (P:ah→Prop):Tr→Prop
 | .bl _=>False
 | .nd s ts=>P s∧hds P ts
def hds (P:ah→Prop):List Tr→Prop
 | []=>True
 |t::ts=>t.hd P∧hds P ts
end
mutual
def Tr.hb (P:ah→Prop):Tr→Prop
 | .bl _=>True
 | .nd s ts=>P s∧pH P ts
def pH (P:ah→Prop):List Tr→Prop
 | []=>True
 |t::ts=>t.hb P∧pH P ts
end
theorem pi{P:ah→Prop}:∀{ts:List Tr},hds P ts↔ ∀t∈ts,t.hd P
 | []=>by simp [hds]
 |t::ts=>by simp [hds,pi (ts:=ts)]
mutual
theorem vU{P P':ah→Prop}(h:∀s,P s→P' s):∀(t:Tr),t.hd P→t.hd P'
 | .bl _,q=>by simp [Tr.hd]at q
 | .nd s ts,q=>by
  simp only[Tr.hd]at q⊢;exact⟨h s q.1,Nl h ts q.2⟩
theorem Nl{P P':ah→Prop}(h:∀s,P s→P' s):∀(ts:List Tr),hds P ts→hds P' ts
 | [],_=>by simp [hds]
 |t::ts,q=>by
  simp only[hds]at q⊢;exact⟨vU h t q.1,Nl h ts q.2⟩
end
mutual
theorem MQ{P P':ah→Prop}(h:∀s,P s→P' s):∀(t:Tr),t.hb P→t.hb P'
 | .bl _,q=>by simp [Tr.hb]
 | .nd s ts,q=>by
  simp only[Tr.hb]at q⊢;exact⟨h s q.1,Lh h ts q.2⟩
theorem Lh{P P':ah→Prop}(h:∀s,P s→P' s):∀(ts:List Tr),pH P ts→pH P' ts
 | [],_=>by simp [pH]
 |t::ts,q=>by
  simp only[pH]at q⊢;exact⟨MQ h t q.1,Lh h ts q.2⟩
end
mutual
theorem Fv{P:ah→Prop}(hu:∀u∈us,u.hd P):∀(t:Tr),t.hb P→t.a_ us.length→(t.aB us).hd P
 | .bl n,h,f=>by
  simp only[Tr.a_]at f;simp only[Tr.aB];rw[bF,aU (show n.toNat<us.length by lia)]
  exact hu _ (dQ ..)
 | .nd s ts,h,f=>by
  simp only[Tr.a_]at f;simp only[Tr.hb]at h;simp only[Tr.aB,Tr.hd];exact⟨h.1,MW hu ts h.2 f⟩
theorem MW{P:ah→Prop}(hu:∀u∈us,u.hd P):∀(ts:List Tr),pH P ts→nX us.length ts→hds P (oG us ts)
 | [],h,f=>by simp [oG,hds]
 |t::ts,h,f=>by
  simp only[nX]at f;simp only[pH]at h;simp only[oG,hds];exact⟨Fv hu t h.1 f.1,MW hu ts h.2 f.2⟩
end
structure rL (ws:List ah) (m:Nat) (t:Tr):Prop where
  dp:t.depth≤4
  a_:t.a_ m
  hb:∀{P:ah→Prop},(∀x∈ws,P x)→t.hb P
  wt:t.au≤7
def XL (B:List Tn):Prop:=∀t∈B,∀(us:List Tr) (M:Nat),us.length=t.2.1.nb→1≤M→(∀u∈us,u.au≤M)→(t.2.2.aB us).au≤2+2*M∧(t.2.1.nb=0→(t.2.2.aB us).au≤1+M)
structure nV (w0 w1 w2 w3 w4 w5:ah) (tt:List ah) (B:List Tn):Prop where
  lf:∃n m:Nat,B.map (λt=>t.2.1)=bu n w0 w2 w3++bu m w1 w2 w3
  ti:B.map (λt=>t.1)=tt.take B.length
  ri:∀t∈B,rL [w0,w1,w2,w3,w4,w5] t.2.1.nb t.2.2
structure uu (P:ah→Prop) (L:Tr):Prop where
  hb:L.hb P
  a_:L.a_ L.nb
  wt:L.au≤L.nb+3
  dp:L.depth≤4
  nb:L.nb≤3
  nd:∃s ts,L= .nd s ts
  fw:∀us:List Tr,us.length=L.nb→(L.aB us).au≤3+nI us
  fw0:L.nb=0→(L.aB []).au≤2
def K5 (h:us.length=2):∃u v,us=[u,v]:=by
 obtain⟨u,vs,rfl⟩:=ly h;obtain⟨v,rfl⟩:=kR.1 (jB.inj h);exact⟨u,v,rfl⟩
def zP{P:Tr→List Tr→Prop}(hL:L∈bu n h c d) (hu:us.length=L.nb) (a:∀u,P (.nd h [.bl 0]) [u]) (b:∀u v,P (.nd h [.bl 0, .bl 1]) [u,v]) (c0:P (.nd h [.nd c []]) []) (c1:∀u,P (.nd h [.nd d [.bl 0]]) [u]) (d0:∀u,P (.nd h [.nd c [], .bl 0]) [u]) (d1:∀u v,P (.nd h [.nd d [.bl 0], .bl 1]) [u,v]) (e0:∀u v x,P (.nd h [.nd d [.nd d [.bl 0]], .bl 1, .bl 2]) [u,v,x]) (e1:∀u v,P (.nd h [.nd d [.nd c []], .bl 0, .bl 1]) [u,v]) (f:P (.nd h []) []):P L us:=by
 unfold bu at hL;split at hL<;>simp only[az,aZ,or_false]at hL
 all_goals (first |subst hL |rcases hL with rfl |rfl)<;>first | (cases List.length_eq_zero_iff.1 hu;assumption) | (obtain⟨u,rfl⟩:=kR.1 hu;apply_assumption) | (obtain⟨u,v,rfl⟩:=K5 hu;apply_assumption) | (obtain⟨u,us,rfl⟩:=ly hu;obtain⟨v,x,rfl⟩:=K5 (jB.inj hu);exact e0 u v x)
def CA{P:ah→Prop}(hh:P h) (hc:P c) (hd:P d):∀L∈bu n h c d,uu P L:=λL hL=>by
 have H:L.hb P∧L.a_ L.nb∧L.au≤L.nb+3∧L.depth≤4∧L.nb≤3∧(∃s ts,L= .nd s ts)∧(L.nb=0→(L.aB []).au≤2):=by
  apply zP (P:=λL us=>L.hb P∧L.a_ L.nb∧L.au≤L.nb+3∧L.depth≤4∧L.nb≤3∧(∃s ts,L= .nd s ts)∧(L.nb=0→(L.aB []).au≤2)) (us:=bf L.nb (.bl 0)) hL e_<;>intros<;>simp [Tr.hb,pH,hh,hc,hd,Tr.a_,nX,Tr.nb,nbs,Tr.au,nI,Tr.depth,oy,Tr.aB,oG]
 exact⟨H.1,H.2.1,H.2.2.1,H.2.2.2.1,H.2.2.2.2.1,H.2.2.2.2.2.1,λus hu=>by apply zP (P:=λL us=>(L.aB us).au≤3+nI us) hL hu<;>intros<;>simp [Tr.aB,oG,Tr.au,nI]<;>lia,H.2.2.2.2.2.2⟩
def nV.len (b:nV w0 w1 w2 w3 w4 w5 tt B):2≤B.length∧B.length≤4:=by
 obtain⟨n,m,e⟩:=b.lf;have h1:=CJ n w0 w2 w3;have h2:=CJ m w1 w2 w3;have e':=congrArg dB e;rw[aD,aW]at e';lia
def nV.left (b:nV w0 w1 w2 w3 w4 w5 tt B) {P:ah→Prop}(h0:P w0) (h1:P w1) (h2:P w2) (h3:P w3) (ht:t∈B):uu P t.2.1:=by
 obtain⟨n,m,e⟩:=b.lf;have:t.2.1∈bu n w0 w2 w3++bu m w1 w2 w3:=by rw[←e];exact bp.mpr ⟨t,ht,rfl⟩
 obtain z |z:=bv.mp this
 ·exact CA h0 h2 h3 _ z
 ·exact CA h1 h2 h3 _ z
def nV.nodup (b:nV w0 w1 w2 w3 w4 w5 tt B) (T:qE tt):(B.map λt=>t.1).Nodup:=by
 rw[b.ti];exact kG.sublist (mM ..) T.nd
def nV.mem (b:nV w0 w1 w2 w3 w4 w5 tt B) (ht:t∈B):t.1∈tt:=by
 have:t.1∈B.map λt=>t.1:=bp.mpr ⟨t,ht,rfl⟩;rw[b.ti]at this;exact jP this
def n_ (B:List Tn) (s:ah):Option Tn:=B.find? λt=>t.1 == s
theorem vI:∀{B:List Tn}{t:Tn},(B.map λt=>t.1).Nodup→t∈B→n_ B t.1=aa t
 |u::B,t,hn,ht=>by
  unfold n_;rw[aG,eF]at hn;rw[cr];obtain rfl |ht:=az.mp ht
  ·simp
  ·have hne:u.1≠t.1:=λz=>hn.1 (by rw[z];exact bp.mpr ⟨t,ht,rfl⟩);have:(u.1 == t.1)=false:=by simpa using hne
   rw[this];exact vI hn.2 ht
def ET (h:∀t∈B,t.1≠s):n_ B s=none:=by
 unfold n_;rw[List.find?_eq_none];intro t ht;simpa using h t ht
noncomputable def si (B:List Tn) (s:ah) (n:Nat):Bool:=match n_ B s with
 |none=>AQ s
 |some t=>n == t.2.1.nb
mutual
noncomputable def Tr.way (B:List Tn):Tr→Bool
 | .bl _=>false
 | .nd s ts=>si B s ts.length&&ways B ts
noncomputable def ways (B:List Tn):List Tr→Bool
 | []=>true
 |t::ts=>t.way B&&ways B ts
end
theorem BP (B:List Tn):∀ts:List Tr,ways B ts=ts.all (Tr.way B)
 | []=>by simp [ways]
 |t::ts=>by simp [ways,BP B ts]
mutual
theorem FF (hB:∀t∈B,qR t.1) (hu:∀u∈us,u.way B=true):∀(t:Tr),t.hb qm→t.a_ us.length→(t.aB us).way B=true
 | .bl n,h,f=>by
  simp only[Tr.a_]at f;simp only[Tr.aB];rw[bF,aU (show n.toNat<us.length by lia)]
  exact hu _ (dQ ..)
 | .nd s ts,h,f=>by
  simp only[Tr.a_]at f;simp only[Tr.hb]at h;simp only[Tr.aB,Tr.way];rw[Mc hB hu ts h.2 f,si,ET λt ht=>(Ct h.1 (hB t ht)).symm,(N4 s).mpr h.1];rfl
theorem Mc (hB:∀t∈B,qR t.1) (hu:∀u∈us,u.way B=true):∀(ts:List Tr),pH qm ts→nX us.length ts→ways B (oG us ts)=true
 | [],h,f=>by simp [oG,ways]
 |t::ts,h,f=>by
  simp only[nX]at f;simp only[pH]at h;rw[oG,ways,FF hB hu t h.1 f.1,Mc hB hu ts h.2 f.2];rfl
end
inductive Pl where
  |nd (k bits:Int) (head:ah) (ps:List Pl)
mutual
noncomputable def Pl.wt:Pl→Nat
 | .nd _ _ _ ps=>1+br ps
noncomputable def br:List Pl→Nat
 | []=>0
 |p::ps=>p.wt+br ps
end
mutual
noncomputable def Pl.dp:Pl→Nat
 | .nd _ _ _ ps=>1+tE ps
noncomputable def tE:List Pl→Nat
 | []=>0
 |p::ps=>max p.dp (tE ps)
end
mutual
noncomputable def Pl.nt:Pl→Nat
 | .nd k _ _ ps=>(if k<0 then 0 else 1)+bo ps
noncomputable def bo:List Pl→Nat
 | []=>0
 |p::ps=>p.nt+bo ps
end
inductive oE (ws:List ah) (B:List Tn):Pl→Prop
 |sign {b:Int}{h:ah}{ps:List Pl}:h∈ws→(∀p∈ps,oE ws B p)→oE ws B (.nd (-1) b h ps)
 |turn {k:Nat}{b:Int}{h:ah}{ps:List Pl}{t:Tn}:B[k]? =aa t→ps.length=t.2.1.nb→0≤b→b<8→(∀p∈ps,oE ws B p)→oE ws B (.nd k b h ps)
mutual
noncomputable def Pl.ev (B:List Tn) (c:Int→Nat):Pl→Tr
 | .nd k b h ps=>if k<0 then .nd h (wu B c ps) else match c b with
  |0=>(B.getD k.toNat (h, .bl 0, .bl 0)).2.1.aB (wu B c ps)
  |1=> .nd (B.getD k.toNat (h, .bl 0, .bl 0)).1 (wu B c ps)
  |_=>(B.getD k.toNat (h, .bl 0, .bl 0)).2.2.aB (wu B c ps)
noncomputable def wu (B:List Tn) (c:Int→Nat):List Pl→List Tr
 | []=>[]
 |p::ps=>p.ev B c::wu B c ps
end
theorem FX (B:List Tn) (c:Int→Nat):∀ps:List Pl,wu B c ps=ps.map (Pl.ev B c)
 | []=>by simp [wu]
 |p::ps=>by simp [wu,FX B c ps]
theorem zg:∀ps qs:List Pl,br (ps++qs)=br ps+br qs
 | [],qs=>by simp [br]
 |p::ps,qs=>by simp [br,zg ps qs];lia
theorem xE:∀ps qs:List Pl,bo (ps++qs)=bo ps+bo qs
 | [],qs=>by simp [bo]
 |p::ps,qs=>by simp [bo,xE ps qs];lia
theorem D9:∀{ps:List Pl},p∈ps→p.dp≤tE ps
 |q::ps,h=>by
  obtain rfl |h:=az.mp h
  ·simp [tE];lia
  ·have:=D9 h;simp [tE];lia
mutual
theorem Pw:∀p:Pl,p.dp≤p.wt
 | .nd k b h ps=>by have:=KD ps;simp [Pl.dp,Pl.wt];lia
theorem KD:∀ps:List Pl,tE ps≤br ps
 | []=>by simp [tE]
 |p::ps=>by have:=Pw p;have:=KD ps;simp [tE,br];lia
end
def zyA (p:Pl):1≤p.dp:=by cases p;simp [Pl.dp]
def Zt (p:Pl):1≤p.wt:=by cases p;simp [Pl.wt]
def rF{c:Int→Nat}:(Pl.nd (-1) b h ps).ev B c= .nd h (ps.map (Pl.ev B c)):=by
 rw[Pl.ev,if_pos `d,FX]
noncomputable def sN (t:Tn) (n:Nat) (us:List Tr):Tr:=match n with
 |0=>t.2.1.aB us
 |1=> .nd t.1 us
 |_=>t.2.2.aB us
def qY{B:List Tn}{c:Int→Nat}{b:Int}{h:ah}{ps:List Pl}{k:Nat}{t:Tn}(e:B[k]? =aa t):(Pl.nd k b h ps).ev B c=sN t (c b) (ps.map (Pl.ev B c)):=by
 rw[Pl.ev,if_neg `l,FX,cy,bF,e];rfl
structure o7 (ws hs:List ah) (B:List Tn):Prop where
  ti:∀t∈B,qR t.1
  nd:(B.map λt=>t.1).Nodup
  sg:∀x∈ws,qm x
  sb:∀x∈hs,x∈ws
  lf:∀t∈B,uu qm t.2.1
  ri:∀t∈B,rL ws t.2.1.nb t.2.2
def nV.bk (b:nV w0 w1 w2 w3 w4 w5 tt B) (T:qE tt) (G:p8 w0 w1 w2 w3 w4 w5):o7 [w0,w1,w2,w3,w4,w5] [w2,w3,w4,w5] B:=
 ⟨λt ht=>T.ok _ (b.mem ht),b.nodup T,G.ok,λx hx=>aI _ (aI _ hx),λt ht=>b.left (G.ok _ `s) (G.ok _ `s) (G.ok _ `s) (G.ok _ `s) ht,b.ri⟩
section
variable {ws hs:List ah}{B:List Tn}{c:Int→Nat}
def Lp (b:o7 ws hs B) {p:Pl}(h:oE hs B p):(p.ev B c).way B=true:=by
 induction h with
 | @sign b' h ps hh hp ih=>
  rw[rF,Tr.way,si,ET λt ht=>(Ct (b.sg h (b.sb h hh)) (b.ti t ht)).symm,BP,(N4 h).mpr (b.sg h (b.sb h hh))];simp only[gG,mO,cJ];exact λp hp=>ih p hp
 | @turn k b' h ps t e hl b0 b1 hp ih=>
  have ht:t∈B:=bX e;have hu:∀u∈ps.map (Pl.ev B c),u.way B=true:=λu hu=>by
   obtain⟨p,hp,rfl⟩:=bp.mp hu;exact ih p hp
  rw[qY e];unfold sN;split
  ·exact FF b.ti hu _ (b.lf t ht).hb (by rw[aD,hl];exact(b.lf t ht).a_)
  ·rw[Tr.way,si,vI b.nd ht,BP];simp only[aD,hl,beq_self_eq_true,mO,cJ];exact hu
  ·exact FF b.ti hu _ ((b.ri t ht).hb b.sg) (by rw[aD,hl];exact(b.ri t ht).a_)
theorem Ff:∀{ps:List Pl},p∈ps→p.nt≤bo ps
 |q::ps,h=>by
  obtain rfl |h:=az.mp h
  ·simp [bo]
  ·have:=Ff h;simp [bo];lia
theorem Pn:∀{ps:List Pl},p∈ps→p.wt≤br ps
 |q::ps,h=>by
  obtain rfl |h:=az.mp h
  ·simp [br]
  ·have:=Pn h;simp [br];lia
end
mutual
noncomputable def Tr.mk (B:List Tn) (g:Tn→Tr):Tr→Tr
 | .bl n=> .bl n
 | .nd s ts=>match n_ B s with
  |none=> .nd s (tQ B g ts)
  |some t=>(g t).aB (tQ B g ts)
noncomputable def tQ (B:List Tn) (g:Tn→Tr):List Tr→List Tr
 | []=>[]
 |t::ts=>t.mk B g::tQ B g ts
end
theorem yx (B:List Tn) (g:Tn→Tr):∀ts:List Tr,tQ B g ts=ts.map (Tr.mk B g)
 | []=>by simp [tQ]
 |t::ts=>by simp [tQ,yx B g ts]
def DZ{g:Tn→Tr}(h:n_ B s=none):(Tr.nd s ts).mk B g= .nd s (ts.map (Tr.mk B g)):=by
 rw[Tr.mk,h,yx]
def Dq{g:Tn→Tr}(h:n_ B s=aa t):(Tr.nd s ts).mk B g=(g t).aB (ts.map (Tr.mk B g)):=by
 rw[Tr.mk,h,yx]
def uw (hB:∀t∈B,qR t.1) (h:qm s):n_ B s=none:=ET λt ht=>(Ct h (hB t ht)).symm
mutual
theorem BN{g:Tn→Tr}(hB:∀t∈B,qR t.1):∀t:Tr,t.hb qm→t.a_ us.length→(t.aB us).mk B g=t.aB (us.map (Tr.mk B g))
 | .bl n,h,f=>by
  simp only[Tr.a_]at f;simp only[Tr.aB];rw[bF,bF,bK,aU (show n.toNat<us.length by lia)]
  rfl
 | .nd s ts,h,f=>by
  simp only[Tr.hb]at h;simp only[Tr.a_]at f;simp only[Tr.aB];rw[Tr.mk,uw hB h.1];simp only[];rw[Mz hB ts h.2 f]
theorem Mz{g:Tn→Tr}(hB:∀t∈B,qR t.1):∀ts:List Tr,pH qm ts→nX us.length ts→tQ B g (oG us ts)=oG (us.map (Tr.mk B g)) ts
 | [],h,f=>by simp [oG,tQ]
 |t::ts,h,f=>by
  simp only[pH]at h;simp only[nX]at f;rw[oG,tQ,oG,BN hB t h.1 f.1,Mz hB ts h.2 f.2]
end
section
variable {ws hs:List ah}{B:List Tn}{c d:Int→Nat}
def NY (b:o7 ws hs B) {g:Tn→Tr}(hg:∀t∈B,∀x:Int,0≤x→x<8→c x=1→ ∀us,(g t).aB us=sN t (d x) us) (h0:∀x:Int,0≤x→x<8→c x≠1→d x=c x) {p:Pl}(h:oE hs B p):(p.ev B c).mk B g=p.ev B d:=by
 induction h with
 | @sign b' h ps hh hp ih=>
  rw[rF,rF,DZ (uw b.ti (b.sg h (b.sb h hh))),bB];congr 1;exact dR λp hp=>ih p hp
 | @turn k b' h ps t e hl b0 b1 hp ih=>
  have ht:t∈B:=bX e;have em:(ps.map (Pl.ev B c)).map (Tr.mk B g)=ps.map (Pl.ev B d):=by
   rw[bB];exact dR λp hp=>ih p hp
  rw[qY e,qY e];by_cases hc:c b'=1
  ·rw[←hg t ht b' b0 b1 hc,hc];show(Tr.nd t.1 _).mk B g=_;rw[Dq (vI b.nd ht),em]
  ·rw[h0 b' b0 b1 hc];unfold sN;split
   ·rw[BN b.ti _ (b.lf t ht).hb (by rw[aD,hl];exact(b.lf t ht).a_),em]
   ·rename_i z;exact absurd z hc
   ·rw[BN b.ti _ ((b.ri t ht).hb b.sg) (by rw[aD,hl];exact(b.ri t ht).a_),em]
def vg (c:Int→Nat):Int→Nat:=λx=>if c x=1 then 0 else c x
def td (c:Int→Nat):Int→Nat:=λx=>if c x=1 then 2 else c x
def wm (b:o7 ws hs B) (h:oE hs B p):(p.ev B c).mk B (λt=>t.2.1)=p.ev B (vg c):=
 NY b (λt ht x _ _ hx us=>by rw[vg,if_pos hx];rfl) (λx _ _ hx=>by rw[vg,if_neg hx]) h
def xA (b:o7 ws hs B) (h:oE hs B p):(p.ev B c).mk B (λt=>t.2.2)=p.ev B (td c):=
 NY b (λt ht x _ _ hx us=>by rw[td,if_pos hx];rfl) (λx _ _ hx=>by rw[td,if_neg hx]) h
def vA{p:Pl}(h:oE hs B p) (hc:∀x:Int,0≤x→x<8→c x=d x):p.ev B c=p.ev B d:=by
 induction h with
 | @sign b' h ps hh hp ih=>
  rw[rF,rF];congr 1;exact dR λp hp=>ih p hp
 | @turn k b' h ps t e hl b0 b1 hp ih=>
  rw[qY e,qY e,hc b' b0 b1];congr 1;exact dR λp hp=>ih p hp
end
def Na (hL:L∈bu n h c d) (hu:us.length=L.nb):L.mt (L.aB us)=aa us:=by
 apply zP (P:=λL us=>L.mt (L.aB us)=aa us) hL hu<;>intros<;>simp [Tr.aB,oG,Tr.mt,oP]
def FK (B:List Tn):Prop:=∀t∈B,∀us:List Tr,us.length=t.2.1.nb→t.2.1.mt (t.2.1.aB us)=aa us
def nV.mt (b:nV w0 w1 w2 w3 w4 w5 tt B):FK B:=λt ht us hu=>by
 obtain⟨n,m,e⟩:=b.lf;have:t.2.1∈bu n w0 w2 w3++bu m w1 w2 w3:=by rw[←e];exact bp.mpr ⟨t,ht,rfl⟩
 obtain z |z:=bv.mp this
 ·exact Na z hu
 ·exact Na z hu
mutual
inductive Mv (B:List Tn):Nat→Tr→Tr→Tr→Prop
 |nn {n:Nat}{s z:ah}{ts us cs:List Tr}:n_ B s=none→n_ B z=none→pC B n ts us cs→Mv B (n+1) (.nd s ts) (.nd z us) (.nd s cs)
 |ns {n:Nat}{s z:ah}{ts us cs ms:List Tr}{t:Tn}:n_ B s=none→n_ B z=aa t→t.2.1.mt (.nd s ts)=aa ms→cs.length=t.2.1.nb→pC B n ms us cs→Mv B (n+1) (.nd s ts) (.nd z us) (t.2.2.aB cs)
 |sn {n:Nat}{s z:ah}{ts us cs ms:List Tr}{t:Tn}:n_ B s=aa t→n_ B z=none→t.2.1.mt (.nd z us)=aa ms→pC B n ts ms cs→Mv B (n+1) (.nd s ts) (.nd z us) (.nd s cs)
 |ss {n:Nat}{s z:ah}{ts us cs:List Tr}{t t':Tn}:n_ B s=aa t'→n_ B z=aa t→cs.length=t.2.1.nb→pC B n ts us cs→Mv B (n+1) (.nd s ts) (.nd z us) (t.2.2.aB cs)
inductive pC (B:List Tn):Nat→List Tr→List Tr→List Tr→Prop
 |nil {n:Nat}:pC B n [] [] []
 |cons {n:Nat}{a b c:Tr}{as bs cs:List Tr}:Mv B n a b c→pC B n as bs cs→pC B n (a::as) (b::bs) (c::cs)
end
theorem FL (f:∀{a b c:Tr},Mv B n a b c→Mv B m a b c):∀(a:List Tr) {b c:List Tr},pC B n a b c→pC B m a b c
 | [],_,_,h=>by cases h;exact .nil
 |_::a,_,_,h=>by
  cases h with
  |cons h1 h2=>exact .cons (f h1) (FL f a h2)
def Mv.monoA:∀{a b c:Tr},Mv B n a b c→ ∀m,n≤m→Mv B m a b c:=by
 induction n with
 |zero=>intro a b c h;cases h
 |succ n ih=>
  intro a b c h m hm;obtain⟨m,rfl⟩:∃m',m=m'+1:=⟨m - 1,`l⟩
  have k:∀{a b c:List Tr},pC B n a b c→pC B m a b c:=λ{a _ _}=>FL (λh=>ih h m `l) a;cases h with
  |nn h1 h2 h3=>exact .nn h1 h2 (k h3)
  |ns h1 h2 h3 h4 h5=>exact .ns h1 h2 h3 h4 (k h5)
  |sn h1 h2 h3 h4=>exact .sn h1 h2 h3 (k h4)
  |ss h1 h2 h3 h4=>exact .ss h1 h2 h3 (k h4)
def pC.monoA (h:pC B n a b c) (m:Nat) (hm:n≤m):pC B m a b c:=FL (λk=>Mv.monoA k m hm) a h
def Mv.mono (h:n≤m) (M:Mv B n a b c):Mv B m a b c:=Mv.monoA M m h
def pC.mono (h:n≤m) (M:pC B n a b c):pC B m a b c:=pC.monoA M m h
def pC.get:∀{as bs cs:List Tr}{i:Nat},pC B n as bs cs→i<cs.length→ ∃a b c,as[i]? =aa a∧bs[i]? =aa b∧cs[i]? =aa c∧Mv B n a b c:=by
 intro as
 induction as with
 |nil=>intro bs cs i h g;cases h;cases g
 |cons a as ih=>
  intro bs cs i h g;cases h with
  |cons h1 h2=>
   cases i with
   |zero=>exact⟨_,_,_,rfl,rfl,rfl,h1⟩
   |succ i=>exact ih h2 (Nat.lt_of_succ_lt_succ g)
theorem pC.of{α:Type}{f g h:α→Tr}:∀(xs:List α),(∀x∈xs,Mv B n (f x) (g x) (h x))→pC B n (xs.map f) (xs.map g) (xs.map h)
 | [],_=> .nil
 |x::xs,q=> .cons (q x aM) (pC.of xs λy hy=>q y (aI _ hy))
mutual
theorem G8 (hB:∀t∈B,qR t.1) (h:pC B n us vs cs):∀t:Tr,t.hb qm→t.a_ cs.length→Mv B (n+t.depth) (t.aB us) (t.aB vs) (t.aB cs)
 | .bl k,q,f=>by
  simp only[Tr.a_]at f;obtain⟨a,b,c,e1,e2,e3,m⟩:=h.get (i:=k.toNat) `l;simp only[Tr.aB,bF,e1,e2,e3,gD];exact m.mono `l
 | .nd s ts,q,f=>by
  simp only[Tr.hb]at q;simp only[Tr.a_]at f;have:=J5 hB h ts q.2 f;simp only[Tr.aB,Tr.depth];rw[show n+(1+oy ts)=n+oy ts+1 by lia]
  exact .nn (uw hB q.1) (uw hB q.1) this
theorem J5 (hB:∀t∈B,qR t.1) (h:pC B n us vs cs):∀ts:List Tr,pH qm ts→nX cs.length ts→pC B (n+oy ts) (oG us ts) (oG vs ts) (oG cs ts)
 | [],q,f=>by simp only[oG];exact .nil
 |t::ts,q,f=>by
  simp only[pH]at q;simp only[nX]at f;have h1:=G8 hB h t q.1 f.1;have h2:=J5 hB h ts q.2 f.2;simp only[oG,oy];exact .cons (h1.mono `l) (h2.mono `l)
end
def r8 (c d:Int→Nat):Int→Nat:=λx=>if d x=1 then 2 else c x
def DM{ws hs:List ah}{B:List Tn}{c d:Int→Nat}(b:o7 ws hs B) (hm:FK B) (hc:∀x:Int,0≤x→x<8→(c x≤1∧d x≤1)∨(c x=2∧d x=2)) {p:Pl}(h:oE hs B p):Mv B (p.dp+3*p.nt) (p.ev B c) (p.ev B d) (p.ev B (r8 c d)):=by
 induction h with
 | @sign b' h ps hh hp ih=>
  rw[rF,rF,rF,Pl.dp,Pl.nt,if_pos `d,show 1+tE ps+3*(0+bo ps)=tE ps+3*bo ps+1 by lia]
  refine .nn (uw b.ti (b.sg h (b.sb h hh))) (uw b.ti (b.sg h (b.sb h hh))) (.of ps λp hp=>(ih p hp).mono ?_);have:=D9 hp;have:=Ff hp;lia
 | @turn k b' h ps t e hl b0 b1 hp ih=>
  have ht:t∈B:=bX e;have en:(Pl.nd k b' h ps).nt=1+bo ps:=by rw[Pl.nt,if_neg `l]
  have M:pC B (tE ps+3*bo ps) (ps.map (Pl.ev B c)) (ps.map (Pl.ev B d)) (ps.map (Pl.ev B (r8 c d))):= .of ps λp hp=>(ih p hp).mono (by
   have:=D9 hp;have:=Ff hp;lia)
  have lc:(ps.map (Pl.ev B (r8 c d))).length=t.2.1.nb:=by rw[aD,hl]
  have l1:(ps.map (Pl.ev B c)).length=t.2.1.nb:=by rw[aD,hl]
  have l2:(ps.map (Pl.ev B d)).length=t.2.1.nb:=by rw[aD,hl]
  have tt:=vI b.nd ht;have L:=b.lf t ht;have R:=b.ri t ht;have hd:=L.dp;rw[qY e,qY e,qY e,Pl.dp,en,show 1+tE ps+3*(1+bo ps)=tE ps+3*bo ps+3+1 by lia]
  have lsign:∀us,∃s ts,t.2.1.aB us= .nd s ts∧n_ B s=none:=λus=>by
   obtain⟨s,ts,el⟩:=L.nd;have hb:=L.hb;rw[el,Tr.hb]at hb;exact⟨s,oG us ts,by rw[el,Tr.aB],uw b.ti hb.1⟩
  have hp:r8 c d b'=if d b'=1 then 2 else c b':=rfl;rw[hp];obtain ⟨c1,d1⟩ |⟨c2,d2⟩:=hc b' b0 b1
  ·by_cases dz:d b'=1
   ·rw[if_pos dz,dz];by_cases cz:c b'=1
    ·rw[cz];exact .ss tt tt lc (M.mono `l)
    ·rw[show c b'=0 by lia]
     obtain⟨s,ts,es,hs⟩:=lsign (ps.map (Pl.ev B c));have:=hm t ht _ l1;simp only[sN];rw[es]at this⊢;exact .ns hs tt this lc (M.mono `l)
   ·rw[if_neg dz,show d b'=0 by lia]
    by_cases cz:c b'=1
    ·rw[cz];obtain⟨s,ts,es,hs⟩:=lsign (ps.map (Pl.ev B d));have:=hm t ht _ l2;simp only[sN];rw[es]at this⊢;exact .sn tt hs this (M.mono `l)
    ·rw[show c b'=0 by lia]
     simp only[sN];exact(G8 b.ti M _ L.hb (by rw[lc];exact L.a_)).mono `l
  ·rw[d2,if_neg `d,c2];simp only[sN];have:=R.dp;exact(G8 b.ti M _ (R.hb b.sg) (by rw[lc];exact R.a_)).mono `l
theorem Oy{P:ah→Prop}:∀{ts us:List Tr},hds P ts→hds P us→hds P (ts++us)
 | [],us,_,h=>h
 |t::ts,us,h,g=>by
  simp only[hds,bY]at h⊢;exact⟨h.1,Oy h.2 g⟩
mutual
inductive qG (S:gY):Pl→W→Prop
 |nd {k b:Int}{h:ah}{ps:List Pl}{a:aj}{vs:List W}:S a=aa (.bx vs)→nO S ps vs→qG S (.nd k b h ps) (.bH [.int k, .int b, .str h, .ref a])
inductive nO (S:gY):List Pl→List W→Prop
 |nil:nO S [] []
 |cons {p:Pl}{v:W}{ps:List Pl}{vs:List W}:qG S p v→nO S ps vs→nO S (p::ps) (v::vs)
end
mutual
theorem qG.sub (h:Sub S S'):∀{p:Pl}{v:W},qG S p v→qG S' p v
 |_,_, .nd e q=> .nd (h _ _ e) (nO.sub h q)
theorem nO.sub (h:Sub S S'):∀{ps:List Pl}{vs:List W},nO S ps vs→nO S' ps vs
 |_,_, .nil=> .nil
 |_,_, .cons a b=> .cons (qG.sub h a) (nO.sub h b)
end
def nO.len:∀{ps:List Pl}{vs:List W},nO S ps vs→ps.length=vs.length:=λ{ps vs} h=>by
 induction ps generalizing vs with
 |nil=>cases h;rfl
 |cons p ps ih=>
  cases h with
  |cons _ h=>exact congrArg (· +1) (ih h)
def nO.app:∀{ps qs:List Pl}{vs us:List W},nO S ps vs→nO S qs us→nO S (ps++qs) (vs++us):=λ{ps qs vs us} h g=>by
 induction ps generalizing vs with
 |nil=>cases h;exact g
 |cons p ps ih=>
  cases h with
  |cons a b=>exact .cons a (ih b)
theorem nO.take:∀(n:Nat) {ps:List Pl}{vs:List W},nO S ps vs→nO S (ps.take n) (vs.take n)
 |0,_,_,_=> .nil
 |_+1,_,_, .nil=> .nil
 |n+1,_,_, .cons a b=> .cons a (nO.take n b)
theorem nO.drop:∀(n:Nat) {ps:List Pl}{vs:List W},nO S ps vs→nO S (ps.drop n) (vs.drop n)
 |0,_,_,h=>h
 |_+1,_,_, .nil=> .nil
 |n+1,_,_, .cons _ b=>nO.drop n b
theorem nO.rep (h:qG S p v):∀n:Nat,nO S (bf n p) (bf n [v]).flatten
 |0=> .nil
 |n+1=>by
  rw[c7,c7,eI];exact .cons h (nO.rep h n)
noncomputable def vP (w:ah):Pl:= .nd (-1) 0 w []
noncomputable def qN (need:Nat) (w:ah) (ps:List Pl):List Pl:=bf (need - ps.length) (vP w)++ps
noncomputable def push (need:Nat) (w:ah) (k b:Int) (h:ah) (ps:List Pl):List Pl:=
 (qN need w ps).take ((qN need w ps).length - need)++[.nd k b h ((qN need w ps).drop ((qN need w ps).length - need))]
theorem Pu (w:ah):∀n:Nat,br (bf n (vP w))=n
 |0=>by simp [br]
 |n+1=>by rw[c7,br,Pu w n];simp [vP,Pl.wt,br];lia
theorem NK (w:ah):∀n:Nat,bo (bf n (vP w))=0
 |0=>by simp [bo]
 |n+1=>by rw[c7,bo,NK w n];simp [vP,Pl.nt,bo]
theorem CD:∀ps:List Pl,ps.length≤br ps
 | []=>by simp
 |p::ps=>by have:=CD ps;have:=Zt p;simp [br];lia
def C_ (need:Nat) (w:ah) (ps:List Pl):(qN need w ps).length=need - ps.length+ps.length:=by simp [qN]
def Yt:br (push need w k b h ps)=need - ps.length+br ps+1∧bo (push need w k b h ps)=bo ps+(if k<0 then 0 else 1)∧(push need w k b h ps).length=need - ps.length+ps.length - need+1:=by
 have hl:=C_ need w ps;have h1:br (qN need w ps)=need - ps.length+br ps:=by rw[qN,zg,Pu]
 have h2:bo (qN need w ps)=bo ps:=by rw[qN,xE,NK];lia
 have h3:=zg ((qN need w ps).take ((qN need w ps).length - need)) ((qN need w ps).drop ((qN need w ps).length - need));have h4:=xE ((qN need w ps).take ((qN need w ps).length - need)) ((qN need w ps).drop ((qN need w ps).length - need));rw[m5]at h3 h4;unfold push;refine⟨?_,?_,?_⟩
 ·rw[zg,br,br,Pl.wt];lia
 ·rw[xE,bo,bo,Pl.nt];lia
 ·rw[aW,dL,cj,hl];lia
def zqF (ps:List Pl):((qN need w ps).drop ((qN need w ps).length - need)).length=need:=by
 have hl:=C_ need w ps;rw[d_,hl];lia
def Pe (hw:w∈ws) (h:∀p∈ps,oE ws B p):∀p∈qN need w ps,oE ws B p:=λp hp=>by
 obtain z |z:=bv.mp hp
 ·rw[(List.mem_replicate.mp z).2];exact .sign hw λq hq=>by cases hq
 ·exact h p z
def Rh (hw:w∈ws) (hp:∀p∈ps,oE ws B p) (hn:∀qs:List Pl,qs.length=need→(∀q∈qs,oE ws B q)→oE ws B (.nd k b h qs)):∀p∈push need w k b h ps,oE ws B p:=λp hq=>by
 obtain z |z:=bv.mp hq
 ·exact Pe hw hp p (jP z)
 ·rw[bw.mp z];exact hn _ (zqF ps) λq hq=>Pe hw hp q (jX hq)
def B3:WS:=(og (sx (oo (wOp sZ (eQ 3) 0.0)) (oo (wOp yK (eQ 5) 5.0))) (kj (jj (wOp (rK λi j=> .int (i - j)) (eQ 3) 1.0) (wGN 3))
  (kj (jj (ox (zl (yU (oI {nS {sk 1.0,0.0,wOp nC (eQ 2) 2.0,ox (oI ae)}}) (wOp (rK λi j=> .int (i - j)) (eQ 8) (wB pq {eQ 4}))) (eQ 4))) (wGN 4))
  (kj (jj (wOp (rK λi j=> .int (i - j)) (wB pq {eQ 4}) (eQ 8)) (wGN 11))
  (jj (ox (ve (ww (eQ 4) py (woS (eQ 11))) (oI {wOp oX (eQ 9) (nS {pD (eQ 4) (woS (eQ 11)) py})}))) (wGN 4))))) oh)
theorem UA:Oe r nG=(kj (jj (wOp (oZ (λ_ j=>0<j) λi j=> .int (i % j)) (eQ 6) 8.0) (wGN 7))
  (kj (jj (vL (oI {0.0,0.0,1.0,2.0}) (wB vc {eQ 7,3.0})) (wGN 8))
  (kj (jj (nS {sk 1.0,0.0,wOp nC (eQ 2) (vL (oI {2.0,5.0,3.0,4.0}) (wB vc {eQ 7,3.0}))}) (wGN 9))
  (kj (og (oo (wOp sZ (eQ 7) 3.0)) (kj (jj (wOp (oZ (λ_ j=>0<j) λi j=> .int (i % j)) (wOp (oZ sF λi j=> .int (i / j)) (eQ 6) 8.0) (wB pq {eQ 1})) (wGN 10))
  (kj (jj (nF (wc r) {wOp nC (wOp nC (eQ 1) (eQ 10)) 1.0}) (wGN 8))
  (kj (jj (nS {eQ 10,wOp (oZ (λ_ j=>0<j) λi j=> .int (i % j)) (wOp (oZ sF λi j=> .int (i / j)) (eQ 6) 64.0) 8.0,wC (.str "")}) (wGN 9))
  (jj (wOp oX (eQ 5) 1.0) (wGN 5))))) oh)
  B3)))):=rfl
def V7{w0 w1 w2 w3 w4 w5:ah}{S:gY}{aw st:aj}{E:WX}{D:nQ}{need:Nat}{k b room spent:Int}{h:ah}{ps:List Pl}{vs:List W}{x0 x1 x6 x7 x10 x11:Option W}(hw:S aw=aa (.bx (re w0 w1 w2 w3 w4 w5))) (hst:S st=aa (.bx vs)) (hp:nO S ps vs) (hn:need≤3) (hl:ps.length≤100)
  (h1:D.nx [x0,x1,aa (.ref aw),aa (.int room),aa (.ref st),aa (.int spent),x6,x7,aa (.int need),aa (.bH [.int k, .int b, .str h]),x10,x11] S)
  (h2:0<room→spent<5→ ∀(st':aj) (S':gY) (vs':List W) (x11:Option W),Sub S S'→S' st'=aa (.bx vs')→nO S' (push need w2 k b h ps) vs'→D.nx [x0,x1,aa (.ref aw),aa (.int (room - 1)),aa (.ref st'),aa (.int spent),x6,x7,aa (.int need),aa (.bH [.int k, .int b, .str h]),x10,x11] S') :
  B3 E D [x0,x1,aa (.ref aw),aa (.int room),aa (.ref st),aa (.int spent),x6,x7,aa (.int need),aa (.bH [.int k, .int b, .str h]),x10,x11] S:=by
 unfold B3;ext;split
 ·rename_i c1;split
  ·rename_i c2;simp only[nT hw,qv];have f1:=λ(a:aj) (ha:S a=none)=>keep (x:=Ob.bx []) hst ha;refine⟨bc _,λa ha=>⟨nL `d,nL `d,?_⟩⟩;rw[nT (f1 a ha),nT (f1 a ha)];have hlen:=hp.len;have en:((need:Int) - (vs.length:Int)).toNat=need - ps.length:=by lia
   rw[en];have pa:qG (bz S a (Ob.bx [])) (vP w2) (.bH [.int (-1), .int 0, .str w2, .ref a]):= .nd nJ .nil;have pp:nO (bz S a (Ob.bx [])) (qN need w2 ps) ((bf (need - ps.length) [W.bH [.int (-1), .int 0, .str w2, .ref a]]).flatten++vs):=(nO.rep pa _).app (hp.sub (.bz .refl ha));have pl:=pp.len;have sub1:Sub S (bz S a (Ob.bx [])):= .bz .refl ha;have hfl:((bf (need - ps.length) [W.bH [.int (-1), .int 0, .str w2, .ref a]]).flatten).length≤3:=by
    rw[aW,C_]at pl;lia
   have e0:(1*(need - ps.length))≤sizeLine:=nL `l;refine⟨⟨`l,`l,e0⟩,nL `l,?_⟩
   generalize (bf (need - ps.length) [W.bH [.int (-1), .int 0, .str w2, .ref a]]).flatten++vs=ys at pp pl⊢;generalize bz S a (Ob.bx [])=S1 at pp sub1⊢;intro b2 hb2;have sub2:Sub S1 (bz S1 b2 (.bx ys)):= .bz .refl hb2;generalize bz S1 b2 (Ob.bx ys)=S2 at sub2⊢;have hpl:=C_ need w2 ps;have ea:((ys.length:Nat):Int) - (need:Int)=((ys.length - need:Nat):Int):=by lia
   rw[ea,Nu,HS];intro p hp3;have sub3:Sub S2 (bz S2 p (.bx (ys.drop (ys.length - need)))):= .bz .refl hp3;have fp:bz S2 p (Ob.bx (ys.drop (ys.length - need))) p=aa (.bx (ys.drop (ys.length - need))):=nJ;generalize bz S2 p (Ob.bx (ys.drop (ys.length - need)))=S3 at sub3 fp⊢;refine⟨nL `d,nL `d,nL `d,nL (by rw[dL];lia),λq hq=>?_⟩;have sub4:Sub S3 (bz S3 q (.bx (ys.take (ys.length - need)++[.bH [.int k, .int b, .str h, .ref p]]))):= .bz .refl hq;refine h2 c1 c2 q _ _ _ (((sub1.trans sub2).trans sub3).trans sub4) nJ ?_;unfold push;have pp3:=pp.sub ((sub2.trans sub3).trans sub4);rw[←pl]at *;exact(pp3.take _).app (.cons (.nd (sub4 _ _ fp) (pp3.drop _)) .nil)
  ·exact h1
 ·exact h1
def WQ (n:Int) (h0:0≤n) (h1:n<8):∃m:Nat,m≤2∧ow [W.int 0,W.int 0,W.int 1,W.int 2] (if 3<n then 3 else n)=aa (.int (m:Int)):=by
 rcases(show n=0∨n=1∨n=2∨(3≤n) by lia) with rfl |rfl |rfl |h
 ·exact⟨0,`d,rfl⟩
 ·exact⟨0,`d,rfl⟩
 ·exact⟨1,`d,rfl⟩
 ·have:(if 3<n then 3 else n)=3:=by split<;>lia
  rw[this];exact⟨2,`d,rfl⟩
def zzZ (n:Int) (h0:0≤n) (h1:n<8):∃(i:Int) (x:ah),x∈ [w2,w3,w4,w5]∧ow [W.int 2,W.int 5,W.int 3,W.int 4] (if 3<n then 3 else n)=aa (.int i)∧ow (re w0 w1 w2 w3 w4 w5) i=aa (.str x):=by
 rcases(show n=0∨n=1∨n=2∨(3≤n) by lia) with rfl |rfl |rfl |h
 ·exact⟨2,w2,`s,rfl,rfl⟩
 ·exact⟨5,w5,`s,rfl,rfl⟩
 ·exact⟨3,w3,`s,rfl,rfl⟩
 ·have:(if 3<n then 3 else n)=3:=by split<;>lia
  rw[this];exact⟨4,w4,`s,rfl,rfl⟩
inductive NH (S:gY) (ac ab aw:aj) (hs:List ah) (B:List Tn) (m:Nat) (ws:List W) (σ:nK) (S':gY):Prop
 |mk (ns:List Int) (ps:List Pl) (vs:List W) (st:aj) (room spent:Int) (x6 x7 x8 x9 x10 x11:Option W):ws=ns.map W.int→Sub S S'→S' st=aa (.bx vs)→nO S' ps vs→(∀p∈ps,oE hs B p)→0≤room→room≤m→(bo ps:Int)≤spent→bo ps≤4→(br ps:Int)+ps.length≤2*(m - room)+bo ps+2→
  σ=[aa (.ref ac),aa (.ref ab),aa (.ref aw),aa (.int room),aa (.ref st),aa (.int spent),x6,x7,x8,x9,x10,x11]→NH S ac ab aw hs B m ws σ S'
inductive JB (S:gY) (hs:List ah) (B:List Tn) (m:Nat) (f:aj→nK) (mm:Nat) (σ:nK) (S2:gY):Prop
 |mk (ps:List Pl) (vs:List W) (st:aj):mm=ps.length→Sub S S2→S2 st=aa (.bx vs)→nO S2 ps vs→(∀p∈ps,oE hs B p)→bo ps≤4→br ps+ps.length≤2*m+bo ps+2→σ=f st→JB S hs B m f mm σ S2
def UU{m:Nat}(hm9:m≤9) {Q:WK}{X:ah→gY→Prop}{ac ab:aj}{cells:List Int}{B:List Tn}(hc:S ac=aa (.bx (cells.map W.int))) (hb:S ab=aa (.bx (B.map nN))) (hw:S aw=aa (.bx (re w0 w1 w2 w3 w4 w5))) (bk:o7 [w0,w1,w2,w3,w4,w5] [w2,w3,w4,w5] B) (hB:B≠ [])
  (h:∀(p:Pl) (v:W) (S':gY),Sub S S'→qG S' p v→oE [w2,w3,w4,w5] B p→p.wt≤2*m+1+p.nt→p.nt≤4→Q v S'):C3 (r+10) [.ref ac, .ref ab, .ref aw, .int m] S Q X:=by
 rw[show r+10=r+9+1 from rfl,C3];ext;refine⟨bc _,λst0 hst0=>?_⟩;rw[nT (keep hc hst0)];refine GZ (NH S ac ab aw [w2,w3,w4,w5] B m) ?_ ?_ _ _ _ ⟨cells,[],[],st0,m,0,none,none,none,none,none,none,rfl, .bz .refl hst0,nJ, .nil,(λ_ h=>nomatch h),`l,`l,by simp [bo],by simp [bo],by simp [bo,br],rfl⟩
 ·rintro w ws σ S' N ⟨ns,ps,vs,st,room,spent,x6,x7,x8,x9,x10,x11,ew,sub,hst,hp,ok,r0,r1,p0,p1,p2,rfl⟩ hN;cases ns with
  |nil=>cases ew
  |cons n ns=>
  cases ew;have fw:=sub _ _ hw;have fb:=sub _ _ hb;have fc:=sub _ _ hc;have m0:0≤n % 8:=dG _ `d;have m1:n % 8<8:=dX _ `d;have hpl:=CD ps;obtain⟨need,hneed,en⟩:=WQ (n % 8) m0 m1;obtain⟨i,hd,hhd,e1,e2⟩:=zzZ (w0:=w0) (w1:=w1) (w2:=w2) (w3:=w3) (w4:=w4) (w5:=w5) (n % 8) m0 m1;have go:∀(need:Nat) (k b:Int) (hh:ah) (sp:Int) (x10:Option W),need≤3→(∀qs:List Pl,qs.length=need→(∀q∈qs,oE [w2,w3,w4,w5] B q)→oE [w2,w3,w4,w5] B (.nd k b hh qs))→(k<0∧need≤2∧sp=spent∨ ¬k<0∧sp=spent+1)→
    ∀(E:WX) (D:nQ),D.nx=N→B3 E D [aa (.ref ac),aa (.ref ab),aa (.ref aw),aa (.int room),aa (.ref st),aa (.int sp),aa (.int n),aa (.int (n % 8)),aa (.int need),aa (.bH [.int k, .int b, .str hh]),x10,x11] S':=λneed k b hh sp x10 hn b6 hk E D hD=>by
   subst hD;refine V7 fw hst hp hn `l ?_ λc1 c2 st' S2 vs' x11 sub2 hst2 hp2=>?_
   ·refine hN _ _ S' .refl fc ⟨ns,ps,vs,st,room,sp,_,_,_,_,_,_,rfl,sub,hst,hp,ok,r0,r1,`l,p1,p2,rfl⟩
   ·obtain⟨s1,s2,s3⟩:=Yt (need:=need) (w:=w2) (k:=k) (b:=b) (h:=hh) (ps:=ps);have hz:ps.length=0→br ps=0∧bo ps=0:=λz=>by
     cases ps with
     |nil=>exact⟨rfl,rfl⟩
     |cons _ _=>simp at z
    have fin:(bo (push need w2 k b hh ps):Int)≤sp→bo (push need w2 k b hh ps)≤4→(br (push need w2 k b hh ps):Int)+(push need w2 k b hh ps).length≤2*(m - (room - 1))+bo (push need w2 k b hh ps)+2→D.nx [aa (.ref ac),aa (.ref ab),aa (.ref aw),aa (.int (room - 1)),aa (.ref st'),aa (.int sp),aa (.int n),aa (.int (n % 8)),aa (.int need),aa (.bH [.int k, .int b, .str hh]),x10,x11] S2:=λf1 f2 f3=>
     hN _ _ S2 .refl (sub2 _ _ fc) ⟨ns,_,vs',st',room - 1,sp,_,_,_,_,_,_,rfl,sub.trans sub2,hst2,hp2,Rh `s ok b6,`l,`l,f1,f2,f3,rfl⟩
    obtain ⟨kn,n2,es⟩ |⟨kp,es⟩:=hk
    ·rw[if_pos kn]at s2;refine fin `l `l ?_;obtain z |z:=iq ps.length
     ·have:=hz z;lia
     ·lia
    ·rw[if_neg kp]at s2;refine fin `l `l ?_;obtain z |z:=iq ps.length
     ·have:=hz z;lia
     ·lia
  rw[UA];ext;simp only[en,e1];ext;simp only[nT fw,e2];refine⟨`d,nL `d,nL `d,nL `d,?_⟩;split
  ·have hbl:(B.map nN)≠ []:=by simpa using hB
   obtain⟨j,x,ej,ex⟩:=ED (n / 8) hbl;have hlt:0<(B.map nN).length:=mI.mpr hbl;have ek:n / 8 % ((B.map nN).length:Int)=(((n / 8 % ((B.map nN).length:Int)).toNat:Nat):Int):=by
    have:=dG (n / 8) (show((B.map nN).length:Int)≠0 by lia)
    lia
   have ek2:=sW (xs:=B.map nN) (n:=(n / 8 % ((B.map nN).length:Int)).toNat);rw[←ek,ex,bK]at ek2;cases et:B[(n / 8 % ((B.map nN).length:Int)).toNat]? with
   |none=>rw[et]at ek2;cases ek2
   |some t=>
    rw[et]at ek2;have ext:x= .bH [.str t.1,gS t.2.1,gS t.2.2]:=by cases ek2;rfl
    have ht:t∈B:=bX et;have LT:=bk.lf t ht;have hLd:=LT.dp;have hLw:=LT.wt;have hLn:=LT.nb;simp only[nT fb,ex,ext];ext;rw[show ow [W.str t.1,gS t.2.1,gS t.2.2] 1=aa (gS t.2.1) from rfl];refine⟨⟨`d,`d⟩,`l,?_⟩
    refine Ht 4 hLd `l `l ⟨⟨`d,`d⟩,`d,nL `d,?_⟩
    have b0:0≤n / 64 % 8:=dG _ `d;have b1:n / 64 % 8<8:=dX _ `d;refine go t.2.1.nb _ _ _ _ _ hLn (λqs hq hqs=>?_) (.inr ⟨`l,rfl⟩) _ _ rfl;rw[ek];exact .turn et hq b0 b1 hqs
  ·exact go need (-1) 0 hd spent _ `l (λqs hq hqs=> .sign hhd hqs) (.inl ⟨`d,hneed,rfl⟩) _ _ rfl
 ·rintro σ S' ⟨ns,ps,vs,st,room,spent,x6,x7,x8,x9,x10,x11,ew,sub,hst,hp,ok,r0,r1,p0,p1,p2,rfl⟩;have hpl:=CD ps;refine⟨JB S [w2,w3,w4,w5] B m (λst=>[aa (.ref ac),aa (.ref ab),aa (.ref aw),aa (.int room),aa (.ref st),aa (.int spent),x6,x7,x8,x9,x10,x11]),⟨_,ps,vs,st,rfl,sub,hst,hp,ok,p1,`l,rfl⟩,?_⟩
  rintro mm σ S2 ⟨ps,vs,st,rfl,sub,hst,hp,ok,p1,p2,rfl⟩;have hlen:=hp.len;have fw:=sub _ _ hw;ext;rw[nT hst];split
  ·rename_i hgt;simp only[KG];ext;simp only[nT hst,nT fw,qH];have c1:pS vs none (aa (-2))=vs.take (vs.length - 2):=YC 2 `d;have c2:pS vs (aa (-2)) none=vs.drop (vs.length - 2):=ztA 2 `d;rw[c1,c2];intro p hp3;have sub3:Sub S2 (bz S2 p (.bx (vs.drop (vs.length - 2)))):= .bz .refl hp3;have fp:bz S2 p (Ob.bx (vs.drop (vs.length - 2))) p=aa (.bx (vs.drop (vs.length - 2))):=nJ;generalize bz S2 p (Ob.bx (vs.drop (vs.length - 2)))=S3 at sub3 fp⊢;refine⟨nL `d,nL `d,nL (by rw[dL];lia),λq hq=>?_⟩;have sub4:Sub S3 (bz S3 q (.bx (vs.take (vs.length - 2)++[.bH [.int (-1), .int 0, .str w4, .ref p]]))):= .bz .refl hq;have hp4:=hp.sub (sub3.trans sub4);have hw3:=zg (ps.take (vs.length - 2)) (ps.drop (vs.length - 2));have hn3:=xE (ps.take (vs.length - 2)) (ps.drop (vs.length - 2));rw[m5]at hw3 hn3;refine⟨_,_,?_, .refl,ps.take (vs.length - 2)++[.nd (-1) 0 w4 (ps.drop (vs.length - 2))],_,q,rfl,(sub.trans sub3).trans sub4,nJ,(hp4.take _).app (.cons (.nd (sub4 _ _ fp) (hp4.drop _)) .nil),λx hx=>?_,?_,?_,rfl⟩
   ·rw[aW,dL,cj];lia
   ·obtain z |z:=bv.mp hx
    ·exact ok x (jP z)
    ·rw[bw.mp z];exact .sign `s λy hy=>ok y (jX hy)
   ·rw[xE,bo,bo,Pl.nt,if_pos `d];lia
   ·rw[zg,br,br,Pl.wt,aW,dL,cj,xE,bo,bo,Pl.nt,if_pos `d];lia
  ·rename_i hle
   try ext
   simp only[nT fw,qI];refine⟨bc _,λa ha=>⟨nL `d,nL `d,?_⟩⟩;rw[nT (keep hst ha)];refine⟨nL `l,?_⟩;cases hp with
   |nil=>
    exact⟨_, .refl,h (vP w5) _ _ (sub.trans (.bz .refl ha)) (.nd nJ .nil) (.sign `s λ_ z=>nomatch z) (by simp [vP,Pl.wt,br];lia) (by simp [vP,Pl.nt,bo])⟩
   | @cons p v ps vs h1 h2=>
    rw[bY,zG];have e0:ps=[]:=by
     cases ps with
     |nil=>rfl
     |cons q qs=>
      have:=h2.len;simp only[aS]at this hle;lia
    subst e0;simp only[br,bo,aS,dA]at p1 p2;exact⟨_, .refl,h p v _ (sub.trans (.bz .refl ha)) (h1.sub (.bz .refl ha)) (ok p aM) `l `l⟩
section
variable {r:Nat}{S:gY}{Q:WK}{E:ah→gY→Prop}{a:aj}{B:List Tn}
def R_ (hx:x.length≤1000) (h:Q (.bl (AQ x)) S):xg (r+2) [.str x] S Q E:=by
 have hxl:=zf x;rw[xg];ext;unfold AQ at h;rw[←hxl]at h;cases e1:decide (1≤x.length) with
 |false=>
  rw[e1]at h;have:¬1≤x.length:=by simpa using e1
  have e1':decide ((1:Int)≤(x.length:Int))=false:=by simp;lia
  rw[e1'];ext;exact⟨nL `l,_, .refl,h⟩
 |true=>
  rw[e1]at h;have h1:1≤x.length:=by simpa using e1
  have e1':decide ((1:Int)≤(x.length:Int))=true:=by simp;lia
  rw[e1'];refine⟨nL `l,?_⟩;ext;cases e2:decide (x.length≤8) with
  |false=>
   rw[e2]at h;have:¬x.length≤8:=by simpa using e2
   have e2':decide ((x.length:Int)≤8)=false:=by simp;lia
   rw[e2'];exact⟨_, .refl,h⟩
  |true=>
   rw[e2]at h;have h2:x.length≤8:=by simpa using e2
   have e2':decide ((x.length:Int)≤8)=true:=by simp;lia
   rw[e2'];ext;exact FE `l ⟨_, .refl,h⟩
noncomputable def pI:Option Tn→W
 |some t=>nN t
 |none=> .bR
def Os (B:List Tn) (s:ah):B.findSome? (λt=>if t.1 == s then aa (nN t) else none)=(n_ B s).map nN:=by
 unfold n_
 induction B with
 |nil=>rfl
 |cons t B ih=>
  rw[fO,cr];cases e:t.1 == s with
  |true=>rfl
  |false=>simpa using ih
def Ad (ha:S a=aa (.bx (B.map nN))) (h:Q (pI (n_ B s)) S):uY (r+1) [.ref a, .str s] S Q E:=by
 rw[uY];ext;rw[nT ha];refine we (S:=S) ?_ (λσ=>∃x,σ=[aa (.ref a),aa (.str s),x]) nN (λt=>if t.1 == s then aa (nN t) else none) B _ ⟨_,rfl⟩ (λt ht σ N hI hno hret=>?_) (λe σ hI=>?_) λw e S' sb=>?_
 ·exact ha
 ·obtain⟨x,rfl⟩:=hI;simp only[Jk];have ee:nN t= .bH [.str t.1,gS t.2.1,gS t.2.2]:=rfl;rw[ee];ext;cases e:t.1 == s with
  |true=>
   rw[e]at hret;exact hret _ rfl _ .refl
  |false=>
   rw[e]at hno;exact hno rfl _ _ ⟨_,rfl⟩ .refl
 ·obtain⟨x,rfl⟩:=hI;ext;rw[Os]at e;have:n_ B s=none:=by
   cases q:n_ B s with
   |none=>rfl
   |some t=>rw[q]at e;cases e
  rw[this]at h;exact⟨_, .refl,h⟩
 ·rw[Os]at e;cases q:n_ B s with
  |none=>rw[q]at e;cases e
  |some t=>
   rw[q]at e h;cases e;exact⟨_,sb,h⟩
def Wx (ha:S a=aa (.bx (B.map nN))) (hs:s.length≤1000) (hL:∀t∈B,t.2.1.depth≤10∧t.2.1.au≤100) (hr:20≤r) (h:Q (.bl (si B s ts.length)) S):BR (r+1) [.ref a,gS (.nd s ts)] S Q E:=by
 obtain⟨r,rfl⟩:∃r',r=r'+2:=⟨r - 2,`l⟩
 rw[BR];simp only[gS];ext;refine Ad ha ?_;unfold si at h;cases e:n_ B s with
 |none=>
  rw[e]at h;simp only[pI];ext;exact R_ hs ⟨_, .refl,h⟩
 |some t=>
  rw[e]at h;have ht:t∈B:=cZ e;have ee:pI (aa t)= .bH [.str t.1,gS t.2.1,gS t.2.2]:=rfl;rw[ee];ext;rw[show ow [W.str t.1,gS t.2.1,gS t.2.2] 1=aa (gS t.2.1) from rfl];dsimp only;obtain⟨h1,h2⟩:=hL t ht;refine EQ `l `l λb hb=>?_;ext;rw[aD,Lz,p9];have e2:((((ts.length+1:Nat):Int) - 1 == (t.2.1.nb:Int)))=(ts.length == t.2.1.nb):=by
   rw[dc,beq_iff_eq,beq_iff_eq];lia
  rw[e2];exact⟨_, .bz .refl hb,h⟩
def SO (B:List Tn) (ts:List Tr):uJ (ts.map λt=>W.bl (t.way B))=aa (ts.map (Tr.way B)):=by
 have:=z9 (ts.map (Tr.way B));rw[bB]at this;exact this
theorem LP (ha:S a=aa (.bx (B.map nN))) (hL:∀t∈B,t.2.1.depth≤10∧t.2.1.au≤100):∀(d:Nat) {t:Tr}{r:Nat}{Q:WK}{E:ah→gY→Prop},t.depth≤d→d+25≤r→t.hd (λs=>s.length≤1000)→t.au≤90000→Q (.bl (t.way B)) S→yu (r+1) [.ref a,gS t] S Q E
 |0,t,r,Q,E,hd,hr,hh,hw,h=>by have:=sj t;lia
 |d+1, .bl n,r,Q,E,hd,hr,hh,hw,h=>by simp [Tr.hd]at hh
 |d+1, .nd s ts,r,Q,E,hd,hr,hh,hw,h=>by
  simp only[Tr.depth]at hd;simp only[Tr.au]at hw;simp only[Tr.hd]at hh;have hk:=qJ ts;right
  rw[yu];have ee:gS (.nd s ts)= .bH (.str s::af ts):=by simp only[gS]
  ext;refine Wx ha hh.1 hL `l ?_;rw[Tr.way]at h;cases e:si B s ts.length with
  |false=>
   rw[e]at h;ext;exact⟨_, .refl,h⟩
  |true=>
   rw[e]at h;rw[ee];ext;rw[qr];refine qw (λσ=>∃x,σ=[x,aa (.ref a)]) gS (λt=> .bl (t.way B)) trivial ts [] _ ⟨none,rfl⟩ (by simp;lia) (λx hx σ R hI hR=>?_) ?_
   ·obtain⟨y,rfl⟩:=hI;have hdx:=so hx;have hwx:=qg hx;have:=sj x;simp only[Qe];ext;exact LP ha hL d (t:=x) (r:=r) `l `l (pi.mp hh.2 x hx) `l (hR _ _ ⟨_,rfl⟩ .refl)
   ·rw[aQ,SO];dsimp only;rw[BP]at h;rw[CM];exact⟨S, .refl,h⟩
end
def oq (f:Int):Int→Nat:=λb=>if b / f % 2=1 then 1 else 0
theorem nO.zip:∀{ps:List Pl}{vs:List W},nO S ps vs→ ∀x∈ps.zip vs,qG S x.1 x.2∧x.1∈ps
 |_,_, .nil,x,h=>by simp at h
 |_,_, .cons a b,x,h=>by
  rw[iS]at h;obtain rfl |h:=az.mp h
  ·exact⟨a,aM⟩
  ·have:=nO.zip b x h;exact⟨this.1,aI _ this.2⟩
def nO.snd (h:nO S ps vs):(ps.zip vs).map kB=vs:=List.map_snd_zip (by rw[h.len];exact aE _)
def nO.fst (h:nO S ps vs) {α:Type}(f:Pl→α):(ps.zip vs).map (λx=>f x.1)=ps.map f:=by
 have:(ps.zip vs).map Prod.fst=ps:=List.map_fst_zip (by rw[h.len];exact aE _)
 conv=>rhs;rw[←this,bB]
 rfl
theorem Jn (hf:f=1∨f=2∨f=4∨f=8) (ha:S a=aa (.bx (B.map nN))) (b:o7 ws hs B):∀(d:Nat) {p:Pl}{v:W}{r:Nat}{Q:WK}{E:ah→gY→Prop},p.dp≤d→d+8≤r→qG S p v→oE hs B p→p.wt≤1000→Q (gS (p.ev B (oq f))) S→zL (r+1) [v, .ref a, .int f] S Q E
 |0,p,v,r,Q,E,hd,hr,hp,ok,hw,h=>by have:=zyA p;lia
 |d+1, .nd k b' hh ps,v,r,Q,E,hd,hr,hp,ok,hw,h=>by
  cases hp with
  | @nd _ _ _ _ c vs hc hps=>
  simp only[Pl.dp]at hd;simp only[Pl.wt]at hw;have hlen:=CD ps;right
  rw[zL];ext;rw[nT hc];rw[←hps.snd];have okp:∀x∈ps,oE hs B x:=by
   cases ok with
   |sign _ h=>exact h
   |turn _ _ _ _ h=>exact h
  refine qw (λσ=>∃x,σ=[x,aa (.ref a),aa (.int f)]) kB (λx=>gS (x.1.ev B (oq f))) ?_ (ps.zip vs) [] _ ⟨none,rfl⟩ (by simp;lia) (λx hx σ R hI hR=>?_) ?_
  ·rw[hps.snd];exact hc
  ·obtain⟨y,rfl⟩:=hI;obtain⟨h1,h2⟩:=hps.zip x hx;have:=D9 h2;have:=Pn h2;simp only[Mt];ext;exact Jn hf ha b d `l `l h1 (okp _ h2) `l (hR _ _ ⟨_,rfl⟩ .refl)
  ·rw[aQ,hps.fst λp=>gS (p.ev B (oq f))];intro q hq;have eu:(ps.map λp=>gS (p.ev B (oq f)))=af (ps.map (Pl.ev B (oq f))):=by rw[qr,bB];rfl
   rw[eu];have fq:bz S q (Ob.bx (af (ps.map (Pl.ev B (oq f))))) q=aa (.bx (af (ps.map (Pl.ev B (oq f))))):=nJ;have fa:=keep (x:=Ob.bx (af (ps.map (Pl.ev B (oq f))))) ha hq;have sub:Sub S (bz S q (Ob.bx (af (ps.map (Pl.ev B (oq f)))))):= .bz .refl hq;generalize bz S q (Ob.bx (af (ps.map (Pl.ev B (oq f)))))=S1 at fq fa sub⊢
   try ext
   cases ok with
   |sign hs' _=>
    rw[if_pos `d]
    try rw[nT fq]
    rw[rF]at h;rw[p9,aD];simp only[gS]at h;exact⟨nL `d,nL `l,_,sub,h⟩
   | @turn k _ _ _ t e hl b0 b1 _=>
    have ek:ow (B.map nN) (k:Int)=aa (.bH [.str t.1,gS t.2.1,gS t.2.2]):=by
     rw[sW,bK,e];rfl
    have hdiv:sF b' f:=by rcases hf with rfl |rfl |rfl |rfl<;>exact⟨`d,`d⟩
    have ht:t∈B:=bX e;rw[qY e]at h;rw[if_neg `l];refine⟨hdiv,`d,?_⟩
    simp only[nT fa,ek];by_cases e1:b' / f % 2=1
    ·rw[e1];have:oq f b'=1:=by unfold oq;rw[if_pos e1]
     rw[this]at h;simp only[sN,gS]at h
     try ext
     try rw[nT fq]
     rw[p9,aD];exact⟨nL `d,nL `l,_,sub,h⟩
    ·have e2:(b' / f % 2 == 1)=false:=by simpa using e1
     rw[e2];have:oq f b'=0:=by unfold oq;rw[if_neg e1]
     rw[this]at h;simp only[sN]at h;ext;rw[show ow [W.str t.1,gS t.2.1,gS t.2.2] 1=aa (gS t.2.1) from rfl];dsimp only;have hLd:=(b.lf t ht).dp;have hLw:=(b.lf t ht).wt;have hLn:=(b.lf t ht).nb;exact F2 4 hLd `l fq (by rw[aD,hl];exact(b.lf t ht).a_) `l ⟨_,sub,h⟩
def pL (n:Int) (t:Tn):Tr:=if n=1 then t.2.1 else t.2.2
structure um (g:Tn→Tr) (B:List Tn):Prop where
  a_:∀t∈B,(g t).a_ t.2.1.nb
  dp:∀t∈B,(g t).depth≤4
  wt:∀t∈B,(g t).au≤10
mutual
def Tr.ar (B:List Tn):Tr→Prop
 | .bl _=>False
 | .nd s ts=>(∀t,n_ B s=aa t→ts.length=t.2.1.nb)∧tp B ts
def tp (B:List Tn):List Tr→Prop
 | []=>True
 |t::ts=>t.ar B∧tp B ts
end
theorem rP:∀{ts:List Tr},tp B ts↔ ∀t∈ts,t.ar B
 | []=>by simp [tp]
 |t::ts=>by simp [tp,rP (ts:=ts)]
mutual
theorem LL:∀t:Tr,t.way B=true→t.ar B
 | .bl n,h=>by simp [Tr.way]at h
 | .nd s ts,h=>by
  simp only[Tr.way,bV]at h;simp only[Tr.ar];refine⟨λt ht=>?_,Js ts h.2⟩;have:=h.1;rw[si,ht]at this;simpa using this
theorem Js:∀ts:List Tr,ways B ts=true→tp B ts
 | [],h=>by simp [tp]
 |t::ts,h=>by
  simp only[ways,bV]at h;simp only[tp];exact⟨LL t h.1,Js ts h.2⟩
end
section
variable {n:Int}
def HM (t:Tn) (h:n=1∨n=2):ow [W.str t.1,gS t.2.1,gS t.2.2] n=aa (gS (pL n t)):=by
 rcases h with rfl |rfl<;>rfl
def yW{t:Tr}(h1:t.au≤400) (h2:t.depth≤40):t.aF=true:=by
 unfold Tr.aF;rw[decide_eq_true h1,decide_eq_true h2];rfl
end
def Cr (r:Nat):WS:=(kj (jj (ox (pT 2 [0] (t_ (eQ 5) (eQ 6)) (qx (oU (wGN 0) (oU (wGN 1) qh))) pP (FU r (uI r)))) (wGN 7))
  (kj (og (oo (wOp (p6 false) (eQ 4) (wC .bR))) (nM (wOp oX (nS {wOp nC (eQ 1) 0.0}) (wB sM {eQ 7}))) oh)
  (nM (nF (v8 r) {wOp nC (eQ 4) 2.0,eQ 7}))))
def u0 (r:Nat) (T:WS):WS:=(kj (og (sx (oo (wOp (p6 false) (eQ 3) (wC .bR))) (oo (wOp (p6 true) (eQ 4) (wC .bR)))) (jj (nF (vq r) {wOp nC (eQ 4) 1.0,eQ 1}) (wGN 5)) oh)
  (kj (og (sx (oo (wOp (p6 true) (eQ 3) (wC .bR))) (oo (wOp (p6 false) (eQ 4) (wC .bR)))) (jj (nF (vq r) {wOp nC (eQ 3) 1.0,eQ 2}) (wGN 6)) oh)
  T))
theorem Q0:uI (r+1)=on 8 3 (kj (jj (nF (uY r) {eQ 0,wOp nC (eQ 1) 0.0}) (wGN 3))
  (kj (jj (nF (uY r) {eQ 0,wOp nC (eQ 2) 0.0}) (wGN 4))
  (kj (jj (pD (eQ 1) (woS 1.0) py) (wGN 5))
  (kj (jj (pD (eQ 2) (woS 1.0) py) (wGN 6))
  (u0 r (Cr r)))))):=rfl
mutual
theorem Bc{P:ah→Prop}:∀(l t:Tr) (ys:List Tr),l.mt t=aa ys→t.hd P→hds P ys∧nI ys≤t.au
 | .bl _,t,ys,h,q=>by
  simp only[Tr.mt,bS]at h;subst h;simp only[hds,nI];exact⟨⟨q,trivial⟩,`l⟩
 | .nd s ls, .nd z us,ys,h,q=>by
  simp only[Tr.mt]at h;simp only[Tr.hd]at q;split at h
  ·have:=Kk ls us ys h q.2;simp only[Tr.au];exact⟨this.1,`l⟩
  ·cases h
 | .nd _ _, .bl _,ys,h,q=>by simp [Tr.mt]at h
theorem Kk{P:ah→Prop}:∀(ls us ys:List Tr),oP ls us=aa ys→hds P us→hds P ys∧nI ys≤nI us
 | [],us,ys,h,q=>by simp only[oP,bS]at h;subst h;simp [hds,nI]
 |l::ls,[],ys,h,q=>by simp only[oP,bS]at h;subst h;simp [hds,nI]
 |l::ls,u::us,ys,h,q=>by
  simp only[oP]at h;simp only[hds]at q;split at h
  ·cases h
  ·rename_i xs ex;split at h
   ·cases h
   ·rename_i zs ez;simp only[bS]at h;subst h;have h1:=Bc l u xs ex q.1;have h2:=Kk ls us zs ez q.2;rw[xh,nI];exact⟨Oy h1.1 h2.1,`l⟩
end
mutual
theorem wg{P:ah→Prop}:∀t:Tr,t.hd P→t.a_ m
 | .bl n,h=>by simp [Tr.hd]at h
 | .nd s ts,h=>by
  simp only[Tr.hd]at h;simp only[Tr.a_];exact Iw ts h.2
theorem Iw{P:ah→Prop}:∀ts:List Tr,hds P ts→nX m ts
 | [],h=>by simp [nX]
 |t::ts,h=>by
  simp only[hds]at h;simp only[nX];exact⟨wg t h.1,Iw ts h.2⟩
end
def pC.triples:∀{as bs cs:List Tr},pC B n as bs cs→ ∃zs:List (Tr×Tr×Tr),as=zs.map (λz=>z.1)∧bs=zs.map (λz=>z.2.1)∧cs=zs.map (λz=>z.2.2)∧ ∀z∈zs,Mv B n z.1 z.2.1 z.2.2:=by
 intro as
 induction as with
 |nil=>intro bs cs h;cases h;exact⟨[],rfl,rfl,rfl,λ_ h=>nomatch h⟩
 |cons a as ih=>
  intro bs cs h;cases h with
  | @cons _ _ b c _ _ _ h1 h2=>
  obtain⟨zs,e1,e2,e3,h⟩:=ih h2;exact⟨(a,b,c)::zs,by rw[e1];rfl,by rw[e2];rfl,by rw[e3];rfl,λz hz=>(az.mp hz).elim (λe=>by rw[e];exact h1) (h z)⟩
theorem Np:∀zs:List (Tr×Tr×Tr),nP (af (zs.map λz=>z.1)) (af (zs.map λz=>z.2.1))=zs.map λz=>W.bH [gS z.1,gS z.2.1]
 | []=>by simp [af,nP]
 |z::zs=>by simp [af,nP,Np zs]
noncomputable def GO (f:Option Tn) (s:ah) (cs:List Tr):Tr:=match f with
 |none=> .nd s cs
 |some t=>t.2.2.aB cs
def A2 (S:gY) (v:W) (ws:List W):Prop:=v= .bH ws∨ ∃q,v= .ref q∧S q=aa (.bx ws)
def JV{Q:List W→(gY→Prop)→Prop}(h:A2 S v ws) (hq:∀G:gY→Prop,G S→(∀S',Sub S S'→G S')→Q ws G):vE v S Q:=by
 obtain rfl |⟨q,rfl,e⟩:=h
 ·rw[K_];exact hq _ trivial λ_ _=>trivial
 ·rw[EM,nT e];exact hq _ e λS' sb=>sb _ _ e
def VB (hx:x= .nd s ts) (ha:S a=aa (.bx (B.map nN))) (h1:A2 S va (af as)) (h2:A2 S vb (af bs)) (M:pC B n as bs cs) (hl:as.length≤1000)
  (hR:∀t,f=aa t→t.2.2.depth≤4∧t.2.2.au≤100∧t.2.2.a_ cs.length) (hr:5≤r)
  (one:∀{a' b' c':Tr}{Q:WK}{E:ah→gY→Prop},a'∈as→b'∈bs→Mv B n a' b' c'→Q (gS c') S→uI r [.ref a,gS a',gS b'] S Q E) 
  (hQ:∀S',Sub S S'→D.rt (gS (GO f s cs)) S') :
  Cr r E D [aa (.ref a),aa (gS x),aa (gS y),aa vf,aa (pI f),aa va,aa vb,x7] S:=by
 obtain⟨zs,rfl,rfl,rfl,hz⟩:=M.triples;unfold Cr;ext;refine JV h1 λG1 g1 k1=>JV h2 λG2 g2 k2=>?_;rw[Np];rw[aD]at hl;refine qw (λσ=>∃x y,σ=[x,y,aa (.ref a)]) (λz=>W.bH [gS z.1,gS z.2.1]) (λz=>gS z.2.2) ?_ zs [] _ ⟨none,none,rfl⟩ (by simp;lia) (λz hz' σ R hI hR=>?_) ?_
 ·exact⟨g1,g2⟩
 ·obtain⟨u,v,rfl⟩:=hI;simp only[FU];ext;refine one (a':=z.1) (b':=z.2.1) (c':=z.2.2) (bp.mpr ⟨z,hz',rfl⟩) (bp.mpr ⟨z,hz',rfl⟩) (hz z hz') ?_;exact hR _ _ ⟨_,_,rfl⟩ .refl
 ·rw[aQ];intro q hq;have eu:(zs.map λz=>gS z.2.2)=af (zs.map λz=>z.2.2):=by rw[qr,bB];rfl
  rw[eu];have fq:bz S q (Ob.bx (af (zs.map λz=>z.2.2))) q=aa (.bx (af (zs.map λz=>z.2.2))):=nJ;have sub:Sub S (bz S q (Ob.bx (af (zs.map λz=>z.2.2)))):= .bz .refl hq;generalize bz S q (Ob.bx (af (zs.map λz=>z.2.2)))=S1 at fq sub⊢;right
  cases f with
  |none=>
   subst hx;simp only[pI,gS,GO]at hQ⊢
   try ext
   try rw[nT fq]
   rw[p9,aD];exact⟨nL `d,nL `l,hQ _ sub⟩
  |some t=>
   have ee:pI (aa t)= .bH [.str t.1,gS t.2.1,gS t.2.2]:=rfl;rw[ee]
   try ext
   rw[show ow [W.str t.1,gS t.2.1,gS t.2.2] 2=aa (gS t.2.2) from rfl];dsimp only;obtain⟨g1,g2,g3⟩:=hR t rfl;exact Fo 4 g1 `l fq (by rw[aD];rw[aD]at g3;exact g3) `l (hQ _ sub)
theorem Mv.nd:Mv B n x y z→ ∃s ts z' us,x= .nd s ts∧y= .nd z' us
 | .nn _ _ _=>⟨_,_,_,_,rfl,rfl⟩
 | .ns _ _ _ _ _=>⟨_,_,_,_,rfl,rfl⟩
 | .sn _ _ _ _=>⟨_,_,_,_,rfl,rfl⟩
 | .ss _ _ _ _=>⟨_,_,_,_,rfl,rfl⟩
def Uw (h:T E D [x0,x1,x2,aa (pI none),aa (pI none),x5,x6,x7] S):u0 r T E D [x0,x1,x2,aa (pI none),aa (pI none),x5,x6,x7] S:=by
 rw[show pI none=W.bR from rfl]at h⊢;unfold u0;ext;exact h
def Wj (h:T E D [x0,x1,x2,aa (pI (aa t')),aa (pI (aa t)),x5,x6,x7] S):u0 r T E D [x0,x1,x2,aa (pI (aa t')),aa (pI (aa t)),x5,x6,x7] S:=by
 have ee:∀t:Tn,pI (aa t)= .bH [.str t.1,gS t.2.1,gS t.2.2]:=λ_=>rfl;rw[ee,ee]at h⊢;unfold u0;ext;exact h
def UV (e:t.2.1.mt x=aa ms) (hr:t.2.1.depth<r) (ft:x.a_ 0) (hw:t.2.1.au≤90000) (h:∀q,S q=none→T E D [x0,aa (gS x),x2,aa (pI none),aa (pI (aa t)),aa (.ref q),x6,x7] (bz S q (.bx (af ms)))):u0 (r+1) T E D [x0,aa (gS x),x2,aa (pI none),aa (pI (aa t)),x5,x6,x7] S:=by
 have ee:∀t:Tn,pI (aa t)= .bH [.str t.1,gS t.2.1,gS t.2.2]:=λ_=>rfl;have a1:∀t:Tn,ow [W.str t.1,gS t.2.1,gS t.2.2] 1=aa (gS t.2.1):=λ_=>rfl;rw[ee,show pI none=W.bR from rfl]at *;unfold u0;ext;rw[a1];dsimp only;refine BL hr ft hw (λys hys q hq=>?_) λh0=>by rw[e]at h0;cases h0
 rw[e]at hys;cases hys
 try ext
 exact h q hq
def Tp (e:t.2.1.mt y=aa ms) (hr:t.2.1.depth<r) (ft:y.a_ 0) (hw:t.2.1.au≤90000) (h:∀q,S q=none→T E D [x0,x1,aa (gS y),aa (pI (aa t)),aa (pI none),x5,aa (.ref q),x7] (bz S q (.bx (af ms)))):u0 (r+1) T E D [x0,x1,aa (gS y),aa (pI (aa t)),aa (pI none),x5,x6,x7] S:=by
 have ee:∀t:Tn,pI (aa t)= .bH [.str t.1,gS t.2.1,gS t.2.2]:=λ_=>rfl;have a1:∀t:Tn,ow [W.str t.1,gS t.2.1,gS t.2.2] 1=aa (gS t.2.1):=λ_=>rfl;rw[ee,show pI none=W.bR from rfl]at *;unfold u0;ext;rw[a1];dsimp only;refine BL hr ft hw (λys hys q hq=>?_) λh0=>by rw[e]at h0;cases h0
 rw[e]at hys;cases hys
 try ext
 exact h q hq
theorem Lb (hB:∀t∈B,t.2.1.depth≤4∧t.2.1.au≤100∧t.2.2.depth≤4∧t.2.2.au≤100∧t.2.2.a_ t.2.1.nb):∀(n:Nat) {S:gY}{x y z:Tr}{r:Nat}{Q:WK}{E:ah→gY→Prop},S a=aa (.bx (B.map nN))→Mv B n x y z→n+12≤r→x.hd (λ_=>True)→y.hd (λ_=>True)→x.au≤1000→y.au≤1000→Q (gS z) S→uI (r+1) [.ref a,gS x,gS y] S Q E
 |0,S,x,y,z,r,Q,E,ha,M,hr,hx,hy,wx,wy,h=>by cases M
 |n+1,S,x,y,z,r,Q,E,ha,M,hr,hx,hy,wx,wy,h=>by
  right
  have one:∀{as bs:List Tr},hds (λ_=>True) as→hds (λ_=>True) bs→nI as≤1000→nI bs≤1000→ ∀(S1:gY),Sub S S1→ ∀{a' b' c':Tr}{Q:WK}{E:ah→gY→Prop},a'∈as→b'∈bs→Mv B n a' b' c'→Q (gS c') S1→uI (r+1) [.ref a,gS a',gS b'] S1 Q E:=λ{as bs} h1 h2 h3 h4 S1 sb {a' b' c' Q E} m1 m2 M q=>
   Lb hB n (sb _ _ ha) M `l (pi.mp h1 _ m1) (pi.mp h2 _ m2) (by have:=qg m1;lia) (by have:=qg m2;lia) q
  have start:∀{s z:ah}{ts us:List Tr}{E':WX}{D:nQ}{S1:gY}{va vb vf:W}{f:Option Tn}{as bs cs:List Tr},S1 a=aa (.bx (B.map nN))→Sub S S1→A2 S1 va (af as)→A2 S1 vb (af bs)→pC B n as bs cs→hds (λ_=>True) as→hds (λ_=>True) bs→nI as≤1000→nI bs≤1000→(∀t,f=aa t→t∈B∧cs.length=t.2.1.nb)→(∀S',Sub S S'→D.rt (gS (GO f s cs)) S')→
    Cr (r+1) E' D [aa (.ref a),aa (W.bH (W.str s::af ts)),aa (W.bH (W.str z::af us)),aa vf,aa (pI f),aa va,aa vb,none] S1:=λ{s z ts us E' D S1 va vb vf f as bs cs} d5 sb q1 q2 M h1 h2 h3 h4 hf hQ=>by
   have hl:=qJ as;have:=VB (x:= .nd s ts) (y:= .nd z us) (vf:=vf) (f:=f) (x7:=none) (E:=E') (D:=D) rfl d5 q1 q2 M `l (λt ht=>by
    obtain⟨m,e⟩:=hf t ht;obtain⟨g1,g2,g3,g4,g5⟩:=hB t m;exact⟨g3,g4,by rw[e];exact g5⟩) `l (one h1 h2 h3 h4 S1 sb) λS' sb'=>hQ S' (sb.trans sb')
   simpa only[gS]using this
  obtain⟨s,ts,z',us,rfl,rfl⟩:=M.nd;have ex:gS (.nd s ts)= .bH (.str s::af ts):=by simp only[gS]
  have ey:gS (.nd z' us)= .bH (.str z'::af us):=by simp only[gS]
  have hx':=hx;have hy':=hy;have wx':=wx;have wy':=wy;simp only[Tr.hd]at hx' hy';simp only[Tr.au]at wx' wy';rw[Q0,ex,ey];ext;refine Ad ha (Ad ha ?_);cases M with
  | @nn _ _ _ _ _ cs e1 e2 M=>
   rw[e1,e2];exact Uw (start (f:=none) ha .refl (.inl rfl) (.inl rfl) M hx'.2 hy'.2 `l `l (λ_ h=>nomatch h) λS' sb=>⟨_,sb,h⟩)
  | @ns _ _ _ _ _ cs ms t e1 e2 e3 e4 M=>
   have ht:t∈B:=cZ e2;have hm:=Bc t.2.1 _ _ e3 hx;have ft:=wg (m:=0) _ hx;obtain⟨g1,g2,g3,g4,g5⟩:=hB t ht;rw[e1,e2,←ex];refine UV e3 `l ft `l λq hq=>?_;rw[ex];exact start (f:=aa t) (keep ha hq) (.bz .refl hq) (.inr ⟨q,rfl,nJ⟩) (.inl rfl) M hm.1 hy'.2 `l `l (λ_ h=>by cases h;exact⟨ht,e4⟩) λS' sb=>⟨_,sb,h⟩
  | @sn _ _ _ _ _ cs ms t e1 e2 e3 M=>
   have ht:t∈B:=cZ e1;have hm:=Bc t.2.1 _ _ e3 hy;have ft:=wg (m:=0) _ hy;obtain⟨g1,g2,g3,g4,g5⟩:=hB t ht;rw[e1,e2,←ey];refine Tp e3 `l ft `l λq hq=>?_;rw[ey];exact start (f:=none) (keep ha hq) (.bz .refl hq) (.inl rfl) (.inr ⟨q,rfl,nJ⟩) M hx'.2 hm.1 `l `l (λ_ h=>nomatch h) λS' sb=>⟨_,sb,h⟩
  | @ss _ _ _ _ _ cs t t' e1 e2 e3 M=>
   have ht:t∈B:=cZ e2;rw[e1,e2];exact Wj (start (f:=aa t) ha .refl (.inl rfl) (.inl rfl) M hx'.2 hy'.2 `l `l (λ_ h=>by cases h;exact⟨ht,e3⟩) λS' sb=>⟨_,sb,h⟩)
def VO:pL 1=λt=>t.2.1:=by funext t;exact if_pos rfl
def Gh:pL 2=λt=>t.2.2:=by funext t;exact if_neg `d
section
variable {ws hs:List ah}{B:List Tn}
def o7.s1 (b:o7 ws hs B):um (pL 1) B:=by
 rw[VO];refine⟨λt ht=>(b.lf t ht).a_,λt ht=>(b.lf t ht).dp,λt ht=>?_⟩;have h1:=(b.lf t ht).wt;have h2:=(b.lf t ht).nb;show t.2.1.au≤10;lia
def o7.s2 (b:o7 ws hs B):um (pL 2) B:=by
 rw[Gh];refine⟨λt ht=>(b.ri t ht).a_,λt ht=>?_,λt ht=>?_⟩
 ·have:=(b.ri t ht).dp;show t.2.2.depth≤4;lia
 ·have:=(b.ri t ht).wt;show t.2.2.au≤10;lia
mutual
theorem Yn:∀(L t:Tr) (ys:List Tr),L.mt t=aa ys→ ∀y∈ys,y.depth≤t.depth
 | .bl n,t,ys,e,y,hy=>by
  rw[Tr.mt]at e;cases e;rw[bw]at hy;rw[hy];exact aE _
 | .nd s ls, .bl n,ys,e,y,hy=>by rw[Tr.mt]at e;cases e
 | .nd s ls, .nd z us,ys,e,y,hy=>by
  rw[Tr.mt]at e;split at e
  ·have:=Dx ls us ys e y hy;rw[Tr.depth];lia
  ·cases e
theorem Dx:∀(ls us ys:List Tr),oP ls us=aa ys→ ∀y∈ys,y.depth≤oy us
 | [],us,ys,e,y,hy=>by rw[oP]at e;cases e;cases hy
 |l::ls,[],ys,e,y,hy=>by rw[oP]at e;cases e;cases hy
 |l::ls,u::us,ys,e,y,hy=>by
  rw[oP]at e;cases q1:l.mt u with
  |none=>rw[q1]at e;cases e
  |some xs=>
   rw[q1]at e;cases q2:oP ls us with
   |none=>rw[q2]at e;cases e
   |some zs=>
    rw[q2]at e;cases e;rw[oy];obtain hy |hy:=bv.mp hy
    ·have:=Yn l u xs q1 y hy;lia
    ·have:=Dx ls us zs q2 y hy;lia
end
def SC (c d:Int→Nat):Prop:=∀x:Int,0≤x→x<8→(c x≤1∧d x≤1)∨(c x=2∧d x=2)
end
def uK (f x:Int):oq f x≤1:=by unfold oq;split<;>lia
def P8 (B:List Tn) (s:ah) (g:Tn→W):B.findSome? (λt=>if t.1 == s then aa (g t) else none)=(n_ B s).map g:=by
 unfold n_
 induction B with
 |nil=>rfl
 |cons t B ih=>
  rw[fO,cr];cases e:t.1 == s with
  |true=>rfl
  |false=>simpa using ih
theorem B1 (hnd:(B.map λt=>t.1).Nodup) (ha:S a=aa (.bx (B.map nN))) (hn:n=1∨n=2) (hg:um (pL n) B):∀(d:Nat) {t:Tr}{r:Nat}{Q:WK}{E:ah→gY→Prop},t.depth≤d→d+10≤r→t.ar B→t.au≤1000→Q (gS (t.mk B (pL n))) S→uN (r+1) [.ref a,gS t, .int n] S Q E
 |0,t,r,Q,E,hd,hr,hh,hw,h=>by have:=sj t;lia
 |d+1, .bl k,r,Q,E,hd,hr,hh,hw,h=>by simp [Tr.ar]at hh
 |d+1, .nd s ts,r,Q,E,hd,hr,hh,hw,h=>by
  simp only[Tr.depth]at hd;simp only[Tr.au]at hw;simp only[Tr.ar]at hh;have hk:=qJ ts;right
  rw[uN];simp only[gS];left;rw[qr];refine qw (λσ=>∃x,σ=[x,aa (.ref a),aa (.int n)]) gS (λt=>gS (t.mk B (pL n))) trivial ts [] _ ⟨none,rfl⟩ (by simp;lia) (λx hx σ R hI hR=>?_) ?_
  ·obtain⟨y,rfl⟩:=hI;have hdx:=so hx;have hwx:=qg hx;simp only[Ny];left;exact B1 hnd ha hn hg d `l `l (rP.mp hh.2 x hx) `l (hR _ _ ⟨_,rfl⟩ .refl)
  ·rw[aQ];intro q hq;have eu:(ts.map λt=>gS (t.mk B (pL n)))=af (ts.map (Tr.mk B (pL n))):=by rw[qr,bB];rfl
   rw[eu,←qr];have fq:bz S q (Ob.bx (af (ts.map (Tr.mk B (pL n))))) q=aa (.bx (af (ts.map (Tr.mk B (pL n))))):=nJ;have fa:=keep (x:=Ob.bx (af (ts.map (Tr.mk B (pL n))))) ha hq;have sub:Sub S (bz S q (Ob.bx (af (ts.map (Tr.mk B (pL n)))))):= .bz .refl hq;generalize bz S q (Ob.bx (af (ts.map (Tr.mk B (pL n)))))=S1 at fq fa sub⊢
   try left
   rw[nT fa];refine we (S:=S1) ?_ (λσ=>∃x,σ=[aa (.ref a),aa (.bH (.str s::af ts)),aa (.int n),aa (.ref q),x]) nN (λt=>if t.1 == s then aa (gS ((pL n t).aB (ts.map (Tr.mk B (pL n))))) else none) B _ ⟨_,rfl⟩ (λt ht σ N hI hno hret=>?_) (λe σ hI=>?_) λw e S' sb=>?_
   ·exact fa
   ·obtain⟨x,rfl⟩:=hI;simp only[JN];have ee:nN t= .bH [.str t.1,gS t.2.1,gS t.2.2]:=rfl;rw[ee];left;cases e:t.1 == s with
    |true=>
     rw[e]at hret
     try left
     rw[HM t hn];dsimp only;have et:t.1=s:=by simpa using e
     have hgw:=hg.wt t ht;refine F2 4 (hg.dp t ht) `l fq ?_ `l (hret _ rfl _ .refl);rw[aD,hh.1 t (by rw[←et];exact vI hnd ht)];exact hg.a_ t ht
    |false=>
     rw[e]at hno;exact hno rfl _ _ ⟨_,rfl⟩ .refl
   ·obtain⟨x,rfl⟩:=hI;rw[P8]at e;have e0:n_ B s=none:=by
     cases z:n_ B s with
     |none=>rfl
     |some t=>rw[z]at e;cases e
    rw[DZ e0]at h
    try left
    rw[I0]
    try rw[nT fq]
    try left
    simp only[gS]at h;refine⟨nL ?_,_,sub,h⟩;rw[p9,aD];lia
   ·rw[P8]at e;cases z:n_ B s with
    |none=>rw[z]at e;cases e
    |some t=>
     rw[z]at e;rw[Dq z]at h;cases e;exact⟨_,sub.trans sb,h⟩
noncomputable def uR (B:List Tn) (s:ah) (n:Nat):List (List Int):=match n_ B s with
 |none=>(bt n).map λ(i:Nat)=>[(i:Int)]
 |some t=>t.2.1.bls.map λx=>x.1
mutual
noncomputable def Tr.us (B:List Tn) (p:List Int):Tr→List (List Int×ah)
 | .bl _=>[]
 | .nd s ts=>(match n_ B s with
  |none=>[]
  |some _=>[(p,s)])++IY B p (uR B s ts.length) ts
noncomputable def IY (B:List Tn) (p:List Int):List (List Int)→List Tr→List (List Int×ah)
 |q::qs,t::ts=>t.us B (p++q)++IY B p qs ts
 |_,_=>[]
end
noncomputable def ppl (B:List Tn) (k:Int) (n:Nat):List (List Int):=if k<0 then(bt n).map λ(i:Nat)=>[(i:Int)] else(B.getD k.toNat (⟨#[]⟩, .bl 0, .bl 0)).2.1.bls.map λx=>x.1
mutual
noncomputable def Pl.ns (B:List Tn) (p:List Int):Pl→List (List Int×Int×ah)
 | .nd k b h ps=>(if k<0 then [] else [(p,b,(B.getD k.toNat (⟨#[]⟩, .bl 0, .bl 0)).1)])++LD B p (ppl B k ps.length) ps
noncomputable def LD (B:List Tn) (p:List Int):List (List Int)→List Pl→List (List Int×Int×ah)
 |q::qs,t::ts=>t.ns B (p++q)++LD B p qs ts
 |_,_=>[]
end
noncomputable def MR (c:Int→Nat) (xs:List (List Int×Int×ah)):List (List Int×ah):=(xs.filter λx=>c x.2.1 == 1).map λx=>(x.1,x.2.2)
noncomputable def r9 (B:List Tn) (t:Tr):Option Tn:=B.find? λu=>(u.2.1.mt t).isSome
mutual
noncomputable def Tr.op (B:List Tn) (p:List Int):Tr→List (List Int×ah)
 | .bl _=>[]
 | .nd s ts=>(match r9 B (.nd s ts) with
  |none=>[]
  |some t=>[(p,t.1)])++tX B p 0 ts
noncomputable def tX (B:List Tn) (p:List Int) (i:Nat):List Tr→List (List Int×ah)
 | []=>[]
 |t::ts=>t.op B (p++[(i:Int)])++tX B p (i+1) ts
end
def wj (hL:L∈bu n h c d):∃ts,L= .nd h ts:=by
 unfold bu at hL;split at hL<;>simp only[az,aZ,or_false]at hL
 all_goals first
  | (subst hL;exact⟨_,rfl⟩)
  | (rcases hL with rfl |rfl<;>exact⟨_,rfl⟩)
def Gv (h:((Tr.nd s ls).mt (.nd z us)).isSome=true):s=z:=by
 simp only[Tr.mt]at h;split at h
 ·rename_i q;simp only[bV,beq_iff_eq]at q;exact q.1
 ·cases h
def ME (h1:((Tr.nd s (l::ls)).mt x).isSome=true) (h2:((Tr.nd t (m::ms)).mt x).isSome=true):∃u,(l.mt u).isSome=true∧(m.mt u).isSome=true:=by
 obtain k |⟨z,_ |⟨u,us⟩⟩:=x
 ·cases h1
 ·simp [Tr.mt]at h1
 ·refine⟨u,?_⟩;have key:∀{s:ah}{l:Tr}{ls:List Tr},((Tr.nd s (l::ls)).mt (.nd z (u::us))).isSome=true→(l.mt u).isSome=true:=λ{s l ls} h=>by
   unfold Tr.mt at h;split at h
   ·unfold oP at h;cases q:l.mt u with
    |none=>rw[q]at h;cases h
    |some xs=>rfl
   ·cases h
  exact⟨key h1,key h2⟩
def Dy (h1:((Tr.nd s []).mt x).isSome=true) (h2:((Tr.nd t (m::ms)).mt x).isSome=true):False:=by
 obtain k |⟨z,_ |⟨u,us⟩⟩:=x
 ·cases h1
 ·simp [Tr.mt]at h2
 ·simp [Tr.mt]at h1
def IR (hL:L∈bu n h c d) (hM:M∈bu n h c d) (h1:(L.mt x).isSome=true) (h2:(M.mt x).isSome=true):L=M:=by
  unfold bu at hL hM;split at hL<;>simp only[az,aZ,or_false]at hL hM
  all_goals first
    | (rw[hL,hM])
    | (rcases hL with rfl |rfl<;>rcases hM with rfl |rfl<;>first
        |rfl
        | (obtain⟨u,a,b⟩:=ME h1 h2
           first
           |cases Dy a b
           |cases Dy b a
           | (obtain⟨v,a,b⟩:=ME a b
              first
              |cases Dy a b
              |cases Dy b a)))
def nV.one (b:nV w0 w1 w2 w3 w4 w5 tt B) (G:p8 w0 w1 w2 w3 w4 w5) (hu:u∈B) (hv:v∈B) (h1:(u.2.1.mt x).isSome=true) (h2:(v.2.1.mt x).isSome=true):u.2.1=v.2.1:=by
 obtain⟨n,m,e⟩:=b.lf;have mu:u.2.1∈bu n w0 w2 w3++bu m w1 w2 w3:=by rw[←e];exact bp.mpr ⟨u,hu,rfl⟩
 have mv:v.2.1∈bu n w0 w2 w3++bu m w1 w2 w3:=by rw[←e];exact bp.mpr ⟨v,hv,rfl⟩
 have key:∀{L M:Tr},L∈bu n w0 w2 w3→M∈bu m w1 w2 w3→(L.mt x).isSome=true→(M.mt x).isSome=true→False:=λ{L M} hL hM k1 k2=>by
  obtain⟨ts,rfl⟩:=wj hL;obtain⟨us,rfl⟩:=wj hM;cases x with
  |bl k=>simp [Tr.mt]at k1
  |nd s vs=>exact G.n0 w1 `s ((Gv k1).trans (Gv k2).symm)
 rcases bv.mp mu with z |z<;>obtain y |y:=bv.mp mv
 ·exact IR z y h1 h2
 ·exact(key z y h1 h2).elim
 ·exact(key y z h2 h1).elim
 ·exact IR z y h1 h2
def Ku (n:Nat) (h c d:ah):(bu n h c d).Nodup:=by
 unfold bu;split<;>simp
def nV.inj (b:nV w0 w1 w2 w3 w4 w5 tt B) (G:p8 w0 w1 w2 w3 w4 w5):(B.map λt=>t.2.1).Nodup:=by
 obtain⟨n,m,e⟩:=b.lf;rw[e,ki];refine⟨Ku ..,Ku ..,λx hx y hy=>?_⟩;obtain⟨ts,rfl⟩:=wj hx;obtain⟨us,rfl⟩:=wj hy;intro z;cases z;exact G.n0 _ `s rfl
theorem Kd{α β:Type}{f:α→β}:∀{xs:List α}{x y:α},(xs.map f).Nodup→x∈xs→y∈xs→f x=f y→x=y
 |z::xs,x,y,h,hx,hy,e=>by
  rw[aG,eF]at h;obtain h1 |h1:=az.mp hx
  ·obtain h2 |h2:=az.mp hy
   ·rw[h1,h2]
   ·exact(h.1 (bp.mpr ⟨y,h2,by rw[←e,h1]⟩)).elim
  ·obtain h2 |h2:=az.mp hy
   ·exact(h.1 (bp.mpr ⟨x,h1,by rw[e,h2]⟩)).elim
   ·exact Kd h.2 h1 h2 e
mutual
inductive Wi (B:List Tn) (wn:List (List Int)):Nat→List Int→Tr→Tr→Prop
 |no {n:Nat}{p:List Int}{s:ah}{ts us:List Tr}:p∉wn→n_ B s=none→ui B wn n p ((bt ts.length).map λ(i:Nat)=>[(i:Int)]) ts us→Wi B wn (n+1) p (.nd s ts) (.nd s us)
 |yes {n:Nat}{p:List Int}{s:ah}{ts us ms:List Tr}{t:Tn}:p∈wn→r9 B (.nd s ts)=aa t→t.2.1.mt (.nd s ts)=aa ms→n_ B t.1=aa t→ui B wn n p (t.2.1.bls.map λx=>x.1) ms us→Wi B wn (n+1) p (.nd s ts) (.nd t.1 us)
inductive ui (B:List Tn) (wn:List (List Int)):Nat→List Int→List (List Int)→List Tr→List Tr→Prop
 |nil {n:Nat}{p:List Int}:ui B wn n p [] [] []
 |cons {n:Nat}{p q:List Int}{qs:List (List Int)}{t u:Tr}{ts us:List Tr}:Wi B wn n (p++q) t u→ui B wn n p qs ts us→ui B wn n p (q::qs) (t::ts) (u::us)
end
noncomputable def zwT (c:Int→Nat) (xs:List (List Int×Int×ah)):List (List Int):=(MR c xs).map λx=>x.1
def zus (qs:List (List Int)):Prop:=qs.Pairwise λa b=>¬a <+:b∧ ¬b <+:a
noncomputable def qt (x:List Int×ah):W:= .bH [nW x.1, .str x.2]
structure tz (B:List Tn):Prop where
  d:∀t∈B,t.2.1.depth≤4
  w:∀t∈B,t.2.1.au≤20
def X2{E:ah→gY→Prop}(L:tz B) (ha:S a=aa (.bx (B.map nN))) (hl:ts.length≤1000) (hr:20≤r) (h:∀q,S q=none→Q (.ref q) (bz S q (.bx ((uR B s ts.length).map nW)))):Bo (r+1) [.ref a,gS (.nd s ts)] S Q E:=by
 right
 rw[Bo];simp only[gS];ext;refine Ad ha ?_;unfold uR at h;cases e:n_ B s with
 |none=>
  rw[e]at h;simp only[pI]
  try ext
  rw[p9];have e1:(((ts.length+1:Nat):Int) - 1).toNat=ts.length:=by lia
  rw[e1];refine⟨⟨`l,`l⟩,?_⟩
  rw[Pv];refine qw (λσ=>∃x,σ=[x]) (λi:Nat=>W.int i) (λi=>nW [(i:Int)]) trivial (bt ts.length) [] _ ⟨none,rfl⟩ (by simp;lia) (λx hx σ R hI hR=>?_) ?_
  ·obtain⟨y,rfl⟩:=hI;simp only[LA];ext;exact⟨nL `d,hR _ _ ⟨_,rfl⟩ .refl⟩
  ·rw[aQ];intro q hq;have:=h q hq;simp only[bB]at this;exact⟨_, .refl,this⟩
 |some t=>
  rw[e]at h;have ht:t∈B:=cZ e;have ee:pI (aa t)= .bH [.str t.1,gS t.2.1,gS t.2.2]:=rfl;rw[ee]
  try ext
  rw[show ow [W.str t.1,gS t.2.1,gS t.2.2] 1=aa (gS t.2.1) from rfl];dsimp only;have h1:=L.d t ht;have h2:=L.w t ht;refine KO `l `l λq hq=>?_;have:=h q hq;simp only[bB]at this;exact⟨_, .refl,this⟩
def L' (B:List Tn) (x:Tr):B.findSome? (λt=>if(t.2.1.mt x).isSome then aa (nN t) else none)=(r9 B x).map nN:=by
 unfold r9
 induction B with
 |nil=>rfl
 |cons t B ih=>
  rw[fO,cr];cases e:(t.2.1.mt x).isSome with
  |true=>rfl
  |false=>simpa using ih
def O8{E:ah→gY→Prop}(L:tz B) (ha:S a=aa (.bx (B.map nN))) (hf:x.a_ 0) (hr:20≤r) (h:Q (pI (r9 B x)) S):Bj (r+1) [.ref a,gS x] S Q E:=by
 right
 rw[Bj];ext;rw[nT ha];refine we (S:=S) ?_ (λσ=>∃y,σ=[aa (.ref a),aa (gS x),y]) nN (λt=>if(t.2.1.mt x).isSome then aa (nN t) else none) B _ ⟨_,rfl⟩ (λt ht σ N hI hno hret=>?_) (λe σ hI=>?_) λw e S' sb=>?_
 ·exact ha
 ·obtain⟨y,rfl⟩:=hI;simp only[N0];have ee:nN t= .bH [.str t.1,gS t.2.1,gS t.2.2]:=rfl;rw[ee];ext;rw[show ow [W.str t.1,gS t.2.1,gS t.2.2] 1=aa (gS t.2.1) from rfl];dsimp only;have h1:=L.d t ht;have h2:=L.w t ht;refine BL `l hf `l (λys hys q hq=>?_) λh0=>?_
  ·try ext
   rw[hys]at hret;exact hret _ rfl _ (.bz .refl hq)
  ·try ext
   rw[h0]at hno;exact hno rfl _ _ ⟨_,rfl⟩ .refl
 ·obtain⟨y,rfl⟩:=hI;ext;rw[L']at e;have:r9 B x=none:=by
   cases q:r9 B x with
   |none=>rfl
   |some t=>rw[q]at e;cases e
  rw[this]at h;exact⟨_, .refl,h⟩
 ·rw[L']at e;cases q:r9 B x with
  |none=>rw[q]at e;cases e
  |some t=>
   rw[q]at e h;cases e;exact⟨_,sb,h⟩
mutual
theorem Gi (B:List Tn):∀(t:Tr) (p:List Int),(t.op B p).length≤t.au
 | .bl n,p=>by simp [Tr.op]
 | .nd s ts,p=>by
  have:=P0 B ts p 0;rw[Tr.op,aW,Tr.au];split<;>simp<;>lia
theorem P0 (B:List Tn):∀(ts:List Tr) (p:List Int) (i:Nat),(tX B p i ts).length≤nI ts
 | [],p,i=>by simp [tX]
 |t::ts,p,i=>by
  have h1:=Gi B t (p++[(i:Int)]);have h2:=P0 B ts p (i+1);rw[tX,aW,nI];lia
end
mutual
theorem LB (L:tz B) (haf:f≠a):∀(t:Tr) {r:Nat}{p:List Int}{xs:List W}{S:gY}{Q:WK}{E:ah→gY→Prop},t.depth+25≤r→S a=aa (.bx (B.map nN))→S f=aa (.bx xs)→xs.length+t.au≤100000→p.length+t.depth≤1000→t.hd (λ_=>True)→
  Q .bR (bz S f (.bx (xs++(t.op B p).map qt)))→zi (r+1) [.ref a,gS t,nW p, .ref f] S Q E
 | .bl n,r,p,xs,S,Q,E,hr,ha,hf,hx,hp,hh,h=>by simp [Tr.hd]at hh
 | .nd s ts,r,p,xs,S,Q,E,hr,ha,hf,hx,hp,hh,h=>by
  have ft:=wg (m:=0) _ hh;simp only[Tr.depth]at hr hp;simp only[Tr.au]at hx;simp only[Tr.hd]at hh;right
  rw[zi];have ee:gS (.nd s ts)= .bH (.str s::af ts):=by simp only[gS]
  ext;refine O8 L ha ft `l ?_;rw[Tr.op]at h;cases e:r9 B (.nd s ts) with
  |none=>
   rw[e]at h;simp only[aQ]at h;simp only[pI];rw[ee]
   try ext
   exact Gd L haf ts `l ha hf `l `l hh.2 λx5 x6=>⟨_, .refl,h⟩
  |some t=>
   rw[e]at h;have et:pI (aa t)= .bH [.str t.1,gS t.2.1,gS t.2.2]:=rfl;rw[et,ee]
   try ext
   simp only[nT hf,true_and];refine⟨nL `d,rA `l,?_⟩;refine Gd L haf ts (xs:=xs++[qt (p,t.1)]) `l (by rw[oQ (bE haf)];exact ha) nJ (by simp;lia) `l hh.2 λx5 x6=>⟨_, .refl,?_⟩;rw[qa];simpa using h
theorem Gd (L:tz B) (haf:f≠a):∀(ts:List Tr) {r:Nat}{p:List Int}{i:Nat}{xs:List W}{S:gY}{E:WX}{D:nQ}{t0 x4 x5 x6:Option W},oy ts+25≤r→S a=aa (.bx (B.map nN))→S f=aa (.bx xs)→xs.length+nI ts≤100000→p.length+1+oy ts≤1000→hds (λ_=>True) ts→
  (∀x5 x6,D.nx [aa (.ref a),t0,aa (nW p),aa (.ref f),x4,x5,x6] (bz S f (.bx (xs++(tX B p i ts).map qt))))→
  nU (qx (oU (wGN 5) (oU (wGN 6) qh))) (Fe (r+1) (zi (r+1))) E D (λ_=>True) (nums i (af ts)) [aa (.ref a),t0,aa (nW p),aa (.ref f),x4,x5,x6] S
 | [],r,p,i,xs,S,E,D,t0,x4,x5,x6,hr,ha,hf,hx,hp,hh,h=>by
  simp only[af,nums,nU];have:=h x5 x6;rw[tX,dv,bC,sI hf]at this;exact this
 |t::ts,r,p,i,xs,S,E,D,t0,x4,x5,x6,hr,ha,hf,hx,hp,hh,h=>by
  simp only[oy]at hr hp;simp only[nI]at hx;simp only[hds]at hh;simp only[af,nums];refine rY λN hN=>?_;simp only[Fe];ext;rw[Mo];refine⟨nL `d,nL `l,?_⟩;have ol:=Gi B t (p++[(i:Int)]);refine LB L haf t `l ha hf `l (by simp;lia) hh.1 ?_;refine hN _ _ _ .refl trivial (Gd L haf ts (xs:=xs++(t.op B (p++[(i:Int)])).map qt) `l (by rw[oQ (bE haf)];exact ha) nJ (by simp;lia) `l hh.2 λx5 x6=>?_);rw[qa];have:=h x5 x6;rw[tX,bU]at this;simpa using this
end
def NT:oX (nW p) (nW q) S Q=(p.length+q.length≤sizeLine∧Q (nW (p++q)) S):=by
 unfold nW;rw[EC,aD,aD,bU]
def PB (B:List Tn):Prop:=∀t∈B,∀x∈t.2.1.bls,x.1.length≤4
def V_ (h:PB B):∀q∈uR B s n,q.length≤4:=λq hq=>by
 unfold uR at hq;cases e:n_ B s with
 |none=>
  rw[e]at hq;obtain⟨i,_,rfl⟩:=bp.mp hq;simp
 |some t=>
  rw[e]at hq;obtain⟨x,hx,rfl⟩:=bp.mp hq;exact h t (cZ e) x hx
section
variable {a:aj}{B:List Tn}{S:gY}{r:Nat}{Q:WK}{E:ah→gY→Prop}{t:Tr}
def Vt (L:tz B) (ha:S a=aa (.bx (B.map nN))) (hd:t.depth≤60) (hr:t.depth+30≤r) (hw:t.au≤1000) (hh:t.hd (λ_=>True)) (h:∀q,S q=none→Q (.ref q) (bz S q (.bx ((t.op B []).map qt)))):Dk (r+1) [.ref a,gS t] S Q E:=by
 right
 rw[Dk];ext;refine⟨bc _,λq hq=>⟨bc _,?_⟩⟩;have hqa:q≠a:=λz=>by rw[z,ha]at hq;cases hq
 refine LB L hqa t (p:=[]) (xs:=[]) `l (keep ha hq) nJ (by simp;lia) (by simp;lia) hh ?_;rw[qa,aQ];exact⟨_, .refl,h q hq⟩
def Rv{f:aj}{xs:List (List Int×ah)}(hf:S f=aa (.bx (xs.map qt))) (hl:xs.length≤10000) (h:∀q,S q=none→Q (.ref q) (bz S q (.bx ((xs.map λx=>x.1).map nW)))):B9 (r+1) [.ref f] S Q E:=by
 rw[B9];ext;rw[nT hf];refine qw (λσ=>∃y,σ=[y]) qt (λx=>nW x.1) ?_ xs [] _ ⟨none,rfl⟩ (by simp;lia) (λx hx σ R hI hR=>?_) ?_
 ·exact hf
 ·obtain⟨y,rfl⟩:=hI;simp only[Lj,qt];ext;exact hR _ _ ⟨_,rfl⟩ .refl
 ·rw[aQ];intro q hq;have:=h q hq;rw[bB]at this;exact⟨_, .refl,this⟩
def zlx (L:tz B) (ha:S a=aa (.bx (B.map nN))) (hh:(Tr.nd s ts).hd (λ_=>True)) (hw:(Tr.nd s ts).au≤1000) (hr:25≤r) (h1:r9 B (.nd s ts)=aa u) (h2:u.2.1.mt (.nd s ts)=aa ms) (h:Q (gS (.nd u.1 ms)) S):Cm (r+1) [.ref a,gS (.nd s ts)] S Q E:=by
 right
 have ht:u∈B:=cZ h1;have ft:=wg (m:=0) _ hh;have hm:=Bc u.2.1 _ _ h2 hh;have hl:=qJ ms;rw[Cm];ext;refine O8 L ha ft `l ?_;rw[h1];have et:pI (aa u)= .bH [.str u.1,gS u.2.1,gS u.2.2]:=rfl;rw[et]
 try ext
 rw[show ow [W.str u.1,gS u.2.1,gS u.2.2] 1=aa (gS u.2.1) from rfl];have g1:=L.d u ht;have g2:=L.w u ht;refine⟨nL `d,BL `l ft `l (λys hys q hq=>?_) λh0=>by rw[h2]at h0;cases h0⟩
 rw[h2]at hys;cases hys
 try ext
 rw[p9];simp only[gS]at h;exact⟨nL `l,_, .bz .refl hq,h⟩
end
def XZ (h:n_ B s=none):uR B s n=(bt n).map λ(i:Nat)=>[(i:Int)]:=by unfold uR;rw[h]
def Vp (h:n_ B s=aa t):uR B s n=t.2.1.bls.map λx=>x.1:=by unfold uR;rw[h]
def ui.len:∀{qs:List (List Int)}{ts us:List Tr},ui B wn n p qs ts us→us.length=ts.length:=by
 intro qs
 induction qs with
 |nil=>intro ts us h;cases h;rfl
 |cons q qs ih=>intro ts us h;cases h with |cons _ h=>rw[aS,aS,ih h]
def VL (n:Nat) (hP4:∀{t u:Tr}{p:List Int}{r:Nat}{S:gY}{Q:WK}{E:ah→gY→Prop},Wi B wn n p t u→n+40≤r+1→S a=aa (.bx (B.map nN))→S w=aa (.dct (u9 wn))→t.hd (λ_=>True)→t.au≤1000→p.length+4*n≤1000→Q (gS u) S→vy (r+1) [.ref a,gS t,nW p, .ref w] S Q E) :
  ∀{ts us:List Tr}{qs:List (List Int)}{p:List Int},ui B wn n p qs ts us→ ∀{r:Nat}{xs:List W}{f:aj}{S:gY}{G:gY→Prop}{E:WX}{D:nQ}{t0 x4 x6 x7:Option W},(∀q∈qs,q.length≤4)→n+40≤r+1→S a=aa (.bx (B.map nN))→S w=aa (.dct (u9 wn))→S f=aa (.bx xs)→f≠a→f≠w→xs.length+ts.length≤10000→nI ts≤1000→hds (λ_=>True) ts→p.length+4+4*n≤1000→(∀o,G (bz S f o))→
  (∀x6 x7,D.nx [aa (.ref a),t0,aa (nW p),aa (.ref w),x4,aa (.ref f),x6,x7] (bz S f (.bx (xs++af us))))→
  nU (qx (oU (wGN 6) (oU (wGN 7) qh))) (CG (r+1) (vy (r+1))) E D G (nP (qs.map nW) (af ts)) [aa (.ref a),t0,aa (nW p),aa (.ref w),x4,aa (.ref f),x6,x7] S:=by
 intro ts us qs
 induction qs generalizing ts us with
 |nil=>
  intro p W r xs f S G E D t0 x4 x6 x7 hq hr ha hw hf n1 n2 hx hwt hh hp hG h;cases W;simp only[dv,af,nP,nU];have:=h x6 x7;simp only[af,bC,sI hf]at this;exact this
 |cons q qs ih=>
  intro p W r xs f S G E D t0 x4 x6 x7 hq hr ha hw hf n1 n2 hx hwt hh hp hG h;cases W with
  | @cons _ _ _ _ t u ts us h1 h2=>
  simp only[nI]at hwt;simp only[hds]at hh;simp only[aS]at hx;have hq4:=hq q aM;simp only[aG,af,nP];refine rY λN hN=>?_;simp only[CG];ext;simp only[nT hf,true_and];rw[NT];refine⟨nL `l,hP4 h1 hr ha hw hh.1 `l (by simp;lia) ?_⟩
  try ext
  rw[nT hf];refine⟨rA `l,?_⟩;refine hN _ _ _ .refl (hG _) (ih h2 (xs:=xs++[gS u]) (λq' hq'=>hq q' (aI _ hq')) hr (by rw[oQ (bE n1)];exact ha) (by rw[oQ (bE n2)];exact hw) nJ n1 n2 (by simp;lia) `l hh.2 hp (λo=>by rw[qa];exact hG o) λx6 x7=>?_)
  rw[qa];have:=h x6 x7;simpa [af]using this
theorem NB (L:tz B) (hP:PB B):∀(n:Nat) {t u:Tr}{p:List Int}{r:Nat}{S:gY}{Q:WK}{E:ah→gY→Prop},Wi B wn n p t u→n+40≤r+1→S a=aa (.bx (B.map nN))→S w=aa (.dct (u9 wn))→t.hd (λ_=>True)→t.au≤1000→p.length+4*n≤1000→Q (gS u) S→vy (r+1) [.ref a,gS t,nW p, .ref w] S Q E
 |0,t,u,p,r,S,Q,E,M,hr,ha,hw,hh,hwt,hp,h=>by cases M
 |n+1,t,u,p,r,S,Q,E,M,hr,ha,hw,hh,hwt,hp,h=>by
  right
  have tail:∀{s:ah}{ts us:List Tr}{t0:Option W}{E':WX},ui B wn n p (uR B s ts.length) ts us→hds (λ_=>True) ts→nI ts≤1000→Q (gS (.nd s us)) S→
    (1:Nat)=1→ ∀f,S f=none→Bo (r+1) [.ref a, .bH (.str s::af ts)] (bz S f (.bx [])) (λx S1=>vE x S1 λxs G=>nU (qx (oU (wGN 6) (oU (wGN 7) qh))) (CG (r+1) (vy (r+1))) E' { nx:=nM (wOp oX (nS {wOp nC (eQ 4) (wC (W.int 0))}) (wB sM {eQ 5})) E' { nx:=λx S'=>∃S'',Sub S'' S'∧Q W.bR S'',rt:=λw S'=>∃S'',Sub S'' S'∧Q w S'' },rt:=λw S'=>∃S'',Sub S'' S'∧Q w S'' } (λS'=>G S'∧True) (nP xs (af ts)) [aa (.ref a),t0,aa (nW p),aa (.ref w),aa (.bH (.str s::af ts)),aa (.ref f),none,none] S1) E:=λ{s ts us t0 E'} WW hd hw' hQ _ f hf=>by
   have hk:=qJ ts;have n1:f≠a:=λz=>by rw[z,ha]at hf;cases hf
   have n2:f≠w:=λz=>by rw[z,hw]at hf;cases hf
   have ee:W.bH (W.str s::af ts)=gS (.nd s ts):=by simp only[gS]
   rw[ee];refine X2 L (keep ha hf) `l `l λq hq=>?_;rw[EM,Ag,←ee];obtain⟨hq1,hq2⟩:=uC hq;refine VL n (NB L hP n) WW (V_ hP) `l (keep (keep ha hf) hq) (keep (keep hw hf) hq) (keep nJ hq) n1 n2 (by simp;lia) hw' hd `l (λo=>⟨?_,trivial⟩) λx6 x7=>?_
   ·show bz _ f o q=_;rw[oQ hq2];exact nJ
   ·have hlu:us.length≤1000:=by
     have:=ui.len WW;lia
    ext;rw[p9];simp only[gS]at hQ;refine⟨nL `d,nL `l,S,?_,hQ⟩;rw[Iy hq2];exact .bz (.bz .refl hf) hq1
  cases M with
  | @no _ _ s ts us h1 h2 h3=>
   simp only[Tr.hd]at hh;simp only[Tr.au]at hwt;rw[vy];simp only[gS];ext;rw[Hm hw,PK,decide_eq_false h1]
   try ext
   refine⟨bc _,λf hf=>?_⟩;have:=tail (t0:=aa (.bH (.str s::af ts))) (E':=λc x S'=>E c S') (by rw[XZ h2];exact h3) hh.2 `l h rfl f hf;simpa only[and_true]using this
  | @yes _ _ s ts us ms t h1 h2 h3 h4 h5=>
   have hm:=Bc t.2.1 _ _ h3 hh;rw[vy];ext;rw[Hm hw,PK,decide_eq_true h1]
   try ext
   refine zlx L ha hh hwt `l h2 h3 ?_;simp only[gS]
   try ext
   refine⟨bc _,λf hf=>?_⟩;have:=tail (t0:=aa (.bH (.str s::af ts))) (E':=λc x S'=>E c S') (by rw[Vp h4];exact h5) hm.1 `l h rfl f hf;simpa only[and_true]using this
theorem MI:∀(p q:List Int),pA (oH S (n+1)) (p.map W.int) (q.map W.int)=aa (decide (p=q))
 | [],[]=>by simp [pA]
 | [],j::q=>by simp [pA]
 |i::p,[]=>by simp [pA]
 |i::p,j::q=>by
  rw[aG,aG,pA,C4,MI p q];simp only[bS];rw[dc];simp
def UJ (p q:List Int):oH S (n+2) (nW p) (nW q)=aa (decide (p=q)):=by
 unfold nW;rw[D5,MI]
theorem Pd:∀ys:List (List Int),qS S (nW x) (ys.map nW)=aa (decide (x∈ys))
 | []=>by simp [qS]
 |y::ys=>by
  rw[aG,qS,UJ (n:=57),Pd ys];simp only[bS];rw[dc];simp only[jG,decide_eq_true_eq,az];exact⟨λh=>h.elim (λe=> .inl e.symm) .inr,λh=>h.elim (λe=> .inl e.symm) .inr⟩
section
variable {a:aj}{B:List Tn}{wn:List (List Int)}{S:gY}{r n:Nat}{Q:WK}{E:ah→gY→Prop}{t u:Tr}{f:aj}
def X8 (L:tz B) (hP:PB B) (M:Wi B wn n [] t u) (hn:n≤60) (hr:110≤r) (ha:S a=aa (.bx (B.map nN))) (hf:S f=aa (.bx (wn.map nW))) (hh:t.hd (λ_=>True)) (hw:t.au≤1000) (hl:wn.length≤10000) (h:Q (gS u) S):DA (r+1) [.ref a,gS t, .ref f] S Q E:=by
 right
 rw[DA];ext;refine⟨bc _,?_⟩;rw[nT hf];refine qw (λσ=>∃y,σ=[y]) nW (λp=>W.bH [nW p, .bl true]) ?_ wn [] _ ⟨none,rfl⟩ (by simp;lia) (λx hx σ R hI hR=>?_) ?_
 ·exact hf
 ·obtain⟨y,rfl⟩:=hI;simp only[Qc];ext;exact⟨nL `d,hR _ _ ⟨_,rfl⟩ .refl⟩
 ·rw[aQ];have e:sG (wn.map λp=>W.bH [nW p, .bl true])=aa wn:=PV wn;rw[e];refine⟨`l,λd hd=>?_⟩;have e0:W.bH []=nW []:=rfl;rw[e0];exact NB L hP n M `l (keep ha hd) nJ hh hw (by simp;lia) ⟨_, .bz .refl hd,h⟩
def RF (L:tz B) (hP:PB B) (M:Wi B wn n [] t u) (hn:n≤60) (hr:115≤r) (ha:S a=aa (.bx (B.map nN))) (hf:S f=aa (.bx (wn.map nW))) (hh:t.hd (λ_=>True)) (hw:t.au≤1000) (hd:t.depth≤60) (hl:wn.length≤10000) (hks:((t.op B []).map λx=>x.1)=ks) (hin:∀x∈wn,x∈ks) (h:Q (gS u) S):zY (r+1) [.ref a,gS t, .ref f] S Q E:=by
 right
 have ol:=Gi B t [];rw[zY];ext;refine Vt L ha hd `l hw hh λq hq=>?_;refine Rv nJ `l λq2 hq2=>?_;rw[hks];have f2:bz (bz S q (Ob.bx ((t.op B []).map qt))) q2 (Ob.bx (ks.map nW)) q2=aa (.bx (ks.map nW)):=nJ;have ff:=keep (x:=Ob.bx (ks.map nW)) (keep (x:=Ob.bx ((t.op B []).map qt)) hf hq) hq2;have fa:=keep (x:=Ob.bx (ks.map nW)) (keep (x:=Ob.bx ((t.op B []).map qt)) ha hq) hq2;have sub:Sub S (bz (bz S q (Ob.bx ((t.op B []).map qt))) q2 (Ob.bx (ks.map nW))):= .trans (.bz .refl hq) (.bz .refl hq2);generalize bz (bz S q (Ob.bx ((t.op B []).map qt))) q2 (Ob.bx (ks.map nW))=S2 at f2 ff fa sub⊢
 try ext
 rw[nT ff];refine we (S:=S2) ?_ (λσ=>∃x,σ=[aa (.ref a),aa (gS t),aa (.ref f),aa (.ref q2),x]) nW (λ_=>none) wn _ ⟨_,rfl⟩ (λx hx σ N hI hno hret=>?_) (λe σ hI=>?_) λw e S' sb=>?_
 ·exact ff
 ·obtain⟨y,rfl⟩:=hI;unfold KA;ext;rw[nT f2,Pd,decide_eq_true (hin x hx)]
  try ext
  exact hno rfl _ _ ⟨_,rfl⟩ .refl
 ·obtain⟨y,rfl⟩:=hI
  try ext
  exact X8 L hP M hn `l fa ff hh hw hl ⟨_,sub,h⟩
 ·rw[gM.mpr (λ_ _=>rfl)]at e;cases e
end
theorem Nc:∀(ls us:List Tr),(oP ls us).isSome=(ls.zip us).all λx=>(x.1.mt x.2).isSome
 | [],us=>by simp [oP]
 |l::ls,[]=>by simp [oP]
 |l::ls,u::us=>by
  rw[oP,iS,iV,←Nc ls us];cases l.mt u with
  |none=>rfl
  |some xs=>cases oP ls us<;>rfl
theorem La:∀(ls us:List Tr),nP (af ls) (af us)=(ls.zip us).map λx=>W.bH [gS x.1,gS x.2]
 | [],us=>by simp [af,nP]
 |l::ls,[]=>by simp [af,nP]
 |l::ls,u::us=>by
  simp [af,nP,La ls us]
theorem KI{α:Type}(g:α→Bool):∀xs:List α,uJ (xs.map λx=>W.bl (g x))=aa (xs.map g)
 | []=>rfl
 |x::xs=>by rw[aG,uJ,KI g xs];rfl
theorem JP:∀(d:Nat) {l t:Tr}{r:Nat}{Q:WK}{E:ah→gY→Prop},l.depth≤d→d≤r→t.a_ 0→l.au≤1000→Q (.bl (l.mt t).isSome) S→xZ (r+1) [gS l,gS t] S Q E
 |0,l,t,r,Q,E,hd,hr,hf,hw,h=>by have:=sj l;lia
 |d+1, .bl n,t,r,Q,E,hd,hr,hf,hw,h=>by
  rw[xZ];simp only[gS];ext;simp only[Tr.mt,lJ]at h;exact⟨_, .refl,h⟩
 |d+1, .nd s ls, .bl n,r,Q,E,hd,hr,hf,hw,h=>by
  simp only[Tr.a_]at hf;lia
 |d+1, .nd s ls, .nd z us,r,Q,E,hd,hr,hf,hw,h=>by
  simp only[Tr.a_]at hf;simp only[Tr.depth]at hd;simp only[Tr.au]at hw;right
  have en:∀s ts,gS (.nd s ts)= .bH (.str s::af ts):=λs ts=>by simp [gS]
  rw[xZ];rw[en,en];ext;rw[p9,p9];have en2:(((ls.length+1:Nat):Int) == ((us.length+1:Nat):Int))=(ls.length == us.length):=by
   rw[dc,beq_iff_eq,beq_iff_eq];lia
  rw[en2];simp only[Tr.mt]at h;cases e1:(s == z) with
  |false=>
   rw[e1]at h;exact⟨_, .refl,h⟩
  |true=>
   rw[e1]at h;rw[if_neg `d];cases e2:(ls.length == us.length) with
   |false=>
    rw[e2]at h;exact⟨_, .refl,h⟩
   |true=>
    rw[e2]at h;rw[if_neg `d];simp only[kc,if_true]at h;have hk:=qJ ls;rw[La];refine qw (λσ=>∃x y,σ=[x,y]) (λx:Tr×Tr=> .bH [gS x.1,gS x.2]) (λx=> .bl (x.1.mt x.2).isSome) trivial (ls.zip us) [] _ ⟨none,none,rfl⟩ (by simp;lia) (λx hx σ R hI hR=>?_) ?_
    ·obtain⟨x1,x2,rfl⟩:=hI;simp only[PL];ext;have m1:=(fY hx).1;have m2:=(fY hx).2;have hdd:=so m1;have hww:=qg m1;exact JP d `l `l (Au hf m2) `l (hR _ _ ⟨_,_,rfl⟩ .refl)
    ·rw[aQ,KI];refine⟨_, .refl,?_⟩;rw[Nc]at h;rw[gG];exact h
theorem JF:∀(q:List Int) {t u:Tr}{x2:Option W},t.at q=aa u→(∀x2,D.nx [aa (gS u),x1,x2] S)→nU (wGN 2) (G0 r nG) E D (λ_=>True) (q.map W.int) [aa (gS t),x1,x2] S
 | [],t,u,x2,h,hD=>by
  cases t<;>simp only[Tr.at,bS]at h<;>subst h<;>simpa [nU]using hD x2
 |i::q, .bl n,u,x2,h,hD=>by simp [Tr.at]at h
 |i::q, .nd s ts,u,x2,h,hD=>by
  obtain⟨a,h2,e1,e2⟩:=Hb h;rw[aG];refine rY λN hN=>?_;simp only[G0,gS];ext;have ei:(i:Int)+1=((i.toNat+1:Nat):Int):=by lia
  rw[ei,sW,d8,qr,bK,e1];exact hN _ _ _ .refl trivial (JF q e2 hD)
def Y4{E:ah→gY→Prop}(ha:t.at q=aa u) (h:Q (gS u) S):B_ (r+1) [gS t,nW q] S Q E:=by
 rw[B_];simp only[nW];ext;refine JF q ha λx2=>?_;ext;exact⟨_, .refl,h⟩
def ZK{x:List Int}{t:Tr}{p:List Int}(h:x∈t.pl p):x.length<p.length+t.depth:=by
 rw[←wT,bp]at h;obtain⟨⟨q,u⟩,hm,rfl⟩:=h;obtain⟨r,rfl,_,hr⟩:=Bm t p q u hm;simp;lia
mutual
theorem I_ (p:List Int):∀(t:Tr) (q:List Int),t.pl (p++q)=(t.pl q).map (p++ ·)
 | .bl _,q=>by simp [Tr.pl]
 | .nd _ ts,q=>by simp [Tr.pl,Jd p ts q 0]
theorem Jd (p:List Int):∀(ts:List Tr) (q:List Int) (i:Nat),rC (p++q) i ts=(rC q i ts).map (p++ ·)
 | [],q,i=>by simp [rC]
 |t::ts,q,i=>by rw[rC,rC,bU,←I_ p t,Jd p ts q (i+1),b7]
end
theorem OQ{E:WX}{D:nQ}{x0:Option W}{r:Nat}:∀(ts:List Tr) (one:∀u∈ts,∀{S:gY}{Q:WK}{E:ah→gY→Prop},(∀S' b,Sub S S'→S' b=aa (.bx ((u.pl []).map nW))→Q (.ref b) S')→wA r [gS u] S Q E) (i:Nat) {acc:List (List Int)}{f:aj}{S:gY}{x2 x3:Option W},S f=aa (.bx (acc.map nW))→acc.length+nI ts≤100000→oy ts≤1000→
  (∀S' g x2 x3,Sub S S'→S' g=aa (.bx ((acc++rC [] i ts).map nW))→D.nx [x0,aa (.ref g),x2,x3] S')→nU (qx (oU (wGN 2) (oU (wGN 3) qh))) (Fu r (wA r)) E D (λ_=>True) (nums i (af ts)) [x0,aa (.ref f),x2,x3] S
 | [],one,i,acc,f,S,x2,x3,hf,hl,hd,h=>by
  have:=h S f x2 x3 .refl (by simpa [rC]using hf);simpa [nU,nums,af]using this
 |t::ts,one,i,acc,f,S,x2,x3,hf,hl,hd,h=>by
  simp only[oy]at hd;simp only[nI]at hl;simp only[af,nums];refine rY λN hN=>?_;simp only[Fu];ext;refine one t aM λS1 b sb hb=>?_;dsimp only;rw[nT hb];have hpl:(t.pl []).length=t.au:=by rw[←wT,aD,wH]
  refine qw (λσ=>∃x,σ=[x,aa (.int i)]) nW (λq=>nW ((i:Int)::q)) hb (t.pl []) [] _ ⟨none,rfl⟩ (by simp;lia) (λq hq σ R hI hR=>?_) ?_
  ·obtain⟨x,rfl⟩:=hI;have hq2:=ZK hq;simp only[Ik];ext;have e1:W.bH [.int (i:Int)]=nW [(i:Int)]:=rfl;rw[e1,NT];refine⟨nL `d,nL (by simp at hq2⊢;lia),hR _ _ ⟨_,rfl⟩ .refl⟩
  ·rw[aQ,nT (sb _ _ hf)];refine⟨nL (by simp;lia),λa ha=>?_⟩;have e:acc.map nW++(t.pl []).map (λq=>nW ((i:Int)::q))=(acc++t.pl [(i:Int)]).map nW:=by
    have:=I_ [(i:Int)] t [];rw[bC]at this;rw[bU,this,bB];rfl
   rw[e];have hpl2:(t.pl [(i:Int)]).length=t.au:=by rw[←wT,aD,wH]
   refine hN _ _ _ .refl trivial (OQ ts (λu hu=>one u (aI _ hu)) (i+1) nJ (by simp;lia) `l λS' g x2 x3 sb' hg=>?_);exact h S' g x2 x3 ((sb.trans (.new ha)).trans sb') (by rw[rC,←b7];exact hg)
theorem OS:∀(d:Nat) {t:Tr}{r:Nat}{S:gY}{Q:WK}{E:ah→gY→Prop},t.depth≤d→d≤r→t.au≤1000→t.depth≤1000→(∀S' b,Sub S S'→S' b=aa (.bx ((t.pl []).map nW))→Q (.ref b) S')→wA (r+1) [gS t] S Q E
 |0,t,r,S,Q,E,hd,hr,hw,hz,h=>by have:=sj t;lia
 |d+1, .bl n,r,S,Q,E,hd,hr,hw,hz,h=>by
  rw[wA];simp only[gS];ext;refine⟨nL `d,nL `d,λa ha=>⟨_, .refl,h _ a (.new ha) nJ⟩⟩
 |d+1, .nd s ts,r,S,Q,E,hd,hr,hw,hz,h=>by
  simp only[Tr.depth]at hd hz;simp only[Tr.au]at hw;right
  rw[wA];simp only[gS];ext;refine⟨nL `d,nL `d,λa ha=>?_⟩;have en:W.bH (.str s::af ts)=gS (.nd s ts):=by simp [gS]
  try ext
  refine OQ ts (λu hu {S Q E} q=>OS d (by have:=so hu;lia) `l (by have:=qg hu;lia) (by have:=so hu;lia) q) 0 (acc:=[[]]) nJ (by simp;lia) `l λS' g x2 x3 sb hg=>?_;ext;exact⟨_, .refl,h _ g ((Sub.new ha).trans sb) (by rw[Tr.pl];exact hg)⟩
theorem Jw{α:Type}(P:α→Bool):∀(bs:List α),bs.Nodup→(∀u∈bs,∀v∈bs,P u=true→P v=true→u=v)→bs.filter P=(bs.find? P).toList
 | [],_,_=>rfl
 |b::bs,hn,hu=>by
  rw[eF]at hn;rw[j4,cr];cases e:P b with
  |false=>simpa using Jw P bs hn.2 λu h1 v h2=>hu u (aI _ h1) v (aI _ h2)
  |true=>
   simp only[if_true,Option.toList_some,gd,true_and];rw[List.filter_eq_nil_iff];intro v hv pv;have:=hu b aM v (aI _ hv) e pv;subst this;exact hn.1 hv
noncomputable def t9 (B:List Tn) (x:List Int×Tr):List (List Int×ah):=(r9 B x.2).toList.map λb=>(x.1,b.1)
mutual
theorem D6 (B:List Tn):∀(t:Tr) (p:List Int),t.a_ 0→(t.plt p).flatMap (t9 B)=t.op B p
 | .bl n,p,h=>by
  simp only[Tr.a_]at h;lia
 | .nd s ts,p,h=>by
  simp only[Tr.a_]at h;rw[Tr.plt,eG,PN B ts p 0 h,Tr.op,t9];cases r9 B (.nd s ts)<;>rfl
theorem PN (B:List Tn):∀(ts:List Tr) (p:List Int) (i:Nat),nX 0 ts→(qi p i ts).flatMap (t9 B)=tX B p i ts
 | [],p,i,h=>by simp [qi,tX]
 |t::ts,p,i,h=>by
  simp only[nX]at h;rw[qi,tX,nc,D6 B t _ h.1,PN B ts p (i+1) h.2]
end
theorem Ha (L:tz B) (hfa:f≠a) (hu:u.a_ 0) (hat:t.at q=aa u) (hr:10≤r):∀(bs:List Tn) {xs:List W}{S:gY}{x4:Option W},(∀b∈bs,b∈B)→S a=aa (.bx (B.map nN))→S f=aa (.bx xs)→xs.length+bs.length≤100000→
  (∀x4,D.nx [aa (.ref a),aa (gS t),aa (.ref f),aa (nW q),x4] (bz S f (.bx (xs++((bs.filter λb=>(b.2.1.mt u).isSome).map λb=>(q,b.1)).map qt))))→
  nU (wGN 4) (GN (r+1) nG) E D (λS'=>S' a=aa (.bx (B.map nN))) (bs.map nN) [aa (.ref a),aa (gS t),aa (.ref f),aa (nW q),x4] S
 | [],xs,S,x4,hb,ha,hf,hl,h=>by
  have:=h x4;simp only[List.filter_nil,dv,bC,sI hf]at this;simpa [nU]using this
 |b::bs,xs,S,x4,hb,ha,hf,hl,h=>by
  simp only[aS]at hl;rw[aG];refine rY λN hN=>?_;simp only[GN];have eb:nN b= .bH [.str b.1,gS b.2.1,gS b.2.2]:=rfl;rw[eb];ext;refine Y4 hat ?_;have hm:=hb b aM;have h1:=L.d b hm;have h2:=L.w b hm;refine JP 4 h1 `l hu `l ?_;rw[←eb];ext;cases e:(b.2.1.mt u).isSome with
  |false=>
   simp only[cA,if_false];refine hN _ _ _ .refl ha (Ha L hfa hu hat hr bs (λy hy=>hb y (aI _ hy)) ha hf `l λx4=>?_);have:=h x4;rw[j4,e]at this;simpa using this
  |true=>
   simp only[if_true,nT hf];refine⟨trivial,nL `d,rA `l,?_⟩;have ha':bz S f (Ob.bx (xs++[W.bH [nW q,W.str b.1]])) a=aa (.bx (B.map nN)):=by rw[oQ (bE hfa)];exact ha
   refine hN _ _ _ .refl ha' (Ha L hfa hu hat hr bs (λy hy=>hb y (aI _ hy)) ha' nJ (by simp;lia) λx4=>?_);have:=h x4;rw[j4,e]at this;rw[qa];simpa [qt]using this
theorem IC (L:tz B) (hfa:f≠a) (hfc:f≠c) (hr:10≤r) (hn:B.Nodup) (hB:B.length≤100) (U:∀x:Tr,∀u∈B,∀v∈B,(u.2.1.mt x).isSome=true→(v.2.1.mt x).isSome=true→u=v):∀(ys:List (List Int×Tr)) {xs:List W}{S:gY}{x3 x4:Option W},(∀y∈ys,t.at y.1=aa y.2∧y.2.a_ 0)→S a=aa (.bx (B.map nN))→S c=aa (.bx ps)→S f=aa (.bx xs)→xs.length+100*ys.length+100≤100000→
  (∀x3 x4,D.nx [aa (.ref a),aa (gS t),aa (.ref f),x3,x4] (bz S f (.bx (xs++(ys.flatMap (t9 B)).map qt))))→
  nU (wGN 3) (Hc (r+1) nG) E D (λS'=>S' c=aa (.bx ps)) (ys.map λy=>nW y.1) [aa (.ref a),aa (gS t),aa (.ref f),x3,x4] S
 | [],xs,S,x3,x4,hy,ha,hc,hf,hl,h=>by
  have:=h x3 x4;simp only[gF,dv,bC,sI hf]at this;simpa [nU]using this
 |y::ys,xs,S,x3,x4,hy,ha,hc,hf,hl,h=>by
  simp only[aS]at hl;rw[aG];refine rY λN hN=>?_;simp only[Hc];ext;rw[nT ha];have hy0:=hy y aM;have eo:(B.filter λb=>(b.2.1.mt y.2).isSome).map (λb=>(y.1,b.1))=t9 B y:=by
   rw[Jw _ B hn (U y.2)];rfl
  have ol:(t9 B y).length≤1:=by
   unfold t9;cases r9 B y.2<;>simp
  refine Ha L hfa hy0.2 hy0.1 hr B (λb hb=>hb) ha hf `l λx4=>?_;rw[eo];have hc':bz S f (Ob.bx (xs++(t9 B y).map qt)) c=aa (.bx ps):=by rw[oQ (bE hfc)];exact hc
  have ha':bz S f (Ob.bx (xs++(t9 B y).map qt)) a=aa (.bx (B.map nN)):=by rw[oQ (bE hfa)];exact ha
  refine hN _ _ _ .refl hc' (IC L hfa hfc hr hn hB U ys (λz hz=>hy z (aI _ hz)) ha' hc' nJ (by simp;lia) λx3 x4=>?_);have:=h x3 x4;rw[eG,bU]at this;rw[qa];simpa using this
mutual
theorem Pc:∀(t:Tr) (p:List Int),t.a_ 0→ ∀y∈t.plt p,y.2.a_ 0
 | .bl n,p,h,y,hy=>by
  simp only[Tr.a_]at h;lia
 | .nd s ts,p,h,y,hy=>by
  have h':=h;simp only[Tr.a_]at h';rw[Tr.plt,az]at hy;obtain rfl |hy:=hy
  ·exact h
  ·exact Jm ts p 0 h' y hy
theorem Jm:∀(ts:List Tr) (p:List Int) (i:Nat),nX 0 ts→ ∀y∈qi p i ts,y.2.a_ 0
 | [],p,i,h,y,hy=>by simp [qi]at hy
 |t::ts,p,i,h,y,hy=>by
  simp only[nX]at h;rw[qi,bv]at hy;obtain hy |hy:=hy
  ·exact Pc t _ h.1 y hy
  ·exact Jm ts p (i+1) h.2 y hy
end
def T0{E:ah→gY→Prop}(L:tz B) (hn:B.Nodup) (hB:B.length≤100) (U:∀x:Tr,∀u∈B,∀v∈B,(u.2.1.mt x).isSome=true→(v.2.1.mt x).isSome=true→u=v) (ha:S a=aa (.bx (B.map nN))) (hd:t.depth≤60) (hr:t.depth+20≤r) (hw:t.au≤900) (ht:t.a_ 0)
  (h:∀S' b,Sub S S'→S' b=aa (.bx ((t.op B []).map qt))→Q (.ref b) S'):zo (r+1) [.ref a,gS t] S Q E:=by
 right
 rw[zo];ext;refine⟨bc _,λf hf=>?_⟩;refine OS t.depth (aE _) `l `l `l λS1 c sb hc=>?_;have ff:S1 f=aa (.bx []):=sb _ _ nJ;have fa:S1 a=aa (.bx (B.map nN)):=sb _ _ (keep ha hf);have hfa:f≠a:=by
  rintro rfl;rw[hf]at ha;cases ha
 have ep:(t.pl []).map nW=(t.plt []).map λy=>nW y.1:=by rw[←wT,bB];rfl
 have hfc:f≠c:=by
  rintro rfl;rw[ff]at hc;have e:=congrArg dB (Ob.bx.inj (aL hc));rw[ep,aD,wH]at e;have:=uc t;simp at e;lia
 try ext
 rw[nT hc,ep];rw[ep]at hc;have hpl:=wH t [];refine IC L hfa hfc `l hn hB U (t.plt []) (λy hy=>⟨(Hl hy).1,Pc t [] ht y hy⟩) fa hc ff (by simp;lia) λx3 x4=>?_;ext;rw[D6 B t [] ht];exact⟨_, .refl,h _ f (Sub.bz ((Sub.new hf).trans sb) hf) nJ⟩
section
variable {c:Int→Nat}
def xL (c:Int→Nat):Prop:=∀x:Int,0≤x→x<8→c x≤1
def xL.ak (hc:xL c):∀x:Int,0≤x→x<8→vg c x=0:=λx h0 h1=>by
 have:=hc x h0 h1;unfold vg;split<;>lia
end
def wk (f:Int):xL (oq f):=λx _ _=>uK f x
section
variable {c d:Int→Nat}
def Do{c d:Int→Nat}(hc:xL c) (hd:xL d):SC c d:=λx h0 h1=> .inl ⟨hc x h0 h1,hd x h0 h1⟩
end
noncomputable def u1 (B:List Tn) (p:Pl):List (List Int×ah):=MR (oq 1) (p.ns B [])
mutual
noncomputable def Tr.sg:Tr→Nat
 | .bl _=>0
 | .nd _ ts=>1+vJ ts
noncomputable def vJ:List Tr→Nat
 | []=>0
 |t::ts=>t.sg+vJ ts
end
mutual
noncomputable def Tr.sd:Tr→Nat
 | .bl _=>0
 | .nd _ ts=>1+vW ts
noncomputable def vW:List Tr→Nat
 | []=>0
 |t::ts=>max t.sd (vW ts)
end
mutual
noncomputable def Tr.nm:Tr→List Int
 | .bl n=>[n]
 | .nd _ ts=>p7 ts
noncomputable def p7:List Tr→List Int
 | []=>[]
 |t::ts=>t.nm++p7 ts
end
structure RX (t:Tr):Prop where
  sg:t.sg≤3
  sd:t.sd≤3
  ct:∀n,t.nm.count n≤2
def Sc{l:List Int}(h:∀n∈l,l.count n≤2):∀n,l.count n≤2:=λn=>by
 by_cases m:n∈l
 ·exact h n m
 ·rw[List.count_eq_zero_of_not_mem m];lia
section
variable {w0 w1 w2 w3 w4 w5:ah}{a:aj}{r:Nat}{S:gY}{Q:WK}{E:ah→gY→Prop}
def SX (h1:t.depth≤4) (h2:t.a_ m) (h3:∀{P:ah→Prop},(∀x∈ws,P x)→t.hb P) (h4:t.au≤7):rL ws m t:=⟨h1,h2,h3,h4⟩
def p5 (w0 w1 w2 w3 w4 w5:ah):Nat→Bool→List Tr
 |0,_=>[.nd w2 [], .nd w5 [], .nd w3 [.nd w5 []]]
 |1,g=>[.bl 0, .nd w3 [.bl 0], .nd w4 [.bl 0, .bl 0], .nd w4 [.nd w3 [.bl 0], .nd w2 []]]++(if g then [.nd w0 [.bl 0], .nd w1 [.nd w3 [.bl 0], .bl 0], .nd w3 [.nd w0 [.bl 0]]] else [.nd w2 [], .nd w3 [.nd w5 []]])
 |3,g=>[.nd w4 [.nd w4 [.bl 0, .bl 1], .bl 2], .nd w4 [.bl 2, .nd w4 [.bl 1, .bl 0]], .nd w4 [.nd w4 [.bl 0, .bl 0], .nd w4 [.bl 1, .bl 2]]]++(if g then [.nd w0 [.nd w4 [.nd w4 [.bl 2, .bl 0], .bl 1]], .nd w1 [.bl 1, .nd w4 [.bl 0, .bl 2]]] else [.bl 0, .bl 2, .nd w4 [.bl 1, .bl 1], .nd w5 []])
 |_,g=>[.nd w4 [.bl 0, .bl 1], .nd w4 [.bl 1, .bl 0], .nd w4 [.nd w3 [.bl 0], .bl 1], .nd w4 [.nd w4 [.bl 0, .bl 0], .bl 1]]++(if g then [.nd w1 [.bl 1, .bl 0], .nd w0 [.nd w4 [.bl 0, .bl 1]]] else [.bl 0, .bl 1, .nd w3 [.bl 1], .nd w5 []])
def Y2 (hm:m≤3) (g:Bool):∀t∈p5 w0 w1 w2 w3 w4 w5 m g,rL [w0,w1,w2,w3,w4,w5] m t:=by
 intro t ht;obtain _ |_ |_ |_ |m:=m
 all_goals first
  |lia
  | (cases g<;>simp only[p5,bY,aQ,if_true,if_false,cA,az,aZ,or_false]at ht<;>(try rcases ht with rfl |rfl |rfl |rfl |rfl |rfl |rfl |rfl)<;>(try rcases ht with rfl |rfl |rfl |rfl |rfl |rfl |rfl)<;>(try rcases ht with rfl |rfl |rfl |rfl |rfl |rfl)<;>(try rcases ht with rfl |rfl |rfl |rfl |rfl)<;>(try rcases ht with rfl |rfl |rfl)<;>exact SX (by simp [Tr.depth,oy]) (by simp [Tr.a_,nX]) (λ{P} h=>by simp [Tr.hb,pH]<;>simp [h]) (by simp [Tr.au,nI]))
def Iv{m:Nat}(hm:m≤3) (g:Bool):∀t∈p5 w0 w1 w2 w3 w4 w5 m g,RX t:=by
 intro t ht;obtain _ |_ |_ |_ |m:=m
 all_goals first
  |lia
  | (cases g<;>simp only[p5,bY,aQ,if_true,if_false,cA,az,aZ,or_false]at ht<;>(try rcases ht with rfl |rfl |rfl |rfl |rfl |rfl |rfl |rfl)<;>(try rcases ht with rfl |rfl |rfl |rfl |rfl |rfl |rfl)<;>(try rcases ht with rfl |rfl |rfl |rfl |rfl |rfl)<;>(try rcases ht with rfl |rfl |rfl |rfl |rfl)<;>(try rcases ht with rfl |rfl |rfl)<;>exact⟨by simp [Tr.sg,vJ],by simp [Tr.sd,vW],Sc (by simp only[Tr.nm,p7,aQ,bC,bY]<;>decide)⟩)
def Uh (g:Bool):1≤(p5 w0 w1 w2 w3 w4 w5 m g).length∧(p5 w0 w1 w2 w3 w4 w5 m g).length≤8:=by
 rcases m with _ |_ |_ |_ |m<;>cases g<;>simp [p5]
def D1 (e:WE) (σ:nK) (S:gY) (w:W):Prop:=∀(E:WX) (Q:WK),Q w S→e E σ S Q
def xu (t:WA) (σ:nK) (S:gY) (ws:List W):Prop:=∀(E:WX) (Q:List W→gY→Prop),Q ws S→t E σ S Q
def uH:D1 (wC w) σ S w:=λ_ _ q=>q
def uM (h1:σ[1]? =aa (aa (.ref a))) (ha:S a=aa (.bx xs)) (hi:ow xs i=aa w):D1 (wOp nC (eQ 1) (wC (.int i))) σ S w:=λE Q q=>by
 rw[Go,zB,h1];dsimp only;rw[GW,IT,nT ha,hi];exact q
def uy:xu ae σ S []:=λ_ _ q=>q
def uA (h1:D1 e σ S w) (h2:xu t σ S ws):xu (fX e t) σ S (w::ws):=λE Q q=>h1 E _ (h2 E _ q)
def uB (h:xu t σ S ws) (hl:ws.length≤sizeLine):D1 (nS t) σ S (.bH ws):=λE Q q=>h E _ ⟨hl,q⟩
def u8{E:WX}{D:nQ}{σ:nK}{c:WT}{A T:WS}(hc:∀Q:Bool→gY→Prop,Q false S→c E σ S Q) (k:T E D σ S):kj (og c A oh) T E D σ S:=hc _ k
def yf{E:WX}{D:nQ}{σ:nK}{c:WT}{A A' T:WS}(hc:∀Q:Bool→gY→Prop,Q true S→c E σ S Q) (k:A E { D with nx:=T E D } σ S):kj (og c A A') T E D σ S:=hc _ k
def vD{E:WX}{σ:nK}{m k:Int}{b:Bool}(h0:σ[0]? =aa (aa (.int m))) (e:(m == k)=b):∀Q:Bool→gY→Prop,Q b S→oo (wOp (o4 false) (eQ 0) (wC (.int k))) E σ S Q:=λQ q=>by
 rw[Pp,Go,zB,h0];dsimp only;rw[GW,MM,Ei,e];cases b<;>exact q
def yk{E:WX}{σ:nK}{b:Bool}(h2:σ[2]? =aa (aa (.bl b))):∀Q:Bool→gY→Prop,Q b S→oY (eQ 2) E σ S Q:=λQ q=>by
 rw[MF,zB,h2];dsimp only;rw[JX];exact q
def F1{E:WX}{D:nQ}{σ:nK}{t:WA}{T:WS}{ws:List W}(h:xu t σ S ws) (hl:ws.length≤sizeLine) (k:∀q,S q=none→T E D (σ.set 3 (aa (.ref q))) (bz S q (.bx ws))):kj (jj (ox (oI t)) (wGN 3)) T E D σ S:=h E _ ⟨hl,k⟩
def Wk{E:WX}{D:nQ}{σ:nK}{t:WA}{ws:List W}(h:xu t σ S ws) (hl:ws.length≤sizeLine) (k:∀q,S q=none→D.rt (.ref q) (bz S q (.bx ws))):nM (ox (oI t)) E D σ S:=h E _ ⟨hl,k⟩
def yC{E:WX}{D:nQ}{σ:nK}{t:WA}{ws xs:List W}{q:aj}(h3:σ[3]? =aa (aa (.ref q))) (hq:S q=aa (.bx xs)) (h:xu t σ S ws) (hl:ws.length≤sizeLine) (hx:xs.length+ws.length≤sizeLine) (k:∀q2,S q2=none→D.rt (.ref q2) (bz S q2 (.bx (xs++ws)))):nM (ox (tf (eQ 3) (oI t))) E D σ S:=by
 rw[Mw,J2,Kv,zB,h3];dsimp only;rw[N'];refine h E _ ⟨hl,?_⟩;rw[nT hq];exact⟨hx,k⟩
def Wn{m:Nat}(hm:m≤3) (g:Bool) (ha:S a=aa (.bx (re w0 w1 w2 w3 w4 w5))) (h:∀S' b,Sub S S'→S' b=aa (.bx (af (p5 w0 w1 w2 w3 w4 w5 m g)))→Q (.ref b) S'):D2 (r+1) [.int m, .ref a, .bl g] S Q E:=by
 rw[D2,wz];refine⟨rfl,?_⟩;obtain _ |_ |_ |_ |m:=m
 ·exact yf (vD rfl `d) (Wk (ws:=[W.bH [W.str w2],W.bH [W.str w5],W.bH [W.str w3,W.bH [W.str w5]]]) (by repeat' first |exact uy |refine uA ?_ ?_ |exact uH |exact uM rfl ha (by first |exact qX |exact qU |exact qv |exact qD |exact qH |exact qI) |refine uB ?_ (nL (bJ rfl))) (nL (bJ rfl)) λq hq=>⟨_, .refl,h _ q (.bz .refl hq) (by rw[nJ];simp [p5,af,gS])⟩)
 ·refine u8 (vD rfl `d) (yf (vD rfl `d) (F1 (ws:=[W.int 0,W.bH [W.str w3,W.int 0],W.bH [W.str w4,W.int 0,W.int 0],W.bH [W.str w4,W.bH [W.str w3,W.int 0],W.bH [W.str w2]]]) (by repeat' first |exact uy |refine uA ?_ ?_ |exact uH |exact uM rfl ha (by first |exact qX |exact qU |exact qv |exact qD |exact qH |exact qI) |refine uB ?_ (nL (bJ rfl))) (nL (bJ rfl)) λq hq=>?_))
  have fa:bz S q (.bx [W.int 0,W.bH [W.str w3,W.int 0],W.bH [W.str w4,W.int 0,W.int 0],W.bH [W.str w4,W.bH [W.str w3,W.int 0],W.bH [W.str w2]]]) a=aa (.bx (re w0 w1 w2 w3 w4 w5)):=keep ha hq;cases g
  ·exact u8 (yk rfl) (yC (ws:=[W.bH [W.str w2],W.bH [W.str w3,W.bH [W.str w5]]]) rfl nJ (by repeat' first |exact uy |refine uA ?_ ?_ |exact uH |exact uM rfl fa (by first |exact qX |exact qU |exact qv |exact qD |exact qH |exact qI) |refine uB ?_ (nL (bJ rfl))) (nL (bJ rfl)) (nL (bJ rfl)) λq2 hq2=>⟨_, .refl,h _ q2 ((Sub.bz .refl hq).trans (.bz .refl hq2)) (by rw[nJ];simp [p5,af,gS])⟩)
  ·exact yf (yk rfl) (yC (ws:=[W.bH [W.str w0,W.int 0],W.bH [W.str w1,W.bH [W.str w3,W.int 0],W.int 0],W.bH [W.str w3,W.bH [W.str w0,W.int 0]]]) rfl nJ (by repeat' first |exact uy |refine uA ?_ ?_ |exact uH |exact uM rfl fa (by first |exact qX |exact qU |exact qv |exact qD |exact qH |exact qI) |refine uB ?_ (nL (bJ rfl))) (nL (bJ rfl)) (nL (bJ rfl)) λq2 hq2=>⟨_, .refl,h _ q2 ((Sub.bz .refl hq).trans (.bz .refl hq2)) (by rw[nJ];simp [p5,af,gS])⟩)
 ·refine u8 (vD rfl `d) (u8 (vD rfl `d) (u8 (vD rfl `d) (F1 (ws:=[W.bH [W.str w4,W.int 0,W.int 1],W.bH [W.str w4,W.int 1,W.int 0],W.bH [W.str w4,W.bH [W.str w3,W.int 0],W.int 1],W.bH [W.str w4,W.bH [W.str w4,W.int 0,W.int 0],W.int 1]]) (by repeat' first |exact uy |refine uA ?_ ?_ |exact uH |exact uM rfl ha (by first |exact qX |exact qU |exact qv |exact qD |exact qH |exact qI) |refine uB ?_ (nL (bJ rfl))) (nL (bJ rfl)) λq hq=>?_)))
  have fa:bz S q (.bx [W.bH [W.str w4,W.int 0,W.int 1],W.bH [W.str w4,W.int 1,W.int 0],W.bH [W.str w4,W.bH [W.str w3,W.int 0],W.int 1],W.bH [W.str w4,W.bH [W.str w4,W.int 0,W.int 0],W.int 1]]) a=aa (.bx (re w0 w1 w2 w3 w4 w5)):=keep ha hq;cases g
  ·exact u8 (yk rfl) (yC (ws:=[W.int 0,W.int 1,W.bH [W.str w3,W.int 1],W.bH [W.str w5]]) rfl nJ (by repeat' first |exact uy |refine uA ?_ ?_ |exact uH |exact uM rfl fa (by first |exact qX |exact qU |exact qv |exact qD |exact qH |exact qI) |refine uB ?_ (nL (bJ rfl))) (nL (bJ rfl)) (nL (bJ rfl)) λq2 hq2=>⟨_, .refl,h _ q2 ((Sub.bz .refl hq).trans (.bz .refl hq2)) (by rw[nJ];simp [p5,af,gS])⟩)
  ·exact yf (yk rfl) (yC (ws:=[W.bH [W.str w1,W.int 1,W.int 0],W.bH [W.str w0,W.bH [W.str w4,W.int 0,W.int 1]]]) rfl nJ (by repeat' first |exact uy |refine uA ?_ ?_ |exact uH |exact uM rfl fa (by first |exact qX |exact qU |exact qv |exact qD |exact qH |exact qI) |refine uB ?_ (nL (bJ rfl))) (nL (bJ rfl)) (nL (bJ rfl)) λq2 hq2=>⟨_, .refl,h _ q2 ((Sub.bz .refl hq).trans (.bz .refl hq2)) (by rw[nJ];simp [p5,af,gS])⟩)
 ·refine u8 (vD rfl `d) (u8 (vD rfl `d) (yf (vD rfl `d) (F1 (ws:=[W.bH [W.str w4,W.bH [W.str w4,W.int 0,W.int 1],W.int 2],W.bH [W.str w4,W.int 2,W.bH [W.str w4,W.int 1,W.int 0]],W.bH [W.str w4,W.bH [W.str w4,W.int 0,W.int 0],W.bH [W.str w4,W.int 1,W.int 2]]]) (by repeat' first |exact uy |refine uA ?_ ?_ |exact uH |exact uM rfl ha (by first |exact qX |exact qU |exact qv |exact qD |exact qH |exact qI) |refine uB ?_ (nL (bJ rfl))) (nL (bJ rfl)) λq hq=>?_)))
  have fa:bz S q (.bx [W.bH [W.str w4,W.bH [W.str w4,W.int 0,W.int 1],W.int 2],W.bH [W.str w4,W.int 2,W.bH [W.str w4,W.int 1,W.int 0]],W.bH [W.str w4,W.bH [W.str w4,W.int 0,W.int 0],W.bH [W.str w4,W.int 1,W.int 2]]]) a=aa (.bx (re w0 w1 w2 w3 w4 w5)):=keep ha hq;cases g
  ·exact u8 (yk rfl) (yC (ws:=[W.int 0,W.int 2,W.bH [W.str w4,W.int 1,W.int 1],W.bH [W.str w5]]) rfl nJ (by repeat' first |exact uy |refine uA ?_ ?_ |exact uH |exact uM rfl fa (by first |exact qX |exact qU |exact qv |exact qD |exact qH |exact qI) |refine uB ?_ (nL (bJ rfl))) (nL (bJ rfl)) (nL (bJ rfl)) λq2 hq2=>⟨_, .refl,h _ q2 ((Sub.bz .refl hq).trans (.bz .refl hq2)) (by rw[nJ];simp [p5,af,gS])⟩)
  ·exact yf (yk rfl) (yC (ws:=[W.bH [W.str w0,W.bH [W.str w4,W.bH [W.str w4,W.int 2,W.int 0],W.int 1]],W.bH [W.str w1,W.int 1,W.bH [W.str w4,W.int 0,W.int 2]]]) rfl nJ (by repeat' first |exact uy |refine uA ?_ ?_ |exact uH |exact uM rfl fa (by first |exact qX |exact qU |exact qv |exact qD |exact qH |exact qI) |refine uB ?_ (nL (bJ rfl))) (nL (bJ rfl)) (nL (bJ rfl)) λq2 hq2=>⟨_, .refl,h _ q2 ((Sub.bz .refl hq).trans (.bz .refl hq2)) (by rw[nJ];simp [p5,af,gS])⟩)
 ·lia
end
def Zz (h:0<Rs.length):∃R∈Rs,ow (af Rs) (d % (Rs.length:Int))=aa (gS R):=by
 have h0:(0:Int)<Rs.length:=by lia
 have h1:=dG d (Int.ne_of_gt h0);have h2:=dX d h0;obtain⟨n,hn⟩:=Int.eq_ofNat_of_zero_le h1;rw[hn]at h2⊢;have hl:n<Rs.length:=by lia
 refine⟨Rs[n],dQ hl,?_⟩;rw[sW,qr,bK,aU hl];rfl
def WU (h:Sub S S'):Sub (bz S a o) (bz S' a o):=λb x e=>by
 by_cases z:b=a
 ·subst z;rw[nJ]at e⊢;exact e
 ·rw[oQ z]at e⊢;exact h b x e
def Fi (n:Nat) (h c d:ah):∀L∈bu n h c d,L.depth≤4∧L.au≤7∧L.nb≤3:=by
 intro L hL;unfold bu at hL;split at hL<;>simp only[az,aZ,or_false]at hL
 all_goals first
  | (subst hL;simp [Tr.depth,oy,Tr.au,nI,Tr.nb,nbs])
  | (rcases hL with rfl |rfl<;>simp [Tr.depth,oy,Tr.au,nI,Tr.nb,nbs])
section
variable {w0 w1 w2 w3 w4 w5:ah}{tt:List ah}{ns:List Int}{aw at' ab al:aj}{r:Nat}{E:WX}{D:nQ}{k j:Int}{g:Bool}
theorem J6 (h6:tt.length=6) (k0:0≤k) (j0:0≤j):∀(ls:List Tr) {i:Nat}{C:List Tn}{S:gY}{G:gY→Prop}{x7 x8 x9 x10:Option W},(∀L∈ls,L.depth≤4∧L.au≤7∧L.nb≤3)→C.length+ls.length≤6→S ab=aa (.bx (C.map nN))→S aw=aa (.bx (re w0 w1 w2 w3 w4 w5))→S at'=aa (.bx (tt.map W.str))→ab≠aw→ab≠at'→
  (∀o,G (bz S ab o))→
  (∀(C':List Tn) (x7 x8 x9 x10:Option W),C'.map (λt=>t.2.1)=ls→(C.map (λt=>t.1)=tt.take C.length→(C++C').map (λt=>t.1)=tt.take (C++C').length)→(∀t∈C',t.2.2∈p5 w0 w1 w2 w3 w4 w5 t.2.1.nb g)→D.nx [aa (.b8 ns),aa (.int k),aa (.ref aw),aa (.ref at'),aa (.bl g),aa (.ref ab),aa (.int j),aa (.ref al),x7,x8,x9,x10] (bz S ab (.bx ((C++C').map nN))))→
  nU (qx (oU (wGN 8) (oU (wGN 9) qh))) (Es (r+6) nG) E D G (nums i (af ls)) [aa (.b8 ns),aa (.int k),aa (.ref aw),aa (.ref at'),aa (.bl g),aa (.ref ab),aa (.int j),aa (.ref al),x7,x8,x9,x10] S
 | [],i,C,S,G,x7,x8,x9,x10,hL,hl,hb,hw,ht,n1,n2,hG,h=>by
  simp only[af,nums,nU];have:=h [] x7 x8 x9 x10 rfl (λz=>by simpa using z) (λ_ h=>nomatch h)
  rw[bC,sI hb]at this;exact this
 |L::ls,i,C,S,G,x7,x8,x9,x10,hL,hl,hb,hw,ht,n1,n2,hG,h=>by
  have hLd:=hL L aM;simp only[aS]at hl;simp only[af,nums];refine rY λN hN=>?_;simp only[Es];ext;refine Ht (r:=r+5) 4 hLd.1 `l `l ?_
  try dsimp only
  refine Wn (r:=r+5) hLd.2.2 g hw λS1 rr sb hrr=>?_
  try ext
  refine⟨.inl ⟨`d,`d⟩,v9 (r:=r+5) `l λdraw=>?_⟩
  try ext
  obtain⟨ti,eti,_⟩:=U8 (ss:=tt) (i:=(C.length:Int)) `l `l;simp only[nT (sb _ _ hb),nT (sb _ _ ht),aD,eti,true_and,nT hrr,p9];have rl:=Uh (w0:=w0) (w1:=w1) (w2:=w2) (w3:=w3) (w4:=w4) (w5:=w5) (m:=L.nb) g;obtain⟨R,hRm,hRe⟩:=Zz (Rs:=p5 w0 w1 w2 w3 w4 w5 L.nb g) (d:=draw) `l;have hR:=hRm
  try ext
  refine⟨`l,?_⟩
  try simp only[nT hrr,hRe]
  try ext
  try simp only[nT (sb _ _ hb),aD]
  refine⟨nL `d,rA `l,?_⟩;refine hN _ _ (bz S ab (.bx ((C++[(ti,L,R)]).map nN))) (by rw[bU];exact WU sb) (hG _) ?_;refine J6 h6 k0 j0 ls (C:=C++[(ti,L,R)]) (λM hM=>hL M (aI _ hM)) (by simp;lia) nJ (by rw[oQ (bE n1)];exact hw) (by rw[oQ (bE n2)];exact ht) n1 n2 (λo=>by rw[qa];exact hG o) λC' x7 x8 x9 x10 e1 e2 e3=>?_
  rw[qa];have:=h ((ti,L,R)::C') x7 x8 x9 x10 (by rw[aG,e1]) (λz=>?_) (λt ht'=>?_)
  ·simpa using this
  ·have e:C++[(ti,L,R)]++C'=C++(ti,L,R)::C':=by simp
   rw[e]at e2;refine e2 ?_;rw[bU,z,aW,cj,mJ];congr 1;have e4:(tt.map W.str)[C.length]? =aa (.str ti):=by rw[←sW];exact eti
   rw[bK]at e4;cases q:tt[C.length]? with
   |none=>rw[q]at e4;cases e4
   |some y=>rw[q]at e4;cases e4;rfl
  ·obtain rfl |z:=az.mp ht'
   ·exact hR
   ·exact e3 t z
def zuz{E:ah→gY→Prop}(h6:tt.length=6) (k0:0≤k) (hw:S aw=aa (.bx (re w0 w1 w2 w3 w4 w5))) (ht:S at'=aa (.bx (tt.map W.str)))
  (h:∀(p:aj) (B:List Tn) (n m:Nat),S p=none→B.map (λt=>t.2.1)=bu n w0 w2 w3++bu m w1 w2 w3→B.map (λt=>t.1)=tt.take B.length→(∀t∈B,t.2.2∈p5 w0 w1 w2 w3 w4 w5 t.2.1.nb g)→Q (.ref p) (bz S p (.bx (B.map nN)))):D4 (r+7) [.b8 ns, .int k, .ref aw, .ref at', .bl g] S Q E:=by
 rw[show r+7=r+6+1 from rfl,D4];ext;refine⟨bc _,λab hb=>⟨⟨`d,`d⟩,?_⟩⟩
 refine FT (λi σ S'=>∃(B:List Tn) (f:Nat→Nat) (x5 x6 x7 x8 x9 x10:Option W),B.map (λt=>t.2.1)=(bt i).flatMap (λj=>bu (f j) (tI w0 w1 j) w2 w3)∧B.map (λt=>t.1)=tt.take B.length∧(∀t∈B,t.2.2∈p5 w0 w1 w2 w3 w4 w5 t.2.1.nb g)∧S'=bz S ab (.bx (B.map nN))∧
  σ=[aa (.b8 ns),aa (.int k),aa (.ref aw),aa (.ref at'),aa (.bl g),aa (.ref ab),x5,x6,x7,x8,x9,x10]) 2 ?_ ?_ ⟨[],λ_=>0,none,none,none,none,none,none,rfl,rfl,(λ_ h=>nomatch h),rfl,rfl⟩
 ·rintro j hj σ S' N ⟨B,f,x5,x6,x7,x8,x9,x10,e1,e2,e3,rfl,rfl⟩ hN;have fw:bz S ab (Ob.bx (B.map nN)) aw=aa (.bx (re w0 w1 w2 w3 w4 w5)):=keep hw hb;have ft:bz S ab (Ob.bx (B.map nN)) at'=aa (.bx (tt.map W.str)):=keep ht hb;have fb:bz S ab (Ob.bx (B.map nN)) ab=aa (.bx (B.map nN)):=nJ;have n1:ab≠aw:=λz=>by rw[z,hw]at hb;cases hb
  have n2:ab≠at':=λz=>by rw[z,ht]at hb;cases hb
  have eh:ow (re w0 w1 w2 w3 w4 w5) (j:Int)=aa (.str (tI w0 w1 j)):=by
   rcases(show j=0∨j=1 by lia) with rfl |rfl<;>rfl
  simp only[Ml];ext;refine v9 `l λdraw=>?_;ext;simp only[nT fw,eh,qv,qD];refine⟨`d,UE λal n hal=>?_⟩;have hl:=CJ n (tI w0 w1 j) w2 w3;have hB:B.length≤4:=by
   have:=congrArg dB e1;rw[aD]at this;rcases(show j=0∨j=1 by lia) with rfl |rfl
   ·simp at this;rw[this];simp
   ·simp at this;have:=CJ (f 0) (tI w0 w1 0) w2 w3;lia
  have nal:al≠ab:=λz=>by rw[z,fb]at hal;cases hal
  try ext
  refine J6 (g:=g) h6 k0 `l (bu n (tI w0 w1 j) w2 w3) (Fi _ _ _ _) `l (keep fb hal) (keep fw hal) (keep ft hal) n1 n2 (λo=>?_) λC' x7 x8 x9 x10 g1 g2 g3=>?_
  ·rw[oQ nal,nJ]
  ·refine hN _ _ (bz S ab (.bx ((B++C').map nN))) ?_ ⟨B++C',λi=>if i=j then n else f i,_,_,_,_,_,_,?_,g2 e2,λt ht'=>?_,rfl,rfl⟩
   ·rw[Iy nal];exact .bz .refl (by rw[oQ nal];exact(uC hal).1)
   ·rw[bU,e1,g1,jb,nc];congr 1
    ·rw[ni,ni];congr 1;refine dR λi hi=>?_;have:=eV.mp hi;dsimp only;rw[if_neg `l]
    ·simp
   ·obtain z |z:=bv.mp ht'
    ·exact e3 t z
    ·exact g3 t z
 ·rintro σ S' ⟨B,f,x5,x6,x7,x8,x9,x10,e1,e2,e3,rfl,rfl⟩;ext;refine⟨_, .refl,h ab B (f 0) (f 1) hb ?_ e2 e3⟩;rw[e1];simp [jb,tI]
end
mutual
noncomputable def Tr.ord (k:Nat):Tr→Option Nat
 | .bl n=>if n=(k:Int) then aa (k+1) else none
 | .nd _ ts=>tG k ts
noncomputable def tG (k:Nat):List Tr→Option Nat
 | []=>aa k
 |t::ts=>match t.ord k with
  |some m=>tG m ts
  |none=>none
end
def Dz (B:List Tn) (z:ah):Prop:=∀u∈B,∀s ls,u.2.1= .nd s ls→s≠z
structure sY (B:List Tn):Prop where
  inn:∀t∈B,∃s ls,t.2.1= .nd s ls∧pH (Dz B) ls
  mt:FK B
  fm:∀t∈B,∀x ys,t.2.1.mt x=aa ys→x=t.2.1.aB ys∧ys.length=t.2.1.nb
  one:∀u∈B,∀v∈B,∀x:Tr,(u.2.1.mt x).isSome=true→(v.2.1.mt x).isSome=true→u=v
  od:∀t∈B,t.2.1.ord 0=aa t.2.1.nb
mutual
theorem Oi:∀(L x:Tr) (ys:List Tr) (k m:Nat),L.ord k=aa m→L.mt x=aa ys→ys.length+k=m∧ ∀pre post:List Tr,pre.length=k→L.aB (pre++ys++post)=x
 | .bl n,x,ys,k,m,h,e=>by
  rw[Tr.ord]at h;split at h
  ·rename_i hn;cases h;rw[Tr.mt]at e;cases e;refine⟨by simp;lia,λpre post hp=>?_⟩;rw[Tr.aB,hn,cy,bF,b7,gU `l,hp,ge];rfl
  ·cases h
 | .nd s ls, .bl n,ys,k,m,h,e=>by rw[Tr.mt]at e;cases e
 | .nd s ls, .nd z us,ys,k,m,h,e=>by
  rw[Tr.mt]at e;split at e
  ·rename_i hc;rw[bV,beq_iff_eq,beq_iff_eq]at hc;rw[Tr.ord]at h;obtain⟨h1,h2⟩:=JR ls us ys k m hc.2 h e;exact⟨h1,λpre post hp=>by rw[Tr.aB,h2 pre post hp,hc.1]⟩
  ·cases e
theorem JR:∀(ls us ys:List Tr) (k m:Nat),ls.length=us.length→tG k ls=aa m→oP ls us=aa ys→ys.length+k=m∧ ∀pre post:List Tr,pre.length=k→oG (pre++ys++post) ls=us
 | [],us,ys,k,m,hl,h,e=>by
  rw[tG]at h;cases h;rw[oP]at e;cases e;cases us with
  |nil=>exact⟨`s,λ_ _ _=>by rw[oG]⟩
  |cons _ _=>cases hl
 |l::ls,[],ys,k,m,hl,h,e=>by cases hl
 |l::ls,u::us,ys,k,m,hl,h,e=>by
  rw[tG]at h;rw[oP]at e;cases q:l.ord k with
  |none=>rw[q]at h;cases h
  |some j=>
   rw[q]at h;cases q1:l.mt u with
   |none=>rw[q1]at e;cases e
   |some xs=>
    rw[q1]at e;cases q2:oP ls us with
    |none=>rw[q2]at e;cases e
    |some zs=>
     rw[q2]at e;cases e;obtain⟨h1,h2⟩:=Oi l u xs k j q q1;obtain⟨h3,h4⟩:=JR ls us zs j m (by simpa using hl) h q2;refine⟨by rw[aW];lia,λpre post hp=>?_⟩;rw[oG];have e1:=h2 pre (zs++post) hp;have e2:=h4 (pre++xs) post (by rw[aW];lia);have a1:pre++(xs++zs)++post=pre++xs++(zs++post):=by simp
     have a2:pre++(xs++zs)++post=pre++xs++zs++post:=by simp
     rw[a1,e1,←a1,a2,e2]
end
def Pt (hL:L∈bu n h c d):L.ord 0=aa L.nb:=by
 unfold bu at hL;split at hL<;>simp only[az,aZ,or_false]at hL
 all_goals first
  | (subst hL;simp [Tr.ord,tG,Tr.nb,nbs])
  | (rcases hL with rfl |rfl<;>simp [Tr.ord,tG,Tr.nb,nbs])
def Dt{P:ah→Prop}(hc:P c) (hd:P d) (hL:L∈bu n h c d):∃ls,L= .nd h ls∧pH P ls:=by
 unfold bu at hL;split at hL<;>simp only[az,aZ,or_false]at hL
 all_goals first
  | (subst hL;exact⟨_,rfl,by simp [pH,Tr.hb,hc,hd]⟩)
  | (rcases hL with rfl |rfl<;>exact⟨_,rfl,by simp [pH,Tr.hb,hc,hd]⟩)
def nV.mem_lefts (b:nV w0 w1 w2 w3 w4 w5 tt B) (ht:t∈B):∃n,t.2.1∈bu n w0 w2 w3∨t.2.1∈bu n w1 w2 w3:=by
 obtain⟨n,m,e⟩:=b.lf;have:t.2.1∈bu n w0 w2 w3++bu m w1 w2 w3:=by rw[←e];exact bp.mpr ⟨t,ht,rfl⟩
 obtain z |z:=bv.mp this
 ·exact⟨n, .inl z⟩
 ·exact⟨m, .inr z⟩
def nV.ort (b:nV w0 w1 w2 w3 w4 w5 tt B) (G:p8 w0 w1 w2 w3 w4 w5):sY B:=by
 have top:∀z,z≠w0→z≠w1→Dz B z:=λz h0 h1 u hu s ls e=>by
  obtain⟨n,z |z⟩:=b.mem_lefts hu
  ·obtain⟨l,e',_⟩:=Dt (P:=λ_=>True) trivial trivial z;rw[e]at e';cases e';exact h0.symm
  ·obtain⟨l,e',_⟩:=Dt (P:=λ_=>True) trivial trivial z;rw[e]at e';cases e';exact h1.symm
 have t2:=top w2 (G.n0 w2 `s).symm (G.n1 w2 `s).symm;have t3:=top w3 (G.n0 w3 `s).symm (G.n1 w3 `s).symm;have od:∀t∈B,t.2.1.ord 0=aa t.2.1.nb:=λt ht=>by
  obtain⟨n,z |z⟩:=b.mem_lefts ht
  ·exact Pt z
  ·exact Pt z
 refine⟨λt ht=>?_,b.mt,λt ht x ys e=>?_,λu hu v hv x h1 h2=>Kd (b.inj G) hu hv (b.one G hu hv h1 h2),od⟩
 ·obtain⟨n,z |z⟩:=b.mem_lefts ht
  ·obtain⟨l,e',h⟩:=Dt t2 t3 z;exact⟨_,_,e',h⟩
  ·obtain⟨l,e',h⟩:=Dt t2 t3 z;exact⟨_,_,e',h⟩
 ·have ho:=od t ht;obtain⟨h1,h2⟩:=Oi _ _ _ _ _ ho e;have:=h2 [] [] rfl;simp only[aQ,bC]at this;exact⟨this.symm,`l⟩
structure Wy (ws:List ah) (B:List Tn) (a:Tr):Prop where
  hd:a.hd λs=>s∈ws∨ ∃t∈B,t.1=s
  ar:a.ar B
noncomputable abbrev ak (B:List Tn) (a:Tr):Tr:=a.mk B λt=>t.2.1
noncomputable abbrev bO (B:List Tn) (a:Tr):Tr:=a.mk B λt=>t.2.2
theorem A3{P:ah→Prop}:∀{ts:List Tr}{t:Tr},hds P ts→t∈ts→t.hd P
 |u::ts,t,h,ht=>by
  rw[hds]at h;obtain rfl |ht:=az.mp ht
  ·exact h.1
  ·exact A3 h.2 ht
theorem GF:∀{ts:List Tr}{t:Tr},tp B ts→t∈ts→t.ar B
 |u::ts,t,h,ht=>by
  rw[tp]at h;obtain rfl |ht:=az.mp ht
  ·exact h.1
  ·exact GF h.2 ht
theorem Wy.cases (b:o7 ws ws B) (h:Wy ws B a):(∃s as,a= .nd s as∧s∈ws∧n_ B s=none∧ ∀x∈as,Wy ws B x)∨(∃t as,t∈B∧a= .nd t.1 as∧n_ B t.1=aa t∧as.length=t.2.1.nb∧ ∀x∈as,Wy ws B x):=by
 obtain⟨h1,h2⟩:=h;cases a with
 |bl n=>rw[Tr.hd]at h1;exact h1.elim
 |nd s as=>
  rw[Tr.hd]at h1;rw[Tr.ar]at h2;have cF:∀x∈as,Wy ws B x:=λx hx=>⟨A3 h1.2 hx,GF h2.2 hx⟩;obtain h |⟨t,ht,rfl⟩:=h1.1
  ·exact .inl ⟨s,as,rfl,h,uw b.ti (b.sg s h),cF⟩
  ·have e:=vI b.nd ht;exact .inr ⟨t,as,ht,rfl,e,h2.1 t e,cF⟩
def tO{g:Tn→Tr}(h:n_ B s=none):(Tr.nd s as).mk B g= .nd s (as.map (Tr.mk B g)):=by
 rw[Tr.mk,h,yx]
def sL{g:Tn→Tr}(h:n_ B t.1=aa t):(Tr.nd t.1 as).mk B g=(g t).aB (as.map (Tr.mk B g)):=by
 rw[Tr.mk,h,yx]
mutual
theorem Zk (b:o7 ws ws B) (O:sY B):∀(L a:Tr),L.hb (Dz B)→Wy ws B a→(L.mt (ak B a)).isSome=true→(L.mt a).isSome=true
 | .bl n,a,_,_,_=>by rw[Tr.mt];rfl
 | .nd z ls,a,hL,ha,h=>by
  rw[Tr.hb]at hL;obtain ⟨s,as,rfl,hs,e,cF⟩ |⟨t,as,ht,rfl,e,hl,cF⟩:=ha.cases b
  ·rw[show ak B (.nd s as)= .nd s (as.map (ak B)) from tO e,Tr.mt,aD]at h;rw[Tr.mt];split at h
   ·rename_i hc;rw[if_pos hc];exact Hv b O ls as hL.2 cF h
   ·cases h
  ·obtain⟨s0,l0,e0,_⟩:=O.inn t ht;rw[show ak B (.nd t.1 as)=t.2.1.aB (as.map (ak B)) from sL e,e0,Tr.aB]at h;exact absurd (Gv h).symm (hL.1 t ht s0 l0 e0)
theorem Hv (b:o7 ws ws B) (O:sY B):∀(ls as:List Tr),pH (Dz B) ls→(∀x∈as,Wy ws B x)→(oP ls (as.map (ak B))).isSome=true→(oP ls as).isSome=true
 | [],as,_,_,_=>by rw[oP];rfl
 |l::ls,[],_,_,_=>by rw[oP];rfl
 |l::ls,a::as,hL,ha,h=>by
  rw[pH]at hL;rw[aG,oP]at h;cases q1:l.mt (ak B a) with
  |none=>rw[q1]at h;cases h
  |some xs=>
   rw[q1]at h;cases q2:oP ls (as.map (ak B)) with
   |none=>rw[q2]at h;cases h
   |some zs=>
    have h1:=Zk b O l a hL.1 (ha a `s) (by rw[q1];rfl);have h2:=Hv b O ls as hL.2 (λx hx=>ha x (aI _ hx)) (by rw[q2];rfl);obtain⟨x1,h1⟩:=eY.mp h1;obtain⟨x2,h2⟩:=eY.mp h2;rw[oP,h1,h2];rfl
end
def Wy.cF (h:Wy ws B (.nd s as)):∀x∈as,Wy ws B x:=λx hx=>by
 obtain⟨h1,h2⟩:=h;rw[Tr.hd]at h1;rw[Tr.ar]at h2;exact⟨A3 h1.2 hx,GF h2.2 hx⟩
mutual
theorem HA:∀(L a:Tr) (ys:List Tr),L.mt a=aa ys→Wy ws B a→ ∀y∈ys,Wy ws B y
 | .bl n,a,ys,e,h,y,hy=>by
  rw[Tr.mt]at e;cases e;rw[bw]at hy;rw[hy];exact h
 | .nd s ls, .bl n,ys,e,h,y,hy=>by rw[Tr.mt]at e;cases e
 | .nd s ls, .nd z us,ys,e,h,y,hy=>by
  rw[Tr.mt]at e;split at e
  ·exact KL ls us ys e h.cF y hy
  ·cases e
theorem KL:∀(ls us ys:List Tr),oP ls us=aa ys→(∀x∈us,Wy ws B x)→ ∀y∈ys,Wy ws B y
 | [],us,ys,e,h,y,hy=>by rw[oP]at e;cases e;cases hy
 |l::ls,[],ys,e,h,y,hy=>by rw[oP]at e;cases e;cases hy
 |l::ls,u::us,ys,e,h,y,hy=>by
  rw[oP]at e;cases q1:l.mt u with
  |none=>rw[q1]at e;cases e
  |some xs=>
   rw[q1]at e;cases q2:oP ls us with
   |none=>rw[q2]at e;cases e
   |some zs=>
    rw[q2]at e;cases e;obtain hy |hy:=bv.mp hy
    ·exact HA l u xs q1 (h u `s) y hy
    ·exact KL ls us zs q2 (λx hx=>h x (aI _ hx)) y hy
end
def IQ (b:o7 ws ws B) (ht:t∈B) (hl:vs.length=t.2.1.nb) (g:Tn→Tr):(t.2.1.aB vs).mk B g=t.2.1.aB (vs.map (Tr.mk B g)):=
 BN b.ti _ (b.lf t ht).hb (by rw[hl];exact(b.lf t ht).a_)
def Hr (b:o7 ws ws B) (O:sY B) (ht:t∈B) (e:n_ B s=none) (hw:Wy ws B (.nd s bs)) (hl:us.length=t.2.1.nb) (h:ak B (.nd s bs)=t.2.1.aB us) :
  ∃vs, .nd s bs=t.2.1.aB vs∧vs.length=t.2.1.nb∧vs.map (ak B)=us∧(∀x∈vs,Wy ws B x)∧nI vs≤(Tr.nd s bs).au:=by
 obtain⟨s0,ls,e0,hin⟩:=O.inn t ht;have hm:t.2.1.mt (ak B (.nd s bs))=aa us:=by rw[h];exact O.mt t ht us hl
 have h1:(t.2.1.mt (.nd s bs)).isSome=true:=by
  have hm':=hm;rw[show ak B (.nd s bs)= .nd s (bs.map (ak B)) from tO e,e0,Tr.mt,aD]at hm';rw[e0,Tr.mt];split at hm'
  ·rename_i hc;rw[if_pos hc];exact Hv b O ls bs hin hw.cF (by rw[hm'];rfl)
  ·cases hm'
 obtain⟨vs,hv⟩:=eY.mp h1;obtain⟨h2,h3⟩:=O.fm t ht _ _ hv;refine⟨vs,h2,h3,?_,HA _ _ _ hv hw,Jr _ _ _ hv⟩;rw[h2,show ak B (t.2.1.aB vs)=_ from IQ b ht h3 _,O.mt t ht _ (by rw[aD,h3])]at hm;exact aL hm
def vS:(Tr.nd s as).au=1+nI as:=by rw[Tr.au]
inductive yI (P:Int→Prop):Pl→Prop
 |sign {b:Int}{h:ah}{ps:List Pl}:(∀p∈ps,yI P p)→yI P (.nd (-1) b h ps)
 |turn {k:Nat}{b:Int}{h:ah}{ps:List Pl}:P b→(∀p∈ps,yI P p)→yI P (.nd k b h ps)
def Bd (x:Int):Prop:=x=1∨x=2∨x=3
theorem CY (b:o7 ws ws B) (O:sY B):∀(n:Nat) (x y:Tr),x.au+y.au≤n→Wy ws B x→Wy ws B y→ak B x=ak B y→ ∃p,oE ws B p∧yI Bd p∧p.ev B (oq 1)=x∧p.ev B (oq 2)=y
 |0,x,y,hn,hx,hy,e=>by
  rcases hx.cases b with⟨s,as,rfl,_⟩ |⟨t,as,_,rfl,_⟩<;>rw[vS]at hn<;>lia
 |n+1,x,y,hn,hx,hy,e=>by
  have lists:∀(xs ys:List Tr),nI xs+nI ys≤n→(∀x∈xs,Wy ws B x)→(∀y∈ys,Wy ws B y)→xs.map (ak B)=ys.map (ak B)→ ∃ps:List Pl,(∀p∈ps,oE ws B p)∧(∀p∈ps,yI Bd p)∧ps.map (Pl.ev B (oq 1))=xs∧ps.map (Pl.ev B (oq 2))=ys:=by
   intro xs
   induction xs with
   |nil=>
    intro ys _ _ _ e;cases ys with
    |nil=>exact⟨[],`s,`s,rfl,rfl⟩
    |cons y ys=>cases e
   |cons x xs ih=>
    intro ys hw h1 h2 e;cases ys with
    |nil=>cases e
    |cons y ys=>
     rw[aG,aG,gd]at e;rw[nI,nI]at hw;obtain⟨p,hp,hq,e1,e2⟩:=CY b O n x y `l (h1 x `s) (h2 y `s) e.1;obtain⟨ps,hps,hqs,e3,e4⟩:=ih ys `l (λz hz=>h1 z (aI _ hz)) (λz hz=>h2 z (aI _ hz)) e.2;exact⟨p::ps,λq hq=>by
      obtain rfl |hq:=az.mp hq
      ·exact hp
      ·exact hps q hq,λq hz=>by
      obtain rfl |hz:=az.mp hz
      ·exact hq
      ·exact hqs q hz,by rw[aG,e1,e3],by rw[aG,e2,e4]⟩
  obtain ⟨s,as,rfl,hs,es,ka⟩ |⟨t,as,ht,rfl,et,la,ka⟩:=hx.cases b
  ·obtain ⟨s',bs,rfl,hs',es',kb⟩ |⟨t,bs,ht,rfl,et,lb,kb⟩:=hy.cases b
   ·rw[show ak B (.nd s as)=_ from tO es,show ak B (.nd s' bs)=_ from tO es']at e;injection e with e1 e2;subst e1;rw[vS,vS]at hn;obtain⟨ps,hps,hqs,e3,e4⟩:=lists as bs `l ka kb e2;exact⟨.nd (-1) 0 s ps, .sign hs hps, .sign hqs,by rw[rF,e3],by rw[rF,e4]⟩
   ·rw[show ak B (.nd t.1 bs)=_ from sL et]at e;obtain⟨vs,ev,lv,ms,kv,wv⟩:=Hr b O ht es hx (by rw[aD,lb]) e;rw[vS (s:=t.1)]at hn;obtain⟨ps,hps,hqs,e3,e4⟩:=lists vs bs `l kv kb ms;obtain⟨k,hk⟩:=jf ht;refine⟨.nd k 2 t.1 ps, .turn hk (by rw[←lb,←e4,aD]) `d `d hps, .turn (by unfold Bd;decide) hqs,?_,?_⟩
    ·rw[qY hk,e3,ev,show oq 1 2=0 by decide];rfl
    ·rw[qY hk,e4,show oq 2 2=1 by decide];rfl
  ·obtain ⟨s,bs,rfl,hs,es,kb⟩ |⟨u,bs,hu,rfl,eu,lb,kb⟩:=hy.cases b
   ·rw[show ak B (.nd t.1 as)=_ from sL et]at e;obtain⟨vs,ev,lv,ms,kv,wv⟩:=Hr b O ht es hy (by rw[aD,la]) e.symm;rw[vS (s:=t.1)]at hn;obtain⟨ps,hps,hqs,e3,e4⟩:=lists as vs `l ka kv ms.symm;obtain⟨k,hk⟩:=jf ht;refine⟨.nd k 1 t.1 ps, .turn hk (by rw[←la,←e3,aD]) `d `d hps, .turn (by unfold Bd;decide) hqs,?_,?_⟩
    ·rw[qY hk,e3,show oq 1 1=1 by decide];rfl
    ·rw[qY hk,e4,ev,show oq 2 1=0 by decide];rfl
   ·rw[show ak B (.nd t.1 as)=_ from sL et,show ak B (.nd u.1 bs)=_ from sL eu]at e;have m1:=O.mt t ht (as.map (ak B)) (by rw[aD,la]);have m2:=O.mt u hu (bs.map (ak B)) (by rw[aD,lb]);have:t=u:=O.one t ht u hu _ (by rw[m1];rfl) (by rw[show(t.2.1.aB (as.map (ak B)))=_ from e,m2];rfl)
    subst this;have e2:as.map (ak B)=bs.map (ak B):=by
     rw[show(t.2.1.aB (as.map (ak B)))=_ from e,m2]at m1;exact(aL m1).symm
    rw[vS,vS]at hn;obtain⟨ps,hps,hqs,e3,e4⟩:=lists as bs `l ka kb e2;obtain⟨k,hk⟩:=jf ht;refine⟨.nd k 3 t.1 ps, .turn hk (by rw[←la,←e3,aD]) `d `d hps, .turn (by unfold Bd;decide) hqs,?_,?_⟩
    ·rw[qY hk,e3,show oq 1 3=1 by decide];rfl
    ·rw[qY hk,e4,show oq 2 3=1 by decide];rfl
theorem Mg:∀xs ys:List Tr,nI (xs++ys)=nI xs+nI ys
 | [],ys=>by rw[aQ,nI,ca]
 |x::xs,ys=>by rw[bY,nI,nI,Mg xs ys,Nat.add_assoc]
mutual
theorem GU:∀(L:Tr) (k m:Nat),L.ord k=aa m→k≤m∧L.nb+k=m∧ ∀(us:List Tr),m≤us.length→(L.aB us).au+(m - k)=L.au+nI ((us.drop k).take (m - k))∧ ∀u∈(us.drop k).take (m - k),u.depth≤(L.aB us).depth
 | .bl n,k,m,h=>by
  rw[Tr.ord]at h;split at h
  ·rename_i hn;cases h;refine⟨`l,by rw[Tr.nb];lia,λus hu=>?_⟩
   have hk:k<us.length:=by lia
   have e:(us.drop k).take (k+1 - k)=[us[k]]:=by
    rw[show k+1 - k=1 by lia,fA hk]
    rfl
   have f:(Tr.bl n).aB us=us[k]:=by
    rw[Tr.aB,hn,cy,bF,aU hk];rfl
   rw[e,f];refine⟨?_,λu hu=>?_⟩
   ·simp only[Tr.au,nI];lia
   ·rw[bw]at hu;rw[hu];exact aE _
  ·cases h
 | .nd s ls,k,m,h=>by
  rw[Tr.ord]at h;obtain⟨h1,h2,h3⟩:=DT ls k m h;refine⟨h1,by rw[Tr.nb];exact h2,λus hu=>?_⟩
  obtain⟨h4,h5⟩:=h3 us hu;rw[Tr.aB,Tr.au,Tr.au,Tr.depth];exact⟨`l,λu hu'=>bI (h5 u hu') `l⟩
theorem DT:∀(ls:List Tr) (k m:Nat),tG k ls=aa m→k≤m∧nbs ls+k=m∧ ∀(us:List Tr),m≤us.length→nI (oG us ls)+(m - k)=nI ls+nI ((us.drop k).take (m - k))∧ ∀u∈(us.drop k).take (m - k),u.depth≤oy (oG us ls)
 | [],k,m,h=>by
  rw[tG]at h;cases h;refine⟨aE _,by rw[nbs];lia,λus _=>?_⟩
  rw[ge,m9,oG];exact⟨rfl,λu hu=>by cases hu⟩
 |l::ls,k,m,h=>by
  rw[tG]at h;cases q:l.ord k with
  |none=>rw[q]at h;cases h
  |some j=>
   rw[q]at h;obtain⟨h1,h2,h3⟩:=GU l k j q;obtain⟨g1,g2,g3⟩:=DT ls j m h;refine⟨`l,by rw[nbs];lia,λus hu=>?_⟩
   obtain⟨h4,h5⟩:=h3 us `l;obtain⟨g4,g5⟩:=g3 us hu;have e:(us.drop k).take (m - k)=(us.drop k).take (j - k)++(us.drop j).take (m - j):=by
    rw[show m - k=(j - k)+(m - j) by lia,m_,lR,show k+(j - k)=j by lia]
   rw[e,Mg,oG,nI,nI,oy];refine⟨`l,λu hu=>?_⟩;obtain hu |hu:=bv.mp hu
   ·have:=h5 u hu;lia
   ·have:=g5 u hu;lia
end
def XT:∀(L:Tr),L.nb≤L.au:=λL=>by rw[←Lz];exact Ex L
theorem OX:∀ls:List Tr,nbs ls≤nI ls
 | []=>by rw[nbs,nI];exact aE _
 |l::ls=>by rw[nbs,nI];have:=XT l;have:=OX ls;lia
def sY.aB (O:sY B) (ht:t∈B) (hl:us.length=t.2.1.nb):(t.2.1.aB us).au+t.2.1.nb=t.2.1.au+nI us∧1+nI us≤(t.2.1.aB us).au∧1+oy us≤(t.2.1.aB us).depth:=by
 obtain⟨s,ls,e,_⟩:=O.inn t ht;have ho:=O.od t ht;obtain⟨_,h2,h3⟩:=GU _ _ _ ho;obtain⟨h4,_⟩:=h3 us `l;rw[eA,di,dZ `l]at h4;have hw:1+t.2.1.nb≤t.2.1.au:=by
  rw[e,Tr.nb,Tr.au];have:=OX ls;lia
 refine⟨h4,`l,?_⟩
 rw[e]at ho hl⊢;rw[Tr.ord]at ho;obtain⟨_,_,g3⟩:=DT _ _ _ ho;obtain⟨_,g5⟩:=g3 us `l;rw[eA,di,dZ `l]at g5;rw[Tr.aB,Tr.depth];have:=Pf g5;lia
def zr:Int→Nat:=λ_=>0
section
variable {B:List Tn}
mutual
noncomputable def Tr.ne (B:List Tn):Tr→Nat
 | .bl _=>0
 | .nd s ts=>(match n_ B s with
  |none=>0
  |some _=>1)+qu B ts
noncomputable def qu (B:List Tn):List Tr→Nat
 | []=>0
 |t::ts=>max (t.ne B) (qu B ts)
end
theorem EB:∀{ts:List Tr},t∈ts→t.ne B≤qu B ts
 |u::ts,h=>by
  rw[qu];obtain rfl |h:=az.mp h
  ·lia
  ·have:=EB h;lia
theorem zj:∀{ts:List Tr},(∀t∈ts,t.ne B≤n)→qu B ts≤n
 | [],_=>by rw[qu];lia
 |t::ts,h=>by
  rw[qu];have:=h t `s;have:=zj λu hu=>h u (aI _ hu);lia
mutual
theorem BX (hB:∀t∈B,qR t.1):∀t:Tr,t.hb qm→(t.aB us).ne B≤qu B us
 | .bl n,_=>by
  rw[Tr.aB,bF];cases e:us[n.toNat]? with
  |none=>simp [Tr.ne]
  |some u=>exact EB (bX e)
 | .nd s ts,h=>by
  rw[Tr.hb]at h;rw[Tr.aB,Tr.ne,uw hB h.1];have:=Ie hB (us:=us) ts h.2;simpa using this
theorem Ie (hB:∀t∈B,qR t.1):∀ts:List Tr,pH qm ts→qu B (oG us ts)≤qu B us
 | [],_=>by rw[oG,qu];lia
 |t::ts,h=>by
  rw[pH]at h;rw[oG,qu];have:=BX hB (us:=us) t h.1;have:=Ie hB (us:=us) ts h.2;lia
end
mutual
theorem KS:∀(L:Tr) (k m:Nat),L.ord k=aa m→ ∀(us:List Tr),m≤us.length→ ∀u∈(us.drop k).take (m - k),u.ne B≤(L.aB us).ne B
 | .bl n,k,m,h,us,hu,u,hm=>by
  rw[Tr.ord]at h;split at h
  ·rename_i hn;cases h;have hk:k<us.length:=by lia
   have e:(us.drop k).take (k+1 - k)=[us[k]]:=by
    rw[show k+1 - k=1 by lia,fA hk]
    rfl
   have f:(Tr.bl n).aB us=us[k]:=by
    rw[Tr.aB,hn,cy,bF,aU hk];rfl
   rw[e,bw]at hm;rw[f,hm];exact aE _
  ·cases h
 | .nd s ls,k,m,h,us,hu,u,hm=>by
  rw[Tr.ord]at h;have:=Ia ls k m h us hu u hm;rw[Tr.aB,Tr.ne];lia
theorem Ia:∀(ls:List Tr) (k m:Nat),tG k ls=aa m→ ∀(us:List Tr),m≤us.length→ ∀u∈(us.drop k).take (m - k),u.ne B≤qu B (oG us ls)
 | [],k,m,h,us,hu,u,hm=>by
  rw[tG]at h;cases h;rw[ge,m9]at hm;cases hm
 |l::ls,k,m,h,us,hu,u,hm=>by
  rw[tG]at h;cases q:l.ord k with
  |none=>rw[q]at h;cases h
  |some j=>
   rw[q]at h;obtain⟨h1,_,_⟩:=GU l k j q;obtain⟨g1,_,_⟩:=DT ls j m h;have e:(us.drop k).take (m - k)=(us.drop k).take (j - k)++(us.drop j).take (m - j):=by
    rw[show m - k=(j - k)+(m - j) by lia,m_,lR,show k+(j - k)=j by lia]
   rw[e]at hm;rw[oG,qu];obtain hm |hm:=bv.mp hm
   ·have:=KS l k j q us `l u hm;lia
   ·have:=Ia ls j m h us hu u hm;lia
end
def sY.ne (O:sY B) (ht:t∈B) (hl:us.length=t.2.1.nb):qu B us≤(t.2.1.aB us).ne B:=zj λu hu=>by
 refine KS _ _ _ (O.od t ht) us `l u ?_;rw[eA,di,dZ `l];exact hu
def Ih{c:Int→Nat}{p:Pl}{ps:List Pl}(hp:p∈ps):(p.ev B c).ne B≤qu B (ps.map (Pl.ev B c)):=EB (bp.mpr ⟨p,hp,rfl⟩)
def RS{c d:Int→Nat}(b:o7 ws ws B) (O:sY B) (hc:xL c) (hd:xL d) {p:Pl}(h:oE ws B p):(p.ev B (r8 c d)).ne B≤(p.ev B c).ne B:=by
 induction h with
 | @sign b' h ps hh hp ih=>
  have:qu B (ps.map (Pl.ev B (r8 c d)))≤qu B (ps.map (Pl.ev B c)):=zj λu hu=>by
   obtain⟨p,hp,rfl⟩:=bp.mp hu;exact bI (ih p hp) (Ih hp)
  have e:=uw b.ti (b.sg h hh);rw[rF,rF,Tr.ne,Tr.ne,e];simpa using this
 | @turn k b' h ps t e hl b0 b1 hp ih=>
  have ht:t∈B:=bX e;have key:qu B (ps.map (Pl.ev B (r8 c d)))≤qu B (ps.map (Pl.ev B c)):=zj λu hu=>by
   obtain⟨p,hp,rfl⟩:=bp.mp hu;exact bI (ih p hp) (Ih hp)
  have l1:(ps.map (Pl.ev B c)).length=t.2.1.nb:=by rw[aD,hl]
  have low:qu B (ps.map (Pl.ev B c))+c b'≤(sN t (c b') (ps.map (Pl.ev B c))).ne B:=by
   have:=hc b' b0 b1;by_cases h1:c b'=1
   ·rw[h1];show _≤(Tr.nd t.1 _).ne B;rw[Tr.ne,vI b.nd ht];show _≤1+_;lia
   ·rw[show c b'=0 by lia]
    exact O.ne ht l1
  rw[qY e,qY e];refine bI ?_ low;have hp:r8 c d b'=if d b'=1 then 2 else c b':=rfl;rw[hp];by_cases dz:d b'=1
  ·rw[if_pos dz];have:=BX b.ti (us:=ps.map (Pl.ev B (r8 c d))) t.2.2 ((b.ri t ht).hb b.sg);show(t.2.2.aB _).ne B≤_;lia
  ·rw[if_neg dz];have:=hc b' b0 b1;by_cases h1:c b'=1
   ·rw[h1];show(Tr.nd t.1 _).ne B≤_;rw[Tr.ne,vI b.nd ht];show 1+_≤_;lia
   ·rw[show c b'=0 by lia]
    have:=BX b.ti (us:=ps.map (Pl.ev B (r8 c d))) t.2.1 (b.lf t ht).hb;show(t.2.1.aB _).ne B≤_;lia
end
theorem BS{B:List Tn}{m:Nat}{s z:ah}{ts us:List Tr}{d:Tr}(g:Mv B m (.nd s ts) (.nd z us) d):match n_ B s,n_ B z with
  |none,none=>∃n ds,pC B n ts us ds∧d= .nd s ds
  |none,aa t=>∃n ms ds,t.2.1.mt (.nd s ts)=aa ms∧pC B n ms us ds∧d=t.2.2.aB ds
  |some t,none=>∃n ms ds,t.2.1.mt (.nd z us)=aa ms∧pC B n ts ms ds∧d= .nd s ds
  |some _,aa t=>∃n ds,pC B n ts us ds∧d=t.2.2.aB ds:=by
 cases g with
 |nn g1 g2 g3=>rw[g1,g2];exact⟨_,_,g3,rfl⟩
 |ns g1 g2 g3 g4 g5=>rw[g1,g2];exact⟨_,_,_,g3,g5,rfl⟩
 |sn g1 g2 g3 g4=>rw[g1,g2];exact⟨_,_,_,g3,g4,rfl⟩
 |ss g1 g2 g3 g4=>rw[g1,g2];exact⟨_,_,g4,rfl⟩
theorem Ar{B:List Tn}{n m:Nat}(f:∀{a b c d:Tr},Mv B n a b c→Mv B m a b d→c=d):∀(a:List Tr) {b c d:List Tr},pC B n a b c→pC B m a b d→c=d
 | [],_,_,_,h,g=>by cases h;cases g;rfl
 |_::a,_,_,_,h,g=>by
  cases h with
  |cons h1 h2=>
   cases g with
   |cons g1 g2=>rw[f h1 g1,Ar f a h2 g2]
def Mv.one{n:Nat}:∀{m:Nat}{a b c d:Tr},Mv B n a b c→Mv B m a b d→c=d:=by
 induction n with
 |zero=>intro m a b c d h;cases h
 |succ n ih=>
  intro m a b c d h g;cases h with
  |nn h1 h2 h3=>have q:=BS g;rw[h1,h2]at q;obtain⟨_,_,q,rfl⟩:=q;rw[Ar ih _ h3 q]
  |ns h1 h2 h3 h4 h5=>have q:=BS g;rw[h1,h2]at q;obtain⟨_,_,_,e,q,rfl⟩:=q;rw[h3]at e;cases e;rw[Ar ih _ h5 q]
  |sn h1 h2 h3 h4=>have q:=BS g;rw[h1,h2]at q;obtain⟨_,_,_,e,q,rfl⟩:=q;rw[h3]at e;cases e;rw[Ar ih _ h4 q]
  |ss h1 h2 h3 h4=>have q:=BS g;rw[h1,h2]at q;obtain⟨_,_,q,rfl⟩:=q;rw[Ar ih _ h4 q]
open Classical in
noncomputable def res (B:List Tn) (x y:Tr):Tr:=if h:∃z n,Mv B n x y z then choose h else x
def Mv.res (h:Mv B n x y z):res B x y=z:=by
 unfold L2.res;have e:∃z n,Mv B n x y z:=⟨z,n,h⟩;rw[dif_pos e];obtain⟨m,h'⟩:=Classical.choose_spec e;exact Mv.one h' h
structure Bk3 (ws:List ah) (B:List Tn):Prop where
  b:o7 ws ws B
  O:sY B
  lw:∀t∈B,t.2.1.hb λs=>s∈ws
structure N9 (ws:List ah) (B:List Tn):Prop extends Bk3 ws B where
  sl:XL B
instance {ws:List ah}{B:List Tn}:Coe (N9 ws B) (Bk3 ws B):=⟨N9.toBk3⟩
def Bk3.wy (K:Bk3 ws B) {c:Int→Nat}(h:oE ws B p):Wy ws B (p.ev B c):=by
 refine⟨?_,LL _ (Lp K.b h)⟩
 induction h with
 | @sign b' h ps hh hp ih=>
  rw[rF,Tr.hd,pi];refine⟨.inl hh,λu hu=>?_⟩;obtain⟨p,hp,rfl⟩:=bp.mp hu;exact ih p hp
 | @turn k b' h ps t e hl b0 b1 hp ih=>
  have ht:t∈B:=bX e;have hu:∀u∈ps.map (Pl.ev B c),u.hd λs=>s∈ws∨ ∃t∈B,t.1=s:=λu hu=>by
   obtain⟨p,hp,rfl⟩:=bp.mp hu;exact ih p hp
  rw[qY e];unfold sN;split
  ·exact Fv hu _ (MQ (λs hs=> .inl hs) _ (K.lw t ht)) (by rw[aD,hl];exact(K.b.lf t ht).a_)
  ·rw[Tr.hd,pi];exact⟨.inr ⟨t,ht,rfl⟩,hu⟩
  ·exact Fv hu _ ((K.b.ri t ht).hb (λs hs=> .inl hs)) (by rw[aD,hl];exact(K.b.ri t ht).a_)
structure Ao (ws:List ah) (B:List Tn) (x y z:Tr):Prop where
  wy:Wy ws B z
  sr:ak B z=bO B y
  go:bO B z=bO B (res B y x)
  ne:z.ne B≤x.ne B
def VY (b:o7 ws ws B) (h:oE ws B p):(p.ev B zr).ne B=0:=by
 induction h with
 | @sign b' h ps hh hp ih=>
  have:qu B (ps.map (Pl.ev B zr))≤0:=zj λu hu=>by
   obtain⟨p,hp,rfl⟩:=bp.mp hu;rw[ih p hp];exact aE _
  have e:=uw b.ti (b.sg h hh);rw[rF,Tr.ne,e];show 0+_=0;lia
 | @turn k b' h ps t e hl b0 b1 hp ih=>
  have ht:t∈B:=bX e;have:qu B (ps.map (Pl.ev B zr))≤0:=zj λu hu=>by
   obtain⟨p,hp,rfl⟩:=bp.mp hu;rw[ih p hp];exact aE _
  have:=BX b.ti (us:=ps.map (Pl.ev B zr)) t.2.1 (b.lf t ht).hb;rw[qY e];show(t.2.1.aB _).ne B=0;lia
def Bk3.ak (K:Bk3 ws B) (h:Wy ws B x):Wy ws B (ak B x)∧L2.ak B (ak B x)=L2.ak B x∧(L2.ak B x).ne B=0∧bO B (L2.ak B x)=L2.ak B x:=by
 obtain⟨p,hp,_,rfl,_⟩:=CY K.b K.O _ x x (aE _) h h rfl;have e:L2.ak B (p.ev B (oq 1))=p.ev B zr:=by
  show(p.ev B (oq 1)).mk B (λt=>t.2.1)=_;rw[wm K.b hp];exact vA hp (wk 1).ak
 rw[e];refine⟨K.wy hp,?_,VY K.b hp,?_⟩
 ·show(p.ev B zr).mk B (λt=>t.2.1)=_;rw[wm K.b hp];rfl
 ·show(p.ev B zr).mk B (λt=>t.2.2)=_;rw[xA K.b hp];rfl
def Bk3.bO (K:Bk3 ws B) (h:Wy ws B x):Wy ws B (bO B x)∧L2.ak B (L2.bO B x)=L2.bO B x∧(L2.bO B x).ne B=0∧L2.bO B (L2.bO B x)=L2.bO B x:=by
 obtain⟨p,hp,_,rfl,_⟩:=CY K.b K.O _ x x (aE _) h h rfl;have e:L2.bO B (p.ev B (oq 1))=p.ev B (td (oq 1)):=xA K.b hp;have tg:∀x,td (oq 1) x≠1:=λx=>by unfold td;split<;>lia
 have s:L2.ak B (p.ev B (td (oq 1)))=p.ev B (td (oq 1)):=by
  show(p.ev B (td (oq 1))).mk B (λt=>t.2.1)=_;rw[wm K.b hp];exact vA hp λb _ _=>by rw[vg,if_neg (tg b)]
 have w:Wy ws B (p.ev B (td (oq 1))):=K.wy hp;rw[e];refine⟨w,s,?_,?_⟩
 ·have:=(K.ak w).2.2.1;rwa [s]at this
 ·have:=(K.ak w).2.2.2;rwa [s]at this
noncomputable def oO (B:List Tn):Tr→List Tr→Tr
 |t,[]=>t
 |_,x::xs=>oO B (bO B x) xs
def o9 (ws:List ah) (B:List Tn):Tr→List Tr→Prop
 |_,[]=>True
 |t,x::xs=>Wy ws B x∧ak B x=t∧o9 ws B (bO B x) xs
noncomputable def nR (B:List Tn):List Tr→Nat
 | []=>0
 |x::xs=>x.ne B+nR B xs
noncomputable def rE (B:List Tn):Tr→List Tr→List Tr
 |x,[]=>[x]
 |x,o::os=>x::rE B (res B x o) os
noncomputable def qk (B:List Tn):Tr→List Tr→List Tr
 |_,[]=>[]
 |x,o::os=>res B o x::qk B (res B x o) os
noncomputable def tW (B:List Tn):Tr→List Tr→Tr
 |x,[]=>x
 |x,o::os=>tW B (res B x o) os
noncomputable def wR (B:List Tn):List Tr→List Tr→List (List Tr)
 | [],_=>[]
 |x::xs,os=>rE B x os::wR B xs (qk B x os)
noncomputable def AF (B:List Tn):List Tr→List Tr→List (List Tr)
 | [],os=>[os]
 |x::xs,os=>os::AF B xs (qk B x os)
noncomputable def pQ (B:List Tn):List Tr→List Tr→List Tr
 | [],_=>[]
 |x::xs,os=>tW B x os::pQ B xs (qk B x os)
noncomputable def zGu (B:List Tn):List Tr→List Tr→List Tr
 | [],os=>os
 |x::xs,os=>zGu B xs (qk B x os)
theorem OH:∀(os:List Tr) (x:Tr),(rE B x os).length=os.length+1
 | [],x=>rfl
 |o::os,x=>by rw[rE,aS,OH os];rfl
theorem IJ:∀(os:List Tr) (x:Tr),(qk B x os).length=os.length
 | [],x=>rfl
 |o::os,x=>by rw[qk,aS,IJ os];rfl
theorem OP:∀(os:List Tr) (x:Tr),(rE B x os).getLast? =aa (tW B x os)
 | [],x=>rfl
 |o::os,x=>by
  rw[rE,List.getLast?_cons,OP os,tW];rfl
theorem L_:∀(xs os:List Tr),(pQ B xs os).length=xs.length
 | [],os=>rfl
 |x::xs,os=>by rw[pQ,aS,L_ xs];rfl
def Lc{α β:Type}{R:α→β→Prop}:∀{xs:List α}{ys:List β}{xs':List α}{ys':List β},bh R xs ys→bh R xs' ys'→bh R (xs++xs') (ys++ys'):=λ{xs ys xs' ys'} h g=>by
 induction h with
 |nil=>exact g
 |cons r _ ih=>exact .cons r ih
def xM{α β:Type}{R R':α→β→Prop}(f:∀x y,R x y→R' x y):∀{xs:List α}{ys:List β},bh R xs ys→bh R' xs ys:=λ{xs ys} h=>by
 induction h with
 |nil=>exact .nil
 |cons r _ ih=>exact .cons (f _ _ r) ih
mutual
theorem NV:∀(L t:Tr) (ms:List Tr) (p:List Int),L.mt t=aa ms→bh (λ(x:List Int×Tr) m=>∃e,x.1=p++e∧t.at e=aa m) ((L.plt p).filter λx=>x.2.isBl) ms
 | .bl n,t,ms,p,e=>by
  rw[Tr.mt]at e;cases e;rw[Tr.plt];exact .cons ⟨[],`s,by rw[Tr.at]⟩ .nil
 | .nd s ls, .bl n,ms,p,e=>by rw[Tr.mt]at e;cases e
 | .nd s ls, .nd z us,ms,p,e=>by
  rw[Tr.mt]at e;split at e
  ·rename_i hc;rw[bV,beq_iff_eq,beq_iff_eq]at hc;rw[Tr.plt,lS (by simp [Tr.isBl])];refine xM ?_ (LM ls us ms p 0 hc.2 e);rintro x m ⟨j,e,u,h1,h2,h3⟩;refine⟨(j:Int)::e,by rw[h1,ca],?_⟩
   rw[Tr.at,if_neg `l,cy,h2];exact h3
  ·cases e
theorem LM:∀(ls us ms:List Tr) (p:List Int) (i:Nat),ls.length=us.length→oP ls us=aa ms→bh (λ(x:List Int×Tr) m=>∃(j:Nat) (e:List Int) (u:Tr),x.1=p++((i+j:Nat):Int)::e∧us[j]? =aa u∧u.at e=aa m) ((qi p i ls).filter λx=>x.2.isBl) ms
 | [],us,ms,p,i,hl,e=>by
  rw[oP]at e;cases e;rw[qi];exact .nil
 |l::ls,[],ms,p,i,hl,e=>by cases hl
 |l::ls,u::us,ms,p,i,hl,e=>by
  rw[oP]at e;cases q1:l.mt u with
  |none=>rw[q1]at e;cases e
  |some xs=>
   rw[q1]at e;cases q2:oP ls us with
   |none=>rw[q2]at e;cases e
   |some zs=>
    rw[q2]at e;cases e;rw[qi,kY];refine Lc (xM ?_ (NV l u xs _ q1)) (xM ?_ (LM ls us zs p (i+1) (by simpa using hl) q2))
    ·rintro x m ⟨e,h1,h2⟩;exact⟨0,e,u,by rw[h1];simp,rfl,h2⟩
    ·rintro x m ⟨j,e,v,h1,h2,h3⟩;exact⟨j+1,e,v,by rw[h1,show i+1+j=i+(j+1) by lia],by rw[d8];exact h2,h3⟩
end
def YV{L t:Tr}{ms:List Tr}(h:L.mt t=aa ms):bh (λq m=>t.at q=aa m) (L.bls.map λx=>x.1) ms:=by
 have:=NV L t ms [] h;clear h;unfold Tr.bls;generalize (L.plt []).filter (λx=>x.2.isBl)=xs at this⊢
 induction this with
 |nil=>exact .nil
 |cons h1 h2 ih=>
  obtain⟨e,h3,h4⟩:=h1;rw[aG];rw[aQ]at h3;exact .cons (by rw[h3];exact h4) ih
def rS (wn:List (List Int)) (p:List Int):Nat:=wn.countP λq=>p.isPrefixOf q
def Py (wn:List (List Int)) (p q:List Int):rS wn (p++q)≤rS wn p:=by
 unfold rS;refine List.countP_mono_left λx _ h=>?_;obtain⟨e,rfl⟩:=eT.mp h;exact eT.mpr ⟨q++e,`s⟩
theorem L5:∀(wn:List (List Int)) (p:List Int) (i:Int) (q:List Int),p∈wn→rS wn (p++i::q)+1≤rS wn p
 |w::wn,p,i,q,h=>by
  unfold rS;rw[lD,lD];have hs:=Py wn p (i::q);unfold rS at hs;obtain rfl |h:=az.mp h
  ·have h1:(p++i::q).isPrefixOf p=false:=by
    rw[Bool.eq_false_iff];intro z;obtain⟨e,z⟩:=eT.mp z;have:=congrArg dB z;simp at this
   have h2:p.isPrefixOf p=true:=eT.mpr ⟨[],`s⟩
   rw[h1,h2];simp;lia
  ·have ih:=L5 wn p i q h;unfold rS at ih;have h3:(p++i::q).isPrefixOf w=true→p.isPrefixOf w=true:=λz=>by
    obtain⟨e,rfl⟩:=eT.mp z;exact eT.mpr ⟨i::q++e,`s⟩
   by_cases z:(p++i::q).isPrefixOf w=true
   ·rw[if_pos z,if_pos (h3 z)];lia
   ·rw[if_neg z];lia
theorem F4:∀{ts:List Tr},(∀t∈ts,t.ar B)→tp B ts
 | [],_=>by rw[tp];trivial
 |t::ts,h=>by rw[tp];exact⟨h t `s,F4 λu hu=>h u (aI _ hu)⟩
structure Sh (ws:List ah) (B:List Tn) (t:Tr):Prop where
  wy:Wy ws B t
  q:ak B t=t
def Sh.cases (K:Bk3 ws B) (h:Sh ws B t):∃s ts,t= .nd s ts∧s∈ws∧n_ B s=none∧ ∀x∈ts,Sh ws B x:=by
 obtain ⟨s,ts,rfl,hs,e,k⟩ |⟨u,ts,hu,rfl,e,hl,k⟩:=h.wy.cases K.b
 ·have q:=h.q;rw[show ak B (.nd s ts)=_ from tO e]at q;injection q with _ q;refine⟨s,ts,rfl,hs,e,λx hx=>⟨k x hx,?_⟩⟩;obtain⟨i,hi,rfl⟩:=hZ hx;have:=congrArg (λl=>l[i]?) q;simp only[bK,aU hi]at this;exact aL this
 ·have q:=h.q;rw[show ak B (.nd u.1 ts)=_ from sL e]at q;obtain⟨s0,l0,e0,_⟩:=K.O.inn u hu;have hb:=(K.b.lf u hu).hb;rw[e0,Tr.hb]at hb;rw[e0,Tr.aB]at q;injection q with q _;exact absurd q (Ct hb.1 (K.b.ti u hu))
def Sh.parts (K:Bk3 ws B) (h:Sh ws B t) (hu:u∈B) (e:u.2.1.mt t=aa ms):t=u.2.1.aB ms∧ms.length=u.2.1.nb∧ ∀x∈ms,Sh ws B x:=by
 obtain⟨h1,h2⟩:=K.O.fm u hu _ _ e;refine⟨h1,h2,λx hx=>⟨HA _ _ _ e h.wy x hx,?_⟩⟩;have q:=h.q;rw[h1,show ak B (u.2.1.aB ms)=_ from IQ K.b hu h2 _]at q;have m1:=K.O.mt u hu ms h2;have m2:=K.O.mt u hu (ms.map (ak B)) (by rw[aD,h2]);rw[show u.2.1.aB (ms.map (ak B))=_ from q,m1]at m2;have q:=aL m2;obtain⟨i,hi,rfl⟩:=hZ hx;have:=congrArg (λl=>l[i]?) q;simp only[bK,aU hi]at this;exact(aL this).symm
def yl (B:List Tn) (wn:List (List Int)) (p:List Int) (t:Tr):Prop:=∀q∈wn,∀e v,q=p++e→t.at e=aa v→(r9 B v).isSome=true
def PF{s:ah}{ts:List Tr}{i:Nat}{u:Tr}(h:ts[i]? =aa u) (e:List Int):(Tr.nd s ts).at ((i:Int)::e)=u.at e:=by
 rw[Tr.at,if_neg `l,cy,h]
def O4 (ih:∀(t:Tr) (p:List Int),t.depth≤n→Sh ws B t→yl B wn p t→ ∃u,Wi B wn n p t u∧ak B u=t∧Wy ws B u∧u.ne B≤rS wn p) :
  ∀{qs:List (List Int)}{ts:List Tr},bh (λq t=>t.depth≤n∧Sh ws B t∧yl B wn (p++q) t∧rS wn (p++q)≤c) qs ts→ ∃us,ui B wn n p qs ts us∧us.map (ak B)=ts∧(∀u∈us,Wy ws B u)∧qu B us≤c:=by
 intro qs ts h
 induction h with
 |nil=>exact⟨[], .nil,rfl,`s,by rw[qu];lia⟩
 |cons hd _ ih2=>
  obtain⟨h1,h2,h3,h4⟩:=hd;obtain⟨u,w,e,y,k⟩:=ih _ _ h1 h2 h3;obtain⟨us,ws',es,ys,ks⟩:=ih2;refine⟨u::us, .cons w ws',by rw[aG,e,es],λv hv=>?_,by rw[qu];lia⟩
  obtain rfl |hv:=az.mp hv
  ·exact y
  ·exact ys v hv
theorem Gx (K:Bk3 ws B) {wn:List (List Int)}:∀(n:Nat) (t:Tr) (p:List Int),t.depth≤n→Sh ws B t→yl B wn p t→ ∃u,Wi B wn n p t u∧ak B u=t∧Wy ws B u∧u.ne B≤rS wn p
 |0,t,p,hd,h,_=>by
  obtain⟨s,ts,rfl,_⟩:=h.cases K;rw[Tr.depth]at hd;lia
 |n+1,t,p,hd,h,hw=>by
  obtain⟨s,ts,rfl,hs,e,k⟩:=h.cases K;rw[Tr.depth]at hd;by_cases hp:p∈wn
  ·have ho:=hw p hp [] (.nd s ts) `s (by rw[Tr.at]);obtain⟨u,ho⟩:=eY.mp ho;have hu:u∈B:=cZ ho;have hm:(u.2.1.mt (.nd s ts)).isSome=true:=by simpa using List.find?_some ho
   obtain⟨ms,hm⟩:=eY.mp hm;obtain⟨f1,f2,f3⟩:=h.parts K hu hm;have ba:=YV hm;have hdm:∀y∈ms,y.depth≤n:=λy hy=>by
    obtain⟨s0,l0,e0,_⟩:=K.O.inn u hu;rw[e0,Tr.mt]at hm;split at hm
    ·have:=Dx _ _ _ hm y hy;lia
    ·cases hm
   have hne:∀q∈u.2.1.bls.map (λx=>x.1),∃i e,q=i::e:=λq hq=>by
    obtain⟨z,hz,rfl⟩:=bp.mp hq;obtain⟨h1,h2,_⟩:=Hz hz;cases hq:z.1 with
    |nil=>
     rw[hq,Tr.at]at h1;have h3:u.2.1=z.2:=aL h1;obtain⟨s0,l0,e0,_⟩:=K.O.inn u hu;rw[←h3,e0]at h2;cases h2
    |cons i is=>exact⟨i,is,rfl⟩
   have pr:∀{qs:List (List Int)}{xs:List Tr},(∀q∈qs,∃i e,q=i::e)→(∀x∈xs,x.depth≤n∧Sh ws B x)→bh (λq m=>(Tr.nd s ts).at q=aa m) qs xs→bh (λq t=>t.depth≤n∧Sh ws B t∧yl B wn (p++q) t∧rS wn (p++q)≤rS wn p - 1) qs xs:=by
    intro qs xs h1 h2 h3
    induction h3 with
    |nil=>exact .nil
    | @cons q m qs xs h4 _ ih=>
     obtain⟨i,e,rfl⟩:=h1 q `s;obtain⟨g1,g2⟩:=h2 m `s;refine .cons ⟨g1,g2,λq' hq' e' v' h5 h6=>hw q' hq' (i::e++e') v' (by rw[h5];simp) (by rw[L8 _ e' h4];exact h6),?_⟩ (ih (λq hq=>h1 q (aI _ hq)) λx hx=>h2 x (aI _ hx));have:=L5 wn p i e hp;lia
   obtain⟨us,wi,es,ys,ks⟩:=O4 (Gx K n) (pr hne (λx hx=>⟨hdm x hx,f3 x hx⟩) ba);have et:=vI K.b.nd hu;have lu:us.length=u.2.1.nb:=by rw[←f2,←es,aD]
   refine⟨.nd u.1 us, .yes hp ho hm et wi,?_,⟨?_,?_⟩,?_⟩
   ·rw[show ak B (.nd u.1 us)=_ from sL et,es,f1]
   ·rw[Tr.hd,pi];exact⟨.inr ⟨u,hu,rfl⟩,λx hx=>(ys x hx).hd⟩
   ·rw[Tr.ar];refine⟨λt ht=>?_,F4 λx hx=>(ys x hx).ar⟩;rw[et]at ht;cases ht;exact lu
   ·rw[Tr.ne,et];have h1:1≤rS wn p:=by
     unfold rS;exact List.countP_pos_iff.mpr ⟨p,hp,eT.mpr ⟨[],`s⟩⟩
    show 1+_≤_;lia
  ·have pr:∀(i:Nat) (xs:List Tr),(∀(j:Nat) x,xs[j]? =aa x→ts[i+j]? =aa x)→bh (λq t=>t.depth≤n∧Sh ws B t∧yl B wn (p++q) t∧rS wn (p++q)≤rS wn p) ((eP i xs.length).map λ(i:Nat)=>[(i:Int)]) xs:=by
    intro i xs
    induction xs generalizing i with
    |nil=>intro _;exact .nil
    |cons x xs ih=>
     intro hx;have hi:=hx 0 x rfl;rw[eM]at hi;have hm:x∈ts:=bX hi;have hdx:=so hm;rw[aS,jg,aG];refine .cons ⟨`l,k x hm,λq' hq' e' v' h5 h6=>hw q' hq' ((i:Int)::e') v' (by rw[h5];simp) (by rw[PF hi];exact h6),Py wn p _⟩ (ih (i+1) λj y hy=>?_);have:=hx (j+1) y (by rw[d8];exact hy);rw[show i+1+j=i+(j+1) by lia]
     exact this
   have pr0:=pr 0 ts λj x h=>by rw[ca];exact h
   rw[←List.range_eq_range']at pr0;obtain⟨us,wi,es,ys,ks⟩:=O4 (Gx K n) pr0;refine⟨.nd s us, .no hp e wi,?_,⟨?_,?_⟩,?_⟩
   ·rw[show ak B (.nd s us)=_ from tO e,es]
   ·rw[Tr.hd,pi];exact⟨.inl hs,λx hx=>(ys x hx).hd⟩
   ·rw[Tr.ar];exact⟨λt ht=>(by rw[e]at ht;cases ht),F4 λx hx=>(ys x hx).ar⟩
   ·rw[Tr.ne,e];show 0+_≤_;lia
def Cq{α:Type}(xs:List α) (x:α):ow (xs++[x]) (-1)=aa x:=by
 unfold ow tj;rw[if_neg `d,aW,cj];rw[if_pos `l];show(xs++[x])[_]? =aa x;rw[show((-1+((xs.length+1:Nat):Int)).toNat)=xs.length by lia,List.getElem?_concat_length]
def G7 (h:t.depth≤57):oH S 60 (gS t) (gS t)=aa true:=by
 rw[xF 60 _ _ `l,AC]
structure At (S0 S:gY) (d o b:aj) (xs:List Tr):Prop where
  d:b≠d
  o:b≠o
  e:S b=aa (.bx (xs.map gS))
  z:S0 b=none
def Cj (s:Sub S0 S) (h:S q=none):S0 q=none:=by
 cases e:S0 q with
 |none=>rfl
 |some v=>rw[s _ _ e]at h;cases h
def At.sub{S0 S S':gY}{d o b:aj}{xs:List Tr}(h:At S0 S d o b xs) (s:Sub S S'):At S0 S' d o b xs:=⟨h.d,h.o,s _ _ h.e,h.z⟩
def At.pd{S0 S:gY}{d o b:aj}{xs:List Tr}{v:Ob}(h:At S0 S d o b xs):At S0 (bz S d v) d o b xs:=⟨h.d,h.o,by rw[oQ h.d];exact h.e,h.z⟩
def At.po{S0 S:gY}{d o b:aj}{xs:List Tr}{v:Ob}(h:At S0 S d o b xs):At S0 (bz S o v) d o b xs:=⟨h.d,h.o,by rw[oQ h.o];exact h.e,h.z⟩
abbrev wK (S0 S:gY) (d o:aj) (bs:List aj) (xss:List (List Tr)):Prop:=bh (At S0 S d o) bs xss
def Fg{α β:Type}{R:α→β→Prop}{xs:List α}{ys:List β}{x:α}{y:β}(h:bh R xs ys) (g:R x y):bh R (xs++[x]) (ys++[y]):=Lc h (.cons g .nil)
theorem OO{α β:Type}(f:α→W) (g:β→W):∀(xs:List α) (ys:List β),nP (xs.map f) (ys.map g)=(xs.zip ys).map λp=> .bH [f p.1,g p.2]
 | [],ys=>by simp [nP]
 |x::xs,[]=>by simp [nP]
 |x::xs,y::ys=>by rw[aG,aG,nP,OO f g xs ys];rfl
theorem IP:∀(os:List Tr) (x:Tr),(os.zip (rE B x os)).map (λp=>res B p.1 p.2)=qk B x os
 | [],x=>rfl
 |o::os,x=>by rw[rE,iS,aG,IP os,qk]
section
variable {ws:List ah}{B:List Tn}{l2 d o ρ:aj}{r:Nat}{E:WX}{D:nQ}{T:WS}{t:Tr}{xs os:List Tr}{S:gY}{y0 y1 y2 y3 y4 y5 y6 y7:Option W}
def YA (h:∀d,S d=none→T E D [y0,y1,y2,aa (.ref d),y4,y5,y6,y7] (bz S d (.bx []))):Ep r T E D [y0,y1,y2,y3,y4,y5,y6,y7] S:=by
 rw[Ep];ext;exact⟨bc _,h⟩
def YU (hl:S l2=aa (.bx vs)) (h:∀ρ,S ρ=none→T E D [y0,y1,aa (.bH [gS t, .ref l2]),y3,aa (.ref ρ),y5,y6,y7] (bz S ρ (.bx vs))):FS r T E D [y0,y1,aa (.bH [gS t, .ref l2]),y3,y4,y5,y6,y7] S:=by
 rw[FS];ext;show oN S l2 λws=>∀ρ,S ρ=none→T E D [y0,y1,aa (.bH [gS t, .ref l2]),y3,aa (.ref ρ),y5,y6,y7] (bz S ρ (.bx ws));rw[nT hl];exact h
def Tj (h:∀o,S o=none→T E D [y0,y1,y2,y3,aa (.ref ρ),aa (.ref o),y6,y7] (bz S o (.bx [.ref ρ]))):EZ r T E D [y0,y1,y2,y3,aa (.ref ρ),y5,y6,y7] S:=by
 rw[EZ];ext;exact⟨`d,h⟩
def Re (hd:S d=aa (.bx vs)) (hn:vs.length≤1000) (h:T E D [y0,y1,y2,aa (.ref d),y4,y5,y6,aa (.ref q)] (bz S d (.bx (vs++[.ref q])))) :
  Hj r T E D [y0,y1,y2,aa (.ref d),y4,y5,y6,aa (.ref q)] S:=by
 rw[Hj];ext;rw[nT hd,nT hd];exact⟨trivial,rA `l,h⟩
def UL (hd:S o=aa (.bx vs)) (hn:vs.length≤1000) (h:D.nx [y0,y1,y2,y3,aa (.ref ρ),aa (.ref o),y6,y7] (bz S o (.bx (vs++[.ref ρ])))) :
  FA r E D [y0,y1,y2,y3,aa (.ref ρ),aa (.ref o),y6,y7] S:=by
 rw[FA];ext;rw[nT hd,nT hd];exact⟨trivial,rA `l,h⟩
structure Grd (S0 S:gY) (B:List Tn) (xs os:List Tr) (d o:aj):Prop where
  sub:Sub S0 S
  d0:S0 d=none
  o0:S0 o=none
  ne:d≠o
  ex:∃ds rs,S d=aa (.bx (ds.map W.ref))∧S o=aa (.bx (rs.map W.ref))∧wK S0 S d o ds (wR B xs os)∧wK S0 S d o rs (AF B xs os)
end
noncomputable def wf (B:List Tn) (t:Tr):List (List Int):=(t.op B []).map λx=>x.1
def Sh.hdT (h:Sh ws B t):t.hd λ_=>True:=vU (λ_ _=>trivial) _ h.wy.hd
def Sh.wn{ws:List ah}{B:List Tn}{t:Tr}(h:Sh ws B t) {wn:List (List Int)}(hw:∀q∈wn,q∈wf B t):yl B wn [] t:=by
 intro q hq e v he hv;rw[aQ]at he;subst he;obtain⟨x,hx,rfl⟩:=bp.mp (hw q hq);rw[←D6 B t [] (wg _ h.hdT)]at hx;obtain⟨y,hy,hx⟩:=kE.mp hx;unfold t9 at hx;obtain⟨u,hu,rfl⟩:=bp.mp hx;have:=(Hl hy).1;rw[this]at hv;cases hv;cases e:r9 B y.2 with
 |none=>rw[e]at hu;cases hu
 |some _=>rfl
section
variable {B:List Tn}{t:Tr}{xs:List Tr}
theorem Bh:∀(xs:List Tr) (t u:Tr),oO B t (xs++[u])=bO B u
 | [],t,u=>rfl
 |x::xs,t,u=>Bh xs (bO B x) u
end
theorem Nq{α β:Type}{R:α→β→Prop}:∀{xs:List α}{ys:List β},bh R xs ys→ ∃zs:List (α×β),zs.map (λz=>z.1)=xs∧zs.map (λz=>z.2)=ys∧ ∀z∈zs,R z.1 z.2
 |_,_, .nil=>⟨[],rfl,rfl,`s⟩
 |_,_, .cons h1 h2=>by
  obtain⟨zs,e1,e2,h3⟩:=Nq h2;exact⟨(_,_)::zs,by rw[aG,e1],by rw[aG,e2],λz hz=>by
   obtain rfl |hz:=az.mp hz
   ·exact h1
   ·exact h3 z hz⟩
def V0{α β γ:Type}{R:α→β→Prop}{R':β→γ→Prop}:∀{xs:List α}{ys:List β}{zs:List γ},bh R xs ys→bh R' ys zs→bh (λx z=>∃y,R x y∧R' y z) xs zs:=λ{xs ys zs} h g=>by
 induction h generalizing zs with
 |nil=>cases g;exact .nil
 |cons r _ ih=>
  cases g with
  |cons g1 g2=>exact .cons ⟨_,r,g1⟩ (ih g2)
def ztp (os:List Tr) (x:Tr):∃l,rE B x os=l++[tW B x os]:=by
 have:=OP (B:=B) os x;rw[List.getLast?_eq_some_iff]at this;exact this
theorem JU:∀(xs os:List Tr),bh (λline u=>∃l,line=l++[u]) (wR B xs os) (pQ B xs os)
 | [],os=> .nil
 |x::xs,os=> .cons (ztp os x) (JU xs _)
theorem OJ:∀(os:List Tr) (x:Tr) (xs:List Tr),pQ B os (x::xs)=pQ B (qk B x os) xs
 | [],x,xs=>by rw[pQ,qk,pQ]
 |o::os,x,xs=>by rw[pQ,qk,qk,tW,pQ,OJ os]
theorem PH:∀(os:List Tr),pQ B os []=os
 | []=>by rw[pQ]
 |o::os=>by rw[pQ,qk,tW,PH os]
theorem o9.app:∀(xs:List Tr) {ys:List Tr}{t:Tr},o9 ws B t xs→o9 ws B (oO B t xs) ys→o9 ws B t (xs++ys)
 | [],_,_,_,h=>h
 |x::xs,_,_,⟨h1,h2,h3⟩,h=>⟨h1,h2,o9.app xs h3 h⟩
section
variable {B:List Tn}{l d o:aj}{r:Nat}{xs os:List Tr}{S:gY}{Q:WK}{X:ah→gY→Prop}
def WN (hd:S d=aa (.bx (ds.map W.ref))) (hn:xs.length≤700) (AD:wK S0 S d o ds (wR B xs os)) (h:∀q,S q=none→Q (.ref q) (bz S q (.bx ((pQ B xs os).map gS)))):Ch (r+1) [.bH [.ref d, .ref o]] S Q X:=by
 obtain⟨zs,e1,e2,h3⟩:=Nq (V0 AD (JU xs os));rw[Ch];ext;rw[nT hd];have e3:ds.map W.ref=zs.map λz=>W.ref z.1:=by rw[←e1,bB];rfl
 have hz:zs.length=xs.length:=by rw[←L_ (B:=B) xs os,←e2,aD]
 rw[e3];refine qw (λσ=>∃y,σ=[y]) (λz:aj×Tr=>W.ref z.1) (λz=>gS z.2) (by rw[←e3];exact hd) zs [] _ ⟨none,rfl⟩ (by simp;lia) (λz hz σ R hI hR=>?_) ?_
 ·obtain⟨y,rfl⟩:=hI;obtain⟨line,A,l,rfl⟩:=h3 z hz;rw[NE];ext;have Ae:=A.e;rw[bU]at Ae;rw[nT Ae,show [z.2].map gS=[gS z.2] from rfl,Cq];exact hR _ _ ⟨_,rfl⟩ .refl
 ·intro q hq;have:=h q hq;rw[←e2,bB]at this;exact⟨_, .refl,this⟩
end
mutual
def Tr.wd:Tr→Prop
 | .bl _=>True
 | .nd _ ts=>ts.length≤1000∧wl ts
def wl:List Tr→Prop
 | []=>True
 |t::ts=>t.wd∧wl ts
end
theorem rq:∀{ts:List Tr},wl ts↔ ∀t∈ts,t.wd
 | []=>by simp [wl]
 |t::ts=>by simp [wl,rq (ts:=ts)]
def zyE{t:Tr}(h:t.wd):t.cF.length≤1000:=by
 cases t with
 |bl n=>simp [Tr.cF]
 |nd s ts=>simpa [Tr.cF]using h.1
def Wb{ts:List Tr}(h:∀x∈ts,x.wd):∀x∈ts.flatMap Tr.cF,x.wd:=λx hx=>by
 obtain⟨t,ht,hk⟩:=kE.mp hx;have:=h t ht;cases t with
 |bl n=>simp [Tr.cF]at hk
 |nd s us=>exact rq.mp this.2 x (by simpa [Tr.cF]using hk)
theorem O_ (hba:b≠a):∀(ts:List Tr) {S:gY}{us:List Tr}{x2:Option W},S a=aa (.bx (af us))→S b=aa (.bx ps)→(∀t∈ts,t.cF.length≤1000)→us.length+1000*ts.length≤500000→
  (∀x2,D.nx [x0,aa (.ref a),x2] (bz S a (.bx (af (us++ts.flatMap Tr.cF)))))→
  nU (wGN 2) (Bb (r+1) nG) E D (λS'=>S' b=aa (.bx ps)) (af ts) [x0,aa (.ref a),x2] S
 | [],S,us,x2,ha,hb,hA,hl,h=>by
  have:=h x2;simp only[gF,bC,sI ha]at this;simpa [af,nU]using this
 |t::ts,S,us,x2,ha,hb,hA,hl,h=>by
  simp only[aS]at hl;have hk:=hA t aM;simp only[af];refine rY λN hN=>?_;simp only[Bb];ext;simp only[nT ha,true_and];refine yR ?_;ext;rw[nT ha];refine⟨nL (by rw[p9,p9];lia),hN _ _ _ .refl (by rw[oQ hba];exact hb) ?_⟩;rw[←yb];refine O_ hba ts nJ (by rw[oQ hba];exact hb) (λu hu=>hA u (aI _ hu)) (by rw[aW];lia) λx2=>?_;rw[qa];have:=h x2;rw[eG,←b7]at this;exact this
def Uz{E:ah→gY→Prop}(hb:S b=aa (.bx (af ts))) (hA:∀t∈ts,t.cF.length≤1000) (hw:ts.length≤400) (h:∀a,S a=none→Q (.ref a) (bz S a (.bx (af (ts.flatMap Tr.cF))))):yt (r+2) [.ref b] S Q E:=by
 rw[yt];ext;refine⟨bc _,λa ha=>?_⟩;have hba:=yD hb ha;rw[nT (keep hb ha)];refine O_ (us:=[]) hba ts (by simp [nJ,af]) (keep hb ha) hA (by simp;lia) λx2=>?_;rw[qa];ext;exact⟨_, .refl,h a ha⟩
def KH{t:Tr}{r:Nat}{S:gY}{Q:WK}{E:ah→gY→Prop}(hA:t.wd) (h:Q (.bl t.aF) S):xb (r+3) [gS t] S Q E:=by
 rw[xb];ext;refine⟨nL `d,λa ha=>?_⟩;refine⟨λm σ S'=>∃(ts:List Tr) (k d:Nat) (b:aj),m=nI ts∧(∀x∈ts,x.wd)∧k+nI ts=t.au∧d+oy ts=t.depth∧k≤400∧d≤40∧S b=none∧S'=bz S b (.bx (af ts))∧σ=[aa (gS t),aa (.int k),aa (.int d),aa (.ref b)],⟨_,[t],0,0,a,rfl,(λx hx=>by rw[bw.mp hx];exact hA),by simp [nI],by simp [oy],`d,`d,ha,by simp [af],rfl⟩,?_⟩
 rintro m σ S' ⟨ts,k,d,b,rfl,hds,hwt,hk,hk4,hd4,hb,rfl,rfl⟩;ext;cases ts with
 |nil=>
  simp only[af,kC];ext;simp only[oy,nI,eM]at hk hwt;have e:t.aF=true:=by unfold Tr.aF;rw[decide_eq_true `l,decide_eq_true `l];rfl
  rw[e]at h;exact⟨_, .bz .refl hb,h⟩
 |cons u us=>
  have hne:(af (u::us)).isEmpty=false:=by simp [af]
  rw[hne];have hfl:=Hh (u::us);have hdf:=Eu (ts:=u::us) `s;have hlw:=qJ (u::us);simp only[Ge];ext;rw[p9];have no:400<t.au∨40<t.depth→ ∃S'',Sub S'' (bz S b (Ob.bx (af (u::us))))∧Q (W.bl false) S'':=λz=>by
   have e:t.aF=false:=by
    unfold Tr.aF;obtain z |z:=z
    ·rw[decide_eq_false `l];rfl
    ·rw[decide_eq_false (p:=t.depth≤40) `l,eO]
   rw[e]at h;exact⟨_, .bz .refl hb,h⟩
  split
  ·exact no (.inl `l)
  ·split
   ·exact no (.inr `l)
   ·refine Uz nJ (λx hx=>zyE (hds x hx)) `l λc hc=>?_;obtain⟨hc1,hc2⟩:=uC hc;refine⟨nI ((u::us).flatMap Tr.cF),bz S c (.bx (af ((u::us).flatMap Tr.cF))),by simp only[aS]at hfl;lia, .put2 (.bz .refl hb),_,k+(u::us).length,d+1,c,rfl,Wb hds,`l,`l,`l,`l,hc1,rfl,?_⟩
    push_cast
    rfl
structure sK (g:Tn→Tr) (B:List Tn):Prop where
  a_:∀t∈B,(g t).a_ t.2.1.nb
  dp:∀t∈B,(g t).depth≤4
  wt:∀t∈B,(g t).au≤20
section
variable {S:gY}{a:aj}{B:List Tn}{n:Int}
theorem KW (ha:S a=aa (.bx (B.map nN))) (hn:n=1∨n=2) (hg:sK (pL n) B):∀(d:Nat) {t:Tr}{r:Nat}{Q:WK}{E:ah→gY→Prop},t.depth≤d→d+10≤r→t.ar B→t.au≤1000→Q (gS (t.mk B (pL n))) S→Bf (r+1) [.ref a,gS t, .int n] S Q E
 |0,t,r,Q,E,hd,hr,hh,hw,h=>by have:=sj t;lia
 |d+1, .bl k,r,Q,E,hd,hr,hh,hw,h=>by simp [Tr.ar]at hh
 |d+1, .nd s ts,r,Q,E,hd,hr,hh,hw,h=>by
  simp only[Tr.depth]at hd;simp only[Tr.au]at hw;simp only[Tr.ar]at hh;have hk:=qJ ts;right
  rw[Bf];simp only[gS];ext;rw[qr];refine qw (λσ=>∃x,σ=[x,aa (.ref a),aa (.int n)]) gS (λt=>gS (t.mk B (pL n))) trivial ts [] _ ⟨none,rfl⟩ (by simp;lia) (λx hx σ R hI hR=>?_) ?_
  ·obtain⟨y,rfl⟩:=hI;have hdx:=so hx;have hwx:=qg hx;simp only[On];ext;exact KW ha hn hg d `l `l (rP.mp hh.2 x hx) `l (hR _ _ ⟨_,rfl⟩ .refl)
  ·rw[aQ];intro q hq;have eu:(ts.map λt=>gS (t.mk B (pL n)))=af (ts.map (Tr.mk B (pL n))):=by rw[qr,bB];rfl
   rw[eu];have fq:bz S q (Ob.bx (af (ts.map (Tr.mk B (pL n))))) q=aa (.bx (af (ts.map (Tr.mk B (pL n))))):=nJ;have fa:=keep (x:=Ob.bx (af (ts.map (Tr.mk B (pL n))))) ha hq;have sub:Sub S (bz S q (Ob.bx (af (ts.map (Tr.mk B (pL n)))))):= .bz .refl hq;generalize bz S q (Ob.bx (af (ts.map (Tr.mk B (pL n)))))=S1 at fq fa sub⊢;refine Ad fa ?_;cases e:n_ B s with
   |none=>
    rw[DZ e]at h;simp only[pI]
    try ext
    try rw[nT fq]
    rw[p9,aD];simp only[gS]at h;exact⟨nL `d,nL `l,_,sub,h⟩
   |some t=>
    have ht:t∈B:=cZ e;have ee:pI (aa t)= .bH [.str t.1,gS t.2.1,gS t.2.2]:=rfl;rw[Dq e]at h;rw[ee]
    try ext
    rw[HM t hn];dsimp only;have hgw:=hg.wt t ht;exact Fo 4 (hg.dp t ht) `l fq (by rw[aD,hh.1 t e];exact hg.a_ t ht) `l ⟨_,sub,h⟩
def Sa{E:ah→gY→Prop}(ha:S a=aa (.bx (B.map nN))) (hg:sK (pL 2) B) (hd:t.depth≤40) (hr:60≤r) (hh:t.ar B) (hw:t.au≤1000) (hwd:(t.mk B (pL 2)).wd)
  (h1:(t.mk B (pL 2)).aF=true→Q (gS (t.mk B (pL 2))) S) (h2:(t.mk B (pL 2)).aF=false→E "TooGreat" S):yH (r+1) [.ref a,gS t] S Q E:=by
 obtain⟨r,rfl⟩:∃r',r=r'+5:=⟨r - 5,`l⟩
 rw[yH];ext;refine KW ha (.inr rfl) hg 40 (r:=r+4) hd `l hh hw ?_;rw[Aw];ext;refine KH (r:=r+1) hwd ?_;cases e:(t.mk B (pL 2)).aF with
 |true=>
  try ext
  exact⟨_, .refl,_, .refl,h1 e⟩
 |false=>
  try ext
  try rw[ya]
  try ext
  exact⟨nL `d,h2 e⟩
end
theorem IL (us:List Tr):∀ts:List Tr,oG us ts=ts.map (Tr.aB us)
 | []=>by simp [oG]
 |t::ts=>by rw[oG,IL us ts];rfl
def Kw (t:Tr):t.aF=false↔((400:Int)<t.au∨(40:Int)<t.depth):=by
 unfold Tr.aF;rw[Bool.and_eq_false_iff,decide_eq_false_iff_not,decide_eq_false_iff_not];lia
def stk (x:Tr):List ah→Tr
 | []=>x
 |h::hs=> .nd h [stk x hs]
mutual
theorem Nf (hu:∀u∈us,u.wd):∀t:Tr,t.au≤1000→(t.aB us).wd
 | .bl n,h=>by
  rw[Tr.aB,bF];cases e:us[n.toNat]? with
  |none=>exact trivial
  |some u=>exact hu u (bX e)
 | .nd s ts,h=>by
  rw[Tr.au]at h;have:=qJ ts;rw[Tr.aB];refine⟨?_,Jz hu ts `l⟩;rw[IL,aD];lia
theorem Jz (hu:∀u∈us,u.wd):∀ts:List Tr,nI ts≤1000→wl (oG us ts)
 | [],h=>by rw[oG];exact trivial
 |t::ts,h=>by
  rw[nI]at h;rw[oG];exact⟨Nf hu t `l,Jz hu ts `l⟩
end
mutual
theorem OZ{g:Tn→Tr}(hg:∀t∈B,(g t).au≤1000):∀t:Tr,t.au≤1000→(t.mk B g).wd
 | .bl n,h=>by rw[Tr.mk];exact trivial
 | .nd s ts,h=>by
  rw[Tr.au]at h;have hl:=qJ ts;have ih:=JZ hg ts `l;rw[yx]at ih;cases e:n_ B s with
  |none=>
   rw[DZ e];exact⟨by rw[aD];lia,ih⟩
  |some u=>
   rw[Dq e];exact Nf (rq.mp ih) _ (hg u (cZ e))
theorem JZ{g:Tn→Tr}(hg:∀t∈B,(g t).au≤1000):∀ts:List Tr,nI ts≤1000→wl (tQ B g ts)
 | [],h=>by rw[tQ];exact trivial
 |t::ts,h=>by
  rw[nI]at h;rw[tQ];exact⟨OZ hg t `l,JZ hg ts `l⟩
end
theorem EG{f:Tr→Tr}:∀as:List Tr,(∀x∈as,x.au≤(f x).au)→nI as≤nI (as.map f)
 | [],h=>by simp [nI]
 |x::as,h=>by
  have:=EG as λy hy=>h y (aI _ hy);have:=h x aM;rw[aG,nI,nI];lia
theorem GS{f:Tr→Tr}:∀as:List Tr,(∀x∈as,x.depth≤(f x).depth)→oy as≤oy (as.map f)
 | [],h=>by simp [oy]
 |x::as,h=>by
  have:=GS as λy hy=>h y (aI _ hy);have:=h x aM;rw[aG,oy,oy];lia
section
theorem E_ (K:Bk3 ws B):∀(n:Nat) (x:Tr),x.au≤n→Wy ws B x→x.au≤(ak B x).au∧x.depth≤(ak B x).depth
 |0,x,hn,h=>by have:=uc x;lia
 |n+1,x,hn,h=>by
  obtain ⟨s,as,rfl,hs,e,hk⟩ |⟨t,as,ht,rfl,e,hl,hk⟩:=h.cases K.b
  ·rw[Tr.au]at hn;have ih:∀y∈as,y.au≤(ak B y).au∧y.depth≤(ak B y).depth:=λy hy=>E_ K n y (by have:=qg hy;lia) (hk y hy);have h1:=EG (f:=ak B) as λy hy=>(ih y hy).1;have h2:=GS (f:=ak B) as λy hy=>(ih y hy).2;show _≤(Tr.mk B _ (Tr.nd s as)).au∧_≤(Tr.mk B _ (Tr.nd s as)).depth;rw[tO e,Tr.au,Tr.au,Tr.depth,Tr.depth];exact⟨h_ h1 1,h_ h2 1⟩
  ·rw[Tr.au]at hn;have ih:∀y∈as,y.au≤(ak B y).au∧y.depth≤(ak B y).depth:=λy hy=>E_ K n y (by have:=qg hy;lia) (hk y hy);have h1:=EG (f:=ak B) as λy hy=>(ih y hy).1;have h2:=GS (f:=ak B) as λy hy=>(ih y hy).2;obtain⟨_,g1,g2⟩:=K.O.aB ht (us:=as.map (ak B)) (by rw[aD,hl]);show _≤(Tr.mk B _ (Tr.nd t.1 as)).au∧_≤(Tr.mk B _ (Tr.nd t.1 as)).depth;rw[sL e,Tr.au,Tr.depth];exact⟨bI (h_ h1 1) g1,bI (h_ h2 1) g2⟩
def zGz (B:List Tn) (wn:List (List Int)) (p:List Int) (t:Tr):Prop:=∀e v,t.at e=aa v→(p++e∈wn↔(r9 B v).isSome=true)
def Sh.all (h:Sh ws B t):zGz B (wf B t) [] t:=λe v hv=>by
 have ft:=wg (m:=0) _ h.hdT;rw[aQ];constructor
 ·intro he;exact h.wn (λq hq=>hq) e he e v `s hv
 ·intro ho;obtain⟨u,ho⟩:=eY.mp ho;have m:=HU t [] e v hv;rw[aQ]at m;unfold wf;rw[←D6 B t [] ft];refine bp.mpr ⟨(e,u.1),kE.mpr ⟨(e,v),m,?_⟩,rfl⟩;unfold t9;rw[ho];simp
structure Mm (ws:List ah) (B:List Tn) (t u:Tr):Prop where
  wi:Wi B (wf B t) t.depth [] t u
  sr:ak B u=t
  wy:Wy ws B u
  us:u.us B []=t.op B []
open Classical in
noncomputable def fw (ws:List ah) (B:List Tn) (t:Tr):Tr:=if h:∃u,Mm ws B t u then choose h else t
noncomputable def hh (ws:List ah) (B:List Tn) (t:Tr):Nat→Tr
 |0=>t
 |k+1=>bO B (fw ws B (hh ws B t k))
noncomputable def wys (ws:List ah) (B:List Tn) (t:Tr) (k:Nat):List Tr:=(bt k).map λi=>fw ws B (hh ws B t i)
end
def w9{t:Tr}(h:t.aF=true):t.au≤400∧t.depth≤40:=by
 have no:¬t.aF=false:=by rw[h];simp
 constructor
 ·obtain z |z:=Nat.lt_or_ge 400 t.au
  ·exact absurd ((Kw t).mpr (.inl `l)) no
  ·exact z
 ·obtain z |z:=Nat.lt_or_ge 40 t.depth
  ·exact absurd ((Kw t).mpr (.inr `l)) no
  ·exact z
structure oR (w0 w1 w2 w3 w4 w5:ah) (tt:List ah) (B:List Tn):Prop where
  b:nV w0 w1 w2 w3 w4 w5 tt B
  T:qE tt
  G:p8 w0 w1 w2 w3 w4 w5
structure WyF (ws:List ah) (B:List Tn) (x u:Tr):Prop where
  f:Mm ws B x u
  wt:u.au≤400
  dp:u.depth≤40
  ar:u.ar B
  hd:u.hd λ_=>True
  wd:(u.mk B (pL 2)).wd
section
variable {w0 w1 w2 w3 w4 w5:ah}{tt:List ah}{B:List Tn}{t:Tr}
def oR.bk (c:oR w0 w1 w2 w3 w4 w5 tt B):o7 [w0,w1,w2,w3,w4,w5] [w2,w3,w4,w5] B:=c.b.bk c.T c.G
def nV.bk3 (b:nV w0 w1 w2 w3 w4 w5 tt B) (T:qE tt) (G:p8 w0 w1 w2 w3 w4 w5):Bk3 [w0,w1,w2,w3,w4,w5] B:=by
 have k:=b.bk T G;refine⟨⟨k.ti,k.nd,k.sg,λx hx=>hx,k.lf,k.ri⟩,b.ort G,λt ht=>?_⟩;obtain⟨n,z |z⟩:=b.mem_lefts ht
 ·exact(CA (P:=λs=>s∈ [w0,w1,w2,w3,w4,w5]) `s `s `s _ z).hb
 ·exact(CA (P:=λs=>s∈ [w0,w1,w2,w3,w4,w5]) `s `s `s _ z).hb
def oR.K (c:oR w0 w1 w2 w3 w4 w5 tt B):Bk3 [w0,w1,w2,w3,w4,w5] B:=c.b.bk3 c.T c.G
def oR.L (c:oR w0 w1 w2 w3 w4 w5 tt B):tz B:=⟨λt ht=>(c.bk.lf t ht).dp,λt ht=>by
 have h1:=(c.bk.lf t ht).wt;have h2:=(c.bk.lf t ht).nb;lia⟩
def oR.P (c:oR w0 w1 w2 w3 w4 w5 tt B):PB B:=λt ht x hx=>by
 have h1:=(Hz hx).2.2;have h2:=c.L.d t ht;lia
end
def Yw{α β:Type}{f:α→β}{xs:List α}(h:(xs.map f).Nodup):xs.Nodup:=by
 unfold kG at h⊢;rw[lm]at h;exact h.imp λ{a b} n e=>n (by rw[e])
section
variable {w0 w1 w2 w3 w4 w5:ah}{tt:List ah}{B:List Tn}{S:gY}{a:aj}{r:Nat}{Q:WK}{E:ah→gY→Prop}
def oR.ok_open (c:oR w0 w1 w2 w3 w4 w5 tt B) (ha:S a=aa (.bx (B.map nN))) {x:Tr}(h:Sh [w0,w1,w2,w3,w4,w5] B x) (hs:x.aF=true) (hr:80≤r) (k:∀S' b,Sub S S'→S' b=aa (.bx ((x.op B []).map qt))→Q (.ref b) S'):zo (r+1) [.ref a,gS x] S Q E:=by
 obtain⟨b1,b2⟩:=w9 hs;have hl:=c.b.len;exact T0 c.L (Yw c.bk.nd) `l (λx u hu v hv h1 h2=>c.K.O.one u hu v hv x h1 h2) ha `l `l `l (wg _ h.hdT) k
end
theorem IW:∀{ts:List Tr},(∀x∈ts,x.depth≤d)→oy ts≤d
 | [],_=>by simp [oy]
 |t::ts,h=>by
  have h1:=h t aM;have h2:=IW (ts:=ts) λx hx=>h x (aI _ hx);rw[oy];lia
def Pg (ha:S a=aa (.bx xs)) (hb:S b=aa (.bx ys)) (h:pA (oH S n) xs ys=aa true):oH S (n+1) (.ref a) (.ref b)=aa true:=by
 show(match S a with
  |some (.bx xs)=>match S b with
   |some (.bx ys)=>pA (oH S n) xs ys
   |_=>none
  |_=>none)=aa true
 rw[ha,hb];exact h
theorem Lf:∀(xs:List Tr),(∀x∈xs,x.depth<n)→pA (oH S n) (xs.map gS) (xs.map gS)=aa true
 | [],_=>rfl
 |x::xs,h=>by
  have h1:oH S n (gS x) (gS x)=aa true:=by rw[xF n _ _ (h x `s),AC]
  have h2:=Lf (S:=S) xs λy hy=>h y (aI _ hy);rw[aG,pA,h1,h2];rfl
def RE{S:gY}{n:Nat}{a b:aj}{xs:List Tr}(hd:∀x∈xs,x.depth<n) (ha:S a=aa (.bx (xs.map gS))) (hb:S b=aa (.bx (xs.map gS))):oH S (n+1) (.ref a) (.ref b)=aa true:=Pg ha hb (Lf xs hd)
def C0 (K:Bk3 ws B) (hx:Wy ws B x) (hy:Wy ws B y) (e:ak B x=ak B y):∃p,oE ws B p∧p.ev B (oq 1)=x∧p.ev B (oq 2)=y∧p.ev B zr=ak B x:=by
 obtain⟨p,hp,_,e1,e2⟩:=CY K.b K.O _ x y (aE _) hx hy e;refine⟨p,hp,e1,e2,?_⟩;rw[←e1];show _=(p.ev B (oq 1)).mk B λt=>t.2.1;rw[wm K.b hp];exact vA hp λb h0 h1=>((wk 1).ak b h0 h1).symm
def Bk3.plan1 (K:Bk3 ws B) (h:Wy ws B x):∃p,oE ws B p∧p.ev B (oq 1)=x∧p.ev B zr=L2.ak B x:=by
 obtain⟨p,hp,e1,_,hs⟩:=C0 K h h rfl;exact⟨p,hp,e1,hs⟩
def zGb (b:o7 ws ws B) (O:sY B) (ht:t∈B) (hx:Wy ws B x) (hl:us.length=t.2.1.nb) (h:ak B x=t.2.1.aB us) :
  ∃(m:Nat) (vs:List Tr),m≤1∧x=sN t m vs∧vs.map (ak B)=us∧(∀y∈vs,Wy ws B y)∧nI vs+1≤x.au:=by
 obtain ⟨s,as,rfl,hs,es,ka⟩ |⟨u,as,hu,rfl,eu,la,ka⟩:=hx.cases b
 ·obtain⟨vs,ev,lv,ms,kv,wv⟩:=Hr b O ht es hx hl h;have hm:=O.mt t ht vs lv;rw[←ev]at hm;obtain⟨s0,ls,e0,_⟩:=O.inn t ht;rw[e0,Tr.mt]at hm;split at hm
  ·have:=Ft _ _ _ hm;exact⟨0,vs,`l,ev,ms,kv,by rw[vS];lia⟩
  ·cases hm
 ·rw[show ak B (.nd u.1 as)=_ from sL eu]at h;have m1:=O.mt t ht us hl;have m2:=O.mt u hu (as.map (ak B)) (by rw[aD,la]);have:u=t:=O.one u hu t ht _ (by rw[m2];rfl) (by rw[show u.2.1.aB (as.map (ak B))=_ from h,m1];rfl)
  subst this;rw[show u.2.1.aB (as.map (ak B))=_ from h,m1]at m2;exact⟨1,as,`l,rfl,(aL m2).symm,ka,by rw[vS];lia⟩
def Bk3.moved (K:Bk3 ws B) (hx:Wy ws B x) (hy:Wy ws B y) (e:L2.ak B x=L2.ak B y):Ao ws B x y (res B x y):=by
 obtain⟨p,hp,rfl,rfl,_⟩:=C0 K hx hy e;have o1:=wk 1;have o2:=wk 2;have m1:=(DM (c:=oq 1) (d:=oq 2) K.b K.O.mt (Do o1 o2) hp).res;have m2:=(DM (c:=oq 2) (d:=oq 1) K.b K.O.mt (Do o2 o1) hp).res;rw[m1];refine⟨K.wy hp,?_,?_,RS K.b K.O o1 o2 hp⟩
 ·show(p.ev B (r8 (oq 1) (oq 2))).mk B (λt=>t.2.1)=(p.ev B (oq 2)).mk B λt=>t.2.2;rw[wm K.b hp,xA K.b hp];refine vA hp λx h0 h1=>?_;have a:=uK 1 x;have b:=uK 2 x;unfold vg td r8;generalize oq 1 x=m at a⊢;generalize oq 2 x=n at b⊢;obtain rfl |rfl:m=0∨m=1:=by lia
  all_goals obtain rfl |rfl:n=0∨n=1:=by lia
  all_goals rfl
 ·rw[m2];show(p.ev B (r8 (oq 1) (oq 2))).mk B (λt=>t.2.2)=(p.ev B (r8 (oq 2) (oq 1))).mk B λt=>t.2.2;rw[xA K.b hp,xA K.b hp];refine vA hp λx h0 h1=>?_;have a:=uK 1 x;have b:=uK 2 x;unfold td r8;generalize oq 1 x=m at a⊢;generalize oq 2 x=n at b⊢;obtain rfl |rfl:m=0∨m=1:=by lia
  all_goals obtain rfl |rfl:n=0∨n=1:=by lia
  all_goals rfl
theorem yX (K:Bk3 ws B):∀(os:List Tr) {x t:Tr},Wy ws B x→L2.ak B x=t→o9 ws B t os→o9 ws B (bO B x) (qk B x os)∧Wy ws B (tW B x os)∧L2.ak B (tW B x os)=oO B t os∧oO B (bO B x) (qk B x os)=bO B (tW B x os)
 | [],x,t,hx,ex,_=>⟨trivial,hx,ex,rfl⟩
 |o::os,x,t,hx,ex,⟨ho,eo,hr⟩=>by
  have m:=K.moved hx ho (ex.trans eo.symm);have m':=K.moved ho hx (eo.trans ex.symm);obtain⟨h1,h2,h3,h4⟩:=yX K os m.wy m.sr hr;refine⟨?_,h2,h3,?_⟩
  ·rw[qk];refine⟨m'.wy,m'.sr,?_⟩;rw[m'.go];exact h1
  ·rw[qk,oO,tW,m'.go];exact h4
theorem Fc (K:Bk3 ws B):∀(xs os:List Tr) {t:Tr},o9 ws B t xs→o9 ws B t os→o9 ws B (oO B t os) (pQ B xs os)
 | [],os,t,_,_=>trivial
 |x::xs,os,t,⟨hx,ex,hr⟩,ho=>by
  obtain⟨h1,h2,h3,h4⟩:=yX K os hx ex ho;rw[pQ];refine⟨h2,h3,?_⟩;rw[←h4];exact Fc K xs _ hr h1
theorem KR (K:Bk3 ws B):∀(xs os:List Tr) {t:Tr},o9 ws B t xs→o9 ws B t os→oO B (oO B t os) (pQ B xs os)=oO B (oO B t xs) (pQ B os xs)
 | [],os,t,_,_=>by rw[PH,pQ];rfl
 |x::xs,os,t,⟨hx,ex,hr⟩,ho=>by
  obtain⟨h1,h2,h3,h4⟩:=yX K os hx ex ho;rw[pQ,oO,←h4,KR K xs _ hr h1,oO,OJ]
def YW (O:sY B) (ht:t∈B) (h:t.2.1.mt (.nd s ts)=aa ms):oy ms≤oy ts:=by
 obtain⟨s0,l0,e0,_⟩:=O.inn t ht;rw[e0,Tr.mt]at h;split at h
 ·exact IW (Dx _ _ _ h)
 ·cases h
theorem zN{B:List Tn}{n:Nat}(f:∀{x y z:Tr},Mv B n x y z→Mv B x.depth x y z):∀(xs:List Tr) {ys zs:List Tr},pC B n xs ys zs→pC B (oy xs) xs ys zs
 | [],_,_,h=>by cases h;exact .nil
 |_::xs,_,_,h=>by
  cases h with
  |cons a b=>
   rw[oy];exact .cons ((f a).monoA _ `l) ((zN f xs b).monoA _ `l)
def Mv.bd (O:sY B) {n:Nat}:∀{x y z:Tr},Mv B n x y z→Mv B x.depth x y z:=by
 induction n with
 |zero=>intro x y z h;cases h
 |succ n ih=>
  intro x y z h;cases h with
  |nn a b m=>rw[Tr.depth,fW];exact .nn a b (zN ih _ m)
  |ns a b c d m=>rw[Tr.depth,fW];exact .ns a b c d ((zN ih _ m).monoA _ (YW O (cZ b) c))
  |sn a b c m=>rw[Tr.depth,fW];exact .sn a b c (zN ih _ m)
  |ss a b c m=>rw[Tr.depth,fW];exact .ss a b c (zN ih _ m)
section
variable {ws:List ah}{B:List Tn}{x y:Tr}{a:aj}{r:Nat}{S:gY}{Q:WK}{E:ah→gY→Prop}
def Bk3.mv (K:Bk3 ws B) (hx:Wy ws B x) (hy:Wy ws B y) (e:L2.ak B x=L2.ak B y):Mv B x.depth x y (res B x y):=by
 obtain⟨p,hp,rfl,rfl,_⟩:=C0 K hx hy e;have m:=DM (c:=oq 1) (d:=oq 2) K.b K.O.mt (Do (wk 1) (wk 2)) hp;have m1:=m.res;rw[m1];exact m.bd K.O
def Bk3.fitw (K:Bk3 ws B) (hx:Wy ws B x) (hs:(L2.ak B x).aF=true):x.depth≤40∧x.au≤400∧x.ar B∧x.hd λ_=>True:=by
 obtain⟨g1,g2⟩:=E_ K _ _ (aE _) hx;obtain⟨h1,h2⟩:=w9 hs;exact⟨`l,`l,hx.ar,vU (λ_ _=>trivial) _ hx.hd⟩
def Bk3.gW (K:Bk3 ws B):sK (pL 2) B:=⟨λt ht=>(K.b.ri t ht).a_,λt ht=>(K.b.ri t ht).dp,λt ht=>bI (K.b.ri t ht).wt `d⟩
def Bk3.okmv (K:Bk3 ws B):∀t∈B,t.2.1.depth≤4∧t.2.1.au≤100∧t.2.2.depth≤4∧t.2.2.au≤100∧t.2.2.a_ t.2.1.nb:=λt ht=>by
 have h1:=K.b.lf t ht;have h2:=K.b.ri t ht;have h3:=h1.wt;have h4:=h1.nb;have h5:=h2.wt;exact⟨h1.dp,`l,h2.dp,`l,h2.a_⟩
structure vF (ws:List ah) (B:List Tn) (x y:Tr):Prop where
  K:Bk3 ws B
  wx:Wy ws B x
  wy:Wy ws B y
  e:ak B x=ak B y
  sm:(ak B y).aF=true
def vF.symm (h:vF ws B x y):vF ws B y x:=⟨h.K,h.wy,h.wx,h.e.symm,by rw[h.e];exact h.sm⟩
def vF.ok_move (h:vF ws B x y) (ha:S a=aa (.bx (B.map nN))) (hr:60≤r) (q:Q (gS (res B x y)) S):uI (r+1) [.ref a,gS x,gS y] S Q E:=by
 obtain⟨d1,w1,_,h1⟩:=h.K.fitw h.wx (by rw[h.e];exact h.sm);obtain⟨d2,w2,_,h2⟩:=h.K.fitw h.wy h.sm;exact Lb h.K.okmv x.depth ha (h.K.mv h.wx h.wy h.e) `l h1 h2 `l `l q
def Bk3.ok_goalX (K:Bk3 ws B) (hx:Wy ws B x) (hs:(L2.ak B x).aF=true) (ha:S a=aa (.bx (B.map nN))) (hr:60≤r) (h1:(L2.bO B x).aF=true→Q (gS (L2.bO B x)) S) (h2:(L2.bO B x).aF=false→E "TooGreat" S):yH (r+1) [.ref a,gS x] S Q E:=by
 obtain⟨d1,w1,a1,_⟩:=K.fitw hx hs;have e2:x.mk B (pL 2)=L2.bO B x:=by rw[Gh]
 refine Sa ha K.gW d1 hr a1 `l (OZ (λt ht=>bI (K.gW.wt t ht) `d) _ `l) (λz=>?_) λz=>?_
 ·rw[e2]at z⊢;exact h1 z
 ·rw[e2]at z;exact h2 z
end
theorem KU{G:gY→Prop}(K:Bk3 ws B) (hG:G S) (ha:S a=aa (.bx (B.map nN))) (hr:60≤r):∀(xs:List Tr) {t:Tr}(y1 y2:Option W),o9 ws B t xs→t.aF=true→((∀x∈xs,(bO B x).aF=true)→ ∀z,D.nx [aa (.ref a),y1,z] S)→((∃x∈xs,(bO B x).aF=false)→ ∀σ,E "TooGreat" σ S)→nU (wGN 2) (FG (r+1) nG) E D G (xs.map gS) [aa (.ref a),y1,y2] S
 | [],t,y1,y2,_,_,h,_=>h (λ_ hx=>nomatch hx) y2
 |x::xs,t,y1,y2,⟨h1,h2,h3⟩,hs,h,hE=>by
  rw[aG];refine rY λN hN=>?_;rw[uP,FG];ext;refine K.ok_goalX h1 (by rw[h2];exact hs) ha `l (λz=>?_) λz=>hE ⟨x,aM,z⟩ _;refine hN _ _ _ .refl hG (KU K hG ha hr xs y1 _ h3 z (λk=>h λu hu=>?_) λ⟨u,hu,e⟩=>hE ⟨u,aI _ hu,e⟩);obtain e |e:=az.mp hu
  ·rw[e];exact z
  ·exact k u e
def GY{X:ah→gY→Prop}(K:Bk3 ws B) (ha:S a=aa (.bx (B.map nN))) (hl:S l=aa (.bx (xs.map gS))) (hx:o9 ws B t xs) (hs:t.aF=true) (hr:60≤r) (h:(∀x∈xs,(bO B x).aF=true)→Q .bR S) (hX:(∃x∈xs,(bO B x).aF=false)→X "TooGreat" S):v7 (r+2) [.ref a, .ref l] S Q X:=by
 rw[show r+2=r+1+1 from rfl,v7];ext;rw[nT hl];exact KU K hl ha hr xs _ _ hx hs (λk z=>⟨_, .refl,h k⟩) λk σ=>hX k
def vn (B:List Tn):Tr→List Tr→Prop
 |_,[]=>True
 |x,o::os=>(bO B (res B x o)).aF=true∧vn B (res B x o) os
theorem K6{G:gY→Prop}(K:Bk3 ws B) (ha:S0 a=aa (.bx (B.map nN))) (h0:S0 q=none) (hG:∀S,Sub S0 S→G S) (hr:64≤r):∀(os:List Tr) {x t:Tr},Wy ws B x→ak B x=t→o9 ws B t os→t.aF=true→(∀o∈os,(bO B o).aF=true)→ ∀(xs:List W) {S:gY}{y1 y2 y4 y5:Option W},xs.length+os.length≤900→Sub S0 S→S q=aa (.bx (xs++[gS x]))→
  (vn B x os→ ∀S' y4 y5,Sub S0 S'→S' q=aa (.bx (xs++(rE B x os).map gS))→D.nx [aa (.ref a),y1,y2,aa (.ref q),y4,y5] S')→(¬vn B x os→ ∀σ S',Sub S0 S'→E "TooGreat" σ S')→
  nU (wGN 4) (Ga r nG) E D G (os.map gS) [aa (.ref a),y1,y2,aa (.ref q),y4,y5] S
 | [],x,t,hx,ex,hR,hs,hg=>λxs S y1 y2 y4 y5 hl sb hq h _=>h trivial S _ _ sb hq
 |o::os,x,t,hx,ex,⟨r1,r2,r3⟩,hs,hg=>by
  intro xs S y1 y2 y4 y5 hl sb hq h hE;have cl:vF ws B x o:=⟨K,hx,r1,by rw[ex,r2],by rw[r2];exact hs⟩
  have m:=K.moved hx r1 cl.e;have go:=hg o aM;rw[aG];rw[aS]at hl;refine rY λN hN=>?_;rw[uP,Ga];rw[NS];ext;rw[nT hq,Cq];dsimp only;obtain⟨r',er⟩:∃r',r=r'+2:=⟨r - 2,`l⟩
  rw[er];refine cl.ok_move (r:=r'+1) (sb _ _ ha) `l ?_;rw[LF];ext;refine⟨`d,λv hv=>?_⟩;have sv:Sub S0 (bz S v (Ob.bx [gS (res B x o)])):=sb.trans (.bz .refl hv);refine GY (xs:=[res B x o]) (t:=bO B o) K (sv _ _ ha) nJ ⟨m.wy,m.sr,trivial⟩ go `l (λk=>?_) λ⟨u,hu,e⟩=>?_
  ·have k0:=k _ aM;rw[O7];ext;have fq:=keep (x:=Ob.bx [gS (res B x o)]) hq hv;rw[nT fq,nT fq];refine⟨trivial,rA (by rw[aW,cj];lia),?_⟩;have sb2:Sub S0 (bz (bz S v (Ob.bx [gS (res B x o)])) q (.bx (xs++[gS x]++[gS (res B x o)]))):= .bz sv h0;refine hN _ _ _ .refl (hG _ sb2) (K6 K ha h0 hG hr os m.wy m.sr r3 go (λu hu=>hg u (aI _ hu)) (xs++[gS x]) (by rw[aW,cj];lia) sb2 nJ (λlk S' z4 z5 s' hq'=>?_) λnk=>hE λlk=>nk lk.2);refine h ⟨k0,lk⟩ S' z4 z5 s' ?_;rw[hq',rE,aG];simp
  ·rw[bw.mp hu]at e;exact hE (λlk=>by rw[lk.1]at e;cases e) _ _ sv
def ziz{S:gY}{x t:Tr}{os:List Tr}{Q:WK}{X:ah→gY→Prop}(K:Bk3 ws B) (ha:S a=aa (.bx (B.map nN))) (hl:S l=aa (.bx (os.map gS))) (hx:Wy ws B x) (ex:ak B x=t) (hR:o9 ws B t os) (hs:t.aF=true) (hg:∀o∈os,(bO B o).aF=true) (hn:os.length≤800) (hr:64≤r)
  (h:vn B x os→ ∀S' q,Sub S S'→S q=none→S' q=aa (.bx ((rE B x os).map gS))→Q (.ref q) S') (hX:¬vn B x os→ ∀S',Sub S S'→X "TooGreat" S'):yE (r+1) [.ref a,gS x, .ref l] S Q X:=by
 rw[yE,wz];refine⟨rfl,?_⟩;rw[Kb];ext;refine⟨`d,λq hq=>?_⟩;rw[Nw];ext;rw[nT (keep hl hq)];refine K6 K ha hq (λS' sb=>sb _ _ hl) hr os hx ex hR hs hg [] (by simp;lia) (.bz .refl hq) nJ (λlk S' y4 y5 sb hq'=>?_) λnk σ S' sb=>hX nk S' sb;rw[J9];ext;exact⟨_, .refl,h lk S' q sb hq (by rw[hq',aQ])⟩
def Sh.of (K:Bk3 ws B) (h:Wy ws B x):Sh ws B (ak B x):=⟨(K.ak h).1,(K.ak h).2.1⟩
structure Lfs (B:List Tn):Prop where
  op:∀t∈B,∀us:List Tr,us.length=t.2.1.nb→r9 B (t.2.1.aB us)=aa t
  lf:∀t∈B,∃n h c d,t.2.1∈bu n h c d
structure Ms where
  c0:Nat
  c1:Nat
  k:Tn→Nat→Nat
mutual
noncomputable def Tr.ms (B:List Tn) (m:Ms):Tr→Nat
 | .bl _=>0
 | .nd s ts=>match n_ B s with
  |none=>m.c0+n4 B m (λ_=>1) 0 ts
  |some t=>m.c1+n4 B m (m.k t) 0 ts
noncomputable def n4 (B:List Tn) (m:Ms) (f:Nat→Nat) (i:Nat):List Tr→Nat
 | []=>0
 |t::ts=>f i*t.ms B m+n4 B m f (i+1) ts
end
section
variable {B:List Tn}{m:Ms}{f g:Nat→Nat}
def u6 (h:n_ B s=none):(Tr.nd s ts).ms B m=m.c0+n4 B m (λ_=>1) 0 ts:=by rw[Tr.ms,h]
def vd (h:n_ B s=aa t):(Tr.nd s ts).ms B m=m.c1+n4 B m (m.k t) 0 ts:=by rw[Tr.ms,h]
theorem DK:∀(ts:List Tr) (i:Nat),(∀j,f j≤g j)→n4 B m f i ts≤n4 B m g i ts
 | [],i,h=>by rw[n4,n4];exact aE _
 |t::ts,i,h=>by
  rw[n4,n4];have h1:=lC (t.ms B m) (h i);have h2:=DK ts (i+1) h;lia
theorem Fp:∀(ts:List Tr) (i:Nat),n4 B m (λj=>f j+g j) i ts=n4 B m f i ts+n4 B m g i ts
 | [],i=>by rw[n4,n4,n4]
 |t::ts,i=>by
  rw[n4,n4,n4,Fp ts (i+1),eJ];lia
theorem Jl:∀(ts:List Tr) (i:Nat),n4 B m (λ_=>0) i ts=0
 | [],i=>by rw[n4]
 |t::ts,i=>by rw[n4,Jl ts (i+1),Nat.zero_mul]
theorem N5:∀(ts:List Tr) (i:Nat) {t:Tr},i≤n→ts[n - i]? =aa t→n4 B m (λj=>if(j:Int)=(n:Int) then 1 else 0) i ts=t.ms B m
 | [],i,t,hi,h=>by simp at h
 |u::ts,i,t,hi,h=>by
  rw[n4];by_cases e:i=n
  ·subst e;rw[ge]at h;cases h;have z:n4 B m (λj=>if(j:Int)=(i:Int) then 1 else 0) (i+1) ts=0:=by
    have:∀(ts:List Tr) (k:Nat),i<k→n4 B m (λj=>if(j:Int)=(i:Int) then 1 else 0) k ts=0:=by
     intro ts
     induction ts with
     |nil=>intro k _;rw[n4]
     |cons u ts ih=>
      intro k hk;rw[n4,ih (k+1) `l];rw[if_neg `l,Nat.zero_mul]
    exact this ts _ `l
   rw[z];simp
  ·have:=N5 (n:=n) ts (i+1) (t:=t) `l (by
    rw[show n - i=n - (i+1)+1 by lia,d8]at h
    exact h)
   rw[this,if_neg `l];simp
noncomputable def cn (t:Tr) (j:Nat):Nat:=t.nm.count (j:Int)
mutual
theorem F7{P:ah→Prop}(hP:∀s,P s→n_ B s=none):∀t:Tr,t.hb P→t.a_ us.length→(t.aB us).ms B m=m.c0*t.sg+n4 B m (cn t) 0 us
 | .bl n,h,ft=>by
  rw[Tr.a_]at ft;have hl:n.toNat<us.length:=by lia
  rw[Tr.aB,bF,aU hl,gD,Tr.sg,Nat.mul_zero,ca];rw[←N5 (m:=m) (B:=B) (n:=n.toNat) us 0 (bc _) (aU hl)];congr 1;funext j;unfold cn;rw[Tr.nm,List.count_singleton,dt ft.1];by_cases e:(j:Int)=n
  ·rw[if_pos e,if_pos (by rw[e];exact beq_self_eq_true _)]
  ·rw[if_neg e,if_neg (λz=>e (by rw[beq_iff_eq]at z;lia))]
 | .nd s ts,h,ft=>by
  rw[Tr.a_]at ft;rw[Tr.hb]at h;rw[Tr.aB,u6 (hP s h.1),zX hP ts h.2 ft 0,Tr.sg];have:cn (.nd s ts)=λ(j:Nat)=>(p7 ts).count (j:Int):=by
   funext j;unfold cn;rw[Tr.nm]
  rw[this,fT,Nat.mul_one];lia
theorem zX{P:ah→Prop}(hP:∀s,P s→n_ B s=none):∀ts:List Tr,pH P ts→nX us.length ts→ ∀i,n4 B m (λ_=>1) i (oG us ts)=m.c0*vJ ts+n4 B m (λj=>(p7 ts).count (j:Int)) 0 us
 | [],h,ft,i=>by
  have:(λj:Nat=>(p7 []).count (j:Int))=λ_=>0:=by
   funext j;rw[p7];rfl
  rw[oG,n4,vJ,this,Jl];rfl
 |t::ts,h,ft,i=>by
  rw[nX]at ft;rw[pH]at h;have:(λj:Nat=>(p7 (t::ts)).count (j:Int))=λj=>cn t j+(p7 ts).count (j:Int):=by
   funext j;unfold cn;rw[p7,List.count_append]
  rw[oG,n4,F7 hP t h.1 ft.1,zX hP ts h.2 ft.2 (i+1),vJ,this,Fp,dO,fT m.c0 t.sg];lia
end
end
def mP:Ms:=⟨1,3,λ_ _=>2⟩
mutual
noncomputable def Tr.dm (B:List Tn):Tr→Nat
 | .bl _=>0
 | .nd s ts=>match n_ B s with
  |none=>1+pG B ts
  |some _=>3+pG B ts
noncomputable def pG (B:List Tn):List Tr→Nat
 | []=>0
 |t::ts=>max (t.dm B) (pG B ts)
end
section
variable {B:List Tn}
def wI (h:n_ B s=none):(Tr.nd s ts).dm B=1+pG B ts:=by rw[Tr.dm,h]
def wW (h:n_ B s=aa t):(Tr.nd s ts).dm B=3+pG B ts:=by rw[Tr.dm,h]
theorem Px:∀{ts:List Tr},x∈ts→x.dm B≤pG B ts
 |t::ts,h=>by
  rw[pG];obtain rfl |h:=az.mp h
  ·lia
  ·have:=Px h;lia
mutual
theorem Ed{P:ah→Prop}(hP:∀s,P s→n_ B s=none):∀t:Tr,t.hb P→t.a_ us.length→(t.aB us).dm B≤t.sd+pG B us
 | .bl n,h,ft=>by
  rw[Tr.a_]at ft;have hl:n.toNat<us.length:=by lia
  rw[Tr.aB,bF,aU hl,gD,Tr.sd,ca];exact Px (dQ ..)
 | .nd s ts,h,ft=>by
  rw[Tr.a_]at ft;rw[Tr.hb]at h;have:=EJ hP ts h.2 ft;rw[Tr.aB,wI (hP s h.1),Tr.sd];lia
theorem EJ{P:ah→Prop}(hP:∀s,P s→n_ B s=none):∀ts:List Tr,pH P ts→nX us.length ts→pG B (oG us ts)≤vW ts+pG B us
 | [],h,ft=>by rw[oG,pG];lia
 |t::ts,h,ft=>by
  rw[nX]at ft;rw[pH]at h;have h1:=Ed hP t h.1 ft.1;have h2:=EJ hP ts h.2 ft.2;rw[oG,pG,vW];lia
end
end
section
variable {B:List Tn}
def vp:n4 B m (λ_=>2) i ts=2*n4 B m (λ_=>1) i ts:=by
 have:=Fp (B:=B) (m:=m) (f:=λ_=>1) (g:=λ_=>1) ts i;rw[show(λ_:Nat=>2)=λ_=>1+1 from rfl,this];lia
end
def oE.up (hv:∀x∈vs,x∈ws) (h:oE vs B p):oE ws B p:=by
 induction h with
 |sign hh _ ih=>exact .sign (hv _ hh) ih
 |turn e hl b0 b1 _ ih=>exact .turn e hl b0 b1 ih
structure Ou (ws:List ah) (B:List Tn) (X:Tr) (q:List Int) (t:Tn) (us:List Tr):Prop where
  ht:t∈B
  hl:us.length=t.2.1.nb
  hat:X.at q=aa (t.2.1.aB us)
  sh:∀u∈us,Sh ws B u
noncomputable def wyO (X:Tr) (q:List Int) (t:Tn) (us:List Tr):Tr:=X.bz q (.nd t.1 us)
noncomputable def toO (X:Tr) (q:List Int) (t:Tn) (us:List Tr):Tr:=X.bz q (t.2.2.aB us)
inductive CB (ws:List ah) (B:List Tn):Tr→List (List Int)→List Tr→List Tr→Prop
 |nil {X:Tr}:Sh ws B X→X.aF=true→CB ws B X [] [] []
 |cons {X:Tr}{q:List Int}{t:Tn}{us:List Tr}{qs:List (List Int)}{ss Ys:List Tr}:Sh ws B X→X.aF=true→Ou ws B X q t us→CB ws B (toO X q t us) qs ss Ys→CB ws B X (q::qs) (wyO X q t us::ss) (toO X q t us::Ys)
def Li (X:Tr):List Tr→Tr
 | []=>X
 |Y::Ys=>Li Y Ys
noncomputable def hk (w0 w1:ah):List Tn:=[(w0, .bl 0, .bl 0),(w1, .bl 0, .bl 0)]
structure Dr (w0 w1 w2 w3 w4 w5:ah) (tt:List ah) (B:List Tn):Prop where
  c:oR w0 w1 w2 w3 w4 w5 tt B
  ri:∀t∈B,t.2.2∈p5 w0 w1 w2 w3 w4 w5 t.2.1.nb false
def zzx (h0:w0≠s) (h1:w1≠s):n_ (hk w0 w1) s=none:=by
 unfold n_ hk;simp [h0,h1]
def Kx:∃t,n_ (hk w0 w1) w0=aa t:=⟨(w0, .bl 0, .bl 0),by unfold n_ hk;simp⟩
def WV:∃t,n_ (hk w0 w1) w1=aa t:=by
 by_cases e:w0=w1
 ·subst e;exact Kx
 ·exact⟨(w1, .bl 0, .bl 0),by unfold n_ hk;simp [e]⟩
def p8.no (G:p8 w0 w1 w2 w3 w4 w5):∀s∈ [w2,w3,w4,w5],n_ (hk w0 w1) s=none:=λs hs=>zzx (G.n0 s (aI _ hs)) (G.n1 s hs)
def YK (hm:m≤3) {P:ah→Prop}(hP:∀s∈ [w2,w3,w4,w5],P s):∀t∈p5 w0 w1 w2 w3 w4 w5 m false,t.hb P:=by
 intro t ht;have h2:=hP w2 `s;have h3:=hP w3 `s;have h4:=hP w4 `s;have h5:=hP w5 `s;obtain _ |_ |_ |_ |m:=m
 all_goals first
  |lia
  | (simp only[p5,bY,aQ,if_false,cA,az,aZ,or_false]at ht<;>(try rcases ht with rfl |rfl |rfl |rfl |rfl |rfl |rfl |rfl)<;>(try rcases ht with rfl |rfl |rfl |rfl |rfl |rfl |rfl)<;>(try rcases ht with rfl |rfl |rfl |rfl |rfl |rfl)<;>(try rcases ht with rfl |rfl |rfl |rfl |rfl)<;>(try rcases ht with rfl |rfl |rfl)<;>simp [Tr.hb,pH,h2,h3,h4,h5])
structure ON (w0 w1:ah) (L:Tr):Prop where
  ex:∃h ls t,L= .nd h ls∧n_ (hk w0 w1) h=aa t∧pH (λs=>n_ (hk w0 w1) s=none) ls∧vJ ls≤2∧vW ls≤2∧(p7 ls).Nodup∧ ∀i:Nat,i<L.nb→(i:Int)∈p7 ls
def Qj (ht:n_ (hk w0 w1) h=aa t) (h2:n_ (hk w0 w1) w2=none) (h3:n_ (hk w0 w1) w3=none):∀L∈bu n h w2 w3,ON w0 w1 L:=by
 intro L hL;have one:∀i:Nat,i<1→(i:Int)∈ [(0:Int)]:=λi hi=>by
  have:i=0:=by lia
  subst this;simp
 have two:∀i:Nat,i<2→(i:Int)∈ [(0:Int),1]:=λi hi=>by
  obtain rfl |rfl:i=0∨i=1:=by lia
  ·simp
  ·simp
 have three:∀i:Nat,i<3→(i:Int)∈ [(0:Int),1,2]:=λi hi=>by
  obtain rfl |rfl |rfl:i=0∨i=1∨i=2:=by lia
  ·simp
  ·simp
  ·simp
 unfold bu at hL;split at hL<;>simp only[az,aZ,or_false]at hL
 all_goals first
  | (subst hL;exact⟨_,_,t,rfl,ht,by simp [pH,Tr.hb,h2,h3],by simp [vJ,Tr.sg],by simp [vW,Tr.sd],by simp [p7,Tr.nm],by simp only[Tr.nb,nbs,p7,Tr.nm,bY,aQ,bC,eM,ca,jx];first |exact one |exact two |exact three | (intro i hi;lia)⟩)
  | (rcases hL with rfl |rfl<;>exact⟨_,_,t,rfl,ht,by simp [pH,Tr.hb,h2,h3],by simp [vJ,Tr.sg],by simp [vW,Tr.sd],by simp [p7,Tr.nm],by simp only[Tr.nb,nbs,p7,Tr.nm,bY,aQ,bC,eM,ca,jx];first |exact one |exact two |exact three | (intro i hi;lia)⟩)
def oR.lh (c:oR w0 w1 w2 w3 w4 w5 tt B) (ht:t∈B):ON w0 w1 t.2.1:=by
 have h2:=c.G.no w2 `s;have h3:=c.G.no w3 `s;obtain⟨n,z |z⟩:=c.b.mem_lefts ht
 ·obtain⟨u,hu⟩:=Kx (w0:=w0) (w1:=w1);exact Qj hu h2 h3 _ z
 ·obtain⟨u,hu⟩:=WV (w0:=w0) (w1:=w1);exact Qj hu h2 h3 _ z
def oR.nb3 (c:oR w0 w1 w2 w3 w4 w5 tt B) (ht:t∈B):t.2.1.nb≤3:=(c.bk.lf t ht).nb
def Dr.no (d:Dr w0 w1 w2 w3 w4 w5 tt B) (ht:t∈B):t.2.2.hb λs=>n_ (hk w0 w1) s=none:=YK (d.c.nb3 ht) d.c.G.no _ (d.ri t ht)
def Dr.rx (d:Dr w0 w1 w2 w3 w4 w5 tt B):∀t∈B,RX t.2.2:=λt ht=>Iv (d.c.nb3 ht) false _ (d.ri t ht)
mutual
theorem zFI:∀(t:Tr) {i:Nat},(i:Int)∈t.nm→us[i]? =aa u→u.dm H≤(t.aB us).dm H
 | .bl n,i,hi,hu=>by
  rw[Tr.nm,bw]at hi;subst hi;rw[Tr.aB,cy,bF,hu];exact aE _
 | .nd s ts,i,hi,hu=>by
  rw[Tr.nm]at hi;have:=DI (H:=H) ts hi hu;rw[Tr.aB,Tr.dm];split<;>lia
theorem DI:∀(ts:List Tr) {i:Nat},(i:Int)∈p7 ts→us[i]? =aa u→u.dm H≤pG H (oG us ts)
 | [],i,hi,hu=>by rw[p7]at hi;cases hi
 |t::ts,i,hi,hu=>by
  rw[p7]at hi;rw[oG,pG];obtain z |z:=bv.mp hi
  ·have:=zFI (H:=H) t z hu;lia
  ·have:=DI (H:=H) ts z hu;lia
end
theorem Fh:∀(us:List Tr),(∀u∈us,u.dm H≤n)→pG H us≤n
 | [],h=>by rw[pG];lia
 |u::us,h=>by
  have:=h u aM;have:=Fh us λv hv=>h v (aI _ hv);rw[pG];lia
def mN:Ms:=⟨0,1,λ_ _=>1⟩
structure Mh (m:Ms):Prop where
  k:m.k=λ_ _=>2
  c:3*m.c0≤m.c1
theorem Hd{f g:Nat→Nat}:∀(ts:List Tr) (i:Nat),(∀j,i≤j→j<i+ts.length→f j≤g j)→n4 H m f i ts≤n4 H m g i ts
 | [],i,h=>by rw[n4,n4];exact aE _
 |t::ts,i,h=>by
  rw[aS]at h;rw[n4,n4];have h1:=lC (t.ms H m) (h i (aE _) `l);have h2:=Hd (m:=m) (H:=H) ts (i+1) λj h3 h4=>h j `l `l;lia
theorem Eh:∀(ts:List Tr) (i:Nat),(∀x∈ts,(bO B x).ms H m+d*x.ms B mN≤(ak B x).ms H m)→n4 H m (λ_=>1) i (ts.map (bO B))+d*n4 B mN (λ_=>1) i ts≤n4 H m (λ_=>1) i (ts.map (ak B))
 | [],i,h=>by simp [n4]
 |x::ts,i,h=>by
  have h1:=h x aM;have h2:=Eh ts (i+1) λy hy=>h y (aI _ hy);rw[aG,aG,n4,n4,n4,dO,dO,dO,fT];lia
theorem Dr.ms (d:Dr w0 w1 w2 w3 w4 w5 tt B) (M:Mh m):∀(n:Nat) {x:Tr},x.au≤n→Wy [w0,w1,w2,w3,w4,w5] B x→(bO B x).ms (hk w0 w1) m+(m.c1 - 3*m.c0)*x.ms B mN≤(ak B x).ms (hk w0 w1) m
 |0,x,hn,hx=>by have:=uc x;lia
 |n+1,x,hn,hx=>by
  have b:=d.c.K.b;obtain ⟨h,ts,rfl,_,e,k⟩ |⟨t,ts,ht,rfl,e,hl,k⟩:=Wy.cases b hx
  ·rw[Tr.au]at hn;have ih:=Eh (B:=B) (m:=m) (d:=m.c1 - 3*m.c0) (H:=hk w0 w1) ts 0 λy hy=>Dr.ms d M n (by have:=qg hy;lia) (k y hy);have e0:(mN.c0)=0:=rfl;rw[bO,ak,tO e,tO e,u6 e,e0,ca];show(Tr.nd h (ts.map (bO B))).ms (hk w0 w1) m+_≤(Tr.nd h (ts.map (ak B))).ms (hk w0 w1) m;cases eh:n_ (hk w0 w1) h with
   |none=>rw[u6 eh,u6 eh];lia
   |some u=>
    rw[vd eh,vd eh,M.k];show m.c1+n4 _ m (λ_=>2) 0 _+_≤m.c1+n4 _ m (λ_=>2) 0 _;rw[vp,vp];have:(m.c1 - 3*m.c0)*n4 B mN (λ_=>1) 0 ts≤2*((m.c1 - 3*m.c0)*n4 B mN (λ_=>1) 0 ts):=by lia
    lia
  ·rw[Tr.au]at hn;have ih:=Eh (B:=B) (m:=m) (d:=m.c1 - 3*m.c0) (H:=hk w0 w1) ts 0 λy hy=>Dr.ms d M n (by have:=qg hy;lia) (k y hy);have e1:mN.c1=1:=rfl;have rx:=d.rx t ht;have hls:(ts.map (ak B)).length=t.2.1.nb:=by rw[aD,hl]
   have hlg:(ts.map (bO B)).length=t.2.1.nb:=by rw[aD,hl]
   obtain⟨h,ls,u,eL,eh,hb,_,_,_,nm⟩:=(d.c.lh ht).ex;have fl:=(b.lf t ht).a_;have q1:=F7 (B:=hk w0 w1) (m:=m) (λ_ z=>z) (us:=ts.map (bO B)) t.2.2 (d.no ht) (by rw[hlg];exact(b.ri t ht).a_);have q2:n4 (hk w0 w1) m (cn t.2.2) 0 (ts.map (bO B))≤n4 (hk w0 w1) m (λ_=>2) 0 (ts.map (bO B)):=DK _ 0 λj=>rx.ct _;rw[vp]at q2;have q3:=rx.sg;have q4:(ak B (.nd t.1 ts)).ms (hk w0 w1) m≥m.c1+2*n4 (hk w0 w1) m (λ_=>1) 0 (ts.map (ak B)):=by
    rw[ak,sL e];show(t.2.1.aB (ts.map (ak B))).ms (hk w0 w1) m≥_;rw[eL,Tr.a_]at fl;rw[eL,Tr.aB,vd eh,M.k];show m.c1+n4 _ m (λ_=>2) 0 _≥_;rw[vp,zX (B:=hk w0 w1) (m:=m) (λ_ z=>z) ls hb (by rw[hls,eL];exact fl) 0];have:n4 (hk w0 w1) m (λ_=>1) 0 (ts.map (ak B))≤n4 (hk w0 w1) m (λj=>(p7 ls).count (j:Int)) 0 (ts.map (ak B)):=by
     refine Hd _ 0 λj _ hj=>lX.mpr (nm j ?_);rw[ca,hls]at hj;exact hj
    lia
   have q5:(bO B (.nd t.1 ts)).ms (hk w0 w1) m=m.c0*t.2.2.sg+n4 (hk w0 w1) m (cn t.2.2) 0 (ts.map (bO B)):=by
    rw[←q1,bO,sL e]
   have q6:m.c0*t.2.2.sg≤m.c0*3:=ie _ q3;have q7:(Tr.nd t.1 ts).ms B mN=1+n4 B mN (λ_=>1) 0 ts:=by rw[vd e];rfl
   have q8:=M.c;rw[q5,q7,fT,Nat.mul_one];have:(m.c1 - 3*m.c0)*n4 B mN (λ_=>1) 0 ts≤2*((m.c1 - 3*m.c0)*n4 B mN (λ_=>1) 0 ts):=by lia
   lia
theorem GR:∀(ts:List Tr),(∀x∈ts,(bO B x).dm H≤(ak B x).dm H)→pG H (ts.map (bO B))≤pG H (ts.map (ak B))
 | [],h=>by simp
 |x::ts,h=>by
  have h1:=h x aM;have h2:=GR ts λy hy=>h y (aI _ hy);rw[aG,aG,pG,pG];lia
theorem Dr.dm (d:Dr w0 w1 w2 w3 w4 w5 tt B):∀(n:Nat) {x:Tr},x.au≤n→Wy [w0,w1,w2,w3,w4,w5] B x→(bO B x).dm (hk w0 w1)≤(ak B x).dm (hk w0 w1)
 |0,x,hn,hx=>by have:=uc x;lia
 |n+1,x,hn,hx=>by
  have b:=d.c.K.b;obtain ⟨h,ts,rfl,_,e,k⟩ |⟨t,ts,ht,rfl,e,hl,k⟩:=Wy.cases b hx
  ·rw[Tr.au]at hn;have ih:=GR (B:=B) (H:=hk w0 w1) ts λy hy=>Dr.dm d n (by have:=qg hy;lia) (k y hy);rw[bO,ak,tO e,tO e];show(Tr.nd h (ts.map (bO B))).dm (hk w0 w1)≤(Tr.nd h (ts.map (ak B))).dm (hk w0 w1);cases eh:n_ (hk w0 w1) h with
   |none=>rw[wI eh,wI eh];lia
   |some u=>rw[wW eh,wW eh];lia
  ·rw[Tr.au]at hn;have ih:=GR (B:=B) (H:=hk w0 w1) ts λy hy=>Dr.dm d n (by have:=qg hy;lia) (k y hy);have rx:=d.rx t ht;have hls:(ts.map (ak B)).length=t.2.1.nb:=by rw[aD,hl]
   have hlg:(ts.map (bO B)).length=t.2.1.nb:=by rw[aD,hl]
   obtain⟨h,ls,u,eL,eh,hb,_,_,_,nm⟩:=(d.c.lh ht).ex;have q1:=Ed (B:=hk w0 w1) (λ_ z=>z) (us:=ts.map (bO B)) t.2.2 (d.no ht) (by rw[hlg];exact(b.ri t ht).a_);have q3:=rx.sd;have q4:(ak B (.nd t.1 ts)).dm (hk w0 w1)≥3+pG (hk w0 w1) (ts.map (ak B)):=by
    rw[ak,sL e];show(t.2.1.aB (ts.map (ak B))).dm (hk w0 w1)≥_;rw[eL,Tr.aB,wW eh];have:pG (hk w0 w1) (ts.map (ak B))≤pG (hk w0 w1) (oG (ts.map (ak B)) ls):=Fh _ λv hv=>by
     obtain⟨i,hi,ei⟩:=hZ hv;exact DI ls (nm i (by rw[←hls];exact hi)) (by rw[aU hi,ei])
    lia
   have q5:(bO B (.nd t.1 ts)).dm (hk w0 w1)=(t.2.2.aB (ts.map (bO B))).dm (hk w0 w1):=by
    rw[bO,sL e]
   rw[q5];lia
mutual
theorem GL:∀{t:Tr},(t.hd λ_=>True)→t.au≤t.ms H mP∧t.depth≤t.dm H
 | .bl n,h=>by rw[Tr.hd]at h;exact h.elim
 | .nd s ts,h=>by
  rw[Tr.hd]at h;obtain⟨h1,h2⟩:=GK (H:=H) (f:=λ_=>1) (λ_=>aE _) h.2 0;obtain⟨h3,h4⟩:=GK (H:=H) (f:=λ_=>2) (λ_=>by lia) h.2 0
  cases e:n_ H s with
  |none=>
   rw[u6 e,wI e,Tr.au,Tr.depth];have:mP.c0=1:=rfl;lia
  |some t=>
   rw[vd e,wW e,Tr.au,Tr.depth];have:mP.c1=3:=rfl;have e2:n4 H mP (mP.k t) 0 ts=n4 H mP (λ_=>2) 0 ts:=rfl;lia
theorem GK{f:Nat→Nat}(hf:∀j,1≤f j):∀{ts:List Tr},hds (λ_=>True) ts→ ∀i,nI ts≤n4 H mP f i ts∧oy ts≤pG H ts
 | [],h,i=>by rw[nI,n4,oy,pG];lia
 |t::ts,h,i=>by
  rw[hds]at h;obtain⟨h1,h2⟩:=GL (H:=H) h.1;obtain⟨h3,h4⟩:=GK (H:=H) hf h.2 (i+1);have:=lI (t.ms H mP) (hf i);rw[nI,n4,oy,pG];lia
end
structure Cl (w0 w1 w2 w3 w4 w5:ah) (B:List Tn) (X:Tr):Prop where
  sh:Sh [w0,w1,w2,w3,w4,w5] B X
  p:X.ms (hk w0 w1) mP≤400
  q:X.dm (hk w0 w1)≤40
def Cl.sm (h:Cl w0 w1 w2 w3 w4 w5 B X):X.aF=true:=by
 obtain⟨h1,h2⟩:=GL (H:=hk w0 w1) (vU (λ_ _=>trivial) _ h.sh.wy.hd);have:=h.p;have:=h.q;exact yW `l `l
def Dr.cl (d:Dr w0 w1 w2 w3 w4 w5 tt B) (hx:Wy [w0,w1,w2,w3,w4,w5] B x) (h:Cl w0 w1 w2 w3 w4 w5 B (ak B x)):Cl w0 w1 w2 w3 w4 w5 B (bO B x):=by
 have h1:=d.ms (m:=mP) ⟨rfl,`d⟩ _ (aE _) hx
 have h2:=d.dm _ (aE _) hx;have h3:=h.p;have h4:=h.q;have:=d.c.K.bO hx;exact⟨⟨this.1,this.2.1⟩,`l,`l⟩
def mT:Ms:=⟨0,1,λ_ _=>2⟩
mutual
noncomputable def Tr.hn (H:List Tn):Tr→Nat
 | .bl _=>0
 | .nd s ts=>match n_ H s with
  |none=>hns H ts
  |some _=>1+hns H ts
noncomputable def hns (H:List Tn):List Tr→Nat
 | []=>0
 |t::ts=>max (t.hn H) (hns H ts)
end
def M_ (h:n_ H s=none):(Tr.nd s ts).hn H=hns H ts:=by rw[Tr.hn,h]
def UX (h:n_ H s=aa t):(Tr.nd s ts).hn H=1+hns H ts:=by rw[Tr.hn,h]
theorem Ji:∀{ts:List Tr},x∈ts→x.hn H≤hns H ts
 |t::ts,h=>by
  rw[hns];obtain rfl |h:=az.mp h
  ·lia
  ·have:=Ji (H:=H) h;lia
mutual
theorem Wm{P:ah→Prop}(hP:∀s,P s→n_ H s=none):∀t:Tr,t.hb P→t.a_ us.length→(t.aB us).hn H≤hns H us
 | .bl n,h,ft=>by
  rw[Tr.a_]at ft;have hl:n.toNat<us.length:=by lia
  rw[Tr.aB,bF,aU hl,gD];exact Ji (dQ ..)
 | .nd s ts,h,ft=>by
  rw[Tr.a_]at ft;rw[Tr.hb]at h;rw[Tr.aB,M_ (hP s h.1)];exact FN hP ts h.2 ft
theorem FN{P:ah→Prop}(hP:∀s,P s→n_ H s=none):∀ts:List Tr,pH P ts→nX us.length ts→hns H (oG us ts)≤hns H us
 | [],h,ft=>by rw[oG,hns];lia
 |t::ts,h,ft=>by
  rw[nX]at ft;rw[pH]at h;have h1:=Wm hP t h.1 ft.1;have h2:=FN hP ts h.2 ft.2;rw[oG,hns];lia
end
def TJ{m1 m2 s1 s2 a b:Nat}(ha:1≤a) (hb:1≤b) (h1:m1+7≤(s1+7)*a) (h2:m2+7≤(s2+7)*b):m1+m2+7≤(s1+s2+7)*(a*b):=by
 have e1:s1*a≤s1*(a*b):=ie _ (Nat.le_mul_of_pos_right _ hb);have e2:s2*b≤s2*(a*b):=ie _ (lI _ ha);have e3:a+b≤a*b+1:=by
  obtain⟨a,rfl⟩:∃a',a=a'+1:=⟨a - 1,`l⟩
  obtain⟨b,rfl⟩:∃b',b=b'+1:=⟨b - 1,`l⟩
  rw[fT,eJ];lia
 rw[eJ]at h1 h2;rw[eJ,eJ];lia
def Sf (ha:1≤a) (hb:1≤b) (h1:m1+1≤a) (h2:m2+1≤b):m1+m2+1≤a*b:=by
 have e3:a+b≤a*b+1:=by
  obtain⟨a,rfl⟩:∃a',a=a'+1:=⟨a - 1,`l⟩
  obtain⟨b,rfl⟩:∃b',b=b'+1:=⟨b - 1,`l⟩
  rw[fT,eJ];lia
 lia
structure Nh (H:List Tn) (B:List Tn) (p:Pl):Prop where
  n:p.nt≤p.wt
  a:(p.ev B zr).ms H mP+7≤(p.wt - p.nt+7)*2 ^ p.nt
  b:(p.ev B zr).ms H mT+1≤2 ^ p.nt
  c:(p.ev B zr).dm H≤p.wt+4*p.nt
  d:(p.ev B zr).hn H≤p.nt
theorem E8:∀(ps:List Pl),(∀p∈ps,Nh H B p)→ ∀i,bo ps≤br ps∧n4 H mP (λ_=>1) i (ps.map (Pl.ev B zr))+7≤(br ps - bo ps+7)*2 ^ bo ps∧n4 H mT (λ_=>1) i (ps.map (Pl.ev B zr))+1≤2 ^ bo ps∧pG H (ps.map (Pl.ev B zr))≤br ps+4*bo ps∧hns H (ps.map (Pl.ev B zr))≤bo ps
 | [],_,i=>by simp [bo,br,n4,pG,hns]
 |p::ps,h,i=>by
  have q:=h p aM;obtain⟨b1,b2,b3,b4,b5⟩:=E8 ps (λq hq=>h q (aI _ hq)) (i+1);have:=TJ (gL (n:=p.nt)) (gL (n:=bo ps)) q.a b2;have t2:=Sf (gL (n:=p.nt)) (gL (n:=bo ps)) q.b b3;rw[←Nat.pow_add]at this t2;have h1:=q.n;have h2:=q.c;have h3:=q.d;rw[bo,br,aG,n4,n4,pG,hns,dO,dO];refine⟨`l,?_,t2,`l,`l⟩
  rw[show p.wt+br ps - (p.nt+bo ps)=p.wt - p.nt+(br ps - bo ps) by lia]
  exact this
def oR.plh (c:oR w0 w1 w2 w3 w4 w5 tt B) (h:oE [w2,w3,w4,w5] B p):Nh (hk w0 w1) B p:=by
 have b:=c.bk
 induction h with
 | @sign b' h ps hh hp ih=>
  obtain⟨b1,b2,b3,b4,b5⟩:=E8 ps ih 0;have e:=c.G.no h hh;have h1:mP.c0=1:=rfl;have h2:mT.c0=0:=rfl;have h3:=gL (n:=bo ps);have n1:(Pl.nd (-1) b' h ps).nt=bo ps:=by rw[Pl.nt,if_pos `d,ca]
  have n2:(Pl.nd (-1) b' h ps).wt=1+br ps:=by rw[Pl.wt]
  refine⟨by rw[n1,n2];lia,?_,?_,?_,?_⟩
  ·rw[n1,n2,rF,u6 e,h1,show 1+br ps - bo ps+7=(br ps - bo ps+7)+1 by lia,eJ]
   lia
  ·rw[n1,rF,u6 e,h2];lia
  ·rw[n1,n2,rF,wI e];lia
  ·rw[n1,rF,M_ e];exact b5
 | @turn k b' h ps t e hl b0 b1 hp ih=>
  obtain⟨i1,i2,i3,i4,i5⟩:=E8 ps ih 0;have ht:t∈B:=bX e;have hl':(ps.map (Pl.ev B zr)).length=t.2.1.nb:=by rw[aD,hl]
  obtain⟨z,ls,u,eL,eh,hb,s2,d2,nd,nm⟩:=(c.lh ht).ex;have fl:=(b.lf t ht).a_;rw[eL,Tr.a_]at fl;have fl':nX (ps.map (Pl.ev B zr)).length ls:=by rw[hl',eL];exact fl
  have ez:sN t (zr b') (ps.map (Pl.ev B zr))= .nd z (oG (ps.map (Pl.ev B zr)) ls):=by
   have:sN t (zr b') (ps.map (Pl.ev B zr))=t.2.1.aB (ps.map (Pl.ev B zr)):=rfl;rw[this,eL,Tr.aB]
  have ct:∀j,(p7 ls).count ((j:Nat):Int)≤1:=λj=>List.nodup_iff_count.mp nd _;have q:∀m:Ms,n4 (hk w0 w1) m (λ_=>1) 0 (oG (ps.map (Pl.ev B zr)) ls)≤m.c0*2+n4 (hk w0 w1) m (λ_=>1) 0 (ps.map (Pl.ev B zr)):=λm=>by
   rw[zX (B:=hk w0 w1) (m:=m) (λ_ z=>z) ls hb fl' 0];have h1:=ie m.c0 s2;have h2:n4 (hk w0 w1) m (λj=>(p7 ls).count (j:Int)) 0 (ps.map (Pl.ev B zr))≤n4 (hk w0 w1) m (λ_=>1) 0 (ps.map (Pl.ev B zr)):=DK _ 0 ct;lia
  have qP:=q mP;have qT:=q mT;have c1:mP.c0=1:=rfl;have c2:mT.c0=0:=rfl;rw[c1]at qP;rw[c2]at qT;have n1:(Pl.nd k b' h ps).nt=1+bo ps:=by rw[Pl.nt,if_neg `l]
  have n2:(Pl.nd k b' h ps).wt=1+br ps:=by rw[Pl.wt]
  have ev:(Pl.nd k b' h ps).ev B zr= .nd z (oG (ps.map (Pl.ev B zr)) ls):=by rw[qY e,ez]
  have p2:2 ^ (1+bo ps)=2*2 ^ bo ps:=by rw[Nat.pow_add,Nat.pow_one]
  refine⟨by rw[n1,n2];lia,?_,?_,?_,?_⟩
  ·rw[n1,n2,ev,vd eh];show 3+n4 _ mP (λ_=>2) 0 _+7≤_;rw[vp,show 1+br ps - (1+bo ps)+7=br ps - bo ps+7 by lia,p2,←kJ,Nat.mul_comm _ 2,kJ]
   lia
  ·rw[n1,ev,vd eh];show 1+n4 _ mT (λ_=>2) 0 _+1≤_;rw[vp,p2];lia
  ·have:=EJ (B:=hk w0 w1) (λ_ z=>z) ls hb fl';rw[n1,n2,ev,wW eh];lia
  ·have:=FN (H:=hk w0 w1) (λ_ z=>z) ls hb fl';rw[n1,ev,UX eh];lia
inductive Lo (B:List Tn):Tr→List Int→Tr→Tr→Prop
 |top {t:Tn}{vs:List Tr}:t∈B→vs.length=t.2.1.nb→Lo B (t.2.1.aB vs) [] (.nd t.1 (vs.map (ak B))) (.nd t.1 (vs.map (bO B)))
 |sgn {h:ah}{as bs:List Tr}{x s y:Tr}{q:List Int}:n_ B h=none→Lo B x q s y→Lo B (.nd h (as++x::bs)) ((as.length:Int)::q) (.nd h (as.map (ak B)++s::bs.map (ak B))) (.nd h (as.map (bO B)++y::bs.map (bO B)))
 |here {h:ah}{ts:List Tr}{t:Tn}:n_ B h=aa t→Lo B (.nd h ts) [] (.nd h (ts.map (ak B))) (t.2.2.aB (ts.map (bO B)))
 |tit {h:ah}{t:Tn}{as bs:List Tr}{x s y:Tr}{q e:List Int}:n_ B h=aa t→(t.2.1.bls.map λx=>x.1)[as.length]? =aa e→Lo B x q s y→Lo B (.nd h (as++x::bs)) (e++q) (t.2.1.aB (as.map (ak B)++s::bs.map (ak B))) (t.2.2.aB (as.map (bO B)++y::bs.map (bO B)))
theorem MD{P:ah→Prop}:∀{ls:List Tr},pH P ls→l∈ls→l.hb P
 |t::ts,h,m=>by
  rw[pH]at h;obtain rfl |m:=az.mp m
  ·exact h.1
  ·exact MD h.2 m
mutual
theorem HR:∀(t:Tr) {i:Int},i∈t.nm→ ∃q,t.at q=aa (.bl i)
 | .bl n,i,h=>by
  rw[Tr.nm,bw]at h;subst h;exact⟨[],Dd _⟩
 | .nd s ts,i,h=>by
  rw[Tr.nm]at h;obtain⟨j,t,q,h1,h2⟩:=KY ts h;exact⟨(j:Int)::q,by rw[PF h1];exact h2⟩
theorem KY:∀(ts:List Tr) {i:Int},i∈p7 ts→ ∃(j:Nat) (t:Tr) (q:List Int),ts[j]? =aa t∧t.at q=aa (.bl i)
 | [],i,h=>by rw[p7]at h;cases h
 |t::ts,i,h=>by
  rw[p7]at h;obtain z |z:=bv.mp h
  ·obtain⟨q,hq⟩:=HR t z;exact⟨0,t,q,rfl,hq⟩
  ·obtain⟨j,u,q,h1,h2⟩:=KY ts z;exact⟨j+1,u,q,by rw[d8];exact h1,h2⟩
end
mutual
theorem Ot:∀t:Tr,t.au≤1000→t.wd
 | .bl _,_=>trivial
 | .nd s ts,h=>by
  rw[Tr.au]at h;have:=qJ ts;exact⟨`l,Jp ts `l⟩
theorem Jp:∀ts:List Tr,nI ts≤1000→wl ts
 | [],_=>trivial
 |t::ts,h=>by
  rw[nI]at h;exact⟨Ot t `l,Jp ts `l⟩
end
def Sy (hw:t.au≤400) (hd:t.depth≤40) (hr:60≤r) (h:T E D [y0,aa (.bH [gS t, .ref l1]),y2,y3,y4,y5,y6,y7] S) :
  GG r T E D [y0,aa (.bH [gS t, .ref l1]),y2,y3,y4,y5,y6,y7] S:=by
 rw[GG];ext;obtain⟨r,rfl⟩:∃r',r=r'+5:=⟨r - 5,`l⟩
 rw[show r+5=r+4+1 from rfl,Aw];ext;refine KH (r:=r+3) (Ot t `l) ?_;rw[yW hw hd]
 try ext
 exact⟨_, .refl,h⟩
def zk (B:List Tn):List Tr→List Tr→Prop
 | [],_=>True
 |x::xs,os=>vn B x os∧zk B xs (qk B x os)
section
variable {ws:List ah}{B:List Tn}
theorem IU (K:Bk3 ws B):∀(os:List Tr) {x t:Tr},Wy ws B x→ak B x=t→o9 ws B t os→vn B x os→ ∀u∈qk B x os,(bO B u).aF=true
 | [],x,t,_,_,_,_,u,hu=>by cases hu
 |o::os,x,t,hx,ex,⟨r1,r2,r3⟩,⟨l1,l2⟩,u,hu=>by
  have m:=K.moved hx r1 (by rw[ex,r2]);rw[qk]at hu;obtain e |e:=az.mp hu
  ·rw[e,←m.go];exact l1
  ·exact IU K os m.wy m.sr r3 l2 u e
theorem Km (K:Bk3 ws B):∀(os:List Tr) {x t:Tr},Wy ws B x→ak B x=t→o9 ws B t os→t.aF=true→(∀o∈os,(bO B o).aF=true)→ ∀p∈os.zip (rE B x os),vF ws B p.1 p.2
 | [],x,t,_,_,_,_,_,p,hp=>by cases hp
 |o::os,x,t,hx,ex,⟨r1,r2,r3⟩,hs,hg,p,hp=>by
  have cl:vF ws B x o:=⟨K,hx,r1,by rw[ex,r2],by rw[r2];exact hs⟩
  have m:=K.moved hx r1 cl.e;rw[rE,iS]at hp;obtain rfl |hp:=az.mp hp
  ·exact cl.symm
  ·exact Km K os m.wy m.sr r3 (hg o aM) (λu hu=>hg u (aI _ hu)) p hp
end
section
variable {ws:List ah}{B:List Tn}{a l1 l2 d o ρ:aj}{r:Nat}{E:WX}{D:nQ}{T:WS}{t t':Tr}{xs os:List Tr}{S:gY}{y1 y2 y3 y4 y5 y6 y7:Option W}
def Xs (ha:S a=aa (.bx (B.map nN))) (hl:S ρ=aa (.bx (os.map gS))) (hq:S q=aa (.bx ((rE B x os).map gS))) (hc:∀p∈os.zip (rE B x os),vF ws B p.1 p.2) (hn:os.length≤800) (hr:63≤r)
  (h:∀ρ',S ρ'=none→T E D [aa (.ref a),y1,y2,y3,aa (.ref ρ'),y5,y6,aa (.ref q)] (bz S ρ' (.bx ((qk B x os).map gS)))) :
  FH r T E D [aa (.ref a),y1,y2,y3,aa (.ref ρ),y5,y6,aa (.ref q)] S:=by
 rw[FH];ext;rw[nT hl,nT hq,OO];refine qw (λσ=>∃u v,σ=[u,v,aa (.ref a)]) (λp:Tr×Tr=> .bH [gS p.1,gS p.2]) (λp=>gS (res B p.1 p.2)) ⟨hl,hq⟩ (os.zip (rE B x os)) [] _ ⟨none,none,rfl⟩ (by rw[List.length_zip,OH];simp;lia) (λp hp σ R hI hR=>?_) ?_
 ·obtain⟨u,v,rfl⟩:=hI;have h2:=hc p hp;rw[Je];show oU (wGN 0) (oU (wGN 1) qh) [gS p.1,gS p.2] _ S _;rw[Gn];show wGN 0 _ _ _ _;rw[uP,Gn];show wGN 1 _ _ _ _;rw[uP,Pj,J8];show nF _ _ _ [aa (gS p.1),aa (gS p.2),aa (.ref a)] _ _;ext;right
  exact h2.ok_move ha `l (hR _ _ ⟨_,_,rfl⟩ .refl)
 ·intro ρ' hρ;have:=h ρ' hρ;rw[←IP,bB]at this;exact this
theorem IV{G:gY→Prop}(K:Bk3 ws B) (ha:S0 a=aa (.bx (B.map nN))) (hd0:S0 d=none) (ho0:S0 o=none) (hdo:d≠o) (hG:∀S,Sub S0 S→G S) (hr:66≤r):∀(xs:List Tr) {os:List Tr}{t:Tr},o9 ws B t xs→o9 ws B t os→t.aF=true→(∀x∈xs,(bO B x).aF=true)→(∀x∈os,(bO B x).aF=true)→ ∀{S:gY}{ρ:aj}{ds rs:List aj}{Ds Rs:List (List Tr)}{y1 y2 y6 y7:Option W},os.length≤800→ds.length+xs.length≤800→rs.length+xs.length≤800→Sub S0 S→S d=aa (.bx (ds.map W.ref))→S o=aa (.bx (rs.map W.ref++[.ref ρ]))→wK S0 S d o ds Ds→wK S0 S d o rs Rs→At S0 S d o ρ os→
  (zk B xs os→ ∀S' ds' rs' y4 y6 y7,Sub S0 S'→S' d=aa (.bx (ds'.map W.ref))→S' o=aa (.bx (rs'.map W.ref))→wK S0 S' d o ds' (Ds++wR B xs os)→wK S0 S' d o rs' (Rs++AF B xs os)→D.nx [aa (.ref a),y1,y2,aa (.ref d),y4,aa (.ref o),y6,y7] S')→(¬zk B xs os→ ∀σ S',Sub S0 S'→E "TooGreat" σ S')→
  nU (wGN 6) (Fl r nG) E D G (xs.map gS) [aa (.ref a),y1,y2,aa (.ref d),aa (.ref ρ),aa (.ref o),y6,y7] S
 | [],os,t,u1,u2,u3,u4,u5=>by
  rename_i S ρ ds rs Ds Rs y1 y2 y6 y7;intro _ _ _ sb hd ho AD AR Aρ h _;refine h trivial S ds (rs++[ρ]) _ _ _ sb hd ?_ ?_ ?_
  ·rw[ho,bU];rfl
  ·rw[wR,bC];exact AD
  ·rw[AF];exact Fg AR Aρ
 |x::xs,os,t,⟨x1,x2,x3⟩,hRo,hs,gx,go=>by
  rename_i S ρ ds rs Ds Rs y1 y2 y6 y7;intro n1 n2 n3 sb hd ho AD AR Aρ h hE;rw[aS]at n2 n3;rw[aG];refine rY λN hN=>?_;rw[uP,Fl];rw[OB];ext;obtain⟨r',er⟩:∃r',r=r'+1:=⟨r - 1,`l⟩
  have er2:yE r=yE (r'+1):=by rw[er]
  rw[er2];refine ziz K (sb _ _ ha) Aρ.e x1 x2 hRo hs go n1 `l (λlk S1 q s1 hq0 hq=>?_) λnk S1 s1=>hE (λgk=>nk gk.1) _ _ (sb.trans s1);refine Xs (s1 _ _ (sb _ _ ha)) (s1 _ _ Aρ.e) hq (Km K os x1 x2 hRo hs go) n1 `l λρ' hρ=>?_;have s2:Sub S (bz S1 ρ' (.bx ((qk B x os).map gS))):=s1.trans (.bz .refl hρ);have qd:q≠d:=by rintro rfl;rw[hd]at hq0;cases hq0
  have qo:q≠o:=by rintro rfl;rw[ho]at hq0;cases hq0
  have ρd:ρ'≠d:=by rintro rfl;rw[s1 _ _ hd]at hρ;cases hρ
  have ρo:ρ'≠o:=by rintro rfl;rw[s1 _ _ ho]at hρ;cases hρ
  have Aq:At S0 (bz S1 ρ' (.bx ((qk B x os).map gS))) d o q (rE B x os):=⟨qd,qo,keep hq hρ,Cj sb hq0⟩;have Aρ':At S0 (bz S1 ρ' (.bx ((qk B x os).map gS))) d o ρ' (qk B x os):=⟨ρd,ρo,nJ,Cj (sb.trans s1) hρ⟩;have AD':=xM (λ_ _ z=>At.sub z s2) AD;have AR':=xM (λ_ _ z=>At.sub z s2) AR;have A0:=Aρ.sub s2;have hd2:=s2 _ _ hd;have ho2:=s2 _ _ ho;have sb2:=sb.trans s2;generalize bz S1 ρ' (.bx ((qk B x os).map gS))=S2 at Aq Aρ' AD' AR' A0 hd2 ho2 sb2⊢;have ld:(ds.map W.ref).length≤1000:=by rw[aD];lia
  have lo:(rs.map W.ref++[W.ref ρ]).length≤1000:=by rw[aW,aD,cj];lia
  refine Re hd2 ld ?_;refine UL (vs:=rs.map W.ref++[.ref ρ]) (by rw[oQ hdo.symm];exact ho2) lo ?_;have sb3:Sub S0 (bz (bz S2 d (.bx (ds.map W.ref++[.ref q]))) o (.bx (rs.map W.ref++[.ref ρ]++[.ref ρ']))):= .bz (.bz sb2 hd0) ho0;refine hN _ _ _ .refl (hG _ sb3) (IV K ha hd0 ho0 hdo hG hr xs (ds:=ds++[q]) (rs:=rs++[ρ]) (Ds:=Ds++[rE B x os]) (Rs:=Rs++[os]) x3 (yX K os x1 x2 hRo).1 (gx x aM) (λu hu=>gx u (aI _ hu)) (IU K os x1 x2 hRo lk) (by rw[IJ];exact n1) (by rw[aW,cj];lia) (by rw[aW,cj];lia) sb3 ?_ ?_ ?_ ?_ Aρ'.pd.po (λgk S' ds' rs' z4 z6 z7 s' h1 h2 h3 h4=>?_) λng=>hE λgk=>ng gk.2)
  ·rw[oQ hdo,nJ,bU];rfl
  ·rw[nJ,bU];rfl
  ·exact Fg (xM (λ_ _ z=>At.po (At.pd z)) AD') Aq.pd.po
  ·exact Fg (xM (λ_ _ z=>At.po (At.pd z)) AR') A0.pd.po
  ·refine h ⟨lk,gk⟩ S' ds' rs' z4 z6 z7 s' h1 h2 ?_ ?_
   ·rw[wR];rw[b7]at h3;exact h3
   ·rw[AF];rw[b7]at h4;exact h4
structure rh (B:List Tn) (xs os:List Tr):Prop where
  gx:∀x∈xs,(bO B x).aF=true
  go:∀x∈os,(bO B x).aF=true
  ok:zk B xs os
def Ry{X:ah→gY→Prop}(K:Bk3 ws B) (ha:S a=aa (.bx (B.map nN))) (h1:S l1=aa (.bx (xs.map gS))) (h2:S l2=aa (.bx (os.map gS))) (hx:o9 ws B t xs) (ho:o9 ws B t' os) (hs:t.aF=true) (nx:xs.length≤700) (no:os.length≤700) (hr:70≤r)
  (hA:t≠t'→X "Apart" S) (hX:t=t'→ ¬rh B xs os→ ∀S',Sub S S'→X "TooGreat" S')
  (h:t=t'→rh B xs os→ ∀S' d o,Grd S S' B xs os d o→Q (.bH [.ref d, .ref o]) S'):D' (r+1) [.ref a, .bH [gS t, .ref l1], .bH [gS t', .ref l2]] S Q X:=by
 obtain⟨b1,b2⟩:=w9 hs;rw[D',wz];refine⟨rfl,?_⟩;rw[O0];ext;rw[xF 60 _ _ `l];cases e:t.same t' with
 |false=>
  try ext
  try rw[ya]
  try ext
  refine⟨nL `d,hA λk=>?_⟩;rw[k,AC]at e;cases e
 |true=>
  have et:t=t':=(EI _ _).mp e;subst et
  try ext
  refine Sy b1 b2 `l ?_;rw[K8];ext;obtain⟨r',er⟩:∃r',r=r'+2:=⟨r - 2,`l⟩
  have er2:v7 r=v7 (r'+2):=by rw[er]
  rw[er2];refine GY K ha h1 hx hs `l (λgx=>?_) λ⟨u,hu,eu⟩=>hX rfl (λg=>by have:=g.gx u hu;rw[eu]at this;cases this) _ .refl
  rw[IK];ext;rw[er2];refine GY K ha h2 ho hs `l (λgo=>?_) λ⟨u,hu,eu⟩=>hX rfl (λg=>by have:=g.go u hu;rw[eu]at this;cases this) _ .refl
  refine YA λd hd=>YU (keep h2 hd) λρ hρ=>Tj λo h0=>?_;have ρd:ρ≠d:=by rintro rfl;rw[nJ]at hρ;cases hρ
  have od:o≠d:=by rintro rfl;rw[oQ ρd.symm,nJ]at h0;cases h0
  have oρ:o≠ρ:=by rintro rfl;rw[nJ]at h0;cases h0
  have oS:S o=none:=by rw[oQ oρ,oQ od]at h0;exact h0
  have sb:Sub S (bz (bz (bz S d (.bx [])) ρ (.bx (os.map gS))) o (.bx [.ref ρ])):=(Sub.bz .refl hd).trans ((Sub.bz .refl hρ).trans (.bz .refl h0));rw[HQ];ext;show oN _ l1 _;rw[nT (sb _ _ h1)];refine IV K ha hd oS od.symm (λS' s'=>s' _ _ h1) `l xs (ds:=[]) (rs:=[]) (Ds:=[]) (Rs:=[]) hx ho hs gx go `l (by simp;lia) (by simp;lia) sb ?_ nJ .nil .nil ⟨ρd,oρ.symm,?_,by rw[oQ ρd]at hρ;exact hρ⟩ (λgk S' ds rs y4 y6 y7 s' g1 g2 g3 g4=>?_) λng σ S' s'=>hX rfl (λg=>ng g.ok) _ s'
  ·rw[oQ od.symm,oQ ρd.symm,nJ];rfl
  ·rw[oQ oρ.symm,nJ]
  ·rw[Ja];ext;exact⟨`d,_, .refl,h rfl ⟨gx,go,gk⟩ S' d o ⟨s',hd,oS,od.symm,ds,rs,g1,g2,g3,g4⟩⟩
end
section
variable {ws:List ah}{B:List Tn}{g:Tr}
def Sh.ne (K:Bk3 ws B) (h:Sh ws B g):g.ne B=0:=by
 have:=(K.ak h.wy).2.2.1;rwa [h.q]at this
end
theorem Jx:∀(os:List Tr) {x:Tr},vn B x os→(bO B x).aF=true→(bO B (tW B x os)).aF=true
 | [],x,_,h=>h
 |o::os,x,⟨l1,l2⟩,h=>Jx os l2 l1
theorem Fz (K:Bk3 ws B):∀(xs os:List Tr) {t:Tr},o9 ws B t xs→o9 ws B t os→zk B xs os→(∀x∈xs,(bO B x).aF=true)→ ∀u∈pQ B xs os,(bO B u).aF=true
 | [],os,t,_,_,_,_,u,hu=>by cases hu
 |x::xs,os,t,⟨x1,x2,x3⟩,ho,⟨g1,g2⟩,gx,u,hu=>by
  rw[pQ]at hu;obtain e |e:=az.mp hu
  ·rw[e];exact Jx os g1 (gx x aM)
  ·exact Fz K xs _ x3 (yX K os x1 x2 ho).1 g2 (λv hv=>gx v (aI _ hv)) u e
theorem H_:∀(us:List Tr) {t:Tr},o9 ws B t us→t.aF=true→(∀x∈us,(bO B x).aF=true)→ ∀u∈us,Wy ws B u∧(ak B u).aF=true
 | [],t,_,_,_,u,hu=>by cases hu
 |x::us,t,⟨x1,x2,x3⟩,hs,g,u,hu=>by
  obtain e |e:=az.mp hu
  ·rw[e];exact⟨x1,by rw[x2];exact hs⟩
  ·exact H_ us x3 (g x aM) (λv hv=>g v (aI _ hv)) u e
theorem GJ:∀(us:List Tr) {t:Tr},t.aF=true→(∀x∈us,(bO B x).aF=true)→(oO B t us).aF=true
 | [],t,hs,_=>hs
 |x::us,t,hs,g=>GJ us (g x aM) λv hv=>g v (aI _ hv)
section
variable {ws:List ah}{B:List Tn}{x t t':Tr}{a l l1 l2:aj}{r:Nat}{xs os:List Tr}{S:gY}{Q:WK}{X:ah→gY→Prop}
def XC (K:Bk3 ws B) (ha:S a=aa (.bx (B.map nN))) (hl:S l=aa (.bx (xs.map gS))) (tx:∀x∈xs,Wy ws B x∧(ak B x).aF=true) (gx:∀x∈xs,(bO B x).aF=true) (hr:64≤r) (h:Q (gS (oO B t xs)) S):Dg (r+1) [.ref a, .bH [gS t, .ref l]] S Q X:=by
 rw[Dg,wz];refine⟨rfl,?_⟩;rw[IM];ext;rw[show ow [gS t,W.ref l] 1=aa (.ref l) from rfl];ext;rw[nT hl];obtain rfl |⟨ys,u,rfl⟩:=jY xs
 ·exact⟨_, .refl,h⟩
 ·rw[jL]at *;have hne:((ys++[u]).map gS).isEmpty=false:=by simp
  obtain⟨h1,h2⟩:=tx u `s;have h3:=gx u `s;rw[Bh]at h
  try rw[hne]
  rw[if_neg `d,Kt];ext;rw[show ow [gS t,W.ref l] 1=aa (.ref l) from rfl];ext;rw[bU]at hl;rw[nT hl,show [u].map gS=[gS u] from rfl,Cq];right
  exact K.ok_goalX h1 h2 ha `l (λ_=>⟨_, .refl,h⟩) λz=>by rw[h3]at z;cases z
def ziA (K:Bk3 ws B) (ha:S a=aa (.bx (B.map nN))) (h1:S l1=aa (.bx (xs.map gS))) (h2:S l2=aa (.bx (os.map gS))) (hx:o9 ws B t xs) (ho:o9 ws B t' os) (hs:t.aF=true) (nx:xs.length≤700) (no:os.length≤700) (hr:75≤r)
  (hA:t≠t'→X "Apart" S) (hX:t=t'→ ¬rh B xs os→ ∀S',Sub S S'→X "TooGreat" S')
  (h:t=t'→rh B xs os→ ∀S' q,Sub S S'→S q=none→S' q=aa (.bx ((pQ B xs os).map gS))→Q (.bH [gS (oO B t os), .ref q]) S'):yP (r+1) [.ref a, .bH [gS t, .ref l1], .bH [gS t', .ref l2]] S Q X:=by
 right
 rw[yP,wz];refine⟨rfl,?_⟩;rw[KF];ext;refine Ry K ha h1 h2 hx ho hs nx no `l hA hX λet gg S1 d o g=>?_;subst et;obtain⟨ds,rs,g1,g2,g3,g4⟩:=g.ex;refine WN g1 nx g3 λq hq=>?_;have sb:Sub S (bz S1 q (.bx ((pQ B xs os).map gS))):=g.sub.trans (.bz .refl hq);have q0:S q=none:=Cj g.sub hq;have fq:bz S1 q (.bx ((pQ B xs os).map gS)) q=aa (.bx ((pQ B xs os).map gS)):=nJ;generalize bz S1 q (.bx ((pQ B xs os).map gS))=S2 at sb fq⊢;rw[Mu];ext;refine XC K (sb _ _ ha) (sb _ _ h2) (H_ os ho hs gg.go) gg.go `l ?_;exact⟨`d,_, .refl,h rfl gg _ q sb q0 fq⟩
end
def oR.shg (c:oR w0 w1 w2 w3 w4 w5 tt B) {x:Tr}(hx:Wy [w0,w1,w2,w3,w4,w5] B x):Sh [w0,w1,w2,w3,w4,w5] B (bO B x):=⟨(c.K.bO hx).1,(c.K.bO hx).2.1⟩
section
variable {w0 w1 w2 w3 w4 w5:ah}{tt:List ah}{B:List Tn}
theorem Dr.roads (d:Dr w0 w1 w2 w3 w4 w5 tt B):∀(xs:List Tr) {t:Tr},o9 [w0,w1,w2,w3,w4,w5] B t xs→Cl w0 w1 w2 w3 w4 w5 B t→(∀x∈xs,Wy [w0,w1,w2,w3,w4,w5] B x∧Cl w0 w1 w2 w3 w4 w5 B (ak B x)∧Cl w0 w1 w2 w3 w4 w5 B (bO B x))∧Cl w0 w1 w2 w3 w4 w5 B (oO B t xs)
 | [],t,_,h=>⟨λx hx=>(by cases hx),h⟩
 |x::xs,t,⟨x1,x2,x3⟩,h=>by
  have h1:Cl w0 w1 w2 w3 w4 w5 B (ak B x):=by rw[x2];exact h
  have h2:=d.cl x1 h1;obtain⟨k1,k2⟩:=Dr.roads d xs x3 h2;refine⟨λy hy=>?_,k2⟩;obtain rfl |hy:=az.mp hy
  ·exact⟨x1,h1,h2⟩
  ·exact k1 y hy
theorem Dr.lok (d:Dr w0 w1 w2 w3 w4 w5 tt B):∀(os:List Tr) {x t:Tr},Wy [w0,w1,w2,w3,w4,w5] B x→ak B x=t→o9 [w0,w1,w2,w3,w4,w5] B t os→Cl w0 w1 w2 w3 w4 w5 B t→vn B x os
 | [],x,t,_,_,_,_=>trivial
 |o::os,x,t,hx,ex,⟨o1,o2,o3⟩,h=>by
  have m:=d.c.K.moved hx o1 (by rw[ex,o2]);have h1:Cl w0 w1 w2 w3 w4 w5 B (bO B o):=d.cl o1 (by rw[o2];exact h);exact⟨(d.cl m.wy (by rw[m.sr];exact h1)).sm,Dr.lok d os m.wy m.sr o3 h1⟩
theorem Dr.gok (d:Dr w0 w1 w2 w3 w4 w5 tt B):∀(xs:List Tr) {os:List Tr}{t:Tr},o9 [w0,w1,w2,w3,w4,w5] B t xs→o9 [w0,w1,w2,w3,w4,w5] B t os→Cl w0 w1 w2 w3 w4 w5 B t→zk B xs os
 | [],os,t,_,_,_=>trivial
 |x::xs,os,t,⟨x1,x2,x3⟩,ho,h=>by
  obtain⟨h1,_⟩:=yX d.c.K os x1 x2 ho;exact⟨d.lok os x1 x2 ho h,Dr.gok d xs x3 h1 (d.cl x1 (by rw[x2];exact h))⟩
def Dr.gg (d:Dr w0 w1 w2 w3 w4 w5 tt B) {xs os:List Tr}{t:Tr}(hx:o9 [w0,w1,w2,w3,w4,w5] B t xs) (ho:o9 [w0,w1,w2,w3,w4,w5] B t os) (h:Cl w0 w1 w2 w3 w4 w5 B t):rh B xs os:=
 ⟨λx k=>((d.roads xs hx h).1 x k).2.2.sm,λx k=>((d.roads os ho h).1 x k).2.2.sm,d.gok xs hx ho h⟩
end
structure InD (w0 w1 w2 w3 w4 w5:ah) (B:List Tn) (m:Nat) (X:Tr) (xs:List Tr):Prop where
  cl:Cl w0 w1 w2 w3 w4 w5 B X
  ro:o9 [w0,w1,w2,w3,w4,w5] B X xs
  le:xs.length≤700
  nr:nR B xs≤7
  ne:∀x∈xs,x.ne B≤5
  e:X.ms (hk w0 w1) mT=m
structure WkD (w0 w1 w2 w3 w4 w5:ah) (B:List Tn) (X:Tr) (qs:List (List Int)) (ss Ys:List Tr):Prop where
  P:CB [w0,w1,w2,w3,w4,w5] B X qs ss Ys
  n:qs.length≤7
  cl:Cl w0 w1 w2 w3 w4 w5 B (Li X Ys)
structure Jf (ws:List ah) (B:List Tn) (X:Tr) (m:Nat) (I:List Tr→Prop):Prop where
  nil:I []
  ro:∀{xs},I xs→o9 ws B X xs
  sh:∀{xs},I xs→Sh ws B (oO B X xs)∧(oO B X xs).aF=true
  go:∀{xs u},I xs→xs.length<m→Wy ws B u→ak B u=oO B X xs→u.ne B≤2→I (xs++[u])
def Ta (C:oR w0 w1 w2 w3 w4 w5 tt B) (ha:S a=aa (.bx (B.map nN))) (h:Sh [w0,w1,w2,w3,w4,w5] B t) (hs:t.aF=true) (hr:81≤r) (k:∀S' b,Sub S S'→S' b=aa (.bx ((t.op B []).map qt))→T E D [y0,aa (.ref a),y2,y3,y4,y5,aa (gS t),y7,aa (.ref b),y9,y10] S') :
  EV r T E D [y0,aa (.ref a),y2,y3,y4,y5,aa (gS t),y7,y8,y9,y10] S:=by
 rw[EV];ext;right
 exact C.ok_open ha h hs `l k
def ZN (hk:0≤k) (hj:0≤j) (hr:1≤r) (h:∀c,T E D [aa (.b8 ns),y1,y2,aa (.int k),y4,y5,y6,aa (.int j),y8,aa (.int c),y10] S) :
  E3 r T E D [aa (.b8 ns),y1,y2,aa (.int k),y4,y5,y6,aa (.int j),y8,y9,y10] S:=by
 rw[E3];ext;right
 refine v9 `l λc=>?_
 try ext
 refine⟨⟨`d,`d,`d⟩,`d,?_⟩
 exact h _
def SV{us:List (List Int×ah)}(hm:S l8=aa (.bx (us.map qt))) (hp:0<us.length) (k:∀p1 p2 b,p1∈us.map (λx=>x.1)→p2∈us.map (λx=>x.1)→S b=none→T E D [y0,y1,y2,y3,y4,y5,y6,y7,aa (.ref l8),aa (.int c),aa (.ref b)] (bz S b (.bx [nW p1,nW p2]))) :
  HE r T E D [y0,y1,y2,y3,y4,y5,y6,y7,aa (.ref l8),aa (.int c),y10] S:=by
 rw[HE];ext;rw[nT hm];have hne:us.map qt≠ []:=by
  intro z;rw[List.map_eq_nil_iff]at z;rw[z]at hp;exact absurd hp `d
 obtain⟨j1,x1,e1,f1⟩:=ED (c / 5) hne;obtain⟨j2,x2,e2,f2⟩:=ED (c / 320) hne;obtain⟨p1,m1,rfl⟩:=bp.mp (bX e1);obtain⟨p2,m2,rfl⟩:=bp.mp (bX e2);have hl:(0:Int)<((us.map qt).length:Int):=by rw[aD];lia
 refine⟨⟨`d,`d⟩,hl,?_⟩
 rw[nT hm,f1];simp only[qt];ext;refine⟨⟨`d,`d⟩,?_⟩
 rw[nT hm];refine⟨hl,?_⟩;rw[nT hm,f2];simp only[qt];ext;exact⟨`d,λb hb=>k p1.1 p2.1 b (gj m1) (gj m2) hb⟩
def U5 (C:oR w0 w1 w2 w3 w4 w5 tt B) (ha:S a=aa (.bx (B.map nN))) (hb:S b=aa (.bx [nW p1,nW p2])) (hv:S l5=aa (.bx vs)) (hn:vs.length≤900) (h:Sh [w0,w1,w2,w3,w4,w5] B t) (hs:t.aF=true) (h1:p1∈wf B t) (h2:p2∈wf B t) (hr:120≤r)
  (k:∀S' u,Sub S S'→S' l5=aa (.bx vs)→Wy [w0,w1,w2,w3,w4,w5] B u→ak B u=t→u.ne B≤2→T E D [y0,aa (.ref a),y2,y3,y4,aa (.ref l5),aa (gS t),y7,y8,aa (.int c),aa (.ref b)] (bz S' l5 (.bx (vs++[gS u])))) :
  Hg r T E D [y0,aa (.ref a),y2,y3,y4,aa (.ref l5),aa (gS t),y7,y8,aa (.int c),aa (.ref b)] S:=by
 obtain⟨b1,b2⟩:=w9 hs;have c1:pS [nW p1,nW p2] none (aa 1)=[p1].map nW:=rfl;have c2:pS [nW p1,nW p2] none (aa 2)=[p1,p2].map nW:=rfl;rw[Hg];ext;rw[nT hv];refine⟨trivial,⟨`d,`d⟩,`d,?_⟩
 rw[nT hb];intro m hm;have go:∀wn:List (List Int),wn.length≤2→(∀q∈wn,q∈wf B t)→zY r [.ref a,gS t, .ref m] (bz S m (.bx (wn.map nW))) (λw S1=>oN S1 l5 λxs=>xs.length<sizeLine∧T E D [y0,aa (.ref a),y2,y3,y4,aa (.ref l5),aa (gS t),y7,y8,aa (.int c),aa (.ref b)] (bz S1 l5 (.bx (xs++[w])))) λcl S2=>E cl [y0,aa (.ref a),y2,y3,y4,aa (.ref l5),aa (gS t),y7,y8,aa (.int c),aa (.ref b)] S2:=by
  intro wn hl hi;obtain⟨u,wi,e,y,hne⟩:=Gx C.K t.depth t [] (aE _) h (h.wn hi);right
  have s1:Sub S (bz S m (Ob.bx (wn.map nW))):= .bz .refl hm;refine RF (ks:=wf B t) C.L C.P wi `l `l (s1 _ _ ha) nJ h.hdT `l `l `l rfl hi ?_;rw[nT (s1 _ _ hv)];have:rS wn []≤wn.length:=List.countP_le_length;exact⟨rA `l,k _ u s1 (s1 _ _ hv) y e `l⟩
 rcases(show c / 5 % 2=0∨c / 5 % 2=1 by lia) with z |z
 ·rw[z];exact go [p1] `s (by simpa using h1)
 ·rw[z];exact go [p1,p2] `s (by simp [h1,h2])
def XF (C:oR w0 w1 w2 w3 w4 w5 tt B) (ha:S a=aa (.bx (B.map nN))) (hv:S l5=aa (.bx (vs++[gS u]))) (hu:Wy [w0,w1,w2,w3,w4,w5] B u) (hs:(ak B u).aF=true) (hr:62≤r) (k:D.nx [y0,aa (.ref a),y2,y3,y4,aa (.ref l5),aa (gS (bO B u)),y7,y8,y9,y10] S) :
  Gw r E D [y0,aa (.ref a),y2,y3,y4,aa (.ref l5),y6,y7,y8,y9,y10] S:=by
 obtain⟨f1,f2,f3,f4⟩:=C.K.fitw hu hs;rw[Gw];ext;rw[nT hv,Cq];right
 refine B1 C.K.b.nd ha (.inr rfl) C.K.b.s2 40 f1 `l f3 `l ?_;rw[Gh];exact k
def RT (C:oR w0 w1 w2 w3 w4 w5 tt B) (h:Sh [w0,w1,w2,w3,w4,w5] B t):Wy [w0,w1,w2,w3,w4,w5] B t∧ak B t=t∧bO B t=t∧t.ne B≤2:=by
 have e:=(C.K.ak h.wy).2.2.2;rw[h.q]at e;exact⟨h.wy,h.q,e,by rw[h.ne C.K];exact bc _⟩
def XE{I:List Tr→Prop}{m:Nat}{ns:List Int}{k:Int}{Q:WK}{E:ah→gY→Prop}(C:oR w0 w1 w2 w3 w4 w5 tt B) (R:Jf [w0,w1,w2,w3,w4,w5] B X m I) (ha:S a=aa (.bx (B.map nN))) (hm:m≤3) (hk:0≤k) (hr:122≤r)
  (h:∀S' l xs,Sub S S'→I xs→xs.length≤m→S' l=aa (.bx (xs.map gS))→Q (.bH [gS X, .ref l]) S'):yL (r+1) [.b8 ns, .ref a,gS X, .int k, .int m] S Q E:=by
 rw[yL];unfold Om Of M6;ext;refine⟨bc _,λl5 h5=>?_⟩;have na:a≠l5:=yD ha h5;refine⟨⟨`l,`l⟩,?_⟩
 rw[cy];refine FT (λi σ S'=>∃xs y7 y8 y9 y10,xs.length≤i∧I xs∧Sub S S'∧S' l5=aa (.bx (xs.map gS))∧σ=[aa (.b8 ns),aa (.ref a),aa (gS X),aa (.int k),aa (.int m),aa (.ref l5),aa (gS (oO B X xs)),y7,y8,y9,y10]) m ?_ ?_ ⟨[],none,none,none,none,aE _,R.nil, .bz .refl h5,nJ,rfl⟩
 ·rintro j hj σ S1 N ⟨xs,y7,y8,y9,y10,hl,hI,sb,f5,rfl⟩ hN;obtain⟨sh,sm⟩:=R.sh hI;simp only[PY];rw[uP]
  try ext
  refine Ta C (sb _ _ ha) sh sm `l λS2 b s2 f8=>ZN hk `l `l λc=>?_;replace f5:=s2 _ _ f5;replace sb:=sb.trans s2;have skip:∀y10,N [aa (.b8 ns),aa (.ref a),aa (gS X),aa (.int k),aa (.int m),aa (.ref l5),aa (gS (oO B X xs)),aa (.int j),aa (.ref b),aa (.int c),y10] S2:=λy10=>hN _ _ S2 .refl ⟨xs,_,_,_,_,`l,hI,sb,f5,rfl⟩
  rw[L0];ext;rw[nT f8,aD];have over:∀{S3:gY}{ys:List Tr},Sub S S3→Sub S (bz S3 l5 (.bx (ys.map gS))):=λs=> .bz s h5;have put1:∀u:Tr,xs.map gS++[gS u]=(xs++[u]).map gS:=λu=>by rw[bU];rfl
  have el:(0:Int)<5∧if(c % 5 == 0)=true then(oN S2 l5 λ_=>True)∧oN S2 l5 λvs=>vs.length<sizeLine∧N [aa (.b8 ns),aa (.ref a),aa (gS X),aa (.int k),aa (.int m),aa (.ref l5),aa (gS (oO B X xs)),aa (.int j),aa (.ref b),aa (.int c),y10] (bz S2 l5 (.bx (vs++[gS (oO B X xs)]))) else N [aa (.b8 ns),aa (.ref a),aa (gS X),aa (.int k),aa (.int m),aa (.ref l5),aa (gS (oO B X xs)),aa (.int j),aa (.ref b),aa (.int c),y10] S2:=by
   refine⟨`d,?_⟩;split
   ·rw[nT f5,nT f5,put1];obtain⟨q1,q2,q3,q4⟩:=RT C sh;refine⟨trivial,rA (by rw[aD];lia),hN _ _ _ .refl ⟨xs++[oO B X xs],aa (.int j),aa (.ref b),aa (.int c),y10,by rw[aW,cj];lia,R.go hI `l q1 q2 q4,over sb,nJ,?_⟩⟩
    rw[Bh,q3]
   ·exact skip _
  by_cases hp:(0:Int)<(((oO B X xs).op B []).length:Int)
  ·rw[if_pos hp];refine⟨`d,?_⟩;by_cases hq:(0:Int)<c % 5
   ·rw[if_pos hq];refine SV f8 `l λp1 p2 b' m1 m2 hb'=>?_;have s3:Sub S2 (bz S2 b' (Ob.bx [nW p1,nW p2])):= .bz .refl hb';refine U5 C (s3 _ _ (sb _ _ ha)) nJ (s3 _ _ f5) (by rw[aD];lia) sh sm m1 m2 `l λS4 u s4 f4 hu eu nu=>?_;rw[put1];have sm':(ak B u).aF=true:=by rw[eu];exact sm
    have nb:a≠l5:=na;refine XF (u:=u) C (by rw[oQ nb];exact s4 _ _ (s3 _ _ (sb _ _ ha))) (by rw[nJ,←put1]) hu sm' `l ?_
    refine hN _ _ _ .refl ⟨xs++[u],aa (.int j),aa (.ref b),aa (.int c),aa (.ref b'),by rw[aW,cj];lia,R.go hI `l hu eu nu,over (sb.trans (s3.trans s4)),nJ,?_⟩
    rw[Bh]
   ·rw[if_neg hq];exact el
  ·rw[if_neg hp];exact el
 ·rintro σ S1 ⟨xs,y7,y8,y9,y10,hl,hI,sb,f5,rfl⟩;rw[Jq];ext;exact⟨`d,_, .refl,h S1 l5 xs sb hI hl f5⟩
structure Gr (w0 w1 w2 w3 w4 w5:ah) (tt:List ah) (B:List Tn):Prop where
  c:oR w0 w1 w2 w3 w4 w5 tt B
  ri:∀t∈B,t.2.2∈p5 w0 w1 w2 w3 w4 w5 t.2.1.nb true
def TQ (hm:m≤3):∀t∈p5 w0 w1 w2 w3 w4 w5 m true,∀i:Nat,i<m→(i:Int)∈t.nm:=by
 intro t ht i hi;obtain _ |_ |_ |_ |m:=m
 ·lia
 ·obtain rfl:i=0:=by lia
  simp only[p5,bY,aQ,if_true,az,aZ,or_false]at ht;rcases ht with rfl |rfl |rfl |rfl |rfl |rfl |rfl<;>simp [Tr.nm,p7]
 ·simp only[p5,bY,aQ,if_true,az,aZ,or_false]at ht;obtain rfl |rfl:i=0∨i=1:=by lia
  all_goals rcases ht with rfl |rfl |rfl |rfl |rfl |rfl<;>simp [Tr.nm,p7]
 ·simp only[p5,bY,aQ,if_true,az,aZ,or_false]at ht;obtain rfl |rfl |rfl:i=0∨i=1∨i=2:=by lia
  all_goals rcases ht with rfl |rfl |rfl |rfl |rfl<;>simp [Tr.nm,p7]
 ·lia
def Gr.all (g:Gr w0 w1 w2 w3 w4 w5 tt B) (ht:t∈B) (hi:i<t.2.1.nb):∃b,t.2.2.at b=aa (.bl (i:Int)):=HR _ (TQ (g.c.nb3 ht) _ (g.ri t ht) i hi)
theorem Fn:∀(ts:List Tr) (i:Nat),(∀x∈ts,(bO B x).ms [] mP≤(ak B x).ms H mP)→n4 [] mP (λ_=>1) i (ts.map (bO B))≤n4 H mP (λ_=>1) i (ts.map (ak B))
 | [],i,h=>by simp [n4]
 |x::ts,i,h=>by
  have h1:=h x aM;have h2:=Fn ts (i+1) λy hy=>h y (aI _ hy);rw[aG,aG,n4,n4,dO,dO];lia
theorem GX:∀(ts:List Tr),(∀x∈ts,(bO B x).dm []≤(ak B x).dm H)→pG [] (ts.map (bO B))≤pG H (ts.map (ak B))
 | [],h=>by simp [pG]
 |x::ts,h=>by
  have h1:=h x aM;have h2:=GX ts λy hy=>h y (aI _ hy);rw[aG,aG,pG,pG];lia
theorem oR.gw (c:oR w0 w1 w2 w3 w4 w5 tt B) (hrx:∀t∈B,RX t.2.2):∀(n:Nat) {x:Tr},x.au≤n→Wy [w0,w1,w2,w3,w4,w5] B x→(bO B x).ms [] mP≤(ak B x).ms (hk w0 w1) mP∧(bO B x).dm []≤(ak B x).dm (hk w0 w1)
 |0,x,hn,hx=>by have:=uc x;lia
 |n+1,x,hn,hx=>by
  have b:=c.K.b;obtain ⟨h,ts,rfl,_,e,k⟩ |⟨t,ts,ht,rfl,e,hl,k⟩:=Wy.cases b hx
  ·rw[Tr.au]at hn;have ih:=Fn (B:=B) (H:=hk w0 w1) ts 0 λy hy=>(oR.gw c hrx n (by have:=qg hy;lia) (k y hy)).1;have id:=GX (B:=B) (H:=hk w0 w1) ts λy hy=>(oR.gw c hrx n (by have:=qg hy;lia) (k y hy)).2;have e0:n_ [] h=none:=rfl;have c0:mP.c0=1:=rfl;have c1:mP.c1=3:=rfl;rw[bO,ak,tO e,tO e];show(Tr.nd h (ts.map (bO B))).ms [] mP≤(Tr.nd h (ts.map (ak B))).ms (hk w0 w1) mP∧(Tr.nd h (ts.map (bO B))).dm []≤(Tr.nd h (ts.map (ak B))).dm (hk w0 w1);rw[u6 e0,wI e0];cases eh:n_ (hk w0 w1) h with
   |none=>rw[u6 eh,wI eh];lia
   |some u=>
    rw[vd eh,wW eh];have e2:n4 (hk w0 w1) mP (mP.k u) 0 (ts.map (ak B))=n4 (hk w0 w1) mP (λ_=>2) 0 (ts.map (ak B)):=rfl;rw[e2,vp];lia
  ·rw[Tr.au]at hn;have ih:=Fn (B:=B) (H:=hk w0 w1) ts 0 λy hy=>(oR.gw c hrx n (by have:=qg hy;lia) (k y hy)).1;have id:=GX (B:=B) (H:=hk w0 w1) ts λy hy=>(oR.gw c hrx n (by have:=qg hy;lia) (k y hy)).2;have rx:=hrx t ht;have hls:(ts.map (ak B)).length=t.2.1.nb:=by rw[aD,hl]
   have hlg:(ts.map (bO B)).length=t.2.1.nb:=by rw[aD,hl]
   obtain⟨h,ls,u,eL,eh,hb,_,_,_,nm⟩:=(c.lh ht).ex;have fl:=(b.lf t ht).a_;have nb:t.2.2.hb λs=>n_ [] s=none:=(c.b.ri t ht).hb λ_ _=>rfl;have q1:=F7 (B:=[]) (m:=mP) (λ_ z=>z) (us:=ts.map (bO B)) t.2.2 nb (by rw[hlg];exact(b.ri t ht).a_);have q2:n4 [] mP (cn t.2.2) 0 (ts.map (bO B))≤n4 [] mP (λ_=>2) 0 (ts.map (bO B)):=DK _ 0 λj=>rx.ct _;rw[vp]at q2;have q3:=rx.sg;have c0:mP.c0=1:=rfl;have d1:=Ed (B:=[]) (λ_ z=>z) (us:=ts.map (bO B)) t.2.2 nb (by rw[hlg];exact(b.ri t ht).a_);have d3:=rx.sd;have es:ak B (.nd t.1 ts)= .nd h (oG (ts.map (ak B)) ls):=by
    rw[ak,sL e];show t.2.1.aB (ts.map (ak B))=_;rw[eL,Tr.aB]
   have eg:bO B (.nd t.1 ts)=t.2.2.aB (ts.map (bO B)):=by rw[bO,sL e]
   rw[es,eg,vd eh,wW eh];have e2:n4 (hk w0 w1) mP (mP.k u) 0 (oG (ts.map (ak B)) ls)=n4 (hk w0 w1) mP (λ_=>2) 0 (oG (ts.map (ak B)) ls):=rfl;have c1:mP.c1=3:=rfl;rw[e2,vp];have fl':nX (ts.map (ak B)).length ls:=by rw[hls];rw[eL,Tr.a_]at fl;rw[eL];exact fl
   rw[zX (B:=hk w0 w1) (m:=mP) (λ_ z=>z) ls hb fl' 0];have q4:n4 (hk w0 w1) mP (λ_=>1) 0 (ts.map (ak B))≤n4 (hk w0 w1) mP (λj=>(p7 ls).count (j:Int)) 0 (ts.map (ak B)):=by
    refine Hd _ 0 λj _ hj=>lX.mpr (nm j ?_);rw[ca,hls]at hj;exact hj
   have q5:pG (hk w0 w1) (ts.map (ak B))≤pG (hk w0 w1) (oG (ts.map (ak B)) ls):=Fh _ λv hv=>by
    obtain⟨i,hi,ei⟩:=hZ hv;exact DI ls (nm i (by rw[←hls];exact hi)) (by rw[aU hi,ei])
   refine⟨?_,`l⟩
   rw[q1];have q6:mP.c0*t.2.2.sg≤3:=by rw[c0];lia
   lia
def oR.gs (c:oR w0 w1 w2 w3 w4 w5 tt B) (hrx:∀t∈B,RX t.2.2) (hx:Wy [w0,w1,w2,w3,w4,w5] B x) (h:Cl w0 w1 w2 w3 w4 w5 B (ak B x)):(bO B x).aF=true:=by
 obtain⟨h1,h2⟩:=c.gw hrx _ (aE _) hx;obtain⟨h3,h4⟩:=GL (H:=[]) (vU (λ_ _=>trivial) _ (c.K.bO hx).1.hd);have:=h.p;have:=h.q;exact yW `l `l
def Bk3.both (K:Bk3 ws B) (hx:Wy ws B x) (hy:Wy ws B y) (e:L2.ak B x=L2.ak B y):∃j,Wy ws B j∧L2.ak B j=L2.ak B x∧L2.bO B j=L2.bO B (res B x y):=by
 obtain⟨p,hp,rfl,rfl,_⟩:=C0 K hx hy e;have m1:=(DM (c:=oq 1) (d:=oq 2) K.b K.O.mt (Do (wk 1) (wk 2)) hp).res;refine⟨p.ev B λi=>if oq 1 i=1 then 1 else oq 2 i,K.wy hp,?_,?_⟩
 ·show(p.ev B _).mk B (λt=>t.2.1)=(p.ev B _).mk B λt=>t.2.1;rw[wm K.b hp,wm K.b hp];refine vA hp λx h0 h1=>?_;have a:=uK 1 x;have b:=uK 2 x;unfold vg;rcases(show oq 1 x=0∨oq 1 x=1 by lia) with z |z<;>rcases(show oq 2 x=0∨oq 2 x=1 by lia) with y |y<;>simp [z,y]
 ·rw[m1];show(p.ev B _).mk B (λt=>t.2.2)=(p.ev B (r8 (oq 1) (oq 2))).mk B λt=>t.2.2;rw[xA K.b hp,xA K.b hp];refine vA hp λx h0 h1=>?_;have a:=uK 1 x;have b:=uK 2 x;unfold td r8;rcases(show oq 1 x=0∨oq 1 x=1 by lia) with z |z<;>rcases(show oq 2 x=0∨oq 2 x=1 by lia) with y |y<;>simp [z,y]
structure qf (g:Bool) (w0 w1 w2 w3 w4 w5:ah) (tt:List ah) (B:List Tn):Prop where
  c:oR w0 w1 w2 w3 w4 w5 tt B
  ri:∀t∈B,t.2.2∈p5 w0 w1 w2 w3 w4 w5 t.2.1.nb g
structure tL (g:Bool) (w0 w1 w2 w3 w4 w5:ah) (B:List Tn) (X:Tr) (xs:List Tr):Prop where
  ro:o9 [w0,w1,w2,w3,w4,w5] B X xs
  le:g=true→xs.length≤1
def qf.rx (h:qf g w0 w1 w2 w3 w4 w5 tt B):∀t∈B,RX t.2.2:=λt ht=>Iv (h.c.nb3 ht) g _ (h.ri t ht)
def qf.dr (h:qf false w0 w1 w2 w3 w4 w5 tt B):Dr w0 w1 w2 w3 w4 w5 tt B:=⟨h.c,h.ri⟩
def qf.ways (h:qf g w0 w1 w2 w3 w4 w5 tt B) (cl:Cl w0 w1 w2 w3 w4 w5 B X) (i:tL g w0 w1 w2 w3 w4 w5 B X xs):∀x∈xs,Wy [w0,w1,w2,w3,w4,w5] B x∧(ak B x).aF=true∧(bO B x).aF=true:=by
 cases g with
 |false=>exact λx hx=>let ⟨a,b,c⟩:=(h.dr.roads xs i.ro cl).1 x hx;⟨a,b.sm,c.sm⟩
 |true=>
  have l:=i.le rfl
  match xs,i.ro,l with
  | [],_,_=>exact λ_ hx=>nomatch hx
  | [u],⟨r1,r2,_⟩,_=>
   intro x hx;rw[bw]at hx;subst hx;have cl':Cl w0 w1 w2 w3 w4 w5 B (ak B x):=by rw[r2];exact cl
   exact⟨r1,cl'.sm,h.c.gs h.rx r1 cl'⟩
def qf.gg{w0 w1 w2 w3 w4 w5:ah}{tt:List ah}{B:List Tn}{g:Bool}{X:Tr}{xs os:List Tr}(h:qf g w0 w1 w2 w3 w4 w5 tt B) (cl:Cl w0 w1 w2 w3 w4 w5 B X) (hx:tL g w0 w1 w2 w3 w4 w5 B X xs) (ho:tL g w0 w1 w2 w3 w4 w5 B X os):rh B xs os:=by
 cases g with
 |false=>exact h.dr.gg hx.ro ho.ro cl
 |true=>
  refine⟨λx m=>(h.ways cl hx x m).2.2,λx m=>(h.ways cl ho x m).2.2,?_⟩;have l:=hx.le rfl;have l':=ho.le rfl
  match xs,hx.ro,l with
  | [],_,_=>trivial
  | [u],⟨r1,r2,_⟩,_=>
   match os,ho.ro,l' with
   | [],_,_=>exact⟨trivial,trivial⟩
   | [v],⟨s1,s2,_⟩,_=>
    obtain⟨j,j1,j2,j3⟩:=h.c.K.both r1 s1 (r2.trans s2.symm);refine⟨⟨?_,trivial⟩,trivial⟩;rw[←j3];exact h.c.gs h.rx j1 (by rw[j2,r2];exact cl)
def qf.shE (h:qf g w0 w1 w2 w3 w4 w5 tt B) (cl:Cl w0 w1 w2 w3 w4 w5 B X) (i:tL g w0 w1 w2 w3 w4 w5 B X xs):Sh [w0,w1,w2,w3,w4,w5] B (oO B X xs)∧(oO B X xs).aF=true:=by
 refine⟨?_,GJ xs cl.sm λx hx=>(h.ways cl i x hx).2.2⟩;obtain rfl |⟨ys,u,rfl⟩:=jY xs
 ·exact cl.sh
 ·rw[jL]at i⊢;rw[Bh];exact h.c.shg (h.ways cl i u `s).1
def qf.rdI (h:qf g w0 w1 w2 w3 w4 w5 tt B) (cl:Cl w0 w1 w2 w3 w4 w5 B X):Jf [w0,w1,w2,w3,w4,w5] B X (if g then 1 else 3) (tL g w0 w1 w2 w3 w4 w5 B X):=by
 refine⟨⟨trivial,λ_=>bc _⟩,λi=>i.ro,λi=>h.shE cl i,λ{xs u} i l y e _=>⟨o9.app xs i.ro ⟨y,e,trivial⟩,λz=>?_⟩⟩;rw[if_pos z]at l;rw[aW,cj];lia
mutual
noncomputable def Tr.txt:Tr→ah
 | .bl n=>aq "?" ++aq (cG n)
 | .nd s ts=>if ts.isEmpty then s else s++txts (aq "(") ts++aq ")"
noncomputable def txts (m:ah):List Tr→ah
 | []=>ah.empty
 |t::ts=>m++t.txt++txts (aq ",") ts
end
inductive pN:Tr→Prop
 |bl {n:Int}:0≤n→n<10 ^ 60→pN (.bl n)
 |nd {s:ah}{ts:List Tr}:s.length≤8→(∀t∈ts,pN t)→pN (.nd s ts)
def De{n:Int}:(Tr.bl n).txt=aq "?" ++aq (cG n):=by unfold Tr.txt;rfl
def yS{s:ah}:(Tr.nd s []).txt=s:=by unfold Tr.txt;rfl
def v_{m:ah}:txts m []=ah.empty:=by unfold txts;rfl
def tP{m:ah}{t:Tr}{ts:List Tr}:txts m (t::ts)=m++t.txt++txts (aq ",") ts:=by conv=>lhs;unfold txts
def zc{s:ah}{ts:List Tr}(h:ts≠ []):(Tr.nd s ts).txt=s++txts (aq "(") ts++aq ")" :=by
 conv=>lhs;unfold Tr.txt
 cases ts with
 |nil=>exact absurd rfl h
 |cons t ts=>rfl
theorem N3:∀(ts:List Tr) {m:ah},ts≠ []→txts m ts=m++c8 (aq ",") (ts.map Tr.txt)
 | [],m,h=>absurd rfl h
 | [t],m,_=>by
  rw[tP,v_,ah.append_empty];rfl
 |t::u::ts,m,_=>by
  rw[tP,N3 (u::ts) (List.cons_ne_nil _ _)];show _=m++(t.txt++aq "," ++c8 (aq ",") ((u::ts).map Tr.txt));simp only[mX]
def sl1:(aq "?").length=1:=by decide +kernel
theorem sl2:(aq "(").length=1:=by decide +kernel
def Hx:(aq ",").length=1:=by decide +kernel
theorem DQ:(aq ")").length=1:=by decide +kernel
def N6:(aq ": ").length=2:=by decide +kernel
def ZS:(aq " > ").length=3:=by decide +kernel
def L7{n:Int}(h0:0≤n) (h1:n<10 ^ 60):(aq (cG n)).length≤60:=by
 obtain⟨k,rfl⟩:∃k:Nat,n=k:=⟨n.toNat,(dt h0).symm⟩;exact zuF `d `l
def Zl{n:Int}(h0:0≤n) (h1:n<10 ^ 60):n.natAbs.log2<1920:=by
 by_cases e:n.natAbs=0
 ·rw[e];decide
 ·rw[Nat.log2_lt e];have:n.natAbs<10 ^ 60:=by lia
  have:(10:Nat) ^ 60<2 ^ 1920:=by decide +kernel
  lia
theorem P7:∀{ts:List Tr}{m:ah},m.length≤1→(∀t∈ts,t.txt.length+3≤64*t.au)→(txts m ts).length≤64*nI ts
 | [],m,_,_=>by rw[v_];exact bc _
 |t::ts,m,hm,h=>by
  have h1:=h t aM;have h2:=P7 (ts:=ts) (m:=aq ",") (by rw[Hx];decide) λu hu=>h u (aI _ hu);rw[tP,cH,cH,ur];lia
def xY{t:Tr}(h:pN t):t.txt.length+3≤64*t.au:=by
 induction h with
 |bl h0 h1=>
  have:=L7 h0 h1;rw[De,cH,sl1,Tr.au];lia
 | @nd s ts hs ht ih=>
  rw[Tr.au];by_cases e:ts=[]
  ·subst e;rw[yS];lia
  ·have:=P7 (ts:=ts) (m:=aq "(") (by rw[sl2];decide) ih;have:=qJ ts;rw[zc e,cH,cH,DQ];lia
theorem LX{α:Type}(f:α→ah):∀(ts:List α),t6 (ts.map λt=>W.str (f t))=aa (ts.map f)
 | []=>rfl
 |t::ts=>by
  show(t6 (ts.map λt=>W.str (f t))).map (f t:: ·)=_;rw[LX f ts];rfl
theorem MU:∀(ts:List Tr),(∀t∈ts,pN t)→((ts.map Tr.txt).map (·.length)).sum+ts.length≤64*nI ts
 | [],_=>by simp [Cy]
 |t::ts,h=>by
  have h1:=xY (h t aM);have h2:=MU ts λu hu=>h u (aI _ hu);simp only[aG,jM,aS,ur];lia
def Bn{x:ah}(h:qm x):x.length≤8:=by
 have:x.length=x.cps.toList.length:=by simp [cD]
 rw[this];exact h.2.1
def xw{x:ah}(h:qR x):x.length≤8:=by
 obtain⟨c,r,e,_,_,h1,_⟩:=h;have:x.length=x.cps.toList.length:=by simp [cD]
 rw[this,e,aS];lia
noncomputable abbrev rf (x:ah) (b:Bool) (n:Int):List (ah×W):=[("text", .str x),("in_side", .bl b),("at", .int n)]
noncomputable def rd (x:ah) (b:Bool) (n:Int):Ob:= .ins "Reader" (rf x b n)
def XN:((aq "in_side" :ah) == aq "text")=false:=by decide +kernel
def TH:((aq "at" :ah) == aq "text")=false:=by decide +kernel
def Q3:((aq "at" :ah) == aq "in_side")=false:=by decide +kernel
def M9:¬((aq "text" :ah)=aq "in_side"):=by decide +kernel
def K3:¬((aq "text" :ah)=aq "at"):=by decide +kernel
def HX:¬((aq "in_side" :ah)=aq "at"):=by decide +kernel
section
variable {S:gY}{Q:WK}{E:ah→gY→Prop}{a:aj}{x:ah}{b:Bool}{n m:Int}{r:Nat}{u v w:W}
def F8:bW (aq "text") [(aq "text",u),(aq "in_side",v),(aq "at",w)]=aa u:=by rw[bN,beq_self_eq_true]
def GM:bW (aq "in_side") [(aq "text",u),(aq "in_side",v),(aq "at",w)]=aa v:=by rw[bN,XN];simp only;rw[bN,beq_self_eq_true]
def w_:bW (aq "at") [(aq "text",u),(aq "in_side",v),(aq "at",w)]=aa w:=by rw[bN,TH];simp only;rw[bN,Q3];simp only;rw[bN,beq_self_eq_true]
def BK{m:ah}(h1:(m == aq "text")=false) (h2:(m == aq "in_side")=false) (h3:(m == aq "at")=false):bW m (rf x b n)=none:=by
 rw[rf,bN,h1];simp only;rw[bN,h2];simp only;rw[bN,h3];rfl
def zq:bW (aq "here") (rf x b n)=none:=BK (by decide +kernel) (by decide +kernel) (by decide +kernel)
def Nj:bW (aq "read_word") (rf x b n)=none:=BK (by decide +kernel) (by decide +kernel) (by decide +kernel)
def Nx:bW (aq "read_thing") (rf x b n)=none:=BK (by decide +kernel) (by decide +kernel) (by decide +kernel)
def SJ:bW (aq "read_parts") (rf x b n)=none:=BK (by decide +kernel) (by decide +kernel) (by decide +kernel)
def Ek:qB (aq "at") (.int m) (rf x b n)=rf x b m:=by
 rw[rf,qB,if_neg K3,qB,if_neg HX,qB,if_pos rfl]
def zCm:qB (aq "at") (.int n) (qB (aq "in_side") (.bl b) (qB (aq "text") (.str x) []))=rf x b n:=by
 rw[qB,qB,if_neg M9,qB,qB,if_neg K3,qB,if_neg HX,qB]
def q_{P:List (ah×W)→Prop}(h:S a=aa (rd x b n)):sD S (aq "Reader") a P=P (rf x b n):=DU h
def Q6 (ha:S a=aa (.ins "Reader" [])) (h:Q .bR (bz S a (rd x b 0))):Dm (r+1) [.ref a, .str x, .bl b] S Q E:=by
 rw[Dm];left;rw[DU ha];refine⟨`d,?_⟩;rw[DU nJ];refine⟨by rw[qB];show 1<1000;decide,?_⟩;rw[DU nJ];refine⟨by rw[qB,qB,if_neg M9,qB];show 2<1000;decide,?_⟩;rw[zCm];exact⟨_, .refl,h⟩
abbrev cl (x:ah):List Nat:=x.cps.toList
def uX (h:cl x=cl y):x=y:=by
 obtain⟨x⟩:=x;obtain⟨y⟩:=y;exact congrArg ah.mk (lO.mp h)
def ql (x y:ah):cl (x++y)=cl x++cl y:=by
 show(x.cps++y.cps).toList=_;exact ip
def MN{x:ah}{p w q:List Nat}(h:cl x=p++w++q):cu x (aa (p.length:Int)) (aa ((p.length+w.length:Nat):Int))=⟨w.toArray⟩:=by
 apply uX;rw[cl,DD];unfold xR;rw[HT.sIx_nat,HT.sIx_nat,show x.cps.toList=p++w++q from h];rw[fy `s,fy (by simp;done),b7,kr,ja,i8]
noncomputable def uo:List Nat→ah
 | []=>ah.empty
 |c::_=>⟨#[c]⟩
def ZM{x:ah}{p q:List Nat}(h:cl x=p++q):cu x (aa (p.length:Int)) (aa ((p.length:Int)+1))=uo q:=by
 cases q with
 |nil=>
  apply uX;rw[cl,DD];unfold xR;have e:((p.length:Int)+1)=((p.length+1:Nat):Int):=by lia
  rw[e,HT.sIx_nat,HT.sIx_nat,show x.cps.toList=p++[] from h];simp [uo,ah.empty]
 |cons c q=>exact MN (w:=[c]) (q:=q) (by rw[h];simp)
def yM (ha:S a=aa (rd x b p.length)) (e:cl x=p++q) (hx:x.length≤100000) (h:Q (.str (uo q)) S):xz (r+1) [.ref a] S Q E:=by
 rw[xz];left;simp only[q_ ha,F8,w_];left;rw[ZM e];exact⟨nL `l,_, .refl,h⟩
def sX (c:Nat):Bool:=c == 40 || c == 44 || c == 41
theorem yp:aq "(" =⟨#[40]⟩:=by decide +kernel
def zt:aq "," =⟨#[44]⟩:=by decide +kernel
theorem Dw:aq ")" =⟨#[41]⟩:=by decide +kernel
def zHA:aq "" =⟨#[]⟩:=by decide +kernel
def zn (c d:Nat):((⟨#[c]⟩:ah) == ⟨#[d]⟩)=(c == d):=by
 by_cases h:c=d
 ·subst h;rw[beq_self_eq_true,beq_self_eq_true]
 ·have:¬((⟨#[c]⟩:ah)=⟨#[d]⟩):=λz=>h (by have:=congrArg cl z;simpa [cl]using this);rw[beq_eq_false_iff_ne.mpr this,beq_eq_false_iff_ne.mpr h]
def Ky (c:Nat):((⟨#[]⟩:ah) == ⟨#[c]⟩)=false:=beq_eq_false_iff_ne.mpr λz=>by have:=congrArg cl z;simp [cl]at this
def X5:qS S (.str (uo q)) [.str (aq ""), .str (aq "("), .str (aq ","), .str (aq ")")]=aa (match q with
  | []=>true
  |c::_=>sX c):=by
 have e59:∀a b:ah,oH S 59 (.str a) (.str b)=aa (a == b):=λ_ _=>rfl;rw[zHA,yp,zt,Dw];simp only[qS,e59];cases q with
 |nil=>
  show aa ((⟨#[]⟩:ah) == ⟨#[]⟩ || _)=aa true;rw[beq_self_eq_true];rfl
 |cons c q=>
  simp only[uo,zn,Ky,sX];rw[kx (a:=40),kx (a:=44),kx (a:=41)];simp only[fN,jo,nz]
def Mi{p w q:List Nat}(ha:S a=aa (rd x b p.length)) (e:cl x=p++w++q) (hx:x.length≤100000) (hw:∀c∈w,sX c=false) (hq:∀c q',q=c::q'→sX c=true) (h:Q (.str ⟨w.toArray⟩) (bz S a (rd x b ((p++w).length:Nat)))):BM (r+2) [.ref a] S Q E:=by
 rw[BM];left;simp only[q_ ha,F8,w_];refine⟨λm σ S'=>σ=[aa (.ref a),aa (.int p.length)]∧ ∃w1 w2,w=w1++w2∧m=w2.length∧S'=bz S a (rd x b ((p++w1).length:Nat)),⟨w.length,rfl,[],w,rfl,rfl,by rw[bC];exact(sI ha).symm⟩,?_⟩
 rintro m σ S' ⟨rfl,w1,w2,rfl,rfl,rfl⟩;left;have e':cl x=(p++w1)++(w2++q):=by rw[e];simp
 rw[q_ nJ];refine⟨zq,?_⟩;refine yM nJ e' hx ⟨`d,?_⟩;rw[X5];cases w2 with
 |nil=>
  have hs:(match([]++q:List Nat) with
    | []=>true
    |c::_=>sX c)=true:=by
   cases q with
   |nil=>rfl
   |cons c q'=>exact hq c q' rfl
  simp only[hs];left;simp only[q_ nJ,F8,w_];left;rw[bC]at e h;have e2:(((p++w1).length:Nat):Int)=((p.length+w1.length:Nat):Int):=by rw[aW]
  rw[e2,MN e];rw[e2]at h;exact⟨nL `l,_, .refl,h⟩
 |cons c w2=>
  have hs:sX c=false:=hw c `s;simp only[bY,hs];rw[LZ];left;simp only[q_ nJ,w_];refine⟨by show 3<1000;decide,w2.length,_,`l, .refl,w1++[c],w2,`s,rfl,?_⟩
  have e3:(((p++w1).length:Nat):Int)+1=(((p++(w1++[c])).length:Nat):Int):=by simp;lia
  rw[Ek,e3];rfl
end
noncomputable def v6 (xs:List Nat):Bool:=decide (1≤xs.length)&&(decide (xs.length≤8)&&aF xs)
section
variable {S:gY}{Q:WK}{E:ah→gY→Prop}{x:ah}{r:Nat}
def Kp (hx:x.length≤1000) (h:Q (.bl (v6 (cl x))) S):xg (r+2) [.str x] S Q E:=by
 have hl:x.length=(cl x).length:=by simp [cD,cl]
 rw[xg];ext;refine⟨nL `l,?_⟩;by_cases h1:1≤(cl x).length
 ·have e1:decide ((1:Int)≤(x.length:Int))=true:=decide_eq_true `l;rw[e1];by_cases h2:(cl x).length≤8
  ·have e2:decide ((x.length:Int)≤8)=true:=decide_eq_true `l;rw[e2];refine FE hx ⟨_, .refl,?_⟩;unfold v6 at h;rw[decide_eq_true h1,decide_eq_true h2]at h;exact h
  ·have e2:decide ((x.length:Int)≤8)=false:=decide_eq_false `l;rw[e2];unfold v6 at h;rw[decide_eq_false h2,iP,eO]at h;exact⟨_, .refl,h⟩
 ·have e1:decide ((1:Int)≤(x.length:Int))=false:=decide_eq_false `l;rw[e1];unfold v6 at h;rw[decide_eq_false h1,iP]at h;exact⟨_, .refl,h⟩
def dg (n:Nat):List Nat:=if n<10 then [48+n] else [48+n / 10,48+n % 10]
def EL:∀n:Nat,n<100→cl (aq (cG (n:Int)))=dg n:=by decide +kernel
def zCO:∀n:Nat,n<100→fj (aq (cG (n:Int)))=aa (n:Int):=by decide +kernel
def DO:aq "?" =⟨#[63]⟩:=by decide +kernel
def MA (e:cl x=c::w):cu x none (aa 1)=⟨#[c]⟩:=by
 apply uX;rw[cl,DD];unfold xR;rw[HT.sIx_none,show(1:Int)=((1:Nat):Int) from rfl,HT.sIx_nat,show x.cps.toList=c::w from e];rw[di,fy `s,eA];rfl
def Op (e:cl x=c::w):cu x (aa 1) none=⟨w.toArray⟩:=by
 apply uX;rw[cl,Dp,show x.cps.toList=c::w from e];rfl
def R5 (hc:c≠63) (e:cl x=c::w) (hx:x.length≤1000) (h:Q (.bl false) S):yV (r+1) [.str x] S Q E:=by
 rw[yV];ext;rw[MA e,DO,zn,beq_eq_false_iff_ne.mpr hc];exact⟨nL `l,_, .refl,h⟩
def zCK:(aq "0").cps.toList=[48]:=by decide +kernel
def Um:(aq "9").cps.toList=[57]:=by decide +kernel
def V':aq "0" =⟨#[48]⟩:=by decide +kernel
def QY (hn:n<100) (e:cl x=dg n) (h:Q (.bl true) S):DN (r+1) [.str x] S Q E:=by
 have hd:∀c∈cl x,48≤c∧c≤57:=λc hc=>by
  rw[e,dg]at hc;split at hc
  ·rw[bw]at hc;lia
  ·simp only[az,aZ,or_false]at hc;lia
 have hl:x.length=(dg n).length:=by rw[←e];simp [cD,cl]
 have hl2:(dg n).length≤2:=by unfold dg;split<;>simp
 have hcl:([]:List W).length+x.cps.toList.length≤1000000:=by
  rw[dA,show x.cps.toList=dg n from e];lia
 rw[DN];ext;unfold Ac;refine qw (λσ=>∃x,σ=[x]) (λc=> .str ⟨#[c]⟩) (λc=> .bl true) ?_ x.cps.toList [] _ ⟨none,rfl⟩ hcl (λc hc σ R hI hR=>?_) ?_
 ·exact trivial
 ·obtain⟨y,rfl⟩:=hI;obtain⟨c0,c9⟩:=hd c hc;simp only[P6];ext;rw[Ho zCK,E4 Um,decide_eq_true c0,decide_eq_true c9];exact hR _ _ ⟨_,rfl⟩ .refl
 ·have e1:x.cps.toList.map (λ_=>W.bl true)=(x.cps.toList.map λ_=>true).map W.bl:=by rw[bB];rfl
  rw[aQ,e1,z9];dsimp only;rw[CM];have e2:(x.cps.toList.all λ_=>true)=true:=by simp
  rw[e2];have hll:x.length≤sizeLine:=nL `l;simp only[i_,cA,if_false];refine⟨hll,?_⟩;by_cases h1:n<10
  ·have ed:dg n=[48+n]:=by unfold dg;rw[if_pos h1]
   have el:((x.length:Int) == 1)=true:=by rw[hl,ed];rfl
   rw[el];exact⟨_, .refl,h⟩
  ·have ed:dg n=[48+n / 10,48+n % 10]:=by unfold dg;rw[if_neg h1]
   have el:((x.length:Int) == 1)=false:=by rw[hl,ed];rfl
   have el2:((x.length:Int) == 2)=true:=by rw[hl,ed];rfl
   rw[el,el2];refine⟨hll,hll,?_⟩;rw[show x.cps.toList=[48+n / 10,48+n % 10] from e.trans ed,zG];show ∃S'',Sub S'' S∧Q (W.bl !((⟨#[48+n / 10]⟩:ah) == aq "0")) S'';rw[V',zn,beq_eq_false_iff_ne.mpr `l];exact⟨_, .refl,h⟩
def zqT (hn:n<100) (e:cl x=63::dg n) (h:Q (.bl true) S):yV (r+2) [.str x] S Q E:=by
 have hl2:(dg n).length≤2:=by unfold dg;split<;>simp
 have hl:x.length≤3:=by
  have:x.length=(cl x).length:=by simp [cD,cl]
  rw[this,e,aS];lia
 rw[yV];ext;rw[MA e,DO,beq_self_eq_true,Op e];exact⟨nL `l,nL `l,QY hn rfl ⟨_, .refl,h⟩⟩
end
inductive sJ (b:Bool):Tr→Prop
 |bl {n:Int}:b=true→0≤n→n<100→sJ b (.bl n)
 |nd {s:ah}{ts:List Tr}:(qm s∨b=false∧qR s)→(∀t∈ts,sJ b t)→sJ b (.nd s ts)
def yy (q:List Nat):Prop:=∀c q',q=c::q'→c=44∨c=41
section
variable {S:gY}{Q:WK}{E:ah→gY→Prop}{a:aj}{x:ah}{b:Bool}{r:Nat}
def xQ (b:Bool) (t:Tr) (room:Int) (c:nD):Prop:=∀{S:gY}{Q:WK}{E:ah→gY→Prop}{a:aj}{x:ah}{p q:List Nat},S a=aa (rd x b p.length)→cl x=p++cl t.txt++q→x.length≤100000→yy q→
 Q (gS t) (bz S a (rd x b ((p++cl t.txt).length:Nat)))→c [.ref a, .int room] S Q E
def Wt (ha:S a=aa (rd x b p.length)) (e:cl x=p++q) (hx:x.length≤100000) (hq:yy q) (h:Q (.bH []) S):wG cT (r+2) [.ref a, .int room] S Q E:=by
 rw[wG];ext;rw[q_ ha];refine⟨zq,yM ha e hx ?_⟩;have e60:∀u v:ah,oH S 60 (.str u) (.str v)=aa (u == v):=λ_ _=>rfl;have hh:(uo q == aq "(")=false:=by
  rw[yp];cases q with
  |nil=>exact Ky 40
  |cons c q'=>
   rw[uo,zn];obtain rfl |rfl:=hq c q' rfl
   ·rfl
   ·rfl
 rw[e60,hh];exact⟨bc _,_, .refl,h⟩
theorem DL:∀(ts1:List Tr) {m:ah},cl (txts m (ts1++ts2))=cl (txts m ts1)++cl (txts (if ts1.isEmpty then m else aq ",") ts2)
 | [],m=>by rw[v_];rfl
 |t::ts,m=>by
  rw[bY,tP,tP,ql,ql,DL ts];have e:(if ts.isEmpty=true then aq "," else aq ",")=aq "," :=by split<;>rfl
  rw[e,ql,ql];simp
end
def El (h:a≠f):bz (bz (bz S a o1) f L) a o2=bz (bz S a o2) f L:=by
 funext c;unfold bz;by_cases h1:c=a
 ·subst h1;rw[if_pos rfl,if_neg h,if_pos rfl]
 ·rw[if_neg h1];by_cases h2:c=f
  ·rw[if_pos h2,if_pos h2]
  ·rw[if_neg h2,if_neg h2,if_neg h1,if_neg h1]
section
variable {S:gY}{Q:WK}{E:ah→gY→Prop}{a:aj}{x:ah}{b:Bool}{r:Nat}
def zpQ (hT:xQ b t room cT) (hf:a≠f) (e:cl x=p++[c]++cl t.txt++q) (hq:yy q) (hx:x.length≤100000) (hl:ts1.length≤1000)
  (h:D.nx [aa (.ref a),aa (.int room),aa (.ref f)] (bz (bz S a (rd x b ((p++[c]++cl t.txt).length:Nat))) f (.bx (af (ts1++[t]))))) :
  Cs r cT EX D [aa (.ref a),aa (.int room),aa (.ref f)] (bz (bz S a (rd x b (p.length:Nat))) f (.bx (af ts1))):=by
 have ea:∀n:Int,bz (bz S a (rd x b n)) f (Ob.bx (af ts1)) a=aa (rd x b n):=λn=>by rw[oQ hf,nJ]
 rw[Cs];left;simp only[q_ (ea _),w_];refine⟨by show 3<1000;decide,?_⟩;rw[Ek,show Ob.ins (aq "Reader") (rf x b ((p.length:Int)+1))=rd x b ((p.length:Int)+1) from rfl,El hf];have e1:((p.length:Int)+1)=(((p++[c]).length:Nat):Int):=by simp
 rw[e1];rw[nT nJ,q_ (ea _)];refine⟨trivial,Nx,hT (ea _) e hx hq ?_⟩;rw[El hf,nT nJ,qa];have e2:af ts1++[gS t]=af (ts1++[t]):=by rw[qr,qr,bU];rfl
 rw[e2];exact⟨rA (by rw[p9];lia),h⟩
theorem S8{cT:nD}{room:Int}{p q:List Nat}{ts:List Tr}(hT:∀t∈ts,xQ b t room cT) (hne:ts≠ []) (ha:S a=aa (rd x b p.length)) (e:cl x=p++cl (txts (aq "(") ts)++41::q) (hx:x.length≤100000) (hl:ts.length≤1000) (h:Q (.bH (af ts)) (bz S a (rd x b ((p++cl (txts (aq "(") ts)++[41]).length:Nat)))):wG cT (r+2) [.ref a, .int room] S Q E:=by
 have e60:∀(S:gY) (u v:ah),oH S 60 (.str u) (.str v)=aa (u == v):=λ_ _ _=>rfl;have cm:cl (aq "(")=[40]:=by rw[yp]
 have cc:cl (aq ",")=[44]:=by rw[zt]
 rw[wG];left;rw[q_ ha];obtain⟨t0,ts0,rfl⟩:=kK hne;have e0:cl x=p++40::(cl t0.txt++cl (txts (aq ",") ts0)++41::q):=by
  rw[e,tP,ql,ql,cm];simp
 refine⟨zq,yM ha e0 hx ?_⟩;rw[e60,uo,yp,beq_self_eq_true];refine⟨bc _,λf hf0=>?_⟩;have hf:a≠f:=by rintro rfl;rw[ha]at hf0;cases hf0
 have ea:∀(n:Int) (L:List W),bz (bz S a (rd x b n)) f (Ob.bx L) a=aa (rd x b n):=λn L=>by rw[oQ hf,nJ]
 refine⟨λm σ S'=>σ=[aa (.ref a),aa (.int room),aa (.ref f)]∧ ∃ts1 ts2,t0::ts0=ts1++ts2∧m=ts2.length∧S'=bz (bz S a (rd x b ((p++cl (txts (aq "(") ts1)).length:Nat))) f (.bx (af ts1)),⟨(t0::ts0).length,rfl,[],t0::ts0,rfl,rfl,?_⟩,?_⟩
 ·rw[v_,show cl ah.empty=[] from rfl,bC,sI ha];rfl
 ·rintro m σ S' ⟨rfl,ts1,ts2,ets,rfl,rfl⟩;have go:∀(c:Nat) (t:Tr) (ts2':List Tr),ts2=t::ts2'→cl (if ts1.isEmpty then aq "(" else aq ",")=[c]→ ∀(D:nQ),(∀S',(∃m' S'',m'<ts2.length∧Sub S'' S'∧([aa (W.ref a),aa (.int room),aa (.ref f)]:nK)=[aa (.ref a),aa (.int room),aa (.ref f)]∧ ∃ts1 ts2,t0::ts0=ts1++ts2∧m'=ts2.length∧S''=bz (bz S a (rd x b ((p++cl (txts (aq "(") ts1)).length:Nat))) f (.bx (af ts1)))→D.nx [aa (.ref a),aa (.int room),aa (.ref f)] S')→
    Cs (r+1) cT (λc x S'=>E c S') D [aa (.ref a),aa (.int room),aa (.ref f)] (bz (bz S a (rd x b ((p++cl (txts (aq "(") ts1)).length:Nat))) f (.bx (af ts1))):=λc t ts2' et ec D hD=>by
   subst et;have e1:cl (txts (aq "(") (ts1++[t]))=cl (txts (aq "(") ts1)++[c]++cl t.txt:=by
    rw[DL,tP,v_,ql,ql,ec,show cl ah.empty=[] from rfl];simp
   have e2:cl (txts (aq "(") (t0::ts0))=cl (txts (aq "(") ts1)++[c]++cl t.txt++cl (txts (aq ",") ts2'):=by
    rw[ets,DL,tP,ql,ql,ec];simp
   have hl1:ts1.length≤1000:=by have:=congrArg dB ets;rw[aW]at this;lia
   refine zpQ (q:=cl (txts (aq ",") ts2')++41::q) (c:=c) (hT t (by rw[ets];simp)) hf (by rw[e,e2];simp) (λd q' hd=>?_) hx hl1 (hD _ ⟨ts2'.length,_,`s, .refl,rfl,ts1++[t],ts2',by rw[ets];simp,rfl,?_⟩)
   ·cases ts2' with
    |nil=>rw[v_,show cl ah.empty=[] from rfl,aQ]at hd;cases hd;exact .inr rfl
    |cons u us=>
     rw[tP,ql,ql,cc]at hd;cases hd;exact .inl rfl
   ·rw[e1];simp only[b7]
  left;cases ts1 with
  |nil=>
   have e3:(!!(af ([]:List Tr)).isEmpty)=true:=rfl;rw[if_pos e3];exact go 40 t0 ts0 ets.symm cm _ λS' z=>z
  |cons u us=>
   have e3:¬(!!(af (u::us)).isEmpty)=true:=by simp [af]
   rw[if_neg e3,q_ (ea _ _)];refine⟨zq,?_⟩;cases ts2 with
   |cons t ts2'=>
    have e4:cl x=(p++cl (txts (aq "(") (u::us)))++44::(cl t.txt++cl (txts (aq ",") ts2')++41::q):=by
     have ex:cl (txts (aq ",") (t::ts2'))=44::(cl t.txt++cl (txts (aq ",") ts2')):=by rw[tP,ql,ql,cc];simp
     rw[e,ets,DL];simp only[List.isEmpty_cons,cA,if_false];rw[ex];simp
    refine yM (ea _ _) e4 hx ?_;rw[e60,uo,zt,beq_self_eq_true];dsimp only;rw[if_pos rfl];exact go 44 t ts2' rfl cc _ λS' z=>z
   |nil=>
    rw[bC]at ets;have e4:cl x=(p++cl (txts (aq "(") (u::us)))++41::q:=by rw[←ets];exact e
    refine yM (ea _ _) e4 hx ?_;rw[e60,uo,zt,zn];simp only[show((41:Nat) == 44)=false from rfl,cA,if_false];rw[q_ (ea _ _)];refine⟨zq,yM (ea _ _) e4 hx ?_⟩;rw[e60,uo,Dw,beq_self_eq_true];dsimp only;simp only[i_,cA,if_false];simp only[q_ (ea _ _),w_];refine⟨by show 3<1000;decide,?_⟩;rw[Ek,show Ob.ins (aq "Reader") (rf x b ((((p++cl (txts (aq "(") (u::us))).length:Nat):Int)+1))=rd x b ((((p++cl (txts (aq "(") (u::us))).length:Nat):Int)+1) from rfl,El hf,nT nJ];have e5:(((p++cl (txts (aq "(") (u::us))).length:Nat):Int)+1=(((p++cl (txts (aq "(") (t0::ts0))++[41]).length:Nat):Int):=by rw[ets];generalize p++cl (txts (aq "(") (u::us))=A;simp
    rw[e5,←ets];refine⟨_, .bz .refl ?_,h⟩;rw[oQ (bE hf)];exact hf0
end
section
variable {S:gY}{Q:WK}{E:ah→gY→Prop}{a:aj}{x:ah}{b:Bool}{r:Nat}
def D0 (h:qm s):v6 (cl s)=true∧(∃c w,cl s=c::w∧c≠63)∧ ∀c∈cl s,sX c=false:=by
 obtain⟨h1,h2,h3⟩:=h;refine⟨?_,?_,λc hc=>?_⟩
 ·unfold v6;rw[decide_eq_true (show 1≤(cl s).length from h1),decide_eq_true (show(cl s).length≤8 from h2)];show aF (cl s)=true;unfold aF;rw[cJ];intro c hc;have:=h3 c hc;unfold qZ at this;unfold uU;simp [this.1,this.2]
 ·cases e:cl s with
  |nil=>rw[show s.cps.toList=[] from e]at h1;simp at h1
  |cons c w=>
   refine⟨c,w,rfl,λz=>?_⟩;have:=h3 c (by rw[show s.cps.toList=c::w from e];simp);unfold qZ at this;lia
 ·have:=h3 c hc;unfold qZ at this;unfold sX;simp;lia
def yd (h:qR s):v6 (cl s)=false∧wb (cl s)=true∧(∃c w,cl s=c::w∧c≠63)∧ ∀c∈cl s,sX c=false:=by
 obtain⟨c,w,e,h1,h2,h3,h4⟩:=h;have e:cl s=c::w:=e;rw[e];refine⟨?_,?_,⟨c,w,rfl,`l⟩,λd hd=>?_⟩
 ·unfold v6 aF;rw[iV,show uU c=false by unfold uU;simp;lia]
  simp
 ·unfold wb aF;simp [h1,h2,h3];intro d hd;have:=h4 d hd;unfold qZ at this;unfold uU;simp [this.1,this.2]
 ·unfold sX;obtain rfl |hd:=az.mp hd
  ·simp;lia
  ·have:=h4 d hd;unfold qZ at this;simp;lia
def K4 (h:yy q):∀c q',q=c::q'→sX c=true:=λc q' e=>by
 rcases h c q' e with rfl |rfl<;>rfl
def Vn (hn:0≤n) (hm:n<100) (hr:1≤room) (hb:b=true):xQ b (.bl n) room (tU (r+4)):=λ{S Q E a x p q} ha e hx hq h=>by
 subst hb;obtain⟨k,rfl⟩:∃k:Nat,n=k:=⟨n.toNat,`l⟩
 have et:cl (Tr.bl (k:Int)).txt=63::dg k:=by rw[De,ql,DO,EL k `l];rfl
 rw[et]at e h;rw[tU];left;have e0:(room == 0)=false:=by simp;lia
 rw[e0];simp only[cA,if_false];rw[q_ ha];refine⟨Nj,?_⟩;refine Mi (w:=63::dg k) ha e hx ?_ (K4 hq) ?_
 ·intro c hc;obtain rfl |hc:=az.mp hc
  ·rfl
  ·have:48≤c∧c≤57:=by
    unfold dg at hc;split at hc
    ·rw[bw]at hc;lia
    ·simp only[az,aZ,or_false]at hc;lia
   unfold sX;simp;lia
 ·rw[q_ nJ,GM];left;refine zqT (n:=k) `l rfl ?_;left;rw[Op (c:=63) (w:=dg k) rfl];have ed:(⟨(dg k).toArray⟩:ah)=aq (cG (k:Int)):=uX (by rw[EL k `l]);have hd2:(dg k).length≤2:=by unfold dg;split<;>simp
  have hl2:(aq (cG (k:Int))).length≤640:=by
   rw[←ed];show(dg k).toArray.size≤640;rw[aV];lia
  rw[ed,UO (zCO k `l) hl2];refine⟨nL ?_,_, .refl,h⟩;show(63::dg k).toArray.size≤_;rw[aV,aS];lia
end
section
variable {S:gY}{Q:WK}{E:ah→gY→Prop}{a:aj}{x:ah}{b:Bool}{r:Nat}
def zsR (hT:∀t∈ts,xQ b t room cT) (ha:S a=aa (rd x b (p++cl s).length)) (e:cl x=p++cl (Tr.nd s ts).txt++q) (hx:x.length≤100000) (hl:ts.length≤1000) (hq:yy q) (h:Q (.bH (af ts)) (bz S a (rd x b ((p++cl (Tr.nd s ts).txt).length:Nat)))):wG cT (r+2) [.ref a, .int room] S Q E:=by
 by_cases hts:ts=[]
 ·subst hts;rw[yS]at e h;rw[sI ha]at h;exact Wt ha e hx hq h
 ·have et:cl (Tr.nd s ts).txt=cl s++cl (txts (aq "(") ts)++[41]:=by rw[zc hts,ql,ql,show cl (aq ")")=[41] by rw[Dw]]
  rw[et]at e h;refine S8 (p:=p++cl s) (q:=q) hT hts ha (by rw[e];simp) hx hl ?_;have e2:p++cl s++cl (txts (aq "(") ts)++[41]=p++(cl s++cl (txts (aq "(") ts)++[41]):=by simp
  rw[e2];exact h
def zrh (e:cl x=p++cl (Tr.nd s ts).txt++q) (hq:yy q):∃q',cl x=p++cl s++q'∧ ∀c q'',q'=c::q''→sX c=true:=by
 by_cases hts:ts=[]
 ·subst hts;rw[yS]at e;exact⟨q,e,K4 hq⟩
 ·obtain⟨t,ts',rfl⟩:=kK hts;rw[zc hts,ql,ql,tP,ql,ql,show cl (aq "(")=[40] by rw[yp]]at e
  refine⟨40::(cl t.txt++cl (txts (aq ",") ts')++cl (aq ")")++q),by rw[e];simp,λc q'' z=>by cases z;rfl⟩
def zwi (hs:qm s∨b=false∧qR s) (hr:1≤room) (hT:∀t∈ts,xQ b t (room - 1) (tU (r+2))) (hl:ts.length≤1000):xQ b (.nd s ts) room (tU (r+4)):=λ{S Q E a x p q} ha e hx hq h=>by
 obtain⟨q',e',hq'⟩:=zrh e hq;have ew:(⟨(cl s).toArray⟩:ah)=s:=uX rfl;have hst:∀c∈cl s,sX c=false:=by
  obtain hs |⟨_,hs⟩:=hs
  ·exact(D0 hs).2.2
  ·exact(yd hs).2.2.2
 have h63:∃c w,cl s=c::w∧c≠63:=by
  obtain hs |⟨_,hs⟩:=hs
  ·exact(D0 hs).2.1
  ·exact(yd hs).2.2.1
 have hs8:s.length≤8:=by
  obtain hs |⟨_,hs⟩:=hs
  ·exact Bn hs
  ·exact xw hs
 rw[tU];left;have e0:(room == 0)=false:=by simp;lia
 rw[e0];simp only[cA,if_false];rw[q_ ha];refine⟨Nj,Mi (w:=cl s) ha e' hx hst hq' ?_⟩;rw[ew];obtain⟨c,w,ec,hc⟩:=h63;have es:W.bH (.str s::af ts)=gS (.nd s ts):=by simp [gS]
 have fin:∀G:gY→Prop,sD (bz S a (rd x b ((p++cl s).length:Nat))) (aq "Reader") a (λfs=>bW (aq "read_parts") fs=none∧wG (tU (r+2)) (r+2+1) [.ref a, .int (room - 1)] (bz S a (rd x b ((p++cl s).length:Nat))) (λw S'=>oX (.bH [.str s]) w S' λw S'=>∃S'',Sub S'' S'∧Q w S'') λcl' S3=>E cl' S3):=λ_=>by
  rw[q_ nJ];refine⟨SJ,zsR (p:=p) (q:=q) (s:=s) hT nJ e hx hl hq ?_⟩;rw[qa];left;rw[es];exact⟨nL (by rw[p9];lia),_, .refl,h⟩
 rw[q_ nJ,GM];left;cases b with
 |true=>
  simp only[if_true];refine R5 hc ec `l ?_;left;refine Kp `l ?_;rw[(D0 (hs.resolve_right `s)).1];left;exact⟨nL `d,fin λ_=>True⟩
 |false=>
  simp only[cA,if_false];refine Kp `l ?_;obtain hs |⟨_,hs⟩:=hs
  ·rw[(D0 hs).1];left;exact⟨nL `d,fin λ_=>True⟩
  ·rw[(yd hs).1];left;rw[q_ nJ,GM];left;refine F0 `l ?_;rw[show wb s.cps.toList=true from(yd hs).2.1];left;exact⟨nL `d,fin λ_=>True⟩
end
section
variable {S:gY}{Q:WK}{E:ah→gY→Prop}{a:aj}{x:ah}{b:Bool}{r:Nat}
theorem HK:∀ts:List Tr,ts.length≤nI ts
 | []=>by simp
 |t::ts=>by
  have:=HK ts;have:=uc t;rw[aS,ur];lia
theorem P9:∀(d:Nat) {t:Tr}{r:Nat}{room:Int},t.depth≤d→(d:Int)≤room→2*d+2≤r→sJ b t→t.au≤1000→xQ b t room (tU r)
 |0,t,r,room,hd,hr,hk,hw,hg=>by have:=sj t;lia
 |d+1,t,r,room,hd,hr,hk,hw,hg=>by
  obtain⟨r,rfl⟩:∃r',r=r'+4:=⟨r - 4,`l⟩
  cases hw with
  |bl h1 h2 h3=>exact Vn h2 h3 `l h1
  | @nd s ts h1 h2=>
   rw[Tr.depth]at hd;rw[Tr.au]at hg;refine zwi h1 `l (λt ht=>P9 d (by have:=so ht;lia) `l `l (h2 t ht) (by have:=qg ht;lia)) ?_;have:=HK ts;lia
def KP (hx:x.length≤4000) (h:Q .bR S):Am (r+1) [.str x] S Q E:=by
 rw[Am];ext;rw[if_neg `l];exact⟨nL `l,_, .refl,h⟩
def IE (hw:sJ b t) (hg:t.au≤400) (hd:t.depth≤40) (hs:t.aF=true) (hl:t.txt.length≤4000) (hr:90≤r) (h:∀S',Sub S S'→Q (gS t) S'):yG (r+2) [.str t.txt, .bl b] S Q E:=by
 obtain⟨r,rfl⟩:∃r',r=r'+3:=⟨r - 3,`l⟩
 have hlen:(cl t.txt).length=t.txt.length:=by simp [cD,cl]
 rw[yG];ext;refine KP hl λa hn=>?_;refine Q6 nJ ⟨rfl,?_⟩;rw[qa,q_ nJ];refine⟨Nx,P9 (b:=b) 40 `l `d `l hw `l (p:=[]) (q:=[]) nJ `s `l (λc q' z=>by cases z) ?_⟩
 rw[qa,aQ,q_ nJ,w_];refine⟨nL `l,?_⟩;have e60:∀(S:gY) (u v:Int),oH S 60 (.int u) (.int v)=aa (u == v):=λ_ _ _=>rfl;rw[e60,hlen,beq_self_eq_true]
 try dsimp only
 simp only[i_,cA,if_false];refine ZX `l ?_;rw[hs];ext;exact⟨_, .refl,h _ (.bz .refl hn)⟩
end
section
variable {S:gY}{Q:WK}{E:ah→gY→Prop}{r:Nat}
def TB (hw:sJ false t) (hg:t.au≤400) (hd:t.depth≤40) (hs:t.aF=true) (hl:t.txt.length≤4000) (hr:95≤r) (h:∀S',Sub S S'→Q (gS t) S'):yY (r+1) [.str t.txt] S Q E:=by
 obtain⟨r,rfl⟩:∃r',r=r'+2:=⟨r - 2,`l⟩
 rw[yY];left;exact IE hw hg hd hs hl `l λS' s=>⟨_, .refl,h S' s⟩
def L3 (hw:sJ true t) (hg:t.au≤400) (hd:t.depth≤40) (hs:t.aF=true) (hl:t.txt.length≤4000) (hr:95≤r) (h:∀S',Sub S S'→Q (gS t) S'):A4 (r+1) [.str t.txt] S Q E:=by
 obtain⟨r,rfl⟩:∃r',r=r'+2:=⟨r - 2,`l⟩
 rw[A4];left;exact IE hw hg hd hs hl `l λS' s=>⟨_, .refl,h S' s⟩
end
def sU:mB z y i=true↔((cl z).drop i).take (cl y).length=cl y:=by
 unfold mB;rw[beq_iff_eq,←lO,lB];have hl:y.length=(cl y).length:=by simp [cD,cl]
 rw[hl,mR,ja]
def Mp:iY z i j=⟨(((cl z).drop i).take (j - i)).toArray⟩:=by
 apply uX;show(z.cps.extract i j).toList=_;rw[lB,mR]
def Ix (e:cl z=u++cl y++v) (ey:cl y=c::y') (hc:c∉u):bP z y=(⟨u.toArray⟩,y,⟨v.toArray⟩):=by
 have hy:y.length=(cl y).length:=by simp [cD,cl]
 have hz:z.length=(cl z).length:=by simp [cD,cl]
 have hat:StrLaws.At z y z.length u.length:=by
  refine⟨by rw[hy,hz,e];simp,sU.mpr ?_⟩;rw[e,b7,kr,i8]
 obtain ⟨_,no⟩ |⟨i,ei,⟨h1,h2⟩,h3⟩:=partition_whole z y
 ·exact absurd hat (no _)
 ·have hi:i=u.length:=by
   obtain h |h |h:=Nat.lt_trichotomy i u.length
   ·exfalso;have h4:=sU.mp h2;rw[e,ey,b7,List.drop_append_of_le_length `l]at h4;have h5:(u.drop i)=u[i]::u.drop (i+1):=fA h;rw[h5,bY,aS,List.take_succ_cons,gd]at h4;exact hc (h4.1▸dQ h)
   ·exact h
   ·exact absurd hat (h3 _ h)
  subst hi;rw[ei,Mp,Mp,hz,hy];have e1:((cl z).drop 0).take (u.length - 0)=u:=by rw[e,di,eA,b7,i8]
  have e2:((cl z).drop (u.length+(cl y).length)).take ((cl z).length - (u.length+(cl y).length))=v:=by
   rw[e,←aW,kr];rw[aW (bs:=v),ja,gR]
  rw[e1,e2]
section
variable {b:Bool}
theorem Nk (h40:c≠40) (h44:c≠44):∀(ts:List Tr) {m:ah},c∉cl m→(∀t∈ts,c∉cl t.txt)→c∉cl (txts m ts)
 | [],m,hm,h=>by rw[v_];simp [cl,ah.empty]
 |t::ts,m,hm,h=>by
  rw[tP,ql,ql];have h1:=h t aM;have h2:=Nk h40 h44 ts (m:=aq ",") (by rw[zt];simpa [cl]using h44) λu hu=>h u (aI _ hu);simp only[bv,not_or];exact⟨⟨hm,h1⟩,h2⟩
def X7 (h:sJ b t):32∉cl t.txt:=by
 induction h with
 | @bl n h1 h2 h3=>
  obtain⟨k,rfl⟩:∃k:Nat,n=k:=⟨n.toNat,`l⟩
  rw[De,ql,DO,EL k `l];intro z;obtain z |z:=bv.mp z
  ·simp [cl]at z
  ·unfold dg at z;split at z
   ·rw[bw]at z;lia
   ·simp only[az,aZ,or_false]at z;lia
 | @nd s ts hs hk ih=>
  have h0:32∉cl s:=λz=>by
   obtain hs |⟨_,hs⟩:=hs
   ·have:=hs.2.2 32 z;unfold qZ at this;lia
   ·obtain⟨c,w,e,h1,h2,h3,h4⟩:=hs;rw[show cl s=c::w from e]at z;obtain z |z:=az.mp z
    ·lia
    ·have:=h4 32 z;unfold qZ at this;lia
  by_cases hts:ts=[]
  ·subst hts;rw[yS];exact h0
  ·rw[zc hts,ql,ql,Dw];have:=Nk `d `d ts (m:=aq "(") (c:=32) (by rw[yp];simp [cl]) ih;simp only[bv,not_or];exact⟨⟨h0,this⟩,by simp [cl]⟩
end
section
variable {S:gY}{Q:WK}{E:ah→gY→Prop}{r:Nat}
def Nv:cl (aq ": ")=[58,32]:=by decide +kernel
def Nd:cl (aq " > ")=[32,62,32]:=by decide +kernel
def zvO (hs:qR s) (hl:sJ true l) (hu:sJ true u) (gl:l.au≤400∧l.depth≤40∧l.aF=true) (gu:u.au≤400∧u.depth≤40∧u.aF=true) (h4:l.txt.length+u.txt.length≤3900) (hr:100≤r) (h:∀S',Sub S S'→Q (.bH [.str s,gS l,gS u]) S') :
  C9 (r+1) [.str (s++aq ": " ++l.txt++aq " > " ++u.txt)] S Q E:=by
 obtain⟨r,rfl⟩:∃r',r=r'+2:=⟨r - 2,`l⟩
 have hs8:=xw hs;have tl:∀y:ah,y.length=(cl y).length:=λy=>by simp [cD,cl]
 have ez:cl (s++aq ": " ++l.txt++aq " > " ++u.txt)=cl s++cl (aq ": ")++(cl l.txt++cl (aq " > ")++cl u.txt):=by simp only[ql,b7]
 have hz:(s++aq ": " ++l.txt++aq " > " ++u.txt).length≤4000:=by
  rw[tl,ez];have h1:=tl s;have h2:=tl l.txt;have h3:=tl u.txt;simp only[aW,Nv,Nd,aS,dA];lia
 have n58:58∉cl s:=λz=>by
  obtain⟨c,w,e,h1,h2,h3,h4⟩:=hs;rw[show cl s=c::w from e]at z;obtain z |z:=az.mp z
  ·lia
  ·have:=h4 58 z;unfold qZ at this;lia
 have p1:=Ix ez Nv n58;generalize hzz:s++aq ": " ++l.txt++aq " > " ++u.txt=z at *;have p2:bP ⟨(cl l.txt++cl (aq " > ")++cl u.txt).toArray⟩ (aq " > ")=(⟨(cl l.txt).toArray⟩,aq " > ",⟨(cl u.txt).toArray⟩):=Ix rfl Nd (X7 hl);have es:(⟨(cl s).toArray⟩:ah)=s:=uX rfl;have el:(⟨(cl l.txt).toArray⟩:ah)=l.txt:=uX rfl;have eu:(⟨(cl u.txt).toArray⟩:ah)=u.txt:=uX rfl;rw[es]at p1;rw[el,eu]at p2;have hr2:(⟨(cl l.txt++cl (aq " > ")++cl u.txt).toArray⟩:ah).length≤100000:=by
  have:=congrArg dB ez;rw[tl]at hz;rw[tl];simp only[aW]at this;show(cl l.txt++cl (aq " > ")++cl u.txt).toArray.toList.length≤_;simp only[aW]at *;lia
 rw[C9];ext;refine KP hz ?_;rw[Pz (by decide +kernel) `l,p1]
 try ext
 rw[show ow [W.str s,W.str (aq ": "),W.str ⟨(cl l.txt++cl (aq " > ")++cl u.txt).toArray⟩] 2=aa (W.str ⟨(cl l.txt++cl (aq " > ")++cl u.txt).toArray⟩) from rfl];refine⟨trivial,?_⟩;rw[Pz (by decide +kernel) hr2,p2];refine F0 `l ?_;rw[show wb s.cps.toList=true from(yd hs).2.1]
 try ext
 refine L3 hl gl.1 gl.2.1 gl.2.2 `l `l λS1 s1=>?_
 try ext
 rw[show ow [W.str l.txt,W.str (aq " > "),W.str u.txt] 2=aa (W.str u.txt) from rfl]
 try ext
 refine L3 hu gu.1 gu.2.1 gu.2.2 `l `l λS2 s2=>?_
 try ext
 exact⟨nL `d,_, .refl,h _ (s1.trans s2)⟩
end
noncomputable def uW (t:Tn):Bool:=qC t.1 t.2.1 t.2.2
noncomputable def uZ (ts:List Tn):Bool:=decide (8<ts.length) || (!decide (ts.map (·.1)).Nodup || !ts.all uW)
structure BG (ts:List Tn):Prop where
  n:ts.length≤9
  t:∀t∈ts,t.1.length≤20
  l:∀t∈ts,t.2.1.au≤40
  r:∀t∈ts,t.2.2.au≤40
theorem KJ:∀ss:List ah,qS S (.str x) (ss.map W.str)=aa (decide (x∈ss))
 | []=>by simp [qS]
 |s::ss=>by
  rw[aG,qS,Hu,KJ (S:=S) (x:=x) ss];dsimp only;congr 1;have:(x∈s::ss)↔(s=x∨x∈ss):=by
   rw[az];exact⟨λh=>h.imp Eq.symm id,λh=>h.imp Eq.symm id⟩
  rw[decide_eq_decide.mpr this,Bool.decide_or];rfl
theorem Ib (hr:101≤r) (hab:a≠b) (hS0b:S0 b=none):∀(ts:List Tn) (tn:List ah) {S:gY}{x2:Option W},Sub S0 S→S a=aa (.bx as)→S b=aa (.bx (tn.map W.str))→tn.Nodup→tn.length+ts.length≤100→(∀t∈ts,t.1.length≤20)→(∀t∈ts,t.2.1.au≤40)→(∀t∈ts,t.2.2.au≤40)→
  ((¬((tn++ts.map (·.1)).Nodup∧ts.all uW=true))→ ∀σ S',Sub S0 S'→E "NoTurning" σ S')→
  (((tn++ts.map (·.1)).Nodup∧ts.all uW=true)→ ∀x2 S',Sub S0 S'→S' a=aa (.bx as)→D.nx [aa (.ref a),aa (.ref b),x2] S')→
  nU (wGN 2) (Hs (r+1) nG) E D (λS'=>S' a=aa (.bx as)) (ts.map nN) [aa (.ref a),aa (.ref b),x2] S
 | [],tn,S,x2,sb,ha,hb,nd,hl,h1,h2,h3,bad,good=>by
  simp only[dv,nU];exact good ⟨by simpa using nd,rfl⟩ _ _ sb ha
 |t::ts,tn,S,x2,sb,ha,hb,nd,hl,h1,h2,h3,bad,good=>by
  rw[aG];refine rY λN hN=>?_;obtain⟨x,l,u⟩:=t;have y1:=h1 _ aM;have y2:=h2 _ aM;have y3:=h3 _ aM;dsimp only at y1 y2 y3;simp only[Hs,nN];ext;refine Qy `l `l `l `l ?_;cases eo:qC x l u with
  |false=>
   ext;rw[ya];ext;refine⟨`d,bad (λz=>?_) _ _ sb⟩;have:=z.2;simp [uW,eo]at this
  |true=>
   ext;rw[nT hb,KJ];simp only[nT hb];by_cases hx:x∈tn
   ·rw[decide_eq_true hx,if_pos rfl,ya];ext;refine⟨`d,bad (λz=>?_) _ _ sb⟩;exact(ki.mp z.1).2.2 x hx x `s rfl
   ·rw[decide_eq_false hx,if_neg `d];rw[aS]at hl;refine⟨trivial,rA (by rw[aD];lia),?_⟩;have ne:a≠b:=hab;have fb:bz S b (Ob.bx (tn.map W.str++[W.str x])) b=aa (.bx ((tn++[x]).map W.str)):=by rw[nJ,bU];rfl
    have fa:bz S b (Ob.bx (tn.map W.str++[W.str x])) a=aa (.bx as):=by rw[oQ hab];exact ha
    have sb':Sub S0 (bz S b (Ob.bx (tn.map W.str++[W.str x]))):=λc o e=>by
     by_cases hc:c=b
     ·rw[hc,hS0b]at e;cases e
     ·rw[oQ hc];exact sb c o e
    have eap:tn++jR (λx=>x.fst) ((x,l,u)::ts)=(tn++[x])++ts.map (λx=>x.fst):=by simp
    have eal:(((x,l,u)::ts).all uW=true)↔(ts.all uW=true):=by simp [uW,eo]
    refine hN _ _ _ .refl fa (Ib hr hab hS0b ts (tn++[x]) sb' fa fb ?_ (by rw[aW];simp;lia) (λt ht=>h1 t (aI _ ht)) (λt ht=>h2 t (aI _ ht)) (λt ht=>h3 t (aI _ ht)) (λz=>bad λy=>z ?_) λz=>good ?_)
    ·rw[ki];exact⟨nd,`s,λy hy z hz=>by rw[bw]at hz;rintro rfl;exact hx (hz▸hy)⟩
    ·rw[eap,eal]at y;exact y
    ·rw[eap,eal];exact z
def Ul{E:ah→gY→Prop}(ha:S a=aa (.bx (ts.map nN))) (ok:BG ts) (hr:110≤r)
  (hb:uZ ts=true→ ∀S',Sub S S'→E "NoTurning" S') (hc:uZ ts=false→(v5 ts).isSome=true→ ∀S',Sub S S'→E "Clash" S')
  (hq:uZ ts=false→v5 ts=none→ ∀S' k,Sub S S'→S k=none→S' k=aa (.bx (ts.map nN))→Q (.ref k) S'):C8 (r+1) [.ref a] S Q E:=by
 rw[C8];ext;rw[nT ha,aD];have hn:=ok.n;by_cases h8:8<ts.length
 ·rw[if_pos `l,ya];ext;refine⟨`d,hb ?_ _ .refl⟩;unfold uZ;rw[decide_eq_true h8];rfl
 ·rw[if_neg `l];refine⟨bc _,λb hb'=>?_⟩;have fa:=keep (x:=Ob.bx []) ha hb';have sb:Sub S (bz S b (Ob.bx [])):= .bz .refl hb';have fb:bz S b (Ob.bx []) b=aa (.bx (([]:List ah).map W.str)):=nJ;have hab:a≠b:=by rintro rfl;rw[ha]at hb';cases hb'
  rw[nT fa];right
  have e8:decide (8<ts.length)=false:=decide_eq_false h8;refine Ib (S0:=S) `l hab hb' ts [] sb fa fb `s (by simp;lia) ok.t ok.l ok.r (λz σ S' s'=>hb ?_ S' s') λz x2 S' s' fa'=>?_
  ·unfold uZ;rw[e8,fN];rw[aQ]at z;cases ea:ts.all uW with
   |false=>simp
   |true=>
    rw[ea]at z;have:¬(ts.map (·.1)).Nodup:=λy=>z ⟨y,rfl⟩;rw[decide_eq_false this];rfl
  ·rw[aQ]at z;have eb:uZ ts=false:=by
    unfold uZ;rw[e8,fN,decide_eq_true z.1,z.2];rfl
   ext;refine Vc fa' (λt ht=>by have:=ok.l t ht;lia) `l `l ?_
   cases ec:v5 ts with
   |none=>
    simp only[yZ];ext;rw[nT fa'];intro k hk;have hk':S k=none:=by
     cases e:S k with
     |none=>rfl
     |some o=>rw[s' k o e]at hk;cases hk
    exact⟨_, .refl,hq eb ec _ k (s'.trans (.bz .refl hk)) hk' nJ⟩
   |some w=>
    obtain⟨k,_,ek⟩:=gK ec;obtain⟨x,_,ex⟩:=gK ek;obtain⟨j,_,ej⟩:=gK ex;have h2:=hc eb (by rw[ec];rfl) S' s';unfold yo at ej;split at ej
    ·cases ej;simp only[yZ];ext;rw[ya];ext;exact⟨`d,h2⟩
    ·cases ej
theorem Cw:∀(d:Nat) {t:Tr}{r:Nat}{S:gY}{Q:WK}{E:ah→gY→Prop},t.depth≤d→d≤r→pN t→t.au≤10000→Q (.str t.txt) S→uG (r+1) [gS t] S Q E
 |0,t,r,S,Q,E,hd,hr,hp,hw,h=>by have:=sj t;lia
 |d+1, .bl n,r,S,Q,E,hd,hr,hp,hw,h=>by
  cases hp with
  |bl h0 h1=>
  rw[uG];simp only[gS];left;rw[Xp];have:=L7 h0 h1;rw[De]at h;refine⟨Zl h0 h1,?_⟩
  try left
  exact⟨nL (by rw[sl1];lia),_, .refl,h⟩
 |d+1, .nd s ts,r,S,Q,E,hd,hr,hp,hw,h=>by
  have hl:=xY hp;cases hp with
  |nd hs ht=>
  simp only[Tr.depth]at hd;simp only[Tr.au]at hw hl;have hk:=qJ ts;rw[uG];simp only[gS];left;by_cases e:ts=[]
  ·subst e;rw[yS]at h;simp only[af];left;exact⟨_, .refl,h⟩
  ·have hne:ts.length≠0:=λz=>e (fZ z);rw[if_neg (by rw[p9];simp;lia)];refine⟨nL (by rw[sl2];lia),?_⟩;rw[qr];refine qw (λσ=>∃x,σ=[x]) gS (λt=> .str t.txt) trivial ts [] _ ⟨none,rfl⟩ (by simp;lia) (λx hx σ R hI hR=>?_) ?_
   ·obtain⟨y,rfl⟩:=hI;have hdx:=so hx;have hwx:=qg hx;have:=sj x;right
    simp only[MV];left;exact Cw d (t:=x) (r:=r) `l `l (ht x hx) `l (hR _ _ ⟨_,rfl⟩ .refl)
   ·rw[aQ];rw[LX];have hs:=MU ts ht;rw[zc e]at h hl;rw[N3 ts e]at h hl;simp only[cH,sl2,DQ]at hl;dsimp only;simp only[cH,sl2,Hx,DQ,aD];refine⟨`l,nL `l,nL `l,_, .refl,?_⟩;simpa only[mX]using h
theorem IS:∀{ts:List Tr}{m:ah},m.length≤1→(∀t∈ts,t.txt.length+2≤10*t.au)→(txts m ts).length+ts.length≤10*nI ts
 | [],m,_,_=>by rw[v_];exact bc _
 |t::ts,m,hm,h=>by
  have h1:=h t aM;have h2:=IS (ts:=ts) (m:=aq ",") (by rw[Hx];decide) λu hu=>h u (aI _ hu);rw[tP,cH,cH,ur,aS];lia
def zyk{t:Tr}(h:t.hd λs=>s.length≤8):t.txt.length+2≤10*t.au:=by
 have go:∀(n:Nat) (t:Tr),t.au≤n→(t.hd λs=>s.length≤8)→t.txt.length+2≤10*t.au:=by
  intro n
  induction n with
  |zero=>intro t hn _;have:=uc t;lia
  |succ n ih=>
   intro t hn h;cases t with
   |bl=>rw[Tr.hd]at h;exact h.elim
   |nd s ts=>
    rw[Tr.hd]at h;rw[Tr.au]at hn⊢;by_cases e:ts=[]
    ·subst e;rw[yS];lia
    ·have:=IS (ts:=ts) (m:=aq "(") (by rw[sl2];decide) λu hu=>ih u (by have:=qg hu;lia) (A3 h.2 hu);have hk:ts.length≠0:=λz=>e (fZ z);rw[zc e,cH,cH,DQ];lia
 exact go _ t (aE _) h
theorem LC:∀(n:Nat) {t:Tr},t.au≤n→(t.hd λs=>qm s∨qR s)→sJ false t∧pN t
 |0,t,hn,h=>by have:=uc t;lia
 |n+1, .bl _,hn,h=>by rw[Tr.hd]at h;exact h.elim
 |n+1, .nd s ts,hn,h=>by
  rw[Tr.hd]at h;rw[Tr.au]at hn;have k:=λu hu=>LC n (t:=u) (by have:=qg hu;lia) (A3 h.2 hu);exact⟨.nd (h.1.elim .inl λz=> .inr ⟨rfl,z⟩) λu hu=>(k u hu).1, .nd (h.1.elim (λz=>Bn z) λz=>xw z) λu hu=>(k u hu).2⟩
section
variable {w0 w1 w2 w3 w4 w5:ah}{tt:List ah}{B:List Tn}{S:gY}{Q:WK}{E:ah→gY→Prop}{X u:Tr}{xs:List Tr}{l:aj}{r:Nat}
structure sT (u:Tr):Prop where
  w:sJ false u
  p:pN u
  g:u.au≤400
  d:u.depth≤40
  s:u.aF=true
  l:u.txt.length≤4000
def oR.rdw (c:oR w0 w1 w2 w3 w4 w5 tt B) (hu:Wy [w0,w1,w2,w3,w4,w5] B u) (hs:(ak B u).aF=true):sT u:=by
 obtain⟨f1,f2,f3,f4⟩:=c.K.fitw hu hs;have h:u.hd λs=>qm s∨qR s:=vU (λs z=>by
  obtain z |⟨t,ht,rfl⟩:=z
  ·exact .inl (c.G.ok s z)
  ·exact .inr (c.T.ok _ (c.b.mem ht))) _ hu.hd
 obtain⟨k1,k2⟩:=LC _ (aE _) h;have k3:=zyk (t:=u) (vU (λs z=>z.elim Bn xw) _ h);exact⟨k1,k2,f2,f1,yW f2 f1,`l⟩
def sT.ok (h:sT u) (hr:96≤r) (k:∀S',Sub S S'→Q (gS u) S'):yY r [.str u.txt] S Q E:=by
 right
 exact TB h.w h.g h.d h.s h.l `l k
def sT.tx (h:sT u) (hr:41≤r) (k:Q (.str u.txt) S):uG r [gS u] S Q E:=by
 right
 have:=h.d;have:=h.g;exact Cw 40 h.d `l h.p `l k
def yg (hX:sT X) (hx:∀x∈xs,sT x) (fl:S l=aa (.bx (xs.map gS))) (hn:xs.length≤900) (hr:96≤r) (k:∀S' m,Sub S S'→S m=none→S' m=aa (.bx (xs.map gS))→Q (.bH [gS X, .ref m]) S'):u7 (r+1) [.bH [gS X, .ref l]] S Q E:=by
 rw[u7];ext
 try ext
 refine hX.tx `l (hX.ok `l λS1 s1=>?_)
 try ext
 rw[show ow [gS X,W.ref l] 1=aa (.ref l) from rfl];dsimp only;rw[nT (s1 _ _ fl)];refine qw (λσ=>∃y,σ=[y]) gS gS (s1 _ _ fl) xs [] _ ⟨none,rfl⟩ (by simp;lia) (λx hm σ R hI hR=>?_) ?_
 ·obtain⟨y,rfl⟩:=hI;simp only[Og];ext;refine(hx x hm).tx `l ((hx x hm).ok `l λS3 s3=>hR _ _ ⟨_,rfl⟩ s3)
 ·rw[aQ];intro m hm
  try ext
  exact⟨`d,_, .refl,k _ m (s1.trans (.bz .refl hm)) (Cj s1 hm) nJ⟩
end
def oR.wayT (c:oR w0 w1 w2 w3 w4 w5 tt B) (hu:Wy [w0,w1,w2,w3,w4,w5] B u):u.way B=true:=by
 obtain⟨p,hp,rfl,_⟩:=c.K.plan1 hu;exact Lp c.K.b hp
def oR.ok_isw{E:ah→gY→Prop}(c:oR w0 w1 w2 w3 w4 w5 tt B) (hu:Wy [w0,w1,w2,w3,w4,w5] B u) (hs:(ak B u).aF=true) (ha:S a=aa (.bx (B.map nN))) (hr:70≤r) (h:Q (.bl true) S):yu r [.ref a,gS u] S Q E:=by
 obtain⟨f1,f2,f3,f4⟩:=c.K.fitw hu hs;right
 refine L2.LP ha (λt ht=>?_) 40 f1 `l (vU (λs z=>?_) _ hu.hd) `l (by rw[c.wayT hu];exact h)
 ·have L:=c.bk.lf t ht;have:=L.dp;have:=L.wt;have:=L.nb;exact⟨`l,`l⟩
 ·obtain z |⟨t,ht,rfl⟩:=z
  ·exact bI (Bn (c.G.ok s z)) `d
  ·exact bI (xw (c.T.ok _ (c.b.mem ht))) `d
def oR.ok_mk{E:ah→gY→Prop}(c:oR w0 w1 w2 w3 w4 w5 tt B) (hu:Wy [w0,w1,w2,w3,w4,w5] B u) (hs:(ak B u).aF=true) (ha:S a=aa (.bx (B.map nN))) (hn:n=1∨n=2) (hr:62≤r) (h:Q (gS (if n=1 then ak B u else bO B u)) S):uN r [.ref a,gS u, .int n] S Q E:=by
 obtain⟨f1,f2,f3,f4⟩:=c.K.fitw hu hs;right
 obtain rfl |rfl:=hn
 ·exact B1 c.K.b.nd ha (.inl rfl) c.K.b.s1 40 f1 `l f3 `l h
 ·exact B1 c.K.b.nd ha (.inr rfl) c.K.b.s2 40 f1 `l f3 `l h
theorem Le{G:gY→Prop}(c:oR w0 w1 w2 w3 w4 w5 tt B) (hG:G S) (ha:S a=aa (.bx (B.map nN))) (hr:70≤r):∀(zs:List Tr) {t:Tr}{y1 y3:Option W},o9 [w0,w1,w2,w3,w4,w5] B t zs→t.aF=true→(∀x∈zs,(bO B x).aF=true)→(∀y3,D.nx [aa (.ref a),y1,aa (gS (oO B t zs)),y3] S)→
  nU (wGN 3) (Fd r nG) E D G (zs.map gS) [aa (.ref a),y1,aa (gS t),y3] S
 | [],t,y1,y3,_,_,_,h=>h y3
 |z::zs,t,y1,y3,⟨hz,ez,hr'⟩,hs,hg,h=>by
  have hs':(ak B z).aF=true:=by rw[ez];exact hs
  obtain⟨b1,b2⟩:=w9 hs;rw[aG];refine rY λF hF=>?_;rw[uP,Fd];ext;refine c.ok_isw hz hs' ha `l ?_
  try ext
  refine c.ok_mk hz hs' ha (.inl rfl) `l ?_;rw[if_pos rfl,ez,G7 `l]
  try ext
  refine c.ok_mk hz hs' ha (.inr rfl) `l ?_;rw[if_neg `d];exact hF _ _ _ .refl hG (Le c hG ha hr zs hr' (hg z aM) (λx hx=>hg x (aI _ hx)) h)
def oR.ok_lend{E:ah→gY→Prop}(c:oR w0 w1 w2 w3 w4 w5 tt B) (ha:S a=aa (.bx (B.map nN))) (hq:S q=aa (.bx (zs.map gS))) (hz:o9 [w0,w1,w2,w3,w4,w5] B X zs) (hs:X.aF=true) (hg:∀x∈zs,(bO B x).aF=true) (hr:70≤r) (h:Q (gS (oO B X zs)) S):AH (r+1) [.ref a, .bH [gS X, .ref q],gS X] S Q E:=by
 obtain⟨b1,b2⟩:=w9 hs;rw[AH];ext;rw[show ow [gS X,W.ref q] 1=aa (.ref q) from rfl,G7 `l]
 try ext
 rw[nT hq]
 try ext
 try rw[nT hq]
 refine Le c hq ha hr zs hz hs hg λy3=>?_
 try ext
 exact⟨_, .refl,h⟩
def ZP (hL:L∈bu n h c d):L.isBl=false∧L.nums=tM L.nb∧L.hb λs=>s=h∨s=c∨s=d:=by
 apply zP (P:=λL _=>L.isBl=false∧L.nums=tM L.nb∧L.hb λs=>s=h∨s=c∨s=d) (us:=bf L.nb (.bl 0)) hL e_<;>intros<;>exact⟨rfl,rfl,by simp [Tr.hb,pH]⟩
def V2 (hL:L∈bu n h c d):∀y∈L.plt [],y=([],L)∨y.2.isBl=true∨ ∃s ts,y.2= .nd s ts∧(s=c∨s=d):=by
 apply zP (P:=λL _=>∀y∈L.plt [],y=([],L)∨y.2.isBl=true∨ ∃s ts,y.2= .nd s ts∧(s=c∨s=d)) (us:=bf L.nb (.bl 0)) hL e_<;>intros<;>rename_i hy<;>simp only[Tr.plt,qi,bY,aQ,bC,az,aZ,or_false]at hy<;>(repeat' (rcases hy with rfl |hy))<;>(try subst hy)<;>first |exact .inl rfl |exact .inr (.inl rfl) |exact .inr (.inr ⟨_,_,rfl, .inl rfl⟩) |exact .inr (.inr ⟨_,_,rfl, .inr rfl⟩)
def Qk (n:Nat) (h c d:ah):(bu n h c d).Pairwise λa b=>a.mee b=false:=by
 have two:∀{x y:Tr},x.mee y=false→ [x,y].Pairwise λa b=>a.mee b=false:=λ{x y} e=> .cons (λb hb=>by rw[bw]at hb;subst hb;exact e) (mQ ..)
 have z:((0:Nat) == 1)=false:=rfl;unfold bu;split<;>first |exact mQ .. | (refine two ?_;simp only[Tr.mee,tu,aS,dA,ca,jx,z,eO,iP,Nat.reduceBEq])
def IB (h:s≠z):(Tr.nd s ts).mee (.nd z us)=false:=by
 rw[Tr.mee,beq_eq_false_iff_ne.mpr h];rfl
def oR.apart (c:oR w0 w1 w2 w3 w4 w5 tt B):(B.map λt=>t.2.1).Pairwise λa b=>a.mee b=false:=by
 obtain⟨n,m,e⟩:=c.b.lf;rw[e,List.pairwise_append];refine⟨Qk ..,Qk ..,λa ha b hb=>?_⟩;obtain⟨x,rfl⟩:=wj ha;obtain⟨y,rfl⟩:=wj hb;exact IB (c.G.n0 w1 `s)
def oR.noClash (c:oR w0 w1 w2 w3 w4 w5 tt B):v5 B=none:=by
 unfold v5;rw[gM];intro k hk;unfold xW;rw[gM];intro y hy;unfold Gf;rw[gM];intro j hj;unfold yo;rw[if_neg];intro z;rw[eV]at hk hj;rw[bV,bV,eZ,eZ]at z;obtain⟨z1,z2,z3⟩:=z;obtain⟨t,ht,et,e1⟩:=FB hk;obtain⟨u,hu,eu,e2⟩:=FB hj;rw[e1]at hy;rw[e2]at z3;have hd:∀{t:Tn},t∈B→ ∃n h ls,t.2.1= .nd h ls∧t.2.1∈bu n h w2 w3∧(h=w0∨h=w1):=λ{t} ht=>by
  obtain⟨n,z |z⟩:=c.b.mem_lefts ht
  ·obtain⟨ls,e⟩:=wj z;exact⟨n,w0,ls,e,z, .inl rfl⟩
  ·obtain⟨ls,e⟩:=wj z;exact⟨n,w1,ls,e,z, .inr rfl⟩
 obtain⟨n,h,ls,eL,mL,_⟩:=hd ht;obtain⟨m,h',ls',eL',mL',k'⟩:=hd hu;obtain rfl |q |⟨s,ts,q,q'⟩:=V2 mL y hy
 ·have ne:k≠j:=λq=>by subst q;simp at z2
  have P:=c.apart;rw[List.pairwise_iff_getElem]at P;have a1:(B.map λt=>t.2.1)[k]'(by rw[aD];exact hk)=t.2.1:=by rw[ml];congr 2;exact aL ((aU hk).symm.trans et)
  have a2:(B.map λt=>t.2.1)[j]'(by rw[aD];exact hj)=u.2.1:=by rw[ml];congr 2;exact aL ((aU hj).symm.trans eu)
  obtain q |q:=Nat.lt_or_gt_of_ne ne
  ·have:=P k j (by rw[aD];exact hk) (by rw[aD];exact hj) q;rw[a1,a2]at this;rw[this]at z3;cases z3
  ·have:=P j k (by rw[aD];exact hj) (by rw[aD];exact hk) q;rw[a1,a2,JC]at this;rw[this]at z3;cases z3
 ·rw[q]at z1;cases z1
 ·rw[q,eL',IB]at z3
  ·cases z3
  ·rcases k' with rfl |rfl<;>obtain rfl |rfl:=q'
   ·exact(c.G.n0 _ `s).symm
   ·exact(c.G.n0 _ `s).symm
   ·exact(c.G.n1 _ `s).symm
   ·exact(c.G.n1 _ `s).symm
def Qv (hm:m≤3):∀t∈p5 w0 w1 w2 w3 w4 w5 m g,(t.nums.all λn=>(tM m).contains n)=true:=by
 intro t ht;rcases m with _ |_ |_ |_ |m<;>cases g
 all_goals first
  |lia
  | (simp only[p5,bY,aQ,if_true,if_false,cA,az,aZ,or_false]at ht;(repeat' (rcases ht with rfl |ht))<;>(try subst ht)<;>rfl)
def qf.bad (h:qf g w0 w1 w2 w3 w4 w5 tt B):uZ B=false:=by
 have l:=h.c.b.len;unfold uZ;rw[decide_eq_false `l,decide_eq_true (h.c.b.nodup h.c.T),fN];have:B.all uW=true:=cJ.mpr λt ht=>by
  have L:=h.c.bk.lf t ht;have:=L.wt;have:=L.nb;have R:=h.c.b.ri t ht;have:=R.wt;obtain⟨n,z⟩:∃n,∃hd,t.2.1∈bu n hd w2 w3:=by
   obtain⟨n,z |z⟩:=h.c.b.mem_lefts ht
   ·exact⟨n,_,z⟩
   ·exact⟨n,_,z⟩
  obtain⟨hd,z⟩:=z;obtain⟨z1,z2,_⟩:=ZP z;unfold uW qC;have e1:=(yd (h.c.T.ok _ (h.c.b.mem ht))).2.1;rw[show t.1.cps.toList=cl t.1 from rfl,e1,z1,z2,decide_eq_true (show t.2.1.au≤12 by lia),decide_eq_true (show t.2.2.au≤12 by lia),Qv `l _ (h.ri t ht)]
  have:(tM t.2.1.nb).length=t.2.1.nb:=by unfold tM;simp
  rw[this];simp
 rw[this];rfl
def qf.ts (h:qf g w0 w1 w2 w3 w4 w5 tt B):BG B:=by
 have l:=h.c.b.len;refine⟨`l,λt ht=>?_,λt ht=>?_,λt ht=>?_⟩
 ·exact bI (xw (h.c.T.ok _ (h.c.b.mem ht))) `d
 ·have L:=h.c.bk.lf t ht;have:=L.wt;have:=L.nb;lia
 ·exact bI (h.c.b.ri t ht).wt `d
def Y1 (h:∀(S':gY) (aw at' ab:aj) (w0 w1 w2 w3 w4 w5:ah) (tt:List ah) (B:List Tn) (g:Bool),qf g w0 w1 w2 w3 w4 w5 tt B→S' aw=aa (.bx (re w0 w1 w2 w3 w4 w5))→S' ab=aa (.bx (B.map nN))→T E D (aa (.b8 ns)::aa (.ref aw)::aa (.ref at')::aa (.bl g)::aa (.ref ab)::τ) S') :
  GA 199 (Fs 199 (FV 199 (E1 199 T))) E D (aa (.b8 ns)::x1::x2::x3::x4::τ) S:=by
 unfold GA Fs FV E1;ext;refine v9 `d λc0=>v9 `d λc1=>Nz λaw ws hw0 hws=>?_;obtain⟨w0,w1,w2,w3,w4,w5,rfl,G⟩:=Y8 hws;have fw:bz S aw (Ob.bx ([w0,w1,w2,w3,w4,w5].map W.str)) aw=aa (.bx (re w0 w1 w2 w3 w4 w5)):=nJ;generalize bz S aw (Ob.bx ([w0,w1,w2,w3,w4,w5].map W.str))=S1 at fw⊢;refine v9 `d λc2=>v9 `d λc3=>Nz λat' tt ht0 htt=>?_;have ft:bz S1 at' (Ob.bx (tt.map W.str)) at'=aa (.bx (tt.map W.str)):=nJ;replace fw:=keep (x:=Ob.bx (tt.map W.str)) fw ht0;generalize bz S1 at' (Ob.bx (tt.map W.str))=S2 at fw ft⊢;have T':=Zs htt;refine v9 `d λc4=>?_
 try ext
 refine⟨`d,?_⟩
 try ext
 generalize (c4 % 2 == 1)=g;refine zuz (r:=192) T'.len `d fw ft λab B n m hb0 e1 e2 e3=>?_;have nb:∀t∈B,t.2.1.nb≤3:=λt ht=>by
  have h1:t.2.1∈bu n w0 w2 w3++bu m w1 w2 w3:=by rw[←e1];exact gj ht
  obtain z |z:=bv.mp h1
  ·exact(Fi _ _ _ _ _ z).2.2
  ·exact(Fi _ _ _ _ _ z).2.2
 have b:nV w0 w1 w2 w3 w4 w5 tt B:=⟨⟨n,m,e1⟩,e2,λt ht=>Y2 (nb t ht) g _ (e3 t ht)⟩;exact h _ aw at' ab w0 w1 w2 w3 w4 w5 tt B g ⟨⟨b,T',G⟩,e3⟩ (keep (x:=Ob.bx (B.map nN)) fw hb0) nJ
def Q8 (d:qf g w0 w1 w2 w3 w4 w5 tt B) (fw:S aw=aa (.bx (re w0 w1 w2 w3 w4 w5))) (fb:S ab=aa (.bx (B.map nN))) (h:∀S' X,Cl w0 w1 w2 w3 w4 w5 B X→S' ab=aa (.bx (B.map nN))→T E D [aa (.b8 ns),aa (.ref aw),a2,a3,aa (.ref ab),aa (gS X),a6,a7,a8,a9,a10,a11,a12,a13,a14] S') :
  Gz 199 T E D [aa (.b8 ns),aa (.ref aw),a2,a3,aa (.ref ab),a5,a6,a7,a8,a9,a10,a11,a12,a13,a14] S:=by
 have bk:=d.c.bk;have ne:B≠ []:=by
  have h:=d.c.b.len;rintro rfl;simp at h
 rw[Gz];ext;intro ac hc;refine UU (r:=189) (m:=7) `d nJ (keep fb hc) (keep fw hc) bk ne λp v S' sub pa po pw pn=>?_;have hdp:=Pw p;have fb:=sub _ _ (keep fb hc);obtain⟨h1,h2,h3,h4,h5⟩:=d.c.plh po;have hz:∀x:Int,0≤x→x<8→oq 8 x=0:=λx h0 h1=>by
  unfold oq;have:x / 8=0:=Int.ediv_eq_zero_of_lt h0 h1;rw[this];rfl
 have ez:p.ev B (oq 8)=p.ev B zr:=vA po λx h0 h1=>by rw[hz x h0 h1];rfl
 have wy1:=d.c.K.wy (c:=oq 1) (po.up λx hx=>aI _ (aI _ hx));have es:ak B (p.ev B (oq 1))=p.ev B (oq 8):=by
  show(p.ev B (oq 1)).mk B (λt=>t.2.1)=_;rw[wm bk po];exact vA po λx h0 h1=>by
   rw[hz x h0 h1];have:=uK 1 x;unfold vg;split<;>lia
 have sh:Sh [w0,w1,w2,w3,w4,w5] B (p.ev B (oq 8)):=by rw[←es];exact Sh.of d.c.K wy1
 rw[←ez]at h2 h4;have pw2:(p.wt - p.nt+7)*2 ^ p.nt≤22*16:=Nat.mul_le_mul `l (Nat.pow_le_pow_right `d pn);exact Jn (r:=198) `d fb bk 23 `l `l pa po `l (h S' _ ⟨sh,`l,`l⟩ fb)
def zGF (d:qf g w0 w1 w2 w3 w4 w5 tt B) (cl:Cl w0 w1 w2 w3 w4 w5 B X) (fb:S ab=aa (.bx (B.map nN))) (h:∀S' l6 l7 xs os,tL g w0 w1 w2 w3 w4 w5 B X xs→tL g w0 w1 w2 w3 w4 w5 B X os→xs.length≤3→os.length≤3→S' ab=aa (.bx (B.map nN))→S' l6=aa (.bx (xs.map gS))→S' l7=aa (.bx (os.map gS))→T E D [aa (.b8 ns),a1,a2,aa (.bl g),aa (.ref ab),aa (gS X),aa (.bH [gS X, .ref l6]),aa (.bH [gS X, .ref l7]),a8,a9,a10,a11,a12,a13,a14] S') :
  Hn 199 (EN 199 T) E D [aa (.b8 ns),a1,a2,aa (.bl g),aa (.ref ab),aa (gS X),a6,a7,a8,a9,a10,a11,a12,a13,a14] S:=by
 have go:∀{S:gY}{k:Int}{Q:WK}{E:ah→gY→Prop},S ab=aa (.bx (B.map nN))→0≤k→(∀S' l xs,Sub S S'→tL g w0 w1 w2 w3 w4 w5 B X xs→xs.length≤3→S' l=aa (.bx (xs.map gS))→Q (.bH [gS X, .ref l]) S')→yL 199 [.b8 ns, .ref ab,gS X, .int k, .int (3 - 2*(if g then 1 else 0))] S Q E:=by
  intro S k Q E fb hk hq;have e:(3 - 2*(if g then 1 else 0):Int)=((if g then 1 else 3:Nat):Int):=by cases g<;>rfl
  rw[e];have e3:(if g then 1 else 3:Nat)≤3:=by split<;>decide
  exact XE (r:=198) d.c (d.rdI cl) fb e3 hk `d λS' l xs sb i n fl=>hq S' l xs sb i `l fl
 unfold Hn EN;ext;have cm:qO 2 (if g=true then 1 else 0):= .inl ⟨`d,`d⟩
 refine⟨cm,go fb `d λS1 l6 xs s1 i1 n1 f6=>⟨cm,go (s1 _ _ fb) `d λS2 l7 os s2 i2 n2 f7=>?_⟩⟩;exact h S2 l6 l7 xs os i1 i2 n1 n2 (s2 _ _ (s1 _ _ fb)) (s2 _ _ f6) f7
noncomputable def CC (t:Tn):ah:=t.1++aq ": " ++t.2.1.txt++aq " > " ++t.2.2.txt
structure VR (t:Tn):Prop where
  ti:qR t.1
  w1:sJ true t.2.1
  w2:sJ true t.2.2
  p1:pN t.2.1
  p2:pN t.2.2
  g1:t.2.1.au≤6
  g2:t.2.2.au≤7
theorem ES{P:ah→Prop}(hP:∀s,P s→qm s) (hm:m≤3):∀(n:Nat) {t:Tr},t.au≤n→t.hb P→t.a_ m→sJ true t∧pN t
 |0,t,hn,_,_=>by have:=uc t;lia
 |n+1, .bl i,hn,h,f=>by
  rw[Tr.a_]at f;exact⟨.bl rfl `l `l, .bl `l `l⟩
 |n+1, .nd s ts,hn,h,f=>by
  rw[Tr.hb]at h;rw[Tr.a_]at f;rw[Tr.au]at hn;have k:=λu (hu:u∈ts)=>ES hP hm n (t:=u) (by have:=qg hu;lia) (MD h.2 hu) (Au f hu);exact⟨.nd (.inl (hP s h.1)) λu hu=>(k u hu).1, .nd (Bn (hP s h.1)) λu hu=>(k u hu).2⟩
def qf.rdt (h:qf g w0 w1 w2 w3 w4 w5 tt B) (ht:t∈B):VR t:=by
 have L:=h.c.b.left (P:=qm) (h.c.G.ok _ `s) (h.c.G.ok _ `s) (h.c.G.ok _ `s) (h.c.G.ok _ `s) ht;have R:=h.c.b.ri t ht;have:=L.nb;have:=L.wt;obtain⟨k1,k2⟩:=ES (λ_ z=>z) L.nb _ (aE _) L.hb L.a_;obtain⟨k3,k4⟩:=ES (λ_ z=>z) L.nb _ (aE _) (R.hb (P:=qm) h.c.G.ok) R.a_;exact⟨h.c.T.ok _ (h.c.b.mem ht),k1,k3,k2,k4,`l,R.wt⟩
def VZ (d:qf g w0 w1 w2 w3 w4 w5 tt B) (fb:S ab=aa (.bx (B.map nN))) (h:∀S' l8,Sub S S'→S' l8=aa (.bx (B.map λt=> .str (CC t)))→T E D [a0,a1,a2,a3,aa (.ref ab),a5,a6,a7,aa (.ref l8),a9,a10,a11,a12,a13,a14] S') :
  Gj 199 T E D [a0,a1,a2,a3,aa (.ref ab),a5,a6,a7,a8,a9,a10,a11,a12,a13,a14] S:=by
 have hn:=d.c.b.len;rw[Gj];ext;rw[nT fb];refine qw (λσ=>∃y,σ=[y]) nN (λt=> .str (CC t)) fb B [] _ ⟨none,rfl⟩ (by simp;lia) (λx hm σ R hI hR=>?_) ?_
 ·obtain⟨y,rfl⟩:=hI;have k:=d.rdt hm;have d1:=ut x.2.1;have d2:=ut x.2.2;have:=k.g1;have:=k.g2;have l1:=xY k.p1;have l2:=xY k.p2;have l3:=xw k.ti;simp only[Ls,nN];ext;refine⟨nL (by rw[N6];lia),?_⟩;rw[show ow [W.str x.1,gS x.2.1,gS x.2.2] 1=aa (gS x.2.1) from rfl];dsimp only;refine Cw (r:=198) 6 `l `d k.p1 `l ?_;ext;have e1:(aq ": ").length=2:=N6;have e2:(aq " > ").length=3:=ZS;simp only[cH,e1,e2];refine⟨nL `l,nL `l,?_⟩;rw[show ow [W.str x.1,gS x.2.1,gS x.2.2] 2=aa (gS x.2.2) from rfl];dsimp only;refine Cw (r:=198) 7 `l `d k.p2 `l ?_
  try ext
  simp only[cH,e1,e2];exact⟨nL `l,hR _ _ ⟨_,rfl⟩ .refl⟩
 ·rw[aQ];intro l8 h8;exact h _ l8 (.bz .refl h8) nJ
def Ux (d:qf g w0 w1 w2 w3 w4 w5 tt B) (f8:S l8=aa (.bx (B.map λt=> .str (CC t)))) (h:∀S' l9,Sub S S'→S' l9=aa (.bx (B.map nN))→T E D [a0,a1,a2,a3,a4,a5,a6,a7,aa (.ref l8),aa (.ref l9),a10,a11,a12,a13,a14] S') :
  F3 199 T E D [a0,a1,a2,a3,a4,a5,a6,a7,aa (.ref l8),a9,a10,a11,a12,a13,a14] S:=by
 have hn:=d.c.b.len;rw[F3];ext;rw[nT f8];refine qw (λσ=>∃y,σ=[y]) (λt=> .str (CC t)) nN f8 B [] _ ⟨none,rfl⟩ (by simp;lia) (λx hm σ R hI hR=>?_) ?_
 ·obtain⟨y,rfl⟩:=hI;have k:=d.rdt hm;have d1:=ut x.2.1;have d2:=ut x.2.2;have:=k.g1;have:=k.g2;have l1:=xY k.p1;have l2:=xY k.p2;simp only[Im];ext;exact zvO (r:=198) k.ti k.w1 k.w2 ⟨`l,`l,yW `l `l⟩ ⟨`l,`l,yW `l `l⟩ `l `d λS' sb=>hR _ _ ⟨_,rfl⟩ sb
 ·rw[aQ];intro lt hlt
  try ext
  refine Ul (r:=198) nJ d.ts `d (λz=>?_) (λ_ z=>?_) λ_ _ S' k sb _ fk=>?_
  ·rw[d.bad]at z;cases z
  ·rw[d.c.noClash]at z;cases z
  ·exact h S' k (Sub.trans (.bz .refl hlt) sb) fk
def ID{S:gY}{l6:aj}{X:Tr}{xs:List Tr}(hX:sT X) (hx:∀x∈xs,sT x) (fm:S m=aa (.bx (xs.map gS))) (fl:S l6=aa (.bx (xs.map gS))):oH S 60 (.bH [gS X, .ref m]) (.bH [gS X, .ref l6])=aa true:=by
 have:=hX.d;rw[D5,pA,pA,pA,xF 59 _ _ `l,AC,RE (n:=58) (λx hm=>by have:=(hx x hm).d;lia) fm fl]
 rfl
def zDn{S:gY}{ab l6 l7 l9:aj}{w0 w1 w2 w3 w4 w5:ah}{tt:List ah}{B:List Tn}{E:WX}{D:nQ}{T:WS}{X:Tr}{xs os:List Tr}{g:Bool}{a0 a1 a2 a3 a5 a8 a10 a11 a12 a13 a14:Option W}(d:qf g w0 w1 w2 w3 w4 w5 tt B) (hX:sT X) (hx:∀x∈xs,sT x) (ho:∀x∈os,sT x) (nx:xs.length≤3) (no:os.length≤3) (fb:S ab=aa (.bx (B.map nN))) (f9:S l9=aa (.bx (B.map nN))) (f6:S l6=aa (.bx (xs.map gS))) (f7:S l7=aa (.bx (os.map gS))) (h:∀S',Sub S S'→T E D [a0,a1,a2,a3,aa (.ref ab),a5,aa (.bH [gS X, .ref l6]),aa (.bH [gS X, .ref l7]),a8,aa (.ref l9),a10,a11,a12,a13,a14] S') :
  GB 199 T E D [a0,a1,a2,a3,aa (.ref ab),a5,aa (.bH [gS X, .ref l6]),aa (.bH [gS X, .ref l7]),a8,aa (.ref l9),a10,a11,a12,a13,a14] S:=by
 have eb:oH S 60 (.ref l9) (.ref ab)=aa true:=Pg f9 fb (LW (n:=58) `d B λt ht=>by
  have k:=d.rdt ht;have:=ut t.2.1;have:=ut t.2.2;have:=k.g1;have:=k.g2;lia)
 rw[GB];ext;rw[eb]
 try ext
 refine yg (r:=198) hX hx f6 `l `d λS1 m s1 _ fm=>?_;rw[ID hX hx fm (s1 _ _ f6)]
 try ext
 refine yg (r:=198) hX ho (s1 _ _ f7) `l `d λS2 m' s2 _ fm'=>?_;rw[ID hX ho fm' (s2 _ _ (s1 _ _ f7))]
 try ext
 exact h S2 (s1.trans s2)
def Wq (h:∀l10,S l10=none→T E D [a0,a1,a2,a3,a4,aa u,a6,a7,a8,a9,aa (.ref l10),a11,a12,a13,a14] (bz S l10 (.bx [u,u]))) :
  Gy 199 T E D [a0,a1,a2,a3,a4,aa u,a6,a7,a8,a9,a10,a11,a12,a13,a14] S:=by
 rw[Gy];ext;exact⟨`d,λl hl=>h l hl⟩
theorem MC{G:gY→Prop}(c:oR w0 w1 w2 w3 w4 w5 tt B) (hG:∀o,G (bz S0 l10 o)) (ha:S0 ab=aa (.bx (B.map nN))) (na:ab≠l10) (hr:62≤r):∀(zs:List Tr) {t:Tr}{y11:Option W},o9 [w0,w1,w2,w3,w4,w5] B t zs→t.aF=true→(∀x∈zs,(bO B x).aF=true)→(∀y11,D.nx [a0,a1,a2,a3,aa (.ref ab),a5,a6,a7,a8,a9,aa (.ref l10),y11,a12,a13,a14] (bz S0 l10 (.bx [gS (oO B t zs),v])))→
  nU (wGN 11) (G_ r nG) E D G (zs.map gS) [a0,a1,a2,a3,aa (.ref ab),a5,a6,a7,a8,a9,aa (.ref l10),y11,a12,a13,a14] (bz S0 l10 (.bx [gS t,v]))
 | [],t,y11,_,_,_,h=>h y11
 |z::zs,t,y11,⟨hz,ez,hr'⟩,hs,hg,h=>by
  have hs':(ak B z).aF=true:=by rw[ez];exact hs
  rw[aG];refine rY λF hF=>?_;rw[uP,G_];ext;refine c.ok_mk hz hs' (by rw[oQ na];exact ha) (.inr rfl) `l ?_;rw[if_neg `d];simp only[M1];ext;refine⟨0,rfl,?_⟩;exact hF _ _ _ .refl (hG _) (MC c hG ha na hr zs hr' (hg z aM) (λx hx=>hg x (aI _ hx)) h)
theorem P4{G:gY→Prop}(c:oR w0 w1 w2 w3 w4 w5 tt B) (hG:∀o,G (bz S0 l10 o)) (ha:S0 ab=aa (.bx (B.map nN))) (na:ab≠l10) (hr:62≤r):∀(zs:List Tr) {t:Tr}{y11:Option W},o9 [w0,w1,w2,w3,w4,w5] B t zs→t.aF=true→(∀x∈zs,(bO B x).aF=true)→(∀y11,D.nx [a0,a1,a2,a3,aa (.ref ab),a5,a6,a7,a8,a9,aa (.ref l10),y11,a12,a13,a14] (bz S0 l10 (.bx [v,gS (oO B t zs)])))→
  nU (wGN 11) (FQ r nG) E D G (zs.map gS) [a0,a1,a2,a3,aa (.ref ab),a5,a6,a7,a8,a9,aa (.ref l10),y11,a12,a13,a14] (bz S0 l10 (.bx [v,gS t]))
 | [],t,y11,_,_,_,h=>h y11
 |z::zs,t,y11,⟨hz,ez,hr'⟩,hs,hg,h=>by
  have hs':(ak B z).aF=true:=by rw[ez];exact hs
  rw[aG];refine rY λF hF=>?_;rw[uP,FQ];ext;refine c.ok_mk hz hs' (by rw[oQ na];exact ha) (.inr rfl) `l ?_;rw[if_neg `d];simp only[M1];ext;refine⟨1,rfl,?_⟩;exact hF _ _ _ .refl (hG _) (P4 c hG ha na hr zs hr' (hg z aM) (λx hx=>hg x (aI _ hx)) h)
def Vi{S:gY}{ab l6 l7 l10:aj}{w0 w1 w2 w3 w4 w5:ah}{tt:List ah}{B:List Tn}{E:WX}{D:nQ}{T:WS}{X:Tr}{xs os:List Tr}{a0 a1 a2 a3 a5 a8 a9 a11 a12 a13 a14:Option W}(c:oR w0 w1 w2 w3 w4 w5 tt B) (rx:o9 [w0,w1,w2,w3,w4,w5] B X xs) (ro:o9 [w0,w1,w2,w3,w4,w5] B X os) (hs:X.aF=true) (gx:∀x∈xs,(bO B x).aF=true) (go:∀x∈os,(bO B x).aF=true) (h0:S l10=none) (fb:S ab=aa (.bx (B.map nN))) (f6:S l6=aa (.bx (xs.map gS))) (f7:S l7=aa (.bx (os.map gS)))
  (h:∀y11,T E D [a0,a1,a2,a3,aa (.ref ab),a5,aa (.bH [gS X, .ref l6]),aa (.bH [gS X, .ref l7]),a8,a9,aa (.ref l10),y11,a12,a13,a14] (bz S l10 (.bx [gS (oO B X xs),gS (oO B X os)]))) :
  ER 199 (E0 199 T) E D [a0,a1,a2,a3,aa (.ref ab),a5,aa (.bH [gS X, .ref l6]),aa (.bH [gS X, .ref l7]),a8,a9,aa (.ref l10),a11,a12,a13,a14] (bz S l10 (.bx [gS X,gS X])):=by
 have nb:ab≠l10:=yD fb h0;rw[ER,E0];ext;rw[show ow [gS X,W.ref l6] 1=aa (.ref l6) from rfl];dsimp only;rw[nT (keep f6 h0)];refine MC c (λo=>keep f6 h0) fb nb `d xs rx hs gx λy11=>?_
 try ext
 rw[show ow [gS X,W.ref l7] 1=aa (.ref l7) from rfl];dsimp only;rw[nT (keep f7 h0)];exact P4 c (λo=>keep f7 h0) fb nb `d os ro hs go λy11=>h y11
section
variable {S:gY}{ab l6 l7 l9 l10:aj}{w0 w1 w2 w3 w4 w5:ah}{tt:List ah}{B:List Tn}{E:WX}{D:nQ}{T:WS}{X:Tr}{xs os:List Tr}{g:Bool}{a0 a1 a2 a3 a5 a8 a11 a12 a13 a14:Option W}{r:Nat}
structure v0 (S:gY) (ab l6 l7 l9 l10:aj) (g:Bool) (w0 w1 w2 w3 w4 w5:ah) (tt:List ah) (B:List Tn) (X:Tr) (xs os:List Tr):Prop where
  d:qf g w0 w1 w2 w3 w4 w5 tt B
  cl:Cl w0 w1 w2 w3 w4 w5 B X
  ix:tL g w0 w1 w2 w3 w4 w5 B X xs
  io:tL g w0 w1 w2 w3 w4 w5 B X os
  nx:xs.length≤3
  no:os.length≤3
  fb:S ab=aa (.bx (B.map nN))
  f6:S l6=aa (.bx (xs.map gS))
  f7:S l7=aa (.bx (os.map gS))
  f9:S l9=aa (.bx (B.map nN))
  fe:S l10=aa (.bx [gS (oO B X xs),gS (oO B X os)])
def v0.sub (P:v0 S ab l6 l7 l9 l10 g w0 w1 w2 w3 w4 w5 tt B X xs os) (s:Sub S S'):v0 S' ab l6 l7 l9 l10 g w0 w1 w2 w3 w4 w5 tt B X xs os:=⟨P.d,P.cl,P.ix,P.io,P.nx,P.no,s _ _ P.fb,s _ _ P.f6,s _ _ P.f7,s _ _ P.f9,s _ _ P.fe⟩
def qf.rdws (d:qf g w0 w1 w2 w3 w4 w5 tt B) (cl:Cl w0 w1 w2 w3 w4 w5 B X) (i:tL g w0 w1 w2 w3 w4 w5 B X xs):sT X∧ ∀x∈xs,sT x:=by
 refine⟨d.c.rdw cl.sh.wy (by rw[cl.sh.q];exact cl.sm),λx hx=>?_⟩;obtain⟨h1,h2,_⟩:=d.ways cl i x hx;exact d.c.rdw h1 h2
def Ic{E:ah→gY→Prop}(d:qf g w0 w1 w2 w3 w4 w5 tt B) (cl:Cl w0 w1 w2 w3 w4 w5 B X) (ix:tL g w0 w1 w2 w3 w4 w5 B X xs) (io:tL g w0 w1 w2 w3 w4 w5 B X os) (nx:xs.length≤3) (no:os.length≤3) (f6:S l6=aa (.bx (xs.map gS))) (f7:S l7=aa (.bx (os.map gS))) (f9:S l9=aa (.bx (B.map nN))) (h:∀S' q,Sub S S'→S' q=aa (.bx ((pQ B xs os).map gS))→Q (.bH [gS (oO B X os), .ref q]) S'):yP 199 [.ref l9, .bH [gS X, .ref l6], .bH [gS X, .ref l7]] S Q E:=
 ziA (r:=198) d.c.K f9 f6 f7 ix.ro io.ro cl.sm `l `l `d (λz=>absurd rfl z) (λ_ z=>absurd (d.gg cl ix io) z) λ_ _ S' q sb _ fq=>h S' q sb fq
def v0.down (P:v0 S ab l6 l7 l9 l10 g w0 w1 w2 w3 w4 w5 tt B X xs os):o9 [w0,w1,w2,w3,w4,w5] B (oO B X os) (pQ B xs os)∧(∀x∈pQ B xs os,(bO B x).aF=true)∧(oO B X os).aF=true:=by
 have gg:=P.d.gg P.cl P.ix P.io;exact⟨Fc P.d.c.K xs os P.ix.ro P.io.ro,Fz P.d.c.K xs os P.ix.ro P.io.ro gg.ok gg.gx,(P.d.shE P.cl P.io).2⟩
def SG (P:v0 S ab l6 l7 l9 l10 g w0 w1 w2 w3 w4 w5 tt B X xs os) (h:∀S' q,v0 S' ab l6 l7 l9 l10 g w0 w1 w2 w3 w4 w5 tt B X xs os→T E D [a0,a1,a2,a3,aa (.ref ab),a5,aa (.bH [gS X, .ref l6]),aa (.bH [gS X, .ref l7]),a8,aa (.ref l9),aa (.ref l10),a11,aa q,aa (gS (oO B (oO B X os) (pQ B xs os))),a14] S') :
  Hq 199 (Ec 199 T) E D [a0,a1,a2,a3,aa (.ref ab),a5,aa (.bH [gS X, .ref l6]),aa (.bH [gS X, .ref l7]),a8,aa (.ref l9),aa (.ref l10),a11,a12,a13,a14] S:=by
 obtain⟨rX,rx⟩:=P.d.rdws P.cl P.ix;obtain⟨_,ro⟩:=P.d.rdws P.cl P.io;have nx:=P.nx;have no:=P.no;rw[Hq,Ec];ext;refine yg (r:=198) rX rx P.f6 `l `d λS1 m1 s1 _ fm1=>?_
 try ext
 refine yg (r:=198) rX ro (s1 _ _ P.f7) `l `d λS2 m2 s2 _ fm2=>?_
 try ext
 have P2:=P.sub (s1.trans s2);refine Ic P.d P.cl P.ix P.io nx no (s2 _ _ fm1) fm2 P2.f9 λS3 q s3 fq=>?_
 try ext
 have P3:=P2.sub s3;obtain⟨k1,k2,k3⟩:=P3.down;rw[nT P3.fe,show ow [gS (oO B X xs),gS (oO B X os)] 1=aa (gS (oO B X os)) from rfl]
 try dsimp only
 refine P.d.c.ok_lend (r:=198) P3.fb fq k1 k3 k2 `d ?_
 try ext
 exact h S3 _ P3
def T1 (P:v0 S ab l6 l7 l9 l10 g w0 w1 w2 w3 w4 w5 tt B X xs os) (h:∀S' q,T E D [a0,a1,a2,a3,aa (.ref ab),a5,aa (.bH [gS X, .ref l6]),aa (.bH [gS X, .ref l7]),a8,aa (.ref l9),aa (.ref l10),a11,aa q,a13,aa (gS (oO B (oO B X xs) (pQ B os xs)))] S') :
  Fb 199 (G3 199 T) E D [a0,a1,a2,a3,aa (.ref ab),a5,aa (.bH [gS X, .ref l6]),aa (.bH [gS X, .ref l7]),a8,aa (.ref l9),aa (.ref l10),a11,a12,a13,a14] S:=by
 obtain⟨rX,rx⟩:=P.d.rdws P.cl P.ix;obtain⟨_,ro⟩:=P.d.rdws P.cl P.io;have nx:=P.nx;have no:=P.no;rw[Fb,G3];ext;refine yg (r:=198) rX ro P.f7 `l `d λS1 m1 s1 _ fm1=>?_
 try ext
 refine yg (r:=198) rX rx (s1 _ _ P.f6) `l `d λS2 m2 s2 _ fm2=>?_
 try ext
 have P2:=P.sub (s1.trans s2);refine Ic P.d P.cl P.io P.ix no nx (s2 _ _ fm1) fm2 P2.f9 λS3 q s3 fq=>?_
 try ext
 have P3:=P2.sub s3;have gg:=P.d.gg P.cl P.io P.ix;rw[nT P3.fe,show ow [gS (oO B X xs),gS (oO B X os)] 0=aa (gS (oO B X xs)) from rfl]
 try dsimp only
 refine P.d.c.ok_lend (r:=198) P3.fb fq (Fc P.d.c.K os xs P.io.ro P.ix.ro) (P.d.shE P.cl P.ix).2 (Fz P.d.c.K os xs P.io.ro P.ix.ro gg.ok gg.gx) `d ?_
 try ext
 exact h S3 _
end
def V3 (ns:List Int) (hl:ns.length≤63):yF 200 [.b8 ns] (λ_=>none) (λw _=>w= .bl true) (λ_ _=>False):=by
 rw[show(200:Nat)=199+1 from rfl,yF,wz];refine⟨rfl,?_⟩;refine Y1 λS1 aw at' ab w0 w1 w2 w3 w4 w5 tt B g d fw fb=>?_;refine Q8 d fw fb λS2 X cl fb=>zGF d cl fb λS3 l6 l7 xs os ix io nx no fb f6 f7=>?_;refine VZ d fb λS4 l8 s4 f8=>Ux d f8 λS5 l9 s5 f9=>?_;obtain⟨rX,rx⟩:=d.rdws cl ix;obtain⟨_,ro⟩:=d.rdws cl io;have fb:=s5 _ _ (s4 _ _ fb);have f6:=s5 _ _ (s4 _ _ f6);have f7:=s5 _ _ (s4 _ _ f7);refine zDn d rX rx ro nx no fb f9 f6 f7 λS6 s6=>Wq λl10 h0=>?_;have gg:=d.gg cl ix io;refine Vi d.c ix.ro io.ro cl.sm gg.gx gg.go h0 (s6 _ _ fb) (s6 _ _ f6) (s6 _ _ f7) λy11=>?_;have s7:Sub S6 (bz S6 l10 (.bx [gS (oO B X xs),gS (oO B X os)])):= .bz .refl h0;have s8:=s6.trans s7;refine SG (l10:=l10) ⟨d,cl,ix,io,nx,no,s8 _ _ fb,s8 _ _ f6,s8 _ _ f7,s8 _ _ f9,nJ⟩ λS9 q P=>T1 P λS10 q'=>?_;obtain⟨k1,k2,k3⟩:=P.down;have sm:=GJ (pQ B xs os) k3 k2;obtain⟨b1,b2⟩:=w9 sm;rw[HY,←KR d.c.K xs os ix.ro io.ro];ext;generalize oO B (oO B X os) (pQ B xs os)=Z at b2⊢;have e:oH S10 60 (gS Z) (gS Z)=aa true:=G7 `l;cases Z with
 |bl n=>
  simp only[gS]at e⊢;ext;exact⟨_, .refl,by rw[beq_self_eq_true]⟩
 |nd s ts=>
  simp only[gS]at e⊢;ext;rw[e];exact⟨_, .refl,rfl⟩
end L2
end
end
section
namespace K52
open PySem L2 PyProof.Rows
noncomputable def top (i:Nat):bg:=PySem.Challenge.pw_turnweave_k52_whole_from_texts.main.body.getD i (.Pass ⟨0,0,0,0⟩)
noncomputable def vx:List En:=[⟨"parts_of",top 12,["t"],1,xH⟩,⟨"weight",top 13,["t", "count", "waiting", "thing"],1,Bw⟩,⟨"parts_of_all",top 14,["things", "found", "thing"],1,yt⟩,⟨"is_small",top 15,["t", "heavy", "deep", "level"],1,xb⟩,⟨"gather_places",top 17,["t", "place", "found", "number", "inner"],3,xU⟩,⟨"places",top 16,["t", "found"],1,Be⟩,⟨"numbered_part",top 19,["t", "number", "parts"],2,Ca⟩,⟨"part",top 18,["t", "place", "thing", "number"],2,yr⟩,⟨"blank_places",top 21,["side"],1,Bv⟩,⟨"blanks",top 22,["side"],1,yN⟩,⟨"filled",top 23,["side", "things"],2,v8⟩,⟨"have_one_top",top 27,["one", "other"],2,zK⟩,⟨"gather_matched",top 25,["left", "t", "things", "inner", "thing"],3,vV⟩,⟨"matched",top 24,["left", "t", "things"],2,vq⟩,⟨"meet",top 26,["one", "other"],2,uV⟩,⟨"are_small_letters",top 33,["text"],1,BI⟩,⟨"is_sign",top 31,["text"],1,xg⟩,⟨"is_title",top 32,["text"],1,y_⟩,⟨"is_short_number",top 41,["figures"],1,DN⟩,⟨"is_blank_text",top 40,["word"],1,yV⟩,⟨"check_text",top 37,["text"],1,Am⟩,⟨"read_way",top 34,["text"],1,yY⟩,⟨"read_side",top 35,["text"],1,A4⟩,⟨"read_turning",top 36,["text", "title_and_sides", "title", "sides"],1,C9⟩,⟨"is_turning",top 47,["thing", "left", "right", "numbers"],1,CZ⟩,⟨"clash_of",top 49,["turnings", "number", "left", "place", "thing", "other", "turning", "itself"],2,BU⟩,⟨"clash",top 48,["turnings", "number", "found"],1,C7⟩,⟨"book_of",top 50,["turnings", "titles", "turning"],1,C8⟩,⟨"turning_of",top 51,["book", "title", "turning"],2,uY⟩,⟨"has_fitting_top",top 54,["book", "thing", "turning"],2,BR⟩,⟨"is_way",top 53,["book", "thing"],2,yu⟩,⟨"only_small",top 56,["shape"],1,Aw⟩,⟨"with_sides",top 57,["book", "way", "side", "parts", "turning"],3,Bf⟩,⟨"goal",top 55,["book", "way"],2,yH⟩,⟨"part_places",top 58,["book", "way", "turning"],2,Bo⟩,⟨"open_turning",top 62,["book", "shape", "turning"],2,Bj⟩,⟨"gather_open",top 61,["book", "shape", "place", "found", "turning", "number", "inner"],4,zi⟩,⟨"open_uses",top 60,["book", "shape", "found"],2,Dk⟩,⟨"places_of",top 63,["pairs"],1,B9⟩,⟨"turned_top",top 67,["book", "shape", "turning"],2,Cm⟩,⟨"way_within",top 66,["book", "shape", "place", "wanted", "top", "parts", "spot", "inner"],4,vy⟩,⟨"way_with",top 65,["book", "shape", "places"],3,DA⟩,⟨"way_of",top 64,["book", "shape", "places", "known", "place"],3,zY⟩,⟨"moved",top 69,["book", "way", "other", "first", "second", "mine", "yours", "parts"],3,uI⟩,⟨"end",top 71,["book", "road"],2,Dg⟩,⟨"check_goals",top 74,["book", "ways", "way"],2,v7⟩,⟨"moved_along",top 73,["book", "way", "ways", "line", "over", "way_on"],3,yE⟩,⟨"grid",top 72,["book", "road", "other", "downs", "row", "overs", "way", "line"],3,D'⟩,⟨"last_downs",top 76,["downs_and_overs"],1,Ch⟩,⟨"road_behind",top 75,["book", "road", "other", "ways"],3,yP⟩,⟨"_law_cell",top 78,["script", "k"],2,ua⟩,⟨"_law_words",top 79,["one", "two", "great", "signs", "rest", "base", "k", "at", "words", "word"],3,AV⟩,⟨"_law_count",top 80,["side"],1,wc⟩,⟨"_law_filled",top 81,["side", "things"],2,xt⟩,⟨"_law_lefts",top 82,["way", "head", "c", "d"],4,BT⟩,⟨"_law_rights",top 83,["many", "w", "grows", "some"],3,D2⟩,⟨"_law_book",top 84,["script", "k", "w", "titles", "grows", "book", "j", "lefts", "n", "left", "some", "draw"],5,D4⟩,⟨"_law_plan",top 85,["cells", "book", "w", "room", "stack", "spent", "cell", "way", "need", "node", "k", "at"],4,C3⟩,⟨"_law_way",top 86,["plan", "book", "by", "k", "bits", "head", "parts", "ways"],3,zL⟩,⟨"_law_made",top 87,["book", "way", "which", "parts", "turning"],3,uN⟩,⟨"_law_places",top 88,["t", "found", "i", "one"],1,wA⟩,⟨"_law_at",top 89,["t", "place", "i"],2,B_⟩,⟨"_law_stands",top 90,["left", "shape"],2,xZ⟩,⟨"_law_open",top 91,["book", "shape", "found", "place", "turning"],2,zo⟩,⟨"_law_road",top 92,["script", "book", "shape", "k", "many", "ways", "here", "j", "known", "cell", "some"],5,yL⟩,⟨"_law_text",top 93,["t"],1,uG⟩,⟨"_law_end_of",top 94,["book", "found", "here", "way"],3,AH⟩,⟨"_law_read",top 95,["road"],1,u7⟩,⟨"law",top 96,["script", "w", "titles", "grows", "book", "shape", "road", "other", "texts", "told", "ends", "way", "found", "one", "two"],1,yF⟩]
noncomputable def B7:List Em:=[⟨"Reader", "Reader.__init__", "__init__",zD (top 39) 0,["self", "text", "in_side"],3,Dm⟩,⟨"Reader", "Reader.here", "here",zD (top 39) 1,["self"],1,xz⟩,⟨"Reader", "Reader.read_word", "read_word",zD (top 39) 2,["self", "start"],1,BM⟩,⟨"Reader", "Reader.read_parts", "read_parts",zD (top 39) 4,["self", "room", "found"],2,(λr=>wG (tU (r - 1)) r)⟩]
noncomputable def pk:En:=⟨"read_whole",top 38,["text", "in_side", "reader", "thing"],2,yG⟩
noncomputable def oC:Em:=⟨"Reader", "Reader.read_thing", "read_thing",zD (top 39) 3,["self", "room", "word"],2,tU⟩
noncomputable def tab:List En:=[pk]++vx
noncomputable def mt:List Em:=[oC]++B7
noncomputable def FM:List (ah×W):=[("MOST_HEAVY", .int 400),("MOST_DEEP", .int 40),("MOST_LETTERS", .int 8),("MOST_SIGNS", .int 4000),("LEFT", .int 1),("RIGHT", .int 2),("MOST_HEAVY_SIDE", .int 12),("MOST_TURNINGS", .int 8)]
noncomputable def G5:List (ah×ah):=[("at", "Reader"),("in_side", "Reader"),("text", "Reader")]
noncomputable def hns:List ((Nat×Nat)×List ah):=[((69,11),["place", "side"]),((71,11),["place", "side"]),((75,30),["inner", "things"]),((94,44),["mine", "yours"]),((105,15),["letter"]),((172,15),["figure"]),((188,56),["number", "numbers"]),((224,48),["inner", "book"]),((237,12),["inner", "book", "side"]),((245,15),["number"]),((264,11),["pair"]),((272,44),["place"]),((292,12),["inner", "outer", "book"]),((312,14),["over", "down", "book"]),((330,11),["line"]),((346,23),["j", "signs", "base", "k", "at"]),((356,15),["one"]),((360,28),["one", "things"]),((421,11),["one", "book", "by"]),((428,12),["one", "book", "which"]),((437,28),["place", "i"]),((448,15),["one", "other"]),((474,33),["one"]),((484,42),["way"]),((493,12),["one"]),((494,19),["text"])]
noncomputable def tb:Tb:=⟨λ_=>none,λx=>FM.lookup x,["all", "dict", "enumerate", "int", "isinstance", "len", "list", "min", "range", "str", "sum", "tuple", "zip"],["Apart", "Clash", "NoPlace", "NoText", "NoTurning", "NoUse", "TooGreat"],[],λp=>(hns.lookup (p.line,p.col)).getD [],λx=>(["there", "wanted"]:List ah).contains x,λx=>x == ("open_uses" :ah),λx=>G5.lookup x,λ_=>none,λ_=>none⟩
def Vd:(tab++mt.map Em.e).all En.ok=true:=by decide +kernel
def zIb (kV doc pm:ai) (an:Option aj) (cdv ct a b c d e' f:ai):(tab.map λe=>e.bd kV doc pm an cdv ct [a,b,c,d,e',f])=tab.map λe=>pure (e.ps.zip [a,b,c,d,e',f]):=by kernel_rfl
def T7 (kV doc pm:ai) (an:Option aj) (cdv ct a b c d e' f:ai):(mt.map λy=>y.e.bq y.q kV doc pm an cdv ct [a,b,c,d,e',f])=mt.map λy=>pure (y.e.ps.zip [a,b,c,d,e',f]):=by kernel_rfl
def YM:((tab++mt.map Em.e).map λe=>e.c 0)=(tab++mt.map Em.e).map λ_=>nG:=by kernel_rfl
def Lx (r:Nat):((vx++B7.map Em.e).map λe=>e.c (r+1))=(vx++B7.map Em.e).map λe=>e.rd { tb with fn:=lkT tab r,me:=xv mt r,mi:=λ_=>none }:=by kernel_rfl
def zlh (r:Nat):yG (r+2)=pk.rd { tb with fn:=lkT tab (r+1),me:=xv mt (r+1),mi:=CF mt r }:=by kernel_rfl
def zfA (r:Nat):tU (r+2)=oC.e.rd { tb with fn:=lkT tab (r+1),me:=xv mt (r+1),mi:=CF mt r }:=by kernel_rfl
def Rz (r:Nat) (e:En) (he:e∈tab++mt.map Em.e):DH tab mt tb r e:=by
 obtain he |he:=bv.mp he
 ·obtain rfl |he:=az.mp he
  ·cases r with
   |zero=>exact .inl rfl
   |succ r=>exact .inr ⟨_,_,_,Mn,zlh r⟩
  exact Md r (Lx r) e (gp _ he)
 ·obtain rfl |he:=az.mp he
  ·cases r with
   |zero=>exact .inl rfl
   |succ r=>exact .inr ⟨_,_,_,Mn,zfA r⟩
  exact Md r (Lx r) e (cw _ he)
noncomputable def wV {l:iF}{w:aP}{K:am}{h:aH}{mg:ah→Option ai}{fa:aj}(X:K.In h) (G:h.Ns aO mg) (hfa:mg "law" =aa (.ref fa)) (df:w6 K tab) (bl:xk K tb.bl) (gl:xO K FM) (xs:wP K tb.xs) (ex:xf K tb.ex) (dm:xP K mt) (kl:xp K ["Reader"]) (nf:xi K G5):=
 Zr (l:=l) (w:=w) (e0:=tab.getLast (by decide)) (cl:=yF) (room:=200) X G hfa (List.getLast_mem _) rfl rfl rfl Vd zIb T7 YM Rz rfl rfl (by decide +kernel) (by decide +kernel) (by decide +kernel) df bl gl xs ex dm kl nf
def E7{l:iF}{q:aY}{loose:List ah}{XP:(ah→Option ai)→aH→Prop}{YP:aP→aH→Prop}{d:DefRec}{K:Params→am}(hn:l.most=aa 63) (hdf:d.params.defaults=[])
  (hY:∀(w:aP) (h:aH),YP w h→(K w.params).In h)
  (F:∀(w:aP) (mg:ah→Option ai) (fa:aj) (h:aH),(K w.params).In h→h.Ns aO mg→mg d.name=aa (.ref fa)→
   ∃fd:cK,(∀(s:ao) (u:ai),fI s fd ⟨[u],[]⟩ [("script",u)])∧ ∀base:aH,(K w.params).In base→base.Ns aO mg→pe l.prog w (K w.params) mg base (rW l.prog w) 200 fa fd ["script"] (rJ (K w.params) (yF 200))) :
  lp q loose XP YP l.row.toRowW d [] (λf vs=>i0 f vs):=
 L2.UH (n:=63) (k:=200) (x:= "script") (CX:=λw=>rW l.prog w) (sp:=λw=>rJ (K w.params) (yF 200)) hn (by decide) hdf ⟨rfl,by decide,by decide⟩ hY F (λw H a ns hl hO hS=>XJ hO hS (V3 ns hl)) λ_ _ _ _ _ ⟨_,_,_,_,_,_,_,_,_,z⟩=>z
end K52
structure PySem.W.Fast:Prop where
 (tw5383467140763160500 tw6687820916829452787 tw16056642227760231555 tw13408103880956342663 tw18064352530541106817 tw17631969257995137399 tw370754110475014032 tw13950813811088203832 tw14046981378235746251 tw12234474776882652541 tw18323171169080357161 tw18382545780437548327 tw353340956434963983 tw151494608084749538 tw11463145965582646763 tw7877299038313756756 tw15682348534730487320 tw6767792550676930431 tw1544296479350496567 tw17681324964396340798 tw16636533441256641773 tw9249350939361672689 tw7671480770033168895 tw9817529325396344731 tw14952527011479090871 tw5501848315080794221 tw12028528511590522253 tw12607054880529294178 tw2959120146288183292 tw11215675710914332513 tw14654987855178904943 tw3776352807955469893 tw1490427974039018818 tw3961485386989288375 tw15149336512599690323 tw13216982966650434258 tw5033155317104589690 tw4970652381112261753 tw3399867032625860852 tw3122984665686428195 tw16747299960024253192 tw5983031609302311677 tw5428237384449447087 tw12403643423511529518 tw13305792221462491680 tw9206560204768712108 tw2895999260077665475 tw13383118348067505027 tw17348065445315611603 tw4765398434953237485 tw2391038768574285808 tw11584125586507751166 tw5465892666502224522 tw219172378129972721 tw17308979628832695404 tw2550523229369489777 tw7265542101532353028 tw893313584119145940 tw13300514344515737430 tw4805226698126271890 tw1596336723264231394 tw18369354840028097341 tw7166473623726786981 tw4506027017470917150 tw6827643220438558535 tw11718621948538650991 tw11343612567256511792 tw1573344030941221971 tw14325145722564283784 tw7755760748851575795 tw3706933264185883970 tw11023805174969044773 tw9152516013755917133 tw14984787079322901931 tw7158736108962242332 tw8711825899780238330 tw12063810863976365901 tw12592957151711983609 tw10286471312590012673 tw10090364813336244984 tw10377263711079791894 tw16743530191633985766 tw10461729046455409835 tw16557804202986339700 tw7686185844783375110 tw2157528046383482005 tw10718566378031449403 tw10496080251744322667 tw17122915827334092176 tw2251681935449558767 tw7630621744537304139 tw2636855663437299418 tw1656805187684032701 tw13232178058510972902 tw3051236702278161193 tw5748143929087234334 tw4343245722998619092 tw11465380149684626243 tw13536077313849091780 tw5533071349238634731 tw10418937295946492470 tw16036561181936086355 tw11224010638910953562 tw10772603242346682196 tw15819053815636980874 tw12848790498148784968 tw17483777819194922404 tw17010099253281085525 tw14998409390008966635 tw14588265437187292777 tw14134472143906219713 tw16843717338392085898 tw11542369618780006203 tw7777452880862739266 tw234025384258526429 tw12911862327238176939 tw4340914914867708419 tw14465020997273235697 tw7301483557838634100 tw14913480687388519476 tw3807352369460853723 tw16532486053155726848 tw707633040486244923 tw11344644112782240754 tw15708760843380565180 tw17439123861453912594 tw14606116390731163564 tw12659649234168969179 tw14951068467455433330 tw8470545976374754143 tw8153675068639736623 tw3875350488082573382 tw11247861920718654153 tw13417843003028081782 tw1171420424787355873 tw7084218137826201218 tw7078389907140494537 tw4282076767065402008 tw7640217594217565380 tw7528325604616378024 tw13867271861449562819 tw1101211474694917028 tw8926301294112868939 tw11465978159941448541 tw8338406574350116807 tw1754293195197942607 tw8942027172164547461 tw10518004865527434166 tw1800729018303447509 tw12745878787272061202 tw13685239006573034664 tw4048071830753496781 tw9289977209543437238 tw7084954507766492966 tw7393636822429563204 tw17377982195380651596 tw13075643304047578394 tw3636409614738513717 tw2927098561746158491 tw8429773508872486344 tw8341637582245712162 tw2993883097187394379 tw238711204197630647 tw8051776047736391134 tw17701591523992738080 tw14888699531366593514 tw17616778285350341459 tw15798112247211255105 tw11684434489778345631 tw1237515909523132861 tw12718424450877903682 tw6630300259818229029 tw3911423222368320384 tw7077368842845969085 tw12670722193097169760 tw6273705068366224420 tw5474449355437833663 tw3057487413610216907 tw10139426315726953052 tw12927836023736456540 tw7747153197487096829 tw3703646782076289432 tw6844239433764717886 tw8910517759488346795 tw4696077665593535389 tw13860130862831372642 tw556164613032540466 tw554586161426629481 tw17340595888203543607 tw12318120047945339526 tw9406458466874336307 tw906151919176897326 tw6386041504253275048 tw3053117969943193993 tw6330890849937334583 tw17960987282867898159 tw5678958510778221465 tw3438005011027139774 tw9758952843235548537 tw7612804863937501082 tw6109144604790533853 tw14115206991520911736:True)
open PySem PySem.W PyProof.Rows
set_option maxRecDepth 100000 in
set_option maxHeartbeats 0 in
theorem PySem.Challenge.cw_turnweave_k52_whole_from_texts_holds : PySem.Challenge.rw_turnweave_k52_whole_from_texts.Holds := by
 w_on;o_law;k_head;(case hw=>w_witness2)
 k_fill
 refine K52.E7 (l:=PySem.Challenge.rw_turnweave_k52_whole_from_texts) rfl rfl (λw h Y=>PySem.W.kIn_of Y) ?F
 case F=>
  intro w mg fa h KX G hmg
  refine' K52.wV KX G hmg ?_ ?_ ?_ ?_ ?_ ?_ ?_ ?_<;>dsimp only[L2.w6,L2.xk,L2.xO,L2.wP,L2.xf,L2.xP,L2.xp,L2.xi,K52.tab,K52.vx,K52.mt,K52.B7,K52.pk,K52.oC,K52.FM,K52.G5,K52.tb,List.append,bY,aQ]
  all_goals (repeat' first |exact du |refine And.intro ?_ ?_ |refine' L2.dfn ?_ ?_ ?_ ?_ |refine' L2.gln ?_ |refine' L2.xch ?_ ?_ ?_ ?_ ?_ ?_ ?_ |refine' L2.exh ?_ ?_ ?_ |refine' L2.dfM ?_ ?_ ?_ ?_ ?_ ?_ |refine' L2.klh ?_ ?_ ?_ ?_ ?_ ?_ ?_ |refine' L2.nfh ?_ ?_)
  all_goals first |k_is |kit_is | (dsimp only[jR];kit_is) |kts_exm | (delta L2.DX;k_exc) |skip
end
