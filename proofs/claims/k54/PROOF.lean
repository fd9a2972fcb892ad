import PyProof.Rows.All
import Wide.All
import OpenK.AllK
import Wide.FinOn
import Lean
import PyProof.EqAt
import PyProof.EqKinds
import PyProof.TupleCall
import PyProof.NeKinds
import PyProof.ListMulRoad
import PyProof.AttrMissHeap
import KE.KDictOf
import KE.KRevIter
import PyProof.ListRange
import KE.KSortTup
import KE.KMinKey
import PyProof.MinMaxWalk
import PyProof.Rows.CallKwBuiltin
import PyProof.Rows.SetFrom
import PyProof.Rows.SeqMore
import PySem.Challenge.RW_turnweave_k54_whole_within_a_shape
open Option renaming some→aa,isSome_iff_exists→dE,getD_some→fF,isSome_map→gy,map_some→gZ,isSome_some→kq,getD_none→ku,some→lC
open PySem renaming Str→ah,Addr→ai,Value→aj,Shared→aq,wpAny_bind→au,wpAny→av,starEach→ax,model→aC,Heap→aF,eval→aH,Obj→aJ,wpAny_pure→aK,World→aQ,mainGlobals→aY,backTo→aZ,Paired→a_,Program→bb,Stmt→bi,Pos→bv,Around→bx,compareOp→bF,Env→bS,wpAny_field→bU,Keyword→bY,NameKind→ca,IsPair→cb,binaryOp→ce,assignEach→ci,Sem→ck,Builtin→cr,pyNext→cu,IsZip→cw,attributeBase→cB,wpAny_mono→cE,bootBuiltins→cI,rawInt→cJ,tupleKind→cP,wpAny_setField_rec→cS,IsEnum→cW,FuncData→c6,IsPart→da,backToKw→dg,keywordEach→dh,wpAny_seqItems→di,foldedSetIterable→dG,wpAny_callSpecial?_slot→dH,bindC→dI,wpAny_call_entry→dL,pyIter→dP,atKey→dX,bindL→dY,codeAny→dZ,wpAny_passesOwn→d5,getItem→d7,wpAny_truthy_bool→eC,sliceBounds→eE,swapsWith→eG,callerA→eM,sizeLine_eq→eN,wpAny_newObj_type→eT,wpAny_rule→eW,valueAt→e_,BindsTo→fo,mem_of_lookup→fv,wpAny_pyIter_list→fA,sysModules→fG,call_meets→fI,PassesOwn→fO,behindInMarks→fS,wpAny_typeOf→fV,PlainAttrs→fY,typeOf→gd,storedH→gf,wpAny_attempt→gA,lastMarks→gB,wpAny_holding→gC,Comprehension→gK,wpAny_getItem_str_slice→gM,letOwnedTupleGo→gQ,wpAny_execs_nil→h_,preSum→ib,post_val_or_str→ii,wpAny_onRaise→il,wpAny_letGo→iq,wpAny_Call_Name_kw→iz,pick_run→iD,seq_tuple_add→iS,concat_meets→iW,storeName→iX,DictEntry→iY,builtinsNs→i7,wpAny_Name→jc,cellsFrom→jd,bindArgs→jf,typeIs_str→jj,swappedStores→jk,typeLookup→jm,wpAny_updateSeq_pair→jn,ZipApart→jB,tupleKind_room_in1→jD,sliceRange_one→jK,codeAny_mono→jM,IsEnumOut→jN,call→jP,swapsWithSole→jS,typeIs_int→jY,noFill_tuple_add→j5,wpAny_execs_cons→kh,wpAny_pyIter_tuple→kr,wpAny_assign_Name→ky,wpAny_loadName_local→kC,wpAny_setField→kE,slot_list_getitem→kL,wpAny_loadName_cell→kO,codeAny_builtin→kU,wpAny_newTuple→lA,isSubtype_stop→lH,getattributeRaised→lJ,wpAny_sequenceKey→lP,firstArgMember→lZ,wpAny_pyIter_enum→mj,wpAny_isInstance→mK,wpAny_pyIter_zip→mQ
open PySem.W renaming Frag→am,nsIn→bz,findIn→cx,kia_one→cQ,keepIn→cU,fnOf→du,mg_of→eP,codeIn→fK,kitOne→fU,hideAll→f_,hideAll_none→gJ,exmOne→gL,OpenLaw→gY,isFn→ie,makesIn→ik,plainGet→iF,methodObj→iN,instObj→iP,mroIn→iQ,of_hideAll→i8,hideAll_get→jR,lookIn→jW,cellsFrom_some→j9,plainOver→kM,excIn→kR,kitx_list→k_,hasDictIn→lG,kitx_dict→mf,WalkO→mD
open List renaming length_map→ay,map_cons→az,mem_cons→aB,mem_cons_of_mem→aG,mem_cons_self→aI,mem_map→aL,nil_append→aM,mem_of_getElem?→aN,getElem?_eq_getElem→aP,length_cons→aT,getElem?_map→aV,length_append→aW,append_nil→bf,mem_singleton→bg,map_map→bh,size_toArray→bj,not_mem_nil→bo,replicate→bp,mem_append→bu,getD_eq_getElem?_getD→bw,map_append→bC,range→bD,append_assoc→bE,getElem?_cons_succ→bW,mem_of_find?_eq_some→bX,length_singleton→bZ,cons_append→b6,find?_cons→b8,mem_append_right→cc,getElem?_eq_some_iff→cj,lookup_cons→cy,flatMap_cons→cD,replicate_succ→cO,all_eq_true→cY,map_congr_left→c7,map_nil→dc,length_drop→de,isEmpty_iff→dv,flatMap_nil→dy,mem_filter→dA,length_take→dC,length→dF,getElem_of_mem→dJ,drop_zero→dO,length_nil→dU,take_of_length_le→dW,isPrefixOf_iff_prefix→d8,getElem_mem→d9,mem_flatMap→d_,flatten_cons→eB,findSome?_cons→eH,nodup_cons→eI,mem_append_left→eJ,foldl_cons→eR,all_cons→eV,any_cons→fh,find?_some→fj,mem_map_of_mem→fu,sum_cons→fy,all_map→fD,mem_range→fJ,drop_eq_getElem_cons→fN,of_mem_zip→fX,getElem?_range→gc,drop_of_length_le→ge,filterMap_cons→gh,zip_cons_cons→gj,find?_eq_none→gr,filter_cons→gu,range_succ→gv,length_filter_le→gR,getElem?_set_self→gS,length_replicate→gT,contains_iff_mem→hU,range'→hV,take_append_drop→ig,range'_succ→iv,one_le_count_iff→iw,getElem?_cons_zero→iy,getElem?_of_mem→iJ,getElem?_append_right→iT,forIn_cons→iU,mem_filterMap→i9,filter_append→ja,getElem?_eq_none→jb,mem_of_mem_drop→je,foldl→jh,lookup→jo,range_succ_eq_map→ju,mem_of_mem_take→jA,Nodup→jG,getElem?_set_ne→jH,take_length→jO,range_eq_range'→jU,sum_append→jZ,filter_cons_of_neg→j6,forall_mem_cons→j_,ext_getElem?→kj,eq_nil_of_length_eq_zero→km,nodup_iff_count→ko,isEmpty_cons→kw,eq_nil_or_concat→kx,Pairwise→kG,map_eq_nil_iff→kH,drop_drop→kI,concat_eq_append→kP,take_add→kW,flatMap_append→kY,drop_left→kZ,zipIdx_nil→lg,exists_cons_of_length_eq_add_one→li,length_eq_one_iff→lj,map_take→lE,getElem?_set→lI,forIn_nil→lL,isEmpty_nil→lO,getElem?_append_left→lQ,flatMap_def→lT,getElem?_drop→lU,take_succ→lW,getElem?_replicate→l9,length_pos_iff→l_,take_sublist→md,length_range→mo,map_drop→mw,pairwise_map→mx,take_zero→mz,zipIdx_cons→mB,countP_cons→mE
open Nat renaming le_refl→aA,zero_le→aU,le_trans→aX,zero_add→bI,le_of_ble_eq_true→bM,ne_of_lt→bR,lt_of_lt_of_le→b7,one_mul→cg,add_mul→cA,lt_irrefl→cK,ne_of_gt→c9,pow_le_pow_right→dj,mul_le_mul_right→dB,mul_le_mul_left→eA,add_comm→eD,mul_add→eK,sub_zero→eZ,add_zero→fE,one_le_two_pow→fQ,le_of_eq→fZ,eq_zero_or_pos→gE,add_le_add_left→gG,sub_self→gI,le_add_right→gO,pow_add→gX,succ→ir,mul_assoc→iR,le_of_lt→jp,lt_or_ge→jI,min_eq_left→jQ,min_eq_right→ke,reduceAdd→kz,one_le_pow→lD,lt_succ_self→lN,le_max_left→mh,le_mul_of_pos_left→mq,le_of_not_lt→my,le_mul_of_pos_right→mG
open Option.some renaming inj→aO,injEq→bV
open PySem.Heap renaming lt_size→aR,get?_push_of_some→aS,get?_push_size→bO,SameBut→cN,size_push→c5,ExtBut→j4
open PySem.NameKind renaming free→bc,cell→cp
open Int renaming toNat_natCast→bn,toNat_of_nonneg→cH,emod_nonneg→dq,emod_lt_of_pos→dD
open Ne renaming symm→bG
open PySem.Str renaming ofString→bK,join→dt,empty→eY,length→iV
open Bool renaming and_eq_true→bN,false_eq_true→cZ,false_ne_true→c_,eq_iff_iff→eU,and_false→gN,not_eq_true'→ip,true_and→iL,or_eq_true→jr,not_false→kc,or_false→lq,not_true→lV,false_or→mC
open PySem.Value renaming ref→bP,none→cR,bool→eS,str→fT,int→gi,type→j7,isStrOf→ma
open PyProof.Rows renaming envOfC→cC,AllBare→cF,IsTup→eO,slot_tuple_getitem→eQ,IntsAre→fx,callWith_type1→gF,UnaryOp_→jJ,subscriptTail_builtinR→kf,slicePart_none→kg,entry_tuple_getitem→kX,args_tuple_getitem→ml,boot_tuple→mn
open False renaming elim→cG
open PySem.Builtin.SmallTypes renaming nextOf→cV,ownedTupleIsFree→eX,ownedTupleHandOut→g_
open PySem.Txt renaming slice→c8,upper→eF
open PySem.Builtin.Str renaming occurrences→db,strSliceIndices→gp
open Sum renaming inr→dN
open True renaming intro→dQ
open Prod.mk renaming injEq→dS
open ForInStep renaming yield→fe
open PySem.SeqAt renaming EqAt→fi,RcAt→f9,RcNeAt→gb
open Or renaming inr→fB,inl→gP
open PySem.Builtin.List renaming listTooLong→fH
open List.cons renaming injEq→fM
open PySem.Paired renaming length→fP
open Eq renaming trans→fW
open PySem.Builtin.Tuple renaming tupleExact→gm,tupleItemsOf→lB
open LawfulBEq renaming eq_of_beq→gn
open PySem.F renaming slot_zip_next→gq,plainAttrs_list→gH,slot_enumerate_next→g9,slot_tuple_iterator_next→ic,entry_tuple_add→iH,slot_tuple_add→i_,args_tuple_add_2→jg,slot_list_getattribute→jV,slot_int_rmul→ki,args_list_extend_2→kF,type_list_extend→kQ,entry_tuple_iterator_next→kS,slot_list_extend→lm,entry_zip_next→ln,args_zip_next_1→lp,args_tuple_iterator_next_1→lF,args_enumerate_next_1→lS,entry_list_extend→lY,slot_list_extend→mr,entry_enumerate_next→mH,plainAttrs_str→mI,excBase_ValueError→mO
open LawfulMonad renaming pure_bind→gD
open PySem.Builtin.Slice renaming slicePlaces→gU,sliceAdjust→jq,sliceApplied→lz
open Lean renaming mkIdent→iE
open Array renaming toList_append→iZ,length_toList→jT,mem_toList_iff→kJ
open Prod renaming snd→jx
open Lean.Syntax renaming Term→jC
open PySem.Walks renaming list→jE
open PySem.Obj renaming mapSeq→jF,data_mapFields→lR
open PyProof.Rows.IsTup renaming new→jL
open PySem.Calls renaming callWith_builtin→kA,Name_function_global→ly,evalArgs_plain→lM
open PySem.AutoSeq1 renaming wpAny_loadPart'→kK
open Classical renaming choose_spec→kN
open Function renaming comp→kT
open PySem.Around renaming under_plainId→lr
open PySem.Heap.SameBut renaming update→lK
open PySem.Builtin.Dict renaming updateFrom→mJ
set_option Elab.async false
set_option compiler.extract_closed false
set_option linter.all false
set_option maxRecDepth 100000
set_option maxHeartbeats 4000000
local macro_rules | `(tactic| lia) => `(tactic| first | exact (Nat.sub_add_cancel (Nat.le_trans (by decide) ‹_›)).symm | exact Nat.le_trans ‹_› (by decide) | exact Nat.le_trans (by decide) ‹_› | lia (config := {}) | omega)
section
local macro_rules(kind:=Lean.Parser.Term.quotedName)|x=>match x[0].isNameLit? with |some `l=>`(by lia) |some `d=>`(by decide) |some `s=>`(by simp) |_=>Lean.Macro.throwUnsupported
local macro_rules|`(tactic|left)=>`(tactic|walk_at "wp")
local macro_rules|`(tactic|right)=>`(tactic|obtain⟨$(Lean.mkIdent `r),$(Lean.mkIdent `rfl)⟩:∃r',$(Lean.mkIdent `r)=r'+1:=⟨$(Lean.mkIdent `r)-1,by lia⟩)
local macro_rules(kind:=scientific)|x=>match x.isScientificLit? with |some (m,_,1)=>`($(Lean.mkIdent `wC) (.int $(Lean.quote (m/10)))) |_=>Lean.Macro.throwUnsupported
local macro_rules(kind:=«term{_}»)|x=>do x[1].getSepArgs.foldrM (λx r=>`($(Lean.mkIdent `jX) $(⟨x⟩) $(⟨r⟩))) (←`($(Lean.mkIdent `ae)))
namespace L2
open PySem PySem.Spec PyProof.Rows
def vX{α:Sort _}{A B:α→Prop}{P:Prop}(h:∃a,A a∧B a) (k:∀a,A a→B a→P):P:=by obtain⟨a,hA,hB⟩:=h;exact k a hA hB
def oQ{α β:Sort _}{A B C:α→β→Prop}{P:Prop}(h:∃a b,A a b∧B a b∧C a b) (k:∀a b,A a b→B a b→C a b→P):P:=by obtain⟨a,b,hA,hB,hC⟩:=h;exact k a b hA hB hC
def zGt{α β:Sort _}{A B C D E:α→β→Prop}{P:Prop}(h:∃a b,A a b∧B a b∧C a b∧D a b∧E a b) (k:∀a b,A a b→B a b→C a b→D a b→E a b→P):P:=by obtain⟨a,b,hA,hB,hC,hD,hE⟩:=h;exact k a b hA hB hC hD hE
def on{α β γ:Sort _}{A B C D:α→β→γ→Prop}{P:Prop}(h:∃a b c,A a b c∧B a b c∧C a b c∧D a b c) (k:∀a b c,A a b c→B a b c→C a b c→D a b c→P):P:=by obtain⟨a,b,c,hA,hB,hC,hD⟩:=h;exact k a b c hA hB hC hD
def NY{α β γ δ:Sort _}{A B C D:α→β→γ→δ→Prop}{P:Prop}(h:∃a b c d,A a b c d∧B a b c d∧C a b c d∧D a b c d) (k:∀a b c d,A a b c d→B a b c d→C a b c d→D a b c d→P):P:=by obtain⟨a,b,c,d,hA,hB,hC,hD⟩:=h;exact k a b c d hA hB hC hD
def Dp{α β γ δ:Sort _}{A B C D E:α→β→γ→δ→Prop}{P:Prop}(h:∃a b c d,A a b c d∧B a b c d∧C a b c d∧D a b c d∧E a b c d) (k:∀a b c d,A a b c d→B a b c d→C a b c d→D a b c d→E a b c d→P):P:=by obtain⟨a,b,c,d,hA,hB,hC,hD,hE⟩:=h;exact k a b c d hA hB hC hD hE
abbrev Key:=Sum Int ah
def yw:Key→aj→Bool
 | .inl k,v=>aj.isInt k v
 | .inr x,v=>ma x v
def XQ (w:aQ):Key→Int
 | .inl k=>hashInt k
 | .inr x=>hashStr w x
theorem u6:∀{k:Key}{v:aj},yw k v=true→(∃i t,k=Sum.inl i∧v=gi i t)∨(∃x t,k=dN x∧v=fT x t)
 | .inl i,v,h=>by
  obtain⟨t,e⟩:=aj.isInt_shape (k:=i) (v:=v) h;exact .inl ⟨i,t,rfl,e⟩
 | .inr x,v,h=>by
  obtain⟨t,e⟩:=aj.isStrOf_shape (x:=x) (v:=v) h;exact .inr ⟨x,t,rfl,e⟩
def XW (i:Int) (t:Tok):yw (.inl i) (.int i t)=true:=by simp [yw,aj.isInt]
def Xk (x:ah) (t:Tok):yw (.inr x) (.str x t)=true:=by simp [yw,ma]
def Tt (a b:Int):decide ((Sum.inl a:Key)=Sum.inl b)=(a == b):=by
 by_cases e:a=b
 ·subst e;simp
 ·have h:¬(Sum.inl a:Key)=Sum.inl b:=λq=>e (Sum.inl.inj q);rw[decide_eq_false h];exact(beq_eq_false_iff_ne.mpr e).symm
def V0 (a b:ah):decide ((dN a:Key)=dN b)=decide (a=b):=by
 by_cases e:a=b
 ·subst e;simp
 ·have h:¬(dN a:Key)=dN b:=λq=>e (dN.inj q);rw[decide_eq_false h,decide_eq_false e]
def SR (a:Int) (b:ah):decide ((Sum.inl a:Key)=dN b)=false:=decide_eq_false (λq=>nomatch q)
def YL (a:ah) (b:Int):decide ((dN a:Key)=Sum.inl b)=false:=decide_eq_false (λq=>nomatch q)
noncomputable def rA (prog:bb) (w:aQ):PySem.KeyKind prog w Key where
  is:=yw
  hash:=XQ w
  inj:=λv a b ha hb=>by
    obtain ⟨i,t,rfl,rfl⟩ |⟨x,t,rfl,rfl⟩:=u6 ha
    · obtain ⟨j,u,rfl,e⟩ |⟨y,u,rfl,e⟩:=u6 hb
      · injection e with e1 _;rw[e1]
      · exact nomatch e
    · obtain ⟨j,u,rfl,e⟩ |⟨y,u,rfl,e⟩:=u6 hb
      · exact nomatch e
      · injection e with e1 _;rw[e1]
  byValue:=λk v h=>by
    rcases u6 h with⟨i,t,rfl,rfl⟩ |⟨x,t,rfl,rfl⟩<;>rfl
  pyHash:=λhv h=>by
    obtain ⟨i,t,rfl,rfl⟩ |⟨x,t,rfl,rfl⟩:=u6 hv
    · exact wpAny_pyHash_int h
    · exact wpAny_pyHash_str h
  eqBool:=λhu hv h=>by
    obtain ⟨i,t,rfl,rfl⟩ |⟨x,t,rfl,rfl⟩:=u6 hu
    · obtain ⟨j,u,rfl,rfl⟩ |⟨y,u,rfl,rfl⟩:=u6 hv
      · rw[Tt]at h;exact wpAny_eqBool_int h
      · rw[SR]at h;exact fi.int_str i t y u _ _ _ _ h
    · obtain ⟨j,u,rfl,rfl⟩ |⟨y,u,rfl,rfl⟩:=u6 hv
      · rw[YL]at h;exact fi.str_int x t j u _ _ _ _ h
      · rw[V0]at h;exact wpAny_eqBool_str h
  «strs» :=λk x t v h=>by
    obtain ⟨i,u,rfl,e⟩ |⟨y,u,rfl,e⟩:=u6 h
    · exact nomatch e
    · injection e with e1 _;subst e1;cases v<;>rfl
def Rq (prog:bb) (w:aQ) (i:Int) (t:Tok):(rA prog w).is (.inl i) (.int i t)=true:=XW i t
def Vd (prog:bb) (w:aQ) (x:ah) (t:Tok):(rA prog w).is (.inr x) (.str x t)=true:=Xk x t
inductive V where
  |b_ |bl (b:Bool) |int (i:Int) |str (x:ah) |byt (b:Array UInt8) |flt (b:UInt64) |ref (a:ai) |ty (n:String)
  deriving DecidableEq
def nA:V→aj→Prop
 | .b_,u=>u=cR
 | .bl b,u=>u=eS b
 | .int i,u=>∃t,u=gi i t
 | .str x,u=>∃t,u=fT x t
 | .byt b,u=>∃t,u=aj.bytes b t
 | .flt b,u=>∃t,u=aj.float b t
 | .ref a,u=>u=bP a
 | .ty n,u=>u=j7 n
abbrev ni:List V→List aj→Prop:=a_ nA
def ni.length{xs:List V}{us:List aj}(r:ni xs us):xs.length=us.length:=fP r
theorem ni.get:∀{xs:List V}{us:List aj}{i:Nat}{x:V},ni xs us→xs[i]? =aa x→ ∃u,us[i]? =aa u∧nA x u
 |_,_,_,_, .nil,e=>by simp at e
 |_,_,0,_, .cons r _,e=>by simp at e;subst e;exact⟨_,rfl,r⟩
 |_,_,i+1,x, .cons _ t,e=>by
  obtain⟨u,h1,h2⟩:=ni.get (i:=i) (x:=x) t (by simpa using e);exact⟨u,by simpa using h1,h2⟩
def ni.append:∀{xs ys:List V}{us ws:List aj},ni xs us→ni ys ws→ni (xs++ys) (us++ws):=λ{xs ys us ws} h g=>by
 induction h with
 |nil=>exact g
 |cons r _ ih=>exact .cons r ih
theorem ni.take:∀{xs:List V}{us:List aj}(n:Nat),ni xs us→ni (xs.take n) (us.take n)
 |_,_,0,_=> .nil
 |_,_,_+1, .nil=> .nil
 |_,_,n+1, .cons r t=> .cons r (ni.take n t)
theorem ni.drop:∀{xs:List V}{us:List aj}(n:Nat),ni xs us→ni (xs.drop n) (us.drop n)
 |_,_,0,r=>r
 |_,_,_+1, .nil=> .nil
 |_,_,n+1, .cons _ t=>ni.drop n t
def qW:Option V→Option aj→Prop
 |some v,aa u=>nA v u
 |none,none=>True
 |_,_=>False
def KV {κ:Type}:List (κ×V)→List (κ×aj)→Prop:=a_ λ(p:κ×V) (q:κ×aj)=>p.1=q.1∧nA p.2 q.2
noncomputable def kV:Key→V
 | .inl i=> .int i
 | .inr x=> .str x
inductive HO where
    |bJ (xs:List V)
    |bT (xs:List V)
    |dK (d6:List (Key×V)) |dT (d6:List (List Key×V))
    |set (S:Int→Bool) (n:Nat)
    |ins (C dx:ai) (fs:List (ah×V))
    |own (x:ai)
    |xd (fs:List (ah×V))
    |met (f x:ai)
    |rng (lo hi:Int)
    |frz (o:aJ) (u:HO)
    |tbl (ps:Array aj)
    |ext (φ:aF→Prop)
abbrev Hp:=ai→Option HO
noncomputable def oa (H:Hp) (a:ai) (o:HO):Hp:=λb=>if b=a then aa o else H b
def qb:oa H a o a=aa o:=by unfold oa;rw[if_pos rfl]
def oG (h:b≠a):oa H a o b=H b:=by unfold oa;rw[if_neg h]
def BD{H:Hp}{a b:ai}{o u:HO}(h:H a=aa o) (h':H b=aa u) (d:o≠u):a≠b:=by
 intro e;subst e;rw[h]at h';exact d (aO h')
def qq{H:Hp}{a b:ai}{o:HO}(h:H a=aa o) (h':H b=none):a≠b:=by
 intro e;subst e;rw[h]at h';cases h'
section
variable (P:bb) (w:aQ)
def nM (H:Hp) (h:aF) (a:ai):HO→Prop
 | .bJ xs=>xs.length≤sizeLine∧ ∃(dR:List aj) (n:Nat),ni xs dR∧h.get? a=aa { cls:= .type "list",data:= .seq dR.toArray n }
 | .bT xs=>xs.length≤sizeLine∧ ∃dR:List aj,ni xs dR∧eO h a dR.toArray
 | .dK d6=>d6.length≤sizeLine∧(a == fG)=false∧ ∃vs,KV d6 vs∧h.DictOf (rA P w) a vs
 | .dT d6=>d6.length≤sizeLine∧(a == fG)=false∧ ∃xs:List (List Key×ai×aj),
   a_ (λ(p:List Key×V) (q:List Key×ai×aj)=>p.1=q.1∧H q.2.1=aa (.bT (p.1.map kV))∧nA p.2 q.2.2) d6 xs∧
   ∃o es ep,h.get? a=aa o∧o.ExactDict∧o.data= .dict es ep∧es.toList=xs.map (entryOfKey (cP (rA P w)))∧(xs.map (·.1)).Nodup
 | .set S n=>h.SetOf (intKind P w) a S n
 | .ins C dx fs=>H dx=aa (.own a)∧fs.length≤1000∧dx≠a∧h.get? a=aa (iP C dx)∧
   ∃mA,h.Ns1 dx mA∧(∀f,qW (fs.lookup f) (mA f))∧PySem.Within mA (fs.map (·.1))
 | .own _=>∃o,h.get? a=aa o
 | .xd fs=>∃mA,h.Ns1 a mA∧ ∀f,qW (fs.lookup f) (mA f)
 | .rng lo hi=>∃t u v,h.get? a=aa { cls:= .type "range",data:= .fields #[.int lo t, .int hi u, .int 1 v] }
 | .frz o u=>h.get? a=aa o∧nM H h a u
 | .tbl ps=>h.get? a=aa { cls:= .none,data:= .fields ps }
 | .met f x=>h.get? a=aa (iN (.ref f) (.ref x))
 | .ext φ=>φ h∧(∃o,h.get? a=aa o)∧ ∀h1 h2:aF,φ h1→(∀o,h1.get? a=aa o→h2.get? a=aa o)→φ h2
def oR (H:Hp) (h:aF):Prop:=∀a o,H a=aa o→nM P w H h a o
end
section
variable {P:bb}{w:aQ}{H H':Hp}{h h':aF}{a:ai}{o:HO}
def nM.lt (x:nM P w H h a o):a<h.objs.size:=by
 cases o with
 |bJ xs=>obtain⟨_,_,_,_,e⟩:=x;exact aR e
 |bT xs=>obtain⟨_,_,_,p⟩:=x;exact p.lt
 |dK d6=>obtain⟨_,_,_,_,o,_,_,e,_⟩:=x;exact aR e
 |dT d6=>obtain⟨_,_,_,_,o,_,_,e,_⟩:=x;exact aR e
 |set S n=>obtain⟨o,_,_,_,e,_⟩:=x;exact aR e
 |ins C dx fs=>obtain⟨_,_,_,e,_⟩:=x;exact aR e
 |own y=>obtain⟨_,e⟩:=x;exact aR e
 |xd fs=>obtain⟨_,⟨_,_,_,e,_⟩,_⟩:=x;exact aR e
 |rng lo hi=>obtain⟨_,_,_,e⟩:=x;exact aR e
 |frz ob u=>obtain⟨e,_⟩:=x;exact aR e
 |tbl ps=>exact aR (show h.get? a=aa _ from x)
 |met f y=>exact aR (show h.get? a=aa _ from x)
 |ext φ=>obtain⟨_,⟨_,e⟩,_⟩:=x;exact aR e
def Paired.mapP{α β:Type}{F G:α→β→Prop}:∀{l₁:List α}{l₂:List β},a_ F l₁ l₂→(∀a b,F a b→G a b)→a_ G l₁ l₂:=λ{l₁ l₂} h f=>by
 induction h with
 |nil=>exact .nil
 |cons r _ ih=>exact .cons (f _ _ r) ih
def nM.stay (x:nM P w H h a o) (k:∀b u,(b=a∨H b=aa (.own a))→h.get? b=aa u→h'.get? b=aa u)
  (ho:∀b,H b=aa (.own a)→H' b=aa (.own a)) (ht:∀b xs,H b=aa (.bT xs)→H' b=aa (.bT xs)):nM P w H' h' a o:=by
 induction o with
 |bJ xs=>obtain⟨z,dR,n,r,e⟩:=x;exact⟨z,dR,n,r,k _ _ (.inl rfl) e⟩
 |bT xs=>obtain⟨z,dR,r,ob,e,c⟩:=x;exact⟨z,dR,r,ob,k _ _ (.inl rfl) e,c⟩
 |dK d6=>obtain⟨z,y,vs,r,ob,es,ep,e,c⟩:=x;exact⟨z,y,vs,r,ob,es,ep,k _ _ (.inl rfl) e,c⟩
 |dT d6=>
  obtain⟨z,y,xs,r,ob,es,ep,e,c⟩:=x;exact⟨z,y,xs,Paired.mapP r λp q z=>⟨z.1,ht _ _ z.2.1,z.2.2⟩,ob,es,ep,k _ _ (.inl rfl) e,c⟩
 |set S n=>obtain⟨ob,es,ep,t,e,c⟩:=x;exact⟨ob,es,ep,t,k _ _ (.inl rfl) e,c⟩
 |ins C dx fs=>
  obtain⟨d,z,ne,e,mA,⟨od,es,ep,e2,c⟩,r⟩:=x;exact⟨ho _ d,z,ne,k _ _ (.inl rfl) e,mA,⟨od,es,ep,k _ _ (.inr d) e2,c⟩,r⟩
 |own y=>obtain⟨ob,e⟩:=x;exact⟨ob,k _ _ (.inl rfl) e⟩
 |xd fs=>obtain⟨mA,⟨od,es,ep,e,c⟩,r⟩:=x;exact⟨mA,⟨od,es,ep,k _ _ (.inl rfl) e,c⟩,r⟩
 |rng lo hi=>obtain⟨t,u,v,e⟩:=x;exact⟨t,u,v,k _ _ (.inl rfl) e⟩
 |frz ob u ih=>obtain⟨e,q⟩:=x;exact⟨k _ _ (.inl rfl) e,ih q⟩
 |tbl ps=>
  have e:h.get? a=aa { cls:= .none,data:= .fields ps }:=x;show h'.get? a=aa { cls:= .none,data:= .fields ps };exact k a _ (.inl rfl) e
 |met f y=>
  have e:h.get? a=aa (iN (.ref f) (.ref y)):=x;show h'.get? a=aa (iN (.ref f) (.ref y));exact k a _ (.inl rfl) e
 |ext φ=>obtain⟨p,⟨o,e⟩,st⟩:=x;exact⟨st _ _ p λo q=>k _ _ (.inl rfl) q,⟨o,k _ _ (.inl rfl) e⟩,st⟩
def oR.lt (x:oR P w H h) (e:H a=aa o):a<h.objs.size:=(x a o e).lt
def oR.fresh (x:oR P w H h) (e:h.objs.size≤a):H a=none:=by
 cases q:H a with
 |none=>rfl
 |some u=>exact absurd (b7 (x.lt q) e) (cK _)
def oR.kept (x:oR P w H h) (k:∀b u,h.get? b=aa u→h'.get? b=aa u):oR P w H h':=λa o e=>
 (x a o e).stay (λb u _ q=>k b u q) (λ_ q=>q) λ_ _ q=>q
def oR.laid (x:oR P w H h) (k:∀b u,h.get? b=aa u→h'.get? b=aa u) (hp:h.objs.size≤a) (new:nM P w (oa H a o) h' a o):oR P w (oa H a o) h':=λb u e=>by
 have hn:=x.fresh hp;by_cases hb:b=a
 ·subst hb;rw[qb]at e;cases e;exact new
 ·rw[oG hb]at e;exact(x b u e).stay (λc v _ q=>k c v q) (λc q=>by rw[oG (qq q hn)];exact q) λc xs q=>by rw[oG (qq q hn)];exact q
end
def Rd (H:Hp) (a:ai) (u:HO):Prop:=H a=aa u∨ ∃o,H a=aa (.frz o u)
def Rd.ok (r:Rd H a u) (x:oR P w H h):nM P w H h a u:=by
 obtain r |⟨o,r⟩:=r
 ·exact x a u r
 ·obtain⟨_,q⟩:=x a _ r;exact q
def Dt:Option HO→Prop
 |some (.bJ _)=>True
 |some (.dK _)=>True
 |some (.dT _)=>True
 |some (.set _ _)=>True
 |some (.ins _ _ _)=>True
 |some (.ext _)=>True
 |_=>False
section
variable {P:bb}{w:aQ}{H:Hp}{h h':aF}{x e:ai}{o':HO}
def oR.write (ok:oR P w H h) (mu:Dt (H x)) (he:e=x∨H e=aa (.own x)) (k:∀b u,b≠e→h.get? b=aa u→h'.get? b=aa u) (heo:∃u,h'.get? e=aa u)
  (new:nM P w (oa H x o') h' x o'):oR P w (oa H x o') h':=λb u q=>by
 have nown:∀c y,H c=aa (.own y)→c≠x:=λc y r z=>by subst z;rw[r]at mu;exact mu
 have ntup:∀c xs,H c=aa (.bT xs)→c≠x:=λc xs r z=>by subst z;rw[r]at mu;exact mu
 by_cases hb:b=x
 ·subst hb;rw[qb]at q;cases q;exact new
 ·rw[oG hb]at q;by_cases hbe:b=e
  ·have q':H b=aa (.own x):=by
    obtain z |z:=he
    ·exact absurd (hbe.trans z) hb
    ·rw[hbe];exact z
   rw[q]at q';cases q';obtain⟨v,hv⟩:=heo;exact⟨v,by rw[hbe];exact hv⟩
  ·refine(ok b u q).stay (λc v hc r=>k c v ?_ r) (λc r=>by rw[oG (nown c b r)];exact r) λc xs r=>by rw[oG (ntup c xs r)];exact r
   obtain rfl |hc:=hc
   ·exact hbe
   ·rintro rfl;obtain z |z:=he
    ·exact nown c b hc z
    ·rw[hc]at z;cases z;exact hb rfl
end
structure Un (fs ex:List ai) (H H':Hp) (h h':aF):Prop where
  keep:∀b o,h.get? b=aa o→H b=none→b∉fs→b∉ex→h'.get? b=aa o
  slot:∀b o,h.get? b=aa o→H b=none→b∈fs→b∉ex→ ∃sl,h'.get? b=aa { o with slots:=sl }
  free:∀b o,h.get? b=aa o→H b=none→b∉ex→H' b=none
  there:∀b o,h.get? b=aa o→b∉ex→ ∃o',h'.get? b=aa o'
  tups:∀b xs,H b=aa (.bT xs)→H' b=aa (.bT xs)
  frzs:∀b o u,H b=aa (.frz o u)→H' b=aa (.frz o u)
  tbls:∀b ps,H b=aa (.tbl ps)→ ∃more,H' b=aa (.tbl (ps++more))
section
variable {fs ex:List ai}{H H1:Hp}{h h1 h':aF}{a x e:ai}{o:HO}
def Un.any (u:Un fs ex H H1 h h1) {b:ai}{ob:aJ}(q:h.get? b=aa ob) (n:H b=none) (hx:b∉ex):∃sl,h1.get? b=aa { ob with slots:=sl }:=by
 by_cases hb:b∈fs
 ·exact u.slot b ob q n hb hx
 ·exact⟨ob.slots,u.keep b ob q n hb hx⟩
def Un.kept (k:∀b u,h.get? b=aa u→h'.get? b=aa u):Un fs ex H H h h':=
 ⟨λb ob q _ _ _=>k b ob q,λb ob q _ _ _=>⟨ob.slots,k b ob q⟩,λ_ _ _ n _=>n,λb ob q _=>⟨ob,k b ob q⟩,λ_ _ q=>q,λ_ _ _ q=>q,λ_ ps q=>⟨#[],by rw[q];simp⟩⟩
def Un.refl:Un fs ex H H h h:=Un.kept λ_ _ q=>q
def Un.laid (k:∀b u,h.get? b=aa u→h'.get? b=aa u) (hp:h.objs.size≤a) (hn:H a=none):Un fs ex H (oa H a o) h h' where
  keep:=λb u q _ _ _=>k b u q
  slot:=λb u q _ _ _=>⟨u.slots,k b u q⟩
  free:=λb u q n _=>by rw[oG (bR (b7 (aR q) hp))];exact n
  there:=λb u q _=>⟨u,k b u q⟩
  tups:=λb xs q=>by rw[oG (qq q hn)];exact q
  frzs:=λb u xs q=>by rw[oG (qq q hn)];exact q
  tbls:=λb ps q=>⟨#[],by rw[oG (qq q hn),q];simp⟩
def Un.write (mu:Dt (H x)) (he:e=x∨H e=aa (.own x)) (k:∀b u,b≠e→h.get? b=aa u→h'.get? b=aa u) (heo:∃u,h'.get? e=aa u):Un fs ex H (oa H x o) h h':=by
 have hx:∀b,H b=none→b≠x:=λb n z=>by subst z;rw[n]at mu;exact mu
 have hb:∀b,H b=none→b≠e:=λb n z=>by
  subst z;obtain r |r:=he
  ·exact hx b n r
  ·rw[n]at r;cases r
 have hm:∀b u,H b=aa u→ ¬Dt (aa u)→b≠x:=λb u q nm z=>by subst z;rw[q]at mu;exact nm mu
 refine⟨λb u q n _ _=>k b u (hb b n) q,λb u q n _ _=>⟨u.slots,k b u (hb b n) q⟩,λb u q n _=>by rw[oG (hx b n)];exact n,λb u q _=>?_,
  λb xs q=>by rw[oG (hm b _ q λz=>z)];exact q,λb u xs q=>by rw[oG (hm b _ q λz=>z)];exact q,λb ps q=>⟨#[],by rw[oG (hm b _ q λz=>z),q];simp⟩⟩
 by_cases hbe:b=e
 ·subst hbe;exact heo
 ·exact⟨u,k b u hbe q⟩
end
noncomputable def BB (h:aF) (H:Hp):List ai:=(bD h.objs.size).filter λa=>(H a).isSome
noncomputable def uN (h:aF) (H:Hp):aF:=f_ h (BB h H)
def QM (h:aF) (H:Hp):(uN h H).objs.size=h.objs.size:=PySem.W.hideAll_size _ _
def Uc (e:h.get? b=aa o) (n:H b=none):(uN h H).get? b=aa o:=
 jR _ e λhm=>by
  have q:(H b).isSome=true:=(dA.mp hm).2;rw[n]at q;simp at q
def RO (e:(uN h H).get? b=aa o):h.get? b=aa o∧H b=none:=by
 have e':h.get? b=aa o:=i8 (BB h H) e;refine⟨e',?_⟩;cases q:H b with
 |none=>rfl
 |some x=>
  have hm:b∈BB h H:=dA.mpr ⟨fJ.mpr (aR e'),by simp [q]⟩
  have z:(uN h H).get? b=none:=gJ (BB h H) hm;rw[z]at e;cases e
noncomputable def U5 (g h:aF) (L:ai):List (ai×aJ):=(bD h.objs.size).filterMap λa=>if a=L∨(g.get? a).isSome=true then none else(h.get? a).map λo=>(a,o)
noncomputable def rest (g h:aF) (L d:ai):List (ai×aJ):=(U5 g h L).filter λp=>decide (p.1≠d)
structure Mod (K:am) (mg:ah→Option aj) (base:aF):Prop where
  kin:K.In base
  glob:base.Ns aY mg
  blt:∃mb,base.Ns i7 mb∧ ∀x:ah,x≠ "__name__" →mb x=cI x
  nolimit:base.NoLimit
structure Cx where
  prog:bb
  w:aQ
  K:am
  mg:ah→Option aj
  base:aF
  A:bx
  N:List ah
  s₀:aq
  H₀:Hp
  env:bS
  outer:List bS
  stack:List bS
  ex:List ai
  fn:ah→Bool
  calm:Bool
  pn:List (ai×aJ)
  xe:aj→aq→Prop
noncomputable def frs (l:List bS):List ai:=l.filterMap (·.frame)
noncomputable abbrev Cx.fs (X:Cx):List ai:=frs X.outer
def wD (sc:Scope) (x:ah):Prop:=sc.names.lookup x=aa .local∨sc.names.lookup x=aa .cell∨sc.names.lookup x=aa .free
def tZ (sc:Scope) (x:ah):Prop:=sc.names.lookup x=aa .local∨sc.names.lookup x=aa .cell
def Wx (env:bS) (h:aF) (m:ah→Option aj) (x:ah) (u:aj):Prop:=
 (env.kindOf x=aa .local∧m x=aa u)∨((env.kindOf x=aa .cell∨env.kindOf x=aa .free)∧ ∃c,env.cells.lookup x=aa c∧h.IsCell c (aa u))
structure Cx.Ok (X:Cx):Prop where
  mod:Mod X.K X.mg X.base
  kind:X.env.scope.kind= .function
  glob:X.env.globals=aY
  blt:X.env.builtins=i7
  above:X.s₀.heap.objs.size≤X.env.locals
  inj:∀x y c,X.env.cells.lookup x=aa c→X.env.cells.lookup y=aa c→x=y
  has:∀x,(X.env.kindOf x=aa .cell∨X.env.kindOf x=aa .free)→ ∃c,X.env.cells.lookup x=aa c
  cab:∀x c,X.fn x=true→X.env.cells.lookup x=aa c→X.s₀.heap.objs.size≤c
  hd:X.calm=true→X.A.handled=none
  frames:X.A.frames=aa X.stack
  stk:X.stack=X.outer∨(X.stack=X.env::X.outer∧X.env.frame=aa X.env.locals)
  exf:∀b∈X.ex,b≠X.env.locals∧ ∀x c,X.env.cells.lookup x=aa c→c≠b
  bs:∀b o,X.base.get? b=aa o→X.s₀.heap.get? b=aa o∧X.H₀ b=none
  bsz:X.base.objs.size≤X.s₀.heap.objs.size
  noex:∀b o,X.base.get? b=aa o→b∉X.ex
  exfs:∀b∈X.ex,b∉X.fs
  funs:X.s₀.heap.FunFrames X.base X.outer
  frf:∀b∈X.fs,X.H₀ b=none
structure mW (X:Cx) (ag:List (ai×aJ)) (σ:List (Option V)) (H:Hp) (s:aq):Prop where
  ok:X.Ok
  os:s.os=X.s₀.os
  bare:cF s.gens
  base:Un X.fs X.ex X.H₀ H X.s₀.heap s.heap
  loc:∃m,s.heap.Ns X.env.locals m∧ ∀(i:Nat) (x:ah) (v:V),X.N[i]? =aa x→σ[i]? =aa (aa v)→wD X.env.scope x→ ∃u,nA v u∧Wx X.env s.heap m x u
  cell:∀x c,X.env.cells.lookup x=aa c→ ∃v,s.heap.IsCell c v
  free:H X.env.locals=none
  freeC:∀x c,X.env.cells.lookup x=aa c→H c=none
  pin:∀p∈X.pn++ag,s.heap.get? p.1=aa p.2∧H p.1=none∧p.1≠X.env.locals∧p.1∉X.fs∧ ∀v,p.2.data≠ .cell v
  cq:oR X.prog X.w H s.heap
  len:σ.length=X.N.length
section
variable {X:Cx}{ag:List (ai×aJ)}{σ:List (Option V)}{H H':Hp}{s:aq}{h':aF}
def Cx.Ok.nofr (ok:X.Ok) (e:X.base.get? b=aa o):b∉X.fs:=λhb=>by
 have:=(ok.funs.mem hb).1;rw[e]at this;cases this
def mW.bs (I:mW X ag σ H s):∀b o,X.base.get? b=aa o→s.heap.get? b=aa o∧H b=none:=λb o e=>
 ⟨I.base.keep b o (I.ok.bs b o e).1 (I.ok.bs b o e).2 (I.ok.nofr e) (I.ok.noex b o e),I.base.free b o (I.ok.bs b o e).1 (I.ok.bs b o e).2 (I.ok.noex b o e)⟩
def mW.bk (I:mW X ag σ H s):∀b o,X.base.get? b=aa o→s.heap.get? b=aa o:=λb o e=>(I.bs b o e).1
def mW.mod (I:mW X ag σ H s):Mod X.K X.mg X.base:=I.ok.mod
def mW.kIn (I:mW X ag σ H s):X.K.In s.heap:=I.ok.mod.kin.keeps I.bk
def mW.lt (I:mW X ag σ H s):X.env.locals<s.heap.objs.size:=let ⟨_,hn,_⟩:=I.loc;hn.lt
def mW.sz (I:mW X ag σ H s):X.s₀.heap.objs.size≤s.heap.objs.size:=aX I.ok.above (jp I.lt)
def mW.nofs (I:mW X ag σ H s) (h:s.heap.objs.size≤a):a∉X.fs:=λhb=>by
 obtain⟨_,o,ho,_⟩:=I.ok.funs.mem hb;exact absurd (b7 (aR ho) (aX I.sz h)) (cK _)
def mW.cne (I:mW X ag σ H s):∀x c,X.env.cells.lookup x=aa c→c≠X.env.locals:=λx c e z=>by
 obtain⟨v,o,ho,hd⟩:=I.cell x c e;obtain⟨m,⟨o',es,ep,ho',hd',_⟩,_⟩:=I.loc;rw[z,ho']at ho;cases ho;rw[hd']at hd;cases hd
def mW.funs (I:mW X ag σ H s):s.heap.FunFrames X.base X.outer:=by
 have all:∀(l:List bS),(∀b∈frs l,b∈X.fs)→X.s₀.heap.FunFrames X.base l→s.heap.FunFrames X.base l:=by
  intro l
  induction l with
  |nil=>intro _ _;trivial
  |cons env r ih=>
   intro hs hl;obtain⟨hk,⟨L,o,hf,hn,ho,hd⟩,hr⟩:=hl;have hL:L∈X.fs:=hs L (by unfold frs;rw[gh,hf];exact aI);obtain⟨sl,e⟩:=I.base.slot L o ho (I.ok.frf L hL) hL λz=>I.ok.exfs L z hL;exact⟨hk,⟨L,_,hf,hn,e,hd⟩,ih (λb hb=>hs b (by unfold frs;rw[gh,hf];exact aG _ hb)) hr⟩
 exact all X.outer (λ_ hb=>hb) I.ok.funs
def mW.stack (I:mW X ag σ H s):s.heap.FunFrames X.base X.stack:=by
 obtain e |⟨e,hf⟩:=I.ok.stk
 ·rw[e];exact I.funs
 ·rw[e];obtain⟨m,hn,_⟩:=I.loc;refine .cons (by rw[I.ok.kind];decide) hf hn ?_ I.funs;exact aF.get?_none_of_le (aX I.ok.bsz I.ok.above)
def mW.stkSub (I:mW X ag σ H s):∀b∈frs X.stack,b∈X.env.locals::X.fs:=λb hb=>by
 obtain e |⟨e,hf⟩:=I.ok.stk
 ·rw[e]at hb;exact aG _ hb
 ·rw[e]at hb;unfold frs at hb;rw[gh,hf]at hb;exact hb
def mW.stkFree (I:mW X ag σ H s):∀b∈frs X.stack,H b=none:=λb hb=>by
 obtain e |hb:=aB.mp (I.stkSub b hb)
 ·rw[e];exact I.free
 ·obtain⟨_,o,ho,_⟩:=I.ok.funs.mem hb;exact I.base.free b o ho (I.ok.frf b hb) λz=>I.ok.exfs b z hb
def mW.step{g':Array GenState}{t':Nat}{d':Drawn}{ch:List ai}(I:mW X ag σ H s)
  (hch:∀b∈ch,(b∈X.ex∨X.s₀.heap.objs.size≤b)∧b≠X.env.locals∧(∀x c,X.env.cells.lookup x=aa c→c≠b)∧ ∀p∈X.pn++ag,p.1≠b)
  (keep:∀b o,b≠X.env.locals→b∉X.fs→b∉ch→s.heap.get? b=aa o→H b=none→h'.get? b=aa o)
  (slot:∀b o,b≠X.env.locals→b∈X.fs→b∉ch→s.heap.get? b=aa o→H b=none→ ∃sl,h'.get? b=aa { o with slots:=sl }) (free:∀b o,b∉ch→s.heap.get? b=aa o→H b=none→H' b=none)
  (there:∀b o,b∉ch→s.heap.get? b=aa o→ ∃o',h'.get? b=aa o')
  (tups:∀b xs,H b=aa (.bT xs)→H' b=aa (.bT xs)) (frzs:∀b o u,H b=aa (.frz o u)→H' b=aa (.frz o u)) (tbls:∀b ps,H b=aa (.tbl ps)→ ∃more,H' b=aa (.tbl (ps++more)))
  (ns:∀m,s.heap.Ns X.env.locals m→h'.Ns X.env.locals m) (cq:oR X.prog X.w H' h') (hg:cF g') :
  mW X ag σ H' { s with heap:=h',gens:=g',drawn:=d',toks:=t' }:=by
 have neL:∀b o,X.s₀.heap.get? b=aa o→b≠X.env.locals:=λb o e=>bR (b7 (aR e) I.ok.above);have neC:∀b o,X.s₀.heap.get? b=aa o→b∉X.ex→b∉ch:=λb o e hx hb=>by
  rcases(hch b hb).1 with z |z
  ·exact hx z
  ·exact absurd (b7 (aR e) z) (cK _)
 have cellK:∀x c,X.env.cells.lookup x=aa c→ ∀v,s.heap.IsCell c v→h'.IsCell c v:=λx c e v ⟨o,ho,hd⟩=>by
  have nch:c∉ch:=λz=>(hch c z).2.2.1 x c e rfl;by_cases hc:c∈X.fs
  ·obtain⟨sl,q⟩:=slot c o (I.cne x c e) hc nch ho (I.freeC x c e);exact⟨_,q,hd⟩
  ·exact⟨o,keep c o (I.cne x c e) hc nch ho (I.freeC x c e),hd⟩
 refine⟨I.ok,I.os,hg,⟨λb o e n hb hx=>?_,λb o e n hb hx=>?_,λb o e n hx=>?_,λb o e hx=>?_,λb xs e=>tups b xs (I.base.tups b xs e),λb o xs e=>frzs b o xs (I.base.frzs b o xs e),λb ps e=>?_⟩,?_,λx c e=>?_,?_,λx c e=>?_,λp hp=>?_,cq,I.len⟩
 ·exact keep b o (neL b o e) hb (neC b o e hx) (I.base.keep b o e n hb hx) (I.base.free b o e n hx)
 ·obtain⟨sl,e1⟩:=I.base.slot b o e n hb hx;obtain⟨sl',e2⟩:=slot b _ (neL b o e) hb (neC b o e hx) e1 (I.base.free b o e n hx);exact⟨sl',e2⟩
 ·obtain⟨o',e1⟩:=I.base.there b o e hx;exact free b o' (neC b o e hx) e1 (I.base.free b o e n hx)
 ·obtain⟨o',e1⟩:=I.base.there b o e hx;exact there b o' (neC b o e hx) e1
 ·obtain⟨m1,e1⟩:=I.base.tbls b ps e;obtain⟨m2,e2⟩:=tbls b _ e1;exact⟨m1++m2,by rw[e2,Array.append_assoc]⟩
 ·obtain⟨m,hn,hl⟩:=I.loc;refine⟨m,ns m hn,λi x v e1 e2 e3=>?_⟩;obtain⟨u,r,l⟩:=hl i x v e1 e2 e3;refine⟨u,r,?_⟩;obtain l |⟨k,c,e,z⟩:=l
  ·exact .inl l
  ·exact .inr ⟨k,c,e,cellK x c e _ z⟩
 ·obtain⟨v,z⟩:=I.cell x c e;exact⟨v,cellK x c e v z⟩
 ·obtain⟨m,⟨o,_,_,ho,_⟩,_⟩:=I.loc;exact free _ o (λz=>(hch _ z).2.1 rfl) ho I.free
 ·obtain⟨v,o,ho,hd⟩:=I.cell x c e;exact free c o (λz=>(hch c z).2.2.1 x c e rfl) ho (I.freeC x c e)
 ·obtain⟨e,n,ne,nf,d⟩:=I.pin p hp;have nch:p.1∉ch:=λz=>(hch p.1 z).2.2.2 p hp rfl;exact⟨keep p.1 p.2 ne nf nch e n,free p.1 p.2 nch e n,ne,nf,d⟩
def mW.un{t':Nat}(I:mW X ag σ H s) (u:Un X.fs [] H H' s.heap h') (cq:oR X.prog X.w H' h'):mW X ag σ H' { s with heap:=h',toks:=t' }:=by
 obtain⟨m,⟨o,es,ep,ho,r⟩,_⟩:=id I.loc;obtain⟨sl,hL⟩:=u.any ho I.free `s;exact I.step (g':=s.gens) (d':=s.drawn) (ch:=[]) (λ_ z=>nomatch z) (λb o _ hb _ e n=>u.keep b o e n hb `s) (λb o _ hb _ e n=>u.slot b o e n hb `s) (λb o _ e n=>u.free b o e n `s) (λb o _ e=>u.there b o e `s) u.tups u.frzs u.tbls (λm' hm=>by
  obtain⟨o',es',ep',ho',r'⟩:=hm;rw[ho]at ho';cases ho';exact⟨_,es',ep',hL,r'⟩) cq I.bare
def mW.call{g':Array GenState}{t':Nat}{d':Drawn}{ch:List ai}(I:mW X ag σ H s) (u:Un (frs X.stack) ch H H' s.heap h') (cq:oR X.prog X.w H' h') (hg:cF g')
  (hch:∀b∈ch,(b∈X.ex∨X.s₀.heap.objs.size≤b)∧b≠X.env.locals∧(∀x c,X.env.cells.lookup x=aa c→c≠b)∧ ∀p∈X.pn++ag,p.1≠b) :
  mW X ag σ H' { s with heap:=h',gens:=g',drawn:=d',toks:=t' }:=by
 obtain⟨m,⟨o,es,ep,ho,r⟩,_⟩:=id I.loc;obtain⟨sl,hL⟩:=u.any ho I.free λz=>(hch _ z).2.1 rfl;exact I.step (ch:=ch) hch (λb o hL hb hc e n=>u.keep b o e n (λz=>(aB.mp (I.stkSub b z)).elim hL hb) hc) (λb o _ _ hc e n=>u.any e n hc) (λb o hc e n=>u.free b o e n hc) (λb o hc e=>u.there b o e hc) u.tups u.frzs u.tbls (λm' hm=>by
  obtain⟨o',es',ep',ho',r'⟩:=hm;rw[ho]at ho';cases ho';exact⟨_,es',ep',hL,r'⟩) cq hg
def mW.turned{t':Nat}(I:mW X ag σ H s) (k:∀b o,b≠it→s.heap.get? b=aa o→h'.get? b=aa o) (hn:H it=none) (hL:it≠X.env.locals)
  (h1:it∈X.ex∨X.s₀.heap.objs.size≤it) (h2:∀x c,X.env.cells.lookup x=aa c→c≠it) (h3:∀p∈X.pn++ag,p.1≠it):mW X ag σ H { s with heap:=h',toks:=t' }:=by
 have nit:∀b u,H b=aa u→b≠it:=λb u e z=>by rw[z,hn]at e;cases e
 refine I.step (g':=s.gens) (d':=s.drawn) (ch:=[it]) (λb hb=>?_) (λb o _ _ hc e _=>k b o (λz=>hc (by simp [z])) e) (λb o _ _ hc e _=>⟨o.slots,k b o (λz=>hc (by simp [z])) e⟩) (λ_ _ _ _ n=>n)
  (λb o hc e=>⟨o,k b o (λz=>hc (by simp [z])) e⟩) (λ_ _ e=>e) (λ_ _ _ e=>e) (λb ps e=>⟨#[],by rw[e];simp⟩) (λm hm=>?_) (λb u e=>?_) I.bare
 ·have e:b=it:=by simpa using hb
  subst e;exact⟨h1,hL,h2,h3⟩
 ·obtain⟨o,es,ep,ho,r⟩:=hm;exact⟨o,es,ep,k _ o (bG hL) ho,r⟩
 ·refine(I.cq b u e).stay (λc v hc q=>k c v ?_ q) (λ_ q=>q) λ_ _ q=>q;obtain z |z:=hc
  ·rw[z];exact nit b u e
  ·exact nit c _ z
def mW.tok (I:mW X ag σ H s) (t:Nat):mW X ag σ H { s with toks:=t }:=I.un (h':=s.heap) (t':=t) Un.refl I.cq
def mW.kept{t':Nat}(I:mW X ag σ H s) (k:∀b u,s.heap.get? b=aa u→h'.get? b=aa u):mW X ag σ H { s with heap:=h',toks:=t' }:=I.un (Un.kept k) (I.cq.kept k)
def mW.laid{t':Nat}(I:mW X ag σ H s) (k:∀b u,s.heap.get? b=aa u→h'.get? b=aa u) (hp:s.heap.objs.size≤a) (new:nM X.prog X.w (oa H a o) h' a o) :
  mW X ag σ (oa H a o) { s with heap:=h',toks:=t' }:=I.un (Un.laid k hp (I.cq.fresh hp)) (I.cq.laid k hp new)
def mW.write{t':Nat}(I:mW X ag σ H s) (mu:Dt (H x)) (he:e=x∨H e=aa (.own x)) (k:∀b u,b≠e→s.heap.get? b=aa u→h'.get? b=aa u) (heo:∃u,h'.get? e=aa u)
  (new:nM X.prog X.w (oa H x o) h' x o):mW X ag σ (oa H x o) { s with heap:=h',toks:=t' }:=I.un (Un.write mu he k heo) (I.cq.write mu he k heo new)
def mW.pins_of (I:mW X ag σ H s) (h:∀p∈pins',s.heap.get? p.1=aa p.2∧H p.1=none∧p.1≠X.env.locals∧p.1∉X.fs∧ ∀v,p.2.data≠ .cell v):mW X pins' σ H s:=
 ⟨I.ok,I.os,I.bare,I.base,I.loc,I.cell,I.free,I.freeC,λp hp=>(bu.mp hp).elim (λz=>I.pin p (eJ _ z)) (h p),I.cq,I.len⟩
def IJ{N:List ah}(hN:N.Nodup) {i j:Nat}{x:ah}(a:N[i]? =aa x) (b:N[j]? =aa x):i=j:=by
 obtain⟨h1,e1⟩:=cj.mp a;obtain⟨h2,e2⟩:=cj.mp b;exact(List.getElem_inj hN).mp (e1.trans e2.symm)
def Ju{E:aj→aq→Prop}{Q:Unit→aq→Prop}(I:mW X ag σ H s) (hN:X.N.Nodup) (hi:X.N[i]? =aa x) (hx:tZ X.env.scope x) (r:nA v u)
  (h:∀s',mW X ag (σ.set i (aa v)) H s'→(∃a,cN a s.heap s'.heap∧(a=X.env.locals∨X.env.cells.lookup x=aa a))→Q () s') (hf:X.fn x=true∨X.env.scope.names.lookup x=aa .local:=by first |exact .inl rfl |exact .inr rfl |assumption):av M A (iX X.env x u) Q E s:=by
 obtain⟨m,hn,hl⟩:=id I.loc;have hcls:(X.env.scope.kind == .class || (X.env.scope.kind == .module&&X.env.locals != X.env.globals))=false:=by rw[I.ok.kind];rfl
 have hiσ:i<σ.length:=by rw[I.len];exact(cj.mp hi).1
 have cne:=I.cne;have tracked:∀{a:ai}{h':aF},(∃o,s.heap.get? a=aa o∧H a=none)→cN a s.heap h'→oR X.prog X.w H h':=λ{a h'} ha hs b ob e=>by
  obtain⟨_,_,hfree⟩:=ha;refine(I.cq b ob e).stay (λc w' hc q=>(hs.2 c ?_).trans q) (λ_ q=>q) λ_ _ q=>q;rintro rfl;obtain rfl |hc:=hc
  ·rw[hfree]at e;cases e
  ·rw[hfree]at hc;cases hc
 obtain hk |hk:=hx
 ·refine wpAny_storeName_local hk hn (λh' hn' hs=>?_) hcls;obtain⟨oL,_,_,hoL,_⟩:=id hn;refine h _ ⟨I.ok,I.os,I.bare,⟨λb o e n hb hx=>?_,λb o e n hb hx=>?_,I.base.free,λb o e hx=>?_,I.base.tups,I.base.frzs,I.base.tbls⟩,⟨_,hn',λj y v' e1 e2 e3=>?_⟩,λy c e=>?_,I.free,I.freeC,λp hp=>?_,tracked ⟨oL,hoL,I.free⟩ hs,by simpa using I.len⟩ ⟨_,hs, .inl rfl⟩
  ·exact(hs.2 b (bR (b7 (aR e) I.ok.above))).trans (I.base.keep b o e n hb hx)
  ·obtain⟨sl,e1⟩:=I.base.slot b o e n hb hx;exact⟨sl,(hs.2 b (bR (b7 (aR e) I.ok.above))).trans e1⟩
  ·obtain⟨o',e1⟩:=I.base.there b o e hx;exact⟨o',(hs.2 b (bR (b7 (aR e) I.ok.above))).trans e1⟩
  ·by_cases hj:j=i
   ·subst hj;rw[hi]at e1;cases e1;rw[gS hiσ]at e2;cases e2;exact⟨u,r, .inl ⟨hk,`s⟩⟩
   ·rw[jH (bG hj)]at e2;obtain⟨u',r',q⟩:=hl j y v' e1 e2 e3;refine⟨u',r',?_⟩;obtain ⟨k,e⟩ |⟨k,c,e,z⟩:=q
    ·refine .inl ⟨k,?_⟩;have:y≠x:=λe=>hj (IJ hN e1 (e▸hi));simp [this,e]
    ·exact .inr ⟨k,c,e,z.sameBut hs (cne y c e)⟩
  ·obtain⟨w',z⟩:=I.cell y c e;exact⟨w',z.sameBut hs (cne y c e)⟩
  ·obtain⟨e,n,ne,nf,d⟩:=I.pin p hp;exact⟨(hs.2 p.1 ne).trans e,n,ne,nf,d⟩
 ·have hfn:X.fn x=true:=by
   obtain z |z:=hf
   ·exact z
   ·rw[z]at hk;cases hk
  obtain⟨c,hc⟩:=I.ok.has x (.inl hk);obtain⟨w',z⟩:=I.cell x c hc;refine wpAny_storeName_cell I.ok.kind hk hc z (λh' hc' hs=>?_);obtain⟨oc,hoc,hocd⟩:=id z;refine h { s with heap:=h' } ⟨I.ok,I.os,I.bare,⟨λb o e n hb hx=>?_,λb o e n hb hx=>?_,I.base.free,λb o e hx=>?_,I.base.tups,I.base.frzs,I.base.tbls⟩,⟨m,hn.sameBut hs (bG (cne x c hc)),λj y v' e1 e2 e3=>?_⟩,λy c' e=>?_,I.free,I.freeC,λp hp=>?_,tracked ⟨oc,hoc,I.freeC x c hc⟩ hs,by simpa using I.len⟩ ⟨c,hs, .inr hc⟩
  ·exact(hs.2 b (bR (b7 (aR e) (I.ok.cab x c hfn hc)))).trans (I.base.keep b o e n hb hx)
  ·obtain⟨sl,e1⟩:=I.base.slot b o e n hb hx;exact⟨sl,(hs.2 b (bR (b7 (aR e) (I.ok.cab x c hfn hc)))).trans e1⟩
  ·obtain⟨o',e1⟩:=I.base.there b o e hx;exact⟨o',(hs.2 b (bR (b7 (aR e) (I.ok.cab x c hfn hc)))).trans e1⟩
  ·by_cases hj:j=i
   ·subst hj;rw[hi]at e1;cases e1;rw[gS hiσ]at e2;cases e2;exact⟨u,r, .inr ⟨.inl hk,c,hc,hc'⟩⟩
   ·rw[jH (bG hj)]at e2;obtain⟨u',r',q⟩:=hl j y v' e1 e2 e3;refine⟨u',r',?_⟩;obtain q |⟨k,c',e,z'⟩:=q
    ·exact .inl q
    ·refine .inr ⟨k,c',e,z'.sameBut hs ?_⟩;rintro rfl;exact hj (IJ hN e1 (I.ok.inj _ _ _ e hc▸hi))
  ·by_cases hcc:c'=c
   ·subst hcc;exact⟨_,hc'⟩
   ·obtain⟨w2,z2⟩:=I.cell y c' e;exact⟨w2,z2.sameBut hs hcc⟩
  ·obtain⟨e,n,ne,nf,d⟩:=I.pin p hp;refine⟨(hs.2 p.1 ?_).trans e,n,ne,nf,d⟩;intro q;rw[q,hoc]at e;have q':oc=p.2:=aO e;exact d w' (by rw[←q'];exact hocd)
def Gj{E:aj→aq→Prop}{Q:Unit→aq→Prop}(I:mW X ag σ H s) (hN:X.N.Nodup) (hi:X.N[i]? =aa x) (hx:tZ X.env.scope x) (r:nA v u)
  (h:∀s',mW X ag (σ.set i (aa v)) H s'→Q () s') (hf:X.fn x=true∨X.env.scope.names.lookup x=aa .local:=by first |exact .inl rfl |exact .inr rfl |assumption):av M A (iX X.env x u) Q E s:=
 Ju I hN hi hx r (λs' I' _=>h s' I') hf
def mW.call' (I:mW X ag σ H s) (ho:s'.os=s.os) (u:Un (frs X.stack) ch H H' s.heap s'.heap) (cq:oR X.prog X.w H' s'.heap) (hg:cF s'.gens)
  (hch:∀b∈ch,(b∈X.ex∨X.s₀.heap.objs.size≤b)∧b≠X.env.locals∧(∀x c,X.env.cells.lookup x=aa c→c≠b)∧ ∀p∈X.pn++ag,p.1≠b):mW X ag σ H' s':=by
 obtain⟨h',g',d',t',o'⟩:=s';have e:o'=s.os:=ho;subst e;exact I.call (g':=g') (t':=t') (d':=d') u cq hg hch
end
abbrev XK:=aj→Option ai→Hp→Prop
abbrev St:=List (Option V)
abbrev VK:=V→Hp→Prop
abbrev TE:=St→Hp→VK→Prop
abbrev TT:=St→Hp→(Bool→Hp→Prop)→Prop
abbrev TA:=St→Hp→(List V→Hp→Prop)→Prop
structure sK where
  nx:St→Hp→Prop
  rt:VK
  bk:St→Hp→Prop:=λ_ _=>False
  ct:St→Hp→Prop:=λ_ _=>False
abbrev TS:=sK→St→Hp→Prop
def EP (X:Cx) (ag:List (ai×aJ)) (σ:St) (Q:VK) (u:aj) (s':aq):Prop:=∃v H',mW X ag σ H' s'∧nA v u∧Q v H'
def TP (X:Cx) (ag:List (ai×aJ)) (σ:St) (Q:Bool→Hp→Prop) (b:Bool) (s':aq):Prop:=∃H',mW X ag σ H' s'∧Q b H'
def AP (X:Cx) (ag:List (ai×aJ)) (σ:St) (Q:List V→Hp→Prop) (us:List aj) (s':aq):Prop:=∃vs H',mW X ag σ H' s'∧ni vs us∧Q vs H'
def SP (X:Cx) (ag:List (ai×aJ)) (D:sK) (f:Flow) (s':aq):Prop:=
 match f with
 | .next=>∃σ' H',mW X ag σ' H' s'∧D.nx σ' H'
 | .brk=>∃σ' H',mW X ag σ' H' s'∧D.bk σ' H'
 | .cont=>∃σ' H',mW X ag σ' H' s'∧D.ct σ' H'
 | .ret u=>∃v σ' H',mW X ag σ' H' s'∧nA v u∧D.rt v H'
def PE (X:Cx) (e:Expr) (t:TE):Prop:=
 ∀(ag:List (ai×aJ)) (s:aq) (σ:St) (H:Hp) (Q:VK),mW X ag σ H s→t σ H Q→av (aC X.prog X.w) X.A (aH e X.env) (EP X ag σ Q) X.xe s
def PT (X:Cx) (e:Expr) (t:TT):Prop:=
 ∀(ag:List (ai×aJ)) (s:aq) (σ:St) (H:Hp) (Q:Bool→Hp→Prop),mW X ag σ H s→t σ H Q→av (aC X.prog X.w) X.A (isTrue e X.env (aH e X.env)) (TP X ag σ Q) X.xe s
def PW (X:Cx) (e:Expr) (t:TT):Prop:=
 ∀(whole:ck aj) (ag:List (ai×aJ)) (s:aq) (σ:St) (H:Hp) (Q:Bool→Hp→Prop),mW X ag σ H s→t σ H Q→av (aC X.prog X.w) X.A (isTrue e X.env whole) (TP X ag σ Q) X.xe s
def PW.pt (h:PW X e t):PT X e t:=h _
def PA (X:Cx) (es:List Expr) (t:TA):Prop:=
 ∀(pos:bv) (ag:List (ai×aJ)) (s:aq) (σ:St) (H:Hp) (Q:List V→Hp→Prop),mW X ag σ H s→t σ H Q→av (aC X.prog X.w) X.A (spliced (aZ pos (ax es X.env))) (AP X ag σ Q) X.xe s
def PS (X:Cx) (st:bi) (t:TS):Prop:=
 ∀(ag:List (ai×aJ)) (s:aq) (σ:St) (H:Hp) (D:sK),mW X ag σ H s→t D σ H→av (aC X.prog X.w) X.A (exec st X.env) (SP X ag D) X.xe s
def rG (X:Cx) (st:List bi) (t:TS):Prop:=
 ∀(ag:List (ai×aJ)) (s:aq) (σ:St) (H:Hp) (D:sK),mW X ag σ H s→t D σ H→av (aC X.prog X.w) X.A (execs st X.env) (SP X ag D) X.xe s
def nZ{α:Type}{t:ck α}{Q Q':α→aq→Prop}{M:Model}{A:bx}{E:aj→aq→Prop}{s:aq}(h:av M A t Q E s) (hQ:∀a s,Q a s→Q' a s):av M A t Q' E s:=cE h hQ λ_ _ x=>x
section
variable {X:Cx}
def Hy (i:Nat):TE:=λσ H Q=>∃v,σ[i]? =aa (aa v)∧Q v H
def tC (v:V):TE:=λ_ H Q=>Q v H
def MH (hN:X.N[i]? =aa x) (hv:wD X.env.scope x) (hd:(x == ("__debug__" :ah))=false) (hcd:(x == ("__classdict__" :ah))=false):PE X (.Name x pos) (Hy i):=by
 intro ag s σ H Q I h;obtain⟨v,e,h⟩:=h;obtain⟨m,hn,hl⟩:=I.loc;obtain⟨u,r,l⟩:=hl i x v hN e hv;have fin:EP X ag σ Q u s:=⟨v,H,I,r,h⟩;obtain ⟨hk,hm⟩ |⟨hk,c,hc,hcell⟩:=l
 ·exact jc (kC I.ok.kind hk hn hm fin) hd
 ·obtain hk |hk:=hk
  ·exact jc (kO I.ok.kind hk hc hcell fin) hd
  ·exact jc (wpAny_loadName_free I.ok.kind hk hc hcell fin hcd) hd
def XU{i j pos}:PE X (.Constant (.int i) j pos) (tC (.int i)):=λ_ _ _ H _ I h=>wpAny_Constant_int ⟨.int i,H,I.tok _,⟨_,rfl⟩,h⟩
def WB{b j pos}:PE X (.Constant (.bool b) j pos) (tC (.bl b)):=λ_ _ _ H _ I h=>Constant_bool ⟨.bl b,H,I,rfl,h⟩
def ZP{j pos}:PE X (.Constant .none j pos) (tC .b_):=λ_ _ _ H _ I h=>Constant_none ⟨.b_,H,I,rfl,h⟩
def Z9{x j pos}:PE X (.Constant (.str x) j pos) (tC (.str x)):=λ_ _ _ H _ I h=>Calls.Constant_str ⟨.str x,H,I.tok _,⟨_,rfl⟩,h⟩
def Gl (X:Cx) (x:ah):Prop:=X.env.kindOf x=aa .globalImplicit
def FH{E:aj→aq→Prop}{Q:aj→aq→Prop}(I:mW X ag σ H s) (hg:Gl X x) (hm:X.mg x=aa u) (h:Q u s)
  (hd:(x == ("__debug__" :ah))=false):av (aC X.prog X.w) X.A (aH (.Name x pos) X.env) Q E s:=
 ly I.ok.kind hg (Calls.loadGlobal_global (by rw[I.ok.glob];exact I.mod.glob.keeps I.bk) hm h) hd
def xD{E:aj→aq→Prop}{Q:aj→aq→Prop}(I:mW X ag σ H s) (hg:Gl X x) (hm:X.mg x=none) (hv:cI x=aa u) (h:Q u s)
  (hn:x≠ "__name__" :=by decide) (hd:(x == ("__debug__" :ah))=false:=by decide):av (aC X.prog X.w) X.A (aH (.Name x pos) X.env) Q E s:=by
 obtain⟨mb,h1,h2⟩:=I.mod.blt;exact ly I.ok.kind hg (Calls.loadGlobal_builtin (by rw[I.ok.glob];exact I.mod.glob.keeps I.bk) hm (by rw[I.ok.blt];exact h1.keeps I.bk) ((h2 x hn).trans hv) h) hd
def HX (hg:Gl X x) (hm:X.mg x=aa u) (r:nA v u) (hd:(x == ("__debug__" :ah))=false):PE X (.Name x pos) (tC v):=
 λ_ _ _ H _ I h=>FH I hg hm ⟨v,H,I,r,h⟩ hd
def U7 (hg:Gl X x) (hm:X.mg x=none) (hv:cI x=aa u) (r:nA v u) (hn:x≠ "__name__") (hd:(x == ("__debug__" :ah))=false):PE X (.Name x pos) (tC v):=
 λ_ _ _ H _ I h=>xD I hg hm hv ⟨v,H,I,r,h⟩ hn hd
variable {a b:Expr}{ta tb:TE}{pos:bv}
variable {tA tB':TT}{rest:List Expr}
def RA (t u:TT):TT:=λσ H Q=>t σ H λc H1=>if c=true then u σ H1 Q else Q false H1
def Za (t u:TT):TT:=λσ H Q=>t σ H λc H1=>if c=true then Q true H1 else u σ H1 Q
def V8 (t:TT):TT:=λσ H Q=>t σ H λc H1=>Q (!c) H1
def zyx (ha:PT X a tA):PW X (.BoolOp .And [a] pos) tA:=by
 intro wh ag s σ H Q I h;refine isTrue_and (nZ (ha ag s σ H Q I h) λc s1 e=>?_);cases c with
 |true=>exact isTrue_and_nil e
 |false=>exact e
def ZI (ha:PT X a tA):PW X (.BoolOp .Or [a] pos) tA:=by
 intro wh ag s σ H Q I h;refine isTrue_or (nZ (ha ag s σ H Q I h) λc s1 e=>?_);cases c with
 |false=>exact isTrue_or_nil e
 |true=>exact e
def Zq (ha:PT X a tA) (hb:PW X (.BoolOp .And (b::rest) pos) tB'):PW X (.BoolOp .And (a::b::rest) pos) (RA tA tB'):=by
 intro wh ag s σ H Q I h;refine isTrue_and (nZ (ha ag s σ H _ I h) λc s1 zz=>vX zz λH1 I1 q1=>?_);cases c with
 |true=>exact hb wh ag s1 σ H1 Q I1 q1
 |false=>exact⟨H1,I1,q1⟩
def RU (ha:PT X a tA) (hb:PW X (.BoolOp .Or (b::rest) pos) tB'):PW X (.BoolOp .Or (a::b::rest) pos) (Za tA tB'):=by
 intro wh ag s σ H Q I h;refine isTrue_or (nZ (ha ag s σ H _ I h) λc s1 zz=>vX zz λH1 I1 q1=>?_);cases c with
 |true=>exact⟨H1,I1,q1⟩
 |false=>exact hb wh ag s1 σ H1 Q I1 q1
def TY (ha:PT X a tA):PT X (.UnaryOp .Not a pos) (V8 tA):=by
 intro ag s σ H Q I h;exact isTrue_not (ha ag s σ H (λc H1=>Q (!c) H1) I h)
def Yu (ta tb:TE):TE:=λσ H Q=>ta σ H λx H1=>∃c,x= .bl c∧if c=true then tb σ H1 Q else Q (.bl false) H1
def Y1 (ta tb:TE):TE:=λσ H Q=>ta σ H λx H1=>∃c,x= .bl c∧if c=true then Q (.bl true) H1 else tb σ H1 Q
def zES (ta:TE):TE:=λσ H Q=>ta σ H λx H1=>∃c,x= .bl c∧Q (.bl (!c)) H1
def Y0{op}(h:PE X a t):PE X (.BoolOp op [a] pos) t:=λag s σ H Q I hw=>BoolOp_one (h ag s σ H Q I hw)
def Y6 (ha:PE X a ta) (hb:PE X (.BoolOp .And (b::rest) pos) tb):PE X (.BoolOp .And (a::b::rest) pos) (Yu ta tb):=by
 intro ag s σ H Q I h;refine BoolOp_and (nZ (ha ag s σ H _ I h) λv s1 zz=>oQ zz λx H1 I1 r1 q1=>?_);obtain⟨c,rfl,q1⟩:=q1;cases r1;refine eC ?_;cases c with
 |true=>exact hb ag s1 σ H1 Q I1 q1
 |false=>exact⟨.bl false,H1,I1,rfl,q1⟩
def T0 (ha:PE X a ta) (hb:PE X (.BoolOp .Or (b::rest) pos) tb):PE X (.BoolOp .Or (a::b::rest) pos) (Y1 ta tb):=by
 intro ag s σ H Q I h;refine BoolOp_or (nZ (ha ag s σ H _ I h) λv s1 zz=>oQ zz λx H1 I1 r1 q1=>?_);obtain⟨c,rfl,q1⟩:=q1;cases r1;refine eC ?_;cases c with
 |false=>exact hb ag s1 σ H1 Q I1 q1
 |true=>exact⟨.bl true,H1,I1,rfl,q1⟩
def Rc (ha:PE X a ta):PE X (.UnaryOp .Not a pos) (zES ta):=by
 intro ag s σ H Q I h;refine jJ (nZ (ha ag s σ H _ I h) λv s1 zz=>oQ zz λx H1 I1 r1 q1=>?_);obtain⟨c,rfl,q1⟩:=q1;cases r1;exact not_of (eC ⟨.bl (!c),H1,I1,rfl,q1⟩)
def VF (t:TT) (ta tb:TE):TE:=λσ H Q=>t σ H λc H1=>if c=true then ta σ H1 Q else tb σ H1 Q
def XH (hc:PT X c tA) (ha:PE X a ta) (hb:PE X b tb):PE X (.IfExp c a b pos) (VF tA ta tb):=by
 intro ag s σ H Q I h;refine wpAny_IfExp (nZ (hc ag s σ H _ I h) λd s1 zz=>vX zz λH1 I1 q1=>?_);cases d with
 |true=>exact ha ag s1 σ H1 Q I1 q1
 |false=>exact hb ag s1 σ H1 Q I1 q1
end
def o9 (K:am) (H:Hp) (a:ai) (xs:List V):Prop:=
 Rd H a (.bJ xs)∨
  ∃(o:aJ) (dR:Array aj) (n:Nat),K.lookup a=aa o∧o.cls= .type "list" ∧o.dict=none∧o.data= .seq dR n∧dR.size≤sizeLine∧ni xs dR.toList
def pQ (K:am) (H:Hp) (a:ai) (xs:List V):Prop:=
 Rd H a (.bT xs)∨
  ∃(o:aJ) (dR:Array aj) (n:Nat),K.lookup a=aa o∧o.cls= .type "tuple" ∧o.data= .seq dR n∧dR.size≤sizeLine∧ni xs dR.toList
noncomputable def U_:aj→Option V
 | .none=>aa .b_
 | .bool b=>aa (.bl b)
 | .int i _=>aa (.int i)
 | .str x _=>aa (.str x)
 | .bytes b _=>aa (.byt b)
 | .float b _=>aa (.flt b)
 | .ref a=>aa (.ref a)
 | .type n=>aa (.ty n)
 |_=>none
def nA.abs (r:nA x u):U_ u=aa x:=by
 cases x with
 |b_=>cases r;rfl
 |bl _=>cases r;rfl
 |int _=>obtain⟨t,rfl⟩:=r;rfl
 |str _=>obtain⟨t,rfl⟩:=r;rfl
 |byt _=>obtain⟨t,rfl⟩:=r;rfl
 |flt _=>obtain⟨t,rfl⟩:=r;rfl
 |ref _=>cases r;rfl
 |ty _=>cases r;rfl
def nA.inj{x y:V}{u:aj}(r:nA x u) (q:nA y u):x=y:=aO (r.abs.symm.trans q.abs)
def ni.inj:∀{xs ys:List V}{us:List aj},ni xs us→ni ys us→xs=ys:=λ{xs ys us} h g=>by
 induction h generalizing ys with
 |nil=>cases g;rfl
 |cons r _ ih=>
  cases g with
  |cons r' t'=>rw[r.inj r',ih t']
section
variable {X:Cx}{ag:List (ai×aJ)}{σ:St}{H:Hp}{s:aq}{a:ai}{xs ys:List V}
def o9.of{K:am}(h:H a=aa (.bJ xs)):o9 K H a xs:= .inl (.inl h)
def pQ.of{K:am}(h:H a=aa (.bT xs)):pQ K H a xs:= .inl (.inl h)
def mW.list (I:mW X ag σ H s) (h:o9 X.K H a xs):∃dR:List aj,ni xs dR∧PlainL s.heap a dR.toArray∧xs.length≤sizeLine:=by
 obtain h |⟨o,dR,n,hk,hc,hd,hs,hz,r⟩:=h
 ·obtain⟨z,dR,n,r,e⟩:=h.ok I.cq;exact⟨dR,r,⟨_,n,e,rfl,rfl,rfl⟩,z⟩
 ·refine⟨dR.toList,r,⟨o,n,I.kIn a o hk,hc,hd,by simpa using hs⟩,?_⟩
  have e:=r.length;simp only[jT]at e;lia
def mW.tuple (I:mW X ag σ H s) (h:pQ X.K H a xs):∃dR:List aj,ni xs dR∧eO s.heap a dR.toArray∧xs.length≤sizeLine:=by
 obtain h |⟨o,dR,n,hk,hc,hs,hz,r⟩:=h
 ·obtain⟨z,dR,r,p⟩:=h.ok I.cq;exact⟨dR,r,p,z⟩
 ·refine⟨dR.toList,r,⟨o,I.kIn a o hk,hc,n,by simpa using hs⟩,?_⟩
  have e:=r.length;simp only[jT]at e;lia
def mW.list_inj (I:mW X ag σ H s) (h:o9 X.K H a xs) (h':o9 X.K H a ys):xs=ys:=by
 obtain⟨dR,r,⟨o,n,e,_,_,d⟩,_⟩:=I.list h;obtain⟨its',r',⟨o',n',e',_,_,d'⟩,_⟩:=I.list h';rw[e]at e';cases e';rw[d]at d';injection d' with d1 _;have:dR=its':=by simpa using congrArg Array.toList d1
 subst this;exact r.inj r'
def mW.tuple_inj (I:mW X ag σ H s) (h:pQ X.K H a xs) (h':pQ X.K H a ys):xs=ys:=by
 obtain⟨dR,r,⟨o,e,_,n,d⟩,_⟩:=I.tuple h;obtain⟨its',r',⟨o',e',_,n',d'⟩,_⟩:=I.tuple h';rw[e]at e';cases e';rw[d]at d';injection d' with d1 _;have:dR=its':=by simpa using congrArg Array.toList d1
 subst this;exact r.inj r'
end
noncomputable abbrev Cx.wish (X:Cx) (E:aj→aq→Prop):Cx:={ X with xe:=E }
noncomputable abbrev Cx.nox (X:Cx):Cx:=X.wish λ_ _=>False
def Cx.Ok.wish{X:Cx}(ok:X.Ok) (E:aj→aq→Prop):(X.wish E).Ok:=
 ⟨ok.mod,ok.kind,ok.glob,ok.blt,ok.above,ok.inj,ok.has,ok.cab,ok.hd,ok.frames,ok.stk,ok.exf,ok.bs,ok.bsz,ok.noex,ok.exfs,ok.funs,ok.frf⟩
def Cx.Ok.unwish{X:Cx}{E:aj→aq→Prop}(ok:(X.wish E).Ok):X.Ok:=
 ⟨ok.mod,ok.kind,ok.glob,ok.blt,ok.above,ok.inj,ok.has,ok.cab,ok.hd,ok.frames,ok.stk,ok.exf,ok.bs,ok.bsz,ok.noex,ok.exfs,ok.funs,ok.frf⟩
section
variable {X:Cx}{ag:List (ai×aJ)}{σ:St}{H:Hp}{s:aq}{E:aj→aq→Prop}
def mW.wish (I:mW X ag σ H s) (E:aj→aq→Prop):mW (X.wish E) ag σ H s:=⟨I.ok.wish E,I.os,I.bare,I.base,I.loc,I.cell,I.free,I.freeC,I.pin,I.cq,I.len⟩
def mW.unwish (I:mW (X.wish E) ag σ H s):mW X ag σ H s:=⟨I.ok.unwish,I.os,I.bare,I.base,I.loc,I.cell,I.free,I.freeC,I.pin,I.cq,I.len⟩
def SP.unwish (h:SP (X.wish E) ag D f s'):SP X ag D f s':=by
 cases f with
 |next=>obtain⟨σ',H',I,q⟩:=h;exact⟨σ',H',I.unwish,q⟩
 |brk=>obtain⟨σ',H',I,q⟩:=h;exact⟨σ',H',I.unwish,q⟩
 |cont=>obtain⟨σ',H',I,q⟩:=h;exact⟨σ',H',I.unwish,q⟩
 |ret u=>obtain⟨v,σ',H',I,r,q⟩:=h;exact⟨v,σ',H',I.unwish,r,q⟩
def PE.nox (h:PE X.nox e t):PE X e t:=λag s σ H Q I hw=>
 cE (h ag s σ H Q (I.wish _) hw) (λ_ _ zz=>oQ zz λv H' I' r q=>⟨v,H',I'.unwish,r,q⟩) λ_ _ z=>cG z
def rG.nox{st:List bi}(h:rG X.nox st t):rG X st t:=λag s σ H D I hw=>
 cE (h ag s σ H D (I.wish _) hw) (λ_ _ q=>q.unwish) λ_ _ z=>cG z
end
section
variable {X:Cx}{st:bi}{rest:List bi}{t u:TS}{e:Expr}{te:TE}{pos:bv}
def L5:TS:=λD σ H=>D.nx σ H
def Y_ (t u:TS):TS:=λD σ H=>t { D with nx:=u D } σ H
def uX:rG X [] L5:=λ_ _ σ H _ I h=>h_ ⟨σ,H,I,h⟩
def QK (h1:PS X st t) (h2:rG X rest u):rG X (st::rest) (Y_ t u):=by
 intro ag s σ H D I h;refine kh (nZ (h1 ag s σ H { D with nx:=u D } I h) λf s1 q=>?_);cases f with
 |next=>
  obtain⟨σ',H',I',q⟩:=q;exact h2 ag s1 σ' H' D I' q
 |ret v=>exact q
 |brk=>exact q
 |cont=>exact q
def zyG (h1:PS X st t):rG X [st] t:=by
 intro ag s σ H D I h;refine kh (nZ (h1 ag s σ H D I h) λf s1 q=>?_);cases f with
 |next=>exact h_ q
 |ret v=>exact q
 |brk=>exact q
 |cont=>exact q
def uJ:PS X (.Pass pos) L5:=λ_ _ σ H _ I h=>wpAny_Pass ⟨σ,H,I,h⟩
def mW.dM (I:mW X ag σ H s):interactive X.env=false:=by simp [interactive,I.ok.kind]
def U1 (te:TE):TS:=λD σ H=>te σ H λ_ H1=>D.nx σ H1
def WR (he:PE X e te) (hs:eG e none pos.line X.env=pure false):PS X (.Expr e pos) (U1 te):=by
 intro ag s σ H D I h;exact wpAny_Expr_any (nZ (he ag s σ H _ I h) λv s1 zz=>oQ zz λx H1 I1 r1 q1=>⟨σ,H1,I1,q1⟩) I.dM hs
def Vx (te:TE):TS:=λD σ H=>te σ H D.rt
def Tg (he:PE X e te):PS X (.Return (aa e) pos) (Vx te):=by
 intro ag s σ H D I h;exact wpAny_Return_some (nZ (he ag s σ H _ I h) λv s1 zz=>oQ zz λx H1 I1 r1 q1=>⟨x,σ,H1,I1,r1,q1⟩)
def Qw:TS:=λD _ H=>D.rt .b_ H
def u8:PS X (.Return none pos) Qw:=λ_ _ σ H _ I h=>wpAny_Return_none ⟨.b_,σ,H,I,rfl,h⟩
def XG (c:TT) (t u:TS):TS:=λD σ H=>c σ H λb H1=>if b=true then t D σ H1 else u D σ H1
def Zv (hc:PT X c tc) (ha:rG X a t) (hb:rG X b u):PS X (.If c a b pos) (XG tc t u):=by
 intro ag s σ H D I h;refine wpAny_If (nZ (hc ag s σ H _ I h) λd s1 zz=>vX zz λH1 I1 q1=>?_);cases d with
 |true=>exact ha ag s1 σ H1 D I1 q1
 |false=>exact hb ag s1 σ H1 D I1 q1
def VT:TS:=λ_ _ _=>False
def t6:PS X st VT:=λ_ _ _ _ _ _ h=>h.elim
end
abbrev TG:=V→St→Hp→(St→Hp→Prop)→Prop
abbrev A_:=List V→St→Hp→(St→Hp→Prop)→Prop
def PG (X:Cx) (target:Expr) (t:TG):Prop:=
 ∀(ag:List (ai×aJ)) (s:aq) (σ:St) (H:Hp) (v:V) (u:aj) (Q:St→Hp→Prop),mW X ag σ H s→nA v u→t v σ H Q→
  av (aC X.prog X.w) X.A (assign target X.env u) (λ_ s'=>∃σ' H',mW X ag σ' H' s'∧Q σ' H') X.xe s
def zf (X:Cx) (ts:List Expr) (t:A_):Prop:=
 ∀(ag:List (ai×aJ)) (s:aq) (σ:St) (H:Hp) (vs:List V) (us:List aj) (Q:St→Hp→Prop),mW X ag σ H s→ni vs us→t vs σ H Q→
  av (aC X.prog X.w) X.A (assignInOrder ((ci ts X.env).map (·.2)) us) (λ_ s'=>∃σ' H',mW X ag σ' H' s'∧Q σ' H') X.xe s
abbrev F2:=V→V→Hp→VK→Prop
def KN (X:Cx) (op:Operator) (t:F2):Prop:=
 ∀(ag:List (ai×aJ)) (s:aq) (σ:St) (H:Hp) (x y:V) (v u:aj) (Q:VK),mW X ag σ H s→nA x v→nA y u→t x y H Q→
  av (aC X.prog X.w) X.A (inplaceOp op v u) (EP X ag σ Q) X.xe s
section
variable {X:Cx}{pos:bv}
def GM (i:Nat):TG:=λv σ H Q=>Q (σ.set i (aa v)) H
def Ya (hN:X.N.Nodup) (hi:X.N[i]? =aa x) (hx:tZ X.env.scope x) (hf:X.fn x=true∨X.env.scope.names.lookup x=aa .local:=by first |exact .inl rfl |exact .inr rfl |assumption):PG X (.Name x pos) (GM i):=by
 intro ag s σ H v u Q I r h;exact ky (Gj I hN hi hx r (λs' I'=>⟨_,H,I',h⟩) hf)
def WZ:A_:=λvs σ H Q=>vs=[]∧Q σ H
def X4 (t:TG) (u:A_):A_:=λvs σ H Q=>∃v r,vs=v::r∧t v σ H λσ' H'=>u r σ' H' Q
def SZ:zf X [] WZ:=by
 intro ag s σ H vs us Q I r h;obtain⟨e,h⟩:=h;subst e;cases r;exact assignInOrder_nil ⟨σ,H,I,h⟩
def VU (h1:PG X e t) (h2:zf X es u)
  (hs:(ci (e::es) X.env).map (·.2)=assign e X.env::(ci es X.env).map (·.2)):zf X (e::es) (X4 t u):=by
 intro ag s σ H vs us Q I r h;obtain⟨v,vr,e1,h⟩:=h;subst e1;cases r with
 |cons r rr=>
  rw[hs];refine assignInOrder_cons (nZ (h1 ag s σ H _ _ _ I r h) λ_ s1 ⟨σ1,H1,I1,q1⟩=>?_);exact h2 ag s1 σ1 H1 _ _ Q I1 rr q1
def RV (K:am) (n:Nat) (t:A_):TG:=λv σ H Q=>∃a xs,v= .ref a∧pQ K H a xs∧xs.length=n∧t xs σ H Q
def X9 (hc:X.calm=true) (h:zf X es t)
  (hn:(ci es X.env).length=n) (hst:(ci es X.env).findIdx? (·.1)=none):PG X (.Tuple es k pos) (RV X.K n t):=by
 intro ag s σ H v u Q I r hw;obtain⟨a,xs,e1,hq,hl,hw⟩:=hw;subst e1;cases r;obtain⟨dR,rv,ht,hz⟩:=I.tuple hq;refine assign_Tuple_tuple (I.ok.hd hc) ht (by simp [hn,←hl,rv.length]) hst λh' hx=>?_;have I1:mW X ag σ H { s with heap:=h' }:=I.kept (t':=s.toks) λb o e=>hx b o (bR (aR e)) e;exact h ag _ σ H xs _ Q I1 (by simpa using rv) hw
def EN (te:TE) (g:TG):TS:=λD σ H=>te σ H λx H1=>g x σ H1 D.nx
def Zy (he:PE X e te) (hg:PG X tg g) (hs:jS [tg] e pos.line X.env=pure false) (hw:jk [tg] e X.env=pure none)
  (h1:(ci [tg] X.env).map (·.2)=[assign tg X.env]):PS X (.Assign [tg] e pos) (EN te g):=by
 intro ag s σ H D I h;refine wpAny_Assign_stores (nZ (he ag s σ H _ I h) λv s1 zz=>oQ zz λx H1 I1 r1 q1=>?_) hs hw;rw[h1];exact nZ (hg ag s1 σ H1 x v _ I1 r1 q1) λ_ s2 q=>q
def VH (hN:X.N.Nodup) (hi:X.N[i]? =aa x) (hx:tZ X.env.scope x) (he:PE X e te) (hs:eG e (aa (.Name x pos')) pos.line X.env=pure false) (hf:X.fn x=true∨X.env.scope.names.lookup x=aa .local:=by first |exact .inl rfl |exact .inr rfl |assumption) :
  PS X (.Assign [.Name x pos'] e pos) (EN te (GM i)):=by
 intro ag s σ H D I h;refine wpAny_Assign_Name (nZ (he ag s σ H _ I h) λv s1 zz=>oQ zz λy H1 I1 r1 q1=>?_) hs;exact Gj I1 hN hi hx r1 (λs2 I2=>⟨_,H1,I2,q1⟩) hf
def XI (i:Nat) (te:TE) (ti:F2):TS:=λD σ H=>∃x,σ[i]? =aa (aa x)∧te σ H λy H1=>ti x y H1 λz H2=>D.nx (σ.set i (aa z)) H2
def Wv (hN:X.N.Nodup) (hi:X.N[i]? =aa x) (hx:tZ X.env.scope x) (he:PE X e te) (ho:KN X op ti) (hf:X.fn x=true∨X.env.scope.names.lookup x=aa .local:=by first |exact .inl rfl |exact .inr rfl |assumption) :
  PS X (.AugAssign (.Name x pos') op e pos) (XI i te ti):=by
 intro ag s σ H D I h;obtain⟨v,e1,h⟩:=h;obtain⟨m,hn,hl⟩:=I.loc;have vis:wD X.env.scope x:=by obtain k |k:=hx;exact .inl k;exact .inr (.inl k)
 obtain⟨u,r,l⟩:=hl i x v hi e1 vis;refine wpAny_AugAssign_Name ?_;have go:av (aC X.prog X.w) X.A (aH e X.env) (λw s₂=>av (aC X.prog X.w) X.A (inplaceOp op u w) (λr s₃=>av (aC X.prog X.w) X.A (iX X.env x r) (λ_=>SP X ag D .next) X.xe s₃) X.xe s₂) X.xe s:=by
  refine nZ (he ag s σ H _ I h) λw s1 zz=>oQ zz λy H1 I1 r1 q1=>?_;refine nZ (ho ag s1 σ H1 v y u w _ I1 r r1 q1) λz s2 zz=>oQ zz λzv H2 I2 r2 q2=>?_;exact Gj I2 hN hi hx r2 (λs3 I3=>⟨_,H2,I3,q2⟩) hf
 obtain ⟨hk,hm⟩ |⟨hk,c,hc,hcell⟩:=l
 ·exact kC I.ok.kind hk hn hm go
 ·obtain hk |hk:=hk
  ·exact kO I.ok.kind hk hc hcell go
  ·obtain k |k:=hx
   ·have:X.env.scope.names.lookup x=aa .free:=hk;rw[k]at this;cases this
   ·have:X.env.scope.names.lookup x=aa .free:=hk;rw[k]at this;cases this
noncomputable def Wd (f:Int→Int→Int):F2:=λx y H Q=>∃i j,x= .int i∧y= .int j∧Q (.int (f i j)) H
def TR:KN X .Add (Wd λi j=>i+j):=by
 intro ag s σ H x y v u Q I r1 r2 h;obtain⟨i,j,e1,e2,q⟩:=h;subst e1;subst e2;obtain⟨t,rfl⟩:=r1;obtain⟨t',rfl⟩:=r2;exact iadd_int ⟨.int _,H,I.tok _,⟨_,rfl⟩,q⟩
end
section
variable {X:Cx}{pos:bv}
def WY (c:TT) (tb:TS):TS:=λD σ H=>∃W:Nat→St→Hp→Prop,(∃m,W m σ H)∧ ∀m σ H,W m σ H→
 c σ H λb H1=>if b=true then ∃N:St→Hp→Prop,(∀σ' H',N σ' H'→ ∃m',m'<m∧W m' σ' H')∧tb { D with nx:=N,ct:=N,bk:=D.nx } σ H1 else D.nx σ H1
def zuS (hp:fO (aC X.prog X.w) X.A X.env X.xe) (hc:PT X c tc) (hb:rG X body tb):PS X (.While c body [] pos) (WY tc tb):=by
 intro ag s σ H D I h;obtain⟨W,⟨m0,w0⟩,turn⟩:=h;refine wpAny_While (codeAny_whileLoop (λn s'=>∃σ' H',mW X ag σ' H' s'∧W n σ' H') ?_ m0 ⟨σ,H,I,w0⟩);rintro n s1 ⟨σ1,H1,I1,w1⟩;refine d5 hp (nZ (hc ag s1 σ1 H1 _ I1 (turn n σ1 H1 w1)) λb s2 zz=>vX zz λH2 I2 q2=>?_);cases b with
 |true=>
  obtain⟨N,hN,q2⟩:=q2;rw[if_pos rfl];refine d5 hp (nZ (hb ag s2 σ1 H2 _ I2 q2) λf s3 q3=>?_);cases f with
  |next=>
   obtain⟨σ3,H3,I3,n3⟩:=q3;obtain⟨m',hm,w3⟩:=hN σ3 H3 n3;exact⟨m',hm,σ3,H3,I3,w3⟩
  |cont=>
   obtain⟨σ3,H3,I3,n3⟩:=q3;obtain⟨m',hm,w3⟩:=hN σ3 H3 n3;exact⟨m',hm,σ3,H3,I3,w3⟩
  |brk=>exact q3
  |ret v=>exact q3
 |false=>
  rw[if_neg c_];exact h_ ⟨σ1,H2,I2,q2⟩
end
structure It where
  go:Nat→Hp→Prop
  yld:Nat→Hp→V→Hp→Prop
  stop:Nat→Hp→Prop
def rB (X:Cx) (ag:List (ai×aJ)) (H:Hp) (b:ai):Prop:=
 H b=none∧b≠X.env.locals∧b∉X.fs∧(b∈X.ex∨X.s₀.heap.objs.size≤b)∧(∀x c,X.env.cells.lookup x=aa c→c≠b)∧ ∀p∈X.pn++ag,p.1≠b
def mW.fpOk (I:mW X ag σ H s) (hb:s.heap.objs.size≤b) (hn:H' b=none):rB X ag H' b:=by
 refine⟨hn,c9 (b7 I.lt hb),I.nofs hb, .inr (aX I.sz hb),λx c e z=>?_,λp hp z=>?_⟩
 ·obtain⟨v,q⟩:=I.cell x c e;exact absurd (b7 q.lt (by rw[z];exact hb)) (cK _)
 ·exact absurd (b7 (aR (I.pin p hp).1) (by rw[z];exact hb)) (cK _)
structure su (P:bb) (w:aQ) (K:am) (tg:Expr) (J:It) (fp:List ai) (it:ai) (tn:Nat→aF→Prop):Prop where
  mem:it∈fp
  obj:∀i h,tn i h→ ∀b∈fp,∃o,h.get? b=aa o∧ ∀v,o.data≠ .cell v
  keep:∀i h h',tn i h→(∀b∈fp,∀o,h.get? b=aa o→h'.get? b=aa o)→tn i h'
  item:∀(X:Cx),X.prog=P→X.w=w→X.K=K→X.calm=true→ ∀(i:Nat) (ag:List (ai×aJ)) (s:aq) (σ:St) (H:Hp) (E:aj→aq→Prop),mW X ag σ H s→(∀b∈fp,rB X ag H b)→tn i s.heap→J.go i H→
    av (aC P w) X.A (cu (.ref it)) (λr s1=>∃u,r=aa u∧
      av (aC P w) X.A (gQ tg (.ref it) u) (λ_ s2=>∃x H',mW X ag σ H' s2∧nA x u∧J.yld i H x H'∧tn (i+1) s2.heap∧ ∀b∈fp,H' b=none) E s1) E s
  done:∀(X:Cx),X.prog=P→X.w=w→X.K=K→X.calm=true→ ∀(i:Nat) (ag:List (ai×aJ)) (s:aq) (σ:St) (H:Hp) (E:aj→aq→Prop),mW X ag σ H s→(∀b∈fp,rB X ag H b)→tn i s.heap→J.stop i H→
    av (aC P w) X.A (cu (.ref it)) (λr s1=>r=none∧mW X ag σ H s1) E s
  self:∀(A:bx) (i:Nat) (s:aq) (Q:aj→aq→Prop) (E:aj→aq→Prop),tn i s.heap→Q (.ref it) s→av (aC P w) A (dP (.ref it)) Q E s
abbrev TI:=St→Hp→(It→Hp→Prop)→Prop
def Jh (X:Cx) (ag:List (ai×aJ)) (σ:St) (tg:Expr) (R:It→Hp→Prop) (itv:aj) (s2:aq):Prop:=
 ∃(it:ai) (fp:List ai) (tn:Nat→aF→Prop) (J:It) (H':Hp),itv= .ref it∧mW X ag σ H' s2∧su X.prog X.w X.K tg J fp it tn∧tn 0 s2.heap∧(∀b∈fp,rB X ag H' b)∧R J H'
def PI (X:Cx) (tg iter:Expr) (wi:TI):Prop:=
 ∀(ag:List (ai×aJ)) (s:aq) (σ:St) (H:Hp) (R:It→Hp→Prop),mW X ag σ H s→wi σ H R→
  av (aC X.prog X.w) X.A (aH iter X.env) (λv s1=>av (aC X.prog X.w) X.A (dP v) (Jh X ag σ tg R) X.xe s1) X.xe s
def CZ{E:aj→aq→Prop}{Q:Unit→aq→Prop}(ho:s.heap.get? it=aa o) (hc:o.cls= .type n) (hd:o.data= .fields vs)
    (hn: ["enumerate", "zip", "dict_itemiterator", "dict_reverseitemiterator", "odict_iterator", "itertools.zip_longest", "itertools.pairwise"].contains n=false) (hQ:Q () s):av M A (gQ tg (.ref it) u) Q E s:=by
  unfold gQ;cases tg<;>first
    |exact aK hQ
    | (cases u<;>first
        |exact aK hQ
        | (refine au (wpAny_load ho ?_)
           rw[hc,hd];show av M A (if(["enumerate", "zip", "dict_itemiterator", "dict_reverseitemiterator", "odict_iterator", "itertools.zip_longest", "itertools.pairwise"].contains n&&vs[0]? == aa (cJ _))=true then _ else _) Q E s;rw[if_neg (by intro h;rw[hn,Bool.false_and]at h;cases h)];exact aK hQ))
noncomputable def Bb (K:am) (a:ai):It:=
 ⟨λi H=>∃xs x,o9 K H a xs∧xs[i]? =aa x,λi H x H'=>H'=H∧ ∀xs,o9 K H a xs→xs[i]? =aa x,λi H=>∃xs,o9 K H a xs∧xs.length≤i⟩
noncomputable def ED (K:am) (a:ai):It:=
 ⟨λi H=>∃xs x,pQ K H a xs∧xs[i]? =aa x,λi H x H'=>H'=H∧ ∀xs,pQ K H a xs→xs[i]? =aa x,λi H=>∃xs,pQ K H a xs∧xs.length≤i⟩
noncomputable def Cy (lo:Int) (n:Nat):It:=⟨λi _=>i<n,λi H x H'=>H'=H∧x= .int (lo+i),λi _=>n≤i⟩
def N5{K:am}(a it:ai):su P w K tg (Bb K a) [it] it (λi h=>h.IsListIter it a i) where
  mem:=by simp
  obj:=λi h st b hb=>by
    have e:b=it:=by simpa using hb
    subst e;obtain⟨o,e,c,d⟩:=st;exact⟨o,e,λv z=>by rw[d]at z;cases z⟩
  keep:=λi h h' st k=>st.at λo e=>k it `s o e
  item:=by
    intro X hP hw hK hc i ag s σ H E I hf st hg;subst hP hw hK;obtain⟨xs,x,hq,hx⟩:=hg;obtain⟨dR,rv,p,hz⟩:=I.list hq;obtain⟨u,hu,ru⟩:=rv.get hx;obtain⟨f0,f1,f2,f3,f4,f5⟩:=hf it `s;refine wpAny_pyNext_list_item st p.isList (x:=u) (by simpa using hu) λh' st' sb=>?_;have I1:mW X ag σ H { s with heap:=h' }:=I.turned (t':=s.toks) (λb o hb e=>(sb.2 b hb).trans e) f0 f1 f3 f4 f5;obtain⟨o,e,c,d⟩:=id st';exact⟨u,rfl,CZ (s:={ s with heap:=h' }) e c d `d ⟨x,H,I1,ru,⟨rfl,λys hy=>by rw[I.list_inj hy hq];exact hx⟩,st',λb hb=>(hf b hb).1⟩⟩
  done:=by
    intro X hP hw hK hc i ag s σ H E I hf st hg;subst hP hw hK;obtain⟨xs,hq,hx⟩:=hg;obtain⟨dR,rv,p,hz⟩:=I.list hq;obtain⟨f0,f1,f2,f3,f4,f5⟩:=hf it `s;have hl:=rv.length;exact wpAny_pyNext_list_end (I.ok.hd hc) st p.isList (by simp;lia) λh' eb=>⟨rfl,I.turned (t':=s.toks) (λb o hb e=>eb b o hb e) f0 f1 f3 f4 f5⟩
  self:=λ_ _ _ _ _ st h=>wpAny_pyIter_listiter st h
def XM{K:am}(a it:ai):su P w K tg (ED K a) [it] it (λi h=>h.IsTupleIter it a i) where
  mem:=by simp
  obj:=λi h st b hb=>by
    have e:b=it:=by simpa using hb
    subst e;obtain⟨o,e,c,d⟩:=st;exact⟨o,e,λv z=>by rw[d]at z;cases z⟩
  keep:=λi h h' st k=>st.at λo e=>k it `s o e
  item:=by
    intro X hP hw hK hc i ag s σ H E I hf st hg;subst hP hw hK;obtain⟨xs,x,hq,hx⟩:=hg;obtain⟨dR,rv,p,hz⟩:=I.tuple hq;obtain⟨u,hu,ru⟩:=rv.get hx;obtain⟨f0,f1,f2,f3,f4,f5⟩:=hf it `s;refine wpAny_pyNext_tuple_item st (show s.heap.IsTuple a dR.toArray from p) (x:=u) (by simpa using hu) λh' st' sb=>?_;have I1:mW X ag σ H { s with heap:=h' }:=I.turned (t':=s.toks) (λb o hb e=>(sb.2 b hb).trans e) f0 f1 f3 f4 f5;obtain⟨o,e,c,d⟩:=id st';exact⟨u,rfl,CZ (s:={ s with heap:=h' }) e c d `d ⟨x,H,I1,ru,⟨rfl,λys hy=>by rw[I.tuple_inj hy hq];exact hx⟩,st',λb hb=>(hf b hb).1⟩⟩
  done:=by
    intro X hP hw hK hc i ag s σ H E I hf st hg;subst hP hw hK;obtain⟨xs,hq,hx⟩:=hg;obtain⟨dR,rv,p,hz⟩:=I.tuple hq;obtain⟨f0,f1,f2,f3,f4,f5⟩:=hf it `s;have hl:=rv.length;exact wpAny_pyNext_tuple_end (I.ok.hd hc) st (show s.heap.IsTuple a dR.toArray from p) (by simp;lia) λh' eb=>⟨rfl,I.turned (t':=s.toks) (λb o hb e=>eb b o hb e) f0 f1 f3 f4 f5⟩
  self:=λ_ _ _ _ _ st h=>wpAny_pyIter_tupleiter st h
def Wm{K:am}(it:ai) (lo:Int) (n:Nat):su P w K tg (Cy lo n) [it] it (λi h=>IsRangeIter h it (lo+(i:Nat)*1) ((n:Int) - (i:Nat)) 1) where
  mem:=by simp
  obj:=λi h st b hb=>by
    have e:b=it:=by simpa using hb
    subst e;exact⟨_,st,λv z=>by
      have z':Data.fields _=Data.cell v:=z;cases z'⟩
  keep:=λi h h' st k=>k it `s _ st
  item:=by
    intro X hP hw hK hc i ag s σ H E I hf st hg;subst hP hw hK;obtain⟨f0,f1,f2,f3,f4,f5⟩:=hf it `s;have W:=Walks.range (prog:=X.prog) (w:=X.w) (I.ok.hd hc) it lo 1 n;refine W.item i s _ _ hg st λv h' tk hv st' kk=>?_;obtain⟨t,rfl⟩:=hv;have I1:mW X ag σ H { s with heap:=h',toks:=tk }:=I.turned (λb o hb e=>kk b o (by simpa using hb) e) f0 f1 f3 f4 f5;refine⟨_,rfl,CZ (s:={ s with heap:=h',toks:=tk }) (n:= "range_iterator") st' rfl rfl `d ⟨.int (lo+i),H,I1,⟨t,?_⟩,⟨rfl,rfl⟩,st',λb hb=>(hf b hb).1⟩⟩;rw[Int.mul_one]
  done:=by
    intro X hP hw hK hc i ag s σ H E I hf st hg;subst hP hw hK;obtain⟨f0,f1,f2,f3,f4,f5⟩:=hf it `s;exact wpAny_pyNext_range_end (I.ok.hd hc) st (by have:n≤i:=hg;lia) λh' eb=>⟨rfl,I.turned (t':=s.toks) (λb o hb e=>eb b o hb e) f0 f1 f3 f4 f5⟩
  self:=λ_ _ _ _ _ st h=>wpAny_pyIter_rangeiter st h
section
variable {X:Cx}{tg:Expr}
def Tx (K:am) (tl:TE):TI:=λσ H R=>tl σ H λx H1=>∃a,x= .ref a∧(∃xs,o9 K H1 a xs)∧R (Bb K a) H1
def Vn (hl:PE X l tl):PI X tg l (Tx X.K tl):=by
 intro ag s σ H R I h;refine nZ (hl ag s σ H _ I h) λv s1 zz=>oQ zz λx H1 I1 r1 q1=>?_;obtain⟨a,e,⟨xs,hq⟩,q⟩:=q1;subst e;cases r1;obtain⟨dR,rv,p,hz⟩:=I1.list hq;refine fA p.isList ?_;refine⟨s1.heap.objs.size,[s1.heap.objs.size],_,_,H1,rfl,I1.kept (t':=s1.toks) λb o e=>aS _ e,N5 a _,⟨_,bO _ rfl,rfl,rfl⟩,λb hb=>?_,q⟩;have e:b=s1.heap.objs.size:=by simpa using hb
 subst e;exact I1.fpOk (aA _) (I1.cq.fresh (aA _))
def Ti{R:It→Hp→Prop}{E:aj→aq→Prop}{lo hi:Int}{t u v:Tok}{tk:Nat}(I:mW X ag σ H s) (h1: -(2 ^ 62)≤lo) (h2:lo<2 ^ 62) (h3: -(2 ^ 62)≤hi) (h4:hi<2 ^ 62)
  (q:R (Cy lo (hi - lo).toNat) H):av (aC X.prog X.w) X.A (dP (.ref s.heap.objs.size)) (Jh X ag σ tg R) E { s with heap:=s.heap.push { cls:= .type "range",data:= .fields #[.int lo t, .int hi u, .int 1 v] },toks:=tk }:=by
 refine wpAny_pyIter_range (IsRange.new ..) (small_one h1 h2 h3 h4) ?_;have I1:mW X ag σ H { s with heap:=s.heap.push { cls:= .type "range",data:= .fields #[.int lo t, .int hi u, .int 1 v] },toks:=tk }:=I.kept λb o e=>aS _ e;refine⟨(s.heap.push { cls:= .type "range",data:= .fields #[.int lo t, .int hi u, .int 1 v] }).objs.size,[(s.heap.push { cls:= .type "range",data:= .fields #[.int lo t, .int hi u, .int 1 v] }).objs.size],_,_,H,rfl,
  I1.kept (t':=tk) λb o e=>aS _ e,Wm _ lo (hi - lo).toNat,?_,λb hb=>?_,q⟩
 ·have e1:lo+((0:Nat):Int)*1=lo:=by simp
  have e2:(((hi - lo).toNat:Nat):Int) - ((0:Nat):Int)=cr.Range.rangeSize lo hi 1:=by rw[rangeSize_one];split<;>lia
  show IsRangeIter _ _ (lo+((0:Nat):Int)*1) ((((hi - lo).toNat:Nat):Int) - ((0:Nat):Int)) 1;rw[e1,e2];exact bO _ rfl
 ·have e:b=(s.heap.push { cls:= .type "range",data:= .fields #[.int lo t, .int hi u, .int 1 v] }).objs.size:=by simpa using hb
  subst e;exact I1.fpOk (aA _) (I1.cq.fresh (aA _))
def Qj (ta:TA):TI:=λσ H R=>ta σ H λvs H1=>∃j:Int,vs=[.int j]∧ -(2 ^ 62)≤j∧j<2 ^ 62∧R (Cy 0 j.toNat) H1
def Zs (hg:Gl X "range") (hm:X.mg "range" =none) (ha:PA X [a] ta) (hs:ax [a] X.env=[(false,aH a X.env)]):PI X tg (.Call (.Name "range" p) [a] [] pos) (Qj ta):=by
 intro ag s σ H R I h;refine Call_ (xD I hg hm boot_range (gF (nZ (ha pos ag s σ H _ I h) λus s1 zz=>oQ zz λvs H1 I1 r1 q1=>?_) hs rfl));obtain⟨j,e,q1,q2,q⟩:=q1;subst e;cases r1 with
 |cons r rr=>
  cases rr;obtain⟨t,rfl⟩:=r;exact call_range_1 (Ti I1 `l `l q1 q2 (by simpa using q))
def UQ (wi:TI) (g:TG) (tb:TS):TS:=λD σ H=>wi σ H λJ H1=>∃W:Nat→Nat→St→Hp→Prop,(∃m,W 0 m σ H1)∧ ∀i m σ H,W i m σ H→
 (J.stop i H∧D.nx σ H)∨(J.go i H∧ ∃N:St→Hp→Prop,(∀σ' H',N σ' H'→ ∃m',m'<m∧W (i+1) m' σ' H')∧ ∀x H',J.yld i H x H'→g x σ H' λσ2 H2=>tb { D with nx:=N,ct:=N,bk:=D.nx } σ2 H2)
noncomputable def Aa (fp:List ai) (h:aF):List (ai×aJ):=fp.filterMap λb=>(h.get? b).map λo=>(b,o)
def Ce (hb:b∈fp) (e:h.get? b=aa o):(b,o)∈Aa fp h:=i9.mpr ⟨b,hb,by rw[e];rfl⟩
def U4 (hp:p∈Aa fp h):p.1∈fp∧h.get? p.1=aa p.2:=by
 obtain⟨b,hb,e⟩:=i9.mp hp;cases q:h.get? b with
 |none=>rw[q]at e;cases e
 |some o=>
  rw[q]at e;have e':(b,o)=p:=aO e;subst e';exact⟨hb,q⟩
def mW.pinned (I:mW X ag σ H s) (hf:∀b∈fp,rB X ag H b) (ho:∀b∈fp,∃o,s.heap.get? b=aa o∧ ∀v,o.data≠ .cell v):mW X (ag++Aa fp s.heap) σ H s:=
 I.pins_of λp hp=>(bu.mp hp).elim (λz=>I.pin p (cc _ z)) λz=>by
  obtain⟨hb,e⟩:=U4 z;obtain⟨f0,f1,f2,_⟩:=hf p.1 hb;obtain⟨o,e',d⟩:=ho p.1 hb;rw[e]at e';cases e';exact⟨e,f0,f1,f2,d⟩
def mW.unpinned (I:mW X (ag++pl) σ H s):mW X ag σ H s:=I.pins_of λp hp=>I.pin p (cc _ (eJ _ hp))
def P3 (hp:fO (aC X.prog X.w) X.A X.env X.xe) (hc:X.calm=true) (hi:PI X tg iter wi) (hg:PG X tg g) (hb:rG X body tb)
  (hs:∀x,dG iter X.env x=pure x):PS X (.For tg iter body [] pos) (UQ wi g tb):=by
 intro ag s σ H D I h;refine wpAny_For (nZ (hi ag s σ H _ I h) λv s1 h1=>nZ h1 λitv s2 h2=>?_) hs;obtain⟨it,fp,tn,J,H2,e,I2,T,st2,f2,W,⟨m0,w0⟩,turn⟩:=h2;subst e;have stat:∀{H':Hp},(∀b∈fp,H' b=none)→ ∀b∈fp,rB X ag H' b:=λhn b hb=>⟨hn b hb,(f2 b hb).2⟩;refine codeAny_forLoop_any (λn s'=>∃i σ' H',mW X ag σ' H' s'∧tn i s'.heap∧(∀b∈fp,H' b=none)∧W i n σ' H') ?_ m0 ⟨0,σ,H2,I2,st2,λb hb=>(f2 b hb).1,w0⟩;rintro n s3 ⟨i,σ3,H3,I3,st3,fr3,w3⟩;obtain ⟨stop,qn⟩ |⟨go,N,hN,step⟩:=turn i n σ3 H3 w3
 ·refine d5 hp (nZ (T.done X rfl rfl rfl hc i ag s3 σ3 H3 X.xe I3 (stat fr3) st3 stop) λr s4 ⟨hr,I4⟩=>?_);subst hr;exact h_ ⟨σ3,H3,I4,qn⟩
 ·refine d5 hp (nZ (T.item X rfl rfl rfl hc i ag s3 σ3 H3 X.xe I3 (stat fr3) st3 go) λr s4 ⟨u,hr,h4⟩=>?_);subst hr;refine d5 hp (nZ h4 λ_ s5 zz=>oQ zz λx H5 I5 r5 ⟨y5,st5,fr5⟩=>?_);have I5':=I5.pinned (stat fr5) (T.obj _ _ st5);refine d5 hp (nZ (hg _ s5 σ3 H5 x u _ I5' r5 (step x H5 y5)) λ_ s6 ⟨σ6,H6,I6,q6⟩=>?_);refine d5 hp (nZ (hb _ s6 σ6 H6 _ I6 q6) λf s7 q7=>?_);have again:∀{σ7:St}{H7:Hp},mW X (ag++Aa fp s5.heap) σ7 H7 s7→N σ7 H7→ ∃m,m<n∧ ∃i σ' H',mW X ag σ' H' s7∧tn i s7.heap∧(∀b∈fp,H' b=none)∧W i m σ' H':=λ{σ7 H7} I7 n7=>by
   obtain⟨m',hm,w7⟩:=hN σ7 H7 n7;refine⟨m',hm,i+1,σ7,H7,I7.unpinned,T.keep _ _ _ st5 λb hb o e=>(I7.pin (b,o) (cc _ (cc _ (Ce hb e)))).1,λb hb=>?_,w7⟩;obtain⟨o,e,d⟩:=T.obj _ _ st5 b hb;exact(I7.pin (b,o) (cc _ (cc _ (Ce hb e)))).2.1
  cases f with
  |next=>obtain⟨σ7,H7,I7,n7⟩:=q7;exact again I7 n7
  |cont=>obtain⟨σ7,H7,I7,n7⟩:=q7;exact again I7 n7
  |brk=>obtain⟨σ7,H7,I7,q7⟩:=q7;exact⟨σ7,H7,I7.unpinned,q7⟩
  |ret v=>obtain⟨x7,σ7,H7,I7,r7,q7⟩:=q7;exact⟨x7,σ7,H7,I7.unpinned,r7,q7⟩
end
abbrev R2:=V→V→Hp→VK→Prop
def oI (X:Cx) (f:aj→aj→ck aj) (r:R2):Prop:=
 ∀(ag:List (ai×aJ)) (s:aq) (σ:St) (H:Hp) (x y:V) (v u:aj) (Q:VK),mW X ag σ H s→nA x v→nA y u→r x y H Q→
  av (aC X.prog X.w) X.A (f v u) (EP X ag σ Q) X.xe s
def Gg (X:Cx) (f:aj→ck aj) (r:V→Hp→VK→Prop):Prop:=
 ∀(ag:List (ai×aJ)) (s:aq) (σ:St) (H:Hp) (x:V) (v:aj) (Q:VK),mW X ag σ H s→nA x v→r x H Q→
  av (aC X.prog X.w) X.A (f v) (EP X ag σ Q) X.xe s
def og (X:Cx) (f:aj) (r:List V→Hp→VK→Prop):Prop:=
 ∀(ag:List (ai×aJ)) (s:aq) (σ:St) (H:Hp) (xs:List V) (us:List aj) (Q:VK),mW X ag σ H s→ni xs us→r xs H Q→
  av (aC X.prog X.w) X.A (call f us) (EP X ag σ Q) X.xe s
def Ws (X:Cx) (r:V→Hp→(Bool→Hp→Prop)→Prop):Prop:=
 ∀(ag:List (ai×aJ)) (s:aq) (σ:St) (H:Hp) (x:V) (v:aj) (Q:Bool→Hp→Prop),mW X ag σ H s→nA x v→r x H Q→
  av (aC X.prog X.w) X.A (truthy v) (TP X ag σ Q) X.xe s
def Bl (r:R2) (ta tb:TE):TE:=λσ H Q=>ta σ H λx H1=>tb σ H1 λy H2=>r x y H2 Q
def UD (r:V→Hp→VK→Prop) (ta:TE):TE:=λσ H Q=>ta σ H λx H1=>r x H1 Q
def rI (C:Int→Int→Prop) (g:Int→Int→V):R2:=λx y H Q=>∃i j,x= .int i∧y= .int j∧C i j∧Q (g i j) H
def sW (g:Int→Int→V):R2:=λx y H Q=>∃i j,x= .int i∧y= .int j∧Q (g i j) H
def rU (g:Int→V):V→Hp→VK→Prop:=λx H Q=>∃i,x= .int i∧Q (g i) H
section
variable {X:Cx}{a b:Expr}{ta tb:TE}{pos:bv}
def FY (ha:PE X a ta) (hb:PE X b tb) {R:V→V→Hp→Prop}(I:mW X ag σ H s)
  (h:ta σ H λx H1=>tb σ H1 λy H2=>R x y H2) {Q:aj→aq→Prop}{f:aj→aj→ck aj}
  (hf:∀v u s2 x y H2,mW X ag σ H2 s2→nA x v→nA y u→R x y H2→av (aC X.prog X.w) X.A (f v u) Q X.xe s2) :
  av (aC X.prog X.w) X.A (aH a X.env) (λv s₁=>av (aC X.prog X.w) X.A (aH b X.env) (λu s₂=>av (aC X.prog X.w) X.A (f v u) Q X.xe s₂) X.xe s₁) X.xe s:=by
 refine nZ (ha ag s σ H _ I h) λv s1 zz=>oQ zz λx H1 I1 r1 q1=>?_;refine nZ (hb ag s1 σ H1 _ I1 q1) λu s2 zz=>oQ zz λy H2 I2 r2 q2=>?_;exact hf v u s2 x y H2 I2 r1 r2 q2
def AG (ho:oI X (ce op) r) (ha:PE X a ta) (hb:PE X b tb):PE X (.BinOp a op b pos) (Bl r ta tb):=by
 intro ag s σ H Q I h;exact wpAny_BinOp (FY ha hb I h λv u s2 x y H2 I2 rx ry q=>ho ag s2 σ H2 x y v u Q I2 rx ry q)
def QD{r:V→Hp→VK→Prop}(ho:Gg X (unaryOp op) r) (ha:PE X a ta):PE X (.UnaryOp op a pos) (UD r ta):=by
 intro ag s σ H Q I h;exact jJ (nZ (ha ag s σ H _ I h) λv s1 zz=>oQ zz λx H1 I1 r1 q1=>ho ag s1 σ H1 x v Q I1 r1 q1)
def Do{f:aj→aj→ck aj}{C:Int→Int→Prop}{g:Int→Int→Int}
  (rule:∀(i j:Int) (t u:Tok) (s:aq) (Q:aj→aq→Prop) (E:aj→aq→Prop),C i j→Q (.int (g i j) s.toks) { s with toks:=s.toks+1 }→av (aC X.prog X.w) X.A (f (.int i t) (.int j u)) Q E s) :
  oI X f (rI C λi j=> .int (g i j)):=by
 intro ag s σ H x y v u Q I rx ry h;obtain⟨i,j,rfl,rfl,hc,q⟩:=h;obtain⟨t,rfl⟩:=rx;obtain⟨t',rfl⟩:=ry;exact rule i j t t' s _ _ hc ⟨.int (g i j),H,I.tok _,⟨_,rfl⟩,q⟩
def K'{f:aj→aj→ck aj}{g:Int→Int→Int}
  (rule:∀(i j:Int) (t u:Tok) (s:aq) (Q:aj→aq→Prop) (E:aj→aq→Prop),Q (.int (g i j) s.toks) { s with toks:=s.toks+1 }→av (aC X.prog X.w) X.A (f (.int i t) (.int j u)) Q E s) :
  oI X f (sW λi j=> .int (g i j)):=by
 intro ag s σ H x y v u Q I rx ry h;obtain⟨i,j,rfl,rfl,q⟩:=h;obtain⟨t,rfl⟩:=rx;obtain⟨t',rfl⟩:=ry;exact rule i j t t' s _ _ ⟨.int (g i j),H,I.tok _,⟨_,rfl⟩,q⟩
def C5{f:aj→aj→ck aj}{g:Int→Int→Bool}
  (rule:∀(i j:Int) (t u:Tok) (s:aq) (Q:aj→aq→Prop) (E:aj→aq→Prop),Q (.bool (g i j)) s→av (aC X.prog X.w) X.A (f (.int i t) (.int j u)) Q E s) :
  oI X f (sW λi j=> .bl (g i j)):=by
 intro ag s σ H x y v u Q I rx ry h;obtain⟨i,j,rfl,rfl,q⟩:=h;obtain⟨t,rfl⟩:=rx;obtain⟨t',rfl⟩:=ry;exact rule i j t t' s _ _ ⟨.bl (g i j),H,I,rfl,q⟩
def se (i j:Int):Prop:=0<j∧j<1073741824
def A3 (i j:Int):Prop:=0≤j∧j≤1000000∧i.natAbs<2 ^ 64
def qE (i j:Int):Prop:=(-(2 ^ 64)<i∧i<2 ^ 64)∨(-(2 ^ 64)<j∧j<2 ^ 64)
def qE.ok (h:qE i j):IntMulOk i j:=by
 obtain ⟨h1,h2⟩ |⟨h1,h2⟩:=h
 ·exact .of_left (intBits_le_64 h1 h2)
 ·exact .of_right (intBits_le_64 h1 h2)
def v_:oI X (ce .Add) (sW λi j=> .int (i+j)):=K' λ_ _ _ _ _ _ _ q=>add_int q
def Xu:oI X (ce .Sub) (sW λi j=> .int (i - j)):=K' λ_ _ _ _ _ _ _ q=>sub_int q
def zAN:oI X (ce .Mult) (rI qE λi j=> .int (i*j)):=Do λ_ _ _ _ _ _ _ hc q=>mul_int q hc.ok
def YK:oI X (ce .FloorDiv) (rI se λi j=> .int (i / j)):=Do λi j _ _ _ _ _ hc q=>by
 have h1:(0:Int)<j:=hc.1;have h2:j<1073741824:=hc.2;exact floordiv_int `l (by rw[Int.fdiv_eq_ediv_of_nonneg i `l];exact q) (.inl (PyProof.noPylong_small `l))
def YG:oI X (ce .Mod) (rI (λ_ j=>0<j) λi j=> .int (i % j)):=Do λi j _ _ _ _ _ hc q=>by
 have h1:(0:Int)<j:=hc;exact mod_int' `l (by rw[Int.fmod_eq_emod_of_nonneg i `l];exact q)
def Yl:oI X (ce .Pow) (rI A3 λi j=> .int (i ^ j.toNat)):=Do λ_ _ _ _ _ _ _ hc q=>pow_int_small hc.1 hc.2.1 hc.2.2 q
def Uq{f:aj→ck aj}{g:Int→Int}
  (rule:∀(i:Int) (t:Tok) (s:aq) (Q:aj→aq→Prop) (E:aj→aq→Prop),Q (.int (g i) s.toks) { s with toks:=s.toks+1 }→av (aC X.prog X.w) X.A (f (.int i t)) Q E s) :
  Gg X f (rU λi=> .int (g i)):=by
 intro ag s σ H x v Q I rx h;obtain⟨i,rfl,q⟩:=h;obtain⟨t,rfl⟩:=rx;exact rule i t s _ _ ⟨.int (g i),H,I.tok _,⟨_,rfl⟩,q⟩
def U6:Gg X (unaryOp .USub) (rU λi=> .int (-i)):=Uq λ_ _ _ _ _ q=>neg_int q
end
section
variable {X:Cx}{a b c:Expr}{ta tb tc:TE}{pos:bv}
def Al (I:mW X ag σ H s) (q:Q (.bl k) H) (e:k=k'):EP X ag σ Q (.bool k') s:=by
 subst e;exact⟨.bl k,H,I,rfl,q⟩
def Vs:oI X (bF .Lt) (sW λi j=> .bl (decide (i<j))):=C5 λ_ _ _ _ _ _ _ q=>lt_int q
def tH:oI X (bF .LtE) (sW λi j=> .bl (decide (i≤j))):=C5 λ_ _ _ _ _ _ _ q=>le_int q
def U8:oI X (bF .Gt) (sW λi j=> .bl (decide (j<i))):=C5 λ_ _ _ _ _ _ _ q=>gt_int q
def Ro:oI X (bF .GtE) (sW λi j=> .bl (decide (j≤i))):=C5 λ_ _ _ _ _ _ _ q=>ge_int q
def sZ:oI X (bF .In) (λx y H Q=>∃i j,x= .str i∧y= .str j∧Q (.bl (!(db j i 0 j.length 1).isEmpty)) H):=by
 intro ag s σ H x y v u Q I rx ry h;obtain⟨i,j,rfl,rfl,q⟩:=h;obtain⟨t,rfl⟩:=rx;obtain⟨t',rfl⟩:=ry;exact in_str (Al I q rfl)
def wI:oI X (bF .Is) (λx y H Q=>y= .b_∧Q (.bl (decide (x= .b_))) H):=by
 intro ag s σ H x y v u Q I rx ry h;obtain⟨rfl,q⟩:=h;cases ry;refine is_none_gen (Al I q ?_);cases x<;>first
  | (cases rx;rfl)
  | (obtain⟨t,rfl⟩:=rx;rfl)
def vk:oI X (bF .IsNot) (λx y H Q=>y= .b_∧Q (.bl (!decide (x= .b_))) H):=by
 intro ag s σ H x y v u Q I rx ry h;obtain⟨rfl,q⟩:=h;cases ry;refine isnot_none_gen (Al I q ?_);cases x<;>first
  | (cases rx;rfl)
  | (obtain⟨t,rfl⟩:=rx;rfl)
def rj:oI X (bF .NotIn) (λx y H Q=>∃i j,x= .str i∧y= .str j∧Q (.bl (!(!(db j i 0 j.length 1).isEmpty))) H):=by
 intro ag s σ H x y v u Q I rx ry h;obtain⟨i,j,rfl,rfl,q⟩:=h;obtain⟨t,rfl⟩:=rx;obtain⟨t',rfl⟩:=ry;exact notIn_str (Al I q rfl)
def oI.or{f:aj→aj→ck aj}{r r':R2}(h:oI X f r) (h':oI X f r'):oI X f (λx y H Q=>r x y H Q∨r' x y H Q):=by
 intro ag s σ H x y v u Q I rx ry q;obtain q |q:=q
 ·exact h ag s σ H x y v u Q I rx ry q
 ·exact h' ag s σ H x y v u Q I rx ry q
def Qz (ho:oI X (bF op) r) (ha:PE X a ta) (hb:PE X b tb) (hm:fS op b=false):PE X (.Compare a [op] [b] pos) (Bl r ta tb):=by
 intro ag s σ H Q I h;exact wpAny_Compare1 (FY ha hb I h λv u s2 x y H2 I2 rx ry q=>ho ag s2 σ H2 x y v u Q I2 rx ry q) hm
def U2 (t:TE):TT:=λσ H Q=>t σ H λx H'=>∃k,x= .bl k∧Q k H'
def Q2 (ho:oI X (bF op) r) (ha:PE X a ta) (hb:PE X b tb) (hm:fS op b=false):PT X (.Compare a [op] [b] pos) (U2 (Bl r ta tb)):=by
 intro ag s σ H Q I h;refine wpAny_isTrue_Compare1 (nZ (ha ag s σ H _ I h) λv s1 zz=>oQ zz λx H1 I1 r1 q1=>nZ (hb ag s1 σ H1 _ I1 q1) λu s2 zz=>oQ zz λy H2 I2 r2 q2=>
  nZ (ho ag s2 σ H2 x y v u _ I2 r1 r2 q2) λc s3 zz=>oQ zz λz H3 I3 r3 ⟨k,e,q3⟩=>?_) hm
 subst e;cases r3;exact eC ⟨H3,I3,q3⟩
def UO (r r':R2) (ta tb tc:TE):TE:=λσ H Q=>ta σ H λx H1=>tb σ H1 λy H2=>r x y H2 λz H3=>∃k,z= .bl k∧
 (if k=true then tc σ H3 λw' H4=>r' y w' H4 Q else Q (.bl false) H3)
def YB (ho:oI X (bF op) r) (ho':oI X (bF op') r') (ha:PE X a ta) (hb:PE X b tb) (hc:PE X c tc)
  (hm:gB [op,op'] [b,c]=false:=by with_unfolding_all rfl):PE X (.Compare a [op,op'] [b,c] pos) (UO r r' ta tb tc):=by
 intro ag s σ H Q I h;refine Compare_chain (nZ (ha ag s σ H _ I h) λv s1 zz=>oQ zz λx H1 I1 r1 q1=>chain_link (nZ (hb ag s1 σ H1 _ I1 q1) λu s2 zz=>oQ zz λy H2 I2 r2 q2=>
  nZ (ho ag s2 σ H2 x y v u _ I2 r1 r2 q2) λd s3 zz=>oQ zz λz H3 I3 r3 ⟨k,e,q3⟩=>?_)) hm
 subst e;cases r3;refine eC ?_;cases k with
 |false=>exact ite_ff ⟨.bl false,H3,I3,rfl,q3⟩
 |true=>exact ite_tt (chain_last (nZ (hc ag s3 σ H3 _ I3 q3) λw' s4 zz=>oQ zz λz' H4 I4 r4 q4=>ho' ag s4 σ H4 y z' u w' Q I4 r2 r4 q4))
def Bu (K:am) (x:V) (H:Hp) (k:Bool):Prop:=
 match x with
 | .b_=>k=false
 | .bl b=>k=b
 | .int i=>k=(i != 0)
 | .str y=>y.length≤sizeLine∧k=((y.length:Int) != 0)
 | .byt y=>y.size≤sizeLine∧k=((y.size:Int) != 0)
 | .ref p=>(∃xs,o9 K H p xs∧k= !xs.isEmpty)∨(∃xs,pQ K H p xs∧k= !xs.isEmpty)∨ ∃d6,H p=aa (.dK d6)∧k= !d6.isEmpty
 |_=>False
def RP{κ:Type}{d6:List (κ×V)}{vs:List (κ×aj)}(r:KV d6 vs):(!vs.isEmpty)= !d6.isEmpty:=by
 cases r<;>rfl
def Hw{xs:List V}{dR:List aj}(r:ni xs dR):(!dR.toArray.isEmpty)= !xs.isEmpty:=by
 cases r<;>simp
def xH:(sizeLine:Nat)<2 ^ 63:=by rw[eN];decide
def HD:Ws X (λx H Q=>∃k,Bu X.K x H k∧Q k H):=by
 intro ag s σ H x v Q I rx h;obtain⟨k,e,q⟩:=h;have hl:=xH;have hs:sizeLine=16777216:=eN;cases x with
 |b_=>
  cases rx;have e':k=false:=e;subst e';exact truthy_none ⟨H,I,q⟩
 |bl b=>
  cases rx;have e':k=b:=e;subst e';exact eC ⟨H,I,q⟩
 |int i=>
  obtain⟨t,rfl⟩:=rx;have e':k=(i != 0):=e;subst e';exact PySem.P.truthy_int ⟨H,I,q⟩
 |str y=>
  obtain⟨t,rfl⟩:=rx;obtain⟨hy,e'⟩:y.length≤sizeLine∧k=((y.length:Int) != 0):=e;subst e';exact PySem.P.truthy_str `l ⟨H,I.tok _,q⟩
 |byt y=>
  obtain⟨t,rfl⟩:=rx;obtain⟨hy,e'⟩:y.size≤sizeLine∧k=((y.size:Int) != 0):=e;subst e';exact PySem.W.truthy_bytes `l ⟨H,I.tok _,q⟩
 |ref p=>
  cases rx;have e':(∃xs,o9 X.K H p xs∧k= !xs.isEmpty)∨(∃xs,pQ X.K H p xs∧k= !xs.isEmpty)∨ ∃d6,H p=aa (.dK d6)∧k= !d6.isEmpty:=e;obtain ⟨xs,hx,e'⟩ |⟨xs,hx,e'⟩ |⟨d6,hx,e'⟩:=e'
  ·subst e';obtain⟨dR,r,pl,hz⟩:=I.list hx;have hlen:=r.length;exact wpAny_truthy_list pl.isList (by simp only[bj];lia) ⟨H,I.tok _,by rw[Hw r];exact q⟩
  ·subst e';obtain⟨dR,r,pl,hz⟩:=I.tuple hx;have hlen:=r.length;exact truthy_tuple pl (by simp only[bj];lia) ⟨H,I.tok _,by rw[Hw r];exact q⟩
  ·subst e';obtain⟨hz,hS,vs,r,m⟩:d6.length≤sizeLine∧(p == fG)=false∧ ∃vs,KV d6 vs∧s.heap.DictOf (rA X.prog X.w) p vs:=I.cq p _ hx;have hlen:d6.length=vs.length:=fP r;exact wpAny_truthy_dict hS m `l ⟨H,I.tok _,by rw[RP r];exact q⟩
 |_=>exact(show False from e).elim
def T_ (ha:PE X a ta) (he:∀whole,isTrue a X.env whole=(do let v ←whole;standAt a.pos;holding [v] (truthy v))) :
  PT X a (λσ H Q=>ta σ H λx H'=>∃k,Bu X.K x H' k∧Q k H'):=by
 intro ag s σ H Q I h;exact isTrue_plain (nZ (ha ag s σ H _ I h) λv s1 zz=>oQ zz λx H1 I1 r1 q1=>HD ag s1 σ H1 x v Q I1 r1 q1) (he _)
def sf:oI X (ce .Add) (λx y H Q=>∃i j,x= .str i∧y= .str j∧i.length+j.length≤sizeLine∧Q (.str (i++j)) H):=by
 intro ag s σ H x y v u Q I rx ry h;obtain⟨i,j,rfl,rfl,hz,q⟩:=h;obtain⟨t,rfl⟩:=rx;obtain⟨t',rfl⟩:=ry;exact add_str (λt' tk=>⟨.str (i++j),H,I.tok _,⟨_,rfl⟩,q⟩) hz
def uz (r:ni [x] us):∃u,us=[u]∧nA x u:=by
 cases r with
 |cons r1 r2=>cases r2;exact⟨_,rfl,r1⟩
def Gk (r:ni [x,y] us):∃u w',us=[u,w']∧nA x u∧nA y w':=by
 cases r with
 |cons r1 r2=>
  cases r2 with
  |cons r3 r4=>cases r4;exact⟨_,_,rfl,r1,r3⟩
def Z1 (hc:X.calm=true):og X (.builtin "max") (λxs H Q=>∃i j,xs=[.int i, .int j]∧Q (.int (if j > i then j else i)) H):=by
 intro ag s σ H xs us Q I r h;obtain⟨i,j,rfl,q⟩:=h;obtain⟨u,w',rfl,⟨t,rfl⟩,⟨t',rfl⟩⟩:=Gk r;refine max_two_ints (I.ok.hd hc) λh' tk k=>⟨_,H,I.kept k,?_,q⟩;by_cases hj:j > i
 ·rw[if_pos hj,if_pos hj];exact⟨_,rfl⟩
 ·rw[if_neg hj,if_neg hj];exact⟨_,rfl⟩
def Vf (hc:X.calm=true):og X (.builtin "min") (λxs H Q=>∃i j,xs=[.int i, .int j]∧Q (.int (if j<i then j else i)) H):=by
 intro ag s σ H xs us Q I r h;obtain⟨i,j,rfl,q⟩:=h;obtain⟨u,w',rfl,⟨t,rfl⟩,⟨t',rfl⟩⟩:=Gk r;refine min_two_ints (I.ok.hd hc) λh' tk k=>⟨_,H,I.kept k,?_,q⟩;by_cases hj:j<i
 ·rw[if_pos hj,if_pos hj];exact⟨_,rfl⟩
 ·rw[if_neg hj,if_neg hj];exact⟨_,rfl⟩
def YS:og X (.type "int") (λxs H Q=>(∃i,xs=[.int i]∧Q (.int i) H)∨ ∃k,xs=[.bl k]∧Q (.int (if k then 1 else 0)) H):=by
 intro ag s σ H xs us Q I r h;obtain ⟨i,rfl,q⟩ |⟨k,rfl,q⟩:=h
 ·obtain⟨u,rfl,t,rfl⟩:=uz r;exact call_int_int ⟨.int i,H,I,⟨_,rfl⟩,q⟩
 ·obtain⟨u,rfl,r1⟩:=uz r;cases r1;exact call_int_bool ⟨.int (if k then 1 else 0),H,I.tok _,⟨_,rfl⟩,q⟩
end
structure wJ (h:aF) (x dx C:ai) (mA:ah→Option aj):Prop where
  obj:h.get? x=aa (iP C dx)
  ns:h.Ns1 dx mA
  ne:dx≠x
def RD{h:aF}{dx:ai}{mA:ah→Option aj}(n:h.Ns1 dx mA):∃od,h.get? dx=aa od∧ ∀name,jW name od=aa (mA name):=by
 obtain⟨o,es,ep,ho,hd,hk,_,hm⟩:=n;refine⟨o,ho,λname=>?_⟩;have e:=hm name;unfold nsFind findBy at e;rw[←Array.find?_toList]at e;unfold jW;rw[hd];dsimp only;split
 ·rename_i y q;rw[q]at e;exact congrArg aa e
 ·rename_i q;rw[q]at e;have a:es.toList.any (·.refKey)=false:=by
   rw[List.any_eq_false];intro y hy;obtain⟨z,t,hkey⟩:=hk y (kJ.mp hy);simp [iY.refKey,hkey]
  have a':¬es.toList.any (·.refKey)=true:=by rw[a];exact c_
  rw[if_neg a'];exact congrArg aa e
def wJ.look{mA:ah→Option aj}(I:wJ h x dx C mA):∃od,PySem.W.InstAt h x (iP C dx) C (aa od)∧ ∀name,jW name od=aa (mA name):=
 let ⟨od,ho,hl⟩:=RD I.ns
 ⟨od,⟨I.obj,rfl,rfl,ho⟩,hl⟩
section
variable {P:bb}{w:aQ}{H:Hp}{h:aF}{a C dx:ai}{fs:List (ah×V)}
def Yg (cq:oR P w H h) (e:H a=aa (.ins C dx fs)):∃mA,wJ h a dx C mA∧(∀f,qW (fs.lookup f) (mA f))∧PySem.Within mA (fs.map (·.1))∧fs.length≤1000∧H dx=aa (.own a):=by
 obtain⟨d,z,ne,ob,mA,n,r,q⟩:=(show nM P w H h a (.ins C dx fs) from cq a _ e);exact⟨mA,⟨ob,n,ne⟩,r,q,z,d⟩
end
structure vF (K:am) (C:ai):Prop where
  pg:iF K C eY=true
  hd:lG K C=true
  po:kM K C=true
  sa:cx K (.ref C) "__setattr__" =aa (aa (.builtin "object.__setattr__"))
def vF.get{K:am}{C:ai}(c:vF K C) (f:ah):iF K C f=true:=c.pg
def NK (K:am) (C:ai) (f:ah):Prop:=cx K (.ref C) f=aa none
structure D6 (K:am) (C:ai) (m:ah) (f:ai):Prop where
  at_:cx K (.ref C) m=aa (aa (.ref f))
  fn:ie K (.ref f)=true
  kp:cU K (.ref f)=true
section
variable {X:Cx}{ag:List (ai×aJ)}{σ:St}{H:Hp}{s:aq}{A:bx}{E:aj→aq→Prop}{Q:aj→aq→Prop}{c:aj}{b:Bool}
inductive pU (K:am) (H:Hp):V→aj→Prop where
  |b_:pU K H .b_ (.type "NoneType")
  |bl (x:Bool):pU K H (.bl x) (.type "bool")
  |int (i:Int):pU K H (.int i) (.type "int")
  |str (x:ah):pU K H (.str x) (.type "str")
  |flt (x:UInt64):pU K H (.flt x) (.type "float")
  |bJ {a:ai}{xs:List V}(e:H a=aa (.bJ xs)):pU K H (.ref a) (.type "list")
  |frz {a:ai}{o:aJ}{xs:List V}(e:H a=aa (.frz o (.bJ xs))):pU K H (.ref a) (.type "list")
  |bT {a:ai}{xs:List V}(e:H a=aa (.bT xs)):pU K H (.ref a) (.type "tuple")
  |dK {a:ai}{d6:List (Key×V)}(e:H a=aa (.dK d6)):pU K H (.ref a) (.type "dict")
  |dT {a:ai}{d6:List (List Key×V)}(e:H a=aa (.dT d6)):pU K H (.ref a) (.type "dict")
  |ins {a C dx:ai}{fs:List (ah×V)}(e:H a=aa (.ins C dx fs)) (cl:vF K C) (ha:cx K (.ref C) "__class__" =aa (aa (.builtin "object.__class__")))
      (hn:PySem.W.specialIn K (.builtin "object.__class__") "__get__" =aa (aa (.builtin "getset_descriptor.__get__"))) (htk:PySem.W.takesIn K (.builtin "object.__class__")=aa true)
      (hm:iQ K C (.type "object")=aa true):pU K H (.ref a) (.ref C)
def TN (I:mW X ag σ H s) (rx:nA x u) (ty:pU X.K H x t) (e:fU X.K t c=aa b) (h:∀tk,Q (.bool b) { s with toks:=tk }) :
  av (aC X.prog X.w) A (call (.builtin "isinstance") [u,c]) Q E s:=by
 cases ty with
 |b_=>cases(show u=cR from rx);exact cQ PySem.W.kitx_none I.kIn dQ e (λz=>nomatch z) h
 |bl y=>cases(show u=eS y from rx);exact cQ PySem.W.kitx_bool I.kIn dQ e (λz=>nomatch z) h
 |int i=>obtain⟨t,q⟩:=(show ∃t,u=gi i t from rx);cases q;exact cQ PySem.W.kitx_int I.kIn dQ e (λz=>nomatch z) h
 |str y=>obtain⟨t,q⟩:=(show ∃t,u=fT y t from rx);cases q;exact cQ PySem.W.kitx_str I.kIn dQ e (λz=>nomatch z) h
 |flt y=>obtain⟨t,q⟩:=(show ∃t,u=aj.float y t from rx);cases q;exact cQ PySem.W.kitx_float I.kIn dQ e (λz=>nomatch z) h
 | @bJ a xs ea=>
  cases(show u=bP a from rx);obtain⟨_,_,n,_,h1⟩:=(show nM X.prog X.w H s.heap a (.bJ xs) from I.cq a _ ea);exact cQ k_ I.kIn ⟨_,h1,rfl⟩ e (λz=>nomatch z) h
 | @frz a ob xs ea=>
  cases(show u=bP a from rx);obtain⟨_,_,_,n,_,h1⟩:=(show nM X.prog X.w H s.heap a (.frz ob (.bJ xs)) from I.cq a _ ea);exact cQ k_ I.kIn ⟨_,h1,rfl⟩ e (λz=>nomatch z) h
 | @bT a xs ea=>
  cases(show u=bP a from rx);obtain⟨_,_,_,p⟩:=(show nM X.prog X.w H s.heap a (.bT xs) from I.cq a _ ea);obtain⟨o,h1,h2,_⟩:=p;exact cQ PySem.W.kitx_tuple I.kIn ⟨o,h1,h2⟩ e (λz=>nomatch z) h
 | @dK a d6 ea=>
  cases(show u=bP a from rx);obtain⟨_,_,vs,_,p⟩:=(show nM X.prog X.w H s.heap a (.dK d6) from I.cq a _ ea);obtain⟨o,es,ep,h1,h2,_⟩:=p;exact cQ mf I.kIn ⟨o,h1,h2.1⟩ e (λz=>nomatch z) h
 | @dT a d6 ea=>
  cases(show u=bP a from rx);obtain⟨_,_,xs,_,o,es,ep,h1,h2,_⟩:=(show nM X.prog X.w H s.heap a (.dT d6) from I.cq a _ ea);exact cQ mf I.kIn ⟨o,h1,h2.1⟩ e (λz=>nomatch z) h
 | @ins a C dx fs ea cl ha hn htk hm=>
  cases(show u=bP a from rx);obtain⟨mA,O,_⟩:=Yg I.cq ea;obtain⟨od,J,_⟩:=O.look;exact cQ (PySem.W.kitx_own (cl.get _) cl.hd ha hn htk hm) I.kIn J e (λz=>nomatch z) h
end
structure oV (k:Nat) (A:bx):Prop where
  hd:A.handled=none
  dp:A.depth+3*k+5<recursionLimit
  un:A.units+16*k+200<cLine
def oV.mono (r:oV k A) (h:j≤k):oV j A:=⟨r.hd,by have:=r.dp;lia,by have:=r.un;lia⟩
def oV.deeper (r:oV (k+1) A) (env:bS):oV k (A.deeper env):=
 ⟨r.hd,by have:=r.dp;show A.depth+1+3*k+5<_;lia,by have:=r.un;show A.units+3+16*k+200<_;lia⟩
def oV.depth (r:oV k A):A.depth<recursionLimit:=by have:=r.dp;lia
def oV.units (r:oV k A):A.units+64<cLine:=by have:=r.un;lia
def Ta:TA:=λ_ H Q=>Q [] H
def Sl (ta:TE) (tr:TA):TA:=λσ H Q=>ta σ H λx H1=>tr σ H1 λxs H2=>Q (x::xs) H2
section
variable {X:Cx}{e:Expr}{es:List Expr}{te:TE}{t:TA}{pos:bv}
def pB:PA X [] Ta:=λ_ _ _ _ H Q I h=>Calls.spliced_nil ⟨[],H,I, .nil,h⟩
def ur (ha:PE X e te) (hr:PA X es t) (hs:ax (e::es) X.env=(false,aH e X.env)::ax es X.env):PA X (e::es) (Sl te t):=by
 intro pos ag s σ H Q I h;rw[hs];show av _ _ (spliced ((false,aH e X.env)::aZ pos (ax es X.env))) _ _ s;refine Calls.spliced_cons (nZ (ha ag s σ H _ I h) λu s1 zz=>oQ zz λx H1 I1 r1 q1=>?_);exact nZ (hr pos ag s1 σ H1 _ I1 q1) λus s2 zz=>oQ zz λxs H2 I2 r2 q2=>⟨x::xs,H2,I2, .cons r1 r2,q2⟩
def XV (t:TA):TE:=λσ H Q=>t σ H λxs H1=>xs.length≤sizeLine∧ ∀p,H1 p=none→Q (.ref p) (oa H1 p (.bT xs))
def Xm (t:TA):TE:=λσ H Q=>t σ H λxs H1=>xs.length≤sizeLine∧ ∀p,H1 p=none→Q (.ref p) (oa H1 p (.bJ xs))
def X0{x1}(h:PA X es t):PE X (.Tuple es x1 pos) (XV t):=by
 intro ag s σ H Q I hq;refine wpAny_Tuple_spliced (nZ (h pos ag s σ H _ I hq) λus s1 zz=>oQ zz λxs H1 I1 r ⟨z,q⟩=>⟨by rw[←r.length];exact z,?_⟩);have hf:H1 s1.heap.objs.size=none:=I1.cq.fresh (aA _);refine⟨.ref s1.heap.objs.size,oa H1 s1.heap.objs.size (.bT xs),I1.laid (t':=s1.toks) (λb u e=>aS _ e) (aA _) ?_,rfl,q _ hf⟩;exact⟨z,us,r,⟨_,bO _ rfl,rfl,_,rfl⟩⟩
def Vb (h:PA X es t):PE X (.List es pos) (Xm t):=by
 intro ag s σ H Q I hq;refine wpAny_List_spliced (nZ (h pos ag s σ H _ I hq) λus s1 zz=>oQ zz λxs H1 I1 r ⟨z,q⟩=>⟨by rw[←r.length];exact z,?_⟩);have hf:H1 s1.heap.objs.size=none:=I1.cq.fresh (aA _);refine⟨.ref s1.heap.objs.size,oa H1 s1.heap.objs.size (.bJ xs),I1.laid (t':=s1.toks) (λb u e=>aS _ e) (aA _) ?_,rfl,q _ hf⟩;exact⟨z,us,0,r,bO _ rfl⟩
end
abbrev Sp:=List V→Hp→VK→XK→Prop
abbrev yj:=List bS→Hp→aq→XK→aj→aq→Prop
structure t5 (P:bb) (w:aQ) (K:am) (mg:ah→Option aj) (base:aF) (A:bx) (outer:List bS) (s:aq) (H:Hp):Prop where
  frames:A.frames=aa outer
  mod:Mod K mg base
  bs:∀b o,base.get? b=aa o→s.heap.get? b=aa o∧H b=none
  bsz:base.objs.size≤s.heap.objs.size
  funs:s.heap.FunFrames base outer
  frf:∀b∈frs outer,H b=none
  cq:oR P w H s.heap
  bare:cF s.gens
def CE (outer:List bS) (P:bb) (w:aQ) (H:Hp) (s:aq) (Q:VK) (u:aj) (s':aq):Prop:=
 ∃v H',s'.os=s.os∧cF s'.gens∧Un (frs outer) [] H H' s.heap s'.heap∧oR P w H' s'.heap∧nA v u∧Q v H'
def CR (CX:yj) (outer:List bS) (P:bb) (w:aQ) (H:Hp) (s:aq) (Q:VK) (E:XK) (r:Result) (s':aq):Prop:=
 match r with
 | .ok (.ret u)=>CE outer P w H s Q u s'
 | .ok _=>False
 | .error e=>CX outer H s E e s'
structure pi (P:bb) (w:aQ) (K:am) (mg:ah→Option aj) (base:aF) (CX:yj) (k:Nat) (f:ai) (fd:c6) (ps:List ah) (sp:Sp):Prop where
  len:∀vs H Q E,sp vs H Q E→vs.length=ps.length
  run:∀(A:bx) (outer:List bS) (s:aq) (H:Hp) (args:Args) (us:List aj) (vs:List V) (Q:VK) (E:XK),oV k A→t5 P w K mg base A outer s H→fo s fd args (ps.zip us)→ni vs us→sp vs H Q E→
    dZ (aC P w) A (.call (.ref f) args) (CR CX outer P w H s Q E) s
def pi.mono{K:am}{mg:ah→Option aj}(F:pi P w K mg base CX j f fd ps sp) (h:j≤k) :
  pi P w K mg base CX k f fd ps sp:=⟨F.len,λA outer s H args us vs Q E hr=>F.run A outer s H args us vs Q E (hr.mono h)⟩
section
variable {X:Cx}{ag:List (ai×aJ)}{σ:St}{H:Hp}{s:aq}
def mW.env0 (I:mW X ag σ H s):t5 X.prog X.w X.K X.mg X.base X.A X.stack s H:=
 ⟨I.ok.frames,I.ok.mod,I.bs,aX I.ok.bsz I.sz,I.stack,I.stkFree,I.cq,I.bare⟩
end
def pM (K:am) (fd:c6) (ps:List ah) (ds:List aj):Prop:=
 ∀(s:aq) (us:List aj),K.In s.heap→(us++ds).length=ps.length→fo s fd ⟨us,[]⟩ (ps.zip (us++ds))
def pM.all{K:am}(h:∀us:List aj,us.length=ps.length→jf fd ⟨us,[]⟩=pure (ps.zip us)):pM K fd ps []:=λs us _ hl=>by
 rw[bf]at hl⊢;exact .of_eq (h us hl)
section
variable {f C:ai}
structure Mk (K:am) (C f:ai):Prop where
  makes:ik K C=true
  init:cx K (.ref C) "__init__" =aa (aa (.ref f))
  fn:ie K (.ref f)=true
  kp:cU K (.ref C)=true
end
structure p4 (N P:List ah) (sc:Scope):Prop where
  kind:sc.kind= .function
  co:sc.isCoroutine=false
  gen:sc.isGenerator=false
  nd:N.Nodup
  pre:N.take P.length=P
  par:∀x∈P,sc.names.lookup x=aa .local∨sc.names.lookup x=aa .cell
  nofree:∀y∈sc.names,y.2≠ .free
theorem Hf{kindOf:ah→Option ca}:∀{binds:List (ah×aj)}{m:ah→Option aj},(∀v,(x,v)∉binds)→dY kindOf binds m x=m x
 | [],_,_=>rfl
 | (n,v)::r,m,h=>by
  unfold dY;rw[Hf λw hw=>h w (aG _ hw)];split
  ·have:x≠n:=by rintro rfl;exact h v aI
   simp [this]
  ·rfl
theorem OS{kindOf:ah→Option ca}:∀{binds:List (ah×aj)}{m:ah→Option aj},(∀v,(x,v)∉binds)→dI kindOf binds m x=m x
 | [],_,_=>rfl
 | (n,v)::r,m,h=>by
  unfold dI;rw[OS λw hw=>h w (aG _ hw)];split
  ·rfl
  ·have:x≠n:=by rintro rfl;exact h v aI
   simp [this]
theorem Hm{kindOf:ah→Option ca}:∀{P:List ah}{vs:List aj}{i:Nat}{m:ah→Option aj},P.Nodup→P[i]? =aa x→vs[i]? =aa v→kindOf x=aa .local→
  dY kindOf (P.zip vs) m x=aa v
 | [],_,_,_,_,h,_,_=>by simp at h
 |_::_,[],_,_,_,_,h,_=>by simp at h
 |p::P,w::vs,0,m,nd,h1,h2,hk=>by
  simp at h1 h2;subst h1;subst h2;show dY kindOf ((p,w)::P.zip vs) m p=_;unfold dY;rw[Hf λv hv=>(eI.mp nd).1 (fX hv).1,if_pos hk];simp
 |p::P,w::vs,i+1,m,nd,h1,h2,hk=>by
  show dY kindOf ((p,w)::P.zip vs) m x=_;unfold dY;exact Hm (i:=i) (eI.mp nd).2 (by simpa using h1) (by simpa using h2) hk
theorem LW{kindOf:ah→Option ca}:∀{P:List ah}{vs:List aj}{i:Nat}{m:ah→Option aj},P.Nodup→P[i]? =aa x→vs[i]? =aa v→kindOf x≠aa .local→
  dI kindOf (P.zip vs) m x=aa v
 | [],_,_,_,_,h,_,_=>by simp at h
 |_::_,[],_,_,_,_,h,_=>by simp at h
 |p::P,w::vs,0,m,nd,h1,h2,hk=>by
  simp at h1 h2;subst h1;subst h2;show dI kindOf ((p,w)::P.zip vs) m p=_;unfold dI;rw[OS λv hv=>(eI.mp nd).1 (fX hv).1,if_neg hk];simp
 |p::P,w::vs,i+1,m,nd,h1,h2,hk=>by
  show dI kindOf ((p,w)::P.zip vs) m x=_;unfold dI;exact LW (i:=i) (eI.mp nd).2 (by simpa using h1) (by simpa using h2) hk
noncomputable def start (N:List ah) (vs:List V):St:=vs.map aa++bp (N.length - vs.length) none
noncomputable def vw (CX:yj) (P:bb) (w:aQ) (K:am) (mg:ah→Option aj) (base:aF) (N:List ah) (qual:ah) (scope:Scope) (f:ai) (cd:aj) (A:bx) (outer:List bS) (s:aq) (H:Hp) (E:XK):Cx where
  prog:=P
  w:=w
  K:=K
  mg:=mg
  base:=base
  A:=A.deeper (cC qual scope s.heap.objs.size f cd)
  N:=N
  s₀:=s
  H₀:=H
  env:=cC qual scope s.heap.objs.size f cd
  outer:=outer
  stack:=cC qual scope s.heap.objs.size f cd::outer
  ex:=[]
  calm:=true
  fn:=λ_=>true
  pn:=[]
  xe:=λe s'=>av (aC P w) (A.deeper (cC qual scope s.heap.objs.size f cd)) (leaving (cC qual scope s.heap.objs.size f cd) e) (λ_ s''=>CX outer H s E e s'') (λe' s''=>CX outer H s E e' s'') s'
def O9{sc:Scope}{n:Nat}{x:ah}(h:sc.names.lookup x=aa .cell):∃c,(jd n sc.names []).lookup x=aa c:=by
 have q:=j9 sc.names n [] (.inl h);exact dE.mp q
def Zf{K:am}{mg:ah→Option aj} 
  (S:p4 N ps scope) (hd:A.handled=none) (e0:t5 P w K mg base A outer s H) (hl:vs.length=ps.length) (r:ni vs us)
  (x:InCallC s s.heap.objs.size (dY (cC qual scope s.heap.objs.size f cd).kindOf (ps.zip us) λ_=>none) (jd (s.heap.objs.size+1) scope.names []) (dI (cC qual scope s.heap.objs.size f cd).kindOf (ps.zip us) λ_=>none) s1) :
  mW (vw CX P w K mg base N qual scope f cd A outer s H E) [] (start N vs) H s1:=by
 have hpl:ps.length≤N.length:=by have:=congrArg dF S.pre;rw[dC]at this;lia
 obtain⟨h1,tk,rfl,hk⟩:=x.done;have noA:∀b:ai,b∉(vw CX P w K mg base N qual scope f cd A outer s H E).ex:=λb z=>absurd (show b∈([]:List ai) from z) `s;refine⟨⟨e0.mod,S.kind,rfl,rfl,aA _,λy z c h1 h2=>?_,λy hy=>?_,λy c _ h=>?_,λ_=>hd,bx.frames_deeper e0.frames, .inr ⟨rfl,rfl⟩,λb z=>absurd z (noA b),e0.bs,e0.bsz,λb _ _=>noA b,λb z=>absurd z (noA b),e0.funs,e0.frf⟩,
  rfl,e0.bare,Un.kept hk,⟨_,x.toInCall.ns,λi y v h1 h2 h3=>?_⟩,λy c h=>⟨_,x.cell y c h⟩,e0.cq.fresh (aA _),λy c h=>?_,λp hp=>absurd (show p∈([]:List (ai×aJ)) from hp) `s,e0.cq.kept hk,?_⟩
 ·exact name_of_addr x.apart (fv h1) (fv h2)
 ·have hy:scope.names.lookup y=aa .cell∨scope.names.lookup y=aa .free:=hy;obtain hy |hy:=hy
  ·exact O9 hy
  ·exact absurd rfl (S.nofree _ (fv hy))
 ·exact jp (x.above y c (fv h))
 ·have hi:i<vs.length:=by
   unfold start at h2;by_cases hi:i<vs.length
   ·exact hi
   ·rw[iT (by simpa using hi)]at h2;rw[l9]at h2;split at h2<;>cases h2
  have ha:vs[i]? =aa v:=by
   unfold start at h2;rw[lQ (by simpa using hi),aV]at h2;cases e:vs[i]? with
   |none=>rw[e]at h2;cases h2
   |some a=>rw[e]at h2;cases h2;rfl
  obtain⟨u,hu,rv⟩:=r.get ha;have hp:ps[i]? =aa y:=by
   rw[←S.pre,List.getElem?_take_of_lt `l];exact h1
  have ndP:ps.Nodup:=by rw[←S.pre];exact S.nd.sublist (md _ _)
  refine⟨u,rv,?_⟩;obtain k |k:=S.par y (aN hp)
  ·exact .inl ⟨k,Hm ndP hp hu k⟩
  ·obtain⟨c,e⟩:=O9 (n:=s.heap.objs.size+1) k;refine .inr ⟨.inl k,c,e,?_⟩;have q:=x.cell y c e;rw[LW ndP hp hu (by show scope.names.lookup y≠_;rw[k];decide)]at q;exact q
 ·exact e0.cq.fresh (jp (x.above y c (fv h)))
 ·unfold start;show _=N.length;rw[aW,ay,gT];lia
def Ny{K:am}{mg:ah→Option aj}{dV kV doc pm cdv ct oc:aj} 
  (lk:K.lookup f=aa ⟨oc,od, .func (du name qual params body scope dV kV doc pm an cdv ct),osl⟩) (hcd:fK K cdv qual=true) (S:p4 N ps scope)
  (len:∀vs H Q E,sp vs H Q E→vs.length=ps.length)
  (hbody:∀(A:bx) (outer:List bS) (s:aq) (H:Hp) (vs:List V) (Q:VK) (E:XK),oV k (A.deeper (cC qual scope s.heap.objs.size f cdv))→sp vs H Q E→
   ∃t,rG (vw CX P w K mg base N qual scope f cdv A outer s H E) body t∧t { nx:=λ_ H'=>Q .b_ H',rt:=Q } (start N vs) H) :
  pi P w K mg base CX (k+1) f (du name qual params body scope dV kV doc pm an cdv ct) ps sp:=by
 refine⟨len,λA outer s H args us vs Q E hr e0 hb r hsp=>?_⟩;have hl:=len _ _ _ _ hsp;have KX:K.In s.heap:=e0.mod.kin.keeps λb o e=>(e0.bs b o e).1;have lim:s.heap.NoLimit:=e0.mod.nolimit.keeps λb o e=>(e0.bs b o e).1;have hkind:∀y∈ps.zip us,scope.names.lookup y.1=aa .local∨(scope.names.lookup y.1=aa .cell∧((jd (s.heap.objs.size+1) scope.names []).lookup y.1).isSome=true):=λ⟨n,v⟩ hy=>by
  obtain q |q:=S.par n (fX hy).1
  ·exact .inl q
  ·exact .inr ⟨q,j9 _ _ _ (.inl q)⟩
 refine codeAny_call_function hr.depth (KX _ _ lk) rfl S.co S.gen rfl (PySem.W.codeRec_of KX hcd) (hb _ _ _ _ ?_);refine wpAny_newFunctionEnv_cells S.kind hkind λenv he s1 x=>?_;subst he;refine⟨lim.keeps x.toInCall.keep,codeAny_func ?_⟩;obtain⟨t,ht,hq⟩:=hbody A outer s H vs Q E (hr.deeper _) hsp;have I:mW (vw CX P w K mg base N qual scope f cdv A outer s H E) [] (start N vs) H s1:=Zf S hr.hd e0 hl r x;refine cE (ht [] s1 (start N vs) H _ I hq) (λfl s' hs=>?_) λe s' hs=>hs;have fin:∀{σ':St}{H':Hp}{v:V}{u:aj},mW (vw CX P w K mg base N qual scope f cdv A outer s H E) [] σ' H' s'→nA v u→Q v H'→CE outer P w H s Q u s':=
  λ{σ' H' v u} J rv q=>⟨v,H',J.os,J.bare,J.base,J.cq,rv,q⟩
 cases fl with
 |ret u=>
  obtain⟨v,σ',H',J,rv,q⟩:=hs;exact fin J rv q
 |next=>
  obtain⟨σ',H',J,q⟩:=hs;exact fin (v:=V.b_) (u:=cR) J rfl q
 |brk=>
  obtain⟨_,_,_,q⟩:=hs;exact cG q
 |cont=>
  obtain⟨_,_,_,q⟩:=hs;exact cG q
section
variable {X:Cx}{x:ah}{p pos:bv}{e:Expr}{es:List Expr}{t:TA}{id T:String}{r:List V→Hp→VK→Prop}
def Pa (r:List V→Hp→VK→Prop) (t:TA):TE:=λσ H Q=>t σ H λvs H1=>r vs H1 Q
def Fi (hc:og X (.builtin id) r) (hg:Gl X x) (hm:X.mg x=none) (hv:cI x=aa (.builtin id)) (ha:PA X (e::es) t) (hn:x≠ "__name__") (hdb:(x == ("__debug__" :ah))=false)
  (he:ax (e::es) X.env=(false,aH e X.env)::ax es X.env) (hpl:(aZ pos (ax es X.env)).any (·.1)=false):PE X (.Call (.Name x p) (e::es) [] pos) (Pa r t):=by
 intro ag s σ H Q I h;refine iz (xD I hg hm hv ?_ hn hdb);exact PyProof.Rows.callWith_builtin1 (nZ (ha pos ag s σ H _ I h) λus s1 zz=>oQ zz λvs H1 I1 r1 q1=>hc ag s1 σ H1 vs us Q I1 r1 q1) he hpl
def DP (hc:og X (.type T) r) (hg:Gl X x) (hm:X.mg x=none) (hv:cI x=aa (.type T)) (ha:PA X (e::es) t) (hn:x≠ "__name__") (hdb:(x == ("__debug__" :ah))=false)
  (he:ax (e::es) X.env=(false,aH e X.env)::ax es X.env) (hpl:(aZ pos (ax es X.env)).any (·.1)=false):PE X (.Call (.Name x p) (e::es) [] pos) (Pa r t):=by
 intro ag s σ H Q I h;refine iz (xD I hg hm hv ?_ hn hdb);exact gF (nZ (ha pos ag s σ H _ I h) λus s1 zz=>oQ zz λvs H1 I1 r1 q1=>hc ag s1 σ H1 vs us Q I1 r1 q1) he hpl
end
end L2
namespace HT
open PySem PyProof.Rows
section
variable {prog:bb}{w:aQ}{A:bx}{E:aj→aq→Prop}{s:aq}
def cat_tup{Q:aj→aq→Prop}(ht:eO s.heap t vs.toArray) (hb:eO s.heap b ws.toArray) (hv:vs≠ [])
  (h1:ws=[]→Q (.ref t) s) (h2:ws≠ []→Q (.ref s.heap.objs.size) { s with heap:=s.heap.push { cls:= .type "tuple",data:= .seq (vs++ws).toArray } })
  (hsz:vs.length+ws.length≤sizeLine):av (aC prog w) A (ce .Add (.ref t) (.ref b)) Q E s:=by
 obtain⟨⟨cls,dd,data,sl⟩,ho,hc,n,hd⟩:=id ht;obtain⟨⟨cls2,dd2,data2,sl2⟩,ho2,hc2,n2,hd2⟩:=id hb;simp only at hc hd hc2 hd2;subst hc hd hc2 hd2;have e:vs.toArray++ws.toArray=(vs++ws).toArray:=by simp
 by_cases hw:ws=[]
 ·exact iW ⟨_,ho,rfl⟩ ⟨_,ho2,rfl⟩ j5 iS i_ iH (jg _ _)
   (tuple_addW1 t b vs.toArray ws.toArray n n2 dd dd2 sl sl2 (by simpa using hv) (by simp [hw])) ⟨ho,ho2,h1 hw⟩
 ·refine iW ⟨_,ho,rfl⟩ ⟨_,ho2,rfl⟩ j5 iS i_ iH (jg _ _)
   (tuple_addW2 t b vs.toArray ws.toArray n n2 dd dd2 sl sl2 (by simpa using hv) (by simpa using hw) (by rw[bj,bj];exact hsz)) ⟨ho,ho2,?_⟩
  rw[e];exact h2 hw
def sIx (n d:Nat):Option Int→Nat
 |none=>d
 |some v=>if v<0 then(v+(n:Int)).toNat else min v.toNat n
theorem sIx_none (n d:Nat):sIx n d none=d:=rfl
def sIx_nat (n d k:Nat):sIx n d (aa (k:Int))=min k n:=by
 show(if(k:Int)<0 then((k:Int)+(n:Int)).toNat else min (k:Int).toNat n)=min k n;rw[if_neg `l,bn]
def sIx_le (n d:Nat) (hd:d≤n) (o:Option Int):sIx n d o≤n:=by
 cases o with
 |none=>exact hd
 |some v=>
  show(if v<0 then(v+(n:Int)).toNat else min v.toNat n)≤n;by_cases hv:v<0
  ·rw[if_pos hv];lia
  ·rw[if_neg hv];exact Nat.min_le_right _ _
def Lf (v:Int) (n d:Nat):(if v<0 then max (v+(n:Int)) 0 else min v (n:Int))=((sIx n d (aa v):Nat):Int):=by
 show(if v<0 then max (v+(n:Int)) 0 else min v (n:Int))=(((if v<0 then(v+(n:Int)).toNat else min v.toNat n):Nat):Int);by_cases hv:v<0
 ·simp only[if_pos hv];lia
 ·simp only[if_neg hv];lia
def zpU (lo hi:Option Int) (n:Nat):jq lo hi 1 (n:Int)=(((sIx n 0 lo:Nat):Int),((sIx n n hi:Nat):Int)):=by
 have h1:¬((1:Int)<0):=by lia
 unfold jq;simp only[h1,if_false];refine Prod.ext ?_ ?_
 ·cases lo with
  |none=>rfl
  |some v=>exact Lf v n 0
 ·cases hi with
  |none=>rfl
  |some v=>exact Lf v n n
def UP (i j:Nat):gU (i:Int) (j:Int) 1=j - i:=by
 unfold gU;have h1:(1:Int) > 0:=by lia
 simp only[h1,if_true,Int.ediv_one];split<;>lia
def LU{Q:Option Int→aq→Prop}(p:da v o) (h:Q o s):av (aC prog w) A (cr.Slice.slicePartIndex v) Q E s:=by
 cases p with
 |none=>exact kg h
 |int i t=>exact slicePart_int h
def sliceApplied_gen{lo hi:Option Int}{Q:Int×Int×Nat→aq→Prop}(hs:s.heap.IsSliceOf sl vl vu .none) (pl:da vl lo) (pu:da vu hi)
  (h:Q (((sIx n 0 lo:Nat):Int),1,sIx n n hi - sIx n 0 lo) s):av (aC prog w) A (lz (.ref sl) (pure (n:Int))) Q E s:=by
 obtain⟨os,hos,hcs,hds⟩:=id hs;unfold lz cr.Slice.sliceFields;refine au (au (bU hos hds (x:=vl) rfl (au (bU hos hds (x:=vu) rfl (au (bU hos hds (x:= .none) rfl (aK ?_)))))));refine au (kg ?_);show av _ _ (if((1:Int) == 0)=true then _ else _) _ _ s;rw[if_neg `d];refine au (LU pl (au (LU pu (au (aK ?_)))));show av _ _ (match jq lo hi 1 (n:Int) with | (lo,hi)=>pure (lo,(1:Int),gU lo hi 1)) _ _ s;rw[zpU lo hi n];show av _ _ (pure (((sIx n 0 lo:Nat):Int),(1:Int),gU ((sIx n 0 lo:Nat):Int) ((sIx n n hi:Nat):Int) 1)) _ _ s;rw[UP];exact aK h
def P6 (xs:Array aj) (i k:Nat):((bD k).filterMap λ(m:Nat)=>xs[((i:Int)+(m:Int)*1).toNat]?).toArray=((xs.toList.drop i).take k).toArray:=by
 have e:(λ(m:Nat)=>xs[((i:Int)+(m:Int)*1).toNat]?)=λm=>xs[i+m]? :=by
  funext m;have:((i:Int)+(m:Int)*1).toNat=i+m:=by lia
  rw[this]
 rw[e];have:=iD xs i k;rw[List.filterMap_map]at this;have e2:((λx=>xs[x]?)∘λx=>i+x)=λm=>xs[i+m]? :=rfl;rw[e2]at this;rw[this]
def getItem_tuple_cut{lo hi:Option Int}{Q:aj→aq→Prop}(ht:eO s.heap t items) (hs:s.heap.IsSliceOf sl vl vu .none) (pl:da vl lo) (pu:da vu hi)
  (hw:¬(sIx items.size 0 lo=0∧sIx items.size items.size hi=items.size))
  (h:Q (.ref s.heap.objs.size) { s with heap:=s.heap.push { cls:= .type "tuple",data:= .seq ((items.toList.drop (sIx items.size 0 lo)).take (sIx items.size items.size hi - sIx items.size 0 lo)).toArray } })
  (hsz:items.size≤sizeLine):av (aC prog w) A (d7 (.ref t) (.ref sl)) Q E s:=by
 have htake:sizeOk (.seq ((items.toList.drop (sIx items.size 0 lo)).take (sIx items.size items.size hi - sIx items.size 0 lo)).toArray):=by
  show((items.toList.drop (sIx items.size 0 lo)).take (sIx items.size items.size hi - sIx items.size 0 lo)).toArray.size≤sizeLine;rw[bj,dC,de,jT];lia
 have hj:sIx items.size items.size hi≤items.size:=sIx_le _ _ (aA _) hi;obtain⟨os,hos,hcs,hds⟩:=id hs;have hTs:s.TypeIs (.ref sl) "slice" :=⟨os,hos,hcs⟩;unfold d7
 try with_reducible refine gC ?_
 first |refine au (aK ?_) |skip
 refine au (lP ht.typeIs `d ?_);refine au (dH (name:=bK "__getitem__") ht.typeIs eQ
  (dL eQ ht.typeIs kX ?_ (ml _ _)))
 show av _ _ (lB (.ref t) >>= _) _ _ s;refine au (tupleItemsOf_ ht ?_);refine au (fV hTs ?_);rw[if_pos `d];refine au (sliceApplied_gen hs pl pu ?_);have hno:¬((((sIx items.size 0 lo:Nat):Int) == 0&&(1:Int) == 1&&(sIx items.size items.size hi - sIx items.size 0 lo) == items.size)=true):=by
  intro q;rw[bN,bN]at q;have q1:((sIx items.size 0 lo:Nat):Int)=0:=gn q.1.1;have q2:sIx items.size items.size hi - sIx items.size 0 lo=items.size:=gn q.2;exact hw ⟨`l,`l⟩
 show av _ _ (if(((sIx items.size 0 lo:Nat):Int) == 0&&(1:Int) == 1&&(sIx items.size items.size hi - sIx items.size 0 lo) == items.size)=true then _ else _) _ _ s;rw[if_neg hno,P6]
 first
  |exact au (m:=gm _) (eT (aK ⟨_,rfl,aK h⟩) htake)
  |exact au (m:=gm _) (eT (au (aK (aK ⟨_,rfl,aK h⟩))) htake)
  |exact au (au (m:=gm _) (eT (aK (aK ⟨_,rfl,aK h⟩)) htake))
  |exact au (au (m:=gm _) (eT (aK ⟨_,rfl,aK h⟩) htake))
end
end HT
namespace L2
open PySem PySem.Spec PyProof.Rows
abbrev TO:=St→Hp→(Option Int→Hp→Prop)→Prop
def PO (X:Cx) (e:Option Expr) (t:TO):Prop:=
 ∀(ag:List (ai×aJ)) (s:aq) (σ:St) (H:Hp) (Q:Option Int→Hp→Prop),mW X ag σ H s→t σ H Q→
  av (aC X.prog X.w) X.A (evalPart e X.env) (λu s'=>∃o H',mW X ag σ H' s'∧da u o∧Q o H') X.xe s
def zzR:TO:=λ_ H Q=>Q none H
def W0 (t:TE):TO:=λσ H Q=>t σ H λx H1=>∃i,x= .int i∧Q (aa i) H1
section
variable {X:Cx}{e:Expr}{te:TE}{lo hi:Option Expr}{tl th:TO}{pos p2:bv}
def uK:PO X none zzR:=by
 intro ag s σ H Q I h;rw[evalPart_none];exact aK ⟨none,H,I, .none,h⟩
def SG (h:PE X e te):PO X (aa e) (W0 te):=by
 intro ag s σ H Q I hw;rw[evalPart_some];refine nZ (h ag s σ H _ I hw) λu s1 zz=>oQ zz λx H1 I1 r1 q1=>?_;obtain⟨i,rfl,q⟩:=q1;obtain⟨t,rfl⟩:=r1;exact⟨aa i,H1,I1, .int i t,q⟩
def uF (X:Cx) (r:V→Option Int→Option Int→Hp→VK→Prop):Prop:=
 ∀(ag:List (ai×aJ)) (s:aq) (σ:St) (H:Hp) (x:V) (v vl vu:aj) (lo hi:Option Int) (sl:ai) (Q:VK),mW X ag σ H s→nA x v→s.heap.IsSliceOf sl vl vu .none→da vl lo→da vu hi→r x lo hi H Q→
  ∃T id,jm (.type T) "__getitem__" =pure (aa (.builtin id))∧s.TypeIs v T∧av (aC X.prog X.w) X.A (d7 v (.ref sl)) (EP X ag σ Q) X.xe s
def uF.or{r r':V→Option Int→Option Int→Hp→VK→Prop}(h:uF X r) (h':uF X r'):uF X (λx lo hi H Q=>r x lo hi H Q∨r' x lo hi H Q):=by
 intro ag s σ H x v vl vu lo hi sl Q I rx hs pl pu q;obtain q |q:=q
 ·exact h ag s σ H x v vl vu lo hi sl Q I rx hs pl pu q
 ·exact h' ag s σ H x v vl vu lo hi sl Q I rx hs pl pu q
def Rj (r:V→Option Int→Option Int→Hp→VK→Prop) (te:TE) (tl th:TO):TE:=λσ H Q=>te σ H λx H1=>tl σ H1 λl H2=>th σ H2 λu H3=>r x l u H3 Q
def Jd{r:V→Option Int→Option Int→Hp→VK→Prop}(hr:uF X r) (he:PE X e te) (hl:PO X lo tl) (hu:PO X hi th):PE X (.Subscript e (.Slice lo hi none p2) pos) (Rj r te tl th):=by
 intro ag s σ H Q I h;refine Subscript_ (nZ (he ag s σ H _ I h) λv s1 zz=>oQ zz λx H1 I1 r1 q1=>?_);refine wpAny_Slice (nZ (hl ag s1 σ H1 _ I1 q1) λvl s2 zz=>oQ zz λl H2 I2 pl q2=>nZ (hu ag s2 σ H2 _ I2 q2) λvu s3 zz=>oQ zz λu H3 I3 pu q3=>?_);rw[evalPart_none];refine aK ?_;have I4:mW X ag σ H3 { s3 with heap:=s3.heap.push { cls:= .type "slice",data:= .fields #[vl,vu, .none] } }:=I3.kept (t':=s3.toks) λb ob q=>aS _ q;obtain⟨T,id,hT,ht,hg⟩:=hr ag { s3 with heap:=s3.heap.push { cls:= .type "slice",data:= .fields #[vl,vu, .none] } } σ H3 x v vl vu l u s3.heap.objs.size Q I4 r1 (aF.IsSliceOf.new ..) pl pu q3;show av (aC X.prog X.w) X.A (subscriptTail e (.Slice lo hi none p2) v (.ref s3.heap.objs.size)) (EP X ag σ Q) X.xe { s3 with heap:=s3.heap.push { cls:= .type "slice",data:= .fields #[vl,vu, .none] } };exact tail_any (ops:=[.ref s3.heap.objs.size,v]) ht hT hg (by with_unfolding_all rfl)
noncomputable def tL (xs:List V) (lo hi:Option Int):List V:=(xs.drop (HT.sIx xs.length 0 lo)).take (HT.sIx xs.length xs.length hi - HT.sIx xs.length 0 lo)
def Lw (xs:List V) (lo hi:Option Int):(tL xs lo hi).length≤xs.length:=by
 unfold tL;rw[dC,de];lia
def RK (K:am):V→Option Int→Option Int→Hp→VK→Prop:=λx lo hi H Q=>∃a xs,x= .ref a∧pQ K H a xs∧
 ¬(HT.sIx xs.length 0 lo=0∧HT.sIx xs.length xs.length hi=xs.length)∧ ∀p,H p=none→Q (.ref p) (oa H p (.bT (tL xs lo hi)))
def XD:uF X (RK X.K):=by
 intro ag s σ H x v vl vu lo hi sl Q I rx hs pl pu h;obtain⟨a,xs,rfl,hx,hw,q⟩:=h;cases rx;obtain⟨dR,r,ht,hz⟩:=I.tuple hx;have hlen:dR.toArray.size=xs.length:=by rw[bj];exact r.length.symm
 refine⟨"tuple",_,eQ.lookup,ht.typeIs,?_⟩;refine HT.getItem_tuple_cut ht hs pl pu (by rw[hlen];exact hw) ?_ (by rw[hlen];exact hz);rw[hlen];refine⟨.ref s.heap.objs.size,_,I.laid (t':=s.toks) (o:= .bT (tL xs lo hi)) (λb ob q=>aS _ q) (aA _) ?_,rfl,q _ (I.cq.fresh (aA _))⟩;exact⟨aX (Lw xs lo hi) hz,_,(r.drop (HT.sIx xs.length 0 lo)).take (HT.sIx xs.length xs.length hi - HT.sIx xs.length 0 lo),jL _ _⟩
def FX (K:am):R2:=λx y H Q=>∃a b xs ys,x= .ref a∧y= .ref b∧pQ K H a xs∧pQ K H b ys∧xs≠ []∧xs.length+ys.length≤sizeLine∧
 (ys=[]→Q (.ref a) H)∧(ys≠ []→ ∀p,H p=none→Q (.ref p) (oa H p (.bT (xs++ys))))
def ni.nil_iff (r:ni xs us):us=[]↔xs=[]:=by
 cases r with
 |nil=>simp
 |cons _ _=>simp
def uM:oI X (ce .Add) (FX X.K):=by
 intro ag s σ H x y v u Q I rx ry h;obtain⟨a,b,xs,ys,rfl,rfl,ha,hb,hx,hz,q1,q2⟩:=h;cases rx;cases ry;obtain⟨dR,r1,p1,_⟩:=I.tuple ha;obtain⟨its2,r2,p2,_⟩:=I.tuple hb;refine HT.cat_tup p1 p2 (λz=>hx (r1.nil_iff.mp z)) (λz=>⟨.ref a,H,I,rfl,q1 (r2.nil_iff.mp z)⟩) (λz=>?_) (by rw[←r1.length,←r2.length];exact hz);refine⟨.ref s.heap.objs.size,_,I.laid (t':=s.toks) (o:= .bT (xs++ys)) (λb ob q=>aS _ q) (aA _) ?_,rfl,q2 (λw=>z (r2.nil_iff.mpr w)) _ (I.cq.fresh (aA _))⟩;exact⟨by rw[aW];exact hz,_,r1.append r2,jL _ _⟩
end
def um (n:Nat) (i:Int):Option Nat:=if 0≤i then(if i<n then aa i.toNat else none) else if -(n:Int)≤i then aa (i+n).toNat else none
noncomputable def nW {α:Type}(xs:List α) (i:Int):Option α:=(um xs.length i).bind λj=>xs[j]?
def SQ (h:um n i=aa j):seqIndex? i n=aa j∧j<n∧ -(n:Int)≤i∧i<n:=by
 unfold um at h;by_cases h0:0≤i
 ·rw[if_pos h0]at h;by_cases h1:i<n
  ·rw[if_pos h1]at h;have e:i.toNat=j:=aO h;exact⟨by rw[seqIndex_of h0 h1,e],`l,`l,h1⟩
  ·rw[if_neg h1]at h;cases h
 ·rw[if_neg h0]at h;by_cases h1: -(n:Int)≤i
  ·rw[if_pos h1]at h;have e:(i+n).toNat=j:=aO h;exact⟨by rw[seqIndex_neg `l h1,e],`l,h1,`l⟩
  ·rw[if_neg h1]at h;cases h
def GV{α:Type}{xs:List α}{i:Int}{v:α}(h:nW xs i=aa v):∃j,seqIndex? i xs.length=aa j∧xs[j]? =aa v∧j<xs.length∧ -(xs.length:Int)≤i∧i<xs.length:=by
 unfold nW at h;cases e:um xs.length i with
 |none=>rw[e]at h;cases h
 |some j=>
  rw[e]at h;obtain⟨h1,h2,h3,h4⟩:=SQ e;exact⟨j,h1,h,h2,h3,h4⟩
def LO{α:Type}{xs:List α}{j:Nat}{v:α}(h:xs[j]? =aa v):nW xs (j:Int)=aa v:=by
 have hj:j<xs.length:=(cj.mp h).1;have e:um xs.length (j:Int)=aa j:=by
  unfold um;rw[if_pos `l,if_pos `l];simp
 unfold nW;rw[e];exact h
def Cv (b:Expr):Prop:=∀o i,subscripted b false o i=operate [o,i] (d7 o i)
def uH (X:Cx) (r:R2):Prop:=
 ∀(value slice:Expr) (ag:List (ai×aJ)) (s:aq) (σ:St) (H:Hp) (x y:V) (v u:aj) (Q:VK),mW X ag σ H s→nA x v→nA y u→r x y H Q→
  subscripted slice false v u=operate [v,u] (d7 v u)→av (aC X.prog X.w) X.A (subscriptTail value slice v u) (EP X ag σ Q) X.xe s
def td (X:Cx) (id:String) (r:V→List V→Hp→VK→Prop):Prop:=
 ∀(ag:List (ai×aJ)) (s:aq) (σ:St) (H:Hp) (x:V) (xs:List V) (v:aj) (us:List aj) (Q:VK),mW X ag σ H s→nA x v→ni xs us→r x xs H Q→
  av (aC X.prog X.w) X.A (call (.builtin id) (v::us)) (EP X ag σ Q) X.xe s
section
variable {X:Cx}{a b:Expr}{ta tb:TE}{pos:bv}
def uH.or{r r':R2}(h:uH X r) (h':uH X r'):uH X (λx y H Q=>r x y H Q∨r' x y H Q):=by
 intro value slice ag s σ H x y v u Q I rx ry q hs;obtain q |q:=q
 ·exact h value slice ag s σ H x y v u Q I rx ry q hs
 ·exact h' value slice ag s σ H x y v u Q I rx ry q hs
def td.or{id:String}{r r':V→List V→Hp→VK→Prop}(h:td X id r) (h':td X id r'):td X id (λx xs H Q=>r x xs H Q∨r' x xs H Q):=by
 intro ag s σ H x xs v us Q I rx rs q;obtain q |q:=q
 ·exact h ag s σ H x xs v us Q I rx rs q
 ·exact h' ag s σ H x xs v us Q I rx rs q
def Jp (hr:uH X r) (ha:PE X a ta) (hb:PE X b tb) (hs:Cv b):PE X (.Subscript a b pos) (Bl r ta tb):=by
 intro ag s σ H Q I h;exact Subscript_ (FY ha hb I h λv u s2 x y H2 I2 rx ry q=>hr a b ag s2 σ H2 x y v u Q I2 rx ry q (hs _ _))
def Ip (K:am):R2:=λx y H Q=>∃p xs i v,x= .ref p∧y= .int i∧o9 K H p xs∧nW xs i=aa v∧Q v H
def IS (K:am):R2:=λx y H Q=>∃p xs i v,x= .ref p∧y= .int i∧pQ K H p xs∧nW xs i=aa v∧Q v H
def Ky:R2:=λx y H Q=>∃z i c,x= .str z∧y= .int i∧z.length≤sizeLine∧nW z.cps.toList i=aa c∧Q (.str ⟨#[c]⟩) H
def vi:uH X (Ip X.K):=by
 intro value slice ag s σ H x y v u Q I rx ry h hs;obtain⟨p,xs,i,z,rfl,rfl,hq,he,q⟩:=h;cases rx;obtain⟨t,rfl⟩:=ry;obtain⟨dR,r,pl,hz⟩:=I.list hq;obtain⟨j,h1,h2,h3,h4,h5⟩:=GV he;obtain⟨w,ew,rw'⟩:=r.get h2;have hl:=r.length;have hn:=xH;have fin:EP X ag σ Q w s:=⟨z,H,I,rw',q⟩;by_cases h0:0≤i
 ·have hj:i.toNat=j:=by
   rw[seqIndex_of h0 h5]at h1;exact aO h1
  exact item_listR pl.isList h0 `l (by rw[hj];simpa using ew) fin hs
 ·have hj:(i+(dR.toArray.size:Int)).toNat=j:=by
   rw[seqIndex_neg `l h4]at h1;rw[bj,←hl];exact aO h1
  exact kf (x:=w) pl.isList.typeIs kL.lookup
   (wpAny_getItem_list_neg (Q:=λr s'=>r=w∧EP X ag σ Q r s') pl.isList `l (by rw[bj]<;>lia) `l (by rw[hj];simpa using ew) ⟨rfl,fin⟩) hs
def wK:uH X (IS X.K):=by
 intro value slice ag s σ H x y v u Q I rx ry h hs;obtain⟨p,xs,i,z,rfl,rfl,hq,he,q⟩:=h;cases rx;obtain⟨t,rfl⟩:=ry;obtain⟨dR,r,pl,hz⟩:=I.tuple hq;obtain⟨j,h1,h2,h3,h4,h5⟩:=GV he;obtain⟨w,ew,rw'⟩:=r.get h2;have hl:=r.length;have hn:=xH;have fin:EP X ag σ Q w s:=⟨z,H,I,rw',q⟩;exact kf (x:=w) pl.typeIs slot_tuple_getitem.lookup
  (getItem_tuple (j:=j) (Q:=λr s'=>r=w∧EP X ag σ Q r s') pl `l `l (by rw[bj,←hl];exact h1) (by simpa using ew) ⟨rfl,fin⟩) hs
def Q7:uH X Ky:=by
 intro value slice ag s σ H x y v u Q I rx ry h hs;obtain⟨z,i,c,rfl,rfl,hz,he,q⟩:=h;obtain⟨t,rfl⟩:=rx;obtain⟨t',rfl⟩:=ry;obtain⟨j,h1,h2,h3,h4,h5⟩:=GV he;have hl:z.cps.toList.length=z.length:=by simp [iV]
 rw[hl]at h1 h4 h5;have hn:=xH;exact tail_any (jj s z t) slot_str_getitem.lookup (getItem_str (c:=c) (by
  have e1:decide (i< -(2 ^ 63:Int))=false:=decide_eq_false `l;have e2:decide (i≥2 ^ 63)=false:=decide_eq_false `l;rw[e1,e2,lq]) (by rw[h1];simpa using h2) ⟨.str ⟨#[c]⟩,H,I.tok _,⟨_,rfl⟩,q⟩) hs
def Mp (K:am):R2:=λx y H Q=>Ip K x y H Q∨IS K x y H Q∨Ky x y H Q
def Jy:uH X (Mp X.K):=vi.or (wK.or Q7)
def VI (lo hi:Option Int) (n:Nat):(eE lo hi none n).1=((HT.sIx n 0 lo:Nat):Int)∧(eE lo hi none n).2.1=((HT.sIx n n hi:Nat):Int)∧(eE lo hi none n).2.2=1:=by
 refine⟨?_,?_,rfl⟩
 ·cases lo with
  |none=>simp [eE,HT.sIx]
  |some i=>
   simp only[eE,HT.sIx,ku,show(1:Int) > 0 by decide,if_true]
   by_cases h:i<0
   ·simp only[h,if_true]<;>lia
   ·simp only[h,if_false]<;>lia
 ·cases hi with
  |none=>simp [eE,HT.sIx]
  |some i=>
   simp only[eE,HT.sIx,ku,show(1:Int) > 0 by decide,if_true]
   by_cases h:i<0
   ·simp only[h,if_true]<;>lia
   ·simp only[h,if_false]<;>lia
def SO (dR:List aj) (lo hi:Option Int):slicePick dR.toArray lo hi none=((dR.drop (HT.sIx dR.length 0 lo)).take (HT.sIx dR.length dR.length hi - HT.sIx dR.length 0 lo)).toArray:=by
 obtain⟨h1,h2,h3⟩:=VI lo hi dR.toArray.size;unfold slicePick;rw[h1,h2,h3];simp only[jK,iD,bj]<;>rfl
def Zt (K:am):V→Option Int→Option Int→Hp→VK→Prop:=λx lo hi H Q=>∃a xs,x= .ref a∧o9 K H a xs∧ ∀p,H p=none→Q (.ref p) (oa H p (.bJ (tL xs lo hi)))
def OK:uF X (Zt X.K):=by
 intro ag s σ H x v vl vu lo hi sl Q I rx hs pl pu h;obtain⟨a,xs,rfl,hx,q⟩:=h;cases rx;obtain⟨dR,r,ht,hz⟩:=I.list hx;have hlen:=r.length;refine⟨"list",_,kL.lookup,ht.isList.typeIs,?_⟩;refine wpAny_getItem_list_slice ht.isList hs pl pu .none `s ?_ (by rw[bj]<;>lia);rw[SO,←hlen];refine⟨.ref s.heap.objs.size,_,I.laid (t':=s.toks) (o:= .bJ (tL xs lo hi)) (λb ob q=>aS _ q) (aA _) ?_,rfl,q _ (I.cq.fresh (aA _))⟩;exact⟨aX (Lw xs lo hi) hz,_,0,(r.drop (HT.sIx xs.length 0 lo)).take (HT.sIx xs.length xs.length hi - HT.sIx xs.length 0 lo),bO _ rfl⟩
def q_:og X (.builtin "len") (λxs H Q=>∃p ys,xs=[.ref p]∧(o9 X.K H p ys∨pQ X.K H p ys)∧Q (.int ys.length) H):=by
 intro ag s σ H xs us Q I r h;obtain⟨p,ys,rfl,hq,q⟩:=h;obtain⟨u,rfl,rx⟩:=uz r;cases rx;have hn:=xH;obtain hq |hq:=hq
 ·obtain⟨dR,r',pl,hz⟩:=I.list hq;have hlen:=r'.length;exact Calls.call_len_list pl.isList (by simp only[bj]<;>lia) ⟨.int ys.length,H,I.tok _,⟨s.toks+1,by rw[bj,hlen]⟩,q⟩
 ·obtain⟨dR,r',pl,hz⟩:=I.tuple hq;have hlen:=r'.length;exact len_tuple pl (by simp only[bj]<;>lia) ⟨.int ys.length,H,I.tok _,⟨s.toks+1,by rw[bj,hlen]⟩,q⟩
def RI:og X (.builtin "len") (λxs H Q=>∃z,xs=[.str z]∧z.length≤sizeLine∧Q (.int z.length) H):=by
 intro ag s σ H xs us Q I r h;obtain⟨z,rfl,hz,q⟩:=h;obtain⟨u,rfl,t,rfl⟩:=uz r;have hn:=xH;exact len_str `l ⟨.int z.length,H,I.tok _,⟨_,rfl⟩,q⟩
def og.or{f:aj}{r r':List V→Hp→VK→Prop}(h:og X f r) (h':og X f r'):og X f (λxs H Q=>r xs H Q∨r' xs H Q):=by
 intro ag s σ H xs us Q I rs q;obtain q |q:=q
 ·exact h ag s σ H xs us Q I rs q
 ·exact h' ag s σ H xs us Q I rs q
def XS:og X (.type "list") (λxs H Q=>∃p ys,xs=[.ref p]∧(o9 X.K H p ys∨pQ X.K H p ys)∧ ∀l,H l=none→Q (.ref l) (oa H l (.bJ ys))):=by
 intro ag s σ H xs us Q I r h;obtain⟨p,ys,rfl,hq,q⟩:=h;obtain⟨u,rfl,rx⟩:=uz r;cases rx;have fin:∀(dR:List aj),ni ys dR→ys.length≤sizeLine→ ∀(h':aF) (c':Nat),(∀b o',s.heap.get? b=aa o'→h'.get? b=aa o')→
   h'.get? s.heap.objs.size=aa { cls:= .type "list",dict:=none,data:= .seq dR.toArray c',slots:= #[] }→EP X ag σ Q (.ref s.heap.objs.size) { s with heap:=h' }:=λdR r' hz h' c' kp e=>
  ⟨.ref s.heap.objs.size,_,I.laid (t':=s.toks) kp (aA _) (show nM X.prog X.w _ h' _ (.bJ ys) from⟨hz,dR,c',r',e⟩),rfl,q _ (I.cq.fresh (aA _))⟩
 obtain hq |hq:=hq
 ·obtain⟨dR,r',pl,hz⟩:=I.list hq;have hlen:=r'.length;obtain⟨o,ho,hc,n,hd⟩:=pl.isList;exact call_list_seq p (.inl rfl) ho hc hd (λh' c' kp e=>fin dR r' hz h' c' kp e) (by simp only[bj]<;>lia)
 ·obtain⟨dR,r',pl,hz⟩:=I.tuple hq;have hlen:=r'.length;obtain⟨o,ho,hc,n,hd⟩:=pl;exact call_list_seq p (.inr rfl) ho hc hd (λh' c' kp e=>fin dR r' hz h' c' kp e) (by simp only[bj]<;>lia)
def HM:og X (.type "tuple") (λxs H Q=>∃p ys,xs=[.ref p]∧((o9 X.K H p ys∧ ∀l,H l=none→Q (.ref l) (oa H l (.bT ys)))∨(pQ X.K H p ys∧Q (.ref p) H))):=by
 intro ag s σ H xs us Q I r h;obtain⟨p,ys,rfl,h⟩:=h;obtain⟨u,rfl,rx⟩:=uz r;cases rx;obtain ⟨hq,q⟩ |⟨hq,q⟩:=h
 ·obtain⟨dR,r',pl,hz⟩:=I.list hq;have hlen:=r'.length;refine call_tuple_list pl.isList (λh' kp=>?_) (by simp only[bj]<;>lia);have I1:mW X ag σ H { s with heap:=h' }:=I.kept (t':=s.toks) kp;have I2:mW X ag σ (oa H h'.objs.size (.bT ys)) { s with heap:=h'.push { cls:= .type "tuple",data:= .seq dR.toArray } }:=
   I1.laid (t':=s.toks) (λb o e=>aS _ e) (aA _) (show nM X.prog X.w _ _ _ (.bT ys) from⟨hz,dR,r',jL _ _⟩)
  exact⟨.ref h'.objs.size,_,I2,rfl,q _ (I1.cq.fresh (aA _))⟩
 ·obtain⟨dR,r',pl,hz⟩:=I.tuple hq;exact call_tuple_same pl ⟨.ref p,H,I,rfl,q⟩
def Cw (K:am) (T:String) (x:V) (H:Hp):Prop:=match x with
 | .str _=>T= "str"
 | .int _=>T= "int"
 | .ref p=>(T= "list" ∧ ∃xs,o9 K H p xs)∨(T= "tuple" ∧ ∃o,K.lookup p=aa o∧o.cls= .type "tuple" ∧o.dict=none)∨
   (T= "dict" ∧((∃d6,H p=aa (.dK d6))∨ ∃d6,H p=aa (.dT d6)))∨(T= "set" ∧ ∃S n,H p=aa (.set S n))
 |_=>False
def HV (I:mW X ag σ H s) (r:nA x v) (ty:Cw X.K T x H) :
  s.TypeIs v T∧ ∀a,v= .ref a→ ∃ob,s.heap.get? a=aa ob∧ob.dict=none:=by
 cases x with
 |str z=>
  obtain⟨t,rfl⟩:=r;cases(show T= "str" from ty);exact⟨jj s z t,λ_ e=>nomatch e⟩
 |int i=>
  obtain⟨t,rfl⟩:=r;cases(show T= "int" from ty);exact⟨jY s i t,λ_ e=>nomatch e⟩
 |ref p=>
  cases r;obtain ⟨rfl,xs,hq⟩ |⟨rfl,o,hk,hc,hd⟩ |⟨rfl,hk⟩ |⟨rfl,S,n,hk⟩:=ty
  ·obtain⟨dR,_,pl,_⟩:=I.list hq;refine⟨pl.isList.typeIs,λa e=>?_⟩;cases e;obtain⟨o,n,e,c,hd,_⟩:=pl;exact⟨o,e,hd⟩
  ·refine⟨⟨o,I.kIn p o hk,hc⟩,λa e=>?_⟩;cases e;exact⟨o,I.kIn _ o hk,hd⟩
  ·have z:∃o,s.heap.get? p=aa o∧o.ExactDict:=by
    obtain ⟨d6,hk⟩ |⟨d6,hk⟩:=hk
    ·obtain⟨_,_,_,_,o,_,_,e,ex,_⟩:=I.cq p _ hk;exact⟨o,e,ex⟩
    ·obtain⟨_,_,_,_,o,_,_,e,ex,_⟩:=I.cq p _ hk;exact⟨o,e,ex⟩
   obtain⟨o,e,ex⟩:=z;refine⟨⟨o,e,ex.1⟩,λa e2=>?_⟩;cases e2;exact⟨o,e,ex.2.1⟩
  ·obtain⟨o,_,_,_,e,ex,_⟩:=I.cq p _ hk;refine⟨⟨o,e,ex.1⟩,λa e2=>?_⟩;cases e2;exact⟨o,e,ex.2.1⟩
 |_=>exact cG ty
def Ul (K:am) (T:String) (r:V→List V→Hp→VK→Prop) (to:TE):TE:=λσ H Q=>to σ H λx H1=>Cw K T x H1∧r x [] H1 Q
def R6 (K:am) (T:String) (r:V→List V→Hp→VK→Prop) (to:TE) (t:TA):TE:=λσ H Q=>to σ H λx H1=>Cw K T x H1∧t σ H1 λxs H2=>r x xs H2 Q
variable {o e:Expr}{es:List Expr}{to:TE}{t:TA}{name:ah}{apos cpos:bv}{T id:String}{r:V→List V→Hp→VK→Prop}
def Xj (pa:fY T) (slot:Slot T name id) (hty:gd (.builtin id)=pure (.type "method_descriptor")) (hm:td X id r) (ho:PE X o to)
  (hbase:cB o name X.env (aH o X.env)=aH o X.env) (hline:(apos.endLine == cpos.line)=true):PE X (.Call (.Attribute o name apos) [] [] cpos) (Ul X.K T r to):=by
 intro ag s σ H Q I h;refine wpAny_Call_method0_late hbase hline (nZ (ho ag s σ H _ I h) λv s1 zz=>oQ zz λx H1 I1 r1 ⟨ty,q1⟩=>?_);obtain⟨h1,h2⟩:=HV I1 r1 ty;exact⟨T,id,pa,slot,hty,h1,h2,kA rfl (PySem.evalArgs_none (hm ag s1 σ H1 x [] v [] Q I1 r1 .nil q1))⟩
def Ph (pa:fY T) (slot:Slot T name id) (hty:gd (.builtin id)=pure (.type "method_descriptor")) (hm:td X id r) (ho:PE X o to) (ha:PA X (e::es) t)
  (hbase:cB o name X.env (aH o X.env)=aH o X.env)
  (hfew:((aZ cpos (ax (e::es) X.env)).all (λx=> !x.1)&&(dg cpos (dh [] X.env)).all (λx=>x.1.isSome)
   &&decide ((e::es).length+([]:List bY).length+(if([]:List bY).isEmpty then 0 else 1)<30))=true)
  (hline:(apos.endLine == cpos.line)=true) (hs:ax (e::es) X.env=(false,aH e X.env)::ax es X.env) (hplain:(aZ cpos (ax es X.env)).any (·.1)=false) :
  PE X (.Call (.Attribute o name apos) (e::es) [] cpos) (R6 X.K T r to t):=by
 intro ag s σ H Q I h;refine wpAny_Call_method_late hbase hfew hline rfl (nZ (ho ag s σ H _ I h) λv s1 zz=>oQ zz λx H1 I1 r1 ⟨ty,q1⟩=>?_);obtain⟨h1,h2⟩:=HV I1 r1 ty;refine⟨T,id,pa,slot,hty,h1,h2,?_⟩;have hA:=ha cpos ag s1 σ H1 _ I1 q1;rw[hs]at hA⊢;refine kA (by show(false || (aZ cpos (ax es X.env)).any (·.1))=false;rw[hplain]<;>rfl) (lM ?_)
 exact nZ hA λus s2 zz=>oQ zz λvs H2 I2 r2 q2=>hm ag s2 σ H2 x vs v us Q I2 r1 r2 q2
end
def BT (X:Cx) (id:String) (r:V→List V→Hp→VK→Prop):Prop:=
 ∀(ag:List (ai×aJ)) (s:aq) (σ:St) (H:Hp) (x:V) (xs:List V) (v:aj) (us:List aj) (Q:VK),mW X ag σ H s→nA x v→ni xs us→r x xs H Q→
  av (aC X.prog X.w) X.A (call (.builtin id) (v::us)) (EP X ag σ Q) X.xe s
def ni.one:∀{x:V}{us:List aj},ni [x] us→ ∃u,us=[u]∧nA x u:=λ{x us} h=>by
 cases h with
 |cons r t=>cases t;exact⟨_,rfl,r⟩
theorem ni.rep (h:ni xs us):∀k:Nat,ni (bp k xs).flatten (bp k us).flatten
 |0=> .nil
 |k+1=>by
  rw[cO,cO,eB,eB];exact ni.append h (ni.rep h k)
theorem N4 (dR:List aj):∀(k:Nat) (acc:List aj),
  jh (λx1 x2=>x1++x2) acc.toArray (bp k dR.toArray)=(acc++(bp k dR).flatten).toArray
 |0,acc=>by simp
 |k+1,acc=>by
  have e:acc.toArray++dR.toArray=(acc++dR).toArray:=by simp
  have e2:(acc++dR)++(bp k dR).flatten=acc++(bp (k+1) dR).flatten:=by
   rw[cO,eB,bE]
  rw[←e2,←N4 dR k (acc++dR),←e,cO,eR]
section
variable {X:Cx}{ag:List (ai×aJ)}{σ:St}{H:Hp}{s:aq}{l:ai}{xs ys:List V}
def mW.lset{dR its':List aj}{n:Nat}{f:Array aj→Array aj}{t':Nat}(I:mW X ag σ H s) (hH:H l=aa (.bJ xs))
  (e:s.heap.get? l=aa { cls:= .type "list",data:= .seq dR.toArray n }) (hf:f dR.toArray=its'.toArray) (hv:ni ys its') (hz:ys.length≤sizeLine) :
  mW X ag σ (oa H l (.bJ ys)) { s with heap:=s.heap.update l (jF f),toks:=t' }:=by
 have q:=PySem.IsL.update e f;rw[hf]at q;refine I.write (x:=l) (e:=l) (by rw[hH];exact trivial) (.inl rfl) (λb' u hb hu=>(aF.get?_update_other s.heap (jF f) (bG hb)).trans hu) ⟨_,q⟩ ?_;exact⟨hz,its',_,hv,q⟩
def mW.lnew{t':Nat}(I:mW X ag σ H s) (hv:ni ys dR) (hz:ys.length≤sizeLine) :
  mW X ag σ (oa H s.heap.objs.size (.bJ ys)) { s with heap:=s.heap.push { cls:= .type "list",data:= .seq dR.toArray },toks:=t' }:=
 I.laid (λ_ _ q=>aS _ q) (aA _) ⟨hz,dR,0,hv,bO _ rfl⟩
def mW.fresh (I:mW X ag σ H s):H s.heap.objs.size=none:=I.cq.fresh (aA _)
def mW.lstM (I:mW X ag σ H s) (hH:H l=aa (.bJ xs)):xs.length≤sizeLine∧ ∃(dR:List aj) (n:Nat),ni xs dR∧xs.length=dR.length∧s.heap.get? l=aa { cls:= .type "list",data:= .seq dR.toArray n }:=by
 obtain⟨z,dR,n,r,e⟩:=I.cq l _ hH;exact⟨z,dR,n,r,r.length,e⟩
def F9 (h:n≤sizeLine):fH n=false:=by
 unfold fH;exact decide_eq_false `l
end
section
variable {X:Cx}
def Nl:V→List V→Hp→VK→Prop:=λx vs H Q=>∃l xs y,x= .ref l∧vs=[y]∧H l=aa (.bJ xs)∧xs.length<sizeLine∧Q .b_ (oa H l (.bJ (xs++[y])))
def OI:BT X "list.append" Nl:=by
 intro ag s σ H x vs v us Q I rx rv h;obtain⟨l,xs,y,rfl,rfl,hH,hz,q⟩:=h;cases rx;obtain⟨u,rfl,ru⟩:=rv.one;obtain⟨z,dR,n,r,hl,e⟩:=I.lstM hH;refine fI F.slot_list_append ⟨_,e,rfl⟩ F.entry_list_append (F.args_list_append_2 _ _) (PySem.list_append l dR.toArray n u (by rw[bj];lia)) ⟨e,?_⟩;refine⟨.b_,_,I.lset (its':=dR++[u]) hH e `s (r.append (.cons ru .nil)) ?_,rfl,q⟩;rw[aW,bZ];lia
def Er:V→List V→Hp→VK→Prop:=λx vs H Q=>∃l b xs zs,x= .ref l∧vs=[.ref b]∧H l=aa (.bJ xs)∧H b=aa (.bJ zs)∧xs.length+zs.length≤sizeLine∧Q .b_ (oa H l (.bJ (xs++zs)))
def MV:BT X "list.extend" Er:=by
 intro ag s σ H x vs v us Q I rx rv h;obtain⟨l,b,xs,zs,rfl,rfl,hH,hB,hz,q⟩:=h;cases rx;obtain⟨u,rfl,ru⟩:=rv.one;cases ru;obtain⟨z,dR,n,r,hl,e⟩:=I.lstM hH;obtain⟨z2,its2,n2,r2,hl2,e2⟩:=I.lstM hB;have hsz:dR.toArray.size+its2.toArray.size≤sizeLine:=by rw[bj,bj];lia
 have hlong:¬(!dR.toArray.isEmpty&&fH (dR.toArray.size+its2.toArray.size))=true:=by
  rw[F9 hsz,gN];exact c_
 refine fI mr ⟨_,e,rfl⟩ lY (kF _ _)
  (AutoSeq1.list_extend_list_list_0 l dR.toArray n b its2.toArray n2 hlong (by rw[bj];lia) `l) ⟨e,e2,?_⟩
 refine⟨.b_,_,I.lset (its':=dR++its2) hH e `s (r.append r2) ?_,rfl,q⟩;rw[aW];lia
def GD:R2:=λx y H Q=>∃l b xs zs,x= .ref l∧y= .ref b∧H l=aa (.bJ xs)∧H b=aa (.bJ zs)∧xs.length+zs.length≤sizeLine∧ ∀p,H p=none→Q (.ref p) (oa H p (.bJ (xs++zs)))
def Co:oI X (ce .Add) GD:=by
 intro ag s σ H x y v u Q I rx ry h;obtain⟨l,b,xs,zs,rfl,rfl,hH,hB,hz,q⟩:=h;cases rx;cases ry;obtain⟨z,dR,n,r,hl,e⟩:=I.lstM hH;obtain⟨z2,its2,n2,r2,hl2,e2⟩:=I.lstM hB;refine PySem.P.add_list e e2 ?_ (by rw[bj,bj];lia);have ea:dR.toArray++its2.toArray=(dR++its2).toArray:=by simp
 rw[ea];exact⟨.ref _,_,I.lnew (t':=s.toks) (r.append r2) (by rw[aW];lia),rfl,q _ I.fresh⟩
def XX:R2:=λx y H Q=>∃l k xs,x= .ref l∧y= .int k∧H l=aa (.bJ xs)∧ -(2 ^ 63)≤k∧k<2 ^ 63∧xs.length*k.toNat≤sizeLine∧
 ∀p,H p=none→Q (.ref p) (oa H p (.bJ (bp k.toNat xs).flatten))
def YQ{α:Type}(xs:List α) (k:Nat):(bp k xs).flatten.length=k*xs.length:=by
 induction k with
 |zero=>simp
 |succ k ih=>rw[cO,eB,aW,ih,Nat.succ_mul,eD]
def Xe:oI X (ce .Mult) XX:=by
 intro ag s σ H x y v u Q I rx ry h;obtain⟨l,k,xs,rfl,rfl,hH,h1,h2,hz,q⟩:=h;cases rx;obtain⟨t,rfl⟩:=ry;obtain⟨z,dR,n,r,hl,e⟩:=I.lstM hH;have hlen:dR.toArray.size*k.toNat≤sizeLine:=by rw[bj,←hl];exact hz
 have hcap:¬dR.toArray.size*k.toNat > (2 ^ 63 - 1) / 8:=by
  have:(sizeLine:Nat)≤(2 ^ 63 - 1) / 8:=by decide
  lia
 have hfit:¬(!Builtin.List.listFitsIndex k)=true:=by
  rw[fitsIndex_both h1 h2];exact c_
 have hlong:¬fH (dR.toArray.size*k.toNat)=true:=by
  rw[F9 hlen];exact c_
 have hnew:jh (λx1 x2=>x1++x2) #[] (bp (if dR.toArray.isEmpty=true then 0 else k.toNat) dR.toArray)=(bp k.toNat dR).flatten.toArray:=by
  have f0:∀m:Nat,jh (λx1 x2=>x1++x2) #[] (bp m dR.toArray)=(bp m dR).flatten.toArray:=λm=>by
   have:=N4 dR m [];rw[aM]at this;exact this
  rw[f0];cases dR with
  |nil=>simp
  |cons a r'=>rw[if_neg `s]
 refine wpAny_binaryOp_repeat_ref (T:= "list") (U:= "int") `d ⟨_,e,rfl⟩ (λs'=>jY s' k t) noFill_list_mul F.fills_int_mul ki repeat_list F.slot_int_index.lookup
  (fI ki (jY s k t) F.entry_int_rmul (F.args_int_rmul_2 _ _) (int___rmul___int_list k t l dR.toArray n)
   ⟨e,rfl,⟨_,e,rfl⟩,fI F.slot_list_mul ⟨_,e,rfl⟩ F.entry_list_mul (F.args_list_mul_2 _ _) (AutoListH.list___mul___list_int_3 l dR.toArray n k t hfit hcap hlong) ⟨e,?_⟩⟩)
 rw[hnew];exact⟨.ref _,_,I.lnew (t':=s.toks) (r.rep k.toNat) (by rw[YQ,Nat.mul_comm];exact hz),rfl,q _ I.fresh⟩
end
end L2
namespace Att
open PySem PySem.W PySem.Calls PyProof.Rows
def ZQ:∀(ns:List Int) (vs:List aj),WellAll P h vs (ns.map WData.int)→fx vs ns:=by
 intro ns
 induction ns with
 |nil=>
  intro vs w;rw[dc]at w;cases w;exact .nil
 |cons n ns ih=>
  intro vs w;rw[az]at w;cases w with
  |cons a b=>
   cases a;exact .cons _ _ (ih _ b)
def R5{l:OpenLaw}{n:Nat}(hn:l.most=aa n) {P:Params}{h:aF}{args:List WData}{vals:List aj}
  (hpre:l.row.toRowW.claim.pre args=true) (hwl:WellAll P h vals args) :
  ∃a vs ns,vals=[bP a]∧args=[WData.list (ns.map WData.int)]∧h.get? a=aa { cls:= .type "list",data:= .seq vs.toArray }∧fx vs ns∧ns.length≤n:=by
 have hsh:WShape.hasAll [] args [.list .int]=true:=(pre_splitW hpre).1;have hc:l.pre.holds [] { args:=args }=true:=(pre_splitW hpre).2;obtain⟨d,r,rfl,h1,h2⟩:=hasAllW_cons hsh;obtain rfl:=hasAllW_nil h2;obtain⟨xs,rfl,h3⟩:=hasW_list h1;obtain⟨ns,rfl⟩:=items_int h3;have hlen:ns.length≤n:=by
  unfold OpenLaw.pre at hc;have h4:(WTm.not (.lt (.lit (.int (n:Int))) (.len (.arg 0)))).holds [] { args:=[.list (ns.map .int)] }=true:=by
   have h4:=(holds_andW hc).1;rw[hn]at h4;exact h4
  have h5:=condW_of h4 (w_not (w_lt w_lit (w_len_list (w_arg rfl))));rw[ay]at h5;refine my λq=>?_;have q':(n:Int)<((ns.length:Nat):Int):=by lia
  first
   | (rw[decide_eq_true q']at h5;exact absurd h5 `d)
   | (simp at h5;lia)
 cases hwl with
 |cons w1 w2=>
  cases w2;cases w1 with
  |list ho hall=>exact⟨_,_,ns,rfl,rfl,ho,ZQ ns _ hall,hlen⟩
def R4 (l:OpenLaw) (args:List WData):l.row.toRowW.claim.post args (.bool true) args=true:=
 postW_of (r:=l.row.toRowW) (X:=(true == true))
  (show WShape.has [] (.bool true) .bool=true by first |rfl |decide |simp [WShape.has,WShape.arms,WShape.armsAll])
  (show(WTm.eq .res (.lit (.bool true))).value [] { args:=args,res:=aa (.bool true),after:=args }=aa (.bool (true == true)) from w_eq_bool (w_res rfl) w_lit) rfl
def attach_call{l:OpenLaw}{n:Nat}{q:bb}{loose:List ah}{XP:(ah→Option aj)→aF→Prop}{YP:aQ→aF→Prop}{d:DefRec}
  (hn:l.most=aa n) (hdf:d.params.defaults=[])
  (call:∀(w:aQ) (s₀ s₁:aq) (mg mb:ah→Option aj) (fa:ai) (o:aJ) (pm cd doc:aj) (a:ai) (vs:List aj) (ns:List Int),
   Ground q loose [] XP w s₀ mg mb s₁.heap→YP w s₁.heap→
   s₁.heap.get? fa=aa o→o.data= .func (docDef d.name d.params d.body d.scope pm cd doc)→s₁.heap.CodeRec cd d.name→mg d.name=aa (.ref fa)→
   s₁.heap.get? a=aa { cls:= .type "list",data:= .seq vs.toArray }→fx vs ns→ns.length≤n→s₁.gens= #[]→
   dZ (aC l.prog w) eM (.call (.ref fa) ⟨[.ref a],[]⟩) (λr s'=>r= .ok (.ret (.bool true))∧OldK s₁.heap s'.heap∧s'.os=s₁.os∧cF s'.gens) s₁) :
  WalkO q loose XP YP l.row.toRowW d [] (λf vs=>jP f vs):=by
 intro w s₀ s₁ mg mb G Y fa o pm cd doc dV kV ho hd hcd hD hmg hg args vals as hpre hlay hrd hwl hlo;obtain rfl:dV= .none:=Dflts.none hD hdf;obtain rfl:kV= .none:=Dflts.noKw hD;obtain⟨a,vs,ns,rfl,rfl,hobj,hints,hlen⟩:=R5 hn hpre hwl;refine enter_call (jM (call w s₀ s₁ mg mb fa o pm cd doc a vs ns G Y ho (fd_plain hd) hcd hmg hobj hints hlen hg) λr s' hq=>?_);obtain⟨rfl,h2,h3,h4⟩:=hq;exact⟨.inl ⟨.bool true, .bool true,[],rfl,λ_=>rfl, .bool true,R4 l _,λ_=>⟨kG.nil,λ_ hm=>(nomatch hm)⟩⟩,h2,h3,h4⟩
end Att
namespace L2
open PySem PySem.Spec PyProof.Rows
def ZK:∀{vs:List aj}{ns:List Int},fx vs ns→ni (ns.map V.int) vs:=λ{vs ns} h=>by
 induction h with
 |nil=>exact .nil
 |cons n t _ ih=>exact .cons ⟨t,rfl⟩ ih
def C9 (H:Hp):Prop:=∀b,H b=none∨ ∃o xs,H b=aa (.frz o (.bJ xs))
def zvi{K:am}{mg mb:ah→Option aj} 
  (KX:K.In s₁.heap) (hns:s₁.heap.Ns aY mg) (hb:s₁.heap.Ns i7 mb) (hbb:∀x:ah,x≠ "__name__" →mb x=cI x) (hlim:s₁.heap.NoLimit) (hg:s₁.gens= #[])
  (ha:s₁.heap.get? a=aa { cls:= .type "list",data:= .seq vs.toArray }) (hi:fx vs ns) (hl:ns.length≤sizeLine) (hr:oV k eM)
  (F:∀base:aF,K.In base→base.Ns aY mg→pi P w K mg base CX k fa fd [x] sp) (hbind:∀(s:aq) (u:aj),fo s fd ⟨[u],[]⟩ [(x,u)])
  (hsp:∀H:Hp,C9 H→o9 K H a (ns.map V.int)→sp [.ref a] H (λv _=>v= .bl true) λ_ _ _=>False)
  (hCX:∀H e s',CX [] H s₁ (λ_ _ _=>False) e s'→False) :
  dZ (aC P w) eM (.call (.ref fa) ⟨[.ref a],[]⟩) (λr s'=>r= .ok (.ret (.bool true))∧OldK s₁.heap s'.heap∧s'.os=s₁.os∧cF s'.gens) s₁:=by
 have rv:=ZK hi;have lenV:=hi.length;have core:∀H:Hp,C9 H→o9 K H a (ns.map V.int)→oR P w H s₁.heap→(∀b,H b≠none→b=a)→(H a≠none→K.lookup a=none)→
   dZ (aC P w) eM (.call (.ref fa) ⟨[.ref a],[]⟩) (λr s'=>r= .ok (.ret (.bool true))∧OldK s₁.heap s'.heap∧s'.os=s₁.os∧cF s'.gens) s₁:=by
  intro H hO hS cq hA hK;have base_of:∀{b:ai}{o:aJ},s₁.heap.get? b=aa o→H b=none→(uN s₁.heap H).get? b=aa o:=λe n=>Uc e n;have noA:∀{b:ai}{o:aJ}{es:Array iY}{ep:Nat},s₁.heap.get? b=aa o→o.data= .dict es ep→H b=none:=λ{b o es ep} e d=>by
   cases q:H b with
   |none=>rfl
   |some u=>
    have e':b=a:=hA b (by rw[q];simp);subst e';rw[ha]at e;cases e;have d':Data.seq vs.toArray _=Data.dict es ep:=d;cases d'
  have nsK:∀{b:ai}{m:ah→Option aj},s₁.heap.Ns b m→(uN s₁.heap H).Ns b m:=λ{b m} ⟨o,es,ep,e,d,r⟩=>⟨o,es,ep,base_of e (noA e d),d,r⟩;have hKb:K.In (uN s₁.heap H):=λb o e=>base_of (KX b o e) (by
   cases q:H b with
   |none=>rfl
   |some u=>
    have e':b=a:=hA b (by rw[q];simp);subst e';rw[hK (by rw[q];simp)]at e;cases e)
  have hM:Mod K mg (uN s₁.heap H):=⟨hKb,nsK hns,⟨mb,nsK hb,hbb⟩,let ⟨mc,h1,h2⟩:=hlim;⟨mc,nsK h1,h2⟩⟩;have e0:t5 P w K mg (uN s₁.heap H) eM [] s₁ H:=⟨rfl,hM,λb o e=>RO e,fZ (QM _ _),trivial,λb hb=>absurd (show b∈([]:List ai) from hb) `s,cq, .of_eq hg⟩;refine jM ((F _ hKb (nsK hns)).run eM [] s₁ H ⟨[.ref a],[]⟩ [.ref a] [.ref a] _ _ hr e0 (hbind s₁ (.ref a)) (.cons rfl .nil) (hsp H hO hS)) λr s' h=>?_;cases r with
  |error e=>exact(hCX H e s' h).elim
  |ok fl=>
   cases fl with
   |next=>exact cG h
   |brk=>exact cG h
   |cont=>exact cG h
   |ret u=>
    obtain⟨v,H',os,bare,un,hok',r',q⟩:=h;have q':v= .bl true:=q;subst q';obtain rfl:u=eS true:=r';refine⟨rfl,OldK.of_keep λb o e=>?_,os,bare⟩;cases q:H b with
    |none=>exact un.keep b o e q (by intro z;exact absurd (show b∈([]:List ai) from z) `s) `s
    |some u=>
     obtain z |⟨ob,xs,z⟩:=hO b
     ·rw[q]at z;cases z
     ·have z2:=un.frzs b ob _ z;obtain⟨e1,_⟩:=cq b _ z;obtain⟨e2,_⟩:=hok' b _ z2;rw[e]at e1;cases e1;exact e2
 cases hk:K.lookup a with
 |some o=>
  have e:=KX a o hk;rw[ha]at e;cases e;refine core (λ_=>none) (λ_=> .inl rfl) (.inr ⟨_,vs.toArray,_,hk,rfl,rfl,rfl,by rw[bj,lenV];exact hl,by simpa using rv⟩) (λb u z=>by have z':(none:Option HO)=aa u:=z;cases z') (λb z=>absurd rfl z) λz=>absurd rfl z
 |none=>
  refine core (λb=>if b=a then aa (.frz { cls:= .type "list",data:= .seq vs.toArray } (.bJ (ns.map V.int))) else none) (λb=>?_) (.inl (.inr ⟨{ cls:= .type "list",data:= .seq vs.toArray },if_pos rfl⟩)) (λb u z=>?_) (λb z=>?_) λ_=>hk
  ·by_cases hb:b=a
   ·exact .inr ⟨_,_,if_pos hb⟩
   ·exact .inl (if_neg hb)
  ·by_cases hb:b=a
   ·have z':=(if_pos hb).symm.trans z;cases z';subst hb;exact⟨ha,by rw[ay];exact hl,vs,_,rv,ha⟩
   ·have z':=(if_neg hb).symm.trans z;cases z'
  ·by_cases hb:b=a
   ·exact hb
   ·exact absurd (if_neg hb) z
def Sy{l:gY}{n k:Nat}{q:bb}{loose:List ah}{XP:(ah→Option aj)→aF→Prop}{YP:aQ→aF→Prop}{d:DefRec}{K:Params→am}{CX:aQ→yj}{sp:aQ→Sp}{x:ah}
  (hn:l.most=aa n) (hn2:n≤sizeLine) (hdf:d.params.defaults=[]) (hr:oV k eM)
  (hY:∀(w:aQ) (h:aF),YP w h→(K w.params).In h)
  (F:∀(w:aQ) (mg:ah→Option aj) (fa:ai) (h:aF),(K w.params).In h→h.Ns aY mg→mg d.name=aa (.ref fa)→
   ∃fd:c6,(∀(s:aq) (u:aj),fo s fd ⟨[u],[]⟩ [(x,u)])∧
    ∀base:aF,(K w.params).In base→base.Ns aY mg→pi l.prog w (K w.params) mg base (CX w) k fa fd [x] (sp w))
  (hsp:∀(w:aQ) (H:Hp) (a:ai) (ns:List Int),ns.length≤n→C9 H→o9 (K w.params) H a (ns.map V.int)→sp w [.ref a] H (λv _=>v= .bl true) λ_ _ _=>False)
  (hCX:∀(w:aQ) (H:Hp) (s:aq) (e:aj) (s':aq),CX w [] H s (λ_ _ _=>False) e s'→False) :
  mD q loose XP YP l.row.toRowW d [] (λf vs=>jP f vs):=by
 refine Att.attach_call hn hdf λw s₀ s₁ mg mb fa o pm cd doc a vs ns G Y ho hd hcd hmg hobj hints hlen hg=>?_;have KX:=hY w _ Y;obtain⟨fd,hb,hF⟩:=F w mg fa _ KX G.T.g hmg;exact zvi KX G.T.g G.T.b G.T.builtins G.T.nolimit hg hobj hints (aX hlen hn2) hr hF hb (λH hO hS=>hsp w H a ns hlen hO hS) λH e s'=>hCX w H s₁ e s'
noncomputable def vU (s:bi):Arguments:=match s with
 | .FunctionDef _ a _ _ _ _ _ _ _ _=>a
 |_=>{ posonlyargs:=[],args:=[],vararg:=none,kwonlyargs:=[],kw_defaults:=[],kwarg:=none,defaults:=[] }
noncomputable def t9 (s:bi):List bi:=match s with
 | .FunctionDef _ _ b _ _ _ _ _ _ _=>b
 |_=>[]
noncomputable def qQ (s:bi):Scope:=match s with
 | .FunctionDef _ _ _ _ _ _ sc _ _ _=>sc
 |_=>{ kind:= .function,names:=[],isGenerator:=false,isCoroutine:=false }
abbrev LK:yj:=λ_ _ _ _ _ _=>False
structure tU (K:am) (x qual:ah) (st:bi) (f:ai) (fd:c6):Prop where
  ex:∃(oc:aj) (od:Option ai) (kV doc pm:aj) (an:Option ai) (cdv ct:aj) (osl:Array (Option aj)),
    fd=du x qual (vU st) (t9 st) (qQ st) .none kV doc pm an cdv ct∧K.lookup f=aa ⟨oc,od, .func fd,osl⟩∧fK K cdv qual=true
  kp:cU K (.ref f)=true
section
variable {P:bb}{w:aQ}{K:am}{mg:ah→Option aj}{base:aF}
def tU.ok{st:bi}(F:tU K x qual st f fd) (S:p4 N ps (qQ st)) (len:∀vs H Q E,sp vs H Q E→vs.length=ps.length)
  (hbody:∀(cdv:aj) (A:bx) (outer:List bS) (s:aq) (H:Hp) (vs:List V) (Q:VK) (E:XK),oV k (A.deeper (cC qual (qQ st) s.heap.objs.size f cdv))→sp vs H Q E→
   ∃t,rG (vw LK P w K mg base N qual (qQ st) f cdv A outer s H E).nox (t9 st) t∧t { nx:=λ_ H'=>Q .b_ H',rt:=Q } (start N vs) H):pi P w K mg base LK (k+1) f fd ps sp:=by
 obtain⟨oc,od,kV,doc,pm,an,cdv,ct,osl,rfl,lk,hcd⟩:=F.ex;refine Ny lk hcd S len λA outer s H vs Q E hr hsp=>?_;obtain⟨t,h,q⟩:=hbody cdv A outer s H vs Q E hr hsp;exact⟨t,h.nox,q⟩
def tU.binds{st:bi}(F:tU K x qual st f fd)
  (h:∀(kV doc pm:aj) (an:Option ai) (cdv ct:aj) (us:List aj),us.length=ps.length→jf (du x qual (vU st) (t9 st) (qQ st) .none kV doc pm an cdv ct) ⟨us,[]⟩=pure (ps.zip us)):pM K fd ps []:=by
 obtain⟨oc,od,kV,doc,pm,an,cdv,ct,osl,rfl,lk,hcd⟩:=F.ex;exact .all (h kV doc pm an cdv ct)
def L9{st:bi}{kV doc pm cdv ct:aj}(l:K.lookup f=aa ⟨oc,od, .func (du x qual (vU st) (t9 st) (qQ st) .none kV doc pm an cdv ct),osl⟩)
  (c:fK K cdv qual=true) (k:cU K (.ref f)=true):tU K x qual st f (du x qual (vU st) (t9 st) (qQ st) .none kV doc pm an cdv ct):=⟨⟨oc,od,kV,doc,pm,an,cdv,ct,osl,rfl,l,c⟩,k⟩
end
section
variable {X:Cx}
def pv (i:Nat) (hN:X.N[i]? =aa x) (hv:wD X.env.scope x:=by first |exact gP rfl |exact fB (gP rfl) |exact fB (fB rfl)) (hd:(x == ("__debug__" :ah))=false:=by decide)
  (hcd:(x == ("__classdict__" :ah))=false:=by decide):PE X (.Name x pos) (Hy i):=MH hN hv hd hcd
end
def Qm{A B:Prop}(h:B):if false=true then A else B:=by
 rw[if_neg c_];exact h
def Q8{A B:Prop}(h:A):if true=true then A else B:=by
 rw[if_pos rfl];exact h
section
variable {κ:Type} [DecidableEq κ]
noncomputable def sw (d6:List (κ×V)) (k:κ):Option V:=(d6.find? λkv=>decide (kv.1=k)).map (·.2)
noncomputable def tJ (d6:List (κ×V)) (k:κ) (v:V):List (κ×V):=
 if(d6.any λkv=>decide (kv.1=k))=true then d6.map (λkv=>if kv.1=k then(kv.1,v) else kv) else d6++[(k,v)]
def BG{p:κ×V}{r:List (κ×V)}{k:κ}(e:p.1=k):sw (p::r) k=aa p.2:=by simp [sw,b8,e]
def Du{p:κ×V}{r:List (κ×V)}{k:κ}(e:¬p.1=k):sw (p::r) k=sw r k:=by simp [sw,b8,e]
theorem Iq (k:κ):∀d6:List (κ×V),(d6.any λkv=>decide (kv.1=k))=(sw d6 k).isSome
 | []=>rfl
 |p::r=>by
  rw[fh];by_cases e:p.1=k
  ·simp only[BG e,decide_eq_true e,Bool.true_or,kq]
  ·rw[Du e,decide_eq_false e,mC];exact Iq k r
def SL (d6:List (κ×V)) (k:κ) (v:V):(tJ d6 k v).length≤d6.length+1:=by
 unfold tJ;split
 ·rw[ay];lia
 ·rw[aW,aT,dU];lia
def qW.isSome_eq{o:Option V}{u:Option aj}(r:qW o u):o.isSome=u.isSome:=by
 cases o with
 |none=>cases u with
  |none=>rfl
  |some _=>exact(show False from r).elim
 |some _=>cases u with
  |none=>exact(show False from r).elim
  |some _=>rfl
def qW.getD{o:Option V}{u:Option aj}{d:V}{d':aj}(r:qW o u) (rd:nA d d'):nA (o.getD d) (u.getD d'):=by
 cases o with
 |none=>cases u with
  |none=>exact rd
  |some _=>exact(show False from r).elim
 |some _=>cases u with
  |none=>exact(show False from r).elim
  |some _=>exact r
def KV.val{d6:List (κ×V)}{vs:List (κ×aj)}(r:KV d6 vs) (k:κ):qW (sw d6 k) (e_ vs k):=by
 unfold KV at r
 induction r with
 |nil=>exact dQ
 | @cons p q ps qs h t ih=>
  obtain⟨h1,h2⟩:=h;by_cases e:p.1=k
  ·have e':q.1=k:=h1.symm.trans e;have b:e_ (q::qs) k=aa q.2:=by simp [e_,b8,e']
   rw[BG e,b];exact h2
  ·have e':¬q.1=k:=λz=>e (h1.trans z);have b:e_ (q::qs) k=e_ qs k:=by simp [e_,b8,e']
   rw[Du e,b];exact ih
def KV.length{d6:List (κ×V)}{vs:List (κ×aj)}(r:KV d6 vs):d6.length=vs.length:=fP r
end
def Gp{P:bb}{w:aQ}{k:Key}{u:aj}(r:nA (kV k) u):(rA P w).is k u=true:=by
 cases k with
 |inl i=>obtain⟨t,e⟩:=(show ∃t,u=gi i t from r);subst e;exact Rq P w i t
 |inr x=>obtain⟨t,e⟩:=(show ∃t,u=fT x t from r);subst e;exact Vd P w x t
theorem MN{P:bb}{w:aQ}:∀{ks:List Key}{us:List aj},ni (ks.map kV) us→ItemsAre (rA P w) ks us
 | [],_,r=>by rw[dc]at r;cases r;exact .nil
 |k::ks,_,r=>by
  rw[az]at r;cases r with
  |cons h t=>exact .cons (Gp h) (MN t)
abbrev KT (H:Hp):List (List Key×V)→List (List Key×ai×aj)→Prop:=a_ λp q=>p.1=q.1∧H q.2.1=aa (.bT (p.1.map kV))∧nA p.2 q.2.2
def KT.val{H:Hp}{d6:List (List Key×V)}{xs:List (List Key×ai×aj)}(r:KT H d6 xs) (k:List Key):qW (sw d6 k) ((dX xs k).map (·.2)):=by
 induction r with
 |nil=>exact dQ
 | @cons p q ps qs h t ih=>
  obtain⟨h1,_,h2⟩:=h;by_cases e:p.1=k
  ·have e':q.1=k:=h1.symm.trans e;have b:dX (q::qs) k=aa q.2:=by simp [dX,b8,e']
   rw[BG e,b];exact h2
  ·have e':¬q.1=k:=λz=>e (h1.trans z);have b:dX (q::qs) k=dX qs k:=by simp [dX,b8,e']
   rw[Du e,b];exact ih
def KT.repl{H:Hp}{d6:List (List Key×V)}{xs:List (List Key×ai×aj)}(r:KT H d6 xs) (k:List Key) {y:V}{u:aj}(ry:nA y u) :
  KT H (d6.map λkv=>if kv.1=k then(kv.1,y) else kv) (xs.map (putAt k u)):=by
 induction r with
 |nil=>exact .nil
 | @cons p q ps qs h t ih=>
  rw[az,az];refine .cons ?_ ih;obtain⟨h1,h2,h3⟩:=h;unfold putAt;by_cases e:p.1=k
  ·rw[if_pos e,if_pos (h1.symm.trans e)];exact⟨h1,h2,ry⟩
  ·rw[if_neg e,if_neg (λz=>e (h1.trans z))];exact⟨h1,h2,h3⟩
def KT.bQ{H:Hp}{d6:List (List Key×V)}{xs:List (List Key×ai×aj)}(r:KT H d6 xs) (k:List Key) {b:ai}{y:V}{u:aj}(hb:H b=aa (.bT (k.map kV))) (ry:nA y u) :
  KT H (tJ d6 k y) (gf xs k b u):=by
 have e:(d6.any λkv=>decide (kv.1=k))=(dX xs k).isSome:=by
  rw[Iq,(r.val k).isSome_eq,gy]
 unfold tJ gf;rw[e];by_cases q:(dX xs k).isSome=true
 ·rw[if_pos q,if_pos q];exact r.repl k ry
 ·rw[if_neg q,if_neg q];exact a_.snoc r ⟨rfl,hb,ry⟩
def KT.keeps{H H':Hp}{d6:List (List Key×V)}{xs:List (List Key×ai×aj)}(r:KT H d6 xs) (ht:∀b ys,H b=aa (.bT ys)→H' b=aa (.bT ys)):KT H' d6 xs:=
 Paired.mapP r λ_ _ z=>⟨z.1,ht _ _ z.2.1,z.2.2⟩
def Ij{u:HO}(ok:oR P w H h) (e:Rd H a u):nM P w H h a u:=e.ok ok
def Pm{d6:List (Key×V)}(ok:oR P w H h) (e:Rd H a (.dK d6)):d6.length≤sizeLine∧(a == fG)=false∧ ∃vs,KV d6 vs∧h.DictOf (rA P w) a vs:=
 show nM P w H h a (.dK d6) from Ij ok e
def BZ{ks:List Key}(ok:oR P w H h) (e:H a=aa (.bT (ks.map kV))):(cP (rA P w)).is h ks a:=by
 obtain⟨_,dR,r,o,h1,h2,n,h3⟩:=(show nM P w H h a (.bT (ks.map kV)) from ok a _ e);exact⟨o,dR.toArray,n,h1,h2,h3,by simpa using MN r⟩
def PF{d6:List (List Key×V)}(ok:oR P w H h) (e:Rd H a (.dT d6)):d6.length≤sizeLine∧(a == fG)=false∧
  ∃xs,KT H d6 xs∧h.DictOfH (cP (rA P w)) a xs:=by
 obtain⟨z,y,xs,r,o,es,ep,h1,h2,h3,h4,h5⟩:=(show nM P w H h a (.dT d6) from Ij ok e);refine⟨z,y,xs,r,o,es,ep,h1,h2,h3,h4,λx hx=>?_,h5⟩;have all:∀{l:List (List Key×V)}{m:List (List Key×ai×aj)},KT H l m→ ∀x∈m,(cP (rA P w)).is h x.1 x.2.1:=by
  intro l m q
  induction q with
  |nil=>intro x hx;exact nomatch hx
  | @cons p q ps qs hq t ih=>
   intro x hx;obtain e |hx:=aB.mp hx
   ·subst e;exact BZ ok (by rw[←hq.1];exact hq.2.1)
   ·exact ih x hx
 exact all r x hx
def sV (H:Hp) (a:ai) (y:V) (r:Option V):Prop:=
 (∃d6 k,Rd H a (.dK d6)∧y=kV k∧r=sw d6 k)∨ ∃d6 k b,Rd H a (.dT d6)∧y= .ref b∧H b=aa (.bT (k.map kV))∧r=sw d6 k
def sV.t{H:Hp}{a b:ai}{d6:List (List Key×V)}{k:List Key}(e:H a=aa (.dT d6)) (eb:H b=aa (.bT (k.map kV))):sV H a (.ref b) (sw d6 k):= .inr ⟨d6,k,b, .inl e,rfl,eb,rfl⟩
section
variable {X:Cx}{ag:List (ai×aJ)}{σ:St}{H:Hp}{s:aq}{a:ai}{y:V}{u:aj}{o:Option V}{A:bx}{E:aj→aq→Prop}
def mW.big (I:mW X ag σ H s):fG<s.heap.objs.size:=by
 have h:aY<s.heap.objs.size:=(I.mod.glob.keeps I.bk).lt;exact Nat.lt_trans `d h
def VR{Q:aj→aq→Prop}(hu:A.units+1<cLine) (I:mW X ag σ H s) (g:sV H a y o) (ry:nA y u) (h:∀s',mW X ag σ H s'→Q (.bool o.isSome) s') :
  av (aC X.prog X.w) A (bF .In u (.ref a)) Q E s:=by
 obtain ⟨d6,k,e,ey,l⟩ |⟨d6,k,b,e,ey,eb,l⟩:=g
 ·subst ey;obtain⟨z,hd,vs,rel,dd⟩:=Pm I.cq e;refine wpAny_in_of (Gp ry) hd dd.mapOf ?_;rw[←(rel.val k).isSome_eq,←l];exact h _ (I.tok _)
 ·subst ey;cases(show u=bP b from ry);obtain⟨z,hd,xs,rel,dd⟩:=PF I.cq e;refine wpAny_in_heap (jD hu) (BZ I.cq eb) hd dd ?_;have q:=(rel.val k).isSome_eq;rw[gy]at q;rw[←q,←l];exact h _ (I.tok _)
def RW{Q:aj→aq→Prop}(hu:A.units+1<cLine) (I:mW X ag σ H s) (g:sV H a y o) (ry:nA y u) (h:∀s',mW X ag σ H s'→Q (.bool (!o.isSome)) s') :
  av (aC X.prog X.w) A (bF .NotIn u (.ref a)) Q E s:=by
 obtain ⟨d6,k,e,ey,l⟩ |⟨d6,k,b,e,ey,eb,l⟩:=g
 ·subst ey;obtain⟨z,hd,vs,rel,dd⟩:=Pm I.cq e;refine wpAny_notIn_of (Gp ry) hd dd.mapOf ?_;rw[←(rel.val k).isSome_eq,←l];exact h _ (I.tok _)
 ·subst ey;cases(show u=bP b from ry);obtain⟨z,hd,xs,rel,dd⟩:=PF I.cq e;refine wpAny_notIn_heap (jD hu) (BZ I.cq eb) hd dd ?_;have q:=(rel.val k).isSome_eq;rw[gy]at q;rw[←q,←l];exact h _ (I.tok _)
end
end L2
namespace Att
open PySem PySem.W PySem.Calls PyProof.Rows
end Att
namespace L2
open PySem PySem.Spec PyProof.Rows
section
variable {prog:bb}{w:aQ}{A:bx}{R:Result→aq→Prop}{s:aq}
def YI (I:Nat→aq→Prop)
  (turn:∀n s,I n s→av (aC prog w) A (cu it) (λr s₁=>match r with
   |none=>R (.ok .next) s₁
   |some v=>av (aC prog w) A (gQ target it v) (λ_ s₀=>av (aC prog w) A (assign target env v) (λ_ s₂=>
     av (aC prog w) A (forIn ifs true λc r=>if r=true then do let ok ←isTrue c env (aH c env);pure (fe ok) else pure (fe r)) (λok s₃=>
      if ok=true then av (aC prog w) A (aH elt env) (λx s₄=>
       av (aC prog w) A (call (.builtin "list.append") [acc,x]) (λ_ s₅=>∃m,m<n∧I m s₅) (λ_ _=>False) s₄) (λ_ _=>False) s₃
      else ∃m,m<n∧I m s₃) (λ_ _=>False) s₂) (λ_ _=>False) s₀) (λ_ _=>False) s₁) (λ_ _=>False) s)
  (n:Nat) (h:I n s) :
  dZ (aC prog w) A (.compLoop (.ListComp elt [⟨target,iter,ifs,0⟩] scope pos) 0 it acc env) R s:=by
 refine codeAny_loop rfl I (λn s hI=>?_) n h;show av _ A ((compTurn (.ListComp elt [⟨target,iter,ifs,0⟩] scope pos) 0 it acc env).onRaise (λx=>do noteFrame x env;theTreesLotGoes x)) _ _ s;refine wpAny_noted ?_;rw[compTurn_list];refine au (wpAny_standAt (au (cE (turn n s hI) (λr s₁ h₁=>?_) λ_ _ h'=>h'.elim)));cases r with
 |none=>exact aK h₁
 |some v=>
  refine au (cE h₁ (λ_ s₀ h₀=>?_) λ_ _ h'=>h'.elim);refine au (cE h₀ (λ_ s₂ h₂=>au (cE h₂ (λok s₃ h₃=>?_) λ_ _ h'=>h'.elim)) λ_ _ h'=>h'.elim);cases ok with
  |false=>exact aK ⟨rfl,h₃⟩
  |true=>
   exact au (au (cE h₃ (λx s₄ h₄=>au (cE h₄ (λ_ s₅ h₅=>aK (aK ⟨rfl,h₅⟩)) λ_ _ h'=>h'.elim)) λ_ _ h'=>h'.elim))
end
noncomputable def qF (cells:List (ah×ai)):List (ah×ca)→List (ah×ai)→List (ah×ai)
 | [],acc=>acc
 | (n,k)::r,acc=>if(k == bc)=true then qF cells r ((n,(cells.lookup n).getD 0)::acc) else qF cells r acc
def WH (h:∀y∈scope.names,y.2= .free→ ∃c,env.cells.lookup y.1=aa c) :
  closureFor scope env=pure (qF env.cells scope.names []):=by
 have go:∀(l:List (ah×ca)) (acc:List (ah×ai)),(∀y∈l,y.2= .free→ ∃c,env.cells.lookup y.1=aa c)→
   (forIn l acc λ(x:ah×ca) (cs:List (ah×ai))=>(if(x.2 == bc)=true then(do let a ←cellOf env x.1;pure (fe ((x.1,a)::cs))) else pure (fe cs):ck (ForInStep (List (ah×ai)))))=(pure (qF env.cells l acc):ck (List (ah×ai))):=by
  intro l
  induction l with
  |nil=>intro acc _;rfl
  |cons x l ih=>
   intro acc hl;obtain⟨n,k⟩:=x;have hr:=λy hy=>hl y (aG _ hy);rw[iU];by_cases hk:k= .free
   ·subst hk;obtain⟨c,hc⟩:=hl (n, .free) aI rfl;have hc':env.cells.lookup n=aa c:=hc;have e:cellOf env n=pure c:=by unfold cellOf;rw[hc']
    have e2:qF env.cells ((n,bc)::l) acc=qF env.cells l ((n,c)::acc):=by
     show(if(bc == bc)=true then qF env.cells l ((n,(env.cells.lookup n).getD 0)::acc) else qF env.cells l acc)=_;rw[if_pos (by rfl),hc'];rfl
    dsimp only;rw[if_pos (by rfl),e,gD,gD,e2];exact ih _ hr
   ·have hb:¬(k == bc)=true:=by simpa using hk
    have e2:qF env.cells ((n,k)::l) acc=qF env.cells l acc:=by
     show(if(k == bc)=true then qF env.cells l ((n,(env.cells.lookup n).getD 0)::acc) else qF env.cells l acc)=_;rw[if_neg hb]
    dsimp only;rw[if_neg hb,gD,e2];exact ih _ hr
 have q:=go scope.names [] h;unfold closureFor
 first
  |exact(bind_pure _).trans q
  | (simp only[bind_pure];exact q)
  | (simp only[gD,bind_assoc,bind_pure];exact q)
theorem GO:∀(l:List (ah×ca)) (acc:List (ah×ai)),(∀y∈l,y.2= .free→ ∃c,cells.lookup y.1=aa c)→
  (qF cells l acc).lookup x=aa c→acc.lookup x=aa c∨cells.lookup x=aa c
 | [],acc,_,h=> .inl h
 | (n,k)::r,acc,hl,h=>by
  have hr:=λy hy=>hl y (aG (n,k) hy);by_cases hk:k= .free
  ·subst hk;have h':(qF cells r ((n,(cells.lookup n).getD 0)::acc)).lookup x=aa c:=h;obtain q |q:=GO r _ hr h'
   ·rw[cy]at q;cases e:x == n with
    |true=>
     rw[e]at q;obtain⟨d,hd⟩:=hl (n, .free) aI rfl;have hd':cells.lookup n=aa d:=hd;have e1:x=n:=gn e;rw[hd']at q;have q':d=c:=aO q;exact .inr (by rw[e1,hd',q'])
    |false=>
     rw[e]at q;exact .inl q
   ·exact .inr q
  ·have hb:¬(k == bc)=true:=by simpa using hk
   have h':(if(k == bc)=true then qF cells r ((n,(cells.lookup n).getD 0)::acc) else qF cells r acc).lookup x=aa c:=h;rw[if_neg hb]at h';exact GO r acc hr h'
theorem Cm:∀(l:List (ah×ca)) (acc:List (ah×ai)),((x,bc)∈l∨ ∃c,acc.lookup x=aa c)→ ∃c,(qF cells l acc).lookup x=aa c
 | [],acc,h=>by
  obtain h |h:=h
  ·cases h
  ·exact h
 | (n,k)::r,acc,h=>by
  by_cases hk:k= .free
  ·subst hk;refine Cm r ((n,(cells.lookup n).getD 0)::acc) ?_;cases e:x == n with
   |true=>exact .inr ⟨_,by rw[cy,e]⟩
   |false=>
    obtain h |⟨c,h⟩:=h
    ·obtain q |q:=aB.mp h
     ·have:x=n:=congrArg Prod.fst q;rw[this]at e;simp at e
     ·exact .inl q
    ·exact .inr ⟨c,by rw[cy,e];exact h⟩
  ·have hb:¬(k == bc)=true:=by simpa using hk
   show ∃c,(if(k == bc)=true then qF cells r ((n,(cells.lookup n).getD 0)::acc) else qF cells r acc).lookup x=aa c;rw[if_neg hb];refine Cm r acc ?_;obtain h |h:=h
   ·obtain q |q:=aB.mp h
    ·exact absurd (congrArg jx q).symm hk
    ·exact .inl q
   ·exact .inr h
theorem Cg{env:bS}{x:ah}{k:ca}:∀{names:List (ah×ca)},(∀y∈names,y.2≠ .cell)→
  (names.map λ(n,k)=>if(k == bc&&env.scope.kind == .function&&env.kindOf n == aa .cell) then(n,cp) else(n,k)).lookup x=aa k→(k= .cell∨k= .free)→(x,bc)∈names
 | [],_,h,_=>by simp at h
 | (n,j)::r,hc,h,hk=>by
  have h':jo x ((if(j == bc&&env.scope.kind == .function&&env.kindOf n == aa .cell)=true then(n,cp) else(n,j)) ::
   (r.map λ(n,k)=>if(k == bc&&env.scope.kind == .function&&env.kindOf n == aa .cell) then(n,cp) else(n,k)))=aa k:=h
  have hr:=λy hy=>hc y (aG (n,j) hy);have hj:j≠ .cell:=hc (n,j) aI;cases e:x == n with
  |true=>
   have e1:x=n:=gn e;subst e1;by_cases c:(j == bc&&env.scope.kind == .function&&env.kindOf x == aa .cell)=true
   ·have c1:(j == bc)=true:=by
     cases q:(j == bc) with
     |true=>rfl
     |false=>rw[q]at c;simp at c
    have c2:j= .free:=by simpa using c1
    rw[c2];exact aI
   ·rw[if_neg c]at h';simp only[cy,beq_self_eq_true]at h';have h2:j=k:=aO h';obtain z |z:=hk
    ·exact absurd (h2.trans z) hj
    ·rw[h2,z];exact aI
  |false=>
   by_cases c:(j == bc&&env.scope.kind == .function&&env.kindOf n == aa .cell)=true
   ·rw[if_pos c]at h';simp only[cy,e]at h';exact aG _ (Cg hr h' hk)
   ·rw[if_neg c]at h';simp only[cy,e]at h';exact aG _ (Cg hr h' hk)
theorem FJ{env:bS}{x:ah}:∀{names:List (ah×ca)},names.lookup x=aa .free→
  (names.map λ(n,k)=>if(k == bc&&env.scope.kind == .function&&env.kindOf n == aa .cell) then(n,cp) else(n,k)).lookup x=aa .cell∨
  (names.map λ(n,k)=>if(k == bc&&env.scope.kind == .function&&env.kindOf n == aa .cell) then(n,cp) else(n,k)).lookup x=aa .free
 | [],h=>by simp at h
 | (n,j)::r,h=>by
  show jo x ((if(j == bc&&env.scope.kind == .function&&env.kindOf n == aa .cell)=true then(n,cp) else(n,j)) ::
   (r.map λ(n,k)=>if(k == bc&&env.scope.kind == .function&&env.kindOf n == aa .cell) then(n,cp) else(n,k)))=_∨
   jo x ((if(j == bc&&env.scope.kind == .function&&env.kindOf n == aa .cell)=true then(n,cp) else(n,j)) ::
   (r.map λ(n,k)=>if(k == bc&&env.scope.kind == .function&&env.kindOf n == aa .cell) then(n,cp) else(n,k)))=_
  cases e:x == n with
  |true=>
   simp only[cy,e]at h;have h2:j= .free:=aO h;subst h2;by_cases c:(bc == bc&&env.scope.kind == .function&&env.kindOf n == aa .cell)=true
   ·rw[if_pos c];simp only[cy,e];exact .inl trivial
   ·rw[if_neg c];simp only[cy,e];exact .inr trivial
  |false=>
   simp only[cy,e]at h;by_cases c:(j == bc&&env.scope.kind == .function&&env.kindOf n == aa .cell)=true
   ·rw[if_pos c];simp only[cy,e];exact FJ h
   ·rw[if_neg c];simp only[cy,e];exact FJ h
noncomputable def qj (X:Cx) (scope:Scope) (N:List ah) (s:aq) (H:Hp) (fp:List ai) (ag:List (ai×aJ)):Cx:=
 { X with N:=N,s₀:=s,H₀:=H,env:=compEnvC scope (qF X.env.cells scope.names []) s.heap.objs.size X.env,outer:=X.stack,stack:=X.stack,ex:=fp,fn:=λ_=>false,pn:=X.pn++ag,xe:=λ_ _=>False }
structure nT (X:Cx) (scope:Scope) (N:List ah) (k:Nat) (fr:List Nat):Prop where
  kind:scope.kind= .function
  nd:N.Nodup
  len:N.length=k+fr.length
  cell:(scope.names.all λy=>y.2 != cp)=true
  loc:(scope.names.all λy=>y.2 != ca.local || scope.names.lookup y.1 == aa ca.local)=true
  free:(scope.names.all λy=>y.2 != bc || X.env.kindOf y.1 == aa cp || X.env.kindOf y.1 == aa bc)=true
  frs:((N.drop k).all λx=>scope.names.lookup x == aa bc)=true
  pl:N.drop k=fr.map λj=>X.N.getD j eY
  plen:(fr.all λj=>decide (j<X.N.length))=true
noncomputable def wz (σ:St) (fr:List Nat):St:=fr.map λj=>(σ[j]?).join
noncomputable def CQ (σ:St) (k:Nat) (fr:List Nat):St:=bp k none++wz σ fr
def nT.cell' (S:nT X scope N k fr):∀y∈scope.names,y.2≠ .cell:=λy hy=>by
 have q:=cY.mp S.cell y hy;simpa using q
def nT.loc' (S:nT X scope N k fr):∀y∈scope.names,y.2= .local→scope.names.lookup y.1=aa .local:=λy hy e=>by
 have q:=cY.mp S.loc y hy;rw[e]at q;simpa using q
def nT.kinds (S:nT X scope N k fr):∀y∈scope.names,y.2= .free→X.env.kindOf y.1=aa .cell∨X.env.kindOf y.1=aa .free:=λy hy e=>by
 have q:=cY.mp S.free y hy;rw[e]at q;simpa using q
def nT.hasCell (S:nT X scope N k fr) (ok:X.Ok):∀y∈scope.names,y.2= .free→ ∃c,X.env.cells.lookup y.1=aa c:=λy hy e=>ok.has y.1 (S.kinds y hy e)
def nT.sub (S:nT X scope N k fr) (ok:X.Ok) (h:(qF X.env.cells scope.names []).lookup x=aa c):X.env.cells.lookup x=aa c:=by
 obtain q |q:=GO scope.names [] (S.hasCell ok) h
 ·simp at q
 ·exact q
def Zx (I:mW X ag σ H s) (S:nT X scope N k fr) (hfp:∀b∈fp,rB X ag H b) (hob:∀b∈fp,∃o,s.heap.get? b=aa o):(qj X scope N s H fp ag).Ok where
  mod:=I.ok.mod
  kind:=S.kind
  glob:=I.ok.glob
  blt:=I.ok.blt
  above:=aA _
  inj:=λx y c h1 h2=>I.ok.inj x y c (S.sub I.ok h1) (S.sub I.ok h2)
  has:=λx hx=>Cm scope.names [] (.inl (by
    obtain hx |hx:=hx
    · exact Cg S.cell' hx (.inl rfl)
    · exact Cg S.cell' hx (.inr rfl)))
  cab:=λx c h _=>absurd h (by show ¬(false=true);decide)
  hd:=I.ok.hd
  frames:=I.ok.frames
  stk:= .inl rfl
  exf:=λb hb=>⟨by
    obtain⟨o,e⟩:=hob b hb;exact bR (aR e),λx c h=>(hfp b hb).2.2.2.2.1 x c (S.sub I.ok h)⟩
  bs:=I.bs
  bsz:=aX I.ok.bsz I.sz
  noex:=λb o e hb=>by
    rcases(hfp b hb).2.2.2.1 with z |z
    · exact I.ok.noex b o e z
    · exact absurd (b7 (aR (I.ok.bs b o e).1) z) (cK _)
  exfs:=λb hb z=>by
    obtain q |q:=aB.mp (I.stkSub b z)
    · exact(hfp b hb).2.1 q
    · exact(hfp b hb).2.2.1 q
  funs:=I.stack
  frf:=I.stkFree
def Zu (I:mW X ag σ H s) (S:nT X scope N k fr) (hb:b∈fp) (hf:rB X ag H b) (hob:∃o,s.heap.get? b=aa o) (hn:H' b=none):rB (qj X scope N s H fp ag) [] H' b:=by
 refine⟨hn,?_,λz=>?_, .inl hb,λx c h=>hf.2.2.2.2.1 x c (S.sub I.ok h),λp hp=>?_⟩
 ·obtain⟨o,e⟩:=hob;exact bR (aR e)
 ·obtain q |q:=aB.mp (I.stkSub b z)
  ·exact hf.2.1 q
  ·exact hf.2.2.1 q
 ·obtain z |z:=bu.mp hp
  ·exact hf.2.2.2.2.2 p z
  ·cases z
def TW{j:Nat}{v:V}(h:(wz σ fr)[j]? =aa (aa v)):∃i,fr[j]? =aa i∧σ[i]? =aa (aa v):=by
 unfold wz at h;rw[aV]at h;cases e:fr[j]? with
 |none=>rw[e]at h;cases h
 |some i=>
  rw[e]at h;have h':(σ[i]?).join=aa v:=aO h;refine⟨i,rfl,?_⟩;cases q:σ[i]? with
  |none=>rw[q]at h';cases h'
  |some o=>
   rw[q]at h';have h2:o=aa v:=h';rw[h2]
def WD (I:mW X ag σ H s) (S:nT X scope N k fr) (hfp:∀b∈fp,rB X ag H b) (hob:∀b∈fp,∃o,s.heap.get? b=aa o) {h1:aF}{tk:Nat}{m:ah→Option aj}
    (hns:h1.Ns s.heap.objs.size m) (hk:∀b o,s.heap.get? b=aa o→h1.get? b=aa o):mW (qj X scope N s H fp ag) [] (CQ σ k fr) H { s with heap:=h1,toks:=tk } where
  ok:=Zx I S hfp hob
  os:=rfl
  bare:=I.bare
  base:=Un.kept hk
  loc:=⟨m,hns,λi x v e1 e2 e3=>by
    have e2':(bp k (none:Option V)++wz σ fr)[i]? =aa (aa v):=e2;have hi:k≤i:=by
      refine my λz=>?_;rw[lQ (by simpa using z),l9]at e2';split at e2'<;>cases e2'
    rw[iT (by simpa using hi),gT]at e2';obtain⟨j,f1,f2⟩:=TW e2';have e1':N[i]? =aa x:=e1;have d1:(N.drop k)[i - k]? =aa x:=by
      rw[lU];have:k+(i - k)=i:=by lia
      rw[this];exact e1'
    have d2:=d1;rw[S.pl,aV,f1]at d2;have d3:X.N.getD j eY=x:=aO d2;have jl:j<X.N.length:=of_decide_eq_true (cY.mp S.plen j (aN f1));have d4:X.N[j]? =aa x:=by
      rw[bw,aP jl]at d3;rw[aP jl];exact congrArg aa d3
    have fk:scope.names.lookup x=aa .free:=by
      have q:=cY.mp S.frs x (aN d1);simpa using q
    have hmem:(x,bc)∈scope.names:=fv fk;have kd:=S.kinds _ hmem rfl;have vis:wD X.env.scope x:=by
      obtain z |z:=kd
      · exact .inr (.inl z)
      · exact .inr (.inr z)
    obtain⟨m0,_,hl⟩:=I.loc;obtain⟨u,ru,lk⟩:=hl j x v d4 f2 vis;refine⟨u,ru, .inr ⟨FJ fk,?_⟩⟩;have kd':X.env.kindOf x=aa .cell∨X.env.kindOf x=aa .free:=kd;obtain ⟨z,_⟩ |⟨_,c,hc,hcell⟩:=lk
    · rcases kd' with q |q<;>(rw[z]at q;cases q)
    · obtain⟨c',hc'⟩:=Cm (cells:=X.env.cells) scope.names [] (.inl hmem);have e:=S.sub I.ok hc';rw[hc]at e;cases e;exact⟨c,hc',hcell.keeps hk⟩⟩
  cell:=λx c h=>by
    obtain⟨v,z⟩:=I.cell x c (S.sub I.ok h);exact⟨v,z.keeps hk⟩
  free:=I.cq.fresh (aA _)
  freeC:=λx c h=>I.freeC x c (S.sub I.ok h)
  pin:=λp hp=>by
    have hp':p∈X.pn++ag:=by
      obtain z |z:=bu.mp hp
      · exact z
      · cases z
    obtain⟨e,n,ne,nf,d⟩:=I.pin p hp';refine⟨hk _ _ e,n,bR (aR e),λz=>?_,d⟩;obtain q |q:=aB.mp (I.stkSub p.1 z)
    · exact ne q
    · exact nf q
  cq:=I.cq.kept hk
  len:=by
    show(bp k (none:Option V)++wz σ fr).length=N.length;rw[aW,gT,S.len];unfold wz;rw[ay]
def LP (I:mW X ag σ H s) (hfp:∀b∈fp,rB X ag H b) (J:mW (qj X scope N s H fp ag) [] σ' H' s') (sb:cN s.heap.objs.size s'.heap h'):mW X ag σ H' { s' with heap:=h' }:=by
 have neC:∀b o,s.heap.get? b=aa o→b≠s.heap.objs.size:=λb o e=>bR (aR e);have frC:H' s.heap.objs.size=none:=J.free;refine mW.call' (s':={ s' with heap:=h' }) (ch:=fp) I J.os ⟨λb o e n hf hx=>?_,λb o e n hf hx=>?_,λb o e n hx=>J.base.free b o e n hx,λb o e hx=>?_,J.base.tups,J.base.frzs,J.base.tbls⟩ (λb o e=>?_) J.bare λb hb=>⟨(hfp b hb).2.2.2.1,(hfp b hb).2.1,(hfp b hb).2.2.2.2.1,(hfp b hb).2.2.2.2.2⟩
 ·exact(sb.2 b (neC b o e)).trans (J.base.keep b o e n hf hx)
 ·obtain⟨sl,q⟩:=J.base.slot b o e n hf hx;exact⟨sl,(sb.2 b (neC b o e)).trans q⟩
 ·obtain⟨o',q⟩:=J.base.there b o e hx;exact⟨o',(sb.2 b (neC b o e)).trans q⟩
 ·refine(J.cq b o e).stay (λc v hc q=>(sb.2 c ?_).trans q) (λ_ q=>q) λ_ _ q=>q;rintro rfl;obtain rfl |hc:=hc
  ·rw[frC]at e;cases e
  ·rw[frC]at hc;cases hc
def CK (X:Cx) (ifs:List Expr) (t:TT):Prop:=
 ∀(ag:List (ai×aJ)) (s:aq) (σ:St) (H:Hp) (Q:Bool→Hp→Prop),mW X ag σ H s→t σ H Q→
  av (aC X.prog X.w) X.A (forIn ifs true λc r=>if r=true then do let ok ←isTrue c X.env (aH c X.env);pure (fe ok) else pure (fe r)) (TP X ag σ Q) X.xe s
def Wb:TT:=λ_ H Q=>Q true H
def zzG:CK X [] Wb:=λ_ _ _ H _ I h=>wpAny_tests_nil ⟨H,I,h⟩
def Sf (h:PT X c t):CK X [c] t:=λag s σ H Q I q=>wpAny_tests_one (h ag s σ H Q I q)
def Ra (X:Cx) (scope:Scope) (N:List ah) (tg:Expr) (ifs:List Expr) (elt:Expr) (l:ai) (x:V) (σ:St) (H:Hp) (M:St→Hp→Prop):Prop:=
 ∀(s₀:aq) (H₀:Hp) (fp:List ai) (pn:List (ai×aJ)),∃(g:TG) (tt:TT) (te:TE),PG (qj X scope N s₀ H₀ fp pn) tg g∧CK (qj X scope N s₀ H₀ fp pn) ifs tt∧PE (qj X scope N s₀ H₀ fp pn) elt te∧
  g x σ H λσ2 H2=>tt σ2 H2 λb H3=>if b=true then te σ2 H3 λy H4=>∃ys,H4 l=aa (.bJ ys)∧ys.length<sizeLine∧M σ2 (oa H4 l (.bJ (ys++[y]))) else M σ2 H3
def Y7 (X:Cx) (scope:Scope) (N:List ah) (k:Nat) (fr:List Nat) (tg:Expr) (ifs:List Expr) (elt:Expr) (σ:St) (Q:VK) (J:It) (H1:Hp):Prop:=∀l,H1 l=none→
 ∃W:Nat→Nat→St→Hp→Prop,(∃m,W 0 m (CQ σ k fr) (oa H1 l (.bJ [])))∧ ∀i m σ' H',W i m σ' H'→
  (J.stop i H'∧Q (.ref l) H')∨(J.go i H'∧ ∃M:St→Hp→Prop,(∀σ'' H'',M σ'' H''→ ∃m',m'<m∧W (i+1) m' σ'' H'')∧ ∀x H2,J.yld i H' x H2→Ra X scope N tg ifs elt l x σ' H2 M)
def Br (X:Cx) (scope:Scope) (N:List ah) (k:Nat) (fr:List Nat) (tg:Expr) (ifs:List Expr) (elt:Expr) (wi:TI):TE:=λσ H Q=>wi σ H λJ H1=>Y7 X scope N k fr tg ifs elt σ Q J H1
def MX{use:Option (aj→ck Unit)}{Qf:aj→aq→Prop}(hx:X.xe=λ_ _=>False) (hc:X.calm=true) (S:nT X scope N k fr) (hi:PI X tg iter wi) (I:mW X ag σ H s)
  (fin:∀{s3 s6:aq}{H3 H5:Hp}{fp:List ai}{σ5:St}{l:ai}{a:Flow},mW X ag σ H3 s3→(∀b∈fp,rB X ag H3 b)→mW (qj X scope N s3 H3 fp ag) [] σ5 H5 s6→Q (.ref l) H5→compPost (aC X.prog X.w) X.A X.xe use Qf (.ref l) s3.heap.objs.size (.ok a) s6)
  (h:Br X scope N k fr tg ifs elt wi σ H Q)
  (hs:∀x,dG iter X.env x=pure x):av (aC X.prog X.w) X.A (comprehension (.ListComp elt [⟨tg,iter,ifs,0⟩] scope pos) scope X.env (firstIterPos [⟨tg,iter,ifs,0⟩] pos) (newList []) (firstAsync [⟨tg,iter,ifs,0⟩]) (firstIter [⟨tg,iter,ifs,0⟩] X.env) use) Qf X.xe s:=by
 refine wpAny_comprehension_free (use:=use) rfl hs (WH (S.hasCell I.ok)) S.kind S.loc' (nZ (hi ag s σ H _ I h) λv s1 h1=>nZ h1 λitv s2 h2=>?_);obtain⟨it,fp,tn,J,H2,e,I2,T,st2,f2,h2⟩:=h2;subst e;have fr2:H2 s2.heap.objs.size=none:=I2.cq.fresh (aA _);obtain⟨W,⟨m0,w0⟩,turn⟩:=h2 s2.heap.objs.size fr2;refine wpAny_newList ?_ (by show 0≤sizeLine;exact aU _);have I3:mW X ag σ (oa H2 s2.heap.objs.size (.bJ [])) { s2 with heap:=s2.heap.push { cls:= .type "list",data:= .seq ([]:List aj).toArray } }:=I2.lnew (t':=s2.toks) (ys:=[]) .nil (aU _);have old:∀b o,s2.heap.get? b=aa o→(s2.heap.push { cls:= .type "list",data:= .seq ([]:List aj).toArray }).get? b=aa o:=λb o e=>aS _ e;have fpo2:∀b∈fp,∃o,s2.heap.get? b=aa o:=λb hb=>by
  obtain⟨o,e,_⟩:=T.obj _ _ st2 b hb;exact⟨o,e⟩
 have fpo:∀b∈fp,∃o,(s2.heap.push { cls:= .type "list",data:= .seq ([]:List aj).toArray }).get? b=aa o:=λb hb=>by
  obtain⟨o,e⟩:=fpo2 b hb;exact⟨o,old b o e⟩
 have f3:∀b∈fp,rB X ag (oa H2 s2.heap.objs.size (.bJ [])) b:=λb hb=>by
  obtain⟨o,e⟩:=fpo2 b hb;refine⟨?_,(f2 b hb).2⟩;rw[oG (bR (aR e))];exact(f2 b hb).1
 generalize hs3:({ s2 with heap:=s2.heap.push { cls:= .type "list",data:= .seq ([]:List aj).toArray } }:aq)=s3 at I3⊢;have st3:tn 0 s3.heap:=by
  rw[←hs3];exact T.keep _ _ _ st2 λb _ o e=>old b o e
 have fpo3:∀b∈fp,∃o,s3.heap.get? b=aa o:=by rw[←hs3];exact fpo
 clear fpo old hs3;refine wpAny_newFunctionEnv S.cell' (by intro y hy;simp at hy) (λh1 hns1 hsb1=>?_) S.kind;have hk1:∀b o,s3.heap.get? b=aa o→h1.get? b=aa o:=λb o e=>hsb1.extBut b o (bR (aR e)) (aS _ e);have I4:=WD (tk:=s3.toks+([]:List (ah×aj)).length) I3 S f3 fpo3 hns1 hk1;have st4:tn 0 h1:=T.keep _ _ _ st3 λb _ o e=>hk1 b o e;have stat:∀{H':Hp},(∀b∈fp,H' b=none)→ ∀b∈fp,rB (qj X scope N s3 (oa H2 s2.heap.objs.size (.bJ [])) fp ag) [] H' b:=λhn b hb=>Zu I3 S hb (f3 b hb) (fpo3 b hb) (hn b hb);have loop:∀s4:aq,s4={ s3 with heap:=h1,toks:=s3.toks+([]:List (ah×aj)).length }→
   dZ (aC X.prog X.w) X.A (.compLoop (.ListComp elt [⟨tg,iter,ifs,0⟩] scope pos) 0 (.ref it) (.ref s2.heap.objs.size) (compEnvC scope (qF X.env.cells scope.names []) s3.heap.objs.size X.env))
    (compPost (aC X.prog X.w) X.A X.xe use Qf (.ref s2.heap.objs.size) s3.heap.objs.size) s4:=by
  rintro s4 rfl;refine YI (λn s'=>∃i σ' H',mW (qj X scope N s3 (oa H2 s2.heap.objs.size (.bJ [])) fp ag) [] σ' H' s'∧tn i s'.heap∧(∀b∈fp,H' b=none)∧W i n σ' H') ?_ m0 ⟨0,_,_,I4,st4,λb hb=>(f3 b hb).1,w0⟩;rintro n s5 ⟨i,σ5,H5,I5,st5,fr5,w5⟩;obtain ⟨stop,qn⟩ |⟨go,M,hM,step⟩:=turn i n σ5 H5 w5
  ·refine nZ (T.done (qj X scope N s3 (oa H2 s2.heap.objs.size (.bJ [])) fp ag) rfl rfl rfl hc i [] s5 σ5 H5 _ I5 (stat fr5) st5 stop) λr s6 ⟨hr,I6⟩=>?_;subst hr;exact fin I3 f3 I6 qn
  ·refine nZ (T.item (qj X scope N s3 (oa H2 s2.heap.objs.size (.bJ [])) fp ag) rfl rfl rfl hc i [] s5 σ5 H5 _ I5 (stat fr5) st5 go) λr s6 ⟨u,hr,h6⟩=>?_;subst hr;refine nZ h6 λ_ s7 zz=>oQ zz λx H7 I7 r7 ⟨y7,st7,fr7⟩=>?_;have I7':=I7.pinned (stat fr7) (T.obj _ _ st7);obtain⟨g,tt,te,hg,ht,he,q⟩:=step x H7 y7 s3 (oa H2 s2.heap.objs.size (.bJ [])) fp ag;have again:∀{s8:aq}{σ8:St}{H8:Hp},mW (qj X scope N s3 (oa H2 s2.heap.objs.size (.bJ [])) fp ag) ([]++Aa fp s7.heap) σ8 H8 s8→M σ8 H8→
     ∃m,m<n∧ ∃i σ' H',mW (qj X scope N s3 (oa H2 s2.heap.objs.size (.bJ [])) fp ag) [] σ' H' s8∧tn i s8.heap∧(∀b∈fp,H' b=none)∧W i m σ' H':=λ{s8 σ8 H8} I8 n8=>by
    obtain⟨m',hm,w8⟩:=hM σ8 H8 n8;refine⟨m',hm,i+1,σ8,H8,I8.unpinned,T.keep _ _ _ st7 λb hb o e=>(I8.pin (b,o) (cc _ (cc _ (Ce hb e)))).1,λb hb=>?_,w8⟩;obtain⟨o,e,d⟩:=T.obj _ _ st7 b hb;exact(I8.pin (b,o) (cc _ (cc _ (Ce hb e)))).2.1
   refine nZ (hg _ s7 σ5 H7 x u _ I7' r7 q) λ_ s8 ⟨σ8,H8,I8,q8⟩=>?_;refine nZ (ht _ s8 σ8 H8 _ I8 q8) λb s9 zz=>vX zz λH9 I9 q9=>?_;cases b with
   |false=>exact again I9 q9
   |true=>
    refine nZ (he _ s9 σ8 H9 _ I9 q9) λy s10 zz=>oQ zz λyv H10 I10 r10 ⟨ys,hl,hz,qM⟩=>?_;exact nZ (OI _ s10 σ8 H10 (.ref s2.heap.objs.size) [yv] (.ref s2.heap.objs.size) [y] (λ_ H'=>M σ8 H') I10 rfl (.cons r10 .nil) ⟨_,ys,yv,rfl,rfl,hl,hz,qM⟩) λ_ s11 ⟨_,H11,I11,_,q11⟩=>again I11 q11
 exact codeAny_compStart_list (loop _ rfl) (T.self _ 0 _ _ _ st4 (loop _ rfl))
def P0 (hx:X.xe=λ_ _=>False) (hc:X.calm=true) (S:nT X scope N k fr) (hi:PI X tg iter wi)
  (hs:∀x,dG iter X.env x=pure x):PE X (.ListComp elt [⟨tg,iter,ifs,0⟩] scope pos) (Br X scope N k fr tg ifs elt wi):=by
 intro ag s σ H Q I h;rw[eval_ListComp];refine MX hx hc S hi I (λ{s3 s6 H3 H5 fp σ5 l a} I3 f3 I6 qn=>?_) h hs;obtain⟨m6,ns6,_⟩:=I6.loc;exact⟨m6,ns6,λh' sb=>⟨.ref l,H5,LP I3 f3 I6 sb,rfl,qn⟩⟩
def SH (hx:X.xe=λ_ _=>False) (hc:X.calm=true) (S:nT X scope N k fr) (hi:PI X tg iter wi)
  (hN:X.N.Nodup) (hxi:X.N[i]? =aa x) (hxl:tZ X.env.scope x) (hw:eG (.ListComp elt [⟨tg,iter,ifs,0⟩] scope pos) (aa (.Name x pos')) spos.line X.env=pure true) (hf:X.fn x=true∨X.env.scope.names.lookup x=aa .local)
  (hs:∀x,dG iter X.env x=pure x):PS X (.Assign [.Name x pos'] (.ListComp elt [⟨tg,iter,ifs,0⟩] scope pos) spos) (EN (Br X scope N k fr tg ifs elt wi) (GM i)):=by
 intro ag s σ H D I h;rw[exec_Assign_Name_used x pos' _ spos hw];refine au (wpAny_standAt (au ?_));rw[arm_evalThenUse_ListComp];refine au ?_;refine MX (Qf:=λ_ s'=>av (aC X.prog X.w) X.A (pure ()) (λ_ s2=>av (aC X.prog X.w) X.A (pure Flow.next) (SP X ag D) X.xe s2) X.xe s') hx hc S hi I (λ{s3 s6 H3 H5 fp σ5 l a} I3 f3 I6 qn=>?_) h hs;have IX:mW X ag σ H5 s6:=LP (h':=s6.heap) I3 f3 I6 ⟨rfl,λ_ _=>rfl⟩;obtain⟨m6,ns6,_⟩:=I6.loc;have ns6:s6.heap.Ns s3.heap.objs.size m6:=ns6;have frC:H5 s3.heap.objs.size=none:=I6.free;have fC:rB X ag H5 s3.heap.objs.size:=I3.fpOk (aA _) frC;refine ky (Ju IX hN hxi hxl (v:= .ref l) rfl (λs7 I7 ⟨b,sb,hb⟩=>?_) hf);have hbC:s3.heap.objs.size≠b:=by
  obtain rfl |hb:=hb
  ·exact fC.2.1
  ·exact bG (fC.2.2.2.2.1 _ _ hb)
 refine⟨m6,ns6.sameBut sb hbC,λh' sb2=>aK (aK ⟨_,H5,?_,qn⟩)⟩;refine mW.call' (s':={ s7 with heap:=h' }) (ch:=[s3.heap.objs.size]) I7 rfl ⟨λc o e n hfs hex=>?_,λc o e n hfs hex=>?_,λc o e n _=>n,λc o e hex=>?_,λ_ _ q=>q,λ_ _ _ q=>q,λ_ ps q=>⟨#[],by simpa using q⟩⟩ (λc o e=>?_) I7.bare λc hcm=>?_
 ·exact(sb2.2 c (λz=>hex (by simp [z]))).trans e
 ·exact⟨o.slots,(sb2.2 c (λz=>hex (by simp [z]))).trans e⟩
 ·exact⟨o,(sb2.2 c (λz=>hex (by simp [z]))).trans e⟩
 ·refine(I7.cq c o e).stay (λd v hd q=>(sb2.2 d ?_).trans q) (λ_ q=>q) λ_ _ q=>q;rintro rfl;obtain rfl |hd:=hd
  ·rw[frC]at e;cases e
  ·rw[frC]at hd;cases hd
 ·rw[bg.mp hcm];exact⟨fC.2.2.2.1,fC.2.1,fC.2.2.2.2.1,fC.2.2.2.2.2⟩
noncomputable def GL (x:ah):It:=⟨λi _=>i<x.cps.size,λi H v H'=>H'=H∧ ∃c,x.cps[i]? =aa c∧v= .str ⟨#[c]⟩,λi _=>i=x.cps.size⟩
def NN{P:bb}{w:aQ}{K:am}{tg:Expr}(it:ai) (x:ah) (t:Tok) (ty:String)
    (hn: ["enumerate", "zip", "dict_itemiterator", "dict_reverseitemiterator", "odict_iterator", "itertools.zip_longest", "itertools.pairwise"].contains ty=false)
    (hW:∀A':bx,A'.handled=none→Walks P w A' it [it] [it] x.cps.size (SignAt x) (λi h=>h.IsStrIter it ty x t i))
    (hself:∀(A:bx) (i:Nat) (s:aq) (Q:aj→aq→Prop) (E:aj→aq→Prop),s.heap.IsStrIter it ty x t i→Q (.ref it) s→av (aC P w) A (dP (.ref it)) Q E s) :
    su P w K tg (GL x) [it] it (λi h=>h.IsStrIter it ty x t i) where
  mem:=by simp
  obj:=λi h st b hb=>by
    have e:b=it:=by simpa using hb
    subst e;obtain⟨o,e,c,d⟩:=st;exact⟨o,e,λv z=>by rw[d]at z;cases z⟩
  keep:=λi h h' st k=>by
    obtain⟨o,e,r⟩:=st;exact⟨o,k it `s o e,r⟩
  item:=by
    intro X hP hw hK hc i ag s σ H E I hf st hg;subst hP hw hK;obtain⟨f0,f1,f2,f3,f4,f5⟩:=hf it `s;refine(hW X.A (I.ok.hd hc)).item i s _ _ hg st λv h' tk hv st' kk=>?_;obtain⟨c,u,hc',rfl⟩:=hv;have I1:mW X ag σ H { s with heap:=h',toks:=tk }:=I.turned (λb o hb e=>kk b o (by simpa using hb) e) f0 f1 f3 f4 f5;obtain⟨o,e,c',d⟩:=id st';exact⟨_,rfl,CZ (s:={ s with heap:=h',toks:=tk }) e c' d hn ⟨.str ⟨#[c]⟩,H,I1,⟨u,rfl⟩,⟨rfl,c,hc',rfl⟩,st',λb hb=>(hf b hb).1⟩⟩
  done:=by
    intro X hP hw hK hc i ag s σ H E I hf st hg;subst hP hw hK;obtain⟨f0,f1,f2,f3,f4,f5⟩:=hf it `s;have hi:i=x.cps.size:=hg;subst hi;exact(hW X.A (I.ok.hd hc)).done s _ _ st λh' tk kk=>⟨rfl,I.turned (λb o hb e=>kk b o (by simpa using hb) e) f0 f1 f3 f4 f5⟩
  self:=hself
def GK:oI X (bF .LtE) (λx y H Q=>∃i j,x= .str i∧y= .str j∧Q (.bl (!decide (j.cps.toList<i.cps.toList))) H):=by
 intro ag s σ H x y v u Q I rx ry h;obtain⟨i,j,rfl,rfl,q⟩:=h;obtain⟨t,rfl⟩:=rx;obtain⟨t',rfl⟩:=ry;exact PySem.P.le_str (Al I q rfl)
def Bx (a b:Nat):(([a]:List Nat)< [b])↔a<b:=by
 rw[List.cons_lt_cons_iff];constructor
 ·rintro(h |⟨_,h⟩)
  ·exact h
  ·exact absurd h (List.lt_irrefl _)
 ·exact .inl
def EK:V→Option Int→Option Int→Hp→VK→Prop:=λx lo hi H Q=>∃z,x= .str z∧z.length≤sizeLine∧Q (.str (c8 z lo hi)) H
def wN:uF X EK:=by
 intro ag s σ H x v vl vu lo hi sl Q I rx hs pl pu h;obtain⟨z,rfl,hz,q⟩:=h;obtain⟨t,rfl⟩:=rx;refine⟨"str",_,F.slot_str_getitem.lookup,jj _ _ _,?_⟩;obtain⟨o,ho,hc,hd⟩:=hs;have fin:∀t' k,EP X ag σ Q (.str (c8 z lo hi) t') { s with toks:=k }:=λt' k=>⟨.str _,H,I.tok _,⟨t',rfl⟩,q⟩;have le:=aX (Txt.slice_le z lo hi) hz;cases pl with
 |none=>
  cases pu with
  |none=>exact gM (l:=none) (u:=none) (st:=none) ⟨o,ho,hc,hd⟩ rfl (ii ⟨le,fin⟩)
  |int j u=>exact gM (l:=none) (u:=aa (j,u)) (st:=none) ⟨o,ho,hc,hd⟩ rfl (ii ⟨le,fin⟩)
 |int i w=>
  cases pu with
  |none=>exact gM (l:=aa (i,w)) (u:=none) (st:=none) ⟨o,ho,hc,hd⟩ rfl (ii ⟨le,fin⟩)
  |int j u=>exact gM (l:=aa (i,w)) (u:=aa (j,u)) (st:=none) ⟨o,ho,hc,hd⟩ rfl (ii ⟨le,fin⟩)
def BQ (xs:List Nat) (lo hi:Option Int):List Nat:=(xs.drop (HT.sIx xs.length 0 lo)).take (HT.sIx xs.length xs.length hi - HT.sIx xs.length 0 lo)
def IU (lo hi:Option Int) (n:Nat):gp lo hi 1 n=sliceRange ((HT.sIx n 0 lo:Nat):Int) ((HT.sIx n n hi:Nat):Int) 1:=by
 have one:(1:Int) > 0:=by decide
 have a:∀(v:Option Int) (d:Nat),(match v with |none=>(d:Int) |some i=>(if(1:Int) > 0 then max 0 (min (if i<0 then i+(n:Int) else i) (n:Int)) else max (-1) (min (if i<0 then i+(n:Int) else i) ((n:Int) - 1))))=((HT.sIx n d v:Nat):Int):=by
  intro v d;cases v with
  |none=>rfl
  |some i=>
   simp only[HT.sIx,one,if_true];by_cases h:i<0
   ·simp only[h,if_true];lia
   ·simp only[h,if_false];lia
 have l:=a lo 0;have u:=a hi n;unfold gp;simp only[one,if_true]at l u⊢
 first
  |rw[l,u]
  | (cases lo<;>cases hi<;>simp_all)
def P9 (z:ah) (lo hi:Option Int):(c8 z lo hi).cps.toList=BQ z.cps.toList lo hi:=by
 have hn:z.length=z.cps.toList.length:=by simp [iV]
 have hp:(gp lo hi 1 z.length).filterMap (z.cps[·]?)=BQ z.cps.toList lo hi:=by
  rw[IU,jK,iD,hn];rfl
 unfold c8;split
 ·rename_i h;have h1:(gp lo hi 1 z.length).length=z.length:=by simpa using h
  rw[IU,jK,ay,mo]at h1;have le1:=HT.sIx_le z.length z.length (aA _) hi;unfold BQ;rw[←hn];have e0:HT.sIx z.length 0 lo=0∨z.length=0:=by lia
  have hz:z.cps.toList.length=z.length:=hn.symm;obtain e0 |e0:=e0
  ·rw[e0,dO,dW `l]
  ·have:z.cps.toList=[]:=km `l;rw[this];simp
 ·show(List.filterMap _ _).toArray.toList=_;rw[hp]
def V3 (hc:X.calm=true):og X (.builtin "all") (λxs H Q=>∃(p:ai) (bs:List Bool),xs=[.ref p]∧o9 X.K H p (bs.map V.bl)∧Q (.bl (bs.all id)) H):=by
 intro ag s σ H xs us Q I r h;obtain⟨p,bs,rfl,hq,q⟩:=h;obtain⟨u,rfl,rx⟩:=uz r;cases rx;obtain⟨dR,r',pl,hz⟩:=I.list hq;have hlen:bs.length=dR.length:=by have:=r'.length;rw[ay]at this;exact this
 have hp:p<s.heap.objs.size:=by obtain⟨o,n,e,_⟩:=pl;exact aR e
 have hd:X.A.in1.handled=none:=I.ok.hd hc;have get:∀(i:Nat) (v:aj),dR.toArray[i]? =aa v→v= .bool (bs.getD i false):=λi v e=>by
  have e':dR[i]? =aa v:=by simpa using e
  have hi:i<bs.length:=by rw[hlen];exact(cj.mp e').1
  obtain⟨u,hu,ru⟩:=r'.get (i:=i) (x:= .bl (bs.getD i false)) (by rw[aV,aP hi,bw,aP hi];rfl);rw[e']at hu;cases hu;exact ru
 refine call_all_walk (fA pl.isList ?_);refine⟨s.heap.objs.size,_,_,_,_,_,λi=>bs.getD i false,rfl,jE hd _ p (bR hp) dR.toArray,⟨⟨_,bO _ rfl,rfl,rfl⟩,pl.isList.push _⟩,λi v s' Q' E' hP hQ=>?_,λh' tk hk=>?_⟩
 ·rw[get i v hP];exact eC hQ
 ·have e:(bD dR.toArray.size).all (λi=>bs.getD i false)=bs.all id:=by
   rw[bj,←hlen];have:bs=(bD bs.length).map λi=>bs.getD i false:=by
    apply kj;intro i;rw[aV];by_cases hi:i<bs.length
    ·rw[gc hi,aP hi];show aa bs[i]=aa (bs.getD i false);rw[bw,aP hi];rfl
    ·rw[jb `l,jb (by simpa using hi)];rfl
   conv=>rhs;rw[this]
   rw[fD];rfl
  have I1:mW X ag σ H { s with heap:=h',toks:=tk }:=I.kept λb o e=>hk b o (λz=>by
   have z':b=s.heap.objs.size:=by simpa using z
   rw[z']at e;exact absurd (aR e) (cK _)) (aS _ e)
  exact⟨.bl _,H,I1,by rw[e];exact rfl,q⟩
def XE:og X (.builtin "isinstance") (λxs H Q=>∃x t c b,xs=[x, .ty c]∧pU X.K H x t∧fU X.K t (.type c)=aa b∧Q (.bl b) H):=by
 intro ag s σ H xs us Q I r h;obtain⟨x,t,c,b,rfl,ty,e,q⟩:=h;obtain⟨u,v,rfl,rx,ry⟩:=Gk r;cases(show v=j7 c from ry);exact TN I rx ty e λtk=>⟨.bl b,H,I.tok _,rfl,q⟩
def Yr (l:ai) (items:Array aj) (n:Nat) (b:ai) (items2:Array aj) (n2:Nat) (dd:Option ai) (sl:Array (Option aj)) (hs0:¬(!items.isEmpty&&fH (items.size+items2.size))=true) (hs1:items.size≤sizeLine) (hs2:items.size+items2.size≤sizeLine+1) :
  Meets (cr.«list.extend» ⟨[.ref l, .ref b],[]⟩) (λ_ R s=>s.heap.get? l=aa { cls:= .type "list",dict:=none,data:= .seq items n,slots:= #[] }∧s.heap.get? b=aa { cls:= .type "tuple",dict:=dd,data:= .seq items2 n2,slots:=sl }∧R (.ok (.ret cR)) { s with heap:=s.heap.update l (jF λx=>x++items2),toks:=s.toks }):=
 .of_wp λprog w A R s h=>by
  obtain⟨hp,g,d,tk,os⟩:=s;obtain⟨hl,hb,h⟩:=h;have f1:=AutoSeq1.idx_int;have f2:=AutoSeq1.sub_tuple_tuple;have f3:=AutoSeq1.sub_list_list;have f4:=AutoSeq1.sub_tuple_list;have f5:=AutoSeq1.sub_list_tuple;have hz':(items++items2).size≤sizeLine+1:=by rw[Array.size_append];exact hs2
  wp_walk using(wpAny_updateSeq hl rfl (hz:=hs1) (_hz':=hz')),kK hl,kK hb;exact⟨_,rfl,h⟩
def LX (K:am):V→List V→Hp→VK→Prop:=λx vs H Q=>∃l b xs zs,x= .ref l∧vs=[.ref b]∧H l=aa (.bJ xs)∧pQ K H b zs∧xs.length+zs.length≤sizeLine∧Q .b_ (oa H l (.bJ (xs++zs)))
def SK:BT X "list.extend" (LX X.K):=by
 intro ag s σ H x vs v us Q I rx rv h;obtain⟨l,b,xs,zs,rfl,rfl,hH,hB,hz,q⟩:=h;cases rx;obtain⟨u,rfl,ru⟩:=rv.one;cases ru;obtain⟨z,dR,n,r,hl,e⟩:=I.lstM hH;obtain⟨its2,r2,ht,hz2⟩:=I.tuple hB;obtain⟨⟨cls,dd,data,sl⟩,e2,hc,n2,hd⟩:=ht;simp only at hc hd;subst hc hd;have hl2:=r2.length;have hsz:dR.toArray.size+its2.toArray.size≤sizeLine:=by rw[bj,bj];lia
 have hlong:¬(!dR.toArray.isEmpty&&fH (dR.toArray.size+its2.toArray.size))=true:=by
  rw[F9 hsz,gN];exact c_
 refine fI mr ⟨_,e,rfl⟩ lY (kF _ _)
  (Yr l dR.toArray n b its2.toArray n2 dd sl hlong (by rw[bj];lia) `l) ⟨e,e2,?_⟩
 refine⟨.b_,_,I.lset (its':=dR++its2) hH e `s (r.append r2) ?_,rfl,q⟩;rw[aW];lia
def HP (K:am):V→List V→Hp→VK→Prop:=λx vs H Q=>∃(z:ah) (b:ai) (ys:List ah),x= .str z∧vs=[.ref b]∧o9 K H b (ys.map V.str)∧(ys.map (·.length)).sum+ys.length*z.length≤16777216∧Q (.str (dt z ys)) H
def To:∀{us:List aj},ni (ys.map V.str) us→StrsAre us ys:=by
 induction ys with
 |nil=>
  intro us r;cases r;exact .nil
 |cons y ys ih=>
  intro us r;cases r with
  |cons a b=>
   obtain⟨t,rfl⟩:=a;exact .cons y t (ih b)
def YX:BT X "str.join" (HP X.K):=by
 intro ag s σ H x vs v us Q I rx rv h;obtain⟨z,b,ys,rfl,rfl,hB,hz,q⟩:=h;obtain⟨t,rfl⟩:=rx;obtain⟨u,rfl,ru⟩:=rv.one;cases ru;obtain⟨dR,r,pl,_⟩:=I.list hB;refine join_list pl.isList (by simpa using To r) hz λt' k=>⟨.str (dt z ys),H,I.tok _,⟨t',?_⟩,q⟩;show fT (cr.Str.glued z ys) t'=_;rw[StrLaws.glued_eq_join]
inductive W where
  |b_ |bl (b:Bool) |int (i:Int) |str (x:ah) |bT (ws:List W) |ref (a:ai) |cM (ns:List Int)
inductive Ob where
  |bJ (ws:List W)
  |dct (d6:List (List Int×W))
  |dk (d6:List (Key×W))
  |ins (cl:ah) (fs:List (ah×W))
abbrev kB:=ai→Option Ob
noncomputable def bQ (S:kB) (a:ai) (o:Ob):kB:=λb=>if b=a then aa o else S b
def xy (K:am) (H:Hp) (a:ai) (xs:List V):Prop:=
 (∃o,H a=aa (.frz o (.bJ xs)))∨
  ∃(o:aJ) (dR:Array aj) (n:Nat),K.lookup a=aa o∧o.cls= .type "list" ∧o.dict=none∧o.data= .seq dR n∧dR.size≤sizeLine∧ni xs dR.toList
mutual
inductive n9 (K:am) (H:Hp):W→V→Prop
 |b_:n9 K H .b_ .b_
 |bl (b:Bool):n9 K H (.bl b) (.bl b)
 |int (i:Int):n9 K H (.int i) (.int i)
 |str (x:ah):n9 K H (.str x) (.str x)
 |ref (a:ai):n9 K H (.ref a) (.ref a)
 |cM {a:ai}{ns:List Int}:xy K H a (ns.map V.int)→n9 K H (.cM ns) (.ref a)
 |bT {a:ai}{vs:List V}{ws:List W}:H a=aa (.bT vs)→mY K H ws vs→n9 K H (.bT ws) (.ref a)
inductive mY (K:am) (H:Hp):List W→List V→Prop
 |nil:mY K H [] []
 |cons {w:W}{v:V}{ws:List W}{vs:List V}:n9 K H w v→mY K H ws vs→mY K H (w::ws) (v::vs)
end
structure oh (H:Hp) (S:kB) (H':Hp) (S':kB):Prop where
  bT:∀b xs,H b=aa (.bT xs)→H' b=aa (.bT xs)
  frz:∀b o u,H b=aa (.frz o u)→H' b=aa (.frz o u)
  fr:∀b xs,H b=aa (.bJ xs)→S b=none→H' b=aa (.bJ xs)∧S' b=none
  all:∀b o,H b=aa o→ ∃o',H' b=aa o'
def Sub (S S':kB):Prop:=∀a o,S a=aa o→S' a=aa o
section
variable {K:am}{H H' H1 H2:Hp}{S S' S1 S2:kB}
def nv:bQ S a o a=aa o:=by unfold bQ;rw[if_pos rfl]
def oz (h:b≠a):bQ S a o b=S b:=by unfold bQ;rw[if_neg h]
def qr:bQ (bQ S a o) a o'=bQ S a o':=by funext b;unfold bQ;split<;>rfl
def oh.refl:oh H S H S:=⟨λ_ _ h=>h,λ_ _ _ h=>h,λ_ _ h g=>⟨h,g⟩,λ_ o h=>⟨o,h⟩⟩
def oh.trans (a:oh H S H1 S1) (b:oh H1 S1 H2 S2):oh H S H2 S2:=⟨λc xs h=>b.bT c xs (a.bT c xs h),λc o u h=>b.frz c o u (a.frz c o u h),
 λc o h g=>by
  obtain⟨h1,g1⟩:=a.fr c o h g;exact b.fr c o h1 g1,λc o h=>by
  obtain⟨o1,h1⟩:=a.all c o h;exact b.all c o1 h1⟩
def oh.new (h:H p=none):oh H S (oa H p o) S:=
  ⟨λb xs e=>by rw[oG (qq e h)];exact e,λb ob u e=>by rw[oG (qq e h)];exact e,
   λb ob e g=>⟨by rw[oG (qq e h)];exact e,g⟩,λb ob e=>⟨ob,by rw[oG (qq e h)];exact e⟩⟩
def oh.newS (h:H p=none):oh H S (oa H p o) (bQ S p ob):=
  ⟨λb xs e=>by rw[oG (qq e h)];exact e,λb ob u e=>by rw[oG (qq e h)];exact e,
   λb ob e g=>⟨by rw[oG (qq e h)];exact e,by rw[oz (qq e h)];exact g⟩,λb ob e=>⟨ob,by rw[oG (qq e h)];exact e⟩⟩
def oh.mut (h:H p=aa u) (hs:S p=aa ob0) (ht:∀xs,u≠ .bT xs) (hf:∀ob q,u≠ .frz ob q):oh H S (oa H p o) (bQ S p ob):=
  ⟨λb xs e=>by rw[oG (BD e h λz=>ht xs z.symm)];exact e,λb ob q e=>by rw[oG (BD e h λz=>hf ob q z.symm)];exact e,
   λb ob e g=>by
     have hb:b≠p:=by rintro rfl;rw[hs]at g;cases g
     exact⟨by rw[oG hb];exact e,by rw[oz hb];exact g⟩,λb ob e=>by
     by_cases hb:b=p
     · subst hb;exact⟨o,qb⟩
     · exact⟨ob,by rw[oG hb];exact e⟩⟩
def oh.bJ (h:H p=aa (.bJ xs)) (hs:S p=aa ob0):oh H S (oa H p o) (bQ S p ob):= .mut h hs (λ_ z=>nomatch z) λ_ _ z=>nomatch z
def oh.drop (h:Sub S' S):oh H S H S':=⟨λ_ _ h=>h,λ_ _ _ h=>h,λb o e g=>⟨e,by
 cases q:S' b with
 |none=>rfl
 |some z=>rw[h b z q]at g;cases g⟩,λ_ o h=>⟨o,h⟩⟩
def oh.free (e:oh H S H' S') (h:H' p=none):H p=none:=by
 cases q:H p with
 |none=>rfl
 |some o=>obtain⟨o',z⟩:=e.all p o q;rw[h]at z;cases z
def oh.fz (e:oh H S H' S') (h:xy K H a xs):xy K H' a xs:=by
 obtain ⟨o,h⟩ |h:=h
 ·exact .inl ⟨o,e.frz _ _ _ h⟩
 ·exact .inr h
def xy.sq (h:xy K H a xs):o9 K H a xs:=by
 obtain ⟨o,h⟩ |h:=h
 ·exact .inl (.inr ⟨o,h⟩)
 ·exact .inr h
def n9.ext (e:oh H S H' S') (h:n9 K H w v):n9 K H' w v:= @n9.rec K H (λw v _=>n9 K H' w v) (λws vs _=>mY K H' ws vs) .b_ .bl .int .str .ref (λh=> .cM (e.fz h)) (λh _ g=> .bT (e.bT _ _ h) g) .nil (λ_ _ a b=> .cons a b) _ _ h
def mY.ext (e:oh H S H' S') (h:mY K H ws vs):mY K H' ws vs:= @mY.rec K H (λw v _=>n9 K H' w v) (λws vs _=>mY K H' ws vs) .b_ .bl .int .str .ref (λh=> .cM (e.fz h)) (λh _ g=> .bT (e.bT _ _ h) g) .nil (λ_ _ a b=> .cons a b) _ _ h
def mY.length:∀{ws:List W}{vs:List V},mY K H ws vs→ws.length=vs.length:=λ{ws vs} h=>by
 induction ws generalizing vs with
 |nil=>cases h;rfl
 |cons w ws ih=>
  cases h with
  |cons _ hs=>exact congrArg (· +1) (ih hs)
theorem mY.get:∀{ws:List W}{vs:List V}{i:Nat}{w:W},mY K H ws vs→ws[i]? =aa w→ ∃v,vs[i]? =aa v∧n9 K H w v
 |_,_,_,_, .nil,e=>by simp at e
 |_,_,0,_, .cons h _,e=>by simp at e;subst e;exact⟨_,rfl,h⟩
 |_,_,i+1,w, .cons _ hs,e=>by
  obtain⟨v,h1,h2⟩:=mY.get (i:=i) (w:=w) hs (by simpa using e);exact⟨v,by simpa using h1,h2⟩
def mY.append:∀{ws us:List W}{vs xs:List V},mY K H ws vs→mY K H us xs→mY K H (ws++us) (vs++xs):=λ{ws us vs xs} h g=>by
 induction ws generalizing vs with
 |nil=>cases h;exact g
 |cons w ws ih=>
  cases h with
  |cons r t=>exact .cons r (ih t)
theorem mY.take:∀{ws:List W}{vs:List V}(n:Nat),mY K H ws vs→mY K H (ws.take n) (vs.take n)
 |_,_,0,_=> .nil
 |_,_,_+1, .nil=> .nil
 |_,_,n+1, .cons r t=> .cons r (mY.take n t)
theorem mY.drop:∀{ws:List W}{vs:List V}(n:Nat),mY K H ws vs→mY K H (ws.drop n) (vs.drop n)
 |_,_,0,r=>r
 |_,_,_+1, .nil=> .nil
 |_,_,n+1, .cons _ t=>mY.drop n t
def mY.one (h:n9 K H w v):mY K H [w] [v]:= .cons h .nil
theorem mY.ofInts:∀(ns:List Int),mY K H (ns.map W.int) (ns.map V.int)
 | []=> .nil
 |n::ns=> .cons (.int n) (mY.ofInts ns)
end
def sS (K:am) (H:Hp) (a:ai):Ob→Prop
 | .bJ ws=>∃vs,H a=aa (.bJ vs)∧mY K H ws vs
 | .dct d6=>∃ps:List (List Key×V),H a=aa (.dT ps)∧a_ (λq p=>p.1=q.1.map Sum.inl∧n9 K H q.2 p.2) d6 ps
 | .dk d6=>∃ps:List (Key×V),H a=aa (.dK ps)∧a_ (λq p=>p.1=q.1∧n9 K H q.2 p.2) d6 ps
 | .ins cl fs=>∃(C dx:ai) (ps:List (ah×V)),bz K aY cl=aa (aa (.ref C))∧H a=aa (.ins C dx ps)∧a_ (λq p=>p.1=q.1∧n9 K H q.2 p.2) fs ps
def m5 (K:am) (H:Hp) (S:kB):Prop:=∀a o,S a=aa o→sS K H a o
section
variable {K:am}{H H':Hp}{S S' S0 S0':kB}{a b p:ai}{o:Ob}
def Sub.refl:Sub S S:=λ_ _ h=>h
def Sub.trans (h:Sub S1 S2) (g:Sub S2 S3):Sub S1 S3:=λa o e=>g a o (h a o e)
def Sub.new (h:S a=none):Sub S (bQ S a o):=λb u e=>by rw[oz (by rintro rfl;rw[h]at e;cases e)];exact e
def m5.sub (h:m5 K H S') (q:Sub S S'):m5 K H S:=λa o e=>h a o (q a o e)
def sS.some (h:sS K H a o):∃u,H a=aa u:=by
 cases o with
 |bJ ws=>obtain⟨vs,e,_⟩:=h;exact⟨_,e⟩
 |dct d6=>obtain⟨vs,e,_⟩:=h;exact⟨_,e⟩
 |dk d6=>obtain⟨vs,e,_⟩:=h;exact⟨_,e⟩
 |ins C fs=>obtain⟨_,_,vs,_,e,_⟩:=h;exact⟨_,e⟩
def m5.free (h:m5 K H S) (e:H p=none):S p=none:=by
 cases q:S p with
 |none=>rfl
 |some o=>obtain⟨u,z⟩:=(h p o q).some;rw[e]at z;cases z
def sS.keep (e:oh H S0 H' S0') (k:∀u,H a=lC u→H' a=lC u) (h:sS K H a o):sS K H' a o:=by
 cases o with
 |bJ ws=>obtain⟨vs,e1,r⟩:=h;exact⟨vs,k _ e1,r.ext e⟩
 |dct d6=>obtain⟨vs,e1,r⟩:=h;exact⟨vs,k _ e1,Paired.mapP r λ_ _ z=>⟨z.1,z.2.ext e⟩⟩
 |dk d6=>obtain⟨vs,e1,r⟩:=h;exact⟨vs,k _ e1,Paired.mapP r λ_ _ z=>⟨z.1,z.2.ext e⟩⟩
 |ins C fs=>obtain⟨C,dx,vs,e0,e1,r⟩:=h;exact⟨C,dx,vs,e0,k _ e1,Paired.mapP r λ_ _ z=>⟨z.1,z.2.ext e⟩⟩
def m5.new (h:m5 K H S) (e:H p=none):m5 K (oa H p u) S:=λa o q=>
 (h a o q).keep (.new (S:=S) e) λv z=>by rw[oG (qq z e)];exact z
def m5.put_lst (h:m5 K H S) (e:H p=none) (r:mY K (oa H p (.bJ vs)) ws vs):m5 K (oa H p (.bJ vs)) (bQ S p (.bJ ws)):=λa o q=>by
 by_cases ha:a=p
 ·subst ha;rw[nv]at q;cases q;exact⟨vs,qb,r⟩
 ·rw[oz ha]at q;exact h.new e a o q
def m5.set_lst (h:m5 K H S) (e:S a=aa (.bJ ws0)) (r:mY K H ws vs):oh H S (oa H a (.bJ vs)) (bQ S a (.bJ ws))∧m5 K (oa H a (.bJ vs)) (bQ S a (.bJ ws)):=by
 obtain⟨vs0,e0,_⟩:=h a _ e;have x:oh H S (oa H a (.bJ vs)) (bQ S a (.bJ ws)):= .bJ e0 e;refine⟨x,λb o q=>?_⟩;by_cases hb:b=a
 ·subst hb;rw[nv]at q;cases q;exact⟨vs,qb,r.ext x⟩
 ·rw[oz hb]at q;exact(h b o q).keep x λu z=>by rw[oG hb];exact z
end
abbrev nj:=List (Option W)
abbrev WK:=W→kB→Prop
abbrev WX:=ah→nj→kB→Prop
abbrev WE:=WX→nj→kB→WK→Prop
abbrev WT:=WX→nj→kB→(Bool→kB→Prop)→Prop
abbrev WA:=WX→nj→kB→(List W→kB→Prop)→Prop
structure nC where
  nx:nj→kB→Prop
  rt:WK
  bk:nj→kB→Prop:=λ_ _=>False
  ct:nj→kB→Prop:=λ_ _=>False
abbrev WS:=WX→nC→nj→kB→Prop
abbrev WG:=W→nj→kB→(nj→kB→Prop)→Prop
abbrev m8:=List W→kB→WK→(ah→kB→Prop)→Prop
abbrev WI:=WX→nj→kB→(List W→(kB→Prop)→kB→Prop)→Prop
abbrev WL:=WX→nj→kB→(List W→kB→Prop)→Prop
def xK (K:am) (H:Hp):Option W→Option V→Prop
 |none,_=>True
 |some w,aa v=>n9 K H w v
 |some _,none=>False
def nS (K:am) (H:Hp) (σW:nj) (σ:St):Prop:=a_ (xK K H) σW σ
section
variable {K:am}{H H':Hp}{S S':kB}
theorem xK.ext (e:oh H S H' S'):∀{w:Option W}{v:Option V},xK K H w v→xK K H' w v
 |none,_,_=>trivial
 |some _,aa _,h=>n9.ext e h
 |some _,none,h=>h.elim
def nS.ext (e:oh H S H' S') (h:nS K H σW σ):nS K H' σW σ:=Paired.mapP h λ_ _ r=>xK.ext e r
theorem nS.get:∀{σW:nj}{σ:St}{i:Nat}{w:W},nS K H σW σ→σW[i]? =aa (aa w)→ ∃v,σ[i]? =aa (aa v)∧n9 K H w v
 |_,_,_,_, .nil,e=>by simp at e
 |_,_,0,_, .cons (b:=b) h _,e=>by
  simp at e;subst e;cases b with
  |none=>exact(show False from h).elim
  |some v=>exact⟨v,rfl,h⟩
 |_,_,i+1,w, .cons _ hs,e=>by
  obtain⟨v,h1,h2⟩:=nS.get (i:=i) (w:=w) hs (by simpa using e);exact⟨v,by simpa using h1,h2⟩
theorem nS.set (h:n9 K H w v):∀{σW:nj}{σ:St}(i:Nat),nS K H σW σ→nS K H (σW.set i (aa w)) (σ.set i (aa v))
 |_,_,_, .nil=> .nil
 |_,_,0, .cons _ t=> .cons h t
 |_,_,i+1, .cons q t=> .cons q (nS.set h i t)
end
def pJ (K:am) (H:Hp) (S:kB) (QW:WK) (Q:VK):Prop:=∀w S' v H',oh H S H' S'→n9 K H' w v→m5 K H' S'→QW w S'→Q v H'
def BK (K:am) (t:nj→kB→WK→Prop):TE:=λσ H Q=>∃σW S QW,nS K H σW σ∧m5 K H S∧t σW S QW∧pJ K H S QW Q
def FS (K:am) (t:nj→kB→(Bool→kB→Prop)→Prop):TT:=λσ H Q=>∃σW S QW,nS K H σW σ∧m5 K H S∧t σW S QW∧ ∀b S' H',oh H S H' S'→m5 K H' S'→QW b S'→Q b H'
def Wj (K:am) (t:nj→kB→(List W→kB→Prop)→Prop):TA:=λσ H Q=>∃σW S QW,nS K H σW σ∧m5 K H S∧t σW S QW∧ ∀ws S' vs H',oh H S H' S'→mY K H' ws vs→m5 K H' S'→QW ws S'→Q vs H'
def qN (K:am) (H:Hp) (S:kB) (P:nj→kB→Prop) (Q:St→Hp→Prop):Prop:=∀σW S' σ H',oh H S H' S'→nS K H' σW σ→m5 K H' S'→P σW S'→Q σ H'
structure Meets (K:am) (H:Hp) (S:kB) (DW:nC) (D:sK):Prop where
  nx:qN K H S DW.nx D.nx
  rt:pJ K H S DW.rt D.rt
  bk:qN K H S DW.bk D.bk
  ct:qN K H S DW.ct D.ct
def M4 (K:am) (t:nC→nj→kB→Prop):TS:=λD σ H=>∃σW S DW,nS K H σW σ∧m5 K H S∧t DW σW S∧Meets K H S DW D
def zFQ (K:am) (t:WG):TG:=λv σ H Q=>∃w σW S P,n9 K H w v∧nS K H σW σ∧m5 K H S∧t w σW S P∧qN K H S P Q
def xj (K:am) (J:It) (ws:List W) (G:kB→Prop) (H0:Hp) (S0:kB):Prop:=∀i S H,oh H0 S0 H S→m5 K H S→G S→
 (∀w,ws[i]? =aa w→J.go i H∧ ∀x H',J.yld i H x H'→oh H S H' S∧m5 K H' S∧n9 K H' w x)∧(i=ws.length→J.stop i H)
def Pc (K:am) (t:nj→kB→(List W→(kB→Prop)→kB→Prop)→Prop):TI:=λσ H R=>∃σW S QW,nS K H σW σ∧m5 K H S∧t σW S QW∧
 ∀ws G S' J H',oh H S H' S'→m5 K H' S'→G S'→xj K J ws G H' S'→QW ws G S'→R J H'
def ID (K:am) (t:nj→kB→(List W→kB→Prop)→Prop):TE:=λσ H Q=>∃σW S QW,nS K H σW σ∧m5 K H S∧t σW S QW∧
 ∀ws S' vs a H',oh H S H' S'→H a=none→H' a=aa (.bJ vs)→S' a=none→mY K H' ws vs→m5 K H' S'→QW ws S'→Q (.ref a) H'
def sx (K:am) (sp:m8):Sp:=λvs H Q E=>∃ws S QW EW,mY K H ws vs∧m5 K H S∧sp ws S QW EW∧pJ K H S QW Q∧
 ∀cl C S' H',bz K aY cl=aa (aa (.ref C))→m5 K H' S'→EW cl S'→E (.ref C) none H'
def Cb (g h:aF) (H:Hp) (a C:ai):Prop:=g.get? a=none∧H a=none∧ ∃oe vs T oT ts,h.get? a=aa oe∧oe.cls= .ref C∧oe.data= .fields vs∧vs[1]? =aa (.ref T)∧
 g.get? T=none∧H T=none∧T≠a∧h.get? T=aa oT∧oT.data= .fields ts∧ts[3]? =aa .none
def sC (P:bb) (w:aQ):yj:=λouter H s E e s'=>∃a C H',e= .ref a∧s'.os=s.os∧cF s'.gens∧Un (frs outer) [] H H' s.heap s'.heap∧oR P w H' s'.heap∧Cb s.heap s'.heap H' a C∧E (.ref C) none H'
structure pI (X:Cx) (E:WX):Prop where
  own:fO (aC X.prog X.w) X.A X.env X.xe
  far:∀(ag:List (ai×aJ)) (σ:St) (H:Hp) (s:aq) (σW:nj) (cl:ah) (C a:ai) (H':Hp) (S':kB) (s':aq),mW X ag σ H s→nS X.K H σW σ→bz X.K aY cl=aa (aa (.ref C))→
    s'.os=s.os→cF s'.gens→Un (frs X.stack) [] H H' s.heap s'.heap→oR X.prog X.w H' s'.heap→Cb s.heap s'.heap H' a C→m5 X.K H' S'→E cl σW S'→X.xe (.ref a) s'
  near:∀(ag:List (ai×aJ)) (σ:St) (H:Hp) (s:aq) (σW:nj) (cl:ah) (C a:ai) (S:kB) (h':aF) (args:List aj),mW X ag σ H s→nS X.K H σW σ→bz X.K aY cl=aa (aa (.ref C))→
    aF.MadeExcOf s.heap h' a (.ref C) args→m5 X.K H S→E cl σW S→X.xe (.ref a) { s with heap:=h' }
def JE (X:Cx) (e:Expr) (t:WE):Prop:=∀E,pI X E→PE X e (BK X.K (t E))
def JT (X:Cx) (e:Expr) (t:WT):Prop:=∀E,pI X E→PT X e (FS X.K (t E))
def JW (X:Cx) (e:Expr) (t:WT):Prop:=∀E,pI X E→PW X e (FS X.K (t E))
def JA (X:Cx) (es:List Expr) (t:WA):Prop:=∀E,pI X E→PA X es (Wj X.K (t E))
def JS (X:Cx) (st:bi) (t:WS):Prop:=∀E,pI X E→PS X st (M4 X.K (t E))
def t4 (X:Cx) (st:List bi) (t:WS):Prop:=∀E,pI X E→rG X st (M4 X.K (t E))
def JG (X:Cx) (tg:Expr) (t:WG):Prop:=∀E,pI X E→PG X tg (zFQ X.K t)
def JI (X:Cx) (tg iter:Expr) (t:WI):Prop:=∀E,pI X E→PI X tg iter (Pc X.K (t E))
def JL (X:Cx) (e:Expr) (t:WL):Prop:=∀E,pI X E→PE X e (ID X.K (t E))
def PE.mono (h:PE X e t) (q:∀σ H Q,t' σ H Q→t σ H Q):PE X e t':=λag s σ H Q I z=>h ag s σ H Q I (q σ H Q z)
def PT.mono (h:PT X e t) (q:∀σ H Q,t' σ H Q→t σ H Q):PT X e t':=λag s σ H Q I z=>h ag s σ H Q I (q σ H Q z)
def PW.mono (h:PW X e t) (q:∀σ H Q,t' σ H Q→t σ H Q):PW X e t':=λwh ag s σ H Q I z=>h wh ag s σ H Q I (q σ H Q z)
def PA.mono (h:PA X e t) (q:∀σ H Q,t' σ H Q→t σ H Q):PA X e t':=λpos ag s σ H Q I z=>h pos ag s σ H Q I (q σ H Q z)
def PS.mono (h:PS X e t) (q:∀D σ H,t' D σ H→t D σ H):PS X e t':=λag s σ H D I z=>h ag s σ H D I (q D σ H z)
def rG.mono (h:rG X e t) (q:∀D σ H,t' D σ H→t D σ H):rG X e t':=λag s σ H D I z=>h ag s σ H D I (q D σ H z)
def PG.mono (h:PG X e t) (q:∀v σ H Q,t' v σ H Q→t v σ H Q):PG X e t':=λag s σ H v u Q I r z=>h ag s σ H v u Q I r (q v σ H Q z)
def PI.mono (h:PI X tg e t) (q:∀σ H R,t' σ H R→t σ H R):PI X tg e t':=λag s σ H R I z=>h ag s σ H R I (q σ H R z)
def iu (i:Nat) (_:WX) (σ:nj) (S:kB) (Q:WK):Prop:=match σ[i]? with
 |some (aa w)=>Q w S
 |_=>False
def wC (w:W) (_:WX) (_:nj) (S:kB) (Q:WK):Prop:=Q w S
section
variable {X:Cx}
def jv (i:Nat) (hN:X.N[i]? =aa x) (hv:wD X.env.scope x:=by first |exact gP rfl |exact fB (gP rfl) |exact fB (fB rfl)) (hd:(x == ("__debug__" :ah))=false:=by decide)
  (hcd:(x == ("__classdict__" :ah))=false:=by decide):JE X (.Name x pos) (iu i):=λE hE=>(MH hN hv hd hcd).mono λσ H Q zz=>on zz λσW S QW hσ hS ht hQ=>by
 unfold iu at ht;split at ht
 ·rename_i w e;obtain⟨v,e',r⟩:=hσ.get e;exact⟨v,e',hQ w S v H .refl r hS ht⟩
 ·exact ht.elim
def xM (h:PE X e (tC v)) (r:∀K H,n9 K H w v):JE X e (wC w):=λE hE=>h.mono λσ H Q zz=>on zz λσW S QW hσ hS ht hQ=>hQ w S v H .refl (r _ _) hS ht
def Ur{i j pos}:JE X (.Constant (.int i) j pos) (wC (.int i)):=xM XU λ_ _=> .int i
def R8{b j pos}:JE X (.Constant (.bool b) j pos) (wC (.bl b)):=xM WB λ_ _=> .bl b
def Ve{j pos}:JE X (.Constant .none j pos) (wC .b_):=xM ZP λ_ _=> .b_
def WU{x j pos}:JE X (.Constant (.str x) j pos) (wC (.str x)):=xM Z9 λ_ _=> .str x
def TF (hg:Gl X x) (hm:X.mg x=aa (.int i u)) (hd:(x == ("__debug__" :ah))=false):JE X (.Name x pos) (wC (.int i)):=xM (v:= .int i) (HX hg hm ⟨u,rfl⟩ hd) λ_ _=> .int i
def Ud (hg:Gl X x) (hm:X.mg x=aa (.str i u)) (hd:(x == ("__debug__" :ah))=false):JE X (.Name x pos) (wC (.str i)):=xM (v:= .str i) (HX hg hm ⟨u,rfl⟩ hd) λ_ _=> .str i
end
abbrev W2:=W→W→kB→WK→Prop
def kD (r:W2) (a b:WE) (E:WX) (σ:nj) (S:kB) (Q:WK):Prop:=a E σ S λx S1=>b E σ S1 λy S2=>r x y S2 Q
def rP (K:am) (r:R2) (wr:W2):Prop:=∀H x y wx wy S (Q:VK) (QW:WK),n9 K H wx x→n9 K H wy y→m5 K H S→wr wx wy S QW→pJ K H S QW Q→r x y H Q
def pJ.from{K:am}{H H':Hp}{S S':kB}{QW:WK}{Q:VK}(h:pJ K H S QW Q) (e:oh H S H' S'):pJ K H' S' QW Q:=λw S v H'' e' r hS q=>h w S v H'' (e.trans e') r hS q
def qN.from{K:am}{H H':Hp}{S S':kB}{P:nj→kB→Prop}{Q:St→Hp→Prop}(h:qN K H S P Q) (e:oh H S H' S'):qN K H' S' P Q:=λσW S σ H'' e' r hS q=>h σW S σ H'' (e.trans e') r hS q
def Meets.from{K:am}{H H':Hp}{S S':kB}{DW:nC}{D:sK}(h:Meets K H S DW D) (e:oh H S H' S'):Meets K H' S' DW D:=⟨h.nx.from e,h.rt.from e,h.bk.from e,h.ct.from e⟩
section
variable {X:Cx}{a b:Expr}{pos:bv}
def Bi{K:am}{ta tb:nj→kB→WK→Prop}{wr:W→W→kB→WK→Prop}{σ:St}{H:Hp}{Q:VK}{R:V→V→Hp→Prop}
  (h:BK K (λσ S Q=>ta σ S λx S1=>tb σ S1 λy S2=>wr x y S2 Q) σ H Q)
  (hR:∀H2 x y wx wy S (QW:WK),n9 K H2 wx x→n9 K H2 wy y→m5 K H2 S→wr wx wy S QW→pJ K H2 S QW Q→R x y H2) :
  BK K ta σ H λx H1=>BK K tb σ H1 λy H2=>R x y H2:=by
 obtain⟨σW,S,QW,hσ,hS,ht,hQ⟩:=h;refine⟨σW,S,_,hσ,hS,ht,λw1 S1 v1 H1 e1 r1 gV h1=>?_⟩;refine⟨σW,S1,_,hσ.ext e1,gV,h1,λw2 S2 v2 H2 e2 r2 hS2 h2=>?_⟩;exact hR H2 v1 v2 w1 w2 S2 QW (r1.ext e2) r2 hS2 h2 (hQ.from (e1.trans e2))
def yp (ho:oI X (ce op) r) (hw:rP X.K r wr) (ha:JE X a ta) (hb:JE X b tb):JE X (.BinOp a op b pos) (kD wr ta tb):=λE hE=>
 (AG ho (ha E hE) (hb E hE)).mono λσ H Q h=>Bi h λH2 x y wx wy S QW rx ry hS q hQ=>hw H2 x y wx wy S Q QW rx ry hS q hQ
def R7 (ho:oI X (bF op) r) (hw:rP X.K r wr) (ha:JE X a ta) (hb:JE X b tb) (hm:fS op b=false):JE X (.Compare a [op] [b] pos) (kD wr ta tb):=λE hE=>
 (Qz ho (ha E hE) (hb E hE) hm).mono λσ H Q h=>Bi h λH2 x y wx wy S QW rx ry hS q hQ=>hw H2 x y wx wy S Q QW rx ry hS q hQ
end
def nM.ex (x:nM P w H h a o):∃u,h.get? a=aa u:=by
 cases o with
 |bJ xs=>obtain⟨_,_,_,_,e⟩:=x;exact⟨_,e⟩
 |bT xs=>obtain⟨_,_,_,o,e,_⟩:=x;exact⟨_,e⟩
 |dK d6=>obtain⟨_,_,_,_,o,_,_,e,_⟩:=x;exact⟨_,e⟩
 |dT d6=>obtain⟨_,_,_,_,o,_,_,e,_⟩:=x;exact⟨_,e⟩
 |set S n=>obtain⟨o,_,_,_,e,_⟩:=x;exact⟨_,e⟩
 |ins C dx fs=>obtain⟨_,_,_,e,_⟩:=x;exact⟨_,e⟩
 |own y=>exact x
 |xd fs=>obtain⟨_,⟨_,_,_,e,_⟩,_⟩:=x;exact⟨_,e⟩
 |rng lo hi=>obtain⟨_,_,_,e⟩:=x;exact⟨_,e⟩
 |frz ob u=>obtain⟨e,_⟩:=x;exact⟨_,e⟩
 |tbl ps=>exact⟨_,show h.get? a=aa _ from x⟩
 |met f y=>exact⟨_,show h.get? a=aa _ from x⟩
 |ext φ=>exact x.2.1
noncomputable def unt (H:Hp) (S:kB):Hp:=λb=>match H b with
 |some (.bJ xs)=>match S b with
  |none=>none
  |some _=>aa (.bJ xs)
 |o=>o
noncomputable def rH (H:Hp) (S:kB) (H':Hp):Hp:=λb=>match unt H S b with
 |none=>match H b with
  |some o=>aa o
  |none=>H' b
 |some _=>match H' b with
  |some o=>aa o
  |none=>aa (.ext λh=>∃o,h.get? b=aa o)
section
variable {w:aQ}{K:am}{H:Hp}{S:kB}{h:aF}{b:ai}{o:HO}
def KQ (e:unt H S b=aa o):H b=aa o:=by
 unfold unt at e;split at e
 ·rename_i xs q;split at e
  ·cases e
  ·rw[q];exact e
 ·exact e
def xg (e:H b=none):unt H S b=none:=by unfold unt;rw[e]
def CB (e:H b=aa o) (n:∀xs,o≠ .bJ xs):unt H S b=aa o:=by
 unfold unt;rw[e];cases o<;>first |rfl |exact absurd rfl (n _)
def Bj (e:H b=aa o) (hs:S b=aa u):unt H S b=aa o:=by
 unfold unt;rw[e];cases o<;>first |rfl | (dsimp only;rw[hs])
def HF (e:H b=aa (.bJ xs)) (hs:S b=none):unt H S b=none:=by
 unfold unt;rw[e];dsimp only;rw[hs]
def Rm (e:unt H S b=none) (q:H b=aa o):(∃xs,o= .bJ xs)∧S b=none:=by
 unfold unt at e;rw[q]at e;cases o<;>first |cases e |skip;rename_i xs;dsimp only at e;split at e
 ·exact⟨⟨xs,rfl⟩, ‹_›⟩
 ·cases e
mutual
theorem n9.mv{H1:Hp}(t:∀b xs,H b=aa (.bT xs)→H1 b=aa (.bT xs)) (f:∀b o u,H b=aa (.frz o u)→H1 b=aa (.frz o u)) {w:W}{v:V}:n9 K H w v→n9 K H1 w v
 | .b_=> .b_
 | .bl b=> .bl b
 | .int i=> .int i
 | .str x=> .str x
 | .ref a=> .ref a
 | .cM h=> .cM (by
  obtain ⟨o,h⟩ |h:=h
  ·exact .inl ⟨o,f _ _ _ h⟩
  ·exact .inr h)
 | .bT h hs=> .bT (t _ _ h) (mY.mv t f hs)
theorem mY.mv (t:∀b xs,H b=aa (.bT xs)→H1 b=aa (.bT xs)) (f:∀b o u,H b=aa (.frz o u)→H1 b=aa (.frz o u)):mY K H ws vs→mY K H1 ws vs
 | .nil=> .nil
 | .cons h hs=> .cons (n9.mv t f h) (mY.mv t f hs)
end
def wT:∀b xs,H b=aa (.bT xs)→unt H S b=aa (.bT xs):=λb xs e=>CB e λ_ z=>nomatch z
def yC:∀b o u,H b=aa (.frz o u)→unt H S b=aa (.frz o u):=λb o u e=>CB e λ_ z=>nomatch z
def m5.unt (r:m5 K H S):m5 K (unt H S) S:=λa o e=>by
 have q:=r a o e;cases o with
 |bJ ws=>obtain⟨vs,z,rs⟩:=q;exact⟨vs,Bj z e,mY.mv wT yC rs⟩
 |dct d6=>obtain⟨ps,z,rs⟩:=q;exact⟨ps,Bj z e,Paired.mapP rs λ_ _ z=>⟨z.1,n9.mv wT yC z.2⟩⟩
 |dk d6=>obtain⟨ps,z,rs⟩:=q;exact⟨ps,Bj z e,Paired.mapP rs λ_ _ z=>⟨z.1,n9.mv wT yC z.2⟩⟩
 |ins C fs=>obtain⟨C,dx,ps,z0,z,rs⟩:=q;exact⟨C,dx,ps,z0,Bj z e,Paired.mapP rs λ_ _ z=>⟨z.1,n9.mv wT yC z.2⟩⟩
def oR.unt (x:oR P w H h):oR P w (unt H S) h:=λa o e=>
 (x a o (KQ e)).stay (λ_ _ _ q=>q) (λb q=>CB q λ_ z=>nomatch z) λb xs q=>wT b xs q
def ud (ok:oR P w H h) (un:Un fs [] (unt H S) H' h h') (e:H' b=aa o):rH H S H' b=aa o:=by
 unfold rH;split
 ·rename_i q;split
  ·rename_i u z;obtain⟨ob,eo⟩:=(ok b u z).ex;rw[un.free b ob eo q `s]at e;cases e
  ·exact e
 ·rw[e]
def CW (un:Un fs [] (unt H S) H' h h') (ok:oR P w H h):Un fs [] H (rH H S H') h h' where
  keep:=λb o e n hb hx=>un.keep b o e (xg n) hb hx
  slot:=λb o e n hb hx=>un.slot b o e (xg n) hb hx
  free:=λb o e n hx=>by
    unfold rH;rw[xg n,n];exact un.free b o e (xg n) hx
  there:=un.there
  tups:=λb xs e=>ud ok un (un.tups b xs (wT b xs e))
  frzs:=λb o u e=>ud ok un (un.frzs b o u (yC b o u e))
  tbls:=λb ps e=>by
    obtain⟨m,z⟩:=un.tbls b ps (CB e λ_ z=>nomatch z);exact⟨m,ud ok un z⟩
def MD (un:Un fs [] (unt H S) H' h h') (ok:oR P w H h) (ok':oR P w H' h') (hf:∀b∈fs,H b=none):oR P w (rH H S H') h':=λb o e=>by
 have back:∀{o},H' b=aa o→nM P w (rH H S H') h' b o:=λ{o} q=>(ok' b o q).stay (λ_ _ _ z=>z) (λc z=>ud ok un z) λc xs z=>ud ok un z;unfold rH at e;split at e
 ·rename_i q;split at e
  ·rename_i u z;cases e;obtain⟨⟨xs,rfl⟩,_⟩:=Rm q z;obtain⟨l,dR,n,r,g⟩:=ok b _ z;exact⟨l,dR,n,r,un.keep b _ g q (λhb=>by rw[hf b hb]at z;cases z) `s⟩
  ·exact back e
 ·rename_i u q;split at e
  ·rename_i u' z;cases e;exact back z
  ·rename_i z;cases e;obtain⟨ob,eo⟩:=(ok b u (KQ q)).ex;obtain⟨ob',eo'⟩:=un.there b ob eo `s;exact⟨⟨ob',eo'⟩,⟨ob',eo'⟩,λh1 h2 ⟨o,z⟩ k=>⟨o,k o z⟩⟩
def TQ (e:H b=aa o):∃o',rH H S H' b=aa o':=by
 unfold rH;split
 ·rw[e];exact⟨_,rfl⟩
 ·split
  ·exact⟨_,rfl⟩
  ·exact⟨_,rfl⟩
def L_ (un:Un fs [] (unt H S) H' h h') (ok:oR P w H h) (r:m5 K H' S'):oh H S (rH H S H') S' where
  bT:=λb xs e=>(CW un ok).tups b xs e
  frz:=λb o u e=>(CW un ok).frzs b o u e
  fr:=λb xs e hs=>by
    refine⟨?_,?_⟩
    · unfold rH;rw[HF e hs,e]
    · cases q:S' b with
      |none=>rfl
      |some u=>
        obtain⟨v,z⟩:=(r b u q).some;obtain⟨ob,eo⟩:=(ok b _ e).ex;rw[un.free b ob eo (HF e hs) `s]at z;cases z
  all:=λb o e=>TQ e
def Nq (un:Un fs [] (unt H S) H' h h') (ok:oR P w H h):oh H' S' (rH H S H') S' where
  bT:=λb xs e=>ud ok un e
  frz:=λb o u e=>ud ok un e
  fr:=λb xs e hs=>⟨ud ok un e,hs⟩
  all:=λb o e=>⟨o,ud ok un e⟩
def OA (un:Un fs [] (unt H S) H' h h') (ok:oR P w H h) (r:m5 K H' S'):m5 K (rH H S H') S':=λa o e=>(r a o e).keep (Nq (S':=S') un ok) λu z=>ud ok un z
end
def P8{X:Cx}{k:Nat}{f:ai}{fd:c6}{ps:List ah}{c:m8}{E:WX}{ag:List (ai×aJ)}{σ:St}{σW:nj}{H:Hp}{S:kB}{s:aq}{Q:VK}{QW:WK}{us:List aj}{vs:List V}{ws:List W}
  (F:pi X.prog X.w X.K X.mg X.base (sC X.prog X.w) k f fd ps (sx X.K c)) (hr:oV k X.A) (hb:pM X.K fd ps []) (I:mW X ag σ H s) (r:ni vs us) (rs:mY X.K H ws vs) (hσ:nS X.K H σW σ) (hS:m5 X.K H S)
  (h:c ws S QW λcl S'=>E cl σW S') (hQ:pJ X.K H S QW Q)
  (hx:∀(cl:ah) (C a:ai) (H':Hp) (S':kB) (s':aq),bz X.K aY cl=aa (aa (.ref C))→s'.os=s.os→cF s'.gens→Un (frs X.stack) [] H H' s.heap s'.heap→oR X.prog X.w H' s'.heap→Cb s.heap s'.heap H' a C→oh H S H' S'→m5 X.K H' S'→E cl σW S'→X.xe (.ref a) s'):av (aC X.prog X.w) X.A (call (.ref f) us) (EP X ag σ Q) X.xe s:=by
 have e0:=I.env0;have sp:sx X.K c vs (unt H S) (λv H'=>∃w S',n9 X.K H' w v∧m5 X.K H' S'∧QW w S') (λcv _ H'=>∃cl C S',cv= .ref C∧bz X.K aY cl=aa (aa (.ref C))∧m5 X.K H' S'∧E cl σW S'):=
  ⟨ws,S,QW,_,mY.mv wT yC rs,hS.unt,h,λw S' v H' _ r1 r2 q=>⟨w,S',r1,r2,q⟩,λcl C S' H' hn hS' q=>⟨cl,C,S',rfl,hn,hS',q⟩⟩
 have e1:t5 X.prog X.w X.K X.mg X.base X.A X.stack s (unt H S):=⟨e0.frames,e0.mod,λb o e=>⟨(e0.bs b o e).1,xg (e0.bs b o e).2⟩,e0.bsz,e0.funs,λb hb=>xg (e0.frf b hb),e0.cq.unt,e0.bare⟩;have hl:us.length=ps.length:=by rw[←r.length];exact F.len _ _ _ _ sp
 have hb':=hb s us I.kIn (by rw[bf];exact hl);rw[bf]at hb';refine wpAny_call (jM (F.run X.A X.stack s (unt H S) ⟨us,[]⟩ us vs _ _ hr e1 hb' r sp) λrr s' hq=>?_);cases rr with
 |error e=>
  obtain⟨a,C,H',rfl,os,bare,un,ok',fly,cl,C',S',ec,hn,hS',q⟩:=hq;cases ec;refine hx cl C a (rH H S H') S' s' hn os bare (CW un I.cq) (MD un I.cq ok' e0.frf) ?_ (L_ un I.cq hS') (OA un I.cq hS') q;obtain⟨g1,g2,oe,vs',T,oT,ts,a1,a2,a3,a4,a5,a6,a7⟩:=fly;have free:∀{b:ai},s.heap.get? b=none→H' b=none→rH H S H' b=none:=λ{b} q1 q2=>by
   have hn:H b=none:=by
    cases z:H b with
    |none=>rfl
    |some u=>obtain⟨ob,eo⟩:=(I.cq b u z).ex;rw[q1]at eo;cases eo
   unfold rH;rw[xg hn,hn];exact q2
  exact⟨g1,free g1 g2,oe,vs',T,oT,ts,a1,a2,a3,a4,a5,free a5 a6,a7⟩
 |ok fl=>
  cases fl with
  |ret u=>
   obtain⟨v,H',os,bare,un,ok',rv,w,S',r1,r2,q⟩:=hq;exact⟨v,rH H S H',I.call' os (CW un I.cq) (MD un I.cq ok' e0.frf) bare (λ_ z=>nomatch z),rv,hQ w S' v _ (L_ un I.cq r2) (r1.ext (Nq (S':=S') un I.cq)) (OA un I.cq r2) q⟩
  |next=>exact cG hq
  |brk=>exact cG hq
  |cont=>exact cG hq
def Qi 
  (F:pi X.prog X.w X.K X.mg X.base (sC X.prog X.w) k f fd ps (sx X.K c)) (hr:oV k X.A) (hb:pM X.K fd ps []) (hE:pI X E) (I:mW X ag σ H s) (r:ni vs us) (rs:mY X.K H ws vs) (hσ:nS X.K H σW σ) (hS:m5 X.K H S)
  (h:c ws S QW λcl S'=>E cl σW S') (hQ:pJ X.K H S QW Q):av (aC X.prog X.w) X.A (call (.ref f) us) (EP X ag σ Q) X.xe s:=
 P8 (E:=E) F hr hb I r rs hσ hS h hQ λcl C a H' S' s' hn os bare un ok fly _ hS' q=>hE.far ag σ H s σW cl C a H' S' s' I hσ hn os bare un ok fly hS' q
def Nc (I:mW X ag σ H' s') (hst:X.stack=X.env::X.outer) (hf:X.env.frame=aa X.env.locals) (hex:X.ex=[])
  (h0:∀b∈hid,X.s₀.heap.get? b=none∧H' b=none) (ha:a∈hid) (L:aF.Left (f_ s'.heap (hid++frs X.stack)) X.stack a (.ref C) s'.heap h') :
  Un X.fs [] X.H₀ H' X.s₀.heap h'∧oR X.prog X.w H' h'∧Cb X.s₀.heap h' H' a C:=by
 obtain⟨st,ff,tr,sl⟩:=L;have keepB:∀b o,s'.heap.get? b=aa o→b∉hid→b∉frs X.stack→h'.get? b=aa o:=λb o e h1 h2=>st b o (jR _ e λz=>(bu.mp z).elim h1 h2);have nh:∀b o,X.s₀.heap.get? b=aa o→b∉hid:=λb o e hb=>by rw[(h0 b hb).1]at e;cases e
 have slotB:∀b o,b∈frs X.stack→s'.heap.get? b=aa o→ ∃sl,h'.get? b=aa { o with slots:=sl }:=λb o hb e=>by
  obtain⟨_,o',eo',nf⟩:=I.stack.mem hb;rw[e]at eo';cases eo';exact sl b o e nf
 have nx:∀b:ai,b∉X.ex:=λb=>by rw[hex];simp
 have fsS:∀b∈X.fs,b∈frs X.stack:=λb hb=>by
  rw[hst];unfold frs;rw[gh,hf];exact aG _ hb
 refine⟨⟨λb o e n hb _=>?_,λb o e n hb _=>?_,λb o e n _=>I.base.free b o e n (nx b),λb o e _=>?_,I.base.tups,I.base.frzs,I.base.tbls⟩,λb o e=>?_,(h0 a ha).1,(h0 a ha).2,?_⟩
 ·refine keepB b o (I.base.keep b o e n hb (nx b)) (nh b o e) λz=>?_;obtain q |q:=aB.mp (I.stkSub b z)
  ·exact absurd (b7 (aR e) I.ok.above) (by rw[q];exact cK _)
  ·exact hb q
 ·obtain⟨sl1,e1⟩:=I.base.slot b o e n hb (nx b);obtain⟨sl2,e2⟩:=slotB b _ (fsS b hb) e1;exact⟨sl2,e2⟩
 ·obtain⟨o',e1⟩:=I.base.there b o e (nx b);by_cases hb:b∈frs X.stack
  ·obtain⟨sl2,e2⟩:=slotB b _ hb e1;exact⟨_,e2⟩
  ·exact⟨o',keepB b o' e1 (nh b o e) hb⟩
 ·refine(I.cq b o e).stay (λc u hc q=>?_) (λ_ q=>q) λ_ _ q=>q;have tk:∃v,H' c=aa v:=by
   obtain z |z:=hc
   ·exact⟨o,by rw[z];exact e⟩
   ·exact⟨_,z⟩
  obtain⟨v,tk⟩:=tk;exact keepB c u q (λz=>by rw[(h0 c z).2]at tk;cases tk) λz=>by rw[I.stkFree c z]at tk;cases tk
 ·obtain⟨oe,vs,T,oT,ts,e1,e2,e3,e4,e5,e6,e7,e8,e9⟩:=tr;have nf:T∉frs X.stack:=λhb=>by
   obtain⟨_,o,eo,nf⟩:=ff.mem hb;rw[e7]at eo;cases eo;exact nf ts e8
  have both:X.s₀.heap.get? T=none∧H' T=none:=by
   by_cases hT:T∈hid
   ·exact h0 T hT
   ·have z:s'.heap.get? T=none:=by
     cases q:s'.heap.get? T with
     |none=>rfl
     |some o=>
      rw[jR _ q λz=>(bu.mp z).elim hT nf]at e5;cases e5
    constructor
    ·cases q:X.s₀.heap.get? T with
     |none=>rfl
     |some o=>obtain⟨o',q'⟩:=I.base.there T o q (nx T);rw[z]at q';cases q'
    ·cases q:H' T with
     |none=>rfl
     |some u=>obtain⟨o',q'⟩:=(I.cq T u q).ex;rw[z]at q';cases q'
  exact⟨oe,vs,T,oT,ts,e1,e2,e3,e4,both.1,both.2,e6,e7,e8,e9⟩
def LH{h base:aF}{l:List bS}{hid:List ai}(hl:h.FunFrames base l):h.FunFrames (f_ h (hid++frs l)) l:=
 PySem.W.funFrames_hide hl λenv he a ha=>cc _ (i9.mpr ⟨env,he,ha⟩)
def UH{P:bb}{w:aQ}{K:am}{mg:ah→Option aj}{base:aF}{N:List ah}{qual:ah}{scope:Scope}{f:ai}{cdv:aj}{A:bx}{outer:List bS}{s:aq}{H:Hp}{E:XK}{EW:ah→kB→Prop}
    (hEW:∀cl C S' H',bz K aY cl=aa (aa (.ref C))→m5 K H' S'→EW cl S'→E (.ref C) none H'):pI (vw (sC P w) P w K mg base N qual scope f cdv A outer s H E) (λc _ S'=>EW c S') where
  own:=fO.leaving
  far:=λag σ H1 s1 σW cl C a H' S' s' I hσ hn os bare un ok fly hS q=>by
    have I':=I.call' os un ok bare (λ_ z=>nomatch z);obtain⟨g1,g2,oe,vs,T,oT,ts,e1,e2,e3,e4,g3,g4,e5,e6,e7,e8⟩:=fly;have s0:∀{b:ai},s1.heap.get? b=none→s.heap.get? b=none:=λ{b} z=>by
      cases q:s.heap.get? b with
      |none=>rfl
      |some o=>obtain⟨o',q'⟩:=I.base.there b o q (by exact λz=>nomatch z);rw[z]at q';cases q'
    refine wpAny_leaving_next (base:=f_ s'.heap ([a,T]++frs (cC qual scope s.heap.objs.size f cdv::outer))) I'.ok.frames (LH I'.stack) rfl ⟨oe,vs,T,oT,ts,e1,e2,e3,e4,gJ _ `s,e5,e6,e7,e8⟩ (λb o z=>i8 _ z) (gJ _ `s) λh' L=>?_;obtain⟨u1,u2,u3⟩:=Nc (hid:=[a,T]) I' rfl rfl rfl (λb hb=>by
      obtain rfl |hb:=aB.mp hb
      · exact⟨s0 g1,g2⟩
      · rw[bg.mp hb];exact⟨s0 g3,g4⟩) `s L
    exact⟨a,C,H',rfl,I'.os,I'.bare,u1,u2,u3,hEW cl C S' H' hn hS q⟩
  near:=λag σ H1 s1 σW cl C a S h' args I hσ hn me hS q=>by
    have I':=I.kept (t':=s1.toks) me.keeps;obtain⟨t,e1,_,_⟩:=me.there;have s0:s.heap.get? a=none:=by
      cases q:s.heap.get? a with
      |none=>rfl
      |some o=>obtain⟨o',q'⟩:=I.base.there a o q (by exact λz=>nomatch z);rw[me.new]at q';cases q'
    have h1:H1 a=none:=by
      cases q:H1 a with
      |none=>rfl
      |some u=>obtain⟨o',q'⟩:=(I.cq a u q).ex;rw[me.new]at q';cases q'
    refine wpAny_leaving_first (base:=f_ h' ([a]++frs (cC qual scope s.heap.objs.size f cdv::outer))) (s:={ s1 with heap:=h' }) I'.ok.frames (LH I'.stack) rfl e1 (λb o z=>i8 _ z) (gJ _ `s) rfl rfl λh'' L=>?_;obtain⟨u1,u2,u3⟩:=Nc (hid:=[a]) I' rfl rfl rfl (λb hb=>by rw[bg.mp hb];exact⟨s0,h1⟩) `s L
    exact⟨a,C,H1,rfl,I'.os,I'.bare,u1,u2,u3,hEW cl C S H1 hn hS q⟩
def oA (S:kB) (a:ai) (Q:List W→Prop):Prop:=match S a with
 |some (.bJ ws)=>Q ws
 |_=>False
def nG{Q:List W→Prop}(h:S a=aa (.bJ ws)):oA S a Q=Q ws:=by unfold oA;rw[h]
def qI{Q:List W→Prop}(h:oA S a Q):∃ws,S a=aa (.bJ ws)∧Q ws:=by
 unfold oA at h;split at h
 ·exact⟨_, ‹_›,h⟩
 ·exact h.elim
def uZ:W→kB→(Bool→kB→Prop)→Prop
 | .b_,S,Q=>Q false S
 | .bl b,S,Q=>Q b S
 | .int i,S,Q=>Q (i != 0) S
 | .str x,S,Q=>x.length≤sizeLine∧Q ((x.length:Int) != 0) S
 | .bT ws,S,Q=>Q (!ws.isEmpty) S
 | .ref a,S,Q=>oA S a λws=>Q (!ws.isEmpty) S
 | .cM ns,S,Q=>Q (!ns.isEmpty) S
def pW (t:WE) (E:WX) (σ:nj) (S:kB) (Q:Bool→kB→Prop):Prop:=t E σ S λw S'=>uZ w S' Q
def n_ (t:WE) (E:WX) (σ:nj) (S:kB) (Q:Bool→kB→Prop):Prop:=t E σ S λw S'=>match w with
 | .bl b=>Q b S'
 |_=>False
def sU (t u:WT) (E:WX) (σ:nj) (S:kB) (Q:Bool→kB→Prop):Prop:=t E σ S λc S1=>if c=true then u E σ S1 Q else Q false S1
def wa (t u:WT) (E:WX) (σ:nj) (S:kB) (Q:Bool→kB→Prop):Prop:=t E σ S λc S1=>if c=true then Q true S1 else u E σ S1 Q
def tK (t:WT) (E:WX) (σ:nj) (S:kB) (Q:Bool→kB→Prop):Prop:=t E σ S λc S1=>Q (!c) S1
def wc (t u:WE) (E:WX) (σ:nj) (S:kB) (Q:WK):Prop:=t E σ S λw S1=>match w with
 | .bl true=>u E σ S1 Q
 | .bl false=>Q (.bl false) S1
 |_=>False
def O1 (t u:WE):WE:=λE σ S Q=>t E σ S λw S1=>match w with
 | .bl false=>u E σ S1 Q
 | .bl true=>Q (.bl true) S1
 |_=>False
def Mw (t:WE):WE:=λE σ S Q=>t E σ S λw S1=>match w with
 | .bl b=>Q (.bl !b) S1
 |_=>False
def AY (c:WT) (t u:WE) (E:WX) (σ:nj) (S:kB) (Q:WK):Prop:=c E σ S λb S1=>if b=true then t E σ S1 Q else u E σ S1 Q
def om (c:WT) (t u:WS) (E:WX) (D:nC) (σ:nj) (S:kB):Prop:=c E σ S λb S1=>if b=true then t E D σ S1 else u E D σ S1
def oj (_:WX) (D:nC) (σ:nj) (S:kB):Prop:=D.nx σ S
def mV (t u:WS) (E:WX) (D:nC) (σ:nj) (S:kB):Prop:=t E { D with nx:=u E D } σ S
def nE (e:WE) (E:WX) (D:nC) (σ:nj) (S:kB):Prop:=e E σ S D.rt
def HJ:WS:=λ_ D _ S=>D.rt .b_ S
def pT (e:WE) (E:WX) (D:nC) (σ:nj) (S:kB):Prop:=e E σ S λ_ S1=>D.nx σ S1
def zCO:WS:=λ_ _ _ _=>False
def mU (i:Nat) (w:W) (σ:nj) (S:kB) (Q:nj→kB→Prop):Prop:=Q (σ.set i (aa w)) S
def mS (e:WE) (g:WG) (E:WX) (D:nC) (σ:nj) (S:kB):Prop:=e E σ S λw S1=>g w σ S1 D.nx
abbrev WGs:=List W→nj→kB→(nj→kB→Prop)→Prop
def pS (ws:List W) (σ:nj) (S:kB) (Q:nj→kB→Prop):Prop:=match ws with
 | []=>Q σ S
 |_=>False
def ow (g:WG) (u:WGs) (ws:List W) (σ:nj) (S:kB) (Q:nj→kB→Prop):Prop:=match ws with
 | []=>False
 |w::r=>g w σ S λσ' S'=>u r σ' S' Q
def p6 (u:WGs) (w:W) (σ:nj) (S:kB) (Q:nj→kB→Prop):Prop:=match w with
 | .bT ws=>u ws σ S Q
 |_=>False
def Pu{K:am}{H:Hp}{w:W}{v:V}{S:kB}{QW:Bool→kB→Prop}(r:n9 K H w v) (hS:m5 K H S) (h:uZ w S QW):∃k,Bu K v H k∧QW k S:=by
 cases r with
 |b_=>exact⟨false,rfl,h⟩
 |bl b=>exact⟨b,rfl,h⟩
 |int i=>exact⟨_,rfl,h⟩
 |str x=>exact⟨_,⟨h.1,rfl⟩,h.2⟩
 |ref a=>
  obtain⟨ws,e,h⟩:=qI h;obtain⟨vs,e1,r1⟩:=hS a _ e;refine⟨_, .inl ⟨vs, .of e1,rfl⟩,?_⟩;have q:vs.isEmpty=ws.isEmpty:=by cases r1<;>rfl
  rw[q];exact h
 | @cM a ns f=>
  refine⟨_, .inl ⟨_,f.sq,rfl⟩,?_⟩;have q:(ns.map V.int).isEmpty=ns.isEmpty:=by cases ns<;>rfl
  rw[q];exact h
 | @bT a vs ws f hs=>
  refine⟨_, .inr (.inl ⟨vs, .of f,rfl⟩),?_⟩;have q:vs.isEmpty=ws.isEmpty:=by cases hs<;>rfl
  rw[q];exact h
def QE (ha:JE X a ta) (he:∀whole,isTrue a X.env whole=(do let v ←whole;standAt a.pos;holding [v] (truthy v))):JT X a (pW ta):=λE hE=>
 (T_ (ha E hE) he).mono λσ H Q zz=>on zz λσW S QW hσ hS ht hQ=>⟨σW,S,_,hσ,hS,ht,λw S1 v H1 e1 r1 gV h1=>by
  obtain⟨k,hk,q⟩:=Pu r1 gV h1;exact⟨k,hk,hQ k S1 H1 e1 gV q⟩⟩
def Ww (ho:oI X (bF op) r) (hw:rP X.K r wr) (ha:JE X a ta) (hb:JE X b tb) (hm:fS op b=false):JT X (.Compare a [op] [b] pos) (n_ (kD wr ta tb)):=λE hE=>
 (Q2 ho (ha E hE) (hb E hE) hm).mono λσ H Q zz=>on zz λσW S QW hσ hS ht hQ=>by
  refine Bi (Q:=λv H1=>∃k,v= .bl k∧Q k H1) ⟨σW,S,λw S'=>match w with
   | .bl b=>QW b S'
   |_=>False,hσ,hS,ht,λw S1 v H1 e1 r1 gV h1=>?_⟩ λH2 x y wx wy S QW rx ry hS q hQ=>hw H2 x y wx wy S _ QW rx ry hS q hQ
  cases r1 with
  |bl k=>exact⟨k,rfl,hQ k S1 H1 e1 gV h1⟩
  |_=>exact h1.elim
def UT (ha:JT X a tA):JT X (.UnaryOp .Not a pos) (tK tA):=λE hE=>
 (TY (ha E hE)).mono λσ H Q zz=>on zz λσW S QW hσ hS ht hQ=>⟨σW,S,_,hσ,hS,ht,λb S1 H1 e1 gV h1=>hQ _ S1 H1 e1 gV h1⟩
def JW.jt (h:JW X a tA):JT X a tA:=λE hE=>(h E hE).pt
def ZS (ha:JT X a tA):JW X (.BoolOp .And [a] pos) tA:=λE hE=>zyx (ha E hE)
def P5 (ha:JT X a tA):JW X (.BoolOp .Or [a] pos) tA:=λE hE=>ZI (ha E hE)
def Xy{rest:List Expr}(ha:JT X a tA) (hb:JW X (.BoolOp .And (b::rest) pos) tB'):JW X (.BoolOp .And (a::b::rest) pos) (sU tA tB'):=λE hE=>
 (Zq (ha E hE) (hb E hE)).mono λσ H Q zz=>on zz λσW S QW hσ hS ht hQ=>⟨σW,S,_,hσ,hS,ht,λb S1 H1 e1 gV h1=>by
  cases b with
  |true=>exact⟨σW,S1,_,hσ.ext e1,gV,h1,λb S2 H2 e2 hS2 h2=>hQ b S2 H2 (e1.trans e2) hS2 h2⟩
  |false=>exact hQ _ S1 H1 e1 gV h1⟩
def Wt{rest:List Expr}(ha:JT X a tA) (hb:JW X (.BoolOp .Or (b::rest) pos) tB'):JW X (.BoolOp .Or (a::b::rest) pos) (wa tA tB'):=λE hE=>
 (RU (ha E hE) (hb E hE)).mono λσ H Q zz=>on zz λσW S QW hσ hS ht hQ=>⟨σW,S,_,hσ,hS,ht,λb S1 H1 e1 gV h1=>by
  cases b with
  |false=>exact⟨σW,S1,_,hσ.ext e1,gV,h1,λb S2 H2 e2 hS2 h2=>hQ b S2 H2 (e1.trans e2) hS2 h2⟩
  |true=>exact hQ _ S1 H1 e1 gV h1⟩
def Ym{op}(h:JE X a ta):JE X (.BoolOp op [a] pos) ta:=λE hE=>Y0 (h E hE)
def Zm{rest:List Expr}(ha:JE X a ta) (hb:JE X (.BoolOp .And (b::rest) pos) tb):JE X (.BoolOp .And (a::b::rest) pos) (wc ta tb):=λE hE=>
 (Y6 (ha E hE) (hb E hE)).mono λσ H Q zz=>on zz λσW S QW hσ hS ht hQ=>⟨σW,S,_,hσ,hS,ht,λw S1 v H1 e1 r1 gV h1=>by
  cases r1 with
  |bl k=>
   refine⟨k,rfl,?_⟩;cases k with
   |true=>exact⟨σW,S1,_,hσ.ext e1,gV,h1,hQ.from e1⟩
   |false=>exact hQ _ S1 _ H1 e1 (.bl false) gV h1
  |_=>exact h1.elim⟩
def Yo{rest:List Expr}(ha:JE X a ta) (hb:JE X (.BoolOp .Or (b::rest) pos) tb):JE X (.BoolOp .Or (a::b::rest) pos) (O1 ta tb):=λE hE=>
 (T0 (ha E hE) (hb E hE)).mono λσ H Q zz=>on zz λσW S QW hσ hS ht hQ=>⟨σW,S,_,hσ,hS,ht,λw S1 v H1 e1 r1 gV h1=>by
  cases r1 with
  |bl k=>
   refine⟨k,rfl,?_⟩;cases k with
   |false=>exact⟨σW,S1,_,hσ.ext e1,gV,h1,hQ.from e1⟩
   |true=>exact hQ _ S1 _ H1 e1 (.bl true) gV h1
  |_=>exact h1.elim⟩
def Sz (ha:JE X a ta):JE X (.UnaryOp .Not a pos) (Mw ta):=λE hE=>
 (Rc (ha E hE)).mono λσ H Q zz=>on zz λσW S QW hσ hS ht hQ=>⟨σW,S,_,hσ,hS,ht,λw S1 v H1 e1 r1 gV h1=>by
  cases r1 with
  |bl k=>exact⟨k,rfl,hQ _ S1 _ H1 e1 (.bl _) gV h1⟩
  |_=>exact h1.elim⟩
def Ui (hc:JT X c tc) (ha:JE X a ta) (hb:JE X b tb):JE X (.IfExp c a b pos) (AY tc ta tb):=λE hE=>
 (XH (hc E hE) (ha E hE) (hb E hE)).mono λσ H Q zz=>on zz λσW S QW hσ hS ht hQ=>⟨σW,S,_,hσ,hS,ht,λk S1 H1 e1 gV h1=>by
  cases k with
  |true=>exact⟨σW,S1,_,hσ.ext e1,gV,h1,hQ.from e1⟩
  |false=>exact⟨σW,S1,_,hσ.ext e1,gV,h1,hQ.from e1⟩⟩
def Qx:t4 X [] oj:=λE hE=>uX.mono λD σ H zz=>on zz λσW S DW hσ hS ht hD=>hD.nx σW S σ H .refl hσ hS ht
def UU{X:Cx}{st:bi}{rest:List bi}{t u:WS}(h1:JS X st t) (h2:t4 X rest u):t4 X (st::rest) (mV t u):=λE hE=>
 (QK (h1 E hE) (h2 E hE)).mono λD σ H zz=>on zz λσW S DW hσ hS ht hD=>
  ⟨σW,S,{ DW with nx:=u E DW },hσ,hS,ht,⟨λσW' S' σ' H' e r hS' q=>⟨σW',S',DW,r,hS',q,hD.from e⟩,hD.rt,hD.bk,hD.ct⟩⟩
def UI{X:Cx}{st:bi}{t:WS}(h1:JS X st t):t4 X [st] t:=λE hE=>zyG (h1 E hE)
def ZR:JS X (.Pass pos) oj:=λE hE=>uJ.mono λD σ H zz=>on zz λσW S DW hσ hS ht hD=>hD.nx σW S σ H .refl hσ hS ht
def YA{X:Cx}{st:bi}:JS X st zCO:=λE hE=>t6.mono λD σ H zz=>on zz λσW S DW hσ hS ht hD=>ht
def SI (he:JE X e ta) (hs:eG e none pos.line X.env=pure false):JS X (.Expr e pos) (pT ta):=λE hE=>
 (WR (he E hE) hs).mono λD σ H zz=>on zz λσW S DW hσ hS ht hD=>⟨σW,S,_,hσ,hS,ht,λw S1 v H1 e1 r1 gV h1=>hD.nx σW S1 σ H1 e1 (hσ.ext e1) gV h1⟩
def X8 (he:JE X e ta):JS X (.Return (aa e) pos) (nE ta):=λE hE=>
 (Tg (he E hE)).mono λD σ H zz=>on zz λσW S DW hσ hS ht hD=>⟨σW,S,_,hσ,hS,ht,hD.rt⟩
def Rk:JS X (.Return none pos) HJ:=λE hE=>u8.mono λD σ H zz=>on zz λσW S DW hσ hS ht hD=>hD.rt .b_ S .b_ H .refl .b_ hS ht
def VS{a b:List bi}(hc:JT X c tc) (ha:t4 X a t) (hb:t4 X b u):JS X (.If c a b pos) (om tc t u):=λE hE=>
 (Zv (hc E hE) (ha E hE) (hb E hE)).mono λD σ H zz=>on zz λσW S DW hσ hS ht hD=>⟨σW,S,_,hσ,hS,ht,λk S1 H1 e1 gV h1=>by
  cases k with
  |true=>exact⟨σW,S1,DW,hσ.ext e1,gV,h1,hD.from e1⟩
  |false=>exact⟨σW,S1,DW,hσ.ext e1,gV,h1,hD.from e1⟩⟩
def UA (hN:X.N.Nodup) (hi:X.N[i]? =aa x) (hx:tZ X.env.scope x) (hf:X.fn x=true∨X.env.scope.names.lookup x=aa .local:=by first |exact .inl rfl |exact .inr rfl |assumption):JG X (.Name x pos) (mU i):=λE hE=>
 (Ya hN hi hx hf).mono λv σ H Q zz=>Dp zz λw σW S P r hσ hS ht hP=>hP _ S _ H .refl (hσ.set r i) hS ht
def v0 (X:Cx) (tgs:List Expr) (t:WGs):Prop:=∀E,pI X E→zf X tgs (λvs σ H Q=>∃ws σW S P,mY X.K H ws vs∧nS X.K H σW σ∧m5 X.K H S∧t ws σW S P∧qN X.K H S P Q)
def Z_:v0 X [] pS:=λE hE ag s σ H vs us Q I r h=>by
 obtain⟨ws,σW,S,P,rs,hσ,hS,ht,hP⟩:=h;unfold pS at ht;split at ht
 ·cases rs;exact SZ ag s σ H [] us Q I r ⟨rfl,hP σW S σ H .refl hσ hS ht⟩
 ·exact ht.elim
def Vp (h1:JG X e g) (h2:v0 X es gs)
  (hs:(ci (e::es) X.env).map (·.2)=assign e X.env::(ci es X.env).map (·.2)):v0 X (e::es) (ow g gs):=λE hE ag s σ H vs us Q I r h=>by
 obtain⟨ws,σW,S,P,rs,hσ,hS,ht,hP⟩:=h;unfold ow at ht;split at ht
 ·exact ht.elim
 ·cases rs with
  |cons r1 r2=>
   refine VU (h1 E hE) (h2 E hE) hs ag s σ H _ us Q I r ⟨_,_,rfl,⟨_,σW,S,_,r1,hσ,hS,ht,λσW' S' σ' H' e' rr hS' q=>?_⟩⟩;exact⟨_,σW',S',P,r2.ext e',rr,hS',q,hP.from e'⟩
def X_ (h:v0 X es gs) (hlen:∀ws σ S P,gs ws σ S P→ws.length=n)
  (hn:(ci es X.env).length=n) (hst:(ci es X.env).findIdx? (·.1)=none) (hcl:X.calm=true):JG X (.Tuple es k pos) (p6 gs):=λE hE=>
 (X9 hcl (h E hE) hn hst).mono λv σ H Q zz=>Dp zz λw σW S P r hσ hS ht hP=>by
  cases r with
  |bT f hs=>exact⟨_,_,rfl, .of f,by rw[←hs.length];exact hlen _ _ _ _ ht,⟨_,σW,S,P,hs,hσ,hS,ht,hP⟩⟩
  |_=>exact ht.elim
def Z4 (he:JE X e ta) (hg:JG X tg g) (hs:jS [tg] e pos.line X.env=pure false) (hw:jk [tg] e X.env=pure none)
  (h1:(ci [tg] X.env).map (·.2)=[assign tg X.env]):JS X (.Assign [tg] e pos) (mS ta g):=λE hE=>
 (Zy (he E hE) (hg E hE) hs hw h1).mono λD σ H zz=>on zz λσW S DW hσ hS ht hD=>⟨σW,S,_,hσ,hS,ht,λw S1 v H1 e1 r1 gV h1=>⟨w,σW,S1,_,r1,hσ.ext e1,gV,h1,hD.nx.from e1⟩⟩
def Mb (hN:X.N.Nodup) (hi:X.N[i]? =aa x) (hx:tZ X.env.scope x) (he:JE X e ta) (hs:eG e (aa (.Name x pos')) pos.line X.env=pure false)
  (hf:X.fn x=true∨X.env.scope.names.lookup x=aa .local:=by first |exact .inl rfl |exact .inr rfl |assumption):JS X (.Assign [.Name x pos'] e pos) (mS ta (mU i)):=λE hE=>
 (VH hN hi hx (he E hE) hs hf).mono λD σ H zz=>on zz λσW S DW hσ hS ht hD=>⟨σW,S,_,hσ,hS,ht,λw S1 v H1 e1 r1 gV h1=>hD.nx _ S1 _ H1 e1 ((hσ.ext e1).set r1 i) gV h1⟩
def ae (_:WX) (_:nj) (S:kB) (Q:List W→kB→Prop):Prop:=Q [] S
def jX (t:WE) (u:WA) (E:WX) (σ:nj) (S:kB) (Q:List W→kB→Prop):Prop:=t E σ S λw S1=>u E σ S1 λws S2=>Q (w::ws) S2
def nD (t:WA) (E:WX) (σ:nj) (S:kB) (Q:WK):Prop:=t E σ S λws S1=>ws.length≤sizeLine∧Q (.bT ws) S1
def oo (t:WA) (E:WX) (σ:nj) (S:kB) (Q:List W→kB→Prop):Prop:=t E σ S λws S1=>ws.length≤sizeLine∧Q ws S1
def nQ (t:WL) (E:WX) (σ:nj) (S:kB) (Q:WK):Prop:=t E σ S λws S1=>∀a,S1 a=none→Q (.ref a) (bQ S1 a (.bJ ws))
def T1:JA X [] ae:=λE hE=>pB.mono λσ H Q zz=>on zz λσW S QW hσ hS ht hQ=>hQ [] S [] H .refl .nil hS ht
def ZO (ha:JE X e te) (hr:JA X es ta) (hs:ax (e::es) X.env=(false,aH e X.env)::ax es X.env):JA X (e::es) (jX te ta):=λE hE=>
 (ur (ha E hE) (hr E hE) hs).mono λσ H Q zz=>on zz λσW S QW hσ hS ht hQ=>⟨σW,S,_,hσ,hS,ht,λw S1 v H1 e1 r1 gV h1=>⟨σW,S1,_,hσ.ext e1,gV,h1,λws S2 vs H2 e2 r2 hS2 h2=>
  hQ (w::ws) S2 (v::vs) H2 (e1.trans e2) (.cons (r1.ext e2) r2) hS2 h2⟩⟩
def Zl{x1}(h:JA X es ta):JE X (.Tuple es x1 pos) (nD ta):=λE hE=>
 (X0 (h E hE)).mono λσ H Q zz=>on zz λσW S QW hσ hS ht hQ=>⟨σW,S,_,hσ,hS,ht,λws S1 vs H1 e1 r1 gV h1=>by
  refine⟨by rw[←r1.length];exact h1.1,λp hp=>hQ (.bT ws) S1 _ _ (e1.trans (.new hp)) (.bT qb (r1.ext (.new (S:=S1) hp))) (gV.new hp) h1.2⟩⟩
def zAP (h:JA X es ta):JL X (.List es pos) (oo ta):=λE hE=>
 (Vb (h E hE)).mono λσ H Q zz=>on zz λσW S QW hσ hS ht hQ=>⟨σW,S,_,hσ,hS,ht,λws S1 vs H1 e1 r1 gV h1=>by
  refine⟨by rw[←r1.length];exact h1.1,λp hp=>hQ ws S1 vs p _ (e1.trans (.new hp)) (e1.free hp) qb (gV.free hp) (r1.ext (.new (S:=S1) hp)) (gV.new hp) h1.2⟩⟩
def J9 (h:JL X e tl):JE X e (nQ tl):=λE hE=>
 (h E hE).mono λσ H Q zz=>on zz λσW S QW hσ hS ht hQ=>⟨σW,S,_,hσ,hS,ht,λws S1 vs a H1 e1 fa ea na r1 gV h1=>by
  refine hQ (.ref a) (bQ S1 a (.bJ ws)) (.ref a) H1 ⟨e1.bT,e1.frz,λb o q g=>by
   have hb:b≠a:=by rintro rfl;rw[fa]at q;cases q
   rw[oz hb];exact e1.fr b o q g,e1.all⟩ (.ref a) (λb o q=>?_) (h1 a na)
  by_cases hb:b=a
  ·subst hb;rw[nv]at q;cases q;exact⟨vs,ea,r1⟩
  ·rw[oz hb]at q;exact gV b o q⟩
def m9 (c:m8) (t:WA) (E:WX) (σ:nj) (S:kB) (Q:WK):Prop:=t E σ S λws S1=>c ws S1 Q λcl S2=>E cl σ S2
def nY (n k:Nat) (body:WS) (ws:List W) (S:kB) (Q:WK) (E:ah→kB→Prop):Prop:=ws.length=k∧body (λc _ S'=>E c S') { nx:=λ_ S'=>∃S'',Sub S'' S'∧Q .b_ S'',rt:=λw S'=>∃S'',Sub S'' S'∧Q w S'' } (ws.map aa++bp (n - k) none) S
def S_ (F:pi X.prog X.w X.K X.mg X.base (sC X.prog X.w) k f fd ps (sx X.K c)) (hr:oV k X.A) (hg:Gl X x) (hm:X.mg x=aa (.ref f)) (hk:cU X.K (.ref f)=true) (hb:pM X.K fd ps [])
  (ha:JA X (e::es) t) (hdb:(x == ("__debug__" :ah))=false) (he:ax (e::es) X.env=(false,aH e X.env)::ax es X.env) (hpl:(aZ pos (ax es X.env)).any (·.1)=false) :
  JE X (.Call (.Name x p) (e::es) [] pos) (m9 c t):=λE hE ag s σ H Q I h=>by
 obtain⟨σW,S,QW,hσ,hS,ht,hQ⟩:=h;refine iz (FH I hg hm ?_ hdb);refine PySem.W.callWith_K (h₀:=X.base) I.ok.mod.kin hk (nZ (ha E hE pos ag s σ H (λvs H1=>∃ws S1,mY X.K H1 ws vs∧nS X.K H1 σW σ∧m5 X.K H1 S1∧c ws S1 QW (λcl S'=>E cl σW S')∧pJ X.K H1 S1 QW Q) I
  ⟨σW,S,_,hσ,hS,ht,λws S1 vs H1 e1 r1 gV h1=>⟨ws,S1,r1,hσ.ext e1,gV,h1,hQ.from e1⟩⟩) λus s1 zz=>oQ zz λvs H1 I1 r zy=>zGt zy λws S1 r1 hσ1 gV h1 hQ1=>⟨I1.kIn,?_⟩) he hpl
 exact Qi F hr hb hE I1 r r1 hσ1 gV h1 hQ1
def Tk{K:am}{H:Hp}{N:List ah}{ws:List W}{vs:List V}(h:mY K H ws vs):nS K H (ws.map aa++bp (N.length - ws.length) none) (start N vs):=by
 have go:∀{ws:List W}{vs:List V}(m:Nat),mY K H ws vs→nS K H (ws.map aa++bp m none) (vs.map aa++bp m none):=by
  intro ws
  induction ws with
  |nil=>
   intro vs m h;cases h
   induction m with
   |zero=>exact .nil
   |succ m ih=>exact .cons trivial ih
  |cons w ws ih=>
   intro vs m h;cases h with
   |cons r rs=>exact .cons r (ih m rs)
 unfold start;rw[←h.length];exact go _ h
def YZ{P:bb}{w:aQ}{K:am}{mg:ah→Option aj}{base:aF}{x qual:ah}{st:bi}{f:ai}{fd:c6}{N ps:List ah}{r n k:Nat}{body:WS}(F:tU K x qual st f fd) (S:p4 N ps (qQ st)) (hn:N.length=n) (hk:ps.length=k)
  (hbody:∀(cdv:aj) (A:bx) (outer:List bS) (s:aq) (H:Hp) (E:XK),oV r (A.deeper (cC qual (qQ st) s.heap.objs.size f cdv))→
   t4 (vw (sC P w) P w K mg base N qual (qQ st) f cdv A outer s H E) (t9 st) body):pi P w K mg base (sC P w) (r+1) f fd ps (sx K (nY n k body)):=by
 obtain⟨oc,od,kV,doc,pm,an,cdv,ct,osl,rfl,lk,hcd⟩:=F.ex;refine Ny lk hcd S (λvs H Q E h=>?_) λA outer s H vs Q E hr h=>?_
 ·obtain⟨ws,S,QW,EW,rs,_,h,_⟩:=h;rw[←rs.length,h.1,hk]
 ·obtain⟨ws,S',QW,EW,rs,hS,h,hQ,hEW⟩:=h;refine⟨_,hbody cdv A outer s H E hr (λc _ S'=>EW c S') (UH hEW),?_⟩;refine⟨_,S',{ nx:=λ_ S'=>∃S'',Sub S'' S'∧QW .b_ S'',rt:=λw S'=>∃S'',Sub S'' S'∧QW w S'' },Tk (N:=N) rs,hS,by rw[hn,h.1];exact h.2,⟨λσW S1 σ H1 e1 rr gV q=>?_,λw S1 v H1 e1 rr gV q=>?_,λ_ _ _ _ _ _ _ q=>q,λ_ _ _ _ _ _ _ q=>q⟩⟩
  ·obtain⟨S2,sb,q⟩:=q;exact hQ .b_ S2 .b_ H1 (e1.trans (.drop sb)) .b_ (gV.sub sb) q
  ·obtain⟨S2,sb,q⟩:=q;exact hQ w S2 v H1 (e1.trans (.drop sb)) rr (gV.sub sb) q
def oC (C:Int→Int→Prop) (g:Int→Int→W):W2
 | .int i, .int j,S,Q=>C i j∧Q (g i j) S
 |_,_,_,_=>False
def rE (g:Int→Int→W):W2
 | .int i, .int j,S,Q=>Q (g i j) S
 |_,_,_,_=>False
def CG{K:am}{C:Int→Int→Prop}{g:Int→Int→Int}:rP K (rI C λi j=> .int (g i j)) (oC C λi j=> .int (g i j)):=λH x y wx wy S Q QW rx ry hS h hQ=>by
 cases rx<;>cases ry<;>first |exact⟨_,_,rfl,rfl,h.1,hQ _ S _ H .refl (.int _) hS h.2⟩ |exact h.elim
def Wo{K:am}{g:Int→Int→Int}:rP K (sW λi j=> .int (g i j)) (rE λi j=> .int (g i j)):=λH x y wx wy S Q QW rx ry hS h hQ=>by
 cases rx<;>cases ry<;>first |exact⟨_,_,rfl,rfl,hQ _ S _ H .refl (.int _) hS h⟩ |exact h.elim
def GJ{K:am}{g:Int→Int→Bool}:rP K (sW λi j=> .bl (g i j)) (rE λi j=> .bl (g i j)):=λH x y wx wy S Q QW rx ry hS h hQ=>by
 cases rx<;>cases ry<;>first |exact⟨_,_,rfl,rfl,hQ _ S _ H .refl (.bl _) hS h⟩ |exact h.elim
def oM:W2
 | .int i, .int j,S,Q=>Q (.int (i+j)) S
 | .str x, .str y,S,Q=>x.length+y.length≤sizeLine∧Q (.str (x++y)) S
 | .bT xs, .bT ys,S,Q=>xs.length+ys.length≤sizeLine∧Q (.bT (xs++ys)) S
 | .ref a, .ref b,S,Q=>oA S a λxs=>oA S b λys=>xs.length+ys.length≤sizeLine∧ ∀p,S p=none→Q (.ref p) (bQ S p (.bJ (xs++ys)))
 |_,_,_,_=>False
def mY.nil_r{K:am}{H:Hp}{ws:List W}(h:mY K H ws []):ws=[]:=by cases h;rfl
def tY:oI X (ce .Add) (λx y H Q=>∃a b ys,x= .ref a∧y= .ref b∧pQ X.K H a []∧pQ X.K H b ys∧Q (.ref b) H):=by
 intro ag s σ H x y v u Q I rx ry h;obtain⟨a,b,ys,rfl,rfl,ha,hb,q⟩:=h;cases rx;cases ry;obtain⟨dR,r1,p1,_⟩:=I.tuple ha;obtain⟨its2,r2,p2,_⟩:=I.tuple hb;cases r1;obtain⟨⟨cls,dd,data,sl⟩,ho,hc,n,hd⟩:=id p1;obtain⟨⟨cls2,dd2,data2,sl2⟩,ho2,hc2,n2,hd2⟩:=id p2;simp only at hc hd hc2 hd2;subst hc hd hc2 hd2;exact iW ⟨_,ho,rfl⟩ ⟨_,ho2,rfl⟩ j5 iS i_ iH (jg _ _)
   (tuple_addW0 a b _ _ n n2 dd dd2 sl sl2 `s) ⟨ho,ho2,⟨.ref b,H,I,rfl,q⟩⟩
def TM:oI X (ce .Add) (λx y H Q=>(sW λi j=> .int (i+j)) x y H Q∨(∃i j,x= .str i∧y= .str j∧i.length+j.length≤sizeLine∧Q (.str (i++j)) H)∨
  (∃a b ys,x= .ref a∧y= .ref b∧pQ X.K H a []∧pQ X.K H b ys∧Q (.ref b) H)∨FX X.K x y H Q∨GD x y H Q):=v_.or (sf.or (tY.or (uM.or Co)))
def Xo{K:am}:rP K (λx y H Q=>(sW λi j=> .int (i+j)) x y H Q∨(∃i j,x= .str i∧y= .str j∧i.length+j.length≤sizeLine∧Q (.str (i++j)) H)∨
  (∃a b ys,x= .ref a∧y= .ref b∧pQ K H a []∧pQ K H b ys∧Q (.ref b) H)∨FX K x y H Q∨GD x y H Q) oM:=λH x y wx wy S Q QW rx ry hS h hQ=>by
 cases rx with
 |int i=>
  cases ry with
  |int j=>exact .inl ⟨i,j,rfl,rfl,hQ _ S _ H .refl (.int _) hS h⟩
  |_=>exact h.elim
 |str i=>
  cases ry with
  |str j=>exact .inr (.inl ⟨i,j,rfl,rfl,h.1,hQ _ S _ H .refl (.str _) hS h.2⟩)
  |_=>exact h.elim
 | @bT a vs ws f hs=>
  cases ry with
  | @bT b us zs g ks=>
   cases hs with
   |nil=>exact .inr (.inr (.inl ⟨a,b,us,rfl,rfl, .of f, .of g,hQ (.bT zs) S _ H .refl (.bT g ks) hS h.2⟩))
   |cons h1 h2=>
    refine .inr (.inr (.inr (.inl ⟨a,b,_,us,rfl,rfl, .of f, .of g,`s,?_,λe=>?_,λe p hp=>?_⟩)))
    ·rw[←(mY.cons h1 h2).length,←ks.length];exact h.1
    ·subst e;have e':=ks.nil_r;subst e';have q:=h.2;rw[bf]at q;exact hQ _ S _ H .refl (.bT f (.cons h1 h2)) hS q
    ·exact hQ _ S _ _ (.new hp) (.bT qb (((mY.cons h1 h2).append ks).ext (.new (S:=S) hp))) (hS.new hp) h.2
  |_=>exact h.elim
 |ref a=>
  cases ry with
  |ref b=>
   obtain⟨xs,ea,h⟩:=qI h;obtain⟨ys,eb,h⟩:=qI h;obtain⟨vs,e1,r1⟩:=hS a _ ea;obtain⟨us,e2,r2⟩:=hS b _ eb;refine .inr (.inr (.inr (.inr ⟨a,b,vs,us,rfl,rfl,e1,e2,by rw[←r1.length,←r2.length];exact h.1,λp hp=>?_⟩)))
   exact hQ _ _ _ _ (.newS hp) (.ref p) (hS.put_lst hp ((r1.append r2).ext (.new (S:=S) hp))) (h.2 p (hS.free hp))
  |_=>exact h.elim
 |_=>exact h.elim
def Xc (ha:JE X a ta) (hb:JE X b tb):JE X (.BinOp a .Add b pos) (kD oM ta tb):=yp TM Xo ha hb
def Yw (ha:JE X a ta) (hb:JE X b tb):JE X (.BinOp a .Sub b pos) (kD (rE λi j=> .int (i - j)) ta tb):=yp Xu Wo ha hb
def zDp (ha:JE X a ta) (hb:JE X b tb):JE X (.BinOp a .Mult b pos) (kD (oC qE λi j=> .int (i*j)) ta tb):=yp zAN CG ha hb
def VG (ha:JE X a ta) (hb:JE X b tb):JE X (.BinOp a .FloorDiv b pos) (kD (oC se λi j=> .int (i / j)) ta tb):=yp YK CG ha hb
def zCC (ha:JE X a ta) (hb:JE X b tb):JE X (.BinOp a .Mod b pos) (kD (oC (λ_ j=>0<j) λi j=> .int (i % j)) ta tb):=yp YG CG ha hb
def WV (ha:JE X a ta) (hb:JE X b tb):JE X (.BinOp a .Pow b pos) (kD (oC A3 λi j=> .int (i ^ j.toNat)) ta tb):=yp Yl CG ha hb
def rW (t:WE) (E:WX) (σ:nj) (S:kB) (Q:WK):Prop:=t E σ S λw S1=>match w with
 | .int i=>Q (.int (-i)) S1
 |_=>False
def zDj (ha:JE X a ta):JE X (.UnaryOp .USub a pos) (rW ta):=λE hE=>
 (QD U6 (ha E hE)).mono λσ H Q zz=>on zz λσW S QW hσ hS ht hQ=>⟨σW,S,_,hσ,hS,ht,λw S1 v H1 e1 r1 gV h1=>by
  cases r1 with
  |int i=>exact⟨i,rfl,hQ _ S1 _ H1 e1 (.int _) gV h1⟩
  |_=>exact h1.elim⟩
def Wa (t u:WE):WL:=λE σ S Q=>t E σ S λx S1=>u E σ S1 λy S2=>match x,y with
 | .ref a, .ref b=>oA S2 a λxs=>oA S2 b λys=>xs.length+ys.length≤sizeLine∧Q (xs++ys) S2
 |_,_=>False
noncomputable def oD (f:W→W→Option Bool):List W→List W→Option Bool
 | [],[]=>aa true
 | [],_=>aa false
 |_,[]=>aa false
 |x::xs,y::ys=>match f x y,oD f xs ys with
  |some a,aa b=>aa (a&&b)
  |_,_=>none
noncomputable def oq (S:kB):Nat→W→W→Option Bool
 |0,_,_=>none
 |n+1,w,u=>match w,u with
  | .b_, .b_=>aa true
  | .bl a, .bl b=>aa (a == b)
  | .int a, .int b=>aa (a == b)
  | .str a, .str b=>aa (a == b)
  | .bT _, .int _=>aa false
  | .int _, .bT _=>aa false
  | .bT xs, .bT ys=>oD (oq S n) xs ys
  | .ref a, .ref b=>match S a with
   |some (.bJ xs)=>match S b with
    |some (.bJ ys)=>oD (oq S n) xs ys
    |_=>none
   |_=>none
  |_,_=>none
theorem KP{f:W→W→Option Bool}:∀{xs ys:List W}{b:Bool},oD f xs ys=aa b→
  (∀j,j<xs.length→j<ys.length→ ∃c,f (xs.getD j .b_) (ys.getD j .b_)=aa c)∧
  ((bD (min xs.length ys.length)).all (λj=>(f (xs.getD j .b_) (ys.getD j .b_)).getD true)&&xs.length == ys.length)=b
 | [],[],b,h=>by
  have:true=b:=aO h;subst this;exact⟨λj h=>absurd h `s,`s⟩
 | [],y::ys,b,h=>by
  have:false=b:=aO h;subst this;exact⟨λj h=>absurd h `s,`s⟩
 |x::xs,[],b,h=>by
  have:false=b:=aO h;subst this;exact⟨λj _ h=>absurd h `s,`s⟩
 |x::xs,y::ys,b,h=>by
  unfold oD at h;split at h
  ·rename_i c d e1 e2;have hb:(c&&d)=b:=aO h;obtain⟨h1,h2⟩:=KP e2;refine⟨λj j1 j2=>?_,?_⟩
   ·cases j with
    |zero=>exact⟨c,by simpa using e1⟩
    |succ j=>simpa using h1 j (by simpa using j1) (by simpa using j2)
   ·have hm:min (xs.length+1) (ys.length+1)=min xs.length ys.length+1:=by lia
    have hl:(xs.length+1 == ys.length+1)=(xs.length == ys.length):=by simp
    rw[aT,aT,hm,ju,eV,fD,hl];have q:((λj=>(f ((x::xs).getD j .b_) ((y::ys).getD j .b_)).getD true)∘ir)=λj=>(f (xs.getD j .b_) (ys.getD j .b_)).getD true:=by
     funext j;simp
    rw[q,Bool.and_assoc,h2];have q0:(f ((x::xs).getD 0 .b_) ((y::ys).getD 0 .b_)).getD true=c:=by simp [e1]
    rw[q0,hb]
  ·cases h
theorem Gy (I:mW X ag σ H s):∀(n:Nat) {wx wy:W}{v:V}{b:Bool},n9 X.K H wx v→n9 X.K H wy v→m5 X.K H S→oq S n wx wy=aa b→b=true
 |0,_,_,_,_,_,_,_,h=>by cases h
 |n+1,wx,wy,v,b,rx,ry,hS,h=>by
  have list:∀{ws us:List W}{vs:List V}{b:Bool},mY X.K H ws vs→mY X.K H us vs→oD (oq S n) ws us=aa b→b=true:=by
   intro ws
   induction ws with
   |nil=>
    intro us vs b r1 r2 e;cases r1;cases r2;exact(aO e).symm
   |cons w ws ih=>
    intro us vs b r1 r2 e;cases r1 with
    |cons a1 a2=>
     cases r2 with
     |cons c1 c2=>
      unfold oD at e;split at e
      ·rename_i c d e1 e2;have q1:=Gy I n a1 c1 hS e1;have q2:=ih a2 c2 e2;have:=aO e;rw[q1,q2]at this;exact this.symm
      ·cases e
  cases rx with
  |b_=>cases ry;exact(aO h).symm
  |bl k=>cases ry;have:=aO h;simpa using this.symm
  |int k=>cases ry;have:=aO h;simpa using this.symm
  |str k=>cases ry;have:=aO h;simpa using this.symm
  |ref a=>
   cases ry with
   |ref _=>
    have h':(match S a with
     |some (.bJ xs)=>match S a with
      |some (.bJ ys)=>oD (oq S n) xs ys
      |_=>none
     |_=>none)=aa b:=h
    cases e:S a with
    |none=>rw[e]at h';cases h'
    |some o=>
     rw[e]at h';cases o with
     |bJ ws=>
      obtain⟨vs,_,r⟩:=hS a _ e;exact list r r h'
     |dct _=>cases h'
     |dk _=>cases h'
     |ins _ _=>cases h'
   |cM _=>cases h
   |bT _ _=>cases h
  |cM f=>cases ry<;>cases h
  |bT f hs=>
   cases ry with
   |ref _=>cases h
   |cM _=>cases h
   |bT g ks=>
    have e:=I.tuple_inj (.of f) (.of g);subst e;exact list hs ks h
theorem Kp{A:bx}:A.in1.units=A.units+1:=rfl
theorem B3 (I:mW X ag σ H s) (hS:m5 X.K H S):∀(n:Nat) {A:bx}{wx wy:W}{x y:V}{u v:aj}{b:Bool},A.units+n<cLine→n9 X.K H wx x→n9 X.K H wy y→nA x u→nA y v→oq S n wx wy=aa b→
  fi A s u v b∧f9 A s u v b∧gb A s u v (!b)
 |0,_,_,_,_,_,_,_,_,_,_,_,_,_,h=>by cases h
 |n+1,A,wx,wy,x,y,u,v,b,hu,rx,ry,ru,rv,h=>by
  have hu0:A.units<cLine:=by lia
  have items:∀{ws zs:List W}{xs ys:List V}{us vs:List aj}{b:Bool},mY X.K H ws xs→mY X.K H zs ys→ni xs us→ni ys vs→oD (oq S n) ws zs=aa b→
    (∀j (h1:j<us.toArray.size) (h2:j<vs.toArray.size),fi A.in1 s us.toArray[j] vs.toArray[j] ((oq S n (ws.getD j .b_) (zs.getD j .b_)).getD true))∧
    ((bD (min us.toArray.size vs.toArray.size)).all (λj=>(oq S n (ws.getD j .b_) (zs.getD j .b_)).getD true)&&us.toArray.size == vs.toArray.size)=b:=by
   intro ws zs xs ys us vs b r1 r2 q1 q2 e;obtain⟨h1,h2⟩:=KP e;have l1:=r1.length;have l2:=r2.length;have l3:=q1.length;have l4:=q2.length;refine⟨λj j1 j2=>?_,?_⟩
   ·rw[bj]at j1 j2;obtain⟨c,hc⟩:=h1 j `l `l;have jw:j<ws.length:=by lia
    have jz:j<zs.length:=by lia
    obtain⟨x',ex,rx'⟩:=r1.get (aP jw);obtain⟨y',ey,ry'⟩:=r2.get (aP jz);obtain⟨u',eu,ru'⟩:=q1.get ex;obtain⟨v',ev,rv'⟩:=q2.get ey;have e1:us.toArray[j]=u':=by
     obtain⟨_,e⟩:=cj.mp eu;simpa using e
    have e2:vs.toArray[j]=v':=by
     obtain⟨_,e⟩:=cj.mp ev;simpa using e
    have g1:ws.getD j .b_=ws[j]:=by rw[bw,aP jw];rfl
    have g2:zs.getD j .b_=zs[j]:=by rw[bw,aP jz];rfl
    rw[e1,e2,hc];rw[g1,g2]at hc;exact(B3 I hS n (by rw[Kp];lia) rx' ry' ru' rv' hc).1
   ·rw[bj,bj,←l3,←l4,←l1,←l2];exact h2
  cases rx with
  |b_=>
   cases(show u=cR from ru);cases ry with
   |b_=>cases(show v=cR from rv);cases h;exact⟨.same _, .none_none, .none_none⟩
   |_=>cases h
  |bl k=>
   cases(show u=eS k from ru);cases ry with
   |bl j=>cases(show v=eS j from rv);cases h;exact⟨.bool_bool _ _, .bool_bool _ _, .bool_bool _ _⟩
   |_=>cases h
  |int k=>
   obtain⟨t0,rfl⟩:=ru;cases ry with
   |int j=>obtain⟨t,rfl⟩:=rv;cases h;exact⟨.int_int _ _ _ _, .int_int _ _ _ _, .int_int _ _ _ _⟩
   |bT f hs=>cases(show v=bP _ from rv);cases h;obtain⟨dR,_,p,_⟩:=I.tuple (.of f);exact⟨.int_tuple _ _ p hu0, .int_tuple _ _ p hu0, .int_tuple _ _ p hu0⟩
   |_=>cases h
  |str k=>
   obtain⟨t0,rfl⟩:=ru;cases ry with
   |str j=>obtain⟨t,rfl⟩:=rv;cases h;exact⟨.str_str _ _ _ _, .str_str _ _ _ _, .str_str _ _ _ _⟩
   |_=>cases h
  | @bT a xs ws f hs=>
   cases(show u=bP a from ru);obtain⟨dR,q1,p,_⟩:=I.tuple (.of f);cases ry with
   |int j=>obtain⟨t,rfl⟩:=rv;cases h;exact⟨.tuple_int _ _ p hu0, .tuple_int _ _ p hu0, .tuple_int _ _ p hu0⟩
   | @bT c ys zs g ks=>
    cases(show v=bP c from rv);obtain⟨its2,q2,p2,_⟩:=I.tuple (.of g);obtain⟨h1,h2⟩:=items hs ks q1 q2 h;have rc:f9 A s (.ref a) (.ref c) b:=by
     have:=f9.tuples p p2 hu0 h1;rw[h2]at this;exact this
    have rn:gb A s (.ref a) (.ref c) (!b):=by
     have:=gb.tuples p p2 hu0 h1;rw[h2]at this;exact this
    refine⟨?_,rc,rn⟩;by_cases e:a=c
    ·subst e;have:=Gy I (n+1) (.bT f hs) (.bT g ks) hS h;rw[this];exact .same _
    ·exact .of_refs e rc
   |_=>cases h
  |ref a=>
   cases(show u=bP a from ru);cases ry with
   |ref c=>
    cases(show v=bP c from rv);have h':(match S a with
     |some (.bJ xs)=>match S c with
      |some (.bJ ys)=>oD (oq S n) xs ys
      |_=>none
     |_=>none)=aa b:=h
    cases e:S a with
    |none=>rw[e]at h';cases h'
    |some o=>
     rw[e]at h';cases o with
     |dct _=>cases h'
     |dk _=>cases h'
     |ins _ _=>cases h'
     |bJ ws=>
      cases e2:S c with
      |none=>rw[e2]at h';cases h'
      |some o2=>
       rw[e2]at h';cases o2 with
       |dct _=>cases h'
       |dk _=>cases h'
       |ins _ _=>cases h'
       |bJ zs=>
        obtain⟨xs,f,hs⟩:=hS a _ e;obtain⟨ys,g,ks⟩:=hS c _ e2;obtain⟨dR,q1,p,_⟩:=I.list (.of f);obtain⟨its2,q2,p2,_⟩:=I.list (.of g);obtain⟨h1,h2⟩:=items hs ks q1 q2 h';have both:f9 A s (.ref a) (.ref c) b∧gb A s (.ref a) (.ref c) (!b):=by
         by_cases hz:dR.toArray.size=its2.toArray.size
         ·have t1:=f9.lists p.isList p2.isList hz hu0 h1;have t2:=gb.lists p.isList p2.isList hz hu0 h1;rw[←hz,Nat.min_self,beq_self_eq_true,Bool.and_true]at h2;rw[h2]at t1 t2;exact⟨t1,t2⟩
         ·have hz':(dR.toArray.size != its2.toArray.size)=true:=by simpa using hz
          have hz2:(dR.toArray.size == its2.toArray.size)=false:=by simpa using hz
          rw[hz2,gN]at h2;subst h2;exact⟨.lists_lengths p.isList p2.isList hz' hu0, .lists_lengths p.isList p2.isList hz' hu0⟩
        refine⟨?_,both.1,both.2⟩;by_cases ee:a=c
        ·subst ee;have:=Gy I (n+1) (.ref a) (.ref a) hS h;rw[this];exact .same _
        ·exact .of_refs ee both.1
   |_=>cases h
  |cM f=>cases ry<;>cases h
def pH (neg:Bool) (x:W) (y:W) (S:kB) (Q:WK):Prop:=match oq S 60 x y with
 |some b=>Q (.bl (if neg then !b else b)) S
 |none=>False
def Gf (K:am) (neg:Bool):R2:=λx y H Q=>∃wx wy S b,n9 K H wx x∧n9 K H wy y∧m5 K H S∧oq S 60 wx wy=aa b∧Q (.bl (if neg then !b else b)) H
def UJ (hu:X.A.units+60<cLine):oI X (bF .Eq) (Gf X.K false):=by
 intro ag s σ H x y v u Q I rx ry h;obtain⟨wx,wy,S,b,r1,r2,hS,e,q⟩:=h;exact(B3 I hS 60 hu r1 r2 rx ry e).2.1 _ _ _ _ ⟨.bl b,H,I,rfl,q⟩
def Sq (hu:X.A.units+60<cLine):oI X (bF .NotEq) (Gf X.K true):=by
 intro ag s σ H x y v u Q I rx ry h;obtain⟨wx,wy,S,b,r1,r2,hS,e,q⟩:=h;exact(B3 I hS 60 hu r1 r2 rx ry e).2.2 _ _ _ _ ⟨.bl (!b),H,I,rfl,q⟩
def Hj{K:am}{neg:Bool}:rP K (Gf K neg) (pH neg):=λH x y wx wy S Q QW rx ry hS h hQ=>by
 unfold pH at h;split at h
 ·rename_i b e;exact⟨wx,wy,S,b,rx,ry,hS,e,hQ _ S _ H .refl (.bl _) hS h⟩
 ·exact h.elim
abbrev wG:W2:=rE λi j=> .bl (decide (i<j))
abbrev uu:W2:=rE λi j=> .bl (decide (j<i))
abbrev J_:W2:=rE λi j=> .bl (decide (j≤i))
def tf:W2
 | .int i, .int j,S,Q=>Q (.bl (decide (i≤j))) S
 | .str i, .str j,S,Q=>Q (.bl (!decide (j.cps.toList<i.cps.toList))) S
 |_,_,_,_=>False
def DD{K:am}:rP K (λx y H Q=>sW (λi j=> .bl (decide (i≤j))) x y H Q∨(∃i j,x= .str i∧y= .str j∧Q (.bl (!decide (j.cps.toList<i.cps.toList))) H)) tf:=λH x y wx wy S Q QW rx ry hS h hQ=>by
 cases rx with
 |int i=>
  cases ry with
  |int j=>exact .inl ⟨i,j,rfl,rfl,hQ _ S _ H .refl (.bl _) hS h⟩
  |_=>exact h.elim
 |str i=>
  cases ry with
  |str j=>exact .inr ⟨i,j,rfl,rfl,hQ _ S _ H .refl (.bl _) hS h⟩
  |_=>exact h.elim
 |_=>exact h.elim
def xb (r r':W2) (a b c:WE) (E:WX) (σ:nj) (S:kB) (Q:WK):Prop:=a E σ S λx S1=>b E σ S1 λy S2=>r x y S2 λz S3=>match z with
 | .bl true=>c E σ S3 λu S4=>r' y u S4 Q
 | .bl false=>Q (.bl false) S3
 |_=>False
def p8 (neg:Bool):W2
 | .b_, .b_,S,Q=>Q (.bl (!neg)) S
 | .bl a, .bl b,S,Q=>Q (.bl (if neg then a != b else a == b)) S
 | .bl _, .b_,S,Q=>Q (.bl neg) S
 | .int _, .b_,S,Q=>Q (.bl neg) S
 | .str _, .b_,S,Q=>Q (.bl neg) S
 | .bT _, .b_,S,Q=>Q (.bl neg) S
 | .ref _, .b_,S,Q=>Q (.bl neg) S
 |_,_,_,_=>False
def YW:oI X (bF .Is) (λx y H Q=>(y= .b_∧Q (.bl (decide (x= .b_))) H)∨ ∃a b,x= .bl a∧y= .bl b∧Q (.bl (a == b)) H):=wI.or (by
 intro ag s σ H x y v u Q I rx ry h;obtain⟨a,b,rfl,rfl,q⟩:=h;cases rx;cases ry;exact is_bool ⟨.bl _,H,I,rfl,q⟩)
def Rv:oI X (bF .IsNot) (λx y H Q=>(y= .b_∧Q (.bl (!decide (x= .b_))) H)∨ ∃a b,x= .bl a∧y= .bl b∧Q (.bl (a != b)) H):=vk.or (by
 intro ag s σ H x y v u Q I rx ry h;obtain⟨a,b,rfl,rfl,q⟩:=h;cases rx;cases ry;exact isnot_bool ⟨.bl _,H,I,rfl,q⟩)
def Rt{K:am}:rP K (λx y H Q=>(y= .b_∧Q (.bl (decide (x= .b_))) H)∨ ∃a b,x= .bl a∧y= .bl b∧Q (.bl (a == b)) H) (p8 false):=λH x y wx wy S Q QW rx ry hS h hQ=>by
 cases ry with
 |b_=>cases rx<;>first |exact .inl ⟨rfl,by simpa using hQ _ S _ H .refl (.bl _) hS h⟩ |exact h.elim
 |bl b=>
  cases rx with
  |bl a=>exact .inr ⟨a,b,rfl,rfl,hQ _ S _ H .refl (.bl _) hS h⟩
  |_=>exact h.elim
 |_=>cases rx<;>exact h.elim
def Va{K:am}:rP K (λx y H Q=>(y= .b_∧Q (.bl (!decide (x= .b_))) H)∨ ∃a b,x= .bl a∧y= .bl b∧Q (.bl (a != b)) H) (p8 true):=λH x y wx wy S Q QW rx ry hS h hQ=>by
 cases ry with
 |b_=>cases rx<;>first |exact .inl ⟨rfl,by simpa using hQ _ S _ H .refl (.bl _) hS h⟩ |exact h.elim
 |bl b=>
  cases rx with
  |bl a=>exact .inr ⟨a,b,rfl,rfl,hQ _ S _ H .refl (.bl _) hS h⟩
  |_=>exact h.elim
 |_=>cases rx<;>exact h.elim
noncomputable def r8 (S:kB) (x:W):List W→Option Bool
 | []=>aa false
 |w::ws=>match oq S 59 w x with
  |some a=>match r8 S x ws with
   |some b=>aa (a || b)
   |none=>none
  |none=>none
section
theorem DZ (I:mW X ag σ H s) (hS:m5 X.K H S):∀(n:Nat) {w w' u:W}{v:V}{b b':Bool},n9 X.K H w v→n9 X.K H w' v→oq S n w u=aa b→oq S n w' u=aa b'→b=b'
 |0,_,_,_,_,_,_,_,_,h,_=>by cases h
 |n+1,w,w',u,v,b,b',r,r',h,h'=>by
  have list:∀{us ws zs:List W}{vs:List V}{b b':Bool},mY X.K H ws vs→mY X.K H zs vs→oD (oq S n) ws us=aa b→oD (oq S n) zs us=aa b'→b=b':=by
   intro us
   induction us with
   |nil=>
    intro ws zs vs b b' r1 r2 e1 e2;cases r1 with
    |nil=>cases r2;rw[e1]at e2;exact aO e2
    |cons _ _=>cases r2 with
     |cons _ _=>have:=aO e1;have:=aO e2;subst_vars;rfl
   |cons u us ih=>
    intro ws zs vs b b' r1 r2 e1 e2;cases r1 with
    |nil=>cases r2;rw[e1]at e2;exact aO e2
    |cons a1 a2=>
     cases r2 with
     |cons c1 c2=>
      unfold oD at e1 e2;split at e1
      ·rename_i p q f1 f2;split at e2
       ·rename_i p' q' g1 g2;have h1:=DZ I hS n a1 c1 f1 g1;have h2:=ih a2 c2 f2 g2;rw[←aO e1,←aO e2,h1,h2]
       ·cases e2
      ·cases e1
  have nolist:∀{a:ai}{vs:List V}{ws:List W},H a=aa (.bT vs)→S a=aa (.bJ ws)→False:=λf e=>by
   obtain⟨_,g,_⟩:=hS _ _ e;rw[f]at g;cases g
  cases r with
  |b_=>cases r';rw[h]at h';exact aO h'
  |bl k=>cases r';rw[h]at h';exact aO h'
  |int k=>cases r';rw[h]at h';exact aO h'
  |str k=>cases r';rw[h]at h';exact aO h'
  |cM f=>cases u<;>cases h
  | @bT a vs ws f hs=>
   cases r' with
   | @bT _ us zs g ks=>
    rw[f]at g;cases g;cases u with
    |bT us=>exact list hs ks h h'
    |int _=>have:=aO h;have:=aO h';subst_vars;rfl
    |_=>cases h
   |cM _=>cases u<;>cases h'
   |ref _=>
    exfalso;cases u with
    |ref c=>
     have h2:(match S a with
      |some (.bJ xs)=>match S c with
       |some (.bJ ys)=>oD (oq S n) xs ys
       |_=>none
      |_=>none)=aa b':=h'
     split at h2
     ·exact nolist f ‹_›
     ·cases h2
    |_=>cases h'
  |ref a=>
   cases r' with
   |ref _=>rw[h]at h';exact aO h'
   |cM _=>cases u<;>cases h'
   |bT f hs=>
    exfalso;cases u with
    |ref c=>
     have h2:(match S a with
      |some (.bJ xs)=>match S c with
       |some (.bJ ys)=>oD (oq S n) xs ys
       |_=>none
      |_=>none)=aa b:=h
     split at h2
     ·exact nolist f ‹_›
     ·cases h2
    |_=>cases h
open Classical in
def Bt (I:mW X ag σ H s) (hS:m5 X.K H S) {A:bx}{ws:List W}{vs:List V}{us:List aj}{wx:W}{x:V}{u:aj}{b:Bool}(hu:A.units+60<cLine) (r:mY X.K H ws vs) (rv:ni vs us) (rx:n9 X.K H wx x) (ru:nA x u) (h:r8 S wx ws=aa b) :
  ∃e:aj→Bool,(∀y,y∈us.toArray→fi A.in1 s y u (e y))∧us.toArray.any e=b:=by
 refine⟨λy=>decide (∃w v,n9 X.K H w v∧nA v y∧oq S 59 w wx=aa true),?_,?_⟩
 ·have go:∀{ws:List W}{vs:List V}{us:List aj}{b:Bool},mY X.K H ws vs→ni vs us→r8 S wx ws=aa b→ ∀y∈us,fi A.in1 s y u (decide (∃w v,n9 X.K H w v∧nA v y∧oq S 59 w wx=aa true)):=by
   intro ws
   induction ws with
   |nil=>intro vs us b r rv h y hy;cases r;cases rv;cases hy
   |cons w ws ih=>
    intro vs us b r rv h y hy;cases r with
    |cons r1 r2=>
     cases rv with
     |cons q1 q2=>
      unfold r8 at h;split at h
      ·rename_i c e1;split at h
       ·rename_i d e2;obtain rfl |hy:=aB.mp hy
        ·have ok:=(B3 I hS 59 (A:=A.in1) (by rw[Kp];lia) r1 rx q1 ru e1).1;have ec:c=decide (∃w v,n9 X.K H w v∧nA v y∧oq S 59 w wx=aa true):=by
          cases c with
          |true=>exact(decide_eq_true ⟨w,_,r1,q1,e1⟩).symm
          |false=>
           symm;refine decide_eq_false λ⟨w',v',r',q',e'⟩=>?_;have:=nA.inj q' q1;subst this;exact absurd (DZ I hS 59 r1 r' e1 e') `s
         rw[←ec];exact ok
        ·exact ih r2 q2 e2 y hy
       ·cases h
      ·cases h
  intro y hy;exact go r rv h y (by simpa using hy)
 ·have go:∀{ws:List W}{vs:List V}{us:List aj}{b:Bool},mY X.K H ws vs→ni vs us→r8 S wx ws=aa b→us.any (λy=>decide (∃w v,n9 X.K H w v∧nA v y∧oq S 59 w wx=aa true))=b:=by
   intro ws
   induction ws with
   |nil=>intro vs us b r rv h;cases r;cases rv;exact aO h
   |cons w ws ih=>
    intro vs us b r rv h;cases r with
    |cons r1 r2=>
     cases rv with
     | @cons _ _ _ _ q1 q2=>
      rename_i y _;unfold r8 at h;split at h
      ·rename_i c e1;split at h
       ·rename_i d e2;have ec:decide (∃w v,n9 X.K H w v∧nA v y∧oq S 59 w wx=aa true)=c:=by
          cases c with
          |true=>exact decide_eq_true ⟨w,_,r1,q1,e1⟩
          |false=>
           refine decide_eq_false λ⟨w',v',r',q',e'⟩=>?_;have:=nA.inj q' q1;subst this;exact absurd (DZ I hS 59 r1 r' e1 e') `s
        rw[fh,ih r2 q2 e2,ec];exact aO h
       ·cases h
      ·cases h
  have:=go r rv h;simpa using this
end
def uy (neg:Bool):W2:=λx y S Q=>match y with
 | .str j=>match x with
  | .str i=>Q (.bl (if neg then !(!(db j i 0 j.length 1).isEmpty) else !(db j i 0 j.length 1).isEmpty)) S
  |_=>False
 | .bT ws=>match r8 S x ws with
  |some b=>Q (.bl (if neg then !b else b)) S
  |none=>False
 | .ref a=>oA S a λws=>match r8 S x ws with
  |some b=>Q (.bl (if neg then !b else b)) S
  |none=>False
 |_=>False
def E_ (K:am) (neg:Bool):R2:=λx y H Q=>∃wx ws vs S p b,y= .ref p∧(o9 K H p vs∨pQ K H p vs)∧mY K H ws vs∧n9 K H wx x∧m5 K H S∧r8 S wx ws=aa b∧Q (.bl (if neg then !b else b)) H
def YC (hu:X.A.units+60<cLine):oI X (bF .In) (E_ X.K false):=by
 intro ag s σ H x y v u Q I rx ry h;obtain⟨wx,ws,vs,S,p,b,rfl,hq,rs,r,hS,e,q⟩:=h;cases ry;obtain hq |hq:=hq
 ·obtain⟨dR,rv,p,_⟩:=I.list hq;obtain⟨f,h1,h2⟩:=Bt I hS hu rs rv r rx e;exact SeqAt.in_listAt f p.isList h1 (by rw[h2];exact⟨.bl b,H,I,rfl,q⟩)
 ·obtain⟨dR,rv,p,_⟩:=I.tuple hq;obtain⟨f,h1,h2⟩:=Bt I hS hu rs rv r rx e;exact SeqAt.in_tupleAt f p h1 (by rw[h2];exact⟨.bl b,H,I,rfl,q⟩)
def Uw (hu:X.A.units+60<cLine):oI X (bF .NotIn) (E_ X.K true):=by
 intro ag s σ H x y v u Q I rx ry h;obtain⟨wx,ws,vs,S,p,b,rfl,hq,rs,r,hS,e,q⟩:=h;cases ry;obtain hq |hq:=hq
 ·obtain⟨dR,rv,p,_⟩:=I.list hq;obtain⟨f,h1,h2⟩:=Bt I hS hu rs rv r rx e;exact SeqAt.notIn_listAt f p.isList h1 (by rw[h2];exact⟨.bl (!b),H,I,rfl,q⟩)
 ·obtain⟨dR,rv,p,_⟩:=I.tuple hq;obtain⟨f,h1,h2⟩:=Bt I hS hu rs rv r rx e;exact SeqAt.notIn_tupleAt f p h1 (by rw[h2];exact⟨.bl (!b),H,I,rfl,q⟩)
def Je{K:am}{neg:Bool}{H:Hp}{x y:V}{wx wy:W}{S:kB}{Q:VK}{QW:WK}(rx:n9 K H wx x) (ry:n9 K H wy y) (hS:m5 K H S) (h:uy neg wx wy S QW) (hQ:pJ K H S QW Q) :
  (∃i j,x= .str i∧y= .str j∧Q (.bl (if neg then !(!(db j i 0 j.length 1).isEmpty) else !(db j i 0 j.length 1).isEmpty)) H)∨E_ K neg x y H Q:=by
 cases ry with
 |str j=>
  cases rx with
  |str i=>exact .inl ⟨i,j,rfl,rfl,hQ _ S _ H .refl (.bl _) hS h⟩
  |_=>exact h.elim
 |bT f hs=>
  refine .inr ?_;unfold uy at h;dsimp only at h;split at h
  ·exact⟨wx,_,_,S,_,_,rfl, .inr (.of f),hs,rx,hS, ‹_›,hQ _ S _ H .refl (.bl _) hS h⟩
  ·exact h.elim
 |ref a=>
  refine .inr ?_;obtain⟨ws,e,h⟩:=qI h;obtain⟨vs,f,hs⟩:=hS a _ e;split at h
  ·exact⟨wx,_,_,S,_,_,rfl, .inl (.of f),hs,rx,hS, ‹_›,hQ _ S _ H .refl (.bl _) hS h⟩
  ·exact h.elim
 |_=>exact h.elim
def m4:W2:=λx y S Q=>match y with
 | .int i=>match x with
  | .bT ws=>match nW ws i with
   |some w=>Q w S
   |none=>False
  | .ref a=>oA S a λws=>match nW ws i with
   |some w=>Q w S
   |none=>False
  | .cM ns=>match nW ns i with
   |some n=>Q (.int n) S
   |none=>False
  | .str x=>x.length≤sizeLine∧match nW x.cps.toList i with
   |some c=>Q (.str ⟨#[c]⟩) S
   |none=>False
  |_=>False
 |_=>False
def GT{K:am}{H:Hp}{ws:List W}{vs:List V}{i:Int}{w:W}(r:mY K H ws vs) (e:nW ws i=aa w):∃v,nW vs i=aa v∧n9 K H w v:=by
 unfold nW at e⊢;rw[←r.length];cases q:um ws.length i with
 |none=>rw[q]at e;cases e
 |some j=>rw[q]at e;exact r.get e
def Vr{α β:Type}{f:α→β}{xs:List α}{i:Int}{x:α}(e:nW xs i=aa x):nW (xs.map f) i=aa (f x):=by
 unfold nW at e⊢;rw[ay];cases q:um xs.length i with
 |none=>rw[q]at e;cases e
 |some j=>
  rw[q]at e;show(xs.map f)[j]? =_;rw[aV,show xs[j]? =aa x from e];rfl
def Vc{K:am}:rP K (Mp K) m4:=λH x y wx wy S Q QW rx ry hS h hQ=>by
 cases ry with
 |int i=>
  cases rx with
  |bT f hs=>
   unfold m4 at h;dsimp only at h;split at h
   ·obtain⟨v,ev,r⟩:=GT hs ‹_›;exact .inr (.inl ⟨_,_,i,v,rfl,rfl, .of f,ev,hQ _ S _ H .refl r hS h⟩)
   ·exact h.elim
  |ref a=>
   obtain⟨ws,e,h⟩:=qI h;obtain⟨vs,f,hs⟩:=hS a _ e;split at h
   ·obtain⟨v,ev,r⟩:=GT hs ‹_›;exact .inl ⟨_,_,i,v,rfl,rfl, .of f,ev,hQ _ S _ H .refl r hS h⟩
   ·exact h.elim
  |cM f=>
   unfold m4 at h;dsimp only at h;split at h
   ·exact .inl ⟨_,_,i,_,rfl,rfl,f.sq,Vr ‹_›,hQ _ S _ H .refl (.int _) hS h⟩
   ·exact h.elim
  |str z=>
   unfold m4 at h;dsimp only at h;obtain⟨hz,h⟩:=h;split at h
   ·exact .inr (.inr ⟨z,i,_,rfl,rfl,hz, ‹_›,hQ _ S _ H .refl (.str _) hS h⟩)
   ·exact h.elim
  |_=>exact h.elim
 |_=>exact h.elim
section
variable {X:Cx}{a b e:Expr}{pos p2:bv}{ta tb te:WE}{lo hi:Option Expr}
def U' (ha:JE X a ta) (hb:JE X b tb) (hs:Cv b:=by intro _ _;rfl):JE X (.Subscript a b pos) (kD m4 ta tb):=λE hE=>
 (Jp Jy (ha E hE) (hb E hE) hs).mono λσ H Q h=>Bi h λH2 x y wx wy S QW rx ry hS q hQ=>Vc H2 x y wx wy S Q QW rx ry hS q hQ
abbrev WO:=WX→nj→kB→(Option Int→kB→Prop)→Prop
def zFH (K:am) (t:nj→kB→(Option Int→kB→Prop)→Prop):TO:=λσ H Q=>∃σW S QW,nS K H σW σ∧m5 K H S∧t σW S QW∧ ∀b S' H',oh H S H' S'→m5 K H' S'→QW b S'→Q b H'
def JO (X:Cx) (e:Option Expr) (t:WO):Prop:=∀E,pI X E→PO X e (zFH X.K (t E))
def oX (_:WX) (_:nj) (S:kB) (Q:Option Int→kB→Prop):Prop:=Q none S
def oY (t:WE) (E:WX) (σ:nj) (S:kB) (Q:Option Int→kB→Prop):Prop:=t E σ S λw S1=>match w with
 | .int i=>Q (aa i) S1
 |_=>False
def PO.mono{X:Cx}{e:Option Expr}{t t':TO}(h:PO X e t) (q:∀σ H Q,t' σ H Q→t σ H Q):PO X e t':=λag s σ H Q I z=>h ag s σ H Q I (q σ H Q z)
def ZF:JO X none oX:=λE hE=>uK.mono λσ H Q zz=>on zz λσW S QW hσ hS ht hQ=>hQ none S H .refl hS ht
def ZZ (h:JE X e te):JO X (aa e) (oY te):=λE hE=>(SG (h E hE)).mono λσ H Q zz=>on zz λσW S QW hσ hS ht hQ=>⟨σW,S,_,hσ,hS,ht,λw S1 v H1 e1 r1 gV h1=>by
 cases r1 with
 |int i=>exact⟨i,rfl,hQ _ S1 H1 e1 gV h1⟩
 |_=>exact h1.elim⟩
noncomputable def pG {α:Type}(xs:List α) (lo hi:Option Int):List α:=(xs.drop (HT.sIx xs.length 0 lo)).take (HT.sIx xs.length xs.length hi - HT.sIx xs.length 0 lo)
def Fy{K:am}{H:Hp}{ws:List W}{vs:List V}{lo hi:Option Int}(r:mY K H ws vs):mY K H (pG ws lo hi) (tL vs lo hi):=by
 unfold pG tL;rw[r.length];exact(r.drop _).take _
def K6{α β:Type}{f:α→β}{xs:List α}{lo hi:Option Int}:pG (xs.map f) lo hi=(pG xs lo hi).map f:=by
 unfold pG;rw[ay,lE,mw]
def X6{prog:bb}{w:aQ}{A:bx}{E:aj→aq→Prop}{s:aq}{t sl:ai}{items:Array aj}{vl vu:aj}{lo hi:Option Int}{Q:aj→aq→Prop}(ht:eO s.heap t items) (hs:s.heap.IsSliceOf sl vl vu .none) (pl:da vl lo) (pu:da vu hi)
  (hw:HT.sIx items.size 0 lo=0∧HT.sIx items.size items.size hi=items.size) (h:Q (.ref t) s):av (aC prog w) A (d7 (.ref t) (.ref sl)) Q E s:=by
 obtain⟨os,hos,hcs,hds⟩:=id hs;have hTs:s.TypeIs (.ref sl) "slice" :=⟨os,hos,hcs⟩;unfold d7
 try with_reducible refine gC ?_
 first |refine au (aK ?_) |skip
 refine au (lP ht.typeIs `d ?_);refine au (dH (name:=bK "__getitem__") ht.typeIs eQ
  (dL eQ ht.typeIs kX ?_ (ml _ _)))
 show av _ _ (lB (.ref t) >>= _) _ _ s;refine au (tupleItemsOf_ ht ?_);refine au (fV hTs ?_);rw[if_pos `d];refine au (HT.sliceApplied_gen hs pl pu ?_);show av _ _ (if(((HT.sIx items.size 0 lo:Nat):Int) == 0&&(1:Int) == 1&&(HT.sIx items.size items.size hi - HT.sIx items.size 0 lo) == items.size)=true then _ else _) _ _ s;rw[hw.1,hw.2,if_pos `s];unfold cr.Tuple.tupleIsExact;refine au (au (fV ht.typeIs (aK ?_)));rw[if_pos `d];exact au (eW (aK ⟨_,rfl,aK h⟩))
def uI:uF X (λx lo hi H Q=>∃a xs,x= .ref a∧pQ X.K H a xs∧((HT.sIx xs.length 0 lo=0∧HT.sIx xs.length xs.length hi=xs.length)∧Q (.ref a) H∨ ¬(HT.sIx xs.length 0 lo=0∧HT.sIx xs.length xs.length hi=xs.length)∧ ∀p,H p=none→Q (.ref p) (oa H p (.bT (tL xs lo hi))))):=by
 intro ag s σ H x v vl vu lo hi sl Q I rx hs pl pu h;obtain⟨a,xs,rfl,hx,⟨hw,q⟩ |⟨hw,q⟩⟩:=h
 ·cases rx;obtain⟨dR,r,ht,hz⟩:=I.tuple hx;have hlen:dR.toArray.size=xs.length:=by rw[bj];exact r.length.symm
  refine⟨"tuple",_,eQ.lookup,ht.typeIs,?_⟩;exact X6 ht hs pl pu (by rw[hlen];exact hw) ⟨.ref a,H,I,rfl,q⟩
 ·exact XD ag s σ H _ v vl vu lo hi sl Q I rx hs pl pu ⟨a,xs,rfl,hx,hw,q⟩
def Ap:W→Option Int→Option Int→kB→WK→Prop
 | .bT ws,lo,hi,S,Q=>Q (.bT (pG ws lo hi)) S
 | .str z,lo,hi,S,Q=>z.length≤sizeLine∧Q (.str (c8 z lo hi)) S
 | .ref a,lo,hi,S,Q=>oA S a λws=>∀p,S p=none→Q (.ref p) (bQ S p (.bJ (pG ws lo hi)))
 | .cM ns,lo,hi,S,Q=>∀p,S p=none→Q (.ref p) (bQ S p (.bJ ((pG ns lo hi).map W.int)))
 |_,_,_,_,_=>False
def pf (t:WE) (l h:WO) (E:WX) (σ:nj) (S:kB) (Q:WK):Prop:=t E σ S λx S1=>l E σ S1 λlo S2=>h E σ S2 λhi S3=>Ap x lo hi S3 Q
def R3{α:Type}{xs:List α}{lo hi:Option Int}(h:HT.sIx xs.length 0 lo=0∧HT.sIx xs.length xs.length hi=xs.length):pG xs lo hi=xs:=by
 unfold pG;rw[h.1,h.2,dO,eZ,jO]
def SU{tl th:WO}(he:JE X e te) (hl:JO X lo tl) (hh:JO X hi th):JE X (.Subscript e (.Slice lo hi none p2) pos) (pf te tl th):=λE hE=>
 (Jd (uI.or (wN.or OK)) (he E hE) (hl E hE) (hh E hE)).mono λσ H Q zz=>on zz λσW S QW hσ hS ht hQ=>
  ⟨σW,S,_,hσ,hS,ht,λw S1 v H1 e1 r1 gV h1=>⟨σW,S1,_,hσ.ext e1,gV,h1,λlo S2 H2 e2 hS2 h2=>⟨σW,S2,_,(hσ.ext e1).ext e2,hS2,h2,λhi S3 H3 e3 hS3 h3=>by
   have hQ':=hQ.from (e1.trans (e2.trans e3));have r3:=(r1.ext e2).ext e3;cases r3 with
   | @bT a vs ws f hs=>
    refine .inl ⟨a,vs,rfl, .of f,?_⟩;by_cases hw:HT.sIx vs.length 0 lo=0∧HT.sIx vs.length vs.length hi=vs.length
    ·refine .inl ⟨hw,hQ' (.bT ws) S3 _ H3 .refl (.bT f hs) hS3 ?_⟩;have:=R3 (xs:=ws) (lo:=lo) (hi:=hi) (by rw[hs.length];exact hw);have h3':QW (.bT (pG ws lo hi)) S3:=h3;rw[this]at h3';exact h3'
    ·exact .inr ⟨hw,λp hp=>hQ' _ S3 _ _ (.new hp) (.bT qb ((Fy hs).ext (.new (S:=S3) hp))) (hS3.new hp) h3⟩
   |str z=>exact .inr (.inl ⟨z,rfl,h3.1,hQ' _ S3 _ H3 .refl (.str _) hS3 h3.2⟩)
   |ref a=>
    obtain⟨ws,ea,h⟩:=qI h3;obtain⟨vs,f,hs⟩:=hS3 a _ ea;exact .inr (.inr ⟨a,vs,rfl, .of f,λp hp=>hQ' _ _ _ _ (.newS hp) (.ref p) (hS3.put_lst hp ((Fy hs).ext (.new (S:=S3) hp))) (h p (hS3.free hp))⟩)
   | @cM a ns f=>
    refine .inr (.inr ⟨a,_,rfl,f.sq,λp hp=>hQ' _ _ _ _ (.newS hp) (.ref p) (hS3.put_lst hp ?_) (h3 p (hS3.free hp))⟩);have q:tL (ns.map V.int) lo hi=(pG ns lo hi).map V.int:=K6;rw[q];exact mY.ofInts _
   |_=>exact h3.elim⟩⟩⟩
def vO (t:WE) (l h:WO) (E:WX) (σ:nj) (S:kB) (Q:List W→kB→Prop):Prop:=t E σ S λx S1=>l E σ S1 λlo S2=>h E σ S2 λhi S3=>match x with
 | .ref a=>oA S3 a λws=>Q (pG ws lo hi) S3
 | .cM ns=>Q ((pG ns lo hi).map W.int) S3
 |_=>False
def SC{tl th:WO}(he:JE X e te) (hl:JO X lo tl) (hh:JO X hi th):JL X (.Subscript e (.Slice lo hi none p2) pos) (vO te tl th):=λE hE=>
 (Jd OK (he E hE) (hl E hE) (hh E hE)).mono λσ H Q zz=>on zz λσW S QW hσ hS ht hQ=>
  ⟨σW,S,_,hσ,hS,ht,λw S1 v H1 e1 r1 gV h1=>⟨σW,S1,_,hσ.ext e1,gV,h1,λlo S2 H2 e2 hS2 h2=>⟨σW,S2,_,(hσ.ext e1).ext e2,hS2,h2,λhi S3 H3 e3 hS3 h3=>by
   have e':=e1.trans (e2.trans e3);have r3:=(r1.ext e2).ext e3;cases r3 with
   |ref a=>
    obtain⟨ws,ea,h⟩:=qI h3;obtain⟨vs,f,hs⟩:=hS3 a _ ea;exact⟨a,vs,rfl, .of f,λp hp=>hQ _ S3 _ p _ (e'.trans (.new hp)) (e'.free hp) qb (hS3.free hp) ((Fy hs).ext (.new (S:=S3) hp)) (hS3.new hp) h⟩
   | @cM a ns f=>
    refine⟨a,_,rfl,f.sq,λp hp=>hQ _ S3 _ p _ (e'.trans (.new hp)) (e'.free hp) qb (hS3.free hp) ?_ (hS3.new hp) h3⟩;have q:tL (ns.map V.int) lo hi=(pG ns lo hi).map V.int:=K6;rw[q];exact mY.ofInts _
   |_=>exact h3.elim⟩⟩⟩
end
abbrev WF:=List W→kB→WK→Prop
def wB (f:WF) (t:WA) (E:WX) (σ:nj) (S:kB) (Q:WK):Prop:=t E σ S λws S1=>f ws S1 Q
def vE (K:am) (r:List V→Hp→VK→Prop) (f:WF):Prop:=∀H vs ws S (Q:VK) (QW:WK),mY K H ws vs→m5 K H S→f ws S QW→pJ K H S QW Q→r vs H Q
def qR (f:WF) (t:WL) (E:WX) (σ:nj) (S:kB) (Q:WK):Prop:=t E σ S λws S1=>f ws S1 Q
def x_ (K:am) (r:List V→Hp→VK→Prop) (f:WF):Prop:=∀H a vs ws S (Q:VK) (QW:WK),H a=aa (.bJ vs)→S a=none→mY K H ws vs→m5 K H S→f ws S QW→pJ K H S QW Q→r [.ref a] H Q
section
variable {X:Cx}{x:ah}{p pos:bv}{e:Expr}{es:List Expr}{t:WA}{tl:WL}{id T:String}{r:List V→Hp→VK→Prop}{f:WF}
def IF (hc:og X (.builtin id) r) (hw:vE X.K r f) (hg:Gl X x) (hm:X.mg x=none) (hv:cI x=aa (.builtin id)) (ha:JA X (e::es) t) (hn:x≠ "__name__") (hdb:(x == ("__debug__" :ah))=false)
  (he:ax (e::es) X.env=(false,aH e X.env)::ax es X.env) (hpl:(aZ pos (ax es X.env)).any (·.1)=false):JE X (.Call (.Name x p) (e::es) [] pos) (wB f t):=λE hE=>
 (Fi hc hg hm hv (ha E hE) hn hdb he hpl).mono λσ H Q zz=>on zz λσW S QW hσ hS ht hQ=>⟨σW,S,_,hσ,hS,ht,λws S1 vs H1 e1 r1 gV h1=>hw H1 vs ws S1 Q QW r1 gV h1 (hQ.from e1)⟩
def Pr (hc:og X (.type T) r) (hw:vE X.K r f) (hg:Gl X x) (hm:X.mg x=none) (hv:cI x=aa (.type T)) (ha:JA X (e::es) t) (hn:x≠ "__name__") (hdb:(x == ("__debug__" :ah))=false)
  (he:ax (e::es) X.env=(false,aH e X.env)::ax es X.env) (hpl:(aZ pos (ax es X.env)).any (·.1)=false):JE X (.Call (.Name x p) (e::es) [] pos) (wB f t):=λE hE=>
 (DP hc hg hm hv (ha E hE) hn hdb he hpl).mono λσ H Q zz=>on zz λσW S QW hσ hS ht hQ=>⟨σW,S,_,hσ,hS,ht,λws S1 vs H1 e1 r1 gV h1=>hw H1 vs ws S1 Q QW r1 gV h1 (hQ.from e1)⟩
def NH (hc:og X (.builtin id) r) (hw:x_ X.K r f) (hg:Gl X x) (hm:X.mg x=none) (hv:cI x=aa (.builtin id)) (ha:JL X e tl) (hn:x≠ "__name__") (hdb:(x == ("__debug__" :ah))=false)
  (he:ax [e] X.env=(false,aH e X.env)::ax [] X.env) (hpl:(aZ pos (ax [] X.env)).any (·.1)=false):JE X (.Call (.Name x p) [e] [] pos) (qR f tl):=λE hE=>
 (Fi hc hg hm hv (ur (ha E hE) pB he) hn hdb he hpl).mono λσ H Q zz=>on zz λσW S QW hσ hS ht hQ=>⟨σW,S,_,hσ,hS,ht,λws S1 vs a H1 e1 fa ea na r1 gV h1=>hw H1 a vs ws S1 Q QW ea na r1 gV h1 (hQ.from e1)⟩
def Pi (hc:og X (.type T) r) (hw:x_ X.K r f) (hg:Gl X x) (hm:X.mg x=none) (hv:cI x=aa (.type T)) (ha:JL X e tl) (hn:x≠ "__name__") (hdb:(x == ("__debug__" :ah))=false)
  (he:ax [e] X.env=(false,aH e X.env)::ax [] X.env) (hpl:(aZ pos (ax [] X.env)).any (·.1)=false):JE X (.Call (.Name x p) [e] [] pos) (qR f tl):=λE hE=>
 (DP hc hg hm hv (ur (ha E hE) pB he) hn hdb he hpl).mono λσ H Q zz=>on zz λσW S QW hσ hS ht hQ=>⟨σW,S,_,hσ,hS,ht,λws S1 vs a H1 e1 fa ea na r1 gV h1=>hw H1 a vs ws S1 Q QW ea na r1 gV h1 (hQ.from e1)⟩
def pF:WF:=λws S Q=>match ws with
 | [.bT us]=>Q (.int us.length) S
 | [.ref a]=>oA S a λus=>Q (.int us.length) S
 | [.cM ns]=>Q (.int ns.length) S
 | [.str z]=>z.length≤sizeLine∧Q (.int z.length) S
 |_=>False
def Se{K:am}:vE K (λxs H Q=>(∃p ys,xs=[.ref p]∧(o9 K H p ys∨pQ K H p ys)∧Q (.int ys.length) H)∨ ∃z,xs=[.str z]∧z.length≤sizeLine∧Q (.int z.length) H) pF:=λH vs ws S Q QW r hS h hQ=>by
 cases r with
 |nil=>exact h.elim
 |cons r1 r2=>
  cases r2 with
  |cons _ _=>cases r1<;>exact h.elim
  |nil=>
   cases r1 with
   |bT f hs=>exact .inl ⟨_,_,rfl, .inr (.of f),by rw[←hs.length];exact hQ _ S _ H .refl (.int _) hS h⟩
   |ref a=>
    obtain⟨us,e,h⟩:=qI h;obtain⟨vs,f,hs⟩:=hS a _ e;exact .inl ⟨_,_,rfl, .inl (.of f),by rw[←hs.length];exact hQ _ S _ H .refl (.int _) hS h⟩
   |cM f=>exact .inl ⟨_,_,rfl, .inl f.sq,by rw[ay];exact hQ _ S _ H .refl (.int _) hS h⟩
   |str z=>exact .inr ⟨z,rfl,h.1,hQ _ S _ H .refl (.int _) hS h.2⟩
   |_=>exact h.elim
def Ys (hg:Gl X "len") (hm:X.mg "len" =none) (ha:JA X (e::es) t) 
  (he:ax (e::es) X.env=(false,aH e X.env)::ax es X.env) (hpl:(aZ pos (ax es X.env)).any (·.1)=false):JE X (.Call (.Name "len" p) (e::es) [] pos) (wB pF t):=
 IF (q_.or RI) Se hg hm PySem.boot_len ha `d `d he hpl
def sE:WF:=λws S Q=>match ws with
 | [.bT us]=>Q (.bT us) S
 | [.ref a]=>oA S a λus=>Q (.bT us) S
 |_=>False
def Rr{K:am}:vE K (λxs H Q=>∃p ys,xs=[.ref p]∧((o9 K H p ys∧ ∀l,H l=none→Q (.ref l) (oa H l (.bT ys)))∨(pQ K H p ys∧Q (.ref p) H))) sE:=λH vs ws S Q QW r hS h hQ=>by
 cases r with
 |nil=>exact h.elim
 |cons r1 r2=>
  cases r2 with
  |cons _ _=>cases r1<;>exact h.elim
  |nil=>
   cases r1 with
   |bT f hs=>exact⟨_,_,rfl, .inr ⟨.of f,hQ _ S _ H .refl (.bT f hs) hS h⟩⟩
   |ref a=>
    obtain⟨us,e,h⟩:=qI h;obtain⟨vs,f,hs⟩:=hS a _ e;exact⟨_,_,rfl, .inl ⟨.of f,λl hl=>hQ _ S _ _ (.new hl) (.bT qb (hs.ext (.new (S:=S) hl))) (hS.new hl) h⟩⟩
   |_=>exact h.elim
def v9 (ws:List W) (S:kB) (Q:WK):Prop:=Q (.bT ws) S
def V4{K:am}:x_ K (λxs H Q=>∃p ys,xs=[.ref p]∧((o9 K H p ys∧ ∀l,H l=none→Q (.ref l) (oa H l (.bT ys)))∨(pQ K H p ys∧Q (.ref p) H))) v9:=λH a vs ws S Q QW ea na r hS h hQ=>
 ⟨a,vs,rfl, .inl ⟨.of ea,λl hl=>hQ _ S _ _ (.new hl) (.bT qb (r.ext (.new (S:=S) hl))) (hS.new hl) h⟩⟩
def A6 (t:WE) (E:WX) (σ:nj) (S:kB) (Q:List W→kB→Prop):Prop:=t E σ S λw S1=>match w with
 | .bT ws=>Q ws S1
 | .ref a=>oA S1 a λws=>Q ws S1
 | .cM ns=>Q (ns.map W.int) S1
 |_=>False
def Ry{te:WE}(hg:Gl X "list") (hm:X.mg "list" =none) (ha:JE X e te)
  (he:ax [e] X.env=(false,aH e X.env)::ax [] X.env) (hpl:(aZ pos (ax [] X.env)).any (·.1)=false):JL X (.Call (.Name "list" p) [e] [] pos) (A6 te):=λE hE=>
 (DP XS hg hm PyProof.Rows.boot_list (ur (ha E hE) pB he) `d `d he hpl).mono λσ H Q zz=>on zz λσW S QW hσ hS ht hQ=>⟨σW,S,_,hσ,hS,ht,λw S1 v H1 e1 r1 gV h1=>by
  cases r1 with
  |bT f hs=>exact⟨_,_,rfl, .inr (.of f),λl hl=>hQ _ S1 _ l _ (e1.trans (.new hl)) (e1.free hl) qb (gV.free hl) (hs.ext (.new (S:=S1) hl)) (gV.new hl) h1⟩
  |ref a=>
   obtain⟨ws,ea,h⟩:=qI h1;obtain⟨vs,f,hs⟩:=gV a _ ea;exact⟨_,_,rfl, .inl (.of f),λl hl=>hQ _ S1 _ l _ (e1.trans (.new hl)) (e1.free hl) qb (gV.free hl) (hs.ext (.new (S:=S1) hl)) (gV.new hl) h⟩
  |cM f=>exact⟨_,_,rfl, .inl f.sq,λl hl=>hQ _ S1 _ l _ (e1.trans (.new hl)) (e1.free hl) qb (gV.free hl) (mY.ofInts _) (gV.new hl) h1⟩
  |_=>exact h1.elim⟩
noncomputable def tv:List W→Option (List Bool)
 | []=>aa []
 | .bl b::ws=>(tv ws).map (b:: ·)
 |_=>none
def Sd{K:am}{H:Hp}:∀{ws:List W}{vs:List V}{bs:List Bool},mY K H ws vs→tv ws=aa bs→vs=bs.map V.bl:=λ{ws vs bs} h e=>by
 induction ws generalizing vs bs with
 |nil=>cases h;have:=aO e;subst this;rfl
 |cons w ws ih=>
  cases h with
  |cons r rs=>
   cases r with
   |bl b=>
    have e':(tv ws).map (b:: ·)=aa _:=e;cases q:tv ws with
    |none=>rw[q]at e';cases e'
    |some cs=>
     rw[q]at e';have:=aO e';subst this;rw[az,ih rs q]
   |_=>cases e
def ug (ws:List W) (S:kB) (Q:WK):Prop:=match tv ws with
 |some bs=>Q (.bl (bs.all _root_.id)) S
 |none=>False
def Tv{K:am}:x_ K (λxs H Q=>∃(p:ai) (bs:List Bool),xs=[.ref p]∧o9 K H p (bs.map V.bl)∧Q (.bl (bs.all _root_.id)) H) ug:=λH a vs ws S Q QW ea na r hS h hQ=>by
 unfold ug at h;split at h
 ·rename_i bs e;have:=Sd r e;subst this;exact⟨a,bs,rfl, .of ea,hQ _ S _ H .refl (.bl _) hS h⟩
 ·exact h.elim
def wb:W→kB→(String→Prop)→Prop
 | .b_,_,Q=>Q "NoneType"
 | .bl _,_,Q=>Q "bool"
 | .int _,_,Q=>Q "int"
 | .str _,_,Q=>Q "str"
 | .bT _,_,Q=>Q "tuple"
 | .ref a,S,Q=>oA S a λ_=>Q "list"
 | .cM _,_,_=>False
def pY (A B:String):Bool:=A == B || (A == "bool" &&B == "int")
def tq (T:String) (t:WE) (E:WX) (σ:nj) (S:kB) (Q:WK):Prop:=t E σ S λw S1=>wb w S1 λA=>Q (.bl (pY A T)) S1
def YD{a:Expr}{ta:WE}{p2:bv}{T:ah}{T':String}(hg:Gl X "isinstance") (hm:X.mg "isinstance" =none) (hgT:Gl X T) (hmT:X.mg T=none) (hv:cI T=aa (.type T')) (ha:JE X a ta) (hn:T≠ "__name__") (hd:(T == ("__debug__" :ah))=false)
  (hk:∀A∈ ["NoneType", "bool", "int", "str", "tuple", "list"],fU X.K (.type A) (.type T')=aa (pY A T'))
  (he:ax [a, .Name T p2] X.env=(false,aH a X.env)::ax [.Name T p2] X.env:=by rfl) (he2:ax [.Name T p2] X.env=(false,aH (.Name T p2) X.env)::ax [] X.env:=by rfl) (hpl:(aZ pos (ax [.Name T p2] X.env)).any (·.1)=false:=by rfl) :
  JE X (.Call (.Name "isinstance" p) [a, .Name T p2] [] pos) (tq T' ta):=λE hE=>
 (Fi XE hg hm PyProof.Rows.boot_isinstance (ur (ha E hE) (ur (U7 (v:= .ty T') hgT hmT hv rfl hn hd) pB he2) he) `d `d he hpl).mono λσ H Q zz=>on zz λσW S QW hσ hS ht hQ=>⟨σW,S,_,hσ,hS,ht,λw S1 v H1 e1 r1 gV h1=>by
  have fin:∀{t:aj}(A:String),t= .type A→A∈ ["NoneType", "bool", "int", "str", "tuple", "list"]→pU X.K H1 v t→QW (.bl (pY A T')) S1→ ∃x t c b,[v,V.ty T']=[x, .ty c]∧pU X.K H1 x t∧fU X.K t (.type c)=aa b∧Q (.bl b) H1:=λA e hA ty q=>by
   subst e;exact⟨v,_,T',_,rfl,ty,hk A hA,hQ _ S1 _ H1 e1 (.bl _) gV q⟩
  cases r1 with
  |b_=>exact fin _ rfl `s .b_ h1
  |bl b=>exact fin _ rfl `s (.bl b) h1
  |int i=>exact fin _ rfl `s (.int i) h1
  |str z=>exact fin _ rfl `s (.str z) h1
  |bT f hs=>exact fin _ rfl `s (.bT f) h1
  |ref a=>
   obtain⟨ws,ea,h⟩:=qI h1;obtain⟨vs,f,hs⟩:=gV a _ ea;exact fin _ rfl `s (.bJ f) h
  |cM f=>exact h1.elim⟩
end
abbrev rV:=W→List W→kB→WK→Prop
def pZ:W→kB→Prop
 | .ref a,S=>oA S a λ_=>True
 |_,_=>False
def vB:W→kB→Prop
 | .str _,_=>True
 |_,_=>False
def wM (rv:W→kB→Prop) (f:rV) (to:WE) (t:WA) (E:WX) (σ:nj) (S:kB) (Q:WK):Prop:=to E σ S λw S1=>rv w S1∧t E σ S1 λws S2=>f w ws S2 Q
def vH (rv:W→kB→Prop) (f:rV) (to:WE) (t:WL) (E:WX) (σ:nj) (S:kB) (Q:WK):Prop:=to E σ S λw S1=>rv w S1∧t E σ S1 λws S2=>f w ws S2 Q
def yF (K:am) (r:V→List V→Hp→VK→Prop) (f:rV):Prop:=∀H x w vs ws S (Q:VK) (QW:WK),n9 K H w x→mY K H ws vs→m5 K H S→f w ws S QW→pJ K H S QW Q→r x vs H Q
def F_ (K:am) (r:V→List V→Hp→VK→Prop) (f:rV):Prop:=∀H x w a vs ws S (Q:VK) (QW:WK),n9 K H w x→H a=aa (.bJ vs)→S a=none→mY K H ws vs→m5 K H S→f w ws S QW→pJ K H S QW Q→r x [.ref a] H Q
def zB (K:am) (T:String) (rv:W→kB→Prop):Prop:=∀H w v S,n9 K H w v→m5 K H S→rv w S→Cw K T v H
def Ci{K:am}:zB K "list" pZ:=λH w v S r hS h=>by
 cases r with
 |ref a=>
  obtain⟨ws,e,_⟩:=qI h;obtain⟨vs,f,_⟩:=hS a _ e;exact .inl ⟨rfl,vs, .of f⟩
 |_=>exact h.elim
def Ks{K:am}:zB K "str" vB:=λH w v S r hS h=>by
 cases r with
 |str x=>exact rfl
 |_=>exact h.elim
section
variable {X:Cx}{o e:Expr}{es:List Expr}{to:WE}{t:WA}{tl:WL}{name:ah}{apos cpos:bv}{id T:String}{r:V→List V→Hp→VK→Prop}{f:rV}{rv:W→kB→Prop}
def DB (pa:fY T) (slot:Slot T name id) (hty:gd (.builtin id)=pure (.type "method_descriptor")) (hrv:zB X.K T rv) (hm:td X id r) (hw:yF X.K r f) (ho:JE X o to) (ha:JA X (e::es) t)
  (hbase:cB o name X.env (aH o X.env)=aH o X.env)
  (hfew:((aZ cpos (ax (e::es) X.env)).all (λx=> !x.1)&&(dg cpos (dh [] X.env)).all (λx=>x.1.isSome)
   &&decide ((e::es).length+([]:List bY).length+(if([]:List bY).isEmpty then 0 else 1)<30))=true)
  (hline:(apos.endLine == cpos.line)=true) (hs:ax (e::es) X.env=(false,aH e X.env)::ax es X.env) (hplain:(aZ cpos (ax es X.env)).any (·.1)=false) :
  JE X (.Call (.Attribute o name apos) (e::es) [] cpos) (wM rv f to t):=λE hE=>
 (Ph pa slot hty hm (ho E hE) (ha E hE) hbase hfew hline hs hplain).mono λσ H Q zz=>on zz λσW S QW hσ hS ht hQ=>⟨σW,S,_,hσ,hS,ht,λw S1 v H1 e1 r1 gV h1=>
  ⟨hrv H1 w v S1 r1 gV h1.1,σW,S1,_,hσ.ext e1,gV,h1.2,λws S2 vs H2 e2 r2 hS2 h2=>hw H2 v w vs ws S2 Q QW (r1.ext e2) r2 hS2 h2 (hQ.from (e1.trans e2))⟩⟩
def NC (pa:fY T) (slot:Slot T name id) (hty:gd (.builtin id)=pure (.type "method_descriptor")) (hrv:zB X.K T rv) (hm:td X id r) (hw:F_ X.K r f) (ho:JE X o to) (ha:JL X e tl)
  (hbase:cB o name X.env (aH o X.env)=aH o X.env)
  (hfew:((aZ cpos (ax [e] X.env)).all (λx=> !x.1)&&(dg cpos (dh [] X.env)).all (λx=>x.1.isSome)
   &&decide ([e].length+([]:List bY).length+(if([]:List bY).isEmpty then 0 else 1)<30))=true)
  (hline:(apos.endLine == cpos.line)=true) (hs:ax [e] X.env=(false,aH e X.env)::ax [] X.env) (hplain:(aZ cpos (ax [] X.env)).any (·.1)=false) :
  JE X (.Call (.Attribute o name apos) [e] [] cpos) (vH rv f to tl):=λE hE=>
 (Ph pa slot hty hm (ho E hE) (ur (ha E hE) pB hs) hbase hfew hline hs hplain).mono λσ H Q zz=>on zz λσW S QW hσ hS ht hQ=>⟨σW,S,_,hσ,hS,ht,λw S1 v H1 e1 r1 gV h1=>
  ⟨hrv H1 w v S1 r1 gV h1.1,σW,S1,_,hσ.ext e1,gV,h1.2,λws S2 vs a H2 e2 fa ea na r2 hS2 h2=>hw H2 v w a vs ws S2 Q QW (r1.ext e2) ea na r2 hS2 h2 (hQ.from (e1.trans e2))⟩⟩
def Y2 (pa:fY T) (slot:Slot T name id) (hty:gd (.builtin id)=pure (.type "method_descriptor")) (hrv:zB X.K T rv) (hm:td X id r) (hw:yF X.K r f) (ho:JE X o to)
  (hbase:cB o name X.env (aH o X.env)=aH o X.env) (hline:(apos.endLine == cpos.line)=true):JE X (.Call (.Attribute o name apos) [] [] cpos) (wM rv f to ae):=λE hE=>
 (Xj pa slot hty hm (ho E hE) hbase hline).mono λσ H Q zz=>on zz λσW S QW hσ hS ht hQ=>⟨σW,S,_,hσ,hS,ht,λw S1 v H1 e1 r1 gV h1=>
  ⟨hrv H1 w v S1 r1 gV h1.1,hw H1 v w [] [] S1 Q QW r1 .nil gV h1.2 (hQ.from e1)⟩⟩
def rh:rV:=λw ws S Q=>match w with
 | .ref a=>oA S a λxs=>match ws with
  | [y]=>xs.length<sizeLine∧Q .b_ (bQ S a (.bJ (xs++[y])))
  |_=>False
 |_=>False
def YJ{K:am}:yF K Nl rh:=λH x w vs ws S Q QW r rs hS h hQ=>by
 cases r with
 |ref a=>
  obtain⟨xs,ea,h⟩:=qI h;obtain⟨us,f,hs⟩:=hS a _ ea;cases rs with
  |nil=>exact h.elim
  |cons r1 r2=>
   cases r2 with
   |cons _ _=>exact h.elim
   |nil=>
    obtain⟨e,hS'⟩:=hS.set_lst ea (hs.append (.one r1));exact⟨a,us,_,rfl,rfl,f,by rw[←hs.length];exact h.1,hQ _ _ _ _ e .b_ hS' h.2⟩
 |_=>exact h.elim
def RS (ho:JE X o to) (ha:JA X (e::es) t)
  (hbase:cB o "append" X.env (aH o X.env)=aH o X.env)
  (hfew:((aZ cpos (ax (e::es) X.env)).all (λx=> !x.1)&&(dg cpos (dh [] X.env)).all (λx=>x.1.isSome)
   &&decide ((e::es).length+([]:List bY).length+(if([]:List bY).isEmpty then 0 else 1)<30))=true)
  (hline:(apos.endLine == cpos.line)=true) (hs:ax (e::es) X.env=(false,aH e X.env)::ax es X.env) (hplain:(aZ cpos (ax es X.env)).any (·.1)=false) :
  JE X (.Call (.Attribute o "append" apos) (e::es) [] cpos) (wM pZ rh to t):=DB gH PySem.F.slot_list_append PySem.F.type_list_append Ci OI YJ ho ha hbase hfew hline hs hplain
def XC:rV:=λw ws S Q=>match w with
 | .ref a=>oA S a λxs=>match ws with
  | []=>match xs[xs.length - 1]? with
   |some y=>Q y (bQ S a (.bJ xs.dropLast))
   |none=>False
  |_=>False
 |_=>False
def v8:rV:=λw ws S Q=>match w with
 | .ref a=>oA S a λxs=>match ws with
  | [.bT ys]=>xs.length+ys.length≤sizeLine∧Q .b_ (bQ S a (.bJ (xs++ys)))
  | [.ref b]=>oA S b λys=>xs.length+ys.length≤sizeLine∧Q .b_ (bQ S a (.bJ (xs++ys)))
  |_=>False
 |_=>False
def Uk{K:am}:yF K (λx vs H Q=>Er x vs H Q∨LX K x vs H Q) v8:=λH x w vs ws S Q QW r rs hS h hQ=>by
 cases r with
 |ref a=>
  obtain⟨xs,ea,h⟩:=qI h;obtain⟨us,f,hs⟩:=hS a _ ea;cases rs with
  |nil=>exact h.elim
  |cons r1 r2=>
   cases r2 with
   |cons _ _=>cases r1<;>exact h.elim
   |nil=>
    cases r1 with
    |bT g ks=>
     obtain⟨e,hS'⟩:=hS.set_lst ea (hs.append ks);exact .inr ⟨a,_,us,_,rfl,rfl,f, .of g,by rw[←hs.length,←ks.length];exact h.1,hQ _ _ _ _ e .b_ hS' h.2⟩
    |ref b=>
     obtain⟨ys,eb,h⟩:=qI h;obtain⟨zs,g,ks⟩:=hS b _ eb;obtain⟨e,hS'⟩:=hS.set_lst ea (hs.append ks);exact .inl ⟨a,b,us,zs,rfl,rfl,f,g,by rw[←hs.length,←ks.length];exact h.1,hQ _ _ _ _ e .b_ hS' h.2⟩
    |_=>exact h.elim
 |_=>exact h.elim
def QP (ho:JE X o to) (ha:JA X (e::es) t)
  (hbase:cB o "extend" X.env (aH o X.env)=aH o X.env)
  (hfew:((aZ cpos (ax (e::es) X.env)).all (λx=> !x.1)&&(dg cpos (dh [] X.env)).all (λx=>x.1.isSome)
   &&decide ((e::es).length+([]:List bY).length+(if([]:List bY).isEmpty then 0 else 1)<30))=true)
  (hline:(apos.endLine == cpos.line)=true) (hs:ax (e::es) X.env=(false,aH e X.env)::ax es X.env) (hplain:(aZ cpos (ax es X.env)).any (·.1)=false) :
  JE X (.Call (.Attribute o "extend" apos) (e::es) [] cpos) (wM pZ v8 to t):=DB gH lm kQ Ci (td.or MV SK) Uk ho ha hbase hfew hline hs hplain
def AE:rV:=λw ws S Q=>match w with
 | .ref a=>oA S a λxs=>xs.length+ws.length≤sizeLine∧Q .b_ (bQ S a (.bJ (xs++ws)))
 |_=>False
def PU{K:am}:F_ K Er AE:=λH x w a vs ws S Q QW r ea na rs hS h hQ=>by
 cases r with
 |ref b=>
  obtain⟨xs,eb,h⟩:=qI h;obtain⟨us,f,hs⟩:=hS b _ eb;obtain⟨e,hS'⟩:=hS.set_lst eb (hs.append rs);exact⟨b,a,us,vs,rfl,rfl,f,ea,by rw[←hs.length,←rs.length];exact h.1,hQ _ _ _ _ e .b_ hS' h.2⟩
 |_=>exact h.elim
def zpr (ho:JE X o to) (ha:JL X e tl)
  (hbase:cB o "extend" X.env (aH o X.env)=aH o X.env)
  (hfew:((aZ cpos (ax [e] X.env)).all (λx=> !x.1)&&(dg cpos (dh [] X.env)).all (λx=>x.1.isSome)
   &&decide ([e].length+([]:List bY).length+(if([]:List bY).isEmpty then 0 else 1)<30))=true)
  (hline:(apos.endLine == cpos.line)=true) (hs:ax [e] X.env=(false,aH e X.env)::ax [] X.env) (hplain:(aZ cpos (ax [] X.env)).any (·.1)=false) :
  JE X (.Call (.Attribute o "extend" apos) [e] [] cpos) (vH pZ AE to tl):=NC gH lm kQ Ci MV PU ho ha hbase hfew hline hs hplain
noncomputable def vm:List W→Option (List ah)
 | []=>aa []
 | .str b::ws=>(vm ws).map (b:: ·)
 |_=>none
def Qr{K:am}{H:Hp}:∀{ws:List W}{vs:List V}{bs:List ah},mY K H ws vs→vm ws=aa bs→vs=bs.map V.str:=λ{ws vs bs} h e=>by
 induction ws generalizing vs bs with
 |nil=>cases h;have:=aO e;subst this;rfl
 |cons w ws ih=>
  cases h with
  |cons r rs=>
   cases r with
   |str b=>
    have e':(vm ws).map (b:: ·)=aa _:=e;cases q:vm ws with
    |none=>rw[q]at e';cases e'
    |some cs=>
     rw[q]at e';have:=aO e';subst this;rw[az,ih rs q]
   |_=>cases e
def yB:rV:=λw ws S Q=>match w with
 | .str z=>match vm ws with
  |some ys=>(ys.map (·.length)).sum+ys.length*z.length≤16777216∧Q (.str (dt z ys)) S
  |none=>False
 |_=>False
def T9{K:am}:F_ K (HP K) yB:=λH x w a vs ws S Q QW r ea na rs hS h hQ=>by
 cases r with
 |str z=>
  unfold yB at h;dsimp only at h;split at h
  ·rename_i ys e;have:=Qr rs e;subst this;exact⟨z,a,ys,rfl,rfl, .of ea,h.1,hQ _ S _ H .refl (.str _) hS h.2⟩
  ·exact h.elim
 |_=>exact h.elim
def zui (ho:JE X o to) (ha:JL X e tl)
  (hbase:cB o "join" X.env (aH o X.env)=aH o X.env)
  (hfew:((aZ cpos (ax [e] X.env)).all (λx=> !x.1)&&(dg cpos (dh [] X.env)).all (λx=>x.1.isSome)
   &&decide ([e].length+([]:List bY).length+(if([]:List bY).isEmpty then 0 else 1)<30))=true)
  (hline:(apos.endLine == cpos.line)=true) (hs:ax [e] X.env=(false,aH e X.env)::ax [] X.env) (hplain:(aZ cpos (ax [] X.env)).any (·.1)=false) :
  JE X (.Call (.Attribute o "join" apos) [e] [] cpos) (vH vB yB to tl):=NC mI PySem.F.slot_str_join PySem.F.type_str_join Ks YX T9 ho ha hbase hfew hline hs hplain
def W8:rV:=λw ws S Q=>match w with
 | .str z=>match ws with
  | [.str y]=>match db z y 0 z.length 1 with
   |i::_=>Q (.int i) S
   | []=>False
  |_=>False
 |_=>False
end
def xq (i:Nat) (g:Int→Int→Int) (e:WE) (E:WX) (D:nC) (σ:nj) (S:kB):Prop:=match σ[i]? with
 |some (aa (.int a))=>e E σ S λw S1=>match w with
  | .int b=>D.nx (σ.set i (aa (.int (g a b)))) S1
  |_=>False
 |_=>False
def VB (hN:X.N.Nodup) (hi:X.N[i]? =aa x) (hx:tZ X.env.scope x) (he:JE X e te) (hf:X.fn x=true∨X.env.scope.names.lookup x=aa .local:=by first |exact .inl rfl |exact .inr rfl |assumption) :
  JS X (.AugAssign (.Name x pos') .Add e pos) (xq i (λa b=>a+b) te):=λE hE=>
 (Wv hN hi hx (he E hE) TR hf).mono λD σ H zz=>on zz λσW S DW hσ hS ht hD=>by
  unfold xq at ht;split at ht
  ·rename_i a ea;obtain⟨v,ev,rv⟩:=hσ.get ea;cases rv;refine⟨_,ev,σW,S,_,hσ,hS,ht,λw S1 v H1 e1 r1 gV h1=>?_⟩;cases r1 with
   |int b=>exact⟨a,b,rfl,rfl,hD.nx _ S1 _ H1 e1 ((hσ.ext e1).set (.int _) i) gV h1⟩
   |_=>exact h1.elim
  ·exact ht.elim
def yf (c:WT) (b:WS):WS:=λE D σ S=>∃I:Nat→nj→kB→Prop,(∃m,I m σ S)∧ ∀m σ S,I m σ S→c E σ S λk S1=>if k=true then
 b E { D with nx:=λσ' S'=>∃m' S'',m'<m∧Sub S'' S'∧I m' σ' S'',ct:=λσ' S'=>∃m' S'',m'<m∧Sub S'' S'∧I m' σ' S'',bk:=D.nx } σ S1 else D.nx σ S1
def Tp (hc:JT X c tc) (hb:t4 X body tb):JS X (.While c body [] pos) (yf tc tb):=λE hE=>
 (zuS hE.own (hc E hE) (hb E hE)).mono λD σ H ⟨σW,S,DW,hσ,hS,⟨J,⟨n,ht⟩,step⟩,hD⟩=>by
  refine⟨λm σ1 H1=>∃σW1 S1,oh H S H1 S1∧nS X.K H1 σW1 σ1∧m5 X.K H1 S1∧J m σW1 S1,⟨n,σW,S, .refl,hσ,hS,ht⟩,?_⟩;rintro m σ1 H1 ⟨σW1,S1,e1,hσ1,gV,h1⟩;refine⟨σW1,S1,_,hσ1,gV,step m σW1 S1 h1,λk S2 H2 e2 hS2 h2=>?_⟩;cases k with
  |false=>exact hD.nx σW1 S2 σ1 H2 (e1.trans e2) (hσ1.ext e2) hS2 h2
  |true=>
   rw[if_pos rfl]at h2⊢;refine⟨λσ' H'=>∃m',m'<m∧ ∃σW1 S1,oh H S H' S1∧nS X.K H' σW1 σ'∧m5 X.K H' S1∧J m' σW1 S1,λσ' H' n'=>n',σW1,S2,_,hσ1.ext e2,hS2,h2,?_⟩;have e12:=e1.trans e2;have go:qN X.K H2 S2 (λσ' S'=>∃m' S'',m'<m∧Sub S'' S'∧J m' σ' S'') (λσ' H'=>∃m',m'<m∧ ∃σW1 S1,oh H S H' S1∧nS X.K H' σW1 σ'∧m5 X.K H' S1∧J m' σW1 S1):=λσW3 S3 σ3 H3 e3 hσ3 hS3 ⟨m',S4,hm,sb,q⟩=>
    ⟨m',hm,σW3,S4,(e12.trans e3).trans (.drop sb),hσ3,hS3.sub sb,q⟩
   exact⟨go,hD.rt.from e12,hD.nx.from e12,go⟩
def nI (g:WG) (b:WS) (E:WX) (D:nC) (G:kB→Prop):List W→nj→kB→Prop
 | [],σ,S=>D.nx σ S
 |w::ws,σ,S=>g w σ S λσ1 S1=>b E { D with nx:=λσ' S'=>∃S'',Sub S'' S'∧G S''∧nI g b E D G ws σ' S'',ct:=λσ' S'=>∃S'',Sub S'' S'∧G S''∧nI g b E D G ws σ' S'',bk:=D.nx } σ1 S1
def pN (q:WI) (g:WG) (b:WS) (E:WX) (D:nC) (σ:nj) (S:kB):Prop:=q E σ S λws G S1=>nI g b E D G ws σ S1
def X7 (hi:JI X tg iter q) (hg:JG X tg g) (hb:t4 X body tb) (hcl:X.calm=true)
  (hs:∀x,dG iter X.env x=pure x):JS X (.For tg iter body [] pos) (pN q g tb):=λE hE=>
 (P3 hE.own hcl (hi E hE) (hg E hE) (hb E hE) hs).mono λD σ H zz=>on zz λσW S DW hσ hS ht hD=>by
  refine⟨σW,S,_,hσ,hS,ht,λws G S1 J H1 e1 gV hG1 hJ h1=>?_⟩;refine⟨λi m σ2 H2=>∃σW2 S2,oh H1 S1 H2 S2∧nS X.K H2 σW2 σ2∧m5 X.K H2 S2∧G S2∧m=ws.length - i∧i≤ws.length∧nI g tb E DW G (ws.drop i) σW2 S2,
   ⟨ws.length,σW,S1, .refl,hσ.ext e1,gV,hG1,rfl,aU _,h1⟩,?_⟩
  rintro i m σ2 H2 ⟨σW2,S2,e2,hσ2,hS2,hG2,rfl,hi2,h2⟩;obtain⟨ji,js⟩:=hJ i S2 H2 e2 hS2 hG2;by_cases hlt:i<ws.length
  ·obtain⟨jgo,jy⟩:=ji ws[i] (aP hlt);refine .inr ⟨jgo,λσ' H'=>∃σW2 S2,oh H1 S1 H' S2∧nS X.K H' σW2 σ'∧m5 X.K H' S2∧G S2∧ws.length - (i+1)=ws.length - (i+1)∧i+1≤ws.length∧nI g tb E DW G (ws.drop (i+1)) σW2 S2,λσ' H' z=>⟨_,`l,z⟩,λx H3 y3=>?_⟩
   obtain⟨e3,hS3,r3⟩:=jy x H3 y3;rw[fN hlt]at h2;refine⟨_,σW2,S2,_,r3,hσ2.ext e3,hS3,h2,λσW4 S4 σ4 H4 e4 hσ4 hS4 h4=>?_⟩;have e14:oh H1 S1 H4 S4:=(e2.trans e3).trans e4;refine⟨σW4,S4,_,hσ4,hS4,h4,?_⟩;have go:qN X.K H4 S4 (λσ' S'=>∃S'',Sub S'' S'∧G S''∧nI g tb E DW G (ws.drop (i+1)) σ' S'') (λσ' H'=>∃σW2 S2,oh H1 S1 H' S2∧nS X.K H' σW2 σ'∧m5 X.K H' S2∧G S2∧ws.length - (i+1)=ws.length - (i+1)∧i+1≤ws.length∧nI g tb E DW G (ws.drop (i+1)) σW2 S2):=
    λσW5 S5 σ5 H5 e5 hσ5 hS5 ⟨S6,sb,hG6,q⟩=>⟨σW5,S6,(e14.trans e5).trans (.drop sb),hσ5,hS5.sub sb,hG6,rfl,hlt,q⟩
   exact⟨go,hD.rt.from (e1.trans e14),hD.nx.from (e1.trans e14),go⟩
  ·have hl:i=ws.length:=by lia
   rw[ge (fZ hl.symm)]at h2;exact .inl ⟨js hl,hD.nx σW2 S2 σ2 H2 (e1.trans e2) hσ2 hS2 h2⟩
def S9 (K:am) (tl:TE):TI:=λσ H R=>tl σ H λx H1=>(∃a,x= .ref a∧(∃xs,o9 K H1 a xs)∧R (Bb K a) H1)∨(∃a,x= .ref a∧(∃xs,pQ K H1 a xs)∧R (ED K a) H1)∨ ∃z,x= .str z∧R (GL z) H1
def ZY (hl:PE X l tl):PI X tg l (S9 X.K tl):=by
 intro ag s σ H R I h;refine nZ (hl ag s σ H _ I h) λv s1 zz=>oQ zz λx H1 I1 r1 q1=>?_;have fp:∀b∈ [s1.heap.objs.size],rB X ag H1 b:=λb hb=>by
  have e:b=s1.heap.objs.size:=by simpa using hb
  subst e;exact I1.fpOk (aA _) (I1.cq.fresh (aA _))
 obtain ⟨a,e,⟨xs,hq⟩,q⟩ |⟨a,e,⟨xs,hq⟩,q⟩ |⟨z,e,q⟩:=q1
 ·subst e;cases r1;obtain⟨dR,rv,p,hz⟩:=I1.list hq;refine fA p.isList ?_;exact⟨s1.heap.objs.size,[s1.heap.objs.size],_,_,H1,rfl,I1.kept (t':=s1.toks) λb o e=>aS _ e,N5 a _,⟨_,bO _ rfl,rfl,rfl⟩,fp,q⟩
 ·subst e;cases r1;obtain⟨dR,rv,p,hz⟩:=I1.tuple hq;refine kr (show s1.heap.IsTuple a dR.toArray from p) ?_;exact⟨s1.heap.objs.size,[s1.heap.objs.size],_,_,H1,rfl,I1.kept (t':=s1.toks) λb o e=>aS _ e,XM a _,⟨_,bO _ rfl,rfl,rfl⟩,fp,q⟩
 ·subst e;obtain⟨t,rfl⟩:=r1;cases ha:z.cps.all (· <128)
  ·refine wpAny_pyIter_wide ha ?_;exact⟨s1.heap.objs.size,[s1.heap.objs.size],_,_,H1,rfl,I1.kept (t':=s1.toks) λb o e=>aS _ e,
    NN _ z t "str_iterator" `d (λA' hA=>Walks.strWide hA _ z t) (λ_ _ _ _ _ st h=>wpAny_pyIter_striter_wide st h),⟨_,bO _ rfl,rfl,rfl⟩,fp,q⟩
  ·refine wpAny_pyIter_ascii ha ?_;exact⟨s1.heap.objs.size,[s1.heap.objs.size],_,_,H1,rfl,I1.kept (t':=s1.toks) λb o e=>aS _ e,
    NN _ z t "str_ascii_iterator" `d (λA' hA=>Walks.strAscii hA _ z t) (λ_ _ _ _ _ st h=>wpAny_pyIter_striter_ascii st h),⟨_,bO _ rfl,rfl,rfl⟩,fp,q⟩
noncomputable def Dd (z:ah):List W:=z.cps.toList.map λc=> .str ⟨#[c]⟩
def oU (t:WE) (E:WX) (σ:nj) (S:kB) (Q:List W→(kB→Prop)→kB→Prop):Prop:=t E σ S λw S1=>match w with
 | .bT ws=>Q ws (λ_=>True) S1
 | .ref a=>oA S1 a λws=>Q ws (λS'=>S' a=aa (.bJ ws)) S1
 | .cM ns=>Q (ns.map W.int) (λ_=>True) S1
 | .str z=>Q (Dd z) (λ_=>True) S1
 |_=>False
def FB{K:am}{a:ai}{ws:List W}{G:kB→Prop}{H0:Hp}{S0:kB}(h:∀S H,oh H0 S0 H S→m5 K H S→G S→ ∃vs,o9 K H a vs∧mY K H ws vs):xj K (Bb K a) ws G H0 S0:=λi S H e hS hG=>by
 obtain⟨vs,hq,r⟩:=h S H e hS hG;refine⟨λw ew=>?_,λhl=>⟨vs,hq,by rw[←r.length,hl];exact aA _⟩⟩
 obtain⟨v,ev,rv⟩:=r.get ew;refine⟨⟨vs,v,hq,ev⟩,λx H' ⟨e1,e2⟩=>?_⟩;subst e1;have e3:=e2 vs hq;rw[ev]at e3;cases e3;exact⟨.refl,hS,rv⟩
def R_{K:am}{a:ai}{ws:List W}{vs:List V}{H0:Hp}{S0:kB}(f:H0 a=aa (.bT vs)) (r:mY K H0 ws vs):xj K (ED K a) ws (λ_=>True) H0 S0:=λi S H e hS hG=>by
 have f':=e.bT _ _ f;have r':=r.ext e;refine⟨λw ew=>?_,λhl=>⟨vs, .of f',by rw[←r'.length,hl];exact aA _⟩⟩
 obtain⟨v,ev,rv⟩:=r'.get ew;refine⟨⟨vs,v, .of f',ev⟩,λx H' ⟨e1,e2⟩=>?_⟩;subst e1;have e3:=e2 vs (.of f');rw[ev]at e3;cases e3;exact⟨.refl,hS,rv⟩
def Z0{K:am}{z:ah}{H0:Hp}{S0:kB}:xj K (GL z) (Dd z) (λ_=>True) H0 S0:=λi S H e hS hG=>by
 unfold Dd;refine⟨λw ew=>?_,λhl=>?_⟩
 ·rw[aV]at ew;cases ec:z.cps.toList[i]? with
  |none=>rw[ec]at ew;cases ew
  |some c=>
   rw[ec]at ew;have ew':=aO ew;subst ew';have hi:i<z.cps.size:=by
    have:=(cj.mp ec).1;simpa using this
   refine⟨hi,λx H' ⟨e1,c',e2,e3⟩=>?_⟩;subst e1 e3;have:c'=c:=by
    have q:z.cps.toList[i]? =aa c':=by rw[←e2];simp
    rw[ec]at q;exact(aO q).symm
   subst this;exact⟨.refl,hS, .str _⟩
 ·show i=z.cps.size;simpa using hl
def Rf{l:Expr}{tl:WE}(hl:JE X l tl):JI X tg l (oU tl):=λE hE=>
 (ZY (hl E hE)).mono λσ H R zz=>on zz λσW S QW hσ hS ht hR=>⟨σW,S,_,hσ,hS,ht,λw S1 v H1 e1 r1 gV h1=>by
  cases r1 with
  |bT f hs=>exact .inr (.inl ⟨_,rfl,⟨_, .of f⟩,hR _ _ S1 _ H1 e1 gV trivial (R_ f hs) h1⟩)
  |ref a=>
   obtain⟨ws,ea,h⟩:=qI h1;obtain⟨vs,f,hs⟩:=gV a _ ea;refine .inl ⟨_,rfl,⟨_, .of f⟩,hR _ _ S1 _ H1 e1 gV ea (FB λS2 H2 e2 hS2 g2=>?_) h⟩;obtain⟨vs2,f2,hs2⟩:=hS2 a _ g2;exact⟨vs2, .of f2,hs2⟩
  |cM f=>exact .inl ⟨_,rfl,⟨_,f.sq⟩,hR _ _ S1 _ H1 e1 gV trivial (FB λS2 H2 e2 hS2 g2=>⟨_,(e2.fz f).sq,mY.ofInts _⟩) h1⟩
  |str z=>exact .inr (.inr ⟨z,rfl,hR _ _ S1 _ H1 e1 gV trivial Z0 h1⟩)
  |_=>exact h1.elim⟩
def Jq (t:WL):WI:=λE σ S Q=>t E σ S λws S1=>Q ws (λ_=>True) S1
def Uu (hl:JL X l tl):JI X tg l (Jq tl):=λE hE=>
 (Vn (hl E hE)).mono λσ H R zz=>on zz λσW S QW hσ hS ht hR=>⟨σW,S,_,hσ,hS,ht,λws S1 vs a H1 e1 fa ea na r1 gV h1=>
  ⟨a,rfl,⟨vs, .of ea⟩,hR _ _ S1 _ H1 e1 gV trivial (FB λS2 H2 e2 hS2 g2=>⟨vs, .of (e2.fr a _ ea na).1,r1.ext e2⟩) h1⟩⟩
noncomputable def tp (lo:Int) (n:Nat):List W:=(bD n).map λ(i:Nat)=> .int (lo+(i:Int))
def zCv{K:am}{lo:Int}{n:Nat}{H0:Hp}{S0:kB}:xj K (Cy lo n) (tp lo n) (λ_=>True) H0 S0:=λi S H e hS hG=>by
 unfold tp;refine⟨λw ew=>?_,λhl=>by
  have:i=n:=by simpa using hl
  exact fZ this.symm⟩
 rw[aV]at ew;by_cases hi:i<n
 ·rw[gc hi]at ew;have ew':=aO ew;subst ew';refine⟨hi,λx H' ⟨e1,e2⟩=>?_⟩;subst e1 e2;exact⟨.refl,hS, .int _⟩
 ·rw[jb (by simpa using hi)]at ew;cases ew
def ul (t:WA) (E:WX) (σ:nj) (S:kB) (Q:List W→(kB→Prop)→kB→Prop):Prop:=t E σ S λws S1=>match ws with
 | [.int j]=>(-(2 ^ 62)≤j∧j<2 ^ 62)∧Q (tp 0 j.toNat) (λ_=>True) S1
 |_=>False
def P7 (hg:Gl X "range") (hm:X.mg "range" =none) (ha:JA X [a] ta) (hs:ax [a] X.env=[(false,aH a X.env)]):JI X tg (.Call (.Name "range" p) [a] [] pos) (ul ta):=λE hE=>
 (Zs hg hm (ha E hE) hs).mono λσ H R zz=>on zz λσW S QW hσ hS ht hR=>⟨σW,S,_,hσ,hS,ht,λws S1 vs H1 e1 r1 gV h1=>by
  cases r1 with
  |nil=>exact h1.elim
  |cons r2 r3=>
   cases r3 with
   |cons _ _=>cases r2<;>exact h1.elim
   |nil=>
    cases r2 with
    |int j=>exact⟨j,rfl,h1.1.1,h1.1.2,hR _ _ S1 _ H1 e1 gV trivial zCv h1.2⟩
    |_=>exact h1.elim⟩
def pe (_:WX) (_:nj) (S:kB) (Q:Bool→kB→Prop):Prop:=Q true S
def vq (X:Cx) (ifs:List Expr) (t:WT):Prop:=∀E,pI X E→CK X ifs (FS X.K (t E))
def Qq:vq X [] pe:=λE hE ag s σ H Q I zz=>on zz λσW S QW hσ hS ht hQ=>zzG ag s σ H Q I (hQ true S H .refl hS ht)
def Qp (h:JT X c t):vq X [c] t:=λE hE=>Sf (h E hE)
def qw (g:WG) (c:WT) (e:WE) (E:WX) (G:kB→Prop) (Q:List W→kB→Prop):List W→List W→nj→kB→Prop
 | [],acc,_,S=>Q acc S
 |w::ws,acc,σ,S=>g w σ S λσ1 S1=>c E σ1 S1 λb S2=>if b=true then e E σ1 S2 λy S3=>acc.length<sizeLine∧ ∃S4,Sub S4 S3∧G S4∧qw g c e E G Q ws (acc++[y]) σ1 S4
   else ∃S4,Sub S4 S2∧G S4∧qw g c e E G Q ws acc σ1 S4
abbrev s_:WX:=λ_ _ _=>False
def E4 (h:X.xe=λ_ _=>False):pI X s_:=⟨by rw[h];exact fO.never,λ_ _ _ _ _ _ _ _ _ _ _ _ _ _ _ _ _ _ _ _ z=>z.elim,λ_ _ _ _ _ _ _ _ _ _ _ _ _ _ _ _ z=>z.elim⟩
def PS.nox{X:Cx}{st:bi}{t:TS}(h:PS X.nox st t):PS X st t:=λag s σ H D I hw=>
 cE (h ag s σ H D (I.wish _) hw) (λ_ _ q=>q.unwish) λ_ _ z=>cG z
def pj (k:Nat) (fr:List Nat) (q:WI) (g:WG) (c:WT) (e:WE) (_:WX) (σ:nj) (S:kB) (Q:List W→kB→Prop):Prop:=q s_ σ S λws G S1=>qw g c e s_ G Q ws [] (bp k none++fr.map λj=>(σ[j]?).join) S1
def Sn{K:am}{H:Hp}{σW:nj}{σ:St}{k:Nat}{fr:List Nat}(h:nS K H σW σ):nS K H (bp k none++fr.map λj=>(σW[j]?).join) (CQ σ k fr):=by
 have one:∀j:Nat,xK K H (σW[j]?).join (σ[j]?).join:=λj=>by
  cases e:σW[j]? with
  |none=>exact trivial
  |some w=>
   cases w with
   |none=>exact trivial
   |some w=>
    obtain⟨v,ev,r⟩:=h.get e;rw[ev];exact r
 have go:∀fr:List Nat,nS K H (fr.map λj=>(σW[j]?).join) (wz σ fr):=by
  intro fr
  induction fr with
  |nil=>exact .nil
  |cons j fr ih=>exact .cons (one j) ih
 unfold CQ
 induction k with
 |zero=>exact go fr
 |succ k ih=>exact .cons trivial ih
def oh.loose (a:∀b xs,H b=aa (.bT xs)→H' b=aa (.bT xs)) (b:∀c o u,H c=aa (.frz o u)→H' c=aa (.frz o u)) (d:∀b o,H b=aa o→ ∃o',H' b=aa o'):oh H (λ_=>aa (.bJ [])) H' (λ_=>aa (.bJ [])):=
 ⟨a,b,(λ_ _ _ g=>nomatch g),d⟩
def oh.over (e:oh H S H' S') (h:H l=none):oh H S (oa H' l o) S':=
 ⟨λb xs q=>by rw[oG (qq q h)];exact e.bT b xs q,λb ob u q=>by rw[oG (qq q h)];exact e.frz b ob u q,λb ob q z=>by rw[oG (qq q h)];exact e.fr b ob q z,λb ob q=>by rw[oG (qq q h)];exact e.all b ob q⟩
def Kf (hg:∀s₀ H₀ fp pn,JG (qj X scope N s₀ H₀ fp pn) tg g) (hc:∀s₀ H₀ fp pn,vq (qj X scope N s₀ H₀ fp pn) ifs c) (he:∀s₀ H₀ fp pn,JE (qj X scope N s₀ H₀ fp pn) elt e)
  (σ:St) (H:Hp) (Q:VK):ID X.K (pj k fr q g c e E) σ H Q→Br X scope N k fr tg ifs elt (Pc X.K (q s_)) σ H Q:=λzz=>on zz λσW S0 QW hσ hS ht hQ=>by
  refine⟨σW,S0,_,hσ,hS,ht,λws G S1 J H1 e1 gV hG1 hJ h1 l hl=>?_⟩;have upl:∀{H':Hp}{vs us:List V}{S':kB},H' l=aa (.bJ vs)→S' l=none→m5 X.K H' S'→oh H' (λ_=>aa (.bJ [])) (oa H' l (.bJ us)) (λ_=>aa (.bJ []))∧m5 X.K (oa H' l (.bJ us)) S':=λ{H' vs us S'} f n hS'=>by
   have x:oh H' (λ_=>aa (.bJ [])) (oa H' l (.bJ us)) (λ_=>aa (.bJ [])):= .loose (λb xs q=>by rw[oG (BD q f λz=>nomatch z)];exact q) (λb o u q=>by rw[oG (BD q f λz=>nomatch z)];exact q) λb o q=>by
    by_cases hb:b=l
    ·subst hb;exact⟨_,qb⟩
    ·exact⟨o,by rw[oG hb];exact q⟩
   refine⟨x,λa o q=>(hS' a o q).keep x λu z=>?_⟩;have ha:a≠l:=by rintro rfl;rw[n]at q;cases q
   rw[oG ha];exact z
  refine⟨λi m σ' H'=>∃σW' S' acc vs,oh H1 S1 H' S'∧H' l=aa (.bJ vs)∧S' l=none∧mY X.K H' acc vs∧nS X.K H' σW' σ'∧m5 X.K H' S'∧G S'∧m=ws.length - i∧i≤ws.length∧qw g c e s_ G QW (ws.drop i) acc σW' S',
   ⟨ws.length,_,S1,[],[], .new hl,qb,gV.free hl, .nil,Sn (hσ.ext (e1.trans (.new (S:=S1) hl))),gV.new hl,hG1,rfl,aU _,h1⟩,?_⟩
  rintro i m σ' H' ⟨σW',S',acc,vs,e2,f2,n2,ra,hσ2,hS2,hG2,rfl,hi2,h2⟩;obtain⟨ji,js⟩:=hJ i S' H' e2 hS2 hG2;by_cases hlt:i<ws.length
  ·obtain⟨jgo,jy⟩:=ji ws[i] (aP hlt);refine .inr ⟨jgo,λσ'' H''=>∃σW' S' acc vs,oh H1 S1 H'' S'∧H'' l=aa (.bJ vs)∧S' l=none∧mY X.K H'' acc vs∧nS X.K H'' σW' σ''∧m5 X.K H'' S'∧G S'∧ws.length - (i+1)=ws.length - (i+1)∧i+1≤ws.length∧qw g c e s_ G QW (ws.drop (i+1)) acc σW' S',
    λσ'' H'' z=>⟨_,`l,z⟩,λx H3 y3=>?_⟩
   obtain⟨e3,hS3,r3⟩:=jy x H3 y3;rw[fN hlt]at h2;intro s₀ H₀ fp pn;have hk:pI (qj X scope N s₀ H₀ fp pn) s_:=E4 rfl;refine⟨_,_,_,hg s₀ H₀ fp pn s_ hk,hc s₀ H₀ fp pn s_ hk,he s₀ H₀ fp pn s_ hk,?_⟩;refine⟨_,σW',S',_,r3,hσ2.ext e3,hS3,h2,λσW4 S4 σ4 H4 e4 hσ4 hS4 h4=>?_⟩;refine⟨σW4,S4,_,hσ4,hS4,h4,λb S5 H5 e5 hS5 h5=>?_⟩;have e15:oh H' S' H5 S5:=(e3.trans e4).trans e5;have hσ5:=hσ4.ext e5;obtain⟨f5,n5⟩:=e15.fr l _ f2 n2;cases b with
   |false=>
    have h5:∃S4,Sub S4 S5∧G S4∧qw g c e s_ G QW (ws.drop (i+1)) acc σW4 S4:=h5;refine Qm ?_;obtain⟨S6,sb,hG6,h6⟩:=h5;have e16:=e15.trans (.drop sb);exact⟨σW4,S6,acc,vs,e2.trans e16,f5,(e16.fr l _ f2 n2).2,ra.ext e15,hσ5,hS5.sub sb,hG6,rfl,hlt,h6⟩
   |true=>
    rw[if_pos rfl]at h5;refine Q8 ?_;refine⟨σW4,S5,_,hσ5,hS5,h5,λy S6 v H6 e6 r6 hS6 h6=>?_⟩;have e17:=e15.trans e6;obtain⟨f6,n6⟩:=e17.fr l _ f2 n2;obtain⟨hz,S7,sb,hG7,h7⟩:=h6;obtain⟨x6,hS6'⟩:=upl (us:=vs++[v]) f6 n6 hS6;have ra6:mY X.K H6 (acc++[y]) (vs++[v]):=(ra.ext e17).append (.one r6);refine⟨vs,f6,by rw[←ra.length];exact hz,σW4,S7,acc++[y],vs++[v],?_,qb,((e17.trans (.drop sb)).fr l _ f2 n2).2,ra6.ext x6,(hσ5.ext e6).ext x6,hS6'.sub sb,hG7,rfl,hlt,h7⟩
    exact(e2.trans (e17.trans (.drop sb))).over hl
  ·have hll:i=ws.length:=by lia
   rw[ge (fZ hll.symm)]at h2;exact .inl ⟨js hll,hQ acc S' vs l H' (e1.trans e2) (e1.free hl) f2 n2 ra hS2 h2⟩
def Ru (S:nT X.nox scope N k fr) (hi:JI X.nox tg iter q) (hg:∀s₀ H₀ fp pn,JG (qj X.nox scope N s₀ H₀ fp pn) tg g) (hc:∀s₀ H₀ fp pn,vq (qj X.nox scope N s₀ H₀ fp pn) ifs c) (he:∀s₀ H₀ fp pn,JE (qj X.nox scope N s₀ H₀ fp pn) elt e)
  (hs:∀x,dG iter X.env x=pure x) (hcl:X.calm=true):JL X (.ListComp elt [⟨tg,iter,ifs,0⟩] scope pos) (pj k fr q g c e):=λE hE=>
 (PE.nox (P0 rfl hcl S (hi s_ (E4 rfl)) hs)).mono (Kf (X:=X.nox) hg hc he)
def Rl{i:Nat}{x:ah}{pos' spos:bv}(hN:X.N.Nodup) (hxi:X.N[i]? =aa x) (hxl:tZ X.env.scope x) (S:nT X.nox scope N k fr) (hi:JI X.nox tg iter q) (hg:∀s₀ H₀ fp pn,JG (qj X.nox scope N s₀ H₀ fp pn) tg g) (hc:∀s₀ H₀ fp pn,vq (qj X.nox scope N s₀ H₀ fp pn) ifs c) (he:∀s₀ H₀ fp pn,JE (qj X.nox scope N s₀ H₀ fp pn) elt e)
  (hw:eG (.ListComp elt [⟨tg,iter,ifs,0⟩] scope pos) (aa (.Name x pos')) spos.line X.env=pure true) (hf:X.fn x=true∨X.env.scope.names.lookup x=aa .local:=by first |exact .inl rfl |exact .inr rfl |assumption)
  (hs:∀x,dG iter X.env x=pure x:=by intro _;rfl) (hcl:X.calm=true:=by rfl):JS X (.Assign [.Name x pos'] (.ListComp elt [⟨tg,iter,ifs,0⟩] scope pos) spos) (mS (nQ (pj k fr q g c e)) (mU i)):=λE hE=>
 (PS.nox (SH (X:=X.nox) rfl hcl S (hi s_ (E4 rfl)) hN hxi hxl hw hf hs)).mono λD σ H zz=>on zz λσW S0 DW hσ hS ht hD=>
  Kf (X:=X.nox) (E:=E) hg hc he σ H _ ⟨σW,S0,_,hσ,hS,ht,λws S1 vs a H1 e1 fa ea na r1 gV h1=>by
   have ex:oh H S0 H1 (bQ S1 a (.bJ ws)):=⟨e1.bT,e1.frz,λb o q g=>by
    have hb:b≠a:=by rintro rfl;rw[fa]at q;cases q
    rw[oz hb];exact e1.fr b o q g,e1.all⟩
   refine hD.nx _ (bQ S1 a (.bJ ws)) _ H1 ex ((hσ.ext ex).set (.ref a) i) (λb o q=>?_) (h1 a na);by_cases hb:b=a
   ·subst hb;rw[nv]at q;cases q;exact⟨vs,ea,r1⟩
   ·rw[oz hb]at q;exact gV b o q⟩
def nP (k:Bool) (h:aF) (it a:ai) (i:Nat):Prop:=if k=true then h.IsListIter it a i else h.IsTupleIter it a i
def nO (k:Bool) (h:aF) (a:ai) (dR:Array aj):Prop:=if k=true then h.IsList a dR else h.IsTuple a dR
def nP.at (x:nP k h it a i) (e:∀o,h.get? it=aa o→h'.get? it=aa o):nP k h' it a i:=by
 cases k with
 |true=>exact aF.IsListIter.at (show h.IsListIter it a i from x) e
 |false=>exact aF.IsTupleIter.at (show h.IsTupleIter it a i from x) e
def nO.at (x:nO k h a dR) (e:∀o,h.get? a=aa o→h'.get? a=aa o):nO k h' a dR:=by
 cases k with
 |true=>exact aF.IsList.at (show h.IsList a dR from x) e
 |false=>obtain⟨o,ho,r⟩:=(show h.IsTuple a dR from x);exact⟨o,e o ho,r⟩
def nP.ob (x:nP k h it a i):∃o vs,h.get? it=aa o∧o.data= .fields vs:=by
 cases k with
 |true=>obtain⟨o,ho,_,hd⟩:=(show h.IsListIter it a i from x);exact⟨o,_,ho,hd⟩
 |false=>obtain⟨o,ho,_,hd⟩:=(show h.IsTupleIter it a i from x);exact⟨o,_,ho,hd⟩
section
variable {prog:bb}{w:aQ}{A:bx}{E:aj→aq→Prop}{s:aq}
def Xs{Q:aj→aq→Prop}(hit:s.heap.IsTupleIter it t i) (ht:s.heap.IsTuple t dR) (hx:dR[i]? =aa x)
  (hQ:∀g,g.IsTupleIter it t (i+1)→cN it s.heap g→Q x { s with heap:=g }):av (aC prog w) A (cV (.ref it)) Q E s:=by
 obtain⟨o,ho,hc,hd⟩:=id hit;obtain⟨ot,hot,_,nt,hdt⟩:=ht;unfold cV;refine au (dH (name:=bK "__next__") hit.typeIs ic (dL ic hit.typeIs kS ?_ (lF _)));show av _ _ (field (.ref it) 0 >>= _) _ _ s;refine au (bU ho hd (x:= .ref t) rfl ?_);show av _ _ (if(bP t == cR)=true then _ else _) _ _ s;rw[if_neg (show ¬((bP t == cR)=true) from c_)];show av _ _ (field (.ref it) 1 >>= _) _ _ s;refine au (bU ho hd (x:= .int i 0) rfl ?_);show av _ _ (seqItems? (.ref t) >>= _) _ _ s;refine au (di hot hdt ?_);simp only[bn,hx];refine au (kE ho hd `s (aK ⟨x,rfl,aK (hQ _ ?_ (lK ..))⟩));exact⟨_,aF.get?_update_self _ ho (aJ.isFreed_of_fields (lR hd _)),(aJ.cls_mapFields ..).trans hc,by rw[lR hd];simp [cJ]⟩
def XY{Q:aj→aq→Prop}(hh:A.handled=none) (hit:s.heap.IsTupleIter it t i) (ht:s.heap.IsTuple t dR) (hx:dR[i]? =none)
  (hE:∀g e,j4 it s.heap g→(∃o,g.get? e=aa o∧o.cls= .type "StopIteration")→E (.ref e) { s with heap:=g }):av (aC prog w) A (cV (.ref it)) Q E s:=by
 obtain⟨o,ho,hc,hd⟩:=id hit;obtain⟨ot,hot,_,nt,hdt⟩:=ht;unfold cV;refine au (dH (name:=bK "__next__") hit.typeIs ic (dL ic hit.typeIs kS ?_ (lF _)));show av _ _ (field (.ref it) 0 >>= _) _ _ s;refine au (bU ho hd (x:= .ref t) rfl ?_);show av _ _ (if(bP t == cR)=true then _ else _) _ _ s;rw[if_neg (show ¬((bP t == cR)=true) from c_)];show av _ _ (field (.ref it) 1 >>= _) _ _ s;refine au (bU ho hd (x:= .int i 0) rfl ?_);show av _ _ (seqItems? (.ref t) >>= _) _ _ s;refine au (di hot hdt ?_);simp only[bn,hx];refine au (eW (au (kE ho hd `s ?_)));show av _ _ (newExc (.type "StopIteration") [] >>= _) _ _ _;refine au ?_;simp only[newExc,newTuple];refine au (eT ?_ (by size_fits));refine au (m:=lZ _ _) (wpAny_of_eq (a:=cR) (by first |rfl | (simp only[lZ];rfl)) ?_);refine eT ?_ (by size_fits);simp only[raiseNew];refine au (wpAny_handled ?_)
 first |rw[show A.in1.handled=none from hh] |rw[hh]
 refine au (aK (wpAny_throw ?_));exact hE _ _ (((lK ..).extBut.push _).push _) ⟨_,bO _ rfl,rfl⟩
def CC{Q:aj→aq→Prop}(hit:nP k s.heap it t i) (ht:nO k s.heap t dR) (hx:dR[i]? =aa x)
  (hQ:∀g,nP k g it t (i+1)→cN it s.heap g→Q x { s with heap:=g }):av (aC prog w) A (cV (.ref it)) Q E s:=by
 cases k with
 |true=>exact wpAny_nextOf_list_item hit ht hx hQ
 |false=>exact Xs hit ht hx hQ
def E6{Q:aj→aq→Prop}(hh:A.handled=none) (hit:nP k s.heap it t i) (ht:nO k s.heap t dR) (hx:dR[i]? =none)
  (hE:∀g e,j4 it s.heap g→(∃o,g.get? e=aa o∧o.cls= .type "StopIteration")→E (.ref e) { s with heap:=g }):av (aC prog w) A (cV (.ref it)) Q E s:=by
 cases k with
 |true=>exact wpAny_nextOf_list_end hh hit ht hx hE
 |false=>exact XY hh hit ht hx hE
def VZ{k:Bool}{e it l:ai}{i:Nat}{dR:Array aj}{x old:aj}{Q:Option aj→aq→Prop}
  (he:cW s.heap e it i old) (hit:nP k s.heap it l i) (hl:nO k s.heap l dR) (hx:dR[i]? =aa x) (hne:e≠it)
  (hQ:∀g,jN g e it ((i:Int)+1) x s.heap.objs.size→nP k g it l (i+1)→g.get? s.heap.objs.size=aa { cls:= .type "tuple",data:= .seq #[.int i s.toks,x] }→g.objs.size=s.heap.objs.size+1→
   (∀b o,b≠e→b≠it→s.heap.get? b=aa o→g.get? b=aa o)→Q (aa (.ref s.heap.objs.size)) { s with heap:=g,toks:=s.toks+1 }):av (aC prog w) A (cu (.ref e)) Q E s:=by
 have hT:s.TypeIs (.ref e) "enumerate" :=⟨_,he,rfl⟩;unfold cu;refine au (gA (dH (name:=bK "__next__") hT g9 (dL g9 hT mH ?_ (lS _))));obtain⟨hp,g,d,tk,os⟩:=s;show av _ _ (field (.ref e) 2 >>= _) _ _ _;refine au (bU he rfl (x:= .ref it) rfl ?_);refine au (CC hit hl hx λg1 hit1 hs1=>?_);replace hs1:cN it hp g1:=hs1;have he1:cW g1 e it i old:=(hs1.2 e hne).trans he;show av _ _ (field (.ref e) 3 >>= _) _ _ ⟨g1,g,d,tk,os⟩;refine au (bU he1 rfl (x:=cJ i) rfl ?_);show av _ _ (field (.ref e) 4 >>= _) _ _ ⟨g1,g,d,tk,os⟩;refine au (bU he1 rfl (x:= .none) rfl ?_);show av _ _ (mkInt i >>= _) _ _ ⟨g1,g,d,tk,os⟩;refine au (wpAny_mkInt ?_);show av _ _ (setField (.ref e) 3 (cJ ((i:Int)+1)) >>= _) _ _ ⟨g1,g,d,tk+1,os⟩;refine au (cS he1 `s λg2 he2 hs2=>?_);replace hs2:cN e g1 g2:=hs2;replace he2:cW g2 e it ((i:Int)+1) old:=he2;show av _ _ (setField (.ref e) 4 .none >>= _) _ _ ⟨g2,g,d,tk+1,os⟩;refine au (cS he2 `s λg3 he3 hs3=>?_);replace hs3:cN e g2 g3:=hs3;replace he3:cW g3 e it ((i:Int)+1) old:=he3;show av _ _ (newTuple [.int i tk,x] >>= _) _ _ ⟨g3,g,d,tk+1,os⟩;refine au (lA ?_);have he4:cW (g3.push { cls:= .type "tuple",data:= .seq #[.int i tk,x] }) e it ((i:Int)+1) old:=aS _ he3;generalize hg4:g3.push { cls:= .type "tuple",data:= .seq #[.int i tk,x] }=g4 at he4;have hsz:g3.objs.size=hp.objs.size:=by rw[hs3.1,hs2.1,hs1.1]
 have hel:e<hp.objs.size:=aR he;have ht4:g4.get? hp.objs.size=aa { cls:= .type "tuple",data:= .seq #[.int i tk,x] }:=by rw[←hg4,←hsz];exact bO _ rfl
 have hz4:g4.objs.size=hp.objs.size+1:=by rw[←hg4,c5,hsz]
 have hk4:∀b o,b≠e→b≠it→hp.get? b=aa o→g4.get? b=aa o:=λb o hbe hbi hb=>by rw[←hg4];exact aS _ (hs3.extBut b o hbe (hs2.extBut b o hbe (hs1.extBut b o hbi hb)))
 have hit4:nP k g4 it l (i+1):=by rw[←hg4];exact hit1.at λo ho=>aS _ (hs3.extBut it o (bG hne) (hs2.extBut it o (bG hne) ho))
 show av _ _ (eX (.ref e) >>= _) _ _ ⟨g4,g,d,tk+1,os⟩;rw[hsz];clear hg4 he3 hs3 he2 hs2 he1 hs1 hit1 hsz g3 g2 g1;refine au ?_;unfold eX;refine au (bU he4 rfl (x:= .none) rfl (aK ?_));simp only[if_true];refine au (eW ?_);refine au (bU he4 rfl (x:=old) rfl ?_);refine au (cS he4 `s λg5 he5 hs5=>?_);replace hs5:cN e g4 g5:=hs5;replace he5:cW g5 e it ((i:Int)+1) x:=he5;show av _ _ (g_ (.ref e) (.ref hp.objs.size) >>= _) _ _ ⟨g5,g,d,tk+1,os⟩;refine au ?_;unfold g_;refine au (cS he5 `s λg6 he6 hs6=>?_);replace hs6:cN e g5 g6:=hs6;replace he6:jN g6 e it ((i:Int)+1) x hp.objs.size:=he6;refine cS he6 `s λg7 he7 hs7=>?_;replace hs7:cN e g6 g7:=hs7;replace he7:jN g7 e it ((i:Int)+1) x hp.objs.size:=he7;refine au (iq (aK ⟨_,rfl,aK (hQ g7 he7 ?_ ?_ ?_ ?_)⟩))
 ·exact hit4.at λo ho=>hs7.extBut it o (bG hne) (hs6.extBut it o (bG hne) (hs5.extBut it o (bG hne) ho))
 ·exact hs7.extBut _ _ (c9 hel) (hs6.extBut _ _ (c9 hel) (hs5.extBut _ _ (c9 hel) ht4))
 ·rw[hs7.1,hs6.1,hs5.1,hz4]
 ·exact λb o hbe hbi hb=>hs7.extBut b o hbe (hs6.extBut b o hbe (hs5.extBut b o hbe (hk4 b o hbe hbi hb)))
def YE{k:Bool}{e it l:ai}{i:Nat}{dR:Array aj}{old:aj}{Q:Option aj→aq→Prop}(hh:A.handled=none)
  (he:cW s.heap e it i old) (hit:nP k s.heap it l i) (hl:nO k s.heap l dR) (hx:dR[i]? =none) (hQ:∀g,j4 it s.heap g→Q none { s with heap:=g }):av (aC prog w) A (cu (.ref e)) Q E s:=by
 have hT:s.TypeIs (.ref e) "enumerate" :=⟨_,he,rfl⟩;unfold cu;refine au (gA (dH (name:=bK "__next__") hT g9 (dL g9 hT mH ?_ (lS _))));show av _ _ (field (.ref e) 2 >>= _) _ _ _;refine au (bU he rfl (x:= .ref it) rfl ?_);refine au (E6 hh hit hl hx λg x he' hx'=>?_);obtain⟨o,ho,hc⟩:=hx';refine au (mK (T:= "StopIteration") (b:=true) ⟨o,ho,hc⟩ lH ?_);exact aK (hQ _ he')
end
noncomputable def rN (k:Bool) (a:ai):aJ:={ cls:= .type (if k=true then "list_iterator" else "tuple_iterator"),data:= .fields #[.ref a, .int 0 0] }
def G7 (e:h.get? it=aa (rN k a)):nP k h it a 0:=by
 cases k with
 |true=>exact⟨_,e,rfl,rfl⟩
 |false=>exact⟨_,e,rfl,rfl⟩
def EB:(rN k a).isFreed=false:=by cases k<;>rfl
section
variable {prog:bb}{w:aQ}{A:bx}{E:aj→aq→Prop}{s:aq}
def DT{Q:aj→aq→Prop}(ha:nO k s.heap a dR) (hQ:Q (.ref s.heap.objs.size) { s with heap:=s.heap.push (rN k a) }):av (aC prog w) A (dP (.ref a)) Q E s:=by
 cases k with
 |true=>exact fA ha hQ
 |false=>exact kr ha hQ
end
def nO.push (x:nO k h a dR) (o:aJ):nO k (h.push o) a dR:=x.at λ_ e=>aS _ e
def QZ (l:ai) (dR:Array aj) :
  PySem.Meets (cr.«enumerate.__new__» ⟨[.type "enumerate", .ref l],[]⟩) (λ_ R s=>nO k s.heap l dR∧
   R (.ok (.ret (.ref (s.heap.push (rN k l)).objs.size))) { s with heap:=(s.heap.push (rN k l)).push { cls:= .type "enumerate",data:= .fields #[.none, .bool false, .ref s.heap.objs.size,cJ 0, .none, .none] } }):=
 .of_wp λprog w A R s h=>by
  obtain⟨hp,g,d,tk,os⟩:=s;obtain⟨hl,h⟩:=h;have hsub:=sub_enumerate;have hL:nO k (aq.heap ⟨hp,g,d,tk,os⟩) l dR:=hl;have fin:∀{A:bx}{E:aj→aq→Prop}{Q:aj→aq→Prop},Q (.ref hp.objs.size) ⟨hp.push (rN k l),g,d,tk,os⟩→av (aC prog w) A (dP (.ref l)) Q E ⟨hp,g,d,tk,os⟩:=λq=>DT hL q
  wp_walk
  refine wpAny_stack_any λst=>aK ?_;split
  ·rename_i c _ _ _ _ _;cases(c == j7 "enumerate")
   ·wp_walk using fin
    exact⟨_,rfl,h⟩
   ·wp_walk using fin
    exact⟨_,rfl,h⟩
  ·wp_walk using fin
   exact⟨_,rfl,h⟩
section
variable {prog:bb}{w:aQ}{A:bx}{E:aj→aq→Prop}{s:aq}
def Y8{Q:aj→aq→Prop}(hL:nO k s.heap l dR)
  (h:∀g,cW g (s.heap.objs.size+1) s.heap.objs.size 0 .none→nP k g s.heap.objs.size l 0→g.objs.size=s.heap.objs.size+2→(∀b o,s.heap.get? b=aa o→g.get? b=aa o)→Q (.ref (s.heap.objs.size+1)) { s with heap:=g }) :
  av (aC prog w) A (call (.type "enumerate") [.ref l]) Q E s:=by
 refine callType_new PySem.F.called_enumerate `d (PySem.F.typeCall_enumerate_1 _) (PySem.F.newCall_enumerate_1 _) (λobj=>PySem.F.args_object_init_2 obj _) PySem.F.entry_enumerate_new (QZ (k:=k) l dR) ⟨hL,?_⟩;have hz:(s.heap.push (rN k l)).objs.size=s.heap.objs.size+1:=c5 ..;show _∧_;rw[hz];have he:cW ((s.heap.push (rN k l)).push { cls:= .type "enumerate",data:= .fields #[.none, .bool false, .ref s.heap.objs.size,cJ 0, .none, .none] }) (s.heap.objs.size+1) s.heap.objs.size 0 .none:=by
  have:=bO (s.heap.push (rN k l)) (o:={ cls:= .type "enumerate",data:= .fields #[.none, .bool false, .ref s.heap.objs.size,cJ 0, .none, .none] }) rfl;rw[hz]at this;exact this
 exact⟨⟨_,he,rfl⟩,h _ he (G7 (aS _ (bO _ EB))) (by rw[c5,hz]) λb o x=>aS _ (aS _ x)⟩
end
section
variable {X:Cx}{ag:List (ai×aJ)}{σ:St}{H:Hp}{s:aq}{g:aF}{fp:List ai}
def mW.turnNew{t':Nat}(I:mW X ag σ H s) (hp:s.heap.objs.size≤p) (k:∀b u,b∉fp→s.heap.get? b=aa u→g.get? b=aa u) (hf:∀b∈fp,rB X ag H b) (new:nM X.prog X.w (oa H p o) g p o) :
  mW X ag σ (oa H p o) { s with heap:=g,toks:=t' }:=by
 have hn:=I.cq.fresh hp;have lt:∀{b u},s.heap.get? b=aa u→b≠p:=λe=>bR (b7 (aR e) hp);have nfp:∀{b u},H b=aa u→b∉fp:=λe z=>by rw[(hf _ z).1]at e;cases e
 refine I.call (g':=s.gens) (d':=s.drawn) (ch:=fp) ⟨λb u e _ _ hx=>k b u hx e,λb u e _ _ hx=>⟨u.slots,k b u hx e⟩,λb u e n _=>by rw[oG (lt e)];exact n,λb u e hx=>⟨u,k b u hx e⟩,
  λb xs e=>by rw[oG (qq e hn)];exact e,λb u xs e=>by rw[oG (qq e hn)];exact e,λb ps e=>⟨#[],by rw[oG (qq e hn),e];simp⟩⟩ (λb u e=>?_) I.bare λb hb=>⟨(hf b hb).2.2.2.1,(hf b hb).2.1,(hf b hb).2.2.2.2.1,(hf b hb).2.2.2.2.2⟩
 by_cases hb:b=p
 ·subst hb;rw[qb]at e;cases e;exact new
 ·rw[oG hb]at e;refine(I.cq b u e).stay (λc v hc q=>k c v ?_ q) (λc q=>by rw[oG (qq q hn)];exact q) λc xs q=>by rw[oG (qq q hn)];exact q
  obtain rfl |hc:=hc
  ·exact nfp e
  ·exact nfp hc
def mW.turnedL{t':Nat}(I:mW X ag σ H s) (k:∀b u,b∉fp→s.heap.get? b=aa u→g.get? b=aa u) (hf:∀b∈fp,rB X ag H b):mW X ag σ H { s with heap:=g,toks:=t' }:=by
 have nfp:∀{b u},H b=aa u→b∉fp:=λe z=>by rw[(hf _ z).1]at e;cases e
 refine I.call (g':=s.gens) (d':=s.drawn) (ch:=fp) ⟨λb u e _ _ hx=>k b u hx e,λb u e _ _ hx=>⟨u.slots,k b u hx e⟩,λb u e n _=>n,λb u e hx=>⟨u,k b u hx e⟩,
  λb xs e=>e,λb u xs e=>e,λb ps e=>⟨#[],by rw[e];simp⟩⟩ (λb u e=>?_) I.bare λb hb=>⟨(hf b hb).2.2.2.1,(hf b hb).2.1,(hf b hb).2.2.2.2.1,(hf b hb).2.2.2.2.2⟩
 refine(I.cq b u e).stay (λc v hc q=>k c v ?_ q) (λc q=>q) λc xs q=>q;obtain rfl |hc:=hc
 ·exact nfp e
 ·exact nfp hc
def ub (k:Bool) (K:am) (H:Hp) (a:ai) (xs:List V):Prop:=if k=true then o9 K H a xs else pQ K H a xs
def mW.seq (I:mW X ag σ H s) (h:ub k X.K H a xs):∃dR:List aj,ni xs dR∧nO k s.heap a dR.toArray∧xs.length≤sizeLine:=by
 cases k with
 |true=>obtain⟨dR,r,p,z⟩:=I.list h;exact⟨dR,r,p.isList,z⟩
 |false=>obtain⟨dR,r,p,z⟩:=I.tuple h;exact⟨dR,r,p,z⟩
def mW.seq_inj (I:mW X ag σ H s) (h:ub k X.K H a xs) (h':ub k X.K H a ys):xs=ys:=by
 cases k with
 |true=>exact I.list_inj h h'
 |false=>exact I.tuple_inj h h'
end
noncomputable def D2 (k:Bool) (K:am) (a:ai):It:=
 ⟨λi H=>∃xs x,ub k K H a xs∧xs[i]? =aa x,λi H v H'=>∃p x,H p=none∧v= .ref p∧H'=oa H p (.bT [.int i,x])∧ ∀xs,ub k K H a xs→xs[i]? =aa x,λi H=>∃xs,ub k K H a xs∧xs.length≤i⟩
def Yh{P:bb}{w:aQ}{K:am}{es:List Expr}{x1:Nat}{pos:bv}(k:Bool) (a e it:ai) (hne:e≠it):su P w K (.Tuple es x1 pos) (D2 k K a) [e,it] e (λi h=>(∃old,cW h e it (i:Nat) old)∧nP k h it a i) where
  mem:=by simp
  obj:=λi h ⟨⟨old,he⟩,hit⟩ b hb=>by
    obtain rfl |hb:=aB.mp hb
    · exact⟨_,he,λv z=>by cases z⟩
    · have q:b=it:=by simpa using hb
      subst q;obtain⟨o,vs,e,d⟩:=hit.ob;exact⟨o,e,λv z=>by rw[d]at z;cases z⟩
  keep:=λi h h' ⟨⟨old,he⟩,hit⟩ kk=>⟨⟨old,kk e `s _ he⟩,hit.at λo q=>kk it `s o q⟩
  item:=by
    intro X hP hw hK hc i ag s σ H E I hf st hg;subst hP hw hK;obtain⟨xs,x,hq,hx⟩:=hg;obtain⟨⟨old,he⟩,hit⟩:=st;obtain⟨dR,rv,p,hz⟩:=I.seq hq;obtain⟨u,hu,ru⟩:=rv.get hx;refine VZ he hit p (x:=u) (by simpa using hu) hne λg ho hit' ht hz' kk=>⟨_,rfl,?_⟩;refine wpAny_letOwnedTupleGo_enum ho λg2 he2 hs2=>?_;have hlt:s.heap.objs.size≠e:=c9 (aR he);have kk2:∀b o,b∉ [e,it]→s.heap.get? b=aa o→g2.get? b=aa o:=λb o hb q=>by
      have h1:b≠e:=λz=>hb (by simp [z]);have h2:b≠it:=λz=>hb (by simp [z]);exact(hs2.2 b h1).trans (kk b o h1 h2 q)
    have hn:=I.cq.fresh (aA s.heap.objs.size);have ht2:g2.get? s.heap.objs.size=aa { cls:= .type "tuple",data:= .seq #[.int i s.toks,u] }:=(hs2.2 _ hlt).trans ht;refine⟨.ref s.heap.objs.size,oa H s.heap.objs.size (.bT [.int i,x]),I.turnNew (fp:=[e,it]) (t':=s.toks+1) (aA _) kk2 hf ⟨by show 2≤sizeLine;rw[eN];decide,[.int i s.toks,u], .cons ⟨_,rfl⟩ (.cons ru .nil),⟨_,ht2,rfl,_,rfl⟩⟩,rfl,
      ⟨_,x,hn,rfl,rfl,λys hy=>by rw[I.seq_inj hy hq];exact hx⟩,⟨⟨u,by simpa using he2⟩,hit'.at λo q=>(hs2.2 it (bG hne)).trans q⟩,λb hb=>?_⟩
    have hb':=(hf b hb).1;have:b≠s.heap.objs.size:=by
      obtain rfl |hb:=aB.mp hb
      · exact bG hlt
      · have q:b=it:=by simpa using hb
        subst q;obtain⟨o,vs,e,d⟩:=hit.ob;exact bR (aR e)
    rw[oG this];exact hb'
  done:=by
    intro X hP hw hK hc i ag s σ H E I hf st hg;subst hP hw hK;obtain⟨xs,hq,hx⟩:=hg;obtain⟨⟨old,he⟩,hit⟩:=st;obtain⟨dR,rv,p,hz⟩:=I.seq hq;have hl:=rv.length;exact YE (I.ok.hd hc) he hit p (by simp;lia) λg eb=>⟨rfl,I.turnedL (fp:=[e,it]) (t':=s.toks) (λb o hb q=>eb b o (λz=>hb (by simp [z])) q) hf⟩
  self:=λA i s Q E ⟨⟨old,he⟩,hit⟩ h=>mj he h
section
variable {X:Cx}{es:List Expr}{x1:Nat}{tpos:bv}
def SV (K:am) (ta:TA):TI:=λσ H R=>ta σ H λvs H1=>∃k a xs,vs=[.ref a]∧ub k K H1 a xs∧R (D2 k K a) H1
def Uz{a:Expr}{ta:TA}{p pos:bv}(hg:Gl X "enumerate") (hm:X.mg "enumerate" =none) (ha:PA X [a] ta) (hs:ax [a] X.env=[(false,aH a X.env)]):PI X (.Tuple es x1 tpos) (.Call (.Name "enumerate" p) [a] [] pos) (SV X.K ta):=by
 intro ag s σ H R I h;refine Call_ (xD I hg hm boot_enumerate (gF (nZ (ha pos ag s σ H _ I h) λus s1 zz=>oQ zz λvs H1 I1 r1 q1=>?_) hs rfl));obtain⟨k,a,xs,e,hq,q⟩:=q1;subst e;cases r1 with
 |cons r rr=>
  cases rr;cases(show _=bP a from r);obtain⟨dR,rv,pl,hz⟩:=I1.seq hq;refine Y8 pl λg he hit hz' kk=>mj he ?_;have I2:mW X ag σ H1 { s1 with heap:=g }:=I1.kept (t':=s1.toks) kk;refine⟨s1.heap.objs.size+1,[s1.heap.objs.size+1,s1.heap.objs.size],_,_,H1,rfl,I2,Yh k a _ _ (Nat.succ_ne_self _),⟨⟨.none,he⟩,hit⟩,λb hb=>?_,q⟩;have hb':s1.heap.objs.size≤b:=by
   obtain rfl |hb:=aB.mp hb
   ·exact Nat.le_succ _
   ·have q:b=s1.heap.objs.size:=by simpa using hb
    exact fZ q.symm
  exact I1.fpOk hb' (I1.cq.fresh hb')
noncomputable def nums:Nat→List W→List W
 |_,[]=>[]
 |n,w::ws=> .bT [.int n,w]::nums (n+1) ws
theorem Mm:∀{ws:List W}{n i:Nat}{u:W},(nums n ws)[i]? =aa u→ ∃w,ws[i]? =aa w∧u= .bT [.int ((n+i:Nat):Int),w]
 | [],_,_,_,h=>by simp [nums]at h
 |w::ws,n,0,u,h=>by
  simp [nums]at h;exact⟨w,rfl,by rw[←h];rfl⟩
 |w::ws,n,i+1,u,h=>by
  obtain⟨w',e,q⟩:=Mm (ws:=ws) (n:=n+1) (i:=i) (u:=u) (by simpa [nums]using h);refine⟨w',by simpa using e,?_⟩
  rw[q,show n+1+i=n+(i+1) by lia]
theorem Mq:∀{ws:List W}{n:Nat},(nums n ws).length=ws.length
 | [],_=>rfl
 |w::ws,n=>by simp [nums,Mq (ws:=ws)]
def VP{K:am}{k:Bool}{a:ai}{ws:List W}{G:kB→Prop}{H0:Hp}{S0:kB}(h:∀S H,oh H0 S0 H S→m5 K H S→G S→ ∃vs,ub k K H a vs∧mY K H ws vs):xj K (D2 k K a) (nums 0 ws) G H0 S0:=λi S H e hS hG=>by
 obtain⟨vs,hq,r⟩:=h S H e hS hG;refine⟨λu eu=>?_,λhl=>⟨vs,hq,by rw[←r.length,hl,Mq];exact aA _⟩⟩
 obtain⟨w,ew,rfl⟩:=Mm eu;obtain⟨v,ev,rv⟩:=r.get ew;refine⟨⟨vs,v,hq,ev⟩,λx H' ⟨p,y,hp,e1,e2,e3⟩=>?_⟩;subst e1 e2;have e4:=e3 vs hq;rw[ev]at e4;cases e4;rw[bI];exact⟨.new hp,hS.new hp, .bT qb (.cons (.int _) (.cons (rv.ext (.new (S:=S) hp)) .nil))⟩
def uU:W→kB→(List W→(kB→Prop)→Prop)→Prop
 | .bT ws,_,Q=>Q ws λ_=>True
 | .ref a,S,Q=>oA S a λws=>Q ws λS'=>S' a=aa (.bJ ws)
 | .cM ns,_,Q=>Q (ns.map W.int) λ_=>True
 |_,_,_=>False
def Q6{K:am}{H:Hp}{S:kB}{w:W}{v:V}{Q:List W→(kB→Prop)→Prop}(r:n9 K H w v) (hS:m5 K H S) (h:uU w S Q) :
  ∃k a ws G,v= .ref a∧G S∧(∀S' H',oh H S H' S'→m5 K H' S'→G S'→ ∃vs,ub k K H' a vs∧mY K H' ws vs)∧Q ws G:=by
 cases r with
 |bT f hs=>exact⟨false,_,_,_,rfl,trivial,λS' H' e hS' _=>⟨_, .of (e.bT _ _ f),hs.ext e⟩,h⟩
 |ref a=>
  obtain⟨ws,ea,h⟩:=qI h;exact⟨true,_,ws,_,rfl,ea,λS' H' e hS' g=>by
   obtain⟨vs,f,hs⟩:=hS' a _ g;exact⟨vs, .of f,hs⟩,h⟩
 |cM f=>exact⟨true,_,_,_,rfl,trivial,λS' H' e hS' _=>⟨_,(e.fz f).sq,mY.ofInts _⟩,h⟩
 |_=>exact h.elim
def t8 (t:WE) (E:WX) (σ:nj) (S:kB) (Q:List W→(kB→Prop)→kB→Prop):Prop:=t E σ S λw S1=>uU w S1 λws G=>Q (nums 0 ws) G S1
def Um{a:Expr}{ta:WE}{p pos:bv}(hg:Gl X "enumerate") (hm:X.mg "enumerate" =none) (ha:JE X a ta) (hs:ax [a] X.env=[(false,aH a X.env)]) (hs2:ax [a] X.env=(false,aH a X.env)::ax [] X.env):JI X (.Tuple es x1 tpos) (.Call (.Name "enumerate" p) [a] [] pos) (t8 ta):=λE hE=>
 (Uz hg hm (ur (ha E hE) pB hs2) hs).mono λσ H R zz=>on zz λσW S QW hσ hS ht hR=>⟨σW,S,_,hσ,hS,ht,λw S1 v H1 e1 r1 gV h1=>by
  obtain⟨k,a,ws,G,rfl,hG,hq,h⟩:=Q6 r1 gV h1;obtain⟨vs,hv,_⟩:=hq S1 H1 .refl gV hG;exact⟨k,a,vs,rfl,hv,hR _ _ S1 _ H1 e1 gV hG (VP hq) h⟩⟩
end
section
variable {prog:bb}{w:aQ}{A:bx}{E:aj→aq→Prop}{s:aq}
def Sx{z TI TO i1 i2 l1 l2:ai}{n1 n2:Nat}{Q:Option aj→aq→Prop}(D:jB z TI TO i1 i2 l1 l2)
  (hz:cw s.heap z TI TO .none) (hTI:cb s.heap TI (.ref i1) (.ref i2)) (hTO:cb s.heap TO a b) (h1:nP k1 s.heap i1 l1 n1) (h2:nP k2 s.heap i2 l2 n2) (hl1:nO k1 s.heap l1 xs) (hl2:nO k2 s.heap l2 ys) (hx:xs[n1]? =aa x) (hy:ys[n2]? =aa y)
  (hQ:∀g,cw g z TI TO (cJ s.heap.objs.size)→cb g TO x y→nP k1 g i1 l1 (n1+1)→nP k2 g i2 l2 (n2+1)→cb g s.heap.objs.size x y→g.objs.size=s.heap.objs.size+1→
   (∀c o,c≠z→c≠TO→c≠i1→c≠i2→s.heap.get? c=aa o→g.get? c=aa o)→Q (aa (.ref s.heap.objs.size)) { s with heap:=g }):av (aC prog w) A (cu (.ref z)) Q E s:=by
 have hT:s.TypeIs (.ref z) "zip" :=⟨_,hz,rfl⟩;unfold cu;refine au (gA (dH (name:=bK "__next__") hT gq (dL gq hT ln ?_ (lp _))));show av _ _ (field (.ref z) 2 >>= _) _ _ _;refine au (bU hz rfl (x:= .bool false) rfl ?_);show av _ _ (field (.ref z) 3 >>= _) _ _ _;refine au (bU hz rfl (x:= .ref TI) rfl ?_);refine au (di hTI rfl ?_);show av _ _ (eX (.ref z) >>= _) _ _ _;refine au ?_;unfold eX;refine au (bU hz rfl (x:= .none) rfl (aK ?_));simp only[if_true];refine au (eW ?_);refine au (bU hz rfl (x:= .ref TO) rfl ?_);refine au (cS hz `s λg1 hz1 hs1=>?_);replace hz1:cw g1 z TI TO .ellipsis:=hz1;refine au ?_;simp only[mB,lg,iU,lL];refine au (au (il ?_));show av _ _ (cV (.ref i1) >>= _) _ _ _;refine au (CC (h1.at λo e=>hs1.extBut _ o D.i1z e) (hl1.at λo e=>hs1.extBut _ o D.l1z e) hx λg2 h12 hs2=>aK ?_);have hTO2:cb g2 TO a b:=hs2.extBut _ _ D.TOi1 (hs1.extBut _ _ D.TOz hTO);refine au (di hTO2 rfl ?_);refine au (jn hTO2 λg3 hTO3 hs3=>?_);replace hTO3:cb g3 TO x b:=hTO3;refine au (iq (aK ?_));refine au (au (il ?_));show av _ _ (cV (.ref i2) >>= _) _ _ _;refine au (CC (h2.at λo e=>hs3.extBut _ o D.TOi2.symm (hs2.extBut _ o D.i12.symm (hs1.extBut _ o D.i2z e))) (hl2.at λo e=>hs3.extBut _ o D.l2TO (hs2.extBut _ o D.l2i1 (hs1.extBut _ o D.l2z e))) hy λg4 h24 hs4=>aK ?_);have hTO4:cb g4 TO x b:=hs4.extBut _ _ D.TOi2 hTO3;refine au (di hTO4 rfl ?_);refine au (jn hTO4 λg5 hTO5 hs5=>?_);replace hTO5:cb g5 TO x y:=hTO5;refine au (iq (aK (aK ?_)));refine au (di hTO5 rfl ?_);refine au (lA ?_);have hsz:g5.objs.size=s.heap.objs.size:=by rw[hs5.1,hs4.1,hs3.1,hs2.1,hs1.1]
 have hz5:cw g5 z TI TO .ellipsis:=hs5.extBut _ _ D.TOz.symm (hs4.extBut _ _ D.i2z.symm (hs3.extBut _ _ D.TOz.symm (hs2.extBut _ _ D.i1z.symm hz1)));have hk5:∀c o,c≠z→c≠TO→c≠i1→c≠i2→s.heap.get? c=aa o→g5.get? c=aa o:=λc o c1 c2 c3 c4 e=>hs5.extBut _ _ c2 (hs4.extBut _ _ c4 (hs3.extBut _ _ c2 (hs2.extBut _ _ c3 (hs1.extBut _ _ c1 e))));have h15:nP k1 g5 i1 l1 (n1+1):=h12.at λo e=>hs5.extBut _ o D.TOi1.symm (hs4.extBut _ o D.i12 (hs3.extBut _ o D.TOi1.symm e));have h25:nP k2 g5 i2 l2 (n2+1):=h24.at λo e=>hs5.extBut _ o D.TOi2.symm e;have hzlt:z<g5.objs.size:=aR hz5;show av _ _ (g_ (.ref z) (.ref g5.objs.size) >>= _) _ _ _;refine au ?_;unfold g_;have hz6:cw (g5.push { cls:= .type "tuple",data:= .seq #[x,y] }) z TI TO .ellipsis:=aS _ hz5;refine au (cS hz6 `s λg7 hz7 hs7=>?_);replace hz7:cw g7 z TI TO (cJ g5.objs.size):=hz7;refine cS hz7 `s λg8 hz8 hs8=>?_;replace hz8:cw g8 z TI TO (cJ g5.objs.size):=hz8;have up:∀c o,c≠z→g5.get? c=aa o→g8.get? c=aa o:=λc o c1 e=>hs8.extBut _ _ c1 (hs7.extBut _ _ c1 (aS _ e));have hT8:cb g8 g5.objs.size x y:=hs8.extBut _ _ (c9 hzlt) (hs7.extBut _ _ (c9 hzlt) (bO _ rfl));have hzz:g8.objs.size=g5.objs.size+1:=by rw[hs8.1,hs7.1,c5]
 rw[hsz]at hz8 hT8 hzz;refine aK ⟨_,rfl,aK ?_⟩;show Q (aa (.ref g5.objs.size)) _;rw[hsz];exact hQ g8 hz8 (up _ _ D.TOz hTO5) (h15.at λo e=>up _ o D.i1z e) (h25.at λo e=>up _ o D.i2z e) hT8 hzz λc o c1 c2 c3 c4 e=>up c o c1 (hk5 c o c1 c2 c3 c4 e)
def Q9{z TI TO i1 i2 l1 l2:ai}{n1 n2:Nat}{Q:Option aj→aq→Prop}(hh:A.handled=none) (D:jB z TI TO i1 i2 l1 l2)
  (hz:cw s.heap z TI TO .none) (hTI:cb s.heap TI (.ref i1) (.ref i2)) (hTO:cb s.heap TO a b) (h1:nP k1 s.heap i1 l1 n1) (h2:nP k2 s.heap i2 l2 n2) (hl1:nO k1 s.heap l1 xs) (hl2:nO k2 s.heap l2 ys) (hend:xs[n1]? =none∨ys[n2]? =none)
  (hQ:∀g,(∀c o,c≠z→c≠TO→c≠i1→c≠i2→s.heap.get? c=aa o→g.get? c=aa o)→Q none { s with heap:=g }):av (aC prog w) A (cu (.ref z)) Q E s:=by
 have hT:s.TypeIs (.ref z) "zip" :=⟨_,hz,rfl⟩;have fin:∀(g:aF) (e:ai),(∀c o,c≠z→c≠TO→c≠i1→c≠i2→s.heap.get? c=aa o→g.get? c=aa o)→(∃o,g.get? e=aa o∧o.cls= .type "StopIteration")→
   av (aC prog w) A (do if(←isInstance (.ref e) (.type "StopIteration")) then pure none else throw (.ref e)) Q E { s with heap:=g }:=λg e hk ⟨o,ho,hc⟩=>
  au (mK (T:= "StopIteration") (b:=true) ⟨o,ho,hc⟩ lH (aK (hQ _ hk)))
 unfold cu;refine au (gA (dH (name:=bK "__next__") hT gq (dL gq hT ln ?_ (lp _))));show av _ _ (field (.ref z) 2 >>= _) _ _ _;refine au (bU hz rfl (x:= .bool false) rfl ?_);show av _ _ (field (.ref z) 3 >>= _) _ _ _;refine au (bU hz rfl (x:= .ref TI) rfl ?_);refine au (di hTI rfl ?_);show av _ _ (eX (.ref z) >>= _) _ _ _;refine au ?_;unfold eX;refine au (bU hz rfl (x:= .none) rfl (aK ?_));simp only[if_true];refine au (eW ?_);refine au (bU hz rfl (x:= .ref TO) rfl ?_);refine au (cS hz `s λg1 hz1 hs1=>?_);replace hz1:cw g1 z TI TO .ellipsis:=hz1;refine au ?_;simp only[mB,lg,iU,lL];refine au (au (il ?_));show av _ _ (cV (.ref i1) >>= _) _ _ _;cases hx:xs[n1]? with
 |none=>
  refine au (E6 hh (h1.at λo e=>hs1.extBut _ o D.i1z e) (hl1.at λo e=>hs1.extBut _ o D.l1z e) hx λg2 e hs2 he=>?_);obtain⟨oe,hoe,hce⟩:=he;have hz2:cw g2 z TI TO .ellipsis:=hs2 _ _ D.i1z.symm hz1;have hez:e≠z:=λx=>by subst x;rw[hz2]at hoe;cases hoe;simp at hce
  refine cS hz2 `s λg3 _ hs3=>fin g3 e (λc o c1 _ c3 _ x=>hs3.extBut _ _ c1 (hs2 _ _ c3 (hs1.extBut _ _ c1 x))) ⟨oe,hs3.extBut _ _ hez hoe,hce⟩
 |some x=>
  have hy:ys[n2]? =none:=by obtain h |h:=hend;rw[hx]at h;cases h;exact h
  refine au (CC (h1.at λo e=>hs1.extBut _ o D.i1z e) (hl1.at λo e=>hs1.extBut _ o D.l1z e) hx λg2 h12 hs2=>aK ?_);have hTO2:cb g2 TO a b:=hs2.extBut _ _ D.TOi1 (hs1.extBut _ _ D.TOz hTO);refine au (di hTO2 rfl ?_);refine au (jn hTO2 λg3 hTO3 hs3=>?_);refine au (iq (aK ?_));refine au (au (il ?_));show av _ _ (cV (.ref i2) >>= _) _ _ _;refine au (E6 hh (h2.at λo e=>hs3.extBut _ o D.TOi2.symm (hs2.extBut _ o D.i12.symm (hs1.extBut _ o D.i2z e))) (hl2.at λo e=>hs3.extBut _ o D.l2TO (hs2.extBut _ o D.l2i1 (hs1.extBut _ o D.l2z e))) hy λg4 e hs4 he=>?_);obtain⟨oe,hoe,hce⟩:=he;have hz4:cw g4 z TI TO .ellipsis:=hs4 _ _ D.i2z.symm (hs3.extBut _ _ D.TOz.symm (hs2.extBut _ _ D.i1z.symm hz1));have hez:e≠z:=λx=>by subst x;rw[hz4]at hoe;cases hoe;simp at hce
  refine cS hz4 `s λg5 _ hs5=>fin g5 e (λc o c1 c2 c3 c4 x=>hs5.extBut _ _ c1 (hs4 _ _ c4 (hs3.extBut _ _ c2 (hs2.extBut _ _ c3 (hs1.extBut _ _ c1 x))))) ⟨oe,hs5.extBut _ _ hez hoe,hce⟩
end
noncomputable abbrev B_ (k1:Bool) (h:aF) (l1:ai):aF:=h.push (rN k1 l1)
noncomputable abbrev BA (k1 k2:Bool) (h:aF) (l1 l2:ai):aF:=(B_ k1 h l1).push (rN k2 l2)
noncomputable abbrev D' (k1 k2:Bool) (h:aF) (l1 l2:ai):aF:=(BA k1 k2 h l1 l2).push { cls:= .type "tuple",data:= .seq #[.ref h.objs.size, .ref (B_ k1 h l1).objs.size] }
noncomputable abbrev CP (k1 k2:Bool) (h:aF) (l1 l2:ai):aF:=(D' k1 k2 h l1 l2).push { cls:= .type "tuple",data:= .seq #[.none, .none] }
noncomputable abbrev wO (k1 k2:Bool) (h:aF) (l1 l2:ai):aF:=(CP k1 k2 h l1 l2).push { cls:= .type "zip",data:= .fields #[.none, .bool false, .bool false, .ref (BA k1 k2 h l1 l2).objs.size, .ref (D' k1 k2 h l1 l2).objs.size] }
def Vq (l1 l2:ai) (xs ys:Array aj) :
  PySem.Meets (cr.«zip.__new__» ⟨[.type "zip", .ref l1, .ref l2],[]⟩) (λ_ R s=>nO k1 s.heap l1 xs∧nO k2 s.heap l2 ys∧R (.ok (.ret (.ref (CP k1 k2 s.heap l1 l2).objs.size))) { s with heap:=wO k1 k2 s.heap l1 l2 }):=
 .of_wp λprog w A R s h=>by
  obtain⟨hp,g,d,tk,os⟩:=s;obtain⟨hl1,hl2,h⟩:=h;have hsub:=sub_zip;have f1:∀{A:bx}{E:aj→aq→Prop}{Q:aj→aq→Prop},Q (.ref hp.objs.size) ⟨hp.push (rN k1 l1),g,d,tk,os⟩→av (aC prog w) A (dP (.ref l1)) Q E ⟨hp,g,d,tk,os⟩:=λq=>DT (s:=⟨hp,g,d,tk,os⟩) hl1 q;have f2:∀{A:bx}{E:aj→aq→Prop}{Q:aj→aq→Prop},Q (.ref (hp.push (rN k1 l1)).objs.size) ⟨(hp.push (rN k1 l1)).push (rN k2 l2),g,d,tk,os⟩→av (aC prog w) A (dP (.ref l2)) Q E ⟨hp.push (rN k1 l1),g,d,tk,os⟩:=λq=>DT (s:=⟨hp.push (rN k1 l1),g,d,tk,os⟩) (hl2.push _) q
  wp_walk using f1,f2
  exact⟨_,rfl,h⟩
section
variable {prog:bb}{w:aQ}{A:bx}{E:aj→aq→Prop}{s:aq}
def RF{Q:aj→aq→Prop}(hl1:nO k1 s.heap l1 xs) (hl2:nO k2 s.heap l2 ys)
  (h:∀g,cw g (s.heap.objs.size+4) (s.heap.objs.size+2) (s.heap.objs.size+3) .none→cb g (s.heap.objs.size+2) (.ref s.heap.objs.size) (.ref (s.heap.objs.size+1))→
   cb g (s.heap.objs.size+3) .none .none→nP k1 g s.heap.objs.size l1 0→nP k2 g (s.heap.objs.size+1) l2 0→g.objs.size=s.heap.objs.size+5→
   (∀c o,s.heap.get? c=aa o→g.get? c=aa o)→Q (.ref (s.heap.objs.size+4)) { s with heap:=g }):av (aC prog w) A (call (.type "zip") [.ref l1, .ref l2]) Q E s:=by
 refine callType_new PySem.F.called_zip `d (PySem.F.typeCall_zip_2 _ _) (PySem.F.newCall_zip_2 _ _) (λobj=>PySem.F.args_object_init_3 obj _ _) PySem.F.entry_zip_new (Vq (k1:=k1) (k2:=k2) l1 l2 xs ys) ⟨hl1,hl2,?_⟩;have z1:(B_ k1 s.heap l1).objs.size=s.heap.objs.size+1:=c5 ..;have z2:(BA k1 k2 s.heap l1 l2).objs.size=s.heap.objs.size+2:=by rw[c5,z1]
 have z3:(D' k1 k2 s.heap l1 l2).objs.size=s.heap.objs.size+3:=by rw[c5,z2]
 have z4:(CP k1 k2 s.heap l1 l2).objs.size=s.heap.objs.size+4:=by rw[c5,z3]
 have z5:(wO k1 k2 s.heap l1 l2).objs.size=s.heap.objs.size+5:=by rw[c5,z4]
 have g5:(wO k1 k2 s.heap l1 l2).get? (CP k1 k2 s.heap l1 l2).objs.size=aa _:=bO _ rfl;have g4:(wO k1 k2 s.heap l1 l2).get? (D' k1 k2 s.heap l1 l2).objs.size=aa _:=aS _ (bO _ rfl);have g3:(wO k1 k2 s.heap l1 l2).get? (BA k1 k2 s.heap l1 l2).objs.size=aa _:=aS _ (aS _ (bO _ rfl));have g2:(wO k1 k2 s.heap l1 l2).get? (B_ k1 s.heap l1).objs.size=aa _:=aS _ (aS _ (aS _ (bO _ EB)));have g1:(wO k1 k2 s.heap l1 l2).get? s.heap.objs.size=aa _:=aS _ (aS _ (aS _ (aS _ (bO _ EB))));show _∧_;rw[z2,z3,z4]at g5;rw[z1,z2]at g3;rw[z3]at g4;rw[z1]at g2;rw[z4];exact⟨⟨_,g5,rfl⟩,h _ g5 g3 g4 (G7 g1) (G7 g2) z5 λc o x=>aS _ (aS _ (aS _ (aS _ (aS _ x))))⟩
end
def rQ (k:Bool) (K:am) (H:Hp) (a:ai) (xs:List V):Prop:=if k=true then o9 K H a xs else H a=aa (.bT xs)
def rQ.sq{k:Bool}{K:am}{H:Hp}{a:ai}{xs:List V}(h:rQ k K H a xs):ub k K H a xs:=by
 cases k with
 |true=>exact h
 |false=>exact .of h
def nO.ob (x:nO k h a dR):∃o n,h.get? a=aa o∧o.data= .seq dR n∧(k=true→o.cls= .type "list"):=by
 cases k with
 |true=>obtain⟨o,ho,hc,n,hd⟩:=(show h.IsList a dR from x);exact⟨o,n,ho,hd,λ_=>hc⟩
 |false=>obtain⟨o,ho,hc,n,hd⟩:=(show h.IsTuple a dR from x);exact⟨o,n,ho,hd,λz=>by cases z⟩
def nO.ne_fields (x:nO k h a dR) (e:h.get? b=aa o) (d:o.data= .fields vs):a≠b:=λz=>by
 subst z;obtain⟨o',n,ho,hd,_⟩:=x.ob;rw[ho]at e;cases e;rw[hd]at d;cases d
noncomputable def Fp (k1 k2:Bool) (K:am) (a b:ai):It:=
  ⟨λi H=>∃xs ys x y,rQ k1 K H a xs∧rQ k2 K H b ys∧xs[i]? =aa x∧ys[i]? =aa y,
   λi H v H'=>∃p x y,H p=none∧v= .ref p∧H'=oa H p (.bT [x,y])∧(∀xs,rQ k1 K H a xs→xs[i]? =aa x)∧ ∀ys,rQ k2 K H b ys→ys[i]? =aa y,
   λi H=>∃xs ys,rQ k1 K H a xs∧rQ k2 K H b ys∧(xs.length≤i∨ys.length≤i)⟩
structure si (z TI TO i1 i2:ai):Prop where
  TIz:TI≠z
  TOz:TO≠z
  i1z:i1≠z
  i2z:i2≠z
  TITO:TI≠TO
  TIi1:TI≠i1
  TIi2:TI≠i2
  TOi1:TO≠i1
  TOi2:TO≠i2
  i12:i1≠i2
def Nt (k1 k2:Bool) (z TI TO i1 i2 a b:ai) (i:Nat) (h:aF):Prop:=cw h z TI TO .none∧cb h TI (.ref i1) (.ref i2)∧(∃u v,cb h TO u v)∧nP k1 h i1 a i∧nP k2 h i2 b i
def NG{z TI TO i1 i2 a b:ai}(I:mW X ag σ H s) (hTO:H TO=none) (D:si z TI TO i1 i2) (st:Nt k1 k2 z TI TO i1 i2 a b i s.heap) (ha:rQ k1 X.K H a xs) (hb:rQ k2 X.K H b ys):jB z TI TO i1 i2 a b:=by
 obtain⟨hz,hTI,⟨u,v,hTOo⟩,h1,h2⟩:=st;obtain⟨o1,v1,e1,d1⟩:=h1.ob;obtain⟨o2,v2,e2,d2⟩:=h2.ob;obtain⟨dR,_,pa,_⟩:=I.seq ha.sq;obtain⟨its2,_,pb,_⟩:=I.seq hb.sq;have nTO:∀{k:Bool}{c:ai}{zs:List V}{dR:Array aj},rQ k X.K H c zs→nO k s.heap c dR→c≠TO:=λ{k c zs dR} hc pc e=>by
  subst e;cases k with
  |false=>rw[show H c=aa (.bT zs) from hc]at hTO;cases hTO
  |true=>
   obtain⟨o,n,ho,_,hcl⟩:=pc.ob;rw[hTOo]at ho;cases ho;have:=hcl rfl;simp at this
 exact⟨D.TIz,D.TOz,D.i1z,D.i2z,D.TITO,D.TIi1,D.TIi2,D.TOi1,D.TOi2,D.i12,pa.ne_fields hz rfl,nTO ha pa,pa.ne_fields e1 d1,pa.ne_fields e2 d2,pb.ne_fields hz rfl,nTO hb pb,pb.ne_fields e1 d1,pb.ne_fields e2 d2⟩
def U9{P:bb}{w:aQ}{K:am}{es:List Expr}{x1:Nat}{pos:bv}(k1 k2:Bool) (a b z TI TO i1 i2:ai) (D:si z TI TO i1 i2):su P w K (.Tuple es x1 pos) (Fp k1 k2 K a b) [z,TI,TO,i1,i2] z (Nt k1 k2 z TI TO i1 i2 a b) where
  mem:=by simp
  obj:=λi h ⟨hz,hTI,⟨u,v,hTO⟩,h1,h2⟩ c hc=>by
    obtain⟨o1,v1,e1,d1⟩:=h1.ob;obtain⟨o2,v2,e2,d2⟩:=h2.ob;simp only[aB,bo,or_false]at hc;obtain rfl |rfl |rfl |rfl |rfl:=hc
    · exact⟨_,hz,λv z=>by cases z⟩
    · exact⟨_,hTI,λv z=>by cases z⟩
    · exact⟨_,hTO,λv z=>by cases z⟩
    · exact⟨_,e1,λv z=>by rw[d1]at z;cases z⟩
    · exact⟨_,e2,λv z=>by rw[d2]at z;cases z⟩
  keep:=λi h h' ⟨hz,hTI,⟨u,v,hTO⟩,h1,h2⟩ kk=>⟨kk z `s _ hz,kk TI `s _ hTI,⟨u,v,kk TO `s _ hTO⟩,h1.at λo q=>kk i1 `s o q,h2.at λo q=>kk i2 `s o q⟩
  item:=by
    intro X hP hw hK hc i ag s σ H E I hf st hg;subst hP hw hK;obtain⟨xs,ys,x,y,ha,hb,hx,hy⟩:=hg;have Z:=NG I (hf TO `s).1 D st ha hb;obtain⟨hz,hTI,⟨c0,d0,hTO⟩,h1,h2⟩:=st;obtain⟨dR,rv,pa,_⟩:=I.seq ha.sq;obtain⟨its2,rv2,pb,_⟩:=I.seq hb.sq;obtain⟨u,hu,ru⟩:=rv.get hx;obtain⟨u2,hu2,ru2⟩:=rv2.get hy;refine Sx Z hz hTI hTO h1 h2 pa pb (x:=u) (y:=u2) (by simpa using hu) (by simpa using hu2) λg hz1 hTO1 h11 h21 hp hz' kk=>⟨_,rfl,?_⟩;refine wpAny_letOwnedTupleGo_zip hz1 λg2 hz2 hs2=>?_;have hs2':∀c o,c≠z→g.get? c=aa o→g2.get? c=aa o:=λc o hc e=>(hs2.2 c hc).trans e;have kk2:∀c o,c∉ [z,TI,TO,i1,i2]→s.heap.get? c=aa o→g2.get? c=aa o:=λc o hc q=>by
      simp only[aB,bo,or_false,not_or]at hc;exact hs2' c o hc.1 (kk c o hc.1 hc.2.2.1 hc.2.2.2.1 hc.2.2.2.2 q)
    have hn:=I.cq.fresh (aA s.heap.objs.size);have hpz:s.heap.objs.size≠z:=c9 (aR hz);have ht2:g2.get? s.heap.objs.size=aa { cls:= .type "tuple",data:= .seq #[u,u2] }:=hs2' _ _ hpz hp;refine⟨.ref s.heap.objs.size,oa H s.heap.objs.size (.bT [x,y]),I.turnNew (fp:=[z,TI,TO,i1,i2]) (t':=s.toks) (aA _) kk2 hf ⟨by show 2≤sizeLine;rw[eN];decide,[u,u2], .cons ru (.cons ru2 .nil),⟨_,ht2,rfl,_,rfl⟩⟩,rfl,
      ⟨_,x,y,hn,rfl,rfl,λzs hy=>by rw[I.seq_inj hy.sq ha.sq];exact hx,λzs hy'=>by rw[I.seq_inj hy'.sq hb.sq];exact hy⟩,
      ⟨hz2,hs2' _ _ D.TIz (kk _ _ D.TIz D.TITO D.TIi1 D.TIi2 hTI),⟨u,u2,hs2' _ _ D.TOz hTO1⟩,h11.at λo q=>hs2' _ o D.i1z q,h21.at λo q=>hs2' _ o D.i2z q⟩,λc hc=>?_⟩
    have hlt:∃o,s.heap.get? c=aa o:=by
      obtain⟨o1,v1,e1,d1⟩:=h1.ob;obtain⟨o2,v2,e2,d2⟩:=h2.ob;simp only[aB,bo,or_false]at hc;obtain rfl |rfl |rfl |rfl |rfl:=hc
      · exact⟨_,hz⟩
      · exact⟨_,hTI⟩
      · exact⟨_,hTO⟩
      · exact⟨_,e1⟩
      · exact⟨_,e2⟩
    obtain⟨o,ho⟩:=hlt;rw[oG (bR (aR ho))];exact(hf c hc).1
  done:=by
    intro X hP hw hK hc i ag s σ H E I hf st hg;subst hP hw hK;obtain⟨xs,ys,ha,hb,hx⟩:=hg;have Z:=NG I (hf TO `s).1 D st ha hb;obtain⟨hz,hTI,⟨c0,d0,hTO⟩,h1,h2⟩:=st;obtain⟨dR,rv,pa,_⟩:=I.seq ha.sq;obtain⟨its2,rv2,pb,_⟩:=I.seq hb.sq;have hl:=rv.length;have hl2:=rv2.length;refine Q9 (I.ok.hd hc) Z hz hTI hTO h1 h2 pa pb ?_ λg eb=>⟨rfl,I.turnedL (fp:=[z,TI,TO,i1,i2]) (t':=s.toks) (λc o hc q=>?_) hf⟩
    · obtain hx |hx:=hx
      · exact .inl (by simp;lia)
      · exact .inr (by simp;lia)
    · simp only[aB,bo,or_false,not_or]at hc;exact eb c o hc.1 hc.2.2.1 hc.2.2.2.1 hc.2.2.2.2 q
  self:=λA i s Q E st h=>mQ st.1 h
def Ts (K:am) (ta:TA):TI:=λσ H R=>ta σ H λvs H1=>∃k1 k2 a b xs ys,vs=[.ref a, .ref b]∧rQ k1 K H1 a xs∧rQ k2 K H1 b ys∧R (Fp k1 k2 K a b) H1
def Z' (hg:Gl X "zip") (hm:X.mg "zip" =none) (ha:PA X [a,b] ta) (hs:ax [a,b] X.env=[(false,aH a X.env),(false,aH b X.env)]) (hs2:ax [b] X.env=[(false,aH b X.env)]):PI X (.Tuple es x1 tpos) (.Call (.Name "zip" p) [a,b] [] pos) (Ts X.K ta):=by
 intro ag s σ H R I h;refine Call_ (xD I hg hm boot_zip (gF (nZ (ha pos ag s σ H _ I h) λus s1 zz=>oQ zz λvs H1 I1 r1 q1=>?_) (by rw[hs,hs2]) (by rw[hs2];rfl)));obtain⟨k1,k2,a,b,xs,ys,e,hq1,hq2,q⟩:=q1;subst e;cases r1 with
 |cons r rr=>
  cases rr with
  |cons r' rr=>
   cases rr;cases(show _=bP a from r);cases(show _=bP b from r');obtain⟨dR,rv,pl,_⟩:=I1.seq hq1.sq;obtain⟨its2,rv2,pl2,_⟩:=I1.seq hq2.sq;refine RF pl pl2 λg hz hTI hTO h1 h2 hz' kk=>mQ hz ?_;have I2:mW X ag σ H1 { s1 with heap:=g }:=I1.kept (t':=s1.toks) kk;have ne:∀(n i j:Nat),i≠j→n+i≠n+j:=λn i j h e=>h (Nat.add_left_cancel e);have D:si (s1.heap.objs.size+4) (s1.heap.objs.size+2) (s1.heap.objs.size+3) s1.heap.objs.size (s1.heap.objs.size+1):=
    ⟨ne _ 2 4 `d,ne _ 3 4 `d,ne _ 0 4 `d,ne _ 1 4 `d,ne _ 2 3 `d,ne _ 2 0 `d,ne _ 2 1 `d,ne _ 3 0 `d,ne _ 3 1 `d,ne _ 0 1 `d⟩
   refine⟨_,_,_,_,H1,rfl,I2,U9 k1 k2 a b _ _ _ _ _ D,⟨hz,hTI,⟨_,_,hTO⟩,h1,h2⟩,λc hc=>?_,q⟩;have hb':s1.heap.objs.size≤c:=by
    simp only[aB,bo,or_false]at hc;obtain rfl |rfl |rfl |rfl |rfl:=hc
    ·exact gO _ _
    ·exact gO _ _
    ·exact gO _ _
    ·exact aA _
    ·exact gO _ _
   exact I1.fpOk hb' (I1.cq.fresh hb')
noncomputable def nJ:List W→List W→List W
 |x::xs,y::ys=> .bT [x,y]::nJ xs ys
 |_,_=>[]
theorem KD:∀{xs ys:List W}{i:Nat}{u:W},(nJ xs ys)[i]? =aa u→ ∃x y,xs[i]? =aa x∧ys[i]? =aa y∧u= .bT [x,y]
 | [],_,_,_,h=>by simp [nJ]at h
 |_::_,[],_,_,h=>by simp [nJ]at h
 |x::xs,y::ys,0,u,h=>by
  simp [nJ]at h;exact⟨x,y,rfl,rfl,h.symm⟩
 |x::xs,y::ys,i+1,u,h=>by simpa using KD (xs:=xs) (ys:=ys) (i:=i) (u:=u) (by simpa [nJ]using h)
theorem KZ:∀{xs ys:List W},(nJ xs ys).length=min xs.length ys.length
 | [],_=>by simp [nJ]
 |_::_,[]=>by simp [nJ]
 |x::xs,y::ys=>by simp [nJ,KZ (xs:=xs) (ys:=ys)]
def zDy{K:am}{k1 k2:Bool}{a b:ai}{ws us:List W}{G:kB→Prop}{H0:Hp}{S0:kB}(h:∀S H,oh H0 S0 H S→m5 K H S→G S→(∃vs,rQ k1 K H a vs∧mY K H ws vs)∧ ∃vs,rQ k2 K H b vs∧mY K H us vs):xj K (Fp k1 k2 K a b) (nJ ws us) G H0 S0:=λi S H e hS hG=>by
 obtain⟨⟨xs,hq,r⟩,⟨ys,hq2,r2⟩⟩:=h S H e hS hG;refine⟨λu eu=>?_,λhl=>⟨xs,ys,hq,hq2,?_⟩⟩
 ·obtain⟨x,y,ex,ey,rfl⟩:=KD eu;obtain⟨v,ev,rv⟩:=r.get ex;obtain⟨v2,ev2,rv2⟩:=r2.get ey;refine⟨⟨xs,ys,v,v2,hq,hq2,ev,ev2⟩,λx H' ⟨p,y1,y2,hp,e1,e2,e3,e4⟩=>?_⟩;subst e1 e2;have f1:=e3 xs hq;have f2:=e4 ys hq2;rw[ev]at f1;cases f1;rw[ev2]at f2;cases f2;exact⟨.new hp,hS.new hp, .bT qb (.cons (rv.ext (.new (S:=S) hp)) (.cons (rv2.ext (.new (S:=S) hp)) .nil))⟩
 ·rw[KZ]at hl;rw[←r.length,←r2.length];lia
def Mc{K:am}{H:Hp}{S:kB}{w:W}{v:V}{Q:List W→(kB→Prop)→Prop}(r:n9 K H w v) (hS:m5 K H S) (h:uU w S Q) :
  ∃k a ws G,v= .ref a∧G S∧(∀S' H',oh H S H' S'→m5 K H' S'→G S'→ ∃vs,rQ k K H' a vs∧mY K H' ws vs)∧Q ws G:=by
 cases r with
 |bT f hs=>exact⟨false,_,_,_,rfl,trivial,λS' H' e hS' _=>⟨_,e.bT _ _ f,hs.ext e⟩,h⟩
 |ref a=>
  obtain⟨ws,ea,h⟩:=qI h;exact⟨true,_,ws,_,rfl,ea,λS' H' e hS' g=>by
   obtain⟨vs,f,hs⟩:=hS' a _ g;exact⟨vs, .of f,hs⟩,h⟩
 |cM f=>exact⟨true,_,_,_,rfl,trivial,λS' H' e hS' _=>⟨_,(e.fz f).sq,mY.ofInts _⟩,h⟩
 |_=>exact h.elim
def uw (t u:WE) (E:WX) (σ:nj) (S:kB) (Q:List W→(kB→Prop)→kB→Prop):Prop:=t E σ S λx S1=>u E σ S1 λy S2=>uU x S2 λxs G=>uU y S2 λys G'=>Q (nJ xs ys) (λS'=>G S'∧G' S') S2
def TX{a b:Expr}{ta tb:WE}{p pos:bv}(hg:Gl X "zip") (hm:X.mg "zip" =none) (ha:JE X a ta) (hb:JE X b tb) (hs:ax [a,b] X.env=[(false,aH a X.env),(false,aH b X.env)]) (hs2:ax [b] X.env=[(false,aH b X.env)])
  (h3:ax [a,b] X.env=(false,aH a X.env)::ax [b] X.env) (h4:ax [b] X.env=(false,aH b X.env)::ax [] X.env):JI X (.Tuple es x1 tpos) (.Call (.Name "zip" p) [a,b] [] pos) (uw ta tb):=λE hE=>
 (Z' hg hm (ur (ha E hE) (ur (hb E hE) pB h4) h3) hs hs2).mono λσ H R zz=>on zz λσW S QW hσ hS ht hR=>⟨σW,S,_,hσ,hS,ht,λx S1 v H1 e1 r1 gV h1=>⟨σW,S1,_,hσ.ext e1,gV,h1,λy S2 v2 H2 e2 r2 hS2 h2=>by
  obtain⟨k1,a,ws,G,rfl,hG,hq,h⟩:=Mc (r1.ext e2) hS2 h2;obtain⟨k2,b,us,G',rfl,hG',hq',h⟩:=Mc r2 hS2 h;obtain⟨vs,hv,_⟩:=hq S2 H2 .refl hS2 hG;obtain⟨vs',hv',_⟩:=hq' S2 H2 .refl hS2 hG';exact⟨k1,k2,a,b,vs,vs',rfl,hv,hv',hR _ _ S2 _ H2 (e1.trans e2) hS2 ⟨hG,hG'⟩ (zDy λS' H' e hS' g=>⟨hq S' H' e hS' g.1,hq' S' H' e hS' g.2⟩) h⟩⟩⟩
noncomputable def VA (hi:Int) (n:Nat):List W:=(bD n).map λ(i:Nat)=> .int (hi - (i:Int))
def zGs (t:WA):WI:=λE σ S Q=>t E σ S λws S1=>match ws with
 | [.int i, .int j, .int c]=>c= -1∧(-(2 ^ 62)≤i∧i<2 ^ 62∧ -(2 ^ 62)≤j∧j<2 ^ 62)∧Q (VA i (i - j).toNat) (λ_=>True) S1
 |_=>False
def QV (ho:oI X (bF op) r) (hw:rP X.K r wr) (ho':oI X (bF op') r') (hw':rP X.K r' wr') (ha:JE X a ta) (hb:JE X b tb) (hc:JE X c tc)
  (hm:gB [op,op'] [b,c]=false:=by with_unfolding_all rfl):JE X (.Compare a [op,op'] [b,c] pos) (xb wr wr' ta tb tc):=λE hE=>
 (YB ho ho' (ha E hE) (hb E hE) (hc E hE) hm).mono λσ H Q zz=>on zz λσW S QW hσ hS ht hQ=>by
  refine⟨σW,S,_,hσ,hS,ht,λx S1 v1 H1 e1 r1 gV h1=>⟨σW,S1,_,hσ.ext e1,gV,h1,λy S2 v2 H2 e2 r2 hS2 h2=>?_⟩⟩;refine hw H2 v1 v2 x y S2 _ _ (r1.ext e2) r2 hS2 h2 λz S3 v3 H3 e3 r3 hS3 h3=>?_;cases r3 with
  |bl k=>
   refine⟨k,rfl,?_⟩;cases k with
   |true=>
    refine⟨σW,S3,_,((hσ.ext e1).ext e2).ext e3,hS3,h3,λu S4 v4 H4 e4 r4 hS4 h4=>?_⟩;exact hw' H4 v2 v4 y u S4 Q QW ((r2.ext e3).ext e4) r4 hS4 h4 (hQ.from (((e1.trans e2).trans e3).trans e4))
   |false=>exact hQ _ S3 _ H3 ((e1.trans e2).trans e3) (.bl false) hS3 h3
  |_=>exact h3.elim
def PX (ha:JE X a ta) (hb:JE X b tb) (hc:JE X c tc) (hm:gB [.LtE, .LtE] [b,c]=false:=by with_unfolding_all rfl):JE X (.Compare a [.LtE, .LtE] [b,c] pos) (xb tf tf ta tb tc):=QV (tH.or GK) DD (tH.or GK) DD ha hb hc hm
def uE:WF:=λws S Q=>match ws with
 | [.int i]=>Q (.int i) S
 | [.bl b]=>Q (.int (if b then 1 else 0)) S
 |_=>False
def YV{K:am}:vE K (λxs H Q=>(∃i,xs=[.int i]∧Q (.int i) H)∨ ∃k,xs=[.bl k]∧Q (.int (if k then 1 else 0)) H) uE:=λH vs ws S Q QW r hS h hQ=>by
 cases r with
 |nil=>exact h.elim
 |cons r1 r2=>
  cases r2 with
  |cons _ _=>cases r1<;>exact h.elim
  |nil=>
   cases r1 with
   |int i=>exact .inl ⟨i,rfl,hQ _ S _ H .refl (.int _) hS h⟩
   |bl b=>exact .inr ⟨b,rfl,hQ _ S _ H .refl (.int _) hS h⟩
   |_=>exact h.elim
def Zp (hg:Gl X "int") (hm:X.mg "int" =none) (ha:JA X (e::es) t)
  (he:ax (e::es) X.env=(false,aH e X.env)::ax es X.env) (hpl:(aZ pos (ax es X.env)).any (·.1)=false):JE X (.Call (.Name "int" p) (e::es) [] pos) (wB uE t):=
 Pr YS YV hg hm PyProof.Rows.boot_int ha `d `d he hpl
def xI:WF:=λws S Q=>match ws with
 | [.int i, .int j]=>Q (.int (if j > i then j else i)) S
 |_=>False
def uL:WF:=λws S Q=>match ws with
 | [.int i, .int j]=>Q (.int (if j<i then j else i)) S
 |_=>False
def Vv{K:am}:vE K (λxs H Q=>∃i j,xs=[.int i, .int j]∧Q (.int (if j > i then j else i)) H) xI:=λH vs ws S Q QW r hS h hQ=>by
 unfold xI at h;split at h
 ·cases r with
  |cons r1 r2=>cases r2 with
   |cons r2 r3=>cases r3;cases r1;cases r2;exact⟨_,_,rfl,hQ _ S _ H .refl (.int _) hS h⟩
 ·exact h.elim
def P2{K:am}:vE K (λxs H Q=>∃i j,xs=[.int i, .int j]∧Q (.int (if j<i then j else i)) H) uL:=λH vs ws S Q QW r hS h hQ=>by
 unfold uL at h;split at h
 ·cases r with
  |cons r1 r2=>cases r2 with
   |cons r2 r3=>cases r3;cases r1;cases r2;exact⟨_,_,rfl,hQ _ S _ H .refl (.int _) hS h⟩
 ·exact h.elim
def Ic{id:String}{r:List V→Hp→VK→Prop}{f:WF}{x:ah}(hc:X.calm=true→og X (.builtin id) r) (hw:vE X.K r f) (hg:Gl X x) (hm:X.mg x=none) (hv:cI x=aa (.builtin id)) (ha:JA X (e::es) t) (hn:x≠ "__name__") (hdb:(x == ("__debug__" :ah))=false)
  (he:ax (e::es) X.env=(false,aH e X.env)::ax es X.env) (hpl:(aZ pos (ax es X.env)).any (·.1)=false) (hcl:X.calm=true):JE X (.Call (.Name x p) (e::es) [] pos) (wB f t):=λE hE=>IF (hc hcl) hw hg hm hv ha hn hdb he hpl E hE
def Wh (hg:Gl X "max") (hm:X.mg "max" =none) (ha:JA X (e::es) t)
  (he:ax (e::es) X.env=(false,aH e X.env)::ax es X.env) (hpl:(aZ pos (ax es X.env)).any (·.1)=false) (hcl:X.calm=true):JE X (.Call (.Name "max" p) (e::es) [] pos) (wB xI t):=Ic Z1 Vv hg hm PyProof.Rows.boot_max ha `d `d he hpl hcl
def Q5 (hg:Gl X "min") (hm:X.mg "min" =none) (ha:JA X (e::es) t)
  (he:ax (e::es) X.env=(false,aH e X.env)::ax es X.env) (hpl:(aZ pos (ax es X.env)).any (·.1)=false) (hcl:X.calm=true):JE X (.Call (.Name "min" p) (e::es) [] pos) (wB uL t):=Ic Vf P2 hg hm PyProof.Rows.boot_min ha `d `d he hpl hcl
def Qe (hg:Gl X "all") (hm:X.mg "all" =none) (ha:JL X e tl)
  (he:ax [e] X.env=(false,aH e X.env)::ax [] X.env) (hpl:(aZ pos (ax [] X.env)).any (·.1)=false) (hcl:X.calm=true):JE X (.Call (.Name "all" p) [e] [] pos) (qR ug tl):=λE hE=>NH (V3 hcl) Tv hg hm PyProof.Rows.boot_all ha `d `d he hpl E hE
def Th (hg:Gl X "tuple") (hm:X.mg "tuple" =none) (ha:JL X e tl)
  (he:ax [e] X.env=(false,aH e X.env)::ax [] X.env) (hpl:(aZ pos (ax [] X.env)).any (·.1)=false):JE X (.Call (.Name "tuple" p) [e] [] pos) (qR v9 tl):=Pi HM V4 hg hm mn ha `d `d he hpl
def ZB (hg:Gl X "tuple") (hm:X.mg "tuple" =none) (ha:JA X (e::es) t)
  (he:ax (e::es) X.env=(false,aH e X.env)::ax es X.env) (hpl:(aZ pos (ax es X.env)).any (·.1)=false):JE X (.Call (.Name "tuple" p) (e::es) [] pos) (wB sE t):=Pr HM Rr hg hm mn ha `d `d he hpl
def zQ{K:am}:∀T∈ ["int", "bool", "str", "tuple", "list"],∀A∈ ["NoneType", "bool", "int", "str", "tuple", "list"],fU K (.type A) (.type T)=aa (pY A T):=by
 intro T hT A hA;simp only[aB,bo,or_false]at hT hA;rcases hT with rfl |rfl |rfl |rfl |rfl<;>rcases hA with rfl |rfl |rfl |rfl |rfl |rfl<;>rfl
def nc:m8:=λ_ _ _ _=>False
def MF{P:bb}{w:aQ}{K:am}{mg:ah→Option aj}{base:aF}{f:ai}{fd:c6}{ps:List ah}{k:Nat}:pi P w K mg base (sC P w) k f fd ps (sx K nc):=
 ⟨λvs H Q E zz=>NY zz λ_ _ _ _ _ _ h _=>h.elim,λA outer s H args us vs Q E _ _ _ _ zz=>NY zz λ_ _ _ _ _ _ h _=>h.elim⟩
def uQ (t:WL) (u:WE) (E:WX) (σ:nj) (S:kB) (Q:WK):Prop:=t E σ S λws S1=>u E σ S1 λy S2=>match y with
 | .int i=>match nW ws i with
  |some w=>Q w S2
  |none=>False
 |_=>False
def Rz (ha:JL X a la) (hb:JE X b tb) (hs:Cv b:=by intro _ _;rfl):JE X (.Subscript a b pos) (uQ la tb):=λE hE=>
 (Jp Jy (ha E hE) (hb E hE) hs).mono λσ H Q zz=>on zz λσW S QW hσ hS ht hQ=>⟨σW,S,_,hσ,hS,ht,λws S1 vs p H1 e1 fp ep np r1 gV h1=>⟨σW,S1,_,hσ.ext e1,gV,h1,λy S2 v2 H2 e2 r2 hS2 h2=>by
  cases r2 with
  |int i=>
   dsimp only at h2;split at h2
   ·obtain⟨v,ev,r⟩:=GT (r1.ext e2) ‹_›;exact .inl ⟨p,vs,i,v,rfl,rfl, .of (e2.fr p _ ep np).1,ev,hQ _ S2 _ H2 (e1.trans e2) r hS2 h2⟩
   ·exact h2.elim
  |_=>exact h2.elim⟩⟩
def sY (t:WE) (u:WL) (E:WX) (σ:nj) (S:kB) (Q:List W→kB→Prop):Prop:=t E σ S λx S1=>u E σ S1 λys S2=>match x with
 | .ref a=>oA S2 a λxs=>xs.length+ys.length≤sizeLine∧Q (xs++ys) S2
 |_=>False
def u9 (t u:WL) (E:WX) (σ:nj) (S:kB) (Q:List W→kB→Prop):Prop:=t E σ S λxs S1=>u E σ S1 λys S2=>xs.length+ys.length≤sizeLine∧Q (xs++ys) S2
def xB (t:WL) (u:WE) (E:WX) (σ:nj) (S:kB) (Q:List W→kB→Prop):Prop:=t E σ S λxs S1=>u E σ S1 λy S2=>match y with
 | .ref a=>oA S2 a λys=>xs.length+ys.length≤sizeLine∧Q (xs++ys) S2
 |_=>False
def Yd (ha:JE X a ta) (hb:JL X b lb):JL X (.BinOp a .Add b pos) (sY ta lb):=λE hE=>
 (AG Co (ha E hE) (hb E hE)).mono λσ H Q zz=>on zz λσW S QW hσ hS ht hQ=>⟨σW,S,_,hσ,hS,ht,λw1 S1 v1 H1 e1 r1 gV h1=>⟨σW,S1,_,hσ.ext e1,gV,h1,λys S2 us q H2 e2 fq eq nq r2 hS2 h2=>by
  cases r1 with
  |ref p=>
   obtain⟨xs,ea,h⟩:=qI h2;obtain⟨vs,f1,q1⟩:=hS2 p _ ea;exact⟨p,q,vs,us,rfl,rfl,f1,eq,by rw[←q1.length,←r2.length];exact h.1,λp hp=>hQ _ S2 _ p _ ((e1.trans e2).trans (.new hp)) ((e1.trans e2).free hp) qb (hS2.free hp) ((q1.append r2).ext (.new (S:=S2) hp)) (hS2.new hp) h.2⟩
  |_=>exact h2.elim⟩⟩
def Po (ha:JL X a la) (hb:JL X b lb):JL X (.BinOp a .Add b pos) (u9 la lb):=λE hE=>
 (AG Co (ha E hE) (hb E hE)).mono λσ H Q zz=>on zz λσW S QW hσ hS ht hQ=>⟨σW,S,_,hσ,hS,ht,λxs S1 vs p H1 e1 fp ep np r1 gV h1=>⟨σW,S1,_,hσ.ext e1,gV,h1,λys S2 us q H2 e2 fq eq nq r2 hS2 h2=>
  ⟨p,q,vs,us,rfl,rfl,(e2.fr p _ ep np).1,eq,by rw[←r1.length,←r2.length];exact h2.1,λz hz=>hQ _ S2 _ z _ ((e1.trans e2).trans (.new hz)) ((e1.trans e2).free hz) qb (hS2.free hz) (((r1.ext e2).append r2).ext (.new (S:=S2) hz)) (hS2.new hz) h2.2⟩⟩⟩
def SM (ha:JL X a la) (hb:JE X b tb):JL X (.BinOp a .Add b pos) (xB la tb):=λE hE=>
 (AG Co (ha E hE) (hb E hE)).mono λσ H Q zz=>on zz λσW S QW hσ hS ht hQ=>⟨σW,S,_,hσ,hS,ht,λxs S1 vs p H1 e1 fp ep np r1 gV h1=>⟨σW,S1,_,hσ.ext e1,gV,h1,λy S2 v2 H2 e2 r2 hS2 h2=>by
  cases r2 with
  |ref q=>
   obtain⟨ys,ea,h⟩:=qI h2;obtain⟨us,f2,q2⟩:=hS2 q _ ea;exact⟨p,q,vs,us,rfl,rfl,(e2.fr p _ ep np).1,f2,by rw[←r1.length,←q2.length];exact h.1,λz hz=>hQ _ S2 _ z _ ((e1.trans e2).trans (.new hz)) ((e1.trans e2).free hz) qb (hS2.free hz) (((r1.ext e2).append q2).ext (.new (S:=S2) hz)) (hS2.new hz) h.2⟩
  |_=>exact h2.elim⟩⟩
def yg (t:WL) (u:WE) (E:WX) (σ:nj) (S:kB) (Q:List W→kB→Prop):Prop:=t E σ S λxs S1=>u E σ S1 λy S2=>match y with
 | .int k=>(-(2 ^ 63)≤k∧k<2 ^ 63∧xs.length*k.toNat≤sizeLine)∧Q (bp k.toNat xs).flatten S2
 |_=>False
theorem mY.rep{K:am}{H:Hp}{ws:List W}{vs:List V}(h:mY K H ws vs):∀k:Nat,mY K H (bp k ws).flatten (bp k vs).flatten
 |0=> .nil
 |k+1=>by
  rw[cO,cO,eB,eB];exact h.append (mY.rep h k)
def RL (ha:JL X a la) (hb:JE X b tb):JL X (.BinOp a .Mult b pos) (yg la tb):=λE hE=>
 (AG Xe (ha E hE) (hb E hE)).mono λσ H Q zz=>on zz λσW S QW hσ hS ht hQ=>⟨σW,S,_,hσ,hS,ht,λxs S1 vs p H1 e1 fp ep np r1 gV h1=>⟨σW,S1,_,hσ.ext e1,gV,h1,λy S2 v2 H2 e2 r2 hS2 h2=>by
  cases r2 with
  |int k=>
   obtain⟨⟨k1,k2,k3⟩,h⟩:=h2;exact⟨p,k,vs,rfl,rfl,(e2.fr p _ ep np).1,k1,k2,by rw[←r1.length];exact k3,λz hz=>hQ _ S2 _ z _ ((e1.trans e2).trans (.new hz)) ((e1.trans e2).free hz) qb (hS2.free hz) (((r1.ext e2).rep k.toNat).ext (.new (S:=S2) hz)) (hS2.new hz) h⟩
  |_=>exact h2.elim⟩⟩
def Xn{K:am}{H:Hp}{a:ai}{ns:List Int}{c:m8}{E:XK}(hO:C9 H) (hS:o9 K H a (ns.map V.int)) (h:c [.cM ns] (λ_=>none) (λw _=>w= .bl true) (λ_ _=>False)):sx K c [.ref a] H (λv _=>v= .bl true) E:=by
 have fz:xy K H a (ns.map V.int):=by
  obtain (hS |⟨o,hS⟩) |hS:=hS
  ·obtain z |⟨o,xs,z⟩:=hO a
   ·rw[hS]at z;cases z
   ·rw[hS]at z;cases z
  ·exact .inl ⟨o,hS⟩
  ·exact .inr hS
 refine⟨[.cM ns],λ_=>none,_,λ_ _=>False, .one (.cM fz),(λa o e=>by cases e),h,λw S v H' e r hS' q=>?_,λ_ _ _ _ _ _ z=>z.elim⟩
 subst q;cases r;rfl
def SY:W2
 | .bT xs, .int k,S,Q=>(xs≠ []∧ -(2 ^ 63)≤k∧k<2 ^ 63∧xs.length*k.toNat≤sizeLine)∧Q (.bT (bp k.toNat xs).flatten) S
 |_,_,_,_=>False
noncomputable def qg (d6:List (List Int×W)) (k:List Int):Option W:=(d6.find? λkv=>decide (kv.1=k)).map (·.2)
noncomputable def xo (d6:List (List Int×W)) (k:List Int) (v:W):List (List Int×W):=
 if(d6.any λkv=>decide (kv.1=k))=true then d6.map (λkv=>if kv.1=k then(kv.1,v) else kv) else d6++[(k,v)]
noncomputable def qV:List W→Option (List Int)
 | []=>aa []
 | .int i::ws=>(qV ws).map (i:: ·)
 |_=>none
noncomputable def tR:W→Option (List Int)
 | .bT ws=>qV ws
 |_=>none
def uV (S:kB) (a:ai) (P:List (List Int×W)→Prop):Prop:=match S a with
 |some (.dct d6)=>P d6
 |_=>False
def Sr{P:List (List Int×W)→Prop}(h:uV S a P):∃d6,S a=aa (.dct d6)∧P d6:=by
 unfold uV at h;split at h
 ·exact⟨_, ‹_›,h⟩
 ·exact h.elim
def DA{P:List (List Int×W)→Prop}(e:S a=aa (.dct d6)):uV S a P=P d6:=by unfold uV;rw[e]
section
variable {K:am}{H:Hp}
abbrev pX (K:am) (H:Hp):List (List Int×W)→List (List Key×V)→Prop:=a_ λq p=>p.1=q.1.map Sum.inl∧n9 K H q.2 p.2
theorem Dk:∀{a b:List Int},a.map (Sum.inl:Int→Key)=b.map Sum.inl→a=b
 | [],[],_=>rfl
 | [],_::_,h=>by simp at h
 |_::_,[],h=>by simp at h
 |x::xs,y::ys,h=>by
  simp only[az,fM,Sum.inl.injEq]at h;rw[h.1,Dk h.2]
def pX.val (r:pX K H d6 ps) (k:List Int):(∀w,qg d6 k=aa w→ ∃v,sw ps (k.map Sum.inl)=aa v∧n9 K H w v)∧(qg d6 k=none→sw ps (k.map Sum.inl)=none):=by
 induction r with
 |nil=>exact⟨λw h=>by simp [qg]at h,λ_=>rfl⟩
 | @cons q p d6 ps h t ih=>
  by_cases hk:q.1=k
  ·have e:p.1=k.map Sum.inl:=by rw[h.1,hk]
   rw[BG e];have ew:qg (q::d6) k=aa q.2:=by simp [qg,b8,hk]
   rw[ew];exact⟨λw z=>by cases z;exact⟨_,rfl,h.2⟩,λz=>by cases z⟩
  ·have e:¬p.1=k.map Sum.inl:=by rw[h.1];exact λz=>hk (Dk z)
   rw[Du e];have ew:qg (q::d6) k=qg d6 k:=by simp [qg,b8,hk]
   rw[ew];exact ih
def pX.any (r:pX K H d6 ps) (k:List Int):(ps.any λkv=>decide (kv.1=k.map Sum.inl))=d6.any λkv=>decide (kv.1=k):=by
 induction r with
 |nil=>rfl
 | @cons q p d6 ps h t ih=>
  rw[fh,fh,ih];congr 1;apply decide_eq_decide.mpr;rw[h.1];exact⟨Dk,λz=>by rw[z]⟩
def pX.bQ (r:pX K H d6 ps) (k:List Int) (rw':n9 K H w v):pX K H (xo d6 k w) (tJ ps (k.map Sum.inl) v):=by
 unfold xo tJ;rw[r.any k];split
 ·rename_i hany;clear hany
  induction r with
  |nil=>exact .nil
  | @cons q p d6 ps h t ih=>
   rw[az,az];refine .cons ?_ ih;by_cases hk:q.1=k
   ·rw[if_pos hk,if_pos (by rw[h.1,hk])];exact⟨h.1,rw'⟩
   ·rw[if_neg hk,if_neg (by rw[h.1];exact λz=>hk (Dk z))];exact h
 ·rename_i hany;clear hany
  induction r with
  |nil=>exact .cons ⟨rfl,rw'⟩ .nil
  |cons h t ih=>exact .cons h ih
def pX.length (r:pX K H d6 ps):d6.length=ps.length:=fP r
def Y5:∀{ws:List W}{vs:List V}{k:List Int},mY K H ws vs→qV ws=aa k→vs=(k.map (Sum.inl:Int→Key)).map kV:=λ{ws vs k} h e=>by
 induction ws generalizing vs k with
 |nil=>cases h;cases e;rfl
 |cons w ws ih=>
  cases h with
  |cons r rs=>
   cases r with
   |int i=>
    cases q:qV ws with
    |none=>simp [qV,q]at e
    |some ks=>
     simp only[qV,q,gZ,bV]at e;subst e;rw[ih rs q];rfl
   |_=>simp [qV]at e
def JM (r:n9 K H w v) (e:tR w=aa k):∃b,v= .ref b∧H b=aa (.bT ((k.map (Sum.inl:Int→Key)).map kV)):=by
 cases r with
 |bT f hs=>exact⟨_,rfl,by rw[f,Y5 hs e]⟩
 |_=>simp [tR]at e
def We (hS:m5 K H S) (e:S a=aa (.dct d6)) (ry:n9 K H wy y) (ek:tR wy=aa k):∃o,sV H a y o∧(qg d6 k=none→o=none)∧ ∀w,qg d6 k=aa w→ ∃v,o=aa v∧n9 K H w v:=by
 obtain⟨ps,e1,r⟩:=hS a _ e;obtain⟨b,rfl,eb⟩:=JM ry ek;have rv:=pX.val r k;exact⟨sw ps (k.map Sum.inl), .t e1 eb,rv.2,rv.1⟩
end
def xS (neg:Bool):W2:=λy x S Q=>match x with
 | .ref a=>match tR y with
  |some k=>uV S a λd6=>Q (.bl (if neg then !(qg d6 k).isSome else(qg d6 k).isSome)) S
  |none=>False
 |_=>False
def V':W2:=λx y S Q=>match x with
 | .ref a=>match tR y with
  |some k=>uV S a λd6=>match qg d6 k with
   |some w=>Q w S
   |none=>False
  |none=>False
 |_=>False
section
variable {X:Cx}{a o:Expr}
def Eu (neg:Bool):R2:=λy x H Q=>∃a o,x= .ref a∧sV H a y o∧Q (.bl (if neg then !o.isSome else o.isSome)) H
def QG (hu:X.A.units+1<cLine):oI X (bF .In) (Eu false):=by
 intro ag s σ H x y v u Q I rx ry h;obtain⟨a,o,rfl,g,q⟩:=h;cases ry;exact VR hu I g rx λs3 I3=>⟨.bl o.isSome,H,I3,rfl,q⟩
def Qb (hu:X.A.units+1<cLine):oI X (bF .NotIn) (Eu true):=by
 intro ag s σ H x y v u Q I rx ry h;obtain⟨a,o,rfl,g,q⟩:=h;cases ry;exact RW hu I g rx λs3 I3=>⟨.bl (!o.isSome),H,I3,rfl,q⟩
def Hq{K:am}{neg:Bool}:rP K (Eu neg) (xS neg):=λH x y wx wy S Q QW rx ry hS h hQ=>by
 unfold xS at h;split at h
 ·split at h
  ·rename_i k ek;obtain⟨d6,ea,h⟩:=Sr h;cases ry;obtain⟨o,g,g0,g1⟩:=We hS ea rx ek;have eo:o.isSome=(qg d6 k).isSome:=by
    cases q:qg d6 k with
    |none=>rw[g0 q];rfl
    |some w=>obtain⟨v,ev,_⟩:=g1 w q;rw[ev];rfl
   exact⟨_,o,rfl,g,by rw[eo];exact hQ _ S _ H .refl (.bl _) hS h⟩
  ·exact h.elim
 ·exact h.elim
end
def Kw:V→List V→Hp→VK→Prop:=λx vs H Q=>∃z:ah,x= .str z∧vs=[]∧z.length≤5592405∧Q (.str (eF z)) H
def Uv:td X "str.upper" Kw:=by
 intro ag s σ H x vs v us Q I rx rv h;obtain⟨z,rfl,rfl,hz,q⟩:=h;obtain⟨t,rfl⟩:=rx;cases rv;exact SCL.upper hz λ_=>⟨.str (eF z),H,I.tok _,⟨_,rfl⟩,q⟩
def Ak:rV:=λw ws S Q=>match w,ws with
 | .str z,[]=>z.length≤5592405∧Q (.str (eF z)) S
 |_,_=>False
def Rw{K:am}:yF K Kw Ak:=λH x w vs ws S Q QW r rs hS h hQ=>by
 cases r with
 |str z=>
  cases rs with
  |nil=>exact⟨z,rfl,rfl,h.1,hQ _ S _ H .refl (.str _) hS h.2⟩
  |cons _ _=>exact h.elim
 |_=>exact h.elim
def Sc (ho:JE X o to) (hbase:cB o "upper" X.env (aH o X.env)=aH o X.env) (hline:(apos.endLine == cpos.line)=true):JE X (.Call (.Attribute o "upper" apos) [] [] cpos) (wM vB Ak to ae):=
 Y2 mI PySem.F.slot_str_upper PySem.F.type_str_upper Ks Uv Rw ho hbase hline
theorem Nz:∀(ns:List Int) (n:Nat),n≤ns.length→ib (λi=>ns.getD i 0) n=(ns.take n).sum
 |ns,0,_=>by simp [ib]
 |ns,n+1,h=>by
  rw[ib,Nz ns n `l,lW,jZ];congr 1;rw[bw,aP `l];simp
def Vl (hc:X.calm=true):og X (.builtin "sum") (λxs H Q=>∃(p:ai) (ns:List Int),xs=[.ref p]∧o9 X.K H p (ns.map V.int)∧Q (.int ns.sum) H):=by
 intro ag s σ H xs us Q I r h;obtain⟨p,ns,rfl,hq,q⟩:=h;obtain⟨u,rfl,rx⟩:=uz r;cases rx;obtain⟨dR,r',pl,hz⟩:=I.list hq;have hlen:ns.length=dR.length:=by have:=r'.length;rw[ay]at this;exact this
 have hp:p<s.heap.objs.size:=by obtain⟨o,n,e,_⟩:=pl;exact aR e
 have hd:X.A.in1.handled=none:=I.ok.hd hc;have get:∀(i:Nat) (v:aj),dR.toArray[i]? =aa v→ ∃t,v= .int (ns.getD i 0) t:=λi v e=>by
  have e':dR[i]? =aa v:=by simpa using e
  have hi:i<ns.length:=by rw[hlen];exact(cj.mp e').1
  obtain⟨u,hu,ru⟩:=r'.get (i:=i) (x:= .int (ns.getD i 0)) (by rw[aV,aP hi,bw,aP hi];rfl);rw[e']at hu;cases hu;exact ru
 refine call_sum_walkG (fA pl.isList ?_);refine⟨s.heap.objs.size,_,_,_,_,_,λi=>ns.getD i 0,rfl,jE hd _ p (bR hp) dR.toArray,⟨⟨_,bO _ rfl,rfl,rfl⟩,pl.isList.push _⟩,?_,λi v hP=>get i v hP,λh' tk t' hk=>?_⟩
 ·intro b hb;have hsz:∀o:aJ,(s.heap.push o).objs.size=s.heap.objs.size+1:=λo=>c5 ..;simp only[aB,bo,or_false]at hb;show b<(s.heap.push _).objs.size;rw[hsz];obtain rfl |rfl:=hb
  ·exact lN _
  ·exact Nat.lt_succ_of_lt hp
 ·have e:ib (λi=>ns.getD i 0) dR.toArray.size=ns.sum:=by
   rw[bj,←hlen,Nz ns _ (aA _),jO]
  have I1:mW X ag σ H { s with heap:=h',toks:=tk }:=I.kept λb o e=>hk b o (λz=>by
   have z':b=s.heap.objs.size:=by simpa using z
   rw[z']at e;exact absurd (aR e) (cK _)) (aS _ e)
  exact⟨.int _,H,I1,⟨t',by rw[e]⟩,q⟩
def tQ (ws:List W) (S:kB) (Q:WK):Prop:=match qV ws with
 |some ns=>Q (.int ns.sum) S
 |none=>False
def Jk{K:am}{H:Hp}:∀{ws:List W}{vs:List V}{ns:List Int},mY K H ws vs→qV ws=aa ns→vs=ns.map V.int:=λ{ws vs ns} h e=>by
 induction ws generalizing vs ns with
 |nil=>cases h;cases e;rfl
 |cons w ws ih=>
  cases h with
  |cons r rs=>
   cases r with
   |int i=>
    cases q:qV ws with
    |none=>simp [qV,q]at e
    |some ks=>
     simp only[qV,q,gZ,bV]at e;subst e;rw[ih rs q];rfl
   |_=>simp [qV]at e
def UN{K:am}:x_ K (λxs H Q=>∃(p:ai) (ns:List Int),xs=[.ref p]∧o9 K H p (ns.map V.int)∧Q (.int ns.sum) H) tQ:=λH a vs ws S Q QW ea na r hS h hQ=>by
 unfold tQ at h;split at h
 ·rename_i ns e;have:=Jk r e;subst this;exact⟨a,ns,rfl, .of ea,hQ _ S _ H .refl (.int _) hS h⟩
 ·exact h.elim
def Us (hg:Gl X "sum") (hm:X.mg "sum" =none) (ha:JL X e tl)
  (he:ax [e] X.env=(false,aH e X.env)::ax [] X.env) (hpl:(aZ pos (ax [] X.env)).any (·.1)=false) (hcl:X.calm=true):JE X (.Call (.Name "sum" p) [e] [] pos) (qR tQ tl):=λE hE=>
 NH (Vl hcl) UN hg hm PyProof.Rows.boot_sum ha `d `d he hpl E hE
def Wf:jm (.type "list") "keys" =pure none:=by rw[typeLookup_type,builtinLookup_eq_fast];kernel_rfl
def N3:entryFor table "dict.update.loop" =aa cr.«dict.update.loop» :=entryFor_of_tree (by kernel_rfl)
def Dx:plainId "dict.update.loop" =true:=by decide +kernel
section
variable {prog:bb}{w:aQ}{A:bx}{E:aj→aq→Prop}{s:aq}
def VV{Q:Option aj→aq→Prop}
  (hx : s.heap.get? a = aa o) (hc : o.cls = .type "list") (hdat : o.data = .seq xs k) (hd : o.dict = none) (hmiss : jm (.type "list") name = pure none) (hname : (["__module__", "__name__", "__qualname__", "__doc__", "__annotations__"] : List ah).contains name = false) (hA : A.handled = none)
  (h:∀h' tk,(∀b o,s.heap.get? b=aa o→h'.get? b=aa o)→Q none { s with heap:=h',toks:=tk }) (hsz:name.length+100≤sizeLine:=by size_fits) :
  av (aC prog w) A (getAttr? (.ref a) name) Q E s:=by
 obtain⟨c,dct,dat,sl⟩:=o;simp only at hc hdat hd;subst hc hdat hd;obtain⟨hp,g,d,tk,os⟩:=s;have hT:∀tk',(⟨hp,g,d,tk',os⟩:aq).TypeIs (.ref a) "list" :=λ_=>⟨_,hx,rfl⟩;have f1:=sub_AttributeError;have f3:=jV.lookup;have f4:=jV.bind (.ref a);have f5:=am_list_getattr_none;unfold getAttr? getAttrBy? getAttrBy
 repeat (any_goals (first |assumption |exact hT _ | ((with_reducible show av _ _ (call (aj.builtin "list.__getattribute__") _ _) _ _ _);refine fI jV (hT _) am_entry_list_getattribute (F.args_list_getattribute_2 _ _) (meets_getattribute_miss_list a xs k sl name _ hmiss hname hsz) ⟨hx,hA,λh' tk' e hx'=>?_⟩) |wp_step))
 obtain⟨t',u',he⟩:=hx'.there;have hTe:∀tk',(⟨h',g,d,tk',os⟩:aq).TypeIs (.ref e) "AttributeError" :=λ_=>⟨_,he,rfl⟩;show av _ _ (lJ _ _ _ _ _ _ _) _ _ _;unfold lJ
 repeat (any_goals (first |assumption |exact hTe _ |wp_step))
 exact h h' tk' hx'.keeps
end
section
variable {prog:bb}{w:aQ}{A:bx}{R:Result→aq→Prop}{I l d:ai}{items:Array aj}
noncomputable def Gv (xs:List (List Key×ai×aj)) (ps:List (List Key×ai)):List (List Key×ai×aj):=ps.foldl (λxs p=>gf xs p.1 p.2 (.bool true)) xs
def Xx (hu:(cP (rA prog w)).room A.in1) (hh:A.in1.handled=none) (hne:l≠I) (hdI:d≠I) (hdl:d≠l) (h0:aF) (hd0:h0.get? d=none) (hI0:h0.get? I=none) (ps:List (List Key×ai)) (hps:ps.length=items.size)
  (hp:∀(i:Nat) (p:List Key×ai) (v:aj),ps[i]? =aa p→items[i]? =aa v→ ∃(t:ai) (o:aJ) (n:Nat),v= .ref t∧h0.get? t=aa o∧o.cls= .type "tuple" ∧o.data= .seq #[.ref p.2, .bool true] n)
  (hk:∀p∈ps,(cP (rA prog w)).is h0 p.1 p.2) :
  ∀(k i:Nat) (s:aq) (xs:List (List Key×ai×aj)),items.size - i=k→i≤items.size→s.heap.IsListIter I l i→s.heap.IsList l items→(∀b o,h0.get? b=aa o→s.heap.get? b=aa o)→s.heap.DictOfH (cP (rA prog w)) d xs→xs.length+(items.size - i)≤sizeLine→
  (∀h' tk,(∀b o,h0.get? b=aa o→h'.get? b=aa o)→h'.DictOfH (cP (rA prog w)) d (Gv xs (ps.drop i))→R (.ok (.ret .none)) { s with heap:=h',toks:=tk })→
  dZ (aC prog w) A (.builtin "dict.update.loop" ⟨[.ref d, .ref I,cJ i, .none],[]⟩) R s:=by
 have W:=jE (prog:=prog) (w:=w) (A:=A.in1) hh I l hne items;intro k
 induction k with
 |zero=>
  intro i s xs hki hi hit hl hold hd hsz hR;have hin:i=items.size:=by lia
  subst hin;refine kU N3 ?_;rw[lr Dx _];show av _ A.in1 (cu (.ref I) >>= _) _ _ s;refine au (W.done s _ _ ⟨hit,hl⟩ λh' tk hk'=>?_);have hd':h'.DictOfH (cP (rA prog w)) d xs:=by
   obtain⟨q,es,ep,q1,q2,q3,q4,q5,q6⟩:=hd;refine⟨q,es,ep,hk' d q (λz=>hdI (bg.mp z)) q1,q2,q3,q4,λx hx=>?_,q6⟩;obtain⟨ob,dR,m,k1,k2,k3,k4⟩:=q5 x hx;refine⟨ob,dR,m,hk' _ _ (λz=>?_) k1,k2,k3,k4⟩;obtain⟨oi,hi1,hi2,_⟩:=hit;rw[bg.mp z,hi1]at k1;cases k1;rw[k2]at hi2;exact absurd hi2 `d
  show av _ A.in1 (cr.Dict.addKeywords d [] >>= _) _ _ _;refine au (aK (aK (hR h' tk (λb o e=>hk' b o (λz=>by rw[bg.mp z,hI0]at e;cases e) (hold b o e)) ?_)))
  rw[ge `l];exact hd'
 |succ k ih=>
  intro i s xs hki hi hit hl hold hd hsz hR;have hlt:i<items.size:=by lia
  refine kU N3 ?_;rw[lr Dx _];show av _ A.in1 (cu (.ref I) >>= _) _ _ s;refine au (W.item i s _ _ hlt ⟨hit,hl⟩ λv h' tk hP hst' hk'=>?_);obtain⟨p,hpi⟩:∃p,ps[i]? =aa p:=⟨ps[i],aP `l⟩;obtain⟨t,o,n,rfl,ho,hc,hdat⟩:=hp i p v hpi hP;have ho':=hk' t o (λz=>by rw[bg.mp z]at ho;rw[hI0]at ho;cases ho) (hold t o ho)
  have hkey:(cP (rA prog w)).is h' p.1 p.2:=by
   obtain⟨ob,dR,m,k1,k2,k3,k4⟩:=hk p (aN hpi);exact⟨ob,dR,m,hk' _ _ (λz=>by rw[bg.mp z]at k1;rw[hI0]at k1;cases k1) (hold _ _ k1),k2,k3,k4⟩
  have hd':h'.DictOfH (cP (rA prog w)) d xs:=by
   obtain⟨q,es,ep,q1,q2,q3,q4,q5,q6⟩:=hd;refine⟨q,es,ep,hk' d q (λz=>hdI (bg.mp z)) q1,q2,q3,q4,λx hx=>?_,q6⟩;obtain⟨ob,dR,m,k1,k2,k3,k4⟩:=q5 x hx;refine⟨ob,dR,m,hk' _ _ (λz=>?_) k1,k2,k3,k4⟩;obtain⟨oi,hi1,hi2,_⟩:=hit;rw[bg.mp z,hi1]at k1;cases k1;rw[k2]at hi2;exact absurd hi2 `d
  show av _ A.in1 (holding [.ref t] _ >>= _) _ _ _;refine au (gC ?_);refine au (wpAny_tryCatch ?_);unfold cr.Dict.pairItems;refine au (fV (T:= "tuple") ⟨o,ho',hc⟩ ?_);rw[if_pos `d];refine au (di ho' hdat ?_);refine aK ?_;show av _ A.in1 (holding [.ref p.2, .bool true] (dictSet d (.ref p.2) (.bool true))) _ _ _;refine gC (wpAny_dictSet_heap (hsz:=by lia) hu hkey hd' λh2 hd2 hs2=>?_)
  refine aK ⟨plainId_quiet Dx _,?_⟩;have ei:((i:Int)+1)=((i+1:Nat):Int):=by lia
  rw[ei];have hln:(gf xs p.1 p.2 (eS true)).length≤xs.length+1:=by
   unfold gf;split<;>simp
  have hst2:=W.frame (i+1) h' h2 hst' λb hb o e=>by
   have hbd:b≠d:=by
    obtain z |z:=aB.mp hb
    ·rw[z];exact bG hdI
    ·rw[bg.mp z];exact bG hdl
   exact(hs2.2 b hbd).trans e
  refine ih (i+1) _ _ `l `l hst2.1 hst2.2 (λb o e=>?_) hd2 `l λh3 tk3 old3 hd3=>?_
  ·have hbd:b≠d:=λz=>by rw[z,hd0]at e;cases e
   have hbI:b∉ [I]:=λz=>by rw[bg.mp z,hI0]at e;cases e
   exact(hs2.2 b hbd).trans (hk' b o hbI (hold b o e))
  ·refine hR h3 tk3 old3 ?_;have ed:ps.drop i=p::ps.drop (i+1):=by
    have hi':i<ps.length:=by lia
    rw[fN hi'];rw[aP hi']at hpi;cases hpi;rfl
   rw[ed];exact hd3
end
def BM (H:Hp) (q:List Key) (v:V):Prop:=∃t b,v= .ref t∧H t=aa (.bT [.ref b, .bl true])∧H b=aa (.bT (q.map kV))
noncomputable def ym (qs:List (List Key)):List (List Key×V):=qs.foldl (λd6 q=>tJ d6 q (.bl true)) []
theorem NE:∀(qs:List (List Key)) (d6:List (List Key×V)),(qs.foldl (λd6 q=>tJ d6 q (V.bl true)) d6).length≤d6.length+qs.length
 | [],d6=>by simp
 |q::qs,d6=>by
  have h1:=SL d6 q (V.bl true);have h2:=NE qs (tJ d6 q (.bl true));rw[eR,aT];lia
theorem KT.fold:∀(ps:List (List Key×ai)) {d6:List (List Key×V)}{xs:List (List Key×ai×aj)},KT H d6 xs→(∀p∈ps,H p.2=aa (.bT (p.1.map kV)))→KT H ((ps.map λp=>p.1).foldl (λd6 q=>tJ d6 q (.bl true)) d6) (Gv xs ps)
 | [],_,_,r,_=>r
 |p::ps,d6,xs,r,h=>by
  rw[az,eR];exact KT.fold ps (r.bQ p.1 (h p aI) rfl) λp' hp'=>h p' (aG _ hp')
theorem PC (ok:oR P w H h):∀{qs:List (List Key)}{vs:List V}{dR:List aj},a_ (BM H) qs vs→ni vs dR→ ∃ps:List (List Key×ai),(ps.map λp=>p.1)=qs∧
  (∀(i:Nat) (p:List Key×ai) (v:aj),ps[i]? =aa p→dR[i]? =aa v→ ∃(t:ai) (o:aJ) (n:Nat),v= .ref t∧h.get? t=aa o∧o.cls= .type "tuple" ∧o.data= .seq #[.ref p.2, .bool true] n)∧ ∀p∈ps,H p.2=aa (.bT (p.1.map kV))
 |_,_,_, .nil, .nil=>⟨[],rfl,(λi p v h=>by simp at h),λ_ h=>nomatch h⟩
 |_,_,_, .cons (a:=q) hq hs, .cons hv hvs=>by
  obtain⟨ps,e,h1,h2⟩:=PC ok hs hvs;obtain⟨t,b,rfl,ht,hb⟩:=hq;refine⟨(q,b)::ps,by rw[az,e],λi p v hp hv'=>?_,λp hp=>?_⟩
  ·cases i with
   |zero=>
    simp only[iy,bV]at hp hv';subst hp hv';obtain⟨_,dR,r,o,g1,g2,n,g3⟩:=(show nM P w H h t (.bT [.ref b, .bl true]) from ok t _ ht);cases r with
    |cons r1 r2=>
     cases r2 with
     |cons r3 r4=>
      cases r4;cases r1;cases r3;exact⟨t,o,n,hv,g1,g2,by simpa using g3⟩
   |succ i=>
    simp only[bW]at hp hv';exact h1 i p v hp hv'
  ·obtain rfl |hp:=aB.mp hp
   ·exact hb
   ·exact h2 p hp
def T2 (hc:X.calm=true) (hu:X.A.units+2<cLine):og X (.type "dict") (λxs H Q=>∃(l:ai) (vs:List V) (qs:List (List Key)),xs=[.ref l]∧o9 X.K H l vs∧a_ (BM H) qs vs∧qs.length≤sizeLine∧ ∀d,H d=none→Q (.ref d) (oa H d (.dT (ym qs)))):=by
 intro ag s σ H xs us Q I r h;obtain⟨l,vs,qs,rfl,hq,hp,hlen,q⟩:=h;obtain⟨u,rfl,rx⟩:=uz r;cases rx;obtain⟨dR,r',pl,hz⟩:=I.list hq;have hd:X.A.in1.handled=none:=I.ok.hd hc;have hl:l<s.heap.objs.size:=by obtain⟨o,n,e,_⟩:=pl;exact aR e
 refine callType_codes (Q₁:=λobj s₁=>obj= .ref s.heap.objs.size∧s₁={ s with heap:=s.heap.push { cls:= .type "dict",data:= .dict #[] } }) F.kt_called_dict (F.kt_typeCall_dict_1 _) F.entry_dict_init (kt_code_dict_new _ ⟨rfl,rfl⟩) ?_;rintro obj s₁ ⟨rfl,rfl⟩;have hT:({ s with heap:=s.heap.push { cls:= .type "dict",data:= .dict #[] } }:aq).TypeIs (.ref s.heap.objs.size) "dict" :=⟨_,bO _ rfl,rfl⟩;refine⟨hT,F.args_dict_init_2 _ _,?_⟩;unfold cr.«dict.__init__»;refine au ?_;unfold cr.Dict.selfAndRest;refine au (wpAny_notOrdered_dict hT ?_);show av _ _ (pure (s.heap.objs.size,[bP l])) _ _ _;refine aK ?_;show av _ _ (mJ "dict.__init__" s.heap.objs.size (.ref l) [] .none) _ _ _;unfold mJ;obtain⟨ol,nl,hol,hcl,hdl,hnl⟩:=pl;have hol1:=aS { cls:= .type "dict",data:= .dict #[] } hol;obtain⟨ps,eqs,hps,hks⟩:=PC I.cq hp r';have hplen:ps.length=dR.toArray.size:=by
  have h1:=congrArg dF eqs;have h2:=fP hp;have h3:=r'.length;rw[ay]at h1;rw[bj];lia
 refine au (fV (T:= "list") ⟨ol,hol1,hcl⟩ ?_);dsimp only;rw[if_pos `d];refine au (VV hol1 hcl hnl hdl Wf (by decide +kernel) hd λh1 tk1 kp1=>?_);rw[if_pos (show(none:Option aj).isNone=true from rfl)];refine au (eW ?_);have hl1:h1.IsList l dR.toArray:=⟨ol,kp1 _ _ hol1,hcl,nl,hnl⟩;refine au (fA hl1 ?_);refine aK ⟨plainId_quiet Dx _,?_⟩;have hd1:h1.get? s.heap.objs.size=aa { cls:= .type "dict",data:= .dict #[] }:=kp1 _ _ (bO _ rfl);have hdlt:=aR hd1;have hI0:s.heap.get? h1.objs.size=none:=by
  cases z:s.heap.get? h1.objs.size with
  |none=>rfl
  |some ob=>exact absurd (aR (kp1 _ _ (aS _ z))) (cK _)
 have hd0:s.heap.get? s.heap.objs.size=none:=by
  cases z:s.heap.get? s.heap.objs.size with
  |none=>rfl
  |some ob=>exact absurd (aR z) (cK _)
 refine Xx (A:=X.A.in1) (I:=h1.objs.size) (l:=l) (d:=s.heap.objs.size) (items:=dR.toArray) ?_ hd (bR (Nat.lt_trans hl hdlt)) (bR hdlt) (c9 hl) s.heap hd0 hI0 ps hplen (λi p v h1 h2=>hps i p v h1 (by simpa using h2)) (λp hp=>BZ I.cq (hks p hp)) _ 0 _ [] rfl (aU _) ?_ ?_ ?_ ?_ ?_ λh' tk' old' hd'=>?_
 ·exact jD (A:=X.A.in1) (show X.A.in1.units+1<cLine from by have:X.A.in1.units=X.A.units+1:=rfl;lia)
 ·exact⟨_,bO _ rfl,rfl,rfl⟩
 ·exact hl1.push _
 ·exact λb o e=>aS _ (kp1 _ _ (aS _ e))
 ·refine⟨_, #[],0,aS _ hd1,?_,rfl,rfl,(λx hx=>nomatch hx),List.nodup_nil⟩
  first |exact⟨rfl,rfl⟩ |exact rfl |exact .inl rfl | (unfold aJ.ExactDict;simp)
 ·rw[dU,←hplen];have h1:=congrArg dF eqs;rw[ay]at h1;lia
 ·rw[dO]at hd';obtain⟨o',es,ep,g1,g2,g3,g4,g5,g6⟩:=hd';have hl0:=NE qs [];have kt:KT H (ym qs) (Gv [] ps):=by
   have:=KT.fold ps (show KT H [] [] from .nil) hks;rw[eqs]at this;exact this
  refine⟨rfl, .ref s.heap.objs.size,_,I.laid (t':=tk') (o:= .dT (ym qs)) old' (aA _) ⟨?_,?_,_,kt.keeps λb ys eb=>?_,o',es,ep,g1,g2,g3,g4,g6⟩,rfl,q _ (I.cq.fresh (aA _))⟩
  ·simp only[dU,bI]at hl0;exact aX hl0 hlen
  ·have:=I.big;exact beq_eq_false_iff_ne.mpr (c9 this)
  ·rw[oG (qq eb (I.cq.fresh (aA _)))];exact eb
noncomputable def so:List W→Option (List (List Int))
 | []=>aa []
 | .bT [k, .bl true]::ws=>match tR k,so ws with
  |some q,aa qs=>aa (q::qs)
  |_,_=>none
 |_=>none
noncomputable def uG (qs:List (List Int)):List (List Int×W):=qs.foldl (λd6 k=>xo d6 k (.bl true)) []
def xu (ws:List W) (S:kB) (Q:WK):Prop:=match so ws with
 |some qs=>qs.length≤1000000∧ ∀a,S a=none→Q (.ref a) (bQ S a (.dct (uG qs)))
 |none=>False
theorem Jx{K:am}{H:Hp}:∀{ws:List W}{vs:List V}{qs:List (List Int)},mY K H ws vs→so ws=aa qs→a_ (BM H) (qs.map λq=>q.map Sum.inl) vs
 | [],_,_, .nil,e=>by
  simp only[so,bV]at e;subst e;exact .nil
 |w::ws,_,qs, .cons r rs,e=>by
  cases w with
  |bT us=>
   obtain _ |⟨k,_ |⟨b,_ |⟨x,us⟩⟩⟩:=us
   ·simp [so]at e
   ·simp [so]at e
   ·cases b with
    |bl b=>
     cases b with
     |true=>
      simp only[so]at e;cases e1:tR k with
      |none=>rw[e1]at e;simp at e
      |some q=>
       cases e2:so ws with
       |none=>rw[e1,e2]at e;simp at e
       |some qs'=>
        rw[e1,e2]at e;simp only[bV]at e;subst e;cases r with
        | @bT t vs' _ ft hs=>
         cases hs with
         |cons r1 r2=>
          cases r2 with
          |cons r3 r4=>
           cases r4;cases r3;obtain⟨b,rfl,eb⟩:=JM r1 e1;exact .cons ⟨t,b,rfl,ft,eb⟩ (Jx rs e2)
     |false=>simp [so]at e
    |_=>simp [so]at e
   ·cases b<;>simp [so]at e
  |_=>simp [so]at e
theorem Pk{K:am}{H:Hp}:∀(qs:List (List Int)) {d6:List (List Int×W)}{ps:List (List Key×V)},pX K H d6 ps→pX K H (qs.foldl (λd6 k=>xo d6 k (.bl true)) d6) ((qs.map λq=>q.map Sum.inl).foldl (λd6 q=>tJ d6 q (.bl true)) ps)
 | [],_,_,r=>r
 |q::qs,_,_,r=>by
  rw[az,eR,eR];exact Pk qs (r.bQ q (.bl true))
def Sv{K:am}:x_ K (λxs H Q=>∃(l:ai) (vs:List V) (qs:List (List Key)),xs=[.ref l]∧o9 K H l vs∧a_ (BM H) qs vs∧qs.length≤sizeLine∧ ∀d,H d=none→Q (.ref d) (oa H d (.dT (ym qs)))) xu:=λH a vs ws S Q QW ea na r hS h hQ=>by
 unfold xu at h;split at h
 ·rename_i qs e;have hp:=Jx r e;refine⟨a,vs,_,rfl, .of ea,hp,?_,λd hd=>?_⟩
  ·rw[ay,eN];lia
  ·have rd:pX K H (uG qs) (ym (qs.map λq=>q.map Sum.inl)):=Pk qs (show pX K H [] [] from .nil);have x:oh H S (oa H d (.dT (ym (qs.map λq=>q.map Sum.inl)))) (bQ S d (.dct (uG qs))):= .newS hd;refine hQ (.ref d) (bQ S d (.dct (uG qs))) (.ref d) _ x (.ref d) (λb o q=>?_) (h.2 d (hS.free hd));by_cases hb:b=d
   ·subst hb;rw[nv]at q;cases q;exact⟨_,qb,Paired.mapP rd λ_ _ z=>⟨z.1,z.2.ext x⟩⟩
   ·rw[oz hb]at q;exact hS.new hd b o q
 ·exact h.elim
def zvv (hr:oV k X.A) (hg:Gl X "dict") (hm:X.mg "dict" =none) (ha:JL X e tl)
  (he:ax [e] X.env=(false,aH e X.env)::ax [] X.env) (hpl:(aZ pos (ax [] X.env)).any (·.1)=false) (hcl:X.calm=true):JE X (.Call (.Name "dict" p) [e] [] pos) (qR xu tl):=λE hE=>
 Pi (T2 hcl (by have:=hr.units;lia)) Sv hg hm PyProof.Rows.boot_dict ha `d `d he hpl E hE
def _root_.pz{a b:Prop}(h:a→b) (g:b→a):a=b:=propext ⟨h,g⟩
def Sk:=@xu.eq_def
theorem M6:∀ps:List (List Int),so (ps.map λp=>W.bT [.bT (p.map W.int), .bl true])=aa ps
 | []=>rfl
 |p::ps=>by
  have e:tR (.bT (p.map W.int))=aa p:=by
   show qV (p.map W.int)=aa p
   induction p with
   |nil=>rfl
   |cons i p ih=>rw[az,qV,ih];rfl
  rw[az,so,e,M6 ps]
def zvL (d6:List (List Int×W)) (q k:List Int) (v:W):(qg (xo d6 q v) k).isSome=(decide (k=q) || (qg d6 k).isSome):=by
 have e:∀d6:List (List Int×W),(qg d6 k).isSome=d6.any λkv=>decide (kv.1=k):=λd6=>by
  unfold qg;rw[gy]
  induction d6 with
  |nil=>rfl
  |cons a d6 ih=>
   rw[b8,fh];cases decide (a.1=k) with
   |true=>rfl
   |false=>simpa using ih
 rw[e,e];unfold xo;split
 ·rename_i h;have:(d6.map λkv=>if kv.1=q then(kv.1,v) else kv).any (λkv=>decide (kv.1=k))=d6.any λkv=>decide (kv.1=k):=by
   rw[List.any_map];congr 1;funext kv;simp only[kT];split<;>rfl
  rw[this];by_cases hk:k=q
  ·subst hk;rw[h];simp
  ·rw[decide_eq_false hk,mC]
 ·rw[List.any_append];simp only[fh,List.any_nil,lq];rw[Bool.or_comm];congr 1;apply decide_eq_decide.mpr;exact eq_comm
theorem Le:∀(qs:List (List Int)) (d6:List (List Int×W)) (k:List Int),(qg (qs.foldl (λd6 k=>xo d6 k (.bl true)) d6) k).isSome=(decide (k∈qs) || (qg d6 k).isSome)
 | [],d6,k=>by simp
 |q::qs,d6,k=>by
  rw[eR,Le qs,zvL,←Bool.or_assoc];congr 1;rw[eU];simp only[jr,decide_eq_true_eq,aB];exact or_comm
def Oy (qs:List (List Int)) (k:List Int):(qg (uG qs) k).isSome=decide (k∈qs):=by
 unfold uG;rw[Le];simp [qg]
end L2
namespace L2
open PySem PySem.Spec PyProof.Rows PySem.W PySem.Calls Builtin Builtin.ObjectAttr Builtin.Getset_descriptor
structure F4 (K:Frag) (C:ai):Prop where
  ga:findIn K (.ref C) "__getattribute__" =aa (aa (.builtin "BaseException.__getattribute__"))
  gt:findIn K (.ref C) "__getattr__" =aa none
  cl:findIn K (.ref C) "__class__" =aa (aa (.builtin "object.__class__"))
  ob:mroIn K C (.type "object")=aa true
  be:mroIn K C (.type "BaseException")=aa true
noncomputable abbrev Cu:List aj:=[.type "ValueError", .type "Exception", .type "BaseException", .type "object"]
structure rL (K:am) (x:ah) (C:ai):Prop where
  nm:bz K aY x=aa (aa (.ref C))
  ex:kR K C Cu "ValueError.__new__" =true
  xc:F4 K C
theorem Lm:∀l:List iY,∃L:List ah,∀x,x∉L→ ∀e∈l,¬e.key.isStr x=true
 | []=>⟨[],λ_ _ _ h=>nomatch h⟩
 |a::l=>by
  obtain⟨L,hL⟩:=Lm l;by_cases q:∃y,a.key.isStr y=true
  ·obtain⟨y,hy⟩:=q;exact⟨y::L,λx hx=>j_.2 ⟨λh=>hx (aj.isStr_inj _ _ _ h hy▸ .head _),hL x λh=>hx (.tail _ h)⟩⟩
  ·exact⟨L,λx hx=>j_.2 ⟨λh=>q ⟨x,h⟩,hL x hx⟩⟩
def rL.own{K:am}{x:ah}{C:ai}{h:aF}{mg:ah→Option aj}(O:rL K x C) (p:bb) (M:Mod K mg h):OwnCls x C Cu "ValueError.__new__" mg h:=by
 obtain⟨mb,hb,hm⟩:=M.blt;obtain⟨o,es,ep,ho,hd,hz,hf⟩:=M.glob;obtain⟨L,hL⟩:=Lm es.toList;refine PySem.W.own_of_in (p:=p) (loose:=L) M.kin ⟨M.glob,hb,M.nolimit,hm,λy _ hy _ _ _=>(hf y).symm.trans ?_⟩ O.nm O.ex;unfold nsFind findBy;rw[Array.find?_eq_none.2 λe he=>hL y hy e (kJ.2 he)];rfl
def vz (x:ah) (t:WA):WS:=λE _ σ S=>t E σ S λws S1=>ws.length≤sizeLine∧E x σ S1
def UL{X:Cx}{x:ah}{C:ai}{e:Expr}{es:List Expr}{t:WA}{np cpos pos:bv}(O:rL X.K x C) (hg:Gl X x) (hm:X.mg x=aa (.ref C)) (ha:JA X (e::es) t) (hcl:X.calm=true) (hdb:(x == ("__debug__" :ah))=false)
  (he:ax (e::es) X.env=(false,aH e X.env)::ax es X.env) (hpl:(aZ cpos (ax es X.env)).any (·.1)=false) :
  JS X (.Raise (aa (.Call (.Name x np) (e::es) [] cpos)) none pos) (vz x t):=λE hE ag s σ H D I z=>by
 obtain⟨σW,S,DW,hσ,hS,ht,hD⟩:=z;have OC:=(O.own X.prog I.mod).keeps I.bk;obtain⟨tl,N,nm,q,bs,hdct,sn,sub,ab,col,dd,k0,k1,k2,k3,k5,mN,hC,hN,hni,T⟩:=(O.own X.prog I.mod).obj;refine wpAny_Raise_call_subT (C:=C) (nm:=nm) (q:=q) (N:=N) (bs:=bs) (bm:=tl) (hdct:=hdct) (sn:=sn) (sub:=sub) (ab:=ab) (col:=col) (dd:=dd) (k0:=k0) (k1:=k1) (k2:=k2) (k3:=k3) (k5:=k5)
  mO (mN:=mN) (T.hasType mO.hasBase) (I.ok.hd hcl) (by rw[he];show(false || (aZ cpos (ax es X.env)).any (·.1))=false;rw[hpl];rfl) hni (FH I hg hm ⟨rfl,?_⟩ hdb)
 have go:=ha E hE cpos ag s σ H (λvs H1=>∃ws S1,mY X.K H1 ws vs∧nS X.K H1 σW σ∧m5 X.K H1 S1∧ws.length≤sizeLine∧E x σW S1) I ⟨σW,S,_,hσ,hS,ht,λws S1 vs H1 e1 r1 gV h1=>⟨ws,S1,r1,hσ.ext e1,gV,h1.1,h1.2⟩⟩;rw[he]at go⊢;refine lM (cE go (λus s2 z2=>?_) λ_ _ y=>y);obtain⟨vs,H1,I1,r,ws,S1,r1,hσ1,gV,hl,h1⟩:=z2;refine⟨rfl,by rw[←r.length,←r1.length];exact hl,I1.bk _ _ hC,hN.keeps I1.bk,T.keeps I1.bk,λh' a me=>?_⟩
 exact hE.near ag σ H1 s2 σW x C a S1 h' us I1 hσ1 O.nm me gV h1
def WM (ha:PE X a ta):PE X (.UnaryOp .Not a pos) (λσ H Q=>ta σ H λx H1=>∃k,Bu X.K x H1 k∧Q (.bl (!k)) H1):=by
 intro ag s σ H Q I h;refine jJ (nZ (ha ag s σ H _ I h) λv s1 zz=>oQ zz λx H1 I1 r1 q1=>?_);obtain⟨k,hk,q1⟩:=q1;exact not_of (nZ (HD ag s1 σ H1 x v (λc H2=>Q (.bl (!c)) H2) I1 r1 ⟨k,hk,q1⟩) λc s2 zz=>vX zz λH2 I2 q2=>⟨.bl (!c),H2,I2,rfl,q2⟩)
def zV (t:WE):WE:=λE σ S Q=>t E σ S λw S1=>uZ w S1 λb S2=>Q (.bl !b) S2
def Uy (ha:JE X a ta):JE X (.UnaryOp .Not a pos) (zV ta):=λE hE=>
 (WM (ha E hE)).mono λσ H Q zz=>on zz λσW S QW hσ hS ht hQ=>⟨σW,S,_,hσ,hS,ht,λw S1 v H1 e1 r1 gV h1=>by
  obtain⟨k,hk,q⟩:=Pu r1 gV h1;exact⟨k,hk,hQ _ S1 _ H1 e1 (.bl _) gV q⟩⟩
def zzJ:(zV t E σ S Q)=(t E σ S λw S1=>uZ w S1 λb S2=>Q (.bl !b) S2):=pz id id
theorem JJ:∀{ns:List Int}{vs:List aj},ni (ns.map V.int) vs→fx vs ns
 | [],_,h=>by
  cases h;exact .nil
 |n::ns,_,h=>by
  cases h with
  |cons a b=>
   obtain⟨t,rfl⟩:=a;exact .cons n t (JJ b)
section
variable {X:Cx}{o e:Expr}{es:List Expr}{to:WE}{t:WA}{apos cpos:bv}
def Of (K:am):V→List V→Hp→VK→Prop:=λx vs H Q=>∃(p:ai) (ns:List Int) (k:Int),x= .ref p∧vs=[.int k]∧o9 K H p (ns.map V.int)∧Q (.int (ns.count k:Nat)) H
def Zh:td X "list.count" (Of X.K):=by
 intro ag s σ H x vs v us Q I rx rv h;obtain⟨p,ns,k,rfl,rfl,hq,q⟩:=h;cases rx;obtain⟨u,rfl,ru⟩:=uz rv;obtain⟨t,rfl⟩:=ru;obtain⟨dR,r',pl,hz⟩:=I.list hq;exact count_list_ints pl.isList (JJ r') ⟨.int _,H,I.tok _,⟨_,rfl⟩,q⟩
def yR:rV:=λw ws S Q=>match w with
 | .ref a=>oA S a λxs=>match ws with
  | [.int k]=>∃ns,qV xs=aa ns∧Q (.int (ns.count k:Nat)) S
  |_=>False
 |_=>False
def Wg{K:am}:yF K (Of K) yR:=λH x w vs ws S Q QW r rs hS h hQ=>by
 cases r with
 |ref a=>
  obtain⟨xs,ea,h⟩:=qI h;obtain⟨us,f,hs⟩:=hS a _ ea;split at h
  ·obtain⟨ns,en,h⟩:=h;cases rs with
   |cons r1 r2=>
    cases r1;cases r2;have:=Jk hs en;subst this;exact⟨a,ns,_,rfl,rfl, .of f,hQ _ S _ H .refl (.int _) hS h⟩
  ·exact h.elim
 |_=>exact h.elim
def VW (ho:JE X o to) (ha:JA X (e::es) t)
  (hbase:cB o "count" X.env (aH o X.env)=aH o X.env)
  (hfew:((aZ cpos (ax (e::es) X.env)).all (λx=> !x.1)&&(dg cpos (dh [] X.env)).all (λx=>x.1.isSome)
   &&decide ((e::es).length+([]:List bY).length+(if([]:List bY).isEmpty then 0 else 1)<30))=true)
  (hline:(apos.endLine == cpos.line)=true) (hs:ax (e::es) X.env=(false,aH e X.env)::ax es X.env) (hplain:(aZ cpos (ax es X.env)).any (·.1)=false) :
  JE X (.Call (.Attribute o "count" apos) (e::es) [] cpos) (wM pZ yR to t):=DB gH PySem.F.slot_list_count PySem.F.type_list_count Ci Zh Wg ho ha hbase hfew hline hs hplain
end
section
variable {S:kB}{Q:WK}{a:ai}{k:Int}
def X5:(yR (.ref a) [.int k] S Q)=(oA S a λxs=>∃ns,qV xs=aa ns∧Q (.int (ns.count k:Nat)) S):=pz id id
end
inductive Tr where
  |bl (n:Int)
  |nd (s:ah) (ts:List Tr)
def Tr.cX:Tr→List Tr
 | .bl _=>[]
 | .nd _ ts=>ts
mutual
noncomputable def Tr.ao:Tr→Nat
 | .bl _=>1
 | .nd _ ts=>1+nB ts
noncomputable def nB:List Tr→Nat
 | []=>0
 |t::ts=>t.ao+nB ts
end
mutual
noncomputable def Tr.depth:Tr→Nat
 | .bl _=>1
 | .nd _ ts=>1+nL ts
noncomputable def nL:List Tr→Nat
 | []=>0
 |t::ts=>max t.depth (nL ts)
end
def PR:nB []=0:=by unfold nB;rfl
def yb (t:Tr) (ts:List Tr):nB (t::ts)=t.ao+nB ts:=by
 conv=>lhs;unfold nB
theorem CU:∀(ts us:List Tr),nB (ts++us)=nB ts+nB us
 | [],us=>by
  show nB us=nB []+nB us;rw[PR];lia
 |t::ts,us=>by
  show nB (t::(ts++us))=_;rw[yb,yb,CU ts us];lia
def GH:nL []=0:=by unfold nL;rfl
def AA (t:Tr) (ts:List Tr):nL (t::ts)=max t.depth (nL ts):=by
 conv=>lhs;unfold nL
def DF (t:Tr):t.ao=1+nB t.cX:=by
 cases t with
 |bl n=>
  show Tr.ao (.bl n)=1+nB [];unfold Tr.ao nB;rfl
 |nd s ts=>
  show Tr.ao (.nd s ts)=1+nB ts
  conv=>lhs;unfold Tr.ao
def BE (t:Tr):t.depth=1+nL t.cX:=by
 cases t with
 |bl n=>
  show Tr.depth (.bl n)=1+nL [];unfold Tr.depth nL;rfl
 |nd s ts=>
  show Tr.depth (.nd s ts)=1+nL ts
  conv=>lhs;unfold Tr.depth
def tu (t:Tr):1≤t.ao:=by rw[DF];lia
def qK (t:Tr):1≤t.depth:=by rw[BE];lia
theorem PK:∀(ts us:List Tr),nL (ts++us)=max (nL ts) (nL us)
 | [],us=>by
  show nL us=max (nL []) (nL us);rw[GH];lia
 |t::ts,us=>by
  show nL (t::(ts++us))=_;rw[AA,AA,PK ts us];exact(Nat.max_assoc _ _ _).symm
theorem qX:∀(ts:List Tr),ts.length≤nB ts
 | []=>aU _
 |t::ts=>by
  have:=qX ts;have:=tu t;rw[yb,aT];lia
theorem pk:∀{ts:List Tr},t∈ts→t.ao≤nB ts
 | [],h=>by cases h
 |u::ts,h=>by
  rw[yb];obtain e |h:=aB.mp h
  ·rw[e];lia
  ·have:=pk h;lia
theorem Og:∀{ts:List Tr},ts≠ []→nL ts=1+nL (ts.flatMap Tr.cX)
 | [],h=>absurd rfl h
 | [t],_=>by
  rw[cD,dy,bf,AA,GH,BE];lia
 |t::u::r,_=>by
  have ih:=Og (ts:=u::r) `s;have e:(t::u::r).flatMap Tr.cX=t.cX++(u::r).flatMap Tr.cX:=cD ..;rw[AA,ih,e,PK,BE];lia
theorem LZ:∀(ts:List Tr),nB (ts.flatMap Tr.cX)+ts.length=nB ts
 | []=>by rw[dy,PR];rfl
 |t::ts=>by
  have ih:=LZ ts;rw[cD,CU,yb,aT,DF];lia
mutual
theorem O5:∀t:Tr,t.depth≤t.ao
 | .bl n=>by unfold Tr.depth Tr.ao;exact aA _
 | .nd s ts=>by
  have:=KR ts;rw[BE,DF];show 1+nL ts≤1+nB ts;lia
theorem KR:∀ts:List Tr,nL ts≤nB ts
 | []=>by rw[GH];exact aU _
 |t::ts=>by
  have:=O5 t;have:=KR ts;rw[AA,yb];lia
end
mutual
noncomputable def j8:Tr→W
 | .bl n=> .int n
 | .nd s ts=> .bT (.str s::af ts)
noncomputable def af:List Tr→List W
 | []=>[]
 |t::ts=>j8 t::af ts
end
theorem qc:∀ts:List Tr,af ts=ts.map j8
 | []=>by simp [af]
 |t::ts=>by simp [af,qc ts]
def rg (ts:List Tr):(af ts).length=ts.length:=by rw[qc,ay]
noncomputable def mZ (p:List Int):W:= .bT (p.map W.int)
def Pf:pY "int" "int" =true:=by decide +kernel
def Kc:pY "int" "bool" =false:=by decide +kernel
def Jn:pY "int" "str" =false:=by decide +kernel
def K4:pY "int" "tuple" =false:=by decide +kernel
def HS:pY "int" "list" =false:=by decide +kernel
def IQ:pY "bool" "int" =true:=by decide +kernel
def JX:pY "bool" "bool" =true:=by decide +kernel
def J0:pY "bool" "str" =false:=by decide +kernel
def JV:pY "bool" "tuple" =false:=by decide +kernel
def NR:pY "bool" "list" =false:=by decide +kernel
def Jc:pY "str" "int" =false:=by decide +kernel
def Jr:pY "str" "bool" =false:=by decide +kernel
def MM:pY "str" "str" =true:=by decide +kernel
def Ht:pY "str" "tuple" =false:=by decide +kernel
def Kt:pY "str" "list" =false:=by decide +kernel
def MJ:pY "tuple" "int" =false:=by decide +kernel
def OZ:pY "tuple" "bool" =false:=by decide +kernel
def Kk:pY "tuple" "str" =false:=by decide +kernel
def o8:pY "tuple" "tuple" =true:=by decide +kernel
def py:pY "tuple" "list" =false:=by decide +kernel
def OR:pY "list" "int" =false:=by decide +kernel
def O7:pY "list" "bool" =false:=by decide +kernel
def Hi:pY "list" "str" =false:=by decide +kernel
def pA:pY "list" "tuple" =false:=by decide +kernel
def pK:pY "list" "list" =true:=by decide +kernel
section
variable {α:Type}{x:α}{xs:List α}
def Ec (n:Nat):pG xs (aa (n:Int)) none=xs.drop n:=by
 unfold pG;rw[HT.sIx_nat,HT.sIx_none];by_cases h:n≤xs.length
 ·rw[jQ h,dW (by rw[de];lia)]
 ·rw[ke `l,ge (aA _),ge `l,List.take_nil]
def EQ (n:Nat):pG xs none (aa (n:Int))=xs.take n:=by
 unfold pG;rw[HT.sIx_nat,HT.sIx_none,dO,eZ];by_cases h:n≤xs.length
 ·rw[jQ h]
 ·rw[ke `l,jO,dW `l]
def J7:pG (x::xs) (aa 1) none=xs:=by rw[show(1:Int)=((1:Nat):Int) from rfl,Ec];rfl
def Lu{n d k:Nat}(h:0<k):HT.sIx n d (aa (-(k:Int)))=n - k:=by
 show(if(-(k:Int))<0 then(-(k:Int)+(n:Int)).toNat else min (-(k:Int)).toNat n)=n - k;rw[if_pos `l];lia
def P1 (k:Nat) (h:0<k):pG xs none (aa (-(k:Int)))=xs.take (xs.length - k):=by
 unfold pG;rw[Lu h,HT.sIx_none,dO,eZ]
def Xf (k:Nat) (h:0<k):pG xs (aa (-(k:Int))) none=xs.drop (xs.length - k):=by
 unfold pG;rw[Lu h,HT.sIx_none,dW (by rw[de];lia)]
def tE{n:Nat}:nW xs (n:Int)=xs[n]? :=by
 unfold nW um;rw[if_pos `l];by_cases h:n<xs.length
 ·rw[if_pos `l];simp
 ·rw[if_neg `l];simp;lia
def Dn:nW (x::xs) 0=aa x:=tE (n:=0)
end
section
variable {S S':kB}{a b:ai}{o:Ob}{Q:List W→Prop}{ws:List W}
def Jo (h:b≠a):bQ (bQ S a o) b u=bQ (bQ S b u) a o:=by
 funext c;unfold bQ;by_cases h1:c=b
 ·rw[if_pos h1,if_pos h1,if_neg (by rw[h1];exact h)]
 ·rw[if_neg h1,if_neg h1]
def MS (h:b≠a):bQ (bQ (bQ S a o) b u) a o'=bQ (bQ S a o') b u:=by rw[Jo h,qr,Jo h]
def As:oA (bQ S a (.bJ ws)) a Q=Q ws:=nG nv
def rZ (h:bQ S a o b=none):S b=none∧b≠a:=by
 have hb:b≠a:=by rintro rfl;rw[nv]at h;cases h
 rw[oz hb]at h;exact⟨h,hb⟩
def Bo (h:S a=aa u) (n:S b=none):a≠b:=by rintro rfl;rw[h]at n;cases n
def Sub.bQ (h:Sub S S') (n:S a=none):Sub S (L2.bQ S' a o):=λb u e=>by rw[oz (Bo e n)];exact h b u e
def Sub.put2 (h:Sub S S'):Sub (L2.bQ S a u) (L2.bQ S' a u):=λb w e=>by
 by_cases hb:b=a
 ·subst hb;rw[nv]at e⊢;exact e
 ·rw[oz hb]at e⊢;exact h b w e
end
def Ep (S:kB) (a b:Int):oq S 60 (.int a) (.int b)=aa (a == b):=by have h:oq S 60 (.int a) (.int b)=aa (a == b):=rfl;exact h
def IM (S:kB) (a b:ah):oq S 60 (.str a) (.str b)=aa (a == b):=by have h:oq S 60 (.str a) (.str b)=aa (a == b):=rfl;exact h
def LD (S:kB) (a b:Bool):oq S 60 (.bl a) (.bl b)=aa (a == b):=by have h:oq S 60 (.bl a) (.bl b)=aa (a == b):=rfl;exact h
def nH (h:n≤16777216):n≤sizeLine:=by rw[eN];exact h
def qJ (h:n<16777216):n<sizeLine:=by rw[eN];exact h
section
variable {S:kB}{Q:WK}{QB:Bool→kB→Prop}{QS:List W→(kB→Prop)→Prop}{QT:String→Prop}
def tO (h:S a=aa o):bQ S a o=S:=by
 funext b;unfold bQ;split
 ·rename_i e;rw[e,h]
 ·rfl
theorem AL:uZ (.bl b) S QB=QB b S:=rfl
def NL:=@AL
theorem Az:uZ (.int i) S QB=QB (i != 0) S:=rfl
def zsU:=@Az
theorem Ad:uZ (.bT ws) S QB=QB (!ws.isEmpty) S:=rfl
def Zd:=@Ad
theorem zK:uZ (.ref a) S QB=oA S a λws=>QB (!ws.isEmpty) S:=rfl
def Yt:=@zK
theorem AJ:uZ .b_ S QB=QB false S:=rfl
def zsu:=@AJ
theorem yQ:uU (.bT ws) S QS=QS ws λ_=>True:=rfl
def Oz:=@yQ
theorem A1:uU (.ref a) S QS=oA S a λws=>QS ws λS'=>S' a=aa (.bJ ws):=rfl
def C7:=@A1
theorem zo:wb (.bl b) S QT=QT "bool" :=rfl
def Xp:=@zo
theorem zC:wb (.int i) S QT=QT "int" :=rfl
def VO:=@zC
theorem AO:wb (.str i) S QT=QT "str" :=rfl
def Xd:=@AO
theorem zR:wb (.bT i) S QT=QT "tuple" :=rfl
def ZT:=@zR
theorem yT:wb .b_ S QT=QT "NoneType" :=rfl
def VD:=@yT
theorem AQ:wb (.ref a) S QT=oA S a λ_=>QT "list" :=rfl
def XT:=@AQ
theorem za:oM (.int i) (.int j) S Q=Q (.int (i+j)) S:=rfl
def Z6:=@za
theorem yZ:oM (.str i) (.str j) S Q=(i.length+j.length≤sizeLine∧Q (.str (i++j)) S):=rfl
def UK:=@yZ
theorem y_:oM (.bT i) (.bT j) S Q=(i.length+j.length≤sizeLine∧Q (.bT (i++j)) S):=rfl
def E2:=@y_
theorem zj:oM (.ref a) (.ref b) S Q=oA S a λxs=>oA S b λys=>xs.length+ys.length≤sizeLine∧ ∀p,S p=none→Q (.ref p) (bQ S p (.bJ (xs++ys))):=rfl
def RG:=@zj
theorem AK{C:Int→Int→Prop}{g:Int→Int→W}:oC C g (.int i) (.int j) S Q=(C i j∧Q (g i j) S):=rfl
def zEl:=@AK
theorem yS{g:Int→Int→W}:rE g (.int i) (.int j) S Q=Q (g i j) S:=rfl
def Rp:=@yS
theorem yJ:tf (.int i) (.int j) S Q=Q (.bl (decide (i≤j))) S:=rfl
def Sb:=@yJ
theorem yM:tf (.str i) (.str j) S Q=Q (.bl (!decide (j.cps.toList<i.cps.toList))) S:=rfl
def Qc:=@yM
theorem zI:pF [.bT us] S Q=Q (.int us.length) S:=rfl
def TK:=@zI
theorem AU:pF [.ref a] S Q=oA S a λus=>Q (.int us.length) S:=rfl
def Yn:=@AU
theorem Aj:pF [.cM ns] S Q=Q (.int ns.length) S:=rfl
def YU:=@Aj
theorem Ax:pF [.str z] S Q=(z.length≤sizeLine∧Q (.int z.length) S):=rfl
def Vi:=@Ax
theorem A2:m4 (.bT ws) (.int i) S Q=match nW ws i with
 |some w=>Q w S
 |none=>False:=rfl
def Bw:=@A2
theorem zd:m4 (.ref a) (.int i) S Q=oA S a λws=>match nW ws i with
 |some w=>Q w S
 |none=>False:=rfl
def L8:=@zd
theorem zF:m4 (.cM ns) (.int i) S Q=match nW ns i with
 |some n=>Q (.int n) S
 |none=>False:=rfl
def Q4:=@zF
theorem yH:m4 (.str x) (.int i) S Q=(x.length≤sizeLine∧match nW x.cps.toList i with
 |some c=>Q (.str ⟨#[c]⟩) S
 |none=>False):=rfl
def T5:=@yH
theorem An{ws:List W}{lo hi:Option Int}:Ap (.bT ws) lo hi S Q=Q (.bT (pG ws lo hi)) S:=rfl
def Ri:=@An
theorem yW{z:ah}{lo hi:Option Int}:Ap (.str z) lo hi S Q=(z.length≤sizeLine∧Q (.str (c8 z lo hi)) S):=rfl
def Uf:=@yW
theorem AH{a:ai}{lo hi:Option Int}:Ap (.ref a) lo hi S Q=oA S a λws=>∀p,S p=none→Q (.ref p) (bQ S p (.bJ (pG ws lo hi))):=rfl
def VE:=@AH
theorem Ao{ns:List Int}{lo hi:Option Int}:Ap (.cM ns) lo hi S Q= ∀p,S p=none→Q (.ref p) (bQ S p (.bJ ((pG ns lo hi).map W.int))):=rfl
def ZJ:=@Ao
theorem Ac:sE [.bT us] S Q=Q (.bT us) S:=rfl
def zmF:=@Ac
theorem Ar:sE [.ref a] S Q=oA S a λus=>Q (.bT us) S:=rfl
def UV:=@Ar
theorem yG:rh (.ref a) [y] S Q=oA S a λxs=>xs.length<sizeLine∧Q .b_ (bQ S a (.bJ (xs++[y]))):=rfl
def Xq:=@yG
theorem zh:XC (.ref a) [] S Q=oA S a λxs=>match xs[xs.length - 1]? with
 |some y=>Q y (bQ S a (.bJ xs.dropLast))
 |none=>False:=rfl
def ZV:=@zh
theorem AN:v8 (.ref a) [.bT ys] S Q=oA S a λxs=>xs.length+ys.length≤sizeLine∧Q .b_ (bQ S a (.bJ (xs++ys))):=rfl
def TH:=@AN
theorem zP:v8 (.ref a) [.ref b] S Q=oA S a λxs=>oA S b λys=>xs.length+ys.length≤sizeLine∧Q .b_ (bQ S a (.bJ (xs++ys))):=rfl
def RB:=@zP
theorem zt:AE (.ref a) ws S Q=oA S a λxs=>xs.length+ws.length≤sizeLine∧Q .b_ (bQ S a (.bJ (xs++ws))):=rfl
def TV:=@zt
theorem zM:pZ (.ref a) S=oA S a λ_=>True:=rfl
def Wl:=@zM
theorem zq:vB (.str x) S=True:=rfl
def X3:=@zq
theorem A9:uE [.bl b] S Q=Q (.int (if b then 1 else 0)) S:=rfl
def Zw:=@A9
theorem Ai:uE [.int i] S Q=Q (.int i) S:=rfl
def V7:=@Ai
theorem yI:xI [.int i, .int j] S Q=Q (.int (if j > i then j else i)) S:=rfl
def TB:=@yI
theorem A4:uL [.int i, .int j] S Q=Q (.int (if j<i then j else i)) S:=rfl
def Xa:=@A4
theorem yP:yB (.str z) ws S Q=match vm ws with
 |some ys=>(ys.map (·.length)).sum+ys.length*z.length≤16777216∧Q (.str (dt z ys)) S
 |none=>False:=rfl
def T4:=@yP
theorem AZ:W8 (.str z) [.str y] S Q=match db z y 0 z.length 1 with
 |i::_=>Q (.int i) S
 | []=>False:=rfl
def XO:=@AZ
theorem yX:p8 neg .b_ .b_ S Q=Q (.bl (!neg)) S:=rfl
def Xr:=@yX
theorem zZ:p8 neg (.bl a) (.bl b) S Q=Q (.bl (if neg then a != b else a == b)) S:=rfl
def Wz:=@zZ
theorem Af:p8 neg (.bl a) .b_ S Q=Q (.bl neg) S:=rfl
def ZD:=@Af
theorem AF:p8 neg (.bT ws) .b_ S Q=Q (.bl neg) S:=rfl
def HE:=@AF
theorem A8:p8 neg (.ref a) .b_ S Q=Q (.bl neg) S:=rfl
def zyZ:=@A8
theorem zY:p8 neg (.int a) .b_ S Q=Q (.bl neg) S:=rfl
def Qv:=@zY
theorem yK:uy neg x (.bT ws) S Q=match r8 S x ws with
 |some b=>Q (.bl (if neg then !b else b)) S
 |none=>False:=rfl
def zuy:=@yK
theorem zu:uy neg x (.ref a) S Q=oA S a λws=>match r8 S x ws with
 |some b=>Q (.bl (if neg then !b else b)) S
 |none=>False:=rfl
def SA:=@zu
theorem zx:uy neg (.str i) (.str j) S Q=Q (.bl (if neg then !(!(db j i 0 j.length 1).isEmpty) else !(db j i 0 j.length 1).isEmpty)) S:=rfl
def Qh:=@zx
end
theorem E0{G:kB→Prop}(I:List W→nj→kB→Prop)
  (step:∀w ws σ S (N:nj→kB→Prop),I (w::ws) σ S→(∀σ' S' S'',Sub S'' S'→G S''→I ws σ' S''→N σ' S')→g w σ S λσ1 S1=>b E { D with nx:=N,ct:=N,bk:=D.nx } σ1 S1)
  (done:∀σ S,I [] σ S→D.nx σ S):∀(ws:List W) (σ:nj) (S:kB),I ws σ S→nI g b E D G ws σ S
 | [],σ,S,h=>done σ S h
 |w::ws,σ,S,h=>step w ws σ S _ h λσ' S' S'' sb hG hI=>⟨S'',sb,hG,E0 I step done ws σ' S'' hI⟩
section
variable {E:WX}{σ:nj}{S:kB}{Q:WK}{QB:Bool→kB→Prop}{QA:List W→kB→Prop}{QI:List W→(kB→Prop)→kB→Prop}{QO:Option Int→kB→Prop}{P:nj→kB→Prop}{D:nC}{w x y:W}{ws:List W}{EX:ah→kB→Prop}
def zi:=@iu.eq_def
def DM:=@wC.eq_def
def G9:=@kD.eq_def
def Mr:=@pW.eq_def
def I0:=@n_.eq_def
def Wr:=@sU.eq_def
def Y':=@wa.eq_def
def VC:=@tK.eq_def
def Vt:=@wc.eq_def
def zFz:=@AY.eq_def
def Xz:=@om.eq_def
def ZX:=@oj.eq_def
def Ze:=@mV.eq_def
def My:=@nE.eq_def
def XJ:=@pT.eq_def
def sj:=@mU.eq_def
def ZE:=@mS.eq_def
def E3:=@pS.eq_def
def B':=@ow.eq_def
def G8:=@p6.eq_def
def SN:=@ae.eq_def
def Vk:=@jX.eq_def
def Xi:=@nD.eq_def
def Kn:=@oo.eq_def
def Ml:=@nQ.eq_def
def V9:=@m9.eq_def
def u0:=@nY.eq_def
def QF:=@rW.eq_def
def zFx:(Wa t u E σ S QA)=(t E σ S λx S1=>u E σ S1 λy S2=>match x,y with
 | .ref a, .ref b=>oA S2 a λxs=>oA S2 b λys=>xs.length+ys.length≤sizeLine∧QA (xs++ys) S2
 |_,_=>False):=pz id id
def O':=@pH.eq_def
def RE:=@xb.eq_def
def VN:=@oX.eq_def
def XR:=@oY.eq_def
def Tz:=@pf.eq_def
def Wc:=@wB.eq_def
def Zj:=@qR.eq_def
def Uh:=@v9.eq_def
def Wk:=@A6.eq_def
def Uo:=@ug.eq_def
def TL:=@tq.eq_def
def QU:=@wM.eq_def
def SW:=@vH.eq_def
def zAL:=@xq.eq_def
def Zz:=@pN.eq_def
def Vm:=@oU.eq_def
def zAF:=@ul.eq_def
def Zr:=@pe.eq_def
def Wu:=@pj.eq_def
def Q1:=@t8.eq_def
def Su:=@uw.eq_def
def Qo:=@vO.eq_def
def UY:=@uQ.eq_def
def PQ:=@sY.eq_def
def Z5:=@u9.eq_def
def ZN:=@xB.eq_def
def Sa:=@yg.eq_def
end
section
variable {S:kB}{Q:WK}
theorem AW:SY (.bT xs) (.int k) S Q=((xs≠ []∧ -(2 ^ 63)≤k∧k<2 ^ 63∧xs.length*k.toNat≤sizeLine)∧Q (.bT (bp k.toNat xs).flatten) S):=rfl
def Yf:=@AW
theorem ze:xS neg y (.ref a) S Q=(match tR y with
 |some k=>uV S a λd6=>Q (.bl (if neg then !(qg d6 k).isSome else(qg d6 k).isSome)) S
 |none=>False):=rfl
def Te:=@ze
theorem zl:V' (.ref a) y S Q=(match tR y with
 |some k=>uV S a λd6=>match qg d6 k with
  |some w=>Q w S
  |none=>False
 |none=>False):=rfl
def Zg:=@zl
def Ux:=@tQ.eq_def
theorem Aw:Ak (.str z) [] S Q=(z.length≤5592405∧Q (.str (eF z)) S):=rfl
def Xt:=@Aw
theorem vQ:∀p:List Int,qV (p.map W.int)=aa p
 | []=>rfl
 |i::p=>by rw[az,qV,vQ p];rfl
def Oh (p:List Int):tR (mZ p)=aa p:=vQ p
def IB{P:List (List Int×W)→Prop}:uV (bQ S a (.dct d6)) a P=P d6:=DA nv
end
end L2
section
def L2.wZ (d:String):Lean.MacroM (Lean.TSyntax `tactic):=do
  let a:Array jC:=(("zi DM G9 Mr I0 Wr Y' VC Vt zFz Xz ZX Ze My XJ sj ZE E3 B' G8 SN Vk Xi Kn Ml V9 u0 QF O' RE VN XR Tz Wc Zj Uh Wk Uo TL QU SW zAL Zz Vm zAF Zr Wu Q1 Su Qo UY PQ Z5 ZN Sa Yf Te Zg Ux Sk Xt Oh IB As qr Ep IM LD J7 Dn Pf Kc Jn K4 HS IQ JX J0 JV NR Jc Jr MM Ht Kt MJ OZ Kk o8 py OR O7 Hi pA pK NL zsU Zd Yt zsu Oz C7 Xp VO Xd ZT VD XT Z6 UK E2 RG zEl Rp Sb Qc TK Yn YU Vi Bw L8 Q4 T5 Ri Uf VE ZJ zmF UV Xq ZV TH RB TV Wl X3 Zw V7 TB Xa T4 XO Xr Wz ZD HE zyZ Qv zuy SA Qh List.map_cons List.map_nil List.length_cons List.length_nil List.cons_append List.nil_append List.append_nil List.replicate List.getElem?_cons_zero List.getElem?_cons_succ List.getElem?_nil List.set_cons_zero List.set_cons_succ Nat.reduceAdd Nat.reduceSub true_and and_true if_true if_false Bool.false_eq_true reduceIte Bool.not_true Bool.not_false Option.join_some Option.join_none decide_eq_true_eq and_self".splitOn " ").filter (· != d)).toArray.map λs=>iE s.toName
  `(tactic| simp only [$[$a:term],*])
local macro_rules | `(tactic| walk_at "wp") => L2.wZ ""
def L2.wY:Lean.MacroM (Lean.TSyntax `tactic):=do
  let a:Array jC:=("iu wC kD pW n_ sU wa tK wc AY om oj mV nE pT mU mS pS ow p6 ae jX nD oo nQ m9 nY rW pH xb oX oY pf wB qR v9 A6 ug tq wM vH xq pN oU ul pe pj t8 uw vO uQ sY u9 xB yg AW ze zl tQ xu Aw AL Az Ad zK AJ yQ A1 zo zC AO zR yT AQ za yZ y_ zj AK yS yJ yM zI AU Aj Ax A2 zd zF yH An yW AH Ao Ac Ar yG zh AN zP zt zM zq A9 Ai yI A4 yP AZ yX zZ Af AF A8 zY yK zu zx List.map_cons List.map_nil List.length_cons List.length_nil List.cons_append List.nil_append List.append_nil List.replicate List.getElem?_cons_zero List.getElem?_cons_succ List.getElem?_nil List.set_cons_zero List.set_cons_succ Nat.reduceAdd Nat.reduceSub Option.join_some Option.join_none Bool.not_true Bool.not_false".splitOn " ").toArray.map λs=>iE s.toName
  let b:Array jC:=("Oh IB As qr Ep IM LD J7 Dn Pf Kc Jn K4 HS IQ JX J0 JV NR Jc Jr MM Ht Kt MJ OZ Kk o8 py OR O7 Hi pA pK List.map_cons List.map_nil List.length_cons List.length_nil List.cons_append List.nil_append List.append_nil List.replicate List.getElem?_cons_zero List.getElem?_cons_succ List.getElem?_nil List.set_cons_zero List.set_cons_succ Nat.reduceAdd Nat.reduceSub true_and and_true if_true if_false Bool.false_eq_true reduceIte Bool.not_true Bool.not_false Option.join_some Option.join_none decide_eq_true_eq and_self".splitOn " ").toArray.map λs=>iE s.toName
  `(tactic| (first | (dsimp only [$[$a:term],*]; (try simp only [$[$b:term],*]); (try dsimp only [$[$a:term],*]); (try simp only [$[$b:term],*])) | (simp only [$[$b:term],*]; (try dsimp only [$[$a:term],*]); (try simp only [$[$b:term],*]))))
local macro_rules | `(tactic| ext) => L2.wY
namespace L2
open PySem PySem.Spec PyProof.Rows
def PD:(vz x t E D σ S)=(t E σ S λws S1=>ws.length≤sizeLine∧E x σ S1):=pz id id
def xX:Expr→Bool
 | .Starred .. =>false
 |_=>true
def rY (es:List Expr):Bool:=es.all xX
def yY:Expr→Bool
 | .ListComp .. =>false
 | .SetComp .. =>false
 | .DictComp .. =>false
 |_=>true
def wj:Expr→Bool
 | .Set .. =>false
 |_=>true
noncomputable def rC {α:Type}:List α→Option α
 | []=>none
 |a::r=>bif r.isEmpty then aa a else none
noncomputable def eNm:Expr→Option ah
 | .Name x _=>aa x
 |_=>none
noncomputable def B8:Expr→Option (ah×List Expr)
 | .Call f es ks _=>(eNm f).bind λx=>bif ks.isEmpty&&es.all xX&& !es.isEmpty then aa (x,es) else none
 |_=>none
noncomputable def G4:Expr→Option (Option Expr×Option Expr)
 | .Slice lo hi st _=>bif st.isNone then aa (lo,hi) else none
 |_=>none
noncomputable def Eo:Expr→Option (Expr×Scope×bv×gK)
 | .ListComp e gs s p=>(rC gs).bind λg=>if g.is_async=0 then aa (e,s,p,g) else none
 |_=>none
def L4:Expr→Bool
 | .Slice .. =>false
 |_=>true
def F5:Expr→Bool
 | .Call _ [] _ _=>false
 |_=>true
def qG (h:xX e=true):ax (e::es) env=(false,aH e env)::ax es env:=by
 cases e<;>first |rfl |cases h
def Ga (h:rY es=true):(aZ pos (ax es env)).any (·.1)=false:=by
 induction es with
 |nil=>rfl
 |cons e es ih=>
  simp only[rY,eV,bN]at h;rw[qG h.1];exact ih h.2
def Fh (h:yY e=true):eG e tg n env=pure false:=by
 cases e<;>first |rfl |cases h
def Ey (h:wj e=true):fS op e=false:=by
 cases e<;>first |rfl |cases h
def GI (h:wj e=true) (x:aj):dG e env x=pure x:=by
 cases e<;>first |rfl |cases h
def Ly (h:L4 e=true):Cv e:=λo i=>by
 cases e<;>first |rfl |cases h
def yk (h:F5 e=true):cB e m env t=t:=by
 cases e with
 |Call f as ks p=>
  cases as with
  |nil=>cases h
  |cons a as=>cases f<;>rfl
 |_=>rfl
structure Tb where
  fn:ah→Option m8
  gl:ah→Option W
  bl:List ah
  xs:List ah
  ex:List (ah×ah)
  cn:bv→List ah
  dn:ah→Bool
  nt:ah→Bool
  cf:ah→Option ah
  me:ah→Option (ah×m8)
  mi:ah→Option m8
structure Cn where
  N:List ah
  sc:Scope
  fn:Bool
  calm:Bool
structure Rg where
  e:Cn→Expr→WE
  t:Cn→Expr→WT
  l:Cn→Expr→Option WL
  s:Cn→bi→WS
def oN {α β γ δ:Type}:α→β→γ→δ→Prop:=λ_ _ _ _=>False
def uY (x:ah):List ah→Nat→Option Nat
 | [],_=>none
 |y::r,i=>if x=y then aa i else uY x r (i+1)
theorem Kg:∀{N:List ah}{j i:Nat},uY x N j=aa i→j≤i∧N[i - j]? =aa x
 | [],_,_,h=>nomatch h
 |y::r,j,i,h=>by
  unfold uY at h;split at h
  ·cases h;subst x;exact⟨aA _,`s⟩
  ·obtain⟨h1,h2⟩:=Kg h;refine⟨`l,?_⟩;rw[show i - j=(i - (j+1))+1 by lia]
   exact h2
def Cn.vis (c:Cn) (x:ah):Bool:=(match c.sc.names.lookup x with
 |some .local |some .cell |some .free=>true
 |_=>false)&& !(x == ("__debug__" :ah))&& !(x == ("__classdict__" :ah))
def Cn.loc (c:Cn) (x:ah):Bool:=match c.sc.names.lookup x with
 |some .local=>true
 |some .cell=>c.fn
 |_=>false
def Cn.glo (c:Cn) (x:ah):Bool:=(match c.sc.names.lookup x with
 |some .globalImplicit=>true
 |_=>false)&& !(x == ("__debug__" :ah))
def pE {α β γ δ:Type}(b:Bool) (t:α→β→γ→δ→Prop):α→β→γ→δ→Prop:=bif b then t else oN
def iA (f:Expr→WE):List Expr→WA
 | []=>ae
 |e::es=>jX (f e) (iA f es)
def iO (f:Expr→WE) (o:Option Expr):WO:=o.elim oX λe=>oY (f e)
def v7 (f:bi→WS):List bi→WS
 | []=>oj
 |s::r=>bif r.isEmpty then f s else mV (f s) (v7 f r)
def Bd (o:BoolOp) (f:Expr→WE):List Expr→WE
 | []=>oN
 |e::r=>bif r.isEmpty then f e else match o with
  | .And=>wc (f e) (Bd o f r)
  | .Or=>O1 (f e) (Bd o f r)
def Ba (o:BoolOp) (f:Expr→WT):List Expr→WT
 | []=>oN
 |e::r=>bif r.isEmpty then f e else match o with
  | .And=>sU (f e) (Ba o f r)
  | .Or=>wa (f e) (Ba o f r)
def Cz (c:Cn) (x:ah):WG:=(uY x c.N 0).elim oN λk=>pE (c.loc x) (mU k)
def Cp (c:Cn):List Expr→WGs
 | []=>pS
 |e::r=>(eNm e).elim oN λx=>ow (Cz c x) (Cp c r)
def iG (c:Cn) (e:Expr):WG:=match e with
 | .Name x _=>Cz c x
 | .Tuple es _ _=>pE (rY es&&c.calm) (p6 (Cp c es))
 |_=>oN
noncomputable def Rb (T:Tb) (e:Expr):Bool:=(eNm e).elim false T.dn
noncomputable def V6 (T:Tb):Expr→Bool
 | .Call f _ _ _=>(eNm f).elim false T.nt
 |_=>false
def isT:Expr→Bool
 | .Tuple .. =>true
 |_=>false
def Fc:Expr→Bool
 | .Compare .. =>false
 | .UnaryOp o _ _=>decide (o≠ .Not)
 | .BoolOp .. =>false
 | .IfExp .. =>false
 |_=>true
noncomputable def iK:Const→Option W
 | .int n=>aa (.int n)
 | .bool b=>aa (.bl b)
 | .none=>aa .b_
 | .str x=>aa (.str x)
 |_=>none
noncomputable def Lc:Operator→Option W2
 | .Add=>aa oM
 | .Sub=>aa (rE λi j=> .int (i - j))
 | .Mult=>aa (oC qE λi j=> .int (i*j))
 | .FloorDiv=>aa (oC se λi j=> .int (i / j))
 | .Mod=>aa (oC (λ_ j=>0<j) λi j=> .int (i % j))
 | .Pow=>aa (oC A3 λi j=> .int (i ^ j.toNat))
 |_=>none
noncomputable def KY (d:Bool):CmpOp→Option W2
 | .Eq=>aa (pH false)
 | .NotEq=>aa (pH true)
 | .Lt=>aa wG
 | .LtE=>aa tf
 | .Gt=>aa uu
 | .GtE=>aa J_
 | .Is=>aa (p8 false)
 | .IsNot=>aa (p8 true)
 | .In=>aa (if d then xS false else uy false)
 | .NotIn=>aa (if d then xS true else uy true)
noncomputable def bA:List (ah×WF):=[("len",pF),("tuple",sE),("int",uE),("min",uL),("max",xI)]
noncomputable def bL:List (ah×WF):=[("tuple",v9),("all",ug),("sum",tQ),("dict",xu)]
noncomputable def mA:List (ah×(W→kB→Prop)×rV):=[("append",pZ,rh),("extend",pZ,v8),("count",pZ,yR)]
noncomputable def mL:List (ah×(W→kB→Prop)×rV):=[("extend",pZ,AE),("join",vB,yB)]
noncomputable def m0:List (ah×(W→kB→Prop)×rV):=[("upper",vB,Ak)]
noncomputable def M0:List (ah×String):=[("int", "int"),("bool", "bool"),("str", "str"),("tuple", "tuple"),("list", "list")]
section
variable (T:Tb) (i:Rg) (c:Cn)
noncomputable def Dw:Expr→Option WL
 | .Subscript a b _=>(G4 b).map λq=>vO (i.e c a) (iO (i.e c) q.1) (iO (i.e c) q.2)
 |_=>none
def Ca (a:Expr) (os:List CmpOp) (bs:List Expr):WE:=(rC os).elim (match bs with
 | []=>oN
 |b::r=>(rC r).elim oN λd=>pE (decide (os=[.LtE, .LtE])&&wj d) (xb tf tf (i.e c a) (i.e c b) (i.e c d))) λo=>(rC bs).elim oN λb=>(KY (Rb T b) o).elim oN λw=>pE (wj b&&c.calm) (kD w (i.e c a) (i.e c b))
noncomputable def LG (x:ah) (es:List Expr):Option WL:=(rC es).bind λa=>(i.l c a).elim (bif decide (x= "tuple") then Dw i c a else none) aa
def OD:List Expr→WE
 | []=>oN
 |a::r=>((rC r).bind eNm).elim oN λt=>(M0.lookup t).elim oN λs=>pE (c.glo t&&T.bl.contains t) (tq s (i.e c a))
def iB (x:ah) (es:List Expr):WE:=bif decide (x= "isinstance") then OD T i c es else((LG i c x es).bind λl=>(bL.lookup x).map λf=>qR f l).elim ((bA.lookup x).elim oN λf=>pE (!es.isEmpty) (wB f (iA (i.e c) es))) id
def iM (m:ah) (o:Expr):List Expr→WE
 | []=>(m0.lookup m).elim oN λq=>wM q.1 q.2 (i.e c o) ae
 |a::r=>pE r.isEmpty (((i.l c a).bind λl=>(mL.lookup m).map λq=>vH q.1 q.2 (i.e c o) l).elim ((mA.lookup m).elim oN λq=>wM q.1 q.2 (i.e c o) (iA (i.e c) [a])) id)
def ON (f:Expr) (es:List Expr) (p:bv):WE:=match f with
 | .Name x _=>pE (c.glo x&&rY es&&c.calm) ((T.fn x).elim (pE (T.bl.contains x) (iB T i c x es)) λs=>pE (!es.isEmpty) (m9 s (iA (i.e c) es)))
 | .Attribute o m ap=>pE (F5 o&&rY es&&(ap.endLine == p.line)) (iM i c m o es)
 |_=>oN
def ND (e:Expr):WE:=(i.l c e).elim (match e with
  | .Name x _=>(uY x c.N 0).elim ((T.gl x).elim oN λw=>pE (c.glo x) (wC w)) λk=>pE (c.vis x) (iu k)
  | .Constant v _ _=>(iK v).elim oN wC
  | .UnaryOp o a _=>(match o with
   | .Not=>bif V6 T a then zV (i.e c a) else Mw (i.e c a)
   | .USub=>rW (i.e c a)
   |_=>oN)
  | .BinOp a o b _=>(Lc o).elim oN λw=>kD w (i.e c a) (i.e c b)
  | .Compare a os bs _=>Ca T i c a os bs
  | .BoolOp o es _=>Bd o (i.e c) es
  | .IfExp t a b _=>AY (i.t c t) (i.e c a) (i.e c b)
  | .Tuple es _ _=>pE (rY es) (nD (iA (i.e c) es))
  | .Subscript a b _=>(G4 b).elim (pE (L4 b) ((i.l c a).elim (kD m4 (i.e c a) (i.e c b)) λl=>uQ l (i.e c b))) λq=>pf (i.e c a) (iO (i.e c) q.1) (iO (i.e c) q.2)
  | .Call f es ks p=>pE ks.isEmpty (ON T i c f es p)
  |_=>oN) nQ
def Mf (e:Expr):WT:=match e with
 | .Compare a os bs _=>(rC os).elim oN λ_=>n_ (Ca T i c a os bs)
 | .UnaryOp o a _=>bif decide (o= .Not) then tK (i.t c a) else pE (Fc e) (pW (i.e c e))
 | .BoolOp o es _=>Ba o (i.t c) es
 |e=>pE (Fc e) (pW (i.e c e))
noncomputable def J2 (tg:Expr) (x:ah) (es:List Expr):Option WI:=bif decide (x= "range") then(rC es).map λa=>ul (iA (i.e c) [a]) else bif decide (x= "enumerate")&&isT tg then(rC es).map λa=>t8 (i.e c a) else bif decide (x= "zip")&&isT tg then(match es with
 | []=>none
 |a::r=>(rC r).map λb=>uw (i.e c a) (i.e c b)) else none
def iI (tg e:Expr):WI:=((B8 e).bind λq=>bif c.glo q.1&&T.bl.contains q.1 then J2 i c tg q.1 q.2 else none).elim ((i.l c e).elim (oU (i.e c e)) Jq) id
noncomputable def FU (s:Scope) (c:Cn):Scope:={ s with names:=s.names.map λ(n,k)=>if(k == .free&&c.sc.kind == .function&&c.sc.names.lookup n == aa .cell) then(n, .cell) else(n,k) }
def Gd (s:Scope) (N:List ah) (k:Nat) (fr:List Nat):Bool:=decide (s.kind= .function)&&decide N.Nodup&&decide (N.length=k+fr.length)&&(s.names.all λy=>y.2 != cp)
 &&(s.names.all λy=>y.2 != ca.local || s.names.lookup y.1 == aa ca.local)&&(s.names.all λy=>y.2 != bc || c.sc.names.lookup y.1 == aa cp || c.sc.names.lookup y.1 == aa bc)
 &&((N.drop k).all λx=>s.names.lookup x == aa bc)&&decide (N.drop k=fr.map λj=>c.N.getD j eY)&&(fr.all λj=>decide (j<c.N.length))
def iC (q:Expr×Scope×bv×gK):WL:=
 let N:=T.cn q.2.2.1
 let fr:=(N.filter λx=>q.2.1.names.lookup x == aa bc).filterMap λx=>uY x c.N 0
 let d:Cn:=⟨N,FU q.2.1 c,false,true⟩
 pE (Gd c q.2.1 N (N.length - fr.length) fr&&wj q.2.2.2.iter&&c.calm) (pj (N.length - fr.length) fr (iI T i c q.2.2.2.target q.2.2.2.iter) (iG d q.2.2.2.target) (match q.2.2.2.ifs with
  | []=>pe
  |t::r=>pE r.isEmpty (i.t d t)) (i.e d q.1))
noncomputable def OY (e:Expr):Option WL:=match e with
 | .List es _=>bif rY es then aa (oo (iA (i.e c) es)) else none
 | .ListComp .. =>(Eo e).map (iC T i c)
 | .BinOp a o b _=>(match o with
  | .Mult=>(i.l c a).map λl=>yg l (i.e c b)
  | .Add=>(i.l c a).elim ((i.l c b).map λm=>(Dw i c a).elim (sY (i.e c a) m) λl=>u9 l m) λl=>aa (((i.l c b).elim (Dw i c b) aa).elim (xB l (i.e c b)) λm=>u9 l m)
  |_=>none)
 | .Call .. =>(B8 e).bind λq=>bif decide (q.1= "list")&&c.glo q.1&&T.bl.contains q.1 then(rC q.2).map λa=>A6 (i.e c a) else none
 |_=>none
def IH (tg e:Expr):WS:=match tg with
 | .Name x _=>(uY x c.N 0).elim oN λk=>pE (c.loc x) ((Eo e).elim (pE (yY e) (mS (i.e c e) (mU k))) λq=>mS (nQ (iC T i c q)) (mU k))
 | .Tuple .. =>pE (yY e&& !isT e) (mS (i.e c e) (iG c tg))
 |_=>oN
def LB (s:bi):WS:=match s with
 | .Return v _=>v.elim HJ λe=>nE (i.e c e)
 | .Pass _=>oj
 | .Expr e _=>pE (yY e) (pT (i.e c e))
 | .If t a b _=>om (i.t c t) (v7 (i.s c) a) (v7 (i.s c) b)
 | .While t b os _=>pE os.isEmpty (yf (i.t c t) (v7 (i.s c) b))
 | .For tg it b os _=>pE (os.isEmpty&&wj it&&c.calm) (pN (iI T i c tg it) (iG c tg) (v7 (i.s c) b))
 | .AugAssign t o e _=>pE (decide (o= .Add)) ((eNm t).elim oN λx=>(uY x c.N 0).elim oN λk=>pE (c.loc x) (xq k (λa b=>a+b) (i.e c e)))
 | .Assign ts e _=>(rC ts).elim oN λtg=>IH T i c tg e
 | .Raise v cs _=>(v.bind B8).elim oN λq=>pE (cs.isNone&&T.xs.contains q.1&&c.glo q.1&&c.calm) (vz q.1 (iA (i.e c) q.2))
 |_=>oN
end
noncomputable def Qd (T:Tb) (i:Rg):Rg:=⟨ND T i,Mf T i,OY T i,LB T i⟩
noncomputable def Yj:Rg:=⟨λ_ _=>oN,λ_ _=>oN,λ_ _=>none,λ_ _=>oN⟩
noncomputable def Eg (T:Tb):Nat→Rg
 |0=>Yj
 |n+1=>Qd T (Eg T n)
def T7 (T:Tb) (n k:Nat) (N:List ah) (st:bi):m8:=nY n k (v7 ((Eg T 40).s ⟨N,qQ st,true,true⟩) (t9 st))
structure En where
  eNm:ah
  st:bi
  N:List ah
  k:Nat
  c:Nat→m8
noncomputable def En.ps (e:En):List ah:=e.N.take e.k
noncomputable def En.ok (e:En):Bool:=decide ((qQ e.st).kind= .function)&& !(qQ e.st).isCoroutine&& !(qQ e.st).isGenerator&&decide e.N.Nodup&&decide (e.N.take e.ps.length=e.ps)&&decide (e.ps.length=e.k)&&decide (e.k≤6)
 &&(e.ps.all λx=>decide ((qQ e.st).names.lookup x=aa .local) || decide ((qQ e.st).names.lookup x=aa .cell))&&(qQ e.st).names.all λy=>y.2 != .free
noncomputable def En.bq (e:En) (q:ah) (kV doc pm:aj) (an:Option ai) (cdv ct:aj) (vs:List aj):ck (List (ah×aj)):=jf (du e.eNm q (vU e.st) (t9 e.st) (qQ e.st) .none kV doc pm an cdv ct) ⟨vs.take e.k,[]⟩
noncomputable def En.bd (e:En):aj→aj→aj→Option ai→aj→aj→List aj→ck (List (ah×aj)):=e.bq e.eNm
def En.rd (e:En) (T:Tb):m8:=T7 T e.N.length e.k e.N e.st
structure Em where
  l:ah
  q:ah
  e:En
noncomputable def yE (mt:List Em) (r:Nat) (x:ah):Option (ah×m8):=(mt.map λy=>(y.e.eNm,y.l,y.e.c r)).lookup x
noncomputable def GN (mt:List Em) (r:Nat) (x:ah):Option m8:=((mt.filter λy=>y.e.eNm == ("__init__" :ah)).map λy=>(y.l,y.e.c r)).lookup x
noncomputable def lkT (tab:List En) (r:Nat) (x:ah):Option m8:=(tab.map λe=>(e.eNm,e.c r)).lookup x
structure Glb (T:Tb) (r:Nat) (X:Cx):Prop where
  fn:∀x s,T.fn x=aa s→ ∃f fd ps,pi X.prog X.w X.K X.mg X.base (sC X.prog X.w) r f fd ps (sx X.K s)∧X.mg x=aa (.ref f)∧cU X.K (.ref f)=true∧pM X.K fd ps []
  gl:∀x w,T.gl x=aa w→(∃i u,w= .int i∧X.mg x=aa (.int i u))∨ ∃i u,w= .str i∧X.mg x=aa (.str i u)
  bl:∀x∈T.bl,X.mg x=none
  xs:∀x∈T.xs,∃C,rL X.K x C∧X.mg x=aa (.ref C)
  ex:∀p∈T.ex,∃C D,rL X.K p.1 C∧X.mg p.2=aa (.ref D)∧gL X.K (.ref C) (.ref D)=aa true
  cf:∀f l,T.cf f=aa l→ ∃C,bz X.K aY l=aa (aa (.ref C))∧vF X.K C∧NK X.K C f
  me:∀m q,T.me m=aa q→ ∃C f fd ps,bz X.K aY q.1=aa (aa (.ref C))∧vF X.K C∧D6 X.K C m f∧pi X.prog X.w X.K X.mg X.base (sC X.prog X.w) r f fd ps (sx X.K q.2)∧pM X.K fd ps []
  mi:∀x s,T.mi x=aa s→ ∃C f fd ps k,k+1≤r∧bz X.K aY x=aa (aa (.ref C))∧X.mg x=aa (.ref C)∧Mk X.K C f∧pi X.prog X.w X.K X.mg X.base (sC X.prog X.w) k f fd ps (sx X.K s)∧pM X.K fd ps []
structure oF (T:Tb) (r:Nat) (X:Cx) (c:Cn):Prop where
  g:Glb T r X
  N:X.N=c.N
  sc:X.env.scope=c.sc
  nd:c.N.Nodup
  fn:X.fn=λ_=>c.fn
  hr:c.calm=true→oV r X.A
  calm:X.calm=c.calm
  st:c.fn=true→X.stack=X.env::X.outer∧X.env.frame=aa X.env.locals
structure Rg.Ok (T:Tb) (r:Nat) (i:Rg):Prop where
  e:∀{X c e},oF T r X c→JE X e (i.e c e)
  t:∀{X c e},oF T r X c→JT X e (i.t c e)
  l:∀{X c e l},oF T r X c→i.l c e=aa l→JL X e l
  s:∀{X c s},oF T r X c→JS X s (i.s c s)
section
variable {T:Tb}{r:Nat}{X:Cx}{c:Cn}{i:Rg}{e a b:Expr}{es:List Expr}{x:ah}{pos p:bv}{k:Nat}
def sI:JE X e oN:=λ_ _ _ _ _ _ _ _ zz=>on zz λ_ _ _ _ _ h _=>h.elim
def FL:JT X e oN:=λ_ _ _ _ _ _ _ _ zz=>on zz λ_ _ _ _ _ h _=>h.elim
def Z7:JL X e oN:=λ_ _ _ _ _ _ _ _ zz=>on zz λ_ _ _ _ _ h _=>h.elim
def Cf:JG X e oN:=λ_ _ _ _ _ _ _ _ _ _ _ zz=>Dp zz λ_ _ _ _ _ _ _ h _=>h.elim
def Am:JS X s oN:=YA
def UZ:vq X es oN:=λ_ _ _ _ _ _ _ _ zz=>on zz λ_ _ _ _ _ h _=>h.elim
def oF.at_ (F:oF T r X c) (h:uY x c.N 0=aa k):X.N[k]? =aa x:=by rw[F.N];exact(Kg h).2
def oF.ndX (F:oF T r X c):X.N.Nodup:=by rw[F.N];exact F.nd
def oF.vis (F:oF T r X c) (h:c.vis x=true):wD X.env.scope x∧(x == ("__debug__" :ah))=false∧(x == ("__classdict__" :ah))=false:=by
 unfold Cn.vis at h;rw[bN,bN,ip,ip]at h;obtain⟨⟨h1,h2⟩,h3⟩:=h;refine⟨?_,h2,h3⟩;rw[F.sc];split at h1
 ·exact .inl ‹_›
 ·exact .inr (.inl ‹_›)
 ·exact .inr (.inr ‹_›)
 ·cases h1
def oF.loc (F:oF T r X c) (h:c.loc x=true):tZ X.env.scope x∧(X.fn x=true∨X.env.scope.names.lookup x=aa .local):=by
 unfold Cn.loc at h;rw[F.sc,F.fn];split at h
 ·exact⟨.inl ‹_›, .inr ‹_›⟩
 ·exact⟨.inr ‹_›, .inl h⟩
 ·cases h
def oF.glo (F:oF T r X c) (h:c.glo x=true):Gl X x∧(x == ("__debug__" :ah))=false:=by
 unfold Cn.glo at h;rw[bN,ip]at h;refine⟨?_,h.2⟩;unfold Gl bS.kindOf;rw[F.sc];have h1:=h.1;split at h1
 ·assumption
 ·cases h1
def oF.blt (F:oF T r X c) (h:T.bl.contains x=true):X.mg x=none:=F.g.bl x (hU.mp h)
def sG (h:rY (e::es)=true):xX e=true∧rY es=true:=by
 simpa [rY]using h
section
variable {α β γ δ:Type}{b:Bool}
def ut{t:α→β→γ→δ→Prop}{P:(α→β→γ→δ→Prop)→Prop}(h0:P oN) (h:b=true→P t):P (pE b t):=by
 cases b with
 |true=>exact h rfl
 |false=>exact h0
def qv{f:α→β}{P:β→Prop}(h0:o=none→P d) (h:∀a,o=aa a→P (f a)):P (o.elim d f):=by
 cases o with
 |none=>exact h0 rfl
 |some a=>exact h a rfl
def xG{P:α→Prop}(h0:b=false→P u) (h:b=true→P t):P (bif b then t else u):=by
 cases b with
 |true=>exact h rfl
 |false=>exact h0 rfl
def vt{t:Option α}{a:α}(h:(bif b then t else none)=aa a):b=true∧t=aa a:=by
 cases b with
 |true=>exact⟨rfl,h⟩
 |false=>cases h
def ux{f:α→β}(h:o.map f=aa y):∃a,o=aa a∧f a=y:=Option.map_eq_some_iff.mp h
def ve{o:Option α}{f:α→Option β}{y:β}(h:o.bind f=aa y):∃a,o=aa a∧f a=aa y:=Option.bind_eq_some_iff.mp h
def tG{l:List α}{a:α}(h:rC l=aa a):l=[a]:=by
 cases l with
 |nil=>cases h
 |cons x r=>
  obtain⟨h1,h2⟩:=vt h;cases h2;rw[dv.mp h1]
end
def vo{α:Type}{o:Option α}{f:α→WE}(h:∀a,o=aa a→JE X e (f a)):JE X e (o.elim oN f):=qv (P:=JE X e) (λ_=>sI) h
def sP{b:Bool}{t:WE}(h:b=true→JE X e t):JE X e (pE b t):=ut (P:=JE X e) sI h
def zH{α:Type}{s:bi}{o:Option α}{f:α→WS}(h:∀a,o=aa a→JS X s (f a)):JS X s (o.elim oN f):=qv (P:=JS X s) (λ_=>Am) h
def uC{b:Bool}{s:bi}{t:WS}(h:b=true→JS X s t):JS X s (pE b t):=ut (P:=JS X s) Am h
def v6{α:Type}{a:α}{P:Prop}(h:none=aa a):P:=nomatch h
def PN (h:isT e=true):∃es k p,e= .Tuple es k p:=by
 cases e with
 |Tuple es k p=>exact⟨es,k,p,rfl⟩
 |_=>exact absurd h c_
def oK{a b:Bool}(h:(a&&b)=true):a=true∧b=true:=bN _ _▸h
def BI (h:eNm e=aa x):∃p,e= .Name x p:=by
 cases e with
 |Name y p=>cases h;exact⟨_,rfl⟩
 |_=>exact v6 h
def DS{q:ah×List Expr}(h:B8 e=aa q):∃p p' a r,e= .Call (.Name q.1 p) (a::r) [] p'∧q.2=a::r∧rY (a::r)=true:=by
 cases e with
 |Call f es ks p'=>
  obtain⟨x,h1,h2⟩:=ve h;obtain⟨g2,h3⟩:=vt h2;obtain⟨g3,h4⟩:=oK g2;obtain⟨p,rfl⟩:=BI h1;cases h3;cases es with
  |nil=>cases h4
  |cons a r=>exact⟨p,p',a,r,by rw[dv.mp (oK g3).1],rfl,(oK g3).2⟩
 |_=>exact v6 h
def ML{q:Option Expr×Option Expr}(h:G4 e=aa q):∃p,e= .Slice q.1 q.2 none p:=by
 cases e with
 |Slice lo hi st p=>
  obtain⟨h1,h2⟩:=vt h;cases h2;cases st with
  |none=>exact⟨p,rfl⟩
  |some=>cases h1
 |_=>exact v6 h
def H_{q:Expr×Scope×bv×gK}(h:Eo e=aa q):e= .ListComp q.1 [⟨q.2.2.2.target,q.2.2.2.iter,q.2.2.2.ifs,0⟩] q.2.1 q.2.2.1:=by
 cases e with
 |ListComp e gs s p=>
  obtain⟨g,h1,h2⟩:=ve h;rw[tG h1];obtain⟨t,it,fs,n⟩:=g;dsimp only at h2;split at h2
  ·cases h2;subst n;rfl
  ·cases h2
 |_=>exact v6 h
theorem uj (ok:i.Ok T r) (F:oF T r X c):∀{es:List Expr},rY es=true→JA X es (iA (i.e c) es)
 | [],_=>T1
 |_::_,h=>ZO (ok.e F) (uj ok F (sG h).2) (qG (sG h).1)
def CM (ok:i.Ok T r) (F:oF T r X c):JO X o (iO (i.e c) o):=by
 cases o with
 |none=>exact ZF
 |some=>exact ZZ (ok.e F)
theorem xL (ok:i.Ok T r) (F:oF T r X c):∀{ss:List bi},t4 X ss (v7 (i.s c) ss)
 | []=>Qx
 |s::ss=>xG (P:=t4 X (s::ss)) (λ_=>UU (ok.s F) (xL ok F)) λh=>by rw[dv.mp h];exact UI (ok.s F)
theorem Ej (ok:i.Ok T r) (F:oF T r X c):∀{es:List Expr},JE X (.BoolOp o es pos) (Bd o (i.e c) es)
 | []=>sI
 | [_]=>Ym (ok.e F)
 |a::b::es=>by
  cases o
  ·exact Zm (ok.e F) (Ej ok F)
  ·exact Yo (ok.e F) (Ej ok F)
theorem D7 (ok:i.Ok T r) (F:oF T r X c):∀{o:BoolOp}{es:List Expr},JW X (.BoolOp o es pos) (Ba o (i.t c) es)
 |_,[]=>λ_ _ _ _ _ _ _ _ _ zz=>on zz λ_ _ _ _ _ h _=>h.elim
 | .And,[_]=>ZS (ok.t F)
 | .Or,[_]=>P5 (ok.t F)
 | .And,_::_::_=>Xy (ok.t F) (D7 ok F)
 | .Or,_::_::_=>Wt (ok.t F) (D7 ok F)
def CF (h:xX e=true):ci (e::es) env=(false,assign e env)::ci es env:=by
 cases e<;>first |rfl |cases h
def Nk (F:oF T r X c):JG X (.Name x pos) (Cz c x):=qv (P:=JG X (.Name x pos)) (λ_=>Cf) λk h=>ut Cf λq=>UA F.ndX (F.at_ h) (F.loc q).1 (F.loc q).2
def VQ{P:nj→kB→Prop}:Cz c x w σ S P→ ∃σ' S',P σ' S':=qv (P:=λ(t:WG)=>t w σ S P→ ∃σ' S',P σ' S') (λ_ h=>h.elim) λk _=>ut (P:=λ(t:WG)=>t w σ S P→ ∃σ' S',P σ' S') (λh=>h.elim) λ_ h=>⟨_,_,h⟩
def RZ:v0 X es oN:=λ_ _ _ _ _ _ _ _ _ _ _ zz=>Dp zz λ_ _ _ _ _ _ _ h _=>h.elim
theorem Lx (F:oF T r X c):∀{es:List Expr},rY es=true→v0 X es (Cp c es)∧(ci es X.env).length=es.length∧(ci es X.env).findIdx? (·.1)=none∧ ∀ws σ S P,Cp c es ws σ S P→ws.length=es.length
 | [],_=>⟨Z_,rfl,rfl,λws _ _ _ h=>by cases ws with |nil=>rfl |cons=>exact h.elim⟩
 |e::es,h=>by
  obtain⟨h1,h2⟩:=sG h;obtain⟨g1,g2,g3,g4⟩:=Lx F h2;refine⟨qv (P:=v0 X (e::es)) (λ_=>RZ) λx q=>?_,by rw[CF h1,aT,g2];rfl,by rw[CF h1,List.findIdx?_cons,g3];rfl,λws σ S P=>qv (P:=λ(t:WGs)=>t ws σ S P→ws.length=es.length+1) (λ_ h=>h.elim) λx q h=>?_⟩
  ·obtain⟨p,rfl⟩:=BI q;exact Vp (Nk F) g1 (by rw[CF h1];rfl)
  ·cases ws with
   |nil=>exact h.elim
   |cons w ws=>obtain⟨σ',S',q⟩:=VQ h;rw[aT,g4 _ _ _ _ q]
def B9 (F:oF T r X c):JG X e (iG c e):=by
 cases e with
 |Name=>exact Nk F
 |Tuple es k p=>
  refine ut (P:=JG X (.Tuple es k p)) Cf λh=>?_;obtain⟨g1,g2,g3,g4⟩:=Lx F (oK h).1;exact X_ g1 g4 g2 g3 (F.calm.trans (oK h).2)
 |_=>exact Cf
def UF (h:Lc o=aa w) (ha:JE X a ta) (hb:JE X b tb):JE X (.BinOp a o b pos) (kD w ta tb):=by
 cases o<;>cases h
 ·exact Xc ha hb
 ·exact Yw ha hb
 ·exact zDp ha hb
 ·exact zCC ha hb
 ·exact WV ha hb
 ·exact VG ha hb
def QJ (F:oF T r X c) (hc:c.calm=true) (h:KY d o=aa w):∃R,oI X (bF o) R∧rP X.K R w:=by
 have hu:=(F.hr hc).units;cases o<;>cases h
 ·exact⟨_,UJ `l,Hj⟩
 ·exact⟨_,Sq `l,Hj⟩
 ·exact⟨_,Vs,GJ⟩
 ·exact⟨_,tH.or GK,DD⟩
 ·exact⟨_,U8,GJ⟩
 ·exact⟨_,Ro,GJ⟩
 ·exact⟨_,YW,Rt⟩
 ·exact⟨_,Rv,Va⟩
 ·cases d
  ·exact⟨_,sZ.or (YC `l),λH x y wx wy S Q QW rx ry hS h hQ=>Je rx ry hS h hQ⟩
  ·exact⟨_,QG `l,Hq⟩
 ·cases d
  ·exact⟨_,rj.or (Uw `l),λH x y wx wy S Q QW rx ry hS h hQ=>Je rx ry hS h hQ⟩
  ·exact⟨_,Qb `l,Hq⟩
def UW (h:wj b=true):gB [.LtE, .LtE] [a,b]=false:=Ey (op:= .LtE) h
def Kb (ok:i.Ok T r) (F:oF T r X c) {os:List CmpOp}:JE X (.Compare a os bs pos) (Ca T i c a os bs)∧ ∀o,rC os=aa o→JT X (.Compare a os bs pos) (n_ (Ca T i c a os bs)):=by
 have no:JT X (.Compare a os bs pos) (n_ oN):=λ_ _ _ _ _ _ _ _ zz=>on zz λ_ _ _ _ _ h _=>h.elim;refine qv (P:=λt=>JE X (.Compare a os bs pos) t∧ ∀o,rC os=aa o→JT X (.Compare a os bs pos) (n_ t)) (λh=>⟨?_,λo q=>by rw[h]at q;cases q⟩) λo h=>?_
 ·cases bs with
  |nil=>exact sI
  |cons b s=>
   refine vo λd q=>sP λz=>?_;rw[tG q,of_decide_eq_true (oK z).1];exact PX (ok.e F) (ok.e F) (ok.e F) (UW (oK z).2)
 ·refine qv (P:=λt=>JE X (.Compare a os bs pos) t∧ ∀o,rC os=aa o→JT X (.Compare a os bs pos) (n_ t)) (λ_=>⟨sI,λ_ _=>no⟩) λb q=>qv (P:=λt=>JE X (.Compare a os bs pos) t∧ ∀o,rC os=aa o→JT X (.Compare a os bs pos) (n_ t)) (λ_=>⟨sI,λ_ _=>no⟩) λw z=>ut (P:=λt=>JE X (.Compare a os bs pos) t∧ ∀o,rC os=aa o→JT X (.Compare a os bs pos) (n_ t)) ⟨sI,λ_ _=>no⟩ λy=>?_;obtain⟨R,h1,h2⟩:=QJ F (oK y).2 z;rw[tG h,tG q];exact⟨R7 h1 h2 (ok.e F) (ok.e F) (Ey (oK y).1),λ_ _=>Ww h1 h2 (ok.e F) (ok.e F) (Ey (oK y).1)⟩
def F6 (ok:i.Ok T r) (F:oF T r X c) (h:Dw i c e=aa l):JL X e l:=by
 cases e with
 |Subscript a b p=>
  obtain⟨q,h1,rfl⟩:=ux h;obtain⟨p',rfl⟩:=ML h1;exact SC (ok.e F) (CM ok F) (CM ok F)
 |_=>exact v6 h
def UX (ok:i.Ok T r) (F:oF T r X c) (h:LG i c x es=aa l):∃a,es=[a]∧JL X a l:=by
 obtain⟨a,h1,h2⟩:=ve h;refine⟨a,tG h1,?_⟩;cases q:i.l c a with
 |none=>rw[q]at h2;exact F6 ok F (vt h2).2
 |some m=>rw[q]at h2;cases h2;exact ok.l F q
def tM{α:Type}{l:List (ah×α)}{y:α}(h:l.lookup x=aa y):(x,y)∈l:=by
 induction l with
 |nil=>cases h
 |cons p l ih=>
  obtain⟨z,w⟩:=p;rw[cy]at h;split at h
  ·cases h;rename_i e;rw[beq_iff_eq]at e;subst e;exact aI
  ·exact aG _ (ih h)
def Y4 (ok:i.Ok T r) (F:oF T r X c) (hg:Gl X "isinstance") (hm:X.mg "isinstance" =none) (hs:rY es=true):JE X (.Call (.Name "isinstance" p) es [] pos) (OD T i c es):=by
 cases es with
 |nil=>exact sI
 |cons a s=>
  refine vo λt q=>vo λs h1=>sP λh=>?_;obtain⟨b,q1,q2⟩:=ve q;obtain⟨p2,rfl⟩:=BI q2;rw[tG q1];have ha:=(sG hs).1;have hh:=tM h1;have k:=λT' hv hn hd hk=>YD (T':=T') (p:=p) (pos:=pos) hg hm (F.glo (oK h).1).1 (F.blt (oK h).2) hv (ok.e F (e:=a)) hn hd hk (qG ha) (p2:=p2);simp only[M0,aB,dS,bo,or_false]at hh;obtain ⟨rfl,rfl⟩ |⟨rfl,rfl⟩ |⟨rfl,rfl⟩ |⟨rfl,rfl⟩ |⟨rfl,rfl⟩:=hh
  ·exact k _ boot_int `d `d (zQ _ `s)
  ·exact k _ boot_bool `d `d (zQ _ `s)
  ·exact k _ boot_str `d `d (zQ _ `s)
  ·exact k _ boot_tuple `d `d (zQ _ `s)
  ·exact k _ boot_list `d `d (zQ _ `s)
def T3 (ok:i.Ok T r) (F:oF T r X c) (hg:Gl X x) (hm:X.mg x=none) (hs:rY es=true) (hc:c.calm=true):JE X (.Call (.Name x p) es [] pos) (iB T i c x es):=by
 have cl:=F.calm.trans hc;refine xG (P:=JE X _) (λ_=>qv (P:=JE X _) (λ_=>vo λf h2=>sP λq=>?_) λt h=>?_) λh=>?_
 ·cases es with
  |nil=>cases q
  |cons a as=>
   obtain⟨ha,hb⟩:=sG hs;have hh:=tM h2;have ia:=uj ok F hs;have sa:=qG (es:=as) (env:=X.env) ha;have sb:=Ga (pos:=pos) (env:=X.env) hb;simp only[bA,aB,dS,bo,or_false]at hh;obtain ⟨rfl,rfl⟩ |⟨rfl,rfl⟩ |⟨rfl,rfl⟩ |⟨rfl,rfl⟩ |⟨rfl,rfl⟩:=hh
   ·exact Ys hg hm ia sa sb
   ·exact ZB hg hm ia sa sb
   ·exact Zp hg hm ia sa sb
   ·exact Q5 hg hm ia sa sb cl
   ·exact Wh hg hm ia sa sb cl
 ·obtain⟨l,h1,h3⟩:=ve h;obtain⟨f,h2,rfl⟩:=ux h3;obtain⟨a,rfl,hl⟩:=UX ok F h1;have sa:=qG (es:=[]) (env:=X.env) (sG hs).1;have hh:=tM h2;simp only[bL,aB,dS,bo,or_false]at hh;obtain ⟨rfl,rfl⟩ |⟨rfl,rfl⟩ |⟨rfl,rfl⟩ |⟨rfl,rfl⟩:=hh
  ·exact Th hg hm hl sa rfl
  ·exact Qe hg hm hl sa rfl cl
  ·exact Us hg hm hl sa rfl cl
  ·exact zvv (F.hr hc) hg hm hl sa rfl cl
 ·cases of_decide_eq_true h;exact Y4 ok F hg hm hs
def A7 (h:xX a=true):((aZ pos (ax [a] env)).all (λx=> !x.1)&&(dg pos (dh [] env)).all (λx=>x.1.isSome)&&decide ([a].length+([]:List bY).length+(if([]:List bY).isEmpty then 0 else 1)<30))=true:=by
 rw[qG h];rfl
def YT (ok:i.Ok T r) (F:oF T r X c) (hz:F5 o=true) (hs:rY es=true) (hl:(ap.endLine == pos.line)=true):JE X (.Call (.Attribute o m ap) es [] pos) (iM i c m o es):=by
 cases es with
 |nil=>
  refine vo λq h=>?_;have hh:=tM h;simp only[m0,aB,dS,bo,or_false]at hh;obtain⟨rfl,rfl⟩:=hh;exact Sc (ok.e F) (yk hz) hl
 |cons a as=>
  have ha:=(sG hs).1;refine sP λz=>?_;rw[dv.mp z]at hs⊢;refine qv (P:=JE X _) (λ_=>vo λq h=>?_) λt h=>?_
  ·have hh:=tM h;simp only[mA,aB,dS,bo,or_false]at hh;obtain ⟨rfl,rfl⟩ |⟨rfl,rfl⟩ |⟨rfl,rfl⟩:=hh
   ·exact RS (ok.e F) (uj ok F hs) (yk hz) (A7 ha) hl (qG ha) rfl
   ·exact QP (ok.e F) (uj ok F hs) (yk hz) (A7 ha) hl (qG ha) rfl
   ·exact VW (ok.e F) (uj ok F hs) (yk hz) (A7 ha) hl (qG ha) rfl
  ·obtain⟨l,h1,h2⟩:=ve h;obtain⟨q,h3,rfl⟩:=ux h2;have hh:=tM h3;simp only[mL,aB,dS,bo,or_false]at hh;obtain ⟨rfl,rfl⟩ |⟨rfl,rfl⟩:=hh
   ·exact zpr (ok.e F) (ok.l F h1) (yk hz) (A7 ha) hl (qG ha) rfl
   ·exact zui (ok.e F) (ok.l F h1) (yk hz) (A7 ha) hl (qG ha) rfl
def US (ok:i.Ok T r) (F:oF T r X c):JE X (.Call f es [] pos) (ON T i c f es pos):=by
 cases f with
 |Name x p=>
  refine sP λh=>?_;obtain⟨h,h3⟩:=oK h;obtain⟨h1,h2⟩:=oK h;obtain⟨g1,g2⟩:=F.glo h1;refine qv (P:=JE X _) (λ_=>sP λh=>T3 ok F g1 (F.blt h) h2 h3) λs q=>sP λh=>?_;obtain⟨f,fd,ps,k1,k2,k3,k4⟩:=F.g.fn _ _ q;cases es with
  |nil=>cases h
  |cons a as=>exact S_ k1 (F.hr h3) g1 k2 k3 k4 (uj ok F h2) g2 (qG (sG h2).1) (Ga (sG h2).2)
 |Attribute o m ap=>exact sP λh=>YT ok F (oK (oK h).1).1 (oK (oK h).1).2 (oK h).2
 |_=>exact sI
def Vw (ok:i.Ok T r) (F:oF T r X c):JE X e (ND T i c e):=by
 refine qv (P:=JE X e) (λ_=>?_) λl h=>J9 (ok.l F h);cases e with
 |Name x p=>
  refine qv (P:=JE X _) (λ_=>vo λw h=>sP λq=>?_) λk h=>sP λq=>?_
  ·obtain⟨h1,h2⟩:=F.glo q;obtain ⟨n,u,rfl,h3⟩ |⟨n,u,rfl,h3⟩:=F.g.gl _ _ h
   ·exact TF h1 h3 h2
   ·exact Ud h1 h3 h2
  ·obtain⟨h1,h2,h3⟩:=F.vis q;exact jv _ (F.at_ h) h1 h2 h3
 |Constant v k p=>
  cases v with
  |int=>exact Ur
  |bool=>exact R8
  |none=>exact Ve
  |str=>exact WU
  |_=>exact sI
 |UnaryOp o a p=>
  cases o with
  |Not=>exact xG (P:=JE X _) (λ_=>Sz (ok.e F)) λ_=>Uy (ok.e F)
  |USub=>exact zDj (ok.e F)
  |_=>exact sI
 |BinOp a o b p=>exact vo λw h=>UF h (ok.e F) (ok.e F)
 |Compare=>exact(Kb ok F).1
 |BoolOp=>exact Ej ok F
 |IfExp=>exact Ui (ok.t F) (ok.e F) (ok.e F)
 |Tuple es k p=>exact sP λh=>Zl (uj ok F h)
 |Subscript a b p=>
  refine qv (P:=JE X _) (λ_=>sP λh=>qv (P:=JE X _) (λ_=>U' (ok.e F) (ok.e F) (Ly h)) λl q=>Rz (ok.l F q) (ok.e F) (Ly h)) λq h=>?_;obtain⟨p',rfl⟩:=ML h;exact SU (ok.e F) (CM ok F) (CM ok F)
 |Call f es ks p=>exact sP λh=>by rw[dv.mp h];exact US ok F
 |_=>exact sI
def IN (ok:i.Ok T r) (F:oF T r X c):JT X e (pE (Fc e) (pW (i.e c e))):=ut (P:=JT X e) FL λh=>QE (ok.e F) λw=>by
 cases e with
 |UnaryOp o a p=>cases o<;>first |rfl |cases h
 |_=>first |rfl |cases h
def zAu (ok:i.Ok T r) (F:oF T r X c):JT X e (Mf T i c e):=by
 cases e with
 |Compare a os bs p=>exact qv (P:=JT X _) (λ_=>FL) λo h=>(Kb ok F).2 o h
 |UnaryOp o a p=>exact xG (P:=JT X _) (λ_=>IN ok F) λh=>by cases of_decide_eq_true h;exact UT (ok.t F)
 |BoolOp=>exact(D7 ok F).jt
 |_=>exact IN ok F
def D8 (ok:i.Ok T r) (F:oF T r X c):JI X tg e (iI T i c tg e):=by
 refine qv (P:=JI X tg e) (λ_=>qv (P:=JI X tg e) (λ_=>Rf (ok.e F)) λl h=>Uu (ok.l F h)) λt h=>?_;obtain⟨⟨x,es⟩,h1,h2⟩:=ve h;obtain⟨p,p',a,s,rfl,rfl,h3⟩:=DS h1;obtain⟨h2,h4⟩:=vt h2;obtain⟨q1,q2⟩:=oK h2;obtain⟨q3,q5⟩:=sG h3;have g1:=(F.glo q1).1;have g2:=F.blt q2;unfold J2 at h4
 revert h4
 refine xG (P:=λo=>o=aa t→JI X tg _ t) (λ_=>xG (P:=λo=>o=aa t→JI X tg _ t) (λ_ h=>?_) λz h=>?_) λz h=>?_
 ·obtain⟨z,h⟩:=vt h;obtain⟨z,z2⟩:=oK z;cases of_decide_eq_true z;obtain⟨b,y,rfl⟩:=ux h;cases tG y;have q4:=(sG q5).1;obtain⟨_,_,_,rfl⟩:=PN z2;exact TX g1 g2 (ok.e F) (ok.e F) (by rw[qG q3,qG q4];rfl) (qG q4) (qG q3) (qG q4)
 ·obtain⟨z,z2⟩:=oK z;cases of_decide_eq_true z;obtain⟨b,y,rfl⟩:=ux h;cases tG y;obtain⟨_,_,_,rfl⟩:=PN z2;exact Um g1 g2 (ok.e F) (qG q3) (qG q3)
 ·cases of_decide_eq_true z;obtain⟨b,y,rfl⟩:=ux h;cases tG y;exact P7 g1 g2 (uj ok F h3) (qG q3)
def Jz (F:oF T r X c) (h:Gd c s N k fr=true):nT X.nox s N k fr:=by
 simp only[Gd,bN,decide_eq_true_eq]at h;obtain⟨⟨⟨⟨⟨⟨⟨⟨h1,h2⟩,h3⟩,h4⟩,h5⟩,h6⟩,h7⟩,h8⟩,h9⟩:=h;refine⟨h1,h2,h3,h4,h5,?_,h7,?_,?_⟩
 ·show(s.names.all λy=>y.2 != bc || X.env.scope.names.lookup y.1 == aa cp || X.env.scope.names.lookup y.1 == aa bc)=true;rw[F.sc];exact h6
 ·show N.drop k=fr.map λj=>X.N.getD j eY;rw[F.N];exact h8
 ·show(fr.all λj=>decide (j<X.N.length))=true;rw[F.N];exact h9
def oF.nox (F:oF T r X c):oF T r X.nox c:=⟨⟨F.g.fn,F.g.gl,F.g.bl,F.g.xs,F.g.ex,F.g.cf,F.g.me,F.g.mi⟩,F.N,F.sc,F.nd,F.fn,F.hr,F.calm,F.st⟩
def oF.comp (F:oF T r X c) {s:Scope}{N:List ah}(hN:N.Nodup) (hc:c.calm=true) (s₀:aq) (H₀:Hp) (fp:List ai) (pn:List (ai×aJ)):oF T r (qj X.nox s N s₀ H₀ fp pn) ⟨N,FU s c,false,true⟩:=
 ⟨⟨F.g.fn,F.g.gl,F.g.bl,F.g.xs,F.g.ex,F.g.cf,F.g.me,F.g.mi⟩,rfl,(by show relabel s X.env=_;unfold relabel FU bS.kindOf;rw[F.sc]),hN,rfl,λ_=>F.hr hc,F.calm.trans hc,λh=>nomatch h⟩
def Nh (ok:i.Ok T r) (F:oF T r X c):vq X ifs (match ifs with
  | []=>pe
  |t::r=>pE r.isEmpty (i.t c t)):=by
 cases ifs with
 |nil=>exact Qq
 |cons t s=>exact ut (P:=vq X _) UZ λh=>by rw[dv.mp h];exact Qp (ok.t F)
def HB (ok:i.Ok T r) (F:oF T r X c) (q:Expr×Scope×bv×gK):JL X (.ListComp q.1 [⟨q.2.2.2.target,q.2.2.2.iter,q.2.2.2.ifs,0⟩] q.2.1 q.2.2.1) (iC T i c q):=by
 refine ut (P:=JL X _) Z7 λh=>?_;have S:=Jz F (oK (oK h).1).1;have F':=F.comp (s:=q.2.1) S.nd (oK h).2;exact Ru S (D8 ok F.nox) (λ_ _ _ _=>B9 (F' _ _ _ _)) (λ_ _ _ _=>Nh ok (F' _ _ _ _)) (λ_ _ _ _=>ok.e (F' _ _ _ _)) (GI (oK (oK h).1).2) (F.calm.trans (oK h).2)
def Zn (ok:i.Ok T r) (F:oF T r X c) (h:OY T i c e=aa l):JL X e l:=by
 cases e with
 |List es p=>obtain⟨h1,h2⟩:=vt h;cases h2;exact zAP (uj ok F h1)
 |ListComp=>obtain⟨q,h1,rfl⟩:=ux h;rw[H_ h1];exact HB ok F q
 |BinOp a o b p=>
  cases o with
  |Mult=>obtain⟨m,h1,rfl⟩:=ux h;exact RL (ok.l F h1) (ok.e F)
  |Add=>
   revert h
   refine qv (P:=λo=>o=aa l→JL X _ l) (λ_ h=>?_) λm q h=>?_
   ·obtain⟨m,h1,rfl⟩:=ux h;exact qv (P:=JL X _) (λ_=>Yd (ok.e F) (ok.l F h1)) λn z=>Po (F6 ok F z) (ok.l F h1)
   ·cases h;refine qv (P:=JL X _) (λ_=>SM (ok.l F q) (ok.e F)) λn z=>Po (ok.l F q) ?_
    revert z
    exact qv (P:=λo=>o=aa n→JL X b n) (λ_ h=>F6 ok F h) λk y h=>by cases h;exact ok.l F y
  |_=>exact v6 h
 |Call f es ks p=>
  obtain⟨⟨x,as⟩,h1,h2⟩:=ve h;obtain⟨p,p',a,s,e,rfl,h3⟩:=DS h1;obtain⟨h2,h4⟩:=vt h2;obtain⟨y,q2⟩:=oK h2;obtain⟨y,q1⟩:=oK y;cases of_decide_eq_true y;obtain⟨b,z,rfl⟩:=ux h4;cases tG z;rw[e];exact Ry (F.glo q1).1 (F.blt q2) (ok.e F) (qG (sG h3).1) rfl
 |_=>exact v6 h
def UG (h:yY e=true):jS [tg] e n env=pure false:=Fh h
def Rn (h:isT e=false):jk [.Tuple ts n p] e env=pure none:=by
 cases e<;>first |rfl |cases h
def Q0:JS X s (mS (nQ oN) g):=λ_ _ _ _ _ _ _ _ zz=>on zz λ_ _ _ _ _ h _=>h.elim
def zDk (ok:i.Ok T r) (F:oF T r X c):JS X (.Assign [tg] e pos) (IH T i c tg e):=by
 cases tg with
 |Name x p=>
  refine zH λk l0=>uC λl=>qv (P:=JS X _) (λ_=>uC λh=>?_) λq h=>?_
  ·exact Mb F.ndX (F.at_ l0) (F.loc l).1 (ok.e F) (Fh h) (F.loc l).2
  ·rw[H_ h];cases b:(X.env.blockKind == .function&&X.env.kindOf x == aa .local&&p.line == q.2.2.1.line&& !(q.2.1.names.any λ(n,k)=>n == x&&(k == .local || k == .cell))) with
   |false=>exact Mb F.ndX (F.at_ l0) (F.loc l).1 (J9 (HB ok F q)) (congrArg pure b) (F.loc l).2
   |true=>
    refine ut (P:=λt=>JS X _ (mS (nQ t) (mU k))) Q0 λh=>?_;have S:=Jz F (oK (oK h).1).1;have F':=F.comp (s:=q.2.1) S.nd (oK h).2;exact Rl F.ndX (F.at_ l0) (F.loc l).1 S (D8 ok F.nox) (λ_ _ _ _=>B9 (F' _ _ _ _)) (λ_ _ _ _=>Nh ok (F' _ _ _ _)) (λ_ _ _ _=>ok.e (F' _ _ _ _)) (congrArg pure b) (F.loc l).2 (GI (oK (oK h).1).2) (F.calm.trans (oK h).2)
 |Tuple es n p=>exact uC λh=>Z4 (ok.e F) (B9 F) (UG (oK h).1) (Rn (by have:=(oK h).2;simpa using this)) (by rw[CF rfl];rfl)
 |_=>exact Am
def ZG (ok:i.Ok T r) (F:oF T r X c):JS X s (LB T i c s):=by
 cases s with
 |Return v p=>
  cases v with
  |none=>exact Rk
  |some=>exact X8 (ok.e F)
 |Pass=>exact ZR
 |Expr e p=>exact uC λh=>SI (ok.e F) (Fh h)
 |If=>exact VS (ok.t F) (xL ok F) (xL ok F)
 |While t b os p=>exact uC λh=>by rw[dv.mp h];exact Tp (ok.t F) (xL ok F)
 |For tg it b os p=>exact uC λh=>by rw[dv.mp (oK (oK h).1).1];exact X7 (D8 ok F) (B9 F) (xL ok F) (F.calm.trans (oK h).2) (GI (oK (oK h).1).2)
 |AugAssign t o e p=>
  refine uC λh=>zH λx q=>zH λk l0=>uC λl=>?_;obtain⟨p',rfl⟩:=BI q;cases of_decide_eq_true h;exact VB F.ndX (F.at_ l0) (F.loc l).1 (ok.e F) (F.loc l).2
 |Assign ts e p=>exact zH λtg h=>by rw[tG h];exact zDk ok F
 |Raise v cs p=>
  refine zH λq h=>uC λz=>?_;obtain⟨e,rfl,h⟩:=ve h;obtain⟨p1,p2,a,s,rfl,h2,h3⟩:=DS h;obtain⟨z,z4⟩:=oK z;obtain⟨z,z3⟩:=oK z;obtain⟨z,z2⟩:=oK z;obtain⟨C,x1,x2⟩:=F.g.xs _ (hU.mp z2);rw[h2,Option.isNone_iff_eq_none.mp z];exact UL x1 (F.glo z3).1 x2 (uj ok F h3) (F.calm.trans z4) (F.glo z3).2 (qG (sG h3).1) (Ga (sG h3).2)
 |_=>exact Am
theorem KB:∀n,(Eg T n).Ok T r
 |0=>⟨λ_=>sI,λ_=>FL,(λ_ h=>nomatch h),λ_=>Am⟩
 |n+1=>have ok:=KB n;⟨Vw ok,zAu ok,λF h=>Zn ok F h,λF=>ZG ok F⟩
end
def En.sc{e:En}(h:e.ok=true):p4 e.N e.ps (qQ e.st)∧e.ps.length=e.k∧e.k≤6:=by
 simp only[En.ok,bN,decide_eq_true_eq,ip,cY,jr,bne_iff_ne]at h;obtain⟨⟨⟨⟨⟨⟨⟨⟨h1,h2⟩,h3⟩,h4⟩,h5⟩,h6⟩,h7⟩,h8⟩,h9⟩:=h;exact⟨⟨h1,h2,h3,h4,h5,h8,h9⟩,h6,h7⟩
def V1 (us:List aj) (h:us.length≤6):∃a b c d e f:aj,us=[a,b,c,d,e,f].take us.length:=by
 match us,h with
 | [],_=>exact⟨.none, .none, .none, .none, .none, .none,rfl⟩
 | [a],_=>exact⟨a, .none, .none, .none, .none, .none,rfl⟩
 | [a,b],_=>exact⟨a,b, .none, .none, .none, .none,rfl⟩
 | [a,b,c],_=>exact⟨a,b,c, .none, .none, .none,rfl⟩
 | [a,b,c,d],_=>exact⟨a,b,c,d, .none, .none,rfl⟩
 | [a,b,c,d,e],_=>exact⟨a,b,c,d,e, .none,rfl⟩
 | [a,b,c,d,e,f],_=>exact⟨a,b,c,d,e,f,rfl⟩
 |_::_::_::_::_::_::_::_,h=>simp at h
theorem On{α β:Type}:∀(a:List α) (b:List β),a.zip (b.take a.length)=a.zip b
 | [],_=>rfl
 |_::_,[]=>rfl
 |_::a,_::b=>congrArg (_:: ·) (On a b)
def CT{α β:Type}{l:List α}{f g:α→β}(h:l.map f=l.map g):∀e∈l,f e=g e:=by
 induction l with
 |nil=>intro e h;cases h
 |cons a l ih=>
  rw[az,az,fM]at h;intro e he;obtain rfl |he:=aB.mp he
  ·exact h.1
  ·exact ih h.2 e he
def Nb (h:lkT tab r x=aa s):∃e∈tab,e.eNm=x∧s=e.c r:=by
 have:=tM h;obtain⟨e,he,q⟩:=aL.mp this;cases q;exact⟨e,he,rfl,rfl⟩
def FQ (K:am) (eNm:ah) (st:bi):Prop:=∃f d,bz K aY eNm=aa (aa (.ref f))∧tU K eNm eNm st f d
def dfn{K:am}{st:bi}{kV doc pm cdv ct:aj}(a:bz K aY x=aa (aa (.ref f))) (l:K.lookup f=aa ⟨oc,od, .func (du x x (vU st) (t9 st) (qQ st) .none kV doc pm an cdv ct),osl⟩) (c:fK K cdv x=true) (k:cU K (.ref f)=true):FQ K x st:=⟨f,_,a,L9 l c k⟩
def Dv (K:am) (l m q:ah) (st:bi):Prop:=∃C f d,bz K aY l=aa (aa (.ref C))∧cx K (.ref C) m=aa (aa (.ref f))∧ie K (.ref f)=true∧tU K m q st f d
def dfM{K:am}{l m q:ah}{st:bi}{C f:ai}{oc:aj}{od an:Option ai}{osl:Array (Option aj)}{kV doc pm cdv ct:aj}(z:bz K aY l=aa (aa (.ref C))) (a:cx K (.ref C) m=aa (aa (.ref f))) (i:ie K (.ref f)=true) (lk:K.lookup f=aa ⟨oc,od, .func (du m q (vU st) (t9 st) (qQ st) .none kV doc pm an cdv ct),osl⟩) (c:fK K cdv q=true) (k:cU K (.ref f)=true):Dv K l m q st:=⟨C,f,_,z,a,i,L9 lk c k⟩
def Gs (K:am) (x:ah):Prop:=∃C,bz K aY x=aa (aa (.ref C))∧vF K C∧ik K C=true∧cU K (.ref C)=true
def klh{K:am}{x:ah}{C:ai}(a:bz K aY x=aa (aa (.ref C))) (b:iF K C eY=true) (c:lG K C=true) (d:kM K C=true) (e:cx K (.ref C) "__setattr__" =aa (aa (.builtin "object.__setattr__"))) (f:ik K C=true) (g:cU K (.ref C)=true):Gs K x:=⟨C,a,⟨b,c,d,e⟩,f,g⟩
def GR (K:am) (f l:ah):Prop:=∃C,bz K aY l=aa (aa (.ref C))∧cx K (.ref C) f=aa none
def nfh{K:am}{f l:ah}{C:ai}(a:bz K aY l=aa (aa (.ref C))) (b:cx K (.ref C) f=aa none):GR K f l:=⟨C,a,b⟩
section
variable {P:bb}{w:aQ}{K:am}{mg:ah→Option aj}{base:aF}{tab:List En}{mt:List Em}{B:Tb}
structure GF (tab:List En) (mt:List Em) (r:Nat) (F:ah→Option m8) (M:ah→Option (ah×m8)) (I:ah→Option m8):Prop where
  f:∀x s,F x=aa s→ ∃e∈tab,e.eNm=x∧ ∃j,j≤r∧s=e.c j
  m:∀x s,M x=aa s→ ∃y∈mt,y.e.eNm=x∧ ∃j,j≤r∧s=(y.l,y.e.c j)
  i:∀x s,I x=aa s→ ∃y∈mt,y.l=x∧y.e.eNm= "__init__" ∧ ∃j,j+1≤r∧s=y.e.c j
def BX (tab:List En) (mt:List Em) (B:Tb) (r:Nat) (e:En):Prop:=e.c (r+1)=nc∨ ∃F M I,GF tab mt r F M I∧e.c (r+1)=e.rd { B with fn:=F,me:=M,mi:=I }
structure tX (K:am) (mg:ah→Option aj) (tab:List En) (mt:List Em) (B:Tb):Prop where
  df:∀e∈tab,∃f d,mg e.eNm=aa (.ref f)∧tU K e.eNm e.eNm e.st f d
  dm:∀y∈mt,Dv K y.l y.e.eNm y.q y.e.st
  ok:∀e∈tab++mt.map Em.e,e.ok=true
  bd:∀kV doc pm an cdv ct a b c d e' f,∀e∈tab,e.bd kV doc pm an cdv ct [a,b,c,d,e',f]=pure (e.ps.zip [a,b,c,d,e',f])
  bm:∀kV doc pm an cdv ct a b c d e' f,∀y∈mt,y.e.bq y.q kV doc pm an cdv ct [a,b,c,d,e',f]=pure (y.e.ps.zip [a,b,c,d,e',f])
  c0:∀e∈tab++mt.map Em.e,e.c 0=nc
  rd:∀r,∀e∈tab++mt.map Em.e,BX tab mt B r e
  gl:∀x w,B.gl x=aa w→(∃i u,w= .int i∧mg x=aa (.int i u))∨ ∃i u,w= .str i∧mg x=aa (.str i u)
  bl:∀x∈B.bl,mg x=none
  xs:∀x∈B.xs,∃C,rL K x C∧mg x=aa (.ref C)
  ex:∀p∈B.ex,∃C D,rL K p.1 C∧mg p.2=aa (.ref D)∧gL K (.ref C) (.ref D)=aa true
  ks:∀y∈mt,∃C,bz K aY y.l=aa (aa (.ref C))∧vF K C∧ik K C=true∧cU K (.ref C)=true∧mg y.l=aa (.ref C)
  cf:∀f l,B.cf f=aa l→ ∃C,bz K aY l=aa (aa (.ref C))∧vF K C∧NK K C f
def Ei{e:En}{q:ah}(hk:e.ok=true) (h:∀kV doc pm an cdv ct a b c d e' f,e.bq q kV doc pm an cdv ct [a,b,c,d,e',f]=pure (e.ps.zip [a,b,c,d,e',f])) {f:ai}{d:c6}(F:tU K e.eNm q e.st f d):pM K d e.ps []:=F.binds λkV doc pm an cdv ct us hl=>by
 obtain⟨_,h1,h2⟩:=En.sc hk;obtain⟨a,b,c,d,e',f,z⟩:=V1 us `l;have:=h kV doc pm an cdv ct a b c d e' f;unfold En.bq at this;rw[←h1,←hl,←z]at this;rw[this,show e.ps.zip us=_ by rw[z,hl,On]]
theorem tX.fn (h:tX K mg tab mt B):∀r,∀e∈tab++mt.map Em.e,∀f d q,tU K e.eNm q e.st f d→pi P w K mg base (sC P w) r f d e.ps (sx K (e.c r)):=by
 intro r
 induction r using Nat.strongRecOn with
 |_ r ih=>
  intro e he f d qn F;cases r with
  |zero=>rw[h.c0 e he];exact MF
  |succ r=>
   obtain q |⟨G,M,I,hG,q⟩:=h.rd r e he
   ·rw[q];exact MF
   ·rw[q];obtain⟨S,h1,_⟩:=En.sc (h.ok e he);refine YZ F S rfl h1 λcdv A outer s H E hr=>xL (T:={ B with fn:=G,me:=M,mi:=I }) (r:=r) (KB 40) ⟨⟨λx s hx=>?_,h.gl,h.bl,h.xs,h.ex,h.cf,λx s hx=>?_,λx s hx=>?_⟩,rfl,rfl,S.nd,rfl,λ_=>hr,rfl,λ_=>⟨rfl,rfl⟩⟩
    ·obtain⟨e',he',rfl,j,hj,rfl⟩:=hG.f x s hx;obtain⟨f',d',m',F'⟩:=h.df e' he';have z:=eJ (mt.map Em.e) he';exact⟨f',d',e'.ps,(ih j `l e' z f' d' _ F').mono hj,m',F'.kp,Ei (h.ok _ z) (λkV doc pm an cdv ct a b c d e0 f=>h.bd kV doc pm an cdv ct a b c d e0 f _ he') F'⟩
    ·obtain⟨y,hy,rfl,j,hj,rfl⟩:=hG.m x s hx;obtain⟨C,f',d',n',a',i',F'⟩:=h.dm y hy;obtain⟨C',n2,k2,_⟩:=h.ks y hy;cases n'.symm.trans n2;have z:=cc tab (fu (f:=Em.e) hy);exact⟨C,f',d',y.e.ps,n',k2,⟨a',i',F'.kp⟩,(ih j `l y.e z f' d' _ F').mono hj,Ei (h.ok _ z) (λkV doc pm an cdv ct a b c d e0 f=>h.bm kV doc pm an cdv ct a b c d e0 f _ hy) F'⟩
    ·obtain⟨y,hy,rfl,e0,j,hj,rfl⟩:=hG.i x s hx;obtain⟨C,f',d',n',a',i',F'⟩:=h.dm y hy;obtain⟨C',n2,k2,k3,k4,k5⟩:=h.ks y hy;cases n'.symm.trans n2;have z:=cc tab (fu (f:=Em.e) hy);exact⟨C,f',d',y.e.ps,j,hj,n',k5,⟨k3,e0▸a',i',k4⟩,ih j `l y.e z f' d' _ F',Ei (h.ok _ z) (λkV doc pm an cdv ct a b c d e0 f=>h.bm kV doc pm an cdv ct a b c d e0 f _ hy) F'⟩
def wf (K:am):List En→Prop
 | []=>True
 |e::r=>FQ K e.eNm e.st∧wf K r
def wR (K:am):List Em→Prop
 | []=>True
 |y::r=>Dv K y.l y.e.eNm y.q y.e.st∧wR K r
def wP (K:am):List ah→Prop
 | []=>True
 |y::r=>Gs K y∧wP K r
def wS (K:am):List (ah×ah)→Prop
 | []=>True
 |p::r=>GR K p.1 p.2∧wS K r
def vZ (K:am):List ah→Prop
 | []=>True
 |x::r=>bz K aY x=aa none∧vZ K r
def GC (K:am) (x:ah) (w:W):Prop:=(∃i u,w= .int i∧bz K aY x=aa (aa (.int i u)))∨ ∃i u,w= .str i∧bz K aY x=aa (aa (.str i u))
def gln (h:bz K aY x=aa (aa (.int i u))):GC K x (.int i):= .inl ⟨i,u,rfl,h⟩
def w6 (K:am):List (ah×W)→Prop
 | []=>True
 |p::r=>GC K p.1 p.2∧w6 K r
def DY (K:am) (x:ah):Prop:=∃C,rL K x C
def xch (a:bz K aY x=aa (aa (.ref C))) (b:kR K C Cu "ValueError.__new__" =true) (c:cx K (.ref C) "__getattribute__" =aa (aa (.builtin "BaseException.__getattribute__"))) (d:cx K (.ref C) "__getattr__" =aa none) (e:cx K (.ref C) "__class__" =aa (aa (.builtin "object.__class__"))) (f:iQ K C (.type "object")=aa true) (g:iQ K C (.type "BaseException")=aa true):DY K x:=⟨C,a,b,c,d,e,f,g⟩
def vS (K:am):List ah→Prop
 | []=>True
 |x::r=>DY K x∧vS K r
def Ef (K:am) (x y:ah):Prop:=∃C D,bz K aY x=aa (aa (.ref C))∧bz K aY y=aa (aa (.ref D))∧gL K (.ref C) (.ref D)=aa true
def exh (a:bz K aY x=aa (aa (.ref C))) (b:bz K aY y=aa (aa (.ref D))) (c:gL K (.ref C) (.ref D)=aa true):Ef K x y:=⟨C,D,a,b,c⟩
def wH (K:am):List (ah×ah)→Prop
 | []=>True
 |p::r=>Ef K p.1 p.2∧wH K r
theorem wf.at_:∀{tab:List En},wf K tab→ ∀e∈tab,FQ K e.eNm e.st
 |e::_,h,z,m=>(aB.mp m).elim (λq=>q▸h.1) (wf.at_ h.2 z)
theorem wR.at_:∀{mt:List Em},wR K mt→ ∀y∈mt,Dv K y.l y.e.eNm y.q y.e.st
 |e::_,h,z,m=>(aB.mp m).elim (λq=>q▸h.1) (wR.at_ h.2 z)
theorem wP.at_:∀{l:List ah},wP K l→ ∀x∈l,Gs K x
 |e::_,h,z,m=>(aB.mp m).elim (λq=>q▸h.1) (wP.at_ h.2 z)
theorem wS.at_:∀{l:List (ah×ah)},wS K l→ ∀p∈l,GR K p.1 p.2
 |e::_,h,z,m=>(aB.mp m).elim (λq=>q▸h.1) (wS.at_ h.2 z)
theorem vZ.at_:∀{l:List ah},vZ K l→ ∀x∈l,bz K aY x=aa none
 |e::_,h,z,m=>(aB.mp m).elim (λq=>q▸h.1) (vZ.at_ h.2 z)
theorem w6.at_:∀{l:List (ah×W)},w6 K l→ ∀p∈l,GC K p.1 p.2
 |e::_,h,z,m=>(aB.mp m).elim (λq=>q▸h.1) (w6.at_ h.2 z)
theorem vS.at_:∀{l:List ah},vS K l→ ∀x∈l,DY K x
 |e::_,h,z,m=>(aB.mp m).elim (λq=>q▸h.1) (vS.at_ h.2 z)
theorem wH.at_:∀{l:List (ah×ah)},wH K l→ ∀p∈l,Ef K p.1 p.2
 |e::_,h,z,m=>(aB.mp m).elim (λq=>q▸h.1) (wH.at_ h.2 z)
def ZH{l:gY}{h:aF}{fa:ai}{gs:List (ah×W)}{ks:List ah}{fs:List (ah×ah)}{e0:En}{cl:Nat→m8}{room:Nat}(X:K.In h) (G:h.Ns aY mg) (hfa:mg "law" =aa (.ref fa)) (h0:e0∈tab) (hn:e0.eNm= "law") (hp:e0.ps=([("script" :ah)]:List ah)) (hc:e0.c=cl)
  (ok:(tab++mt.map Em.e).all En.ok=true) (bd:∀kV doc pm an cdv ct a b c d e' f,(tab.map λe=>e.bd kV doc pm an cdv ct [a,b,c,d,e',f])=tab.map λe=>pure (e.ps.zip [a,b,c,d,e',f]))
  (bm:∀kV doc pm an cdv ct a b c d e' f,(mt.map λy=>y.e.bq y.q kV doc pm an cdv ct [a,b,c,d,e',f])=mt.map λy=>pure (y.e.ps.zip [a,b,c,d,e',f]))
  (c0:((tab++mt.map Em.e).map λe=>e.c 0)=(tab++mt.map Em.e).map λ_=>nc) (rd:∀r,∀e∈tab++mt.map Em.e,BX tab mt B r e)
  (hg:B.gl=λx=>gs.lookup x) (hf:B.cf=λx=>fs.lookup x) (hx:∀p∈B.ex,p.1∈B.xs) (hk:∀y∈mt,y.l∈ks) (hh:∀p∈fs,p.2∈ks) (df:wf K tab) (bl:vZ K B.bl) (gl:w6 K gs) (xs:vS K B.xs) (ex:wH K B.ex) (dm:wR K mt) (kl:wP K ks) (nf:wS K fs) :
  ∃fd:c6,(∀(s:aq) (v:aj),fo s fd ⟨[v],[]⟩ [("script",v)])∧ ∀base:aF,K.In base→base.Ns aY mg→pi l.prog w K mg base (sC l.prog w) room fa fd ["script"] (sx K (cl room)):=by
 have wh:tX K mg tab mt B:=by
  refine⟨λe he=>?_,dm.at_,λe he=>cY.mp ok e he,λkV doc pm an cdv ct a b c d e' f=>CT (bd kV doc pm an cdv ct a b c d e' f),λkV doc pm an cdv ct a b c d e' f=>CT (bm kV doc pm an cdv ct a b c d e' f),CT c0,rd,λx v e=>?_,λx m=>PySem.W.mg_none_of X G (bl.at_ x m),λx m=>?_,λp m=>?_,λy hy=>?_,λf l e=>?_⟩
  ·obtain⟨f,d,a,F⟩:=df.at_ e he;exact⟨f,d,eP X G a,F⟩
  ·rw[hg]at e;obtain ⟨i,u,q,a⟩ |⟨i,u,q,a⟩:=gl.at_ _ (tM e)
   ·exact .inl ⟨i,u,q,eP X G a⟩
   ·exact .inr ⟨i,u,q,eP X G a⟩
  ·obtain⟨C,a⟩:=xs.at_ x m;exact⟨C,a,eP X G a.nm⟩
  ·obtain⟨C,a⟩:=xs.at_ _ (hx p m);obtain⟨C',D,b,c,d⟩:=ex.at_ p m;have:=a.nm.symm.trans b;cases this;exact⟨C,D,a,eP X G c,d⟩
  ·obtain⟨C,a,b,c,d⟩:=kl.at_ _ (hk y hy);exact⟨C,a,b,c,d,eP X G a⟩
  ·rw[hf]at e;have:=tM e;obtain⟨C,a,b,_⟩:=kl.at_ _ (hh _ this);obtain⟨C',a',c⟩:=nf.at_ _ this;cases a.symm.trans a';exact⟨C,a,b,c⟩
 obtain⟨f,d,m,F⟩:=wh.df e0 h0;rw[hn]at m;cases hfa.symm.trans m;have h1:=eJ (mt.map Em.e) h0;refine⟨d,λs v=>?_,λbase _ _=>?_⟩
 ·obtain⟨oc,od,kV,doc,pm,an,cdv,ct,osl,rfl,lkT,hcd⟩:=F.ex;have z:=wh.bd kV doc pm an cdv ct v v v v v v e0 h0;have k1:e0.k=1:=by have:=(En.sc (wh.ok e0 h1)).2.1;rw[hp]at this;exact this.symm
  unfold En.bd En.bq at z;rw[k1,hp]at z;exact .of_eq z
 ·have:=wh.fn (P:=l.prog) (w:=w) (base:=base) room e0 h1 fa d _ F;rw[hp,hc]at this;exact this
def Nf{r:Nat}{x:ah}{s:ah×m8}(h:yE mt r x=aa s):∃y∈mt,y.e.eNm=x∧s=(y.l,y.e.c r):=by
 obtain⟨e,he,q⟩:=aL.mp (tM h);cases q;exact⟨e,he,rfl,rfl⟩
def Qt{r:Nat}{x:ah}{s:m8}(h:GN mt r x=aa s):∃y∈mt,y.l=x∧y.e.eNm= "__init__" ∧s=y.e.c r:=by
 obtain⟨e,he,q⟩:=aL.mp (tM h);obtain⟨h1,h2⟩:=dA.mp he;cases q;exact⟨e,h1,rfl,beq_iff_eq.mp h2,rfl⟩
def TJ{r:Nat}:GF tab mt r (lkT tab r) (yE mt r) λ_=>none:=⟨λx s q=>let ⟨a,b,c,d⟩:=Nb q;⟨a,b,c,r,aA _,d⟩,λx s q=>let ⟨a,b,c,d⟩:=Nf q;⟨a,b,c,r,aA _,d⟩,λ_ _ q=>nomatch q⟩
def Xg{r:Nat}{n:ah}{s:m8}{e:En}(he:e∈tab) (hn:e.eNm=n) (hs:s=e.c r):GF tab mt (r+1) (λx=>if x=n then aa s else lkT tab (r+1) x) (yE mt (r+1)) (GN mt r):=⟨λx s' h=>by
  split at h
  ·cases h;exact⟨e,he,hn.trans (Eq.symm ‹_›),r,Nat.le_succ r,hs⟩
  ·obtain⟨a,b,c,d⟩:=Nb h;exact⟨a,b,c,r+1,aA _,d⟩,λx s q=>let ⟨a,b,c,d⟩:=Nf q;⟨a,b,c,r+1,aA _,d⟩,λx s q=>let ⟨a,b,c,d,e⟩:=Qt q;⟨a,b,c,d,r,aA _,e⟩⟩
def PM{u:List En}(r:Nat) (h:(u.map λe=>e.c (r+1))=u.map λe=>e.rd { B with fn:=lkT tab r,me:=yE mt r,mi:=λ_=>none }):∀e∈u,BX tab mt B r e:=λe he=> .inr ⟨_,_,_,TJ,CT h e he⟩
end
def yq:Nat→m8
 |0=>nc
 |r+1=>nY 1 1 (mV (om (pW (tq "int" (iu 0))) (nE (nD ae)) oj)
  (nE (pf (iu 0) (oY 1.0) oX)))
def Fb (r:Nat) (self:m8):WS:=(pT (wM pZ v8 (iu 1) {m9 (yq r) {iu 2}}))
def De:Nat→m8
 |0=>nc
 |r+1=>nY 3 1 (mV (mS (nQ (oo ae)) (mU 1))
  (mV (pN (oU (iu 0)) (mU 2) (Fb r nc))
  (nE (iu 1))))
def MY (r:Nat) (self:m8):WS:=(mV (xq 1 (λa b=>a+b) (wB pF {iu 3}))
  (mV (xq 2 (λa b=>a+b) 1.0)
  (mV (om (wa (n_ (kD uu (iu 1) 400.0)) (n_ (kD uu (iu 2) 40.0))) (nE (wC (.bl false))) oj)
  (mS (m9 (De r) {iu 3}) (mU 3)))))
def Ch:Nat→m8
 |0=>nc
 |r+1=>nY 4 1 (mV (mS 0.0 (mU 1))
  (mV (mS 0.0 (mU 2))
  (mV (mS (nQ (oo {iu 0})) (mU 3))
  (mV (yf (pW (iu 3)) (MY r nc))
  (nE (wC (.bl true)))))))
def Eh (r:Nat) (self:m8):WS:=(pT (m9 self {iu 4,kD oM (iu 1) (nD {iu 3}),iu 2}))
def vY:Nat→m8
 |0=>nc
 |r+1=>nY 5 3 (mV (pT (wM pZ rh (iu 2) {iu 1}))
  (pN (t8 (m9 (yq r) {iu 0})) (p6 (ow (mU 3) (ow (mU 4) pS))) (Eh r (vY r))))
def CL:Nat→m8
 |0=>nc
 |r+1=>nY 2 1 (mV (mS (nQ (oo ae)) (mU 1))
  (mV (pT (m9 (vY r) {iu 0,nD ae,iu 1}))
  (nE (iu 1))))
def Bn:Nat→m8
 |0=>nc
 |r+1=>nY 3 2 (mV (mS (m9 (yq r) {iu 0}) (mU 2))
  (mV (om (wa (n_ (kD wG (iu 1) 0.0)) (n_ (kD J_ (iu 1) (wB pF {iu 2})))) (vz "NoPlace" {wC (.str "there is no such place")}) oj)
  (nE (kD m4 (iu 2) (iu 1)))))
def Es (r:Nat) (self:m8):WS:=(mS (m9 (Bn r) {iu 2,iu 3}) (mU 2))
def yA:Nat→m8
 |0=>nc
 |r+1=>nY 4 2 (mV (mS (iu 0) (mU 2))
  (mV (pN (oU (iu 1)) (mU 3) (Es r nc))
  (nE (iu 2))))
def Qu (r:Nat) (self:m8):WE:=(iu 0)
def wW:Nat→m8
 |0=>nc
 |r+1=>nY 1 1 (nE (nQ (pj 1 [0] (oU (m9 (CL r) {iu 0})) (mU 0) (pW (tq "int" (m9 (yA r) {iu 1,iu 0}))) (Qu r nc))))
def MA (r:Nat) (self:m8):WE:=(m9 (yA r) {iu 1,iu 0})
def yO:Nat→m8
 |0=>nc
 |r+1=>nY 1 1 (nE (nQ (pj 1 [0] (oU (m9 (wW r) {iu 0})) (mU 0) pe (MA r nc))))
def Jj (r:Nat) (self:m8):WE:=(iu 0)
def BR:Nat→m8
 |0=>nc
 |r+1=>nY 2 2 (nE (nQ (pj 1 [1,0] (oU (m9 (wW r) {iu 0})) (mU 0) (n_ (kD (pH false) (m9 (yA r) {iu 2,iu 0}) (iu 1))) (Jj r nc))))
def L0 (r:Nat) (self:m8):WE:=(m9 self {iu 0,iu 1})
def vv:Nat→m8
 |0=>nc
 |r+1=>nY 2 2 (mV (om (pW (tq "int" (iu 0))) (nE (kD m4 (iu 1) (iu 0))) oj)
  (nE (kD oM (nD {kD m4 (iu 0) 0.0}) (qR v9 (pj 1 [1] (oU (pf (iu 0) (oY 1.0) oX)) (mU 0) pe (L0 r (vv r)))))))
def Bp:Nat→m8
 |0=>nc
 |r+1=>nY 2 2 (nE (wc (kD (pH false) (kD m4 (iu 0) 0.0) (kD m4 (iu 1) 0.0)) (kD (pH false) (wB pF {iu 0}) (wB pF {iu 1}))))
def Fx (r:Nat) (self:m8):WS:=(om (tK (pW (m9 self {iu 3,iu 4,iu 2}))) (nE (wC (.bl false))) oj)
def vK:Nat→m8
 |0=>nc
 |r+1=>nY 5 3 (mV (om (pW (tq "int" (iu 0))) (mV (pT (wM pZ rh (iu 2) {iu 1}))
  (nE (wC (.bl true)))) oj)
  (mV (om (tK (pW (m9 (Bp r) {iu 0,iu 1}))) (nE (wC (.bl false))) oj)
  (mV (pN (uw (pf (iu 0) (oY 1.0) oX) (pf (iu 1) (oY 1.0) oX)) (p6 (ow (mU 3) (ow (mU 4) pS))) (Fx r (vK r)))
  (nE (wC (.bl true))))))
def vd:Nat→m8
 |0=>nc
 |r+1=>nY 3 2 (mV (mS (nQ (oo ae)) (mU 2))
  (mV (om (pW (m9 (vK r) {iu 0,iu 1,iu 2})) (nE (iu 2)) oj)
  (nE (wC .b_))))
def Ho (r:Nat) (self:m8):WE:=(xb tf tf (wC (.str "a")) (iu 0) (wC (.str "z")))
def CI:Nat→m8
 |0=>nc
 |r+1=>nY 1 1 (nE (qR ug (pj 1 [] (oU (iu 0)) (mU 0) pe (Ho r nc))))
def Dh:Nat→m8
 |0=>nc
 |r+1=>nY 1 1 (nE (wc (xb tf tf 1.0 (wB pF {iu 0}) 8.0) (m9 (CI r) {iu 0})))
def MU (r:Nat) (self:m8):WS:=(om (n_ (kD (pH false) (kD m4 (iu 2) 0.0) (iu 1))) (nE (iu 2)) oj)
def tj:Nat→m8
 |0=>nc
 |r+1=>nY 3 2 (mV (pN (oU (iu 0)) (mU 2) (MU r nc))
  (nE (wC .b_)))
def Hg (r:Nat) (self:m8):WE:=(m9 self {iu 0})
def AM:Nat→m8
 |0=>nc
 |r+1=>nY 1 1 (nE (wc (m9 (Dh r) {kD m4 (iu 0) 0.0}) (qR ug (pj 1 [] (oU (pf (iu 0) (oY 1.0) oX)) (mU 0) pe (Hg r (AM r))))))
def AX:Nat→m8
 |0=>nc
 |r+1=>nY 1 1 (mV (om (tK (pW (m9 (Ch r) {iu 0}))) (vz "TooGreat" {wC (.str "the shape is not small")}) oj)
  (nE (iu 0)))
def Lh (r:Nat) (self:m8):WE:=(m9 self {iu 1,iu 0,iu 2})
def z_:Nat→m8
 |0=>nc
 |r+1=>nY 5 3 (mV (mS (nQ (pj 1 [0,2] (oU (pf (iu 1) (oY 1.0) oX)) (mU 0) pe (Lh r (z_ r)))) (mU 3))
  (mV (mS (m9 (tj r) {iu 0,kD m4 (iu 1) 0.0}) (mU 4))
  (mV (om (n_ (kD (p8 false) (iu 4) (wC .b_))) (nE (kD oM (nD {kD m4 (iu 1) 0.0}) (wB sE {iu 3}))) oj)
  (nE (m9 (vv r) {kD m4 (iu 4) (iu 2),iu 3})))))
def xl:Nat→m8
 |0=>nc
 |r+1=>nY 2 2 (nE (m9 (AX r) {m9 (z_ r) {iu 0,iu 1,2.0}}))
def Pp (r:Nat) (self:m8):WE:=(nD {iu 0})
def zg:Nat→m8
 |0=>nc
 |r+1=>nY 3 2 (mV (mS (m9 (tj r) {iu 0,kD m4 (iu 1) 0.0}) (mU 2))
  (mV (om (n_ (kD (p8 false) (iu 2) (wC .b_))) (nE (nQ (pj 1 [] (ul {kD (rE λi j=> .int (i - j)) (wB pF {iu 1}) 1.0}) (mU 0) pe (Pp r nc)))) oj)
  (nE (m9 (wW r) {kD m4 (iu 2) 1.0}))))
def IP (r:Nat) (self:m8):WS:=(om (n_ (kD (p8 true) (m9 (vd r) {kD m4 (iu 2) 1.0,iu 1}) (wC .b_))) (nE (iu 2)) oj)
def zS:Nat→m8
 |0=>nc
 |r+1=>nY 3 2 (mV (pN (oU (iu 0)) (mU 2) (IP r nc))
  (nE (wC .b_)))
def F3 (r:Nat) (self:m8):WS:=(pT (m9 self {iu 0,iu 6,kD oM (iu 2) (nD {iu 5}),iu 3}))
def yx:Nat→m8
 |0=>nc
 |r+1=>nY 7 4 (mV (mS (m9 (zS r) {iu 0,iu 1}) (mU 4))
  (mV (om (n_ (kD (p8 true) (iu 4) (wC .b_))) (pT (wM pZ rh (iu 3) {nD {iu 2,kD m4 (iu 4) 0.0}})) oj)
  (pN (t8 (pf (iu 1) (oY 1.0) oX)) (p6 (ow (mU 5) (ow (mU 6) pS))) (F3 r (yx r)))))
def uB:Nat→m8
 |0=>nc
 |r+1=>nY 3 2 (mV (mS (nQ (oo ae)) (mU 2))
  (mV (pT (m9 (yx r) {iu 0,iu 1,nD ae,iu 2}))
  (nE (iu 2))))
def KC (r:Nat) (self:m8):WE:=(kD m4 (iu 0) 0.0)
def xT:Nat→m8
 |0=>nc
 |r+1=>nY 1 1 (nE (nQ (pj 1 [] (oU (iu 0)) (mU 0) pe (KC r nc))))
def Bq:Nat→m8
 |0=>nc
 |r+1=>nY 3 2 (mV (mS (m9 (zS r) {iu 0,iu 1}) (mU 2))
  (nE (kD oM (nD {kD m4 (iu 2) 0.0}) (wB sE {m9 (vd r) {kD m4 (iu 2) 1.0,iu 1}}))))
def B6 (r:Nat) (self:m8):WS:=(pT (wM pZ rh (iu 5) {m9 self {iu 0,iu 7,kD oM (iu 2) (iu 6),iu 3}}))
def uR:Nat→m8
 |0=>nc
 |r+1=>nY 8 4 (mV (mS (AY (n_ (kD (xS false) (iu 2) (iu 3))) (m9 (Bq r) {iu 0,iu 1}) (iu 1)) (mU 4))
  (mV (mS (nQ (oo ae)) (mU 5))
  (mV (pN (uw (m9 (zg r) {iu 0,iu 4}) (pf (iu 4) (oY 1.0) oX)) (p6 (ow (mU 6) (ow (mU 7) pS))) (B6 r (uR r)))
  (nE (kD oM (nD {kD m4 (iu 4) 0.0}) (wB sE {iu 5}))))))
def O6 (r:Nat) (self:m8):WE:=(nD {iu 0,wC (.bl true)})
def xZ:Nat→m8
 |0=>nc
 |r+1=>nY 3 3 (nE (m9 (uR r) {iu 0,iu 1,nD ae,qR xu (pj 1 [] (oU (iu 2)) (mU 0) pe (O6 r nc))}))
def NB (r:Nat) (self:m8):WS:=(om (n_ (kD (uy true) (iu 4) (iu 3))) (vz "NoUse" {wC (.str "no use is open at one of the places")}) oj)
def AV:Nat→m8
 |0=>nc
 |r+1=>nY 5 3 (mV (mS (m9 (xT r) {m9 (uB r) {iu 0,iu 1}}) (mU 3))
  (mV (pN (oU (iu 2)) (mU 4) (NB r nc))
  (nE (m9 (xZ r) {iu 0,iu 1,iu 2}))))
def C3:Nat→m8
 |0=>nc
 |r+1=>nY 2 2 (nE (m9 (xZ r) {iu 0,iu 1,m9 (xT r) {m9 (uB r) {iu 0,iu 1}}}))
def D9 (r:Nat) (self:m8):WE:=(m9 self {iu 2,iu 0,iu 1})
def ui:Nat→m8
 |0=>nc
 |r+1=>nY 8 3 (mV (mS (m9 (tj r) {iu 0,kD m4 (iu 1) 0.0}) (mU 3))
  (mV (mS (m9 (tj r) {iu 0,kD m4 (iu 2) 0.0}) (mU 4))
  (mV (mS (pf (iu 1) (oY 1.0) oX) (mU 5))
  (mV (mS (pf (iu 2) (oY 1.0) oX) (mU 6))
  (mV (om (sU (n_ (kD (p8 false) (iu 3) (wC .b_))) (n_ (kD (p8 true) (iu 4) (wC .b_)))) (mS (m9 (vd r) {kD m4 (iu 4) 1.0,iu 1}) (mU 5)) oj)
  (mV (om (sU (n_ (kD (p8 true) (iu 3) (wC .b_))) (n_ (kD (p8 false) (iu 4) (wC .b_)))) (mS (m9 (vd r) {kD m4 (iu 3) 1.0,iu 2}) (mU 6)) oj)
  (mV (mS (nQ (pj 2 [0] (uw (iu 5) (iu 6)) (p6 (ow (mU 0) (ow (mU 1) pS))) pe (D9 r (ui r)))) (mU 7))
  (mV (om (n_ (kD (p8 false) (iu 4) (wC .b_))) (nE (kD oM (nD {kD m4 (iu 1) 0.0}) (wB sE {iu 7}))) oj)
  (nE (m9 (vv r) {kD m4 (iu 4) 2.0,iu 7}))))))))))
def O2 (r:Nat):WS:=(nE (m9 (xl r) {iu 0,kD m4 (kD m4 (iu 1) 1.0) (rW 1.0)}))
def KJ (r:Nat) (T:WS):WS:=(mV (om (tK (pW (kD m4 (iu 1) 1.0))) (nE (kD m4 (iu 1) 0.0)) oj) T)
def Bk:Nat→m8
 |0=>nc
 |r+1=>nY 2 2 (KJ r (O2 r))
def FC (r:Nat) (self:m8):WS:=(pT (m9 (xl r) {iu 0,iu 2}))
def vL:Nat→m8
 |0=>nc
 |r+1=>nY 3 2 (pN (oU (iu 1)) (mU 2) (FC r nc))
def L3 (r:Nat):WS:=(nE (iu 3))
def J4 (r:Nat):WS:=(pT (wM pZ rh (iu 3) {iu 5}))
def J6 (r:Nat) (T:WS):WS:=(mV (pT (m9 (vL r) {iu 0,nQ (oo {iu 5})})) T)
def KS (r:Nat) (T:WS):WS:=(mV (mS (m9 (ui r) {iu 0,kD m4 (iu 3) (rW 1.0),iu 4}) (mU 5)) T)
def FR (r:Nat) (self:m8):WS:=(KS r (J6 r (J4 r)))
def Hl (r:Nat) (T:WS):WS:=(mV (pN (oU (iu 2)) (mU 4) (FR r nc)) T)
def Kh (r:Nat) (T:WS):WS:=(mV (mS (nQ (oo {iu 1})) (mU 3)) T)
def yn:Nat→m8
 |0=>nc
 |r+1=>nY 6 3 (Kh r (Hl r (L3 r)))
def M5 (r:Nat):WS:=(nE (nD {iu 3,iu 5}))
def Nj (r:Nat) (self:m8):WE:=(m9 (ui r) {iu 2,iu 0,iu 1})
def Fw (r:Nat):WS:=(pT (wM pZ rh (iu 5) {iu 4}))
def Ek (r:Nat) (T:WS):WS:=(mV (pT (wM pZ rh (iu 3) {iu 7})) T)
def Ff (r:Nat) (T:WS):WS:=(mV (mS (nQ (pj 2 [0] (uw (iu 4) (iu 7)) (p6 (ow (mU 0) (ow (mU 1) pS))) pe (Nj r nc))) (mU 4)) T)
def JB (r:Nat) (T:WS):WS:=(mV (mS (m9 (yn r) {iu 0,iu 6,iu 4}) (mU 7)) T)
def EU (r:Nat) (self:m8):WS:=(JB r (Ff r (Ek r (Fw r))))
def Oj (r:Nat) (T:WS):WS:=(mV (pN (oU (kD m4 (iu 1) 1.0)) (mU 6) (EU r nc)) T)
def Eb (r:Nat) (T:WS):WS:=(mV (mS (nQ (oo {iu 4})) (mU 5)) T)
def DG (r:Nat) (T:WS):WS:=(mV (mS (nQ (A6 (kD m4 (iu 2) 1.0))) (mU 4)) T)
def Fz (r:Nat) (T:WS):WS:=(mV (mS (nQ (oo ae)) (mU 3)) T)
def MZ (r:Nat) (T:WS):WS:=(mV (pT (m9 (vL r) {iu 0,kD m4 (iu 2) 1.0})) T)
def Nx (r:Nat) (T:WS):WS:=(mV (pT (m9 (vL r) {iu 0,kD m4 (iu 1) 1.0})) T)
def EA (r:Nat) (T:WS):WS:=(mV (pT (m9 (AX r) {kD m4 (iu 1) 0.0})) T)
def Iu (r:Nat) (T:WS):WS:=(mV (om (n_ (kD (pH true) (kD m4 (iu 1) 0.0) (kD m4 (iu 2) 0.0))) (vz "Apart" {wC (.str "the roads are not from one shape")}) oj) T)
def z9:Nat→m8
 |0=>nc
 |r+1=>nY 8 3 (Iu r (EA r (Nx r (MZ r (Fz r (DG r (Eb r (Oj r (M5 r)))))))))
def IZ (r:Nat) (self:m8):WE:=(kD m4 (iu 0) (rW 1.0))
def zD:Nat→m8
 |0=>nc
 |r+1=>nY 1 1 (nE (nQ (pj 1 [] (oU (kD m4 (iu 0) 0.0)) (mU 0) pe (IZ r nc))))
def Kv (r:Nat):WS:=(nE (nD {m9 (Bk r) {iu 0,iu 2},iu 3}))
def Lb (r:Nat) (T:WS):WS:=(mV (mS (m9 (zD r) {m9 (z9 r) {iu 0,iu 1,iu 2}}) (mU 3)) T)
def Ab:Nat→m8
 |0=>nc
 |r+1=>nY 4 3 (Lb r (Kv r))
def JF (r:Nat) (self:m8):WE:=(m9 (AM r) {iu 0})
def wA:Nat→m8
 |0=>nc
 |r+1=>nY 1 1 (nE (qR ug (pj 1 [] (oU (iu 0)) (mU 0) pe (JF r nc))))
def Cq:Nat→m8
 |0=>nc
 |r+1=>nY 3 3 (nE (m9 (wA r) {m9 (zD r) {m9 (z9 r) {iu 0,iu 1,iu 2}}}))
def Md (r:Nat) (self:m8):WS:=(mV (mS (m9 (C3 r) {iu 0,iu 4}) (mU 5))
  (mV (mS (m9 (xl r) {iu 0,iu 5}) (mU 4))
  (pT (wM pZ rh (iu 3) {iu 5}))))
def C2:Nat→m8
 |0=>nc
 |r+1=>nY 6 3 (mV (mS (nQ (oo ae)) (mU 3))
  (mV (mS (iu 1) (mU 4))
  (mV (yf (sU (n_ (kD wG (wB pF {iu 3}) (iu 2))) (pW (m9 (uB r) {iu 0,iu 4}))) (Md r nc))
  (nE (nD {nD {iu 1,iu 3},zV (m9 (uB r) {iu 0,iu 4})})))))
def EY (r:Nat) (self:m8):WE:=(m9 self {iu 2,iu 1})
def DE (r:Nat) (self:m8):WE:=(m9 self {iu 1,iu 0})
def tI:Nat→m8
 |0=>nc
 |r+1=>nY 4 2 (mV (mS (m9 (tj r) {iu 0,kD m4 (iu 1) 0.0}) (mU 2))
  (mV (om (n_ (kD (p8 false) (iu 2) (wC .b_))) (nE (qR tQ (pj 1 [0] (oU (pf (iu 1) (oY 1.0) oX)) (mU 0) pe (DE r (tI r))))) oj)
  (mV (mS (m9 (yO r) {kD m4 (iu 2) 2.0}) (mU 3))
  (nE (kD oM 1.0 (qR tQ (pj 2 [0,3] (t8 (pf (iu 1) (oY 1.0) oX)) (p6 (ow (mU 0) (ow (mU 1) pS))) (n_ (kD (uy false) (iu 0) (iu 3))) (EY r (tI r)))))))))
def DN (r:Nat) (self:m8):WE:=(kD (oC qE λi j=> .int (i*j)) (wB xI {1.0,wM pZ yR (iu 3) {iu 0}}) (m9 self {iu 2,iu 1}))
def DV (r:Nat) (self:m8):WE:=(m9 self {iu 1,iu 0})
def t7:Nat→m8
 |0=>nc
 |r+1=>nY 4 2 (mV (mS (m9 (tj r) {iu 0,kD m4 (iu 1) 0.0}) (mU 2))
  (mV (om (n_ (kD (p8 false) (iu 2) (wC .b_))) (nE (qR tQ (pj 1 [0] (oU (pf (iu 1) (oY 1.0) oX)) (mU 0) pe (DV r (t7 r))))) oj)
  (mV (mS (m9 (yO r) {kD m4 (iu 2) 2.0}) (mU 3))
  (nE (kD oM 1.0 (qR tQ (pj 2 [0,3] (t8 (pf (iu 1) (oY 1.0) oX)) (p6 (ow (mU 0) (ow (mU 1) pS))) pe (DN r (t7 r)))))))))
def HY (r:Nat) (self:m8):WE:=(kD oM (iu 1) (iu 0))
def Dz (r:Nat) (self:m8):WS:=(pT (vH pZ AE (iu 4) (pj 1 [8] (oU (iu 7)) (mU 0) pe (HY r nc))))
def yU (r:Nat) (self:m8):WS:=(om (n_ (kD (pH false) (pf (iu 2) oX (oY (wB pF {iu 6}))) (iu 6))) (mV (mS (m9 self {iu 0,kD m4 (iu 1) (kD oM (iu 5) 1.0),pf (iu 2) (oY (wB pF {iu 6})) oX}) (mU 7))
  (pN (oU (m9 (BR r) {kD m4 (iu 3) 2.0,iu 5})) (mU 8) (Dz r nc))) oj)
def C_ (cT:m8):Nat→m8
 |0=>nc
 |r+1=>nY 9 4 (mV (mS (nQ (oo ae)) (mU 4))
  (mV (pN (t8 (m9 (wW r) {kD m4 (iu 3) 1.0})) (p6 (ow (mU 5) (ow (mU 6) pS))) (yU r cT))
  (nE (iu 4))))
def MC (r:Nat) (self:m8):WE:=(kD oM (nD {iu 1}) (iu 0))
def rR:Nat→m8
 |0=>nc
 |1=>nc
 |r+2=>nY 5 3 (mV (mS (m9 (tj (r+1)) {iu 0,kD m4 (iu 1) 0.0}) (mU 3))
  (mV (om (n_ (kD (p8 true) (iu 3) (wC .b_))) (nE (m9 (C_ (rR r) (r+1)) {iu 0,iu 1,iu 2,iu 3})) oj)
  (mV (om (n_ (kD (pH false) (iu 2) (nD ae))) (nE (nQ (oo {nD ae}))) oj)
  (mV (mS (kD m4 (iu 2) 0.0) (mU 4))
  (nE (nQ (pj 1 [4] (oU (m9 (rR r) {iu 0,kD m4 (iu 1) (kD oM (iu 4) 1.0),pf (iu 2) (oY 1.0) oX})) (mU 0) pe (MC r nc))))))))
def DI (r:Nat) (self:m8):WS:=(pT (wM pZ v8 (iu 3) {m9 (rR r) {iu 0,iu 1,iu 4}}))
def yt:Nat→m8
 |0=>nc
 |r+1=>nY 5 3 (mV (mS (nQ (oo ae)) (mU 3))
  (mV (pN (oU (iu 2)) (mU 4) (DI r nc))
  (nE (iu 3))))
def Ed (r:Nat) (self:m8):WS:=(mS (m9 (yt r) {iu 0,iu 4,iu 3}) (mU 3))
def B5:Nat→m8
 |0=>nc
 |r+1=>nY 5 3 (mV (mS (nQ (oo {iu 1})) (mU 3))
  (mV (pN (oU (iu 2)) (mU 4) (Ed r nc))
  (nE (kD (pH false) (iu 3) (nQ (oo ae))))))
def LN (r:Nat) (self:m8):WS:=(om (pW (m9 (B5 r) {iu 0,iu 2,kD m4 (iu 1) 1.0})) (nE (iu 2)) oj)
def Bs:Nat→m8
 |0=>nc
 |r+1=>nY 3 2 (mV (pN (oU (m9 (xT r) {m9 (uB r) {iu 0,kD m4 (iu 1) 0.0}})) (mU 2) (LN r nc))
  (nE (wC .b_)))
def L' (r:Nat):WS:=(nE (iu 2))
def DJ (r:Nat):WS:=(mS (m9 (Ab r) {iu 0,iu 3,nD {kD m4 (iu 3) 0.0,nQ (oo {m9 (xZ r) {iu 0,kD m4 (iu 3) 0.0,nQ (oo {iu 4})}})}}) (mU 3))
def Gn (r:Nat) (T:WS):WS:=(mV (pT (wM pZ rh (iu 2) {iu 4})) T)
def Ex (r:Nat) (T:WS):WS:=(mV (mS (m9 (Bs r) {iu 0,iu 3}) (mU 4)) T)
def El (r:Nat) (T:WS):WS:=(mV (om (n_ (kD (pH false) (wB pF {iu 2}) 60.0)) (vz "TooGreat" {wC (.str "the standard row is too long")}) oj) T)
def Ki (r:Nat) (self:m8):WS:=(El r (Ex r (Gn r (DJ r))))
def MG (r:Nat) (T:WS):WS:=(mV (yf (tK (pW (m9 (wA r) {kD m4 (iu 3) 1.0}))) (Ki r nc)) T)
def M8 (r:Nat) (T:WS):WS:=(mV (mS (iu 1) (mU 3)) T)
def JU (r:Nat) (T:WS):WS:=(mV (mS (nQ (oo ae)) (mU 2)) T)
def zk:Nat→m8
 |0=>nc
 |r+1=>nY 5 2 (JU r (M8 r (MG r (L' r))))
def tT:Nat→m8
 |0=>nc
 |r+1=>nY 2 2 (mV (om (n_ (kD wG (iu 1) (wB pF {iu 0}))) (nE (kD m4 (iu 0) (iu 1))) oj)
  (nE 0.0))
def OM (r:Nat) (self:m8):WE:=(kD m4 (iu 1) (kD (oC (λ_ j=>0<j) λi j=> .int (i % j)) (kD oM (kD m4 (iu 2) (iu 0)) (kD (oC qE λi j=> .int (i*j)) (iu 3) (wB uE {kD (pH false) (iu 0) (iu 4)}))) 26.0))
def OT (r:Nat) (self:m8):WS:=(mV (mS (vH vB yB (wC (.str "")) (pj 1 [3,5,6,7] (ul {wB pF {iu 5}}) (mU 0) pe (OM r nc))) (mU 9))
  (mV (om (pW (iu 2)) (mS (kD oM (wM vB Ak (kD m4 (iu 9) 0.0) ae) (pf (iu 9) (oY 1.0) oX)) (mU 9)) oj)
  (pT (wM pZ rh (iu 8) {iu 9}))))
def Fg (r:Nat) (self:m8):WS:=(mV (pT (wM pZ rh (iu 5) {kD (oC (λ_ j=>0<j) λi j=> .int (i % j)) (iu 4) 26.0}))
  (mS (kD (oC se λi j=> .int (i / j)) (iu 4) 26.0) (mU 4)))
def Au:Nat→m8
 |0=>nc
 |r+1=>nY 10 3 (mV (mS (wC (.str "abcdefghijklmnopqrstuvwxyz")) (mU 3))
  (mV (mS (kD (oC (λ_ j=>0<j) λi j=> .int (i % j)) (iu 1) (kD (oC A3 λi j=> .int (i ^ j.toNat)) 26.0 8.0)) (mU 4))
  (mV (mS (nQ (oo ae)) (mU 5))
  (mV (pN (ul {kD oM 1.0 (kD (oC (λ_ j=>0<j) λi j=> .int (i % j)) (iu 0) 8.0)}) (mU 6) (Fg r nc))
  (mV (mS (kD (oC (λ_ j=>0<j) λi j=> .int (i % j)) (kD (oC se λi j=> .int (i / j)) (iu 0) 8.0) (wB pF {iu 5})) (mU 7))
  (mV (mS (nQ (oo ae)) (mU 8))
  (mV (pN (ul {6.0}) (mU 6) (OT r nc))
  (mV (om (sU (n_ (kD (pH false) (kD (oC (λ_ j=>0<j) λi j=> .int (i % j)) (kD (oC se λi j=> .int (i / j)) (iu 0) 64.0) 2.0) 1.0)) (tK (pW (iu 2)))) (mS (nQ (u9 (vO (iu 8) oX (oY 3.0)) (oo {kD m4 (iu 8) 2.0,kD m4 (iu 8) 2.0,kD m4 (iu 8) 5.0}))) (mU 8)) oj)
  (nE (iu 8))))))))))
def LY (r:Nat) (self:m8):WE:=(m9 self {iu 0})
def vp:Nat→m8
 |0=>nc
 |r+1=>nY 1 1 (mV (om (pW (tq "int" (iu 0))) (nE 1.0) oj)
  (nE (qR tQ (pj 1 [] (oU (pf (iu 0) (oY 1.0) oX)) (mU 0) pe (LY r (vp r))))))
def NJ (r:Nat) (self:m8):WE:=(m9 self {iu 0,iu 1})
def w9:Nat→m8
 |0=>nc
 |r+1=>nY 2 2 (mV (om (pW (tq "int" (iu 0))) (nE (kD m4 (iu 1) (iu 0))) oj)
  (nE (kD oM (pf (iu 0) oX (oY 1.0)) (qR v9 (pj 1 [1] (oU (pf (iu 0) (oY 1.0) oX)) (mU 0) pe (NJ r (w9 r)))))))
def Bz:Nat→m8
 |0=>nc
 |r+1=>nY 4 4 (mV (om (n_ (kD (pH false) (iu 0) 0.0)) (nE (nQ (oo {nD {iu 1,0.0}}))) oj)
  (mV (om (n_ (kD (pH false) (iu 0) 1.0)) (nE (nQ (oo {nD {iu 1,0.0,1.0}}))) oj)
  (mV (om (n_ (kD (pH false) (iu 0) 2.0)) (nE (nQ (oo {nD {iu 1,nD {iu 2}},nD {iu 1,nD {iu 3,0.0}}}))) oj)
  (mV (om (n_ (kD (pH false) (iu 0) 3.0)) (nE (nQ (oo {nD {iu 1,nD {iu 2},0.0},nD {iu 1,nD {iu 3,0.0},1.0}}))) oj)
  (mV (om (n_ (kD (pH false) (iu 0) 4.0)) (nE (nQ (oo {nD {iu 1,nD {iu 3,nD {iu 3,0.0}},1.0,2.0},nD {iu 1,nD {iu 3,nD {iu 2}},0.0,1.0}}))) oj)
  (nE (nQ (oo {nD {iu 1}}))))))))
def Cd:Nat→m8
 |0=>nc
 |r+1=>nY 4 3 (mV (om (n_ (kD (pH false) (iu 0) 0.0)) (nE (nQ (oo {nD {kD m4 (iu 1) 2.0},nD {kD m4 (iu 1) 5.0},nD {kD m4 (iu 1) 3.0,nD {kD m4 (iu 1) 5.0}}}))) oj)
  (mV (om (n_ (kD (pH false) (iu 0) 1.0)) (mV (mS (nQ (oo {0.0,nD {kD m4 (iu 1) 3.0,0.0},nD {kD m4 (iu 1) 4.0,0.0,0.0},nD {kD m4 (iu 1) 4.0,nD {kD m4 (iu 1) 3.0,0.0},nD {kD m4 (iu 1) 2.0}}})) (mU 3))
  (mV (om (pW (iu 2)) (nE (nQ (sY (iu 3) (oo {nD {kD m4 (iu 1) 0.0,0.0},nD {kD m4 (iu 1) 1.0,nD {kD m4 (iu 1) 3.0,0.0},0.0},nD {kD m4 (iu 1) 3.0,nD {kD m4 (iu 1) 0.0,0.0}}})))) oj)
  (nE (nQ (sY (iu 3) (oo {nD {kD m4 (iu 1) 2.0},nD {kD m4 (iu 1) 3.0,nD {kD m4 (iu 1) 5.0}}})))))) oj)
  (mV (om (n_ (kD (pH false) (iu 0) 3.0)) (mV (mS (nQ (oo {nD {kD m4 (iu 1) 4.0,nD {kD m4 (iu 1) 4.0,0.0,1.0},2.0},nD {kD m4 (iu 1) 4.0,2.0,nD {kD m4 (iu 1) 4.0,1.0,0.0}},nD {kD m4 (iu 1) 4.0,nD {kD m4 (iu 1) 4.0,0.0,0.0},nD {kD m4 (iu 1) 4.0,1.0,2.0}}})) (mU 3))
  (mV (om (pW (iu 2)) (nE (nQ (sY (iu 3) (oo {nD {kD m4 (iu 1) 0.0,nD {kD m4 (iu 1) 4.0,nD {kD m4 (iu 1) 4.0,2.0,0.0},1.0}},nD {kD m4 (iu 1) 1.0,1.0,nD {kD m4 (iu 1) 4.0,0.0,2.0}}})))) oj)
  (nE (nQ (sY (iu 3) (oo {0.0,2.0,nD {kD m4 (iu 1) 4.0,1.0,1.0},nD {kD m4 (iu 1) 5.0}})))))) oj)
  (mV (mS (nQ (oo {nD {kD m4 (iu 1) 4.0,0.0,1.0},nD {kD m4 (iu 1) 4.0,1.0,0.0},nD {kD m4 (iu 1) 4.0,nD {kD m4 (iu 1) 3.0,0.0},1.0},nD {kD m4 (iu 1) 4.0,nD {kD m4 (iu 1) 4.0,0.0,0.0},1.0}})) (mU 3))
  (mV (om (pW (iu 2)) (nE (nQ (sY (iu 3) (oo {nD {kD m4 (iu 1) 1.0,1.0,0.0},nD {kD m4 (iu 1) 0.0,nD {kD m4 (iu 1) 4.0,0.0,1.0}}})))) oj)
  (nE (nQ (sY (iu 3) (oo {0.0,1.0,nD {kD m4 (iu 1) 3.0,1.0},nD {kD m4 (iu 1) 5.0}})))))))))
def G6 (r:Nat) (self:m8):WS:=(mV (mS (m9 (Cd r) {m9 (vp r) {iu 9},iu 2,iu 4}) (mU 10))
  (mV (mS (m9 (tT r) {iu 0,kD oM (kD oM (kD oM (iu 1) 2.0) (kD (oC qE λi j=> .int (i*j)) 2.0 (iu 6))) (iu 8)}) (mU 11))
  (pT (wM pZ rh (iu 5) {nD {kD m4 (iu 3) (wB pF {iu 5}),iu 9,kD m4 (iu 10) (kD (oC (λ_ j=>0<j) λi j=> .int (i % j)) (iu 11) (wB pF {iu 10}))}}))))
def Lq (r:Nat) (self:m8):WS:=(mV (mS (m9 (Bz r) {kD (oC (λ_ j=>0<j) λi j=> .int (i % j)) (m9 (tT r) {iu 0,kD oM (iu 1) (iu 6)}) 6.0,kD m4 (iu 2) (iu 6),kD m4 (iu 2) 2.0,kD m4 (iu 2) 3.0}) (mU 7))
  (pN (t8 (iu 7)) (p6 (ow (mU 8) (ow (mU 9) pS))) (G6 r nc)))
def Dj:Nat→m8
 |0=>nc
 |r+1=>nY 12 5 (mV (mS (nQ (oo ae)) (mU 5))
  (mV (pN (ul {2.0}) (mU 6) (Lq r nc))
  (nE (iu 5))))
def Od (r:Nat) (self:m8):WS:=(mS (nQ (u9 (vO (iu 4) oX (oY (rW 2.0))) (oo {nD {rW 1.0,0.0,kD m4 (iu 2) 4.0,pf (iu 4) (oY (rW 2.0)) oX}}))) (mU 4))
def He (r:Nat) (self:m8):WS:=(mV (mS (kD (oC (λ_ j=>0<j) λi j=> .int (i % j)) (iu 6) 8.0) (mU 7))
  (mV (mS (uQ (oo {0.0,0.0,1.0,2.0}) (wB uL {iu 7,3.0})) (mU 8))
  (mV (mS (nD {rW 1.0,0.0,kD m4 (iu 2) (uQ (oo {2.0,5.0,3.0,4.0}) (wB uL {iu 7,3.0}))}) (mU 9))
  (mV (om (n_ (kD uu (iu 7) 3.0)) (mV (mS (kD (oC (λ_ j=>0<j) λi j=> .int (i % j)) (kD (oC se λi j=> .int (i / j)) (iu 6) 8.0) (wB pF {iu 1})) (mU 10))
  (mV (mS (m9 (vp r) {kD m4 (kD m4 (iu 1) (iu 10)) 1.0}) (mU 8))
  (mV (mS (nD {iu 10,kD (oC (λ_ j=>0<j) λi j=> .int (i % j)) (kD (oC se λi j=> .int (i / j)) (iu 6) 64.0) 8.0,wC (.str "")}) (mU 9))
  (mS (kD oM (iu 5) 1.0) (mU 5))))) oj)
  (om (sU (n_ (kD uu (iu 3) 0.0)) (n_ (kD wG (iu 5) 5.0))) (mV (mS (kD (rE λi j=> .int (i - j)) (iu 3) 1.0) (mU 3))
  (mV (mS (nQ (xB (yg (oo {nD {rW 1.0,0.0,kD m4 (iu 2) 2.0,nQ (oo ae)}}) (kD (rE λi j=> .int (i - j)) (iu 8) (wB pF {iu 4}))) (iu 4))) (mU 4))
  (mV (mS (kD (rE λi j=> .int (i - j)) (wB pF {iu 4}) (iu 8)) (mU 11))
  (mS (nQ (u9 (vO (iu 4) oX (oY (iu 11))) (oo {kD oM (iu 9) (nD {pf (iu 4) (oY (iu 11)) oX})}))) (mU 4))))) oj)))))
def CV:Nat→m8
 |0=>nc
 |r+1=>nY 12 4 (mV (mS (nQ (oo ae)) (mU 4))
  (mV (mS 0.0 (mU 5))
  (mV (pN (oU (iu 0)) (mU 6) (He r nc))
  (mV (yf (n_ (kD uu (wB pF {iu 4}) 1.0)) (Od r nc))
  (nE (uQ (sY (iu 4) (oo {nD {rW 1.0,0.0,kD m4 (iu 2) 5.0,nQ (oo ae)}})) 0.0))))))
def MK (r:Nat) (self:m8):WE:=(m9 self {iu 0,iu 1,iu 2})
def zG:Nat→m8
 |0=>nc
 |r+1=>nY 8 3 (mV (mS (iu 0) (p6 (ow (mU 3) (ow (mU 4) (ow (mU 5) (ow (mU 6) pS))))))
  (mV (mS (nQ (pj 1 [1,2] (oU (iu 6)) (mU 0) pe (MK r (zG r)))) (mU 7))
  (mV (om (n_ (kD wG (iu 3) 0.0)) (nE (kD oM (nD {iu 5}) (wB sE {iu 7}))) oj)
  (mV (om (n_ (kD (pH false) (kD (oC (λ_ j=>0<j) λi j=> .int (i % j)) (kD (oC se λi j=> .int (i / j)) (iu 4) (iu 2)) 2.0) 1.0)) (nE (kD oM (nD {kD m4 (kD m4 (iu 1) (iu 3)) 0.0}) (wB sE {iu 7}))) oj)
  (nE (m9 (w9 r) {kD m4 (kD m4 (iu 1) (iu 3)) 1.0,iu 7}))))))
def Pd (r:Nat) (self:m8):WS:=(om (n_ (kD (pH false) (kD m4 (iu 4) 0.0) (kD m4 (iu 1) 0.0))) (nE (m9 (w9 r) {kD m4 (iu 4) (iu 2),iu 3})) oj)
def O3 (r:Nat) (self:m8):WE:=(m9 self {iu 1,iu 0,iu 2})
def A5:Nat→m8
 |0=>nc
 |r+1=>nY 5 3 (mV (mS (nQ (pj 1 [0,2] (oU (pf (iu 1) (oY 1.0) oX)) (mU 0) pe (O3 r (A5 r)))) (mU 3))
  (mV (pN (oU (iu 0)) (mU 4) (Pd r nc))
  (nE (kD oM (pf (iu 1) oX (oY 1.0)) (wB sE {iu 3})))))
def Kx (r:Nat) (self:m8):WE:=(kD oM (nD {iu 1}) (iu 0))
def D4 (r:Nat) (self:m8):WS:=(mS (nQ (sY (iu 1) (pj 1 [2] (oU (m9 self {iu 3})) (mU 0) pe (Kx r nc)))) (mU 1))
def vD:Nat→m8
 |0=>nc
 |r+1=>nY 4 1 (mV (mS (nQ (oo {nD ae})) (mU 1))
  (mV (om (tK (pW (tq "int" (iu 0)))) (pN (t8 (pf (iu 0) (oY 1.0) oX)) (p6 (ow (mU 2) (ow (mU 3) pS))) (D4 r (vD r))) oj)
  (nE (iu 1))))
def Et (r:Nat) (self:m8):WS:=(mS (kD m4 (iu 0) (kD oM (iu 2) 1.0)) (mU 0))
def C4:Nat→m8
 |0=>nc
 |r+1=>nY 3 2 (mV (pN (oU (iu 1)) (mU 2) (Et r nc))
  (nE (iu 0)))
def Hx (r:Nat) (self:m8):WE:=(m9 self {iu 0,iu 1})
def xR:Nat→m8
 |0=>nc
 |r+1=>nY 2 2 (mV (om (pW (tq "int" (iu 0))) (nE (wC (.bl true))) oj)
  (mV (om (wa (n_ (kD (pH true) (kD m4 (iu 0) 0.0) (kD m4 (iu 1) 0.0))) (n_ (kD (pH true) (wB pF {iu 0}) (wB pF {iu 1})))) (nE (wC (.bl false))) oj)
  (nE (qR ug (pj 2 [] (uw (pf (iu 0) (oY 1.0) oX) (pf (iu 1) (oY 1.0) oX)) (p6 (ow (mU 0) (ow (mU 1) pS))) pe (Hx r (xR r)))))))
def EM (r:Nat) (self:m8):WS:=(om (pW (m9 (xR r) {kD m4 (iu 4) 1.0,m9 (C4 r) {iu 1,iu 3}})) (pT (wM pZ rh (iu 2) {nD {iu 3,kD m4 (iu 4) 0.0}})) oj)
def FW (r:Nat) (self:m8):WS:=(pN (oU (iu 0)) (mU 4) (EM r nc))
def zc:Nat→m8
 |0=>nc
 |r+1=>nY 5 2 (mV (mS (nQ (oo ae)) (mU 2))
  (mV (pN (oU (m9 (vD r) {iu 1})) (mU 3) (FW r nc))
  (nE (iu 2))))
def Op (r:Nat):WS:=(nE (nD {iu 2,iu 5}))
def FP (r:Nat):WS:=(mS (m9 (A5 r) {iu 1,kD m4 (iu 5) (rW 1.0),2.0}) (mU 6))
def EG (r:Nat) (T:WS):WS:=(mV (pT (wM pZ rh (iu 5) {m9 (AV r) {iu 1,iu 6,pf (iu 10) oX (oY (kD oM 1.0 (kD (oC (λ_ j=>0<j) λi j=> .int (i % j)) (kD (oC se λi j=> .int (i / j)) (iu 9) 5.0) 2.0)))}})) T)
def E8 (r:Nat) (T:WS):WS:=(mV (mS (nQ (oo {kD m4 (kD m4 (iu 8) (kD (oC (λ_ j=>0<j) λi j=> .int (i % j)) (kD (oC se λi j=> .int (i / j)) (iu 9) 5.0) (wB pF {iu 8}))) 0.0,kD m4 (kD m4 (iu 8) (kD (oC (λ_ j=>0<j) λi j=> .int (i % j)) (kD (oC se λi j=> .int (i / j)) (iu 9) 320.0) (wB pF {iu 8}))) 0.0})) (mU 10)) T)
def N' (r:Nat):WS:=(om (sU (n_ (kD uu (wB pF {iu 8}) 0.0)) (n_ (kD uu (kD (oC (λ_ j=>0<j) λi j=> .int (i % j)) (iu 9) 5.0) 0.0))) (E8 r (EG r (FP r))) (om (n_ (kD (pH false) (kD (oC (λ_ j=>0<j) λi j=> .int (i % j)) (iu 9) 5.0) 0.0)) (pT (wM pZ rh (iu 5) {iu 6})) oj))
def Ge (r:Nat) (T:WS):WS:=(mV (mS (kD (oC (λ_ j=>0<j) λi j=> .int (i % j)) (m9 (tT r) {iu 0,kD oM (iu 3) (iu 7)}) (kD (oC A3 λi j=> .int (i ^ j.toNat)) 10.0 12.0)) (mU 9)) T)
def Ft (r:Nat) (T:WS):WS:=(mV (mS (m9 (zc r) {iu 1,iu 6}) (mU 8)) T)
def N8 (r:Nat) (self:m8):WS:=(Ft r (Ge r (N' r)))
def Ku (r:Nat) (T:WS):WS:=(mV (pN (ul {iu 4}) (mU 7) (N8 r nc)) T)
def Js (r:Nat) (T:WS):WS:=(mV (mS (iu 2) (mU 6)) T)
def OB (r:Nat) (T:WS):WS:=(mV (mS (nQ (oo ae)) (mU 5)) T)
def yy:Nat→m8
 |0=>nc
 |r+1=>nY 11 5 (OB r (Js r (Ku r (Op r))))
def zb:Nat→m8
 |0=>nc
 |r+1=>nY 2 2 (nE (nD {kD m4 (iu 1) 4.0,nD {kD m4 (iu 1) 5.0},iu 0}))
def Hs (r:Nat) (self:m8):WE:=(m9 (zb r) {iu 0,iu 1})
def xt:Nat→m8
 |0=>nc
 |r+1=>nY 2 2 (nE (nD {m9 (zb r) {kD m4 (iu 0) 0.0,iu 1},nQ (pj 1 [1] (oU (kD m4 (iu 0) 1.0)) (mU 0) pe (Hs r nc))}))
def HK (r:Nat) (self:m8):WE:=(nD {m9 (tI r) {iu 1,iu 0},m9 (t7 r) {iu 1,iu 0}})
def zN:Nat→m8
 |0=>nc
 |r+1=>nY 7 4 (mV (mS (m9 (Ab r) {iu 0,iu 1,iu 2}) (mU 4))
  (mV (mS (m9 (C2 r) {iu 0,kD m4 (iu 1) 0.0,iu 3}) (mU 5))
  (mV (mS (nQ (pj 1 [0] (oU (kD m4 (iu 1) 1.0)) (mU 0) pe (HK r nc))) (mU 6))
  (nE (nD {iu 4,m9 (Cq r) {iu 0,iu 1,iu 2},m9 (zk r) {iu 0,iu 1},iu 6,kD m4 (iu 5) 0.0,kD m4 (iu 5) 1.0})))))
def Gu (r:Nat):WS:=(nE (kD (pH false) (m9 (zN r) {iu 4,m9 (xt r) {iu 6,iu 1},m9 (xt r) {iu 7,iu 1},iu 8}) (iu 11)))
def F7 (r:Nat) (T:WS):WS:=(mV (mS (nD {m9 (xt r) {kD m4 (iu 9) 0.0,iu 1},kD m4 (iu 9) 1.0,iu 10,kD m4 (iu 9) 3.0,m9 (xt r) {kD m4 (iu 9) 4.0,iu 1},kD m4 (iu 9) 5.0}) (mU 11)) T)
def Mn (r:Nat) (self:m8):WE:=(kD oM (nD {1.0}) (iu 0))
def E9 (r:Nat) (T:WS):WS:=(mV (mS (nQ (pj 1 [] (oU (kD m4 (iu 9) 2.0)) (mU 0) pe (Mn r nc))) (mU 10)) T)
def Ma (r:Nat) (T:WS):WS:=(mV (mS (m9 (zN r) {iu 4,iu 6,iu 7,iu 8}) (mU 9)) T)
def G5 (r:Nat) (T:WS):WS:=(mV (mS (kD (rE λi j=> .int (i - j)) 2.0 (wB uE {iu 3})) (mU 8)) T)
def Hd (r:Nat) (T:WS):WS:=(mV (mS (m9 (yy r) {iu 0,iu 4,iu 5,14.0,kD (rE λi j=> .int (i - j)) 3.0 (kD (oC qE λi j=> .int (i*j)) 2.0 (wB uE {iu 3}))}) (mU 7)) T)
def GE (r:Nat) (T:WS):WS:=(mV (mS (m9 (yy r) {iu 0,iu 4,iu 5,11.0,kD (rE λi j=> .int (i - j)) 3.0 (kD (oC qE λi j=> .int (i*j)) 2.0 (wB uE {iu 3}))}) (mU 6)) T)
def E5 (r:Nat) (T:WS):WS:=(mV (mS (m9 (zG r) {m9 (CV r) {pf (iu 0) (oY 18.0) oX,iu 4,iu 1,7.0},iu 4,8.0}) (mU 5)) T)
def Fj (r:Nat) (T:WS):WS:=(mV (mS (m9 (Dj r) {iu 0,4.0,iu 1,iu 2,iu 3}) (mU 4)) T)
def GB (r:Nat) (T:WS):WS:=(mV (mS (kD (pH false) (kD (oC (λ_ j=>0<j) λi j=> .int (i % j)) (m9 (tT r) {iu 0,10.0}) 2.0) 1.0) (mU 3)) T)
def G0 (r:Nat) (T:WS):WS:=(mV (mS (m9 (Au r) {m9 (tT r) {iu 0,2.0},m9 (tT r) {iu 0,3.0},wC (.bl true)}) (mU 2)) T)
def EV (r:Nat) (T:WS):WS:=(mV (mS (m9 (Au r) {m9 (tT r) {iu 0,0.0},m9 (tT r) {iu 0,1.0},wC (.bl false)}) (mU 1)) T)
def yd:Nat→m8
 |0=>nc
 |r+1=>nY 12 1 (EV r (G0 r (GB r (Fj r (E5 r (GE r (Hd r (G5 r (Ma r (E9 r (F7 r (Gu r))))))))))))
def B2{E:ah→kB→Prop}(h:Q (.bT (af t.cX)) S):yq (r+1) [j8 t] S Q E:=by
 rw[yq];cases t with
 |bl n=>
  simp only[j8];ext;exact⟨aU _,S, .refl,h⟩
 |nd s ts=>
  simp only[j8];ext;exact⟨S, .refl,h⟩
mutual
noncomputable def Tr.pl (p:List Int):Tr→List (List Int)
 | .bl _=>[p]
 | .nd _ ts=>p::qZ p 0 ts
noncomputable def qZ (p:List Int) (i:Nat):List Tr→List (List Int)
 | []=>[]
 |t::ts=>t.pl (p++[(i:Int)])++qZ p (i+1) ts
end
mutual
theorem Ow:∀(t:Tr) (p:List Int),(t.pl p).length=t.ao
 | .bl _,p=>by simp [Tr.pl,Tr.ao]
 | .nd _ ts,p=>by simp [Tr.pl,Tr.ao,K0 ts p 0];lia
theorem K0:∀(ts:List Tr) (p:List Int) (i:Nat),(qZ p i ts).length=nB ts
 | [],p,i=>by simp [qZ,nB]
 |t::ts,p,i=>by simp [qZ,nB,Ow t,K0 ts p (i+1)]
end
def NX:oM (mZ p) (.bT [.int i]) S Q=(p.length+1≤sizeLine∧Q (mZ (p++[i])) S):=by
 unfold mZ;rw[E2];simp
mutual
theorem Ot:∀(t:Tr) {r:Nat}{p:List Int}{a:ai}{xs:List W}{S:kB}{Q:WK}{E:ah→kB→Prop},t.depth≤r→S a=aa (.bJ xs)→xs.length+t.ao≤1000000→p.length+t.depth≤1000000→
  Q .b_ (bQ S a (.bJ (xs++(t.pl p).map mZ)))→vY (r+1) [j8 t,mZ p, .ref a] S Q E
 | .bl n,r,p,a,xs,S,Q,E,hr,ha,hx,hp,h=>by
  obtain⟨r,rfl⟩:∃r',r=r'+1:=⟨r - 1,by simp [Tr.depth]at hr;lia⟩
  rw[vY];ext;simp only[nG ha,true_and];simp [Tr.ao]at hx;refine⟨qJ `l,?_⟩;refine B2 ?_;simp only[Tr.cX,af,nums,nI];simp only[Tr.pl,az,dc]at h;exact⟨_, .refl,h⟩
 | .nd s ts,r,p,a,xs,S,Q,E,hr,ha,hx,hp,h=>by
  simp only[Tr.depth]at hr hp;simp only[Tr.ao]at hx;right
  rw[vY];ext;simp only[nG ha,true_and];refine⟨qJ `l,?_⟩;refine B2 ?_;dsimp only[Tr.cX];refine J' ts (xs:=xs++[mZ p]) `l nv (by simp;lia) `l λx y=>?_;rw[qr];refine⟨_, .refl,?_⟩;simpa [Tr.pl,bE]using h
theorem J':∀(ts:List Tr) {r:Nat}{p:List Int}{i:Nat}{a:ai}{xs:List W}{S:kB}{E:WX}{D:nC}{t0 x y:Option W},nL ts≤r→S a=aa (.bJ xs)→xs.length+nB ts≤1000000→p.length+1+nL ts≤1000000→
  (∀x y,D.nx [t0,aa (mZ p),aa (.ref a),x,y] (bQ S a (.bJ (xs++(qZ p i ts).map mZ))))→
  nI (p6 (ow (mU 3) (ow (mU 4) pS))) (Eh (r+1) (vY (r+1))) E D (λ_=>True) (nums i (af ts)) [t0,aa (mZ p),aa (.ref a),x,y] S
 | [],r,p,i,a,xs,S,E,D,t0,x,y,hr,ha,hx,hp,h=>by
  simp only[af,nums,nI];have:=h x y;simp only[qZ,dc,bf,tO ha]at this;exact this
 |t::ts,r,p,i,a,xs,S,E,D,t0,x,y,hr,ha,hx,hp,h=>by
  simp only[nL]at hr hp;simp only[nB]at hx;simp only[af,nums,nI,Eh];ext;rw[NX];refine⟨nH `l,nH `l,Ot t (p:=p++[(i:Int)]) `l ha `l (by simp;lia) ?_⟩;refine⟨_, .refl,J' ts `l nv (by simp [Ow];lia) `l λx y=>?_⟩;rw[qr];simpa [qZ,bE]using h x y
end
def Wp{E:ah→kB→Prop}(hr:t.depth+1≤r) (hw:t.ao≤100000) (hd:t.depth≤100000) (h:∀a,S a=none→Q (.ref a) (bQ S a (.bJ ((t.pl []).map mZ)))):CL (r+1) [j8 t] S Q E:=by
 right
 rw[CL];ext;refine⟨aU _,λa ha=>⟨aU _,Ot t (p:=[]) (xs:=[]) `l nv (by simp;lia) (by simp;lia) ?_⟩⟩;rw[qr,aM];exact⟨_, .refl,h a ha⟩
def Tr.at:Tr→List Int→Option Tr
 |t,[]=>aa t
 | .bl _,_::_=>none
 | .nd _ ts,i::p=>if i<0 then none else match ts[i.toNat]? with
  |some u=>u.at p
  |none=>none
def W7{E:ah→kB→Prop}(hi:0≤i) (hu:t.cX[i.toNat]? =aa u) (h:Q (j8 u) S):Bn (r+2) [j8 t, .int i] S Q E:=by
 rw[Bn];ext;refine B2 ?_;have hl:i.toNat<t.cX.length:=(cj.mp hu).1;ext;rw[rg];rw[if_neg `l,if_neg `l];have e:nW (af t.cX) i=aa (j8 u):=by
  have q:=tE (xs:=af t.cX) (n:=i.toNat);rw[cH hi]at q;rw[q,qc,aV,hu];rfl
 rw[e];exact⟨S, .refl,h⟩
def Vy:∀{t u:Tr}{r:Nat}{S:kB}{E:WX}{D:nC}{x y z:Option W},t.at p=aa u→(∀z,D.nx [x,y,aa (j8 u),z] S)→
  nI (mU 3) (Es (r+2) nc) E D (λ_=>True) (p.map W.int) [x,y,aa (j8 t),z] S:=by
 induction p with
 |nil=>
  intro t u r S E D x y z e h;unfold Tr.at at e;cases e;exact h z
 |cons i p ih=>
  intro t u r S E D x y z e h;cases t with
  |bl n=>cases e
  |nd s ts=>
   unfold Tr.at at e;split at e
   ·cases e
   ·rename_i hi;split at e
    ·rename_i v ev;simp only[az,nI,Es];ext;refine W7 (t:= .nd s ts) (u:=v) `l ev ⟨S, .refl,?_⟩;exact ih e h
    ·cases e
def FT{E:ah→kB→Prop}(e:t.at p=aa u) (h:Q (j8 u) S):yA (r+3) [j8 t,mZ p] S Q E:=by
 rw[yA];ext;unfold mZ;dsimp only;exact Vy e λz=>⟨S, .refl,h⟩
def tF (c:Nat):Prop:=97≤c∧c≤122
def px (x:ah):Prop:=1≤x.cps.toList.length∧x.cps.toList.length≤8∧ ∀c∈x.cps.toList,tF c
def qC (x:ah):Prop:=∃c r,x.cps.toList=c::r∧65≤c∧c≤90∧r.length≤7∧ ∀d∈r,tF d
def So:(bK "abcdefghijklmnopqrstuvwxyz").cps.toList=hV 97 26:=by decide +kernel
def VM:(bK "abcdefghijklmnopqrstuvwxyz").length=26:=by decide +kernel
theorem Ig:∀cs:List Nat,(dt (bK "") (cs.map λc=>(⟨#[c]⟩:ah))).cps.toList=cs
 | []=>rfl
 | [c]=>rfl
 |c::d::r=>by
  have ih:=Ig (d::r);show((⟨#[c]⟩:ah)++bK "" ++dt (bK "") ((d::r).map λc=>(⟨#[c]⟩:ah))).cps.toList=_;show(#[c]++(bK "").cps++(dt (bK "") ((d::r).map λc=>(⟨#[c]⟩:ah))).cps).toList=_;rw[iZ,iZ,ih];rfl
def Sg (cs:List Nat):((cs.map λc=>(⟨#[c]⟩:ah)).map (·.length)).sum=cs.length:=by
 induction cs with
 |nil=>rfl
 |cons c r ih=>
  rw[az,az,fy,ih,aT];show 1+r.length=r.length+1;lia
theorem Me:∀cs:List Nat,vm (cs.map λc=>W.str ⟨#[c]⟩)=aa (cs.map λc=>(⟨#[c]⟩:ah))
 | []=>rfl
 |c::cs=>by rw[az,vm,Me cs];rfl
def Xv (cs:List Nat) (h:cs.length≤1000):(List.map (λx=>x.length) (cs.map λc=>(⟨#[c]⟩:ah))).sum+(cs.map λc=>(⟨#[c]⟩:ah)).length*(bK "").length≤16777216:=by
 have e:=Sg cs;have z:(bK "").length=0:=by decide +kernel
 rw[e,z];lia
def Pg{lo:Int}{n:Nat}:(tp lo n).length=n:=by simp [tp]
def GZ{α:Type}{xs:List α}(n:Int) (h:xs≠ []):∃(i:Nat) (x:α),xs[i]? =aa x∧nW xs (n % (xs.length:Int))=aa x:=by
 have hp:0<xs.length:=l_.mpr h;have h0:0≤n % (xs.length:Int):=dq _ `l;have h1:n % (xs.length:Int)<(xs.length:Int):=dD _ `l;have hlt:(n % (xs.length:Int)).toNat<xs.length:=by lia
 refine⟨(n % (xs.length:Int)).toNat,xs[(n % (xs.length:Int)).toNat],aP hlt,?_⟩;have e:=LO (xs:=xs) (j:=(n % (xs.length:Int)).toNat) (v:=xs[(n % (xs.length:Int)).toNat]) (aP hlt);rw[cH h0]at e;exact e
def EO (ts us:List Tr):af (ts++us)=af ts++af us:=by rw[qc,qc,qc,bC]
mutual
noncomputable def Tr.plt (p:List Int):Tr→List (List Int×Tr)
 | .bl n=>[(p, .bl n)]
 | .nd s ts=>(p, .nd s ts)::o_ p 0 ts
noncomputable def o_ (p:List Int) (i:Nat):List Tr→List (List Int×Tr)
 | []=>[]
 |t::ts=>t.plt (p++[(i:Int)])++o_ p (i+1) ts
end
mutual
theorem xA:∀(t:Tr) (p:List Int),(t.plt p).map (·.1)=t.pl p
 | .bl _,p=>by simp [Tr.plt,Tr.pl]
 | .nd _ ts,p=>by simp [Tr.plt,Tr.pl,Jv ts p 0]
theorem Jv:∀(ts:List Tr) (p:List Int) (i:Nat),(o_ p i ts).map (·.1)=qZ p i ts
 | [],p,i=>by simp [o_,qZ]
 |t::ts,p,i=>by simp [o_,qZ,xA t,Jv ts p (i+1)]
end
mutual
theorem wV:∀(t:Tr) (p:List Int),(t.plt p).length=t.ao
 | .bl _,p=>by simp [Tr.plt,Tr.ao]
 | .nd _ ts,p=>by simp [Tr.plt,Tr.ao,JH ts p 0];lia
theorem JH:∀(ts:List Tr) (p:List Int) (i:Nat),(o_ p i ts).length=nB ts
 | [],p,i=>by simp [o_,nB]
 |t::ts,p,i=>by simp [o_,nB,wV t,JH ts p (i+1)]
end
def HR{s:ah}{ts:List Tr}{i:Nat}{q:List Int}{u:Tr}(h:ts[i]? =aa u):(Tr.nd s ts).at ((i:Int)::q)=u.at q:=by
 rw[Tr.at,if_neg `l];simp [h]
mutual
theorem yi:∀(t:Tr) (p q:List Int) (u:Tr),(q,u)∈t.plt p→ ∃r,q=p++r∧t.at r=aa u∧r.length<t.depth
 | .bl n,p,q,u,h=>by
  simp only[Tr.plt,bg,dS]at h;obtain⟨rfl,rfl⟩:=h;exact⟨[],`s,by simp [Tr.at],by simp [Tr.depth]⟩
 | .nd s ts,p,q,u,h=>by
  simp only[Tr.plt,aB,dS]at h;obtain ⟨rfl,rfl⟩ |h:=h
  ·exact⟨[],`s,by simp [Tr.at],by simp [Tr.depth];lia⟩
  ·obtain⟨j,v,r,h1,h2,h3,h4⟩:=N9 ts p 0 q u h;refine⟨(j:Int)::r,by rw[h2];simp,by rw[HR h1];exact h3,by simp [Tr.depth];lia⟩
theorem N9:∀(ts:List Tr) (p:List Int) (i:Nat) (q:List Int) (u:Tr),(q,u)∈o_ p i ts→ ∃(j:Nat) (v:Tr) (r:List Int),ts[j]? =aa v∧q=p++[((i+j:Nat):Int)]++r∧v.at r=aa u∧r.length<nL ts
 | [],p,i,q,u,h=>by simp [o_]at h
 |t::ts,p,i,q,u,h=>by
  simp only[o_,bu]at h;obtain h |h:=h
  ·obtain⟨r,h1,h2,h3⟩:=yi t _ q u h;exact⟨0,t,r,rfl,by simpa using h1,h2,by simp [nL];lia⟩
  ·obtain⟨j,v,r,h1,h2,h3,h4⟩:=N9 ts p (i+1) q u h;refine⟨j+1,v,r,by simpa using h1,?_,h3,by simp [nL];lia⟩
   rw[h2,show i+1+j=i+(j+1) by lia]
end
def keep (f:S a=aa o) (h:S p=none):bQ S p x a=aa o:=by rw[oz (Bo f h)];exact f
theorem p_:∀{ts:List Tr},u∈ts→u.depth≤nL ts
 |t::ts,h=>by
  obtain rfl |h:=aB.mp h
  ·simp [nL];lia
  ·have:=p_ h;simp [nL];lia
theorem qk{α:Type}{G:kB→Prop}{Q:List W→kB→Prop}(I:nj→Prop) (k f:α→W) (hG:G S):∀(xs:List α) (acc:List W) (σ:nj),I σ→acc.length+xs.length≤1000000→
  (∀x∈xs,∀σ (R:nj→W→kB→Prop),I σ→(∀σ1 S3,I σ1→Sub S S3→R σ1 (f x) S3)→g (k x) σ S λσ1 S1=>e E σ1 S1 λy S3=>R σ1 y S3)→
  Q (acc++xs.map f) S→qw g pe e E G Q (xs.map k) acc σ S
 | [],acc,σ,hI,hl,step,hQ=>by simpa [qw]using hQ
 |x::xs,acc,σ,hI,hl,step,hQ=>by
  simp only[az,qw,pe,if_true];simp only[aT]at hl;refine step x aI σ _ hI λσ1 S3 hI1 sb=>⟨qJ `l,S,sb,hG,qk I k f hG xs (acc++[f x]) σ1 hI1 (by simp;lia) (λy hy=>step y (aG _ hy)) ?_⟩;simpa using hQ
theorem BN{α:Type}{G:kB→Prop}{Q:List W→kB→Prop}(I:nj→Prop) (k f:α→W) (P:α→Bool) (hG:G S):∀(xs:List α) (acc:List W) (σ:nj),I σ→acc.length+xs.length≤1000000→
  (∀x∈xs,∀σ (R1:nj→W→kB→Prop) (R0:nj→kB→Prop),I σ→(P x=true→ ∀σ1 S3,I σ1→Sub S S3→R1 σ1 (f x) S3)→(P x=false→ ∀σ1 S3,I σ1→Sub S S3→R0 σ1 S3)→
   g (k x) σ S λσ1 S1=>c E σ1 S1 λb S2=>if b=true then e E σ1 S2 λy S3=>R1 σ1 y S3 else R0 σ1 S2)→
  Q (acc++(xs.filter P).map f) S→qw g c e E G Q (xs.map k) acc σ S
 | [],acc,σ,hI,hl,step,hQ=>by simpa [qw]using hQ
 |x::xs,acc,σ,hI,hl,step,hQ=>by
  simp only[az,qw];simp only[aT]at hl;refine step x aI σ _ _ hI (λhp σ1 S3 hI1 sb=>⟨qJ `l,S,sb,hG,BN I k f P hG xs (acc++[f x]) σ1 hI1 (by simp;lia) (λy hy=>step y (aG _ hy)) ?_⟩)
   λhp σ1 S3 hI1 sb=>⟨S,sb,hG,BN I k f P hG xs acc σ1 hI1 `l (λy hy=>step y (aG _ hy)) ?_⟩
  ·rw[List.filter_cons_of_pos hp]at hQ;simpa using hQ
  ·rw[j6 (by rw[hp];simp)]at hQ;exact hQ
def Tr.isBl:Tr→Bool
 | .bl _=>true
 | .nd _ _=>false
def Tr.num:Tr→Int
 | .bl n=>n
 | .nd _ _=>0
noncomputable def Tr.bls (t:Tr):List (List Int×Tr):=(t.plt []).filter λx=>x.2.isBl
def xY{t:Tr}{x:List Int×Tr}(h:x∈t.bls):t.at x.1=aa x.2∧x.2= .bl x.2.num∧x.1.length<t.depth:=by
 obtain⟨h1,h2⟩:=dA.mp h;obtain⟨r,h3,h4,h5⟩:=yi t [] x.1 x.2 h1;simp at h3;subst h3;refine⟨h4,?_,h5⟩;obtain⟨p,u⟩:=x;cases u with
 |bl n=>rfl
 |nd s ts=>simp [Tr.isBl]at h2
def wu (t:Tr):t.bls.length≤t.ao:=by
 unfold Tr.bls;exact aX (gR ..) (by rw[wV];exact aA _)
def Dq{E:ah→kB→Prop}(hr:t.depth+4≤r) (hw:t.ao≤90000) (h:∀a,S a=none→Q (.ref a) (bQ S a (.bJ (t.bls.map λx=>mZ x.1)))):wW (r+1) [j8 t] S Q E:=by
 have hd:=O5 t;obtain⟨r,rfl⟩:∃r',r=r'+3:=⟨r - 3,`l⟩
 rw[wW];ext;refine Wp `l `l `l λa ha=>?_;ext;rw[←xA,bh];refine BN (λσ=>∃x,σ=[x,aa (j8 t)]) (λx=>mZ x.1) (λx=>mZ x.1) (λx=>x.2.isBl) ?_ (t.plt []) [] _ ⟨none,rfl⟩ (by simp [wV];lia) (λx hx σ R1 R0 hI h1 h0=>?_) ?_
 ·exact nv
 ·obtain⟨y,rfl⟩:=hI;obtain⟨q,h3,h4,h5⟩:=yi t [] x.1 x.2 hx;simp at h3;subst h3;ext;refine FT h4 ?_;obtain⟨p,u⟩:=x;cases u with
  |bl n=>
   simp only[j8];ext;exact h1 rfl _ _ ⟨_,rfl⟩ .refl
  |nd s ts=>
   simp only[j8];ext;exact h0 rfl _ _ ⟨_,rfl⟩ .refl
 ·rw[aM];intro b hb;obtain⟨hb1,hb2⟩:=rZ hb;exact⟨_, .put2 (.bQ .refl ha),h b hb1⟩
def ME{t:Tr}{r:Nat}{S:kB}{Q:WK}{E:ah→kB→Prop}(hr:t.depth+6≤r) (hw:t.ao≤90000) (h:∀a,S a=none→Q (.ref a) (bQ S a (.bJ (t.bls.map λx=> .int x.2.num)))):yO (r+1) [j8 t] S Q E:=by
 obtain⟨r,rfl⟩:∃r',r=r'+3:=⟨r - 3,`l⟩
 rw[yO];ext;refine Dq `l hw λa ha=>?_;ext;have hl:=wu t;refine qk (λσ=>∃x,σ=[x,aa (j8 t)]) (λx=>mZ x.1) (λx=> .int x.2.num) ?_ t.bls [] _ ⟨none,rfl⟩ (by simp;lia) (λx hx σ R hI hR=>?_) ?_
 ·exact nv
 ·obtain⟨y,rfl⟩:=hI;obtain⟨h1,h2,h3⟩:=xY hx;simp only[MA];ext;refine FT h1 ?_;rw[h2];simp only[j8];exact hR _ _ ⟨_,rfl⟩ .refl
 ·rw[aM];intro b hb;obtain⟨hb1,hb2⟩:=rZ hb;exact⟨_, .put2 (.bQ .refl ha),h b hb1⟩
mutual
noncomputable def Tr.aD (us:List Tr):Tr→Tr
 | .bl n=>us.getD n.toNat (.bl n)
 | .nd s ts=> .nd s (nN us ts)
noncomputable def nN (us:List Tr):List Tr→List Tr
 | []=>[]
 |t::ts=>t.aD us::nN us ts
end
mutual
def Tr.br (m:Nat):Tr→Prop
 | .bl n=>0≤n∧n<m
 | .nd _ ts=>ny m ts
def ny (m:Nat):List Tr→Prop
 | []=>True
 |t::ts=>t.br m∧ny m ts
end
theorem yz (us:List Tr):∀ts:List Tr,nN us ts=ts.map (Tr.aD us)
 | []=>by simp [nN]
 |t::ts=>by simp [nN,yz us ts]
theorem zO:∀{ts:List Tr},ny m ts→t∈ts→t.br m
 |u::ts,h,hm=>by
  simp only[ny]at h;obtain rfl |hm:=aB.mp hm
  ·exact h.1
  ·exact zO h.2 hm
theorem GW:∀(d:Nat) {t:Tr}{r:Nat}{S:kB}{Q:WK}{E:ah→kB→Prop},t.depth≤d→d≤r+1→S a=aa (.bJ (af us))→t.br us.length→t.ao≤90000→Q (j8 (t.aD us)) S→vv (r+1) [j8 t, .ref a] S Q E
 |0,t,r,S,Q,E,hd,hr,ha,hf,hw,h=>by have:=qK t;lia
 |d+1, .bl n,r,S,Q,E,hd,hr,ha,hf,hw,h=>by
  simp only[Tr.br]at hf;simp only[Tr.aD]at h;rw[vv];simp only[j8];ext;have e:nW (af us) n=aa (j8 (us.getD n.toNat (.bl n))):=by
   have q:=tE (xs:=af us) (n:=n.toNat);rw[cH hf.1]at q;rw[q,qc,aV,bw,aP `l];rfl
  rw[nG ha,e];exact⟨S, .refl,h⟩
 |d+1, .nd s ts,r,S,Q,E,hd,hr,ha,hf,hw,h=>by
  simp only[Tr.br]at hf;simp only[Tr.aD]at h;simp only[Tr.depth]at hd;simp only[Tr.ao]at hw;have hk:=qX ts;rw[vv];simp only[j8]at h⊢;ext;refine⟨nH `d,?_⟩;rw[qc];refine qk (λσ=>∃x,σ=[x,aa (.ref a)]) j8 (λt=>j8 (t.aD us)) trivial ts [] _ ⟨none,rfl⟩ (by simp;lia) (λx hx σ R hI hR=>?_) ?_
  ·obtain⟨y,rfl⟩:=hI;have hdx:=p_ hx;have hwx:=pk hx;have:=qK x;right
   simp only[L0];ext;exact GW d (t:=x) (r:=r) `l `l ha (zO hf hx) `l (hR _ _ ⟨_,rfl⟩ .refl)
  ·rw[aM];refine⟨nH (by simp;lia),S, .refl,?_⟩;have e:af (nN us ts)=ts.map λt=>j8 (t.aD us):=by rw[qc,yz,bh];rfl
   rw[e]at h;exact h
noncomputable def Tr.bQ:Tr→List Int→Tr→Tr
 |_,[],u=>u
 | .bl n,_::_,_=> .bl n
 | .nd s ts,i::p,u=>match ts[i.toNat]? with
  |some v=> .nd s (ts.set i.toNat (v.bQ p u))
  |none=> .nd s ts
def qU (t:Tr):t.at []=aa t:=by cases t<;>rfl
def yh (t u:Tr):t.bQ [] u=u:=by cases t<;>rfl
def rm (h:(Tr.nd s ts).at (i::p)=aa u):∃v,0≤i∧ts[i.toNat]? =aa v∧v.at p=aa u:=by
 unfold Tr.at at h;split at h
 ·cases h
 ·split at h
  ·exact⟨_,`l, ‹_›,h⟩
  ·cases h
theorem xf:∀(q:List Int) {D t:Tr}(r:List Int),D.at q=aa t→D.at (q++r)=t.at r
 | [],D,t,r,h=>by rw[qU]at h;cases h;rfl
 |i::q, .bl n,t,r,h=>by cases h
 |i::q, .nd s ts,t,r,h=>by
  obtain⟨v,h0,h1,h2⟩:=rm h;rw[b6];have e:(i:Int)=((i.toNat:Nat):Int):=(cH h0).symm;rw[e,HR h1];exact xf q r h2
def xC (h:ts[i.toNat]? =aa v):(Tr.nd s ts).bQ (i::p) u= .nd s (ts.set i.toNat (v.bQ p u)):=by
 rw[Tr.bQ,h]
def PV:oq S 60 (mZ p) (.bT [])=aa p.isEmpty:=by
 cases p<;>rfl
mutual
noncomputable def Tr.same:Tr→Tr→Bool
 | .bl n, .bl m=>n == m
 | .nd s ts, .nd z us=>s == z&&tm ts us
 |_,_=>false
noncomputable def tm:List Tr→List Tr→Bool
 | [],[]=>true
 |t::ts,u::us=>t.same u&&tm ts us
 |_,_=>false
end
mutual
theorem D0:∀(t u:Tr),t.same u=true↔t=u
 | .bl n, .bl m=>by simp [Tr.same]
 | .nd s ts, .nd z us=>by simp [Tr.same,HQ ts us]
 | .bl n, .nd z us=>by simp [Tr.same]
 | .nd s ts, .bl m=>by simp [Tr.same]
theorem HQ:∀(ts us:List Tr),tm ts us=true↔ts=us
 | [],[]=>by simp [tm]
 |t::ts,u::us=>by simp [tm,D0 t u,HQ ts us]
 | [],u::us=>by simp [tm]
 |t::ts,[]=>by simp [tm]
end
def Fa (t:Tr):t.same t=true:=(D0 t t).mpr rfl
def zL{S:kB}{n:Nat}{xs ys:List W}:oq S (n+1) (.bT xs) (.bT ys)=oD (oq S n) xs ys:=fW (b:=oD (oq S n) xs ys) rfl rfl
def V_{S:kB}{n:Nat}{x y:ah}:oq S (n+1) (.str x) (.str y)=aa (x == y):=fW (b:=aa (x == y)) rfl rfl
def GA{S:kB}{n:Nat}{x y:Int}:oq S (n+1) (.int x) (.int y)=aa (x == y):=fW (b:=aa (x == y)) rfl rfl
def Td{S:kB}{n:Nat}{x:Int}{ys:List W}:oq S (n+1) (.int x) (.bT ys)=aa false:=fW (b:=aa false) rfl rfl
def P4{S:kB}{n:Nat}{x:Int}{ys:List W}:oq S (n+1) (.bT ys) (.int x)=aa false:=fW (b:=aa false) rfl rfl
mutual
theorem Dm{S:kB}:∀(n:Nat) (t u:Tr),t.depth<n→oq S n (j8 t) (j8 u)=aa (t.same u)
 |0,t,u,h=>by lia
 |n+1, .bl k, .bl m,h=>by simp only[j8,GA,Tr.same]
 |n+1, .nd s ts, .nd z us,h=>by
  simp only[Tr.depth]at h;obtain⟨n,rfl⟩:∃m,n=m+1:=⟨n - 1,`l⟩
  simp only[j8,zL,oD,V_,Tr.same];rw[PL (n+1) ts us `l]
 |n+1, .bl k, .nd z us,h=>by simp only[j8,Td,Tr.same]
 |n+1, .nd s ts, .bl m,h=>by simp only[j8,P4,Tr.same]
theorem PL{S:kB}:∀(n:Nat) (ts us:List Tr),nL ts<n→oD (oq S n) (af ts) (af us)=aa (tm ts us)
 |n,[],[],h=>by simp only[af,oD,tm]
 |n,[],u::us,h=>by simp only[af,oD,tm]
 |n,t::ts,[],h=>by simp only[af,oD,tm]
 |n,t::ts,u::us,h=>by
  simp only[nL]at h;simp only[af,oD,tm,Dm n t u `l,PL n ts us `l]
end
def OO (j:Int) (m:Nat):tp j (m+1)= .int j::tp (j+1) m:=by
 unfold tp;rw[ju,az,bh];congr 1
 ·simp
 ·apply c7;intro i _;simp only[kT,W.int.injEq];lia
def Oq{α:Type}{xs:List α}{i:Int}(h0:0≤i) (h1:i<xs.length):∃x,nW xs i=aa x∧x∈xs:=by
 have q:=tE (xs:=xs) (n:=i.toNat);rw[cH h0,aP `l]at q;exact⟨_,q,d9 ..⟩
def Yi{ss:List ah}{i:Int}(h0:0≤i) (h1:i<ss.length):∃x,nW (ss.map W.str) i=aa (.str x)∧x∈ss:=by
 obtain⟨w,h,m⟩:=Oq (xs:=ss.map W.str) h0 (by simpa using h1);obtain⟨x,hx,rfl⟩:=aL.mp m;exact⟨x,h,hx⟩
def F0{g:WG}{b:WS}{E:WX}{D:nC}(I:Nat→nj→kB→Prop) (n:Nat)
  (step:∀i,i<n→ ∀σ S (N:nj→kB→Prop),I i σ S→(∀σ' S' S'',Sub S'' S'→I (i+1) σ' S''→N σ' S')→g (.int i) σ S λσ1 S1=>b E { D with nx:=N,ct:=N,bk:=D.nx } σ1 S1)
  (done:∀σ S,I n σ S→D.nx σ S) {σ:nj}{S:kB}(h:I 0 σ S):nI g b E D (λ_=>True) (tp 0 n) σ S:=by
 refine E0 (λws σ S=>∃i,i≤n∧ws=tp (i:Int) (n - i)∧I i σ S) ?_ ?_ _ _ _ ⟨0,aU _,rfl,h⟩
 ·rintro w ws σ S N ⟨i,hi,e,hI⟩ hN;obtain⟨m,hm⟩:∃m,n - i=m+1:=by
   obtain z |z:=gE (n - i)
   ·rw[z]at e;cases e
   ·exact⟨n - i - 1,`l⟩
  rw[hm,OO]at e;cases e;exact step i `l σ S N hI λσ' S' S'' sb h'=>hN σ' S' S'' sb trivial ⟨i+1,`l,by rw[show n - (i+1)=m by lia];push_cast;rfl,h'⟩
 ·rintro σ S ⟨i,hi,e,hI⟩;have:n - i=0:=by
   obtain z |z:=gE (n - i)
   ·exact z
   ·obtain⟨m,hm⟩:∃m,n - i=m+1:=⟨n - i - 1,`l⟩
    rw[hm,OO]at e;cases e
  rw[show i=n by lia]at hI
  exact done σ S hI
theorem Pw{k:Nat}:∀{ts:List Tr},(∀t∈ts,t.depth≤k)→nL ts≤k
 | [],_=>by simp [nL]
 |t::ts,h=>by
  have:=h t aI;have:=Pw (ts:=ts) λu hu=>h u (aG _ hu);simp only[nL];lia
def rJ{G:kB→Prop}(h:∀N:nj→kB→Prop,(∀σ S S',Sub S' S→G S'→nI g b E D G ws σ S'→N σ S)→g w σ S λσ1 S1=>b E { D with nx:=N,ct:=N,bk:=D.nx } σ1 S1):nI g b E D G (w::ws) σ S:=h _ λσ S S' a c d=>⟨S',a,c,d⟩
mutual
noncomputable def Tr.mt:Tr→Tr→Option (List Tr)
 | .bl _,t=>aa [t]
 | .nd s ls, .nd z us=>if s == z&&ls.length == us.length then oB ls us else none
 | .nd _ _, .bl _=>none
noncomputable def oB:List Tr→List Tr→Option (List Tr)
 | [],_=>aa []
 |_::_,[]=>aa []
 |l::ls,u::us=>match l.mt u with
  |none=>none
  |some xs=>match oB ls us with
   |none=>none
   |some ys=>aa (xs++ys)
end
def Xw{E:ah→kB→Prop}(h:Q (.bl (s == z&&ls.length == us.length)) S):Bp (r+1) [j8 (.nd s ls),j8 (.nd z us)] S Q E:=by
 rw[Bp];simp only[j8];ext;cases e:s == z with
 |false=>
  rw[e]at h;exact⟨_, .refl,h⟩
 |true=>
  rw[e]at h;ext;refine⟨_, .refl,?_⟩;have:(((af ls).length+1:Nat):Int)=((af us).length+1:Nat)↔ls.length=us.length:=by rw[rg,rg];lia
  have e2:((((af ls).length+1:Nat):Int) == ((af us).length+1:Nat))=(ls.length == us.length):=by
   rw[eU,beq_iff_eq,beq_iff_eq];exact this
  rw[e2];simpa using h
mutual
theorem Hz:∀(l t:Tr) (ys:List Tr),l.mt t=aa ys→ys.length≤l.ao
 | .bl _,t,ys,h=>by simp only[Tr.mt,bV]at h;subst h;simp [Tr.ao]
 | .nd s ls, .nd z us,ys,h=>by
  simp only[Tr.mt]at h;split at h
  ·have:=IL ls us ys h;simp only[Tr.ao];lia
  ·cases h
 | .nd _ _, .bl _,ys,h=>by simp [Tr.mt]at h
theorem IL:∀(ls us ys:List Tr),oB ls us=aa ys→ys.length≤nB ls
 | [],us,ys,h=>by simp only[oB,bV]at h;subst h;simp
 |l::ls,[],ys,h=>by simp only[oB,bV]at h;subst h;simp
 |l::ls,u::us,ys,h=>by
  simp only[oB]at h;split at h
  ·cases h
  ·rename_i xs e1;split at h
   ·cases h
   ·rename_i zs e2;cases h;have:=Hz l u xs e1;have:=IL ls us zs e2;simp only[aW,nB];lia
end
theorem I_:∀(ls us:List Tr)
  (one:∀l∈ls,∀{t:Tr}{S:kB}{xs:List W}{Q:WK}{E:ah→kB→Prop},t.br 0→S a=aa (.bJ xs)→xs.length+l.ao≤100000→(∀ys,l.mt t=aa ys→Q (.bl true) (bQ S a (.bJ (xs++af ys))))→(l.mt t=none→ ∀ys,Q (.bl false) (bQ S a (.bJ (xs++ys))))→vK r [j8 l,j8 t, .ref a] S Q E)
  {S:kB}{xs:List W}{x3 x4:Option W},ny 0 us→S a=aa (.bJ xs)→xs.length+nB ls≤100000→
  (∀ys x3 x4,oB ls us=aa ys→D.nx [x0,x1,aa (.ref a),x3,x4] (bQ S a (.bJ (xs++af ys))))→(oB ls us=none→ ∀ys,D.rt (.bl false) (bQ S a (.bJ (xs++ys))))→
  nI (p6 (ow (mU 3) (ow (mU 4) pS))) (Fx r (vK r)) E D (λ_=>True) (nJ (af ls) (af us)) [x0,x1,aa (.ref a),x3,x4] S
 | [],us,one,S,xs,x3,x4,hf,ha,hl,h1,h0=>by
  have q:=h1 [] x3 x4 (by simp [oB]);simp only[af,bf,tO ha]at q;simpa [af,nJ,nI]using q
 |l::ls,[],one,S,xs,x3,x4,hf,ha,hl,h1,h0=>by
  have q:=h1 [] x3 x4 (by simp [oB]);simp only[af,bf,tO ha]at q;simpa [af,nJ,nI]using q
 |l::ls,u::us,one,S,xs,x3,x4,hf,ha,hl,h1,h0=>by
  simp only[ny]at hf;simp only[nB]at hl;simp only[af,nJ];refine rJ λN hN=>?_;simp only[Fx];ext;refine one l aI hf.1 ha `l (λys e=>?_) λe ys=>?_
  ·ext;have hyl:=Hz l u ys e;refine hN _ _ _ .refl trivial (I_ ls us (λl' hl'=>one l' (aG _ hl')) hf.2 nv (by rw[aW,rg];lia) (λzs x3 x4 e2=>?_) λe2 zs=>?_)
   ·rw[qr,bE,←EO];exact h1 _ _ _ (by simp only[oB,e,e2])
   ·rw[qr,bE];exact h0 (by simp only[oB,e,e2]) _
  ·ext;exact h0 (by simp only[oB,e]) ys
theorem Hn:∀(d:Nat) {l t:Tr}{r:Nat}{S:kB}{xs:List W}{Q:WK}{E:ah→kB→Prop},l.depth≤d→d≤r→t.br 0→S a=aa (.bJ xs)→xs.length+l.ao≤100000→
  (∀ys,l.mt t=aa ys→Q (.bl true) (bQ S a (.bJ (xs++af ys))))→(l.mt t=none→ ∀ys,Q (.bl false) (bQ S a (.bJ (xs++ys))))→vK (r+1) [j8 l,j8 t, .ref a] S Q E
 |0,l,t,r,S,xs,Q,E,hd,hr,hf,ha,hl,h1,h0=>by have:=qK l;lia
 |d+1, .bl n,t,r,S,xs,Q,E,hd,hr,hf,ha,hl,h1,h0=>by
  have hw:=tu (.bl n);rw[vK];simp only[j8];ext;simp only[nG ha,true_and];refine⟨qJ `l,_, .refl,?_⟩;have:=h1 [t] (by simp [Tr.mt]);simpa only[af]using this
 |d+1, .nd s ls, .bl n,r,S,xs,Q,E,hd,hr,hf,ha,hl,h1,h0=>by
  simp only[Tr.br]at hf;lia
 |d+1, .nd s ls, .nd z us,r,S,xs,Q,E,hd,hr,hf,ha,hl,h1,h0=>by
  simp only[Tr.br]at hf;simp only[Tr.depth]at hd;simp only[Tr.ao]at hl;right
  have en:∀s ts,j8 (.nd s ts)= .bT (.str s::af ts):=λs ts=>by simp [j8]
  rw[vK];ext;rw[en,en];ext;rw[←en,←en];refine Xw ?_;rw[en,en];ext;simp only[Tr.mt]at h1 h0;cases e:(s == z&&ls.length == us.length) with
  |false=>
   rw[e]at h0;have:=h0 `s [];rw[bf,tO ha]at this;exact⟨_, .refl,this⟩
  |true=>
   rw[e]at h0 h1;simp only[if_true]at h0 h1;ext;refine I_ ls us (λl hl' {t S xs Q E} f1 f2 f3 f4 f5=>Hn d (by have:=p_ hl';lia) `l f1 f2 f3 f4 f5) hf ha `l (λys x3 x4 e=>?_) λe ys=>?_
   ·ext;exact⟨_, .refl,h1 ys e⟩
   ·exact⟨_, .refl,h0 e ys⟩
def Bh{E:ah→kB→Prop}(hr:l.depth<r) (hf:t.br 0) (hw:l.ao≤90000) (h1:∀ys,l.mt t=aa ys→ ∀a,S a=none→Q (.ref a) (bQ S a (.bJ (af ys)))) (h0:l.mt t=none→Q .b_ S):vd (r+1) [j8 l,j8 t] S Q E:=by
 right
 rw[vd];ext;refine⟨aU _,λa ha=>Hn l.depth (aA _) `l hf nv (by simpa using(by lia:l.ao≤100000)) (λys e=>?_) λe ys=>?_⟩
 ·ext;exact⟨_, .refl,h1 ys e a ha⟩
 ·ext;exact⟨_, .bQ .refl ha,h0 e⟩
theorem Nv:∀(p:List Int) {t u:Tr},t.at p=aa u→p.length<t.depth
 | [],t,u,h=>qK t
 |i::p, .bl n,u,h=>by cases h
 |i::p, .nd s ts,u,h=>by
  obtain⟨v,h0,e1,e2⟩:=rm h;have:=Nv p e2;have:=p_ (aN e1);simp only[aT,Tr.depth];lia
mutual
theorem Ls:∀(l t:Tr) (ys:List Tr),l.mt t=aa ys→nB ys≤t.ao
 | .bl _,t,ys,h=>by simp only[Tr.mt,bV]at h;subst h;simp [nB]
 | .nd s ls, .nd z us,ys,h=>by
  simp only[Tr.mt]at h;split at h
  ·have:=Kd ls us ys h;simp only[Tr.ao];lia
  ·cases h
 | .nd _ _, .bl _,ys,h=>by simp [Tr.mt]at h
theorem Kd:∀(ls us ys:List Tr),oB ls us=aa ys→nB ys≤nB us
 | [],us,ys,h=>by simp only[oB,bV]at h;subst h;simp [nB]
 |l::ls,[],ys,h=>by simp only[oB,bV]at h;subst h;simp [nB]
 |l::ls,u::us,ys,h=>by
  simp only[oB]at h;split at h
  ·cases h
  ·rename_i xs e1;split at h
   ·cases h
   ·rename_i zs e2;cases h;have:=Ls l u xs e1;have:=Kd ls us zs e2;simp only[CU,nB];lia
end
def yo (c:Nat):Bool:=decide (97≤c)&&decide (c≤122)
noncomputable def aE (xs:List Nat):Bool:=xs.all yo
def Yz{s:ah}{a:Nat}(hs:s.cps.toList=[a]) (c:Nat):(!decide ((⟨#[c]⟩:ah).cps.toList<s.cps.toList))=decide (a≤c):=by
 rw[hs];show(!decide (([c]:List Nat)< [a]))=_;by_cases h:a≤c
 ·rw[decide_eq_true h,decide_eq_false (λz=>by have:=(Bx c a).mp z;lia)];rfl
 ·rw[decide_eq_false h,decide_eq_true ((Bx c a).mpr `l)];rfl
def XA{s:ah}{a:Nat}(hs:s.cps.toList=[a]) (c:Nat):(!decide (s.cps.toList<(⟨#[c]⟩:ah).cps.toList))=decide (c≤a):=by
 rw[hs];show(!decide (([a]:List Nat)< [c]))=_;by_cases h:c≤a
 ·rw[decide_eq_true h,decide_eq_false (λz=>by have:=(Bx a c).mp z;lia)];rfl
 ·rw[decide_eq_false h,decide_eq_true ((Bx a c).mpr `l)];rfl
def TD:(bK "a").cps.toList=[97]:=by decide +kernel
def Tf:(bK "z").cps.toList=[122]:=by decide +kernel
def Mz (x:ah):(c8 x (aa 1) none).cps.toList=x.cps.toList.drop 1:=by
 rw[P9];unfold BQ;rw[HT.sIx_none];have ez:HT.sIx x.cps.toList.length 0 (aa 1)=min 1 x.cps.toList.length:=HT.sIx_nat x.cps.toList.length 0 1;rw[ez];by_cases h:1≤x.cps.toList.length
 ·rw[jQ h,dW (by rw[de];exact aA _)]
 ·have:x.cps.toList=[]:=km `l;rw[this];rfl
def vT (x:ah):x.length=x.cps.toList.length:=by simp [iV]
def Pt (bs:List Bool):tv (bs.map W.bl)=aa bs:=by
 induction bs with
 |nil=>rfl
 |cons b bs ih=>rw[az,tv,ih];rfl
def JP{α:Type}(xs:List α) (f:α→Bool):((xs.map f).all _root_.id)=xs.all f:=by rw[fD];rfl
def Yq{E:ah→kB→Prop}(hx:x.length≤1000) (h:Q (.bl (aE x.cps.toList)) S):CI (r+1) [.str x] S Q E:=by
 rw[vT]at hx;rw[CI];left;unfold Dd;refine qk (λσ=>∃x,σ=[x]) (λc=> .str ⟨#[c]⟩) (λc=> .bl (yo c)) ?_ x.cps.toList [] _ ⟨none,rfl⟩ (by rw[dU];lia) (λc hc σ R hI hR=>?_) ?_
 ·exact trivial
 ·obtain⟨y,rfl⟩:=hI;simp only[Ho];left;rw[Yz TD,XA Tf];unfold yo at hR;cases e:decide (97≤c) with
  |false=>rw[e]at hR;exact hR _ _ ⟨_,rfl⟩ .refl
  |true=>rw[e]at hR;exact hR _ _ ⟨_,rfl⟩ .refl
 ·have e:x.cps.toList.map (λc=>W.bl (yo c))=(x.cps.toList.map yo).map W.bl:=by rw[bh];rfl
  rw[aM,e,Pt];dsimp only;rw[JP];exact⟨_, .refl,h⟩
noncomputable def Tr.nums (t:Tr):List Int:=t.bls.map λx=>x.2.num
def Tc (t:Tr):t.nums.length≤t.ao:=by unfold Tr.nums;rw[ay];exact wu t
def Ie (t:Tr):(t.bls.map λx=>W.int x.2.num)=t.nums.map W.int:=by unfold Tr.nums;rw[bh];rfl
theorem Mx:∀xs:List Int,r8 S (.int x) (xs.map W.int)=aa (xs.contains x)
 | []=>rfl
 |y::ys=>by
  simp only[az,r8,GA,Mx ys,List.contains_cons];rw[show(y == x)=(x == y) from by rw[eU,beq_iff_eq,beq_iff_eq];exact eq_comm]
mutual
theorem Dc:∀(t:Tr) (p q:List Int) (u:Tr),t.at q=aa u→(p++q,u)∈t.plt p
 | .bl n,p,[],u,h=>by rw[qU]at h;cases h;simp [Tr.plt]
 | .bl n,p,i::q,u,h=>by cases h
 | .nd s ts,p,[],u,h=>by rw[qU]at h;cases h;simp [Tr.plt]
 | .nd s ts,p,i::q,u,h=>by
  obtain⟨v,h0,e1,e2⟩:=rm h;simp only[Tr.plt,aB];refine .inr ?_;have:=NS ts p 0 i.toNat q u v e1 e2;rw[bI,cH h0]at this;simpa using this
theorem NS:∀(ts:List Tr) (p:List Int) (i j:Nat) (q:List Int) (u v:Tr),ts[j]? =aa v→v.at q=aa u→(p++((i+j:Nat):Int)::q,u)∈o_ p i ts
 | [],p,i,j,q,u,v,h1,h2=>by simp at h1
 |t::ts,p,i,0,q,u,v,h1,h2=>by
  simp at h1;subst h1;simp only[o_,bu];refine .inl ?_;have:=Dc t (p++[(i:Int)]) q u h2;simpa using this
 |t::ts,p,i,j+1,q,u,v,h1,h2=>by
  simp only[o_,bu];refine .inr ?_;have:=NS ts p (i+1) j q u v (by simpa using h1) h2;rw[show i+1+j=i+(j+1) by lia]at this
  exact this
end
def Kl{t:Tr}{x:List Int×Tr}(h:x∈t.plt []):t.at x.1=aa x.2∧x.1.length<t.depth:=by
 obtain⟨q,h3,h4,h5⟩:=yi t [] x.1 x.2 h;simp at h3;subst h3;exact⟨h4,h5⟩
theorem xF{α:Type}{G:kB→Prop}(hG:G S) (I:nj→Prop) (key:α→W) (f:α→Option W):∀(xs:List α) (σ:nj),I σ→
  (∀x∈xs,∀σ (N:nj→kB→Prop),I σ→(f x=none→ ∀σ' S',I σ'→Sub S S'→N σ' S')→(∀w,f x=aa w→ ∀S',Sub S S'→D.rt w S')→g (key x) σ S λσ1 S1=>b E { D with nx:=N,ct:=N,bk:=D.nx } σ1 S1)→
  (xs.findSome? f=none→ ∀σ,I σ→D.nx σ S)→(∀w,xs.findSome? f=aa w→ ∀S',Sub S S'→D.rt w S')→nI g b E D G (xs.map key) σ S
 | [],σ,hI,step,done,ret=>by
  have:=done rfl σ hI;simpa [nI]using this
 |x::xs,σ,hI,step,done,ret=>by
  rw[az];refine rJ λN hN=>?_;refine step x aI σ N hI (λe σ' S' hI' sb=>?_) λw e S' sb=>ret w (by rw[eH,e]) S' sb;refine hN _ _ S sb hG (xF hG I key f xs σ' hI' (λy hy=>step y (aG _ hy)) (λe2=>done (by rw[eH,e];exact e2)) λw e2=>ret w (by rw[eH,e];exact e2))
abbrev Tn:=ah×Tr×Tr
noncomputable def nz (t:Tn):W:= .bT [.str t.1,j8 t.2.1,j8 t.2.2]
def Ut:Tn:=("", .bl 0, .bl 0)
def lf (ts:List Tn) (j:Nat):Tr:=(ts.getD j Ut).2.1
def PY (n:Nat):tp 0 n=(bD n).map λ(i:Nat)=>W.int i:=by
 unfold tp;apply c7;intro i _;simp
noncomputable def Tr.aE (t:Tr):Bool:=decide (t.ao≤400)&&decide (t.depth≤40)
def vP{E:ah→kB→Prop}(h0:0≤k) (h:∀n:Int,Q (.int n) S):tT (r+1) [.cM ns, .int k] S Q E:=by
 rw[tT];ext;split
 ·obtain⟨x,e,_⟩:=Oq (xs:=ns) (i:=k) h0 `l;rw[e];exact⟨S, .refl,h _⟩
 ·exact⟨S, .refl,h _⟩
def lt (rs:List Int) (pos:Int) (k j:Nat):Nat:=97+((rs.getD j 0+(k:Int)*(if(0+(j:Int) == pos)=true then 1 else 0)) % 26).toNat
def sF (rs:List Int) (pos:Int) (k:Nat):List Nat:=(bD rs.length).map (lt rs pos k)
noncomputable def oO (rs:List Int) (pos:Int) (k:Nat):ah:=dt (bK "") ((sF rs pos k).map λc=>(⟨#[c]⟩:ah))
noncomputable def CD (rs:List Int) (pos:Int) (k:Nat):ah:=eF ⟨#[lt rs pos k 0]⟩++c8 (oO rs pos k) (aa 1) none
noncomputable def wd (great:Bool) (rs:List Int) (pos:Int) (k:Nat):ah:=if great then CD rs pos k else oO rs pos k
def yr (rs:List Int) (pos:Int) (k j:Nat):tF (lt rs pos k j):=by
 have h0:=dq (rs.getD j 0+(k:Int)*(if(0+(j:Int) == pos)=true then 1 else 0)) (show(26:Int)≠0 by decide)
 have h1:=dD (rs.getD j 0+(k:Int)*(if(0+(j:Int) == pos)=true then 1 else 0)) (show(0:Int)<26 by decide)
 unfold lt tF;lia
def SD (h0:0≤n) (h1:n<26):nW (bK "abcdefghijklmnopqrstuvwxyz").cps.toList n=aa (97+n.toNat):=by
 have e:=tE (xs:=(bK "abcdefghijklmnopqrstuvwxyz").cps.toList) (n:=n.toNat);rw[cH h0]at e;rw[e,So,List.getElem?_range' `l];simp
def B7 (rs:List Int) (pos:Int) (k:Nat):(oO rs pos k).cps.toList=sF rs pos k:=Ig _
def D5 (rs:List Int) (pos:Int) (k:Nat):(sF rs pos k).length=rs.length:=by simp [sF]
def M_ (h:c∈sF rs pos k):tF c:=by
 obtain⟨j,_,rfl⟩:=aL.mp h;exact yr rs pos k j
def Sw (pos:Int) (k:Nat) (h:1≤rs.length):sF rs pos k=lt rs pos k 0::(sF rs pos k).drop 1:=by
 unfold sF;obtain⟨n,hn⟩:∃n,rs.length=n+1:=⟨rs.length - 1,`l⟩
 rw[hn,ju];simp
def Ng (h:tF c):eF ⟨#[c]⟩=⟨#[c - 32]⟩:=by
 unfold tF at h;rw[PySem.W.KOpn.upper_one `l,if_pos h]
def LF (pos:Int) (k:Nat):(CD rs pos k).cps.toList=(lt rs pos k 0 - 32)::(sF rs pos k).drop 1:=by
 unfold CD;rw[Ng (yr _ _ _ _)];show((#[lt rs pos k 0 - 32]:Array Nat)++(c8 (oO rs pos k) (aa 1) none).cps).toList=_;rw[iZ,Mz,B7];rfl
structure sO (rs:List Int) (pos:Int):Prop where
  l1:1≤rs.length
  l8:rs.length≤8
  p0:0≤pos
  p1:pos<rs.length
def O4 (b:sO rs pos) (k:Nat):px (oO rs pos k):=by
 unfold px;rw[B7,D5];exact⟨b.l1,b.l8,λc hc=>M_ hc⟩
def Zi (b:sO rs pos) (k:Nat):qC (CD rs pos k):=by
 have:=yr rs pos k 0;have hl:=b.l8;unfold tF at this;refine⟨_,_,LF pos k,`l,`l,by rw[de,D5];lia,λd hd=>M_ (je hd)⟩
def Si (b:sO rs pos) (hk:k<26) (hm:m<26) (h:k≠m):lt rs pos k pos.toNat≠lt rs pos m pos.toNat:=by
 have p0:=b.p0;have e:(0+((pos.toNat:Nat):Int) == pos)=true:=by rw[beq_iff_eq];lia
 unfold lt;rw[e,if_pos rfl];lia
def L7 (b:sO rs pos) (hk:k<26) (hm:m<26) (h:k≠m):wd great rs pos k≠wd great rs pos m:=by
 have hn:=Si b hk hm h;have p0:=b.p0;have p1:=b.p1;intro e;have e':=congrArg (λx:ah=>x.cps.toList) e;cases great with
 |false=>
  simp only[wd,cZ,if_false,B7]at e';have e2:=congrArg (λl=>l[pos.toNat]?) e';simp only[sF,aV,gc (show pos.toNat<rs.length by lia),gZ,bV]at e2
  exact hn e2
 |true=>
  simp only[wd,if_true,LF]at e';have e2:=congrArg (λl=>l[pos.toNat]?) e';cases hp:pos.toNat with
  |zero=>
   rw[hp]at hn;have h1:=yr rs pos k 0;have h2:=yr rs pos m 0;unfold tF at h1 h2;simp only[hp,iy,bV]at e2;lia
  |succ n=>
   rw[hp]at hn;simp only[hp,bW,lU,sF,aV]at e2;rw[show 1+n=n+1 by lia,gc (show n+1<rs.length by lia)]at e2
   simp only[gZ,bV]at e2;exact hn e2
def FF (great:Bool) (ws:List ah):Prop:=∃rs pos,sO rs pos∧(ws=(bD 6).map (wd great rs pos)∨(great=false∧ws=[oO rs pos 0,oO rs pos 1,oO rs pos 2,oO rs pos 2,oO rs pos 2,oO rs pos 5]))
structure oH (w0 w1 w2 w3 w4 w5:ah):Prop where
  ok:∀x∈ [w0,w1,w2,w3,w4,w5],px x
  n0:∀x∈ [w1,w2,w3,w4,w5],w0≠x
  n1:∀x∈ [w2,w3,w4,w5],w1≠x
  n5:∀x∈ [w2,w3,w4],w5≠x
def X2 (h:FF false ws):∃w0 w1 w2 w3 w4 w5,ws=[w0,w1,w2,w3,w4,w5]∧oH w0 w1 w2 w3 w4 w5:=by
 obtain⟨rs,pos,b,h⟩:=h;have hs:=λk=>O4 b k;have hn:∀k m:Nat,k<26→m<26→k≠m→oO rs pos k≠oO rs pos m:=λk m h1 h2 h3=>L7 (great:=false) b h1 h2 h3;obtain rfl |⟨_,rfl⟩:=h
 ·refine⟨_,_,_,_,_,_,rfl,⟨?_,?_,?_,?_⟩⟩
  ·simp only[aB,bo,or_false,forall_eq_or_imp,forall_eq];exact⟨hs 0,hs 1,hs 2,hs 3,hs 4,hs 5⟩
  ·simp only[aB,bo,or_false,forall_eq_or_imp,forall_eq];exact⟨hn 0 1 `d `d `d,hn 0 2 `d `d `d,hn 0 3 `d `d `d,hn 0 4 `d `d `d,hn 0 5 `d `d `d⟩
  ·simp only[aB,bo,or_false,forall_eq_or_imp,forall_eq];exact⟨hn 1 2 `d `d `d,hn 1 3 `d `d `d,hn 1 4 `d `d `d,hn 1 5 `d `d `d⟩
  ·simp only[aB,bo,or_false,forall_eq_or_imp,forall_eq];exact⟨hn 5 2 `d `d `d,hn 5 3 `d `d `d,hn 5 4 `d `d `d⟩
 ·refine⟨_,_,_,_,_,_,rfl,⟨?_,?_,?_,?_⟩⟩
  ·simp only[aB,bo,or_false,forall_eq_or_imp,forall_eq];exact⟨hs 0,hs 1,hs 2,hs 2,hs 2,hs 5⟩
  ·simp only[aB,bo,or_false,forall_eq_or_imp,forall_eq];exact⟨hn 0 1 `d `d `d,hn 0 2 `d `d `d,hn 0 2 `d `d `d,hn 0 2 `d `d `d,hn 0 5 `d `d `d⟩
  ·simp only[aB,bo,or_false,forall_eq_or_imp,forall_eq];exact⟨hn 1 2 `d `d `d,hn 1 2 `d `d `d,hn 1 2 `d `d `d,hn 1 5 `d `d `d⟩
  ·simp only[aB,bo,or_false,forall_eq_or_imp,forall_eq];exact⟨hn 5 2 `d `d `d,hn 5 2 `d `d `d,hn 5 2 `d `d `d⟩
structure qz (ts:List ah):Prop where
  len:ts.length=6
  ok:∀x∈ts,qC x
  nd:ts.Nodup
def Yx (h:FF true ws):qz ws:=by
 obtain⟨rs,pos,b,h⟩:=h;obtain rfl |⟨e,_⟩:=h
 ·refine⟨`s,λx hx=>?_,?_⟩
  ·obtain⟨k,_,rfl⟩:=aL.mp hx;exact Zi b k
  ·rw[jG,mx];refine kG.imp_of_mem (λ{a c} ha hc hne=>?_) (List.nodup_range (n:=6));have ha:=fJ.mp ha;have hc:=fJ.mp hc;exact L7 b `l `l hne
 ·cases e
theorem LR:∀(ws:List W) {rs:List Int}{sp:Int}{a:ai}{r:Nat}{S:kB}{E:WX}{D:nC}{x0 x1 x2 x3 x6 x7 x8 x9:Option W},S a=aa (.bJ (rs.map W.int))→rs.length+ws.length≤1000→
  (∀(rs':List Int) sp' x6',rs'.length=rs.length+ws.length→D.nx [x0,x1,x2,x3,aa (.int sp'),aa (.ref a),x6',x7,x8,x9] (bQ S a (.bJ (rs'.map W.int))))→
  nI (mU 6) (Fg r nc) E D (λ_=>True) ws [x0,x1,x2,x3,aa (.int sp),aa (.ref a),x6,x7,x8,x9] S
 | [],rs,sp,a,r,S,E,D,x0,x1,x2,x3,x6,x7,x8,x9,ha,hl,h=>by
  simp only[nI];have:=h rs sp x6 `s;rw[tO ha]at this;exact this
 |w::ws,rs,sp,a,r,S,E,D,x0,x1,x2,x3,x6,x7,x8,x9,ha,hl,h=>by
  simp only[nI,Fg];ext;simp only[aT]at hl h;simp only[nG ha,true_and];refine⟨`d,qJ (by simp;lia),⟨`d,`d⟩,_, .refl,?_⟩
  refine LR (r:=r) ws (rs:=rs++[sp % 26]) (by rw[nv];simp) (by simp;lia) λrs' sp' x6' h1=>?_;rw[qr];exact h rs' sp' x6' (by simp at h1;lia)
def AC{c:Prop} [Decidable c] {a b:Prop}(h1:c→a) (h2:¬c→b):if c then a else b:=by split<;>simp_all
def Ah (h:∀T',T'=T→mV A T' E D σ S):mV A T E D σ S:=h T rfl
def Lj{E:ah→kB→Prop}(h:∀(a:ai) (ws:List ah),S a=none→FF great ws→Q (.ref a) (bQ S a (.bJ (ws.map W.str)))):Au (r+1) [.int one, .int two, .bl great] S Q E:=by
 rw[Au];ext;have o0:0≤one % 8:=dq _ `d;have o1:one % 8<8:=dD _ `d;refine⟨⟨`d,`d,`d⟩,`d,aU _,λa ha=>⟨`d,⟨`l,`l⟩,?_⟩⟩
 refine LR _ (rs:=[]) nv (by simp [Pg];lia) λrs sp x6 hl=>?_;rw[qr];simp only[dU,Pg,bI]at hl;have hl':(rs.length:Int)=1+one % 8:=by rw[hl];lia
 have p0:0≤one / 8 % (rs.length:Int):=dq _ `l;have p1:one / 8 % (rs.length:Int)<(rs.length:Int):=dD _ `l;have B:sO rs (one / 8 % (rs.length:Int)):=⟨`l,`l,p0,p1⟩
 ext;simp only[ay];refine⟨⟨`d,`d⟩,`l,aU _,λb hb=>⟨⟨`d,`d⟩,?_⟩⟩
 obtain⟨hb1,hb2⟩:=rZ hb;generalize hpos:one / 8 % (rs.length:Int)=pos at B p0 p1⊢;refine F0 (λi σ S'=>∃x6 x9,S'=bQ (bQ S a (.bJ (rs.map W.int))) b (.bJ (((bD i).map (wd great rs pos)).map W.str))∧σ=[aa (.int one),aa (.int two),aa (.bl great),aa (.str (bK "abcdefghijklmnopqrstuvwxyz")),aa (.int sp),aa (.ref a),x6,aa (.int pos),aa (.ref b),x9]) 6 ?_ ?_ ⟨x6,none,rfl,rfl⟩
 ·rintro k hk σ S' N ⟨x6,x9,rfl,rfl⟩ hN;have ea:bQ (bQ S a (Ob.bJ (rs.map W.int))) b (Ob.bJ (((bD k).map (wd great rs pos)).map W.str)) a=aa (.bJ (rs.map W.int)):=by rw[oz (bG hb2),nv]
  simp only[OT];ext;rw[nG ea];simp only[ay];refine⟨⟨`l,`l⟩,?_⟩
  rw[bn];refine qk (λσ=>∃x,σ=[x,aa (.str (bK "abcdefghijklmnopqrstuvwxyz")),aa (.ref a),aa (.int (k:Int)),aa (.int pos)]) (λi:Nat=>W.int (0+(i:Int))) (λi=>W.str ⟨#[lt rs pos k i]⟩) trivial (bD rs.length) [] _ ⟨none,rfl⟩ (by simp;lia) (λi hi σ R hI hR=>?_) ?_
  ·obtain⟨x,rfl⟩:=hI;have hi:=fJ.mp hi;simp only[OM];ext;have e:=tE (xs:=rs.map W.int) (n:=i);rw[show(i:Int)=0+(i:Int) by lia,aV,aP hi]at e
   rw[nG ea,e];dsimp only[Option.map];ext;have ec:=SD (n:=(rs[i]+(k:Int)*(if(0+(i:Int) == pos)=true then 1 else 0)) % 26) (dq _ `d) (dD _ `d);rw[ec];have el:lt rs pos k i=97+((rs[i]+(k:Int)*(if(0+(i:Int) == pos)=true then 1 else 0)) % 26).toNat:=by
    unfold lt;rw[bw,aP hi];rfl
   rw[←el];exact⟨.inl ⟨`l,`l⟩,`d,nH (by rw[VM];decide),hR _ _ ⟨_,rfl⟩ .refl⟩
  ·have es:(bD rs.length).map (λi=>W.str ⟨#[lt rs pos k i]⟩)=(sF rs pos k).map λc=>W.str ⟨#[c]⟩:=by
    unfold sF;rw[bh];rfl
   have hw:=O4 B k;rw[aM,es,Me];refine⟨Xv _ (by rw[D5];lia),?_⟩;show _;have ew:dt (bK "") ((sF rs pos k).map λc=>(⟨#[c]⟩:ah))=oO rs pos k:=rfl;rw[ew];have hl8:(oO rs pos k).length≤8:=by rw[vT];exact hw.2.1
   have fin:∀z:ah,z=wd great rs pos k→ ∀x9:Option W,N [aa (.int one),aa (.int two),aa (.bl great),aa (.str (bK "abcdefghijklmnopqrstuvwxyz")),aa (.int sp),aa (.ref a),aa (.int (k:Int)),aa (.int pos),aa (.ref b),x9] (bQ (bQ S a (.bJ (rs.map W.int))) b (.bJ (((bD k).map (wd great rs pos)).map W.str++[.str z]))):=λz hz x9=>by
    subst hz;refine hN _ _ _ .refl ⟨_,_,?_,rfl⟩;rw[gv,bC,bC];rfl
   have hxl:(((bD k).map (wd great rs pos)).map W.str).length<sizeLine:=qJ (by simp;lia);cases great with
   |false=>
    try ext
    try simp only[As,qr,true_and]
    exact⟨hxl,fin _ rfl _⟩
   |true=>
    ext;rw[B7,Sw pos k B.l1,Dn];dsimp only
    try ext
    try simp only[As,qr,true_and]
    refine⟨nH `l,?_⟩;have h1:(⟨#[lt rs pos k 0]⟩:ah).length=1:=rfl;have h2:(eF ⟨#[lt rs pos k 0]⟩).length=1:=by rw[Ng (yr _ _ _ _)];rfl
    have h3:(c8 (oO rs pos k) (aa 1) none).length≤8:=by
     rw[vT,Mz,de,←vT];lia
    exact⟨`l,nH `l,nH `l,hxl,fin _ rfl _⟩
 ·rintro σ S' ⟨x6,x9,rfl,rfl⟩;have eb:bQ (bQ S a (Ob.bJ (rs.map W.int))) b (Ob.bJ (((bD 6).map (wd great rs pos)).map W.str)) b=aa (.bJ (((bD 6).map (wd great rs pos)).map W.str)):=nv;ext;cases great with
  |true=>
   ext;refine⟨⟨`d,`d⟩,`d,?_⟩
   split
   ·exact⟨_, .put2 (.bQ .refl ha),h b _ hb1 ⟨rs,pos,B, .inl rfl⟩⟩
   ·exact⟨_, .put2 (.bQ .refl ha),h b _ hb1 ⟨rs,pos,B, .inl rfl⟩⟩
  |false=>
   ext;refine⟨⟨`d,`d⟩,`d,?_⟩
   split
   ·have e6:((bD 6).map (wd false rs pos)).map W.str=[.str (oO rs pos 0), .str (oO rs pos 1), .str (oO rs pos 2), .str (oO rs pos 3), .str (oO rs pos 4), .str (oO rs pos 5)]:=rfl;simp only[e6]
    try ext
    have c3:pG [W.str (oO rs pos 0), .str (oO rs pos 1), .str (oO rs pos 2), .str (oO rs pos 3), .str (oO rs pos 4), .str (oO rs pos 5)] none (aa 3)=[.str (oO rs pos 0), .str (oO rs pos 1), .str (oO rs pos 2)]:=rfl;have a2:nW [W.str (oO rs pos 0), .str (oO rs pos 1), .str (oO rs pos 2), .str (oO rs pos 3), .str (oO rs pos 4), .str (oO rs pos 5)] 2=aa (.str (oO rs pos 2)):=rfl;have a5:nW [W.str (oO rs pos 0), .str (oO rs pos 1), .str (oO rs pos 2), .str (oO rs pos 3), .str (oO rs pos 4), .str (oO rs pos 5)] 5=aa (.str (oO rs pos 5)):=rfl;simp only[c3,a2,a5]
    try ext
    refine⟨nH `d,nH `d,λc hc=>?_⟩;obtain⟨hc1,hc2⟩:=rZ hc;obtain⟨hc1,hc3⟩:=rZ hc1;exact⟨_, .put2 (.bQ (.bQ .refl ha) hb1),h c _ hc1 ⟨rs,pos,B, .inr ⟨rfl,rfl⟩⟩⟩
   ·exact⟨_, .put2 (.bQ .refl ha),h b _ hb1 ⟨rs,pos,B, .inl rfl⟩⟩
mutual
noncomputable def Tr.nb:Tr→Nat
 | .bl _=>1
 | .nd _ ts=>nbs ts
noncomputable def nbs:List Tr→Nat
 | []=>0
 |t::ts=>t.nb+nbs ts
end
mutual
theorem Jf:∀(t:Tr) (p:List Int),((t.plt p).filter λx=>x.2.isBl).length=t.nb
 | .bl n,p=>by simp [Tr.plt,Tr.isBl,Tr.nb]
 | .nd s ts,p=>by
  have:=JN ts p 0;simpa [Tr.plt,Tr.isBl,Tr.nb]using this
theorem JN:∀(ts:List Tr) (p:List Int) (i:Nat),((o_ p i ts).filter λx=>x.2.isBl).length=nbs ts
 | [],p,i=>by simp [o_,nbs]
 |t::ts,p,i=>by
  have h1:=Jf t (p++[(i:Int)]);have h2:=JN ts p (i+1);rw[o_,ja,aW,h1,h2,nbs]
end
def FO (t:Tr):t.bls.length=t.nb:=Jf t []
theorem HG:∀ts:List Tr,(ts.map λt=>(t.nb:Int)).sum=(nbs ts:Int)
 | []=>by simp [nbs]
 |t::ts=>by
  rw[az,fy,HG ts,nbs];lia
def YM (ts:List Tr):qV (ts.map λt=>W.int (t.nb:Int))=aa (ts.map λt=>(t.nb:Int)):=by
 have:=vQ (ts.map λt=>(t.nb:Int));rw[bh]at this;exact this
theorem FG:∀(d:Nat) {t:Tr}{r:Nat}{S:kB}{Q:WK}{E:ah→kB→Prop},t.depth≤d→d≤r+1→t.ao≤90000→Q (.int t.nb) S→vp (r+1) [j8 t] S Q E
 |0,t,r,S,Q,E,hd,hr,hw,h=>by have:=qK t;lia
 |d+1, .bl n,r,S,Q,E,hd,hr,hw,h=>by
  rw[vp];simp only[j8];ext;simp only[Tr.nb]at h;exact⟨S, .refl,h⟩
 |d+1, .nd s ts,r,S,Q,E,hd,hr,hw,h=>by
  simp only[Tr.depth]at hd;simp only[Tr.ao]at hw;have hk:=qX ts;rw[vp];simp only[j8];ext;rw[qc];refine qk (λσ=>∃x,σ=[x]) j8 (λt=> .int (t.nb:Int)) trivial ts [] _ ⟨none,rfl⟩ (by simp;lia) (λx hx σ R hI hR=>?_) ?_
  ·obtain⟨y,rfl⟩:=hI;have hdx:=p_ hx;have hwx:=pk hx;have:=qK x;right
   simp only[LY];ext;exact FG d (t:=x) (r:=r) `l `l `l (hR _ _ ⟨_,rfl⟩ .refl)
  ·rw[aM,YM];dsimp only;rw[HG];simp only[Tr.nb]at h;exact⟨S, .refl,h⟩
def IE{w:W}{ws:List W}:pG (w::ws) none (aa 1)=[w]:=by
 rw[show(1:Int)=((1:Nat):Int) from rfl,EQ];rfl
theorem GX{us:List Tr}{a:ai}:∀(d:Nat) {t:Tr}{r:Nat}{S:kB}{Q:WK}{E:ah→kB→Prop},t.depth≤d→d≤r+1→S a=aa (.bJ (af us))→t.br us.length→t.ao≤90000→Q (j8 (t.aD us)) S→w9 (r+1) [j8 t, .ref a] S Q E
 |0,t,r,S,Q,E,hd,hr,ha,hf,hw,h=>by have:=qK t;lia
 |d+1, .bl n,r,S,Q,E,hd,hr,ha,hf,hw,h=>by
  simp only[Tr.br]at hf;simp only[Tr.aD]at h;rw[w9];simp only[j8];ext;have e:nW (af us) n=aa (j8 (us.getD n.toNat (.bl n))):=by
   have q:=tE (xs:=af us) (n:=n.toNat);rw[cH hf.1]at q;rw[q,qc,aV,bw,aP `l];rfl
  rw[nG ha,e];exact⟨S, .refl,h⟩
 |d+1, .nd s ts,r,S,Q,E,hd,hr,ha,hf,hw,h=>by
  simp only[Tr.br]at hf;simp only[Tr.aD]at h;simp only[Tr.depth]at hd;simp only[Tr.ao]at hw;have hk:=qX ts;rw[w9];simp only[j8]at h⊢;ext;rw[IE];rw[qc];refine qk (λσ=>∃x,σ=[x,aa (.ref a)]) j8 (λt=>j8 (t.aD us)) trivial ts [] _ ⟨none,rfl⟩ (by simp;lia) (λx hx σ R hI hR=>?_) ?_
  ·obtain⟨y,rfl⟩:=hI;have hdx:=p_ hx;have hwx:=pk hx;have:=qK x;right
   simp only[NJ];ext;exact GX d (t:=x) (r:=r) `l `l ha (zO hf hx) `l (hR _ _ ⟨_,rfl⟩ .refl)
  ·rw[aM];ext;refine⟨nH (by simp;lia),S, .refl,?_⟩;have e:af (nN us ts)=ts.map λt=>j8 (t.aD us):=by rw[qc,yz,bh];rfl
   rw[e]at h;exact h
def bH (n:Nat) (h c d:ah):List Tr:=
 match n with
 |0=>[.nd h [.bl 0]]
 |1=>[.nd h [.bl 0, .bl 1]]
 |2=>[.nd h [.nd c []], .nd h [.nd d [.bl 0]]]
 |3=>[.nd h [.nd c [], .bl 0], .nd h [.nd d [.bl 0], .bl 1]]
 |4=>[.nd h [.nd d [.nd d [.bl 0]], .bl 1, .bl 2], .nd h [.nd d [.nd c []], .bl 0, .bl 1]]
 |_=>[.nd h []]
section
variable {w0 w1 w2 w3 w4 w5:ah}{r:Nat}{S:kB}{Q:WK}{E:ah→kB→Prop}
noncomputable abbrev qa (w0 w1 w2 w3 w4 w5:ah):List W:=[.str w0, .str w1, .str w2, .str w3, .str w4, .str w5]
theorem qL:nW (qa w0 w1 w2 w3 w4 w5) 0=aa (.str w0):=rfl
theorem qO:nW (qa w0 w1 w2 w3 w4 w5) 1=aa (.str w1):=rfl
theorem qm:nW (qa w0 w1 w2 w3 w4 w5) 2=aa (.str w2):=rfl
theorem qB:nW (qa w0 w1 w2 w3 w4 w5) 3=aa (.str w3):=rfl
theorem qp:nW (qa w0 w1 w2 w3 w4 w5) 4=aa (.str w4):=rfl
theorem ql:nW (qa w0 w1 w2 w3 w4 w5) 5=aa (.str w5):=rfl
def Q_{n:Int}{h c d:ah}(H:∀(p:ai) (k:Nat),S p=none→Q (.ref p) (bQ S p (.bJ (af (bH k h c d))))):Bz (r+1) [.int n, .str h, .str c, .str d] S Q E:=by
 rw[Bz,u0];refine⟨rfl,?_⟩;have l1:1≤sizeLine:=nH `d;have l2:2≤sizeLine:=nH `d;have l3:3≤sizeLine:=nH `d;have l4:4≤sizeLine:=nH `d;refine Ah λT hT=>?_;ext;refine AC (λ_=>⟨l2,l1,λp hp=>⟨_, .refl,by simpa only[bH,j8,af]using H p 0 hp⟩⟩) λ_=>?_
 subst hT;refine Ah λT hT=>?_;ext;refine AC (λ_=>⟨l3,l1,λp hp=>⟨_, .refl,by simpa only[bH,j8,af]using H p 1 hp⟩⟩) λ_=>?_
 subst hT;refine Ah λT hT=>?_;ext;refine AC (λ_=>⟨l1,l2,l2,l2,l2,λp hp=>⟨_, .refl,by simpa only[bH,j8,af]using H p 2 hp⟩⟩) λ_=>?_
 subst hT;refine Ah λT hT=>?_;ext;refine AC (λ_=>⟨l1,l3,l2,l3,l2,λp hp=>⟨_, .refl,by simpa only[bH,j8,af]using H p 3 hp⟩⟩) λ_=>?_
 subst hT;refine Ah λT hT=>?_;ext;refine AC (λ_=>⟨l2,l2,l4,l1,l2,l4,l2,λp hp=>⟨_, .refl,by simpa only[bH,j8,af]using H p 4 hp⟩⟩) λ_=>?_
 subst hT;ext;exact⟨l1,l1,λp hp=>⟨_, .refl,by simpa only[bH,j8,af]using H p 5 hp⟩⟩
end
section
variable {w0 w1:ah}{j:Int}
def Cr (n:Nat) (h c d:ah):1≤(bH n h c d).length∧(bH n h c d).length≤2:=by
 unfold bH;split<;>simp
noncomputable def sT (w0 w1:ah) (j:Nat):ah:=if j=0 then w0 else w1
end
noncomputable def wg (x:ah):Bool:=decide (1≤x.cps.toList.length)&&(decide (x.cps.toList.length≤8)&&aE x.cps.toList)
def Rx (xs:List Nat):aE xs=true↔ ∀c∈xs,tF c:=by
 unfold aE;rw[cY];simp only[yo,tF,bN,decide_eq_true_eq]
def CA (x:ah):wg x=true↔px x:=by
 unfold wg px;rw[bN,bN,decide_eq_true_eq,decide_eq_true_eq,Rx]
def CN (h:px x) (g:qC y):x≠y:=by
 rintro rfl;obtain⟨c,r,e,h1,h2,_⟩:=g;have:=h.2.2 c (by rw[e];exact aI);unfold tF at this;lia
def SE (g:qC y):1≤y.cps.toList.length∧y.cps.toList.length≤8:=by
 obtain⟨c,r,e,h1,h2,h3,_⟩:=g;rw[e,aT];lia
mutual
def Tr.hd (P:ah→Prop):Tr→Prop
 | .bl _=>False
 | .nd s ts=>P s∧hds P ts
def hds (P:ah→Prop):List Tr→Prop
 | []=>True
 |t::ts=>t.hd P∧hds P ts
end
mutual
def Tr.hb (P:ah→Prop):Tr→Prop
 | .bl _=>True
 | .nd s ts=>P s∧o6 P ts
def o6 (P:ah→Prop):List Tr→Prop
 | []=>True
 |t::ts=>t.hb P∧o6 P ts
end
theorem nV{P:ah→Prop}:∀{ts:List Tr},hds P ts↔ ∀t∈ts,t.hd P
 | []=>by simp [hds]
 |t::ts=>by simp [hds,nV (ts:=ts)]
mutual
theorem vW{P P':ah→Prop}(h:∀s,P s→P' s):∀(t:Tr),t.hd P→t.hd P'
 | .bl _,q=>by simp [Tr.hd]at q
 | .nd s ts,q=>by
  simp only[Tr.hd]at q⊢;exact⟨h s q.1,MQ h ts q.2⟩
theorem MQ{P P':ah→Prop}(h:∀s,P s→P' s):∀(ts:List Tr),hds P ts→hds P' ts
 | [],_=>by simp [hds]
 |t::ts,q=>by
  simp only[hds]at q⊢;exact⟨vW h t q.1,MQ h ts q.2⟩
end
mutual
theorem Hu{P P':ah→Prop}(h:∀s,P s→P' s):∀(t:Tr),t.hb P→t.hb P'
 | .bl _,q=>by simp [Tr.hb]
 | .nd s ts,q=>by
  simp only[Tr.hb]at q⊢;exact⟨h s q.1,LM h ts q.2⟩
theorem LM{P P':ah→Prop}(h:∀s,P s→P' s):∀(ts:List Tr),o6 P ts→o6 P' ts
 | [],_=>by simp [o6]
 |t::ts,q=>by
  simp only[o6]at q⊢;exact⟨Hu h t q.1,LM h ts q.2⟩
end
mutual
theorem F1{P:ah→Prop}(hu:∀u∈us,u.hd P):∀(t:Tr),t.hb P→t.br us.length→(t.aD us).hd P
 | .bl n,h,f=>by
  simp only[Tr.br]at f;simp only[Tr.aD];rw[bw,aP (show n.toNat<us.length by lia)]
  exact hu _ (d9 ..)
 | .nd s ts,h,f=>by
  simp only[Tr.br]at f;simp only[Tr.hb]at h;simp only[Tr.aD,Tr.hd];exact⟨h.1,J1 hu ts h.2 f⟩
theorem J1{P:ah→Prop}(hu:∀u∈us,u.hd P):∀(ts:List Tr),o6 P ts→ny us.length ts→hds P (nN us ts)
 | [],h,f=>by simp [nN,hds]
 |t::ts,h,f=>by
  simp only[ny]at f;simp only[o6]at h;simp only[nN,hds];exact⟨F1 hu t h.1 f.1,J1 hu ts h.2 f.2⟩
end
structure rp (ws:List ah) (m:Nat) (t:Tr):Prop where
  dp:t.depth≤4
  br:t.br m
  hb:∀{P:ah→Prop},(∀x∈ws,P x)→t.hb P
  wt:t.ao≤7
def Yb (B:List Tn):Prop:=∀t∈B,∀(us:List Tr) (M:Nat),us.length=t.2.1.nb→1≤M→(∀u∈us,u.ao≤M)→(t.2.2.aD us).ao≤2+2*M∧(t.2.1.nb=0→(t.2.2.aD us).ao≤1+M)
structure m_ (w0 w1 w2 w3 w4 w5:ah) (tt:List ah) (B:List Tn):Prop where
  lf:∃n m:Nat,B.map (λt=>t.2.1)=bH n w0 w2 w3++bH m w1 w2 w3
  ti:B.map (λt=>t.1)=tt.take B.length
  ri:∀t∈B,rp [w0,w1,w2,w3,w4,w5] t.2.1.nb t.2.2
structure tV (P:ah→Prop) (L:Tr):Prop where
  hb:L.hb P
  br:L.br L.nb
  wt:L.ao≤L.nb+3
  dp:L.depth≤4
  nb:L.nb≤3
  nd:∃s ts,L= .nd s ts
  fw:∀us:List Tr,us.length=L.nb→(L.aD us).ao≤3+nB us
  fw0:L.nb=0→(L.aD []).ao≤2
def PH (h:us.length=2):∃u v,us=[u,v]:=by
 obtain⟨u,vs,rfl⟩:=li h;obtain⟨v,rfl⟩:=lj.1 (ir.inj h);exact⟨u,v,rfl⟩
def BW{P:Tr→List Tr→Prop}(hL:L∈bH n h c d) (hu:us.length=L.nb) (a:∀u,P (.nd h [.bl 0]) [u]) (b:∀u v,P (.nd h [.bl 0, .bl 1]) [u,v]) (c0:P (.nd h [.nd c []]) []) (c1:∀u,P (.nd h [.nd d [.bl 0]]) [u]) (d0:∀u,P (.nd h [.nd c [], .bl 0]) [u]) (d1:∀u v,P (.nd h [.nd d [.bl 0], .bl 1]) [u,v]) (e0:∀u v x,P (.nd h [.nd d [.nd d [.bl 0]], .bl 1, .bl 2]) [u,v,x]) (e1:∀u v,P (.nd h [.nd d [.nd c []], .bl 0, .bl 1]) [u,v]) (f:P (.nd h []) []):P L us:=by
 unfold bH at hL;split at hL<;>simp only[aB,bo,or_false]at hL
 all_goals (first |subst hL |rcases hL with rfl |rfl)<;>first | (cases List.length_eq_zero_iff.1 hu;assumption) | (obtain⟨u,rfl⟩:=lj.1 hu;apply_assumption) | (obtain⟨u,v,rfl⟩:=PH hu;apply_assumption) | (obtain⟨u,us,rfl⟩:=li hu;obtain⟨v,x,rfl⟩:=PH (ir.inj hu);exact e0 u v x)
def B4{P:ah→Prop}(hh:P h) (hc:P c) (hd:P d):∀L∈bH n h c d,tV P L:=λL hL=>by
 have H:L.hb P∧L.br L.nb∧L.ao≤L.nb+3∧L.depth≤4∧L.nb≤3∧(∃s ts,L= .nd s ts)∧(L.nb=0→(L.aD []).ao≤2):=by
  apply BW (P:=λL us=>L.hb P∧L.br L.nb∧L.ao≤L.nb+3∧L.depth≤4∧L.nb≤3∧(∃s ts,L= .nd s ts)∧(L.nb=0→(L.aD []).ao≤2)) (us:=bp L.nb (.bl 0)) hL gT<;>intros<;>simp [Tr.hb,o6,hh,hc,hd,Tr.br,ny,Tr.nb,nbs,Tr.ao,nB,Tr.depth,nL,Tr.aD,nN]
 exact⟨H.1,H.2.1,H.2.2.1,H.2.2.2.1,H.2.2.2.2.1,H.2.2.2.2.2.1,λus hu=>by apply BW (P:=λL us=>(L.aD us).ao≤3+nB us) hL hu<;>intros<;>simp [Tr.aD,nN,Tr.ao,nB]<;>lia,H.2.2.2.2.2.2⟩
def m_.len (b:m_ w0 w1 w2 w3 w4 w5 tt B):2≤B.length∧B.length≤4:=by
 obtain⟨n,m,e⟩:=b.lf;have h1:=Cr n w0 w2 w3;have h2:=Cr m w1 w2 w3;have e':=congrArg dF e;rw[ay,aW]at e';lia
def m_.left (b:m_ w0 w1 w2 w3 w4 w5 tt B) {P:ah→Prop}(h0:P w0) (h1:P w1) (h2:P w2) (h3:P w3) (ht:t∈B):tV P t.2.1:=by
 obtain⟨n,m,e⟩:=b.lf;have:t.2.1∈bH n w0 w2 w3++bH m w1 w2 w3:=by rw[←e];exact aL.mpr ⟨t,ht,rfl⟩
 obtain z |z:=bu.mp this
 ·exact B4 h0 h2 h3 _ z
 ·exact B4 h1 h2 h3 _ z
def m_.nodup (b:m_ w0 w1 w2 w3 w4 w5 tt B) (T:qz tt):(B.map λt=>t.1).Nodup:=by
 rw[b.ti];exact jG.sublist (md ..) T.nd
def m_.mem (b:m_ w0 w1 w2 w3 w4 w5 tt B) (ht:t∈B):t.1∈tt:=by
 have:t.1∈B.map λt=>t.1:=aL.mpr ⟨t,ht,rfl⟩;rw[b.ti]at this;exact jA this
def nF (B:List Tn) (s:ah):Option Tn:=B.find? λt=>t.1 == s
theorem rK:∀{B:List Tn}{t:Tn},(B.map λt=>t.1).Nodup→t∈B→nF B t.1=aa t
 |u::B,t,hn,ht=>by
  unfold nF;rw[az,eI]at hn;rw[b8];obtain rfl |ht:=aB.mp ht
  ·simp
  ·have hne:u.1≠t.1:=λz=>hn.1 (by rw[z];exact aL.mpr ⟨t,ht,rfl⟩);have:(u.1 == t.1)=false:=by simpa using hne
   rw[this];exact rK hn.2 ht
def GG (h:∀t∈B,t.1≠s):nF B s=none:=by
 unfold nF;rw[gr];intro t ht;simpa using h t ht
noncomputable def tN (B:List Tn) (s:ah) (n:Nat):Bool:=match nF B s with
 |none=>wg s
 |some t=>n == t.2.1.nb
mutual
noncomputable def Tr.way (B:List Tn):Tr→Bool
 | .bl _=>false
 | .nd s ts=>tN B s ts.length&&ways B ts
noncomputable def ways (B:List Tn):List Tr→Bool
 | []=>true
 |t::ts=>t.way B&&ways B ts
end
mutual
noncomputable def Tr.dM:Tr→Bool
 | .bl _=>false
 | .nd s ts=>wg s&&rF ts
noncomputable def rF:List Tr→Bool
 | []=>true
 |t::ts=>t.dM&&rF ts
end
theorem Fn (B:List Tn):∀ts:List Tr,ways B ts=ts.all (Tr.way B)
 | []=>by simp [ways]
 |t::ts=>by simp [ways,Fn B ts]
theorem Ox:∀ts:List Tr,rF ts=ts.all Tr.dM
 | []=>by simp [rF]
 |t::ts=>by simp [rF,Ox ts]
mutual
theorem DH:∀t:Tr,t.hd px→t.dM=true
 | .bl n,h=>by simp [Tr.hd]at h
 | .nd s ts,h=>by
  simp only[Tr.hd]at h;rw[Tr.dM,(CA s).mpr h.1,HN ts h.2];rfl
theorem HN:∀ts:List Tr,hds px ts→rF ts=true
 | [],h=>by simp [rF]
 |t::ts,h=>by
  simp only[hds]at h;rw[rF,DH t h.1,HN ts h.2];rfl
end
mutual
theorem EE (hB:∀t∈B,qC t.1) (hu:∀u∈us,u.way B=true):∀(t:Tr),t.hb px→t.br us.length→(t.aD us).way B=true
 | .bl n,h,f=>by
  simp only[Tr.br]at f;simp only[Tr.aD];rw[bw,aP (show n.toNat<us.length by lia)]
  exact hu _ (d9 ..)
 | .nd s ts,h,f=>by
  simp only[Tr.br]at f;simp only[Tr.hb]at h;simp only[Tr.aD,Tr.way];rw[N6 hB hu ts h.2 f,tN,GG λt ht=>(CN h.1 (hB t ht)).symm,(CA s).mpr h.1];rfl
theorem N6 (hB:∀t∈B,qC t.1) (hu:∀u∈us,u.way B=true):∀(ts:List Tr),o6 px ts→ny us.length ts→ways B (nN us ts)=true
 | [],h,f=>by simp [nN,ways]
 |t::ts,h,f=>by
  simp only[ny]at f;simp only[o6]at h;rw[nN,ways,EE hB hu t h.1 f.1,N6 hB hu ts h.2 f.2];rfl
end
inductive Pl where
  |nd (k bits:Int) (head:ah) (ps:List Pl)
mutual
noncomputable def Pl.wt:Pl→Nat
 | .nd _ _ _ ps=>1+bB ps
noncomputable def bB:List Pl→Nat
 | []=>0
 |p::ps=>p.wt+bB ps
end
mutual
noncomputable def Pl.dp:Pl→Nat
 | .nd _ _ _ ps=>1+sQ ps
noncomputable def sQ:List Pl→Nat
 | []=>0
 |p::ps=>max p.dp (sQ ps)
end
mutual
noncomputable def Pl.nt:Pl→Nat
 | .nd k _ _ ps=>(if k<0 then 0 else 1)+bt ps
noncomputable def bt:List Pl→Nat
 | []=>0
 |p::ps=>p.nt+bt ps
end
inductive nU (ws:List ah) (B:List Tn):Pl→Prop
 |sign {b:Int}{h:ah}{ps:List Pl}:h∈ws→(∀p∈ps,nU ws B p)→nU ws B (.nd (-1) b h ps)
 |turn {k:Nat}{b:Int}{h:ah}{ps:List Pl}{t:Tn}:B[k]? =aa t→ps.length=t.2.1.nb→0≤b→b<8→(∀p∈ps,nU ws B p)→nU ws B (.nd k b h ps)
mutual
noncomputable def Pl.ev (B:List Tn) (c:Int→Nat):Pl→Tr
 | .nd k b h ps=>if k<0 then .nd h (vy B c ps) else match c b with
  |0=>(B.getD k.toNat (h, .bl 0, .bl 0)).2.1.aD (vy B c ps)
  |1=> .nd (B.getD k.toNat (h, .bl 0, .bl 0)).1 (vy B c ps)
  |_=>(B.getD k.toNat (h, .bl 0, .bl 0)).2.2.aD (vy B c ps)
noncomputable def vy (B:List Tn) (c:Int→Nat):List Pl→List Tr
 | []=>[]
 |p::ps=>p.ev B c::vy B c ps
end
theorem EJ (B:List Tn) (c:Int→Nat):∀ps:List Pl,vy B c ps=ps.map (Pl.ev B c)
 | []=>by simp [vy]
 |p::ps=>by simp [vy,EJ B c ps]
theorem xE:∀ps qs:List Pl,bB (ps++qs)=bB ps+bB qs
 | [],qs=>by simp [bB]
 |p::ps,qs=>by simp [bB,xE ps qs];lia
theorem xm:∀ps qs:List Pl,bt (ps++qs)=bt ps+bt qs
 | [],qs=>by simp [bt]
 |p::ps,qs=>by simp [bt,xm ps qs];lia
theorem Dy:∀{ps:List Pl},p∈ps→p.dp≤sQ ps
 |q::ps,h=>by
  obtain rfl |h:=aB.mp h
  ·simp [sQ];lia
  ·have:=Dy h;simp [sQ];lia
mutual
theorem Ln:∀p:Pl,p.dp≤p.wt
 | .nd k b h ps=>by have:=Io ps;simp [Pl.dp,Pl.wt];lia
theorem Io:∀ps:List Pl,sQ ps≤bB ps
 | []=>by simp [sQ]
 |p::ps=>by have:=Ln p;have:=Io ps;simp [sQ,bB];lia
end
def SX (p:Pl):1≤p.dp:=by cases p;simp [Pl.dp]
def zyk (p:Pl):1≤p.wt:=by cases p;simp [Pl.wt]
def pL{c:Int→Nat}:(Pl.nd (-1) b h ps).ev B c= .nd h (ps.map (Pl.ev B c)):=by
 rw[Pl.ev,if_pos `d,EJ]
noncomputable def rM (t:Tn) (n:Nat) (us:List Tr):Tr:=match n with
 |0=>t.2.1.aD us
 |1=> .nd t.1 us
 |_=>t.2.2.aD us
def oE{B:List Tn}{c:Int→Nat}{b:Int}{h:ah}{ps:List Pl}{k:Nat}{t:Tn}(e:B[k]? =aa t):(Pl.nd k b h ps).ev B c=rM t (c b) (ps.map (Pl.ev B c)):=by
 rw[Pl.ev,if_neg `l,EJ,bn,bw,e];rfl
structure oP (ws hs:List ah) (B:List Tn):Prop where
  ti:∀t∈B,qC t.1
  nd:(B.map λt=>t.1).Nodup
  sg:∀x∈ws,px x
  sb:∀x∈hs,x∈ws
  lf:∀t∈B,tV px t.2.1
  ri:∀t∈B,rp ws t.2.1.nb t.2.2
def m_.bk (b:m_ w0 w1 w2 w3 w4 w5 tt B) (T:qz tt) (G:oH w0 w1 w2 w3 w4 w5):oP [w0,w1,w2,w3,w4,w5] [w2,w3,w4,w5] B:=
 ⟨λt ht=>T.ok _ (b.mem ht),b.nodup T,G.ok,λx hx=>aG _ (aG _ hx),λt ht=>b.left (G.ok _ `s) (G.ok _ `s) (G.ok _ `s) (G.ok _ `s) ht,b.ri⟩
section
variable {ws hs:List ah}{B:List Tn}{c:Int→Nat}
def R9 (b:oP ws hs B) {p:Pl}(h:nU hs B p):(p.ev B c).way B=true:=by
 induction h with
 | @sign b' h ps hh hp ih=>
  rw[pL,Tr.way,tN,GG λt ht=>(CN (b.sg h (b.sb h hh)) (b.ti t ht)).symm,Fn,(CA h).mpr (b.sg h (b.sb h hh))];simp only[fD,iL,cY];exact λp hp=>ih p hp
 | @turn k b' h ps t e hl b0 b1 hp ih=>
  have ht:t∈B:=aN e;have hu:∀u∈ps.map (Pl.ev B c),u.way B=true:=λu hu=>by
   obtain⟨p,hp,rfl⟩:=aL.mp hu;exact ih p hp
  rw[oE e];unfold rM;split
  ·exact EE b.ti hu _ (b.lf t ht).hb (by rw[ay,hl];exact(b.lf t ht).br)
  ·rw[Tr.way,tN,rK b.nd ht,Fn];simp only[ay,hl,beq_self_eq_true,iL,cY];exact hu
  ·exact EE b.ti hu _ ((b.ri t ht).hb b.sg) (by rw[ay,hl];exact(b.ri t ht).br)
theorem GQ:∀{ps:List Pl},p∈ps→p.nt≤bt ps
 |q::ps,h=>by
  obtain rfl |h:=aB.mp h
  ·simp [bt]
  ·have:=GQ h;simp [bt];lia
theorem MW:∀{ps:List Pl},p∈ps→p.wt≤bB ps
 |q::ps,h=>by
  obtain rfl |h:=aB.mp h
  ·simp [bB]
  ·have:=MW h;simp [bB];lia
end
mutual
noncomputable def Tr.mk (B:List Tn) (g:Tn→Tr):Tr→Tr
 | .bl n=> .bl n
 | .nd s ts=>match nF B s with
  |none=> .nd s (sk B g ts)
  |some t=>(g t).aD (sk B g ts)
noncomputable def sk (B:List Tn) (g:Tn→Tr):List Tr→List Tr
 | []=>[]
 |t::ts=>t.mk B g::sk B g ts
end
theorem xO (B:List Tn) (g:Tn→Tr):∀ts:List Tr,sk B g ts=ts.map (Tr.mk B g)
 | []=>by simp [sk]
 |t::ts=>by simp [sk,xO B g ts]
def BO{g:Tn→Tr}(h:nF B s=none):(Tr.nd s ts).mk B g= .nd s (ts.map (Tr.mk B g)):=by
 rw[Tr.mk,h,xO]
def BU{g:Tn→Tr}(h:nF B s=aa t):(Tr.nd s ts).mk B g=(g t).aD (ts.map (Tr.mk B g)):=by
 rw[Tr.mk,h,xO]
def qh (hB:∀t∈B,qC t.1) (h:px s):nF B s=none:=GG λt ht=>(CN h (hB t ht)).symm
mutual
theorem Di{g:Tn→Tr}(hB:∀t∈B,qC t.1):∀t:Tr,t.hd px→t.mk B g=t
 | .bl n,h=>by simp [Tr.hd]at h
 | .nd s ts,h=>by
  simp only[Tr.hd]at h;rw[Tr.mk,qh hB h.1,MR hB ts h.2]
theorem MR{g:Tn→Tr}(hB:∀t∈B,qC t.1):∀ts:List Tr,hds px ts→sk B g ts=ts
 | [],h=>by simp [sk]
 |t::ts,h=>by
  simp only[hds]at h;rw[sk,Di hB t h.1,MR hB ts h.2]
end
mutual
theorem CH{g:Tn→Tr}(hB:∀t∈B,qC t.1):∀t:Tr,t.hb px→t.br us.length→(t.aD us).mk B g=t.aD (us.map (Tr.mk B g))
 | .bl n,h,f=>by
  simp only[Tr.br]at f;simp only[Tr.aD];rw[bw,bw,aV,aP (show n.toNat<us.length by lia)]
  rfl
 | .nd s ts,h,f=>by
  simp only[Tr.hb]at h;simp only[Tr.br]at f;simp only[Tr.aD];rw[Tr.mk,qh hB h.1];simp only[];rw[Il hB ts h.2 f]
theorem Il{g:Tn→Tr}(hB:∀t∈B,qC t.1):∀ts:List Tr,o6 px ts→ny us.length ts→sk B g (nN us ts)=nN (us.map (Tr.mk B g)) ts
 | [],h,f=>by simp [nN,sk]
 |t::ts,h,f=>by
  simp only[o6]at h;simp only[ny]at f;rw[nN,sk,nN,CH hB t h.1 f.1,Il hB ts h.2 f.2]
end
section
variable {ws hs:List ah}{B:List Tn}{c d:Int→Nat}
def HC (b:oP ws hs B) {g:Tn→Tr}(hg:∀t∈B,∀x:Int,0≤x→x<8→c x=1→ ∀us,(g t).aD us=rM t (d x) us) (h0:∀x:Int,0≤x→x<8→c x≠1→d x=c x) {p:Pl}(h:nU hs B p):(p.ev B c).mk B g=p.ev B d:=by
 induction h with
 | @sign b' h ps hh hp ih=>
  rw[pL,pL,BO (qh b.ti (b.sg h (b.sb h hh))),bh];congr 1;exact c7 λp hp=>ih p hp
 | @turn k b' h ps t e hl b0 b1 hp ih=>
  have ht:t∈B:=aN e;have em:(ps.map (Pl.ev B c)).map (Tr.mk B g)=ps.map (Pl.ev B d):=by
   rw[bh];exact c7 λp hp=>ih p hp
  rw[oE e,oE e];by_cases hc:c b'=1
  ·rw[←hg t ht b' b0 b1 hc,hc];show(Tr.nd t.1 _).mk B g=_;rw[BU (rK b.nd ht),em]
  ·rw[h0 b' b0 b1 hc];unfold rM;split
   ·rw[CH b.ti _ (b.lf t ht).hb (by rw[ay,hl];exact(b.lf t ht).br),em]
   ·rename_i z;exact absurd z hc
   ·rw[CH b.ti _ ((b.ri t ht).hb b.sg) (by rw[ay,hl];exact(b.ri t ht).br),em]
def uW (c:Int→Nat):Int→Nat:=λx=>if c x=1 then 0 else c x
def sJ (c:Int→Nat):Int→Nat:=λx=>if c x=1 then 2 else c x
def vM (b:oP ws hs B) (h:nU hs B p):(p.ev B c).mk B (λt=>t.2.1)=p.ev B (uW c):=
 HC b (λt ht x _ _ hx us=>by rw[uW,if_pos hx];rfl) (λx _ _ hx=>by rw[uW,if_neg hx]) h
def vn (b:oP ws hs B) (h:nU hs B p):(p.ev B c).mk B (λt=>t.2.2)=p.ev B (sJ c):=
 HC b (λt ht x _ _ hx us=>by rw[sJ,if_pos hx];rfl) (λx _ _ hx=>by rw[sJ,if_neg hx]) h
def uh{p:Pl}(h:nU hs B p) (hc:∀x:Int,0≤x→x<8→c x=d x):p.ev B c=p.ev B d:=by
 induction h with
 | @sign b' h ps hh hp ih=>
  rw[pL,pL];congr 1;exact c7 λp hp=>ih p hp
 | @turn k b' h ps t e hl b0 b1 hp ih=>
  rw[oE e,oE e,hc b' b0 b1];congr 1;exact c7 λp hp=>ih p hp
end
def Hr (hL:L∈bH n h c d) (hu:us.length=L.nb):L.mt (L.aD us)=aa us:=by
 apply BW (P:=λL us=>L.mt (L.aD us)=aa us) hL hu<;>intros<;>simp [Tr.aD,nN,Tr.mt,oB]
def FI (B:List Tn):Prop:=∀t∈B,∀us:List Tr,us.length=t.2.1.nb→t.2.1.mt (t.2.1.aD us)=aa us
def m_.mt (b:m_ w0 w1 w2 w3 w4 w5 tt B):FI B:=λt ht us hu=>by
 obtain⟨n,m,e⟩:=b.lf;have:t.2.1∈bH n w0 w2 w3++bH m w1 w2 w3:=by rw[←e];exact aL.mpr ⟨t,ht,rfl⟩
 obtain z |z:=bu.mp this
 ·exact Hr z hu
 ·exact Hr z hu
mutual
inductive Mv (B:List Tn):Nat→Tr→Tr→Tr→Prop
 |nn {n:Nat}{s z:ah}{ts us cs:List Tr}:nF B s=none→nF B z=none→oZ B n ts us cs→Mv B (n+1) (.nd s ts) (.nd z us) (.nd s cs)
 |ns {n:Nat}{s z:ah}{ts us cs ms:List Tr}{t:Tn}:nF B s=none→nF B z=aa t→t.2.1.mt (.nd s ts)=aa ms→cs.length=t.2.1.nb→oZ B n ms us cs→Mv B (n+1) (.nd s ts) (.nd z us) (t.2.2.aD cs)
 |sn {n:Nat}{s z:ah}{ts us cs ms:List Tr}{t:Tn}:nF B s=aa t→nF B z=none→t.2.1.mt (.nd z us)=aa ms→oZ B n ts ms cs→Mv B (n+1) (.nd s ts) (.nd z us) (.nd s cs)
 |ss {n:Nat}{s z:ah}{ts us cs:List Tr}{t t':Tn}:nF B s=aa t'→nF B z=aa t→cs.length=t.2.1.nb→oZ B n ts us cs→Mv B (n+1) (.nd s ts) (.nd z us) (t.2.2.aD cs)
inductive oZ (B:List Tn):Nat→List Tr→List Tr→List Tr→Prop
 |nil {n:Nat}:oZ B n [] [] []
 |cons {n:Nat}{a b c:Tr}{as bs cs:List Tr}:Mv B n a b c→oZ B n as bs cs→oZ B n (a::as) (b::bs) (c::cs)
end
theorem Ev (f:∀{a b c:Tr},Mv B n a b c→Mv B m a b c):∀(a:List Tr) {b c:List Tr},oZ B n a b c→oZ B m a b c
 | [],_,_,h=>by cases h;exact .nil
 |_::a,_,_,h=>by
  cases h with
  |cons h1 h2=>exact .cons (f h1) (Ev f a h2)
def Mv.monoA:∀{a b c:Tr},Mv B n a b c→ ∀m,n≤m→Mv B m a b c:=by
 induction n with
 |zero=>intro a b c h;cases h
 |succ n ih=>
  intro a b c h m hm;obtain⟨m,rfl⟩:∃m',m=m'+1:=⟨m - 1,`l⟩
  have k:∀{a b c:List Tr},oZ B n a b c→oZ B m a b c:=λ{a _ _}=>Ev (λh=>ih h m `l) a;cases h with
  |nn h1 h2 h3=>exact .nn h1 h2 (k h3)
  |ns h1 h2 h3 h4 h5=>exact .ns h1 h2 h3 h4 (k h5)
  |sn h1 h2 h3 h4=>exact .sn h1 h2 h3 (k h4)
  |ss h1 h2 h3 h4=>exact .ss h1 h2 h3 (k h4)
def oZ.monoA (h:oZ B n a b c) (m:Nat) (hm:n≤m):oZ B m a b c:=Ev (λk=>Mv.monoA k m hm) a h
def Mv.mono (h:n≤m) (M:Mv B n a b c):Mv B m a b c:=Mv.monoA M m h
def oZ.mono (h:n≤m) (M:oZ B n a b c):oZ B m a b c:=oZ.monoA M m h
def oZ.get:∀{as bs cs:List Tr}{i:Nat},oZ B n as bs cs→i<cs.length→ ∃a b c,as[i]? =aa a∧bs[i]? =aa b∧cs[i]? =aa c∧Mv B n a b c:=by
 intro as
 induction as with
 |nil=>intro bs cs i h g;cases h;cases g
 |cons a as ih=>
  intro bs cs i h g;cases h with
  |cons h1 h2=>
   cases i with
   |zero=>exact⟨_,_,_,rfl,rfl,rfl,h1⟩
   |succ i=>exact ih h2 (Nat.lt_of_succ_lt_succ g)
theorem oZ.of{α:Type}{f g h:α→Tr}:∀(xs:List α),(∀x∈xs,Mv B n (f x) (g x) (h x))→oZ B n (xs.map f) (xs.map g) (xs.map h)
 | [],_=> .nil
 |x::xs,q=> .cons (q x aI) (oZ.of xs λy hy=>q y (aG _ hy))
mutual
theorem FE (hB:∀t∈B,qC t.1) (h:oZ B n us vs cs):∀t:Tr,t.hb px→t.br cs.length→Mv B (n+t.depth) (t.aD us) (t.aD vs) (t.aD cs)
 | .bl k,q,f=>by
  simp only[Tr.br]at f;obtain⟨a,b,c,e1,e2,e3,m⟩:=h.get (i:=k.toNat) `l;simp only[Tr.aD,bw,e1,e2,e3,fF];exact m.mono `l
 | .nd s ts,q,f=>by
  simp only[Tr.hb]at q;simp only[Tr.br]at f;have:=OV hB h ts q.2 f;simp only[Tr.aD,Tr.depth];rw[show n+(1+nL ts)=n+nL ts+1 by lia]
  exact .nn (qh hB q.1) (qh hB q.1) this
theorem OV (hB:∀t∈B,qC t.1) (h:oZ B n us vs cs):∀ts:List Tr,o6 px ts→ny cs.length ts→oZ B (n+nL ts) (nN us ts) (nN vs ts) (nN cs ts)
 | [],q,f=>by simp only[nN];exact .nil
 |t::ts,q,f=>by
  simp only[o6]at q;simp only[ny]at f;have h1:=FE hB h t q.1 f.1;have h2:=OV hB h ts q.2 f.2;simp only[nN,nL];exact .cons (h1.mono `l) (h2.mono `l)
end
def oy (c d:Int→Nat):Int→Nat:=λx=>if d x=1 then 2 else c x
def vj{ws hs:List ah}{B:List Tn}{c d:Int→Nat}(b:oP ws hs B) (hm:FI B) (hc:∀x:Int,0≤x→x<8→(c x≤1∧d x≤1)∨(c x=2∧d x=2)) {p:Pl}(h:nU hs B p):Mv B (p.dp+3*p.nt) (p.ev B c) (p.ev B d) (p.ev B (oy c d)):=by
 induction h with
 | @sign b' h ps hh hp ih=>
  rw[pL,pL,pL,Pl.dp,Pl.nt,if_pos `d,show 1+sQ ps+3*(0+bt ps)=sQ ps+3*bt ps+1 by lia]
  refine .nn (qh b.ti (b.sg h (b.sb h hh))) (qh b.ti (b.sg h (b.sb h hh))) (.of ps λp hp=>(ih p hp).mono ?_);have:=Dy hp;have:=GQ hp;lia
 | @turn k b' h ps t e hl b0 b1 hp ih=>
  have ht:t∈B:=aN e;have en:(Pl.nd k b' h ps).nt=1+bt ps:=by rw[Pl.nt,if_neg `l]
  have M:oZ B (sQ ps+3*bt ps) (ps.map (Pl.ev B c)) (ps.map (Pl.ev B d)) (ps.map (Pl.ev B (oy c d))):= .of ps λp hp=>(ih p hp).mono (by
   have:=Dy hp;have:=GQ hp;lia)
  have lc:(ps.map (Pl.ev B (oy c d))).length=t.2.1.nb:=by rw[ay,hl]
  have l1:(ps.map (Pl.ev B c)).length=t.2.1.nb:=by rw[ay,hl]
  have l2:(ps.map (Pl.ev B d)).length=t.2.1.nb:=by rw[ay,hl]
  have tt:=rK b.nd ht;have L:=b.lf t ht;have R:=b.ri t ht;have hd:=L.dp;rw[oE e,oE e,oE e,Pl.dp,en,show 1+sQ ps+3*(1+bt ps)=sQ ps+3*bt ps+3+1 by lia]
  have lsign:∀us,∃s ts,t.2.1.aD us= .nd s ts∧nF B s=none:=λus=>by
   obtain⟨s,ts,el⟩:=L.nd;have hb:=L.hb;rw[el,Tr.hb]at hb;exact⟨s,nN us ts,by rw[el,Tr.aD],qh b.ti hb.1⟩
  have hp:oy c d b'=if d b'=1 then 2 else c b':=rfl;rw[hp];obtain ⟨c1,d1⟩ |⟨c2,d2⟩:=hc b' b0 b1
  ·by_cases dz:d b'=1
   ·rw[if_pos dz,dz];by_cases cz:c b'=1
    ·rw[cz];exact .ss tt tt lc (M.mono `l)
    ·rw[show c b'=0 by lia]
     obtain⟨s,ts,es,hs⟩:=lsign (ps.map (Pl.ev B c));have:=hm t ht _ l1;simp only[rM];rw[es]at this⊢;exact .ns hs tt this lc (M.mono `l)
   ·rw[if_neg dz,show d b'=0 by lia]
    by_cases cz:c b'=1
    ·rw[cz];obtain⟨s,ts,es,hs⟩:=lsign (ps.map (Pl.ev B d));have:=hm t ht _ l2;simp only[rM];rw[es]at this⊢;exact .sn tt hs this (M.mono `l)
    ·rw[show c b'=0 by lia]
     simp only[rM];exact(FE b.ti M _ L.hb (by rw[lc];exact L.br)).mono `l
  ·rw[d2,if_neg `d,c2];simp only[rM];have:=R.dp;exact(FE b.ti M _ (R.hb b.sg) (by rw[lc];exact R.br)).mono `l
theorem HI{P:ah→Prop}:∀{ts us:List Tr},hds P ts→hds P us→hds P (ts++us)
 | [],us,_,h=>h
 |t::ts,us,h,g=>by
  simp only[hds,b6]at h⊢;exact⟨h.1,HI h.2 g⟩
mutual
inductive qA (S:kB):Pl→W→Prop
 |nd {k b:Int}{h:ah}{ps:List Pl}{a:ai}{vs:List W}:S a=aa (.bJ vs)→nw S ps vs→qA S (.nd k b h ps) (.bT [.int k, .int b, .str h, .ref a])
inductive nw (S:kB):List Pl→List W→Prop
 |nil:nw S [] []
 |cons {p:Pl}{v:W}{ps:List Pl}{vs:List W}:qA S p v→nw S ps vs→nw S (p::ps) (v::vs)
end
mutual
theorem qA.sub (h:Sub S S'):∀{p:Pl}{v:W},qA S p v→qA S' p v
 |_,_, .nd e q=> .nd (h _ _ e) (nw.sub h q)
theorem nw.sub (h:Sub S S'):∀{ps:List Pl}{vs:List W},nw S ps vs→nw S' ps vs
 |_,_, .nil=> .nil
 |_,_, .cons a b=> .cons (qA.sub h a) (nw.sub h b)
end
def nw.len:∀{ps:List Pl}{vs:List W},nw S ps vs→ps.length=vs.length:=λ{ps vs} h=>by
 induction ps generalizing vs with
 |nil=>cases h;rfl
 |cons p ps ih=>
  cases h with
  |cons _ h=>exact congrArg (· +1) (ih h)
def nw.app:∀{ps qs:List Pl}{vs us:List W},nw S ps vs→nw S qs us→nw S (ps++qs) (vs++us):=λ{ps qs vs us} h g=>by
 induction ps generalizing vs with
 |nil=>cases h;exact g
 |cons p ps ih=>
  cases h with
  |cons a b=>exact .cons a (ih b)
theorem nw.take:∀(n:Nat) {ps:List Pl}{vs:List W},nw S ps vs→nw S (ps.take n) (vs.take n)
 |0,_,_,_=> .nil
 |_+1,_,_, .nil=> .nil
 |n+1,_,_, .cons a b=> .cons a (nw.take n b)
theorem nw.drop:∀(n:Nat) {ps:List Pl}{vs:List W},nw S ps vs→nw S (ps.drop n) (vs.drop n)
 |0,_,_,h=>h
 |_+1,_,_, .nil=> .nil
 |n+1,_,_, .cons _ b=>nw.drop n b
theorem nw.rep (h:qA S p v):∀n:Nat,nw S (bp n p) (bp n [v]).flatten
 |0=> .nil
 |n+1=>by
  rw[cO,cO,eB];exact .cons h (nw.rep h n)
noncomputable def uD (w:ah):Pl:= .nd (-1) 0 w []
noncomputable def qH (need:Nat) (w:ah) (ps:List Pl):List Pl:=bp (need - ps.length) (uD w)++ps
noncomputable def push (need:Nat) (w:ah) (k b:Int) (h:ah) (ps:List Pl):List Pl:=
 (qH need w ps).take ((qH need w ps).length - need)++[.nd k b h ((qH need w ps).drop ((qH need w ps).length - need))]
theorem LA (w:ah):∀n:Nat,bB (bp n (uD w))=n
 |0=>by simp [bB]
 |n+1=>by rw[cO,bB,LA w n];simp [uD,Pl.wt,bB];lia
theorem Lr (w:ah):∀n:Nat,bt (bp n (uD w))=0
 |0=>by simp [bt]
 |n+1=>by rw[cO,bt,Lr w n];simp [uD,Pl.nt,bt]
theorem C8:∀ps:List Pl,ps.length≤bB ps
 | []=>by simp
 |p::ps=>by have:=C8 ps;have:=zyk p;simp [bB];lia
def Cc (need:Nat) (w:ah) (ps:List Pl):(qH need w ps).length=need - ps.length+ps.length:=by simp [qH]
def VX:bB (push need w k b h ps)=need - ps.length+bB ps+1∧bt (push need w k b h ps)=bt ps+(if k<0 then 0 else 1)∧(push need w k b h ps).length=need - ps.length+ps.length - need+1:=by
 have hl:=Cc need w ps;have h1:bB (qH need w ps)=need - ps.length+bB ps:=by rw[qH,xE,LA]
 have h2:bt (qH need w ps)=bt ps:=by rw[qH,xm,Lr];lia
 have h3:=xE ((qH need w ps).take ((qH need w ps).length - need)) ((qH need w ps).drop ((qH need w ps).length - need));have h4:=xm ((qH need w ps).take ((qH need w ps).length - need)) ((qH need w ps).drop ((qH need w ps).length - need));rw[ig]at h3 h4;unfold push;refine⟨?_,?_,?_⟩
 ·rw[xE,bB,bB,Pl.wt];lia
 ·rw[xm,bt,bt,Pl.nt];lia
 ·rw[aW,dC,bZ,hl];lia
def Y9 (ps:List Pl):((qH need w ps).drop ((qH need w ps).length - need)).length=need:=by
 have hl:=Cc need w ps;rw[de,hl];lia
def Jw (hw:w∈ws) (h:∀p∈ps,nU ws B p):∀p∈qH need w ps,nU ws B p:=λp hp=>by
 obtain z |z:=bu.mp hp
 ·rw[(List.mem_replicate.mp z).2];exact .sign hw λq hq=>by cases hq
 ·exact h p z
def Zo (hw:w∈ws) (hp:∀p∈ps,nU ws B p) (hn:∀qs:List Pl,qs.length=need→(∀q∈qs,nU ws B q)→nU ws B (.nd k b h qs)):∀p∈push need w k b h ps,nU ws B p:=λp hq=>by
 obtain z |z:=bu.mp hq
 ·exact Jw hw hp p (jA z)
 ·rw[bg.mp z];exact hn _ (Y9 ps) λq hq=>Jw hw hp q (je hq)
def Bg:WS:=(om (sU (n_ (kD uu (iu 3) 0.0)) (n_ (kD wG (iu 5) 5.0))) (mV (mS (kD (rE λi j=> .int (i - j)) (iu 3) 1.0) (mU 3))
  (mV (mS (nQ (xB (yg (oo {nD {rW 1.0,0.0,kD m4 (iu 2) 2.0,nQ (oo ae)}}) (kD (rE λi j=> .int (i - j)) (iu 8) (wB pF {iu 4}))) (iu 4))) (mU 4))
  (mV (mS (kD (rE λi j=> .int (i - j)) (wB pF {iu 4}) (iu 8)) (mU 11))
  (mS (nQ (u9 (vO (iu 4) oX (oY (iu 11))) (oo {kD oM (iu 9) (nD {pf (iu 4) (oY (iu 11)) oX})}))) (mU 4))))) oj)
theorem U0:He r nc=(mV (mS (kD (oC (λ_ j=>0<j) λi j=> .int (i % j)) (iu 6) 8.0) (mU 7))
  (mV (mS (uQ (oo {0.0,0.0,1.0,2.0}) (wB uL {iu 7,3.0})) (mU 8))
  (mV (mS (nD {rW 1.0,0.0,kD m4 (iu 2) (uQ (oo {2.0,5.0,3.0,4.0}) (wB uL {iu 7,3.0}))}) (mU 9))
  (mV (om (n_ (kD uu (iu 7) 3.0)) (mV (mS (kD (oC (λ_ j=>0<j) λi j=> .int (i % j)) (kD (oC se λi j=> .int (i / j)) (iu 6) 8.0) (wB pF {iu 1})) (mU 10))
  (mV (mS (m9 (vp r) {kD m4 (kD m4 (iu 1) (iu 10)) 1.0}) (mU 8))
  (mV (mS (nD {iu 10,kD (oC (λ_ j=>0<j) λi j=> .int (i % j)) (kD (oC se λi j=> .int (i / j)) (iu 6) 64.0) 8.0,wC (.str "")}) (mU 9))
  (mS (kD oM (iu 5) 1.0) (mU 5))))) oj)
  Bg)))):=rfl
def Ub{w0 w1 w2 w3 w4 w5:ah}{S:kB}{aw st:ai}{E:WX}{D:nC}{need:Nat}{k b room spent:Int}{h:ah}{ps:List Pl}{vs:List W}{x0 x1 x6 x7 x10 x11:Option W}(hw:S aw=aa (.bJ (qa w0 w1 w2 w3 w4 w5))) (hst:S st=aa (.bJ vs)) (hp:nw S ps vs) (hn:need≤3) (hl:ps.length≤100)
  (h1:D.nx [x0,x1,aa (.ref aw),aa (.int room),aa (.ref st),aa (.int spent),x6,x7,aa (.int need),aa (.bT [.int k, .int b, .str h]),x10,x11] S)
  (h2:0<room→spent<5→ ∀(st':ai) (S':kB) (vs':List W) (x11:Option W),Sub S S'→S' st'=aa (.bJ vs')→nw S' (push need w2 k b h ps) vs'→D.nx [x0,x1,aa (.ref aw),aa (.int (room - 1)),aa (.ref st'),aa (.int spent),x6,x7,aa (.int need),aa (.bT [.int k, .int b, .str h]),x10,x11] S') :
  Bg E D [x0,x1,aa (.ref aw),aa (.int room),aa (.ref st),aa (.int spent),x6,x7,aa (.int need),aa (.bT [.int k, .int b, .str h]),x10,x11] S:=by
 unfold Bg;ext;split
 ·rename_i c1;split
  ·rename_i c2;simp only[nG hw,qm];have f1:=λ(a:ai) (ha:S a=none)=>keep (x:=Ob.bJ []) hst ha;refine⟨aU _,λa ha=>⟨nH `d,nH `d,?_⟩⟩;rw[nG (f1 a ha),nG (f1 a ha)];have hlen:=hp.len;have en:((need:Int) - (vs.length:Int)).toNat=need - ps.length:=by lia
   rw[en];have pa:qA (bQ S a (Ob.bJ [])) (uD w2) (.bT [.int (-1), .int 0, .str w2, .ref a]):= .nd nv .nil;have pp:nw (bQ S a (Ob.bJ [])) (qH need w2 ps) ((bp (need - ps.length) [W.bT [.int (-1), .int 0, .str w2, .ref a]]).flatten++vs):=(nw.rep pa _).app (hp.sub (.bQ .refl ha));have pl:=pp.len;have sub1:Sub S (bQ S a (Ob.bJ [])):= .bQ .refl ha;have hfl:((bp (need - ps.length) [W.bT [.int (-1), .int 0, .str w2, .ref a]]).flatten).length≤3:=by
    rw[aW,Cc]at pl;lia
   have e0:(1*(need - ps.length))≤sizeLine:=nH `l;refine⟨⟨`l,`l,e0⟩,nH `l,?_⟩
   generalize (bp (need - ps.length) [W.bT [.int (-1), .int 0, .str w2, .ref a]]).flatten++vs=ys at pp pl⊢;generalize bQ S a (Ob.bJ [])=S1 at pp sub1⊢;intro b2 hb2;have sub2:Sub S1 (bQ S1 b2 (.bJ ys)):= .bQ .refl hb2;generalize bQ S1 b2 (Ob.bJ ys)=S2 at sub2⊢;have hpl:=Cc need w2 ps;have ea:((ys.length:Nat):Int) - (need:Int)=((ys.length - need:Nat):Int):=by lia
   rw[ea,EQ,Ec];intro p hp3;have sub3:Sub S2 (bQ S2 p (.bJ (ys.drop (ys.length - need)))):= .bQ .refl hp3;have fp:bQ S2 p (Ob.bJ (ys.drop (ys.length - need))) p=aa (.bJ (ys.drop (ys.length - need))):=nv;generalize bQ S2 p (Ob.bJ (ys.drop (ys.length - need)))=S3 at sub3 fp⊢;refine⟨nH `d,nH `d,nH `d,nH (by rw[dC];lia),λq hq=>?_⟩;have sub4:Sub S3 (bQ S3 q (.bJ (ys.take (ys.length - need)++[.bT [.int k, .int b, .str h, .ref p]]))):= .bQ .refl hq;refine h2 c1 c2 q _ _ _ (((sub1.trans sub2).trans sub3).trans sub4) nv ?_;unfold push;have pp3:=pp.sub ((sub2.trans sub3).trans sub4);rw[←pl]at *;exact(pp3.take _).app (.cons (.nd (sub4 _ _ fp) (pp3.drop _)) .nil)
  ·exact h1
 ·exact h1
def zxt (n:Int) (h0:0≤n) (h1:n<8):∃m:Nat,m≤2∧nW [W.int 0,W.int 0,W.int 1,W.int 2] (if 3<n then 3 else n)=aa (.int (m:Int)):=by
 rcases(show n=0∨n=1∨n=2∨(3≤n) by lia) with rfl |rfl |rfl |h
 ·exact⟨0,`d,rfl⟩
 ·exact⟨0,`d,rfl⟩
 ·exact⟨1,`d,rfl⟩
 ·have:(if 3<n then 3 else n)=3:=by split<;>lia
  rw[this];exact⟨2,`d,rfl⟩
def QX (n:Int) (h0:0≤n) (h1:n<8):∃(i:Int) (x:ah),x∈ [w2,w3,w4,w5]∧nW [W.int 2,W.int 5,W.int 3,W.int 4] (if 3<n then 3 else n)=aa (.int i)∧nW (qa w0 w1 w2 w3 w4 w5) i=aa (.str x):=by
 rcases(show n=0∨n=1∨n=2∨(3≤n) by lia) with rfl |rfl |rfl |h
 ·exact⟨2,w2,`s,rfl,rfl⟩
 ·exact⟨5,w5,`s,rfl,rfl⟩
 ·exact⟨3,w3,`s,rfl,rfl⟩
 ·have:(if 3<n then 3 else n)=3:=by split<;>lia
  rw[this];exact⟨4,w4,`s,rfl,rfl⟩
inductive OE (S:kB) (ac ab aw:ai) (hs:List ah) (B:List Tn) (m:Nat) (ws:List W) (σ:nj) (S':kB):Prop
 |mk (ns:List Int) (ps:List Pl) (vs:List W) (st:ai) (room spent:Int) (x6 x7 x8 x9 x10 x11:Option W):ws=ns.map W.int→Sub S S'→S' st=aa (.bJ vs)→nw S' ps vs→(∀p∈ps,nU hs B p)→0≤room→room≤m→(bt ps:Int)≤spent→bt ps≤4→(bB ps:Int)+ps.length≤2*(m - room)+bt ps+2→
  σ=[aa (.ref ac),aa (.ref ab),aa (.ref aw),aa (.int room),aa (.ref st),aa (.int spent),x6,x7,x8,x9,x10,x11]→OE S ac ab aw hs B m ws σ S'
inductive MP (S:kB) (hs:List ah) (B:List Tn) (m:Nat) (f:ai→nj) (mm:Nat) (σ:nj) (S2:kB):Prop
 |mk (ps:List Pl) (vs:List W) (st:ai):mm=ps.length→Sub S S2→S2 st=aa (.bJ vs)→nw S2 ps vs→(∀p∈ps,nU hs B p)→bt ps≤4→bB ps+ps.length≤2*m+bt ps+2→σ=f st→MP S hs B m f mm σ S2
def WP{m:Nat}(hm9:m≤9) {Q:WK}{X:ah→kB→Prop}{ac ab:ai}{cells:List Int}{B:List Tn}(hc:S ac=aa (.bJ (cells.map W.int))) (hb:S ab=aa (.bJ (B.map nz))) (hw:S aw=aa (.bJ (qa w0 w1 w2 w3 w4 w5))) (bk:oP [w0,w1,w2,w3,w4,w5] [w2,w3,w4,w5] B) (hB:B≠ [])
  (h:∀(p:Pl) (v:W) (S':kB),Sub S S'→qA S' p v→nU [w2,w3,w4,w5] B p→p.wt≤2*m+1+p.nt→p.nt≤4→Q v S'):CV (r+10) [.ref ac, .ref ab, .ref aw, .int m] S Q X:=by
 rw[show r+10=r+9+1 from rfl,CV];ext;refine⟨aU _,λst0 hst0=>?_⟩;rw[nG (keep hc hst0)];refine E0 (OE S ac ab aw [w2,w3,w4,w5] B m) ?_ ?_ _ _ _ ⟨cells,[],[],st0,m,0,none,none,none,none,none,none,rfl, .bQ .refl hst0,nv, .nil,(λ_ h=>nomatch h),`l,`l,by simp [bt],by simp [bt],by simp [bt,bB],rfl⟩
 ·rintro w ws σ S' N ⟨ns,ps,vs,st,room,spent,x6,x7,x8,x9,x10,x11,ew,sub,hst,hp,ok,r0,r1,p0,p1,p2,rfl⟩ hN;cases ns with
  |nil=>cases ew
  |cons n ns=>
  cases ew;have fw:=sub _ _ hw;have fb:=sub _ _ hb;have fc:=sub _ _ hc;have m0:0≤n % 8:=dq _ `d;have m1:n % 8<8:=dD _ `d;have hpl:=C8 ps;obtain⟨need,hneed,en⟩:=zxt (n % 8) m0 m1;obtain⟨i,hd,hhd,e1,e2⟩:=QX (w0:=w0) (w1:=w1) (w2:=w2) (w3:=w3) (w4:=w4) (w5:=w5) (n % 8) m0 m1;have go:∀(need:Nat) (k b:Int) (hh:ah) (sp:Int) (x10:Option W),need≤3→(∀qs:List Pl,qs.length=need→(∀q∈qs,nU [w2,w3,w4,w5] B q)→nU [w2,w3,w4,w5] B (.nd k b hh qs))→(k<0∧need≤2∧sp=spent∨ ¬k<0∧sp=spent+1)→
    ∀(E:WX) (D:nC),D.nx=N→Bg E D [aa (.ref ac),aa (.ref ab),aa (.ref aw),aa (.int room),aa (.ref st),aa (.int sp),aa (.int n),aa (.int (n % 8)),aa (.int need),aa (.bT [.int k, .int b, .str hh]),x10,x11] S':=λneed k b hh sp x10 hn cq hk E D hD=>by
   subst hD;refine Ub fw hst hp hn `l ?_ λc1 c2 st' S2 vs' x11 sub2 hst2 hp2=>?_
   ·refine hN _ _ S' .refl fc ⟨ns,ps,vs,st,room,sp,_,_,_,_,_,_,rfl,sub,hst,hp,ok,r0,r1,`l,p1,p2,rfl⟩
   ·obtain⟨s1,s2,s3⟩:=VX (need:=need) (w:=w2) (k:=k) (b:=b) (h:=hh) (ps:=ps);have hz:ps.length=0→bB ps=0∧bt ps=0:=λz=>by
     cases ps with
     |nil=>exact⟨rfl,rfl⟩
     |cons _ _=>simp at z
    have fin:(bt (push need w2 k b hh ps):Int)≤sp→bt (push need w2 k b hh ps)≤4→(bB (push need w2 k b hh ps):Int)+(push need w2 k b hh ps).length≤2*(m - (room - 1))+bt (push need w2 k b hh ps)+2→D.nx [aa (.ref ac),aa (.ref ab),aa (.ref aw),aa (.int (room - 1)),aa (.ref st'),aa (.int sp),aa (.int n),aa (.int (n % 8)),aa (.int need),aa (.bT [.int k, .int b, .str hh]),x10,x11] S2:=λf1 f2 f3=>
     hN _ _ S2 .refl (sub2 _ _ fc) ⟨ns,_,vs',st',room - 1,sp,_,_,_,_,_,_,rfl,sub.trans sub2,hst2,hp2,Zo `s ok cq,`l,`l,f1,f2,f3,rfl⟩
    obtain ⟨kn,n2,es⟩ |⟨kp,es⟩:=hk
    ·rw[if_pos kn]at s2;refine fin `l `l ?_;obtain z |z:=gE ps.length
     ·have:=hz z;lia
     ·lia
    ·rw[if_neg kp]at s2;refine fin `l `l ?_;obtain z |z:=gE ps.length
     ·have:=hz z;lia
     ·lia
  rw[U0];ext;simp only[en,e1];ext;simp only[nG fw,e2];refine⟨`d,nH `d,nH `d,nH `d,?_⟩;split
  ·have hbl:(B.map nz)≠ []:=by simpa using hB
   obtain⟨j,x,ej,ex⟩:=GZ (n / 8) hbl;have hlt:0<(B.map nz).length:=l_.mpr hbl;have ek:n / 8 % ((B.map nz).length:Int)=(((n / 8 % ((B.map nz).length:Int)).toNat:Nat):Int):=by
    have:=dq (n / 8) (show((B.map nz).length:Int)≠0 by lia)
    lia
   have ek2:=tE (xs:=B.map nz) (n:=(n / 8 % ((B.map nz).length:Int)).toNat);rw[←ek,ex,aV]at ek2;cases et:B[(n / 8 % ((B.map nz).length:Int)).toNat]? with
   |none=>rw[et]at ek2;cases ek2
   |some t=>
    rw[et]at ek2;have ext:x= .bT [.str t.1,j8 t.2.1,j8 t.2.2]:=by cases ek2;rfl
    have ht:t∈B:=aN et;have LT:=bk.lf t ht;have hLd:=LT.dp;have hLw:=LT.wt;have hLn:=LT.nb;simp only[nG fb,ex,ext];ext;rw[show nW [W.str t.1,j8 t.2.1,j8 t.2.2] 1=aa (j8 t.2.1) from rfl];refine⟨⟨`d,`d⟩,`l,?_⟩
    refine FG 4 hLd `l `l ⟨⟨`d,`d⟩,`d,nH `d,?_⟩
    have b0:0≤n / 64 % 8:=dq _ `d;have b1:n / 64 % 8<8:=dD _ `d;refine go t.2.1.nb _ _ _ _ _ hLn (λqs hq hqs=>?_) (.inr ⟨`l,rfl⟩) _ _ rfl;rw[ek];exact .turn et hq b0 b1 hqs
  ·exact go need (-1) 0 hd spent _ `l (λqs hq hqs=> .sign hhd hqs) (.inl ⟨`d,hneed,rfl⟩) _ _ rfl
 ·rintro σ S' ⟨ns,ps,vs,st,room,spent,x6,x7,x8,x9,x10,x11,ew,sub,hst,hp,ok,r0,r1,p0,p1,p2,rfl⟩;have hpl:=C8 ps;refine⟨MP S [w2,w3,w4,w5] B m (λst=>[aa (.ref ac),aa (.ref ab),aa (.ref aw),aa (.int room),aa (.ref st),aa (.int spent),x6,x7,x8,x9,x10,x11]),⟨_,ps,vs,st,rfl,sub,hst,hp,ok,p1,`l,rfl⟩,?_⟩
  rintro mm σ S2 ⟨ps,vs,st,rfl,sub,hst,hp,ok,p1,p2,rfl⟩;have hlen:=hp.len;have fw:=sub _ _ hw;ext;rw[nG hst];split
  ·rename_i hgt;simp only[Od];ext;simp only[nG hst,nG fw,qp];have c1:pG vs none (aa (-2))=vs.take (vs.length - 2):=P1 2 `d;have c2:pG vs (aa (-2)) none=vs.drop (vs.length - 2):=Xf 2 `d;rw[c1,c2];intro p hp3;have sub3:Sub S2 (bQ S2 p (.bJ (vs.drop (vs.length - 2)))):= .bQ .refl hp3;have fp:bQ S2 p (Ob.bJ (vs.drop (vs.length - 2))) p=aa (.bJ (vs.drop (vs.length - 2))):=nv;generalize bQ S2 p (Ob.bJ (vs.drop (vs.length - 2)))=S3 at sub3 fp⊢;refine⟨nH `d,nH `d,nH (by rw[dC];lia),λq hq=>?_⟩;have sub4:Sub S3 (bQ S3 q (.bJ (vs.take (vs.length - 2)++[.bT [.int (-1), .int 0, .str w4, .ref p]]))):= .bQ .refl hq;have hp4:=hp.sub (sub3.trans sub4);have hw3:=xE (ps.take (vs.length - 2)) (ps.drop (vs.length - 2));have hn3:=xm (ps.take (vs.length - 2)) (ps.drop (vs.length - 2));rw[ig]at hw3 hn3;refine⟨_,_,?_, .refl,ps.take (vs.length - 2)++[.nd (-1) 0 w4 (ps.drop (vs.length - 2))],_,q,rfl,(sub.trans sub3).trans sub4,nv,(hp4.take _).app (.cons (.nd (sub4 _ _ fp) (hp4.drop _)) .nil),λx hx=>?_,?_,?_,rfl⟩
   ·rw[aW,dC,bZ];lia
   ·obtain z |z:=bu.mp hx
    ·exact ok x (jA z)
    ·rw[bg.mp z];exact .sign `s λy hy=>ok y (je hy)
   ·rw[xm,bt,bt,Pl.nt,if_pos `d];lia
   ·rw[xE,bB,bB,Pl.wt,aW,dC,bZ,xm,bt,bt,Pl.nt,if_pos `d];lia
  ·rename_i hle
   try ext
   simp only[nG fw,ql];refine⟨aU _,λa ha=>⟨nH `d,nH `d,?_⟩⟩;rw[nG (keep hst ha)];refine⟨nH `l,?_⟩;cases hp with
   |nil=>
    exact⟨_, .refl,h (uD w5) _ _ (sub.trans (.bQ .refl ha)) (.nd nv .nil) (.sign `s λ_ z=>nomatch z) (by simp [uD,Pl.wt,bB];lia) (by simp [uD,Pl.nt,bt])⟩
   | @cons p v ps vs h1 h2=>
    rw[b6,Dn];have e0:ps=[]:=by
     cases ps with
     |nil=>rfl
     |cons q qs=>
      have:=h2.len;simp only[aT]at this hle;lia
    subst e0;simp only[bB,bt,aT,dU]at p1 p2;exact⟨_, .refl,h p v _ (sub.trans (.bQ .refl ha)) (h1.sub (.bQ .refl ha)) (ok p aI) `l `l⟩
section
variable {r:Nat}{S:kB}{Q:WK}{E:ah→kB→Prop}{a:ai}{B:List Tn}
def zyM (hx:x.length≤1000) (h:Q (.bl (wg x)) S):Dh (r+2) [.str x] S Q E:=by
 have hxl:=vT x;rw[Dh];ext;unfold wg at h;rw[←hxl]at h;cases e1:decide (1≤x.length) with
 |false=>
  rw[e1]at h;have:¬1≤x.length:=by simpa using e1
  have e1':decide ((1:Int)≤(x.length:Int))=false:=by simp;lia
  rw[e1'];ext;exact⟨nH `l,_, .refl,h⟩
 |true=>
  rw[e1]at h;have h1:1≤x.length:=by simpa using e1
  have e1':decide ((1:Int)≤(x.length:Int))=true:=by simp;lia
  rw[e1'];refine⟨nH `l,?_⟩;ext;cases e2:decide (x.length≤8) with
  |false=>
   rw[e2]at h;have:¬x.length≤8:=by simpa using e2
   have e2':decide ((x.length:Int)≤8)=false:=by simp;lia
   rw[e2'];exact⟨_, .refl,h⟩
  |true=>
   rw[e2]at h;have h2:x.length≤8:=by simpa using e2
   have e2':decide ((x.length:Int)≤8)=true:=by simp;lia
   rw[e2'];ext;exact Yq `l ⟨_, .refl,h⟩
noncomputable def oW:Option Tn→W
 |some t=>nz t
 |none=> .b_
def Nn (B:List Tn) (s:ah):B.findSome? (λt=>if t.1 == s then aa (nz t) else none)=(nF B s).map nz:=by
 unfold nF
 induction B with
 |nil=>rfl
 |cons t B ih=>
  rw[eH,b8];cases e:t.1 == s with
  |true=>rfl
  |false=>simpa using ih
def uc (ha:S a=aa (.bJ (B.map nz))) (h:Q (oW (nF B s)) S):tj (r+1) [.ref a, .str s] S Q E:=by
 rw[tj];ext;rw[nG ha];refine xF (S:=S) ?_ (λσ=>∃x,σ=[aa (.ref a),aa (.str s),x]) nz (λt=>if t.1 == s then aa (nz t) else none) B _ ⟨_,rfl⟩ (λt ht σ N hI hno hret=>?_) (λe σ hI=>?_) λw e S' sb=>?_
 ·exact ha
 ·obtain⟨x,rfl⟩:=hI;simp only[MU];have ee:nz t= .bT [.str t.1,j8 t.2.1,j8 t.2.2]:=rfl;rw[ee];ext;cases e:t.1 == s with
  |true=>
   rw[e]at hret;exact hret _ rfl _ .refl
  |false=>
   rw[e]at hno;exact hno rfl _ _ ⟨_,rfl⟩ .refl
 ·obtain⟨x,rfl⟩:=hI;ext;rw[Nn]at e;have:nF B s=none:=by
   cases q:nF B s with
   |none=>rfl
   |some t=>rw[q]at e;cases e
  rw[this]at h;exact⟨_, .refl,h⟩
 ·rw[Nn]at e;cases q:nF B s with
  |none=>rw[q]at e;cases e
  |some t=>
   rw[q]at e h;cases e;exact⟨_,sb,h⟩
def Y3 (ts:List Tr):tv (ts.map λt=>W.bl t.dM)=aa (ts.map Tr.dM):=by
 have:=Pt (ts.map Tr.dM);rw[bh]at this;exact this
theorem LV:∀(d:Nat) {t:Tr}{r:Nat}{Q:WK}{E:ah→kB→Prop},t.depth≤d→d+5≤r→t.hd (λs=>s.length≤1000)→t.ao≤90000→Q (.bl t.dM) S→AM (r+1) [j8 t] S Q E
 |0,t,r,Q,E,hd,hr,hh,hw,h=>by have:=qK t;lia
 |d+1, .bl n,r,Q,E,hd,hr,hh,hw,h=>by simp [Tr.hd]at hh
 |d+1, .nd s ts,r,Q,E,hd,hr,hh,hw,h=>by
  simp only[Tr.depth]at hd;simp only[Tr.ao]at hw;simp only[Tr.hd]at hh;have hk:=qX ts;obtain⟨r,rfl⟩:∃r',r=r'+2:=⟨r - 2,`l⟩
  rw[AM];simp only[j8];ext;refine zyM hh.1 ?_;rw[Tr.dM]at h;cases e:wg s with
  |false=>
   rw[e]at h;ext;exact⟨_, .refl,h⟩
  |true=>
   rw[e]at h;ext;rw[qc];refine qk (λσ=>∃x,σ=[x]) j8 (λt=> .bl t.dM) trivial ts [] _ ⟨none,rfl⟩ (by simp;lia) (λx hx σ R hI hR=>?_) ?_
   ·obtain⟨y,rfl⟩:=hI;have hdx:=p_ hx;have hwx:=pk hx;have:=qK x;simp only[Hg];ext;exact LV d (t:=x) (r:=r+1) `l `l (nV.mp hh.2 x hx) `l (hR _ _ ⟨_,rfl⟩ .refl)
   ·rw[aM,Y3];dsimp only;rw[Ox]at h;rw[JP];exact⟨S, .refl,h⟩
end
def nK (f:Int):Int→Nat:=λb=>if b / f % 2=1 then 1 else 0
theorem nw.zip:∀{ps:List Pl}{vs:List W},nw S ps vs→ ∀x∈ps.zip vs,qA S x.1 x.2∧x.1∈ps
 |_,_, .nil,x,h=>by simp at h
 |_,_, .cons a b,x,h=>by
  rw[gj]at h;obtain rfl |h:=aB.mp h
  ·exact⟨a,aI⟩
  ·have:=nw.zip b x h;exact⟨this.1,aG _ this.2⟩
def nw.snd (h:nw S ps vs):(ps.zip vs).map jx=vs:=List.map_snd_zip (by rw[h.len];exact aA _)
def nw.fst (h:nw S ps vs) {α:Type}(f:Pl→α):(ps.zip vs).map (λx=>f x.1)=ps.map f:=by
 have:(ps.zip vs).map Prod.fst=ps:=List.map_fst_zip (by rw[h.len];exact aA _)
 conv=>rhs;rw[←this,bh]
 rfl
theorem Ia (hf:f=1∨f=2∨f=4∨f=8) (ha:S a=aa (.bJ (B.map nz))) (b:oP ws hs B):∀(d:Nat) {p:Pl}{v:W}{r:Nat}{Q:WK}{E:ah→kB→Prop},p.dp≤d→d+8≤r→qA S p v→nU hs B p→p.wt≤1000→Q (j8 (p.ev B (nK f))) S→zG (r+1) [v, .ref a, .int f] S Q E
 |0,p,v,r,Q,E,hd,hr,hp,ok,hw,h=>by have:=SX p;lia
 |d+1, .nd k b' hh ps,v,r,Q,E,hd,hr,hp,ok,hw,h=>by
  cases hp with
  | @nd _ _ _ _ c vs hc hps=>
  simp only[Pl.dp]at hd;simp only[Pl.wt]at hw;have hlen:=C8 ps;right
  rw[zG];ext;rw[nG hc];rw[←hps.snd];have okp:∀x∈ps,nU hs B x:=by
   cases ok with
   |sign _ h=>exact h
   |turn _ _ _ _ h=>exact h
  refine qk (λσ=>∃x,σ=[x,aa (.ref a),aa (.int f)]) jx (λx=>j8 (x.1.ev B (nK f))) ?_ (ps.zip vs) [] _ ⟨none,rfl⟩ (by simp;lia) (λx hx σ R hI hR=>?_) ?_
  ·rw[hps.snd];exact hc
  ·obtain⟨y,rfl⟩:=hI;obtain⟨h1,h2⟩:=hps.zip x hx;have:=Dy h2;have:=MW h2;simp only[MK];ext;exact Ia hf ha b d `l `l h1 (okp _ h2) `l (hR _ _ ⟨_,rfl⟩ .refl)
  ·rw[aM,hps.fst λp=>j8 (p.ev B (nK f))];intro q hq;have eu:(ps.map λp=>j8 (p.ev B (nK f)))=af (ps.map (Pl.ev B (nK f))):=by rw[qc,bh];rfl
   rw[eu];have fq:bQ S q (Ob.bJ (af (ps.map (Pl.ev B (nK f))))) q=aa (.bJ (af (ps.map (Pl.ev B (nK f))))):=nv;have fa:=keep (x:=Ob.bJ (af (ps.map (Pl.ev B (nK f))))) ha hq;have sub:Sub S (bQ S q (Ob.bJ (af (ps.map (Pl.ev B (nK f)))))):= .bQ .refl hq;generalize bQ S q (Ob.bJ (af (ps.map (Pl.ev B (nK f)))))=S1 at fq fa sub⊢
   try ext
   cases ok with
   |sign hs' _=>
    rw[if_pos `d]
    try rw[nG fq]
    rw[pL]at h;rw[rg,ay];simp only[j8]at h;exact⟨nH `d,nH `l,_,sub,h⟩
   | @turn k _ _ _ t e hl b0 b1 _=>
    have ek:nW (B.map nz) (k:Int)=aa (.bT [.str t.1,j8 t.2.1,j8 t.2.2]):=by
     rw[tE,aV,e];rfl
    have hdiv:se b' f:=by rcases hf with rfl |rfl |rfl |rfl<;>exact⟨`d,`d⟩
    have ht:t∈B:=aN e;rw[oE e]at h;rw[if_neg `l];refine⟨hdiv,`d,?_⟩
    simp only[nG fa,ek];by_cases e1:b' / f % 2=1
    ·rw[e1];have:nK f b'=1:=by unfold nK;rw[if_pos e1]
     rw[this]at h;simp only[rM,j8]at h
     try ext
     try rw[nG fq]
     rw[rg,ay];exact⟨nH `d,nH `l,_,sub,h⟩
    ·have e2:(b' / f % 2 == 1)=false:=by simpa using e1
     rw[e2];have:nK f b'=0:=by unfold nK;rw[if_neg e1]
     rw[this]at h;simp only[rM]at h;ext;rw[show nW [W.str t.1,j8 t.2.1,j8 t.2.2] 1=aa (j8 t.2.1) from rfl];dsimp only;have hLd:=(b.lf t ht).dp;have hLw:=(b.lf t ht).wt;have hLn:=(b.lf t ht).nb;exact GX 4 hLd `l fq (by rw[ay,hl];exact(b.lf t ht).br) `l ⟨_,sub,h⟩
def U3 (h:px x):x.length≤1000:=by rw[vT];have:=h.2.1;lia
def WN (h:qC x):x.length≤1000:=by rw[vT];have:=(SE h).2;lia
def pq (n:Int) (t:Tn):Tr:=if n=1 then t.2.1 else t.2.2
structure vR (g:Tn→Tr) (B:List Tn):Prop where
  br:∀t∈B,(g t).br t.2.1.nb
  dp:∀t∈B,(g t).depth≤4
  wt:∀t∈B,(g t).ao≤10
mutual
def Tr.ar (B:List Tn):Tr→Prop
 | .bl _=>False
 | .nd s ts=>(∀t,nF B s=aa t→ts.length=t.2.1.nb)∧sN B ts
def sN (B:List Tn):List Tr→Prop
 | []=>True
 |t::ts=>t.ar B∧sN B ts
end
theorem pC:∀{ts:List Tr},sN B ts↔ ∀t∈ts,t.ar B
 | []=>by simp [sN]
 |t::ts=>by simp [sN,pC (ts:=ts)]
mutual
theorem Jg:∀t:Tr,t.way B=true→t.ar B
 | .bl n,h=>by simp [Tr.way]at h
 | .nd s ts,h=>by
  simp only[Tr.way,bN]at h;simp only[Tr.ar];refine⟨λt ht=>?_,NP ts h.2⟩;have:=h.1;rw[tN,ht]at this;simpa using this
theorem NP:∀ts:List Tr,ways B ts=true→sN B ts
 | [],h=>by simp [sN]
 |t::ts,h=>by
  simp only[ways,bN]at h;simp only[sN];exact⟨Jg t h.1,NP ts h.2⟩
end
section
variable {n:Int}
def HL (t:Tn) (h:n=1∨n=2):nW [W.str t.1,j8 t.2.1,j8 t.2.2] n=aa (j8 (pq n t)):=by
 rcases h with rfl |rfl<;>rfl
def B0{t:Tr}(h1:t.ao≤400) (h2:t.depth≤40):t.aE=true:=by
 unfold Tr.aE;rw[decide_eq_true h1,decide_eq_true h2];rfl
end
def Da (r:Nat):WS:=(mV (mS (nQ (pj 2 [0] (uw (iu 5) (iu 6)) (p6 (ow (mU 0) (ow (mU 1) pS))) pe (D9 r (ui r)))) (mU 7))
  (mV (om (n_ (kD (p8 false) (iu 4) (wC .b_))) (nE (kD oM (nD {kD m4 (iu 1) 0.0}) (wB sE {iu 7}))) oj)
  (nE (m9 (vv r) {kD m4 (iu 4) 2.0,iu 7}))))
def u_ (r:Nat) (T:WS):WS:=(mV (om (sU (n_ (kD (p8 false) (iu 3) (wC .b_))) (n_ (kD (p8 true) (iu 4) (wC .b_)))) (mS (m9 (vd r) {kD m4 (iu 4) 1.0,iu 1}) (mU 5)) oj)
  (mV (om (sU (n_ (kD (p8 true) (iu 3) (wC .b_))) (n_ (kD (p8 false) (iu 4) (wC .b_)))) (mS (m9 (vd r) {kD m4 (iu 3) 1.0,iu 2}) (mU 6)) oj)
  T))
theorem Zk:ui (r+1)=nY 8 3 (mV (mS (m9 (tj r) {iu 0,kD m4 (iu 1) 0.0}) (mU 3))
  (mV (mS (m9 (tj r) {iu 0,kD m4 (iu 2) 0.0}) (mU 4))
  (mV (mS (pf (iu 1) (oY 1.0) oX) (mU 5))
  (mV (mS (pf (iu 2) (oY 1.0) oX) (mU 6))
  (u_ r (Da r)))))):=rfl
mutual
theorem zX{P:ah→Prop}:∀(l t:Tr) (ys:List Tr),l.mt t=aa ys→t.hd P→hds P ys∧nB ys≤t.ao
 | .bl _,t,ys,h,q=>by
  simp only[Tr.mt,bV]at h;subst h;simp only[hds,nB];exact⟨⟨q,trivial⟩,`l⟩
 | .nd s ls, .nd z us,ys,h,q=>by
  simp only[Tr.mt]at h;simp only[Tr.hd]at q;split at h
  ·have:=Iv ls us ys h q.2;simp only[Tr.ao];exact⟨this.1,`l⟩
  ·cases h
 | .nd _ _, .bl _,ys,h,q=>by simp [Tr.mt]at h
theorem Iv{P:ah→Prop}:∀(ls us ys:List Tr),oB ls us=aa ys→hds P us→hds P ys∧nB ys≤nB us
 | [],us,ys,h,q=>by simp only[oB,bV]at h;subst h;simp [hds,nB]
 |l::ls,[],ys,h,q=>by simp only[oB,bV]at h;subst h;simp [hds,nB]
 |l::ls,u::us,ys,h,q=>by
  simp only[oB]at h;simp only[hds]at q;split at h
  ·cases h
  ·rename_i xs ex;split at h
   ·cases h
   ·rename_i zs ez;simp only[bV]at h;subst h;have h1:=zX l u xs ex q.1;have h2:=Iv ls us zs ez q.2;rw[CU,nB];exact⟨HI h1.1 h2.1,`l⟩
end
mutual
theorem vJ{P:ah→Prop}:∀t:Tr,t.hd P→t.br m
 | .bl n,h=>by simp [Tr.hd]at h
 | .nd s ts,h=>by
  simp only[Tr.hd]at h;simp only[Tr.br];exact JY ts h.2
theorem JY{P:ah→Prop}:∀ts:List Tr,hds P ts→ny m ts
 | [],h=>by simp [ny]
 |t::ts,h=>by
  simp only[hds]at h;simp only[ny];exact⟨vJ t h.1,JY ts h.2⟩
end
def oZ.triples:∀{as bs cs:List Tr},oZ B n as bs cs→ ∃zs:List (Tr×Tr×Tr),as=zs.map (λz=>z.1)∧bs=zs.map (λz=>z.2.1)∧cs=zs.map (λz=>z.2.2)∧ ∀z∈zs,Mv B n z.1 z.2.1 z.2.2:=by
 intro as
 induction as with
 |nil=>intro bs cs h;cases h;exact⟨[],rfl,rfl,rfl,λ_ h=>nomatch h⟩
 |cons a as ih=>
  intro bs cs h;cases h with
  | @cons _ _ b c _ _ _ h1 h2=>
  obtain⟨zs,e1,e2,e3,h⟩:=ih h2;exact⟨(a,b,c)::zs,by rw[e1];rfl,by rw[e2];rfl,by rw[e3];rfl,λz hz=>(aB.mp hz).elim (λe=>by rw[e];exact h1) (h z)⟩
theorem Mt:∀zs:List (Tr×Tr×Tr),nJ (af (zs.map λz=>z.1)) (af (zs.map λz=>z.2.1))=zs.map λz=>W.bT [j8 z.1,j8 z.2.1]
 | []=>by simp [af,nJ]
 |z::zs=>by simp [af,nJ,Mt zs]
noncomputable def Fe (f:Option Tn) (s:ah) (cs:List Tr):Tr:=match f with
 |none=> .nd s cs
 |some t=>t.2.2.aD cs
def zT (S:kB) (v:W) (ws:List W):Prop:=v= .bT ws∨ ∃q,v= .ref q∧S q=aa (.bJ ws)
def Ke{Q:List W→(kB→Prop)→Prop}(h:zT S v ws) (hq:∀G:kB→Prop,G S→(∀S',Sub S S'→G S')→Q ws G):uU v S Q:=by
 obtain rfl |⟨q,rfl,e⟩:=h
 ·rw[Oz];exact hq _ trivial λ_ _=>trivial
 ·rw[C7,nG e];exact hq _ e λS' sb=>sb _ _ e
def YN (hx:x= .nd s ts) (ha:S a=aa (.bJ (B.map nz))) (h1:zT S va (af as)) (h2:zT S vb (af bs)) (M:oZ B n as bs cs) (hl:as.length≤1000)
  (hR:∀t,f=aa t→t.2.2.depth≤4∧t.2.2.ao≤100∧t.2.2.br cs.length) (hr:5≤r)
  (one:∀{a' b' c':Tr}{Q:WK}{E:ah→kB→Prop},a'∈as→b'∈bs→Mv B n a' b' c'→Q (j8 c') S→ui r [.ref a,j8 a',j8 b'] S Q E) 
  (hQ:∀S',Sub S S'→D.rt (j8 (Fe f s cs)) S') :
  Da r E D [aa (.ref a),aa (j8 x),aa (j8 y),aa vf,aa (oW f),aa va,aa vb,x7] S:=by
 obtain⟨zs,rfl,rfl,rfl,hz⟩:=M.triples;unfold Da;ext;refine Ke h1 λG1 g1 k1=>Ke h2 λG2 g2 k2=>?_;rw[Mt];rw[ay]at hl;refine qk (λσ=>∃x y,σ=[x,y,aa (.ref a)]) (λz=>W.bT [j8 z.1,j8 z.2.1]) (λz=>j8 z.2.2) ?_ zs [] _ ⟨none,none,rfl⟩ (by simp;lia) (λz hz' σ R hI hR=>?_) ?_
 ·exact⟨g1,g2⟩
 ·obtain⟨u,v,rfl⟩:=hI;simp only[D9];ext;refine one (a':=z.1) (b':=z.2.1) (c':=z.2.2) (aL.mpr ⟨z,hz',rfl⟩) (aL.mpr ⟨z,hz',rfl⟩) (hz z hz') ?_;exact hR _ _ ⟨_,_,rfl⟩ .refl
 ·rw[aM];intro q hq;have eu:(zs.map λz=>j8 z.2.2)=af (zs.map λz=>z.2.2):=by rw[qc,bh];rfl
  rw[eu];have fq:bQ S q (Ob.bJ (af (zs.map λz=>z.2.2))) q=aa (.bJ (af (zs.map λz=>z.2.2))):=nv;have sub:Sub S (bQ S q (Ob.bJ (af (zs.map λz=>z.2.2)))):= .bQ .refl hq;generalize bQ S q (Ob.bJ (af (zs.map λz=>z.2.2)))=S1 at fq sub⊢;right
  cases f with
  |none=>
   subst hx;simp only[oW,j8,Fe]at hQ⊢
   try ext
   try rw[nG fq]
   rw[rg,ay];exact⟨nH `d,nH `l,hQ _ sub⟩
  |some t=>
   have ee:oW (aa t)= .bT [.str t.1,j8 t.2.1,j8 t.2.2]:=rfl;rw[ee]
   try ext
   rw[show nW [W.str t.1,j8 t.2.1,j8 t.2.2] 2=aa (j8 t.2.2) from rfl];dsimp only;obtain⟨g1,g2,g3⟩:=hR t rfl;exact GW 4 g1 `l fq (by rw[ay];rw[ay]at g3;exact g3) `l (hQ _ sub)
theorem Mv.nd:Mv B n x y z→ ∃s ts z' us,x= .nd s ts∧y= .nd z' us
 | .nn _ _ _=>⟨_,_,_,_,rfl,rfl⟩
 | .ns _ _ _ _ _=>⟨_,_,_,_,rfl,rfl⟩
 | .sn _ _ _ _=>⟨_,_,_,_,rfl,rfl⟩
 | .ss _ _ _ _=>⟨_,_,_,_,rfl,rfl⟩
def Vu (h:T E D [x0,x1,x2,aa (oW none),aa (oW none),x5,x6,x7] S):u_ r T E D [x0,x1,x2,aa (oW none),aa (oW none),x5,x6,x7] S:=by
 rw[show oW none=W.b_ from rfl]at h⊢;unfold u_;ext;exact h
def YO (h:T E D [x0,x1,x2,aa (oW (aa t')),aa (oW (aa t)),x5,x6,x7] S):u_ r T E D [x0,x1,x2,aa (oW (aa t')),aa (oW (aa t)),x5,x6,x7] S:=by
 have ee:∀t:Tn,oW (aa t)= .bT [.str t.1,j8 t.2.1,j8 t.2.2]:=λ_=>rfl;rw[ee,ee]at h⊢;unfold u_;ext;exact h
def Qs (e:t.2.1.mt x=aa ms) (hr:t.2.1.depth<r) (ft:x.br 0) (hw:t.2.1.ao≤90000) (h:∀q,S q=none→T E D [x0,aa (j8 x),x2,aa (oW none),aa (oW (aa t)),aa (.ref q),x6,x7] (bQ S q (.bJ (af ms)))):u_ (r+1) T E D [x0,aa (j8 x),x2,aa (oW none),aa (oW (aa t)),x5,x6,x7] S:=by
 have ee:∀t:Tn,oW (aa t)= .bT [.str t.1,j8 t.2.1,j8 t.2.2]:=λ_=>rfl;have a1:∀t:Tn,nW [W.str t.1,j8 t.2.1,j8 t.2.2] 1=aa (j8 t.2.1):=λ_=>rfl;rw[ee,show oW none=W.b_ from rfl]at *;unfold u_;ext;rw[a1];dsimp only;refine Bh hr ft hw (λys hys q hq=>?_) λh0=>by rw[e]at h0;cases h0
 rw[e]at hys;cases hys
 try ext
 exact h q hq
def RH (e:t.2.1.mt y=aa ms) (hr:t.2.1.depth<r) (ft:y.br 0) (hw:t.2.1.ao≤90000) (h:∀q,S q=none→T E D [x0,x1,aa (j8 y),aa (oW (aa t)),aa (oW none),x5,aa (.ref q),x7] (bQ S q (.bJ (af ms)))):u_ (r+1) T E D [x0,x1,aa (j8 y),aa (oW (aa t)),aa (oW none),x5,x6,x7] S:=by
 have ee:∀t:Tn,oW (aa t)= .bT [.str t.1,j8 t.2.1,j8 t.2.2]:=λ_=>rfl;have a1:∀t:Tn,nW [W.str t.1,j8 t.2.1,j8 t.2.2] 1=aa (j8 t.2.1):=λ_=>rfl;rw[ee,show oW none=W.b_ from rfl]at *;unfold u_;ext;rw[a1];dsimp only;refine Bh hr ft hw (λys hys q hq=>?_) λh0=>by rw[e]at h0;cases h0
 rw[e]at hys;cases hys
 try ext
 exact h q hq
theorem OF (hB:∀t∈B,t.2.1.depth≤4∧t.2.1.ao≤100∧t.2.2.depth≤4∧t.2.2.ao≤100∧t.2.2.br t.2.1.nb):∀(n:Nat) {S:kB}{x y z:Tr}{r:Nat}{Q:WK}{E:ah→kB→Prop},S a=aa (.bJ (B.map nz))→Mv B n x y z→n+12≤r→x.hd (λ_=>True)→y.hd (λ_=>True)→x.ao≤1000→y.ao≤1000→Q (j8 z) S→ui (r+1) [.ref a,j8 x,j8 y] S Q E
 |0,S,x,y,z,r,Q,E,ha,M,hr,hx,hy,wx,wy,h=>by cases M
 |n+1,S,x,y,z,r,Q,E,ha,M,hr,hx,hy,wx,wy,h=>by
  right
  have one:∀{as bs:List Tr},hds (λ_=>True) as→hds (λ_=>True) bs→nB as≤1000→nB bs≤1000→ ∀(S1:kB),Sub S S1→ ∀{a' b' c':Tr}{Q:WK}{E:ah→kB→Prop},a'∈as→b'∈bs→Mv B n a' b' c'→Q (j8 c') S1→ui (r+1) [.ref a,j8 a',j8 b'] S1 Q E:=λ{as bs} h1 h2 h3 h4 S1 sb {a' b' c' Q E} m1 m2 M q=>
   OF hB n (sb _ _ ha) M `l (nV.mp h1 _ m1) (nV.mp h2 _ m2) (by have:=pk m1;lia) (by have:=pk m2;lia) q
  have start:∀{s z:ah}{ts us:List Tr}{E':WX}{D:nC}{S1:kB}{va vb vf:W}{f:Option Tn}{as bs cs:List Tr},S1 a=aa (.bJ (B.map nz))→Sub S S1→zT S1 va (af as)→zT S1 vb (af bs)→oZ B n as bs cs→hds (λ_=>True) as→hds (λ_=>True) bs→nB as≤1000→nB bs≤1000→(∀t,f=aa t→t∈B∧cs.length=t.2.1.nb)→(∀S',Sub S S'→D.rt (j8 (Fe f s cs)) S')→
    Da (r+1) E' D [aa (.ref a),aa (W.bT (W.str s::af ts)),aa (W.bT (W.str z::af us)),aa vf,aa (oW f),aa va,aa vb,none] S1:=λ{s z ts us E' D S1 va vb vf f as bs cs} gV sb q1 q2 M h1 h2 h3 h4 hf hQ=>by
   have hl:=qX as;have:=YN (x:= .nd s ts) (y:= .nd z us) (vf:=vf) (f:=f) (x7:=none) (E:=E') (D:=D) rfl gV q1 q2 M `l (λt ht=>by
    obtain⟨m,e⟩:=hf t ht;obtain⟨g1,g2,g3,g4,g5⟩:=hB t m;exact⟨g3,g4,by rw[e];exact g5⟩) `l (one h1 h2 h3 h4 S1 sb) λS' sb'=>hQ S' (sb.trans sb')
   simpa only[j8]using this
  obtain⟨s,ts,z',us,rfl,rfl⟩:=M.nd;have ex:j8 (.nd s ts)= .bT (.str s::af ts):=by simp only[j8]
  have ey:j8 (.nd z' us)= .bT (.str z'::af us):=by simp only[j8]
  have hx':=hx;have hy':=hy;have wx':=wx;have wy':=wy;simp only[Tr.hd]at hx' hy';simp only[Tr.ao]at wx' wy';rw[Zk,ex,ey];ext;refine uc ha (uc ha ?_);cases M with
  | @nn _ _ _ _ _ cs e1 e2 M=>
   rw[e1,e2];exact Vu (start (f:=none) ha .refl (.inl rfl) (.inl rfl) M hx'.2 hy'.2 `l `l (λ_ h=>nomatch h) λS' sb=>⟨_,sb,h⟩)
  | @ns _ _ _ _ _ cs ms t e1 e2 e3 e4 M=>
   have ht:t∈B:=bX e2;have hm:=zX t.2.1 _ _ e3 hx;have ft:=vJ (m:=0) _ hx;obtain⟨g1,g2,g3,g4,g5⟩:=hB t ht;rw[e1,e2,←ex];refine Qs e3 `l ft `l λq hq=>?_;rw[ex];exact start (f:=aa t) (keep ha hq) (.bQ .refl hq) (.inr ⟨q,rfl,nv⟩) (.inl rfl) M hm.1 hy'.2 `l `l (λ_ h=>by cases h;exact⟨ht,e4⟩) λS' sb=>⟨_,sb,h⟩
  | @sn _ _ _ _ _ cs ms t e1 e2 e3 M=>
   have ht:t∈B:=bX e1;have hm:=zX t.2.1 _ _ e3 hy;have ft:=vJ (m:=0) _ hy;obtain⟨g1,g2,g3,g4,g5⟩:=hB t ht;rw[e1,e2,←ey];refine RH e3 `l ft `l λq hq=>?_;rw[ey];exact start (f:=none) (keep ha hq) (.bQ .refl hq) (.inl rfl) (.inr ⟨q,rfl,nv⟩) M hx'.2 hm.1 `l `l (λ_ h=>nomatch h) λS' sb=>⟨_,sb,h⟩
  | @ss _ _ _ _ _ cs t t' e1 e2 e3 M=>
   have ht:t∈B:=bX e2;rw[e1,e2];exact YO (start (f:=aa t) ha .refl (.inl rfl) (.inl rfl) M hx'.2 hy'.2 `l `l (λ_ h=>by cases h;exact⟨ht,e3⟩) λS' sb=>⟨_,sb,h⟩)
def C6:pq 2=λt=>t.2.2:=by funext t;exact if_neg `d
section
variable {ws hs:List ah}{B:List Tn}
def oP.s2 (b:oP ws hs B):vR (pq 2) B:=by
 rw[C6];refine⟨λt ht=>(b.ri t ht).br,λt ht=>?_,λt ht=>?_⟩
 ·have:=(b.ri t ht).dp;show t.2.2.depth≤4;lia
 ·have:=(b.ri t ht).wt;show t.2.2.ao≤10;lia
mutual
theorem W9:∀(L t:Tr) (ys:List Tr),L.mt t=aa ys→ ∀y∈ys,y.depth≤t.depth
 | .bl n,t,ys,e,y,hy=>by
  rw[Tr.mt]at e;cases e;rw[bg]at hy;rw[hy];exact aA _
 | .nd s ls, .bl n,ys,e,y,hy=>by rw[Tr.mt]at e;cases e
 | .nd s ls, .nd z us,ys,e,y,hy=>by
  rw[Tr.mt]at e;split at e
  ·have:=Bc ls us ys e y hy;rw[Tr.depth];lia
  ·cases e
theorem Bc:∀(ls us ys:List Tr),oB ls us=aa ys→ ∀y∈ys,y.depth≤nL us
 | [],us,ys,e,y,hy=>by rw[oB]at e;cases e;cases hy
 |l::ls,[],ys,e,y,hy=>by rw[oB]at e;cases e;cases hy
 |l::ls,u::us,ys,e,y,hy=>by
  rw[oB]at e;cases q1:l.mt u with
  |none=>rw[q1]at e;cases e
  |some xs=>
   rw[q1]at e;cases q2:oB ls us with
   |none=>rw[q2]at e;cases e
   |some zs=>
    rw[q2]at e;cases e;rw[nL];obtain hy |hy:=bu.mp hy
    ·have:=W9 l u xs q1 y hy;lia
    ·have:=Bc ls us zs q2 y hy;lia
end
def Ue (c d:Int→Nat):Prop:=∀x:Int,0≤x→x<8→(c x≤1∧d x≤1)∨(c x=2∧d x=2)
end
def tz (f x:Int):nK f x≤1:=by unfold nK;split<;>lia
def Lv (B:List Tn) (s:ah) (g:Tn→W):B.findSome? (λt=>if t.1 == s then aa (g t) else none)=(nF B s).map g:=by
 unfold nF
 induction B with
 |nil=>rfl
 |cons t B ih=>
  rw[eH,b8];cases e:t.1 == s with
  |true=>rfl
  |false=>simpa using ih
theorem Oc (hnd:(B.map λt=>t.1).Nodup) (ha:S a=aa (.bJ (B.map nz))) (hn:n=1∨n=2) (hg:vR (pq n) B):∀(d:Nat) {t:Tr}{r:Nat}{Q:WK}{E:ah→kB→Prop},t.depth≤d→d+10≤r→t.ar B→t.ao≤1000→Q (j8 (t.mk B (pq n))) S→A5 (r+1) [.ref a,j8 t, .int n] S Q E
 |0,t,r,Q,E,hd,hr,hh,hw,h=>by have:=qK t;lia
 |d+1, .bl k,r,Q,E,hd,hr,hh,hw,h=>by simp [Tr.ar]at hh
 |d+1, .nd s ts,r,Q,E,hd,hr,hh,hw,h=>by
  simp only[Tr.depth]at hd;simp only[Tr.ao]at hw;simp only[Tr.ar]at hh;have hk:=qX ts;right
  rw[A5];simp only[j8];left;rw[qc];refine qk (λσ=>∃x,σ=[x,aa (.ref a),aa (.int n)]) j8 (λt=>j8 (t.mk B (pq n))) trivial ts [] _ ⟨none,rfl⟩ (by simp;lia) (λx hx σ R hI hR=>?_) ?_
  ·obtain⟨y,rfl⟩:=hI;have hdx:=p_ hx;have hwx:=pk hx;simp only[O3];left;exact Oc hnd ha hn hg d `l `l (pC.mp hh.2 x hx) `l (hR _ _ ⟨_,rfl⟩ .refl)
  ·rw[aM];intro q hq;have eu:(ts.map λt=>j8 (t.mk B (pq n)))=af (ts.map (Tr.mk B (pq n))):=by rw[qc,bh];rfl
   rw[eu,←qc];have fq:bQ S q (Ob.bJ (af (ts.map (Tr.mk B (pq n))))) q=aa (.bJ (af (ts.map (Tr.mk B (pq n))))):=nv;have fa:=keep (x:=Ob.bJ (af (ts.map (Tr.mk B (pq n))))) ha hq;have sub:Sub S (bQ S q (Ob.bJ (af (ts.map (Tr.mk B (pq n)))))):= .bQ .refl hq;generalize bQ S q (Ob.bJ (af (ts.map (Tr.mk B (pq n)))))=S1 at fq fa sub⊢
   try left
   rw[nG fa];refine xF (S:=S1) ?_ (λσ=>∃x,σ=[aa (.ref a),aa (.bT (.str s::af ts)),aa (.int n),aa (.ref q),x]) nz (λt=>if t.1 == s then aa (j8 ((pq n t).aD (ts.map (Tr.mk B (pq n))))) else none) B _ ⟨_,rfl⟩ (λt ht σ N hI hno hret=>?_) (λe σ hI=>?_) λw e S' sb=>?_
   ·exact fa
   ·obtain⟨x,rfl⟩:=hI;simp only[Pd];have ee:nz t= .bT [.str t.1,j8 t.2.1,j8 t.2.2]:=rfl;rw[ee];left;cases e:t.1 == s with
    |true=>
     rw[e]at hret
     try left
     rw[HL t hn];dsimp only;have et:t.1=s:=by simpa using e
     have hgw:=hg.wt t ht;refine GX 4 (hg.dp t ht) `l fq ?_ `l (hret _ rfl _ .refl);rw[ay,hh.1 t (by rw[←et];exact rK hnd ht)];exact hg.br t ht
    |false=>
     rw[e]at hno;exact hno rfl _ _ ⟨_,rfl⟩ .refl
   ·obtain⟨x,rfl⟩:=hI;rw[Lv]at e;have e0:nF B s=none:=by
     cases z:nF B s with
     |none=>rfl
     |some t=>rw[z]at e;cases e
    rw[BO e0]at h
    try left
    rw[IE]
    try rw[nG fq]
    try left
    simp only[j8]at h;refine⟨nH ?_,_,sub,h⟩;rw[rg,ay];lia
   ·rw[Lv]at e;cases z:nF B s with
    |none=>rw[z]at e;cases e
    |some t=>
     rw[z]at e;rw[BU z]at h;cases e;exact⟨_,sub.trans sb,h⟩
noncomputable def tw (B:List Tn) (s:ah) (n:Nat):List (List Int):=match nF B s with
 |none=>(bD n).map λ(i:Nat)=>[(i:Int)]
 |some t=>t.2.1.bls.map λx=>x.1
mutual
noncomputable def Tr.us (B:List Tn) (p:List Int):Tr→List (List Int×ah)
 | .bl _=>[]
 | .nd s ts=>(match nF B s with
  |none=>[]
  |some _=>[(p,s)])++xk B p (tw B s ts.length) ts
noncomputable def xk (B:List Tn) (p:List Int):List (List Int)→List Tr→List (List Int×ah)
 |q::qs,t::ts=>t.us B (p++q)++xk B p qs ts
 |_,_=>[]
end
noncomputable def X1 (B:List Tn) (k:Int) (n:Nat):List (List Int):=if k<0 then(bD n).map λ(i:Nat)=>[(i:Int)] else(B.getD k.toNat (⟨#[]⟩, .bl 0, .bl 0)).2.1.bls.map λx=>x.1
mutual
noncomputable def Pl.ns (B:List Tn) (p:List Int):Pl→List (List Int×Int×ah)
 | .nd k b h ps=>(if k<0 then [] else [(p,b,(B.getD k.toNat (⟨#[]⟩, .bl 0, .bl 0)).1)])++Ni B p (X1 B k ps.length) ps
noncomputable def Ni (B:List Tn) (p:List Int):List (List Int)→List Pl→List (List Int×Int×ah)
 |q::qs,t::ts=>t.ns B (p++q)++Ni B p qs ts
 |_,_=>[]
end
def UC (h:nF B s=none):(Tr.nd s ts).us B p=xk B p ((bD ts.length).map λ(i:Nat)=>[(i:Int)]) ts:=by
 rw[Tr.us,tw,h];rfl
def WC (h:nF B s=aa t):(Tr.nd s ts).us B p=(p,s)::xk B p (t.2.1.bls.map λx=>x.1) ts:=by
 rw[Tr.us,tw,h];rfl
noncomputable def IC (c:Int→Nat) (xs:List (List Int×Int×ah)):List (List Int×ah):=(xs.filter λx=>c x.2.1 == 1).map λx=>(x.1,x.2.2)
noncomputable def pR (B:List Tn) (t:Tr):Option Tn:=B.find? λu=>(u.2.1.mt t).isSome
mutual
noncomputable def Tr.op (B:List Tn) (p:List Int):Tr→List (List Int×ah)
 | .bl _=>[]
 | .nd s ts=>(match pR B (.nd s ts) with
  |none=>[]
  |some t=>[(p,t.1)])++pD B p 0 ts
noncomputable def pD (B:List Tn) (p:List Int) (i:Nat):List Tr→List (List Int×ah)
 | []=>[]
 |t::ts=>t.op B (p++[(i:Int)])++pD B p (i+1) ts
end
def wE (hL:L∈bH n h c d):∃ts,L= .nd h ts:=by
 unfold bH at hL;split at hL<;>simp only[aB,bo,or_false]at hL
 all_goals first
  | (subst hL;exact⟨_,rfl⟩)
  | (rcases hL with rfl |rfl<;>exact⟨_,rfl⟩)
def Ag (h:((Tr.nd s ls).mt (.nd z us)).isSome=true):s=z:=by
 simp only[Tr.mt]at h;split at h
 ·rename_i q;simp only[bN,beq_iff_eq]at q;exact q.1
 ·cases h
def JR (h1:((Tr.nd s (l::ls)).mt x).isSome=true) (h2:((Tr.nd t (m::ms)).mt x).isSome=true):∃u,(l.mt u).isSome=true∧(m.mt u).isSome=true:=by
 obtain k |⟨z,_ |⟨u,us⟩⟩:=x
 ·cases h1
 ·simp [Tr.mt]at h1
 ·refine⟨u,?_⟩;have key:∀{s:ah}{l:Tr}{ls:List Tr},((Tr.nd s (l::ls)).mt (.nd z (u::us))).isSome=true→(l.mt u).isSome=true:=λ{s l ls} h=>by
   unfold Tr.mt at h;split at h
   ·unfold oB at h;cases q:l.mt u with
    |none=>rw[q]at h;cases h
    |some xs=>rfl
   ·cases h
  exact⟨key h1,key h2⟩
def BC (h1:((Tr.nd s []).mt x).isSome=true) (h2:((Tr.nd t (m::ms)).mt x).isSome=true):False:=by
 obtain k |⟨z,_ |⟨u,us⟩⟩:=x
 ·cases h1
 ·simp [Tr.mt]at h2
 ·simp [Tr.mt]at h1
def MB (hL:L∈bH n h c d) (hM:M∈bH n h c d) (h1:(L.mt x).isSome=true) (h2:(M.mt x).isSome=true):L=M:=by
  unfold bH at hL hM;split at hL<;>simp only[aB,bo,or_false]at hL hM
  all_goals first
    | (rw[hL,hM])
    | (rcases hL with rfl |rfl<;>rcases hM with rfl |rfl<;>first
        |rfl
        | (obtain⟨u,a,b⟩:=JR h1 h2
           first
           |cases BC a b
           |cases BC b a
           | (obtain⟨v,a,b⟩:=JR a b
              first
              |cases BC a b
              |cases BC b a)))
def m_.one (b:m_ w0 w1 w2 w3 w4 w5 tt B) (G:oH w0 w1 w2 w3 w4 w5) (hu:u∈B) (hv:v∈B) (h1:(u.2.1.mt x).isSome=true) (h2:(v.2.1.mt x).isSome=true):u.2.1=v.2.1:=by
 obtain⟨n,m,e⟩:=b.lf;have mu:u.2.1∈bH n w0 w2 w3++bH m w1 w2 w3:=by rw[←e];exact aL.mpr ⟨u,hu,rfl⟩
 have mv:v.2.1∈bH n w0 w2 w3++bH m w1 w2 w3:=by rw[←e];exact aL.mpr ⟨v,hv,rfl⟩
 have key:∀{L M:Tr},L∈bH n w0 w2 w3→M∈bH m w1 w2 w3→(L.mt x).isSome=true→(M.mt x).isSome=true→False:=λ{L M} hL hM k1 k2=>by
  obtain⟨ts,rfl⟩:=wE hL;obtain⟨us,rfl⟩:=wE hM;cases x with
  |bl k=>simp [Tr.mt]at k1
  |nd s vs=>exact G.n0 w1 `s ((Ag k1).trans (Ag k2).symm)
 rcases bu.mp mu with z |z<;>obtain y |y:=bu.mp mv
 ·exact MB z y h1 h2
 ·exact(key z y h1 h2).elim
 ·exact(key y z h2 h1).elim
 ·exact MB z y h1 h2
def Kj (n:Nat) (h c d:ah):(bH n h c d).Nodup:=by
 unfold bH;split<;>simp
def m_.inj (b:m_ w0 w1 w2 w3 w4 w5 tt B) (G:oH w0 w1 w2 w3 w4 w5):(B.map λt=>t.2.1).Nodup:=by
 obtain⟨n,m,e⟩:=b.lf;rw[e,List.nodup_append];refine⟨Kj ..,Kj ..,λx hx y hy=>?_⟩;obtain⟨ts,rfl⟩:=wE hx;obtain⟨us,rfl⟩:=wE hy;intro z;cases z;exact G.n0 _ `s rfl
theorem Gi{α β:Type}{f:α→β}:∀{xs:List α}{x y:α},(xs.map f).Nodup→x∈xs→y∈xs→f x=f y→x=y
 |z::xs,x,y,h,hx,hy,e=>by
  rw[az,eI]at h;obtain h1 |h1:=aB.mp hx
  ·obtain h2 |h2:=aB.mp hy
   ·rw[h1,h2]
   ·exact(h.1 (aL.mpr ⟨y,h2,by rw[←e,h1]⟩)).elim
  ·obtain h2 |h2:=aB.mp hy
   ·exact(h.1 (aL.mpr ⟨x,h1,by rw[e,h2]⟩)).elim
   ·exact Gi h.2 h1 h2 e
def m_.open_some (b:m_ w0 w1 w2 w3 w4 w5 tt B) (G:oH w0 w1 w2 w3 w4 w5) (ht:t∈B) (hu:us.length=t.2.1.nb):pR B (t.2.1.aD us)=aa t:=by
 have hm:=b.mt t ht us hu;unfold pR;cases e:B.find? λu=>(u.2.1.mt (t.2.1.aD us)).isSome with
 |none=>
  rw[gr]at e;have:=e t ht;rw[hm]at this;simp at this
 |some u=>
  have hu':=fj e;have mu:=bX e;have:=b.one G mu ht hu' (by rw[hm];rfl);rw[Gi (b.inj G) mu ht this]
def m_.open_none (b:m_ w0 w1 w2 w3 w4 w5 tt B) (h0:w0≠s) (h1:w1≠s):pR B (.nd s ts)=none:=by
 obtain⟨n,m,e⟩:=b.lf;unfold pR;rw[gr];intro u hu hz;have mu:u.2.1∈bH n w0 w2 w3++bH m w1 w2 w3:=by rw[←e];exact aL.mpr ⟨u,hu,rfl⟩
 rcases bu.mp mu with z |z<;>obtain⟨ls,el⟩:=wE z<;>rw[el]at hz
 ·exact h0 (Ag hz)
 ·exact h1 (Ag hz)
noncomputable def vN (B:List Tn) (p:List Int):List (List Int)→List Tr→List (List Int×ah)
 |q::qs,t::ts=>t.op B (p++q)++vN B p qs ts
 |_,_=>[]
def Jb (hL:L∈bH n h c d) (h2:∀xs,pR B (.nd c xs)=none) (h3:∀xs,pR B (.nd d xs)=none) (hu:us.length=L.nb) (hk:L= .nd h ks) (p:List Int):pD B p 0 (nN us ks)=vN B p (L.bls.map λx=>x.1) us:=by
 revert ks
 apply BW (P:=λL us=>∀{ks},L= .nd h ks→pD B p 0 (nN us ks)=vN B p (L.bls.map λx=>x.1) us) hL hu<;>intros<;>rename_i hk<;>cases hk<;>simp only[Tr.aD,nN,Tr.op,pD,h2,h3,bE,bf,aM]<;>first |rfl |exact congrArg (_++ ·) (bf _).symm |exact(bf _).symm |exact congrArg (_++ ·) (congrArg (_++ ·) (bf _).symm)
theorem L1:∀(ts:List Tr) (i:Nat),pD B p i ts=vN B p ((hV i ts.length).map λ(i:Nat)=>[(i:Int)]) ts
 | [],i=>by simp [pD,vN]
 |t::ts,i=>by
  rw[pD,L1 ts (i+1),aT,iv,az,vN]
mutual
inductive Wi (B:List Tn) (wn:List (List Int)):Nat→List Int→Tr→Tr→Prop
 |no {n:Nat}{p:List Int}{s:ah}{ts us:List Tr}:p∉wn→nF B s=none→qi B wn n p ((bD ts.length).map λ(i:Nat)=>[(i:Int)]) ts us→Wi B wn (n+1) p (.nd s ts) (.nd s us)
 |yes {n:Nat}{p:List Int}{s:ah}{ts us ms:List Tr}{t:Tn}:p∈wn→pR B (.nd s ts)=aa t→t.2.1.mt (.nd s ts)=aa ms→nF B t.1=aa t→qi B wn n p (t.2.1.bls.map λx=>x.1) ms us→Wi B wn (n+1) p (.nd s ts) (.nd t.1 us)
inductive qi (B:List Tn) (wn:List (List Int)):Nat→List Int→List (List Int)→List Tr→List Tr→Prop
 |nil {n:Nat}{p:List Int}:qi B wn n p [] [] []
 |cons {n:Nat}{p q:List Int}{qs:List (List Int)}{t u:Tr}{ts us:List Tr}:Wi B wn n (p++q) t u→qi B wn n p qs ts us→qi B wn n p (q::qs) (t::ts) (u::us)
end
theorem BP (f:∀{p:List Int}{t u:Tr},Wi B wn n p t u→Wi B wn m p t u):∀(qs:List (List Int)) {ts us:List Tr},qi B wn n p qs ts us→qi B wn m p qs ts us
 | [],_,_,h=>by cases h;exact .nil
 |_::qs,_,_,h=>by
  cases h with
  |cons h1 h2=>exact .cons (f h1) (BP f qs h2)
def UB:∀{p:List Int}{t u:Tr},Wi B wn n p t u→ ∀m,n≤m→Wi B wn m p t u:=by
 induction n with
 |zero=>intro p t u h;cases h
 |succ n ih=>
  intro p t u h m hm;obtain⟨m,rfl⟩:∃m',m=m'+1:=⟨m - 1,`l⟩
  cases h with
  |no h1 h2 h3=>exact .no h1 h2 (BP (λh=>ih h m `l) _ h3)
  |yes h1 h2 h3 h4 h5=>exact .yes h1 h2 h3 h4 (BP (λh=>ih h m `l) _ h5)
def Wi.mono (hm:n≤m) (h:Wi B wn n p t u):Wi B wn m p t u:=UB h m hm
def qi.mono (hm:n≤m) (h:qi B wn n p qs ts us):qi B wn m p qs ts us:=BP (λk=>k.mono hm) qs h
noncomputable def zwK (c:Int→Nat) (xs:List (List Int×Int×ah)):List (List Int):=(IC c xs).map λx=>x.1
def zqL (qs:List (List Int)):Prop:=qs.Pairwise λa b=>¬a <+:b∧ ¬b <+:a
def YH:(Tr.nd h [.bl 0]).bls.map (λx=>x.1)=[[0]]:=by simp [Tr.bls,Tr.plt,o_,Tr.isBl]
def Yp:(Tr.nd h [.bl 0, .bl 1]).bls.map (λx=>x.1)=[[0],[1]]:=by simp [Tr.bls,Tr.plt,o_,Tr.isBl]
def XB:(Tr.nd h [.nd c []]).bls.map (λx=>x.1)=[]:=by simp [Tr.bls,Tr.plt,o_,Tr.isBl]
def ZL:(Tr.nd h [.nd d [.bl 0]]).bls.map (λx=>x.1)=[[0,0]]:=by simp [Tr.bls,Tr.plt,o_,Tr.isBl]
def Yc:(Tr.nd h [.nd c [], .bl 0]).bls.map (λx=>x.1)=[[1]]:=by simp [Tr.bls,Tr.plt,o_,Tr.isBl]
def VL:(Tr.nd h [.nd d [.bl 0], .bl 1]).bls.map (λx=>x.1)=[[0,0],[1]]:=by simp [Tr.bls,Tr.plt,o_,Tr.isBl]
def QL:(Tr.nd h [.nd d [.nd d [.bl 0]], .bl 1, .bl 2]).bls.map (λx=>x.1)=[[0,0,0],[1],[2]]:=by simp [Tr.bls,Tr.plt,o_,Tr.isBl]
def Yv:(Tr.nd h [.nd d [.nd c []], .bl 0, .bl 1]).bls.map (λx=>x.1)=[[1],[2]]:=by simp [Tr.bls,Tr.plt,o_,Tr.isBl]
def Tl:(Tr.nd h []).bls.map (λx=>x.1)=[]:=by simp [Tr.bls,Tr.plt,o_,Tr.isBl]
noncomputable def encX (x:List Int×ah):W:= .bT [mZ x.1, .str x.2]
structure sM (B:List Tn):Prop where
  d:∀t∈B,t.2.1.depth≤4
  w:∀t∈B,t.2.1.ao≤20
def Xh{E:ah→kB→Prop}(L:sM B) (ha:S a=aa (.bJ (B.map nz))) (hl:ts.length≤1000) (hr:20≤r) (h:∀q,S q=none→Q (.ref q) (bQ S q (.bJ ((tw B s ts.length).map mZ)))):zg (r+1) [.ref a,j8 (.nd s ts)] S Q E:=by
 right
 rw[zg];simp only[j8];ext;refine uc ha ?_;unfold tw at h;cases e:nF B s with
 |none=>
  rw[e]at h;simp only[oW]
  try ext
  rw[rg];have e1:(((ts.length+1:Nat):Int) - 1).toNat=ts.length:=by lia
  rw[e1];refine⟨⟨`l,`l⟩,?_⟩
  rw[PY];refine qk (λσ=>∃x,σ=[x]) (λi:Nat=>W.int i) (λi=>mZ [(i:Int)]) trivial (bD ts.length) [] _ ⟨none,rfl⟩ (by simp;lia) (λx hx σ R hI hR=>?_) ?_
  ·obtain⟨y,rfl⟩:=hI;simp only[Pp];ext;exact⟨nH `d,hR _ _ ⟨_,rfl⟩ .refl⟩
  ·rw[aM];intro q hq;have:=h q hq;simp only[bh]at this;exact⟨_, .refl,this⟩
 |some t=>
  rw[e]at h;have ht:t∈B:=bX e;have ee:oW (aa t)= .bT [.str t.1,j8 t.2.1,j8 t.2.2]:=rfl;rw[ee]
  try ext
  rw[show nW [W.str t.1,j8 t.2.1,j8 t.2.2] 1=aa (j8 t.2.1) from rfl];dsimp only;have h1:=L.d t ht;have h2:=L.w t ht;refine Dq `l `l λq hq=>?_;have:=h q hq;simp only[bh]at this;exact⟨_, .refl,this⟩
def Ko (B:List Tn) (x:Tr):B.findSome? (λt=>if(t.2.1.mt x).isSome then aa (nz t) else none)=(pR B x).map nz:=by
 unfold pR
 induction B with
 |nil=>rfl
 |cons t B ih=>
  rw[eH,b8];cases e:(t.2.1.mt x).isSome with
  |true=>rfl
  |false=>simpa using ih
def K9{E:ah→kB→Prop}(L:sM B) (ha:S a=aa (.bJ (B.map nz))) (hf:x.br 0) (hr:20≤r) (h:Q (oW (pR B x)) S):zS (r+1) [.ref a,j8 x] S Q E:=by
 right
 rw[zS];ext;rw[nG ha];refine xF (S:=S) ?_ (λσ=>∃y,σ=[aa (.ref a),aa (j8 x),y]) nz (λt=>if(t.2.1.mt x).isSome then aa (nz t) else none) B _ ⟨_,rfl⟩ (λt ht σ N hI hno hret=>?_) (λe σ hI=>?_) λw e S' sb=>?_
 ·exact ha
 ·obtain⟨y,rfl⟩:=hI;simp only[IP];have ee:nz t= .bT [.str t.1,j8 t.2.1,j8 t.2.2]:=rfl;rw[ee];ext;rw[show nW [W.str t.1,j8 t.2.1,j8 t.2.2] 1=aa (j8 t.2.1) from rfl];dsimp only;have h1:=L.d t ht;have h2:=L.w t ht;refine Bh `l hf `l (λys hys q hq=>?_) λh0=>?_
  ·try ext
   rw[hys]at hret;exact hret _ rfl _ (.bQ .refl hq)
  ·try ext
   rw[h0]at hno;exact hno rfl _ _ ⟨_,rfl⟩ .refl
 ·obtain⟨y,rfl⟩:=hI;ext;rw[Ko]at e;have:pR B x=none:=by
   cases q:pR B x with
   |none=>rfl
   |some t=>rw[q]at e;cases e
  rw[this]at h;exact⟨_, .refl,h⟩
 ·rw[Ko]at e;cases q:pR B x with
  |none=>rw[q]at e;cases e
  |some t=>
   rw[q]at e h;cases e;exact⟨_,sb,h⟩
mutual
theorem AI (B:List Tn):∀(t:Tr) (p:List Int),(t.op B p).length≤t.ao
 | .bl n,p=>by simp [Tr.op]
 | .nd s ts,p=>by
  have:=KA B ts p 0;rw[Tr.op,aW,Tr.ao];split<;>simp<;>lia
theorem KA (B:List Tn):∀(ts:List Tr) (p:List Int) (i:Nat),(pD B p i ts).length≤nB ts
 | [],p,i=>by simp [pD]
 |t::ts,p,i=>by
  have h1:=AI B t (p++[(i:Int)]);have h2:=KA B ts p (i+1);rw[pD,aW,nB];lia
end
mutual
theorem NQ (L:sM B) (haf:f≠a):∀(t:Tr) {r:Nat}{p:List Int}{xs:List W}{S:kB}{Q:WK}{E:ah→kB→Prop},t.depth+25≤r→S a=aa (.bJ (B.map nz))→S f=aa (.bJ xs)→xs.length+t.ao≤100000→p.length+t.depth≤1000→t.hd (λ_=>True)→
  Q .b_ (bQ S f (.bJ (xs++(t.op B p).map encX)))→yx (r+1) [.ref a,j8 t,mZ p, .ref f] S Q E
 | .bl n,r,p,xs,S,Q,E,hr,ha,hf,hx,hp,hh,h=>by simp [Tr.hd]at hh
 | .nd s ts,r,p,xs,S,Q,E,hr,ha,hf,hx,hp,hh,h=>by
  have ft:=vJ (m:=0) _ hh;simp only[Tr.depth]at hr hp;simp only[Tr.ao]at hx;simp only[Tr.hd]at hh;right
  rw[yx];have ee:j8 (.nd s ts)= .bT (.str s::af ts):=by simp only[j8]
  ext;refine K9 L ha ft `l ?_;rw[Tr.op]at h;cases e:pR B (.nd s ts) with
  |none=>
   rw[e]at h;simp only[aM]at h;simp only[oW];rw[ee]
   try ext
   exact FM L haf ts `l ha hf `l `l hh.2 λx5 x6=>⟨_, .refl,h⟩
  |some t=>
   rw[e]at h;have et:oW (aa t)= .bT [.str t.1,j8 t.2.1,j8 t.2.2]:=rfl;rw[et,ee]
   try ext
   simp only[nG hf,true_and];refine⟨nH `d,qJ `l,?_⟩;refine FM L haf ts (xs:=xs++[encX (p,t.1)]) `l (by rw[oz (bG haf)];exact ha) nv (by simp;lia) `l hh.2 λx5 x6=>⟨_, .refl,?_⟩;rw[qr];simpa using h
theorem FM (L:sM B) (haf:f≠a):∀(ts:List Tr) {r:Nat}{p:List Int}{i:Nat}{xs:List W}{S:kB}{E:WX}{D:nC}{t0 x4 x5 x6:Option W},nL ts+25≤r→S a=aa (.bJ (B.map nz))→S f=aa (.bJ xs)→xs.length+nB ts≤100000→p.length+1+nL ts≤1000→hds (λ_=>True) ts→
  (∀x5 x6,D.nx [aa (.ref a),t0,aa (mZ p),aa (.ref f),x4,x5,x6] (bQ S f (.bJ (xs++(pD B p i ts).map encX))))→
  nI (p6 (ow (mU 5) (ow (mU 6) pS))) (F3 (r+1) (yx (r+1))) E D (λ_=>True) (nums i (af ts)) [aa (.ref a),t0,aa (mZ p),aa (.ref f),x4,x5,x6] S
 | [],r,p,i,xs,S,E,D,t0,x4,x5,x6,hr,ha,hf,hx,hp,hh,h=>by
  simp only[af,nums,nI];have:=h x5 x6;rw[pD,dc,bf,tO hf]at this;exact this
 |t::ts,r,p,i,xs,S,E,D,t0,x4,x5,x6,hr,ha,hf,hx,hp,hh,h=>by
  simp only[nL]at hr hp;simp only[nB]at hx;simp only[hds]at hh;simp only[af,nums];refine rJ λN hN=>?_;simp only[F3];ext;rw[NX];refine⟨nH `d,nH `l,?_⟩;have ol:=AI B t (p++[(i:Int)]);refine NQ L haf t `l ha hf `l (by simp;lia) hh.1 ?_;refine hN _ _ _ .refl trivial (FM L haf ts (xs:=xs++(t.op B (p++[(i:Int)])).map encX) `l (by rw[oz (bG haf)];exact ha) nv (by simp;lia) `l hh.2 λx5 x6=>?_);rw[qr];have:=h x5 x6;rw[pD,bC]at this;simpa using this
end
def Oe:oM (mZ p) (mZ q) S Q=(p.length+q.length≤sizeLine∧Q (mZ (p++q)) S):=by
 unfold mZ;rw[E2,ay,ay,bC]
def PB (B:List Tn):Prop:=∀t∈B,∀x∈t.2.1.bls,x.1.length≤4
def W6 (h:PB B):∀q∈tw B s n,q.length≤4:=λq hq=>by
 unfold tw at hq;cases e:nF B s with
 |none=>
  rw[e]at hq;obtain⟨i,_,rfl⟩:=aL.mp hq;simp
 |some t=>
  rw[e]at hq;obtain⟨x,hx,rfl⟩:=aL.mp hq;exact h t (bX e) x hx
section
variable {a:ai}{B:List Tn}{S:kB}{r:Nat}{Q:WK}{E:ah→kB→Prop}{t:Tr}
def zU (L:sM B) (ha:S a=aa (.bJ (B.map nz))) (hd:t.depth≤60) (hr:t.depth+30≤r) (hw:t.ao≤1000) (hh:t.hd (λ_=>True)) (h:∀q,S q=none→Q (.ref q) (bQ S q (.bJ ((t.op B []).map encX)))):uB (r+1) [.ref a,j8 t] S Q E:=by
 right
 rw[uB];ext;refine⟨aU _,λq hq=>⟨aU _,?_⟩⟩;have hqa:q≠a:=λz=>by rw[z,ha]at hq;cases hq
 refine NQ L hqa t (p:=[]) (xs:=[]) `l (keep ha hq) nv (by simp;lia) (by simp;lia) hh ?_;rw[qr,aM];exact⟨_, .refl,h q hq⟩
def Fd{f:ai}{xs:List (List Int×ah)}(hf:S f=aa (.bJ (xs.map encX))) (hl:xs.length≤10000) (h:∀q,S q=none→Q (.ref q) (bQ S q (.bJ ((xs.map λx=>x.1).map mZ)))):xT (r+1) [.ref f] S Q E:=by
 rw[xT];ext;rw[nG hf];refine qk (λσ=>∃y,σ=[y]) encX (λx=>mZ x.1) ?_ xs [] _ ⟨none,rfl⟩ (by simp;lia) (λx hx σ R hI hR=>?_) ?_
 ·exact hf
 ·obtain⟨y,rfl⟩:=hI;simp only[KC,encX];ext;exact hR _ _ ⟨_,rfl⟩ .refl
 ·rw[aM];intro q hq;have:=h q hq;rw[bh]at this;exact⟨_, .refl,this⟩
def zkv (L:sM B) (ha:S a=aa (.bJ (B.map nz))) (hh:(Tr.nd s ts).hd (λ_=>True)) (hw:(Tr.nd s ts).ao≤1000) (hr:25≤r) (h1:pR B (.nd s ts)=aa u) (h2:u.2.1.mt (.nd s ts)=aa ms) (h:Q (j8 (.nd u.1 ms)) S):Bq (r+1) [.ref a,j8 (.nd s ts)] S Q E:=by
 right
 have ht:u∈B:=bX h1;have ft:=vJ (m:=0) _ hh;have hm:=zX u.2.1 _ _ h2 hh;have hl:=qX ms;rw[Bq];ext;refine K9 L ha ft `l ?_;rw[h1];have et:oW (aa u)= .bT [.str u.1,j8 u.2.1,j8 u.2.2]:=rfl;rw[et]
 try ext
 rw[show nW [W.str u.1,j8 u.2.1,j8 u.2.2] 1=aa (j8 u.2.1) from rfl];have g1:=L.d u ht;have g2:=L.w u ht;refine⟨nH `d,Bh `l ft `l (λys hys q hq=>?_) λh0=>by rw[h2]at h0;cases h0⟩
 rw[h2]at hys;cases hys
 try ext
 rw[rg];simp only[j8]at h;exact⟨nH `l,_, .bQ .refl hq,h⟩
end
def T6 (h:nF B s=none):tw B s n=(bD n).map λ(i:Nat)=>[(i:Int)]:=by unfold tw;rw[h]
def RY (h:nF B s=aa t):tw B s n=t.2.1.bls.map λx=>x.1:=by unfold tw;rw[h]
def qi.len:∀{qs:List (List Int)}{ts us:List Tr},qi B wn n p qs ts us→us.length=ts.length:=by
 intro qs
 induction qs with
 |nil=>intro ts us h;cases h;rfl
 |cons q qs ih=>intro ts us h;cases h with |cons _ h=>rw[aT,aT,ih h]
def Vj (n:Nat) (hP4:∀{t u:Tr}{p:List Int}{r:Nat}{S:kB}{Q:WK}{E:ah→kB→Prop},Wi B wn n p t u→n+40≤r+1→S a=aa (.bJ (B.map nz))→S w=aa (.dct (uG wn))→t.hd (λ_=>True)→t.ao≤1000→p.length+4*n≤1000→Q (j8 u) S→uR (r+1) [.ref a,j8 t,mZ p, .ref w] S Q E) :
  ∀{ts us:List Tr}{qs:List (List Int)}{p:List Int},qi B wn n p qs ts us→ ∀{r:Nat}{xs:List W}{f:ai}{S:kB}{G:kB→Prop}{E:WX}{D:nC}{t0 x4 x6 x7:Option W},(∀q∈qs,q.length≤4)→n+40≤r+1→S a=aa (.bJ (B.map nz))→S w=aa (.dct (uG wn))→S f=aa (.bJ xs)→f≠a→f≠w→xs.length+ts.length≤10000→nB ts≤1000→hds (λ_=>True) ts→p.length+4+4*n≤1000→(∀o,G (bQ S f o))→
  (∀x6 x7,D.nx [aa (.ref a),t0,aa (mZ p),aa (.ref w),x4,aa (.ref f),x6,x7] (bQ S f (.bJ (xs++af us))))→
  nI (p6 (ow (mU 6) (ow (mU 7) pS))) (B6 (r+1) (uR (r+1))) E D G (nJ (qs.map mZ) (af ts)) [aa (.ref a),t0,aa (mZ p),aa (.ref w),x4,aa (.ref f),x6,x7] S:=by
 intro ts us qs
 induction qs generalizing ts us with
 |nil=>
  intro p W r xs f S G E D t0 x4 x6 x7 hq hr ha hw hf n1 n2 hx hwt hh hp hG h;cases W;simp only[dc,af,nJ,nI];have:=h x6 x7;simp only[af,bf,tO hf]at this;exact this
 |cons q qs ih=>
  intro p W r xs f S G E D t0 x4 x6 x7 hq hr ha hw hf n1 n2 hx hwt hh hp hG h;cases W with
  | @cons _ _ _ _ t u ts us h1 h2=>
  simp only[nB]at hwt;simp only[hds]at hh;simp only[aT]at hx;have hq4:=hq q aI;simp only[az,af,nJ];refine rJ λN hN=>?_;simp only[B6];ext;simp only[nG hf,true_and];rw[Oe];refine⟨nH `l,hP4 h1 hr ha hw hh.1 `l (by simp;lia) ?_⟩
  try ext
  rw[nG hf];refine⟨qJ `l,?_⟩;refine hN _ _ _ .refl (hG _) (ih h2 (xs:=xs++[j8 u]) (λq' hq'=>hq q' (aG _ hq')) hr (by rw[oz (bG n1)];exact ha) (by rw[oz (bG n2)];exact hw) nv n1 n2 (by simp;lia) `l hh.2 hp (λo=>by rw[qr];exact hG o) λx6 x7=>?_)
  rw[qr];have:=h x6 x7;simpa [af]using this
theorem JD (L:sM B) (hP:PB B):∀(n:Nat) {t u:Tr}{p:List Int}{r:Nat}{S:kB}{Q:WK}{E:ah→kB→Prop},Wi B wn n p t u→n+40≤r+1→S a=aa (.bJ (B.map nz))→S w=aa (.dct (uG wn))→t.hd (λ_=>True)→t.ao≤1000→p.length+4*n≤1000→Q (j8 u) S→uR (r+1) [.ref a,j8 t,mZ p, .ref w] S Q E
 |0,t,u,p,r,S,Q,E,M,hr,ha,hw,hh,hwt,hp,h=>by cases M
 |n+1,t,u,p,r,S,Q,E,M,hr,ha,hw,hh,hwt,hp,h=>by
  right
  have tail:∀{s:ah}{ts us:List Tr}{t0:Option W}{E':WX},qi B wn n p (tw B s ts.length) ts us→hds (λ_=>True) ts→nB ts≤1000→Q (j8 (.nd s us)) S→
    (1:Nat)=1→ ∀f,S f=none→zg (r+1) [.ref a, .bT (.str s::af ts)] (bQ S f (.bJ [])) (λx S1=>uU x S1 λxs G=>nI (p6 (ow (mU 6) (ow (mU 7) pS))) (B6 (r+1) (uR (r+1))) E' { nx:=nE (kD oM (nD {kD m4 (iu 4) (wC (W.int 0))}) (wB sE {iu 5})) E' { nx:=λx S'=>∃S'',Sub S'' S'∧Q W.b_ S'',rt:=λw S'=>∃S'',Sub S'' S'∧Q w S'' },rt:=λw S'=>∃S'',Sub S'' S'∧Q w S'' } (λS'=>G S'∧True) (nJ xs (af ts)) [aa (.ref a),t0,aa (mZ p),aa (.ref w),aa (.bT (.str s::af ts)),aa (.ref f),none,none] S1) E:=λ{s ts us t0 E'} WW hd hw' hQ _ f hf=>by
   have hk:=qX ts;have n1:f≠a:=λz=>by rw[z,ha]at hf;cases hf
   have n2:f≠w:=λz=>by rw[z,hw]at hf;cases hf
   have ee:W.bT (W.str s::af ts)=j8 (.nd s ts):=by simp only[j8]
   rw[ee];refine Xh L (keep ha hf) `l `l λq hq=>?_;rw[C7,As,←ee];obtain⟨hq1,hq2⟩:=rZ hq;refine Vj n (JD L hP n) WW (W6 hP) `l (keep (keep ha hf) hq) (keep (keep hw hf) hq) (keep nv hq) n1 n2 (by simp;lia) hw' hd `l (λo=>⟨?_,trivial⟩) λx6 x7=>?_
   ·show bQ _ f o q=_;rw[oz hq2];exact nv
   ·have hlu:us.length≤1000:=by
     have:=qi.len WW;lia
    ext;rw[rg];simp only[j8]at hQ;refine⟨nH `d,nH `l,S,?_,hQ⟩;rw[MS hq2];exact .bQ (.bQ .refl hf) hq1
  cases M with
  | @no _ _ s ts us h1 h2 h3=>
   simp only[Tr.hd]at hh;simp only[Tr.ao]at hwt;rw[uR];simp only[j8];ext;rw[DA hw,Oy,decide_eq_false h1]
   try ext
   refine⟨aU _,λf hf=>?_⟩;have:=tail (t0:=aa (.bT (.str s::af ts))) (E':=λc x S'=>E c S') (by rw[T6 h2];exact h3) hh.2 `l h rfl f hf;simpa only[and_true]using this
  | @yes _ _ s ts us ms t h1 h2 h3 h4 h5=>
   have hm:=zX t.2.1 _ _ h3 hh;rw[uR];ext;rw[DA hw,Oy,decide_eq_true h1]
   try ext
   refine zkv L ha hh hwt `l h2 h3 ?_;simp only[j8]
   try ext
   refine⟨aU _,λf hf=>?_⟩;have:=tail (t0:=aa (.bT (.str s::af ts))) (E':=λc x S'=>E c S') (by rw[RY h4];exact h5) hm.1 `l h rfl f hf;simpa only[and_true]using this
theorem IA:∀(p q:List Int),oD (oq S (n+1)) (p.map W.int) (q.map W.int)=aa (decide (p=q))
 | [],[]=>by simp [oD]
 | [],j::q=>by simp [oD]
 |i::p,[]=>by simp [oD]
 |i::p,j::q=>by
  rw[az,az,oD,GA,IA p q];simp only[bV];rw[eU];simp
def DC (p q:List Int):oq S (n+2) (mZ p) (mZ q)=aa (decide (p=q)):=by
 unfold mZ;rw[zL,IA]
theorem Lz:∀ys:List (List Int),r8 S (mZ x) (ys.map mZ)=aa (decide (x∈ys))
 | []=>by simp [r8]
 |y::ys=>by
  rw[az,r8,DC (n:=57),Lz ys];simp only[bV];rw[eU];simp only[jr,decide_eq_true_eq,aB];exact⟨λh=>h.elim (λe=> .inl e.symm) .inr,λh=>h.elim (λe=> .inl e.symm) .inr⟩
section
variable {a:ai}{B:List Tn}{wn:List (List Int)}{S:kB}{r n:Nat}{Q:WK}{E:ah→kB→Prop}{t u:Tr}{f:ai}
def Fo (L:sM B) (hP:PB B) (M:Wi B wn n [] t u) (hn:n≤60) (hr:110≤r) (ha:S a=aa (.bJ (B.map nz))) (hf:S f=aa (.bJ (wn.map mZ))) (hh:t.hd (λ_=>True)) (hw:t.ao≤1000) (hl:wn.length≤10000) (h:Q (j8 u) S):xZ (r+1) [.ref a,j8 t, .ref f] S Q E:=by
 right
 rw[xZ];ext;refine⟨aU _,?_⟩;rw[nG hf];refine qk (λσ=>∃y,σ=[y]) mZ (λp=>W.bT [mZ p, .bl true]) ?_ wn [] _ ⟨none,rfl⟩ (by simp;lia) (λx hx σ R hI hR=>?_) ?_
 ·exact hf
 ·obtain⟨y,rfl⟩:=hI;simp only[O6];ext;exact⟨nH `d,hR _ _ ⟨_,rfl⟩ .refl⟩
 ·rw[aM];have e:so (wn.map λp=>W.bT [mZ p, .bl true])=aa wn:=M6 wn;rw[e];refine⟨`l,λd hd=>?_⟩;have e0:W.bT []=mZ []:=rfl;rw[e0];exact JD L hP n M `l (keep ha hd) nv hh hw (by simp;lia) ⟨_, .bQ .refl hd,h⟩
def Qg (L:sM B) (hP:PB B) (M:Wi B wn n [] t u) (hn:n≤60) (hr:115≤r) (ha:S a=aa (.bJ (B.map nz))) (hf:S f=aa (.bJ (wn.map mZ))) (hh:t.hd (λ_=>True)) (hw:t.ao≤1000) (hd:t.depth≤60) (hl:wn.length≤10000) (hks:((t.op B []).map λx=>x.1)=ks) (hin:∀x∈wn,x∈ks) (h:Q (j8 u) S):AV (r+1) [.ref a,j8 t, .ref f] S Q E:=by
 right
 have ol:=AI B t [];rw[AV];ext;refine zU L ha hd `l hw hh λq hq=>?_;refine Fd nv `l λq2 hq2=>?_;rw[hks];have f2:bQ (bQ S q (Ob.bJ ((t.op B []).map encX))) q2 (Ob.bJ (ks.map mZ)) q2=aa (.bJ (ks.map mZ)):=nv;have ff:=keep (x:=Ob.bJ (ks.map mZ)) (keep (x:=Ob.bJ ((t.op B []).map encX)) hf hq) hq2;have fa:=keep (x:=Ob.bJ (ks.map mZ)) (keep (x:=Ob.bJ ((t.op B []).map encX)) ha hq) hq2;have sub:Sub S (bQ (bQ S q (Ob.bJ ((t.op B []).map encX))) q2 (Ob.bJ (ks.map mZ))):= .trans (.bQ .refl hq) (.bQ .refl hq2);generalize bQ (bQ S q (Ob.bJ ((t.op B []).map encX))) q2 (Ob.bJ (ks.map mZ))=S2 at f2 ff fa sub⊢
 try ext
 rw[nG ff];refine xF (S:=S2) ?_ (λσ=>∃x,σ=[aa (.ref a),aa (j8 t),aa (.ref f),aa (.ref q2),x]) mZ (λ_=>none) wn _ ⟨_,rfl⟩ (λx hx σ N hI hno hret=>?_) (λe σ hI=>?_) λw e S' sb=>?_
 ·exact ff
 ·obtain⟨y,rfl⟩:=hI;unfold NB;ext;rw[nG f2,Lz,decide_eq_true (hin x hx)]
  try ext
  exact hno rfl _ _ ⟨_,rfl⟩ .refl
 ·obtain⟨y,rfl⟩:=hI
  try ext
  exact Fo L hP M hn `l fa ff hh hw hl ⟨_,sub,h⟩
 ·rw[List.findSome?_eq_none_iff.mpr (λ_ _=>rfl)]at e;cases e
end
theorem N7:∀(ls us:List Tr),(oB ls us).isSome=(ls.zip us).all λx=>(x.1.mt x.2).isSome
 | [],us=>by simp [oB]
 |l::ls,[]=>by simp [oB]
 |l::ls,u::us=>by
  rw[oB,gj,eV,←N7 ls us];cases l.mt u with
  |none=>rfl
  |some xs=>cases oB ls us<;>rfl
theorem Px:∀(ls us:List Tr),nJ (af ls) (af us)=(ls.zip us).map λx=>W.bT [j8 x.1,j8 x.2]
 | [],us=>by simp [af,nJ]
 |l::ls,[]=>by simp [af,nJ]
 |l::ls,u::us=>by
  simp [af,nJ,Px ls us]
theorem M9{α:Type}(g:α→Bool):∀xs:List α,tv (xs.map λx=>W.bl (g x))=aa (xs.map g)
 | []=>rfl
 |x::xs=>by rw[az,tv,M9 g xs];rfl
theorem J5:∀(d:Nat) {l t:Tr}{r:Nat}{Q:WK}{E:ah→kB→Prop},l.depth≤d→d≤r→t.br 0→l.ao≤1000→Q (.bl (l.mt t).isSome) S→xR (r+1) [j8 l,j8 t] S Q E
 |0,l,t,r,Q,E,hd,hr,hf,hw,h=>by have:=qK l;lia
 |d+1, .bl n,t,r,Q,E,hd,hr,hf,hw,h=>by
  rw[xR];simp only[j8];ext;simp only[Tr.mt,kq]at h;exact⟨_, .refl,h⟩
 |d+1, .nd s ls, .bl n,r,Q,E,hd,hr,hf,hw,h=>by
  simp only[Tr.br]at hf;lia
 |d+1, .nd s ls, .nd z us,r,Q,E,hd,hr,hf,hw,h=>by
  simp only[Tr.br]at hf;simp only[Tr.depth]at hd;simp only[Tr.ao]at hw;right
  have en:∀s ts,j8 (.nd s ts)= .bT (.str s::af ts):=λs ts=>by simp [j8]
  rw[xR];rw[en,en];ext;rw[rg,rg];have en2:(((ls.length+1:Nat):Int) == ((us.length+1:Nat):Int))=(ls.length == us.length):=by
   rw[eU,beq_iff_eq,beq_iff_eq];lia
  rw[en2];simp only[Tr.mt]at h;cases e1:(s == z) with
  |false=>
   rw[e1]at h;exact⟨_, .refl,h⟩
  |true=>
   rw[e1]at h;rw[if_neg `d];cases e2:(ls.length == us.length) with
   |false=>
    rw[e2]at h;exact⟨_, .refl,h⟩
   |true=>
    rw[e2]at h;rw[if_neg `d];simp only[Bool.and_self,if_true]at h;have hk:=qX ls;rw[Px];refine qk (λσ=>∃x y,σ=[x,y]) (λx:Tr×Tr=> .bT [j8 x.1,j8 x.2]) (λx=> .bl (x.1.mt x.2).isSome) trivial (ls.zip us) [] _ ⟨none,none,rfl⟩ (by simp;lia) (λx hx σ R hI hR=>?_) ?_
    ·obtain⟨x1,x2,rfl⟩:=hI;simp only[Hx];ext;have m1:=(fX hx).1;have m2:=(fX hx).2;have hdd:=p_ m1;have hww:=pk m1;exact J5 d `l `l (zO hf m2) `l (hR _ _ ⟨_,_,rfl⟩ .refl)
    ·rw[aM,M9];refine⟨_, .refl,?_⟩;rw[N7]at h;rw[fD];exact h
theorem O_:∀(q:List Int) {t u:Tr}{x2:Option W},t.at q=aa u→(∀x2,D.nx [aa (j8 u),x1,x2] S)→nI (mU 2) (Et r nc) E D (λ_=>True) (q.map W.int) [aa (j8 t),x1,x2] S
 | [],t,u,x2,h,hD=>by
  cases t<;>simp only[Tr.at,bV]at h<;>subst h<;>simpa [nI]using hD x2
 |i::q, .bl n,u,x2,h,hD=>by simp [Tr.at]at h
 |i::q, .nd s ts,u,x2,h,hD=>by
  obtain⟨a,h2,e1,e2⟩:=rm h;rw[az];refine rJ λN hN=>?_;simp only[Et,j8];ext;have ei:(i:Int)+1=((i.toNat+1:Nat):Int):=by lia
  rw[ei,tE,bW,qc,aV,e1];exact hN _ _ _ .refl trivial (O_ q e2 hD)
def zDx{E:ah→kB→Prop}(ha:t.at q=aa u) (h:Q (j8 u) S):C4 (r+1) [j8 t,mZ q] S Q E:=by
 rw[C4];simp only[mZ];ext;refine O_ q ha λx2=>?_;ext;exact⟨_, .refl,h⟩
def Z3{x:List Int}{t:Tr}{p:List Int}(h:x∈t.pl p):x.length<p.length+t.depth:=by
 rw[←xA,aL]at h;obtain⟨⟨q,u⟩,hm,rfl⟩:=h;obtain⟨r,rfl,_,hr⟩:=yi t p q u hm;simp;lia
mutual
theorem KW (p:List Int):∀(t:Tr) (q:List Int),t.pl (p++q)=(t.pl q).map (p++ ·)
 | .bl _,q=>by simp [Tr.pl]
 | .nd _ ts,q=>by simp [Tr.pl,MI p ts q 0]
theorem MI (p:List Int):∀(ts:List Tr) (q:List Int) (i:Nat),qZ (p++q) i ts=(qZ q i ts).map (p++ ·)
 | [],q,i=>by simp [qZ]
 |t::ts,q,i=>by rw[qZ,qZ,bC,←KW p t,MI p ts q (i+1),bE]
end
theorem IG{E:WX}{D:nC}{x0:Option W}{r:Nat}:∀(ts:List Tr) (one:∀u∈ts,∀{S:kB}{Q:WK}{E:ah→kB→Prop},(∀S' b,Sub S S'→S' b=aa (.bJ ((u.pl []).map mZ))→Q (.ref b) S')→vD r [j8 u] S Q E) (i:Nat) {acc:List (List Int)}{f:ai}{S:kB}{x2 x3:Option W},S f=aa (.bJ (acc.map mZ))→acc.length+nB ts≤100000→nL ts≤1000→
  (∀S' g x2 x3,Sub S S'→S' g=aa (.bJ ((acc++qZ [] i ts).map mZ))→D.nx [x0,aa (.ref g),x2,x3] S')→nI (p6 (ow (mU 2) (ow (mU 3) pS))) (D4 r (vD r)) E D (λ_=>True) (nums i (af ts)) [x0,aa (.ref f),x2,x3] S
 | [],one,i,acc,f,S,x2,x3,hf,hl,hd,h=>by
  have:=h S f x2 x3 .refl (by simpa [qZ]using hf);simpa [nI,nums,af]using this
 |t::ts,one,i,acc,f,S,x2,x3,hf,hl,hd,h=>by
  simp only[nL]at hd;simp only[nB]at hl;simp only[af,nums];refine rJ λN hN=>?_;simp only[D4];ext;refine one t aI λS1 b sb hb=>?_;dsimp only;rw[nG hb];have hpl:(t.pl []).length=t.ao:=by rw[←xA,ay,wV]
  refine qk (λσ=>∃x,σ=[x,aa (.int i)]) mZ (λq=>mZ ((i:Int)::q)) hb (t.pl []) [] _ ⟨none,rfl⟩ (by simp;lia) (λq hq σ R hI hR=>?_) ?_
  ·obtain⟨x,rfl⟩:=hI;have hq2:=Z3 hq;simp only[Kx];ext;have e1:W.bT [.int (i:Int)]=mZ [(i:Int)]:=rfl;rw[e1,Oe];refine⟨nH `d,nH (by simp at hq2⊢;lia),hR _ _ ⟨_,rfl⟩ .refl⟩
  ·rw[aM,nG (sb _ _ hf)];refine⟨nH (by simp;lia),λa ha=>?_⟩;have e:acc.map mZ++(t.pl []).map (λq=>mZ ((i:Int)::q))=(acc++t.pl [(i:Int)]).map mZ:=by
    have:=KW [(i:Int)] t [];rw[bf]at this;rw[bC,this,bh];rfl
   rw[e];have hpl2:(t.pl [(i:Int)]).length=t.ao:=by rw[←xA,ay,wV]
   refine hN _ _ _ .refl trivial (IG ts (λu hu=>one u (aG _ hu)) (i+1) nv (by simp;lia) `l λS' g x2 x3 sb' hg=>?_);exact h S' g x2 x3 ((sb.trans (.new ha)).trans sb') (by rw[qZ,←bE];exact hg)
theorem NF:∀(d:Nat) {t:Tr}{r:Nat}{S:kB}{Q:WK}{E:ah→kB→Prop},t.depth≤d→d≤r→t.ao≤1000→t.depth≤1000→(∀S' b,Sub S S'→S' b=aa (.bJ ((t.pl []).map mZ))→Q (.ref b) S')→vD (r+1) [j8 t] S Q E
 |0,t,r,S,Q,E,hd,hr,hw,hz,h=>by have:=qK t;lia
 |d+1, .bl n,r,S,Q,E,hd,hr,hw,hz,h=>by
  rw[vD];simp only[j8];ext;refine⟨nH `d,nH `d,λa ha=>⟨_, .refl,h _ a (.new ha) nv⟩⟩
 |d+1, .nd s ts,r,S,Q,E,hd,hr,hw,hz,h=>by
  simp only[Tr.depth]at hd hz;simp only[Tr.ao]at hw;right
  rw[vD];simp only[j8];ext;refine⟨nH `d,nH `d,λa ha=>?_⟩;have en:W.bT (.str s::af ts)=j8 (.nd s ts):=by simp [j8]
  try ext
  refine IG ts (λu hu {S Q E} q=>NF d (by have:=p_ hu;lia) `l (by have:=pk hu;lia) (by have:=p_ hu;lia) q) 0 (acc:=[[]]) nv (by simp;lia) `l λS' g x2 x3 sb hg=>?_;ext;exact⟨_, .refl,h _ g ((Sub.new ha).trans sb) (by rw[Tr.pl];exact hg)⟩
theorem Py{α:Type}(P:α→Bool):∀(bs:List α),bs.Nodup→(∀u∈bs,∀v∈bs,P u=true→P v=true→u=v)→bs.filter P=(bs.find? P).toList
 | [],_,_=>rfl
 |b::bs,hn,hu=>by
  rw[eI]at hn;rw[gu,b8];cases e:P b with
  |false=>simpa using Py P bs hn.2 λu h1 v h2=>hu u (aG _ h1) v (aG _ h2)
  |true=>
   simp only[if_true,Option.toList_some,fM,true_and];rw[List.filter_eq_nil_iff];intro v hv pv;have:=hu b aI v (aG _ hv) e pv;subst this;exact hn.1 hv
noncomputable def tP (B:List Tn) (x:List Int×Tr):List (List Int×ah):=(pR B x.2).toList.map λb=>(x.1,b.1)
mutual
theorem B1 (B:List Tn):∀(t:Tr) (p:List Int),t.br 0→(t.plt p).flatMap (tP B)=t.op B p
 | .bl n,p,h=>by
  simp only[Tr.br]at h;lia
 | .nd s ts,p,h=>by
  simp only[Tr.br]at h;rw[Tr.plt,cD,OL B ts p 0 h,Tr.op,tP];cases pR B (.nd s ts)<;>rfl
theorem OL (B:List Tn):∀(ts:List Tr) (p:List Int) (i:Nat),ny 0 ts→(o_ p i ts).flatMap (tP B)=pD B p i ts
 | [],p,i,h=>by simp [o_,pD]
 |t::ts,p,i,h=>by
  simp only[ny]at h;rw[o_,pD,kY,B1 B t _ h.1,OL B ts p (i+1) h.2]
end
theorem EL (L:sM B) (hfa:f≠a) (hu:u.br 0) (hat:t.at q=aa u) (hr:10≤r):∀(bs:List Tn) {xs:List W}{S:kB}{x4:Option W},(∀b∈bs,b∈B)→S a=aa (.bJ (B.map nz))→S f=aa (.bJ xs)→xs.length+bs.length≤100000→
  (∀x4,D.nx [aa (.ref a),aa (j8 t),aa (.ref f),aa (mZ q),x4] (bQ S f (.bJ (xs++((bs.filter λb=>(b.2.1.mt u).isSome).map λb=>(q,b.1)).map encX))))→
  nI (mU 4) (EM (r+1) nc) E D (λS'=>S' a=aa (.bJ (B.map nz))) (bs.map nz) [aa (.ref a),aa (j8 t),aa (.ref f),aa (mZ q),x4] S
 | [],xs,S,x4,hb,ha,hf,hl,h=>by
  have:=h x4;simp only[List.filter_nil,dc,bf,tO hf]at this;simpa [nI]using this
 |b::bs,xs,S,x4,hb,ha,hf,hl,h=>by
  simp only[aT]at hl;rw[az];refine rJ λN hN=>?_;simp only[EM];have eb:nz b= .bT [.str b.1,j8 b.2.1,j8 b.2.2]:=rfl;rw[eb];ext;refine zDx hat ?_;have hm:=hb b aI;have h1:=L.d b hm;have h2:=L.w b hm;refine J5 4 h1 `l hu `l ?_;rw[←eb];ext;cases e:(b.2.1.mt u).isSome with
  |false=>
   simp only[cZ,if_false];refine hN _ _ _ .refl ha (EL L hfa hu hat hr bs (λy hy=>hb y (aG _ hy)) ha hf `l λx4=>?_);have:=h x4;rw[gu,e]at this;simpa using this
  |true=>
   simp only[if_true,nG hf];refine⟨trivial,nH `d,qJ `l,?_⟩;have ha':bQ S f (Ob.bJ (xs++[W.bT [mZ q,W.str b.1]])) a=aa (.bJ (B.map nz)):=by rw[oz (bG hfa)];exact ha
   refine hN _ _ _ .refl ha' (EL L hfa hu hat hr bs (λy hy=>hb y (aG _ hy)) ha' nv (by simp;lia) λx4=>?_);have:=h x4;rw[gu,e]at this;rw[qr];simpa [encX]using this
theorem KL (L:sM B) (hfa:f≠a) (hfc:f≠c) (hr:10≤r) (hn:B.Nodup) (hB:B.length≤100) (U:∀x:Tr,∀u∈B,∀v∈B,(u.2.1.mt x).isSome=true→(v.2.1.mt x).isSome=true→u=v):∀(ys:List (List Int×Tr)) {xs:List W}{S:kB}{x3 x4:Option W},(∀y∈ys,t.at y.1=aa y.2∧y.2.br 0)→S a=aa (.bJ (B.map nz))→S c=aa (.bJ ps)→S f=aa (.bJ xs)→xs.length+100*ys.length+100≤100000→
  (∀x3 x4,D.nx [aa (.ref a),aa (j8 t),aa (.ref f),x3,x4] (bQ S f (.bJ (xs++(ys.flatMap (tP B)).map encX))))→
  nI (mU 3) (FW (r+1) nc) E D (λS'=>S' c=aa (.bJ ps)) (ys.map λy=>mZ y.1) [aa (.ref a),aa (j8 t),aa (.ref f),x3,x4] S
 | [],xs,S,x3,x4,hy,ha,hc,hf,hl,h=>by
  have:=h x3 x4;simp only[dy,dc,bf,tO hf]at this;simpa [nI]using this
 |y::ys,xs,S,x3,x4,hy,ha,hc,hf,hl,h=>by
  simp only[aT]at hl;rw[az];refine rJ λN hN=>?_;simp only[FW];ext;rw[nG ha];have hy0:=hy y aI;have eo:(B.filter λb=>(b.2.1.mt y.2).isSome).map (λb=>(y.1,b.1))=tP B y:=by
   rw[Py _ B hn (U y.2)];rfl
  have ol:(tP B y).length≤1:=by
   unfold tP;cases pR B y.2<;>simp
  refine EL L hfa hy0.2 hy0.1 hr B (λb hb=>hb) ha hf `l λx4=>?_;rw[eo];have hc':bQ S f (Ob.bJ (xs++(tP B y).map encX)) c=aa (.bJ ps):=by rw[oz (bG hfc)];exact hc
  have ha':bQ S f (Ob.bJ (xs++(tP B y).map encX)) a=aa (.bJ (B.map nz)):=by rw[oz (bG hfa)];exact ha
  refine hN _ _ _ .refl hc' (KL L hfa hfc hr hn hB U ys (λz hz=>hy z (aG _ hz)) ha' hc' nv (by simp;lia) λx3 x4=>?_);have:=h x3 x4;rw[cD,bC]at this;rw[qr];simpa using this
mutual
theorem Jm:∀(t:Tr) (p:List Int),t.br 0→ ∀y∈t.plt p,y.2.br 0
 | .bl n,p,h,y,hy=>by
  simp only[Tr.br]at h;lia
 | .nd s ts,p,h,y,hy=>by
  have h':=h;simp only[Tr.br]at h';rw[Tr.plt,aB]at hy;obtain rfl |hy:=hy
  ·exact h
  ·exact PP ts p 0 h' y hy
theorem PP:∀(ts:List Tr) (p:List Int) (i:Nat),ny 0 ts→ ∀y∈o_ p i ts,y.2.br 0
 | [],p,i,h,y,hy=>by simp [o_]at hy
 |t::ts,p,i,h,y,hy=>by
  simp only[ny]at h;rw[o_,bu]at hy;obtain hy |hy:=hy
  ·exact Jm t _ h.1 y hy
  ·exact PP ts p (i+1) h.2 y hy
end
def Sm{E:ah→kB→Prop}(L:sM B) (hn:B.Nodup) (hB:B.length≤100) (U:∀x:Tr,∀u∈B,∀v∈B,(u.2.1.mt x).isSome=true→(v.2.1.mt x).isSome=true→u=v) (ha:S a=aa (.bJ (B.map nz))) (hd:t.depth≤60) (hr:t.depth+20≤r) (hw:t.ao≤900) (ht:t.br 0)
  (h:∀S' b,Sub S S'→S' b=aa (.bJ ((t.op B []).map encX))→Q (.ref b) S'):zc (r+1) [.ref a,j8 t] S Q E:=by
 right
 rw[zc];ext;refine⟨aU _,λf hf=>?_⟩;refine NF t.depth (aA _) `l `l `l λS1 c sb hc=>?_;have ff:S1 f=aa (.bJ []):=sb _ _ nv;have fa:S1 a=aa (.bJ (B.map nz)):=sb _ _ (keep ha hf);have hfa:f≠a:=by
  rintro rfl;rw[hf]at ha;cases ha
 have ep:(t.pl []).map mZ=(t.plt []).map λy=>mZ y.1:=by rw[←xA,bh];rfl
 have hfc:f≠c:=by
  rintro rfl;rw[ff]at hc;have e:=congrArg dF (Ob.bJ.inj (aO hc));rw[ep,ay,wV]at e;have:=tu t;simp at e;lia
 try ext
 rw[nG hc,ep];rw[ep]at hc;have hpl:=wV t [];refine KL L hfa hfc `l hn hB U (t.plt []) (λy hy=>⟨(Kl hy).1,Jm t [] ht y hy⟩) fa hc ff (by simp;lia) λx3 x4=>?_;ext;rw[B1 B t [] ht];exact⟨_, .refl,h _ f (Sub.bQ ((Sub.new hf).trans sb) hf) nv⟩
section
variable {c:Int→Nat}
def xh (c:Int→Nat):Prop:=∀x:Int,0≤x→x<8→c x≤1
def xh.ak (hc:xh c):∀x:Int,0≤x→x<8→uW c x=0:=λx h0 h1=>by
 have:=hc x h0 h1;unfold uW;split<;>lia
end
def qS (f:Int):xh (nK f):=λx _ _=>tz f x
section
variable {c d:Int→Nat}
def ua{c d:Int→Nat}(hc:xh c) (hd:xh d):Ue c d:=λx h0 h1=> .inl ⟨hc x h0 h1,hd x h0 h1⟩
end
noncomputable def u1 (B:List Tn) (p:Pl):List (List Int×ah):=IC (nK 1) (p.ns B [])
mutual
noncomputable def Tr.sg:Tr→Nat
 | .bl _=>0
 | .nd _ ts=>1+uk ts
noncomputable def uk:List Tr→Nat
 | []=>0
 |t::ts=>t.sg+uk ts
end
mutual
noncomputable def Tr.sd:Tr→Nat
 | .bl _=>0
 | .nd _ ts=>1+sD ts
noncomputable def sD:List Tr→Nat
 | []=>0
 |t::ts=>max t.sd (sD ts)
end
mutual
noncomputable def Tr.nm:Tr→List Int
 | .bl n=>[n]
 | .nd _ ts=>ph ts
noncomputable def ph:List Tr→List Int
 | []=>[]
 |t::ts=>t.nm++ph ts
end
structure RX (t:Tr):Prop where
  sg:t.sg≤3
  sd:t.sd≤3
  ct:∀n,t.nm.count n≤2
def M1{l:List Int}(h:∀n∈l,l.count n≤2):∀n,l.count n≤2:=λn=>by
 by_cases m:n∈l
 ·exact h n m
 ·rw[List.count_eq_zero_of_not_mem m];lia
section
variable {w0 w1 w2 w3 w4 w5:ah}{a:ai}{r:Nat}{S:kB}{Q:WK}{E:ah→kB→Prop}
def Xl (h1:t.depth≤4) (h2:t.br m) (h3:∀{P:ah→Prop},(∀x∈ws,P x)→t.hb P) (h4:t.ao≤7):rp ws m t:=⟨h1,h2,h3,h4⟩
def p7 (w0 w1 w2 w3 w4 w5:ah):Nat→Bool→List Tr
 |0,_=>[.nd w2 [], .nd w5 [], .nd w3 [.nd w5 []]]
 |1,g=>[.bl 0, .nd w3 [.bl 0], .nd w4 [.bl 0, .bl 0], .nd w4 [.nd w3 [.bl 0], .nd w2 []]]++(if g then [.nd w0 [.bl 0], .nd w1 [.nd w3 [.bl 0], .bl 0], .nd w3 [.nd w0 [.bl 0]]] else [.nd w2 [], .nd w3 [.nd w5 []]])
 |3,g=>[.nd w4 [.nd w4 [.bl 0, .bl 1], .bl 2], .nd w4 [.bl 2, .nd w4 [.bl 1, .bl 0]], .nd w4 [.nd w4 [.bl 0, .bl 0], .nd w4 [.bl 1, .bl 2]]]++(if g then [.nd w0 [.nd w4 [.nd w4 [.bl 2, .bl 0], .bl 1]], .nd w1 [.bl 1, .nd w4 [.bl 0, .bl 2]]] else [.bl 0, .bl 2, .nd w4 [.bl 1, .bl 1], .nd w5 []])
 |_,g=>[.nd w4 [.bl 0, .bl 1], .nd w4 [.bl 1, .bl 0], .nd w4 [.nd w3 [.bl 0], .bl 1], .nd w4 [.nd w4 [.bl 0, .bl 0], .bl 1]]++(if g then [.nd w1 [.bl 1, .bl 0], .nd w0 [.nd w4 [.bl 0, .bl 1]]] else [.bl 0, .bl 1, .nd w3 [.bl 1], .nd w5 []])
def XN (hm:m≤3) (g:Bool):∀t∈p7 w0 w1 w2 w3 w4 w5 m g,rp [w0,w1,w2,w3,w4,w5] m t:=by
 intro t ht;obtain _ |_ |_ |_ |m:=m
 all_goals first
  |lia
  | (cases g<;>simp only[p7,b6,aM,if_true,if_false,cZ,aB,bo,or_false]at ht<;>(try rcases ht with rfl |rfl |rfl |rfl |rfl |rfl |rfl |rfl)<;>(try rcases ht with rfl |rfl |rfl |rfl |rfl |rfl |rfl)<;>(try rcases ht with rfl |rfl |rfl |rfl |rfl |rfl)<;>(try rcases ht with rfl |rfl |rfl |rfl |rfl)<;>(try rcases ht with rfl |rfl |rfl)<;>exact Xl (by simp [Tr.depth,nL]) (by simp [Tr.br,ny]) (λ{P} h=>by simp [Tr.hb,o6]<;>simp [h]) (by simp [Tr.ao,nB]))
def IK{m:Nat}(hm:m≤3) (g:Bool):∀t∈p7 w0 w1 w2 w3 w4 w5 m g,RX t:=by
 intro t ht;obtain _ |_ |_ |_ |m:=m
 all_goals first
  |lia
  | (cases g<;>simp only[p7,b6,aM,if_true,if_false,cZ,aB,bo,or_false]at ht<;>(try rcases ht with rfl |rfl |rfl |rfl |rfl |rfl |rfl |rfl)<;>(try rcases ht with rfl |rfl |rfl |rfl |rfl |rfl |rfl)<;>(try rcases ht with rfl |rfl |rfl |rfl |rfl |rfl)<;>(try rcases ht with rfl |rfl |rfl |rfl |rfl)<;>(try rcases ht with rfl |rfl |rfl)<;>exact⟨by simp [Tr.sg,uk],by simp [Tr.sd,sD],M1 (by simp only[Tr.nm,ph,aM,bf,b6]<;>decide)⟩)
def Vo (g:Bool):1≤(p7 w0 w1 w2 w3 w4 w5 m g).length∧(p7 w0 w1 w2 w3 w4 w5 m g).length≤8:=by
 rcases m with _ |_ |_ |_ |m<;>cases g<;>simp [p7]
def Dg (e:WE) (σ:nj) (S:kB) (w:W):Prop:=∀(E:WX) (Q:WK),Q w S→e E σ S Q
def xp (t:WA) (σ:nj) (S:kB) (ws:List W):Prop:=∀(E:WX) (Q:List W→kB→Prop),Q ws S→t E σ S Q
def uo:Dg (wC w) σ S w:=λ_ _ q=>q
def uv (h1:σ[1]? =aa (aa (.ref a))) (ha:S a=aa (.bJ xs)) (hi:nW xs i=aa w):Dg (kD m4 (iu 1) (wC (.int i))) σ S w:=λE Q q=>by
 rw[G9,zi,h1];dsimp only;rw[DM,L8,nG ha,hi];exact q
def uq:xp ae σ S []:=λ_ _ q=>q
def uf (h1:Dg e σ S w) (h2:xp t σ S ws):xp (jX e t) σ S (w::ws):=λE Q q=>h1 E _ (h2 E _ q)
def ue (h:xp t σ S ws) (hl:ws.length≤sizeLine):Dg (nD t) σ S (.bT ws):=λE Q q=>h E _ ⟨hl,q⟩
def vh{E:WX}{D:nC}{σ:nj}{c:WT}{A T:WS}(hc:∀Q:Bool→kB→Prop,Q false S→c E σ S Q) (k:T E D σ S):mV (om c A oj) T E D σ S:=hc _ k
def xx{E:WX}{D:nC}{σ:nj}{c:WT}{A A' T:WS}(hc:∀Q:Bool→kB→Prop,Q true S→c E σ S Q) (k:A E { D with nx:=T E D } σ S):mV (om c A A') T E D σ S:=hc _ k
def uO{E:WX}{σ:nj}{m k:Int}{b:Bool}(h0:σ[0]? =aa (aa (.int m))) (e:(m == k)=b):∀Q:Bool→kB→Prop,Q b S→n_ (kD (pH false) (iu 0) (wC (.int k))) E σ S Q:=λQ q=>by
 rw[I0,G9,zi,h0];dsimp only;rw[DM,O',Ep,e];cases b<;>exact q
def xN{E:WX}{σ:nj}{b:Bool}(h2:σ[2]? =aa (aa (.bl b))):∀Q:Bool→kB→Prop,Q b S→pW (iu 2) E σ S Q:=λQ q=>by
 rw[Mr,zi,h2];dsimp only;rw[NL];exact q
def Fk{E:WX}{D:nC}{σ:nj}{t:WA}{T:WS}{ws:List W}(h:xp t σ S ws) (hl:ws.length≤sizeLine) (k:∀q,S q=none→T E D (σ.set 3 (aa (.ref q))) (bQ S q (.bJ ws))):mV (mS (nQ (oo t)) (mU 3)) T E D σ S:=h E _ ⟨hl,k⟩
def PZ{E:WX}{D:nC}{σ:nj}{t:WA}{ws:List W}(h:xp t σ S ws) (hl:ws.length≤sizeLine) (k:∀q,S q=none→D.rt (.ref q) (bQ S q (.bJ ws))):nE (nQ (oo t)) E D σ S:=h E _ ⟨hl,k⟩
def xP{E:WX}{D:nC}{σ:nj}{t:WA}{ws xs:List W}{q:ai}(h3:σ[3]? =aa (aa (.ref q))) (hq:S q=aa (.bJ xs)) (h:xp t σ S ws) (hl:ws.length≤sizeLine) (hx:xs.length+ws.length≤sizeLine) (k:∀q2,S q2=none→D.rt (.ref q2) (bQ S q2 (.bJ (xs++ws)))):nE (nQ (sY (iu 3) (oo t))) E D σ S:=by
 rw[My,Ml,PQ,zi,h3];dsimp only;rw[Kn];refine h E _ ⟨hl,?_⟩;rw[nG hq];exact⟨hx,k⟩
def Ua{m:Nat}(hm:m≤3) (g:Bool) (ha:S a=aa (.bJ (qa w0 w1 w2 w3 w4 w5))) (h:∀S' b,Sub S S'→S' b=aa (.bJ (af (p7 w0 w1 w2 w3 w4 w5 m g)))→Q (.ref b) S'):Cd (r+1) [.int m, .ref a, .bl g] S Q E:=by
 rw[Cd,u0];refine⟨rfl,?_⟩;obtain _ |_ |_ |_ |m:=m
 ·exact xx (uO rfl `d) (PZ (ws:=[W.bT [W.str w2],W.bT [W.str w5],W.bT [W.str w3,W.bT [W.str w5]]]) (by repeat' first |exact uq |refine uf ?_ ?_ |exact uo |exact uv rfl ha (by first |exact qL |exact qO |exact qm |exact qB |exact qp |exact ql) |refine ue ?_ (nH (bM rfl))) (nH (bM rfl)) λq hq=>⟨_, .refl,h _ q (.bQ .refl hq) (by rw[nv];simp [p7,af,j8])⟩)
 ·refine vh (uO rfl `d) (xx (uO rfl `d) (Fk (ws:=[W.int 0,W.bT [W.str w3,W.int 0],W.bT [W.str w4,W.int 0,W.int 0],W.bT [W.str w4,W.bT [W.str w3,W.int 0],W.bT [W.str w2]]]) (by repeat' first |exact uq |refine uf ?_ ?_ |exact uo |exact uv rfl ha (by first |exact qL |exact qO |exact qm |exact qB |exact qp |exact ql) |refine ue ?_ (nH (bM rfl))) (nH (bM rfl)) λq hq=>?_))
  have fa:bQ S q (.bJ [W.int 0,W.bT [W.str w3,W.int 0],W.bT [W.str w4,W.int 0,W.int 0],W.bT [W.str w4,W.bT [W.str w3,W.int 0],W.bT [W.str w2]]]) a=aa (.bJ (qa w0 w1 w2 w3 w4 w5)):=keep ha hq;cases g
  ·exact vh (xN rfl) (xP (ws:=[W.bT [W.str w2],W.bT [W.str w3,W.bT [W.str w5]]]) rfl nv (by repeat' first |exact uq |refine uf ?_ ?_ |exact uo |exact uv rfl fa (by first |exact qL |exact qO |exact qm |exact qB |exact qp |exact ql) |refine ue ?_ (nH (bM rfl))) (nH (bM rfl)) (nH (bM rfl)) λq2 hq2=>⟨_, .refl,h _ q2 ((Sub.bQ .refl hq).trans (.bQ .refl hq2)) (by rw[nv];simp [p7,af,j8])⟩)
  ·exact xx (xN rfl) (xP (ws:=[W.bT [W.str w0,W.int 0],W.bT [W.str w1,W.bT [W.str w3,W.int 0],W.int 0],W.bT [W.str w3,W.bT [W.str w0,W.int 0]]]) rfl nv (by repeat' first |exact uq |refine uf ?_ ?_ |exact uo |exact uv rfl fa (by first |exact qL |exact qO |exact qm |exact qB |exact qp |exact ql) |refine ue ?_ (nH (bM rfl))) (nH (bM rfl)) (nH (bM rfl)) λq2 hq2=>⟨_, .refl,h _ q2 ((Sub.bQ .refl hq).trans (.bQ .refl hq2)) (by rw[nv];simp [p7,af,j8])⟩)
 ·refine vh (uO rfl `d) (vh (uO rfl `d) (vh (uO rfl `d) (Fk (ws:=[W.bT [W.str w4,W.int 0,W.int 1],W.bT [W.str w4,W.int 1,W.int 0],W.bT [W.str w4,W.bT [W.str w3,W.int 0],W.int 1],W.bT [W.str w4,W.bT [W.str w4,W.int 0,W.int 0],W.int 1]]) (by repeat' first |exact uq |refine uf ?_ ?_ |exact uo |exact uv rfl ha (by first |exact qL |exact qO |exact qm |exact qB |exact qp |exact ql) |refine ue ?_ (nH (bM rfl))) (nH (bM rfl)) λq hq=>?_)))
  have fa:bQ S q (.bJ [W.bT [W.str w4,W.int 0,W.int 1],W.bT [W.str w4,W.int 1,W.int 0],W.bT [W.str w4,W.bT [W.str w3,W.int 0],W.int 1],W.bT [W.str w4,W.bT [W.str w4,W.int 0,W.int 0],W.int 1]]) a=aa (.bJ (qa w0 w1 w2 w3 w4 w5)):=keep ha hq;cases g
  ·exact vh (xN rfl) (xP (ws:=[W.int 0,W.int 1,W.bT [W.str w3,W.int 1],W.bT [W.str w5]]) rfl nv (by repeat' first |exact uq |refine uf ?_ ?_ |exact uo |exact uv rfl fa (by first |exact qL |exact qO |exact qm |exact qB |exact qp |exact ql) |refine ue ?_ (nH (bM rfl))) (nH (bM rfl)) (nH (bM rfl)) λq2 hq2=>⟨_, .refl,h _ q2 ((Sub.bQ .refl hq).trans (.bQ .refl hq2)) (by rw[nv];simp [p7,af,j8])⟩)
  ·exact xx (xN rfl) (xP (ws:=[W.bT [W.str w1,W.int 1,W.int 0],W.bT [W.str w0,W.bT [W.str w4,W.int 0,W.int 1]]]) rfl nv (by repeat' first |exact uq |refine uf ?_ ?_ |exact uo |exact uv rfl fa (by first |exact qL |exact qO |exact qm |exact qB |exact qp |exact ql) |refine ue ?_ (nH (bM rfl))) (nH (bM rfl)) (nH (bM rfl)) λq2 hq2=>⟨_, .refl,h _ q2 ((Sub.bQ .refl hq).trans (.bQ .refl hq2)) (by rw[nv];simp [p7,af,j8])⟩)
 ·refine vh (uO rfl `d) (vh (uO rfl `d) (xx (uO rfl `d) (Fk (ws:=[W.bT [W.str w4,W.bT [W.str w4,W.int 0,W.int 1],W.int 2],W.bT [W.str w4,W.int 2,W.bT [W.str w4,W.int 1,W.int 0]],W.bT [W.str w4,W.bT [W.str w4,W.int 0,W.int 0],W.bT [W.str w4,W.int 1,W.int 2]]]) (by repeat' first |exact uq |refine uf ?_ ?_ |exact uo |exact uv rfl ha (by first |exact qL |exact qO |exact qm |exact qB |exact qp |exact ql) |refine ue ?_ (nH (bM rfl))) (nH (bM rfl)) λq hq=>?_)))
  have fa:bQ S q (.bJ [W.bT [W.str w4,W.bT [W.str w4,W.int 0,W.int 1],W.int 2],W.bT [W.str w4,W.int 2,W.bT [W.str w4,W.int 1,W.int 0]],W.bT [W.str w4,W.bT [W.str w4,W.int 0,W.int 0],W.bT [W.str w4,W.int 1,W.int 2]]]) a=aa (.bJ (qa w0 w1 w2 w3 w4 w5)):=keep ha hq;cases g
  ·exact vh (xN rfl) (xP (ws:=[W.int 0,W.int 2,W.bT [W.str w4,W.int 1,W.int 1],W.bT [W.str w5]]) rfl nv (by repeat' first |exact uq |refine uf ?_ ?_ |exact uo |exact uv rfl fa (by first |exact qL |exact qO |exact qm |exact qB |exact qp |exact ql) |refine ue ?_ (nH (bM rfl))) (nH (bM rfl)) (nH (bM rfl)) λq2 hq2=>⟨_, .refl,h _ q2 ((Sub.bQ .refl hq).trans (.bQ .refl hq2)) (by rw[nv];simp [p7,af,j8])⟩)
  ·exact xx (xN rfl) (xP (ws:=[W.bT [W.str w0,W.bT [W.str w4,W.bT [W.str w4,W.int 2,W.int 0],W.int 1]],W.bT [W.str w1,W.int 1,W.bT [W.str w4,W.int 0,W.int 2]]]) rfl nv (by repeat' first |exact uq |refine uf ?_ ?_ |exact uo |exact uv rfl fa (by first |exact qL |exact qO |exact qm |exact qB |exact qp |exact ql) |refine ue ?_ (nH (bM rfl))) (nH (bM rfl)) (nH (bM rfl)) λq2 hq2=>⟨_, .refl,h _ q2 ((Sub.bQ .refl hq).trans (.bQ .refl hq2)) (by rw[nv];simp [p7,af,j8])⟩)
 ·lia
end
def ztG (h:0<Rs.length):∃R∈Rs,nW (af Rs) (d % (Rs.length:Int))=aa (j8 R):=by
 have h0:(0:Int)<Rs.length:=by lia
 have h1:=dq d (Int.ne_of_gt h0);have h2:=dD d h0;obtain⟨n,hn⟩:=Int.eq_ofNat_of_zero_le h1;rw[hn]at h2⊢;have hl:n<Rs.length:=by lia
 refine⟨Rs[n],d9 hl,?_⟩;rw[tE,qc,aV,aP hl];rfl
def BL (h:Sub S S'):Sub (bQ S a o) (bQ S' a o):=λb x e=>by
 by_cases z:b=a
 ·subst z;rw[nv]at e⊢;exact e
 ·rw[oz z]at e⊢;exact h b x e
def Fl (n:Nat) (h c d:ah):∀L∈bH n h c d,L.depth≤4∧L.ao≤7∧L.nb≤3:=by
 intro L hL;unfold bH at hL;split at hL<;>simp only[aB,bo,or_false]at hL
 all_goals first
  | (subst hL;simp [Tr.depth,nL,Tr.ao,nB,Tr.nb,nbs])
  | (rcases hL with rfl |rfl<;>simp [Tr.depth,nL,Tr.ao,nB,Tr.nb,nbs])
section
variable {w0 w1 w2 w3 w4 w5:ah}{tt:List ah}{ns:List Int}{aw at' ab al:ai}{r:Nat}{E:WX}{D:nC}{k j:Int}{g:Bool}
theorem IV (h6:tt.length=6) (k0:0≤k) (j0:0≤j):∀(ls:List Tr) {i:Nat}{C:List Tn}{S:kB}{G:kB→Prop}{x7 x8 x9 x10:Option W},(∀L∈ls,L.depth≤4∧L.ao≤7∧L.nb≤3)→C.length+ls.length≤6→S ab=aa (.bJ (C.map nz))→S aw=aa (.bJ (qa w0 w1 w2 w3 w4 w5))→S at'=aa (.bJ (tt.map W.str))→ab≠aw→ab≠at'→
  (∀o,G (bQ S ab o))→
  (∀(C':List Tn) (x7 x8 x9 x10:Option W),C'.map (λt=>t.2.1)=ls→(C.map (λt=>t.1)=tt.take C.length→(C++C').map (λt=>t.1)=tt.take (C++C').length)→(∀t∈C',t.2.2∈p7 w0 w1 w2 w3 w4 w5 t.2.1.nb g)→D.nx [aa (.cM ns),aa (.int k),aa (.ref aw),aa (.ref at'),aa (.bl g),aa (.ref ab),aa (.int j),aa (.ref al),x7,x8,x9,x10] (bQ S ab (.bJ ((C++C').map nz))))→
  nI (p6 (ow (mU 8) (ow (mU 9) pS))) (G6 (r+6) nc) E D G (nums i (af ls)) [aa (.cM ns),aa (.int k),aa (.ref aw),aa (.ref at'),aa (.bl g),aa (.ref ab),aa (.int j),aa (.ref al),x7,x8,x9,x10] S
 | [],i,C,S,G,x7,x8,x9,x10,hL,hl,hb,hw,ht,n1,n2,hG,h=>by
  simp only[af,nums,nI];have:=h [] x7 x8 x9 x10 rfl (λz=>by simpa using z) (λ_ h=>nomatch h)
  rw[bf,tO hb]at this;exact this
 |L::ls,i,C,S,G,x7,x8,x9,x10,hL,hl,hb,hw,ht,n1,n2,hG,h=>by
  have hLd:=hL L aI;simp only[aT]at hl;simp only[af,nums];refine rJ λN hN=>?_;simp only[G6];ext;refine FG (r:=r+5) 4 hLd.1 `l `l ?_
  try dsimp only
  refine Ua (r:=r+5) hLd.2.2 g hw λS1 rr sb hrr=>?_
  try ext
  refine⟨.inl ⟨`d,`d⟩,vP (r:=r+5) `l λdraw=>?_⟩
  try ext
  obtain⟨ti,eti,_⟩:=Yi (ss:=tt) (i:=(C.length:Int)) `l `l;simp only[nG (sb _ _ hb),nG (sb _ _ ht),ay,eti,true_and,nG hrr,rg];have rl:=Vo (w0:=w0) (w1:=w1) (w2:=w2) (w3:=w3) (w4:=w4) (w5:=w5) (m:=L.nb) g;obtain⟨R,hRm,hRe⟩:=ztG (Rs:=p7 w0 w1 w2 w3 w4 w5 L.nb g) (d:=draw) `l;have hR:=hRm
  try ext
  refine⟨`l,?_⟩
  try simp only[nG hrr,hRe]
  try ext
  try simp only[nG (sb _ _ hb),ay]
  refine⟨nH `d,qJ `l,?_⟩;refine hN _ _ (bQ S ab (.bJ ((C++[(ti,L,R)]).map nz))) (by rw[bC];exact BL sb) (hG _) ?_;refine IV h6 k0 j0 ls (C:=C++[(ti,L,R)]) (λM hM=>hL M (aG _ hM)) (by simp;lia) nv (by rw[oz (bG n1)];exact hw) (by rw[oz (bG n2)];exact ht) n1 n2 (λo=>by rw[qr];exact hG o) λC' x7 x8 x9 x10 e1 e2 e3=>?_
  rw[qr];have:=h ((ti,L,R)::C') x7 x8 x9 x10 (by rw[az,e1]) (λz=>?_) (λt ht'=>?_)
  ·simpa using this
  ·have e:C++[(ti,L,R)]++C'=C++(ti,L,R)::C':=by simp
   rw[e]at e2;refine e2 ?_;rw[bC,z,aW,bZ,lW];congr 1;have e4:(tt.map W.str)[C.length]? =aa (.str ti):=by rw[←tE];exact eti
   rw[aV]at e4;cases q:tt[C.length]? with
   |none=>rw[q]at e4;cases e4
   |some y=>rw[q]at e4;cases e4;rfl
  ·obtain rfl |z:=aB.mp ht'
   ·exact hR
   ·exact e3 t z
def QN{E:ah→kB→Prop}(h6:tt.length=6) (k0:0≤k) (hw:S aw=aa (.bJ (qa w0 w1 w2 w3 w4 w5))) (ht:S at'=aa (.bJ (tt.map W.str)))
  (h:∀(p:ai) (B:List Tn) (n m:Nat),S p=none→B.map (λt=>t.2.1)=bH n w0 w2 w3++bH m w1 w2 w3→B.map (λt=>t.1)=tt.take B.length→(∀t∈B,t.2.2∈p7 w0 w1 w2 w3 w4 w5 t.2.1.nb g)→Q (.ref p) (bQ S p (.bJ (B.map nz)))):Dj (r+7) [.cM ns, .int k, .ref aw, .ref at', .bl g] S Q E:=by
 rw[show r+7=r+6+1 from rfl,Dj];ext;refine⟨aU _,λab hb=>⟨⟨`d,`d⟩,?_⟩⟩
 refine F0 (λi σ S'=>∃(B:List Tn) (f:Nat→Nat) (x5 x6 x7 x8 x9 x10:Option W),B.map (λt=>t.2.1)=(bD i).flatMap (λj=>bH (f j) (sT w0 w1 j) w2 w3)∧B.map (λt=>t.1)=tt.take B.length∧(∀t∈B,t.2.2∈p7 w0 w1 w2 w3 w4 w5 t.2.1.nb g)∧S'=bQ S ab (.bJ (B.map nz))∧
  σ=[aa (.cM ns),aa (.int k),aa (.ref aw),aa (.ref at'),aa (.bl g),aa (.ref ab),x5,x6,x7,x8,x9,x10]) 2 ?_ ?_ ⟨[],λ_=>0,none,none,none,none,none,none,rfl,rfl,(λ_ h=>nomatch h),rfl,rfl⟩
 ·rintro j hj σ S' N ⟨B,f,x5,x6,x7,x8,x9,x10,e1,e2,e3,rfl,rfl⟩ hN;have fw:bQ S ab (Ob.bJ (B.map nz)) aw=aa (.bJ (qa w0 w1 w2 w3 w4 w5)):=keep hw hb;have ft:bQ S ab (Ob.bJ (B.map nz)) at'=aa (.bJ (tt.map W.str)):=keep ht hb;have fb:bQ S ab (Ob.bJ (B.map nz)) ab=aa (.bJ (B.map nz)):=nv;have n1:ab≠aw:=λz=>by rw[z,hw]at hb;cases hb
  have n2:ab≠at':=λz=>by rw[z,ht]at hb;cases hb
  have eh:nW (qa w0 w1 w2 w3 w4 w5) (j:Int)=aa (.str (sT w0 w1 j)):=by
   rcases(show j=0∨j=1 by lia) with rfl |rfl<;>rfl
  simp only[Lq];ext;refine vP `l λdraw=>?_;ext;simp only[nG fw,eh,qm,qB];refine⟨`d,Q_ λal n hal=>?_⟩;have hl:=Cr n (sT w0 w1 j) w2 w3;have hB:B.length≤4:=by
   have:=congrArg dF e1;rw[ay]at this;rcases(show j=0∨j=1 by lia) with rfl |rfl
   ·simp at this;rw[this];simp
   ·simp at this;have:=Cr (f 0) (sT w0 w1 0) w2 w3;lia
  have nal:al≠ab:=λz=>by rw[z,fb]at hal;cases hal
  try ext
  refine IV (g:=g) h6 k0 `l (bH n (sT w0 w1 j) w2 w3) (Fl _ _ _ _) `l (keep fb hal) (keep fw hal) (keep ft hal) n1 n2 (λo=>?_) λC' x7 x8 x9 x10 g1 g2 g3=>?_
  ·rw[oz nal,nv]
  ·refine hN _ _ (bQ S ab (.bJ ((B++C').map nz))) ?_ ⟨B++C',λi=>if i=j then n else f i,_,_,_,_,_,_,?_,g2 e2,λt ht'=>?_,rfl,rfl⟩
   ·rw[MS nal];exact .bQ .refl (by rw[oz nal];exact(rZ hal).1)
   ·rw[bC,e1,g1,gv,kY];congr 1
    ·rw[lT,lT];congr 1;refine c7 λi hi=>?_;have:=fJ.mp hi;dsimp only;rw[if_neg `l]
    ·simp
   ·obtain z |z:=bu.mp ht'
    ·exact e3 t z
    ·exact g3 t z
 ·rintro σ S' ⟨B,f,x5,x6,x7,x8,x9,x10,e1,e2,e3,rfl,rfl⟩;ext;refine⟨_, .refl,h ab B (f 0) (f 1) hb ?_ e2 e3⟩;rw[e1];simp [gv,sT]
end
mutual
noncomputable def Tr.ord (k:Nat):Tr→Option Nat
 | .bl n=>if n=(k:Int) then aa (k+1) else none
 | .nd _ ts=>sH k ts
noncomputable def sH (k:Nat):List Tr→Option Nat
 | []=>aa k
 |t::ts=>match t.ord k with
  |some m=>sH m ts
  |none=>none
end
def Ck (B:List Tn) (z:ah):Prop:=∀u∈B,∀s ls,u.2.1= .nd s ls→s≠z
structure sB (B:List Tn):Prop where
  inn:∀t∈B,∃s ls,t.2.1= .nd s ls∧o6 (Ck B) ls
  mt:FI B
  fm:∀t∈B,∀x ys,t.2.1.mt x=aa ys→x=t.2.1.aD ys∧ys.length=t.2.1.nb
  one:∀u∈B,∀v∈B,∀x:Tr,(u.2.1.mt x).isSome=true→(v.2.1.mt x).isSome=true→u=v
  od:∀t∈B,t.2.1.ord 0=aa t.2.1.nb
mutual
theorem Kz:∀(L x:Tr) (ys:List Tr) (k m:Nat),L.ord k=aa m→L.mt x=aa ys→ys.length+k=m∧ ∀pre post:List Tr,pre.length=k→L.aD (pre++ys++post)=x
 | .bl n,x,ys,k,m,h,e=>by
  rw[Tr.ord]at h;split at h
  ·rename_i hn;cases h;rw[Tr.mt]at e;cases e;refine⟨by simp;lia,λpre post hp=>?_⟩;rw[Tr.aD,hn,bn,bw,bE,iT `l,hp,gI];rfl
  ·cases h
 | .nd s ls, .bl n,ys,k,m,h,e=>by rw[Tr.mt]at e;cases e
 | .nd s ls, .nd z us,ys,k,m,h,e=>by
  rw[Tr.mt]at e;split at e
  ·rename_i hc;rw[bN,beq_iff_eq,beq_iff_eq]at hc;rw[Tr.ord]at h;obtain⟨h1,h2⟩:=Pq ls us ys k m hc.2 h e;exact⟨h1,λpre post hp=>by rw[Tr.aD,h2 pre post hp,hc.1]⟩
  ·cases e
theorem Pq:∀(ls us ys:List Tr) (k m:Nat),ls.length=us.length→sH k ls=aa m→oB ls us=aa ys→ys.length+k=m∧ ∀pre post:List Tr,pre.length=k→nN (pre++ys++post) ls=us
 | [],us,ys,k,m,hl,h,e=>by
  rw[sH]at h;cases h;rw[oB]at e;cases e;cases us with
  |nil=>exact⟨`s,λ_ _ _=>by rw[nN]⟩
  |cons _ _=>cases hl
 |l::ls,[],ys,k,m,hl,h,e=>by cases hl
 |l::ls,u::us,ys,k,m,hl,h,e=>by
  rw[sH]at h;rw[oB]at e;cases q:l.ord k with
  |none=>rw[q]at h;cases h
  |some j=>
   rw[q]at h;cases q1:l.mt u with
   |none=>rw[q1]at e;cases e
   |some xs=>
    rw[q1]at e;cases q2:oB ls us with
    |none=>rw[q2]at e;cases e
    |some zs=>
     rw[q2]at e;cases e;obtain⟨h1,h2⟩:=Kz l u xs k j q q1;obtain⟨h3,h4⟩:=Pq ls us zs j m (by simpa using hl) h q2;refine⟨by rw[aW];lia,λpre post hp=>?_⟩;rw[nN];have e1:=h2 pre (zs++post) hp;have e2:=h4 (pre++xs) post (by rw[aW];lia);have a1:pre++(xs++zs)++post=pre++xs++(zs++post):=by simp
     have a2:pre++(xs++zs)++post=pre++xs++zs++post:=by simp
     rw[a1,e1,←a1,a2,e2]
end
def Oo (hL:L∈bH n h c d):L.ord 0=aa L.nb:=by
 unfold bH at hL;split at hL<;>simp only[aB,bo,or_false]at hL
 all_goals first
  | (subst hL;simp [Tr.ord,sH,Tr.nb,nbs])
  | (rcases hL with rfl |rfl<;>simp [Tr.ord,sH,Tr.nb,nbs])
def BJ{P:ah→Prop}(hc:P c) (hd:P d) (hL:L∈bH n h c d):∃ls,L= .nd h ls∧o6 P ls:=by
 unfold bH at hL;split at hL<;>simp only[aB,bo,or_false]at hL
 all_goals first
  | (subst hL;exact⟨_,rfl,by simp [o6,Tr.hb,hc,hd]⟩)
  | (rcases hL with rfl |rfl<;>exact⟨_,rfl,by simp [o6,Tr.hb,hc,hd]⟩)
def m_.mem_lefts (b:m_ w0 w1 w2 w3 w4 w5 tt B) (ht:t∈B):∃n,t.2.1∈bH n w0 w2 w3∨t.2.1∈bH n w1 w2 w3:=by
 obtain⟨n,m,e⟩:=b.lf;have:t.2.1∈bH n w0 w2 w3++bH m w1 w2 w3:=by rw[←e];exact aL.mpr ⟨t,ht,rfl⟩
 obtain z |z:=bu.mp this
 ·exact⟨n, .inl z⟩
 ·exact⟨m, .inr z⟩
def m_.ort (b:m_ w0 w1 w2 w3 w4 w5 tt B) (G:oH w0 w1 w2 w3 w4 w5):sB B:=by
 have top:∀z,z≠w0→z≠w1→Ck B z:=λz h0 h1 u hu s ls e=>by
  obtain⟨n,z |z⟩:=b.mem_lefts hu
  ·obtain⟨l,e',_⟩:=BJ (P:=λ_=>True) trivial trivial z;rw[e]at e';cases e';exact h0.symm
  ·obtain⟨l,e',_⟩:=BJ (P:=λ_=>True) trivial trivial z;rw[e]at e';cases e';exact h1.symm
 have t2:=top w2 (G.n0 w2 `s).symm (G.n1 w2 `s).symm;have t3:=top w3 (G.n0 w3 `s).symm (G.n1 w3 `s).symm;have od:∀t∈B,t.2.1.ord 0=aa t.2.1.nb:=λt ht=>by
  obtain⟨n,z |z⟩:=b.mem_lefts ht
  ·exact Oo z
  ·exact Oo z
 refine⟨λt ht=>?_,b.mt,λt ht x ys e=>?_,λu hu v hv x h1 h2=>Gi (b.inj G) hu hv (b.one G hu hv h1 h2),od⟩
 ·obtain⟨n,z |z⟩:=b.mem_lefts ht
  ·obtain⟨l,e',h⟩:=BJ t2 t3 z;exact⟨_,_,e',h⟩
  ·obtain⟨l,e',h⟩:=BJ t2 t3 z;exact⟨_,_,e',h⟩
 ·have ho:=od t ht;obtain⟨h1,h2⟩:=Kz _ _ _ _ _ ho e;have:=h2 [] [] rfl;simp only[aM,bf]at this;exact⟨this.symm,`l⟩
structure Wy (ws:List ah) (B:List Tn) (a:Tr):Prop where
  hd:a.hd λs=>s∈ws∨ ∃t∈B,t.1=s
  ar:a.ar B
noncomputable abbrev ak (B:List Tn) (a:Tr):Tr:=a.mk B λt=>t.2.1
noncomputable abbrev b9 (B:List Tn) (a:Tr):Tr:=a.mk B λt=>t.2.2
theorem Ha{P:ah→Prop}:∀{ts:List Tr}{t:Tr},hds P ts→t∈ts→t.hd P
 |u::ts,t,h,ht=>by
  rw[hds]at h;obtain rfl |ht:=aB.mp ht
  ·exact h.1
  ·exact Ha h.2 ht
theorem Ew:∀{ts:List Tr}{t:Tr},sN B ts→t∈ts→t.ar B
 |u::ts,t,h,ht=>by
  rw[sN]at h;obtain rfl |ht:=aB.mp ht
  ·exact h.1
  ·exact Ew h.2 ht
theorem Wy.cases (b:oP ws ws B) (h:Wy ws B a):(∃s as,a= .nd s as∧s∈ws∧nF B s=none∧ ∀x∈as,Wy ws B x)∨(∃t as,t∈B∧a= .nd t.1 as∧nF B t.1=aa t∧as.length=t.2.1.nb∧ ∀x∈as,Wy ws B x):=by
 obtain⟨h1,h2⟩:=h;cases a with
 |bl n=>rw[Tr.hd]at h1;exact h1.elim
 |nd s as=>
  rw[Tr.hd]at h1;rw[Tr.ar]at h2;have cX:∀x∈as,Wy ws B x:=λx hx=>⟨Ha h1.2 hx,Ew h2.2 hx⟩;obtain h |⟨t,ht,rfl⟩:=h1.1
  ·exact .inl ⟨s,as,rfl,h,qh b.ti (b.sg s h),cX⟩
  ·have e:=rK b.nd ht;exact .inr ⟨t,as,ht,rfl,e,h2.1 t e,cX⟩
def qD{g:Tn→Tr}(h:nF B s=none):(Tr.nd s as).mk B g= .nd s (as.map (Tr.mk B g)):=by
 rw[Tr.mk,h,xO]
def qy{g:Tn→Tr}(h:nF B t.1=aa t):(Tr.nd t.1 as).mk B g=(g t).aD (as.map (Tr.mk B g)):=by
 rw[Tr.mk,h,xO]
mutual
theorem T8 (b:oP ws ws B) (O:sB B):∀(L a:Tr),L.hb (Ck B)→Wy ws B a→(L.mt (ak B a)).isSome=true→(L.mt a).isSome=true
 | .bl n,a,_,_,_=>by rw[Tr.mt];rfl
 | .nd z ls,a,hL,ha,h=>by
  rw[Tr.hb]at hL;obtain ⟨s,as,rfl,hs,e,cX⟩ |⟨t,as,ht,rfl,e,hl,cX⟩:=ha.cases b
  ·rw[show ak B (.nd s as)= .nd s (as.map (ak B)) from qD e,Tr.mt,ay]at h;rw[Tr.mt];split at h
   ·rename_i hc;rw[if_pos hc];exact Hb b O ls as hL.2 cX h
   ·cases h
  ·obtain⟨s0,l0,e0,_⟩:=O.inn t ht;rw[show ak B (.nd t.1 as)=t.2.1.aD (as.map (ak B)) from qy e,e0,Tr.aD]at h;exact absurd (Ag h).symm (hL.1 t ht s0 l0 e0)
theorem Hb (b:oP ws ws B) (O:sB B):∀(ls as:List Tr),o6 (Ck B) ls→(∀x∈as,Wy ws B x)→(oB ls (as.map (ak B))).isSome=true→(oB ls as).isSome=true
 | [],as,_,_,_=>by rw[oB];rfl
 |l::ls,[],_,_,_=>by rw[oB];rfl
 |l::ls,a::as,hL,ha,h=>by
  rw[o6]at hL;rw[az,oB]at h;cases q1:l.mt (ak B a) with
  |none=>rw[q1]at h;cases h
  |some xs=>
   rw[q1]at h;cases q2:oB ls (as.map (ak B)) with
   |none=>rw[q2]at h;cases h
   |some zs=>
    have h1:=T8 b O l a hL.1 (ha a `s) (by rw[q1];rfl);have h2:=Hb b O ls as hL.2 (λx hx=>ha x (aG _ hx)) (by rw[q2];rfl);obtain⟨x1,h1⟩:=dE.mp h1;obtain⟨x2,h2⟩:=dE.mp h2;rw[oB,h1,h2];rfl
end
def Wy.cX (h:Wy ws B (.nd s as)):∀x∈as,Wy ws B x:=λx hx=>by
 obtain⟨h1,h2⟩:=h;rw[Tr.hd]at h1;rw[Tr.ar]at h2;exact⟨Ha h1.2 hx,Ew h2.2 hx⟩
mutual
theorem E1:∀(L a:Tr) (ys:List Tr),L.mt a=aa ys→Wy ws B a→ ∀y∈ys,Wy ws B y
 | .bl n,a,ys,e,h,y,hy=>by
  rw[Tr.mt]at e;cases e;rw[bg]at hy;rw[hy];exact h
 | .nd s ls, .bl n,ys,e,h,y,hy=>by rw[Tr.mt]at e;cases e
 | .nd s ls, .nd z us,ys,e,h,y,hy=>by
  rw[Tr.mt]at e;split at e
  ·exact Nr ls us ys e h.cX y hy
  ·cases e
theorem Nr:∀(ls us ys:List Tr),oB ls us=aa ys→(∀x∈us,Wy ws B x)→ ∀y∈ys,Wy ws B y
 | [],us,ys,e,h,y,hy=>by rw[oB]at e;cases e;cases hy
 |l::ls,[],ys,e,h,y,hy=>by rw[oB]at e;cases e;cases hy
 |l::ls,u::us,ys,e,h,y,hy=>by
  rw[oB]at e;cases q1:l.mt u with
  |none=>rw[q1]at e;cases e
  |some xs=>
   rw[q1]at e;cases q2:oB ls us with
   |none=>rw[q2]at e;cases e
   |some zs=>
    rw[q2]at e;cases e;obtain hy |hy:=bu.mp hy
    ·exact E1 l u xs q1 (h u `s) y hy
    ·exact Nr ls us zs q2 (λx hx=>h x (aG _ hx)) y hy
end
def Iw (b:oP ws ws B) (ht:t∈B) (hl:vs.length=t.2.1.nb) (g:Tn→Tr):(t.2.1.aD vs).mk B g=t.2.1.aD (vs.map (Tr.mk B g)):=
 CH b.ti _ (b.lf t ht).hb (by rw[hl];exact(b.lf t ht).br)
def OG (b:oP ws ws B) (O:sB B) (ht:t∈B) (e:nF B s=none) (hw:Wy ws B (.nd s bs)) (hl:us.length=t.2.1.nb) (h:ak B (.nd s bs)=t.2.1.aD us) :
  ∃vs, .nd s bs=t.2.1.aD vs∧vs.length=t.2.1.nb∧vs.map (ak B)=us∧(∀x∈vs,Wy ws B x)∧nB vs≤(Tr.nd s bs).ao:=by
 obtain⟨s0,ls,e0,hin⟩:=O.inn t ht;have hm:t.2.1.mt (ak B (.nd s bs))=aa us:=by rw[h];exact O.mt t ht us hl
 have h1:(t.2.1.mt (.nd s bs)).isSome=true:=by
  have hm':=hm;rw[show ak B (.nd s bs)= .nd s (bs.map (ak B)) from qD e,e0,Tr.mt,ay]at hm';rw[e0,Tr.mt];split at hm'
  ·rename_i hc;rw[if_pos hc];exact Hb b O ls bs hin hw.cX (by rw[hm'];rfl)
  ·cases hm'
 obtain⟨vs,hv⟩:=dE.mp h1;obtain⟨h2,h3⟩:=O.fm t ht _ _ hv;refine⟨vs,h2,h3,?_,E1 _ _ _ hv hw,Ls _ _ _ hv⟩;rw[h2,show ak B (t.2.1.aD vs)=_ from Iw b ht h3 _,O.mt t ht _ (by rw[ay,h3])]at hm;exact aO hm
def xr:(Tr.nd s as).ao=1+nB as:=by rw[Tr.ao]
inductive xW (P:Int→Prop):Pl→Prop
 |sign {b:Int}{h:ah}{ps:List Pl}:(∀p∈ps,xW P p)→xW P (.nd (-1) b h ps)
 |turn {k:Nat}{b:Int}{h:ah}{ps:List Pl}:P b→(∀p∈ps,xW P p)→xW P (.nd k b h ps)
def yV (x:Int):Prop:=x=1∨x=2∨x=3
theorem BF (b:oP ws ws B) (O:sB B):∀(n:Nat) (x y:Tr),x.ao+y.ao≤n→Wy ws B x→Wy ws B y→ak B x=ak B y→ ∃p,nU ws B p∧xW yV p∧p.ev B (nK 1)=x∧p.ev B (nK 2)=y
 |0,x,y,hn,hx,hy,e=>by
  rcases hx.cases b with⟨s,as,rfl,_⟩ |⟨t,as,_,rfl,_⟩<;>rw[xr]at hn<;>lia
 |n+1,x,y,hn,hx,hy,e=>by
  have lists:∀(xs ys:List Tr),nB xs+nB ys≤n→(∀x∈xs,Wy ws B x)→(∀y∈ys,Wy ws B y)→xs.map (ak B)=ys.map (ak B)→ ∃ps:List Pl,(∀p∈ps,nU ws B p)∧(∀p∈ps,xW yV p)∧ps.map (Pl.ev B (nK 1))=xs∧ps.map (Pl.ev B (nK 2))=ys:=by
   intro xs
   induction xs with
   |nil=>
    intro ys _ _ _ e;cases ys with
    |nil=>exact⟨[],`s,`s,rfl,rfl⟩
    |cons y ys=>cases e
   |cons x xs ih=>
    intro ys hw h1 h2 e;cases ys with
    |nil=>cases e
    |cons y ys=>
     rw[az,az,fM]at e;rw[nB,nB]at hw;obtain⟨p,hp,hq,e1,e2⟩:=BF b O n x y `l (h1 x `s) (h2 y `s) e.1;obtain⟨ps,hps,hqs,e3,e4⟩:=ih ys `l (λz hz=>h1 z (aG _ hz)) (λz hz=>h2 z (aG _ hz)) e.2;exact⟨p::ps,λq hq=>by
      obtain rfl |hq:=aB.mp hq
      ·exact hp
      ·exact hps q hq,λq hz=>by
      obtain rfl |hz:=aB.mp hz
      ·exact hq
      ·exact hqs q hz,by rw[az,e1,e3],by rw[az,e2,e4]⟩
  obtain ⟨s,as,rfl,hs,es,ka⟩ |⟨t,as,ht,rfl,et,la,ka⟩:=hx.cases b
  ·obtain ⟨s',bs,rfl,hs',es',kb⟩ |⟨t,bs,ht,rfl,et,lb,kb⟩:=hy.cases b
   ·rw[show ak B (.nd s as)=_ from qD es,show ak B (.nd s' bs)=_ from qD es']at e;injection e with e1 e2;subst e1;rw[xr,xr]at hn;obtain⟨ps,hps,hqs,e3,e4⟩:=lists as bs `l ka kb e2;exact⟨.nd (-1) 0 s ps, .sign hs hps, .sign hqs,by rw[pL,e3],by rw[pL,e4]⟩
   ·rw[show ak B (.nd t.1 bs)=_ from qy et]at e;obtain⟨vs,ev,lv,ms,kv,wv⟩:=OG b O ht es hx (by rw[ay,lb]) e;rw[xr (s:=t.1)]at hn;obtain⟨ps,hps,hqs,e3,e4⟩:=lists vs bs `l kv kb ms;obtain⟨k,hk⟩:=iJ ht;refine⟨.nd k 2 t.1 ps, .turn hk (by rw[←lb,←e4,ay]) `d `d hps, .turn (by unfold yV;decide) hqs,?_,?_⟩
    ·rw[oE hk,e3,ev,show nK 1 2=0 by decide];rfl
    ·rw[oE hk,e4,show nK 2 2=1 by decide];rfl
  ·obtain ⟨s,bs,rfl,hs,es,kb⟩ |⟨u,bs,hu,rfl,eu,lb,kb⟩:=hy.cases b
   ·rw[show ak B (.nd t.1 as)=_ from qy et]at e;obtain⟨vs,ev,lv,ms,kv,wv⟩:=OG b O ht es hy (by rw[ay,la]) e.symm;rw[xr (s:=t.1)]at hn;obtain⟨ps,hps,hqs,e3,e4⟩:=lists as vs `l ka kv ms.symm;obtain⟨k,hk⟩:=iJ ht;refine⟨.nd k 1 t.1 ps, .turn hk (by rw[←la,←e3,ay]) `d `d hps, .turn (by unfold yV;decide) hqs,?_,?_⟩
    ·rw[oE hk,e3,show nK 1 1=1 by decide];rfl
    ·rw[oE hk,e4,ev,show nK 2 1=0 by decide];rfl
   ·rw[show ak B (.nd t.1 as)=_ from qy et,show ak B (.nd u.1 bs)=_ from qy eu]at e;have m1:=O.mt t ht (as.map (ak B)) (by rw[ay,la]);have m2:=O.mt u hu (bs.map (ak B)) (by rw[ay,lb]);have:t=u:=O.one t ht u hu _ (by rw[m1];rfl) (by rw[show(t.2.1.aD (as.map (ak B)))=_ from e,m2];rfl)
    subst this;have e2:as.map (ak B)=bs.map (ak B):=by
     rw[show(t.2.1.aD (as.map (ak B)))=_ from e,m2]at m1;exact(aO m1).symm
    rw[xr,xr]at hn;obtain⟨ps,hps,hqs,e3,e4⟩:=lists as bs `l ka kb e2;obtain⟨k,hk⟩:=iJ ht;refine⟨.nd k 3 t.1 ps, .turn hk (by rw[←la,←e3,ay]) `d `d hps, .turn (by unfold yV;decide) hqs,?_,?_⟩
    ·rw[oE hk,e3,show nK 1 3=1 by decide];rfl
    ·rw[oE hk,e4,show nK 2 3=1 by decide];rfl
theorem Kr:∀xs ys:List Tr,nB (xs++ys)=nB xs+nB ys
 | [],ys=>by rw[aM,nB,bI]
 |x::xs,ys=>by rw[b6,nB,nB,Kr xs ys,Nat.add_assoc]
mutual
theorem F8:∀(L:Tr) (k m:Nat),L.ord k=aa m→k≤m∧L.nb+k=m∧ ∀(us:List Tr),m≤us.length→(L.aD us).ao+(m - k)=L.ao+nB ((us.drop k).take (m - k))∧ ∀u∈(us.drop k).take (m - k),u.depth≤(L.aD us).depth
 | .bl n,k,m,h=>by
  rw[Tr.ord]at h;split at h
  ·rename_i hn;cases h;refine⟨`l,by rw[Tr.nb];lia,λus hu=>?_⟩
   have hk:k<us.length:=by lia
   have e:(us.drop k).take (k+1 - k)=[us[k]]:=by
    rw[show k+1 - k=1 by lia,fN hk]
    rfl
   have f:(Tr.bl n).aD us=us[k]:=by
    rw[Tr.aD,hn,bn,bw,aP hk];rfl
   rw[e,f];refine⟨?_,λu hu=>?_⟩
   ·simp only[Tr.ao,nB];lia
   ·rw[bg]at hu;rw[hu];exact aA _
  ·cases h
 | .nd s ls,k,m,h=>by
  rw[Tr.ord]at h;obtain⟨h1,h2,h3⟩:=CJ ls k m h;refine⟨h1,by rw[Tr.nb];exact h2,λus hu=>?_⟩
  obtain⟨h4,h5⟩:=h3 us hu;rw[Tr.aD,Tr.ao,Tr.ao,Tr.depth];exact⟨`l,λu hu'=>aX (h5 u hu') `l⟩
theorem CJ:∀(ls:List Tr) (k m:Nat),sH k ls=aa m→k≤m∧nbs ls+k=m∧ ∀(us:List Tr),m≤us.length→nB (nN us ls)+(m - k)=nB ls+nB ((us.drop k).take (m - k))∧ ∀u∈(us.drop k).take (m - k),u.depth≤nL (nN us ls)
 | [],k,m,h=>by
  rw[sH]at h;cases h;refine⟨aA _,by rw[nbs];lia,λus _=>?_⟩
  rw[gI,mz,nN];exact⟨rfl,λu hu=>by cases hu⟩
 |l::ls,k,m,h=>by
  rw[sH]at h;cases q:l.ord k with
  |none=>rw[q]at h;cases h
  |some j=>
   rw[q]at h;obtain⟨h1,h2,h3⟩:=F8 l k j q;obtain⟨g1,g2,g3⟩:=CJ ls j m h;refine⟨`l,by rw[nbs];lia,λus hu=>?_⟩
   obtain⟨h4,h5⟩:=h3 us `l;obtain⟨g4,g5⟩:=g3 us hu;have e:(us.drop k).take (m - k)=(us.drop k).take (j - k)++(us.drop j).take (m - j):=by
    rw[show m - k=(j - k)+(m - j) by lia,kW,kI,show k+(j - k)=j by lia]
   rw[e,Kr,nN,nB,nB,nL];refine⟨`l,λu hu=>?_⟩;obtain hu |hu:=bu.mp hu
   ·have:=h5 u hu;lia
   ·have:=g5 u hu;lia
end
def zqy:∀(L:Tr),L.nb≤L.ao:=λL=>by rw[←FO];exact wu L
theorem Ka:∀ls:List Tr,nbs ls≤nB ls
 | []=>by rw[nbs,nB];exact aA _
 |l::ls=>by rw[nbs,nB];have:=zqy l;have:=Ka ls;lia
def sB.aD (O:sB B) (ht:t∈B) (hl:us.length=t.2.1.nb):(t.2.1.aD us).ao+t.2.1.nb=t.2.1.ao+nB us∧1+nB us≤(t.2.1.aD us).ao∧1+nL us≤(t.2.1.aD us).depth:=by
 obtain⟨s,ls,e,_⟩:=O.inn t ht;have ho:=O.od t ht;obtain⟨_,h2,h3⟩:=F8 _ _ _ ho;obtain⟨h4,_⟩:=h3 us `l;rw[eZ,dO,dW `l]at h4;have hw:1+t.2.1.nb≤t.2.1.ao:=by
  rw[e,Tr.nb,Tr.ao];have:=Ka ls;lia
 refine⟨h4,`l,?_⟩
 rw[e]at ho hl⊢;rw[Tr.ord]at ho;obtain⟨_,_,g3⟩:=CJ _ _ _ ho;obtain⟨_,g5⟩:=g3 us `l;rw[eZ,dO,dW `l]at g5;rw[Tr.aD,Tr.depth];have:=Pw g5;lia
def zr:Int→Nat:=λ_=>0
section
variable {B:List Tn}
mutual
noncomputable def Tr.ne (B:List Tn):Tr→Nat
 | .bl _=>0
 | .nd s ts=>(match nF B s with
  |none=>0
  |some _=>1)+oJ B ts
noncomputable def oJ (B:List Tn):List Tr→Nat
 | []=>0
 |t::ts=>max (t.ne B) (oJ B ts)
end
theorem ya:∀{ts:List Tr},t∈ts→t.ne B≤oJ B ts
 |u::ts,h=>by
  rw[oJ];obtain rfl |h:=aB.mp h
  ·lia
  ·have:=ya h;lia
theorem xV:∀{ts:List Tr},(∀t∈ts,t.ne B≤n)→oJ B ts≤n
 | [],_=>by rw[oJ];lia
 |t::ts,h=>by
  rw[oJ];have:=h t `s;have:=xV λu hu=>h u (aG _ hu);lia
mutual
theorem Bv (hB:∀t∈B,qC t.1):∀t:Tr,t.hb px→(t.aD us).ne B≤oJ B us
 | .bl n,_=>by
  rw[Tr.aD,bw];cases e:us[n.toNat]? with
  |none=>simp [Tr.ne]
  |some u=>exact ya (aN e)
 | .nd s ts,h=>by
  rw[Tr.hb]at h;rw[Tr.aD,Tr.ne,qh hB h.1];have:=HU hB (us:=us) ts h.2;simpa using this
theorem HU (hB:∀t∈B,qC t.1):∀ts:List Tr,o6 px ts→oJ B (nN us ts)≤oJ B us
 | [],_=>by rw[nN,oJ];lia
 |t::ts,h=>by
  rw[o6]at h;rw[nN,oJ];have:=Bv hB (us:=us) t h.1;have:=HU hB (us:=us) ts h.2;lia
end
mutual
theorem Hh:∀(L:Tr) (k m:Nat),L.ord k=aa m→ ∀(us:List Tr),m≤us.length→ ∀u∈(us.drop k).take (m - k),u.ne B≤(L.aD us).ne B
 | .bl n,k,m,h,us,hu,u,hm=>by
  rw[Tr.ord]at h;split at h
  ·rename_i hn;cases h;have hk:k<us.length:=by lia
   have e:(us.drop k).take (k+1 - k)=[us[k]]:=by
    rw[show k+1 - k=1 by lia,fN hk]
    rfl
   have f:(Tr.bl n).aD us=us[k]:=by
    rw[Tr.aD,hn,bn,bw,aP hk];rfl
   rw[e,bg]at hm;rw[f,hm];exact aA _
  ·cases h
 | .nd s ls,k,m,h,us,hu,u,hm=>by
  rw[Tr.ord]at h;have:=II ls k m h us hu u hm;rw[Tr.aD,Tr.ne];lia
theorem II:∀(ls:List Tr) (k m:Nat),sH k ls=aa m→ ∀(us:List Tr),m≤us.length→ ∀u∈(us.drop k).take (m - k),u.ne B≤oJ B (nN us ls)
 | [],k,m,h,us,hu,u,hm=>by
  rw[sH]at h;cases h;rw[gI,mz]at hm;cases hm
 |l::ls,k,m,h,us,hu,u,hm=>by
  rw[sH]at h;cases q:l.ord k with
  |none=>rw[q]at h;cases h
  |some j=>
   rw[q]at h;obtain⟨h1,_,_⟩:=F8 l k j q;obtain⟨g1,_,_⟩:=CJ ls j m h;have e:(us.drop k).take (m - k)=(us.drop k).take (j - k)++(us.drop j).take (m - j):=by
    rw[show m - k=(j - k)+(m - j) by lia,kW,kI,show k+(j - k)=j by lia]
   rw[e]at hm;rw[nN,oJ];obtain hm |hm:=bu.mp hm
   ·have:=Hh l k j q us `l u hm;lia
   ·have:=II ls j m h us hu u hm;lia
end
def sB.ne (O:sB B) (ht:t∈B) (hl:us.length=t.2.1.nb):oJ B us≤(t.2.1.aD us).ne B:=xV λu hu=>by
 refine Hh _ _ _ (O.od t ht) us `l u ?_;rw[eZ,dO,dW `l];exact hu
def Pv{c:Int→Nat}{p:Pl}{ps:List Pl}(hp:p∈ps):(p.ev B c).ne B≤oJ B (ps.map (Pl.ev B c)):=ya (aL.mpr ⟨p,hp,rfl⟩)
def YR{c d:Int→Nat}(b:oP ws ws B) (O:sB B) (hc:xh c) (hd:xh d) {p:Pl}(h:nU ws B p):(p.ev B (oy c d)).ne B≤(p.ev B c).ne B:=by
 induction h with
 | @sign b' h ps hh hp ih=>
  have:oJ B (ps.map (Pl.ev B (oy c d)))≤oJ B (ps.map (Pl.ev B c)):=xV λu hu=>by
   obtain⟨p,hp,rfl⟩:=aL.mp hu;exact aX (ih p hp) (Pv hp)
  have e:=qh b.ti (b.sg h hh);rw[pL,pL,Tr.ne,Tr.ne,e];simpa using this
 | @turn k b' h ps t e hl b0 b1 hp ih=>
  have ht:t∈B:=aN e;have key:oJ B (ps.map (Pl.ev B (oy c d)))≤oJ B (ps.map (Pl.ev B c)):=xV λu hu=>by
   obtain⟨p,hp,rfl⟩:=aL.mp hu;exact aX (ih p hp) (Pv hp)
  have l1:(ps.map (Pl.ev B c)).length=t.2.1.nb:=by rw[ay,hl]
  have low:oJ B (ps.map (Pl.ev B c))+c b'≤(rM t (c b') (ps.map (Pl.ev B c))).ne B:=by
   have:=hc b' b0 b1;by_cases h1:c b'=1
   ·rw[h1];show _≤(Tr.nd t.1 _).ne B;rw[Tr.ne,rK b.nd ht];show _≤1+_;lia
   ·rw[show c b'=0 by lia]
    exact O.ne ht l1
  rw[oE e,oE e];refine aX ?_ low;have hp:oy c d b'=if d b'=1 then 2 else c b':=rfl;rw[hp];by_cases dz:d b'=1
  ·rw[if_pos dz];have:=Bv b.ti (us:=ps.map (Pl.ev B (oy c d))) t.2.2 ((b.ri t ht).hb b.sg);show(t.2.2.aD _).ne B≤_;lia
  ·rw[if_neg dz];have:=hc b' b0 b1;by_cases h1:c b'=1
   ·rw[h1];show(Tr.nd t.1 _).ne B≤_;rw[Tr.ne,rK b.nd ht];show 1+_≤_;lia
   ·rw[show c b'=0 by lia]
    have:=Bv b.ti (us:=ps.map (Pl.ev B (oy c d))) t.2.1 (b.lf t ht).hb;show(t.2.1.aD _).ne B≤_;lia
end
theorem Cs{B:List Tn}{m:Nat}{s z:ah}{ts us:List Tr}{d:Tr}(g:Mv B m (.nd s ts) (.nd z us) d):match nF B s,nF B z with
  |none,none=>∃n ds,oZ B n ts us ds∧d= .nd s ds
  |none,aa t=>∃n ms ds,t.2.1.mt (.nd s ts)=aa ms∧oZ B n ms us ds∧d=t.2.2.aD ds
  |some t,none=>∃n ms ds,t.2.1.mt (.nd z us)=aa ms∧oZ B n ts ms ds∧d= .nd s ds
  |some _,aa t=>∃n ds,oZ B n ts us ds∧d=t.2.2.aD ds:=by
 cases g with
 |nn g1 g2 g3=>rw[g1,g2];exact⟨_,_,g3,rfl⟩
 |ns g1 g2 g3 g4 g5=>rw[g1,g2];exact⟨_,_,_,g3,g5,rfl⟩
 |sn g1 g2 g3 g4=>rw[g1,g2];exact⟨_,_,_,g3,g4,rfl⟩
 |ss g1 g2 g3 g4=>rw[g1,g2];exact⟨_,_,g4,rfl⟩
theorem yL{B:List Tn}{n m:Nat}(f:∀{a b c d:Tr},Mv B n a b c→Mv B m a b d→c=d):∀(a:List Tr) {b c d:List Tr},oZ B n a b c→oZ B m a b d→c=d
 | [],_,_,_,h,g=>by cases h;cases g;rfl
 |_::a,_,_,_,h,g=>by
  cases h with
  |cons h1 h2=>
   cases g with
   |cons g1 g2=>rw[f h1 g1,yL f a h2 g2]
def Mv.one{n:Nat}:∀{m:Nat}{a b c d:Tr},Mv B n a b c→Mv B m a b d→c=d:=by
 induction n with
 |zero=>intro m a b c d h;cases h
 |succ n ih=>
  intro m a b c d h g;cases h with
  |nn h1 h2 h3=>have q:=Cs g;rw[h1,h2]at q;obtain⟨_,_,q,rfl⟩:=q;rw[yL ih _ h3 q]
  |ns h1 h2 h3 h4 h5=>have q:=Cs g;rw[h1,h2]at q;obtain⟨_,_,_,e,q,rfl⟩:=q;rw[h3]at e;cases e;rw[yL ih _ h5 q]
  |sn h1 h2 h3 h4=>have q:=Cs g;rw[h1,h2]at q;obtain⟨_,_,_,e,q,rfl⟩:=q;rw[h3]at e;cases e;rw[yL ih _ h4 q]
  |ss h1 h2 h3 h4=>have q:=Cs g;rw[h1,h2]at q;obtain⟨_,_,q,rfl⟩:=q;rw[yL ih _ h4 q]
open Classical in
noncomputable def res (B:List Tn) (x y:Tr):Tr:=if h:∃z n,Mv B n x y z then choose h else x
def Mv.res (h:Mv B n x y z):res B x y=z:=by
 unfold L2.res;have e:∃z n,Mv B n x y z:=⟨z,n,h⟩;rw[dif_pos e];obtain⟨m,h'⟩:=kN e;exact Mv.one h' h
structure Bk3 (ws:List ah) (B:List Tn):Prop where
  b:oP ws ws B
  O:sB B
  lw:∀t∈B,t.2.1.hb λs=>s∈ws
structure Mj (ws:List ah) (B:List Tn):Prop extends Bk3 ws B where
  sl:Yb B
instance {ws:List ah}{B:List Tn}:Coe (Mj ws B) (Bk3 ws B):=⟨Mj.toBk3⟩
def Bk3.wy (K:Bk3 ws B) {c:Int→Nat}(h:nU ws B p):Wy ws B (p.ev B c):=by
 refine⟨?_,Jg _ (R9 K.b h)⟩
 induction h with
 | @sign b' h ps hh hp ih=>
  rw[pL,Tr.hd,nV];refine⟨.inl hh,λu hu=>?_⟩;obtain⟨p,hp,rfl⟩:=aL.mp hu;exact ih p hp
 | @turn k b' h ps t e hl b0 b1 hp ih=>
  have ht:t∈B:=aN e;have hu:∀u∈ps.map (Pl.ev B c),u.hd λs=>s∈ws∨ ∃t∈B,t.1=s:=λu hu=>by
   obtain⟨p,hp,rfl⟩:=aL.mp hu;exact ih p hp
  rw[oE e];unfold rM;split
  ·exact F1 hu _ (Hu (λs hs=> .inl hs) _ (K.lw t ht)) (by rw[ay,hl];exact(K.b.lf t ht).br)
  ·rw[Tr.hd,nV];exact⟨.inr ⟨t,ht,rfl⟩,hu⟩
  ·exact F1 hu _ ((K.b.ri t ht).hb (λs hs=> .inl hs)) (by rw[ay,hl];exact(K.b.ri t ht).br)
structure AS (ws:List ah) (B:List Tn) (x y z:Tr):Prop where
  wy:Wy ws B z
  sr:ak B z=b9 B y
  go:b9 B z=b9 B (res B y x)
  ne:z.ne B≤x.ne B
def Re (b:oP ws ws B) (h:nU ws B p):(p.ev B zr).ne B=0:=by
 induction h with
 | @sign b' h ps hh hp ih=>
  have:oJ B (ps.map (Pl.ev B zr))≤0:=xV λu hu=>by
   obtain⟨p,hp,rfl⟩:=aL.mp hu;rw[ih p hp];exact aA _
  have e:=qh b.ti (b.sg h hh);rw[pL,Tr.ne,e];show 0+_=0;lia
 | @turn k b' h ps t e hl b0 b1 hp ih=>
  have ht:t∈B:=aN e;have:oJ B (ps.map (Pl.ev B zr))≤0:=xV λu hu=>by
   obtain⟨p,hp,rfl⟩:=aL.mp hu;rw[ih p hp];exact aA _
  have:=Bv b.ti (us:=ps.map (Pl.ev B zr)) t.2.1 (b.lf t ht).hb;rw[oE e];show(t.2.1.aD _).ne B=0;lia
def Bk3.ak (K:Bk3 ws B) (h:Wy ws B x):Wy ws B (ak B x)∧L2.ak B (ak B x)=L2.ak B x∧(L2.ak B x).ne B=0∧b9 B (L2.ak B x)=L2.ak B x:=by
 obtain⟨p,hp,_,rfl,_⟩:=BF K.b K.O _ x x (aA _) h h rfl;have e:L2.ak B (p.ev B (nK 1))=p.ev B zr:=by
  show(p.ev B (nK 1)).mk B (λt=>t.2.1)=_;rw[vM K.b hp];exact uh hp (qS 1).ak
 rw[e];refine⟨K.wy hp,?_,Re K.b hp,?_⟩
 ·show(p.ev B zr).mk B (λt=>t.2.1)=_;rw[vM K.b hp];rfl
 ·show(p.ev B zr).mk B (λt=>t.2.2)=_;rw[vn K.b hp];rfl
def Bk3.b9 (K:Bk3 ws B) (h:Wy ws B x):Wy ws B (b9 B x)∧L2.ak B (L2.b9 B x)=L2.b9 B x∧(L2.b9 B x).ne B=0∧L2.b9 B (L2.b9 B x)=L2.b9 B x:=by
 obtain⟨p,hp,_,rfl,_⟩:=BF K.b K.O _ x x (aA _) h h rfl;have e:L2.b9 B (p.ev B (nK 1))=p.ev B (sJ (nK 1)):=vn K.b hp;have tg:∀x,sJ (nK 1) x≠1:=λx=>by unfold sJ;split<;>lia
 have s:L2.ak B (p.ev B (sJ (nK 1)))=p.ev B (sJ (nK 1)):=by
  show(p.ev B (sJ (nK 1))).mk B (λt=>t.2.1)=_;rw[vM K.b hp];exact uh hp λb _ _=>by rw[uW,if_neg (tg b)]
 have w:Wy ws B (p.ev B (sJ (nK 1))):=K.wy hp;rw[e];refine⟨w,s,?_,?_⟩
 ·have:=(K.ak w).2.2.1;rwa [s]at this
 ·have:=(K.ak w).2.2.2;rwa [s]at this
noncomputable def pP (B:List Tn):Tr→List Tr→Tr
 |t,[]=>t
 |_,x::xs=>pP B (b9 B x) xs
def ov (ws:List ah) (B:List Tn):Tr→List Tr→Prop
 |_,[]=>True
 |t,x::xs=>Wy ws B x∧ak B x=t∧ov ws B (b9 B x) xs
noncomputable def nR (B:List Tn):List Tr→Nat
 | []=>0
 |x::xs=>x.ne B+nR B xs
noncomputable def rk (B:List Tn):Tr→List Tr→List Tr
 |x,[]=>[x]
 |x,o::os=>x::rk B (res B x o) os
noncomputable def qf (B:List Tn):Tr→List Tr→List Tr
 |_,[]=>[]
 |x,o::os=>res B o x::qf B (res B x o) os
noncomputable def rb (B:List Tn):Tr→List Tr→Tr
 |x,[]=>x
 |x,o::os=>rb B (res B x o) os
noncomputable def wk (B:List Tn):List Tr→List Tr→List (List Tr)
 | [],_=>[]
 |x::xs,os=>rk B x os::wk B xs (qf B x os)
noncomputable def Ay (B:List Tn):List Tr→List Tr→List (List Tr)
 | [],os=>[os]
 |x::xs,os=>os::Ay B xs (qf B x os)
noncomputable def pV (B:List Tn):List Tr→List Tr→List Tr
 | [],_=>[]
 |x::xs,os=>rb B x os::pV B xs (qf B x os)
noncomputable def zFa (B:List Tn):List Tr→List Tr→List Tr
 | [],os=>os
 |x::xs,os=>zFa B xs (qf B x os)
theorem HH:∀(os:List Tr) (x:Tr),(rk B x os).length=os.length+1
 | [],x=>rfl
 |o::os,x=>by rw[rk,aT,HH os];rfl
theorem Mu:∀(os:List Tr) (x:Tr),(qf B x os).length=os.length
 | [],x=>rfl
 |o::os,x=>by rw[qf,aT,Mu os];rfl
theorem Ih:∀(os:List Tr) (x:Tr),(rk B x os).getLast? =aa (rb B x os)
 | [],x=>rfl
 |o::os,x=>by
  rw[rk,List.getLast?_cons,Ih os,rb];rfl
theorem AB:∀(xs os:List Tr),(pV B xs os).length=xs.length
 | [],os=>rfl
 |x::xs,os=>by rw[pV,aT,AB xs];rfl
def No{α β:Type}{R:α→β→Prop}:∀{xs:List α}{ys:List β}{xs':List α}{ys':List β},a_ R xs ys→a_ R xs' ys'→a_ R (xs++xs') (ys++ys'):=λ{xs ys xs' ys'} h g=>by
 induction h with
 |nil=>exact g
 |cons r _ ih=>exact .cons r ih
def wQ{α β:Type}{R R':α→β→Prop}(f:∀x y,R x y→R' x y):∀{xs:List α}{ys:List β},a_ R xs ys→a_ R' xs ys:=λ{xs ys} h=>by
 induction h with
 |nil=>exact .nil
 |cons r _ ih=>exact .cons (f _ _ r) ih
mutual
theorem Ii:∀(L t:Tr) (ms:List Tr) (p:List Int),L.mt t=aa ms→a_ (λ(x:List Int×Tr) m=>∃e,x.1=p++e∧t.at e=aa m) ((L.plt p).filter λx=>x.2.isBl) ms
 | .bl n,t,ms,p,e=>by
  rw[Tr.mt]at e;cases e;rw[Tr.plt];exact .cons ⟨[],`s,by rw[Tr.at]⟩ .nil
 | .nd s ls, .bl n,ms,p,e=>by rw[Tr.mt]at e;cases e
 | .nd s ls, .nd z us,ms,p,e=>by
  rw[Tr.mt]at e;split at e
  ·rename_i hc;rw[bN,beq_iff_eq,beq_iff_eq]at hc;rw[Tr.plt,j6 (by simp [Tr.isBl])];refine wQ ?_ (Os ls us ms p 0 hc.2 e);rintro x m ⟨j,e,u,h1,h2,h3⟩;refine⟨(j:Int)::e,by rw[h1,bI],?_⟩
   rw[Tr.at,if_neg `l,bn,h2];exact h3
  ·cases e
theorem Os:∀(ls us ms:List Tr) (p:List Int) (i:Nat),ls.length=us.length→oB ls us=aa ms→a_ (λ(x:List Int×Tr) m=>∃(j:Nat) (e:List Int) (u:Tr),x.1=p++((i+j:Nat):Int)::e∧us[j]? =aa u∧u.at e=aa m) ((o_ p i ls).filter λx=>x.2.isBl) ms
 | [],us,ms,p,i,hl,e=>by
  rw[oB]at e;cases e;rw[o_];exact .nil
 |l::ls,[],ms,p,i,hl,e=>by cases hl
 |l::ls,u::us,ms,p,i,hl,e=>by
  rw[oB]at e;cases q1:l.mt u with
  |none=>rw[q1]at e;cases e
  |some xs=>
   rw[q1]at e;cases q2:oB ls us with
   |none=>rw[q2]at e;cases e
   |some zs=>
    rw[q2]at e;cases e;rw[o_,ja];refine No (wQ ?_ (Ii l u xs _ q1)) (wQ ?_ (Os ls us zs p (i+1) (by simpa using hl) q2))
    ·rintro x m ⟨e,h1,h2⟩;exact⟨0,e,u,by rw[h1];simp,rfl,h2⟩
    ·rintro x m ⟨j,e,v,h1,h2,h3⟩;exact⟨j+1,e,v,by rw[h1,show i+1+j=i+(j+1) by lia],by rw[bW];exact h2,h3⟩
end
def NI{L t:Tr}{ms:List Tr}(h:L.mt t=aa ms):a_ (λq m=>t.at q=aa m) (L.bls.map λx=>x.1) ms:=by
 have:=Ii L t ms [] h;clear h;unfold Tr.bls;generalize (L.plt []).filter (λx=>x.2.isBl)=xs at this⊢
 induction this with
 |nil=>exact .nil
 |cons h1 h2 ih=>
  obtain⟨e,h3,h4⟩:=h1;rw[az];rw[aM]at h3;exact .cons (by rw[h3];exact h4) ih
def rD (wn:List (List Int)) (p:List Int):Nat:=wn.countP λq=>p.isPrefixOf q
def Li (wn:List (List Int)) (p q:List Int):rD wn (p++q)≤rD wn p:=by
 unfold rD;refine List.countP_mono_left λx _ h=>?_;obtain⟨e,rfl⟩:=d8.mp h;exact d8.mpr ⟨q++e,`s⟩
theorem HA:∀(wn:List (List Int)) (p:List Int) (i:Int) (q:List Int),p∈wn→rD wn (p++i::q)+1≤rD wn p
 |w::wn,p,i,q,h=>by
  unfold rD;rw[mE,mE];have hs:=Li wn p (i::q);unfold rD at hs;obtain rfl |h:=aB.mp h
  ·have h1:(p++i::q).isPrefixOf p=false:=by
    rw[Bool.eq_false_iff];intro z;obtain⟨e,z⟩:=d8.mp z;have:=congrArg dF z;simp at this
   have h2:p.isPrefixOf p=true:=d8.mpr ⟨[],`s⟩
   rw[h1,h2];simp;lia
  ·have ih:=HA wn p i q h;unfold rD at ih;have h3:(p++i::q).isPrefixOf w=true→p.isPrefixOf w=true:=λz=>by
    obtain⟨e,rfl⟩:=d8.mp z;exact d8.mpr ⟨i::q++e,`s⟩
   by_cases z:(p++i::q).isPrefixOf w=true
   ·rw[if_pos z,if_pos (h3 z)];lia
   ·rw[if_neg z];lia
theorem Fq:∀{ts:List Tr},(∀t∈ts,t.ar B)→sN B ts
 | [],_=>by rw[sN];trivial
 |t::ts,h=>by rw[sN];exact⟨h t `s,Fq λu hu=>h u (aG _ hu)⟩
structure Sh (ws:List ah) (B:List Tn) (t:Tr):Prop where
  wy:Wy ws B t
  q:ak B t=t
def Sh.cases (K:Bk3 ws B) (h:Sh ws B t):∃s ts,t= .nd s ts∧s∈ws∧nF B s=none∧ ∀x∈ts,Sh ws B x:=by
 obtain ⟨s,ts,rfl,hs,e,k⟩ |⟨u,ts,hu,rfl,e,hl,k⟩:=h.wy.cases K.b
 ·have q:=h.q;rw[show ak B (.nd s ts)=_ from qD e]at q;injection q with _ q;refine⟨s,ts,rfl,hs,e,λx hx=>⟨k x hx,?_⟩⟩;obtain⟨i,hi,rfl⟩:=dJ hx;have:=congrArg (λl=>l[i]?) q;simp only[aV,aP hi]at this;exact aO this
 ·have q:=h.q;rw[show ak B (.nd u.1 ts)=_ from qy e]at q;obtain⟨s0,l0,e0,_⟩:=K.O.inn u hu;have hb:=(K.b.lf u hu).hb;rw[e0,Tr.hb]at hb;rw[e0,Tr.aD]at q;injection q with q _;exact absurd q (CN hb.1 (K.b.ti u hu))
def Sh.parts (K:Bk3 ws B) (h:Sh ws B t) (hu:u∈B) (e:u.2.1.mt t=aa ms):t=u.2.1.aD ms∧ms.length=u.2.1.nb∧ ∀x∈ms,Sh ws B x:=by
 obtain⟨h1,h2⟩:=K.O.fm u hu _ _ e;refine⟨h1,h2,λx hx=>⟨E1 _ _ _ e h.wy x hx,?_⟩⟩;have q:=h.q;rw[h1,show ak B (u.2.1.aD ms)=_ from Iw K.b hu h2 _]at q;have m1:=K.O.mt u hu ms h2;have m2:=K.O.mt u hu (ms.map (ak B)) (by rw[ay,h2]);rw[show u.2.1.aD (ms.map (ak B))=_ from q,m1]at m2;have q:=aO m2;obtain⟨i,hi,rfl⟩:=dJ hx;have:=congrArg (λl=>l[i]?) q;simp only[aV,aP hi]at this;exact(aO this).symm
def yc (B:List Tn) (wn:List (List Int)) (p:List Int) (t:Tr):Prop:=∀q∈wn,∀e v,q=p++e→t.at e=aa v→(pR B v).isSome=true
def t_{s:ah}{ts:List Tr}{i:Nat}{u:Tr}(h:ts[i]? =aa u) (e:List Int):(Tr.nd s ts).at ((i:Int)::e)=u.at e:=by
 rw[Tr.at,if_neg `l,bn,h]
def Kq (ih:∀(t:Tr) (p:List Int),t.depth≤n→Sh ws B t→yc B wn p t→ ∃u,Wi B wn n p t u∧ak B u=t∧Wy ws B u∧u.ne B≤rD wn p) :
  ∀{qs:List (List Int)}{ts:List Tr},a_ (λq t=>t.depth≤n∧Sh ws B t∧yc B wn (p++q) t∧rD wn (p++q)≤c) qs ts→ ∃us,qi B wn n p qs ts us∧us.map (ak B)=ts∧(∀u∈us,Wy ws B u)∧oJ B us≤c:=by
 intro qs ts h
 induction h with
 |nil=>exact⟨[], .nil,rfl,`s,by rw[oJ];lia⟩
 |cons hd _ ih2=>
  obtain⟨h1,h2,h3,h4⟩:=hd;obtain⟨u,w,e,y,k⟩:=ih _ _ h1 h2 h3;obtain⟨us,ws',es,ys,ks⟩:=ih2;refine⟨u::us, .cons w ws',by rw[az,e,es],λv hv=>?_,by rw[oJ];lia⟩
  obtain rfl |hv:=aB.mp hv
  ·exact y
  ·exact ys v hv
theorem BS (K:Bk3 ws B) {wn:List (List Int)}:∀(n:Nat) (t:Tr) (p:List Int),t.depth≤n→Sh ws B t→yc B wn p t→ ∃u,Wi B wn n p t u∧ak B u=t∧Wy ws B u∧u.ne B≤rD wn p
 |0,t,p,hd,h,_=>by
  obtain⟨s,ts,rfl,_⟩:=h.cases K;rw[Tr.depth]at hd;lia
 |n+1,t,p,hd,h,hw=>by
  obtain⟨s,ts,rfl,hs,e,k⟩:=h.cases K;rw[Tr.depth]at hd;by_cases hp:p∈wn
  ·have ho:=hw p hp [] (.nd s ts) `s (by rw[Tr.at]);obtain⟨u,ho⟩:=dE.mp ho;have hu:u∈B:=bX ho;have hm:(u.2.1.mt (.nd s ts)).isSome=true:=by simpa using fj ho
   obtain⟨ms,hm⟩:=dE.mp hm;obtain⟨f1,f2,f3⟩:=h.parts K hu hm;have ba:=NI hm;have hdm:∀y∈ms,y.depth≤n:=λy hy=>by
    obtain⟨s0,l0,e0,_⟩:=K.O.inn u hu;rw[e0,Tr.mt]at hm;split at hm
    ·have:=Bc _ _ _ hm y hy;lia
    ·cases hm
   have hne:∀q∈u.2.1.bls.map (λx=>x.1),∃i e,q=i::e:=λq hq=>by
    obtain⟨z,hz,rfl⟩:=aL.mp hq;obtain⟨h1,h2,_⟩:=xY hz;cases hq:z.1 with
    |nil=>
     rw[hq,Tr.at]at h1;have h3:u.2.1=z.2:=aO h1;obtain⟨s0,l0,e0,_⟩:=K.O.inn u hu;rw[←h3,e0]at h2;cases h2
    |cons i is=>exact⟨i,is,rfl⟩
   have pr:∀{qs:List (List Int)}{xs:List Tr},(∀q∈qs,∃i e,q=i::e)→(∀x∈xs,x.depth≤n∧Sh ws B x)→a_ (λq m=>(Tr.nd s ts).at q=aa m) qs xs→a_ (λq t=>t.depth≤n∧Sh ws B t∧yc B wn (p++q) t∧rD wn (p++q)≤rD wn p - 1) qs xs:=by
    intro qs xs h1 h2 h3
    induction h3 with
    |nil=>exact .nil
    | @cons q m qs xs h4 _ ih=>
     obtain⟨i,e,rfl⟩:=h1 q `s;obtain⟨g1,g2⟩:=h2 m `s;refine .cons ⟨g1,g2,λq' hq' e' v' h5 h6=>hw q' hq' (i::e++e') v' (by rw[h5];simp) (by rw[xf _ e' h4];exact h6),?_⟩ (ih (λq hq=>h1 q (aG _ hq)) λx hx=>h2 x (aG _ hx));have:=HA wn p i e hp;lia
   obtain⟨us,wi,es,ys,ks⟩:=Kq (BS K n) (pr hne (λx hx=>⟨hdm x hx,f3 x hx⟩) ba);have et:=rK K.b.nd hu;have lu:us.length=u.2.1.nb:=by rw[←f2,←es,ay]
   refine⟨.nd u.1 us, .yes hp ho hm et wi,?_,⟨?_,?_⟩,?_⟩
   ·rw[show ak B (.nd u.1 us)=_ from qy et,es,f1]
   ·rw[Tr.hd,nV];exact⟨.inr ⟨u,hu,rfl⟩,λx hx=>(ys x hx).hd⟩
   ·rw[Tr.ar];refine⟨λt ht=>?_,Fq λx hx=>(ys x hx).ar⟩;rw[et]at ht;cases ht;exact lu
   ·rw[Tr.ne,et];have h1:1≤rD wn p:=by
     unfold rD;exact List.countP_pos_iff.mpr ⟨p,hp,d8.mpr ⟨[],`s⟩⟩
    show 1+_≤_;lia
  ·have pr:∀(i:Nat) (xs:List Tr),(∀(j:Nat) x,xs[j]? =aa x→ts[i+j]? =aa x)→a_ (λq t=>t.depth≤n∧Sh ws B t∧yc B wn (p++q) t∧rD wn (p++q)≤rD wn p) ((hV i xs.length).map λ(i:Nat)=>[(i:Int)]) xs:=by
    intro i xs
    induction xs generalizing i with
    |nil=>intro _;exact .nil
    |cons x xs ih=>
     intro hx;have hi:=hx 0 x rfl;rw[fE]at hi;have hm:x∈ts:=aN hi;have hdx:=p_ hm;rw[aT,iv,az];refine .cons ⟨`l,k x hm,λq' hq' e' v' h5 h6=>hw q' hq' ((i:Int)::e') v' (by rw[h5];simp) (by rw[t_ hi];exact h6),Li wn p _⟩ (ih (i+1) λj y hy=>?_);have:=hx (j+1) y (by rw[bW];exact hy);rw[show i+1+j=i+(j+1) by lia]
     exact this
   have pr0:=pr 0 ts λj x h=>by rw[bI];exact h
   rw[←jU]at pr0;obtain⟨us,wi,es,ys,ks⟩:=Kq (BS K n) pr0;refine⟨.nd s us, .no hp e wi,?_,⟨?_,?_⟩,?_⟩
   ·rw[show ak B (.nd s us)=_ from qD e,es]
   ·rw[Tr.hd,nV];exact⟨.inl hs,λx hx=>(ys x hx).hd⟩
   ·rw[Tr.ar];exact⟨λt ht=>(by rw[e]at ht;cases ht),Fq λx hx=>(ys x hx).ar⟩
   ·rw[Tr.ne,e];show 0+_≤_;lia
def Db{α:Type}(xs:List α) (x:α):nW (xs++[x]) (-1)=aa x:=by
 unfold nW um;rw[if_neg `d,aW,bZ];rw[if_pos `l];show(xs++[x])[_]? =aa x;rw[show((-1+((xs.length+1:Nat):Int)).toNat)=xs.length by lia,List.getElem?_concat_length]
structure At (S0 S:kB) (d o b:ai) (xs:List Tr):Prop where
  d:b≠d
  o:b≠o
  e:S b=aa (.bJ (xs.map j8))
  z:S0 b=none
def Bm (s:Sub S0 S) (h:S q=none):S0 q=none:=by
 cases e:S0 q with
 |none=>rfl
 |some v=>rw[s _ _ e]at h;cases h
def At.sub{S0 S S':kB}{d o b:ai}{xs:List Tr}(h:At S0 S d o b xs) (s:Sub S S'):At S0 S' d o b xs:=⟨h.d,h.o,s _ _ h.e,h.z⟩
def At.pd{S0 S:kB}{d o b:ai}{xs:List Tr}{v:Ob}(h:At S0 S d o b xs):At S0 (bQ S d v) d o b xs:=⟨h.d,h.o,by rw[oz h.d];exact h.e,h.z⟩
def At.po{S0 S:kB}{d o b:ai}{xs:List Tr}{v:Ob}(h:At S0 S d o b xs):At S0 (bQ S o v) d o b xs:=⟨h.d,h.o,by rw[oz h.o];exact h.e,h.z⟩
abbrev xi (S0 S:kB) (d o:ai) (bs:List ai) (xss:List (List Tr)):Prop:=a_ (At S0 S d o) bs xss
def Fs{α β:Type}{R:α→β→Prop}{xs:List α}{ys:List β}{x:α}{y:β}(h:a_ R xs ys) (g:R x y):a_ R (xs++[x]) (ys++[y]):=No h (.cons g .nil)
theorem Iz{α β:Type}(f:α→W) (g:β→W):∀(xs:List α) (ys:List β),nJ (xs.map f) (ys.map g)=(xs.zip ys).map λp=> .bT [f p.1,g p.2]
 | [],ys=>by simp [nJ]
 |x::xs,[]=>by simp [nJ]
 |x::xs,y::ys=>by rw[az,az,nJ,Iz f g xs ys];rfl
theorem KO:∀(os:List Tr) (x:Tr),(os.zip (rk B x os)).map (λp=>res B p.1 p.2)=qf B x os
 | [],x=>rfl
 |o::os,x=>by rw[rk,gj,az,KO os,qf]
section
variable {ws:List ah}{B:List Tn}{l2 d o ρ:ai}{r:Nat}{E:WX}{D:nC}{T:WS}{t:Tr}{xs os:List Tr}{S:kB}{y0 y1 y2 y3 y4 y5 y6 y7:Option W}
def Z8 (h:∀d,S d=none→T E D [y0,y1,y2,aa (.ref d),y4,y5,y6,y7] (bQ S d (.bJ []))):Fz r T E D [y0,y1,y2,y3,y4,y5,y6,y7] S:=by
 rw[Fz];ext;exact⟨aU _,h⟩
def ZW (hl:S l2=aa (.bJ vs)) (h:∀ρ,S ρ=none→T E D [y0,y1,aa (.bT [j8 t, .ref l2]),y3,aa (.ref ρ),y5,y6,y7] (bQ S ρ (.bJ vs))):DG r T E D [y0,y1,aa (.bT [j8 t, .ref l2]),y3,y4,y5,y6,y7] S:=by
 rw[DG];ext;show oA S l2 λws=>∀ρ,S ρ=none→T E D [y0,y1,aa (.bT [j8 t, .ref l2]),y3,aa (.ref ρ),y5,y6,y7] (bQ S ρ (.bJ ws));rw[nG hl];exact h
def SJ (h:∀o,S o=none→T E D [y0,y1,y2,y3,aa (.ref ρ),aa (.ref o),y6,y7] (bQ S o (.bJ [.ref ρ]))):Eb r T E D [y0,y1,y2,y3,aa (.ref ρ),y5,y6,y7] S:=by
 rw[Eb];ext;exact⟨`d,h⟩
def VJ (hd:S d=aa (.bJ vs)) (hn:vs.length≤1000) (h:T E D [y0,y1,y2,aa (.ref d),y4,y5,y6,aa (.ref q)] (bQ S d (.bJ (vs++[.ref q])))) :
  Ek r T E D [y0,y1,y2,aa (.ref d),y4,y5,y6,aa (.ref q)] S:=by
 rw[Ek];ext;rw[nG hd,nG hd];exact⟨trivial,qJ `l,h⟩
def UR (hd:S o=aa (.bJ vs)) (hn:vs.length≤1000) (h:D.nx [y0,y1,y2,y3,aa (.ref ρ),aa (.ref o),y6,y7] (bQ S o (.bJ (vs++[.ref ρ])))) :
  Fw r E D [y0,y1,y2,y3,aa (.ref ρ),aa (.ref o),y6,y7] S:=by
 rw[Fw];ext;rw[nG hd,nG hd];exact⟨trivial,qJ `l,h⟩
structure YF (S0 S:kB) (B:List Tn) (xs os:List Tr) (d o:ai):Prop where
  sub:Sub S0 S
  d0:S0 d=none
  o0:S0 o=none
  ne:d≠o
  ex:∃ds rs,S d=aa (.bJ (ds.map W.ref))∧S o=aa (.bJ (rs.map W.ref))∧xi S0 S d o ds (wk B xs os)∧xi S0 S d o rs (Ay B xs os)
end
noncomputable def r9 (B:List Tn) (t:Tr):List (List Int):=(t.op B []).map λx=>x.1
def Sh.hdT (h:Sh ws B t):t.hd λ_=>True:=vW (λ_ _=>trivial) _ h.wy.hd
def Sh.wn{ws:List ah}{B:List Tn}{t:Tr}(h:Sh ws B t) {wn:List (List Int)}(hw:∀q∈wn,q∈r9 B t):yc B wn [] t:=by
 intro q hq e v he hv;rw[aM]at he;subst he;obtain⟨x,hx,rfl⟩:=aL.mp (hw q hq);rw[←B1 B t [] (vJ _ h.hdT)]at hx;obtain⟨y,hy,hx⟩:=d_.mp hx;unfold tP at hx;obtain⟨u,hu,rfl⟩:=aL.mp hx;have:=(Kl hy).1;rw[this]at hv;cases hv;cases e:pR B y.2 with
 |none=>rw[e]at hu;cases hu
 |some _=>rfl
section
variable {B:List Tn}{t:Tr}{xs:List Tr}
theorem zE:∀(xs:List Tr) (t u:Tr),pP B t (xs++[u])=b9 B u
 | [],t,u=>rfl
 |x::xs,t,u=>zE xs (b9 B x) u
end
theorem Ji{α β:Type}{R:α→β→Prop}:∀{xs:List α}{ys:List β},a_ R xs ys→ ∃zs:List (α×β),zs.map (λz=>z.1)=xs∧zs.map (λz=>z.2)=ys∧ ∀z∈zs,R z.1 z.2
 |_,_, .nil=>⟨[],rfl,rfl,`s⟩
 |_,_, .cons h1 h2=>by
  obtain⟨zs,e1,e2,h3⟩:=Ji h2;exact⟨(_,_)::zs,by rw[az,e1],by rw[az,e2],λz hz=>by
   obtain rfl |hz:=aB.mp hz
   ·exact h1
   ·exact h3 z hz⟩
def Tq{α β γ:Type}{R:α→β→Prop}{R':β→γ→Prop}:∀{xs:List α}{ys:List β}{zs:List γ},a_ R xs ys→a_ R' ys zs→a_ (λx z=>∃y,R x y∧R' y z) xs zs:=λ{xs ys zs} h g=>by
 induction h generalizing zs with
 |nil=>cases g;exact .nil
 |cons r _ ih=>
  cases g with
  |cons g1 g2=>exact .cons ⟨_,r,g1⟩ (ih g2)
def Qk (os:List Tr) (x:Tr):∃l,rk B x os=l++[rb B x os]:=by
 have:=Ih (B:=B) os x;rw[List.getLast?_eq_some_iff]at this;exact this
theorem Ik:∀(xs os:List Tr),a_ (λline u=>∃l,line=l++[u]) (wk B xs os) (pV B xs os)
 | [],os=> .nil
 |x::xs,os=> .cons (Qk os x) (Ik xs _)
theorem ov.app:∀(xs:List Tr) {ys:List Tr}{t:Tr},ov ws B t xs→ov ws B (pP B t xs) ys→ov ws B t (xs++ys)
 | [],_,_,_,h=>h
 |x::xs,_,_,⟨h1,h2,h3⟩,h=>⟨h1,h2,ov.app xs h3 h⟩
section
variable {B:List Tn}{l d o:ai}{r:Nat}{xs os:List Tr}{S:kB}{Q:WK}{X:ah→kB→Prop}
def M' (hd:S d=aa (.bJ (ds.map W.ref))) (hn:xs.length≤700) (AD:xi S0 S d o ds (wk B xs os)) (h:∀q,S q=none→Q (.ref q) (bQ S q (.bJ ((pV B xs os).map j8)))):zD (r+1) [.bT [.ref d, .ref o]] S Q X:=by
 obtain⟨zs,e1,e2,h3⟩:=Ji (Tq AD (Ik xs os));rw[zD];ext;rw[nG hd];have e3:ds.map W.ref=zs.map λz=>W.ref z.1:=by rw[←e1,bh];rfl
 have hz:zs.length=xs.length:=by rw[←AB (B:=B) xs os,←e2,ay]
 rw[e3];refine qk (λσ=>∃y,σ=[y]) (λz:ai×Tr=>W.ref z.1) (λz=>j8 z.2) (by rw[←e3];exact hd) zs [] _ ⟨none,rfl⟩ (by simp;lia) (λz hz σ R hI hR=>?_) ?_
 ·obtain⟨y,rfl⟩:=hI;obtain⟨line,A,l,rfl⟩:=h3 z hz;rw[IZ];ext;have Ae:=A.e;rw[bC]at Ae;rw[nG Ae,show [z.2].map j8=[j8 z.2] from rfl,Db];exact hR _ _ ⟨_,rfl⟩ .refl
 ·intro q hq;have:=h q hq;rw[←e2,bh]at this;exact⟨_, .refl,this⟩
end
mutual
def Tr.wd:Tr→Prop
 | .bl _=>True
 | .nd _ ts=>ts.length≤1000∧vC ts
def vC:List Tr→Prop
 | []=>True
 |t::ts=>t.wd∧vC ts
end
theorem rf:∀{ts:List Tr},vC ts↔ ∀t∈ts,t.wd
 | []=>by simp [vC]
 |t::ts=>by simp [vC,rf (ts:=ts)]
def TC{t:Tr}(h:t.wd):t.cX.length≤1000:=by
 cases t with
 |bl n=>simp [Tr.cX]
 |nd s ts=>simpa [Tr.cX]using h.1
def zyO{ts:List Tr}(h:∀x∈ts,x.wd):∀x∈ts.flatMap Tr.cX,x.wd:=λx hx=>by
 obtain⟨t,ht,hk⟩:=d_.mp hx;have:=h t ht;cases t with
 |bl n=>simp [Tr.cX]at hk
 |nd s us=>exact rf.mp this.2 x (by simpa [Tr.cX]using hk)
theorem MO (hba:b≠a):∀(ts:List Tr) {S:kB}{us:List Tr}{x2:Option W},S a=aa (.bJ (af us))→S b=aa (.bJ ps)→(∀t∈ts,t.cX.length≤1000)→us.length+1000*ts.length≤500000→
  (∀x2,D.nx [x0,aa (.ref a),x2] (bQ S a (.bJ (af (us++ts.flatMap Tr.cX)))))→
  nI (mU 2) (Fb (r+1) nc) E D (λS'=>S' b=aa (.bJ ps)) (af ts) [x0,aa (.ref a),x2] S
 | [],S,us,x2,ha,hb,hA,hl,h=>by
  have:=h x2;simp only[dy,bf,tO ha]at this;simpa [af,nI]using this
 |t::ts,S,us,x2,ha,hb,hA,hl,h=>by
  simp only[aT]at hl;have hk:=hA t aI;simp only[af];refine rJ λN hN=>?_;simp only[Fb];ext;simp only[nG ha,true_and];refine B2 ?_;ext;rw[nG ha];refine⟨nH (by rw[rg,rg];lia),hN _ _ _ .refl (by rw[oz hba];exact hb) ?_⟩;rw[←EO];refine MO hba ts nv (by rw[oz hba];exact hb) (λu hu=>hA u (aG _ hu)) (by rw[aW];lia) λx2=>?_;rw[qr];have:=h x2;rw[cD,←bE]at this;exact this
def Tj{E:ah→kB→Prop}(hb:S b=aa (.bJ (af ts))) (hA:∀t∈ts,t.cX.length≤1000) (hw:ts.length≤400) (h:∀a,S a=none→Q (.ref a) (bQ S a (.bJ (af (ts.flatMap Tr.cX))))):De (r+2) [.ref b] S Q E:=by
 rw[De];ext;refine⟨aU _,λa ha=>?_⟩;have hba:=Bo hb ha;rw[nG (keep hb ha)];refine MO (us:=[]) hba ts (by simp [nv,af]) (keep hb ha) hA (by simp;lia) λx2=>?_;rw[qr];ext;exact⟨_, .refl,h a ha⟩
def M3{t:Tr}{r:Nat}{S:kB}{Q:WK}{E:ah→kB→Prop}(hA:t.wd) (h:Q (.bl t.aE) S):Ch (r+3) [j8 t] S Q E:=by
 rw[Ch];ext;refine⟨nH `d,λa ha=>?_⟩;refine⟨λm σ S'=>∃(ts:List Tr) (k d:Nat) (b:ai),m=nB ts∧(∀x∈ts,x.wd)∧k+nB ts=t.ao∧d+nL ts=t.depth∧k≤400∧d≤40∧S b=none∧S'=bQ S b (.bJ (af ts))∧σ=[aa (j8 t),aa (.int k),aa (.int d),aa (.ref b)],⟨_,[t],0,0,a,rfl,(λx hx=>by rw[bg.mp hx];exact hA),by simp [nB],by simp [nL],`d,`d,ha,by simp [af],rfl⟩,?_⟩
 rintro m σ S' ⟨ts,k,d,b,rfl,hds,hwt,hk,hk4,hd4,hb,rfl,rfl⟩;ext;cases ts with
 |nil=>
  simp only[af,lO];ext;simp only[nL,nB,fE]at hk hwt;have e:t.aE=true:=by unfold Tr.aE;rw[decide_eq_true `l,decide_eq_true `l];rfl
  rw[e]at h;exact⟨_, .bQ .refl hb,h⟩
 |cons u us=>
  have hne:(af (u::us)).isEmpty=false:=by simp [af]
  rw[hne];have hfl:=LZ (u::us);have hdf:=Og (ts:=u::us) `s;have hlw:=qX (u::us);simp only[MY];ext;rw[rg];have no:400<t.ao∨40<t.depth→ ∃S'',Sub S'' (bQ S b (Ob.bJ (af (u::us))))∧Q (W.bl false) S'':=λz=>by
   have e:t.aE=false:=by
    unfold Tr.aE;obtain z |z:=z
    ·rw[decide_eq_false `l];rfl
    ·rw[decide_eq_false (p:=t.depth≤40) `l,gN]
   rw[e]at h;exact⟨_, .bQ .refl hb,h⟩
  split
  ·exact no (.inl `l)
  ·split
   ·exact no (.inr `l)
   ·refine Tj nv (λx hx=>TC (hds x hx)) `l λc hc=>?_;obtain⟨hc1,hc2⟩:=rZ hc;refine⟨nB ((u::us).flatMap Tr.cX),bQ S c (.bJ (af ((u::us).flatMap Tr.cX))),by simp only[aT]at hfl;lia, .put2 (.bQ .refl hb),_,k+(u::us).length,d+1,c,rfl,zyO hds,`l,`l,`l,`l,hc1,rfl,?_⟩
    push_cast
    rfl
structure qY (g:Tn→Tr) (B:List Tn):Prop where
  br:∀t∈B,(g t).br t.2.1.nb
  dp:∀t∈B,(g t).depth≤4
  wt:∀t∈B,(g t).ao≤20
section
variable {S:kB}{a:ai}{B:List Tn}{n:Int}
theorem NM (ha:S a=aa (.bJ (B.map nz))) (hn:n=1∨n=2) (hg:qY (pq n) B):∀(d:Nat) {t:Tr}{r:Nat}{Q:WK}{E:ah→kB→Prop},t.depth≤d→d+10≤r→t.ar B→t.ao≤1000→Q (j8 (t.mk B (pq n))) S→z_ (r+1) [.ref a,j8 t, .int n] S Q E
 |0,t,r,Q,E,hd,hr,hh,hw,h=>by have:=qK t;lia
 |d+1, .bl k,r,Q,E,hd,hr,hh,hw,h=>by simp [Tr.ar]at hh
 |d+1, .nd s ts,r,Q,E,hd,hr,hh,hw,h=>by
  simp only[Tr.depth]at hd;simp only[Tr.ao]at hw;simp only[Tr.ar]at hh;have hk:=qX ts;right
  rw[z_];simp only[j8];ext;rw[qc];refine qk (λσ=>∃x,σ=[x,aa (.ref a),aa (.int n)]) j8 (λt=>j8 (t.mk B (pq n))) trivial ts [] _ ⟨none,rfl⟩ (by simp;lia) (λx hx σ R hI hR=>?_) ?_
  ·obtain⟨y,rfl⟩:=hI;have hdx:=p_ hx;have hwx:=pk hx;simp only[Lh];ext;exact NM ha hn hg d `l `l (pC.mp hh.2 x hx) `l (hR _ _ ⟨_,rfl⟩ .refl)
  ·rw[aM];intro q hq;have eu:(ts.map λt=>j8 (t.mk B (pq n)))=af (ts.map (Tr.mk B (pq n))):=by rw[qc,bh];rfl
   rw[eu];have fq:bQ S q (Ob.bJ (af (ts.map (Tr.mk B (pq n))))) q=aa (.bJ (af (ts.map (Tr.mk B (pq n))))):=nv;have fa:=keep (x:=Ob.bJ (af (ts.map (Tr.mk B (pq n))))) ha hq;have sub:Sub S (bQ S q (Ob.bJ (af (ts.map (Tr.mk B (pq n)))))):= .bQ .refl hq;generalize bQ S q (Ob.bJ (af (ts.map (Tr.mk B (pq n)))))=S1 at fq fa sub⊢;refine uc fa ?_;cases e:nF B s with
   |none=>
    rw[BO e]at h;simp only[oW]
    try ext
    try rw[nG fq]
    rw[rg,ay];simp only[j8]at h;exact⟨nH `d,nH `l,_,sub,h⟩
   |some t=>
    have ht:t∈B:=bX e;have ee:oW (aa t)= .bT [.str t.1,j8 t.2.1,j8 t.2.2]:=rfl;rw[BU e]at h;rw[ee]
    try ext
    rw[HL t hn];dsimp only;have hgw:=hg.wt t ht;exact GW 4 (hg.dp t ht) `l fq (by rw[ay,hh.1 t e];exact hg.br t ht) `l ⟨_,sub,h⟩
def KF{E:ah→kB→Prop}(ha:S a=aa (.bJ (B.map nz))) (hg:qY (pq 2) B) (hd:t.depth≤40) (hr:60≤r) (hh:t.ar B) (hw:t.ao≤1000) (hwd:(t.mk B (pq 2)).wd)
  (h1:(t.mk B (pq 2)).aE=true→Q (j8 (t.mk B (pq 2))) S) (h2:(t.mk B (pq 2)).aE=false→E "TooGreat" S):xl (r+1) [.ref a,j8 t] S Q E:=by
 obtain⟨r,rfl⟩:∃r',r=r'+5:=⟨r - 5,`l⟩
 rw[xl];ext;refine NM ha (.inr rfl) hg 40 (r:=r+4) hd `l hh hw ?_;rw[AX];ext;refine M3 (r:=r+1) hwd ?_;cases e:(t.mk B (pq 2)).aE with
 |true=>
  try ext
  exact⟨_, .refl,_, .refl,h1 e⟩
 |false=>
  try ext
  try rw[PD]
  try ext
  exact⟨nH `d,h2 e⟩
end
theorem OX (us:List Tr):∀ts:List Tr,nN us ts=ts.map (Tr.aD us)
 | []=>by simp [nN]
 |t::ts=>by rw[nN,OX us ts];rfl
def Ja (t:Tr):t.aE=false↔((400:Int)<t.ao∨(40:Int)<t.depth):=by
 unfold Tr.aE;rw[Bool.and_eq_false_iff,decide_eq_false_iff_not,decide_eq_false_iff_not];lia
def stk (x:Tr):List ah→Tr
 | []=>x
 |h::hs=> .nd h [stk x hs]
mutual
theorem Nd (hu:∀u∈us,u.wd):∀t:Tr,t.ao≤1000→(t.aD us).wd
 | .bl n,h=>by
  rw[Tr.aD,bw];cases e:us[n.toNat]? with
  |none=>exact trivial
  |some u=>exact hu u (aN e)
 | .nd s ts,h=>by
  rw[Tr.ao]at h;have:=qX ts;rw[Tr.aD];refine⟨?_,Im hu ts `l⟩;rw[OX,ay];lia
theorem Im (hu:∀u∈us,u.wd):∀ts:List Tr,nB ts≤1000→vC (nN us ts)
 | [],h=>by rw[nN];exact trivial
 |t::ts,h=>by
  rw[nB]at h;rw[nN];exact⟨Nd hu t `l,Im hu ts `l⟩
end
mutual
theorem Fm{g:Tn→Tr}(hg:∀t∈B,(g t).ao≤1000):∀t:Tr,t.ao≤1000→(t.mk B g).wd
 | .bl n,h=>by rw[Tr.mk];exact trivial
 | .nd s ts,h=>by
  rw[Tr.ao]at h;have hl:=qX ts;have ih:=O0 hg ts `l;rw[xO]at ih;cases e:nF B s with
  |none=>
   rw[BO e];exact⟨by rw[ay];lia,ih⟩
  |some u=>
   rw[BU e];exact Nd (rf.mp ih) _ (hg u (bX e))
theorem O0{g:Tn→Tr}(hg:∀t∈B,(g t).ao≤1000):∀ts:List Tr,nB ts≤1000→vC (sk B g ts)
 | [],h=>by rw[sk];exact trivial
 |t::ts,h=>by
  rw[nB]at h;rw[sk];exact⟨Fm hg t `l,O0 hg ts `l⟩
end
theorem Fv{f:Tr→Tr}:∀as:List Tr,(∀x∈as,x.ao≤(f x).ao)→nB as≤nB (as.map f)
 | [],h=>by simp [nB]
 |x::as,h=>by
  have:=Fv as λy hy=>h y (aG _ hy);have:=h x aI;rw[az,nB,nB];lia
theorem DU{f:Tr→Tr}:∀as:List Tr,(∀x∈as,x.depth≤(f x).depth)→nL as≤nL (as.map f)
 | [],h=>by simp [nL]
 |x::as,h=>by
  have:=DU as λy hy=>h y (aG _ hy);have:=h x aI;rw[az,nL,nL];lia
section
theorem C0 (K:Bk3 ws B):∀(n:Nat) (x:Tr),x.ao≤n→Wy ws B x→x.ao≤(ak B x).ao∧x.depth≤(ak B x).depth
 |0,x,hn,h=>by have:=tu x;lia
 |n+1,x,hn,h=>by
  obtain ⟨s,as,rfl,hs,e,hk⟩ |⟨t,as,ht,rfl,e,hl,hk⟩:=h.cases K.b
  ·rw[Tr.ao]at hn;have ih:∀y∈as,y.ao≤(ak B y).ao∧y.depth≤(ak B y).depth:=λy hy=>C0 K n y (by have:=pk hy;lia) (hk y hy);have h1:=Fv (f:=ak B) as λy hy=>(ih y hy).1;have h2:=DU (f:=ak B) as λy hy=>(ih y hy).2;show _≤(Tr.mk B _ (Tr.nd s as)).ao∧_≤(Tr.mk B _ (Tr.nd s as)).depth;rw[qD e,Tr.ao,Tr.ao,Tr.depth,Tr.depth];exact⟨gG h1 1,gG h2 1⟩
  ·rw[Tr.ao]at hn;have ih:∀y∈as,y.ao≤(ak B y).ao∧y.depth≤(ak B y).depth:=λy hy=>C0 K n y (by have:=pk hy;lia) (hk y hy);have h1:=Fv (f:=ak B) as λy hy=>(ih y hy).1;have h2:=DU (f:=ak B) as λy hy=>(ih y hy).2;obtain⟨_,g1,g2⟩:=K.O.aD ht (us:=as.map (ak B)) (by rw[ay,hl]);show _≤(Tr.mk B _ (Tr.nd t.1 as)).ao∧_≤(Tr.mk B _ (Tr.nd t.1 as)).depth;rw[qy e,Tr.ao,Tr.depth];exact⟨aX (gG h1 1) g1,aX (gG h2 1) g2⟩
def xz (B:List Tn) (wn:List (List Int)) (p:List Int) (t:Tr):Prop:=∀e v,t.at e=aa v→(p++e∈wn↔(pR B v).isSome=true)
def JZ (ih:∀{t u:Tr}{p:List Int},Wi B wn n p t u→Sh ws B t→xz B wn p t→u.us B p=t.op B p):∀{qs:List (List Int)}{ts us:List Tr},qi B wn n p qs ts us→a_ (λq t=>Sh ws B t∧xz B wn (p++q) t) qs ts→xk B p qs us=vN B p qs ts:=by
 intro qs
 induction qs with
 |nil=>intro ts us a h;cases a;rfl
 |cons q qs ih2=>
  intro ts us a h;cases a with
  |cons a b=>
   cases h with
   |cons c d=>simp only[xk,vN];rw[ih a c.1 c.2,ih2 b d]
theorem D_ (b:m_ w0 w1 w2 w3 w4 w5 tt B) (G:oH w0 w1 w2 w3 w4 w5) (K:Bk3 ws B):∀(n:Nat) {t u:Tr}{p:List Int},Wi B wn n p t u→Sh ws B t→xz B wn p t→u.us B p=t.op B p
 |0,t,u,p,W,h,hw=>nomatch W
 |n+1,t,u,p,W,h,hw=>by
  have at0:∀(s:ah) (ts:List Tr),(Tr.nd s ts).at []=aa (.nd s ts):=λs ts=>by rw[Tr.at]
  cases W with
  | @no _ _ s ts us hp e W=>
   have ho:pR B (.nd s ts)=none:=by
    cases k:pR B (.nd s ts) with
    |none=>rfl
    |some v=>
     have:=(hw [] _ (at0 s ts)).mpr (by rw[k];rfl);rw[bf]at this;exact absurd this hp
   obtain⟨s',ts',e0,hs,_,k⟩:=h.cases K;cases e0;have pr:∀(i:Nat) (xs:List Tr),(∀(j:Nat) x,xs[j]? =aa x→ts[i+j]? =aa x)→a_ (λq t=>Sh ws B t∧xz B wn (p++q) t) ((hV i xs.length).map λ(i:Nat)=>[(i:Int)]) xs:=by
    intro i xs
    induction xs generalizing i with
    |nil=>intro _;exact .nil
    |cons x xs ih=>
     intro hx;have hi:=hx 0 x rfl;rw[fE]at hi;have hm:x∈ts:=aN hi;rw[aT,iv,az];refine .cons ⟨k x hm,λe' v' h6=>?_⟩ (ih (i+1) λj y hy=>?_)
     ·have:=hw ((i:Int)::e') v' (by rw[t_ hi];exact h6);rw[bE];exact this
     ·have:=hx (j+1) y (by rw[bW];exact hy);rw[show i+1+j=i+(j+1) by lia]
      exact this
   have pr0:=pr 0 ts λj x h=>by rw[bI];exact h
   have wl:us.length=ts.length:=W.len;rw[UC e,wl,Tr.op,ho];show xk B p _ us=[]++pD B p 0 ts;rw[aM,L1,jU];rw[jU]at W;exact JZ (D_ b G K n) W pr0
  | @yes _ _ s ts us ms u hp ho hm et W=>
   have hu:u∈B:=bX ho;obtain⟨f1,f2,f3⟩:=h.parts K hu hm;have pr:∀{qs:List (List Int)}{xs:List Tr},(∀x∈xs,Sh ws B x)→a_ (λq m=>(Tr.nd s ts).at q=aa m) qs xs→a_ (λq t=>Sh ws B t∧xz B wn (p++q) t) qs xs:=by
    intro qs xs h2 h3
    induction h3 with
    |nil=>exact .nil
    | @cons q m qs xs h4 _ ih=>
     refine .cons ⟨h2 m `s,λe' v' h6=>?_⟩ (ih λx hx=>h2 x (aG _ hx));have:=hw (q++e') v' (by rw[xf _ e' h4];exact h6);rw[bE];exact this
   have z:=JZ (D_ b G K n) W (pr f3 (NI hm));rw[WC et,z,Tr.op,ho];show _=[(p,u.1)]++pD B p 0 ts;rw[List.singleton_append];congr 1;obtain⟨m,hL⟩:=b.mem_lefts hu;have o2:∀xs,pR B (.nd w2 xs)=none:=λxs=>b.open_none (G.n0 w2 `s) (G.n1 w2 `s);have o3:∀xs,pR B (.nd w3 xs)=none:=λxs=>b.open_none (G.n0 w3 `s) (G.n1 w3 `s);obtain hL |hL:=hL
   ·obtain⟨ks,ek⟩:=wE hL;have:=Jb hL o2 o3 f2 ek p;rw[ek,Tr.aD]at f1;injection f1 with _ f1;rw[f1];exact this.symm
   ·obtain⟨ks,ek⟩:=wE hL;have:=Jb hL o2 o3 f2 ek p;rw[ek,Tr.aD]at f1;injection f1 with _ f1;rw[f1];exact this.symm
def Sh.all (h:Sh ws B t):xz B (r9 B t) [] t:=λe v hv=>by
 have ft:=vJ (m:=0) _ h.hdT;rw[aM];constructor
 ·intro he;exact h.wn (λq hq=>hq) e he e v `s hv
 ·intro ho;obtain⟨u,ho⟩:=dE.mp ho;have m:=Dc t [] e v hv;rw[aM]at m;unfold r9;rw[←B1 B t [] ft];refine aL.mpr ⟨(e,u.1),d_.mpr ⟨(e,v),m,?_⟩,rfl⟩;unfold tP;rw[ho];simp
structure Cj (ws:List ah) (B:List Tn) (t u:Tr):Prop where
  wi:Wi B (r9 B t) t.depth [] t u
  sr:ak B u=t
  wy:Wy ws B u
  us:u.us B []=t.op B []
def UE (b:m_ w0 w1 w2 w3 w4 w5 tt B) (G:oH w0 w1 w2 w3 w4 w5) (K:Bk3 ws B) (h:Sh ws B t):∃u,Cj ws B t u:=by
 obtain⟨u,wi,e,y,_⟩:=BS K t.depth t [] (aA _) h (h.wn λq hq=>hq);exact⟨u,wi,e,y,D_ b G K _ wi h h.all⟩
open Classical in
noncomputable def fw (ws:List ah) (B:List Tn) (t:Tr):Tr:=if h:∃u,Cj ws B t u then choose h else t
def wL (b:m_ w0 w1 w2 w3 w4 w5 tt B) (G:oH w0 w1 w2 w3 w4 w5) (K:Bk3 ws B) (h:Sh ws B t):Cj ws B t (fw ws B t):=by
 have e:=UE b G K h;unfold fw;rw[dif_pos e];exact kN e
noncomputable def hh (ws:List ah) (B:List Tn) (t:Tr):Nat→Tr
 |0=>t
 |k+1=>b9 B (fw ws B (hh ws B t k))
noncomputable def wys (ws:List ah) (B:List Tn) (t:Tr) (k:Nat):List Tr:=(bD k).map λi=>fw ws B (hh ws B t i)
def Go (ws:List ah) (B:List Tn) (t:Tr) (l:Nat) (i:Nat):Prop:=i<l∧(hh ws B t i).op B []≠ []∧(hh ws B t (i+1)).aE=true
def rS (ws:List ah) (B:List Tn) (t:Tr) (l:Nat) (k:Nat) (z:Bool):Prop:=(∀i,i<k→Go ws B t l i)∧match z with
 |false=>l≤k∨(hh ws B t k).op B []=[]
 |true=>k<l∧(hh ws B t k).op B []≠ []∧(hh ws B t (k+1)).aE=false
def rS.stop (h:rS ws B t l k z):¬Go ws B t l k:=λg=>by
 cases z with
 |false=>
  obtain y |y:=h.2
  ·have:=g.1;lia
  ·exact g.2.1 y
 |true=>
  have:=h.2.2.2;rw[g.2.2]at this;cases this
def rS.one (h:rS ws B t l k z) (g:rS ws B t l k' z'):k=k'∧z=z':=by
 have e:k=k':=by
  obtain y |y |y:=Nat.lt_trichotomy k k'
  ·exact absurd (g.1 k y) h.stop
  ·exact y
  ·exact absurd (h.1 k' y) g.stop
 subst e;refine⟨rfl,?_⟩;have no:rS ws B t l k false→rS ws B t l k true→False:=λa c=>by
  obtain y |y:=a.2
  ·have:=c.2.1;lia
  ·exact c.2.2.1 y
 cases z<;>cases z'
 ·rfl
 ·exact(no h g).elim
 ·exact(no g h).elim
 ·rfl
theorem zW (b:m_ w0 w1 w2 w3 w4 w5 tt B) (G:oH w0 w1 w2 w3 w4 w5) (K:Bk3 ws B) (h:Sh ws B t):∀k,Sh ws B (hh ws B t k)
 |0=>h
 |k+1=>by
  have f:=wL b G K (zW b G K h k);obtain⟨g1,g2,_,_⟩:=K.b9 f.wy;exact⟨g1,g2⟩
def Ye (h0:t.aE=true) (h:∀i,i<k→Go ws B t l i):(hh ws B t k).aE=true:=by
 cases k with
 |zero=>exact h0
 |succ k=>exact(h k `l).2.2
def RC (k:Nat):wys ws B t (k+1)=wys ws B t k++[fw ws B (hh ws B t k)]:=by
 unfold wys;rw[gv,bC];rfl
def Ol (k:Nat):(wys ws B t k).length=k:=by
 unfold wys;rw[ay,mo]
end
def Zc (h:Sub (bQ S a x) S1):Sub (bQ S a y) (bQ S1 a y):=λb o e=>by
 by_cases z:b=a
 ·subst z;rw[nv]at e⊢;exact e
 ·rw[oz z]at e⊢;exact h b o (by rw[oz z];exact e)
def tB{t:Tr}(h:t.aE=true):t.ao≤400∧t.depth≤40:=by
 have no:¬t.aE=false:=by rw[h];simp
 constructor
 ·obtain z |z:=jI 400 t.ao
  ·exact absurd ((Ja t).mpr (.inl `l)) no
  ·exact z
 ·obtain z |z:=jI 40 t.depth
  ·exact absurd ((Ja t).mpr (.inr `l)) no
  ·exact z
structure m3 (w0 w1 w2 w3 w4 w5:ah) (tt:List ah) (B:List Tn):Prop where
  b:m_ w0 w1 w2 w3 w4 w5 tt B
  T:qz tt
  G:oH w0 w1 w2 w3 w4 w5
structure QY (ws:List ah) (B:List Tn) (x u:Tr):Prop where
  f:Cj ws B x u
  wt:u.ao≤400
  dp:u.depth≤40
  ar:u.ar B
  hd:u.hd λ_=>True
  wd:(u.mk B (pq 2)).wd
section
variable {w0 w1 w2 w3 w4 w5:ah}{tt:List ah}{B:List Tn}{t:Tr}{S:kB}{a:ai}{r:Nat}{Q:WK}{E:ah→kB→Prop}
def m3.bk (c:m3 w0 w1 w2 w3 w4 w5 tt B):oP [w0,w1,w2,w3,w4,w5] [w2,w3,w4,w5] B:=c.b.bk c.T c.G
def m_.bk3 (b:m_ w0 w1 w2 w3 w4 w5 tt B) (T:qz tt) (G:oH w0 w1 w2 w3 w4 w5):Bk3 [w0,w1,w2,w3,w4,w5] B:=by
 have k:=b.bk T G;refine⟨⟨k.ti,k.nd,k.sg,λx hx=>hx,k.lf,k.ri⟩,b.ort G,λt ht=>?_⟩;obtain⟨n,z |z⟩:=b.mem_lefts ht
 ·exact(B4 (P:=λs=>s∈ [w0,w1,w2,w3,w4,w5]) `s `s `s _ z).hb
 ·exact(B4 (P:=λs=>s∈ [w0,w1,w2,w3,w4,w5]) `s `s `s _ z).hb
def m3.K (c:m3 w0 w1 w2 w3 w4 w5 tt B):Bk3 [w0,w1,w2,w3,w4,w5] B:=c.b.bk3 c.T c.G
def m3.L (c:m3 w0 w1 w2 w3 w4 w5 tt B):sM B:=⟨λt ht=>(c.bk.lf t ht).dp,λt ht=>by
 have h1:=(c.bk.lf t ht).wt;have h2:=(c.bk.lf t ht).nb;lia⟩
def m3.P (c:m3 w0 w1 w2 w3 w4 w5 tt B):PB B:=λt ht x hx=>by
 have h1:=(xY hx).2.2;have h2:=c.L.d t ht;lia
def m3.g2 (c:m3 w0 w1 w2 w3 w4 w5 tt B):qY (pq 2) B:=⟨λt ht=>(c.b.ri t ht).br,λt ht=>(c.b.ri t ht).dp,λt ht=>aX (c.b.ri t ht).wt `d⟩
def m3.way (c:m3 w0 w1 w2 w3 w4 w5 tt B) (h:Sh [w0,w1,w2,w3,w4,w5] B x) (hs:x.aE=true):QY [w0,w1,w2,w3,w4,w5] B x (fw [w0,w1,w2,w3,w4,w5] B x):=by
 have f:=wL c.b c.G c.K h;obtain⟨h1,h2⟩:=C0 c.K _ _ (aA _) f.wy;rw[f.sr]at h1 h2;obtain⟨h3,h4⟩:=tB hs;exact⟨f,`l,`l,f.wy.ar,vW (λ_ _=>trivial) _ f.wy.hd,Fm (λt ht=>aX (c.g2.wt t ht) `d) _ `l⟩
def Xb (c:m3 w0 w1 w2 w3 w4 w5 tt B) (ha:S a=aa (.bJ (B.map nz))) (h:Sh [w0,w1,w2,w3,w4,w5] B x) (hs:x.aE=true) (hr:120≤r) (q:Q (j8 (fw [w0,w1,w2,w3,w4,w5] B x)) S):C3 (r+1) [.ref a,j8 x] S Q E:=by
 have w:=c.way h hs;obtain⟨h3,h4⟩:=tB hs;have hl:=AI B x [];right
 rw[C3];ext;refine zU c.L ha `l `l `l h.hdT λq1 hq1=>?_;refine Fd nv `l λq2 hq2=>?_;exact Fo c.L c.P w.f.wi `l `l (keep (keep ha hq1) hq2) nv h.hdT `l (by unfold r9;rw[ay];lia) ⟨_, .trans (.bQ .refl hq1) (.bQ .refl hq2),q⟩
def VY (c:m3 w0 w1 w2 w3 w4 w5 tt B) (ha:S a=aa (.bJ (B.map nz))) (h:Sh [w0,w1,w2,w3,w4,w5] B t) (hs:t.aE=true) (hl:l≤10) (hr:130≤r)
  (h1:∀k,rS [w0,w1,w2,w3,w4,w5] B t l k false→ ∀S' q,Sub S S'→S' q=aa (.bJ (af (wys [w0,w1,w2,w3,w4,w5] B t k)))→Q (.bT [.bT [j8 t, .ref q], .bl ((hh [w0,w1,w2,w3,w4,w5] B t k).op B []).isEmpty]) S')
  (h2:∀k,rS [w0,w1,w2,w3,w4,w5] B t l k true→ ∀S',Sub S S'→E "TooGreat" S'):C2 (r+1) [.ref a,j8 t, .int l] S Q E:=by
 right
 rw[C2];ext;refine⟨aU _,λq hq=>?_⟩;refine⟨λm σ S'=>∃k x5,m=l - k∧(∀i,i<k→Go [w0,w1,w2,w3,w4,w5] B t l i)∧S'=bQ S q (.bJ (af (wys [w0,w1,w2,w3,w4,w5] B t k)))∧σ=[aa (.ref a),aa (j8 t),aa (.int l),aa (.ref q),aa (j8 (hh [w0,w1,w2,w3,w4,w5] B t k)),x5],⟨_,0,none,rfl,λi hi=>absurd hi (Nat.not_lt_zero i),by simp [wys,af],rfl⟩,?_⟩
 rintro m σ S' ⟨k,x5,rfl,hg,rfl,rfl⟩;have sh:=zW c.b c.G c.K h k;have sm:=Ye hs hg;obtain⟨b1,b2⟩:=tB sm;have sb:Sub S (bQ S q (Ob.bJ (af (wys [w0,w1,w2,w3,w4,w5] B t k)))):= .bQ .refl hq;have fa:=sb _ _ ha;have fq:bQ S q (Ob.bJ (af (wys [w0,w1,w2,w3,w4,w5] B t k))) q=aa (.bJ (af (wys [w0,w1,w2,w3,w4,w5] B t k))):=nv;have fin:∀S1,Sub (bQ S q (Ob.bJ (af (wys [w0,w1,w2,w3,w4,w5] B t k)))) S1→(l≤k∨(hh [w0,w1,w2,w3,w4,w5] B t k).op B []=[])→2≤sizeLine∧zV (m9 (uB (r+1)) {iu 0,iu 4}) (λc x S'=>E c S') [aa (.ref a),aa (j8 t),aa (.int l),aa (.ref q),aa (j8 (hh [w0,w1,w2,w3,w4,w5] B t k)),x5] S1 λw S1=>2≤sizeLine∧ ∃S'',Sub S'' S1∧Q (.bT [.bT [j8 t, .ref q],w]) S'':=λS1 s1 hk=>by
  rw[zzJ];ext;refine⟨nH `d,zU c.L (s1 _ _ fa) `l `l `l sh.hdT λq2 hq2=>?_⟩;ext;have ee:(((hh [w0,w1,w2,w3,w4,w5] B t k).op B []).map encX).isEmpty=((hh [w0,w1,w2,w3,w4,w5] B t k).op B []).isEmpty:=by cases(hh [w0,w1,w2,w3,w4,w5] B t k).op B []<;>rfl
  rw[ee,Bool.not_not];exact⟨nH `d,_, .refl,h1 k ⟨hg,hk⟩ _ q ((sb.trans s1).trans (.bQ .refl hq2)) (keep (s1 _ _ fq) hq2)⟩
 have w:=c.way sh sm;have eg:(fw [w0,w1,w2,w3,w4,w5] B (hh [w0,w1,w2,w3,w4,w5] B t k)).mk B (pq 2)=hh [w0,w1,w2,w3,w4,w5] B t (k+1):=by rw[C6];rfl
 have el:(af (wys [w0,w1,w2,w3,w4,w5] B t k)).length=k:=by rw[rg,Ol]
 ext;rw[el];split
 ·rename_i lt;refine zU c.L fa `l `l `l sh.hdT λq2 hq2=>?_;have s2:Sub (bQ S q (Ob.bJ (af (wys [w0,w1,w2,w3,w4,w5] B t k)))) (bQ (bQ S q (Ob.bJ (af (wys [w0,w1,w2,w3,w4,w5] B t k)))) q2 (Ob.bJ (((hh [w0,w1,w2,w3,w4,w5] B t k).op B []).map encX))):= .bQ .refl hq2;ext;cases e:(hh [w0,w1,w2,w3,w4,w5] B t k).op B []with
  |nil=>
   rw[e]at s2;simp only[dc,lO,lV,cZ,if_false];exact fin _ s2 (.inr e)
  |cons x xs=>
   rw[e]at s2;simp only[az,kw,kc,if_true]at s2⊢;generalize bQ (bQ S q (Ob.bJ (af (wys [w0,w1,w2,w3,w4,w5] B t k)))) q2 (Ob.bJ (encX x::xs.map encX))=S2 at s2⊢;have ne:(hh [w0,w1,w2,w3,w4,w5] B t k).op B []≠ []:=by rw[e];simp
   simp only[Md];ext;refine Xb c (s2 _ _ fa) sh sm `l ?_;refine KF (s2 _ _ fa) c.g2 w.dp `l w.ar (by have:=w.wt;lia) w.wd (λz=>?_) λz=>?_
   ·rw[eg]at z⊢
    try ext
    rw[nG (s2 _ _ fq)];refine⟨trivial,?_⟩;rw[nG (s2 _ _ fq)];refine⟨qJ (by rw[el];lia),l - (k+1),bQ S q (.bJ (af (wys [w0,w1,w2,w3,w4,w5] B t (k+1)))),`l,?_,k+1,_,rfl,λi hi=>?_,rfl,rfl⟩
    ·rw[RC,EO];exact Zc s2
    ·obtain y |y:=jI i k
     ·exact hg i y
     ·rw[show i=k by lia]
      exact⟨`l,ne,z⟩
   ·rw[eg]at z;exact h2 k ⟨hg,`l,ne,z⟩ _ (sb.trans s2)
 ·exact fin _ .refl (.inl `l)
end
def TZ{α β:Type}{f:α→β}{xs:List α}(h:(xs.map f).Nodup):xs.Nodup:=by
 unfold jG at h⊢;rw[mx]at h;exact h.imp λ{a b} n e=>n (by rw[e])
section
variable {w0 w1 w2 w3 w4 w5:ah}{tt:List ah}{B:List Tn}{S:kB}{a:ai}{r:Nat}{Q:WK}{E:ah→kB→Prop}
def m3.ok_open (c:m3 w0 w1 w2 w3 w4 w5 tt B) (ha:S a=aa (.bJ (B.map nz))) {x:Tr}(h:Sh [w0,w1,w2,w3,w4,w5] B x) (hs:x.aE=true) (hr:80≤r) (k:∀S' b,Sub S S'→S' b=aa (.bJ ((x.op B []).map encX))→Q (.ref b) S'):zc (r+1) [.ref a,j8 x] S Q E:=by
 obtain⟨b1,b2⟩:=tB hs;have hl:=c.b.len;exact Sm c.L (TZ c.bk.nd) `l (λx u hu v hv h1 h2=>c.K.O.one u hu v hv x h1 h2) ha `l `l `l (vJ _ h.hdT) k
end
theorem OP:∀{ts:List Tr},(∀x∈ts,x.depth≤d)→nL ts≤d
 | [],_=>by simp [nL]
 |t::ts,h=>by
  have h1:=h t aI;have h2:=OP (ts:=ts) λx hx=>h x (aG _ hx);rw[nL];lia
def EF (ha:S a=aa (.bJ xs)) (hb:S b=aa (.bJ ys)) (h:oD (oq S n) xs ys=aa true):oq S (n+1) (.ref a) (.ref b)=aa true:=by
 show(match S a with
  |some (.bJ xs)=>match S b with
   |some (.bJ ys)=>oD (oq S n) xs ys
   |_=>none
  |_=>none)=aa true
 rw[ha,hb];exact h
theorem K5:∀(xs:List Tr),(∀x∈xs,x.depth<n)→oD (oq S n) (xs.map j8) (xs.map j8)=aa true
 | [],_=>rfl
 |x::xs,h=>by
  have h1:oq S n (j8 x) (j8 x)=aa true:=by rw[Dm n _ _ (h x `s),Fa]
  have h2:=K5 (S:=S) xs λy hy=>h y (aG _ hy);rw[az,oD,h1,h2];rfl
def XF{S:kB}{n:Nat}{a b:ai}{xs:List Tr}(hd:∀x∈xs,x.depth<n) (ha:S a=aa (.bJ (xs.map j8))) (hb:S b=aa (.bJ (xs.map j8))):oq S (n+1) (.ref a) (.ref b)=aa true:=EF ha hb (K5 xs hd)
def v5 (K:Bk3 ws B) (hx:Wy ws B x) (hy:Wy ws B y) (e:ak B x=ak B y):∃p,nU ws B p∧p.ev B (nK 1)=x∧p.ev B (nK 2)=y∧p.ev B zr=ak B x:=by
 obtain⟨p,hp,_,e1,e2⟩:=BF K.b K.O _ x y (aA _) hx hy e;refine⟨p,hp,e1,e2,?_⟩;rw[←e1];show _=(p.ev B (nK 1)).mk B λt=>t.2.1;rw[vM K.b hp];exact uh hp λb h0 h1=>((qS 1).ak b h0 h1).symm
def Bk3.plan1 (K:Bk3 ws B) (h:Wy ws B x):∃p,nU ws B p∧p.ev B (nK 1)=x∧p.ev B zr=L2.ak B x:=by
 obtain⟨p,hp,e1,_,hs⟩:=v5 K h h rfl;exact⟨p,hp,e1,hs⟩
def Bk3.res_self (K:Bk3 ws B) (h:Wy ws B x):res B x x=L2.b9 B x:=by
 obtain⟨p,hp,e1,hs⟩:=K.plan1 h;have m:=(vj (c:=nK 1) (d:=nK 1) K.b K.O.mt (ua (qS 1) (qS 1)) hp).res;rw[e1]at m;rw[m,←e1];show _=(p.ev B (nK 1)).mk B λt=>t.2.2;rw[vn K.b hp];exact uh hp λb h0 h1=>rfl
section
variable {ws:List ah}{B:List Tn}{x t:Tr}{xs:List Tr}
def Sh.dM (K:Bk3 ws B) (h:Sh ws B x):x.dM=true:=by
 refine DH x ?_;have:∀(n:Nat) (x:Tr),x.depth≤n→Sh ws B x→x.hd px:=by
  intro n
  induction n with
  |zero=>
   intro x hd h;have:=qK x;lia
  |succ n ih=>
   intro x hd h;obtain⟨s,ts,rfl,hs,_,k⟩:=h.cases K;rw[Tr.depth]at hd;rw[Tr.hd,nV];exact⟨K.b.sg s hs,λu hu=>ih u (by have:=p_ hu;lia) (k u hu)⟩
 exact this _ x (aA _) h
def Wy.len (K:Bk3 ws B) (h:Wy ws B x):x.hd λs=>s.length≤1000:=vW (λs hs=>by
 obtain hs |⟨t,ht,rfl⟩:=hs
 ·exact U3 (K.b.sg s hs)
 ·exact WN (K.b.ti t ht)) _ h.hd
theorem JC{α:Type}(f:α→Bool):∀(xs:List α),tv (xs.map λx=>W.bl (f x))=aa (xs.map f)
 | []=>rfl
 |x::xs=>by rw[az,tv,JC f xs];rfl
end
def Bk3.moved (K:Bk3 ws B) (hx:Wy ws B x) (hy:Wy ws B y) (e:L2.ak B x=L2.ak B y):AS ws B x y (res B x y):=by
 obtain⟨p,hp,rfl,rfl,_⟩:=v5 K hx hy e;have o1:=qS 1;have o2:=qS 2;have m1:=(vj (c:=nK 1) (d:=nK 2) K.b K.O.mt (ua o1 o2) hp).res;have m2:=(vj (c:=nK 2) (d:=nK 1) K.b K.O.mt (ua o2 o1) hp).res;rw[m1];refine⟨K.wy hp,?_,?_,YR K.b K.O o1 o2 hp⟩
 ·show(p.ev B (oy (nK 1) (nK 2))).mk B (λt=>t.2.1)=(p.ev B (nK 2)).mk B λt=>t.2.2;rw[vM K.b hp,vn K.b hp];refine uh hp λx h0 h1=>?_;have a:=tz 1 x;have b:=tz 2 x;unfold uW sJ oy;generalize nK 1 x=m at a⊢;generalize nK 2 x=n at b⊢;obtain rfl |rfl:m=0∨m=1:=by lia
  all_goals obtain rfl |rfl:n=0∨n=1:=by lia
  all_goals rfl
 ·rw[m2];show(p.ev B (oy (nK 1) (nK 2))).mk B (λt=>t.2.2)=(p.ev B (oy (nK 2) (nK 1))).mk B λt=>t.2.2;rw[vn K.b hp,vn K.b hp];refine uh hp λx h0 h1=>?_;have a:=tz 1 x;have b:=tz 2 x;unfold sJ oy;generalize nK 1 x=m at a⊢;generalize nK 2 x=n at b⊢;obtain rfl |rfl:m=0∨m=1:=by lia
  all_goals obtain rfl |rfl:n=0∨n=1:=by lia
  all_goals rfl
theorem xn (K:Bk3 ws B):∀(os:List Tr) {x t:Tr},Wy ws B x→L2.ak B x=t→ov ws B t os→ov ws B (b9 B x) (qf B x os)∧Wy ws B (rb B x os)∧L2.ak B (rb B x os)=pP B t os∧pP B (b9 B x) (qf B x os)=b9 B (rb B x os)
 | [],x,t,hx,ex,_=>⟨trivial,hx,ex,rfl⟩
 |o::os,x,t,hx,ex,⟨ho,eo,hr⟩=>by
  have m:=K.moved hx ho (ex.trans eo.symm);have m':=K.moved ho hx (eo.trans ex.symm);obtain⟨h1,h2,h3,h4⟩:=xn K os m.wy m.sr hr;refine⟨?_,h2,h3,?_⟩
  ·rw[qf];refine⟨m'.wy,m'.sr,?_⟩;rw[m'.go];exact h1
  ·rw[qf,pP,rb,m'.go];exact h4
theorem yD (K:Bk3 ws B):∀(xs os:List Tr) {t:Tr},ov ws B t xs→ov ws B t os→ov ws B (pP B t os) (pV B xs os)
 | [],os,t,_,_=>trivial
 |x::xs,os,t,⟨hx,ex,hr⟩,ho=>by
  obtain⟨h1,h2,h3,h4⟩:=xn K os hx ex ho;rw[pV];refine⟨h2,h3,?_⟩;rw[←h4];exact yD K xs _ hr h1
def Wy.re (w:Wy ws B (.nd h ts)) (hl:us.length=ts.length) (hu:∀x∈us,Wy ws B x):Wy ws B (.nd h us):=by
 obtain⟨h1,h2⟩:=w;rw[Tr.hd,nV]at h1;rw[Tr.ar,pC]at h2;refine⟨?_,?_⟩
 ·rw[Tr.hd,nV];exact⟨h1.1,λu hm=>(hu u hm).hd⟩
 ·rw[Tr.ar,pC];exact⟨λt e=>by rw[hl];exact h2.1 t e,λu hm=>(hu u hm).ar⟩
def LC (O:sB B) (ht:t∈B) (h:t.2.1.mt (.nd s ts)=aa ms):nL ms≤nL ts:=by
 obtain⟨s0,l0,e0,_⟩:=O.inn t ht;rw[e0,Tr.mt]at h;split at h
 ·exact OP (Bc _ _ _ h)
 ·cases h
theorem zp{B:List Tn}{n:Nat}(f:∀{x y z:Tr},Mv B n x y z→Mv B x.depth x y z):∀(xs:List Tr) {ys zs:List Tr},oZ B n xs ys zs→oZ B (nL xs) xs ys zs
 | [],_,_,h=>by cases h;exact .nil
 |_::xs,_,_,h=>by
  cases h with
  |cons a b=>
   rw[nL];exact .cons ((f a).monoA _ `l) ((zp f xs b).monoA _ `l)
def Mv.bd (O:sB B) {n:Nat}:∀{x y z:Tr},Mv B n x y z→Mv B x.depth x y z:=by
 induction n with
 |zero=>intro x y z h;cases h
 |succ n ih=>
  intro x y z h;cases h with
  |nn a b m=>rw[Tr.depth,eD];exact .nn a b (zp ih _ m)
  |ns a b c d m=>rw[Tr.depth,eD];exact .ns a b c d ((zp ih _ m).monoA _ (LC O (bX b) c))
  |sn a b c m=>rw[Tr.depth,eD];exact .sn a b c (zp ih _ m)
  |ss a b c m=>rw[Tr.depth,eD];exact .ss a b c (zp ih _ m)
section
variable {ws:List ah}{B:List Tn}{x y:Tr}{a:ai}{r:Nat}{S:kB}{Q:WK}{E:ah→kB→Prop}
def Bk3.mv (K:Bk3 ws B) (hx:Wy ws B x) (hy:Wy ws B y) (e:L2.ak B x=L2.ak B y):Mv B x.depth x y (res B x y):=by
 obtain⟨p,hp,rfl,rfl,_⟩:=v5 K hx hy e;have m:=vj (c:=nK 1) (d:=nK 2) K.b K.O.mt (ua (qS 1) (qS 2)) hp;have m1:=m.res;rw[m1];exact m.bd K.O
def Bk3.fitw (K:Bk3 ws B) (hx:Wy ws B x) (hs:(L2.ak B x).aE=true):x.depth≤40∧x.ao≤400∧x.ar B∧x.hd λ_=>True:=by
 obtain⟨g1,g2⟩:=C0 K _ _ (aA _) hx;obtain⟨h1,h2⟩:=tB hs;exact⟨`l,`l,hx.ar,vW (λ_ _=>trivial) _ hx.hd⟩
def Bk3.gW (K:Bk3 ws B):qY (pq 2) B:=⟨λt ht=>(K.b.ri t ht).br,λt ht=>(K.b.ri t ht).dp,λt ht=>aX (K.b.ri t ht).wt `d⟩
def Bk3.okmv (K:Bk3 ws B):∀t∈B,t.2.1.depth≤4∧t.2.1.ao≤100∧t.2.2.depth≤4∧t.2.2.ao≤100∧t.2.2.br t.2.1.nb:=λt ht=>by
 have h1:=K.b.lf t ht;have h2:=K.b.ri t ht;have h3:=h1.wt;have h4:=h1.nb;have h5:=h2.wt;exact⟨h1.dp,`l,h2.dp,`l,h2.br⟩
structure vg (ws:List ah) (B:List Tn) (x y:Tr):Prop where
  K:Bk3 ws B
  wx:Wy ws B x
  wy:Wy ws B y
  e:ak B x=ak B y
  sm:(ak B y).aE=true
def vg.symm (h:vg ws B x y):vg ws B y x:=⟨h.K,h.wy,h.wx,h.e.symm,by rw[h.e];exact h.sm⟩
def vg.ok_move (h:vg ws B x y) (ha:S a=aa (.bJ (B.map nz))) (hr:60≤r) (q:Q (j8 (res B x y)) S):ui (r+1) [.ref a,j8 x,j8 y] S Q E:=by
 obtain⟨d1,w1,_,h1⟩:=h.K.fitw h.wx (by rw[h.e];exact h.sm);obtain⟨d2,w2,_,h2⟩:=h.K.fitw h.wy h.sm;exact OF h.K.okmv x.depth ha (h.K.mv h.wx h.wy h.e) `l h1 h2 `l `l q
def Bk3.ok_goalX (K:Bk3 ws B) (hx:Wy ws B x) (hs:(L2.ak B x).aE=true) (ha:S a=aa (.bJ (B.map nz))) (hr:60≤r) (h1:(L2.b9 B x).aE=true→Q (j8 (L2.b9 B x)) S) (h2:(L2.b9 B x).aE=false→E "TooGreat" S):xl (r+1) [.ref a,j8 x] S Q E:=by
 obtain⟨d1,w1,a1,_⟩:=K.fitw hx hs;have e2:x.mk B (pq 2)=L2.b9 B x:=by rw[C6]
 refine KF ha K.gW d1 hr a1 `l (Fm (λt ht=>aX (K.gW.wt t ht) `d) _ `l) (λz=>?_) λz=>?_
 ·rw[e2]at z⊢;exact h1 z
 ·rw[e2]at z;exact h2 z
end
theorem K_{G:kB→Prop}(K:Bk3 ws B) (hG:G S) (ha:S a=aa (.bJ (B.map nz))) (hr:60≤r):∀(xs:List Tr) {t:Tr}(y1 y2:Option W),ov ws B t xs→t.aE=true→((∀x∈xs,(b9 B x).aE=true)→ ∀z,D.nx [aa (.ref a),y1,z] S)→((∃x∈xs,(b9 B x).aE=false)→ ∀σ,E "TooGreat" σ S)→nI (mU 2) (FC (r+1) nc) E D G (xs.map j8) [aa (.ref a),y1,y2] S
 | [],t,y1,y2,_,_,h,_=>h (λ_ hx=>nomatch hx) y2
 |x::xs,t,y1,y2,⟨h1,h2,h3⟩,hs,h,hE=>by
  rw[az];refine rJ λN hN=>?_;rw[sj,FC];ext;refine K.ok_goalX h1 (by rw[h2];exact hs) ha `l (λz=>?_) λz=>hE ⟨x,aI,z⟩ _;refine hN _ _ _ .refl hG (K_ K hG ha hr xs y1 _ h3 z (λk=>h λu hu=>?_) λ⟨u,hu,e⟩=>hE ⟨u,aG _ hu,e⟩);obtain e |e:=aB.mp hu
  ·rw[e];exact z
  ·exact k u e
def EH{X:ah→kB→Prop}(K:Bk3 ws B) (ha:S a=aa (.bJ (B.map nz))) (hl:S l=aa (.bJ (xs.map j8))) (hx:ov ws B t xs) (hs:t.aE=true) (hr:60≤r) (h:(∀x∈xs,(b9 B x).aE=true)→Q .b_ S) (hX:(∃x∈xs,(b9 B x).aE=false)→X "TooGreat" S):vL (r+2) [.ref a, .ref l] S Q X:=by
 rw[show r+2=r+1+1 from rfl,vL];ext;rw[nG hl];exact K_ K hl ha hr xs _ _ hx hs (λk z=>⟨_, .refl,h k⟩) λk σ=>hX k
def uP (B:List Tn):Tr→List Tr→Prop
 |_,[]=>True
 |x,o::os=>(b9 B (res B x o)).aE=true∧uP B (res B x o) os
theorem OU{G:kB→Prop}(K:Bk3 ws B) (ha:S0 a=aa (.bJ (B.map nz))) (h0:S0 q=none) (hG:∀S,Sub S0 S→G S) (hr:64≤r):∀(os:List Tr) {x t:Tr},Wy ws B x→ak B x=t→ov ws B t os→t.aE=true→(∀o∈os,(b9 B o).aE=true)→ ∀(xs:List W) {S:kB}{y1 y2 y4 y5:Option W},xs.length+os.length≤900→Sub S0 S→S q=aa (.bJ (xs++[j8 x]))→
  (uP B x os→ ∀S' y4 y5,Sub S0 S'→S' q=aa (.bJ (xs++(rk B x os).map j8))→D.nx [aa (.ref a),y1,y2,aa (.ref q),y4,y5] S')→(¬uP B x os→ ∀σ S',Sub S0 S'→E "TooGreat" σ S')→
  nI (mU 4) (FR r nc) E D G (os.map j8) [aa (.ref a),y1,y2,aa (.ref q),y4,y5] S
 | [],x,t,hx,ex,hR,hs,hg=>λxs S y1 y2 y4 y5 hl sb hq h _=>h trivial S _ _ sb hq
 |o::os,x,t,hx,ex,⟨r1,r2,r3⟩,hs,hg=>by
  intro xs S y1 y2 y4 y5 hl sb hq h hE;have cl:vg ws B x o:=⟨K,hx,r1,by rw[ex,r2],by rw[r2];exact hs⟩
  have m:=K.moved hx r1 cl.e;have go:=hg o aI;rw[az];rw[aT]at hl;refine rJ λN hN=>?_;rw[sj,FR];rw[KS];ext;rw[nG hq,Db];dsimp only;obtain⟨r',er⟩:∃r',r=r'+2:=⟨r - 2,`l⟩
  rw[er];refine cl.ok_move (r:=r'+1) (sb _ _ ha) `l ?_;rw[J6];ext;refine⟨`d,λv hv=>?_⟩;have sv:Sub S0 (bQ S v (Ob.bJ [j8 (res B x o)])):=sb.trans (.bQ .refl hv);refine EH (xs:=[res B x o]) (t:=b9 B o) K (sv _ _ ha) nv ⟨m.wy,m.sr,trivial⟩ go `l (λk=>?_) λ⟨u,hu,e⟩=>?_
  ·have k0:=k _ aI;rw[J4];ext;have fq:=keep (x:=Ob.bJ [j8 (res B x o)]) hq hv;rw[nG fq,nG fq];refine⟨trivial,qJ (by rw[aW,bZ];lia),?_⟩;have sb2:Sub S0 (bQ (bQ S v (Ob.bJ [j8 (res B x o)])) q (.bJ (xs++[j8 x]++[j8 (res B x o)]))):= .bQ sv h0;refine hN _ _ _ .refl (hG _ sb2) (OU K ha h0 hG hr os m.wy m.sr r3 go (λu hu=>hg u (aG _ hu)) (xs++[j8 x]) (by rw[aW,bZ];lia) sb2 nv (λlk S' z4 z5 s' hq'=>?_) λnk=>hE λlk=>nk lk.2);refine h ⟨k0,lk⟩ S' z4 z5 s' ?_;rw[hq',rk,az];simp
  ·rw[bg.mp hu]at e;exact hE (λlk=>by rw[lk.1]at e;cases e) _ _ sv
def ZM{S:kB}{x t:Tr}{os:List Tr}{Q:WK}{X:ah→kB→Prop}(K:Bk3 ws B) (ha:S a=aa (.bJ (B.map nz))) (hl:S l=aa (.bJ (os.map j8))) (hx:Wy ws B x) (ex:ak B x=t) (hR:ov ws B t os) (hs:t.aE=true) (hg:∀o∈os,(b9 B o).aE=true) (hn:os.length≤800) (hr:64≤r)
  (h:uP B x os→ ∀S' q,Sub S S'→S q=none→S' q=aa (.bJ ((rk B x os).map j8))→Q (.ref q) S') (hX:¬uP B x os→ ∀S',Sub S S'→X "TooGreat" S'):yn (r+1) [.ref a,j8 x, .ref l] S Q X:=by
 rw[yn,u0];refine⟨rfl,?_⟩;rw[Kh];ext;refine⟨`d,λq hq=>?_⟩;rw[Hl];ext;rw[nG (keep hl hq)];refine OU K ha hq (λS' sb=>sb _ _ hl) hr os hx ex hR hs hg [] (by simp;lia) (.bQ .refl hq) nv (λlk S' y4 y5 sb hq'=>?_) λnk σ S' sb=>hX nk S' sb;rw[L3];ext;exact⟨_, .refl,h lk S' q sb hq (by rw[hq',aM])⟩
def Sh.of (K:Bk3 ws B) (h:Wy ws B x):Sh ws B (ak B x):=⟨(K.ak h).1,(K.ak h).2.1⟩
theorem EZ:∀{qs:List (List Int)}{ts:List Tr},qs.length=ts.length→(∀(i:Nat) q t,qs[i]? =aa q→ts[i]? =aa t→Wi B wn n (p++q) t t)→qi B wn n p qs ts ts
 | [],[],_,_=> .nil
 |q::qs,t::ts,h,f=> .cons (f 0 q t rfl rfl) (EZ (by simpa using h) λi q t h1 h2=>f (i+1) q t (by simpa using h1) (by simpa using h2))
 | [],t::ts,h,f=>by simp at h
 |q::qs,[],h,f=>by simp at h
theorem ER (K:Bk3 ws B):∀(n:Nat) (v:Tr) (p:List Int),v.depth≤n→Sh ws B v→(∀r,p++r∉wn)→Wi B wn n p v v
 |0,v,p,hd,h,hn=>by have:=qK v;lia
 |n+1,v,p,hd,h,hn=>by
  obtain⟨s,ts,rfl,_,e,k⟩:=h.cases K;rw[Tr.depth]at hd;refine .no (by simpa using hn []) e (EZ `s λi q t h1 h2=>?_);have hm:t∈ts:=aN h2;have:=p_ hm;exact ER K n t (p++q) `l (k t hm) λr=>by rw[bE];exact hn _
theorem NA:∀{qs:List (List Int)}{ts us:List Tr},qs.length=ts.length→us.length=ts.length→(∀(i:Nat) q t u,qs[i]? =aa q→ts[i]? =aa t→us[i]? =aa u→Wi B wn n (p++q) t u)→qi B wn n p qs ts us
 | [],[],[],_,_,_=> .nil
 |q::qs,t::ts,u::us,h,h',f=> .cons (f 0 q t u rfl rfl rfl) (NA (by simpa using h) (by simpa using h') λi q t u h1 h2 h3=>f (i+1) q t u (by simpa using h1) (by simpa using h2) (by simpa using h3))
 | [],t::ts,_,h,_,f=>by simp at h
 |q::qs,[],_,h,_,f=>by simp at h
 |_,t::ts,[],_,h,f=>by simp at h
 |_,[],u::us,_,h,f=>by simp at h
structure wF (B:List Tn):Prop where
  op:∀t∈B,∀us:List Tr,us.length=t.2.1.nb→pR B (t.2.1.aD us)=aa t
  lf:∀t∈B,∃n h c d,t.2.1∈bH n h c d
theorem EC{B:List Tn}{wn:List (List Int)}{n:Nat}{p:List Int}(f:∀{p:List Int}{t u:Tr},Wi B wn n p t u→Wi B wn t.depth p t u):∀(qs:List (List Int)) {ts us:List Tr},qi B wn n p qs ts us→qi B wn (nL ts) p qs ts us
 | [],_,_,h=>by cases h;exact .nil
 |_::qs,_,_,h=>by
  cases h with
  |cons h1 h2=>
   rw[nL];exact .cons ((f h1).mono `l) ((EC f qs h2).mono `l)
def Wi.bd (O:sB B) {n:Nat}:∀{p:List Int}{t u:Tr},Wi B wn n p t u→Wi B wn t.depth p t u:=by
 induction n with
 |zero=>intro p t u h;cases h
 |succ n ih=>
  intro p t u h;cases h with
  |no h1 h2 h3=>rw[Tr.depth,eD];exact .no h1 h2 (EC ih _ h3)
  |yes h1 h2 h3 h4 h5=>rw[Tr.depth,eD];exact .yes h1 h2 h3 h4 ((EC ih _ h5).mono (LC O (bX h2) h3))
structure Ms where
  c0:Nat
  c1:Nat
  k:Tn→Nat→Nat
mutual
noncomputable def Tr.ms (B:List Tn) (m:Ms):Tr→Nat
 | .bl _=>0
 | .nd s ts=>match nF B s with
  |none=>m.c0+m7 B m (λ_=>1) 0 ts
  |some t=>m.c1+m7 B m (m.k t) 0 ts
noncomputable def m7 (B:List Tn) (m:Ms) (f:Nat→Nat) (i:Nat):List Tr→Nat
 | []=>0
 |t::ts=>f i*t.ms B m+m7 B m f (i+1) ts
end
section
variable {B:List Tn}{m:Ms}{f g:Nat→Nat}
def qe (h:nF B s=none):(Tr.nd s ts).ms B m=m.c0+m7 B m (λ_=>1) 0 ts:=by rw[Tr.ms,h]
def qx (h:nF B s=aa t):(Tr.nd s ts).ms B m=m.c1+m7 B m (m.k t) 0 ts:=by rw[Tr.ms,h]
theorem wU:∀(ts:List Tr) (i:Nat),(∀j,f j≤g j)→m7 B m f i ts≤m7 B m g i ts
 | [],i,h=>by rw[m7,m7];exact aA _
 |t::ts,i,h=>by
  rw[m7,m7];have h1:=dB (t.ms B m) (h i);have h2:=wU ts (i+1) h;lia
theorem DQ:∀(ts:List Tr) (i:Nat),m7 B m (λj=>f j+g j) i ts=m7 B m f i ts+m7 B m g i ts
 | [],i=>by rw[m7,m7,m7]
 |t::ts,i=>by
  rw[m7,m7,m7,DQ ts (i+1),cA];lia
theorem KU:∀(ts:List Tr) (i:Nat),m7 B m (λ_=>0) i ts=0
 | [],i=>by rw[m7]
 |t::ts,i=>by rw[m7,KU ts (i+1),Nat.zero_mul]
theorem Om:∀(ts:List Tr) (i:Nat) {t:Tr},i≤n→ts[n - i]? =aa t→m7 B m (λj=>if(j:Int)=(n:Int) then 1 else 0) i ts=t.ms B m
 | [],i,t,hi,h=>by simp at h
 |u::ts,i,t,hi,h=>by
  rw[m7];by_cases e:i=n
  ·subst e;rw[gI]at h;cases h;have z:m7 B m (λj=>if(j:Int)=(i:Int) then 1 else 0) (i+1) ts=0:=by
    have:∀(ts:List Tr) (k:Nat),i<k→m7 B m (λj=>if(j:Int)=(i:Int) then 1 else 0) k ts=0:=by
     intro ts
     induction ts with
     |nil=>intro k _;rw[m7]
     |cons u ts ih=>
      intro k hk;rw[m7,ih (k+1) `l];rw[if_neg `l,Nat.zero_mul]
    exact this ts _ `l
   rw[z];simp
  ·have:=Om (n:=n) ts (i+1) (t:=t) `l (by
    rw[show n - i=n - (i+1)+1 by lia,bW]at h
    exact h)
   rw[this,if_neg `l];simp
noncomputable def cn (t:Tr) (j:Nat):Nat:=t.nm.count (j:Int)
mutual
theorem C1{P:ah→Prop}(hP:∀s,P s→nF B s=none):∀t:Tr,t.hb P→t.br us.length→(t.aD us).ms B m=m.c0*t.sg+m7 B m (cn t) 0 us
 | .bl n,h,ft=>by
  rw[Tr.br]at ft;have hl:n.toNat<us.length:=by lia
  rw[Tr.aD,bw,aP hl,fF,Tr.sg,Nat.mul_zero,bI];rw[←Om (m:=m) (B:=B) (n:=n.toNat) us 0 (aU _) (aP hl)];congr 1;funext j;unfold cn;rw[Tr.nm,List.count_singleton,cH ft.1];by_cases e:(j:Int)=n
  ·rw[if_pos e,if_pos (by rw[e];exact beq_self_eq_true _)]
  ·rw[if_neg e,if_neg (λz=>e (by rw[beq_iff_eq]at z;lia))]
 | .nd s ts,h,ft=>by
  rw[Tr.br]at ft;rw[Tr.hb]at h;rw[Tr.aD,qe (hP s h.1),yl hP ts h.2 ft 0,Tr.sg];have:cn (.nd s ts)=λ(j:Nat)=>(ph ts).count (j:Int):=by
   funext j;unfold cn;rw[Tr.nm]
  rw[this,eK,Nat.mul_one];lia
theorem yl{P:ah→Prop}(hP:∀s,P s→nF B s=none):∀ts:List Tr,o6 P ts→ny us.length ts→ ∀i,m7 B m (λ_=>1) i (nN us ts)=m.c0*uk ts+m7 B m (λj=>(ph ts).count (j:Int)) 0 us
 | [],h,ft,i=>by
  have:(λj:Nat=>(ph []).count (j:Int))=λ_=>0:=by
   funext j;rw[ph];rfl
  rw[nN,m7,uk,this,KU];rfl
 |t::ts,h,ft,i=>by
  rw[ny]at ft;rw[o6]at h;have:(λj:Nat=>(ph (t::ts)).count (j:Int))=λj=>cn t j+(ph ts).count (j:Int):=by
   funext j;unfold cn;rw[ph,List.count_append]
  rw[nN,m7,C1 hP t h.1 ft.1,yl hP ts h.2 ft.2 (i+1),uk,this,DQ,cg,eK m.c0 t.sg];lia
end
def La (hB:∀t∈B,qC t.1) (t:Tr) (h:t.hb px) (ft:t.br us.length):(t.aD us).ms B m=m.c0*t.sg+m7 B m (cn t) 0 us:=C1 (λ_=>qh hB) t h ft
end
noncomputable def mF:Ms:=⟨0,1,λt i=>if(i:Int)∈t.2.2.nm then 1 else 0⟩
noncomputable def mM:Ms:=⟨0,1,λt i=>max 1 (cn t.2.2 i)⟩
def mP:Ms:=⟨1,3,λ_ _=>2⟩
mutual
noncomputable def Tr.dm (B:List Tn):Tr→Nat
 | .bl _=>0
 | .nd s ts=>match nF B s with
  |none=>1+ou B ts
  |some _=>3+ou B ts
noncomputable def ou (B:List Tn):List Tr→Nat
 | []=>0
 |t::ts=>max (t.dm B) (ou B ts)
end
section
variable {B:List Tn}
def rO (h:nF B s=none):(Tr.nd s ts).dm B=1+ou B ts:=by rw[Tr.dm,h]
def rT (h:nF B s=aa t):(Tr.nd s ts).dm B=3+ou B ts:=by rw[Tr.dm,h]
theorem N0:∀{ts:List Tr},x∈ts→x.dm B≤ou B ts
 |t::ts,h=>by
  rw[ou];obtain rfl |h:=aB.mp h
  ·lia
  ·have:=N0 h;lia
mutual
theorem Dl{P:ah→Prop}(hP:∀s,P s→nF B s=none):∀t:Tr,t.hb P→t.br us.length→(t.aD us).dm B≤t.sd+ou B us
 | .bl n,h,ft=>by
  rw[Tr.br]at ft;have hl:n.toNat<us.length:=by lia
  rw[Tr.aD,bw,aP hl,fF,Tr.sd,bI];exact N0 (d9 ..)
 | .nd s ts,h,ft=>by
  rw[Tr.br]at ft;rw[Tr.hb]at h;have:=FK hP ts h.2 ft;rw[Tr.aD,rO (hP s h.1),Tr.sd];lia
theorem FK{P:ah→Prop}(hP:∀s,P s→nF B s=none):∀ts:List Tr,o6 P ts→ny us.length ts→ou B (nN us ts)≤sD ts+ou B us
 | [],h,ft=>by rw[nN,ou];lia
 |t::ts,h,ft=>by
  rw[ny]at ft;rw[o6]at h;have h1:=Dl hP t h.1 ft.1;have h2:=FK hP ts h.2 ft.2;rw[nN,ou,sD];lia
end
def Yy (hB:∀t∈B,qC t.1) (t:Tr) (h:t.hb px) (ft:t.br us.length):(t.aD us).dm B≤t.sd+ou B us:=Dl (λ_=>qh hB) t h ft
mutual
theorem FZ:∀t:Tr,t.br us.length→(t.aD us).depth≤t.sd+nL us
 | .bl n,ft=>by
  rw[Tr.br]at ft;have hl:n.toNat<us.length:=by lia
  rw[Tr.aD,bw,aP hl,fF,Tr.sd,bI];exact p_ (d9 ..)
 | .nd s ts,ft=>by
  rw[Tr.br]at ft;have:=K8 ts ft;rw[Tr.aD,Tr.depth,Tr.sd];lia
theorem K8:∀ts:List Tr,ny us.length ts→nL (nN us ts)≤sD ts+nL us
 | [],ft=>by rw[nN,nL];lia
 |t::ts,ft=>by
  rw[ny]at ft;have h1:=FZ t ft.1;have h2:=K8 ts ft.2;rw[nN,nL,sD];lia
end
def SS (hL:L∈bH n h c d):RX L:=by
 have key:∀{M:Tr},M.sg≤3→M.sd≤3→(∀n∈M.nm,M.nm.count n≤2)→RX M:=λh1 h2 h3=>⟨h1,h2,M1 h3⟩;unfold bH at hL;split at hL<;>simp only[aB,bo,or_false]at hL<;>(try rcases hL with rfl |rfl)<;>(try subst hL)<;>exact key (by simp [Tr.sg,uk]) (by simp [Tr.sd,sD]) (by simp only[Tr.nm,ph,aM,bf,b6]<;>decide)
theorem IY (K:Bk3 ws B) (F:wF B):∀(n:Nat) (x:Tr),x.ao≤n→Wy ws B x→(ak B x).ao≤x.ms B mP∧(ak B x).depth≤x.dm B
 |0,x,hn,hx=>by have:=tu x;lia
 |n+1,x,hn,hx=>by
  have sum:∀(ts:List Tr) (f:Nat→Nat) (i:Nat),(∀j,1≤f j)→(∀z∈ts,z.ao≤n∧Wy ws B z)→nB (ts.map (ak B))≤m7 B mP f i ts∧nL (ts.map (ak B))≤ou B ts:=by
   intro ts f
   induction ts with
   |nil=>intro i _ _;simp [nB,nL]
   |cons z ts ih=>
    intro i hf hz;obtain⟨i1,i2⟩:=ih (i+1) hf λw hw=>hz w (aG _ hw);obtain⟨h1,h2⟩:=IY K F n z (hz z aI).1 (hz z aI).2;have h3:=dB (z.ms B mP) (hf i);rw[az,nB,nL,m7,ou];lia
  obtain ⟨s,ts,rfl,_,e,k⟩ |⟨t,ts,ht,rfl,e,hl,k⟩:=Wy.cases K.b hx
  ·rw[Tr.ao]at hn;obtain⟨h1,h2⟩:=sum ts (λ_=>1) 0 (λ_=>aA _) λz hz=>⟨by have:=pk hz;lia,k z hz⟩;have es:ak B (.nd s ts)= .nd s (ts.map (ak B)):=by rw[ak,qD e]
   rw[es,qe e,rO e,Tr.ao,Tr.depth];have h3:mP.c0=1:=rfl;rw[h3];exact⟨`l,`l⟩
  ·rw[Tr.ao]at hn;obtain⟨h1,h2⟩:=sum ts (mP.k t) 0 (λ_=>(by decide:1≤2)) λz hz=>⟨by have:=pk hz;lia,k z hz⟩;have hl':(ts.map (ak B)).length=t.2.1.nb:=by rw[ay,hl]
   have h3:=(K.b.lf t ht).fw _ hl';obtain⟨_,_,_,_,hL⟩:=F.lf t ht;have h4:=FZ (us:=ts.map (ak B)) t.2.1 (by rw[hl'];exact(K.b.lf t ht).br);have h5:=(SS hL).sd;have es:ak B (.nd t.1 ts)=t.2.1.aD (ts.map (ak B)):=by rw[ak,qy e]
   rw[es,qx e,rT e];have h6:mP.c1=3:=rfl;rw[h6];exact⟨`l,`l⟩
end
section
variable {B:List Tn}
def tD:m7 B m (λ_=>2) i ts=2*m7 B m (λ_=>1) i ts:=by
 have:=DQ (B:=B) (m:=m) (f:=λ_=>1) (g:=λ_=>1) ts i;rw[show(λ_:Nat=>2)=λ_=>1+1 from rfl,this];lia
def m_.lfs (b:m_ w0 w1 w2 w3 w4 w5 tt B) (G:oH w0 w1 w2 w3 w4 w5):wF B:=⟨λt ht us hu=>b.open_some G ht hu,λt ht=>by
 obtain⟨n,m,e⟩:=b.lf;have:t.2.1∈bH n w0 w2 w3++bH m w1 w2 w3:=by rw[←e];exact aL.mpr ⟨t,ht,rfl⟩
 obtain z |z:=bu.mp this
 ·exact⟨_,_,_,_,z⟩
 ·exact⟨_,_,_,_,z⟩⟩
end
mutual
theorem Km:∀(t:Tr) (p:List Int),((t.plt p).filter λx=>x.2.isBl).map (λx=>x.2.num)=t.nm
 | .bl n,p=>by simp [Tr.plt,Tr.isBl,Tr.nm,Tr.num]
 | .nd s ts,p=>by
  rw[Tr.plt,j6 (by simp [Tr.isBl]),Tr.nm];exact Oa ts p 0
theorem Oa:∀(ts:List Tr) (p:List Int) (i:Nat),((o_ p i ts).filter λx=>x.2.isBl).map (λx=>x.2.num)=ph ts
 | [],p,i=>by simp [o_,ph]
 |t::ts,p,i=>by rw[o_,ja,bC,Km t,Oa ts,ph]
end
def Gq (t:Tr):t.nums=t.nm:=Km t []
noncomputable def uS (B:List Tn) (ns:List Int):Nat→List Tr→List Int
 |_,[]=>[]
 |i,t::ts=>if ns.contains (i:Int) then(t.ms B mF:Int)::uS B ns (i+1) ts else uS B ns (i+1) ts
theorem J8:∀(ts:List Tr) (i:Nat),(uS B t.2.2.nm i ts).sum=(m7 B mF (mF.k t) i ts:Nat)∧(uS B t.2.2.nm i ts).length≤ts.length
 | [],i=>by rw[uS,m7];exact⟨rfl,aA _⟩
 |u::ts,i=>by
  obtain⟨h1,h2⟩:=J8 (t:=t) ts (i+1);rw[uS,m7];have hk:mF.k t i=if(i:Int)∈t.2.2.nm then 1 else 0:=rfl;by_cases m:(i:Int)∈t.2.2.nm
  ·rw[if_pos (hU.mpr m),fy,h1,hk,if_pos m];refine⟨by push_cast;lia,by simp;lia⟩
  ·rw[if_neg (λz=>m (hU.mp z)),h1,hk,if_neg m];refine⟨by push_cast;lia,by simp;lia⟩
noncomputable def vA (B:List Tn) (ns:List Int):Nat→List Tr→List Int
 |_,[]=>[]
 |i,t::ts=>(max 1 (ns.count (i:Int))*t.ms B mM:Nat)::vA B ns (i+1) ts
theorem NT:∀(ts:List Tr) (i:Nat),(vA B t.2.2.nm i ts).sum=(m7 B mM (mM.k t) i ts:Nat)∧(vA B t.2.2.nm i ts).length≤ts.length
 | [],i=>by rw[vA,m7];exact⟨rfl,aA _⟩
 |u::ts,i=>by
  obtain⟨h1,h2⟩:=NT (t:=t) ts (i+1);rw[vA,m7,fy,h1];have hk:mM.k t i=max 1 (t.2.2.nm.count (i:Int)):=rfl;rw[hk];refine⟨by push_cast;rfl,by simp;lia⟩
theorem Gh{G:kB→Prop}{Q:List W→kB→Prop}(hG:G S) (hf:S f=aa (.bJ (ns.map W.int))):∀(ts:List Tr) (i:Nat) (acc:List Int) (x0 x1:Option W),(∀t∈ts,∀{Q:WK}{E:ah→kB→Prop},Q (.int (t.ms B mF:Nat)) S→tI r [.ref a,j8 t] S Q E)→acc.length+ts.length≤100000→Q ((acc++uS B ns i ts).map W.int) S→
  qw (p6 (ow (mU 0) (ow (mU 1) pS))) (n_ (kD (uy false) (iu 0) (iu 3))) (EY r (tI r)) E G Q (nums i (af ts)) (acc.map W.int) [x0,x1,aa (.ref a),aa (.ref f)] S
 | [],i,acc,x0,x1,one,hl,h=>by
  simp only[af,nums,qw];rw[uS,bf]at h;exact h
 |t::ts,i,acc,x0,x1,one,hl,h=>by
  rw[aT]at hl;simp only[af,nums,qw];left;rw[nG hf,Mx];rw[uS]at h;cases e:ns.contains (i:Int) with
  |true=>
   rw[e,if_pos rfl]at h;dsimp only;rw[if_pos rfl];unfold EY;left;refine one t aI ⟨qJ (by rw[ay];lia),S, .refl,hG,?_⟩;have e2:acc.map W.int++[W.int (t.ms B mF:Nat)]=(acc++[((t.ms B mF:Nat):Int)]).map W.int:=by rw[bC];rfl
   rw[e2];exact Gh hG hf ts (i+1) _ _ _ (λu hu=>one u (aG _ hu)) (by rw[aW];simp;lia) (by rw[bE];exact h)
  |false=>
   rw[e,if_neg `d]at h;dsimp only;rw[if_neg `d];exact⟨S, .refl,hG,Gh hG hf ts (i+1) _ _ _ (λu hu=>one u (aG _ hu)) `l h⟩
theorem Hk{G:kB→Prop}{Q:List W→kB→Prop}(hG:G S):∀(ts:List Tr) (i:Nat) (acc:List Int) (x0:Option W),(∀t∈ts,∀{Q:WK}{E:ah→kB→Prop},Q (.int (t.ms B mF:Nat)) S→tI r [.ref a,j8 t] S Q E)→acc.length+ts.length≤100000→(∀ys:List Int,ys.sum=acc.sum+(m7 B mF (λ_=>1) i ts:Nat)→Q (ys.map W.int) S)→
  qw (mU 0) pe (DE r (tI r)) E G Q (af ts) (acc.map W.int) [x0,aa (.ref a)] S
 | [],i,acc,x0,one,hl,h=>by
  simp only[af,qw];exact h acc (by rw[m7];simp)
 |t::ts,i,acc,x0,one,hl,h=>by
  rw[aT]at hl;simp only[af,qw];left;unfold DE;left;refine one t aI ⟨qJ (by rw[ay];lia),S, .refl,hG,?_⟩;have e2:acc.map W.int++[W.int (t.ms B mF:Nat)]=(acc++[((t.ms B mF:Nat):Int)]).map W.int:=by rw[bC];rfl
  rw[e2];refine Hk hG ts (i+1) _ _ (λu hu=>one u (aG _ hu)) (by rw[aW];simp;lia) λys e=>h ys ?_;rw[e,m7,jZ,cg]
  push_cast
  simp only[fy,List.sum_nil];lia
theorem D1 (b:oP ws ws B):∀(d:Nat) {x:Tr}{r:Nat}{S:kB}{Q:WK}{E:ah→kB→Prop},x.depth≤d→d+15≤r→S a=aa (.bJ (B.map nz))→Wy ws B x→x.ao≤1000→Q (.int (x.ms B mF:Nat)) S→tI (r+1) [.ref a,j8 x] S Q E
 |0,x,r,S,Q,E,hd,hr,ha,hx,hw,h=>by have:=qK x;lia
 |d+1,x,r,S,Q,E,hd,hr,ha,hx,hw,h=>by
  right
  obtain ⟨s,ts,rfl,_,e,k⟩ |⟨t,ts,ht,rfl,e,hl,k⟩:=Wy.cases b hx
  ·rw[Tr.depth]at hd;rw[Tr.ao]at hw;have hwl:=qX ts;rw[qe e]at h;rw[tI];simp only[j8];left;refine uc ha ?_;rw[e,oW];left;refine Hk (B:=B) (a:=a) trivial ts 0 [] none (λu hu {Q E} q=>?_) (by simp;lia) λys ey=>?_
   ·exact D1 b d (by have:=p_ hu;lia) `l ha (k u hu) (by have:=pk hu;lia) q
   ·rw[vQ];refine⟨S, .refl,?_⟩;rw[ey];simpa [mF]using h
  ·rw[Tr.depth]at hd;rw[Tr.ao]at hw;have hwl:=qX ts;rw[qx e]at h;rw[tI];simp only[j8];left;refine uc ha ?_;rw[e,oW];simp only[nz];left;rw[show nW [W.str t.1,j8 t.2.1,j8 t.2.2] 2=aa (j8 t.2.2) from rfl];dsimp only;have rr:=b.ri t ht;have r4:=rr.dp;have r7:=rr.wt;refine ME `l `l λf hf=>?_;rw[Ie,Gq];have fa:=keep (x:=Ob.bJ (t.2.2.nm.map W.int)) ha hf;have ff:bQ S f (Ob.bJ (t.2.2.nm.map W.int)) f=aa (.bJ (t.2.2.nm.map W.int)):=nv;have sb:Sub S (bQ S f (Ob.bJ (t.2.2.nm.map W.int))):= .bQ .refl hf;generalize bQ S f (Ob.bJ (t.2.2.nm.map W.int))=S1 at fa ff sb⊢;obtain⟨q1,q2⟩:=J8 (B:=B) (t:=t) ts 0;refine Gh (B:=B) (a:=a) trivial ff ts 0 [] none none (λu hu {Q E} q=>?_) (by simp;lia) ?_
   ·exact D1 b d (by have:=p_ hu;lia) `l fa (k u hu) (by have:=pk hu;lia) q
   ·rw[aM,vQ];refine⟨S,sb,?_⟩;rw[q1];have:((mF.c1+m7 B mF (mF.k t) 0 ts:Nat):Int)=1+((m7 B mF (mF.k t) 0 ts:Nat):Int):=by
     have h2:mF.c1=1:=rfl;rw[h2]
     push_cast
     rfl
    rw[←this];exact h
theorem Lp{G:kB→Prop}{Q:List W→kB→Prop}(hG:G S) (hf:S f=aa (.bJ (ns.map W.int))) (hn:ns.length≤1000):∀(ts:List Tr) (i:Nat) (acc:List Int) (x0 x1:Option W),(∀t∈ts,∀{Q:WK}{E:ah→kB→Prop},Q (.int (t.ms B mM:Nat)) S→t7 r [.ref a,j8 t] S Q E)→acc.length+ts.length≤100000→Q ((acc++vA B ns i ts).map W.int) S→
  qw (p6 (ow (mU 0) (ow (mU 1) pS))) pe (DN r (t7 r)) E G Q (nums i (af ts)) (acc.map W.int) [x0,x1,aa (.ref a),aa (.ref f)] S
 | [],i,acc,x0,x1,one,hl,h=>by
  simp only[af,nums,qw];rw[vA,bf]at h;exact h
 |t::ts,i,acc,x0,x1,one,hl,h=>by
  rw[aT]at hl;simp only[af,nums,qw];left;unfold DN;left;rw[X5];rw[vA]at h;simp only[nG hf];refine⟨trivial,ns,vQ ns,?_⟩;left;refine one t aI ?_;left;have hc:ns.count (i:Int)≤ns.length:=List.count_le_length;have em:(if((ns.count (i:Int):Nat):Int) > 1 then((ns.count (i:Int):Nat):Int) else 1)=((max 1 (ns.count (i:Int)):Nat):Int):=by split<;>lia
  rw[em];refine⟨.inl ⟨`l,`l⟩,qJ (by rw[ay];lia),S, .refl,hG,?_⟩
  have e2:acc.map W.int++[W.int (((max 1 (ns.count (i:Int)):Nat):Int)*(t.ms B mM:Nat))]=(acc++[((max 1 (ns.count (i:Int))*t.ms B mM:Nat):Int)]).map W.int:=by
   rw[bC]
   push_cast
   rfl
  rw[e2];exact Lp hG hf hn ts (i+1) _ _ _ (λu hu=>one u (aG _ hu)) (by rw[aW];simp;lia) (by rw[bE];exact h)
theorem KG{G:kB→Prop}{Q:List W→kB→Prop}(hG:G S):∀(ts:List Tr) (i:Nat) (acc:List Int) (x0:Option W),(∀t∈ts,∀{Q:WK}{E:ah→kB→Prop},Q (.int (t.ms B mM:Nat)) S→t7 r [.ref a,j8 t] S Q E)→acc.length+ts.length≤100000→(∀ys:List Int,ys.sum=acc.sum+(m7 B mM (λ_=>1) i ts:Nat)→Q (ys.map W.int) S)→
  qw (mU 0) pe (DV r (t7 r)) E G Q (af ts) (acc.map W.int) [x0,aa (.ref a)] S
 | [],i,acc,x0,one,hl,h=>by
  simp only[af,qw];exact h acc (by rw[m7];simp)
 |t::ts,i,acc,x0,one,hl,h=>by
  rw[aT]at hl;simp only[af,qw];left;unfold DV;left;refine one t aI ⟨qJ (by rw[ay];lia),S, .refl,hG,?_⟩;have e2:acc.map W.int++[W.int (t.ms B mM:Nat)]=(acc++[((t.ms B mM:Nat):Int)]).map W.int:=by rw[bC];rfl
  rw[e2];refine KG hG ts (i+1) _ _ (λu hu=>one u (aG _ hu)) (by rw[aW];simp;lia) λys e=>h ys ?_;rw[e,m7,jZ,cg]
  push_cast
  simp only[fy,List.sum_nil];lia
theorem Ee (b:oP ws ws B):∀(d:Nat) {x:Tr}{r:Nat}{S:kB}{Q:WK}{E:ah→kB→Prop},x.depth≤d→d+15≤r→S a=aa (.bJ (B.map nz))→Wy ws B x→x.ao≤1000→Q (.int (x.ms B mM:Nat)) S→t7 (r+1) [.ref a,j8 x] S Q E
 |0,x,r,S,Q,E,hd,hr,ha,hx,hw,h=>by have:=qK x;lia
 |d+1,x,r,S,Q,E,hd,hr,ha,hx,hw,h=>by
  right
  obtain ⟨s,ts,rfl,_,e,k⟩ |⟨t,ts,ht,rfl,e,hl,k⟩:=Wy.cases b hx
  ·rw[Tr.depth]at hd;rw[Tr.ao]at hw;have hwl:=qX ts;rw[qe e]at h;rw[t7];simp only[j8];left;refine uc ha ?_;rw[e,oW];left;refine KG (B:=B) (a:=a) trivial ts 0 [] none (λu hu {Q E} q=>?_) (by simp;lia) λys ey=>?_
   ·exact Ee b d (by have:=p_ hu;lia) `l ha (k u hu) (by have:=pk hu;lia) q
   ·rw[vQ];refine⟨S, .refl,?_⟩;rw[ey];simpa [mM]using h
  ·rw[Tr.depth]at hd;rw[Tr.ao]at hw;have hwl:=qX ts;rw[qx e]at h;rw[t7];simp only[j8];left;refine uc ha ?_;rw[e,oW];simp only[nz];left;rw[show nW [W.str t.1,j8 t.2.1,j8 t.2.2] 2=aa (j8 t.2.2) from rfl];dsimp only;have rr:=b.ri t ht;have r4:=rr.dp;have r7:=rr.wt;refine ME `l `l λf hf=>?_;rw[Ie,Gq];have fa:=keep (x:=Ob.bJ (t.2.2.nm.map W.int)) ha hf;have ff:bQ S f (Ob.bJ (t.2.2.nm.map W.int)) f=aa (.bJ (t.2.2.nm.map W.int)):=nv;have sb:Sub S (bQ S f (Ob.bJ (t.2.2.nm.map W.int))):= .bQ .refl hf;generalize bQ S f (Ob.bJ (t.2.2.nm.map W.int))=S1 at fa ff sb⊢;obtain⟨q1,q2⟩:=NT (B:=B) (t:=t) ts 0;refine Lp (B:=B) (a:=a) trivial ff (by have:=Tc t.2.2;rw[Gq]at this;lia) ts 0 [] none none (λu hu {Q E} q=>?_) (by simp;lia) ?_
   ·exact Ee b d (by have:=p_ hu;lia) `l fa (k u hu) (by have:=pk hu;lia) q
   ·rw[aM,vQ];refine⟨S,sb,?_⟩;rw[q1];have:((mM.c1+m7 B mM (mM.k t) 0 ts:Nat):Int)=1+((m7 B mM (mM.k t) 0 ts:Nat):Int):=by
     have h2:mM.c1=1:=rfl;rw[h2]
     push_cast
     rfl
    rw[←this];exact h
theorem IW:∀(ts:List Tr) (k i:Nat) {w:Tr},ts[i]? =aa w→y∈w.op B (p++[((k+i:Nat):Int)])→y∈pD B p k ts
 | [],k,i,w,e,h=>by simp at e
 |t::ts,k,0,w,e,h=>by
  rw[iy]at e;cases e;rw[pD];exact eJ _ h
 |t::ts,k,i+1,w,e,h=>by
  rw[bW]at e;rw[pD];refine cc _ (IW ts (k+1) i e ?_);rw[show k+1+i=k+(i+1) by lia]
  exact h
theorem Lg:∀(q:List Int) {t v:Tr}{p:List Int}{u:Tn},t.at q=aa v→pR B v=aa u→v.isBl=false→(p++q,u.1)∈t.op B p
 | [],t,v,p,u,h,ho,hb=>by
  rw[qU]at h;cases h;cases t with
  |bl n=>cases hb
  |nd s ts=>
   rw[Tr.op,ho,bf];exact eJ _ aI
 |i::q, .bl n,v,p,u,h,ho,hb=>by cases h
 |i::q, .nd s ts,v,p,u,h,ho,hb=>by
  obtain⟨w,h0,h1,h2⟩:=rm h;obtain⟨j,rfl⟩:∃j:Nat,i=j:=⟨i.toNat,(cH h0).symm⟩;rw[bn]at h1;rw[Tr.op];refine cc _ (IW ts 0 j h1 ?_);have:=Lg q (p:=p++[(j:Int)]) h2 ho hb;rw[bI];rw[bE]at this;exact this
mutual
theorem zA:∀x:Tr,x.dM=true→x.hd px
 | .bl n,h=>by rw[Tr.dM]at h;cases h
 | .nd s ts,h=>by
  rw[Tr.dM,bN]at h;rw[Tr.hd];exact⟨(CA s).mp h.1,Ov ts h.2⟩
theorem Ov:∀ts:List Tr,rF ts=true→hds px ts
 | [],h=>by rw[hds];trivial
 |t::ts,h=>by
  rw[rF,bN]at h;rw[hds];exact⟨zA t h.1,Ov ts h.2⟩
end
def nU.up (hv:∀x∈vs,x∈ws) (h:nU vs B p):nU ws B p:=by
 induction h with
 |sign hh _ ih=>exact .sign (hv _ hh) ih
 |turn e hl b0 b1 _ ih=>exact .turn e hl b0 b1 ih
section
variable {ws:List ah}{B:List Tn}
def Ql (K:Bk3 ws B) {t:Tn}(ht:t∈B) {i:Nat}{e:List Int}(h:(t.2.1.bls.map λx=>x.1)[i]? =aa e):e≠ []:=by
 rintro rfl;obtain⟨b,hb,h0⟩:=aL.mp (aN h);have ha:=(xY hb).1;rw[h0,qU,(xY hb).2.1]at ha;obtain⟨z0,ls,ez,_⟩:=K.O.inn t ht;rw[ez]at ha;cases ha
end
def Oi{n:Nat}{h c d:ah}{L:Tr}(hL:L∈bH n h c d) {i:Nat}{e:List Int}(he:(L.bls.map λx=>x.1)[i]? =aa e):L.at e=aa (.bl i):=by
 unfold bH at hL;split at hL<;>simp only[aB,bo,or_false]at hL
 ·subst hL;rw[YH]at he;obtain _ |i:=i
  ·cases he;rfl
  ·cases he
 ·subst hL;rw[Yp]at he;obtain _ |_ |i:=i
  ·cases he;rfl
  ·cases he;rfl
  ·cases he
 ·obtain rfl |rfl:=hL
  ·rw[XB]at he;cases he
  ·rw[ZL]at he;obtain _ |i:=i
   ·cases he;rfl
   ·cases he
 ·obtain rfl |rfl:=hL
  ·rw[Yc]at he;obtain _ |i:=i
   ·cases he;rfl
   ·cases he
  ·rw[VL]at he;obtain _ |_ |i:=i
   ·cases he;rfl
   ·cases he;rfl
   ·cases he
 ·obtain rfl |rfl:=hL
  ·rw[QL]at he;obtain _ |_ |_ |i:=i
   ·cases he;rfl
   ·cases he;rfl
   ·cases he;rfl
   ·cases he
  ·rw[Yv]at he;obtain _ |_ |i:=i
   ·cases he;rfl
   ·cases he;rfl
   ·cases he
 ·subst hL;rw[Tl]at he;cases he
theorem zn:∀(e:List Int) {L:Tr}{n:Int},L.at e=aa (.bl n)→L.br us.length→(L.aD us).at e=us[n.toNat]?
 | [],L,n,h,ft=>by
  rw[qU]at h;cases h;rw[Tr.br]at ft;rw[Tr.aD,qU,bw,aP (show n.toNat<us.length by lia)]
  rfl
 |i::e, .bl k,n,h,ft=>by cases h
 |i::e, .nd s ls,n,h,ft=>by
  obtain⟨w,h0,h1,h2⟩:=rm h;rw[Tr.br]at ft;obtain⟨j,rfl⟩:∃j:Nat,i=j:=⟨i.toNat,(cH h0).symm⟩;rw[bn]at h1;have e1:(nN us ls)[j]? =aa (w.aD us):=by rw[yz,aV,h1];rfl
  rw[Tr.aD,t_ e1];exact zn e h2 (zO ft (aN h1))
theorem NO:∀(q:List Int) {X v:Tr},X.at q=aa v→X.bQ q v=X
 | [],X,v,h=>by
  rw[qU]at h;cases h;exact yh _ _
 |i::q, .bl n,v,h=>by cases h
 |i::q, .nd s ts,v,h=>by
  obtain⟨w,h0,h1,h2⟩:=rm h;rw[xC h1,NO q h2];congr 1;exact kj λj=>by
   rw[lI];split
   ·rename_i e;rw[←e,h1];simp [(cj.mp h1).1]
   ·rfl
theorem xa:∀(q:List Int) {X v:Tr},X.at q=aa v→q.length+v.depth≤X.depth
 | [],X,v,h=>by
  rw[qU]at h;cases h;simp
 |i::q, .bl n,v,h=>by cases h
 |i::q, .nd s ts,v,h=>by
  obtain⟨w,h0,h1,h2⟩:=rm h;have:=xa q h2;have:=p_ (aN h1);rw[Tr.depth,aT];lia
def Sh.sig (K:Bk3 ws B) (h:Sh ws B X):X.hd px:=zA _ (h.dM K)
def Sh.mkq (K:Bk3 ws B) (h:Sh ws B X) (g:Tn→Tr):X.mk B g=X:=Di K.b.ti _ (h.sig K)
def E7 (K:Bk3 ws B) {ts:List Tr}(h:∀t∈ts,Sh ws B t) (g:Tn→Tr):ts.map (Tr.mk B g)=ts:=by
 rw[c7 (g:=id) λt ht=>(h t ht).mkq K g,List.map_id]
theorem Ez (K:Bk3 ws B) (g:Tn→Tr) {u:Tr}:∀(q:List Int) {X v:Tr},Sh ws B X→X.at q=aa v→(X.bQ q u).mk B g=X.bQ q (u.mk B g)
 | [],X,v,hs,h=>by rw[yh,yh]
 |i::q, .bl n,v,hs,h=>by cases h
 |i::q, .nd s ts,v,hs,h=>by
  obtain⟨w,h0,h1,h2⟩:=rm h;obtain⟨s',ts',e,_,e2,k⟩:=hs.cases K;cases e;rw[xC h1,xC h1,qD e2,List.map_set,E7 K k,Ez K g q (k w (aN h1)) h2]
theorem Na (hu:Wy ws B u):∀(q:List Int) {X v:Tr},Wy ws B X→X.at q=aa v→Wy ws B (X.bQ q u)
 | [],X,v,hs,h=>by rw[yh];exact hu
 |i::q, .bl n,v,hs,h=>by cases h
 |i::q, .nd s ts,v,hs,h=>by
  obtain⟨w,h0,h1,h2⟩:=rm h;rw[xC h1];refine hs.re `s λz hz=>?_;obtain q' |rfl:=List.mem_or_eq_of_mem_set hz
  ·exact hs.cX z q'
  ·exact Na hu q (hs.cX w (aN h1)) h2
structure Ou (ws:List ah) (B:List Tn) (X:Tr) (q:List Int) (t:Tn) (us:List Tr):Prop where
  ht:t∈B
  hl:us.length=t.2.1.nb
  hat:X.at q=aa (t.2.1.aD us)
  sh:∀u∈us,Sh ws B u
def Ou.tt (K:Bk3 ws B) (o:Ou ws B X q t us):nF B t.1=aa t:=rK K.b.nd o.ht
def Ou.wys (K:Bk3 ws B) (o:Ou ws B X q t us):Wy ws B (.nd t.1 us):=by
 refine⟨?_,?_⟩
 ·rw[Tr.hd,nV];exact⟨.inr ⟨t,o.ht,rfl⟩,λu hu=>(o.sh u hu).wy.hd⟩
 ·rw[Tr.ar,pC];refine⟨λt' e=>?_,λu hu=>(o.sh u hu).wy.ar⟩;rw[o.tt K]at e;cases e;exact o.hl
theorem LI (K:Bk3 ws B) (F:wF B) (ht:t∈B) (hl:us.length=t.2.1.nb) (hu:∀u∈us,Sh ws B u):∀(q:List Int) {X:Tr}(p:List Int),Sh ws B X→X.at q=aa (t.2.1.aD us)→ ∃n,Wi B [p++q] n p X (X.bQ q (.nd t.1 us))
 | [],X,p,hs,h=>by
  rw[qU]at h;cases h;obtain⟨s0,ts0,e3,_⟩:=hs.cases K;have ho:=F.op t ht _ hl;have hm:=K.O.mt t ht _ hl;rw[yh,e3];rw[e3]at ho hm;refine⟨nL us+1, .yes `s ho hm (rK K.b.nd ht) (EZ (by rw[ay,hl,FO]) λi q v h1 h2=>?_)⟩;have hv:v∈us:=aN h2;refine ER K _ _ _ (p_ hv) (hu v hv) λr hr=>?_;have h0:=Ql K ht h1;rw[bf,bg,bE]at hr;have:=congrArg dF hr;simp at this;exact h0 this.1
 |i::q, .bl n,p,hs,h=>by cases h
 |i::q, .nd s ts,p,hs,h=>by
  obtain⟨w,h0,h1,h2⟩:=rm h;obtain⟨s',ts',e,_,e2,k⟩:=hs.cases K;cases e;obtain⟨j,rfl⟩:∃j:Nat,i=j:=⟨i.toNat,(cH h0).symm⟩;rw[bn]at h1;obtain⟨n,hn⟩:=LI K F ht hl hu q (p++[(j:Int)]) (k w (aN h1)) h2;rw[xC (by rw[bn];exact h1),bn];refine⟨(n+nL ts)+1, .no `s e2 (NA `s `s λi' q' t' u' g1 g2 g3=>?_)⟩;have g1':q'=[(i':Int)]:=by
   have hi:=(cj.mp g2).1;rw[aV,gc hi]at g1;cases g1;rfl
  subst g1';have hd:=p_ (aN g2);rw[lI]at g3;by_cases e:j=i'
  ·subst e;rw[h1]at g2;cases g2;rw[if_pos rfl,if_pos (cj.mp h1).1]at g3;cases g3;have:=hn.mono (m:=n+nL ts) `l;rw[bE]at this;exact this
  ·rw[if_neg e,g2]at g3;cases g3;refine ER K _ _ _ `l (k _ (aN g2)) λr hr=>?_;rw[bg,bE,List.append_cancel_left_eq]at hr;simp at hr;lia
theorem MT:∀(ts:List Tr) (k:Nat),y∈pD B p k ts→ ∃(j:Nat) (w:Tr),ts[j]? =aa w∧y∈w.op B (p++[((k+j:Nat):Int)])
 | [],k,h=>by rw[pD]at h;cases h
 |t::ts,k,h=>by
  rw[pD]at h;obtain h |h:=bu.mp h
  ·exact⟨0,t,rfl,h⟩
  ·obtain⟨j,w,e,h'⟩:=MT ts (k+1) h;refine⟨j+1,w,by simpa using e,?_⟩
   rw[show k+(j+1)=k+1+j by lia]
   exact h'
theorem Gc (K:Bk3 ws B):∀(n:Nat) {X:Tr}{p:List Int}{y:List Int×ah},X.depth≤n→Sh ws B X→y∈X.op B p→ ∃q t us,y.1=p++q∧Ou ws B X q t us
 |0,X,p,y,hn,h,hy=>by have:=qK X;lia
 |n+1,X,p,y,hn,h,hy=>by
  obtain⟨s,ts,rfl,_,e,k⟩:=h.cases K;rw[Tr.depth]at hn;rw[Tr.op]at hy;obtain hy |hy:=bu.mp hy
  ·cases eo:pR B (.nd s ts) with
   |none=>rw[eo]at hy;cases hy
   |some t=>
    rw[eo]at hy;rw[bg]at hy;subst hy;have ht:t∈B:=bX eo;have hm:=fj eo;obtain⟨ms,em⟩:=dE.mp hm;obtain⟨p1,p2,p3⟩:=h.parts K ht em;exact⟨[],t,ms,`s,ht,p2,by rw[qU,p1],p3⟩
  ·obtain⟨j,w,ew,hw⟩:=MT ts 0 hy;have hm:=aN ew;obtain⟨q,t,us,e1,o⟩:=Gc K n (by have:=p_ hm;lia) (k w hm) hw;refine⟨(j:Int)::q,t,us,by rw[e1,bI,bE];rfl,o.ht,o.hl,?_,o.sh⟩
   rw[t_ ew];exact o.hat
noncomputable def p5 (X:Tr) (q:List Int) (t:Tn) (us:List Tr):Tr:=X.bQ q (.nd t.1 us)
noncomputable def vc (X:Tr) (q:List Int) (t:Tn) (us:List Tr):Tr:=X.bQ q (t.2.2.aD us)
def Ou.ak (K:Bk3 ws B) (h:Sh ws B X) (o:Ou ws B X q t us):ak B (p5 X q t us)=X:=by
 show(X.bQ q (.nd t.1 us)).mk B _=X;rw[Ez K _ q h o.hat,qy (o.tt K),E7 K o.sh];exact NO q o.hat
def Ou.b9 (K:Bk3 ws B) (h:Sh ws B X) (o:Ou ws B X q t us):b9 B (p5 X q t us)=vc X q t us:=by
 show(X.bQ q (.nd t.1 us)).mk B _=_;rw[Ez K _ q h o.hat,qy (o.tt K),E7 K o.sh];rfl
def Ou.wy (K:Bk3 ws B) (h:Sh ws B X) (o:Ou ws B X q t us):Wy ws B (p5 X q t us):=Na (o.wys K) q h.wy o.hat
def Ou.wi (K:Bk3 ws B) (F:wF B) (h:Sh ws B X) (o:Ou ws B X q t us):Wi B [q] X.depth [] X (p5 X q t us):=by
 obtain⟨n,hn⟩:=LI K F o.ht o.hl o.sh q [] h o.hat;exact hn.bd K.O
def Ou.op (K:Bk3 ws B) (F:wF B) (o:Ou ws B X q t us):q∈(X.op B []).map λx=>x.1:=by
 obtain⟨z,ls,ez,_⟩:=K.O.inn t o.ht;have:=Lg (B:=B) q (p:=[]) o.hat (F.op t o.ht us o.hl) (by rw[ez,Tr.aD];rfl);exact aL.mpr ⟨_,this,`s⟩
noncomputable def hk (w0 w1:ah):List Tn:=[(w0, .bl 0, .bl 0),(w1, .bl 0, .bl 0)]
structure Dr (w0 w1 w2 w3 w4 w5:ah) (tt:List ah) (B:List Tn):Prop where
  c:m3 w0 w1 w2 w3 w4 w5 tt B
  ri:∀t∈B,t.2.2∈p7 w0 w1 w2 w3 w4 w5 t.2.1.nb false
def QH (h0:w0≠s) (h1:w1≠s):nF (hk w0 w1) s=none:=by
 unfold nF hk;simp [h0,h1]
def PJ:∃t,nF (hk w0 w1) w0=aa t:=⟨(w0, .bl 0, .bl 0),by unfold nF hk;simp⟩
def QC:∃t,nF (hk w0 w1) w1=aa t:=by
 by_cases e:w0=w1
 ·subst e;exact PJ
 ·exact⟨(w1, .bl 0, .bl 0),by unfold nF hk;simp [e]⟩
def oH.no (G:oH w0 w1 w2 w3 w4 w5):∀s∈ [w2,w3,w4,w5],nF (hk w0 w1) s=none:=λs hs=>QH (G.n0 s (aG _ hs)) (G.n1 s hs)
def W_ (hm:m≤3) {P:ah→Prop}(hP:∀s∈ [w2,w3,w4,w5],P s):∀t∈p7 w0 w1 w2 w3 w4 w5 m false,t.hb P:=by
 intro t ht;have h2:=hP w2 `s;have h3:=hP w3 `s;have h4:=hP w4 `s;have h5:=hP w5 `s;obtain _ |_ |_ |_ |m:=m
 all_goals first
  |lia
  | (simp only[p7,b6,aM,if_false,cZ,aB,bo,or_false]at ht<;>(try rcases ht with rfl |rfl |rfl |rfl |rfl |rfl |rfl |rfl)<;>(try rcases ht with rfl |rfl |rfl |rfl |rfl |rfl |rfl)<;>(try rcases ht with rfl |rfl |rfl |rfl |rfl |rfl)<;>(try rcases ht with rfl |rfl |rfl |rfl |rfl)<;>(try rcases ht with rfl |rfl |rfl)<;>simp [Tr.hb,o6,h2,h3,h4,h5])
structure O8 (w0 w1:ah) (L:Tr):Prop where
  ex:∃h ls t,L= .nd h ls∧nF (hk w0 w1) h=aa t∧o6 (λs=>nF (hk w0 w1) s=none) ls∧uk ls≤2∧sD ls≤2∧(ph ls).Nodup∧ ∀i:Nat,i<L.nb→(i:Int)∈ph ls
def N2 (ht:nF (hk w0 w1) h=aa t) (h2:nF (hk w0 w1) w2=none) (h3:nF (hk w0 w1) w3=none):∀L∈bH n h w2 w3,O8 w0 w1 L:=by
 intro L hL;have one:∀i:Nat,i<1→(i:Int)∈ [(0:Int)]:=λi hi=>by
  have:i=0:=by lia
  subst this;simp
 have two:∀i:Nat,i<2→(i:Int)∈ [(0:Int),1]:=λi hi=>by
  obtain rfl |rfl:i=0∨i=1:=by lia
  ·simp
  ·simp
 have three:∀i:Nat,i<3→(i:Int)∈ [(0:Int),1,2]:=λi hi=>by
  obtain rfl |rfl |rfl:i=0∨i=1∨i=2:=by lia
  ·simp
  ·simp
  ·simp
 unfold bH at hL;split at hL<;>simp only[aB,bo,or_false]at hL
 all_goals first
  | (subst hL;exact⟨_,_,t,rfl,ht,by simp [o6,Tr.hb,h2,h3],by simp [uk,Tr.sg],by simp [sD,Tr.sd],by simp [ph,Tr.nm],by simp only[Tr.nb,nbs,ph,Tr.nm,b6,aM,bf,fE,bI,kz];first |exact one |exact two |exact three | (intro i hi;lia)⟩)
  | (rcases hL with rfl |rfl<;>exact⟨_,_,t,rfl,ht,by simp [o6,Tr.hb,h2,h3],by simp [uk,Tr.sg],by simp [sD,Tr.sd],by simp [ph,Tr.nm],by simp only[Tr.nb,nbs,ph,Tr.nm,b6,aM,bf,fE,bI,kz];first |exact one |exact two |exact three | (intro i hi;lia)⟩)
def m3.lh (c:m3 w0 w1 w2 w3 w4 w5 tt B) (ht:t∈B):O8 w0 w1 t.2.1:=by
 have h2:=c.G.no w2 `s;have h3:=c.G.no w3 `s;obtain⟨n,z |z⟩:=c.b.mem_lefts ht
 ·obtain⟨u,hu⟩:=PJ (w0:=w0) (w1:=w1);exact N2 hu h2 h3 _ z
 ·obtain⟨u,hu⟩:=QC (w0:=w0) (w1:=w1);exact N2 hu h2 h3 _ z
def m3.nb3 (c:m3 w0 w1 w2 w3 w4 w5 tt B) (ht:t∈B):t.2.1.nb≤3:=(c.bk.lf t ht).nb
def Dr.no (d:Dr w0 w1 w2 w3 w4 w5 tt B) (ht:t∈B):t.2.2.hb λs=>nF (hk w0 w1) s=none:=W_ (d.c.nb3 ht) d.c.G.no _ (d.ri t ht)
def Dr.rx (d:Dr w0 w1 w2 w3 w4 w5 tt B):∀t∈B,RX t.2.2:=λt ht=>IK (d.c.nb3 ht) false _ (d.ri t ht)
mutual
theorem Sj:∀(t:Tr) {i:Nat},(i:Int)∈t.nm→us[i]? =aa u→u.dm H≤(t.aD us).dm H
 | .bl n,i,hi,hu=>by
  rw[Tr.nm,bg]at hi;subst hi;rw[Tr.aD,bn,bw,hu];exact aA _
 | .nd s ts,i,hi,hu=>by
  rw[Tr.nm]at hi;have:=AT (H:=H) ts hi hu;rw[Tr.aD,Tr.dm];split<;>lia
theorem AT:∀(ts:List Tr) {i:Nat},(i:Int)∈ph ts→us[i]? =aa u→u.dm H≤ou H (nN us ts)
 | [],i,hi,hu=>by rw[ph]at hi;cases hi
 |t::ts,i,hi,hu=>by
  rw[ph]at hi;rw[nN,ou];obtain z |z:=bu.mp hi
  ·have:=Sj (H:=H) t z hu;lia
  ·have:=AT (H:=H) ts z hu;lia
end
theorem Bf:∀(us:List Tr),(∀u∈us,u.dm H≤n)→ou H us≤n
 | [],h=>by rw[ou];lia
 |u::us,h=>by
  have:=h u aI;have:=Bf us λv hv=>h v (aG _ hv);rw[ou];lia
def mN:Ms:=⟨0,1,λ_ _=>1⟩
structure Mh (m:Ms):Prop where
  k:m.k=λ_ _=>2
  c:3*m.c0≤m.c1
theorem BH{f g:Nat→Nat}:∀(ts:List Tr) (i:Nat),(∀j,i≤j→j<i+ts.length→f j≤g j)→m7 H m f i ts≤m7 H m g i ts
 | [],i,h=>by rw[m7,m7];exact aA _
 |t::ts,i,h=>by
  rw[aT]at h;rw[m7,m7];have h1:=dB (t.ms H m) (h i (aA _) `l);have h2:=BH (m:=m) (H:=H) ts (i+1) λj h3 h4=>h j `l `l;lia
theorem FN:∀(ts:List Tr) (i:Nat),(∀x∈ts,(b9 B x).ms H m+d*x.ms B mN≤(ak B x).ms H m)→m7 H m (λ_=>1) i (ts.map (b9 B))+d*m7 B mN (λ_=>1) i ts≤m7 H m (λ_=>1) i (ts.map (ak B))
 | [],i,h=>by simp [m7]
 |x::ts,i,h=>by
  have h1:=h x aI;have h2:=FN ts (i+1) λy hy=>h y (aG _ hy);rw[az,az,m7,m7,m7,cg,cg,cg,eK];lia
theorem Dr.ms (d:Dr w0 w1 w2 w3 w4 w5 tt B) (M:Mh m):∀(n:Nat) {x:Tr},x.ao≤n→Wy [w0,w1,w2,w3,w4,w5] B x→(b9 B x).ms (hk w0 w1) m+(m.c1 - 3*m.c0)*x.ms B mN≤(ak B x).ms (hk w0 w1) m
 |0,x,hn,hx=>by have:=tu x;lia
 |n+1,x,hn,hx=>by
  have b:=d.c.K.b;obtain ⟨h,ts,rfl,_,e,k⟩ |⟨t,ts,ht,rfl,e,hl,k⟩:=Wy.cases b hx
  ·rw[Tr.ao]at hn;have ih:=FN (B:=B) (m:=m) (d:=m.c1 - 3*m.c0) (H:=hk w0 w1) ts 0 λy hy=>Dr.ms d M n (by have:=pk hy;lia) (k y hy);have e0:(mN.c0)=0:=rfl;rw[b9,ak,qD e,qD e,qe e,e0,bI];show(Tr.nd h (ts.map (b9 B))).ms (hk w0 w1) m+_≤(Tr.nd h (ts.map (ak B))).ms (hk w0 w1) m;cases eh:nF (hk w0 w1) h with
   |none=>rw[qe eh,qe eh];lia
   |some u=>
    rw[qx eh,qx eh,M.k];show m.c1+m7 _ m (λ_=>2) 0 _+_≤m.c1+m7 _ m (λ_=>2) 0 _;rw[tD,tD];have:(m.c1 - 3*m.c0)*m7 B mN (λ_=>1) 0 ts≤2*((m.c1 - 3*m.c0)*m7 B mN (λ_=>1) 0 ts):=by lia
    lia
  ·rw[Tr.ao]at hn;have ih:=FN (B:=B) (m:=m) (d:=m.c1 - 3*m.c0) (H:=hk w0 w1) ts 0 λy hy=>Dr.ms d M n (by have:=pk hy;lia) (k y hy);have e1:mN.c1=1:=rfl;have rx:=d.rx t ht;have hls:(ts.map (ak B)).length=t.2.1.nb:=by rw[ay,hl]
   have hlg:(ts.map (b9 B)).length=t.2.1.nb:=by rw[ay,hl]
   obtain⟨h,ls,u,eL,eh,hb,_,_,_,nm⟩:=(d.c.lh ht).ex;have fl:=(b.lf t ht).br;have q1:=C1 (B:=hk w0 w1) (m:=m) (λ_ z=>z) (us:=ts.map (b9 B)) t.2.2 (d.no ht) (by rw[hlg];exact(b.ri t ht).br);have q2:m7 (hk w0 w1) m (cn t.2.2) 0 (ts.map (b9 B))≤m7 (hk w0 w1) m (λ_=>2) 0 (ts.map (b9 B)):=wU _ 0 λj=>rx.ct _;rw[tD]at q2;have q3:=rx.sg;have q4:(ak B (.nd t.1 ts)).ms (hk w0 w1) m≥m.c1+2*m7 (hk w0 w1) m (λ_=>1) 0 (ts.map (ak B)):=by
    rw[ak,qy e];show(t.2.1.aD (ts.map (ak B))).ms (hk w0 w1) m≥_;rw[eL,Tr.br]at fl;rw[eL,Tr.aD,qx eh,M.k];show m.c1+m7 _ m (λ_=>2) 0 _≥_;rw[tD,yl (B:=hk w0 w1) (m:=m) (λ_ z=>z) ls hb (by rw[hls,eL];exact fl) 0];have:m7 (hk w0 w1) m (λ_=>1) 0 (ts.map (ak B))≤m7 (hk w0 w1) m (λj=>(ph ls).count (j:Int)) 0 (ts.map (ak B)):=by
     refine BH _ 0 λj _ hj=>iw.mpr (nm j ?_);rw[bI,hls]at hj;exact hj
    lia
   have q5:(b9 B (.nd t.1 ts)).ms (hk w0 w1) m=m.c0*t.2.2.sg+m7 (hk w0 w1) m (cn t.2.2) 0 (ts.map (b9 B)):=by
    rw[←q1,b9,qy e]
   have q6:m.c0*t.2.2.sg≤m.c0*3:=eA _ q3;have q7:(Tr.nd t.1 ts).ms B mN=1+m7 B mN (λ_=>1) 0 ts:=by rw[qx e];rfl
   have q8:=M.c;rw[q5,q7,eK,Nat.mul_one];have:(m.c1 - 3*m.c0)*m7 B mN (λ_=>1) 0 ts≤2*((m.c1 - 3*m.c0)*m7 B mN (λ_=>1) 0 ts):=by lia
   lia
theorem GU:∀(ts:List Tr),(∀x∈ts,(b9 B x).dm H≤(ak B x).dm H)→ou H (ts.map (b9 B))≤ou H (ts.map (ak B))
 | [],h=>by simp
 |x::ts,h=>by
  have h1:=h x aI;have h2:=GU ts λy hy=>h y (aG _ hy);rw[az,az,ou,ou];lia
theorem Dr.dm (d:Dr w0 w1 w2 w3 w4 w5 tt B):∀(n:Nat) {x:Tr},x.ao≤n→Wy [w0,w1,w2,w3,w4,w5] B x→(b9 B x).dm (hk w0 w1)≤(ak B x).dm (hk w0 w1)
 |0,x,hn,hx=>by have:=tu x;lia
 |n+1,x,hn,hx=>by
  have b:=d.c.K.b;obtain ⟨h,ts,rfl,_,e,k⟩ |⟨t,ts,ht,rfl,e,hl,k⟩:=Wy.cases b hx
  ·rw[Tr.ao]at hn;have ih:=GU (B:=B) (H:=hk w0 w1) ts λy hy=>Dr.dm d n (by have:=pk hy;lia) (k y hy);rw[b9,ak,qD e,qD e];show(Tr.nd h (ts.map (b9 B))).dm (hk w0 w1)≤(Tr.nd h (ts.map (ak B))).dm (hk w0 w1);cases eh:nF (hk w0 w1) h with
   |none=>rw[rO eh,rO eh];lia
   |some u=>rw[rT eh,rT eh];lia
  ·rw[Tr.ao]at hn;have ih:=GU (B:=B) (H:=hk w0 w1) ts λy hy=>Dr.dm d n (by have:=pk hy;lia) (k y hy);have rx:=d.rx t ht;have hls:(ts.map (ak B)).length=t.2.1.nb:=by rw[ay,hl]
   have hlg:(ts.map (b9 B)).length=t.2.1.nb:=by rw[ay,hl]
   obtain⟨h,ls,u,eL,eh,hb,_,_,_,nm⟩:=(d.c.lh ht).ex;have q1:=Dl (B:=hk w0 w1) (λ_ z=>z) (us:=ts.map (b9 B)) t.2.2 (d.no ht) (by rw[hlg];exact(b.ri t ht).br);have q3:=rx.sd;have q4:(ak B (.nd t.1 ts)).dm (hk w0 w1)≥3+ou (hk w0 w1) (ts.map (ak B)):=by
    rw[ak,qy e];show(t.2.1.aD (ts.map (ak B))).dm (hk w0 w1)≥_;rw[eL,Tr.aD,rT eh];have:ou (hk w0 w1) (ts.map (ak B))≤ou (hk w0 w1) (nN (ts.map (ak B)) ls):=Bf _ λv hv=>by
     obtain⟨i,hi,ei⟩:=dJ hv;exact AT ls (nm i (by rw[←hls];exact hi)) (by rw[aP hi,ei])
    lia
   have q5:(b9 B (.nd t.1 ts)).dm (hk w0 w1)=(t.2.2.aD (ts.map (b9 B))).dm (hk w0 w1):=by
    rw[b9,qy e]
   rw[q5];lia
mutual
theorem ES:∀{t:Tr},(t.hd λ_=>True)→t.ao≤t.ms H mP∧t.depth≤t.dm H
 | .bl n,h=>by rw[Tr.hd]at h;exact h.elim
 | .nd s ts,h=>by
  rw[Tr.hd]at h;obtain⟨h1,h2⟩:=G_ (H:=H) (f:=λ_=>1) (λ_=>aA _) h.2 0;obtain⟨h3,h4⟩:=G_ (H:=H) (f:=λ_=>2) (λ_=>by lia) h.2 0
  cases e:nF H s with
  |none=>
   rw[qe e,rO e,Tr.ao,Tr.depth];have:mP.c0=1:=rfl;lia
  |some t=>
   rw[qx e,rT e,Tr.ao,Tr.depth];have:mP.c1=3:=rfl;have e2:m7 H mP (mP.k t) 0 ts=m7 H mP (λ_=>2) 0 ts:=rfl;lia
theorem G_{f:Nat→Nat}(hf:∀j,1≤f j):∀{ts:List Tr},hds (λ_=>True) ts→ ∀i,nB ts≤m7 H mP f i ts∧nL ts≤ou H ts
 | [],h,i=>by rw[nB,m7,nL,ou];lia
 |t::ts,h,i=>by
  rw[hds]at h;obtain⟨h1,h2⟩:=ES (H:=H) h.1;obtain⟨h3,h4⟩:=G_ (H:=H) hf h.2 (i+1);have:=mq (t.ms H mP) (hf i);rw[nB,m7,nL,ou];lia
end
structure Cl (w0 w1 w2 w3 w4 w5:ah) (B:List Tn) (X:Tr):Prop where
  sh:Sh [w0,w1,w2,w3,w4,w5] B X
  p:X.ms (hk w0 w1) mP≤400
  q:X.dm (hk w0 w1)≤40
def Cl.sm (h:Cl w0 w1 w2 w3 w4 w5 B X):X.aE=true:=by
 obtain⟨h1,h2⟩:=ES (H:=hk w0 w1) (vW (λ_ _=>trivial) _ h.sh.wy.hd);have:=h.p;have:=h.q;exact B0 `l `l
def Dr.cl (d:Dr w0 w1 w2 w3 w4 w5 tt B) (hx:Wy [w0,w1,w2,w3,w4,w5] B x) (h:Cl w0 w1 w2 w3 w4 w5 B (ak B x)):Cl w0 w1 w2 w3 w4 w5 B (b9 B x):=by
 have h1:=d.ms (m:=mP) ⟨rfl,`d⟩ _ (aA _) hx
 have h2:=d.dm _ (aA _) hx;have h3:=h.p;have h4:=h.q;have:=d.c.K.b9 hx;exact⟨⟨this.1,this.2.1⟩,`l,`l⟩
def mT:Ms:=⟨0,1,λ_ _=>2⟩
mutual
noncomputable def Tr.hn (H:List Tn):Tr→Nat
 | .bl _=>0
 | .nd s ts=>match nF H s with
  |none=>hns H ts
  |some _=>1+hns H ts
noncomputable def hns (H:List Tn):List Tr→Nat
 | []=>0
 |t::ts=>max (t.hn H) (hns H ts)
end
def Iy (h:nF H s=none):(Tr.nd s ts).hn H=hns H ts:=by rw[Tr.hn,h]
def RM (h:nF H s=aa t):(Tr.nd s ts).hn H=1+hns H ts:=by rw[Tr.hn,h]
theorem Ib:∀{ts:List Tr},x∈ts→x.hn H≤hns H ts
 |t::ts,h=>by
  rw[hns];obtain rfl |h:=aB.mp h
  ·lia
  ·have:=Ib (H:=H) h;lia
mutual
theorem YY{P:ah→Prop}(hP:∀s,P s→nF H s=none):∀t:Tr,t.hb P→t.br us.length→(t.aD us).hn H≤hns H us
 | .bl n,h,ft=>by
  rw[Tr.br]at ft;have hl:n.toNat<us.length:=by lia
  rw[Tr.aD,bw,aP hl,fF];exact Ib (d9 ..)
 | .nd s ts,h,ft=>by
  rw[Tr.br]at ft;rw[Tr.hb]at h;rw[Tr.aD,Iy (hP s h.1)];exact GS hP ts h.2 ft
theorem GS{P:ah→Prop}(hP:∀s,P s→nF H s=none):∀ts:List Tr,o6 P ts→ny us.length ts→hns H (nN us ts)≤hns H us
 | [],h,ft=>by rw[nN,hns];lia
 |t::ts,h,ft=>by
  rw[ny]at ft;rw[o6]at h;have h1:=YY hP t h.1 ft.1;have h2:=GS hP ts h.2 ft.2;rw[nN,hns];lia
end
def Wn{m1 m2 s1 s2 a b:Nat}(ha:1≤a) (hb:1≤b) (h1:m1+7≤(s1+7)*a) (h2:m2+7≤(s2+7)*b):m1+m2+7≤(s1+s2+7)*(a*b):=by
 have e1:s1*a≤s1*(a*b):=eA _ (mG _ hb);have e2:s2*b≤s2*(a*b):=eA _ (mq _ ha);have e3:a+b≤a*b+1:=by
  obtain⟨a,rfl⟩:∃a',a=a'+1:=⟨a - 1,`l⟩
  obtain⟨b,rfl⟩:∃b',b=b'+1:=⟨b - 1,`l⟩
  rw[eK,cA];lia
 rw[cA]at h1 h2;rw[cA,cA];lia
def V2 (ha:1≤a) (hb:1≤b) (h1:m1+1≤a) (h2:m2+1≤b):m1+m2+1≤a*b:=by
 have e3:a+b≤a*b+1:=by
  obtain⟨a,rfl⟩:∃a',a=a'+1:=⟨a - 1,`l⟩
  obtain⟨b,rfl⟩:∃b',b=b'+1:=⟨b - 1,`l⟩
  rw[eK,cA];lia
 lia
structure NW (H:List Tn) (B:List Tn) (p:Pl):Prop where
  n:p.nt≤p.wt
  a:(p.ev B zr).ms H mP+7≤(p.wt - p.nt+7)*2 ^ p.nt
  b:(p.ev B zr).ms H mT+1≤2 ^ p.nt
  c:(p.ev B zr).dm H≤p.wt+4*p.nt
  d:(p.ev B zr).hn H≤p.nt
theorem Gm:∀(ps:List Pl),(∀p∈ps,NW H B p)→ ∀i,bt ps≤bB ps∧m7 H mP (λ_=>1) i (ps.map (Pl.ev B zr))+7≤(bB ps - bt ps+7)*2 ^ bt ps∧m7 H mT (λ_=>1) i (ps.map (Pl.ev B zr))+1≤2 ^ bt ps∧ou H (ps.map (Pl.ev B zr))≤bB ps+4*bt ps∧hns H (ps.map (Pl.ev B zr))≤bt ps
 | [],_,i=>by simp [bt,bB,m7,ou,hns]
 |p::ps,h,i=>by
  have q:=h p aI;obtain⟨b1,b2,b3,b4,b5⟩:=Gm ps (λq hq=>h q (aG _ hq)) (i+1);have:=Wn (fQ (n:=p.nt)) (fQ (n:=bt ps)) q.a b2;have t2:=V2 (fQ (n:=p.nt)) (fQ (n:=bt ps)) q.b b3;rw[←gX]at this t2;have h1:=q.n;have h2:=q.c;have h3:=q.d;rw[bt,bB,az,m7,m7,ou,hns,cg,cg];refine⟨`l,?_,t2,`l,`l⟩
  rw[show p.wt+bB ps - (p.nt+bt ps)=p.wt - p.nt+(bB ps - bt ps) by lia]
  exact this
def m3.plh (c:m3 w0 w1 w2 w3 w4 w5 tt B) (h:nU [w2,w3,w4,w5] B p):NW (hk w0 w1) B p:=by
 have b:=c.bk
 induction h with
 | @sign b' h ps hh hp ih=>
  obtain⟨b1,b2,b3,b4,b5⟩:=Gm ps ih 0;have e:=c.G.no h hh;have h1:mP.c0=1:=rfl;have h2:mT.c0=0:=rfl;have h3:=fQ (n:=bt ps);have n1:(Pl.nd (-1) b' h ps).nt=bt ps:=by rw[Pl.nt,if_pos `d,bI]
  have n2:(Pl.nd (-1) b' h ps).wt=1+bB ps:=by rw[Pl.wt]
  refine⟨by rw[n1,n2];lia,?_,?_,?_,?_⟩
  ·rw[n1,n2,pL,qe e,h1,show 1+bB ps - bt ps+7=(bB ps - bt ps+7)+1 by lia,cA]
   lia
  ·rw[n1,pL,qe e,h2];lia
  ·rw[n1,n2,pL,rO e];lia
  ·rw[n1,pL,Iy e];exact b5
 | @turn k b' h ps t e hl b0 b1 hp ih=>
  obtain⟨i1,i2,i3,i4,i5⟩:=Gm ps ih 0;have ht:t∈B:=aN e;have hl':(ps.map (Pl.ev B zr)).length=t.2.1.nb:=by rw[ay,hl]
  obtain⟨z,ls,u,eL,eh,hb,s2,d2,nd,nm⟩:=(c.lh ht).ex;have fl:=(b.lf t ht).br;rw[eL,Tr.br]at fl;have fl':ny (ps.map (Pl.ev B zr)).length ls:=by rw[hl',eL];exact fl
  have ez:rM t (zr b') (ps.map (Pl.ev B zr))= .nd z (nN (ps.map (Pl.ev B zr)) ls):=by
   have:rM t (zr b') (ps.map (Pl.ev B zr))=t.2.1.aD (ps.map (Pl.ev B zr)):=rfl;rw[this,eL,Tr.aD]
  have ct:∀j,(ph ls).count ((j:Nat):Int)≤1:=λj=>ko.mp nd _;have q:∀m:Ms,m7 (hk w0 w1) m (λ_=>1) 0 (nN (ps.map (Pl.ev B zr)) ls)≤m.c0*2+m7 (hk w0 w1) m (λ_=>1) 0 (ps.map (Pl.ev B zr)):=λm=>by
   rw[yl (B:=hk w0 w1) (m:=m) (λ_ z=>z) ls hb fl' 0];have h1:=eA m.c0 s2;have h2:m7 (hk w0 w1) m (λj=>(ph ls).count (j:Int)) 0 (ps.map (Pl.ev B zr))≤m7 (hk w0 w1) m (λ_=>1) 0 (ps.map (Pl.ev B zr)):=wU _ 0 ct;lia
  have qP:=q mP;have qT:=q mT;have c1:mP.c0=1:=rfl;have c2:mT.c0=0:=rfl;rw[c1]at qP;rw[c2]at qT;have n1:(Pl.nd k b' h ps).nt=1+bt ps:=by rw[Pl.nt,if_neg `l]
  have n2:(Pl.nd k b' h ps).wt=1+bB ps:=by rw[Pl.wt]
  have ev:(Pl.nd k b' h ps).ev B zr= .nd z (nN (ps.map (Pl.ev B zr)) ls):=by rw[oE e,ez]
  have p2:2 ^ (1+bt ps)=2*2 ^ bt ps:=by rw[gX,Nat.pow_one]
  refine⟨by rw[n1,n2];lia,?_,?_,?_,?_⟩
  ·rw[n1,n2,ev,qx eh];show 3+m7 _ mP (λ_=>2) 0 _+7≤_;rw[tD,show 1+bB ps - (1+bt ps)+7=bB ps - bt ps+7 by lia,p2,←iR,Nat.mul_comm _ 2,iR]
   lia
  ·rw[n1,ev,qx eh];show 1+m7 _ mT (λ_=>2) 0 _+1≤_;rw[tD,p2];lia
  ·have:=FK (B:=hk w0 w1) (λ_ z=>z) ls hb fl';rw[n1,n2,ev,rT eh];lia
  ·have:=GS (H:=hk w0 w1) (λ_ z=>z) ls hb fl';rw[n1,ev,RM eh];lia
inductive Lo (B:List Tn):Tr→List Int→Tr→Tr→Prop
 |top {t:Tn}{vs:List Tr}:t∈B→vs.length=t.2.1.nb→Lo B (t.2.1.aD vs) [] (.nd t.1 (vs.map (ak B))) (.nd t.1 (vs.map (b9 B)))
 |sgn {h:ah}{as bs:List Tr}{x s y:Tr}{q:List Int}:nF B h=none→Lo B x q s y→Lo B (.nd h (as++x::bs)) ((as.length:Int)::q) (.nd h (as.map (ak B)++s::bs.map (ak B))) (.nd h (as.map (b9 B)++y::bs.map (b9 B)))
 |here {h:ah}{ts:List Tr}{t:Tn}:nF B h=aa t→Lo B (.nd h ts) [] (.nd h (ts.map (ak B))) (t.2.2.aD (ts.map (b9 B)))
 |tit {h:ah}{t:Tn}{as bs:List Tr}{x s y:Tr}{q e:List Int}:nF B h=aa t→(t.2.1.bls.map λx=>x.1)[as.length]? =aa e→Lo B x q s y→Lo B (.nd h (as++x::bs)) (e++q) (t.2.1.aD (as.map (ak B)++s::bs.map (ak B))) (t.2.2.aD (as.map (b9 B)++y::bs.map (b9 B)))
theorem OW{P:ah→Prop}:∀{ls:List Tr},o6 P ls→l∈ls→l.hb P
 |t::ts,h,m=>by
  rw[o6]at h;obtain rfl |m:=aB.mp m
  ·exact h.1
  ·exact OW h.2 m
def Zb (F:wF B) {t:Tn}(ht:t∈B) {e:List Int}{n:Int}(h:t.2.1.at e=aa (.bl n)) (ft:t.2.1.br t.2.1.nb):(t.2.1.bls.map λx=>x.1)[n.toNat]? =aa e∧0≤n:=by
 have hm:(e,Tr.bl n)∈t.2.1.bls:=dA.mpr ⟨by have:=Dc t.2.1 [] e _ h;simpa using this,rfl⟩;obtain⟨i,hi,ei⟩:=dJ hm;have hs:(t.2.1.bls.map λx=>x.1)[i]? =aa e:=by rw[aV,aP hi,ei];rfl
 obtain⟨_,_,_,_,hL⟩:=F.lf t ht;have:=Oi hL hs;rw[h]at this;cases this;exact⟨by rw[bn];exact hs,`l⟩
noncomputable def rz (R:Tr) (i:Nat):List (List Int):=(R.bls.filter λz=>z.2.num == (i:Int)).map λz=>z.1
mutual
noncomputable def Tr.lou (B:List Tn):Tr→List Int→List (List Int)
 | .bl _,_=>[]
 | .nd s ts,q=>match nF B s with
  |some t=>r_ B t 0 ts q
  |none=>match q with
   | []=>[[]]
   |i::q'=>(uT B i.toNat ts q').map (i:: ·)
noncomputable def r_ (B:List Tn) (t:Tn) (i:Nat):List Tr→List Int→List (List Int)
 | [],_=>[]
 |x::xs,q=>(match(t.2.1.bls.map λz=>z.1)[i]? with
  |some e=>if q.take e.length=e then(rz t.2.2 i).flatMap λb=>(x.lou B (q.drop e.length)).map (b++ ·) else []
  |none=>[])++r_ B t (i+1) xs q
noncomputable def uT (B:List Tn):Nat→List Tr→List Int→List (List Int)
 |_,[],_=>[]
 |0,x::_,q=>x.lou B q
 |n+1,_::xs,q=>uT B n xs q
end
mutual
theorem Pn:∀(t:Tr) {i:Int},i∈t.nm→ ∃q,t.at q=aa (.bl i)
 | .bl n,i,h=>by
  rw[Tr.nm,bg]at h;subst h;exact⟨[],qU _⟩
 | .nd s ts,i,h=>by
  rw[Tr.nm]at h;obtain⟨j,t,q,h1,h2⟩:=G3 ts h;exact⟨(j:Int)::q,by rw[t_ h1];exact h2⟩
theorem G3:∀(ts:List Tr) {i:Int},i∈ph ts→ ∃(j:Nat) (t:Tr) (q:List Int),ts[j]? =aa t∧t.at q=aa (.bl i)
 | [],i,h=>by rw[ph]at h;cases h
 |t::ts,i,h=>by
  rw[ph]at h;obtain z |z:=bu.mp h
  ·obtain⟨q,hq⟩:=Pn t z;exact⟨0,t,q,rfl,hq⟩
  ·obtain⟨j,u,q,h1,h2⟩:=G3 ts z;exact⟨j+1,u,q,by rw[bW];exact h1,h2⟩
end
inductive Up (B:List Tn):Tr→List Int→Prop
 |here {h:ah}{ts:List Tr}{t:Tn}:nF B h=aa t→Up B (.nd h ts) []
 |sgn {h:ah}{ts:List Tr}{i:Nat}{x:Tr}{q:List Int}:nF B h=none→ts[i]? =aa x→Up B x q→Up B (.nd h ts) ((i:Int)::q)
 |tit {h:ah}{ts:List Tr}{t:Tn}{i:Nat}{x:Tr}{e q:List Int}:nF B h=aa t→t.2.1.at e=aa (.bl (i:Int))→ts[i]? =aa x→Up B x q→Up B (.nd h ts) (e++q)
def vI (B:List Tn) (L:Tr) (us:List Tr) (q:List Int):Prop:=∃(e:List Int) (i:Nat) (u:Tr) (r:List Int),L.at e=aa (.bl (i:Int))∧us[i]? =aa u∧Up B u r∧q=e++r
def zm (e:nF B h=none):Up B (.nd h ts) q↔ ∃(i:Nat) (x:Tr) (r:List Int),ts[i]? =aa x∧Up B x r∧q=(i:Int)::r:=by
 constructor
 ·intro u;cases u with
  |here e'=>rw[e]at e';cases e'
  |sgn _ h1 h2=>exact⟨_,_,_,h1,h2,rfl⟩
  |tit e'=>rw[e]at e';cases e'
 ·rintro⟨i,x,r,h1,h2,rfl⟩;exact .sgn e h1 h2
def yu (e:nF B h=aa t):Up B (.nd h ts) q↔q=[]∨vI B t.2.1 ts q:=by
 constructor
 ·intro u;cases u with
  |here _=>exact .inl rfl
  |sgn e'=>rw[e]at e';cases e'
  |tit e' h1 h2 h3=>rw[e]at e';cases e';exact .inr ⟨_,_,_,_,h1,h2,h3,rfl⟩
 ·rintro(rfl |⟨e',i,u,r,h1,h2,h3,rfl⟩)
  ·exact .here e
  ·exact .tit e h1 h2 h3
mutual
theorem xv (hB:∀t∈B,qC t.1):∀(R:Tr) (q:List Int),R.hb px→R.br us.length→(Up B (R.aD us) q↔vI B R us q)
 | .bl n,q,h,ft=>by
  rw[Tr.br]at ft;have hl:n.toNat<us.length:=by lia
  obtain⟨k,rfl⟩:∃k:Nat,n=k:=⟨n.toNat,`l⟩
  rw[bn]at hl;rw[Tr.aD,bn,bw,aP hl,fF];constructor
  ·exact λu=>⟨[],k,_,q,qU _,aP hl,u,rfl⟩
  ·rintro⟨e,i,u,r,h1,h2,h3,rfl⟩;cases e with
   |nil=>
    rw[qU]at h1;have:(k:Int)=i:=by simpa using h1
    have:k=i:=by lia
    subst this;rw[aP hl]at h2;cases h2;exact h3
   |cons j e=>cases h1
 | .nd s ts,q,h,ft=>by
  rw[Tr.br]at ft;rw[Tr.hb]at h;have e:=qh hB h.1;rw[Tr.aD,zm e];constructor
  ·rintro⟨i,x,r,h1,h2,rfl⟩;obtain⟨l,e1,e2,h3⟩:=(Gz hB ts h.2 ft i x h1).1;subst e2;obtain⟨e',j,u,r',g1,g2,g3,rfl⟩:=(h3 r).mp h2;exact⟨(i:Int)::e',j,u,r',by rw[t_ e1];exact g1,g2,g3,rfl⟩
  ·rintro⟨e',j,u,r,h1,h2,h3,rfl⟩;cases e' with
   |nil=>rw[qU]at h1;cases h1
   |cons i e'=>
    obtain⟨l,h0,g1,g2⟩:=rm h1;obtain⟨i,rfl⟩:∃i':Nat,i=i':=⟨i.toNat,`l⟩
    rw[bn]at g1;have g3:(nN us ts)[i]? =aa (l.aD us):=by rw[yz,aV,g1];rfl
    obtain⟨l',e1,e2,h4⟩:=(Gz hB ts h.2 ft i _ g3).1;rw[g1]at e1;cases e1;exact⟨i,_,e'++r,g3,(h4 _).mpr ⟨e',j,u,r,g2,h2,h3,rfl⟩,rfl⟩
theorem Gz (hB:∀t∈B,qC t.1):∀(ts:List Tr),o6 px ts→ny us.length ts→ ∀(i:Nat) (x:Tr),(nN us ts)[i]? =aa x→(∃l,ts[i]? =aa l∧x=l.aD us∧ ∀r,(Up B (l.aD us) r↔vI B l us r))∧True
 | [],h,ft,i,x,hx=>by rw[nN]at hx;cases hx
 |t::ts,h,ft,0,x,hx=>by
  rw[ny]at ft;rw[o6]at h;rw[nN]at hx;cases hx;exact⟨⟨t,rfl,rfl,λr=>xv hB t r h.1 ft.1⟩,trivial⟩
 |t::ts,h,ft,i+1,x,hx=>by
  rw[ny]at ft;rw[o6]at h;rw[nN,bW]at hx;obtain⟨⟨l,h1,h2,h3⟩,_⟩:=Gz hB ts h.2 ft.2 i x hx;exact⟨⟨l,by rw[bW];exact h1,h2,h3⟩,trivial⟩
end
def BV (e:nF B h=none):(Tr.nd h ts).lou B []=[[]]:=by rw[Tr.lou,e]
def yN (e:nF B h=aa t):(Tr.nd h ts).lou B q=r_ B t 0 ts q:=by
 rw[Tr.lou.eq_def];dsimp only;rw[e]
theorem Pz:∀{ts:List Tr}{i:Nat}{x:Tr}{q:List Int},ts[i]? =aa x→uT B i ts q=x.lou B q
 |x::ts,0,y,q,h=>by cases h;rw[uT]
 |x::ts,i+1,y,q,h=>by
  rw[bW]at h;rw[uT];exact Pz h
def vx{h:ah}{ts:List Tr}{i:Nat}{x:Tr}{q:List Int}(e:nF B h=none) (hx:ts[i]? =aa x):(Tr.nd h ts).lou B ((i:Int)::q)=(x.lou B q).map ((i:Int):: ·):=by
 rw[Tr.lou,e];dsimp only;rw[bn,Pz hx]
theorem Hc (hB:∀t∈B,qC t.1) {us:List Tr}:∀(b:List Int) {R u:Tr}{i:Nat}{r:List Int},R.hb px→R.at b=aa (.bl (i:Int))→us[i]? =aa u→(R.aD us).lou B (b++r)=(u.lou B r).map (b++ ·)
 | [],R,u,i,r,h,e,hu=>by
  rw[qU]at e;cases e;rw[Tr.aD,bn,bw,hu];simp
 |j::b, .bl n,u,i,r,h,e,hu=>by cases e
 |j::b, .nd s ts,u,i,r,h,e,hu=>by
  obtain⟨l,h0,h1,h2⟩:=rm e;obtain⟨j,rfl⟩:∃j':Nat,j=j':=⟨j.toNat,`l⟩
  rw[bn]at h1;rw[Tr.hb]at h;have g3:(nN us ts)[j]? =aa (l.aD us):=by rw[yz,aV,h1];rfl
  rw[Tr.aD,b6,vx (qh hB h.1) g3,Hc hB b (OW h.2 (aN h1)) h2 hu,bh];rfl
theorem Be:∀{xs:List Tr}{i:Nat},q'∈r_ B t i xs q↔ ∃(j:Nat) (x:Tr) (e b r':List Int),xs[j]? =aa x∧(t.2.1.bls.map λz=>z.1)[i+j]? =aa e∧q.take e.length=e∧b∈rz t.2.2 (i+j)∧r'∈x.lou B (q.drop e.length)∧q'=b++r'
 | [],i=>by
  rw[r_];constructor
  ·intro h;cases h
  ·rintro⟨j,x,e,b,r',h1,_⟩;cases h1
 |y::xs,i=>by
  rw[r_,bu,Be (xs:=xs) (i:=i+1)];constructor
  ·rintro(h |⟨j,x,e,b,r',h1,h2,h3⟩)
   ·cases he:(t.2.1.bls.map λz=>z.1)[i]? with
    |none=>rw[he]at h;cases h
    |some e=>
     rw[he]at h;dsimp only at h;split at h
     ·rename_i hq;obtain⟨b,hb,h⟩:=d_.mp h;obtain⟨r',hr,rfl⟩:=aL.mp h;exact⟨0,y,e,b,r',rfl,he,hq,hb,hr,rfl⟩
     ·cases h
   ·exact⟨j+1,x,e,b,r',by rw[bW];exact h1,by rw[←h2];congr 1;lia,by rw[show i+(j+1)=i+1+j by lia];exact h3⟩
  ·rintro⟨j,x,e,b,r',h1,h2,h3,h4,h5,rfl⟩;cases j with
   |zero=>
    cases h1;refine .inl ?_;rw[fE]at h2 h4;rw[h2];dsimp only;rw[if_pos h3];exact d_.mpr ⟨b,h4,aL.mpr ⟨r',h5,rfl⟩⟩
   |succ j=>
    rw[bW]at h1;exact .inr ⟨j,x,e,b,r',h1,by rw[←h2];congr 1;lia,h3,by rw[show i+1+j=i+(j+1) by lia];exact h4,h5,rfl⟩
def qu:b∈rz R i↔R.at b=aa (.bl (i:Int)):=by
 unfold rz;rw[aL];constructor
 ·rintro⟨⟨p,v⟩,h,rfl⟩;obtain⟨h1,h2⟩:=dA.mp h;obtain⟨h3,h4⟩:=dA.mp h1;obtain⟨r,e1,e2,_⟩:=yi R [] _ _ h3;simp at e1;subst e1;cases v with
  |nd s ts=>cases h4
  |bl n=>
   have:n=i:=by simpa [Tr.num]using h2
   subst this;exact e2
 ·intro h;refine⟨(b, .bl i),dA.mpr ⟨dA.mpr ⟨by have:=Dc R [] b _ h;simpa using this,rfl⟩,?_⟩,rfl⟩;simp [Tr.num]
theorem LS:∀(e e':List Int) {t:Tr}{n n':Int}{r:List Int},t.at e=aa (.bl n)→t.at e'=aa (.bl n')→(e++r).take e'.length=e'→e'=e
 | [],e',t,n,n',r,h,h',hr=>by
  rw[qU]at h;cases h;cases e' with
  |nil=>rfl
  |cons i e'=>cases h'
 |i::e,[],t,n,n',r,h,h',hr=>by
  rw[qU]at h';cases h';cases h
 |i::e,i'::e', .bl m,n,n',r,h,h',hr=>by cases h
 |i::e,i'::e', .nd s ts,n,n',r,h,h',hr=>by
  rw[b6,aT,List.take_succ_cons]at hr;simp only[fM]at hr;obtain⟨rfl,hr⟩:=hr;obtain⟨l,h0,h1,h2⟩:=rm h;obtain⟨l',_,h1',h2'⟩:=rm h';rw[h1]at h1';cases h1';rw[LS e e' h2 h2' hr]
def m3.F (c:m3 w0 w1 w2 w3 w4 w5 tt B):wF B:=c.b.lfs c.G
def m3.bl (c:m3 w0 w1 w2 w3 w4 w5 tt B) {t:Tn}(ht:t∈B) {e:List Int}{i:Nat}:t.2.1.at e=aa (.bl (i:Int))↔(t.2.1.bls.map λz=>z.1)[i]? =aa e:=by
 constructor
 ·intro h;have:=(Zb c.F ht h (c.bk.lf t ht).br).1;rwa [bn]at this
 ·intro h;obtain⟨_,_,_,_,hL⟩:=c.F.lf t ht;exact Oi hL h
def m3.bl_ex (c:m3 w0 w1 w2 w3 w4 w5 tt B) (ht:t∈B) (hi:i<t.2.1.nb):∃e,t.2.1.at e=aa (.bl (i:Int)):=by
 obtain⟨h,ls,u,eL,_,_,_,_,_,nm⟩:=(c.lh ht).ex;obtain⟨j,l,q,g1,g2⟩:=G3 ls (nm i hi);exact⟨(j:Int)::q,by rw[eL,t_ g1];exact g2⟩
def m3.lou_tit (c:m3 w0 w1 w2 w3 w4 w5 tt B) {t:Tn}(ht:t∈B) {xs:List Tr}{i:Nat}{x:Tr}{e r q':List Int}(he:t.2.1.at e=aa (.bl (i:Int))) (hx:xs[i]? =aa x):q'∈(Tr.nd t.1 xs).lou B (e++r)↔ ∃b r',t.2.2.at b=aa (.bl (i:Int))∧r'∈x.lou B r∧q'=b++r':=by
 rw[yN (rK c.K.b.nd ht),Be];constructor
 ·rintro⟨j,y,e',b,r',h1,h2,h3,h4,h5,rfl⟩;rw[bI]at h2 h4;have g:=(c.bl ht).mpr h2;have:=LS e e' he g h3;subst this;rw[he]at g;have:(i:Int)=j:=by simpa using g
  have:i=j:=by lia
  subst this;rw[hx]at h1;cases h1;rw[kZ]at h5;exact⟨b,r',qu.mp h4,h5,rfl⟩
 ·rintro⟨b,r',h1,h2,rfl⟩;exact⟨i,x,e,b,r',hx,by rw[bI];exact(c.bl ht).mp he,`s,by rw[bI];exact qu.mpr h1,by rw[kZ];exact h2,rfl⟩
def m3.lou_top (c:m3 w0 w1 w2 w3 w4 w5 tt B) {t:Tn}(ht:t∈B) {xs:List Tr}{q':List Int}:¬q'∈(Tr.nd t.1 xs).lou B []:=λh=>by
 rw[yN (rK c.K.b.nd ht),Be]at h;obtain⟨j,y,e',b,r',h1,h2,h3,_⟩:=h;have g:=(c.bl ht).mpr h2;have:e'=[]:=by rw[←h3];simp
 subst this;rw[qU]at g;obtain⟨h,ls,u,eL,_⟩:=(c.lh ht).ex;rw[eL]at g;cases g
def Av{p:Pl}{ps:List Pl}{i:Nat}{u:Tr}{f:Pl→Tr}(h:(ps.map f)[i]? =aa u):∃p,ps[i]? =aa p∧u=f p:=by
 rw[aV]at h;cases e:ps[i]? with
 |none=>rw[e]at h;cases h
 |some p=>rw[e]at h;cases h;exact⟨p,rfl,rfl⟩
def m3.up_ev (c:m3 w0 w1 w2 w3 w4 w5 tt B) {f g:Int→Nat}(hc:∀x:Int,0≤x→x<8→f x≤1∧g x≤1) {p:Pl}(h:nU [w0,w1,w2,w3,w4,w5] B p):∀q',Up B (p.ev B (oy f g)) q'↔ ∃q,Up B (p.ev B f) q∧q'∈(p.ev B g).lou B q:=by
 have ti:=c.K.b.ti
 induction h with
 | @sign b' h ps hh hp ih=>
  intro q';have e:=qh ti (c.K.b.sg h hh);rw[pL,pL,pL,zm e];constructor
  ·rintro⟨i,x,r,h1,h2,rfl⟩;obtain⟨p,ep,rfl⟩:=Av (p:= .nd 0 0 h []) h1;obtain⟨q,g1,g2⟩:=(ih p (aN ep) r).mp h2;refine⟨(i:Int)::q,(zm e).mpr ⟨i,_,q,by rw[aV,ep];rfl,g1,rfl⟩,?_⟩
   rw[vx e (show(ps.map (Pl.ev B g))[i]? =aa (p.ev B g) by rw[aV,ep];rfl)]
   exact aL.mpr ⟨r,g2,rfl⟩
  ·rintro⟨q,h1,h2⟩;obtain⟨i,x,r,h4,h3,rfl⟩:=(zm e).mp h1;obtain⟨p,ep,rfl⟩:=Av (p:= .nd 0 0 h []) h4;rw[vx e (show(ps.map (Pl.ev B g))[i]? =aa (p.ev B g) by rw[aV,ep];rfl)]at h2
   obtain⟨r',g1,rfl⟩:=aL.mp h2;exact⟨i,p.ev B (oy f g),r',by rw[aV,ep];rfl,(ih p (aN ep) r').mpr ⟨r,h3,g1⟩,rfl⟩
 | @turn k b' h ps t e hl b0 b1 hp ih=>
  intro q';have ht:t∈B:=aN e;have et:=rK c.K.b.nd ht;obtain⟨f1,g1⟩:=hc b' b0 b1;have len:∀z:Int→Nat,(ps.map (Pl.ev B z)).length=t.2.1.nb:=λz=>by rw[ay,hl]
  have sL:=(c.K.b.lf t ht).hb;have fL:∀z:Int→Nat,t.2.1.br (ps.map (Pl.ev B z)).length:=λz=>by rw[len];exact(c.K.b.lf t ht).br
  have sR:t.2.2.hb px:=(c.K.b.ri t ht).hb c.K.b.sg;have fR:∀z:Int→Nat,t.2.2.br (ps.map (Pl.ev B z)).length:=λz=>by rw[len];exact(c.K.b.ri t ht).br
  have at':∀(z:Int→Nat) {i:Nat}{p:Pl},ps[i]? =aa p→(ps.map (Pl.ev B z))[i]? =aa (p.ev B z):=λz i p ep=>by rw[aV,ep];rfl
  have lower:∀q,vI B t.2.1 (ps.map (Pl.ev B f)) q→ ∃(e:List Int) (i:Nat) (p:Pl) (r:List Int),t.2.1.at e=aa (.bl (i:Int))∧ps[i]? =aa p∧Up B (p.ev B f) r∧q=e++r:=λq ⟨e,i,u,r,h1,h2,h3,h4⟩=>by
   obtain⟨p,ep,rfl⟩:=Av (p:= .nd 0 0 h []) h2;exact⟨e,i,p,r,h1,ep,h3,h4⟩
  rw[oE e,oE e,oE e];have fz:f b'=0∨f b'=1:=by lia
  have gz:g b'=0∨g b'=1:=by lia
  obtain gz |gz:=gz
  ·-- the other has no use here
   have pz:oy f g b'=f b':=by unfold oy;rw[if_neg `l]
   have ex:rM t (g b') (ps.map (Pl.ev B g))=t.2.1.aD (ps.map (Pl.ev B g)):=by rw[gz];rfl
   have below:vI B t.2.1 (ps.map (Pl.ev B (oy f g))) q'↔ ∃q,vI B t.2.1 (ps.map (Pl.ev B f)) q∧q'∈(t.2.1.aD (ps.map (Pl.ev B g))).lou B q:=by
    constructor
    ·rintro⟨e',i,u,r,h1,h2,h3,rfl⟩;obtain⟨p,ep,rfl⟩:=Av (p:= .nd 0 0 h []) h2;obtain⟨q,k1,k2⟩:=(ih p (aN ep) r).mp h3;refine⟨e'++q,⟨e',i,_,q,h1,at' f ep,k1,rfl⟩,?_⟩;rw[Hc ti e' sL h1 (at' g ep)];exact aL.mpr ⟨r,k2,rfl⟩
    ·rintro⟨q,hq,h2⟩;obtain⟨e',i,p,r,h1,ep,h3,rfl⟩:=lower q hq;rw[Hc ti e' sL h1 (at' g ep)]at h2;obtain⟨r',k1,rfl⟩:=aL.mp h2;exact⟨e',i,_,r',h1,at' _ ep,(ih p (aN ep) r').mpr ⟨r,h3,k1⟩,rfl⟩
   rw[pz,ex];obtain fz |fz:=fz
   ·rw[fz];show Up B (t.2.1.aD (ps.map (Pl.ev B (oy f g)))) q'↔ ∃q,Up B (t.2.1.aD (ps.map (Pl.ev B f))) q∧_;rw[xv ti _ _ sL (fL _),below];constructor
    ·rintro⟨q,h1,h2⟩;exact⟨q,(xv ti _ _ sL (fL _)).mpr h1,h2⟩
    ·rintro⟨q,h1,h2⟩;exact⟨q,(xv ti _ _ sL (fL _)).mp h1,h2⟩
   ·rw[fz];show Up B (.nd t.1 (ps.map (Pl.ev B (oy f g)))) q'↔ ∃q,Up B (.nd t.1 (ps.map (Pl.ev B f))) q∧_;obtain⟨z,ls,u,eL,_⟩:=(c.lh ht).ex;have top:(t.2.1.aD (ps.map (Pl.ev B g))).lou B []=[[]]:=by
     rw[eL,Tr.hb]at sL;rw[eL,Tr.aD,BV (qh ti sL.1)]
    rw[yu et,below];constructor
    ·rintro(rfl |⟨q,h1,h2⟩)
     ·exact⟨[], .here et,by rw[top];exact bg.mpr rfl⟩
     ·exact⟨q,(yu et).mpr (.inr h1),h2⟩
    ·rintro⟨q,h1,h2⟩;rcases(yu et).mp h1 with rfl |h1
     ·rw[top]at h2;exact .inl (bg.mp h2)
     ·exact .inr ⟨q,h1,h2⟩
  ·-- the other has it
   have pz:oy f g b'=2:=by unfold oy;rw[if_pos gz]
   have ex:rM t (g b') (ps.map (Pl.ev B g))= .nd t.1 (ps.map (Pl.ev B g)):=by rw[gz];rfl
   rw[pz,ex];show Up B (t.2.2.aD (ps.map (Pl.ev B (oy f g)))) q'↔_;rw[xv ti _ _ sR (fR _)];have below:vI B t.2.2 (ps.map (Pl.ev B (oy f g))) q'↔ ∃q,vI B t.2.1 (ps.map (Pl.ev B f)) q∧q'∈(Tr.nd t.1 (ps.map (Pl.ev B g))).lou B q:=by
    constructor
    ·rintro⟨b,i,u,r,h1,h2,h3,rfl⟩;obtain⟨p,ep,rfl⟩:=Av (p:= .nd 0 0 h []) h2;obtain⟨q,k1,k2⟩:=(ih p (aN ep) r).mp h3;obtain⟨e',he'⟩:=c.bl_ex ht (i:=i) (by rw[←hl];exact(cj.mp ep).1);exact⟨e'++q,⟨e',i,_,q,he',at' f ep,k1,rfl⟩,(c.lou_tit ht he' (at' g ep)).mpr ⟨b,r,h1,k2,rfl⟩⟩
    ·rintro⟨q,hq,h2⟩;obtain⟨e',i,p,r,h1,ep,h3,rfl⟩:=lower q hq;obtain⟨b,r',k1,k2,rfl⟩:=(c.lou_tit ht h1 (at' g ep)).mp h2;exact⟨b,i,_,r',k1,at' _ ep,(ih p (aN ep) r').mpr ⟨r,h3,k2⟩,rfl⟩
   rw[below];obtain fz |fz:=fz
   ·rw[fz];show _↔ ∃q,Up B (t.2.1.aD (ps.map (Pl.ev B f))) q∧_;constructor
    ·rintro⟨q,h1,h2⟩;exact⟨q,(xv ti _ _ sL (fL _)).mpr h1,h2⟩
    ·rintro⟨q,h1,h2⟩;exact⟨q,(xv ti _ _ sL (fL _)).mp h1,h2⟩
   ·rw[fz];show _↔ ∃q,Up B (.nd t.1 (ps.map (Pl.ev B f))) q∧_;constructor
    ·rintro⟨q,h1,h2⟩;exact⟨q,(yu et).mpr (.inr h1),h2⟩
    ·rintro⟨q,h1,h2⟩;rcases(yu et).mp h1 with rfl |h1
     ·exact absurd h2 (c.lou_top ht)
     ·exact⟨q,h1,h2⟩
def m3.up_res (c:m3 w0 w1 w2 w3 w4 w5 tt B) (hs:Wy [w0,w1,w2,w3,w4,w5] B s) (hx:Wy [w0,w1,w2,w3,w4,w5] B x) (e:ak B s=ak B x) (q':List Int):Up B (res B s x) q'↔ ∃q,Up B s q∧q'∈x.lou B q:=by
 obtain⟨p,hp,rfl,rfl,_⟩:=v5 c.K hs hx e;have m:=vj (c:=nK 1) (d:=nK 2) c.K.b c.K.O.mt (ua (qS 1) (qS 2)) hp;rw[m.res];refine c.up_ev (λz z0 z1=>?_) hp q';obtain h |h:=ua (qS 1) (qS 2) z z0 z1
 ·exact h
 ·have:=qS 1 z;lia
theorem Nw{α:Type}{P Q R:α→Bool}:∀(l:List α),(∀x,P x=true→R x=true∧Q x=false)→(∀x,Q x=true→R x=true)→(l.filter P).length+(l.filter Q).length≤(l.filter R).length
 | [],_,_=>by simp
 |x::l,h1,h2=>by
  have:=Nw l h1 h2;have a:=h1 x;have b:=h2 x;cases ep:P x<;>cases eq:Q x<;>cases er:R x<;>simp [gu,ep,eq,er]at a b⊢ <;>lia
def J3 (h:nF B s=none):(Tr.nd s ts).ne B=oJ B ts:=by rw[Tr.ne,h];simp
def M7 (h:nF B s=aa t):(Tr.nd s ts).ne B=1+oJ B ts:=by rw[Tr.ne,h]
mutual
theorem xQ (hR:∀t∈B,t.2.2.bls.length≤7):∀(x:Tr) (q:List Int),(x.lou B q).length≤7 ^ x.ne B
 | .bl n,q=>by rw[Tr.lou];exact aU _
 | .nd s ts,q=>by
  cases e:nF B s with
  |some t=>
   have ht:t∈B:=bX e;rw[yN e,M7 e];have h1:=LQ hR t ts 0 q;have h2:(t.2.2.bls.filter λz=>decide (((0:Nat):Int)≤z.2.num)).length≤7:=aX (gR _ _) (hR t ht);rw[gX,Nat.pow_one];exact aX h1 (dB _ h2)
  |none=>
   rw[J3 e,Tr.lou.eq_def];dsimp only;rw[e];cases q with
   |nil=>exact lD _ _ `d
   |cons i q=>
    dsimp only;rw[ay];exact M2 hR ts i.toNat q
theorem LQ (hR:∀t∈B,t.2.2.bls.length≤7):∀(t:Tn) (xs:List Tr) (i:Nat) (q:List Int),(r_ B t i xs q).length≤(t.2.2.bls.filter λz=>decide ((i:Int)≤z.2.num)).length*7 ^ oJ B xs
 |t,[],i,q=>by rw[r_];exact aU _
 |t,x::xs,i,q=>by
  have h1:=LQ hR t xs (i+1) q;have h3:∀r,(x.lou B r).length≤7 ^ oJ B (x::xs):=λr=>aX (xQ hR x r) (dj `d (by rw[oJ];lia));have h4:7 ^ oJ B xs≤7 ^ oJ B (x::xs):=dj `d (by rw[oJ];lia);have hs:=Nw (P:=λz:List Int×Tr=>z.2.num == (i:Int)) (Q:=λz=>decide (((i+1:Nat):Int)≤z.2.num)) (R:=λz=>decide ((i:Int)≤z.2.num)) t.2.2.bls (λz hz=>by
   rw[beq_iff_eq]at hz;exact⟨decide_eq_true `l,decide_eq_false `l⟩) λz hz=>decide_eq_true (by have:=of_decide_eq_true hz;lia)
  have h5:∀(bs:List (List Int)) (l:List (List Int)),l.length≤7 ^ oJ B (x::xs)→(bs.flatMap λb=>l.map (b++ ·)).length≤bs.length*7 ^ oJ B (x::xs):=λbs l hl=>by
   induction bs with
   |nil=>simp
   |cons b bs ih=>
    rw[cD,aW,ay,aT,cA];lia
  have h6:(r_ B t (i+1) xs q).length≤(t.2.2.bls.filter λz=>decide (((i+1:Nat):Int)≤z.2.num)).length*7 ^ oJ B (x::xs):=aX h1 (eA _ h4);have h7:(rz t.2.2 i).length=(t.2.2.bls.filter λz=>z.2.num == (i:Int)).length:=by unfold rz;rw[ay]
  have h8:=dB (7 ^ oJ B (x::xs)) hs;rw[cA]at h8;rw[r_,aW];have h9:(match(t.2.1.bls.map λz:List Int×Tr=>z.1)[i]? with
   |some e=>if q.take e.length=e then(rz t.2.2 i).flatMap λb=>(x.lou B (q.drop e.length)).map (b++ ·) else []
   |none=>[]).length≤(rz t.2.2 i).length*7 ^ oJ B (x::xs):=by
   split
   ·split
    ·exact h5 _ _ (h3 _)
    ·exact aU _
   ·exact aU _
  rw[h7]at h9;exact aX (Nat.add_le_add h9 h6) h8
theorem M2 (hR:∀t∈B,t.2.2.bls.length≤7):∀(xs:List Tr) (i:Nat) (q:List Int),(uT B i xs q).length≤7 ^ oJ B xs
 | [],i,q=>by rw[uT];exact aU _
 |x::xs,0,q=>by
  rw[uT];exact aX (xQ hR x q) (dj `d (by rw[oJ];lia))
 |x::xs,i+1,q=>by
  rw[uT];exact aX (M2 hR xs i q) (dj `d (by rw[oJ];lia))
end
noncomputable def p9 (B:List Tn):List Tr→List (List Int)→List (List Int)
 | [],ps=>ps
 |x::xs,ps=>p9 B xs (ps.flatMap (x.lou B))
theorem Ea{f:List Int→List (List Int)}:∀(ps:List (List Int)),(∀p∈ps,(f p).length≤k)→(ps.flatMap f).length≤ps.length*k
 | [],h=>by simp
 |p::ps,h=>by
  have h1:=h p aI;have h2:=Ea ps λq hq=>h q (aG _ hq);rw[cD,aW,aT,cA];lia
theorem m3.dn_mem (c:m3 w0 w1 w2 w3 w4 w5 tt B):∀(xs:List Tr) {t s:Tr}{ps:List (List Int)},ov [w0,w1,w2,w3,w4,w5] B t xs→Wy [w0,w1,w2,w3,w4,w5] B s→ak B s=t→(∀q,q∈ps↔Up B s q)→ ∀q,q∈p9 B xs ps↔Up B (rb B s xs) q
 | [],t,s,ps,_,_,_,h,q=>h q
 |x::xs,t,s,ps,⟨x1,x2,x3⟩,hs,es,h,q=>by
  have m:=c.K.moved hs x1 (by rw[es,x2]);refine m3.dn_mem c xs x3 m.wy m.sr (λq'=>?_) q;rw[c.up_res hs x1 (by rw[es,x2]),d_];constructor
  ·rintro⟨r,h1,h2⟩;exact⟨r,(h r).mp h1,h2⟩
  ·rintro⟨r,h1,h2⟩;exact⟨r,(h r).mpr h1,h2⟩
def m3.no_up (c:m3 w0 w1 w2 w3 w4 w5 tt B) (u:Up B x q):x.hd px→False:=by
 induction u with
 |here e=>intro h;rw[Tr.hd]at h;rw[qh c.K.b.ti h.1]at e;cases e
 |sgn e hx _ ih=>intro h;rw[Tr.hd,nV]at h;exact ih (h.2 _ (aN hx))
 |tit e _ _ _ ih=>intro h;rw[Tr.hd]at h;rw[qh c.K.b.ti h.1]at e;cases e
theorem m3.up_hd (c:m3 w0 w1 w2 w3 w4 w5 tt B):∀(n:Nat) {x:Tr},x.ao≤n→Wy [w0,w1,w2,w3,w4,w5] B x→(∀q,¬Up B x q)→x.hd px
 |0,x,hn,hx,h=>by have:=tu x;lia
 |n+1,x,hn,hx,h=>by
  obtain ⟨s,ts,rfl,hh,e,k⟩ |⟨t,ts,ht,rfl,e,hl,k⟩:=Wy.cases c.K.b hx
  ·rw[Tr.ao]at hn;rw[Tr.hd,nV];refine⟨c.K.b.sg s hh,λy hy=>m3.up_hd c n (by have:=pk hy;lia) (k y hy) λq u=>?_⟩;obtain⟨i,hi,ei⟩:=dJ hy;exact h _ (.sgn e (by rw[aP hi,ei]) u)
  ·exact absurd (.here e) (h [])
def m3.up_quiet (c:m3 w0 w1 w2 w3 w4 w5 tt B) (hx:Wy [w0,w1,w2,w3,w4,w5] B x):x.dM=true↔ ∀q,¬Up B x q:=
 ⟨λh q u=>c.no_up u (zA x h),λh=>DH x (c.up_hd _ (aA _) hx h)⟩
theorem Ou.up{w0 w1 w2 w3 w4 w5:ah}{tt:List ah}{B:List Tn}(c:m3 w0 w1 w2 w3 w4 w5 tt B) (et:nF B t.1=aa t) (hu:∀u∈us,Sh [w0,w1,w2,w3,w4,w5] B u):∀(q:List Int) {X v:Tr},Sh [w0,w1,w2,w3,w4,w5] B X→X.at q=aa v→ ∀q',Up B (X.bQ q (.nd t.1 us)) q'↔q'=q
 | [],X,v,hX,e,q'=>by
  rw[yh,yu et];constructor
  ·rintro(h |⟨e',i,u,r,_,h2,h3,_⟩)
   ·exact h
   ·exact(c.no_up h3 ((hu u (aN h2)).sig c.K)).elim
  ·exact .inl
 |i::q, .bl n,v,hX,e,q'=>by cases e
 |i::q, .nd s ts,v,hX,e,q'=>by
  obtain⟨w,h0,h1,h2⟩:=rm e;obtain⟨i,rfl⟩:∃i':Nat,i=i':=⟨i.toNat,`l⟩
  rw[bn]at h1;obtain⟨s',ts',e1,_,e2,k⟩:=hX.cases c.K;cases e1;rw[xC (by rw[bn];exact h1),bn,zm e2];have hi:=(cj.mp h1).1;constructor
  ·rintro⟨j,x,r,g1,g2,rfl⟩;by_cases ij:i=j
   ·subst ij;rw[gS hi]at g1;cases g1;rw[(Ou.up c et hu q (k w (aN h1)) h2 r).mp g2]
   ·rw[jH ij]at g1;exact(c.no_up g2 ((k x (aN g1)).sig c.K)).elim
  ·rintro rfl;exact⟨i,_,q,gS hi,(Ou.up c et hu q (k w (aN h1)) h2 q).mpr rfl,rfl⟩
def m3.done (c:m3 w0 w1 w2 w3 w4 w5 tt B) (hX:Sh [w0,w1,w2,w3,w4,w5] B X) (o:Ou [w0,w1,w2,w3,w4,w5] B X q t us) (hr:ov [w0,w1,w2,w3,w4,w5] B X xs) (hw:Wy [w0,w1,w2,w3,w4,w5] B (rb B (p5 X q t us) xs)):p9 B xs [q]=[]↔(rb B (p5 X q t us) xs).dM=true:=by
 have h:=c.dn_mem xs (ps:=[q]) hr (o.wy c.K hX) (o.ak c.K hX) λq'=>by
  rw[bg];exact(Ou.up c (o.tt c.K) o.sh q hX o.hat q').symm
 rw[c.up_quiet hw];constructor
 ·intro e q' u;have:=(h q').mpr u;rw[e]at this;cases this
 ·intro e;cases d:p9 B xs [q]with
  |nil=>rfl
  |cons p ps=>exact absurd ((h p).mp (by rw[d];exact aI)) (e p)
theorem m3.lou_at (c:m3 w0 w1 w2 w3 w4 w5 tt B):∀(n:Nat) {x:Tr}{q q':List Int}{v:Tr},x.ao≤n→Wy [w0,w1,w2,w3,w4,w5] B x→(ak B x).at q=aa v→q'∈x.lou B q→ ∃v',(b9 B x).at q'=aa v'
 |0,x,q,q',v,hn,hx,hv,h=>by have:=tu x;lia
 |n+1,x,q,q',v,hn,hx,hv,h=>by
  obtain ⟨s,ts,rfl,hh,e,k⟩ |⟨t,ts,ht,rfl,e,hl,k⟩:=Wy.cases c.K.b hx
  ·rw[Tr.ao]at hn;have es:ak B (.nd s ts)= .nd s (ts.map (ak B)):=by rw[ak,qD e]
   have eg:b9 B (.nd s ts)= .nd s (ts.map (b9 B)):=by rw[b9,qD e]
   cases q with
   |nil=>
    rw[BV e]at h;rw[bg.mp h];exact⟨_,qU _⟩
   |cons i q=>
    rw[es]at hv;obtain⟨w,h0,h1,h2⟩:=rm hv;obtain⟨i,rfl⟩:∃i':Nat,i=i':=⟨i.toNat,`l⟩
    rw[bn,aV]at h1;cases ei:ts[i]? with
    |none=>rw[ei]at h1;cases h1
    |some y=>
     rw[ei]at h1;cases h1;rw[vx e ei]at h;obtain⟨r,hr,rfl⟩:=aL.mp h;have hy:=aN ei;obtain⟨v',g⟩:=m3.lou_at c n (by have:=pk hy;lia) (k y hy) h2 hr;exact⟨v',by rw[eg,t_ (show(ts.map (b9 B))[i]? =aa (b9 B y) by rw[aV,ei];rfl)];exact g⟩
  ·rw[Tr.ao]at hn;have es:ak B (.nd t.1 ts)=t.2.1.aD (ts.map (ak B)):=by rw[ak,qy e]
   have eg:b9 B (.nd t.1 ts)=t.2.2.aD (ts.map (b9 B)):=by rw[b9,qy e]
   rw[yN e,Be]at h;obtain⟨j,y,e',b,r',h1,h2,h3,h4,h5,rfl⟩:=h;rw[bI]at h2 h4;have g:=(c.bl ht).mpr h2;have hq:q=e'++q.drop e'.length:=by
    have:=ig e'.length q;rw[h3]at this;exact this.symm
   have hy:=aN h1;have a1:(ak B (.nd t.1 ts)).at e'=aa (ak B y):=by
    rw[es,zn e' g (by rw[ay,hl];exact(c.K.b.lf t ht).br),bn,aV,h1];rfl
   have a2:(b9 B (.nd t.1 ts)).at b=aa (b9 B y):=by
    rw[eg,zn b (qu.mp h4) (by rw[ay,hl];exact(c.K.b.ri t ht).br),bn,aV,h1];rfl
   rw[hq,xf e' _ a1]at hv;obtain⟨v',g'⟩:=m3.lou_at c n (by have:=pk hy;lia) (k y hy) hv h5;exact⟨v',by rw[xf b _ a2];exact g'⟩
mutual
theorem Ix:∀t:Tr,t.ao≤1000→t.wd
 | .bl _,_=>trivial
 | .nd s ts,h=>by
  rw[Tr.ao]at h;have:=qX ts;exact⟨`l,HW ts `l⟩
theorem HW:∀ts:List Tr,nB ts≤1000→vC ts
 | [],_=>trivial
 |t::ts,h=>by
  rw[nB]at h;exact⟨Ix t `l,HW ts `l⟩
end
def S8 (hw:t.ao≤400) (hd:t.depth≤40) (hr:60≤r) (h:T E D [y0,aa (.bT [j8 t, .ref l1]),y2,y3,y4,y5,y6,y7] S) :
  EA r T E D [y0,aa (.bT [j8 t, .ref l1]),y2,y3,y4,y5,y6,y7] S:=by
 rw[EA];ext;obtain⟨r,rfl⟩:∃r',r=r'+5:=⟨r - 5,`l⟩
 rw[show r+5=r+4+1 from rfl,AX];ext;refine M3 (r:=r+3) (Ix t `l) ?_;rw[B0 hw hd]
 try ext
 exact⟨_, .refl,h⟩
def xJ (B:List Tn):List Tr→List Tr→Prop
 | [],_=>True
 |x::xs,os=>uP B x os∧xJ B xs (qf B x os)
section
variable {ws:List ah}{B:List Tn}
theorem LL (K:Bk3 ws B):∀(os:List Tr) {x t:Tr},Wy ws B x→ak B x=t→ov ws B t os→uP B x os→ ∀u∈qf B x os,(b9 B u).aE=true
 | [],x,t,_,_,_,_,u,hu=>by cases hu
 |o::os,x,t,hx,ex,⟨r1,r2,r3⟩,⟨l1,l2⟩,u,hu=>by
  have m:=K.moved hx r1 (by rw[ex,r2]);rw[qf]at hu;obtain e |e:=aB.mp hu
  ·rw[e,←m.go];exact l1
  ·exact LL K os m.wy m.sr r3 l2 u e
theorem Nu (K:Bk3 ws B):∀(os:List Tr) {x t:Tr},Wy ws B x→ak B x=t→ov ws B t os→t.aE=true→(∀o∈os,(b9 B o).aE=true)→ ∀p∈os.zip (rk B x os),vg ws B p.1 p.2
 | [],x,t,_,_,_,_,_,p,hp=>by cases hp
 |o::os,x,t,hx,ex,⟨r1,r2,r3⟩,hs,hg,p,hp=>by
  have cl:vg ws B x o:=⟨K,hx,r1,by rw[ex,r2],by rw[r2];exact hs⟩
  have m:=K.moved hx r1 cl.e;rw[rk,gj]at hp;obtain rfl |hp:=aB.mp hp
  ·exact cl.symm
  ·exact Nu K os m.wy m.sr r3 (hg o aI) (λu hu=>hg u (aG _ hu)) p hp
end
section
variable {ws:List ah}{B:List Tn}{a l1 l2 d o ρ:ai}{r:Nat}{E:WX}{D:nC}{T:WS}{t t':Tr}{xs os:List Tr}{S:kB}{y1 y2 y3 y4 y5 y6 y7:Option W}
def zBp (ha:S a=aa (.bJ (B.map nz))) (hl:S ρ=aa (.bJ (os.map j8))) (hq:S q=aa (.bJ ((rk B x os).map j8))) (hc:∀p∈os.zip (rk B x os),vg ws B p.1 p.2) (hn:os.length≤800) (hr:63≤r)
  (h:∀ρ',S ρ'=none→T E D [aa (.ref a),y1,y2,y3,aa (.ref ρ'),y5,y6,aa (.ref q)] (bQ S ρ' (.bJ ((qf B x os).map j8)))) :
  Ff r T E D [aa (.ref a),y1,y2,y3,aa (.ref ρ),y5,y6,aa (.ref q)] S:=by
 rw[Ff];ext;rw[nG hl,nG hq,Iz];refine qk (λσ=>∃u v,σ=[u,v,aa (.ref a)]) (λp:Tr×Tr=> .bT [j8 p.1,j8 p.2]) (λp=>j8 (res B p.1 p.2)) ⟨hl,hq⟩ (os.zip (rk B x os)) [] _ ⟨none,none,rfl⟩ (by rw[List.length_zip,HH];simp;lia) (λp hp σ R hI hR=>?_) ?_
 ·obtain⟨u,v,rfl⟩:=hI;have h2:=hc p hp;rw[G8];show ow (mU 0) (ow (mU 1) pS) [j8 p.1,j8 p.2] _ S _;rw[B'];show mU 0 _ _ _ _;rw[sj,B'];show mU 1 _ _ _ _;rw[sj,E3,Nj];show m9 _ _ _ [aa (j8 p.1),aa (j8 p.2),aa (.ref a)] _ _;ext;right
  exact h2.ok_move ha `l (hR _ _ ⟨_,_,rfl⟩ .refl)
 ·intro ρ' hρ;have:=h ρ' hρ;rw[←KO,bh]at this;exact this
theorem NV{G:kB→Prop}(K:Bk3 ws B) (ha:S0 a=aa (.bJ (B.map nz))) (hd0:S0 d=none) (ho0:S0 o=none) (hdo:d≠o) (hG:∀S,Sub S0 S→G S) (hr:66≤r):∀(xs:List Tr) {os:List Tr}{t:Tr},ov ws B t xs→ov ws B t os→t.aE=true→(∀x∈xs,(b9 B x).aE=true)→(∀x∈os,(b9 B x).aE=true)→ ∀{S:kB}{ρ:ai}{ds rs:List ai}{Ds Rs:List (List Tr)}{y1 y2 y6 y7:Option W},os.length≤800→ds.length+xs.length≤800→rs.length+xs.length≤800→Sub S0 S→S d=aa (.bJ (ds.map W.ref))→S o=aa (.bJ (rs.map W.ref++[.ref ρ]))→xi S0 S d o ds Ds→xi S0 S d o rs Rs→At S0 S d o ρ os→
  (xJ B xs os→ ∀S' ds' rs' y4 y6 y7,Sub S0 S'→S' d=aa (.bJ (ds'.map W.ref))→S' o=aa (.bJ (rs'.map W.ref))→xi S0 S' d o ds' (Ds++wk B xs os)→xi S0 S' d o rs' (Rs++Ay B xs os)→D.nx [aa (.ref a),y1,y2,aa (.ref d),y4,aa (.ref o),y6,y7] S')→(¬xJ B xs os→ ∀σ S',Sub S0 S'→E "TooGreat" σ S')→
  nI (mU 6) (EU r nc) E D G (xs.map j8) [aa (.ref a),y1,y2,aa (.ref d),aa (.ref ρ),aa (.ref o),y6,y7] S
 | [],os,t,u1,u2,u3,u4,u5=>by
  rename_i S ρ ds rs Ds Rs y1 y2 y6 y7;intro _ _ _ sb hd ho AD AR Aρ h _;refine h trivial S ds (rs++[ρ]) _ _ _ sb hd ?_ ?_ ?_
  ·rw[ho,bC];rfl
  ·rw[wk,bf];exact AD
  ·rw[Ay];exact Fs AR Aρ
 |x::xs,os,t,⟨x1,x2,x3⟩,hRo,hs,gx,go=>by
  rename_i S ρ ds rs Ds Rs y1 y2 y6 y7;intro n1 n2 n3 sb hd ho AD AR Aρ h hE;rw[aT]at n2 n3;rw[az];refine rJ λN hN=>?_;rw[sj,EU];rw[JB];ext;obtain⟨r',er⟩:∃r',r=r'+1:=⟨r - 1,`l⟩
  have er2:yn r=yn (r'+1):=by rw[er]
  rw[er2];refine ZM K (sb _ _ ha) Aρ.e x1 x2 hRo hs go n1 `l (λlk S1 q s1 hq0 hq=>?_) λnk S1 s1=>hE (λgk=>nk gk.1) _ _ (sb.trans s1);refine zBp (s1 _ _ (sb _ _ ha)) (s1 _ _ Aρ.e) hq (Nu K os x1 x2 hRo hs go) n1 `l λρ' hρ=>?_;have s2:Sub S (bQ S1 ρ' (.bJ ((qf B x os).map j8))):=s1.trans (.bQ .refl hρ);have qd:q≠d:=by rintro rfl;rw[hd]at hq0;cases hq0
  have qo:q≠o:=by rintro rfl;rw[ho]at hq0;cases hq0
  have ρd:ρ'≠d:=by rintro rfl;rw[s1 _ _ hd]at hρ;cases hρ
  have ρo:ρ'≠o:=by rintro rfl;rw[s1 _ _ ho]at hρ;cases hρ
  have Aq:At S0 (bQ S1 ρ' (.bJ ((qf B x os).map j8))) d o q (rk B x os):=⟨qd,qo,keep hq hρ,Bm sb hq0⟩;have Aρ':At S0 (bQ S1 ρ' (.bJ ((qf B x os).map j8))) d o ρ' (qf B x os):=⟨ρd,ρo,nv,Bm (sb.trans s1) hρ⟩;have AD':=wQ (λ_ _ z=>At.sub z s2) AD;have AR':=wQ (λ_ _ z=>At.sub z s2) AR;have A0:=Aρ.sub s2;have hd2:=s2 _ _ hd;have ho2:=s2 _ _ ho;have sb2:=sb.trans s2;generalize bQ S1 ρ' (.bJ ((qf B x os).map j8))=S2 at Aq Aρ' AD' AR' A0 hd2 ho2 sb2⊢;have ld:(ds.map W.ref).length≤1000:=by rw[ay];lia
  have lo:(rs.map W.ref++[W.ref ρ]).length≤1000:=by rw[aW,ay,bZ];lia
  refine VJ hd2 ld ?_;refine UR (vs:=rs.map W.ref++[.ref ρ]) (by rw[oz hdo.symm];exact ho2) lo ?_;have sb3:Sub S0 (bQ (bQ S2 d (.bJ (ds.map W.ref++[.ref q]))) o (.bJ (rs.map W.ref++[.ref ρ]++[.ref ρ']))):= .bQ (.bQ sb2 hd0) ho0;refine hN _ _ _ .refl (hG _ sb3) (NV K ha hd0 ho0 hdo hG hr xs (ds:=ds++[q]) (rs:=rs++[ρ]) (Ds:=Ds++[rk B x os]) (Rs:=Rs++[os]) x3 (xn K os x1 x2 hRo).1 (gx x aI) (λu hu=>gx u (aG _ hu)) (LL K os x1 x2 hRo lk) (by rw[Mu];exact n1) (by rw[aW,bZ];lia) (by rw[aW,bZ];lia) sb3 ?_ ?_ ?_ ?_ Aρ'.pd.po (λgk S' ds' rs' z4 z6 z7 s' h1 h2 h3 h4=>?_) λng=>hE λgk=>ng gk.2)
  ·rw[oz hdo,nv,bC];rfl
  ·rw[nv,bC];rfl
  ·exact Fs (wQ (λ_ _ z=>At.po (At.pd z)) AD') Aq.pd.po
  ·exact Fs (wQ (λ_ _ z=>At.po (At.pd z)) AR') A0.pd.po
  ·refine h ⟨lk,gk⟩ S' ds' rs' z4 z6 z7 s' h1 h2 ?_ ?_
   ·rw[wk];rw[bE]at h3;exact h3
   ·rw[Ay];rw[bE]at h4;exact h4
structure pO (B:List Tn) (xs os:List Tr):Prop where
  gx:∀x∈xs,(b9 B x).aE=true
  go:∀x∈os,(b9 B x).aE=true
  ok:xJ B xs os
def Jt{X:ah→kB→Prop}(K:Bk3 ws B) (ha:S a=aa (.bJ (B.map nz))) (h1:S l1=aa (.bJ (xs.map j8))) (h2:S l2=aa (.bJ (os.map j8))) (hx:ov ws B t xs) (ho:ov ws B t' os) (hs:t.aE=true) (nx:xs.length≤700) (no:os.length≤700) (hr:70≤r)
  (hA:t≠t'→X "Apart" S) (hX:t=t'→ ¬pO B xs os→ ∀S',Sub S S'→X "TooGreat" S')
  (h:t=t'→pO B xs os→ ∀S' d o,YF S S' B xs os d o→Q (.bT [.ref d, .ref o]) S'):z9 (r+1) [.ref a, .bT [j8 t, .ref l1], .bT [j8 t', .ref l2]] S Q X:=by
 obtain⟨b1,b2⟩:=tB hs;rw[z9,u0];refine⟨rfl,?_⟩;rw[Iu];ext;rw[Dm 60 _ _ `l];cases e:t.same t' with
 |false=>
  try ext
  try rw[PD]
  try ext
  refine⟨nH `d,hA λk=>?_⟩;rw[k,Fa]at e;cases e
 |true=>
  have et:t=t':=(D0 _ _).mp e;subst et
  try ext
  refine S8 b1 b2 `l ?_;rw[Nx];ext;obtain⟨r',er⟩:∃r',r=r'+2:=⟨r - 2,`l⟩
  have er2:vL r=vL (r'+2):=by rw[er]
  rw[er2];refine EH K ha h1 hx hs `l (λgx=>?_) λ⟨u,hu,eu⟩=>hX rfl (λg=>by have:=g.gx u hu;rw[eu]at this;cases this) _ .refl
  rw[MZ];ext;rw[er2];refine EH K ha h2 ho hs `l (λgo=>?_) λ⟨u,hu,eu⟩=>hX rfl (λg=>by have:=g.go u hu;rw[eu]at this;cases this) _ .refl
  refine Z8 λd hd=>ZW (keep h2 hd) λρ hρ=>SJ λo h0=>?_;have ρd:ρ≠d:=by rintro rfl;rw[nv]at hρ;cases hρ
  have od:o≠d:=by rintro rfl;rw[oz ρd.symm,nv]at h0;cases h0
  have oρ:o≠ρ:=by rintro rfl;rw[nv]at h0;cases h0
  have oS:S o=none:=by rw[oz oρ,oz od]at h0;exact h0
  have sb:Sub S (bQ (bQ (bQ S d (.bJ [])) ρ (.bJ (os.map j8))) o (.bJ [.ref ρ])):=(Sub.bQ .refl hd).trans ((Sub.bQ .refl hρ).trans (.bQ .refl h0));rw[Oj];ext;show oA _ l1 _;rw[nG (sb _ _ h1)];refine NV K ha hd oS od.symm (λS' s'=>s' _ _ h1) `l xs (ds:=[]) (rs:=[]) (Ds:=[]) (Rs:=[]) hx ho hs gx go `l (by simp;lia) (by simp;lia) sb ?_ nv .nil .nil ⟨ρd,oρ.symm,?_,by rw[oz ρd]at hρ;exact hρ⟩ (λgk S' ds rs y4 y6 y7 s' g1 g2 g3 g4=>?_) λng σ S' s'=>hX rfl (λg=>ng g.ok) _ s'
  ·rw[oz od.symm,oz ρd.symm,nv];rfl
  ·rw[oz oρ.symm,nv]
  ·rw[M5];ext;exact⟨`d,_, .refl,h rfl ⟨gx,go,gk⟩ S' d o ⟨s',hd,oS,od.symm,ds,rs,g1,g2,g3,g4⟩⟩
end
section
variable {ws:List ah}{B:List Tn}{g:Tr}
def Sh.ne (K:Bk3 ws B) (h:Sh ws B g):g.ne B=0:=by
 have:=(K.ak h.wy).2.2.1;rwa [h.q]at this
end
theorem JK:∀{ts:List Tr}{u:Tr},rF ts=true→u∈ts→u.dM=true
 |t::ts,u,h,hu=>by
  rw[rF,bN]at h;obtain rfl |hu:=aB.mp hu
  ·exact h.1
  ·exact JK h.2 hu
theorem Jl:∀(os:List Tr) {x:Tr},uP B x os→(b9 B x).aE=true→(b9 B (rb B x os)).aE=true
 | [],x,_,h=>h
 |o::os,x,⟨l1,l2⟩,h=>Jl os l2 l1
theorem GP (K:Bk3 ws B):∀(xs os:List Tr) {t:Tr},ov ws B t xs→ov ws B t os→xJ B xs os→(∀x∈xs,(b9 B x).aE=true)→ ∀u∈pV B xs os,(b9 B u).aE=true
 | [],os,t,_,_,_,_,u,hu=>by cases hu
 |x::xs,os,t,⟨x1,x2,x3⟩,ho,⟨g1,g2⟩,gx,u,hu=>by
  rw[pV]at hu;obtain e |e:=aB.mp hu
  ·rw[e];exact Jl os g1 (gx x aI)
  ·exact GP K xs _ x3 (xn K os x1 x2 ho).1 g2 (λv hv=>gx v (aG _ hv)) u e
theorem CS:∀(us:List Tr) {t:Tr},ov ws B t us→t.aE=true→(∀x∈us,(b9 B x).aE=true)→ ∀u∈us,Wy ws B u∧(ak B u).aE=true
 | [],t,_,_,_,u,hu=>by cases hu
 |x::us,t,⟨x1,x2,x3⟩,hs,g,u,hu=>by
  obtain e |e:=aB.mp hu
  ·rw[e];exact⟨x1,by rw[x2];exact hs⟩
  ·exact CS us x3 (g x aI) (λv hv=>g v (aG _ hv)) u e
theorem DO:∀(us:List Tr) {t:Tr},t.aE=true→(∀x∈us,(b9 B x).aE=true)→(pP B t us).aE=true
 | [],t,hs,_=>hs
 |x::us,t,hs,g=>DO us (g x aI) λv hv=>g v (aG _ hv)
section
variable {ws:List ah}{B:List Tn}{x t t':Tr}{a l l1 l2:ai}{r:Nat}{xs os:List Tr}{S:kB}{Q:WK}{X:ah→kB→Prop}
def Ll (K:Bk3 ws B) (hl:S l=aa (.bJ (xs.map j8))) (tx:∀x∈xs,Wy ws B x∧(ak B x).aE=true) (hn:xs.length≤1000) (hr:62≤r) (h:Q (.bl (xs.all Tr.dM)) S):wA (r+1) [.ref l] S Q X:=by
 rw[wA];ext;rw[nG hl];right
 refine qk (λσ=>∃y,σ=[y]) j8 (λx=>W.bl x.dM) hl xs [] _ ⟨none,rfl⟩ (by simp;lia) (λx hx σ R hI hR=>?_) ?_
 ·obtain⟨y,rfl⟩:=hI;obtain⟨h1,h2⟩:=tx x hx;obtain⟨d1,w1,_,_⟩:=K.fitw h1 h2;rw[JF];ext;exact L2.LV 40 d1 `l (h1.len K) `l (hR _ _ ⟨_,rfl⟩ .refl)
 ·rw[aM,JC];refine⟨_, .refl,?_⟩;rw[fD];exact h
def Tw (K:Bk3 ws B) (ha:S a=aa (.bJ (B.map nz))) (hl:S l=aa (.bJ (xs.map j8))) (tx:∀x∈xs,Wy ws B x∧(ak B x).aE=true) (gx:∀x∈xs,(b9 B x).aE=true) (hr:64≤r) (h:Q (j8 (pP B t xs)) S):Bk (r+1) [.ref a, .bT [j8 t, .ref l]] S Q X:=by
 rw[Bk,u0];refine⟨rfl,?_⟩;rw[KJ];ext;rw[show nW [j8 t,W.ref l] 1=aa (.ref l) from rfl];ext;rw[nG hl];obtain rfl |⟨ys,u,rfl⟩:=kx xs
 ·exact⟨_, .refl,h⟩
 ·rw[kP]at *;have hne:((ys++[u]).map j8).isEmpty=false:=by simp
  obtain⟨h1,h2⟩:=tx u `s;have h3:=gx u `s;rw[zE]at h
  try rw[hne]
  rw[if_neg `d,O2];ext;rw[show nW [j8 t,W.ref l] 1=aa (.ref l) from rfl];ext;rw[bC]at hl;rw[nG hl,show [u].map j8=[j8 u] from rfl,Db];right
  exact K.ok_goalX h1 h2 ha `l (λ_=>⟨_, .refl,h⟩) λz=>by rw[h3]at z;cases z
def Vg (K:Bk3 ws B) (ha:S a=aa (.bJ (B.map nz))) (h1:S l1=aa (.bJ (xs.map j8))) (h2:S l2=aa (.bJ (os.map j8))) (hx:ov ws B t xs) (ho:ov ws B t' os) (hs:t.aE=true) (nx:xs.length≤700) (no:os.length≤700) (hr:75≤r)
  (hA:t≠t'→X "Apart" S) (hX:t=t'→ ¬pO B xs os→ ∀S',Sub S S'→X "TooGreat" S')
  (h:t=t'→pO B xs os→ ∀S',Sub S S'→Q (.bl ((pV B xs os).all Tr.dM)) S'):Cq (r+1) [.ref a, .bT [j8 t, .ref l1], .bT [j8 t', .ref l2]] S Q X:=by
 right
 rw[Cq];ext;refine Jt K ha h1 h2 hx ho hs nx no `l hA hX λet gg S1 d o g=>?_;subst et;obtain⟨ds,rs,g1,g2,g3,g4⟩:=g.ex;refine M' g1 nx g3 λq hq=>?_;refine Ll K nv (CS _ (yD K xs os hx ho) (DO os hs gg.go) (GP K xs os hx ho gg.ok gg.gx)) (by rw[AB];lia) `l ?_;exact⟨_, .refl,h rfl gg _ (g.sub.trans (.bQ .refl hq))⟩
def KH (K:Bk3 ws B) (ha:S a=aa (.bJ (B.map nz))) (h1:S l1=aa (.bJ (xs.map j8))) (h2:S l2=aa (.bJ (os.map j8))) (hx:ov ws B t xs) (ho:ov ws B t' os) (hs:t.aE=true) (nx:xs.length≤700) (no:os.length≤700) (hr:75≤r)
  (hA:t≠t'→X "Apart" S) (hX:t=t'→ ¬pO B xs os→ ∀S',Sub S S'→X "TooGreat" S')
  (h:t=t'→pO B xs os→ ∀S' q,Sub S S'→S q=none→S' q=aa (.bJ ((pV B xs os).map j8))→Q (.bT [j8 (pP B t os), .ref q]) S'):Ab (r+1) [.ref a, .bT [j8 t, .ref l1], .bT [j8 t', .ref l2]] S Q X:=by
 right
 rw[Ab,u0];refine⟨rfl,?_⟩;rw[Lb];ext;refine Jt K ha h1 h2 hx ho hs nx no `l hA hX λet gg S1 d o g=>?_;subst et;obtain⟨ds,rs,g1,g2,g3,g4⟩:=g.ex;refine M' g1 nx g3 λq hq=>?_;have sb:Sub S (bQ S1 q (.bJ ((pV B xs os).map j8))):=g.sub.trans (.bQ .refl hq);have q0:S q=none:=Bm g.sub hq;have fq:bQ S1 q (.bJ ((pV B xs os).map j8)) q=aa (.bJ ((pV B xs os).map j8)):=nv;generalize bQ S1 q (.bJ ((pV B xs os).map j8))=S2 at sb fq⊢;rw[Kv];ext;refine Tw K (sb _ _ ha) (sb _ _ h2) (CS os ho hs gg.go) gg.go `l ?_;exact⟨`d,_, .refl,h rfl gg _ q sb q0 fq⟩
end
section
variable {B:List Tn}{S:kB}{Q:WK}{E:ah→kB→Prop}{a:ai}{r:Nat}
def RQ (hr:R.depth+6≤r) (hw:R.ao≤1000) (h:∀a,S a=none→Q (.ref a) (bQ S a (.bJ ((rz R i).map mZ)))):BR (r+1) [j8 R, .int i] S Q E:=by
 obtain⟨r,rfl⟩:∃r',r=r'+3:=⟨r - 3,`l⟩
 rw[BR];ext;refine Dq `l `l λb hb=>?_;ext;have hl:=wu R;refine BN (λσ=>∃x,σ=[x,aa (.int i),aa (j8 R)]) (λx:List Int×Tr=>mZ x.1) (λx=>mZ x.1) (λx=>x.2.num == (i:Int)) nv R.bls [] _ ⟨none,rfl⟩ (by simp;lia) (λx hx σ R1 R0 hI h1 h0=>?_) ?_
 ·obtain⟨y,rfl⟩:=hI;obtain⟨g1,g2,_⟩:=xY hx;ext;refine FT g1 ?_;rw[g2];simp only[j8];ext;cases e:(x.2.num == (i:Int)) with
  |true=>
   have g3:(Tr.bl x.2.num).num=x.2.num:=rfl
   try simp only[if_true]
   rw[Jj]
   try ext
   exact h1 e _ _ ⟨_,rfl⟩ .refl
  |false=>
   try simp only[cZ,if_false]
   exact h0 e _ _ ⟨_,rfl⟩ .refl
 ·rw[aM];intro c hc;obtain⟨hb1,hb2⟩:=rZ hc;have:=h c hb1;unfold rz at this;rw[bh]at this;exact⟨_, .put2 (.bQ .refl hb),this⟩
def vG (B:List Tn) (a:ai) (x:Tr) (c:m8):Prop:=∀{S:kB}{Q:WK}{E:ah→kB→Prop}{q:List Int}{v:Tr},S a=aa (.bJ (B.map nz))→(ak B x).at q=aa v→q.length≤1000→(∀f,S f=none→Q (.ref f) (bQ S f (.bJ ((x.lou B q).map mZ))))→c [.ref a,j8 x,mZ q] S Q E
theorem HZ{f g:ai}{l:List (List Int)}{EX:WX}{D:nC}{G:kB→Prop}{S1:kB}{y0 y1 y2 y3 y5 y6:Option W}(hg:S1 g=aa (.bJ (l.map mZ))) (hf:S1 f=none) (hG:∀o,G (bQ S1 f o)) (hl:∀p∈l,p.length≤1000):∀(bs:List (List Int)) {L:List (List Int)}{y8:Option W},(∀b∈bs,b.length≤1000)→L.length+bs.length*l.length≤900000→
  (∀z8,D.nx [y0,y1,y2,y3,aa (.ref f),y5,y6,aa (.ref g),z8] (bQ S1 f (.bJ ((L++bs.flatMap λb=>l.map (b++ ·)).map mZ))))→
  nI (mU 8) (Dz r nc) EX D G (bs.map mZ) [y0,y1,y2,y3,aa (.ref f),y5,y6,aa (.ref g),y8] (bQ S1 f (.bJ (L.map mZ)))
 | [],L,y8,_,hn,h=>by
  have:=h y8;rw[dy,bf]at this;exact this
 |b::bs,L,y8,hb,hn,h=>by
  rw[aT,cA,cg]at hn;have fg:f≠g:=by rintro rfl;rw[hg]at hf;cases hf
  have hg':∀o,bQ S1 f o g=aa (.bJ (l.map mZ)):=λo=>by rw[oz (bG fg)];exact hg
  rw[az];refine rJ λN hN=>?_;rw[sj,Dz];ext;rw[nG (hg' _)];refine qk (λσ=>∃z,σ=[z,aa (mZ b)]) mZ (λp=>mZ (b++p)) (hg' _) l [] _ ⟨none,rfl⟩ (by simp;lia) (λp hp σ R hI hR=>?_) ?_
  ·obtain⟨z,rfl⟩:=hI;rw[sj,HY];ext;have h1:=hb b aI;have h2:=hl p hp;unfold mZ;ext;have:=hR _ _ ⟨aa (mZ p),rfl⟩ .refl;unfold mZ at this;rw[bC]at this;exact⟨nH (by simp;lia),this⟩
  ·rw[aM]
   try ext
   have e1:L.map mZ++l.map (λp=>mZ (b++p))=(L++l.map (b++ ·)).map mZ:=by rw[bC,bh];rfl
   rw[e1];refine⟨nH (by simp;lia),hN _ _ _ .refl (hG _) ?_⟩;refine HZ hg hf hG hl bs (λc hc=>hb c (aG _ hc)) (by rw[aW,ay];lia) λz8=>?_;have:=h z8;rw[cD,←bE]at this;exact this
def BY (h:a≠b):bQ (bQ S a o) b o'=bQ (bQ S b o') a o:=by
 funext c;unfold bQ;by_cases h1:c=b
 ·subst h1;rw[if_pos rfl,if_neg (bG h),if_pos rfl]
 ·rw[if_neg h1];by_cases h2:c=a
  ·rw[if_pos h2,if_pos h2]
  ·rw[if_neg h2,if_neg h2,if_neg h1]
def OQ{s:ah}{ts:List Tr}{i:Nat}{x:Tr}(h:ts[i]? =aa x):nW (W.str s::af ts) ((i:Int)+1)=aa (j8 x):=by
 rw[show((i:Int)+1)=((i+1:Nat):Int) by lia]
 refine LO ?_;rw[bW,qc,aV,h];rfl
def XZ{s:ah}{ts:List Tr}{i:Nat}{x:Tr}(h:ts[i]? =aa x) (q:Q (j8 x) S):m4 (j8 (.nd s ts)) (.int ((i:Int)+1)) S Q:=by
 rw[show j8 (.nd s ts)= .bT (.str s::af ts) by simp [j8],Bw,OQ h]
 exact q
def Uj (q:Q (j8 t.2.2) S):m4 (nz t) (.int 2) S Q:=by
 unfold nz;rw[Bw,show nW [W.str t.1,j8 t.2.1,j8 t.2.2] 2=aa (j8 t.2.2) from rfl];exact q
def Z2 (q:Q (j8 t.2.1) S):m4 (nz t) (.int 1) S Q:=by
 unfold nz;rw[Bw,show nW [W.str t.1,j8 t.2.1,j8 t.2.2] 1=aa (j8 t.2.1) from rfl];exact q
noncomputable def ye (B:List Tn) (t:Tn) (i:Nat) (x:Tr) (e q:List Int):List (List Int):=if q.take e.length=e then(rz t.2.2 i).flatMap λb=>(x.lou B (q.drop e.length)).map (b++ ·) else []
def Ug{t:Tn}{ts:List Tr}{x:Tr}{cT:m8}{i:Nat}{e q:List Int}{f:ai}{L:List (List Int)}{EX:WX}{D:nC}{S1:kB}{y7 y8:Option W}(hx:ts[i]? =aa x) (hc:vG B a x cT) (ha:S1 a=aa (.bJ (B.map nz))) (hf:S1 f=none)
  (hv:q.take e.length=e→(∃v,(ak B x).at (q.drop e.length)=aa v)∧ ∀p∈x.lou B (q.drop e.length),p.length≤1000) (he:e.length≤1000) (hq:q.length≤1000) (hR:t.2.2.depth≤4∧t.2.2.ao≤7) (hr:12≤r) (hn:L.length+7*(x.lou B (q.drop e.length)).length≤900000)
  (h:∀S' z7 z8,Sub (bQ S1 f (.bJ ((L++ye B t i x e q).map mZ))) S'→D.nx [aa (.ref a),aa (j8 (.nd t.1 ts)),aa (mZ q),aa (nz t),aa (.ref f),aa (.int i),aa (mZ e),z7,z8] S') :
  yU r cT EX D [aa (.ref a),aa (j8 (.nd t.1 ts)),aa (mZ q),aa (nz t),aa (.ref f),aa (.int i),aa (mZ e),y7,y8] (bQ S1 f (.bJ (L.map mZ))):=by
 have fa:f≠a:=by rintro rfl;rw[ha]at hf;cases hf
 rw[yU];have eq1:mZ q= .bT (q.map W.int):=rfl;have ee1:mZ e= .bT (e.map W.int):=rfl;simp only[eq1,ee1];ext;have et:nW [W.str t.1,j8 t.2.1,j8 t.2.2] 2=aa (j8 t.2.2):=rfl;have ct:(q.map W.int).take e.length=(q.take e.length).map W.int:=by rw[lE]
 have cd:(q.map W.int).drop e.length=(q.drop e.length).map W.int:=by rw[mw]
 rw[ay,EQ,ct];rw[show oq (bQ S1 f (.bJ (L.map mZ))) 60 (.bT ((q.take e.length).map W.int)) (.bT (e.map W.int))=aa (decide (q.take e.length=e)) from DC (n:=58) _ _];by_cases hq':q.take e.length=e
 ·obtain⟨⟨v,hv⟩,hp⟩:=hv hq';rw[decide_eq_true hq']
  try simp only[if_true]
  refine XZ hx ?_;rw[Ec,cd];refine hc (q:=q.drop e.length) (by rw[oz (bG fa)];exact ha) hv (by rw[de];lia) λg hg=>?_;obtain⟨hg1,hg2⟩:=rZ hg;refine Uj ?_;right
  refine RQ `l `l λk hk=>?_;obtain⟨hk1,hk2⟩:=rZ hk;obtain⟨hk3,hk4⟩:=rZ hk1;dsimp only;rw[nG nv];have sb:Sub S1 (bQ (bQ S1 g (.bJ ((x.lou B (q.drop e.length)).map mZ))) k (.bJ ((rz t.2.2 i).map mZ))):=(Sub.bQ .refl hg1).trans (.bQ .refl (by rw[oz hk2];exact hk3));rw[BY (S:=S1) hg2.symm,BY hk4.symm];have pl:(rz t.2.2 i).length≤7:=by
   unfold rz;rw[ay];have:=wu t.2.2;exact aX (gR _ _) `l
  refine HZ (by rw[oz hk2.symm,nv]) (by rw[oz hk4.symm,oz hg2.symm];exact hf) (λo=>by rw[oz hk4,nv]) hp (rz t.2.2 i) (λb hb=>?_) ?_ λz8=>?_
  ·have:=xa b (qu.mp hb);lia
  ·have:=dB (x.lou B (q.drop e.length)).length pl;lia
  ·refine h _ _ _ ?_;unfold ye;rw[if_pos hq'];exact BL sb
 ·rw[decide_eq_false hq'];have:=h (bQ S1 f (.bJ (L.map mZ))) y7 y8;unfold ye at this;rw[if_neg hq',bf]at this;exact this .refl
def zyH{G:kB→Prop}(ha:S1 a=aa (.bJ (B.map nz))) (hf:S1 f=none) (hG:∀o,G (bQ S1 f o)) (hq:q.length≤1000) (hR:t.2.2.depth≤4∧t.2.2.ao≤7) (hr:12≤r) :
  ∀(xs:List Tr) (es:List (List Int)) (i:Nat) {L:List (List Int)}{y5 y6 y7 y8:Option W},xs.length=es.length→(∀j,(t.2.1.bls.map λz=>z.1)[i+j]? =es[j]?)→(∀j x,xs[j]? =aa x→ts[i+j]? =aa x∧vG B a x cT∧ ∀e,es[j]? =aa e→e.length≤1000∧(q.take e.length=e→(∃v,(ak B x).at (q.drop e.length)=aa v)∧ ∀p∈x.lou B (q.drop e.length),p.length≤1000)∧(x.lou B (q.drop e.length)).length≤20000)→L.length+xs.length*140000≤500000→
  (∀S' z5 z6 z7 z8,Sub (bQ S1 f (.bJ ((L++r_ B t i xs q).map mZ))) S'→D.nx [aa (.ref a),aa (j8 (.nd t.1 ts)),aa (mZ q),aa (nz t),aa (.ref f),z5,z6,z7,z8] S')→
  nI (p6 (ow (mU 5) (ow (mU 6) pS))) (yU r cT) EX D G (nums i (es.map mZ)) [aa (.ref a),aa (j8 (.nd t.1 ts)),aa (mZ q),aa (nz t),aa (.ref f),y5,y6,y7,y8] (bQ S1 f (.bJ (L.map mZ))):=by
 intro xs
 induction xs with
 |nil=>
  intro es i L y5 y6 y7 y8 hl _ _ _ h;cases es with
  |cons=>cases hl
  |nil=>
  rw[r_,bf]at h;exact h _ _ _ _ _ .refl
 |cons x xs ih=>
  intro es i L y5 y6 y7 y8 hl hb hx n1 h;cases es with
  |nil=>cases hl
  |cons e es=>
  obtain⟨g1,g2,g3⟩:=hx 0 x rfl;obtain⟨g4,g5,g7⟩:=g3 e rfl;have he:(t.2.1.bls.map λz=>z.1)[i]? =aa e:=hb 0;rw[aT]at n1;rw[az,nums];refine rJ λN hN=>?_;rw[G8];show ow (mU 5) (ow (mU 6) pS) [.int i,mZ e] _ _ _;rw[B'];show mU 5 _ _ _ _;rw[sj,B'];show mU 6 _ _ _ _;rw[sj,E3];show yU r cT _ _ [aa (.ref a),aa (j8 (.nd t.1 ts)),aa (mZ q),aa (nz t),aa (.ref f),aa (.int i),aa (mZ e),y7,y8] _;refine Ug g1 g2 ha hf g5 g4 hq hR hr `l λS' z7 z8 s'=>?_;refine hN _ _ _ s' (hG _) ?_;have el:r_ B t i (x::xs) q=ye B t i x e q++r_ B t (i+1) xs q:=by
   rw[r_,he];rfl
  have ll:(ye B t i x e q).length≤140000:=by
   unfold ye;split
   ·have h1:=Ea (f:=λb=>(x.lou B (q.drop e.length)).map (b++ ·)) (k:=20000) (rz t.2.2 i) λb _=>by rw[ay];exact g7
    have h2:(rz t.2.2 i).length≤7:=by
     unfold rz;rw[ay];have:=wu t.2.2;exact aX (gR _ _) `l
    have:=dB 20000 h2;lia
   ·exact aU _
  refine ih es (i+1) (by simpa using hl) (λj=>?_) (λj y hy=>?_) (by rw[aW];lia) λS2 z5 z6 z7 z8 s2=>h S2 z5 z6 z7 z8 ?_
  ·have:=hb (j+1);rw[bW]at this;rw[←this];congr 1;lia
  ·have:=hx (j+1) y (by rw[bW];exact hy);rw[bW]at this;rw[show i+1+j=i+(j+1) by lia]
   exact this
  ·rw[el,←bE];exact s2
end
mutual
theorem OJ:∀t:Tr,t.sd≤t.depth
 | .bl n=>by rw[Tr.sd];exact aU _
 | .nd s ts=>by
  have:=Mi ts;rw[Tr.sd,Tr.depth];lia
theorem Mi:∀ts:List Tr,sD ts≤nL ts
 | []=>by rw[sD];exact aU _
 |t::ts=>by
  have h1:=OJ t;have h2:=Mi ts;rw[sD,nL];lia
end
theorem Bk3.gol_dp (K:Bk3 ws B):∀(n:Nat) {x:Tr},x.ao≤n→Wy ws B x→(L2.b9 B x).depth≤4*x.depth
 |0,x,hn,hx=>by have:=tu x;lia
 |n+1,x,hn,hx=>by
  have sup:∀(ts:List Tr),(∀y∈ts,(L2.b9 B y).depth≤4*y.depth)→nL (ts.map (L2.b9 B))≤4*nL ts:=λts=>by
   induction ts with
   |nil=>intro _;simp [nL]
   |cons y ts ih=>
    intro h;have h1:=h y aI;have h2:=ih λz hz=>h z (aG _ hz);rw[az,nL,nL];lia
  obtain ⟨s,ts,rfl,hh,e,k⟩ |⟨t,ts,ht,rfl,e,hl,k⟩:=Wy.cases K.b hx
  ·rw[Tr.ao]at hn;have:=sup ts λy hy=>Bk3.gol_dp K n (by have:=pk hy;lia) (k y hy);rw[L2.b9,qD e,Tr.depth,Tr.depth];show 1+nL (ts.map (L2.b9 B))≤_;lia
  ·rw[Tr.ao]at hn;have h1:=sup ts λy hy=>Bk3.gol_dp K n (by have:=pk hy;lia) (k y hy);have h2:=FZ (us:=ts.map (L2.b9 B)) t.2.2 (by rw[ay,hl];exact(K.b.ri t ht).br);have h3:=OJ t.2.2;have h4:=(K.b.ri t ht).dp;rw[L2.b9,qy e,Tr.depth];show(t.2.2.aD (ts.map (L2.b9 B))).depth≤_;lia
def m3.bls7 (c:m3 w0 w1 w2 w3 w4 w5 tt B):∀t∈B,t.2.2.bls.length≤7:=λt ht=>aX (wu _) (c.b.ri t ht).wt
def m3.ok_lbelow (c:m3 w0 w1 w2 w3 w4 w5 tt B) (ht:t∈B) (hl:ts.length=t.2.1.nb) (hx:∀x∈ts,Wy [w0,w1,w2,w3,w4,w5] B x∧vG B a x cT∧x.ne B≤5∧x.depth≤100) (ha:S a=aa (.bJ (B.map nz))) (hv:(ak B (.nd t.1 ts)).at q=aa v) (hq:q.length≤1000) (hr:20≤r)
  (h:∀f,S f=none→Q (.ref f) (bQ S f (.bJ ((r_ B t 0 ts q).map mZ)))):C_ cT (r+1) [.ref a,j8 (.nd t.1 ts),mZ q,nz t] S Q E:=by
 have et:=rK c.K.b.nd ht;have es:ak B (.nd t.1 ts)=t.2.1.aD (ts.map (ak B)):=by rw[ak,qy et]
 have hL:=c.K.b.lf t ht;have K1:=hL.wt;have K2:=hL.nb;have K3:=hL.dp;have R1:=(c.b.ri t ht).wt;have R2:=(c.b.ri t ht).dp;rw[C_];ext;refine⟨aU _,λf hf=>?_⟩;refine Z2 ?_;right
 refine Dq `l `l λz hz=>?_;obtain⟨hz1,hz2⟩:=rZ hz;rw[C7,nG nv,BY hz2.symm];have sb:Sub S (bQ S z (.bJ (t.2.1.bls.map λx=>mZ x.1))):= .bQ .refl hz1;have fa:f≠a:=by rintro rfl;rw[ha]at hf;cases hf
 have e0:(t.2.1.bls.map λx=>mZ x.1)=(t.2.1.bls.map λx=>x.1).map mZ:=by rw[bh];rfl
 have bl:ts.length=(t.2.1.bls.map λx=>x.1).length:=by rw[ay,FO,hl]
 generalize hzs:(t.2.1.bls.map λx=>mZ x.1)=zs at *;rw[show nums 0 zs=nums 0 ((t.2.1.bls.map λx=>x.1).map mZ) by rw[e0]]
 refine zyH (B:=B) (a:=a) (r:=r+1) (t:=t) (ts:=ts) (cT:=cT) (q:=q) (f:=f) (S1:=bQ S z (.bJ zs)) (G:=λS'=>S' z=aa (.bJ zs)) (L:=[]) (y5:=none) (y6:=none) (y7:=none) (y8:=none) (sb _ _ ha) (by rw[oz hz2.symm];exact hf) (λo=>by rw[oz hz2,nv]) hq ⟨R2,R1⟩ `l ts (t.2.1.bls.map λx=>x.1) 0 bl (λj=>by rw[bI]) (λj x hj=>?_) (by rw[dU,hl];lia) λS' z5 z6 z7 z8 s'=>?_
 rotate_left
 ·rw[aM]at s';ext;exact⟨_,(BL sb).trans s',h f hf⟩
 ·have hm:=aN hj;obtain⟨g1,g2,g3,g4⟩:=hx x hm;refine⟨by rw[bI];exact hj,g2,λe he=>?_⟩;have hat:=(c.bl ht).mpr he;have hel:=xa e hat;have hsr:∀q',q=e++q'→(ak B x).at q'=aa v:=λq' hq'=>by
   have a1:(ak B (.nd t.1 ts)).at e=aa (ak B x):=by
    rw[es,zn e hat (by rw[ay,hl];exact hL.br),bn,aV,hj];rfl
   rw[hq',xf e _ a1]at hv;exact hv
  refine⟨`l,λhq'=>?_,?_⟩
  ·have h1:=hsr (q.drop e.length) (by conv=>lhs;rw[←ig e.length q,hq']);refine⟨⟨v,h1⟩,λp hp=>?_⟩;obtain⟨v',h2⟩:=c.lou_at _ (aA _) g1 h1 hp;have h3:=xa p h2;have h4:=c.K.gol_dp _ (aA _) g1;lia
  ·exact aX (xQ c.bls7 x _) (aX (dj `d g3) `d)
def m3.lou_s (c:m3 w0 w1 w2 w3 w4 w5 tt B) (e:nF B s=none) (hc:∀x∈ts,vG B a x (rR r)) (hl:∀x∈ts,∀q,(x.lou B q).length≤20000) (hp:∀x∈ts,∀q v,(ak B x).at q=aa v→ ∀p∈x.lou B q,p.length≤1000):vG B a (.nd s ts) (rR (r+2)):=λ{S Q E q v} ha hv hq h=>by
 have es:ak B (.nd s ts)= .nd s (ts.map (ak B)):=by rw[ak,qD e]
 rw[es]at hv;have ex:j8 (.nd s ts)= .bT (.str s::af ts):=by simp [j8]
 rw[rR,ex];left;refine uc ha ?_;rw[e];simp only[oW]
 try left
 refine⟨aU _,?_⟩;rw[PV];cases q with
 |nil=>
  rw[BV e]at h;exact⟨aU _,`d,λf hf=>⟨_, .refl,h f hf⟩⟩
 |cons i q=>
  simp only[kw,cZ,if_false];obtain⟨w,h0,h1,h2⟩:=rm hv;obtain⟨i,rfl⟩:∃i':Nat,i=i':=⟨i.toNat,`l⟩
  rw[bn,aV]at h1;cases ei:ts[i]? with
  |none=>rw[ei]at h1;cases h1
  |some x=>
   rw[ei]at h1;cases h1;have hx:=aN ei;rw[vx e ei]at h;rw[aT]at hq;have ep:mZ ((i:Int)::q)= .bT (.int i::q.map W.int):=rfl;simp only[ep];left;rw[OQ ei];dsimp only
   try left
   refine hc x hx (q:=q) ha h2 `l λg hg=>?_;dsimp only;rw[nG nv];have l1:=hl x hx q;refine qk (λσ=>∃z,σ=[z,aa (.int i)]) mZ (λp=>mZ ((i:Int)::p)) nv (x.lou B q) [] _ ⟨none,rfl⟩ (by simp;lia) (λp hp' σ R hI hR=>?_) ?_
   ·obtain⟨z,rfl⟩:=hI;rw[sj,MC];have l2:=hp x hx q _ h2 p hp';have:=hR [aa (mZ p),aa (.int i)] S ⟨_,rfl⟩ ;left;unfold mZ;left;have:=hR [aa (mZ p),aa (.int i)] _ ⟨_,rfl⟩ .refl;unfold mZ at this;rw[az]at this;exact⟨`d,nH (by simp;lia),this⟩
   ·rw[aM];intro f hf;obtain⟨hf1,hf2⟩:=rZ hf;have:=h f hf1;rw[bh]at this;exact⟨_, .put2 (.bQ .refl hg),this⟩
def m3.lou_t (c:m3 w0 w1 w2 w3 w4 w5 tt B) (ht:t∈B) (hl:ts.length=t.2.1.nb) (hx:∀x∈ts,Wy [w0,w1,w2,w3,w4,w5] B x∧vG B a x (rR r)∧x.ne B≤5∧x.depth≤100) (hr:20≤r):vG B a (.nd t.1 ts) (rR (r+2)):=λ{S Q E q v} ha hv hq h=>by
 have et:=rK c.K.b.nd ht;rw[yN et]at h;have ex:j8 (.nd t.1 ts)= .bT (.str t.1::af ts):=by simp [j8]
 rw[rR,ex];left;refine uc ha ?_;rw[et];simp only[oW];rw[←ex]
 try left
 have isT:∀K:WK,K (.bl true) S→p8 true (nz t) .b_ S K:=λK q=>by
  unfold nz;rw[HE];exact q
 refine isT _ ?_;dsimp only;rw[if_pos rfl];exact c.ok_lbelow ht hl hx ha hv hq `l λf hf=>⟨_, .refl,h f hf⟩
theorem m3.ok_lou (c:m3 w0 w1 w2 w3 w4 w5 tt B):∀(n:Nat) {x:Tr}{r:Nat},x.depth≤n→n≤100→2*n+22≤r→Wy [w0,w1,w2,w3,w4,w5] B x→x.ne B≤5→vG B a x (rR r)
 |0,x,r,hn,_,hr,hx,he=>by have:=qK x;lia
 |n+1,x,r,hn,h100,hr,hx,he=>by
  obtain⟨r',er⟩:∃r',r=r'+2:=⟨r - 2,`l⟩
  have e1:rR r=rR (r'+2):=by rw[er]
  rw[e1];obtain ⟨s,ts,rfl,hh,e,k⟩ |⟨t,ts,ht,rfl,e,hl,k⟩:=Wy.cases c.K.b hx
  ·rw[Tr.depth]at hn;rw[J3 e]at he;have kid:∀x∈ts,x.depth≤n∧x.ne B≤5:=λx hx=>⟨by have:=p_ hx;lia,by have:=ya (B:=B) hx;lia⟩
   refine c.lou_s e (λx hx=>m3.ok_lou c n (kid x hx).1 `l `l (k x hx) (kid x hx).2) (λx hx q=>?_) λx hx q v hv p hp=>?_
   ·exact aX (xQ c.bls7 x q) (aX (dj `d (kid x hx).2) `d)
   ·obtain⟨v',h2⟩:=c.lou_at _ (aA _) (k x hx) hv hp;have h3:=xa p h2;have h4:=c.K.gol_dp _ (aA _) (k x hx);have:=(kid x hx).1;lia
  ·rw[Tr.depth]at hn;rw[M7 e]at he;exact c.lou_t ht hl (λx hx=>⟨k x hx,m3.ok_lou c n (by have:=p_ hx;lia) `l `l (k x hx) (by have:=ya (B:=B) hx;lia),by have:=ya (B:=B) hx;lia,by have:=p_ hx;lia⟩) `l
structure w_ (ws:List ah) (B:List Tn) (x:Tr):Prop where
  w:Wy ws B x
  d:x.depth≤40
  n:x.ne B≤5
theorem Hv{l:ai}{f:ai}{ps0:List (List Int)}{EX:WX}{D:nC}{S1:kB}{y2:Option W}(c:m3 w0 w1 w2 w3 w4 w5 tt B) (hx:w_ [w0,w1,w2,w3,w4,w5] B x) (ha:S1 a=aa (.bJ (B.map nz))) (hl:S1 l=aa (.bJ (ps0.map mZ))) (hf:S1 f=none) (hr:102≤r):∀(ps:List (List Int)) {L:List (List Int)}{y4:Option W},(∀p∈ps,p.length≤1000∧ ∃v,(ak B x).at p=aa v)→L.length+ps.length*7 ^ x.ne B≤900000→
  (∀z4,D.nx [aa (.ref a),aa (j8 x),y2,aa (.ref f),z4] (bQ S1 f (.bJ ((L++ps.flatMap (x.lou B)).map mZ))))→
  nI (mU 4) (DI r nc) EX D (λS'=>S' l=aa (.bJ (ps0.map mZ))) (ps.map mZ) [aa (.ref a),aa (j8 x),y2,aa (.ref f),y4] (bQ S1 f (.bJ (L.map mZ)))
 | [],L,y4,_,_,h=>by
  have:=h y4;rw[dy,bf]at this;exact this
 |p::ps,L,y4,hp,hn,h=>by
  have fa:f≠a:=by rintro rfl;rw[ha]at hf;cases hf
  have fl:f≠l:=by rintro rfl;rw[hl]at hf;cases hf
  obtain⟨p1,v,p2⟩:=hp p aI;have ll:=xQ c.bls7 x p;rw[aT,cA,cg]at hn;rw[az];refine rJ λN hN=>?_;rw[sj,DI];ext;refine c.ok_lou 40 hx.d `d `l hx.w hx.n (q:=p) (by rw[oz fa.symm];exact ha) p2 p1 λg hg=>?_;obtain⟨hg1,hg2⟩:=rZ hg
  try ext
  rw[BY hg2.symm];rw[nG nv,qr];rw[←bC];refine⟨nH (by rw[ay,ay];lia),hN _ _ (bQ S1 f (.bJ ((L++x.lou B p).map mZ))) (BL (.bQ .refl hg1)) (by rw[oz fl.symm];exact hl) ?_⟩;refine Hv c hx ha hl hf hr ps (λq hq=>hp q (aG _ hq)) (by rw[aW];lia) λz4=>?_;have:=h z4;rw[cD,←bE]at this;exact this
def m3.ok_still{S:kB}{Q:WK}{E:ah→kB→Prop}{l:ai}{ps:List (List Int)}(c:m3 w0 w1 w2 w3 w4 w5 tt B) (hx:w_ [w0,w1,w2,w3,w4,w5] B x) (ha:S a=aa (.bJ (B.map nz))) (hl:S l=aa (.bJ (ps.map mZ))) (hp:∀p∈ps,p.length≤1000∧ ∃v,(ak B x).at p=aa v) (hn:ps.length*7 ^ x.ne B≤900000) (hr:102≤r)
  (h:∀f,S f=none→Q (.ref f) (bQ S f (.bJ ((ps.flatMap (x.lou B)).map mZ)))):yt (r+1) [.ref a,j8 x, .ref l] S Q E:=by
 rw[yt];ext;refine⟨aU _,λf hf=>?_⟩;have fl:f≠l:=by rintro rfl;rw[hl]at hf;cases hf
 rw[nG (keep hl hf)];refine Hv (L:=[]) (y4:=none) c hx ha hl hf hr ps hp (by rw[dU];lia) λz4=>?_;ext;exact⟨_, .refl,h f hf⟩
theorem JQ{S:kB}{lw:ai}{xs0:List Tr}{EX:WX}{D:nC}{y1:Option W}(c:m3 w0 w1 w2 w3 w4 w5 tt B) (ha:S a=aa (.bJ (B.map nz))) (hl:S lw=aa (.bJ (xs0.map j8))) (hr:103≤r):∀(xs:List Tr) {X:Tr}{l:ai}{ps:List (List Int)}{y2 y4:Option W},(∀x∈xs,w_ [w0,w1,w2,w3,w4,w5] B x)→ov [w0,w1,w2,w3,w4,w5] B X xs→(∀p∈ps,p.length≤1000∧ ∃v,X.at p=aa v)→ps.length*7 ^ nR B xs≤900000→S l=none→
  (∀l' y2 z4,S l'=none→D.nx [aa (.ref a),y1,y2,aa (.ref l'),z4] (bQ S l' (.bJ ((p9 B xs ps).map mZ))))→
  nI (mU 4) (Ed r nc) EX D (λS'=>S' lw=aa (.bJ (xs0.map j8))) (xs.map j8) [aa (.ref a),y1,y2,aa (.ref l),y4] (bQ S l (.bJ (ps.map mZ)))
 | [],X,l,ps,y2,y4,_,_,_,_,h0,h=>h l y2 y4 h0
 |x::xs,X,l,ps,y2,y4,hx,⟨x1,x2,x3⟩,hp,hn,h0,h=>by
  have wx:=hx x aI;rw[nR,gX,←iR]at hn;have h7:=lD (nR B xs) 7 `d;have hn1:ps.length*7 ^ x.ne B≤900000:=aX (mG _ h7) hn;have fl:=Ea (f:=x.lou B) (k:=7 ^ x.ne B) ps λp _=>xQ c.bls7 x p;rw[az];refine rJ λN hN=>?_;rw[sj,Ed];ext;obtain⟨r',er⟩:∃r',r=r'+1:=⟨r - 1,`l⟩
  have e1:yt r=yt (r'+1):=by rw[er]
  rw[e1];refine c.ok_still wx (keep ha h0) nv (λp hp'=>?_) hn1 `l λg hg=>?_
  ·obtain⟨g1,v,g2⟩:=hp p hp';exact⟨g1,v,by rw[x2];exact g2⟩
  ·obtain⟨hg1,hg2⟩:=rZ hg;refine hN _ _ (bQ S g (.bJ ((ps.flatMap (x.lou B)).map mZ))) (.put2 (.bQ .refl h0)) ?_ ?_
   ·exact keep hl hg1
   ·refine JQ c ha hl hr xs (λy hy=>hx y (aG _ hy)) x3 (λp hp'=>?_) (aX (dB _ fl) hn) hg1 h;obtain⟨q,hq,hpq⟩:=d_.mp hp';obtain⟨g1,v,g2⟩:=hp q hq;obtain⟨v',g3⟩:=c.lou_at _ (aA _) x1 (by rw[x2];exact g2) hpq;have h3:=xa p g3;have h4:=c.K.gol_dp _ (aA _) x1;have:=wx.d;exact⟨`l,v',g3⟩
def ZA{S:kB}{l q:ai}{ps:List (List Int)}(hl:S l=aa (.bJ (ps.map mZ))) (hq:S q=aa (.bJ [])):oq S 60 (.ref l) (.ref q)=aa ps.isEmpty:=by
 show(match S l with
  |some (.bJ xs)=>match S q with
   |some (.bJ ys)=>oD (oq S 59) xs ys
   |_=>none
  |_=>none)=_
 rw[hl,hq];cases ps with
 |nil=>rfl
 |cons p ps=>rfl
def m3.ok_isdone{E:ah→kB→Prop}(c:m3 w0 w1 w2 w3 w4 w5 tt B) (hx:∀x∈xs,w_ [w0,w1,w2,w3,w4,w5] B x) (hR:ov [w0,w1,w2,w3,w4,w5] B X xs) (ha:S a=aa (.bJ (B.map nz))) (hl:S lw=aa (.bJ (xs.map j8))) (hq:X.at q=aa v) (hq1:q.length≤1000) (hn:nR B xs≤7) (hr:103≤r)
  (h:∀S',Sub S S'→Q (.bl (p9 B xs [q]).isEmpty) S'):B5 (r+1) [.ref a,mZ q, .ref lw] S Q E:=by
 rw[B5];ext;refine⟨`d,λl h0=>?_⟩;rw[nG (keep hl h0)];refine JQ (ps:=[q]) (y2:=aa (.ref lw)) (y4:=none) c ha hl hr xs hx hR (λp hp=>?_) ?_ h0 λl' y2 z4 hl'=>?_
 ·rw[bg.mp hp];exact⟨hq1,v,hq⟩
 ·have:=dj (n:=7) `d hn;rw[bZ,cg];exact aX this `d
 ·ext;refine⟨aU _,λz hz=>?_⟩;rw[ZA (keep nv hz) nv];exact⟨_, .refl,h _ ((Sub.bQ .refl hl').trans (.bQ .refl hz))⟩
noncomputable def tW (B:List Tn) (X:Tr) (xs:List Tr):Option (List Int):=((X.op B []).map λz=>z.1).find? λq=>(p9 B xs [q]).isEmpty
noncomputable def Q3:Option (List Int)→W
 |some q=>mZ q
 |none=> .b_
def m3.ok_first{E:ah→kB→Prop}(c:m3 w0 w1 w2 w3 w4 w5 tt B) (hx:∀x∈xs,w_ [w0,w1,w2,w3,w4,w5] B x) (hX:Sh [w0,w1,w2,w3,w4,w5] B X) (hs:X.aE=true) (hR:ov [w0,w1,w2,w3,w4,w5] B X xs) (ha:S a=aa (.bJ (B.map nz))) (hl:S lw=aa (.bJ (xs.map j8))) (hn:nR B xs≤7) (hr:110≤r)
  (h:∀S',Sub S S'→Q (Q3 (tW B X xs)) S'):Bs (r+1) [.ref a, .bT [j8 X, .ref lw]] S Q E:=by
 obtain⟨h3,h4⟩:=tB hs;have hol:=AI B X [];right
 rw[Bs];ext;refine zU c.L ha `l `l `l hX.hdT λq1 hq1=>?_;refine Fd nv `l λq2 hq2=>?_;have sb:Sub S (bQ (bQ S q1 (.bJ ((X.op B []).map encX))) q2 (.bJ (((X.op B []).map λx=>x.1).map mZ))):=(Sub.bQ .refl hq1).trans (.bQ .refl hq2);dsimp only;rw[nG nv];have f2:bQ (bQ S q1 (.bJ ((X.op B []).map encX))) q2 (.bJ (((X.op B []).map λx=>x.1).map mZ)) q2=aa (.bJ (((X.op B []).map λx=>x.1).map mZ)):=nv;generalize bQ (bQ S q1 (.bJ ((X.op B []).map encX))) q2 (.bJ (((X.op B []).map λx=>x.1).map mZ))=S2 at sb f2;have fs:∀ps:List (List Int),(ps.findSome? λq=>if(p9 B xs [q]).isEmpty then aa (mZ q) else none)=(ps.find? λq=>(p9 B xs [q]).isEmpty).map mZ:=λps=>by
  induction ps with
  |nil=>rfl
  |cons p ps ih=>
   rw[eH,b8];cases e:(p9 B xs [p]).isEmpty with
   |true=>rfl
   |false=>exact ih
 refine xF f2 (λσ=>∃z,σ=[aa (.ref a),aa (.bT [j8 X, .ref lw]),z]) mZ (λq=>if(p9 B xs [q]).isEmpty then aa (mZ q) else none) _ _ ⟨none,rfl⟩ (λq hq σ N hI h1 h2=>?_) (λe σ hI=>?_) λw e S' s'=>?_
 ·obtain⟨z,rfl⟩:=hI;obtain⟨y,hy,rfl⟩:=aL.mp hq;obtain⟨q',t,us,e1,o⟩:=Gc c.K _ (aA _) hX hy;rw[aM]at e1;have hd:=xa q' o.hat;rw[sj,LN];ext;rw[show nW [j8 X,W.ref lw] 1=aa (.ref lw) from rfl];dsimp only;refine c.ok_isdone hx hR (sb _ _ ha) (sb _ _ hl) (by rw[e1];exact o.hat) (by rw[e1];lia) hn `l λS3 s3=>?_;ext;cases e:(p9 B xs [y.1]).isEmpty with
  |true=>exact h2 _ (by rw[e];rfl) _ s3
  |false=>exact h1 (by rw[e];rfl) _ _ ⟨_,rfl⟩ s3
 ·ext;refine⟨_, .refl,?_⟩;have:=h _ sb;rw[fs]at e;unfold tW at this;cases e2:((X.op B []).map λz=>z.1).find? λq=>(p9 B xs [q]).isEmpty with
  |none=>rw[e2]at this;exact this
  |some p=>rw[e2]at e;cases e
 ·rw[fs]at e;have:=h _ (sb.trans s');unfold tW at this;cases e2:((X.op B []).map λz=>z.1).find? λq=>(p9 B xs [q]).isEmpty with
  |none=>rw[e2]at e;cases e
  |some p=>
   rw[e2]at e this;cases e;exact⟨_, .refl,this⟩
def m3.shs (c:m3 w0 w1 w2 w3 w4 w5 tt B) {x:Tr}(hx:Wy [w0,w1,w2,w3,w4,w5] B x):Sh [w0,w1,w2,w3,w4,w5] B (ak B x):=⟨(c.K.ak hx).1,(c.K.ak hx).2.1⟩
def m3.shg (c:m3 w0 w1 w2 w3 w4 w5 tt B) {x:Tr}(hx:Wy [w0,w1,w2,w3,w4,w5] B x):Sh [w0,w1,w2,w3,w4,w5] B (b9 B x):=⟨(c.K.b9 hx).1,(c.K.b9 hx).2.1⟩
def Pj{α:Type}{l:List α}(h:∀x,¬x∈l):l=[]:=by
 cases l with
 |nil=>rfl
 |cons x l=>exact absurd aI (h x)
def m3.up_ou (c:m3 w0 w1 w2 w3 w4 w5 tt B) {x:Tr}{q:List Int}(u:Up B x q):Wy [w0,w1,w2,w3,w4,w5] B x→(∃t us,Ou [w0,w1,w2,w3,w4,w5] B (ak B x) q t us)∧x.lou B q=[]:=by
 induction u with
 | @here h ts t e=>
  intro hx;have ht:t∈B:=bX e;have hh:t.1=h:=by simpa using fj e
  subst hh;have hl:ts.length=t.2.1.nb:=by
   have:=hx.ar;rw[Tr.ar]at this;exact this.1 t e
  have es:ak B (.nd t.1 ts)=t.2.1.aD (ts.map (ak B)):=by rw[ak,qy e]
  refine⟨⟨t,ts.map (ak B),ht,by rw[ay,hl],by rw[qU,es],λy hy=>?_⟩,Pj λq'=>c.lou_top ht⟩
  obtain⟨z,hz,rfl⟩:=aL.mp hy;exact c.shs (hx.cX z hz)
 | @sgn h ts i x q e hi _ ih=>
  intro hx;obtain⟨⟨t,us,o⟩,hl⟩:=ih (hx.cX x (aN hi));have es:ak B (.nd h ts)= .nd h (ts.map (ak B)):=by rw[ak,qD e]
  refine⟨⟨t,us,o.ht,o.hl,?_,o.sh⟩,by rw[vx e hi,hl];rfl⟩
  rw[es,t_ (show(ts.map (ak B))[i]? =aa (ak B x) by rw[aV,hi];rfl)]
  exact o.hat
 | @tit h ts t i x e q et he hi _ ih=>
  intro hx;obtain⟨⟨t',us,o⟩,hl⟩:=ih (hx.cX x (aN hi));have ht:t∈B:=bX et;have hh:t.1=h:=by simpa using fj et
  subst hh;have hn:ts.length=t.2.1.nb:=by
   have:=hx.ar;rw[Tr.ar]at this;exact this.1 t et
  have es:ak B (.nd t.1 ts)=t.2.1.aD (ts.map (ak B)):=by rw[ak,qy et]
  have a1:(ak B (.nd t.1 ts)).at e=aa (ak B x):=by
   rw[es,zn e he (by rw[ay,hn];exact(c.K.b.lf t ht).br),bn,aV,hi];rfl
  refine⟨⟨t',us,o.ht,o.hl,by rw[xf e _ a1];exact o.hat,o.sh⟩,Pj λq' h=>?_⟩
  obtain⟨b,r',_,h2,_⟩:=(c.lou_tit ht he hi).mp h;rw[hl]at h2;cases h2
theorem Lk (hB:∀t∈B,qC t.1):∀(q:List Int) {x v:Tr},x.hd px→x.at q=aa v→x.lou B q=[q]
 | [], .bl n,v,h,e=>by rw[Tr.hd]at h;exact h.elim
 | [], .nd s ts,v,h,e=>by
  rw[Tr.hd]at h;rw[BV (qh hB h.1)]
 |i::q, .bl n,v,h,e=>by cases e
 |i::q, .nd s ts,v,h,e=>by
  obtain⟨w,h0,h1,h2⟩:=rm e;obtain⟨i,rfl⟩:∃i':Nat,i=i':=⟨i.toNat,`l⟩
  rw[bn]at h1;rw[Tr.hd,nV]at h;rw[vx (qh hB h.1) h1,Lk hB q (h.2 w (aN h1)) h2];rfl
theorem N_:∀xs:List Tr,p9 B xs []=[]
 | []=>rfl
 |x::xs=>by rw[p9,dy];exact N_ xs
theorem m3.some_done (c:m3 w0 w1 w2 w3 w4 w5 tt B):∀(xs:List Tr) {X:Tr},ov [w0,w1,w2,w3,w4,w5] B X xs→xs.all Tr.dM=false→ ∃q t us,Ou [w0,w1,w2,w3,w4,w5] B X q t us∧p9 B xs [q]=[]
 | [],X,_,h=>by cases h
 |x::xs,X,⟨x1,x2,x3⟩,h=>by
  cases e:x.dM with
  |true=>
   rw[eV,e,iL]at h;have sg:=zA x e;have e1:ak B x=x:=Di c.K.b.ti x sg;have e2:b9 B x=x:=Di c.K.b.ti x sg;obtain⟨q,t,us,o,hd⟩:=m3.some_done c xs x3 h;rw[e2,←e1,x2]at o;refine⟨q,t,us,o,?_⟩;rw[p9,cD,dy,bf,Lk c.K.b.ti q sg (v:=t.2.1.aD us) (by rw[←e1,x2];exact o.hat)];exact hd
  |false=>
   have:¬ ∀q,¬Up B x q:=λz=>by
    rw[(c.up_quiet x1).mpr z]at e;cases e
   obtain⟨q,u⟩:=Classical.not_forall_not.mp this;obtain⟨⟨t,us,o⟩,hl⟩:=c.up_ou u x1;rw[x2]at o;refine⟨q,t,us,o,?_⟩;rw[p9,cD,dy,bf,hl];exact N_ xs
def m3.fst_some (c:m3 w0 w1 w2 w3 w4 w5 tt B) {X:Tr}{xs:List Tr}(hX:Sh [w0,w1,w2,w3,w4,w5] B X) (hR:ov [w0,w1,w2,w3,w4,w5] B X xs) (h:xs.all Tr.dM=false):∃q t us,tW B X xs=aa q∧Ou [w0,w1,w2,w3,w4,w5] B X q t us∧p9 B xs [q]=[]:=by
 obtain⟨q,t,us,o,hd⟩:=c.some_done xs hR h;have hm:=o.op c.K c.F;cases e:tW B X xs with
 |none=>
  unfold tW at e;have:=gr.mp e q hm;rw[hd]at this;exact absurd rfl this
 |some p=>
  have h1:=bX e;have h2:=fj e;obtain⟨y,hy,rfl⟩:=aL.mp h1;obtain⟨q',t',us',e1,o'⟩:=Gc c.K _ (aA _) hX hy;rw[aM]at e1;exact⟨y.1,t',us',rfl,by rw[e1];exact o',dv.mp h2⟩
inductive sA (ws:List ah) (B:List Tn):Tr→List Tr→List (List Int)→Prop
 |nil {X:Tr}{xs:List Tr}:xs.all Tr.dM=true→sA ws B X xs []
 |cons {X:Tr}{xs us:List Tr}{q:List Int}{t:Tn}{ps:List (List Int)}:xs.all Tr.dM=false→tW B X xs=aa q→Ou ws B X q t us→p9 B xs [q]=[]→sA ws B (vc X q t us) (pV B xs [p5 X q t us]) ps→sA ws B X xs (q::ps)
structure Df (ws:List ah) (B:List Tn) (I:Nat→Tr→List Tr→Prop):Prop where
  sh:∀{m X xs},I m X xs→Sh ws B X∧X.aE=true
  ro:∀{m X xs},I m X xs→ov ws B X xs∧xs.length≤700∧nR B xs≤7
  wy:∀{m X xs},I m X xs→ ∀x∈xs,w_ ws B x∧(ak B x).aE=true
  go:∀{m X xs q t us},I m X xs→Ou ws B X q t us→p9 B xs [q]=[]→xs.all Tr.dM=false→pO B xs [p5 X q t us]∧ ∃m',m'<m∧I m' (vc X q t us) (pV B xs [p5 X q t us])
def Vz{ps:List (List Int)}{y3:Option W}(hf:S f=aa (.bJ (ps.map mZ))) (hn:ps.length<60) (h:T EX D [aa (.ref a),y1,aa (.ref f),y3,y4] S):El r T EX D [aa (.ref a),y1,aa (.ref f),y3,y4] S:=by
 rw[El];ext;rw[nG hf,ay];have e:((ps.length:Int) == 60)=false:=by rw[beq_eq_false_iff_ne];lia
 try rw[e]
 try simp only[cZ,if_false]
 exact h
def XL (c:m3 w0 w1 w2 w3 w4 w5 tt B) (hx:∀x∈xs,w_ [w0,w1,w2,w3,w4,w5] B x) (hX:Sh [w0,w1,w2,w3,w4,w5] B X) (hs:X.aE=true) (hR:ov [w0,w1,w2,w3,w4,w5] B X xs) (ha:S a=aa (.bJ (B.map nz))) (hl:S lw=aa (.bJ (xs.map j8))) (hn:nR B xs≤7) (hr:111≤r) (hq:tW B X xs=aa q)
  (h:∀S',Sub S S'→T EX D [aa (.ref a),y1,y2,aa (.bT [j8 X, .ref lw]),aa (mZ q)] S'):Ex r T EX D [aa (.ref a),y1,y2,aa (.bT [j8 X, .ref lw]),y4] S:=by
 right
 rw[Ex];ext;refine c.ok_first hx hX hs hR ha hl hn `l λS' s'=>?_;rw[hq];exact h S' s'
def ZC (hf:S f=aa (.bJ (ps.map mZ))) (hn:ps.length<60) (h:T EX D [aa (.ref a),y1,aa (.ref f),y3,aa (mZ q)] (bQ S f (.bJ ((ps++[q]).map mZ)))):Gn r T EX D [aa (.ref a),y1,aa (.ref f),y3,aa (mZ q)] S:=by
 rw[Gn];ext;rw[nG hf,nG hf];rw[bC]at h;exact⟨trivial,qJ (by rw[ay];lia),h⟩
def V5 (c:m3 w0 w1 w2 w3 w4 w5 tt B) (hX:Sh [w0,w1,w2,w3,w4,w5] B X) (hs:X.aE=true) (hR:ov [w0,w1,w2,w3,w4,w5] B X xs) (o:Ou [w0,w1,w2,w3,w4,w5] B X q t us) (gg:pO B xs [p5 X q t us]) (hlen:xs.length≤700) (ha:S a=aa (.bJ (B.map nz))) (hl:S lw=aa (.bJ (xs.map j8))) (hr:115≤r)
  (h:∀S' l',Sub S S'→S l'=none→S' l'=aa (.bJ ((pV B xs [p5 X q t us]).map j8))→D.nx [aa (.ref a),y1,y2,aa (.bT [j8 (vc X q t us), .ref l']),aa (mZ q)] S'):DJ r EX D [aa (.ref a),y1,y2,aa (.bT [j8 X, .ref lw]),aa (mZ q)] S:=by
 obtain⟨h3,h4⟩:=tB hs;right
 rw[DJ];ext;refine⟨`d,λp1 hp1=>?_⟩;refine Fo c.L c.P (o.wi c.K c.F hX) `l `l (keep ha hp1) (wn:=[q]) nv hX.hdT `l `s ?_;refine⟨`d,λp2 hp2=>?_⟩;have s2:Sub S (bQ (bQ S p1 (.bJ [mZ q])) p2 (.bJ [j8 (p5 X q t us)])):=(Sub.bQ .refl hp1).trans (.bQ .refl hp2);have f2:bQ (bQ S p1 (.bJ [mZ q])) p2 (.bJ [j8 (p5 X q t us)]) p2=aa (.bJ ([p5 X q t us].map j8)):=nv;generalize bQ (bQ S p1 (.bJ [mZ q])) p2 (.bJ [j8 (p5 X q t us)])=S2 at s2 f2⊢;refine⟨`d,?_⟩;have ws:=o.wy c.K hX;have es:=o.ak c.K hX;refine KH c.K (s2 _ _ ha) (s2 _ _ hl) f2 hR ⟨ws,es,trivial⟩ hs hlen `s `l (λn=>absurd rfl n) (λ_ n=>absurd gg n) λ_ _ S' l' s' n' fl=>?_;have ee:pP B X [p5 X q t us]=vc X q t us:=o.b9 c.K hX;rw[ee];exact h S' l' (s2.trans s') (Bm s2 n') fl
section
variable {w0 w1 w2 w3 w4 w5:ah}{tt:List ah}{B:List Tn}{a lw:ai}{r:Nat}{X:Tr}{xs:List Tr}{S:kB}{Q:WK}{E:ah→kB→Prop}
def m3.ok_standard (c:m3 w0 w1 w2 w3 w4 w5 tt B) {I:Nat→Tr→List Tr→Prop}(hI:Df [w0,w1,w2,w3,w4,w5] B I) (h0:I m X xs) (hm:m≤60) (ha:S a=aa (.bJ (B.map nz))) (hl:S lw=aa (.bJ (xs.map j8))) (hr:116≤r)
  (h:∀S' f ps,Sub S S'→sA [w0,w1,w2,w3,w4,w5] B X xs ps→ps.length≤60→S' f=aa (.bJ (ps.map mZ))→Q (.ref f) S'):zk (r+1) [.ref a, .bT [j8 X, .ref lw]] S Q E:=by
 rw[zk,u0];refine⟨rfl,?_⟩;rw[JU];ext;refine⟨aU _,λf hf=>?_⟩;rw[M8];ext;rw[MG];ext;refine⟨λn σ S'=>∃(X':Tr) (xs':List Tr) (ps:List (List Int)) (l':ai) (y4:Option W),σ=[aa (.ref a),aa (.bT [j8 X, .ref lw]),aa (.ref f),aa (.bT [j8 X', .ref l']),y4]∧I n X' xs'∧ps.length+n≤60∧Sub S S'∧S' f=aa (.bJ (ps.map mZ))∧S' l'=aa (.bJ (xs'.map j8))∧f≠l'∧ ∀rest,sA [w0,w1,w2,w3,w4,w5] B X' xs' rest→sA [w0,w1,w2,w3,w4,w5] B X xs (ps++rest),⟨m,X,xs,[],lw,none,rfl,h0,by simpa using hm, .bQ .refl hf,nv,keep hl hf,(by rintro rfl;rw[hl]at hf;cases hf),λrest z=>z⟩,?_⟩
 rintro n σ S' ⟨X',xs',ps,l',y4,rfl,i1,i2,i3,i4,i5,fl',i6⟩;obtain⟨sX,mX⟩:=hI.sh i1;obtain⟨rX,lX,nX⟩:=hI.ro i1;have wX:=hI.wy i1;ext;rw[show nW [j8 X',W.ref l'] 1=aa (.ref l') from rfl];dsimp only;obtain⟨r',er⟩:∃r',r=r'+1:=⟨r - 1,`l⟩
 have e1:wA r=wA (r'+1):=by rw[er]
 rw[e1];refine Ll c.K i5 (λx hx=>⟨(wX x hx).1.w,(wX x hx).2⟩) `l `l ?_;ext;cases e:xs'.all Tr.dM with
 |true=>
  simp only[lV,cZ,if_false];rw[L'];ext;refine⟨_, .refl,h S' f ps i3 ?_ `l i4⟩;have:=i6 [] (.nil e);rw[bf]at this;exact this
 |false=>
  simp only[kc,if_true];obtain⟨q,t,us,hq,o,hd⟩:=c.fst_some sX rX e;obtain⟨gg,m',hm',im⟩:=hI.go i1 o hd e;rw[Ki];refine Vz i4 `l (XL c (λx hx=>(wX x hx).1) sX mX rX (i3 _ _ ha) i5 nX `l hq λS2 s2=>ZC (s2 _ _ i4) `l ?_);have s3:Sub S (bQ S2 f (.bJ ((ps++[q]).map mZ))):= .bQ (i3.trans s2) hf;refine V5 c sX mX rX o gg lX (s3 _ _ ha) (by rw[oz fl'.symm];exact s2 _ _ i5) `l λS4 l4 s4 n4 f4=>?_;refine⟨m',S4,hm', .refl,_,_,ps++[q],l4,_,rfl,im,by rw[aW,bZ];lia,s3.trans s4,s4 _ _ nv,f4,(by rintro rfl;rw[nv]at n4;cases n4),λrest z=>?_⟩
  have:=i6 (q::rest) (.cons e hq o hd z);rw[bE];exact this
end
section
variable {w0 w1 w2 w3 w4 w5:ah}{tt:List ah}{B:List Tn}
theorem OH:∀(ts:List Tr) (i j:Nat),ts[i]? =aa x→x.ms B m≤m7 B m (λ_=>1) j ts
 | [],i,j,h=>by cases h
 |t::ts,0,j,h=>by
  cases h;rw[m7];lia
 |t::ts,i+1,j,h=>by
  rw[bW]at h;have:=OH (m:=m) ts i (j+1) h;rw[m7];lia
def Np (u:Up B x q):1≤x.ms B mN:=by
 induction u with
 | @here h ts t e=>
  rw[qx e];have:mN.c1=1:=rfl;lia
 | @sgn h ts i x q e hi _ ih=>
  rw[qe e];have:=OH (B:=B) (m:=mN) ts i 0 hi;lia
 | @tit h ts t i x e q et he hi _ ih=>
  rw[qx et];have:mN.c1=1:=rfl;lia
theorem Dr.roads (d:Dr w0 w1 w2 w3 w4 w5 tt B):∀(xs:List Tr) {t:Tr},ov [w0,w1,w2,w3,w4,w5] B t xs→Cl w0 w1 w2 w3 w4 w5 B t→(∀x∈xs,Wy [w0,w1,w2,w3,w4,w5] B x∧Cl w0 w1 w2 w3 w4 w5 B (ak B x)∧Cl w0 w1 w2 w3 w4 w5 B (b9 B x))∧Cl w0 w1 w2 w3 w4 w5 B (pP B t xs)
 | [],t,_,h=>⟨λx hx=>(by cases hx),h⟩
 |x::xs,t,⟨x1,x2,x3⟩,h=>by
  have h1:Cl w0 w1 w2 w3 w4 w5 B (ak B x):=by rw[x2];exact h
  have h2:=d.cl x1 h1;obtain⟨k1,k2⟩:=Dr.roads d xs x3 h2;refine⟨λy hy=>?_,k2⟩;obtain rfl |hy:=aB.mp hy
  ·exact⟨x1,h1,h2⟩
  ·exact k1 y hy
theorem Dr.lok (d:Dr w0 w1 w2 w3 w4 w5 tt B):∀(os:List Tr) {x t:Tr},Wy [w0,w1,w2,w3,w4,w5] B x→ak B x=t→ov [w0,w1,w2,w3,w4,w5] B t os→Cl w0 w1 w2 w3 w4 w5 B t→uP B x os
 | [],x,t,_,_,_,_=>trivial
 |o::os,x,t,hx,ex,⟨o1,o2,o3⟩,h=>by
  have m:=d.c.K.moved hx o1 (by rw[ex,o2]);have h1:Cl w0 w1 w2 w3 w4 w5 B (b9 B o):=d.cl o1 (by rw[o2];exact h);exact⟨(d.cl m.wy (by rw[m.sr];exact h1)).sm,Dr.lok d os m.wy m.sr o3 h1⟩
theorem Dr.gok (d:Dr w0 w1 w2 w3 w4 w5 tt B):∀(xs:List Tr) {os:List Tr}{t:Tr},ov [w0,w1,w2,w3,w4,w5] B t xs→ov [w0,w1,w2,w3,w4,w5] B t os→Cl w0 w1 w2 w3 w4 w5 B t→xJ B xs os
 | [],os,t,_,_,_=>trivial
 |x::xs,os,t,⟨x1,x2,x3⟩,ho,h=>by
  obtain⟨h1,_⟩:=xn d.c.K os x1 x2 ho;exact⟨d.lok os x1 x2 ho h,Dr.gok d xs x3 h1 (d.cl x1 (by rw[x2];exact h))⟩
def Dr.gg (d:Dr w0 w1 w2 w3 w4 w5 tt B) {xs os:List Tr}{t:Tr}(hx:ov [w0,w1,w2,w3,w4,w5] B t xs) (ho:ov [w0,w1,w2,w3,w4,w5] B t os) (h:Cl w0 w1 w2 w3 w4 w5 B t):pO B xs os:=
 ⟨λx k=>((d.roads xs hx h).1 x k).2.2.sm,λx k=>((d.roads os ho h).1 x k).2.2.sm,d.gok xs hx ho h⟩
end
section
variable {ws:List ah}{B:List Tn}
theorem K7 (K:Bk3 ws B):∀(os:List Tr) {x t:Tr},Wy ws B x→ak B x=t→ov ws B t os→(rb B x os).ne B≤x.ne B
 | [],x,t,_,_,_=>aA _
 |o::os,x,t,hx,ex,⟨o1,o2,o3⟩=>by
  have m:=K.moved hx o1 (by rw[ex,o2]);have h1:=K7 K os m.wy m.sr o3;have h2:=m.ne;rw[rb];lia
theorem NU (K:Bk3 ws B):∀(xs os:List Tr) {t:Tr},ov ws B t xs→ov ws B t os→(∀x∈xs,x.ne B≤n)→nR B (pV B xs os)≤nR B xs∧ ∀x∈pV B xs os,x.ne B≤n
 | [],os,t,_,_,_=>⟨aA _,λx hx=>(by cases hx)⟩
 |x::xs,os,t,⟨x1,x2,x3⟩,ho,hn=>by
  obtain⟨h1,_⟩:=xn K os x1 x2 ho;obtain⟨k1,k2⟩:=NU K xs _ x3 h1 λy hy=>hn y (aG _ hy);have h2:=K7 K os x1 x2 ho;have h3:=hn x aI;rw[pV,nR,nR];refine⟨`l,λy hy=>?_⟩;obtain rfl |hy:=aB.mp hy
  ·lia
  ·exact k2 y hy
end
structure Nm (w0 w1 w2 w3 w4 w5:ah) (B:List Tn) (m:Nat) (X:Tr) (xs:List Tr):Prop where
  cl:Cl w0 w1 w2 w3 w4 w5 B X
  ro:ov [w0,w1,w2,w3,w4,w5] B X xs
  le:xs.length≤700
  nr:nR B xs≤7
  ne:∀x∈xs,x.ne B≤5
  e:X.ms (hk w0 w1) mT=m
section
variable {w0 w1 w2 w3 w4 w5:ah}{tt:List ah}{B:List Tn}
def Dr.sti (d:Dr w0 w1 w2 w3 w4 w5 tt B):Df [w0,w1,w2,w3,w4,w5] B (Nm w0 w1 w2 w3 w4 w5 B) where
  sh:=λi=>⟨i.cl.sh,i.cl.sm⟩
  ro:=λi=>⟨i.ro,i.le,i.nr⟩
  wy:=λi x hx=>by
    obtain⟨h1,h2,_⟩:=(d.roads _ i.ro i.cl).1 x hx;exact⟨⟨h1,(d.c.K.fitw h1 h2.sm).1,i.ne x hx⟩,h2.sm⟩
  go:=λ{m X xs q t us} i o hd hq=>by
    have hX:=i.cl.sh;have ws:=o.wy d.c.K hX;have es:=o.ak d.c.K hX;have eg:=o.b9 d.c.K hX;have ho:ov [w0,w1,w2,w3,w4,w5] B X [p5 X q t us]:=⟨ws,es,trivial⟩;have k1:=yD d.c.K _ _ i.ro ho;obtain⟨k2,k3⟩:=NU d.c.K _ _ i.ro ho i.ne;have k4:=d.cl ws (by rw[es];exact i.cl);have k5:=d.ms (m:=mT) ⟨rfl,`d⟩ _ (aA _) ws
    have k6:=Np ((Ou.up d.c (o.tt d.c.K) o.sh q hX o.hat q).mpr rfl);have k7:(mT.c1 - 3*mT.c0)=1:=rfl;have k8:=i.e;have k9:=i.nr;rw[es,eg,k7,k8]at k5;rw[eg]at k4;rw[show pP B X [p5 X q t us]=vc X q t us from eg]at k1;refine⟨d.gg i.ro ho i.cl,_,?_,k4,k1,(by rw[AB];exact i.le),`l,k3,rfl⟩;have:(X.bQ q (.nd t.1 us)).ms B mN=(p5 X q t us).ms B mN:=rfl;lia
end
structure FV (ws:List ah) (B:List Tn) (X:Tr) (m:Nat) (I:List Tr→Prop):Prop where
  nil:I []
  ro:∀{xs},I xs→ov ws B X xs
  sh:∀{xs},I xs→Sh ws B (pP B X xs)∧(pP B X xs).aE=true
  go:∀{xs u},I xs→xs.length<m→Wy ws B u→ak B u=pP B X xs→u.ne B≤2→I (xs++[u])
def RN (C:m3 w0 w1 w2 w3 w4 w5 tt B) (ha:S a=aa (.bJ (B.map nz))) (h:Sh [w0,w1,w2,w3,w4,w5] B t) (hs:t.aE=true) (hr:81≤r) (k:∀S' b,Sub S S'→S' b=aa (.bJ ((t.op B []).map encX))→T E D [y0,aa (.ref a),y2,y3,y4,y5,aa (j8 t),y7,aa (.ref b),y9,y10] S') :
  Ft r T E D [y0,aa (.ref a),y2,y3,y4,y5,aa (j8 t),y7,y8,y9,y10] S:=by
 rw[Ft];ext;right
 exact C.ok_open ha h hs `l k
def QQ (hk:0≤k) (hj:0≤j) (hr:1≤r) (h:∀c,T E D [aa (.cM ns),y1,y2,aa (.int k),y4,y5,y6,aa (.int j),y8,aa (.int c),y10] S) :
  Ge r T E D [aa (.cM ns),y1,y2,aa (.int k),y4,y5,y6,aa (.int j),y8,y9,y10] S:=by
 rw[Ge];ext;right
 refine vP `l λc=>?_
 try ext
 refine⟨⟨`d,`d,`d⟩,`d,?_⟩
 exact h _
def Qn{us:List (List Int×ah)}(hm:S l8=aa (.bJ (us.map encX))) (hp:0<us.length) (k:∀p1 p2 b,p1∈us.map (λx=>x.1)→p2∈us.map (λx=>x.1)→S b=none→T E D [y0,y1,y2,y3,y4,y5,y6,y7,aa (.ref l8),aa (.int c),aa (.ref b)] (bQ S b (.bJ [mZ p1,mZ p2]))) :
  E8 r T E D [y0,y1,y2,y3,y4,y5,y6,y7,aa (.ref l8),aa (.int c),y10] S:=by
 rw[E8];ext;rw[nG hm];have hne:us.map encX≠ []:=by
  intro z;rw[kH]at z;rw[z]at hp;exact absurd hp `d
 obtain⟨j1,x1,e1,f1⟩:=GZ (c / 5) hne;obtain⟨j2,x2,e2,f2⟩:=GZ (c / 320) hne;obtain⟨p1,m1,rfl⟩:=aL.mp (aN e1);obtain⟨p2,m2,rfl⟩:=aL.mp (aN e2);have hl:(0:Int)<((us.map encX).length:Int):=by rw[ay];lia
 refine⟨⟨`d,`d⟩,hl,?_⟩
 rw[nG hm,f1];simp only[encX];ext;refine⟨⟨`d,`d⟩,?_⟩
 rw[nG hm];refine⟨hl,?_⟩;rw[nG hm,f2];simp only[encX];ext;exact⟨`d,λb hb=>k p1.1 p2.1 b (fu m1) (fu m2) hb⟩
def SB (C:m3 w0 w1 w2 w3 w4 w5 tt B) (ha:S a=aa (.bJ (B.map nz))) (hb:S b=aa (.bJ [mZ p1,mZ p2])) (hv:S l5=aa (.bJ vs)) (hn:vs.length≤900) (h:Sh [w0,w1,w2,w3,w4,w5] B t) (hs:t.aE=true) (h1:p1∈r9 B t) (h2:p2∈r9 B t) (hr:120≤r)
  (k:∀S' u,Sub S S'→S' l5=aa (.bJ vs)→Wy [w0,w1,w2,w3,w4,w5] B u→ak B u=t→u.ne B≤2→T E D [y0,aa (.ref a),y2,y3,y4,aa (.ref l5),aa (j8 t),y7,y8,aa (.int c),aa (.ref b)] (bQ S' l5 (.bJ (vs++[j8 u])))) :
  EG r T E D [y0,aa (.ref a),y2,y3,y4,aa (.ref l5),aa (j8 t),y7,y8,aa (.int c),aa (.ref b)] S:=by
 obtain⟨b1,b2⟩:=tB hs;have c1:pG [mZ p1,mZ p2] none (aa 1)=[p1].map mZ:=rfl;have c2:pG [mZ p1,mZ p2] none (aa 2)=[p1,p2].map mZ:=rfl;rw[EG];ext;rw[nG hv];refine⟨trivial,⟨`d,`d⟩,`d,?_⟩
 rw[nG hb];intro m hm;have go:∀wn:List (List Int),wn.length≤2→(∀q∈wn,q∈r9 B t)→AV r [.ref a,j8 t, .ref m] (bQ S m (.bJ (wn.map mZ))) (λw S1=>oA S1 l5 λxs=>xs.length<sizeLine∧T E D [y0,aa (.ref a),y2,y3,y4,aa (.ref l5),aa (j8 t),y7,y8,aa (.int c),aa (.ref b)] (bQ S1 l5 (.bJ (xs++[w])))) λcl S2=>E cl [y0,aa (.ref a),y2,y3,y4,aa (.ref l5),aa (j8 t),y7,y8,aa (.int c),aa (.ref b)] S2:=by
  intro wn hl hi;obtain⟨u,wi,e,y,hne⟩:=BS C.K t.depth t [] (aA _) h (h.wn hi);right
  have s1:Sub S (bQ S m (Ob.bJ (wn.map mZ))):= .bQ .refl hm;refine Qg (ks:=r9 B t) C.L C.P wi `l `l (s1 _ _ ha) nv h.hdT `l `l `l rfl hi ?_;rw[nG (s1 _ _ hv)];have:rD wn []≤wn.length:=List.countP_le_length;exact⟨qJ `l,k _ u s1 (s1 _ _ hv) y e `l⟩
 rcases(show c / 5 % 2=0∨c / 5 % 2=1 by lia) with z |z
 ·rw[z];exact go [p1] `s (by simpa using h1)
 ·rw[z];exact go [p1,p2] `s (by simp [h1,h2])
def WQ (C:m3 w0 w1 w2 w3 w4 w5 tt B) (ha:S a=aa (.bJ (B.map nz))) (hv:S l5=aa (.bJ (vs++[j8 u]))) (hu:Wy [w0,w1,w2,w3,w4,w5] B u) (hs:(ak B u).aE=true) (hr:62≤r) (k:D.nx [y0,aa (.ref a),y2,y3,y4,aa (.ref l5),aa (j8 (b9 B u)),y7,y8,y9,y10] S) :
  FP r E D [y0,aa (.ref a),y2,y3,y4,aa (.ref l5),y6,y7,y8,y9,y10] S:=by
 obtain⟨f1,f2,f3,f4⟩:=C.K.fitw hu hs;rw[FP];ext;rw[nG hv,Db];right
 refine Oc C.K.b.nd ha (.inr rfl) C.K.b.s2 40 f1 `l f3 `l ?_;rw[C6];exact k
def RJ (C:m3 w0 w1 w2 w3 w4 w5 tt B) (h:Sh [w0,w1,w2,w3,w4,w5] B t):Wy [w0,w1,w2,w3,w4,w5] B t∧ak B t=t∧b9 B t=t∧t.ne B≤2:=by
 have e:=(C.K.ak h.wy).2.2.2;rw[h.q]at e;exact⟨h.wy,h.q,e,by rw[h.ne C.K];exact aU _⟩
def WJ{I:List Tr→Prop}{m:Nat}{ns:List Int}{k:Int}{Q:WK}{E:ah→kB→Prop}(C:m3 w0 w1 w2 w3 w4 w5 tt B) (R:FV [w0,w1,w2,w3,w4,w5] B X m I) (ha:S a=aa (.bJ (B.map nz))) (hm:m≤3) (hk:0≤k) (hr:122≤r)
  (h:∀S' l xs,Sub S S'→I xs→xs.length≤m→S' l=aa (.bJ (xs.map j8))→Q (.bT [j8 X, .ref l]) S'):yy (r+1) [.cM ns, .ref a,j8 X, .int k, .int m] S Q E:=by
 rw[yy];unfold OB Js Ku;ext;refine⟨aU _,λl5 h5=>?_⟩;have na:a≠l5:=Bo ha h5;refine⟨⟨`l,`l⟩,?_⟩
 rw[bn];refine F0 (λi σ S'=>∃xs y7 y8 y9 y10,xs.length≤i∧I xs∧Sub S S'∧S' l5=aa (.bJ (xs.map j8))∧σ=[aa (.cM ns),aa (.ref a),aa (j8 X),aa (.int k),aa (.int m),aa (.ref l5),aa (j8 (pP B X xs)),y7,y8,y9,y10]) m ?_ ?_ ⟨[],none,none,none,none,aA _,R.nil, .bQ .refl h5,nv,rfl⟩
 ·rintro j hj σ S1 N ⟨xs,y7,y8,y9,y10,hl,hI,sb,f5,rfl⟩ hN;obtain⟨sh,sm⟩:=R.sh hI;simp only[N8];rw[sj]
  try ext
  refine RN C (sb _ _ ha) sh sm `l λS2 b s2 f8=>QQ hk `l `l λc=>?_;replace f5:=s2 _ _ f5;replace sb:=sb.trans s2;have skip:∀y10,N [aa (.cM ns),aa (.ref a),aa (j8 X),aa (.int k),aa (.int m),aa (.ref l5),aa (j8 (pP B X xs)),aa (.int j),aa (.ref b),aa (.int c),y10] S2:=λy10=>hN _ _ S2 .refl ⟨xs,_,_,_,_,`l,hI,sb,f5,rfl⟩
  rw[N'];ext;rw[nG f8,ay];have over:∀{S3:kB}{ys:List Tr},Sub S S3→Sub S (bQ S3 l5 (.bJ (ys.map j8))):=λs=> .bQ s h5;have put1:∀u:Tr,xs.map j8++[j8 u]=(xs++[u]).map j8:=λu=>by rw[bC];rfl
  have el:(0:Int)<5∧if(c % 5 == 0)=true then(oA S2 l5 λ_=>True)∧oA S2 l5 λvs=>vs.length<sizeLine∧N [aa (.cM ns),aa (.ref a),aa (j8 X),aa (.int k),aa (.int m),aa (.ref l5),aa (j8 (pP B X xs)),aa (.int j),aa (.ref b),aa (.int c),y10] (bQ S2 l5 (.bJ (vs++[j8 (pP B X xs)]))) else N [aa (.cM ns),aa (.ref a),aa (j8 X),aa (.int k),aa (.int m),aa (.ref l5),aa (j8 (pP B X xs)),aa (.int j),aa (.ref b),aa (.int c),y10] S2:=by
   refine⟨`d,?_⟩;split
   ·rw[nG f5,nG f5,put1];obtain⟨q1,q2,q3,q4⟩:=RJ C sh;refine⟨trivial,qJ (by rw[ay];lia),hN _ _ _ .refl ⟨xs++[pP B X xs],aa (.int j),aa (.ref b),aa (.int c),y10,by rw[aW,bZ];lia,R.go hI `l q1 q2 q4,over sb,nv,?_⟩⟩
    rw[zE,q3]
   ·exact skip _
  by_cases hp:(0:Int)<(((pP B X xs).op B []).length:Int)
  ·rw[if_pos hp];refine⟨`d,?_⟩;by_cases hq:(0:Int)<c % 5
   ·rw[if_pos hq];refine Qn f8 `l λp1 p2 b' m1 m2 hb'=>?_;have s3:Sub S2 (bQ S2 b' (Ob.bJ [mZ p1,mZ p2])):= .bQ .refl hb';refine SB C (s3 _ _ (sb _ _ ha)) nv (s3 _ _ f5) (by rw[ay];lia) sh sm m1 m2 `l λS4 u s4 f4 hu eu nu=>?_;rw[put1];have sm':(ak B u).aE=true:=by rw[eu];exact sm
    have nb:a≠l5:=na;refine WQ (u:=u) C (by rw[oz nb];exact s4 _ _ (s3 _ _ (sb _ _ ha))) (by rw[nv,←put1]) hu sm' `l ?_
    refine hN _ _ _ .refl ⟨xs++[u],aa (.int j),aa (.ref b),aa (.int c),aa (.ref b'),by rw[aW,bZ];lia,R.go hI `l hu eu nu,over (sb.trans (s3.trans s4)),nv,?_⟩
    rw[zE]
   ·rw[if_neg hq];exact el
  ·rw[if_neg hp];exact el
 ·rintro σ S1 ⟨xs,y7,y8,y9,y10,hl,hI,sb,f5,rfl⟩;rw[Op];ext;exact⟨`d,_, .refl,h S1 l5 xs sb hI hl f5⟩
structure Gr (w0 w1 w2 w3 w4 w5:ah) (tt:List ah) (B:List Tn):Prop where
  c:m3 w0 w1 w2 w3 w4 w5 tt B
  ri:∀t∈B,t.2.2∈p7 w0 w1 w2 w3 w4 w5 t.2.1.nb true
def IR (hm:m≤3):∀t∈p7 w0 w1 w2 w3 w4 w5 m true,∀i:Nat,i<m→(i:Int)∈t.nm:=by
 intro t ht i hi;obtain _ |_ |_ |_ |m:=m
 ·lia
 ·obtain rfl:i=0:=by lia
  simp only[p7,b6,aM,if_true,aB,bo,or_false]at ht;rcases ht with rfl |rfl |rfl |rfl |rfl |rfl |rfl<;>simp [Tr.nm,ph]
 ·simp only[p7,b6,aM,if_true,aB,bo,or_false]at ht;obtain rfl |rfl:i=0∨i=1:=by lia
  all_goals rcases ht with rfl |rfl |rfl |rfl |rfl |rfl<;>simp [Tr.nm,ph]
 ·simp only[p7,b6,aM,if_true,aB,bo,or_false]at ht;obtain rfl |rfl |rfl:i=0∨i=1∨i=2:=by lia
  all_goals rcases ht with rfl |rfl |rfl |rfl |rfl<;>simp [Tr.nm,ph]
 ·lia
def Gr.all (g:Gr w0 w1 w2 w3 w4 w5 tt B) (ht:t∈B) (hi:i<t.2.1.nb):∃b,t.2.2.at b=aa (.bl (i:Int)):=Pn _ (IR (g.c.nb3 ht) _ (g.ri t ht) i hi)
theorem EI:∀(ts:List Tr) (i:Nat),(∀x∈ts,(b9 B x).ms [] mP≤(ak B x).ms H mP)→m7 [] mP (λ_=>1) i (ts.map (b9 B))≤m7 H mP (λ_=>1) i (ts.map (ak B))
 | [],i,h=>by simp [m7]
 |x::ts,i,h=>by
  have h1:=h x aI;have h2:=EI ts (i+1) λy hy=>h y (aG _ hy);rw[az,az,m7,m7,cg,cg];lia
theorem Fu:∀(ts:List Tr),(∀x∈ts,(b9 B x).dm []≤(ak B x).dm H)→ou [] (ts.map (b9 B))≤ou H (ts.map (ak B))
 | [],h=>by simp [ou]
 |x::ts,h=>by
  have h1:=h x aI;have h2:=Fu ts λy hy=>h y (aG _ hy);rw[az,az,ou,ou];lia
theorem m3.gw (c:m3 w0 w1 w2 w3 w4 w5 tt B) (hrx:∀t∈B,RX t.2.2):∀(n:Nat) {x:Tr},x.ao≤n→Wy [w0,w1,w2,w3,w4,w5] B x→(b9 B x).ms [] mP≤(ak B x).ms (hk w0 w1) mP∧(b9 B x).dm []≤(ak B x).dm (hk w0 w1)
 |0,x,hn,hx=>by have:=tu x;lia
 |n+1,x,hn,hx=>by
  have b:=c.K.b;obtain ⟨h,ts,rfl,_,e,k⟩ |⟨t,ts,ht,rfl,e,hl,k⟩:=Wy.cases b hx
  ·rw[Tr.ao]at hn;have ih:=EI (B:=B) (H:=hk w0 w1) ts 0 λy hy=>(m3.gw c hrx n (by have:=pk hy;lia) (k y hy)).1;have id:=Fu (B:=B) (H:=hk w0 w1) ts λy hy=>(m3.gw c hrx n (by have:=pk hy;lia) (k y hy)).2;have e0:nF [] h=none:=rfl;have c0:mP.c0=1:=rfl;have c1:mP.c1=3:=rfl;rw[b9,ak,qD e,qD e];show(Tr.nd h (ts.map (b9 B))).ms [] mP≤(Tr.nd h (ts.map (ak B))).ms (hk w0 w1) mP∧(Tr.nd h (ts.map (b9 B))).dm []≤(Tr.nd h (ts.map (ak B))).dm (hk w0 w1);rw[qe e0,rO e0];cases eh:nF (hk w0 w1) h with
   |none=>rw[qe eh,rO eh];lia
   |some u=>
    rw[qx eh,rT eh];have e2:m7 (hk w0 w1) mP (mP.k u) 0 (ts.map (ak B))=m7 (hk w0 w1) mP (λ_=>2) 0 (ts.map (ak B)):=rfl;rw[e2,tD];lia
  ·rw[Tr.ao]at hn;have ih:=EI (B:=B) (H:=hk w0 w1) ts 0 λy hy=>(m3.gw c hrx n (by have:=pk hy;lia) (k y hy)).1;have id:=Fu (B:=B) (H:=hk w0 w1) ts λy hy=>(m3.gw c hrx n (by have:=pk hy;lia) (k y hy)).2;have rx:=hrx t ht;have hls:(ts.map (ak B)).length=t.2.1.nb:=by rw[ay,hl]
   have hlg:(ts.map (b9 B)).length=t.2.1.nb:=by rw[ay,hl]
   obtain⟨h,ls,u,eL,eh,hb,_,_,_,nm⟩:=(c.lh ht).ex;have fl:=(b.lf t ht).br;have nb:t.2.2.hb λs=>nF [] s=none:=(c.b.ri t ht).hb λ_ _=>rfl;have q1:=C1 (B:=[]) (m:=mP) (λ_ z=>z) (us:=ts.map (b9 B)) t.2.2 nb (by rw[hlg];exact(b.ri t ht).br);have q2:m7 [] mP (cn t.2.2) 0 (ts.map (b9 B))≤m7 [] mP (λ_=>2) 0 (ts.map (b9 B)):=wU _ 0 λj=>rx.ct _;rw[tD]at q2;have q3:=rx.sg;have c0:mP.c0=1:=rfl;have d1:=Dl (B:=[]) (λ_ z=>z) (us:=ts.map (b9 B)) t.2.2 nb (by rw[hlg];exact(b.ri t ht).br);have d3:=rx.sd;have es:ak B (.nd t.1 ts)= .nd h (nN (ts.map (ak B)) ls):=by
    rw[ak,qy e];show t.2.1.aD (ts.map (ak B))=_;rw[eL,Tr.aD]
   have eg:b9 B (.nd t.1 ts)=t.2.2.aD (ts.map (b9 B)):=by rw[b9,qy e]
   rw[es,eg,qx eh,rT eh];have e2:m7 (hk w0 w1) mP (mP.k u) 0 (nN (ts.map (ak B)) ls)=m7 (hk w0 w1) mP (λ_=>2) 0 (nN (ts.map (ak B)) ls):=rfl;have c1:mP.c1=3:=rfl;rw[e2,tD];have fl':ny (ts.map (ak B)).length ls:=by rw[hls];rw[eL,Tr.br]at fl;rw[eL];exact fl
   rw[yl (B:=hk w0 w1) (m:=mP) (λ_ z=>z) ls hb fl' 0];have q4:m7 (hk w0 w1) mP (λ_=>1) 0 (ts.map (ak B))≤m7 (hk w0 w1) mP (λj=>(ph ls).count (j:Int)) 0 (ts.map (ak B)):=by
    refine BH _ 0 λj _ hj=>iw.mpr (nm j ?_);rw[bI,hls]at hj;exact hj
   have q5:ou (hk w0 w1) (ts.map (ak B))≤ou (hk w0 w1) (nN (ts.map (ak B)) ls):=Bf _ λv hv=>by
    obtain⟨i,hi,ei⟩:=dJ hv;exact AT ls (nm i (by rw[←hls];exact hi)) (by rw[aP hi,ei])
   refine⟨?_,`l⟩
   rw[q1];have q6:mP.c0*t.2.2.sg≤3:=by rw[c0];lia
   lia
def m3.gs (c:m3 w0 w1 w2 w3 w4 w5 tt B) (hrx:∀t∈B,RX t.2.2) (hx:Wy [w0,w1,w2,w3,w4,w5] B x) (h:Cl w0 w1 w2 w3 w4 w5 B (ak B x)):(b9 B x).aE=true:=by
 obtain⟨h1,h2⟩:=c.gw hrx _ (aA _) hx;obtain⟨h3,h4⟩:=ES (H:=[]) (vW (λ_ _=>trivial) _ (c.K.b9 hx).1.hd);have:=h.p;have:=h.q;exact B0 `l `l
def Bk3.both (K:Bk3 ws B) (hx:Wy ws B x) (hy:Wy ws B y) (e:L2.ak B x=L2.ak B y):∃j,Wy ws B j∧L2.ak B j=L2.ak B x∧L2.b9 B j=L2.b9 B (res B x y):=by
 obtain⟨p,hp,rfl,rfl,_⟩:=v5 K hx hy e;have m1:=(vj (c:=nK 1) (d:=nK 2) K.b K.O.mt (ua (qS 1) (qS 2)) hp).res;refine⟨p.ev B λi=>if nK 1 i=1 then 1 else nK 2 i,K.wy hp,?_,?_⟩
 ·show(p.ev B _).mk B (λt=>t.2.1)=(p.ev B _).mk B λt=>t.2.1;rw[vM K.b hp,vM K.b hp];refine uh hp λx h0 h1=>?_;have a:=tz 1 x;have b:=tz 2 x;unfold uW;rcases(show nK 1 x=0∨nK 1 x=1 by lia) with z |z<;>rcases(show nK 2 x=0∨nK 2 x=1 by lia) with y |y<;>simp [z,y]
 ·rw[m1];show(p.ev B _).mk B (λt=>t.2.2)=(p.ev B (oy (nK 1) (nK 2))).mk B λt=>t.2.2;rw[vn K.b hp,vn K.b hp];refine uh hp λx h0 h1=>?_;have a:=tz 1 x;have b:=tz 2 x;unfold sJ oy;rcases(show nK 1 x=0∨nK 1 x=1 by lia) with z |z<;>rcases(show nK 2 x=0∨nK 2 x=1 by lia) with y |y<;>simp [z,y]
structure o7 (g:Bool) (w0 w1 w2 w3 w4 w5:ah) (tt:List ah) (B:List Tn):Prop where
  c:m3 w0 w1 w2 w3 w4 w5 tt B
  ri:∀t∈B,t.2.2∈p7 w0 w1 w2 w3 w4 w5 t.2.1.nb g
structure xU (g:Bool) (w0 w1 w2 w3 w4 w5:ah) (B:List Tn) (X:Tr) (xs:List Tr):Prop where
  ro:ov [w0,w1,w2,w3,w4,w5] B X xs
  le:g=true→xs.length≤1
def o7.rx (h:o7 g w0 w1 w2 w3 w4 w5 tt B):∀t∈B,RX t.2.2:=λt ht=>IK (h.c.nb3 ht) g _ (h.ri t ht)
def o7.dr (h:o7 false w0 w1 w2 w3 w4 w5 tt B):Dr w0 w1 w2 w3 w4 w5 tt B:=⟨h.c,h.ri⟩
def o7.ways (h:o7 g w0 w1 w2 w3 w4 w5 tt B) (cl:Cl w0 w1 w2 w3 w4 w5 B X) (i:xU g w0 w1 w2 w3 w4 w5 B X xs):∀x∈xs,Wy [w0,w1,w2,w3,w4,w5] B x∧(ak B x).aE=true∧(b9 B x).aE=true:=by
 cases g with
 |false=>exact λx hx=>let ⟨a,b,c⟩:=(h.dr.roads xs i.ro cl).1 x hx;⟨a,b.sm,c.sm⟩
 |true=>
  have l:=i.le rfl
  match xs,i.ro,l with
  | [],_,_=>exact λ_ hx=>nomatch hx
  | [u],⟨r1,r2,_⟩,_=>
   intro x hx;rw[bg]at hx;subst hx;have cl':Cl w0 w1 w2 w3 w4 w5 B (ak B x):=by rw[r2];exact cl
   exact⟨r1,cl'.sm,h.c.gs h.rx r1 cl'⟩
def o7.gg{w0 w1 w2 w3 w4 w5:ah}{tt:List ah}{B:List Tn}{g:Bool}{X:Tr}{xs os:List Tr}(h:o7 g w0 w1 w2 w3 w4 w5 tt B) (cl:Cl w0 w1 w2 w3 w4 w5 B X) (hx:xU g w0 w1 w2 w3 w4 w5 B X xs) (ho:xU g w0 w1 w2 w3 w4 w5 B X os):pO B xs os:=by
 cases g with
 |false=>exact h.dr.gg hx.ro ho.ro cl
 |true=>
  refine⟨λx m=>(h.ways cl hx x m).2.2,λx m=>(h.ways cl ho x m).2.2,?_⟩;have l:=hx.le rfl;have l':=ho.le rfl
  match xs,hx.ro,l with
  | [],_,_=>trivial
  | [u],⟨r1,r2,_⟩,_=>
   match os,ho.ro,l' with
   | [],_,_=>exact⟨trivial,trivial⟩
   | [v],⟨s1,s2,_⟩,_=>
    obtain⟨j,j1,j2,j3⟩:=h.c.K.both r1 s1 (r2.trans s2.symm);refine⟨⟨?_,trivial⟩,trivial⟩;rw[←j3];exact h.c.gs h.rx j1 (by rw[j2,r2];exact cl)
def o7.shE (h:o7 g w0 w1 w2 w3 w4 w5 tt B) (cl:Cl w0 w1 w2 w3 w4 w5 B X) (i:xU g w0 w1 w2 w3 w4 w5 B X xs):Sh [w0,w1,w2,w3,w4,w5] B (pP B X xs)∧(pP B X xs).aE=true:=by
 refine⟨?_,DO xs cl.sm λx hx=>(h.ways cl i x hx).2.2⟩;obtain rfl |⟨ys,u,rfl⟩:=kx xs
 ·exact cl.sh
 ·rw[kP]at i⊢;rw[zE];exact h.c.shg (h.ways cl i u `s).1
def o7.rdI (h:o7 g w0 w1 w2 w3 w4 w5 tt B) (cl:Cl w0 w1 w2 w3 w4 w5 B X):FV [w0,w1,w2,w3,w4,w5] B X (if g then 1 else 3) (xU g w0 w1 w2 w3 w4 w5 B X):=by
 refine⟨⟨trivial,λ_=>aU _⟩,λi=>i.ro,λi=>h.shE cl i,λ{xs u} i l y e _=>⟨ov.app xs i.ro ⟨y,e,trivial⟩,λz=>?_⟩⟩;rw[if_pos z]at l;rw[aW,bZ];lia
mutual
theorem Mo:∀(t:Tr) {i:Nat},(i:Int)∈t.nm→us[i]? =aa u→(t.aD us).dM=true→u.dM=true
 | .bl n,i,hi,hu,h=>by
  rw[Tr.nm,bg]at hi;subst hi;rw[Tr.aD,bn,bw,hu]at h;exact h
 | .nd s ts,i,hi,hu,h=>by
  rw[Tr.nm]at hi;rw[Tr.aD,Tr.dM,bN]at h;exact Pe ts hi hu h.2
theorem Pe:∀(ts:List Tr) {i:Nat},(i:Int)∈ph ts→us[i]? =aa u→rF (nN us ts)=true→u.dM=true
 | [],i,hi,hu,h=>by rw[ph]at hi;cases hi
 |t::ts,i,hi,hu,h=>by
  rw[ph]at hi;rw[nN,rF,bN]at h;obtain z |z:=bu.mp hi
  ·exact Mo t z hu h.1
  ·exact Pe ts z hu h.2
end
mutual
theorem N1 (hl:us.length=vs.length) (h:∀(i:Nat) u v,us[i]? =aa u→vs[i]? =aa v→u.dm B≤v.dm B):∀t:Tr,t.br us.length→(t.aD us).dm B≤(t.aD vs).dm B
 | .bl n,f=>by
  rw[Tr.br]at f;have h1:n.toNat<us.length:=by lia
  have h2:n.toNat<vs.length:=by lia
  rw[Tr.aD,Tr.aD,bw,bw,aP h1,aP h2];exact h _ _ _ (aP h1) (aP h2)
 | .nd s ts,f=>by
  rw[Tr.br]at f;have:=NZ hl h ts f;rw[Tr.aD,Tr.aD];cases e:nF B s with
  |none=>rw[rO e,rO e];lia
  |some t=>rw[rT e,rT e];lia
theorem NZ (hl:us.length=vs.length) (h:∀(i:Nat) u v,us[i]? =aa u→vs[i]? =aa v→u.dm B≤v.dm B):∀ts:List Tr,ny us.length ts→ou B (nN us ts)≤ou B (nN vs ts)
 | [],f=>by rw[nN,nN];exact aA _
 |t::ts,f=>by
  rw[ny]at f;have h1:=N1 hl h t f.1;have h2:=NZ hl h ts f.2;rw[nN,nN,ou,ou];lia
end
section
variable {w0 w1 w2 w3 w4 w5:ah}{tt:List ah}{B:List Tn}{f g:Int→Nat}
theorem zw{a b c:Int→Nat}{k n:Nat→Nat}:∀(ps:List Pl) (i:Nat),(∀j,i≤j→j<i+ps.length→n j≤k j)→(∀p∈ps,(p.ev B a).ms B mM+(p.ev B b).ms B mN≤(p.ev B c).ms B mM)→m7 B mM k i (ps.map (Pl.ev B a))+m7 B mN n i (ps.map (Pl.ev B b))≤m7 B mM k i (ps.map (Pl.ev B c))
 | [],i,_,_=>by simp [m7]
 |p::ps,i,hk,h=>by
  rw[aT]at hk;have h1:=h p aI;have h2:=zw (a:=a) (b:=b) (c:=c) (k:=k) (n:=n) ps (i+1) (λj h3 h4=>hk j `l `l) λq hq=>h q (aG _ hq);have h3:=eA (k i) h1;have h4:=dB ((p.ev B b).ms B mN) (hk i (aA _) `l);rw[eK]at h3;rw[az,az,az,m7,m7,m7];lia
theorem DR{a c:Int→Nat}{k:Nat→Nat}:∀(ps:List Pl) (i:Nat),(∀p∈ps,(p.ev B a).ms B m≤(p.ev B c).ms B m)→m7 B m k i (ps.map (Pl.ev B a))≤m7 B m k i (ps.map (Pl.ev B c))
 | [],i,_=>by simp [m7]
 |p::ps,i,h=>by
  have h1:=eA (k i) (h p aI);have h2:=DR (m:=m) (k:=k) ps (i+1) λq hq=>h q (aG _ hq);rw[az,az,m7,m7];lia
theorem DX{a c:Int→Nat}:∀(ps:List Pl),(∀p∈ps,(p.ev B a).dm B≤(p.ev B c).dm B)→ou B (ps.map (Pl.ev B a))≤ou B (ps.map (Pl.ev B c))
 | [],_=>by simp [ou]
 |p::ps,h=>by
  have h1:=h p aI;have h2:=DX ps λq hq=>h q (aG _ hq);rw[az,az,ou,ou];lia
structure zJ (B:List Tn) (p:Pl) (f g:Int→Nat):Prop where
  m:(p.ev B (oy f g)).ms B mM+(p.ev B g).ms B mN≤(p.ev B f).ms B mM
  w:(p.ev B (oy f g)).ms B mP≤(p.ev B f).ms B mP
  e:(p.ev B (oy f g)).dm B≤(p.ev B f).dm B
def m3.past_le (c:m3 w0 w1 w2 w3 w4 w5 tt B) (hrx:∀t∈B,RX t.2.2) (all:∀t∈B,∀i:Nat,i<t.2.1.nb→(i:Int)∈t.2.2.nm) (hc:∀x:Int,0≤x→x<8→f x≤1∧g x≤1) (h:nU [w0,w1,w2,w3,w4,w5] B p):(p.ev B (oy g f)).dM=true→zJ B p f g:=by
 have b:=c.K.b;have m0:mM.c0=0:=rfl;have m1:mM.c1=1:=rfl;have n0:mN.c0=0:=rfl;have n1:mN.c1=1:=rfl;have p0:mP.c0=1:=rfl;have p1:mP.c1=3:=rfl
 induction h with
 | @sign b' h ps hh hp ih=>
  intro q;rw[pL,Tr.dM,bN]at q;have k:=λp hp=>ih p hp (JK q.2 (fu hp));have e:=qh b.ti (b.sg h (b.sb h hh));have k1:=zw (B:=B) (k:=λ_=>1) (n:=λ_=>1) ps 0 (λ_ _ _=>aA _) λp hp=>(k p hp).m;have k2:=DR (B:=B) (m:=mP) (k:=λ_=>1) ps 0 λp hp=>(k p hp).w;have k3:=DX (B:=B) ps λp hp=>(k p hp).e;refine⟨?_,?_,?_⟩
  ·rw[pL,pL,pL,qe e,qe e,qe e,m0,n0];lia
  ·rw[pL,pL,qe e,qe e];lia
  ·rw[pL,pL,rO e,rO e];lia
 | @turn k b' h ps t e hl b0 b1 hp ih=>
  intro q;have ht:t∈B:=aN e;have et:=rK b.nd ht;obtain⟨z,ls,u,eL,eh,hb,_,_,nd,nm⟩:=(c.lh ht).ex;have hbL:=(b.lf t ht).hb;have lx:∀d:Int→Nat,(ps.map (Pl.ev B d)).length=t.2.1.nb:=λd=>by rw[ay,hl]
  have fL:∀d:Int→Nat,t.2.1.br (ps.map (Pl.ev B d)).length:=λd=>by rw[lx];exact(b.lf t ht).br
  have fR:∀d:Int→Nat,t.2.2.br (ps.map (Pl.ev B d)).length:=λd=>by rw[lx];exact(b.ri t ht).br
  have hbR:=(b.ri t ht).hb (P:=px) λs hs=>b.sg s hs;have mL:∀(m:Ms) (d:Int→Nat),(t.2.1.aD (ps.map (Pl.ev B d))).ms B m=m.c0*t.2.1.sg+m7 B m (cn t.2.1) 0 (ps.map (Pl.ev B d)):=λm d=>La b.ti t.2.1 hbL (fL d);have mR:∀(m:Ms) (d:Int→Nat),(t.2.2.aD (ps.map (Pl.ev B d))).ms B m=m.c0*t.2.2.sg+m7 B m (cn t.2.2) 0 (ps.map (Pl.ev B d)):=λm d=>La b.ti t.2.2 hbR (fR d);have cL:∀j,cn t.2.1 j≤1:=λj=>by
   show t.2.1.nm.count (j:Int)≤1;rw[eL,Tr.nm];exact ko.mp nd _
  have nmL:∀i:Nat,i<t.2.1.nb→(i:Int)∈t.2.1.nm:=λi hi=>by
   have:=nm i hi;rw[eL,Tr.nm];exact this
  have cX:∀S:Tr,(∀i:Nat,i<t.2.1.nb→(i:Int)∈S.nm)→(S.aD (ps.map (Pl.ev B (oy g f)))).dM=true→ ∀p∈ps,zJ B p f g:=λS hS q p hp=>by
   obtain⟨i,hi,ei⟩:=dJ hp;exact ih p hp (Mo S (hS i (by rw[←hl];exact hi)) (by rw[aV,aP hi,ei];rfl) q)
  have k2:∀{k:Nat→Nat},(∀p∈ps,zJ B p f g)→m7 B mP k 0 (ps.map (Pl.ev B (oy f g)))≤m7 B mP k 0 (ps.map (Pl.ev B f)):=λk=>DR (B:=B) (m:=mP) ps 0 λp hp=>(k p hp).w;have k3:(∀p∈ps,zJ B p f g)→ou B (ps.map (Pl.ev B (oy f g)))≤ou B (ps.map (Pl.ev B f)):=λk=>DX (B:=B) ps λp hp=>(k p hp).e;rcases(show f b'=0∨f b'=1 by have:=(hc b' b0 b1).1;lia) with ef |ef<;>rcases(show g b'=0∨g b'=1 by have:=(hc b' b0 b1).2;lia) with eg |eg
  ·have pa:oy f g b'=0:=by unfold oy;rw[if_neg `l,ef]
   have pb:oy g f b'=0:=by unfold oy;rw[if_neg `l,eg]
   rw[oE e,pb]at q;have k:=cX _ nmL q;have k1:=zw (B:=B) (k:=cn t.2.1) (n:=cn t.2.1) ps 0 (λ_ _ _=>aA _) λp hp=>(k p hp).m;have k2:=k2 (k:=cn t.2.1) k;refine⟨?_,?_,?_⟩
   ·rw[oE e,oE e,oE e,pa,ef,eg];show(t.2.1.aD _).ms B mM+(t.2.1.aD _).ms B mN≤(t.2.1.aD _).ms B mM;rw[mL,mL,mL,m0,n0];lia
   ·rw[oE e,oE e,pa,ef];show(t.2.1.aD _).ms B mP≤(t.2.1.aD _).ms B mP;rw[mL,mL];lia
   ·rw[oE e,oE e,pa,ef];refine N1 (by rw[lx,lx]) (λi u v hu hv=>?_) _ (fL _);rw[aV]at hu hv;cases ei:ps[i]? with
    |none=>rw[ei]at hu;cases hu
    |some p=>
     rw[ei]at hu hv;cases hu;cases hv;exact(k p (aN ei)).e
  ·have pb:oy g f b'=1:=by unfold oy;rw[if_neg `l,eg]
   rw[oE e,pb]at q;have:=zA _ q;show zJ B _ f g;rw[show rM t 1 (ps.map (Pl.ev B (oy g f)))= .nd t.1 (ps.map (Pl.ev B (oy g f))) from rfl,Tr.hd]at this;have z:=qh b.ti this.1;rw[et]at z;cases z
  ·have pa:oy f g b'=1:=by unfold oy;rw[if_neg `l,ef]
   have pb:oy g f b'=2:=by unfold oy;rw[if_pos ef]
   rw[oE e,pb]at q;have k:=cX _ (all t ht) q;have k1:=zw (B:=B) (k:=mM.k t) (n:=cn t.2.1) ps 0 (λj _ _=>aX (cL j) (mh ..)) λp hp=>(k p hp).m;have k2:=k2 (k:=mP.k t) k;have k3:=k3 k;refine⟨?_,?_,?_⟩
   ·rw[oE e,oE e,oE e,pa,ef,eg];show(Tr.nd t.1 _).ms B mM+(t.2.1.aD _).ms B mN≤(Tr.nd t.1 _).ms B mM;rw[qx et,qx et,mL,n0];lia
   ·rw[oE e,oE e,pa,ef];show(Tr.nd t.1 _).ms B mP≤(Tr.nd t.1 _).ms B mP;rw[qx et,qx et];lia
   ·rw[oE e,oE e,pa,ef];show(Tr.nd t.1 _).dm B≤(Tr.nd t.1 _).dm B;rw[rT et,rT et];lia
  ·have pa:oy f g b'=2:=by unfold oy;rw[if_pos eg]
   have pb:oy g f b'=2:=by unfold oy;rw[if_pos ef]
   rw[oE e,pb]at q;have k:=cX _ (all t ht) q;have rx:=hrx t ht;have k1:=zw (B:=B) (k:=mM.k t) (n:=λ_=>1) ps 0 (λj _ _=>mh ..) λp hp=>(k p hp).m;have k4:m7 B mM (cn t.2.2) 0 (ps.map (Pl.ev B (oy f g)))≤m7 B mM (mM.k t) 0 (ps.map (Pl.ev B (oy f g))):=wU _ 0 λj=>Nat.le_max_right ..;have k5:m7 B mP (cn t.2.2) 0 (ps.map (Pl.ev B (oy f g)))≤m7 B mP (mP.k t) 0 (ps.map (Pl.ev B (oy f g))):=wU _ 0 λj=>rx.ct _;have k2:=k2 (k:=mP.k t) k;have k3:=k3 k;refine⟨?_,?_,?_⟩
   ·rw[oE e,oE e,oE e,pa,ef,eg];show(t.2.2.aD _).ms B mM+(Tr.nd t.1 _).ms B mN≤(Tr.nd t.1 _).ms B mM;rw[qx et,qx et,mR,m0,m1,n1];have:m7 B mN (mN.k t) 0 (ps.map (Pl.ev B g))=m7 B mN (λ_=>1) 0 (ps.map (Pl.ev B g)):=rfl;lia
   ·rw[oE e,oE e,pa,ef];show(t.2.2.aD _).ms B mP≤(Tr.nd t.1 _).ms B mP;rw[qx et,mR,p0,p1];have:=rx.sg;lia
   ·rw[oE e,oE e,pa,ef];show(t.2.2.aD _).dm B≤(Tr.nd t.1 _).dm B;have:=Yy b.ti t.2.2 hbR (fR (oy f g));have:=rx.sd;rw[rT et];lia
end
theorem FA:∀(ts:List Tr) (i:Nat),(∀x∈ts,x.ms B m≤(ak B x).ms H M)→m7 B m (λ_=>1) i ts≤m7 H M (λ_=>1) i (ts.map (ak B))
 | [],i,h=>by simp [m7]
 |x::ts,i,h=>by
  have h1:=h x aI;have h2:=FA (m:=m) (M:=M) (H:=H) ts (i+1) λy hy=>h y (aG _ hy);rw[az,m7,m7,cg,cg];lia
theorem Gb:∀(ts:List Tr),(∀x∈ts,x.dm B≤(ak B x).dm H)→ou B ts≤ou H (ts.map (ak B))
 | [],h=>by simp [ou]
 |x::ts,h=>by
  have h1:=h x aI;have h2:=Gb (H:=H) ts λy hy=>h y (aG _ hy);rw[az,ou,ou];lia
theorem m3.xw (c:m3 w0 w1 w2 w3 w4 w5 tt B) (h0:m.c0≤M.c0) (h01:m.c0≤M.c1) (h1:m.c1≤M.c1) (hm:∀t∈B,∀j,m.k t j≤2) (hM:M.k=λ_ _=>2):∀(n:Nat) {x:Tr},x.ao≤n→Wy [w0,w1,w2,w3,w4,w5] B x→x.ms B m≤(ak B x).ms (hk w0 w1) M∧x.dm B≤(ak B x).dm (hk w0 w1)
 |0,x,hn,hx=>by have:=tu x;lia
 |n+1,x,hn,hx=>by
  have b:=c.K.b;obtain ⟨h,ts,rfl,_,e,k⟩ |⟨t,ts,ht,rfl,e,hl,k⟩:=Wy.cases b hx
  ·rw[Tr.ao]at hn;have ih:=FA (B:=B) (m:=m) (M:=M) (H:=hk w0 w1) ts 0 λy hy=>(m3.xw c h0 h01 h1 hm hM n (by have:=pk hy;lia) (k y hy)).1;have id:=Gb (B:=B) (H:=hk w0 w1) ts λy hy=>(m3.xw c h0 h01 h1 hm hM n (by have:=pk hy;lia) (k y hy)).2;rw[ak,qD e,qe e,rO e];show _≤(Tr.nd h (ts.map (ak B))).ms (hk w0 w1) M∧_≤(Tr.nd h (ts.map (ak B))).dm (hk w0 w1);cases eh:nF (hk w0 w1) h with
   |none=>rw[qe eh,rO eh];lia
   |some u=>rw[qx eh,rT eh,hM,tD];lia
  ·rw[Tr.ao]at hn;have ih:=FA (B:=B) (m:=m) (M:=M) (H:=hk w0 w1) ts 0 λy hy=>(m3.xw c h0 h01 h1 hm hM n (by have:=pk hy;lia) (k y hy)).1;have id:=Gb (B:=B) (H:=hk w0 w1) ts λy hy=>(m3.xw c h0 h01 h1 hm hM n (by have:=pk hy;lia) (k y hy)).2;have hls:(ts.map (ak B)).length=t.2.1.nb:=by rw[ay,hl]
   obtain⟨h,ls,u,eL,eh,hb,_,_,_,nm⟩:=(c.lh ht).ex;have fl:=(b.lf t ht).br;have es:ak B (.nd t.1 ts)= .nd h (nN (ts.map (ak B)) ls):=by
    rw[ak,qy e];show t.2.1.aD (ts.map (ak B))=_;rw[eL,Tr.aD]
   have q2:m7 B m (m.k t) 0 ts≤m7 B m (λ_=>2) 0 ts:=wU _ 0 λj=>hm t ht j;rw[tD]at q2;rw[es,qx e,rT e,qx eh,rT eh,hM,tD];have fl':ny (ts.map (ak B)).length ls:=by rw[hls];rw[eL,Tr.br]at fl;rw[eL];exact fl
   rw[yl (B:=hk w0 w1) (m:=M) (λ_ z=>z) ls hb fl' 0];have q4:m7 (hk w0 w1) M (λ_=>1) 0 (ts.map (ak B))≤m7 (hk w0 w1) M (λj=>(ph ls).count (j:Int)) 0 (ts.map (ak B)):=by
    refine BH _ 0 λj _ hj=>iw.mpr (nm j ?_);rw[bI,hls]at hj;exact hj
   have q5:ou (hk w0 w1) (ts.map (ak B))≤ou (hk w0 w1) (nN (ts.map (ak B)) ls):=Bf _ λv hv=>by
    obtain⟨i,hi,ei⟩:=dJ hv;exact AT ls (nm i (by rw[←hls];exact hi)) (by rw[aP hi,ei])
   lia
structure DK (w0 w1 w2 w3 w4 w5:ah) (B:List Tn) (m:Nat) (X:Tr) (xs:List Tr):Prop where
  sh:Sh [w0,w1,w2,w3,w4,w5] B X
  sm:X.aE=true
  ex:xs=[]∨ ∃x,xs=[x]∧ak B x=X∧Wy [w0,w1,w2,w3,w4,w5] B x∧x.ms B mP≤400∧x.dm B≤40∧x.ne B≤5∧x.ms B mM=m
def m3.smx (c:m3 w0 w1 w2 w3 w4 w5 tt B) (hx:Wy [w0,w1,w2,w3,w4,w5] B x) (h1:x.ms B mP≤400) (h2:x.dm B≤40):(ak B x).aE=true:=by
 obtain⟨h3,h4⟩:=IY c.K c.F _ x (aA _) hx;exact B0 `l `l
def o7.all (d:o7 true w0 w1 w2 w3 w4 w5 tt B):∀t∈B,∀i:Nat,i<t.2.1.nb→(i:Int)∈t.2.2.nm:=λt ht i hi=>IR (d.c.nb3 ht) _ (d.ri t ht) i hi
def o7.psl (d:o7 true w0 w1 w2 w3 w4 w5 tt B) (hx:Wy [w0,w1,w2,w3,w4,w5] B x) (hs:Wy [w0,w1,w2,w3,w4,w5] B s) (e:ak B x=ak B s) (q:(res B s x).dM=true):(res B x s).ms B mM+s.ms B mN≤x.ms B mM∧(res B x s).ms B mP≤x.ms B mP∧(res B x s).dm B≤x.dm B:=by
 have K:=d.c.K;obtain⟨p,hp,rfl,rfl,_⟩:=v5 K hx hs e;have m1:=(vj (c:=nK 1) (d:=nK 2) K.b K.O.mt (ua (qS 1) (qS 2)) hp).res;have m2:=(vj (c:=nK 2) (d:=nK 1) K.b K.O.mt (ua (qS 2) (qS 1)) hp).res;rw[m2]at q;rw[m1];obtain⟨h1,h2,h3⟩:=d.c.past_le d.rx d.all (λx _ _=>⟨tz 1 x,tz 2 x⟩) hp q;exact⟨h1,h2,h3⟩
def m3.qsh (c:m3 w0 w1 w2 w3 w4 w5 tt B) (h:Sh [w0,w1,w2,w3,w4,w5] B X):X.dM=true:=(c.up_quiet h.wy).mpr λ_ u=>c.no_up u (h.sig c.K)
def o7.gsx (d:o7 true w0 w1 w2 w3 w4 w5 tt B) (hx:Wy [w0,w1,w2,w3,w4,w5] B x) (h1:x.ms B mP≤400) (h2:x.dm B≤40):(b9 B x).aE=true:=by
 have K:=d.c.K;have sg:=d.c.shg hx;have:=d.psl hx hx rfl (by rw[K.res_self hx];exact d.c.qsh sg);rw[K.res_self hx]at this;have:=d.c.smx sg.wy `l `l;rw[sg.q]at this;exact this
def o7.sti (d:o7 true w0 w1 w2 w3 w4 w5 tt B):Df [w0,w1,w2,w3,w4,w5] B (DK w0 w1 w2 w3 w4 w5 B) where
  sh:=λi=>⟨i.sh,i.sm⟩
  ro:=λ{m X xs} i=>by
    obtain rfl |⟨x,rfl,e,w,_,_,hn,_⟩:=i.ex
    · exact⟨trivial,`s,by rw[nR];lia⟩
    · exact⟨⟨w,e,trivial⟩,`s,by rw[nR,nR];lia⟩
  wy:=λ{m X xs} i y hy=>by
    obtain rfl |⟨x,rfl,e,w,h1,h2,hn,_⟩:=i.ex
    · cases hy
    · cases bg.mp hy;have:=d.c.smx w h1 h2;exact⟨⟨w,(d.c.K.fitw w this).1,hn⟩,this⟩
  go:=λ{m X xs q t us} i o hd hq=>by
    obtain rfl |⟨x,rfl,e,w,h1,h2,hn,em⟩:=i.ex
    · cases hq
    · subst e;have c:=d.c;have hX:=i.sh;have ws:=o.wy c.K hX;have es:=o.ak c.K hX;have eg:=o.b9 c.K hX;have mv:=c.K.moved w ws es.symm;have mv2:=c.K.moved ws w es;have qt:(res B (p5 (ak B x) q t us) x).dM=true:=(c.done hX o (xs:=[x]) ⟨w,rfl,trivial⟩ mv2.wy).mp hd;have k6:=Np ((Ou.up c (o.tt c.K) o.sh q hX o.hat q).mpr rfl);obtain⟨p1,p2,p3⟩:=d.psl w ws es.symm qt;have k7:(Tr.bQ (ak B x) q (.nd t.1 us)).ms B mN=(p5 (ak B x) q t us).ms B mN:=rfl;have sy:ak B (res B x (p5 (ak B x) q t us))=vc (ak B x) q t us:=by rw[mv.sr,eg]
      have y1:=d.c.smx mv.wy `l `l;have d1:pV B [x] [p5 (ak B x) q t us]=[res B x (p5 (ak B x) q t us)]:=rfl;refine⟨⟨λz hz=>?_,λz hz=>?_,?_⟩,(res B x (p5 (ak B x) q t us)).ms B mM,`l,?_⟩
      · cases bg.mp hz;exact d.gsx w h1 h2
      · cases bg.mp hz;rw[eg,←sy];exact y1
      · exact⟨⟨d.gsx mv.wy `l `l,trivial⟩,trivial⟩
      · rw[d1,←sy];have:=mv.ne;exact⟨c.shs mv.wy,y1, .inr ⟨_,rfl,rfl,mv.wy,`l,`l,`l,rfl⟩⟩
def wr (w4 w5:ah) (t:Tr):Tr:= .nd w4 [.nd w5 [],t]
def m3.n4 (c:m3 w0 w1 w2 w3 w4 w5 tt B):nF B w4=none:=qh c.K.b.ti (c.G.ok _ `s)
def m3.n5 (c:m3 w0 w1 w2 w3 w4 w5 tt B):nF B w5=none:=qh c.K.b.ti (c.G.ok _ `s)
def m3.wr_mk (c:m3 w0 w1 w2 w3 w4 w5 tt B) (g:Tn→Tr):(wr w4 w5 x).mk B g=wr w4 w5 (x.mk B g):=by
 rw[wr,qD c.n4,az,az,qD c.n5];rfl
def CO{f:Int→Nat}:(Pl.nd (-1) 0 w4 [.nd (-1) 0 w5 [],p]).ev B f=wr w4 w5 (p.ev B f):=by
 rw[pL,az,az,pL];rfl
def KI (h:nU [w0,w1,w2,w3,w4,w5] B p):nU [w0,w1,w2,w3,w4,w5] B (.nd (-1) 0 w4 [.nd (-1) 0 w5 [],p]):= .sign `s λq hq=>by
 obtain rfl |hq:=aB.mp hq
 ·exact .sign `s λ_ h=>nomatch h
 ·cases bg.mp hq;exact h
def m3.wr_wy (c:m3 w0 w1 w2 w3 w4 w5 tt B) (h:Wy [w0,w1,w2,w3,w4,w5] B x):Wy [w0,w1,w2,w3,w4,w5] B (wr w4 w5 x):=by
 obtain⟨p,hp,rfl,_⟩:=c.K.plan1 h;rw[←CO];exact c.K.wy (KI hp)
def m3.wr_sh (c:m3 w0 w1 w2 w3 w4 w5 tt B) (h:Sh [w0,w1,w2,w3,w4,w5] B X):Sh [w0,w1,w2,w3,w4,w5] B (wr w4 w5 X):=⟨c.wr_wy h.wy,by rw[ak,c.wr_mk];exact congrArg _ h.q⟩
def m3.wr_res (c:m3 w0 w1 w2 w3 w4 w5 tt B) (hx:Wy [w0,w1,w2,w3,w4,w5] B x) (hy:Wy [w0,w1,w2,w3,w4,w5] B y) (e:ak B x=ak B y):res B (wr w4 w5 x) (wr w4 w5 y)=wr w4 w5 (res B x y):=by
 obtain⟨p,hp,rfl,rfl,_⟩:=v5 c.K hx hy e;have m:∀{p:Pl},nU [w0,w1,w2,w3,w4,w5] B p→res B (p.ev B (nK 1)) (p.ev B (nK 2))=p.ev B (oy (nK 1) (nK 2)):=λhp=>(vj (c:=nK 1) (d:=nK 2) c.K.b c.K.O.mt (ua (qS 1) (qS 2)) hp).res;rw[m hp,←CO,←CO,←CO,m (KI hp)]
theorem m3.wr_roa (c:m3 w0 w1 w2 w3 w4 w5 tt B):∀(xs:List Tr) {X:Tr},ov [w0,w1,w2,w3,w4,w5] B X xs→ov [w0,w1,w2,w3,w4,w5] B (wr w4 w5 X) (xs.map (wr w4 w5))
 | [],X,_=>trivial
 |x::xs,X,⟨h1,h2,h3⟩=>⟨c.wr_wy h1,by rw[ak,c.wr_mk];exact congrArg _ h2,by rw[b9,c.wr_mk];exact m3.wr_roa c xs h3⟩
theorem m3.wr_end (c:m3 w0 w1 w2 w3 w4 w5 tt B):∀(xs:List Tr) {X:Tr},pP B (wr w4 w5 X) (xs.map (wr w4 w5))=wr w4 w5 (pP B X xs)
 | [],X=>rfl
 |x::xs,X=>by
  rw[az,pP,pP,b9,c.wr_mk];exact m3.wr_end c xs
theorem m3.wr_row (c:m3 w0 w1 w2 w3 w4 w5 tt B):∀(os:List Tr) {x t:Tr},Wy [w0,w1,w2,w3,w4,w5] B x→ak B x=t→ov [w0,w1,w2,w3,w4,w5] B t os→qf B (wr w4 w5 x) (os.map (wr w4 w5))=(qf B x os).map (wr w4 w5)∧rb B (wr w4 w5 x) (os.map (wr w4 w5))=wr w4 w5 (rb B x os)
 | [],x,t,_,_,_=>⟨rfl,rfl⟩
 |o::os,x,t,hx,ex,⟨r1,r2,r3⟩=>by
  have e:ak B x=ak B o:=by rw[ex,r2]
  have m:=c.K.moved hx r1 e;obtain⟨k1,k2⟩:=m3.wr_row c os m.wy m.sr r3;rw[az,qf,qf,rb,rb,c.wr_res hx r1 e,c.wr_res r1 hx e.symm,az];exact⟨by rw[k1],k2⟩
theorem m3.wr_down (c:m3 w0 w1 w2 w3 w4 w5 tt B):∀(xs os:List Tr) {t:Tr},ov [w0,w1,w2,w3,w4,w5] B t xs→ov [w0,w1,w2,w3,w4,w5] B t os→pV B (xs.map (wr w4 w5)) (os.map (wr w4 w5))=(pV B xs os).map (wr w4 w5)
 | [],os,t,_,_=>rfl
 |x::xs,os,t,⟨x1,x2,x3⟩,ho=>by
  obtain⟨k1,k2⟩:=c.wr_row os x1 x2 ho;rw[az,pV,pV,k1,k2,m3.wr_down c xs _ x3 (xn c.K os x1 x2 ho).1];rfl
def m3.wr_quiet (c:m3 w0 w1 w2 w3 w4 w5 tt B) (h:Wy [w0,w1,w2,w3,w4,w5] B x):(wr w4 w5 x).dM=x.dM:=by
 have:=c.qsh (c.shs (c.wr_wy (x:=ak B x) (c.shs h).wy));rw[ak,c.wr_mk,wr,Tr.dM,rF,bN,bN]at this;rw[wr,Tr.dM,rF,rF,rF,this.1,this.2.1];simp
theorem m3.wr_quiets (c:m3 w0 w1 w2 w3 w4 w5 tt B):∀(xs:List Tr),(∀x∈xs,Wy [w0,w1,w2,w3,w4,w5] B x)→(xs.map (wr w4 w5)).all Tr.dM=xs.all Tr.dM
 | [],_=>rfl
 |x::xs,h=>by
  rw[az,eV,eV,c.wr_quiet (h x aI),m3.wr_quiets c xs λy hy=>h y (aG _ hy)]
mutual
theorem KM:∀(t:Tr) (p:List Int),t.op B (r++p)=(t.op B p).map λz=>(r++z.1,z.2)
 | .bl _,p=>rfl
 | .nd s ts,p=>by
  rw[Tr.op,Tr.op,L6 ts p 0,bC];congr 1;split<;>rfl
theorem L6:∀(ts:List Tr) (p:List Int) (i:Nat),pD B (r++p) i ts=(pD B p i ts).map λz=>(r++z.1,z.2)
 | [],p,i=>rfl
 |t::ts,p,i=>by rw[pD,pD,bE,KM t,L6 ts,bC]
end
def m3.wr_op (c:m3 w0 w1 w2 w3 w4 w5 tt B):(wr w4 w5 X).op B []=(X.op B []).map λz=>(1::z.1,z.2):=by
 have o4:∀ts,pR B (.nd w4 ts)=none:=λts=>c.b.open_none (c.G.n0 w4 `s) (c.G.n1 w4 `s);have o5:∀ts,pR B (.nd w5 ts)=none:=λts=>c.b.open_none (c.G.n0 w5 `s) (c.G.n1 w5 `s);rw[wr,Tr.op,o4,pD,pD,pD,Tr.op,o5,pD];have:=KM (B:=B) (r:=[1]) X [];simpa using this
def m3.wr_lou (c:m3 w0 w1 w2 w3 w4 w5 tt B) (q:List Int):(wr w4 w5 x).lou B (1::q)=(x.lou B q).map (1:: ·):=vx (i:=1) c.n4 rfl
theorem m3.wr_dn (c:m3 w0 w1 w2 w3 w4 w5 tt B):∀(xs:List Tr) (ps:List (List Int)),p9 B (xs.map (wr w4 w5)) (ps.map (1:: ·))=(p9 B xs ps).map (1:: ·)
 | [],ps=>rfl
 |x::xs,ps=>by
  rw[az,p9,p9,←m3.wr_dn c xs];congr 1;rw[List.flatMap_map,List.map_flatMap];congr 1;funext q;exact c.wr_lou q
theorem Ps{f g:List Int→Bool}(h:∀q,g (1::q)=f q):∀qs:List (List Int),(qs.map (1:: ·)).find? g=(qs.find? f).map (1:: ·)
 | []=>rfl
 |q::qs=>by
  rw[az,b8,b8,h];cases f q
  ·exact Ps h qs
  ·rfl
def m3.wr_fst (c:m3 w0 w1 w2 w3 w4 w5 tt B):tW B (wr w4 w5 X) (xs.map (wr w4 w5))=(tW B X xs).map (1:: ·):=by
 unfold tW;have e:((X.op B []).map λz=>((1::z.1,z.2):List Int×ah)).map (λz=>z.1)=((X.op B []).map λz=>z.1).map (1:: ·):=by rw[bh,bh];rfl
 rw[c.wr_op,e];refine Ps (λq=>?_) _;have:=c.wr_dn xs [q];rw[az,dc]at this;rw[this];cases p9 B xs [q]<;>rfl
def m3.wr_ou (c:m3 w0 w1 w2 w3 w4 w5 tt B) (o:Ou [w0,w1,w2,w3,w4,w5] B X q t us):Ou [w0,w1,w2,w3,w4,w5] B (wr w4 w5 X) (1::q) t us:=⟨o.ht,o.hl,(t_ (i:=1) (show [Tr.nd w5 [],X][1]? =aa X from rfl) q).trans o.hat,o.sh⟩
def Ir:(wr w4 w5 X).bQ (1::q) v=wr w4 w5 (X.bQ q v):=by
 rw[wr,Tr.bQ];rfl
section
variable {B:List Tn}
theorem FD{wn:List (List Int)}{n m:Nat}{p:List Int}(f:∀{p:List Int}{t u v:Tr},Wi B wn n p t u→Wi B wn m p t v→u=v):∀(qs:List (List Int)) {ts us vs:List Tr},qi B wn n p qs ts us→qi B wn m p qs ts vs→us=vs
 | [],_,_,_,h,g=>by cases h;cases g;rfl
 |_::qs,_,_,_,h,g=>by
  cases h with
  |cons h1 h2=>
   cases g with
   |cons g1 g2=>rw[f h1 g1,FD f qs h2 g2]
def Qy{wn:List (List Int)}{n:Nat}:∀{m:Nat}{p:List Int}{t u v:Tr},Wi B wn n p t u→Wi B wn m p t v→u=v:=by
 induction n with
 |zero=>intro m p t u v h;cases h
 |succ n ih=>
  intro m p t u v h g;cases h with
  |no h1 h2 h3=>
   cases g with
   |no g1 g2 g3=>rw[FD ih _ h3 g3]
   |yes g1=>exact absurd g1 h1
  |yes h1 h2 h3 h4 h5=>
   cases g with
   |no g1=>exact absurd h1 g1
   |yes g1 g2 g3 g4 g5=>
    rw[h2]at g2;cases g2;rw[h3]at g3;cases g3;rw[FD ih _ h5 g5]
end
theorem By:∀(xs:List Tr) {t:Tr},ov ws B t xs→ ∀x∈xs,Wy ws B x
 |x::xs,t,⟨h1,_,h3⟩,z,hz=>(aB.mp hz).elim (λe=>e▸h1) (By xs h3 z)
def m3.ou_one (c:m3 w0 w1 w2 w3 w4 w5 tt B) (o:Ou [w0,w1,w2,w3,w4,w5] B X q t us) (o':Ou [w0,w1,w2,w3,w4,w5] B X q t' us'):t=t'∧us=us':=by
 have e:t.2.1.aD us=t'.2.1.aD us':=aO (o.hat.symm.trans o'.hat);have h1:=c.F.op t o.ht us o.hl;rw[e,c.F.op t' o'.ht us' o'.hl]at h1;cases h1;have h2:=c.K.O.mt t o.ht us o.hl;rw[e,c.K.O.mt t o.ht us' o'.hl]at h2;cases h2;exact⟨rfl,rfl⟩
def m3.std_one (c:m3 w0 w1 w2 w3 w4 w5 tt B) (s:sA [w0,w1,w2,w3,w4,w5] B X xs ps):∀{ps'},sA [w0,w1,w2,w3,w4,w5] B X xs ps'→ps=ps':=by
 induction s with
 |nil h=>
  intro ps' s';cases s' with
  |nil=>rfl
  |cons h1=>rw[h]at h1;cases h1
 |cons h1 h2 h3 h4 _ ih=>
  intro ps' s';cases s' with
  |nil h=>rw[h1]at h;cases h
  |cons g1 g2 g3 g4 g5=>
   rw[h2]at g2;cases g2;obtain⟨rfl,rfl⟩:=c.ou_one h3 g3;rw[ih g5]
def m3.wr_std (c:m3 w0 w1 w2 w3 w4 w5 tt B) (s:sA [w0,w1,w2,w3,w4,w5] B X xs ps):Sh [w0,w1,w2,w3,w4,w5] B X→ov [w0,w1,w2,w3,w4,w5] B X xs→sA [w0,w1,w2,w3,w4,w5] B (wr w4 w5 X) (xs.map (wr w4 w5)) (ps.map (1:: ·)):=by
 induction s with
 | @nil X xs h=>
  intro hX hR;refine .nil ?_;rw[c.wr_quiets _ λx hx=>By _ hR x hx];exact h
 | @cons X xs us q t ps h1 h2 h3 h4 _ ih=>
  intro hX hR;have ws:=h3.wy c.K hX;have es:=h3.ak c.K hX;have eg:=h3.b9 c.K hX;have ho:ov [w0,w1,w2,w3,w4,w5] B X [p5 X q t us]:=⟨ws,es,trivial⟩;have k1:=yD c.K _ _ hR ho;rw[show pP B X [p5 X q t us]=vc X q t us from eg]at k1;have k2:=ih (by rw[←eg];exact c.shg ws) k1;rw[az];refine .cons (us:=us) (t:=t) ?_ (by rw[c.wr_fst,h2];rfl) (c.wr_ou h3) ?_ ?_
  ·rw[c.wr_quiets _ λx hx=>By _ hR x hx];exact h1
  ·have:=c.wr_dn xs [q];rw[h4]at this;exact this
  ·rw[vc,p5,Ir,Ir];rw[←c.wr_down xs [p5 X q t us] hR ho]at k2;exact k2
theorem D3 (f:∀{p:List Int}{t u:Tr},Wi B wn n p t u→Wi B wm n (r++p) t u):∀(qs:List (List Int)) {ts us:List Tr},qi B wn n p qs ts us→qi B wm n (r++p) qs ts us
 | [],_,_,h=>by cases h;exact .nil
 |_::qs,_,_,h=>by
  cases h with
  |cons h1 h2=>exact .cons (by rw[bE];exact f h1) (D3 f qs h2)
theorem DL (hw:∀p,r++p∈wm↔p∈wn):∀(n:Nat) {p:List Int}{t u:Tr},Wi B wn n p t u→Wi B wm n (r++p) t u
 |0,p,t,u,h=>by cases h
 |n+1,p,t,u,h=>by
  cases h with
  |no h1 h2 h3=>exact .no (λz=>h1 ((hw p).mp z)) h2 (D3 (DL hw n) _ h3)
  |yes h1 h2 h3 h4 h5=>exact .yes ((hw p).mpr h1) h2 h3 h4 (D3 (DL hw n) _ h5)
def m3.wr_fw (c:m3 w0 w1 w2 w3 w4 w5 tt B) (h:Sh [w0,w1,w2,w3,w4,w5] B X):fw [w0,w1,w2,w3,w4,w5] B (wr w4 w5 X)=wr w4 w5 (fw [w0,w1,w2,w3,w4,w5] B X):=by
 have f1:=(wL c.b c.G c.K (c.wr_sh h)).wi;have f2:=(wL c.b c.G c.K h).wi;have ol:r9 B (wr w4 w5 X)=(r9 B X).map (1:: ·):=by
  unfold r9;rw[c.wr_op,bh,bh];rfl
 have hw:∀p,[1]++p∈r9 B (wr w4 w5 X)↔p∈r9 B X:=λp=>by
  rw[ol,aL];constructor
  ·rintro⟨z,h1,h2⟩;cases h2;exact h1
  ·exact λz=>⟨p,z,rfl⟩
 have f3:=DL hw _ f2;have z0:([]:List Int)∉r9 B (wr w4 w5 X):=λz=>by
  rw[ol,aL]at z;obtain⟨_,_,z⟩:=z;cases z
 have z1:([0]:List Int)∉r9 B (wr w4 w5 X):=λz=>by
  rw[ol,aL]at z;obtain⟨_,_,z⟩:=z;cases z
 have dp:=qK X;obtain⟨n,en⟩:∃n,X.depth=n+1:=⟨X.depth - 1,`l⟩
 rw[en]at f3;refine Qy f1 (.no (n:=n+1) z0 c.n4 (.cons (.no z1 c.n5 .nil) (.cons f3 .nil)))
theorem m3.wr_hh (c:m3 w0 w1 w2 w3 w4 w5 tt B) (h:Sh [w0,w1,w2,w3,w4,w5] B X):∀k,hh [w0,w1,w2,w3,w4,w5] B (wr w4 w5 X) k=wr w4 w5 (hh [w0,w1,w2,w3,w4,w5] B X k)
 |0=>rfl
 |k+1=>by
  rw[hh,hh,m3.wr_hh c h k,c.wr_fw (zW c.b c.G c.K h k),b9,c.wr_mk]
def m3.wr_wys (c:m3 w0 w1 w2 w3 w4 w5 tt B) (h:Sh [w0,w1,w2,w3,w4,w5] B X) (k:Nat):wys [w0,w1,w2,w3,w4,w5] B (wr w4 w5 X) k=(wys [w0,w1,w2,w3,w4,w5] B X k).map (wr w4 w5):=by
 unfold wys;rw[bh];refine c7 λi _=>?_;rw[c.wr_hh h,c.wr_fw (zW c.b c.G c.K h i)];rfl
structure tS (g:Bool) (w0 w1 w2 w3 w4 w5:ah) (B:List Tn) (X:Tr) (xs:List Tr):Prop where
  i:xU g w0 w1 w2 w3 w4 w5 B X xs
  n:∀x∈xs,x.ne B≤2
  l:xs.length≤3
def o7.rdN (h:o7 g w0 w1 w2 w3 w4 w5 tt B) (cl:Cl w0 w1 w2 w3 w4 w5 B X):FV [w0,w1,w2,w3,w4,w5] B X (if g then 1 else 3) (tS g w0 w1 w2 w3 w4 w5 B X):=by
 have R:=h.rdI cl;refine⟨⟨R.nil,(λ_ h=>nomatch h),aU _⟩,λi=>R.ro i.i,λi=>R.sh i.i,λ{xs u} i l y e n=>⟨R.go i.i l y e n,λx hx=>?_,?_⟩⟩
 ·obtain z |z:=bu.mp hx
  ·exact i.n x z
  ·cases bg.mp z;exact n
 ·have:(if g then 1 else 3)≤3:=by split<;>decide
  rw[aW,bZ];lia
theorem Ld:∀(xs:List Tr),(∀x∈xs,x.ne B≤2)→nR B xs≤2*xs.length
 | [],_=>by rw[nR];lia
 |x::xs,h=>by
  have h1:=h x aI;have h2:=Ld xs λy hy=>h y (aG _ hy);rw[nR,aT];lia
structure u7 (w0 w1 w2 w3 w4 w5:ah) (B:List Tn) (X:Tr):Prop where
  cl:Cl w0 w1 w2 w3 w4 w5 B X
  t:X.ms (hk w0 w1) mT≤15
def Gx{I:Nat→Tr→List Tr→Prop}(hI:Df [w0,w1,w2,w3,w4,w5] B I) (s:sA [w0,w1,w2,w3,w4,w5] B X xs ps):∀{m:Nat},I m X xs→ ∀p∈ps,p.length≤40:=by
 induction s with
 |nil=>intro m _ p hp;cases hp
 | @cons X xs us q t ps h1 h2 h3 h4 _ ih=>
  intro m i p hp;obtain rfl |hp:=aB.mp hp
  ·have:=Nv _ h3.hat;have:=(tB (hI.sh i).2).2;lia
  ·obtain⟨_,m',_,i'⟩:=hI.go i h3 h4 h1;exact ih i' p hp
def o7.ok_std{E:ah→kB→Prop}(d:o7 g w0 w1 w2 w3 w4 w5 tt B) (F:u7 w0 w1 w2 w3 w4 w5 B X) (ix:tS g w0 w1 w2 w3 w4 w5 B X xs) (fb:S ab=aa (.bJ (B.map nz))) (f6:S l6=aa (.bJ (xs.map j8))) (hr:116≤r) (h:∀S' f ps,Sub S S'→sA [w0,w1,w2,w3,w4,w5] B X xs ps→(ps.length≤60∧ ∀p∈ps,p.length≤40)→S' f=aa (.bJ (ps.map mZ))→Q (.ref f) S'):zk (r+1) [.ref ab, .bT [j8 X, .ref l6]] S Q E:=by
 have nl:=ix.l;have nr:=Ld xs ix.n;have tt:=F.t;cases g with
 |false=>
  have i0:Nm w0 w1 w2 w3 w4 w5 B (X.ms (hk w0 w1) mT) X xs:=⟨F.cl,ix.i.ro,`l,`l,λx hx=>aX (ix.n x hx) `d,rfl⟩
  exact d.c.ok_standard d.dr.sti i0 `l fb f6 hr λS' f ps s sd n ff=>h S' f ps s sd ⟨n,Gx d.dr.sti sd i0⟩ ff
 |true=>
  match xs,ix.i.ro,ix.n,ix.i.le rfl,f6,h with
  | [],_,_,_,f6,h=>
   have i0:DK w0 w1 w2 w3 w4 w5 B 0 X []:=⟨F.cl.sh,F.cl.sm, .inl rfl⟩;exact d.c.ok_standard d.sti i0 `d fb f6 hr λS' f ps s sd n ff=>h S' f ps s sd ⟨n,Gx d.sti sd i0⟩ ff
  | [x],⟨r1,r2,_⟩,n,_,f6,h=>
   obtain⟨k1,k2⟩:=d.c.xw (m:=mP) (M:=mP) `d `d `d (λ_ _ _=>aA _) rfl _ (aA _) r1;obtain⟨k3,_⟩:=d.c.xw (m:=mM) (M:=mT) `d `d `d (λt ht j=>Nat.max_le.mpr ⟨`d,(d.rx t ht).ct _⟩) rfl _ (aA _) r1;have:=F.cl.p;have:=F.cl.q;rw[r2]at k1 k2 k3;have i0:DK w0 w1 w2 w3 w4 w5 B (x.ms B mM) X [x]:=⟨F.cl.sh,F.cl.sm, .inr ⟨x,rfl,r2,r1,`l,`l,aX (n x `s) `d,rfl⟩⟩
   exact d.c.ok_standard d.sti i0 `l fb f6 hr λS' f ps s sd n ff=>h S' f ps s sd ⟨n,Gx d.sti sd i0⟩ ff
def o7.hsm (d:o7 g w0 w1 w2 w3 w4 w5 tt B) (cl:Cl w0 w1 w2 w3 w4 w5 B X):∀k,k≤(if g then 1 else 2)→(hh [w0,w1,w2,w3,w4,w5] B X k).aE=true:=by
 intro k hk;cases g with
 |false=>
  have go:∀k,Cl w0 w1 w2 w3 w4 w5 B (hh [w0,w1,w2,w3,w4,w5] B X k):=λk=>by
   induction k with
   |zero=>exact cl
   |succ k ih=>
    have f:=wL d.c.b d.c.G d.c.K ih.sh;exact d.dr.cl f.wy (by rw[f.sr];exact ih)
  exact(go k).sm
 |true=>
  match k,hk with
  |0,_=>exact cl.sm
  |1,_=>
   have f:=wL d.c.b d.c.G d.c.K cl.sh;exact d.c.gs d.rx f.wy (by show Cl w0 w1 w2 w3 w4 w5 B (ak B (fw [w0,w1,w2,w3,w4,w5] B X));rw[f.sr];exact cl)
def Yk (c:m3 w0 w1 w2 w3 w4 w5 tt B):(wr w4 w5 x).ne B≤x.ne B:=by
 rw[wr,Tr.ne,c.n4];dsimp only;rw[oJ,oJ,oJ,Tr.ne,c.n5];dsimp only;rw[oJ];lia
def o7.wr_in (d:o7 g w0 w1 w2 w3 w4 w5 tt B) (ix:tS g w0 w1 w2 w3 w4 w5 B X xs):tS g w0 w1 w2 w3 w4 w5 B (wr w4 w5 X) (xs.map (wr w4 w5)):=
  ⟨⟨d.c.wr_roa xs ix.i.ro,λz=>by rw[ay];exact ix.i.le z⟩,λx hx=>by
    obtain⟨y,hy,rfl⟩:=aL.mp hx;exact aX (Yk d.c) (ix.n y hy),by rw[ay];exact ix.l⟩
def IT (c:m3 w0 w1 w2 w3 w4 w5 tt B) (h:m.c0=0):(wr w4 w5 x).ms B m=x.ms B m:=by
 rw[wr,qe c.n4,m7,m7,m7,qe c.n5,m7,h];lia
def o7.wr_shf (d:o7 g w0 w1 w2 w3 w4 w5 tt B) (F:u7 w0 w1 w2 w3 w4 w5 B X) (h1:X.ms (hk w0 w1) mP≤398) (h2:X.dm (hk w0 w1)≤39):u7 w0 w1 w2 w3 w4 w5 B (wr w4 w5 X):=by
 have k4:=d.c.G.no w4 `s;have k5:=d.c.G.no w5 `s;have c0:mP.c0=1:=rfl;have t0:mT.c0=0:=rfl;have:=F.t;refine⟨⟨d.c.wr_sh F.cl.sh,?_,?_⟩,?_⟩
 ·rw[wr,qe k4,m7,m7,m7,qe k5,m7,c0];lia
 ·rw[wr,rO k4,ou,ou,ou,rO k5,ou];lia
 ·rw[wr,qe k4,m7,m7,m7,qe k5,m7,t0];lia
def o7.wr_out (d:o7 g w0 w1 w2 w3 w4 w5 tt B) (cl:Cl w0 w1 w2 w3 w4 w5 B X) (cl':Cl w0 w1 w2 w3 w4 w5 B (wr w4 w5 X)) (h:rS [w0,w1,w2,w3,w4,w5] B X (if g then 1 else 2) k false):rS [w0,w1,w2,w3,w4,w5] B (wr w4 w5 X) (if g then 1 else 2) k false:=by
 have op:∀i,(hh [w0,w1,w2,w3,w4,w5] B (wr w4 w5 X) i).op B []=[]↔(hh [w0,w1,w2,w3,w4,w5] B X i).op B []=[]:=λi=>by
  rw[d.c.wr_hh cl.sh,d.c.wr_op,kH]
 refine⟨λi hi=>?_,h.2.imp id λz=>(op k).mpr z⟩;obtain⟨h1,h2,h3⟩:=h.1 i hi;exact⟨h1,λz=>h2 ((op i).mp z),d.hsm cl' (i+1) `l⟩
section
variable {S:kB}{aw ab l6 l7 q:ai}{w0 w1 w2 w3 w4 w5:ah}{tt:List ah}{B:List Tn}{X:Tr}{xs os:List Tr}{g:Bool}{Q:WK}{E:ah→kB→Prop}{r:Nat}
noncomputable def rq (B:List Tn) (x:Tr):W:= .bT [.int (x.ms B mF:Nat), .int (x.ms B mM:Nat)]
structure Qa (S:kB) (w0 w1 w2 w3 w4 w5:ah) (B:List Tn) (g:Bool) (X:Tr) (xs os:List Tr) (v:W):Prop where
  ex:∃q f bd q2 ps k,v= .bT [.bT [j8 (pP B X os), .ref q], .bl ((pV B xs os).all Tr.dM), .ref f, .ref bd, .bT [j8 X, .ref q2], .bl ((hh [w0,w1,w2,w3,w4,w5] B X k).op B []).isEmpty]∧S q=aa (.bJ ((pV B xs os).map j8))∧sA [w0,w1,w2,w3,w4,w5] B X xs ps∧(ps.length≤60∧ ∀p∈ps,p.length≤40)∧S f=aa (.bJ (ps.map mZ))∧S bd=aa (.bJ (xs.map (rq B)))∧rS [w0,w1,w2,w3,w4,w5] B X (if g then 1 else 2) k false∧S q2=aa (.bJ (af (wys [w0,w1,w2,w3,w4,w5] B X k)))
def o7.ok_told (d:o7 g w0 w1 w2 w3 w4 w5 tt B) (F:u7 w0 w1 w2 w3 w4 w5 B X) (ix:tS g w0 w1 w2 w3 w4 w5 B X xs) (io:tS g w0 w1 w2 w3 w4 w5 B X os) (fb:S ab=aa (.bJ (B.map nz))) (f6:S l6=aa (.bJ (xs.map j8))) (f7:S l7=aa (.bJ (os.map j8))) (h:∀S' v,Sub S S'→Qa S' w0 w1 w2 w3 w4 w5 B g X xs os v→Q v S'):zN 199 [.ref ab, .bT [j8 X, .ref l6], .bT [j8 X, .ref l7], .int (if g then 1 else 2:Nat)] S Q E:=by
 have cl:=F.cl;have gg:=d.gg cl ix.i io.i;have nx:=ix.l;have no:=io.l;rw[show(199:Nat)=198+1 from rfl,zN];ext;refine KH (r:=197) d.c.K fb f6 f7 ix.i.ro io.i.ro cl.sm `l `l `d (λz=>absurd rfl z) (λ_ z=>absurd gg z) λ_ _ S1 q s1 _ fq=>?_
 try ext
 refine VY (r:=197) d.c (s1 _ _ fb) cl.sh cl.sm (l:=if g then 1 else 2) (by split<;>decide) `d (λk o S2 q2 s2 fq2=>?_) λk o=>?_
 ·try ext
  rw[show nW [j8 X,W.ref l6] 1=aa (.ref l6) from rfl];dsimp only;have f6':=s2 _ _ (s1 _ _ f6);have fb':=s2 _ _ (s1 _ _ fb);rw[nG f6'];refine qk (λσ=>∃y,σ=[y,aa (.ref ab)]) j8 (rq B) f6' xs [] _ ⟨none,rfl⟩ (by simp;lia) (λx hm σ R hI hR=>?_) ?_
  ·obtain⟨y,rfl⟩:=hI;obtain⟨x1,x2,_⟩:=d.ways cl ix.i x hm;obtain⟨e1,e2,_⟩:=d.c.K.fitw x1 x2;simp only[HK];ext;refine D1 (r:=197) d.c.K.b 40 e1 `d fb' x1 `l ?_
   try ext
   refine Ee (r:=197) d.c.K.b 40 e1 `d fb' x1 `l ?_
   try ext
   exact⟨`d,hR _ _ ⟨_,rfl⟩ .refl⟩
  ·rw[aM];intro bd hbd
   try ext
   have s3:Sub S2 (bQ S2 bd (.bJ (xs.map (rq B)))):= .bQ .refl hbd;have fbd:bQ S2 bd (.bJ (xs.map (rq B))) bd=aa (.bJ (xs.map (rq B))):=nv;generalize bQ S2 bd (.bJ (xs.map (rq B)))=S3 at s3 fbd⊢;refine Vg (r:=197) d.c.K (s3 _ _ fb') (s3 _ _ f6') (s3 _ _ (s2 _ _ (s1 _ _ f7))) ix.i.ro io.i.ro cl.sm `l `l `d (λz=>absurd rfl z) (λ_ z=>absurd gg z) λ_ _ S4 s4=>?_
   try ext
   refine d.ok_std (r:=197) F ix (s4 _ _ (s3 _ _ fb')) (s4 _ _ (s3 _ _ f6')) `d λS5 f ps s5 sd pl ff=>?_
   try ext
   have s35:=s3.trans (s4.trans s5);refine⟨`d,_, .refl,h S5 _ ((s1.trans s2).trans s35) ⟨q,f,bd,q2,ps,k,rfl,s35 _ _ (s2 _ _ fq),sd,pl,ff,(s4.trans s5) _ _ fbd,o,s35 _ _ fq2⟩⟩
 ·have:=d.hsm cl (k+1) (by have:=o.2.1;lia);rw[o.2.2.2]at this;cases this
def Pb (fw:S aw=aa (.bJ (qa w0 w1 w2 w3 w4 w5))) (h:Q (j8 (wr w4 w5 t)) S):zb (r+1) [j8 t, .ref aw] S Q E:=by
 rw[zb];ext;simp only[nG fw,qp,ql]
 try ext
 have e:j8 (wr w4 w5 t)= .bT [.str w4, .bT [.str w5],j8 t]:=by simp only[wr,j8,af]
 rw[e]at h
 first |exact⟨`d,`d,_, .refl,h⟩ |exact⟨_, .refl,h⟩ |exact⟨`d,_, .refl,h⟩
def CY (fw:S aw=aa (.bJ (qa w0 w1 w2 w3 w4 w5))) (fq:S q=aa (.bJ (xs.map j8))) (hn:xs.length≤900) (h:∀S' m,Sub S S'→S' m=aa (.bJ ((xs.map (wr w4 w5)).map j8))→Q (.bT [j8 (wr w4 w5 X), .ref m]) S'):xt (r+2) [.bT [j8 X, .ref q], .ref aw] S Q E:=by
 rw[show r+2=r+1+1 from rfl,xt];ext;refine Pb fw ?_
 try ext
 rw[show nW [j8 X,W.ref q] 1=aa (.ref q) from rfl];dsimp only;rw[nG fq];refine qk (λσ=>∃y,σ=[y,aa (.ref aw)]) j8 (λx=>j8 (wr w4 w5 x)) fq xs [] _ ⟨none,rfl⟩ (by simp;lia) (λx hm σ R hI hR=>?_) ?_
 ·obtain⟨y,rfl⟩:=hI;simp only[Hs];ext;exact Pb fw (hR _ _ ⟨_,rfl⟩ .refl)
 ·rw[aM];intro m hm
  try ext
  exact⟨`d,_, .refl,h _ m (.bQ .refl hm) (by rw[nv,bh];rfl)⟩
end
def Wq (h:∀(S':kB) (aw at' ab:ai) (w0 w1 w2 w3 w4 w5:ah) (tt:List ah) (B:List Tn) (g:Bool),o7 g w0 w1 w2 w3 w4 w5 tt B→S' aw=aa (.bJ (qa w0 w1 w2 w3 w4 w5))→S' ab=aa (.bJ (B.map nz))→T E D (aa (.cM ns)::aa (.ref aw)::aa (.ref at')::aa (.bl g)::aa (.ref ab)::τ) S') :
  EV 199 (G0 199 (GB 199 (Fj 199 T))) E D (aa (.cM ns)::x1::x2::x3::x4::τ) S:=by
 unfold EV G0 GB Fj;ext;refine vP `d λc0=>vP `d λc1=>Lj λaw ws hw0 hws=>?_;obtain⟨w0,w1,w2,w3,w4,w5,rfl,G⟩:=X2 hws;have fw:bQ S aw (Ob.bJ ([w0,w1,w2,w3,w4,w5].map W.str)) aw=aa (.bJ (qa w0 w1 w2 w3 w4 w5)):=nv;generalize bQ S aw (Ob.bJ ([w0,w1,w2,w3,w4,w5].map W.str))=S1 at fw⊢;refine vP `d λc2=>vP `d λc3=>Lj λat' tt ht0 htt=>?_;have ft:bQ S1 at' (Ob.bJ (tt.map W.str)) at'=aa (.bJ (tt.map W.str)):=nv;replace fw:=keep (x:=Ob.bJ (tt.map W.str)) fw ht0;generalize bQ S1 at' (Ob.bJ (tt.map W.str))=S2 at fw ft⊢;have T':=Yx htt;refine vP `d λc4=>?_
 try ext
 refine⟨`d,?_⟩
 try ext
 generalize (c4 % 2 == 1)=g;refine QN (r:=192) T'.len `d fw ft λab B n m hb0 e1 e2 e3=>?_;have nb:∀t∈B,t.2.1.nb≤3:=λt ht=>by
  have h1:t.2.1∈bH n w0 w2 w3++bH m w1 w2 w3:=by rw[←e1];exact fu ht
  obtain z |z:=bu.mp h1
  ·exact(Fl _ _ _ _ _ z).2.2
  ·exact(Fl _ _ _ _ _ z).2.2
 have b:m_ w0 w1 w2 w3 w4 w5 tt B:=⟨⟨n,m,e1⟩,e2,λt ht=>XN (nb t ht) g _ (e3 t ht)⟩;exact h _ aw at' ab w0 w1 w2 w3 w4 w5 tt B g ⟨⟨b,T',G⟩,e3⟩ (keep (x:=Ob.bJ (B.map nz)) fw hb0) nv
def Ss (d:o7 g w0 w1 w2 w3 w4 w5 tt B) (fw:S aw=aa (.bJ (qa w0 w1 w2 w3 w4 w5))) (fb:S ab=aa (.bJ (B.map nz))) (h:∀S' X,u7 w0 w1 w2 w3 w4 w5 B X→u7 w0 w1 w2 w3 w4 w5 B (wr w4 w5 X)→S' aw=aa (.bJ (qa w0 w1 w2 w3 w4 w5))→S' ab=aa (.bJ (B.map nz))→T E D [aa (.cM ns),aa (.ref aw),a2,a3,aa (.ref ab),aa (j8 X),a6,a7,a8,a9,a10,a11] S') :
  E5 199 T E D [aa (.cM ns),aa (.ref aw),a2,a3,aa (.ref ab),a5,a6,a7,a8,a9,a10,a11] S:=by
 have bk:=d.c.bk;have ne:B≠ []:=by
  have h:=d.c.b.len;rintro rfl;simp at h
 rw[E5];ext;intro ac hc;refine WP (r:=189) (m:=7) `d nv (keep fb hc) (keep fw hc) bk ne λp v S' sub pa po pw pn=>?_;have hdp:=Ln p;have fb:=sub _ _ (keep fb hc);have fw:=sub _ _ (keep fw hc);obtain⟨h1,h2,h3,h4,h5⟩:=d.c.plh po;have hz:∀x:Int,0≤x→x<8→nK 8 x=0:=λx h0 h1=>by
  unfold nK;have:x / 8=0:=Int.ediv_eq_zero_of_lt h0 h1;rw[this];rfl
 have ez:p.ev B (nK 8)=p.ev B zr:=uh po λx h0 h1=>by rw[hz x h0 h1];rfl
 have wy1:=d.c.K.wy (c:=nK 1) (po.up λx hx=>aG _ (aG _ hx));have es:ak B (p.ev B (nK 1))=p.ev B (nK 8):=by
  show(p.ev B (nK 1)).mk B (λt=>t.2.1)=_;rw[vM bk po];exact uh po λx h0 h1=>by
   rw[hz x h0 h1];have:=tz 1 x;unfold uW;split<;>lia
 have sh:Sh [w0,w1,w2,w3,w4,w5] B (p.ev B (nK 8)):=by rw[←es];exact Sh.of d.c.K wy1
 rw[←ez]at h2 h3 h4;have pw3:2 ^ p.nt≤2 ^ 4:=dj `d pn;have pw2:(p.wt - p.nt+7)*2 ^ p.nt≤22*16:=Nat.mul_le_mul `l (dj `d pn);have F:u7 w0 w1 w2 w3 w4 w5 B (p.ev B (nK 8)):=⟨⟨sh,`l,`l⟩,`l⟩
 exact Ia (r:=198) `d fb bk 23 `l `l pa po `l (h S' _ F (d.wr_shf F `l `l) fw fb)
def P_ (d:o7 g w0 w1 w2 w3 w4 w5 tt B) (cl:Cl w0 w1 w2 w3 w4 w5 B X) (fb:S ab=aa (.bJ (B.map nz))) (fw:S aw=aa (.bJ (qa w0 w1 w2 w3 w4 w5))) (h:∀S' l6 l7 xs os,tS g w0 w1 w2 w3 w4 w5 B X xs→tS g w0 w1 w2 w3 w4 w5 B X os→S' aw=aa (.bJ (qa w0 w1 w2 w3 w4 w5))→S' ab=aa (.bJ (B.map nz))→S' l6=aa (.bJ (xs.map j8))→S' l7=aa (.bJ (os.map j8))→T E D [aa (.cM ns),a1,a2,aa (.bl g),aa (.ref ab),aa (j8 X),aa (.bT [j8 X, .ref l6]),aa (.bT [j8 X, .ref l7]),a8,a9,a10,a11] S') :
  GE 199 (Hd 199 T) E D [aa (.cM ns),a1,a2,aa (.bl g),aa (.ref ab),aa (j8 X),a6,a7,a8,a9,a10,a11] S:=by
 have go:∀{S:kB}{k:Int}{Q:WK}{E:ah→kB→Prop},S ab=aa (.bJ (B.map nz))→0≤k→(∀S' l xs,Sub S S'→tS g w0 w1 w2 w3 w4 w5 B X xs→xs.length≤3→S' l=aa (.bJ (xs.map j8))→Q (.bT [j8 X, .ref l]) S')→yy 199 [.cM ns, .ref ab,j8 X, .int k, .int (3 - 2*(if g then 1 else 0))] S Q E:=by
  intro S k Q E fb hk hq;have e:(3 - 2*(if g then 1 else 0):Int)=((if g then 1 else 3:Nat):Int):=by cases g<;>rfl
  rw[e];have e3:(if g then 1 else 3:Nat)≤3:=by split<;>decide
  exact WJ (r:=198) d.c (d.rdN cl) fb e3 hk `d λS' l xs sb i n fl=>hq S' l xs sb i `l fl
 unfold GE Hd;ext;have cm:qE 2 (if g=true then 1 else 0):= .inl ⟨`d,`d⟩
 refine⟨cm,go fb `d λS1 l6 xs s1 i1 n1 f6=>⟨cm,go (s1 _ _ fb) `d λS2 l7 os s2 i2 n2 f7=>?_⟩⟩;exact h S2 l6 l7 xs os i1 i2 (s2 _ _ (s1 _ _ fw)) (s2 _ _ (s1 _ _ fb)) (s2 _ _ f6) f7
def Tu (h:T E D [a0,a1,a2,aa (.bl g),a4,a5,a6,a7,aa (.int (if g then 1 else 2:Nat)),a9,a10,a11] S):G5 199 T E D [a0,a1,a2,aa (.bl g),a4,a5,a6,a7,a8,a9,a10,a11] S:=by
 rw[G5];ext;have e:(2 - (if g=true then 1 else 0):Int)=((if g then 1 else 2:Nat):Int):=by cases g<;>rfl
 rw[e];exact h
def zDv{S:kB}{f:ai}{E:WX}{D:nC}{T:WS}{ps:List (List Int)}{a0 a1 a2 a3 a4 a5 a6 a7 a8 a10 a11:Option W}{y0 y1 y3 y4 y5:W}(ff:S f=aa (.bJ (ps.map mZ))) (hp:∀p∈ps,p.length≤40) (hl:ps.length≤1000) (h:∀z0,S z0=none→T E D [a0,a1,a2,a3,a4,a5,a6,a7,a8,aa (.bT [y0,y1, .ref f,y3,y4,y5]),aa (.ref z0),a11] (bQ S z0 (.bJ ((ps.map (1:: ·)).map mZ)))) :
  E9 199 T E D [a0,a1,a2,a3,a4,a5,a6,a7,a8,aa (.bT [y0,y1, .ref f,y3,y4,y5]),a10,a11] S:=by
 rw[E9];ext;rw[show nW [y0,y1,W.ref f,y3,y4,y5] 2=aa (.ref f) from rfl];dsimp only;rw[nG ff];refine qk (λσ=>∃y,σ=[y]) mZ (λp=>mZ (1::p)) ff ps [] _ ⟨none,rfl⟩ (by simp;lia) (λx hm σ R hI hR=>?_) ?_
 ·obtain⟨y,rfl⟩:=hI;have:=hp x hm;simp only[Mn,mZ];ext;exact⟨`d,nH (by simp;lia),hR _ _ ⟨_,rfl⟩ .refl⟩
 ·rw[aM];intro l hl;have:=h l hl;rw[bh]at this;exact this
def RT (fw:S aw=aa (.bJ (qa w0 w1 w2 w3 w4 w5))) {Y Z:Tr}{us vs:List Tr}(fq:S q=aa (.bJ (us.map j8))) (fq2:S q2=aa (.bJ (vs.map j8))) (hu:us.length≤900) (hv:vs.length≤900) (h:∀S' m1 m2,Sub S S'→S' m1=aa (.bJ ((us.map (wr w4 w5)).map j8))→S' m2=aa (.bJ ((vs.map (wr w4 w5)).map j8))→T E D [a0,aa (.ref aw),a2,a3,a4,a5,a6,a7,a8,aa (.bT [.bT [j8 Y, .ref q],y1, .ref f,y3, .bT [j8 Z, .ref q2],y5]),aa (.ref l10),aa (.bT [.bT [j8 (wr w4 w5 Y), .ref m1],y1, .ref l10,y3, .bT [j8 (wr w4 w5 Z), .ref m2],y5])] S') :
  F7 199 T E D [a0,aa (.ref aw),a2,a3,a4,a5,a6,a7,a8,aa (.bT [.bT [j8 Y, .ref q],y1, .ref f,y3, .bT [j8 Z, .ref q2],y5]),aa (.ref l10),a11] S:=by
 rw[F7];ext;refine CY (r:=197) fw fq hu λS1 m1 s1 f1=>?_
 try ext
 rw[show nW [W.bT [j8 Y, .ref q],y1,W.ref f,y3,W.bT [j8 Z, .ref q2],y5] 1=aa y1 from rfl,show nW [W.bT [j8 Y, .ref q],y1,W.ref f,y3,W.bT [j8 Z, .ref q2],y5] 3=aa y3 from rfl,show nW [W.bT [j8 Y, .ref q],y1,W.ref f,y3,W.bT [j8 Z, .ref q2],y5] 4=aa (.bT [j8 Z, .ref q2]) from rfl,show nW [W.bT [j8 Y, .ref q],y1,W.ref f,y3,W.bT [j8 Z, .ref q2],y5] 5=aa y5 from rfl];dsimp only;refine CY (r:=197) (s1 _ _ fw) (s1 _ _ fq2) hv λS2 m2 s2 f2=>?_
 try ext
 exact⟨`d,h S2 m1 m2 (s1.trans s2) (s2 _ _ f1) f2⟩
theorem Mg (n:Nat):∀(xs:List Tr),oD (oq S (n+2)) (xs.map (rq B)) (xs.map (rq B))=aa true
 | []=>rfl
 |x::xs=>by
  have e:oq S (n+2) (rq B x) (rq B x)=aa true:=by
   rw[rq,zL,oD,oD,oD];simp [oq]
  rw[az,oD,e,Mg n xs];rfl
def TU{S:kB}{q f bd q2:ai}{B:List Tn}{xs:List Tr}{ps:List (List Int)}{Y Z:Tr}{us vs:List Tr}{q' f' bd' q2':ai}{b e:Bool}(hY:Y.depth≤40) (hZ:Z.depth≤40) (hu:∀x∈us,x.depth≤40) (hv:∀x∈vs,x.depth≤40) (fq:S q=aa (.bJ (us.map j8))) (fq':S q'=aa (.bJ (us.map j8))) (ff:S f=aa (.bJ (ps.map mZ))) (ff':S f'=aa (.bJ (ps.map mZ))) (fd:S bd=aa (.bJ (xs.map (rq B)))) (fd':S bd'=aa (.bJ (xs.map (rq B)))) (f2:S q2=aa (.bJ (vs.map j8))) (f2':S q2'=aa (.bJ (vs.map j8))) :
  oq S 60 (.bT [.bT [j8 Y, .ref q], .bl b, .ref f, .ref bd, .bT [j8 Z, .ref q2], .bl e]) (.bT [.bT [j8 Y, .ref q'], .bl b, .ref f', .ref bd', .bT [j8 Z, .ref q2'], .bl e])=aa true:=by
 have e1:∀{Y:Tr}{q q':ai}{us:List Tr},Y.depth≤40→(∀x∈us,x.depth≤40)→S q=aa (.bJ (us.map j8))→S q'=aa (.bJ (us.map j8))→oq S 59 (.bT [j8 Y, .ref q]) (.bT [j8 Y, .ref q'])=aa true:=λ{Y q q' us} hY hu fq fq'=>by
  rw[zL,oD,oD,oD,Dm 58 _ _ `l,Fa,XF (n:=57) (λx hm=>by have:=hu x hm;lia) fq fq']
  rfl
 have e2:oq S 59 (.ref f) (.ref f')=aa true:=EF ff ff' (by
  have go:∀ps:List (List Int),oD (oq S 58) (ps.map mZ) (ps.map mZ)=aa true:=λps=>by
   induction ps with
   |nil=>rfl
   |cons p ps ih=>
    have e:oq S 58 (mZ p) (mZ p)=aa true:=by rw[DC (n:=56)];simp
    rw[az,oD,e,ih];rfl
  exact go ps)
 have e3:oq S 59 (.ref bd) (.ref bd')=aa true:=EF fd fd' (Mg 56 xs);have eb:∀b:Bool,oq S 59 (.bl b) (.bl b)=aa true:=λb=>by simp [oq]
 rw[zL,oD,oD,oD,oD,oD,oD,oD,e1 hY hu fq fq',eb,e2,e3,e1 hZ hv f2 f2',eb];rfl
section
variable {S:kB}{aw ab l6 l7 f bd l10 m1 m2:ai}{w0 w1 w2 w3 w4 w5:ah}{tt:List ah}{B:List Tn}{E:WX}{D:nC}{X:Tr}{xs os:List Tr}{g:Bool}{ps:List (List Int)}{k:Nat}{a0 a2 a3 a5 a9 a10:Option W}
def rS.le (o:rS ws B X l k false):k≤l:=by
 cases k with
 |zero=>exact aU _
 |succ k=>exact(o.1 k (lN k)).1
def QR (d:o7 g w0 w1 w2 w3 w4 w5 tt B) (F:u7 w0 w1 w2 w3 w4 w5 B X) (F':u7 w0 w1 w2 w3 w4 w5 B (wr w4 w5 X)) (ix:tS g w0 w1 w2 w3 w4 w5 B X xs) (io:tS g w0 w1 w2 w3 w4 w5 B X os) (fw:S aw=aa (.bJ (qa w0 w1 w2 w3 w4 w5))) (fb:S ab=aa (.bJ (B.map nz))) (f6:S l6=aa (.bJ (xs.map j8))) (f7:S l7=aa (.bJ (os.map j8)))
  (sd:sA [w0,w1,w2,w3,w4,w5] B X xs ps) (o:rS [w0,w1,w2,w3,w4,w5] B X (if g then 1 else 2) k false) (f1:S m1=aa (.bJ (((pV B xs os).map (wr w4 w5)).map j8))) (f10:S l10=aa (.bJ ((ps.map (1:: ·)).map mZ))) (fd:S bd=aa (.bJ (xs.map (rq B)))) (f2:S m2=aa (.bJ (((wys [w0,w1,w2,w3,w4,w5] B X k).map (wr w4 w5)).map j8))) (h:∀S',D.rt (.bl true) S') :
  Gu 199 E D [a0,aa (.ref aw),a2,a3,aa (.ref ab),a5,aa (.bT [j8 X, .ref l6]),aa (.bT [j8 X, .ref l7]),aa (.int (if g then 1 else 2:Nat)),a9,a10,aa (.bT [.bT [j8 (wr w4 w5 (pP B X os)), .ref m1], .bl ((pV B xs os).all Tr.dM), .ref l10, .ref bd, .bT [j8 (wr w4 w5 X), .ref m2], .bl ((hh [w0,w1,w2,w3,w4,w5] B X k).op B []).isEmpty])] S:=by
 have c:=d.c;have nx:=ix.l;have no:=io.l;have ix':=d.wr_in ix;have io':=d.wr_in io;rw[Gu];ext;refine CY (r:=197) fw f6 `l λS1 l6' s1 g6=>?_
 try ext
 refine CY (r:=197) (s1 _ _ fw) (s1 _ _ f7) `l λS2 l7' s2 g7=>?_
 try ext
 have s12:=s1.trans s2;refine d.ok_told F' ix' io' (s12 _ _ fb) (s2 _ _ g6) g7 λS3 v s3 ⟨q',f',bd',q2',ps',k',ev,fq',sd',_,ff',fd',o',fq2'⟩=>?_;subst ev;have sb:=s12.trans s3;have ek:=(rS.one o' (d.wr_out F.cl F'.cl o)).1;subst ek;have ep:=c.std_one sd' (c.wr_std sd F.cl.sh ix.i.ro);subst ep;have gg:=d.gg F'.cl ix'.i io'.i;have sm:=(d.shE F'.cl io'.i).2;have kl:=o.le;have dn:=λx hx=>let ⟨a,b⟩:=CS _ (yD c.K _ _ ix'.i.ro io'.i.ro) sm (GP c.K _ _ ix'.i.ro io'.i.ro gg.ok gg.gx) x hx;(c.K.fitw a b).1;have dw:∀x∈wys [w0,w1,w2,w3,w4,w5] B (wr w4 w5 X) k',x.depth≤40:=λx hx=>by
  obtain⟨i,hi,rfl⟩:=aL.mp hx;rw[fJ]at hi;have f:=wL c.b c.G c.K (zW c.b c.G c.K F'.cl.sh i);exact(c.K.fitw f.wy (by rw[f.sr];exact d.hsm F'.cl i `l)).1
 have eb:(xs.map (wr w4 w5)).map (rq B)=xs.map (rq B):=by
  rw[bh];refine c7 λx _=>?_;show rq B (wr w4 w5 x)=_;rw[rq,IT c rfl,IT c rfl];rfl
 have wq:=c.wr_quiets (pV B xs os) (By _ (yD c.K _ _ ix.i.ro io.i.ro));have wd:=c.wr_down xs os ix.i.ro io.i.ro;have we:=c.wr_end os (X:=X);have ww:=c.wr_wys F.cl.sh k';have wo:((hh [w0,w1,w2,w3,w4,w5] B (wr w4 w5 X) k').op B []).isEmpty=((hh [w0,w1,w2,w3,w4,w5] B X k').op B []).isEmpty:=by
  rw[c.wr_hh F.cl.sh,c.wr_op,List.isEmpty_map]
 rw[qc,ww]at fq2';rw[ww]at dw;rw[wd]at fq' dn;rw[we]at sm;rw[eb]at fd';rw[wd,we,wq,wo,TU (xs:=xs) (tB sm).2 (tB F'.cl.sm).2 dn dw fq' (sb _ _ f1) ff' (sb _ _ f10) fd' (sb _ _ fd) fq2' (sb _ _ f2)];exact h _
end
def RR (ns:List Int) (hl:ns.length≤63):yd 200 [.cM ns] (λ_=>none) (λw _=>w= .bl true) (λ_ _=>False):=by
 rw[show(200:Nat)=199+1 from rfl,yd,u0];refine⟨rfl,?_⟩;refine Wq λS1 aw at' ab w0 w1 w2 w3 w4 w5 tt B g d fw fb=>?_;refine Ss d fw fb λS2 X F F' fw fb=>P_ d F.cl fb fw λS3 l6 l7 xs os ix io fw fb f6 f7=>Tu ?_;rw[Ma];ext;refine d.ok_told F ix io fb f6 f7 λS4 v s4 ⟨q,f,bd,q2,ps,k,ev,fq,sd,pl,ff,fd,o,fq2⟩=>?_;subst ev;have nx:=ix.l;have kl:=o.le;have k2:(if g then 1 else 2)≤2:=by split<;>decide
 rw[qc]at fq2
 try ext
 refine zDv ff pl.2 `l λl10 h10=>?_;have s5:Sub S4 (bQ S4 l10 (.bJ ((ps.map (1:: ·)).map mZ))):= .bQ .refl h10;have f10:bQ S4 l10 (.bJ ((ps.map (1:: ·)).map mZ)) l10=aa (.bJ ((ps.map (1:: ·)).map mZ)):=nv;generalize bQ S4 l10 (.bJ ((ps.map (1:: ·)).map mZ))=S5 at s5 f10⊢;refine RT (s5 _ _ (s4 _ _ fw)) (s5 _ _ fq) (s5 _ _ fq2) (by rw[AB];lia) (by rw[Ol];lia) λS6 m1 m2 s6 g1 g2=>?_;have s46:=s5.trans s6;have s36:=s4.trans s46;exact QR d F F' ix io (s36 _ _ fw) (s36 _ _ fb) (s36 _ _ f6) (s36 _ _ f7) sd o g1 (s6 _ _ f10) (s46 _ _ fd) g2 λS'=>⟨_, .refl,rfl⟩
end L2
end
end
section
namespace K54
open PySem L2 PyProof.Rows
noncomputable def top (i:Nat):bi:=PySem.Challenge.pw_turnweave_k54_whole_within_a_shape.main.body.getD i (.Pass ⟨0,0,0,0⟩)
noncomputable def uA:List En:=[⟨"parts_of",top 9,["t"],1,yq⟩,⟨"parts_of_all",top 10,["things", "found", "thing"],1,De⟩,⟨"is_small",top 11,["t", "heavy", "deep", "level"],1,Ch⟩,⟨"gather_places",top 13,["t", "place", "found", "number", "inner"],3,vY⟩,⟨"places",top 12,["t", "found"],1,CL⟩,⟨"numbered_part",top 15,["t", "number", "parts"],2,Bn⟩,⟨"part",top 14,["t", "place", "thing", "number"],2,yA⟩,⟨"blank_places",top 17,["side"],1,wW⟩,⟨"blanks",top 18,["side"],1,yO⟩,⟨"places_of_blank",top 19,["side", "number"],2,BR⟩,⟨"filled",top 20,["side", "things"],2,vv⟩,⟨"have_one_top",top 23,["one", "other"],2,Bp⟩,⟨"gather_matched",top 22,["left", "t", "things", "inner", "thing"],3,vK⟩,⟨"matched",top 21,["left", "t", "things"],2,vd⟩,⟨"are_small_letters",top 27,["text"],1,CI⟩,⟨"is_sign",top 26,["text"],1,Dh⟩,⟨"turning_of",top 31,["book", "title", "turning"],2,tj⟩,⟨"is_quiet",top 33,["way"],1,AM⟩,⟨"only_small",top 35,["shape"],1,AX⟩,⟨"with_sides",top 36,["book", "way", "side", "parts", "turning"],3,z_⟩,⟨"goal",top 34,["book", "way"],2,xl⟩,⟨"part_places",top 37,["book", "way", "turning"],2,zg⟩,⟨"open_turning",top 41,["book", "shape", "turning"],2,zS⟩,⟨"gather_open",top 40,["book", "shape", "place", "found", "turning", "number", "inner"],4,yx⟩,⟨"open_uses",top 39,["book", "shape", "found"],2,uB⟩,⟨"places_of",top 42,["pairs"],1,xT⟩,⟨"turned_top",top 47,["book", "shape", "turning"],2,Bq⟩,⟨"way_within",top 46,["book", "shape", "place", "wanted", "top", "parts", "spot", "inner"],4,uR⟩,⟨"way_with",top 45,["book", "shape", "places"],3,xZ⟩,⟨"way_of",top 43,["book", "shape", "places", "known", "place"],3,AV⟩,⟨"full_way",top 44,["book", "shape"],2,C3⟩,⟨"moved",top 49,["book", "way", "other", "first", "second", "mine", "yours", "parts"],3,ui⟩,⟨"end",top 51,["book", "road"],2,Bk⟩,⟨"check_goals",top 54,["book", "ways", "way"],2,vL⟩,⟨"moved_along",top 53,["book", "way", "ways", "line", "over", "way_on"],3,yn⟩,⟨"grid",top 52,["book", "road", "other", "downs", "row", "overs", "way", "line"],3,z9⟩,⟨"last_downs",top 57,["downs_and_overs"],1,zD⟩,⟨"road_behind",top 55,["book", "road", "other", "ways"],3,Ab⟩,⟨"are_quiet",top 58,["ways"],1,wA⟩,⟨"within",top 56,["book", "road", "other"],3,Cq⟩,⟨"rounds",top 60,["book", "shape", "limit", "ways", "here", "way"],3,C2⟩,⟨"fewest",top 62,["book", "way", "turning", "kept"],2,tI⟩,⟨"most",top 63,["book", "way", "turning", "kept"],2,t7⟩,⟨"left_below",top 71,["book", "way", "place", "turning", "found", "number", "spot", "rests", "before"],4,(λr=>C_ (rR (r - 1)) r)⟩,⟨"still_at",top 69,["book", "way", "spots", "found", "place"],3,yt⟩,⟨"is_done",top 68,["book", "place", "ways", "left", "way"],3,B5⟩,⟨"first_place",top 67,["book", "road", "place"],2,Bs⟩,⟨"standard",top 66,["book", "road", "row", "left", "place"],2,zk⟩,⟨"_law_cell",top 73,["script", "k"],2,tT⟩,⟨"_law_words",top 74,["one", "two", "great", "signs", "rest", "base", "k", "at", "words", "word"],3,Au⟩,⟨"_law_count",top 75,["side"],1,vp⟩,⟨"_law_filled",top 76,["side", "things"],2,w9⟩,⟨"_law_lefts",top 77,["way", "head", "c", "d"],4,Bz⟩,⟨"_law_rights",top 78,["many", "w", "grows", "some"],3,Cd⟩,⟨"_law_book",top 79,["script", "k", "w", "titles", "grows", "book", "j", "lefts", "n", "left", "some", "draw"],5,Dj⟩,⟨"_law_plan",top 80,["cells", "book", "w", "room", "stack", "spent", "cell", "way", "need", "node", "k", "at"],4,CV⟩,⟨"_law_way",top 81,["plan", "book", "by", "k", "bits", "head", "parts", "ways"],3,zG⟩,⟨"_law_made",top 82,["book", "way", "which", "parts", "turning"],3,A5⟩,⟨"_law_places",top 83,["t", "found", "i", "one"],1,vD⟩,⟨"_law_at",top 84,["t", "place", "i"],2,C4⟩,⟨"_law_stands",top 85,["left", "shape"],2,xR⟩,⟨"_law_open",top 86,["book", "shape", "found", "place", "turning"],2,zc⟩,⟨"_law_road",top 87,["script", "book", "shape", "k", "many", "ways", "here", "j", "known", "cell", "some"],5,yy⟩,⟨"_law_put",top 88,["t", "w"],2,zb⟩,⟨"_law_road_put",top 89,["road", "w"],2,xt⟩,⟨"_law_told",top 90,["book", "road", "other", "limit", "left", "turned", "bounds"],4,zN⟩,⟨"law",top 91,["script", "w", "titles", "grows", "book", "shape", "road", "other", "limit", "told", "row", "due"],1,yd⟩]
noncomputable def Ct:List Em:=[]
noncomputable def ox:En:=⟨"left_of_use",top 70,["book", "way", "place", "turning", "number"],3,rR⟩
noncomputable def tab:List En:=[ox]++uA
noncomputable def mt:List Em:=Ct
noncomputable def Gw:List (ah×W):=[("MOST_HEAVY", .int 400),("MOST_DEEP", .int 40),("MOST_LETTERS", .int 8),("RIGHT", .int 2),("LEFT", .int 1),("MOST_PLACES", .int 60)]
noncomputable def ET:List (ah×ah):=[]
noncomputable def hns:List ((Nat×Nat)×List ah):=[((55,11),["place", "side"]),((57,11),["place", "side"]),((59,11),["place", "number", "side"]),((63,30),["inner", "things"]),((86,15),["letter"]),((97,35),["inner"]),((105,12),["inner", "book", "side"]),((113,15),["number"]),((132,11),["pair"]),((142,44),["place"]),((162,12),["inner", "outer", "book"]),((182,14),["over", "down", "book"]),((202,11),["line"]),((204,15),["way"]),((218,19),["inner", "book"]),((220,19),["number", "inner", "book", "kept"]),((224,19),["inner", "book"]),((226,19),["number", "inner", "book", "kept"]),((261,11),["rest", "number"]),((268,29),["rest", "before"]),((285,23),["j", "signs", "base", "k", "at"]),((295,15),["one"]),((299,28),["one", "things"]),((360,11),["one", "book", "by"]),((367,12),["one", "book", "which"]),((376,28),["place", "i"]),((387,15),["one", "other"]),((411,34),["way", "w"]),((415,13),["way", "book"]),((427,10),["place"])]
noncomputable def tb:Tb:=⟨λ_=>none,λx=>Gw.lookup x,["all", "dict", "enumerate", "int", "isinstance", "len", "list", "max", "min", "range", "sum", "tuple", "zip"],["Apart", "NoPlace", "NoUse", "TooGreat"],[],λp=>(hns.lookup (p.line,p.col)).getD [],λx=>(["there", "wanted"]:List ah).contains x,λx=>x == ("open_uses" :ah),λx=>ET.lookup x,λ_=>none,λ_=>none⟩
def SF:(tab++mt.map Em.e).all En.ok=true:=by decide +kernel
def UM (kV doc pm:aj) (an:Option ai) (cdv ct a b c d e' f:aj):(tab.map λe=>e.bd kV doc pm an cdv ct [a,b,c,d,e',f])=tab.map λe=>pure (e.ps.zip [a,b,c,d,e',f]):=by kernel_rfl
def ZU (kV doc pm:aj) (an:Option ai) (cdv ct a b c d e' f:aj):(mt.map λy=>y.e.bq y.q kV doc pm an cdv ct [a,b,c,d,e',f])=mt.map λy=>pure (y.e.ps.zip [a,b,c,d,e',f]):=by kernel_rfl
def Rh:((tab++mt.map Em.e).map λe=>e.c 0)=(tab++mt.map Em.e).map λ_=>nc:=by kernel_rfl
def LJ (r:Nat):((uA++Ct.map Em.e).map λe=>e.c (r+1))=(uA++Ct.map Em.e).map λe=>e.rd { tb with fn:=lkT tab r,me:=yE mt r,mi:=λ_=>none }:=by kernel_rfl
def zji (r:Nat):rR (r+2)=ox.rd { tb with fn:=λx=>if x= "left_of_use" then aa (rR r) else lkT tab (r+1) x,me:=yE mt (r+1),mi:=GN mt r }:=by kernel_rfl
def Vh (r:Nat) (e:En) (he:e∈tab++mt.map Em.e):BX tab mt tb r e:=by
 obtain he |he:=bu.mp he
 ·obtain rfl |he:=aB.mp he
  ·cases r with
   |zero=>exact .inl rfl
   |succ r=>exact .inr ⟨_,_,_,Xg (tab:=tab) (e:=ox) (aI) rfl rfl,zji r⟩
  exact PM r (LJ r) e (eJ _ he)
 ·exact PM r (LJ r) e (cc _ he)
noncomputable def vV {l:gY}{w:aQ}{K:am}{h:aF}{mg:ah→Option aj}{fa:ai}(X:K.In h) (G:h.Ns aY mg) (hfa:mg "law" =aa (.ref fa)) (df:wf K tab) (bl:vZ K tb.bl) (gl:w6 K Gw) (xs:vS K tb.xs) (ex:wH K tb.ex) (dm:wR K mt) (kl:wP K []) (nf:wS K ET):=
 ZH (l:=l) (w:=w) (e0:=tab.getLast (by decide)) (cl:=yd) (room:=200) X G hfa (List.getLast_mem _) rfl rfl rfl SF UM ZU Rh Vh rfl rfl (by decide +kernel) (by decide +kernel) (by decide +kernel) df bl gl xs ex dm kl nf
def GY{l:gY}{q:bb}{loose:List ah}{XP:(ah→Option aj)→aF→Prop}{YP:aQ→aF→Prop}{d:DefRec}{K:Params→am}(hn:l.most=aa 63) (hdf:d.params.defaults=[])
  (hY:∀(w:aQ) (h:aF),YP w h→(K w.params).In h)
  (F:∀(w:aQ) (mg:ah→Option aj) (fa:ai) (h:aF),(K w.params).In h→h.Ns aY mg→mg d.name=aa (.ref fa)→
   ∃fd:c6,(∀(s:aq) (u:aj),fo s fd ⟨[u],[]⟩ [("script",u)])∧ ∀base:aF,(K w.params).In base→base.Ns aY mg→pi l.prog w (K w.params) mg base (sC l.prog w) 200 fa fd ["script"] (sx (K w.params) (yd 200))) :
  mD q loose XP YP l.row.toRowW d [] (λf vs=>jP f vs):=
 L2.Sy (n:=63) (k:=200) (x:= "script") (CX:=λw=>sC l.prog w) (sp:=λw=>sx (K w.params) (yd 200)) hn (by decide) hdf ⟨rfl,by decide,by decide⟩ hY F (λw H a ns hl hO hS=>Xn hO hS (RR ns hl)) λ_ _ _ _ _ ⟨_,_,_,_,_,_,_,_,_,z⟩=>z
end K54
structure PySem.W.Fast:Prop where
 (tw12233754678826974201 tw9966921065003632536 tw14336595801020611716 tw964932457911982394 tw1841239676103384709 tw12809898562323920156 tw10862394346907784076 tw9061592964071808964 tw9851477026187892246 tw13350899891577628190 tw10968668104012450785 tw12163632387962460117 tw8464370844931767044 tw3193974394219445216 tw1308043102323889858 tw8344107119824341895 tw450240482585196877 tw15504637880523502124 tw3206222247032253092 tw11149241940341025906 tw13313766135948235095 tw10327804993304224245 tw209448311826915599 tw13722614778747958168 tw9789559163930044733 tw5812856912696668204 tw8415932214271437523 tw3479868607114732500 tw4738673688283932503 tw3805849046824277889 tw15599041509514201857 tw5443099186261758552 tw11048213221124525016 tw10633299993319449267 tw1941398913246903831 tw17588242924165264481 tw12221276010466457240 tw4659292823482394049 tw6178507463535656222 tw4368152369049139465 tw4742832112582541594 tw4530462659853041208 tw9493498223098026009 tw5762080934368700188 tw11790885589820760411 tw13721706692554414205 tw2374836245545421343 tw15867348051676748592 tw9849186299451951517 tw16528828686697370837 tw12199859061281408514 tw12289383928393905208 tw5178261560167576807 tw6978881210643841606 tw2249589379706191051 tw655381992136795209 tw182615165243483729 tw6999923211713282942 tw6856674871218838520 tw2911550035215505876 tw7593820659931170911 tw3247295489346419043 tw5408125854113311063 tw13952975300619825941 tw18347841284582824945 tw11701424071815775840 tw6073295810248073938 tw566168042793831930 tw6429372633409486652 tw1476726533589477103 tw10762125266016729317 tw17153432441884555820 tw16701805036793717946 tw1384802299640407635 tw13766686261063998534 tw5489901432066403103 tw6073690608654794449 tw8717208642704895660 tw11981029183083327812 tw14345897913444956587 tw16811288336660055458 tw12200958963787452568 tw10711628680900132021 tw13600731638848440965 tw14779044974489214046 tw14151182258971523380 tw13995827369889283014 tw1332590573990115500 tw2402835519720718140 tw5942212057006694540 tw17639649189364129123 tw13465695223271795029 tw7378925434429786657 tw5684724909855393792 tw15407296435566722274 tw15971698150201227733 tw1419858646751468436 tw13652285195867014175 tw226988227304956196 tw7584022039390844054 tw17644923077280873943 tw3516951054412446412 tw14963234925132553775 tw8584745311057978418 tw2859013415263714860 tw4305497788454573626 tw11923844414885639372 tw7204634800853662970 tw4360316627936330439 tw10735897210211218216 tw1199156073562517503 tw6662162867468128427 tw3189721994741692952 tw16138064491530117123 tw2640677623444880843 tw5760838272522590779 tw11522223231384951613 tw9806048938059171702 tw8963898218169094416 tw3283766029622481092 tw9645062973634481228 tw738083360272378638 tw1348259312504198338 tw7517239989111238125 tw10142066469556704174 tw535479278691721535 tw10951548927693602585 tw4681576417786457374 tw10754171336304399973 tw7023228392027189066 tw12193529118653878753 tw14865515446462485862 tw2164173306356567097 tw13390262474592672385 tw15365993757075590097 tw5766355826389627643 tw3352460126118725225 tw12208374080630290617 tw12144890767469798702 tw2503922724608989472 tw7075495387427752874 tw2284728054413840805 tw6477193769932485172 tw9008930362972122035 tw10904392796825406764 tw9194158326247624790 tw15509407705171021802 tw6923080807854433008 tw17612876047477747760 tw18088753273294385901 tw5743440658193904755 tw7790118965331933899 tw14608334114927113624 tw7996310740157145916 tw2236913759000605847 tw10701726440903149002 tw16733781275487523155 tw1151240034598090266 tw5934315500309818119 tw11952268420572271090 tw44257897687254588 tw7661962164245997947 tw9467923336678785275 tw15827251541589758885 tw9864433429253581321 tw4540553525228262948 tw8658458718798563879 tw14389403356656879438 tw7281702653746809076 tw14807033073453465759 tw13142481883016330909 tw9438880334901865414 tw13625200792937416151 tw11486516257321956242 tw7535307441566904797:True)
open PySem PySem.W PyProof.Rows
set_option maxRecDepth 100000 in
set_option maxHeartbeats 0 in
theorem PySem.Challenge.cw_turnweave_k54_whole_within_a_shape_holds : PySem.Challenge.rw_turnweave_k54_whole_within_a_shape.Holds := by
 w_on;o_law;k_head;(case hw=>w_witness2)
 k_fill
 refine K54.GY (l:=PySem.Challenge.rw_turnweave_k54_whole_within_a_shape) rfl rfl (λw h Y=>PySem.W.kIn_of Y) ?F
 case F=>
  intro w mg fa h KX G hmg
  refine' K54.vV KX G hmg ?_ ?_ ?_ ?_ ?_ ?_ ?_ ?_<;>dsimp only[L2.wf,L2.vZ,L2.w6,L2.vS,L2.wH,L2.wR,L2.wP,L2.wS,K54.tab,K54.uA,K54.mt,K54.Ct,K54.ox,K54.Gw,K54.ET,K54.tb,List.append,b6,aM]
  all_goals (repeat' first |exact dQ |refine And.intro ?_ ?_ |refine' L2.dfn ?_ ?_ ?_ ?_ |refine' L2.gln ?_ |refine' L2.xch ?_ ?_ ?_ ?_ ?_ ?_ ?_ |refine' L2.exh ?_ ?_ ?_ |refine' L2.dfM ?_ ?_ ?_ ?_ ?_ ?_ |refine' L2.klh ?_ ?_ ?_ ?_ ?_ ?_ ?_ |refine' L2.nfh ?_ ?_)
  all_goals first |k_is |kit_is | (dsimp only[List.map];kit_is) |kts_exm | (delta L2.Cu;k_exc) |skip
end
